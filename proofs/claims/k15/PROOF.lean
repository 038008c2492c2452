import PyProof.Rows.All
import Wide.All
import OpenK.AllK
import Wide.FinOn
import Lean
import PyProof.EqAt
import PyProof.EqKinds
import PyProof.TupleCall
import KE.KDictOf
import PyProof.AttrMissHeap
import KE.KRevIter
import PyProof.DictWalks
import PyProof.MinMaxWalk
import PyProof.SeqI3
import PyProof.WalkInts
import PyProof.ExcInit
import PyProof.InstStoreFacts
import PyProof.DictCompW
import KE.KItemsList
import KE.KEqDict
import PySem.Challenge.RW_errands_k15_layers
set_option Elab.async false
set_option linter.all false
set_option maxRecDepth 100000
set_option maxHeartbeats 0
open PySem renaming wpAny_bind->a7,Value->a9,wpAny_pure->ac,Shared->ae,Addr->ah,wpAny->ao,model->ar,cellsFrom->aC,starEach->aE,wpAny_mono->aO,Program->aS,Expr->a_,World->bn,Heap->bu,Around->bv,foldedSetIterable->bB,compareOp->bG,mainGlobals->bK,wpAny_call_entry->bR,rawInt->b_,wpAny_newObj_type->c6,wpAny_rule->cg,eval->cj,letOwnedTupleGo->cB,wpAny_holding->cE,wpAny_standAt->cF,wpAny_truthy_bool->cL,boot_len->cP,wpAny_callSpecial?_slot->cV,mem_of_lookup->df,wpAny_field->dn,codeAny->dG,Scope->dU,wpAny_seqItems->e7,Stmt->eJ,FuncData->eQ,wpAny_setState_of->eW,swapsWith->fE,wpAny_pyIter_tuple->fN,cLine->fO,pushCells_keeps->gq,scanBound->gx,codeAny_builtin->gy,sysModules->gD,backTo->gE,behindInMarks->gF,wpAny_comprehension_free->gH,binaryOp->gW,wpAny_askSetting->gX,setField->gY,sizeLine_eq->h_,strIterType->i6,bootBuiltins->i8,assign->i9,assignEach->ic,Builtin->ii,wpAny_setField_rec->ij,wpAny_passesOwn->ir,pyNext->iP,wpAny_setField->iQ,standAt->jt,IsPair->jz,wpAny_pyIter_list->j_,NameKind->k7,wpAny_typeOf->k9,newFunctionEnv->ke,isTrue->kO,wpAny_isInstance->kR,attributeBase->lr,plainId_quiet->lu,sliceBounds->lA,compEnvC->lB,theTreesLotGoes->m9,codeAny_mono->mD,pickOrder->nc,wpAny_Call_Name_kw->ni,tupleKind_room_in1->nq,getItem->oo,fits_of_scanBound->oq,wpAny_pyIter_enum->ou,wpAny_attempt->oB,compTurn->qd,noteFrame->qe,Keyword->qJ,codeAny_loop->qL,wpAny_execs_nil->rF,codeAny_of_tree->rG,builtinLookup_eq_fast->rP,pyIter->tq,Result->tw,IsPart->tE,wpAny_noted->tF,SetTable->tG,relayAll->tH,raiseNew->tK,firstArgMember->tL,IsZip->tM,wpAny_updateSeq_pair->tN,callerA->ul,comprehension->uY,wpAny_onRaise->v5,Comprehension->v7,newExc->vA,wpAny_assign_Name->xa,BindsTo->xb,concat_meets->xc,valueAt->xf,wpAny_eqBool_int->yM,wpAny_eqBool_str->yN,tupleKind->yO,noFill_tuple_add->yP,PyData->yR,subscripted->A7,keywordEach->A8,wpAny_of_eq->A9,typeLookup_type->Ah,wpAny_updateSeq->Ai,holding->C0,CellsOk->C2,GenState->Ca,typeLookup->Cd,atKey->Ce,compPost->Cf,isSubtype_type->Cg,isSubtype_stop->Ch,field->Ci,wpAny_letOwnedTupleGo_enum->Cj,seq_tuple_add->F1,call->F3,wpAny_newList->F4,Drawn->Gv,CmpOp->Gw,lastMarks->Gx,bindL->GA,bindC->GB,Walks->GD,seqItems?->GE,Paired->GO,stored->GT,setNext->GU,collect->GV,newSet->GX,wpAny_isTrue_Compare1->Kw,exec_Assign_Name_used->Ky,Model->KJ,wpAny_loadName_local->KL,bindArgs->KM,backToKw->KN,wpAny_alloc->KP,entryFor->KU,unsupported->KW,ZipApart->KY,wpAny_letGo->K_
open PySem.W renaming Frag->a8,kia_one->cm,keepIn->eX,fnOf->fF,nsMap_none_of_in->fP,cellsFrom_some->gG,nsIn->gI,mroIn->gR,findIn->kP,codeIn->kQ,kitOne->oz,mg_of->qx,isNs_of_in->qO,methodObj->rL,kitx_list->rM,instObj->uG,OpenLaw->uH,lookIn->vw,clsIn->xl,kitx_tuple->Cb,codeRec_of->Cc,specialIn->DF,kitx_dict->DG,plainGet->EZ,takesIn->Gy,typeIn->GY,nsOkIn->GZ,WalkO->Kx,subIn->Kz
open PySem.Heap renaming get?_push_of_some->aa,lt_size->ap,get?_push_size->aw,size_push->bF,SameBut->bT,get?_update_other->eV,get?_update_self->i0,size_update->v8,IsTuple->C5,get?_push_ne->Hd
open List renaming mem_append_right->af,mem_cons_of_mem->ai,getElem?_set_ne->aj,mem_cons_self->al,length_map->au,map_cons->az,length_append->aB,getElem?_set_self->aG,size_toArray->aH,mem_cons->aJ,not_mem_nil->aM,getElem?_append_right->aR,getElem?_map->aW,getElem?_append_left->bf,length_cons->bp,getElem?_eq_getElem->bq,getElem?_replicate->bw,append_nil->bC,mem_append_left->bP,range->bY,mem_singleton->bZ,getElem?_eq_none->ca,map_congr_left->cb,map_map->cc,mem_append->cf,lookup_cons->cy,length_replicate->cA,append_assoc->cC,map_append->cS,all_eq_true->cY,nodup_cons->dq,mem_of_getElem?->dC,map_nil->dQ,extract_eq_drop_take'->dR,find?_cons->dY,length_nil->dZ,length_singleton->eg,any_cons->eF,getD_eq_getElem?_getD->fo,nodup_nil->ft,take_append_drop->fz,pairwise_append->fW,mem_map->iG,sublist_append_left->j0,forIn_cons->j8,mem_filter->ja,zip_cons_cons->jf,pairwise_cons->jg,getElem?_cons_succ->ji,take_of_length_le->ju,mem_iff_getElem?->jO,pairwise_reverse->jP,length_filter_le->jQ,getElem_mem->jY,mem_reverse->jZ,all_cons->kc,nil_append->kH,filterMap_cons->kN,drop_eq_getElem_cons->mx,getElem?_eq_some_iff->my,pairwise_iff_getElem->mz,nodup_append->mF,length_range->mG,reverse_perm->mI,map_id->mJ,flatten_cons->mK,foldl_cons->oE,length_zip->oF,replicate->qr,length->qt,forIn_nil->qv,reverse_append->rH,length_pos_iff->rJ,getElem?_drop->t5,set_cons_zero->tf,set_cons_succ->tj,map->uq,all_map->ur,length_take->uW,length_drop->uX,any_eq_true->uZ,zipIdx_cons->u_,cons_append->v9,lookup->vz,of_mem_zip->wW,length_eraseIdx_of_lt->xM,drop_drop->xN,getElem?_cons_zero->Aj,pairwise_singleton->Ak,length_eq_zero_iff->Al,drop_of_length_le->C4,reverse_singleton->C7,getElem_of_mem->F5,getElem?_range->F6,replicate_succ->Fa,replicate_zero->Fb,lookup_append->GC,map_inj_right->GG,getElem?_take->GI,filter_append->GJ,any_eq_false->GQ,take_add_one->G_,mapM_toArray->Hb,zip_nil_left->Hc,flatMap_cons->Hf,getElem_inj->Kv,countP_cons->KA,map_snd_zip->KB,zipIdx_nil->KZ
open Nat renaming le_refl->am,ne_of_lt->aA,lt_of_lt_of_le->aD,lt_irrefl->aU,le_of_lt->bH,le_trans->bM,zero_le->ck,lt_or_ge->cn,lt_succ_of_lt->cG,lt_succ_self->cZ,ne_of_gt->dv,lt_trans->dw,zero_add->eY,le_succ->fh,eq_zero_or_pos->fw,lt_succ_of_le->jy,min_eq_left->kS,lt_asymm->lC,lt_of_le_of_lt->m8,min_le_right->vy,add_zero->Co,min_self->Cq,add_lt_add_right->F7,le_of_not_lt->KO,le_add_right->L0,reduceLeDiff->L8,reduceEqDiff->L9
open PyProof.Rows renaming wpS_bind->ax,arrOf->aI,wpS_pure->aK,pendingOf->bD,boot_tuple->bI,Keyed->bX,wpS_forRange->cw,boot_all->cW,SortSt->dS,wpS_mono->e8,callWith_type1->eI,slot_tuple_getitem->fu,boot_sorted->ip,seqObj->iD,boot_list->iN,wpS_get->lw,SortKind->lE,wpS_modify->nr,AllBare->om,wpS_lift->qf,callWith_builtin1->qu,envOfC->qK,StrsAre->qN,failedOf->tP,mem_zip_self->xm,minRun'->C8,mirror->Cm,subscriptTail->F2,listUpdate_at->F9,IsTup->Gu,subscriptTail_builtinR->GR,IntsAre->GS,seqEpoch_at->L6
open PySem.PyData renaming str->aF,eqv->b9,bool->cK,canLayAll0->dO,tuple->ev,canLay0->fj,int->fk,list->j9,eqvAll->mB,depthAll->og
open Array renaming length_toList->aL,getElem?_toList->aY,toList_append->bU,getElem?_eq_none->eT,getElem?_eq_some_iff->fm,getElem?_eq_getElem->fG,toList_extract->fQ,getElem?_extract->gP,toList_push->i3,toList_reverse->qg,all_toList->uJ,toList_inj->uK,getD_eq_getD_getElem?->wZ,toArray_toList->Ck,append_assoc->EX,find?_toList->EY,size_extract->F8,size_append->GH,toList_zip->He,size_map->L7
open Bool renaming and_eq_true->aT,false_eq_true->ba,false_ne_true->bj,not_true->hZ,not_false->iz,or_eq_true->oC,beq_eq_decide_eq->pE,noConfusion->v6,eq_iff_iff->wX,false_and->xL,and_self->Ac,true_and->Ad
open PySem.Value renaming ref->bt,none->eM,type->iq,str->iC,int->jN,isStrOf->rE,bool->EW
open Option.some renaming inj->bE,injEq->Ab
open PySem.NameKind renaming free->bV,cell->dH,«local»->oy
open PySem.Builtin.SmallTypes renaming nextOf->c7,ownedTupleIsFree->el,ownedTupleHandOut->lJ
open ForInStep renaming yield->c9
open Option renaming map_some->cO,getD_none->gn,getD_some->jG,isSome_map->t4,isSome_some->DH
open PySem.Heap.SameBut renaming update->cQ
open Ne renaming symm->cR
open Or renaming inr->dD,inl->fV
open Int renaming toNat_of_nonneg->dW,toNat_natCast->jx,emod_lt_of_pos->tQ,emod_nonneg->xn,reduceLT->Cr
open List.Sublist renaming refl->en
open PySem.Around renaming under_plainId->eG
open PySem.Obj renaming mapFields->fi,mapSeq->fv,putSet->tJ,data_mapFields->GW
open PySem.AutoSeq1 renaming wpAny_loadPart'->fD
open PySem.Paired renaming length->gU
open PySem.Builtin.Slice renaming slicePlaces->g_,sliceAdjust->k8,sliceApplied->rN
open PyProof.Rows.F renaming plain_set_update_loop->hG,entry_set_update_loop->n8
open PySem.SetTable renaming grown->i4,below->i5,orStandIn->C3
open PySem.Builtin.Tuple renaming tupleExact->ig,tupleItemsOf->rO
open False renaming elim->iu
open PySem.Str renaming ofString->iH
open PySem.F renaming slot_tuple_iterator_next->iI,args_tuple_add_2->m7,entry_tuple_add->mE,plainAttrs_list->mH,slot_tuple_add->nj,slot_zip_next->qw,slot_tuple_lt->qy,slot_list_append->xj,type_list_append->xk,slot_dict_items->xO,args_tuple_iterator_next_1->yQ,entry_tuple_iterator_next->Aa,slot_enumerate_next->GF
open True renaming intro->jd
open And renaming intro->kf
open PySem.Builtin.List renaming listTooLong->kG,listExtendWith->rQ,listSameRef->uo
open PySem.Calls renaming call_function_entry->ma,Name_function_global->x0,callWith_builtin->Ag,spliced_cons->E_,spliced_nil->Gz
open Sum renaming inr->n6,inl->uF
open List.Perm renaming trans->ng,of_eq->DJ
open List.Pairwise renaming nil->oA
open PySem.Builtin.Frozenset renaming sizeOf->qM,newClass->KQ,updateFrom->KS,oneOther->L3,addrOf->L4
open PySem.PassesOwn renaming never->tO
open PySem.Heap.Ns renaming new->um
open PySem.Builtin.Dict renaming updateFrom->uI
open List.cons renaming inj->vB
open PySem.Heap.FunFrames renaming mem->wY
open PySem.Walks renaming list->xg
open PySem.pickOrder renaming go->xh
open PySem.SetTable.below renaming go->xi
open PySem.SeqAt.EqAt renaming int_str->A4,str_int->A5
open PyProof.Rows.IsTup renaming new->A6
open PySem.Heap.DictOf renaming new->C1
open PySem.Shared renaming heap->C6,TypeIs->KR
open PySem.Value.type renaming inj->DI
open Eq renaming refl->L5
section
namespace L2
open PySem PySem.Spec PyProof.Rows
abbrev eR:=Sum Int Str
def ut:eR->a9->Bool
 |.inl k,v=>Value.isInt k v
 |.inr x,v=>rE x v
def RK (w:bn):eR->Int
 |.inl k=>hashInt k
 |.inr x=>hashStr w x
theorem eA:∀ {k:eR}{v:a9},ut k v=true->(∃ i t,k=uF i/\v=jN i t)\/(∃ x t,k=n6 x/\v=iC x t)
 |.inl i,v,h=>by
  obtain ⟨t,e⟩:=Value.isInt_shape (k:=i) (v:=v) h
  exact .inl ⟨i,t,rfl,e⟩
 |.inr x,v,h=>by
  obtain ⟨t,e⟩:=Value.isStrOf_shape (x:=x) (v:=v) h
  exact .inr ⟨x,t,rfl,e⟩
theorem Fc (i:Int) (t:Tok):ut (.inl i) (.int i t)=true:=by simp [ut,Value.isInt]
theorem Fd (x:Str) (t:Tok):ut (.inr x) (.str x t)=true:=by simp [ut,rE]
theorem NL (a b:Int):decide ((uF a:eR)=uF b)=(a==b):=by
 by_cases e:a=b
 ·subst e;simp
 ·have h:¬ (uF a:eR)=uF b:=fun q=>e (Sum.inl.inj q)
  rw [decide_eq_false h]
  exact (beq_eq_false_iff_ne.mpr e).symm
theorem NM (a b:Str):decide ((n6 a:eR)=n6 b)=decide (a=b):=by
 by_cases e:a=b
 ·subst e;simp
 ·have h:¬ (n6 a:eR)=n6 b:=fun q=>e (Sum.inr.inj q)
  rw [decide_eq_false h,decide_eq_false e]
theorem NN (a:Int) (b:Str):decide ((uF a:eR)=n6 b)=false:=decide_eq_false (fun q=>nomatch q)
theorem NO (a:Str) (b:Int):decide ((n6 a:eR)=uF b)=false:=decide_eq_false (fun q=>nomatch q)
def cq (prog:aS) (w:bn):PySem.KeyKind prog w eR where
 is:=ut
 hash:=RK w
 inj:=fun v a b ha hb=>by
  rcases eA ha with ⟨i,t,rfl,rfl⟩|⟨x,t,rfl,rfl⟩
  ·rcases eA hb with ⟨j,u,rfl,e⟩|⟨y,u,rfl,e⟩
   ·injection e with e1 _;rw [e1]
   ·exact nomatch e
  ·rcases eA hb with ⟨j,u,rfl,e⟩|⟨y,u,rfl,e⟩
   ·exact nomatch e
   ·injection e with e1 _;rw [e1]
 byValue:=fun k v h=>by
  rcases eA h with ⟨i,t,rfl,rfl⟩|⟨x,t,rfl,rfl⟩<;>rfl
 pyHash:=fun hv h=>by
  rcases eA hv with ⟨i,t,rfl,rfl⟩|⟨x,t,rfl,rfl⟩
  ·exact wpAny_pyHash_int h
  ·exact wpAny_pyHash_str h
 eqBool:=fun hu hv h=>by
  rcases eA hu with ⟨i,t,rfl,rfl⟩|⟨x,t,rfl,rfl⟩
  ·rcases eA hv with ⟨j,u,rfl,rfl⟩|⟨y,u,rfl,rfl⟩
   ·rw [NL] at h;exact yM h
   ·rw [NN] at h;exact A4 i t y u _ _ _ _ h
  ·rcases eA hv with ⟨j,u,rfl,rfl⟩|⟨y,u,rfl,rfl⟩
   ·rw [NO] at h;exact A5 x t j u _ _ _ _ h
   ·rw [NM] at h;exact yN h
 «strs»:=fun k x t v h=>by
  rcases eA h with ⟨i,u,rfl,e⟩|⟨y,u,rfl,e⟩
  ·exact nomatch e
  ·injection e with e1 _
   subst e1
   cases v<;>rfl
theorem Am (prog:aS) (w:bn) (i:Int) (t:Tok):(cq prog w).is (.inl i) (.int i t)=true:=Fc i t
theorem An (prog:aS) (w:bn) (x:Str) (t:Tok):(cq prog w).is (.inr x) (.str x t)=true:=Fd x t
end L2
namespace L2
open PySem PySem.Spec PyProof.Rows
inductive V where
 |non|bl (b:Bool)|int (i:Int)|str (x:Str)|byt (b:Array UInt8)|flt (b:UInt64)|ref (a:ah)|ty (n:String)
 deriving DecidableEq
def cX:V->a9->Prop
 |.non,u=>u=eM
 |.bl b,u=>u=EW b
 |.int i,u=>∃ t,u=jN i t
 |.str x,u=>∃ t,u=iC x t
 |.byt b,u=>∃ t,u=Value.bytes b t
 |.flt b,u=>∃ t,u=Value.float b t
 |.ref a,u=>u=bt a
 |.ty n,u=>u=iq n
abbrev dg:List V->List a9->Prop:=GO cX
theorem dg.length {xs:List V}{us:List a9} (r:dg xs us):xs.length=us.length:=gU r
theorem dg.get {xs:List V}{us:List a9} (h:dg xs us):∀ {i:Nat}{x:V},xs[i]?=some x->∃ u,us[i]?=some u/\cX x u:=by
 induction h with
 |nil=>intro i x e;cases e
 |cons r t ih =>
  intro i x e
  cases i with
  |zero=>cases e;exact ⟨_,rfl,r⟩
  |succ i=>have q:=ih (i:=i) e;exact q
theorem dg.append {xs ys:List V}{us ws:List a9} (h:dg xs us) (s:dg ys ws):dg (xs++ys) (us++ws):=by
 induction h with
 |nil=>exact s
 |cons r t ih=>exact .cons r ih
theorem dg.take:∀ {xs:List V}{us:List a9} (n:Nat),dg xs us->dg (xs.take n) (us.take n)
 |_,_,0,_=>.nil
 |_,_,_+1,.nil=>.nil
 |_,_,n+1,.cons r t=>.cons r (dg.take n t)
theorem dg.drop:∀ {xs:List V}{us:List a9} (n:Nat),dg xs us->dg (xs.drop n) (us.drop n)
 |_,_,0,r=>r
 |_,_,_+1,.nil=>.nil
 |_,_,n+1,.cons _ t=>dg.drop n t
def vC:Option V->Option a9->Prop
 |some v,some u=>cX v u
 |none,none=>True
 |_,_=>False
def KV {κ:Type}:List (κ×V)->List (κ×a9)->Prop:=GO fun (p:κ×V) (q:κ×a9)=>p.1=q.1/\cX p.2 q.2
def kV:eR->V
 |.inl i=>.int i
 |.inr x=>.str x
inductive HO where
 |lst (xs:List V)
 |tup (xs:List V)
 |dK (kvs:List (eR×V))|dT (kvs:List (List eR×V))
 |set (S:Int->Bool) (n:Nat)
 |ins (C dx:ah) (fs:List (Str×V))
 |own (x:ah)
 |xd (fs:List (Str×V))
 |met (f x:ah)
 |rng (lo hi:Int)
 |frz (o:Obj) (u:HO)
 |tbl (ps:Array a9)
 |ext (φ:bu->Prop)
abbrev Hp:=ah->Option HO
def upd (H:Hp) (a:ah) (o:HO):Hp:=fun b=>if b=a then some o else H b
theorem bi {H:Hp}{a:ah}{o:HO}:upd H a o a=some o:=by unfold upd;rw [if_pos rfl]
theorem bh {H:Hp}{a b:ah}{o:HO} (h:b≠a):upd H a o b=H b:=by unfold upd;rw [if_neg h]
theorem PK {H:Hp}{a b:ah}{o u:HO} (h:H a=some o) (h':H b=some u) (d:o≠u):a≠b:=by
 intro e;subst e;rw [h] at h';exact d (bE h')
theorem bO {H:Hp}{a b:ah}{o:HO} (h:H a=some o) (h':H b=none):a≠b:=by
 intro e;subst e;rw [h] at h';cases h'
section
variable (P:aS) (w:bn)
def dE (H:Hp) (h:bu) (a:ah):HO->Prop
 |.lst xs=>xs.length<=sizeLine/\∃ (its:List a9) (n:Nat),dg xs its/\h.get? a=some { cls:=.type "list",data:=.seq its.toArray n }
 |.tup xs=>xs.length<=sizeLine/\∃ its:List a9,dg xs its/\Gu h a its.toArray
 |.dK kvs=>kvs.length<=sizeLine/\(a==gD)=false/\∃ vs,KV kvs vs/\h.DictOf (cq P w) a vs
 |.dT kvs=>kvs.length<=sizeLine/\(a==gD)=false/\∃ xs:List (List eR×ah×a9),
   GO (fun (p:List eR×V) (q:List eR×ah×a9)=>p.1=q.1/\H q.2.1=some (.tup (p.1.map kV))/\cX p.2 q.2.2) kvs xs /\
   ∃ o es ep,h.get? a=some o/\o.ExactDict/\o.data=.dict es ep/\es.toList=xs.map (entryOfKey (yO (cq P w)))/\(xs.map (·.1)).Nodup
 |.set S n=>h.SetOf (intKind P w) a S n
 |.ins C dx fs=>H dx=some (.own a)/\fs.length<=1000/\dx≠a/\h.get? a=some (uG C dx) /\
   ∃ mA,h.Ns1 dx mA/\(∀ f,vC (fs.lookup f) (mA f))/\PySem.Within mA (fs.map (·.1))
 |.own _=>∃ o,h.get? a=some o
 |.xd fs=>∃ mA,h.Ns1 a mA/\∀ f,vC (fs.lookup f) (mA f)
 |.rng lo hi=>∃ t u v,h.get? a=some { cls:=.type "range",data:=.fields #[.int lo t,.int hi u,.int 1 v] }
 |.frz o u=>h.get? a=some o/\dE H h a u
 |.tbl ps=>h.get? a=some { cls:=.none,data:=.fields ps }
 |.met f x=>h.get? a=some (rL (.ref f) (.ref x))
 |.ext φ=>φ h/\(∃ o,h.get? a=some o)/\∀ h1 h2:bu,φ h1->(∀ o,h1.get? a=some o->h2.get? a=some o)->φ h2
def oG (H:Hp) (h:bu):Prop:=∀ a o,H a=some o->dE P w H h a o
end
section
variable {P:aS}{w:bn}{H H':Hp}{h h':bu}{a:ah}{o:HO}
theorem dE.lt (x:dE P w H h a o):a<h.objs.size:=by
 cases o with
 |lst xs=>obtain ⟨_,_,_,_,e⟩:=x;exact ap e
 |tup xs=>obtain ⟨_,_,_,p⟩:=x;exact p.lt
 |dK kvs=>obtain ⟨_,_,_,_,o,_,_,e,_⟩:=x;exact ap e
 |dT kvs=>obtain ⟨_,_,_,_,o,_,_,e,_⟩:=x;exact ap e
 |set S n=>obtain ⟨o,_,_,_,e,_⟩:=x;exact ap e
 |ins C dx fs=>obtain ⟨_,_,_,e,_⟩:=x;exact ap e
 |own y=>obtain ⟨_,e⟩:=x;exact ap e
 |xd fs=>obtain ⟨_,⟨_,_,_,e,_⟩,_⟩:=x;exact ap e
 |rng lo hi=>obtain ⟨_,_,_,e⟩:=x;exact ap e
 |frz ob u=>obtain ⟨e,_⟩:=x;exact ap e
 |tbl ps=>exact ap (show h.get? a=some _ from x)
 |met f y=>exact ap (show h.get? a=some _ from x)
 |ext φ=>obtain ⟨_,⟨_,e⟩,_⟩:=x;exact ap e
theorem Paired.mapP {α β:Type}{F G:α->β->Prop}{l₁:List α}{l₂:List β} (h:GO F l₁ l₂) (f:∀ a b,F a b->G a b):GO G l₁ l₂:=by
 induction h with
 |nil=>exact .nil
 |cons r t ih=>exact .cons (f _ _ r) ih
theorem dE.stay (x:dE P w H h a o) (k:∀ b u,(b=a\/H b=some (.own a))->h.get? b=some u->h'.get? b=some u)
  (ho:∀ b,H b=some (.own a)->H' b=some (.own a)) (ht:∀ b xs,H b=some (.tup xs)->H' b=some (.tup xs)):dE P w H' h' a o:=by
 induction o with
 |lst xs=>obtain ⟨z,its,n,r,e⟩:=x;exact ⟨z,its,n,r,k _ _ (.inl rfl) e⟩
 |tup xs=>obtain ⟨z,its,r,ob,e,c⟩:=x;exact ⟨z,its,r,ob,k _ _ (.inl rfl) e,c⟩
 |dK kvs=>obtain ⟨z,y,vs,r,ob,es,ep,e,c⟩:=x;exact ⟨z,y,vs,r,ob,es,ep,k _ _ (.inl rfl) e,c⟩
 |dT kvs =>
  obtain ⟨z,y,xs,r,ob,es,ep,e,c⟩:=x
  exact ⟨z,y,xs,Paired.mapP r fun p q z=>⟨z.1,ht _ _ z.2.1,z.2.2⟩,ob,es,ep,k _ _ (.inl rfl) e,c⟩
 |set S n=>obtain ⟨ob,es,ep,t,e,c⟩:=x;exact ⟨ob,es,ep,t,k _ _ (.inl rfl) e,c⟩
 |ins C dx fs =>
  obtain ⟨d,z,ne,e,mA,⟨od,es,ep,e2,c⟩,r⟩:=x
  exact ⟨ho _ d,z,ne,k _ _ (.inl rfl) e,mA,⟨od,es,ep,k _ _ (.inr d) e2,c⟩,r⟩
 |own y=>obtain ⟨ob,e⟩:=x;exact ⟨ob,k _ _ (.inl rfl) e⟩
 |xd fs=>obtain ⟨mA,⟨od,es,ep,e,c⟩,r⟩:=x;exact ⟨mA,⟨od,es,ep,k _ _ (.inl rfl) e,c⟩,r⟩
 |rng lo hi=>obtain ⟨t,u,v,e⟩:=x;exact ⟨t,u,v,k _ _ (.inl rfl) e⟩
 |frz ob u ih=>obtain ⟨e,q⟩:=x;exact ⟨k _ _ (.inl rfl) e,ih q⟩
 |tbl ps =>
  have e:h.get? a=some { cls:=.none,data:=.fields ps }:=x
  show h'.get? a=some { cls:=.none,data:=.fields ps }
  exact k a _ (.inl rfl) e
 |met f y =>
  have e:h.get? a=some (rL (.ref f) (.ref y)):=x
  show h'.get? a=some (rL (.ref f) (.ref y))
  exact k a _ (.inl rfl) e
 |ext φ=>obtain ⟨p,⟨o,e⟩,st⟩:=x;exact ⟨st _ _ p fun o q=>k _ _ (.inl rfl) q,⟨o,k _ _ (.inl rfl) e⟩,st⟩
theorem oG.lt (x:oG P w H h) (e:H a=some o):a<h.objs.size:=(x a o e).lt
theorem oG.fresh (x:oG P w H h) (e:h.objs.size<=a):H a=none:=by
 cases q:H a with
 |none=>rfl
 |some u=>exact absurd (aD (x.lt q) e) (aU _)
theorem oG.kept (x:oG P w H h) (k:∀ b u,h.get? b=some u->h'.get? b=some u):oG P w H h':=fun a o e =>
 (x a o e).stay (fun b u _ q=>k b u q) (fun _ q=>q) fun _ _ q=>q
theorem oG.laid (x:oG P w H h) (k:∀ b u,h.get? b=some u->h'.get? b=some u) (hp:h.objs.size<=a) (new:dE P w (upd H a o) h' a o):oG P w (upd H a o) h':=fun b u e=>by
 have hn:=x.fresh hp
 by_cases hb:b=a
 ·subst hb;rw [bi] at e;cases e;exact new
 ·rw [bh hb] at e
  exact (x b u e).stay (fun c v _ q=>k c v q) (fun c q=>by rw [bh (bO q hn)];exact q) fun c xs q=>by rw [bh (bO q hn)];exact q
end
def Rd (H:Hp) (a:ah) (u:HO):Prop:=H a=some u\/∃ o,H a=some (.frz o u)
theorem Rd.of {H:Hp}{a:ah}{u:HO} (h:H a=some u):Rd H a u:=.inl h
theorem Rd.ok {P:aS}{w:bn}{H:Hp}{h:bu}{a:ah}{u:HO} (r:Rd H a u) (x:oG P w H h):dE P w H h a u:=by
 rcases r with r|⟨o,r⟩
 ·exact x a u r
 ·obtain ⟨_,q⟩:=x a _ r
  exact q
def PL:Option HO->Prop
 |some (.lst _)=>True
 |some (.dK _)=>True
 |some (.dT _)=>True
 |some (.set _ _)=>True
 |some (.ins _ _ _)=>True
 |some (.ext _)=>True
 |_=>False
section
variable {P:aS}{w:bn}{H:Hp}{h h':bu}{x e:ah}{o':HO}
theorem oG.write (ok:oG P w H h) (mu:PL (H x)) (he:e=x\/H e=some (.own x)) (k:∀ b u,b≠e->h.get? b=some u->h'.get? b=some u) (heo:∃ u,h'.get? e=some u)
  (new:dE P w (upd H x o') h' x o'):oG P w (upd H x o') h':=fun b u q=>by
 have nown:∀ c y,H c=some (.own y)->c≠x:=fun c y r z=>by subst z;rw [r] at mu;exact mu
 have ntup:∀ c xs,H c=some (.tup xs)->c≠x:=fun c xs r z=>by subst z;rw [r] at mu;exact mu
 by_cases hb:b=x
 ·subst hb;rw [bi] at q;cases q;exact new
 ·rw [bh hb] at q
  by_cases hbe:b=e
  ·have q':H b=some (.own x):=by
    rcases he with z|z
    ·exact absurd (hbe.trans z) hb
    ·rw [hbe];exact z
   rw [q] at q';cases q'
   obtain ⟨v,hv⟩:=heo
   exact ⟨v,by rw [hbe];exact hv⟩
  ·refine (ok b u q).stay (fun c v hc r=>k c v ?_ r) (fun c r=>by rw [bh (nown c b r)];exact r) fun c xs r=>by rw [bh (ntup c xs r)];exact r
   rcases hc with rfl|hc
   ·exact hbe
   ·rintro rfl
    rcases he with z|z
    ·exact nown c b hc z
    ·rw [hc] at z;cases z;exact hb rfl
end
structure Un (fs ex:List ah) (H H':Hp) (h h':bu):Prop where
 keep:∀ b o,h.get? b=some o->H b=none->b∉fs->b∉ex->h'.get? b=some o
 slot:∀ b o,h.get? b=some o->H b=none->b∈fs->b∉ex->∃ sl,h'.get? b=some { o with slots:=sl }
 free:∀ b o,h.get? b=some o->H b=none->b∉ex->H' b=none
 there:∀ b o,h.get? b=some o->b∉ex->∃ o',h'.get? b=some o'
 tups:∀ b xs,H b=some (.tup xs)->H' b=some (.tup xs)
 frzs:∀ b o u,H b=some (.frz o u)->H' b=some (.frz o u)
 tbls:∀ b ps,H b=some (.tbl ps)->∃ more,H' b=some (.tbl (ps++more))
section
variable {fs fs' ex ex':List ah}{H H1 H2:Hp}{h h1 h2 h':bu}{a x e:ah}{o:HO}
theorem Un.any (u:Un fs ex H H1 h h1) {b:ah}{ob:Obj} (q:h.get? b=some ob) (n:H b=none) (hx:b∉ex):∃ sl,h1.get? b=some { ob with slots:=sl }:=by
 by_cases hb:b∈fs
 ·exact u.slot b ob q n hb hx
 ·exact ⟨ob.slots,u.keep b ob q n hb hx⟩
theorem Un.kept (k:∀ b u,h.get? b=some u->h'.get? b=some u):Un fs ex H H h h' :=
 ⟨fun b ob q _ _ _=>k b ob q,fun b ob q _ _ _=>⟨ob.slots,k b ob q⟩,fun _ _ _ n _=>n,fun b ob q _=>⟨ob,k b ob q⟩,fun _ _ q=>q,fun _ _ _ q=>q,fun _ ps q=>⟨#[],by rw [q];simp⟩⟩
theorem Un.refl:Un fs ex H H h h:=Un.kept fun _ _ q=>q
theorem Un.laid (k:∀ b u,h.get? b=some u->h'.get? b=some u) (hp:h.objs.size<=a) (hn:H a=none):Un fs ex H (upd H a o) h h' where
 keep:=fun b u q _ _ _=>k b u q
 slot:=fun b u q _ _ _=>⟨u.slots,k b u q⟩
 free:=fun b u q n _=>by rw [bh (aA (aD (ap q) hp))];exact n
 there:=fun b u q _=>⟨u,k b u q⟩
 tups:=fun b xs q=>by rw [bh (bO q hn)];exact q
 frzs:=fun b u xs q=>by rw [bh (bO q hn)];exact q
 tbls:=fun b ps q=>⟨#[],by rw [bh (bO q hn),q];simp⟩
theorem Un.write (mu:PL (H x)) (he:e=x\/H e=some (.own x)) (k:∀ b u,b≠e->h.get? b=some u->h'.get? b=some u) (heo:∃ u,h'.get? e=some u):Un fs ex H (upd H x o) h h':=by
 have hx:∀ b,H b=none->b≠x:=fun b n z=>by subst z;rw [n] at mu;exact mu
 have hb:∀ b,H b=none->b≠e:=fun b n z=>by
  subst z
  rcases he with r|r
  ·exact hx b n r
  ·rw [n] at r;cases r
 have hm:∀ b u,H b=some u->¬ PL (some u)->b≠x:=fun b u q nm z=>by subst z;rw [q] at mu;exact nm mu
 refine ⟨fun b u q n _ _=>k b u (hb b n) q,fun b u q n _ _=>⟨u.slots,k b u (hb b n) q⟩,fun b u q n _=>by rw [bh (hx b n)];exact n,fun b u q _=>?_,
  fun b xs q=>by rw [bh (hm b _ q fun z=>z)];exact q,fun b u xs q=>by rw [bh (hm b _ q fun z=>z)];exact q,fun b ps q=>⟨#[],by rw [bh (hm b _ q fun z=>z),q];simp⟩⟩
 by_cases hbe:b=e
 ·subst hbe;exact heo
 ·exact ⟨u,k b u hbe q⟩
end
def Rr (h:bu) (H:Hp):List ah:=(bY h.objs.size).filter fun a=>(H a).isSome
def yS (h:bu) (H:Hp):bu:=PySem.W.hideAll h (Rr h H)
theorem Fe (h:bu) (H:Hp):(yS h H).objs.size=h.objs.size:=PySem.W.hideAll_size _ _
theorem Hg {h:bu}{H:Hp}{b:ah}{o:Obj} (e:h.get? b=some o) (n:H b=none):(yS h H).get? b=some o :=
 PySem.W.hideAll_get _ e fun hm=>by
  have q:(H b).isSome=true:=(List.mem_filter.mp hm).2
  rw [n] at q;simp at q
theorem La {h:bu}{H:Hp}{b:ah}{o:Obj} (e:(yS h H).get? b=some o):h.get? b=some o/\H b=none:=by
 have e':h.get? b=some o:=PySem.W.of_hideAll (Rr h H) e
 refine ⟨e',?_⟩
 cases q:H b with
 |none=>rfl
 |some x =>
  have hm:b∈Rr h H:=List.mem_filter.mpr ⟨List.mem_range.mpr (ap e'),by simp [q]⟩
  have z:(yS h H).get? b=none:=PySem.W.hideAll_none (Rr h H) hm
  rw [z] at e;cases e
def Lb (g h:bu) (L:ah):List (ah×Obj):=(bY h.objs.size).filterMap fun a=>if a=L\/(g.get? a).isSome=true then none else (h.get? a).map fun o=>(a,o)
def bA (g h:bu) (L d:ah):List (ah×Obj):=(Lb g h L).filter fun p=>decide (p.1≠d)
end L2
namespace L2
open PySem PySem.Spec PyProof.Rows
structure Mod (K:a8) (mg:Str->Option a9) (base:bu):Prop where
 kin:K.In base
 glob:base.Ns bK mg
 blt:∃ mb,base.Ns builtinsNs mb/\∀ x:Str,x≠"__name__"->mb x=i8 x
 nolimit:base.NoLimit
structure Cx where
 prog:aS
 w:bn
 K:a8
 mg:Str->Option a9
 base:bu
 A:bv
 N:List Str
 s₀:ae
 H₀:Hp
 env:Env
 outer:List Env
 stack:List Env
 ex:List ah
 fn:Str->Bool
 calm:Bool
 pn:List (ah×Obj)
 xe:a9->ae->Prop
def tm (l:List Env):List ah:=l.filterMap (·.frame)
abbrev Cx.fs (X:Cx):List ah:=tm X.outer
def GK (sc:dU) (x:Str):Prop:=sc.names.lookup x=some .local\/sc.names.lookup x=some .cell\/sc.names.lookup x=some .free
def KC (sc:dU) (x:Str):Prop:=sc.names.lookup x=some .local\/sc.names.lookup x=some .cell
def RL (env:Env) (h:bu) (m:Str->Option a9) (x:Str) (u:a9):Prop :=
 (env.kindOf x=some .local/\m x=some u)\/((env.kindOf x=some .cell\/env.kindOf x=some .free)/\∃ c,env.cells.lookup x=some c/\h.IsCell c (some u))
structure Cx.Ok (X:Cx):Prop where
 mod:Mod X.K X.mg X.base
 kind:X.env.scope.kind=.function
 glob:X.env.globals=bK
 blt:X.env.builtins=builtinsNs
 above:X.s₀.heap.objs.size<=X.env.locals
 inj:∀ x y c,X.env.cells.lookup x=some c->X.env.cells.lookup y=some c->x=y
 has:∀ x,(X.env.kindOf x=some .cell\/X.env.kindOf x=some .free)->∃ c,X.env.cells.lookup x=some c
 cab:∀ x c,X.fn x=true->X.env.cells.lookup x=some c->X.s₀.heap.objs.size<=c
 hd:X.calm=true->X.A.handled=none
 frames:X.A.frames=some X.stack
 stk:X.stack=X.outer\/(X.stack=X.env::X.outer/\X.env.frame=some X.env.locals)
 exf:∀ b∈X.ex,b≠X.env.locals/\∀ x c,X.env.cells.lookup x=some c->c≠b
 bs:∀ b o,X.base.get? b=some o->X.s₀.heap.get? b=some o/\X.H₀ b=none
 bsz:X.base.objs.size<=X.s₀.heap.objs.size
 noex:∀ b o,X.base.get? b=some o->b∉X.ex
 exfs:∀ b∈X.ex,b∉X.fs
 funs:X.s₀.heap.FunFrames X.base X.outer
 frf:∀ b∈X.fs,X.H₀ b=none
structure bz (X:Cx) (pins:List (ah×Obj)) (σ:List (Option V)) (H:Hp) (s:ae):Prop where
 ok:X.Ok
 os:s.os=X.s₀.os
 bare:om s.gens
 base:Un X.fs X.ex X.H₀ H X.s₀.heap s.heap
 loc:∃ m,s.heap.Ns X.env.locals m/\∀ (i:Nat) (x:Str) (v:V),X.N[i]?=some x->σ[i]?=some (some v)->GK X.env.scope x->∃ u,cX v u/\RL X.env s.heap m x u
 cell:∀ x c,X.env.cells.lookup x=some c->∃ v,s.heap.IsCell c v
 free:H X.env.locals=none
 freeC:∀ x c,X.env.cells.lookup x=some c->H c=none
 pin:∀ p∈X.pn++pins,s.heap.get? p.1=some p.2/\H p.1=none/\p.1≠X.env.locals/\p.1∉X.fs/\∀ v,p.2.data≠.cell v
 hok:oG X.prog X.w H s.heap
 len:σ.length=X.N.length
section
variable {X:Cx}{pins:List (ah×Obj)}{σ:List (Option V)}{H H':Hp}{s:ae}{h':bu}
theorem Cx.Ok.nofr (ok:X.Ok) {b:ah}{o:Obj} (e:X.base.get? b=some o):b∉X.fs:=fun hb=>by
 have:=(ok.funs.mem hb).1
 rw [e] at this;cases this
theorem bz.bs (I:bz X pins σ H s):∀ b o,X.base.get? b=some o->s.heap.get? b=some o/\H b=none:=fun b o e =>
 ⟨I.base.keep b o (I.ok.bs b o e).1 (I.ok.bs b o e).2 (I.ok.nofr e) (I.ok.noex b o e),I.base.free b o (I.ok.bs b o e).1 (I.ok.bs b o e).2 (I.ok.noex b o e)⟩
theorem bz.bk (I:bz X pins σ H s):∀ b o,X.base.get? b=some o->s.heap.get? b=some o:=fun b o e=>(I.bs b o e).1
theorem bz.mod (I:bz X pins σ H s):Mod X.K X.mg X.base:=I.ok.mod
theorem bz.kIn (I:bz X pins σ H s):X.K.In s.heap:=I.ok.mod.kin.keeps I.bk
theorem bz.fr (I:bz X pins σ H s):∃ m,Fr X.base X.env.locals s.heap m :=
 let ⟨m,hn,_⟩:=I.loc
 ⟨m,hn,I.bk,bM I.ok.bsz I.ok.above⟩
theorem bz.lt (I:bz X pins σ H s):X.env.locals<s.heap.objs.size:=let ⟨_,hn,_⟩:=I.loc;hn.lt
theorem bz.sz (I:bz X pins σ H s):X.s₀.heap.objs.size<=s.heap.objs.size:=bM I.ok.above (bH I.lt)
theorem bz.nofs (I:bz X pins σ H s) {a:ah} (h:s.heap.objs.size<=a):a∉X.fs:=fun hb=>by
 obtain ⟨_,o,ho,_⟩:=I.ok.funs.mem hb
 exact absurd (aD (ap ho) (bM I.sz h)) (aU _)
theorem bz.cne (I:bz X pins σ H s):∀ x c,X.env.cells.lookup x=some c->c≠X.env.locals:=fun x c e z=>by
 obtain ⟨v,o,ho,hd⟩:=I.cell x c e
 obtain ⟨m,⟨o',es,ep,ho',hd',_⟩,_⟩:=I.loc
 rw [z,ho'] at ho;cases ho;rw [hd'] at hd;cases hd
theorem bz.funs (I:bz X pins σ H s):s.heap.FunFrames X.base X.outer:=by
 have all:∀ (l:List Env),(∀ b∈tm l,b∈X.fs)->X.s₀.heap.FunFrames X.base l->s.heap.FunFrames X.base l:=by
  intro l
  induction l with
  |nil=>intro _ _;trivial
  |cons env r ih =>
   intro hs hl
   obtain ⟨hk,⟨L,o,hf,hn,ho,hd⟩,hr⟩:=hl
   have hL:L∈X.fs:=hs L (by unfold tm;rw [kN,hf];exact al)
   obtain ⟨sl,e⟩:=I.base.slot L o ho (I.ok.frf L hL) hL fun z=>I.ok.exfs L z hL
   exact ⟨hk,⟨L,_,hf,hn,e,hd⟩,ih (fun b hb=>hs b (by unfold tm;rw [kN,hf];exact ai _ hb)) hr⟩
 exact all X.outer (fun _ hb=>hb) I.ok.funs
theorem bz.stack (I:bz X pins σ H s):s.heap.FunFrames X.base X.stack:=by
 rcases I.ok.stk with e|⟨e,hf⟩
 ·rw [e];exact I.funs
 ·rw [e]
  obtain ⟨m,hn,_⟩:=I.loc
  refine .cons (by rw [I.ok.kind];decide) hf hn ?_ I.funs
  exact Heap.get?_none_of_le (bM I.ok.bsz I.ok.above)
theorem bz.stkSub (I:bz X pins σ H s):∀ b∈tm X.stack,b∈X.env.locals::X.fs:=fun b hb=>by
 rcases I.ok.stk with e|⟨e,hf⟩
 ·rw [e] at hb;exact ai _ hb
 ·rw [e] at hb
  unfold tm at hb
  rw [kN,hf] at hb
  exact hb
theorem bz.stkFree (I:bz X pins σ H s):∀ b∈tm X.stack,H b=none:=fun b hb=>by
 rcases List.mem_cons.mp (I.stkSub b hb) with e|hb
 ·rw [e];exact I.free
 ·obtain ⟨_,o,ho,_⟩:=I.ok.funs.mem hb
  exact I.base.free b o ho (I.ok.frf b hb) fun z=>I.ok.exfs b z hb
theorem bz.step {g':Array Ca}{t':Nat}{d':Gv}{ch:List ah} (I:bz X pins σ H s)
  (hch:∀ b∈ch,(b∈X.ex\/X.s₀.heap.objs.size<=b)/\b≠X.env.locals/\(∀ x c,X.env.cells.lookup x=some c->c≠b)/\∀ p∈X.pn++pins,p.1≠b)
  (keep:∀ b o,b≠X.env.locals->b∉X.fs->b∉ch->s.heap.get? b=some o->H b=none->h'.get? b=some o)
  (slot:∀ b o,b≠X.env.locals->b∈X.fs->b∉ch->s.heap.get? b=some o->H b=none->∃ sl,h'.get? b=some { o with slots:=sl }) (free:∀ b o,b∉ch->s.heap.get? b=some o->H b=none->H' b=none)
  (there:∀ b o,b∉ch->s.heap.get? b=some o->∃ o',h'.get? b=some o')
  (tups:∀ b xs,H b=some (.tup xs)->H' b=some (.tup xs)) (frzs:∀ b o u,H b=some (.frz o u)->H' b=some (.frz o u)) (tbls:∀ b ps,H b=some (.tbl ps)->∃ more,H' b=some (.tbl (ps++more)))
  (ns:∀ m,s.heap.Ns X.env.locals m->h'.Ns X.env.locals m) (hok:oG X.prog X.w H' h') (hg:om g') :
  bz X pins σ H' { s with heap:=h',gens:=g',drawn:=d',toks:=t' }:=by
 have neL:∀ b o,X.s₀.heap.get? b=some o->b≠X.env.locals:=fun b o e=>aA (aD (ap e) I.ok.above)
 have neC:∀ b o,X.s₀.heap.get? b=some o->b∉X.ex->b∉ch:=fun b o e hx hb=>by
  rcases (hch b hb).1 with z|z
  ·exact hx z
  ·exact absurd (aD (ap e) z) (aU _)
 have cellK:∀ x c,X.env.cells.lookup x=some c->∀ v,s.heap.IsCell c v->h'.IsCell c v:=fun x c e v h_0=>by
  obtain ⟨o,ho,hd⟩:=h_0
  have nch:c∉ch:=fun z=>(hch c z).2.2.1 x c e rfl
  by_cases hc:c∈X.fs
  ·obtain ⟨sl,q⟩:=slot c o (I.cne x c e) hc nch ho (I.freeC x c e)
   exact ⟨_,q,hd⟩
  ·exact ⟨o,keep c o (I.cne x c e) hc nch ho (I.freeC x c e),hd⟩
 refine ⟨I.ok,I.os,hg,⟨fun b o e n hb hx=>?_,fun b o e n hb hx=>?_,fun b o e n hx=>?_,fun b o e hx=>?_,fun b xs e=>tups b xs (I.base.tups b xs e),fun b o xs e=>frzs b o xs (I.base.frzs b o xs e),fun b ps e=>?_⟩,?_,fun x c e=>?_,?_,fun x c e=>?_,fun p hp=>?_,hok,I.len⟩
 ·exact keep b o (neL b o e) hb (neC b o e hx) (I.base.keep b o e n hb hx) (I.base.free b o e n hx)
 ·obtain ⟨sl,e1⟩:=I.base.slot b o e n hb hx
  obtain ⟨sl',e2⟩:=slot b _ (neL b o e) hb (neC b o e hx) e1 (I.base.free b o e n hx)
  exact ⟨sl',e2⟩
 ·obtain ⟨o',e1⟩:=I.base.there b o e hx
  exact free b o' (neC b o e hx) e1 (I.base.free b o e n hx)
 ·obtain ⟨o',e1⟩:=I.base.there b o e hx
  exact there b o' (neC b o e hx) e1
 ·obtain ⟨m1,e1⟩:=I.base.tbls b ps e
  obtain ⟨m2,e2⟩:=tbls b _ e1
  exact ⟨m1++m2,by rw [e2,EX]⟩
 ·obtain ⟨m,hn,hl⟩:=I.loc
  refine ⟨m,ns m hn,fun i x v e1 e2 e3=>?_⟩
  obtain ⟨u,r,l⟩:=hl i x v e1 e2 e3
  refine ⟨u,r,?_⟩
  rcases l with l|⟨k,c,e,z⟩
  ·exact .inl l
  ·exact .inr ⟨k,c,e,cellK x c e _ z⟩
 ·obtain ⟨v,z⟩:=I.cell x c e
  exact ⟨v,cellK x c e v z⟩
 ·obtain ⟨m,⟨o,_,_,ho,_⟩,_⟩:=I.loc
  exact free _ o (fun z=>(hch _ z).2.1 rfl) ho I.free
 ·obtain ⟨v,o,ho,hd⟩:=I.cell x c e
  exact free c o (fun z=>(hch c z).2.2.1 x c e rfl) ho (I.freeC x c e)
 ·obtain ⟨e,n,ne,nf,d⟩:=I.pin p hp
  have nch:p.1∉ch:=fun z=>(hch p.1 z).2.2.2 p hp rfl
  exact ⟨keep p.1 p.2 ne nf nch e n,free p.1 p.2 nch e n,ne,nf,d⟩
theorem bz.un {t':Nat} (I:bz X pins σ H s) (u:Un X.fs [] H H' s.heap h') (hok:oG X.prog X.w H' h'):bz X pins σ H' { s with heap:=h',toks:=t' }:=by
 obtain ⟨m,⟨o,es,ep,ho,r⟩,_⟩:=id I.loc
 obtain ⟨sl,hL⟩:=u.any ho I.free (by simp)
 exact I.step (g':=s.gens) (d':=s.drawn) (ch:=[]) (fun _ z=>nomatch z) (fun b o _ hb _ e n=>u.keep b o e n hb (by simp)) (fun b o _ hb _ e n=>u.slot b o e n hb (by simp)) (fun b o _ e n=>u.free b o e n (by simp)) (fun b o _ e=>u.there b o e (by simp)) u.tups u.frzs u.tbls (fun m' hm=>by
  obtain ⟨o',es',ep',ho',r'⟩:=hm
  rw [ho] at ho';cases ho'
  exact ⟨_,es',ep',hL,r'⟩) hok I.bare
theorem bz.call {g':Array Ca}{t':Nat}{d':Gv}{ch:List ah} (I:bz X pins σ H s) (u:Un (tm X.stack) ch H H' s.heap h') (hok:oG X.prog X.w H' h') (hg:om g')
  (hch:∀ b∈ch,(b∈X.ex\/X.s₀.heap.objs.size<=b)/\b≠X.env.locals/\(∀ x c,X.env.cells.lookup x=some c->c≠b)/\∀ p∈X.pn++pins,p.1≠b) :
  bz X pins σ H' { s with heap:=h',gens:=g',drawn:=d',toks:=t' }:=by
 obtain ⟨m,⟨o,es,ep,ho,r⟩,_⟩:=id I.loc
 obtain ⟨sl,hL⟩:=u.any ho I.free fun z=>(hch _ z).2.1 rfl
 exact I.step (ch:=ch) hch (fun b o hL hb hc e n=>u.keep b o e n (fun z=>(List.mem_cons.mp (I.stkSub b z)).elim hL hb) hc) (fun b o _ _ hc e n=>u.any e n hc) (fun b o hc e n=>u.free b o e n hc) (fun b o hc e=>u.there b o e hc) u.tups u.frzs u.tbls (fun m' hm=>by
  obtain ⟨o',es',ep',ho',r'⟩:=hm
  rw [ho] at ho';cases ho'
  exact ⟨_,es',ep',hL,r'⟩) hok hg
theorem bz.turned {t':Nat}{it:ah} (I:bz X pins σ H s) (k:∀ b o,b≠it->s.heap.get? b=some o->h'.get? b=some o) (hn:H it=none) (hL:it≠X.env.locals)
  (h1:it∈X.ex\/X.s₀.heap.objs.size<=it) (h2:∀ x c,X.env.cells.lookup x=some c->c≠it) (h3:∀ p∈X.pn++pins,p.1≠it):bz X pins σ H { s with heap:=h',toks:=t' }:=by
 have nit:∀ b u,H b=some u->b≠it:=fun b u e z=>by rw [z,hn] at e;cases e
 refine I.step (g':=s.gens) (d':=s.drawn) (ch:=[it]) (fun b hb=>?_) (fun b o _ _ hc e _=>k b o (fun z=>hc (by simp [z])) e) (fun b o _ _ hc e _=>⟨o.slots,k b o (fun z=>hc (by simp [z])) e⟩) (fun _ _ _ _ n=>n)
  (fun b o hc e=>⟨o,k b o (fun z=>hc (by simp [z])) e⟩) (fun _ _ e=>e) (fun _ _ _ e=>e) (fun b ps e=>⟨#[],by rw [e];simp⟩) (fun m hm=>?_) (fun b u e=>?_) I.bare
 ·have e:b=it:=by simpa using hb
  subst e
  exact ⟨h1,hL,h2,h3⟩
 ·obtain ⟨o,es,ep,ho,r⟩:=hm
  exact ⟨o,es,ep,k _ o (cR hL) ho,r⟩
 ·refine (I.hok b u e).stay (fun c v hc q=>k c v ?_ q) (fun _ q=>q) fun _ _ q=>q
  rcases hc with z|z
  ·rw [z];exact nit b u e
  ·exact nit c _ z
theorem bz.tok (I:bz X pins σ H s) (t:Nat):bz X pins σ H { s with toks:=t }:=I.un (h':=s.heap) (t':=t) Un.refl I.hok
theorem bz.kept {t':Nat} (I:bz X pins σ H s) (k:∀ b u,s.heap.get? b=some u->h'.get? b=some u):bz X pins σ H { s with heap:=h',toks:=t' }:=I.un (Un.kept k) (I.hok.kept k)
theorem bz.laid {a:ah}{o:HO}{t':Nat} (I:bz X pins σ H s) (k:∀ b u,s.heap.get? b=some u->h'.get? b=some u) (hp:s.heap.objs.size<=a) (new:dE X.prog X.w (upd H a o) h' a o) :
  bz X pins σ (upd H a o) { s with heap:=h',toks:=t' }:=I.un (Un.laid k hp (I.hok.fresh hp)) (I.hok.laid k hp new)
theorem bz.write {x e:ah}{o:HO}{t':Nat} (I:bz X pins σ H s) (mu:PL (H x)) (he:e=x\/H e=some (.own x)) (k:∀ b u,b≠e->s.heap.get? b=some u->h'.get? b=some u) (heo:∃ u,h'.get? e=some u)
  (new:dE X.prog X.w (upd H x o) h' x o):bz X pins σ (upd H x o) { s with heap:=h',toks:=t' }:=I.un (Un.write mu he k heo) (I.hok.write mu he k heo new)
theorem bz.weak {σ':List (Option V)} (I:bz X pins σ H s) (hl:σ'.length=σ.length) (w:∀ (i:Nat) v,σ'[i]?=some (some v)->σ[i]?=some (some v)):bz X pins σ' H s :=
 ⟨I.ok,I.os,I.bare,I.base,let ⟨m,hn,hl'⟩:=I.loc;⟨m,hn,fun i x v e1 e2 e3=>hl' i x v e1 (w i v e2) e3⟩,I.cell,I.free,I.freeC,I.pin,I.hok,hl.trans I.len⟩
theorem bz.pins_of {pins':List (ah×Obj)} (I:bz X pins σ H s) (h:∀ p∈pins',s.heap.get? p.1=some p.2/\H p.1=none/\p.1≠X.env.locals/\p.1∉X.fs/\∀ v,p.2.data≠.cell v):bz X pins' σ H s :=
 ⟨I.ok,I.os,I.bare,I.base,I.loc,I.cell,I.free,I.freeC,fun p hp=>(List.mem_append.mp hp).elim (fun z=>I.pin p (bP _ z)) (h p),I.hok,I.len⟩
theorem Ao {N:List Str} (hN:N.Nodup) {i j:Nat}{x:Str} (a:N[i]?=some x) (b:N[j]?=some x):i=j:=by
 obtain ⟨h1,e1⟩:=List.getElem?_eq_some_iff.mp a
 obtain ⟨h2,e2⟩:=List.getElem?_eq_some_iff.mp b
 exact (Kv hN).mp (e1.trans e2.symm)
theorem tR {M:KJ}{A:bv}{E:a9->ae->Prop}{i:Nat}{x:Str}{v:V}{u:a9}{Q:Unit->ae->Prop} (I:bz X pins σ H s) (hN:X.N.Nodup) (hi:X.N[i]?=some x) (hx:KC X.env.scope x) (r:cX v u)
  (h:∀ s',bz X pins (σ.set i (some v)) H s'->(∃ a,bT a s.heap s'.heap/\(a=X.env.locals\/X.env.cells.lookup x=some a))->Q () s') (hf:X.fn x=true\/X.env.scope.names.lookup x=some .local:=by first|exact .inl rfl|exact .inr rfl|assumption):ao M A (storeName X.env x u) Q E s:=by
 obtain ⟨m,hn,hl⟩:=id I.loc
 have hcls:(X.env.scope.kind == .class||(X.env.scope.kind == .module&&X.env.locals != X.env.globals))=false:=by rw [I.ok.kind];rfl
 have hiσ:i<σ.length:=by rw [I.len];exact (List.getElem?_eq_some_iff.mp hi).1
 have cne:=I.cne
 have tracked:∀ {a:ah}{h':bu},(∃ o,s.heap.get? a=some o/\H a=none)->bT a s.heap h'->oG X.prog X.w H h':=fun {a h'} ha hs b ob e=>by
  obtain ⟨_,_,hfree⟩:=ha
  refine (I.hok b ob e).stay (fun c w' hc q=>(hs.2 c ?_).trans q) (fun _ q=>q) fun _ _ q=>q
  rintro rfl
  rcases hc with rfl|hc
  ·rw [hfree] at e;cases e
  ·rw [hfree] at hc;cases hc
 rcases hx with hk|hk
 ·refine wpAny_storeName_local hk hn (fun h' hn' hs=>?_) hcls
  obtain ⟨oL,_,_,hoL,_⟩:=id hn
  refine h _ ⟨I.ok,I.os,I.bare,⟨fun b o e n hb hx=>?_,fun b o e n hb hx=>?_,I.base.free,fun b o e hx=>?_,I.base.tups,I.base.frzs,I.base.tbls⟩,⟨_,hn',fun j y v' e1 e2 e3=>?_⟩,fun y c e=>?_,I.free,I.freeC,fun p hp=>?_,tracked ⟨oL,hoL,I.free⟩ hs,by simpa using I.len⟩ ⟨_,hs,.inl rfl⟩
  ·exact (hs.2 b (aA (aD (ap e) I.ok.above))).trans (I.base.keep b o e n hb hx)
  ·obtain ⟨sl,e1⟩:=I.base.slot b o e n hb hx
   exact ⟨sl,(hs.2 b (aA (aD (ap e) I.ok.above))).trans e1⟩
  ·obtain ⟨o',e1⟩:=I.base.there b o e hx
   exact ⟨o',(hs.2 b (aA (aD (ap e) I.ok.above))).trans e1⟩
  ·by_cases hj:j=i
   ·subst hj
    rw [hi] at e1;cases e1
    rw [aG hiσ] at e2
    cases e2
    exact ⟨u,r,.inl ⟨hk,by simp⟩⟩
   ·rw [aj (cR hj)] at e2
    obtain ⟨u',r',q⟩:=hl j y v' e1 e2 e3
    refine ⟨u',r',?_⟩
    rcases q with ⟨k,e⟩|⟨k,c,e,z⟩
    ·refine .inl ⟨k,?_⟩
     have:y≠x:=fun e=>hj (Ao hN e1 (e ▸ hi))
     simp [this,e]
    ·exact .inr ⟨k,c,e,z.sameBut hs (cne y c e)⟩
  ·obtain ⟨w',z⟩:=I.cell y c e
   exact ⟨w',z.sameBut hs (cne y c e)⟩
  ·obtain ⟨e,n,ne,nf,d⟩:=I.pin p hp
   exact ⟨(hs.2 p.1 ne).trans e,n,ne,nf,d⟩
 ·have hfn:X.fn x=true:=by
   rcases hf with z|z
   ·exact z
   ·rw [z] at hk;cases hk
  obtain ⟨c,hc⟩:=I.ok.has x (.inl hk)
  obtain ⟨w',z⟩:=I.cell x c hc
  refine wpAny_storeName_cell I.ok.kind hk hc z (fun h' hc' hs=>?_)
  obtain ⟨oc,hoc,hocd⟩:=id z
  refine h { s with heap:=h' } ⟨I.ok,I.os,I.bare,⟨fun b o e n hb hx=>?_,fun b o e n hb hx=>?_,I.base.free,fun b o e hx=>?_,I.base.tups,I.base.frzs,I.base.tbls⟩,⟨m,hn.sameBut hs (cR (cne x c hc)),fun j y v' e1 e2 e3=>?_⟩,fun y c' e=>?_,I.free,I.freeC,fun p hp=>?_,tracked ⟨oc,hoc,I.freeC x c hc⟩ hs,by simpa using I.len⟩ ⟨c,hs,.inr hc⟩
  ·exact (hs.2 b (aA (aD (ap e) (I.ok.cab x c hfn hc)))).trans (I.base.keep b o e n hb hx)
  ·obtain ⟨sl,e1⟩:=I.base.slot b o e n hb hx
   exact ⟨sl,(hs.2 b (aA (aD (ap e) (I.ok.cab x c hfn hc)))).trans e1⟩
  ·obtain ⟨o',e1⟩:=I.base.there b o e hx
   exact ⟨o',(hs.2 b (aA (aD (ap e) (I.ok.cab x c hfn hc)))).trans e1⟩
  ·by_cases hj:j=i
   ·subst hj
    rw [hi] at e1;cases e1
    rw [aG hiσ] at e2
    cases e2
    exact ⟨u,r,.inr ⟨.inl hk,c,hc,hc'⟩⟩
   ·rw [aj (cR hj)] at e2
    obtain ⟨u',r',q⟩:=hl j y v' e1 e2 e3
    refine ⟨u',r',?_⟩
    rcases q with q|⟨k,c',e,z'⟩
    ·exact .inl q
    ·refine .inr ⟨k,c',e,z'.sameBut hs ?_⟩
     rintro rfl
     exact hj (Ao hN e1 (I.ok.inj _ _ _ e hc ▸ hi))
  ·by_cases hcc:c'=c
   ·subst hcc;exact ⟨_,hc'⟩
   ·obtain ⟨w2,z2⟩:=I.cell y c' e
    exact ⟨w2,z2.sameBut hs hcc⟩
  ·obtain ⟨e,n,ne,nf,d⟩:=I.pin p hp
   refine ⟨(hs.2 p.1 ?_).trans e,n,ne,nf,d⟩
   intro q
   rw [q,hoc] at e
   have q':oc=p.2:=bE e
   exact d w' (by rw [<- q'];exact hocd)
theorem vD {M:KJ}{A:bv}{E:a9->ae->Prop}{i:Nat}{x:Str}{v:V}{u:a9}{Q:Unit->ae->Prop} (I:bz X pins σ H s) (hN:X.N.Nodup) (hi:X.N[i]?=some x) (hx:KC X.env.scope x) (r:cX v u)
  (h:∀ s',bz X pins (σ.set i (some v)) H s'->Q () s') (hf:X.fn x=true\/X.env.scope.names.lookup x=some .local:=by first|exact .inl rfl|exact .inr rfl|assumption):ao M A (storeName X.env x u) Q E s :=
 tR I hN hi hx r (fun s' I' _=>h s' I') hf
theorem bz.call' {s':ae}{ch:List ah} (I:bz X pins σ H s) (ho:s'.os=s.os) (u:Un (tm X.stack) ch H H' s.heap s'.heap) (hok:oG X.prog X.w H' s'.heap) (hg:om s'.gens)
  (hch:∀ b∈ch,(b∈X.ex\/X.s₀.heap.objs.size<=b)/\b≠X.env.locals/\(∀ x c,X.env.cells.lookup x=some c->c≠b)/\∀ p∈X.pn++pins,p.1≠b):bz X pins σ H' s':=by
 obtain ⟨h',g',d',t',o'⟩:=s'
 have e:o'=s.os:=ho
 subst e
 exact I.call (g':=g') (t':=t') (d':=d') u hok hg hch
end
abbrev XK:=a9->Option ah->Hp->Prop
abbrev St:=List (Option V)
abbrev VK:=V->Hp->Prop
abbrev TE:=St->Hp->VK->Prop
abbrev TT:=St->Hp->(Bool->Hp->Prop)->Prop
abbrev TA:=St->Hp->(List V->Hp->Prop)->Prop
structure yT where
 nx:St->Hp->Prop
 rt:VK
 bk:St->Hp->Prop:=fun _ _=>False
 ct:St->Hp->Prop:=fun _ _=>False
abbrev TS:=yT->St->Hp->Prop
inductive EP (X:Cx) (pins:List (ah×Obj)) (σ:St) (Q:VK) (u:a9) (s':ae):Prop
 |mk (v H':_) (h0:bz X pins σ H' s') (h1:cX v u) (h2:Q v H'):EP X pins σ Q u s'
inductive TP (X:Cx) (pins:List (ah×Obj)) (σ:St) (Q:Bool->Hp->Prop) (b:Bool) (s':ae):Prop
 |mk (H':_) (h0:bz X pins σ H' s') (h1:Q b H'):TP X pins σ Q b s'
inductive AP (X:Cx) (pins:List (ah×Obj)) (σ:St) (Q:List V->Hp->Prop) (us:List a9) (s':ae):Prop
 |mk (vs H':_) (h0:bz X pins σ H' s') (h1:dg vs us) (h2:Q vs H'):AP X pins σ Q us s'
inductive SN (X:Cx) (pins:List (ah×Obj)) (k:St->Hp->Prop) (s':ae):Prop
 |mk (σ':St) (H':Hp) (I:bz X pins σ' H' s') (q:k σ' H'):SN X pins k s'
inductive SV (X:Cx) (pins:List (ah×Obj)) (k:V->Hp->Prop) (u:a9) (s':ae):Prop
 |mk (v:V) (σ':St) (H':Hp) (I:bz X pins σ' H' s') (r:cX v u) (q:k v H'):SV X pins k u s'
def SP (X:Cx) (pins:List (ah×Obj)) (D:yT) (f:Flow) (s':ae):Prop :=
 match f with
 |.next=>SN X pins D.nx s'
 |.brk=>SN X pins D.bk s'
 |.cont=>SN X pins D.ct s'
 |.ret u=>SV X pins D.rt u s'
def PE (X:Cx) (e:a_) (t:TE):Prop :=
 ∀ (pins:List (ah×Obj)) (s:ae) (σ:St) (H:Hp) (Q:VK),bz X pins σ H s->t σ H Q->ao (ar X.prog X.w) X.A (cj e X.env) (EP X pins σ Q) X.xe s
def PT (X:Cx) (e:a_) (t:TT):Prop :=
 ∀ (pins:List (ah×Obj)) (s:ae) (σ:St) (H:Hp) (Q:Bool->Hp->Prop),bz X pins σ H s->t σ H Q->ao (ar X.prog X.w) X.A (kO e X.env (cj e X.env)) (TP X pins σ Q) X.xe s
def PW (X:Cx) (e:a_) (t:TT):Prop :=
 ∀ (whole:Sem a9) (pins:List (ah×Obj)) (s:ae) (σ:St) (H:Hp) (Q:Bool->Hp->Prop),bz X pins σ H s->t σ H Q->ao (ar X.prog X.w) X.A (kO e X.env whole) (TP X pins σ Q) X.xe s
theorem PW.pt {X:Cx}{e:a_}{t:TT} (h:PW X e t):PT X e t:=h _
def PA (X:Cx) (es:List a_) (t:TA):Prop :=
 ∀ (pos:Pos) (pins:List (ah×Obj)) (s:ae) (σ:St) (H:Hp) (Q:List V->Hp->Prop),bz X pins σ H s->t σ H Q->ao (ar X.prog X.w) X.A (spliced (gE pos (aE es X.env))) (AP X pins σ Q) X.xe s
def PS (X:Cx) (st:eJ) (t:TS):Prop :=
 ∀ (pins:List (ah×Obj)) (s:ae) (σ:St) (H:Hp) (D:yT),bz X pins σ H s->t D σ H->ao (ar X.prog X.w) X.A (exec st X.env) (SP X pins D) X.xe s
def DK (X:Cx) (st:List eJ) (t:TS):Prop :=
 ∀ (pins:List (ah×Obj)) (s:ae) (σ:St) (H:Hp) (D:yT),bz X pins σ H s->t D σ H->ao (ar X.prog X.w) X.A (execs st X.env) (SP X pins D) X.xe s
theorem dX {α:Type}{t:Sem α}{Q Q':α->ae->Prop}{M:KJ}{A:bv}{E:a9->ae->Prop}{s:ae} (h:ao M A t Q E s) (hQ:∀ a s,Q a s->Q' a s):ao M A t Q' E s:=aO h hQ fun _ _ x=>x
end L2
namespace L2
open PySem PySem.Spec PyProof.Rows
section
variable {X:Cx}
inductive Mz (i:Nat) (σ:St) (H:Hp) (Q:VK):Prop
 |mk (v:_) (h0:σ[i]?=some (some v)) (h1:Q v H):Mz i σ H Q
def NQ (i:Nat):TE:=Mz i
def tC (v:V):TE:=fun _ H Q=>Q v H
theorem nu {i:Nat}{x:Str}{pos:Pos} (hN:X.N[i]?=some x) (hv:GK X.env.scope x) (hd:(x==("__debug__" : Str))=false:=by decide) (hcd:(x==("__classdict__" : Str))=false:=by decide):PE X (.Name x pos) (NQ i):=by
 intro pins s σ H Q I h
 obtain ⟨v,e,h⟩:=h
 obtain ⟨m,hn,hl⟩:=I.loc
 obtain ⟨u,r,l⟩:=hl i x v hN e hv
 have fin:EP X pins σ Q u s:=⟨v,H,I,r,h⟩
 rcases l with ⟨hk,hm⟩|⟨hk,c,hc,hcell⟩
 ·exact wpAny_Name (KL I.ok.kind hk hn hm fin) hd
 ·rcases hk with hk|hk
  ·exact wpAny_Name (wpAny_loadName_cell I.ok.kind hk hc hcell fin) hd
  ·exact wpAny_Name (wpAny_loadName_free I.ok.kind hk hc hcell fin hcd) hd
theorem NR {i j pos}:PE X (.Constant (.int i) j pos) (tC (.int i)):=fun _ _ _ H _ I h=>wpAny_Constant_int ⟨.int i,H,I.tok _,⟨_,rfl⟩,h⟩
theorem PM {b j pos}:PE X (.Constant (.bool b) j pos) (tC (.bl b)):=fun _ _ _ H _ I h=>Constant_bool ⟨.bl b,H,I,rfl,h⟩
theorem NS {x j pos}:PE X (.Constant (.str x) j pos) (tC (.str x)):=fun _ _ _ H _ I h=>Calls.Constant_str ⟨.str x,H,I.tok _,⟨_,rfl⟩,h⟩
def Gl (X:Cx) (x:Str):Prop:=X.env.kindOf x=some .globalImplicit
theorem DL {E:a9->ae->Prop}{pins:List (ah×Obj)}{s:ae}{σ:St}{H:Hp}{x:Str}{u:a9}{pos:Pos}{Q:a9->ae->Prop} (I:bz X pins σ H s) (hg:Gl X x) (hm:X.mg x=some u) (h:Q u s)
  (hd:(x==("__debug__" : Str))=false:=by decide):ao (ar X.prog X.w) X.A (cj (.Name x pos) X.env) Q E s :=
 x0 I.ok.kind hg (Calls.loadGlobal_global (by rw [I.ok.glob];exact I.mod.glob.keeps I.bk) hm h) hd
theorem oH {E:a9->ae->Prop}{pins:List (ah×Obj)}{s:ae}{σ:St}{H:Hp}{x:Str}{u:a9}{pos:Pos}{Q:a9->ae->Prop} (I:bz X pins σ H s) (hg:Gl X x) (hm:X.mg x=none) (hv:i8 x=some u) (h:Q u s)
  (hn:x≠"__name__":=by decide) (hd:(x==("__debug__" : Str))=false:=by decide):ao (ar X.prog X.w) X.A (cj (.Name x pos) X.env) Q E s:=by
 obtain ⟨mb,h1,h2⟩:=I.mod.blt
 exact x0 I.ok.kind hg (Calls.loadGlobal_builtin (by rw [I.ok.glob];exact I.mod.glob.keeps I.bk) hm (by rw [I.ok.blt];exact h1.keeps I.bk) ((h2 x hn).trans hv) h) hd
theorem Lc {x:Str}{v:V}{u:a9}{pos:Pos} (hg:Gl X x) (hm:X.mg x=some u) (r:cX v u) (hd:(x==("__debug__" : Str))=false:=by decide):PE X (.Name x pos) (tC v) :=
 fun _ _ _ H _ I h=>DL I hg hm ⟨v,H,I,r,h⟩ hd
theorem Ld {x:Str}{v:V}{u:a9}{pos:Pos} (hg:Gl X x) (hm:X.mg x=none) (hv:i8 x=some u) (r:cX v u) (hn:x≠"__name__":=by decide) (hd:(x==("__debug__" : Str))=false:=by decide):PE X (.Name x pos) (tC v) :=
 fun _ _ _ H _ I h=>oH I hg hm hv ⟨v,H,I,r,h⟩ hn hd
variable {a b:a_}{ta tb:TE}{pos:Pos}
def PC (X:Cx) (op:Gw) (a b:a_) (t:TE):Prop :=
 ∀ (pins:List (ah×Obj)) (s:ae) (σ:St) (H:Hp) (Q:VK),bz X pins σ H s->t σ H Q ->
  ao (ar X.prog X.w) X.A (cj a X.env) (fun v s₁=>ao (ar X.prog X.w) X.A (cj b X.env) (fun u s₂=>ao (ar X.prog X.w) X.A (bG op v u) (EP X pins σ Q) X.xe s₂) X.xe s₁) X.xe s
theorem Hh (b:a_) {op:Gw} (h:op≠.In) (h2:op≠.NotIn):gF op b=false:=by
 have e1:(op==CmpOp.In)=false:=by cases op<;>first|rfl|exact absurd rfl h
 have e2:(op==CmpOp.NotIn)=false:=by cases op<;>first|rfl|exact absurd rfl h2
 cases b<;>simp [gF,e1,e2]
def tB (t:TE):TT:=fun σ H Q=>t σ H fun x H1=>∃ c,x=.bl c/\Q c H1
theorem RM {op:Gw}{t:TE} (h:PC X op a b t) (h1:gF op b=false:=by first|exact Hh _ (by decide) (by decide)|rfl):PT X (.Compare a [op] [b] pos) (tB t):=by
 intro pins s σ H Q I hw
 refine Kw (dX (h pins s σ H _ I hw) fun v s1 h1=>dX h1 fun u s2 h2=>dX h2 fun c s3 ⟨x,H1,I1,r1,q1⟩=>?_) h1
 obtain ⟨d,rfl,q⟩:=q1
 cases r1
 exact cL ⟨H1,I1,q⟩
theorem NT {e:a_}{t:TE} (h:PE X e t) (he:∀ whole,kO e X.env whole=(do let v <- whole;jt e.pos;C0 [v] (truthy v)):=by intro _;rfl):PT X e (tB t):=by
 intro pins s σ H Q I hw
 refine isTrue_plain (dX (h pins s σ H _ I hw) fun v s1 ⟨x,H1,I1,r1,q1⟩=>?_) (he _)
 obtain ⟨d,rfl,q⟩:=q1
 cases r1
 exact cL ⟨H1,I1,q⟩
variable {tA tB':TT}{bA:List a_}
def RN (t u:TT):TT:=fun σ H Q=>t σ H fun c H1=>if c=true then u σ H1 Q else Q false H1
def Tz (t u:TT):TT:=fun σ H Q=>t σ H fun c H1=>if c=true then Q true H1 else u σ H1 Q
def RO (t:TT):TT:=fun σ H Q=>t σ H fun c H1=>Q (!c) H1
theorem Le (ha:PT X a tA):PW X (.BoolOp .And [a] pos) tA:=by
 intro wh pins s σ H Q I h
 refine isTrue_and (dX (ha pins s σ H Q I h) fun c s1 e=>?_)
 cases c with
 |true=>exact isTrue_and_nil e
 |false=>exact e
theorem NU (ha:PT X a tA):PW X (.BoolOp .Or [a] pos) tA:=by
 intro wh pins s σ H Q I h
 refine isTrue_or (dX (ha pins s σ H Q I h) fun c s1 e=>?_)
 cases c with
 |false=>exact isTrue_or_nil e
 |true=>exact e
theorem NV (ha:PT X a tA) (hb:PW X (.BoolOp .And (b::bA) pos) tB'):PW X (.BoolOp .And (a::b::bA) pos) (RN tA tB'):=by
 intro wh pins s σ H Q I h
 refine isTrue_and (dX (ha pins s σ H _ I h) fun c s1 ⟨H1,I1,q1⟩=>?_)
 cases c with
 |true=>exact hb wh pins s1 σ H1 Q I1 q1
 |false=>exact ⟨H1,I1,q1⟩
theorem PN (ha:PT X a tA) (hb:PW X (.BoolOp .Or (b::bA) pos) tB'):PW X (.BoolOp .Or (a::b::bA) pos) (Tz tA tB'):=by
 intro wh pins s σ H Q I h
 refine isTrue_or (dX (ha pins s σ H _ I h) fun c s1 ⟨H1,I1,q1⟩=>?_)
 cases c with
 |true=>exact ⟨H1,I1,q1⟩
 |false=>exact hb wh pins s1 σ H1 Q I1 q1
theorem NW (ha:PT X a tA):PT X (.UnaryOp .Not a pos) (RO tA):=by
 intro pins s σ H Q I h
 exact isTrue_not (dX (ha pins s σ H (fun c H1=>Q (!c) H1) I h) fun _ _ x=>by obtain ⟨a,b,c⟩:=x;exact ⟨a,b,c⟩)
def PP (ta tb:TE):TE:=fun σ H Q=>ta σ H fun x H1=>∃ c,x=.bl c/\if c=true then tb σ H1 Q else Q (.bl false) H1
def PQ (ta:TE):TE:=fun σ H Q=>ta σ H fun x H1=>∃ c,x=.bl c/\Q (.bl (!c)) H1
theorem NX {op}{t:TE} (h:PE X a t):PE X (.BoolOp op [a] pos) t:=fun pins s σ H Q I hw=>BoolOp_one (h pins s σ H Q I hw)
theorem NY (ha:PE X a ta) (hb:PE X (.BoolOp .And (b::bA) pos) tb):PE X (.BoolOp .And (a::b::bA) pos) (PP ta tb):=by
 intro pins s σ H Q I h
 refine BoolOp_and (dX (ha pins s σ H _ I h) fun v s1 ⟨x,H1,I1,r1,q1⟩=>?_)
 obtain ⟨c,rfl,q1⟩:=q1
 cases r1
 refine cL ?_
 cases c with
 |true=>exact hb pins s1 σ H1 Q I1 q1
 |false=>exact ⟨.bl false,H1,I1,rfl,q1⟩
theorem NZ (ha:PE X a ta):PE X (.UnaryOp .Not a pos) (PQ ta):=by
 intro pins s σ H Q I h
 refine UnaryOp_ (dX (ha pins s σ H _ I h) fun v s1 ⟨x,H1,I1,r1,q1⟩=>?_)
 obtain ⟨c,rfl,q1⟩:=q1
 cases r1
 exact not_of (cL ⟨.bl (!c),H1,I1,rfl,q1⟩)
end
end L2
namespace L2
open PySem PySem.Spec PyProof.Rows
inductive SQ (K:a8) (a:ah) (xs:List V):Prop
 |mk (o:Obj) (its:Array a9) (n:Nat) (h0:K.lookup a=some o) (h1:o.cls=.type "list") (h2:o.dict=none) (h3:o.data=.seq its n) (h4:its.size<=sizeLine) (h5:dg xs its.toList):SQ K a xs
def lz (K:a8) (H:Hp) (a:ah) (xs:List V):Prop :=
 Rd H a (.lst xs)\/SQ K a xs
inductive SS (K:a8) (a:ah) (xs:List V):Prop
 |mk (o:Obj) (its:Array a9) (n:Nat) (h0:K.lookup a=some o) (h1:o.cls=.type "tuple") (h3:o.data=.seq its n) (h4:its.size<=sizeLine) (h5:dg xs its.toList):SS K a xs
def jR (K:a8) (H:Hp) (a:ah) (xs:List V):Prop :=
 Rd H a (.tup xs)\/SS K a xs
def RP:a9->Option V
 |.none=>some .non
 |.bool b=>some (.bl b)
 |.int i _=>some (.int i)
 |.str x _=>some (.str x)
 |.bytes b _=>some (.byt b)
 |.float b _=>some (.flt b)
 |.ref a=>some (.ref a)
 |.type n=>some (.ty n)
 |_=>none
theorem cX.abs {x:V}{u:a9} (r:cX x u):RP u=some x:=by
 cases x with
 |non=>cases r;rfl
 |bl _=>cases r;rfl
 |int _=>obtain ⟨t,rfl⟩:=r;rfl
 |str _=>obtain ⟨t,rfl⟩:=r;rfl
 |byt _=>obtain ⟨t,rfl⟩:=r;rfl
 |flt _=>obtain ⟨t,rfl⟩:=r;rfl
 |ref _=>cases r;rfl
 |ty _=>cases r;rfl
theorem cX.inj {x y:V}{u:a9} (r:cX x u) (q:cX y u):x=y:=bE (r.abs.symm.trans q.abs)
theorem dg.inj {xs:List V}{us:List a9} (h:dg xs us):∀ {ys:List V},dg ys us->xs=ys:=by
 induction h with
 |nil=>intro ys k;cases k;rfl
 |cons r t ih=>intro ys k;cases k with|cons r' t'=>rw [r.inj r',ih t']
section
variable {X:Cx}{pins:List (ah×Obj)}{σ:St}{H:Hp}{s:ae}{a:ah}{xs ys:List V}
theorem lz.of {K:a8} (h:H a=some (.lst xs)):lz K H a xs:=.inl (.inl h)
theorem jR.of {K:a8} (h:H a=some (.tup xs)):jR K H a xs:=.inl (.inl h)
inductive SU (h:bu) (a:ah) (xs:List V):Prop
 |mk (its:List a9) (r:dg xs its) (p:PlainL h a its.toArray) (z:xs.length<=sizeLine):SU h a xs
inductive SW (h:bu) (a:ah) (xs:List V):Prop
 |mk (its:List a9) (r:dg xs its) (p:Gu h a its.toArray) (z:xs.length<=sizeLine):SW h a xs
inductive SX (h:bu) (l:ah) (xs:List V):Prop
 |mk (z:xs.length<=sizeLine) (its:List a9) (n:Nat) (r:dg xs its) (hl:xs.length=its.length) (e:h.get? l=some { cls:=.type "list",data:=.seq its.toArray n }):SX h l xs
theorem bz.list (I:bz X pins σ H s) (h:lz X.K H a xs):SU s.heap a xs:=by
 rcases h with h|⟨o,its,n,hk,hc,hd,hs,hz,r⟩
 ·obtain ⟨z,its,n,r,e⟩:=h.ok I.hok
  exact ⟨its,r,⟨_,n,e,rfl,rfl,rfl⟩,z⟩
 ·refine ⟨its.toList,r,⟨o,n,I.kIn a o hk,hc,hd,by simpa using hs⟩,?_⟩
  have e:=r.length
  simp only [aL] at e
  omega
theorem bz.tuple (I:bz X pins σ H s) (h:jR X.K H a xs):SW s.heap a xs:=by
 rcases h with h|⟨o,its,n,hk,hc,hs,hz,r⟩
 ·obtain ⟨z,its,r,p⟩:=h.ok I.hok
  exact ⟨its,r,p,z⟩
 ·refine ⟨its.toList,r,⟨o,I.kIn a o hk,hc,n,by simpa using hs⟩,?_⟩
  have e:=r.length
  simp only [aL] at e
  omega
theorem bz.list_inj (I:bz X pins σ H s) (h:lz X.K H a xs) (h':lz X.K H a ys):xs=ys:=by
 obtain ⟨its,r,⟨o,n,e,_,_,d⟩,_⟩:=I.list h
 obtain ⟨its',r',⟨o',n',e',_,_,d'⟩,_⟩:=I.list h'
 rw [e] at e';cases e'
 rw [d] at d'
 injection d' with d1 _
 have:its=its':=by simpa using congrArg Array.toList d1
 subst this
 exact r.inj r'
theorem bz.tuple_inj (I:bz X pins σ H s) (h:jR X.K H a xs) (h':jR X.K H a ys):xs=ys:=by
 obtain ⟨its,r,⟨o,e,_,n,d⟩,_⟩:=I.tuple h
 obtain ⟨its',r',⟨o',e',_,n',d'⟩,_⟩:=I.tuple h'
 rw [e] at e';cases e'
 rw [d] at d'
 injection d' with d1 _
 have:its=its':=by simpa using congrArg Array.toList d1
 subst this
 exact r.inj r'
end
abbrev Cx.wish (X:Cx) (E:a9->ae->Prop):Cx:={ X with xe:=E }
abbrev Cx.nox (X:Cx):Cx:=X.wish fun _ _=>False
theorem Cx.Ok.wish {X:Cx} (ok:X.Ok) (E:a9->ae->Prop):(X.wish E).Ok :=
 ⟨ok.mod,ok.kind,ok.glob,ok.blt,ok.above,ok.inj,ok.has,ok.cab,ok.hd,ok.frames,ok.stk,ok.exf,ok.bs,ok.bsz,ok.noex,ok.exfs,ok.funs,ok.frf⟩
theorem Cx.Ok.unwish {X:Cx}{E:a9->ae->Prop} (ok:(X.wish E).Ok):X.Ok :=
 ⟨ok.mod,ok.kind,ok.glob,ok.blt,ok.above,ok.inj,ok.has,ok.cab,ok.hd,ok.frames,ok.stk,ok.exf,ok.bs,ok.bsz,ok.noex,ok.exfs,ok.funs,ok.frf⟩
section
variable {X:Cx}{pins:List (ah×Obj)}{σ:St}{H:Hp}{s:ae}{E:a9->ae->Prop}
theorem bz.wish (I:bz X pins σ H s) (E:a9->ae->Prop):bz (X.wish E) pins σ H s:=⟨I.ok.wish E,I.os,I.bare,I.base,I.loc,I.cell,I.free,I.freeC,I.pin,I.hok,I.len⟩
theorem bz.unwish (I:bz (X.wish E) pins σ H s):bz X pins σ H s:=⟨I.ok.unwish,I.os,I.bare,I.base,I.loc,I.cell,I.free,I.freeC,I.pin,I.hok,I.len⟩
theorem SP.unwish {D:yT}{f:Flow}{s':ae} (h:SP (X.wish E) pins D f s'):SP X pins D f s':=by
 cases f with
 |next=>obtain ⟨σ',H',I,q⟩:=h;exact ⟨σ',H',I.unwish,q⟩
 |brk=>obtain ⟨σ',H',I,q⟩:=h;exact ⟨σ',H',I.unwish,q⟩
 |cont=>obtain ⟨σ',H',I,q⟩:=h;exact ⟨σ',H',I.unwish,q⟩
 |ret u=>obtain ⟨v,σ',H',I,r,q⟩:=h;exact ⟨v,σ',H',I.unwish,r,q⟩
end
section
variable {X:Cx}{st:eJ}{bA:List eJ}{t u:TS}{e:a_}{te:TE}{pos:Pos}
def PR:TS:=fun D σ H=>D.nx σ H
def RQ (t u:TS):TS:=fun D σ H=>t { D with nx:=u D } σ H
theorem Lf:DK X [] PR:=fun _ _ σ H _ I h=>rF ⟨σ,H,I,h⟩
theorem oJ (h1:PS X st t) (h2:DK X bA u):DK X (st::bA) (RQ t u):=by
 intro pins s σ H D I h
 refine wpAny_execs_cons (dX (h1 pins s σ H { D with nx:=u D } I h) fun f s1 q=>?_)
 cases f with
 |next =>
  obtain ⟨σ',H',I',q⟩:=q
  exact h2 pins s1 σ' H' D I' q
 |ret v=>exact q
 |brk=>exact q
 |cont=>exact q
theorem Lg (h1:PS X st t):DK X [st] t:=by
 intro pins s σ H D I h
 refine wpAny_execs_cons (dX (h1 pins s σ H D I h) fun f s1 q=>?_)
 cases f with
 |next=>exact rF q
 |ret v=>exact q
 |brk=>exact q
 |cont=>exact q
def N_:TS:=fun D σ H=>D.bk σ H
theorem Hi:PS X (.Break pos) N_:=fun _ _ σ H _ I h=>wpAny_Break ⟨σ,H,I,h⟩
theorem bz.quiet {pins:List (ah×Obj)}{σ:St}{H:Hp}{s:ae} (I:bz X pins σ H s):interactive X.env=false:=by simp [interactive,I.ok.kind]
def PU (te:TE):TS:=fun D σ H=>te σ H fun _ H1=>D.nx σ H1
theorem vc (he:PE X e te) (hs:fE e none pos.line X.env=pure false:=by rfl):PS X (.Expr e pos) (PU te):=by
 intro pins s σ H D I h
 exact wpAny_Expr_any (dX (he pins s σ H _ I h) fun v s1 h_7=>by obtain ⟨x,H1,I1,r1,q1⟩:=h_7;exact ⟨σ,H1,I1,q1⟩) I.quiet hs
def RS (te:TE):TS:=fun D σ H=>te σ H D.rt
theorem O0 (he:PE X e te):PS X (.Return (some e) pos) (RS te):=by
 intro pins s σ H D I h
 exact wpAny_Return_some (dX (he pins s σ H _ I h) fun v s1 h_8=>by obtain ⟨x,H1,I1,r1,q1⟩:=h_8;exact ⟨x,σ,H1,I1,r1,q1⟩)
def RT (c:TT) (t u:TS):TS:=fun D σ H=>c σ H fun b H1=>if b=true then t D σ H1 else u D σ H1
theorem PV {c:a_}{a b:List eJ}{tc:TT} (hc:PT X c tc) (ha:DK X a t) (hb:DK X b u):PS X (.If c a b pos) (RT tc t u):=by
 intro pins s σ H D I h
 refine wpAny_If (dX (hc pins s σ H _ I h) fun d s1 ⟨H1,I1,q1⟩=>?_)
 cases d with
 |true=>exact ha pins s1 σ H1 D I1 q1
 |false=>exact hb pins s1 σ H1 D I1 q1
def O1:TS:=fun _ _ _=>False
theorem pG {sts:List eJ}:DK X sts O1:=fun _ _ _ _ _ _ h=>h.elim
end
abbrev TG:=V->St->Hp->(St->Hp->Prop)->Prop
abbrev Hj:=List V->St->Hp->(St->Hp->Prop)->Prop
def PG (X:Cx) (target:a_) (t:TG):Prop :=
 ∀ (pins:List (ah×Obj)) (s:ae) (σ:St) (H:Hp) (v:V) (u:a9) (Q:St->Hp->Prop),bz X pins σ H s->cX v u->t v σ H Q ->
  ao (ar X.prog X.w) X.A (i9 target X.env u) (fun _ s'=>SN X pins Q s') X.xe s
def MA (X:Cx) (ts:List a_) (t:Hj):Prop :=
 ∀ (pins:List (ah×Obj)) (s:ae) (σ:St) (H:Hp) (vs:List V) (us:List a9) (Q:St->Hp->Prop),bz X pins σ H s->dg vs us->t vs σ H Q ->
  ao (ar X.prog X.w) X.A (assignInOrder ((ic ts X.env).map (·.2)) us) (fun _ s'=>SN X pins Q s') X.xe s
abbrev Rs:=V->V->Hp->VK->Prop
def SY (X:Cx) (op:Operator) (t:Rs):Prop :=
 ∀ (pins:List (ah×Obj)) (s:ae) (σ:St) (H:Hp) (x y:V) (v u:a9) (Q:VK),bz X pins σ H s->cX x v->cX y u->t x y H Q ->
  ao (ar X.prog X.w) X.A (inplaceOp op v u) (EP X pins σ Q) X.xe s
section
variable {X:Cx}{pos:Pos}
def mL (i:Nat):TG:=fun v σ H Q=>Q (σ.set i (some v)) H
theorem dA {i:Nat}{x:Str} (hN:X.N.Nodup) (hi:X.N[i]?=some x) (hx:KC X.env.scope x) (hf:X.fn x=true\/X.env.scope.names.lookup x=some .local:=by first|exact .inl rfl|exact .inr rfl|assumption):PG X (.Name x pos) (mL i):=by
 intro pins s σ H v u Q I r h
 exact xa (vD I hN hi hx r (fun s' I'=>⟨_,H,I',h⟩) hf)
def aV:Hj:=fun vs σ H Q=>vs=[]/\Q σ H
inductive Hk (t:TG) (u:Hj) (vs:List V) (σ:St) (H:Hp) (Q:St->Hp->Prop):Prop
 |mk (v r:_) (h0:vs=v::r) (h1:t v σ H fun σ' H'=>u r σ' H' Q):Hk t u vs σ H Q
def ag (t:TG) (u:Hj):Hj:=Hk t u
theorem yU:MA X [] aV:=by
 intro pins s σ H vs us Q I r h
 obtain ⟨e,h⟩:=h
 subst e
 cases r
 exact assignInOrder_nil ⟨σ,H,I,h⟩
theorem oK {e:a_}{es:List a_}{t:TG}{u:Hj} (h1:PG X e t) (h2:MA X es u)
  (hs:(ic (e::es) X.env).map (·.2)=i9 e X.env::(ic es X.env).map (·.2):=by rfl):MA X (e::es) (ag t u):=by
 intro pins s σ H vs us Q I r h
 obtain ⟨v,vr,e1,h⟩:=h
 subst e1
 cases r with
 |cons r rr =>
  rw [hs]
  refine assignInOrder_cons (dX (h1 pins s σ H _ _ _ I r h) fun _ s1 ⟨σ1,H1,I1,q1⟩=>?_)
  exact h2 pins s1 σ1 H1 _ _ Q I1 rr q1
inductive MB (K:a8) (n:Nat) (t:Hj) (v:V) (σ:St) (H:Hp) (Q:St->Hp->Prop):Prop
 |mk (a xs:_) (h0:v=.ref a) (h1:jR K H a xs) (h2:xs.length=n) (h3:t xs σ H Q):MB K n t v σ H Q
def O3 (K:a8) (n:Nat) (t:Hj):TG:=MB K n t
theorem Cs {es:List a_}{k:Nat}{t:Hj}{n:Nat} (hc:X.calm=true) (h:MA X es t)
  (hn:(ic es X.env).length=n:=by rfl) (hst:(ic es X.env).findIdx? (·.1)=none:=by rfl):PG X (.Tuple es k pos) (O3 X.K n t):=by
 intro pins s σ H v u Q I r hw
 obtain ⟨a,xs,e1,hq,hl,hw⟩:=hw
 subst e1
 cases r
 obtain ⟨its,rv,ht,hz⟩:=I.tuple hq
 refine assign_Tuple_tuple (I.ok.hd hc) ht (by simp [hn,<- hl,rv.length]) hst fun h' hx=>?_
 have I1:bz X pins σ H { s with heap:=h' }:=I.kept (t':=s.toks) fun b o e=>hx b o (aA (ap e)) e
 exact h pins _ σ H xs _ Q I1 (by simpa using rv) hw
def PX (te:TE) (g:TG):TS:=fun D σ H=>te σ H fun x H1=>g x σ H1 D.nx
theorem Hl {tg e:a_}{te:TE}{g:TG} (he:PE X e te) (hg:PG X tg g) (hs:swapsWithSole [tg] e pos.line X.env=pure false:=by rfl) (hw:swappedStores [tg] e X.env=pure none:=by rfl)
  (h1:(ic [tg] X.env).map (·.2)=[i9 tg X.env]:=by rfl):PS X (.Assign [tg] e pos) (PX te g):=by
 intro pins s σ H D I h
 refine wpAny_Assign_stores (dX (he pins s σ H _ I h) fun v s1 ⟨x,H1,I1,r1,q1⟩=>?_) hs hw
 rw [h1]
 exact dX (hg pins s1 σ H1 x v _ I1 r1 q1) fun _ s2 q=>q
theorem Ct {i:Nat}{x:Str}{e:a_}{te:TE}{pos':Pos} (hN:X.N.Nodup) (hi:X.N[i]?=some x) (hx:KC X.env.scope x) (he:PE X e te) (hs:fE e (some (.Name x pos')) pos.line X.env=pure false:=by rfl) (hf:X.fn x=true\/X.env.scope.names.lookup x=some .local:=by first|exact .inl rfl|exact .inr rfl|assumption) :
  PS X (.Assign [.Name x pos'] e pos) (PX te (mL i)):=by
 intro pins s σ H D I h
 refine wpAny_Assign_Name (dX (he pins s σ H _ I h) fun v s1 ⟨y,H1,I1,r1,q1⟩=>?_) hs
 exact vD I1 hN hi hx r1 (fun s2 I2=>⟨_,H1,I2,q1⟩) hf
def RU (i:Nat) (te:TE) (ti:Rs):TS:=fun D σ H=>∃ x,σ[i]?=some (some x)/\te σ H fun y H1=>ti x y H1 fun z H2=>D.nx (σ.set i (some z)) H2
theorem O4 {i:Nat}{x:Str}{e:a_}{te:TE}{op:Operator}{ti:Rs}{pos':Pos} (hN:X.N.Nodup) (hi:X.N[i]?=some x) (hx:KC X.env.scope x) (he:PE X e te) (ho:SY X op ti) (hf:X.fn x=true\/X.env.scope.names.lookup x=some .local:=by first|exact .inl rfl|exact .inr rfl|assumption) :
  PS X (.AugAssign (.Name x pos') op e pos) (RU i te ti):=by
 intro pins s σ H D I h
 obtain ⟨v,e1,h⟩:=h
 obtain ⟨m,hn,hl⟩:=I.loc
 have vis:GK X.env.scope x:=by rcases hx with k|k;exact .inl k;exact .inr (.inl k)
 obtain ⟨u,r,l⟩:=hl i x v hi e1 vis
 refine wpAny_AugAssign_Name ?_
 have go:ao (ar X.prog X.w) X.A (cj e X.env) (fun w s₂=>ao (ar X.prog X.w) X.A (inplaceOp op u w) (fun r s₃=>ao (ar X.prog X.w) X.A (storeName X.env x r) (fun _=>SP X pins D .next) X.xe s₃) X.xe s₂) X.xe s:=by
  refine dX (he pins s σ H _ I h) fun w s1 h_9=>?_
  obtain ⟨y,H1,I1,r1,q1⟩:=h_9
  refine dX (ho pins s1 σ H1 v y u w _ I1 r r1 q1) fun z s2 h_10=>?_
  obtain ⟨zv,H2,I2,r2,q2⟩:=h_10
  exact vD I2 hN hi hx r2 (fun s3 I3=>⟨_,H2,I3,q2⟩) hf
 rcases l with ⟨hk,hm⟩|⟨hk,c,hc,hcell⟩
 ·exact KL I.ok.kind hk hn hm go
 ·rcases hk with hk|hk
  ·exact wpAny_loadName_cell I.ok.kind hk hc hcell go
  ·rcases hx with k|k
   ·have:X.env.scope.names.lookup x=some .free:=hk
    rw [k] at this;cases this
   ·have:X.env.scope.names.lookup x=some .free:=hk
    rw [k] at this;cases this
def TC (f:Int->Int->Int):Rs:=fun x y H Q=>∃ i j,x=.int i/\y=.int j/\Q (.int (f i j)) H
theorem O5:SY X .Add (TC fun i j=>i+j):=by
 intro pins s σ H x y v u Q I r1 r2 h
 obtain ⟨i,j,e1,e2,q⟩:=h
 subst e1;subst e2
 obtain ⟨t,rfl⟩:=r1
 obtain ⟨t',rfl⟩:=r2
 exact iadd_int ⟨.int _,H,I.tok _,⟨_,rfl⟩,q⟩
end
section
variable {X:Cx}{pos:Pos}
def O6 (c:TT) (tb:TS):TS:=fun D σ H=>∃ W:Nat->St->Hp->Prop,(∃ m,W m σ H)/\∀ m σ H,W m σ H ->
 c σ H fun b H1=>if b=true then ∃ N:St->Hp->Prop,(∀ σ' H',N σ' H'->∃ m',m'<m/\W m' σ' H')/\tb { D with nx:=N,ct:=N,bk:=D.nx } σ H1 else D.nx σ H1
theorem Hm {c:a_}{body:List eJ}{tc:TT}{tb:TS} (hp:PassesOwn (ar X.prog X.w) X.A X.env X.xe) (hc:PT X c tc) (hb:DK X body tb):PS X (.While c body [] pos) (O6 tc tb):=by
 intro pins s σ H D I h
 obtain ⟨W,⟨m0,w0⟩,turn⟩:=h
 refine wpAny_While (codeAny_whileLoop (fun n s'=>∃ σ' H',bz X pins σ' H' s'/\W n σ' H') ?_ m0 ⟨σ,H,I,w0⟩)
 rintro n s1 ⟨σ1,H1,I1,w1⟩
 refine ir hp (dX (hc pins s1 σ1 H1 _ I1 (turn n σ1 H1 w1)) fun b s2 ⟨H2,I2,q2⟩=>?_)
 cases b with
 |true =>
  obtain ⟨N,hN,q2⟩:=q2
  rw [if_pos rfl]
  refine ir hp (dX (hb pins s2 σ1 H2 _ I2 q2) fun f s3 q3=>?_)
  cases f with
  |next =>
   obtain ⟨σ3,H3,I3,n3⟩:=q3
   obtain ⟨m',hm,w3⟩:=hN σ3 H3 n3
   exact ⟨m',hm,σ3,H3,I3,w3⟩
  |cont =>
   obtain ⟨σ3,H3,I3,n3⟩:=q3
   obtain ⟨m',hm,w3⟩:=hN σ3 H3 n3
   exact ⟨m',hm,σ3,H3,I3,w3⟩
  |brk=>exact q3
  |ret v=>exact q3
 |false =>
  rw [if_neg bj]
  exact rF ⟨σ1,H2,I2,q2⟩
end
structure It where
 go:Nat->Hp->Prop
 yld:Nat->Hp->V->Hp->Prop
 stop:Nat->Hp->Prop
structure jS (X:Cx) (pins:List (ah×Obj)) (H:Hp) (b:ah):Prop where
 f0:H b=none
 f1:b≠X.env.locals
 f2:b∉X.fs
 f3:b∈X.ex\/X.s₀.heap.objs.size<=b
 f4:∀ x c,X.env.cells.lookup x=some c->c≠b
 f5:∀ p∈X.pn++pins,p.1≠b
theorem bz.fpOk {X:Cx}{pins:List (ah×Obj)}{σ:St}{H H':Hp}{s:ae}{b:ah} (I:bz X pins σ H s) (hb:s.heap.objs.size<=b) (hn:H' b=none):jS X pins H' b:=by
 refine ⟨hn,dv (aD I.lt hb),I.nofs hb,.inr (bM I.sz hb),fun x c e z=>?_,fun p hp z=>?_⟩
 ·obtain ⟨v,q⟩:=I.cell x c e
  exact absurd (aD q.lt (by rw [z];exact hb)) (aU _)
 ·exact absurd (aD (ap (I.pin p hp).1) (by rw [z];exact hb)) (aU _)
structure tS (P:aS) (w:bn) (K:a8) (tg:a_) (J:It) (fp:List ah) (it:ah) (tn:Nat->bu->Prop):Prop where
 mem:it∈fp
 obj:∀ i h,tn i h->∀ b∈fp,∃ o,h.get? b=some o/\∀ v,o.data≠.cell v
 keep:∀ i h h',tn i h->(∀ b∈fp,∀ o,h.get? b=some o->h'.get? b=some o)->tn i h'
 item:∀ (X:Cx),X.prog=P->X.w=w->X.K=K->X.calm=true->∀ (i:Nat) (pins:List (ah×Obj)) (s:ae) (σ:St) (H:Hp) (E:a9->ae->Prop),bz X pins σ H s->(∀ b∈fp,jS X pins H b)->tn i s.heap->J.go i H ->
  ao (ar P w) X.A (iP (.ref it)) (fun r s1=>∃ u,r=some u /\
   ao (ar P w) X.A (cB tg (.ref it) u) (fun _ s2=>∃ x H',bz X pins σ H' s2/\cX x u/\J.yld i H x H'/\tn (i+1) s2.heap/\∀ b∈fp,H' b=none) E s1) E s
 done:∀ (X:Cx),X.prog=P->X.w=w->X.K=K->X.calm=true->∀ (i:Nat) (pins:List (ah×Obj)) (s:ae) (σ:St) (H:Hp) (E:a9->ae->Prop),bz X pins σ H s->(∀ b∈fp,jS X pins H b)->tn i s.heap->J.stop i H ->
  ao (ar P w) X.A (iP (.ref it)) (fun r s1=>r=none/\bz X pins σ H s1) E s
 self:∀ (A:bv) (i:Nat) (s:ae) (Q:a9->ae->Prop) (E:a9->ae->Prop),tn i s.heap->Q (.ref it) s->ao (ar P w) A (tq (.ref it)) Q E s
abbrev TI:=St->Hp->(It->Hp->Prop)->Prop
inductive RV (X:Cx) (pins:List (ah×Obj)) (σ:St) (tg:a_) (R:It->Hp->Prop) (itv:a9) (s2:ae):Prop
 |mk (it:ah) (fp:List ah) (tn:Nat->bu->Prop) (J:It) (H':Hp) (h0:itv=.ref it) (I:bz X pins σ H' s2) (T:tS X.prog X.w X.K tg J fp it tn) (t0:tn 0 s2.heap) (f:∀ b∈fp,jS X pins H' b) (q:R J H'):RV X pins σ tg R itv s2
inductive RW (X:Cx) (pins:List (ah×Obj)) (tn:Nat->bu->Prop) (fp:List ah) (W:Nat->Nat->St->Hp->Prop) (n:Nat) (s':ae):Prop
 |mk (i:Nat) (σ':St) (H':Hp) (I:bz X pins σ' H' s') (t:tn i s'.heap) (f:∀ b∈fp,H' b=none) (q:W i n σ' H'):RW X pins tn fp W n s'
def PI (X:Cx) (tg iter:a_) (wi:TI):Prop :=
 ∀ (pins:List (ah×Obj)) (s:ae) (σ:St) (H:Hp) (R:It->Hp->Prop),bz X pins σ H s->wi σ H R ->
  ao (ar X.prog X.w) X.A (cj iter X.env) (fun v s1=>ao (ar X.prog X.w) X.A (tq v) (RV X pins σ tg R) X.xe s1) X.xe s
theorem Ho {M : KJ} {A : bv} {E : a9 -> ae -> Prop} {s : ae} {tg : a_} {it : ah} {u : a9} {o : Obj} {n : String} {vs : Array a9} {Q : Unit -> ae -> Prop} (ho : s.heap.get? it = some o) (hc : o.cls = .type n) (hd : o.data = .fields vs)
    (hn : ["enumerate", "zip", "dict_itemiterator", "dict_reverseitemiterator", "odict_iterator", "itertools.zip_longest", "itertools.pairwise"].contains n = false) (hQ : Q () s) : ao M A (cB tg (.ref it) u) Q E s := by
  unfold cB
  cases tg <;> first
    | exact ac hQ
    | (cases u <;> first
        | exact ac hQ
        | (refine a7 (wpAny_load ho ?_)
           rw [hc, hd]
           show ao M A (if (["enumerate", "zip", "dict_itemiterator", "dict_reverseitemiterator", "odict_iterator", "itertools.zip_longest", "itertools.pairwise"].contains n && vs[0]? == some (b_ _)) = true then _ else _) Q E s
           rw [if_neg (by intro h; rw [hn, xL] at h; cases h)]
           exact ac hQ))
def RX (K:a8) (a:ah):It :=
 ⟨fun i H=>∃ xs x,lz K H a xs/\xs[i]?=some x,fun i H x H'=>H'=H/\∀ xs,lz K H a xs->xs[i]?=some x,fun i H=>∃ xs,lz K H a xs/\xs.length<=i⟩
def RY (K:a8) (a:ah):It :=
 ⟨fun i H=>∃ xs x,jR K H a xs/\xs[i]?=some x,fun i H x H'=>H'=H/\∀ xs,jR K H a xs->xs[i]?=some x,fun i H=>∃ xs,jR K H a xs/\xs.length<=i⟩
def Rt (lo:Int) (n:Nat):It:=⟨fun i _=>i<n,fun i H x H'=>H'=H/\x=.int (lo+i),fun i _=>n<=i⟩
theorem Ff {P:aS}{w:bn}{K:a8}{tg:a_} (a it:ah):tS P w K tg (RX K a) [it] it (fun i h=>h.IsListIter it a i) where
 mem:=by simp
 obj:=fun i h st b hb=>by
  have e:b=it:=by simpa using hb
  subst e
  obtain ⟨o,e,c,d⟩:=st
  exact ⟨o,e,fun v z=>by rw [d] at z;cases z⟩
 keep:=fun i h h' st k=>st.at fun o e=>k it (by simp) o e
 item:=by
  intro X hP hw hK hc i pins s σ H E I hf st hg
  subst hP hw hK
  obtain ⟨xs,x,hq,hx⟩:=hg
  obtain ⟨its,rv,p,hz⟩:=I.list hq
  obtain ⟨u,hu,ru⟩:=rv.get hx
  obtain ⟨f0,f1,f2,f3,f4,f5⟩:=hf it (by simp)
  refine wpAny_pyNext_list_item st p.isList (x:=u) (by simpa using hu) fun h' st' sb=>?_
  have I1:bz X pins σ H { s with heap:=h' }:=I.turned (t':=s.toks) (fun b o hb e=>(sb.2 b hb).trans e) f0 f1 f3 f4 f5
  obtain ⟨o,e,c,d⟩:=id st'
  exact ⟨u,rfl,Ho (s:={ s with heap:=h' }) e c d (by decide) ⟨x,H,I1,ru,⟨rfl,fun ys hy=>by rw [I.list_inj hy hq];exact hx⟩,st',fun b hb=>(hf b hb).1⟩⟩
 done:=by
  intro X hP hw hK hc i pins s σ H E I hf st hg
  subst hP hw hK
  obtain ⟨xs,hq,hx⟩:=hg
  obtain ⟨its,rv,p,hz⟩:=I.list hq
  obtain ⟨f0,f1,f2,f3,f4,f5⟩:=hf it (by simp)
  have hl:=rv.length
  exact wpAny_pyNext_list_end (I.ok.hd hc) st p.isList (by simp;omega) fun h' eb=>⟨rfl,I.turned (t':=s.toks) (fun b o hb e=>eb b o hb e) f0 f1 f3 f4 f5⟩
 self:=fun _ _ _ _ _ st h=>wpAny_pyIter_listiter st h
theorem Cu {P:aS}{w:bn}{K:a8}{tg:a_} (a it:ah):tS P w K tg (RY K a) [it] it (fun i h=>h.IsTupleIter it a i) where
 mem:=by simp
 obj:=fun i h st b hb=>by
  have e:b=it:=by simpa using hb
  subst e
  obtain ⟨o,e,c,d⟩:=st
  exact ⟨o,e,fun v z=>by rw [d] at z;cases z⟩
 keep:=fun i h h' st k=>st.at fun o e=>k it (by simp) o e
 item:=by
  intro X hP hw hK hc i pins s σ H E I hf st hg
  subst hP hw hK
  obtain ⟨xs,x,hq,hx⟩:=hg
  obtain ⟨its,rv,p,hz⟩:=I.tuple hq
  obtain ⟨u,hu,ru⟩:=rv.get hx
  obtain ⟨f0,f1,f2,f3,f4,f5⟩:=hf it (by simp)
  refine wpAny_pyNext_tuple_item st (show s.heap.IsTuple a its.toArray from p) (x:=u) (by simpa using hu) fun h' st' sb=>?_
  have I1:bz X pins σ H { s with heap:=h' }:=I.turned (t':=s.toks) (fun b o hb e=>(sb.2 b hb).trans e) f0 f1 f3 f4 f5
  obtain ⟨o,e,c,d⟩:=id st'
  exact ⟨u,rfl,Ho (s:={ s with heap:=h' }) e c d (by decide) ⟨x,H,I1,ru,⟨rfl,fun ys hy=>by rw [I.tuple_inj hy hq];exact hx⟩,st',fun b hb=>(hf b hb).1⟩⟩
 done:=by
  intro X hP hw hK hc i pins s σ H E I hf st hg
  subst hP hw hK
  obtain ⟨xs,hq,hx⟩:=hg
  obtain ⟨its,rv,p,hz⟩:=I.tuple hq
  obtain ⟨f0,f1,f2,f3,f4,f5⟩:=hf it (by simp)
  have hl:=rv.length
  exact wpAny_pyNext_tuple_end (I.ok.hd hc) st (show s.heap.IsTuple a its.toArray from p) (by simp;omega) fun h' eb=>⟨rfl,I.turned (t':=s.toks) (fun b o hb e=>eb b o hb e) f0 f1 f3 f4 f5⟩
 self:=fun _ _ _ _ _ st h=>wpAny_pyIter_tupleiter st h
theorem Cv {P:aS}{w:bn}{K:a8}{tg:a_} (it:ah) (lo:Int) (n:Nat):tS P w K tg (Rt lo n) [it] it (fun i h=>IsRangeIter h it (lo+(i:Nat)*1) ((n:Int)-(i:Nat)) 1) where
 mem:=by simp
 obj:=fun i h st b hb=>by
  have e:b=it:=by simpa using hb
  subst e
  exact ⟨_,st,fun v z=>by
   have z':Data.fields _=Data.cell v:=z
   cases z'⟩
 keep:=fun i h h' st k=>k it (by simp) _ st
 item:=by
  intro X hP hw hK hc i pins s σ H E I hf st hg
  subst hP hw hK
  obtain ⟨f0,f1,f2,f3,f4,f5⟩:=hf it (by simp)
  have W:=Walks.range (prog:=X.prog) (w:=X.w) (I.ok.hd hc) it lo 1 n
  refine W.item i s _ _ hg st fun v h' tk hv st' kk=>?_
  obtain ⟨t,rfl⟩:=hv
  have I1:bz X pins σ H { s with heap:=h',toks:=tk }:=I.turned (fun b o hb e=>kk b o (by simpa using hb) e) f0 f1 f3 f4 f5
  refine ⟨_,rfl,Ho (s:={ s with heap:=h',toks:=tk }) (n:="range_iterator") st' rfl rfl (by decide) ⟨.int (lo+i),H,I1,⟨t,?_⟩,⟨rfl,rfl⟩,st',fun b hb=>(hf b hb).1⟩⟩
  rw [Int.mul_one]
 done:=by
  intro X hP hw hK hc i pins s σ H E I hf st hg
  subst hP hw hK
  obtain ⟨f0,f1,f2,f3,f4,f5⟩:=hf it (by simp)
  exact wpAny_pyNext_range_end (I.ok.hd hc) st (by have:n<=i:=hg;omega) fun h' eb=>⟨rfl,I.turned (t':=s.toks) (fun b o hb e=>eb b o hb e) f0 f1 f3 f4 f5⟩
 self:=fun _ _ _ _ _ st h=>wpAny_pyIter_rangeiter st h
end L2
namespace L2
open PySem PySem.Spec PyProof.Rows
section
variable {X:Cx}{tg:a_}
def PY (K:a8) (tl:TE):TI:=fun σ H R=>tl σ H fun x H1=>∃ a,x=.ref a/\(∃ xs,lz K H1 a xs)/\R (RX K a) H1
def RZ (K:a8) (tl:TE):TI:=fun σ H R=>tl σ H fun x H1=>∃ a,x=.ref a/\(∃ xs,jR K H1 a xs)/\R (RY K a) H1
theorem rR {l:a_}{tl:TE} (hl:PE X l tl):PI X tg l (PY X.K tl):=by
 intro pins s σ H R I h
 refine dX (hl pins s σ H _ I h) fun v s1 h_16=>?_
 obtain ⟨x,H1,I1,r1,q1⟩:=h_16
 obtain ⟨a,e,⟨xs,hq⟩,q⟩:=q1
 subst e
 cases r1
 obtain ⟨its,rv,p,hz⟩:=I1.list hq
 refine j_ p.isList ?_
 refine ⟨s1.heap.objs.size,[s1.heap.objs.size],_,_,H1,rfl,I1.kept (t':=s1.toks) fun b o e=>aa _ e,Ff a _,⟨_,aw _ rfl,rfl,rfl⟩,fun b hb=>?_,q⟩
 have e:b=s1.heap.objs.size:=by simpa using hb
 subst e
 exact I1.fpOk (am _) (I1.hok.fresh (am _))
theorem Hq {l:a_}{tl:TE} (hl:PE X l tl):PI X tg l (RZ X.K tl):=by
 intro pins s σ H R I h
 refine dX (hl pins s σ H _ I h) fun v s1 h_17=>?_
 obtain ⟨x,H1,I1,r1,q1⟩:=h_17
 obtain ⟨a,e,⟨xs,hq⟩,q⟩:=q1
 subst e
 cases r1
 obtain ⟨its,rv,p,hz⟩:=I1.tuple hq
 refine fN (show s1.heap.IsTuple a its.toArray from p) ?_
 refine ⟨s1.heap.objs.size,[s1.heap.objs.size],_,_,H1,rfl,I1.kept (t':=s1.toks) fun b o e=>aa _ e,Cu a _,⟨_,aw _ rfl,rfl,rfl⟩,fun b hb=>?_,q⟩
 have e:b=s1.heap.objs.size:=by simpa using hb
 subst e
 exact I1.fpOk (am _) (I1.hok.fresh (am _))
theorem Hr {pins:List (ah×Obj)}{σ:St}{H:Hp}{s:ae}{R:It->Hp->Prop}{E:a9->ae->Prop}{lo hi:Int}{t u v:Tok}{tk:Nat} (I:bz X pins σ H s) (h1:-(2 ^ 62)<=lo) (h2:lo<2 ^ 62) (h3:-(2 ^ 62)<=hi) (h4:hi<2 ^ 62)
  (q:R (Rt lo (hi-lo).toNat) H):ao (ar X.prog X.w) X.A (tq (.ref s.heap.objs.size)) (RV X pins σ tg R) E { s with heap:=s.heap.push { cls:=.type "range",data:=.fields #[.int lo t,.int hi u,.int 1 v] },toks:=tk }:=by
 refine wpAny_pyIter_range (IsRange.new ..) (small_one h1 h2 h3 h4) ?_
 have I1:bz X pins σ H { s with heap:=s.heap.push { cls:=.type "range",data:=.fields #[.int lo t,.int hi u,.int 1 v] },toks:=tk }:=I.kept fun b o e=>aa _ e
 refine ⟨(s.heap.push { cls:=.type "range",data:=.fields #[.int lo t,.int hi u,.int 1 v] }).objs.size,[(s.heap.push { cls:=.type "range",data:=.fields #[.int lo t,.int hi u,.int 1 v] }).objs.size],_,_,H,rfl,
  I1.kept (t':=tk) fun b o e=>aa _ e,Cv _ lo (hi-lo).toNat,?_,fun b hb=>?_,q⟩
 ·have e1:lo+((0:Nat):Int)*1=lo:=by simp
  have e2:(((hi-lo).toNat:Nat):Int)-((0:Nat):Int)=Builtin.Range.rangeSize lo hi 1:=by rw [rangeSize_one];split<;>omega
  show IsRangeIter _ _ (lo+((0:Nat):Int)*1) ((((hi-lo).toNat:Nat):Int)-((0:Nat):Int)) 1
  rw [e1,e2]
  exact aw _ rfl
 ·have e:b=(s.heap.push { cls:=.type "range",data:=.fields #[.int lo t,.int hi u,.int 1 v] }).objs.size:=by simpa using hb
  subst e
  exact I1.fpOk (am _) (I1.hok.fresh (am _))
def PZ (ta:TA):TI:=fun σ H R=>ta σ H fun vs H1=>∃ j:Int,vs=[.int j]/\-(2 ^ 62)<=j/\j<2 ^ 62/\R (Rt 0 j.toNat) H1
theorem Fg {a:a_}{ta:TA}{p pos:Pos} (hg:Gl X "range") (hm:X.mg "range"=none) (ha:PA X [a] ta) (hs:aE [a] X.env=[(false,cj a X.env)]:=by rfl):PI X tg (.Call (.Name "range" p) [a] [] pos) (PZ ta):=by
 intro pins s σ H R I h
 refine Call_ (oH I hg hm boot_range (eI (dX (ha pos pins s σ H _ I h) fun us s1 ⟨vs,H1,I1,r1,q1⟩=>?_) hs rfl))
 obtain ⟨j,e,q1,q2,q⟩:=q1
 subst e
 cases r1 with
 |cons r rr =>
  cases rr
  obtain ⟨t,rfl⟩:=r
  exact call_range_1 (Hr I1 (by omega) (by omega) q1 q2 (by simpa using q))
inductive R_ (g:TG) (tb:TS) (D:yT) (σ:St) (J:It) (H1:Hp):Prop
 |mk (W:Nat->Nat->St->Hp->Prop) (w0:∃ m,W 0 m σ H1) (turn:∀ i m σ H,W i m σ H ->
 (J.stop i H/\D.nx σ H)\/(J.go i H/\∃ N:St->Hp->Prop,(∀ σ' H',N σ' H'->∃ m',m'<m/\W (i+1) m' σ' H')/\∀ x H',J.yld i H x H'->g x σ H' fun σ2 H2=>tb { D with nx:=N,ct:=N,bk:=D.nx } σ2 H2)):R_ g tb D σ J H1
def S0 (wi:TI) (g:TG) (tb:TS):TS:=fun D σ H=>wi σ H (R_ g tb D σ)
def kg (fp:List ah) (h:bu):List (ah×Obj):=fp.filterMap fun b=>(h.get? b).map fun o=>(b,o)
theorem dI {fp:List ah}{h:bu}{b:ah}{o:Obj} (hb:b∈fp) (e:h.get? b=some o):(b,o)∈kg fp h:=List.mem_filterMap.mpr ⟨b,hb,by rw [e];rfl⟩
theorem xP {fp:List ah}{h:bu}{p:ah×Obj} (hp:p∈kg fp h):p.1∈fp/\h.get? p.1=some p.2:=by
 obtain ⟨b,hb,e⟩:=List.mem_filterMap.mp hp
 cases q:h.get? b with
 |none=>rw [q] at e;cases e
 |some o =>
  rw [q] at e
  have e':(b,o)=p:=bE e
  subst e'
  exact ⟨hb,q⟩
theorem bz.pinned {pins:List (ah×Obj)}{σ:St}{H:Hp}{s:ae}{fp:List ah} (I:bz X pins σ H s) (hf:∀ b∈fp,jS X pins H b) (ho:∀ b∈fp,∃ o,s.heap.get? b=some o/\∀ v,o.data≠.cell v):bz X (pins++kg fp s.heap) σ H s :=
 I.pins_of fun p hp=>(List.mem_append.mp hp).elim (fun z=>I.pin p (af _ z)) fun z=>by
  obtain ⟨hb,e⟩:=xP z
  obtain ⟨f0,f1,f2,_⟩:=hf p.1 hb
  obtain ⟨o,e',d⟩:=ho p.1 hb
  rw [e] at e';cases e'
  exact ⟨e,f0,f1,f2,d⟩
theorem bz.unpinned {pins pl:List (ah×Obj)}{σ:St}{H:Hp}{s:ae} (I:bz X (pins++pl) σ H s):bz X pins σ H s:=I.pins_of fun p hp=>I.pin p (af _ (bP _ hp))
theorem Ht {iter:a_}{body:List eJ}{wi:TI}{g:TG}{tb:TS}{pos:Pos} (hp:PassesOwn (ar X.prog X.w) X.A X.env X.xe) (hc:X.calm=true) (hi:PI X tg iter wi) (hg:PG X tg g) (hb:DK X body tb)
  (hs:∀ x,bB iter X.env x=pure x:=by intro _;rfl):PS X (.For tg iter body [] pos) (S0 wi g tb):=by
 intro pins s σ H D I h
 refine wpAny_For (dX (hi pins s σ H _ I h) fun v s1 h1=>dX h1 fun itv s2 h2=>?_) hs
 obtain ⟨it,fp,tn,J,H2,e,I2,T,st2,f2,W,⟨m0,w0⟩,turn⟩:=h2
 subst e
 have stat:∀ {H':Hp},(∀ b∈fp,H' b=none)->∀ b∈fp,jS X pins H' b:=fun hn b hb=>⟨hn b hb,(f2 b hb).f1,(f2 b hb).f2,(f2 b hb).f3,(f2 b hb).f4,(f2 b hb).f5⟩
 refine codeAny_forLoop_any (RW X pins tn fp W) ?_ m0 ⟨0,σ,H2,I2,st2,fun b hb=>(f2 b hb).1,w0⟩
 rintro n s3 ⟨i,σ3,H3,I3,st3,fr3,w3⟩
 rcases turn i n σ3 H3 w3 with ⟨stop,qn⟩|⟨go,N,hN,step⟩
 ·refine ir hp (dX (T.done X rfl rfl rfl hc i pins s3 σ3 H3 X.xe I3 (stat fr3) st3 stop) fun r s4 ⟨hr,I4⟩=>?_)
  subst hr
  exact rF ⟨σ3,H3,I4,qn⟩
 ·refine ir hp (dX (T.item X rfl rfl rfl hc i pins s3 σ3 H3 X.xe I3 (stat fr3) st3 go) fun r s4 ⟨u,hr,h4⟩=>?_)
  subst hr
  refine ir hp (dX h4 fun _ s5 ⟨x,H5,I5,r5,y5,st5,fr5⟩=>?_)
  have I5':=I5.pinned (stat fr5) (T.obj _ _ st5)
  refine ir hp (dX (hg _ s5 σ3 H5 x u _ I5' r5 (step x H5 y5)) fun _ s6 ⟨σ6,H6,I6,q6⟩=>?_)
  refine ir hp (dX (hb _ s6 σ6 H6 _ I6 q6) fun f s7 q7=>?_)
  have again:∀ {σ7:St}{H7:Hp},bz X (pins++kg fp s5.heap) σ7 H7 s7->N σ7 H7->∃ m,m<n/\RW X pins tn fp W m s7:=fun {σ7 H7} I7 n7=>by
   obtain ⟨m',hm,w7⟩:=hN σ7 H7 n7
   refine ⟨m',hm,i+1,σ7,H7,I7.unpinned,T.keep _ _ _ st5 fun b hb o e=>(I7.pin (b,o) (af _ (af _ (dI hb e)))).1,fun b hb=>?_,w7⟩
   obtain ⟨o,e,d⟩:=T.obj _ _ st5 b hb
   exact (I7.pin (b,o) (af _ (af _ (dI hb e)))).2.1
  cases f with
  |next=>obtain ⟨σ7,H7,I7,n7⟩:=q7;exact again I7 n7
  |cont=>obtain ⟨σ7,H7,I7,n7⟩:=q7;exact again I7 n7
  |brk=>obtain ⟨σ7,H7,I7,q7⟩:=q7;exact ⟨σ7,H7,I7.unpinned,q7⟩
  |ret v=>obtain ⟨x7,σ7,H7,I7,r7,q7⟩:=q7;exact ⟨x7,σ7,H7,I7.unpinned,r7,q7⟩
end
end L2
namespace L2
open PySem PySem.Spec PyProof.Rows
abbrev R2:=V->V->Hp->VK->Prop
def qh (X:Cx) (f:a9->a9->Sem a9) (r:R2):Prop :=
 ∀ (pins:List (ah×Obj)) (s:ae) (σ:St) (H:Hp) (x y:V) (v u:a9) (Q:VK),bz X pins σ H s->cX x v->cX y u->r x y H Q ->
  ao (ar X.prog X.w) X.A (f v u) (EP X pins σ Q) X.xe s
def jv (X:Cx) (f:a9) (r:List V->Hp->VK->Prop):Prop :=
 ∀ (pins:List (ah×Obj)) (s:ae) (σ:St) (H:Hp) (xs:List V) (us:List a9) (Q:VK),bz X pins σ H s->dg xs us->r xs H Q ->
  ao (ar X.prog X.w) X.A (call f us) (EP X pins σ Q) X.xe s
def S1 (X:Cx) (r:V->Hp->(Bool->Hp->Prop)->Prop):Prop :=
 ∀ (pins:List (ah×Obj)) (s:ae) (σ:St) (H:Hp) (x:V) (v:a9) (Q:Bool->Hp->Prop),bz X pins σ H s->cX x v->r x H Q ->
  ao (ar X.prog X.w) X.A (truthy v) (TP X pins σ Q) X.xe s
def P_ (r:R2) (ta tb:TE):TE:=fun σ H Q=>ta σ H fun x H1=>tb σ H1 fun y H2=>r x y H2 Q
inductive SZ (C:Int->Int->Prop) (g:Int->Int->V) (x:V) (y:V) (H:Hp) (Q:VK):Prop
 |mk (i j:_) (h0:x=.int i) (h1:y=.int j) (h2:C i j) (h3:Q (g i j) H):SZ C g x y H Q
def rI (C:Int->Int->Prop) (g:Int->Int->V):R2:=SZ C g
inductive Q0 (g:Int->Int->V) (x:V) (y:V) (H:Hp) (Q:VK):Prop
 |mk (i j:_) (h0:x=.int i) (h1:y=.int j) (h2:Q (g i j) H):Q0 g x y H Q
def O7 (g:Int->Int->V):R2:=Q0 g
section
variable {X:Cx}{a b c:a_}{ta tb tc:TE}{pos:Pos}
theorem O8 (ha:PE X a ta) (hb:PE X b tb) {pins:List (ah×Obj)}{s:ae}{σ:St}{H:Hp}{R:V->V->Hp->Prop} (I:bz X pins σ H s)
  (h:ta σ H fun x H1=>tb σ H1 fun y H2=>R x y H2) {Q:a9->ae->Prop}{f:a9->a9->Sem a9}
  (hf:∀ v u s2 x y H2,bz X pins σ H2 s2->cX x v->cX y u->R x y H2->ao (ar X.prog X.w) X.A (f v u) Q X.xe s2) :
  ao (ar X.prog X.w) X.A (cj a X.env) (fun v s₁=>ao (ar X.prog X.w) X.A (cj b X.env) (fun u s₂=>ao (ar X.prog X.w) X.A (f v u) Q X.xe s₂) X.xe s₁) X.xe s:=by
 refine dX (ha pins s σ H _ I h) fun v s1 h_19=>?_
 obtain ⟨x,H1,I1,r1,q1⟩:=h_19
 refine dX (hb pins s1 σ H1 _ I1 q1) fun u s2 h_20=>?_
 obtain ⟨y,H2,I2,r2,q2⟩:=h_20
 exact hf v u s2 x y H2 I2 r1 r2 q2
theorem Q1 {op:Operator}{r:R2} (ho:qh X (gW op) r) (ha:PE X a ta) (hb:PE X b tb):PE X (.BinOp a op b pos) (P_ r ta tb):=by
 intro pins s σ H Q I h
 exact wpAny_BinOp (O8 ha hb I h fun v u s2 x y H2 I2 rx ry q=>ho pins s2 σ H2 x y v u Q I2 rx ry q)
theorem S2 {f:a9->a9->Sem a9}{C:Int->Int->Prop}{g:Int->Int->Int}
  (rule:∀ (i j:Int) (t u:Tok) (s:ae) (Q:a9->ae->Prop) (E:a9->ae->Prop),C i j->Q (.int (g i j) s.toks) { s with toks:=s.toks+1 }->ao (ar X.prog X.w) X.A (f (.int i t) (.int j u)) Q E s) :
  qh X f (rI C fun i j=>.int (g i j)):=by
 intro pins s σ H x y v u Q I rx ry h
 obtain ⟨i,j,rfl,rfl,hc,q⟩:=h
 obtain ⟨t,rfl⟩:=rx
 obtain ⟨t',rfl⟩:=ry
 exact rule i j t t' s _ _ hc ⟨.int (g i j),H,I.tok _,⟨_,rfl⟩,q⟩
theorem S3 {f:a9->a9->Sem a9}{g:Int->Int->Int}
  (rule:∀ (i j:Int) (t u:Tok) (s:ae) (Q:a9->ae->Prop) (E:a9->ae->Prop),Q (.int (g i j) s.toks) { s with toks:=s.toks+1 }->ao (ar X.prog X.w) X.A (f (.int i t) (.int j u)) Q E s) :
  qh X f (O7 fun i j=>.int (g i j)):=by
 intro pins s σ H x y v u Q I rx ry h
 obtain ⟨i,j,rfl,rfl,q⟩:=h
 obtain ⟨t,rfl⟩:=rx
 obtain ⟨t',rfl⟩:=ry
 exact rule i j t t' s _ _ ⟨.int (g i j),H,I.tok _,⟨_,rfl⟩,q⟩
theorem O9 {f:a9->a9->Sem a9}{g:Int->Int->Bool}
  (rule:∀ (i j:Int) (t u:Tok) (s:ae) (Q:a9->ae->Prop) (E:a9->ae->Prop),Q (.bool (g i j)) s->ao (ar X.prog X.w) X.A (f (.int i t) (.int j u)) Q E s) :
  qh X f (O7 fun i j=>.bl (g i j)):=by
 intro pins s σ H x y v u Q I rx ry h
 obtain ⟨i,j,rfl,rfl,q⟩:=h
 obtain ⟨t,rfl⟩:=rx
 obtain ⟨t',rfl⟩:=ry
 exact rule i j t t' s _ _ ⟨.bl (g i j),H,I,rfl,q⟩
def S4 (i j:Int):Prop:=0<j/\j<1073741824
def Oa (i j:Int):Prop:=(-(2 ^ 64)<i/\i<2 ^ 64)\/(-(2 ^ 64)<j/\j<2 ^ 64)
theorem Oa.ok {i j:Int} (h:Oa i j):IntMulOk i j:=by
 rcases h with ⟨h1,h2⟩|⟨h1,h2⟩
 ·exact .of_left (intBits_le_64 h1 h2)
 ·exact .of_right (intBits_le_64 h1 h2)
theorem Ob:qh X (gW .Add) (O7 fun i j=>.int (i+j)):=S3 fun _ _ _ _ _ _ _ q=>add_int q
theorem Oc:qh X (gW .Mult) (rI Oa fun i j=>.int (i*j)):=S2 fun _ _ _ _ _ _ _ hc q=>mul_int q hc.ok
theorem Lh:qh X (gW .FloorDiv) (rI S4 fun i j=>.int (i / j)):=S2 fun i j _ _ _ _ _ hc q=>by
 have h1:(0:Int)<j:=hc.1
 have h2:j<1073741824:=hc.2
 exact floordiv_int (by omega) (by rw [Int.fdiv_eq_ediv_of_nonneg i (by omega)];exact q) (.inl (PyProof.noPylong_small (by omega)))
theorem Od:qh X (gW .Mod) (rI (fun _ j=>0<j) fun i j=>.int (i % j)):=S2 fun i j _ _ _ _ _ hc q=>by
 have h1:(0:Int)<j:=hc
 exact mod_int' (by omega) (by rw [Int.fmod_eq_emod_of_nonneg i (by omega)];exact q)
end
section
variable {X:Cx}{a b c:a_}{ta tb tc:TE}{pos:Pos}
theorem Hu {pins:List (ah×Obj)}{σ:St}{H:Hp}{s:ae}{Q:VK}{k k':Bool} (I:bz X pins σ H s) (q:Q (.bl k) H) (e:k=k'):EP X pins σ Q (.bool k') s:=by
 subst e
 exact ⟨.bl k,H,I,rfl,q⟩
theorem Q2:qh X (bG .Lt) (O7 fun i j=>.bl (decide (i<j))):=O9 fun _ _ _ _ _ _ _ q=>lt_int q
theorem Q3:qh X (bG .LtE) (O7 fun i j=>.bl (decide (i<=j))):=O9 fun _ _ _ _ _ _ _ q=>le_int q
theorem Q4:qh X (bG .Gt) (O7 fun i j=>.bl (decide (j<i))):=O9 fun _ _ _ _ _ _ _ q=>gt_int q
theorem Fh:qh X (bG .Lt) (fun x y H Q=>∃ i j,x=.str i/\y=.str j/\Q (.bl (decide (i.cps.toList<j.cps.toList))) H):=by
 intro pins s σ H x y v u Q I rx ry h
 obtain ⟨i,j,rfl,rfl,q⟩:=h
 obtain ⟨t,rfl⟩:=rx
 obtain ⟨t',rfl⟩:=ry
 exact lt_str (Hu I q rfl)
theorem Hv (b:a_) {op:Gw} (h:op≠.In:=by decide) (h2:op≠.NotIn:=by decide):gF op b=false:=by
 have e1:(op==CmpOp.In)=false:=by cases op<;>first|rfl|exact absurd rfl h
 have e2:(op==CmpOp.NotIn)=false:=by cases op<;>first|rfl|exact absurd rfl h2
 cases b<;>simp [gF,e1,e2]
theorem Li {op:Gw}{r:R2} (ho:qh X (bG op) r) (ha:PE X a ta) (hb:PE X b tb) (hm:gF op b=false):PE X (.Compare a [op] [b] pos) (P_ r ta tb):=by
 intro pins s σ H Q I h
 exact wpAny_Compare1 (O8 ha hb I h fun v u s2 x y H2 I2 rx ry q=>ho pins s2 σ H2 x y v u Q I2 rx ry q) hm
def MC (t:TE):TT:=fun σ H Q=>t σ H fun x H'=>∃ k,x=.bl k/\Q k H'
theorem Lj {op:Gw}{r:R2} (ho:qh X (bG op) r) (ha:PE X a ta) (hb:PE X b tb) (hm:gF op b=false):PT X (.Compare a [op] [b] pos) (MC (P_ r ta tb)):=by
 intro pins s σ H Q I h
 refine Kw (dX (ha pins s σ H _ I h) fun v s1 ⟨x,H1,I1,r1,q1⟩=>dX (hb pins s1 σ H1 _ I1 q1) fun u s2 ⟨y,H2,I2,r2,q2⟩ =>
  dX (ho pins s2 σ H2 x y v u _ I2 r1 r2 q2) fun c s3 ⟨z,H3,I3,r3,k,e,q3⟩=>?_) hm
 subst e
 cases r3
 exact cL ⟨H3,I3,q3⟩
def Cy (r r':R2) (ta tb tc:TE):TE:=fun σ H Q=>ta σ H fun x H1=>tb σ H1 fun y H2=>r x y H2 fun z H3=>∃ k,z=.bl k /\
 (if k=true then tc σ H3 fun w' H4=>r' y w' H4 Q else Q (.bl false) H3)
theorem Hw {op op':Gw}{r r':R2} (ho:qh X (bG op) r) (ho':qh X (bG op') r') (ha:PE X a ta) (hb:PE X b tb) (hc:PE X c tc)
  (hm:Gx [op,op'] [b,c]=false:=by with_unfolding_all rfl):PE X (.Compare a [op,op'] [b,c] pos) (Cy r r' ta tb tc):=by
 intro pins s σ H Q I h
 refine Compare_chain (dX (ha pins s σ H _ I h) fun v s1 ⟨x,H1,I1,r1,q1⟩=>chain_link (dX (hb pins s1 σ H1 _ I1 q1) fun u s2 ⟨y,H2,I2,r2,q2⟩ =>
  dX (ho pins s2 σ H2 x y v u _ I2 r1 r2 q2) fun d s3 ⟨z,H3,I3,r3,k,e,q3⟩=>?_)) hm
 subst e
 cases r3
 refine cL ?_
 cases k with
 |false=>exact ite_ff ⟨.bl false,H3,I3,rfl,q3⟩
 |true=>exact ite_tt (chain_last (dX (hc pins s3 σ H3 _ I3 q3) fun w' s4 h_22=>by obtain ⟨z',H4,I4,r4,q4⟩:=h_22;exact ho' pins s4 σ H4 y z' u w' Q I4 r2 r4 q4))
theorem Hx {op op':Gw}{r r':R2} (ho:qh X (bG op) r) (ho':qh X (bG op') r') (ha:PE X a ta) (hb:PE X b tb) (hc:PE X c tc)
  (hm:Gx [op,op'] [b,c]=false:=by with_unfolding_all rfl):PT X (.Compare a [op,op'] [b,c] pos) (MC (Cy r r' ta tb tc)):=by
 intro pins s σ H Q I h
 refine isTrue_chain (dX (ha pins s σ H _ I h) fun v s1 ⟨x,H1,I1,r1,q1⟩=>test_link (dX (hb pins s1 σ H1 _ I1 q1) fun u s2 ⟨y,H2,I2,r2,q2⟩ =>
  dX (ho pins s2 σ H2 x y v u _ I2 r1 r2 q2) fun d s3 ⟨z,H3,I3,r3,k,e,q3⟩=>?_)) hm
 subst e
 cases r3
 refine cL ?_
 cases k with
 |false =>
  obtain ⟨k',e',q'⟩:=q3
  cases e'
  exact ite_ff ⟨H3,I3,q'⟩
 |true =>
  refine ite_tt (test_last (dX (hc pins s3 σ H3 _ I3 q3) fun w' s4 ⟨z',H4,I4,r4,q4⟩=>dX (ho' pins s4 σ H4 y z' u w' _ I4 r2 r4 q4) fun d' s5 ⟨z2,H5,I5,r5,k2,e2,q5⟩=>?_))
  subst e2
  cases r5
  exact cL ⟨H5,I5,q5⟩
def Q5 (K:a8) (x:V) (H:Hp) (k:Bool):Prop :=
 match x with
 |.non=>k=false
 |.bl b=>k=b
 |.int i=>k=(i != 0)
 |.str y=>y.length<=sizeLine/\k=((y.length:Int) != 0)
 |.byt y=>y.size<=sizeLine/\k=((y.size:Int) != 0)
 |.ref p=>(∃ xs,lz K H p xs/\k=!xs.isEmpty)\/(∃ xs,jR K H p xs/\k=!xs.isEmpty)\/∃ kvs,H p=some (.dK kvs)/\k=!kvs.isEmpty
 |_=>False
theorem Cz {κ:Type}{kvs:List (κ×V)}{vs:List (κ×a9)} (r:KV kvs vs):(!vs.isEmpty)=!kvs.isEmpty:=by
 cases r<;>rfl
theorem vE {xs:List V}{its:List a9} (r:dg xs its):(!its.toArray.isEmpty)=!xs.isEmpty:=by
 cases r<;>simp
theorem tT:(sizeLine:Nat)<2 ^ 63:=by rw [h_];decide
theorem Oe:S1 X (fun x H Q=>∃ k,Q5 X.K x H k/\Q k H):=by
 intro pins s σ H x v Q I rx h
 obtain ⟨k,e,q⟩:=h
 have hl:=tT
 have hs:sizeLine=16777216:=h_
 cases x with
 |non =>
  cases rx
  have e':k=false:=e
  subst e'
  exact truthy_none ⟨H,I,q⟩
 |bl b =>
  cases rx
  have e':k=b:=e
  subst e'
  exact cL ⟨H,I,q⟩
 |int i =>
  obtain ⟨t,rfl⟩:=rx
  have e':k=(i != 0):=e
  subst e'
  exact PySem.P.truthy_int ⟨H,I,q⟩
 |str y =>
  obtain ⟨t,rfl⟩:=rx
  obtain ⟨hy,e'⟩:y.length<=sizeLine/\k=((y.length:Int) != 0):=e
  subst e'
  exact PySem.P.truthy_str (by omega) ⟨H,I.tok _,q⟩
 |byt y =>
  obtain ⟨t,rfl⟩:=rx
  obtain ⟨hy,e'⟩:y.size<=sizeLine/\k=((y.size:Int) != 0):=e
  subst e'
  exact PySem.W.truthy_bytes (by omega) ⟨H,I.tok _,q⟩
 |ref p =>
  cases rx
  have e':(∃ xs,lz X.K H p xs/\k=!xs.isEmpty)\/(∃ xs,jR X.K H p xs/\k=!xs.isEmpty)\/∃ kvs,H p=some (.dK kvs)/\k=!kvs.isEmpty:=e
  rcases e' with ⟨xs,hx,e'⟩|⟨xs,hx,e'⟩|⟨kvs,hx,e'⟩
  ·subst e'
   obtain ⟨its,r,pl,hz⟩:=I.list hx
   have hlen:=r.length
   exact wpAny_truthy_list pl.isList (by simp only [aH];omega) ⟨H,I.tok _,by rw [vE r];exact q⟩
  ·subst e'
   obtain ⟨its,r,pl,hz⟩:=I.tuple hx
   have hlen:=r.length
   exact truthy_tuple pl (by simp only [aH];omega) ⟨H,I.tok _,by rw [vE r];exact q⟩
  ·subst e'
   obtain ⟨hz,hS,vs,r,m⟩:kvs.length<=sizeLine/\(p==gD)=false/\∃ vs,KV kvs vs/\s.heap.DictOf (cq X.prog X.w) p vs:=I.hok p _ hx
   have hlen:kvs.length=vs.length:=gU r
   exact wpAny_truthy_dict hS m (by omega) ⟨H,I.tok _,by rw [Cz r];exact q⟩
 |_=>exact (show False from e).elim
theorem Hy (ha:PE X a ta) (he:∀ whole,kO a X.env whole=(do let v <- whole;jt a.pos;C0 [v] (truthy v))) :
  PT X a (fun σ H Q=>ta σ H fun x H'=>∃ k,Q5 X.K x H' k/\Q k H'):=by
 intro pins s σ H Q I h
 exact isTrue_plain (dX (ha pins s σ H _ I h) fun v s1 h_23=>by obtain ⟨x,H1,I1,r1,q1⟩:=h_23;exact Oe pins s1 σ H1 x v Q I1 r1 q1) (he _)
theorem CA:qh X (gW .Add) (fun x y H Q=>∃ i j,x=.str i/\y=.str j/\i.length+j.length<=sizeLine/\Q (.str (i++j)) H):=by
 intro pins s σ H x y v u Q I rx ry h
 obtain ⟨i,j,rfl,rfl,hz,q⟩:=h
 obtain ⟨t,rfl⟩:=rx
 obtain ⟨t',rfl⟩:=ry
 exact add_str (fun t' tk=>⟨.str (i++j),H,I.tok _,⟨_,rfl⟩,q⟩) hz
theorem kj {x:V}{us:List a9} (r:dg [x] us):∃ u,us=[u]/\cX x u:=by
 cases r with
 |cons r1 r2=>cases r2;exact ⟨_,rfl,r1⟩
theorem MD {x y:V}{us:List a9} (r:dg [x,y] us):∃ u w',us=[u,w']/\cX x u/\cX y w':=by
 cases r with
 |cons r1 r2 =>
  cases r2 with
  |cons r3 r4=>cases r4;exact ⟨_,_,rfl,r1,r3⟩
end
end L2
namespace L2
open PySem PySem.Spec PyProof.Rows
structure Of (h:bu) (x dx C:ah) (mA:Str->Option a9):Prop where
 obj:h.get? x=some (uG C dx)
 ns:h.Ns1 dx mA
 ne:dx≠x
theorem Fi {h:bu}{dx:ah}{mA:Str->Option a9} (n:h.Ns1 dx mA):∃ od,h.get? dx=some od/\∀ name,vw name od=some (mA name):=by
 obtain ⟨o,es,ep,ho,hd,hk,_,hm⟩:=n
 refine ⟨o,ho,fun name=>?_⟩
 have e:=hm name
 unfold nsFind findBy at e
 rw [<- EY] at e
 unfold vw
 rw [hd]
 dsimp only
 split
 ·rename_i y q
  rw [q] at e
  exact congrArg some e
 ·rename_i q
  rw [q] at e
  have a:es.toList.any (·.refKey)=false:=by
   rw [GQ]
   intro y hy
   obtain ⟨z,t,hkey⟩:=hk y (Array.mem_toList_iff.mp hy)
   simp [DictEntry.refKey,hkey]
  have a':¬ es.toList.any (·.refKey)=true:=by rw [a];exact bj
  rw [if_neg a']
  exact congrArg some e
theorem Of.look {h:bu}{x dx C:ah}{mA:Str->Option a9} (I:Of h x dx C mA):∃ od,PySem.W.InstAt h x (uG C dx) C (some od)/\∀ name,vw name od=some (mA name) :=
 let ⟨od,ho,hl⟩:=Fi I.ns
 ⟨od,⟨I.obj,rfl,rfl,ho⟩,hl⟩
section
variable {prog:aS}{w:bn}{A:bv}{E:a9->ae->Prop}{s:ae}{K:a8}{x dx C f:ah}{mA:Str->Option a9}{name:Str}{v:a9}
end
theorem vC.some_of {v:V}{o:Option a9} (r:vC (some v) o):∃ u,o=some u/\cX v u:=by
 cases o with
 |none=>exact (show False from r).elim
 |some u=>exact ⟨u,rfl,r⟩
section
variable {P:aS}{w:bn}{H H':Hp}{h h':bu}{a C dx:ah}{fs fs':List (Str×V)}
theorem Lk (hok:oG P w H h) (e:H a=some (.ins C dx fs)):∃ mA,Of h a dx C mA/\(∀ f,vC (fs.lookup f) (mA f))/\PySem.Within mA (fs.map (·.1))/\fs.length<=1000/\H dx=some (.own a):=by
 obtain ⟨d,z,ne,ob,mA,n,r,q⟩:=(show dE P w H h a (.ins C dx fs) from hok a _ e)
 exact ⟨mA,⟨ob,n,ne⟩,r,q,z,d⟩
end
structure S5 (K:a8) (C:ah):Prop where
 pg:EZ K C Str.empty=true
 hd:PySem.W.hasDictIn K C=true
 po:PySem.W.plainOver K C=true
 sa:kP K (.ref C) "__setattr__"=some (some (.builtin "object.__setattr__"))
theorem S5.get {K:a8}{C:ah} (c:S5 K C) (f:Str):EZ K C f=true:=c.pg
section
variable {X:Cx}{pins:List (ah×Obj)}{σ:St}{H:Hp}{s:ae}{a C dx:ah}{fs:List (Str×V)}{f:Str}{v:V}{A:bv}{E:a9->ae->Prop}
end
section
variable {X:Cx}{o e value:a_}{f:Str}{pos pos' tpos:Pos}{ta tv:TE}
end
section
variable {X:Cx}{pins:List (ah×Obj)}{σ:St}{H:Hp}{s:ae}{A:bv}{E:a9->ae->Prop}{Q:a9->ae->Prop}{c:a9}{b:Bool}
inductive uL (K:a8) (H:Hp):V->a9->Prop where
 |non:uL K H .non (.type "NoneType")
 |bl (x:Bool):uL K H (.bl x) (.type "bool")
 |int (i:Int):uL K H (.int i) (.type "int")
 |str (x:Str):uL K H (.str x) (.type "str")
 |flt (x:UInt64):uL K H (.flt x) (.type "float")
 |lst {a:ah}{xs:List V} (e:H a=some (.lst xs)):uL K H (.ref a) (.type "list")
 |frz {a:ah}{o:Obj}{xs:List V} (e:H a=some (.frz o (.lst xs))):uL K H (.ref a) (.type "list")
 |tup {a:ah}{xs:List V} (e:H a=some (.tup xs)):uL K H (.ref a) (.type "tuple")
 |dK {a:ah}{kvs:List (eR×V)} (e:H a=some (.dK kvs)):uL K H (.ref a) (.type "dict")
 |dT {a:ah}{kvs:List (List eR×V)} (e:H a=some (.dT kvs)):uL K H (.ref a) (.type "dict")
 |ins {a C dx:ah}{fs:List (Str×V)} (e:H a=some (.ins C dx fs)) (cl:S5 K C) (ha:kP K (.ref C) "__class__"=some (some (.builtin "object.__class__")))
   (hn:DF K (.builtin "object.__class__") "__get__"=some (some (.builtin "getset_descriptor.__get__"))) (htk:Gy K (.builtin "object.__class__")=some true)
   (hm:gR K C (.type "object")=some true):uL K H (.ref a) (.ref C)
theorem pH {x:V}{u t:a9} (I:bz X pins σ H s) (rx:cX x u) (ty:uL X.K H x t) (e:oz X.K t c=some b) (h:∀ tk,Q (.bool b) { s with toks:=tk }) :
  ao (ar X.prog X.w) A (call (.builtin "isinstance") [u,c]) Q E s:=by
 cases ty with
 |non=>cases (show u=eM from rx);exact cm PySem.W.kitx_none I.kIn jd e (fun z=>nomatch z) h
 |bl y=>cases (show u=EW y from rx);exact cm PySem.W.kitx_bool I.kIn jd e (fun z=>nomatch z) h
 |int i=>obtain ⟨t,q⟩:=(show ∃ t,u=jN i t from rx);cases q;exact cm PySem.W.kitx_int I.kIn jd e (fun z=>nomatch z) h
 |str y=>obtain ⟨t,q⟩:=(show ∃ t,u=iC y t from rx);cases q;exact cm PySem.W.kitx_str I.kIn jd e (fun z=>nomatch z) h
 |flt y=>obtain ⟨t,q⟩:=(show ∃ t,u=Value.float y t from rx);cases q;exact cm PySem.W.kitx_float I.kIn jd e (fun z=>nomatch z) h
 | @lst a xs ea =>
  cases (show u=bt a from rx)
  obtain ⟨_,_,n,_,h1⟩:=(show dE X.prog X.w H s.heap a (.lst xs) from I.hok a _ ea)
  exact cm rM I.kIn ⟨_,h1,rfl⟩ e (fun z=>nomatch z) h
 | @frz a ob xs ea =>
  cases (show u=bt a from rx)
  obtain ⟨_,_,_,n,_,h1⟩:=(show dE X.prog X.w H s.heap a (.frz ob (.lst xs)) from I.hok a _ ea)
  exact cm rM I.kIn ⟨_,h1,rfl⟩ e (fun z=>nomatch z) h
 | @tup a xs ea =>
  cases (show u=bt a from rx)
  obtain ⟨_,_,_,p⟩:=(show dE X.prog X.w H s.heap a (.tup xs) from I.hok a _ ea)
  obtain ⟨o,h1,h2,_⟩:=p
  exact cm Cb I.kIn ⟨o,h1,h2⟩ e (fun z=>nomatch z) h
 | @dK a kvs ea =>
  cases (show u=bt a from rx)
  obtain ⟨_,_,vs,_,p⟩:=(show dE X.prog X.w H s.heap a (.dK kvs) from I.hok a _ ea)
  obtain ⟨o,es,ep,h1,h2,_⟩:=p
  exact cm DG I.kIn ⟨o,h1,h2.1⟩ e (fun z=>nomatch z) h
 | @dT a kvs ea =>
  cases (show u=bt a from rx)
  obtain ⟨_,_,xs,_,o,es,ep,h1,h2,_⟩:=(show dE X.prog X.w H s.heap a (.dT kvs) from I.hok a _ ea)
  exact cm DG I.kIn ⟨o,h1,h2.1⟩ e (fun z=>nomatch z) h
 | @ins a C dx fs ea cl ha hn htk hm =>
  cases (show u=bt a from rx)
  obtain ⟨mA,O,_⟩:=Lk I.hok ea
  obtain ⟨od,J,_⟩:=O.look
  exact cm (PySem.W.kitx_own (cl.get _) cl.hd ha hn htk hm) I.kIn J e (fun z=>nomatch z) h
end
end L2
namespace L2
open PySem PySem.Spec PyProof.Rows
structure jT (k:Nat) (A:bv):Prop where
 hd:A.handled=none
 dp:A.depth+3*k+5<recursionLimit
 un:A.units+16*k+200<fO
theorem jT.mono {j k:Nat}{A:bv} (r:jT k A) (h:j<=k):jT j A:=⟨r.hd,by have:=r.dp;omega,by have:=r.un;omega⟩
theorem jT.deeper {k:Nat}{A:bv} (r:jT (k+1) A) (env:Env):jT k (A.deeper env) :=
 ⟨r.hd,by have:=r.dp;show A.depth+1+3*k+5<_;omega,by have:=r.un;show A.units+3+16*k+200<_;omega⟩
theorem jT.depth {k:Nat}{A:bv} (r:jT k A):A.depth<recursionLimit:=by have:=r.dp;omega
theorem jT.units {k:Nat}{A:bv} (r:jT k A):A.units+64<fO:=by have:=r.un;omega
def Og:TA:=fun _ H Q=>Q [] H
def Hz (ta:TE) (tr:TA):TA:=fun σ H Q=>ta σ H fun x H1=>tr σ H1 fun xs H2=>Q (x::xs) H2
section
variable {X:Cx}{e:a_}{es:List a_}{te:TE}{t:TA}{pos:Pos}
theorem iR:PA X [] Og:=fun _ _ _ _ H Q I h=>Gz ⟨[],H,I,.nil,h⟩
theorem fY (ha:PE X e te) (hr:PA X es t) (hs:aE (e::es) X.env=(false,cj e X.env)::aE es X.env:=by rfl):PA X (e::es) (Hz te t):=by
 intro pos pins s σ H Q I h
 rw [hs]
 show ao _ _ (spliced ((false,cj e X.env)::gE pos (aE es X.env))) _ _ s
 refine E_ (dX (ha pins s σ H _ I h) fun u s1 ⟨x,H1,I1,r1,q1⟩=>?_)
 exact dX (hr pos pins s1 σ H1 _ I1 q1) fun us s2 h_25=>by obtain ⟨xs,H2,I2,r2,q2⟩:=h_25;exact ⟨x::xs,H2,I2,.cons r1 r2,q2⟩
def S6 (t:TA):TE:=fun σ H Q=>t σ H fun xs H1=>xs.length<=sizeLine/\∀ p,H1 p=none->Q (.ref p) (upd H1 p (.tup xs))
def S7 (t:TA):TE:=fun σ H Q=>t σ H fun xs H1=>xs.length<=sizeLine/\∀ p,H1 p=none->Q (.ref p) (upd H1 p (.lst xs))
theorem Oh {x1} (h:PA X es t):PE X (.Tuple es x1 pos) (S6 t):=by
 intro pins s σ H Q I hq
 refine wpAny_Tuple_spliced (dX (h pos pins s σ H _ I hq) fun us s1 ⟨xs,H1,I1,r,z,q⟩=>⟨by rw [<- r.length];exact z,?_⟩)
 have hf:H1 s1.heap.objs.size=none:=I1.hok.fresh (am _)
 refine ⟨.ref s1.heap.objs.size,upd H1 s1.heap.objs.size (.tup xs),I1.laid (t':=s1.toks) (fun b u e=>aa _ e) (am _) ?_,rfl,q _ hf⟩
 exact ⟨z,us,r,⟨_,aw _ rfl,rfl,_,rfl⟩⟩
theorem qP (h:PA X es t):PE X (.List es pos) (S7 t):=by
 intro pins s σ H Q I hq
 refine wpAny_List_spliced (dX (h pos pins s σ H _ I hq) fun us s1 ⟨xs,H1,I1,r,z,q⟩=>⟨by rw [<- r.length];exact z,?_⟩)
 have hf:H1 s1.heap.objs.size=none:=I1.hok.fresh (am _)
 refine ⟨.ref s1.heap.objs.size,upd H1 s1.heap.objs.size (.lst xs),I1.laid (t':=s1.toks) (fun b u e=>aa _ e) (am _) ?_,rfl,q _ hf⟩
 exact ⟨z,us,0,r,aw _ rfl⟩
end
abbrev Sp:=List V->Hp->VK->XK->Prop
abbrev Fj:=List Env->Hp->ae->XK->a9->ae->Prop
structure Ll (P:aS) (w:bn) (K:a8) (mg:Str->Option a9) (base:bu) (A:bv) (outer:List Env) (s:ae) (H:Hp):Prop where
 frames:A.frames=some outer
 mod:Mod K mg base
 bs:∀ b o,base.get? b=some o->s.heap.get? b=some o/\H b=none
 bsz:base.objs.size<=s.heap.objs.size
 funs:s.heap.FunFrames base outer
 frf:∀ b∈tm outer,H b=none
 hok:oG P w H s.heap
 bare:om s.gens
inductive CE (outer:List Env) (P:aS) (w:bn) (H:Hp) (s:ae) (Q:VK) (u:a9) (s':ae):Prop
 |mk (v H':_) (h0:s'.os=s.os) (h1:om s'.gens) (h2:Un (tm outer) [] H H' s.heap s'.heap) (h3:oG P w H' s'.heap) (h4:cX v u) (h5:Q v H'):CE outer P w H s Q u s'
def CR (CX:Fj) (outer:List Env) (P:aS) (w:bn) (H:Hp) (s:ae) (Q:VK) (E:XK) (r:tw) (s':ae):Prop :=
 match r with
 |.ok (.ret u)=>CE outer P w H s Q u s'
 |.ok _=>False
 |.error e=>CX outer H s E e s'
structure qi (P:aS) (w:bn) (K:a8) (mg:Str->Option a9) (base:bu) (CX:Fj) (k:Nat) (f:ah) (fd:eQ) (ps:List Str) (sp:Sp):Prop where
 len:∀ vs H Q E,sp vs H Q E->vs.length=ps.length
 run:∀ (A:bv) (outer:List Env) (s:ae) (H:Hp) (args:Args) (us:List a9) (vs:List V) (Q:VK) (E:XK),jT k A->Ll P w K mg base A outer s H->xb s fd args (ps.zip us)->dg vs us->sp vs H Q E ->
  dG (ar P w) A (.call (.ref f) args) (CR CX outer P w H s Q E) s
theorem qi.imp {P:aS}{w:bn}{K:a8}{mg:Str->Option a9}{base:bu}{CX:Fj}{k:Nat}{f:ah}{fd:eQ}{ps:List Str}{sp sp':Sp} (F:qi P w K mg base CX k f fd ps sp)
  (h:∀ vs H Q E,sp' vs H Q E->sp vs H Q E):qi P w K mg base CX k f fd ps sp' :=
 ⟨fun vs H Q E q=>F.len vs H Q E (h _ _ _ _ q),fun A outer s H args us vs Q E hr he hb hv hs=>F.run A outer s H args us vs Q E hr he hb hv (h _ _ _ _ hs)⟩
section
variable {X:Cx}{pins:List (ah×Obj)}{σ:St}{H:Hp}{s s':ae}
theorem bz.env0 (I:bz X pins σ H s):Ll X.prog X.w X.K X.mg X.base X.A X.stack s H :=
 ⟨I.ok.frames,I.ok.mod,I.bs,bM I.ok.bsz I.sz,I.stack,I.stkFree,I.hok,I.bare⟩
theorem bz.after {Q:VK}{u:a9} (I:bz X pins σ H s) (h:CE X.stack X.prog X.w H s Q u s'):EP X pins σ Q u s':=by
 obtain ⟨v,H',os,bare,un,hok,r,q⟩:=h
 obtain ⟨hh,g,d,t,os'⟩:=s'
 obtain rfl:os'=s.os:=os
 exact ⟨v,H',I.call (h':=hh) (g':=g) (d':=d) (t':=t) (ch:=[]) un hok bare (fun b z=>absurd z (by simp)),r,q⟩
end
def ME (sp:Sp) (dvs:List V) (E:XK) (t:TA):TE:=fun σ H Q=>t σ H fun vs H1=>sp (vs++dvs) H1 Q E
def kn (K:a8) (fd:eQ) (ps:List Str) (ds:List a9):Prop :=
 ∀ (s:ae) (us:List a9),K.In s.heap->(us++ds).length=ps.length->xb s fd ⟨us,[]⟩ (ps.zip (us++ds))
theorem kn.all {K:a8}{fd:eQ}{ps:List Str} (h:∀ us:List a9,us.length=ps.length->KM fd ⟨us,[]⟩=pure (ps.zip us)):kn K fd ps []:=fun s us _ hl=>by
 rw [bC] at hl ⊢
 exact .of_eq (h us hl)
def oM (CX:Fj) (X:Cx) (E:XK):Prop:=∀ (pins:List (ah×Obj)) (σ:St) (H:Hp) (s:ae) (e:a9) (s':ae),bz X pins σ H s->CX X.stack H s E e s'->X.xe e s'
section
variable {X:Cx}{CX:Fj}{k:Nat}{f C:ah}{fd:eQ}{ps:List Str}{sp:Sp}{dvs:List V}{ds:List a9}{E:XK}{x m:Str}{p pos apos:Pos}{e o:a_}{es:List a_}{ta:TE}{t:TA}
theorem Oi {pins:List (ah×Obj)}{σ:St}{H:Hp}{s:ae}{Q:VK}{us:List a9}{vs:List V} (F:qi X.prog X.w X.K X.mg X.base CX k f fd ps sp) (hr:jT k X.A) (hb:kn X.K fd ps ds) (hd:dg dvs ds) (hx:oM CX X E)
  (I:bz X pins σ H s) (r:dg vs us) (h:sp (vs++dvs) H Q E):ao (ar X.prog X.w) X.A (call (.ref f) us) (EP X pins σ Q) X.xe s:=by
 have r2:dg (vs++dvs) (us++ds):=r.append hd
 have hl:(us++ds).length=ps.length:=by rw [<- r2.length];exact F.len _ _ _ _ h
 refine wpAny_call (mD (F.run X.A X.stack s H ⟨us,[]⟩ (us++ds) (vs++dvs) Q E hr I.env0 (hb s us I.kIn hl) r2 h) fun r s' hq=>?_)
 cases r with
 |error e=>exact hx pins σ H s e s' I hq
 |ok fl =>
  cases fl with
  |ret u=>exact I.after hq
  |next=>exact iu hq
  |brk=>exact iu hq
  |cont=>exact iu hq
theorem DM (F:qi X.prog X.w X.K X.mg X.base CX k f fd ps sp) (hr:jT k X.A) (hg:Gl X x) (hm:X.mg x=some (.ref f)) (hk:eX X.K (.ref f)=true) (hb:kn X.K fd ps ds) (hd:dg dvs ds) (hx:oM CX X E)
  (ha:PA X (e::es) t) (hdb:(x==("__debug__" : Str))=false:=by decide) (he:aE (e::es) X.env=(false,cj e X.env)::aE es X.env:=by rfl) (hpl:(gE pos (aE es X.env)).any (·.1)=false:=by rfl) :
  PE X (.Call (.Name x p) (e::es) [] pos) (ME sp dvs E t):=by
 intro pins s σ H Q I h
 refine ni (DL I hg hm ?_ hdb)
 refine PySem.W.callWith_K (h₀:=X.base) I.ok.mod.kin hk (dX (ha pos pins s σ H _ I h) fun us s1 ⟨vs,H1,I1,r,q⟩=>⟨I1.kIn,?_⟩) he hpl
 exact Oi F hr hb hd hx I1 r q
end
section
variable {X:Cx}{CX:Fj}{k:Nat}{f C:ah}{fd:eQ}{ps ks:List Str}{sp:Sp}{E:XK}{x m:Str}{p pos apos kpos:Pos}{e o:a_}{es:List a_}{kws:List qJ}{te ta:TE}{t tk:TA}{nm:Option Str}
variable {g:List a9->List a9->List a9}{gV:List V->List V->List V}
end
structure cr (N P:List Str) (sc:dU):Prop where
 kind:sc.kind=.function
 co:sc.isCoroutine=false
 gen:sc.isGenerator=false
 nd:N.Nodup
 pre:N.take P.length=P
 par:∀ x∈P,sc.names.lookup x=some .local\/sc.names.lookup x=some .cell
 nofree:∀ y∈sc.names,y.2≠.free
theorem xQ {kindOf:Str->Option k7}{x:Str}:∀ {binds:List (Str×a9)}{m:Str->Option a9},(∀ v,(x,v)∉binds)->GA kindOf binds m x=m x
 |[],_,_=>rfl
 |(n,v)::r,m,h=>by
  unfold GA
  rw [xQ fun w hw=>h w (ai _ hw)]
  split
  ·have:x≠n:=by rintro rfl;exact h v al
   simp [this]
  ·rfl
theorem xR {kindOf:Str->Option k7}{x:Str}:∀ {binds:List (Str×a9)}{m:Str->Option a9},(∀ v,(x,v)∉binds)->GB kindOf binds m x=m x
 |[],_,_=>rfl
 |(n,v)::r,m,h=>by
  unfold GB
  rw [xR fun w hw=>h w (ai _ hw)]
  split
  ·rfl
  ·have:x≠n:=by rintro rfl;exact h v al
   simp [this]
theorem xS {kindOf:Str->Option k7}{x:Str}{v:a9}:∀ {P:List Str}{vs:List a9}{i:Nat}{m:Str->Option a9},P.Nodup->P[i]?=some x->vs[i]?=some v->kindOf x=some .local ->
  GA kindOf (P.zip vs) m x=some v
 |[],_,_,_,_,h,_,_=>by simp at h
 |_::_,[],_,_,_,_,h,_=>by simp at h
 |p::P,w::vs,0,m,nd,h1,h2,hk=>by
  simp at h1 h2;subst h1;subst h2
  show GA kindOf ((p,w)::P.zip vs) m p=_
  unfold GA
  rw [xQ fun v hv=>(List.nodup_cons.mp nd).1 (wW hv).1,if_pos hk]
  simp
 |p::P,w::vs,i+1,m,nd,h1,h2,hk=>by
  show GA kindOf ((p,w)::P.zip vs) m x=_
  unfold GA
  exact xS (i:=i) (List.nodup_cons.mp nd).2 (by simpa using h1) (by simpa using h2) hk
theorem xT {kindOf:Str->Option k7}{x:Str}{v:a9}:∀ {P:List Str}{vs:List a9}{i:Nat}{m:Str->Option a9},P.Nodup->P[i]?=some x->vs[i]?=some v->kindOf x≠some .local ->
  GB kindOf (P.zip vs) m x=some v
 |[],_,_,_,_,h,_,_=>by simp at h
 |_::_,[],_,_,_,_,h,_=>by simp at h
 |p::P,w::vs,0,m,nd,h1,h2,hk=>by
  simp at h1 h2;subst h1;subst h2
  show GB kindOf ((p,w)::P.zip vs) m p=_
  unfold GB
  rw [xR fun v hv=>(List.nodup_cons.mp nd).1 (wW hv).1,if_neg hk]
  simp
 |p::P,w::vs,i+1,m,nd,h1,h2,hk=>by
  show GB kindOf ((p,w)::P.zip vs) m x=_
  unfold GB
  exact xT (i:=i) (List.nodup_cons.mp nd).2 (by simpa using h1) (by simpa using h2) hk
def start (N:List Str) (vs:List V):St:=vs.map some++qr (N.length-vs.length) none
def vF (CX:Fj) (P:aS) (w:bn) (K:a8) (mg:Str->Option a9) (base:bu) (N:List Str) (qual:Str) (scope:dU) (f:ah) (cd:a9) (A:bv) (outer:List Env) (s:ae) (H:Hp) (E:XK):Cx where
 prog:=P
 w:=w
 K:=K
 mg:=mg
 base:=base
 A:=A.deeper (qK qual scope s.heap.objs.size f cd)
 N:=N
 s₀:=s
 H₀:=H
 env:=qK qual scope s.heap.objs.size f cd
 outer:=outer
 stack:=qK qual scope s.heap.objs.size f cd::outer
 ex:=[]
 calm:=true
 fn:=fun _=>true
 pn:=[]
 xe:=fun e s'=>ao (ar P w) (A.deeper (qK qual scope s.heap.objs.size f cd)) (leaving (qK qual scope s.heap.objs.size f cd) e) (fun _ s''=>CX outer H s E e s'') (fun e' s''=>CX outer H s E e' s'') s'
theorem Ap {sc:dU}{n:Nat}{x:Str} (h:sc.names.lookup x=some .cell):∃ c,(aC n sc.names []).lookup x=some c:=by
 have q:=gG sc.names n [] (.inl h)
 exact Option.isSome_iff_exists.mp q
theorem Fk {CX:Fj}{P:aS}{w:bn}{K:a8}{mg:Str->Option a9}{base:bu}{N ps:List Str}{qual:Str}{scope:dU}{f:ah}{cd:a9}{A:bv}{outer:List Env}{s s1:ae}{H:Hp}{E:XK}{us:List a9}{vs:List V}
  (S:cr N ps scope) (hd:A.handled=none) (e0:Ll P w K mg base A outer s H) (hl:vs.length=ps.length) (r:dg vs us)
  (x:InCallC s s.heap.objs.size (GA (qK qual scope s.heap.objs.size f cd).kindOf (ps.zip us) fun _=>none) (aC (s.heap.objs.size+1) scope.names []) (GB (qK qual scope s.heap.objs.size f cd).kindOf (ps.zip us) fun _=>none) s1) :
  bz (vF CX P w K mg base N qual scope f cd A outer s H E) [] (start N vs) H s1:=by
 have hpl:ps.length<=N.length:=by have:=congrArg qt S.pre;rw [uW] at this;omega
 obtain ⟨h1,tk,rfl,hk⟩:=x.done
 have noA:∀ b:ah,b∉(vF CX P w K mg base N qual scope f cd A outer s H E).ex:=fun b z=>absurd (show b∈([] : List ah) from z) (by simp)
 refine ⟨⟨e0.mod,S.kind,rfl,rfl,am _,fun y z c h1 h2=>?_,fun y hy=>?_,fun y c _ h=>?_,fun _=>hd,Around.frames_deeper e0.frames,.inr ⟨rfl,rfl⟩,fun b z=>absurd z (noA b),e0.bs,e0.bsz,fun b _ _=>noA b,fun b z=>absurd z (noA b),e0.funs,e0.frf⟩,
  rfl,e0.bare,Un.kept hk,⟨_,x.toInCall.ns,fun i y v h1 h2 h3=>?_⟩,fun y c h=>⟨_,x.cell y c h⟩,e0.hok.fresh (am _),fun y c h=>?_,fun p hp=>absurd (show p∈([] : List (ah×Obj)) from hp) (by simp),e0.hok.kept hk,?_⟩
 ·exact name_of_addr x.apart (df h1) (df h2)
 ·have hy:scope.names.lookup y=some .cell\/scope.names.lookup y=some .free:=hy
  rcases hy with hy|hy
  ·exact Ap hy
  ·exact absurd rfl (S.nofree _ (df hy))
 ·exact bH (x.above y c (df h))
 ·have hi:i<vs.length:=by
   unfold start at h2
   by_cases hi:i<vs.length
   ·exact hi
   ·rw [aR (by simpa using hi)] at h2
    rw [bw] at h2
    split at h2<;>cases h2
  have ha:vs[i]?=some v:=by
   unfold start at h2
   rw [bf (by simpa using hi),aW] at h2
   cases e:vs[i]? with
   |none=>rw [e] at h2;cases h2
   |some a=>rw [e] at h2;cases h2;rfl
  obtain ⟨u,hu,rv⟩:=r.get ha
  have hp:ps[i]?=some y:=by
   rw [<- S.pre,List.getElem?_take_of_lt (by omega)];exact h1
  have ndP:ps.Nodup:=by rw [<- S.pre];exact S.nd.sublist (List.take_sublist _ _)
  refine ⟨u,rv,?_⟩
  rcases S.par y (dC hp) with k|k
  ·exact .inl ⟨k,xS ndP hp hu k⟩
  ·obtain ⟨c,e⟩:=Ap (n:=s.heap.objs.size+1) k
   refine .inr ⟨.inl k,c,e,?_⟩
   have q:=x.cell y c e
   rw [xT ndP hp hu (by show scope.names.lookup y≠_;rw [k];decide)] at q
   exact q
 ·exact e0.hok.fresh (bH (x.above y c (df h)))
 ·unfold start
  show _=N.length
  rw [aB,au,cA]
  omega
theorem Q6 {CX:Fj}{P:aS}{w:bn}{K:a8}{mg:Str->Option a9}{base:bu}{k:Nat}{f:ah}{name qual:Str}{params:Arguments}{body:List eJ}{scope:dU}{dV kV doc pm cdv ct oc:a9}{an od:Option ah}
  {osl:Array (Option a9)}{N ps:List Str}{sp:Sp} (lk:K.lookup f=some ⟨oc,od,.func (fF name qual params body scope dV kV doc pm an cdv ct),osl⟩) (hcd:kQ K cdv qual=true) (S:cr N ps scope)
  (len:∀ vs H Q E,sp vs H Q E->vs.length=ps.length)
  (hbody:∀ (A:bv) (outer:List Env) (s:ae) (H:Hp) (vs:List V) (Q:VK) (E:XK),jT k (A.deeper (qK qual scope s.heap.objs.size f cdv))->sp vs H Q E ->
   ∃ t,DK (vF CX P w K mg base N qual scope f cdv A outer s H E) body t/\t { nx:=fun _ H'=>Q .non H',rt:=Q } (start N vs) H) :
  qi P w K mg base CX (k+1) f (fF name qual params body scope dV kV doc pm an cdv ct) ps sp:=by
 refine ⟨len,fun A outer s H args us vs Q E hr e0 hb r hsp=>?_⟩
 have hl:=len _ _ _ _ hsp
 have KX:K.In s.heap:=e0.mod.kin.keeps fun b o e=>(e0.bs b o e).1
 have lim:s.heap.NoLimit:=e0.mod.nolimit.keeps fun b o e=>(e0.bs b o e).1
 have hkind:∀ y∈ps.zip us,scope.names.lookup y.1=some .local\/(scope.names.lookup y.1=some .cell/\((aC (s.heap.objs.size+1) scope.names []).lookup y.1).isSome=true):=fun ⟨n,v⟩ hy=>by
  rcases S.par n (wW hy).1 with q|q
  ·exact .inl q
  ·exact .inr ⟨q,gG _ _ _ (.inl q)⟩
 refine codeAny_call_function hr.depth (KX _ _ lk) rfl S.co S.gen rfl (Cc KX hcd) (hb _ _ _ _ ?_)
 refine wpAny_newFunctionEnv_cells S.kind hkind fun env he s1 x=>?_
 subst he
 refine ⟨lim.keeps x.toInCall.keep,codeAny_func ?_⟩
 obtain ⟨t,ht,hq⟩:=hbody A outer s H vs Q E (hr.deeper _) hsp
 have I:bz (vF CX P w K mg base N qual scope f cdv A outer s H E) [] (start N vs) H s1:=Fk S hr.hd e0 hl r x
 refine aO (ht [] s1 (start N vs) H _ I hq) (fun fl s' hs=>?_) fun e s' hs=>hs
 have fin:∀ {σ':St}{H':Hp}{v:V}{u:a9},bz (vF CX P w K mg base N qual scope f cdv A outer s H E) [] σ' H' s'->cX v u->Q v H'->CE outer P w H s Q u s' :=
  fun {σ' H' v u} J rv q=>⟨v,H',J.os,J.bare,J.base,J.hok,rv,q⟩
 cases fl with
 |ret u =>
  obtain ⟨v,σ',H',J,rv,q⟩:=hs
  exact fin J rv q
 |next =>
  obtain ⟨σ',H',J,q⟩:=hs
  exact fin (v:=V.non) (u:=eM) J rfl q
 |brk =>
  obtain ⟨_,_,_,q⟩:=hs
  exact iu q
 |cont =>
  obtain ⟨_,_,_,q⟩:=hs
  exact iu q
end L2
namespace L2
open PySem PySem.Spec PyProof.Rows
section
variable {X:Cx}{x:Str}{p pos:Pos}{e:a_}{es:List a_}{t:TA}{id T:String}{r:List V->Hp->VK->Prop}
def Q7 (r:List V->Hp->VK->Prop) (t:TA):TE:=fun σ H Q=>t σ H fun vs H1=>r vs H1 Q
theorem rT (hc:jv X (.builtin id) r) (hg:Gl X x) (hm:X.mg x=none) (hv:i8 x=some (.builtin id)) (ha:PA X (e::es) t) (hn:x≠"__name__":=by decide) (hdb:(x==("__debug__" : Str))=false:=by decide)
  (he:aE (e::es) X.env=(false,cj e X.env)::aE es X.env:=by rfl) (hpl:(gE pos (aE es X.env)).any (·.1)=false:=by rfl):PE X (.Call (.Name x p) (e::es) [] pos) (Q7 r t):=by
 intro pins s σ H Q I h
 refine ni (oH I hg hm hv ?_ hn hdb)
 exact qu (dX (ha pos pins s σ H _ I h) fun us s1 h_27=>by obtain ⟨vs,H1,I1,r1,q1⟩:=h_27;exact hc pins s1 σ H1 vs us Q I1 r1 q1) he hpl
theorem xU (hc:jv X (.type T) r) (hg:Gl X x) (hm:X.mg x=none) (hv:i8 x=some (.type T)) (ha:PA X (e::es) t) (hn:x≠"__name__":=by decide) (hdb:(x==("__debug__" : Str))=false:=by decide)
  (he:aE (e::es) X.env=(false,cj e X.env)::aE es X.env:=by rfl) (hpl:(gE pos (aE es X.env)).any (·.1)=false:=by rfl):PE X (.Call (.Name x p) (e::es) [] pos) (Q7 r t):=by
 intro pins s σ H Q I h
 refine ni (oH I hg hm hv ?_ hn hdb)
 exact eI (dX (ha pos pins s σ H _ I h) fun us s1 h_28=>by obtain ⟨vs,H1,I1,r1,q1⟩:=h_28;exact hc pins s1 σ H1 vs us Q I1 r1 q1) he hpl
end
end L2
namespace HT
open PySem PyProof.Rows
section
open PySem.SeqAt
open PySem.AutoSeq1 (wpAny_loadPart')
open PySem.MeetsSeq PySem.MeetsSeq2 PySem.MeetsSeq3
end
section
variable {prog:aS}{w:bn}{A:bv}{E:a9->ae->Prop}{s:ae}
theorem Lm {t b:ah}{vs ws:List a9}{Q:a9->ae->Prop} (ht:Gu s.heap t vs.toArray) (hb:Gu s.heap b ws.toArray) (hv:vs≠[])
  (h1:ws=[]->Q (.ref t) s) (h2:ws≠[]->Q (.ref s.heap.objs.size) { s with heap:=s.heap.push { cls:=.type "tuple",data:=.seq (vs++ws).toArray } })
  (hsz:vs.length+ws.length<=sizeLine):ao (ar prog w) A (gW .Add (.ref t) (.ref b)) Q E s:=by
 obtain ⟨⟨cls,dd,data,sl⟩,ho,hc,n,hd⟩:=id ht
 obtain ⟨⟨cls2,dd2,data2,sl2⟩,ho2,hc2,n2,hd2⟩:=id hb
 simp only at hc hd hc2 hd2
 subst hc hd hc2 hd2
 have e:vs.toArray++ws.toArray=(vs++ws).toArray:=by simp
 by_cases hw:ws=[]
 ·exact xc ⟨_,ho,rfl⟩ ⟨_,ho2,rfl⟩ yP F1 nj mE (m7 _ _)
   (tuple_addW1 t b vs.toArray ws.toArray n n2 dd dd2 sl sl2 (by simpa using hv) (by simp [hw])) ⟨ho,ho2,h1 hw⟩
 ·refine xc ⟨_,ho,rfl⟩ ⟨_,ho2,rfl⟩ yP F1 nj mE (m7 _ _)
   (tuple_addW2 t b vs.toArray ws.toArray n n2 dd dd2 sl sl2 (by simpa using hv) (by simpa using hw) (by rw [aH,aH];exact hsz)) ⟨ho,ho2,?_⟩
  rw [e]
  exact h2 hw
def iA (n d:Nat):Option Int->Nat
 |none=>d
 |some v=>if v<0 then (v+(n:Int)).toNat else min v.toNat n
theorem Aq (n d:Nat):iA n d none=d:=rfl
theorem DN (n d k:Nat):iA n d (some (k:Int))=min k n:=by
 show (if (k:Int)<0 then ((k:Int)+(n:Int)).toNat else min (k:Int).toNat n)=min k n
 rw [if_neg (by omega),jx]
theorem Oj (n d:Nat) (hd:d<=n) (o:Option Int):iA n d o<=n:=by
 cases o with
 |none=>exact hd
 |some v =>
  show (if v<0 then (v+(n:Int)).toNat else min v.toNat n)<=n
  by_cases hv:v<0
  ·rw [if_pos hv];omega
  ·rw [if_neg hv];exact vy _ _
theorem DO (v:Int) (n d:Nat):(if v<0 then max (v+(n:Int)) 0 else min v (n:Int))=((iA n d (some v):Nat):Int):=by
 show (if v<0 then max (v+(n:Int)) 0 else min v (n:Int))=(((if v<0 then (v+(n:Int)).toNat else min v.toNat n):Nat):Int)
 by_cases hv:v<0
 ·simp only [if_pos hv];omega
 ·simp only [if_neg hv];omega
theorem CB (lo hi:Option Int) (n:Nat):k8 lo hi 1 (n:Int)=(((iA n 0 lo:Nat):Int),((iA n n hi:Nat):Int)):=by
 have h1:¬ ((1:Int)<0):=by omega
 unfold k8
 simp only [h1,if_false]
 refine Prod.ext ?_ ?_
 ·cases lo with
  |none=>rfl
  |some v=>exact DO v n 0
 ·cases hi with
  |none=>rfl
  |some v=>exact DO v n n
theorem CC (i j:Nat):g_ (i:Int) (j:Int) 1=j-i:=by
 unfold g_
 have h1:(1:Int) > 0:=by omega
 simp only [h1,if_true,Int.ediv_one]
 split<;>omega
theorem vG {v:a9}{o:Option Int}{Q:Option Int->ae->Prop} (p:tE v o) (h:Q o s):ao (ar prog w) A (Builtin.Slice.slicePartIndex v) Q E s:=by
 cases p with
 |none=>exact slicePart_none h
 |int i t=>exact slicePart_int h
theorem mM {sl:ah}{vl vu:a9}{lo hi:Option Int}{n:Nat}{Q:Int×Int×Nat->ae->Prop} (hs:s.heap.IsSliceOf sl vl vu .none) (pl:tE vl lo) (pu:tE vu hi)
  (h:Q (((iA n 0 lo:Nat):Int),1,iA n n hi-iA n 0 lo) s):ao (ar prog w) A (rN (.ref sl) (pure (n:Int))) Q E s:=by
 obtain ⟨os,hos,hcs,hds⟩:=id hs
 unfold rN Builtin.Slice.sliceFields
 refine a7 (a7 (dn hos hds (x:=vl) rfl (a7 (dn hos hds (x:=vu) rfl (a7 (dn hos hds (x:=.none) rfl (ac ?_)))))))
 refine a7 (slicePart_none ?_)
 show ao _ _ (if ((1:Int)==0)=true then _ else _) _ _ s
 rw [if_neg (by decide)]
 refine a7 (vG pl (a7 (vG pu (a7 (ac ?_)))))
 show ao _ _ (match k8 lo hi 1 (n:Int) with|(lo,hi)=>pure (lo,(1:Int),g_ lo hi 1)) _ _ s
 rw [CB lo hi n]
 show ao _ _ (pure (((iA n 0 lo:Nat):Int),(1:Int),g_ ((iA n 0 lo:Nat):Int) ((iA n n hi:Nat):Int) 1)) _ _ s
 rw [CC]
 exact ac h
theorem HA (xs:Array a9) (i k:Nat):((bY k).filterMap fun (m:Nat)=>xs[((i:Int)+(m:Int)*1).toNat]?).toArray=((xs.toList.drop i).take k).toArray:=by
 have e:(fun (m:Nat)=>xs[((i:Int)+(m:Int)*1).toNat]?)=fun m=>xs[i+m]?:=by
  funext m
  have:((i:Int)+(m:Int)*1).toNat=i+m:=by omega
  rw [this]
 rw [e]
 have:=pick_run xs i k
 rw [List.filterMap_map] at this
 have e2:((fun x=>xs[x]?)∘fun x=>i+x)=fun m=>xs[i+m]?:=rfl
 rw [e2] at this
 rw [this]
theorem rU {t sl:ah}{items:Array a9}{vl vu:a9}{lo hi:Option Int}{Q:a9->ae->Prop} (ht:Gu s.heap t items) (hs:s.heap.IsSliceOf sl vl vu .none) (pl:tE vl lo) (pu:tE vu hi)
  (hw:¬ (iA items.size 0 lo=0/\iA items.size items.size hi=items.size))
  (h:Q (.ref s.heap.objs.size) { s with heap:=s.heap.push { cls:=.type "tuple",data:=.seq ((items.toList.drop (iA items.size 0 lo)).take (iA items.size items.size hi-iA items.size 0 lo)).toArray } })
  (hsz:items.size<=sizeLine):ao (ar prog w) A (oo (.ref t) (.ref sl)) Q E s:=by
 have htake:sizeOk (.seq ((items.toList.drop (iA items.size 0 lo)).take (iA items.size items.size hi-iA items.size 0 lo)).toArray):=by
  show ((items.toList.drop (iA items.size 0 lo)).take (iA items.size items.size hi-iA items.size 0 lo)).toArray.size<=sizeLine
  rw [aH,uW,uX,aL]
  omega
 have hj:iA items.size items.size hi<=items.size:=Oj _ _ (am _) hi
 obtain ⟨os,hos,hcs,hds⟩:=id hs
 have hTs:s.TypeIs (.ref sl) "slice":=⟨os,hos,hcs⟩
 unfold oo
 try with_reducible refine cE ?_
 first|refine a7 (ac ?_)|skip
 refine a7 (wpAny_sequenceKey ht.typeIs (by decide) ?_)
 refine a7 (cV (name:=iH "__getitem__") ht.typeIs fu
  (bR fu ht.typeIs entry_tuple_getitem ?_ (args_tuple_getitem _ _)))
 show ao _ _ (rO (.ref t) >>= _) _ _ s
 refine a7 (tupleItemsOf_ ht ?_)
 refine a7 (k9 hTs ?_)
 rw [if_pos (by decide)]
 refine a7 (mM hs pl pu ?_)
 have hno:¬ ((((iA items.size 0 lo:Nat):Int)==0&&(1:Int)==1&&(iA items.size items.size hi-iA items.size 0 lo)==items.size)=true):=by
  intro q
  rw [aT,aT] at q
  have q1:((iA items.size 0 lo:Nat):Int)=0:=eq_of_beq q.1.1
  have q2:iA items.size items.size hi-iA items.size 0 lo=items.size:=eq_of_beq q.2
  exact hw ⟨by omega,by omega⟩
 show ao _ _ (if (((iA items.size 0 lo:Nat):Int)==0&&(1:Int)==1&&(iA items.size items.size hi-iA items.size 0 lo)==items.size)=true then _ else _) _ _ s
 rw [if_neg hno,HA]
 first
  |exact a7 (m:=ig _) (c6 (ac ⟨_,rfl,ac h⟩) htake)
  |exact a7 (m:=ig _) (c6 (a7 (ac (ac ⟨_,rfl,ac h⟩))) htake)
  |exact a7 (a7 (m:=ig _) (c6 (ac (ac ⟨_,rfl,ac h⟩)) htake))
  |exact a7 (a7 (m:=ig _) (c6 (ac ⟨_,rfl,ac h⟩) htake))
end
end HT
namespace L2
open PySem PySem.Spec PyProof.Rows
abbrev TO:=St->Hp->(Option Int->Hp->Prop)->Prop
def PO (X:Cx) (e:Option a_) (t:TO):Prop :=
 ∀ (pins:List (ah×Obj)) (s:ae) (σ:St) (H:Hp) (Q:Option Int->Hp->Prop),bz X pins σ H s->t σ H Q ->
  ao (ar X.prog X.w) X.A (evalPart e X.env) (fun u s'=>∃ o H',bz X pins σ H' s'/\tE u o/\Q o H') X.xe s
def Ln:TO:=fun _ H Q=>Q none H
def Q8 (t:TE):TO:=fun σ H Q=>t σ H fun x H1=>∃ i,x=.int i/\Q (some i) H1
section
variable {X:Cx}{e:a_}{te:TE}{lo hi:Option a_}{tl th:TO}{pos p2:Pos}
theorem Lo:PO X none Ln:=by
 intro pins s σ H Q I h
 rw [evalPart_none]
 exact ac ⟨none,H,I,.none,h⟩
theorem Lp (h:PE X e te):PO X (some e) (Q8 te):=by
 intro pins s σ H Q I hw
 rw [evalPart_some]
 refine dX (h pins s σ H _ I hw) fun u s1 h_29=>?_
 obtain ⟨x,H1,I1,r1,q1⟩:=h_29
 obtain ⟨i,rfl,q⟩:=q1
 obtain ⟨t,rfl⟩:=r1
 exact ⟨some i,H1,I1,.int i t,q⟩
def Q9 (X:Cx) (r:V->Option Int->Option Int->Hp->VK->Prop):Prop :=
 ∀ (pins:List (ah×Obj)) (s:ae) (σ:St) (H:Hp) (x:V) (v vl vu:a9) (lo hi:Option Int) (sl:ah) (Q:VK),bz X pins σ H s->cX x v->s.heap.IsSliceOf sl vl vu .none->tE vl lo->tE vu hi->r x lo hi H Q ->
  ∃ T id,Cd (.type T) "__getitem__"=pure (some (.builtin id))/\s.TypeIs v T/\ao (ar X.prog X.w) X.A (oo v (.ref sl)) (EP X pins σ Q) X.xe s
def TD (r:V->Option Int->Option Int->Hp->VK->Prop) (te:TE) (tl th:TO):TE:=fun σ H Q=>te σ H fun x H1=>tl σ H1 fun l H2=>th σ H2 fun u H3=>r x l u H3 Q
theorem HB {r:V->Option Int->Option Int->Hp->VK->Prop} (hr:Q9 X r) (he:PE X e te) (hl:PO X lo tl) (hu:PO X hi th):PE X (.Subscript e (.Slice lo hi none p2) pos) (TD r te tl th):=by
 intro pins s σ H Q I h
 refine Subscript_ (dX (he pins s σ H _ I h) fun v s1 ⟨x,H1,I1,r1,q1⟩=>?_)
 refine wpAny_Slice (dX (hl pins s1 σ H1 _ I1 q1) fun vl s2 ⟨l,H2,I2,pl,q2⟩=>dX (hu pins s2 σ H2 _ I2 q2) fun vu s3 ⟨u,H3,I3,pu,q3⟩=>?_)
 rw [evalPart_none]
 refine ac ?_
 have I4:bz X pins σ H3 { s3 with heap:=s3.heap.push { cls:=.type "slice",data:=.fields #[vl,vu,.none] } }:=I3.kept (t':=s3.toks) fun b ob q=>aa _ q
 obtain ⟨T,id,hT,ht,hg⟩:=hr pins { s3 with heap:=s3.heap.push { cls:=.type "slice",data:=.fields #[vl,vu,.none] } } σ H3 x v vl vu l u s3.heap.objs.size Q I4 r1 (Heap.IsSliceOf.new ..) pl pu q3
 show ao (ar X.prog X.w) X.A (F2 e (.Slice lo hi none p2) v (.ref s3.heap.objs.size)) (EP X pins σ Q) X.xe { s3 with heap:=s3.heap.push { cls:=.type "slice",data:=.fields #[vl,vu,.none] } }
 exact tail_any (ops:=[.ref s3.heap.objs.size,v]) ht hT hg (by with_unfolding_all rfl)
def Ar (xs:List V) (lo hi:Option Int):List V:=(xs.drop (HT.iA xs.length 0 lo)).take (HT.iA xs.length xs.length hi-HT.iA xs.length 0 lo)
theorem uu (xs:List V) (lo hi:Option Int):(Ar xs lo hi).length<=xs.length:=by
 unfold Ar
 rw [uW,uX]
 omega
def S8 (K:a8):V->Option Int->Option Int->Hp->VK->Prop:=fun x lo hi H Q=>∃ a xs,x=.ref a/\jR K H a xs /\
 ¬ (HT.iA xs.length 0 lo=0/\HT.iA xs.length xs.length hi=xs.length)/\∀ p,H p=none->Q (.ref p) (upd H p (.tup (Ar xs lo hi)))
theorem Ol:Q9 X (S8 X.K):=by
 intro pins s σ H x v vl vu lo hi sl Q I rx hs pl pu h
 obtain ⟨a,xs,rfl,hx,hw,q⟩:=h
 cases rx
 obtain ⟨its,r,ht,hz⟩:=I.tuple hx
 have hlen:its.toArray.size=xs.length:=by rw [aH];exact r.length.symm
 refine ⟨"tuple",_,PyProof.Rows.slot_tuple_getitem.lookup,ht.typeIs,?_⟩
 refine HT.rU ht hs pl pu (by rw [hlen];exact hw) ?_ (by rw [hlen];exact hz)
 rw [hlen]
 refine ⟨.ref s.heap.objs.size,_,I.laid (t':=s.toks) (o:=.tup (Ar xs lo hi)) (fun b ob q=>aa _ q) (am _) ?_,rfl,q _ (I.hok.fresh (am _))⟩
 exact ⟨bM (uu xs lo hi) hz,_,(r.drop (HT.iA xs.length 0 lo)).take (HT.iA xs.length xs.length hi-HT.iA xs.length 0 lo),A6 _ _⟩
inductive HC (K:a8) (x:V) (y:V) (H:Hp) (Q:VK):Prop
 |mk (a b xs ys:_) (h0:x=.ref a) (h1:y=.ref b) (h2:jR K H a xs) (h3:jR K H b ys) (h4:xs≠[]) (h5:xs.length+ys.length<=sizeLine) (h6:(ys=[]->Q (.ref a) H)) (h7:(ys≠[]->∀ p,H p=none->Q (.ref p) (upd H p (.tup (xs++ys))))):HC K x y H Q
def Qa (K:a8):R2:=HC K
theorem dg.nil_iff {xs:List V}{us:List a9} (r:dg xs us):us=[]↔xs=[]:=by
 cases r with
 |nil=>simp
 |cons _ _=>simp
theorem Lq:qh X (gW .Add) (Qa X.K):=by
 intro pins s σ H x y v u Q I rx ry h
 obtain ⟨a,b,xs,ys,rfl,rfl,ha,hb,hx,hz,q1,q2⟩:=h
 cases rx
 cases ry
 obtain ⟨its,r1,p1,_⟩:=I.tuple ha
 obtain ⟨its2,r2,p2,_⟩:=I.tuple hb
 refine HT.Lm p1 p2 (fun z=>hx (r1.nil_iff.mp z)) (fun z=>⟨.ref a,H,I,rfl,q1 (r2.nil_iff.mp z)⟩) (fun z=>?_) (by rw [<- r1.length,<- r2.length];exact hz)
 refine ⟨.ref s.heap.objs.size,_,I.laid (t':=s.toks) (o:=.tup (xs++ys)) (fun b ob q=>aa _ q) (am _) ?_,rfl,q2 (fun w=>z (r2.nil_iff.mpr w)) _ (I.hok.fresh (am _))⟩
 exact ⟨by rw [aB];exact hz,_,r1.append r2,A6 _ _⟩
end
end L2
namespace L2
open PySem PySem.Spec PyProof.Rows
def Om (n:Nat) (i:Int):Option Nat:=if 0<=i then (if i<n then some i.toNat else none) else if -(n:Int)<=i then some (i+n).toNat else none
def C9 {α:Type} (xs:List α) (i:Int):Option α:=(Om xs.length i).bind fun j=>xs[j]?
theorem Lr {n:Nat}{i:Int}{j:Nat} (h:Om n i=some j):seqIndex? i n=some j/\j<n/\-(n:Int)<=i/\i<n:=by
 unfold Om at h
 by_cases h0:0<=i
 ·rw [if_pos h0] at h
  by_cases h1:i<n
  ·rw [if_pos h1] at h
   have e:i.toNat=j:=bE h
   exact ⟨by rw [seqIndex_of h0 h1,e],by omega,by omega,h1⟩
  ·rw [if_neg h1] at h;cases h
 ·rw [if_neg h0] at h
  by_cases h1:-(n:Int)<=i
  ·rw [if_pos h1] at h
   have e:(i+n).toNat=j:=bE h
   exact ⟨by rw [seqIndex_neg (by omega) h1,e],by omega,h1,by omega⟩
  ·rw [if_neg h1] at h;cases h
theorem yV {α:Type}{xs:List α}{i:Int}{v:α} (h:C9 xs i=some v):∃ j,seqIndex? i xs.length=some j/\xs[j]?=some v/\j<xs.length/\-(xs.length:Int)<=i/\i<xs.length:=by
 unfold C9 at h
 cases e:Om xs.length i with
 |none=>rw [e] at h;cases h
 |some j =>
  rw [e] at h
  obtain ⟨h1,h2,h3,h4⟩:=Lr e
  exact ⟨j,h1,h,h2,h3,h4⟩
theorem pI {α:Type}{xs:List α}{j:Nat}{v:α} (h:xs[j]?=some v):C9 xs (j:Int)=some v:=by
 have hj:j<xs.length:=(List.getElem?_eq_some_iff.mp h).1
 have e:Om xs.length (j:Int)=some j:=by
  unfold Om
  rw [if_pos (by omega),if_pos (by omega)];simp
 unfold C9;rw [e];exact h
def vd (b:a_):Prop:=∀ o i,A7 b false o i=operate [o,i] (oo o i)
def Qb (X:Cx) (r:R2):Prop :=
 ∀ (value slice:a_) (pins:List (ah×Obj)) (s:ae) (σ:St) (H:Hp) (x y:V) (v u:a9) (Q:VK),bz X pins σ H s->cX x v->cX y u->r x y H Q ->
  A7 slice false v u=operate [v,u] (oo v u)->ao (ar X.prog X.w) X.A (F2 value slice v u) (EP X pins σ Q) X.xe s
def TF (X:Cx) (id:String) (r:V->List V->Hp->VK->Prop):Prop :=
 ∀ (pins:List (ah×Obj)) (s:ae) (σ:St) (H:Hp) (x:V) (xs:List V) (v:a9) (us:List a9) (Q:VK),bz X pins σ H s->cX x v->dg xs us->r x xs H Q ->
  ao (ar X.prog X.w) X.A (call (.builtin id) (v::us)) (EP X pins σ Q) X.xe s
section
variable {X:Cx}{a b:a_}{ta tb:TE}{pos:Pos}
theorem MF {r:R2} (hr:Qb X r) (ha:PE X a ta) (hb:PE X b tb) (hs:vd b):PE X (.Subscript a b pos) (P_ r ta tb):=by
 intro pins s σ H Q I h
 exact Subscript_ (O8 ha hb I h fun v u s2 x y H2 I2 rx ry q=>hr a b pins s2 σ H2 x y v u Q I2 rx ry q (hs _ _))
inductive MG (K:a8) (x:V) (y:V) (H:Hp) (Q:VK):Prop
 |mk (p xs i v:_) (h0:x=.ref p) (h1:y=.int i) (h2:lz K H p xs) (h3:C9 xs i=some v) (h4:Q v H):MG K x y H Q
def Qc (K:a8):R2:=MG K
inductive MH (K:a8) (x:V) (y:V) (H:Hp) (Q:VK):Prop
 |mk (p xs i v:_) (h0:x=.ref p) (h1:y=.int i) (h2:jR K H p xs) (h3:C9 xs i=some v) (h4:Q v H):MH K x y H Q
def S9 (K:a8):R2:=MH K
inductive MI (x:V) (y:V) (H:Hp) (Q:VK):Prop
 |mk (z i c:_) (h0:x=.str z) (h1:y=.int i) (h2:z.length<=sizeLine) (h3:C9 z.cps.toList i=some c) (h4:Q (.str ⟨#[c]⟩) H):MI  x y H Q
def Sa:R2:=MI
theorem yW:Qb X (Qc X.K):=by
 intro value slice pins s σ H x y v u Q I rx ry h hs
 obtain ⟨p,xs,i,z,rfl,rfl,hq,he,q⟩:=h
 cases rx
 obtain ⟨t,rfl⟩:=ry
 obtain ⟨its,r,pl,hz⟩:=I.list hq
 obtain ⟨j,h1,h2,h3,h4,h5⟩:=yV he
 obtain ⟨w,ew,rw'⟩:=r.get h2
 have hl:=r.length
 have hn:=tT
 have fin:EP X pins σ Q w s:=⟨z,H,I,rw',q⟩
 by_cases h0:0<=i
 ·have hj:i.toNat=j:=by
   rw [seqIndex_of h0 h5] at h1
   exact bE h1
  exact item_listR pl.isList h0 (by omega) (by rw [hj];simpa using ew) fin hs
 ·have hj:(i+(its.toArray.size:Int)).toNat=j:=by
   rw [seqIndex_neg (by omega) h4] at h1
   rw [aH,<- hl]
   exact bE h1
  exact GR (x:=w) pl.isList.typeIs slot_list_getitem.lookup
   (wpAny_getItem_list_neg (Q:=fun r s'=>r=w/\EP X pins σ Q r s') pl.isList (by omega) (by rw [aH]<;>omega) (by omega) (by rw [hj];simpa using ew) ⟨rfl,fin⟩) hs
theorem On:Qb X (S9 X.K):=by
 intro value slice pins s σ H x y v u Q I rx ry h hs
 obtain ⟨p,xs,i,z,rfl,rfl,hq,he,q⟩:=h
 cases rx
 obtain ⟨t,rfl⟩:=ry
 obtain ⟨its,r,pl,hz⟩:=I.tuple hq
 obtain ⟨j,h1,h2,h3,h4,h5⟩:=yV he
 obtain ⟨w,ew,rw'⟩:=r.get h2
 have hl:=r.length
 have hn:=tT
 have fin:EP X pins σ Q w s:=⟨z,H,I,rw',q⟩
 exact GR (x:=w) pl.typeIs slot_tuple_getitem.lookup
  (getItem_tuple (j:=j) (Q:=fun r s'=>r=w/\EP X pins σ Q r s') pl (by omega) (by omega) (by rw [aH,<- hl];exact h1) (by simpa using ew) ⟨rfl,fin⟩) hs
theorem Oo:Qb X Sa:=by
 intro value slice pins s σ H x y v u Q I rx ry h hs
 obtain ⟨z,i,c,rfl,rfl,hz,he,q⟩:=h
 obtain ⟨t,rfl⟩:=rx
 obtain ⟨t',rfl⟩:=ry
 obtain ⟨j,h1,h2,h3,h4,h5⟩:=yV he
 have hl:z.cps.toList.length=z.length:=by simp [Str.length]
 rw [hl] at h1 h4 h5
 have hn:=tT
 exact tail_any (typeIs_str s z t) slot_str_getitem.lookup (getItem_str (c:=c) (by
  have e1:decide (i < -(2 ^ 63:Int))=false:=decide_eq_false (by omega)
  have e2:decide (i ≥ 2 ^ 63)=false:=decide_eq_false (by omega)
  rw [e1,e2,Bool.or_false]) (by rw [h1];simpa using h2) ⟨.str ⟨#[c]⟩,H,I.tok _,⟨_,rfl⟩,q⟩) hs
theorem yX (lo hi:Option Int) (n:Nat):(lA lo hi none n).1=((HT.iA n 0 lo:Nat):Int)/\(lA lo hi none n).2.1=((HT.iA n n hi:Nat):Int)/\(lA lo hi none n).2.2=1:=by
 refine ⟨?_,?_,rfl⟩
 ·cases lo with
  |none=>simp [lA,HT.iA]
  |some i =>
   simp only [lA,HT.iA,gn,show (1:Int) > 0 by decide,if_true]
   by_cases h:i<0
   ·simp only [h,if_true]<;>omega
   ·simp only [h,if_false]<;>omega
 ·cases hi with
  |none=>simp [lA,HT.iA]
  |some i =>
   simp only [lA,HT.iA,gn,show (1:Int) > 0 by decide,if_true]
   by_cases h:i<0
   ·simp only [h,if_true]<;>omega
   ·simp only [h,if_false]<;>omega
theorem xo (its:List a9) (lo hi:Option Int):slicePick its.toArray lo hi none=((its.drop (HT.iA its.length 0 lo)).take (HT.iA its.length its.length hi-HT.iA its.length 0 lo)).toArray:=by
 obtain ⟨h1,h2,h3⟩:=yX lo hi its.toArray.size
 unfold slicePick
 rw [h1,h2,h3]
 simp only [sliceRange_one,pick_run,aH]<;>rfl
def Sc (K:a8):V->Option Int->Option Int->Hp->VK->Prop:=fun x lo hi H Q=>∃ a xs,x=.ref a/\lz K H a xs/\∀ p,H p=none->Q (.ref p) (upd H p (.lst (Ar xs lo hi)))
theorem Ls:Q9 X (Sc X.K):=by
 intro pins s σ H x v vl vu lo hi sl Q I rx hs pl pu h
 obtain ⟨a,xs,rfl,hx,q⟩:=h
 cases rx
 obtain ⟨its,r,ht,hz⟩:=I.list hx
 have hlen:=r.length
 refine ⟨"list",_,slot_list_getitem.lookup,ht.isList.typeIs,?_⟩
 refine wpAny_getItem_list_slice ht.isList hs pl pu .none (by simp) ?_ (by rw [aH]<;>omega)
 rw [xo,<- hlen]
 refine ⟨.ref s.heap.objs.size,_,I.laid (t':=s.toks) (o:=.lst (Ar xs lo hi)) (fun b ob q=>aa _ q) (am _) ?_,rfl,q _ (I.hok.fresh (am _))⟩
 exact ⟨bM (uu xs lo hi) hz,_,0,(r.drop (HT.iA xs.length 0 lo)).take (HT.iA xs.length xs.length hi-HT.iA xs.length 0 lo),aw _ rfl⟩
def oN:V->Bool
 |.non=>true
 |.bl _=>true
 |.int _=>true
 |.str _=>true
 |_=>false
def Lu:V->V->Bool
 |.non,.non=>true
 |.bl a,.bl b=>a==b
 |.bl a,.int b=>(if a then 1 else 0)==b
 |.int a,.bl b=>a==(if b then 1 else 0)
 |.int a,.int b=>a==b
 |.str a,.str b=>a==b
 |_,_=>false
theorem Op {A:bv}{s:ae}{y x:V}{u v:a9} (ry:cX y u) (rx:cX x v) (fy:oN y=true) (fx:oN x=true):SeqAt.EqAt A s u v (Lu y x):=by
 cases y with
 |non =>
  cases ry
  cases x with
  |non=>cases rx;exact SeqAt.EqAt.same _
  |bl b=>cases rx;exact SeqAt.EqAt.none_bool b
  |int b=>obtain ⟨t,rfl⟩:=rx;exact SeqAt.EqAt.none_int b t
  |str b=>obtain ⟨t,rfl⟩:=rx;exact SeqAt.EqAt.none_str b t
  |_=>exact absurd (show false=true from fx) bj
 |bl a =>
  cases ry
  cases x with
  |non=>cases rx;exact SeqAt.EqAt.bool_none a
  |bl b=>cases rx;exact SeqAt.EqAt.bool_bool a b
  |int b=>obtain ⟨t,rfl⟩:=rx;exact SeqAt.EqAt.bool_int a b t
  |str b=>obtain ⟨t,rfl⟩:=rx;exact SeqAt.EqAt.bool_str a b t
  |_=>exact absurd (show false=true from fx) bj
 |int a =>
  obtain ⟨t',rfl⟩:=ry
  cases x with
  |non=>cases rx;exact SeqAt.EqAt.int_none a t'
  |bl b=>cases rx;exact SeqAt.EqAt.int_bool a t' b
  |int b=>obtain ⟨t,rfl⟩:=rx;exact SeqAt.EqAt.int_int a t' b t
  |str b=>obtain ⟨t,rfl⟩:=rx;exact A4 a t' b t
  |_=>exact absurd (show false=true from fx) bj
 |str a =>
  obtain ⟨t',rfl⟩:=ry
  cases x with
  |non=>cases rx;exact SeqAt.EqAt.str_none a t'
  |bl b=>cases rx;exact SeqAt.EqAt.str_bool a t' b
  |int b=>obtain ⟨t,rfl⟩:=rx;exact A5 a t' b t
  |str b=>obtain ⟨t,rfl⟩:=rx;exact SeqAt.EqAt.str_str a t' b t
  |_=>exact absurd (show false=true from fx) bj
 |_=>exact absurd (show false=true from fy) bj
def CD (x:V) (u:a9):Bool:=match u with
 |.none=>Lu .non x
 |.bool b=>Lu (.bl b) x
 |.int i _=>Lu (.int i) x
 |.str z _=>Lu (.str z) x
 |_=>false
theorem HD {x y:V}{u:a9} (r:cX y u) (f:oN y=true):CD x u=Lu y x:=by
 cases y with
 |non=>cases r;rfl
 |bl b=>cases r;rfl
 |int i=>obtain ⟨t,rfl⟩:=r;rfl
 |str z=>obtain ⟨t,rfl⟩:=r;rfl
 |_=>exact absurd (show false=true from f) bj
theorem rV {x:V}:∀ {xs:List V}{us:List a9},dg xs us->xs.all oN=true->us.any (CD x)=xs.any fun y=>Lu y x
 |_,_,.nil,_=>rfl
 |y::xs,u::us,.cons r t,f=>by
  rw [kc,aT] at f
  rw [eF,eF,HD r f.1,rV t f.2]
theorem oO {A:bv}{s:ae}{x:V}{v:a9} (rx:cX x v) (fx:oN x=true):∀ {xs:List V}{us:List a9},dg xs us->xs.all oN=true->∀ u∈us,SeqAt.EqAt A s u v (CD x u)
 |_,_,.nil,_=>fun u hu=>by cases hu
 |y::xs,u::us,.cons r t,f=>fun u' hu=>by
  rw [kc,aT] at f
  rcases List.mem_cons.mp hu with rfl|hu
  ·rw [HD r f.1];exact Op r rx f.1 fx
  ·exact oO rx fx t f.2 u' hu
def Ru (x:V) (xs:List V):Bool:=xs.any fun y=>Lu y x
inductive Qd (K:a8) (neg:Bool) (x:V) (y:V) (H:Hp) (Q:VK):Prop
 |mk (p xs:_) (h0:y=.ref p) (h1:(lz K H p xs\/jR K H p xs)) (h2:oN x=true) (h3:xs.all oN=true) (h4:Q (.bl (if neg then !Ru x xs else Ru x xs)) H):Qd K neg x y H Q
def Sd (K:a8) (neg:Bool):R2:=Qd K neg
theorem Fm:qh X (bG .In) (Sd X.K false):=by
 intro pins s σ H x y v u Q I rx ry h
 obtain ⟨p,xs,rfl,hq,fx,fs,q⟩:=h
 cases ry
 rcases hq with hq|hq
 ·obtain ⟨its,r,pl,hz⟩:=I.list hq
  refine SeqAt.in_listAt (CD x) pl.isList (fun w hw=>oO rx fx r fs w (by simpa using hw)) ⟨.bl _,H,I,rfl,?_⟩
  rw [show its.toArray.any (CD x)=its.any (CD x) by simp,rV r fs]
  exact q
 ·obtain ⟨its,r,pl,hz⟩:=I.tuple hq
  refine SeqAt.in_tupleAt (CD x) pl (fun w hw=>oO rx fx r fs w (by simpa using hw)) ⟨.bl _,H,I,rfl,?_⟩
  rw [show its.toArray.any (CD x)=its.any (CD x) by simp,rV r fs]
  exact q
theorem yY:qh X (bG .NotIn) (Sd X.K true):=by
 intro pins s σ H x y v u Q I rx ry h
 obtain ⟨p,xs,rfl,hq,fx,fs,q⟩:=h
 cases ry
 rcases hq with hq|hq
 ·obtain ⟨its,r,pl,hz⟩:=I.list hq
  refine SeqAt.notIn_listAt (CD x) pl.isList (fun w hw=>oO rx fx r fs w (by simpa using hw)) ⟨.bl _,H,I,rfl,?_⟩
  rw [show its.toArray.any (CD x)=its.any (CD x) by simp,rV r fs]
  exact q
 ·obtain ⟨its,r,pl,hz⟩:=I.tuple hq
  refine SeqAt.notIn_tupleAt (CD x) pl (fun w hw=>oO rx fx r fs w (by simpa using hw)) ⟨.bl _,H,I,rfl,?_⟩
  rw [show its.toArray.any (CD x)=its.any (CD x) by simp,rV r fs]
  exact q
theorem rW:jv X (.builtin "len") (fun xs H Q=>∃ p ys,xs=[.ref p]/\(lz X.K H p ys\/jR X.K H p ys)/\Q (.int ys.length) H):=by
 intro pins s σ H xs us Q I r h
 obtain ⟨p,ys,rfl,hq,q⟩:=h
 obtain ⟨u,rfl,rx⟩:=kj r
 cases rx
 have hn:=tT
 rcases hq with hq|hq
 ·obtain ⟨its,r',pl,hz⟩:=I.list hq
  have hlen:=r'.length
  exact Calls.call_len_list pl.isList (by simp only [aH]<;>omega) ⟨.int ys.length,H,I.tok _,⟨s.toks+1,by rw [aH,hlen]⟩,q⟩
 ·obtain ⟨its,r',pl,hz⟩:=I.tuple hq
  have hlen:=r'.length
  exact len_tuple pl (by simp only [aH]<;>omega) ⟨.int ys.length,H,I.tok _,⟨s.toks+1,by rw [aH,hlen]⟩,q⟩
theorem yZ:jv X (.builtin "len") (fun xs H Q=>∃ z,xs=[.str z]/\z.length<=sizeLine/\Q (.int z.length) H):=by
 intro pins s σ H xs us Q I r h
 obtain ⟨z,rfl,hz,q⟩:=h
 obtain ⟨u,rfl,t,rfl⟩:=kj r
 have hn:=tT
 exact len_str (by omega) ⟨.int z.length,H,I.tok _,⟨_,rfl⟩,q⟩
theorem rX:jv X (.type "list") (fun xs H Q=>∃ p ys,xs=[.ref p]/\(lz X.K H p ys\/jR X.K H p ys)/\∀ l,H l=none->Q (.ref l) (upd H l (.lst ys))):=by
 intro pins s σ H xs us Q I r h
 obtain ⟨p,ys,rfl,hq,q⟩:=h
 obtain ⟨u,rfl,rx⟩:=kj r
 cases rx
 have fin:∀ (its:List a9),dg ys its->ys.length<=sizeLine->∀ (h':bu) (c':Nat),(∀ b o',s.heap.get? b=some o'->h'.get? b=some o') ->
   h'.get? s.heap.objs.size=some { cls:=.type "list",dict:=none,data:=.seq its.toArray c',slots:=#[] }->EP X pins σ Q (.ref s.heap.objs.size) { s with heap:=h' }:=fun its r' hz h' c' kp e =>
  ⟨.ref s.heap.objs.size,_,I.laid (t':=s.toks) kp (am _) (show dE X.prog X.w _ h' _ (.lst ys) from ⟨hz,its,c',r',e⟩),rfl,q _ (I.hok.fresh (am _))⟩
 rcases hq with hq|hq
 ·obtain ⟨its,r',pl,hz⟩:=I.list hq
  have hlen:=r'.length
  obtain ⟨o,ho,hc,n,hd⟩:=pl.isList
  exact call_list_seq p (.inl rfl) ho hc hd (fun h' c' kp e=>fin its r' hz h' c' kp e) (by simp only [aH]<;>omega)
 ·obtain ⟨its,r',pl,hz⟩:=I.tuple hq
  have hlen:=r'.length
  obtain ⟨o,ho,hc,n,hd⟩:=pl
  exact call_list_seq p (.inr rfl) ho hc hd (fun h' c' kp e=>fin its r' hz h' c' kp e) (by simp only [aH]<;>omega)
theorem qz:jv X (.type "tuple") (fun xs H Q=>∃ p ys,xs=[.ref p]/\((lz X.K H p ys/\∀ l,H l=none->Q (.ref l) (upd H l (.tup ys)))\/(jR X.K H p ys/\Q (.ref p) H))):=by
 intro pins s σ H xs us Q I r h
 obtain ⟨p,ys,rfl,h⟩:=h
 obtain ⟨u,rfl,rx⟩:=kj r
 cases rx
 rcases h with ⟨hq,q⟩|⟨hq,q⟩
 ·obtain ⟨its,r',pl,hz⟩:=I.list hq
  have hlen:=r'.length
  refine call_tuple_list pl.isList (fun h' kp=>?_) (by simp only [aH]<;>omega)
  have I1:bz X pins σ H { s with heap:=h' }:=I.kept (t':=s.toks) kp
  have I2:bz X pins σ (upd H h'.objs.size (.tup ys)) { s with heap:=h'.push { cls:=.type "tuple",data:=.seq its.toArray } } :=
   I1.laid (t':=s.toks) (fun b o e=>aa _ e) (am _) (show dE X.prog X.w _ _ _ (.tup ys) from ⟨hz,its,r',A6 _ _⟩)
  exact ⟨.ref h'.objs.size,_,I2,rfl,q _ (I1.hok.fresh (am _))⟩
 ·obtain ⟨its,r',pl,hz⟩:=I.tuple hq
  exact call_tuple_same pl ⟨.ref p,H,I,rfl,q⟩
def S_ (K:a8) (T:String) (x:V) (H:Hp):Prop:=match x with
 |.str _=>T="str"
 |.int _=>T="int"
 |.ref p=>(T="list"/\∃ xs,lz K H p xs)\/(T="tuple"/\∃ o,K.lookup p=some o/\o.cls=.type "tuple"/\o.dict=none) \/
   (T="dict"/\((∃ kvs,H p=some (.dK kvs))\/∃ kvs,H p=some (.dT kvs)))\/(T="set"/\∃ S n,H p=some (.set S n))
 |_=>False
theorem Oq {pins:List (ah×Obj)}{σ:St}{H:Hp}{s:ae}{T:String}{x:V}{v:a9} (I:bz X pins σ H s) (r:cX x v) (ty:S_ X.K T x H) :
  s.TypeIs v T/\∀ a,v=.ref a->∃ ob,s.heap.get? a=some ob/\ob.dict=none:=by
 cases x with
 |str z =>
  obtain ⟨t,rfl⟩:=r
  cases (show T="str" from ty)
  exact ⟨typeIs_str s z t,fun _ e=>nomatch e⟩
 |int i =>
  obtain ⟨t,rfl⟩:=r
  cases (show T="int" from ty)
  exact ⟨typeIs_int s i t,fun _ e=>nomatch e⟩
 |ref p =>
  cases r
  rcases ty with ⟨rfl,xs,hq⟩|⟨rfl,o,hk,hc,hd⟩|⟨rfl,hk⟩|⟨rfl,S,n,hk⟩
  ·obtain ⟨its,_,pl,_⟩:=I.list hq
   refine ⟨pl.isList.typeIs,fun a e=>?_⟩
   cases e
   obtain ⟨o,n,e,c,hd,_⟩:=pl
   exact ⟨o,e,hd⟩
  ·refine ⟨⟨o,I.kIn p o hk,hc⟩,fun a e=>?_⟩
   cases e
   exact ⟨o,I.kIn _ o hk,hd⟩
  ·have z:∃ o,s.heap.get? p=some o/\o.ExactDict:=by
    rcases hk with ⟨kvs,hk⟩|⟨kvs,hk⟩
    ·obtain ⟨_,_,_,_,o,_,_,e,ex,_⟩:=I.hok p _ hk
     exact ⟨o,e,ex⟩
    ·obtain ⟨_,_,_,_,o,_,_,e,ex,_⟩:=I.hok p _ hk
     exact ⟨o,e,ex⟩
   obtain ⟨o,e,ex⟩:=z
   refine ⟨⟨o,e,ex.1⟩,fun a e2=>?_⟩
   cases e2
   exact ⟨o,e,ex.2.1⟩
  ·obtain ⟨o,_,_,_,e,ex,_⟩:=I.hok p _ hk
   refine ⟨⟨o,e,ex.1⟩,fun a e2=>?_⟩
   cases e2
   exact ⟨o,e,ex.2.1⟩
 |_=>exact iu ty
def TH (K:a8) (T:String) (r:V->List V->Hp->VK->Prop) (to:TE) (t:TA):TE:=fun σ H Q=>to σ H fun x H1=>S_ K T x H1/\t σ H1 fun xs H2=>r x xs H2 Q
variable {o e:a_}{es:List a_}{to:TE}{t:TA}{name:Str}{apos cpos:Pos}{T id:String}{r:V->List V->Hp->VK->Prop}
theorem HE (pa:PlainAttrs T) (slot:Slot T name id) (hty:typeOf (.builtin id)=pure (.type "method_descriptor")) (hm:TF X id r) (ho:PE X o to) (ha:PA X (e::es) t)
  (hbase:lr o name X.env (cj o X.env)=cj o X.env:=by rfl)
  (hfew:((gE cpos (aE (e::es) X.env)).all (fun x=>!x.1)&&(KN cpos (A8 [] X.env)).all (fun x=>x.1.isSome)
   && decide ((e::es).length+([] : List qJ).length+(if ([] : List qJ).isEmpty then 0 else 1)<30))=true:=by rfl)
  (hline:(apos.endLine==cpos.line)=true:=by rfl) (hs:aE (e::es) X.env=(false,cj e X.env)::aE es X.env:=by rfl) (hplain:(gE cpos (aE es X.env)).any (·.1)=false:=by rfl) :
  PE X (.Call (.Attribute o name apos) (e::es) [] cpos) (TH X.K T r to t):=by
 intro pins s σ H Q I h
 refine wpAny_Call_method_late hbase hfew hline rfl (dX (ho pins s σ H _ I h) fun v s1 ⟨x,H1,I1,r1,ty,q1⟩=>?_)
 obtain ⟨h1,h2⟩:=Oq I1 r1 ty
 refine ⟨T,id,pa,slot,hty,h1,h2,?_⟩
 have hA:=ha cpos pins s1 σ H1 _ I1 q1
 rw [hs] at hA ⊢
 refine Ag (by show (false||(gE cpos (aE es X.env)).any (·.1))=false;rw [hplain]<;>rfl) (Calls.evalArgs_plain ?_)
 exact dX hA fun us s2 h_30=>by obtain ⟨vs,H2,I2,r2,q2⟩:=h_30;exact hm pins s2 σ H2 x vs v us Q I2 r1 r2 q2
end
end L2
namespace L2
open PySem PySem.Spec PyProof.Rows
def T1 (X:Cx) (id:String) (r:V->List V->Hp->VK->Prop):Prop :=
 ∀ (pins:List (ah×Obj)) (s:ae) (σ:St) (H:Hp) (x:V) (xs:List V) (v:a9) (us:List a9) (Q:VK),bz X pins σ H s->cX x v->dg xs us->r x xs H Q ->
  ao (ar X.prog X.w) X.A (call (.builtin id) (v::us)) (EP X pins σ Q) X.xe s
theorem dg.one {x:V}{us:List a9} (h:dg [x] us):∃ u,us=[u]/\cX x u:=by
 cases h with|cons r t=>cases t;exact ⟨_,rfl,r⟩
section
variable {X:Cx}{pins:List (ah×Obj)}{σ:St}{H:Hp}{s:ae}{l b:ah}{xs ys zs:List V}
theorem bz.lset {its its':List a9}{n:Nat}{f:Array a9->Array a9}{t':Nat} (I:bz X pins σ H s) (hH:H l=some (.lst xs))
  (e:s.heap.get? l=some { cls:=.type "list",data:=.seq its.toArray n }) (hf:f its.toArray=its'.toArray) (hv:dg ys its') (hz:ys.length<=sizeLine) :
  bz X pins σ (upd H l (.lst ys)) { s with heap:=s.heap.update l (fv f),toks:=t' }:=by
 have q:=PySem.IsL.update e f
 rw [hf] at q
 refine I.write (x:=l) (e:=l) (by rw [hH];exact trivial) (.inl rfl) (fun b' u hb hu=>(eV s.heap (fv f) (cR hb)).trans hu) ⟨_,q⟩ ?_
 exact ⟨hz,its',_,hv,q⟩
theorem bz.lnew {its:List a9}{t':Nat} (I:bz X pins σ H s) (hv:dg ys its) (hz:ys.length<=sizeLine) :
  bz X pins σ (upd H s.heap.objs.size (.lst ys)) { s with heap:=s.heap.push { cls:=.type "list",data:=.seq its.toArray },toks:=t' } :=
 I.laid (fun _ _ q=>aa _ q) (am _) ⟨hz,its,0,hv,aw _ rfl⟩
theorem bz.fresh (I:bz X pins σ H s):H s.heap.objs.size=none:=I.hok.fresh (am _)
theorem bz.lstM (I:bz X pins σ H s) (hH:H l=some (.lst xs)):SX s.heap l xs:=by
 obtain ⟨z,its,n,r,e⟩:=I.hok l _ hH
 exact ⟨z,its,n,r,r.length,e⟩
theorem HF {n:Nat} (h:n<=sizeLine):kG n=false:=by
 unfold kG
 exact decide_eq_false (by omega)
end
section
variable {X:Cx}
inductive As (x:V) (vs:List V) (H:Hp) (Q:VK):Prop
 |mk (l xs y:_) (h0:x=.ref l) (h1:vs=[y]) (h2:H l=some (.lst xs)) (h3:xs.length<sizeLine) (h4:Q .non (upd H l (.lst (xs++[y])))):As  x vs H Q
def Lv:V->List V->Hp->VK->Prop:=As
theorem xV:T1 X "list.append" Lv:=by
 intro pins s σ H x vs v us Q I rx rv h
 obtain ⟨l,xs,y,rfl,rfl,hH,hz,q⟩:=h
 cases rx
 obtain ⟨u,rfl,ru⟩:=rv.one
 obtain ⟨z,its,n,r,hl,e⟩:=I.lstM hH
 refine call_meets F.slot_list_append ⟨_,e,rfl⟩ F.entry_list_append (F.args_list_append_2 _ _) (PySem.list_append l its.toArray n u (by rw [aH];omega)) ⟨e,?_⟩
 refine ⟨.non,_,I.lset (its':=its++[u]) hH e (by simp) (r.append (.cons ru .nil)) ?_,rfl,q⟩
 rw [aB,eg]
 omega
end
section
variable {prog:aS}{w:bn}{A:bv}{E:a9->ae->Prop}{s:ae}
end
section
variable {X:Cx}
end
end L2
namespace Att
open PySem PySem.W PySem.Calls PyProof.Rows
theorem uM {P:Params}{h:bu}:∀ (ns:List Int) (vs:List a9),WellAll P h vs (ns.map WData.int)->GS vs ns:=by
 intro ns
 induction ns with
 |nil =>
  intro vs w
  rw [dQ] at w
  cases w
  exact .nil
 |cons n ns ih =>
  intro vs w
  rw [az] at w
  cases w with
  |cons a b =>
   cases a
   exact .cons _ _ (ih _ b)
theorem Fo {l:OpenLaw}{n:Nat} (hn:l.most=some n) {P:Params}{h:bu}{args:List WData}{vals:List a9}
  (hpre:l.row.toRowW.claim.pre args=true) (hwl:WellAll P h vals args) :
  ∃ a vs ns,vals=[bt a]/\args=[WData.list (ns.map WData.int)]/\h.get? a=some { cls:=.type "list",data:=.seq vs.toArray }/\GS vs ns/\ns.length<=n:=by
 have hsh:WShape.hasAll [] args [.list .int]=true:=(pre_splitW hpre).1
 have hc:l.pre.holds [] { args:=args }=true:=(pre_splitW hpre).2
 obtain ⟨d,r,rfl,h1,h2⟩:=hasAllW_cons hsh
 obtain rfl:=hasAllW_nil h2
 obtain ⟨xs,rfl,h3⟩:=hasW_list h1
 obtain ⟨ns,rfl⟩:=items_int h3
 have hlen:ns.length<=n:=by
  unfold OpenLaw.pre at hc
  have h4:(WTm.not (.lt (.lit (.int (n:Int))) (.len (.arg 0)))).holds [] { args:=[.list (ns.map .int)] }=true:=by
   have h4:=(holds_andW hc).1
   rw [hn] at h4
   exact h4
  have h5:=condW_of h4 (w_not (w_lt w_lit (w_len_list (w_arg rfl))))
  rw [au] at h5
  refine KO fun q=>?_
  have q':(n:Int)<((ns.length:Nat):Int):=by omega
  first
   |(rw [decide_eq_true q'] at h5;exact absurd h5 (by decide))
   |(simp at h5;omega)
 cases hwl with
 |cons w1 w2 =>
  cases w2
  cases w1 with
  |list ho hall=>exact ⟨_,_,ns,rfl,rfl,ho,uM ns _ hall,hlen⟩
theorem Fp (l:OpenLaw) (args:List WData):l.row.toRowW.claim.post args (.bool true) args=true :=
 postW_of (r:=l.row.toRowW) (X:=(true==true))
  (show WShape.has [] (.bool true) .bool=true by first|rfl|decide|simp [WShape.has,WShape.arms,WShape.armsAll])
  (show (WTm.eq .res (.lit (.bool true))).value [] { args:=args,res:=some (.bool true),after:=args }=some (.bool (true==true)) from w_eq_bool (w_res rfl) w_lit) rfl
theorem attach_call {l:OpenLaw}{n:Nat}{q:aS}{loose:List Str}{XP:(Str->Option a9)->bu->Prop}{YP:bn->bu->Prop}{d:DefRec}
  (hn:l.most=some n) (hdf:d.params.defaults=[])
  (call:∀ (w:bn) (s₀ s₁:ae) (mg mb:Str->Option a9) (fa:ah) (o:Obj) (pm cd doc:a9) (a:ah) (vs:List a9) (ns:List Int),
   Ground q loose [] XP w s₀ mg mb s₁.heap->YP w s₁.heap ->
   s₁.heap.get? fa=some o->o.data=.func (docDef d.name d.params d.body d.scope pm cd doc)->s₁.heap.CodeRec cd d.name->mg d.name=some (.ref fa) ->
   s₁.heap.get? a=some { cls:=.type "list",data:=.seq vs.toArray }->GS vs ns->ns.length<=n->s₁.gens=#[] ->
   dG (ar l.prog w) ul (.call (.ref fa) ⟨[.ref a],[]⟩) (fun r s'=>r=.ok (.ret (.bool true))/\OldK s₁.heap s'.heap/\s'.os=s₁.os/\om s'.gens) s₁) :
  WalkO q loose XP YP l.row.toRowW d [] (fun f vs=>F3 f vs):=by
 intro w s₀ s₁ mg mb G Y fa o pm cd doc dV kV ho hd hcd hD hmg hg args vals as hpre hlay hrd hwl hlo
 obtain rfl:dV=.none:=Dflts.none hD hdf
 obtain rfl:kV=.none:=Dflts.noKw hD
 obtain ⟨a,vs,ns,rfl,rfl,hobj,hints,hlen⟩:=Fo hn hpre hwl
 refine enter_call (mD (call w s₀ s₁ mg mb fa o pm cd doc a vs ns G Y ho (fd_plain hd) hcd hmg hobj hints hlen hg) fun r s' hq=>?_)
 obtain ⟨rfl,h2,h3,h4⟩:=hq
 exact ⟨.inl ⟨.bool true,.bool true,[],rfl,fun _=>rfl,.bool true,Fp l _,fun _=>⟨oA,fun _ hm=>(nomatch hm)⟩⟩,h2,h3,h4⟩
section
variable {prog:aS}{w:bn}{A:bv}{E:a9->ae->Prop}{s:ae}{K:Frag}
def Se (h:bu) (L d:ah):List (ah×Obj):=(bY h.objs.size).filterMap fun a=>if a=L\/a=d then none else (h.get? a).map fun o=>(a,o)
end
end Att
namespace L2
open PySem PySem.Spec PyProof.Rows
theorem Fq {vs:List a9}{ns:List Int} (h:GS vs ns):dg (ns.map V.int) vs:=by
 induction h with
 |nil=>exact .nil
 |cons n t h ih=>exact .cons ⟨t,rfl⟩ ih
def Os (H:Hp):Prop:=∀ b,H b=none\/∃ o xs,H b=some (.frz o (.lst xs))
theorem HG {P:aS}{w:bn}{K:a8}{mg mb:Str->Option a9}{CX:Fj}{k:Nat}{fa a:ah}{fd:eQ}{x:Str}{sp:Sp}{s₁:ae}{vs:List a9}{ns:List Int}
  (KX:K.In s₁.heap) (hns:s₁.heap.Ns bK mg) (hb:s₁.heap.Ns builtinsNs mb) (hbb:∀ x:Str,x≠"__name__"->mb x=i8 x) (hlim:s₁.heap.NoLimit) (hg:s₁.gens=#[])
  (ha:s₁.heap.get? a=some { cls:=.type "list",data:=.seq vs.toArray }) (hi:GS vs ns) (hl:ns.length<=sizeLine) (hr:jT k ul)
  (F:∀ base:bu,K.In base->base.Ns bK mg->qi P w K mg base CX k fa fd [x] sp) (hbind:∀ (s:ae) (u:a9),xb s fd ⟨[u],[]⟩ [(x,u)])
  (hsp:∀ H:Hp,Os H->lz K H a (ns.map V.int)->sp [.ref a] H (fun v _=>v=.bl true) fun _ _ _=>False)
  (hCX:∀ H e s',CX [] H s₁ (fun _ _ _=>False) e s'->False) :
  dG (ar P w) ul (.call (.ref fa) ⟨[.ref a],[]⟩) (fun r s'=>r=.ok (.ret (.bool true))/\OldK s₁.heap s'.heap/\s'.os=s₁.os/\om s'.gens) s₁:=by
 have rv:=Fq hi
 have lenV:=hi.length
 have core:∀ H:Hp,Os H->lz K H a (ns.map V.int)->oG P w H s₁.heap->(∀ b,H b≠none->b=a)->(H a≠none->K.lookup a=none) ->
   dG (ar P w) ul (.call (.ref fa) ⟨[.ref a],[]⟩) (fun r s'=>r=.ok (.ret (.bool true))/\OldK s₁.heap s'.heap/\s'.os=s₁.os/\om s'.gens) s₁:=by
  intro H hO hS hok hA hK
  have base_of:∀ {b:ah}{o:Obj},s₁.heap.get? b=some o->H b=none->(yS s₁.heap H).get? b=some o:=fun e n=>Hg e n
  have noA:∀ {b:ah}{o:Obj}{es:Array DictEntry}{ep:Nat},s₁.heap.get? b=some o->o.data=.dict es ep->H b=none:=fun {b o es ep} e d=>by
   cases q:H b with
   |none=>rfl
   |some u =>
    have e':b=a:=hA b (by rw [q];simp)
    subst e'
    rw [ha] at e;cases e
    have d':Data.seq vs.toArray _=Data.dict es ep:=d
    cases d'
  have nsK:∀ {b:ah}{m:Str->Option a9},s₁.heap.Ns b m->(yS s₁.heap H).Ns b m:=fun {b m} ⟨o,es,ep,e,d,r⟩=>⟨o,es,ep,base_of e (noA e d),d,r⟩
  have hKb:K.In (yS s₁.heap H):=fun b o e=>base_of (KX b o e) (by
   cases q:H b with
   |none=>rfl
   |some u =>
    have e':b=a:=hA b (by rw [q];simp)
    subst e'
    rw [hK (by rw [q];simp)] at e;cases e)
  have hM:Mod K mg (yS s₁.heap H):=⟨hKb,nsK hns,⟨mb,nsK hb,hbb⟩,let ⟨mc,h1,h2⟩:=hlim;⟨mc,nsK h1,h2⟩⟩
  have e0:Ll P w K mg (yS s₁.heap H) ul [] s₁ H:=⟨rfl,hM,fun b o e=>La e,Nat.le_of_eq (Fe _ _),trivial,fun b hb=>absurd (show b∈([] : List ah) from hb) (by simp),hok,.of_eq hg⟩
  refine mD ((F _ hKb (nsK hns)).run ul [] s₁ H ⟨[.ref a],[]⟩ [.ref a] [.ref a] _ _ hr e0 (hbind s₁ (.ref a)) (.cons rfl .nil) (hsp H hO hS)) fun r s' h=>?_
  cases r with
  |error e=>exact (hCX H e s' h).elim
  |ok fl =>
   cases fl with
   |next=>exact iu h
   |brk=>exact iu h
   |cont=>exact iu h
   |ret u =>
    obtain ⟨v,H',os,bare,un,hok',r',q⟩:=h
    have q':v=.bl true:=q
    subst q'
    obtain rfl:u=EW true:=r'
    refine ⟨rfl,OldK.of_keep fun b o e=>?_,os,bare⟩
    cases q:H b with
    |none=>exact un.keep b o e q (by intro z;exact absurd (show b∈([] : List ah) from z) (by simp)) (by simp)
    |some u =>
     rcases hO b with z|⟨ob,xs,z⟩
     ·rw [q] at z;cases z
     ·have z2:=un.frzs b ob _ z
      obtain ⟨e1,_⟩:=hok b _ z
      obtain ⟨e2,_⟩:=hok' b _ z2
      rw [e] at e1;cases e1
      exact e2
 cases hk:K.lookup a with
 |some o =>
  have e:=KX a o hk
  rw [ha] at e
  cases e
  refine core (fun _=>none) (fun _=>.inl rfl) (.inr ⟨_,vs.toArray,_,hk,rfl,rfl,rfl,by rw [aH,lenV];exact hl,by simpa using rv⟩) (fun b u z=>by have z':(none:Option HO)=some u:=z;cases z') (fun b z=>absurd rfl z) fun z=>absurd rfl z
 |none =>
  refine core (fun b=>if b=a then some (.frz { cls:=.type "list",data:=.seq vs.toArray } (.lst (ns.map V.int))) else none) (fun b=>?_) (.inl (.inr ⟨{ cls:=.type "list",data:=.seq vs.toArray },if_pos rfl⟩)) (fun b u z=>?_) (fun b z=>?_) fun _=>hk
  ·by_cases hb:b=a
   ·exact .inr ⟨_,_,if_pos hb⟩
   ·exact .inl (if_neg hb)
  ·by_cases hb:b=a
   ·have z':=(if_pos hb).symm.trans z
    cases z'
    subst hb
    exact ⟨ha,by rw [au];exact hl,vs,_,rv,ha⟩
   ·have z':=(if_neg hb).symm.trans z
    cases z'
  ·by_cases hb:b=a
   ·exact hb
   ·exact absurd (if_neg hb) z
end L2
namespace L2
open PySem PySem.Spec PyProof.Rows
abbrev TW {K:a8}{h:bu} (_:K.In h):a8:=K
theorem Lw {l:uH}{n k:Nat}{q:aS}{loose:List Str}{XP:(Str->Option a9)->bu->Prop}{YP:bn->bu->Prop}{d:DefRec}{K:Params->a8}{CX:bn->Fj}{sp:bn->Sp}{x:Str}
  (hn:l.most=some n) (hn2:n<=sizeLine) (hdf:d.params.defaults=[]) (hr:jT k ul)
  (hY:∀ (w:bn) (h:bu),YP w h->(K w.params).In h)
  (F:∀ (w:bn) (mg:Str->Option a9) (fa:ah) (h:bu),(K w.params).In h->h.Ns bK mg->mg d.name=some (.ref fa) ->
   ∃ fd:eQ,(∀ (s:ae) (u:a9),xb s fd ⟨[u],[]⟩ [(x,u)]) /\
    ∀ base:bu,(K w.params).In base->base.Ns bK mg->qi l.prog w (K w.params) mg base (CX w) k fa fd [x] (sp w))
  (hsp:∀ (w:bn) (H:Hp) (a:ah) (ns:List Int),ns.length<=n->Os H->lz (K w.params) H a (ns.map V.int)->sp w [.ref a] H (fun v _=>v=.bl true) fun _ _ _=>False)
  (hCX:∀ (w:bn) (H:Hp) (s:ae) (e:a9) (s':ae),CX w [] H s (fun _ _ _=>False) e s'->False) :
  Kx q loose XP YP l.row.toRowW d [] (fun f vs=>F3 f vs):=by
 refine Att.attach_call hn hdf fun w s₀ s₁ mg mb fa o pm cd doc a vs ns G Y ho hd hcd hmg hobj hints hlen hg=>?_
 have KX:=hY w _ Y
 obtain ⟨fd,hb,hF⟩:=F w mg fa _ KX G.T.g hmg
 exact HG KX G.T.g G.T.b G.T.builtins G.T.nolimit hg hobj hints (bM hlen hn2) hr hF hb (fun H hO hS=>hsp w H a ns hlen hO hS) fun H e s'=>hCX w H s₁ e s'
end L2
namespace L2
open PySem PySem.Spec PyProof.Rows
def jH (s:eJ):Arguments:=match s with
 |.FunctionDef _ a _ _ _ _ _ _ _ _=>a
 |_=>{ posonlyargs:=[],args:=[],vararg:=none,kwonlyargs:=[],kw_defaults:=[],kwarg:=none,defaults:=[] }
def hJ (s:eJ):List eJ:=match s with
 |.FunctionDef _ _ b _ _ _ _ _ _ _=>b
 |_=>[]
def aN (s:eJ):dU:=match s with
 |.FunctionDef _ _ _ _ _ _ sc _ _ _=>sc
 |_=>{ kind:=.function,names:=[],isGenerator:=false,isCoroutine:=false }
abbrev E0:XK:=fun _ _ _=>False
structure Ft (K:a8) (x qual:Str) (st:eJ) (f:ah) (fd:eQ):Prop where
 ex:∃ (oc:a9) (od:Option ah) (kV doc pm:a9) (an:Option ah) (cdv ct:a9) (osl:Array (Option a9)),
  fd=fF x qual (jH st) (hJ st) (aN st) .none kV doc pm an cdv ct/\K.lookup f=some ⟨oc,od,.func fd,osl⟩/\kQ K cdv qual=true
 kp:eX K (.ref f)=true
section
variable {P:aS}{w:bn}{K:a8}{mg:Str->Option a9}{base:bu}
theorem Ft.binds {x qual:Str}{st:eJ}{f:ah}{fd:eQ}{ps:List Str} (F:Ft K x qual st f fd)
  (h:∀ (kV doc pm:a9) (an:Option ah) (cdv ct:a9) (us:List a9),us.length=ps.length->KM (fF x qual (jH st) (hJ st) (aN st) .none kV doc pm an cdv ct) ⟨us,[]⟩=pure (ps.zip us)):kn K fd ps []:=by
 obtain ⟨oc,od,kV,doc,pm,an,cdv,ct,osl,rfl,lk,hcd⟩:=F.ex
 exact .all (h kV doc pm an cdv ct)
theorem HH {x qual:Str}{st:eJ}{f:ah}{oc:a9}{od an:Option ah}{osl:Array (Option a9)}{kV doc pm cdv ct:a9} (l:K.lookup f=some ⟨oc,od,.func (fF x qual (jH st) (hJ st) (aN st) .none kV doc pm an cdv ct),osl⟩)
  (c:kQ K cdv qual=true) (k:eX K (.ref f)=true):Ft K x qual st f (fF x qual (jH st) (hJ st) (aN st) .none kV doc pm an cdv ct):=⟨⟨oc,od,kV,doc,pm,an,cdv,ct,osl,rfl,l,c⟩,k⟩
end
theorem o6 {A:bv}{k:Nat} (hr:jT k A):A.units+1<fO:=m8 (Nat.add_le_add_left (by decide:1<=64) _) hr.units
theorem dz {n:Nat} (h:n<=1000):n<sizeLine:=m8 h (by decide)
section
variable {X:Cx}
theorem pv (i:Nat) {x:Str}{pos:Pos} (hN:X.N[i]?=some x:=by rfl) (hv:GK X.env.scope x:=by first|exact fV rfl|exact dD (fV rfl)|exact dD (dD rfl)) (hd:(x==("__debug__" : Str))=false:=by decide)
  (hcd:(x==("__classdict__" : Str))=false:=by decide):PE X (.Name x pos) (NQ i):=nu hN hv hd hcd
end
theorem vH {A B:Prop} (h:B):if false=true then A else B:=by
 rw [if_neg bj]
 exact h
theorem vI {A B:Prop} (h:A):if true=true then A else B:=by
 rw [if_pos rfl]
 exact h
def cz (H H':Hp):Prop:=∀ b o,H b=some o->H' b=some o
theorem cz.refl (H:Hp):cz H H:=fun _ _ h=>h
theorem cz.trans {H H1 H2:Hp} (a:cz H H1) (b:cz H1 H2):cz H H2:=fun c o h=>b c o (a c o h)
theorem cz.free {H H':Hp} (e:cz H H') {l:ah} (h:H' l=Option.none):H l=Option.none:=by
 cases q:H l with
 |none=>rfl
 |some o =>
  rw [e l o q] at h
  cases h
theorem cz.seq {K:a8}{H H':Hp}{a:ah}{xs:List V} (e:cz H H') (h:lz K H a xs):lz K H' a xs:=by
 rcases h with (h|⟨o,h⟩)|h
 ·exact .inl (.inl (e _ _ h))
 ·exact .inl (.inr ⟨o,e _ _ h⟩)
 ·exact .inr h
end L2
end
section
namespace L2
open PySem PySem.Spec PyProof.Rows
section
variable {κ:Type} [DecidableEq κ]
def rY (kvs:List (κ×V)) (k:κ):Option V:=(kvs.find? fun kv=>decide (kv.1=k)).map (·.2)
def qQ (kvs:List (κ×V)) (k:κ) (v:V):List (κ×V) :=
 if (kvs.any fun kv=>decide (kv.1=k))=true then kvs.map (fun kv=>if kv.1=k then (kv.1,v) else kv) else kvs++[(k,v)]
def HI (kvs:List (κ×V)) (k:κ):List (κ×V):=kvs.filter fun kv=>decide (kv.1≠k)
theorem vJ {p:κ×V}{r:List (κ×V)}{k:κ} (e:p.1=k):rY (p::r) k=some p.2:=by simp [rY,dY,e]
theorem vK {p:κ×V}{r:List (κ×V)}{k:κ} (e:¬ p.1=k):rY (p::r) k=rY r k:=by simp [rY,dY,e]
theorem At (k:κ):∀ kvs:List (κ×V),(kvs.any fun kv=>decide (kv.1=k))=(rY kvs k).isSome
 |[]=>rfl
 |p::r=>by
  rw [eF]
  by_cases e:p.1=k
  ·simp only [vJ e,decide_eq_true e,Bool.true_or,DH]
  ·rw [vK e,decide_eq_false e,Bool.false_or];exact At k r
theorem lK (kvs:List (κ×V)) (k:κ) (v:V):(qQ kvs k v).length<=kvs.length+1:=by
 unfold qQ
 split
 ·rw [au];omega
 ·rw [aB,bp,dZ];omega
theorem vC.isSome_eq {o:Option V}{u:Option a9} (r:vC o u):o.isSome=u.isSome:=by
 cases o with
 |none=>cases u with
  |none=>rfl
  |some _=>exact (show False from r).elim
 |some _=>cases u with
  |none=>exact (show False from r).elim
  |some _=>rfl
theorem KV.val {kvs:List (κ×V)}{vs:List (κ×a9)} (r:KV kvs vs) (k:κ):vC (rY kvs k) (xf vs k):=by
 unfold KV at r
 induction r with
 |nil=>exact jd
 | @cons p q ps qs h t ih =>
  obtain ⟨h1,h2⟩:=h
  by_cases e:p.1=k
  ·have e':q.1=k:=h1.symm.trans e
   have b:xf (q::qs) k=some q.2:=by simp [xf,dY,e']
   rw [vJ e,b];exact h2
  ·have e':¬ q.1=k:=fun z=>e (h1.trans z)
   have b:xf (q::qs) k=xf qs k:=by simp [xf,dY,e']
   rw [vK e,b];exact ih
theorem KV.any {kvs:List (κ×V)}{vs:List (κ×a9)} (r:KV kvs vs) (k:κ):(kvs.any fun kv=>decide (kv.1=k))=vs.any fun kv=>decide (kv.1=k):=by
 unfold KV at r
 induction r with
 |nil=>rfl
 |cons h t ih=>rw [eF,eF,ih,h.1]
theorem KV.repl {kvs:List (κ×V)}{vs:List (κ×a9)} (r:KV kvs vs) (k:κ) {y:V}{u:a9} (ry:cX y u) :
  KV (kvs.map fun kv=>if kv.1=k then (kv.1,y) else kv) (vs.map fun kv=>if kv.1=k then (kv.1,u) else kv):=by
 unfold KV at r ⊢
 induction r with
 |nil=>exact .nil
 | @cons p q ps qs h t ih =>
  rw [az,az]
  refine .cons ?_ ih
  obtain ⟨h1,h2⟩:=h
  by_cases e:p.1=k
  ·rw [if_pos e,if_pos (h1.symm.trans e)];exact ⟨h1,ry⟩
  ·rw [if_neg e,if_neg (fun z=>e (h1.trans z))];exact ⟨h1,h2⟩
theorem KV.put {kvs:List (κ×V)}{vs:List (κ×a9)} (r:KV kvs vs) (k:κ) {y:V}{u:a9} (ry:cX y u):KV (qQ kvs k y) (GT vs k u):=by
 unfold qQ GT
 rw [r.any k]
 by_cases e:(vs.any fun kv=>decide (kv.1=k))=true
 ·rw [if_pos e,if_pos e];exact r.repl k ry
 ·rw [if_neg e,if_neg e];exact Paired.snoc r ⟨rfl,ry⟩
theorem KV.length {kvs:List (κ×V)}{vs:List (κ×a9)} (r:KV kvs vs):kvs.length=vs.length:=gU r
end
theorem xW {P:aS}{w:bn}{k:eR}{u:a9} (r:cX (kV k) u):(cq P w).is k u=true:=by
 cases k with
 |inl i=>obtain ⟨t,e⟩:=(show ∃ t,u=jN i t from r);subst e;exact Am P w i t
 |inr x=>obtain ⟨t,e⟩:=(show ∃ t,u=iC x t from r);subst e;exact An P w x t
theorem xX {P:aS}{w:bn}:∀ {ks:List eR}{us:List a9},dg (ks.map kV) us->ItemsAre (cq P w) ks us
 |[],_,r=>by rw [dQ] at r;cases r;exact .nil
 |k::ks,_,r=>by
  rw [az] at r
  cases r with
  |cons h t=>exact .cons (xW h) (xX t)
abbrev KT (H:Hp):List (List eR×V)->List (List eR×ah×a9)->Prop:=GO fun p q=>p.1=q.1/\H q.2.1=some (.tup (p.1.map kV))/\cX p.2 q.2.2
theorem KT.val {H:Hp}{kvs:List (List eR×V)}{xs:List (List eR×ah×a9)} (r:KT H kvs xs) (k:List eR):vC (rY kvs k) ((Ce xs k).map (·.2)):=by
 induction r with
 |nil=>exact jd
 | @cons p q ps qs h t ih =>
  obtain ⟨h1,_,h2⟩:=h
  by_cases e:p.1=k
  ·have e':q.1=k:=h1.symm.trans e
   have b:Ce (q::qs) k=some q.2:=by simp [Ce,dY,e']
   rw [vJ e,b];exact h2
  ·have e':¬ q.1=k:=fun z=>e (h1.trans z)
   have b:Ce (q::qs) k=Ce qs k:=by simp [Ce,dY,e']
   rw [vK e,b];exact ih
theorem KT.repl {H:Hp}{kvs:List (List eR×V)}{xs:List (List eR×ah×a9)} (r:KT H kvs xs) (k:List eR) {y:V}{u:a9} (ry:cX y u) :
  KT H (kvs.map fun kv=>if kv.1=k then (kv.1,y) else kv) (xs.map (putAt k u)):=by
 induction r with
 |nil=>exact .nil
 | @cons p q ps qs h t ih =>
  rw [az,az]
  refine .cons ?_ ih
  obtain ⟨h1,h2,h3⟩:=h
  unfold putAt
  by_cases e:p.1=k
  ·rw [if_pos e,if_pos (h1.symm.trans e)];exact ⟨h1,h2,ry⟩
  ·rw [if_neg e,if_neg (fun z=>e (h1.trans z))];exact ⟨h1,h2,h3⟩
theorem KT.put {H:Hp}{kvs:List (List eR×V)}{xs:List (List eR×ah×a9)} (r:KT H kvs xs) (k:List eR) {b:ah}{y:V}{u:a9} (hb:H b=some (.tup (k.map kV))) (ry:cX y u) :
  KT H (qQ kvs k y) (storedH xs k b u):=by
 have e:(kvs.any fun kv=>decide (kv.1=k))=(Ce xs k).isSome:=by
  rw [At,(r.val k).isSome_eq,t4]
 unfold qQ storedH
 rw [e]
 by_cases q:(Ce xs k).isSome=true
 ·rw [if_pos q,if_pos q];exact r.repl k ry
 ·rw [if_neg q,if_neg q];exact Paired.snoc r ⟨rfl,hb,ry⟩
theorem KT.keeps {H H':Hp}{kvs:List (List eR×V)}{xs:List (List eR×ah×a9)} (r:KT H kvs xs) (ht:∀ b ys,H b=some (.tup ys)->H' b=some (.tup ys)):KT H' kvs xs :=
 Paired.mapP r fun _ _ z=>⟨z.1,ht _ _ z.2.1,z.2.2⟩
section
variable {P:aS}{w:bn}{H:Hp}{h:bu}{a:ah}
theorem MJ {u:HO} (ok:oG P w H h) (e:Rd H a u):dE P w H h a u:=e.ok ok
theorem xY {kvs:List (eR×V)} (ok:oG P w H h) (e:Rd H a (.dK kvs)):kvs.length<=sizeLine/\(a==gD)=false/\∃ vs,KV kvs vs/\h.DictOf (cq P w) a vs :=
 show dE P w H h a (.dK kvs) from MJ ok e
theorem DP {kvs:List (eR×V)} (ok:oG P w H h) (e:H a=some (.dK kvs)):kvs.length<=sizeLine/\(a==gD)=false/\∃ vs,KV kvs vs/\h.DictOf (cq P w) a vs:=xY ok (.inl e)
theorem vL {ks:List eR} (ok:oG P w H h) (e:H a=some (.tup (ks.map kV))):(yO (cq P w)).is h ks a:=by
 obtain ⟨_,its,r,o,h1,h2,n,h3⟩:=(show dE P w H h a (.tup (ks.map kV)) from ok a _ e)
 exact ⟨o,its.toArray,n,h1,h2,h3,by simpa using xX r⟩
theorem xZ {kvs:List (List eR×V)} (ok:oG P w H h) (e:Rd H a (.dT kvs)):kvs.length<=sizeLine/\(a==gD)=false /\
  ∃ xs,KT H kvs xs/\h.DictOfH (yO (cq P w)) a xs:=by
 obtain ⟨z,y,xs,r,o,es,ep,h1,h2,h3,h4,h5⟩:=(show dE P w H h a (.dT kvs) from MJ ok e)
 refine ⟨z,y,xs,r,o,es,ep,h1,h2,h3,h4,fun x hx=>?_,h5⟩
 have all:∀ {l:List (List eR×V)}{m:List (List eR×ah×a9)},KT H l m->∀ x∈m,(yO (cq P w)).is h x.1 x.2.1:=by
  intro l m q
  induction q with
  |nil=>intro x hx;exact nomatch hx
  | @cons p q ps qs hq t ih =>
   intro x hx
   rcases List.mem_cons.mp hx with e|hx
   ·subst e
    exact vL ok (by rw [<- hq.1];exact hq.2.1)
   ·exact ih x hx
 exact all r x hx
theorem Qe {kvs:List (List eR×V)} (ok:oG P w H h) (e:H a=some (.dT kvs)):kvs.length<=sizeLine/\(a==gD)=false /\
  ∃ xs,KT H kvs xs/\h.DictOfH (yO (cq P w)) a xs:=xZ ok (.inl e)
end
def xp (H:Hp) (a:ah) (y:V) (r:Option V):Prop :=
 (∃ kvs k,Rd H a (.dK kvs)/\y=kV k/\r=rY kvs k)\/∃ kvs k b,Rd H a (.dT kvs)/\y=.ref b/\H b=some (.tup (k.map kV))/\r=rY kvs k
def HJ (H:Hp) (a:ah) (y v:V) (H':Hp):Prop :=
 (∃ kvs k,H a=some (.dK kvs)/\y=kV k/\kvs.length<sizeLine/\H'=upd H a (.dK (qQ kvs k v))) \/
 ∃ kvs k b,H a=some (.dT kvs)/\y=.ref b/\H b=some (.tup (k.map kV))/\kvs.length<sizeLine/\H'=upd H a (.dT (qQ kvs k v))
theorem xp.k {H:Hp}{a:ah}{kvs:List (eR×V)}{k:eR} (e:H a=some (.dK kvs)):xp H a (kV k) (rY kvs k):=.inl ⟨kvs,k,.inl e,rfl,rfl⟩
theorem HJ.k {H:Hp}{a:ah}{kvs:List (eR×V)}{k:eR}{v:V} (e:H a=some (.dK kvs)) (hl:kvs.length<sizeLine):HJ H a (kV k) v (upd H a (.dK (qQ kvs k v))):=.inl ⟨kvs,k,e,rfl,hl,rfl⟩
section
variable {X:Cx}{pins:List (ah×Obj)}{σ:St}{H:Hp}{s:ae}{a:ah}{y v:V}{u r:a9}{o:Option V}{A:bv}{E:a9->ae->Prop}
theorem bz.big (I:bz X pins σ H s):gD<s.heap.objs.size:=by
 have h:bK<s.heap.objs.size:=(I.mod.glob.keeps I.bk).lt
 exact dw (by decide) h
theorem Fu {Q:a9->ae->Prop} (hu:A.units+1<fO) (I:bz X pins σ H s) (g:xp H a y (some v)) (ry:cX y u) (h:∀ w' s',bz X pins σ H s'->cX v w'->Q w' s') :
  ao (ar X.prog X.w) A (oo (.ref a) u) Q E s:=by
 rcases g with ⟨kvs,k,e,ey,l⟩|⟨kvs,k,b,e,ey,eb,l⟩
 ·subst ey
  obtain ⟨z,hd,vs,rel,dd⟩:=xY I.hok e
  obtain ⟨w',hw,rw'⟩:=vC.some_of (v:=v) (o:=xf vs k) (by rw [l];exact rel.val k)
  exact wpAny_getItem_of (xW ry) dd.mapOf hw (h w' _ (I.tok _) rw')
 ·subst ey
  cases (show u=bt b from ry)
  obtain ⟨z,hd,xs,rel,dd⟩:=xZ I.hok e
  obtain ⟨w',hw,rw'⟩:=vC.some_of (v:=v) (o:=(Ce xs k).map (·.2)) (by rw [l];exact rel.val k)
  obtain ⟨p,hp,hp2⟩:=Option.map_eq_some_iff.mp hw
  refine wpAny_getItem_heap (nq hu) (vL I.hok eb) dd hp ?_
  rw [hp2]
  exact h w' _ (I.tok _) rw'
theorem d_in {Q:a9->ae->Prop} (hu:A.units+1<fO) (I:bz X pins σ H s) (g:xp H a y o) (ry:cX y u) (h:∀ s',bz X pins σ H s'->Q (.bool o.isSome) s') :
  ao (ar X.prog X.w) A (bG .In u (.ref a)) Q E s:=by
 rcases g with ⟨kvs,k,e,ey,l⟩|⟨kvs,k,b,e,ey,eb,l⟩
 ·subst ey
  obtain ⟨z,hd,vs,rel,dd⟩:=xY I.hok e
  refine wpAny_in_of (xW ry) hd dd.mapOf ?_
  rw [<- (rel.val k).isSome_eq,<- l]
  exact h _ (I.tok _)
 ·subst ey
  cases (show u=bt b from ry)
  obtain ⟨z,hd,xs,rel,dd⟩:=xZ I.hok e
  refine wpAny_in_heap (nq hu) (vL I.hok eb) hd dd ?_
  have q:=(rel.val k).isSome_eq
  rw [t4] at q
  rw [<- q,<- l]
  exact h _ (I.tok _)
theorem Lx {Q:a9->ae->Prop} (hu:A.units+1<fO) (I:bz X pins σ H s) (g:xp H a y o) (ry:cX y u) (h:∀ s',bz X pins σ H s'->Q (.bool (!o.isSome)) s') :
  ao (ar X.prog X.w) A (bG .NotIn u (.ref a)) Q E s:=by
 rcases g with ⟨kvs,k,e,ey,l⟩|⟨kvs,k,b,e,ey,eb,l⟩
 ·subst ey
  obtain ⟨z,hd,vs,rel,dd⟩:=xY I.hok e
  refine wpAny_notIn_of (xW ry) hd dd.mapOf ?_
  rw [<- (rel.val k).isSome_eq,<- l]
  exact h _ (I.tok _)
 ·subst ey
  cases (show u=bt b from ry)
  obtain ⟨z,hd,xs,rel,dd⟩:=xZ I.hok e
  refine wpAny_notIn_heap (nq hu) (vL I.hok eb) hd dd ?_
  have q:=(rel.val k).isSome_eq
  rw [t4] at q
  rw [<- q,<- l]
  exact h _ (I.tok _)
theorem DQ {h':bu}{t':Nat}{ob:HO} (I:bz X pins σ H s) (mu:PL (H a)) (hs:bT a s.heap h') (he:∃ q,h'.get? a=some q) (new:dE X.prog X.w (upd H a ob) h' a ob) :
  bz X pins σ (upd H a ob) { s with heap:=h',toks:=t' } :=
 I.write (x:=a) (e:=a) mu (.inl rfl) (fun b q hb z=>(hs.2 b hb).trans z) he new
theorem Ot {P:aS}{w:bn}{H':Hp}{h':bu}{kvs:List (eR×V)}{vs:List (eR×a9)} (z:kvs.length<=sizeLine) (hd:(a==gD)=false) (rel:KV kvs vs) (dd:h'.DictOf (cq P w) a vs) :
  dE P w H' h' a (.dK kvs):=⟨z,hd,vs,rel,dd⟩
theorem Fv {H':Hp}{Q:Unit->ae->Prop} (hu:A.units+1<fO) (I:bz X pins σ H s) (g:HJ H a y v H') (ry:cX y u) (rv:cX v r) (h:∀ s',bz X pins σ H' s'->Q () s') :
  ao (ar X.prog X.w) A (setItem (.ref a) u r) Q E s:=by
 rcases g with ⟨kvs,k,e,ey,l,eH⟩|⟨kvs,k,b,e,ey,eb,l,eH⟩
 ·subst ey eH
  obtain ⟨z,hd,vs,rel,dd⟩:=DP I.hok e
  have hz:vs.length<=sizeLine:=by rw [<- rel.length];exact z
  have hl:(qQ kvs k v).length<=sizeLine:=by have:=lK kvs k v;omega
  refine wpAny_setItem_pairs (hsz:=hz) (xW ry) dd fun h' dd' hs=>h _ ?_
  have he:∃ q,h'.get? a=some q:=let ⟨q,_,_,hq,_⟩:=dd';⟨q,hq⟩
  exact DQ I (by rw [e];exact jd) hs he (Ot hl hd (rel.put k rv) dd')
 ·subst ey eH
  cases (show u=bt b from ry)
  obtain ⟨z,hd,xs,rel,dd⟩:=Qe I.hok e
  have hz:xs.length<=sizeLine:=by rw [<- gU rel];exact z
  have hl:(qQ kvs k v).length<=sizeLine:=by have:=lK kvs k v;omega
  refine wpAny_setItem_heap (hsz:=hz) (nq hu) (vL I.hok eb) dd fun h' dd' hs=>h _ ?_
  obtain ⟨q,es,ep,hq,h2,h3,h4,_,h5⟩:=dd'
  refine DQ I (by rw [e];exact jd) hs ⟨q,hq⟩ ⟨hl,hd,_,(rel.put k eb rv).keeps fun c ys ec=>?_,q,es,ep,hq,h2,h3,h4,h5⟩
  rw [bh (PK ec e (fun z=>nomatch z))]
  exact ec
end
section
variable {X:Cx}{pins:List (ah×Obj)}{σ:St}{H:Hp}{s:ae}{a:ah}{kvs:List (eR×V)}{k:eR}{u:a9}{A:bv}{E:a9->ae->Prop}
end
def Qf (i:a_):Prop:=∀ ov iv,A7 i false ov iv=operate [ov,iv] (oo ov iv)
theorem Ly {prog:aS}{w:bn}{A:bv}{E:a9->ae->Prop}{s:ae}{env:Env}{value slice:a_}{pos:Pos}{T id:String}{Q:a9->ae->Prop}
  (hl:Cd (.type T) "__getitem__"=pure (some (.builtin id))) (hs:Qf slice)
  (h:ao (ar prog w) A (cj value env) (fun o s₁=>ao (ar prog w) A (cj slice env) (fun i s₂=>s₂.TypeIs o T/\ao (ar prog w) A (oo o i) Q E s₂) E s₁) E s) :
  ao (ar prog w) A (cj (.Subscript value slice pos) env) Q E s:=by
 refine Subscript_ (aO h (fun o s₁ h₁=>aO h₁ (fun i s₂ h₂=>?_) fun _ _ x=>x) fun _ _ x=>x)
 obtain ⟨hT,h₂⟩:=h₂
 unfold F2
 refine a7 ?_
 rw [getitemInPython_of_ne hT.not_modules]
 refine a7 (wpAny_specialOf hT hl ?_)
 have fin:ao (ar prog w) A (A7 slice false o i) (fun r s₃=>ao (ar prog w) A (letTemporaryGo value o r >>= fun _=>pure r) Q E s₃) E s₂:=by
  rw [hs o i]
  exact wpAny_operating (aO h₂ (fun r s₃ h₃=>a7 (wpAny_letTemporaryGo (ac h₃))) fun _ _ x=>x)
 first
  |exact ac (a7 fin)
  |exact a7 (ac (a7 fin))
  |exact a7 fin
theorem Au {X:Cx}{pins:List (ah×Obj)}{σ:St}{H:Hp}{s:ae}{a:ah}{y:V}{o:Option V} (I:bz X pins σ H s) (g:xp H a y o):s.TypeIs (.ref a) "dict":=by
 rcases g with ⟨kvs,k,e,_,_⟩|⟨kvs,k,b,e,_,_,_⟩
 ·obtain ⟨_,_,vs,_,dd⟩:=xY I.hok e
  exact dd.typeIs
 ·obtain ⟨_,_,xs,_,dd⟩:=xZ I.hok e
  exact dd.typeIs
def Qg (td ty:TE):TE:=fun σ H Q=>td σ H fun x H1=>ty σ H1 fun y H2=>∃ a v,x=.ref a/\xp H2 a y (some v)/\Q v H2
def MK (td ty tv:TE):TS:=fun D σ H=>tv σ H fun v H1=>td σ H1 fun x H2=>ty σ H2 fun y H3=>∃ a H4,x=.ref a/\HJ H3 a y v H4/\D.nx σ H4
section
variable {X:Cx}{o i e value:a_}{pos pos' tpos:Pos}{td ty tv:TE}
theorem Lz (hu:X.A.units+1<fO) (ho:PE X o td) (hi:PE X i ty) (hs:Qf i):PE X (.Subscript o i pos) (Qg td ty):=by
 intro pins s σ H Q I h
 refine Ly PySem.F.slot_dict_getitem.lookup hs (dX (ho pins s σ H _ I h) fun u s1 ⟨x,H1,I1,rx,q1⟩=>dX (hi pins s1 σ H1 _ I1 q1) fun iv s2 ⟨y,H2,I2,ry,a,v,ex,g,q2⟩=>?_)
 subst ex
 obtain rfl:u=bt a:=rx
 exact ⟨Au I2 g,Fu hu I2 g ry fun w' s3 I3 rw'=>⟨v,H2,I3,rw',q2⟩⟩
theorem LA (hu:X.A.units+1<fO) (ho:PE X o td) (hi:PE X i ty) (hv:PE X value tv) (hs:fE value (some (.Subscript o i pos')) pos.line X.env=pure false) :
  PS X (.Assign [.Subscript o i pos'] value pos) (MK td ty tv):=by
 intro pins s σ H D I h
 refine wpAny_Assign_Subscript (dX (hv pins s σ H _ I h) fun r s1 ⟨v,H1,I1,rv,q1⟩=>dX (ho pins s1 σ H1 _ I1 q1) fun u s2 ⟨x,H2,I2,rx,q2⟩=>dX (hi pins s2 σ H2 _ I2 q2) fun iv s3 ⟨y,H3,I3,ry,a,H4,ex,g,q3⟩=>?_) hs
 subst ex
 obtain rfl:u=bt a:=rx
 exact Fv hu I3 g ry rv fun s4 I4=>⟨σ,H4,I4,q3⟩
end
theorem HK {P:aS}{w:bn}{H:Hp} (h:bu) (hb:gD<h.objs.size):dE P w H (h.push { cls:=.type "dict",data:=.dict #[] }) h.objs.size (.dK []) :=
 ⟨ck _,beq_eq_false_iff_ne.mpr (cR (aA hb)),[],.nil,C1 h⟩
def Ou:TE:=fun _ H Q=>∀ p,H p=none->Q (.ref p) (upd H p (.dK []))
section
variable {X:Cx}{pos:Pos}
theorem HL:PE X (.Dict [] [] pos) Ou:=fun pins s σ H Q I h =>
 wpAny_Dict_empty ⟨.ref s.heap.objs.size,_,I.laid (a:=s.heap.objs.size) (o:=.dK []) (t':=s.toks) (fun _ _ q=>aa _ q) (am _) (HK s.heap I.big),rfl,h _ (I.hok.fresh (am _))⟩
end
def TJ (H:Hp) (a:ah):Prop:=(∃ kvs,Rd H a (.dK kvs))\/∃ kvs,Rd H a (.dT kvs)
theorem Ov {X:Cx}{pins:List (ah×Obj)}{σ:St}{H:Hp}{s:ae}{a:ah} (I:bz X pins σ H s) (d:TJ H a) :
  s.TypeIs (.ref a) "dict"/\(∀ b,bt a=.ref b->∃ ob,s.heap.get? b=some ob/\ob.dict=none)/\(a==gD)=false:=by
 rcases d with ⟨kvs,e⟩|⟨kvs,e⟩
 ·obtain ⟨_,hd,vs,_,dd⟩:=xY I.hok e
  refine ⟨dd.typeIs,fun b q=>?_,hd⟩
  cases q
  obtain ⟨ob,_,_,h1,h2,_⟩:=dd
  exact ⟨ob,h1,h2.2.1⟩
 ·obtain ⟨_,hd,xs,_,dd⟩:=xZ I.hok e
  refine ⟨dd.typeIs,fun b q=>?_,hd⟩
  cases q
  obtain ⟨ob,_,_,h1,h2,_⟩:=dd
  exact ⟨ob,h1,h2.2.1⟩
section
variable {X:Cx}{pins:List (ah×Obj)}{σ:St}{H:Hp}{s:ae}{a:ah}{y d:V}{u r:a9}{o:Option V}{A:bv}{E:a9->ae->Prop}
end
section
variable {X:Cx}{o e f:a_}{apos cpos:Pos}{td ty tx:TE}
end
section
variable {X:Cx}{pins:List (ah×Obj)}{σ:St}{H:Hp}{s:ae}{a:ah}{kvs:List (eR×V)}{A:bv}{E:a9->ae->Prop}
end
section
variable {X:Cx}{pins:List (ah×Obj)}{σ:St}{H:Hp}{s:ae}{a:ah}{y:V}{u:a9}{A:bv}{E:a9->ae->Prop}
end
end L2
namespace L2
open PySem PySem.Spec PyProof.Rows
section
variable {X:Cx}
end
section
variable {κ:Type} [DecidableEq κ]
theorem DR:∀ {l:List κ}{k:κ},l.Nodup->¬ k∈l->(l++[k]).Nodup
 |[],k,_,_=>by simp
 |a::r,k,h,hk=>by
  obtain ⟨h1,h2⟩:=List.nodup_cons.mp h
  show (a::(r++[k])).Nodup
  refine List.nodup_cons.mpr ⟨fun m=>?_,DR h2 fun m=>hk (List.mem_cons.mpr (dD m))⟩
  rcases List.mem_append.mp m with q|q
  ·exact h1 q
  ·exact hk (List.mem_cons.mpr (fV (List.mem_singleton.mp q).symm))
end
end L2
end
namespace L2
open PySem PySem.Spec PyProof.Rows
section
section
theorem y_      (I:Nat->ae->Prop)
  (turn:∀ n s,I n s->ao (ar prog w) A (iP it) (fun r s₁=>match r with
   |none=>R (.ok .next) s₁
   |some v=>ao (ar prog w) A (cB target it v) (fun _ s₁'=>ao (ar prog w) A (i9 target env v) (fun _ s₂ =>
     ao (ar prog w) A (forIn ifs true fun c r=>if r=true then do let ok <- kO c env (cj c env);pure (c9 ok) else pure (c9 r)) (fun ok s₃ =>
      if ok=true then ao (ar prog w) A (cj elt env) (fun x s₄ =>
       ao (ar prog w) A (call (.builtin "list.append") [acc,x]) (fun _ s₅=>∃ m,m<n/\I m s₅) (fun _ _=>False) s₄) (fun _ _=>False) s₃
      else ∃ m,m<n/\I m s₃) (fun _ _=>False) s₂) (fun _ _=>False) s₁') (fun _ _=>False) s₁) (fun _ _=>False) s)
  (n:Nat) (h:I n s) :
  dG (ar prog w) A (.compLoop (.ListComp elt [⟨target,iter,ifs,0⟩] scope pos) 0 it acc env) R s:=by
 refine qL rfl I (fun n s hI=>?_) n h;show ao _ A ((qd (.ListComp elt [⟨target,iter,ifs,0⟩] scope pos) 0 it acc env).onRaise (fun x=>do qe x env;m9 x)) _ _ s;refine tF ?_;rw [compTurn_list];have nf:∀ {α:Type}{t:Sem α}{Q:α->ae->Prop}{E':a9->ae->Prop}{s:ae},ao (ar prog w) A t Q (fun _ _=>False) s->ao (ar prog w) A t Q E' s :=
  fun h=>aO h (fun _ _ q=>q) fun _ _ f=>f.elim
 refine a7 (cF (a7 (nf (aO (turn n s hI) (fun r s₁ h₁=>?_) fun _ _ h'=>h'))));cases r with
 |none=>exact ac h₁
 |some v =>
  refine a7 (nf (aO h₁ (fun _ s₁' h₁'=>?_) fun _ _ h'=>h'));refine a7 (nf (aO h₁' (fun _ s₂ h₂=>a7 (nf (aO h₂ (fun ok s₃ h₃=>?_) fun _ _ h'=>h'))) fun _ _ h'=>h'));cases ok with
  |false=>exact ac ⟨rfl,h₃⟩
  |true =>
   exact a7 (a7 (nf (aO h₃ (fun x s₄ h₄=>a7 (nf (aO h₄ (fun _ s₅ h₅=>ac (ac ⟨rfl,h₅⟩)) fun _ _ h'=>h'))) fun _ _ h'=>h')))
end
theorem CF (names : List (Str × k7)) : ∀ (cs : List (Str × ah)), (∀ y ∈ names, y.2 = .free -> ∃ c, env.cells.lookup y.1 = some c) ->
    (∀ x c, cs.lookup x = some c -> env.cells.lookup x = some c) ->
    ∃ cl, (forIn names cs fun (x : Str × k7) (cs : List (Str × ah)) => match x with
        | (name, kind) => if (kind == bV) = true then do let a <- cellOf env name; pure (c9 ((name, a) :: cs)) else pure (c9 cs) : Sem (List (Str × ah))) = pure cl /\
      (∀ x c, cl.lookup x = some c -> env.cells.lookup x = some c) /\ (∀ y ∈ names, y.2 = .free -> ∃ c, cl.lookup y.1 = some c) /\ (∀ x c, cs.lookup x = some c -> ∃ c', cl.lookup x = some c') := by
  induction names with
  | nil => intro cs _ h2; exact ⟨cs, rfl, h2, fun _ h => absurd h (by simp), fun x c h => ⟨c, h⟩⟩
  | cons nk r ih =>
    obtain ⟨n, k⟩ := nk;intro cs h1 h2;by_cases hk : k = .free
    · subst hk;obtain ⟨a, ha⟩ := h1 (n, .free) al rfl;have h2' : ∀ x c, ((n, a) :: cs).lookup x = some c -> env.cells.lookup x = some c := fun x c h => by
        rw [cy] at h;cases e : x == n with
        | true => rw [e] at h; have : x = n := by simpa using e
                  subst this; cases h; exact ha
        | false => rw [e] at h; exact h2 x c h
      obtain ⟨cl, e1, e2, e3, e4⟩ := ih ((n, a) :: cs) (fun y hy => h1 y (ai _ hy)) h2';refine ⟨cl, ?_, e2, fun y hy hf => ?_, fun x c h => ?_⟩
      · rw [j8];have hc : cellOf env n = pure a := by unfold cellOf; rw [ha]
        simp only [beq_self_eq_true, if_true, hc];exact e1
      · rcases List.mem_cons.mp hy with rfl | hy
        · exact e4 n a (by simp)
        · exact e3 y hy hf
      · cases e : x == n with
        | true => exact e4 x a (by rw [cy, e])
        | false => exact e4 x c (by rw [cy, e]; exact h)
    · obtain ⟨cl, e1, e2, e3, e4⟩ := ih cs (fun y hy => h1 y (ai _ hy)) h2;refine ⟨cl, ?_, e2, fun y hy hf => ?_, e4⟩
      · rw [j8];have hk' : (k == bV) = false := by simpa using hk
        simp only [hk', ba, if_false];exact e1
      · rcases List.mem_cons.mp hy with rfl | hy
        · exact absurd hf hk
        · exact e3 y hy hf
theorem kU  (h:∀ y∈scope.names,y.2=.free->∃ c,env.cells.lookup y.1=some c):∃ cl,closureFor scope env=pure cl /\
  (∀ x c,cl.lookup x=some c->env.cells.lookup x=some c)/\(∀ y∈scope.names,y.2=.free->∃ c,cl.lookup y.1=some c):=by
 obtain ⟨cl,e1,e2,e3,_⟩:=CF (env:=env) scope.names [] h (fun x c h=>by simp at h);refine ⟨cl,?_,e2,e3⟩;simp only [closureFor];rw [show (forIn scope.names ([] : List (Str×ah)) fun x r=>_)=(pure cl:Sem (List (Str×ah))) from e1];rfl
end
section
def b6 (X:Cx) (N':List Str) (scope:dU) (cl:List (Str×ah)) (C:ah) (s₀:ae) (H₀:Hp) (ex:List ah) (pn:List (ah×Obj)):Cx :=
 { X with N:=N',s₀:=s₀,H₀:=H₀,env:=lB scope cl C X.env,outer:=X.stack,stack:=X.stack,ex:=ex,fn:=fun y=>scope.names.lookup y==some .cell,pn:=pn,xe:=fun _ _=>False }
def Ae (X:Cx) (ifs:List a_) (t:TT):Prop :=
 ∀ (pins:List (ah×Obj)) (s:ae) (σ:St) (H:Hp) (Q:Bool->Hp->Prop),bz X pins σ H s->t σ H Q ->
  ao (ar X.prog X.w) X.A (forIn ifs true fun c r=>if r=true then do let ok <- kO c X.env (cj c X.env);pure (c9 ok) else pure (c9 r)) (TP X pins σ Q) X.xe s
def Sf:TT:=fun _ H Q=>Q true H
theorem LB:Ae X [] Sf:=fun pins s σ H Q I h=>wpAny_tests_nil ⟨H,I,h⟩
theorem LC   (h:PT X c t):Ae X [c] t:=fun pins s σ H Q I hw=>wpAny_tests_one (h pins s σ H Q I hw)
structure iE (X:Cx) (scope:dU) (N':List Str) (nt:Nat) (ix:List Nat):Prop where
 kind:scope.kind=.function
 cel:∀ y∈scope.names,y.2=.cell->scope.names.lookup y.1=some .cell
 loc:∀ y∈scope.names,y.2=.local->scope.names.lookup y.1=some .local
 free:∀ y∈scope.names,y.2=.free->X.env.scope.names.lookup y.1=some .cell\/X.env.scope.names.lookup y.1=some .free
 cap:∀ k i,ix[k]?=some i->∃ x,X.N[i]?=some x/\N'[nt+k]?=some x/\scope.names.lookup x=some .free
 len:N'.length=nt+ix.length
def fA (nt:Nat) (ix:List Nat) (σ:St):St:=qr nt none++ix.map fun i=>(σ[i]?).join
theorem qj {env:Env}{x:Str}{names:List (Str×k7)}:names.lookup x=some .free ->
  (names.map fun (n,k)=>if (k==bV&&env.scope.kind == .function&&env.kindOf n==some .cell) then (n,dH) else (n,k)).lookup x=some .free \/
  (names.map fun (n,k)=>if (k==bV&&env.scope.kind == .function&&env.kindOf n==some .cell) then (n,dH) else (n,k)).lookup x=some .cell:=by
 induction names with
 |nil=>intro h;simp at h
 |cons nk r ih =>
  obtain ⟨n,k⟩:=nk;intro h;show vz x ((if (k==bV&&env.scope.kind == .function&&env.kindOf n==some .cell)=true then (n,dH) else (n,k))::_)=_ \/
   vz x ((if (k==bV&&env.scope.kind == .function&&env.kindOf n==some .cell)=true then (n,dH) else (n,k))::_)=_
  cases hx:x==n with
  |true =>
   simp only [cy,hx] at h;cases h;by_cases hc:(bV==bV&&env.scope.kind == .function&&env.kindOf n==some .cell)=true
   ·rw [if_pos hc];right;simp [cy,hx]
   ·rw [if_neg hc];left;simp [cy,hx]
  |false =>
   simp only [cy,hx] at h;by_cases hc:(k==bV&&env.scope.kind == .function&&env.kindOf n==some .cell)=true
   ·rw [if_pos hc];simp only [cy,hx];exact ih h
   ·rw [if_neg hc];simp only [cy,hx];exact ih h
theorem rZ {env:Env}{x:Str}{names:List (Str×k7)} :
  ((names.map fun (n,k)=>if (k==bV&&env.scope.kind == .function&&env.kindOf n==some .cell) then (n,dH) else (n,k)).lookup x=some .free \/
  (names.map fun (n,k)=>if (k==bV&&env.scope.kind == .function&&env.kindOf n==some .cell) then (n,dH) else (n,k)).lookup x=some .cell) ->
  (x,bV)∈names\/(x,dH)∈names:=by
 induction names with
 |nil=>intro h;simp at h
 |cons nk r ih =>
  obtain ⟨n,k⟩:=nk;intro h;have h:vz x ((if (k==bV&&env.scope.kind == .function&&env.kindOf n==some .cell)=true then (n,dH) else (n,k))::_)=_ \/
   vz x ((if (k==bV&&env.scope.kind == .function&&env.kindOf n==some .cell)=true then (n,dH) else (n,k))::_)=_:=h
  cases hx:x==n with
  |true =>
   have e:x=n:=by simpa using hx
   subst e;by_cases hc:(k==bV&&env.scope.kind == .function&&env.kindOf x==some .cell)=true
   ·have:k=.free:=by simp at hc;exact hc.1.1
    subst this;left;exact al
   ·rw [if_neg hc] at h;simp only [cy,hx] at h;rcases h with h|h
    ·cases h;left;exact al
    ·cases h;right;exact al
  |false =>
   have h':=ih (by
    by_cases hc:(k==bV&&env.scope.kind == .function&&env.kindOf n==some .cell)=true
    ·rw [if_pos hc] at h;simp only [cy,hx] at h;exact h
    ·rw [if_neg hc] at h;simp only [cy,hx] at h;exact h)
   rcases h' with h' | h'
   ·left;exact ai _ h'
   ·right;exact ai _ h'
inductive ML (nt:Nat) (ix:List Nat) (g:TG) (tt:TT) (te:TE) (σ:St) (Q:VK) (J:It) (H1:Hp):Prop
 |mk (W:Nat->Nat->List V->Hp->Prop) (w0:∃ m,W 0 m [] H1) (turn:∀ i m acc H,W i m acc H ->
 (J.stop i H/\∀ p,H p=none->Q (.ref p) (upd H p (.lst acc))) \/
 (J.go i H/\acc.length<sizeLine/\∀ x H',J.yld i H x H'->g x (fA nt ix σ) H' fun σ2 H2=>tt σ2 H2 fun b H3 =>
  if b=true then te σ2 H3 fun y H4=>∃ m',m'<m/\W (i+1) m' (acc++[y]) H4 else ∃ m',m'<m/\W (i+1) m' acc H3)):ML nt ix g tt te σ Q J H1
def HM (nt:Nat) (ix:List Nat) (wi:TI) (g:TG) (tt:TT) (te:TE):TE:=fun σ H Q=>wi σ H (ML nt ix g tt te σ Q)
theorem iJ:∀ (names:List (Str×k7)) (n:Nat) (acc:List (Str×ah)),aC n names acc=aC n names []++acc
 |[],_,_=>rfl
 |(y,k)::r,n,acc=>by
  unfold aC;split
  ·rw [iJ r (n+1) ((y,n)::acc),iJ r (n+1) [(y,n)],cC];rfl
  ·exact iJ r n acc
theorem md  : ∀ (names:List (Str×k7)) (n:Nat) (acc:List (Str×ah)),(x,c)∈aC n names acc->(x,dH)∈names\/(x,c)∈acc
 |[],_,_,h=>.inr h
 |(y,k)::r,n,acc,h=>by
  unfold aC at h;split at h
  ·rename_i hk
   have hk:k=.cell:=by simpa using hk
   rcases md r _ _ h with z|z
   ·exact .inl (ai _ z)
   ·rcases List.mem_cons.mp z with z|z
    ·cases z;subst hk;exact .inl al
    ·exact .inr z
  ·exact (md r _ _ h).imp (ai _) id
theorem iK     (h:(aC n names cl).lookup x=some c) :
  (x,c)∈aC n names []\/((aC n names []).lookup x=none/\cl.lookup x=some c):=by
 rw [iJ,GC] at h;cases e:(aC n names []).lookup x with
 |some d=>rw [e] at h;cases h;exact .inl (df e)
 |none=>rw [e] at h;exact .inr ⟨rfl,h⟩
theorem ve {M:KJ}{A:bv}{E:a9->ae->Prop}{s:ae}{scope:dU}{globals:ah}{cl:List (Str×ah)}{qual:Str}{func:Option ah}{code:a9}{outer:Env}{builtins:ah}{Q:Env->ae->Prop}
  (hQ:∀ h₁,h₁=pushCells (s.heap.push { cls:=.type "dict",data:=.dict #[] }) scope.names->Q (newEnv scope s.heap.objs.size globals (aC (s.heap.objs.size+1) scope.names cl) qual func code (some outer) builtins) { s with heap:=h₁ }) :
  ao M A (ke scope globals cl [] qual func code (some outer) builtins) Q E s:=by
 simp only [ke,DH,if_true];refine a7 (KP ?_);refine a7 (wpAny_layCells _ (fun name kind cells=>by cases hkc:kind==dH<;>simp [hkc]) _ _ _ _ ?_);rw [show ({ s with heap:=s.heap.push { cls:=.type "dict",data:=.dict #[] } }:ae).heap.objs.size=s.heap.objs.size+1 from bF ..];refine a7 ?_;rw [qv];exact ac (ac (hQ _ rfl))
theorem pJ (h:bu) (names:List (Str×k7)):C2 (pushCells (h.push { cls:=.type "dict",data:=.dict #[] }) names) (h.objs.size+1) (aC (h.objs.size+1) names []):=by
 have ok:=cellsFrom_ok names (h.push { cls:=.type "dict",data:=.dict #[] }) (h.objs.size+1) [] ⟨fun _ _ hm=>(nomatch hm),oA⟩ (by rw [bF];exact am _);rw [bF] at ok;exact ok
section
theorem r_ {scope:dU}{N':List Str}{nt:Nat}{ix:List Nat}{cl:List (Str×ah)}{C:ah}{fp:List ah}{h₁:bu}{t':Nat}{m:Str->Option a9}
  (S:iE X scope N' nt ix) (I:bz X pins σ H s) (c1:∀ x c,cl.lookup x=some c->X.env.cells.lookup x=some c) (c2:∀ y∈scope.names,y.2=.free->∃ c,cl.lookup y.1=some c)
  (hf:∀ b∈fp,jS X pins H b) (ff:∀ b∈fp,b<s.heap.objs.size) (hC:s.heap.objs.size<=C) (hns:h₁.Ns C m) (old:∀ b o,s.heap.get? b=some o->h₁.get? b=some o) (ok:C2 h₁ (C+1) (aC (C+1) scope.names [])) :
  bz (b6 X N' scope (aC (C+1) scope.names cl) C s H fp (X.pn++pins)) [] (fA nt ix σ) H { s with heap:=h₁,toks:=t' }:=by
 have cellOld:∀ {c v},s.heap.IsCell c v->h₁.IsCell c v:=fun {c v} ⟨o,ho,hd⟩=>⟨o,old _ _ ho,hd⟩;have up:∀ {x c},(x,c)∈aC (C+1) scope.names []->s.heap.objs.size<c:=fun {x c} h=>aD (jy hC) (ok.empty x c h).2;have low:∀ {x c},cl.lookup x=some c->c<s.heap.objs.size:=fun {x c} h=>by
  obtain ⟨v,q⟩:=I.cell x c (c1 x c h);exact q.lt
 refine ⟨⟨I.ok.mod,S.kind,I.ok.glob,I.ok.blt,hC,fun x y c h1 h2=>?_,fun x hx=>?_,fun x c h h2=>?_,I.ok.hd,I.ok.frames,.inl rfl,fun b hb=>⟨?_,fun x c h=>?_⟩,I.bs,bM I.ok.bsz I.sz,fun b o h hb=>?_,fun b hb z=>?_,I.stack,I.stkFree⟩,
  rfl,I.bare,Un.kept old,⟨m,hns,fun i x v h1 h2 h3=>?_⟩,fun x c h=>?_,I.hok.fresh hC,fun x c h=>?_,fun p hp=>?_,I.hok.kept old,?_⟩
 ·rcases iK h1 with a|⟨_,a⟩<;>rcases iK h2 with b|⟨_,b⟩
  ·exact name_of_addr ok.apart a b
  ·exact absurd (up a) (lC (low b))
  ·exact absurd (up b) (lC (low a))
  ·exact I.ok.inj x y c (c1 x c a) (c1 y c b)
 ·have hx':(x,bV)∈scope.names\/(x,dH)∈scope.names:=rZ (env:=X.env) (hx.elim .inr .inl);have hs:((aC (C+1) scope.names cl).lookup x).isSome=true:=by
   rcases hx' with z|z
   ·obtain ⟨c,e⟩:=c2 _ z rfl;exact gG _ _ _ (.inr (by rw [e];rfl))
   ·exact gG _ _ _ (.inl (S.cel _ z rfl))
  exact Option.isSome_iff_exists.mp hs
 ·rcases iK h2 with a|⟨a,_⟩
  ·exact bH (up a)
  ·have:=gG (x:=x) scope.names (C+1) [] (.inl (by simpa [b6] using h));rw [a] at this;cases this
 ·exact aA (aD (ff b hb) hC)
 ·rcases iK h with a|⟨_,a⟩
  ·exact dv (dw (ff b hb) (up a))
  ·exact (hf b hb).f4 x c (c1 x c a)
 ·rcases (hf b hb).f3 with z|z
  ·exact I.ok.noex b o h z
  ·exact absurd (aD (ap h) (bM I.ok.bsz z)) (aU _)
 ·rcases List.mem_cons.mp (I.stkSub b z) with e|e
  ·exact (hf b hb).f1 e
  ·exact (hf b hb).f2 e
 ·have hnt:nt<=i:=by
   refine KO fun hlt=>?_;have h2':(fA nt ix σ)[i]?=some (some v):=h2;unfold fA at h2';rw [bf (by simpa using hlt),bw,if_pos hlt] at h2';cases h2'
  have h2':(fA nt ix σ)[i]?=some (some v):=h2;unfold fA at h2';rw [aR (by simpa using hnt),cA,aW] at h2';cases e:ix[i-nt]? with
  |none=>rw [e] at h2';cases h2'
  |some j =>
   rw [e] at h2';have hj:σ[j]?=some (some v):=by
    have q:(σ[j]?).join=some v:=bE h2';cases e3:σ[j]? with
    |none=>rw [e3] at q;cases q
    |some o=>rw [e3] at q;cases o with
     |none=>cases q
     |some v'=>cases q;rfl
   obtain ⟨x',n1,n2,fr⟩:=S.cap _ _ e;rw [Nat.add_sub_cancel' hnt] at n2;have h1':N'[i]?=some x:=h1;rw [h1'] at n2;cases n2;obtain ⟨mm,hn,hl⟩:=I.loc;have hfree:=S.free (x,.free) (df fr) rfl;obtain ⟨u,r,l⟩:=hl j x v n1 hj (hfree.elim (fun z=>.inr (.inl z)) fun z=>.inr (.inr z));refine ⟨u,r,?_⟩;rcases l with ⟨k,_⟩|⟨k,c,hc,hcell⟩
   ·have k:X.env.scope.names.lookup x=some .local:=k;rcases hfree with z|z<;>(rw [z] at k;cases k)
   ·obtain ⟨c',hc'⟩:=c2 _ (df fr) rfl;have:=c1 x c' hc';rw [hc] at this;cases this;have hno:(aC (C+1) scope.names []).lookup x=none:=by
     cases e:(aC (C+1) scope.names []).lookup x with
     |none=>rfl
     |some d =>
      rcases md _ _ _ (df e) with z|z
      ·have q:=S.cel _ z rfl;rw [fr] at q;cases q
      ·cases z
    refine .inr ⟨?_,c,by show (aC (C+1) scope.names cl).lookup x=some c;rw [iJ,GC,hno];exact hc',cellOld hcell⟩;rcases qj (env:=X.env) fr with z|z
    ·exact .inr z
    ·exact .inl z
 ·rcases iK h with a|⟨_,a⟩
  ·exact ⟨none,(ok.empty x c a).1⟩
  ·obtain ⟨v,q⟩:=I.cell x c (c1 x c a);exact ⟨v,cellOld q⟩
 ·rcases iK h with a|⟨_,a⟩
  ·exact I.hok.fresh (bH (up a))
  ·exact I.freeC x c (c1 x c a)
 ·have hp:p∈X.pn++pins:=(List.mem_append.mp hp).elim id fun z=>absurd z (by simp);obtain ⟨e,n,ne,nf,d⟩:=I.pin p hp;refine ⟨old _ _ e,n,aA (aD (ap e) hC),fun z=>?_,d⟩;rcases List.mem_cons.mp (I.stkSub p.1 z) with e|e
  ·exact ne e
  ·exact nf e
 ·show (fA nt ix σ).length=N'.length;rw [S.len];simp [fA]
end
end
section
theorem Un.grow   (u:Un fs ex H H1 h h1)  (sb:bT C h1 h2) (hC:h.objs.size<=C) (hD:h.objs.size<=D) (hn:H1 D=none):Un fs ex H (upd H1 D o) h h2 where
 keep:=fun b ob q n hb hx=>(sb.2 b (aA (aD (ap q) hC))).trans (u.keep b ob q n hb hx)
 slot:=fun b ob q n hb hx=>by
  obtain ⟨sl,e⟩:=u.slot b ob q n hb hx;exact ⟨sl,(sb.2 b (aA (aD (ap q) hC))).trans e⟩
 free:=fun b ob q n hx=>by rw [bh (aA (aD (ap q) hD))];exact u.free b ob q n hx
 there:=fun b ob q hx=>by
  obtain ⟨o',e⟩:=u.there b ob q hx;exact ⟨o',(sb.2 b (aA (aD (ap q) hC))).trans e⟩
 tups:=fun b xs q=>by have z:=u.tups b xs q;rw [bh (bO z hn)];exact z
 frzs:=fun b ob xs q=>by have z:=u.frzs b ob xs q;rw [bh (bO z hn)];exact z
 tbls:=fun b ps q=>by
  obtain ⟨m,z⟩:=u.tbls b ps q;exact ⟨m,by rw [bh (bO z hn)];exact z⟩
theorem sd     (k:oG P w H h) (hC:H C=none) (sb:bT C h h'):oG P w H h':=fun b ob e=>by
 refine (k b ob e).stay (fun c w' hc q=>(sb.2 c ?_).trans q) (fun _ q=>q) fun _ _ q=>q;rintro rfl;rcases hc with rfl|hc
 ·rw [hC] at e;cases e
 ·rw [hC] at hc;cases hc
theorem mO      (k:oG P w H h) (hD:H D=none) (new:dE P w (upd H D o) h D o):oG P w (upd H D o) h:=fun b ob e=>by
 by_cases hb:b=D
 ·subst hb;rw [bi] at e;cases e;exact new
 ·rw [bh hb] at e;exact (k b ob e).stay (fun c w' hc q=>q) (fun c q=>by rw [bh (bO q hD)];exact q) fun c x q=>by rw [bh (bO q hD)];exact q
theorem nf {M:KJ}{A:bv}{α:Type}{t:Sem α}{Q:α->ae->Prop}{E':a9->ae->Prop}{s:ae} (h:ao M A t Q (fun _ _=>False) s):ao M A t Q E' s :=
 aO h (fun _ _ q=>q) fun _ _ f=>f.elim
theorem bz.pin1      (I:bz X [] σ H s) (e:s.heap.get? D=some o) (n:H D=none) (ne:D≠X.env.locals) (nf:D∉X.fs) (d:∀ v,o.data≠.cell v):bz X [(D,o)] σ H s :=
 I.pins_of fun p hp=>by
  have:p=(D,o):=by simpa using hp
  subst this;exact ⟨e,n,ne,nf,d⟩
def GL (nt:Nat) (g:TG):Prop:=∀ x σ0 H (Q:St->Hp->Prop),g x σ0 H Q->g x σ0 H (fun σ2 H2=>Q σ2 H2/\σ2.length=σ0.length/\∀ j,nt<=j->σ2[j]?=σ0[j]?)
theorem HN (h:i<nt):GL nt (mL i):=fun x σ0 H Q q=>⟨q,by simp,fun j hj=>aj (by omega)⟩
theorem LD {nt i k n:Nat}{K:a8} (h:i<nt) (h':k<nt):GL nt (O3 K n (ag (mL i) (ag (mL k) aV))):=by
 rintro x σ0 H Q ⟨a,xs,rfl,sq,hl,v,r,rfl,v',r',rfl,rfl,q⟩;exact ⟨a,_,rfl,sq,hl,v,_,rfl,v',_,rfl,rfl,q,by simp,fun j hj=>by rw [aj (by omega),aj (by omega)]⟩
inductive T3 (X:Cx) (pins:List (ah×Obj)) (N':List Str) (scope:dU) (cl:List (Str×ah)) (C:ah) (s2:ae) (H2:Hp) (fp:List ah) (nt:Nat) (ix:List Nat) (σ:St) (tn:Nat->bu->Prop) (W:Nat->Nat->List V->Hp->Prop) (n:Nat) (s':ae):Prop
 |mk (i:Nat) (acc:List V) (its:List a9) (nn:Nat) (H':Hp) (I:bz (b6 X N' scope cl C s2 H2 fp (X.pn++pins)) [(s2.heap.objs.size,{ cls:=.type "list",data:=.seq its.toArray nn })] (fA nt ix σ) H' s') (v:dg acc its) (l:acc.length<=sizeLine) (t:tn i s'.heap) (f:∀ b∈fp,H' b=none) (w:W i n acc H'):T3 X pins N' scope cl C s2 H2 fp nt ix σ tn W n s'
theorem vM {X:Cx}{elt tg iter:a_}{ifs:List a_}{scope:dU}{pos:Pos}{g:TG}{tt:TT}{te:TE}{N':List Str}{nt:Nat}{ix:List Nat}
  (hc:X.calm=true) (S:iE X scope N' nt ix) (lo:GL nt g)
  (hb:∀ cl C s₀ H₀ ex pn,PG (b6 X N' scope cl C s₀ H₀ ex pn) tg g/\Ae (b6 X N' scope cl C s₀ H₀ ex pn) ifs tt/\PE (b6 X N' scope cl C s₀ H₀ ex pn) elt te)
  {cl:List (Str×ah)} (c1:∀ x c,cl.lookup x=some c->X.env.cells.lookup x=some c) (c2:∀ y∈scope.names,y.2=.free->∃ c,cl.lookup y.1=some c)
  {pins:List (ah×Obj)}{σ:St}{H2:Hp}{s2:ae}{it:ah}{fp:List ah}{tn:Nat->bu->Prop}{J:It}{Q:VK}{E:a9->ae->Prop}
  (I2:bz X pins σ H2 s2) (T:tS X.prog X.w X.K tg J fp it tn) (st2:tn 0 s2.heap) (f2:∀ b∈fp,jS X pins H2 b)
  {W:Nat->Nat->List V->Hp->Prop} (w0:∃ m,W 0 m [] H2)
  (turn:∀ i m acc H,W i m acc H->(J.stop i H/\∀ p,H p=none->Q (.ref p) (upd H p (.lst acc))) \/
   (J.go i H/\acc.length<sizeLine/\∀ x H',J.yld i H x H'->g x (fA nt ix σ) H' fun σ2 H2=>tt σ2 H2 fun b H3 =>
    if b=true then te σ2 H3 fun y H4=>∃ m',m'<m/\W (i+1) m' (acc++[y]) H4 else ∃ m',m'<m/\W (i+1) m' acc H3))
  {RR:a9->ah->tw->ae->Prop}
  (hRR:∀ D C m s' (acc:List V) H',H' D=none->jS X pins (upd H' D (.lst acc)) C->Q (.ref D) (upd H' D (.lst acc))->s'.heap.Ns C m->(∀ h',bT C s'.heap h'->bz X pins σ (upd H' D (.lst acc)) { s' with heap:=h' })->RR (.ref D) C (.ok .next) s') :
  ao (ar X.prog X.w) X.A (newList []) (fun acc s₃=>ao (ar X.prog X.w) X.A (ke scope X.env.globals cl [] X.env.qual none .none (some X.env)) (fun cenv s₄ =>
   dG (ar X.prog X.w) X.A (.compStart (.ListComp elt [⟨tg,iter,ifs,0⟩] scope pos) 0 (.ref it) acc { cenv with scope:=relabel scope X.env }) (RR acc cenv.locals) s₄) E s₃) E s2:=by
 refine c6 (ve fun h₁ hh₁=>?_);dsimp only at hh₁ ⊢;generalize hG2:s2.heap.push { cls:=.type "list",dict:=none,data:=.seq ([] : List a9).toArray }=G2 at hh₁ ⊢;have hC:G2.objs.size=s2.heap.objs.size+1:=by rw [<- hG2,bF]
 have hDC:s2.heap.objs.size≠G2.objs.size:=by rw [hC];exact aA (cZ _)
 have hCle:s2.heap.objs.size<=G2.objs.size:=by rw [hC];exact fh _
 have below:∀ b,b<s2.heap.objs.size->b≠G2.objs.size:=fun b hb=>by rw [hC];exact aA (cG hb)
 have kp:∀ b o,G2.get? b=some o->h₁.get? b=some o:=fun b o e=>by rw [hh₁];exact gq _ _ b o (aa _ e)
 have hns₁:h₁.Ns G2.objs.size (fun _=>none):=by rw [hh₁];exact (um G2 (.type "dict")).keeps (gq _ _)
 have ok₁:C2 h₁ (G2.objs.size+1) (aC (G2.objs.size+1) scope.names []):=by rw [hh₁];exact pJ G2 scope.names
 have cne:∀ x c,(aC (G2.objs.size+1) scope.names cl).lookup x=some c->X.env.cells.lookup x=some c\/s2.heap.objs.size<c:=fun x c e=>by
  rcases iK e with a|⟨_,a⟩
  ·exact .inr (aD (jy hCle) (ok₁.empty x c a).2)
  ·exact .inl (c1 x c a)
 have old:∀ b o,s2.heap.get? b=some o->h₁.get? b=some o:=fun b o e=>kp b o (hG2 ▸ aa _ e);have hacc:h₁.get? s2.heap.objs.size=some { cls:=.type "list",dict:=none,data:=.seq ([] : List a9).toArray }:=kp _ _ (hG2 ▸ aw _ rfl);have ff:∀ b∈fp,b<s2.heap.objs.size:=fun b hb=>by
  obtain ⟨o,e,_⟩:=T.obj _ _ st2 b hb;exact ap e
 have I3:bz (b6 X N' scope (aC (G2.objs.size+1) scope.names cl) G2.objs.size s2 H2 fp (X.pn++pins)) [] (fA nt ix σ) H2 { s2 with heap:=h₁,toks:=s2.toks }:=r_ S I2 c1 c2 f2 ff hCle hns₁ old ok₁;obtain ⟨pg,pt,pe⟩:=hb (aC (G2.objs.size+1) scope.names cl) G2.objs.size s2 H2 fp (X.pn++pins);have hDfs:s2.heap.objs.size∉tm X.stack:=fun z=>by
  rcases List.mem_cons.mp (I2.stkSub _ z) with e|e
  ·exact absurd I2.lt (by rw [<- e];exact aU _)
  ·exact I2.nofs (am _) e
 have nod:∀ (its:List a9) (n:Nat) v,({ cls:=.type "list",data:=.seq its.toArray n }:Obj).data≠.cell v:=fun _ _ _ z=>nomatch z;have st1:tn 0 h₁:=T.keep _ _ _ st2 fun b _ o e=>old b o e;have hDf:s2.heap.objs.size∉fp:=fun z=>absurd (ff _ z) (aU _);have stat:∀ {H':Hp}{pl:List (ah×Obj)},(∀ p∈pl,p.1∉fp)->(∀ b∈fp,H' b=none)->∀ b∈fp,jS (b6 X N' scope (aC (G2.objs.size+1) scope.names cl) G2.objs.size s2 H2 fp (X.pn++pins)) pl H' b:=fun hpl hn b hb=>by
  obtain ⟨f0,f1,f2',f3,f4,f5⟩:=f2 b hb;refine ⟨hn b hb,below b (ff b hb),fun z=>?_,.inl hb,fun x c e=>(cne x c e).elim (f4 x c) fun q z=>lC q (by rw [z];exact ff b hb),fun p hp z=>?_⟩
  ·rcases List.mem_cons.mp (I2.stkSub _ z) with e|e
   ·exact f1 e
   ·exact f2' e
  ·rcases List.mem_append.mp hp with q|q
   ·exact f5 p q z
   ·exact hpl p q (z ▸ hb)
 obtain ⟨m0,w0⟩:=w0;have loop:dG (ar X.prog X.w) X.A (.compLoop (.ListComp elt [⟨tg,iter,ifs,0⟩] scope pos) 0 (.ref it) (.ref s2.heap.objs.size) (lB scope (aC (G2.objs.size+1) scope.names cl) G2.objs.size X.env))
    (RR (.ref s2.heap.objs.size) G2.objs.size) { s2 with heap:=h₁,toks:=s2.toks }:=by
  refine y_ (T3 X pins N' scope (aC (G2.objs.size+1) scope.names cl) G2.objs.size s2 H2 fp nt ix σ tn W) ?_ m0
   ⟨0,[],[],0,H2,I3.pin1 hacc (I2.hok.fresh (am _)) hDC hDfs (nod _ _),.nil,ck _,st1,fun b hb=>(f2 b hb).1,w0⟩
  rintro n s3 ⟨i,acc,its,nn,H3,J3,rv,hz,st3,fr3,w3⟩;have plD:∀ p∈[(s2.heap.objs.size,({ cls:=.type "list",data:=.seq its.toArray nn }:Obj))],p.1∉fp:=fun p hp=>by
   have:p=(s2.heap.objs.size,({ cls:=.type "list",data:=.seq its.toArray nn }:Obj)):=by simpa using hp
   rw [this];exact hDf
  rcases turn i n acc H3 w3 with ⟨stop,qn⟩|⟨go,hlt,step⟩
  ·refine dX (T.done (b6 X N' scope (aC (G2.objs.size+1) scope.names cl) G2.objs.size s2 H2 fp (X.pn++pins)) rfl rfl rfl hc i _ s3 _ H3 _ J3 (stat plD fr3) st3 stop) fun r s4 h_0=>?_;obtain ⟨hr,I4⟩:=h_0;subst hr;obtain ⟨pD,pN,_⟩:=I4.pin (s2.heap.objs.size,_) (af _ (List.mem_singleton.mpr rfl));obtain ⟨mm,hn,_⟩:=I4.loc;have hCn:H3 G2.objs.size=none:=I4.free;refine hRR _ _ mm s4 acc H3 pN (I2.fpOk hCle (by rw [bh (cR hDC)];exact hCn)) (qn _ pN) hn fun h' sb=>?_;have hu:Un (tm X.stack) fp H2 (upd H3 s2.heap.objs.size (.lst acc)) s2.heap h':=Un.grow I4.base sb hCle (am _) pN;refine I2.call' (s':={ s4 with heap:=h' }) (ch:=fp) I4.os hu ?_ I4.bare fun b hb=>?_
   ·refine mO (sd I4.hok hCn sb) pN ⟨hz,its,nn,rv,(sb.2 _ hDC).trans pD⟩
   ·obtain ⟨_,f1,_,f3,f4,f5⟩:=f2 b hb;exact ⟨f3,f1,f4,f5⟩
  ·refine dX (T.item (b6 X N' scope (aC (G2.objs.size+1) scope.names cl) G2.objs.size s2 H2 fp (X.pn++pins)) rfl rfl rfl hc i _ s3 _ H3 _ J3 (stat plD fr3) st3 go) fun r s4 h_1=>?_;obtain ⟨u,hr,h4⟩:=h_1;subst hr;refine dX h4 fun _ s5 h_2=>?_;obtain ⟨x,H5,I5,r5,y5,st5,fr5⟩:=h_2;have I5':=I5.pinned (stat plD fr5) (T.obj _ _ st5);refine dX (pg _ s5 _ H5 x u _ I5' r5 (lo _ _ _ _ (step x H5 y5))) fun _ s6 h_3=>?_;obtain ⟨σ6,H6,I6,q6,l6,k6⟩:=h_3;have hw:∀ (j:Nat) v,(fA nt ix σ)[j]?=some (some v)->σ6[j]?=some (some v):=fun j v e=>by
    by_cases hj:nt<=j
    ·rw [k6 j hj];exact e
    ·unfold fA at e;rw [bf (by simpa using hj),bw,if_pos (by omega)] at e;cases e
   refine dX (pt _ s6 σ6 H6 _ I6 q6) fun b s7 h_4=>?_;obtain ⟨H7,I7,q7⟩:=h_4;have fpk:∀ {s8:ae}{σ8:St}{H8:Hp},bz (b6 X N' scope (aC (G2.objs.size+1) scope.names cl) G2.objs.size s2 H2 fp (X.pn++pins)) ([(s2.heap.objs.size,{ cls:=.type "list",data:=.seq its.toArray nn })]++kg fp s5.heap) σ8 H8 s8 ->
     tn (i+1) s8.heap/\∀ b∈fp,H8 b=none:=fun {s8 σ8 H8} I8=>by
    refine ⟨T.keep _ _ _ st5 fun b hb o e=>(I8.pin (b,o) (af _ (af _ (dI hb e)))).1,fun b hb=>?_⟩;obtain ⟨o,e,d⟩:=T.obj _ _ st5 b hb;exact (I8.pin (b,o) (af _ (af _ (dI hb e)))).2.1
   cases b with
   |false =>
    simp only [ba,if_false] at q7 ⊢;obtain ⟨m',hm,w7⟩:=q7;obtain ⟨t7,f7⟩:=fpk I7;exact ⟨m',hm,i+1,acc,its,nn,H7,(I7.weak l6.symm hw).unpinned,rv,hz,t7,f7,w7⟩
   |true =>
    simp only [if_true] at q7 ⊢;refine dX (pe _ s7 σ6 H7 _ I7 q7) fun u8 s8 h_5=>?_;obtain ⟨y,H8,I8,r8,m',hm,w8⟩:=h_5;obtain ⟨t8,f8⟩:=fpk I8;obtain ⟨pD,pN,_⟩:=I8.pin (s2.heap.objs.size,_) (af _ (bP _ (List.mem_singleton.mpr rfl)));have hl:=rv.length;refine wpAny_list_append_plain ⟨nn,pD⟩ (hsz:=by rw [aH];omega) ?_;intro h9 pl9 sb9;obtain ⟨n9,e9⟩:=pl9;have e9':h9.get? s2.heap.objs.size=some { cls:=.type "list",data:=.seq (its++[u8]).toArray n9 }:=by rw [e9];simp
    refine ⟨m',hm,i+1,acc++[y],its++[u8],n9,H8,?_,rv.append (.cons r8 .nil),by rw [aB,eg];omega,T.keep _ _ _ t8 fun b hb o e=>sb9.extBut b o (fun z=>hDf (z ▸ hb)) e,f8,w8⟩;have I8':bz (b6 X N' scope (aC (G2.objs.size+1) scope.names cl) G2.objs.size s2 H2 fp (X.pn++pins)) [] (fA nt ix σ) H8 s8:=(I8.weak l6.symm hw).pins_of fun p hp=>absurd hp (by simp);have I9:bz (b6 X N' scope (aC (G2.objs.size+1) scope.names cl) G2.objs.size s2 H2 fp (X.pn++pins)) [] (fA nt ix σ) H8 { s8 with heap:=h9,toks:=s8.toks } :=
     I8'.turned (it:=s2.heap.objs.size) (fun b o hb e=>sb9.extBut b o hb e) pN hDC (.inr (am _)) (fun x c e z=>by
      rcases cne x c e with e|e
      ·obtain ⟨v,q⟩:=I2.cell x c e;exact absurd q.lt (by rw [z];exact aU _)
      ·exact absurd e (by rw [z];exact aU _)) fun p hp z=>by
      have hp:p∈X.pn++pins:=(List.mem_append.mp hp).elim id fun z=>absurd z (by simp);exact absurd (ap (I2.pin p hp).1) (by rw [z];exact aU _)
    exact I9.pin1 e9' pN hDC hDfs (nod _ _)
 exact codeAny_compStart_list loop (T.self _ 0 _ _ _ st1 loop)
end
section
theorem Av
  (hc:X.calm=true) (S:iE X scope N' nt ix) (lo:GL nt g) (hi:PI X tg iter wi)
  (hb:∀ cl C s₀ H₀ ex pn,PG (b6 X N' scope cl C s₀ H₀ ex pn) tg g/\Ae (b6 X N' scope cl C s₀ H₀ ex pn) ifs tt/\PE (b6 X N' scope cl C s₀ H₀ ex pn) elt te)
  (hs:∀ x,bB iter X.env x=pure x:=by intro _;rfl):PE X (.ListComp elt [⟨tg,iter,ifs,0⟩] scope pos) (HM nt ix wi g tt te):=by
 intro pins s σ H Q I h;obtain ⟨cl,hcl,c1,c2⟩:=kU (scope:=scope) (env:=X.env) fun y hy hf=>I.ok.has y.1 (S.free y hy hf);rw [eval_ListComp];refine gH (use:=none) rfl hs hcl S.kind S.loc (dX (hi pins s σ H _ I h) fun v s1 h1=>dX h1 fun itv s2 h2=>?_);obtain ⟨it,fp,tn,J,H2,e,I2,T,st2,f2,W,w0,turn⟩:=h2;subst e;refine vM (RR:=fun acc C=>Cf (ar X.prog X.w) X.A X.xe none (EP X pins σ Q) acc C) hc S lo hb c1 c2 I2 T st2 f2 w0 turn ?_;intro D C m s' acc H' hD _ q hn hI;exact ⟨m,hn,fun h' sb=>⟨.ref D,_,hI h' sb,rfl,q⟩⟩
def MM (i:Nat) (te:TE):TS:=fun D σ H=>te σ H fun x H1=>D.nx (σ.set i (some x)) H1
theorem CG
  (hN:X.N.Nodup) (hiN:X.N[i]?=some y) (hy:X.env.scope.names.lookup y=some .local)
  (hc:X.calm=true) (S:iE X scope N' nt ix) (lo:GL nt g) (hi:PI X tg iter wi)
  (hb:∀ cl C s₀ H₀ ex pn,PG (b6 X N' scope cl C s₀ H₀ ex pn) tg g/\Ae (b6 X N' scope cl C s₀ H₀ ex pn) ifs tt/\PE (b6 X N' scope cl C s₀ H₀ ex pn) elt te)
  (hsw:fE (.ListComp elt [⟨tg,iter,ifs,0⟩] scope pos) (some (.Name y py)) spos.line X.env=pure true:=by rfl)
  (hs:∀ x,bB iter X.env x=pure x:=by intro _;rfl):PS X (.Assign [.Name y py] (.ListComp elt [⟨tg,iter,ifs,0⟩] scope pos) spos) (MM i (HM nt ix wi g tt te)):=by
 intro pins s σ H D I h;obtain ⟨cl,hcl,c1,c2⟩:=kU (scope:=scope) (env:=X.env) fun y hy hf=>I.ok.has y.1 (S.free y hy hf);rw [Ky _ _ _ _ hsw];refine a7 (cF (a7 ?_));show ao _ X.A (do let _ <- uY (.ListComp elt [⟨tg,iter,ifs,0⟩] scope pos) scope X.env _ (newList []) false (cj iter X.env) (some (i9 (.Name y py) X.env))) _ _ s;refine a7 (aO (gH (use:=some (i9 (.Name y py) X.env)) (Q:=fun _ s'=>SP X pins D .next s') rfl hs hcl S.kind S.loc
  (dX (hi pins s σ H _ I h) fun v s1 h1=>dX h1 fun itv s2 h2=>?_)) (fun _ s' hq=>ac (ac hq)) fun _ _ e=>e)
 obtain ⟨it,fp,tn,J,H2,e,I2,T,st2,f2,W,w0,turn⟩:=h2;subst e;refine vM (Q:=fun x H1=>D.nx (σ.set i (some x)) H1) (RR:=fun acc C=>Cf (ar X.prog X.w) X.A X.xe (some (i9 (.Name y py) X.env)) (fun _ s'=>SP X pins D .next s') acc C) hc S lo hb c1 c2 I2 T st2 f2 w0 turn ?_;intro L C m s' acc H' hD fC q hn hI;show ao _ X.A (i9 (.Name y py) X.env (.ref L)) _ _ _;have I3:bz X pins σ (upd H' L (.lst acc)) s':=hI s'.heap (.refl ..);refine xa (tR I3 hN hiN (.inl hy) (v:=.ref L) rfl (fun s4 I4 ⟨a,sb,ha⟩=>?_) (.inr hy));obtain ⟨g0,g1,g2,g3,g4,g5⟩:=fC;have hCa:C≠a:=by
  rcases ha with z|z
  ·rw [z];exact g1
  ·exact fun e=>g4 y a z e.symm
 refine ⟨m,hn.sameBut sb hCa,fun h5 sb5=>?_⟩;exact ⟨_,_,I4.turned (t':=s4.toks) (fun b o hb e=>(sb5.2 b hb).trans e) g0 g1 g3 g4 g5,q⟩
end
section
def CH (e:Int×a9):Str:=match e.2 with
 |.str x _=>x
 |_=>⟨#[]⟩
def vN (w:bn) (e:Int×a9):Prop:=∃ x tk,e=(hashStr w x,iC x tk)
structure jj (w:bn) (h:bu) (a:ah) (es:Array (Int×a9)) (ep:Nat) (t:tG):Prop where
 at_:h.get? a=some { cls:=.type "set",dict:=none,data:=.set es ep t }
 txt:∀ e∈es.toList,vN w e
 nd:(es.toList.map CH).Nodup
 few:es.size<gx
 fits:t.fits es.size=true
 led:t.led=!w.params.followText "set-order"
 pl:es.size=0\/t.plain=false
inductive kh (w:bn) (h:bu) (a:ah) (ss:List Str):Prop
 |mk (es ep t:_) (h0:jj w h a es ep t) (h1:(es.toList.map CH).Perm ss):kh w h a ss
theorem CI (t:tG) (es:Array (Int×a9)) (h:Int) (x:a9):(layNew t es h x).2.1.led=t.led:=by
 unfold layNew;cases t.freeSlot h with
 |none=>rfl
 |some p =>
  obtain ⟨slot,d⟩:=p;show ((t.put slot).1.orStandIn _).led=_;unfold C3;split<;>rfl
theorem z0 (t:tG) (es:Array (Int×a9)) (h:Int) (x:a9):t.plain=false->(layNew t es h x).2.1.plain=false:=by
 intro hp;unfold layNew;cases t.freeSlot h with
 |none=>rfl
 |some p =>
  obtain ⟨slot,d⟩:=p;show ((t.put slot).1.orStandIn _).plain=_;unfold C3;split
  ·exact hp
  ·rfl
theorem Aw {t t':tG}{hs:Array Int}{n:Nat}{o:Array Nat} (h:t.relaid hs n=some (t',o)):t'.led=t.led/\t'.plain=t.plain:=by
 unfold SetTable.relaid SetTable.laid at h;cases e:SetTable.layClean (SetTable.sizeAbove n-1) hs with
 |none=>rw [e] at h;cases h
 |some ow =>
  rw [e] at h;have h:=bE h;have h1:=congrArg Prod.fst h;subst h1;exact ⟨rfl,rfl⟩
theorem Fw (t:tG) (es:Array (Int×a9)) (n:Nat):(tH t es n).2.1.led=t.led/\(t.plain=false->(tH t es n).2.1.plain=false):=by
 unfold tH;cases e:t.relaid (es.map (·.1)) n with
 |none=>exact ⟨rfl,fun _=>rfl⟩
 |some p =>
  obtain ⟨t',o⟩:=p;obtain ⟨h1,h2⟩:=Aw e;dsimp only;split
  ·exact ⟨h1,fun h=>h2.trans h⟩
  ·exact ⟨rfl,fun _=>rfl⟩
theorem HQ   (h:∀ e∈l,vN w e):ElemsOf (strKind P w) l:=fun e he=>by
 obtain ⟨x,tk,rfl⟩:=h e he;exact ⟨⟨x,by simp [PySem.strKind,rE],rfl⟩,rfl⟩
theorem Rv (P:aS) (w:bn) (x:Str) (tk:Tok):(strKind P w).is x (.str x tk)=true:=by simp [PySem.strKind,rE]
theorem DS   (h:vN w e) (x:Str):(strKind P w).is x e.2=true↔CH e=x:=by
 obtain ⟨y,tk,rfl⟩:=h;constructor
 ·intro q;have:=(strKind P w).inj _ _ _ q (Rv P w y tk);rw [this];rfl
 ·rintro rfl;exact Rv P w _ tk
section
theorem DT     (I:jj w h a es ep t):(h.update a (tJ es' t')).get? a=some { cls:=.type "set",dict:=none,data:=.set es' (ep+1) t' }:=by
 have q:=i0 (tJ es' t') I.at_ rfl;exact q
theorem Fx     (hS:kh w s.heap a ss) (hr:ss.length+1<gx)
  (h:∀ h' tk',bT a s.heap h'->kh w h' a (if x∈ss then ss else ss++[x])->Q (!decide (x∈ss)) { s with heap:=h',toks:=tk' }) :
  ao (ar P w) A (setAddHashed a (.str x tk) ((strKind P w).hash x)) Q E s:=by
 obtain ⟨es,ep,t,I,pm⟩:=hS
 have hlen:es.size=ss.length:=by rw [<- pm.length_eq,au,aL]
 have hel:ElemsOf (strKind P w) es.toList:=HQ I.txt
 unfold setAddHashed setAddHashedIn
 refine cE (a7 (eW (s:=s) I.at_ rfl I.fits ?_))
 dsimp only
 rw [byScan_of rfl I.few hel]
 rw [if_pos rfl]
 unfold setAddByScan
 refine a7 (a7 (cg (a7 (wpAny_setScan_of (s:=s) (Rv P w x tk) I.at_ rfl I.fits hel ?_))))
 have inmem:x∈ss↔∃ e∈es.toList,(strKind P w).is x e.2=true:=by
  rw [<- pm.mem_iff,iG]
  constructor
  ·rintro ⟨e,he,q⟩;exact ⟨e,he,(DS (I.txt e he) x).mpr q⟩
  ·rintro ⟨e,he,q⟩;exact ⟨e,he,(DS (I.txt e he) x).mp q⟩
 cases hf:List.findIdx? (fun e=>(strKind P w).is x e.2) es.toList with
 |some j =>
  obtain ⟨hj,hp,_⟩:=List.findIdx?_eq_some_iff_getElem.mp hf
  have hin:x∈ss:=inmem.mpr ⟨_,jY hj,hp⟩
  have q:=h s.heap s.toks (.refl ..) (by rw [if_pos hin];exact ⟨es,ep,t,I,pm⟩)
  rw [decide_eq_true hin] at q
  exact ac (ac q)
 |none =>
  have hout:x∉ss:=fun z=>by
   obtain ⟨e,he,q⟩:=inmem.mp z
   rw [List.findIdx?_eq_none_iff.mp hf e he] at q
   cases q
  have h:=fun h' tk' sb=>h h' tk' sb
  rw [decide_eq_false hout,if_neg hout] at h
  have p1:=layNew_perm t es ((strKind P w).hash x) (.str x tk)
  have f1:=layNew_fits t es ((strKind P w).hash x) (.str x tk)
  have l1:=CI t es ((strKind P w).hash x) (.str x tk)
  have q1:=z0 t es ((strKind P w).hash x) (.str x tk)
  generalize layNew t es ((strKind P w).hash x) (.str x tk)=L at p1 f1 l1 q1 ⊢
  obtain ⟨es1,t1,wd,gv⟩:=L
  dsimp only at p1 f1 l1 q1 ⊢
  rw [i3] at p1
  have tx1:∀ e∈es1.toList,vN w e:=fun e he=>by
   rcases List.mem_append.mp (p1.mem_iff.mp he) with z|z
   ·exact I.txt e z
   ·rw [bZ] at z;exact ⟨x,tk,z⟩
  have km:(es1.toList.map CH).Perm (ss++[x]):=(p1.map CH).trans (by rw [cS];exact pm.append_right _)
  have nd1:(ss++[x]).Nodup:=by
   rw [mF]
   exact ⟨pm.nodup_iff.mp I.nd,by simp,fun y hy z hz e=>hout (by rw [bZ] at hz;rw [<- hz,<- e];exact hy)⟩
  have sz1:es1.size=es.size+1:=by rw [<- aL,p1.length_eq,aB,aL];rfl
  have few1:es1.size<gx:=by omega
  have gw:∀ (b:Bool) {s₁:ae}{Q':Unit->ae->Prop},Q' () s₁->ao (ar P w) A (match b with|true=>rule "set.scan.the-table-gave-way" | false=>pure ()) Q' E s₁ :=
   fun b _ _ z=>by cases b<;>first|exact ac z|exact cg z
  have tail:∀ t2:tG,t2.fits es1.size=true->t2.led=t.led->t2.plain=false->ao (ar P w) A (do
    storeSet a es1 t2
    if (!wd&&t2.tooFull)=true then do
      (match (tH t2 es1 (i4 es1.size)).2.2 with|true=>rule "set.scan.the-table-gave-way" | false=>pure ())
      storeSet a (tH t2 es1 (i4 es1.size)).1 (tH t2 es1 (i4 es1.size)).2.1
      pure (some true)
     else pure (some true)) (fun r s'=>r=some true/\Q true s') E s:=fun t2 f2 l2 n2=>by
   refine a7 (wpAny_storeSet_of (s:=s) I.at_ rfl ?_ (oq few1))
   have at1:=DT (es':=es1) (t':=t2) I
   have sb1:=cQ s.heap a (tJ es1 t2)
   have I1:jj w (s.heap.update a (tJ es1 t2)) a es1 (ep+1) t2:=⟨at1,tx1,km.nodup_iff.mpr nd1,few1,f2,l2.trans I.led,.inr n2⟩
   split
   ·have p2:=relayAll_perm t2 es1 (i4 es1.size)
    have f3:=relayAll_fits t2 es1 (i4 es1.size)
    have l3:=Fw t2 es1 (i4 es1.size)
    generalize tH t2 es1 (i4 es1.size)=R3 at p2 f3 l3 ⊢
    obtain ⟨es2,t3,gv2⟩:=R3
    dsimp only at p2 f3 l3 ⊢
    have few2:es2.size<gx:=by rw [<- aL,p2.length_eq,aL];exact few1
    have km2:=(p2.map CH).trans km
    refine a7 (gw _ (a7 (wpAny_storeSet_of (s:={ s with heap:=s.heap.update a (tJ es1 t2) }) I1.at_ rfl ?_ (oq few2))))
    refine ac ⟨rfl,h _ _ (sb1.trans (cQ _ a _)) ⟨es2,ep+1+1,t3,⟨DT I1,fun e he=>tx1 e (p2.mem_iff.mp he),km2.nodup_iff.mpr nd1,few2,f3,l3.1.trans (l2.trans I.led),.inr (l3.2 n2)⟩,km2⟩⟩
   ·exact ac ⟨rfl,h _ _ sb1 ⟨es1,ep+1,t2,I1,km⟩⟩
  refine a7 (gw gv ?_)
  cases hp:t1.plain with
  |true =>
   simp only [if_true]
   rw [hashByValue_scannable 8 (x:=.str x tk) rfl]
   refine a7 (ac ?_)
   refine aO (tail { t1 with plain:=false } (by cases t1;exact f1) l1 rfl) (fun r s' z=>?_) fun _ _ z=>z
   obtain ⟨rfl,z⟩:=z
   exact ac z
  |false =>
   simp only [ba,if_false]
   refine a7 (ac ?_)
   refine aO (tail t1 f1 l1 hp) (fun r s' z=>?_) fun _ _ z=>z
   obtain ⟨rfl,z⟩:=z
   exact ac z
theorem Ax     (hS:kh w s.heap a ss) (hr:ss.length+1<gx)
  (h:∀ h' tk',bT a s.heap h'->kh w h' a (if x∈ss then ss else ss++[x])->Q (!decide (x∈ss)) { s with heap:=h',toks:=tk' }) :
  ao (ar P w) A (setAdd a (.str x tk)) Q E s:=by
 unfold setAdd;refine cE (a7 ((strKind P w).pyHash (k:=x) (Rv P w x tk) ?_));exact Fx (s:={ s with toks:=s.toks+1 }) hS hr h
end
end
section
abbrev hU (w:bn):Obj:={ cls:=.type "set",dict:=none,data:=.set #[] 0 (.fresh 0 0 (!w.params.followText "set-order")) }
theorem tU (w:bn)  (e:h.get? a=some (hU w)):kh w h a [] :=
 ⟨#[],0,_,⟨e,fun e he=>by simp at he,by simp,by decide,rfl,rfl,.inl rfl⟩,by simp⟩
def bW:List Str->List Str->List Str
 |acc,[]=>acc
 |acc,x::r=>bW (if x∈acc then acc else acc++[x]) r
theorem kJ:∀ (l acc:List Str) (x:Str),x∈bW acc l↔x∈acc\/x∈l
 |[],acc,x=>by simp [bW]
 |y::r,acc,x=>by
  rw [bW,kJ r];by_cases h:y∈acc
  ·rw [if_pos h];simp only [aJ];constructor
   ·exact fun z=>z.elim .inl fun z=>.inr (.inr z)
   ·rintro (z|z|z)
    ·exact .inl z
    ·exact .inl (z ▸ h)
    ·exact .inr z
  ·rw [if_neg h];simp [cf,or_assoc]
theorem jU:∀ (l acc:List Str),acc.Nodup->(bW acc l).Nodup
 |[],acc,h=>h
 |y::r,acc,h=>by
  rw [bW];refine jU r _ ?_;by_cases hy:y∈acc
  ·rw [if_pos hy];exact h
  ·rw [if_neg hy,mF];exact ⟨h,by simp,fun a ha b hb e=>hy (by rw [bZ] at hb;rw [<- hb,<- e];exact ha)⟩
theorem fH:∀ (l acc:List Str),(bW acc l).length<=acc.length+l.length
 |[],acc=>by simp [bW]
 |y::r,acc=>by
  rw [bW];have:=fH r (if y∈acc then acc else acc++[y]);by_cases hy:y∈acc
  ·rw [if_pos hy] at this ⊢;simp only [bp];omega
  ·rw [if_neg hy] at this ⊢;simp only [bp,aB,eg,dZ] at this ⊢;omega
section
theorem kh.keep   (x:kh w h a ss) (k:∀ o,h.get? a=some o->h'.get? a=some o):kh w h' a ss :=
 let ⟨es,ep,t,I,p⟩:=x;⟨es,ep,t,⟨k _ I.at_,I.txt,I.nd,I.few,I.fits,I.led,I.pl⟩,p⟩
theorem xq {I:ah}{fp wr:List ah}{n:Nat}{Pv:Nat->a9->Prop}{St:Nat->bu->Prop} (W:GD prog w A.in1 I fp wr n Pv St) (D:ah) (hD:D∉fp) (xs:List Str) (hx:xs.length=n)
  (hv:∀ i v,Pv i v->∃ x t,xs[i]?=some x/\v=.str x t) (hb:n+1<gx) :
  ∀ (k i:Nat) (s:ae) (acc:List Str),n-i=k->i<=n->acc.length<=i->St i s.heap->kh w s.heap D acc ->
   (∀ h' tk,(∀ b o,b∉D::wr->s.heap.get? b=some o->h'.get? b=some o)->kh w h' D (bW acc (xs.drop i))->R (.ok (.ret .none)) { s with heap:=h',toks:=tk }) ->
   dG (ar prog w) A (.builtin "set.update.loop" ⟨[.ref D,.ref I],[]⟩) R s:=by
 have hDw:D∉wr:=fun z=>hD (W.sub _ z);intro k;induction k with
 |zero =>
  intro i s acc hk hi hl st hS hR;obtain rfl:i=n:=by omega
  refine gy n8 ?_;rw [eG hG _];show ao _ A.in1 (iP (.ref I) >>= _) _ _ s;refine a7 (W.done s _ _ st fun h' tk kp=>?_);refine ac (hR h' tk (fun b o hb e=>kp b o (fun z=>hb (ai _ z)) e) ?_);rw [C4 (by omega)];exact hS.keep fun o e=>kp D o hDw e
 |succ k ih =>
  intro i s acc hk hi hl st hS hR;have hlt:i<n:=by omega
  refine gy n8 ?_;rw [eG hG _];show ao _ A.in1 (iP (.ref I) >>= _) _ _ s;refine a7 (W.item i s _ _ hlt st fun v h' tk hP st' kp=>?_);obtain ⟨x,t,hxi,rfl⟩:=hv i v hP;have hS':kh w h' D acc:=hS.keep fun o e=>kp D o hDw e;refine a7 (cE (Ax (s:={ s with heap:=h',toks:=tk }) hS' (by omega) fun h2 tk2 sb hS2=>?_));refine ac ⟨lu hG _,ih (i+1) _ (if x∈acc then acc else acc++[x]) (by omega) hlt ?_ (W.frame _ _ _ st' fun b hb o e=>?_) hS2 fun h3 tk3 k3 hS3=>?_⟩
  ·by_cases z:x∈acc
   ·rw [if_pos z];omega
   ·rw [if_neg z,aB,eg];omega
  ·rw [sb.2 b fun z=>hD (z ▸ hb)];exact e
  ·refine hR h3 tk3 (fun b o hb e=>k3 b o hb ?_) ?_
   ·rw [sb.2 b fun z=>hb (by rw [z];exact al)];exact kp b o (fun z=>hb (ai _ z)) e
   ·have hd:xs.drop i=x::xs.drop (i+1):=by
     obtain ⟨h1,h2⟩:=List.getElem?_eq_some_iff.mp hxi;rw [mx h1,h2]
    rw [hd,bW];exact hS3
theorem HR (a:a9) (h:Q₁ (.ref s.heap.objs.size) { s with heap:=s.heap.push (hU w) }) :
  dG (ar prog w) A (.call (.builtin "set.__new__") ⟨[.type "set",a],[]⟩) (wants Q₁ E) s:=by
 refine rG ?_;show ao _ A.in1 (do checkBuiltinCall "set.__new__" ⟨[.type "set",a],[]⟩;again (.builtin "set.__new__" ⟨[.type "set",a],[]⟩)) _ _ s;refine a7 (A9 (F.newCall_set_1 a) (ac ⟨lu F.plain_set_new _,gy F.entry_set_new ?_⟩));rw [eG F.plain_set_new _];unfold ii.«set.__new__» KQ;have hsub:=sub_set_self;obtain ⟨hp,g,d,tk,os⟩:=s;dsimp only;wp_walk;refine gX (ac ?_);dsimp only;simp only [newObj];refine a7 (KP (ac ?_));exact ac h
structure Ow (prog:aS) (w:bn) (A:bv) (T:String) (l:ah) (o:Obj) (items:Array a9):Prop where
 ty:o.cls=.type T
 s1:isSubtype (.type T) (.type "set")=pure false
 s2:isSubtype (.type T) (.type "frozenset")=pure false
 nd:(iq T==iq "dict")=false
 iter:∀ (s:ae) (Q:a9->ae->Prop) (E:a9->ae->Prop),s.heap.get? l=some o ->
  (∀ ob St,GD prog w A.in1 s.heap.objs.size [s.heap.objs.size,l] [s.heap.objs.size] items.size (fun i v=>items[i]?=some v) St->St 0 (s.heap.push ob)->Q (.ref s.heap.objs.size) { s with heap:=s.heap.push ob })->ao (ar prog w) A (tq (.ref l)) Q E s
theorem se {T:String}{l:ah}{ol:Obj}{items:Array a9}{xs:List Str}{Q:a9->ae->Prop}
  (src:Ow prog w A.in1.in1 T l ol items) (hol:s.heap.get? l=some ol) (hi:∀ (i:Nat) (v:a9),items[i]?=some v->∃ x t,xs[i]?=some x/\v=iC x t) (hx:xs.length=items.size) (hb:items.size+1<gx)
  (h:∀ (h':bu) (tk:Nat),kh w h' s.heap.objs.size (bW [] xs)->(∀ b o,s.heap.get? b=some o->h'.get? b=some o)->Q (.ref s.heap.objs.size) { s with heap:=h',toks:=tk }) :
  ao (ar prog w) A (call (.type "set") [.ref l]) Q E s:=by
 obtain ⟨c,tl,hmro⟩:=F.called_set.mro;have hmade:=F.called_set.made;have hsub:=F.called_set.sub;refine wpAny_call (rG ?_);show ao _ _ (callAny (.type "set") _) _ _ _;refine ac ⟨Code.quiet_builtin _ (by decide +kernel),gy F.entry_type_call ?_⟩;rw [Around.under_plain (weight_type_call_type "set" [.ref l] []) rfl];have h1:=F.called_set.notType;have h2:=F.called_set.canCreate;have hct:=F.typeCall_set_1 (.ref l);repeat (any_goals (first|assumption|wp_step))
 refine mD (HR (.ref l) (E:=E) (Q₁:=fun obj s₁=>obj=.ref s.heap.objs.size/\s₁={ s with heap:=s.heap.push (hU w) }) ⟨rfl,rfl⟩) fun r s₁ hr=>?_;cases r with
 |error e=>exact hr
 |ok fl =>
  cases fl with
  |ret obj =>
   obtain ⟨rfl,rfl⟩:=hr;have hS:(s.heap.push (hU w)).get? s.heap.objs.size=some (hU w):=aw _ rfl;have hT:KR { s with heap:=s.heap.push (hU w) } (.ref s.heap.objs.size) "set":=⟨_,hS,rfl⟩;have hli:=F.called_set.init.lookup;have hbi:=F.called_set.init.bind (.ref s.heap.objs.size);repeat (any_goals (first|assumption|wp_step))
   refine mD (codeAny_call_builtin (R:=wants (fun r s₂=>r=.none/\∃ h' tk,s₂={ s with heap:=h',toks:=tk }/\kh w h' s.heap.objs.size (bW [] xs) /\
     (∀ b o,s.heap.get? b=some o->h'.get? b=some o)) E) F.called_set.init.plain F.entry_set_init (check_set_init_1 hT ?_)) fun r₂ s₂ hr₂=>?_
   ·obtain ⟨oc,od,odt,os'⟩:=ol;obtain ⟨ty,s1,s2,nd,iter⟩:=src;have ty:oc=.type T:=ty;subst ty;have hol':(s.heap.push (hU w)).get? l=some { cls:=.type T,dict:=od,data:=odt,slots:=os' }:=aa _ hol;unfold ii.«set.__init__» noKeywords KS;generalize hPI:tq=PI;wp_walk;subst hPI;refine iter { s with heap:=s.heap.push (hU w) } _ _ hol' fun ob St W st=>?_;have hlS:l<s.heap.objs.size:=ap hol;refine a7 (wpAny_runValue ?_);have szp:(s.heap.push (hU w)).objs.size=s.heap.objs.size+1:=bF ..;refine xq (A:=A.in1.in1) W s.heap.objs.size (by rw [szp];simp only [aJ,aM,or_false,not_or];exact ⟨aA (cZ _),dv hlS⟩) xs hx hi hb items.size 0 _ [] (by omega) (ck _) (am _) st (tU w (aa _ hS)) fun h' tk kp hS'=>?_;show ao _ _ _ _ _ _;refine ac ?_;show ao _ _ (ret eM) _ _ _;refine ac ⟨rfl,h',tk,rfl,hS',fun b o e=>kp b o ?_ (aa _ (aa _ e))⟩;have:=ap e;rw [szp];simp only [aJ,aM,or_false,not_or];exact ⟨aA this,aA (cG this)⟩
   ·cases r₂ with
    |error e=>exact hr₂
    |ok fl₂ =>
     cases fl₂ with
     |ret r =>
      obtain ⟨rfl,h',tk,rfl,hS',hk'⟩:=hr₂;repeat (any_goals (first|assumption|wp_step))
      exact h _ _ hS' hk'
     |next=>exact hr₂.elim
     |brk=>exact hr₂.elim
     |cont=>exact hr₂.elim
  |next=>exact hr.elim
  |brk=>exact hr.elim
  |cont=>exact hr.elim
theorem HS {l:ah}{o:Obj}{its:List a9} (hh:A.handled=none) (e0:o.cls=.type "list") (e1:∃ n,o.data=.seq its.toArray n):Ow prog w A "list" l o its.toArray :=
 ⟨e0,F.sub_list_set,F.sub_list_frozenset,by decide,fun s Q E e h=>j_ ⟨_,e,e0,e1⟩
  (h _ _ (xg (by simpa using hh) _ l (aA (ap e)) its.toArray) ⟨⟨_,aw _ rfl,rfl,rfl⟩,⟨_,aa _ e,e0,e1⟩⟩)⟩
theorem LF {l:ah}{o:Obj}{its:List a9} (hh:A.handled=none) (e0:o.cls=.type "tuple") (e1:∃ n,o.data=.seq its.toArray n):Ow prog w A "tuple" l o its.toArray :=
 ⟨e0,F.sub_tuple_set,F.sub_tuple_frozenset,by decide,fun s Q E e h=>fN ⟨_,e,e0,e1⟩
  (h _ _ (Walks.tuple (by simpa using hh) _ l (aA (ap e)) its.toArray) ⟨⟨_,aw _ rfl,rfl,rfl⟩,⟨_,aa _ e,e0,e1⟩⟩)⟩
end
end
end L2
section
namespace L2
open PySem PySem.Spec PyProof.Rows
namespace SI
theorem entry_iter:KU table "set.__iter__"=some ii.«frozenset.__iter__» :=
 entryFor_alias (id':="frozenset.__iter__") (by kernel_rfl) rfl (by decide +kernel) (by kernel_rfl)
theorem slot_next:Slot "set_iterator" "__next__" "set_iterator.__next__":=by
 refine .of (owner:="set_iterator") (n:="__next__") ?_ ?_ ?_ ?_ ?_ ?_
 ·rw [Ah,rP];kernel_rfl
 ·decide +kernel
 ·decide +kernel
 ·decide +kernel
 ·first
   |exact .inl (by decide +kernel)
   |exact .inr (by decide +kernel)
 ·rw [Cg];kernel_rfl
theorem entry_next:KU table "set_iterator.__next__"=some ii.«set_iterator.__next__» :=
 entryFor_of_tree (by kernel_rfl)
theorem Ay:Manifest.owners.lookup (String.ofList ['r','o','t','a','r','e','t','i','_','t','e','s'].reverse)=some Manifest.sig_set_iterator:=by kernel_rfl
theorem args_next (a:a9):argsOk "set_iterator.__next__" ⟨[a],[]⟩:=by
 unfold argsOk;rw [signature?_of (id:="set_iterator.__next__") (n:=['_','_','t','x','e','n','_','_']) (o:=['r','o','t','a','r','e','t','i','_','t','e','s']) (by kernel_rfl) Ay]
 kernel_rfl
theorem args_iter (a:a9):argsOk "set_iterator.__iter__" ⟨[a],[]⟩:=by
 unfold argsOk;rw [signature?_of (id:="set_iterator.__iter__") (n:=['_','_','r','e','t','i','_','_']) (o:=['r','o','t','a','r','e','t','i','_','t','e','s']) (by kernel_rfl) Ay]
 kernel_rfl
theorem entry_self:KU table "set_iterator.__iter__"=some ii.«dict_keyiterator.__iter__» :=
 entryFor_alias (id':="dict_keyiterator.__iter__") (by kernel_rfl) rfl (by decide +kernel) (by kernel_rfl)
theorem slot_iter:Slot "set_iterator" "__iter__" "set_iterator.__iter__":=by
 refine .of (owner:="set_iterator") (n:="__iter__") ?_ ?_ ?_ ?_ ?_ ?_
 ·rw [Ah,rP];kernel_rfl
 ·decide +kernel
 ·decide +kernel
 ·decide +kernel
 ·first
   |exact .inl (by decide +kernel)
   |exact .inr (by decide +kernel)
 ·rw [Cg];kernel_rfl
end SI
end L2
end
namespace L2
open PySem PySem.Spec PyProof.Rows
section
theorem qR {α:Type}:∀ {l:List α}{i:Nat} (h:i<l.length),(l[i]::l.eraseIdx i).Perm l
 |x::r,0,_=>.refl _
 |x::r,i+1,h=>by
  have q:=qR (l:=r) (i:=i) (by simpa using h);rw [List.getElem_cons_succ,List.eraseIdx_cons_succ];exact (List.Perm.swap _ _ _).trans (q.cons x)
section
theorem Fy   (hn:n≠0) (h:∀ i d,i<n->Q i { s with drawn:=d }):ao M A (choose src n) Q E s :=
 fun _ _ _=>⟨hn,h _ _ (Nat.mod_lt _ (Nat.pos_of_ne_zero hn))⟩
theorem sf {α:Type}:∀ (n:Nat) (xs:List α) (s:ae) (Q:List α->ae->Prop),n=xs.length->(∀ ys d,ys.Perm xs->Q ys { s with drawn:=d })->ao M A (drawOrder n xs) Q E s
 | 0,xs,s,Q,hn,h=>by
  obtain rfl:xs=[]:=List.length_eq_zero_iff.mp hn.symm;exact ac (h [] s.drawn .nil)
 |n+1,[],s,Q,hn,h=>by cases hn
 |n+1,x::r,s,Q,hn,h=>by
  show ao M A (choose .order (x::r).length >>= _) Q E s;refine a7 (Fy (by simp) fun i d hi=>?_);rw [bq hi];refine a7 (sf n _ _ _ (by rw [xM hi];omega) fun ys d' p=>ac ?_);exact h _ _ ((p.cons _).trans (qR hi))
end
theorem z9 {α:Type} (next:Nat->Nat):∀ (n k:Nat) (left:List α) (out:Array α),n=left.length->(xh next n k left out).toList.Perm (out.toList++left)
 | 0,k,left,out,hn=>by
  obtain rfl:left=[]:=List.length_eq_zero_iff.mp hn.symm;rw [xh,bC]
 |n+1,k,left,out,hn=>by
  have hl:next k % left.length<left.length:=Nat.mod_lt _ (by omega)
  rw [xh,bq hl];refine (z9 next n (k+1) _ _ (by rw [xM hl];omega)).trans ?_;rw [i3,cC];exact (qR hl).append_left _
theorem x_ {α:Type} (next:Nat->Nat) (xs:Array α):(nc next xs).toList.Perm xs.toList:=by
 have:=z9 next xs.size 0 xs.toList #[] (by simp)
 simpa [nc] using this
def zc (h:bu) (I S:ah) (first:a9) (i n ep:Nat):Prop:=h.get? I=some { cls:=.type "set_iterator",data:=.fields #[first,.int i 0,.ref S,.int n 0,.int ep 0] }
section
theorem zc.put {f f':a9}{j j':Nat}{k:Nat}{x:a9}{h:bu} (hit:zc h I S f j n ep) (e:(#[f,.int j 0,.ref S,.int n 0,.int ep 0] : Array a9).setIfInBounds k x=#[f',.int j' 0,.ref S,.int n 0,.int ep 0]) :
  zc (h.update I (fi (·.setIfInBounds k x))) I S f' j' n ep:=by
 have q:=i0 (fi (·.setIfInBounds k x)) hit rfl;unfold zc;rw [q];show some ({ cls:=.type "set_iterator",data:=.fields ((#[f,.int j 0,.ref S,.int n 0,.int ep 0] : Array a9).setIfInBounds k x) }:Obj)=_;rw [e]
theorem pK (hit:zc s.heap I S first i n ep) (hS:jj w s.heap S es ep t) (hn:n=es.size)
  (h:ao (ar prog w) A.in1 (do
   if let .int slot _:=first then
    match <- GU S slot.toNat i ep with
    |some (x,next) =>
     gY (.ref I) 0 (b_ next)
     gY (.ref I) 1 (b_ (i+1))
     ret x
    |none=>gY (.ref I) 2 .none;tK (<- vA (.type "StopIteration") [])
   else
    let some places <- GE first|KW "internal:set_iterator"
    match places[i]? with
    |some (.int place _) =>
     let x <- setNextDrawn S place.toNat ep
     gY (.ref I) 1 (b_ (i+1))
     ret x
    |some _=>KW "internal:set_iterator"
    |none=>gY (.ref I) 0 (b_ 0);gY (.ref I) 2 .none;tK (<- vA (.type "StopIteration") []))
   (fun fin s'=>∃ v,fin=.done (.ret v)/\Q (some v) s') (fun e s'=>ao (ar prog w) A (isInstance e (.type "StopIteration")) (fun b s''=>b=true/\Q none s'') E s') s) :
  ao (ar prog w) A (iP (.ref I)) Q E s:=by
 unfold iP;refine a7 (oB ?_);refine cV (name:=iH "__next__") ⟨_,hit,rfl⟩ SI.slot_next ?_;refine bR SI.slot_next ⟨_,hit,rfl⟩ SI.entry_next ?_ (SI.args_next _);show ao _ _ (fieldsOf (.ref I) >>= _) _ _ s;refine a7 (wpAny_fieldsOf hit rfl ?_);show ao _ _ (setEntries S >>= _) _ _ s;refine a7 (wpAny_setEntries_of hS.at_ rfl hS.fits ?_);rw [if_neg (by rw [hn];simp)];refine aO h (fun fin s' z=>?_) fun e s' z=>?_
 ·obtain ⟨v,rfl,q⟩:=z;exact ⟨v,rfl,ac q⟩
 ·refine a7 (aO z (fun b s'' ⟨hb,q⟩=>?_) fun _ _ z=>z);subst hb;exact ac q
theorem zd {B:bv}{Q:Option a9->ae->Prop}{Q':Fin->ae->Prop}{o:Obj}{vs:Array a9} (hh:B.handled=none) (ho:s.heap.get? I=some o) (hd:o.data=.fields vs) (hz:2<vs.size)
  (h:∀ h',Heap.ExtBut I s.heap h'->Q none { s with heap:=h' }) :
  ao (ar prog w) B (do gY (.ref I) 2 .none;tK (<- vA (.type "StopIteration") []))
   Q' (fun e s'=>ao (ar prog w) A (isInstance e (.type "StopIteration")) (fun b s''=>b=true/\Q none s'') E s') s:=by
 refine a7 (iQ ho hd hz ?_);show ao _ _ (vA (.type "StopIteration") [] >>= _) _ _ _;refine a7 ?_;simp only [vA,newTuple];refine a7 (c6 ?_ (by size_fits));refine a7 (m:=tL _ _) (A9 (a:=eM) ?_ ?_)
 ·first
   |rfl
   |(simp only [tL];rfl)
 refine c6 ?_ (by size_fits);simp only [tK];refine a7 (wpAny_handled ?_);rw [hh];refine a7 (ac (wpAny_throw ?_));refine kR (T:="StopIteration") (b:=true) ⟨_,aw _ rfl,rfl⟩ Ch ⟨rfl,?_⟩;exact h _ (((cQ ..).extBut.push _).push _)
end
end
section
section
variable {prog:aS}{w:bn}{A:bv}{E:a9->ae->Prop}{s:ae}{I S:ah}{es:Array (Int×a9)}{ep:Nat}{t:tG}{i n:Nat}{first:a9}
theorem jj.keep (x:jj w h S es ep t) (k:∀ o,h.get? S=some o->h'.get? S=some o):jj w h' S es ep t:=⟨k _ x.at_,x.txt,x.nd,x.few,x.fits,x.led,x.pl⟩
theorem ze {Q:a9->ae->Prop} (hit:zc s.heap I S first i n ep) (h:Q (.ref I) s):ao (ar prog w) A (tq (.ref I)) Q E s:=by
 refine wpAny_pyIter_slot ⟨_,hit,rfl⟩ SI.slot_iter (bR SI.slot_iter ⟨_,hit,rfl⟩ SI.entry_self ?_ (SI.args_iter _));show ao _ _ (ret (.ref I)) _ _ s;exact ac ⟨_,rfl,"set_iterator",_,⟨_,hit,rfl⟩,SI.slot_next.lookup,h⟩
theorem gS {Q:Bool->ae->Prop}{B:bv} (h:Q (w.params.followText "set-order") s):ao (ar prog w) B setsByText Q E s:=by
 unfold setsByText;exact a7 (gX (ac h))
theorem HU {B:bv}{Q':Fin->ae->Prop}{x:a9}{nx:Nat}{E':a9->ae->Prop} (hit:zc s.heap I S first i n ep)
  (h:∀ h',zc h' I S (.int nx 0) (i+1) n ep->bT I s.heap h'->Q' (.done (.ret x)) { s with heap:=h' }) :
  ao (ar prog w) B (do gY (.ref I) 0 (b_ nx);gY (.ref I) 1 (b_ (i+1));ret x) Q' E' s:=by
 refine a7 (iQ hit rfl (by simp) ?_);have h1:zc (s.heap.update I (fi (·.setIfInBounds 0 (b_ nx)))) I S (.int nx 0) i n ep:=hit.put (by simp [b_]);refine a7 (iQ h1 rfl (by simp) ?_);have h2:zc ((s.heap.update I (fi (·.setIfInBounds 0 (b_ nx)))).update I (fi (·.setIfInBounds 1 (b_ (i+1))))) I S (.int nx 0) (i+1) n ep:=h1.put (by simp [b_]);exact ac (h _ h2 ((cQ ..).trans (cQ ..)))
theorem tV (f:Nat->Nat) (es:Array (Int×a9)):(nc f es).size=es.size:=by
 rw [<- aL,(x_ f es).length_eq,aL]
theorem CJ (hh:A.handled=none) (hw:w.params.followText "set-order"=true) (hne:S≠I) :
  GD prog w A I [I,S] [I] es.size (fun i v=>((nc (w.params.setOrder S ep) es).toList.map (·.2))[i]?=some v) (fun i h=>zc h I S (.int 0 0) i es.size ep/\jj w h S es ep t) where
 sub:=fun b hb=>by simp at hb;simp [hb]
 frame:=fun i h h' st k=>⟨k I (by simp) _ st.1,st.2.keep fun o e=>k S (by simp) o e⟩
 item:=fun i s Q E hi st hQ=>by
  obtain ⟨hit,hS⟩:=st;refine pK hit hS rfl ?_;dsimp only;unfold GU setWalk;refine a7 (a7 (eW hS.at_ rfl hS.fits (a7 (gS ?_))));rw [hw];simp only [if_true,bne_self_eq_false,ba,if_false];refine a7 (a7 (eW hS.at_ rfl hS.fits (a7 (gS ?_))));rw [hw];simp only [if_true];refine a7 (gX (ac (ac ?_)));have hi':i<(nc (w.params.setOrder S ep) es).size:=by rw [tV];exact hi
  show ao _ _ (match ((nc (w.params.setOrder S ep) es)[i]?).map fun e=>(e.2,(0:Int).toNat) with
   |some (x,next)=>do gY (.ref I) 0 (b_ next);gY (.ref I) 1 (b_ (i+1));ret x
   |none=>do gY (.ref I) 2 .none;tK (<- vA (.type "StopIteration") [])) _ _ s
  rw [getElem?_pos _ i hi'];refine HU (nx:=0) hit fun h' h1 sb=>⟨_,rfl,hQ _ h' s.toks ?_ ⟨h1,hS.keep fun o e=>(sb.2 S hne).trans e⟩ fun b o hb e=>(sb.2 b fun z=>hb (by simp [z])).trans e⟩;simp [hi']
 done:=fun s Q E st hQ=>by
  obtain ⟨hit,hS⟩:=st;refine pK hit hS rfl ?_;dsimp only;unfold GU setWalk;refine a7 (a7 (eW hS.at_ rfl hS.fits (a7 (gS ?_))));rw [hw];simp only [if_true,bne_self_eq_false,ba,if_false];refine a7 (a7 (eW hS.at_ rfl hS.fits (a7 (gS ?_))));rw [hw];simp only [if_true];refine a7 (gX (ac (ac ?_)));show ao _ _ (match ((nc (w.params.setOrder S ep) es)[es.size]?).map fun e=>(e.2,(0:Int).toNat) with
   |some (x,next)=>do gY (.ref I) 0 (b_ next);gY (.ref I) 1 (b_ (es.size+1));ret x
   |none=>do gY (.ref I) 2 .none;tK (<- vA (.type "StopIteration") [])) _ _ s
  rw [getElem?_neg _ es.size (by rw [tV];exact aU _)];exact zd (by simpa using hh) hit rfl (by simp) fun h' eb=>hQ h' s.toks fun b o hb e=>eb b o (fun z=>hb (by simp [z])) e
 self:=fun i s Q E st h=>ze st.1 h
inductive Sg (h:bu) (T:ah) (ps:List Nat):Prop
 |mk (o k:_) (h0:h.get? T=some o) (h1:o.data=.seq (ps.map fun (p:Nat)=>jN (p:Int) 0).toArray k):Sg h T ps
theorem Az (hh:A.handled=none)  (hne:S≠I) (hT:T≠I) (hp:∀ p∈ps,p<es.size) (hn:ps.length=es.size) :
  GD prog w A I [I,S,T] [I] es.size (fun i v=>(ps.map fun p=>(es.getD p (0,.none)).2)[i]?=some v) (fun i h=>zc h I S (.ref T) i es.size ep/\jj w h S es ep t/\Sg h T ps) where
 sub:=fun b hb=>by simp at hb;simp [hb]
 frame:=fun i h h' st k=>⟨k I (by simp) _ st.1,st.2.1.keep fun o e=>k S (by simp) o e,let ⟨o,q,e,d⟩:=st.2.2;⟨o,q,k T (by simp) o e,d⟩⟩
 item:=fun i s Q E hi st hQ=>by
  obtain ⟨hit,hS,o,q,e,d⟩:=st;refine pK hit hS rfl ?_;dsimp only;refine a7 (e7 e d ?_);have hi':i<ps.length:=by omega
  dsimp only;rw [show ((ps.map fun (p:Nat)=>jN (p:Int) 0).toArray)[i]?=some (.int (ps[i] : Nat) 0) by simp [hi']];dsimp only;unfold setNextDrawn;refine a7 (a7 (eW hS.at_ rfl hS.fits ?_));have hlt:=hp ps[i] (jY hi');simp only [bne_self_eq_false,ba,if_false,jx];rw [getElem?_pos es ps[i] hlt];refine ac ?_;refine a7 (iQ hit rfl (by simp) ?_);have h1:zc (s.heap.update I (fi (·.setIfInBounds 1 (b_ (i+1))))) I S (.ref T) (i+1) es.size ep:=hit.put (by simp [b_]);have sb:bT I s.heap (s.heap.update I (fi (·.setIfInBounds 1 (b_ (i+1))))):=cQ ..;refine ac ⟨_,rfl,hQ _ _ s.toks ?_ ⟨h1,hS.keep fun o e=>(sb.2 S hne).trans e,o,q,(sb.2 T hT).trans e,d⟩ fun b o hb e=>(sb.2 b fun z=>hb (by simp [z])).trans e⟩;simp [hi',hlt]
 done:=fun s Q E st hQ=>by
  obtain ⟨hit,hS,o,q,e,d⟩:=st;refine pK hit hS rfl ?_;dsimp only;refine a7 (e7 e d ?_);dsimp only;rw [show ((ps.map fun (p:Nat)=>jN (p:Int) 0).toArray)[es.size]?=none by simp [<- hn]];dsimp only;refine a7 (iQ hit rfl (by simp) ?_);have h1:zc (s.heap.update I (fi (·.setIfInBounds 0 (b_ 0)))) I S (.int 0 0) es.size es.size ep:=hit.put (by simp [b_]);have sb:bT I s.heap (s.heap.update I (fi (·.setIfInBounds 0 (b_ 0)))):=cQ ..;exact zd (s:={ s with heap:=s.heap.update I (fi (·.setIfInBounds 0 (b_ 0))) }) (by simpa using hh) h1 rfl (by simp) fun h' eb=>hQ h' s.toks fun b o hb e=>eb b o (fun z=>hb (by simp [z])) ((sb.2 b fun z=>hb (by simp [z])).trans e)
 self:=fun i s Q E st h=>ze st.1 h
theorem HV  (h:p=#[j]):i5 p 0=0:=by subst h;simp [i5,xi]
theorem HW {p:Array Nat}{j:Nat} (h:p=#[j]):i5 p (j+1)=1:=by subst h;simp [i5,xi]
theorem Fz (h : t.fits 1 = true) : ∃ j, t.place = #[j] := by
  have h1 : t.place.size = 1 := by
    simp only [SetTable.fits, aT, beq_iff_eq] at h; exact h.1
  exact ⟨t.place[0], by apply Array.ext; · simp [h1]
                        · intro i h2 h3; have : i = 0 := by omega
                          subst this; simp⟩
theorem Ox   (hl:t.led=true) (h:ao (ar prog w) B (k ()) Q E s) :
  ao (ar prog w) B ((if (!t.led && !es.isEmpty)=true then KW "set:maker-not-led" else pure ()) >>= k) Q E s:=by
 rw [if_neg (by rw [hl];simp)];exact a7 (ac h)
theorem sg {B:bv}{slot g:Nat}{Q:Option (a9×Nat)->ae->Prop} (hw:w.params.followText "set-order"=false) (hS:jj w s.heap S es ep t) (h1:es.size<=1)
  (h:Q (match es[i5 t.place slot]?,t.place[i5 t.place slot]? with|some (_,x),some j=>some (x,j+1)|_,_=>none) s):ao (ar prog w) B (GU S slot g ep) Q E s:=by
 unfold GU;refine a7 (eW hS.at_ rfl hS.fits (a7 (gS ?_)));rw [hw];simp only [ba,if_false];split
 ·rename_i z
  exact absurd (show (!t.plain&&decide (es.size > 1))=true from z) (by simp;omega)
 ·have hl:t.led=true:=by rw [hS.led,hw];rfl
  exact Ox hl (ac h)
theorem FA (hh:A.handled=none) (hw:w.params.followText "set-order"=false) (hne:S≠I) (h1:es.size<=1) :
  GD prog w A I [I,S] [I] es.size (fun i v=>(es.toList.map (·.2))[i]?=some v)
   (fun i h=>∃ k,zc h I S (.int (k:Nat) 0) i es.size ep/\jj w h S es ep t/\(i=0->k=0)/\(i=1->es.size=1->∃ j,t.place=#[j]/\k=j+1)) where
 sub:=fun b hb=>by simp at hb;simp [hb]
 frame:=fun i h h' st k=>let ⟨c,a1,a2,a3⟩:=st;⟨c,k I (by simp) _ a1,a2.keep fun o e=>k S (by simp) o e,a3⟩
 item:=fun i s Q E hi st hQ=>by
  obtain ⟨c,hit,hS,c0,c1⟩:=st;have hi0:i=0:=by omega
  subst hi0;obtain rfl:c=0:=c0 rfl;have e1:es.size=1:=by omega
  obtain ⟨j,hj⟩:=Fz (t:=t) (by rw [<- e1];exact hS.fits);refine pK hit hS rfl ?_;dsimp only;refine a7 (sg hw hS h1 ?_);rw [show (((0:Nat):Int).toNat)=0 from rfl,HV hj,getElem?_pos es 0 (by omega),hj];refine HU (nx:=j+1) hit fun h' h1 sb=>⟨_,rfl,hQ _ h' s.toks ?_ ⟨j+1,h1,hS.keep fun o e=>(sb.2 S hne).trans e,by simp,fun _ _=>⟨j,hj,rfl⟩⟩ fun b o hb e=>(sb.2 b fun z=>hb (by simp [z])).trans e⟩;simp [e1]
 done:=fun s Q E st hQ=>by
  obtain ⟨c,hit,hS,c0,c1⟩:=st;refine pK hit hS rfl ?_;dsimp only;refine a7 (sg hw hS h1 ?_);have hz:es[i5 t.place ((c:Nat):Int).toNat]?=none:=by
   rcases fw es.size with z|z
   ·rw [getElem?_neg];omega
   ·have e1:es.size=1:=by omega
    obtain ⟨j,hj,hc⟩:=c1 e1 e1;rw [hc,show (((j+1:Nat):Int).toNat)=j+1 from rfl,HW hj,getElem?_neg];omega
  rw [hz];exact zd (by simpa using hh) hit rfl (by simp) fun h' eb=>hQ h' s.toks fun b o hb e=>eb b o (fun z=>hb (by simp [z])) e
 self:=fun i s Q E st h=>let ⟨_,a1,_⟩:=st;ze a1 h
theorem CK {Q:a9->ae->Prop} (hh:A.handled=none) (hS:jj w s.heap S es ep t)
  (h:∀ (I:ah) (fp:List ah) (ord:List a9) (St:Nat->bu->Prop) (h':bu) (d:Gv),s.heap.objs.size<=I->(∀ b∈fp,b=S\/s.heap.objs.size<=b)->(∀ b∈fp,b<h'.objs.size)->ord.Perm (es.toList.map (·.2))->(∀ B:bv,B.handled=none->GD prog w B I fp [I] ord.length (fun i v=>ord[i]?=some v) St)->St 0 h' ->
   (∀ b o,s.heap.get? b=some o->h'.get? b=some o)->KR { s with heap:=h',drawn:=d } (.ref I) "set_iterator"->Q (.ref I) { s with heap:=h',drawn:=d }):ao (ar prog w) A (tq (.ref S)) Q E s:=by
 have hT:s.TypeIs (.ref S) "set":=⟨_,hS.at_,rfl⟩;have hlt:=ap hS.at_;refine wpAny_pyIter_slot hT F.slot_set_iter (bR F.slot_set_iter hT SI.entry_iter ?_ (F.args_set_iter_1 _));show ao _ _ (qM S >>= _) _ _ s;unfold qM;refine a7 (a7 (wpAny_setEntries_of hS.at_ rfl hS.fits (ac ?_)));show ao _ _ (setDrawn S >>= _) _ _ s;unfold setDrawn;refine a7 (a7 (eW hS.at_ rfl hS.fits (a7 (gS (ac ?_)))));have fin:∀ (first:a9) (fp:List ah) (ord:List a9) (St:Nat->bu->Prop) (h':bu) (d:Gv),(∀ b o,s.heap.get? b=some o->h'.get? b=some o)->s.heap.objs.size<=h'.objs.size ->
   (∀ b∈fp,b=S\/b=h'.objs.size\/(s.heap.objs.size<=b/\b<h'.objs.size))->ord.Perm (es.toList.map (·.2))->(∀ B:bv,B.handled=none->GD prog w B h'.objs.size fp [h'.objs.size] ord.length (fun i v=>ord[i]?=some v) St) ->
   (∀ h'':bu,(∀ b o,h'.get? b=some o->h''.get? b=some o)->zc h'' h'.objs.size S first 0 es.size ep->St 0 h'') ->
   ao (ar prog w) A.in1 (setEpoch S >>= fun e=>newFields "set_iterator" [first,b_ 0,.ref S,b_ es.size,b_ e] >>= fun x=>ret x) (fun fin s'=>∃ v,fin=.done (.ret v)/\∃ T' r,s'.TypeIs v T'/\Cd (.type T') "__next__"=pure (some r)/\Q v s') E { s with heap:=h',drawn:=d }:=by
  intro first fp ord St h' d kp hsz hfp pm W st
  have hS':jj w h' S es ep t:=hS.keep fun o e=>kp S o e;refine a7 (wpAny_setEpoch_of (s:={ s with heap:=h',drawn:=d }) hS'.at_ rfl hS'.fits ?_);refine a7 (c6 ?_ (by size_fits));have gp:∀ b o,h'.get? b=some o->(h'.push { cls:=.type "set_iterator",dict:=none,data:=.fields #[first,b_ 0,.ref S,b_ es.size,b_ ep] }).get? b=some o:=fun b o e=>aa _ e;have it:(h'.push { cls:=.type "set_iterator",dict:=none,data:=.fields #[first,b_ 0,.ref S,b_ es.size,b_ ep] }).get? h'.objs.size=some { cls:=.type "set_iterator",dict:=none,data:=.fields #[first,b_ 0,.ref S,b_ es.size,b_ ep] }:=aw _ rfl;refine ac ⟨_,rfl,"set_iterator",_,⟨_,it,rfl⟩,SI.slot_next.lookup,h h'.objs.size fp ord St _ d hsz (fun b hb=>?_) (fun b hb=>?_) pm W (st _ gp it) (fun b o e=>gp b o (kp b o e)) ⟨_,it,rfl⟩⟩
  ·rcases hfp b hb with z|z|z
   ·exact .inl z
   ·exact .inr (by rw [z];exact hsz)
   ·exact .inr z.1
  ·rw [bF];rcases hfp b hb with z|z|z
   ·rw [z];exact cG (aD hlt hsz)
   ·rw [z];exact cZ _
   ·exact cG z.2
 dsimp only;split
 ·rename_i z
  have z:(!w.params.followText "set-order" && (!t.plain&&decide (es.size > 1)))=true:=z;refine a7 (sf _ _ _ _ (by simp) fun ys d pm=>?_);simp only [newTuple];have hyl:ys.length=es.size:=by have:=pm.length_eq;rwa [mG] at this
  have zl:=oq hS.few;refine a7 (c6 ?_ (by show (ys.map fun (i:Nat)=>b_ i).toArray.size<=sizeLine;simp;omega));have tp:∀ ob:Obj,(s.heap.push ob).objs.size=s.heap.objs.size+1:=fun ob=>bF ..;refine fin (.ref s.heap.objs.size) [s.heap.objs.size+1,S,s.heap.objs.size] (ys.map fun p=>(es.getD p (0,.none)).2)
   (fun i h=>zc h (s.heap.objs.size+1) S (.ref s.heap.objs.size) i es.size ep/\jj w h S es ep t/\Sg h s.heap.objs.size ys) (s.heap.push _) d
   (fun b o e=>aa _ e) (by rw [tp];exact fh _) (fun b hb=>?_) ?_ (fun B hB=>?_) (fun h'' k it=>⟨by rw [tp] at it;exact it,hS.keep fun o e=>k S o (aa _ e),_,_,k _ _ (aw _ rfl),rfl⟩)
  ·simp only [aJ,aM,or_false] at hb;rcases hb with y|y|y
   ·exact .inr (.inl (by rw [tp];exact y))
   ·exact .inl y
   ·exact .inr (.inr ⟨by rw [y];exact am _,by rw [tp,y];exact cZ _⟩)
  ·refine (pm.map _).trans (.of_eq ?_);apply List.ext_getElem
   ·simp
   ·intro k h1 h2;have:k<es.size:=by simpa using h1
    simp [this]
  ·rw [au,hyl,tp];exact Az hB (aA (cG hlt)) (aA (cZ _)) (fun p hp=>List.mem_range.mp (pm.mem_iff.mp hp)) hyl
 ·rename_i z
  have z:¬ (!w.params.followText "set-order" && (!t.plain&&decide (es.size > 1)))=true:=z;refine a7 (ac ?_);have hne:S≠s.heap.objs.size:=aA hlt;cases hw:w.params.followText "set-order" with
  |true =>
   refine fin (b_ 0) [s.heap.objs.size,S] ((nc (w.params.setOrder S ep) es).toList.map (·.2)) (fun i h=>zc h s.heap.objs.size S (.int 0 0) i es.size ep/\jj w h S es ep t) s.heap s.drawn (fun _ _ e=>e) (am _) (fun b hb=>?_) ((x_ _ es).map _) (fun B hB=>?_) (fun h'' k it=>⟨it,hS.keep fun o e=>k S o e⟩)
   ·simp only [aJ,aM,or_false] at hb;exact hb.elim (fun z=>.inr (.inl z)) .inl
   ·rw [au,aL,tV];exact CJ hB hw hne
  |false =>
   have h1:es.size<=1:=by
    rw [hw] at z;rcases hS.pl with y|y
    ·omega
    ·rw [y] at z;simpa using z
   refine fin (b_ 0) [s.heap.objs.size,S] (es.toList.map (·.2)) (fun i h=>∃ k,zc h s.heap.objs.size S (.int (k:Nat) 0) i es.size ep/\jj w h S es ep t/\(i=0->k=0)/\(i=1->es.size=1->∃ j,t.place=#[j]/\k=j+1)) s.heap s.drawn (fun _ _ e=>e) (am _) (fun b hb=>?_) (.refl _) (fun B hB=>?_) (fun h'' k it=>⟨0,it,hS.keep fun o e=>k S o e,fun _=>rfl,fun y=>by cases y⟩)
   ·simp only [aJ,aM,or_false] at hb;exact hb.elim (fun z=>.inr (.inl z)) .inl
   ·rw [au,aL];exact FA hB hw hne h1
end
end
section
section
theorem AA (hh:A.handled=none) (hS:jj w s.heap S es ep t)
  (h:∀ (ord:List a9) (h':bu) (d:Gv) (tk:Nat),ord.Perm (es.toList.map (·.2))->(∀ b o,s.heap.get? b=some o->h'.get? b=some o)->s.heap.objs.size<=h'.objs.size->Q ord { s with heap:=h',drawn:=d,toks:=tk }) :
  ao (ar prog w) A (GV (.ref S)) Q E s:=by
 have hlt:=ap hS.at_;unfold GV;refine a7 (wpAny_runValue (gy F.entry_proto_collect ?_));rw [eG F.plain_proto_collect _];show ao _ A.in1 (newList [] >>= fun l=>again (.builtin "list.__iadd__" ⟨[l,.ref S],[]⟩)) _ _ s;refine a7 (c6 ?_);refine ac ⟨lu F.plain_list_iadd _,gy F.entry_list_iadd ?_⟩;rw [eG F.plain_list_iadd _];let s1:ae:={ s with heap:=s.heap.push { cls:=.type "list",data:=.seq ([] : List a9).toArray } }
 have sz1:s1.heap.objs.size=s.heap.objs.size+1:=bF ..;have at1:s1.heap.get? s.heap.objs.size=some { cls:=.type "list",data:=.seq ([] : List a9).toArray }:=aw _ rfl;have hS1:jj w s1.heap S es ep t:=hS.keep fun o e=>aa _ e;show ao _ A.in1 (rQ (.ref s.heap.objs.size) (.ref S) (.ref s.heap.objs.size)) _ _ s1;have hT1:s1.TypeIs (.ref S) "set":=⟨_,hS1.at_,rfl⟩;unfold rQ;refine a7 (k9 hT1 ?_);have e1:uo (.ref s.heap.objs.size) (.ref S)=false:=by simp [uo,dv hlt]
 have e2:(iq "set" == iq "list")=false:=by decide
 have e3:(iq "set" == iq "tuple")=false:=by decide
 simp only [e1,e2,e3,Bool.or_false,ba,if_false];refine a7 (CK (A:=A.in1) (by simpa using hh) hS1 fun I fp ord St h' d hI hfp hfl pm W st kp tI=>?_);let s2:ae:={ s1 with heap:=h',drawn:=d }
 have hS2:jj w s2.heap S es ep t:=hS1.keep fun o e=>kp S o e;have hT2:s2.TypeIs (.ref S) "set":=⟨_,hS2.at_,rfl⟩;refine a7 (cE ?_);unfold Builtin.List.listLengthHint;refine a7 (wpAny_specialOf (s:=s2) hT2 F.slot_set_len.lookup ?_);dsimp only;rw [show splitId "set.__len__"=some ("set","__len__") from by decide +kernel];dsimp only;refine a7 (kR (b:=true) (s:=s2) hT2 (by rw [Cg];kernel_rfl) ?_);rw [if_neg (by decide),if_pos (by decide)];refine a7 (k9 (s:=s2) hT2 (ac ?_));rw [if_pos (by decide)];refine a7 (cg ?_);have nS:s.heap.objs.size∉fp:=fun z=>by
  rcases hfp _ z with q|q
  ·exact absurd hlt (by rw [<- q];exact aU _)
  ·rw [sz1] at q;exact absurd q (Nat.not_succ_le_self _)
 have at2:s2.heap.get? s.heap.objs.size=some { cls:=.type "list",data:=.seq ([] : List a9).toArray }:=kp _ _ at1;refine a7 ?_;show ao _ A.in1 (updateSeq s.heap.objs.size (·.push .none) >>= fun _=>updateSeq s.heap.objs.size (·.pop)) _ _ s2;refine a7 (Ai at2 rfl ?_);have at3:=i0 (fv (·.push eM)) at2 rfl;refine Ai at3 rfl ?_;have at4:=i0 (fv (·.pop)) at3 rfl;have oth:∀ b o,b≠s.heap.objs.size->s2.heap.get? b=some o->((s2.heap.update s.heap.objs.size (fv (·.push eM))).update s.heap.objs.size (fv (·.pop))).get? b=some o :=
  fun b o hb e=>(eV _ _ (cR hb)).trans ((eV _ _ (cR hb)).trans e)
 have zl:ord.length<=sizeLine:=by rw [pm.length_eq,au,aL];exact oq hS.few
 have W1:=W A.in1 (by simpa using hh);refine ac ⟨lu F.plain_extend_loop _,codeAny_extend_loopS (A:=A) W1.toS zl _ nS _ ord.length 0 { s2 with heap:=(s2.heap.update s.heap.objs.size (fv (·.push eM))).update s.heap.objs.size (fv (·.pop)) } _ _ rfl (ck _) (W1.frame 0 _ _ st fun b hb o e=>oth b o (fun z=>nS (z ▸ hb)) e) at4 (ItemsOf.nil _) fun s' acc' c' hm hS' hacc=>?_⟩;show ao _ A (load s.heap.objs.size >>= _) _ _ s';refine a7 (wpAny_load hS' (ac ?_));have hacc':acc'.toList=ord:=by
  apply List.ext_getElem?;intro j;rw [aY];by_cases hj:j<acc'.size
  ·have:=hacc.2 j acc'[j] (by simp [hj]);rw [this];simp [hj]
  ·rw [getElem?_neg acc' j hj,ca (by rw [<- hacc.1];omega)]
 rw [hacc'];obtain ⟨h3,g3,d3,t3,o3⟩:=s';obtain rfl:g3=s.gens:=hm.gens;obtain rfl:d3=d:=hm.drawn;obtain rfl:o3=s.os:=hm.os;have old:∀ b o,s.heap.get? b=some o->h3.get? b=some o:=fun b o e=>by
  have hb:=ap e;refine hm.heap b o ?_ (oth b o (aA hb) (kp b o (aa _ e)));simp only [aJ,aM,or_false,not_or];exact ⟨aA hb,aA (aD hb (by have q:=hI;rw [sz1] at q;exact Nat.le_of_succ_le q))⟩
 refine h ord h3 _ t3 pm old ?_;have:=ap (show h3.get? s.heap.objs.size=some _ from hS');exact bH this
theorem AB  (hc:ao (ar prog w) A.in1 (GV x) (fun vs s1=>∃ ss,qN vs ss/\vs.length<64 /\
   ∀ (h':bu) (vs':List a9) (ss':List Str) (e:Nat),(∀ b o,s1.heap.get? b=some o->h'.get? b=some o)->h'.get? s1.heap.objs.size=some (iD "list" vs'.toArray e)->qN vs' ss'->ss'.Perm ss->sortedS ss'=true ->
    Q (.ref s1.heap.objs.size) { s1 with heap:=h' }) E s):ao (ar prog w) A (call (.builtin "sorted") [x]) Q E s:=by
 refine ma kind_sorted plain_sorted entry_sorted (args_sorted1 _) ?_;unfold ii.«sorted»;refine a7 (m:=checkCount "sorted" 1 1 _) (ac ?_);refine a7 (aO hc (fun vs s1 z=>?_) fun _ _ z=>z);obtain ⟨ss,hss,h64,hq⟩:=z;refine a7 (F4 ?_);have at1:(s1.heap.push (iD "list" vs.toArray 0)).get? s1.heap.objs.size=some (iD "list" vs.toArray 0):=aw _ rfl;show ao _ _ _ _ _ { s1 with heap:=s1.heap.push (iD "list" vs.toArray 0) };refine a7 (cE (bR slot_list_sort ⟨_,at1,rfl⟩ entry_list_sort (list_sort_treeK strKind_oneLt at1 hss.keysOf (fun v₁ v₂ bA e=>keyKind_strs (by rw [<- e];exact hss)) h64 fun st' a1 a2=>⟨_,rfl,?_⟩) (args_list_sort _)));obtain ⟨ss',p1,p2,p3⟩:=sorted_out_str hss a1 a2;obtain ⟨e,at2⟩:=sortedHeap_at (out:=(aI st').map (·.2)) at1;refine ac ⟨_,rfl,hq _ _ ss' e (fun b o q=>?_) at2 p1 p2 p3⟩;have hb:=ap q;rw [sortedHeap_old (aA hb) (by rw [bF];exact cG hb)];exact aa _ q
end
end
section
def qk (x y:Str):Bool:=decide (x.cps.toList<y.cps.toList)
def CL (x:Str):List Str->List Str
 |[]=>[x]
 |y::r=>if qk y x then y::CL x r else x::y::r
def j3:List Str->List Str
 |[]=>[]
 |x::r=>CL x (j3 r)
theorem tW (x:Str):∀ l,(CL x l).Perm (x::l)
 |[]=>.refl _
 |y::r=>by
  rw [CL];split
  ·exact ((tW x r).cons y).trans (.swap ..)
  ·exact .refl _
theorem ik:∀ l,(j3 l).Perm l
 |[]=>.refl _
 |x::r=>(tW x _).trans ((ik r).cons x)
theorem vO (x:Str):qk x x=false:=decide_eq_false (List.lt_irrefl _)
theorem tX (h1:qk x y=true) (h2:qk y z=true):qk x z=true :=
 decide_eq_true (List.lt_trans (of_decide_eq_true h1) (of_decide_eq_true h2))
theorem vf (h1:qk x y=false) (h2:qk y x=false):x=y:=by
 have h1:¬ x.cps.toList<y.cps.toList:=of_decide_eq_false h1;have h2:¬ y.cps.toList<x.cps.toList:=of_decide_eq_false h2;have:x.cps.toList=y.cps.toList:=List.le_antisymm (List.not_lt.mp h2) (List.not_lt.mp h1)
 cases x;cases y;exact congrArg Str.mk (Array.toList_inj.mp this)
abbrev KD (l:List Str):Prop:=l.Pairwise fun a b=>qk b a=false
theorem HX (x:Str):∀ l,KD l->KD (CL x l)
 |[],_=>by simp [CL,KD]
 |y::r,h=>by
  obtain ⟨h1,h2⟩:=List.pairwise_cons.mp h;rw [CL];split
  ·rename_i hy
   refine List.pairwise_cons.mpr ⟨fun z hz=>?_,HX x r h2⟩;rcases List.mem_cons.mp ((tW x r).mem_iff.mp hz) with e|e
   ·subst e;cases q:qk z y with
    |false=>rfl
    |true=>exact absurd (tX q hy) (by rw [vO];decide)
   ·exact h1 z e
  ·rename_i hy
   have hy:qk y x=false:=by simpa using hy
   refine List.pairwise_cons.mpr ⟨fun z hz=>?_,h⟩;rcases List.mem_cons.mp hz with e|e
   ·subst e;exact hy
   ·cases q:qk z x with
    |false=>rfl
    |true =>
     have hzy:=h1 z e;cases q2:qk x y with
     |true=>rw [tX q q2] at hzy;cases hzy
     |false=>rw [<- vf hy q2,hzy] at q;cases q
theorem si:∀ l,KD (j3 l)
 |[]=>.nil
 |x::r=>HX x _ (si r)
theorem sj:∀ (p:Str) (l:List Str),risingS p l=true->KD (p::l)
 |p,[],_=>by simp [KD]
 |p,x::r,h=>by
  rw [risingS,aT] at h;obtain ⟨h1,h2⟩:=h;have h1:qk x p=false:=by
   rw [ltCps_eq] at h1;simpa [qk] using h1
  have ih:=sj x r h2;refine List.pairwise_cons.mpr ⟨fun z hz=>?_,ih⟩;rcases List.mem_cons.mp hz with e|e
  ·rw [e];exact h1
  ·have hzx:=(List.pairwise_cons.mp ih).1 z e;cases q:qk z p with
   |false=>rfl
   |true =>
    cases q2:qk p x with
    |true=>rw [tX q q2] at hzx;cases hzx
    |false=>rw [vf q2 h1,hzx] at q;cases q
theorem zf:∀ (l:List Str),sortedS l=true->KD l
 |[],_=>.nil
 |x::r,h=>sj x r h
theorem y0:∀ {l l':List Str},l.Perm l'->KD l->KD l'->l=l'
 |[],l',p,_,_=>by rw [List.nil_perm.mp p]
 |x::r,[],p,_,_=>by have:=p.length_eq;simp at this
 |x::r,y::r',p,h,h'=>by
  obtain ⟨a1,a2⟩:=List.pairwise_cons.mp h;obtain ⟨b1,b2⟩:=List.pairwise_cons.mp h';have e:x=y:=by
   have hx:x∈y::r':=p.mem_iff.mp al;have hy:y∈x::r:=p.mem_iff.mpr al;rcases List.mem_cons.mp hx with e|e
   ·exact e
   ·rcases List.mem_cons.mp hy with e' | e'
    ·exact e'.symm
    ·exact vf (b1 x e) (a1 y e')
  subst e;rw [y0 (List.Perm.cons_inv p) a2 b2]
theorem AC (p:l'.Perm l) (h:sortedS l'=true):l'=j3 l:=y0 (p.trans (ik l).symm) (zf _ h) (si l)
theorem y6 (h:KD l) (nd:l.Nodup):l.Pairwise fun a b=>qk a b=true:=by
 induction l with
 |nil=>exact .nil
 |cons x r ih =>
  obtain ⟨a1,a2⟩:=List.pairwise_cons.mp h;obtain ⟨n1,n2⟩:=List.nodup_cons.mp nd;refine List.pairwise_cons.mpr ⟨fun y hy=>?_,ih a2 n2⟩;cases q:qk x y with
  |true=>rfl
  |false=>exact absurd (vf q (a1 y hy) ▸ hy) n1
theorem kq:∀ {ss:List Str}{us:List a9},dg (ss.map V.str) us->qN us ss
 |[],_,.nil=>.nil
 |x::r,_,.cons h t=>by obtain ⟨tk,rfl⟩:=h;exact .cons x tk (kq t)
theorem ny:∀ {ss:List Str}{us:List a9},qN us ss->dg (ss.map V.str) us
 |_,_,.nil=>.nil
 |_,_,.cons x t h=>.cons ⟨t,rfl⟩ (ny h)
theorem eZ:∀ {ss:List Str}{us:List a9},qN us ss->us.length=ss.length
 |_,_,.nil=>rfl
 |_,_,.cons x t h=>by simp [eZ h]
theorem vP  (h:qN us ss) (i:Nat) (v:a9) (e:us[i]?=some v):∃ x t,ss[i]?=some x/\v=iC x t:=by
 induction h generalizing i with
 |nil=>simp at e
 |cons y t _ ih =>
  cases i with
  |zero=>simp at e;exact ⟨y,t,by simp,e.symm⟩
  |succ i=>simp at e;simpa using ih i e
theorem sk:∀ {l:List (Int×a9)},(∀ e∈l,vN w e)->qN (l.map (·.2)) (l.map CH)
 |[],_=>.nil
 |e::r,h=>by
  obtain ⟨x,tk,rfl⟩:=h e al;exact .cons x tk (sk fun e he=>h e (ai _ he))
theorem zg  (h:qN us ss) (p:us'.Perm us):∃ ss',qN us' ss'/\ss'.Perm ss:=by
 refine ⟨us'.map strOf,strsAre_map _ fun v hv=>h.all v (p.mem_iff.mp hv),?_⟩;rw [<- h.strs];exact p.map _
def lF (w:bn) (a:ah) (ss:List Str):HO:=.ext fun h=>kh w h a ss
theorem zh      (x:kh w h a ss):dE P w H h a (lF w a ss) :=
 ⟨x,let ⟨_,_,_,I,_⟩:=x;⟨_,I.at_⟩,fun _ _ y k=>y.keep k⟩
section
theorem AD (hc:X.calm=true):jv X (.type "set") (fun xs H Q=>∃ p ss,xs=[.ref p]/\(lz X.K H p (ss.map V.str)\/jR X.K H p (ss.map V.str))/\ss.length+1<gx/\∀ a,H a=none->Q (.ref a) (upd H a (lF X.w a (bW [] ss)))):=by
 intro pins s σ H xs us Q I r h;obtain ⟨p,ss,rfl,hq,hz,q⟩:=h;obtain ⟨u,rfl,rx⟩:=kj r;cases rx;have hh:=I.ok.hd hc;have fin:∀ (h':bu) (tk:Nat),kh X.w h' s.heap.objs.size (bW [] ss)->(∀ b o,s.heap.get? b=some o->h'.get? b=some o)->EP X pins σ Q (.ref s.heap.objs.size) { s with heap:=h',toks:=tk }:=fun h' tk hS kp =>
  ⟨.ref s.heap.objs.size,_,I.laid (t':=tk) kp (am _) (zh hS),rfl,q _ (I.hok.fresh (am _))⟩
 rcases hq with hq|hq
 ·obtain ⟨its,r',⟨o,n,ho,h1,h2,h3⟩,_⟩:=I.list hq;have sa:=kq r';exact se (HS (by simpa using hh) h1 ⟨n,h3⟩) ho (fun i v e=>vP sa i v (by simpa using e)) (by simp [eZ sa]) (by simp [eZ sa];exact hz) fin
 ·obtain ⟨its,r',⟨o,ho,h1,n,h3⟩,_⟩:=I.tuple hq;have sa:=kq r';exact se (LF (by simpa using hh) h1 ⟨n,h3⟩) ho (fun i v e=>vP sa i v (by simpa using e)) (by simp [eZ sa]) (by simp [eZ sa];exact hz) fin
theorem tY:jv X (.builtin "sorted") (fun xs H Q=>∃ p ss,xs=[.ref p]/\lz X.K H p (ss.map V.str)/\ss.length<64/\∀ l,H l=none->Q (.ref l) (upd H l (.lst ((j3 ss).map V.str)))):=by
 intro pins s σ H xs us Q I r h;obtain ⟨p,ss,rfl,hq,hz,q⟩:=h;obtain ⟨u,rfl,rx⟩:=kj r;cases rx;obtain ⟨its,r',pl,hl⟩:=I.list hq;have sa:=kq r';refine sorted_strs pl.isList sa (by rw [eZ sa];exact hz) fun out ss' a1 a2 a3=>?_;obtain ⟨e,he⟩:=sortedAll_at s.heap its out;have kp:∀ b o,s.heap.get? b=some o->(sortedAll s.heap its out).get? b=some o:=fun b o=>sortedAll_old;obtain rfl:=AC a2 a3;refine ⟨.ref (s.heap.objs.size+1),upd H (s.heap.objs.size+1) (.lst ((j3 ss).map V.str)),I.laid (t':=s.toks) kp (fh _) (show dE X.prog X.w _ _ _ (.lst _) from ⟨?_,out.toList,e,ny a1,by simpa [iD] using he⟩),rfl,q _ (I.hok.fresh (fh _))⟩;rw [au,(ik ss).length_eq];have:=hl;rw [au] at this;exact this
theorem uN (hc:X.calm=true):jv X (.builtin "sorted") (fun xs H Q=>∃ p ss,xs=[.ref p]/\H p=some (lF X.w p ss)/\ss.length<64/\∀ l,H l=none->Q (.ref l) (upd H l (.lst ((j3 ss).map V.str)))):=by
 intro pins s σ H xs us Q I r h;obtain ⟨p,ss,rfl,hq,hz,q⟩:=h;obtain ⟨u,rfl,rx⟩:=kj r;cases rx;have hh:=I.ok.hd hc;obtain ⟨⟨es,ep,t,S,pm⟩,_⟩:=(show dE X.prog X.w H s.heap p (lF X.w p ss) from I.hok p _ hq);refine AB (AA (by simpa using hh) S fun ord h' d tk po kp sz=>?_);obtain ⟨ss1,sa,p1⟩:=zg (sk S.txt) po;have ln:ss1.length=ss.length:=(p1.trans pm).length_eq;refine ⟨ss1,sa,by rw [eZ sa,ln];exact hz,fun h2 vs' ss' e kp2 at2 sa2 p2 s2=>?_⟩;have kk:∀ b o,s.heap.get? b=some o->h2.get? b=some o:=fun b o e=>kp2 b o (kp b o e);have es':ss'=j3 ss:=AC (p2.trans (p1.trans pm)) s2;subst es';have fr:=I.hok.fresh sz;have ok2:dE X.prog X.w (upd H h'.objs.size (.lst ((j3 ss).map V.str))) h2 h'.objs.size (.lst ((j3 ss).map V.str)) :=
  ⟨by rw [au,(ik ss).length_eq];exact bM (bH hz) (by rw [h_];decide),vs',e,ny sa2,at2⟩
 exact ⟨.ref h'.objs.size,_,I.call' (s':={ s with heap:=h2,drawn:=d,toks:=tk }) (ch:=[]) rfl (Un.laid kk sz fr) (I.hok.laid kk sz ok2) I.bare (fun b z=>absurd z (by simp)),rfl,q _ fr⟩
end
end
section
section
theorem uv {prog:aS}{w:bn}{B:bv}{bs:List Bool}{its:List a9} (r:dg (bs.map V.bl) its):TruthOf prog w B (fun i v=>its.toArray[i]?=some v) (fun i=>bs.getD i false):=by
 intro i v s Q E hv hq;have hv:its[i]?=some v:=by simpa using hv
 have hl:=r.length;rw [au] at hl;obtain ⟨hi,_⟩:=List.getElem?_eq_some_iff.mp hv;have hb:bs[i]?=some bs[i]:=bq (by omega);obtain ⟨u,hu,ru⟩:=r.get (i:=i) (x:=.bl bs[i]) (by rw [aW,hb];rfl);rw [hv] at hu;cases hu;cases ru;have hq:Q (bs.getD i false) s:=hq;rw [fo,hb] at hq;exact cL hq
theorem HY (bs:List Bool):(bY bs.length).all (fun i=>bs.getD i false)=bs.all id:=by
 rw [wX,cY,cY];constructor
 ·intro h b hb;obtain ⟨i,hi,rfl⟩:=F5 hb;have:=h i (List.mem_range.mpr hi);simpa [fo,hi] using this
 ·intro h i hi;have hi:=List.mem_range.mp hi;have:=h bs[i] (jY hi);simpa [fo,hi] using this
theorem HZ (bs:List Bool):(bY bs.length).any (fun i=>bs.getD i false)=bs.any id:=by
 rw [wX,uZ,uZ];constructor
 ·rintro ⟨i,hi,h⟩;have hi:=List.mem_range.mp hi;exact ⟨bs[i],jY hi,by simpa [fo,hi] using h⟩
 ·rintro ⟨b,hb,h⟩;obtain ⟨i,hi,rfl⟩:=F5 hb;exact ⟨i,List.mem_range.mpr hi,by simpa [fo,hi] using h⟩
theorem vQ (hc:X.calm=true):jv X (.builtin "all") (fun xs H Q=>∃ p,∃ bs:List Bool,xs=[.ref p]/\lz X.K H p (bs.map V.bl)/\Q (.bl (bs.all id)) H):=by
 intro pins s σ H xs us Q I r h;obtain ⟨p,bs,rfl,hq,q⟩:=h;obtain ⟨u,rfl,rx⟩:=kj r;cases rx;obtain ⟨its,r',pl,hl⟩:=I.list hq;have ln:its.toArray.size=bs.length:=by have:=r'.length;simp at this ⊢;omega
 obtain ⟨o,ho,hk⟩:=pl.isList;refine call_all_walk (j_ pl.isList ⟨_,_,_,_,_,_,_,rfl,xg (by simpa using I.ok.hd hc) _ p (aA (ap ho)) its.toArray,⟨⟨_,aw _ rfl,rfl,rfl⟩,pl.isList.push _⟩,uv r',fun h' tk kp=>?_⟩);rw [ln,HY];refine ⟨.bl _,H,I.kept (t':=tk) fun b o e=>kp b o ?_ (aa _ e),rfl,q⟩;simp only [bZ];exact aA (ap e)
theorem vR (hc:X.calm=true):jv X (.builtin "any") (fun xs H Q=>∃ p,∃ bs:List Bool,xs=[.ref p]/\lz X.K H p (bs.map V.bl)/\Q (.bl (bs.any id)) H):=by
 intro pins s σ H xs us Q I r h;obtain ⟨p,bs,rfl,hq,q⟩:=h;obtain ⟨u,rfl,rx⟩:=kj r;cases rx;obtain ⟨its,r',pl,hl⟩:=I.list hq;have ln:its.toArray.size=bs.length:=by have:=r'.length;simp at this ⊢;omega
 obtain ⟨o,ho,hk⟩:=pl.isList;refine call_any_walk (j_ pl.isList ⟨_,_,_,_,_,_,_,rfl,xg (by simpa using I.ok.hd hc) _ p (aA (ap ho)) its.toArray,⟨⟨_,aw _ rfl,rfl,rfl⟩,pl.isList.push _⟩,uv r',fun h' tk kp=>?_⟩);rw [ln,HZ];refine ⟨.bl _,H,I.kept (t':=tk) fun b o e=>kp b o ?_ (aa _ e),rfl,q⟩;simp only [bZ];exact aA (ap e)
theorem FB:qh X (bG .LtE) (fun x y H Q=>∃ i j,x=.str i/\y=.str j/\Q (.bl (!decide (j.cps.toList<i.cps.toList))) H):=by
 intro pins s σ H x y v u Q I rx ry h;obtain ⟨i,j,rfl,rfl,q⟩:=h;obtain ⟨t,rfl⟩:=rx;obtain ⟨t',rfl⟩:=ry;exact PySem.P.le_str (Hu I q rfl)
end
end
section
def Qh (x:Str):It:=⟨fun i _=>i<x.cps.size,fun i H v H'=>H'=H/\∃ c,x.cps[i]?=some c/\v=.str ⟨#[c]⟩,fun i _=>x.cps.size<=i⟩
theorem H_ {P:aS}{w:bn}{K:a8}{tg:a_} (x:Str) (t:Tok) (it:ah):tS P w K tg (Qh x) [it] it (fun i h=>h.IsStrIter it (i6 x) x t i) where
 mem:=by simp
 obj:=fun i h st b hb=>by
  obtain rfl:b=it:=by simpa using hb
  obtain ⟨o,e,c,d⟩:=st;exact ⟨o,e,fun v z=>by rw [d] at z;cases z⟩
 keep:=fun i h h' st k=>let ⟨o,e,r⟩:=st;⟨o,k it (by simp) o e,r⟩
 item:=by
  intro X hP hw hK hc i pins s σ H E I hf st hg;subst hP hw hK;have hg:i<x.cps.size:=hg;obtain ⟨f0,f1,f2,f3,f4,f5⟩:=hf it (by simp);have hx:x.cps[i]?=some x.cps[i]:=getElem?_pos _ i hg;have go:∀ (h':bu) (tk tk':Nat),h'.IsStrIter it (i6 x) x t (i+1)->bT it s.heap h'->∃ u,some (iC ⟨#[x.cps[i]]⟩ tk)=some u /\
    ao (ar X.prog X.w) X.A (cB tg (.ref it) u) (fun _ s2=>∃ v H',bz X pins σ H' s2/\cX v u/\(Qh x).yld i H v H'/\s2.heap.IsStrIter it (i6 x) x t (i+1)/\∀ b∈[it],H' b=none) E { s with heap:=h',toks:=tk' }:=fun h' tk tk' st' sb=>by
   have I1:bz X pins σ H { s with heap:=h',toks:=tk' }:=I.turned (fun b o hb e=>(sb.2 b hb).trans e) f0 f1 f3 f4 f5;refine ⟨_,rfl,?_⟩;have q:∃ v H',bz X pins σ H' { s with heap:=h',toks:=tk' }/\cX v (iC ⟨#[x.cps[i]]⟩ tk)/\(Qh x).yld i H v H'/\h'.IsStrIter it (i6 x) x t (i+1)/\∀ b∈[it],H' b=none :=
    ⟨.str ⟨#[x.cps[i]]⟩,H,I1,⟨tk,rfl⟩,⟨rfl,_,hx,rfl⟩,st',fun b hb=>(hf b hb).1⟩
   unfold cB;cases tg<;>exact ac q
  cases ha:x.cps.all (·<128)
  ·have ty:i6 x="str_iterator":=by unfold i6;rw [ha];rfl
   rw [ty] at st;exact wpAny_pyNext_wide_item st hx fun h' st' sb=>go h' _ _ (by rw [ty];exact st') sb
  ·have ty:i6 x="str_ascii_iterator":=by unfold i6;rw [ha];rfl
   rw [ty] at st;exact wpAny_pyNext_ascii_item st hx fun h' st' sb=>go h' _ _ (by rw [ty];exact st') sb
 done:=by
  intro X hP hw hK hc i pins s σ H E I hf st hg;subst hP hw hK;have hg:x.cps.size<=i:=hg;obtain ⟨f0,f1,f2,f3,f4,f5⟩:=hf it (by simp);have hx:x.cps[i]?=none:=getElem?_neg _ i (Nat.not_lt.mpr hg);unfold i6 at st;cases ha:x.cps.all (·<128)
  ·rw [ha] at st;exact wpAny_pyNext_wide_end (I.ok.hd hc) st hx fun h' eb=>⟨rfl,I.turned (t':=s.toks) (fun b o hb e=>eb b o hb e) f0 f1 f3 f4 f5⟩
  ·rw [ha] at st;exact wpAny_pyNext_ascii_end (I.ok.hd hc) st hx fun h' eb=>⟨rfl,I.turned (t':=s.toks) (fun b o hb e=>eb b o hb e) f0 f1 f3 f4 f5⟩
 self:=fun _ _ _ _ _ st h=>by
  unfold i6 at st;cases ha:x.cps.all (·<128)
  ·rw [ha] at st;exact wpAny_pyIter_striter_wide st h
  ·rw [ha] at st;exact wpAny_pyIter_striter_ascii st h
def Sh (tl:TE):TI:=fun σ H R=>tl σ H fun v H1=>∃ x,v=.str x/\R (Qh x) H1
theorem I0 {X:Cx}{tg l:a_}{tl:TE} (hl:PE X l tl):PI X tg l (Sh tl):=by
 intro pins s σ H R I h;refine dX (hl pins s σ H _ I h) fun v s1 h_0=>?_;obtain ⟨y,H1,I1,r1,q1⟩:=h_0;obtain ⟨x,rfl,q⟩:=q1;obtain ⟨t,rfl⟩:=r1;refine wpAny_pyIter_strU ?_;refine ⟨s1.heap.objs.size,[s1.heap.objs.size],_,_,H1,rfl,I1.kept (t':=s1.toks) fun b o e=>aa _ e,H_ x t _,⟨_,aw _ rfl,rfl,rfl⟩,fun b hb=>?_,q⟩;obtain rfl:b=s1.heap.objs.size:=by simpa using hb
 exact I1.fpOk (am _) (I1.hok.fresh (am _))
end
section
section
theorem bz.turnedL {t':Nat}{ch:List ah} (I:bz X pins σ H s) (k:∀ b o,b∉ch->s.heap.get? b=some o->h'.get? b=some o) (hf:∀ b∈ch,jS X pins H b):bz X pins σ H { s with heap:=h',toks:=t' }:=by
 have nt:∀ b u,H b=some u->b∉ch:=fun b u e z=>by rw [(hf b z).1] at e;cases e
 refine I.step (g':=s.gens) (d':=s.drawn) (ch:=ch) (fun b hb=>?_) (fun b o _ _ hc e _=>k b o hc e) (fun b o _ _ hc e _=>⟨o.slots,k b o hc e⟩) (fun _ _ _ _ n=>n)
  (fun b o hc e=>⟨o,k b o hc e⟩) (fun _ _ e=>e) (fun _ _ _ e=>e) (fun b ps e=>⟨#[],by rw [e];simp⟩) (fun m hm=>?_) (fun b u e=>?_) I.bare
 ·obtain ⟨f0,f1,f2,f3,f4,f5⟩:=hf b hb;exact ⟨f3,f1,f4,f5⟩
 ·obtain ⟨o,es,ep,ho,r⟩:=hm;exact ⟨o,es,ep,k _ o (fun z=>(hf _ z).f1 rfl) ho,r⟩
 ·refine (I.hok b u e).stay (fun c v hc q=>k c v ?_ q) (fun _ q=>q) fun _ _ q=>q;rcases hc with z|z
  ·rw [z];exact nt b u e
  ·exact nt c _ z
theorem bz.track  (I:bz X pins σ H s) (hf:jS X pins H D) (new:dE X.prog X.w (upd H D ho) s.heap D ho):bz X pins σ (upd H D ho) s:=by
 obtain ⟨f0,f1,f2,f3,f4,f5⟩:=hf;have I':bz X pins σ (upd H D ho) { s with heap:=s.heap,gens:=s.gens,drawn:=s.drawn,toks:=s.toks }:=I.step (ch:=[D]) (fun b hb=>by
   obtain rfl:b=D:=by simpa using hb
   exact ⟨f3,f1,f4,f5⟩) (fun b o _ _ _ e _=>e) (fun b o _ _ _ e _=>⟨o.slots,e⟩) (fun b o hc e n=>by rw [bh (fun z=>hc (by simp [z]))];exact n) (fun b o _ e=>⟨o,e⟩)
  (fun b xs e=>by rw [bh (bO e f0)];exact e) (fun b o xs e=>by rw [bh (bO e f0)];exact e) (fun b ps e=>⟨#[],by rw [bh (bO e f0),e];simp⟩) (fun m hm=>hm) (mO I.hok f0 new) I.bare
 exact I'
end
section
theorem sr  (ti:s.heap.IsTupleIter it l i) (tl:s.heap.IsTuple l items) (hx:items[i]?=some x)
  (q:∀ h',h'.IsTupleIter it l (i+1)->bT it s.heap h'->Q x { s with heap:=h' }):ao (ar prog w) A (c7 (.ref it)) Q E s:=by
 obtain ⟨oi,ei,ci,di⟩:=id ti;obtain ⟨ot,et,_,nt,dt⟩:=tl;unfold c7;refine a7 (cV (name:=iH "__next__") ti.typeIs iI ?_);refine bR iI ti.typeIs Aa ?_ (yQ _);show ao _ _ (Ci (.ref it) 0 >>= _) _ _ s;refine a7 (dn ei di (x:=.ref l) rfl ?_);show ao _ _ (if (bt l==eM)=true then _ else _) _ _ s;rw [if_neg (fun z:(bt l==eM)=true=>bj z)];show ao _ _ (Ci (.ref it) 1 >>= _) _ _ s;refine a7 (dn ei di (x:=.int i 0) rfl ?_);show ao _ _ (GE (.ref l) >>= _) _ _ s;refine a7 (e7 et dt ?_);simp only [jx,hx];refine a7 (iQ ei di (by simp) (ac ⟨x,rfl,ac (q _ ?_ (cQ ..))⟩));refine ⟨_,i0 _ ei (Obj.isFreed_of_fields (GW di _)),(Obj.cls_mapFields ..).trans ci,?_⟩;rw [GW di];simp [b_]
theorem su (hh:A.handled=none) (ti:s.heap.IsTupleIter it l i) (tl:s.heap.IsTuple l items) (hx:items[i]?=none)
  (q:∀ h' e,Heap.ExtBut it s.heap h'->(∃ o,h'.get? e=some o/\o.cls=.type "StopIteration")->E (.ref e) { s with heap:=h' }):ao (ar prog w) A (c7 (.ref it)) Q E s:=by
 obtain ⟨oi,ei,ci,di⟩:=id ti;obtain ⟨ot,et,_,nt,dt⟩:=tl;unfold c7;refine a7 (cV (name:=iH "__next__") ti.typeIs iI ?_);refine bR iI ti.typeIs Aa ?_ (yQ _);show ao _ _ (Ci (.ref it) 0 >>= _) _ _ s;refine a7 (dn ei di (x:=.ref l) rfl ?_);show ao _ _ (if (bt l==eM)=true then _ else _) _ _ s;rw [if_neg (fun z:(bt l==eM)=true=>bj z)];show ao _ _ (Ci (.ref it) 1 >>= _) _ _ s;refine a7 (dn ei di (x:=.int i 0) rfl ?_);show ao _ _ (GE (.ref l) >>= _) _ _ s;refine a7 (e7 et dt ?_);simp only [jx,hx];refine a7 (cg (a7 (iQ ei di (by simp) ?_)));show ao _ _ (vA (.type "StopIteration") [] >>= _) _ _ _;refine a7 ?_;simp only [vA,newTuple];refine a7 (c6 ?_ (by size_fits));refine a7 (m:=tL _ _) (A9 (a:=eM) ?_ ?_)
 ·first
   |rfl
   |(simp only [tL];rfl)
 refine c6 ?_ (by size_fits);simp only [tK];refine a7 (wpAny_handled ?_);rw [show A.in1.handled=none from hh];refine a7 (ac (wpAny_throw ?_));exact q _ _ (((cQ ..).extBut.push _).push _) ⟨_,aw _ rfl,rfl⟩
theorem FC (hh:A.handled=none) (it l:ah) (hne:l≠it) (items:Array a9) :
  Draws prog w A it [it,l] items.size (fun i v=>items[i]?=some v) (fun i h=>h.IsTupleIter it l i/\h.IsTuple l items) where
 live:=fun i h st=>let ⟨o,e,_⟩:=st.1;⟨o,e⟩
 frame:=fun i h h' st k=>⟨let ⟨o,e,r⟩:=st.1;⟨o,k it (by simp) o e,r⟩,let ⟨o,e,r⟩:=st.2;⟨o,k l (by simp) o e,r⟩⟩
 item:=fun i s Q E hi st q=>sr st.1 st.2 (x:=items[i]) (by simp [hi]) fun h' t' sb=>q _ h' s.toks (by simp [hi]) ⟨t',st.2.extBut sb.extBut hne⟩ sb
 done:=fun s Q E st q=>su hh st.1 st.2 (by simp) q
end
theorem vS (l:ah) (items:Array a9) (n:Nat) (dct:Option ah) (sl:Array (Option a9)) :
  Meets (ii.«enumerate.__new__» ⟨[.type "enumerate",.ref l],[]⟩) (fun _ R s=>s.heap.get? l=some { cls:=.type "tuple",dict:=dct,data:=.seq items n,slots:=sl } /\
   R (.ok (.ret (.ref (s.heap.push { cls:=.type "tuple_iterator",data:=.fields #[.ref l,.int 0 0] }).objs.size)))
    { s with heap:=(s.heap.push { cls:=.type "tuple_iterator",data:=.fields #[.ref l,.int 0 0] }).push { cls:=.type "enumerate",data:=.fields #[.none,.bool false,.ref s.heap.objs.size,b_ 0,.none,.none] } }) :=
 .of_wp fun prog w A R s h=>by
  obtain ⟨hp,g,d,tk,os⟩:=s;obtain ⟨hl,h⟩:=h;have hsub:=PySem.sub_enumerate;have hL:C5 (C6 ⟨hp,g,d,tk,os⟩) l items:=⟨_,hl,rfl,n,rfl⟩;wp_walk using fD hl;refine wpAny_stack_any fun st=>ac ?_;split
  ·rename_i c _ _ _ _ _
   cases (c==iq "enumerate")
   ·wp_walk using fD hl,fN hL;exact ⟨_,rfl,h⟩
   ·wp_walk using fD hl,fN hL;exact ⟨_,rfl,h⟩
  ·wp_walk using fD hl,fN hL;exact ⟨_,rfl,h⟩
end
section
section
theorem xr   (hL:s.heap.IsTuple l items)
  (h:∀ h',IsEnum h' (s.heap.objs.size+1) s.heap.objs.size 0 .none->h'.IsTupleIter s.heap.objs.size l 0->(∀ b o,s.heap.get? b=some o->h'.get? b=some o)->h'.objs.size=s.heap.objs.size+2 ->
   Q (.ref (s.heap.objs.size+1)) { s with heap:=h' }):ao (ar prog w) A (call (.type "enumerate") [.ref l]) Q E s:=by
 obtain ⟨⟨c,dc,dt,sl⟩,hl,hc,n,hd⟩:=hL;obtain rfl:c=.type "tuple":=hc;obtain rfl:dt=.seq items n:=hd;refine callType_new F.called_enumerate (by decide) (F.typeCall_enumerate_1 _) (F.newCall_enumerate_1 _) (fun obj=>F.args_object_init_2 obj _) F.entry_enumerate_new (vS l items n dc sl) ⟨hl,?_⟩;have z1:(s.heap.push { cls:=.type "tuple_iterator",data:=.fields #[.ref l,.int 0 0] }).objs.size=s.heap.objs.size+1:=bF ..;show _/\_;rw [z1];have he:IsEnum ((s.heap.push { cls:=.type "tuple_iterator",data:=.fields #[.ref l,.int 0 0] }).push { cls:=.type "enumerate",data:=.fields #[.none,.bool false,.ref s.heap.objs.size,b_ 0,.none,.none] }) (s.heap.objs.size+1) s.heap.objs.size 0 .none:=by
  have q:=aw (s.heap.push { cls:=.type "tuple_iterator",data:=.fields #[.ref l,.int 0 0] }) (o:={ cls:=.type "enumerate",data:=.fields #[.none,.bool false,.ref s.heap.objs.size,b_ 0,.none,.none] }) rfl;rw [z1] at q;exact q
 exact ⟨⟨_,he,rfl⟩,h _ he ⟨_,aa _ (aw _ rfl),rfl,rfl⟩ (fun b o e=>aa _ (aa _ e)) (by rw [bF,z1])⟩
end
def Si (K:a8) (a:ah):It :=
 ⟨fun i H=>∃ xs x,jR K H a xs/\xs[i]?=some x,fun i H v H'=>∃ p,H p=none/\v=.ref p/\∀ xs,jR K H a xs->∃ x,xs[i]?=some x/\H'=upd H p (.tup [.int i,x]),fun i H=>∃ xs,jR K H a xs/\xs.length<=i⟩
theorem FD {P:aS}{w:bn}{K:a8}{elts:List a_}{x1}{pos:Pos} (a e it:ah) (hei:e≠it):tS P w K (.Tuple elts x1 pos) (Si K a) [e,it] e (fun i h=>(∃ old,IsEnum h e it i old)/\h.IsTupleIter it a i) where
 mem:=by simp
 obj:=fun i h st b hb=>by
  simp only [aJ,aM,or_false] at hb;rcases hb with rfl|rfl
  ·obtain ⟨⟨old,q⟩,_⟩:=st;exact ⟨_,q,fun v z=>by cases z⟩
  ·obtain ⟨_,o,q,_,d⟩:=st;exact ⟨o,q,fun v z=>by rw [d] at z;cases z⟩
 keep:=fun i h h' st k=>⟨let ⟨old,q⟩:=st.1;⟨old,k e (by simp) _ q⟩,let ⟨o,q,r⟩:=st.2;⟨o,k it (by simp) o q,r⟩⟩
 item:=by
  intro X hP hw hK hc i pins s σ H E I hf st hg;subst hP hw hK;obtain ⟨xs,x,hq,hx⟩:=hg;obtain ⟨its,rv,p,hz⟩:=I.tuple hq;obtain ⟨u,hu,ru⟩:=rv.get hx;obtain ⟨⟨old,he⟩,hit⟩:=st;have hit0:=hit;obtain ⟨oi,ei,_⟩:=hit0;have hai:a≠it:=fun z=>by
   obtain ⟨o1,e1,c1,_⟩:=p;obtain ⟨o2,e2,c2,_⟩:=hit;rw [z,e2] at e1;cases e1;rw [c2] at c1;exact absurd (DI c1) (by decide)
  have hae:a≠e:=fun z=>by
   obtain ⟨o1,e1,c1,_⟩:=p;rw [z,he] at e1;cases e1;exact absurd (DI (show iq "enumerate"=iq "tuple" from c1)) (by decide)
  have hlt:i<its.toArray.size:=by simp;exact (List.getElem?_eq_some_iff.mp hu).1
  have he0:=ap he;refine wpAny_pyNext_enum_itemD (FC (by simpa using I.ok.hd hc) it a hai its.toArray) he ⟨hit,p⟩ hlt hei (by simp [hei,cR hae]) ?_;intro x' h1 tk hx' eo st1 tup sz k1;have hx'':its[i]?=some x':=by simpa using hx'
  rw [hu] at hx'';cases hx'';refine ⟨_,rfl,Cj eo fun h2 e2 sb2=>?_⟩;have szn:s.heap.objs.size≠e:=dv he0;have I2:bz X pins σ H { s with heap:=h2,toks:=tk+1 }:=I.turnedL (ch:=[e,it]) (fun b o hb q=>by
   simp only [aJ,aM,or_false,not_or] at hb;exact (sb2.2 b hb.1).trans (k1 b o hb.1 hb.2 q)) hf
  have fT:=I.fpOk (H':=H) (am _) (I.hok.fresh (am _));have tup2:h2.get? s.heap.objs.size=some { cls:=.type "tuple",data:=.seq #[.int i tk,u] }:=(sb2.2 _ szn).trans tup;have I3:=I2.track (ho:=.tup [.int i,x]) fT ⟨by show 2<=sizeLine;decide,[.int i tk,u],.cons ⟨tk,rfl⟩ (.cons ru .nil),⟨_,tup2,rfl,0,rfl⟩⟩;refine ⟨.ref s.heap.objs.size,_,I3,rfl,⟨_,fT.1,rfl,fun ys hy=>?_⟩,⟨⟨u,?_⟩,?_⟩,fun b hb=>?_⟩
  ·rw [I.tuple_inj hy hq];exact ⟨x,hx,rfl⟩
  ·have:(((i+1:Nat):Int))=(i:Int)+1:=by omega
   rw [this];exact e2
  ·obtain ⟨o,q,r⟩:=st1.1;exact ⟨o,(sb2.2 it (cR hei)).trans q,r⟩
  ·rw [bh]
   ·exact (hf b hb).1
   ·simp only [aJ,aM,or_false] at hb;rcases hb with z|z
    ·rw [z];exact aA he0
    ·rw [z];exact aA (ap ei)
 done:=by
  intro X hP hw hK hc i pins s σ H E I hf st hg;subst hP hw hK;obtain ⟨xs,hq,hx⟩:=hg;obtain ⟨its,rv,p,hz⟩:=I.tuple hq;obtain ⟨⟨old,he⟩,hit⟩:=st;have hl:=rv.length;have hT:s.TypeIs (.ref e) "enumerate":=⟨_,he,rfl⟩;unfold iP;refine a7 (oB (cV (name:=iH "__next__") hT GF ?_));refine bR GF hT F.entry_enumerate_next ?_ (F.args_enumerate_next_1 _);show ao _ _ (Ci (.ref e) 2 >>= _) _ _ _;refine a7 (dn he rfl (x:=.ref it) rfl ?_);refine a7 (su (by simpa using I.ok.hd hc) hit (show s.heap.IsTuple a its.toArray from p) (by simp;omega) fun h' z eb hz'=>?_);obtain ⟨o,ho,hcl⟩:=hz';refine a7 (kR (T:="StopIteration") (b:=true) ⟨o,ho,hcl⟩ Ch ?_);exact ac ⟨rfl,I.turnedL (t':=s.toks) (ch:=[e,it]) (fun b o hb q=>eb b o (by
   simp only [aJ,aM,or_false,not_or] at hb;exact hb.2) q) hf⟩
 self:=fun _ _ _ _ _ st h=>let ⟨⟨_,q⟩,_⟩:=st;ou q h
def Qi (K:a8) (ta:TA):TI:=fun σ H R=>ta σ H fun vs H1=>∃ a xs,vs=[.ref a]/\jR K H1 a xs/\R (Si K a) H1
theorem LG {X:Cx}{elts:List a_}{x1}{tpos p pos:Pos}{a:a_}{ta:TA} (hg:Gl X "enumerate") (hm:X.mg "enumerate"=none) (ha:PA X [a] ta) (hs:aE [a] X.env=[(false,cj a X.env)]:=by rfl) :
  PI X (.Tuple elts x1 tpos) (.Call (.Name "enumerate" p) [a] [] pos) (Qi X.K ta):=by
 intro pins s σ H R I h;refine Call_ (oH I hg hm boot_enumerate (eI (dX (ha pos pins s σ H _ I h) fun us s1 ⟨vs,H1,I1,r1,q1⟩=>?_) hs rfl));obtain ⟨ad,xs,rfl,hq,q⟩:=q1;obtain ⟨u,rfl,rx⟩:=kj r1;cases rx;obtain ⟨its,rv,tp,hz⟩:=I1.tuple hq;refine xr (show s1.heap.IsTuple ad its.toArray from tp) fun h' e1 t1 kp sz=>?_;refine ou e1 ?_;have I2:bz X pins σ H1 { s1 with heap:=h' }:=I1.kept (t':=s1.toks) kp;refine ⟨s1.heap.objs.size+1,[s1.heap.objs.size+1,s1.heap.objs.size],_,_,H1,rfl,I2,FD ad _ _ (dv (cZ _)),⟨⟨.none,e1⟩,t1⟩,fun b hb=>?_,q⟩;simp only [aJ,aM,or_false] at hb;rcases hb with z|z
 ·rw [z];exact I1.fpOk (fh _) (I1.hok.fresh (fh _))
 ·rw [z];exact I1.fpOk (am _) (I1.hok.fresh (am _))
end
section
section
variable {prog:aS}{w:bn}{A:bv}{E:a9->ae->Prop}{s:ae}{z TI TO i1 i2 l1 l2:ah}{k1 k2:Nat}{xs ys:Array a9}{x y a b:a9}
theorem iS    (t:h.IsTupleIter it l k) (sb:bT c h h') (ne:it≠c):h'.IsTupleIter it l k:=t.extBut sb.extBut ne
theorem nz    (t:h.IsTuple l xs) (sb:bT c h h') (ne:l≠c):h'.IsTuple l xs:=t.extBut sb.extBut ne
theorem Ib {Q:a9->ae->Prop} (D:KY z TI TO i1 i2 l1 l2) (za:tM s.heap z TI TO .none) (pa:jz s.heap TI (.ref i1) (.ref i2)) (pb:jz s.heap TO a b)
  (u1:s.heap.IsTupleIter i1 l1 k1) (u2:s.heap.IsTupleIter i2 l2 k2) (v1:s.heap.IsTuple l1 xs) (v2:s.heap.IsTuple l2 ys) (hx:xs[k1]?=some x) (hy:ys[k2]?=some y)
  (q:∀ h',tM h' z TI TO (b_ s.heap.objs.size)->jz h' TO x y->h'.IsTupleIter i1 l1 (k1+1)->h'.IsTupleIter i2 l2 (k2+1)->jz h' s.heap.objs.size x y ->
   (∀ c o,c≠z->c≠TO->c≠i1->c≠i2->s.heap.get? c=some o->h'.get? c=some o)->Q (.ref s.heap.objs.size) { s with heap:=h' }) :
  ao (ar prog w) A (ii.«zip.__next__» ⟨[.ref z],[]⟩) (fun fin s'=>∃ v,fin=.done (.ret v)/\Q v s') E s:=by
 show ao _ _ (Ci (.ref z) 2 >>= _) _ _ _;refine a7 (dn za rfl (x:=.bool false) rfl ?_);show ao _ _ (Ci (.ref z) 3 >>= _) _ _ _;refine a7 (dn za rfl (x:=.ref TI) rfl ?_);refine a7 (e7 pa rfl ?_);show ao _ _ (el (.ref z) >>= _) _ _ _;refine a7 ?_;unfold el;refine a7 (dn za rfl (x:=.none) rfl (ac ?_));simp only [if_true];refine a7 (cg ?_);refine a7 (dn za rfl (x:=.ref TO) rfl ?_);refine a7 (ij za (by simp) fun g1 z1 b1=>?_);replace z1:tM g1 z TI TO .ellipsis:=z1;refine a7 ?_;simp only [u_,KZ,j8,qv];refine a7 (a7 (v5 ?_));show ao _ _ (c7 (.ref i1) >>= _) _ _ _;refine a7 (sr (iS u1 b1 D.i1z) (nz v1 b1 D.l1z) hx fun g2 w1 b2=>ac ?_);have p2:jz g2 TO a b:=b2.extBut _ _ D.TOi1 (b1.extBut _ _ D.TOz pb);refine a7 (e7 p2 rfl (a7 (tN p2 fun g3 p3 b3=>?_)));replace p3:jz g3 TO x b:=p3;refine a7 (K_ (ac (a7 (a7 (v5 ?_)))));show ao _ _ (c7 (.ref i2) >>= _) _ _ _;refine a7 (sr (iS (iS (iS u2 b1 D.i2z) b2 D.i12.symm) b3 D.TOi2.symm) (nz (nz (nz v2 b1 D.l2z) b2 D.l2i1) b3 D.l2TO) hy fun g4 w2 b4=>ac ?_);have p4:jz g4 TO x b:=b4.extBut _ _ D.TOi2 p3;refine a7 (e7 p4 rfl (a7 (tN p4 fun g5 p5 b5=>?_)));replace p5:jz g5 TO x y:=p5;refine a7 (K_ (ac (ac ?_)));refine a7 (e7 p5 rfl (a7 (wpAny_newTuple ?_)));have sz:g5.objs.size=s.heap.objs.size:=by rw [b5.1,b4.1,b3.1,b2.1,b1.1]
 have z5:tM g5 z TI TO .ellipsis:=b5.extBut _ _ D.TOz.symm (b4.extBut _ _ D.i2z.symm (b3.extBut _ _ D.TOz.symm (b2.extBut _ _ D.i1z.symm z1)));have k5:∀ c o,c≠z->c≠TO->c≠i1->c≠i2->s.heap.get? c=some o->g5.get? c=some o:=fun c o n1 n2 n3 n4 e =>
  b5.extBut _ _ n2 (b4.extBut _ _ n4 (b3.extBut _ _ n2 (b2.extBut _ _ n3 (b1.extBut _ _ n1 e))))
 have y1:g5.IsTupleIter i1 l1 (k1+1):=iS (iS (iS w1 b3 D.TOi1.symm) b4 D.i12) b5 D.TOi1.symm;have y2:g5.IsTupleIter i2 l2 (k2+1):=iS w2 b5 D.TOi2.symm;have zl:z<g5.objs.size:=ap z5;show ao _ _ (lJ (.ref z) (.ref g5.objs.size) >>= _) _ _ _;refine a7 ?_;unfold lJ;have z6:tM (g5.push { cls:=.type "tuple",data:=.seq #[x,y] }) z TI TO .ellipsis:=aa _ z5;refine a7 (ij z6 (by simp) fun g7 z7 b7=>?_);replace z7:tM g7 z TI TO (b_ g5.objs.size):=z7;refine ij z7 (by simp) fun g8 z8 b8=>?_;replace z8:tM g8 z TI TO (b_ g5.objs.size):=z8;have up:∀ c o,c≠z->g5.get? c=some o->g8.get? c=some o:=fun c o n1 e=>b8.extBut _ _ n1 (b7.extBut _ _ n1 (aa _ e));have p8:jz g8 g5.objs.size x y:=b8.extBut _ _ (dv zl) (b7.extBut _ _ (dv zl) (aw _ rfl));rw [sz] at z8 p8;refine ac ⟨_,rfl,?_⟩;show Q (.ref g5.objs.size) _;rw [sz];exact q g8 z8 (up _ _ D.TOz p5) (let ⟨o,e,r⟩:=y1;⟨o,up _ o D.i1z e,r⟩) (let ⟨o,e,r⟩:=y2;⟨o,up _ o D.i2z e,r⟩) p8 fun c o n1 n2 n3 n4 e=>up c o n1 (k5 c o n1 n2 n3 n4 e)
theorem Ic (hh:A.handled=none) (D:KY z TI TO i1 i2 l1 l2) (za:tM s.heap z TI TO .none) (pa:jz s.heap TI (.ref i1) (.ref i2)) (pb:jz s.heap TO a b)
  (u1:s.heap.IsTupleIter i1 l1 k1) (u2:s.heap.IsTupleIter i2 l2 k2) (v1:s.heap.IsTuple l1 xs) (v2:s.heap.IsTuple l2 ys) (hend:xs[k1]?=none\/ys[k2]?=none)
  (q:∀ h' e,(∀ c o,c≠z->c≠TO->c≠i1->c≠i2->s.heap.get? c=some o->h'.get? c=some o)->(∃ o,h'.get? e=some o/\o.cls=.type "StopIteration")->E (.ref e) { s with heap:=h' }) :
  ao (ar prog w) A (ii.«zip.__next__» ⟨[.ref z],[]⟩) Q E s:=by
 show ao _ _ (Ci (.ref z) 2 >>= _) _ _ _;refine a7 (dn za rfl (x:=.bool false) rfl ?_);show ao _ _ (Ci (.ref z) 3 >>= _) _ _ _;refine a7 (dn za rfl (x:=.ref TI) rfl ?_);refine a7 (e7 pa rfl ?_);show ao _ _ (el (.ref z) >>= _) _ _ _;refine a7 ?_;unfold el;refine a7 (dn za rfl (x:=.none) rfl (ac ?_));simp only [if_true];refine a7 (cg ?_);refine a7 (dn za rfl (x:=.ref TO) rfl ?_);refine a7 (ij za (by simp) fun g1 z1 b1=>?_);replace z1:tM g1 z TI TO .ellipsis:=z1;refine a7 ?_;simp only [u_,KZ,j8,qv];refine a7 (a7 (v5 ?_));show ao _ _ (c7 (.ref i1) >>= _) _ _ _;cases hx:xs[k1]? with
 |none =>
  refine a7 (su hh (iS u1 b1 D.i1z) (nz v1 b1 D.l1z) hx fun g2 e b2 he=>?_);obtain ⟨oe,ee,ce⟩:=he;have z2:tM g2 z TI TO .ellipsis:=b2 _ _ D.i1z.symm z1;have ez:e≠z:=fun n=>by subst n;rw [z2] at ee;cases ee;simp at ce
  refine ij z2 (by simp) fun g3 _ b3=>q g3 e (fun c o n1 _ n3 _ m=>b3.extBut _ _ n1 (b2 _ _ n3 (b1.extBut _ _ n1 m))) ⟨oe,b3.extBut _ _ ez ee,ce⟩
 |some x =>
  have hy:ys[k2]?=none:=hend.resolve_left fun n=>by rw [hx] at n;cases n
  refine a7 (sr (iS u1 b1 D.i1z) (nz v1 b1 D.l1z) hx fun g2 w1 b2=>ac ?_);have p2:jz g2 TO a b:=b2.extBut _ _ D.TOi1 (b1.extBut _ _ D.TOz pb);refine a7 (e7 p2 rfl (a7 (tN p2 fun g3 p3 b3=>?_)));refine a7 (K_ (ac (a7 (a7 (v5 ?_)))));show ao _ _ (c7 (.ref i2) >>= _) _ _ _;refine a7 (su hh (iS (iS (iS u2 b1 D.i2z) b2 D.i12.symm) b3 D.TOi2.symm) (nz (nz (nz v2 b1 D.l2z) b2 D.l2i1) b3 D.l2TO) hy fun g4 e b4 he=>?_);obtain ⟨oe,ee,ce⟩:=he;have z4:tM g4 z TI TO .ellipsis:=b4 _ _ D.i2z.symm (b3.extBut _ _ D.TOz.symm (b2.extBut _ _ D.i1z.symm z1));have ez:e≠z:=fun n=>by subst n;rw [z4] at ee;cases ee;simp at ce
  refine ij z4 (by simp) fun g5 _ b5=>q g5 e (fun c o n1 n2 n3 n4 m=>b5.extBut _ _ n1 (b4 _ _ n4 (b3.extBut _ _ n2 (b2.extBut _ _ n3 (b1.extBut _ _ n1 m))))) ⟨oe,b5.extBut _ _ ez ee,ce⟩
end
abbrev Rw (h:bu) (l1:ah):bu:=h.push { cls:=.type "tuple_iterator",data:=.fields #[.ref l1,.int 0 0] }
abbrev Rx (h:bu) (l1 l2:ah):bu:=(Rw h l1).push { cls:=.type "tuple_iterator",data:=.fields #[.ref l2,.int 0 0] }
abbrev Ry (h:bu) (l1 l2:ah):bu:=(Rx h l1 l2).push { cls:=.type "tuple",data:=.seq #[.ref h.objs.size,.ref (Rw h l1).objs.size] }
abbrev Rz (h:bu) (l1 l2:ah):bu:=(Ry h l1 l2).push { cls:=.type "tuple",data:=.seq #[.none,.none] }
abbrev Pw (h:bu) (l1 l2:ah):bu:=(Rz h l1 l2).push { cls:=.type "zip",data:=.fields #[.none,.bool false,.bool false,.ref (Rx h l1 l2).objs.size,.ref (Ry h l1 l2).objs.size] }
theorem xt (l1 l2:ah) (xs ys:Array a9) :
  Meets (ii.«zip.__new__» ⟨[.type "zip",.ref l1,.ref l2],[]⟩) (fun _ R s=>s.heap.IsTuple l1 xs/\s.heap.IsTuple l2 ys/\R (.ok (.ret (.ref (Rz s.heap l1 l2).objs.size))) { s with heap:=Pw s.heap l1 l2 }) :=
 .of_wp fun prog w A R s h=>by
  obtain ⟨hp,g,d,tk,os⟩:=s;obtain ⟨v1,v2,h⟩:=h;have hsub:=PySem.sub_zip;have L1:C5 (C6 ⟨hp,g,d,tk,os⟩) l1 xs:=v1;have L2:C5 (C6 ⟨hp.push { cls:=.type "tuple_iterator",data:=.fields #[.ref l1,.int 0 0] },g,d,tk,os⟩) l2 ys:=Heap.IsTuple.push v2 _;wp_walk using fN L1,fN L2;exact ⟨_,rfl,h⟩
section
theorem zi   (v1:s.heap.IsTuple l1 xs) (v2:s.heap.IsTuple l2 ys)
  (h:∀ h',tM h' (s.heap.objs.size+4) (s.heap.objs.size+2) (s.heap.objs.size+3) .none->jz h' (s.heap.objs.size+2) (.ref s.heap.objs.size) (.ref (s.heap.objs.size+1)) ->
   jz h' (s.heap.objs.size+3) .none .none->h'.IsTupleIter s.heap.objs.size l1 0->h'.IsTupleIter (s.heap.objs.size+1) l2 0 ->
   (∀ c o,s.heap.get? c=some o->h'.get? c=some o)->Q (.ref (s.heap.objs.size+4)) { s with heap:=h' }):ao (ar prog w) A (call (.type "zip") [.ref l1,.ref l2]) Q E s:=by
 refine callType_new F.called_zip (by decide) (F.typeCall_zip_2 _ _) (F.newCall_zip_2 _ _) (fun obj=>F.args_object_init_3 obj _ _) F.entry_zip_new (xt l1 l2 xs ys) ⟨v1,v2,?_⟩;have n1:(Rw s.heap l1).objs.size=s.heap.objs.size+1:=bF ..;have n2:(Rx s.heap l1 l2).objs.size=s.heap.objs.size+2:=by rw [bF,n1]
 have n3:(Ry s.heap l1 l2).objs.size=s.heap.objs.size+3:=by rw [bF,n2]
 have n4:(Rz s.heap l1 l2).objs.size=s.heap.objs.size+4:=by rw [bF,n3]
 have c5:(Pw s.heap l1 l2).get? (Rz s.heap l1 l2).objs.size=some _:=aw _ rfl;have c4:(Pw s.heap l1 l2).get? (Ry s.heap l1 l2).objs.size=some _:=aa _ (aw _ rfl);have c3:(Pw s.heap l1 l2).get? (Rx s.heap l1 l2).objs.size=some _:=aa _ (aa _ (aw _ rfl));have c2:(Pw s.heap l1 l2).get? (Rw s.heap l1).objs.size=some _:=aa _ (aa _ (aa _ (aw _ rfl)));have c1:(Pw s.heap l1 l2).get? s.heap.objs.size=some _:=aa _ (aa _ (aa _ (aa _ (aw _ rfl))));show _/\_;rw [n2,n3,n4] at c5;rw [n1,n2] at c3;rw [n3] at c4;rw [n1] at c2;rw [n4];exact ⟨⟨_,c5,rfl⟩,h _ c5 c3 c4 ⟨_,c1,rfl,rfl⟩ ⟨_,c2,rfl,rfl⟩ fun c o e=>aa _ (aa _ (aa _ (aa _ (aa _ e))))⟩
end
theorem jR.ne_fp       (I:bz X pins σ H s) (hq:jR X.K H a xs) (hf:jS X pins H b):a≠b:=by
 rintro rfl;rcases hq with (h|⟨o,h⟩)|⟨o,its,n,hk,_⟩
 ·rw [hf.1] at h;cases h
 ·rw [hf.1] at h;cases h
 ·have e:X.base.get? a=some o:=I.mod.kin a o hk;rcases hf.f3 with z|z
  ·exact I.ok.noex a o e z
  ·exact absurd (aD (ap e) (bM I.ok.bsz z)) (aU _)
def Sj (K:a8) (a b:ah):It :=
 ⟨fun i H=>∃ xs ys x y,jR K H a xs/\jR K H b ys/\xs[i]?=some x/\ys[i]?=some y,
  fun i H v H'=>∃ p,H p=none/\v=.ref p/\∀ xs ys,jR K H a xs->jR K H b ys->∃ x y,xs[i]?=some x/\ys[i]?=some y/\H'=upd H p (.tup [x,y]),
  fun i H=>∃ xs ys,jR K H a xs/\jR K H b ys/\(xs.length<=i\/ys.length<=i)⟩
structure Sk (z TI TO i1 i2:ah):Prop where
 d1:TI≠z
 d2:TO≠z
 d3:i1≠z
 d4:i2≠z
 d5:TI≠TO
 d6:TI≠i1
 d7:TI≠i2
 d8:TO≠i1
 d9:TO≠i2
 d0:i1≠i2
theorem Ie {P:aS}{w:bn}{K:a8}{elts:List a_}{x1}{pos:Pos} (l1 l2 z TI TO i1 i2:ah) (Z:Sk z TI TO i1 i2) :
  tS P w K (.Tuple elts x1 pos) (Sj K l1 l2) [z,TI,TO,i1,i2] z (fun i h=>tM h z TI TO .none/\jz h TI (.ref i1) (.ref i2)/\(∃ a b,jz h TO a b)/\h.IsTupleIter i1 l1 i/\h.IsTupleIter i2 l2 i) where
 mem:=by simp
 obj:=fun i h st b hb=>by
  obtain ⟨s1,s2,⟨_,_,s3⟩,⟨o4,e4,_,f4⟩,⟨o5,e5,_,f5⟩⟩:=st;simp only [aJ,aM,or_false] at hb;rcases hb with rfl|rfl|rfl|rfl|rfl
  ·exact ⟨_,s1,fun v q=>by cases q⟩
  ·exact ⟨_,s2,fun v q=>by cases q⟩
  ·exact ⟨_,s3,fun v q=>by cases q⟩
  ·exact ⟨o4,e4,fun v q=>by rw [f4] at q;cases q⟩
  ·exact ⟨o5,e5,fun v q=>by rw [f5] at q;cases q⟩
 keep:=fun i h h' st k=>by
  obtain ⟨s1,s2,⟨u,v,s3⟩,⟨o4,e4,r4⟩,⟨o5,e5,r5⟩⟩:=st;exact ⟨k z (by simp) _ s1,k TI (by simp) _ s2,⟨u,v,k TO (by simp) _ s3⟩,⟨o4,k i1 (by simp) _ e4,r4⟩,⟨o5,k i2 (by simp) _ e5,r5⟩⟩
 item:=by
  intro X hP hw hK hc i pins s σ H E I hf st hg;subst hP hw hK;obtain ⟨xs,ys,x,y,hq1,hq2,hx,hy⟩:=hg;obtain ⟨its1,rv1,p1,_⟩:=I.tuple hq1;obtain ⟨its2,rv2,p2,_⟩:=I.tuple hq2;obtain ⟨u,hu,ru⟩:=rv1.get hx;obtain ⟨v,hv,rv⟩:=rv2.get hy;obtain ⟨s1,s2,⟨a,b,s3⟩,s4,s5⟩:=st;have ne1:∀ b∈[z,TI,TO,i1,i2],l1≠b:=fun b hb=>hq1.ne_fp I (hf b hb);have ne2:∀ b∈[z,TI,TO,i1,i2],l2≠b:=fun b hb=>hq2.ne_fp I (hf b hb);have D:KY z TI TO i1 i2 l1 l2:=⟨Z.d1,Z.d2,Z.d3,Z.d4,Z.d5,Z.d6,Z.d7,Z.d8,Z.d9,Z.d0,ne1 z (by simp),ne1 TO (by simp),ne1 i1 (by simp),ne1 i2 (by simp),ne2 z (by simp),ne2 TO (by simp),ne2 i1 (by simp),ne2 i2 (by simp)⟩;have zl:=ap s1;have hT:s.TypeIs (.ref z) "zip":=⟨_,s1,rfl⟩;unfold iP;refine a7 (oB (cV (name:=iH "__next__") hT qw ?_));refine bR qw hT F.entry_zip_next (Ib D s1 s2 s3 s4 s5 p1 p2 (by simpa using hu) (by simpa using hv) fun h1 z1 t1 y1 y2 pr k1=>?_) (F.args_zip_next_1 _);refine ac ⟨_,rfl,wpAny_letOwnedTupleGo_zip z1 fun h2 z2 b2=>?_⟩;have szn:s.heap.objs.size≠z:=dv zl;have TIk:jz h1 TI (.ref i1) (.ref i2):=k1 TI _ Z.d1 Z.d5 Z.d6 Z.d7 s2;have I2:bz X pins σ H { s with heap:=h2 }:=I.turnedL (t':=s.toks) (ch:=[z,TI,TO,i1,i2]) (fun b o hb q=>by
   simp only [aJ,aM,or_false,not_or] at hb;exact (b2.2 b hb.1).trans (k1 b o hb.1 hb.2.2.1 hb.2.2.2.1 hb.2.2.2.2 q)) hf
  have fT:=I.fpOk (H':=H) (am _) (I.hok.fresh (am _));have pr2:h2.get? s.heap.objs.size=some { cls:=.type "tuple",data:=.seq #[u,v] }:=(b2.2 _ szn).trans pr;have I3:=I2.track (ho:=.tup [x,y]) fT ⟨by show 2<=sizeLine;decide,[u,v],.cons ru (.cons rv .nil),⟨_,pr2,rfl,0,rfl⟩⟩;refine ⟨.ref s.heap.objs.size,_,I3,rfl,⟨_,fT.1,rfl,fun xs' ys' h1 h2=>?_⟩,⟨z2,(b2.2 TI Z.d1).trans TIk,⟨u,v,(b2.2 TO Z.d2).trans t1⟩,iS y1 b2 Z.d3,iS y2 b2 Z.d4⟩,fun b hb=>?_⟩
  ·rw [I.tuple_inj h1 hq1,I.tuple_inj h2 hq2];exact ⟨x,y,hx,hy,rfl⟩
  ·have bl:b<s.heap.objs.size:=by
    simp only [aJ,aM,or_false] at hb;rcases hb with q|q|q|q|q
    ·rw [q];exact zl
    ·rw [q];exact ap s2
    ·rw [q];exact ap s3
    ·obtain ⟨_,e,_⟩:=s4;rw [q];exact ap e
    ·obtain ⟨_,e,_⟩:=s5;rw [q];exact ap e
   rw [bh (aA bl)];exact (hf b hb).1
 done:=by
  intro X hP hw hK hc i pins s σ H E I hf st hg;subst hP hw hK;obtain ⟨xs,ys,hq1,hq2,hend⟩:=hg;obtain ⟨its1,rv1,p1,_⟩:=I.tuple hq1;obtain ⟨its2,rv2,p2,_⟩:=I.tuple hq2;obtain ⟨s1,s2,⟨a,b,s3⟩,s4,s5⟩:=st;have ne1:∀ b∈[z,TI,TO,i1,i2],l1≠b:=fun b hb=>hq1.ne_fp I (hf b hb);have ne2:∀ b∈[z,TI,TO,i1,i2],l2≠b:=fun b hb=>hq2.ne_fp I (hf b hb);have D:KY z TI TO i1 i2 l1 l2:=⟨Z.d1,Z.d2,Z.d3,Z.d4,Z.d5,Z.d6,Z.d7,Z.d8,Z.d9,Z.d0,ne1 z (by simp),ne1 TO (by simp),ne1 i1 (by simp),ne1 i2 (by simp),ne2 z (by simp),ne2 TO (by simp),ne2 i1 (by simp),ne2 i2 (by simp)⟩;have hT:s.TypeIs (.ref z) "zip":=⟨_,s1,rfl⟩;have n1:=rv1.length;have n2:=rv2.length;unfold iP;refine a7 (oB (cV (name:=iH "__next__") hT qw ?_));refine bR qw hT F.entry_zip_next (Ic (by simpa using I.ok.hd hc) D s1 s2 s3 s4 s5 p1 p2 (hend.elim (fun q=>.inl (by simp;omega)) fun q=>.inr (by simp;omega)) fun h' e kp he=>?_) (F.args_zip_next_1 _);obtain ⟨o,eo,co⟩:=he;refine a7 (kR (T:="StopIteration") (b:=true) ⟨o,eo,co⟩ Ch ?_);exact ac ⟨rfl,I.turnedL (t':=s.toks) (ch:=[z,TI,TO,i1,i2]) (fun b o hb q=>by
   simp only [aJ,aM,or_false,not_or] at hb;exact kp b o hb.1 hb.2.2.1 hb.2.2.2.1 hb.2.2.2.2 q) hf⟩
 self:=fun _ _ _ _ _ st h=>wpAny_pyIter_zip st.1 h
def Sn (K:a8) (ta:TA):TI:=fun σ H R=>ta σ H fun vs H1=>∃ a b xs ys,vs=[.ref a,.ref b]/\jR K H1 a xs/\jR K H1 b ys/\R (Sj K a b) H1
theorem Oy {X:Cx}{elts:List a_}{x1}{tpos p pos:Pos}{a b:a_}{ta:TA} (hg:Gl X "zip") (hm:X.mg "zip"=none) (ha:PA X [a,b] ta) (hs:aE [a,b] X.env=[(false,cj a X.env),(false,cj b X.env)]:=by rfl)
  (hs2:aE [b] X.env=[(false,cj b X.env)]:=by rfl):PI X (.Tuple elts x1 tpos) (.Call (.Name "zip" p) [a,b] [] pos) (Sn X.K ta):=by
 intro pins s σ H R I h;refine Call_ (oH I hg hm boot_zip (eI (dX (ha pos pins s σ H _ I h) fun us s1 ⟨vs,H1,I1,r1,q1⟩=>?_) (by rw [hs,hs2]) (by rw [hs2];rfl)));obtain ⟨a1,a2,xs,ys,rfl,hq1,hq2,q⟩:=q1;obtain ⟨u1,u2,rfl,rx1,rx2⟩:=MD r1;cases rx1;cases rx2;obtain ⟨its1,rv1,p1,_⟩:=I1.tuple hq1;obtain ⟨its2,rv2,p2,_⟩:=I1.tuple hq2;refine zi (show s1.heap.IsTuple a1 its1.toArray from p1) (show s1.heap.IsTuple a2 its2.toArray from p2) fun h' c1 c2 c3 c4 c5 kp=>?_;refine wpAny_pyIter_zip c1 ?_;have I2:bz X pins σ H1 { s1 with heap:=h' }:=I1.kept (t':=s1.toks) kp;have ad:∀ k j:Nat,k≠j->s1.heap.objs.size+k≠s1.heap.objs.size+j:=fun k j n e=>n (Nat.add_left_cancel e);refine ⟨s1.heap.objs.size+4,[s1.heap.objs.size+4,s1.heap.objs.size+2,s1.heap.objs.size+3,s1.heap.objs.size+0,s1.heap.objs.size+1],_,_,H1,rfl,I2,
  Ie a1 a2 _ _ _ _ _ ⟨ad _ _ (by decide),ad _ _ (by decide),ad _ _ (by decide),ad _ _ (by decide),ad _ _ (by decide),ad _ _ (by decide),ad _ _ (by decide),ad _ _ (by decide),ad _ _ (by decide),ad _ _ (by decide)⟩,
  ⟨c1,c2,⟨_,_,c3⟩,c4,c5⟩,fun b hb=>?_,q⟩
 have:∀ k:Nat,jS X pins H1 (s1.heap.objs.size+k):=fun k=>I1.fpOk (L0 _ _) (I1.hok.fresh (L0 _ _))
 simp only [aJ,aM,or_false] at hb;rcases hb with q|q|q|q|q<;>(rw [q];exact this _)
end
section
mutual
inductive CM (K:a8) (H:Hp):V->yR->Prop
 |none:CM K H .non .none
 |bool (b:Bool):CM K H (.bl b) (.bool b)
 |int (i:Int):CM K H (.int i) (.int i)
 |str (x:Str):CM K H (.str x) (.str x)
 |list {a:ah}{xs:List V}{ds:List yR}:lz K H a xs->Reps K H xs ds->CM K H (.ref a) (.list ds)
 |tuple {a:ah}{xs:List V}{ds:List yR}:jR K H a xs->Reps K H xs ds->CM K H (.ref a) (.tuple ds)
inductive Reps (K:a8) (H:Hp):List V->List yR->Prop
 |nil:Reps K H [] []
 |cons {x:V}{xs:List V}{d:yR}{ds:List yR}:CM K H x d->Reps K H xs ds->Reps K H (x::xs) (d::ds)
end
theorem cz.tup {K:a8}{H H':Hp}{a:ah}{xs:List V} (e:cz H H') (h:jR K H a xs):jR K H' a xs:=by
 rcases h with (h|⟨o,h⟩)|h
 ·exact .inl (.inl (e _ _ h))
 ·exact .inl (.inr ⟨o,e _ _ h⟩)
 ·exact .inr h
section
theorem LH (I:bz X pins σ H s)    (h:lz X.K H a xs) (ih:∀ {us:List a9},dg xs us->∃ as,ReadsAll s.heap us ds as) (r:cX (.ref a) u):∃ as,Reads s.heap u (.list ds) as:=by
 cases r;obtain ⟨its,rv,⟨o,n,e,c,_,d⟩,_⟩:=I.list h;obtain ⟨as,ra⟩:=ih rv;exact ⟨_,.list e c d (by simpa using ra)⟩
theorem Ig (I:bz X pins σ H s)    (h:jR X.K H a xs) (ih:∀ {us:List a9},dg xs us->∃ as,ReadsAll s.heap us ds as) (r:cX (.ref a) u):∃ as,Reads s.heap u (.tuple ds) as:=by
 cases r;obtain ⟨its,rv,⟨o,e,c,n,d⟩,_⟩:=I.tuple h;obtain ⟨as,ra⟩:=ih rv;exact ⟨_,.tuple e c d (by simpa using ra)⟩
theorem pM (I:bz X pins σ H s)  (h:CM X.K H v d):∀ {u:a9},cX v u->∃ as,Reads s.heap u d as :=
 CM.rec (motive_1:=fun v d _=>∀ {u:a9},cX v u->∃ as,Reads s.heap u d as) (motive_2:=fun vs ds _=>∀ {us:List a9},dg vs us->∃ as,ReadsAll s.heap us ds as)
  (fun r=>by cases r;exact ⟨_,.none⟩) (fun b _ r=>by cases r;exact ⟨_,.bool b⟩) (fun i _ r=>by obtain ⟨t,rfl⟩:=r;exact ⟨_,.int i t⟩) (fun x _ r=>by obtain ⟨t,rfl⟩:=r;exact ⟨_,.str x t⟩)
  (fun h _ ih _ r=>LH I h ih r) (fun h _ ih _ r=>Ig I h ih r) (fun r=>by cases r;exact ⟨_,.nil⟩) (fun _ _ a b _ r=>by
   cases r with
   |cons r rs =>
    obtain ⟨as,ra⟩:=a r;obtain ⟨bs,rb⟩:=b rs;exact ⟨_,.cons ra rb⟩) h
end
section
inductive MN (K:a8) (neg:Bool) (x:V) (y:V) (H:Hp) (Q:VK):Prop
 |mk (dx dy:_) (h0:CM K H x dx) (h1:CM K H y dy) (h2:dx.canLay0=true) (h3:dy.canLay0=true) (h4:min dx.depth dy.depth<=60) (h5:Q (.bl (if neg then !b9 dx dy else b9 dx dy)) H):MN K neg x y H Q
def Oz (K:a8) (neg:Bool):R2:=MN K neg
theorem OA (hu:X.A.units+64<fO):qh X (bG .Eq) (Oz X.K false):=by
 intro pins s σ H x y v u Q I rx ry h;obtain ⟨dx,dy,hx,hy,lx,ly,dp,q⟩:=h;obtain ⟨as,ra⟩:=pM I hx rx;obtain ⟨bs,rb⟩:=pM I hy ry;exact PySem.SeqAt.compareEq_reads ra rb lx ly (by omega) ⟨.bl _,H,I,rfl,q⟩
theorem OB (hu:X.A.units+64<fO):qh X (bG .NotEq) (Oz X.K true):=by
 intro pins s σ H x y v u Q I rx ry h;obtain ⟨dx,dy,hx,hy,lx,ly,dp,q⟩:=h;obtain ⟨as,ra⟩:=pM I hx rx;obtain ⟨bs,rb⟩:=pM I hy ry;exact PySem.SeqAt.compareNe_reads ra rb lx ly (by omega) ⟨.bl _,H,I,rfl,q⟩
end
end
section
structure So (P:aS) (w:bn) (l:List Env) (H H':Hp) (h h' B:bu) (ea C t:ah):Prop where
 fly:Heap.FlyingW B l ea (.ref C) (.ref t) h'
 cov:∀ b u,H' b=some u->∃ o,B.get? b=some o
 old:∀ b o,h.get? b=some o->H b=none->b∉tm l->B.get? b=some o
 all:∀ b o,h.get? b=some o->b∉tm l->∃ o',B.get? b=some o'
 un:Un (tm l) [] H H' h h'
 hok:oG P w H' h'
inductive Qj (P:aS) (w:bn) (outer:List Env) (H:Hp) (s:ae) (E:XK) (e:a9) (s':ae):Prop
 |mk (ea C t H' B:_) (h0:e=.ref ea) (h1:s'.os=s.os) (h2:om s'.gens) (h3:So P w outer H H' s.heap s'.heap B ea C t) (h4:E (.ref C) none H'):Qj P w outer H s E e s'
def w_ (P:aS) (w:bn):Fj:=Qj P w
theorem LI   (he:env∈l) (hf:env.frame=some b):b∈tm l:=List.mem_filterMap.mpr ⟨env,he,hf⟩
section
theorem So.kp (x:So P w l H H' h h' B ea C t) (st:B.StaysIn h'') (b:ah) (u:HO) (o:Obj) (e:H' b=some u) (q:h'.get? b=some o):h''.get? b=some o:=by
 obtain ⟨o',e1⟩:=x.cov b u e;have:=x.fly.1 b o' e1;rw [q] at this;cases this;exact st b o e1
end
section
variable {P:aS}{w:bn}{K:a8}{mg:Str->Option a9}{base:bu}{N:List Str}{qual:Str}{scope:dU}{f:ah}{cd:a9}{A:bv}{outer:List Env}{s:ae}{H:Hp}{E:XK}
theorem AE (hE:∀ c H',E' c none H'->E c none H'):oM (w_ P w) (vF (w_ P w) P w K mg base N qual scope f cd A outer s H E) E':=by
 intro pins σ H1 s1 e s' I h;obtain ⟨ea,C,t,H',B,rfl,os,bare,x,q⟩:=h;let X:=vF (w_ P w) P w K mg base N qual scope f cd A outer s H E
 have noex:∀ b:ah,b∉X.ex:=fun b z=>absurd (show b∈([] : List ah) from z) (by simp);have bl:∀ b o,s.heap.get? b=some o->b∉tm outer->b∉tm X.stack:=fun b o e n z=>by
  rcases List.mem_cons.mp (I.stkSub b z) with y|y
  ·exact absurd (ap e) (by rw [y];exact Nat.not_lt.mpr I.ok.above)
  ·exact n y
 have sub:∀ b∈tm outer,b∈tm X.stack:=fun b hb=>by
  obtain ⟨env,he,hf⟩:=List.mem_filterMap.mp hb;exact LI (ai _ he) hf
 show ao _ X.A (leaving X.env (.ref ea)) _ _ _;refine wpAny_leaves_onW (base:=B) (outer:=outer) (L:=X.env.locals) I.ok.frames rfl x.fly fun h2 fl up=>?_;have st2:=fl.1;refine ⟨ea,C,t,H',B,rfl,os.trans I.os,bare,⟨fl,x.cov,fun b o e n hb=>?_,fun b o e hb=>?_,⟨fun b o e n hb hx'=>?_,fun b o e n hb hx'=>?_,fun b o e n _=>?_,fun b o e _=>?_,fun b xs e=>x.un.tups b xs (I.base.tups b xs e),fun b o xs e=>x.un.frzs b o xs (I.base.frzs b o xs e),fun b ps e=>?_⟩,fun b u e=>?_⟩,hE _ _ q⟩
 ·exact x.old b o (I.base.keep b o e n hb (noex b)) (I.base.free b o e n (noex b)) (bl b o e hb)
 ·obtain ⟨o',k⟩:=I.base.there b o e (noex b);exact x.all b o' k (bl b o e hb)
 ·exact st2 b o (x.old b o (I.base.keep b o e n hb (noex b)) (I.base.free b o e n (noex b)) (bl b o e hb))
 ·obtain ⟨sl,k⟩:=I.base.slot b o e n hb (noex b);obtain ⟨sl1,k1⟩:=x.un.slot b _ k (I.base.free b o e n (noex b)) (sub b hb) (by simp);obtain ⟨_,o',k2,k3⟩:=wY x.fly.2.2.1 (sub b hb);rw [k1] at k2;cases k2;obtain ⟨sl2,k4⟩:=up b _ k1 k3;exact ⟨sl2,k4⟩
 ·obtain ⟨o',k⟩:=I.base.there b o e (noex b);exact x.un.free b o' k (I.base.free b o e n (noex b)) (by simp)
 ·obtain ⟨o',k⟩:=I.base.there b o e (noex b);by_cases hb:b∈tm outer
  ·obtain ⟨_,o2,k1,_⟩:=wY fl.2.2.1 hb;exact ⟨o2,k1⟩
  ·obtain ⟨o2,k2⟩:=x.all b o' k (bl b o e hb);exact ⟨o2,st2 b o2 k2⟩
 ·obtain ⟨m1,e1⟩:=I.base.tbls b ps e;obtain ⟨m2,e2⟩:=x.un.tbls b _ e1;exact ⟨m1++m2,by rw [e2,EX]⟩
 ·exact (x.hok b u e).stay (fun c o hc k=>by
   rcases hc with z|z
   ·rw [z] at k ⊢;exact x.kp st2 b u o e k
   ·exact x.kp st2 c _ o z k) (fun _ q=>q) fun _ _ q=>q
end
end
section
section
variable {P:aS}{w:bn}{K:a8}{mg:Str->Option a9}{base:bu}{N:List Str}{qual:Str}{scope:dU}{f:ah}{cd:a9}{A:bv}{outer:List Env}{s:ae}{H:Hp}{E:XK}
end
structure Sq (base:bu) (C:ah) (bm:List a9):Prop where
 obj:∃ nm q N bs hdct sn sub ab col dd k0 k1 k2 k3 k5 newId,base.get? C=some (excClassObj nm q C N bs bm hdct sn sub ab col dd k0 k1 k2 k3 k5 newId)
 exc:bm.contains (.type "BaseException")=true
end
section
section
variable {prog:aS}{w:bn}{A:bv}{E:a9->ae->Prop}{s:ae}{K:a8}{x C:ah}{R:tw->ae->Prop}
end
section
end
end
section
section
variable {P:aS}{w:bn}{K:a8}{mg:Str->Option a9}{base:bu}
end
section
end
end
section
section
def Sr:yR->String
 |.none=>"NoneType" | .bool _=>"bool" | .int _=>"int" | .str _=>"str" | .list _=>"list" | .tuple _=>"tuple" | .dict _=>"dict"
theorem CN            (I:bz X pins σ H s) (rx:cX x u) (r:CM X.K H x d) (e:oz X.K (.type (Sr d)) c=some b) (h:∀ tk,Q (.bool b) { s with toks:=tk }) :
  ao (ar X.prog X.w) A (call (.builtin "isinstance") [u,c]) Q E s:=by
 cases r with
 |none=>exact pH I rx .non e h
 |bool y=>exact pH I rx (.bl y) e h
 |int i=>exact pH I rx (.int i) e h
 |str y=>exact pH I rx (.str y) e h
 |list hq _ =>
  cases rx;obtain ⟨its,rv,⟨o,n,ho,c,_,dd⟩,_⟩:=I.list hq;exact cm rM I.kIn ⟨o,ho,c⟩ e (fun z=>nomatch z) h
 |tuple hq _ =>
  cases rx;obtain ⟨its,rv,⟨o,ho,c,n,dd⟩,_⟩:=I.tuple hq;exact cm Cb I.kIn ⟨o,ho,c⟩ e (fun z=>nomatch z) h
theorem Ih:jv X (.builtin "isinstance") (fun xs H Q=>∃ x d T b,xs=[x,.ty T]/\CM X.K H x d/\oz X.K (.type (Sr d)) (.type T)=some b/\Q (.bl b) H):=by
 intro pins s σ H xs us Q I r h;obtain ⟨x,d,T,b,rfl,rp,e,q⟩:=h;obtain ⟨u,v,rfl,ru,rv⟩:=MD r;obtain rfl:v=.type T:=rv;exact CN I ru rp e fun tk=>⟨.bl b,H,I.tok tk,rfl,q⟩
end
end
end L2
section
namespace HT
open PySem PyProof.Rows
section
theorem AF {t sl:ah}{items:Array a9}{vl vu:a9}{lo hi:Option Int}{Q:a9->ae->Prop} (ht:Gu s.heap t items) (hs:s.heap.IsSliceOf sl vl vu .none) (pl:tE vl lo) (pu:tE vu hi)
  (hw:iA items.size 0 lo=0/\iA items.size items.size hi=items.size) (h:Q (.ref t) s):ao (ar prog w) A (oo (.ref t) (.ref sl)) Q E s:=by
 obtain ⟨os,hos,hcs,hds⟩:=id hs;have hTs:s.TypeIs (.ref sl) "slice":=⟨os,hos,hcs⟩;unfold oo;try with_reducible refine cE ?_
 first|refine a7 (ac ?_)|skip
 refine a7 (wpAny_sequenceKey ht.typeIs (by decide) ?_);refine a7 (cV (name:=iH "__getitem__") ht.typeIs fu
  (bR fu ht.typeIs entry_tuple_getitem ?_ (args_tuple_getitem _ _)))
 show ao _ _ (rO (.ref t) >>= _) _ _ s;refine a7 (tupleItemsOf_ ht ?_);refine a7 (k9 hTs ?_);rw [if_pos (by decide)];refine a7 (mM hs pl pu ?_);have hyes:((((iA items.size 0 lo:Nat):Int)==0&&(1:Int)==1&&(iA items.size items.size hi-iA items.size 0 lo)==items.size)=true):=by
  rw [hw.1,hw.2];simp
 show ao _ _ (if (((iA items.size 0 lo:Nat):Int)==0&&(1:Int)==1&&(iA items.size items.size hi-iA items.size 0 lo)==items.size)=true then _ else _) _ _ s;rw [if_pos hyes];refine a7 ?_;unfold Builtin.Tuple.tupleIsExact;refine a7 (k9 ht.typeIs (ac ?_));rw [if_pos (by decide)];refine a7 (cg ?_);first
  |exact ac (ac ⟨_,rfl,h⟩)
  |exact ac ⟨_,rfl,ac h⟩
  |exact a7 (ac (ac ⟨_,rfl,ac h⟩))
  |exact a7 (ac (ac ⟨_,rfl,h⟩))
end
end HT
namespace L2
open PySem PySem.Spec PyProof.Rows
section
inductive Ii (K:a8) (x:V) (lo:Option Int) (hi:Option Int) (H:Hp) (Q:VK):Prop
 |mk (a xs:_) (h0:x=.ref a) (h1:jR K H a xs) (h2:(HT.iA xs.length 0 lo=0/\HT.iA xs.length xs.length hi=xs.length)) (h3:Q (.ref a) H):Ii K x lo hi H Q
def Qk (K:a8):V->Option Int->Option Int->Hp->VK->Prop:=Ii K
theorem LJ:Q9 X (Qk X.K):=by
 intro pins s σ H x v vl vu lo hi sl Q I rx hs pl pu h;obtain ⟨a,xs,rfl,hx,hw,q⟩:=h;cases rx;obtain ⟨its,r,ht,hz⟩:=I.tuple hx;have hlen:its.toArray.size=xs.length:=by rw [aH];exact r.length.symm
 exact ⟨"tuple",_,PyProof.Rows.slot_tuple_getitem.lookup,ht.typeIs,HT.AF ht hs pl pu (by rw [hlen];exact hw) ⟨.ref a,H,I,rfl,q⟩⟩
theorem kW   (h:H p=none):cz H (upd H p o):=fun b u e=>by rw [bh (bO e h)];exact e
theorem vT (hc:X.calm=true):jv X (.type "list") (fun xs H Q=>∃ a kvs,xs=[.ref a]/\H a=some (.dK kvs)/\∀ l,H l=none->Q (.ref l) (upd H l (.lst (kvs.map fun p=>kV p.1)))):=by
 intro pins s σ H xs us Q I r h;obtain ⟨a,kvs,rfl,hH,q⟩:=h;obtain ⟨u,rfl,rx⟩:=kj r;cases rx;obtain ⟨hz,hs,vs,rk,hd⟩:=(show dE X.prog X.w H s.heap a (.dK kvs) from I.hok a _ hH);obtain ⟨ep,hat⟩:∃ ep,s.heap.DictAt (cq X.prog X.w) a vs ep:=by
  obtain ⟨o,es,ep,h1,h2,h3,h4⟩:=hd;exact ⟨ep,o,es,h1,h2,h3,h4⟩
 have hlen:kvs.length=vs.length:=gU rk;refine PySem.W.kdl_call (PySem.W.kdl_dict hs) (I.ok.hd hc) hat (by omega) fun h' tk acc' c' kp e hacc=>?_;have rv:dg (kvs.map fun p=>kV p.1) acc'.toList:=by
  have key:∀ {kvs:List (eR×V)}{vs:List (eR×a9)} (acc:List a9),KV kvs vs->acc.length=vs.length->(∀ (j:Nat) (v:a9),acc[j]?=some v->∃ k x,vs[j]?=some (k,x)/\ut k v=true)->dg (kvs.map fun p=>kV p.1) acc:=by
   intro kvs;induction kvs with
   |nil=>intro vs acc rk hl _;cases rk;cases acc with
    |nil=>exact .nil
    |cons _ _=>simp at hl
   |cons p kvs ih =>
    intro vs acc rk hl hv;cases rk with
    |cons h1 t1 =>
     cases acc with
     |nil=>simp at hl
     |cons v acc =>
      refine .cons ?_ (ih acc t1 (by simpa using hl) fun j v hj=>by simpa using hv (j+1) v (by simpa using hj));obtain ⟨k,x,e1,e2⟩:=hv 0 v rfl;simp only [Aj,Ab] at e1;subst e1;have hk:p.1=k:=h1.1;rcases eA e2 with ⟨i,t,e,rfl⟩|⟨i,t,e,rfl⟩
      ·show cX (kV p.1) _;rw [hk,e];exact ⟨t,rfl⟩
      ·show cX (kV p.1) _;rw [hk,e];exact ⟨t,rfl⟩
  exact key acc'.toList rk (by rw [aL];exact hacc.1) fun j v hj=>hacc.2 j v (by rw [<- aY];exact hj)
 exact ⟨.ref s.heap.objs.size,_,I.laid (t':=tk) kp (am _) (show dE X.prog X.w _ h' _ (.lst _) from ⟨by simpa using hz,acc'.toList,c',rv,by rw [Ck];exact e⟩),rfl,q _ (I.hok.fresh (am _))⟩
def vU (x:Str):List V:=x.cps.toList.map fun c=>V.str ⟨#[c]⟩
theorem uO (hc:X.calm=true):jv X (.type "tuple") (fun xs H Q=>∃ x,xs=[.str x]/\x.cps.size<=sizeLine/\∀ l,H l=none->Q (.ref l) (upd H l (.tup (vU x)))):=by
 intro pins s σ H xs us Q I r h;obtain ⟨x,rfl,hz,q⟩:=h;obtain ⟨u,rfl,rx⟩:=kj r;obtain ⟨t,rfl⟩:=rx;refine call_tuple_str (I.ok.hd hc) x t (fun h' tk acc kp hacc=>?_) hz;have I1:bz X pins σ H { s with heap:=h',toks:=tk }:=I.kept (t':=tk) kp;have rv:dg (vU x) acc.toList:=by
  have key:∀ (cs:List Nat) (acc:List a9),acc.length=cs.length->(∀ (j:Nat) (v:a9),acc[j]?=some v->∃ c u,cs[j]?=some c/\v=.str ⟨#[c]⟩ u)->dg (cs.map fun c=>V.str ⟨#[c]⟩) acc:=by
   intro cs;induction cs with
   |nil=>intro acc hl _;cases acc with
    |nil=>exact .nil
    |cons _ _=>simp at hl
   |cons c cs ih =>
    intro acc hl hv;cases acc with
    |nil=>simp at hl
    |cons v acc =>
     obtain ⟨c',u,e1,rfl⟩:=hv 0 v rfl;simp only [Aj,Ab] at e1;subst e1;exact .cons ⟨u,rfl⟩ (ih acc (by simpa using hl) fun j v hj=>by simpa using hv (j+1) v (by simpa using hj))
  refine key x.cps.toList acc.toList (by rw [aL,aL];exact hacc.1) fun j v hj=>?_;obtain ⟨c,u,e1,e2⟩:=hacc.2 j v (by rw [<- aY];exact hj);exact ⟨c,u,by rw [aY];exact e1,e2⟩
 have I2:bz X pins σ (upd H h'.objs.size (.tup (vU x))) { s with heap:=h'.push { cls:=.type "tuple",data:=.seq acc },toks:=tk } :=
  I1.laid (t':=tk) (fun b o e=>aa _ e) (am _) (show dE X.prog X.w _ _ _ (.tup (vU x)) from ⟨by unfold vU;simpa using hz,acc.toList,rv,by rw [Ck];exact A6 _ _⟩)
 exact ⟨.ref h'.objs.size,_,I2,rfl,q _ (I1.hok.fresh (am _))⟩
end
end L2
end
namespace L2
open PySem PySem.Spec PyProof.Rows
section
theorem zj (elt target iter:a_) (ifs:List a_) (scope:dU) (pos:Pos) (it acc:a9) (env:Env) :
  qd (.SetComp elt [⟨target,iter,ifs,0⟩] scope pos) 0 it acc env=(do
   jt iter.pos
   let r <- iP it
   match r with
   |none=>pure (.done .next)
   |some v =>
    cB target it v
    i9 target env v;let mut ok:=true
    for c in ifs do
     if ok then ok <- kO c env (cj c env)
    if ok then
     (do let v <- cj elt env;jt elt.pos;let _ <- call (.builtin "set.add") [acc,v])
    again (.compLoop (.SetComp elt [⟨target,iter,ifs,0⟩] scope pos) 0 it acc env)):=by rfl
section
theorem jw {elt target iter ifs bA scope pos it acc env}
  (h0:dG (ar prog w) A (.compLoop (.SetComp elt (⟨target,iter,ifs,0⟩::bA) scope pos) 0 it acc env) R s)
  (h:ao (ar prog w) A (tq it) (fun it' s'=>dG (ar prog w) A (.compLoop (.SetComp elt (⟨target,iter,ifs,0⟩::bA) scope pos) 0 it' acc env) R s')
   (notedBy (ar prog w) A env fun x s'=>R (.error x) s') s) :
  dG (ar prog w) A (.compStart (.SetComp elt (⟨target,iter,ifs,0⟩::bA) scope pos) 0 it acc env) R s:=by
 refine rG ?_;show ao _ _ ((compStart (.SetComp elt (⟨target,iter,ifs,0⟩::bA) scope pos) 0 it acc env).onRaise (fun x=>do qe x env;jt theWindowsPlace)) _ _ s;refine wpAny_notedAt ?_;unfold compStart;show ao _ _ (ask >>= _) _ _ s;refine a7 (gX (wpAny_ite ?_));split
 ·first
   |exact a7 (ac (ac (kf rfl h0)))
   |exact ac (kf rfl h0)
 ·first
   |exact a7 (cg (a7 (cF (a7 (aO h (fun it' s' hq=>ac (kf rfl hq)) fun _ _ x=>x)))))
   |(refine a7 (cg ?_);show ao _ _ (jt iter.pos >>= _) _ _ s;exact a7 (cF (a7 (aO h (fun it' s' hq=>ac (kf rfl hq)) fun _ _ x=>x))))
theorem qA (h:Q (.ref s.heap.objs.size) { s with heap:=s.heap.push (hU w) }):ao (ar prog w) A (GX (.type "set")) Q E s:=by
 unfold GX setsByText;refine a7 (a7 (gX (ac ?_)));dsimp only;simp only [newObj];exact a7 (KP (ac h))
theorem qB     (hS:kh w s.heap a ss) (hr:ss.length+1<gx)
  (h:∀ h' tk',bT a s.heap h'->kh w h' a (if x∈ss then ss else ss++[x])->Q .none { s with heap:=h',toks:=tk' }) :
  ao (ar prog w) A (call (.builtin "set.add") [.ref a,.str x tk]) Q E s:=by
 have hT:s.TypeIs (.ref a) "set":=by obtain ⟨es,ep,t,I,_⟩:=id hS;exact ⟨_,I.at_,rfl⟩
 refine bR F.slot_set_add hT F.entry_set_add ?_ (F.args_set_add_2 _ _);unfold ii.«set.add» L3;simp only [List.isEmpty_nil,bind_assoc];unfold L4;refine a7 (ac ?_);try dsimp only
 refine a7 (ac ?_);try dsimp only
 refine a7 ?_;refine Ax hS hr fun h' tk' sb hS'=>?_;exact ac ⟨_,rfl,h h' tk' sb hS'⟩
end
section
theorem AG      (I:Nat->ae->Prop)
  (turn:∀ n s,I n s->ao (ar prog w) A (iP it) (fun r s₁=>match r with
   |none=>R (.ok .next) s₁
   |some v=>ao (ar prog w) A (cB target it v) (fun _ s₁'=>ao (ar prog w) A (i9 target env v) (fun _ s₂ =>
     ao (ar prog w) A (forIn ifs true fun c r=>if r=true then do let ok <- kO c env (cj c env);pure (c9 ok) else pure (c9 r)) (fun ok s₃ =>
      if ok=true then ao (ar prog w) A (cj elt env) (fun x s₄ =>
       ao (ar prog w) A (call (.builtin "set.add") [acc,x]) (fun _ s₅=>∃ m,m<n/\I m s₅) (fun _ _=>False) s₄) (fun _ _=>False) s₃
      else ∃ m,m<n/\I m s₃) (fun _ _=>False) s₂) (fun _ _=>False) s₁') (fun _ _=>False) s₁) (fun _ _=>False) s)
  (n:Nat) (h:I n s) :
  dG (ar prog w) A (.compLoop (.SetComp elt [⟨target,iter,ifs,0⟩] scope pos) 0 it acc env) R s:=by
 refine qL rfl I (fun n s hI=>?_) n h;show ao _ A ((qd (.SetComp elt [⟨target,iter,ifs,0⟩] scope pos) 0 it acc env).onRaise (fun x=>do qe x env;m9 x)) _ _ s;refine tF ?_;rw [zj];have nf:∀ {α:Type}{t:Sem α}{Q:α->ae->Prop}{E':a9->ae->Prop}{s:ae},ao (ar prog w) A t Q (fun _ _=>False) s->ao (ar prog w) A t Q E' s :=
  fun h=>aO h (fun _ _ q=>q) fun _ _ f=>f.elim
 refine a7 (cF (a7 (nf (aO (turn n s hI) (fun r s₁ h₁=>?_) fun _ _ h'=>h'))));cases r with
 |none=>exact ac h₁
 |some v =>
  refine a7 (nf (aO h₁ (fun _ s₁' h₁'=>?_) fun _ _ h'=>h'));refine a7 (nf (aO h₁' (fun _ s₂ h₂=>a7 (nf (aO h₂ (fun ok s₃ h₃=>?_) fun _ _ h'=>h'))) fun _ _ h'=>h'));cases ok with
  |false=>exact ac ⟨rfl,h₃⟩
  |true =>
   exact a7 (a7 (nf (aO h₃ (fun x s₄ h₄=>a7 (cF (a7 (nf (aO h₄ (fun _ s₅ h₅=>ac (ac ⟨rfl,h₅⟩)) fun _ _ h'=>h'))))) fun _ _ h'=>h')))
end
inductive Su (X:Cx) (pins:List (ah×Obj)) (N':List Str) (scope:dU) (cl:List (Str×ah)) (C:ah) (s2:ae) (H2:Hp) (fp:List ah) (nt:Nat) (ix:List Nat) (σ:St) (tn:Nat->bu->Prop) (W:Nat->Nat->List Str->Hp->Prop) (n:Nat) (s':ae):Prop
 |mk (i:Nat) (acc:List Str) (oD:Obj) (H':Hp) (I:bz (b6 X N' scope cl C s2 H2 fp (X.pn++pins)) [(s2.heap.objs.size,oD)] (fA nt ix σ) H' s') (S:kh X.w s'.heap s2.heap.objs.size acc) (t:tn i s'.heap) (f:∀ b∈fp,H' b=none) (w:W i n acc H'):Su X pins N' scope cl C s2 H2 fp nt ix σ tn W n s'
theorem FE {X:Cx}{elt tg iter:a_}{ifs:List a_}{scope:dU}{pos:Pos}{g:TG}{tt:TT}{te:TE}{N':List Str}{nt:Nat}{ix:List Nat}
  (hc:X.calm=true) (S:iE X scope N' nt ix) (lo:GL nt g)
  (hb:∀ cl C s₀ H₀ ex pn,PG (b6 X N' scope cl C s₀ H₀ ex pn) tg g/\Ae (b6 X N' scope cl C s₀ H₀ ex pn) ifs tt/\PE (b6 X N' scope cl C s₀ H₀ ex pn) elt te)
  {cl:List (Str×ah)} (c1:∀ x c,cl.lookup x=some c->X.env.cells.lookup x=some c) (c2:∀ y∈scope.names,y.2=.free->∃ c,cl.lookup y.1=some c)
  {pins:List (ah×Obj)}{σ:St}{H2:Hp}{s2:ae}{it:ah}{fp:List ah}{tn:Nat->bu->Prop}{J:It}{Q:VK}{E:a9->ae->Prop}
  (I2:bz X pins σ H2 s2) (T:tS X.prog X.w X.K tg J fp it tn) (st2:tn 0 s2.heap) (f2:∀ b∈fp,jS X pins H2 b)
  {W:Nat->Nat->List Str->Hp->Prop} (w0:∃ m,W 0 m [] H2)
  (turn:∀ i m acc H,W i m acc H->(J.stop i H/\∀ p,H p=none->Q (.ref p) (upd H p (lF X.w p acc))) \/
   (J.go i H/\acc.length+1<gx/\∀ x H',J.yld i H x H'->g x (fA nt ix σ) H' fun σ2 H2=>tt σ2 H2 fun b H3 =>
    if b=true then te σ2 H3 fun y H4=>∃ z m',y=.str z/\m'<m/\W (i+1) m' (if z∈acc then acc else acc++[z]) H4 else ∃ m',m'<m/\W (i+1) m' acc H3))
  {RR:a9->ah->tw->ae->Prop}
  (hRR:∀ D C m s' (acc:List Str) H',H' D=none->jS X pins (upd H' D (lF X.w D acc)) C->Q (.ref D) (upd H' D (lF X.w D acc))->s'.heap.Ns C m->(∀ h',bT C s'.heap h'->bz X pins σ (upd H' D (lF X.w D acc)) { s' with heap:=h' })->RR (.ref D) C (.ok .next) s') :
  ao (ar X.prog X.w) X.A (GX (.type "set")) (fun acc s₃=>ao (ar X.prog X.w) X.A (ke scope X.env.globals cl [] X.env.qual none .none (some X.env)) (fun cenv s₄ =>
   dG (ar X.prog X.w) X.A (.compStart (.SetComp elt [⟨tg,iter,ifs,0⟩] scope pos) 0 (.ref it) acc { cenv with scope:=relabel scope X.env }) (RR acc cenv.locals) s₄) E s₃) E s2:=by
 refine qA (ve fun h₁ hh₁=>?_);dsimp only at hh₁ ⊢;generalize hG2:s2.heap.push (hU X.w)=G2 at hh₁ ⊢;have hC:G2.objs.size=s2.heap.objs.size+1:=by rw [<- hG2,bF]
 have hDC:s2.heap.objs.size≠G2.objs.size:=by rw [hC];exact aA (cZ _)
 have hCle:s2.heap.objs.size<=G2.objs.size:=by rw [hC];exact fh _
 have below:∀ b,b<s2.heap.objs.size->b≠G2.objs.size:=fun b hb=>by rw [hC];exact aA (cG hb)
 have kp:∀ b o,G2.get? b=some o->h₁.get? b=some o:=fun b o e=>by rw [hh₁];exact gq _ _ b o (aa _ e)
 have hns₁:h₁.Ns G2.objs.size (fun _=>none):=by rw [hh₁];exact (um G2 (.type "dict")).keeps (gq _ _)
 have ok₁:C2 h₁ (G2.objs.size+1) (aC (G2.objs.size+1) scope.names []):=by rw [hh₁];exact pJ G2 scope.names
 have cne:∀ x c,(aC (G2.objs.size+1) scope.names cl).lookup x=some c->X.env.cells.lookup x=some c\/s2.heap.objs.size<c:=fun x c e=>by
  rcases iK e with a|⟨_,a⟩
  ·exact .inr (aD (jy hCle) (ok₁.empty x c a).2)
  ·exact .inl (c1 x c a)
 have old:∀ b o,s2.heap.get? b=some o->h₁.get? b=some o:=fun b o e=>kp b o (hG2 ▸ aa _ e);have hacc:h₁.get? s2.heap.objs.size=some (hU X.w):=kp _ _ (hG2 ▸ aw _ rfl);have ff:∀ b∈fp,b<s2.heap.objs.size:=fun b hb=>by
  obtain ⟨o,e,_⟩:=T.obj _ _ st2 b hb;exact ap e
 have I3:bz (b6 X N' scope (aC (G2.objs.size+1) scope.names cl) G2.objs.size s2 H2 fp (X.pn++pins)) [] (fA nt ix σ) H2 { s2 with heap:=h₁,toks:=s2.toks }:=r_ S I2 c1 c2 f2 ff hCle hns₁ old ok₁;obtain ⟨pg,pt,pe⟩:=hb (aC (G2.objs.size+1) scope.names cl) G2.objs.size s2 H2 fp (X.pn++pins);have hDfs:s2.heap.objs.size∉tm X.stack:=fun z=>by
  rcases List.mem_cons.mp (I2.stkSub _ z) with e|e
  ·exact absurd I2.lt (by rw [<- e];exact aU _)
  ·exact I2.nofs (am _) e
 have st1:tn 0 h₁:=T.keep _ _ _ st2 fun b _ o e=>old b o e;have hDf:s2.heap.objs.size∉fp:=fun z=>absurd (ff _ z) (aU _);have stat:∀ {H':Hp}{pl:List (ah×Obj)},(∀ p∈pl,p.1∉fp)->(∀ b∈fp,H' b=none)->∀ b∈fp,jS (b6 X N' scope (aC (G2.objs.size+1) scope.names cl) G2.objs.size s2 H2 fp (X.pn++pins)) pl H' b:=fun hpl hn b hb=>by
  obtain ⟨f0,f1,f2',f3,f4,f5⟩:=f2 b hb;refine ⟨hn b hb,below b (ff b hb),fun z=>?_,.inl hb,fun x c e=>(cne x c e).elim (f4 x c) fun q z=>lC q (by rw [z];exact ff b hb),fun p hp z=>?_⟩
  ·rcases List.mem_cons.mp (I2.stkSub _ z) with e|e
   ·exact f1 e
   ·exact f2' e
  ·rcases List.mem_append.mp hp with q|q
   ·exact f5 p q z
   ·exact hpl p q (z ▸ hb)
 obtain ⟨m0,w0⟩:=w0;have loop:dG (ar X.prog X.w) X.A (.compLoop (.SetComp elt [⟨tg,iter,ifs,0⟩] scope pos) 0 (.ref it) (.ref s2.heap.objs.size) (lB scope (aC (G2.objs.size+1) scope.names cl) G2.objs.size X.env))
    (RR (.ref s2.heap.objs.size) G2.objs.size) { s2 with heap:=h₁,toks:=s2.toks }:=by
  refine AG (Su X pins N' scope (aC (G2.objs.size+1) scope.names cl) G2.objs.size s2 H2 fp nt ix σ tn W) ?_ m0
   ⟨0,[],_,H2,I3.pin1 hacc (I2.hok.fresh (am _)) hDC hDfs (fun v z=>nomatch z),tU X.w hacc,st1,fun b hb=>(f2 b hb).1,w0⟩
  rintro n s3 ⟨i,acc,oD,H3,J3,hS3,st3,fr3,w3⟩;have plD:∀ p∈[(s2.heap.objs.size,oD)],p.1∉fp:=fun p hp=>by
   have:p=(s2.heap.objs.size,oD):=by simpa using hp
   rw [this];exact hDf
  have stS:∀ {s8:ae},s8.heap.get? s2.heap.objs.size=some oD->kh X.w s8.heap s2.heap.objs.size acc:=fun {s8} e=>hS3.keep fun o eo=>by
   have q:=(J3.pin (s2.heap.objs.size,oD) (af _ (List.mem_singleton.mpr rfl))).1;rw [q] at eo;cases eo;exact e
  rcases turn i n acc H3 w3 with ⟨stop,qn⟩|⟨go,hlt,step⟩
  ·refine dX (T.done (b6 X N' scope (aC (G2.objs.size+1) scope.names cl) G2.objs.size s2 H2 fp (X.pn++pins)) rfl rfl rfl hc i _ s3 _ H3 _ J3 (stat plD fr3) st3 stop) fun r s4 h_0=>?_;obtain ⟨hr,I4⟩:=h_0;subst hr;obtain ⟨pD,pN,_⟩:=I4.pin (s2.heap.objs.size,_) (af _ (List.mem_singleton.mpr rfl));obtain ⟨mm,hn,_⟩:=I4.loc;have hCn:H3 G2.objs.size=none:=I4.free;refine hRR _ _ mm s4 acc H3 pN (I2.fpOk hCle (by rw [bh (cR hDC)];exact hCn)) (qn _ pN) hn fun h' sb=>?_;have hu:Un (tm X.stack) fp H2 (upd H3 s2.heap.objs.size (lF X.w s2.heap.objs.size acc)) s2.heap h':=Un.grow I4.base sb hCle (am _) pN;refine I2.call' (s':={ s4 with heap:=h' }) (ch:=fp) I4.os hu ?_ I4.bare fun b hb=>?_
   ·exact mO (sd I4.hok hCn sb) pN (zh ((stS pD).keep fun o e=>(sb.2 _ hDC).trans e))
   ·obtain ⟨_,f1,_,f3,f4,f5⟩:=f2 b hb;exact ⟨f3,f1,f4,f5⟩
  ·refine dX (T.item (b6 X N' scope (aC (G2.objs.size+1) scope.names cl) G2.objs.size s2 H2 fp (X.pn++pins)) rfl rfl rfl hc i _ s3 _ H3 _ J3 (stat plD fr3) st3 go) fun r s4 h_1=>?_;obtain ⟨u,hr,h4⟩:=h_1;subst hr;refine dX h4 fun _ s5 h_2=>?_;obtain ⟨x,H5,I5,r5,y5,st5,fr5⟩:=h_2;have I5':=I5.pinned (stat plD fr5) (T.obj _ _ st5);refine dX (pg _ s5 _ H5 x u _ I5' r5 (lo _ _ _ _ (step x H5 y5))) fun _ s6 h_3=>?_;obtain ⟨σ6,H6,I6,q6,l6,k6⟩:=h_3;have hw:∀ (j:Nat) v,(fA nt ix σ)[j]?=some (some v)->σ6[j]?=some (some v):=fun j v e=>by
    by_cases hj:nt<=j
    ·rw [k6 j hj];exact e
    ·unfold fA at e;rw [bf (by simpa using hj),bw,if_pos (by omega)] at e;cases e
   refine dX (pt _ s6 σ6 H6 _ I6 q6) fun b s7 h_4=>?_;obtain ⟨H7,I7,q7⟩:=h_4;have fpk:∀ {s8:ae}{σ8:St}{H8:Hp},bz (b6 X N' scope (aC (G2.objs.size+1) scope.names cl) G2.objs.size s2 H2 fp (X.pn++pins)) ([(s2.heap.objs.size,oD)]++kg fp s5.heap) σ8 H8 s8 ->
     tn (i+1) s8.heap/\∀ b∈fp,H8 b=none:=fun {s8 σ8 H8} I8=>by
    refine ⟨T.keep _ _ _ st5 fun b hb o e=>(I8.pin (b,o) (af _ (af _ (dI hb e)))).1,fun b hb=>?_⟩;obtain ⟨o,e,d⟩:=T.obj _ _ st5 b hb;exact (I8.pin (b,o) (af _ (af _ (dI hb e)))).2.1
   cases b with
   |false =>
    simp only [ba,if_false] at q7 ⊢;obtain ⟨m',hm,w7⟩:=q7;obtain ⟨t7,f7⟩:=fpk I7;obtain ⟨pD,_⟩:=I7.pin (s2.heap.objs.size,oD) (af _ (bP _ (List.mem_singleton.mpr rfl)));exact ⟨m',hm,i+1,acc,oD,H7,(I7.weak l6.symm hw).unpinned,stS pD,t7,f7,w7⟩
   |true =>
    simp only [if_true] at q7 ⊢;refine dX (pe _ s7 σ6 H7 _ I7 q7) fun u8 s8 h_5=>?_;obtain ⟨y,H8,I8,r8,z,m',hy,hm,w8⟩:=h_5;obtain ⟨t8,f8⟩:=fpk I8;obtain ⟨pD,pN,_⟩:=I8.pin (s2.heap.objs.size,_) (af _ (bP _ (List.mem_singleton.mpr rfl)));subst hy;obtain ⟨tz,rfl⟩:=r8;refine qB (stS pD) hlt fun h9 tk9 sb9 hS9=>?_;obtain ⟨es9,ep9,t9,is9,pm9⟩:=id hS9;have e9':=is9.at_;refine ⟨m',hm,i+1,_,{ cls:=.type "set",dict:=none,data:=.set es9 ep9 t9 },H8,?_,hS9,T.keep _ _ _ t8 fun b hb o e=>sb9.extBut b o (fun z=>hDf (z ▸ hb)) e,f8,w8⟩;have I8':bz (b6 X N' scope (aC (G2.objs.size+1) scope.names cl) G2.objs.size s2 H2 fp (X.pn++pins)) [] (fA nt ix σ) H8 s8:=(I8.weak l6.symm hw).pins_of fun p hp=>absurd hp (by simp);have I9:bz (b6 X N' scope (aC (G2.objs.size+1) scope.names cl) G2.objs.size s2 H2 fp (X.pn++pins)) [] (fA nt ix σ) H8 { s8 with heap:=h9,toks:=tk9 } :=
     I8'.turned (it:=s2.heap.objs.size) (fun b o hb e=>sb9.extBut b o hb e) pN hDC (.inr (am _)) (fun x c e z=>by
      rcases cne x c e with e|e
      ·obtain ⟨v,q⟩:=I2.cell x c e;exact absurd q.lt (by rw [z];exact aU _)
      ·exact absurd e (by rw [z];exact aU _)) fun p hp z=>by
      have hp:p∈X.pn++pins:=(List.mem_append.mp hp).elim id fun z=>absurd z (by simp);exact absurd (ap (I2.pin p hp).1) (by rw [z];exact aU _)
    exact I9.pin1 e9' pN hDC hDfs (fun v z=>nomatch z)
 exact jw loop (T.self _ 0 _ _ _ st1 loop)
inductive MO (w:bn) (nt:Nat) (ix:List Nat) (g:TG) (tt:TT) (te:TE) (σ:St) (Q:VK) (J:It) (H1:Hp):Prop
 |mk (W:Nat->Nat->List Str->Hp->Prop) (w0:∃ m,W 0 m [] H1) (turn:∀ i m acc H,W i m acc H ->
 (J.stop i H/\∀ p,H p=none->Q (.ref p) (upd H p (lF w p acc))) \/
 (J.go i H/\acc.length+1<gx/\∀ x H',J.yld i H x H'->g x (fA nt ix σ) H' fun σ2 H2=>tt σ2 H2 fun b H3 =>
  if b=true then te σ2 H3 fun y H4=>∃ z m',y=.str z/\m'<m/\W (i+1) m' (if z∈acc then acc else acc++[z]) H4 else ∃ m',m'<m/\W (i+1) m' acc H3)):MO w nt ix g tt te σ Q J H1
def Ij (w:bn) (nt:Nat) (ix:List Nat) (wi:TI) (g:TG) (tt:TT) (te:TE):TE:=fun σ H Q=>wi σ H (MO w nt ix g tt te σ Q)
theorem CO {X:Cx}{elt tg iter:a_}{ifs:List a_}{scope:dU}{pos:Pos}{wi:TI}{g:TG}{tt:TT}{te:TE}{N':List Str}{nt:Nat}{ix:List Nat}
  (hc:X.calm=true) (S:iE X scope N' nt ix) (lo:GL nt g) (hi:PI X tg iter wi)
  (hb:∀ cl C s₀ H₀ ex pn,PG (b6 X N' scope cl C s₀ H₀ ex pn) tg g/\Ae (b6 X N' scope cl C s₀ H₀ ex pn) ifs tt/\PE (b6 X N' scope cl C s₀ H₀ ex pn) elt te)
  (hs:∀ x,bB iter X.env x=pure x:=by intro _;rfl):PE X (.SetComp elt [⟨tg,iter,ifs,0⟩] scope pos) (Ij X.w nt ix wi g tt te):=by
 intro pins s σ H Q I h;obtain ⟨cl,hcl,c1,c2⟩:=kU (scope:=scope) (env:=X.env) fun y hy hf=>I.ok.has y.1 (S.free y hy hf);show ao _ _ (uY (.SetComp elt [⟨tg,iter,ifs,0⟩] scope pos) scope X.env (firstIterPos [⟨tg,iter,ifs,0⟩] pos) (GX (.type "set")) (firstAsync [⟨tg,iter,ifs,0⟩]) (firstIter [⟨tg,iter,ifs,0⟩] X.env)) _ _ _;refine gH (use:=none) rfl hs hcl S.kind S.loc (dX (hi pins s σ H _ I h) fun v s1 h1=>dX h1 fun itv s2 h2=>?_);obtain ⟨it,fp,tn,J,H2,e,I2,T,st2,f2,W,w0,turn⟩:=h2;subst e;refine FE (RR:=fun acc C=>Cf (ar X.prog X.w) X.A X.xe none (EP X pins σ Q) acc C) hc S lo hb c1 c2 I2 T st2 f2 w0 turn ?_;intro D C m s' acc H' hD _ q hn hI;exact ⟨m,hn,fun h' sb=>⟨.ref D,_,hI h' sb,rfl,q⟩⟩
section
theorem xu:jv X (.builtin "len") (fun xs H Q=>∃ p ss,xs=[.ref p]/\H p=some (lF X.w p ss)/\Q (.int ss.length) H):=by
 intro pins s σ H xs us Q I r h;obtain ⟨p,ss,rfl,hq,q⟩:=h;obtain ⟨u,rfl,rx⟩:=kj r;cases rx;obtain ⟨es,ep,t,is,pm⟩:=(show dE X.prog X.w H s.heap p (lF X.w p ss) from I.hok p _ hq).1;have hlen:es.size=ss.length:=by rw [<- pm.length_eq,au,aL]
 have hsm:(es.size:Int)<2 ^ 63:=by
  have h1:=is.few;have h2:gx<=2 ^ 62:=by decide
  omega
 refine ma kind_len plain_len entry_len (args_len1 _) (wpAny_len_body_set is.at_ ⟨rfl,rfl,rfl⟩ rfl is.fits hsm ?_);refine ⟨.int _,H,I.tok _,⟨_,rfl⟩,?_⟩;rw [hlen];exact q
end
end
end L2
section
namespace L2
open PySem PySem.Spec PyProof.Rows
section
variable {K:a8}{nt:Nat}{ix:List Nat}{te:TE}{σ:St}{H1:Hp}{Q:VK}{a:ah}{xs:List V}{i:Nat}
end
end L2
namespace L2
open PySem PySem.Spec PyProof.Rows
def DU (so:dU) (N:List Str) (scope:dU) (N':List Str) (nt:Nat) (ix:List Nat):Bool :=
 (scope.kind == .function)&&(scope.names.all fun y=>y.2 != .cell||scope.names.lookup y.1==some .cell)&&(scope.names.all fun y=>y.2 != .local||scope.names.lookup y.1==some .local) &&
 (scope.names.all fun y=>y.2 != .free||so.names.lookup y.1==some .cell||so.names.lookup y.1==some .free) &&
 ((bY ix.length).all fun k=>match ix[k]? with
  |none=>false
  |some i=>match N[i]? with
   |none=>false
   |some x=>N'[nt+k]? == some x&&scope.names.lookup x==some .free)&&(N'.length==nt+ix.length)
theorem cD       (h:DU so N scope N' nt ix=true) (h1:X.env.scope=so:=by rfl) (h2:X.N=N:=by rfl):iE X scope N' nt ix:=by
 unfold DU at h;simp only [aT,cY] at h;obtain ⟨⟨⟨⟨⟨a,b⟩,c⟩,d⟩,e⟩,l⟩:=h;refine ⟨by simpa using a,fun y hy z=>?_,fun y hy z=>?_,fun y hy z=>?_,fun k i hk=>?_,by simpa using l⟩
 ·have:=b y hy;simpa [z] using this
 ·have:=c y hy;simpa [z] using this
 ·have:=d y hy;rw [h1];simpa [z] using this
 ·have hl:k<ix.length:=(List.getElem?_eq_some_iff.mp hk).1;have:=e k (List.mem_range.mpr hl);rw [hk] at this;rw [h2];simp only at this;split at this
  ·cases this
  ·rename_i x hx
   simp only [aT] at this;exact ⟨x,hx,by simpa using this.1,by simpa using this.2⟩
end L2
end
namespace L2
open PySem PySem.Spec PyProof.Rows
section
section
variable {K:a8}{nt:Nat}{ix:List Nat}{te:TE}{σ:St}{H1:Hp}{Q:VK}{a b:ah}{xs ys:List V}{i k:Nat}
end
end
end L2
namespace J
open PySem L2
section
abbrev D:=yR
inductive R (α:Type) where
 |ok (a:α)
 |ex (c:Str) (n:Option D)
 |no
def R.bind {α β:Type}:R α->(α->R β)->R β
 |.ok a,f=>f a
 |.ex c n,_=>.ex c n
 |.no,_=>.no
@[simp] theorem bind_ok {α β:Type} (a:α) (f:α->R β):(R.ok a).bind f=f a:=rfl
@[simp] theorem bind_ex {α β:Type} (c:Str) (n:Option D) (f:α->R β):(R.ex c n).bind f=.ex c n:=rfl
@[simp] theorem bind_no {α β:Type} (f:α->R β):(R.no:R α).bind f=.no:=rfl
def kD:eR->D
 |.inl i=>.int i
 |.inr x=>.str x
def tD (ks:List eR):D:=.tuple (ks.map kD)
mutual
inductive RD (K:a8) (H:Hp):V->D->Prop
 |none:RD K H .non .none
 |bool (b:Bool):RD K H (.bl b) (.bool b)
 |int (i:Int):RD K H (.int i) (.int i)
 |str (x:Str):RD K H (.str x) (.str x)
 |list {a:ah}{xs:List V}{ds:List D}:lz K H a xs->RDs K H xs ds->RD K H (.ref a) (.list ds)
 |tuple {a:ah}{xs:List V}{ds:List D}:H a=some (.tup xs)->RDs K H xs ds->RD K H (.ref a) (.tuple ds)
 |dictK {a:ah}{kvs:List (eR×V)}{ds:List (D×D)}:H a=some (.dK kvs)->RDk K H kvs ds->RD K H (.ref a) (.dict ds)
 |dictT {a:ah}{kvs:List (List eR×V)}{ds:List (D×D)}:H a=some (.dT kvs)->kvs≠[]->RDt K H kvs ds->RD K H (.ref a) (.dict ds)
 |dictF {a:ah}{o:Obj}{kvs:List (List eR×V)}{ds:List (D×D)}:H a=some (.frz o (.dT kvs))->kvs≠[]->RDt K H kvs ds->RD K H (.ref a) (.dict ((.none,.none)::ds))
inductive RDs (K:a8) (H:Hp):List V->List D->Prop
 |nil:RDs K H [] []
 |cons {x:V}{xs:List V}{d:D}{ds:List D}:RD K H x d->RDs K H xs ds->RDs K H (x::xs) (d::ds)
inductive RDk (K:a8) (H:Hp):List (eR×V)->List (D×D)->Prop
 |nil:RDk K H [] []
 |cons {k:eR}{x:V}{xs:List (eR×V)}{d:D}{ds:List (D×D)}:RD K H x d->RDk K H xs ds->RDk K H ((k,x)::xs) ((kD k,d)::ds)
inductive RDt (K:a8) (H:Hp):List (List eR×V)->List (D×D)->Prop
 |nil:RDt K H [] []
 |cons {k:List eR}{x:V}{xs:List (List eR×V)}{d:D}{ds:List (D×D)}:RD K H x d->RDt K H xs ds->RDt K H ((k,x)::xs) ((tD k,d)::ds)
end
section
theorem RD.same (e:cz H H')  (h:RD K H v d):RD K H' v d:=RD.rec (motive_1:=fun v d _=>RD K H' v d) (motive_2:=fun v d _=>RDs K H' v d) (motive_3:=fun v d _=>RDk K H' v d) (motive_4:=fun v d _=>RDt K H' v d) .none .bool .int .str (fun h _ r=>.list (e.seq h) r) (fun h _ r=>.tuple (e _ _ h) r) (fun h _ r=>.dictK (e _ _ h) r) (fun h n _ r=>.dictT (e _ _ h) n r) (fun h n _ r=>.dictF (e _ _ h) n r) .nil (fun _ _ a b=>.cons a b) .nil (fun _ _ a b=>.cons a b) .nil (fun _ _ a b=>.cons a b) h
theorem RDs.same (e:cz H H')  (h:RDs K H v d):RDs K H' v d:=RDs.rec (motive_1:=fun v d _=>RD K H' v d) (motive_2:=fun v d _=>RDs K H' v d) (motive_3:=fun v d _=>RDk K H' v d) (motive_4:=fun v d _=>RDt K H' v d) .none .bool .int .str (fun h _ r=>.list (e.seq h) r) (fun h _ r=>.tuple (e _ _ h) r) (fun h _ r=>.dictK (e _ _ h) r) (fun h n _ r=>.dictT (e _ _ h) n r) (fun h n _ r=>.dictF (e _ _ h) n r) .nil (fun _ _ a b=>.cons a b) .nil (fun _ _ a b=>.cons a b) .nil (fun _ _ a b=>.cons a b) h
theorem RDk.same (e:cz H H')  (h:RDk K H v d):RDk K H' v d:=RDk.rec (motive_1:=fun v d _=>RD K H' v d) (motive_2:=fun v d _=>RDs K H' v d) (motive_3:=fun v d _=>RDk K H' v d) (motive_4:=fun v d _=>RDt K H' v d) .none .bool .int .str (fun h _ r=>.list (e.seq h) r) (fun h _ r=>.tuple (e _ _ h) r) (fun h _ r=>.dictK (e _ _ h) r) (fun h n _ r=>.dictT (e _ _ h) n r) (fun h n _ r=>.dictF (e _ _ h) n r) .nil (fun _ _ a b=>.cons a b) .nil (fun _ _ a b=>.cons a b) .nil (fun _ _ a b=>.cons a b) h
theorem RDt.same (e:cz H H')  (h:RDt K H v d):RDt K H' v d:=RDt.rec (motive_1:=fun v d _=>RD K H' v d) (motive_2:=fun v d _=>RDs K H' v d) (motive_3:=fun v d _=>RDk K H' v d) (motive_4:=fun v d _=>RDt K H' v d) .none .bool .int .str (fun h _ r=>.list (e.seq h) r) (fun h _ r=>.tuple (e _ _ h) r) (fun h _ r=>.dictK (e _ _ h) r) (fun h n _ r=>.dictT (e _ _ h) n r) (fun h n _ r=>.dictF (e _ _ h) n r) .nil (fun _ _ a b=>.cons a b) .nil (fun _ _ a b=>.cons a b) .nil (fun _ _ a b=>.cons a b) h
mutual
def nh:D->Bool
 |.dict _=>false
 |.list xs=>noDs xs
 |.tuple xs=>noDs xs
 |_=>true
def noDs:List D->Bool
 |[]=>true
 |x::r=>nh x&&noDs r
end
theorem MP (h:(a&&b)=true):a=true:=(Bool.and_eq_true_iff.mp h).1
theorem MQ (h:(a&&b)=true):b=true:=(Bool.and_eq_true_iff.mp h).2
theorem RD.rep  (h:RD K H v d):nh d=true->CM K H v d:=RD.rec (motive_1:=fun v d _=>nh d=true->CM K H v d) (motive_2:=fun v d _=>noDs d=true->Reps K H v d) (motive_3:=fun _ _ _=>True) (motive_4:=fun _ _ _=>True) (fun _=>.none) (fun b _=>.bool b) (fun i _=>.int i) (fun x _=>.str x) (fun h _ r e=>.list h (r e)) (fun h _ r e=>.tuple (.of h) (r e)) (fun _ _ _ e=>v6 e) (fun _ _ _ _ e=>v6 e) (fun _ _ _ _ e=>v6 e) (fun _=>.nil) (fun _ _ a b e=>.cons (a (MP e)) (b (MQ e))) trivial (fun _ _ _ _=>trivial) trivial (fun _ _ _ _=>trivial) h
theorem RDs.length:∀ {ds:List D},RDs K H vs ds->vs.length=ds.length:=by
 induction vs with
 |nil=>intro ds h;cases h;rfl
 |cons x r ih=>intro ds h;cases h with|cons a b=>exact congrArg (· + 1) (ih b)
theorem RDs.get:∀ {ds:List D}{i:Nat}{v:V},RDs K H vs ds->vs[i]?=some v->∃ d,ds[i]?=some d/\RD K H v d:=by
 induction vs with
 |nil=>intro ds i v _ e;cases e
 |cons x r ih =>
  intro ds i v h e;cases h with
  |cons a b =>
   cases i with
   |zero=>cases e;exact ⟨_,rfl,a⟩
   |succ i=>have q:=ih (i:=i) b e;exact q
theorem RDs.get':∀ {ds:List D}{i:Nat}{d:D},RDs K H vs ds->ds[i]?=some d->∃ v,vs[i]?=some v/\RD K H v d:=by
 induction vs with
 |nil=>intro ds i v h e;cases h;cases e
 |cons x r ih =>
  intro ds i v h e;cases h with
  |cons a b =>
   cases i with
   |zero=>cases e;exact ⟨_,rfl,a⟩
   |succ i=>have q:=ih (i:=i) b e;exact q
theorem RDs.append  : ∀ {ds:List D},RDs K H vs ds->RDs K H ws es->RDs K H (vs++ws) (ds++es):=by
 induction vs with
 |nil=>intro ds h s;cases h;exact s
 |cons x r ih=>intro ds h s;cases h with|cons a b=>exact .cons a (ih b s)
theorem RDs.drop:∀ {ds:List D} (n:Nat),RDs K H vs ds->RDs K H (vs.drop n) (ds.drop n):=by
 induction vs with
 |nil=>intro ds n h;cases h;cases n<;>exact .nil
 |cons x r ih =>
  intro ds n h;cases n with
  |zero=>exact h
  |succ n=>cases h with|cons a b=>exact ih n b
theorem RDs.take:∀ {ds:List D} (n:Nat),RDs K H vs ds->RDs K H (vs.take n) (ds.take n):=by
 induction vs with
 |nil=>intro ds n h;cases h;cases n<;>exact .nil
 |cons x r ih =>
  intro ds n h;cases n with
  |zero=>exact .nil
  |succ n=>cases h with|cons a b=>exact .cons a (ih n b)
theorem vV:∀ (ss:List Str),RDs K H (ss.map V.str) (ss.map aF)
 |[]=>.nil
 |x::r=>.cons (.str x) (vV r)
theorem RD.str_inv  (h:RD K H v (.str x)):v=.str x:=by cases h;rfl
theorem RD.bool_inv  (h:RD K H v (.bool x)):v=.bl x:=by cases h;rfl
theorem RD.int_inv  (h:RD K H v (.int x)):v=.int x:=by cases h;rfl
theorem DV {α:Type}{c:α->D}{k:α->V} (hc:∀ {v x},RD K H v (c x)->v=k x) {ss:List α}:∀ {vs:List V},RDs K H vs (ss.map c)->vs=ss.map k:=by
 induction ss with
 |nil=>intro vs h;cases h;rfl
 |cons x r ih=>intro vs h;cases h with|cons a b=>rw [hc a,ih b];rfl
theorem nA {ss:List Str}{vs:List V}:RDs K H vs (ss.map aF)->vs=ss.map V.str:=DV RD.str_inv
theorem xv {ss:List Bool}{vs:List V}:RDs K H vs (ss.map cK)->vs=ss.map V.bl:=DV RD.bool_inv
end
def nt:HO->Bool
 |.tup _=>false
 |_=>true
structure c8 (H Hs H' Hs':Hp):Prop where
 all:cz H H'
 sh:cz Hs Hs'
 sub:cz Hs' H'
 out:∀ a o,H a=some o->nt o=true->Hs a=none->Hs' a=none
theorem c8.refl (h:cz Hs H):c8 H Hs H Hs:=⟨.refl _,.refl _,h,fun _ _ _ _ e=>e⟩
theorem c8.trans (a:c8 H Hs H1 Hs1) (b:c8 H1 Hs1 H2 Hs2):c8 H Hs H2 Hs2 :=
 ⟨a.all.trans b.all,a.sh.trans b.sh,b.sub,fun c o e t n=>b.out c o (a.all c o e) t (a.out c o e t n)⟩
theorem c8.new   (h:cz Hs H) (n:H p=none):c8 H Hs (upd H p o) (upd Hs p o):=by
 have n':Hs p=none:=h.free n;refine ⟨kW n,kW n',fun b u e=>?_,fun a u e t z=>?_⟩
 ·by_cases hb:b=p
  ·subst hb;rw [bi] at e ⊢;exact e
  ·rw [bh hb] at e ⊢;exact h b u e
 ·rw [bh (bO e n)];exact z
theorem c8.mine   (h:cz Hs H) (n:H p=none):c8 H Hs (upd H p o) Hs:=by
 refine ⟨kW n,.refl _,fun b u e=>?_,fun a u e t z=>z⟩;have e':=h b u e;rw [bh (bO e' n)];exact e'
inductive lG (K:a8) (Hs:Hp):HO->D->Prop
 |lst {vs:List V}{ds:List D}:RDs K Hs vs ds->lG K Hs (.lst vs) (.list ds)
 |dK {kvs:List (eR×V)}{ds:List (D×D)}:RDk K Hs kvs ds->lG K Hs (.dK kvs) (.dict ds)
 |dT {kvs:List (List eR×V)}{ds:List (D×D)}:kvs≠[]->RDt K Hs kvs ds->lG K Hs (.dT kvs) (.dict ds)
 |dF {o:Obj}{kvs:List (List eR×V)}{ds:List (D×D)}:kvs≠[]->RDt K Hs kvs ds->lG K Hs (.frz o (.dT kvs)) (.dict ((.none,.none)::ds))
theorem lG.same    (e:cz Hs Hs') (h:lG K Hs o d):lG K Hs' o d:=by
 cases h with
 |lst r=>exact .lst (r.same e)
 |dK r=>exact .dK (r.same e)
 |dT n r=>exact .dT n (r.same e)
 |dF n r=>exact .dF n (r.same e)
theorem lG.nt    (h:lG K Hs o d):J.nt o=true:=by cases h<;>rfl
theorem lG.share     (n:Hs a=none) (h:lG K Hs o d):RD K (upd Hs a o) (.ref a) d:=by
 have e:cz Hs (upd Hs a o):=kW n;cases h with
 |lst r=>exact .list (.of bi) (r.same e)
 |dK r=>exact .dictK bi (r.same e)
 |dT n r=>exact .dictT bi n (r.same e)
 |dF n r=>exact .dictF bi n (r.same e)
inductive Sl where
 |no
 |shr (d:D)
 |own (d:D)
 |lck (d:D)
 |ow2 (dss:List (List D))
abbrev ay:=List Sl
inductive y7 (K:a8) (H Hs:Hp):List ah->List (List D)->Prop
 |nil:y7 K H Hs [] []
 |cons {a:ah}{as:List ah}{vs:List V}{ds:List D}{dss:List (List D)}:H a=some (.lst vs)->RDs K Hs vs ds->y7 K H Hs as dss->y7 K H Hs (a::as) (ds::dss)
theorem y7.step  (e:cz H H') (e':cz Hs Hs')  (h:y7 K H Hs as dss):y7 K H' Hs' as dss:=by
 induction h with
 |nil=>exact .nil
 |cons h r t ih=>exact .cons (e _ _ h) (r.same e') ih
theorem y7.upd      (n:b∉as) (h:y7 K H Hs as dss):y7 K (upd H b o) Hs as dss:=by
 induction h with
 |nil=>exact .nil
 |cons h r t ih=>exact .cons (by rw [bh (fun z=>n (by rw [<- z];exact al))];exact h) r (ih fun z=>n (ai _ z))
theorem y7.there     (h:y7 K H Hs as dss) (hb:b∈as):∃ o,H b=some o/\nt o=true:=by
 induction h with
 |nil=>cases hb
 |cons h r t ih =>
  rcases List.mem_cons.mp hb with e|hb
  ·exact ⟨_,e ▸ h,rfl⟩
  ·exact ih hb
structure O2 (K:a8) (H0 H Hs:Hp) (ρ:ay) (σ:St) (i:Nat) (dss:List (List D)) (a:ah) (as:List ah):Prop where
 at_:σ[i]?=some (some (V.ref a))
 ob:H a=some (.lst (as.map V.ref))
 nd:(a::as).Nodup
 out:∀ b∈a::as,Hs b=none/\H0 b=none
 dj:∀ b∈a::as,∀ (j:Nat) (e:D),ρ[j]?=some (Sl.own e)->σ[j]?≠some (some (V.ref b))
 inn:y7 K H Hs as dss
structure Fr (K:a8) (H0 Hs0:Hp) (la:Nat->Option ah) (ρ:ay) (σ:St) (H Hs:Hp):Prop where
 st:c8 H0 Hs0 H Hs
 len:ρ.length=σ.length
 sh:∀ (i:Nat) (d:D),ρ[i]?=some (Sl.shr d)->∃ v,σ[i]?=some (some v)/\RD K Hs v d
 ow:∀ (i:Nat) (d:D),ρ[i]?=some (Sl.own d)->∃ a o,σ[i]?=some (some (V.ref a))/\H a=some o/\Hs a=none/\H0 a=none/\lG K Hs o d
 lk:∀ (i:Nat) (d:D),ρ[i]?=some (Sl.lck d)->∃ a o,σ[i]?=some (some (V.ref a))/\la i=some a/\H a=some o/\Hs a=none/\H0 a=some o/\lG K Hs o d
 dj:∀ (i j:Nat) (d e:D) (a:ah),ρ[i]?=some (Sl.own d)->ρ[j]?=some (Sl.own e)->σ[i]?=some (some (V.ref a))->σ[j]?=some (some (V.ref a))->i=j
 lh:∀ (i:Nat) (a:ah),la i=some a->∃ o,H0 a=some o
 o2:∀ (i:Nat) (dss:List (List D)),ρ[i]?=some (Sl.ow2 dss)->∃ a as,O2 K H0 H Hs ρ σ i dss a as
 u2:∀ (i j:Nat) (d e:List (List D)),ρ[i]?=some (Sl.ow2 d)->ρ[j]?=some (Sl.ow2 e)->i=j
theorem Fr.step     (f:Fr K H0 Hs0 la ρ σ H Hs) (s:c8 H Hs H' Hs'):Fr K H0 Hs0 la ρ σ H' Hs':=by
 refine ⟨f.st.trans s,f.len,fun i d e=>?_,fun i d e=>?_,fun i d e=>?_,f.dj,f.lh,fun i dss e=>?_,f.u2⟩
 ·obtain ⟨v,h1,h2⟩:=f.sh i d e;exact ⟨v,h1,h2.same s.sh⟩
 ·obtain ⟨a,o,h1,h2,h3,h4,h5⟩:=f.ow i d e;exact ⟨a,o,h1,s.all _ _ h2,s.out _ _ h2 h5.nt h3,h4,h5.same s.sh⟩
 ·obtain ⟨a,o,h1,h2,h3,h4,h5,h6⟩:=f.lk i d e;exact ⟨a,o,h1,h2,s.all _ _ h3,s.out _ _ h3 h6.nt h4,h5,h6.same s.sh⟩
 ·obtain ⟨a,as,h⟩:=f.o2 i dss e;refine ⟨a,as,h.at_,s.all _ _ h.ob,h.nd,fun b hb=>⟨?_,(h.out b hb).2⟩,h.dj,h.inn.step s.all s.sh⟩;have there:∃ o,H b=some o/\nt o=true:=by
   rcases List.mem_cons.mp hb with rfl|hb
   ·exact ⟨_,h.ob,rfl⟩
   ·exact h.inn.there hb
  obtain ⟨o,ho,hn⟩:=there;exact s.out b o ho hn (h.out b (by assumption)).1
inductive Ql (K:a8) (H Hs:Hp) (v:V) (d:D):Prop
 |mk (a:ah) (o:HO) (h0:v=.ref a) (h1:H a=some o) (h2:Hs a=none) (h3:lG K Hs o d):Ql K H Hs v d
def RB (K:a8) (H Hs:Hp) (v:V) (d:D):Prop:=RD K Hs v d\/Ql K H Hs v d
theorem RB.step    (h:RB K H Hs v d) (s:c8 H Hs H' Hs'):RB K H' Hs' v d:=by
 rcases h with h|⟨a,o,h1,h2,h3,h4⟩
 ·exact .inl (h.same s.sh)
 ·exact .inr ⟨a,o,h1,s.all _ _ h2,s.out _ _ h2 h4.nt h3,h4.same s.sh⟩
theorem RB.full    (sub:cz Hs H) (h:RB K H Hs v d):RD K H v d:=by
 rcases h with h|⟨a,o,rfl,h2,h3,h4⟩
 ·exact h.same sub
 ·have e:cz (upd Hs a o) H:=fun b u q=>by
   by_cases hb:b=a
   ·subst hb;rw [bi] at q;cases q;exact h2
   ·rw [bh hb] at q;exact sub b u q
  exact (h4.share h3).same e
theorem RB.list    (sub:cz Hs H) (h:RB K H Hs v (.list ds)):∃ a vs,v=.ref a/\lz K H a vs/\RDs K Hs vs ds:=by
 rcases h with h|⟨a,o,rfl,h2,h3,h4⟩
 ·cases h with|list q r=>exact ⟨_,_,rfl,sub.seq q,r⟩
 ·cases h4 with|lst r=>exact ⟨a,_,rfl,.of h2,r⟩
theorem RB.tuple    (sub:cz Hs H) (h:RB K H Hs v (.tuple ds)):∃ a vs,v=.ref a/\jR K H a vs/\RDs K Hs vs ds/\Hs a=some (.tup vs):=by
 rcases h with h|⟨a,o,rfl,h2,h3,h4⟩
 ·cases h with|tuple q r=>exact ⟨_,_,rfl,.of (sub _ _ q),r,q⟩
 ·cases h4
theorem RB.str    (h:RB K H Hs v (.str x)):v=.str x:=by
 rcases h with h|⟨a,o,rfl,h2,h3,h4⟩
 ·exact h.str_inv
 ·cases h4
theorem RB.int    (h:RB K H Hs v (.int i)):v=.int i:=by
 rcases h with h|⟨a,o,rfl,h2,h3,h4⟩
 ·exact h.int_inv
 ·cases h4
def XW (K:a8) (cls:Str->ah) (E:XK) (c:Str) (n:Option D) (H Hs:Hp):Prop:=match n with
 |none=>E (.ref (cls c)) none H
 |some d=>∀ dx v,H dx=some (.xd [("number",v)])->RD K Hs v d->E (.ref (cls c)) (some dx) H
def Fin {α:Type} (K:a8) (cls:Str->ah) (E:XK) (H Hs:Hp) (r:R α) (q:α->Prop):Prop:=match r with
 |.ok d=>q d
 |.ex c n=>∀ H' Hs',c8 H Hs H' Hs'->XW K cls E c n H' Hs'
 |.no=>False
inductive T4 (K:a8) (cls:Str->ah) (E:XK) (ρ:ay) (r:R D) (σ:St) (H:Hp) (Q:VK):Prop
 |mk (H0 Hs0:Hp) (la:Nat->Option ah) (Hs:Hp) (f:Fr K H0 Hs0 la ρ σ H Hs) (q:Fin K cls E H Hs r fun d=>∀ v H' Hs',c8 H Hs H' Hs'->RD K Hs' v d->Q v H'):T4 K cls E ρ r σ H Q
def TR (K:a8) (cls:Str->ah) (E:XK) (ρ:ay) (r:R D):TE:=T4 K cls E ρ r
inductive T5 (K:a8) (cls:Str->ah) (E:XK) (ρ:ay) (r:R D) (σ:St) (H:Hp) (Q:VK):Prop
 |mk (H0 Hs0:Hp) (la:Nat->Option ah) (Hs:Hp) (f:Fr K H0 Hs0 la ρ σ H Hs) (q:Fin K cls E H Hs r fun d=>∀ v H' Hs',c8 H Hs H' Hs'->RB K H' Hs' v d->Q v H'):T5 K cls E ρ r σ H Q
def TB (K:a8) (cls:Str->ah) (E:XK) (ρ:ay) (r:R D):TE:=T5 K cls E ρ r
inductive Qm (K:a8) (cls:Str->ah) (E:XK) (ρ:ay) (r:R Bool) (σ:St) (H:Hp) (Q:Bool->Hp->Prop):Prop
 |mk (H0 Hs0:Hp) (la:Nat->Option ah) (Hs:Hp) (f:Fr K H0 Hs0 la ρ σ H Hs) (q:Fin K cls E H Hs r fun b=>∀ H' Hs',c8 H Hs H' Hs'->Q b H'):Qm K cls E ρ r σ H Q
def Af (K:a8) (cls:Str->ah) (E:XK) (ρ:ay) (r:R Bool):TT:=Qm K cls E ρ r
inductive MR (K:a8) (H Hs:Hp):List V->List D->Prop
 |nil:MR K H Hs [] []
 |cons {x:V}{xs:List V}{d:D}{ds:List D}:RB K H Hs x d->MR K H Hs xs ds->MR K H Hs (x::xs) (d::ds)
inductive Qn (K:a8) (cls:Str->ah) (E:XK) (ρ:ay) (r:R (List D)) (σ:St) (H:Hp) (Q:List V->Hp->Prop):Prop
 |mk (H0 Hs0:Hp) (la:Nat->Option ah) (Hs:Hp) (f:Fr K H0 Hs0 la ρ σ H Hs) (q:Fin K cls E H Hs r fun d=>∀ v H' Hs',c8 H Hs H' Hs'->RDs K Hs' v d->Q v H'):Qn K cls E ρ r σ H Q
def RA (K:a8) (cls:Str->ah) (E:XK) (ρ:ay) (r:R (List D)):TA:=Qn K cls E ρ r
inductive Qo (K:a8) (cls:Str->ah) (E:XK) (ρ:ay) (r:R (List D)) (σ:St) (H:Hp) (Q:List V->Hp->Prop):Prop
 |mk (H0 Hs0:Hp) (la:Nat->Option ah) (Hs:Hp) (f:Fr K H0 Hs0 la ρ σ H Hs) (q:Fin K cls E H Hs r fun d=>∀ v H' Hs',c8 H Hs H' Hs'->MR K H' Hs' v d->Q v H'):Qo K cls E ρ r σ H Q
def RC (K:a8) (cls:Str->ah) (E:XK) (ρ:ay) (r:R (List D)):TA:=Qo K cls E ρ r
structure C where
 X:Cx
 cls:Str->ah
 E:XK
structure JE (c:C) (e:a_) (g:ay->R D):Prop where of ::
 run:∀ ρ,PE c.X e (TR c.X.K c.cls c.E ρ (g ρ))
instance {c:C}{e:a_}{g:ay->R D}:CoeFun (JE c e g) (fun _=>∀ ρ,PE c.X e (TR c.X.K c.cls c.E ρ (g ρ))):=⟨JE.run⟩
structure JB (c:C) (e:a_) (g:ay->R D):Prop where of ::
 run:∀ ρ,PE c.X e (TB c.X.K c.cls c.E ρ (g ρ))
instance {c:C}{e:a_}{g:ay->R D}:CoeFun (JB c e g) (fun _=>∀ ρ,PE c.X e (TB c.X.K c.cls c.E ρ (g ρ))):=⟨JB.run⟩
structure JT (c:C) (e:a_) (g:ay->R Bool):Prop where of ::
 run:∀ ρ,PT c.X e (Af c.X.K c.cls c.E ρ (g ρ))
instance {c:C}{e:a_}{g:ay->R Bool}:CoeFun (JT c e g) (fun _=>∀ ρ,PT c.X e (Af c.X.K c.cls c.E ρ (g ρ))):=⟨JT.run⟩
structure JW (c:C) (e:a_) (g:ay->R Bool):Prop where of ::
 run:∀ ρ,PW c.X e (Af c.X.K c.cls c.E ρ (g ρ))
instance {c:C}{e:a_}{g:ay->R Bool}:CoeFun (JW c e g) (fun _=>∀ ρ,PW c.X e (Af c.X.K c.cls c.E ρ (g ρ))):=⟨JW.run⟩
structure FF (c:C) (es:List a_) (g:ay->R (List D)):Prop where of ::
 run:∀ ρ,PA c.X es (RA c.X.K c.cls c.E ρ (g ρ))
instance {c:C}{es:List a_}{g:ay->R (List D)}:CoeFun (FF c es g) (fun _=>∀ ρ,PA c.X es (RA c.X.K c.cls c.E ρ (g ρ))):=⟨FF.run⟩
structure MS (c:C) (es:List a_) (g:ay->R (List D)):Prop where of ::
 run:∀ ρ,PA c.X es (RC c.X.K c.cls c.E ρ (g ρ))
instance {c:C}{es:List a_}{g:ay->R (List D)}:CoeFun (MS c es g) (fun _=>∀ ρ,PA c.X es (RC c.X.K c.cls c.E ρ (g ρ))):=⟨MS.run⟩
section
theorem rK   (h:PE X e t) (m:∀ σ H Q,t' σ H Q->t σ H Q):PE X e t':=fun pins s σ H Q I q=>h pins s σ H Q I (m σ H Q q)
theorem Qp   (h:PT X e t) (m:∀ σ H Q,t' σ H Q->t σ H Q):PT X e t':=fun pins s σ H Q I q=>h pins s σ H Q I (m σ H Q q)
theorem T6   (h:PW X e t) (m:∀ σ H Q,t' σ H Q->t σ H Q):PW X e t':=fun wh pins s σ H Q I q=>h wh pins s σ H Q I (m σ H Q q)
theorem OC {X:Cx}{e:List a_}{t t':TA} (h:PA X e t) (m:∀ σ H Q,t' σ H Q->t σ H Q):PA X e t':=fun pos pins s σ H Q I q=>h pos pins s σ H Q I (m σ H Q q)
theorem xw {X:Cx}{e:eJ}{t t':TS} (h:PS X e t) (m:∀ D σ H,t' D σ H->t D σ H):PS X e t':=fun pins s σ H Q I q=>h pins s σ H Q I (m Q σ H q)
theorem Sv {X:Cx}{e:List eJ}{t t':TS} (h:DK X e t) (m:∀ D σ H,t' D σ H->t D σ H):DK X e t':=fun pins s σ H Q I q=>h pins s σ H Q I (m Q σ H q)
theorem JE.bor (h:JE c e g):JB c e g:=.of fun ρ=>rK (h ρ) fun σ H Q ⟨H0,Hs0,la,Hs,f,q⟩=>⟨H0,Hs0,la,Hs,f,by
 cases hr:g ρ with
 |ok d=>rw [hr] at q;exact fun v H' Hs' s r=>q v H' Hs' s (.inl r)
 |ex c n=>rw [hr] at q;exact q
 |no=>rw [hr] at q;exact q⟩
theorem one {K:a8}{cls:Str->ah}{E:XK}{ρ:ay}{r:R D}{β:Type}{k:D->R β}{σ:St}{H:Hp}{H0 Hs0 Hs:Hp}{la:Nat->Option ah}{Q:V->Hp->Prop}{q:β->Prop} (f:Fr K H0 Hs0 la ρ σ H Hs)
  (h:Fin K cls E H Hs (r.bind k) q) (m:∀ d v H' Hs',r=.ok d->c8 H Hs H' Hs'->Fr K H0 Hs0 la ρ σ H' Hs'->RB K H' Hs' v d->Q v H'):TB K cls E ρ r σ H Q:=by
 refine ⟨H0,Hs0,la,Hs,f,?_⟩;cases r with
 |ok d=>exact fun v H' Hs' s r=>m d v H' Hs' rfl s (f.step s) r
 |ex c n=>exact h
 |no=>exact h
theorem zk {K:a8}{cls:Str->ah}{E:XK}{ρ:ay}{r:R D}{β:Type}{k:D->R β}{σ:St}{H:Hp}{H0 Hs0 Hs:Hp}{la:Nat->Option ah}{Q:V->Hp->Prop}{q:β->Prop} (f:Fr K H0 Hs0 la ρ σ H Hs)
  (h:Fin K cls E H Hs (r.bind k) q) (m:∀ d v H' Hs',r=.ok d->c8 H Hs H' Hs'->Fr K H0 Hs0 la ρ σ H' Hs'->RD K Hs' v d->Q v H'):TR K cls E ρ r σ H Q:=by
 refine ⟨H0,Hs0,la,Hs,f,?_⟩;cases r with
 |ok d=>exact fun v H' Hs' s r=>m d v H' Hs' rfl s (f.step s) r
 |ex c n=>exact h
 |no=>exact h
theorem Ik {K:a8}{cls:Str->ah}{E:XK}{ρ:ay}{r:R Bool}{β:Type}{k:Bool->R β}{σ:St}{H:Hp}{H0 Hs0 Hs:Hp}{la:Nat->Option ah}{Q:Bool->Hp->Prop}{q:β->Prop} (f:Fr K H0 Hs0 la ρ σ H Hs)
  (h:Fin K cls E H Hs (r.bind k) q) (m:∀ d H' Hs',r=.ok d->c8 H Hs H' Hs'->Fr K H0 Hs0 la ρ σ H' Hs'->Q d H'):Af K cls E ρ r σ H Q:=by
 refine ⟨H0,Hs0,la,Hs,f,?_⟩;cases r with
 |ok d=>exact fun H' Hs' s=>m d H' Hs' rfl s (f.step s)
 |ex c n=>exact h
 |no=>exact h
theorem AH {K:a8}{cls:Str->ah}{E:XK}{ρ:ay}{r:R (List D)}{β:Type}{k:List D->R β}{σ:St}{H:Hp}{H0 Hs0 Hs:Hp}{la:Nat->Option ah}{Q:List V->Hp->Prop}{q:β->Prop} (f:Fr K H0 Hs0 la ρ σ H Hs)
  (h:Fin K cls E H Hs (r.bind k) q) (m:∀ d v H' Hs',r=.ok d->c8 H Hs H' Hs'->Fr K H0 Hs0 la ρ σ H' Hs'->RDs K Hs' v d->Q v H'):RA K cls E ρ r σ H Q:=by
 refine ⟨H0,Hs0,la,Hs,f,?_⟩;cases r with
 |ok d=>exact fun v H' Hs' s r=>m d v H' Hs' rfl s (f.step s) r
 |ex c n=>exact h
 |no=>exact h
theorem Il {K:a8}{cls:Str->ah}{E:XK}{ρ:ay}{r:R (List D)}{β:Type}{k:List D->R β}{σ:St}{H:Hp}{H0 Hs0 Hs:Hp}{la:Nat->Option ah}{Q:List V->Hp->Prop}{q:β->Prop} (f:Fr K H0 Hs0 la ρ σ H Hs)
  (h:Fin K cls E H Hs (r.bind k) q) (m:∀ d v H' Hs',r=.ok d->c8 H Hs H' Hs'->Fr K H0 Hs0 la ρ σ H' Hs'->MR K H' Hs' v d->Q v H'):RC K cls E ρ r σ H Q:=by
 refine ⟨H0,Hs0,la,Hs,f,?_⟩;cases r with
 |ok d=>exact fun v H' Hs' s r=>m d v H' Hs' rfl s (f.step s) r
 |ex c n=>exact h
 |no=>exact h
theorem Fin.on {α:Type}{K:a8}{cls:Str->ah}{E:XK}{H Hs H' Hs':Hp}{r:R α}{q q':α->Prop} (h:Fin K cls E H Hs r q) (s:c8 H Hs H' Hs') (m:∀ a,q a->q' a):Fin K cls E H' Hs' r q':=by
 cases r with
 |ok a=>exact m a h
 |ex c n=>exact fun H2 Hs2 s2=>h H2 Hs2 (s.trans s2)
 |no=>exact h
end
end
section
def CQ (ρ:ay) (i:Nat):R D:=match ρ[i]? with
 |some (Sl.shr d)=>.ok d
 |_=>.no
def AI (ρ:ay) (i:Nat):R D:=match ρ[i]? with
 |some (Sl.shr d)=>.ok d
 |some (Sl.own d)=>.ok d
 |some (Sl.lck d)=>.ok d
 |_=>.no
section
variable {c:C}{e a b:a_}{g ga gb:ay->R D}{pos:Pos}
theorem av (i:Nat) (hN:c.X.N[i]?=some x:=by rfl) (hv:GK c.X.env.scope x:=by first|exact fV rfl|exact dD (fV rfl)|exact dD (dD rfl)) (hd:(x==("__debug__" : Str))=false:=by decide)
  (hcd:(x==("__classdict__" : Str))=false:=by decide):JE c (.Name x pos) (fun ρ=>CQ ρ i):=.of fun ρ=>rK (nu hN hv hd hcd) fun σ H Q h_0=>by
 obtain ⟨H0,Hs0,la,Hs,f,q⟩:=h_0;cases hr:ρ[i]? with
 |none=>simp only [CQ,hr] at q;exact q.elim
 |some s =>
  cases s with
  |shr d =>
   obtain ⟨v,h1,h2⟩:=f.sh i d hr;simp only [CQ,hr] at q;exact ⟨v,h1,q v H Hs (.refl f.st.sub) h2⟩
  |no=>simp only [CQ,hr] at q;exact q.elim
  |own d=>simp only [CQ,hr] at q;exact q.elim
  |lck d=>simp only [CQ,hr] at q;exact q.elim
  |ow2 d=>simp only [CQ,hr] at q;exact q.elim
theorem aq (i:Nat) (hN:c.X.N[i]?=some x:=by rfl) (hv:GK c.X.env.scope x:=by first|exact fV rfl|exact dD (fV rfl)|exact dD (dD rfl)) (hd:(x==("__debug__" : Str))=false:=by decide)
  (hcd:(x==("__classdict__" : Str))=false:=by decide):JB c (.Name x pos) (fun ρ=>AI ρ i):=.of fun ρ=>rK (nu hN hv hd hcd) fun σ H Q h_1=>by
 obtain ⟨H0,Hs0,la,Hs,f,q⟩:=h_1;cases hr:ρ[i]? with
 |none=>simp only [AI,hr] at q;exact q.elim
 |some s =>
  cases s with
  |shr d =>
   obtain ⟨v,h1,h2⟩:=f.sh i d hr;simp only [AI,hr] at q;exact ⟨v,h1,q v H Hs (.refl f.st.sub) (.inl h2)⟩
  |no=>simp only [AI,hr] at q;exact q.elim
  |own d =>
   obtain ⟨a,o,h1,h2,h3,h4,h5⟩:=f.ow i d hr;simp only [AI,hr] at q;exact ⟨_,h1,q _ H Hs (.refl f.st.sub) (.inr ⟨a,o,rfl,h2,h3,h5⟩)⟩
  |lck d =>
   obtain ⟨a,o,h1,h2,h3,h4,h5,h6⟩:=f.lk i d hr;simp only [AI,hr] at q;exact ⟨_,h1,q _ H Hs (.refl f.st.sub) (.inr ⟨a,o,rfl,h3,h4,h6⟩)⟩
  |ow2 d=>simp only [AI,hr] at q;exact q.elim
theorem sv  (h:PE c.X e (tC v)) (r:∀ Hs,RD c.X.K Hs v d):JE c e (fun _=>.ok d):=.of fun ρ=>rK h fun σ H Q h_2=>by obtain ⟨H0,Hs0,la,Hs,f,q⟩:=h_2;exact q v H Hs (.refl f.st.sub) (r Hs)
theorem aP  : JE c (.Constant (.int i) j pos) (fun _=>.ok (.int i)):=sv NR fun _=>.int i
theorem mP  : JE c (.Constant (.bool i) j pos) (fun _=>.ok (.bool i)):=sv PM fun _=>.bool i
theorem zm  : JE c (.Constant (.str i) j pos) (fun _=>.ok (.str i)):=sv NS fun _=>.str i
theorem sw  (hg:Gl c.X x) (hm:∃ t,c.X.mg x=some (.int i t)) (hd:(x==("__debug__" : Str))=false:=by decide):JE c (.Name x pos) (fun _=>.ok (.int i)):=by
 obtain ⟨t,hm⟩:=hm;exact sv (Lc hg hm (v:=.int i) ⟨t,rfl⟩ hd) fun _=>.int i
inductive T7 (K:a8) (h:D->D->R D) (x:V) (y:V) (H:Hp) (Q:VK):Prop
 |mk (Hs dx dy:_) (h0:cz Hs H) (h1:RB K H Hs x dx) (h2:RB K H Hs y dy) (h3:∃ d,h dx dy=.ok d/\∀ v H' Hs',c8 H Hs H' Hs'->RD K Hs' v d->Q v H'):T7 K h x y H Q
def rD (K:a8) (h:D->D->R D):R2:=T7 K h
def uP (X:Cx) (f:a9->a9->Sem a9) (h:D->D->R D):Prop:=qh X f (rD X.K h)/\∀ x y c n,h x y≠.ex c n
def g2 (ga gb:ay->R D) (h:D->D->R D):ay->R D:=fun ρ=>(ga ρ).bind fun x=>(gb ρ).bind fun y=>h x y
theorem two        (hx:∀ x y c n,h x y≠.ex c n) (q:TR K cls E ρ (g2 ga gb h ρ) σ H Q):P_ (rD K h) (TB K cls E ρ (ga ρ)) (TB K cls E ρ (gb ρ)) σ H Q:=by
 obtain ⟨H0,Hs0,la,Hs,f,q⟩:=q;refine one f q fun x v H1 Hs1 e1 s1 f1 r1=>?_;unfold g2 at q;rw [e1,bind_ok] at q;refine one f1 (q.on s1 (q':=fun _=>True) fun _ _=>trivial) fun y u H2 Hs2 e2 s2 f2 r2=>?_;rw [e2,bind_ok] at q;cases hr:h x y with
 |ok d =>
  rw [hr] at q;exact ⟨Hs2,x,y,f2.st.sub,r1.step s2,r2,d,hr,fun w H3 Hs3 s3 r3=>q w H3 Hs3 (s1.trans (s2.trans s3)) r3⟩
 |ex c n=>exact (hx x y c n hr).elim
 |no=>rw [hr] at q;exact q.elim
theorem bS  (ho:uP c.X (gW op) h) (ha:JB c a ga) (hb:JB c b gb):JE c (.BinOp a op b pos) (g2 ga gb h):=.of fun ρ=>rK (Q1 ho.1 (ha ρ) (hb ρ)) fun σ H Q q=>two ho.2 q
theorem qS  (ho:uP c.X (bG op) h) (ha:JB c a ga) (hb:JB c b gb) (hm:gF op b=false:=by first|exact Hv _|rfl):JE c (.Compare a [op] [b] pos) (g2 ga gb h):=.of fun ρ=>rK (Li ho.1 (ha ρ) (hb ρ) hm) fun σ H Q q=>two ho.2 q
def i7 (g:ay->R D):ay->R Bool:=fun ρ=>(g ρ).bind fun d=>match d with
 |.bool b=>.ok b
 |_=>.no
theorem Qq       (q:Af K cls E ρ (i7 g ρ) σ H Q):TR K cls E ρ (g ρ) σ H fun x H'=>∃ k,x=.bl k/\Q k H':=by
 obtain ⟨H0,Hs0,la,Hs,f,q⟩:=q;refine zk f q fun d v H1 Hs1 e1 s1 f1 r1=>?_;unfold i7 at q;rw [e1,bind_ok] at q;cases r1 with
 |bool b=>exact ⟨b,rfl,q H1 Hs1 s1⟩
 |_=>exact q.elim
theorem g6  (ho:uP c.X (bG op) h) (ha:JB c a ga) (hb:JB c b gb) (hm:gF op b=false:=by first|exact Hv _|rfl):JT c (.Compare a [op] [b] pos) (i7 (g2 ga gb h)):=.of fun ρ=>Qp (Lj ho.1 (ha ρ) (hb ρ) hm) fun σ H Q q=>two ho.2 (Qq q)
theorem gZ (h:JE c e g) (he:∀ whole,kO e c.X.env whole=(do let v <- whole;jt e.pos;C0 [v] (truthy v)):=by intro _;rfl):JT c e (i7 g):=.of fun ρ=>Qp (NT (h ρ) he) fun σ H Q q=>Qq q
def oh (g:ay->R Bool):ay->R Bool:=fun ρ=>(g ρ).bind fun b=>.ok (!b)
def CS (g h:ay->R Bool):ay->R Bool:=fun ρ=>(g ρ).bind fun b=>if b then h ρ else .ok false
def Im (g h:ay->R Bool):ay->R Bool:=fun ρ=>(g ρ).bind fun b=>if b then .ok true else h ρ
variable {gt gu:ay->R Bool}{bA:List a_}
theorem iT (h:JT c e gt):JT c (.UnaryOp .Not e pos) (oh gt):=.of fun ρ=>Qp (NW (h ρ)) fun σ H Q q=>by
 obtain ⟨H0,Hs0,la,Hs,f,q⟩:=q;refine Ik f q fun d H1 Hs1 e1 s1 f1=>?_;unfold oh at q;rw [e1,bind_ok] at q;exact q H1 Hs1 s1
theorem zo (h:JT c a gt):JW c (.BoolOp .And [a] pos) gt:=.of fun ρ=>Le (h ρ)
theorem oP (h:JT c a gt):JW c (.BoolOp .Or [a] pos) gt:=.of fun ρ=>NU (h ρ)
theorem CT (h:JT c a gt) (h2:JW c (.BoolOp .And (b::bA) pos) gu):JW c (.BoolOp .And (a::b::bA) pos) (CS gt gu):=.of fun ρ=>T6 (NV (h ρ) (h2 ρ)) fun σ H Q q=>by
 obtain ⟨H0,Hs0,la,Hs,f,q⟩:=q;refine Ik f q fun d H1 Hs1 e1 s1 f1=>?_;unfold CS at q;rw [e1,bind_ok] at q;cases d with
 |true=>exact vI ⟨H0,Hs0,la,Hs1,f1,q.on s1 fun b k H2 Hs2 s2=>k H2 Hs2 (s1.trans s2)⟩
 |false=>exact vH (q H1 Hs1 s1)
theorem uw (h:JT c a gt) (h2:JW c (.BoolOp .Or (b::bA) pos) gu):JW c (.BoolOp .Or (a::b::bA) pos) (Im gt gu):=.of fun ρ=>T6 (PN (h ρ) (h2 ρ)) fun σ H Q q=>by
 obtain ⟨H0,Hs0,la,Hs,f,q⟩:=q;refine Ik f q fun d H1 Hs1 e1 s1 f1=>?_;unfold Im at q;rw [e1,bind_ok] at q;cases d with
 |false=>exact vH ⟨H0,Hs0,la,Hs1,f1,q.on s1 fun b k H2 Hs2 s2=>k H2 Hs2 (s1.trans s2)⟩
 |true=>exact vI (q H1 Hs1 s1)
theorem JW.t (h:JW c e gt):JT c e gt:=.of fun ρ=>(h ρ).pt
def DW (g:ay->R D):ay->R D:=fun ρ=>(i7 g ρ).bind fun b=>.ok (.bool (!b))
theorem OD (h:JE c e g):JE c (.UnaryOp .Not e pos) (DW g):=.of fun ρ=>rK (NZ (h ρ)) fun σ H Q q=>by
 refine Qq ?_;obtain ⟨H0,Hs0,la,Hs,f,q⟩:=q;refine Ik f q fun d H1 Hs1 e1 s1 f1=>?_;unfold DW at q;rw [e1,bind_ok] at q;exact q _ H1 Hs1 s1 (.bool _)
def AJ (g h:ay->R D):ay->R D:=fun ρ=>(i7 g ρ).bind fun b=>if b then h ρ else .ok (.bool false)
theorem Io (h:JE c a g):JE c (.BoolOp op [a] pos) g:=.of fun ρ=>NX (h ρ)
theorem Ip (h:JE c a ga) (h2:JE c (.BoolOp .And (b::bA) pos) gb):JE c (.BoolOp .And (a::b::bA) pos) (AJ ga gb):=.of fun ρ=>rK (NY (h ρ) (h2 ρ)) fun σ H Q q=>by
 refine Qq ?_;obtain ⟨H0,Hs0,la,Hs,f,q⟩:=q;refine Ik f q fun d H1 Hs1 e1 s1 f1=>?_;unfold AJ at q;rw [e1,bind_ok] at q;cases d with
 |true=>exact vI ⟨H0,Hs0,la,Hs1,f1,q.on s1 fun b k v H2 Hs2 s2 r2=>k v H2 Hs2 (s1.trans s2) r2⟩
 |false=>exact vH (q _ H1 Hs1 s1 (.bool _))
def oQ (ga gb gc:ay->R D) (h h':D->D->R D):ay->R D:=fun ρ=>(ga ρ).bind fun x=>(gb ρ).bind fun y=>(h x y).bind fun z=>match z with
 |.bool true=>(gc ρ).bind fun w=>h' y w
 |.bool false=>.ok (.bool false)
 |_=>.no
def ag (g:ay->R D) (gs:ay->R (List D)):ay->R (List D):=fun ρ=>(g ρ).bind fun d=>(gs ρ).bind fun ds=>.ok (d::ds)
def aV:ay->R (List D):=fun _=>.ok []
theorem bg:FF c [] aV:=.of fun ρ=>OC iR fun σ H Q h_3=>by obtain ⟨H0,Hs0,la,Hs,f,q⟩:=h_3;exact q [] H Hs (.refl f.st.sub) .nil
theorem cx:MS c [] aV:=.of fun ρ=>OC iR fun σ H Q h_4=>by obtain ⟨H0,Hs0,la,Hs,f,q⟩:=h_4;exact q [] H Hs (.refl f.st.sub) .nil
theorem ak (h:JE c e g) (hr:FF c es gs) (hs:aE (e::es) c.X.env=(false,cj e c.X.env)::aE es c.X.env:=by rfl):FF c (e::es) (ag g gs):=.of fun ρ=>OC (fY (h ρ) (hr ρ) hs) fun σ H Q h_5=>by
 obtain ⟨H0,Hs0,la,Hs,f,q⟩:=h_5;refine zk f q fun d v H1 Hs1 e1 s1 f1 r1=>?_;unfold ag at q;rw [e1,bind_ok] at q;refine AH f1 (q.on s1 (q':=fun _=>True) fun _ _=>trivial) fun ds vs H2 Hs2 e2 s2 f2 r2=>?_;rw [e2,bind_ok] at q;exact q _ H2 Hs2 (s1.trans s2) (.cons (r1.same s2.sh) r2)
theorem bQ (h:JB c e g) (hr:MS c es gs) (hs:aE (e::es) c.X.env=(false,cj e c.X.env)::aE es c.X.env:=by rfl):MS c (e::es) (ag g gs):=.of fun ρ=>OC (fY (h ρ) (hr ρ) hs) fun σ H Q h_6=>by
 obtain ⟨H0,Hs0,la,Hs,f,q⟩:=h_6;refine one f q fun d v H1 Hs1 e1 s1 f1 r1=>?_;unfold ag at q;rw [e1,bind_ok] at q;refine Il f1 (q.on s1 (q':=fun _=>True) fun _ _=>trivial) fun ds vs H2 Hs2 e2 s2 f2 r2=>?_;rw [e2,bind_ok] at q;exact q _ H2 Hs2 (s1.trans s2) (.cons (r1.step s2) r2)
def fR (gs:ay->R (List D)) (k:List D->D):ay->R D:=fun ρ=>(gs ρ).bind fun ds=>if ds.length<=1000 then .ok (k ds) else .no
theorem nB {x1} (h:FF c es gs):JE c (.Tuple es x1 pos) (fR gs .tuple):=.of fun ρ=>rK (Oh (h ρ)) fun σ H Q h_7=>by
 obtain ⟨H0,Hs0,la,Hs,f,q⟩:=h_7;refine AH f q fun ds vs H1 Hs1 e1 s1 f1 r1=>?_;unfold fR at q;rw [e1,bind_ok] at q;by_cases hl:ds.length<=1000
 ·rw [if_pos hl] at q;refine ⟨bH (dz (by rw [r1.length];exact hl)),fun p hp=>q _ _ _ (s1.trans (.new f1.st.sub hp)) (.tuple bi (r1.same (c8.new f1.st.sub hp).sh))⟩
 ·rw [if_neg hl] at q;exact q.elim
theorem nC (h:FF c es gs):JE c (.List es pos) (fR gs .list):=.of fun ρ=>rK (qP (h ρ)) fun σ H Q h_8=>by
 obtain ⟨H0,Hs0,la,Hs,f,q⟩:=h_8;refine AH f q fun ds vs H1 Hs1 e1 s1 f1 r1=>?_;unfold fR at q;rw [e1,bind_ok] at q;by_cases hl:ds.length<=1000
 ·rw [if_pos hl] at q;refine ⟨bH (dz (by rw [r1.length];exact hl)),fun p hp=>q _ _ _ (s1.trans (.new f1.st.sub hp)) (.list (.of bi) (r1.same (c8.new f1.st.sub hp).sh))⟩
 ·rw [if_neg hl] at q;exact q.elim
end
end
end J
namespace J
open PySem PySem.Spec PyProof.Rows L2
section
section
def eK:D->D->R D
 |.int i,.int j=>.ok (.int (i+j))
 |.str x,.str y=>if x.length+y.length<=1000 then .ok (.str (x++y)) else .no
 |.tuple xs,.tuple ys=>if xs.length+ys.length<=1000 then .ok (.tuple (xs++ys)) else .no
 |.list xs,.list ys=>if xs.length+ys.length<=1000 then .ok (.list (xs++ys)) else .no
 |_,_=>.no
inductive Iq (K:a8) (x:V) (y:V) (H:Hp) (Q:VK):Prop
 |mk (l b xs zs:_) (h0:x=.ref l) (h1:y=.ref b) (h2:lz K H l xs) (h3:lz K H b zs) (h4:xs.length+zs.length<=sizeLine) (h5:∀ p,H p=none->Q (.ref p) (upd H p (.lst (xs++zs)))):Iq K x y H Q
def Qr (K:a8):R2:=Iq K
theorem LK:qh X (gW .Add) (Qr X.K):=by
 intro pins s σ H x y v u Q I rx ry h;obtain ⟨l,b,xs,zs,rfl,rfl,h1,h2,hz,q⟩:=h;cases rx;cases ry;obtain ⟨its,r,⟨o,n,e,c1,c2,c3⟩,z⟩:=I.list h1;obtain ⟨its2,r2,⟨o2,n2,e2,d1,d2,d3⟩,z2⟩:=I.list h2;obtain ⟨k1,k2,k3,k4⟩:=o;obtain ⟨m1,m2,m3,m4⟩:=o2;simp only at c1 c2 c3 d1 d2 d3;subst c1 c2 c3 d1 d2 d3;refine xc ⟨_,e,rfl⟩ ⟨_,e2,rfl⟩ noFill_list_add seq_list_add PySem.F.slot_list_add PySem.F.entry_list_add (PySem.F.args_list_add_2 _ _) (PyProof.Rows.list_addW l b _ _ n n2 _ _ k4 m4 (by rw [aH,aH,<- r.length,<- r2.length];exact hz)) ⟨e,e2,?_⟩;have ea:its.toArray++its2.toArray=(its++its2).toArray:=by simp
 rw [ea];exact ⟨.ref _,_,I.lnew (t':=s.toks) (r.append r2) (by rw [aB];omega),rfl,q _ I.fresh⟩
inductive Ir (K:a8) (x:V) (y:V) (H:Hp) (Q:VK):Prop
 |mk (a b ys:_) (h0:x=.ref a) (h1:y=.ref b) (h2:jR K H a []) (h3:jR K H b ys) (h4:Q (.ref b) H):Ir K x y H Q
def Qs (K:a8):R2:=Ir K
theorem LL:qh X (gW .Add) (Qs X.K):=by
 intro pins s σ H x y v u Q I rx ry h;obtain ⟨a,b,ys,rfl,rfl,h1,h2,q⟩:=h;cases rx;cases ry;obtain ⟨its,r,⟨⟨k1,k2,k3,k4⟩,e,c1,n,c3⟩,z⟩:=I.tuple h1;obtain ⟨its2,r2,⟨⟨m1,m2,m3,m4⟩,e2,d1,n2,d3⟩,z2⟩:=I.tuple h2;simp only at c1 c3 d1 d3;subst c1 c3 d1 d3;cases r;exact xc ⟨_,e,rfl⟩ ⟨_,e2,rfl⟩ yP F1 nj mE (m7 _ _)
  (PyProof.Rows.tuple_addW0 a b _ _ n n2 _ _ k4 m4 rfl) ⟨e,e2,⟨.ref b,H,I,rfl,q⟩⟩
theorem c_:uP X (gW .Add) eK:=by
 refine ⟨fun pins s σ H x y v u Q I rv ru ⟨Hs,dx,dy,sub,rx,ry,d,hd,q⟩=>?_,fun x y c n=>?_⟩
 ·unfold eK at hd;split at hd
  ·cases hd;exact Ob pins s σ H x y v u Q I rv ru ⟨_,_,rx.int,ry.int,q _ H Hs (.refl sub) (.int _)⟩
  ·split at hd
   ·rename_i hz
    cases hd;exact CA pins s σ H x y v u Q I rv ru ⟨_,_,rx.str,ry.str,bH (dz hz),q _ H Hs (.refl sub) (.str _)⟩
   ·cases hd
  ·split at hd
   ·rename_i xs ys hz
    cases hd;obtain ⟨a,vs,rfl,qa,ra,_⟩:=rx.tuple sub;obtain ⟨b,ws,rfl,qb,rb,_⟩:=ry.tuple sub;have hz':vs.length+ws.length<=sizeLine:=by rw [ra.length,rb.length];exact bH (dz hz)
    have big:∀ p,H p=none->Q (.ref p) (upd H p (.tup (vs++ws))):=fun p hp=>q _ _ _ (.new sub hp) (.tuple bi ((ra.append rb).same (c8.new sub hp).sh));cases vs with
    |nil =>
     cases ra;refine LL pins s σ H _ _ v u Q I rv ru ⟨a,b,ws,rfl,rfl,qa,qb,?_⟩;rcases ry with ry|⟨_,_,_,_,_,ow⟩
     ·exact q _ H Hs (.refl sub) (by simpa using ry)
     ·cases ow
    |cons v0 vr =>
     refine Lq pins s σ H _ _ v u Q I rv ru ⟨a,b,_,ws,rfl,rfl,qa,qb,by simp,hz',fun e=>?_,fun _=>big⟩;subst e;cases rb;rcases rx with rx|⟨_,_,_,_,_,ow⟩
     ·exact q _ H Hs (.refl sub) (by simpa using rx)
     ·cases ow
   ·cases hd
  ·split at hd
   ·rename_i xs ys hz
    cases hd;obtain ⟨a,vs,rfl,qa,ra⟩:=rx.list sub;obtain ⟨b,ws,rfl,qb,rb⟩:=ry.list sub;have hz':vs.length+ws.length<=sizeLine:=by rw [ra.length,rb.length];exact bH (dz hz)
    exact LK pins s σ H _ _ v u Q I rv ru ⟨a,b,vs,ws,rfl,rfl,qa,qb,hz',fun p hp=>q _ _ _ (.new sub hp) (.list (.of bi) ((ra.append rb).same (c8.new sub hp).sh))⟩
   ·cases hd
  ·cases hd
 ·unfold eK;split<;>(try split)<;>exact fun h=>by cases h
def CU (C:Int->Int->Bool) (k:Int->Int->D):D->D->R D
 |.int i,.int j=>if C i j then .ok (k i j) else .no
 |_,_=>.no
theorem CV {f:a9->a9->Sem a9}{C:Int->Int->Bool}{P:Int->Int->Prop}{k:Int->Int->D}{kv:Int->Int->V} (h:qh X f (rI P kv)) (hC:∀ i j,C i j=true->P i j) (hk:∀ Hs i j,RD X.K Hs (kv i j) (k i j)):uP X f (CU C k):=by
 refine ⟨fun pins s σ H x y v u Q I rv ru ⟨Hs,dx,dy,sub,rx,ry,d,hd,q⟩=>?_,fun x y c n=>?_⟩
 ·unfold CU at hd;split at hd
  ·split at hd
   ·rename_i hc
    cases hd;exact h pins s σ H x y v u Q I rv ru ⟨_,_,rx.int,ry.int,hC _ _ hc,q _ H Hs (.refl sub) (hk _ _ _)⟩
   ·cases hd
  ·cases hd
 ·unfold CU;split<;>(try split)<;>exact fun h=>by cases h
def y8 (i j:Int):Bool:=(decide (-(2 ^ 64)<i)&&decide (i<2 ^ 64))||(decide (-(2 ^ 64)<j)&&decide (j<2 ^ 64))
def uQ:=CU y8 fun i j=>.int (i*j)
def FG:=CU (fun _ j=>decide (0<j)) fun i j=>.int (i % j)
def Is:=CU (fun _ j=>decide (0<j)&&decide (j<1073741824)) fun i j=>.int (i / j)
theorem oR:uP X (gW .Mult) uQ:=CV Oc (fun i j h=>by
 unfold y8 at h;simp only [oC,aT,decide_eq_true_eq] at h;exact h) fun _ _ _=>.int _
theorem zq:uP X (gW .Mod) FG:=CV Od (fun i j h=>of_decide_eq_true h) fun _ _ _=>.int _
theorem LM:uP X (gW .FloorDiv) Is:=CV Lh (fun i j h=>by
 simp only [aT,decide_eq_true_eq] at h;exact h) fun _ _ _=>.int _
def qT (neg:Bool) (x y:D):R D:=if x.canLay0&&y.canLay0&&decide (min x.depth y.depth<=60) then .ok (.bool (if neg then !b9 x y else b9 x y)) else .no
mutual
theorem zr:∀ d:D,d.canLay0=true->nh d=true
 |.none,_=>rfl
 |.bool _,_=>rfl
 |.int _,_=>rfl
 |.str _,_=>rfl
 |.list xs,h=>by
  simp only [fj] at h;simp only [nh];exact lays_noD xs h
 |.tuple xs,h=>by
  simp only [fj] at h;simp only [nh];exact lays_noD xs h
 |.dict _,h=>by simp [fj] at h
theorem lays_noD:∀ d:List D,dO d=true->noDs d=true
 |[],_=>rfl
 |x::r,h=>by
  simp only [dO,aT] at h;simp only [noDs,aT];exact ⟨zr x h.1,lays_noD r h.2⟩
end
theorem Iu  (h:qh X f (Oz X.K neg)):uP X f (qT neg):=by
 refine ⟨fun pins s σ H x y v u Q I rv ru ⟨Hs,dx,dy,sub,rx,ry,d,hd,q⟩=>?_,fun x y c n=>?_⟩
 ·unfold qT at hd;split at hd
  ·rename_i hc
   simp only [aT,decide_eq_true_eq] at hc;cases hd;exact h pins s σ H x y v u Q I rv ru ⟨dx,dy,(rx.full sub).rep (zr _ hc.1.1),(ry.full sub).rep (zr _ hc.1.2),hc.1.1,hc.1.2,hc.2,q _ H Hs (.refl sub) (.bool _)⟩
  ·cases hd
 ·unfold qT;split<;>exact fun h=>by cases h
theorem vW (hu:X.A.units+64<fO):uP X (bG .Eq) (qT false):=Iu (OA hu)
theorem DX (hu:X.A.units+64<fO):uP X (bG .NotEq) (qT true):=Iu (OB hu)
def FH (k:Int->Int->Bool) (t:Str->Str->Bool):D->D->R D
 |.int i,.int j=>.ok (.bool (k i j))
 |.str x,.str y=>.ok (.bool (t x y))
 |_,_=>.no
theorem Iv   (h1:qh X f (O7 fun i j=>.bl (k i j))) (h2:qh X f (fun x y H Q=>∃ i j,x=.str i/\y=.str j/\Q (.bl (t i j)) H)):uP X f (FH k t):=by
 refine ⟨fun pins s σ H x y v u Q I rv ru ⟨Hs,dx,dy,sub,rx,ry,d,hd,q⟩=>?_,fun x y c n=>?_⟩
 ·unfold FH at hd;split at hd
  ·cases hd;exact h1 pins s σ H x y v u Q I rv ru ⟨_,_,rx.int,ry.int,q _ H Hs (.refl sub) (.bool _)⟩
  ·cases hd;exact h2 pins s σ H x y v u Q I rv ru ⟨_,_,rx.str,ry.str,q _ H Hs (.refl sub) (.bool _)⟩
  ·cases hd
 ·unfold FH;split<;>exact fun h=>by cases h
def CW:=FH (fun i j=>decide (i<j)) qk
def MT:=FH (fun i j=>decide (i<=j)) fun x y=>!qk y x
def Px:D->D->R D
 |.int i,.int j=>.ok (.bool (decide (j<i)))
 |_,_=>.no
theorem y9:uP X (bG .Lt) CW:=Iv Q2 Fh
theorem yb:uP X (bG .LtE) MT:=Iv Q3 FB
theorem MU:uP X (bG .Gt) Px:=by
 refine ⟨fun pins s σ H x y v u Q I rv ru ⟨Hs,dx,dy,sub,rx,ry,d,hd,q⟩=>?_,fun x y c n=>?_⟩
 ·unfold Px at hd;split at hd
  ·cases hd;exact Q4 pins s σ H x y v u Q I rv ru ⟨_,_,rx.int,ry.int,q _ H Hs (.refl sub) (.bool _)⟩
  ·cases hd
 ·unfold Px;split<;>exact fun h=>by cases h
def ko:D->Bool
 |.none=>true
 |.bool _=>true
 |.int _=>true
 |.str _=>true
 |_=>false
def yc (neg:Bool):D->D->R D
 |x,.list ys=>if ko x&&ys.all ko then .ok (.bool (if neg then !(ys.any fun y=>b9 y x) else ys.any fun y=>b9 y x)) else .no
 |x,.tuple ys=>if ko x&&ys.all ko then .ok (.bool (if neg then !(ys.any fun y=>b9 y x) else ys.any fun y=>b9 y x)) else .no
 |_,_=>.no
theorem DY {K:a8}{H:Hp}{v:V}{d:D} (h:RD K H v d) (f:ko d=true):oN v=true:=by
 cases h<;>first|rfl|cases f
theorem AK {K:a8}{H Hs:Hp}{v:V}{d:D} (h:RB K H Hs v d) (f:ko d=true):oN v=true:=by
 rcases h with h|⟨a,o,rfl,_,_,h⟩
 ·exact DY h f
 ·cases h<;>cases f
theorem AL {K:a8}{H:Hp}{vs:List V}:∀ {ds:List D},RDs K H vs ds->ds.all ko=true->vs.all oN=true:=by
 induction vs with
 |nil=>intro ds _ _;rfl
 |cons x r ih =>
  intro ds h f;cases h with
  |cons h t =>
   rw [kc,aT] at f ⊢;exact ⟨DY h f.1,ih t f.2⟩
theorem OE {K:a8}{H H2 Hs:Hp}{v u:V}{d e:D} (h:RD K H v d) (h2:RB K H2 Hs u e) (f:ko d=true) (f2:ko e=true):Lu v u=b9 d e:=by
 have h2':RD K Hs u e:=by
  rcases h2 with h2|⟨a,o,rfl,_,_,h2⟩
  ·exact h2
  ·cases h2<;>cases f2
 cases h with
 |list _ _=>cases f
 |tuple _ _=>cases f
 |dictK _ _=>cases f
 |dictT _ _ _=>cases f
 |dictF _ _ _=>cases f
 |none=>cases h2'<;>first|rfl|cases f2
 |bool b=>cases h2'<;>first|rfl|cases f2
 |int i=>cases h2'<;>first|rfl|cases f2
 |str x=>cases h2'<;>first|rfl|cases f2
theorem CY {K:a8}{H H2 Hs:Hp}{u:V}{e:D} (h2:RB K H2 Hs u e) (f2:ko e=true):∀ {vs:List V}{ds:List D},RDs K H vs ds->ds.all ko=true->Ru u vs=ds.any fun y=>b9 y e
 |_,_,.nil,_=>rfl
 |_,_,.cons h t,f=>by
  rw [kc,aT] at f;have:=CY h2 f2 t f.2;unfold Ru at this ⊢;rw [eF,eF,this,OE h h2 f.1 f2]
theorem Iw  (h:qh X f (Sd X.K neg)):uP X f (yc neg):=by
 refine ⟨fun pins s σ H x y v u Q I rv ru ⟨Hs,dx,dy,sub,rx,ry,d,hd,q⟩=>?_,fun x y c n=>?_⟩
 ·unfold yc at hd;split at hd
  ·split at hd
   ·rename_i hc
    simp only [aT] at hc;cases hd;obtain ⟨b,ws,rfl,qb,rb⟩:=ry.list sub;refine h pins s σ H _ _ v u Q I rv ru ⟨b,ws,rfl,.inl qb,AK rx hc.1,AL rb hc.2,?_⟩;rw [CY rx hc.1 rb hc.2];exact q _ H Hs (.refl sub) (.bool _)
   ·cases hd
  ·split at hd
   ·rename_i hc
    simp only [aT] at hc;cases hd;obtain ⟨b,ws,rfl,qb,rb,_⟩:=ry.tuple sub;refine h pins s σ H _ _ v u Q I rv ru ⟨b,ws,rfl,.inr qb,AK rx hc.1,AL rb hc.2,?_⟩;rw [CY rx hc.1 rb hc.2];exact q _ H Hs (.refl sub) (.bool _)
   ·cases hd
  ·cases hd
 ·unfold yc;split<;>(try split)<;>exact fun h=>by cases h
theorem Ix:uP X (bG .In) (yc false):=Iw Fm
theorem AM:uP X (bG .NotIn) (yc true):=Iw yY
end
end
end J
namespace J
open PySem L2
section
section
variable {c:C}{e a b:a_}{g ga gb:ay->R D}{pos:Pos}
def CZ:D->D->R D
 |.list xs,.int i=>match C9 xs i with
  |some d=>.ok d
  |none=>.no
 |.tuple xs,.int i=>match C9 xs i with
  |some d=>.ok d
  |none=>.no
 |.str x,.int i=>if x.length<=1000 then (match C9 x.cps.toList i with
  |some k=>.ok (.str ⟨#[k]⟩)
  |none=>.no) else .no
 |_,_=>.no
theorem DZ    (h:RDs K H vs ds)  (e:C9 ds i=some d):∃ v,C9 vs i=some v/\RD K H v d:=by
 unfold C9 at e ⊢;rw [h.length];cases hx:Om ds.length i with
 |none=>rw [hx] at e;cases e
 |some j =>
  rw [hx] at e;exact h.get' e
theorem Sw:Qb X (rD X.K CZ):=by
 intro va sl pins s σ H x y v u Q I rv ru h;obtain ⟨Hs,dx,dy,sub,rx,ry,d,hd,q⟩:=h;unfold CZ at hd;split at hd
 ·split at hd
  ·rename_i d' he
   cases hd;obtain ⟨p,vs,rfl,qa,ra⟩:=rx.list sub;obtain ⟨w,hw,rw'⟩:=DZ ra he;exact yW va sl pins s σ H _ _ v u Q I rv ru ⟨p,vs,_,w,rfl,ry.int,qa,hw,q _ H Hs (.refl sub) rw'⟩
  ·cases hd
 ·split at hd
  ·rename_i d' he
   cases hd;obtain ⟨p,vs,rfl,qa,ra,_⟩:=rx.tuple sub;obtain ⟨w,hw,rw'⟩:=DZ ra he;exact On va sl pins s σ H _ _ v u Q I rv ru ⟨p,vs,_,w,rfl,ry.int,qa,hw,q _ H Hs (.refl sub) rw'⟩
  ·cases hd
 ·split at hd
  ·rename_i hz
   split at hd
   ·rename_i k he
    cases hd;exact Oo va sl pins s σ H _ _ v u Q I rv ru ⟨_,_,k,rx.str,ry.int,bH (dz hz),he,q _ H Hs (.refl sub) (.str _)⟩
   ·cases hd
  ·cases hd
 ·cases hd
theorem OF (x y:D) (c:Str) (n:Option D):CZ x y≠.ex c n:=by
 unfold CZ;split<;>(try split)<;>(try split)<;>exact fun h=>by cases h
theorem Qt (ha:JB c a ga) (hb:JB c b gb) (hs:vd b:=by exact fun _ _=>rfl):JE c (.Subscript a b pos) (g2 ga gb CZ):=.of fun ρ=>rK (MF Sw (ha ρ) (hb ρ) hs) fun σ H Q q=>two OF q
def xx (ds:List D) (lo hi:Option Int):List D:=(ds.drop (HT.iA ds.length 0 lo)).take (HT.iA ds.length ds.length hi-HT.iA ds.length 0 lo)
theorem D_    (h:RDs K H vs ds) (lo hi:Option Int):RDs K H (Ar vs lo hi) (xx ds lo hi):=by
 unfold Ar xx;rw [h.length];exact (h.drop _).take _
def FI:D->Option Int->Option Int->R D
 |.list xs,lo,hi=>.ok (.list (xx xs lo hi))
 |.tuple xs,lo,hi=>.ok (.tuple (xx xs lo hi))
 |_,_,_=>.no
inductive MV (K:a8) (x:V) (lo:Option Int) (hi:Option Int) (H:Hp) (Q:VK):Prop
 |mk (Hs dx:_) (h0:cz Hs H) (h1:RB K H Hs x dx) (h2:∃ d,FI dx lo hi=.ok d/\∀ v H' Hs',c8 H Hs H' Hs'->RD K Hs' v d->Q v H'):MV K x lo hi H Q
def Sx (K:a8):V->Option Int->Option Int->Hp->VK->Prop:=MV K
theorem Sy {X:Cx}:Q9 X (Sx X.K):=by
 intro pins s σ H x v vl vu lo hi sl Q I rx hs pl pu h;obtain ⟨Hs,dx,sub,rb,d,hd,q⟩:=h;unfold FI at hd;split at hd
 ·cases hd;obtain ⟨p,vs,rfl,qa,ra⟩:=rb.list sub;exact Ls pins s σ H _ v vl vu lo hi sl Q I rx hs pl pu ⟨p,vs,rfl,qa,fun l hl=>q _ _ _ (.new sub hl) (.list (.of bi) ((D_ ra lo hi).same (c8.new sub hl).sh))⟩
 ·cases hd;obtain ⟨p,vs,rfl,qa,ra,_⟩:=rb.tuple sub;by_cases hw:HT.iA vs.length 0 lo=0/\HT.iA vs.length vs.length hi=vs.length
  ·refine LJ pins s σ H _ v vl vu lo hi sl Q I rx hs pl pu ⟨p,vs,rfl,qa,hw,?_⟩;rcases rb with rb|⟨_,_,_,_,_,ow⟩
   ·refine q _ H Hs (.refl sub) ?_;unfold xx;rw [<- ra.length,hw.1,hw.2,ra.length];simpa using rb
   ·cases ow
  ·exact Ol pins s σ H _ v vl vu lo hi sl Q I rx hs pl pu ⟨p,vs,rfl,qa,hw,fun l hl=>q _ _ _ (.new sub hl) (.tuple bi ((D_ ra lo hi).same (c8.new sub hl).sh))⟩
 ·cases hd
inductive Qu (K:a8) (cls:Str->ah) (E:XK) (ρ:ay) (r:R (Option Int)) (σ:St) (H:Hp) (Q:Option Int->Hp->Prop):Prop
 |mk (H0 Hs0:Hp) (la:Nat->Option ah) (Hs:Hp) (f:Fr K H0 Hs0 la ρ σ H Hs) (q:Fin K cls E H Hs r fun d=>∀ H' Hs',c8 H Hs H' Hs'->Q d H'):Qu K cls E ρ r σ H Q
def Sz (K:a8) (cls:Str->ah) (E:XK) (ρ:ay) (r:R (Option Int)):TO:=Qu K cls E ρ r
structure JO (c:C) (e:Option a_) (g:ay->R (Option Int)):Prop where of ::
 run:∀ ρ,PO c.X e (Sz c.X.K c.cls c.E ρ (g ρ))
instance {c:C}{e:Option a_}{g:ay->R (Option Int)}:CoeFun (JO c e g) (fun _=>∀ ρ,PO c.X e (Sz c.X.K c.cls c.E ρ (g ρ))):=⟨JO.run⟩
theorem T8 {X:Cx}{e:Option a_}{t t':TO} (h:PO X e t) (m:∀ σ H Q,t' σ H Q->t σ H Q):PO X e t':=fun pins s σ H Q I q=>h pins s σ H Q I (m σ H Q q)
def Py:ay->R (Option Int):=fun _=>.ok none
def OG (g:ay->R D):ay->R (Option Int):=fun ρ=>(g ρ).bind fun d=>match d with
 |.int i=>.ok (some i)
 |_=>.no
theorem vg:JO c none Py:=.of fun ρ=>T8 Lo fun σ H Q h_0=>by obtain ⟨H0,Hs0,la,Hs,f,q⟩:=h_0;exact q H Hs (.refl f.st.sub)
theorem vh (h:JE c e g):JO c (some e) (OG g):=.of fun ρ=>T8 (Lp (h ρ)) fun σ H Q h_1=>by
 obtain ⟨H0,Hs0,la,Hs,f,q⟩:=h_1;refine zk f q fun d v H1 Hs1 e1 s1 f1 r1=>?_;unfold OG at q;rw [e1,bind_ok] at q;cases r1 with
 |int i=>exact ⟨i,rfl,q H1 Hs1 s1⟩
 |_=>exact q.elim
theorem Qv {K:a8}{cls:Str->ah}{E:XK}{ρ:ay}{r:R (Option Int)}{β:Type}{k:Option Int->R β}{σ:St}{H:Hp}{H0 Hs0 Hs:Hp}{la:Nat->Option ah}{Q:Option Int->Hp->Prop}{q:β->Prop} (f:Fr K H0 Hs0 la ρ σ H Hs)
  (h:Fin K cls E H Hs (r.bind k) q) (m:∀ d H' Hs',r=.ok d->c8 H Hs H' Hs'->Fr K H0 Hs0 la ρ σ H' Hs'->Q d H'):Sz K cls E ρ r σ H Q:=by
 refine ⟨H0,Hs0,la,Hs,f,?_⟩;cases r with
 |ok d=>exact fun H' Hs' s=>m d H' Hs' rfl s (f.step s)
 |ex c n=>exact h
 |no=>exact h
def OH (g:ay->R D) (gl gh:ay->R (Option Int)):ay->R D:=fun ρ=>(g ρ).bind fun x=>(gl ρ).bind fun l=>(gh ρ).bind fun h=>FI x l h
theorem sx {lo hi:Option a_}{gl gh:ay->R (Option Int)}{p2:Pos} (he:JB c e g) (hl:JO c lo gl) (hh:JO c hi gh):JE c (.Subscript e (.Slice lo hi none p2) pos) (OH g gl gh):=.of fun ρ=>rK (HB Sy (he ρ) (hl ρ) (hh ρ)) fun σ H Q h_2=>by
 obtain ⟨H0,Hs0,la,Hs,f,q⟩:=h_2;refine one f q fun d v H1 Hs1 e1 s1 f1 r1=>?_;unfold OH at q;rw [e1,bind_ok] at q;refine Qv f1 (q.on s1 (q':=fun _=>True) fun _ _=>trivial) fun l H2 Hs2 e2 s2 f2=>?_;rw [e2,bind_ok] at q;refine Qv f2 (q.on (s1.trans s2) (q':=fun _=>True) fun _ _=>trivial) fun h H3 Hs3 e3 s3 f3=>?_;rw [e3,bind_ok] at q;cases hr:FI d l h with
 |ok z=>rw [hr] at q;exact ⟨Hs3,d,f3.st.sub,(r1.step s2).step s3,z,hr,fun w H4 Hs4 s4 r4=>q w H4 Hs4 (s1.trans (s2.trans (s3.trans s4))) r4⟩
 |ex c n=>unfold FI at hr;split at hr<;>cases hr
 |no=>rw [hr] at q;exact q.elim
inductive T9 (K:a8) (h:List D->R D) (xs:List V) (H:Hp) (Q:VK):Prop
 |mk (Hs ds:_) (h0:cz Hs H) (h1:MR K H Hs xs ds) (h2:∃ d,h ds=.ok d/\∀ v H' Hs',c8 H Hs H' Hs'->RD K Hs' v d->Q v H'):T9 K h xs H Q
def rC (K:a8) (h:List D->R D):List V->Hp->VK->Prop:=T9 K h
def GM (X:Cx) (f:a9) (h:List D->R D):Prop:=jv X f (rC X.K h)/\∀ x c n,h x≠.ex c n
def cu (gs:ay->R (List D)) (h:List D->R D):ay->R D:=fun ρ=>(gs ρ).bind h
theorem MW {K:a8}{cls:Str->ah}{E:XK}{h:List D->R D}{gs:ay->R (List D)}{ρ:ay}{σ:St}{H:Hp}{Q:VK} (hx:∀ x c n,h x≠.ex c n) (q:TR K cls E ρ (cu gs h ρ) σ H Q):Q7 (rC K h) (RC K cls E ρ (gs ρ)) σ H Q:=by
 obtain ⟨H0,Hs0,la,Hs,f,q⟩:=q;refine Il f q fun ds vs H1 Hs1 e1 s1 f1 r1=>?_;unfold cu at q;rw [e1,bind_ok] at q;cases hr:h ds with
 |ok d =>
  rw [hr] at q;exact ⟨Hs1,ds,f1.st.sub,r1,d,hr,fun w H3 Hs3 s3 r3=>q w H3 Hs3 (s1.trans s3) r3⟩
 |ex c n=>exact (hx ds c n hr).elim
 |no=>rw [hr] at q;exact q.elim
variable {es:List a_}{gs:ay->R (List D)}{x:Str}{p:Pos}{id T:String}{h:List D->R D}
theorem cH (hc:GM c.X (.builtin id) h) (hg:Gl c.X x) (hm:c.X.mg x=none) (hv:i8 x=some (.builtin id)) (ha:MS c (e::es) gs) (hn:x≠"__name__":=by decide) (hdb:(x==("__debug__" : Str))=false:=by decide)
  (he:aE (e::es) c.X.env=(false,cj e c.X.env)::aE es c.X.env:=by rfl) (hpl:(gE pos (aE es c.X.env)).any (·.1)=false:=by rfl):JE c (.Call (.Name x p) (e::es) [] pos) (cu gs h):=.of fun ρ=>rK (rT hc.1 hg hm hv (ha ρ) hn hdb he hpl) fun σ H Q q=>MW hc.2 q
theorem g9 (hc:GM c.X (.type T) h) (hg:Gl c.X x) (hm:c.X.mg x=none) (hv:i8 x=some (.type T)) (ha:MS c (e::es) gs) (hn:x≠"__name__":=by decide) (hdb:(x==("__debug__" : Str))=false:=by decide)
  (he:aE (e::es) c.X.env=(false,cj e c.X.env)::aE es c.X.env:=by rfl) (hpl:(gE pos (aE es c.X.env)).any (·.1)=false:=by rfl):JE c (.Call (.Name x p) (e::es) [] pos) (cu gs h):=.of fun ρ=>rK (xU hc.1 hg hm hv (ha ρ) hn hdb he hpl) fun σ H Q q=>MW hc.2 q
end
end
section
section
theorem MR.one    (h:MR K H Hs xs [d]):∃ x,xs=[x]/\RB K H Hs x d:=by
 cases h with|cons a t=>cases t;exact ⟨_,rfl,a⟩
def jr (h:D->R D):List D->R D
 |[d]=>h d
 |_=>.no
theorem qU  (hx:∀ d c n,h d≠.ex c n)
  (hr:∀ pins s σ H x u Q Hs d d',bz X pins σ H s->cX x u->cz Hs H->RB X.K H Hs x d->h d=.ok d'->(∀ v H' Hs',c8 H Hs H' Hs'->RD X.K Hs' v d'->Q v H')->ao (ar X.prog X.w) X.A (call f [u]) (EP X pins σ Q) X.xe s):GM X f (jr h):=by
 refine ⟨fun pins s σ H xs us Q I r ⟨Hs,ds,sub,rb,d,hd,q⟩=>?_,fun x c n=>?_⟩
 ·unfold jr at hd;split at hd
  ·obtain ⟨x,rfl,rx⟩:=rb.one;obtain ⟨u,rfl,ru⟩:=kj r;exact hr pins s σ H x u Q Hs _ _ I ru sub rx hd q
  ·cases hd
 ·unfold jr;split
  ·exact hx _ _ _
  ·exact fun h=>by cases h
def oS:D->R D
 |.list xs=>.ok (.int xs.length)
 |.tuple xs=>.ok (.int xs.length)
 |.str x=>if x.length<=1000 then .ok (.int x.length) else .no
 |_=>.no
theorem RDk.length   : ∀ {ds:List (D×D)},RDk K H vs ds->vs.length=ds.length:=by
 induction vs with
 |nil=>intro ds h;cases h;rfl
 |cons x r ih=>intro ds h;cases h with|cons a b=>exact congrArg (· + 1) (ih b)
theorem RB.dict    (sub:cz Hs H) (h:RB K H Hs v (.dict ds)):∃ a,v=.ref a/\((∃ kvs,H a=some (.dK kvs)/\RDk K Hs kvs ds)\/(∃ kvs,H a=some (.dT kvs)/\kvs≠[]/\RDt K Hs kvs ds)\/∃ o kvs es,ds=(.none,.none)::es/\H a=some (.frz o (.dT kvs))/\kvs≠[]/\RDt K Hs kvs es):=by
 rcases h with h|⟨a,o,rfl,h2,h3,h4⟩
 ·cases h with
  |dictK q r=>exact ⟨_,rfl,.inl ⟨_,sub _ _ q,r⟩⟩
  |dictT q n r=>exact ⟨_,rfl,.inr (.inl ⟨_,sub _ _ q,n,r⟩)⟩
  |dictF q n r=>exact ⟨_,rfl,.inr (.inr ⟨_,_,_,rfl,sub _ _ q,n,r⟩)⟩
 ·cases h4 with
  |dK r=>exact ⟨a,rfl,.inl ⟨_,h2,r⟩⟩
  |dT n r=>exact ⟨a,rfl,.inr (.inl ⟨_,h2,n,r⟩)⟩
  |dF n r=>exact ⟨a,rfl,.inr (.inr ⟨_,_,_,rfl,h2,n,r⟩)⟩
theorem ki:GM X (.builtin "len") (jr oS):=by
 refine qU (fun d c n=>?_) fun pins s σ H x u Q Hs d d' I ru sub rx hd q=>?_
 ·unfold oS;split<;>(try split)<;>exact fun h=>by cases h
 ·unfold oS at hd;split at hd
  ·cases hd;obtain ⟨a,vs,rfl,qa,ra⟩:=rx.list sub;refine rW pins s σ H _ _ Q I (.cons ru .nil) ⟨a,vs,rfl,.inl qa,?_⟩;rw [ra.length];exact q _ H Hs (.refl sub) (.int _)
  ·cases hd;obtain ⟨a,vs,rfl,qa,ra,_⟩:=rx.tuple sub;refine rW pins s σ H _ _ Q I (.cons ru .nil) ⟨a,vs,rfl,.inr qa,?_⟩;rw [ra.length];exact q _ H Hs (.refl sub) (.int _)
  ·split at hd
   ·rename_i hz
    cases hd;exact yZ pins s σ H _ _ Q I (.cons ru .nil) ⟨_,by rw [rx.str],bH (dz hz),q _ H Hs (.refl sub) (.int _)⟩
   ·cases hd
  ·cases hd
def AN (T:String) (d:D):Bool:=match T,d with
 | "str",.str _=>true
 | "int",.int _=>true
 | "int",.bool _=>true
 | "bool",.bool _=>true
 | "list",.list _=>true
 | "tuple",.tuple _=>true
 |_,_=>false
def xy (g:ay->R D) (T:String):ay->R D:=fun ρ=>(g ρ).bind fun d=>if nh d then .ok (.bool (AN T d)) else .no
theorem LN  (T:String) (hT:T="str"\/T="int"\/T="bool"\/T="list"\/T="tuple") (h:nh d=true):oz K (.type (Sr d)) (.type T)=some (AN T d):=by
 rcases hT with rfl|rfl|rfl|rfl|rfl<;>cases d<;>first|rfl|simp [nh] at h
theorem qV      (h:JB c e g) (hgi:Gl c.X "isinstance") (hi:c.X.mg "isinstance"=none) (hgT:Gl c.X T) (hT:c.X.mg T=none) (hv:i8 T=some (.type Ts))
  (hTs:Ts="str"\/Ts="int"\/Ts="bool"\/Ts="list"\/Ts="tuple")
  (hn:T≠"__name__":=by decide) (hdb:(T==("__debug__" : Str))=false:=by decide)
  (he:aE [e,.Name T p2] c.X.env=(false,cj e c.X.env)::aE [.Name T p2] c.X.env:=by rfl) (hpl:(gE pos (aE [.Name T p2] c.X.env)).any (·.1)=false:=by rfl) :
  JE c (.Call (.Name "isinstance" p) [e,.Name T p2] [] pos) (xy g Ts):=.of fun ρ=>by
 refine rK (rT Ih hgi hi PyProof.Rows.boot_isinstance (fY (h ρ) (fY (Ld hgT hT hv (v:=.ty Ts) rfl hn hdb) iR) he) (by decide) (by decide) he hpl) fun σ H Q h_0=>?_;obtain ⟨H0,Hs0,la,Hs,f,q⟩:=h_0;refine one f q fun d v H1 Hs1 e1 s1 f1 r1=>?_;unfold xy at q;rw [e1,bind_ok] at q;by_cases hd:nh d=true
 ·rw [if_pos hd] at q;exact ⟨v,d,Ts,_,rfl,(r1.full f1.st.sub).rep hd,LN Ts hTs hd,q _ H1 Hs1 s1 (.bool _)⟩
 ·rw [if_neg hd] at q;exact q.elim
def lL:List D->Option (List Bool)
 |[]=>some []
 |.bool b::r=>(lL r).map (b::·)
 |_::_=>none
theorem zt:∀ {bs:List Bool},lL ds=some bs->ds=bs.map cK:=by
 induction ds with
 |nil=>intro bs h;cases h;rfl
 |cons d r ih =>
  intro bs h;cases d with
  |bool b =>
   have h:(lL r).map (b::·)=some bs:=h;cases hr:lL r with
   |none=>rw [hr] at h;cases h
   |some z=>rw [hr] at h;cases h;rw [ih hr];rfl
  |_=>cases h
def gd (k:List Bool->Bool):D->R D
 |.list ds=>match lL ds with
  |some bs=>.ok (.bool (k bs))
  |none=>.no
 |_=>.no
theorem AO {id:String}{k:List Bool->Bool} (h:jv X (.builtin id) (fun xs H Q=>∃ p,∃ bs:List Bool,xs=[.ref p]/\lz X.K H p (bs.map V.bl)/\Q (.bl (k bs)) H)):GM X (.builtin id) (jr (gd k)):=by
 refine qU (fun d c n=>?_) fun pins s σ H x u Q Hs d d' I ru sub rx hd q=>?_
 ·unfold gd;split<;>(try split)<;>exact fun h=>by cases h
 ·unfold gd at hd;split at hd
  ·split at hd
   ·rename_i bs hb
    cases hd;obtain ⟨a,vs,rfl,qa,ra⟩:=rx.list sub;rw [zt hb] at ra;rw [xv ra] at qa;exact h pins s σ H _ _ Q I (.cons ru .nil) ⟨a,bs,rfl,qa,q _ H Hs (.refl sub) (.bool _)⟩
   ·cases hd
  ·cases hd
theorem oT (hc:X.calm=true):GM X (.builtin "all") (jr (gd fun bs=>bs.all id)):=AO (vQ hc)
theorem OI (hc:X.calm=true):GM X (.builtin "any") (jr (gd fun bs=>bs.any id)):=AO (vR hc)
def mf (x:Str):List D:=x.cps.toList.map fun c=>aF ⟨#[c]⟩
theorem FJ  (x:Str):RDs K H (vU x) (mf x):=by
 unfold vU mf;induction x.cps.toList with
 |nil=>exact .nil
 |cons a r ih=>exact .cons (.str _) ih
def iU:D->R D
 |.list xs=>.ok (.tuple xs)
 |.tuple xs=>.ok (.tuple xs)
 |.str x=>if x.cps.size<=1000 then .ok (.tuple (mf x)) else .no
 |_=>.no
theorem kX (hc:X.calm=true):GM X (.type "tuple") (jr iU):=by
 refine qU (fun d c n=>?_) fun pins s σ H x u Q Hs d d' I ru sub rx hd q=>?_
 ·unfold iU;split<;>(try split)<;>exact fun h=>by cases h
 ·unfold iU at hd;split at hd
  ·cases hd;obtain ⟨a,vs,rfl,qa,ra⟩:=rx.list sub;exact qz pins s σ H _ _ Q I (.cons ru .nil) ⟨a,vs,rfl,.inl ⟨qa,fun l hl=>q _ _ _ (.new sub hl) (.tuple bi (ra.same (c8.new sub hl).sh))⟩⟩
  ·cases hd;obtain ⟨a,vs,rfl,qa,ra,_⟩:=rx.tuple sub;refine qz pins s σ H _ _ Q I (.cons ru .nil) ⟨a,vs,rfl,.inr ⟨qa,?_⟩⟩;rcases rx with rx|⟨_,_,_,_,_,ow⟩
   ·exact q _ H Hs (.refl sub) rx
   ·cases ow
  ·split at hd
   ·rename_i hz
    cases hd;exact uO hc pins s σ H _ _ Q I (.cons ru .nil) ⟨_,by rw [rx.str],bH (dz hz),fun l hl=>q _ _ _ (.new sub hl) (.tuple bi (FJ _))⟩
   ·cases hd
  ·cases hd
def yd:D->R D
 |.list xs=>.ok (.list xs)
 |.tuple xs=>.ok (.list xs)
 |_=>.no
theorem LO:GM X (.type "list") (jr yd):=by
 refine qU (fun d c n=>?_) fun pins s σ H x u Q Hs d d' I ru sub rx hd q=>?_
 ·unfold yd;split<;>exact fun h=>by cases h
 ·unfold yd at hd;split at hd
  ·cases hd;obtain ⟨a,vs,rfl,qa,ra⟩:=rx.list sub;exact rX pins s σ H _ _ Q I (.cons ru .nil) ⟨a,vs,rfl,.inl qa,fun l hl=>q _ _ _ (.new sub hl) (.list (.of bi) (ra.same (c8.new sub hl).sh))⟩
  ·cases hd;obtain ⟨a,vs,rfl,qa,ra,_⟩:=rx.tuple sub;exact rX pins s σ H _ _ Q I (.cons ru .nil) ⟨a,vs,rfl,.inr qa,fun l hl=>q _ _ _ (.new sub hl) (.list (.of bi) (ra.same (c8.new sub hl).sh))⟩
  ·cases hd
def eB:List D->Option (List Str)
 |[]=>some []
 |.str b::r=>(eB r).map (b::·)
 |_::_=>none
theorem oU:∀ {bs:List Str},eB ds=some bs->ds=bs.map aF:=by
 induction ds with
 |nil=>intro bs h;cases h;rfl
 |cons d r ih =>
  intro bs h;cases d with
  |str b =>
   have h:(eB r).map (b::·)=some bs:=h;cases hr:eB r with
   |none=>rw [hr] at h;cases h
   |some z=>rw [hr] at h;cases h;rw [ih hr];rfl
  |_=>cases h
@[simp] theorem strsOf_map:∀ bs:List Str,eB (bs.map aF)=some bs
 |[]=>rfl
 |b::r=>by show (eB (r.map aF)).map (b::·)=_;rw [strsOf_map r];rfl
def pO:D->R D
 |.list ds=>match eB ds with
  |some ss=>if ss.length<64 then .ok (.list ((j3 ss).map .str)) else .no
  |none=>.no
 |_=>.no
theorem FK:GM X (.builtin "sorted") (jr pO):=by
 refine qU (fun d c n=>?_) fun pins s σ H x u Q Hs d d' I ru sub rx hd q=>?_
 ·unfold pO;split<;>(try split)<;>(try split)<;>exact fun h=>by cases h
 ·unfold pO at hd;split at hd
  ·split at hd
   ·split at hd
    ·rename_i ss hs hz
     cases hd;obtain ⟨a,vs,rfl,qa,ra⟩:=rx.list sub;rw [oU hs] at ra;rw [nA ra] at qa;exact tY pins s σ H _ _ Q I (.cons ru .nil) ⟨a,ss,rfl,qa,hz,fun l hl=>q _ _ _ (.new sub hl) (.list (.of bi) (vV _))⟩
    ·cases hd
   ·cases hd
  ·cases hd
end
end
section
inductive Qw (K:a8) (cls:Str->ah) (n:Nat) (F:List D->R D) (vs:List V) (H:Hp) (Q:VK) (E:XK):Prop
 |mk (Hs ds:_) (h0:cz Hs H) (h1:ds.length=n) (h2:RDs K Hs vs ds) (h3:Fin K cls E H Hs (F ds) fun d=>∀ v H' Hs',c8 H Hs H' Hs'->RD K Hs' v d->Q v H'):Qw K cls n F vs H Q E
def LP (K:a8) (cls:Str->ah) (n:Nat) (F:List D->R D):Sp:=Qw K cls n F
structure Fn (P:aS) (w:bn) (K:a8) (mg:Str->Option a9) (base:bu) (cls:Str->ah) (x:Str) (k n:Nat) (F:List D->R D):Prop where
 ex:∃ f fd ps,qi P w K mg base (w_ P w) k f fd ps (LP K cls n F)/\mg x=some (.ref f)/\eX K (.ref f)=true/\kn K fd ps []
section
def iV (n:Nat) (F:List D->R D) (gs:ay->R (List D)):ay->R D:=fun ρ=>(gs ρ).bind fun ds=>if ds.length=n then F ds else .no
theorem LQ  (G:Fn c.X.prog c.X.w c.X.K c.X.mg c.X.base c.cls x k n F) (hr:jT k c.X.A) (hg:Gl c.X x) (hx:oM (w_ c.X.prog c.X.w) c.X c.E) (ha:FF c (e::es) gs)
  (hdb:(x==("__debug__" : Str))=false:=by decide) (he:aE (e::es) c.X.env=(false,cj e c.X.env)::aE es c.X.env:=by rfl) (hpl:(gE pos (aE es c.X.env)).any (·.1)=false:=by rfl) :
  JE c (.Call (.Name x p) (e::es) [] pos) (iV n F gs):=.of fun ρ=>by
 obtain ⟨f,fd,ps,hf,hm,hk,hb⟩:=G.ex;refine rK (DM (E:=c.E) hf hr hg hm hk hb .nil hx (ha ρ) hdb he hpl) fun σ H Q h_0=>?_;obtain ⟨H0,Hs0,la,Hs,fr,q⟩:=h_0;refine AH fr q fun ds vs H1 Hs1 e1 s1 f1 r1=>?_;unfold iV at q;rw [e1,bind_ok] at q;by_cases hn:ds.length=n
 ·rw [if_pos hn] at q;show LP _ _ _ _ (vs++[]) _ _ _;rw [bC];exact ⟨Hs1,ds,f1.st.sub,hn,r1,q.on s1 fun d k v H2 Hs2 s2 r2=>k v H2 Hs2 (s1.trans s2) r2⟩
 ·rw [if_neg hn] at q;exact q.elim
end
inductive Fl where
 |nx (ρ:ay)
 |rt (d:D)
 |bk (ρ:ay)
 |ct (ρ:ay)
def mQ (K:a8) (cls:Str->ah) (E:XK) (H0 Hs0:Hp) (la:Nat->Option ah) (D:yT) (r:R Fl):Prop:=match r with
 |.ok (.nx ρ')=>∀ σ' H' Hs',Fr K H0 Hs0 la ρ' σ' H' Hs'->D.nx σ' H'
 |.ok (.bk ρ')=>∀ σ' H' Hs',Fr K H0 Hs0 la ρ' σ' H' Hs'->D.bk σ' H'
 |.ok (.ct ρ')=>∀ σ' H' Hs',Fr K H0 Hs0 la ρ' σ' H' Hs'->D.ct σ' H'
 |.ok (.rt d)=>∀ v H' Hs',c8 H0 Hs0 H' Hs'->RD K Hs' v d->D.rt v H'
 |.ex c n=>∀ H' Hs',c8 H0 Hs0 H' Hs'->XW K cls E c n H' Hs'
 |.no=>False
inductive Ta (K:a8) (cls:Str->ah) (E:XK) (ρ:ay) (r:R Fl) (D:yT) (σ:St) (H:Hp):Prop
 |mk (H0 Hs0:Hp) (la:Nat->Option ah) (Hs:Hp) (f:Fr K H0 Hs0 la ρ σ H Hs) (q:mQ K cls E H0 Hs0 la D r):Ta K cls E ρ r D σ H
def SR (K:a8) (cls:Str->ah) (E:XK) (ρ:ay) (r:R Fl):TS:=Ta K cls E ρ r
structure JS (c:C) (s:eJ) (g:ay->R Fl):Prop where of ::
 run:∀ ρ,PS c.X s (SR c.X.K c.cls c.E ρ (g ρ))
instance {c:C}{s:eJ}{g:ay->R Fl}:CoeFun (JS c s g) (fun _=>∀ ρ,PS c.X s (SR c.X.K c.cls c.E ρ (g ρ))):=⟨JS.run⟩
structure E1 (c:C) (s:List eJ) (g:ay->R Fl):Prop where of ::
 run:∀ ρ,DK c.X s (SR c.X.K c.cls c.E ρ (g ρ))
instance {c:C}{s:List eJ}{g:ay->R Fl}:CoeFun (E1 c s g) (fun _=>∀ ρ,DK c.X s (SR c.X.K c.cls c.E ρ (g ρ))):=⟨E1.run⟩
theorem Fr.set     (f:Fr K H0 Hs0 la ρ σ H Hs) (i:Nat)  (r:RD K Hs v d):Fr K H0 Hs0 la (ρ.set i (.shr d)) (σ.set i (some v)) H Hs:=by
 have hl:=f.len;have nx:∀ {j:Nat}{s:Sl},(∀ d,s≠.shr d)->(ρ.set i (.shr d))[j]?=some s->ρ[j]?=some s/\i≠j:=fun {j s} hs e=>by
  by_cases hj:i=j
  ·subst hj;by_cases hi:i<ρ.length
   ·rw [aG hi] at e;exact absurd (bE e).symm (hs d)
   ·rw [ca (by simpa using hi)] at e;cases e
  ·rw [aj hj] at e;exact ⟨e,hj⟩
 refine ⟨f.st,by simp [hl],fun j e h=>?_,fun j e h=>?_,fun j e h=>?_,fun j k d1 d2 a h1 h2 h3 h4=>?_,f.lh,fun j e h=>?_,fun j k d1 d2 h1 h2=>?_⟩
 ·by_cases hj:i=j
  ·subst hj;by_cases hi:i<ρ.length
   ·rw [aG hi] at h;cases h;exact ⟨v,aG (by omega),r⟩
   ·rw [ca (by simpa using hi)] at h;cases h
  ·rw [aj hj] at h ⊢;exact f.sh j e h
 ·obtain ⟨h,hj⟩:=nx (fun _ z=>by cases z) h;rw [aj hj];exact f.ow j e h
 ·obtain ⟨h,hj⟩:=nx (fun _ z=>by cases z) h;rw [aj hj];exact f.lk j e h
 ·obtain ⟨h1,n1⟩:=nx (fun _ z=>by cases z) h1;obtain ⟨h2,n2⟩:=nx (fun _ z=>by cases z) h2;rw [aj n1] at h3;rw [aj n2] at h4;exact f.dj j k d1 d2 a h1 h2 h3 h4
 ·obtain ⟨h,hj⟩:=nx (fun _ z=>by cases z) h;obtain ⟨a,as,O⟩:=f.o2 j e h;refine ⟨a,as,by rw [aj hj];exact O.at_,O.ob,O.nd,O.out,fun b hb k e' hk=>?_,O.inn⟩;obtain ⟨hk,nk⟩:=nx (fun _ z=>by cases z) hk;rw [aj nk];exact O.dj b hb k e' hk
 ·exact f.u2 j k d1 d2 (nx (fun _ z=>by cases z) h1).1 (nx (fun _ z=>by cases z) h2).1
theorem Fr.setO     (f:Fr K H0 Hs0 la ρ σ H Hs) (i:Nat)   (n:H a=none) (r:lG K Hs o d):Fr K H0 Hs0 la (ρ.set i (.own d)) (σ.set i (some (.ref a))) (upd H a o) Hs:=by
 have f':=f.step (c8.mine (o:=o) f.st.sub n);have hl:=f.len;have n0:H0 a=none:=f.st.all.free n;have ns:Hs a=none:=f.st.sub.free n;have nx:∀ {j:Nat}{s:Sl},(∀ d,s≠.own d)->(ρ.set i (.own d))[j]?=some s->ρ[j]?=some s/\i≠j:=fun {j s} hs e=>by
  by_cases hj:i=j
  ·subst hj;by_cases hi:i<ρ.length
   ·rw [aG hi] at e;exact absurd (bE e).symm (hs d)
   ·rw [ca (by simpa using hi)] at e;cases e
  ·rw [aj hj] at e;exact ⟨e,hj⟩
 have ne:∀ j e,ρ[j]?=some (Sl.own e)->σ[j]?≠some (some (V.ref a)):=fun j e h z=>by
  obtain ⟨b,o',h1,h2,_⟩:=f.ow j e h;rw [z] at h1;cases h1;rw [n] at h2;cases h2
 refine ⟨f'.st,by simp [hl],fun j e h=>?_,fun j e h=>?_,fun j e h=>?_,fun j k d1 d2 b h1 h2 h3 h4=>?_,f.lh,fun j e h=>?_,fun j k d1 d2 h1 h2=>?_⟩
 ·obtain ⟨h,hj⟩:=nx (fun _ z=>by cases z) h;rw [aj hj];exact f'.sh j e h
 ·by_cases hj:i=j
  ·subst hj;by_cases hi:i<ρ.length
   ·rw [aG hi] at h;cases h;exact ⟨a,o,aG (by omega),bi,ns,n0,r⟩
   ·rw [ca (by simpa using hi)] at h;cases h
  ·rw [aj hj] at h ⊢;exact f'.ow j e h
 ·obtain ⟨h,hj⟩:=nx (fun _ z=>by cases z) h;rw [aj hj];exact f'.lk j e h
 ·by_cases hj:i=j
  ·by_cases hk:i=k
   ·exact hj.symm.trans hk
   ·rw [aj hk] at h2 h4;subst hj;by_cases hi:i<ρ.length
    ·rw [aG (by omega)] at h3;cases h3;exact (ne k d2 h2 h4).elim
    ·rw [ca (by simpa using hi)] at h1;cases h1
  ·rw [aj hj] at h1 h3;by_cases hk:i=k
   ·subst hk;by_cases hi:i<ρ.length
    ·rw [aG (by omega)] at h4;cases h4;exact (ne j d1 h1 h3).elim
    ·rw [ca (by simpa using hi)] at h2;cases h2
   ·rw [aj hk] at h2 h4;exact f.dj j k d1 d2 b h1 h2 h3 h4
 ·obtain ⟨h,hj⟩:=nx (fun _ z=>by cases z) h;obtain ⟨b,as,O⟩:=f.o2 j e h;have nb:∀ c∈b::as,c≠a:=fun c hc z=>by
   subst z;rcases List.mem_cons.mp hc with z|z
   ·have:=O.ob;rw [<- z,n] at this;cases this
   ·obtain ⟨o,ho,_⟩:=O.inn.there z;rw [n] at ho;cases ho
  refine ⟨b,as,by rw [aj hj];exact O.at_,by rw [bh (nb b al)];exact O.ob,O.nd,O.out,fun c hc k e' hk=>?_,O.inn.upd fun z=>nb a (ai _ z) rfl⟩;by_cases nk:i=k
  ·subst nk;intro z;by_cases hi:i<ρ.length
   ·rw [aG (by omega)] at z;cases z;exact nb _ hc rfl
   ·rw [ca (by simp;omega)] at hk;cases hk
  ·rw [aj nk] at hk ⊢;exact O.dj c hc k e' hk
 ·exact f.u2 j k d1 d2 (nx (fun _ z=>by cases z) h1).1 (nx (fun _ z=>by cases z) h2).1
theorem Fr.write     (f:Fr K H0 Hs0 la ρ σ H Hs) (i:Nat)   (hi:ρ[i]?=some (Sl.own d)) (hs:σ[i]?=some (some (V.ref a))) (r:lG K Hs o d'):Fr K H0 Hs0 la (ρ.set i (.own d')) σ (upd H a o) Hs:=by
 obtain ⟨a',o',h1,h2,h3,h4,h5⟩:=f.ow i d hi;rw [hs] at h1;cases h1;have hl:=f.len;have hil:i<ρ.length:=(List.getElem?_eq_some_iff.mp hi).1;have nx:∀ {j:Nat}{s:Sl},(∀ d,s≠.own d)->(ρ.set i (.own d'))[j]?=some s->ρ[j]?=some s/\i≠j:=fun {j s} hs e=>by
  by_cases hj:i=j
  ·subst hj;rw [aG hil] at e;exact absurd (bE e).symm (hs d')
  ·rw [aj hj] at e;exact ⟨e,hj⟩
 refine ⟨⟨fun b u e=>?_,f.st.sh,fun b u e=>?_,f.st.out⟩,by simp [hl],fun j e h=>?_,fun j e h=>?_,fun j e h=>?_,fun j k d1 d2 b h1 h2 h3 h4=>?_,f.lh,fun j e h=>?_,fun j k d1 d2 h1 h2=>?_⟩
 ·rw [bh (bO e h4)];exact f.st.all b u e
 ·rw [bh (bO e h3)];exact f.st.sub b u e
 ·obtain ⟨h,hj⟩:=nx (fun _ z=>by cases z) h;exact f.sh j e h
 ·by_cases hj:i=j
  ·subst hj;rw [aG hil] at h;cases h;exact ⟨a,o,hs,bi,h3,h4,r⟩
  ·rw [aj hj] at h;obtain ⟨b,u,k1,k2,k3,k4,k5⟩:=f.ow j e h;refine ⟨b,u,k1,?_,k3,k4,k5⟩;rw [bh (fun z=>hj ?_)]
   ·exact k2
   ·subst z;exact f.dj i j d e b hi h hs k1
 ·obtain ⟨h,hj⟩:=nx (fun _ z=>by cases z) h;obtain ⟨b,u,k1,k2,k3,k4,k5,k6⟩:=f.lk j e h;refine ⟨b,u,k1,k2,?_,k4,k5,k6⟩;rw [bh (bO k5 h4)];exact k3
 ·have own:∀ {j:Nat}{e:D},(ρ.set i (.own d'))[j]?=some (Sl.own e)->∃ e',ρ[j]?=some (Sl.own e'):=fun {j e} h=>by
   by_cases hj:i=j
   ·subst hj;exact ⟨d,hi⟩
   ·rw [aj hj] at h;exact ⟨e,h⟩
  obtain ⟨e1,h1⟩:=own h1;obtain ⟨e2,h2⟩:=own h2;exact f.dj j k e1 e2 b h1 h2 h3 h4
 ·obtain ⟨h,hj⟩:=nx (fun _ z=>by cases z) h;obtain ⟨b,as,O⟩:=f.o2 j e h;have nb:∀ c∈b::as,c≠a:=fun c hc z=>by
   subst z;exact O.dj c hc i d hi hs
  refine ⟨b,as,O.at_,by rw [bh (nb b al)];exact O.ob,O.nd,O.out,fun c hc k e' hk=>?_,O.inn.upd fun z=>nb a (ai _ z) rfl⟩;by_cases nk:i=k
  ·subst nk;exact O.dj c hc i d hi
  ·rw [aj nk] at hk;exact O.dj c hc k e' hk
 ·exact f.u2 j k d1 d2 (nx (fun _ z=>by cases z) h1).1 (nx (fun _ z=>by cases z) h2).1
def d_ (ρ:ay):ay:=ρ.map fun s=>match s with
 |.own d=>.shr d
 |.ow2 dss=>.shr (.list (dss.map .list))
 |s=>s
open Classical in
theorem Fr.share     (f:Fr K H0 Hs0 la ρ σ H Hs):∃ Hs',Fr K H0 Hs0 la (d_ ρ) σ H Hs'/\c8 H Hs H Hs'\/Fr K H0 Hs0 la (d_ ρ) σ H Hs':=by
 let P:ah->Prop:=fun b=>(∃ (i:Nat) (d:D),ρ[i]?=some (Sl.own d)/\σ[i]?=some (some (V.ref b)))\/∃ (i:Nat) (dss:List (List D)) (a:ah) (as:List ah),ρ[i]?=some (Sl.ow2 dss)/\O2 K H0 H Hs ρ σ i dss a as/\b∈a::as
 let Hs':Hp:=fun b=>if P b then H b else Hs b
 have pos:∀ b,P b->Hs' b=H b:=fun b h=>if_pos h;have neg:∀ b,¬ P b->Hs' b=Hs b:=fun b h=>if_neg h;have up:cz Hs Hs':=fun b o e=>by
  by_cases h:P b
  ·rw [pos b h];exact f.st.sub b o e
  ·rw [neg b h];exact e
 have none0:∀ b o,H0 b=some o->¬ P b:=fun b o e hP=>by
  rcases hP with ⟨i,d,h1,h2⟩|⟨i,dss,a,as,h1,O,hb⟩
  ·obtain ⟨a,o',k1,_,_,k4,_⟩:=f.ow i d h1;rw [h2] at k1;cases k1;rw [e] at k4;cases k4
  ·have:=(O.out b hb).2;rw [e] at this;cases this
 have un:∀ {j:Nat}{s:Sl},(d_ ρ)[j]?=some s->(∃ d,s=.shr d/\ρ[j]?=some (Sl.own d))\/(∃ dss:List (List D),s=.shr (.list (dss.map .list))/\ρ[j]?=some (Sl.ow2 dss))\/((∀ d,s≠.own d)/\(∀ d,s≠.ow2 d)/\ρ[j]?=some s):=fun {j s} e=>by
  unfold d_ at e;rw [aW] at e;cases h:ρ[j]? with
  |none=>rw [h] at e;cases e
  |some t =>
   rw [h] at e;cases t with
   |own d=>cases e;exact .inl ⟨d,rfl,rfl⟩
   |no=>cases e;exact .inr (.inr ⟨fun _ z=>(by cases z),fun _ z=>(by cases z),rfl⟩)
   |shr d=>cases e;exact .inr (.inr ⟨fun _ z=>(by cases z),fun _ z=>(by cases z),rfl⟩)
   |lck d=>cases e;exact .inr (.inr ⟨fun _ z=>(by cases z),fun _ z=>(by cases z),rfl⟩)
   |ow2 d=>cases e;exact .inr (.inl ⟨d,rfl,rfl⟩)
 refine ⟨Hs',.inr ⟨⟨f.st.all,f.st.sh.trans up,fun b o e=>?_,fun a o e t z=>?_⟩,by simp [d_,f.len],fun j d h=>?_,fun j d h=>?_,fun j d h=>?_,fun j k d1 d2 a h1 h2 _ _=>?_,f.lh,fun j d h=>?_,fun j k d1 d2 h1 h2=>?_⟩⟩
 ·by_cases h:P b
  ·rw [pos b h] at e;exact e
  ·rw [neg b h] at e;exact f.st.sub b o e
 ·rw [neg a (none0 a o e)];exact f.st.out a o e t z
 ·rcases un h with ⟨d',e,h'⟩|⟨dss,e,h'⟩|⟨_,_,h'⟩
  ·cases e;obtain ⟨a,o,k1,k2,k3,k4,k5⟩:=f.ow j d h';refine ⟨_,k1,?_⟩;have hp:Hs' a=some o:=by rw [pos a (.inl ⟨j,d,h',k1⟩)];exact k2
   have e:cz (upd Hs a o) Hs':=fun b u q=>by
    by_cases hb:b=a
    ·subst hb;rw [bi] at q;cases q;exact hp
    ·rw [bh hb] at q;exact up b u q
   exact (k5.share k3).same e
  ·cases e;obtain ⟨a,as,O⟩:=f.o2 j dss h';refine ⟨_,O.at_,?_⟩;have hp:∀ b∈a::as,∀ o,H b=some o->Hs' b=some o:=fun b hb o ho=>by rw [pos b (.inr ⟨j,dss,a,as,h',O,hb⟩)];exact ho
   refine .list (.of (hp a al _ O.ob)) ?_;have go:∀ {as':List ah}{dss':List (List D)},(∀ b∈as',b∈a::as)->y7 K H Hs as' dss'->RDs K Hs' (as'.map V.ref) (dss'.map .list):=fun {as' dss'} hs hi=>by
    induction hi with
    |nil=>exact .nil
    |cons h1 h2 _ ih=>exact .cons (.list (.of (hp _ (hs _ al) _ h1)) (h2.same up)) (ih fun b hb=>hs b (ai _ hb))
   exact go (fun b hb=>ai _ hb) O.inn
  ·obtain ⟨v,k1,k2⟩:=f.sh j d h';exact ⟨v,k1,k2.same up⟩
 ·rcases un h with ⟨d',e,h'⟩|⟨d',e,h'⟩|⟨n,_,h'⟩
  ·cases e
  ·cases e
  ·exact (n d rfl).elim
 ·rcases un h with ⟨d',e,h'⟩|⟨d',e,h'⟩|⟨_,_,h'⟩
  ·cases e
  ·cases e
  ·obtain ⟨a,o,k1,k2,k3,k4,k5,k6⟩:=f.lk j d h';exact ⟨a,o,k1,k2,k3,by rw [neg a (none0 a o k5)];exact k4,k5,k6.same up⟩
 ·rcases un h1 with ⟨d',e,h'⟩|⟨d',e,h'⟩|⟨n,_,h'⟩
  ·cases e
  ·cases e
  ·exact (n d1 rfl).elim
 ·rcases un h with ⟨d',e,h'⟩|⟨d',e,h'⟩|⟨_,n,h'⟩
  ·cases e
  ·cases e
  ·exact (n d rfl).elim
 ·rcases un h1 with ⟨d',e,h'⟩|⟨d',e,h'⟩|⟨_,n,h'⟩
  ·cases e
  ·cases e
  ·exact (n d1 rfl).elim
theorem Fr.shared     (f:Fr K H0 Hs0 la ρ σ H Hs):∃ Hs',Fr K H0 Hs0 la (d_ ρ) σ H Hs':=by
 obtain ⟨Hs',h|h⟩:=f.share
 ·exact ⟨Hs',h.1⟩
 ·exact ⟨Hs',h⟩
section
variable {c:C}{e a b:a_}{g ga gb:ay->R D}{pos:Pos}{x:Str}{st:eJ}{bA:List eJ}{gs gr:ay->R Fl}
def aZ (g h:ay->R Fl):ay->R Fl:=fun ρ=>(g ρ).bind fun fl=>match fl with
 |.nx ρ'=>h ρ'
 |fl=>.ok fl
theorem eu:E1 c [] (fun ρ=>.ok (.nx ρ)):=.of fun ρ=>Sv Lf fun D σ H h_1=>by obtain ⟨H0,Hs0,la,Hs,f,q⟩:=h_1;exact q σ H Hs f
theorem bc (h:JS c st gs):E1 c [st] gs:=.of fun ρ=>Lg (h ρ)
theorem aQ (h:JS c st gs) (hr:E1 c bA gr):E1 c (st::bA) (aZ gs gr):=.of fun ρ pins s σ H D I h_2=>by
 obtain ⟨H0,Hs0,la,Hs,f,q⟩:=h_2;unfold aZ at q;cases hg:gs ρ with
 |no=>rw [hg] at q;exact q.elim
 |ex x n =>
  rw [hg] at q;refine oJ (h ρ) (pG (X:=c.X) (sts:=bA)) pins s σ H D I ⟨H0,Hs0,la,Hs,f,?_⟩;rw [hg];exact q
 |ok fl =>
  rw [hg,bind_ok] at q;cases fl with
  |nx ρ' =>
   refine oJ (h ρ) (hr ρ') pins s σ H D I ⟨H0,Hs0,la,Hs,f,?_⟩;rw [hg];exact fun σ' H' Hs' f'=>⟨H0,Hs0,la,Hs',f',q⟩
  |rt d =>
   refine oJ (h ρ) (pG (X:=c.X) (sts:=bA)) pins s σ H D I ⟨H0,Hs0,la,Hs,f,?_⟩;rw [hg];exact q
  |bk ρ' =>
   refine oJ (h ρ) (pG (X:=c.X) (sts:=bA)) pins s σ H D I ⟨H0,Hs0,la,Hs,f,?_⟩;rw [hg];exact q
  |ct ρ' =>
   refine oJ (h ρ) (pG (X:=c.X) (sts:=bA)) pins s σ H D I ⟨H0,Hs0,la,Hs,f,?_⟩;rw [hg];exact q
theorem sE            (f:Fr K H0 Hs0 la ρ σ H Hs)
  (h:mQ K cls E H0 Hs0 la D' (r.bind k)) (m:∀ d v H' Hs',r=.ok d->c8 H Hs H' Hs'->Fr K H0 Hs0 la ρ σ H' Hs'->RD K Hs' v d->Q v H'):TR K cls E ρ r σ H Q:=by
 refine ⟨H0,Hs0,la,Hs,f,?_⟩;cases r with
 |ok d=>exact fun v H' Hs' s r=>m d v H' Hs' rfl s (f.step s) r
 |ex c n=>exact fun H' Hs' s=>h H' Hs' (f.st.trans s)
 |no=>exact h
theorem sT            (f:Fr K H0 Hs0 la ρ σ H Hs)
  (h:mQ K cls E H0 Hs0 la D' (r.bind k)) (m:∀ d H' Hs',r=.ok d->c8 H Hs H' Hs'->Fr K H0 Hs0 la ρ σ H' Hs'->Q d H'):Af K cls E ρ r σ H Q:=by
 refine ⟨H0,Hs0,la,Hs,f,?_⟩;cases r with
 |ok d=>exact fun H' Hs' s=>m d H' Hs' rfl s (f.step s)
 |ex c n=>exact fun H' Hs' s=>h H' Hs' (f.st.trans s)
 |no=>exact h
def gf (g:ay->R D):ay->R Fl:=fun ρ=>(g (d_ ρ)).bind fun d=>.ok (.rt d)
theorem cJ (h:JE c e g):JS c (.Return (some e) pos) (gf g):=.of fun ρ=>xw (O0 (h (d_ ρ))) fun D σ H h_3=>by
 obtain ⟨H0,Hs0,la,Hs,f,q⟩:=h_3;obtain ⟨Hs',f'⟩:=f.shared;refine sE f' q fun d v H1 Hs1 e1 s1 f1 r1=>?_;unfold gf at q;rw [e1,bind_ok] at q;exact q v H1 Hs1 f1.st r1
def gz (t:ay->R Bool) (g h:ay->R Fl):ay->R Fl:=fun ρ=>(t ρ).bind fun b=>if b then g ρ else h ρ
theorem iB    (ht:JT c t gt) (hA:E1 c A gA) (hB:E1 c B gB):JS c (.If t A B pos) (gz gt gA gB):=.of fun ρ=>xw (PV (ht ρ) (hA ρ) (hB ρ)) fun D σ H h_5=>by
 obtain ⟨H0,Hs0,la,Hs,f,q⟩:=h_5;refine sT f q fun d H1 Hs1 e1 s1 f1=>?_;unfold gz at q;rw [e1,bind_ok] at q;cases d with
 |true=>exact vI ⟨H0,Hs0,la,Hs1,f1,q⟩
 |false=>exact vH ⟨H0,Hs0,la,Hs1,f1,q⟩
def iF (i:Nat) (g:ay->R D):ay->R Fl:=fun ρ=>(g ρ).bind fun d=>.ok (.nx (ρ.set i (.shr d)))
theorem gJ (i:Nat) (h:JE c e g) (hN:c.X.N.Nodup) (hi:c.X.N[i]?=some x:=by rfl) (hx:KC c.X.env.scope x:=by first|exact fV rfl|exact dD rfl) (hs:fE e (some (.Name x pos')) pos.line c.X.env=pure false:=by rfl)
  (hf:c.X.fn x=true\/c.X.env.scope.names.lookup x=some .local:=by first|exact .inl rfl|exact .inr rfl|assumption):JS c (.Assign [.Name x pos'] e pos) (iF i g):=.of fun ρ=>xw (Ct hN hi hx (h ρ) hs hf) fun D σ H h_6=>by
 obtain ⟨H0,Hs0,la,Hs,f,q⟩:=h_6;refine sE f q fun d v H1 Hs1 e1 s1 f1 r1=>?_;unfold iF at q;rw [e1,bind_ok] at q;exact q _ H1 Hs1 (f1.set i r1)
def vX (g:ay->R D):ay->R Fl:=fun ρ=>(g ρ).bind fun _=>.ok (.nx ρ)
theorem zu (h:JE c e g) (hs:fE e none pos.line c.X.env=pure false:=by rfl):JS c (.Expr e pos) (vX g):=.of fun ρ=>xw (vc (h ρ) hs) fun D σ H h_7=>by
 obtain ⟨H0,Hs0,la,Hs,f,q⟩:=h_7;refine sE f q fun d v H1 Hs1 e1 s1 f1 r1=>?_;unfold vX at q;rw [e1,bind_ok] at q;exact q _ H1 Hs1 f1
theorem Iy:JS c (.Break pos) (fun ρ=>.ok (.bk ρ)):=.of fun ρ=>xw Hi fun D σ H h_9=>by obtain ⟨H0,Hs0,la,Hs,f,q⟩:=h_9;exact q σ H Hs f
def Tb (K:a8) (H0 Hs0:Hp) (la:Nat->Option ah) (H Hs:Hp) (Q:St->Hp->Prop) (r:R ay):Prop:=match r with
 |.ok ρ'=>∀ σ',Fr K H0 Hs0 la ρ' σ' H Hs->Q σ' H
 |_=>False
inductive Qx (K:a8) (ρ:ay) (d:D) (r:R ay) (v:V) (σ:St) (H:Hp) (Q:St->Hp->Prop):Prop
 |mk (H0 Hs0:Hp) (la:Nat->Option ah) (Hs:Hp) (f:Fr K H0 Hs0 la ρ σ H Hs) (rd:RD K Hs v d) (q:Tb K H0 Hs0 la H Hs Q r):Qx K ρ d r v σ H Q
def OJ (K:a8) (ρ:ay) (d:D) (r:R ay):TG:=Qx K ρ d r
inductive MX (K:a8) (ρ:ay) (ds:List D) (r:R ay) (vs:List V) (σ:St) (H:Hp) (Q:St->Hp->Prop):Prop
 |mk (H0 Hs0:Hp) (la:Nat->Option ah) (Hs:Hp) (f:Fr K H0 Hs0 la ρ σ H Hs) (rd:RDs K Hs vs ds) (q:Tb K H0 Hs0 la H Hs Q r):MX K ρ ds r vs σ H Q
def Qy (K:a8) (ρ:ay) (ds:List D) (r:R ay):Hj:=MX K ρ ds r
structure JG (c:C) (t:a_) (k:D->ay->R ay):Prop where of ::
 run:∀ ρ d,PG c.X t (OJ c.X.K ρ d (k d ρ))
instance {c:C}{t:a_}{k:D->ay->R ay}:CoeFun (JG c t k) (fun _=>∀ ρ d,PG c.X t (OJ c.X.K ρ d (k d ρ))):=⟨JG.run⟩
structure Pz (c:C) (t:List a_) (k:List D->ay->R ay):Prop where of ::
 run:∀ ρ d,MA c.X t (Qy c.X.K ρ d (k d ρ))
instance {c:C}{t:List a_}{k:List D->ay->R ay}:CoeFun (Pz c t k) (fun _=>∀ ρ d,MA c.X t (Qy c.X.K ρ d (k d ρ))):=⟨Pz.run⟩
theorem Tc   (h:PG X e t) (m:∀ v σ H Q,t' v σ H Q->t v σ H Q):PG X e t':=fun pins s σ H v u Q I r q=>h pins s σ H v u Q I r (m v σ H Q q)
theorem SA {X:Cx}{e:List a_}{t t':Hj} (h:MA X e t) (m:∀ v σ H Q,t' v σ H Q->t v σ H Q):MA X e t':=fun pins s σ H v u Q I r q=>h pins s σ H v u Q I r (m v σ H Q q)
def bJ (i:Nat):D->ay->R ay:=fun d ρ=>.ok (ρ.set i (.shr d))
theorem dB (i:Nat) (hN:c.X.N.Nodup) (hi:c.X.N[i]?=some x:=by rfl) (hx:KC c.X.env.scope x:=by first|exact fV rfl|exact dD rfl) (hf:c.X.fn x=true\/c.X.env.scope.names.lookup x=some .local:=by first|exact .inl rfl|exact .inr rfl|assumption) :
  JG c (.Name x pos) (bJ i):=.of fun ρ d=>Tc (dA hN hi hx hf) fun v σ H Q h_11=>by obtain ⟨H0,Hs0,la,Hs,f,r,q⟩:=h_11;exact q _ (f.set i r)
def oV:List D->ay->R ay:=fun ds ρ=>match ds with
 |[]=>.ok ρ
 |_=>.no
def de (k:D->ay->R ay) (ks:List D->ay->R ay):List D->ay->R ay:=fun ds ρ=>match ds with
 |d::r=>(k d ρ).bind fun ρ'=>ks r ρ'
 |_=>.no
theorem pP:Pz c [] oV:=.of fun ρ ds=>SA yU fun vs σ H Q h_12=>by
 obtain ⟨H0,Hs0,la,Hs,f,r,q⟩:=h_12;cases r with
 |nil=>exact ⟨rfl,q σ f⟩
 |cons _ _=>exact q.elim
theorem eC (h:JG c t kt) (hr:Pz c ts kts) (hs:(ic (t::ts) c.X.env).map (·.2)=i9 t c.X.env::(ic ts c.X.env).map (·.2):=by rfl):Pz c (t::ts) (de kt kts):=.of fun ρ ds pins s σ H vs us Q I rv h_13=>by
 obtain ⟨H0,Hs0,la,Hs,f,r,q⟩:=h_13;cases r with
 |nil=>exact q.elim
 | @cons v vr d dr r1 r2 =>
  unfold de at q;cases hk:kt d ρ with
  |ok ρ' =>
   simp only [hk,bind_ok] at q;refine oK (h ρ d) (hr ρ' dr) hs pins s σ H _ us Q I rv ⟨v,vr,rfl,H0,Hs0,la,Hs,f,r1,?_⟩;rw [hk];exact fun σ' f'=>⟨H0,Hs0,la,Hs,f',r2,q⟩
  |ex x n=>simp only [hk,bind_ex] at q;exact q.elim
  |no=>simp only [hk,bind_no] at q;exact q.elim
def nD (n:Nat) (ks:List D->ay->R ay):D->ay->R ay:=fun d ρ=>match d with
 |.tuple ds=>if ds.length=n then ks ds ρ else .no
 |_=>.no
theorem tZ (hc:c.X.calm=true) (h:Pz c ts kts) (hn:(ic ts c.X.env).length=n:=by rfl) (hst:(ic ts c.X.env).findIdx? (·.1)=none:=by rfl):JG c (.Tuple ts k pos) (nD n kts):=.of fun ρ d=>by
 cases d with
 |tuple ds =>
  refine Tc (Cs hc (h ρ ds) hn hst) fun v σ H Q h_14=>?_;obtain ⟨H0,Hs0,la,Hs,f,r,q⟩:=h_14;cases r with
  | @tuple p xs _ hq rs =>
   unfold nD at q;by_cases hl:ds.length=n
   ·simp only [if_pos hl] at q;exact ⟨p,xs,rfl,(jR.of (f.st.sub _ _ hq)),by rw [rs.length];exact hl,H0,Hs0,la,Hs,f,rs,q⟩
   ·simp only [if_neg hl] at q;exact q.elim
 |_=>exact fun pins s σ H v u Q I rv h_15=>by obtain ⟨H0,Hs0,la,Hs,f,r,q⟩:=h_15;exact q.elim
def xz (g:ay->R D) (k:D->ay->R ay):ay->R Fl:=fun ρ=>(g ρ).bind fun d=>match k d ρ with
 |.ok ρ'=>.ok (.nx ρ')
 |_=>.no
theorem C_ (h:JE c e g) (hg:JG c t kt) (hs:swapsWithSole [t] e pos.line c.X.env=pure false:=by rfl) (hw:swappedStores [t] e c.X.env=pure none:=by rfl) (h1:(ic [t] c.X.env).map (·.2)=[i9 t c.X.env]:=by rfl) :
  JS c (.Assign [t] e pos) (xz g kt):=.of fun ρ=>by
 cases hr:g ρ with
 |ok d =>
  refine xw (Hl (h ρ) (hg ρ d) hs hw h1) fun D σ H h_16=>?_;obtain ⟨H0,Hs0,la,Hs,f,q⟩:=h_16;refine sE (k:=fun d=>match kt d ρ with | .ok ρ'=>.ok (.nx ρ')|_=>.no) f q fun d' v H1 Hs1 e1 s1 f1 r1=>?_;rw [hr] at e1;cases e1;unfold xz at q;rw [hr,bind_ok] at q;refine ⟨H0,Hs0,la,Hs1,f1,r1,?_⟩;cases hk:kt d ρ with
  |ok ρ'=>rw [hk] at q;exact fun σ' f'=>q σ' H1 Hs1 f'
  |ex x n=>rw [hk] at q;exact q.elim
  |no=>rw [hk] at q;exact q.elim
 |ex x n =>
  refine xw (Hl (h ρ) (hg ρ .none) hs hw h1) fun D σ H h_17=>?_;obtain ⟨H0,Hs0,la,Hs,f,q⟩:=h_17;refine sE (k:=fun _=>.no) (D':=D) f (by unfold xz at q;rw [hr] at q ⊢;exact q) fun d' v H1 Hs1 e1 s1 f1 r1=>?_;rw [hr] at e1;cases e1
 |no =>
  refine fun pins s σ H D I h_18=>?_;obtain ⟨H0,Hs0,la,Hs,f,q⟩:=h_18;unfold xz at q;rw [hr] at q;exact q.elim
end
end
section
def Iz (K:a8) (J:It) (ds:List D) (Hn Hs:Hp):Prop:=∀ H2 Hs2,cz Hn H2->cz Hs Hs2->cz Hs2 H2 ->
 (∀ i,i<ds.length->J.go i H2)/\(∀ i,ds.length<=i->J.stop i H2)/\∀ i x H3,i<ds.length->J.yld i H2 x H3->∃ d Hs3,ds[i]?=some d/\c8 H2 Hs2 H3 Hs3/\RD K Hs3 x d
theorem zw     (h:lz K Hn a vs) (r:RDs K Hs vs ds):Iz K (RX K a) ds Hn Hs:=fun H2 Hs2 e1 e2 e3=>by
 have q:=e1.seq h;refine ⟨fun i hi=>?_,fun i hi=>⟨vs,q,by rw [r.length];exact hi⟩,fun i x H3 hi y=>?_⟩
 ·have hi':i<vs.length:=by rw [r.length];exact hi
  exact ⟨vs,vs[i],q,bq hi'⟩
 ·obtain ⟨rfl,y⟩:=y;obtain ⟨d,k1,k2⟩:=r.get (y vs q);exact ⟨d,Hs2,k1,.refl e3,k2.same e2⟩
theorem IA     (h:jR K Hn a vs) (r:RDs K Hs vs ds):Iz K (RY K a) ds Hn Hs:=fun H2 Hs2 e1 e2 e3=>by
 have q:=e1.tup h;refine ⟨fun i hi=>?_,fun i hi=>⟨vs,q,by rw [r.length];exact hi⟩,fun i x H3 hi y=>?_⟩
 ·have hi':i<vs.length:=by rw [r.length];exact hi
  exact ⟨vs,vs[i],q,bq hi'⟩
 ·obtain ⟨rfl,y⟩:=y;obtain ⟨d,k1,k2⟩:=r.get (y vs q);exact ⟨d,Hs2,k1,.refl e3,k2.same e2⟩
theorem IB  (x:Str):Iz K (Qh x) (mf x) Hn Hs:=fun H2 Hs2 e1 e2 e3=>by
 have hl:(mf x).length=x.cps.size:=by simp [mf]
 refine ⟨fun i hi=>by rw [hl] at hi;exact hi,fun i hi=>by rw [hl] at hi;exact hi,fun i v H3 hi y=>?_⟩;obtain ⟨rfl,c,k1,rfl⟩:=y;refine ⟨.str ⟨#[c]⟩,Hs2,?_,.refl e3,.str _⟩;unfold mf;rw [aW,aY,k1];rfl
def oW (lo:Int) (n:Nat):List D:=(bY n).map fun (k:Nat)=>fk (lo+k)
theorem IC  (lo:Int) (n:Nat):Iz K (Rt lo n) (oW lo n) Hn Hs:=fun H2 Hs2 e1 e2 e3=>by
 have hl:(oW lo n).length=n:=by simp [oW]
 refine ⟨fun i hi=>by rw [hl] at hi;exact hi,fun i hi=>by rw [hl] at hi;exact hi,fun i v H3 hi y=>?_⟩;obtain ⟨rfl,rfl⟩:=y;refine ⟨.int (lo+i),Hs2,?_,.refl e3,.int _⟩;rw [hl] at hi;unfold oW;rw [aW,F6 hi];rfl
def jV (n:Nat):List D->List D
 |[]=>[]
 |d::r=>.tuple [.int n,d]::jV (n+1) r
theorem t_:∀ (ds:List D) (n i:Nat),(jV n ds)[i]?=(ds[i]?).map fun d=>ev [.int ((n+i:Nat):Int),d]
 |[],_,_=>by simp [jV]
 |d::r,n,0=>by simp [jV]
 |d::r,n,i+1=>by
  simp only [jV,ji];rw [t_ r (n+1) i,show n+1+i=n+(i+1) by omega]
theorem u0:∀ (ds:List D) (n:Nat),(jV n ds).length=ds.length
 |[],_=>rfl
 |d::r,n=>by simp [jV,u0 r]
theorem LR     (h:jR K Hn a vs) (r:RDs K Hs vs ds):Iz K (Si K a) (jV 0 ds) Hn Hs:=fun H2 Hs2 e1 e2 e3=>by
 have q:=e1.tup h;have hl:=u0 ds 0;refine ⟨fun i hi=>?_,fun i hi=>⟨vs,q,by rw [r.length];omega⟩,fun i x H3 hi y=>?_⟩
 ·have hi':i<vs.length:=by rw [r.length];omega
  exact ⟨vs,vs[i],q,bq hi'⟩
 ·obtain ⟨p,hp,rfl,y⟩:=y;obtain ⟨x,k0,rfl⟩:=y vs q;obtain ⟨d,k1,k2⟩:=r.get k0;have st:=c8.new (o:=.tup [.int i,x]) e3 hp;refine ⟨.tuple [.int i,d],_,?_,st,.tuple bi (.cons (.int _) (.cons ((k2.same e2).same st.sh) .nil))⟩;rw [t_,k1];simp
def uR:List D->List D->List D
 |x::xs,y::ys=>.tuple [x,y]::uR xs ys
 |_,_=>[]
theorem AQ:∀ (xs ys:List D) (i:Nat) (x y:D),xs[i]?=some x->ys[i]?=some y->(uR xs ys)[i]?=some (.tuple [x,y])
 |x::xs,y::ys,0,_,_,h1,h2=>by simp at h1 h2;subst h1 h2;rfl
 |_::xs,_::ys,i+1,x,y,h1,h2=>by
  simp only [ji] at h1 h2;simp only [uR,ji];exact AQ xs ys i x y h1 h2
 |[],_,_,_,_,h1,_=>by simp at h1
 |_::_,[],_,_,_,_,h2=>by simp at h2
theorem AR:∀ (xs ys:List D),(uR xs ys).length=min xs.length ys.length
 |x::xs,y::ys=>by simp [uR,AR xs ys]
 |[],_=>by simp [uR]
 |_::_,[]=>by simp [uR]
theorem OK     (h:jR K Hn a vs) (r:RDs K Hs vs ds) (h':jR K Hn b ws) (r':RDs K Hs ws es):Iz K (Sj K a b) (uR ds es) Hn Hs:=fun H2 Hs2 e1 e2 e3=>by
 have q:=e1.tup h;have q':=e1.tup h';have hl:=AR ds es;refine ⟨fun i hi=>?_,fun i hi=>⟨vs,ws,q,q',by rw [r.length,r'.length];omega⟩,fun i x H3 hi y=>?_⟩
 ·have h1:i<vs.length:=by rw [r.length];omega
  have h2:i<ws.length:=by rw [r'.length];omega
  exact ⟨vs,ws,vs[i],ws[i],q,q',bq h1,bq h2⟩
 ·obtain ⟨p,hp,rfl,y⟩:=y;obtain ⟨x,z,k0,k0',rfl⟩:=y vs ws q q';obtain ⟨d,k1,k2⟩:=r.get k0;obtain ⟨d',k1',k2'⟩:=r'.get k0';have st:=c8.new (o:=.tup [x,z]) e3 hp;exact ⟨.tuple [d,d'],_,AQ ds es i d d' k1 k1',st,.tuple bi (.cons ((k2.same e2).same st.sh) (.cons ((k2'.same e2).same st.sh) .nil))⟩
inductive Qz (K:a8) (cls:Str->ah) (E:XK) (ρ:ay) (r:R (List D)) (σ:St) (H:Hp) (Q:It->Hp->Prop):Prop
 |mk (H0 Hs0:Hp) (la:Nat->Option ah) (Hs:Hp) (f:Fr K H0 Hs0 la ρ σ H Hs) (q:Fin K cls E H Hs r fun ds=>∀ J H' Hs' Hn,c8 H Hs H' Hs'->cz Hn H'->Iz K J ds Hn Hs'->Q J H'):Qz K cls E ρ r σ H Q
def OL (K:a8) (cls:Str->ah) (E:XK) (ρ:ay) (r:R (List D)):TI:=Qz K cls E ρ r
inductive QA (K:a8) (cls:Str->ah) (E:XK) (ρ:ay) (r:R (List D)) (σ:St) (H:Hp) (Q:It->Hp->Prop):Prop
 |mk (H0 Hs0:Hp) (la:Nat->Option ah) (Hs:Hp) (f:Fr K H0 Hs0 la ρ σ H Hs) (q:Fin K cls E H Hs r fun ds=>∀ J H' Hs',c8 H Hs H' Hs'->Iz K J ds Hs' Hs'->Q J H'):QA K cls E ρ r σ H Q
def Td (K:a8) (cls:Str->ah) (E:XK) (ρ:ay) (r:R (List D)):TI:=QA K cls E ρ r
structure JI (c:C) (tg it:a_) (g:ay->R (List D)):Prop where of ::
 run:∀ ρ,PI c.X tg it (OL c.X.K c.cls c.E ρ (g ρ))
instance {c:C}{tg it:a_}{g:ay->R (List D)}:CoeFun (JI c tg it g) (fun _=>∀ ρ,PI c.X tg it (OL c.X.K c.cls c.E ρ (g ρ))):=⟨JI.run⟩
structure GN (c:C) (tg it:a_) (g:ay->R (List D)):Prop where of ::
 run:∀ ρ,PI c.X tg it (Td c.X.K c.cls c.E ρ (g ρ))
instance {c:C}{tg it:a_}{g:ay->R (List D)}:CoeFun (GN c tg it g) (fun _=>∀ ρ,PI c.X tg it (Td c.X.K c.cls c.E ρ (g ρ))):=⟨GN.run⟩
theorem FL   (h:PI X tg e t) (m:∀ σ H Q,t' σ H Q->t σ H Q):PI X tg e t':=fun pins s σ H Q I q=>h pins s σ H Q I (m σ H Q q)
section
def vY:D->R (List D)
 |.list ds=>.ok ds
 |.tuple ds=>.ok ds
 |.str x=>.ok (mf x)
 |_=>.no
def jh (g:ay->R D):ay->R (List D):=fun ρ=>(g ρ).bind vY
theorem gK (h:JB c l g):JI c tg l (jh g):=.of fun ρ=>by
 cases hr:g ρ with
 |no=>exact fun pins s σ H Q I h_0=>by obtain ⟨H0,Hs0,la,Hs,f,q⟩:=h_0;exact by unfold jh at q;rw [hr] at q;exact q.elim
 |ex x n =>
  refine FL (rR (h ρ)) fun σ H Q h_1=>?_;obtain ⟨H0,Hs0,la,Hs,f,q⟩:=h_1;refine one f q fun d v H1 Hs1 e1 s1 f1 r1=>?_;rw [hr] at e1;cases e1
 |ok d =>
  cases d with
  |list ds =>
   refine FL (rR (h ρ)) fun σ H Q h_2=>?_;obtain ⟨H0,Hs0,la,Hs,f,q⟩:=h_2;refine one f q fun d v H1 Hs1 e1 s1 f1 r1=>?_;rw [hr] at e1;cases e1;unfold jh at q;rw [hr,bind_ok] at q;obtain ⟨a,vs,rfl,qa,ra⟩:=r1.list f1.st.sub;exact ⟨a,rfl,⟨vs,qa⟩,q _ H1 Hs1 H1 s1 (.refl _) (zw qa ra)⟩
  |tuple ds =>
   refine FL (Hq (h ρ)) fun σ H Q h_3=>?_;obtain ⟨H0,Hs0,la,Hs,f,q⟩:=h_3;refine one f q fun d v H1 Hs1 e1 s1 f1 r1=>?_;rw [hr] at e1;cases e1;unfold jh at q;rw [hr,bind_ok] at q;obtain ⟨a,vs,rfl,qa,ra,_⟩:=r1.tuple f1.st.sub;exact ⟨a,rfl,⟨vs,qa⟩,q _ H1 Hs1 H1 s1 (.refl _) (IA qa ra)⟩
  |str x =>
   refine FL (I0 (h ρ)) fun σ H Q h_4=>?_;obtain ⟨H0,Hs0,la,Hs,f,q⟩:=h_4;refine one f q fun d v H1 Hs1 e1 s1 f1 r1=>?_;rw [hr] at e1;cases e1;unfold jh at q;rw [hr,bind_ok] at q;exact ⟨x,r1.str,q _ H1 Hs1 H1 s1 (.refl _) (IB x)⟩
  |none=>exact fun pins s σ H Q I h_5=>by obtain ⟨H0,Hs0,la,Hs,f,q⟩:=h_5;exact by unfold jh at q;rw [hr] at q;exact q.elim
  |bool _=>exact fun pins s σ H Q I h_6=>by obtain ⟨H0,Hs0,la,Hs,f,q⟩:=h_6;exact by unfold jh at q;rw [hr] at q;exact q.elim
  |int _=>exact fun pins s σ H Q I h_7=>by obtain ⟨H0,Hs0,la,Hs,f,q⟩:=h_7;exact by unfold jh at q;rw [hr] at q;exact q.elim
  |dict _=>exact fun pins s σ H Q I h_8=>by obtain ⟨H0,Hs0,la,Hs,f,q⟩:=h_8;exact by unfold jh at q;rw [hr] at q;exact q.elim
theorem zx (h:JE c l g):GN c tg l (jh g):=.of fun ρ=>by
 cases hr:g ρ with
 |no=>exact fun pins s σ H Q I h_9=>by obtain ⟨H0,Hs0,la,Hs,f,q⟩:=h_9;exact by unfold jh at q;rw [hr] at q;exact q.elim
 |ex x n =>
  refine FL (rR (h ρ)) fun σ H Q h_10=>?_;obtain ⟨H0,Hs0,la,Hs,f,q⟩:=h_10;refine zk f q fun d v H1 Hs1 e1 s1 f1 r1=>?_;rw [hr] at e1;cases e1
 |ok d =>
  cases d with
  |list ds =>
   refine FL (rR (h ρ)) fun σ H Q h_11=>?_;obtain ⟨H0,Hs0,la,Hs,f,q⟩:=h_11;refine zk f q fun d v H1 Hs1 e1 s1 f1 r1=>?_;rw [hr] at e1;cases e1;unfold jh at q;rw [hr,bind_ok] at q;cases r1 with
   |list qa ra=>exact ⟨_,rfl,⟨_,f1.st.sub.seq qa⟩,q _ H1 Hs1 s1 (zw qa ra)⟩
  |tuple ds =>
   refine FL (Hq (h ρ)) fun σ H Q h_12=>?_;obtain ⟨H0,Hs0,la,Hs,f,q⟩:=h_12;refine zk f q fun d v H1 Hs1 e1 s1 f1 r1=>?_;rw [hr] at e1;cases e1;unfold jh at q;rw [hr,bind_ok] at q;cases r1 with
   |tuple qa ra=>exact ⟨_,rfl,⟨_,(jR.of (f1.st.sub _ _ qa))⟩,q _ H1 Hs1 s1 (IA (.of qa) ra)⟩
  |str x =>
   refine FL (I0 (h ρ)) fun σ H Q h_13=>?_;obtain ⟨H0,Hs0,la,Hs,f,q⟩:=h_13;refine zk f q fun d v H1 Hs1 e1 s1 f1 r1=>?_;rw [hr] at e1;cases e1;unfold jh at q;rw [hr,bind_ok] at q;cases r1 with
   |str _=>exact ⟨x,rfl,q _ H1 Hs1 s1 (IB x)⟩
  |none=>exact fun pins s σ H Q I h_14=>by obtain ⟨H0,Hs0,la,Hs,f,q⟩:=h_14;exact by unfold jh at q;rw [hr] at q;exact q.elim
  |bool _=>exact fun pins s σ H Q I h_15=>by obtain ⟨H0,Hs0,la,Hs,f,q⟩:=h_15;exact by unfold jh at q;rw [hr] at q;exact q.elim
  |int _=>exact fun pins s σ H Q I h_16=>by obtain ⟨H0,Hs0,la,Hs,f,q⟩:=h_16;exact by unfold jh at q;rw [hr] at q;exact q.elim
  |dict _=>exact fun pins s σ H Q I h_17=>by obtain ⟨H0,Hs0,la,Hs,f,q⟩:=h_17;exact by unfold jh at q;rw [hr] at q;exact q.elim
theorem GN.i (h:GN c tg l gs):JI c tg l gs:=.of fun ρ=>FL (h ρ) fun σ H Q ⟨H0,Hs0,la,Hs,f,q⟩=>⟨H0,Hs0,la,Hs,f,by
 cases hr:gs ρ with
 |ok ds=>rw [hr] at q;exact fun J H' Hs' s i=>q J H' Hs' Hs' s s.sub i
 |ex x n=>rw [hr] at q;exact q
 |no=>rw [hr] at q;exact q⟩
def D0:List D->R (List D)
 |[.int j]=>if -(2 ^ 62)<=j/\j<2 ^ 62 then .ok (oW 0 j.toNat) else .no
 |_=>.no
def ye (gs:ay->R (List D)):ay->R (List D):=fun ρ=>(gs ρ).bind D0
theorem qW (hg:Gl c.X "range") (hm:c.X.mg "range"=none) (ha:MS c [a] gs) (hs:aE [a] c.X.env=[(false,cj a c.X.env)]:=by rfl):GN c tg (.Call (.Name "range" p) [a] [] pos) (ye gs):=.of fun ρ=>FL (Fg hg hm (ha ρ) hs) fun σ H Q h_18=>by
 obtain ⟨H0,Hs0,la,Hs,f,q⟩:=h_18;refine Il f q fun ds vs H1 Hs1 e1 s1 f1 r1=>?_;unfold ye at q;rw [e1,bind_ok] at q;unfold D0 at q;split at q
 ·rename_i j
  by_cases hj:-(2 ^ 62)<=j/\j<2 ^ 62
  ·rw [if_pos hj] at q;obtain ⟨x,rfl,rx⟩:=r1.one;exact ⟨j,by rw [rx.int],hj.1,hj.2,q _ H1 Hs1 s1 (IC 0 _)⟩
  ·rw [if_neg hj] at q;exact q.elim
 ·exact q.elim
def RE:List D->R (List D)
 |[.tuple ds]=>.ok (jV 0 ds)
 |_=>.no
def D1 (gs:ay->R (List D)):ay->R (List D):=fun ρ=>(gs ρ).bind RE
theorem RDs.one    (h:RDs K H xs [d]):∃ x,xs=[x]/\RD K H x d:=by
 cases h with|cons a t=>cases t;exact ⟨_,rfl,a⟩
theorem RDs.two {K:a8}{H:Hp}{xs:List V}{d e:D} (h:RDs K H xs [d,e]):∃ x y,xs=[x,y]/\RD K H x d/\RD K H y e:=by
 cases h with|cons a t=>cases t with|cons b t=>cases t;exact ⟨_,_,rfl,a,b⟩
theorem vZ {x1} (hg:Gl c.X "enumerate") (hm:c.X.mg "enumerate"=none) (ha:FF c [a] gs) (hs:aE [a] c.X.env=[(false,cj a c.X.env)]:=by rfl):GN c (.Tuple elts x1 tpos) (.Call (.Name "enumerate" p) [a] [] pos) (D1 gs):=.of fun ρ=>FL (LG hg hm (ha ρ) hs) fun σ H Q h_20=>by
 obtain ⟨H0,Hs0,la,Hs,f,q⟩:=h_20;refine AH f q fun ds vs H1 Hs1 e1 s1 f1 r1=>?_;unfold D1 at q;rw [e1,bind_ok] at q;unfold RE at q;split at q
 ·obtain ⟨x,rfl,rx⟩:=r1.one;cases rx with
  |tuple qa ra=>exact ⟨_,_,rfl,(jR.of (f1.st.sub _ _ qa)),q _ H1 Hs1 s1 (LR (.of qa) ra)⟩
 ·exact q.elim
def zp:List D->R (List D)
 |[.tuple ds,.tuple es]=>.ok (uR ds es)
 |_=>.no
def LS (gs:ay->R (List D)):ay->R (List D):=fun ρ=>(gs ρ).bind zp
theorem LU {x1} (hg:Gl c.X "zip") (hm:c.X.mg "zip"=none) (ha:FF c [a,b] gs) (hs:aE [a,b] c.X.env=[(false,cj a c.X.env),(false,cj b c.X.env)]:=by rfl) (hs2:aE [b] c.X.env=[(false,cj b c.X.env)]:=by rfl) :
  GN c (.Tuple elts x1 tpos) (.Call (.Name "zip" p) [a,b] [] pos) (LS gs):=.of fun ρ=>FL (Oy hg hm (ha ρ) hs hs2) fun σ H Q h_21=>by
 obtain ⟨H0,Hs0,la,Hs,f,q⟩:=h_21;refine AH f q fun ds vs H1 Hs1 e1 s1 f1 r1=>?_;unfold LS at q;rw [e1,bind_ok] at q;unfold zp at q;split at q
 ·obtain ⟨x,y,rfl,rx,ry⟩:=r1.two;cases rx with
  |tuple qa ra =>
   cases ry with
   |tuple qb rb=>exact ⟨_,_,_,_,rfl,(jR.of (f1.st.sub _ _ qa)),(jR.of (f1.st.sub _ _ qb)),q _ H1 Hs1 s1 (OK (.of qa) ra (.of qb) rb)⟩
 ·exact q.elim
end
end
section
inductive Te (K:a8) (cls:Str->ah) (E:XK) (ρ:ay) (r:R D) (σ:St) (H:Hp) (Q:VK):Prop
 |mk (H0 Hs0:Hp) (la:Nat->Option ah) (Hs:Hp) (f:Fr K H0 Hs0 la ρ σ H Hs) (q:Fin K cls E H Hs r fun d=>∀ a o H' Hs',c8 H Hs H' Hs'->H' a=none->lG K Hs' o d->Q (.ref a) (upd H' a o)):Te K cls E ρ r σ H Q
def TN (K:a8) (cls:Str->ah) (E:XK) (ρ:ay) (r:R D):TE:=Te K cls E ρ r
structure JN (c:C) (e:a_) (g:ay->R D):Prop where of ::
 run:∀ ρ,PE c.X e (TN c.X.K c.cls c.E ρ (g ρ))
instance {c:C}{e:a_}{g:ay->R D}:CoeFun (JN c e g) (fun _=>∀ ρ,PE c.X e (TN c.X.K c.cls c.E ρ (g ρ))):=⟨JN.run⟩
section
variable {c:C}{e a b l tg:a_}{g ga gb:ay->R D}{pos p:Pos}{gs:ay->R (List D)}{es:List a_}{x:Str}
theorem SB        (q:TR K cls E ρ r σ H Q):TN K cls E ρ r σ H Q:=by
 obtain ⟨H0,Hs0,la,Hs,f,q⟩:=q;refine ⟨H0,Hs0,la,Hs,f,?_⟩;cases r with
 |ok d=>exact fun a o H' Hs' s n r=>q _ _ _ (s.trans (.new s.sub n)) (r.share (s.sub.free n))
 |ex x n=>exact q
 |no=>exact q
theorem JN.je (h:JN c e g):JE c e g:=.of fun ρ=>rK (h ρ) fun σ H Q q=>SB q
theorem v_ (h:FF c es gs):JN c (.List es pos) (fR gs .list):=.of fun ρ=>rK (qP (h ρ)) fun σ H Q h_0=>by
 obtain ⟨H0,Hs0,la,Hs,f,q⟩:=h_0;refine AH f q fun ds vs H1 Hs1 e1 s1 f1 r1=>?_;unfold fR at q;rw [e1,bind_ok] at q;by_cases hl:ds.length<=1000
 ·rw [if_pos hl] at q;exact ⟨bH (dz (by rw [r1.length];exact hl)),fun p hp=>q p _ H1 Hs1 s1 hp (.lst r1)⟩
 ·rw [if_neg hl] at q;exact q.elim
theorem vi:JN c (.Dict [] [] pos) (fun _=>.ok (.dict [])):=.of fun ρ=>rK HL fun σ H Q h_1=>by obtain ⟨H0,Hs0,la,Hs,f,q⟩:=h_1;exact fun p hp=>q p _ H Hs (.refl f.st.sub) hp (.dK .nil)
def gj (i:Nat) (g:ay->R D):ay->R Fl:=fun ρ=>(g ρ).bind fun d=>.ok (.nx (ρ.set i (.own d)))
theorem sN            (f:Fr K H0 Hs0 la ρ σ H Hs)
  (h:mQ K cls E H0 Hs0 la D' (r.bind k)) (m:∀ d a o H' Hs',r=.ok d->Fr K H0 Hs0 la ρ σ H' Hs'->H' a=none->lG K Hs' o d->Q (.ref a) (upd H' a o)):TN K cls E ρ r σ H Q:=by
 refine ⟨H0,Hs0,la,Hs,f,?_⟩;cases r with
 |ok d=>exact fun a o H' Hs' s n r=>m d a o H' Hs' rfl (f.step s) n r
 |ex c n=>exact fun H' Hs' s=>h H' Hs' (f.st.trans s)
 |no=>exact h
theorem lM (i:Nat) (h:JN c e g) (hN:c.X.N.Nodup) (hi:c.X.N[i]?=some x:=by rfl) (hx:KC c.X.env.scope x:=by first|exact fV rfl|exact dD rfl) (hs:fE e (some (.Name x pos')) pos.line c.X.env=pure false:=by rfl)
  (hf:c.X.fn x=true\/c.X.env.scope.names.lookup x=some .local:=by first|exact .inl rfl|exact .inr rfl|assumption):JS c (.Assign [.Name x pos'] e pos) (gj i g):=.of fun ρ=>xw (Ct hN hi hx (h ρ) hs hf) fun D σ H h_2=>by
 obtain ⟨H0,Hs0,la,Hs,f,q⟩:=h_2;refine sN f q fun d a o H1 Hs1 e1 f1 n1 r1=>?_;unfold gj at q;rw [e1,bind_ok] at q;exact q _ _ Hs1 (f1.setO i n1 r1)
def zy {α:Type}:R α->R α
 |.ex _ _=>.no
 |r=>r
theorem sy {α:Type}{r:R α}{a:α} (h:zy r=.ok a):r=.ok a:=by
 cases r<;>first|exact h|cases h
def eN (f:D->R (Option D)):List D->R (List D)
 |[]=>.ok []
 |d::r=>(f d).bind fun o=>(eN f r).bind fun ys=>.ok (match o with
  |some y=>y::ys
  |none=>ys)
theorem nE   (h:eN f (d::r)=.ok ys):∃ o zs,f d=.ok o/\eN f r=.ok zs/\ys=o.toList++zs:=by
 unfold eN at h;cases hf:f d with
 |ok o =>
  rw [hf,bind_ok] at h;cases hm:eN f r with
  |ok zs =>
   rw [hm,bind_ok] at h;cases h;cases o<;>exact ⟨_,zs,rfl,rfl,rfl⟩
  |ex x n=>rw [hm] at h;cases h
  |no=>rw [hm] at h;cases h
 |ex x n=>rw [hf] at h;cases h
 |no=>rw [hf] at h;cases h
def KF:Sl->Sl
 |.own d=>.lck d
 |.ow2 _=>.no
 |s=>s
def js (nt:Nat) (ix:List Nat) (ρ:ay):ay:=qr nt Sl.no++ix.map fun i=>KF ((ρ[i]?).getD .no)
def MY (nt:Nat):D->ay->R ay:=match nt with
 | 1=>bJ 0
 | 2=>nD 2 (de (bJ 0) (de (bJ 1) oV))
 |_=>fun _ _=>.no
def hV (nt:Nat) (ρ:ay) (gt:ay->R Bool) (ge:ay->R D):D->R (Option D):=fun d=>zy ((MY nt d ρ).bind fun ρ'=>(gt ρ').bind fun b=>if b then (ge ρ').bind fun y=>.ok (some y) else .ok none)
def fJ (nt:Nat) (ix:List Nat) (gi:ay->R (List D)) (gt:ay->R Bool) (ge:ay->R D):ay->R D:=fun ρ=>(gi ρ).bind fun ds=>if ds.length<=1000 then (eN (hV nt (js nt ix ρ) gt ge) ds).bind fun ys=>.ok (.list ys) else .no
structure MZ (c:C) (ifs:List a_) (g:ay->R Bool):Prop where of ::
 run:∀ ρ,Ae c.X ifs (Af c.X.K c.cls c.E ρ (g ρ))
instance {c:C}{ifs:List a_}{g:ay->R Bool}:CoeFun (MZ c ifs g) (fun _=>∀ ρ,Ae c.X ifs (Af c.X.K c.cls c.E ρ (g ρ))):=⟨MZ.run⟩
theorem fZ:MZ c [] (fun _=>.ok true):=.of fun ρ pins s σ H Q I h_3=>by obtain ⟨H0,Hs0,la,Hs,f,q⟩:=h_3;exact LB pins s σ H Q I (q H Hs (.refl f.st.sub))
theorem sB (h:JT c e gt):MZ c [e] gt:=.of fun ρ=>LC (h ρ)
def w4 (K:a8) (nt:Nat):TG:=match nt with
 | 1=>mL 0
 |_=>O3 K 2 (L2.ag (mL 0) (L2.ag (mL 1) L2.aV))
theorem sC {K:a8}{nt:Nat} (h:nt=1\/nt=2):GL nt (w4 K nt):=by
 rcases h with rfl|rfl
 ·exact HN (by decide)
 ·exact LD (by decide) (by decide)
theorem sD {K:a8}{nt:Nat}{H0 Hs0 H Hs:Hp}{la:Nat->Option ah}{ρ ρ':ay}{σ:St}{v:V}{d:D}{Q:St->Hp->Prop} (hnt:nt=1\/nt=2) (f:Fr K H0 Hs0 la ρ σ H Hs) (r:RD K Hs v d) (hb:MY nt d ρ=.ok ρ')
  (q:∀ σ',Fr K H0 Hs0 la ρ' σ' H Hs->Q σ' H):w4 K nt v σ H Q:=by
 rcases hnt with rfl|rfl
 ·cases hb;exact q _ (f.set 0 r)
 ·unfold MY nD at hb;simp only at hb;cases r with
  | @tuple p xs ds hq rs =>
   simp only at hb;split at hb
   ·rename_i hl
    cases rs with
    |nil=>cases hl
    |cons r1 rs =>
     cases rs with
     |nil=>cases hl
     |cons r2 rs =>
      cases rs with
      |nil =>
       cases hb;exact ⟨p,_,rfl,(jR.of (f.st.sub _ _ hq)),rfl,_,_,rfl,_,_,rfl,rfl,q _ ((f.set 0 r1).set 1 r2)⟩
      |cons _ _=>simp at hl
   ·cases hb
  |none=>cases hb
  |bool _=>cases hb
  |int _=>cases hb
  |str _=>cases hb
  |list _ _=>cases hb
  |dictK _ _=>cases hb
  |dictT _ _ _=>cases hb
  |dictF _ _ _=>cases hb
theorem Fr.block     (f:Fr K H0 Hs0 la ρ σ H Hs) (nt:Nat) (ix:List Nat):∃ la',Fr K H Hs la' (js nt ix ρ) (L2.fA nt ix σ) H Hs:=by
 have lk:∀ (j:Nat) (d:D),(js nt ix ρ)[j]?=some (Sl.lck d)->∃ a o,(L2.fA nt ix σ)[j]?=some (some (V.ref a))/\H a=some o/\Hs a=none/\lG K Hs o d:=fun j d h=>by
  unfold js at h;by_cases hj:j<nt
  ·rw [bf (by simpa using hj),bw,if_pos hj] at h;cases h
  ·have hj:nt<=j:=by omega
   rw [aR (by simpa using hj),cA,aW] at h;cases hi:ix[j-nt]? with
   |none=>rw [hi] at h;cases h
   |some i =>
    rw [hi] at h;have at_:∀ v,σ[i]?=some (some v)->(L2.fA nt ix σ)[j]?=some (some v):=fun v k1=>by
     unfold L2.fA;rw [aR (by simpa using hj),cA,aW,hi];simp [k1]
    cases hr:ρ[i]? with
    |none=>simp only [cO,hr,gn,KF] at h;cases h
    |some s =>
     simp only [cO,hr,jG] at h;cases s with
     |own d' =>
      cases h;obtain ⟨a,o,k1,k2,k3,k4,k5⟩:=f.ow i d hr;exact ⟨a,o,at_ _ k1,k2,k3,k5⟩
     |lck d' =>
      cases h;obtain ⟨a,o,k1,k2,k3,k4,k5,k6⟩:=f.lk i d hr;exact ⟨a,o,at_ _ k1,k3,k4,k6⟩
     |no=>cases h
     |shr _=>cases h
     |ow2 _=>cases h
 have no2:∀ (j:Nat) (d:List (List D)),¬ (js nt ix ρ)[j]?=some (Sl.ow2 d):=fun j d h=>by
  unfold js at h;by_cases hj:j<nt
  ·rw [bf (by simpa using hj),bw,if_pos hj] at h;cases h
  ·have hj:nt<=j:=by omega
   rw [aR (by simpa using hj),cA,aW] at h;cases hi:ix[j-nt]? with
   |none=>rw [hi] at h;cases h
   |some i =>
    rw [hi] at h;cases hr:ρ[i]? with
    |none=>simp only [cO,hr,gn,KF] at h;cases h
    |some s =>
     simp only [cO,hr,jG] at h;cases s<;>cases h
 refine ⟨fun j=>match (js nt ix ρ)[j]?,(L2.fA nt ix σ)[j]? with
  |some (Sl.lck _),some (some (V.ref a))=>some a
  |_,_=>none,.refl f.st.sub,by simp [js,L2.fA],fun j d h=>?_,fun j d h=>?_,fun j d h=>?_,fun j k d1 d2 a h1 h2 _ _=>?_,fun j a h=>?_,fun j d h=>(no2 j d h).elim,fun j k d1 d2 h1 _=>(no2 j d1 h1).elim⟩
 case refine_3 =>
  obtain ⟨a,o,k1,k2,k3,k4⟩:=lk j d h;exact ⟨a,o,k1,by rw [h,k1],k2,k3,k2,k4⟩
 case refine_5 =>
  split at h
  ·rename_i d a' h1 h2
   cases h;obtain ⟨a',o,k1,k2,_⟩:=lk j d h1;rw [h2] at k1;cases k1;exact ⟨o,k2⟩
  ·cases h
 all_goals
  unfold js at *
 ·have h:=h;by_cases hj:j<nt
  ·rw [bf (by simpa using hj),bw,if_pos hj] at h;cases h
  ·have hj:nt<=j:=by omega
   rw [aR (by simpa using hj),cA,aW] at h;cases hi:ix[j-nt]? with
   |none=>rw [hi] at h;cases h
   |some i =>
    rw [hi] at h;cases hr:ρ[i]? with
    |none=>simp only [cO,hr,gn,KF] at h;cases h
    |some s =>
     simp only [cO,hr,jG] at h;cases s with
     |shr d' =>
      cases h;obtain ⟨v,k1,k2⟩:=f.sh i d hr;refine ⟨v,?_,k2⟩;unfold L2.fA;rw [aR (by simpa using hj),cA,aW,hi];simp [k1]
     |no=>cases h
     |own _=>cases h
     |lck _=>cases h
     |ow2 _=>cases h
 ·have h:=h;by_cases hj:j<nt
  ·rw [bf (by simpa using hj),bw,if_pos hj] at h;cases h
  ·have hj:nt<=j:=by omega
   rw [aR (by simpa using hj),cA,aW] at h;cases hi:ix[j-nt]? with
   |none=>rw [hi] at h;cases h
   |some i =>
    rw [hi] at h;cases hr:ρ[i]? with
    |none=>simp only [cO,hr,gn,KF] at h;cases h
    |some s =>
     simp only [cO,hr,jG] at h;cases s<;>cases h
 ·have h1:=h1;by_cases hj:j<nt
  ·rw [bf (by simpa using hj),bw,if_pos hj] at h1;cases h1
  ·have hj:nt<=j:=by omega
   rw [aR (by simpa using hj),cA,aW] at h1;cases hi:ix[j-nt]? with
   |none=>rw [hi] at h1;cases h1
   |some i =>
    rw [hi] at h1;cases hr:ρ[i]? with
    |none=>simp only [cO,hr,gn,KF] at h1;cases h1
    |some s =>
     simp only [cO,hr,jG] at h1;cases s<;>cases h1
theorem sF (h:∀ d c n,f d≠.ex c n):∀ (ds:List D) (c:Str) (n:Option D),eN f ds≠.ex c n
 |[],c,n=>fun e=>by cases e
 |d::r,c,n=>fun e=>by
  unfold eN at e;cases hf:f d with
  |ok o =>
   rw [hf,bind_ok] at e;cases hm:eN f r with
   |ok zs=>rw [hm,bind_ok] at e;cases e
   |ex x k=>exact sF h r x k hm
   |no=>rw [hm] at e;cases e
  |ex x k=>exact h d x k hf
  |no=>rw [hf] at e;cases e
theorem w5 (nt:Nat) (ρ:ay) (gt:ay->R Bool) (ge:ay->R D) (d:D) (c:Str) (n:Option D):hV nt ρ gt ge d≠.ex c n:=by
 unfold hV zy;split<;>first|exact fun e=>by cases e|skip
 rename_i h
 exact fun e=>h c n e
inductive Tf (K:a8) (f:D->R (Option D)) (ds ys:List D) (H1 Hs1:Hp) (i m:Nat) (acc:List V) (H':Hp):Prop
 |mk (done bA zs ya Hs':_) (h0:ds=done++bA) (h1:done.length=i) (h2:bA.length=m) (h3:c8 H1 Hs1 H' Hs') (h4:RDs K Hs' acc ya) (h5:ya.length<=i) (h6:eN f bA=.ok zs) (h7:ys=ya++zs):Tf K f ds ys H1 Hs1 i m acc H'
theorem E2 {K:a8}{cls:Str->ah}{E:XK}{nt:Nat}{ix:List Nat}{gi:ay->R (List D)}{gt:ay->R Bool}{ge:ay->R D}{ρ:ay}{σ:St}{H:Hp}{Q:VK} (hnt:nt=1\/nt=2)
  (q:TN K cls E ρ (fJ nt ix gi gt ge ρ) σ H Q) :
  HM nt ix (OL K cls E ρ (gi ρ)) (w4 K nt) (fun σ H Q=>∃ ρ',Af K cls E0 ρ' (gt ρ') σ H Q) (fun σ H Q=>∃ ρ',TR K cls E0 ρ' (ge ρ') σ H Q) σ H Q:=by
 obtain ⟨H0,Hs0,la,Hs,f,q⟩:=q;refine ⟨H0,Hs0,la,Hs,f,?_⟩;unfold fJ at q;cases hi:gi ρ with
 |no=>rw [hi] at q;exact q
 |ex x n=>rw [hi] at q;exact q
 |ok ds =>
  rw [hi,bind_ok] at q;intro J H1 Hs1 Hn s1 sn it;by_cases hl:ds.length<=1000
  ·rw [if_pos hl] at q;cases hm:eN (hV nt (js nt ix ρ) gt ge) ds with
   |no=>rw [hm] at q;exact q.elim
   |ex x n=>exact (sF (w5 _ _ _ _) _ _ _ hm).elim
   |ok ys =>
    rw [hm,bind_ok] at q;obtain ⟨lb,fb⟩:=(f.step s1).block nt ix;refine ⟨Tf K (hV nt (js nt ix ρ) gt ge) ds ys H1 Hs1,
     ⟨ds.length,[],ds,ys,[],Hs1,rfl,rfl,rfl,.refl s1.sub,.nil,ck _,hm,rfl⟩,?_⟩
    rintro i m acc H' ⟨done,bA,zs,ya,Hs',hds,hdl,hrl,st,ra,yl,hz,hy⟩;obtain ⟨igo,istop,iyld⟩:=it H' Hs' (sn.trans st.all) st.sh st.sub;cases bA with
    |nil =>
     left;cases hz;rw [bC] at hds hy;subst hy hds;exact ⟨istop i (by omega),fun p hp=>q p _ H' Hs' (s1.trans st) hp (.lst ra)⟩
    |cons d bA =>
     right;have hil:i<ds.length:=by rw [hds,aB,bp];omega
     refine ⟨igo i hil,dz (by rw [ra.length];omega),fun x H2 hyl=>?_⟩;obtain ⟨d',Hs2,hd,s2,r2⟩:=iyld i x H2 hil hyl;have hdd:d'=d:=by
      rw [hds,aR (by omega)] at hd;simp [hdl] at hd;exact hd.symm
     subst hdd;obtain ⟨o,zs',hf,hz',rfl⟩:=nE hz;have hf:=sy hf;cases hb:MY nt d' (js nt ix ρ) with
     |no=>rw [hb] at hf;cases hf
     |ex x n=>rw [hb] at hf;cases hf
     |ok ρ' =>
      rw [hb,bind_ok] at hf;refine sD hnt ((fb.step st).step s2) r2 hb fun σ2 f2=>⟨ρ',?_⟩;refine ⟨_,_,_,Hs2,f2,?_⟩;cases ht:gt ρ' with
      |no=>rw [ht] at hf;cases hf
      |ex x n=>rw [ht] at hf;cases hf
      |ok b =>
       rw [ht,bind_ok] at hf;intro H3 Hs3 s3;cases b with
       |false =>
        rw [if_neg bj] at hf;cases hf;refine vH ⟨bA.length,by rw [<- hrl];simp,done++[d'],bA,zs',ya,Hs3,by rw [hds];simp,by simp [hdl],rfl,(st.trans s2).trans s3,ra.same (s2.trans s3).sh,by omega,hz',by simpa using hy⟩
       |true =>
        rw [if_pos rfl] at hf;refine vI ⟨ρ',_,_,_,Hs3,f2.step s3,?_⟩;cases he:ge ρ' with
        |no=>rw [he] at hf;cases hf
        |ex x n=>rw [he] at hf;cases hf
        |ok y =>
         rw [he,bind_ok] at hf;cases hf;intro v H4 Hs4 s4 r4;exact ⟨bA.length,by rw [<- hrl];simp,done++[d'],bA,zs',ya++[y],Hs4,by rw [hds];simp,by simp [hdl],rfl,((st.trans s2).trans s3).trans s4,(ra.same ((s2.trans s3).trans s4).sh).append (.cons r4 .nil),by simp;omega,hz',by rw [hy];simp⟩
  ·rw [if_neg hl] at q;exact q.elim
def C.comp (c:C) (N':List Str) (scope:dU) (cl:List (Str×ah)) (A:ah) (s₀:ae) (H₀:Hp) (ex:List ah) (pn:List (ah×Obj)):C:=⟨b6 c.X N' scope cl A s₀ H₀ ex pn,c.cls,E0⟩
variable {elt iter:a_}{ifs:List a_}{scope:dU}{N':List Str}{nt:Nat}{ix:List Nat}{gi:ay->R (List D)}{gt:ay->R Bool}{ge:ay->R D}
def sG (c:C) (N':List Str) (scope:dU) (nt:Nat) (tg:a_) (ifs:List a_) (elt:a_) (gt:ay->R Bool) (ge:ay->R D):Prop :=
 ∀ cl A s₀ H₀ ex pn,PG (c.comp N' scope cl A s₀ H₀ ex pn).X tg (w4 c.X.K nt)/\MZ (c.comp N' scope cl A s₀ H₀ ex pn) ifs gt/\JE (c.comp N' scope cl A s₀ H₀ ex pn) elt ge
theorem sG.at (h:sG c N' scope nt tg ifs elt gt ge):∀ cl A s₀ H₀ ex pn,PG (b6 c.X N' scope cl A s₀ H₀ ex pn) tg (w4 c.X.K nt)/\Ae (b6 c.X N' scope cl A s₀ H₀ ex pn) ifs (fun σ H Q=>∃ ρ',Af c.X.K c.cls E0 ρ' (gt ρ') σ H Q) /\
  PE (b6 c.X N' scope cl A s₀ H₀ ex pn) elt (fun σ H Q=>∃ ρ',TR c.X.K c.cls E0 ρ' (ge ρ') σ H Q):=fun cl A s₀ H₀ ex pn=>by
 obtain ⟨h1,h2,h3⟩:=h cl A s₀ H₀ ex pn;exact ⟨h1,fun pins s σ H Q I h_4=>by obtain ⟨ρ',q⟩:=h_4;exact h2 ρ' pins s σ H Q I q,fun pins s σ H Q I h_5=>by obtain ⟨ρ',q⟩:=h_5;exact h3 ρ' pins s σ H Q I q⟩
theorem iO (nt:Nat) (hnt:nt=1\/nt=2) (hc:c.X.calm=true) (S:iE c.X scope N' nt ix) (hi:JI c tg iter gi) (hb:sG c N' scope nt tg ifs elt gt ge) (hs:∀ x,bB iter c.X.env x=pure x:=by intro _;rfl) :
  JN c (.ListComp elt [⟨tg,iter,ifs,0⟩] scope pos) (fJ nt ix gi gt ge):=.of fun ρ=>rK (Av hc S (sC hnt) (hi ρ) hb.at hs) fun σ H Q q=>E2 hnt q
theorem kY (i:Nat) {spos py:Pos} (nt:Nat) (hnt:nt=1\/nt=2) (hN:c.X.N.Nodup) (hc:c.X.calm=true) (S:iE c.X scope N' nt ix) (hi:JI c tg iter gi) (hb:sG c N' scope nt tg ifs elt gt ge)
  (hiN:c.X.N[i]?=some x:=by rfl) (hy:c.X.env.scope.names.lookup x=some .local:=by rfl)
  (hsw:fE (.ListComp elt [⟨tg,iter,ifs,0⟩] scope pos) (some (.Name x py)) spos.line c.X.env=pure true:=by rfl)
  (hs:∀ x,bB iter c.X.env x=pure x:=by intro _;rfl):JS c (.Assign [.Name x py] (.ListComp elt [⟨tg,iter,ifs,0⟩] scope pos) spos) (gj i (fJ nt ix gi gt ge)):=.of fun ρ=>xw (CG hN hiN hy hc S (sC hnt) (hi ρ) hb.at hsw hs) fun D σ H h_6=>by
 obtain ⟨H0,Hs0,la,Hs,f,q⟩:=h_6;refine E2 (Q:=fun x H1=>D.nx (σ.set i (some x)) H1) hnt (sN f q fun d a o H1 Hs1 e1 f1 n1 r1=>?_);unfold gj at q;rw [e1,bind_ok] at q;exact q _ _ Hs1 (f1.setO i n1 r1)
end
end
section
theorem ID   (h:PS X.nox st t):PS X st t:=fun pins s σ H D I hw =>
 aO (h pins s σ H D (I.wish _) hw) (fun _ _ q=>q.unwish) fun _ _ z=>iu z
def C.nox (c:C):C:=⟨c.X.nox,c.cls,E0⟩
def jb (k:D->ay->R ay) (b:ay->R Fl):List D->ay->R Fl
 |[],ρ=>.ok (.nx ρ)
 |d::r,ρ=>match k d ρ with
  |.ok ρ1=>match b ρ1 with
   |.ok (.nx ρ')=>jb k b r ρ'
   |.ok (.ct ρ')=>jb k b r ρ'
   |.ok (.bk ρ')=>.ok (.nx ρ')
   |.ok (.rt d)=>.ok (.rt d)
   |_=>.no
  |_=>.no
def zz (i:Nat) (ρ:ay):ay:=match ρ[i]? with
 |some (Sl.own d)=>ρ.set i (.lck d)
 |_=>ρ
def w6 (i:Nat) (ρ0 ρ:ay):ay:=match ρ0[i]?,ρ[i]? with
 |some (Sl.own _),some (Sl.lck d)=>ρ.set i (.own d)
 |_,_=>ρ
def Tg (i:Nat) (ρ0:ay):R Fl->R Fl
 |.ok (.nx ρ)=>.ok (.nx (w6 i ρ0 ρ))
 |.ok (.bk ρ)=>.no
 |.ok (.ct ρ)=>.no
 |r=>r
section
inductive Th (K:a8) (cls:Str->ah) (E:XK) (H0 Hs0:Hp) (la:Nat->Option ah) (D':yT) (kt:D->ay->R ay) (gb:ay->R Fl) (ds:List D) (i m:Nat) (σ:St) (H:Hp):Prop
 |mk (done bA ρ Hs:_) (h0:ds=done++bA) (h1:done.length=i) (h2:bA.length=m) (h3:Fr K H0 Hs0 la ρ σ H Hs) (h4:mQ K cls E H0 Hs0 la D' (jb kt gb bA ρ)):Th K cls E H0 Hs0 la D' kt gb ds i m σ H
theorem IE
  (it:Iz K J ds Hn Hs0) (hn:cz Hn H0) (f:Fr K H0 Hs0 la ρ σ H Hs)
  (htg:∀ ρ d v σ H Q,OJ K ρ d (kt d ρ) v σ H Q->tg v σ H Q) (htb:∀ ρ D σ H,SR K cls E0 ρ (gb ρ) D σ H->tb D σ H)
  (q:mQ K cls E H0 Hs0 la D' (jb kt gb ds ρ)) :
  R_ tg tb D' σ J H:=by
 refine ⟨Th K cls E H0 Hs0 la D' kt gb ds,⟨ds.length,[],ds,ρ,Hs,rfl,rfl,rfl,f,q⟩,?_⟩;rintro i m σ H ⟨done,bA,ρ,Hs,hds,hdl,hrl,f,q⟩;obtain ⟨igo,istop,iyld⟩:=it H Hs (hn.trans f.st.all) f.st.sh f.st.sub;cases bA with
 |nil =>
  rw [bC] at hds;subst hds;exact .inl ⟨istop i (by omega),q σ H Hs f⟩
 |cons d bA =>
  have hil:i<ds.length:=by rw [hds,aB,bp];omega
  refine .inr ⟨igo i hil,fun σ' H'=>∃ ρ' Hs',Fr K H0 Hs0 la ρ' σ' H' Hs'/\mQ K cls E H0 Hs0 la D' (jb kt gb bA ρ'),fun σ' H' ⟨ρ',Hs',f',q'⟩=>⟨bA.length,by rw [<- hrl];simp,done++[d],bA,ρ',Hs',by rw [hds];simp,by simp [hdl],rfl,f',q'⟩,fun x H2 hyl=>?_⟩;obtain ⟨d',Hs2,hd,s2,r2⟩:=iyld i x H2 hil hyl;have hdd:d'=d:=by
   rw [hds,aR (by omega)] at hd;simp [hdl] at hd;exact hd.symm
  subst hdd;unfold jb at q;refine htg ρ d' x σ H2 _ ⟨H0,Hs0,la,Hs2,f.step s2,r2,?_⟩;cases hk:kt d' ρ with
  |ex c n=>rw [hk] at q;exact q
  |no=>rw [hk] at q;exact q
  |ok ρ1 =>
   rw [hk] at q;intro σ2 f2;refine htb ρ1 _ σ2 H2 ⟨H0,Hs0,la,Hs2,f2,?_⟩;cases hg:gb ρ1 with
   |no=>simp only [hg] at q;exact q.elim
   |ex c n=>simp only [hg] at q;exact q.elim
   |ok fl =>
    simp only [hg] at q;cases fl with
    |nx ρ'=>exact fun σ' H' Hs' f'=>⟨ρ',Hs',f',q⟩
    |ct ρ'=>exact fun σ' H' Hs' f'=>⟨ρ',Hs',f',q⟩
    |bk ρ'=>exact fun σ' H' Hs' f'=>q σ' H' Hs' f'
    |rt d=>exact q
def oj (A B:Hp):Hp:=fun b=>match A b with
 |some o=>some o
 |none=>B b
theorem jk:cz A (oj A B):=fun b o e=>by unfold oj;rw [e]
theorem j4  (h:A b=none):oj A B b=B b:=by unfold oj;rw [h]
theorem AS (h1:cz A H) (h2:cz B H):cz (oj A B) H:=fun b o e=>by
 cases h:A b with
 |some u=>unfold oj at e;rw [h] at e;cases e;exact h1 b o h
 |none=>rw [j4 h] at e;exact h2 b o e
theorem IF (h1:cz A H) (h2:cz B H):cz B (oj A B):=fun b o e=>by
 cases h:A b with
 |some u =>
  unfold oj;rw [h];have:=h1 b u h;rw [h2 b o e] at this;exact this.symm
 |none=>rw [j4 h];exact e
theorem Fr.into    (f:Fr K H0 Hs0 la ρ σ H Hs):Fr K (oj H0 Hs) Hs la ρ σ H Hs:=by
 have sub:=AS f.st.all f.st.sub;refine ⟨⟨sub,.refl _,f.st.sub,fun a o e _ z=>z⟩,f.len,f.sh,fun i d h=>?_,fun i d h=>?_,f.dj,fun i a e=>let ⟨o,k⟩:=f.lh i a e;⟨o,jk _ _ k⟩,fun i d h=>?_,f.u2⟩
 ·obtain ⟨a,o,h1,h2,h3,h4,h5⟩:=f.ow i d h;exact ⟨a,o,h1,h2,h3,by rw [j4 h4];exact h3,h5⟩
 ·obtain ⟨a,o,h1,h2,h3,h4,h5,h6⟩:=f.lk i d h;exact ⟨a,o,h1,h2,h3,h4,jk _ _ h5,h6⟩
 ·obtain ⟨a,as,O⟩:=f.o2 i d h;exact ⟨a,as,O.at_,O.ob,O.nd,fun b hb=>⟨(O.out b hb).1,by rw [j4 (O.out b hb).2];exact (O.out b hb).1⟩,O.dj,O.inn⟩
theorem c8.outof (s:c8 H0 Hs0 H1 Hs1) (t:c8 (oj H0 Hs1) Hs1 H' Hs'):c8 H0 Hs0 H' Hs' :=
 ⟨jk.trans t.all,s.sh.trans t.sh,t.sub,fun a o e n z=>t.out a o (jk _ _ e) n (s.out a o e n z)⟩
theorem Fr.outof    (f1:Fr K H0 Hs0 la ρ1 σ1 H1 Hs1) (f:Fr K (oj H0 Hs1) Hs1 la ρ σ H' Hs'):Fr K H0 Hs0 la ρ σ H' Hs':=by
 refine ⟨f1.st.outof f.st,f.len,f.sh,fun i d h=>?_,fun i d h=>?_,f.dj,f1.lh,fun i d h=>?_,f.u2⟩
 ·obtain ⟨a,o,h1,h2,h3,h4,h5⟩:=f.ow i d h;exact ⟨a,o,h1,h2,h3,jk.free h4,h5⟩
 ·obtain ⟨a,o,h1,h2,h3,h4,h5,h6⟩:=f.lk i d h;obtain ⟨o',e⟩:=f1.lh i a h2;have e':=jk (B:=Hs1) _ _ e;rw [h5] at e';cases e';exact ⟨a,o,h1,h2,h3,h4,e,h6⟩
 ·obtain ⟨a,as,O⟩:=f.o2 i d h;exact ⟨a,as,O.at_,O.ob,O.nd,fun b hb=>⟨(O.out b hb).1,jk.free (O.out b hb).2⟩,O.dj,O.inn⟩
end
end
section
section
theorem mQ.into      (f1:Fr K H0 Hs0 la ρ1 σ1 H1 Hs1) (q:mQ K cls E H0 Hs0 la D' r):mQ K cls E (oj H0 Hs1) Hs1 la D' r:=by
 cases r with
 |no=>exact q
 |ex c n=>exact fun H' Hs' s=>q H' Hs' (f1.st.outof s)
 |ok fl =>
  cases fl with
  |nx ρ=>exact fun σ' H' Hs' f=>q σ' H' Hs' (f1.outof f)
  |bk ρ=>exact fun σ' H' Hs' f=>q σ' H' Hs' (f1.outof f)
  |ct ρ=>exact fun σ' H' Hs' f=>q σ' H' Hs' (f1.outof f)
  |rt d=>exact fun v H' Hs' s r=>q v H' Hs' (f1.st.outof s) r
theorem Fr.lock    (f:Fr K H0 Hs0 la ρ σ H Hs)    (hi:ρ[i]?=some (Sl.own d)) (k1:σ[i]?=some (some (V.ref a))) (k2:H a=some o) (k3:Hs a=none) (k4:H0 a=none) (k5:lG K Hs o d) :
  Fr K (oj H0 (upd Hs a o)) Hs (fun j=>if j=i then some a else la j) (ρ.set i (.lck d)) σ H Hs:=by
 have hil:i<ρ.length:=(List.getElem?_eq_some_iff.mp hi).1;have sub:cz (upd Hs a o) H:=fun b u q=>by
  by_cases hb:b=a
  ·subst hb;rw [bi] at q;cases q;exact k2
  ·rw [bh hb] at q;exact f.st.sub b u q
 have nx:∀ {j:Nat}{s:Sl},(∀ d,s≠.lck d)->(ρ.set i (.lck d))[j]?=some s->ρ[j]?=some s/\i≠j:=fun {j s} hs e=>by
  by_cases hj:i=j
  ·subst hj;rw [aG hil] at e;exact absurd (bE e).symm (hs d)
  ·rw [aj hj] at e;exact ⟨e,hj⟩
 refine ⟨⟨AS f.st.all sub,.refl _,f.st.sub,fun a o e _ z=>z⟩,by simp [f.len],fun j e h=>?_,fun j e h=>?_,fun j e h=>?_,fun j k d1 d2 b h1 h2 h3 h4=>?_,fun j b h=>?_,fun j e h=>?_,fun j k d1 d2 h1 h2=>?_⟩
 ·obtain ⟨h,_⟩:=nx (fun _ z=>by cases z) h;exact f.sh j e h
 ·obtain ⟨h,hj⟩:=nx (fun _ z=>by cases z) h;obtain ⟨b,u,q1,q2,q3,q4,q5⟩:=f.ow j e h;refine ⟨b,u,q1,q2,q3,?_,q5⟩;rw [j4 q4,bh (fun z=>hj ?_)]
  ·exact q3
  ·subst z;exact f.dj i j d e b hi h k1 q1
 ·by_cases hj:i=j
  ·subst hj;rw [aG hil] at h;cases h;exact ⟨a,o,k1,if_pos rfl,k2,k3,by rw [j4 k4,bi],k5⟩
  ·rw [aj hj] at h;obtain ⟨b,u,q1,q2,q3,q4,q5,q6⟩:=f.lk j e h;exact ⟨b,u,q1,by rw [if_neg (cR hj)];exact q2,q3,q4,jk _ _ q5,q6⟩
 ·obtain ⟨h1,_⟩:=nx (fun _ z=>by cases z) h1;obtain ⟨h2,_⟩:=nx (fun _ z=>by cases z) h2;exact f.dj j k d1 d2 b h1 h2 h3 h4
 ·by_cases hj:j=i
  ·simp only [if_pos hj] at h;cases h;exact ⟨o,by rw [j4 k4,bi]⟩
  ·simp only [if_neg hj] at h;obtain ⟨u,e⟩:=f.lh j b h;exact ⟨u,jk _ _ e⟩
 ·obtain ⟨h,hj⟩:=nx (fun _ z=>by cases z) h;obtain ⟨b,as,O⟩:=f.o2 j e h;refine ⟨b,as,O.at_,O.ob,O.nd,fun c hc=>⟨(O.out c hc).1,?_⟩,fun c hc k e' hk=>O.dj c hc k e' (nx (fun _ z=>by cases z) hk).1,O.inn⟩;rw [j4 (O.out c hc).2,bh (fun z=>?_)]
  ·exact (O.out c hc).1
  ·subst z;exact O.dj c hc i d hi k1
 ·exact f.u2 j k d1 d2 (nx (fun _ z=>by cases z) h1).1 (nx (fun _ z=>by cases z) h2).1
theorem c8.unlock   (s:c8 H0 Hs0 H Hs) (t:c8 (oj H0 (upd Hs a o)) Hs H' Hs'):c8 H0 Hs0 H' Hs' :=
 ⟨jk.trans t.all,s.sh.trans t.sh,t.sub,fun b u e n z=>t.out b u (jk _ _ e) n (s.out b u e n z)⟩
theorem Fr.unlock    (f:Fr K H0 Hs0 la ρ σ H Hs)    (hi:ρ[i]?=some (Sl.own d)) (k4:H0 a=none)
  (f':Fr K (oj H0 (upd Hs a o)) Hs (fun j=>if j=i then some a else la j) ρ' σ' H' Hs'):Fr K H0 Hs0 la (w6 i ρ ρ') σ' H' Hs':=by
 have st:=f.st.unlock f'.st;have own:∀ (j:Nat) (e:D),ρ'[j]?=some (Sl.own e)->∃ b u,σ'[j]?=some (some (V.ref b))/\H' b=some u/\Hs' b=none/\H0 b=none/\lG K Hs' u e/\(oj H0 (upd Hs a o)) b=none:=fun j e h=>by
  obtain ⟨b,u,q1,q2,q3,q4,q5⟩:=f'.ow j e h;exact ⟨b,u,q1,q2,q3,jk.free q4,q5,q4⟩
 have lck:∀ (j:Nat) (e:D),j≠i->ρ'[j]?=some (Sl.lck e)->∃ b u,σ'[j]?=some (some (V.ref b))/\la j=some b/\H' b=some u/\Hs' b=none/\H0 b=some u/\lG K Hs' u e:=fun j e hj h=>by
  obtain ⟨b,u,q1,q2,q3,q4,q5,q6⟩:=f'.lk j e h;simp only [if_neg hj] at q2;obtain ⟨u',e'⟩:=f.lh j b q2;have:=jk (B:=upd Hs a o) _ _ e';rw [q5] at this;cases this;exact ⟨b,u,q1,q2,q3,q4,e',q6⟩
 have two:∀ (j:Nat) (e:List (List D)),ρ'[j]?=some (Sl.ow2 e)->∃ b as,O2 K H0 H' Hs' ρ' σ' j e b as:=fun j e h=>by
  obtain ⟨b,as,O⟩:=f'.o2 j e h;exact ⟨b,as,O.at_,O.ob,O.nd,fun c hc=>⟨(O.out c hc).1,jk.free (O.out c hc).2⟩,O.dj,O.inn⟩
 unfold w6;cases hl:ρ'[i]? with
 |none =>
  simp only [hi];refine ⟨st,f'.len,f'.sh,fun j e h=>let ⟨b,u,q1,q2,q3,q4,q5,_⟩:=own j e h;⟨b,u,q1,q2,q3,q4,q5⟩,fun j e h=>lck j e (fun z=>by rw [z,hl] at h;cases h) h,f'.dj,f.lh,two,f'.u2⟩
 |some s =>
  cases s with
  |no=>simp only [hi];exact ⟨st,f'.len,f'.sh,fun j e h=>let ⟨b,u,q1,q2,q3,q4,q5,_⟩:=own j e h;⟨b,u,q1,q2,q3,q4,q5⟩,fun j e h=>lck j e (fun z=>by rw [z,hl] at h;cases h) h,f'.dj,f.lh,two,f'.u2⟩
  |shr _=>simp only [hi];exact ⟨st,f'.len,f'.sh,fun j e h=>let ⟨b,u,q1,q2,q3,q4,q5,_⟩:=own j e h;⟨b,u,q1,q2,q3,q4,q5⟩,fun j e h=>lck j e (fun z=>by rw [z,hl] at h;cases h) h,f'.dj,f.lh,two,f'.u2⟩
  |own _=>simp only [hi];exact ⟨st,f'.len,f'.sh,fun j e h=>let ⟨b,u,q1,q2,q3,q4,q5,_⟩:=own j e h;⟨b,u,q1,q2,q3,q4,q5⟩,fun j e h=>lck j e (fun z=>by rw [z,hl] at h;cases h) h,f'.dj,f.lh,two,f'.u2⟩
  |ow2 _=>simp only [hi];exact ⟨st,f'.len,f'.sh,fun j e h=>let ⟨b,u,q1,q2,q3,q4,q5,_⟩:=own j e h;⟨b,u,q1,q2,q3,q4,q5⟩,fun j e h=>lck j e (fun z=>by rw [z,hl] at h;cases h) h,f'.dj,f.lh,two,f'.u2⟩
  |lck d' =>
   simp only [hi];have hil:i<ρ'.length:=(List.getElem?_eq_some_iff.mp hl).1;have nx:∀ {j:Nat}{s:Sl},(∀ d,s≠.own d)->(ρ'.set i (.own d'))[j]?=some s->ρ'[j]?=some s/\i≠j:=fun {j s} hs e=>by
    by_cases hj:i=j
    ·subst hj;rw [aG hil] at e;exact absurd (bE e).symm (hs d')
    ·rw [aj hj] at e;exact ⟨e,hj⟩
   obtain ⟨b,u,q1,q2,q3,q4,q5,q6⟩:=f'.lk i d' hl;simp only [if_pos rfl] at q2;cases q2;have ne:∀ (j:Nat) (e:D),ρ'[j]?=some (Sl.own e)->σ'[j]?≠some (some (V.ref a)):=fun j e h z=>by
    obtain ⟨b,u,p1,_,_,_,_,p6⟩:=own j e h;rw [z] at p1;cases p1;rw [q5] at p6;cases p6
   refine ⟨st,by simp [f'.len],fun j e h=>?_,fun j e h=>?_,fun j e h=>?_,fun j k d1 d2 c h1 h2 h3 h4=>?_,f.lh,fun j e h=>?_,fun j k d1 d2 h1 h2=>?_⟩
   ·obtain ⟨h,_⟩:=nx (fun _ z=>by cases z) h;exact f'.sh j e h
   ·by_cases hj:i=j
    ·subst hj;rw [aG hil] at h;cases h;exact ⟨a,u,q1,q3,q4,k4,q6⟩
    ·rw [aj hj] at h;obtain ⟨b,u,p1,p2,p3,p4,p5,_⟩:=own j e h;exact ⟨b,u,p1,p2,p3,p4,p5⟩
   ·obtain ⟨h,hj⟩:=nx (fun _ z=>by cases z) h;exact lck j e (cR hj) h
   ·by_cases hj:i=j
    ·by_cases hk:i=k
     ·exact hj.symm.trans hk
     ·rw [aj hk] at h2;subst hj;rw [q1] at h3;cases h3;exact (ne k d2 h2 h4).elim
    ·rw [aj hj] at h1;by_cases hk:i=k
     ·subst hk;rw [q1] at h4;cases h4;exact (ne j d1 h1 h3).elim
     ·rw [aj hk] at h2;exact f'.dj j k d1 d2 c h1 h2 h3 h4
   ·obtain ⟨h,hj⟩:=nx (fun _ z=>by cases z) h;obtain ⟨b,as,O⟩:=two j e h;refine ⟨b,as,O.at_,O.ob,O.nd,O.out,fun c hc k e' hk=>?_,O.inn⟩;by_cases nk:i=k
    ·subst nk;intro z;rw [q1] at z;cases z;obtain ⟨b',as',O'⟩:=f'.o2 j e h;have hh:=O.at_;rw [O'.at_] at hh;cases hh;have hs:as'=as:=by
      have h1:=O.ob;rw [O'.ob] at h1;injection h1 with h1;injection h1 with h1;exact GG (fun x y z=>by cases z;rfl) |>.mp h1
     subst hs;have:=(O'.out _ hc).2;rw [q5] at this;cases this
    ·rw [aj nk] at hk;exact O.dj c hc k e' hk
   ·exact f'.u2 j k d1 d2 (nx (fun _ z=>by cases z) h1).1 (nx (fun _ z=>by cases z) h2).1
end
section
def mR (gi:ay->R (List D)) (kt:D->ay->R ay) (gb:ay->R Fl):ay->R Fl:=fun ρ=>match gi ρ with
 |.ok ds=>jb kt gb ds ρ
 |_=>.no
theorem nF (hc:c.X.calm=true) (hi:GN c.nox tg iter gi) (hg:JG c.nox tg kt) (hb:E1 c.nox body gbd) (hs:∀ x,bB iter c.X.env x=pure x:=by intro _;rfl):JS c (.For tg iter body [] pos) (mR gi kt gbd):=.of fun ρ=>by
 refine ID (xw (Ht tO hc (hi ρ) (g:=fun v σ H Q=>∃ ρ d,OJ c.X.K ρ d (kt d ρ) v σ H Q) (tb:=fun D σ H=>∃ ρ,SR c.X.K c.cls E0 ρ (gbd ρ) D σ H) ?_ ?_ hs) fun D σ H ⟨H0,Hs0,la,Hs,f,q⟩=>?_)
 ·exact fun pins s σ H v u Q I r h_0=>by obtain ⟨ρ,d,q⟩:=h_0;exact hg ρ d pins s σ H v u Q I r q
 ·exact fun pins s σ H D I h_1=>by obtain ⟨ρ,q⟩:=h_1;exact hb ρ pins s σ H D I q
 ·refine ⟨H0,Hs0,la,Hs,f,?_⟩;unfold mR at q;cases hr:gi ρ with
  |no=>rw [hr] at q;exact q
  |ex x n=>rw [hr] at q;exact q.elim
  |ok ds =>
   rw [hr] at q;intro J H1 Hs1 s1 it;have f1:=f.step s1;exact IE (E:=c.E) (cls:=c.cls) (kt:=kt) (gb:=gbd) (tg:=fun v σ H Q=>∃ ρ d,OJ c.X.K ρ d (kt d ρ) v σ H Q) (tb:=fun D σ H=>∃ ρ,SR c.X.K c.cls E0 ρ (gbd ρ) D σ H) it (IF f1.st.all f1.st.sub) f1.into (fun ρ d v σ H Q h=>⟨ρ,d,h⟩) (fun ρ D σ H h=>⟨ρ,h⟩) (mQ.into f1 q)
def oX (i:Nat) (kt:D->ay->R ay) (gb:ay->R Fl):ay->R Fl:=fun ρ=>match ρ[i]? with
 |some (Sl.own (.list ds))=>Tg i ρ (jb kt gb ds (zz i ρ))
 |_=>mR (jh fun ρ=>CQ ρ i) kt gb ρ
theorem w9 {kt:D->ay->R ay}{gb:ay->R Fl}:∀ (ds:List D) (ρ:ay) (fl:Fl),jb kt gb ds ρ=.ok fl->(∃ ρ',fl=.nx ρ')\/∃ d,fl=.rt d
 |[],ρ,fl,h=>by cases h;exact .inl ⟨_,rfl⟩
 |d::r,ρ,fl,h=>by
  unfold jb at h;split at h
  ·split at h
   ·exact w9 r _ _ h
   ·exact w9 r _ _ h
   ·cases h;exact .inl ⟨_,rfl⟩
   ·cases h;exact .inr ⟨_,rfl⟩
   ·cases h
  ·cases h
theorem zA {kt:D->ay->R ay}{gb:ay->R Fl}:∀ (ds:List D) (ρ:ay) (c:Str) (n:Option D),jb kt gb ds ρ≠.ex c n
 |[],ρ,c,n,h=>by cases h
 |d::r,ρ,c,n,h=>by
  unfold jb at h;split at h
  ·split at h
   ·exact zA r _ _ _ h
   ·exact zA r _ _ _ h
   ·cases h
   ·cases h
   ·cases h
  ·cases h
theorem E3 (i:Nat) (hc:c.X.calm=true) (hg:JG c.nox tg kt) (hb:E1 c.nox body gbd) (hN:c.X.N[i]?=some x:=by rfl) (hv:GK c.X.env.scope x:=by first|exact fV rfl|exact dD (fV rfl)|exact dD (dD rfl)) (hd:(x==("__debug__" : Str))=false:=by decide)
  (hcd:(x==("__classdict__" : Str))=false:=by decide) (hs:∀ y,bB (.Name x p) c.X.env y=pure y:=by intro _;rfl):JS c (.For tg (.Name x p) body [] pos) (oX i kt gbd):=.of fun ρ=>by
 by_cases ho:∃ ds,ρ[i]?=some (Sl.own (.list ds))
 ·obtain ⟨ds,ho⟩:=ho;refine ID (xw (Ht (tg:=tg) tO hc (rR (X:=c.nox.X) (nu hN hv hd hcd)) (g:=fun v σ H Q=>∃ ρ d,OJ c.X.K ρ d (kt d ρ) v σ H Q) (tb:=fun D σ H=>∃ ρ,SR c.X.K c.cls E0 ρ (gbd ρ) D σ H) ?_ ?_ hs) fun D σ H ⟨H0,Hs0,la,Hs,f,q⟩=>?_)
  ·exact fun pins s σ H v u Q I r h_2=>by obtain ⟨ρ,d,q⟩:=h_2;exact hg ρ d pins s σ H v u Q I r q
  ·exact fun pins s σ H D I h_3=>by obtain ⟨ρ,q⟩:=h_3;exact hb ρ pins s σ H D I q
  ·obtain ⟨a,o,k1,k2,k3,k4,k5⟩:=f.ow i _ ho;cases k5 with
   | @lst vs _ r =>
    refine ⟨_,k1,a,rfl,⟨_,.of k2⟩,?_⟩;have hn:lz c.X.K (upd Hs a (.lst vs)) a vs:=.of bi;unfold oX at q;simp only [ho] at q;have fl:=f.lock ho k1 k2 k3 k4 (.lst r);have sub:cz (upd Hs a (.lst vs)) H:=fun b u q=>by
     by_cases hb:b=a
     ·subst hb;rw [bi] at q;cases q;exact k2
     ·rw [bh hb] at q;exact f.st.sub b u q
    refine IE (E:=c.E) (cls:=c.cls) (kt:=kt) (gb:=gbd) (ρ:=zz i ρ) (Hs:=Hs) (la:=fun i'=>if i'=i then some a else la i') (tg:=fun v σ H Q=>∃ ρ d,OJ c.X.K ρ d (kt d ρ) v σ H Q) (tb:=fun D σ H=>∃ ρ,SR c.X.K c.cls E0 ρ (gbd ρ) D σ H) (zw hn r) (IF f.st.all sub) ?_ (fun ρ d v σ H Q h=>⟨ρ,d,h⟩) (fun ρ D σ H h=>⟨ρ,h⟩) ?_
    ·unfold zz;rw [ho];exact fl
    ·cases hr:jb kt gbd ds (zz i ρ) with
     |no=>rw [hr] at q;exact q
     |ex c n=>exact (zA _ _ _ _ hr).elim
     |ok fl =>
      rw [hr] at q;rcases w9 _ _ _ hr with ⟨ρ',rfl⟩|⟨d,rfl⟩
      ·exact fun σ' H' Hs' f'=>q σ' H' Hs' (f.unlock ho k4 f')
      ·exact fun v H' Hs' s r=>q v H' Hs' (f.st.unlock s) r
 ·have e:oX i kt gbd ρ=mR (jh fun ρ=>CQ ρ i) kt gbd ρ:=by
   unfold oX;split
   ·rename_i ds h;exact (ho ⟨ds,h⟩).elim
   ·rfl
  rw [e];exact nF hc (zx (c:=c.nox) (av (c:=c.nox) i hN hv hd hcd)) hg hb hs ρ
def gL (t:ay->R Bool) (b:ay->R Fl):Nat->ay->R Fl
 | 0,_=>.no
 |n+1,ρ=>match t ρ with
  |.ok true=>match b ρ with
   |.ok (.nx ρ')=>gL t b n ρ'
   |.ok (.ct ρ')=>gL t b n ρ'
   |.ok (.bk ρ')=>.ok (.nx ρ')
   |.ok (.rt d)=>.ok (.rt d)
   |_=>.no
  |.ok false=>.ok (.nx ρ)
  |_=>.no
theorem AT (n:Nat)  (ht:JT c.nox t gt) (hb:E1 c.nox body gbd):JS c (.While t body [] pos) (gL gt gbd n):=.of fun ρ=>by
 refine ID (xw (Hm tO (tc:=fun σ H Q=>∃ ρ,Af c.X.K c.cls E0 ρ (gt ρ) σ H Q) (tb:=fun D σ H=>∃ ρ,SR c.X.K c.cls E0 ρ (gbd ρ) D σ H) ?_ ?_) fun D σ H ⟨H0,Hs0,la,Hs,f,q⟩=>?_)
 ·exact fun pins s σ H Q I h_4=>by obtain ⟨ρ,q⟩:=h_4;exact ht ρ pins s σ H Q I q
 ·exact fun pins s σ H D I h_5=>by obtain ⟨ρ,q⟩:=h_5;exact hb ρ pins s σ H D I q
 ·refine ⟨fun m σ H=>∃ ρ Hs,Fr c.X.K H0 Hs0 la ρ σ H Hs/\mQ c.X.K c.cls c.E H0 Hs0 la D (gL gt gbd m ρ),⟨n,ρ,Hs,f,q⟩,?_⟩;rintro m σ H ⟨ρ,Hs,f,q⟩;cases m with
  |zero=>exact q.elim
  |succ m =>
   unfold gL at q;refine ⟨ρ,H0,Hs0,la,Hs,f,?_⟩;cases hg:gt ρ with
   |no=>rw [hg] at q;exact q
   |ex x n=>rw [hg] at q;exact q.elim
   |ok b =>
    rw [hg] at q;intro H1 Hs1 s1;cases b with
    |false=>exact vH (q σ H1 Hs1 (f.step s1))
    |true =>
     refine vI ⟨fun σ' H'=>∃ ρ' Hs',Fr c.X.K H0 Hs0 la ρ' σ' H' Hs'/\mQ c.X.K c.cls c.E H0 Hs0 la D (gL gt gbd m ρ'),fun σ' H' h=>⟨m,cZ _,h⟩,ρ,H0,Hs0,la,Hs1,f.step s1,?_⟩;cases hb':gbd ρ with
     |no=>simp only [hb'] at q;exact q
     |ex x n=>simp only [hb'] at q;exact q.elim
     |ok fl =>
      simp only [hb'] at q;cases fl with
      |nx ρ'=>exact fun σ' H' Hs' f'=>⟨ρ',Hs',f',q⟩
      |ct ρ'=>exact fun σ' H' Hs' f'=>⟨ρ',Hs',f',q⟩
      |bk ρ'=>exact fun σ' H' Hs' f'=>q σ' H' Hs' f'
      |rt d=>exact q
end
end
section
section
def uS (i:Nat) (g:ay->R D):ay->R Fl:=fun ρ=>match ρ[i]? with
 |some (Sl.own (.list ds))=>(g ρ).bind fun d=>if ds.length<1000 then .ok (.nx (ρ.set i (.own (.list (ds++[d]))))) else .no
 |_=>.no
theorem u4 (i:Nat) (h:JE c e g) (hN:c.X.N[i]?=some x:=by rfl) (hv:GK c.X.env.scope x:=by first|exact fV rfl|exact dD (fV rfl)|exact dD (dD rfl)) (hd:(x==("__debug__" : Str))=false:=by decide)
  (hcd:(x==("__classdict__" : Str))=false:=by decide)
  (hbase:lr (.Name x p) "append" c.X.env (cj (.Name x p) c.X.env)=cj (.Name x p) c.X.env:=by rfl)
  (hfew:((gE cpos (aE [e] c.X.env)).all (fun x=>!x.1)&&(KN cpos (A8 [] c.X.env)).all (fun x=>x.1.isSome)
   && decide ([e].length+([] : List qJ).length+(if ([] : List qJ).isEmpty then 0 else 1)<30))=true:=by rfl)
  (hline:(apos.endLine==cpos.line)=true:=by rfl) (hst:aE [e] c.X.env=(false,cj e c.X.env)::aE [] c.X.env:=by rfl) (hplain:(gE cpos (aE [] c.X.env)).any (·.1)=false:=by rfl)
  (hs:fE (.Call (.Attribute (.Name x p) "append" apos) [e] [] cpos) none pos.line c.X.env=pure false:=by rfl) :
  JS c (.Expr (.Call (.Attribute (.Name x p) "append" apos) [e] [] cpos) pos) (uS i g):=.of fun ρ=>by
 refine xw (vc (HE mH xj xk xV (nu hN hv hd hcd) (fY (h ρ) iR hst) hbase hfew hline hst hplain) hs) fun D σ H h_0=>?_;obtain ⟨H0,Hs0,la,Hs,f,q⟩:=h_0;replace q:mQ c.X.K c.cls c.E H0 Hs0 la D (uS i g ρ):=q;unfold uS at q;split at q
 ·rename_i ds ho
  obtain ⟨a,o,k1,k2,k3,k4,k5⟩:=f.ow i _ ho;cases k5 with
  | @lst vs _ r =>
   refine ⟨_,k1,.inl ⟨rfl,_,.of k2⟩,?_⟩;refine sE f q fun d v H1 Hs1 e1 s1 f1 r1=>?_;rw [e1,bind_ok] at q;by_cases hl:ds.length<1000
   ·rw [if_pos hl] at q;have r':=r.same s1.sh;exact ⟨a,vs,v,rfl,rfl,s1.all _ _ k2,dz (by rw [r.length];omega),q _ _ Hs1 (f1.write i ho k1 (.lst (r'.append (.cons r1 .nil))))⟩
   ·rw [if_neg hl] at q;exact q.elim
 ·exact q.elim
def o7:D->Option eR
 |.int i=>some (.inl i)
 |.str x=>some (.inr x)
 |_=>none
theorem oY  (h:o7 d=some y):d=kD y:=by
 cases d<;>cases h<;>rfl
def qX (kvs:List (D×D)) (k d:D):List (D×D):=if kvs.any (fun kv=>b9 kv.1 k) then kvs.map (fun kv=>if b9 kv.1 k then (kv.1,d) else kv) else kvs++[(k,d)]
theorem D2 (a b:eR):b9 (kD a) (kD b)=decide (a=b):=by
 cases a<;>cases b<;>simp [kD,b9,pE]
theorem RDk.any   (y:eR):∀ {ds:List (D×D)},RDk K H kvs ds->(ds.any fun kv=>b9 kv.1 (kD y))=kvs.any fun kv=>decide (kv.1=y):=by
 induction kvs with
 |nil=>intro ds h;cases h;rfl
 |cons x r ih=>intro ds h;cases h with|cons h t=>rw [eF,eF,ih t,D2]
theorem RDk.repl  (y:eR)  (rv:RD K H v d):∀ {kvs:List (eR×V)}{ds:List (D×D)},RDk K H kvs ds ->
  RDk K H (kvs.map fun kv=>if kv.1=y then (kv.1,v) else kv) (ds.map fun kv=>if b9 kv.1 (kD y) then (kv.1,d) else kv)
 |_,_,.nil=>.nil
 |_,_,.cons (k:=k) h t=>by
  rw [az,az];have e:=D2 k y;by_cases hk:k=y
  ·subst hk;rw [show (if k=k then (k,v) else (k,_))=(k,v) from if_pos rfl,show (if b9 (kD k) (kD k)=true then (kD k,d) else (kD k,_))=(kD k,d) from if_pos (by rw [e];simp)];exact .cons rv (RDk.repl k rv t)
  ·simp only [e,hk,if_neg,decide_false,ba,not_false_eq_true];exact .cons h (RDk.repl y rv t)
theorem RDk.snoc  (y:eR)  (rv:RD K H v d):∀ {kvs:List (eR×V)}{ds:List (D×D)},RDk K H kvs ds->RDk K H (kvs++[(y,v)]) (ds++[(kD y,d)])
 |_,_,.nil=>.cons rv .nil
 |_,_,.cons h t=>.cons h (RDk.snoc y rv t)
theorem RDk.put    (r:RDk K H kvs ds) (y:eR)  (rv:RD K H v d):RDk K H (qQ kvs y v) (qX ds (kD y) d):=by
 unfold qQ qX;rw [r.any y];split
 ·exact r.repl y rv
 ·exact r.snoc y rv
def cp (kvs:List (D×D)):Bool:=kvs.all fun kv=>(o7 kv.1).isSome
def nG (i:Nat) (gk g:ay->R D):ay->R Fl:=fun ρ=>match ρ[i]? with
 |some (Sl.own (.dict kvs))=>(g ρ).bind fun d=>(gk ρ).bind fun k=>match o7 k with
  |some _=>if kvs.length<1000/\cp kvs=true then .ok (.nx (ρ.set i (.own (.dict (qX kvs k d))))) else .no
  |none=>.no
 |_=>.no
theorem zB    (h:RD K H v (kD y)):v=kV y:=by
 cases y<;>cases h<;>rfl
theorem RDt.flat    (h:RDt K H kvs ds) (f:cp ds=true):kvs=[]/\ds=[]:=by
 cases h with
 |nil=>exact ⟨rfl,rfl⟩
 |cons h t=>simp [cp,tD,o7] at f
theorem vj (i:Nat) (h:JE c e g) (hk:JE c k gk) (hu:c.X.A.units+1<fO) (hN:c.X.N[i]?=some x:=by rfl) (hv:GK c.X.env.scope x:=by first|exact fV rfl|exact dD (fV rfl)|exact dD (dD rfl)) (hd:(x==("__debug__" : Str))=false:=by decide)
  (hcd:(x==("__classdict__" : Str))=false:=by decide) (hs:fE e (some (.Subscript (.Name x p) k apos)) pos.line c.X.env=pure false:=by rfl):JS c (.Assign [.Subscript (.Name x p) k apos] e pos) (nG i gk g):=.of fun ρ=>by
 refine xw (LA hu (nu hN hv hd hcd) (hk ρ) (h ρ) hs) fun D σ H h_1=>?_
 obtain ⟨H0,Hs0,la,Hs,f,q⟩:=h_1
 replace q:mQ c.X.K c.cls c.E H0 Hs0 la D (nG i gk g ρ):=q
 unfold nG at q
 split at q
 ·rename_i kvs ho
  obtain ⟨a,o,k1,k2,k3,k4,k5⟩:=f.ow i _ ho
  have main:∀ {H:Hp}{vs:List (eR×V)},Fr c.X.K H0 Hs0 la ρ σ H Hs->H a=some (.dK vs)->RDk c.X.K Hs vs kvs->MK (NQ i) (TR c.X.K c.cls c.E ρ (gk ρ)) (TR c.X.K c.cls c.E ρ (g ρ)) D σ H:=fun {H vs} f k2 r=>by
   refine sE f q fun d v H1 Hs1 e1 s1 f1 r1=>?_
   rw [e1,bind_ok] at q
   refine ⟨_,k1,sE f1 q fun y w H2 Hs2 e2 s2 f2 r2=>?_⟩
   rw [e2,bind_ok] at q
   split at q
   ·rename_i ky hy
    obtain rfl:=oY hy
    by_cases hl:kvs.length<1000/\cp kvs=true
    ·rw [if_pos hl] at q
     have ha:=s2.all _ _ (s1.all _ _ k2)
     have r':=(r.same s1.sh).same s2.sh
     rw [zB r2]
     exact ⟨a,_,rfl,HJ.k ha (dz (by rw [r.length];omega)),q _ _ Hs2 (f2.write i ho k1 (.dK (r'.put ky (r1.same s2.sh))))⟩
    ·rw [if_neg hl] at q;exact q.elim
   ·exact q.elim
  cases k5 with
  |dK r=>exact main f k2 r
  |dT n r =>
   refine sE f q fun d v H1 Hs1 e1 s1 f1 r1=>?_
   rw [e1,bind_ok] at q
   refine ⟨_,k1,sE f1 q fun y w H2 Hs2 e2 s2 f2 r2=>?_⟩
   rw [e2,bind_ok] at q
   split at q
   ·rw [if_neg (fun z=>n (r.flat z.2).1)] at q;exact q.elim
   ·exact q.elim
  |dF n r =>
   refine sE f q fun d v H1 Hs1 e1 s1 f1 r1=>?_
   rw [e1,bind_ok] at q
   refine ⟨_,k1,sE f1 q fun y w H2 Hs2 e2 s2 f2 r2=>?_⟩
   rw [e2,bind_ok] at q
   split at q
   ·rw [if_neg (fun z=>by cases z.2)] at q;exact q.elim
   ·exact q.elim
 ·exact q.elim
def lN (kvs:List (D×D)) (k:D):Option D:=(kvs.find? fun kv=>b9 kv.1 k).map (·.2)
theorem RDk.val  : ∀ {kvs:List (eR×V)}{ds:List (D×D)},RDk K H kvs ds->∀ (y:eR),(rY kvs y=none/\lN ds (kD y)=none)\/∃ v d,rY kvs y=some v/\lN ds (kD y)=some d/\RD K H v d
 |_,_,.nil,y=>.inl ⟨rfl,rfl⟩
 |_,_,.cons (k:=k) h t,y=>by
  unfold rY lN;rw [dY,dY,D2];by_cases hk:k=y
  ·simp only [hk,decide_true,cO];exact .inr ⟨_,_,rfl,rfl,h⟩
  ·simp only [hk,decide_false];exact RDk.val t y
def bL:D->D->R D
 |.dict kvs,k=>match o7 k with
  |some _=>if cp kvs=true then (match lN kvs k with
   |some d=>.ok d
   |none=>.no) else .no
  |none=>.no
 |x,k=>CZ x k
theorem dJ (hu:c.X.A.units+1<fO) (ha:JB c a ga) (hb:JB c b gb) (hs:vd b:=by exact fun _ _=>rfl):JE c (.Subscript a b pos) (g2 ga gb bL):=.of fun ρ=>by
 by_cases hx:∃ kvs,ga ρ=.ok (.dict kvs)
 ·obtain ⟨kvs,hx⟩:=hx;refine rK (Lz hu (ha ρ) (hb ρ) hs) fun σ H Q h_2=>?_;obtain ⟨H0,Hs0,la,Hs,f,q⟩:=h_2;refine one f q fun d v H1 Hs1 e1 s1 f1 r1=>?_;rw [hx] at e1;cases e1;unfold g2 at q;rw [hx,bind_ok] at q;refine one f1 (q.on s1 (q':=fun _=>True) fun _ _=>trivial) fun y w H2 Hs2 e2 s2 f2 r2=>?_;rw [e2,bind_ok] at q;unfold bL at q;simp only at q;split at q
  ·rename_i ky hy
   obtain rfl:=oY hy;by_cases hf:cp kvs=true
   ·rw [if_pos hf] at q;obtain ⟨p,rfl,h⟩:=(r1.step s2).dict f2.st.sub;have rk:w=kV ky:=by
     rcases r2 with r2|⟨_,o,rfl,_,_,ow⟩
     ·exact zB r2
     ·cases ky<;>cases ow
    subst rk;rcases h with ⟨vs,h1,h2⟩|⟨vs,h1,hn,h2⟩|⟨o,vs,es,rfl,h1,hn,h2⟩
    ·rcases h2.val ky with ⟨_,h3⟩|⟨u,d,h3,h4,h5⟩
     ·rw [h3] at q;exact q.elim
     ·rw [h4] at q;exact ⟨p,u,rfl,by rw [<- h3];exact xp.k h1,q _ H2 Hs2 (s1.trans s2) h5⟩
    ·exact (hn (h2.flat hf).1).elim
    ·cases hf
   ·rw [if_neg hf] at q;exact q.elim
  ·exact q.elim
 ·refine rK (Qt ha hb hs ρ) fun σ H Q q=>?_;have e:g2 ga gb bL ρ=g2 ga gb CZ ρ:=by
   unfold g2;cases hr:ga ρ with
   |ok d =>
    cases d with
    |dict kvs=>exact (hx ⟨kvs,hr⟩).elim
    |_=>rfl
   |_=>rfl
  rw [e] at q;exact q
def f_:D->R D
 |.dict kvs=>if cp kvs=true then .ok (.list (kvs.map (·.1))) else .no
 |x=>yd x
theorem AU  : ∀ {kvs:List (eR×V)}{ds:List (D×D)},RDk K H kvs ds->RDs K H (kvs.map fun p=>kV p.1) (ds.map (·.1))
 |_,_,.nil=>.nil
 |_,_,.cons (k:=k) h t=>.cons (by cases k<;>constructor) (AU t)
theorem sH (hc:X.calm=true):GM X (.type "list") (jr f_):=by
 refine qU (fun d c n=>?_) fun pins s σ H x u Q Hs d d' I ru sub rx hd q=>?_
 ·unfold f_ yd;split<;>(try split)<;>(try split)<;>exact fun h=>by cases h
 ·by_cases hx:∃ kvs,d=.dict kvs
  ·obtain ⟨kvs,rfl⟩:=hx;unfold f_ at hd;simp only at hd;split at hd
   ·rename_i hf
    cases hd;obtain ⟨a,rfl,⟨vs,h1,h2⟩|⟨vs,h1,n,h2⟩|⟨o,vs,es,rfl,h1,n,h2⟩⟩:=rx.dict sub
    ·exact vT hc pins s σ H _ _ Q I (.cons ru .nil) ⟨a,vs,rfl,h1,fun l hl=>q _ _ _ (.new sub hl) (.list (.of bi) ((AU h2).same (c8.new sub hl).sh))⟩
    ·exact (n (h2.flat hf).1).elim
    ·cases hf
   ·cases hd
  ·have e:f_ d=yd d:=by
    cases d with
    |dict kvs=>exact (hx ⟨kvs,rfl⟩).elim
    |_=>rfl
   rw [e] at hd;exact (LO (X:=X)).1 pins s σ H [x] [u] Q I (.cons ru .nil) ⟨Hs,[d],sub,.cons rx .nil,d',hd,q⟩
end
end
section
open PyProof.Rows (envOfC)
section
variable {c:C}{e a b d:a_}{g ga gb gc:ay->R D}{pos p cpos:Pos}{x:Str}
theorem IG        (hx:∀ x y c n,h x y≠.ex c n) (hx':∀ x y c n,h' x y≠.ex c n) (q:TR K cls E ρ (oQ ga gb gc h h' ρ) σ H Q) :
  Cy (rD K h) (rD K h') (TB K cls E ρ (ga ρ)) (TB K cls E ρ (gb ρ)) (TB K cls E ρ (gc ρ)) σ H Q:=by
 obtain ⟨H0,Hs0,la,Hs,f,q⟩:=q;refine one f q fun x v H1 Hs1 e1 s1 f1 r1=>?_;unfold oQ at q;rw [e1,bind_ok] at q;refine one f1 (q.on s1 (q':=fun _=>True) fun _ _=>trivial) fun y u H2 Hs2 e2 s2 f2 r2=>?_;rw [e2,bind_ok] at q;cases hr:h x y with
 |ex c n=>exact (hx x y c n hr).elim
 |no=>rw [hr] at q;exact q.elim
 |ok z =>
  rw [hr,bind_ok] at q;refine ⟨Hs2,x,y,f2.st.sub,r1.step s2,r2,z,hr,fun w H3 Hs3 s3 r3=>?_⟩;cases r3 with
  |bool k =>
   refine ⟨k,rfl,?_⟩;have f3:=f2.step s3;cases k with
   |false=>exact vH (q _ H3 Hs3 (s1.trans (s2.trans s3)) (.bool _))
   |true =>
    refine vI (one f3 (q.on (s1.trans (s2.trans s3)) (q':=fun _=>True) fun _ _=>trivial) fun t u' H4 Hs4 e4 s4 f4 r4=>?_);simp only [e4,bind_ok] at q;cases hr':h' y t with
    |ex c n=>exact (hx' y t c n hr').elim
    |no=>rw [hr'] at q;exact q.elim
    |ok z' =>
     rw [hr'] at q;exact ⟨Hs4,y,t,f4.st.sub,(r2.step s3).step s4,r4,z',hr',fun w H5 Hs5 s5 r5=>q w H5 Hs5 (s1.trans (s2.trans (s3.trans (s4.trans s5)))) r5⟩
  |none=>exact q.elim
  |int _=>exact q.elim
  |str _=>exact q.elim
  |list _ _=>exact q.elim
  |tuple _ _=>exact q.elim
  |dictK _ _=>exact q.elim
  |dictT _ _ _=>exact q.elim
  |dictF _ _ _=>exact q.elim
theorem AV  (ho:uP c.X (bG op) h) (ho':uP c.X (bG op') h') (ha:JB c a ga) (hb:JB c b gb) (hc:JB c d gc) (hm:Gx [op,op'] [b,d]=false:=by with_unfolding_all rfl):JE c (.Compare a [op,op'] [b,d] pos) (oQ ga gb gc h h') :=
 .of fun ρ=>rK (Hw ho.1 ho'.1 (ha ρ) (hb ρ) (hc ρ) hm) fun σ H Q q=>IG ho.2 ho'.2 q
theorem IH  (ho:uP c.X (bG op) h) (ho':uP c.X (bG op') h') (ha:JB c a ga) (hb:JB c b gb) (hc:JB c d gc) (hm:Gx [op,op'] [b,d]=false:=by with_unfolding_all rfl):JT c (.Compare a [op,op'] [b,d] pos) (i7 (oQ ga gb gc h h')) :=
 .of fun ρ=>Qp (Hx ho.1 ho'.1 (ha ρ) (hb ρ) (hc ρ) hm) fun σ H Q q=>IG ho.2 ho'.2 (Qq q)
inductive QB (K:a8) (w:bn) (cls:Str->ah) (E:XK) (ρ:ay) (r:R (List Str)) (σ:St) (H:Hp) (Q:VK):Prop
 |mk (H0 Hs0:Hp) (la:Nat->Option ah) (Hs:Hp) (f:Fr K H0 Hs0 la ρ σ H Hs) (q:Fin K cls E H Hs r fun ss=>∀ p H' Hs',c8 H Hs H' Hs'->H' p=none->Q (.ref p) (upd H' p (lF w p ss))):QB K w cls E ρ r σ H Q
def QC (K:a8) (w:bn) (cls:Str->ah) (E:XK) (ρ:ay) (r:R (List Str)):TE:=QB K w cls E ρ r
structure OM (c:C) (e:a_) (g:ay->R (List Str)):Prop where of ::
 run:∀ ρ,PE c.X e (QC c.X.K c.X.w c.cls c.E ρ (g ρ))
instance {c:C}{e:a_}{g:ay->R (List Str)}:CoeFun (OM c e g) (fun _=>∀ ρ,PE c.X e (QC c.X.K c.X.w c.cls c.E ρ (g ρ))):=⟨OM.run⟩
theorem M_ {K:a8}{w:bn}{cls:Str->ah}{E:XK}{ρ:ay}{r:R (List Str)}{β:Type}{k:List Str->R β}{σ:St}{H:Hp}{H0 Hs0 Hs:Hp}{la:Nat->Option ah}{Q:V->Hp->Prop}{q:β->Prop} (f:Fr K H0 Hs0 la ρ σ H Hs)
  (h:Fin K cls E H Hs (r.bind k) q) (m:∀ ss p H' Hs',r=.ok ss->c8 H Hs H' Hs'->Fr K H0 Hs0 la ρ σ H' Hs'->H' p=none->Q (.ref p) (upd H' p (lF w p ss))):QC K w cls E ρ r σ H Q:=by
 refine ⟨H0,Hs0,la,Hs,f,?_⟩;cases r with
 |ok d=>exact fun p H' Hs' s n=>m d p H' Hs' rfl s (f.step s) n
 |ex c n=>exact h
 |no=>exact h
variable {gset:ay->R (List Str)}
def wa:D->R (List Str)
 |.list ds=>match eB ds with
  |some ss=>if ss.length<60 then .ok (bW [] ss) else .no
  |none=>.no
 |.tuple ds=>match eB ds with
  |some ss=>if ss.length<60 then .ok (bW [] ss) else .no
  |none=>.no
 |_=>.no
def u5 (g:ay->R D):ay->R (List Str):=fun ρ=>(g ρ).bind wa
theorem ON (hc:c.X.calm=true) (h:JB c e g) (hg2:Gl c.X "set") (hm2:c.X.mg "set"=none) (he:aE [e] c.X.env=(false,cj e c.X.env)::aE [] c.X.env:=by rfl) :
  OM c (.Call (.Name "set" p) [e] [] cpos) (u5 g):=.of fun ρ=>by
 refine rK (xU (AD hc) hg2 hm2 PyProof.Rows.boot_set (fY (h ρ) iR he) (he:=he)) fun σ H Q h_1=>?_;obtain ⟨H0,Hs0,la,Hs,f,q⟩:=h_1;refine one f q fun d v H1 Hs1 e1 s1 f1 r1=>?_;unfold u5 at q;rw [e1,bind_ok] at q;unfold wa at q;split at q
 ·split at q
  ·rename_i ss hs
   by_cases hz:ss.length<60
   ·rw [if_pos hz] at q;obtain ⟨a,vs,rfl,qa,ra⟩:=r1.list f1.st.sub;rw [oU hs] at ra;rw [nA ra] at qa;exact ⟨a,ss,rfl,.inl qa,aD (F7 hz 1) (by decide),fun p hp=>q p H1 Hs1 s1 hp⟩
   ·rw [if_neg hz] at q;exact q.elim
  ·exact q.elim
 ·split at q
  ·rename_i ss hs
   by_cases hz:ss.length<60
   ·rw [if_pos hz] at q;obtain ⟨a,vs,rfl,qa,ra,_⟩:=r1.tuple f1.st.sub;rw [oU hs] at ra;rw [nA ra] at qa;exact ⟨a,ss,rfl,.inr qa,aD (F7 hz 1) (by decide),fun p hp=>q p H1 Hs1 s1 hp⟩
   ·rw [if_neg hz] at q;exact q.elim
  ·exact q.elim
 ·exact q.elim
def kZ (g:ay->R (List Str)):ay->R D:=fun ρ=>(g ρ).bind fun ss=>if ss.length<64 then .ok (.list ((j3 ss).map .str)) else .no
theorem wc (hc:c.X.calm=true) (h:OM c e gset) (hg:Gl c.X "sorted") (hm:c.X.mg "sorted"=none) (he:aE [e] c.X.env=(false,cj e c.X.env)::aE [] c.X.env:=by rfl) :
  JE c (.Call (.Name "sorted" p) [e] [] cpos) (kZ gset):=.of fun ρ=>by
 refine rK (rT (uN hc) hg hm ip (fY (h ρ) iR he) (he:=he)) fun σ H Q h_2=>?_;obtain ⟨H0,Hs0,la,Hs,f,q⟩:=h_2;dsimp only [L2.Q7,L2.Hz,L2.Og];refine M_ (w:=c.X.w) f q fun ss p H1 Hs1 e1 s1 f1 n1=>?_;unfold kZ at q;rw [e1,bind_ok] at q;by_cases hz:ss.length<64
 ·rw [if_pos hz] at q;have st1:c8 H1 Hs1 (upd H1 p (lF c.X.w p ss)) Hs1:=.mine f1.st.sub n1;exact ⟨p,ss,rfl,bi,hz,fun l hl=>q _ _ _ (s1.trans (st1.trans (.new st1.sub hl))) (.list (.of bi) (vV _))⟩
 ·rw [if_neg hz] at q;exact q.elim
def sI (g:ay->R (List Str)):ay->R D:=fun ρ=>(g ρ).bind fun ss=>.ok (.int ss.length)
theorem FM (h:OM c e gset) (hg:Gl c.X "len") (hm:c.X.mg "len"=none) (he:aE [e] c.X.env=(false,cj e c.X.env)::aE [] c.X.env:=by rfl) :
  JE c (.Call (.Name "len" p) [e] [] cpos) (sI gset):=.of fun ρ=>by
 refine rK (rT xu hg hm cP (fY (h ρ) iR he) (he:=he)) fun σ H Q h_3=>?_;obtain ⟨H0,Hs0,la,Hs,f,q⟩:=h_3;dsimp only [L2.Q7,L2.Hz,L2.Og];refine M_ (w:=c.X.w) f q fun ss p H1 Hs1 e1 s1 f1 n1=>?_;unfold sI at q;rw [e1,bind_ok] at q;have st1:c8 H1 Hs1 (upd H1 p (lF c.X.w p ss)) Hs1:=.mine f1.st.sub n1;exact ⟨p,ss,rfl,bi,q _ _ _ (s1.trans st1) (.int _)⟩
variable {elt iter tg:a_}{ifs:List a_}{scope:dU}{N':List Str}{nt:Nat}{ix:List Nat}{gi:ay->R (List D)}{gt:ay->R Bool}{ge:ay->R D}
def u6 (nt:Nat) (ix:List Nat) (gi:ay->R (List D)) (gt:ay->R Bool) (ge:ay->R D):ay->R (List Str):=fun ρ=>(gi ρ).bind fun ds=>if ds.length<=60 then (eN (hV nt (js nt ix ρ) gt ge) ds).bind fun ys=>match eB ys with
 |some ss=>.ok (bW [] ss)
 |none=>.no else .no
theorem mh  : ∀ {ss:List Str},eB (xs++ys)=some ss->∃ s1 s2,eB xs=some s1/\eB ys=some s2/\ss=s1++s2:=by
 induction xs with
 |nil=>intro ss h;exact ⟨[],ss,rfl,h,rfl⟩
 |cons d r ih =>
  intro ss h;cases d with
  |str b =>
   have h:(eB (r++ys)).map (b::·)=some ss:=h;cases hr:eB (r++ys) with
   |none=>rw [hr] at h;cases h
   |some z =>
    rw [hr] at h;cases h;obtain ⟨s1,s2,h1,h2,rfl⟩:=ih hr;exact ⟨b::s1,s2,by show (eB r).map (b::·)=_;rw [h1];rfl,h2,rfl⟩
  |_=>cases h
theorem qY (z:Str):∀ (l acc:List Str),bW acc (l++[z])=if z∈bW acc l then bW acc l else bW acc l++[z]
 |[],acc=>rfl
 |x::l,acc=>by
  show bW _ (l++[z])=_;rw [qY z l];rfl
inductive Ti (f:D->R (Option D)) (ds:List D) (ss:List Str) (H1 Hs1:Hp) (i m:Nat) (acc:List Str) (H':Hp):Prop
 |mk (done bA zs sa sz Hs':_) (h0:ds=done++bA) (h1:done.length=i) (h2:bA.length=m) (h3:c8 H1 Hs1 H' Hs') (h4:acc=bW [] sa) (h5:sa.length<=i) (h6:eN f bA=.ok zs) (h7:eB zs=some sz) (h8:ss=sa++sz):Ti f ds ss H1 Hs1 i m acc H'
theorem LV        (hnt:nt=1\/nt=2)
  (q:QC K w cls E ρ (u6 nt ix gi gt ge ρ) σ H Q) :
  Ij w nt ix (OL K cls E ρ (gi ρ)) (w4 K nt) (fun σ H Q=>∃ ρ',Af K cls E0 ρ' (gt ρ') σ H Q) (fun σ H Q=>∃ ρ',TR K cls E0 ρ' (ge ρ') σ H Q) σ H Q:=by
 obtain ⟨H0,Hs0,la,Hs,f,q⟩:=q;refine ⟨H0,Hs0,la,Hs,f,?_⟩;unfold u6 at q;cases hi:gi ρ with
 |no=>rw [hi] at q;exact q
 |ex x n=>rw [hi] at q;exact q
 |ok ds =>
  rw [hi,bind_ok] at q;intro J H1 Hs1 Hn s1 sn it;by_cases hl:ds.length<=60
  ·rw [if_pos hl] at q;cases hm:eN (hV nt (js nt ix ρ) gt ge) ds with
   |no=>rw [hm] at q;exact q.elim
   |ex x n=>exact (sF (w5 _ _ _ _) _ _ _ hm).elim
   |ok ys =>
    rw [hm,bind_ok] at q;cases hs:eB ys with
    |none=>rw [hs] at q;exact q.elim
    |some ss =>
     rw [hs] at q;obtain ⟨lb,fb⟩:=(f.step s1).block nt ix;refine ⟨Ti (hV nt (js nt ix ρ) gt ge) ds ss H1 Hs1,
      ⟨ds.length,[],ds,ys,[],ss,Hs1,rfl,rfl,rfl,.refl s1.sub,rfl,ck _,hm,hs,rfl⟩,?_⟩
     rintro i m acc H' ⟨done,bA,zs,sa,sz,Hs',hds,hdl,hrl,st,rfl,yl,hz,hzs,hy⟩;obtain ⟨igo,istop,iyld⟩:=it H' Hs' (sn.trans st.all) st.sh st.sub;cases bA with
     |nil =>
      left;cases hz;cases hzs;rw [bC] at hds hy;subst hy hds;exact ⟨istop i (by omega),fun p hp=>q p H' Hs' (s1.trans st) hp⟩
     |cons d bA =>
      right;have hil:i<ds.length:=by rw [hds,aB,bp];omega
      have hol:=fH sa [];simp at hol;refine ⟨igo i hil,m8 (show (bW [] sa).length+1<=61 by omega) (by decide),fun x H2 hyl=>?_⟩;obtain ⟨d',Hs2,hd,s2,r2⟩:=iyld i x H2 hil hyl;have hdd:d'=d:=by
       rw [hds,aR (by omega)] at hd;simp [hdl] at hd;exact hd.symm
      subst hdd;obtain ⟨o,zs',hf,hz',rfl⟩:=nE hz;have hf:=sy hf;obtain ⟨so,sz',hso,hsz,rfl⟩:=mh hzs;cases hb:MY nt d' (js nt ix ρ) with
      |no=>rw [hb] at hf;cases hf
      |ex x n=>rw [hb] at hf;cases hf
      |ok ρ' =>
       rw [hb,bind_ok] at hf;refine sD hnt ((fb.step st).step s2) r2 hb fun σ2 f2=>⟨ρ',?_⟩;refine ⟨_,_,_,Hs2,f2,?_⟩;cases ht:gt ρ' with
       |no=>rw [ht] at hf;cases hf
       |ex x n=>rw [ht] at hf;cases hf
       |ok b =>
        rw [ht,bind_ok] at hf;intro H3 Hs3 s3;cases b with
        |false =>
         rw [if_neg bj] at hf;cases hf;cases hso;refine vH ⟨bA.length,by rw [<- hrl];simp,done++[d'],bA,zs',sa,sz',Hs3,by rw [hds];simp,by simp [hdl],rfl,(st.trans s2).trans s3,rfl,by omega,hz',hsz,by simpa using hy⟩
        |true =>
         rw [if_pos rfl] at hf;refine vI ⟨ρ',_,_,_,Hs3,f2.step s3,?_⟩;cases he:ge ρ' with
         |no=>rw [he] at hf;cases hf
         |ex x n=>rw [he] at hf;cases hf
         |ok y =>
          rw [he,bind_ok] at hf;cases hf;intro v H4 Hs4 s4 r4;cases r4 with
          |str z =>
           cases hso;exact ⟨z,bA.length,rfl,by rw [<- hrl];simp,done++[d'],bA,zs',sa++[z],sz',Hs4,by rw [hds];simp,by simp [hdl],rfl,((st.trans s2).trans s3).trans s4,(qY z sa []).symm,by simp;omega,hz',hsz,by rw [hy];simp⟩
          |none=>cases hso
          |bool _=>cases hso
          |int _=>cases hso
          |list _ _=>cases hso
          |tuple _ _=>cases hso
          |dictK _ _=>cases hso
          |dictT _ _ _=>cases hso
          |dictF _ _ _=>cases hso
  ·rw [if_neg hl] at q;exact q.elim
theorem II (nt:Nat) (hnt:nt=1\/nt=2) (hc:c.X.calm=true) (S:iE c.X scope N' nt ix) (hi:JI c tg iter gi) (hb:sG c N' scope nt tg ifs elt gt ge) (hs:∀ x,bB iter c.X.env x=pure x:=by intro _;rfl) :
  OM c (.SetComp elt [⟨tg,iter,ifs,0⟩] scope pos) (u6 nt ix gi gt ge):=.of fun ρ=>rK (CO hc S (sC hnt) (hi ρ) hb.at hs) fun σ H Q q=>LV hnt q
end
def dh (n:Nat) (ds:List D):ay:=ds.map Sl.shr++qr (n-ds.length) Sl.no
def iL (n:Nat) (g:ay->R Fl):List D->R D:=fun ds=>match g (dh n ds) with
 |.ok (.nx _)=>.ok .none
 |.ok (.rt d)=>.ok d
 |.ex c m=>.ex c m
 |_=>.no
theorem we {n:Nat}{ds:List D}{i:Nat}{s:Sl} (h:(dh n ds)[i]?=some s):(∃ d,ds[i]?=some d/\s=.shr d)\/s=.no:=by
 unfold dh at h;by_cases hi:i<ds.length
 ·rw [bf (by simpa using hi),aW] at h;cases hd:ds[i]? with
  |none=>rw [hd] at h;cases h
  |some z=>rw [hd] at h;cases h;exact .inl ⟨z,rfl,rfl⟩
 ·rw [aR (by simp;omega),bw] at h;split at h<;>cases h;exact .inr rfl
theorem FO {N:List Str}{vs:List V}{i:Nat}{v:V} (h:vs[i]?=some v):(L2.start N vs)[i]?=some (some v):=by
 unfold L2.start;have hi:i<vs.length:=(List.getElem?_eq_some_iff.mp h).1;rw [bf (by simpa using hi),aW,h];rfl
theorem Fr.start {K : a8} {H Hs : Hp} {N : List Str} {vs : List V} {ds : List D} (sub : cz Hs H) (r : RDs K Hs vs ds) : Fr K H Hs (fun _ => none) (dh N.length ds) (L2.start N vs) H Hs := by
  have hl := r.length;refine ⟨.refl sub, by simp [dh, L2.start, hl], fun i d h => ?_, fun i d h => ?_, fun i d h => ?_, fun i j d e a h _ _ _ => ?_, fun i a h => (nomatch h), fun i d h => ?_, fun i j d e h _ => ?_⟩
  · rcases we h with ⟨z, hz, e⟩ | e
    · cases e;obtain ⟨v, k1, k2⟩ := r.get' hz;exact ⟨v, FO k1, k2⟩
    · cases e
  all_goals (rcases we h with ⟨z, _, e⟩ | e <;> cases e)
theorem N0             (F:Ft K x qual st f fd) (S:cr N ps (aN st))
  (h:∀ (cdv:a9) (A:bv) (outer:List Env) (s:ae) (H:Hp) (E:XK),jT k (A.deeper (qK qual (aN st) s.heap.objs.size f cdv))->E1 ⟨vF (w_ P w) P w K mg base N qual (aN st) f cdv A outer s H E,cls,E⟩ (hJ st) g) :
  qi P w K mg base (w_ P w) (k+1) f fd ps (LP K cls ps.length (iL N.length g)):=by
 obtain ⟨oc,od,kV,doc,pm,an,cdv,ct,osl,rfl,lk,hcd⟩:=F.ex;refine Q6 lk hcd S (fun vs H Q E h_4=>by obtain ⟨Hs,ds,sub,hn,r,q⟩:=h_4;exact by rw [r.length];exact hn) fun A outer s H vs Q E hr hsp=>?_;obtain ⟨Hs,ds,sub,hn,r,q⟩:=hsp;refine ⟨_,h cdv A outer s H E hr (dh N.length ds),H,Hs,_,Hs,Fr.start sub r,?_⟩;unfold iL at q;cases hg:g (dh N.length ds) with
 |no=>rw [hg] at q;exact q
 |ex c n=>rw [hg] at q;exact q
 |ok fl =>
  rw [hg] at q;cases fl with
  |nx ρ'=>exact fun σ' H' Hs' f'=>q .non H' Hs' f'.st .none
  |rt d=>exact fun v H' Hs' s r=>q v H' Hs' s r
  |bk ρ'=>exact q.elim
  |ct ρ'=>exact q.elim
theorem QD             (F:Ft K x qual st f fd) (S:cr N ps (aN st)) (hm:mg x=some (.ref f)) (hb:kn K fd ps [])
  (h:∀ (cdv:a9) (A:bv) (outer:List Env) (s:ae) (H:Hp) (E:XK),jT k (A.deeper (qK qual (aN st) s.heap.objs.size f cdv))->E1 ⟨vF (w_ P w) P w K mg base N qual (aN st) f cdv A outer s H E,cls,E⟩ (hJ st) g) :
  Fn P w K mg base cls x (k+1) ps.length (iL N.length g):=⟨f,fd,ps,N0 F S h,hm,F.kp,hb⟩
theorem il:oM (w_ X.prog X.w) X E0:=fun _ _ _ _ _ _ _ h=>by
 obtain ⟨_,_,_,_,_,_,_,_,_,q⟩:=h;exact q.elim
end
section
def clear2 (ρ:ay):ay:=ρ.map fun s=>match s with
 |.ow2 _=>.no
 |s=>s
section
theorem Fr.clear2    (f:Fr K H0 Hs0 la ρ σ H Hs):Fr K H0 Hs0 la (clear2 ρ) σ H Hs/\∀ (j:Nat) (d:List (List D)),¬ (J.clear2 ρ)[j]?=some (Sl.ow2 d):=by
 have un:∀ {j:Nat}{s:Sl},(J.clear2 ρ)[j]?=some s->(∀ d,s≠.ow2 d)/\(ρ[j]?=some s\/s=.no):=fun {j s} e=>by
  unfold J.clear2 at e;rw [aW] at e;cases h:ρ[j]? with
  |none=>rw [h] at e;cases e
  |some t =>
   rw [h] at e;cases t with
   |ow2 d=>cases e;exact ⟨fun _ z=>(by cases z),.inr rfl⟩
   |no=>cases e;exact ⟨fun _ z=>(by cases z),.inl rfl⟩
   |shr d=>cases e;exact ⟨fun _ z=>(by cases z),.inl rfl⟩
   |lck d=>cases e;exact ⟨fun _ z=>(by cases z),.inl rfl⟩
   |own d=>cases e;exact ⟨fun _ z=>(by cases z),.inl rfl⟩
 have is:∀ {j:Nat}{s:Sl},s≠.no->(J.clear2 ρ)[j]?=some s->ρ[j]?=some s:=fun {j s} n e=>(un e).2.resolve_right n;have no2:∀ (j:Nat) (d:List (List D)),¬ (J.clear2 ρ)[j]?=some (Sl.ow2 d):=fun j d e=>(un e).1 d rfl;exact ⟨⟨f.st,by simp [J.clear2,f.len],fun j d h=>f.sh j d (is (fun z=>by cases z) h),fun j d h=>f.ow j d (is (fun z=>by cases z) h),fun j d h=>f.lk j d (is (fun z=>by cases z) h),fun j k d e a h1 h2=>f.dj j k d e a (is (fun z=>by cases z) h1) (is (fun z=>by cases z) h2),f.lh,fun j d h=>(no2 j d h).elim,fun j k d e h _=>(no2 j d h).elim⟩,no2⟩
end
def oZ:List ah->Hp->Hp
 |[],H=>H
 |a::as,H=>oZ as (upd H a (.lst []))
section
theorem wf:∀ (as:List ah) (H:Hp),(∀ a∈as,H a=none)->as.Nodup->cz H (oZ as H)
 |[],H,_,_=>.refl H
 |a::as,H,h,nd=>by
  obtain ⟨n1,n2⟩:=List.nodup_cons.mp nd;refine (kW (h a al)).trans (wf as _ (fun b hb=>?_) n2);rw [bh (fun (z:b=a)=>n1 (z ▸ hb))];exact h b (ai _ hb)
theorem AW:∀ (as:List ah) (H:Hp),as.Nodup->∀ a∈as,oZ as H a=some (.lst [])
 |a::as,H,nd,b,hb=>by
  obtain ⟨n1,n2⟩:=List.nodup_cons.mp nd;show oZ as (upd H a (.lst [])) b=_;by_cases hm:b∈as
  ·exact AW as _ n2 b hm
  ·have e:b=a:=(List.mem_cons.mp hb).resolve_right hm;subst e;have:∀ (as:List ah) (H:Hp),b∉as->oZ as H b=H b:=by
    intro as;induction as with
    |nil=>intro H _;rfl
    |cons c as ih =>
     intro H h;show oZ as (upd H c (.lst [])) b=_;rw [ih _ (fun z=>h (ai _ z)),bh (fun (z:b=c)=>h (by rw [z];exact al))]
   rw [this as _ hm,bi]
theorem k_:∀ (as:List ah) (H:Hp) (b:ah),oZ as H b=none->H b=none/\b∉as
 |[],H,b,h=>⟨h,by simp⟩
 |a::as,H,b,h=>by
  obtain ⟨h1,h2⟩:=k_ as (upd H a (.lst [])) b h;by_cases hb:b=a
  ·subst hb;rw [bi] at h1;cases h1
  ·rw [bh hb] at h1;exact ⟨h1,fun z=>(List.mem_cons.mp z).elim hb h2⟩
def LW (i:Nat):ay->R Fl:=fun ρ=>.ok (.nx ((clear2 ρ).set i (.ow2 [[],[],[],[]])))
theorem OO (i:Nat)  (hN:c.X.N.Nodup) (hi:c.X.N[i]?=some x:=by rfl) (hx:KC c.X.env.scope x:=by first|exact fV rfl|exact dD rfl)
  (hs:fE (.List [.List [] p1,.List [] p2,.List [] p3,.List [] p4] p) (some (.Name x pos')) spos.line c.X.env=pure false:=by rfl)
  (hf:c.X.fn x=true\/c.X.env.scope.names.lookup x=some .local:=by first|exact .inl rfl|exact .inr rfl|assumption)
  (h1:aE [.List [] p1,.List [] p2,.List [] p3,.List [] p4] c.X.env=(false,cj (.List [] p1) c.X.env)::aE [.List [] p2,.List [] p3,.List [] p4] c.X.env:=by rfl)
  (h2:aE [.List [] p2,.List [] p3,.List [] p4] c.X.env=(false,cj (.List [] p2) c.X.env)::aE [.List [] p3,.List [] p4] c.X.env:=by rfl)
  (h3:aE [.List [] p3,.List [] p4] c.X.env=(false,cj (.List [] p3) c.X.env)::aE [.List [] p4] c.X.env:=by rfl)
  (h4:aE [.List [] p4] c.X.env=(false,cj (.List [] p4) c.X.env)::aE [] c.X.env:=by rfl) :
  JS c (.Assign [.Name x pos'] (.List [.List [] p1,.List [] p2,.List [] p3,.List [] p4] p) spos) (LW i):=.of fun ρ=>by
 refine xw (Ct hN hi hx (qP (fY (qP iR) (fY (qP iR) (fY (qP iR) (fY (qP iR) iR h4) h3) h2) h1)) hs hf) fun D σ H h_0=>?_;obtain ⟨H0,Hs0,la,Hs,f,q⟩:=h_0;replace q:mQ c.X.K c.cls c.E H0 Hs0 la D (LW i ρ):=q;obtain ⟨f,no2⟩:=f.clear2;refine ⟨ck _,fun a1 n1=>⟨ck _,fun a2 n2=>⟨ck _,fun a3 n3=>⟨ck _,fun a4 n4=>⟨bH (dz (show 4<=1000 by decide)),fun a n=>?_⟩⟩⟩⟩⟩;have N:=k_ [a1,a2,a3,a4] H a n;have N4:=k_ [a1,a2,a3] H a4 n4;have N3:=k_ [a1,a2] H a3 n3;have N2:=k_ [a1] H a2 n2;simp only [aJ,aM,or_false,not_or] at N N4 N3 N2;have nd:[a1,a2,a3,a4].Nodup:=by
  simp only [dq,aJ,aM,or_false,not_or,ft,and_true,not_false_eq_true];exact ⟨⟨cR N2.2,cR N3.2.1,cR N4.2.1⟩,⟨cR N3.2.2,cR N4.2.2.1⟩,cR N4.2.2.2⟩
 have free:∀ b∈[a1,a2,a3,a4],H b=none:=fun b hb=>by
  simp only [aJ,aM,or_false] at hb;rcases hb with rfl|rfl|rfl|rfl
  ·exact n1
  ·exact N2.1
  ·exact N3.1
  ·exact N4.1
 have nd5:(a::[a1,a2,a3,a4]).Nodup:=List.nodup_cons.mpr ⟨by simp only [aJ,aM,or_false,not_or];exact N.2,nd⟩;have sm:cz H (oZ [a1,a2,a3,a4] H):=wf _ _ free nd;have all:cz H (upd (oZ [a1,a2,a3,a4] H) a (.lst [.ref a1,.ref a2,.ref a3,.ref a4])):=sm.trans (kW n);have free5:∀ b∈a::[a1,a2,a3,a4],H b=none:=fun b hb=>(List.mem_cons.mp hb).elim (fun z=>z ▸ N.1) (free b);have st:c8 H Hs (upd (oZ [a1,a2,a3,a4] H) a (.lst [.ref a1,.ref a2,.ref a3,.ref a4])) Hs:=⟨all,.refl _,f.st.sub.trans all,fun _ _ _ _ z=>z⟩;have f':=f.step st;have hl:i<σ.length\/¬ i<σ.length:=Decidable.em _;have nx:∀ {j:Nat}{s:Sl},(∀ d,s≠.ow2 d)->((clear2 ρ).set i (.ow2 [[],[],[],[]]))[j]?=some s->(clear2 ρ)[j]?=some s/\i≠j:=fun {j s} hs e=>by
  by_cases hj:i=j
  ·subst hj;by_cases hi:i<(clear2 ρ).length
   ·rw [aG hi] at e;exact absurd (bE e).symm (hs _)
   ·rw [ca (by simpa using hi)] at e;cases e
  ·rw [aj hj] at e;exact ⟨e,hj⟩
 refine q _ _ Hs ⟨f'.st,by simp [f'.len],fun j d h=>?_,fun j d h=>?_,fun j d h=>?_,fun j k d d' b h1 h2 h3 h4=>?_,f'.lh,fun j d h=>?_,fun j k d d' h1 h2=>?_⟩
 ·obtain ⟨h,hj⟩:=nx (fun _ z=>by cases z) h;rw [aj hj];exact f'.sh j d h
 ·obtain ⟨h,hj⟩:=nx (fun _ z=>by cases z) h;rw [aj hj];exact f'.ow j d h
 ·obtain ⟨h,hj⟩:=nx (fun _ z=>by cases z) h;rw [aj hj];exact f'.lk j d h
 ·obtain ⟨h1,hj⟩:=nx (fun _ z=>by cases z) h1;obtain ⟨h2,hk⟩:=nx (fun _ z=>by cases z) h2;rw [aj hj] at h3;rw [aj hk] at h4;exact f'.dj j k d d' b h1 h2 h3 h4
 ·by_cases hj:i=j
  ·subst hj;by_cases hi:i<(clear2 ρ).length
   ·rw [aG hi] at h;cases h;have at4:=AW [a1,a2,a3,a4] H nd;have ne:∀ b∈[a1,a2,a3,a4],b≠a:=fun b hb z=>(List.nodup_cons.mp nd5).1 (z ▸ hb);have go:∀ b∈[a1,a2,a3,a4],upd (oZ [a1,a2,a3,a4] H) a (.lst [.ref a1,.ref a2,.ref a3,.ref a4]) b=some (.lst []):=fun b hb=>by rw [bh (ne b hb)];exact at4 b hb
    refine ⟨a,[a1,a2,a3,a4],aG (by rw [<- f'.len];exact hi),bi,nd5,fun b hb=>⟨f.st.sub.free (free5 b hb),f.st.all.free (free5 b hb)⟩,fun b hb k e hk=>?_,.cons (go _ (by simp)) .nil (.cons (go _ (by simp)) .nil (.cons (go _ (by simp)) .nil (.cons (go _ (by simp)) .nil .nil)))⟩;obtain ⟨hk,nk⟩:=nx (fun _ z=>by cases z) hk;rw [aj nk];intro z;obtain ⟨b',o,k1,k2,_⟩:=f.ow k e hk;rw [z] at k1;cases k1;rw [free5 b hb] at k2;cases k2
   ·rw [ca (by simpa using hi)] at h;cases h
  ·rw [aj hj] at h;exact (no2 j d h).elim
 ·by_cases hj:i=j
  ·by_cases hk:i=k
   ·exact hj.symm.trans hk
   ·rw [aj hk] at h2;exact (no2 k d' h2).elim
  ·rw [aj hj] at h1;exact (no2 j d h1).elim
theorem IJ  (h:JS c st gs):JS c st (fun ρ=>gs (d_ ρ)):=.of fun ρ=>xw (h (d_ ρ)) fun D σ H h_1=>by
 obtain ⟨H0,Hs0,la,Hs,f,q⟩:=h_1;obtain ⟨Hs',f'⟩:=f.shared;exact ⟨H0,Hs0,la,Hs',f',q⟩
def shareAt (i:Nat) (ρ:ay):ay:=match ρ[i]? with
 |some (Sl.own d)=>ρ.set i (.shr d)
 |_=>ρ
theorem Fr.shareAt     (f:Fr K H0 Hs0 la ρ σ H Hs) (i:Nat):∃ Hs',Fr K H0 Hs0 la (J.shareAt i ρ) σ H Hs':=by
 unfold J.shareAt;split
 ·rename_i d ho
  obtain ⟨a,o,k1,k2,k3,k4,k5⟩:=f.ow i d ho;have hil:i<ρ.length:=(List.getElem?_eq_some_iff.mp ho).1;have up:cz Hs (upd Hs a o):=kW k3;have nx:∀ {j:Nat}{s:Sl},(∀ d,s≠.shr d)->(ρ.set i (.shr d))[j]?=some s->ρ[j]?=some s/\i≠j:=fun {j s} hs e=>by
   by_cases hj:i=j
   ·subst hj;rw [aG hil] at e;exact absurd (bE e).symm (hs d)
   ·rw [aj hj] at e;exact ⟨e,hj⟩
  have ne:∀ (j:Nat) (e:D) (b:ah),i≠j->ρ[j]?=some (Sl.own e)->σ[j]?=some (some (V.ref b))->b≠a:=fun j e b hj h hb z=>by
   subst z;exact hj (f.dj i j d e b ho h k1 hb)
  refine ⟨upd Hs a o,⟨f.st.all,f.st.sh.trans up,fun b u e=>?_,fun b u e t z=>?_⟩,by simp [f.len],fun j e h=>?_,fun j e h=>?_,fun j e h=>?_,fun j k d1 d2 b h1 h2 h3 h4=>?_,f.lh,fun j e h=>?_,fun j k d1 d2 h1 h2=>?_⟩
  ·by_cases hb:b=a
   ·subst hb;rw [bi] at e;cases e;exact k2
   ·rw [bh hb] at e;exact f.st.sub b u e
  ·rw [bh (bO e k4)];exact f.st.out b u e t z
  ·by_cases hj:i=j
   ·subst hj;rw [aG hil] at h;cases h;exact ⟨_,k1,k5.share k3⟩
   ·rw [aj hj] at h;obtain ⟨v,q1,q2⟩:=f.sh j e h;exact ⟨v,q1,q2.same up⟩
  ·obtain ⟨h,hj⟩:=nx (fun _ z=>by cases z) h;obtain ⟨b,u,q1,q2,q3,q4,q5⟩:=f.ow j e h;exact ⟨b,u,q1,q2,by rw [bh (ne j e b hj h q1)];exact q3,q4,q5.same up⟩
  ·obtain ⟨h,hj⟩:=nx (fun _ z=>by cases z) h;obtain ⟨b,u,q1,q2,q3,q4,q5,q6⟩:=f.lk j e h;exact ⟨b,u,q1,q2,q3,by rw [bh (bO q5 k4)];exact q4,q5,q6.same up⟩
  ·exact f.dj j k d1 d2 b (nx (fun _ z=>by cases z) h1).1 (nx (fun _ z=>by cases z) h2).1 h3 h4
  ·obtain ⟨h,hj⟩:=nx (fun _ z=>by cases z) h;obtain ⟨b,as,O⟩:=f.o2 j e h;refine ⟨b,as,O.at_,O.ob,O.nd,fun c hc=>⟨?_,(O.out c hc).2⟩,fun c hc k e' hk=>O.dj c hc k e' (nx (fun _ z=>by cases z) hk).1,O.inn.step (.refl _) up⟩;rw [bh (fun z=>O.dj c hc i d ho (by rw [z];exact k1))];exact (O.out c hc).1
  ·exact f.u2 j k d1 d2 (nx (fun _ z=>by cases z) h1).1 (nx (fun _ z=>by cases z) h2).1
 ·exact ⟨Hs,f⟩
theorem D3 (i:Nat)  (h:JS c st gs):JS c st (fun ρ=>gs (shareAt i ρ)):=.of fun ρ=>xw (h (shareAt i ρ)) fun D σ H h_2=>by
 obtain ⟨H0,Hs0,la,Hs,f,q⟩:=h_2;obtain ⟨Hs',f'⟩:=f.shareAt i;exact ⟨H0,Hs0,la,Hs',f',q⟩
theorem y7.get    (h:y7 K H Hs as dss):∀ {j:Nat}{ds:List D},dss[j]?=some ds->∃ b vs,as[j]?=some b/\H b=some (.lst vs)/\RDs K Hs vs ds:=by
 induction h with
 |nil=>intro j ds e;cases e
 |cons h r t ih =>
  intro j ds e;cases j with
  |zero=>cases e;exact ⟨_,_,rfl,h,r⟩
  |succ j=>have q:=ih (j:=j) e;exact q
theorem y7.set    (r':RDs K Hs vs' ds'):∀ {as:List ah}{dss:List (List D)}{j:Nat}{b:ah},y7 K H Hs as dss->as[j]?=some b->as.Nodup->y7 K (L2.upd H b (.lst vs')) Hs as (dss.set j ds')
 |_,_,_,_,.nil,h,_=>by simp at h
 |_,_,0,b,.cons h r t,e,nd=>by
  simp at e;subst e;exact .cons bi r' (t.upd (List.nodup_cons.mp nd).1)
 |_,_,j+1,b,.cons (a:=a) h r t,e,nd=>by
  have e':_:=e;simp only [ji] at e';obtain ⟨n1,n2⟩:=List.nodup_cons.mp nd;have hb:b∈_:=dC e';exact .cons (by rw [bh (fun z=>n1 (by rw [z];exact hb))];exact h) r (y7.set r' t e' n2)
def mS (i:Nat) (gi g:ay->R D):ay->R Fl:=fun ρ=>match ρ[i]? with
 |some (Sl.ow2 dss)=>(gi ρ).bind fun k=>match k with
  |.int j=>if 0<=j then (match dss[j.toNat]? with
   |some ds=>(g ρ).bind fun d=>if ds.length<1000 then .ok (.nx (ρ.set i (.ow2 (dss.set j.toNat (ds++[d]))))) else .no
   |none=>.no) else .no
  |_=>.no
 |_=>.no
theorem wg (i:Nat) (hie:JE c ie gi) (h:JE c e g) (hN:c.X.N[i]?=some x:=by rfl) (hv:GK c.X.env.scope x:=by first|exact fV rfl|exact dD (fV rfl)|exact dD (dD rfl)) (hd:(x==("__debug__" : Str))=false:=by decide)
  (hcd:(x==("__classdict__" : Str))=false:=by decide) (hpx:vd ie:=by exact fun _ _=>rfl)
  (hbase:lr (.Subscript (.Name x p) ie p3) "append" c.X.env (cj (.Subscript (.Name x p) ie p3) c.X.env)=cj (.Subscript (.Name x p) ie p3) c.X.env:=by rfl)
  (hfew:((gE cpos (aE [e] c.X.env)).all (fun x=>!x.1)&&(KN cpos (A8 [] c.X.env)).all (fun x=>x.1.isSome)
   && decide ([e].length+([] : List qJ).length+(if ([] : List qJ).isEmpty then 0 else 1)<30))=true:=by rfl)
  (hline:(apos.endLine==cpos.line)=true:=by rfl) (hst:aE [e] c.X.env=(false,cj e c.X.env)::aE [] c.X.env:=by rfl) (hplain:(gE cpos (aE [] c.X.env)).any (·.1)=false:=by rfl)
  (hs:fE (.Call (.Attribute (.Subscript (.Name x p) ie p3) "append" apos) [e] [] cpos) none pos.line c.X.env=pure false:=by rfl) :
  JS c (.Expr (.Call (.Attribute (.Subscript (.Name x p) ie p3) "append" apos) [e] [] cpos) pos) (mS i gi g):=.of fun ρ=>by
 refine xw (vc (HE mH xj xk xV (MF yW (nu hN hv hd hcd) (hie ρ) hpx) (fY (h ρ) iR hst) hbase hfew hline hst hplain) hs) fun D σ H h_3=>?_;obtain ⟨H0,Hs0,la,Hs,f,q⟩:=h_3;replace q:mQ c.X.K c.cls c.E H0 Hs0 la D (mS i gi g ρ):=q;unfold mS at q;split at q
 ·rename_i dss ho
  obtain ⟨a,as,O⟩:=f.o2 i dss ho;refine ⟨_,O.at_,?_⟩;refine sE f q fun k v H1 Hs1 e1 s1 f1 r1=>?_;rw [e1,bind_ok] at q;cases r1 with
  |int j =>
   simp only at q;by_cases hj:0<=j
   ·rw [if_pos hj] at q;split at q
    ·rename_i ds hds
     obtain ⟨b,vs,hb,hH,rv⟩:=O.inn.get hds;have hix:C9 (as.map V.ref) j=some (.ref b):=by
      have:=pI (xs:=as.map V.ref) (j:=j.toNat) (v:=V.ref b) (by rw [aW,hb];rfl)
      rwa [dW hj] at this
     refine ⟨a,_,j,_,rfl,rfl,.of (s1.all _ _ O.ob),hix,.inl ⟨rfl,_,.of (s1.all _ _ hH)⟩,?_⟩;refine sE f1 q fun d w H2 Hs2 e2 s2 f2 r2=>?_;rw [e2,bind_ok] at q;by_cases hl:ds.length<1000
     ·rw [if_pos hl] at q;have st:=s1.trans s2;refine ⟨b,vs,w,rfl,rfl,st.all _ _ hH,dz (by rw [rv.length];omega),?_⟩;have hil:i<ρ.length:=(List.getElem?_eq_some_iff.mp ho).1;obtain ⟨a',as',O2'⟩:=f2.o2 i dss ho;have ea:a'=a:=by
       have:=O2'.at_;rw [O.at_] at this;cases this;rfl
      subst ea;have eas:as'=as:=by
       have h1:=O2'.ob;rw [st.all _ _ O.ob] at h1;injection h1 with h1;injection h1 with h1;exact (GG (fun x y z=>by cases z;rfl) |>.mp h1).symm
      subst eas;have hbm:b∈a'::as':=ai _ (dC hb);have nb:b≠a':=fun z=>(List.nodup_cons.mp O.nd).1 (z ▸ dC hb);obtain ⟨bs,b0⟩:=O2'.out b hbm;have nx:∀ {j':Nat}{s:Sl},(∀ d,s≠.ow2 d)->(ρ.set i (.ow2 (dss.set j.toNat (ds++[d]))))[j']?=some s->ρ[j']?=some s/\i≠j':=fun {j' s} hs e=>by
       by_cases hj:i=j'
       ·subst hj;rw [aG hil] at e;exact absurd (bE e).symm (hs _)
       ·rw [aj hj] at e;exact ⟨e,hj⟩
      refine q _ _ Hs2 ⟨⟨fun c u e=>?_,f2.st.sh,fun c u e=>?_,f2.st.out⟩,by simp [f2.len],fun j' d' h=>f2.sh j' d' (nx (fun _ z=>by cases z) h).1,fun j' d' h=>?_,fun j' d' h=>?_,fun j' k' d' e' a h1 h2=>f2.dj j' k' d' e' a (nx (fun _ z=>by cases z) h1).1 (nx (fun _ z=>by cases z) h2).1,f2.lh,fun j' d' h=>?_,fun j' k' d' e' h1 h2=>?_⟩
      ·rw [bh (bO e b0)];exact f2.st.all c u e
      ·rw [bh (bO e bs)];exact f2.st.sub c u e
      ·obtain ⟨h,_⟩:=nx (fun _ z=>by cases z) h;obtain ⟨c',u,k1,k2,k3,k4,k5⟩:=f2.ow j' d' h;refine ⟨c',u,k1,?_,k3,k4,k5⟩;rw [bh (fun z=>O2'.dj b hbm j' d' h (by rw [<- z];exact k1))];exact k2
      ·obtain ⟨h,_⟩:=nx (fun _ z=>by cases z) h;obtain ⟨c',u,k1,k2,k3,k4,k5,k6⟩:=f2.lk j' d' h;refine ⟨c',u,k1,k2,?_,k4,k5,k6⟩;rw [bh (bO k5 b0)];exact k3
      ·by_cases hj':i=j'
       ·subst hj';rw [aG hil] at h;cases h;refine ⟨a',as',O2'.at_,by rw [bh (cR nb)];exact O2'.ob,O2'.nd,O2'.out,fun c hc k e' hk=>O2'.dj c hc k e' (nx (fun _ z=>by cases z) hk).1,?_⟩;exact y7.set ((rv.same st.sh).append (.cons r2 .nil)) O2'.inn hb (List.nodup_cons.mp O2'.nd).2
       ·rw [aj hj'] at h;exact (hj' (f2.u2 i j' _ _ ho h)).elim
      ·by_cases hj':i=j'
       ·by_cases hk':i=k'
        ·exact hj'.symm.trans hk'
        ·rw [aj hk'] at h2;exact (hk' (f2.u2 i k' _ _ ho h2)).elim
       ·rw [aj hj'] at h1;exact (hj' (f2.u2 i j' _ _ ho h1)).elim
     ·rw [if_neg hl] at q;exact q.elim
    ·exact q.elim
   ·rw [if_neg hj] at q;exact q.elim
  |none=>exact q.elim
  |bool _=>exact q.elim
  |str _=>exact q.elim
  |list _ _=>exact q.elim
  |tuple _ _=>exact q.elim
  |dictK _ _=>exact q.elim
  |dictT _ _ _=>exact q.elim
  |dictF _ _ _=>exact q.elim
 ·exact q.elim
end
end
section
open PyProof.Rows (OwnCls)
theorem LX (l:ah) (items:Array a9) (n:Nat) (b:ah) (dd:Option ah) (items2:Array a9) (n2:Nat) (sl:Array (Option a9)) (door:¬(!items.isEmpty&&kG (items.size+items2.size))=true) (z1:items.size<=sizeLine) (z2:items.size+items2.size<=sizeLine+1) :
  Meets (ii.«list.extend» ⟨[.ref l,.ref b],[]⟩) (fun _ R s=>s.heap.get? l=some { cls:=.type "list",data:=.seq items n }/\s.heap.get? b=some { cls:=.type "list",dict:=dd,data:=.seq items2 n2,slots:=sl } /\
   R (.ok (.ret eM)) { s with heap:=s.heap.update l (fv fun xs=>xs++items2),toks:=s.toks }) :=
 .of_wp fun prog w A R s h=>by
  obtain ⟨hp,gg,dr,tk,os⟩:=s;obtain ⟨hl,hb,h⟩:=h;have f1:=AutoSeq1.idx_int;have f2:=AutoSeq1.sub_tuple_tuple;have f3:=AutoSeq1.sub_list_list;have f4:=AutoSeq1.sub_tuple_list;have f5:=AutoSeq1.sub_list_tuple;have oj:(items++items2).size<=sizeLine+1:=by rw [GH];exact z2
  wp_walk using (Ai hl rfl (hz:=z1) (_hz':=oj)),wpAny_loadPart' hl,wpAny_loadPart' hb;exact ⟨_,rfl,h⟩
section
inductive N1 (K:a8) (x:V) (vs:List V) (H:Hp) (Q:VK):Prop
 |mk (l b xs zs:_) (h0:x=.ref l) (h1:vs=[.ref b]) (h2:H l=some (.lst xs)) (h3:lz K H b zs) (h4:xs.length+zs.length<=sizeLine) (h5:Q .non (upd H l (.lst (xs++zs)))):N1 K x vs H Q
def SC (K:a8):V->List V->Hp->VK->Prop:=N1 K
theorem OP:T1 X "list.extend" (SC X.K):=by
 intro pins s σ H x vs v us Q I rx rv h;obtain ⟨l,b,xs,zs,rfl,rfl,hH,hB,hz,q⟩:=h;cases rx;obtain ⟨u,rfl,ru⟩:=rv.one;cases ru;obtain ⟨z,its,n,r,hl,e⟩:=I.lstM hH;obtain ⟨its2,r2,⟨⟨m1,m2,m3,m4⟩,n2,e2,d1,d2,d3⟩,z2⟩:=I.list hB;simp only at d1 d2 d3;subst d1 d2 d3;have len2:=r2.length;have fit:its.toArray.size+its2.toArray.size<=sizeLine:=by rw [aH,aH];omega
 refine call_meets F.slot_list_extend ⟨_,e,rfl⟩ F.entry_list_extend (F.args_list_extend_2 _ _) (LX l its.toArray n b _ its2.toArray n2 m4 ?_ (by omega) (by omega)) ⟨e,e2,?_⟩
 ·rw [HF fit,Bool.and_false];exact bj
 ·refine ⟨.non,_,I.lset (its':=its++its2) hH e (by simp) (r.append r2) ?_,rfl,q⟩;rw [aB];omega
end
section
def u7 (i:Nat) (g:ay->R D):ay->R Fl:=fun ρ=>match ρ[i]? with
 |some (Sl.own (.list ds))=>(g ρ).bind fun d=>match d with
  |.list es=>if ds.length+es.length<=1000 then .ok (.nx (ρ.set i (.own (.list (ds++es))))) else .no
  |_=>.no
 |_=>.no
theorem yf (i:Nat) (h:JE c e g) (hN:c.X.N[i]?=some x:=by rfl) (hv:GK c.X.env.scope x:=by first|exact fV rfl|exact dD (fV rfl)|exact dD (dD rfl)) (hd:(x==("__debug__" : Str))=false:=by decide)
  (hcd:(x==("__classdict__" : Str))=false:=by decide)
  (hbase:lr (.Name x p) "extend" c.X.env (cj (.Name x p) c.X.env)=cj (.Name x p) c.X.env:=by rfl)
  (hfew:((gE cpos (aE [e] c.X.env)).all (fun x=>!x.1)&&(KN cpos (A8 [] c.X.env)).all (fun x=>x.1.isSome)
   && decide ([e].length+([] : List qJ).length+(if ([] : List qJ).isEmpty then 0 else 1)<30))=true:=by rfl)
  (hline:(apos.endLine==cpos.line)=true:=by rfl) (hst:aE [e] c.X.env=(false,cj e c.X.env)::aE [] c.X.env:=by rfl) (hplain:(gE cpos (aE [] c.X.env)).any (·.1)=false:=by rfl)
  (hs:fE (.Call (.Attribute (.Name x p) "extend" apos) [e] [] cpos) none pos.line c.X.env=pure false:=by rfl) :
  JS c (.Expr (.Call (.Attribute (.Name x p) "extend" apos) [e] [] cpos) pos) (u7 i g):=.of fun ρ=>by
 refine xw (vc (HE mH PySem.F.slot_list_extend PySem.F.type_list_extend OP (nu hN hv hd hcd) (fY (h ρ) iR hst) hbase hfew hline hst hplain) hs) fun D σ H h_0=>?_;obtain ⟨H0,Hs0,la,Hs,f,q⟩:=h_0;replace q:mQ c.X.K c.cls c.E H0 Hs0 la D (u7 i g ρ):=q;unfold u7 at q;split at q
 ·rename_i ds ho
  obtain ⟨a,o,k1,k2,k3,k4,k5⟩:=f.ow i _ ho;cases k5 with
  | @lst vs _ r =>
   refine ⟨_,k1,.inl ⟨rfl,_,.of k2⟩,?_⟩;refine sE f q fun d v H1 Hs1 e1 s1 f1 r1=>?_;rw [e1,bind_ok] at q;cases r1 with
   | @list b zs es sq rs =>
    simp only at q;by_cases hl:ds.length+es.length<=1000
    ·rw [if_pos hl] at q;have r':=r.same s1.sh;exact ⟨a,b,vs,zs,rfl,rfl,s1.all _ _ k2,f1.st.sub.seq sq,bH (dz (by rw [r.length,rs.length];exact hl)),q _ _ Hs1 (f1.write i ho k1 (.lst (r'.append rs)))⟩
    ·rw [if_neg hl] at q;exact q.elim
   |none=>exact q.elim
   |bool _=>exact q.elim
   |int _=>exact q.elim
   |str _=>exact q.elim
   |tuple _ _=>exact q.elim
   |dictK _ _=>exact q.elim
   |dictT _ _ _=>exact q.elim
   |dictF _ _ _=>exact q.elim
 ·exact q.elim
end
section
end
end
section
structure Bi (mg:Str->Option a9):Prop where
 len:mg "len"=none
 isinstance:mg "isinstance"=none
 all:mg "all"=none
 any:mg "any"=none
 zip:mg "zip"=none
 tuple:mg "tuple"=none
 list:mg "list"=none
 sorted:mg "sorted"=none
 set:mg "set"=none
 range:mg "range"=none
 enumerate:mg "enumerate"=none
 dict:mg "dict"=none
 sum:mg "sum"=none
 max:mg "max"=none
 min:mg "min"=none
 reversed:mg "reversed"=none
 str:mg "str"=none
 int:mg "int"=none
 bool:mg "bool"=none
end
section
section
end
end
end J
section
namespace J
open PySem L2
section
end
end J
namespace L2
open PySem
end L2
end
namespace J
open PySem L2
section
open PyProof.Rows (OwnCls)
abbrev LY:List a9:=[.type "ValueError",.type "Exception",.type "BaseException",.type "object"]
structure TopC (K:a8) (x:Str) (C:ah):Prop where
 ns:gI K bK x=some (some (.ref C))
 ex:PySem.W.excIn K C LY "ValueError.__new__"=true
 mb:gR K C (.type "BaseException")=some true
inductive QE (K:a8) (F:List D->R D) (vs:List V) (H:Hp) (Q:VK) (z_3:XK):Prop
 |mk (Hs ds d:_) (h0:cz Hs H) (h1:ds.length=1) (h2:RDs K Hs vs ds) (h3:F ds=.ok d) (h4:∀ v H' Hs',c8 H Hs H' Hs'->RD K Hs' v d->Q v H'):QE K F vs H Q z_3
def QF (K:a8) (F:List D->R D):Sp:=QE K F
theorem OQ   : ∀ vs H Q E,QF K F vs H Q E->LP K cls 1 F vs H Q E:=fun vs H Q E ⟨Hs,ds,d,s,l,r,e,q⟩=>⟨Hs,ds,s,l,r,by rw [e];exact q⟩
def QG (l:List (Str×ah)):Str->ah:=fun x=>(l.lookup x).getD 0
theorem OR {K:a8}{F:List D->R D}{H:Hp}{a:ah}{ns:List Int} (hF:F [.list (ns.map .int)]=.ok (.bool true)) (h:lz K H a (ns.map V.int)):QF K F [.ref a] H (fun v _=>v=.bl true) fun _ _ _=>False:=by
 have ri:∀ ns:List Int,RDs K H (ns.map V.int) (ns.map .int):=fun ns=>by
  induction ns with
  |nil=>exact .nil
  |cons x r ih=>exact .cons (.int x) ih
 refine ⟨H,[.list (ns.map .int)],.bool true,.refl H,rfl,.cons (.list h (ri ns)) .nil,hF,?_⟩;intro v H' Hs' _ r;cases r;rfl
theorem OS      (h:w_ P w [] H s (fun _ _ _=>False) e s'):False:=by
 obtain ⟨_,_,_,_,_,_,_,_,_,q⟩:=h;exact q
theorem walkF {l:uH}{k:Nat}{q:aS}{loose:List Str}{XP:(Str->Option a9)->bu->Prop}{YP:bn->bu->Prop}{d:DefRec}{K:Params->a8}{x:Str}{F0:List D->R D}
  (hn:l.most=some 63) (hdf:d.params.defaults=[]) (hr:jT k ul) (hY:∀ (w:bn) (h:bu),YP w h->(K w.params).In h)
  (F:∀ (w:bn) (mg:Str->Option a9) (fa:ah) (h:bu),(K w.params).In h->h.Ns bK mg->mg d.name=some (.ref fa) ->
   ∃ fd:eQ,(∀ (s:ae) (u:a9),xb s fd ⟨[u],[]⟩ [(x,u)])/\∀ base:bu,(K w.params).In base->base.Ns bK mg->qi l.prog w (K w.params) mg base (w_ l.prog w) k fa fd [x] (QF (K w.params) F0))
  (hF:∀ ns:List Int,ns.length<=63->F0 [.list (ns.map .int)]=.ok (.bool true)) :
  Kx q loose XP YP l.row.toRowW d [] (fun f vs=>F3 f vs) :=
 L2.Lw (n:=63) (k:=k) (x:=x) (CX:=fun w=>w_ l.prog w) (sp:=fun w=>QF (K w.params) F0) hn (by decide) hdf hr hY F (fun w H a ns hl _ hS=>OR (hF ns hl) hS) fun _ _ _ _ _ h=>OS h
def PB (i:Nat) (g:ay->R Fl):ay->R Fl:=fun ρ=>g (shareAt i ρ)
theorem D4 (i:Nat)  (h:JS c st gs):JS c st (PB i gs):=D3 i h
end
section
section
theorem zC {α β:Type} (a:α) (f:α->R β):(R.ok a).bind f=f a:=id rfl
def LZ (h:ay->R Fl):Fl->R Fl:=fun fl=>match fl with
 |.nx ρ'=>h ρ'
 |fl=>.ok fl
theorem AX (g h:ay->R Fl):aZ g h (s::ρ)=(g (s::ρ)).bind (LZ h):=id rfl
theorem sJ (h:ay->R Fl) (ρ:ay):LZ h (.nx ρ)=h ρ:=id rfl
theorem AY (h:ay->R Fl) (d:D):LZ h (.rt d)=.ok (.rt d):=id rfl
def SD (g h:ay->R Fl) (ρ:ay):Bool->R Fl:=fun b=>bif b then g ρ else h ρ
theorem QH (t:ay->R Bool) (g h:ay->R Fl):gz t g h (s::ρ)=(t (s::ρ)).bind (SD g h (s::ρ)):=by
 show (t (s::ρ)).bind _=_;congr 1;funext b;cases b<;>rfl
theorem IK (g h:ay->R Fl) (ρ:ay):SD g h ρ false=h ρ:=id rfl
theorem IL (g h:ay->R Fl) (ρ:ay) (b:Bool):SD g h ρ b=bif b then g ρ else h ρ:=id rfl
def Tj:D->R Fl:=fun d=>.ok (.rt d)
theorem N5 (g:ay->R D):gf g (s::ρ)=(g (d_ (s::ρ))).bind Tj:=id rfl
theorem QI (d:D):Tj d=.ok (.rt d):=id rfl
def wj:Sl->Sl
 |.own d=>.shr d
 |.ow2 dss=>.shr (.list (dss.map .list))
 |s=>s
theorem E4:d_ (s::ρ)=wj s::d_ ρ:=by cases s<;>rfl
theorem AZ:d_ []=[]:=id rfl
theorem E5:wj .no=.no:=id rfl
theorem A_ (d:D):wj (.shr d)=.shr d:=id rfl
theorem B0 (d:D):wj (.own d)=.shr d:=id rfl
theorem B4 (d:List (List D)):wj (.ow2 d)=.shr (.list (d.map .list)):=id rfl
def QJ (i:Nat) (ρ:ay):D->R Fl:=fun d=>.ok (.nx (ρ.set i (.shr d)))
theorem IM (i:Nat) (g:ay->R D):iF i g (s::ρ)=(g (s::ρ)).bind (QJ i (s::ρ)):=id rfl
theorem IN (i:Nat) (ρ:ay) (d:D):QJ i ρ d=.ok (.nx (ρ.set i (.shr d))):=id rfl
def N6 (i:Nat) (ρ:ay):D->R Fl:=fun d=>.ok (.nx (ρ.set i (.own d)))
theorem IP (i:Nat) (g:ay->R D):gj i g (s::ρ)=(g (s::ρ)).bind (N6 i (s::ρ)):=id rfl
theorem E6 (i:Nat) (ρ:ay) (d:D):N6 i ρ d=.ok (.nx (ρ.set i (.own d))):=id rfl
def HI (ρ:ay):D->R Fl:=fun _=>.ok (.nx ρ)
theorem IQ (g:ay->R D):vX g (s::ρ)=(g (s::ρ)).bind (J.HI (s::ρ)):=id rfl
theorem E7 (ρ:ay) (d:D):J.HI ρ d=.ok (.nx ρ):=id rfl
def Tl (gb:ay->R D) (h:D->D->R D) (ρ:ay):D->R D:=fun x=>(gb ρ).bind (h x)
theorem QK (ga gb:ay->R D) (h:D->D->R D):g2 ga gb h (s::ρ)=(ga (s::ρ)).bind (Tl gb h (s::ρ)):=id rfl
theorem N7 (gb:ay->R D) (h:D->D->R D) (ρ:ay) (x:D):Tl gb h ρ x=(gb ρ).bind (h x):=id rfl
def L_:D->R Bool:=fun d=>match d with
 |.bool b=>.ok b
 |_=>.no
theorem N8 (g:ay->R D):i7 g (s::ρ)=(g (s::ρ)).bind L_:=id rfl
theorem IR (b:Bool):L_ (.bool b)=.ok b:=id rfl
def QL:Bool->R Bool:=fun b=>.ok (!b)
theorem N9 (g:ay->R Bool):oh g (s::ρ)=(g (s::ρ)).bind QL:=id rfl
theorem IS (b:Bool):QL b=.ok (!b):=id rfl
def QM (h:ay->R Bool) (ρ:ay):Bool->R Bool:=fun b=>bif b then h ρ else .ok false
def Tn (h:ay->R Bool) (ρ:ay):Bool->R Bool:=fun b=>bif b then .ok true else h ρ
theorem Na (g h:ay->R Bool):CS g h (s::ρ)=(g (s::ρ)).bind (QM h (s::ρ)):=by
 show (g (s::ρ)).bind _=_;congr 1;funext b;cases b<;>rfl
theorem QN (g h:ay->R Bool):Im g h (s::ρ)=(g (s::ρ)).bind (Tn h (s::ρ)):=by
 show (g (s::ρ)).bind _=_;congr 1;funext b;cases b<;>rfl
theorem IT (h:ay->R Bool) (ρ:ay) (b:Bool):QM h ρ b=bif b then h ρ else .ok false:=id rfl
theorem Nb (h:ay->R Bool) (ρ:ay) (b:Bool):Tn h ρ b=bif b then .ok true else h ρ:=id rfl
def Nc:Bool->R D:=fun b=>.ok (.bool (!b))
theorem IU (g:ay->R D):DW g (s::ρ)=((g (s::ρ)).bind L_).bind Nc:=id rfl
theorem E8 (b:Bool):Nc b=.ok (.bool (!b)):=id rfl
def Nd (h:ay->R D) (ρ:ay):Bool->R D:=fun b=>bif b then h ρ else .ok (.bool false)
theorem IV (g h:ay->R D):AJ g h (s::ρ)=((g (s::ρ)).bind L_).bind (Nd h (s::ρ)):=by
 show (i7 g (s::ρ)).bind _=(i7 g (s::ρ)).bind _;congr 1;funext b;cases b<;>rfl
theorem E9 (h:ay->R D) (ρ:ay) (b:Bool):Nd h ρ b=bif b then h ρ else .ok (.bool false):=id rfl
def QO (gb gc:ay->R D) (h h':D->D->R D) (ρ:ay):D->R D:=fun x=>(gb ρ).bind fun y=>(h x y).bind fun z=>match z with
 |.bool true=>(gc ρ).bind fun w=>h' y w
 |.bool false=>.ok (.bool false)
 |_=>.no
def QP (gc:ay->R D) (h h':D->D->R D) (ρ:ay) (x:D):D->R D:=fun y=>(h x y).bind fun z=>match z with
 |.bool true=>(gc ρ).bind fun w=>h' y w
 |.bool false=>.ok (.bool false)
 |_=>.no
def QQ (gc:ay->R D) (h':D->D->R D) (ρ:ay) (y:D):D->R D:=fun z=>match z with
 |.bool true=>(gc ρ).bind (h' y)
 |.bool false=>.ok (.bool false)
 |_=>.no
theorem Ea (ga gb gc:ay->R D) (h h':D->D->R D):oQ ga gb gc h h' (s::ρ)=(ga (s::ρ)).bind (QO gb gc h h' (s::ρ)):=id rfl
theorem IW (gb gc:ay->R D) (h h':D->D->R D) (ρ:ay) (x:D):QO gb gc h h' ρ x=(gb ρ).bind (QP gc h h' ρ x):=id rfl
theorem IX (gc:ay->R D) (h h':D->D->R D) (ρ:ay) (x y:D):QP gc h h' ρ x y=(h x y).bind (QQ gc h' ρ y):=id rfl
theorem IY (gc:ay->R D) (h':D->D->R D) (ρ:ay) (y:D) (b:Bool):QQ gc h' ρ y (.bool b)=bif b then (gc ρ).bind (h' y) else .ok (.bool false):=by cases b<;>rfl
def IZ (gs:ay->R (List D)) (ρ:ay):D->R (List D):=fun d=>(gs ρ).bind fun ds=>.ok (d::ds)
def I_ (d:D):List D->R (List D):=fun ds=>.ok (d::ds)
theorem J0 (g:ay->R D) (gs:ay->R (List D)):J.ag g gs (s::ρ)=(g (s::ρ)).bind (IZ gs (s::ρ)):=id rfl
theorem B5 (gs:ay->R (List D)) (ρ:ay) (d:D):IZ gs ρ d=(gs ρ).bind (I_ d):=id rfl
theorem B6 (d:D) (ds:List D):I_ d ds=.ok (d::ds):=id rfl
theorem Nf (ρ:ay):J.aV ρ=.ok []:=id rfl
def Ng (k:List D->D):List D->R D:=fun ds=>if ds.length<=1000 then .ok (k ds) else .no
theorem J4 (gs:ay->R (List D)) (k:List D->D):fR gs k (s::ρ)=(gs (s::ρ)).bind (Ng k):=id rfl
theorem Eb (k:List D->D) (ds:List D):Ng k ds=if ds.length<=1000 then .ok (k ds) else .no:=id rfl
theorem J5 (gs:ay->R (List D)) (h:List D->R D):cu gs h (s::ρ)=(gs (s::ρ)).bind h:=id rfl
def To (n:Nat) (F:List D->R D):List D->R D:=fun ds=>if ds.length=n then F ds else .no
theorem QR (n:Nat) (F:List D->R D) (gs:ay->R (List D)):iV n F gs (s::ρ)=(gs (s::ρ)).bind (To n F):=id rfl
theorem Nh (n:Nat) (F:List D->R D) (ds:List D):To n F ds=if ds.length=n then F ds else .no:=id rfl
theorem Ni (h:D->R D) (d:D):jr h [d]=h d:=id rfl
theorem J6 (d:D) (ρ:ay):CQ (.shr d::ρ) 0=.ok d:=id rfl
theorem Nj (s:Sl) (ρ:ay) (n:Nat):CQ (s::ρ) (n+1)=CQ ρ n:=by simp [CQ]
theorem J7 (d:D) (ρ:ay):AI (.shr d::ρ) 0=.ok d:=id rfl
theorem J8 (d:D) (ρ:ay):AI (.own d::ρ) 0=.ok d:=id rfl
theorem J9 (d:D) (ρ:ay):AI (.lck d::ρ) 0=.ok d:=id rfl
theorem Nk (s:Sl) (ρ:ay) (n:Nat):AI (s::ρ) (n+1)=AI ρ n:=by simp [AI]
def QS (T:String):D->R D:=fun d=>if nh d then .ok (.bool (AN T d)) else .no
theorem Nl (g:ay->R D) (T:String):xy g T (s::ρ)=(g (s::ρ)).bind (QS T):=id rfl
theorem Ja (T:String) (d:D):QS T d=if nh d then .ok (.bool (AN T d)) else .no:=id rfl
def QT (gl gh:ay->R (Option Int)) (ρ:ay):D->R D:=fun x=>(gl ρ).bind fun l=>(gh ρ).bind fun h=>FI x l h
def QU (gh:ay->R (Option Int)) (ρ:ay) (x:D):Option Int->R D:=fun l=>(gh ρ).bind fun h=>FI x l h
theorem QV (g:ay->R D) (gl gh:ay->R (Option Int)):OH g gl gh (s::ρ)=(g (s::ρ)).bind (QT gl gh (s::ρ)):=id rfl
theorem Jb (gl gh:ay->R (Option Int)) (ρ:ay) (x:D):QT gl gh ρ x=(gl ρ).bind (QU gh ρ x):=id rfl
theorem Jc (gh:ay->R (Option Int)) (ρ:ay) (x:D) (l:Option Int):QU gh ρ x l=(gh ρ).bind (FI x l):=id rfl
theorem Nm (ρ:ay):Py ρ=.ok none:=id rfl
def QW:D->R (Option Int):=fun d=>match d with
 |.int i=>.ok (some i)
 |_=>.no
theorem No (g:ay->R D):OG g (s::ρ)=(g (s::ρ)).bind QW:=id rfl
theorem Jd (i:Int):QW (.int i)=.ok (some i):=id rfl
theorem OT (g:ay->R D):jh g (s::ρ)=(g (s::ρ)).bind vY:=id rfl
theorem Je (gs:ay->R (List D)):ye gs (s::ρ)=(gs (s::ρ)).bind D0:=id rfl
theorem Np (gs:ay->R (List D)):D1 gs (s::ρ)=(gs (s::ρ)).bind RE:=id rfl
theorem Nq (gs:ay->R (List D)):LS gs (s::ρ)=(gs (s::ρ)).bind zp:=id rfl
def Nr (nt:Nat) (ix:List Nat) (gt:ay->R Bool) (ge:ay->R D) (ρ:ay):List D->R D:=fun ds=>if ds.length<=1000 then (eN (hV nt (js nt ix ρ) gt ge) ds).bind fun ys=>.ok (.list ys) else .no
def Nt:List D->R D:=fun ys=>.ok (.list ys)
theorem Jf (nt:Nat) (ix:List Nat) (gi:ay->R (List D)) (gt:ay->R Bool) (ge:ay->R D):fJ nt ix gi gt ge (s::ρ)=(gi (s::ρ)).bind (Nr nt ix gt ge (s::ρ)):=id rfl
theorem Ec (nt:Nat) (ix:List Nat) (gt:ay->R Bool) (ge:ay->R D) (ρ:ay) (ds:List D):Nr nt ix gt ge ρ ds=if ds.length<=1000 then (eN (hV nt (js nt ix ρ) gt ge) ds).bind Nt else .no:=id rfl
theorem Ed (ys:List D):Nt ys=.ok (.list ys):=id rfl
theorem B7 (gi:ay->R (List D)) (kt:D->ay->R ay) (gb:ay->R Fl) (ds:List D) (h:gi (s::ρ)=.ok ds):mR gi kt gb (s::ρ)=jb kt gb ds (s::ρ):=by unfold mR;rw [h]
def OU (k:D->ay->R ay) (ρ:ay):D->R Fl:=fun d=>match k d ρ with
 |.ok ρ'=>.ok (.nx ρ')
 |_=>.no
theorem Nu (g:ay->R D) (k:D->ay->R ay):xz g k (s::ρ)=(g (s::ρ)).bind (OU k (s::ρ)):=id rfl
theorem yg (ds:List D):vY (.list ds)=.ok ds:=id rfl
theorem yh (ds:List D):vY (.tuple ds)=.ok ds:=id rfl
theorem yi (x:Str):vY (.str x)=.ok (mf x):=id rfl
theorem Jg (ds:List D):RE [.tuple ds]=.ok (jV 0 ds):=id rfl
theorem QX (ds es:List D):zp [.tuple ds,.tuple es]=.ok (uR ds es):=id rfl
def wk (ρ:ay) (i:Nat):Sl:=KF ((ρ[i]?).getD .no)
def Jh (ix:List Nat) (ρ:ay):ay:=ix.map (wk ρ)
theorem Ji (ix:List Nat) (ρ:ay):js 1 ix ρ=.no::Jh ix ρ:=id rfl
theorem Jj (ix:List Nat) (ρ:ay):js 2 ix ρ=.no::.no::Jh ix ρ:=id rfl
theorem Jk (ρ:ay):Jh [] ρ=[]:=id rfl
theorem Jl (i:Nat) (ix:List Nat) (ρ:ay):Jh (i::ix) ρ=wk ρ i::Jh ix ρ:=id rfl
theorem Jm (s:Sl) (ρ:ay):wk (s::ρ) 0=KF s:=id rfl
theorem Jn (s:Sl) (ρ:ay) (n:Nat):wk (s::ρ) (n+1)=wk ρ n:=by simp [wk]
theorem yj (d:D):KF (.shr d)=.shr d:=id rfl
theorem yk (d:D):KF (.own d)=.lck d:=id rfl
theorem Jo   (h:ρ[i]?=some (Sl.own d)):shareAt i ρ=ρ.set i (.shr d):=by unfold shareAt;rw [h]
theorem eO {α:Type} (f:D->R (Option D)) (c:α->D) (h:α->D):∀ (xs:List α),(∀ x∈xs,f (c x)=.ok (some (h x)))->eN f (xs.map c)=.ok (xs.map h)
 |[],_=>rfl
 |x::r,e=>by
  rw [az,az];unfold eN;rw [e x al,bind_ok,eO f c h r fun y hy=>e y (ai _ hy),bind_ok]
theorem kr {α:Type} (f:D->R (Option D)) (c:α->D) (h:α->D) (p:α->Bool):∀ (xs:List α),(∀ x∈xs,f (c x)=.ok (if p x then some (h x) else none))->eN f (xs.map c)=.ok ((xs.filter p).map h)
 |[],_=>rfl
 |x::r,e=>by
  rw [az];unfold eN;rw [e x al,bind_ok,kr f c h p r fun y hy=>e y (ai _ hy),bind_ok];cases hp:p x<;>simp [hp]
theorem Nv    : hV 1 ρ gt ge d=zy (((gt (ρ.set 0 (.shr d)))).bind fun b=>if b then (ge (ρ.set 0 (.shr d))).bind fun y=>.ok (some y) else .ok none):=id rfl
theorem hW    (h1:gt (ρ.set 0 (.shr d))=.ok true) (h2:ge (ρ.set 0 (.shr d))=.ok y):hV 1 ρ gt ge d=.ok (some y):=by
 rw [Nv,h1,bind_ok,if_pos rfl,h2];rfl
theorem Ee     (h1:gt (ρ.set 0 (.shr d))=.ok b) (h2:b=true->ge (ρ.set 0 (.shr d))=.ok y):hV 1 ρ gt ge d=.ok (if b then some y else none):=by
 rw [Nv,h1,bind_ok];cases b with
 |true=>rw [if_pos rfl,h2 rfl];rfl
 |false=>rfl
theorem M0 (h1:-(2 ^ 62)<=j) (h2:j<2 ^ 62):D0 [.int j]=.ok (oW 0 j.toNat):=by
 have h:-(2 ^ 62)<=j/\j<2 ^ 62:=⟨h1,h2⟩;unfold D0;split
 ·rename_i j' e
  have e':j=j':=by injection e with e;injection e
  subst e';rw [if_pos h]
 ·rename_i hn
  exact (hn j rfl).elim
end
end
end J
section
namespace L2
open PySem PySem.Spec PyProof.Rows
end L2
namespace J
open PySem L2
open PyProof.Rows (envOfC)
section
end
section
variable {c:C}{body:List eJ}{x n:Str}{np np2 np3 hpos cpos rpos pos:Pos}{gb:ay->R Fl}{names:List Str}{wh:Str->Option Nat}
end
theorem TK {α:Type}{us:List α} (h:us.length=1):∃ a,us=[a]:=by
 rcases us with _|⟨a0,_|⟨z,r⟩⟩
 ·simp at h
 ·exact ⟨_,rfl⟩
 ·simp at h
theorem TL {α:Type}{us:List α} (h:us.length=2):∃ a b,us=[a,b]:=by
 rcases us with _|⟨a0,_|⟨a0,_|⟨z,r⟩⟩⟩
 ·simp at h
 ·simp at h
 ·exact ⟨_,_,rfl⟩
 ·simp at h
theorem TM {α:Type}{us:List α} (h:us.length=3):∃ a b c,us=[a,b,c]:=by
 rcases us with _|⟨a0,_|⟨a0,_|⟨a0,_|⟨z,r⟩⟩⟩⟩
 ·simp at h
 ·simp at h
 ·simp at h
 ·exact ⟨_,_,_,rfl⟩
 ·simp at h
theorem TQ {α:Type}{us:List α} (h:us.length=4):∃ a b c d,us=[a,b,c,d]:=by
 rcases us with _|⟨a0,_|⟨a0,_|⟨a0,_|⟨a0,_|⟨z,r⟩⟩⟩⟩⟩
 ·simp at h
 ·simp at h
 ·simp at h
 ·simp at h
 ·exact ⟨_,_,_,_,rfl⟩
 ·simp at h
theorem TU {α:Type}{us:List α} (h:us.length=5):∃ a b c d e,us=[a,b,c,d,e]:=by
 rcases us with _|⟨a0,_|⟨a0,_|⟨a0,_|⟨a0,_|⟨a0,_|⟨z,r⟩⟩⟩⟩⟩⟩
 ·simp at h
 ·simp at h
 ·simp at h
 ·simp at h
 ·simp at h
 ·exact ⟨_,_,_,_,_,rfl⟩
 ·simp at h
end J
end
namespace J
open PySem L2
section
section
end
end
end J
section
namespace HT
open PySem PyProof.Rows
section
open PySem.SeqAt
open PySem.AutoSeq1 (wpAny_loadPart')
open PySem.MeetsSeq PySem.MeetsSeq2 PySem.MeetsSeq3
end
end HT
namespace L2
open PySem PySem.Spec PyProof.Rows
section
variable {X:Cx}{e st:a_}{te ts:TE}{pos p2:Pos}
end
end L2
namespace J
open PySem L2
section
variable {c:C}{e:a_}{g:ay->R D}{pos p2 p3 p4:Pos}
end
end J
end
section
namespace L2
open PySem
def Tp (mask:Nat):Nat->Nat×Nat->Nat×Nat
 | 0,x=>x
 |n+1,x=>Tp mask n (SetTable.leap mask x.1 x.2)
def TV (mask:Nat):Bool:=(bY (mask+1)).all fun i=>(bY (mask+1)).all fun j=>(bY (mask+1)).any fun n=>decide ((Tp mask n (i,0)).1=j)
theorem getD_none {owner:Array (Option Nat)}{k:Nat} (h:owner.getD k (some 0)=none):owner.toList[k]?=some none:=by
 by_cases hk:k<owner.size
 ·rw [wZ,fG hk] at h;rw [aY,fG hk];simpa using h
 ·rw [wZ,eT (by omega)] at h;cases h
end L2
namespace L2
open PySem
section
end
end L2
namespace L2
open PySem
section
end
end L2
namespace L2
open PySem
section
end
end L2
namespace L2
open PySem PyProof.Rows
section
variable {P:aS}{w:bn}{A:bv}{E:a9->ae->Prop}{s:ae}
end
end L2
namespace L2
open PySem PyProof.Rows
end L2
namespace J
open PySem L2
section
end
end J
namespace J
open PySem L2
section
end
end J
namespace J
open PySem L2
end J
end
section
namespace L2
open PySem PySem.Spec PyProof.Rows
theorem zD:Cd (.type "list") "keys"=pure none:=by rw [Ah,rP];kernel_rfl
theorem ym:KU table "dict.update.loop"=some ii.«dict.update.loop»:=entryFor_of_tree (by kernel_rfl)
theorem pQ:plainId "dict.update.loop"=true:=by decide +kernel
section
theorem wl
  (hx:s.heap.get? a=some o) (hc:o.cls=.type "list") (hdat:o.data=.seq xs k) (hd:o.dict=none) (hA:A.handled=none)
  (h:∀ h' tk,(∀ b o,s.heap.get? b=some o->h'.get? b=some o)->Q none { s with heap:=h',toks:=tk }) :
  ao (ar prog w) A (getAttr? (.ref a) "keys") Q E s:=by
 obtain ⟨c,dct,dat,sl⟩:=o;simp only at hc hdat hd;subst hc hdat hd;obtain ⟨hp,g,d,tk,os⟩:=s;have hT:∀ tk',(⟨hp,g,d,tk',os⟩:ae).TypeIs (.ref a) "list":=fun _=>⟨_,hx,rfl⟩;have f1:=sub_AttributeError;have f3:=F.slot_list_getattribute.lookup;have f4:=F.slot_list_getattribute.bind (.ref a);have f5:=am_list_getattr_none;have hname:(["__module__","__name__","__qualname__","__doc__","__annotations__"] : List Str).contains "keys"=false:=by decide +kernel
 unfold getAttr? getAttrBy? getAttrBy;repeat (any_goals (first|assumption|exact hT _|((with_reducible show ao _ _ (call (Value.builtin "list.__getattribute__") _ _) _ _ _);refine call_meets F.slot_list_getattribute (hT _) am_entry_list_getattribute (F.args_list_getattribute_2 _ _) (meets_getattribute_miss_list a xs k sl "keys" _ zD hname (by size_fits)) ⟨hx,hA,fun h' tk' e hx'=>?_⟩)|wp_step))
 have ha:=hx'.of;obtain ⟨ob,vs,he,hc,_⟩:=ha.there;have hTe:(⟨h',g,d,tk',os⟩:ae).TypeIs (.ref e) "AttributeError":=⟨_,he,hc⟩;show ao _ _ (getattributeRaised _ _ _ _ _ _ _) _ _ _;unfold getattributeRaised;repeat (any_goals (first|assumption|wp_step))
 exact h _ _ ha.keeps
end
end L2
namespace L2
open PySem PySem.Spec PyProof.Rows
def Nw (acc:List (eR×a9)) (l:List (eR×a9×a9)):List (eR×a9):=l.foldl (fun a t=>GT a t.1 t.2.2) acc
theorem D5 (kvs:List (eR×a9)) (k:eR) (v:a9):(GT kvs k v).length<=kvs.length+1:=by
 unfold GT;split<;>simp
section
theorem xA {I:ah}{fp wr:List ah}{n:Nat}{Pv:Nat->a9->Prop}{St:Nat->bu->Prop} (W:GD prog w A.in1 I fp wr n Pv St) (D:ah) (hD:D∉fp) (xs:List (eR×a9×a9)) (pa:List ah) (hx:xs.length=n)
  (hv:∀ i v,Pv i v->∃ p x,pa[i]?=some p/\xs[i]?=some x/\v=.ref p) (hk:∀ x∈xs,(cq prog w).is x.1 x.2.1=true) (hp:∀ p∈pa,p∉D::wr) (hb:n<=1000) :
  ∀ (k i:Nat) (s:ae) (acc:List (eR×a9)) (j:Int),n-i=k->i<=n->acc.length<=i->St i s.heap->s.heap.DictOf (cq prog w) D acc->(∀ (i:Nat) (p:ah) (x:eR×a9×a9),pa[i]?=some p->xs[i]?=some x->Gu s.heap p #[x.2.1,x.2.2]) ->
   (∀ h' tk,(∀ b o,b∉D::wr->s.heap.get? b=some o->h'.get? b=some o)->h'.DictOf (cq prog w) D (Nw acc (xs.drop i))->R (.ok (.ret .none)) { s with heap:=h',toks:=tk }) ->
   dG (ar prog w) A (.builtin "dict.update.loop" ⟨[.ref D,.ref I,b_ j,.none],[]⟩) R s:=by
 have hDw:D∉wr:=fun z=>hD (W.sub _ z);intro k;induction k with
 |zero =>
  intro i s acc j hk' hi hl st hS hT hR;obtain rfl:i=n:=by omega
  refine gy ym ?_;rw [eG pQ _];show ao _ A.in1 (iP (.ref I) >>= _) _ _ s;refine a7 (W.done s _ _ st fun h' tk kp=>?_);show ao _ _ (Builtin.Dict.addKeywords D [] >>= _) _ _ _;refine a7 (ac (ac (hR h' tk (fun b o hb e=>kp b o (fun z=>hb (ai _ z)) e) ?_)));rw [C4 (by omega)];obtain ⟨o,es,ep,e,r⟩:=hS;exact ⟨o,es,ep,kp D o hDw e,r⟩
 |succ k ih =>
  intro i s acc j hk' hi hl st hS hT hR;have hlt:i<n:=by omega
  refine gy ym ?_;rw [eG pQ _];show ao _ A.in1 (iP (.ref I) >>= _) _ _ s;refine a7 (W.item i s _ _ hlt st fun v h' tk hP st' kp=>?_);obtain ⟨p,x,hpi,hxi,rfl⟩:=hv i v hP;have hpm:=hp p (dC hpi);have hS':h'.DictOf (cq prog w) D acc:=by
   obtain ⟨o,es,ep,e,r⟩:=hS;exact ⟨o,es,ep,kp D o hDw e,r⟩
  obtain ⟨ot,et,ct,nt,dt⟩:=hT i p x hpi hxi;have et':h'.get? p=some ot:=kp p ot (fun z=>hpm (ai _ z)) et;have hkx:=hk x (dC hxi);refine a7 (cE (a7 (wpAny_tryCatch ?_)));unfold Builtin.Dict.pairItems;refine a7 (k9 (T:="tuple") (s:={ s with heap:=h',toks:=tk }) ⟨_,et',ct⟩ ?_);rw [if_pos (by decide)];refine a7 (e7 (s:={ s with heap:=h',toks:=tk }) et' dt (ac ?_));show ao _ _ (C0 [x.2.1,x.2.2] (dictSet D x.2.1 x.2.2)) _ _ _;refine cE ?_;unfold dictSet;refine cE (a7 ((cq prog w).pyHash (k:=x.1) hkx ?_));refine wpAny_dictSetHashed_pairs (s:={ s with heap:=h',toks:=tk+1 }) hkx hS' (fun h2 hS2 sb=>?_) (bM hl (bM hi (bM hb (bH (dz (am _))))));refine ac ⟨lu pQ _,ih (i+1) _ (GT acc x.1 x.2.2) _ (by omega) hlt ?_ (W.frame _ _ _ st' fun b hb o e=>?_) hS2 (fun i2 p2 x2 e1 e2=>?_) fun h3 tk3 k3 hS3=>?_⟩
  ·have:=D5 acc x.1 x.2.2;omega
  ·rw [sb.2 b fun z=>hD (z ▸ hb)];exact e
  ·obtain ⟨o2,g2,r2⟩:=hT i2 p2 x2 e1 e2;have hm:=hp p2 (dC e1);exact ⟨o2,(sb.2 p2 fun z=>hm (by rw [z];exact al)).trans (kp p2 o2 (fun z=>hm (ai _ z)) g2),r2⟩
  ·refine hR h3 tk3 (fun b o hb e=>k3 b o hb ?_) ?_
   ·show h2.get? b=_;rw [sb.2 b fun z=>hb (by rw [z];exact al)];exact kp b o (fun z=>hb (ai _ z)) e
   ·have hd:xs.drop i=x::xs.drop (i+1):=by
     obtain ⟨h1,h2⟩:=List.getElem?_eq_some_iff.mp hxi;rw [mx h1,h2]
    rw [hd];exact hS3
theorem KG {l:ah}{ol:Obj}{its:List a9}{n:Nat}{xs:List (eR×a9×a9)}{pa:List ah}{Q:a9->ae->Prop} (hh:A.handled=none)
  (hol:s.heap.get? l=some ol) (hc:ol.cls=.type "list") (hdd:ol.dict=none) (hdt:ol.data=.seq its.toArray n) (hi:∀ (i:Nat) (v:a9),its[i]?=some v->∃ p x,pa[i]?=some p/\xs[i]?=some x/\v=.ref p) (hx:xs.length=its.length) (hk:∀ x∈xs,(cq prog w).is x.1 x.2.1=true) (hb:its.length<=1000)
  (hT:∀ (i:Nat) (p:ah) (x:eR×a9×a9),pa[i]?=some p->xs[i]?=some x->Gu s.heap p #[x.2.1,x.2.2]) (hpa:∀ p∈pa,p<s.heap.objs.size)
  (h:∀ (h':bu) (tk:Nat),h'.DictOf (cq prog w) s.heap.objs.size (Nw [] xs)->(∀ b o,s.heap.get? b=some o->h'.get? b=some o)->Q (.ref s.heap.objs.size) { s with heap:=h',toks:=tk }) :
  ao (ar prog w) A (call (.type "dict") [.ref l]) Q E s:=by
 refine callType_codes (Q₁:=fun obj s₁=>obj=.ref s.heap.objs.size/\s₁={ s with heap:=s.heap.push { cls:=.type "dict",data:=.dict #[] } }) F.kt_called_dict (F.kt_typeCall_dict_1 _) F.entry_dict_init (kt_code_dict_new _ ⟨rfl,rfl⟩) ?_;rintro obj s₁ ⟨rfl,rfl⟩;have hnew:(s.heap.push { cls:=.type "dict",data:=.dict #[] }).DictOf (cq prog w) s.heap.objs.size []:=C1 s.heap;have hol':(s.heap.push { cls:=.type "dict",data:=.dict #[] }).get? l=some ol:=aa _ hol;have hlS:l<s.heap.objs.size:=ap hol;refine ⟨hnew.typeIs,F.args_dict_init_2 _ _,?_⟩;unfold ii.«dict.__init__»;refine a7 ?_;unfold Builtin.Dict.selfAndRest;refine a7 (wpAny_notOrdered_dict hnew.typeIs ?_);show ao _ _ (pure (s.heap.objs.size,[bt l])) _ _ _;refine ac ?_;show ao _ _ (uI "dict.__init__" s.heap.objs.size (.ref l) [] .none) _ _ _;unfold uI;refine a7 (k9 (T:="list") ⟨_,hol',hc⟩ ?_);rw [if_pos (by decide)];refine a7 (wl (s:={ s with heap:=s.heap.push { cls:=.type "dict",data:=.dict #[] } }) hol' hc hdt hdd (by simpa using hh) fun h1 tk1 k1=>?_);rw [if_pos (by rfl)];refine a7 (cg ?_);have hol1:=k1 l ol hol';refine a7 (j_ (s:={ s with heap:=h1,toks:=tk1 }) ⟨_,hol1,hc,⟨_,hdt⟩⟩ ?_);have hD1:∃ o,h1.get? s.heap.objs.size=some o:=by
  obtain ⟨o,es,ep,e,_⟩:=hnew;exact ⟨o,k1 _ _ e⟩
 obtain ⟨oD,eD⟩:=hD1;have lD:=ap eD;have W:=xg (prog:=prog) (w:=w) (A:=A.in1.in1) (by simpa using hh) h1.objs.size l (aA (ap hol1)) its.toArray;have k2:∀ b o,h1.get? b=some o->(h1.push { cls:=.type "list_iterator",data:=.fields #[.ref l,.int 0 0] }).get? b=some o:=fun b o e=>aa _ e;have hD2:(h1.push { cls:=.type "list_iterator",data:=.fields #[.ref l,.int 0 0] }).DictOf (cq prog w) s.heap.objs.size []:=by
  obtain ⟨o,es,ep,e,r⟩:=hnew;exact ⟨o,es,ep,k2 _ _ (k1 _ _ e),r⟩
 refine ac ⟨lu pQ _,xA (A:=A.in1) W s.heap.objs.size ?_ xs pa (by rw [hx,aH]) (fun i v e=>hi i v (by simpa using e)) hk (fun p hp=>?_) (by rw [aH];exact hb) its.length 0 _ [] 0 (by rw [aH];omega) (ck _) (am _) ⟨⟨_,aw _ rfl,rfl,rfl⟩,⟨_,k2 _ _ hol1,hc,⟨_,hdt⟩⟩⟩ hD2 (fun i p x e1 e2=>?_) fun h' tk kp hS'=>?_⟩
 ·simp only [aJ,aM,or_false,not_or];exact ⟨aA lD,dv hlS⟩
 ·have:=hpa p hp;simp only [aJ,aM,or_false,not_or];exact ⟨aA this,aA (dw this lD)⟩
 ·obtain ⟨o,g,r⟩:=hT i p x e1 e2;exact ⟨o,k2 _ _ (k1 _ _ (aa _ g)),r⟩
 ·refine ⟨rfl,h h' tk hS' fun b o e=>kp b o ?_ (k2 _ _ (k1 _ _ (aa _ e)))⟩;have:=ap e;simp only [aJ,aM,or_false,not_or];exact ⟨aA this,aA (dw this lD)⟩
end
end L2
namespace L2
open PySem PySem.Spec PyProof.Rows
end L2
namespace J
open PySem L2
def Ef:List D->Option (List (eR×D))
 |[]=>some []
 |.tuple [k,v]::r=>(o7 k).bind fun y=>(Ef r).map ((y,v)::·)
 |_::_=>none
def RF:D->R D
 |.list ds=>if ds.length<=1000 then (match Ef ds with
  |some ps=>.ok (.dict (ps.foldl (fun a p=>qX a (kD p.1) p.2) []))
  |none=>.no) else .no
 |_=>.no
section
end
end J
namespace L2
open PySem PySem.Spec PyProof.Rows
def OV (K:a8) (a:ah):It :=
 ⟨fun i H=>∃ xs x,lz K H a xs/\xs[i]?=some x,fun i H v H'=>∃ p,H p=none/\v=.ref p/\∀ xs,lz K H a xs->∃ x,xs[i]?=some x/\H'=upd H p (.tup [.int i,x]),fun i H=>∃ xs,lz K H a xs/\xs.length<=i⟩
theorem D6 {P:aS}{w:bn}{K:a8}{elts:List a_}{x1}{pos:Pos} (a e it:ah) (hei:e≠it):tS P w K (.Tuple elts x1 pos) (OV K a) [e,it] e (fun i h=>(∃ old,IsEnum h e it i old)/\h.IsListIter it a i) where
 mem:=by simp
 obj:=fun i h st b hb=>by
  simp only [aJ,aM,or_false] at hb;rcases hb with rfl|rfl
  ·obtain ⟨⟨old,q⟩,_⟩:=st;exact ⟨_,q,fun v z=>by cases z⟩
  ·obtain ⟨_,o,q,_,d⟩:=st;exact ⟨o,q,fun v z=>by rw [d] at z;cases z⟩
 keep:=fun i h h' st k=>⟨let ⟨old,q⟩:=st.1;⟨old,k e (by simp) _ q⟩,let ⟨o,q,r⟩:=st.2;⟨o,k it (by simp) o q,r⟩⟩
 item:=by
  intro X hP hw hK hc i pins s σ H E I hf st hg;subst hP hw hK;obtain ⟨xs,x,hq,hx⟩:=hg;obtain ⟨its,rv,p,hz⟩:=I.list hq;obtain ⟨u,hu,ru⟩:=rv.get hx;obtain ⟨⟨old,he⟩,hit⟩:=st;have hit0:=hit;obtain ⟨oi,ei,_⟩:=hit0;have he0:=ap he;refine wpAny_pyNext_enum_item he hit p.isList (by simpa using hu) hei ?_;intro h1 eo st1 tup sz k1;refine ⟨_,rfl,Cj eo fun h2 e2 sb2=>?_⟩;have szn:s.heap.objs.size≠e:=dv he0;have I2:bz X pins σ H { s with heap:=h2,toks:=s.toks+1 }:=I.turnedL (ch:=[e,it]) (fun b o hb q=>by
   simp only [aJ,aM,or_false,not_or] at hb;exact (sb2.2 b hb.1).trans (k1 b o hb.1 hb.2 q)) hf
  have fT:=I.fpOk (H':=H) (am _) (I.hok.fresh (am _));have tup2:h2.get? s.heap.objs.size=some { cls:=.type "tuple",data:=.seq #[.int i s.toks,u] }:=(sb2.2 _ szn).trans tup;have I3:=I2.track (ho:=.tup [.int i,x]) fT ⟨by show 2<=sizeLine;decide,[.int i s.toks,u],.cons ⟨s.toks,rfl⟩ (.cons ru .nil),⟨_,tup2,rfl,0,rfl⟩⟩;refine ⟨.ref s.heap.objs.size,_,I3,rfl,⟨_,fT.1,rfl,fun ys hy=>?_⟩,⟨⟨u,?_⟩,?_⟩,fun b hb=>?_⟩
  ·rw [I.list_inj hy hq];exact ⟨x,hx,rfl⟩
  ·have:(((i+1:Nat):Int))=(i:Int)+1:=by omega
   rw [this];exact e2
  ·obtain ⟨o,q,r⟩:=st1;exact ⟨o,(sb2.2 it (cR hei)).trans q,r⟩
  ·rw [bh]
   ·exact (hf b hb).1
   ·simp only [aJ,aM,or_false] at hb;rcases hb with z|z
    ·rw [z];exact aA he0
    ·rw [z];exact aA (ap ei)
 done:=by
  intro X hP hw hK hc i pins s σ H E I hf st hg;subst hP hw hK;obtain ⟨xs,hq,hx⟩:=hg;obtain ⟨its,rv,p,hz⟩:=I.list hq;obtain ⟨⟨old,he⟩,hit⟩:=st;have hl:=rv.length;refine wpAny_pyNext_enum_end (by simpa using I.ok.hd hc) he hit p.isList (by simp;omega) fun h' eb=>?_;exact ⟨rfl,I.turnedL (t':=s.toks) (ch:=[e,it]) (fun b o hb q=>eb b o (by
   simp only [aJ,aM,or_false,not_or] at hb;exact hb.2) q) hf⟩
 self:=fun _ _ _ _ _ st h=>let ⟨⟨_,q⟩,_⟩:=st;ou q h
def OW (K:a8) (ta:TA):TI:=fun σ H R=>ta σ H fun vs H1=>∃ a xs,vs=[.ref a]/\lz K H1 a xs/\R (OV K a) H1
theorem Jp {X:Cx}{elts:List a_}{x1}{tpos p pos:Pos}{a:a_}{ta:TA} (hg:Gl X "enumerate") (hm:X.mg "enumerate"=none) (ha:PA X [a] ta) (hs:aE [a] X.env=[(false,cj a X.env)]:=by rfl) :
  PI X (.Tuple elts x1 tpos) (.Call (.Name "enumerate" p) [a] [] pos) (OW X.K ta):=by
 intro pins s σ H R I h;refine Call_ (oH I hg hm boot_enumerate (eI (dX (ha pos pins s σ H _ I h) fun us s1 h1=>?_) hs rfl));obtain ⟨vs,H1,I1,r1,q1⟩:=h1;obtain ⟨ad,xs,rfl,hq,q⟩:=q1;obtain ⟨u,rfl,rx⟩:=kj r1;cases rx;obtain ⟨its,rv,tp,hz⟩:=I1.list hq;refine call_enumerate_list tp.isList fun h' e1 t1 sz kp=>?_;refine ou e1 ?_;have I2:bz X pins σ H1 { s1 with heap:=h' }:=I1.kept (t':=s1.toks) kp;refine ⟨s1.heap.objs.size+1,[s1.heap.objs.size+1,s1.heap.objs.size],_,_,H1,rfl,I2,D6 ad _ _ (dv (cZ _)),⟨⟨.none,e1⟩,t1⟩,fun b hb=>?_,q⟩;simp only [aJ,aM,or_false] at hb;rcases hb with z|z
 ·rw [z];exact I1.fpOk (fh _) (I1.hok.fresh (fh _))
 ·rw [z];exact I1.fpOk (am _) (I1.hok.fresh (am _))
end L2
namespace J
open PySem L2
theorem Jq     (h:lz K Hn a vs) (r:RDs K Hs vs ds):Iz K (OV K a) (jV 0 ds) Hn Hs:=fun H2 Hs2 e1 e2 e3=>by
 have q:=e1.seq h;have hl:=u0 ds 0;refine ⟨fun i hi=>?_,fun i hi=>⟨vs,q,by rw [r.length];omega⟩,fun i x H3 hi y=>?_⟩
 ·have hi':i<vs.length:=by rw [r.length];omega
  exact ⟨vs,vs[i],q,bq hi'⟩
 ·obtain ⟨p,hp,rfl,y⟩:=y;obtain ⟨x,k0,rfl⟩:=y vs q;obtain ⟨d,k1,k2⟩:=r.get k0;have st:=c8.new (o:=.tup [.int i,x]) e3 hp;refine ⟨.tuple [.int i,d],_,?_,st,.tuple bi (.cons (.int _) (.cons ((k2.same e2).same st.sh) .nil))⟩;rw [t_,k1];simp
section
def QY:List D->R (List D)
 |[.list ds]=>.ok (jV 0 ds)
 |_=>.no
def Eg (gs:ay->R (List D)):ay->R (List D):=fun ρ=>(gs ρ).bind QY
theorem FP {x1} (hg:Gl c.X "enumerate") (hm:c.X.mg "enumerate"=none) (ha:FF c [a] gs) (hs:aE [a] c.X.env=[(false,cj a c.X.env)]:=by rfl):GN c (.Tuple elts x1 tpos) (.Call (.Name "enumerate" p) [a] [] pos) (Eg gs):=.of fun ρ=>FL (Jp hg hm (ha ρ) hs) fun σ H Q h_20=>by
 obtain ⟨H0,Hs0,la,Hs,f,q⟩:=h_20;refine AH f q fun ds vs H1 Hs1 e1 s1 f1 r1=>?_;unfold Eg at q;rw [e1,bind_ok] at q;unfold QY at q;split at q
 ·obtain ⟨x,rfl,rx⟩:=r1.one;cases rx with
  |list qa ra=>exact ⟨_,_,rfl,cz.seq f1.st.sub qa,q _ H1 Hs1 s1 (Jq qa ra)⟩
 ·exact q.elim
end
end J
namespace L2
open PySem PySem.Spec PyProof.Rows
end L2
namespace J
open PySem L2
section
end
end J
namespace J
open PySem L2
theorem B8  : JS c s (fun _=>.no):=.of fun ρ pins s σ H D I h=>by
 obtain ⟨H0,Hs0,la,Hs,f,q⟩:=h;exact q.elim
end J
end
namespace J
open PySem L2 PyProof.Rows
section
structure En where
 P:aS
 w:bn
 K:a8
 mg:Str->Option a9
 base:bu
 cls:Str->ah
abbrev FN (e:En):=Fn e.P e.w e.K e.mg e.base e.cls
abbrev Cn (mg:Str->Option a9) (x:Str) (n:Int):Prop:=∃ t,mg x=some (.int n t)
structure kK (K:a8) (mg:Str->Option a9) (x:Str) (st:eJ):Prop where
 ex:∃ f fd,Ft K x x st f fd/\mg x=some (.ref f)
section
variable {K:a8}{h:bu}{mg:Str->Option a9}{x:Str}
theorem d_in {st:eJ}{A:ah}{od an:Option ah}{sl:Array (Option a9)}{oc kV dc pm cv ct:a9} (X:K.In h) (G:h.Ns bK mg) (a:gI K bK x=some (some (.ref A)))
  (l:K.lookup A=some ⟨oc,od,.func (fF x x (jH st) (hJ st) (aN st) .none kV dc pm an cv ct),sl⟩) (c:kQ K cv x=true) (k:eX K (.ref A)=true):kK K mg x st :=
 ⟨_,_,HH l c k,qx X G a⟩
theorem cn_in  (X:K.In h) (G:h.Ns bK mg) (t:gI K bK x=some (some (.int n tk))):Cn mg x n:=⟨_,qx X G t⟩
inductive Zs (K:a8):List Str->Prop
 |nil:Zs K []
 |cons {x:Str}{r:List Str}:gI K bK x=some none->Zs K r->Zs K (x::r)
theorem Zs.get (z:Zs K r):∀ x∈r,gI K bK x=some none:=by
 induction z with
 |nil=>exact fun _ h=>nomatch h
 |cons a _ ih =>
  intro y hy;rcases List.mem_cons.mp hy with e|e
  ·rw [e];exact a
  ·exact ih y e
abbrev zn:List Str:=["len","isinstance","all","any","zip","tuple","list","sorted","set","range","enumerate","dict","sum","max","min","reversed","str","int","bool","ValueError"]
theorem QZ (X:K.In h) (G:h.Ns bK mg) (z:Zs K zn):Bi mg:=by
 have q:∀ x∈zn,mg x=none:=fun x hx=>PySem.W.mg_none_of X G (z.get x hx);exact ⟨q _ (by decide),q _ (by decide),q _ (by decide),q _ (by decide),q _ (by decide),q _ (by decide),q _ (by decide),q _ (by decide),q _ (by decide),q _ (by decide),q _ (by decide),q _ (by decide),q _ (by decide),q _ (by decide),q _ (by decide),q _ (by decide),q _ (by decide),q _ (by decide),q _ (by decide)⟩
end
section
variable {P:aS}{w:bn}{K:a8}{mg:Str->Option a9}{base:bu}{N:List Str}{qual:Str}{scope:dU}{f:ah}{cd:a9}{A:bv}{outer:List Env}{s:ae}{H:Hp}{E:XK}
theorem px:oM (w_ P w) (vF (w_ P w) P w K mg base N qual scope f cd A outer s H E) E:=AE fun _ _ h=>h
end
section
theorem jc  (G:Fn c.X.prog c.X.w c.X.K c.X.mg c.X.base c.cls x k n F) (hr:jT j c.X.A) (hx:oM (w_ c.X.prog c.X.w) c.X c.E) (ha:FF c (e::es) gs)
  (hk:k<=j:=by decide) (hg:Gl c.X x:=by exact rfl) (hdb:(x==("__debug__" : Str))=false:=by decide) (he:aE (e::es) c.X.env=(false,cj e c.X.env)::aE es c.X.env:=by rfl) (hpl:(gE pos (aE es c.X.env)).any (·.1)=false:=by rfl) :
  JE c (.Call (.Name x p) (e::es) [] pos) (iV n F gs):=LQ G (hr.mono hk) hg hx ha hdb he hpl
end
abbrev Bq (x:Str) (st:eJ) (us:List a9) (r:List (Str×a9)):Prop:=∀ (kV doc pm:a9) (an:Option ah) (cdv ct:a9),KM (fF x x (jH st) (hJ st) (aN st) .none kV doc pm an cdv ct) ⟨us,[]⟩=pure r
section
variable {K:a8}{x:Str}{st:eJ}{f:ah}{fd:eQ}
theorem b1 (F:Ft K x x st f fd) (h:∀ u,Bq x st [u] [(a,u)]:=by exact fun _ _ _ _ _ _ _=>rfl):kn K fd [a] []:=F.binds fun _ _ _ _ _ _ us hl=>by obtain ⟨_,rfl⟩:=TK hl;exact h ..
theorem b2 (F:Ft K x x st f fd) (h:∀ u v,Bq x st [u,v] [(a,u),(b,v)]:=by exact fun _ _ _ _ _ _ _ _=>rfl):kn K fd [a,b] []:=F.binds fun _ _ _ _ _ _ us hl=>by obtain ⟨_,_,rfl⟩:=TL hl;exact h ..
theorem b3 (F:Ft K x x st f fd) (h:∀ u v w,Bq x st [u,v,w] [(a,u),(b,v),(c,w)]:=by exact fun _ _ _ _ _ _ _ _ _=>rfl):kn K fd [a,b,c] []:=F.binds fun _ _ _ _ _ _ us hl=>by obtain ⟨_,_,_,rfl⟩:=TM hl;exact h ..
theorem b4 (F:Ft K x x st f fd) (h:∀ u v w z,Bq x st [u,v,w,z] [(a,u),(b,v),(c,w),(d,z)]:=by exact fun _ _ _ _ _ _ _ _ _ _=>rfl):kn K fd [a,b,c,d] []:=F.binds fun _ _ _ _ _ _ us hl=>by obtain ⟨_,_,_,_,rfl⟩:=TQ hl;exact h ..
theorem b5 (F:Ft K x x st f fd) (h:∀ u v w z y,Bq x st [u,v,w,z,y] [(a,u),(b,v),(c,w),(d,z),(e,y)]:=by exact fun _ _ _ _ _ _ _ _ _ _ _=>rfl):kn K fd [a,b,c,d,e] []:=F.binds fun _ _ _ _ _ _ us hl=>by obtain ⟨_,_,_,_,_,rfl⟩:=TU hl;exact h ..
end
theorem wn {e:En}{x:Str}{st:eJ}{N ps:List Str}{k:Nat}{g:ay->R Fl} (D:kK e.K e.mg x st) (S:cr N ps (aN st)) (b:∀ {f:ah}{fd:eQ},Ft e.K x x st f fd->kn e.K fd ps [])
  (h:∀ (f:ah) (cdv:a9) (A:bv) (outer:List Env) (s:ae) (H:Hp) (E:XK),jT k (A.deeper (qK x (aN st) s.heap.objs.size f cdv))->E1 ⟨vF (w_ e.P e.w) e.P e.w e.K e.mg e.base N x (aN st) f cdv A outer s H E,e.cls,E⟩ (hJ st) g) :
  FN e x (k+1) ps.length (iL N.length g):=by
 obtain ⟨f,fd,F,hm⟩:=D.ex;exact QD F S hm (b F) (h f)
def Tq (N P:List Str) (sc:dU):Bool:=decide (sc.kind=.function) && !sc.isCoroutine && !sc.isGenerator&&decide N.Nodup&&decide (N.take P.length=P)&&P.all (fun x=>decide (sc.names.lookup x=some .local)||decide (sc.names.lookup x=some .cell))&&sc.names.all fun y=>decide (y.2≠.free)
theorem hX  (h:Tq N P sc=true):cr N P sc:=by
 unfold Tq at h;simp only [aT,decide_eq_true_eq,Bool.not_eq_true',cY,oC] at h;obtain ⟨⟨⟨⟨⟨⟨a,b⟩,c⟩,d⟩,e⟩,f⟩,g⟩:=h;exact ⟨a,b,c,d,e,f,g⟩
structure Cw (K:a8) (x:Str) (C:ah):Prop where
 ns:gI K bK x=some (some (.ref C))
 cl:∃ cd,xl K C=some cd
 ty:GY K (.ref C)=some (.type "type")
theorem cw_in {K:a8}{x:Str}{C:ah}{cd:ClassData} (a:gI K bK x=some (some (.ref C))) (i:xl K C=some cd) (y:GY K (.ref C)=some (.type "type")):Cw K x C:=⟨a,⟨_,i⟩,y⟩
inductive Sb (K:a8) (C:ah):List (ah×Bool)->Prop
 |nil:Sb K C []
 |cons {D:ah}{b:Bool}{l:List (ah×Bool)}:Kz K (.ref C) (.ref D)=some b->(b=false->C≠D)->Sb K C l->Sb K C ((D,b)::l)
structure Wy (K:a8) (C CP:ah) (l:List (ah×Bool)):Prop where
 x1:kP K (.ref C) "__getattribute__"=some (some (.builtin "BaseException.__getattribute__"))
 x2:kP K (.ref C) "__getattr__"=some none
 x3:kP K (.ref C) "__class__"=some (some (.builtin "object.__class__"))
 x4:DF K (.builtin "object.__class__") "__get__"=some (some (.builtin "getset_descriptor.__get__"))
 x5:Gy K (.builtin "object.__class__")=some true
 x6:gR K C (.type "object")=some true
 x7:gR K C (.ref CP)=some true
 x8:Kz K (.ref C) (.type "ValueError")=some true
 x9:(bt CP==bt C)=false
 sb:Sb K C l
end
end J
section
namespace L2
open PySem PySem.Spec PyProof.Rows
section
end
end L2
namespace J
open PySem L2
def keysOf:List D->Option (List eR)
 |[]=>some []
 |d::r=>(o7 d).bind fun k=>(keysOf r).map (k::·)
section
variable {c:C}{a b e k:a_}{ga gb g gk:ay->R D}{pos p apos:Pos}{x:Str}
end
end J
namespace J
open PySem L2
section
def D7 (g:ay->R D):ay->R Bool:=fun ρ=>(g ρ).bind fun d=>match d with
 |.list ds=>.ok (!ds.isEmpty)
 |_=>.no
theorem OX (h:JB c e g) (he:∀ whole,kO e c.X.env whole=(do let v <- whole;jt e.pos;C0 [v] (truthy v)):=by intro _;rfl):JT c e (D7 g):=.of fun ρ=>Qp (Hy (h ρ) he) fun σ H Q hh=>by
 obtain ⟨H0,Hs0,la,Hs,f,q⟩:=hh;refine one f q fun d v H1 Hs1 e1 s1 f1 r1=>?_;unfold D7 at q;rw [e1,bind_ok] at q;split at q
 ·obtain ⟨a,vs,rfl,qa,ra⟩:=r1.list f1.st.sub;refine ⟨_,.inl ⟨vs,qa,rfl⟩,?_⟩;cases ra with
  |nil=>exact q H1 Hs1 s1
  |cons _ _=>exact q H1 Hs1 s1
 ·exact q.elim
end
end J
namespace L2
open PySem PySem.Spec PyProof.Rows
end L2
namespace J
open PySem L2
end J
namespace J
open PySem L2
end J
namespace J
open PySem L2
end J
namespace J
open PySem L2
def rS (i:Nat) (ρ:ay):R D:=CQ ρ i
def rB (i:Nat) (ρ:ay):R D:=AI ρ i
def kI (n:Int) (_:ay):R D:=.ok (.int n)
def kB (b:Bool) (_:ay):R D:=.ok (.bool b)
def kT (_:ay):R Bool:=.ok true
theorem Q_ (i:Nat) (ρ:ay):rS i ρ=CQ ρ i:=id rfl
theorem OY (i:Nat) (ρ:ay):rB i ρ=AI ρ i:=id rfl
theorem R0 (n:Int) (ρ:ay):kI n ρ=.ok (.int n):=id rfl
theorem R1 (b:Bool) (ρ:ay):kB b ρ=.ok (.bool b):=id rfl
end J
end
section
namespace L2
open PySem PySem.Spec PyProof.Rows
section
end
end L2
namespace J
open PySem L2
section
end
end J
end
namespace L2
open PySem PySem.Spec PyProof.Rows
section
open Builtin Builtin.ObjectAttr
inductive Eh (h:bu) (bmB:List a9) (nms:List Str):List a9->Prop
 |base:Eh h bmB nms bmB
 |own {A:ah}{c0:a9}{dd:Option ah}{cd:ClassData}{sl:Array (Option a9)}{mA:Str->Option a9}{tl:List a9} :
   h.get? A=some { cls:=c0,dict:=dd,data:=.cls cd,slots:=sl }->h.Ns cd.ns mA->(∀ n∈nms,mA n=none)->Eh h bmB nms tl->Eh h bmB nms (.ref A::tl)
section
variable {M:KJ}{A:bv}{E:a9->ae->Prop}{h:bu}{g:Array Ca}{d:Gv}{t:Nat}{os:OsState}
variable {nm q:Str}{C N x:ah}{bs bm bmB:List a9}{hdct:Bool}{sn:List Str}{sub:List a9}{ab:Bool}{col:Option Bool}{dd:Option ah}{k0 k1 k2 k3 k5:Option a9}{B newId initId sa owner:String}{nms:List Str}{name:Str}{v:a9}{mN:Str->Option a9}
end
section
variable {prog:aS}{w:bn}{A:bv}{E:a9->ae->Prop}{h:bu}{g:Array Ca}{d:Gv}{t:Nat}{os:OsState}
variable {nm q:Str}{C N x:ah}{bs bm bmB:List a9}{sn:List Str}{sub:List a9}{ab:Bool}{col:Option Bool}{dd:Option ah}{k0 k1 k2 k3 k5:Option a9}{B newId initId sa owner:String}{nms:List Str}{name:Str}{v:a9}{mN:Str->Option a9}
end
end
section
section
variable {prog:aS}{w:bn}{A:bv}{E:a9->ae->Prop}{h:bu}{g:Array Ca}{d:Gv}{t:Nat}{os:OsState}
variable {nm q:Str}{C N:ah}{bs bm bmB:List a9}{hdct:Bool}{sn:List Str}{sub:List a9}{ab:Bool}{col:Option Bool}{dd:Option ah}{k0 k1 k2 k3 k5:Option a9}{B newId initId:String}
end
section
end
section
end
end
section
structure OZ (h:bu) (fI:ah):Prop where
 ex:∃ (oI:Obj) (fd:eQ) (p1 p2 p3 p4:Pos),h.get? fI=some oI/\oI.cls=.type "function"/\oI.data=.func fd/\h.CodeRec fd.code fd.qualname/\fd.scope.isCoroutine=false/\fd.scope.isGenerator=false/\fd.scope.kind=.function /\
  fd.scope.names=[(("self" : Str),oy),(("number" : Str),oy)]/\fd.body=.stmts [.Assign [.Attribute (.Name "self" p1) "number" p2] (.Name "number" p3) p4]/\∀ (s:ae) (e v:a9),(∀ b o,h.get? b=some o->s.heap.get? b=some o)->xb s fd ⟨[e,v],[]⟩ [("self",e),("number",v)]
section
end
section
end
end
section
structure SE (x:Str) (C:ah) (mg:Str->Option a9) (base:bu):Prop where
 bound:mg x=some (.ref C)
 obj:∃ nm q N bs bm sn sub ab col dd k0 k1 k2 k3 k5 mN fI,base.get? C=some (excClassObj nm q C N bs bm true sn sub ab col dd k0 k1 k2 k3 k5 "ValueError.__new__")/\base.Ns N mN/\mN "__init__"=some (.ref fI)/\mN "__setattr__"=none/\mN "number"=none /\
  Eh base [.type "ValueError",.type "Exception",.type "BaseException",.type "object"] ["__init__","__setattr__","number"] bm/\OZ base fI
section
variable {P:aS}{w:bn}{K:a8}{mg:Str->Option a9}{base:bu}{N:List Str}{qual:Str}{scope:dU}{f:ah}{cd:a9}{A:bv}{outer:List Env}{s:ae}{H:Hp}{E:XK}
end
end
end L2
namespace J
open PySem L2
section
open PySem.W (nsIn nsOkIn codeIn fnOf)
theorem R4      (X:K.In h) (G:h.Ns N mg) (e:nsIn K N n=some (some v)):mg n=some v:=by
 obtain ⟨o,es,ep,ho,hd,_,hf⟩:=G;unfold gI at e;split at e
 ·rename_i c d es' n' sl q
  have:=X _ _ q;rw [ho] at this;cases this;cases hd;split at e
  ·rename_i he
   rw [<- hf];unfold nsFind findBy;rw [<- EY,he];cases e;rfl
  ·split at e<;>cases e
 ·cases e
structure SF (K:a8) (x:Str) (C:ah) (st:eJ):Prop where
 ns:nsIn K bK x=some (some (.ref C))
 own:∀ {h:bu}{mg:Str->Option a9},K.In h->h.Ns bK mg->SE x C mg h
 mb:gR K C (.type "BaseException")=some true
 ox:∀ {h:bu},K.In h->∃ bm,Sq h C bm/\∀ v,(v==bt C)=false->gR K C v=some true->bm.contains v=true
theorem topN {K:a8}{x:Str}{C CP fI T0 Nn NP:ah}{st:eJ}{nm qn nmP qnP fq:Str}{bs bsP mroP subP sub:List a9}{sn snP:List Str}{ab abP hdP delP:Bool}{col colP:Option Bool}{dd dP od dT an:Option ah}{k0 k1 k2 k3 k5:Option a9}{c0 kV doc pm cdv ct cT:a9}{slP slF slT:Array (Option a9)}{nT:Nat}{p1 p2 p3 p4:Pos}{cN cM:a9}{dN dM:Option ah}{esN esM:Array DictEntry}{epN epM:Nat}{slN slM:Array (Option a9)}
  (a1:nsIn K bK x=some (some (.ref C))) (a4:gR K C (.type "BaseException")=some true)
  (a2:K.lookup C=some ⟨.type "type",dd,.cls ⟨nm,bs,[.ref C,.ref CP,.type "ValueError",.type "Exception",.type "BaseException",.type "object"],Nn,qn,true,sn,sub,ab,col,false⟩,#[k0,k1,k2,k3,some (.builtin "ValueError.__new__"),k5]⟩)
  (a3:K.lookup CP=some ⟨c0,dP,.cls ⟨nmP,bsP,mroP,NP,qnP,hdP,snP,subP,abP,colP,delP⟩,slP⟩)
  (b1:nsIn K Nn "__init__"=some (some (.ref fI))) (b2:nsIn K Nn "__setattr__"=some none) (b3:nsIn K Nn "number"=some none)
  (c1:nsIn K NP "__init__"=some none) (c2:nsIn K NP "__setattr__"=some none) (c3:nsIn K NP "number"=some none)
  (d1:K.lookup fI=some ⟨.type "function",od,.func (fnOf "__init__" fq (jH st) (hJ st) (aN st) (.ref T0) kV doc pm an cdv ct),slF⟩)
  (d2:K.lookup T0=some ⟨cT,dT,.seq #[.none] nT,slT⟩) (d3:codeIn K cdv fq=true)
  (g1:K.lookup Nn=some ⟨cN,dN,.dict esN epN,slN⟩) (g2:K.lookup NP=some ⟨cM,dM,.dict esM epM,slM⟩) (g3:(esN.toList.all fun e=>match e.key with | .str _ _=>true|_=>false)=true) (g4:(esM.toList.all fun e=>match e.key with | .str _ _=>true|_=>false)=true)
  (f1:hJ st=[.Assign [.Attribute (.Name "self" p1) "number" p2] (.Name "number" p3) p4]) (f2:(aN st).names=[(("self" : Str),oy),(("number" : Str),oy)])
  (f3:(aN st).isCoroutine=false) (f4:(aN st).isGenerator=false) (f5:(aN st).kind=.function)
  (f6:∀ e v,∃ k,KM (fnOf "__init__" fq (jH st) (hJ st) (aN st) (.ref T0) kV doc pm an cdv ct) ⟨[e,v],[]⟩=GE (.ref T0) >>= k/\k (some #[.none])=pure [(("self" : Str),e),(("number" : Str),v)]):SF K x C st:=by
 have e1:nsOkIn K Nn=true:=by unfold GZ;rw [g1];show esN.all _=true;rw [<- uJ];exact g3
 have e2:nsOkIn K NP=true:=by unfold GZ;rw [g2];show esM.all _=true;rw [<- uJ];exact g4
 refine ⟨a1,fun {h mg} X G=>⟨qx X G a1,nm,qn,Nn,bs,_,sn,sub,ab,col,dd,k0,k1,k2,k3,k5,h.nsMap Nn,fI,X _ _ a2,.of_isNs (qO X e1),?_,fP X e1 b2,fP X e1 b3,?_,⟨_,_,p1,p2,p3,p4,X _ _ d1,rfl,rfl,Cc X d3,f3,f4,f5,f2,congrArg FuncBody.stmts f1,fun s e v kb=>?_⟩⟩,a4,fun {h} X=>⟨_,⟨⟨nm,qn,Nn,bs,true,sn,sub,ab,col,dd,k0,k1,k2,k3,k5,_,X _ _ a2⟩,rfl⟩,fun v nv hv=>?_⟩⟩
 ·exact R4 X (.of_isNs (qO X e1)) b1
 ·refine .own (X _ _ a3) (.of_isNs (qO X e2)) (fun n hn=>?_) .base;rcases List.mem_cons.mp hn with z|hn
  ·rw [z];exact fP X e2 c1
  rcases List.mem_cons.mp hn with z|hn
  ·rw [z];exact fP X e2 c2
  ·rw [List.mem_singleton.mp hn];exact fP X e2 c3
 ·obtain ⟨k,k1,k2⟩:=f6 e v;exact BindsTo.of_defaults rfl (kb _ _ (X _ _ d2)) rfl k1 k2
 ·unfold gR xl at hv;rw [a2] at hv;have:(bt C::[bt CP,.type "ValueError",.type "Exception",.type "BaseException",.type "object"]).contains v=true:=by simpa using hv
  rw [List.contains_cons,nv,Bool.false_or] at this;exact this
section
end
end
section
section
end
end
end J
section
namespace L2
open PySem PySem.Spec PyProof.Rows
end L2
namespace L2
open PySem PySem.Spec PyProof.Rows
end L2
namespace J
open PySem L2
end J
end
namespace J
open PySem L2
section
def FQ (i:Nat) (g:ay->R D):ay->R Fl:=fun ρ=>match ρ[i]? with
 |some (Sl.shr (.int a))=>(g ρ).bind fun d=>match d with
  |.int b=>.ok (.nx (ρ.set i (.shr (.int (a+b)))))
  |_=>.no
 |_=>.no
theorem O_     (i:Nat) (h:JE c e g) (hN:c.X.N.Nodup) (hi:c.X.N[i]?=some x:=by rfl) (hx:KC c.X.env.scope x:=by first|exact fV rfl|exact dD rfl)
  (hf:c.X.fn x=true\/c.X.env.scope.names.lookup x=some .local:=by first|exact .inl rfl|exact .inr rfl|assumption):JS c (.AugAssign (.Name x p) .Add e pos) (FQ i g):=.of fun ρ=>by
 refine xw (O4 hN hi hx (h ρ) O5 hf) fun D' σ H hh=>?_;obtain ⟨H0,Hs0,la,Hs,f,q⟩:=hh;replace q:mQ c.X.K c.cls c.E H0 Hs0 la D' (FQ i g ρ):=q;unfold FQ at q;split at q
 ·rename_i a ho
  obtain ⟨v,k1,k2⟩:=f.sh i _ ho;have hv:v=.int a:=by cases k2;rfl
  subst hv;refine ⟨.int a,k1,?_⟩;refine sE f q fun d v H1 Hs1 e1 s1 f1 r1=>?_;rw [e1,bind_ok] at q;cases r1 with
  |int b=>exact ⟨a,b,rfl,rfl,q _ _ Hs1 (f1.set i (.int _))⟩
  |list _ _=>exact q.elim
  |none=>exact q.elim
  |bool _=>exact q.elim
  |str _=>exact q.elim
  |tuple _ _=>exact q.elim
  |dictK _ _=>exact q.elim
  |dictT _ _ _=>exact q.elim
  |dictF _ _ _=>exact q.elim
 ·exact q.elim
end
end J
namespace L2
open PySem PySem.Spec PyProof.Rows
section
section
theorem zE       (I:Nat->ae->Prop)
  (turn:∀ n s,I n s->ao (ar prog w) A (iP it) (fun r s₁=>match r with
   |none=>R (.ok .next) s₁
   |some v=>ao (ar prog w) A (cB target it v) (fun _ s₁'=>ao (ar prog w) A (i9 target env v) (fun _ s₂ =>
     ao (ar prog w) A (forIn ifs true fun c r=>if r=true then do let ok <- kO c env (cj c env);pure (c9 ok) else pure (c9 r)) (fun ok s₃ =>
      if ok=true then ao (ar prog w) A (cj kx env) (fun x s₄=>ao (ar prog w) A (cj vx env) (fun y s₅ =>
       ao (ar prog w) A (dictSet Da x y) (fun _ s₆=>∃ m,m<n/\I m s₆) (fun _ _=>False) s₅) (fun _ _=>False) s₄) (fun _ _=>False) s₃
      else ∃ m,m<n/\I m s₃) (fun _ _=>False) s₂) (fun _ _=>False) s₁') (fun _ _=>False) s₁) (fun _ _=>False) s)
  (n:Nat) (h:I n s) :
  dG (ar prog w) A (.compLoop (.DictComp kx vx [⟨target,iter,ifs,0⟩] scope pos) 0 it (.ref Da) env) R s:=by
 refine qL rfl I (fun n s hI=>?_) n h;show ao _ A ((qd (.DictComp kx vx [⟨target,iter,ifs,0⟩] scope pos) 0 it (.ref Da) env).onRaise (fun x=>do qe x env;m9 x)) _ _ s;refine tF ?_;rw [compTurn_dict];have nf:∀ {α:Type}{t:Sem α}{Q:α->ae->Prop}{E':a9->ae->Prop}{s:ae},ao (ar prog w) A t Q (fun _ _=>False) s->ao (ar prog w) A t Q E' s :=
  fun h=>aO h (fun _ _ q=>q) fun _ _ f=>f.elim
 refine a7 (cF (a7 (nf (aO (turn n s hI) (fun r s₁ h₁=>?_) fun _ _ h'=>h'))));cases r with
 |none=>exact ac h₁
 |some v =>
  refine a7 (nf (aO h₁ (fun _ s₁' h₁'=>?_) fun _ _ h'=>h'));refine a7 (nf (aO h₁' (fun _ s₂ h₂=>a7 (nf (aO h₂ (fun ok s₃ h₃=>?_) fun _ _ h'=>h'))) fun _ _ h'=>h'));cases ok with
  |false=>exact ac ⟨rfl,h₃⟩
  |true =>
   exact a7 (a7 (nf (aO h₃ (fun x s₄ h₄=>a7 (cE (nf (aO h₄ (fun y s₅ h₅=>a7 (cF (cE (nf (aO h₅ (fun _ s₆ h₆=>ac ⟨rfl,h₆⟩) fun _ _ h'=>h'))))) fun _ _ h'=>h')))) fun _ _ h'=>h')))
end
end
end L2
namespace J
open PySem L2
section
section
variable {c:C}{pos:Pos}{x:Str}{kx vx iter tg:a_}{ifs:List a_}{scope:dU}{N':List Str}{nt:Nat}{ix:List Nat}{gi:ay->R (List D)}{gt:ay->R Bool}{gk gv:ay->R D}
def P0 (acc:List (D×D)):D->List (D×D)
 |.tuple [k,v]=>qX acc k v
 |_=>acc
def PD (ys:List D):List (D×D):=ys.foldl P0 []
theorem Jr (ys:List D) (k v:D):PD (ys++[.tuple [k,v]])=qX (PD ys) k v:=by
 unfold PD;rw [List.foldl_append];rfl
def D8 (c:C) (N':List Str) (scope:dU) (nt:Nat) (tg:a_) (ifs:List a_) (kx vx:a_) (gt:ay->R Bool) (gk gv:ay->R D):Prop :=
 ∀ cl A s₀ H₀ ex pn,PG (c.comp N' scope cl A s₀ H₀ ex pn).X tg (w4 c.X.K nt)/\MZ (c.comp N' scope cl A s₀ H₀ ex pn) ifs gt/\JE (c.comp N' scope cl A s₀ H₀ ex pn) kx gk/\JE (c.comp N' scope cl A s₀ H₀ ex pn) vx gv
theorem D8.at (h:D8 c N' scope nt tg ifs kx vx gt gk gv):∀ cl A s₀ H₀ ex pn,PG (b6 c.X N' scope cl A s₀ H₀ ex pn) tg (w4 c.X.K nt)/\Ae (b6 c.X N' scope cl A s₀ H₀ ex pn) ifs (fun σ H Q=>∃ ρ',Af c.X.K c.cls E0 ρ' (gt ρ') σ H Q) /\
  PE (b6 c.X N' scope cl A s₀ H₀ ex pn) kx (fun σ H Q=>∃ ρ',TR c.X.K c.cls E0 ρ' (gk ρ') σ H Q)/\PE (b6 c.X N' scope cl A s₀ H₀ ex pn) vx (fun σ H Q=>∃ ρ',TR c.X.K c.cls E0 ρ' (gv ρ') σ H Q):=fun cl A s₀ H₀ ex pn=>by
 obtain ⟨h1,h2,h3,h4⟩:=h cl A s₀ H₀ ex pn;exact ⟨h1,fun pins s σ H Q I z=>by obtain ⟨ρ',q⟩:=z;exact h2 ρ' pins s σ H Q I q,fun pins s σ H Q I z=>by obtain ⟨ρ',q⟩:=z;exact h3 ρ' pins s σ H Q I q,fun pins s σ H Q I z=>by obtain ⟨ρ',q⟩:=z;exact h4 ρ' pins s σ H Q I q⟩
end
end
end J
section
namespace L2
open PySem PySem.Spec PyProof.Rows
end L2
namespace J
open PySem L2
section
end
end J
end
namespace J
open PySem L2
section
end
section
end
section
def qm (p:HO->Bool) (H Hs:Hp):Hp:=fun b=>match Hs b,H b with
 |some o,_=>some o
 |none,some o=>if p o then some o else none
 |none,none=>none
def ua (p:HO->Bool) (H Hs Hs1:Hp):Hp:=fun b=>match Hs b,H b with
 |none,some o=>if p o then none else Hs1 b
 |_,_=>Hs1 b
section
theorem kL:cz Hs (qm p H Hs):=fun b o e=>by
 unfold qm;rw [e]
theorem wo  (h:H b=some o) (n:Hs b=none) (hp:p o=true):qm p H Hs b=some o:=by
 unfold qm;rw [n,h];exact if_pos hp
theorem wp  (h:qm p H Hs b=some o):Hs b=some o\/(Hs b=none/\H b=some o/\p o=true):=by
 unfold qm at h;split at h
 ·rename_i e;exact .inl (e.trans h)
 ·rename_i u n e
  split at h
  ·rename_i hp;cases h;exact .inr ⟨n,e,hp⟩
  ·cases h
 ·cases h
theorem Js (s:cz Hs H):cz (qm p H Hs) H:=fun b o e=>by
 rcases wp e with h|⟨_,h,_⟩
 ·exact s b o h
 ·exact h
theorem M1 (s:c8 H Hs H' Hs'):cz (qm p H Hs) (qm p H' Hs'):=fun b o e=>by
 rcases wp e with h|⟨n,h,hp⟩
 ·exact kL b o (s.sh b o h)
 ·have h':=s.all b o h;cases n':Hs' b with
  |none=>exact wo h' n' hp
  |some u =>
   have:=s.sub b u n';rw [h'] at this;cases this;exact kL b o n'
theorem M2  (n:Hs b=none) (h:H b=some o) (hp:p o=true):ua p H Hs Hs1 b=none:=by
 unfold ua;rw [n,h];exact if_pos hp
theorem zF (h:∀ o,Hs b=none->H b=some o->p o=false):ua p H Hs Hs1 b=Hs1 b:=by
 unfold ua;split
 ·rename_i o n e
  rw [h o n e];rfl
 ·rfl
theorem Jt:cz (ua p H Hs Hs1) Hs1:=fun b o e=>by
 unfold ua at e;split at e
 ·split at e
  ·cases e
  ·exact e
 ·exact e
theorem yn (sub:cz Hs H) (s:c8 H (qm p H Hs) H' Hs1):c8 H Hs H' (ua p H Hs Hs1):=by
 refine ⟨s.all,fun b o e=>?_,Jt.trans s.sub,fun a o e t n=>?_⟩
 ·rw [zF fun o' n _=>by rw [e] at n;cases n];exact s.sh b o (kL b o e)
 ·cases hp:p o with
  |true=>exact M2 n e hp
  |false =>
   rw [zF fun o' _ e'=>by rw [e] at e';cases e';exact hp];refine s.out a o e t ?_;unfold qm;rw [n,e];simp only [hp];rfl
end
structure R5 (p:HO->Bool) (ok:D->Bool):Prop where
 rd:∀ {K:a8}{H Hs H' Hs1:Hp},c8 H (qm p H Hs) H' Hs1->∀ {v d},ok d=true->RD K Hs1 v d->RD K (ua p H Hs Hs1) v d
def uT:HO->Bool
 |.dK _=>true
 |.dT _=>true
 |.frz _ (.dT _)=>true
 |_=>false
theorem yo:R5 uT nh:=.mk fun {K H Hs H' Hs1} s {v d} hd r=>by
 have key:∀ (a:ah) (u:HO),uT u=false->Hs1 a=some u->ua uT H Hs Hs1 a=some u:=fun a u hu e=>by
  rw [zF fun o n h=>?_]
  ·exact e
  ·cases hp:uT o with
   |false=>rfl
   |true =>
    have:=s.sh a o (wo h n hp);rw [e] at this;cases this;rw [hu] at hp;cases hp
 have kl:∀ (a:ah) (xs:List V),lz K Hs1 a xs->lz K (ua uT H Hs Hs1) a xs:=fun a xs q=>by
  rcases q with (q|⟨o,q⟩)|q
  ·exact .inl (.inl (key a _ rfl q))
  ·exact .inl (.inr ⟨o,key a _ rfl q⟩)
  ·exact .inr q
 exact RD.rec (motive_1:=fun v d _=>nh d=true->RD K (ua uT H Hs Hs1) v d) (motive_2:=fun v d _=>noDs d=true->RDs K (ua uT H Hs Hs1) v d) (motive_3:=fun _ _ _=>True) (motive_4:=fun _ _ _=>True)
  (fun _=>.none) (fun b _=>.bool b) (fun i _=>.int i) (fun x _=>.str x) (fun h _ r e=>.list (kl _ _ h) (r e)) (fun h _ r e=>.tuple (key _ _ rfl h) (r e)) (fun _ _ _ e=>by cases e) (fun _ _ _ _ e=>by cases e) (fun _ _ _ _ e=>by cases e)
  (fun _=>.nil) (fun _ _ a b e=>.cons (a (MP e)) (b (MQ e))) trivial (fun _ _ _ _=>trivial) trivial (fun _ _ _ _=>trivial) r hd
inductive M3 (p:HO->Bool) (K:a8) (cls:Str->ah) (E:XK) (ρ:ay) (r:R (List D)) (σ:St) (H:Hp) (Q:List V->Hp->Prop):Prop
 |mk (H0 Hs0:Hp) (la:Nat->Option ah) (Hs:Hp) (f:Fr K H0 Hs0 la ρ σ H Hs) (q:Fin K cls E H Hs r fun d=>∀ v H' Hs',c8 H Hs H' Hs'->RDs K (qm p H' Hs') v d->Q v H'):M3 p K cls E ρ r σ H Q
structure JL (p:HO->Bool) (c:C) (es:List a_) (g:ay->R (List D)):Prop where of ::
 run:∀ ρ,PA c.X es (M3 p c.X.K c.cls c.E ρ (g ρ))
section
theorem P1 {K:a8}{cls:Str->ah}{E:XK}{ρ:ay}{r:R (List D)}{β:Type}{k:List D->R β}{σ:St}{H:Hp}{H0 Hs0 Hs:Hp}{la:Nat->Option ah}{Q:List V->Hp->Prop}{q:β->Prop} (f:Fr K H0 Hs0 la ρ σ H Hs)
  (h:Fin K cls E H Hs (r.bind k) q) (m:∀ d v H' Hs',r=.ok d->c8 H Hs H' Hs'->Fr K H0 Hs0 la ρ σ H' Hs'->RDs K (qm p H' Hs') v d->Q v H'):M3 p K cls E ρ r σ H Q:=by
 refine ⟨H0,Hs0,la,Hs,f,?_⟩;cases r with
 |ok d=>exact fun v H' Hs' s r=>m d v H' Hs' rfl s (f.step s) r
 |ex c n=>exact h
 |no=>exact h
theorem Ju:JL p c [] aV:=.of fun ρ=>OC iR fun σ H Q h=>by obtain ⟨H0,Hs0,la,Hs,f,q⟩:=h;exact q [] H Hs (.refl f.st.sub) .nil
theorem Ei (h:JE c e g) (hr:JL p c es gs) (hs:aE (e::es) c.X.env=(false,cj e c.X.env)::aE es c.X.env:=by rfl):JL p c (e::es) (ag g gs):=.of fun ρ=>OC (fY (h ρ) (hr.run ρ) hs) fun σ H Q h=>by
 obtain ⟨H0,Hs0,la,Hs,f,q⟩:=h;refine zk f q fun d v H1 Hs1 e1 s1 f1 r1=>?_;unfold ag at q;rw [e1,bind_ok] at q;refine P1 f1 (q.on s1 (q':=fun _=>True) fun _ _=>trivial) fun ds vs H2 Hs2 e2 s2 f2 r2=>?_;rw [e2,bind_ok] at q;exact q _ H2 Hs2 (s1.trans s2) (.cons ((r1.same s2.sh).same kL) r2)
def yp (i:Nat) (ρ:ay):R D:=match ρ[i]? with
 |some (Sl.shr d)=>.ok d
 |some (Sl.own (.dict ds))=>.ok (.dict ds)
 |_=>.no
theorem Jv (i:Nat)  (hr:JL uT c es gs) (hN:c.X.N[i]?=some x:=by rfl) (hv:GK c.X.env.scope x:=by first|exact fV rfl|exact dD (fV rfl)|exact dD (dD rfl)) (hd:(x==("__debug__" : Str))=false:=by decide)
  (hcd:(x==("__classdict__" : Str))=false:=by decide) (hs:aE (.Name x ps::es) c.X.env=(false,cj (.Name x ps) c.X.env)::aE es c.X.env:=by rfl):JL uT c (.Name x ps::es) (ag (yp i) gs):=.of fun ρ=>OC (fY (nu hN hv hd hcd) (hr.run ρ) hs) fun σ H Q h=>by
 obtain ⟨H0,Hs0,la,Hs,f,q⟩:=h;have go:∀ d v,yp i ρ=.ok d->σ[i]?=some (some v)->RD c.X.K (qm uT H Hs) v d->∃ v,σ[i]?=some (some v)/\M3 uT c.X.K c.cls c.E ρ (gs ρ) σ H (fun vs H'=>Q (v::vs) H'):=fun d v e1 h1 r1=>by
  refine ⟨v,h1,?_⟩;unfold ag at q;rw [e1,bind_ok] at q;refine P1 f q fun ds vs H2 Hs2 e2 s2 f2 r2=>?_;rw [e2,bind_ok] at q;exact q _ H2 Hs2 s2 (.cons (r1.same (M1 s2)) r2)
 cases hr:ρ[i]? with
 |none=>unfold ag at q;simp only [yp,hr] at q;exact q.elim
 |some s =>
  cases s with
  |shr d =>
   obtain ⟨v,h1,h2⟩:=f.sh i d hr;obtain ⟨w,k1,k2⟩:=go d v (by simp only [yp,hr]) h1 (h2.same kL);exact ⟨w,k1,k2⟩
  |no=>unfold ag at q;simp only [yp,hr] at q;exact q.elim
  |lck d=>unfold ag at q;simp only [yp,hr] at q;exact q.elim
  |ow2 d=>unfold ag at q;simp only [yp,hr] at q;exact q.elim
  |own d =>
   cases d with
   |dict ds =>
    obtain ⟨a,o,h1,h2,h3,h4,h5⟩:=f.ow i _ hr;have hp:uT o=true:=by cases h5<;>rfl
    have Z:=go _ _ (by simp only [yp,hr]) h1 ((h5.share h3).same fun b u e=>?_)
    ·obtain ⟨w,k1,k2⟩:=Z;exact ⟨w,k1,k2⟩
    by_cases hb:b=a
    ·subst hb;rw [bi] at e;cases e;exact wo h2 h3 hp
    ·rw [bh hb] at e;exact kL b u e
   |none=>unfold ag at q;simp only [yp,hr] at q;exact q.elim
   |bool _=>unfold ag at q;simp only [yp,hr] at q;exact q.elim
   |int _=>unfold ag at q;simp only [yp,hr] at q;exact q.elim
   |str _=>unfold ag at q;simp only [yp,hr] at q;exact q.elim
   |list _=>unfold ag at q;simp only [yp,hr] at q;exact q.elim
   |tuple _=>unfold ag at q;simp only [yp,hr] at q;exact q.elim
def SG (ok:D->Bool):R D->R D
 |.ok d=>if ok d then .ok d else .no
 |.ex c none=>.ex c none
 |_=>.no
def B9 (ok:D->Bool) (n:Nat) (F:List D->R D) (gs:ay->R (List D)):ay->R D:=fun ρ=>(gs ρ).bind fun ds=>if ds.length=n then SG ok (F ds) else .no
theorem Tr   (L:R5 p ok)  (G:Fn c.X.prog c.X.w c.X.K c.X.mg c.X.base c.cls x k n F) (hr:jT j c.X.A) (hx:oM (w_ c.X.prog c.X.w) c.X c.E) (ha:JL p c (e::es) gs)
  (hk:k<=j:=by decide) (hg:Gl c.X x:=by exact rfl) (hdb:(x==("__debug__" : Str))=false:=by decide) (he:aE (e::es) c.X.env=(false,cj e c.X.env)::aE es c.X.env:=by rfl) (hpl:(gE pos (aE es c.X.env)).any (·.1)=false:=by rfl) :
  JE c (.Call (.Name x pn) (e::es) [] pos) (B9 ok n F gs):=.of fun ρ=>by
 obtain ⟨f,fd,ps,hf,hm,hk',hb⟩:=G.ex;refine rK (DM (E:=c.E) hf (hr.mono hk) hg hm hk' hb .nil hx (ha.run ρ) hdb he hpl) fun σ H Q h_0=>?_;obtain ⟨H0,Hs0,la,Hs,fr,q⟩:=h_0;refine P1 fr q fun ds vs H1 Hs1 e1 s1 f1 r1=>?_;unfold B9 at q;rw [e1,bind_ok] at q;by_cases hn:ds.length=n
 ·rw [if_pos hn] at q;show LP _ _ _ _ (vs++[]) _ _ _;rw [bC];refine ⟨qm p H1 Hs1,ds,Js f1.st.sub,hn,r1,?_⟩;cases hF:F ds with
  |no=>rw [hF] at q;exact q.elim
  |ex y m =>
   rw [hF] at q;cases m with
   |some d=>exact q.elim
   |none=>exact fun H2 Hs2 s2=>by have z:=q H2 (ua p H1 Hs1 Hs2) (s1.trans (yn f1.st.sub s2));exact z
  |ok d =>
   rw [hF] at q;unfold SG at q;simp only at q;by_cases ho:ok d=true
   ·rw [if_pos ho] at q;exact fun v H2 Hs2 s2 r2=>q v H2 _ (s1.trans (yn f1.st.sub s2)) (L.rd s2 ho r2)
   ·rw [if_neg ho] at q;exact q.elim
 ·rw [if_neg hn] at q;exact q.elim
end
end
section
section
end
end
end J
section
namespace L2
open PySem PySem.Spec PyProof.Rows
end L2
namespace J
open PySem L2
end J
end
namespace J
open PySem L2
section
section
end
end
end J
section
namespace L2
open PySem PySem.Spec PyProof.Rows
inductive R6 (X:Cx) (CX:Fj) (E:XK) (t:TA) (σ:St) (Q:VK) (v:V) (H1:Hp):Prop
 |mk (k:Nat) (f:ah) (fd:eQ) (ps:List Str) (sp:Sp) (h0:v=.ref f) (F:qi X.prog X.w X.K X.mg X.base CX k f fd ps sp) (hr:jT k X.A) (hk:eX X.K (.ref f)=true) (hb:kn X.K fd ps []) (q:ME sp [] E t σ H1 Q):R6 X CX E t σ Q v H1
end L2
namespace J
open PySem L2
inductive yq (c:C) (n j:Nat):List a_->List (List D->R D)->List ah->Prop
 |nil:yq c n j [] [] []
 |cons {x:Str}{p:Pos}{F:List D->R D}{k:Nat}{f:ah}{fd:eQ}{ps:List Str}{es:List a_}{Fs:List (List D->R D)}{as:List ah} (hf:qi c.X.prog c.X.w c.X.K c.X.mg c.X.base (w_ c.X.prog c.X.w) k f fd ps (LP c.X.K c.cls n F)) (hm:c.X.mg x=some (.ref f)) (hk:eX c.X.K (.ref f)=true) (hb:kn c.X.K fd ps []) (hj:k<=j) (hg:Gl c.X x) (hdb:(x==("__debug__" : Str))=false) (r:yq c n j es Fs as):yq c n j (.Name x p::es) (F::Fs) (f::as)
structure Pk (c:C) (n j:Nat) (es:List a_) (Fs:List (List D->R D)):Prop where
 ex:∃ as,yq c n j es Fs as
section
inductive Jw (c:C) (n j:Nat) (F:List D->R D) (f:ah):Prop
 |mk (k:Nat) (fd:eQ) (ps:List Str) (hf:qi c.X.prog c.X.w c.X.K c.X.mg c.X.base (w_ c.X.prog c.X.w) k f fd ps (LP c.X.K c.cls n F)) (hk:eX c.X.K (.ref f)=true) (hb:kn c.X.K fd ps []) (hj:k<=j):Jw c n j F f
theorem FR (h:yq c n j es Fs as):∀ {i:Nat}{F:List D->R D},Fs[i]?=some F->∃ f,as[i]?=some f/\Jw c n j F f:=by
 induction h with
 |nil=>intro i F e;simp at e
 | @cons x p F k f fd ps es Fs as hf hm hk hb hj hg hdb r ih =>
  intro i F e;cases i with
  |zero=>cases e;exact ⟨f,rfl,k,fd,ps,hf,hk,hb,hj⟩
  |succ i=>have q:=ih (i:=i) e;exact q
def Nx (Fs:List (List D->R D)) (n:Nat) (gi:ay->R D) (gs:ay->R (List D)) (ρ:ay):R Fl:=(gi ρ).bind fun d=>match d with
 |.int k=>if 0<=k then (match Fs[k.toNat]? with
  |some F=>(gs ρ).bind fun ds=>if ds.length=n then (F ds).bind fun d=>.ok (.rt d) else .no
  |none=>.no) else .no
 |_=>.no
theorem z9       (P:yq c n j es Fs as) (hr:jT j c.X.A) (f:Fr c.X.K H0 Hs0 la ρ σ H Hs) (ha:H a=some (.lst (as.map V.ref))) (q:mQ c.X.K c.cls c.E H0 Hs0 la D' (Nx Fs n gi gs ρ)) :
  TR c.X.K c.cls c.E ρ (gi ρ) σ H fun y H2=>Qc c.X.K (.ref a) y H2 (R6 c.X (w_ c.X.prog c.X.w) c.E (RA c.X.K c.cls c.E ρ (gs ρ)) σ D'.rt):=by
 refine sE f q fun d v H2 Hs2 e1 s1 f2 r1=>?_;unfold Nx at q;rw [e1,bind_ok] at q;cases r1 with
 |int k =>
  simp only at q;by_cases hk:0<=k
  ·rw [if_pos hk] at q;split at q
   ·rename_i F hF
    obtain ⟨g,h1,k',fd,ps,hf,hkp,hb,hj⟩:=FR P hF;have hix:C9 (as.map V.ref) k=some (.ref g):=by
     have:=pI (xs:=as.map V.ref) (j:=k.toNat) (v:=V.ref g) (by rw [aW,h1];rfl)
     rwa [dW hk] at this
    refine ⟨a,as.map V.ref,k,.ref g,rfl,rfl,.of (s1.all _ _ ha),hix,k',g,fd,ps,_,rfl,hf,hr.mono hj,hkp,hb,H0,Hs0,la,Hs2,f2,?_⟩;cases hg:gs ρ with
    |no=>rw [hg] at q;exact q.elim
    |ex y m=>rw [hg] at q;exact fun H3 Hs3 s3=>q H3 Hs3 (f2.st.trans s3)
    |ok ds =>
     rw [hg,bind_ok] at q;intro vs H3 Hs3 s3 r3;have f3:=f2.step s3;by_cases hn:ds.length=n
     ·rw [if_pos hn] at q;show LP _ _ _ _ (vs++[]) _ _ _;rw [bC];refine ⟨Hs3,ds,f3.st.sub,hn,r3,?_⟩;cases hFd:F ds with
      |no=>rw [hFd] at q;exact q.elim
      |ex y m=>rw [hFd] at q;exact fun H4 Hs4 s4=>q H4 Hs4 (f3.st.trans s4)
      |ok d=>rw [hFd] at q;exact fun v H4 Hs4 s4 r4=>q v H4 Hs4 (f3.st.trans s4) r4
     ·rw [if_neg hn] at q;exact q.elim
   ·exact q.elim
  ·rw [if_neg hk] at q;exact q.elim
 |list _ _=>exact q.elim
 |none=>exact q.elim
 |bool _=>exact q.elim
 |str _=>exact q.elim
 |tuple _ _=>exact q.elim
 |dictK _ _=>exact q.elim
 |dictT _ _ _=>exact q.elim
 |dictF _ _ _=>exact q.elim
end
end J
namespace J
open PySem L2
end J
end
namespace TS
open PySem PyProof.Rows
section
def M4:Bool->bX->Array bX->Nat->Nat->Nat->StateT dS Sem (Option Nat):=sortPriv% PySem.Builtin.gallop
section
variable {prog:aS}{w:bn}{A:bv}{E:a9->ae->Prop}{s:ae}{kd:lE}{rk:a9->Nat}{L:List bX}
def Cp (prog:aS) (w:bn) (A:bv) (s:ae) (kd:lE) (rk:a9->Nat) (L:List bX):Prop :=
 ∀ x∈L,∀ y∈L,∀ (Q:Bool->ae->Prop) (E:a9->ae->Prop),Q (decide (rk x.1<rk y.1)) s->ao (ar prog w) A (keyLt' kd x.1 y.1) Q E s
theorem Jx {x y:bX}{Q:Option Bool->dS->Prop}{st:dS} (hC:Cp prog w A s kd rk L) (hk:kindOf st=kd) (hx:x∈L) (hy:y∈L)
  (h:Q (some (decide (rk x.1<rk y.1))) st):wpS (ar prog w) A E s (lt' x y) Q st:=by
 rw [lt'_eq];refine ax (lw ?_);rw [hk];exact ax (qf (oB (hC x hx y hy _ _ ⟨rfl,aK h⟩)))
theorem e_ {a:Array bX}{i:Nat}{p:bX}{Q:bX->dS->Prop}{st:dS} (hi:a[i]?=some p) (h:Q p st):wpS (ar prog w) A E s (elem' a i) Q st:=by
 rw [elem'_eq,hi];exact aK h
structure R7 (rk:a9->Nat) (L:List bX) (a:Array bX) (b n:Nat) (g:Nat->Nat):Prop where
 at_:∀ i,i<n->∃ p,a[b+i]?=some p/\p∈L/\rk p.1=g i
 up:∀ i j,i<j->j<n->g i<g j
variable {l:Bool}{k:bX}{a:Array bX}{b n h i:Nat}{g:Nat->Nat}{st:dS}
theorem Ej (hC:Cp prog w A s kd rk L) (hk:kindOf st=kd) (hr:R7 rk L a b n g) (hx:k∈L) (hne:∀ i,i<n->g i≠rk k.1) (hi:i<n)
  (h:Q (some (decide (g i<rk k.1))) st):wpS (ar prog w) A E s (do
   let x <- elem' a (b+i)
   if l=true then lt' x k else do
    let o <- lt' k x
    pure (o.map (fun x=>!x))) Q st:=by
 obtain ⟨p,e,m,r⟩:=hr.at_ i hi;refine ax (e_ e ?_);cases l with
 |true=>rw [if_pos rfl];refine Jx hC hk m hx ?_;rw [r];exact h
 |false =>
  rw [if_neg (by decide)];refine ax (Jx hC hk hx m (aK ?_));have e:(!decide (rk k.1<rk p.1))=decide (g i<rk k.1):=by
   have:=hne i hi;rw [r];rcases Nat.lt_trichotomy (g i) (rk k.1) with h|h|h
   ·simp [h,bH h]
   ·exact absurd h this
   ·simp [h,Nat.not_lt.2 (bH h)]
  rw [cO,e];exact h
theorem mT (hC:Cp prog w A s kd rk L) (hk:kindOf st=kd) (hr:R7 rk L a b n g) (hx:k∈L) (hne:∀ i,i<n->g i≠rk k.1) (hh:h<n)
  (q:∀ m,m<=n->(∀ i,i<m->g i<rk k.1)->(∀ i,m<=i->i<n->rk k.1<g i)->Q (some m) st):wpS (ar prog w) A E s (M4 l k a b n h) Q st:=by
 have lo_of:∀ j,j<n->g j<rk k.1->∀ i,i<j+1->g i<rk k.1:=fun j hj hl i hi=>by
  rcases cn i j with h|h
  ·exact dw (hr.up i j h hj) hl
  ·rw [show i=j by omega];exact hl
 have hi_of:∀ j,j<n->¬ g j<rk k.1->∀ i,j<=i->i<n->rk k.1<g i:=fun j hj hl i hi hn=>by
  have h1:=hne j hj;have h2:rk k.1<g j:=by omega
  rcases cn j i with h|h
  ·exact dw h2 (hr.up j i h hn)
  ·rw [show i=j by omega];exact h2
 refine ax (Ej hC hk hr hx hne hh ?_);dsimp (config:={ zeta:=false }) only;extract_lets jp;have J:∀ x y lo hi,lo<=hi->hi<=n->(∀ i,i<lo->g i<rk k.1)->(∀ i,hi<=i->i<n->rk k.1<g i)->wpS (ar prog w) A E s (jp () x y lo hi) Q st:=by
  intro x y lo hi h1 h2 h3 h4;refine ax (e8 (cw (I:=fun x c st'=>st'=st/\∃ l r,c=(none,l,r)/\l<=r/\r<=n/\r-l<=n-x/\(∀ i,i<l->g i<rk k.1)/\(∀ i,r<=i->i<n->rk k.1<g i))
   (Q:=fun c st'=>st'=st/\∃ l,c=(none,l,l)/\l<=n/\(∀ i,i<l->g i<rk k.1)/\(∀ i,l<=i->i<n->rk k.1<g i)) ?_ ?_ ⟨rfl,lo,hi,rfl,h1,h2,by omega,h3,h4⟩) ?_)
  ·rintro x c st' - hx' ⟨rfl,l,r,rfl,a1,a2,a3,a4,a5⟩;dsimp only;by_cases hge:l ≥ r
   ·rw [if_pos hge];have:l=r:=by omega
    subst this;exact aK ⟨rfl,l,rfl,a2,a4,a5⟩
   ·rw [if_neg hge];refine ax (Ej hC hk hr hx hne (by omega) ?_);dsimp only;by_cases hb:g (l+(r-l) / 2)<rk k.1
    ·rw [if_pos (by simpa using hb)];exact aK ⟨rfl,_,r,rfl,by omega,a2,by omega,lo_of _ (by omega) hb,a5⟩
    ·rw [if_neg (by simpa using hb)];exact aK ⟨rfl,l,_,rfl,by omega,by omega,by omega,a4,hi_of _ (by omega) hb⟩
  ·rintro c st' ⟨rfl,l,r,rfl,a1,a2,a3,a4,a5⟩;have:l=r:=by omega
   subst this;exact ⟨rfl,l,rfl,a2,a4,a5⟩
  ·rintro c st' ⟨rfl,l,rfl,a2,a4,a5⟩;exact aK (q l a2 a4 a5)
 by_cases hb:g h<rk k.1
 ·rw [if_pos (by simpa using hb)];refine ax (e8 (cw (I:=fun x c st'=>st'=st/\∃ u v,c=(none,u,v)/\u<v/\x<v/\h+u<n/\g (h+u)<rk k.1)
   (Q:=fun c st'=>st'=st/\∃ u v,c=(none,u,v)/\u<v/\h+u<n/\g (h+u)<rk k.1/\(n-h<=v\/(h+v<n/\¬ g (h+v)<rk k.1))) ?_ ?_ ⟨rfl,0,1,rfl,by omega,by omega,by omega,hb⟩) ?_)
  ·rintro x c st' - hx' ⟨rfl,u,v,rfl,a1,a2,a3,a4⟩;dsimp only;by_cases hge:v ≥ n-h
   ·rw [if_pos hge];exact aK ⟨rfl,u,v,rfl,a1,a3,a4,.inl hge⟩
   ·rw [if_neg hge];refine ax (Ej hC hk hr hx hne (by omega) ?_);dsimp only;by_cases hc:g (h+v)<rk k.1
    ·rw [if_neg (by simp [hc])];exact aK ⟨rfl,v,_,rfl,by omega,by omega,by omega,hc⟩
    ·rw [if_pos (by simp [hc])];exact aK ⟨rfl,u,v,rfl,a1,a3,a4,.inr ⟨by omega,hc⟩⟩
  ·rintro c st' ⟨rfl,u,v,rfl,a1,a2,a3,a4⟩;exact ⟨rfl,u,v,rfl,a1,a3,a4,.inl (by omega)⟩
  ·rintro c st' ⟨rfl,u,v,rfl,a1,a3,a4,a5⟩;refine J u v (h+u+1) (h+min v (n-h)) (by omega) (by omega) (lo_of _ a3 a4) ?_;rcases Nat.le_total (n-h) v with h1|h1
   ·intro i h2 h3;rw [Nat.min_eq_right h1] at h2;omega
   ·rcases a5 with a5|⟨a5,a6⟩
    ·intro i h2 h3;rw [kS h1] at h2;omega
    ·rw [kS h1];exact hi_of _ a5 a6
 ·rw [if_neg (by simpa using hb)];refine ax (e8 (cw (I:=fun x c st'=>st'=st/\∃ u v,c=(none,u,v)/\u<v/\x<v/\u<=h/\¬ g (h-u)<rk k.1)
   (Q:=fun c st'=>st'=st/\∃ u v,c=(none,u,v)/\u<v/\u<=h/\¬ g (h-u)<rk k.1/\(h+1<=v\/(v<=h/\g (h-v)<rk k.1))) ?_ ?_ ⟨rfl,0,1,rfl,by omega,by omega,by omega,hb⟩) ?_)
  ·rintro x c st' - hx' ⟨rfl,u,v,rfl,a1,a2,a3,a4⟩;dsimp only;by_cases hge:v ≥ h+1
   ·rw [if_pos hge];exact aK ⟨rfl,u,v,rfl,a1,a3,a4,.inl hge⟩
   ·rw [if_neg hge];refine ax (Ej hC hk hr hx hne (by omega) ?_);dsimp only;by_cases hc:g (h-v)<rk k.1
    ·rw [if_pos (by simp [hc])];exact aK ⟨rfl,u,v,rfl,a1,a3,a4,.inr ⟨by omega,hc⟩⟩
    ·rw [if_neg (by simp [hc])];exact aK ⟨rfl,v,_,rfl,by omega,by omega,by omega,hc⟩
  ·rintro c st' ⟨rfl,u,v,rfl,a1,a2,a3,a4⟩;exact ⟨rfl,u,v,rfl,a1,a3,a4,.inl (by omega)⟩
  ·rintro c st' ⟨rfl,u,v,rfl,a1,a3,a4,a5⟩;refine J u v (h+1-min v (h+1)) (h-u) (by omega) (by omega) ?_ (hi_of _ (by omega) a4);rcases a5 with a5|⟨a5,a6⟩
   ·intro i h2;omega
   ·intro i h2;exact lo_of (h-v) (by omega) a6 i (by omega)
end
end
section
structure Mg {α:Type} (lt:α->α->Prop) (T out ra rb:List α):Prop where
 perm:(out++ra++rb).Perm T
 so:out.Pairwise lt
 sa:ra.Pairwise lt
 sb:rb.Pairwise lt
 oa:∀ x∈out,∀ y∈ra,lt x y
 ob:∀ x∈out,∀ y∈rb,lt x y
section
variable {α:Type}{lt:α->α->Prop}{T out ra rb p:List α}
theorem Mg.comm (h:Mg lt T out ra rb):Mg lt T out rb ra :=
 ⟨by
  refine ng ?_ h.perm;rw [cC,cC];exact List.Perm.append_left _ List.perm_append_comm,h.so,h.sb,h.sa,h.ob,h.oa⟩
theorem Mg.take (h:Mg lt T out (p++ra) rb) (hp:∀ x∈p,∀ y∈rb,lt x y):Mg lt T (out++p) ra rb:=by
 have s2:=fW.1 h.sa;refine ⟨by simpa [cC] using h.perm,fW.2 ⟨h.so,s2.1,fun x hx y hy=>h.oa x hx y (bP _ hy)⟩,s2.2.1,h.sb,?_,?_⟩
 ·intro x hx y hy;rcases cf.1 hx with hx|hx
  ·exact h.oa x hx y (af _ hy)
  ·exact s2.2.2 x hx y hy
 ·intro x hx y hy;rcases cf.1 hx with hx|hx
  ·exact h.ob x hx y hy
  ·exact hp x hx y hy
theorem Mg.fin (h:Mg lt T out ra rb) (hp:∀ x∈ra,∀ y∈rb,lt x y):(out++ra++rb).Perm T/\(out++ra++rb).Pairwise lt :=
 ⟨h.perm,fW.2 ⟨fW.2 ⟨h.so,h.sa,h.oa⟩,h.sb,fun x hx y hy=>(cf.1 hx).elim (fun hx=>h.ob x hx y hy) fun hx=>hp x hx y hy⟩⟩
end
section
variable {a:Array bX}{i k:Nat}{x:bX}
theorem Ba (h:x∈a.toList.drop i):∃ j,i<=j/\a[j]?=some x:=by
 obtain ⟨n,hn⟩:=jO.1 h;rw [t5] at hn;exact ⟨i+n,by omega,by rw [<- aY];exact hn⟩
theorem mi (h:x∈(a.toList.drop i).take k):∃ j,i<=j/\j<i+k/\a[j]?=some x:=by
 obtain ⟨n,hn⟩:=jO.1 h;rw [GI] at hn;split at hn
 ·rw [t5] at hn;exact ⟨i+n,by omega,by omega,by rw [<- aY];exact hn⟩
 ·cases hn
theorem Bb (h:x∈a.toList.take k):∃ j,j<k/\a[j]?=some x:=by
 obtain ⟨j,_,h1,h2⟩:=mi (i:=0) (k:=k) h;exact ⟨j,by omega,h2⟩
theorem eE (h:a[i]?=some x):x∈a.toList:=by
 rw [<- aY] at h;exact dC h
theorem Ek (h:a[i]?=some x):a.toList.drop i=[x]++a.toList.drop (i+1):=by
 rw [<- aY] at h;obtain ⟨hl,rfl⟩:=my.1 h;exact mx hl
theorem El (h:a[i]?=some x):a.toList.take (i+1)=a.toList.take i++[x]:=by
 rw [<- aY] at h;rw [G_,h];rfl
theorem yr:a.toList.drop i=(a.toList.drop i).take k++a.toList.drop (i+k):=by
 rw [<- xN];exact (fz k _).symm
theorem f9 (h:i<a.size):∃ p,a[i]?=some p:=⟨a[i],fG h⟩
theorem Bc:(a.extract i (i+k)).toList=(a.toList.drop i).take k:=by
 rw [fQ,dR,List.take_drop]
theorem pR:(a.extract i a.size).toList=a.toList.drop i:=by
 rw [fQ,dR];rw [ju (by simp)]
end
def M5 (rk:a9->Nat) (a:Array bX):Prop:=∀ (i j:Nat) (p q:bX),i<j->a[i]?=some p->a[j]?=some q->rk p.1<rk q.1
def dk (rk:a9->Nat) (a:Array bX) (i:Nat):Nat:=(a[i]?.map fun p=>rk p.1).getD 0
section
variable {rk:a9->Nat}{a:Array bX}{L:List bX}
theorem bx  (h:a[i]?=some p):dk rk a i=rk p.1:=by unfold dk;rw [h];rfl
theorem M5.pw (h:M5 rk a):a.toList.Pairwise fun x y=>rk x.1<rk y.1:=by
 rw [mz];intro i j hi hj hij;exact h i j _ _ hij (by rw [<- aY];exact bq hi) (by rw [<- aY];exact bq hj)
theorem M5.run (h:M5 rk a) (hL:∀ p∈a.toList,p∈L) (hn:b+n<=a.size):R7 rk L a b n (fun i=>dk rk a (b+i)):=by
 refine ⟨fun i hi=>?_,fun i j hij hj=>?_⟩
 ·obtain ⟨p,hp⟩:=f9 (a:=a) (i:=b+i) (by omega);exact ⟨p,hp,hL p (eE hp),(bx hp).symm⟩
 ·obtain ⟨p,hp⟩:=f9 (a:=a) (i:=b+i) (by omega);obtain ⟨q,hq⟩:=f9 (a:=a) (i:=b+j) (by omega);show dk rk a _<dk rk a _;rw [bx hp,bx hq];exact h _ _ p q (by omega) hp hq
end
end
section
def Jy:Array bX->Array bX->StateT dS Sem (Array bX):=sortPriv% PySem.Builtin.mergeLo
def R8:Nat->StateT dS Sem Unit:=sortPriv% PySem.Builtin.setMinGallop
def Sm (st st':dS):Prop:=kindOf st'=kindOf st/\aI st'=aI st/\bD st'=bD st/\tP st'=tP st
section
variable {prog:aS}{w:bn}{A:bv}{E:a9->ae->Prop}{s:ae}{kd:lE}{rk:a9->Nat}{L:List bX}{st st':dS}
theorem Sm.rfl:Sm st st:=⟨L5 _,L5 _,L5 _,L5 _⟩
theorem zG   (hm:Sm st0 st) (h:∀ st',Sm st0 st'->Q () st'):wpS (ar prog w) A E s (R8 n) Q st :=
 nr (h _ hm)
structure Jz (rk:a9->Nat) (L:List bX) (a b:Array bX):Prop where
 sa:M5 rk a
 sb:M5 rk b
 la:∀ p∈a.toList,p∈L
 lb:∀ p∈b.toList,p∈L
 ne:∀ p∈a.toList,∀ q∈b.toList,rk p.1≠rk q.1
def P2 (rk:a9->Nat) (x y:bX):Prop:=rk x.1<rk y.1
def mU (rk:a9->Nat) (a b r:Array bX):Prop:=r.toList.Perm (a.toList++b.toList)/\r.toList.Pairwise (P2 rk)
def V (rk:a9->Nat) (a b out:Array bX) (ia ib:Nat):Prop:=Mg (P2 rk) (a.toList++b.toList) out.toList (a.toList.drop ia) (b.toList.drop ib)
variable {a b out:Array bX}{ia ib k:Nat}{p q:bX}
theorem vk {x y:bX} (t:M5 rk b) (hq:b[ib]?=some q) (h:rk x.1<rk q.1) (hy:y∈b.toList.drop ib):rk x.1<rk y.1:=by
 obtain ⟨j,hj,e⟩:=Ba hy;rcases cn ib j with h1|h1
 ·exact dw h (t _ _ _ _ h1 hq e)
 ·rw [show j=ib by omega,hq] at e;cases e;exact h
theorem V.pushA (v:V rk a b out ia ib) (t:Jz rk L a b) (hp:a[ia]?=some p) (hq:b[ib]?=some q) (h:rk p.1<rk q.1):V rk a b (out.push p) (ia+1) ib:=by
 unfold V at *;rw [i3];rw [Ek hp] at v;exact v.take fun x hx y hy=>by
  rw [bZ.1 hx];exact vk t.sb hq h hy
theorem V.pushB (v:V rk a b out ia ib) (t:Jz rk L a b) (hp:a[ia]?=some p) (hq:b[ib]?=some q) (h:rk q.1<rk p.1):V rk a b (out.push q) ia (ib+1):=by
 unfold V at *;rw [i3];rw [Ek hq] at v;exact (v.comm.take fun x hx y hy=>by
  rw [bZ.1 hx];exact vk t.sa hp h hy).comm
theorem V.moreA (v:V rk a b out ia ib) (t:Jz rk L a b) (hq:b[ib]?=some q) (h:∀ i,i<k->dk rk a (ia+i)<rk q.1):V rk a b (out++a.extract ia (ia+k)) (ia+k) ib:=by
 unfold V at *;rw [bU,Bc];rw [yr (k:=k)] at v;exact v.take fun x hx y hy=>by
  obtain ⟨j,h1,h2,e⟩:=mi hx;refine vk t.sb hq ?_ hy;have:=h (j-ia) (by omega)
  rwa [show ia+(j-ia)=j by omega,bx e] at this
theorem V.moreB (v:V rk a b out ia ib) (t:Jz rk L a b) (hp:a[ia]?=some p) (h:∀ i,i<k->dk rk b (ib+i)<rk p.1):V rk a b (out++b.extract ib (ib+k)) ia (ib+k):=by
 unfold V at *;rw [bU,Bc];rw [yr (a:=b) (k:=k)] at v;exact (v.comm.take fun x hx y hy=>by
  obtain ⟨j,h1,h2,e⟩:=mi hx;refine vk t.sa hp ?_ hy;have:=h (j-ib) (by omega)
  rwa [show ib+(j-ib)=j by omega,bx e] at this).comm
theorem V.done (v:V rk a b out ia ib) (h:ib=b.size):mU rk a b (out++a.extract ia a.size++b.extract ib b.size):=by
 unfold V at v;have e:b.toList.drop ib=[]:=List.drop_eq_nil_of_le (by simp [h]);unfold mU;rw [bU,bU,pR,pR];exact v.fin fun x _ y hy=>by rw [e] at hy;cases hy
theorem V.last (v:V rk a b out ia ib) (hp:a[ia]?=some p) (h:ia+1=a.size) (hl:∀ y∈b.toList,rk y.1<rk p.1):mU rk a b (out++b.extract ib b.size++a.extract ia a.size):=by
 unfold V at v;unfold mU;rw [bU,bU,pR,pR];refine v.comm.fin fun x hx y hy=>?_;obtain ⟨j,hj,e⟩:=Ba hy;have:j<a.size:=by
  rcases cn j a.size with h|h
  ·exact h
  ·rw [eT h] at e;cases e
 rw [show j=ia by omega,hp] at e;cases e;exact hl x (List.mem_of_mem_drop hx)
theorem eh {β:Type}{c:Prop} [Decidable c] {m1 m2:StateT dS Sem β}{Q:β->dS->Prop} (h1:c->wpS (ar prog w) A E s m1 Q st) (h2:¬ c->wpS (ar prog w) A E s m2 Q st):wpS (ar prog w) A E s (if c then m1 else m2) Q st:=by
 by_cases h:c
 ·rw [if_pos h];exact h1 h
 ·rw [if_neg h];exact h2 h
theorem jl {β:Type}{m n:Nat}{m1 m2:StateT dS Sem β}{Q:β->dS->Prop} (h1:m=n->wpS (ar prog w) A E s m1 Q st) (h2:m≠n->wpS (ar prog w) A E s m2 Q st):wpS (ar prog w) A E s (if (m==n)=true then m1 else m2) Q st :=
 eh (fun h=>h1 (beq_iff_eq.1 h)) fun h=>h2 fun e=>h (beq_iff_eq.2 e)
def GP (rk:a9->Nat) (a b:Array bX) (x:Nat) (st:dS) (r:ForInStep (Option (Array bX)×Array bX×Nat×Nat×Nat×Nat×Nat)) (st':dS):Prop:=Sm st st'/\match r with
 |.done c=>(∃ r z,c=(some r,z)/\mU rk a b r)\/∃ out ia ib g n1 n2,c=(none,out,ia,ib,g,n1,n2)/\V rk a b out ia ib/\ia+1<a.size/\ib<b.size/\x+2<=ia+ib
 |.yield c=>∃ out ia ib g n1 n2,c=(none,out,ia,ib,g,n1,n2)/\V rk a b out ia ib/\ia+1<a.size/\ib<b.size/\x+2<=ia+ib
theorem FS (hC:Cp prog w A s kd rk L) (hk:kindOf st=kd) (t:Jz rk L a b)
  (hp0:a[0]?=some p0) (hq0:b[0]?=some q0) (h0:rk q0.1<rk p0.1) (hl:∀ p,a[a.size-1]?=some p->∀ y∈b.toList,rk y.1<rk p.1)
  (h:∀ r st',Sm st st'->mU rk a b r->Q r st'):wpS (ar prog w) A E s (Jy a b) Q st:=by
 have lastp:∀ {ia p out ib},V rk a b out ia ib->ia+1=a.size->a[ia]?=some p->mU rk a b (out++b.extract ib b.size++a.extract ia a.size):=fun v e hp=>v.last hp e (hl _ (by rw [<- e];exact hp));have V0:V rk a b #[q0] 0 1:=V.pushB (out:=#[]) ⟨by simp,by simp,t.sa.pw,t.sb.pw,by simp,by simp⟩ t hp0 hq0 h0;have sza:0<a.size:=by
  rcases fw a.size with e|e
  ·rw [eT (by omega)] at hp0;cases hp0
  ·exact e
 have szb:0<b.size:=by
  rcases fw b.size with e|e
  ·rw [eT (by omega)] at hq0;cases hq0
  ·exact e
 refine ax (qf (cg ⟨rfl,?_⟩));refine ax (e_ hq0 ?_);refine jl (m:=1) (n:=b.size) (fun e1=>aK (h _ _ .rfl (V0.done e1))) fun e1=>?_;refine jl (m:=0+1) (n:=a.size) (fun e2=>aK (h _ _ .rfl (lastp V0 e2 hp0))) fun e2=>?_;refine ax (lw ?_);refine ax (e8 (cw
  (I:=fun x c st'=>Sm st st'/\∃ out ia ib g,c=(none,out,ia,ib,g)/\V rk a b out ia ib/\ia+1<a.size/\ib<b.size/\x+1<=ia+ib)
  (Q:=fun c st'=>Sm st st'/\∃ r z,c=(some r,z)/\mU rk a b r) ?step ?fin ⟨.rfl,_,0,1,_,rfl,V0,by omega,by omega,by omega⟩) ?post)
 case fin =>
  rintro c st' ⟨_,out,ia,ib,g,rfl,v,h1,h2,h3⟩;omega
 case post =>
  rintro c st' ⟨m,r,z,rfl,f⟩;exact aK (h r st' m f)
 case step =>
  rintro x c st1-hx ⟨m1,out,ia,ib,g,rfl,v,h1,h2,h3⟩;refine ax (e8 (cw
   (I:=fun y c st'=>Sm st st'/\∃ out ia ib n1 n2,c=(none,out,ia,ib,n1,n2)/\V rk a b out ia ib/\ia+1<a.size/\ib<b.size/\x+1+y<=ia+ib)
   (Q:=fun c st'=>Sm st st'/\((∃ r z,c=(some r,z)/\mU rk a b r)\/∃ out ia ib n1 n2,c=(none,out,ia,ib,n1,n2)/\V rk a b out ia ib/\ia+1<a.size/\ib<b.size/\x+2<=ia+ib))
   ?istep ?ifin ⟨m1,out,ia,ib,0,0,rfl,v,h1,h2,by omega⟩) ?ipost)
  case ifin =>
   rintro c st' ⟨m,out,ia,ib,n1,n2,rfl,v,h1,h2,h3⟩;exact ⟨m,.inr ⟨out,ia,ib,n1,n2,rfl,v,h1,h2,by omega⟩⟩
  case istep =>
   rintro y c st' - hy ⟨m,out,ia,ib,n1,n2,rfl,v,h1,h2,h3⟩;dsimp only;obtain ⟨p,hp⟩:=f9 (a:=a) (i:=ia) (by omega);obtain ⟨q,hq⟩:=f9 h2;refine ax (e_ hq (ax (e_ hp (ax (Jx hC (m.1.trans hk) (t.lb q (eE hq)) (t.la p (eE hp)) ?_)))));dsimp only;by_cases hlt:rk q.1<rk p.1
   ·rw [if_pos (by simpa using hlt)];refine ax (e_ hq ?_);have v':=v.pushB t hp hq hlt;by_cases e3:ib+1=b.size
    ·rw [if_pos (by simpa using e3)];exact aK ⟨m,.inl ⟨_,_,rfl,v'.done e3⟩⟩
    rw [if_neg (by simpa using e3)];by_cases e4:n2+1 ≥ g
    ·rw [if_pos e4];exact aK ⟨m,.inr ⟨_,_,_,_,_,rfl,v',h1,by omega,by omega⟩⟩
    ·rw [if_neg e4];exact aK ⟨m,_,_,_,_,_,rfl,v',h1,by omega,by omega⟩
   ·rw [if_neg (by simpa using hlt)];have hlt':rk p.1<rk q.1:=by have:=t.ne p (eE hp) q (eE hq);omega
    refine ax (e_ hp ?_);have v':=v.pushA t hp hq hlt';by_cases e3:ia+1+1=a.size
    ·rw [if_pos (by simpa using e3)];obtain ⟨p',hp'⟩:=f9 (a:=a) (i:=ia+1) (by omega);exact aK ⟨m,.inl ⟨_,_,rfl,lastp v' e3 hp'⟩⟩
    rw [if_neg (by simpa using e3)];by_cases e4:n1+1 ≥ g
    ·rw [if_pos e4];exact aK ⟨m,.inr ⟨_,_,_,_,_,rfl,v',by omega,h2,by omega⟩⟩
    ·rw [if_neg e4];exact aK ⟨m,_,_,_,_,_,rfl,v',by omega,h2,by omega⟩
  case ipost =>
   rintro c st2 ⟨m2,⟨r,z,rfl,f⟩|⟨out,ia,ib,n1,n2,rfl,v,h1,h2,h3⟩⟩
   ·exact aK ⟨m2,r,_,rfl,f⟩
   refine ax (qf (cg ⟨rfl,?_⟩));refine ax (e8 (cw
    (I:=fun y c st'=>Sm st st'/\∃ out ia ib g n1 n2,c=(none,out,ia,ib,g,n1,n2)/\V rk a b out ia ib/\ia+1<a.size/\ib<b.size/\x+2<=ia+ib)
    (Q:=fun c st'=>Sm st st'/\((∃ r z,c=(some r,z)/\mU rk a b r)\/∃ out ia ib g n1 n2,c=(none,out,ia,ib,g,n1,n2)/\V rk a b out ia ib/\ia+1<a.size/\ib<b.size/\x+2<=ia+ib))
    ?gstep ?gfin ⟨m2,out,ia,ib,_,n1,n2,rfl,v,h1,h2,by omega⟩) ?gpost)
   case gfin =>
    rintro c st' ⟨m,out,ia,ib,g,n1,n2,rfl,v,h1,h2,h3⟩;exact ⟨m,.inr ⟨out,ia,ib,g,n1,n2,rfl,v,h1,h2,h3⟩⟩
   case gpost =>
    rintro c st2 ⟨m2,⟨r,z,rfl,f⟩|⟨out,ia,ib,g,n1,n2,rfl,v,h1,h2,h3⟩⟩
    ·exact aK ⟨m2,r,_,rfl,f⟩
    exact ax (zG m2 fun st' m'=>aK ⟨m',out,ia,ib,_,rfl,v,h1,h2,h3⟩)
   case gstep =>
    rintro y c st' - hy ⟨m,out,ia,ib,g,n1,n2,rfl,v,h1,h2,h3⟩;extract_lets s1 out' s2 ia' s3 ib' s4 g' s5 n1' n2' ib1 jp;have J:∀ g,wpS (ar prog w) A E s (jp () g) (GP rk a b x st) st':=by
     intro g;obtain ⟨q,hq⟩:=f9 h2;have sa:=t.sa.run (b:=ia) (n:=a.size-ia) t.la (by omega);have na:∀ i,i<a.size-ia->dk rk a (ia+i)≠rk q.1:=fun i hi=>by
      obtain ⟨p,hp⟩:=f9 (a:=a) (i:=ia+i) (by omega);rw [bx hp];exact t.ne p (eE hp) q (eE hq)
     refine ax (zG m fun st' m'=>?_);refine ax (e_ (a:=b) (i:=ib) hq ?_);refine ax (mT (a:=a) (b:=ia) (n:=a.size-ia) (h:=0) hC (m'.1.trans hk) sa (t.lb q (eE hq)) na (by omega) fun k k1 k2 k3=>?_);have v1:=v.moreA t hq k2;have k4:ia+k<a.size:=by
      obtain ⟨p,hp⟩:=f9 (a:=a) (i:=a.size-1) (by omega);rcases cn (ia+k) a.size with h|h
      ·exact h
      ·have h4:=k2 (a.size-1-ia) (by omega);have h5:=hl p hp q (eE hq);rw [show ia+(a.size-1-ia)=a.size-1 by omega,bx hp] at h4;omega
     obtain ⟨p,hp⟩:=f9 k4;have hpq:rk q.1<rk p.1:=by
      have:=k3 k (by omega) (by omega)
      rwa [bx hp] at this
     dsimp (config:={ zeta:=false }) only;extract_lets nn jp1;have J1:∀ out,V rk a b out (ia+k) ib->ia+k+1<a.size->wpS (ar prog w) A E s (jp1 () out (ia+k)) (GP rk a b x st) st':=by
      intro out v1 k5;refine ax (e_ (a:=b) (i:=ib) hq ?_);have v2:=v1.pushB t hp hq hpq;refine jl (m:=ib+1) (n:=b.size) (fun e=>aK ⟨m',.inl ⟨_,_,rfl,v2.done e⟩⟩) fun e=>?_;refine ax (e_ (a:=a) (i:=ia+k) hp ?_);have sb:=t.sb.run (b:=ib+1) (n:=b.size-(ib+1)) t.lb (by omega);have nb:∀ i,i<b.size-(ib+1)->dk rk b (ib+1+i)≠rk p.1:=fun i hi=>by
       obtain ⟨q',hq'⟩:=f9 (a:=b) (i:=ib+1+i) (by omega);rw [bx hq'];exact fun e=>t.ne p (eE hp) q' (eE hq') e.symm
      refine ax (mT (a:=b) (b:=ib+1) (n:=b.size-(ib+1)) (h:=0) hC (m'.1.trans hk) sb (t.la p (eE hp)) nb (by omega) fun k' c1 c2 c3=>?_);have v3:=v2.moreB t hp c2;dsimp (config:={ zeta:=false }) only;extract_lets nn' ia1 jp2;have J2:∀ out,V rk a b out (ia+k) (ib+1+k')->ib+1+k'<b.size->wpS (ar prog w) A E s (jp2 () out (ib+1+k')) (GP rk a b x st) st':=by
       intro out v3 c5;obtain ⟨q',hq'⟩:=f9 c5;have hqp:rk p.1<rk q'.1:=by
        have:=c3 k' (by omega) (by omega)
        rwa [bx hq'] at this
       have v4:=v3.pushA t hp hq' hqp;refine ax (e_ (a:=a) (i:=ia+k) hp ?_);refine jl (m:=ia+k+1+1) (n:=a.size) (fun e=>?_) fun e=>?_
       ·obtain ⟨p',hp'⟩:=f9 (a:=a) (i:=ia+k+1) (by omega);exact aK ⟨m',.inl ⟨_,_,rfl,lastp v4 e hp'⟩⟩
       ·refine eh (fun _=>aK ⟨m',.inr ⟨_,ia+k+1,ib+1+k',_,_,_,rfl,v4,by omega,by omega,by omega⟩⟩) fun _=>aK ⟨m',_,ia+k+1,ib+1+k',_,_,_,rfl,v4,by omega,by omega,by omega⟩
      refine eh (fun _=>?_) fun hz=>?_
      ·refine jl (m:=ib+1+k') (n:=b.size) (fun e=>aK ⟨m',.inl ⟨_,_,rfl,v3.done e⟩⟩) fun e=>J2 _ v3 (by omega)
      ·obtain rfl:k'=0:=by omega
       exact J2 _ v2 (by omega)
     refine eh (fun _=>?_) fun hz=>?_
     ·refine jl (m:=ia+k+1) (n:=a.size) (fun e=>aK ⟨m',.inl ⟨_,_,rfl,lastp v1 e hp⟩⟩) fun e=>?_;refine jl (m:=ia+k) (n:=a.size) (fun e=>by omega) fun e=>J1 _ v1 (by omega)
     ·obtain rfl:k=0:=by omega
      exact J1 _ v (by omega)
    exact e8 (eh (fun _=>J _) fun _=>J _) fun r _ hh=>by cases r<;>exact hh
end
end
section
def JA:Array bX->Array bX->StateT dS Sem (Array bX):=sortPriv% PySem.Builtin.mergeHi
section
variable {prog:aS}{w:bn}{A:bv}{E:a9->ae->Prop}{s:ae}{kd:lE}{rk:a9->Nat}{L:List bX}{st st':dS}
def W (rk:a9->Nat) (a b out:Array bX) (na nb:Nat):Prop:=Mg (fun x y=>P2 rk y x) (a.toList++b.toList) out.toList (a.toList.take na).reverse (b.toList.take nb).reverse
variable {a b out:Array bX}{n m k:Nat}{p q:bX}
theorem vm {x y:bX} (t:M5 rk b) (hq:b[m]?=some q) (h:rk q.1<rk x.1) (hy:y∈(b.toList.take (m+1)).reverse):rk y.1<rk x.1:=by
 obtain ⟨j,hj,e⟩:=Bb (jZ.1 hy);rcases cn j m with h1|h1
 ·exact dw (t _ _ _ _ h1 e hq) h
 ·rw [show j=m by omega,hq] at e;cases e;exact h
theorem W.pushA (v:W rk a b out (n+1) (m+1)) (t:Jz rk L a b) (hp:a[n]?=some p) (hq:b[m]?=some q) (h:rk q.1<rk p.1):W rk a b (out.push p) n (m+1):=by
 unfold W at *;rw [i3];rw [El hp,rH] at v;exact v.take fun x hx y hy=>by
  rw [C7] at hx;rw [bZ.1 hx];exact vm t.sb hq h hy
theorem W.pushB (v:W rk a b out (n+1) (m+1)) (t:Jz rk L a b) (hp:a[n]?=some p) (hq:b[m]?=some q) (h:rk p.1<rk q.1):W rk a b (out.push q) (n+1) m:=by
 unfold W at *;rw [i3];rw [El hq,rH] at v;exact (v.comm.take fun x hx y hy=>by
  rw [C7] at hx;rw [bZ.1 hx];exact vm t.sa hp h hy).comm
theorem yt {l:List bX} (h:k<=n):(l.take n).reverse=((l.take n).drop k).reverse++(l.take k).reverse:=by
 rw [<- rH];conv=>lhs;rw [<- fz k (l.take n)]
 rw [List.take_take,kS h]
theorem Em:(a.extract k n).reverse.toList=((a.toList.take n).drop k).reverse:=by
 rw [qg,fQ,dR,List.take_eq_take_min]
theorem mV:(a.extract 0 n).toList=a.toList.take n:=by
 rw [fQ,dR];simp
theorem qC (h:x∈(a.toList.take n).drop k):∃ j,k<=j/\j<n/\a[j]?=some x:=by
 obtain ⟨i,hi⟩:=jO.1 h;rw [t5,GI] at hi;split at hi
 ·exact ⟨k+i,by omega,by omega,by rw [<- aY];exact hi⟩
 ·cases hi
theorem W.moreA (v:W rk a b out n (m+1)) (t:Jz rk L a b) (hq:b[m]?=some q) (hk:k<=n) (h:∀ i,k<=i->i<n->rk q.1<dk rk a (0+i)):W rk a b (out++(a.extract k n).reverse) k (m+1):=by
 unfold W at *;rw [bU,Em];rw [yt hk] at v;exact v.take fun x hx y hy=>by
  obtain ⟨j,h1,h2,e⟩:=qC (jZ.1 hx);refine vm t.sb hq ?_ hy;have:=h j h1 h2
  rwa [eY,bx e] at this
theorem W.moreB (v:W rk a b out (n+1) m) (t:Jz rk L a b) (hp:a[n]?=some p) (hk:k<=m) (h:∀ i,k<=i->i<m->rk p.1<dk rk b (0+i)):W rk a b (out++(b.extract k m).reverse) (n+1) k:=by
 unfold W at *;rw [bU,Em];rw [yt (n:=m) hk] at v;exact (v.comm.take fun x hx y hy=>by
  obtain ⟨j,h1,h2,e⟩:=qC (jZ.1 hx);refine vm t.sa hp ?_ hy;have:=h j h1 h2
  rwa [eY,bx e] at this).comm
theorem W.done (v:W rk a b out n m) (h:n=0):mU rk a b (a.extract 0 n++b.extract 0 m++out.reverse):=by
 subst h;have f:=v.comm.fin fun x _ y hy=>by rw [List.take_zero] at hy;cases hy
 unfold mU;rw [bU,bU,mV,mV,qg];refine ⟨?_,?_⟩
 ·refine ng ?_ f.1;refine (mI _).symm.trans ?_;simp
 ·have:=jP.2 f.2;simpa using this
theorem W.last (v:W rk a b out n m) (hq:b[0]?=some q) (h:m=1) (hl:∀ y∈a.toList,rk q.1<rk y.1):mU rk a b (b.extract 0 m++a.extract 0 n++out.reverse):=by
 subst h;have f:=v.fin fun x hx y hy=>by
  obtain ⟨j,hj,e⟩:=Bb (jZ.1 hy);rw [show j=0 by omega,hq] at e;cases e;exact hl x (List.mem_of_mem_take (jZ.1 hx))
 unfold mU;rw [bU,bU,mV,mV,qg];refine ⟨?_,?_⟩
 ·refine ng ?_ f.1;refine (mI _).symm.trans ?_;simp
 ·have:=jP.2 f.2;simpa using this
def HP (rk:a9->Nat) (a b:Array bX) (x:Nat) (st:dS) (r:ForInStep (Option (Array bX)×Nat×Nat×Array bX×Nat×Nat×Nat)) (st':dS):Prop:=Sm st st'/\match r with
 |.done c=>(∃ r z,c=(some r,z)/\mU rk a b r)\/∃ out na nb g n1 n2,c=(none,na+1,nb+2,out,g,n1,n2)/\W rk a b out (na+1) (nb+2)/\na+1<=a.size/\nb+2<=b.size/\na+nb+3+x+2<=a.size+b.size
 |.yield c=>∃ out na nb g n1 n2,c=(none,na+1,nb+2,out,g,n1,n2)/\W rk a b out (na+1) (nb+2)/\na+1<=a.size/\nb+2<=b.size/\na+nb+3+x+2<=a.size+b.size
theorem FT (hC:Cp prog w A s kd rk L) (hk:kindOf st=kd) (t:Jz rk L a b)
  (hp0:a[a.size-1]?=some p0) (hq0:b[b.size-1]?=some q0) (h0:rk q0.1<rk p0.1) (hq1:b[0]?=some q1) (hl:∀ y∈a.toList,rk q1.1<rk y.1)
  (h:∀ r st',Sm st st'->mU rk a b r->Q r st'):wpS (ar prog w) A E s (JA a b) Q st:=by
 have sza:0<a.size:=by
  rcases fw a.size with e|e
  ·rw [eT (by omega)] at hp0;cases hp0
  ·exact e
 have szb:0<b.size:=by
  rcases fw b.size with e|e
  ·rw [eT (by omega)] at hq0;cases hq0
  ·exact e
 have V0:W rk a b #[p0] (a.size-1) b.size:=by
  have e:b.size=b.size-1+1:=by omega
  rw [e];refine W.pushA (out:=#[]) ?_ t hp0 hq0 h0;rw [<- e,show a.size-1+1=a.size by omega];unfold W;rw [ju (by simp),ju (by simp)];refine ⟨?_,by simp,jP.2 t.sa.pw,jP.2 t.sb.pw,by simp,by simp⟩;exact (mI _).append (mI _)
 refine ax (qf (cg ⟨rfl,?_⟩));refine ax (e_ hp0 ?_);refine jl (m:=a.size-1) (n:=0) (fun e1=>aK (h _ _ .rfl (V0.done e1))) fun e1=>?_;refine jl (m:=b.size) (n:=1) (fun e2=>aK (h _ _ .rfl (V0.last hq1 e2 hl))) fun e2=>?_;refine ax (lw ?_);refine ax (e8 (cw
  (I:=fun x c st'=>Sm st st'/\∃ out na nb g,c=(none,na+1,nb+2,out,g)/\W rk a b out (na+1) (nb+2)/\na+1<=a.size/\nb+2<=b.size/\na+nb+3+x+1<=a.size+b.size)
  (Q:=fun c st'=>Sm st st'/\∃ r z,c=(some r,z)/\mU rk a b r) ?step ?fin ⟨.rfl,#[p0],a.size-2,b.size-2,gallopOf st,?e1,?e2,by omega,by omega,by omega⟩) ?post)
 case e1=>rw [show a.size-2+1=a.size-1 by omega,show b.size-2+2=b.size by omega]
 case e2=>rw [show a.size-2+1=a.size-1 by omega,show b.size-2+2=b.size by omega];exact V0
 case fin =>
  rintro c st' ⟨_,out,na,nb,g,rfl,v,h1,h2,h3⟩;omega
 case post =>
  rintro c st' ⟨m,r,z,rfl,f⟩;exact aK (h r st' m f)
 case step =>
  rintro x c st1-hx ⟨m1,out,na,nb,g,rfl,v,h1,h2,h3⟩;refine ax (e8 (cw
   (I:=fun y c st'=>Sm st st'/\∃ out na nb n1 n2,c=(none,na+1,nb+2,out,n1,n2)/\W rk a b out (na+1) (nb+2)/\na+1<=a.size/\nb+2<=b.size/\na+nb+3+x+1+y<=a.size+b.size)
   (Q:=fun c st'=>Sm st st'/\((∃ r z,c=(some r,z)/\mU rk a b r)\/∃ out na nb n1 n2,c=(none,na+1,nb+2,out,n1,n2)/\W rk a b out (na+1) (nb+2)/\na+1<=a.size/\nb+2<=b.size/\na+nb+3+x+2<=a.size+b.size))
   ?istep ?ifin ⟨m1,out,na,nb,0,0,rfl,v,h1,h2,by omega⟩) ?ipost)
  case ifin =>
   rintro c st' ⟨m,out,na,nb,n1,n2,rfl,v,h1,h2,h3⟩;exact ⟨m,.inr ⟨out,na,nb,n1,n2,rfl,v,h1,h2,by omega⟩⟩
  case istep =>
   rintro y c st' - hy ⟨m,out,na,nb,n1,n2,rfl,v,h1,h2,h3⟩;dsimp only;obtain ⟨p,hp⟩:=f9 (a:=a) (i:=na) (by omega);obtain ⟨q,hq⟩:=f9 (a:=b) (i:=nb+1) (by omega);refine ax (e_ hq (ax (e_ hp (ax (Jx hC (m.1.trans hk) (t.lb q (eE hq)) (t.la p (eE hp)) ?_)))));dsimp only;by_cases hlt:rk q.1<rk p.1
   ·rw [if_pos (by simpa using hlt)];refine ax (e_ hp ?_);have v':=v.pushA t hp hq hlt;refine jl (m:=na) (n:=0) (fun e3=>aK ⟨m,.inl ⟨_,_,rfl,v'.done e3⟩⟩) fun e3=>?_;obtain ⟨na,rfl⟩:∃ n,na=n+1:=⟨na-1,by omega⟩;exact eh (fun _=>aK ⟨m,.inr ⟨_,na,nb,_,_,rfl,v',by omega,by omega,by omega⟩⟩) fun _=>aK ⟨m,_,na,nb,_,_,rfl,v',by omega,by omega,by omega⟩
   ·rw [if_neg (by simpa using hlt)];have hlt':rk p.1<rk q.1:=by have:=t.ne p (eE hp) q (eE hq);omega
    refine ax (e_ hq ?_);have v':=v.pushB t hp hq hlt';refine jl (m:=nb+1) (n:=1) (fun e3=>aK ⟨m,.inl ⟨_,_,rfl,v'.last hq1 e3 hl⟩⟩) fun e3=>?_;obtain ⟨nb,rfl⟩:∃ n,nb=n+1:=⟨nb-1,by omega⟩;exact eh (fun _=>aK ⟨m,.inr ⟨_,na,nb,_,_,rfl,v',by omega,by omega,by omega⟩⟩) fun _=>aK ⟨m,_,na,nb,_,_,rfl,v',by omega,by omega,by omega⟩
  case ipost =>
   rintro c st2 ⟨m2,⟨r,z,rfl,f⟩|⟨out,na,nb,n1,n2,rfl,v,h1,h2,h3⟩⟩
   ·exact aK ⟨m2,r,_,rfl,f⟩
   refine ax (qf (cg ⟨rfl,?_⟩));refine ax (e8 (cw
    (I:=fun y c st'=>Sm st st'/\∃ out na nb g n1 n2,c=(none,na+1,nb+2,out,g,n1,n2)/\W rk a b out (na+1) (nb+2)/\na+1<=a.size/\nb+2<=b.size/\na+nb+3+x+2<=a.size+b.size)
    (Q:=fun c st'=>Sm st st'/\((∃ r z,c=(some r,z)/\mU rk a b r)\/∃ out na nb g n1 n2,c=(none,na+1,nb+2,out,g,n1,n2)/\W rk a b out (na+1) (nb+2)/\na+1<=a.size/\nb+2<=b.size/\na+nb+3+x+2<=a.size+b.size))
    ?gstep ?gfin ⟨m2,out,na,nb,_,n1,n2,rfl,v,h1,h2,by omega⟩) ?gpost)
   case gfin =>
    rintro c st' ⟨m,out,na,nb,g,n1,n2,rfl,v,h1,h2,h3⟩;exact ⟨m,.inr ⟨out,na,nb,g,n1,n2,rfl,v,h1,h2,h3⟩⟩
   case gpost =>
    rintro c st2 ⟨m2,⟨r,z,rfl,f⟩|⟨out,na,nb,g,n1,n2,rfl,v,h1,h2,h3⟩⟩
    ·exact aK ⟨m2,r,_,rfl,f⟩
    exact ax (zG m2 fun st' m'=>aK ⟨m',out,na,nb,_,rfl,v,h1,h2,by omega⟩)
   case gstep =>
    rintro y c st' - hy ⟨m,out,na,nb,g,n1,n2,rfl,v,h1,h2,h3⟩;extract_lets s1 na' s2 nb' s3 out' s4 g' s5 n1' n2' nb1 jp;have J:∀ g,wpS (ar prog w) A E s (jp () g) (HP rk a b x st) st':=by
     intro g;obtain ⟨q,hq⟩:=f9 (a:=b) (i:=nb+1) (by omega);have sa:=t.sa.run (b:=0) (n:=na+1) t.la (by omega);have ne1:∀ i,i<na+1->dk rk a (0+i)≠rk q.1:=fun i hi=>by
      obtain ⟨p,hp⟩:=f9 (a:=a) (i:=0+i) (by omega);rw [bx hp];exact t.ne p (eE hp) q (eE hq)
     refine ax (zG m fun st' m'=>?_);refine ax (e_ (a:=b) (i:=nb+1) hq ?_);refine ax (mT (a:=a) (b:=0) (n:=na+1) (h:=na) hC (m'.1.trans hk) sa (t.lb q (eE hq)) ne1 (by omega) fun k k1 k2 k3=>?_);have v1:=v.moreA t hq k1 k3;dsimp (config:={ zeta:=false }) only;extract_lets kk nn jp1;have J1:∀ out i,k=i+1->W rk a b out (i+1) (nb+2)->wpS (ar prog w) A E s (jp1 () (i+1) out) (HP rk a b x st) st':=by
      intro out i ei v1;obtain ⟨p,hp⟩:=f9 (a:=a) (i:=i) (by omega);have hpq:rk p.1<rk q.1:=by
       have:=k2 i (by omega)
       rwa [eY,bx hp] at this
      refine ax (e_ (a:=b) (i:=nb+1) hq ?_);have v2:=v1.pushB t hp hq hpq;refine jl (m:=nb+1) (n:=1) (fun e=>aK ⟨m',.inl ⟨_,_,rfl,v2.last hq1 e hl⟩⟩) fun e=>?_;refine ax (e_ (a:=a) (i:=i) hp ?_);have sb:=t.sb.run (b:=0) (n:=nb+1) t.lb (by omega);have ne2:∀ i,i<nb+1->dk rk b (0+i)≠rk p.1:=fun i hi=>by
       obtain ⟨q',hq'⟩:=f9 (a:=b) (i:=0+i) (by omega);rw [bx hq'];exact fun e=>t.ne p (eE hp) q' (eE hq') e.symm
      refine ax (mT (a:=b) (b:=0) (n:=nb+1) (h:=nb) hC (m'.1.trans hk) sb (t.la p (eE hp)) ne2 (by omega) fun k' c1 c2 c3=>?_);have v3:=v2.moreB t hp c1 c3;have c4:0<k':=by
       rcases fw k' with e|e
       ·have h4:=c3 0 (by omega) (by omega);rw [bx hq1] at h4;have h5:=hl p (eE hp);omega
       ·exact e
      dsimp (config:={ zeta:=false }) only;extract_lets kk' nn' ia1 jp2;have J2:∀ out j,k'=j+2->W rk a b out (i+1) (j+2)->wpS (ar prog w) A E s (jp2 () (j+2) out) (HP rk a b x st) st':=by
       intro out j ej v3;obtain ⟨q',hq'⟩:=f9 (a:=b) (i:=j+1) (by omega);have hqp:rk q'.1<rk p.1:=by
        have:=c2 (j+1) (by omega)
        rwa [eY,bx hq'] at this
       have v4:=v3.pushA t hp hq' hqp;refine ax (e_ (a:=a) (i:=i) hp ?_);refine jl (m:=i) (n:=0) (fun e=>aK ⟨m',.inl ⟨_,_,rfl,v4.done e⟩⟩) fun e=>?_;obtain ⟨i,rfl⟩:∃ n,i=n+1:=⟨i-1,by omega⟩;exact eh (fun _=>aK ⟨m',.inr ⟨_,i,j,_,_,_,rfl,v4,by omega,by omega,by omega⟩⟩) fun _=>aK ⟨m',_,i,j,_,_,_,rfl,v4,by omega,by omega,by omega⟩
      refine eh (fun _=>?_) fun hz=>?_
      ·refine jl (m:=k') (n:=1) (fun e=>aK ⟨m',.inl ⟨_,_,rfl,v3.last hq1 e hl⟩⟩) fun e=>?_;refine jl (m:=k') (n:=0) (fun e=>by omega) fun e=>?_;obtain ⟨j,rfl⟩:∃ j,k'=j+2:=⟨k' - 2,by omega⟩;exact J2 _ j rfl v3
      ·have hz':¬ nb+1-k' > 0:=hz;obtain ⟨j,rfl⟩:∃ j,nb=j+1:=⟨nb-1,by omega⟩;exact J2 _ j (by omega) v2
     refine eh (fun _=>?_) fun hz=>?_
     ·refine jl (m:=k) (n:=0) (fun e=>aK ⟨m',.inl ⟨_,_,rfl,v1.done e⟩⟩) fun e=>?_;obtain ⟨j,rfl⟩:∃ j,k=j+1:=⟨k-1,by omega⟩;exact J1 _ j rfl v1
     ·have hz':¬ na+1-k > 0:=hz;exact J1 _ na (by omega) v
    exact e8 (eh (fun _=>J _) fun _=>J _) fun r _ hh=>by cases r<;>exact hh
end
end
section
def P3:Nat->Nat->StateT dS Sem (Option Nat):=sortPriv% PySem.Builtin.countRun
def SH:Nat->Nat->Nat->StateT dS Sem Bool:=sortPriv% PySem.Builtin.binarySort
structure Bs (kd:lE) (L:List bX) (st:dS):Prop where
 kind:kindOf st=kd
 perm:(aI st).toList.Perm L
 ok:tP st=none
def Up (rk:a9->Nat) (a:Array bX) (lo n:Nat):Prop:=∀ i j,lo<=i->i<j->j<lo+n->dk rk a i<dk rk a j
def Dn (rk:a9->Nat) (a:Array bX) (lo n:Nat):Prop:=∀ i j,lo<=i->i<j->j<lo+n->dk rk a j<dk rk a i
section
variable {prog:aS}{w:bn}{A:bv}{E:a9->ae->Prop}{s:ae}{kd:lE}{rk:a9->Nat}{L:List bX}{st:dS}{a:Array bX}
theorem Bs.size (B:Bs kd L st):(aI st).size=L.length:=by rw [<- B.perm.length_eq];simp
theorem Bs.get (B:Bs kd L st) (hi:i<L.length):∃ p,(aI st)[i]?=some p/\p∈L:=by
 obtain ⟨p,hp⟩:=f9 (a:=aI st) (i:=i) (by rw [B.size];exact hi);exact ⟨p,hp,B.perm.mem_iff.1 (eE hp)⟩
theorem Bs.ne (B:Bs kd L st) (hn:(L.map fun p=>rk p.1).Nodup) (hi:i<L.length) (hj:j<L.length) (h:i≠j):dk rk (aI st) i≠dk rk (aI st) j:=by
 have hn':=(B.perm.map fun p=>rk p.1).nodup_iff.2 hn;obtain ⟨p,hp,_⟩:=B.get hi;obtain ⟨q,hq,_⟩:=B.get hj;rw [bx hp,bx hq];intro e;have h1:((aI st).toList.map fun p=>rk p.1)[i]?=some (rk p.1):=by rw [aW,aY,hp];rfl
 have h2:((aI st).toList.map fun p=>rk p.1)[j]?=some (rk p.1):=by rw [aW,aY,hq,e];rfl
 obtain ⟨l1,h1⟩:=my.1 h1;obtain ⟨l2,h2⟩:=my.1 h2;exact h ((Kv hn').1 (h1.trans h2.symm))
theorem Bs.put (B:Bs kd L st) (h:xs.Perm (aI st)):Bs kd L (setArr st xs):=⟨B.kind,(Array.perm_iff_toList_perm.1 h).trans B.perm,B.ok⟩
theorem ub  (hC:Cp prog w A s kd rk L) (B:Bs kd L st) (hi:i<L.length) (hj:j<L.length)
  (h:Q (some (decide (dk rk (aI st) i<dk rk (aI st) j))) st):wpS (ar prog w) A E s (ltAt' i j) Q st:=by
 obtain ⟨p,hp,lp⟩:=B.get hi;obtain ⟨q,hq,lq⟩:=B.get hj;rw [bx hp,bx hq] at h;rw [ltAt'_eq];exact ax (lw (ax (e_ hp (ax (e_ hq (Jx hC B.kind lp lq h))))))
theorem iW  (h:a[i]?=b[j]?):dk rk a i=dk rk b j:=by unfold dk;rw [h]
theorem ux (hj:j<=a.size) (k:Nat):dk rk (Cm a i j ((j-i) / 2)) k=if i<=k/\k<j then dk rk a (i+j-1-k) else dk rk a k:=by
 have e:=getElem?_mirror_all (i:=i) hj k;by_cases h:i<=k/\k<j
 ·rw [if_pos h] at e ⊢;exact iW e
 ·rw [if_neg h] at e ⊢;exact iW e
theorem uy (hs:src<a.size) (hd:d<=src) (k:Nat) :
  dk rk (bubble a src d) k=if k=src-d then dk rk a src else if src-d<k/\k<=src then dk rk a (k-1) else dk rk a k:=by
 have e:=getElem?_bubble hs d hd k;by_cases h:k=src-d
 ·rw [if_pos h] at e ⊢;exact iW e
 ·rw [if_neg h] at e ⊢;by_cases h2:src-d<k/\k<=src
  ·rw [if_pos h2] at e ⊢;exact iW e
  ·rw [if_neg h2] at e ⊢;exact iW e
theorem Up.more {lo n:Nat} (u:Up rk a lo n) (h:1<=n->dk rk a (lo+n-1)<dk rk a (lo+n)):Up rk a lo (n+1):=by
 intro i j h1 h2 h3;rcases cn j (lo+n) with h4|h4
 ·exact u i j h1 h2 h4
 ·obtain rfl:j=lo+n:=by omega
  rcases cn i (lo+n-1) with h5|h5
  ·exact dw (u i (lo+n-1) h1 h5 (by omega)) (h (by omega))
  ·rw [show i=lo+n-1 by omega];exact h (by omega)
theorem Dn.more {lo n:Nat} (u:Dn rk a lo n) (h:1<=n->dk rk a (lo+n)<dk rk a (lo+n-1)):Dn rk a lo (n+1):=by
 intro i j h1 h2 h3;rcases cn j (lo+n) with h4|h4
 ·exact u i j h1 h2 h4
 ·obtain rfl:j=lo+n:=by omega
  rcases cn i (lo+n-1) with h5|h5
  ·exact dw (h (by omega)) (u i (lo+n-1) h1 h5 (by omega))
  ·rw [show i=lo+n-1 by omega];exact h (by omega)
def Kp (lo:Nat) (a b:Array bX):Prop:=∀ i,i<lo->b[i]?=a[i]?
theorem Eo {lo r:Nat}{Q:Option Nat->dS->Prop} (hC:Cp prog w A s kd rk L) (hn:(L.map fun p=>rk p.1).Nodup) (B:Bs kd L st) (h1:1<=r) (hr:lo+r<=L.length)
  (h:∀ n st',Bs kd L st'->bD st'=bD st->Kp lo (aI st) (aI st')->1<=n->n<=r->Up rk (aI st') lo n->Q (some n) st') :
  wpS (ar prog w) A E s (P3 lo r) Q st:=by
 refine ax (e8 (cw (I:=fun x c st'=>st'=st/\c=(none,x)/\Up rk (aI st) lo x)
  (Q:=fun c st'=>st'=st/\∃ n,c=(none,n)/\1<=n/\n<=r/\Up rk (aI st) lo n/\(n=r\/dk rk (aI st) (lo+n)<dk rk (aI st) (lo+n-1))) ?_ ?_ ⟨rfl,rfl,fun i j h1 h2 h3=>by omega⟩) ?_)
 ·rintro x c st' hx1 hx2 ⟨rfl,rfl,u⟩;refine ax (ub (i:=lo+x) (j:=lo+x-1) hC B (by omega) (by omega) ?_);by_cases hl:dk rk (aI st') (lo+x)<dk rk (aI st') (lo+x-1)
  ·exact eh (fun _=>aK ⟨rfl,x,rfl,hx1,by omega,u,.inr hl⟩) fun h=>absurd (by simpa using hl) h
  ·refine eh (fun h=>absurd (by simpa using h) hl) fun _=>aK ⟨rfl,rfl,u.more fun _=>?_⟩;have:=B.ne hn (i:=lo+x) (j:=lo+x-1) (by omega) (by omega) (by omega);omega
 ·rintro c st' ⟨rfl,rfl,u⟩;rw [show max 1 r=r by omega] at u ⊢;exact ⟨rfl,r,rfl,h1,am _,u,.inl rfl⟩
 rintro c st' ⟨rfl,n,rfl,n1,n2,u,e⟩;refine jl (m:=n) (n:=r) (fun e=>aK (h n st' B rfl (fun _ _=>rfl) n1 n2 u)) fun ne=>?_;have e:=e.resolve_left ne;extract_lets jp;refine eh (fun hg=>?_) fun hg=>?_
 ·refine ax (ub (i:=lo) (j:=lo+n-1) hC B (by omega) (by omega) ?_);have hl:dk rk (aI st') lo<dk rk (aI st') (lo+n-1):=u lo (lo+n-1) (am _) (by have:n > 1:=hg;omega) (by have:n > 1:=hg;omega);exact eh (fun _=>aK (h n st' B rfl (fun _ _=>rfl) n1 n2 u)) fun h=>absurd (by simpa using hl) h
 obtain rfl:n=1:=by have:¬ n > 1:=hg;omega
 refine ax (qf (cg ⟨rfl,?_⟩));refine ax (e8 (cw (I:=fun x c st''=>st''=st'/\c=(none,x,0)/\Dn rk (aI st') lo x)
  (Q:=fun c st''=>st''=st'/\∃ n,c=(none,n,0)/\1<=n/\n<=r/\Dn rk (aI st') lo n) ?_ ?_ ⟨rfl,rfl,Dn.more (n:=1) (fun i j h1 h2 h3=>by omega) fun _=>e⟩) ?_)
 ·rintro x c st'' hx1 hx2 ⟨rfl,rfl,u⟩;refine ax (ub (i:=lo+x) (j:=lo+x-1) hC B (by omega) (by omega) ?_);by_cases hl:dk rk (aI st'') (lo+x)<dk rk (aI st'') (lo+x-1)
  ·refine eh (fun _=>?_) fun h=>absurd (by simpa using hl) h;exact eh (fun h=>absurd h (aU 0)) fun _=>aK ⟨rfl,rfl,u.more fun _=>hl⟩
  ·refine eh (fun h=>absurd (by simpa using h) hl) fun _=>?_;refine ax (ub (i:=lo+x-1) (j:=lo+x) hC B (by omega) (by omega) ?_);have:=B.ne hn (i:=lo+x) (j:=lo+x-1) (by omega) (by omega) (by omega);have hl':dk rk (aI st'') (lo+x-1)<dk rk (aI st'') (lo+x):=by omega
   exact eh (fun _=>aK ⟨rfl,x,rfl,by omega,by omega,u⟩) fun h=>absurd (by simpa using hl') h
 ·rintro c st'' ⟨rfl,rfl,u⟩;rw [show max (1+1) r=r by omega] at u ⊢;exact ⟨rfl,r,rfl,h1,am _,u⟩
 rintro c st'' ⟨rfl,n,rfl,n1,n2,d⟩;refine eh (fun h=>absurd h (aU 0)) fun _=>?_;refine ax (nr (f:=fun s=>setArr s (Cm (aI s) lo (lo+n) ((lo+n-lo) / 2))) ?_);have hsz:lo+n<=(aI st'').size:=by rw [B.size];omega
 have B':Bs kd L (setArr st'' (Cm (aI st'') lo (lo+n) ((lo+n-lo) / 2))):=B.put (mirror_perm _ _ _ _);have kp:Kp lo (aI st'') (Cm (aI st'') lo (lo+n) ((lo+n-lo) / 2)):=fun i hi=>by
  rw [getElem?_mirror_all hsz,if_neg (by omega)]
 have up:Up rk (Cm (aI st'') lo (lo+n) ((lo+n-lo) / 2)) lo n:=by
  intro i j h1 h2 h3;rw [ux hsz,ux hsz,if_pos (by omega),if_pos (by omega)];exact d _ _ (by omega) (by omega) (by omega)
 generalize hst:setArr st'' (Cm (aI st'') lo (lo+n) ((lo+n-lo) / 2))=st3 at B';have har:aI st3=Cm (aI st'') lo (lo+n) ((lo+n-lo) / 2):=by rw [<- hst]
 have hpe:bD st3=bD st'':=by rw [<- hst]
 rw [<- har] at kp up;refine ax (e8 (cw (I:=fun x c st'=>st'=st3/\c=(none,x)/\Up rk (aI st3) lo x)
  (Q:=fun c st'=>st'=st3/\∃ n,c=(none,n)/\1<=n/\n<=r/\Up rk (aI st3) lo n) ?_ ?_ ⟨rfl,rfl,up⟩) ?_)
 ·rintro x c st' hx1 hx2 ⟨rfl,rfl,u⟩;have hx1:n<=x:=hx1;refine ax (ub (i:=lo+x) (j:=lo+x-1) hC B' (by omega) (by omega) ?_);by_cases hl:dk rk (aI st') (lo+x)<dk rk (aI st') (lo+x-1)
  ·exact eh (fun _=>aK ⟨rfl,x,rfl,by omega,by omega,u⟩) fun h=>absurd (by simpa using hl) h
  ·refine eh (fun h=>absurd (by simpa using h) hl) fun _=>aK ⟨rfl,rfl,u.more fun _=>?_⟩;have:=B'.ne hn (i:=lo+x) (j:=lo+x-1) (by omega) (by omega) (by omega);omega
 ·rintro c st' ⟨rfl,rfl,u⟩;rw [show max n r=r by omega] at u ⊢;exact ⟨rfl,r,rfl,h1,am _,u⟩
 rintro c st' ⟨rfl,n,rfl,n1,n2,u⟩;exact aK (h n st' B' hpe kp n1 n2 u)
theorem Ny {lo n k0:Nat}{Q:Bool->dS->Prop} (hC:Cp prog w A s kd rk L) (hn:(L.map fun p=>rk p.1).Nodup) (B:Bs kd L st) (hr:lo+n<=L.length) (hk:1<=k0) (hkn:k0<=n) (u:Up rk (aI st) lo k0)
  (h:∀ st',Bs kd L st'->bD st'=bD st->Kp lo (aI st) (aI st')->Up rk (aI st') lo n->Q true st') :
  wpS (ar prog w) A E s (SH lo n k0) Q st:=by
 refine ax (e8 (cw (I:=fun k c st'=>c=(none,())/\Bs kd L st'/\bD st'=bD st/\Kp lo (aI st) (aI st')/\Up rk (aI st') lo k)
  (Q:=fun c st'=>c=(none,())/\Bs kd L st'/\bD st'=bD st/\Kp lo (aI st) (aI st')/\Up rk (aI st') lo n) ?step ?fin ⟨rfl,B,rfl,fun _ _=>rfl,by rw [show max k0 1=k0 by omega];exact u⟩) ?post)
 case post =>
  rintro c st' ⟨rfl,B',pe,kp,u⟩;exact aK (h st' B' pe kp u)
 case fin =>
  rintro c st' ⟨rfl,B',pe,kp,u⟩;rw [show max (max k0 1) n=n by omega] at u;exact ⟨rfl,B',pe,kp,u⟩
 case step =>
  rintro k c st1 hk1 hk2 ⟨rfl,B',pe,kp,u⟩;refine ax (e8 (cw (I:=fun x c st''=>st''=st1/\∃ l r,c=(none,l,r)/\l<=r/\r<=k/\r-l<=k-x /\
    (∀ i,i<l->dk rk (aI st1) (lo+i)<dk rk (aI st1) (lo+k))/\(∀ i,r<=i->i<k->dk rk (aI st1) (lo+k)<dk rk (aI st1) (lo+i)))
   (Q:=fun c st''=>st''=st1/\∃ l r,c=(none,l,r)/\l<=k /\
    (∀ i,i<l->dk rk (aI st1) (lo+i)<dk rk (aI st1) (lo+k))/\(∀ i,l<=i->i<k->dk rk (aI st1) (lo+k)<dk rk (aI st1) (lo+i))) ?_ ?_ ⟨rfl,0,k,rfl,by omega,by omega,by omega,fun i hi=>by omega,fun i h1 h2=>by omega⟩) ?_)
  ·rintro x c st' - hx ⟨rfl,l,r,rfl,a1,a2,a3,a4,a5⟩;refine eh (fun hg=>?_) fun hg=>?_
   ·have hg:l ≥ r:=hg;obtain rfl:l=r:=by omega
    exact aK ⟨rfl,l,l,rfl,a2,a4,a5⟩
   have hg:¬ l ≥ r:=hg;refine ax (ub (i:=lo+k) (j:=lo+(l+r) / 2) hC B' (by omega) (by omega) ?_);by_cases hl:dk rk (aI st') (lo+k)<dk rk (aI st') (lo+(l+r) / 2)
   ·refine eh (fun _=>aK ⟨rfl,l,(l+r) / 2,rfl,by omega,by omega,by omega,a4,fun i h1 h2=>?_⟩) fun h=>absurd (by simpa using hl) h;rcases cn ((l+r) / 2) i with h3|h3
    ·exact dw hl (u _ _ (by omega) (by omega) (by omega))
    ·rw [show i=(l+r) / 2 by omega];exact hl
   ·refine eh (fun h=>absurd (by simpa using h) hl) fun _=>aK ⟨rfl,(l+r) / 2+1,r,rfl,by omega,by omega,by omega,fun i h1=>?_,a5⟩;have ne:=B'.ne hn (i:=lo+k) (j:=lo+(l+r) / 2) (by omega) (by omega) (by omega);have hl':dk rk (aI st') (lo+(l+r) / 2)<dk rk (aI st') (lo+k):=by omega
    rcases cn i ((l+r) / 2) with h3|h3
    ·exact dw (u _ _ (by omega) (by omega) (by omega)) hl'
    ·rw [show i=(l+r) / 2 by omega];exact hl'
  ·rintro c st' ⟨rfl,l,r,rfl,a1,a2,a3,a4,a5⟩;obtain rfl:l=r:=by omega
   exact ⟨rfl,l,l,rfl,a2,a4,a5⟩
  ·rintro c st' ⟨rfl,l,r,rfl,a2,a4,a5⟩;refine ax (nr (f:=fun s=>setArr s (bubble (aI s) (lo+k) (lo+k-(lo+l)))) (aK ⟨rfl,B'.put (bubble_perm _ _ _),pe,?_,?_⟩))
   ·intro i hi;rw [<- kp i hi];show (bubble (aI st') (lo+k) (lo+k-(lo+l)))[i]?=_;rw [getElem?_bubble (by rw [B'.size];omega) _ (by omega),if_neg (by omega),if_neg (by omega)]
   ·intro i j h1 h2 h3;show dk rk (bubble (aI st') (lo+k) (lo+k-(lo+l))) i<dk rk (bubble (aI st') (lo+k) (lo+k-(lo+l))) j;have hs:lo+k<(aI st').size:=by rw [B'.size];omega
    rw [uy hs (by omega),uy hs (by omega),show lo+k-(lo+k-(lo+l))=lo+l by omega]
    repeat' split
    all_goals first
     |(exfalso;omega)
     |exact u _ _ (by omega) (by omega) (by omega)
     |(have:=a5 (j-1-lo) (by omega) (by omega);rwa [show lo+(j-1-lo)=j-1 by omega] at this)
     |(have:=a4 (i-lo) (by omega);rwa [show lo+(i-lo)=i by omega] at this)
end
end
section
def P4:Nat->StateT dS Sem Bool:=sortPriv% PySem.Builtin.mergeAt
section
variable {prog:aS}{w:bn}{A:bv}{E:a9->ae->Prop}{s:ae}{kd:lE}{rk:a9->Nat}{L:List bX}{st:dS}{a:Array bX}
theorem Ep (c:Nat):∀ (l:List bX) (i:Nat) (a:Array bX),c+i+l.length<=a.size ->
  ((l.zipIdx i).foldl (fun a x=>match x with|(p,j)=>a.setIfInBounds (c+j) p) a).toList=a.toList.take (c+i)++l++a.toList.drop (c+i+l.length)
 |[],i,a,_=>by simp
 |p::l,i,a,h=>by
  have hl:(p::l).length=l.length+1:=rfl;rw [u_,oE,Ep c l (i+1) _ (by rw [Array.size_setIfInBounds];omega)];dsimp only;rw [Array.toList_setIfInBounds,show c+(i+1)=c+i+1 by omega,hl,show c+i+(l.length+1)=c+i+1+l.length by omega];rw [List.drop_set_of_lt (by omega)];have e:List.take (c+i+1) (a.toList.set (c+i) p)=a.toList.take (c+i)++[p]:=by
   rw [G_,List.take_set_of_le (am _),aG (by simp;omega)];rfl
  rw [e];simp
theorem R9  (h:Q ⟨⟩ st'):wpS (ar prog w) A E s (set st':StateT dS Sem PUnit) Q st:=by
 unfold wpS;exact ac ⟨rfl,h⟩
theorem D9  (h:(a.extract i j)[k]?=some p):i+k<j/\a[i+k]?=some p:=by
 rw [gP] at h;split at h
 ·exact ⟨by omega,h⟩
 ·cases h
theorem Up.srt {i j lo n:Nat} (u:Up rk a lo n) (h1:lo<=i) (h2:j<=lo+n):M5 rk (a.extract i j):=by
 intro x y p q hxy hp hq;obtain ⟨l1,e1⟩:=D9 hp;obtain ⟨l2,e2⟩:=D9 hq;rw [<- bx (rk:=rk) e1,<- bx (rk:=rk) e2];exact u _ _ (by omega) (by omega) (by omega)
theorem jm  (h:p∈(a.extract i j).toList):∃ k,i<=k/\k<j/\a[k]?=some p:=by
 obtain ⟨k,hk⟩:=jO.1 h;rw [aY] at hk;obtain ⟨h1,h2⟩:=D9 hk;exact ⟨i+k,by omega,h1,h2⟩
theorem Bs.ne' (B:Bs kd L st) (hn:(L.map fun p=>rk p.1).Nodup) {i j:Nat}{p q:bX} (hi:(aI st)[i]?=some p) (hj:(aI st)[j]?=some q) (h:i≠j):rk p.1≠rk q.1:=by
 have l1:i<L.length:=by rw [<- B.size];exact (fm.1 hi).1
 have l2:j<L.length:=by rw [<- B.size];exact (fm.1 hj).1
 have:=B.ne hn l1 l2 h
 rwa [bx hi,bx hj] at this
theorem JC (x y z:Nat×Nat×Nat):((#[x,y].setIfInBounds 0 z).eraseIdxIfInBounds (0+1)).size=1:=by
 simp [Array.eraseIdxIfInBounds]
theorem Ra (h:a.toList.Pairwise (P2 rk)):Up rk a 0 a.size:=by
 intro i j _ h2 h3;obtain ⟨p,hp⟩:=f9 (a:=a) (i:=i) (by omega);obtain ⟨q,hq⟩:=f9 (a:=a) (i:=j) (by omega);rw [bx hp,bx hq];rw [mz] at h;have:=h i j (by simp;omega) (by simp;omega) h2;obtain ⟨_,rfl⟩:=fm.1 hp;obtain ⟨_,rfl⟩:=fm.1 hq;exact this
theorem FU {n m pw:Nat}{Q:Bool->dS->Prop} (hC:Cp prog w A s kd rk L) (hn:(L.map fun p=>rk p.1).Nodup) (B:Bs kd L st)
  (pe:bD st=#[(0,n,pw),(n,m,0)]) (h1:0<n) (h2:0<m) (hr:n+m=L.length) (u1:Up rk (aI st) 0 n) (u2:Up rk (aI st) n m)
  (h:∀ st',Bs kd L st'->(bD st').size=1->Up rk (aI st') 0 L.length->Q true st'):wpS (ar prog w) A E s (P4 0) Q st:=by
 have sz:=B.size;obtain ⟨q0,hq0,lq0⟩:=B.get (i:=n) (by omega);have mem:∀ {i p},(aI st)[i]?=some p->p∈L:=fun e=>B.perm.mem_iff.1 (eE e);refine ax (lw ?_);rw [show (sortPriv% PySem.Builtin.SortState.pending) st=#[(0,n,pw),(n,m,0)] from pe];refine ax (R9 ?_);refine ax (e_ hq0 ?_);have r1:R7 rk L (aI st) 0 n (fun i=>dk rk (aI st) (0+i)):=⟨fun i hi=>by
  obtain ⟨p,hp,lp⟩:=B.get (i:=0+i) (by omega);exact ⟨p,hp,lp,(bx hp).symm⟩,fun i j hij hj=>u1 _ _ (by omega) (by omega) (by omega)⟩
 have r2:R7 rk L (aI st) n m (fun i=>dk rk (aI st) (n+i)):=⟨fun i hi=>by
  obtain ⟨p,hp,lp⟩:=B.get (i:=n+i) (by omega);exact ⟨p,hp,lp,(bx hp).symm⟩,fun i j hij hj=>u2 _ _ (by omega) (by omega) (by omega)⟩
 refine ax (mT (a:=aI st) (b:=0) (n:=n) (h:=0) hC B.kind r1 lq0 (fun i hi=>?_) h1 fun k k1 k2 k3=>?_)
 ·have:=B.ne hn (i:=0+i) (j:=n) (by omega) (by omega) (by omega)
  rwa [bx hq0] at this
 refine jl (m:=n-k) (n:=0) (fun e=>aK (h _ ⟨B.kind,B.perm,B.ok⟩ (JC ..) ?_)) fun e=>?_
 ·intro i j _ hij hj;rcases cn j n with c1|c1
  ·exact u1 i j (by omega) hij (by omega)
  ·rcases cn i n with c2|c2
   ·have c3:=k2 i (by omega);rw [eY] at c3;show dk rk (aI st) i<dk rk (aI st) j;rcases cn n j with c4|c4
    ·have c5:=u2 n j (by omega) c4 (by omega);rw [bx hq0] at c5;omega
    ·rw [show j=n by omega,bx hq0];exact c3
   ·exact u2 i j (by omega) hij (by omega)
 obtain ⟨p0,hp0,lp0⟩:=B.get (i:=n-1) (by omega);refine ax (e_ (i:=0+k+(n-k)-1) (by rw [show 0+k+(n-k)-1=n-1 by omega];exact hp0) ?_);refine ax (mT (a:=aI st) (b:=n) (n:=m) (h:=m-1) hC B.kind r2 lp0 (fun i hi=>?_) (by omega) fun k' c1 c2 c3=>?_)
 ·have:=B.ne hn (i:=n+i) (j:=n-1) (by omega) (by omega) (by omega)
  rwa [bx hp0] at this
 have c0:0<k':=by
  rcases fw k' with e0|e0
  ·have c4:=c3 0 (by omega) (by omega);have c5:=k3 (n-1) (by omega) (by omega);rw [eY,bx hp0] at c5;rw [Co,bx hq0] at c4;omega
  ·exact e0
 refine jl (m:=k') (n:=0) (fun e=>by omega) fun _=>?_;have t:Jz rk L ((aI st).extract (0+k) n) ((aI st).extract n (n+k')):=by
  refine ⟨u1.srt (by omega) (by omega),u2.srt (by omega) (by omega),fun p hp=>?_,fun p hp=>?_,fun p hp q hq=>?_⟩
  ·obtain ⟨_,_,_,e⟩:=jm hp;exact mem e
  ·obtain ⟨_,_,_,e⟩:=jm hp;exact mem e
  ·obtain ⟨_,_,_,e1⟩:=jm hp;obtain ⟨_,_,_,e2⟩:=jm hq;exact B.ne' hn e1 e2 (by omega)
 have za:((aI st).extract (0+k) n).size=n-k:=by rw [F8];omega
 have zb:((aI st).extract n (n+k')).size=k':=by rw [F8];omega
 obtain ⟨pk,hpk,_⟩:=B.get (i:=0+k) (by omega);obtain ⟨ql,hql,_⟩:=B.get (i:=n+(k' - 1)) (by omega);have e1:((aI st).extract (0+k) n)[0]?=some pk:=by rw [gP,if_pos (by omega)];exact hpk
 have e2:((aI st).extract n (n+k'))[0]?=some q0:=by rw [gP,if_pos (by omega)];exact hq0
 have e3:((aI st).extract (0+k) n)[((aI st).extract (0+k) n).size-1]?=some p0:=by
  rw [za,gP,if_pos (by omega),show 0+k+(n-k-1)=n-1 by omega];exact hp0
 have e4:((aI st).extract n (n+k'))[((aI st).extract n (n+k')).size-1]?=some ql:=by
  rw [zb,gP,if_pos (by omega)];exact hql
 have g1:rk q0.1<rk pk.1:=by
  have:=k3 k (am _) (by omega)
  rwa [bx hpk] at this
 have g2:∀ y∈((aI st).extract n (n+k')).toList,rk y.1<rk p0.1:=fun y hy=>by
  obtain ⟨j,j1,j2,e⟩:=jm hy;have:=c2 (j-n) (by omega)
  rwa [show n+(j-n)=j by omega,bx e] at this
 have g3:∀ y∈((aI st).extract (0+k) n).toList,rk q0.1<rk y.1:=fun y hy=>by
  obtain ⟨j,j1,j2,e⟩:=jm hy;have:=k3 j (by omega) (by omega)
  rwa [eY,bx e] at this
 extract_lets x y jp;have J:∀ r st',kindOf st'=kd->aI st'=aI st->tP st'=none->(bD st').size=1->mU rk ((aI st).extract (0+k) n) ((aI st).extract n (n+k')) r->wpS (ar prog w) A E s (jp r) Q st':=by
  rintro r st' z1 z2 z3 z4 ⟨f1,f2⟩;have rl:r.toList.length=n-k+k':=by rw [f1.length_eq,aB,aL,aL,za,zb]
  have pa:=Ep (0+k) r.toList 0 (aI st') (by rw [z2,rl];omega);refine ax (nr (ax (lw (aK ?_))));have e5:(tP st').isNone=true:=by rw [z3];rfl
  show Q ((tP st').isNone) _;rw [e5];generalize hb:List.foldl (fun a x=>match x with|(p,j)=>a.setIfInBounds (0+k+j) p) (aI st') r.toList.zipIdx=nw at pa;have hT:(aI st').toList.take (0+k+0)=((aI st).extract 0 k).toList:=by rw [z2,mV,Co,eY]
  have hD:(aI st').toList.drop (0+k+0+r.toList.length)=((aI st).extract (n+k') (aI st).size).toList:=by
   rw [z2,pR,rl];congr 1;omega
  rw [hT,hD] at pa;have hpm:nw.toList.Perm L:=by
   refine ng ?_ B.perm;rw [pa];refine ((f1.append_left _).append_right _).trans (DJ ?_);rw [mV,pR,fQ,fQ,dR,dR];conv=>rhs;rw [<- fz k (aI st).toList,<- fz (n-k) ((aI st).toList.drop k),xN,<- fz k' ((aI st).toList.drop (k+(n-k))),xN]
   rw [show k+(n-k)=n by omega,List.drop_take,List.drop_take,show n+k' - n=k' by omega,eY];simp [cC]
  have low:∀ x∈((aI st).extract 0 k).toList,rk x.1<rk q0.1:=fun x hx=>by
   obtain ⟨i,_,i2,e⟩:=jm hx;have:=k2 i i2
   rwa [eY,bx e] at this
  have high:∀ {j y},n<=j->(aI st)[j]?=some y->rk q0.1<=rk y.1:=fun {j y} hj e=>by
   have lj:j<(aI st).size:=(fm.1 e).1;rcases cn n j with h|h
   ·have:=u2 n j (am _) h (by omega);rw [bx hq0,bx e] at this;omega
   ·rw [show j=n by omega,hq0] at e;cases e;exact am _
  refine h _ ⟨z1,hpm,z3⟩ z4 ?_;have up:=Ra (a:=nw) (rk:=rk) ?_
  ·have:nw.size=L.length:=by rw [<- hpm.length_eq];simp
   rwa [this] at up
  rw [pa];refine fW.2 ⟨fW.2 ⟨(u1.srt (by omega) (by omega)).pw,f2,fun x hx y hy=>?_⟩,(u2.srt (by omega) (by omega)).pw,fun x hx y hy=>?_⟩
  ·have l:=low x hx;rcases cf.1 (f1.mem_iff.1 hy) with hy|hy
   ·exact dw l (g3 y hy)
   ·obtain ⟨j,j1,_,e⟩:=jm hy;exact aD l (high j1 e)
  ·obtain ⟨j,j1,j2,e⟩:=jm hy;rcases cf.1 hx with hx|hx
   ·exact aD (low x hx) (high (by omega) e)
   ·rcases cf.1 (f1.mem_iff.1 hx) with hx|hx
    ·obtain ⟨i,i1,i2,e'⟩:=jm hx;have l:=c3 (j-n) (by omega) (by omega);rw [show n+(j-n)=j by omega,bx e] at l;rcases cn i (n-1) with h|h
     ·have:=u1 i (n-1) (by omega) h (by omega);rw [bx hp0,bx e'] at this;exact dw this l
     ·rw [show i=n-1 by omega,hp0] at e';cases e';exact l
    ·obtain ⟨i,i1,i2,e'⟩:=jm hx;have:=u2 i j (by omega) (by omega) (by omega)
     rwa [bx e,bx e'] at this
 refine eh (fun _=>ax (FS hC B.kind t e1 e2 g1 (fun p hp=>?_) fun r st' m f=>?_)) fun _=>ax (FT hC B.kind t e3 e4 (g2 ql (eE e4)) e2 g3 fun r st' m f=>?_)
 ·rw [e3] at hp;cases hp;exact g2
 ·exact J r st' (m.1.trans B.kind) m.2.1 (m.2.2.2.trans B.ok) (by rw [m.2.2.1];exact JC ..) f
 ·exact J r st' (m.1.trans B.kind) m.2.1 (m.2.2.2.trans B.ok) (by rw [m.2.2.1];exact JC ..) f
end
end
section
section
variable {prog:aS}{w:bn}{A:bv}{E:a9->ae->Prop}{s:ae}{kd:lE}{rk:a9->Nat}{L:List bX}{st:dS}{a:Array bX}
theorem FV (h2:2<=N) (h64:N<=64):1<=C8 N N 0/\C8 N N 0<=N/\N<=2*C8 N N 0:=by
 obtain ⟨f,hf⟩:∃ f,N=f+1:=⟨N-1,by omega⟩;by_cases h:N<64
 ·have:C8 (f+1) N 0=N:=by rw [minRun'_succ,if_pos h];rfl
  rw [<- hf] at this;rw [this];omega
 ·obtain rfl:N=64:=by omega
  have:C8 64 64 0=32:=by rfl
  rw [this];omega
theorem P5 (hC:Cp prog w A s kd rk L) (hn:(L.map fun p=>rk p.1).Nodup) (B:Bs kd L st) (pe:bD st=#[]) (h2:2<=L.length) (h64:L.length<=64)
  (h:∀ st',Bs kd L st'->Up rk (aI st') 0 L.length->Q () st'):wpS (ar prog w) A E s sortRuns' Q st:=by
 obtain ⟨m1,m2,m3⟩:=FV h2 h64;refine ax (lw ?_);extract_lets size mr lo;have hsz:size=L.length:=B.size;have hmr:mr=C8 L.length L.length 0:=by rw [<- hsz];rfl
 rw [<- hmr] at m1 m2 m3
 clear_value size mr;subst hsz;refine ax (e8 (cw
  (I:=fun x c st'=>Bs kd L st'/\((x=0/\c=(none,0)/\bD st'=#[])\/(x=1/\∃ n,c=(none,n)/\bD st'=#[(0,n,0)]/\mr<=n/\n<=L.length/\Up rk (aI st') 0 n) \/
   (∃ n m pw,c=(none,L.length)/\bD st'=#[(0,n,pw),(n,m,0)]/\0<n/\0<m/\n+m=L.length/\Up rk (aI st') 0 n/\Up rk (aI st') n m)))
  (Q:=fun c st'=>Bs kd L st'/\((∃ n,c=(none,n)/\(bD st').size=1/\Up rk (aI st') 0 L.length) \/
   (∃ n m pw,c=(none,L.length)/\bD st'=#[(0,n,pw),(n,m,0)]/\0<n/\0<m/\n+m=L.length/\Up rk (aI st') 0 n/\Up rk (aI st') n m))) ?step ?fin ⟨B,.inl ⟨rfl,rfl,pe⟩⟩) ?post)
 case fin =>
  rintro c st' ⟨B',⟨e,_⟩|⟨e,_⟩|c3⟩
  ·omega
  ·omega
  ·exact ⟨B',.inr c3⟩
 case step =>
  rintro x c st1-hx ⟨B1,⟨rfl,rfl,p1⟩|⟨rfl,n,rfl,p1,n1,n2,u⟩|⟨n,m,pw,rfl,p1,n1,n2,n3,u1,u2⟩⟩
  ·refine eh (fun hg=>?_) fun _=>?_
   ·have hg:0 ≥ L.length:=hg;omega
   refine ax (Eo (lo:=0) (r:=L.length-0) hC hn B1 (by omega) (by omega) fun n st2 B2 p2 k2 n1 n2 u2=>?_);dsimp (config:={ zeta:=false }) only;extract_lets nn jp;have J:∀ n st',Bs kd L st'->bD st'=#[]->mr<=n->n<=L.length->Up rk (aI st') 0 n->wpS (ar prog w) A E s (jp () n) (fun r st'=>∃ c,r=.yield c/\Bs kd L st'/\∃ n,c=(none,n)/\bD st'=#[(0,n,0)]/\mr<=n/\n<=L.length/\Up rk (aI st') 0 n) st':=by
    intro n st' B' p' l1 l2 u;refine ax (lw ?_);extract_lets jp1;rw [show (sortPriv% PySem.Builtin.SortState.pending) st'=#[] from p'];refine ax (nr (aK ⟨_,rfl,⟨B'.kind,B'.perm,B'.ok⟩,n,?_,?_,l1,l2,u⟩))
    ·show ((none,0+n):Option Unit×Nat)=(none,n);rw [eY]
    ·show (bD st').push _=_;rw [p'];rfl
   refine e8 (Q:=fun r st'=>∃ c,r=.yield c/\Bs kd L st'/\∃ n,c=(none,n)/\bD st'=#[(0,n,0)]/\mr<=n/\n<=L.length/\Up rk (aI st') 0 n) (eh (fun hl=>?_) fun hl=>?_) ?_
   ·have hl:n<mr:=hl;refine ax (qf (cg ⟨rfl,?_⟩));have hf:min (L.length-0) mr=mr:=by omega
    refine ax (Ny (lo:=0) (n:=min (L.length-0) mr) hC hn B2 (by omega) n1 (by omega) u2 fun st3 B3 p3 k3 u3=>?_);refine eh (fun h=>by cases h) fun _=>?_;rw [hf] at u3;exact J (min (L.length-0) mr) st3 B3 (p3.trans (p2.trans p1)) (by omega) (by omega) (by rw [hf];exact u3)
   ·have hl:¬ n<mr:=hl;exact J n st2 B2 (p2.trans p1) (by omega) (by omega) u2
   ·rintro r st' ⟨c,rfl,B',n,rfl,p',l1,l2,u⟩;exact ⟨B',.inr (.inl ⟨rfl,n,rfl,p',l1,l2,u⟩)⟩
  ·refine eh (fun hg=>aK ⟨B1,.inl ⟨n,rfl,by rw [p1];rfl,?_⟩⟩) fun hg=>?_
   ·have hg:n ≥ L.length:=hg;rw [show L.length=n by omega];exact u
   have hg:¬ n ≥ L.length:=hg;refine ax (Eo (lo:=n) (r:=L.length-n) hC hn B1 (by omega) (by omega) fun m st2 B2 p2 k2 m1 m2 u2=>?_);dsimp (config:={ zeta:=false }) only;extract_lets nn jp;have up:∀ {st':dS},Kp n (aI st1) (aI st')->Up rk (aI st') 0 n:=fun {st'} kp i j h1 h2 h3=>by
    rw [iW (rk:=rk) (kp i (by omega)),iW (rk:=rk) (kp j (by omega))];exact u i j h1 h2 h3
   have J:∀ m st',Bs kd L st'->bD st'=#[(0,n,0)]->n+m=L.length->0<m->Up rk (aI st') 0 n->Up rk (aI st') n m->wpS (ar prog w) A E s (jp () m) (fun r st'=>∃ c,r=.yield c/\Bs kd L st'/\∃ n m pw,c=(none,L.length)/\bD st'=#[(0,n,pw),(n,m,0)]/\0<n/\0<m/\n+m=L.length/\Up rk (aI st') 0 n/\Up rk (aI st') n m) st':=by
    intro m st' B' p' l1 l2 u1 u2;refine ax (lw ?_);extract_lets jp1;rw [show (sortPriv% PySem.Builtin.SortState.pending) st'=#[(0,n,0)] from p'];refine ax (e8 (cw (I:=fun _ c st''=>st''=st'/\c=(none,())) (Q:=fun c st''=>st''=st'/\c=(none,())) ?_ (fun _ _ hh=>hh) ⟨rfl,rfl⟩) ?_)
    ·rintro x c st'' - _ ⟨rfl,rfl⟩;refine ax (lw ?_);rw [show (sortPriv% PySem.Builtin.SortState.pending) st''=#[(0,n,0)] from p'];exact aK ⟨rfl,rfl⟩
    ·rintro c st'' ⟨rfl,rfl⟩;refine ax (nr (ax (nr (aK ⟨_,rfl,⟨B'.kind,B'.perm,B'.ok⟩,n,m,(sortPriv% PySem.Builtin.power) L.length (2*0+n) (2*0+n+n+m) L.length,?_,?_,by omega,l2,l1,u1,u2⟩))))
     ·show ((none,n+m):Option Unit×Nat)=(none,L.length);rw [l1]
     ·show Array.push (Array.modify (bD st'') ((bD st'').size-1) _) _=_;rw [p'];rfl
   refine e8 (Q:=fun r st'=>∃ c,r=.yield c/\Bs kd L st'/\∃ n m pw,c=(none,L.length)/\bD st'=#[(0,n,pw),(n,m,0)]/\0<n/\0<m/\n+m=L.length/\Up rk (aI st') 0 n/\Up rk (aI st') n m) (eh (fun hl=>?_) fun hl=>?_) ?_
   ·have hl:m<mr:=hl;refine ax (qf (cg ⟨rfl,?_⟩));have hf:min (L.length-n) mr=L.length-n:=by omega
    refine ax (Ny (lo:=n) (n:=min (L.length-n) mr) hC hn B2 (by omega) m1 (by omega) u2 fun st3 B3 p3 k3 u3=>?_);refine eh (fun h=>by cases h) fun _=>?_;exact J (min (L.length-n) mr) st3 B3 (p3.trans (p2.trans p1)) (by omega) (by omega) (up fun i hi=>(k3 i hi).trans (k2 i hi)) u3
   ·have hl:¬ m<mr:=hl;exact J m st2 B2 (p2.trans p1) (by omega) (by omega) (up k2) u2
   ·rintro r st' ⟨c,rfl,B',hh⟩;exact ⟨B',.inr (.inr hh)⟩
  ·exact eh (fun _=>aK ⟨B1,.inr ⟨n,m,pw,rfl,p1,n1,n2,n3,u1,u2⟩⟩) fun hg=>absurd (am _) hg
 case post =>
  have fin:∀ {st'},Bs kd L st'->(bD st').size=1->Up rk (aI st') 0 L.length->Bs kd L st'/\(bD st').size=1/\Up rk (aI st') 0 L.length:=fun b p u=>⟨b,p,u⟩;rintro c st1 ⟨B1,hh⟩;obtain ⟨lo,rfl⟩:∃ lo,c=(none,lo):=by
   rcases hh with ⟨n,rfl,_⟩|⟨n,m,pw,rfl,_⟩
   ·exact ⟨_,rfl⟩
   ·exact ⟨_,rfl⟩
  refine ax (e8 (cw
   (I:=fun x c st'=>c=(none,())/\Bs kd L st'/\(((bD st').size=1/\Up rk (aI st') 0 L.length)\/(x=0/\∃ n m pw,bD st'=#[(0,n,pw),(n,m,0)]/\0<n/\0<m/\n+m=L.length/\Up rk (aI st') 0 n/\Up rk (aI st') n m)))
   (Q:=fun c st'=>c=(none,())/\Bs kd L st'/\Up rk (aI st') 0 L.length) ?_ ?_ ⟨rfl,B1,?_⟩) ?_)
  ·rintro x c st' - hx ⟨rfl,B',⟨p1,u⟩|⟨rfl,n,m,pw,p1,n1,n2,n3,u1,u2⟩⟩
   ·refine ax (lw (eh (fun _=>aK ⟨rfl,B',u⟩) fun hg=>absurd ?_ hg));show (bD st').size<=1;omega
   ·refine ax (lw ?_);rw [show (sortPriv% PySem.Builtin.SortState.pending) st'=#[(0,n,pw),(n,m,0)] from p1];refine eh (fun h=>?_) fun _=>?_
    ·have h:(2:Nat)<=1:=h;omega
    refine ax (FU hC hn B' p1 n1 n2 n3 u1 u2 fun st2 B2 p2 u=>?_);exact eh (fun h=>by cases h) fun _=>aK ⟨rfl,B2,.inl ⟨p2,u⟩⟩
  ·rintro c st' ⟨rfl,B',⟨p1,u⟩|⟨e,_⟩⟩
   ·exact ⟨rfl,B',u⟩
   ·omega
  ·rcases hh with ⟨n,_,p,u⟩|⟨n,m,pw,_,hh⟩
   ·exact .inl ⟨p,u⟩
   ·exact .inr ⟨rfl,n,m,pw,hh⟩
  ·rintro c st' ⟨rfl,B',u⟩;exact aK (h st' B' u)
end
end
end TS
namespace TS
open PySem PyProof.Rows PySem.W
section
def Ss:List a9->List Str->Prop
 |[],[]=>True
 |v::vs,x::xs=>(∃ t,v=.str x t)/\Ss vs xs
 |_,_=>False
def tl:List Str->List Str->Bool
 |[],[]=>false
 |[],_::_=>true
 |_::_,[]=>false
 |x::xs,y::ys=>if x=y then tl xs ys else decide (x.cps.toList<y.cps.toList)
def Tk (h:bu) (v:a9) (x:List Str):Prop:=∃ a o vs n,v=.ref a/\h.get? a=some o/\o.cls=.type "tuple"/\o.data=.seq vs n/\Ss vs.toList x
section
variable {prog:aS}{w:bn}{A:bv}{E:a9->ae->Prop}{s:ae}
end
end
section
theorem P6 {x y:Str} (h:x.cps.toList=y.cps.toList):x=y:=by
 cases x;cases y;exact congrArg _ (uK.1 h)
theorem yu {α:Type}{p q:α->Bool}:∀ {l:List α}{a:α},(∀ z∈l,p z=true->q z=true)->a∈l->p a=false->q a=true->l.countP p<l.countP q
 |b::l,a,h,ha,pa,qa=>by
  rw [KA,KA];have mono:l.countP p<=l.countP q:=List.countP_mono_left fun z hz=>h z (ai _ hz);rcases aJ.1 ha with rfl|ha
  ·rw [if_neg (by simp [pa]),if_pos qa];omega
  ·have:=yu (fun z hz=>h z (ai _ hz)) ha pa qa;have hb:=h b (al ..);cases hpb:p b with
   |false=>simp;split<;>omega
   |true=>rw [hb hpb];simp;omega
def xB (xs:List (List Str)) (x:List Str):Nat:=xs.countP fun y=>tl y x
open Classical in
noncomputable def Db (h:bu) (xs:List (List Str)) (v:a9):Nat:=if e:∃ x,Tk h v x then xB xs e.choose else 0
section
def Kd (kd:lE):Prop:=kd=tuples' true\/kd=general'\/kd=oneType'
theorem JD {vs:List a9}{T:a9}{Q:Option a9->ae->Prop} (hn:0<vs.length) (hT:∀ v∈vs,Looks (ar prog w) s.heap (typeOf v) T) (hT2:(T==T)=true) (q:Q (some T) s):ao (ar prog w) A (oneTypeOnly' vs.toArray) Q E s:=by
 match vs,hn with
 |v::vs,_ =>
  rw [oneTypeOnly'_eq,Hb,map_eq_pure_bind];refine a7 (a7 (kas_mapM (r:=T) _ (fun v hv Q' hq=>(hT v hv).here hq) (ac ?_)));have hall2:((uq (fun _=>T) (v::vs)).toArray.all fun x=>x==T)=true:=by
   simp only [List.all_toArray,ur,cY];intro _ _;exact hT2
  have h0:(uq (fun _=>T) (v::vs)).toArray[0]?=some T:=by simp
  rw [h0];simp only [hall2,if_true];exact ac q
end
end
section
section
theorem M6 {vs:List a9}{xs:List bX} (p:xs.Perm (vs.zip vs)):(xs.map (·.2)).Perm vs/\xs.map (·.1)=xs.map (·.2):=by
 refine ⟨?_,cb fun p' hp=>(xm (p.mem_iff.1 hp)).1⟩;have:=p.map (·.2)
 rwa [KB (am _)] at this
theorem Rb  (u:Up rk a 0 a.size):a.toList.Pairwise (P2 rk):=by
 rw [mz];intro i j hi hj hij;have hi':i<a.size:=by simpa using hi
 have hj':j<a.size:=by simpa using hj
 have:=u i j (ck _) hij (by omega);rw [bx (fG hi'),bx (fG hj')] at this;exact this
end
end
end TS
namespace L2
open PySem PySem.Spec PyProof.Rows PySem.W
section
section
theorem Er:∀ {as:List ah}{us:List a9},dg (as.map V.ref) us->us=as.map bt
 |[],_,.nil=>rfl
 |_::_,_,.cons r t=>by cases r;rw [Er t];rfl
theorem uc:∀ as:List ah,dg (as.map V.ref) (as.map bt)
 |[]=>.nil
 |a::as=>.cons rfl (uc as)
theorem yv  (p:us.Perm (as.map bt)):∃ bs:List ah,us=bs.map bt/\bs.Perm as:=by
 refine ⟨us.map fun v=>match v with | .ref a=>a|_=>0,?_,?_⟩
 ·rw [cc];refine (mJ us).symm.trans (cb fun v hv=>?_);obtain ⟨a,_,rfl⟩:=iG.1 (p.mem_iff.1 hv);rfl
 ·have:=p.map fun v=>match v with | .ref a=>a|_=>(0:ah)
  rw [cc] at this;refine this.trans (DJ ?_);exact (cb fun a _=>rfl).trans (mJ as)
end
end
section
section
end
section
end
end
end L2
namespace J
open PySem L2
section
end
end J
section
namespace L2
open PySem PySem.Spec PyProof.Rows PySem.W
end L2
namespace J
open PySem L2
end J
end
namespace J
open PySem PySem.Spec PyProof.Rows L2
section
section
end
end
end J
section
namespace L2
open PySem PySem.Spec PyProof.Rows
end L2
namespace J
open PySem L2
end J
end
namespace L2
open PySem PySem.Spec PyProof.Rows
section
section
variable {prog:aS}{w:bn}{A:bv}{R:tw->ae->Prop}{s:ae}
end
theorem bz.swap {X:Cx}{pl:List (ah×Obj)}{σ:St}{H:Hp}{s:ae}{D:ah}{o o':Obj}{h':bu} (I:bz X ((D,o)::pl) σ H s) (sb:bT D s.heap h') (e':h'.get? D=some o') (nd:∀ v,o'.data≠.cell v) (h1:D∈X.ex\/X.s₀.heap.objs.size<=D) (h2:∀ x c,X.env.cells.lookup x=some c->c≠D) (h3:∀ p∈X.pn++pl,p.1≠D):bz X ((D,o')::pl) σ H { s with heap:=h' }:=by
 obtain ⟨pD,pN,pL,pF,_⟩:=I.pin (D,o) (af _ al)
 have I1:bz X pl σ H s:=I.pins_of fun p hp=>I.pin p (af _ (ai _ hp))
 have I2:bz X pl σ H { s with heap:=h',toks:=s.toks }:=I1.turned (it:=D) (fun b o hb e=>sb.extBut b o hb e) pN pL h1 h2 h3
 refine I2.pins_of fun p hp=>?_
 rcases aJ.1 hp with z|hp
 ·rw [z];exact ⟨e',pN,pL,pF,nd⟩
 ·exact I2.pin p (af _ hp)
end
section
section
variable {prog:aS}{w:bn}{A:bv}{R:tw->ae->Prop}{s:ae}
theorem Rc {elt tg iter:a_}{ifs:List a_}{gens:List v7}{scope:dU}{pos:Pos}{d:Nat}{it acc:a9}{env:Env}{bd:Sem Unit}
  (hT:qd (.SetComp elt gens scope pos) d it acc env=(do
   jt iter.pos
   match <- iP it with
   |none=>pure (.done .next)
   |some v =>
    cB tg it v
    i9 tg env v
    let mut ok:=true
    for c in ifs do
     if ok then ok <- kO c env (cj c env)
    if ok then bd
    again (.compLoop (.SetComp elt gens scope pos) d it acc env))) (I:Nat->ae->Prop)
  (turn:∀ n s,I n s->ao (ar prog w) A (iP it) (fun r s₁=>match r with
   |none=>R (.ok .next) s₁
   |some v=>ao (ar prog w) A (cB tg it v) (fun _ s₁'=>ao (ar prog w) A (i9 tg env v) (fun _ s₂ =>
     ao (ar prog w) A (forIn ifs true fun c r=>if r=true then do let ok <- kO c env (cj c env);pure (c9 ok) else pure (c9 r)) (fun ok s₃ =>
      if ok=true then ao (ar prog w) A bd (fun _ s₅=>∃ m,m<n/\I m s₅) (fun _ _=>False) s₃
      else ∃ m,m<n/\I m s₃) (fun _ _=>False) s₂) (fun _ _=>False) s₁') (fun _ _=>False) s₁) (fun _ _=>False) s)
  (n:Nat) (h:I n s) :
  dG (ar prog w) A (.compLoop (.SetComp elt gens scope pos) d it acc env) R s:=by
 refine qL rfl I (fun n s hI=>?_) n h
 show ao _ A ((qd (.SetComp elt gens scope pos) d it acc env).onRaise (fun x=>do qe x env;m9 x)) _ _ s
 refine tF ?_
 rw [hT]
 refine a7 (cF (a7 (nf (aO (turn n s hI) (fun r s₁ h₁=>?_) fun _ _ h'=>h'))))
 cases r with
 |none=>exact ac h₁
 |some v =>
  refine a7 (nf (aO h₁ (fun _ s₁' h₁'=>?_) fun _ _ h'=>h'))
  refine a7 (nf (aO h₁' (fun _ s₂ h₂=>a7 (nf (aO h₂ (fun ok s₃ h₃=>?_) fun _ _ h'=>h'))) fun _ _ h'=>h'))
  cases ok with
  |false=>exact ac ⟨rfl,h₃⟩
  |true=>exact a7 (nf (aO h₃ (fun _ s₅ h₅=>ac ⟨rfl,h₅⟩) fun _ _ h'=>h'))
theorem M7 {elt tg iter:a_}{ifs:List a_}{g1:v7}{scope:dU}{pos:Pos}{it acc:a9}{env:Env}
  (h0:dG (ar prog w) A (.compLoop (.SetComp elt [g1,⟨tg,iter,ifs,0⟩] scope pos) 1 it acc env) R s)
  (h:ao (ar prog w) A (tq it) (fun it' s'=>dG (ar prog w) A (.compLoop (.SetComp elt [g1,⟨tg,iter,ifs,0⟩] scope pos) 1 it' acc env) R s') (notedBy (ar prog w) A env fun x s'=>R (.error x) s') s) :
  dG (ar prog w) A (.compStart (.SetComp elt [g1,⟨tg,iter,ifs,0⟩] scope pos) 1 it acc env) R s:=by
 refine rG ?_
 show ao _ _ ((compStart (.SetComp elt [g1,⟨tg,iter,ifs,0⟩] scope pos) 1 it acc env).onRaise (fun x=>do qe x env;jt theWindowsPlace)) _ _ s
 refine wpAny_notedAt ?_
 unfold compStart
 show ao _ _ (ask >>= _) _ _ s
 refine a7 (gX (wpAny_ite ?_))
 split
 ·first
   |exact a7 (ac (ac (kf rfl h0)))
   |exact ac (kf rfl h0)
 ·first
   |exact a7 (cg (a7 (cF (a7 (aO h (fun it' s' h'=>ac (kf rfl h')) fun _ _ x=>x)))))
   |(refine a7 (cg ?_);show ao _ _ (jt iter.pos >>= _) _ _ s;exact a7 (cF (a7 (aO h (fun it' s' h'=>ac (kf rfl h')) fun _ _ x=>x))))
end
inductive SJ (X:Cx) (pl:List (ah×Obj)) (D:ah) (σ:St) (fp:List ah) (tn:Nat->bu->Prop) (W:Nat->Nat->List Str->Hp->Prop) (n:Nat) (s':ae):Prop
 |mk (i:Nat) (acc:List Str) (oD:Obj) (H':Hp) (I:bz X ((D,oD)::pl) σ H' s') (S:kh X.w s'.heap D acc) (t:tn i s'.heap) (f:∀ b∈fp,H' b=none) (w:W i n acc H'):SJ X pl D σ fp tn W n s'
inductive SK (X:Cx) (pl:List (ah×Obj)) (D:ah) (σ:St) (Z:List Str->Hp->Prop) (r:tw) (s':ae):Prop
 |mk (acc:List Str) (oD:Obj) (H':Hp) (h0:r=.ok .next) (I:bz X ((D,oD)::pl) σ H' s') (S:kh X.w s'.heap D acc) (z:Z acc H'):SK X pl D σ Z r s'
theorem FW {X:Cx}{elt tg iter:a_}{ifs:List a_}{g1:v7}{scope:dU}{pos:Pos}{tt:TT}{te:TE}{nt:Nat}{pl:List (ah×Obj)}{D:ah}{σ:St}{it:ah}{fp:List ah}{tn:Nat->bu->Prop}{J:It}{Z:List Str->Hp->Prop}{W:Nat->Nat->List Str->Hp->Prop}{s:ae}
  (hc:X.calm=true) (hxe:X.xe=fun _ _=>False) (pg:PG X tg (mL nt)) (pt:Ae X ifs tt) (pe:PE X elt te) (hσ:σ[nt]?=some none) (T:tS X.prog X.w X.K tg J fp it tn)
  (ok:∀ b∈fp,b≠X.env.locals/\b∉X.fs/\(b∈X.ex\/X.s₀.heap.objs.size<=b)/\(∀ x c,X.env.cells.lookup x=some c->c≠b)/\(∀ p∈X.pn++pl,p.1≠b)/\D≠b)
  (h1:D∈X.ex\/X.s₀.heap.objs.size<=D) (h2:∀ x c,X.env.cells.lookup x=some c->c≠D) (h3:∀ p∈X.pn++pl,p.1≠D)
  (turn:∀ i m acc H,W i m acc H->(J.stop i H/\Z acc H)\/(J.go i H/\acc.length+1<gx/\∀ x H',J.yld i H x H'->tt (σ.set nt (some x)) H' fun b H3 =>
   if b=true then te (σ.set nt (some x)) H3 fun y H4=>∃ z m',y=.str z/\m'<m/\W (i+1) m' (if z∈acc then acc else acc++[z]) H4 else ∃ m',m'<m/\W (i+1) m' acc H3))
  (n:Nat) (st:SJ X pl D σ fp tn W n s) :
  dG (ar X.prog X.w) X.A (.compLoop (.SetComp elt [g1,⟨tg,iter,ifs,0⟩] scope pos) 1 (.ref it) (.ref D) X.env) (SK X pl D σ Z) s:=by
 have stat:∀ {H':Hp}{o:Obj},(∀ b∈fp,H' b=none)->∀ b∈fp,jS X ((D,o)::pl) H' b:=fun hn b hb=>by
  obtain ⟨a1,a2,a3,a4,a5,a6⟩:=ok b hb
  refine ⟨hn b hb,a1,a2,a3,a4,fun p hp=>?_⟩
  rcases cf.1 hp with z|z
  ·exact a5 p (bP _ z)
  ·rcases aJ.1 z with y|y
   ·rw [y];exact a6
   ·exact a5 p (af _ y)
 refine Rc (tg:=tg) (iter:=iter) (ifs:=ifs) (bd:=do let v <- cj elt X.env;jt elt.pos;let _ <- call (.builtin "set.add") [.ref D,v]) rfl (SJ X pl D σ fp tn W) ?_ n st
 rintro n s3 ⟨i,acc,oD,H3,J3,hS3,st3,fr3,w3⟩
 have stS:∀ {s8:ae},s8.heap.get? D=some oD->kh X.w s8.heap D acc:=fun {s8} e=>hS3.keep fun o eo=>by
  have q:=(J3.pin (D,oD) (af _ al)).1
  rw [q] at eo;cases eo;exact e
 rcases turn i n acc H3 w3 with ⟨stop,z⟩|⟨go,hlt,step⟩
 ·refine dX (T.done X rfl rfl rfl hc i _ s3 _ H3 _ J3 (stat fr3) st3 stop) fun r s4 h_0=>?_
  obtain ⟨hr,I4⟩:=h_0
  subst hr
  exact ⟨acc,oD,H3,rfl,I4,stS (I4.pin (D,oD) (af _ al)).1,z⟩
 ·refine dX (T.item X rfl rfl rfl hc i _ s3 _ H3 _ J3 (stat fr3) st3 go) fun r s4 h_1=>?_
  obtain ⟨u,hr,h4⟩:=h_1
  subst hr
  refine dX h4 fun _ s5 h_2=>?_
  obtain ⟨x,H5,I5,r5,y5,st5,fr5⟩:=h_2
  have I5':=I5.pinned (stat fr5) (T.obj _ _ st5)
  have low:mL nt x σ H5 (fun σ2 H2=>σ2=σ.set nt (some x)/\tt (σ.set nt (some x)) H2 fun b H3 =>
   if b=true then te (σ.set nt (some x)) H3 fun y H4=>∃ z m',y=.str z/\m'<n/\W (i+1) m' (if z∈acc then acc else acc++[z]) H4 else ∃ m',m'<n/\W (i+1) m' acc H3):=⟨rfl,step x H5 y5⟩
  have q:=pg _ s5 _ H5 x u _ I5' r5 low
  rw [hxe] at q
  refine dX q fun _ s6 h_3=>?_
  obtain ⟨σ6,H6,I6,e6,q6⟩:=h_3
  subst e6
  have hw:∀ (j:Nat) v,σ[j]?=some (some v)->(σ.set nt (some x))[j]?=some (some v):=fun j v e=>by
   by_cases hj:nt=j
   ·rw [<- hj,hσ] at e;cases e
   ·rw [aj hj];exact e
  have q:=pt _ s6 _ H6 _ I6 q6
  rw [hxe] at q
  refine dX q fun b s7 h_4=>?_
  obtain ⟨H7,I7,q7⟩:=h_4
  have fpk:∀ {s8:ae}{σ8:St}{H8:Hp},bz X (((D,oD)::pl)++kg fp s5.heap) σ8 H8 s8->tn (i+1) s8.heap/\∀ b∈fp,H8 b=none:=fun {s8 σ8 H8} I8=>by
   refine ⟨T.keep _ _ _ st5 fun b hb o e=>(I8.pin (b,o) (af _ (af _ (dI hb e)))).1,fun b hb=>?_⟩
   obtain ⟨o,e,d⟩:=T.obj _ _ st5 b hb
   exact (I8.pin (b,o) (af _ (af _ (dI hb e)))).2.1
  cases b with
  |false =>
   simp only [ba,if_false] at q7 ⊢
   obtain ⟨m',hm,w7⟩:=q7
   obtain ⟨t7,f7⟩:=fpk I7
   have I7':=(I7.weak (σ':=σ) (by simp) hw).unpinned
   exact ⟨m',hm,i+1,acc,oD,H7,I7',stS (I7'.pin (D,oD) (af _ al)).1,t7,f7,w7⟩
  |true =>
   simp only [if_true] at q7 ⊢
   have q:=pe _ s7 _ H7 _ I7 q7
   rw [hxe] at q
   refine a7 (dX q fun u8 s8 h_5=>?_)
   obtain ⟨y,H8,I8,r8,z,m',hy,hm,w8⟩:=h_5
   obtain ⟨t8,f8⟩:=fpk I8
   have I8':=(I8.weak (σ':=σ) (by simp) hw).unpinned
   obtain ⟨pD,pN,_⟩:=I8'.pin (D,oD) (af _ al)
   subst hy
   obtain ⟨tz,rfl⟩:=r8
   refine a7 (cF (a7 ?_))
   refine qB (stS pD) hlt fun h9 tk9 sb9 hS9=>?_
   obtain ⟨es9,ep9,t9,is9,pm9⟩:=id hS9
   have e9':=is9.at_
   exact ac ⟨m',hm,i+1,_,{ cls:=.type "set",dict:=none,data:=.set es9 ep9 t9 },H8,(I8'.swap sb9 e9' (fun _ z=>nomatch z) h1 h2 h3).tok _,hS9,T.keep _ _ _ t8 fun b hb o e=>sb9.extBut b o (fun z=>(ok b hb).2.2.2.2.2 z.symm) e,f8,w8⟩
end
section
section
variable {prog:aS}{w:bn}{A:bv}{R:tw->ae->Prop}{s:ae}
theorem P7 {elt tg iter:a_}{ifs:List a_}{gens:List v7}{scope:dU}{pos:Pos}{d:Nat}{it acc:a9}{env:Env}{bk:Sem Fin}
  (hT:qd (.SetComp elt gens scope pos) d it acc env=(do
   jt iter.pos
   match <- iP it with
   |none=>pure (.done .next)
   |some v =>
    cB tg it v
    i9 tg env v
    let mut ok:=true
    for c in ifs do
     if ok then ok <- kO c env (cj c env)
    if ok then bk else again (.compLoop (.SetComp elt gens scope pos) d it acc env))) (I:Nat->ae->Prop)
  (turn:∀ n s,I n s->ao (ar prog w) A (iP it) (fun r s₁=>match r with
   |none=>R (.ok .next) s₁
   |some v=>ao (ar prog w) A (cB tg it v) (fun _ s₁'=>ao (ar prog w) A (i9 tg env v) (fun _ s₂ =>
     ao (ar prog w) A (forIn ifs true fun c r=>if r=true then do let ok <- kO c env (cj c env);pure (c9 ok) else pure (c9 r)) (fun ok s₃ =>
      if ok=true then ao (ar prog w) A bk (fun f s₅=>f=.again (.compLoop (.SetComp elt gens scope pos) d it acc env)/\∃ m,m<n/\I m s₅) (fun _ _=>False) s₃
      else ∃ m,m<n/\I m s₃) (fun _ _=>False) s₂) (fun _ _=>False) s₁') (fun _ _=>False) s₁) (fun _ _=>False) s)
  (n:Nat) (h:I n s) :
  dG (ar prog w) A (.compLoop (.SetComp elt gens scope pos) d it acc env) R s:=by
 refine qL rfl I (fun n s hI=>?_) n h
 show ao _ A ((qd (.SetComp elt gens scope pos) d it acc env).onRaise (fun x=>do qe x env;m9 x)) _ _ s
 refine tF ?_
 rw [hT]
 refine a7 (cF (a7 (nf (aO (turn n s hI) (fun r s₁ h₁=>?_) fun _ _ h'=>h'))))
 cases r with
 |none=>exact ac h₁
 |some v =>
  refine a7 (nf (aO h₁ (fun _ s₁' h₁'=>?_) fun _ _ h'=>h'))
  refine a7 (nf (aO h₁' (fun _ s₂ h₂=>a7 (nf (aO h₂ (fun ok s₃ h₃=>?_) fun _ _ h'=>h'))) fun _ _ h'=>h'))
  cases ok with
  |false=>exact ac ⟨rfl,h₃⟩
  |true =>
   refine nf (aO h₃ (fun f s₅ h₅=>?_) fun _ _ h'=>h')
   obtain ⟨e,h₅⟩:=h₅
   subst e
   exact ⟨rfl,h₅⟩
end
inductive RG (nt:Nat) (tt:TT) (te:TE) (σ:St) (acc:List Str) (Z:List Str->Hp->Prop) (J:It) (H1:Hp):Prop
 |mk (W:Nat->Nat->List Str->Hp->Prop) (w0:∃ m,W 0 m acc H1) (turn:∀ i m acc H,W i m acc H->(J.stop i H/\Z acc H)\/(J.go i H/\acc.length+1<gx/\∀ x H',J.yld i H x H'->tt (σ.set nt (some x)) H' fun b H3 =>
   if b=true then te (σ.set nt (some x)) H3 fun y H4=>∃ z m',y=.str z/\m'<m/\W (i+1) m' (if z∈acc then acc else acc++[z]) H4 else ∃ m',m'<m/\W (i+1) m' acc H3)):RG nt tt te σ acc Z J H1
theorem Dc {X:Cx}{elt tg iter tg2 iter2:a_}{ifs ifs2:List a_}{wi2:TI}{tt2:TT}{scope:dU}{pos:Pos}{g:TG}{tt:TT}{te:TE}{N':List Str}{nt:Nat}{ix:List Nat}
  (hc:X.calm=true) (S:iE X scope N' (nt+1) ix) (lo:GL nt g) (hs2:∀ (env:Env) x,bB iter2 env x=pure x)
  (hb:∀ cl C s₀ H₀ ex pn,PG (b6 X N' scope cl C s₀ H₀ ex pn) tg g/\Ae (b6 X N' scope cl C s₀ H₀ ex pn) ifs tt/\PI (b6 X N' scope cl C s₀ H₀ ex pn) tg2 iter2 wi2/\PG (b6 X N' scope cl C s₀ H₀ ex pn) tg2 (mL nt)/\Ae (b6 X N' scope cl C s₀ H₀ ex pn) ifs2 tt2/\PE (b6 X N' scope cl C s₀ H₀ ex pn) elt te)
  {cl:List (Str×ah)} (c1:∀ x c,cl.lookup x=some c->X.env.cells.lookup x=some c) (c2:∀ y∈scope.names,y.2=.free->∃ c,cl.lookup y.1=some c)
  {pins:List (ah×Obj)}{σ:St}{H2:Hp}{s2:ae}{it:ah}{fp:List ah}{tn:Nat->bu->Prop}{J:It}{Q:VK}{E:a9->ae->Prop}
  (I2:bz X pins σ H2 s2) (T:tS X.prog X.w X.K tg J fp it tn) (st2:tn 0 s2.heap) (f2:∀ b∈fp,jS X pins H2 b)
  {W:Nat->Nat->List Str->Hp->Prop} (w0:∃ m,W 0 m [] H2)
  (turn:∀ i m acc H,W i m acc H->(J.stop i H/\∀ p,H p=none->Q (.ref p) (upd H p (lF X.w p acc))) \/
   (J.go i H/\∀ x H',J.yld i H x H'->g x (fA (nt+1) ix σ) H' fun σ2 H2=>tt σ2 H2 fun b H3 =>
    if b=true then wi2 σ2 H3 (RG nt tt2 te σ2 acc fun acc' H'=>∃ m',m'<m/\W (i+1) m' acc' H') else ∃ m',m'<m/\W (i+1) m' acc H3))
  {RR:a9->ah->tw->ae->Prop}
  (hRR:∀ D C m s' (acc:List Str) H',H' D=none->jS X pins (upd H' D (lF X.w D acc)) C->Q (.ref D) (upd H' D (lF X.w D acc))->s'.heap.Ns C m->(∀ h',bT C s'.heap h'->bz X pins σ (upd H' D (lF X.w D acc)) { s' with heap:=h' })->RR (.ref D) C (.ok .next) s') :
  ao (ar X.prog X.w) X.A (GX (.type "set")) (fun acc s₃=>ao (ar X.prog X.w) X.A (ke scope X.env.globals cl [] X.env.qual none .none (some X.env)) (fun cenv s₄ =>
   dG (ar X.prog X.w) X.A (.compStart (.SetComp elt [⟨tg,iter,ifs,0⟩,⟨tg2,iter2,ifs2,0⟩] scope pos) 0 (.ref it) acc { cenv with scope:=relabel scope X.env }) (RR acc cenv.locals) s₄) E s₃) E s2:=by
 refine qA (ve fun h₁ hh₁=>?_)
 dsimp only at hh₁ ⊢
 generalize hG2:s2.heap.push (hU X.w)=G2 at hh₁ ⊢
 have hC:G2.objs.size=s2.heap.objs.size+1:=by rw [<- hG2,bF]
 have hDC:s2.heap.objs.size≠G2.objs.size:=by rw [hC];exact aA (cZ _)
 have hCle:s2.heap.objs.size<=G2.objs.size:=by rw [hC];exact fh _
 have below:∀ b,b<s2.heap.objs.size->b≠G2.objs.size:=fun b hb=>by rw [hC];exact aA (cG hb)
 have kp:∀ b o,G2.get? b=some o->h₁.get? b=some o:=fun b o e=>by rw [hh₁];exact gq _ _ b o (aa _ e)
 have hns₁:h₁.Ns G2.objs.size (fun _=>none):=by rw [hh₁];exact (um G2 (.type "dict")).keeps (gq _ _)
 have ok₁:C2 h₁ (G2.objs.size+1) (aC (G2.objs.size+1) scope.names []):=by rw [hh₁];exact pJ G2 scope.names
 have cne:∀ x c,(aC (G2.objs.size+1) scope.names cl).lookup x=some c->X.env.cells.lookup x=some c\/s2.heap.objs.size<c:=fun x c e=>by
  rcases iK e with a|⟨_,a⟩
  ·exact .inr (aD (jy hCle) (ok₁.empty x c a).2)
  ·exact .inl (c1 x c a)
 have old:∀ b o,s2.heap.get? b=some o->h₁.get? b=some o:=fun b o e=>kp b o (hG2 ▸ aa _ e)
 have hacc:h₁.get? s2.heap.objs.size=some (hU X.w):=kp _ _ (hG2 ▸ aw _ rfl)
 have ff:∀ b∈fp,b<s2.heap.objs.size:=fun b hb=>by
  obtain ⟨o,e,_⟩:=T.obj _ _ st2 b hb
  exact ap e
 have I3:bz (b6 X N' scope (aC (G2.objs.size+1) scope.names cl) G2.objs.size s2 H2 fp (X.pn++pins)) [] (fA (nt+1) ix σ) H2 { s2 with heap:=h₁,toks:=s2.toks }:=r_ S I2 c1 c2 f2 ff hCle hns₁ old ok₁
 obtain ⟨pg,pt,pi2,pg2,pt2,pe⟩:=hb (aC (G2.objs.size+1) scope.names cl) G2.objs.size s2 H2 fp (X.pn++pins)
 have hDfs:s2.heap.objs.size∉tm X.stack:=fun z=>by
  rcases List.mem_cons.mp (I2.stkSub _ z) with e|e
  ·exact absurd I2.lt (by rw [<- e];exact aU _)
  ·exact I2.nofs (am _) e
 have st1:tn 0 h₁:=T.keep _ _ _ st2 fun b _ o e=>old b o e
 have hDf:s2.heap.objs.size∉fp:=fun z=>absurd (ff _ z) (aU _)
 have stat:∀ {H':Hp}{pl:List (ah×Obj)},(∀ p∈pl,p.1∉fp)->(∀ b∈fp,H' b=none)->∀ b∈fp,jS (b6 X N' scope (aC (G2.objs.size+1) scope.names cl) G2.objs.size s2 H2 fp (X.pn++pins)) pl H' b:=fun hpl hn b hb=>by
  obtain ⟨f0,f1,f2',f3,f4,f5⟩:=f2 b hb
  refine ⟨hn b hb,below b (ff b hb),fun z=>?_,.inl hb,fun x c e=>(cne x c e).elim (f4 x c) fun q z=>lC q (by rw [z];exact ff b hb),fun p hp z=>?_⟩
  ·rcases List.mem_cons.mp (I2.stkSub _ z) with e|e
   ·exact f1 e
   ·exact f2' e
  ·rcases List.mem_append.mp hp with q|q
   ·exact f5 p q z
   ·exact hpl p q (z ▸ hb)
 obtain ⟨m0,w0⟩:=w0
 have loop:dG (ar X.prog X.w) X.A (.compLoop (.SetComp elt [⟨tg,iter,ifs,0⟩,⟨tg2,iter2,ifs2,0⟩] scope pos) 0 (.ref it) (.ref s2.heap.objs.size) (lB scope (aC (G2.objs.size+1) scope.names cl) G2.objs.size X.env))
    (RR (.ref s2.heap.objs.size) G2.objs.size) { s2 with heap:=h₁,toks:=s2.toks }:=by
  refine P7 (tg:=tg) (iter:=iter) (ifs:=ifs) (bk:=do
   let x <- cj iter2 (lB scope (aC (G2.objs.size+1) scope.names cl) G2.objs.size X.env)
   jt iter2.pos
   let x <- bB iter2 (lB scope (aC (G2.objs.size+1) scope.names cl) G2.objs.size X.env) x
   let _ <- runOwn (.compStart (.SetComp elt [⟨tg,iter,ifs,0⟩,⟨tg2,iter2,ifs2,0⟩] scope pos) 1 (<- C0 [x] (tq x)) (.ref s2.heap.objs.size) (lB scope (aC (G2.objs.size+1) scope.names cl) G2.objs.size X.env)) (lB scope (aC (G2.objs.size+1) scope.names cl) G2.objs.size X.env)
   again (.compLoop (.SetComp elt [⟨tg,iter,ifs,0⟩,⟨tg2,iter2,ifs2,0⟩] scope pos) 0 (.ref it) (.ref s2.heap.objs.size) (lB scope (aC (G2.objs.size+1) scope.names cl) G2.objs.size X.env))) rfl (Su X pins N' scope (aC (G2.objs.size+1) scope.names cl) G2.objs.size s2 H2 fp (nt+1) ix σ tn W) ?_ m0
   ⟨0,[],_,H2,I3.pin1 hacc (I2.hok.fresh (am _)) hDC hDfs (fun v z=>nomatch z),tU X.w hacc,st1,fun b hb=>(f2 b hb).1,w0⟩
  rintro n s3 ⟨i,acc,oD,H3,J3,hS3,st3,fr3,w3⟩
  have plD:∀ p∈[(s2.heap.objs.size,oD)],p.1∉fp:=fun p hp=>by
   have:p=(s2.heap.objs.size,oD):=by simpa using hp
   rw [this];exact hDf
  have stS:∀ {s8:ae},s8.heap.get? s2.heap.objs.size=some oD->kh X.w s8.heap s2.heap.objs.size acc:=fun {s8} e=>hS3.keep fun o eo=>by
   have q:=(J3.pin (s2.heap.objs.size,oD) (af _ (List.mem_singleton.mpr rfl))).1
   rw [q] at eo;cases eo;exact e
  rcases turn i n acc H3 w3 with ⟨stop,qn⟩|⟨go,step⟩
  ·refine dX (T.done (b6 X N' scope (aC (G2.objs.size+1) scope.names cl) G2.objs.size s2 H2 fp (X.pn++pins)) rfl rfl rfl hc i _ s3 _ H3 _ J3 (stat plD fr3) st3 stop) fun r s4 h_0=>?_
   obtain ⟨hr,I4⟩:=h_0
   subst hr
   obtain ⟨pD,pN,_⟩:=I4.pin (s2.heap.objs.size,_) (af _ (List.mem_singleton.mpr rfl))
   obtain ⟨mm,hn,_⟩:=I4.loc
   have hCn:H3 G2.objs.size=none:=I4.free
   refine hRR _ _ mm s4 acc H3 pN (I2.fpOk hCle (by rw [bh (cR hDC)];exact hCn)) (qn _ pN) hn fun h' sb=>?_
   have hu:Un (tm X.stack) fp H2 (upd H3 s2.heap.objs.size (lF X.w s2.heap.objs.size acc)) s2.heap h':=Un.grow I4.base sb hCle (am _) pN
   refine I2.call' (s':={ s4 with heap:=h' }) (ch:=fp) I4.os hu ?_ I4.bare fun b hb=>?_
   ·exact mO (sd I4.hok hCn sb) pN (zh ((stS pD).keep fun o e=>(sb.2 _ hDC).trans e))
   ·obtain ⟨_,f1,_,f3,f4,f5⟩:=f2 b hb
    exact ⟨f3,f1,f4,f5⟩
  ·refine dX (T.item (b6 X N' scope (aC (G2.objs.size+1) scope.names cl) G2.objs.size s2 H2 fp (X.pn++pins)) rfl rfl rfl hc i _ s3 _ H3 _ J3 (stat plD fr3) st3 go) fun r s4 h_1=>?_
   obtain ⟨u,hr,h4⟩:=h_1
   subst hr
   refine dX h4 fun _ s5 h_2=>?_
   obtain ⟨x,H5,I5,r5,y5,st5,fr5⟩:=h_2
   have I5':=I5.pinned (stat plD fr5) (T.obj _ _ st5)
   refine dX (pg _ s5 _ H5 x u _ I5' r5 (lo _ _ _ _ (step x H5 y5))) fun _ s6 h_3=>?_
   obtain ⟨σ6,H6,I6,q6,l6,k6⟩:=h_3
   have hw:∀ (j:Nat) v,(fA (nt+1) ix σ)[j]?=some (some v)->σ6[j]?=some (some v):=fun j v e=>by
    by_cases hj:nt<=j
    ·rw [k6 j hj];exact e
    ·unfold fA at e
     rw [bf (by simp;omega),bw,if_pos (by omega)] at e
     cases e
   refine dX (pt _ s6 σ6 H6 _ I6 q6) fun b s7 h_4=>?_
   obtain ⟨H7,I7,q7⟩:=h_4
   have fpk:∀ {s8:ae}{σ8:St}{H8:Hp},bz (b6 X N' scope (aC (G2.objs.size+1) scope.names cl) G2.objs.size s2 H2 fp (X.pn++pins)) ([(s2.heap.objs.size,oD)]++kg fp s5.heap) σ8 H8 s8 ->
     tn (i+1) s8.heap/\∀ b∈fp,H8 b=none:=fun {s8 σ8 H8} I8=>by
    refine ⟨T.keep _ _ _ st5 fun b hb o e=>(I8.pin (b,o) (af _ (af _ (dI hb e)))).1,fun b hb=>?_⟩
    obtain ⟨o,e,d⟩:=T.obj _ _ st5 b hb
    exact (I8.pin (b,o) (af _ (af _ (dI hb e)))).2.1
   have fpk':∀ {s8:ae}{σ8:St}{H8:Hp}{o':Obj},bz (b6 X N' scope (aC (G2.objs.size+1) scope.names cl) G2.objs.size s2 H2 fp (X.pn++pins)) ((s2.heap.objs.size,o')::kg fp s5.heap) σ8 H8 s8 ->
     tn (i+1) s8.heap/\∀ b∈fp,H8 b=none:=fun {s8 σ8 H8 o'} I8=>by
    refine ⟨T.keep _ _ _ st5 fun b hb o e=>(I8.pin (b,o) (af _ (ai _ (dI hb e)))).1,fun b hb=>?_⟩
    obtain ⟨o,e,d⟩:=T.obj _ _ st5 b hb
    exact (I8.pin (b,o) (af _ (ai _ (dI hb e)))).2.1
   cases b with
   |false =>
    simp only [ba,if_false] at q7 ⊢
    obtain ⟨m',hm,w7⟩:=q7
    obtain ⟨t7,f7⟩:=fpk I7
    obtain ⟨pD,_⟩:=I7.pin (s2.heap.objs.size,oD) (af _ (bP _ (List.mem_singleton.mpr rfl)))
    exact ⟨m',hm,i+1,acc,oD,H7,(I7.weak l6.symm hw).unpinned,stS pD,t7,f7,w7⟩
   |true =>
    simp only [if_true] at q7 ⊢
    have hσ:σ6[nt]?=some none:=by
     rw [k6 nt (am _)]
     unfold fA
     rw [bf (by simp),bw,if_pos (by omega)]
    refine a7 (dX (pi2 _ s7 σ6 H7 _ I7 q7) fun v s8 h_5=>a7 (cF (a7 (A9 (hs2 _ v) (a7 (cE (dX h_5 fun itv s9 h_6=>a7 (wpAny_runOwn ?_))))))))
    obtain ⟨it2,fp2,tn2,J2,H9,e9,I9,T2,t9,ok9,W2,⟨m2,w2⟩,turn2⟩:=h_6
    subst e9
    have pin9:∀ p∈X.pn++pins,p.1≠s2.heap.objs.size:=fun p hp z=>absurd (ap (I2.pin p hp).1) (by rw [z];exact aU _)
    have cell9:∀ x c,(aC (G2.objs.size+1) scope.names cl).lookup x=some c->c≠s2.heap.objs.size:=fun x c e z=>by
     rcases cne x c e with e|e
     ·obtain ⟨v,q⟩:=I2.cell x c e
      exact absurd q.lt (by rw [z];exact aU _)
     ·exact absurd e (by rw [z];exact aU _)
    have inn:=FW (X:=b6 X N' scope (aC (G2.objs.size+1) scope.names cl) G2.objs.size s2 H2 fp (X.pn++pins)) (g1:=⟨tg,iter,ifs,0⟩) (iter:=iter2) (scope:=scope) (pos:=pos) (pl:=kg fp s5.heap) (D:=s2.heap.objs.size) (σ:=σ6) (s:=s9) hc rfl pg2 pt2 pe hσ T2
     (fun b hb=>by
      obtain ⟨a0,a1,a2,a3,a4,a5⟩:=ok9 b hb
      exact ⟨a1,a2,a3,a4,fun p hp=>a5 p ((cf.1 hp).elim (fun z=>bP _ z) fun z=>af _ (af _ z)),a5 (s2.heap.objs.size,oD) (af _ (bP _ (List.mem_singleton.mpr rfl)))⟩)
     (.inr (am _)) cell9 (fun p hp z=>by
      rcases cf.1 hp with y|y
      ·exact pin9 p y z
      ·exact hDf (z ▸ (xP y).1)) turn2 m2 ⟨0,acc,oD,H9,I9,stS (I9.pin (s2.heap.objs.size,oD) (af _ (bP _ (List.mem_singleton.mpr rfl)))).1,t9,fun b hb=>(ok9 b hb).1,w2⟩
    have fin:=M7 (R:=SK (b6 X N' scope (aC (G2.objs.size+1) scope.names cl) G2.objs.size s2 H2 fp (X.pn++pins)) (kg fp s5.heap) s2.heap.objs.size σ6 fun acc' H'=>∃ m',m'<n/\W (i+1) m' acc' H') inn (T2.self _ 0 _ _ _ t9 inn)
    refine mD fin fun r s10 h10=>?_
    obtain ⟨acc',oD',H10,rfl,I10,hS10,m',hm,w10⟩:=h10
    obtain ⟨t10,f10⟩:=fpk' I10
    exact ac ⟨rfl,m',hm,i+1,acc',oD',H10,(I10.weak (σ':=fA (nt+1) ix σ) l6.symm hw).pins_of fun p hp=>I10.pin p (af _ (by rw [bZ.1 hp];exact al)),hS10,t10,f10,w10⟩
 exact jw loop (T.self _ 0 _ _ _ st1 loop)
inductive JF (w:bn) (nt:Nat) (ix:List Nat) (g:TG) (tt:TT) (wi2:TI) (tt2:TT) (te:TE) (σ:St) (Q:VK) (J:It) (H1:Hp):Prop
 |mk (W:Nat->Nat->List Str->Hp->Prop) (w0:∃ m,W 0 m [] H1) (turn:∀ i m acc H,W i m acc H->(J.stop i H/\∀ p,H p=none->Q (.ref p) (upd H p (lF w p acc))) \/
   (J.go i H/\∀ x H',J.yld i H x H'->g x (fA (nt+1) ix σ) H' fun σ2 H2=>tt σ2 H2 fun b H3 =>
    if b=true then wi2 σ2 H3 (RG nt tt2 te σ2 acc fun acc' H'=>∃ m',m'<m/\W (i+1) m' acc' H') else ∃ m',m'<m/\W (i+1) m' acc H3)):JF w nt ix g tt wi2 tt2 te σ Q J H1
def Es (w:bn) (nt:Nat) (ix:List Nat) (wi:TI) (g:TG) (tt:TT) (wi2:TI) (tt2:TT) (te:TE):TE:=fun σ H Q=>wi σ H (JF w nt ix g tt wi2 tt2 te σ Q)
theorem Bd {X:Cx}{elt tg iter tg2 iter2:a_}{ifs ifs2:List a_}{scope:dU}{pos:Pos}{wi wi2:TI}{g:TG}{tt tt2:TT}{te:TE}{N':List Str}{nt:Nat}{ix:List Nat}
  (hc:X.calm=true) (S:iE X scope N' (nt+1) ix) (lo:GL nt g) (hi:PI X tg iter wi)
  (hb:∀ cl C s₀ H₀ ex pn,PG (b6 X N' scope cl C s₀ H₀ ex pn) tg g/\Ae (b6 X N' scope cl C s₀ H₀ ex pn) ifs tt/\PI (b6 X N' scope cl C s₀ H₀ ex pn) tg2 iter2 wi2/\PG (b6 X N' scope cl C s₀ H₀ ex pn) tg2 (mL nt)/\Ae (b6 X N' scope cl C s₀ H₀ ex pn) ifs2 tt2/\PE (b6 X N' scope cl C s₀ H₀ ex pn) elt te)
  (hs2:∀ (env:Env) x,bB iter2 env x=pure x) (hs:∀ x,bB iter X.env x=pure x:=by intro _;rfl):PE X (.SetComp elt [⟨tg,iter,ifs,0⟩,⟨tg2,iter2,ifs2,0⟩] scope pos) (Es X.w nt ix wi g tt wi2 tt2 te):=by
 intro pins s σ H Q I h
 obtain ⟨cl,hcl,c1,c2⟩:=kU (scope:=scope) (env:=X.env) fun y hy hf=>I.ok.has y.1 (S.free y hy hf)
 show ao _ _ (uY (.SetComp elt [⟨tg,iter,ifs,0⟩,⟨tg2,iter2,ifs2,0⟩] scope pos) scope X.env (firstIterPos [⟨tg,iter,ifs,0⟩,⟨tg2,iter2,ifs2,0⟩] pos) (GX (.type "set")) (firstAsync [⟨tg,iter,ifs,0⟩,⟨tg2,iter2,ifs2,0⟩]) (firstIter [⟨tg,iter,ifs,0⟩,⟨tg2,iter2,ifs2,0⟩] X.env)) _ _ _
 refine gH (use:=none) rfl hs hcl S.kind S.loc (dX (hi pins s σ H _ I h) fun v s1 h1=>dX h1 fun itv s2 h2=>?_)
 obtain ⟨it,fp,tn,J,H2,e,I2,T,st2,f2,W,w0,turn⟩:=h2
 subst e
 refine Dc (RR:=fun acc C=>Cf (ar X.prog X.w) X.A X.xe none (EP X pins σ Q) acc C) hc S lo hs2 hb c1 c2 I2 T st2 f2 w0 turn ?_
 intro D C m s' acc H' hD _ q hn hI
 exact ⟨m,hn,fun h' sb=>⟨.ref D,_,hI h' sb,rfl,q⟩⟩
end
end L2
namespace J
open PySem L2
section
def P8 (nt:Nat) (ρ:ay) (gt:ay->R Bool) (ge:ay->R D):D->R (Option D):=fun d=>zy ((gt (ρ.set nt (.shr d))).bind fun b=>if b then (ge (ρ.set nt (.shr d))).bind fun y=>.ok (some y) else .ok none)
def qZ (nt:Nat) (ρ:ay) (gt:ay->R Bool) (gi2:ay->R (List D)) (gt2:ay->R Bool) (ge:ay->R D):D->R (List D):=fun d=>zy ((MY nt d ρ).bind fun ρ'=>(gt ρ').bind fun b=>if b then (gi2 ρ').bind fun es=>eN (P8 nt ρ' gt2 ge) es else .ok [])
def mW (f:D->R (List D)):List D->R (List D)
 |[]=>.ok []
 |d::r=>(f d).bind fun xs=>(mW f r).bind fun ys=>.ok (xs++ys)
theorem Dd {f:D->R (List D)}{d:D}{r ys:List D} (h:mW f (d::r)=.ok ys):∃ xs zs,f d=.ok xs/\mW f r=.ok zs/\ys=xs++zs:=by
 unfold mW at h
 cases hf:f d with
 |ok o =>
  rw [hf,bind_ok] at h
  cases hm:mW f r with
  |ok zs=>rw [hm,bind_ok] at h;cases h;exact ⟨_,zs,rfl,rfl,rfl⟩
  |ex x n=>rw [hm] at h;cases h
  |no=>rw [hm] at h;cases h
 |ex x n=>rw [hf] at h;cases h
 |no=>rw [hf] at h;cases h
theorem FX (nt:Nat) (ρ:ay) (gt:ay->R Bool) (gi2:ay->R (List D)) (gt2:ay->R Bool) (ge:ay->R D) (d:D) (c:Str) (n):qZ nt ρ gt gi2 gt2 ge d≠.ex c n:=by
 unfold qZ;intro h;revert h;generalize R.bind _ _=r;cases r<;>exact fun h=>by cases h
theorem Be {f:D->R (List D)} (hf:∀ d c n,f d≠.ex c n):∀ (l:List D) c n,mW f l≠.ex c n
 |[],c,n=>fun h=>by cases h
 |d::r,c,n=>fun h=>by
  unfold mW at h
  cases hd:f d with
  |no=>rw [hd] at h;cases h
  |ex x y=>exact hf _ _ _ hd
  |ok o =>
   rw [hd,bind_ok] at h
   cases hm:mW f r with
   |ok zs=>rw [hm,bind_ok] at h;cases h
   |ex x n=>exact Be hf _ _ _ hm
   |no=>rw [hm] at h;cases h
def pS (nt:Nat) (ix:List Nat) (gi:ay->R (List D)) (gt:ay->R Bool) (gi2:ay->R (List D)) (gt2:ay->R Bool) (ge:ay->R D):ay->R (List Str):=fun ρ=>(gi ρ).bind fun ds=>(mW (qZ nt (js (nt+1) ix ρ) gt gi2 gt2 ge) ds).bind fun ys=>match eB ys with
 |some ss=>if ss.length<=60 then .ok (bW [] ss) else .no
 |none=>.no
inductive Tt (f:D->R (Option D)) (ds:List D) (ss tl:List Str) (H1 Hs1:Hp) (i m:Nat) (acc:List Str) (H':Hp):Prop
 |mk (done bA zs sa sz Hs':_) (h0:ds=done++bA) (h1:done.length=i) (h2:bA.length=m) (h3:c8 H1 Hs1 H' Hs') (h4:acc=bW [] sa) (h6:eN f bA=.ok zs) (h7:eB zs=some sz) (h8:ss=sa++(sz++tl)):Tt f ds ss tl H1 Hs1 i m acc H'
inductive Tu (f:D->R (List D)) (ds:List D) (ss:List Str) (H1 Hs1:Hp) (i m:Nat) (acc:List Str) (H':Hp):Prop
 |mk (done bA zs sa sz Hs':_) (h0:ds=done++bA) (h1:done.length=i) (h2:bA.length=m) (h3:c8 H1 Hs1 H' Hs') (h4:acc=bW [] sa) (h6:mW f bA=.ok zs) (h7:eB zs=some sz) (h8:ss=sa++sz):Tu f ds ss H1 Hs1 i m acc H'
section
variable {K:a8}{cls:Str->ah}{w:bn}{E:XK}{σ:St}{H:Hp}{Q:VK}{ρ ρ':ay}{H0 Hs0 H1 Hs1 Hn:Hp}{la:Nat->Option ah}{nt:Nat}{ix:List Nat}{gi gi2:ay->R (List D)}{gt gt2:ay->R Bool}{ge:ay->R D}{J:It}{es zs:List D}{ss sa sz tl:List Str}
theorem Re {Z:List Str->Hp->Prop} (f:Fr K H0 Hs0 la ρ' σ H1 Hs1) (sn:cz Hn H1) (it:Iz K J es Hn Hs1) (hm:eN (P8 nt ρ' gt2 ge) es=.ok zs) (hz:eB zs=some sz) (hl:ss.length<=60) (hy:ss=sa++(sz++tl))
  (q:∀ sb H' Hs',ss=sb++tl->c8 H1 Hs1 H' Hs'->Z (bW [] sb) H') :
  RG nt (fun σ H Q=>∃ ρ',Af K cls E0 ρ' (gt2 ρ') σ H Q) (fun σ H Q=>∃ ρ',TR K cls E0 ρ' (ge ρ') σ H Q) σ (bW [] sa) Z J H1:=by
 refine ⟨Tt (P8 nt ρ' gt2 ge) es ss tl H1 Hs1,⟨es.length,[],es,zs,sa,sz,Hs1,rfl,rfl,rfl,.refl f.st.sub,rfl,hm,hz,hy⟩,?_⟩
 rintro i m acc H' ⟨done,bA,zs,sa,sz,Hs',hds,hdl,hrl,st,rfl,hz,hzs,hy⟩
 obtain ⟨igo,istop,iyld⟩:=it H' Hs' (sn.trans st.all) st.sh st.sub
 cases bA with
 |nil =>
  left;cases hz;cases hzs;rw [bC] at hds;subst hds
  exact ⟨istop i (by omega),q sa H' Hs' hy st⟩
 |cons d bA =>
  right
  have hil:i<es.length:=by rw [hds,aB,bp];omega
  have hol:=fH sa []
  simp at hol
  have hsl:sa.length<=ss.length:=by rw [hy,aB];omega
  refine ⟨igo i hil,m8 (show (bW [] sa).length+1<=61 by omega) (by decide),fun x H2 hyl=>?_⟩
  obtain ⟨d',Hs2,hd,s2,r2⟩:=iyld i x H2 hil hyl
  have hdd:d'=d:=by
   rw [hds,aR (by omega)] at hd;simp [hdl] at hd;exact hd.symm
  subst hdd
  obtain ⟨o,zs',hf,hz',rfl⟩:=nE hz
  have hf:=sy hf
  obtain ⟨so,sz',hso,hsz,rfl⟩:=mh hzs
  have f2:=((f.step st).step s2).set nt r2
  refine ⟨_,_,_,_,Hs2,f2,?_⟩
  cases ht:gt2 (ρ'.set nt (.shr d')) with
  |no=>rw [ht] at hf;cases hf
  |ex x n=>rw [ht] at hf;cases hf
  |ok b =>
   rw [ht,bind_ok] at hf;intro H3 Hs3 s3
   cases b with
   |false =>
    rw [if_neg bj] at hf;cases hf;cases hso
    exact vH ⟨bA.length,by rw [<- hrl];simp,done++[d'],bA,zs',sa,sz',Hs3,by rw [hds];simp,by simp [hdl],rfl,(st.trans s2).trans s3,rfl,hz',hsz,by simpa using hy⟩
   |true =>
    rw [if_pos rfl] at hf
    refine vI ⟨_,_,_,_,Hs3,f2.step s3,?_⟩
    cases he:ge (ρ'.set nt (.shr d')) with
    |no=>rw [he] at hf;cases hf
    |ex x n=>rw [he] at hf;cases hf
    |ok y =>
     rw [he,bind_ok] at hf;cases hf;intro v H4 Hs4 s4 r4
     cases r4 with
     |str z =>
      cases hso
      exact ⟨z,bA.length,rfl,by rw [<- hrl];simp,done++[d'],bA,zs',sa++[z],sz',Hs4,by rw [hds];simp,by simp [hdl],rfl,((st.trans s2).trans s3).trans s4,(qY z sa []).symm,hz',hsz,by rw [hy];simp⟩
     |none=>cases hso
     |bool _=>cases hso
     |int _=>cases hso
     |list _ _=>cases hso
     |tuple _ _=>cases hso
     |dictK _ _=>cases hso
     |dictT _ _ _=>cases hso
     |dictF _ _ _=>cases hso
theorem JH (hnt:nt=1\/nt=2)
  (q:QC K w cls E ρ (pS nt ix gi gt gi2 gt2 ge ρ) σ H Q) :
  Es w nt ix (OL K cls E ρ (gi ρ)) (w4 K nt) (fun σ H Q=>∃ ρ',Af K cls E0 ρ' (gt ρ') σ H Q) (fun σ H Q=>∃ ρ',OL K cls E0 ρ' (gi2 ρ') σ H Q) (fun σ H Q=>∃ ρ',Af K cls E0 ρ' (gt2 ρ') σ H Q) (fun σ H Q=>∃ ρ',TR K cls E0 ρ' (ge ρ') σ H Q) σ H Q:=by
 obtain ⟨H0,Hs0,la,Hs,f,q⟩:=q;refine ⟨H0,Hs0,la,Hs,f,?_⟩;unfold pS at q
 cases hi:gi ρ with
 |no=>rw [hi] at q;exact q
 |ex x n=>rw [hi] at q;exact q
 |ok ds =>
  rw [hi,bind_ok] at q;intro J H1 Hs1 Hn s1 sn it
  cases hm:mW (qZ nt (js (nt+1) ix ρ) gt gi2 gt2 ge) ds with
  |no=>rw [hm] at q;exact q.elim
  |ex x n=>exact (Be (FX _ _ _ _ _ _) _ _ _ hm).elim
  |ok ys =>
   rw [hm,bind_ok] at q
   cases hs:eB ys with
   |none=>rw [hs] at q;exact q.elim
   |some ss =>
    rw [hs] at q
    by_cases hl:ss.length<=60
    ·simp only [if_pos hl] at q
     obtain ⟨lb,fb⟩:=(f.step s1).block (nt+1) ix
     refine ⟨Tu (qZ nt (js (nt+1) ix ρ) gt gi2 gt2 ge) ds ss H1 Hs1,
      ⟨ds.length,[],ds,ys,[],ss,Hs1,rfl,rfl,rfl,.refl s1.sub,rfl,hm,hs,rfl⟩,?_⟩
     rintro i m acc H' ⟨done,bA,zs,sa,sz,Hs',hds,hdl,hrl,st,rfl,hz,hzs,hy⟩
     obtain ⟨igo,istop,iyld⟩:=it H' Hs' (sn.trans st.all) st.sh st.sub
     cases bA with
     |nil =>
      left;cases hz;cases hzs;rw [bC] at hds hy;subst hy hds
      exact ⟨istop i (by omega),fun p hp=>q p H' Hs' (s1.trans st) hp⟩
     |cons d bA =>
      right
      have hil:i<ds.length:=by rw [hds,aB,bp];omega
      refine ⟨igo i hil,fun x H2 hyl=>?_⟩
      obtain ⟨d',Hs2,hd,s2,r2⟩:=iyld i x H2 hil hyl
      have hdd:d'=d:=by
       rw [hds,aR (by omega)] at hd;simp [hdl] at hd;exact hd.symm
      subst hdd
      obtain ⟨o,zs',hf,hz',rfl⟩:=Dd hz
      have hf:=sy hf
      obtain ⟨so,sz',hso,hsz,rfl⟩:=mh hzs
      cases hb:MY nt d' (js (nt+1) ix ρ) with
      |no=>rw [hb] at hf;cases hf
      |ex x n=>rw [hb] at hf;cases hf
      |ok ρ' =>
       rw [hb,bind_ok] at hf
       refine sD hnt ((fb.step st).step s2) r2 hb fun σ2 f2=>⟨ρ',?_⟩
       refine ⟨_,_,_,Hs2,f2,?_⟩
       cases ht:gt ρ' with
       |no=>rw [ht] at hf;cases hf
       |ex x n=>rw [ht] at hf;cases hf
       |ok b =>
        rw [ht,bind_ok] at hf;intro H3 Hs3 s3
        cases b with
        |false =>
         rw [if_neg bj] at hf;cases hf;cases hso
         exact vH ⟨bA.length,by rw [<- hrl];simp,done++[d'],bA,zs',sa,sz',Hs3,by rw [hds];simp,by simp [hdl],rfl,(st.trans s2).trans s3,rfl,hz',hsz,by simpa using hy⟩
        |true =>
         rw [if_pos rfl] at hf
         refine vI ⟨ρ',_,_,_,Hs3,f2.step s3,?_⟩
         cases he:gi2 ρ' with
         |no=>rw [he] at hf;cases hf
         |ex x n=>rw [he] at hf;cases hf
         |ok es =>
          rw [he,bind_ok] at hf;intro J2 H4 Hs4 Hn4 s4 sn4 it4
          refine Re (tl:=sz') (ss:=ss) (sa:=sa) ((f2.step s3).step s4) sn4 it4 hf hso hl hy fun sb H5 Hs5 hsb s5=>?_
          exact ⟨bA.length,by rw [<- hrl];simp,done++[d'],bA,zs',sb,sz',Hs5,by rw [hds];simp,by simp [hdl],rfl,(((st.trans s2).trans s3).trans s4).trans s5,rfl,hz',hsz,hsb⟩
    ·simp only [if_neg hl] at q;exact q.elim
end
section
variable {c:C}{elt tg iter tg2 iter2:a_}{ifs ifs2:List a_}{scope:dU}{pos:Pos}{N':List Str}{nt:Nat}{ix:List Nat}{gi gi2:ay->R (List D)}{gt gt2:ay->R Bool}{ge:ay->R D}
def JJ (c:C) (N':List Str) (scope:dU) (nt:Nat) (tg:a_) (ifs:List a_) (tg2 iter2:a_) (ifs2:List a_) (elt:a_) (gt:ay->R Bool) (gi2:ay->R (List D)) (gt2:ay->R Bool) (ge:ay->R D):Prop :=
 ∀ cl A s₀ H₀ ex pn,PG (c.comp N' scope cl A s₀ H₀ ex pn).X tg (w4 c.X.K nt)/\MZ (c.comp N' scope cl A s₀ H₀ ex pn) ifs gt/\JI (c.comp N' scope cl A s₀ H₀ ex pn) tg2 iter2 gi2/\PG (c.comp N' scope cl A s₀ H₀ ex pn).X tg2 (mL nt)/\MZ (c.comp N' scope cl A s₀ H₀ ex pn) ifs2 gt2/\JE (c.comp N' scope cl A s₀ H₀ ex pn) elt ge
theorem FY (nt:Nat) (hnt:nt=1\/nt=2) (hc:c.X.calm=true) (S:iE c.X scope N' (nt+1) ix) (hi:JI c tg iter gi) (hb:JJ c N' scope nt tg ifs tg2 iter2 ifs2 elt gt gi2 gt2 ge)
  (hs2:∀ (env:Env) x,bB iter2 env x=pure x:=by intro _ _;rfl) (hs:∀ x,bB iter c.X.env x=pure x:=by intro _;rfl) :
  OM c (.SetComp elt [⟨tg,iter,ifs,0⟩,⟨tg2,iter2,ifs2,0⟩] scope pos) (pS nt ix gi gt gi2 gt2 ge):=.of fun ρ =>
 rK (Bd hc S (sC hnt) (hi ρ) (fun cl A s₀ H₀ ex pn=>by
  obtain ⟨h1,h2,h3,h4,h5,h6⟩:=hb cl A s₀ H₀ ex pn
  exact ⟨h1,fun pins s σ H Q I h=>by obtain ⟨ρ',q⟩:=h;exact h2 ρ' pins s σ H Q I q,fun pins s σ H Q I h=>by obtain ⟨ρ',q⟩:=h;exact h3 ρ' pins s σ H Q I q,h4,fun pins s σ H Q I h=>by obtain ⟨ρ',q⟩:=h;exact h5 ρ' pins s σ H Q I q,fun pins s σ H Q I h=>by obtain ⟨ρ',q⟩:=h;exact h6 ρ' pins s σ H Q I q⟩) hs2 hs) fun σ H Q q=>JH hnt q
end
end
section
def FZ (neg:Bool):D->D->R D
 |k,.dict kvs=>match o7 k with
  |some _=>if cp kvs=true then .ok (.bool (if neg then !(lN kvs k).isSome else (lN kvs k).isSome)) else .no
  |none=>.no
 |_,_=>.no
section
variable {c:C}
theorem Et {K:a8}{H Hs:Hp}{v:V}{ky:eR} (r2:RB K H Hs v (kD ky)):v=kV ky:=by
 rcases r2 with r2|⟨_,o,rfl,_,_,ow⟩
 ·exact zB r2
 ·cases ky<;>cases ow
theorem Bf {K:a8}{H Hs:Hp}{v:V}{ds:List (D×D)} (sub:cz Hs H) (h:RB K H Hs v (.dict ds)) (hf:cp ds=true) (ky:eR):∃ p o,v=.ref p/\xp H p (kV ky) o/\o.isSome=(lN ds (kD ky)).isSome:=by
 obtain ⟨p,rfl,hh⟩:=h.dict sub
 rcases hh with ⟨vs,h1,h2⟩|⟨vs,h1,hn,h2⟩|⟨o,vs,es,rfl,h1,hn,h2⟩
 ·refine ⟨p,_,rfl,xp.k h1,?_⟩
  rcases h2.val ky with ⟨h3,h4⟩|⟨u,d,h3,h4,h5⟩<;>rw [h3,h4]<;>rfl
 ·exact (hn (h2.flat hf).1).elim
 ·cases hf
theorem P9 (hu:c.X.A.units+1<fO):uP c.X (bG .In) (FZ false):=by
 refine ⟨fun pins s σ H x y v u Q I rv ru h=>?_,fun x y c n=>?_⟩
 ·obtain ⟨Hs,dx,dy,sub,rx,ry,d,hd,q⟩:=h;unfold FZ at hd;split at hd
  ·rename_i ds
   split at hd
   ·rename_i ky hy
    obtain rfl:=oY hy;split at hd
    ·rename_i hf
     cases hd;obtain ⟨p,o,rfl,h2,h3⟩:=Bf sub ry hf ky;obtain rfl:=Et rx;cases ru
     refine L2.d_in hu I h2 rv fun s' I'=>⟨.bl _,H,I',rfl,?_⟩
     rw [h3];exact q _ H Hs (.refl sub) (.bool _)
    ·cases hd
   ·cases hd
  ·cases hd
 ·unfold FZ;split<;>(try split)<;>(try split)<;>exact fun h=>by cases h
theorem F_ (hu:c.X.A.units+1<fO):uP c.X (bG .NotIn) (FZ true):=by
 refine ⟨fun pins s σ H x y v u Q I rv ru h=>?_,fun x y c n=>?_⟩
 ·obtain ⟨Hs,dx,dy,sub,rx,ry,d,hd,q⟩:=h;unfold FZ at hd;split at hd
  ·rename_i ds
   split at hd
   ·rename_i ky hy
    obtain rfl:=oY hy;split at hd
    ·rename_i hf
     cases hd;obtain ⟨p,o,rfl,h2,h3⟩:=Bf sub ry hf ky;obtain rfl:=Et rx;cases ru
     refine L2.Lx hu I h2 rv fun s' I'=>⟨.bl _,H,I',rfl,?_⟩
     rw [h3];exact q _ H Hs (.refl sub) (.bool _)
    ·cases hd
   ·cases hd
  ·cases hd
 ·unfold FZ;split<;>(try split)<;>(try split)<;>exact fun h=>by cases h
end
end
end J
namespace L2
open PySem PySem.Spec PyProof.Rows
section
def Rf (P:aS) (w:bn) (o:Obj) (vs:List (eR×a9)):Prop:=o.ExactDict/\∃ es ep,o.data=.dict es ep/\KeysOf (cq P w) es/\Pairs (cq P w) es.toList vs/\(vs.map (·.1)).Nodup
abbrev yw:=List (eR×V)
inductive Tv (X:Cx) (pins:List (ah×Obj)) (N':List Str) (scope:dU) (cl:List (Str×ah)) (C:ah) (s2:ae) (H2:Hp) (fp:List ah) (nt:Nat) (ix:List Nat) (σ:St) (tn:Nat->bu->Prop) (W:Nat->Nat->yw->Hp->Prop) (n:Nat) (s':ae):Prop
 |mk (i:Nat) (acc:yw) (xs:List (eR×a9)) (oD:Obj) (H':Hp) (I:bz (b6 X N' scope cl C s2 H2 fp (X.pn++pins)) [(s2.heap.objs.size,oD)] (fA nt ix σ) H' s') (S:Rf X.prog X.w oD xs) (kt:KV acc xs) (ls:acc.length<=sizeLine) (t:tn i s'.heap) (f:∀ b∈fp,H' b=none) (w:W i n acc H'):Tv X pins N' scope cl C s2 H2 fp nt ix σ tn W n s'
theorem Bg {X:Cx}{kx vx tg iter:a_}{ifs:List a_}{scope:dU}{pos:Pos}{g:TG}{tt:TT}{te tv:TE}{N':List Str}{nt:Nat}{ix:List Nat}
  (hu:X.A.units<fO) (hc:X.calm=true) (S:iE X scope N' nt ix) (lo:GL nt g)
  (hb:∀ cl C s₀ H₀ ex pn,PG (b6 X N' scope cl C s₀ H₀ ex pn) tg g/\Ae (b6 X N' scope cl C s₀ H₀ ex pn) ifs tt/\PE (b6 X N' scope cl C s₀ H₀ ex pn) kx te/\PE (b6 X N' scope cl C s₀ H₀ ex pn) vx tv)
  {cl:List (Str×ah)} (c1:∀ x c,cl.lookup x=some c->X.env.cells.lookup x=some c) (c2:∀ y∈scope.names,y.2=.free->∃ c,cl.lookup y.1=some c)
  {pins:List (ah×Obj)}{σ:St}{H2:Hp}{s2:ae}{it:ah}{fp:List ah}{tn:Nat->bu->Prop}{J:It}{Q:VK}{E:a9->ae->Prop}
  (I2:bz X pins σ H2 s2) (T:tS X.prog X.w X.K tg J fp it tn) (st2:tn 0 s2.heap) (f2:∀ b∈fp,jS X pins H2 b)
  {W:Nat->Nat->yw->Hp->Prop} (w0:∃ m,W 0 m [] H2)
  (turn:∀ i m acc H,W i m acc H->(J.stop i H/\∀ p,H p=none->Q (.ref p) (upd H p (.dK acc))) \/
   (J.go i H/\acc.length<sizeLine/\∀ x H',J.yld i H x H'->g x (fA nt ix σ) H' fun σ2 H2=>tt σ2 H2 fun b H3 =>
    if b=true then te σ2 H3 fun y H4=>tv σ2 H4 fun v H5=>∃ k m',y=kV k/\m'<m/\W (i+1) m' (qQ acc k v) H5 else ∃ m',m'<m/\W (i+1) m' acc H3))
  {RR:a9->ah->tw->ae->Prop}
  (hRR:∀ D C m s' (acc:yw) H',H' D=none->jS X pins (upd H' D (.dK acc)) C->Q (.ref D) (upd H' D (.dK acc))->s'.heap.Ns C m->(∀ h',bT C s'.heap h'->bz X pins σ (upd H' D (.dK acc)) { s' with heap:=h' })->RR (.ref D) C (.ok .next) s') :
  ao (ar X.prog X.w) X.A newDict (fun acc s₃=>ao (ar X.prog X.w) X.A (ke scope X.env.globals cl [] X.env.qual none .none (some X.env)) (fun cenv s₄ =>
   dG (ar X.prog X.w) X.A (.compStart (.DictComp kx vx [⟨tg,iter,ifs,0⟩] scope pos) 0 (.ref it) acc { cenv with scope:=relabel scope X.env }) (RR acc cenv.locals) s₄) E s₃) E s2:=by
 refine c6 (ve fun h₁ hh₁=>?_);dsimp only at hh₁ ⊢;generalize hG2:s2.heap.push { cls:=.type "dict",data:=.dict #[] }=G2 at hh₁ ⊢;have hC:G2.objs.size=s2.heap.objs.size+1:=by rw [<- hG2,bF]
 have hDC:s2.heap.objs.size≠G2.objs.size:=by rw [hC];exact aA (cZ _)
 have hCle:s2.heap.objs.size<=G2.objs.size:=by rw [hC];exact fh _
 have below:∀ b,b<s2.heap.objs.size->b≠G2.objs.size:=fun b hb=>by rw [hC];exact aA (cG hb)
 have kp:∀ b o,G2.get? b=some o->h₁.get? b=some o:=fun b o e=>by rw [hh₁];exact gq _ _ b o (aa _ e)
 have hns₁:h₁.Ns G2.objs.size (fun _=>none):=by rw [hh₁];exact (um G2 (.type "dict")).keeps (gq _ _)
 have ok₁:C2 h₁ (G2.objs.size+1) (aC (G2.objs.size+1) scope.names []):=by rw [hh₁];exact pJ G2 scope.names
 have cne:∀ x c,(aC (G2.objs.size+1) scope.names cl).lookup x=some c->X.env.cells.lookup x=some c\/s2.heap.objs.size<c:=fun x c e=>by
  rcases iK e with a|⟨_,a⟩
  ·exact .inr (aD (jy hCle) (ok₁.empty x c a).2)
  ·exact .inl (c1 x c a)
 have old:∀ b o,s2.heap.get? b=some o->h₁.get? b=some o:=fun b o e=>kp b o (hG2 ▸ aa _ e);have hacc:h₁.get? s2.heap.objs.size=some { cls:=.type "dict",data:=.dict #[] }:=kp _ _ (hG2 ▸ aw _ rfl);have ff:∀ b∈fp,b<s2.heap.objs.size:=fun b hb=>by
  obtain ⟨o,e,_⟩:=T.obj _ _ st2 b hb;exact ap e
 have I3:bz (b6 X N' scope (aC (G2.objs.size+1) scope.names cl) G2.objs.size s2 H2 fp (X.pn++pins)) [] (fA nt ix σ) H2 { s2 with heap:=h₁,toks:=s2.toks }:=r_ S I2 c1 c2 f2 ff hCle hns₁ old ok₁;obtain ⟨pg,pt,pe,pv⟩:=hb (aC (G2.objs.size+1) scope.names cl) G2.objs.size s2 H2 fp (X.pn++pins);have hDfs:s2.heap.objs.size∉tm X.stack:=fun z=>by
  rcases List.mem_cons.mp (I2.stkSub _ z) with e|e
  ·exact absurd I2.lt (by rw [<- e];exact aU _)
  ·exact I2.nofs (am _) e
 have st1:tn 0 h₁:=T.keep _ _ _ st2 fun b _ o e=>old b o e;have hDf:s2.heap.objs.size∉fp:=fun z=>absurd (ff _ z) (aU _);have stat:∀ {H':Hp}{pl:List (ah×Obj)},(∀ p∈pl,p.1∉fp)->(∀ b∈fp,H' b=none)->∀ b∈fp,jS (b6 X N' scope (aC (G2.objs.size+1) scope.names cl) G2.objs.size s2 H2 fp (X.pn++pins)) pl H' b:=fun hpl hn b hb=>by
  obtain ⟨f0,f1,f2',f3,f4,f5⟩:=f2 b hb;refine ⟨hn b hb,below b (ff b hb),fun z=>?_,.inl hb,fun x c e=>(cne x c e).elim (f4 x c) fun q z=>lC q (by rw [z];exact ff b hb),fun p hp z=>?_⟩
  ·rcases List.mem_cons.mp (I2.stkSub _ z) with e|e
   ·exact f1 e
   ·exact f2' e
  ·rcases List.mem_append.mp hp with q|q
   ·exact f5 p q z
   ·exact hpl p q (z ▸ hb)
 obtain ⟨m0,w0⟩:=w0;have loop:dG (ar X.prog X.w) X.A (.compLoop (.DictComp kx vx [⟨tg,iter,ifs,0⟩] scope pos) 0 (.ref it) (.ref s2.heap.objs.size) (lB scope (aC (G2.objs.size+1) scope.names cl) G2.objs.size X.env))
    (RR (.ref s2.heap.objs.size) G2.objs.size) { s2 with heap:=h₁,toks:=s2.toks }:=by
  refine zE (Tv X pins N' scope (aC (G2.objs.size+1) scope.names cl) G2.objs.size s2 H2 fp nt ix σ tn W) ?_ m0
   ⟨0,[],[],_,H2,I3.pin1 hacc (I2.hok.fresh (am _)) hDC hDfs (fun v z=>nomatch z),⟨⟨rfl,rfl,rfl⟩,#[],0,rfl,fun e he=>(nomatch he),.nil,ft⟩,.nil,ck _,st1,fun b hb=>(f2 b hb).1,w0⟩
  rintro n s3 ⟨i,acc,xs,oD,H3,J3,hS3,kt3,ls3,st3,fr3,w3⟩;have plD:∀ p∈[(s2.heap.objs.size,oD)],p.1∉fp:=fun p hp=>by
   have:p=(s2.heap.objs.size,oD):=by simpa using hp
   rw [this];exact hDf
  have hne:(s2.heap.objs.size==gD)=false:=by
   have:=I2.big;simp only [beq_eq_false_iff_ne];exact dv this
  rcases turn i n acc H3 w3 with ⟨stop,qn⟩|⟨go,hlt,step⟩
  ·refine dX (T.done (b6 X N' scope (aC (G2.objs.size+1) scope.names cl) G2.objs.size s2 H2 fp (X.pn++pins)) rfl rfl rfl hc i _ s3 _ H3 _ J3 (stat plD fr3) st3 stop) fun r s4 h_0=>?_;obtain ⟨hr,I4⟩:=h_0;subst hr;obtain ⟨pD,pN,_⟩:=I4.pin (s2.heap.objs.size,_) (af _ (List.mem_singleton.mpr rfl));obtain ⟨mm,hn,_⟩:=I4.loc;have hCn:H3 G2.objs.size=none:=I4.free;refine hRR _ _ mm s4 acc H3 pN (I2.fpOk hCle (by rw [bh (cR hDC)];exact hCn)) (qn _ pN) hn fun h' sb=>?_;have hu:Un (tm X.stack) fp H2 (upd H3 s2.heap.objs.size (.dK acc)) s2.heap h':=Un.grow I4.base sb hCle (am _) pN;refine I2.call' (s':={ s4 with heap:=h' }) (ch:=fp) I4.os hu ?_ I4.bare fun b hb=>?_
   ·obtain ⟨x1,es,ep,x2,x3,x5,x4⟩:=hS3;exact mO (sd I4.hok hCn sb) pN ⟨ls3,hne,xs,kt3,oD,es,ep,(sb.2 _ hDC).trans pD,x1,x2,x3,x5,x4⟩
   ·obtain ⟨_,f1,_,f3,f4,f5⟩:=f2 b hb;exact ⟨f3,f1,f4,f5⟩
  ·refine dX (T.item (b6 X N' scope (aC (G2.objs.size+1) scope.names cl) G2.objs.size s2 H2 fp (X.pn++pins)) rfl rfl rfl hc i _ s3 _ H3 _ J3 (stat plD fr3) st3 go) fun r s4 h_1=>?_;obtain ⟨u,hr,h4⟩:=h_1;subst hr;refine dX h4 fun _ s5 h_2=>?_;obtain ⟨x,H5,I5,r5,y5,st5,fr5⟩:=h_2;have I5':=I5.pinned (stat plD fr5) (T.obj _ _ st5);refine dX (pg _ s5 _ H5 x u _ I5' r5 (lo _ _ _ _ (step x H5 y5))) fun _ s6 h_3=>?_;obtain ⟨σ6,H6,I6,q6,l6,k6⟩:=h_3;have hw:∀ (j:Nat) v,(fA nt ix σ)[j]?=some (some v)->σ6[j]?=some (some v):=fun j v e=>by
    by_cases hj:nt<=j
    ·rw [k6 j hj];exact e
    ·unfold fA at e;rw [bf (by simpa using hj),bw,if_pos (by omega)] at e;cases e
   refine dX (pt _ s6 σ6 H6 _ I6 q6) fun b s7 h_4=>?_;obtain ⟨H7,I7,q7⟩:=h_4;have fpk:∀ {s8:ae}{σ8:St}{H8:Hp},bz (b6 X N' scope (aC (G2.objs.size+1) scope.names cl) G2.objs.size s2 H2 fp (X.pn++pins)) ([(s2.heap.objs.size,oD)]++kg fp s5.heap) σ8 H8 s8 ->
     tn (i+1) s8.heap/\∀ b∈fp,H8 b=none:=fun {s8 σ8 H8} I8=>by
    refine ⟨T.keep _ _ _ st5 fun b hb o e=>(I8.pin (b,o) (af _ (af _ (dI hb e)))).1,fun b hb=>?_⟩;obtain ⟨o,e,d⟩:=T.obj _ _ st5 b hb;exact (I8.pin (b,o) (af _ (af _ (dI hb e)))).2.1
   cases b with
   |false =>
    simp only [ba,if_false] at q7 ⊢;obtain ⟨m',hm,w7⟩:=q7;obtain ⟨t7,f7⟩:=fpk I7;exact ⟨m',hm,i+1,acc,xs,oD,H7,(I7.weak l6.symm hw).unpinned,hS3,kt3,ls3,t7,f7,w7⟩
   |true =>
    simp only [if_true] at q7 ⊢;refine dX (pe _ s7 σ6 H7 _ I7 q7) fun u8 s8 h_5=>?_;obtain ⟨y,Ha,Ia,ra,qa⟩:=h_5;refine dX (pv _ s8 σ6 Ha _ Ia qa) fun u9 s9 h_6=>?_;obtain ⟨v,H8,I8,r8,k,m',hy,hm,w8⟩:=h_6;obtain ⟨t8,f8⟩:=fpk I8;obtain ⟨pD,pN,_⟩:=I8.pin (s2.heap.objs.size,_) (af _ (bP _ (List.mem_singleton.mpr rfl)));subst hy;obtain ⟨x1,es,ep,x2,x3,x5,x4⟩:=hS3;have dd:s9.heap.DictOf (cq X.prog X.w) s2.heap.objs.size xs:=⟨oD,es,ep,pD,x1,x2,x3,x5,x4⟩;have lx:xs.length=acc.length:=(gU kt3).symm;refine wpAny_dictSet_pairs (xW ra) dd (fun h9 dd9 sb9=>?_) (by omega);obtain ⟨o9,es9,ep9,e9',y1,y2,y3,y5,y4⟩:=dd9;refine ⟨m',hm,i+1,_,_,o9,H8,?_,⟨y1,es9,ep9,y2,y3,y5,y4⟩,kt3.put k r8,by have:=lK acc k v;omega,T.keep _ _ _ t8 fun b hb o e=>sb9.extBut b o (fun z=>hDf (z ▸ hb)) e,f8,w8⟩;have I8':bz (b6 X N' scope (aC (G2.objs.size+1) scope.names cl) G2.objs.size s2 H2 fp (X.pn++pins)) [] (fA nt ix σ) H8 s9:=(I8.weak l6.symm hw).pins_of fun p hp=>absurd hp (by simp);have I9:bz (b6 X N' scope (aC (G2.objs.size+1) scope.names cl) G2.objs.size s2 H2 fp (X.pn++pins)) [] (fA nt ix σ) H8 { s9 with heap:=h9,toks:=s9.toks+1 } :=
     I8'.turned (it:=s2.heap.objs.size) (fun b o hb e=>sb9.extBut b o hb e) pN hDC (.inr (am _)) (fun x c e z=>by
      rcases cne x c e with e|e
      ·obtain ⟨v,q⟩:=I2.cell x c e;exact absurd q.lt (by rw [z];exact aU _)
      ·exact absurd e (by rw [z];exact aU _)) fun p hp z=>by
      have hp:p∈X.pn++pins:=(List.mem_append.mp hp).elim id fun z=>absurd z (by simp);exact absurd (ap (I2.pin p hp).1) (by rw [z];exact aU _)
    exact I9.pin1 e9' pN hDC hDfs (fun v z=>by rw [y2] at z;cases z)
 exact codeAny_compStart_dict loop (T.self _ 0 _ _ _ st1 loop)
inductive JK (nt:Nat) (ix:List Nat) (g:TG) (tt:TT) (te tv:TE) (σ:St) (Q:VK) (J:It) (H1:Hp):Prop
 |mk (W:Nat->Nat->yw->Hp->Prop) (w0:∃ m,W 0 m [] H1) (turn:∀ i m acc H,W i m acc H ->
 (J.stop i H/\∀ p,H p=none->Q (.ref p) (upd H p (.dK acc))) \/
 (J.go i H/\acc.length<sizeLine/\∀ x H',J.yld i H x H'->g x (fA nt ix σ) H' fun σ2 H2=>tt σ2 H2 fun b H3 =>
  if b=true then te σ2 H3 fun y H4=>tv σ2 H4 fun v H5=>∃ k m',y=kV k/\m'<m/\W (i+1) m' (qQ acc k v) H5 else ∃ m',m'<m/\W (i+1) m' acc H3)):JK nt ix g tt te tv σ Q J H1
def Eu (nt:Nat) (ix:List Nat) (wi:TI) (g:TG) (tt:TT) (te tv:TE):TE:=fun σ H Q=>wi σ H (JK nt ix g tt te tv σ Q)
end
end L2
namespace J
open PySem L2
section
section
variable {c:C}{pos:Pos}{x:Str}{kx vx iter tg:a_}{ifs:List a_}{scope:dU}{N':List Str}{nt:Nat}{ix:List Nat}{gi:ay->R (List D)}{gt:ay->R Bool}{gk gv:ay->R D}
def M8 (gk gv:ay->R D):ay->R D:=fun ρ=>(gk ρ).bind fun k=>(gv ρ).bind fun v=>match o7 k with
 |some _=>.ok (.tuple [k,v])
 |none=>.no
def nH (nt:Nat) (ix:List Nat) (gi:ay->R (List D)) (gt:ay->R Bool) (gk gv:ay->R D):ay->R D:=fun ρ=>(gi ρ).bind fun ds=>if ds.length<=1000 then (eN (hV nt (js nt ix ρ) gt (M8 gk gv)) ds).bind fun ys=>.ok (.dict (PD ys)) else .no
inductive Tw (K:a8) (f:D->R (Option D)) (ds ys:List D) (H1 Hs1:Hp) (i m:Nat) (acc:yw) (H':Hp):Prop
 |mk (done bA zs ya Hs':_) (h0:ds=done++bA) (h1:done.length=i) (h2:bA.length=m) (h3:c8 H1 Hs1 H' Hs') (h4:RDk K Hs' acc (PD ya)) (h5:acc.length<=i) (h6:eN f bA=.ok zs) (h7:ys=ya++zs):Tw K f ds ys H1 Hs1 i m acc H'
theorem G0       (hnt:nt=1\/nt=2)
  (q:TN K cls E ρ (nH nt ix gi gt gk gv ρ) σ H Q) :
  Eu nt ix (OL K cls E ρ (gi ρ)) (w4 K nt) (fun σ H Q=>∃ ρ',Af K cls E0 ρ' (gt ρ') σ H Q) (fun σ H Q=>∃ ρ',TR K cls E0 ρ' (gk ρ') σ H Q) (fun σ H Q=>∃ ρ',TR K cls E0 ρ' (gv ρ') σ H Q) σ H Q:=by
 obtain ⟨H0,Hs0,la,Hs,f,q⟩:=q;refine ⟨H0,Hs0,la,Hs,f,?_⟩;unfold nH at q;cases hi:gi ρ with
 |no=>rw [hi] at q;exact q
 |ex x n=>rw [hi] at q;exact q
 |ok ds =>
  rw [hi,bind_ok] at q;intro J H1 Hs1 Hn s1 sn it;by_cases hl:ds.length<=1000
  ·rw [if_pos hl] at q;cases hm:eN (hV nt (js nt ix ρ) gt (M8 gk gv)) ds with
   |no=>rw [hm] at q;exact q.elim
   |ex x n=>exact (sF (w5 _ _ _ _) _ _ _ hm).elim
   |ok ys =>
    rw [hm,bind_ok] at q;obtain ⟨lb,fb⟩:=(f.step s1).block nt ix;refine ⟨Tw K (hV nt (js nt ix ρ) gt (M8 gk gv)) ds ys H1 Hs1,
     ⟨ds.length,[],ds,ys,[],Hs1,rfl,rfl,rfl,.refl s1.sub,.nil,ck _,hm,rfl⟩,?_⟩
    rintro i m acc H' ⟨done,bA,zs,ya,Hs',hds,hdl,hrl,st,ra,yl,hz,hy⟩;obtain ⟨igo,istop,iyld⟩:=it H' Hs' (sn.trans st.all) st.sh st.sub;cases bA with
    |nil =>
     left;cases hz;rw [bC] at hds hy;subst hy hds;exact ⟨istop i (by omega),fun p hp=>q p _ H' Hs' (s1.trans st) hp (.dK ra)⟩
    |cons d bA =>
     right;have hil:i<ds.length:=by rw [hds,aB,bp];omega
     refine ⟨igo i hil,dz (by omega),fun x H2 hyl=>?_⟩;obtain ⟨d',Hs2,hd,s2,r2⟩:=iyld i x H2 hil hyl;have hdd:d'=d:=by
      rw [hds,aR (by omega)] at hd;simp [hdl] at hd;exact hd.symm
     subst hdd;obtain ⟨o,zs',hf,hz',rfl⟩:=nE hz;have hf:=sy hf;cases hb:MY nt d' (js nt ix ρ) with
     |no=>rw [hb] at hf;cases hf
     |ex x n=>rw [hb] at hf;cases hf
     |ok ρ' =>
      rw [hb,bind_ok] at hf;refine sD hnt ((fb.step st).step s2) r2 hb fun σ2 f2=>⟨ρ',?_⟩;refine ⟨_,_,_,Hs2,f2,?_⟩;cases ht:gt ρ' with
      |no=>rw [ht] at hf;cases hf
      |ex x n=>rw [ht] at hf;cases hf
      |ok b =>
       rw [ht,bind_ok] at hf;intro H3 Hs3 s3;cases b with
       |false =>
        rw [if_neg bj] at hf;cases hf;refine vH ⟨bA.length,by rw [<- hrl];simp,done++[d'],bA,zs',ya,Hs3,by rw [hds];simp,by simp [hdl],rfl,(st.trans s2).trans s3,ra.same (s2.trans s3).sh,by omega,hz',by simpa using hy⟩
       |true =>
        rw [if_pos rfl] at hf;refine vI ⟨ρ',_,_,_,Hs3,f2.step s3,?_⟩;unfold M8 at hf;cases he:gk ρ' with
        |no=>rw [he] at hf;cases hf
        |ex x n=>rw [he] at hf;cases hf
        |ok y =>
         rw [he,bind_ok] at hf;intro v H4 Hs4 s4 r4;refine ⟨ρ',_,_,_,Hs4,(f2.step s3).step s4,?_⟩;cases hv:gv ρ' with
         |no=>rw [hv] at hf;cases hf
         |ex x n=>rw [hv] at hf;cases hf
         |ok z =>
          rw [hv,bind_ok] at hf;intro u H5 Hs5 s5 r5;cases hk:o7 y with
          |none=>rw [hk] at hf;cases hf
          |some ky =>
           rw [hk] at hf;cases hf;obtain rfl:=oY hk;obtain rfl:=zB r4;have sA:=((s2.trans s3).trans s4).trans s5;exact ⟨ky,bA.length,rfl,by rw [<- hrl];simp,done++[d'],bA,zs',ya++[.tuple [kD ky,z]],Hs5,by rw [hds];simp,by simp [hdl],rfl,st.trans sA,by rw [Jr];exact (ra.same sA.sh).put ky r5,by have:=lK acc ky u;omega,hz',by rw [hy];simp⟩
  ·rw [if_neg hl] at q;exact q.elim
end
end
end J
section
namespace L2
open PySem PySem.Spec PyProof.Rows
theorem G1
  (hu:X.A.units<fO) (hN:X.N.Nodup) (hiN:X.N[i]?=some y) (hy:X.env.scope.names.lookup y=some .local)
  (hc:X.calm=true) (S:iE X scope N' nt ix) (lo:GL nt g) (hi:PI X tg iter wi)
  (hb:∀ cl C s₀ H₀ ex pn,PG (b6 X N' scope cl C s₀ H₀ ex pn) tg g/\Ae (b6 X N' scope cl C s₀ H₀ ex pn) ifs tt/\PE (b6 X N' scope cl C s₀ H₀ ex pn) kx te/\PE (b6 X N' scope cl C s₀ H₀ ex pn) vx tv)
  (hsw:fE (.DictComp kx vx [⟨tg,iter,ifs,0⟩] scope pos) (some (.Name y py)) spos.line X.env=pure true:=by rfl)
  (hs:∀ x,bB iter X.env x=pure x:=by intro _;rfl):PS X (.Assign [.Name y py] (.DictComp kx vx [⟨tg,iter,ifs,0⟩] scope pos) spos) (MM i (Eu nt ix wi g tt te tv)):=by
 intro pins s σ H D I h;obtain ⟨cl,hcl,c1,c2⟩:=kU (scope:=scope) (env:=X.env) fun y hy hf=>I.ok.has y.1 (S.free y hy hf);rw [Ky _ _ _ _ hsw];refine a7 (cF (a7 ?_));show ao _ X.A (do let _ <- uY (.DictComp kx vx [⟨tg,iter,ifs,0⟩] scope pos) scope X.env _ newDict false (cj iter X.env) (some (i9 (.Name y py) X.env))) _ _ s;refine a7 (aO (gH (use:=some (i9 (.Name y py) X.env)) (Q:=fun _ s'=>SP X pins D .next s') rfl hs hcl S.kind S.loc
  (dX (hi pins s σ H _ I h) fun v s1 h1=>dX h1 fun itv s2 h2=>?_)) (fun _ s' hq=>ac (ac hq)) fun _ _ e=>e)
 obtain ⟨it,fp,tn,J,H2,e,I2,T,st2,f2,W,w0,turn⟩:=h2;subst e;refine Bg (Q:=fun x H1=>D.nx (σ.set i (some x)) H1) (RR:=fun acc C=>Cf (ar X.prog X.w) X.A X.xe (some (i9 (.Name y py) X.env)) (fun _ s'=>SP X pins D .next s') acc C) hu hc S lo hb c1 c2 I2 T st2 f2 w0 turn ?_;intro L C m s' acc H' hD fC q hn hI;show ao _ X.A (i9 (.Name y py) X.env (.ref L)) _ _ _;have I3:bz X pins σ (upd H' L (.dK acc)) s':=hI s'.heap (.refl ..);refine xa (tR I3 hN hiN (.inl hy) (v:=.ref L) rfl (fun s4 I4 ⟨a,sb,ha⟩=>?_) (.inr hy));obtain ⟨g0,g1,g2,g3,g4,g5⟩:=fC;have hCa:C≠a:=by
  rcases ha with z|z
  ·rw [z];exact g1
  ·exact fun e=>g4 y a z e.symm
 refine ⟨m,hn.sameBut sb hCa,fun h5 sb5=>?_⟩;exact ⟨_,_,I4.turned (t':=s4.toks) (fun b o hb e=>(sb5.2 b hb).trans e) g0 g1 g3 g4 g5,q⟩
end L2
namespace J
open PySem L2
section
theorem zH (i:Nat) (nt:Nat) (hnt:nt=1\/nt=2) (hu:c.X.A.units+1<fO) (hN:c.X.N.Nodup) (hc:c.X.calm=true) (S:iE c.X scope N' nt ix) (hi:JI c tg iter gi) (hb:D8 c N' scope nt tg ifs kx vx gt gk gv)
  (hiN:c.X.N[i]?=some x:=by rfl) (hy:c.X.env.scope.names.lookup x=some .local:=by rfl)
  (hsw:fE (.DictComp kx vx [⟨tg,iter,ifs,0⟩] scope pos) (some (.Name x py)) spos.line c.X.env=pure true:=by rfl)
  (hs:∀ x,bB iter c.X.env x=pure x:=by intro _;rfl):JS c (.Assign [.Name x py] (.DictComp kx vx [⟨tg,iter,ifs,0⟩] scope pos) spos) (gj i (nH nt ix gi gt gk gv)):=.of fun ρ=>xw (G1 (by omega) hN hiN hy hc S (sC hnt) (hi ρ) hb.at hsw hs) fun D σ H h_6=>by
 obtain ⟨H0,Hs0,la,Hs,f,q⟩:=h_6;refine G0 (Q:=fun x H1=>D.nx (σ.set i (some x)) H1) hnt (sN f q fun d a o H1 Hs1 e1 f1 n1 r1=>?_);unfold gj at q;rw [e1,bind_ok] at q;exact q _ _ Hs1 (f1.setO i n1 r1)
end
end J
end
namespace TP
open PySem PyProof.Rows PySem.W TS
section
def Sp (vs:List a9) (x:Str×Int):Prop:=∃ t u,vs=[.str x.1 t,.int x.2 u]
def pl (x y:Str×Int):Bool:=if x.1=y.1 then decide (x.2<y.2) else decide (x.1.cps.toList<y.1.cps.toList)
def Pk (h:bu) (v:a9) (x:Str×Int):Prop:=∃ a o vs n,v=.ref a/\h.get? a=some o/\o.cls=.type "tuple"/\o.data=.seq vs n/\Sp vs.toList x
section
variable {prog:aS}{w:bn}{A:bv}{E:a9->ae->Prop}{s:ae}{Q:Bool->ae->Prop}{v u:a9}{x y:Str×Int}{a b:ah}
theorem JM {vs us:List a9}{fin:Bool} (h1:Sp vs x) (h2:Sp us y) (e:fin=false) (q:Q (pl x y) s):KatLex prog w A true fin Q (vs.zip us) 0 s:=by
 obtain ⟨t,t',rfl⟩:=h1;obtain ⟨u,u',rfl⟩:=h2;subst e
 rw [jf,jf,Hc]
 refine kat_cons (yN ?_)
 unfold pl at q
 by_cases hxy:x.1=y.1
 ·rw [if_pos hxy] at q
  rw [show decide (x.1=y.1)=true by simp [hxy]]
  refine kat_yes (kat_cons (yM ?_))
  by_cases hi:x.2=y.2
  ·rw [show (x.2==y.2)=true by simp [hi]]
   refine kat_yes (kat_nil ?_)
   rw [show decide (x.2<y.2)=false by simp [hi]] at q
   exact q
  ·rw [show (x.2==y.2)=false by simp [hi]]
   exact kat_no (kat_one _ _ (lt_int q))
 ·rw [if_neg hxy] at q
  rw [show decide (x.1=y.1)=false by simp [hxy]]
  exact kat_no (oneLt_str q)
theorem M9 (h1:Pk s.heap v x) (h2:Pk s.heap u y) (q:Q (pl x y) s):ao (ar prog w) A (keyLt' (tuples' true) v u) Q E s:=by
 obtain ⟨a,o,vs,n,rfl,e1,_,e2,e3⟩:=h1;obtain ⟨b,o',us,m,rfl,f1,_,f2,f3⟩:=h2
 refine kat_lt e1 e2 f1 f2 (JM e3 f3 ?_ q)
 obtain ⟨t,t',e⟩:=e3;obtain ⟨u,u',f⟩:=f3
 have l1:vs.size=2:=by rw [<- aL,e];rfl
 have l2:us.size=2:=by rw [<- aL,f];rfl
 simp [l1,l2]
theorem qD {P:Fin->ae->Prop} (hx:Pk s.heap (.ref a) x) (hy:Pk s.heap (.ref b) y) (h:P (.done (.ret (.bool (pl x y)))) s) :
  ao (ar prog w) A (ii.«tuple.__lt__» ⟨[.ref a,.ref b],[]⟩) P E s:=by
 obtain ⟨_,oa,xs,na,ea,hoa,hca,hda,t,t',hia⟩:=hx;obtain ⟨_,ob,ys,nb,eb,hob,hcb,hdb,u,u',hib⟩:=hy;cases ea;cases eb
 show ao _ _ (isInstance (.ref b) (.type "tuple") >>= _) _ _ s
 refine a7 (kR (T:="tuple") ⟨_,hob,hcb⟩ isSubtype_tuple_tuple ?_)
 simp only [hZ,ba,if_false]
 refine a7 (wpAny_tupleItemsOf hoa hda ?_)
 refine a7 (wpAny_tupleItemsOf hob hdb ?_)
 have l1:xs.size=2:=by rw [<- aL,hia];rfl
 have l2:ys.size=2:=by rw [<- aL,hib];rfl
 refine a7 ?_
 rw [hia,hib,jf,jf,Hc,j8]
 unfold pl at h
 refine a7 (a7 (yN ?_))
 by_cases hk:x.1=y.1
 ·rw [if_pos hk] at h
  rw [show decide (x.1=y.1)=true by simp [hk]]
  simp only [hZ,ba,if_false]
  refine ac ?_
  dsimp only
  rw [j8]
  refine a7 (a7 (yM ?_))
  by_cases hi:x.2=y.2
  ·rw [show (x.2==y.2)=true by simp [hi]]
   simp only [hZ,ba,if_false]
   refine ac ?_
   dsimp only
   rw [qv]
   refine ac (ac ?_)
   show P (.done (.ret (.bool (decide (xs.size<ys.size))))) s
   rw [show decide (x.2<y.2)=false by simp [hi]] at h
   rw [l1,l2];exact h
  ·rw [show (x.2==y.2)=false by simp [hi]]
   simp only [iz,if_true]
   refine a7 (cg (a7 (lt_int ?_)))
   exact a7 (ac (ac (ac (ac h))))
 ·rw [if_neg hk] at h
  rw [show decide (x.1=y.1)=false by simp [hk]]
  simp only [iz,if_true]
  refine a7 (cg (a7 (lt_str ?_)))
  exact a7 (ac (ac (ac (ac h))))
theorem Pk.typeIs (h:Pk s.heap v x):s.TypeIs v "tuple":=by
 obtain ⟨a,o,vs,n,rfl,e1,e2,_⟩:=h;exact ⟨_,e1,e2⟩
theorem Pa (hu:A.units<fO) (h1:Pk s.heap v x) (h2:Pk s.heap u y) (q:Q (pl x y) s):ao (ar prog w) A (keyLt' general' v u) Q E s:=by
 have h1':=h1;have h2':=h2;obtain ⟨a,_,_,_,rfl,_⟩:=h1';obtain ⟨b,_,_,_,rfl,_⟩:=h2'
 refine kat_one _ _ (wpAny_richCompare_same_room (op:=.Lt) h1.typeIs h2.typeIs qy
  (bR qy h1.typeIs F.entry_tuple_lt (qD h1 h2 ⟨_,rfl,(fun e=>nomatch e),q⟩) (F.args_tuple_lt_2 _ _)) hu)
theorem Pb (hu:A.units<fO) (h1:Pk s.heap v x) (h2:Pk s.heap u y) (q:Q (pl x y) s):ao (ar prog w) A (keyLt' oneType' v u) Q E s:=by
 have h1':=h1;have h2':=h2;obtain ⟨a,_,_,_,rfl,_⟩:=h1';obtain ⟨b,_,_,_,rfl,_⟩:=h2'
 rw [keyLt'_oneType,oneLt'_eq];simp only [if_true];refine a7 (wpAny_cRoomFor_or (.inr hu) ?_)
 refine a7 (wpAny_callSpecialIfBound?_slot h1.typeIs qy (bR qy h1.typeIs F.entry_tuple_lt (qD h1 h2 ⟨_,rfl,?_⟩) (F.args_tuple_lt_2 _ _)))
 exact cL q
end
end
section
theorem pl_irrefl (x:Str×Int):pl x x=false:=by unfold pl;rw [if_pos rfl];simp
theorem pl_total (x y:Str×Int) (h1:pl x y=false) (h2:pl y x=false):x=y:=by
 unfold pl at h1 h2
 by_cases e:x.1=y.1
 ·rw [if_pos e] at h1;rw [if_pos e.symm] at h2
  have a:=of_decide_eq_false h1;have b:=of_decide_eq_false h2
  exact Prod.ext e (by omega)
 ·rw [if_neg e] at h1;rw [if_neg (cR e)] at h2
  exact absurd (P6 (PyProof.Rows.strKind.total x.1.cps.toList y.1.cps.toList h1 h2)) e
theorem pl_trans (x y z:Str×Int) (h1:pl x y=true) (h2:pl y z=true):pl x z=true:=by
 unfold pl at h1 h2 ⊢
 by_cases e:x.1=y.1
 ·rw [if_pos e] at h1
  by_cases e':y.1=z.1
  ·rw [if_pos e'] at h2;rw [if_pos (e.trans e')]
   have a:=of_decide_eq_true h1;have b:=of_decide_eq_true h2
   exact decide_eq_true (by omega)
  ·rw [if_neg e'] at h2;rw [if_neg (by rw [e];exact e'),e];exact h2
 ·rw [if_neg e] at h1
  by_cases e':y.1=z.1
  ·rw [if_neg (by rw [<- e'];exact e),<- e'];exact h1
  ·rw [if_neg e'] at h2
   have h3:=PyProof.Rows.strKind.trans x.1.cps.toList y.1.cps.toList z.1.cps.toList h1 h2
   rw [if_neg fun e2=>by rw [e2,PyProof.Rows.strKind.irrefl] at h3;cases h3];exact h3
theorem Sp.inj {vs:List a9}{x y:Str×Int} (h1:Sp vs x) (h2:Sp vs y):x=y:=by
 obtain ⟨t,u,rfl⟩:=h1;obtain ⟨t',u',e⟩:=h2
 injection e with e1 e2;injection e2 with e2 _;injection e1 with e1 _;injection e2 with e2 _
 exact Prod.ext e1 e2
def xB (xs:List (Str×Int)) (x:Str×Int):Nat:=xs.countP fun y=>pl y x
theorem Ev  (hx:x∈xs) (h:pl x y=true):xB xs x<xB xs y :=
 yu (fun z _ hz=>pl_trans z x y hz h) hx (pl_irrefl x) h
theorem sK  (hx:x∈xs) (hy:y∈xs):decide (xB xs x<xB xs y)=pl x y:=by
 cases h:pl x y with
 |true=>exact decide_eq_true (Ev hx h)
 |false =>
  refine decide_eq_false fun hl=>?_;cases h2:pl y x with
  |true=>have:=Ev hy h2;omega
  |false=>rw [pl_total x y h h2] at hl;omega
theorem JP  (hx:x∈xs) (hy:y∈xs) (h:xB xs x=xB xs y):x=y:=by
 refine pl_total x y ?_ ?_
 ·rw [<- sK hx hy];simp [h]
 ·rw [<- sK hy hx];simp [h]
theorem Pk.inj   (h1:Pk h v x) (h2:Pk h v y):x=y:=by
 obtain ⟨a,o,vs,n,rfl,e1,_,e2,e3⟩:=h1;obtain ⟨_,o',us,m,ea,f1,_,f2,f3⟩:=h2;cases ea;rw [e1] at f1;cases f1;rw [e2] at f2;cases f2;exact e3.inj f3
def Pks (h:bu):List a9->List (Str×Int)->Prop
 |[],[]=>True
 |v::vs,x::xs=>Pk h v x/\Pks h vs xs
 |_,_=>False
theorem Pks.len:∀ {vs:List a9}{xs:List (Str×Int)},Pks h vs xs->vs.length=xs.length
 |[],[],_=>rfl
 |_::_,_::_,t=>congrArg (· + 1) t.2.len
 |[],_::_,t=>t.elim
 |_::_,[],t=>t.elim
theorem Pks.mem  : ∀ {vs:List a9}{xs:List (Str×Int)},Pks h vs xs->v∈vs->∃ x∈xs,Pk h v x
 |v'::vs,x::xs,t,hm=>by
  rcases aJ.1 hm with rfl|hm
  ·exact ⟨x,al ..,t.1⟩
  ·obtain ⟨y,hy,e⟩:=Pks.mem t.2 hm;exact ⟨y,ai _ hy,e⟩
 |[],_,_,hm=>by cases hm
 |_::_,[],t,_=>t.elim
theorem Pks.keep (k:∀ v x,Pk h v x->Pk h' v x):∀ {vs:List a9}{xs:List (Str×Int)},Pks h vs xs->Pks h' vs xs
 |[],[],_=>trivial
 |_::_,_::_,t=>⟨k _ _ t.1,Pks.keep k t.2⟩
 |[],_::_,t=>t.elim
 |_::_,[],t=>t.elim
theorem Pks.perm:∀ {vs us:List a9}{xs:List (Str×Int)},vs.Perm us->Pks h us xs->∃ ys,Pks h vs ys/\ys.Perm xs:=by
 intro vs us xs p;induction p generalizing xs with
 |nil=>exact fun t=>⟨xs,t,.refl _⟩
 |cons v p ih =>
  intro t;cases xs with
  |nil=>exact t.elim
  |cons x xs =>
   obtain ⟨ys,t2,p2⟩:=ih t.2;exact ⟨x::ys,⟨t.1,t2⟩,p2.cons x⟩
 |swap v u l =>
  intro t
  match xs,t with
  |x::y::xs,t=>exact ⟨y::x::xs,⟨t.2.1,t.1,t.2.2⟩,.swap x y xs⟩
  |[_],t=>exact t.2.elim
  |[],t=>exact t.elim
 |trans p q ih1 ih2 =>
  intro t;obtain ⟨ys,t2,p2⟩:=ih2 t;obtain ⟨zs,t3,p3⟩:=ih1 t2;exact ⟨zs,t3,p3.trans p2⟩
open Classical in
noncomputable def Db (h:bu) (xs:List (Str×Int)) (v:a9):Nat:=if e:∃ x,Pk h v x then xB xs e.choose else 0
theorem pT    (t:Pk h v x):Db h xs v=xB xs x:=by
 have e:∃ x,Pk h v x:=⟨x,t⟩;unfold Db;rw [dif_pos e,e.choose_spec.inj t]
theorem Rg   (hu:A.units<fO) (k:Kd kd) (t:Pks s.heap vs xs):Cp prog w A s kd (Db s.heap xs) (vs.zip vs):=by
 intro x hx y hy Q E q;obtain ⟨e1,m1⟩:=xm hx;obtain ⟨e2,m2⟩:=xm hy;obtain ⟨a,ha,ta⟩:=t.mem m1;obtain ⟨b,hb,tb⟩:=t.mem m2;rw [pT ta,pT tb,sK ha hb] at q;rcases k with rfl|rfl|rfl
 ·exact M9 ta tb q
 ·exact Pa hu ta tb q
 ·exact Pb hu ta tb q
theorem Bh:∀ {vs:List a9}{xs ys:List (Str×Int)}{h:bu},Pks h vs xs->(∀ x∈xs,x∈ys)->xs.Nodup->((vs.zip vs).map fun p=>Db h ys p.1).Nodup
 |[],[],_,_,_,_,_=>ft
 |v::vs,x::xs,ys,h,t,s,n=>by
  rw [jf,az,dq];refine ⟨fun hm=>?_,Bh t.2 (fun x hx=>s x (ai _ hx)) (dq.1 n).2⟩;obtain ⟨p,hp,e⟩:=iG.1 hm;obtain ⟨y,hy,ty⟩:=t.2.mem (xm hp).2;rw [pT ty,pT t.1] at e;rw [JP (s y (ai _ hy)) (s x (al ..)) e] at hy;exact (dq.1 n).1 hy
 |[],_::_,_,_,t,_,_=>t.elim
 |_::_,[],_,_,t,_,_=>t.elim
theorem JQ   (t:Pk s.heap v x) (q:∀ o,(o=none\/∃ b u,o=some (.str b u))->Q o s):ao (ar prog w) A (firstOfTuple' v) Q E s:=by
 obtain ⟨a,o,vs,n,rfl,e1,e0,e2,e3⟩:=t;rw [kas_first_eq];refine a7 (Looks.here (show Looks (ar prog w) s.heap (typeOf (.ref a)) o.cls from (Looks.ld e1).andThen .now) ?_);rw [e0,if_neg (by first|decide|simp)];refine a7 (listItems_at e1 e2 (ac (q _ ?_)));rw [<- aY]
 obtain ⟨t,u,e3⟩:=e3;rw [e3];exact .inr ⟨x.1,t,rfl⟩
theorem yx:∀ {vs:List a9}{xs:List (Str×Int)}{Q:List (Option a9)->ae->Prop},Pks s.heap vs xs->(∀ os:List (Option a9),os.length=vs.length->(∀ o∈os,o=none\/∃ b u,o=some (.str b u))->Q os s)->ao (ar prog w) A (vs.mapM firstOfTuple') Q E s
 |[],[],_,_,q=>by rw [List.mapM_nil];exact ac (q [] rfl (by simp))
 |v::vs,x::xs,Q,t,q=>by
  rw [List.mapM_cons];refine a7 (JQ t.1 fun o ho=>a7 (yx t.2 fun os hl ha=>ac (q _ (by simp [hl]) ?_)));intro o' ho';rcases aJ.1 ho' with rfl|ho'
  ·exact ho
  ·exact ha _ ho'
 |[],_::_,_,t,_=>t.elim
 |_::_,[],_,t,_=>t.elim
theorem Ma {vs:List a9}{xs:List (Str×Int)}{Q:lE->ae->Prop} (hn:2<=vs.length) (t:Pks s.heap vs xs) (q:∀ kd,Kd kd->Q kd s):ao (ar prog w) A (keyKind' vs.toArray) Q E s:=by
 rw [kat_kind_eq,Hb,map_eq_pure_bind];refine a7 (a7 (yx t fun os hl ha=>ac ?_));by_cases hall:(os.toArray.all fun x=>x.isSome)=true
 ·rw [if_pos hall];refine a7 (cg ?_);have hs:∀ o∈os,∃ b u,o=some (.str b u):=fun o ho=>by
   rcases ha o ho with rfl|h
   ·simp at hall;have:=hall _ ho;cases this
   ·exact h
  have hfm:os.toArray.filterMap id=(os.filterMap id).toArray:=by simp
  rw [hfm];have hl2:(os.filterMap id).length=os.length:=by
   have:∀ os:List (Option a9),(∀ o∈os,∃ b u,o=some (.str b u))->(os.filterMap id).length=os.length:=by
    intro os;induction os with
    |nil=>intro _;rfl
    |cons o os ih =>
     intro hs;obtain ⟨b,u,rfl⟩:=hs o (al ..);rw [kN];simp only [id];rw [bp,ih fun o ho=>hs o (ai _ ho)];rfl
   exact this os hs
  refine a7 (JD (T:=.type "str") (by omega) (fun v hv=>?_) (by rfl) (ac (q _ (.inl rfl))));obtain ⟨o,ho,e⟩:=List.mem_filterMap.1 hv;obtain ⟨b,u,rfl⟩:=hs o ho;cases e;exact .now
 ·rw [if_neg hall];by_cases h0:(os.toArray[0]?.bind id).isSome=true
  ·rw [if_pos h0];exact ac (q _ (.inr (.inl rfl)))
  ·rw [if_neg h0];refine a7 (JD (T:=.type "tuple") (by omega) (fun v hv=>?_) (by rfl) (ac (q _ (.inr (.inr rfl)))));obtain ⟨x,_,a,o,us,n,rfl,e1,e2,_⟩:=t.mem hv;rw [<- e2];exact (Looks.ld e1).andThen .now
theorem Pks.inj:∀ {vs:List a9}{xs ys:List (Str×Int)},Pks h vs xs->Pks h vs ys->xs=ys
 |[],[],[],_,_=>rfl
 |_::_,_::_,_::_,t1,t2=>by rw [t1.1.inj t2.1,Pks.inj t1.2 t2.2]
 |[],_::_,_,t,_=>t.elim
 |[],[],_::_,_,t=>t.elim
 |_::_,[],_,t,_=>t.elim
 |_::_,_::_,[],_,t=>t.elim
theorem Pk.keepNe    (ha:h.get? a=some (iD "list" vs n)) (k:∀ b o,b≠a->h.get? b=some o->h'.get? b=some o) (v:a9) (x:Str×Int) (t:Pk h v x):Pk h' v x:=by
 obtain ⟨b,o,us,m,rfl,e1,e2,e3⟩:=t;refine ⟨b,o,us,m,rfl,k b o (fun e=>?_) e1,e2,e3⟩;subst e;rw [ha] at e1;cases e1;simp at e2
theorem wq  : ∀ {xs:List bX}{zs:List (Str×Int)},Pks h (xs.map (·.1)) zs->(∀ z∈zs,z∈ys)->xs.Pairwise (P2 (Db h ys))->zs.Pairwise (fun a b=>pl a b=true)
 |[],[],_,_,_=>oA
 |x::xs,z::zs,t,hm,p=>by
  have p':=jg.1 p;refine jg.2 ⟨fun b hb=>?_,wq t.2 (fun z hz=>hm z (ai _ hz)) p'.2⟩;have:∀ {us:List bX}{ws:List (Str×Int)},Pks h (us.map (·.1)) ws->b∈ws->∃ u∈us,Pk h u.1 b:=by
   intro us;induction us with
   |nil=>intro ws t hb;cases ws with
    |nil=>cases hb
    |cons=>exact t.elim
   |cons u us ih=>intro ws t hb;cases ws with
    |nil=>cases hb
    |cons w ws =>
     rcases aJ.1 hb with rfl|hb
     ·exact ⟨u,al ..,t.1⟩
     ·obtain ⟨u',h1,h2⟩:=ih t.2 hb;exact ⟨u',ai _ h1,h2⟩
  obtain ⟨u,hu,tu⟩:=this t.2 hb;have l:=p'.1 u hu;unfold P2 at l;rw [pT t.1,pT tu] at l;rw [<- sK (hm z (al ..)) (hm b (ai _ hb))];exact decide_eq_true l
 |[],_::_,t,_,_=>t.elim
 |_::_,[],t,_,_=>t.elim
theorem Bj {a:ah}{vs:List a9}{xs:List (Str×Int)}{n:Nat}{P:Fin->ae->Prop} (hu:A.units<fO) (ho:s.heap.get? a=some (iD "list" vs.toArray n))
  (t:Pks s.heap vs xs) (hx:xs.Nodup) (h64:vs.length<=64)
  (h:∀ (vs':List a9) (xs':List (Str×Int)),vs'.Perm vs->Pks s.heap vs' xs'->xs'.Perm xs->xs'.Pairwise (fun a b=>pl a b=true)->P (.done (.ret .none)) { s with heap:=sortedHeap s.heap a vs vs'.toArray }) :
  ao (ar prog w) A (ii.«list.sort» ⟨[.ref a],[]⟩) P E s:=by
 rw [list_sort_plain];have ha:a<s.heap.objs.size:=ap ho;have zl:vs.length<=sizeLine:=by rw [h_];omega
 refine a7 (listItems_at ho rfl ?_);refine a7 (F9 ho rfl ?_ (by simpa using zl) (ck _));obtain ⟨e1,ho1⟩:∃ e1,(s.heap.update a (fv fun _=>#[])).get? a=some (iD "list" #[] e1):=⟨_,get?_update_seq ho (fun _=>#[])⟩;refine a7 (L6 ho1 rfl ?_);refine a7 (wpAny_newTuple ?_ (by simpa using zl));refine a7 (F4 ?_ (ck _));refine cE ?_;have ho6:(((s.heap.update a (fv fun _=>#[])).push (iD "tuple" vs.toArray 0)).push (iD "list" #[] 0)).get? a=some (iD "list" #[] e1):=by
  rw [Hd _ _ _ (by rw [size_push',v8];exact aA (cG ha)),Hd _ _ _ (by rw [v8];exact aA ha)];exact ho1
 have t6:Pks (((s.heap.update a (fv fun _=>#[])).push (iD "tuple" vs.toArray 0)).push (iD "list" #[] 0)) vs xs :=
  t.keep (Pk.keepNe ho fun b o hb e=>aa _ (aa _ ((eV _ _ (cR hb)).trans e)))
 show ao (ar prog w) A _ P E { s with heap:=((s.heap.update a (fv fun _=>#[])).push (iD "tuple" vs.toArray 0)).push (iD "list" #[] 0) };dsimp only;have hsz:vs.toArray.size=vs.length:=by simp
 by_cases h2:vs.toArray.size<2
 ·rw [if_pos h2,if_pos h2];refine a7 (ac ?_);rw [StateT.run_pure];refine a7 (ac ?_);dsimp only;refine a7 (L6 ho6 rfl ?_);refine a7 (F9 ho6 rfl ?_ (hsz2:=by rw [L7,Array.size_zip,aH,Cq];exact Nat.le_succ_of_le zl));simp only [bne_self_eq_false,ba,if_false];have e:(vs.toArray.zip vs.toArray).map (·.2)=vs.toArray:=by
   apply uK.1;rw [Array.toList_map,He,KB (am _)]
  refine ac ?_;have:=h vs xs (.refl _) t (.refl _) (by
   have:=t.len
   match xs,this with
   |[],_=>exact .nil
   |[_],_=>exact Ak ..
   |_::_::_,e=>simp at e;omega)
  rw [<- e] at this;exact this
 ·rw [if_neg h2,if_neg h2];refine a7 (Ma (by omega) t6 fun kd hk=>?_);refine a7 (aO (P5 (kd:=kd) (L:=vs.zip vs) (st:=SortSt.mk' kd (vs.toArray.zip vs.toArray) #[] 7 none)
   (Q:=fun _ st'=>(aI st').toList.Perm (vs.zip vs)/\tP st'=none/\Up (Db _ xs) (aI st') 0 (vs.zip vs).length)
   (Rg hu hk t6) (Bh t6 (fun _ h=>h) hx) ⟨rfl,by rw [He],rfl⟩ rfl (by rw [oF];omega) (by rw [oF];omega) fun st' b u=>⟨b.perm,b.ok,u⟩) ?_ fun _ _ e=>e)
  rintro ⟨⟨⟩,st'⟩ s' ⟨rfl,hp,hf,hs⟩;dsimp only;have hpl:(aI st').size=vs.length:=by
   have:=hp.length_eq;rw [aL,oF,Cq] at this;exact this
  refine a7 (L6 ho6 rfl ?_);refine a7 (F9 ho6 rfl ?_ (hsz2:=by rw [L7];show (aI st').size<=_;rw [hpl,h_];omega));rw [hf];simp only [bne_self_eq_false,ba,if_false];refine ac ?_;obtain ⟨z1,z2⟩:=M6 hp;obtain ⟨ys,t7,p7⟩:=t6.perm z1;obtain ⟨ys',t8,p8⟩:=t.perm z1;rw [<- z2] at t7;have len2:(vs.zip vs).length=(aI st').size:=by rw [oF,hpl,Cq]
  rw [len2] at hs;have so:=wq (ys:=xs) t7 (fun z hz=>p7.mem_iff.1 hz) (Rb hs);have:ys'=ys:=by
   rw [z2] at t7;exact Pks.inj (t8.keep (Pk.keepNe ho fun b o hb e=>aa _ (aa _ ((eV _ _ (cR hb)).trans e)))) t7
  subst this;have:=h _ ys' z1 t8 p8 so;have e:(aI st').map (·.2)=((aI st').toList.map (·.2)).toArray:=by apply uK.1;simp
  rw [<- e] at this;exact this
theorem sorted_P  (hu:A.units+2<fO) (hc:ao (ar prog w) A.in1 (GV x) (fun vs s1=>∃ xs,Pks s1.heap vs xs/\xs.Nodup/\vs.length<=64 /\
   ∀ (h':bu) (vs':List a9) (xs':List (Str×Int)) (e:Nat),(∀ b o,s1.heap.get? b=some o->h'.get? b=some o)->h'.get? s1.heap.objs.size=some (iD "list" vs'.toArray e)->vs'.Perm vs->Pks s1.heap vs' xs'->xs'.Perm xs->xs'.Pairwise (fun a b=>pl a b=true) ->
    Q (.ref s1.heap.objs.size) { s1 with heap:=h' }) E s):ao (ar prog w) A (call (.builtin "sorted") [x]) Q E s:=by
 refine ma kind_sorted plain_sorted entry_sorted (args_sorted1 _) ?_;unfold ii.«sorted»;refine a7 (m:=checkCount "sorted" 1 1 _) (ac ?_);refine a7 (aO hc (fun vs s1 z=>?_) fun _ _ z=>z);obtain ⟨xs,t,hx,h64,hq⟩:=z;refine a7 (F4 ?_ (by rw [h_];omega));have at1:(s1.heap.push (iD "list" vs.toArray 0)).get? s1.heap.objs.size=some (iD "list" vs.toArray 0):=aw _ rfl;show ao _ _ _ _ _ { s1 with heap:=s1.heap.push (iD "list" vs.toArray 0) };have up:∀ v x,Pk s1.heap v x->Pk (s1.heap.push (iD "list" vs.toArray 0)) v x:=fun v x ⟨b,o,us,m,e0,e1,e2⟩=>⟨b,o,us,m,e0,aa _ e1,e2⟩;refine a7 (cE (bR slot_list_sort ⟨_,at1,rfl⟩ entry_list_sort (Bj (by show A.units+1+1<fO;omega) at1 (t.keep up) hx h64 fun vs' xs' a1 a2 a3 a4=>⟨_,rfl,?_⟩) (args_list_sort _)));obtain ⟨e,at2⟩:=sortedHeap_at (out:=vs'.toArray) at1;obtain ⟨ys,t9,p9⟩:=t.perm a1;obtain rfl:ys=xs':=(t9.keep up).inj a2;refine ac ⟨_,rfl,hq _ _ ys e (fun b o q=>?_) at2 a1 t9 a3 a4⟩;have hb:=ap q;rw [sortedHeap_old (aA hb) (by rw [size_push'];exact cG hb)];exact aa _ q
end
end TP
namespace L2
open PySem PySem.Spec PyProof.Rows PySem.W
section
def G3 (x:Str×Int):List (Str×Int)->List (Str×Int)
 |[]=>[x]
 |y::l=>if TP.pl x y=true then x::y::l else y::G3 x l
def mX:List (Str×Int)->List (Str×Int)
 |[]=>[]
 |x::l=>G3 x (mX l)
theorem ud (x:Str×Int):∀ l,(G3 x l).Perm (x::l)
 |[]=>.refl _
 |y::l=>by
  unfold G3;split
  ·exact .refl _
  ·exact ((ud x l).cons y).trans (.swap x y l)
theorem jA:∀ l,(mX l).Perm l
 |[]=>.refl _
 |x::l=>(ud x _).trans ((jA l).cons x)
abbrev PF (l:List (Str×Int)):Prop:=l.Pairwise fun a b=>TP.pl a b=true
theorem Ew:∀ {l:List (Str×Int)},PF l->x∉l->PF (G3 x l)
 |[],_,_=>Ak ..
 |y::l,h,hx=>by
  have h':=jg.1 h;unfold G3;split
  ·rename_i e
   refine jg.2 ⟨fun z hz=>?_,h⟩;rcases aJ.1 hz with rfl|hz
   ·exact e
   ·exact TP.pl_trans x y z e (h'.1 z hz)
  ·rename_i e
   refine jg.2 ⟨fun z hz=>?_,Ew h'.2 fun q=>hx (ai _ q)⟩;rcases aJ.1 ((ud x l).mem_iff.1 hz) with rfl|hz
   ·cases q:TP.pl y z with
    |true=>rfl
    |false=>exact absurd (aJ.2 (.inl (TP.pl_total z y (by simpa using e) q))) hx
   ·exact h'.1 z hz
theorem sL:∀ {l:List (Str×Int)},l.Nodup->PF (mX l)
 |[],_=>.nil
 |x::l,h=>Ew (sL (dq.1 h).2) fun q=>(dq.1 h).1 ((jA l).mem_iff.1 q)
theorem JR (hl:PF l) (hm:PF m) (p:l.Perm m):l=m :=
 List.Perm.eq_of_pairwise (le:=fun a b=>TP.pl a b=true) (fun a b _ _ h1 h2=>by
  have:=TP.pl_trans a b a h1 h2;rw [TP.pl_irrefl] at this;cases this) hl hm p
theorem Bk (n:l.Nodup) (p:l'.Perm l) (h:PF l'):l'=mX l:=JR h (sL n) (p.trans (jA l).symm)
theorem Bl (n:l.Nodup) (p:l'.Perm l):mX l'=mX l:=JR (sL (p.nodup_iff.2 n)) (sL n) ((jA _).trans (p.trans (jA _).symm))
def yy (H:Hp):List ah->List (Str×Int)->Prop
 |[],[]=>True
 |a::as,x::xs=>H a=some (.tup [V.str x.1,V.int x.2])/\yy H as xs
 |_,_=>False
section
theorem Nz {pins σ H s} (I:bz X pins σ H s)  (h:H a=some (.tup [V.str x.1,V.int x.2])):TP.Pk s.heap (.ref a) x:=by
 obtain ⟨its,r,⟨o,h1,h2,n,h3⟩,_⟩:=I.tuple (.inl (.of h))
 refine ⟨a,o,its.toArray,n,rfl,h1,h2,h3,?_⟩
 obtain ⟨v1,r1,rfl,q1,r2⟩:∃ v1 r1,its=v1::r1/\cX (V.str x.1) v1/\dg [V.int x.2] r1:=by cases r with|cons q t=>exact ⟨_,_,rfl,q,t⟩
 obtain ⟨v2,r3,rfl,q2,r4⟩:∃ v1 r2,r1=v1::r2/\cX (V.int x.2) v1/\dg [] r2:=by cases r2 with|cons q t=>exact ⟨_,_,rfl,q,t⟩
 cases r4
 obtain ⟨t1,rfl⟩:=(show ∃ t,v1=iC x.1 t from q1)
 obtain ⟨t2,rfl⟩:=(show ∃ t,v2=jN x.2 t from q2)
 exact ⟨t1,t2,rfl⟩
theorem De {pins σ H s} (I:bz X pins σ H s):∀ {as:List ah}{xs:List (Str×Int)},yy H as xs->TP.Pks s.heap (as.map bt) xs
 |[],[],_=>trivial
 |_::_,_::_,t=>⟨Nz I t.1,De I t.2⟩
 |[],_::_,t=>t.elim
 |_::_,[],t=>t.elim
theorem yy.mem  : ∀ {as:List ah}{xs:List (Str×Int)},yy H as xs->a∈as->∃ x:Str×Int,H a=some (.tup [V.str x.1,V.int x.2])
 |b::as,x::xs,t,h=>by
  rcases aJ.1 h with rfl|h
  ·exact ⟨x,t.1⟩
  ·exact yy.mem t.2 h
 |[],_,_,h=>by cases h
 |_::_,[],t,_=>t.elim
theorem Df {pins σ H s} (I:bz X pins σ H s)  (t:yy H as xs):∀ {bs:List ah}{ys:List (Str×Int)},(∀ b∈bs,b∈as)->TP.Pks s.heap (bs.map bt) ys->yy H bs ys
 |[],[],_,_=>trivial
 |b::bs,y::ys,h,q=>by
  obtain ⟨x,e⟩:=t.mem (h b (al ..));rw [(Nz I e).inj q.1] at e;exact ⟨e,Df I t (fun b hb=>h b (ai _ hb)) q.2⟩
 |[],_::_,_,q=>q.elim
 |_::_,[],_,q=>q.elim
theorem Dg {pins σ H s} (hu:X.A.units+2<fO) (I:bz X pins σ H s)    (t:yy H as xs) (hn:xs.Nodup) (hz:as.length<=64)
  (hc:∀ (P:List a9->ae->Prop),(∀ (h':bu) (tk:Nat),(∀ b o,s.heap.get? b=some o->h'.get? b=some o)->s.heap.objs.size<=h'.objs.size->P (as.map bt) { s with heap:=h',toks:=tk })->ao (ar X.prog X.w) X.A.in1 (GV v) P X.xe s)
  (q:∀ l bs,H l=none->bs.Perm as->yy H bs (mX xs)->Q (.ref l) (upd H l (.lst (bs.map V.ref)))) :
  ao (ar X.prog X.w) X.A (call (.builtin "sorted") [v]) (EP X pins σ Q) X.xe s:=by
 refine TP.sorted_P hu (hc _ fun h' tk kp sz=>⟨xs,(De I t).keep ?_,hn,by rw [au];exact hz,fun h2 vs' ys e kp2 at2 p2 t2 p3 u=>?_⟩)
 ·exact fun v x ⟨b,o,us,m,e0,e1,e2⟩=>⟨b,o,us,m,e0,kp b o e1,e2⟩
 ·obtain ⟨bs,rfl,pb⟩:=yv p2;obtain rfl:=Bk hn p3 u;obtain ⟨ys,t9,_⟩:=(De I t).perm p2;have:=(t9.keep fun v x ⟨b,o,us,m,e0,e1,e2⟩=>(⟨b,o,us,m,e0,kp b o e1,e2⟩:TP.Pk h' v x)).inj t2;subst this;have kk:∀ b o,s.heap.get? b=some o->h2.get? b=some o:=fun b o e=>kp2 b o (kp b o e);have ok2:dE X.prog X.w (upd H h'.objs.size (.lst (bs.map V.ref))) h2 h'.objs.size (.lst (bs.map V.ref)) :=
   ⟨by rw [au,pb.length_eq];exact bM hz (by rw [h_];decide),bs.map bt,e,uc bs,at2⟩
  exact ⟨.ref h'.objs.size,_,I.laid (t':=tk) kk sz ok2,rfl,q _ bs (I.hok.fresh sz) pb (Df I t (fun b hb=>pb.mem_iff.1 hb) t9)⟩
theorem wt (hu:X.A.units+2<fO):jv X (.builtin "sorted") (fun xs H Q=>∃ p as ts,xs=[.ref p]/\lz X.K H p (as.map V.ref)/\yy H as ts/\ts.Nodup/\as.length<=64/\∀ l bs,H l=none->bs.Perm as->yy H bs (mX ts)->Q (.ref l) (upd H l (.lst (bs.map V.ref)))):=by
 intro pins s σ H xs us Q I r h;obtain ⟨p,as,ts,rfl,hq,t,hn,hz,q⟩:=h;obtain ⟨u,rfl,rx⟩:=kj r;cases rx;obtain ⟨its,r',pl,hl⟩:=I.list hq;obtain rfl:=Er r';refine Dg hu I t hn hz (fun P hp=>collect_list pl.isList ?_ (by rw [au] at hl ⊢;exact hl)) q;refine hp _ s.toks (fun b o e=>?_) ?_
 ·have hb:=ap e;exact (eV _ _ (dv hb)).trans (aa _ e)
 ·rw [v8,bF];exact fh _
end
end
end L2
namespace J
open PySem L2
section
def mC (x:Str×Int):D:=.tuple [.str x.1,.int x.2]
def sM:List D->Option (List (Str×Int))
 |[]=>some []
 |.tuple [.str a,.int i]::r=>(sM r).map ((a,i)::·)
 |_::_=>none
theorem ue:∀ xs:List (Str×Int),sM (xs.map mC)=some xs
 |[]=>rfl
 |x::xs=>by
  show (sM (xs.map mC)).map ((x.1,x.2)::·)=_;rw [ue xs];rfl
theorem q_:∀ {ds:List D}{xs:List (Str×Int)},sM ds=some xs->ds=xs.map mC
 |[],xs,h=>by cases h;rfl
 |d::ds,xs,h=>by
  unfold sM at h
  split at h
  ·cases h;rename_i e;cases e
  ·rename_i a i r e
   cases e
   cases h2:sM ds with
   |none=>rw [h2] at h;cases h
   |some ys=>rw [h2] at h;cases h;rw [az,<- q_ h2];rfl
  ·cases h
def lO (ts:List (Str×Int)):R D:=if ts.Nodup/\ts.length<=64 then .ok (.list ((mX ts).map mC)) else .no
def lP:D->R D
 |.list ds=>match sM ds with
  |some ts=>lO ts
  |none=>.no
 |_=>.no
section
variable {K:a8}{H Hs:Hp}{X:Cx}
theorem JU {ys:List V}{x:Str×Int} (r:RDs K H ys [.str x.1,.int x.2]):ys=[V.str x.1,V.int x.2]:=by
 cases r with
 |cons h t =>
  cases h
  cases t with
  |cons h t=>cases h;cases t;rfl
theorem Ex:∀ {vs:List V}{xs:List (Str×Int)},RDs K H vs (xs.map mC)->∃ as:List ah,vs=as.map V.ref/\yy H as xs
 |_,[],.nil=>⟨[],rfl,trivial⟩
 |_,x::xs,.cons h t=>by
  obtain ⟨as,e,ta⟩:=Ex t;subst e;unfold mC at h
  cases h with
  | @tuple a ys _ q r =>
   rw [JU r] at q;exact ⟨a::as,rfl,q,ta⟩
theorem uf:∀ {bs:List ah}{ys:List (Str×Int)}{Hs:Hp},yy H bs ys->cz Hs H->∃ Hs2,c8 H Hs H Hs2/\RDs K Hs2 (bs.map V.ref) (ys.map mC)
 |[],[],Hs,_,s=>⟨Hs,.refl s,.nil⟩
 |b::bs,y::ys,Hs,t,s=>by
  obtain ⟨Hs1,st,r⟩:=uf t.2 s;have sub:=st.sub
  have same:cz Hs1 (upd Hs1 b (.tup [V.str y.1,V.int y.2])):=fun c u e=>by
   by_cases hc:c=b
   ·subst hc;have:=sub _ _ e;rw [t.1] at this;cases this;exact bi
   ·rw [bh hc];exact e
  refine ⟨upd Hs1 b (.tup [V.str y.1,V.int y.2]),st.trans ⟨.refl _,same,fun c u e=>?_,fun c u e n z=>?_⟩,.cons (.tuple bi (.cons (.str _) (.cons (.int _) .nil))) (r.same same)⟩
  ·by_cases hc:c=b
   ·subst hc;rw [bi] at e;cases e;exact t.1
   ·rw [bh hc] at e;exact sub _ _ e
  ·by_cases hc:c=b
   ·subst hc;rw [t.1] at e;cases e;cases n
   ·rw [bh hc];exact z
 |[],_::_,_,t,_=>t.elim
 |_::_,[],_,t,_=>t.elim
theorem Ey (s:cz Hs H):∀ {as:List ah}{xs:List (Str×Int)},yy Hs as xs->yy H as xs
 |[],[],_=>trivial
 |_::_,_::_,t=>⟨s _ _ t.1,Ey s t.2⟩
 |[],_::_,t=>t.elim
 |_::_,[],t=>t.elim
theorem Ez:∀ {as:List ah}{xs:List (Str×Int)},yy H as xs->as.length=xs.length
 |[],[],_=>rfl
 |_::_,_::_,t=>congrArg (· + 1) (Ez t.2)
 |[],_::_,t=>t.elim
 |_::_,[],t=>t.elim
theorem Dh (hu:X.A.units+64<fO):GM X (.builtin "sorted") (jr lP):=by
 have hu:X.A.units+2<fO:=by omega
 refine qU (fun d c n=>?_) fun pins s σ H x u Q Hs d d' I ru sub rx hd q=>?_
 ·unfold lP lO;split<;>(try split)<;>(try split)<;>exact fun h=>by cases h
 ·unfold lP at hd;split at hd
  ·split at hd
   ·rename_i ts ht
    unfold lO at hd;split at hd
    ·rename_i hz
     cases hd;obtain ⟨a,vs,rfl,qa,ra⟩:=rx.list sub;rw [q_ ht] at ra;obtain ⟨as,rfl,ta⟩:=Ex ra
     refine wt hu pins s σ H _ _ Q I (.cons ru .nil) ⟨a,as,ts,rfl,qa,Ey sub ta,hz.1,by rw [Ez ta];exact hz.2,fun l bs hl _ tb=>?_⟩
     obtain ⟨Hs2,st,r⟩:=uf (K:=X.K) tb sub
     have s2:c8 H Hs2 (upd H l (.lst (bs.map V.ref))) (upd Hs2 l (.lst (bs.map V.ref))):=.new st.sub hl
     exact q _ _ _ (st.trans s2) (.list (.inl (.of bi)) (r.same s2.sh))
    ·cases hd
   ·cases hd
  ·cases hd
end
end
end J
namespace L2
open PySem PySem.Spec PyProof.Rows PySem.W
section
def RH (ts:List (Str×Int)):List (eR×V):=ts.map fun p=>(n6 p.1,V.int p.2)
def EA (H H':Hp):Prop:=cz H H'/\∀ b,H' b=H b\/H b=none
theorem EA.refl (H:Hp):EA H H:=⟨.refl _,fun _=>.inl rfl⟩
def Pc (td:TE):TE:=fun σ H Q=>td σ H fun x H1=>∃ a ts,x=.ref a/\H1 a=some (.dK (RH ts))/\ts.Nodup/\ts.length<=64 /\
 ∀ H2 l bs,EA H1 H2->yy H2 bs (mX ts)->H2 l=none->Q (.ref l) (upd H2 l (.lst (bs.map V.ref)))
section
variable {X:Cx}{pins:List (ah×Obj)}{σ:St}{H:Hp}{s:ae}
theorem JV (I:bz X pins σ H s):∀ {as:List ah}{xs:List (Str×Int)},as.Nodup->(∀ a∈as,jS X pins H a)->TP.Pks s.heap (as.map bt) xs->∃ H',bz X pins σ H' s/\yy H' as xs/\EA H H'/\∀ b,b∉as->H' b=H b
 |[],[],_,_,_=>⟨H,I,trivial,.refl _,fun _ _=>rfl⟩
 |a::as,x::xs,nd,hf,t=>by
  obtain ⟨hna,nd⟩:=dq.1 nd
  obtain ⟨H1,I1,p1,m1,o1⟩:=JV I nd (fun b hb=>hf b (ai _ hb)) t.2
  have fa:=hf a (al ..)
  have na:H1 a=none:=(o1 a hna).trans fa.f0
  obtain ⟨_,o,vs,n,ea,e1,e2,e3,t1,t2,e4⟩:=t.1
  cases ea
  have fp1:jS X pins H1 a:=⟨na,fa.f1,fa.f2,fa.f3,fa.f4,fa.f5⟩
  have new:dE X.prog X.w (upd H1 a (.tup [V.str x.1,V.int x.2])) s.heap a (.tup [V.str x.1,V.int x.2]) :=
   ⟨by rw [h_];show 2<=16777216;decide,[.str x.1 t1,.int x.2 t2],.cons ⟨t1,rfl⟩ (.cons ⟨t2,rfl⟩ .nil),⟨o,e1,e2,n,by rw [e3,<- e4]⟩⟩
  have sm:cz H1 (upd H1 a (.tup [V.str x.1,V.int x.2])):=fun b u e=>by rw [bh (fun z=>by subst z;rw [na] at e;cases e)];exact e
  refine ⟨_,I1.track fp1 new,⟨bi,?_⟩,⟨fun b u e=>sm b u (m1.1 b u e),fun b=>?_⟩,fun b hb=>?_⟩
  ·have:∀ {as:List ah}{xs:List (Str×Int)},yy H1 as xs->yy (upd H1 a (.tup [V.str x.1,V.int x.2])) as xs:=by
    intro as
    induction as with
    |nil=>intro xs t;cases xs with
     |nil=>trivial
     |cons=>exact t.elim
    |cons b as ih=>intro xs t;cases xs with
     |nil=>exact t.elim
     |cons=>exact ⟨sm _ _ t.1,ih t.2⟩
   exact this p1
  ·by_cases hb:b=a
   ·subst hb;exact .inr fa.f0
   ·rw [bh hb];exact m1.2 b
  ·have hba:b≠a:=fun z=>hb (by rw [z];exact al ..)
   rw [bh hba];exact o1 b fun z=>hb (ai _ z)
 |[],_::_,_,_,t=>t.elim
 |_::_,[],_,_,t=>t.elim
theorem EB {h:bu}:∀ {ts:List (Str×Int)}{vs:List (eR×a9)}{as:List ah},KV (RH ts) vs->as.length=vs.length ->
  (∀ (j:Nat) (a:ah),as[j]?=some a->∃ key k x,vs[j]?=some (k,x)/\(cq X.prog X.w).is k key=true/\h.get? a=some { cls:=.type "tuple",data:=.seq #[key,x] })->TP.Pks h (as.map bt) ts
 |[],_,[],.nil,_,_=>trivial
 |p::ts,_,a::as,.cons hq t,hl,g=>by
  refine ⟨?_,EB t (by simpa using hl) fun j b hj=>g (j+1) b (by simpa using hj)⟩
  obtain ⟨key,k,x,e1,e2,e3⟩:=g 0 a rfl
  cases e1
  obtain ⟨hk,hx⟩:=hq
  have hk:n6 p.1=k:=hk
  subst hk
  obtain ⟨t2,rfl⟩:=(show ∃ t,x=jN p.2 t from hx)
  obtain ⟨t1,rfl⟩:∃ t,key=iC p.1 t:=by
   rcases eA (show ut (n6 p.1) key=true from e2) with ⟨i,t,z,rfl⟩|⟨y,t,z,rfl⟩
   ·cases z
   ·cases z;exact ⟨t,rfl⟩
  exact ⟨a,_,_,_,rfl,e3,rfl,rfl,t1,t2,rfl⟩
 |[],_,_::_,.nil,hl,_=>by cases hl
 |_::_,_,[],.cons _ _,hl,_=>by cases hl
theorem zI {o:a_}{td:TE}{p apos ipos cpos:Pos} (hc:X.calm=true) (hu:X.A.units+2<fO) (ho:PE X o td) (hg:Gl X "sorted") (hm:X.mg "sorted"=none)
  (hbase:lr o "items" X.env (cj o X.env)=cj o X.env:=by rfl) (hline:(apos.endLine==ipos.line)=true:=by rfl)
  (he:aE [.Call (.Attribute o "items" apos) [] [] ipos] X.env=(false,cj (.Call (.Attribute o "items" apos) [] [] ipos) X.env)::aE [] X.env:=by rfl)
  (hpl:(gE cpos (aE [] X.env)).any (·.1)=false:=by rfl) :
  PE X (.Call (.Name "sorted" p) [.Call (.Attribute o "items" apos) [] [] ipos] [] cpos) (Pc td):=by
 intro pins s σ H Q I h
 refine ni (oH I hg hm ip ?_ (by decide) (by decide))
 refine qu ?_ he hpl
 rw [he]
 show ao _ _ (spliced ((false,cj _ X.env)::gE cpos (aE [] X.env))) _ _ s
 refine E_ (wpAny_Call_method0_late hbase hline (dX (ho pins s σ H _ I h) fun v s1 h1=>?_))
 obtain ⟨x,H1,I1,r1,a,ts,rfl,ha,hn,hz,q⟩:=h1
 obtain rfl:v=bt a:=r1
 obtain ⟨t1,t2,_⟩:=Ov I1 (.inl ⟨_,.inl ha⟩)
 refine ⟨"dict","dict.items",PySem.F.plainAttrs_dict,xO,PySem.F.type_dict_items,t1,t2,Ag rfl (PySem.evalArgs_none ?_)⟩
 obtain ⟨zl,hd,vs,rel,dd⟩:=DP I1.hok ha
 refine call_meetsIn xO dd.typeIs PySem.F.entry_dict_items (PySem.F.args_dict_items_1 _) (meets_dict_items (cq X.prog X.w) a hd) ⟨⟨vs,dd⟩,?_⟩
 refine Gz (TP.sorted_P hu ?_)
 obtain ⟨od,es,ep,e1,e2⟩:=dd
 have lv:vs.length=ts.length:=by have:=gU rel;rw [show (RH ts).length=ts.length from au ..] at this;exact this.symm
 refine kdx_collect (knd:=cq X.prog X.w) (d:=a) (ep:=ep) (kvs:=vs) (by simpa using I1.ok.hd hc) ⟨_,aw _ rfl,rfl,rfl⟩ ⟨od,es,aa _ e1,e2⟩ (by rw [lv,h_];omega) fun h' tk as kp la g=>?_
 have big:∀ b∈as,s1.heap.objs.size<=b:=fun b hb=>by
  have h1:(s1.heap.push { cls:=.type "dict_items",data:=.fields #[.ref a] }).objs.size<b:=g.above b hb
  rw [bF] at h1;exact bH (Nat.lt_of_succ_lt h1)
 have pks:TP.Pks h' (as.map bt) ts:=EB rel la g.pairs
 refine ⟨ts,pks,hn,by rw [au,la,lv];exact hz,fun h2 vs' xs' e kp2 at2 p2 t2 p3 u=>?_⟩
 have kk:∀ b o,s1.heap.get? b=some o->h2.get? b=some o:=fun b o e=>kp2 b o (kp b o (aa _ e))
 have I2:bz X pins σ H1 { s1 with heap:=h2,toks:=tk }:=I1.kept kk
 have ks:∀ v x,TP.Pk h' v x->TP.Pk h2 v x:=fun v x ⟨b,o,us,m,e0,e1,e2⟩=>⟨b,o,us,m,e0,kp2 b o e1,e2⟩
 obtain ⟨H2,I3,pq,more,oth⟩:=JV (s:={ s1 with heap:=h2,toks:=tk }) I2 (g.rise.imp fun {x y} h=>aA h) (fun b hb=>I1.fpOk (big b hb) (I1.hok.fresh (big b hb))) (pks.keep ks)
 have szl:s1.heap.objs.size<=h'.objs.size:=by
  exact bH (ap (kp s1.heap.objs.size _ (aw _ rfl)))
 have nl:H2 h'.objs.size=none:=(oth _ fun z=>absurd (g.there z) (aU _)).trans (I1.hok.fresh szl)
 obtain ⟨bs,rfl,pb⟩:=yv p2
 obtain rfl:=Bk hn p3 u
 have lb:bs.length=ts.length:=by rw [pb.length_eq,la,lv]
 have ok2:dE X.prog X.w (upd H2 h'.objs.size (.lst (bs.map V.ref))) h2 h'.objs.size (.lst (bs.map V.ref)) :=
  ⟨by rw [au,lb,h_];omega,bs.map bt,e,uc bs,at2⟩
 have f1:=I1.fpOk (pins:=pins) (H':=H2) szl nl
 exact ⟨.ref h'.objs.size,_,I3.track f1 ok2,rfl,q H2 _ bs more (Df I3 pq (fun b hb=>pb.mem_iff.1 hb) (t2.keep ks)) nl⟩
end
end
end L2
namespace J
open PySem L2
section
def vn:D->R D
 |.dict ds=>match sM (ds.map fun p=>.tuple [p.1,p.2]) with
  |some ts=>lO ts
  |none=>.no
 |_=>.no
def zJ (g:ay->R D):ay->R D:=fun ρ=>(g ρ).bind vn
section
variable {K:a8}{H Hs:Hp}{c:C}{e:a_}{g:ay->R D}{p apos ipos cpos:Pos}
theorem yz:∀ {kvs:List (eR×V)}{ds:List (D×D)}{ts:List (Str×Int)},RDk K H kvs ds->(ds.map fun p=>ev [p.1,p.2])=ts.map mC->kvs=RH ts
 |_,_,[],.nil,_=>rfl
 |_,_,x::ts,.cons (k:=k) h t,e=>by
  rw [az,az] at e
  obtain ⟨e1,e2⟩:=vB e
  rw [yz t e2]
  unfold mC at e1
  injection e1 with e1;injection e1 with e1 e3;injection e3 with e3 _
  have e1:kD k=.str x.1:=e1
  have e3:_=fk x.2:=e3
  subst e3
  cases k with
  |inl i=>cases e1
  |inr y=>cases e1;cases h;rfl
 |_,_,_::_,.nil,e=>by cases e
 |_,_,[],.cons _ _,e=>by cases e
theorem zK (hc:c.X.calm=true) (hu:c.X.A.units+64<fO) (h:JE c e g) (hg:Gl c.X "sorted") (hm:c.X.mg "sorted"=none)
  (hbase:lr e "items" c.X.env (cj e c.X.env)=cj e c.X.env:=by rfl) (hline:(apos.endLine==ipos.line)=true:=by rfl)
  (he:aE [.Call (.Attribute e "items" apos) [] [] ipos] c.X.env=(false,cj (.Call (.Attribute e "items" apos) [] [] ipos) c.X.env)::aE [] c.X.env:=by rfl)
  (hpl:(gE cpos (aE [] c.X.env)).any (·.1)=false:=by rfl) :
  JE c (.Call (.Name "sorted" p) [.Call (.Attribute e "items" apos) [] [] ipos] [] cpos) (zJ g):=.of fun ρ =>
 rK (zI hc (by omega) (h ρ) hg hm hbase hline he hpl) fun σ H Q h_2=>by
  obtain ⟨H0,Hs0,la,Hs,f,q⟩:=h_2
  refine zk f q fun d v H1 Hs1 e1 s1 f1 r1=>?_
  unfold zJ at q;rw [e1,bind_ok] at q;unfold vn at q
  split at q
  ·rename_i ds
   split at q
   ·rename_i ts ht
    unfold lO at q
    split at q
    ·rename_i hz
     have ht:=q_ ht
     cases r1 with
     | @dictK a kvs _ h1 h2 =>
      have ek:=yz h2 ht;subst ek
      refine ⟨a,ts,rfl,f1.st.sub _ _ h1,hz.1,hz.2,fun H2 l bs more pq nl=>?_⟩
      have st1:c8 H1 Hs1 H2 Hs1:=⟨more.1,.refl _,fun b u e=>more.1 b u (f1.st.sub b u e),fun _ _ _ _ z=>z⟩
      obtain ⟨Hs2,st2,r⟩:=uf (K:=c.X.K) pq st1.sub
      have s3:c8 H2 Hs2 (upd H2 l (.lst (bs.map V.ref))) (upd Hs2 l (.lst (bs.map V.ref))):=.new st2.sub nl
      exact q _ _ _ (s1.trans (st1.trans (st2.trans s3))) (.list (.inl (.of bi)) (r.same s3.sh))
     | @dictT a kvs _ h1 hn h2 =>
      cases h2 with
      |nil=>exact (hn rfl).elim
      |cons h t =>
       cases ts with
       |nil=>cases ht
       |cons x ts=>rw [az,az] at ht;obtain ⟨e1,_⟩:=vB ht;unfold mC tD at e1;injection e1 with e1;injection e1 with e1 _;cases e1
     | @dictF a o kvs ds h1 hn h2 =>
      cases ts with
      |nil=>cases ht
      |cons x ts=>rw [az,az] at ht;obtain ⟨e1,_⟩:=vB ht;unfold mC at e1;injection e1 with e1;injection e1 with e1 _;cases e1
    ·exact q.elim
   ·exact q.elim
  ·exact q.elim
end
end
section
def KH:D->D->R D
 |.dict ds,.dict []=>if cp ds=true then .ok (.bool ds.isEmpty) else .no
 |_,_=>.no
section
variable {c:C}
theorem RDk.len {K:a8}{H:Hp}:∀ {kvs:List (eR×V)}{ds:List (D×D)},RDk K H kvs ds->kvs.length=ds.length
 |_,_,.nil=>rfl
 |_,_,.cons _ t=>congrArg (· + 1) (RDk.len t)
theorem Bm {K:a8}{H Hs:Hp}{v:V}{ds:List (D×D)} (sub:cz Hs H) (h:RB K H Hs v (.dict ds)) (hf:cp ds=true):∃ p kvs,v=.ref p/\H p=some (.dK kvs)/\kvs.length=ds.length:=by
 obtain ⟨p,rfl,hh⟩:=h.dict sub
 rcases hh with ⟨vs,h1,h2⟩|⟨vs,h1,hn,h2⟩|⟨o,vs,es,rfl,h1,hn,h2⟩
 ·exact ⟨p,vs,rfl,h1,RDk.len h2⟩
 ·exact (hn (h2.flat hf).1).elim
 ·cases hf
theorem Pd (hu:c.X.A.units+1<fO):uP c.X (bG .Eq) KH:=by
 refine ⟨fun pins s σ H x y v u Q I rv ru h=>?_,fun x y c n=>?_⟩
 ·obtain ⟨Hs,dx,dy,sub,rx,ry,d,hd,q⟩:=h;unfold KH at hd;split at hd
  ·rename_i ds
   split at hd
   ·rename_i hf
    cases hd
    obtain ⟨a,ka,rfl,h1,l1⟩:=Bm sub rx hf
    obtain ⟨b,kb,rfl,h2,l2⟩:=Bm sub ry rfl
    cases rv;cases ru
    obtain ⟨_,ha,va,ra,da⟩:=DP I.hok h1
    obtain ⟨_,hb,vb,rb,db⟩:=DP I.hok h2
    have eb:kb=[]:=Al.1 l2
    subst eb
    cases rb
    have la:va.length=ds.length:=(gU ra).symm.trans l1
    refine PySem.W.keq_eq (r:=true) ha hb da db (by omega) (fun e=>?_) ⟨.bl _,H,I,rfl,?_⟩
    ·have:va=[]:=Al.1 e
     subst this;first|exact trivial|exact .nil|constructor
    ·rw [show (va.length==([] : List (eR×a9)).length&&true)=ds.isEmpty by
      rw [la];cases ds<;>simp]
     exact q _ H Hs (.refl sub) (.bool _)
   ·cases hd
  ·cases hd
 ·unfold KH;split<;>(try split)<;>exact fun h=>by cases h
end
end
end J
namespace Z
open PySem L2 J
section
def ku:ay->R Fl:=(gf (DW (cu (ag (fJ 1 [1] (jh (rB 0)) kT (g2 (rB 0) (rB 1) (yc false))) aV) (jr (gd fun bs=>bs.any id)))))
def jn:List D->R D:=iL 2 ku
def pU:ay->R Fl:=(aZ (gz (Im (oh (i7 (xy (rB 0) "str"))) (oh (i7 (oQ (kI 1) (cu (ag (rB 0) aV) (jr oS)) (kI 6) MT MT)))) (gf (kB false)) (fun ρ=>.ok (.nx ρ))) (gf (cu (ag (fJ 1 [] (jh (rB 0)) kT (oQ (fun _=>.ok (.str "a")) (rB 0) (fun _=>.ok (.str "z")) MT MT)) aV) (jr (gd fun bs=>bs.all id)))))
def mY:List D->R D:=iL 1 pU
def gM:ay->R Fl:=(aZ (gz (Im (oh (i7 (xy (rB 0) "tuple"))) (oh (i7 (cu (ag (fJ 1 [] (jh (rB 0)) kT (iV 1 mY (ag (rS 0) aV))) aV) (jr (gd fun bs=>bs.all id)))))) (gf (kB false)) (fun ρ=>.ok (.nx ρ))) (gf (cu (ag (fJ 2 [] (LS (ag (rS 0) (ag (OH (rB 0) (OG (kI 1)) Py) aV))) kT (g2 (rB 0) (rB 1) CW)) aV) (jr (gd fun bs=>bs.all id)))))
def fc:List D->R D:=iL 1 gM
def lQ:ay->R Fl:=(gf (AJ (iV 1 fc (ag (rS 1) aV)) (cu (ag (fJ 1 [0] (jh (rB 1)) kT (g2 (rB 0) (rB 1) (yc false))) aV) (jr (gd fun bs=>bs.all id)))))
def j5:List D->R D:=iL 2 lQ
def nI:ay->R Fl:=(aZ (gz (Im (oh (i7 (xy (rB 0) "int"))) (i7 (xy (rB 0) "bool"))) (gf (kB false)) (fun ρ=>.ok (.nx ρ))) (gf (oQ (rB 1) (rB 0) (rB 2) MT MT)))
def nJ:List D->R D:=iL 3 nI
def lR:ay->R Fl:=(aZ (gz (Im (oh (i7 (xy (rB 1) "tuple"))) (i7 (g2 (cu (ag (rB 1) aV) (jr oS)) (kI 6) (qT true)))) (gf (kB false)) (fun ρ=>.ok (.nx ρ))) (aZ (xz (rS 1) (nD 6 (de (bJ 2) (de (bJ 3) (de (bJ 4) (de (bJ 5) (de (bJ 6) (de (bJ 7) oV)))))))) (aZ (gz (Im (oh (i7 (iV 1 mY (ag (rS 2) aV)))) (oh (i7 (iV 3 nJ (ag (rS 7) (ag (kI 0) (ag (kI 9) aV))))))) (gf (kB false)) (fun ρ=>.ok (.nx ρ))) (aZ (gz (oh (i7 (cu (ag (fJ 1 [0] (jh (fR (ag (rS 3) (ag (rS 4) (ag (rS 5) (ag (rS 6) aV)))) .tuple)) kT (iV 2 j5 (ag (rS 1) (ag (rS 0) aV)))) aV) (jr (gd fun bs=>bs.all id))))) (gf (kB false)) (fun ρ=>.ok (.nx ρ))) (gf (AJ (iV 2 jn (ag (rS 3) (ag (rS 4) aV))) (iV 2 jn (ag (rS 5) (ag (rS 6) aV)))))))))
def lS:List D->R D:=iL 8 lR
def pV:ay->R Fl:=(aZ (gz (Im (oh (i7 (xy (rB 0) "tuple"))) (i7 (g2 (cu (ag (rB 0) aV) (jr oS)) (kI 2) (qT true)))) (gf (kB false)) (fun ρ=>.ok (.nx ρ))) (aZ (xz (rS 0) (nD 2 (de (bJ 1) (de (bJ 2) oV)))) (aZ (gz (Im (oh (i7 (iV 1 fc (ag (rS 1) aV)))) (i7 (g2 (cu (ag (rB 1) aV) (jr oS)) (kI 6) Px))) (gf (kB false)) (fun ρ=>.ok (.nx ρ))) (aZ (gz (Im (oh (i7 (xy (rB 2) "tuple"))) (i7 (g2 (cu (ag (rB 2) aV) (jr oS)) (kI 6) Px))) (gf (kB false)) (fun ρ=>.ok (.nx ρ))) (aZ (gz (oh (i7 (cu (ag (fJ 1 [1] (jh (rB 2)) kT (iV 2 lS (ag (rS 1) (ag (rS 0) aV)))) aV) (jr (gd fun bs=>bs.all id))))) (gf (kB false)) (fun ρ=>.ok (.nx ρ))) (gf (g2 (sI (u6 1 [] (jh (rB 2)) kT (g2 (rB 0) (kI 0) bL))) (cu (ag (rB 2) aV) (jr oS)) (qT false))))))))
def pW:List D->R D:=iL 3 pV
def jI:ay->R Fl:=(gz (oh (i7 (iV 2 j5 (ag (g2 (rB 0) (kI 0) bL) (ag (rS 1) aV))))) (fun _=>.no) (fun ρ=>.ok (.nx ρ)))
def jJ:List D->R D:=iL 2 jI
def pX:ay->R Fl:=(aZ (gz (oh (i7 (iV 1 pW (ag (rS 0) aV)))) (fun _=>.no) (fun ρ=>.ok (.nx ρ))) (gf (rS 0)))
def pY:List D->R D:=iL 1 pX
def jK:ay->R Fl:=(aZ (vX (iV 1 pY (ag (rS 0) aV))) (vX (iV 2 jJ (ag (rS 0) (ag (rS 1) aV)))))
def gT:List D->R D:=iL 2 jK
def lT:ay->R Fl:=(aZ (gj 2 (fJ 1 [1] (jh (g2 (rB 0) (kI 1) bL)) (i7 (cu (ag (fJ 1 [1] (jh (g2 (rB 0) (kI 1) bL)) kT (g2 (rB 0) (rB 1) (FZ false))) aV) (jr (gd fun bs=>bs.all id)))) (rS 0))) (gf (kZ (pS 1 [1] (jh (rB 2)) kT (jh (g2 (rB 0) (kI 3) bL)) (i7 (g2 (rB 1) (rB 2) (FZ true))) (rS 1)))))
def eS:List D->R D:=iL 3 lT
def jo:ay->R Fl:=(aZ (gj 2 (nH 1 [] (jh (rB 1)) kT (rS 0) (kI 0))) (aZ (iF 3 (kI 1)) (aZ (iF 4 (B9 nh 2 eS (ag (rS 0) (ag (yp 2) aV)))) (aZ (gL (D7 (rB 4)) (aZ (oX 4 (bJ 5) (nG 2 (rS 5) (rS 3))) (aZ (FQ 3 (kI 1)) (iF 4 (B9 nh 2 eS (ag (rS 0) (ag (yp 2) aV)))))) 100000) (gf (rS 2))))))
def gm:List D->R D:=iL 6 jo
def sO:ay->R Fl:=(aZ (vX (iV 2 gT (ag (rS 0) (ag (rS 1) aV)))) (gf (zJ (iV 2 gm (ag (rS 0) (ag (rS 1) aV))))))
def mZ:List D->R D:=iL 2 sO
def jL:ay->R Fl:=(aZ (gz (i7 (g2 (rB 1) (cu (ag (rB 0) aV) (jr oS)) CW)) (gf (g2 (rB 0) (rB 1) bL)) (fun ρ=>.ok (.nx ρ))) (aZ (gz (i7 (g2 (rB 0) (fR aV .list) (qT false))) (gf (kI 0)) (fun ρ=>.ok (.nx ρ))) (gf (g2 (g2 (g2 (rB 0) (g2 (rB 1) (cu (ag (rB 0) aV) (jr oS)) FG) bL) (kI 31) uQ) (rB 1) eK))))
def jM:List D->R D:=iL 2 jL
def lU:ay->R Fl:=(aZ (iF 3 (g2 (g2 (g2 (g2 (iV 2 jM (ag (rS 0) (ag (rS 1) aV))) (g2 (kI 7919) (rB 1) uQ) eK) (kI 1) eK) (kI 48271) uQ) (kI 2147483647) FG)) (gf (g2 (g2 (g2 (g2 (g2 (rB 3) (rB 3) uQ) (g2 (kI 7) (rB 3) uQ) eK) (rB 1) eK) (kI 2147483629) FG) (rB 2) FG)))
def br:List D->R D:=iL 4 lU
def nK:ay->R Fl:=(aZ (iF 2 (fun _=>.ok (.str ""))) (aZ (mR (ye (ag (g2 (fR (ag (kI 1) (ag (kI 2) (ag (kI 3) (ag (kI 6) (ag (kI 1) (ag (kI 4) aV)))))) .list) (iV 3 br (ag (rS 0) (ag (rS 1) (ag (kI 6) aV)))) bL) aV)) (bJ 3) (iF 2 (g2 (rB 2) (g2 (fun _=>.ok (.str "abcdefghijklmnopqrstuvwxyz")) (iV 3 br (ag (rS 0) (ag (g2 (g2 (rB 1) (kI 1) eK) (rB 3) eK) (ag (kI 26) aV)))) bL) eK))) (gf (rS 2))))
def jB:List D->R D:=iL 4 nK
def lV:ay->R Fl:=(aZ (gj 3 (fun _=>.ok (.dict []))) (aZ (mR (ye (ag (iV 3 br (ag (rS 0) (ag (rS 1) (ag (g2 (rB 2) (kI 1) eK) aV)))) aV)) (bJ 4) (nG 3 (iV 2 jB (ag (rS 0) (ag (g2 (g2 (rB 1) (kI 1) eK) (g2 (kI 8) (rB 4) uQ) eK) aV))) (kB true))) (gf (cu (ag (cu (ag (cu (ag (rB 3) aV) (jr f_)) aV) (jr pO)) aV) (jr iU)))))
def lW:List D->R D:=iL 5 lV
def nL:ay->R Fl:=(gf (cu (ag (fJ 2 [0,1,3] (D1 (ag (rS 2) aV)) (i7 (g2 (iV 3 br (ag (rS 2) (ag (g2 (rB 3) (rB 0) eK) (ag (kI 12) aV)))) (rB 4) CW)) (rS 1)) aV) (jr iU)))
def nM:List D->R D:=iL 4 nL
def nN:ay->R Fl:=(aZ (iF 4 (g2 (rB 2) (iV 3 br (ag (rS 0) (ag (g2 (rB 1) (kI 10) eK) (ag (cu (ag (rB 2) aV) (jr oS)) aV)))) bL)) (aZ (iF 5 (g2 (rB 2) (iV 3 br (ag (rS 0) (ag (g2 (rB 1) (kI 11) eK) (ag (cu (ag (rB 2) aV) (jr oS)) aV)))) bL)) (aZ (iF 6 (g2 (rB 2) (iV 3 br (ag (rS 0) (ag (g2 (rB 1) (kI 12) eK) (ag (cu (ag (rB 2) aV) (jr oS)) aV)))) bL)) (aZ (iF 7 (OH (fR (ag (rS 4) (ag (rS 5) aV)) .list) Py (OG (g2 (kI 1) (g2 (iV 3 br (ag (rS 0) (ag (g2 (rB 1) (kI 13) eK) (ag (kI 3) aV)))) (kI 2) Is) eK)))) (aZ (gj 8 (fJ 1 [7,0,1] (jh (fR (ag (rS 6) aV) .list)) (CS (i7 (g2 (rB 0) (rB 1) (yc true))) (i7 (g2 (iV 3 br (ag (rS 2) (ag (g2 (rB 3) (kI 14) eK) (ag (kI 4) aV)))) (kI 0) (qT false)))) (rS 0))) (aZ (gj 9 (fJ 1 [6,0,1] (jh (fR (ag (rS 4) aV) .list)) (CS (i7 (g2 (rB 0) (rB 1) (qT true))) (i7 (g2 (iV 3 br (ag (rS 2) (ag (g2 (rB 3) (kI 15) eK) (ag (kI 3) aV)))) (kI 0) (qT false)))) (rS 0))) (aZ (PB 8 (PB 9 (gj 10 (fJ 1 [] (jh (fR (ag (rS 7) (ag (rS 8) (ag (fR (ag (rS 6) aV) .list) (ag (rS 9) aV)))) .tuple)) kT (cu (ag (kZ (u5 (rB 0))) aV) (jr iU)))))) (gf (fR (ag (rS 3) (ag (g2 (rB 10) (kI 0) bL) (ag (g2 (rB 10) (kI 1) bL) (ag (g2 (rB 10) (kI 2) bL) (ag (g2 (rB 10) (kI 3) bL) (ag (iV 3 br (ag (rS 0) (ag (rS 1) (ag (kI 5) aV)))) aV)))))) .tuple)))))))))
def nO:List D->R D:=iL 11 nN
def iw:ay->R Fl:=(aZ (gz (CS (i7 (g2 (rB 2) (fR aV .tuple) (qT true))) (i7 (g2 (iV 3 br (ag (rS 0) (ag (kI 97) (ag (kI 2) aV)))) (kI 0) (qT false)))) (gf (iV 4 nO (ag (rS 0) (ag (rS 1) (ag (rS 2) (ag (rS 3) aV)))))) (fun ρ=>.ok (.nx ρ))) (aZ (LW 4) (aZ (mR (D1 (ag (rS 2) aV)) (nD 2 (de (bJ 5) (de (bJ 6) oV))) (aZ (iF 7 (iV 3 br (ag (rS 0) (ag (g2 (g2 (rB 1) (kI 10) eK) (rB 5) eK) (ag (kI 8) aV))))) (aZ (gz (i7 (g2 (rB 7) (kI 3) CW)) (mS 4 (g2 (fR (ag (kI 0) (ag (kI 0) (ag (kI 1) aV))) .list) (rB 7) bL) (rS 6)) (fun ρ=>.ok (.nx ρ))) (aZ (iF 7 (iV 3 br (ag (rS 0) (ag (g2 (g2 (rB 1) (kI 20) eK) (rB 5) eK) (ag (kI 8) aV))))) (gz (i7 (g2 (rB 7) (kI 4) CW)) (mS 4 (g2 (fR (ag (kI 2) (ag (kI 2) (ag (kI 3) (ag (kI 3) aV)))) .list) (rB 7) bL) (rS 6)) (fun ρ=>.ok (.nx ρ))))))) (aZ (fun ρ=>(gj 8 (fJ 1 [] (jh (rB 4)) kT (cu (ag (rB 0) aV) (jr iU)))) (d_ ρ)) (gf (fR (ag (rS 3) (ag (g2 (rB 8) (kI 0) bL) (ag (g2 (rB 8) (kI 1) bL) (ag (g2 (rB 8) (kI 2) bL) (ag (g2 (rB 8) (kI 3) bL) (ag (iV 3 br (ag (rS 0) (ag (rS 1) (ag (kI 5) aV)))) aV)))))) .tuple))))))
def iy:List D->R D:=iL 9 iw
def l5:ay->R Fl:=(aZ (iF 4 (iV 3 lW (ag (rS 0) (ag (rS 1) (ag (rS 2) aV))))) (aZ (gj 5 (fun _=>.ok (.dict []))) (aZ (mR (ye (ag (iV 3 br (ag (rS 0) (ag (g2 (rB 1) (kI 60) eK) (ag (g2 (rB 3) (kI 1) eK) aV)))) aV)) (bJ 6) (aZ (iF 7 (iV 2 jB (ag (rS 0) (ag (g2 (g2 (rB 1) (kI 70) eK) (g2 (kI 40) (rB 6) uQ) eK) aV)))) (nG 5 (rS 7) (iV 4 iy (ag (rS 0) (ag (g2 (g2 (rB 1) (kI 80) eK) (g2 (kI 40) (rB 6) uQ) eK) (ag (rS 4) (ag (rS 7) aV)))))))) (aZ (iF 8 (cu (ag (rB 5) aV) (jr f_))) (aZ (iF 9 (iV 3 br (ag (rS 0) (ag (g2 (rB 1) (kI 61) eK) (ag (g2 (cu (ag (rB 8) aV) (jr oS)) (kI 1) eK) aV))))) (gf (fR (ag (rS 4) (ag (cu (ag (fJ 1 [5] (jh (g2 (OH (rB 8) (OG (rS 9)) Py) (OH (rB 8) Py (OG (rS 9))) eK)) kT (g2 (rB 1) (rB 0) bL)) aV) (jr iU)) aV)) .tuple)))))))
def lc:List D->R D:=iL 10 l5
def lf:ay->R Fl:=(aZ (gj 3 (fR aV .list)) (aZ (gj 4 (fR aV .list)) (aZ (mR (D1 (ag (rS 2) aV)) (nD 2 (de (bJ 5) (de (bJ 6) oV))) (aZ (iF 7 (iV 3 br (ag (rS 0) (ag (g2 (rB 1) (rB 5) eK) (ag (kI 8) aV))))) (gz (i7 (g2 (rB 7) (kI 2) CW)) (uS 3 (rS 6)) (gz (i7 (g2 (rB 7) (kI 2) (qT false))) (uS 4 (rS 6)) (fun ρ=>.ok (.nx ρ)))))) (gf (fR (ag (cu (ag (rB 3) aV) (jr iU)) (ag (cu (ag (rB 4) aV) (jr iU)) aV)) .tuple)))))
def r6:List D->R D:=iL 8 lf
def nP:ay->R Fl:=(aZ (iF 3 (iV 4 lc (ag (rS 0) (ag (kI 100) (ag (rS 1) (ag (rS 2) aV)))))) (aZ (iF 4 (iV 4 nM (ag (rS 0) (ag (kI 20) (ag (g2 (rB 3) (kI 0) bL) (ag (g2 (fR (ag (kI 2) (ag (kI 4) aV)) .list) (iV 3 br (ag (rS 0) (ag (kI 97) (ag (kI 2) aV)))) bL) aV)))))) (gf (fR (ag (rS 3) (ag (rS 4) (ag (iV 3 r6 (ag (rS 0) (ag (kI 30) (ag (g2 (rB 3) (kI 0) bL) aV)))) aV))) .tuple))))
def iX:List D->R D:=iL 5 nP
def EC:ay->R Fl:=(aZ (xz (iV 3 iX (ag (rS 0) (ag (kI 6) (ag (kI 6) aV)))) (nD 3 (de (bJ 1) (de (bJ 2) (de (bJ 3) oV))))) (aZ (gj 4 (fR (ag (cu (ag (rB 2) aV) (jr f_)) aV) .list)) (aZ (gL (i7 (kB true)) (aZ (gj 5 (fR aV .list)) (aZ (oX 4 (bJ 6) (u7 5 (rS 6))) (aZ (gj 7 (fun _=>.ok (.dict []))) (aZ (mR (jh (g2 (rB 1) (kI 1) bL)) (bJ 8) (gz (i7 (cu (ag (fJ 1 [5] (jh (g2 (rB 8) (kI 1) bL)) kT (g2 (rB 0) (rB 1) (yc false))) aV) (jr (gd fun bs=>bs.all id)))) (mR (jh (g2 (rB 8) (kI 3) bL)) (bJ 9) (gz (i7 (g2 (rB 9) (rB 5) (yc true))) (nG 7 (rS 9) (kB true)) (fun ρ=>.ok (.nx ρ)))) (fun ρ=>.ok (.nx ρ)))) (aZ (gz (i7 (g2 (rB 7) (fun _=>.ok (.dict [])) KH)) (fun ρ=>.ok (.bk ρ)) (fun ρ=>.ok (.nx ρ))) (uS 4 (cu (ag (rB 7) aV) (jr f_)))))))) 100000) (aZ (gj 10 (fR aV .list)) (aZ (PB 4 (mR (Eg (ag (rS 4) aV)) (nD 2 (de (bJ 11) (de (bJ 6) oV))) (u7 10 (fJ 1 [11] (jh (rB 6)) kT (fR (ag (rS 0) (ag (rS 1) aV)) .tuple))))) (gf (g2 (iV 2 mZ (ag (rS 1) (ag (rS 2) aV))) (cu (ag (rB 10) aV) (jr lP)) (qT false))))))))
def F_law:List D->R D:=iL 12 EC
end
end Z
section
set_option hygiene false
namespace Z
open PySem L2 J
local macro_rules | `(tactic| walk_at "zz") => `(tactic| simp only [Q_, OY, R0, R1, AX, sJ, AY, QH, IK, IL, N5, QI, E4, AZ, E5, A_, B0, B4, IM, IN, IP, E6, IQ, E7, QK, N7, N8, IR, N9, IS, Na, QN, IT, Nb, IU, E8, IV, E9, Ea, IW, IX, IY, J0, B5, B6, Nf, J4, Eb, J5, QR, Nh, Ni, J6, Nj, J7, J8, J9, Nk, Nl, Ja, QV, Jb, Jc, Nm, No, Jd, OT, Je, Np, Nq, Jf, Ec, Ed, Nu, yg, yh, yi, Jg, QX, Ji, Jj, Jk, Jl, Jm, Jn, yj, yk, zC, eK, uQ, FG, Is, CU, CW, MT, Px, FH, oS, az, dQ, bp, dZ, au, v9, kH, Fa, Fb, tf, tj, Nat.reduceSub, Nat.reduceAdd, L8, L9, Nat.sub_self, if_true, if_false, ite_true, ite_false, ba, decide_true, decide_false, cond_true, cond_false, hZ, iz, am, ck, Cr, Int.reduceLE, Int.reduceAdd, Int.reduceMul, Nat.reduceLT, Int.reduceNeg, reduceIte])
local macro_rules | `(tactic| walk_at "yy") => `(tactic| simp only [Q_, OY, R0, R1, AX, sJ, AY, N5, QI, E4, AZ, E5, A_, B0, B4, IM, IN, IP, E6, IQ, E7, QK, N7, N8, IR, N9, IS, Na, QN, IT, Nb, IU, E8, IV, E9, Ea, IW, IX, IY, J0, B5, B6, Nf, J4, Eb, J5, QR, Nh, Ni, J6, Nj, J7, J8, J9, Nk, Nl, Ja, QV, Jb, Jc, Nm, No, Jd, OT, Je, Np, Nq, Jf, Ec, Ed, Nu, yg, yh, yi, Jg, QX, Ji, Jj, Jk, Jl, Jm, Jn, yj, yk, zC, eK, oS, az, dQ, bp, dZ, au, v9, kH, Fa, Fb, tf, tj, Nat.reduceSub, Nat.reduceAdd, L8, L9, Nat.sub_self, if_true, if_false, ite_true, ite_false, ba, decide_true, decide_false, cond_true, cond_false, hZ, iz, am, ck, Cr, Int.reduceLE, Int.reduceAdd, Int.reduceMul, Nat.reduceLT, Int.reduceNeg, reduceIte])
theorem fe {n:Nat}{g:ay->R Fl}{ds:List D}{d:D} (h:g (dh n ds)=.ok (.rt d)):iL n g ds=.ok d:=by unfold iL;rw [h]
def ED (ns:List Int) (k:Int):Int:=if k<ns.length then ns.getD k.toNat 0 else if ns=[] then 0 else ns.getD (k % ns.length).toNat 0*31+k
theorem JX (ns:List Int):dO (ns.map .int)=true:=by
 induction ns with
 |nil=>rfl
 |cons x r ih=>simp [dO,fj,ih]
theorem Mb (ns:List Int):b9 (.list (ns.map .int)) (.list [])=decide (ns=[]):=by
 cases ns with
 |nil=>rfl
 |cons x r=>simp [b9,mB]
theorem eq_nil (ns:List Int):qT false (.list (ns.map .int)) (.list [])=.ok (.bool (decide (ns=[]))):=by
 unfold qT
 have h1:(j9 (ns.map .int)).canLay0=true:=by simp only [fj];exact JX ns
 have h2:(j9 []).canLay0=true:=rfl
 have h3:min (j9 (ns.map .int)).depth (j9 []).depth<=60:=bM (vy _ _) (by decide)
 rw [h1,h2,decide_eq_true h3,Mb]
 rfl
theorem Pe (ns:List Int) (k:Int) (h0:0<=k) (h1:k<ns.length):C9 (ns.map fk) k=some (.int (ns.getD k.toNat 0)):=by
 have hk:k.toNat<ns.length:=by omega
 have:=pI (xs:=ns.map fk) (j:=k.toNat) (v:=.int (ns.getD k.toNat 0)) (by rw [aW,bq hk];simp [hk])
 rwa [dW h0] at this
theorem JY (ns:List Int) (k:Int) (h0:0<=k) (h1:k<ns.length):bL (.list (ns.map .int)) (.int k)=.ok (.int (ns.getD k.toNat 0)):=by
 have e:∀ xs k,bL (.list xs) k=CZ (.list xs) k:=fun _ _=>rfl
 rw [e]
 unfold CZ
 simp only [Pe ns k h0 h1]
theorem EE {i j:Int} (h1:-(2 ^ 64)<j) (h2:j<2 ^ 64):y8 i j=true:=by
 unfold y8
 simp only [oC,aT,decide_eq_true_eq]
 exact .inr ⟨h1,h2⟩
theorem pZ {i j:Int} (h1:-(2 ^ 64)<i) (h2:i<2 ^ 64):y8 i j=true:=by
 unfold y8
 simp only [oC,aT,decide_eq_true_eq]
 exact .inl ⟨h1,h2⟩
theorem Mc (ns:List Int) (k:Int) (hk:0<=k):jM [.list (ns.map .int),.int k]=.ok (.int (ED ns k)):=by
 unfold jM
 refine fe ?_
 unfold jL dh ED
 walk_at "zz"
 by_cases h:k<ns.length
 ·simp only [h,decide_true,cond_true,if_true,JY ns k hk h,bind_ok]
  walk_at "zz"
 ·simp only [h,decide_false,cond_false,if_false]
  walk_at "zz"
  rw [eq_nil]
  walk_at "zz"
  by_cases h2:ns=[]
  ·simp only [h2,decide_true,cond_true,if_true]
   walk_at "zz"
  ·have hl:(0:Int)<ns.length:=by have:0<ns.length:=List.length_pos_iff.mpr h2;omega
   simp only [h2,decide_false,cond_false,if_false,hl,decide_true]
   walk_at "zz"
   simp only [h2,decide_false,cond_false,if_false,hl,decide_true,if_true]
   walk_at "zz"
   rw [JY ns _ (xn _ (by omega)) (tQ _ hl)]
   walk_at "zz"
   rw [EE (by decide) (by decide)]
   walk_at "zz"
def wu (ns:List Int) (k:Int):Int:=(ED ns k+7919*k+1)*48271 % 2147483647
def eU (ns:List Int) (k m:Int):Int:=(wu ns k*wu ns k+7*wu ns k+k) % 2147483629 % m
theorem fK (ns:List Int) (k m:Int) (h:0<m):0<=eU ns k m:=xn _ (by omega)
theorem gN (ns:List Int) (k m:Int) (h:0<m):eU ns k m<m:=tQ _ h
theorem fB (ns:List Int) (k m:Int) (hk:0<=k) (hm:0<m):br [.list (ns.map .int),.int k,.int m]=.ok (.int (eU ns k m)):=by
 have d0:0<=wu ns k:=xn _ (by decide)
 have d1:wu ns k<2147483647:=tQ _ (by decide)
 unfold br
 refine fe ?_
 unfold lU dh
 walk_at "zz"
 rw [Mc ns k hk]
 walk_at "zz"
 rw [pZ (by decide) (by decide)]
 walk_at "zz"
 rw [EE (by decide) (by decide)]
 walk_at "zz"
 rw [show (ED ns k+7919*k+1)*48271 % 2147483647=wu ns k from rfl,pZ (i:=wu ns k) (by omega) (by omega)]
 walk_at "zz"
 rw [pZ (i:=7) (by decide) (by decide)]
 walk_at "zz"
 rw [decide_eq_true hm]
 walk_at "zz"
 rfl
theorem o_ {α β:Type}{kt:D->ay->R ay}{gb:ay->R Fl} (c:α->D) (f:β->α->β) (P:List α->β->ay->Prop) (h:∀ x bA b ρ,P (x::bA) b ρ->∃ ρ1 ρ',kt (c x) ρ=.ok ρ1/\gb ρ1=.ok (.nx ρ')/\P bA (f b x) ρ') :
  ∀ (xs:List α) (b:β) (ρ:ay),P xs b ρ->∃ ρ',jb kt gb (xs.map c) ρ=.ok (.nx ρ')/\P [] (xs.foldl f b) ρ'
 |[],b,ρ,p=>⟨ρ,rfl,p⟩
 |x::r,b,ρ,p=>by
  obtain ⟨ρ1,ρ2,h1,h2,h3⟩:=h x r b ρ p
  obtain ⟨ρ3,h4,h5⟩:=o_ c f P h r (f b x) ρ2 h3
  refine ⟨ρ3,?_,h5⟩
  rw [az]
  unfold jb
  rw [h1]
  simp only [h2]
  exact h4
theorem EF {α β:Type}{kt:D->ay->R ay}{gb hh:ay->R Fl}{r:R Fl} (c:α->D) (f:β->α->β) (P:List α->β->ay->Prop) {xs:List α} (b:β) {ρ:ay}
  (h:∀ x bA b ρ,P (x::bA) b ρ->∃ ρ1 ρ',kt (c x) ρ=.ok ρ1/\gb ρ1=.ok (.nx ρ')/\P bA (f b x) ρ') (p0:P xs b ρ) (k:∀ ρ',P [] (xs.foldl f b) ρ'->hh ρ'=r):(jb kt gb (xs.map c) ρ).bind (LZ hh)=r:=by
 obtain ⟨ρ',e,p⟩:=o_ c f P h xs b ρ p0
 rw [e,bind_ok,sJ]
 exact k ρ' p
theorem zL (n:Nat) (h:n<=1000):D0 [.int (n:Int)]=.ok ((bY n).map fun (i:Nat)=>fk (i:Int)):=by
 have e:D0 [.int (n:Int)]=.ok (oW 0 (n:Int).toNat):=M0 (by omega) (by omega)
 rw [e]
 unfold oW
 rw [jx]
 exact congrArg R.ok (cb fun a _=>congrArg fk (Int.zero_add _))
def zM (x:Str):Bool:=decide (1<=x.cps.size)&&decide (x.cps.size<=6/\x.cps.size≠5)&&x.cps.toList.all fun c=>decide (97<=c)&&decide (c<=122)
def qE (ns:List Int) (k:Int):Nat:=[1,2,3,6,1,4].getD (eU ns k 6).toNat 0
def zN (ns:List Int) (k:Int) (i:Nat):Nat:=97+(eU ns (k+1+i) 26).toNat
def jW (ns:List Int) (k:Int):Str:=⟨((bY (qE ns k)).map (zN ns k)).toArray⟩
theorem EG (ns:List Int) (k:Int):1<=qE ns k/\(qE ns k<=6/\qE ns k≠5):=by
 have h0:=fK ns k 6 (by decide)
 have h1:=gN ns k 6 (by decide)
 unfold qE
 have:∀ j:_root_.Fin 6,1<=[1,2,3,6,1,4].getD j.val 0/\([1,2,3,6,1,4].getD j.val 0<=6/\[1,2,3,6,1,4].getD j.val 0≠5):=by decide
 exact this ⟨(eU ns k 6).toNat,by omega⟩
theorem Md (ns:List Int) (k:Int) (i:Nat):97<=zN ns k i/\zN ns k i<=122:=by
 have h0:=fK ns (k+1+i) 26 (by decide)
 have h1:=gN ns (k+1+i) 26 (by decide)
 unfold zN
 omega
theorem Bn (ns:List Int) (k:Int):zM (jW ns k)=true:=by
 have ⟨h1,h2⟩:=EG ns k
 unfold zM jW
 simp only [aH,au,mG,aT,decide_eq_true_eq,cY]
 refine ⟨⟨h1,h2⟩,fun c hc=>?_⟩
 obtain ⟨i,_,rfl⟩:=List.mem_map.mp hc
 exact Md ns k i
theorem JZ (j:Int) (h0:0<=j) (h1:j<26):bL (.str "abcdefghijklmnopqrstuvwxyz") (.int j)=.ok (.str ⟨#[97+j.toNat]⟩):=by
 have e:∀ x k,bL (.str x) k=CZ (.str x) k:=fun _ _=>rfl
 rw [e]
 unfold CZ
 have hc:("abcdefghijklmnopqrstuvwxyz" : Str).cps.toList=(bY 26).map (97 + ·):=by decide +kernel
 have hl:("abcdefghijklmnopqrstuvwxyz" : Str).length<=1000:=by decide +kernel
 have hj:j.toNat<26:=by omega
 have hx:=pI (xs:=(bY 26).map (97 + ·)) (j:=j.toNat) (v:=97+j.toNat) (by rw [aW,F6 hj];rfl)
 rw [dW h0] at hx
 simp only [hl,if_true,hc,hx]
theorem Me (j:Int) (h0:0<=j) (h1:j<6):bL (.list [.int 1,.int 2,.int 3,.int 6,.int 1,.int 4]) (.int j)=.ok (.int (([1,2,3,6,1,4].getD j.toNat 0:Nat):Int)):=by
 obtain ⟨n,rfl⟩:=Int.eq_ofNat_of_zero_le h0
 have hn:n<6:=by omega
 match n,hn with
 | 0,_=>rfl
 | 1,_=>rfl
 | 2,_=>rfl
 | 3,_=>rfl
 | 4,_=>rfl
 | 5,_=>rfl
theorem zO (l:List Nat):∀ (acc:Str),l.foldl (fun (a:Str) c=>a++⟨#[c]⟩) acc=⟨(acc.cps.toList++l).toArray⟩:=by
 induction l with
 |nil=>intro acc;simp
 |cons c r ih =>
  intro acc
  rw [oE,ih]
  show (⟨((acc.cps++#[c]).toList++r).toArray⟩:Str)=_
  simp
theorem G4:("" : Str).cps.toList=[]:=by decide +kernel
theorem EH (ns:List Int) (k:Int) (hk:0<=k):jB [.list (ns.map .int),.int k]=.ok (.str (jW ns k)):=by
 have h0:=fK ns k 6 (by decide)
 have h1:=gN ns k 6 (by decide)
 have ⟨w1,w2⟩:=EG ns k
 unfold jB
 refine fe ?_
 unfold nK dh
 walk_at "zz"
 rw [B7 (ds:=(bY (qE ns k)).map fun (i:Nat)=>fk i)]
 ·refine EF (fun (i:Nat)=>fk i) (fun (a:Str) i=>a++⟨#[zN ns k i]⟩) (fun bA a ρ=>a.length+bA.length<=900/\∃ z,ρ=[.shr (.list (ns.map .int)),.shr (.int k),.shr (.str a),z]) "" ?_ ⟨by rw [mG,show ("" : Str).length=0 by decide];omega,_,rfl⟩ ?_
  ·rintro i bA a ρ ⟨hl,z,rfl⟩
   simp only [bp] at hl
   refine ⟨_,[.shr (.list (ns.map .int)),.shr (.int k),.shr (.str (a++⟨#[zN ns k i]⟩)),.shr (.int i)],rfl,?_,?_,_,rfl⟩
   ·walk_at "zz"
    rw [fB ns _ 26 (by omega) (by decide)]
    walk_at "zz"
    rw [JZ _ (fK _ _ _ (by decide)) (gN _ _ _ (by decide))]
    walk_at "zz"
    have hz:a.length+(⟨#[97+(eU ns (k+1+i) 26).toNat]⟩:Str).length<=1000:=by
     show a.length+1<=1000
     omega
    rw [if_pos hz]
    walk_at "zz"
    rw [show 97+(eU ns (k+1+i) 26).toNat=zN ns k i from rfl]
   ·show (a.cps++#[_]).size+bA.length<=900
    rw [GH]
    show a.cps.size+1+bA.length<=900
    have:a.length=a.cps.size:=rfl
    omega
  ·rintro ρ' ⟨_,z,rfl⟩
   walk_at "zz"
   have:(bY (qE ns k)).foldl (fun (a:Str) i=>a++⟨#[zN ns k i]⟩) ""=jW ns k:=by
    have:=zO ((bY (qE ns k)).map (zN ns k)) ""
    rw [List.foldl_map] at this
    rw [this,G4]
    unfold jW
    rw [kH]
   rw [this]
 ·walk_at "zz"
  rw [fB ns k 6 hk (by decide)]
  walk_at "zz"
  have et:=Me (eU ns k 6) h0 h1
  have ew:[1,2,3,6,1,4].getD (eU ns k 6).toNat 0=qE ns k:=rfl
  rw [ew] at et
  rw [et]
  walk_at "zz"
  rw [zL (qE ns k) (by omega)]
def kw (l:List (Str×D)):List (D×D):=l.map fun p=>(.str p.1,p.2)
def sP (l:List (Str×D)) (x:Str) (d:D):List (Str×D):=if l.any (fun p=>decide (p.1=x)) then l.map (fun p=>if p.1=x then (p.1,d) else p) else l++[(x,d)]
theorem sQ (x y:Str):b9 (.str x) (.str y)=decide (x=y):=by
 show (x==y)=_
 rw [pE]
theorem Mf (l:List (Str×D)) (x:Str) (d:D):qX (kw l) (.str x) d=kw (sP l x d):=by
 unfold qX sP kw
 rw [List.any_map]
 have e:((fun kv:D×D=>b9 kv.1 (.str x))∘fun p:Str×D=>(aF p.1,p.2))=fun p=>decide (p.1=x):=by
  funext p
  exact sQ p.1 x
 rw [e]
 split
 ·rw [cc,cc]
  apply cb
  intro p _
  simp only [Function.comp,sQ]
  by_cases h:p.1=x
  ·simp [h]
  ·simp [h]
 ·simp
theorem wv (l:List (Str×D)):cp (kw l)=true:=by
 unfold cp kw
 rw [ur,cY]
 intro p _
 rfl
theorem Bo (l:List (Str×D)) (x:Str) (d:D):(sP l x d).length<=l.length+1:=by
 unfold sP
 split<;>simp
theorem yA (l:List (Str×D)) (x:Str) (d:D):(sP l x d).map (·.1)=if x∈l.map (·.1) then l.map (·.1) else l.map (·.1)++[x]:=by
 unfold sP
 have e:(l.any fun p=>decide (p.1=x))=decide (x∈l.map (·.1)):=by
  rw [wX]
  simp only [uZ,decide_eq_true_eq,iG]
 rw [e]
 by_cases h:x∈l.map (·.1)
 ·rw [decide_eq_true h,if_pos rfl,if_pos h,cc]
  apply cb
  intro p _
  by_cases hp:p.1=x<;>simp [hp]
 ·rw [decide_eq_false h,if_neg bj,if_neg h,cS]
  rfl
theorem J_ {Q:Str->D->Prop}{l:List (Str×D)}{x:Str}{d:D} (h:∀ p∈l,Q p.1 p.2) (hx:Q x d):∀ p∈sP l x d,Q p.1 p.2:=by
 unfold sP
 split
 ·intro p hp
  obtain ⟨p',hp',rfl⟩:=List.mem_map.mp hp
  by_cases e:p'.1=x
  ·rw [if_pos e];rw [e];exact hx
  ·rw [if_neg e];exact h p' hp'
 ·intro p hp
  rcases List.mem_append.mp hp with hp|hp
  ·exact h p hp
  ·rw [List.mem_singleton.mp hp];exact hx
theorem G5 {l:List Str}{x:Str} (h:l.Nodup):(if x∈l then l else l++[x]).Nodup:=by
 by_cases hx:x∈l
 ·rw [if_pos hx];exact h
 ·rw [if_neg hx];exact DR h hx
theorem NA {i:Nat}{gk g:ay->R D}{ρ:ay}{l:List (Str×D)}{x:Str}{d:D} (hi:ρ[i]?=some (Sl.own (.dict (kw l)))) (hg:g ρ=.ok d) (hk:gk ρ=.ok (.str x)) (hl:l.length<1000):nG i gk g ρ=.ok (.nx (ρ.set i (.own (.dict (kw (sP l x d)))))):=by
 have hl':(kw l).length<1000:=by unfold kw;rw [au];exact hl
 have e:nG i gk g ρ=(g ρ).bind fun d=>(gk ρ).bind fun k=>match o7 k with
  |some _=>if (kw l).length<1000/\cp (kw l)=true then .ok (.nx (ρ.set i (.own (.dict (qX (kw l) k d))))) else .no
  |none=>.no:=by
  unfold nG
  simp only [hi]
  try rfl
 rw [e,hg,zC,hk,zC]
 simp only [o7,if_pos (kf hl' (wv l)),Mf]
theorem Bp (l:List (Str×D)):f_ (.dict (kw l))=.ok (.list ((l.map (·.1)).map .str)):=by
 have e:∀ kvs,f_ (.dict kvs)=if cp kvs=true then .ok (.list (kvs.map (·.1))) else .no:=fun _=>rfl
 rw [e,if_pos (wv l)]
 unfold kw
 rw [cc,cc]
 rfl
theorem sorted_strs (ss:List Str) (h:ss.length<64):pO (.list (ss.map .str))=.ok (.list ((j3 ss).map .str)):=by
 have e:∀ ds,pO (.list ds)=match eB ds with
  |some ss=>if ss.length<64 then .ok (.list ((j3 ss).map .str)) else .no
  |none=>.no:=fun _=>rfl
 rw [e,strsOf_map]
 simp only [if_pos h]
theorem iY (ds:List D):iU (.list ds)=.ok (.tuple ds):=id rfl
def zP (ns:List Int) (k:Int) (n:Nat):List Str:=(bY n).map fun (i:Nat)=>jW ns (k+1+8*(i:Int))
def zQ (ns:List Int) (k m:Int):List Str:=j3 (bW [] (zP ns k (eU ns k (m+1)).toNat))
structure Mh (fs:List Str) (n:Nat):Prop where
 ok:∀ x∈fs,zM x=true
 up:fs.Pairwise fun a b=>qk a b=true
 len:fs.length<=n
theorem K0 {α:Type}{a b:List α} (h:a.Perm b):a.length=b.length:=h.length_eq
theorem Di (ns:List Int) (k m:Int) (hm:0<=m):Mh (zQ ns k m) m.toNat:=by
 have h0:=fK ns k (m+1) (by omega)
 have h1:=gN ns k (m+1) (by omega)
 have hp:=ik (bW [] (zP ns k (eU ns k (m+1)).toNat))
 refine ⟨fun x hx=>?_,?_,?_⟩
 ·have hx:=hp.mem_iff.mp hx
  rw [kJ] at hx
  rcases hx with hx|hx
  ·cases hx
  ·obtain ⟨i,_,rfl⟩:=List.mem_map.mp hx
   exact Bn _ _
 ·exact y6 (si _) (hp.nodup_iff.mpr (jU _ [] ft))
 ·unfold zQ
  rw [K0 hp]
  have:=fH (zP ns k (eU ns k (m+1)).toNat) []
  unfold zP at this ⊢
  simp at this
  omega
theorem G6 (f:Nat->Str) (l:List Nat):∀ acc:List (Str×D),((l.foldl (fun (a:List (Str×D)) i=>sP a (f i) (.bool true)) acc).map (·.1))=bW (acc.map (·.1)) (l.map f):=by
 induction l with
 |nil=>intro acc;rfl
 |cons i r ih =>
  intro acc
  rw [oE,ih,az,yA]
  rfl
theorem K1 (ns:List Int) (k m:Int) (hk:0<=k) (hm:0<=m) (hm2:m<=20):lW [.list (ns.map .int),.int k,.int m]=.ok (.tuple ((zQ ns k m).map .str)):=by
 have h0:=fK ns k (m+1) (by omega)
 have h1:=gN ns k (m+1) (by omega)
 unfold lW
 refine fe ?_
 unfold lV dh
 walk_at "zz"
 rw [B7 (ds:=(bY (eU ns k (m+1)).toNat).map fun (i:Nat)=>fk i)]
 ·refine EF (fun (i:Nat)=>fk i) (fun (a:List (Str×D)) i=>sP a (jW ns (k+1+8*(i:Int))) (.bool true)) (fun bA a ρ=>a.length+bA.length<=60/\∃ z,ρ=[.shr (.list (ns.map .int)),.shr (.int k),.shr (.int m),.own (.dict (kw a)),z]) [] ?_ ⟨by simp;omega,_,rfl⟩ ?_
  ·rintro i bA a ρ ⟨hl,z,rfl⟩
   simp only [bp] at hl
   refine ⟨_,[.shr (.list (ns.map .int)),.shr (.int k),.shr (.int m),.own (.dict (kw (sP a (jW ns (k+1+8*(i:Int))) (.bool true)))),.shr (.int i)],rfl,?_,?_,_,rfl⟩
   ·refine (NA (l:=a) (x:=jW ns (k+1+8*(i:Int))) (d:=.bool true) rfl rfl ?_ (by omega)).trans rfl
    walk_at "zz"
    rw [pZ (by decide) (by decide)]
    walk_at "zz"
    rw [EH ns _ (by omega)]
   ·have:=Bo a (jW ns (k+1+8*(i:Int))) (.bool true)
    omega
  ·rintro ρ' ⟨hl,z,rfl⟩
   simp only [dZ] at hl
   walk_at "zz"
   rw [Bp]
   walk_at "zz"
   have ek:=G6 (fun i=>jW ns (k+1+8*(i:Int))) (bY (eU ns k (m+1)).toNat) []
   rw [ek,sorted_strs]
   ·walk_at "zz"
    rw [iY]
    walk_at "zz"
    rfl
   ·rw [<- ek,au];omega
 ·walk_at "zz"
  rw [fB ns k (m+1) hk (by omega)]
  walk_at "zz"
  have:=zL (eU ns k (m+1)).toNat (by omega)
  rw [dW h0] at this
  exact this
structure jC where
 name:Str
 needs:List Str
 bars:List Str
 makes:List Str
 ends:List Str
 price:Int
abbrev bN (xs:List Str):D:=.tuple (xs.map .str)
def fS (e:jC):D:=.tuple [.str e.name,bN e.needs,bN e.bars,bN e.makes,bN e.ends,.int e.price]
structure Br (fs xs:List Str):Prop where
 up:xs.Pairwise fun a b=>qk a b=true
 mem:∀ x∈xs,x∈fs
structure sR (fs:List Str) (e:jC):Prop where
 name:zM e.name=true
 needs:Br fs e.needs
 bars:Br fs e.bars
 makes:Br fs e.makes
 ends:Br fs e.ends
 nb:∀ x∈e.needs,x∉e.bars
 me:∀ x∈e.makes,x∉e.ends
 p0:0<=e.price
 p9:e.price<=9
def srt (xs:List Str):List Str:=j3 (bW [] xs)
theorem nQ {xs:List Str}{x:Str}:x∈srt xs↔x∈xs:=by
 unfold srt
 rw [(ik _).mem_iff,kJ]
 simp
theorem K2 (xs:List Str):(srt xs).Pairwise fun a b=>qk a b=true:=y6 (si _) ((ik _).nodup_iff.mpr (jU _ [] ft))
theorem vo {fs xs:List Str} (h:∀ x∈xs,x∈fs):Br fs (srt xs):=⟨K2 xs,fun x hx=>h x (nQ.mp hx)⟩
theorem zR (fs:List Str) (j:Int) (h0:0<=j) (h1:j<fs.length):∃ x,x∈fs/\bL (bN fs) (.int j)=.ok (.str x):=by
 have hj:j.toNat<fs.length:=by omega
 refine ⟨fs[j.toNat],jY hj,?_⟩
 have e:∀ xs k,bL (.tuple xs) k=CZ (.tuple xs) k:=fun _ _=>rfl
 rw [e]
 have hx:=pI (xs:=fs.map aF) (j:=j.toNat) (v:=.str fs[j.toNat]) (by rw [aW,bq hj];rfl)
 rw [dW h0] at hx
 unfold CZ
 simp only [hx]
theorem ww (x:Str):∀ ys:List Str,((ys.map aF).any fun y=>b9 y (.str x))=decide (x∈ys)
 |[]=>rfl
 |y::r=>by
  rw [az,eF,ww x r,sQ]
  by_cases h:y=x
  ·subst h;simp
  ·simp [h,cR h]
theorem wx (ys:List Str):(ys.map aF).all ko=true:=by
 rw [ur,cY];intro _ _;rfl
theorem zS (neg:Bool) (x:Str) (ys:List Str):yc neg (.str x) (.list (ys.map .str))=.ok (.bool (if neg then !decide (x∈ys) else decide (x∈ys))):=by
 have e:yc neg (.str x) (.list (ys.map .str))=if ko (.str x)&&(ys.map aF).all ko then .ok (.bool (if neg then !((ys.map aF).any fun y=>b9 y (.str x)) else (ys.map aF).any fun y=>b9 y (.str x))) else .no:=rfl
 rw [e,wx,ww]
 rfl
theorem K3 (neg:Bool) (x:Str) (ys:List Str):yc neg (.str x) (bN ys)=.ok (.bool (if neg then !decide (x∈ys) else decide (x∈ys))):=by
 have e:yc neg (.str x) (bN ys)=if ko (.str x)&&(ys.map aF).all ko then .ok (.bool (if neg then !((ys.map aF).any fun y=>b9 y (.str x)) else (ys.map aF).any fun y=>b9 y (.str x))) else .no:=rfl
 rw [e,wx,ww]
 rfl
theorem nR (neg:Bool) (a b:Int):qT neg (.int a) (.int b)=.ok (.bool (if neg then !decide (a=b) else decide (a=b))):=by
 have e:qT neg (.int a) (.int b)=.ok (.bool (if neg then !(a==b) else (a==b))):=rfl
 rw [e,pE]
theorem vp {x:Str} (h:zM x=true):(aF x).canLay0=true:=by
 unfold zM at h
 simp only [aT,cY,decide_eq_true_eq] at h
 show PyData.strOk x=true
 unfold PyData.strOk
 rw [<- uJ,cY]
 intro c hc
 have:=h.2 c hc
 exact decide_eq_true (by omega)
theorem Mi (neg:Bool) {x y:Str} (hx:zM x=true) (hy:zM y=true):qT neg (.str x) (.str y)=.ok (.bool (if neg then !decide (x=y) else decide (x=y))):=by
 unfold qT
 rw [vp hx,vp hy,sQ]
 rfl
theorem Dj (ss:List Str) (h:ss.length<60):wa (.list (ss.map .str))=.ok (bW [] ss):=by
 have e:∀ ds,wa (.list ds)=match eB ds with
  |some ss=>if ss.length<60 then .ok (bW [] ss) else .no
  |none=>.no:=fun _=>rfl
 rw [e,strsOf_map]
 simp only [if_pos h]
theorem Mj (g:ay->R D) (s:Sl) (ρ:ay):u5 g (s::ρ)=(g (s::ρ)).bind wa:=id rfl
def NB:List Str->R D:=fun ss=>if ss.length<64 then .ok (.list ((j3 ss).map .str)) else .no
theorem yB (g:ay->R (List Str)) (s:Sl) (ρ:ay):kZ g (s::ρ)=(g (s::ρ)).bind NB:=id rfl
theorem Bt (ss:List Str) (h:ss.length<64):NB ss=.ok (.list ((j3 ss).map .str)):=if_pos h
theorem G7 (ss:List Str) (h:ss.length<60) (ρ:ay):(cu (J.ag (kZ (u5 (rB 0))) J.aV) (jr iU)) (.shr (.list (ss.map .str))::ρ)=.ok (bN (srt ss)):=by
 walk_at "zz"
 rw [yB,Mj]
 walk_at "zz"
 rw [Dj ss h]
 walk_at "zz"
 rw [Bt _ (by have:=fH ss [];simp at this;omega)]
 walk_at "zz"
 rw [iY]
 rfl
theorem Bu {ρ:ay}{gt:ay->R Bool}{x:Str}{b:Bool}{s:Sl}{r:ay} (hρ:ρ=s::r) (h:gt (.shr (.str x)::r)=.ok b):eN (hV 1 ρ gt (rS 0)) [.str x]=.ok ((if b then [x] else []).map .str):=by
 subst hρ
 have e:=Ee (ρ:=s::r) (gt:=gt) (ge:=(rS 0)) (d:=.str x) (y:=.str x) (b:=b) h fun _=>rfl
 unfold eN
 rw [e,zC]
 unfold eN
 rw [zC]
 cases b<;>rfl
theorem Pf (p q r t:List Str) (hp:p.length<60) (hq:q.length<60) (hr:r.length<60) (ht:t.length<60):eN (hV 1 [Sl.no] kT (cu (J.ag (kZ (u5 (rB 0))) J.aV) (jr iU))) [.list (p.map .str),.list (q.map .str),.list (r.map .str),.list (t.map .str)]=.ok [bN (srt p),bN (srt q),bN (srt r),bN (srt t)] :=
 eO _ (fun ss:List Str=>j9 (ss.map .str)) (fun ss=>bN (srt ss)) [p,q,r,t] fun ss hs=>hW rfl (G7 ss (by simp at hs;rcases hs with h|h|h|h<;>(rw [h];assumption)) _)
theorem NC (a b c d:D):bL (.list [a,b,c,d]) (.int 0)=.ok a:=id rfl
theorem ND (a b c d:D):bL (.list [a,b,c,d]) (.int 1)=.ok b:=id rfl
theorem NE (a b c d:D):bL (.list [a,b,c,d]) (.int 2)=.ok c:=id rfl
theorem NF (a b c d:D):bL (.list [a,b,c,d]) (.int 3)=.ok d:=id rfl
theorem Mk (ns:List Int) (k:Int) (hk:0<=k) (fs:List Str) (hf:∀ x∈fs,zM x=true) (h0:0<fs.length) (nm:Str) (hn:zM nm=true) :
  ∃ e,nO [.list (ns.map .int),.int k,bN fs,.str nm]=.ok (fS e)/\sR fs e/\e.name=nm:=by
 have hl:(0:Int)<(fs.length:Int):=by omega
 obtain ⟨a,ha,ea⟩:=zR fs (eU ns (k+10) fs.length) (fK _ _ _ hl) (gN _ _ _ hl)
 obtain ⟨b,hb,eb⟩:=zR fs (eU ns (k+11) fs.length) (fK _ _ _ hl) (gN _ _ _ hl)
 obtain ⟨c,hc,ec⟩:=zR fs (eU ns (k+12) fs.length) (fK _ _ _ hl) (gN _ _ _ hl)
 have m13a:=fK ns (k+13) 3 (by decide)
 have m13b:=gN ns (k+13) 3 (by decide)
 obtain ⟨nd,hnd,hnl,end_⟩:∃ nd:List Str,(∀ x∈nd,x∈fs)/\nd.length<60/\FI (.list [.str a,.str b]) none (some (1+eU ns (k+13) 3 / 2))=.ok (.list (nd.map .str)):=by
  by_cases h2:eU ns (k+13) 3=2
  ·exact ⟨[a,b],by simp [ha,hb],by simp,by rw [h2];rfl⟩
  ·have:eU ns (k+13) 3 / 2=0:=by omega
   exact ⟨[a],by simp [ha],by simp,by rw [this];rfl⟩
 let bb:Bool:=!decide (c∈nd)&&decide (eU ns (k+14) 4=0)
 let be:Bool:=!decide (a=c)&&decide (eU ns (k+15) 3=0)
 have p0:=fK ns k 5 (by decide)
 have p1:=gN ns k 5 (by decide)
 refine ⟨⟨nm,srt nd,srt (if bb then [c] else []),srt [c],srt (if be then [a] else []),eU ns k 5⟩,?_,⟨hn,vo hnd,vo ?_,vo (by simp [hc]),vo ?_,fun x h1 h2=>?_,fun x h1 h2=>?_,p0,by show eU ns k 5<=9;omega⟩,rfl⟩
 ·unfold nO
  refine fe ?_
  unfold nN dh
  walk_at "zz"
  rw [fB ns _ _ (by omega) hl]
  walk_at "zz"
  rw [ea]
  walk_at "zz"
  rw [fB ns (k+11) _ (by omega) hl]
  walk_at "zz"
  rw [eb]
  walk_at "zz"
  rw [fB ns (k+12) _ (by omega) hl]
  walk_at "zz"
  rw [ec]
  walk_at "zz"
  rw [fB ns (k+13) 3 (by omega) (by decide)]
  walk_at "zz"
  simp only [Cr,decide_true,Ac,if_true]
  walk_at "zz"
  rw [end_]
  walk_at "zz"
  rw [Bu (b:=bb) rfl]
  ·walk_at "zz"
   rw [Bu (b:=be) rfl]
   ·walk_at "zz"
    simp only [PB]
    rw [Jo rfl,Jo rfl]
    walk_at "zz"
    have pk:=Pf nd (if bb then [c] else []) [c] (if be then [a] else []) hnl (by cases bb<;>simp) (by simp) (by cases be<;>simp)
    rw [show ([c].map aF)=[aF c] from rfl] at pk
    rw [pk]
    walk_at "zz"
    rw [NC]
    walk_at "zz"
    rw [ND]
    walk_at "zz"
    rw [NE]
    walk_at "zz"
    rw [NF]
    walk_at "zz"
    rw [fB ns k 5 hk (by decide)]
    walk_at "zz"
    rfl
   ·walk_at "zz"
    rw [Mi true (hf a ha) (hf c hc)]
    walk_at "zz"
    by_cases hac:a=c
    ·simp only [be,hac,decide_true,hZ,xL,if_true,cond_false]
    ·simp only [be,hac,decide_false,iz,Ad,if_true,cond_true]
     rw [fB ns (k+15) 3 (by omega) (by decide)]
     walk_at "zz"
     rw [nR]
     walk_at "zz"
  ·walk_at "zz"
   rw [zS]
   walk_at "zz"
   by_cases hcn:c∈nd
   ·simp only [bb,hcn,decide_true,hZ,xL,if_true,cond_false]
   ·simp only [bb,hcn,decide_false,iz,Ad,if_true,cond_true]
    rw [fB ns (k+14) 4 (by omega) (by decide)]
    walk_at "zz"
    rw [nR]
    walk_at "zz"
 ·intro x hx
  cases hbb:bb
  ·simp [hbb] at hx
  ·simp [hbb] at hx;rw [hx];exact hc
 ·intro x hx
  cases hbe:be
  ·simp [hbe] at hx
  ·simp [hbe] at hx;rw [hx];exact ha
 ·have h2:x∈(if bb then [c] else []):=nQ.mp h2
  cases hbb:bb
  ·simp [hbb] at h2
  ·simp [hbb] at h2
   subst h2
   have:(!decide (x∈nd))=true:=by
    have:(!decide (x∈nd)&&decide (eU ns (k+14) 4=0))=true:=hbb
    simp only [aT] at this
    exact this.1
   simp at this
   exact this (nQ.mp h1)
 ·cases hbe:be
  ·have h2:x∈(if be then [a] else []):=nQ.mp h2
   simp [hbe] at h2
  ·skip
   have h4:x∈[c]:=nQ.mp h1
   have h5:x∈(if be then [a] else []):=nQ.mp h2
   simp only [bZ] at h4
   simp only [hbe,if_true,bZ] at h5
   have:(!decide (a=c)&&decide (eU ns (k+15) 3=0))=true:=hbe
   simp only [aT] at this
   have h3:=this.1
   simp at h3
   exact h3 (h5.symm.trans h4)
theorem zT {i:Nat}{gi g:ay->R D}{ρ:ay}{dss:List (List D)}{ds:List D}{d:D}{j:Int} (hi:ρ[i]?=some (Sl.ow2 dss)) (hj:gi ρ=.ok (.int j)) (h0:0<=j) (hd:dss[j.toNat]?=some ds) (hg:g ρ=.ok d) (hl:ds.length<1000):mS i gi g ρ=.ok (.nx (ρ.set i (.ow2 (dss.set j.toNat (ds++[d]))))):=by
 unfold mS
 simp only [hi,hj,bind_ok,if_pos h0,hd,hg,if_pos hl]
def lX (n:Nat):List Str->List (Nat×Str)
 |[]=>[]
 |x::r=>(n,x)::lX (n+1) r
abbrev cI (p:Nat×Str):D:=.tuple [.int (p.1:Nat),.str p.2]
theorem vq:∀ (xs:List Str) (n:Nat),jV n (xs.map .str)=(lX n xs).map cI
 |[],_=>rfl
 |x::r,n=>by
  show ev [.int n,.str x]::jV (n+1) (r.map .str)=cI (n,x)::(lX (n+1) r).map cI
  rw [vq r (n+1)]
theorem p_:∀ (xs:List Str) (n:Nat),(lX n xs).map (·.2)=xs
 |[],_=>rfl
 |x::r,n=>by
  show x::(lX (n+1) r).map (·.2)=x::r
  rw [p_ r]
theorem Bv:∀ (fs:List Str),(∀ x∈fs,zM x=true)->dO (fs.map .str)=true
 |[],_=>rfl
 |x::r,h=>by
  have h1:=vp (h x al)
  have h2:=Bv r fun y hy=>h y (ai _ hy)
  simp only [az,dO,h1,h2,Ac]
theorem EI (fs:List Str) (hf:∀ x∈fs,zM x=true):qT true (bN fs) (.tuple [])=.ok (.bool (!decide (fs=[]))):=by
 unfold qT
 have h1:(bN fs).canLay0=true:=by simp only [fj];exact Bv fs hf
 have h2:(ev []).canLay0=true:=rfl
 have h3:min (bN fs).depth (ev []).depth<=60:=bM (vy _ _) (by decide)
 have h4:b9 (bN fs) (.tuple [])=decide (fs=[]):=by
  cases fs with
  |nil=>rfl
  |cons x r=>simp [b9,mB]
 rw [h1,h2,decide_eq_true h3,h4]
 rfl
structure mj (pre p q:List Str):Prop where
 sp:p.Sublist pre
 sq:q.Sublist pre
 d:∀ x∈p,x∉q
theorem mj.skip {pre p q:List Str} (h:mj pre p q) (x:Str):mj (pre++[x]) p q:=⟨h.sp.trans (j0 _ _),h.sq.trans (j0 _ _),h.d⟩
theorem mj.left {pre p q:List Str} (h:mj pre p q) (x:Str) (hx:x∉pre):mj (pre++[x]) (p++[x]) q:=⟨h.sp.append (en _),h.sq.trans (j0 _ _),fun y hy hq=>by
 rcases List.mem_append.mp hy with h1|h1
 ·exact h.d y h1 hq
 ·rw [List.mem_singleton.mp h1] at hq
  exact hx (h.sq.subset hq)⟩
theorem mj.right {pre p q:List Str} (h:mj pre p q) (x:Str) (hx:x∉pre):mj (pre++[x]) p (q++[x]):=⟨h.sp.trans (j0 _ _),h.sq.append (en _),fun y hy hq=>by
 rcases List.mem_append.mp hq with h1|h1
 ·exact h.d y hy h1
 ·rw [List.mem_singleton.mp h1] at hy
  exact hx (h.sp.subset hy)⟩
abbrev o4 (p q r t:List Str):Sl:=.ow2 [p.map .str,q.map .str,r.map .str,t.map .str]
theorem Rh (j:Int) (h0:0<=j) (h1:j<3):∃ b:Bool,bL (.list [.int 0,.int 0,.int 1]) (.int j)=.ok (.int (if b then 0 else 1)):=by
 have:j=0\/j=1\/j=2:=by omega
 rcases this with h|h|h<;>subst h
 ·exact ⟨true,rfl⟩
 ·exact ⟨true,rfl⟩
 ·exact ⟨false,rfl⟩
theorem Ri (j:Int) (h0:0<=j) (h1:j<4):∃ b:Bool,bL (.list [.int 2,.int 2,.int 3,.int 3]) (.int j)=.ok (.int (if b then 2 else 3)):=by
 have:j=0\/j=1\/j=2\/j=3:=by omega
 rcases this with h|h|h|h<;>subst h
 ·exact ⟨true,rfl⟩
 ·exact ⟨true,rfl⟩
 ·exact ⟨false,rfl⟩
 ·exact ⟨false,rfl⟩
theorem sS (p:List Str) (x:Str):(p++[x]).map aF=p.map .str++[.str x]:=by simp
theorem K4 {a b c d e f:Sl}{pre p q r t:List Str}{x:Str}{j:Int} (hp:mj pre p q) (hx:x∉pre) (hl:pre.length<900) (h0:0<=j) :
  ∃ p' q',mj (pre++[x]) p' q'/\gz (i7 (g2 (rB 7) (kI 3) CW)) (mS 4 (g2 (fR (J.ag (kI 0) (J.ag (kI 0) (J.ag (kI 1) J.aV))) .list) (rB 7) bL) (rS 6)) (fun ρ=>.ok (.nx ρ)) [a,b,c,d,o4 p q r t,e,.shr (.str x),.shr (.int j),f]=.ok (.nx [a,b,c,d,o4 p' q' r t,e,.shr (.str x),.shr (.int j),f]):=by
 by_cases h3:j<3
 ·obtain ⟨bo,e3⟩:=Rh j h0 h3
  have lp:p.length<1000:=by have:=hp.sp.length_le;omega
  have lq:q.length<1000:=by have:=hp.sq.length_le;omega
  cases bo
  ·refine ⟨p,q++[x],hp.right x hx,?_⟩
   walk_at "zz"
   rw [decide_eq_true h3]
   walk_at "zz"
   simp only [o4,sS]
   refine (zT (j:=1) (ds:=q.map .str) (d:=.str x) rfl ?_ (by decide) rfl rfl (by rw [au];exact lq)).trans rfl
   walk_at "zz"
   rw [e3]
   rfl
  ·refine ⟨p++[x],q,hp.left x hx,?_⟩
   walk_at "zz"
   rw [decide_eq_true h3]
   walk_at "zz"
   simp only [o4,sS]
   refine (zT (j:=0) (ds:=p.map .str) (d:=.str x) rfl ?_ (by decide) rfl rfl (by rw [au];exact lp)).trans rfl
   walk_at "zz"
   rw [e3]
   rfl
 ·refine ⟨p,q,hp.skip x,?_⟩
  walk_at "zz"
  rw [decide_eq_false h3]
  walk_at "zz"
theorem K5 {a b c d e f:Sl}{pre p q r t:List Str}{x:Str}{j:Int} (hp:mj pre r t) (hx:x∉pre) (hl:pre.length<900) (h0:0<=j) :
  ∃ r' t',mj (pre++[x]) r' t'/\gz (i7 (g2 (rB 7) (kI 4) CW)) (mS 4 (g2 (fR (J.ag (kI 2) (J.ag (kI 2) (J.ag (kI 3) (J.ag (kI 3) J.aV)))) .list) (rB 7) bL) (rS 6)) (fun ρ=>.ok (.nx ρ)) [a,b,c,d,o4 p q r t,e,.shr (.str x),.shr (.int j),f]=.ok (.nx [a,b,c,d,o4 p q r' t',e,.shr (.str x),.shr (.int j),f]):=by
 by_cases h3:j<4
 ·obtain ⟨bo,e3⟩:=Ri j h0 h3
  have lp:r.length<1000:=by have:=hp.sp.length_le;omega
  have lq:t.length<1000:=by have:=hp.sq.length_le;omega
  cases bo
  ·refine ⟨r,t++[x],hp.right x hx,?_⟩
   walk_at "zz"
   rw [decide_eq_true h3]
   walk_at "zz"
   simp only [o4,sS]
   refine (zT (j:=3) (ds:=t.map .str) (d:=.str x) rfl ?_ (by decide) rfl rfl (by rw [au];exact lq)).trans rfl
   walk_at "zz"
   rw [e3]
   rfl
  ·refine ⟨r++[x],t,hp.left x hx,?_⟩
   walk_at "zz"
   rw [decide_eq_true h3]
   walk_at "zz"
   simp only [o4,sS]
   refine (zT (j:=2) (ds:=r.map .str) (d:=.str x) rfl ?_ (by decide) rfl rfl (by rw [au];exact lp)).trans rfl
   walk_at "zz"
   rw [e3]
   rfl
 ·refine ⟨r,t,hp.skip x,?_⟩
  walk_at "zz"
  rw [decide_eq_false h3]
  walk_at "zz"
theorem Rj (i:Nat) (ρ:ay):LW i ρ=.ok (.nx ((clear2 ρ).set i (.ow2 [[],[],[],[]]))):=id rfl
theorem mj.sub {fs p q:List Str} (up:fs.Pairwise fun a b=>qk a b=true) (h:mj fs p q):Br fs p/\Br fs q:=⟨⟨up.sublist h.sp,fun x hx=>h.sp.subset hx⟩,⟨up.sublist h.sq,fun x hx=>h.sq.subset hx⟩⟩
theorem K6 (p:List Str) (ρ:ay):(cu (J.ag (rB 0) J.aV) (jr iU)) (.shr (.list (p.map .str))::ρ)=.ok (bN p):=by
 walk_at "zz"
 rw [iY]
theorem Rk (p q r t:List Str):eN (hV 1 [Sl.no] kT (cu (J.ag (rB 0) J.aV) (jr iU))) [.list (p.map .str),.list (q.map .str),.list (r.map .str),.list (t.map .str)]=.ok [bN p,bN q,bN r,bN t] :=
 eO _ (fun ss:List Str=>j9 (ss.map .str)) (fun ss=>bN ss) [p,q,r,t] fun ss hs=>hW rfl (K6 ss _)
theorem G8 (ns:List Int) (k:Int) (hk:0<=k) (fs:List Str) (hf:∀ x∈fs,zM x=true) (up:fs.Pairwise fun a b=>qk a b=true) (nd:fs.Nodup) (hl:fs.length<=6) (nm:Str) (hn:zM nm=true) :
  ∃ e,iy [.list (ns.map .int),.int k,bN fs,.str nm]=.ok (fS e)/\sR fs e/\e.name=nm:=by
 have p0:=fK ns k 5 (by decide)
 have p1:=gN ns k 5 (by decide)
 have go:∀ ρ:ay,ρ=[.shr (.list (ns.map .int)),.shr (.int k),.shr (bN fs),.shr (.str nm),.no,.no,.no,.no,.no]->(!decide (fs=[])&&decide (eU ns 97 2=0))=false->∃ e,iw ρ=.ok (.rt (fS e))/\sR fs e/\e.name=nm:=by
  rintro ρ rfl hc
  obtain ⟨ρ',h1,p,q,r,t,h2,h3,h4⟩:∃ ρ',(mR (D1 (J.ag (rS 2) J.aV)) (nD 2 (de (bJ 5) (de (bJ 6) oV))) (aZ (iF 7 (iV 3 br (J.ag (rS 0) (J.ag (g2 (g2 (rB 1) (kI 10) eK) (rB 5) eK) (J.ag (kI 8) J.aV))))) (aZ (gz (i7 (g2 (rB 7) (kI 3) CW)) (mS 4 (g2 (fR (J.ag (kI 0) (J.ag (kI 0) (J.ag (kI 1) J.aV))) .list) (rB 7) bL) (rS 6)) (fun ρ=>.ok (.nx ρ))) (aZ (iF 7 (iV 3 br (J.ag (rS 0) (J.ag (g2 (g2 (rB 1) (kI 20) eK) (rB 5) eK) (J.ag (kI 8) J.aV))))) (gz (i7 (g2 (rB 7) (kI 4) CW)) (mS 4 (g2 (fR (J.ag (kI 2) (J.ag (kI 2) (J.ag (kI 3) (J.ag (kI 3) J.aV)))) .list) (rB 7) bL) (rS 6)) (fun ρ=>.ok (.nx ρ))))))) [.shr (.list (ns.map .int)),.shr (.int k),.shr (bN fs),.shr (.str nm),o4 [] [] [] [],.no,.no,.no,.no]=.ok (.nx ρ')/\∃ p q r t,mj fs p q/\mj fs r t/\∃ z5 z6 z7,ρ'=[.shr (.list (ns.map .int)),.shr (.int k),.shr (bN fs),.shr (.str nm),o4 p q r t,z5,z6,z7,.no]:=by
   rw [B7 (ds:=(lX 0 fs).map cI)]
   ·have H:=o_ cI (fun (a:Unit) (_:Nat×Str)=>a) (fun bA _ ρ=>∃ pre,pre++bA.map (·.2)=fs/\∃ p q r t,mj pre p q/\mj pre r t/\∃ z5 z6 z7,ρ=[.shr (.list (ns.map .int)),.shr (.int k),.shr (bN fs),.shr (.str nm),o4 p q r t,z5,z6,z7,.no]) (kt:=nD 2 (de (bJ 5) (de (bJ 6) oV))) (gb:=(aZ (iF 7 (iV 3 br (J.ag (rS 0) (J.ag (g2 (g2 (rB 1) (kI 10) eK) (rB 5) eK) (J.ag (kI 8) J.aV))))) (aZ (gz (i7 (g2 (rB 7) (kI 3) CW)) (mS 4 (g2 (fR (J.ag (kI 0) (J.ag (kI 0) (J.ag (kI 1) J.aV))) .list) (rB 7) bL) (rS 6)) (fun ρ=>.ok (.nx ρ))) (aZ (iF 7 (iV 3 br (J.ag (rS 0) (J.ag (g2 (g2 (rB 1) (kI 20) eK) (rB 5) eK) (J.ag (kI 8) J.aV))))) (gz (i7 (g2 (rB 7) (kI 4) CW)) (mS 4 (g2 (fR (J.ag (kI 2) (J.ag (kI 2) (J.ag (kI 3) (J.ag (kI 3) J.aV)))) .list) (rB 7) bL) (rS 6)) (fun ρ=>.ok (.nx ρ)))))))
    obtain ⟨ρ',h1,pre,h2,p,q,r,t,h3,h4,h5⟩:=H (by
     rintro ⟨i,x⟩ bA _ ρ ⟨pre,h2,p,q,r,t,h3,h4,z5,z6,z7,rfl⟩
     have hx:x∉pre:=by
      rw [<- h2,az] at nd
      have:=(List.nodup_append.mp nd).2.2
      intro hx
      exact this x hx x al rfl
     have hpl:pre.length<900:=by
      have:=congrArg qt h2
      rw [aB] at this
      omega
     obtain ⟨p',q',k1,k2⟩:=K4 (a:=.shr (.list (ns.map .int))) (b:=.shr (.int k)) (c:=.shr (bN fs)) (d:=.shr (.str nm)) (e:=.shr (.int (i:Nat))) (f:=.no) (r:=r) (t:=t) (j:=eU ns (k+10+i) 8) h3 hx hpl (fK _ _ _ (by decide))
     obtain ⟨r',t',k3,k4⟩:=K5 (a:=.shr (.list (ns.map .int))) (b:=.shr (.int k)) (c:=.shr (bN fs)) (d:=.shr (.str nm)) (e:=.shr (.int (i:Nat))) (f:=.no) (p:=p') (q:=q') (j:=eU ns (k+20+i) 8) h4 hx hpl (fK _ _ _ (by decide))
     refine ⟨[.shr (.list (ns.map .int)),.shr (.int k),.shr (bN fs),.shr (.str nm),o4 p q r t,.shr (.int (i:Nat)),.shr (.str x),z7,.no],[.shr (.list (ns.map .int)),.shr (.int k),.shr (bN fs),.shr (.str nm),o4 p' q' r' t',.shr (.int (i:Nat)),.shr (.str x),.shr (.int (eU ns (k+20+i) 8)),.no],rfl,?_,pre++[x],?_,p',q',r',t',k1,k3,_,_,_,rfl⟩
     ·rw [AX,IM]
      walk_at "yy"
      rw [fB ns _ 8 (by omega) (by decide)]
      walk_at "yy"
      rw [k2]
      walk_at "yy"
      rw [fB ns _ 8 (by omega) (by decide)]
      walk_at "yy"
      rw [k4]
     ·rw [<- h2];simp) (lX 0 fs) () [.shr (.list (ns.map .int)),.shr (.int k),.shr (bN fs),.shr (.str nm),o4 [] [] [] [],.no,.no,.no,.no] ⟨[],by rw [p_];rfl,[],[],[],[],⟨en _,en _,fun _ h=>nomatch h⟩,⟨en _,en _,fun _ h=>nomatch h⟩,_,_,_,rfl⟩
    refine ⟨ρ',h1,p,q,r,t,?_,?_,h5⟩
    ·simp only [dQ,bC] at h2
     rw [<- h2];exact h3
    ·simp only [dQ,bC] at h2
     rw [<- h2];exact h4
   ·walk_at "zz"
    rw [vq]
  obtain ⟨s1,s2⟩:=h2.sub up
  obtain ⟨s3,s4⟩:=h3.sub up
  obtain ⟨z5,z6,z7,rfl⟩:=h4
  refine ⟨⟨nm,p,q,r,t,eU ns k 5⟩,?_,⟨hn,s1,s2,s3,s4,h2.d,h3.d,p0,by show eU ns k 5<=9;omega⟩,rfl⟩
  unfold iw
  have hand:CS (i7 (g2 (rB 2) (fR J.aV .tuple) (qT true))) (i7 (g2 (iV 3 br (J.ag (rS 0) (J.ag (kI 97) (J.ag (kI 2) J.aV)))) (kI 0) (qT false))) [.shr (.list (ns.map .int)),.shr (.int k),.shr (bN fs),.shr (.str nm),.no,.no,.no,.no,.no]=.ok false:=by
   walk_at "zz"
   rw [EI fs hf]
   walk_at "zz"
   by_cases h:fs=[]
   ·simp only [h,decide_true,hZ,cond_false]
   ·simp only [h,decide_false,iz,cond_true,Ad] at hc ⊢
    rw [fB ns 97 2 (by decide) (by decide)]
    walk_at "zz"
    rw [nR]
    walk_at "zz"
    rw [hc]
  rw [AX,QH,hand]
  simp only [zC,IK,Rj,clear2,az,dQ,tj,tf,zC,sJ,AX]
  rw [show Sl.ow2 [[],[],[],[]]=o4 [] [] [] [] from rfl,h1]
  walk_at "zz"
  rw [Rk]
  walk_at "zz"
  rw [NC]
  walk_at "zz"
  rw [ND]
  walk_at "zz"
  rw [NE]
  walk_at "zz"
  rw [NF]
  walk_at "zz"
  rw [fB ns k 5 hk (by decide)]
  walk_at "zz"
  rfl
 by_cases hc:(!decide (fs=[])&&decide (eU ns 97 2=0))=true
 ·have h0:0<fs.length:=by
   rcases fs with _|⟨x,r⟩
   ·simp at hc
   ·simp
  obtain ⟨e,h1,h2⟩:=Mk ns k hk fs hf h0 nm hn
  refine ⟨e,?_,h2⟩
  unfold iy
  refine fe ?_
  unfold iw dh
  walk_at "zz"
  rw [EI fs hf]
  walk_at "zz"
  simp only [aT] at hc
  rw [hc.1]
  walk_at "zz"
  rw [fB ns 97 2 (by decide) (by decide)]
  walk_at "zz"
  rw [nR]
  walk_at "zz"
  rw [hc.2]
  walk_at "zz"
  rw [h1]
  walk_at "zz"
 ·obtain ⟨e,h1,h2⟩:=go _ rfl (Bool.eq_false_iff.mpr hc)
  exact ⟨e,by unfold iy;exact fe h1,h2⟩
theorem K7 (ds:List D) (t:Nat) (h:t<=ds.length):xx ds (some (t:Int)) none=ds.drop t:=by
 unfold xx
 rw [HT.DN,HT.Aq,kS h,ju (by rw [uX];exact am _)]
theorem Pg (ds:List D) (t:Nat) (h:t<=ds.length):xx ds none (some (t:Int))=ds.take t:=by
 unfold xx
 rw [HT.DN,HT.Aq,kS h,List.drop_zero,Nat.sub_zero]
theorem Rl (ds:List D) (t:Nat) (h:t<=ds.length):FI (.list ds) (some (t:Int)) none=.ok (.list (ds.drop t)):=by
 rw [<- K7 ds t h];rfl
theorem Rm (ds:List D) (t:Nat) (h:t<=ds.length):FI (.list ds) none (some (t:Int))=.ok (.list (ds.take t)):=by
 rw [<- Pg ds t h];rfl
theorem Ph {l:List (Str×D)} (nd:(l.map (·.1)).Nodup) {p:Str×D} (hp:p∈l):bL (.dict (kw l)) (.str p.1)=.ok p.2:=by
 have e:∀ kvs x,bL (.dict kvs) (.str x)=if cp kvs=true then (match lN kvs (.str x) with
   |some d=>.ok d
   |none=>.no) else .no:=fun _ _=>rfl
 rw [e,if_pos (wv l)]
 have:lN (kw l) (.str p.1)=some p.2:=by
  unfold lN kw
  clear e
  induction l with
  |nil=>cases hp
  |cons q r ih =>
   rw [az] at nd
   obtain ⟨n1,n2⟩:=List.nodup_cons.mp nd
   rw [az,dY,sQ]
   rcases List.mem_cons.mp hp with h|h
   ·subst h;simp
   ·have:q.1≠p.1:=fun z=>n1 (z ▸ List.mem_map_of_mem h)
    rw [decide_eq_false this]
    exact ih n2 h
 rw [this]
structure iM (fs:List Str) (es:List jC):Prop where
 rise:Mh fs 6
 len:es.length<=6
 nd:(es.map (·.name)).Nodup
 ok:∀ e∈es,sR fs e
def dm (fs:List Str) (es:List jC):D:=.tuple [bN fs,.tuple (es.map fS)]
theorem Rn (fs:List Str):∀ (l:List (Str×D)),(∀ p∈l,∃ e,p.2=fS e/\sR fs e/\e.name=p.1)->∃ es:List jC,l.map (·.2)=es.map fS/\es.map (·.name)=l.map (·.1)/\∀ e∈es,sR fs e
 |[],_=>⟨[],rfl,rfl,fun _ h=>nomatch h⟩
 |p::r,h=>by
  obtain ⟨e,h1,h2,h3⟩:=h p al
  obtain ⟨es,k1,k2,k3⟩:=Rn fs r fun q hq=>h q (ai _ hq)
  refine ⟨e::es,by rw [az,az,h1,k1],by rw [az,az,h3,k2],fun x hx=>?_⟩
  rcases List.mem_cons.mp hx with z|z
  ·rw [z];exact h2
  ·exact k3 x z
theorem G9 {α:Type} (l:List α) (t:Nat):(l.drop t++l.take t).Perm l:=by
 refine List.perm_append_comm.trans ?_
 rw [fz]
theorem im {l:List Str} (h:l.Pairwise fun a b=>qk a b=true):l.Nodup:=h.imp fun hab z=>by
 rw [z,vO] at hab
 cases hab
theorem Ml (ns:List Int) (k:Int) (hk:0<=k) (m n:Int) (hm0:0<=m) (hm:m<=6) (hn0:0<=n) (hn:n<=6):∃ fs es,lc [.list (ns.map .int),.int k,.int m,.int n]=.ok (dm fs es)/\iM fs es/\fs.length<=m.toNat/\es.length<=n.toNat:=by
 have hr:=Di ns k m hm0
 generalize hfs:zQ ns k m=fs at hr
 have hrl:=hr.len
 have hr:Mh fs 6:=⟨hr.ok,hr.up,by have:=hr.len;omega⟩
 have nd:=im hr.up
 have m0:=fK ns (k+60) (n+1) (by omega)
 have m1:=gN ns (k+60) (n+1) (by omega)
 suffices H:∃ es,lc [.list (ns.map .int),.int k,.int m,.int n]=.ok (dm fs es)/\iM fs es/\es.length<=n.toNat from H.elim fun es h=>⟨fs,es,h.1,h.2.1,hrl,h.2.2⟩
 unfold lc
 suffices H:∃ es,l5 (dh 10 [.list (ns.map .int),.int k,.int m,.int n])=.ok (.rt (dm fs es))/\iM fs es/\es.length<=n.toNat from H.elim fun es h=>⟨es,fe h.1,h.2⟩
 have H:=o_ (fun (i:Nat)=>fk i) (fun (a:Unit) (_:Nat)=>a) (fun bA _ ρ=>∃ l,l.length+bA.length<=n.toNat/\(l.map (·.1)).Nodup/\(∀ p∈l,∃ e,p.2=fS e/\sR fs e/\e.name=p.1)/\∃ z6 z7,ρ=[.shr (.list (ns.map .int)),.shr (.int k),.shr (.int m),.shr (.int n),.shr (bN fs),.own (.dict (kw l)),z6,z7,.no,.no]) (kt:=bJ 6) (gb:=aZ (iF 7 (iV 2 jB (J.ag (rS 0) (J.ag (g2 (g2 (rB 1) (kI 70) eK) (g2 (kI 40) (rB 6) uQ) eK) J.aV)))) (nG 5 (rS 7) (iV 4 iy (J.ag (rS 0) (J.ag (g2 (g2 (rB 1) (kI 80) eK) (g2 (kI 40) (rB 6) uQ) eK) (J.ag (rS 4) (J.ag (rS 7) J.aV)))))))
 obtain ⟨ρ',h1,l,h2,h3,h4,z6,z7,h5⟩:=H (by
  rintro i bA _ ρ ⟨l,h2,h3,h4,z6,z7,rfl⟩
  simp only [bp] at h2
  have hw:=Bn ns (k+70+40*(i:Int))
  obtain ⟨e,e1,e2,e3⟩:=G8 ns (k+80+40*(i:Int)) (by omega) fs hr.ok hr.up nd hr.len (jW ns (k+70+40*(i:Int))) hw
  have pl:=Bo l (jW ns (k+70+40*(i:Int))) (fS e)
  refine ⟨[.shr (.list (ns.map .int)),.shr (.int k),.shr (.int m),.shr (.int n),.shr (bN fs),.own (.dict (kw l)),.shr (.int i),z7,.no,.no],[.shr (.list (ns.map .int)),.shr (.int k),.shr (.int m),.shr (.int n),.shr (bN fs),.own (.dict (kw (sP l (jW ns (k+70+40*(i:Int))) (fS e)))),.shr (.int i),.shr (.str (jW ns (k+70+40*(i:Int)))),.no,.no],rfl,?_,sP l (jW ns (k+70+40*(i:Int))) (fS e),by omega,?_,?_,_,_,rfl⟩
  ·walk_at "zz"
   rw [pZ (by decide) (by decide)]
   walk_at "zz"
   rw [EH ns _ (by omega)]
   walk_at "zz"
   refine (NA (l:=l) (x:=jW ns (k+70+40*(i:Int))) (d:=fS e) rfl ?_ rfl (by omega)).trans rfl
   walk_at "zz"
   rw [pZ (by decide) (by decide)]
   walk_at "zz"
   exact e1
  ·rw [yA];exact G5 h3
  ·exact J_ (Q:=fun x d=>∃ e,d=fS e/\sR fs e/\e.name=x) h4 ⟨e,rfl,e2,e3⟩) (bY (eU ns (k+60) (n+1)).toNat) () [.shr (.list (ns.map .int)),.shr (.int k),.shr (.int m),.shr (.int n),.shr (bN fs),.own (.dict (kw [])),.no,.no,.no,.no] ⟨[],by rw [mG];simp only [dZ];omega,ft,fun _ h=>(nomatch h),_,_,rfl⟩
 simp only [dZ,Co] at h2
 have t0:=fK ns (k+61) ((l.length:Int)+1) (by omega)
 have t1:=gN ns (k+61) ((l.length:Int)+1) (by omega)
 obtain ⟨t,ht⟩:∃ t:Nat,eU ns (k+61) ((l.length:Int)+1)=t:=⟨_,(dW t0).symm⟩
 have tl:t<=l.length:=by omega
 have pm:=G9 l t
 obtain ⟨es,k1,k2,k3⟩:=Rn fs (l.drop t++l.take t) fun p hp=>h4 p (pm.mem_iff.mp hp)
 have kl:es.length=l.length:=by
  have:=congrArg qt k1
  rw [au,au,pm.length_eq] at this
  exact this.symm
 refine ⟨es,?_,⟨hr,by omega,?_,k3⟩,by omega⟩
 ·unfold l5 dh
  walk_at "yy"
  rw [K1 ns k m hk hm0 (by omega),hfs]
  walk_at "yy"
  rw [B7 (ds:=(bY (eU ns (k+60) (n+1)).toNat).map fun (i:Nat)=>fk i)]
  ·rw [show PyData.dict []=PyData.dict (kw []) from rfl,h1,h5]
   walk_at "yy"
   rw [Bp]
   walk_at "yy"
   rw [fB ns _ _ (by omega) (by omega),ht]
   walk_at "yy"
   clear H h1
   rw [Rl _ t (by simpa using tl)]
   walk_at "yy"
   rw [Rm _ t (by simpa using tl)]
   walk_at "yy"
   have e1:(List.drop t (uq aF (uq (fun x=>x.fst) l))++List.take t (uq aF (uq (fun x=>x.fst) l)))=(l.drop t++l.take t).map fun p=>aF p.1:=by
    rw [cS,List.map_drop,List.map_take,cc];rfl
   rw [e1,if_pos (by rw [<- aB,e1,au,pm.length_eq];omega)]
   have pl:=pm.length_eq
   have px:∀ p∈l.drop t++l.take t,p∈l:=fun p hp=>pm.mem_iff.mp hp
   clear e1 pm k2
   generalize l.drop t++l.take t=L at pl px k1 ⊢
   walk_at "yy"
   rw [if_pos (by omega)]
   rw [eO _ (fun p:Str×D=>aF p.1) (fun p=>p.2) L fun p hp=>hW rfl (by
    walk_at "yy"
    exact Ph h3 (px p hp))]
   walk_at "yy"
   rw [iY]
   walk_at "yy"
   rw [k1]
   rfl
  ·walk_at "yy"
   rw [fB ns (k+60) (n+1) (by omega) (by omega)]
   walk_at "yy"
   have:=zL (eU ns (k+60) (n+1)).toNat (by omega)
   rw [dW m0] at this
   exact this
 ·rw [k2]
  exact ((pm.map _).nodup_iff).mpr h3
theorem yC {α:Type} (b:α->Bool):∀ xs:List α,lL (xs.map fun x=>cK (b x))=some (xs.map b)
 |[]=>rfl
 |x::r=>by
  show (lL (r.map fun x=>cK (b x))).map (b x::·)=_
  rw [yC b r]
  rfl
theorem lY {α:Type} (k:List Bool->Bool) (b:α->Bool) (xs:List α):gd k (.list (xs.map fun x=>cK (b x)))=.ok (.bool (k (xs.map b))):=by
 have e:∀ ds,gd k (.list ds)=match lL ds with
  |some bs=>.ok (.bool (k bs))
  |none=>.no:=fun _=>rfl
 rw [e,yC]
theorem K8 {s s':Sl}{ρ:ay}{gt:ay->R Bool}{ge:ay->R D}{d d' y:D} (h1:gt (.shr d::.shr d'::ρ)=.ok true) (h2:ge (.shr d::.shr d'::ρ)=.ok y):hV 2 (s::s'::ρ) gt ge (.tuple [d,d'])=.ok (some y):=by
 have e:hV 2 (s::s'::ρ) gt ge (.tuple [d,d'])=zy ((gt (.shr d::.shr d'::ρ)).bind fun b=>if b then (ge (.shr d::.shr d'::ρ)).bind fun y=>.ok (some y) else .ok none):=id rfl
 rw [e,h1,bind_ok,if_pos rfl,h2];rfl
theorem Pi (x:Str):nh (.str x)=true:=id rfl
theorem K9 (i:Int):nh (.int i)=true:=id rfl
theorem vt {α:Type} (c:α->D) (h:∀ x,nh (c x)=true):∀ xs:List α,noDs (xs.map c)=true
 |[]=>rfl
 |x::r=>by
  show (nh (c x)&&noDs (r.map c))=true
  rw [h x,vt c h r];rfl
theorem Ka (xs:List D):nh (.tuple xs)=noDs xs:=id rfl
theorem q8 (xs:List Str):nh (bN xs)=true:=by
 rw [Ka]
 exact vt _ (fun _=>rfl) xs
theorem EJ (e:jC):nh (fS e)=true:=by
 have:nh (fS e)=(true&&(nh (bN e.needs)&&(nh (bN e.bars)&&(nh (bN e.makes)&&(nh (bN e.ends)&&(true&&true)))))):=rfl
 rw [this,q8,q8,q8,q8];rfl
theorem NG (es:List jC):nh (.tuple (es.map fS))=true:=by
 rw [Ka]
 exact vt _ EJ es
theorem Mm (fs:List Str) (es:List jC):nh (dm fs es)=true:=by
 have:nh (dm fs es)=(nh (bN fs)&&(nh (.tuple (es.map fS))&&true)):=rfl
 rw [this,q8,NG];rfl
theorem Pj (x:Str):AN "str" (.str x)=true:=id rfl
theorem zU (x:List D):AN "tuple" (.tuple x)=true:=id rfl
theorem Pl (x:Int):AN "int" (.int x)=true:=id rfl
theorem Pm (x:Int):AN "bool" (.int x)=false:=id rfl
theorem Mn:∀ c:_root_.Fin 123,97<=c.val->(!qk ⟨#[c.val]⟩ "a")=true/\(!qk "z" ⟨#[c.val]⟩)=true:=by decide +kernel
theorem yD {x:Str} (h:zM x=true):mY [.str x]=.ok (.bool true):=by
 have hw:=h
 unfold zM at h
 simp only [aT,decide_eq_true_eq,cY] at h
 obtain ⟨⟨h1,h2⟩,h3⟩:=h
 have hl:x.length=x.cps.size:=rfl
 unfold mY
 refine fe ?_
 unfold pU dh
 walk_at "zz"
 rw [Pi,Pj]
 walk_at "zz"
 rw [if_pos (by omega)]
 walk_at "zz"
 rw [decide_eq_true (by omega)]
 walk_at "zz"
 rw [decide_eq_true (by omega)]
 walk_at "zz"
 unfold mf
 walk_at "zz"
 rw [if_pos (by rw [aL];omega)]
 rw [eO _ (fun c:Nat=>aF ⟨#[c]⟩) (fun _=>cK true) x.cps.toList fun c hc=>hW rfl (by
  obtain ⟨a1,a2⟩:=h3 c hc
  obtain ⟨b1,b2⟩:=Mn ⟨c,by omega⟩ a1
  walk_at "zz"
  simp only at b1 b2
  rw [b1]
  walk_at "zz"
  rw [b2])]
 walk_at "zz"
 rw [lY _ (fun _=>true)]
 walk_at "zz"
 simp
theorem Bw:∀ (xs ys:List Str),uR (xs.map .str) (ys.map .str)=(xs.zip ys).map fun p=>ev [.str p.1,.str p.2]
 |[],_=>rfl
 |_::_,[]=>rfl
 |x::r,y::r'=>by
  show ev [.str x,.str y]::uR (r.map .str) (r'.map .str)=_
  rw [Bw r r']
  rfl
theorem Kb:∀ {l:List Str},(l.Pairwise fun a b=>qk a b=true)->∀ p∈l.zip (l.drop 1),qk p.1 p.2=true
 |[],_,p,hp=>by cases hp
 |[_],_,p,hp=>by cases hp
 |a::b::r,h,p,hp=>by
  obtain ⟨h1,h2⟩:=List.pairwise_cons.mp h
  rcases List.mem_cons.mp hp with z|z
  ·rw [z];exact h1 b al
  ·exact Kb h2 p z
theorem Mo (xs:List Str):FI (bN xs) (some 1) none=.ok (bN (xs.drop 1)):=by
 have e:FI (bN xs) (some 1) none=.ok (.tuple (xx (xs.map .str) (some 1) none)):=rfl
 rw [e]
 cases xs with
 |nil=>rfl
 |cons x r =>
  rw [show (1:Int)=((1:Nat):Int) from rfl,K7 _ 1 (by simp)]
  rfl
theorem uz {xs:List Str} (hw:∀ x∈xs,zM x=true) (up:xs.Pairwise fun a b=>qk a b=true) (hl:xs.length<=6):fc [bN xs]=.ok (.bool true):=by
 unfold fc
 refine fe ?_
 unfold gM dh
 walk_at "zz"
 rw [q8,zU]
 walk_at "zz"
 rw [if_pos (by omega)]
 rw [eO _ (fun x:Str=>aF x) (fun _=>cK true) xs fun x hx=>hW rfl (by
  walk_at "zz"
  rw [yD (hw x hx)])]
 walk_at "zz"
 rw [lY _ (fun _=>true)]
 walk_at "zz"
 rw [show ((xs.map fun _=>true).all id)=true by simp]
 walk_at "zz"
 rw [Mo]
 walk_at "zz"
 rw [Bw]
 walk_at "zz"
 rw [if_pos (by simp;omega)]
 rw [eO _ (fun p:Str×Str=>ev [.str p.1,.str p.2]) (fun _=>cK true) (xs.zip (xs.drop 1)) fun p hp=>K8 rfl (by
  walk_at "zz"
  rw [Kb up p hp])]
 walk_at "zz"
 rw [lY _ (fun _=>true)]
 walk_at "zz"
 simp
theorem lg {fs xs:List Str} (hw:∀ x∈fs,zM x=true) (h:Br fs xs) (hl:xs.length<=6):j5 [bN fs,bN xs]=.ok (.bool true):=by
 unfold j5
 refine fe ?_
 unfold lQ dh
 walk_at "zz"
 rw [uz (fun x hx=>hw x (h.mem x hx)) h.up hl]
 walk_at "zz"
 rw [if_pos (by omega)]
 rw [eO _ (fun x:Str=>aF x) (fun _=>cK true) xs fun x hx=>hW rfl (by
  walk_at "zz"
  rw [K3,decide_eq_true (h.mem x hx)]
  rfl)]
 walk_at "zz"
 rw [lY _ (fun _=>true)]
 walk_at "zz"
 simp
theorem yE {xs ys:List Str} (h:∀ x∈xs,x∉ys) (hl:xs.length<=6):jn [bN xs,bN ys]=.ok (.bool true):=by
 unfold jn
 refine fe ?_
 unfold ku dh
 walk_at "zz"
 rw [if_pos (by omega)]
 rw [eO _ (fun x:Str=>aF x) (fun _=>cK false) xs fun x hx=>hW rfl (by
  walk_at "zz"
  rw [K3,decide_eq_false (h x hx)]
  rfl)]
 walk_at "zz"
 rw [lY _ (fun _=>false)]
 walk_at "zz"
 simp
theorem Dk {l i m:Int} (h0:l<=i) (h1:i<=m):nJ [.int i,.int l,.int m]=.ok (.bool true):=by
 unfold nJ
 refine fe ?_
 unfold nI dh
 walk_at "zz"
 rw [K9,Pl]
 walk_at "zz"
 rw [K9,Pm]
 walk_at "zz"
 rw [decide_eq_true h0]
 walk_at "zz"
 rw [decide_eq_true h1]
theorem ml:∀ (xs fs:List Str),xs.Nodup->(∀ x∈xs,x∈fs)->xs.length<=fs.length
 |[],_,_,_=>ck _
 |x::r,fs,nd,h=>by
  obtain ⟨n1,n2⟩:=List.nodup_cons.mp nd
  have hx:=h x al
  have:=ml r (fs.erase x) n2 fun y hy=>(List.mem_erase_of_ne fun (z:y=x)=>n1 (z ▸ hy)).mpr (h y (ai _ hy))
  rw [List.length_erase_of_mem hx] at this
  have:0<fs.length:=List.length_pos_of_mem hx
  rw [bp]
  omega
theorem kz {fs xs:List Str} (h:Br fs xs) (hl:fs.length<=6):xs.length<=6:=by
 exact bM (ml xs fs (im h.up) h.mem) hl
theorem SL (a b c d e f g:D):OU (nD 6 (de (bJ 2) (de (bJ 3) (de (bJ 4) (de (bJ 5) (de (bJ 6) (de (bJ 7) oV))))))) [Sl.shr a,Sl.shr (.tuple [b,c,d,e,f,g]),.no,.no,.no,.no,.no,.no] (.tuple [b,c,d,e,f,g])=.ok (.nx [Sl.shr a,Sl.shr (.tuple [b,c,d,e,f,g]),.shr b,.shr c,.shr d,.shr e,.shr f,.shr g]):=id rfl
theorem Bx {fs:List Str} (hr:Mh fs 6) {e:jC} (g:sR fs e):lS [bN fs,fS e]=.ok (.bool true):=by
 have l1:=kz g.needs hr.len
 have l2:=kz g.bars hr.len
 have l3:=kz g.makes hr.len
 have l4:=kz g.ends hr.len
 unfold lS
 refine fe ?_
 unfold lR dh
 walk_at "zz"
 rw [EJ]
 unfold fS
 walk_at "zz"
 rw [zU]
 walk_at "zz"
 rw [nR]
 walk_at "zz"
 rw [show decide (((6:Nat):Int)=6)=true from rfl]
 walk_at "zz"
 rw [SL]
 ·walk_at "zz"
  rw [yD g.name]
  walk_at "zz"
  rw [Dk g.p0 g.p9]
  walk_at "zz"
  have pk:=eO (hV 1 [Sl.no,Sl.shr (bN fs)] kT (iV 2 j5 (J.ag (rS 1) (J.ag (rS 0) J.aV)))) (fun x:List Str=>bN x) (fun _=>cK true) [e.needs,e.bars,e.makes,e.ends] fun x hx=>hW rfl (by
   walk_at "zz"
   simp only [aJ,aM,or_false] at hx
   rcases hx with z|z|z|z<;>rw [z]
   ·rw [lg hr.ok g.needs l1]
   ·rw [lg hr.ok g.bars l2]
   ·rw [lg hr.ok g.makes l3]
   ·rw [lg hr.ok g.ends l4])
  simp only [az,dQ] at pk
  rw [pk]
  walk_at "zz"
  rw [show gd (fun bs=>bs.all id) (.list [.bool true,.bool true,.bool true,.bool true])=.ok (.bool true) from rfl]
  walk_at "zz"
  rw [yE g.nb l1]
  walk_at "zz"
  rw [yE g.me l3]
  walk_at "zz"
theorem Kc (l:List Str) (nd:l.Nodup):(bW [] l).length=l.length:=by
 have h1:=ml (bW [] l) l (jU l [] ft) fun x hx=>((kJ l [] x).mp hx).elim (fun h=>nomatch h) id
 have h2:=ml l (bW [] l) nd fun x hx=>(kJ l [] x).mpr (.inr hx)
 omega
theorem Ga (es:List jC) (hl:es.length<=6) (nd:(es.map (·.name)).Nodup) (s:Sl) (ρ:ay) (h:(s::ρ)[2]?=some (.shr (.tuple (es.map fS)))):sI (u6 1 [] (jh (rB 2)) kT (g2 (rB 0) (kI 0) bL)) (s::ρ)=.ok (.int (es.length:Nat)):=by
 have hr:AI (s::ρ) 2=.ok (.tuple (es.map fS)):=by unfold AI;rw [h]
 unfold sI u6
 rw [OT,OY,hr]
 walk_at "zz"
 rw [if_pos (by omega)]
 rw [eO _ fS (fun e=>aF e.name) es fun e he=>hW rfl (by
  walk_at "zz"
  rfl)]
 walk_at "zz"
 have:(es.map fun e=>aF e.name)=(es.map (·.name)).map .str:=by rw [cc];rfl
 rw [this,strsOf_map]
 simp only [zC,Kc _ nd,au]
theorem SM (b c:D):OU (nD 2 (de (bJ 1) (de (bJ 2) oV))) [Sl.shr (.tuple [b,c]),.no,.no] (.tuple [b,c])=.ok (.nx [Sl.shr (.tuple [b,c]),.shr b,.shr c]):=id rfl
theorem Gb {fs:List Str}{es:List jC} (g:iM fs es):pW [dm fs es]=.ok (.bool true):=by
 have l1:=g.rise.len
 have l2:=g.len
 unfold pW
 refine fe ?_
 unfold pV dh
 walk_at "zz"
 rw [Mm]
 unfold dm
 walk_at "zz"
 rw [zU]
 walk_at "zz"
 rw [nR]
 walk_at "zz"
 rw [show decide (((2:Nat):Int)=2)=true from rfl]
 walk_at "zz"
 rw [SM]
 walk_at "zz"
 rw [uz g.rise.ok g.rise.up l1]
 walk_at "zz"
 rw [decide_eq_false (by omega)]
 walk_at "zz"
 rw [NG,zU]
 walk_at "zz"
 rw [decide_eq_false (by omega)]
 walk_at "zz"
 rw [if_pos (by omega)]
 rw [eO _ fS (fun _=>cK true) es fun e he=>hW rfl (by
  walk_at "zz"
  rw [Bx g.rise (g.ok e he)])]
 walk_at "zz"
 rw [lY _ (fun _=>true)]
 walk_at "zz"
 rw [show ((es.map fun _=>true).all id)=true by simp]
 walk_at "zz"
 rw [Ga es l2 g.nd _ _ rfl]
 walk_at "zz"
 rw [nR,decide_eq_true rfl]
 rfl
theorem Dl {fs:List Str}{es:List jC} (g:iM fs es):pY [dm fs es]=.ok (dm fs es):=by
 unfold pY
 refine fe ?_
 unfold pX dh
 walk_at "zz"
 rw [Gb g]
 walk_at "zz"
theorem Gc {α:Type} (c:α->D) (h:∀ x,b9 (c x) (c x)=true):∀ xs:List α,mB (xs.map c) (xs.map c)=true
 |[]=>by simp [mB]
 |x::r=>by simp [mB,h x,Gc c h r]
theorem By {α:Type} (c:α->D):∀ xs:List α,(∀ x∈xs,(c x).canLay0=true)->dO (xs.map c)=true
 |[],_=>rfl
 |x::r,h=>by
  have h1:=h x al
  have h2:=By c r fun y hy=>h y (ai _ hy)
  simp only [az,dO,h1,h2,Ac]
theorem yF {α:Type} (c:α->D) (n:Nat) (h:∀ x,(c x).depth<=n):∀ xs:List α,og (xs.map c)<=n
 |[]=>by simp [og]
 |x::r=>by
  simp only [az,og]
  exact Nat.max_le.mpr ⟨h x,yF c n h r⟩
theorem NH {i:Nat}{g:ay->R D}{ρ:ay}{ds:List D}{d:D} (hi:ρ[i]?=some (Sl.own (.list ds))) (hg:g ρ=.ok d) (hl:ds.length<1000):uS i g ρ=.ok (.nx (ρ.set i (.own (.list (ds++[d]))))):=by
 unfold uS
 simp only [hi,hg,bind_ok,if_pos hl]
theorem Ke {s s':Sl}{ρ:ay}{gt:ay->R Bool}{ge:ay->R D}{d d' y:D}{b:Bool} (h1:gt (.shr d::.shr d'::ρ)=.ok b) (h2:b=true->ge (.shr d::.shr d'::ρ)=.ok y):hV 2 (s::s'::ρ) gt ge (.tuple [d,d'])=.ok (if b then some y else none):=by
 have e:hV 2 (s::s'::ρ) gt ge (.tuple [d,d'])=zy ((gt (.shr d::.shr d'::ρ)).bind fun b=>if b then (ge (.shr d::.shr d'::ρ)).bind fun y=>.ok (some y) else .ok none):=id rfl
 rw [e,h1,bind_ok]
 cases b with
 |true=>rw [if_pos rfl,h2 rfl];rfl
 |false=>rfl
theorem yG:∀ (xs:List Str) (n:Nat),(lX n xs).length=xs.length
 |[],_=>rfl
 |x::r,n=>by
  show (lX (n+1) r).length+1=r.length+1
  rw [yG r]
theorem Mp (ns:List Int) (k:Int) (hk:0<=k) (fs:List Str) (hl:fs.length<=6) (m:Int):∃ ss:List Str,nM [.list (ns.map .int),.int k,bN fs,.int m]=.ok (bN ss)/\ss.Sublist fs:=by
 refine ⟨((lX 0 fs).filter fun q=>decide (eU ns (k+(q.1:Int)) 12<m)).map (·.2),?_,?_⟩
 ·unfold nM
  refine fe ?_
  unfold nL dh
  walk_at "zz"
  rw [vq]
  walk_at "zz"
  rw [if_pos (by rw [yG];omega)]
  rw [kr _ cI (fun q=>aF q.2) (fun q=>decide (eU ns (k+(q.1:Int)) 12<m)) (lX 0 fs) fun q hq=>Ke (by
   walk_at "zz"
   rw [fB ns _ 12 (by omega) (by decide)]
   walk_at "zz") fun _=>rfl]
  walk_at "zz"
  rw [iY]
  walk_at "zz"
  unfold bN
  rw [cc]
  rfl
 ·have:=(List.filter_sublist (l:=lX 0 fs) (p:=fun q=>decide (eU ns (k+(q.1:Int)) 12<m))).map (·.2)
  rw [p_] at this
  exact this
theorem Dm {fs xs:List Str} (up:fs.Pairwise fun a b=>qk a b=true) (h:xs.Sublist fs):Br fs xs:=⟨up.sublist h,fun x hx=>h.subset hx⟩
structure NI (fs m b:List Str):Prop where
 must:Br fs m
 bars:Br fs b
 mb:∀ x∈m,x∉b
abbrev wy (m b:List Str):D:=.tuple [bN m,bN b]
theorem EK (p:List Str) (x:Str):p.map aF++[aF x]=(p++[x]).map .str:=by simp
theorem Mq (ns:List Int) (k:Int) (hk:0<=k) (fs:List Str) (up:fs.Pairwise fun a b=>qk a b=true) (hl:fs.length<=6):∃ m b,r6 [.list (ns.map .int),.int k,bN fs]=.ok (wy m b)/\NI fs m b:=by
 have nd:=im up
 suffices H:∃ p q,lf (dh 8 [.list (ns.map .int),.int k,bN fs])=.ok (.rt (wy p q))/\mj fs p q by
  obtain ⟨p,q,h1,h2⟩:=H
  exact ⟨p,q,fe h1,Dm up h2.sp,Dm up h2.sq,h2.d⟩
 unfold lf dh
 walk_at "yy"
 rw [B7 (ds:=(lX 0 fs).map cI)]
 ·have H:=o_ cI (fun (a:Unit) (_:Nat×Str)=>a) (fun bA _ ρ=>∃ pre,pre++bA.map (·.2)=fs/\∃ p q,mj pre p q/\∃ z5 z6 z7,ρ=[.shr (.list (ns.map .int)),.shr (.int k),.shr (bN fs),.own (.list (p.map .str)),.own (.list (q.map .str)),z5,z6,z7]) (kt:=nD 2 (de (bJ 5) (de (bJ 6) oV))) (gb:=aZ (iF 7 (iV 3 br (J.ag (rS 0) (J.ag (g2 (rB 1) (rB 5) eK) (J.ag (kI 8) J.aV))))) (gz (i7 (g2 (rB 7) (kI 2) CW)) (uS 3 (rS 6)) (gz (i7 (g2 (rB 7) (kI 2) (qT false))) (uS 4 (rS 6)) (fun ρ=>.ok (.nx ρ)))))
  obtain ⟨ρ',h1,pre,h2,p,q,h3,z5,z6,z7,h4⟩:=H (by
   rintro ⟨i,x⟩ bA _ ρ ⟨pre,h2,p,q,h3,z5,z6,z7,rfl⟩
   have hx:x∉pre:=by
    rw [<- h2,az] at nd
    have:=(List.nodup_append.mp nd).2.2
    intro hx
    exact this x hx x al rfl
   have hpl:pre.length<900:=by
    have:=congrArg qt h2
    rw [aB] at this
    omega
   have lp:=h3.sp.length_le
   have lq:=h3.sq.length_le
   refine ⟨[.shr (.list (ns.map .int)),.shr (.int k),.shr (bN fs),.own (.list (p.map .str)),.own (.list (q.map .str)),.shr (.int (i:Nat)),.shr (.str x),z7],?_⟩
   by_cases c1:eU ns (k+(i:Nat)) 8<2
   ·refine ⟨[.shr (.list (ns.map .int)),.shr (.int k),.shr (bN fs),.own (.list ((p++[x]).map .str)),.own (.list (q.map .str)),.shr (.int (i:Nat)),.shr (.str x),.shr (.int (eU ns (k+(i:Nat)) 8))],rfl,?_,pre++[x],by rw [<- h2];simp,_,_,h3.left x hx,_,_,_,rfl⟩
    walk_at "zz"
    rw [fB ns _ 8 (by omega) (by decide)]
    walk_at "zz"
    rw [decide_eq_true c1]
    walk_at "zz"
    rw [<- EK]
    exact NH (ds:=p.map .str) rfl rfl (by rw [au];omega)
   ·by_cases c2:eU ns (k+(i:Nat)) 8=2
    ·refine ⟨[.shr (.list (ns.map .int)),.shr (.int k),.shr (bN fs),.own (.list (p.map .str)),.own (.list ((q++[x]).map .str)),.shr (.int (i:Nat)),.shr (.str x),.shr (.int (eU ns (k+(i:Nat)) 8))],rfl,?_,pre++[x],by rw [<- h2];simp,_,_,h3.right x hx,_,_,_,rfl⟩
     walk_at "zz"
     rw [fB ns _ 8 (by omega) (by decide)]
     walk_at "zz"
     rw [decide_eq_false c1]
     walk_at "zz"
     rw [nR]
     walk_at "zz"
     rw [decide_eq_true c2]
     walk_at "zz"
     rw [<- EK]
     exact NH (ds:=q.map .str) rfl rfl (by rw [au];omega)
    ·refine ⟨[.shr (.list (ns.map .int)),.shr (.int k),.shr (bN fs),.own (.list (p.map .str)),.own (.list (q.map .str)),.shr (.int (i:Nat)),.shr (.str x),.shr (.int (eU ns (k+(i:Nat)) 8))],rfl,?_,pre++[x],by rw [<- h2];simp,_,_,h3.skip x,_,_,_,rfl⟩
     walk_at "zz"
     rw [fB ns _ 8 (by omega) (by decide)]
     walk_at "zz"
     rw [decide_eq_false c1]
     walk_at "zz"
     rw [nR]
     walk_at "zz"
     rw [decide_eq_false c2]
     walk_at "zz") (lX 0 fs) () [.shr (.list (ns.map .int)),.shr (.int k),.shr (bN fs),.own (.list []),.own (.list []),.no,.no,.no] ⟨[],by rw [p_];rfl,[],[],⟨en _,en _,fun _ h=>nomatch h⟩,_,_,_,rfl⟩
  refine ⟨p,q,?_,?_⟩
  ·rw [h1,h4]
   walk_at "zz"
   rw [iY]
   walk_at "zz"
   rw [iY]
   walk_at "zz"
  ·simp only [dQ,bC] at h2
   rw [<- h2];exact h3
 ·walk_at "zz"
  rw [vq]
theorem Pn (j:Int) (h0:0<=j) (h1:j<2):∃ m:Int,bL (.list [.int 2,.int 4]) (.int j)=.ok (.int m):=by
 have:j=0\/j=1:=by omega
 rcases this with h|h<;>subst h
 ·exact ⟨2,rfl⟩
 ·exact ⟨4,rfl⟩
theorem Po (fs:List Str) (es:List jC):bL (dm fs es) (.int 0)=.ok (bN fs):=id rfl
theorem Mr (ns:List Int) (m n:Int) (hm0:0<=m) (hm:m<=6) (hn0:0<=n) (hn:n<=6):∃ fs es ss wm wb,iX [.list (ns.map .int),.int m,.int n]=.ok (.tuple [dm fs es,bN ss,wy wm wb])/\iM fs es/\Br fs ss/\NI fs wm wb/\fs.length<=m.toNat/\es.length<=n.toNat:=by
 obtain ⟨fs,es,hb,gb,fl⟩:=Ml ns 100 (by decide) m n hm0 hm hn0 hn
 obtain ⟨pt,hp⟩:=Pn (eU ns 97 2) (fK _ _ _ (by decide)) (gN _ _ _ (by decide))
 obtain ⟨ss,hs,gs⟩:=Mp ns 20 (by decide) fs gb.rise.len pt
 obtain ⟨wm,wb,hw,gw⟩:=Mq ns 30 (by decide) fs gb.rise.up gb.rise.len
 refine ⟨fs,es,ss,wm,wb,?_,gb,Dm gb.rise.up gs,gw,fl⟩
 unfold iX
 refine fe ?_
 unfold nP dh
 walk_at "zz"
 rw [hb]
 walk_at "zz"
 rw [Po]
 walk_at "zz"
 rw [fB ns 97 2 (by decide) (by decide)]
 walk_at "zz"
 rw [hp]
 walk_at "zz"
 rw [hs]
 walk_at "zz"
 rw [Po]
 walk_at "zz"
 rw [hw]
 walk_at "zz"
theorem yW {xs:List D}{j:Nat}{v:D} (h:xs[j]?=some v):bL (.list xs) (.int (j:Nat))=.ok v:=by
 have e:bL (.list xs) (.int (j:Nat))=CZ (.list xs) (.int (j:Nat)):=rfl
 rw [e]
 unfold CZ
 simp only [pI h]
theorem Kf {n:Nat}{g:ay->R Fl}{ds:List D}{ρ:ay} (h:g (dh n ds)=.ok (.nx ρ)):iL n g ds=.ok .none:=by unfold iL;rw [h]
theorem Gd {fs ss:List Str}{es:List jC} (g:iM fs es) (h:Br fs ss):jJ [dm fs es,bN ss]=.ok .none:=by
 unfold jJ
 refine Kf (ρ:=[.shr (dm fs es),.shr (bN ss)]) ?_
 unfold jI dh
 walk_at "zz"
 rw [Po]
 walk_at "zz"
 rw [lg g.rise.ok h (kz h g.rise.len)]
 walk_at "zz"
theorem Kg {fs ss:List Str}{es:List jC} (g:iM fs es) (h:Br fs ss):gT [dm fs es,bN ss]=.ok .none:=by
 unfold gT
 refine Kf (ρ:=[.shr (dm fs es),.shr (bN ss)]) ?_
 unfold jK dh
 walk_at "zz"
 rw [Dl g]
 walk_at "zz"
 rw [Gd g h]
 walk_at "zz"
def kA (ls:List (Str×Int)):List (D×D):=ls.map fun p=>(aF p.1,fk p.2)
abbrev dL (ls:List (Str×Int)):D:=.dict (kA ls)
theorem wz:∀ ls:List (Str×Int),cp (kA ls)=true
 |[]=>rfl
 |p::ls=>by
  have:=wz ls
  unfold cp kA at *
  rw [az,kc,this];rfl
theorem Bz (x:Str):∀ ls:List (Str×Int),(lN (kA ls) (.str x)).isSome=decide (x∈ls.map (·.1))
 |[]=>rfl
 |p::ls=>by
  have ih:=Bz x ls
  unfold lN kA at *
  rw [az,dY,az]
  by_cases h:p.1=x
  ·rw [show b9 (aF p.1) (aF x)=true by rw [h];simp [b9]];simp [h]
  ·rw [show b9 (aF p.1) (aF x)=false by simp [b9,h]]
   dsimp only
   rw [ih];simp [cR h]
theorem Kh (neg:Bool) (x:Str) (ls:List (Str×Int)):FZ neg (.str x) (dL ls)=.ok (.bool (if neg then !decide (x∈ls.map (·.1)) else decide (x∈ls.map (·.1)))):=by
 have:FZ neg (.str x) (dL ls)=if cp (kA ls)=true then .ok (.bool (if neg then !(lN (kA ls) (.str x)).isSome else (lN (kA ls) (.str x)).isSome)) else .no:=rfl
 rw [this,if_pos (wz ls),Bz]
theorem BA {α:Type} (f:D->R (List D)) (c:α->D) (h:α->List D):∀ (xs:List α),(∀ x∈xs,f (c x)=.ok (h x))->mW f (xs.map c)=.ok (xs.flatMap h)
 |[],_=>rfl
 |x::r,e=>by
  rw [az];unfold mW
  rw [e x al,bind_ok,BA f c h r fun y hy=>e y (ai _ hy),bind_ok,Hf]
theorem Ge {ρ:ay}{gt gt2:ay->R Bool}{gi2:ay->R (List D)}{ge:ay->R D}{d:D}{es zs:List D} (h1:gt (ρ.set 0 (.shr d))=.ok true) (h2:gi2 (ρ.set 0 (.shr d))=.ok es) (h3:eN (P8 1 (ρ.set 0 (.shr d)) gt2 ge) es=.ok zs):qZ 1 ρ gt gi2 gt2 ge d=.ok zs:=by
 have:qZ 1 ρ gt gi2 gt2 ge d=zy ((gt (ρ.set 0 (.shr d))).bind fun b=>if b then (gi2 (ρ.set 0 (.shr d))).bind fun es=>eN (P8 1 (ρ.set 0 (.shr d)) gt2 ge) es else .ok []):=rfl
 rw [this,h1,bind_ok,if_pos rfl,h2,bind_ok,h3];rfl
theorem Ro {nt:Nat}{ρ:ay}{gt:ay->R Bool}{ge:ay->R D}{d y:D}{b:Bool} (h1:gt (ρ.set nt (.shr d))=.ok b) (h2:b=true->ge (ρ.set nt (.shr d))=.ok y):P8 nt ρ gt ge d=.ok (if b then some y else none):=by
 unfold P8;rw [h1,bind_ok]
 cases b with
 |true=>rw [if_pos rfl,h2 rfl];rfl
 |false=>rfl
def qo (ks:List Str) (e:jC):Bool:=e.needs.all fun x=>decide (x∈ks)
def lH (ks:List Str) (es:List jC):List Str:=(es.filter (qo ks)).flatMap fun e=>e.makes.filter fun x=>!decide (x∈ks)
theorem Rp (fs:List Str) (es:List jC):bL (dm fs es) (.int 1)=.ok (.tuple (es.map fS)):=id rfl
theorem NJ (e:jC):bL (fS e) (.int 1)=.ok (bN e.needs):=id rfl
theorem wA (l:List Str) (p:Str->Bool):((l.map p).all id)=l.all p:=by rw [ur];rfl
theorem Pp {ks:List Str}{ls:List (Str×Int)}{fs:List Str}{e:jC} (hk:ks=ls.map (·.1)) (h6:e.needs.length<=6) (s:Sl) (hs:wk [.shr (fS e),.shr (dL ls)] 1=.shr (dL ls)) :
  i7 (cu (J.ag (fJ 1 [1] (jh (g2 (rB 0) (kI 1) bL)) kT (g2 (rB 0) (rB 1) (FZ false))) J.aV) (jr (gd fun bs=>bs.all id))) [.shr (fS e),.shr (dL ls)]=.ok (qo ks e):=by
 subst hk
 walk_at "zz"
 rw [NJ]
 walk_at "zz"
 rw [if_pos (by omega)]
 rw [eO _ (fun x:Str=>aF x) (fun x=>cK (decide (x∈ls.map (·.1)))) e.needs fun x hx=>hW (by rfl) (by
  walk_at "zz";rw [Kh];rfl)]
 walk_at "zz"
 rw [lY]
 walk_at "zz"
 rw [wA]
 rfl
theorem BB (l:List jC) (ks:List Str):eB (l.flatMap fun e=>(e.makes.filter fun x=>!decide (x∈ks)).map aF)=some (l.flatMap fun e=>e.makes.filter fun x=>!decide (x∈ks)):=by
 rw [show (l.flatMap fun e=>(e.makes.filter fun x=>!decide (x∈ks)).map aF)=(l.flatMap fun e=>e.makes.filter fun x=>!decide (x∈ks)).map aF by rw [List.map_flatMap],strsOf_map]
theorem wB (ks:List Str):∀ l:List jC,(∀ e∈l,e.makes.length<=6)->(l.flatMap fun e=>e.makes.filter fun x=>!decide (x∈ks)).length<=6*l.length
 |[],_=>am _
 |e::l,h=>by
  rw [Hf,aB,bp]
  have h1:=wB ks l fun e he=>h e (ai _ he)
  have h2:=h e al
  have h3:(e.makes.filter fun x=>!decide (x∈ks)).length<=e.makes.length:=jQ _ _
  omega
theorem Gf {fs:List Str}{es:List jC}{ls:List (Str×Int)} (p:jC->Bool) (hl:(es.filter p).length<=6) (h6:∀ e∈es,e.makes.length<=6) :
  pS 1 [1] (jh (rB 2)) kT (jh (g2 (rB 0) (kI 3) bL)) (i7 (g2 (rB 1) (rB 2) (FZ true))) (rS 1) [Sl.shr (dm fs es),Sl.shr (dL ls),Sl.shr (.list ((es.filter p).map fS))] =
   .ok (bW [] ((es.filter p).flatMap fun e=>e.makes.filter fun x=>!decide (x∈ls.map (·.1)))):=by
 unfold pS
 have hi:jh (rB 2) [Sl.shr (dm fs es),Sl.shr (dL ls),Sl.shr (.list ((es.filter p).map fS))]=.ok ((es.filter p).map fS):=rfl
 rw [hi,bind_ok]
 rw [BA _ fS (fun e=>(e.makes.filter fun x=>!decide (x∈ls.map (·.1))).map aF) (es.filter p) fun e he=>Ge rfl (show _=R.ok (e.makes.map aF) from rfl) (kr _ (fun x:Str=>aF x) (fun x=>aF x) (fun x=>!decide (x∈ls.map (·.1))) e.makes fun x hx=>Ro (by
   show i7 (g2 (rB 1) (rB 2) (FZ true)) [Sl.shr (fS e),Sl.shr (.str x),Sl.shr (dL ls)]=_
   walk_at "zz";rw [Kh];rfl) fun _=>rfl)]
 rw [bind_ok,BB]
 dsimp only
 have:=wB (ls.map (·.1)) (es.filter p) fun e he=>h6 e (ja.1 he).1
 rw [if_pos (by omega)]
theorem Ms {fs:List Str}{es:List jC}{ls:List (Str×Int)} (g:iM fs es):eS [dm fs es,dL ls]=.ok (.list ((j3 (bW [] (lH (ls.map (·.1)) es))).map .str)):=by
 unfold eS
 refine fe ?_
 unfold lT dh
 walk_at "zz"
 rw [Rp]
 walk_at "zz"
 rw [if_pos (by have:=g.len;omega)]
 rw [kr _ fS fS (qo (ls.map (·.1))) es fun e he=>Ee (Pp (fs:=fs) rfl (kz (g.ok e he).needs g.rise.len) .no rfl) fun _=>rfl]
 walk_at "zz"
 have hl:(es.filter (qo (ls.map (·.1)))).length<=6:=bM (jQ _ _) g.len
 have h6:∀ e∈es,e.makes.length<=6:=fun e he=>kz (g.ok e he).makes g.rise.len
 rw [yB,Gf (qo (ls.map (·.1))) hl h6,bind_ok]
 have h1:=wB (ls.map (·.1)) (es.filter (qo (ls.map (·.1)))) fun e he=>h6 e (ja.1 he).1
 have h2:=fH ((es.filter (qo (ls.map (·.1)))).flatMap fun e=>e.makes.filter fun x=>!decide (x∈ls.map (·.1))) []
 simp only [dZ] at h2
 rw [Bt _ (by omega)]
 rfl
theorem EL {x:Str}{k:Int}:∀ {ls:List (Str×Int)},x∉ls.map (·.1)->qX (kA ls) (.str x) (.int k)=kA (ls++[(x,k)]):=by
 intro ls h
 have ha:((kA ls).any fun kv=>b9 kv.1 (.str x))=false:=by
  rw [GQ]
  intro kv hkv
  obtain ⟨p,hp,rfl⟩:=iG.1 hkv
  have:p.1≠x:=fun e=>h (iG.2 ⟨p,hp,e⟩)
  simp [b9,this]
 unfold qX
 rw [ha]
 unfold kA
 rw [cS];rfl
theorem Mt {a b m:Sl}{x:Str}{k:Int}{ls:List (Str×Int)} (hl:ls.length<1000) (h:x∉ls.map (·.1)) :
  nG 2 (rS 5) (rS 3) [a,b,.own (dL ls),.shr (.int k),m,.shr (.str x)]=.ok (.nx [a,b,.own (dL (ls++[(x,k)])),.shr (.int k),m,.shr (.str x)]):=by
 have e:nG 2 (rS 5) (rS 3) [a,b,.own (dL ls),.shr (.int k),m,.shr (.str x)]=if (kA ls).length<1000/\cp (kA ls)=true then .ok (.nx [a,b,.own (.dict (qX (kA ls) (.str x) (.int k))),.shr (.int k),m,.shr (.str x)]) else .no:=rfl
 rw [e,if_pos ⟨by unfold kA;rw [au];exact hl,wz ls⟩,EL h]
theorem pc {kt:D->ay->R ay}{gb:ay->R Fl}{d:D}{r:List D}{ρ ρ1 ρ2:ay} (h1:kt d ρ=.ok ρ1) (h2:gb ρ1=.ok (.nx ρ2)):jb kt gb (d::r) ρ=jb kt gb r ρ2:=by
 rw [jb,h1];simp only [h2]
theorem BC {a b m:Sl}{k:Int}:∀ (xs:List Str) (ls:List (Str×Int)) (s:Sl),xs.Nodup->(∀ x∈xs,x∉ls.map (·.1))->ls.length+xs.length<1000 ->
  ∃ s',jb (bJ 5) (nG 2 (rS 5) (rS 3)) (xs.map aF) [a,b,.own (dL ls),.shr (.int k),m,s]=.ok (.nx [a,b,.own (dL (ls++xs.map fun x=>(x,k))),.shr (.int k),m,s'])
 |[],ls,s,_,_,_=>⟨s,by rw [dQ,dQ,bC];rfl⟩
 |x::xs,ls,s,hn,hd,hl=>by
  obtain ⟨n1,n2⟩:=dq.1 hn
  rw [bp] at hl
  obtain ⟨s',e⟩:=BC (a:=a) (b:=b) (m:=m) (k:=k) xs (ls++[(x,k)]) (.shr (.str x)) n2 (fun y hy=>by
   rw [cS,cf]
   rintro (h|h)
   ·exact hd y (ai _ hy) h
   ·rw [show y=x by simpa using h] at hy;exact n1 hy) (by rw [aB,eg];omega)
  refine ⟨s',?_⟩
  rw [az,pc (ρ1:=[a,b,.own (dL ls),.shr (.int k),m,.shr (.str x)]) rfl (Mt (by omega) (hd x al)),e,az,cC]
  rfl
theorem Mu (xs:List Str):nh (.list (xs.map aF))=true:=vt _ (fun _=>rfl) xs
theorem BD {fs:List Str}{es:List jC}{ls:List (Str×Int)}{b c d e:Sl} (g:iM fs es) :
  B9 nh 2 eS (J.ag (rS 0) (J.ag (yp 2) J.aV)) [.shr (dm fs es),b,.own (dL ls),c,d,e]=.ok (.list ((j3 (bW [] (lH (ls.map (·.1)) es))).map .str)):=by
 have h:B9 nh 2 eS (J.ag (rS 0) (J.ag (yp 2) J.aV)) [.shr (dm fs es),b,.own (dL ls),c,d,e]=SG nh (eS [dm fs es,dL ls]):=rfl
 rw [h,Ms g]
 show (if nh _=true then _ else _)=_
 rw [if_pos (Mu _)]
def fX (es:List jC) (ks:List Str):List Str:=srt (lH ks es)
theorem EM {ks:List Str}{es:List jC}{x:Str}:x∈lH ks es↔∃ e∈es,qo ks e=true/\x∈e.makes/\x∉ks:=by
 unfold lH
 rw [List.mem_flatMap]
 constructor
 ·rintro ⟨e,he,hx⟩
  obtain ⟨h1,h2⟩:=ja.1 he
  obtain ⟨h3,h4⟩:=ja.1 hx
  exact ⟨e,h1,h2,h3,by simpa using h4⟩
 ·rintro ⟨e,h1,h2,h3,h4⟩
  exact ⟨e,ja.2 ⟨h1,h2⟩,ja.2 ⟨h3,by simpa using h4⟩⟩
theorem sU {ks:List Str}{es:List jC}{x:Str}:x∈fX es ks↔∃ e∈es,qo ks e=true/\x∈e.makes/\x∉ks:=by
 unfold fX;rw [nQ];exact EM
theorem zV (es:List jC) (ks:List Str):(fX es ks).Nodup:=im (K2 _)
def wC (es:List jC):Nat->List (Str×Int)->Int->List (Str×Int)
 | 0,ls,_=>ls
 |n+1,ls,k=>if fX es (ls.map (·.1))=[] then ls else wC es n (ls++(fX es (ls.map (·.1))).map fun x=>(x,k)) (k+1)
structure o8 (fs:List Str) (ls:List (Str×Int)):Prop where
 nd:(ls.map (·.1)).Nodup
 sub:∀ x∈ls.map (·.1),x∈fs
theorem o8.len {fs:List Str}{ls:List (Str×Int)} (h:o8 fs ls):ls.length<=fs.length:=by
 have:=ml _ _ h.nd h.sub;rwa [au] at this
theorem o8.more {fs:List Str}{es:List jC}{ls:List (Str×Int)} (g:iM fs es) (h:o8 fs ls) (k:Int):o8 fs (ls++(fX es (ls.map (·.1))).map fun x=>(x,k)):=by
 have e:(ls++(fX es (ls.map (·.1))).map fun x=>(x,k)).map (·.1)=ls.map (·.1)++fX es (ls.map (·.1)):=by
  rw [cS,cc]
  exact congrArg _ ((cb fun _ _=>rfl).trans (mJ _))
 refine ⟨?_,?_⟩
 ·rw [e,mF]
  refine ⟨h.nd,zV _ _,fun a ha b hb z=>?_⟩
  subst z
  obtain ⟨_,_,_,_,hn⟩:=sU.1 hb
  exact hn ha
 ·rw [e]
  intro x hx
  rcases cf.1 hx with hx|hx
  ·exact h.sub x hx
  ·obtain ⟨e,he,_,hm,_⟩:=sU.1 hx
   exact (g.ok e he).makes.mem x hm
def RI:ay->R Fl:=aZ (oX 4 (bJ 5) (nG 2 (rS 5) (rS 3))) (aZ (FQ 3 (kI 1)) (iF 4 (B9 nh 2 eS (J.ag (rS 0) (J.ag (yp 2) J.aV)))))
theorem Ki:jo=aZ (gj 2 (nH 1 [] (jh (rB 1)) kT (rS 0) (kI 0))) (aZ (iF 3 (kI 1)) (aZ (iF 4 (B9 nh 2 eS (J.ag (rS 0) (J.ag (yp 2) J.aV)))) (aZ (gL (D7 (rB 4)) RI 100000) (gf (rS 2))))):=rfl
abbrev NK (fs:List Str) (es:List jC) (S:D) (ls:List (Str×Int)) (k:Int) (s:Sl):ay:=[.shr (dm fs es),.shr S,.own (dL ls),.shr (.int k),.shr (.list ((fX es (ls.map (·.1))).map .str)),s]
theorem Mv {fs:List Str}{es:List jC}{S:D}{ls:List (Str×Int)}{k:Int}{s:Sl} (g:iM fs es) (h:o8 fs ls) :
  ∃ s',RI (NK fs es S ls k s)=.ok (.nx (NK fs es S (ls++(fX es (ls.map (·.1))).map fun x=>(x,k)) (k+1) s')):=by
 have l1:=h.len;have l2:=g.rise.len
 have l3:(fX es (ls.map (·.1))).length<=fs.length:=ml _ _ (zV _ _) fun x hx=>by
  obtain ⟨e,he,_,hm,_⟩:=sU.1 hx
  exact (g.ok e he).makes.mem x hm
 obtain ⟨s',e⟩:=BC (a:=.shr (dm fs es)) (b:=.shr S) (m:=.shr (.list ((fX es (ls.map (·.1))).map .str))) (k:=k) (fX es (ls.map (·.1))) ls s (zV _ _) (fun x hx=>by
  obtain ⟨_,_,_,_,hn⟩:=sU.1 hx;exact hn) (by omega)
 refine ⟨s',?_⟩
 have e1:oX 4 (bJ 5) (nG 2 (rS 5) (rS 3)) (NK fs es S ls k s)=jb (bJ 5) (nG 2 (rS 5) (rS 3)) ((fX es (ls.map (·.1))).map aF) (NK fs es S ls k s):=rfl
 have e2:∀ m,FQ 3 (kI 1) [.shr (dm fs es),.shr S,.own (dL m),.shr (.int k),.shr (.list ((fX es (ls.map (·.1))).map .str)),s']=.ok (.nx [.shr (dm fs es),.shr S,.own (dL m),.shr (.int (k+1)),.shr (.list ((fX es (ls.map (·.1))).map .str)),s']):=fun m=>rfl
 have sq:∀ (a b:ay->R Fl) (ρ ρ':ay),a ρ=.ok (.nx ρ')->aZ a b ρ=b ρ':=fun a b ρ ρ' h=>by unfold aZ;rw [h];rfl
 unfold RI
 rw [sq _ _ _ _ (e1.trans e),sq _ _ _ _ (e2 _)]
 unfold iF
 rw [BD g]
 rfl
theorem wD {fs:List Str}{es:List jC}{S:D}{ls:List (Str×Int)}{k:Int}{s:Sl}:D7 (rB 4) (NK fs es S ls k s)=.ok (!(fX es (ls.map (·.1))).isEmpty):=by
 have:D7 (rB 4) (NK fs es S ls k s)=.ok (!((fX es (ls.map (·.1))).map aF).isEmpty):=rfl
 rw [this];cases fX es (ls.map (·.1))<;>rfl
theorem yH {fs:List Str}{es:List jC}{ls:List (Str×Int)} (g:iM fs es) (h:o8 fs ls) (hm:fX es (ls.map (·.1))≠[]):ls.length+(fX es (ls.map (·.1))).length<=fs.length/\0<(fX es (ls.map (·.1))).length:=by
 have:=(h.more g 0).len
 rw [aB,au] at this
 exact ⟨this,rJ.2 hm⟩
theorem EN {t:ay->R Bool}{b:ay->R Fl}{n:Nat}{ρ ρ':ay} (h1:t ρ=.ok true) (h2:b ρ=.ok (.nx ρ')):gL t b (n+1) ρ=gL t b n ρ':=by
 rw [gL,h1];simp only [h2]
theorem EO {t:ay->R Bool}{b:ay->R Fl}{n:Nat}{ρ:ay} (h1:t ρ=.ok false):gL t b (n+1) ρ=.ok (.nx ρ):=by
 rw [gL,h1]
theorem BE {fs:List Str}{es:List jC}{S:D} (g:iM fs es):∀ (n N:Nat) (ls:List (Str×Int)) (k:Int) (s:Sl),o8 fs ls->fs.length-ls.length<=n->n<N ->
  ∃ k' m' s',gL (D7 (rB 4)) RI N (NK fs es S ls k s)=.ok (.nx [.shr (dm fs es),.shr S,.own (dL (wC es n ls k)),k',m',s'])
 |n,0,_,_,_,_,_,hN=>absurd hN (Nat.not_lt_zero _)
 | 0,N+1,ls,k,s,h,hl,hN=>by
  by_cases hm:fX es (ls.map (·.1))=[]
  ·exact ⟨_,_,_,EO (by rw [wD,hm];rfl)⟩
  ·have:=yH g h hm;omega
 |n+1,N+1,ls,k,s,h,hl,hN=>by
  by_cases hm:fX es (ls.map (·.1))=[]
  ·rw [wC,if_pos hm]
   exact ⟨_,_,_,EO (by rw [wD,hm];rfl)⟩
  ·have hr:=yH g h hm
   obtain ⟨s',e⟩:=Mv (S:=S) (k:=k) (s:=s) g h
   obtain ⟨k2,m2,s2,e2⟩:=BE (S:=S) g n N _ (k+1) s' (h.more g k) (by rw [aB,au];omega) (by omega)
   refine ⟨k2,m2,s2,?_⟩
   rw [EN (by rw [wD];cases hx:fX es (ls.map (·.1)) with|nil=>exact absurd hx hm|cons=>rfl) e,e2,wC,if_neg hm]
theorem EQ:∀ (xs:List Str) (ls:List (Str×Int)),xs.Nodup->(∀ x∈xs,x∉ls.map (·.1))->(xs.map fun x=>ev [.str x,.int 0]).foldl P0 (kA ls)=kA (ls++xs.map fun x=>(x,(0:Int)))
 |[],ls,_,_=>by rw [dQ,dQ,bC];rfl
 |x::xs,ls,hn,hd=>by
  obtain ⟨n1,n2⟩:=dq.1 hn
  rw [az,oE]
  have e:P0 (kA ls) (.tuple [.str x,.int 0])=kA (ls++[(x,0)]):=EL (hd x al)
  rw [e,EQ xs (ls++[(x,0)]) n2 (fun y hy=>by
   rw [cS,cf]
   rintro (h|h)
   ·exact hd y (ai _ hy) h
   ·rw [show y=x by simpa using h] at hy;exact n1 hy),az,cC]
  rfl
theorem Kj {B:Sl}{ss:List Str} (hn:ss.Nodup) (hl:ss.length<=1000) (r:ay):nH 1 [] (jh (rB 1)) kT (rS 0) (kI 0) (B::.shr (bN ss)::r)=.ok (dL (ss.map fun x=>(x,0))):=by
 unfold nH
 have hi:jh (rB 1) (B::.shr (bN ss)::r)=.ok (ss.map aF):=rfl
 rw [hi,bind_ok,if_pos (by rw [au];exact hl)]
 rw [eO _ (fun x:Str=>aF x) (fun x=>ev [.str x,.int 0]) ss fun x hx=>hW rfl rfl,bind_ok]
 unfold PD
 rw [show ([] : List (D×D))=kA [] from rfl,EQ ss [] hn (fun x _ h=>nomatch h),kH]
theorem uU {fs ss:List Str}{es:List jC} (g:iM fs es) (h:Br fs ss):gm [dm fs es,bN ss]=.ok (dL (wC es 6 (ss.map fun x=>(x,0)) 1)):=by
 have nd:=im h.up
 have ek:(ss.map fun x=>(x,(0:Int))).map (·.1)=ss:=by
  rw [cc];exact (cb fun _ _=>rfl).trans (mJ _)
 have hk:o8 fs (ss.map fun x=>(x,(0:Int))):=⟨by rw [ek];exact nd,by rw [ek];exact h.mem⟩
 have l6:=g.rise.len
 have sq:∀ (a b:ay->R Fl) (ρ ρ':ay),a ρ=.ok (.nx ρ')->aZ a b ρ=b ρ':=fun a b ρ ρ' h=>by unfold aZ;rw [h];rfl
 unfold gm
 refine fe ?_
 rw [Ki]
 show aZ _ _ [.shr (dm fs es),.shr (bN ss),.no,.no,.no,.no]=_
 rw [sq _ _ _ [.shr (dm fs es),.shr (bN ss),.own (dL (ss.map fun x=>(x,0))),.no,.no,.no] (by unfold gj;rw [Kj nd (by have:=ml _ _ nd h.mem;omega)];rfl)]
 rw [sq _ _ _ [.shr (dm fs es),.shr (bN ss),.own (dL (ss.map fun x=>(x,0))),.shr (.int 1),.no,.no] rfl]
 rw [sq _ _ _ (NK fs es (bN ss) (ss.map fun x=>(x,0)) 1 .no) (by unfold iF;rw [BD g];rfl)]
 obtain ⟨k',m',s',e⟩:=BE (S:=bN ss) g 6 100000 _ 1 .no hk (by omega) (by decide)
 rw [sq _ _ _ _ e]
 rfl
theorem ER {fs:List Str}{es:List jC} (g:iM fs es):∀ (n:Nat) (ls:List (Str×Int)) (k:Int),o8 fs ls->o8 fs (wC es n ls k)
 | 0,_,_,h=>h
 |n+1,ls,k,h=>by
  rw [wC]
  split
  ·exact h
  ·exact ER g n _ _ (h.more g k)
theorem Do:∀ {ls:List (Str×Int)},(ls.map (·.1)).Nodup->ls.Nodup
 |[],_=>ft
 |p::ls,h=>by
  rw [az] at h
  obtain ⟨h1,h2⟩:=dq.1 h
  exact dq.2 ⟨fun hp=>h1 (iG.2 ⟨p,hp,rfl⟩),Do h2⟩
theorem Gg (ls:List (Str×Int)):((kA ls).map fun p=>ev [p.1,p.2])=ls.map mC:=by
 unfold kA;rw [cc];rfl
theorem Gh {ls:List (Str×Int)} (h:ls.Nodup) (hl:ls.length<=64):vn (dL ls)=.ok (.list ((mX ls).map mC)):=by
 have e:vn (dL ls)=match sM ((kA ls).map fun p=>ev [p.1,p.2]) with
  |some ts=>lO ts
  |none=>.no:=rfl
 rw [e,Gg,ue]
 dsimp only
 unfold lO
 rw [if_pos ⟨h,hl⟩]
theorem Gi {fs ss:List Str}{es:List jC} (g:iM fs es) (h:Br fs ss):mZ [dm fs es,bN ss]=.ok (.list ((mX (wC es 6 (ss.map fun x=>(x,0)) 1)).map mC)):=by
 have nd:=im h.up
 have ek:(ss.map fun x=>(x,(0:Int))).map (·.1)=ss:=by
  rw [cc];exact (cb fun _ _=>rfl).trans (mJ _)
 have hk:o8 fs (ss.map fun x=>(x,(0:Int))):=⟨by rw [ek];exact nd,by rw [ek];exact h.mem⟩
 have ok:=ER g 6 _ 1 hk
 have l6:=g.rise.len
 have l7:=ok.len
 have sq:∀ (a b:ay->R Fl) (ρ ρ':ay),a ρ=.ok (.nx ρ')->aZ a b ρ=b ρ':=fun a b ρ ρ' h=>by unfold aZ;rw [h];rfl
 unfold mZ
 refine fe ?_
 unfold sO
 show aZ _ _ [.shr (dm fs es),.shr (bN ss)]=_
 have e1:iV 2 gT (J.ag (rS 0) (J.ag (rS 1) J.aV)) [.shr (dm fs es),.shr (bN ss)]=gT [dm fs es,bN ss]:=rfl
 rw [sq _ _ _ [.shr (dm fs es),.shr (bN ss)] (by unfold vX;rw [e1,Kg g h];rfl)]
 unfold gf zJ
 have e2:iV 2 gm (J.ag (rS 0) (J.ag (rS 1) J.aV)) (d_ [.shr (dm fs es),.shr (bN ss)])=gm [dm fs es,bN ss]:=rfl
 rw [e2,uU g h,bind_ok,Gh (Do ok.nd) (by omega),bind_ok]
def eP (ks:List Str):List (D×D):=ks.map fun x=>(aF x,cK true)
theorem q9:∀ ks:List Str,cp (eP ks)=true
 |[]=>rfl
 |p::ks=>by
  have:=q9 ks
  unfold cp eP at *
  rw [az,kc,this];rfl
theorem Kk (x:Str) (ks:List Str):((eP ks).any fun kv=>b9 kv.1 (.str x))=decide (x∈ks):=by
 unfold eP
 rw [List.any_map]
 induction ks with
 |nil=>rfl
 |cons y ks ih =>
  rw [eF,ih]
  by_cases h:y=x
  ·simp [h,b9]
  ·simp [b9,h,cR h]
theorem Kl (x:Str) (ks:List Str):qX (eP ks) (.str x) (.bool true)=eP (if x∈ks then ks else ks++[x]):=by
 unfold qX
 rw [Kk]
 by_cases h:x∈ks
 ·rw [if_pos (decide_eq_true h),if_pos h]
  unfold eP
  rw [cc]
  refine cb fun y _=>?_
  show (if b9 (aF y) (.str x)=true then (aF y,cK true) else (aF y,cK true))=_
  split<;>rfl
 ·rw [if_neg (by simpa using h),if_neg h]
  unfold eP
  rw [cS];rfl
theorem nU:∀ (l m acc:List Str),bW acc (l++m)=bW (bW acc l) m
 |[],_,_=>rfl
 |_::l,m,acc=>nU l m _
def PH:ay->R Fl:=gz (i7 (g2 (rB 9) (rB 5) (yc true))) (nG 7 (rS 9) (kB true)) (fun ρ=>.ok (.nx ρ))
theorem Pq {s0 s1 s2 s3 s4 s6 s8 s10 s11:Sl}{hv ks:List Str}{x:Str} (hl:ks.length<1000) :
  PH [s0,s1,s2,s3,s4,.own (.list (hv.map .str)),s6,.own (.dict (eP ks)),s8,.shr (.str x),s10,s11] =
   .ok (.nx [s0,s1,s2,s3,s4,.own (.list (hv.map .str)),s6,.own (.dict (eP (bW ks ([x].filter fun x=>!decide (x∈hv))))),s8,.shr (.str x),s10,s11]):=by
 have e1:i7 (g2 (rB 9) (rB 5) (yc true)) [s0,s1,s2,s3,s4,.own (.list (hv.map .str)),s6,.own (.dict (eP ks)),s8,.shr (.str x),s10,s11]=.ok (!decide (x∈hv)):=by
  have:i7 (g2 (rB 9) (rB 5) (yc true)) [s0,s1,s2,s3,s4,.own (.list (hv.map .str)),s6,.own (.dict (eP ks)),s8,.shr (.str x),s10,s11]=(yc true (.str x) (.list (hv.map .str))).bind fun d=>match d with
   |.bool b=>.ok b
   |_=>.no:=rfl
  rw [this,zS];rfl
 have e2:nG 7 (rS 9) (kB true) [s0,s1,s2,s3,s4,.own (.list (hv.map .str)),s6,.own (.dict (eP ks)),s8,.shr (.str x),s10,s11]=if (eP ks).length<1000/\cp (eP ks)=true then .ok (.nx [s0,s1,s2,s3,s4,.own (.list (hv.map .str)),s6,.own (.dict (qX (eP ks) (.str x) (.bool true))),s8,.shr (.str x),s10,s11]) else .no:=rfl
 unfold PH gz
 rw [e1,bind_ok]
 by_cases h:x∈hv
 ·simp [h,bW]
 ·rw [if_pos (by simp [h]),e2,if_pos ⟨by unfold eP;rw [au];exact hl,q9 ks⟩,Kl]
  simp [h,bW]
theorem ES {s0 s1 s2 s3 s4 s6 s8 s10 s11:Sl}{hv:List Str}:∀ (xs ks:List Str) (s9:Sl),ks.length+xs.length<1000 ->
  ∃ s',jb (bJ 9) PH (xs.map aF) [s0,s1,s2,s3,s4,.own (.list (hv.map .str)),s6,.own (.dict (eP ks)),s8,s9,s10,s11] =
   .ok (.nx [s0,s1,s2,s3,s4,.own (.list (hv.map .str)),s6,.own (.dict (eP (bW ks (xs.filter fun x=>!decide (x∈hv))))),s8,s',s10,s11])
 |[],ks,s9,_=>⟨s9,rfl⟩
 |x::xs,ks,s9,hl=>by
  rw [bp] at hl
  have hs:(bW ks ([x].filter fun x=>!decide (x∈hv))).length<=ks.length+1:=by
   have h1:=fH ([x].filter fun x=>!decide (x∈hv)) ks
   have h2:([x].filter fun x=>!decide (x∈hv)).length<=1:=jQ _ _
   omega
  obtain ⟨s',e⟩:=ES (s0:=s0) (s1:=s1) (s2:=s2) (s3:=s3) (s4:=s4) (s6:=s6) (s8:=s8) (s10:=s10) (s11:=s11) (hv:=hv) xs (bW ks ([x].filter fun x=>!decide (x∈hv))) (.shr (.str x)) (by omega)
  refine ⟨s',?_⟩
  rw [az,pc (ρ1:=[s0,s1,s2,s3,s4,.own (.list (hv.map .str)),s6,.own (.dict (eP ks)),s8,.shr (.str x),s10,s11]) rfl (Pq (by omega)),e,<- nU,<- GJ]
  rfl
def PJ:ay->R Fl:=gz (i7 (cu (J.ag (fJ 1 [5] (jh (g2 (rB 8) (kI 1) bL)) kT (g2 (rB 0) (rB 1) (yc false))) J.aV) (jr (gd fun bs=>bs.all id)))) (mR (jh (g2 (rB 8) (kI 3) bL)) (bJ 9) PH) (fun ρ=>.ok (.nx ρ))
theorem Mw {s0 s1 s2 s3 s4 s6 s7 s9 s10 s11:Sl}{hv:List Str}{e:jC} (h6:e.needs.length<=6) :
  i7 (cu (J.ag (fJ 1 [5] (jh (g2 (rB 8) (kI 1) bL)) kT (g2 (rB 0) (rB 1) (yc false))) J.aV) (jr (gd fun bs=>bs.all id))) [s0,s1,s2,s3,s4,.own (.list (hv.map .str)),s6,s7,.shr (fS e),s9,s10,s11]=.ok (qo hv e):=by
 walk_at "zz"
 rw [NJ]
 walk_at "zz"
 rw [if_pos (by omega)]
 rw [eO _ (fun x:Str=>aF x) (fun x=>cK (decide (x∈hv))) e.needs fun x hx=>hW (by rfl) (by
  walk_at "zz";rw [zS];rfl)]
 walk_at "zz"
 rw [lY]
 walk_at "zz"
 rw [wA]
 rfl
theorem Pr {s0 s1 s2 s3 s4 s6 s9 s10 s11:Sl}{hv ks:List Str}{e:jC} (h6:e.needs.length<=6) (hl:ks.length+e.makes.length<1000) :
  ∃ s',PJ [s0,s1,s2,s3,s4,.own (.list (hv.map .str)),s6,.own (.dict (eP ks)),.shr (fS e),s9,s10,s11] =
   .ok (.nx [s0,s1,s2,s3,s4,.own (.list (hv.map .str)),s6,.own (.dict (eP (bW ks (lH hv [e])))),.shr (fS e),s',s10,s11]):=by
 unfold PJ gz
 rw [Mw h6,bind_ok]
 cases hr:qo hv e with
 |false =>
  refine ⟨s9,?_⟩
  rw [if_neg bj]
  simp [lH,hr,bW]
 |true =>
  rw [if_pos rfl]
  obtain ⟨s',e1⟩:=ES (s0:=s0) (s1:=s1) (s2:=s2) (s3:=s3) (s4:=s4) (s6:=s6) (s8:=.shr (fS e)) (s10:=s10) (s11:=s11) (hv:=hv) e.makes ks s9 hl
  refine ⟨s',?_⟩
  have e2:mR (jh (g2 (rB 8) (kI 3) bL)) (bJ 9) PH [s0,s1,s2,s3,s4,.own (.list (hv.map .str)),s6,.own (.dict (eP ks)),.shr (fS e),s9,s10,s11]=jb (bJ 9) PH (e.makes.map aF) [s0,s1,s2,s3,s4,.own (.list (hv.map .str)),s6,.own (.dict (eP ks)),.shr (fS e),s9,s10,s11]:=rfl
  rw [e2,e1]
  simp [lH,hr]
theorem Km (hv:List Str) (e:jC) (es:List jC):lH hv (e::es)=lH hv [e]++lH hv es:=by
 unfold lH
 rw [show e::es=[e]++es from rfl,GJ,List.flatMap_append]
theorem Kn (hv:List Str) (e:jC):(lH hv [e]).length<=e.makes.length:=by
 unfold lH
 cases h:qo hv e with
 |false=>simp [h]
 |true =>
  have:(e.makes.filter fun x=>!decide (x∈hv)).length<=e.makes.length:=jQ _ _
  simpa [h] using this
theorem ET {s0 s1 s2 s3 s4 s6 s10 s11:Sl}{hv:List Str}:∀ (es:List jC) (ks:List Str) (s8 s9:Sl),(∀ e∈es,e.needs.length<=6/\e.makes.length<=6)->ks.length+6*es.length<1000 ->
  ∃ s8' s9',jb (bJ 8) PJ (es.map fS) [s0,s1,s2,s3,s4,.own (.list (hv.map .str)),s6,.own (.dict (eP ks)),s8,s9,s10,s11] =
   .ok (.nx [s0,s1,s2,s3,s4,.own (.list (hv.map .str)),s6,.own (.dict (eP (bW ks (lH hv es)))),s8',s9',s10,s11])
 |[],ks,s8,s9,_,_=>⟨s8,s9,rfl⟩
 |e::es,ks,s8,s9,h,hl=>by
  rw [bp] at hl
  obtain ⟨h1,h2⟩:=h e al
  obtain ⟨s9',e1⟩:=Pr (s0:=s0) (s1:=s1) (s2:=s2) (s3:=s3) (s4:=s4) (s6:=s6) (s9:=s9) (s10:=s10) (s11:=s11) (hv:=hv) (ks:=ks) h1 (by omega)
  have hs:(bW ks (lH hv [e])).length<=ks.length+6:=by
   have a1:=fH (lH hv [e]) ks
   have a2:=Kn hv e
   omega
  obtain ⟨s8',s9'',e2⟩:=ET (s0:=s0) (s1:=s1) (s2:=s2) (s3:=s3) (s4:=s4) (s6:=s6) (s10:=s10) (s11:=s11) (hv:=hv) es (bW ks (lH hv [e])) (.shr (fS e)) s9' (fun e he=>h e (ai _ he)) (by omega)
  refine ⟨s8',s9'',?_⟩
  rw [az,pc (ρ1:=[s0,s1,s2,s3,s4,.own (.list (hv.map .str)),s6,.own (.dict (eP ks)),.shr (fS e),s9,s10,s11]) rfl e1,e2,Km hv e es,nU]
abbrev cU (r:List Str):D:=.list (r.map .str)
theorem Mx {s0 s1 s2 s3 s4 s7 s8 s9 s10 s11:Sl}{hv r:List Str} (hl:hv.length+r.length<=1000) :
  u7 5 (rS 6) [s0,s1,s2,s3,s4,.own (cU hv),.shr (cU r),s7,s8,s9,s10,s11]=.ok (.nx [s0,s1,s2,s3,s4,.own (cU (hv++r)),.shr (cU r),s7,s8,s9,s10,s11]):=by
 have e:u7 5 (rS 6) [s0,s1,s2,s3,s4,.own (cU hv),.shr (cU r),s7,s8,s9,s10,s11]=if (hv.map aF).length+(r.map aF).length<=1000 then .ok (.nx [s0,s1,s2,s3,s4,.own (.list (hv.map .str++r.map .str)),.shr (cU r),s7,s8,s9,s10,s11]) else .no:=rfl
 rw [e,if_pos (by rw [au,au];exact hl),<- cS]
theorem BF {s0 s1 s2 s3 s4 s7 s8 s9 s10 s11:Sl}:∀ (rows:List (List Str)) (hv:List Str) (s6:Sl),hv.length+rows.flatten.length<=1000 ->
  ∃ s',jb (bJ 6) (u7 5 (rS 6)) (rows.map cU) [s0,s1,s2,s3,s4,.own (cU hv),s6,s7,s8,s9,s10,s11]=.ok (.nx [s0,s1,s2,s3,s4,.own (cU (hv++rows.flatten)),s',s7,s8,s9,s10,s11])
 |[],hv,s6,_=>⟨s6,by rw [List.flatten_nil,bC];rfl⟩
 |r::rows,hv,s6,hl=>by
  rw [mK,aB] at hl
  obtain ⟨s',e⟩:=BF (s0:=s0) (s1:=s1) (s2:=s2) (s3:=s3) (s4:=s4) (s7:=s7) (s8:=s8) (s9:=s9) (s10:=s10) (s11:=s11) rows (hv++r) (.shr (cU r)) (by rw [aB];omega)
  refine ⟨s',?_⟩
  rw [az,pc (ρ1:=[s0,s1,s2,s3,s4,.own (cU hv),.shr (cU r),s7,s8,s9,s10,s11]) rfl (Mx (by omega)),e,mK,cC]
theorem Ko {s0 s1 s2 s3 s6 s7 s8 s9 s10 s11:Sl}{rows:List (List Str)} (hl:rows.flatten.length<=1000) :
  ∃ s',oX 4 (bJ 6) (u7 5 (rS 6)) [s0,s1,s2,s3,.own (.list (rows.map cU)),.own (.list []),s6,s7,s8,s9,s10,s11]=.ok (.nx [s0,s1,s2,s3,.own (.list (rows.map cU)),.own (cU rows.flatten),s',s7,s8,s9,s10,s11]):=by
 obtain ⟨s',e⟩:=BF (s0:=s0) (s1:=s1) (s2:=s2) (s3:=s3) (s4:=.lck (.list (rows.map cU))) (s7:=s7) (s8:=s8) (s9:=s9) (s10:=s10) (s11:=s11) rows [] s6 (by simpa using hl)
 refine ⟨s',?_⟩
 have e1:oX 4 (bJ 6) (u7 5 (rS 6)) [s0,s1,s2,s3,.own (.list (rows.map cU)),.own (.list []),s6,s7,s8,s9,s10,s11]=Tg 4 [s0,s1,s2,s3,.own (.list (rows.map cU)),.own (.list []),s6,s7,s8,s9,s10,s11] (jb (bJ 6) (u7 5 (rS 6)) (rows.map cU) [s0,s1,s2,s3,.lck (.list (rows.map cU)),.own (cU []),s6,s7,s8,s9,s10,s11]):=rfl
 rw [e1,e]
 rfl
def RJ:ay->R Fl:=aZ (gj 5 (fR J.aV .list)) (aZ (oX 4 (bJ 6) (u7 5 (rS 6))) (aZ (gj 7 (fun _=>.ok (.dict []))) (aZ (mR (jh (g2 (rB 1) (kI 1) bL)) (bJ 8) PJ) (aZ (gz (i7 (g2 (rB 7) (fun _=>.ok (.dict [])) KH)) (fun ρ=>.ok (.bk ρ)) (fun ρ=>.ok (.nx ρ))) (uS 4 (cu (J.ag (rB 7) J.aV) (jr f_)))))))
def fL (es:List jC) (rows:List (List Str)):List Str:=bW [] (lH rows.flatten es)
theorem KI (a b:ay->R Fl) (ρ ρ':ay) (h:a ρ=.ok (.nx ρ')):aZ a b ρ=b ρ':=by unfold aZ;rw [h];rfl
theorem Gj (ks:List Str):f_ (.dict (eP ks))=.ok (cU ks):=by
 have e:f_ (.dict (eP ks))=if cp (eP ks)=true then .ok (.list ((eP ks).map (·.1))) else .no:=rfl
 rw [e,if_pos (q9 ks)]
 unfold eP;rw [cc];rfl
theorem Kq (ks:List Str):KH (.dict (eP ks)) (.dict [])=.ok (.bool ks.isEmpty):=by
 have e:KH (.dict (eP ks)) (.dict [])=if cp (eP ks)=true then .ok (.bool (eP ks).isEmpty) else .no:=rfl
 rw [e,if_pos (q9 ks)]
 cases ks<;>rfl
theorem My {fs:List Str}{es:List jC}{rows:List (List Str)}{s0 s2 s3 s5 s6 s7 s8 s9 s10 s11:Sl} (g:iM fs es) (hl:rows.flatten.length<=1000) (hr:rows.length<900) :
  ∃ s6' s8' s9',RJ [s0,.shr (dm fs es),s2,s3,.own (.list (rows.map cU)),s5,s6,s7,s8,s9,s10,s11]=if fL es rows=[] then .ok (.bk [s0,.shr (dm fs es),s2,s3,.own (.list (rows.map cU)),.own (cU rows.flatten),s6',.own (.dict (eP (fL es rows))),s8',s9',s10,s11])
   else .ok (.nx [s0,.shr (dm fs es),s2,s3,.own (.list ((rows++[fL es rows]).map cU)),.own (cU rows.flatten),s6',.own (.dict (eP (fL es rows))),s8',s9',s10,s11]):=by
 obtain ⟨s6',e1⟩:=Ko (s0:=s0) (s1:=.shr (dm fs es)) (s2:=s2) (s3:=s3) (s6:=s6) (s7:=s7) (s8:=s8) (s9:=s9) (s10:=s10) (s11:=s11) hl
 have l6:=g.len
 obtain ⟨s8',s9',e2⟩:=ET (s0:=s0) (s1:=.shr (dm fs es)) (s2:=s2) (s3:=s3) (s4:=.own (.list (rows.map cU))) (s6:=s6') (s10:=s10) (s11:=s11) (hv:=rows.flatten) es [] s8 s9 (fun e he=>⟨kz (g.ok e he).needs g.rise.len,kz (g.ok e he).makes g.rise.len⟩) (by rw [dZ];omega)
 refine ⟨s6',s8',s9',?_⟩
 unfold RJ
 rw [KI _ _ _ [s0,.shr (dm fs es),s2,s3,.own (.list (rows.map cU)),.own (.list []),s6,s7,s8,s9,s10,s11] rfl,KI _ _ _ _ e1]
 rw [KI _ _ _ [s0,.shr (dm fs es),s2,s3,.own (.list (rows.map cU)),.own (cU rows.flatten),s6',.own (.dict (eP [])),s8,s9,s10,s11] rfl]
 have e3:mR (jh (g2 (rB 1) (kI 1) bL)) (bJ 8) PJ [s0,.shr (dm fs es),s2,s3,.own (.list (rows.map cU)),.own (cU rows.flatten),s6',.own (.dict (eP [])),s8,s9,s10,s11]=jb (bJ 8) PJ (es.map fS) [s0,.shr (dm fs es),s2,s3,.own (.list (rows.map cU)),.own (cU rows.flatten),s6',.own (.dict (eP [])),s8,s9,s10,s11]:=rfl
 rw [KI _ _ _ _ (e3.trans e2)]
 have e4:i7 (g2 (rB 7) (fun _=>.ok (.dict [])) KH) [s0,.shr (dm fs es),s2,s3,.own (.list (rows.map cU)),.own (cU rows.flatten),s6',.own (.dict (eP (fL es rows))),s8',s9',s10,s11]=.ok (fL es rows).isEmpty:=by
  have:i7 (g2 (rB 7) (fun _=>.ok (.dict [])) KH) [s0,.shr (dm fs es),s2,s3,.own (.list (rows.map cU)),.own (cU rows.flatten),s6',.own (.dict (eP (fL es rows))),s8',s9',s10,s11]=(KH (.dict (eP (fL es rows))) (.dict [])).bind fun d=>match d with
   |.bool b=>.ok b
   |_=>.no:=rfl
  rw [this,Kq];rfl
 show aZ _ _ [s0,.shr (dm fs es),s2,s3,.own (.list (rows.map cU)),.own (cU rows.flatten),s6',.own (.dict (eP (fL es rows))),s8',s9',s10,s11]=_
 by_cases hm:fL es rows=[]
 ·rw [if_pos hm]
  unfold aZ gz
  rw [e4,hm];rfl
 ·rw [if_neg hm]
  have hb:(fL es rows).isEmpty=false:=by cases hx:fL es rows with|nil=>exact absurd hx hm|cons=>rfl
  rw [KI _ _ _ [s0,.shr (dm fs es),s2,s3,.own (.list (rows.map cU)),.own (cU rows.flatten),s6',.own (.dict (eP (fL es rows))),s8',s9',s10,s11] (by unfold gz;rw [e4,hb];rfl)]
  have e5:uS 4 (cu (J.ag (rB 7) J.aV) (jr f_)) [s0,.shr (dm fs es),s2,s3,.own (.list (rows.map cU)),.own (cU rows.flatten),s6',.own (.dict (eP (fL es rows))),s8',s9',s10,s11]=(f_ (.dict (eP (fL es rows)))).bind fun d=>if (rows.map cU).length<1000 then .ok (.nx [s0,.shr (dm fs es),s2,s3,.own (.list (rows.map cU++[d])),.own (cU rows.flatten),s6',.own (.dict (eP (fL es rows))),s8',s9',s10,s11]) else .no:=rfl
  rw [e5,Gj,bind_ok,if_pos (by rw [au];omega),cS]
  rfl
theorem BG {es:List jC}{rows:List (List Str)}{x:Str}:x∈fL es rows↔∃ e∈es,qo rows.flatten e=true/\x∈e.makes/\x∉rows.flatten:=by
 unfold fL;rw [kJ];simp only [aM,false_or];exact EM
def gQ (es:List jC):Nat->List (List Str)->List (List Str)
 | 0,rows=>rows
 |n+1,rows=>if fL es rows=[] then rows else gQ es n (rows++[fL es rows])
structure wE (fs:List Str) (rows:List (List Str)):Prop where
 nd:rows.flatten.Nodup
 sub:∀ x∈rows.flatten,x∈fs
 len:rows.length<=rows.flatten.length+1
theorem m_ (rows:List (List Str)) (m:List Str):(rows++[m]).flatten=rows.flatten++m:=by
 rw [List.flatten_append];simp
theorem wE.more {fs:List Str}{es:List jC}{rows:List (List Str)} (g:iM fs es) (h:wE fs rows) (hm:fL es rows≠[]):wE fs (rows++[fL es rows]):=by
 refine ⟨?_,?_,?_⟩
 ·rw [m_,mF]
  refine ⟨h.nd,jU _ _ ft,fun a ha b hb z=>?_⟩
  subst z
  obtain ⟨_,_,_,_,hn⟩:=BG.1 hb
  exact hn ha
 ·rw [m_]
  intro x hx
  rcases cf.1 hx with hx|hx
  ·exact h.sub x hx
  ·obtain ⟨e,he,_,hx,_⟩:=BG.1 hx
   exact (g.ok e he).makes.mem x hx
 ·rw [m_,aB,aB,eg]
  have:=h.len
  have:=rJ.2 hm
  omega
theorem Kr {t:ay->R Bool}{b:ay->R Fl}{n:Nat}{ρ ρ':ay} (h1:t ρ=.ok true) (h2:b ρ=.ok (.bk ρ')):gL t b (n+1) ρ=.ok (.nx ρ'):=by
 rw [gL,h1];simp only [h2]
theorem BH {fs:List Str}{es:List jC}{s0 s2 s3 s10 s11:Sl} (g:iM fs es):∀ (n N:Nat) (rows:List (List Str)) (s5 s6 s7 s8 s9:Sl),wE fs rows->fs.length-rows.flatten.length<=n->n<N ->
  ∃ s5' s6' s7' s8' s9',gL (i7 (kB true)) RJ N [s0,.shr (dm fs es),s2,s3,.own (.list (rows.map cU)),s5,s6,s7,s8,s9,s10,s11]=.ok (.nx [s0,.shr (dm fs es),s2,s3,.own (.list ((gQ es n rows).map cU)),s5',s6',s7',s8',s9',s10,s11])
 |n,0,_,_,_,_,_,_,_,_,hN=>absurd hN (Nat.not_lt_zero _)
 |n,N+1,rows,s5,s6,s7,s8,s9,h,hl,hN=>by
  have l6:=g.rise.len
  have l7:=ml _ _ h.nd h.sub
  have l8:=h.len
  obtain ⟨s6',s8',s9',e⟩:=My (s0:=s0) (s2:=s2) (s3:=s3) (s5:=s5) (s6:=s6) (s7:=s7) (s8:=s8) (s9:=s9) (s10:=s10) (s11:=s11) (rows:=rows) g (by omega) (by omega)
  by_cases hm:fL es rows=[]
  ·rw [if_pos hm] at e
   have er:gQ es n rows=rows:=by cases n with
    |zero=>rfl
    |succ n=>rw [gQ,if_pos hm]
   rw [er]
   exact ⟨_,_,_,_,_,Kr rfl e⟩
  ·rw [if_neg hm] at e
   have hk:=h.more g hm
   have l9:=ml _ _ hk.nd hk.sub
   have lp:=rJ.2 hm
   rw [m_,aB] at l9
   match n,hl,hN with
   | 0,hl,_=>omega
   |n+1,hl,hN =>
    obtain ⟨a,b,c,d,f,e2⟩:=BH (s0:=s0) (s2:=s2) (s3:=s3) (s10:=s10) (s11:=s11) g n N (rows++[fL es rows]) (.own (cU rows.flatten)) s6' (.own (.dict (eP (fL es rows)))) s8' s9' hk (by rw [m_,aB];omega) (by omega)
    refine ⟨a,b,c,d,f,?_⟩
    rw [EN rfl e,e2,gQ,if_neg hm]
def lI:Int->List (List Str)->List (Str×Int)
 |_,[]=>[]
 |k,r::rs=>(r.map fun x=>(x,k))++lI (k+1) rs
theorem yI (m:List Str):∀ (rows:List (List Str)) (k:Int),lI k (rows++[m])=lI k rows++m.map fun x=>(x,k+rows.length)
 |[],k=>by simp [lI]
 |r::rs,k=>by
  rw [v9,lI,yI m rs (k+1),lI,cC,bp]
  congr 3
  funext x
  congr 1
  omega
theorem pd:∀ (rows:List (List Str)) (k:Int),(lI k rows).map (·.1)=rows.flatten
 |[],_=>rfl
 |r::rs,k=>by
  rw [lI,cS,pd rs,mK,cc]
  congr 1
  exact (cb fun _ _=>rfl).trans (mJ _)
theorem Gk {a b:List Str} (es:List jC) (h:∀ x,x∈a↔x∈b):lH a es=lH b es:=by
 have e:(fun x=>decide (x∈a))=fun x=>decide (x∈b):=funext fun x=>by simp only [h x]
 have e2:qo a=qo b:=by unfold qo;rw [e]
 have e3:(fun x=>!decide (x∈a))=fun x=>!decide (x∈b):=funext fun x=>by simp only [h x]
 unfold lH
 rw [e2,e3]
theorem EU (es:List jC):∀ (n:Nat) (rows:List (List Str)) (ls:List (Str×Int)),ls.Perm (lI 0 rows)->(wC es n ls rows.length).Perm (lI 0 (gQ es n rows))
 | 0,_,_,h=>h
 |n+1,rows,ls,h=>by
  have hk:∀ x,x∈ls.map (·.1)↔x∈rows.flatten:=fun x=>by rw [<- pd rows 0];exact (h.map _).mem_iff
  have hp:(fX es (ls.map (·.1))).Perm (fL es rows):=by
   unfold fX fL srt
   rw [Gk es hk]
   exact ik _
  rw [wC,gQ]
  by_cases hm:fL es rows=[]
  ·rw [if_pos hm,if_pos (by rw [hm] at hp;exact hp.eq_nil)]
   exact h
  ·rw [if_neg hm,if_neg (fun z=>hm (by rw [z] at hp;exact hp.symm.eq_nil))]
   have:=EU es n (rows++[fL es rows]) (ls++(fX es (ls.map (·.1))).map fun x=>(x,(rows.length:Int))) (by
    rw [yI]
    refine h.append ?_
    simpa using hp.map fun x=>(x,(rows.length:Int)))
   rwa [aB,eg,Int.natCast_add] at this
def Rq:ay->R Fl:=u7 10 (fJ 1 [11] (jh (rB 6)) kT (fR (J.ag (rS 0) (J.ag (rS 1) J.aV)) .tuple))
theorem Ps {s0 s1 s2 s3 s4 s5 s7 s8 s9:Sl}{du:List (Str×Int)}{r:List Str}{k:Int} (hl:du.length+r.length<=1000) :
  Rq [s0,s1,s2,s3,s4,s5,.shr (cU r),s7,s8,s9,.own (.list (du.map mC)),.shr (.int k)]=.ok (.nx [s0,s1,s2,s3,s4,s5,.shr (cU r),s7,s8,s9,.own (.list ((du++r.map fun x=>(x,k)).map mC)),.shr (.int k)]):=by
 have ec:fJ 1 [11] (jh (rB 6)) kT (fR (J.ag (rS 0) (J.ag (rS 1) J.aV)) .tuple) [s0,s1,s2,s3,s4,s5,.shr (cU r),s7,s8,s9,.own (.list (du.map mC)),.shr (.int k)]=.ok (.list (r.map fun x=>mC (x,k))):=by
  unfold fJ
  have hi:jh (rB 6) [s0,s1,s2,s3,s4,s5,.shr (cU r),s7,s8,s9,.own (.list (du.map mC)),.shr (.int k)]=.ok (r.map aF):=rfl
  rw [hi,bind_ok,if_pos (by rw [au];omega),eO _ (fun x:Str=>aF x) (fun x=>mC (x,k)) r fun x hx=>hW rfl rfl,bind_ok]
 have e:Rq [s0,s1,s2,s3,s4,s5,.shr (cU r),s7,s8,s9,.own (.list (du.map mC)),.shr (.int k)]=(fJ 1 [11] (jh (rB 6)) kT (fR (J.ag (rS 0) (J.ag (rS 1) J.aV)) .tuple) [s0,s1,s2,s3,s4,s5,.shr (cU r),s7,s8,s9,.own (.list (du.map mC)),.shr (.int k)]).bind fun d=>match d with
  |.list es=>if (du.map mC).length+es.length<=1000 then .ok (.nx [s0,s1,s2,s3,s4,s5,.shr (cU r),s7,s8,s9,.own (.list (du.map mC++es)),.shr (.int k)]) else .no
  |_=>.no:=rfl
 rw [e,ec,bind_ok]
 dsimp only
 rw [if_pos (by rw [au,au];exact hl),cS,cc]
 rfl
theorem EV {s0 s1 s2 s3 s4 s5 s7 s8 s9:Sl}:∀ (rows:List (List Str)) (k:Nat) (du:List (Str×Int)) (s6 s11:Sl),du.length+rows.flatten.length<=1000 ->
  ∃ s6' s11',jb (nD 2 (de (bJ 11) (de (bJ 6) oV))) Rq (jV k (rows.map cU)) [s0,s1,s2,s3,s4,s5,s6,s7,s8,s9,.own (.list (du.map mC)),s11] =
   .ok (.nx [s0,s1,s2,s3,s4,s5,s6',s7,s8,s9,.own (.list ((du++lI k rows).map mC)),s11'])
 |[],k,du,s6,s11,_=>⟨s6,s11,by rw [lI,bC];rfl⟩
 |r::rows,k,du,s6,s11,hl=>by
  rw [mK,aB] at hl
  obtain ⟨s6',s11',e⟩:=EV (s0:=s0) (s1:=s1) (s2:=s2) (s3:=s3) (s4:=s4) (s5:=s5) (s7:=s7) (s8:=s8) (s9:=s9) rows (k+1) (du++r.map fun x=>(x,(k:Int))) (.shr (cU r)) (.shr (.int k)) (by rw [aB,au];omega)
  refine ⟨s6',s11',?_⟩
  rw [az,jV,pc (ρ1:=[s0,s1,s2,s3,s4,s5,.shr (cU r),s7,s8,s9,.own (.list (du.map mC)),.shr (.int k)]) rfl (Ps (by omega)),e,lI,cC]
  rfl
def Tx:ay->R Fl:=PB 4 (mR (Eg (J.ag (rS 4) J.aV)) (nD 2 (de (bJ 11) (de (bJ 6) oV))) Rq)
def SO:ay->R D:=g2 (iV 2 mZ (J.ag (rS 1) (J.ag (rS 2) J.aV))) (cu (J.ag (rB 10) J.aV) (jr lP)) (qT false)
theorem Gm:EC=aZ (xz (iV 3 iX (J.ag (rS 0) (J.ag (kI 6) (J.ag (kI 6) J.aV)))) (nD 3 (de (bJ 1) (de (bJ 2) (de (bJ 3) oV))))) (aZ (gj 4 (fR (J.ag (cu (J.ag (rB 2) J.aV) (jr f_)) J.aV) .list)) (aZ (gL (i7 (kB true)) RJ 100000) (aZ (gj 10 (fR J.aV .list)) (aZ Tx (gf SO))))):=rfl
theorem Pt {fs:List Str} (hf:∀ x∈fs,zM x=true) {ls:List (Str×Int)} (h:∀ x∈ls,x.1∈fs):qT false (.list (ls.map mC)) (.list (ls.map mC))=.ok (.bool true):=by
 have h1:(j9 (ls.map mC)).canLay0=true:=by
  simp only [fj]
  exact By mC ls fun x hx=>by
   have:=vp (hf _ (h x hx))
   simp only [fj] at this
   simp only [mC,fj,dO,this]
   rfl
 have h2:(j9 (ls.map mC)).depth<=60:=by
  have:=yF mC 1 (fun x=>by simp [mC,PyData.depth,og]) ls
  simp only [PyData.depth]
  omega
 unfold qT
 rw [h1,PySem.SeqAt.eqv_refl _ h1,decide_eq_true (bM (Nat.min_le_left _ _) h2)]
 rfl
theorem BI {fs:List Str}{es:List jC} (g:iM fs es):∀ (n:Nat) (rows:List (List Str)),wE fs rows->wE fs (gQ es n rows)
 | 0,_,h=>h
 |n+1,rows,h=>by
  rw [gQ]
  split
  ·exact h
  ·rename_i hm
   exact BI g n _ (h.more g hm)
theorem law_true (ns:List Int):F_law [.list (ns.map .int)]=.ok (.bool true):=by
 obtain ⟨fs,es,ss,wm,wb,hc,g,gs,gw,_⟩:=Mr ns 6 6 (by decide) (by decide) (by decide) (by decide)
 have nd:=im gs.up
 have r0:wE fs [ss]:=⟨by simpa using nd,by simpa using gs.mem,by simp⟩
 have l6:=g.rise.len
 have ok:=BI g 6 _ r0
 have l7:=ml _ _ ok.nd ok.sub
 have p:=EU es 6 [ss] (ss.map fun x=>(x,(0:Int))) (by rw [lI,lI,bC])
 have nn:(lI 0 (gQ es 6 [ss])).Nodup:=Do (by rw [pd];exact ok.nd)
 have nl:(lI 0 (gQ es 6 [ss])).length<=64:=by
  have:=congrArg qt (pd (gQ es 6 [ss]) 0)
  rw [au] at this
  omega
 have lay:=Gi g gs
 rw [Bl nn (show (wC es 6 (ss.map fun x=>(x,(0:Int))) 1).Perm (lI 0 (gQ es 6 [ss])) from p)] at lay
 obtain ⟨a,b,c,d,f,ew⟩:=BH (s0:=.shr (.list (ns.map .int))) (s2:=.shr (bN ss)) (s3:=.shr (wy wm wb)) (s10:=.no) (s11:=.no) g 6 100000 [ss] .no .no .no .no .no r0 (by omega) (by decide)
 obtain ⟨b',d',ed⟩:=EV (s0:=.shr (.list (ns.map .int))) (s1:=.shr (dm fs es)) (s2:=.shr (bN ss)) (s3:=.shr (wy wm wb)) (s4:=.shr (.list ((gQ es 6 [ss]).map cU))) (s5:=a) (s7:=c) (s8:=d) (s9:=f) (gQ es 6 [ss]) 0 [] b .no (by rw [dZ];omega)
 have e1:iV 3 iX (J.ag (rS 0) (J.ag (kI 6) (J.ag (kI 6) J.aV))) [.shr (.list (ns.map .int)),.no,.no,.no,.no,.no,.no,.no,.no,.no,.no,.no]=iX [.list (ns.map .int),.int 6,.int 6]:=rfl
 unfold F_law
 refine fe ?_
 rw [Gm]
 show aZ _ _ [.shr (.list (ns.map .int)),.no,.no,.no,.no,.no,.no,.no,.no,.no,.no,.no]=_
 rw [KI _ _ _ [.shr (.list (ns.map .int)),.shr (dm fs es),.shr (bN ss),.shr (wy wm wb),.no,.no,.no,.no,.no,.no,.no,.no] (by unfold xz;rw [e1,hc];rfl)]
 rw [KI _ _ _ [.shr (.list (ns.map .int)),.shr (dm fs es),.shr (bN ss),.shr (wy wm wb),.own (.list ([ss].map cU)),.no,.no,.no,.no,.no,.no,.no] rfl,KI _ _ _ _ ew]
 rw [KI _ _ _ [.shr (.list (ns.map .int)),.shr (dm fs es),.shr (bN ss),.shr (wy wm wb),.own (.list ((gQ es 6 [ss]).map cU)),a,b,c,d,f,.own (.list (([] : List (Str×Int)).map mC)),.no] rfl]
 have e2:Tx [.shr (.list (ns.map .int)),.shr (dm fs es),.shr (bN ss),.shr (wy wm wb),.own (.list ((gQ es 6 [ss]).map cU)),a,b,c,d,f,.own (.list (([] : List (Str×Int)).map mC)),.no]=jb (nD 2 (de (bJ 11) (de (bJ 6) oV))) Rq (jV 0 ((gQ es 6 [ss]).map cU)) [.shr (.list (ns.map .int)),.shr (dm fs es),.shr (bN ss),.shr (wy wm wb),.shr (.list ((gQ es 6 [ss]).map cU)),a,b,c,d,f,.own (.list (([] : List (Str×Int)).map mC)),.no]:=rfl
 rw [KI _ _ _ _ (e2.trans ed),kH,show ((0:Nat):Int)=0 from rfl]
 have e3:SO (d_ [.shr (.list (ns.map .int)),.shr (dm fs es),.shr (bN ss),.shr (wy wm wb),.shr (.list ((gQ es 6 [ss]).map cU)),a,b',c,d,f,.own (.list ((lI 0 (gQ es 6 [ss])).map mC)),d'])=(mZ [dm fs es,bN ss]).bind fun x=>(lP (.list ((lI 0 (gQ es 6 [ss])).map mC))).bind fun y=>qT false x y:=rfl
 have e4:lP (.list ((lI 0 (gQ es 6 [ss])).map mC))=.ok (.list ((mX (lI 0 (gQ es 6 [ss]))).map mC)):=by
  unfold lP
  simp only [ue]
  unfold lO
  rw [if_pos ⟨nn,nl⟩]
 show (SO (d_ _)).bind _=_
 rw [e3,lay,bind_ok,e4,bind_ok,Pt g.rise.ok fun x hx=>ok.sub _ (by
  rw [<- pd (gQ es 6 [ss]) 0]
  exact iG.2 ⟨x,(jA _).mem_iff.1 hx,rfl⟩)]
 rfl
end Z
end
namespace Z
open PySem L2 J
section
def vv (i:Nat):eJ:=PySem.Challenge.pw_errands_k15_layers.main.body.getD i (.Pass ⟨0,0,0,0⟩)
section
variable {e:En}
abbrev kC:eJ:=vv 9
abbrev sV:List Str:=["one","other"]
theorem xC:cr sV ["one","other"] (aN kC):=hX (by decide +kernel)
abbrev sW (e:En):=FN e "share_none" 1 2 jn
theorem xD (D:kK e.K e.mg "share_none" kC) (B:Bi e.mg):sW e:=wn (k:=0) (g:=ku) D xC b2 fun _ _ _ _ _ _ _ hr=>by unfold ku;exact (bc (cJ (OD (cH (OI rfl) rfl B.any PyProof.Rows.boot_any (bQ (JE.bor (JN.je (iO (N':=["fact","other"]) (ix:=[1]) 1 (by decide) rfl (cD (so:=aN kC) (N:=sV) (by decide +kernel)) (gK (aq 0)) (fun cl A0 s0 H0 ex pn=>⟨dA (i:=0) (by show (["fact","other"] : List Str).Nodup;decide +kernel) rfl (.inl rfl),fZ,(qS (Ix) (aq 0) (aq 1))⟩)))) cx)))))
abbrev qc:eJ:=vv 10
abbrev yJ:List Str:=["thing"]
theorem Dp:cr yJ ["thing"] (aN qc):=hX (by decide +kernel)
abbrev ug (e:En):=FN e "is_word" 1 1 mY
theorem Dq (D:kK e.K e.mg "is_word" qc) (B:Bi e.mg) (li:Cn e.mg "MOST_LETTERS" 6):ug e:=wn (k:=0) (g:=pU) D Dp b1 fun _ _ _ _ _ _ _ hr=>by unfold pU;exact (aQ (iB (JW.t (uw (iT (gZ (qV (aq 0) rfl B.isinstance rfl B.str PyProof.Rows.boot_str (by decide)))) (oP (iT (IH (yb) (yb) (JE.bor aP) (JE.bor (cH ki rfl B.len cP (bQ (aq 0) cx))) (JE.bor (sw rfl li))))))) (bc (cJ mP)) eu) (bc (cJ (cH (oT rfl) rfl B.all cW (bQ (JE.bor (JN.je (iO (N':=["sign"]) (ix:=[]) 1 (by decide) rfl (cD (so:=aN qc) (N:=yJ) (by decide +kernel)) (gK (aq 0)) (fun cl A0 s0 H0 ex pn=>⟨dA (i:=0) (by show (["sign"] : List Str).Nodup;decide +kernel) rfl (.inl rfl),fZ,(AV (yb) (yb) (JE.bor zm) (aq 0) (JE.bor zm))⟩)))) cx)))))
abbrev fg:eJ:=vv 11
abbrev iZ:List Str:=["thing"]
theorem qp:cr iZ ["thing"] (aN fg):=hX (by decide +kernel)
abbrev i_ (e:En):=FN e "are_rising_words" 2 1 fc
theorem qq (D:kK e.K e.mg "are_rising_words" fg) (B:Bi e.mg) (kM:ug e):i_ e:=wn (k:=1) (g:=gM) D qp b1 fun _ _ _ _ _ _ _ hr=>by unfold gM;exact (aQ (iB (JW.t (uw (iT (gZ (qV (aq 0) rfl B.isinstance rfl B.tuple bI (by decide)))) (oP (iT (gZ (cH (oT rfl) rfl B.all cW (bQ (JE.bor (JN.je (iO (N':=["word"]) (ix:=[]) 1 (by decide) rfl (cD (so:=aN fg) (N:=iZ) (by decide +kernel)) (gK (aq 0)) (fun cl A0 s0 H0 ex pn=>⟨dA (i:=0) (by show (["word"] : List Str).Nodup;decide +kernel) rfl (.inl rfl),fZ,(jc kM hr il (ak (av 0) bg))⟩)))) cx))))))) (bc (cJ mP)) eu) (bc (cJ (cH (oT rfl) rfl B.all cW (bQ (JE.bor (JN.je (iO (N':=["low","high"]) (ix:=[]) 2 (by decide) rfl (cD (so:=aN fg) (N:=iZ) (by decide +kernel)) (GN.i (LU rfl B.zip (ak (av 0) (ak (sx (aq 0) (vh aP) vg) bg)))) (fun cl A0 s0 H0 ex pn=>⟨Cs rfl (oK (dA (i:=0) (by show (["low","high"] : List Str).Nodup;decide +kernel) rfl (.inl rfl)) (oK (dA (i:=1) (by show (["low","high"] : List Str).Nodup;decide +kernel) rfl (.inl rfl)) yU)),fZ,(qS (y9) (aq 0) (aq 1))⟩)))) cx)))))
abbrev lZ:eJ:=vv 12
abbrev uA:List Str:=["book_facts","thing"]
theorem zW:cr uA ["book_facts","thing"] (aN lZ):=hX (by decide +kernel)
abbrev pf (e:En):=FN e "are_facts" 3 2 j5
theorem zX (D:kK e.K e.mg "are_facts" lZ) (B:Bi e.mg) (ef:i_ e):pf e:=wn (k:=2) (g:=lQ) D zW b2 fun _ _ _ _ _ _ _ hr=>by unfold lQ;exact (bc (cJ (Ip (jc ef hr px (ak (av 1) bg)) (Io (cH (oT rfl) rfl B.all cW (bQ (JE.bor (JN.je (iO (N':=["fact","book_facts"]) (ix:=[0]) 1 (by decide) rfl (cD (so:=aN lZ) (N:=uA) (by decide +kernel)) (gK (aq 1)) (fun cl A0 s0 H0 ex pn=>⟨dA (i:=0) (by show (["fact","book_facts"] : List Str).Nodup;decide +kernel) rfl (.inl rfl),fZ,(qS (Ix) (aq 0) (aq 1))⟩)))) cx))))))
abbrev r9:eJ:=vv 13
abbrev Dr:List Str:=["thing","least","most"]
theorem BJ:cr Dr ["thing","least","most"] (aN r9):=hX (by decide +kernel)
abbrev wF (e:En):=FN e "is_whole" 1 3 nJ
theorem BK (D:kK e.K e.mg "is_whole" r9) (B:Bi e.mg):wF e:=wn (k:=0) (g:=nI) D BJ b3 fun _ _ _ _ _ _ _ hr=>by unfold nI;exact (aQ (iB (JW.t (uw (iT (gZ (qV (aq 0) rfl B.isinstance rfl B.int PyProof.Rows.boot_int (by decide)))) (oP (gZ (qV (aq 0) rfl B.isinstance rfl B.bool PyProof.Rows.boot_bool (by decide)))))) (bc (cJ mP)) eu) (bc (cJ (AV (yb) (yb) (aq 1) (aq 0) (aq 2)))))
abbrev l_:eJ:=vv 14
abbrev uB:List Str:=["book_facts","thing","name","needs","bars","makes","ends","price"]
theorem gO:cr uB ["book_facts","thing"] (aN l_):=hX (by decide +kernel)
abbrev uC (e:En):=FN e "is_errand" 4 2 lS
theorem zY (D:kK e.K e.mg "is_errand" l_) (B:Bi e.mg) (kM:ug e) (rc:wF e) (j6:pf e) (kE:sW e) (nV:Cn e.mg "MOST_PRICE" 9):uC e:=wn (k:=3) (g:=lR) D gO b2 fun _ _ _ _ _ _ _ hr=>by have hu64:=hr.units;unfold lR;exact (aQ (iB (JW.t (uw (iT (gZ (qV (aq 1) rfl B.isinstance rfl B.tuple bI (by decide)))) (oP (g6 (DX hu64) (JE.bor (cH ki rfl B.len cP (bQ (aq 1) cx))) (JE.bor aP))))) (bc (cJ mP)) eu) (aQ (C_ (av 1) (tZ rfl (eC (dB 2 gO.nd) (eC (dB 3 gO.nd) (eC (dB 4 gO.nd) (eC (dB 5 gO.nd) (eC (dB 6 gO.nd) (eC (dB 7 gO.nd) pP)))))))) (aQ (iB (JW.t (uw (iT (gZ (jc kM hr px (ak (av 2) bg)))) (oP (iT (gZ (jc rc hr px (ak (av 7) (ak aP (ak (sw rfl nV) bg))))))))) (bc (cJ mP)) eu) (aQ (iB (iT (gZ (cH (oT rfl) rfl B.all cW (bQ (JE.bor (JN.je (iO (N':=["facts","book_facts"]) (ix:=[0]) 1 (by decide) rfl (cD (so:=aN l_) (N:=uB) (by decide +kernel)) (gK (JE.bor (nB (ak (av 3) (ak (av 4) (ak (av 5) (ak (av 6) bg))))))) (fun cl A0 s0 H0 ex pn=>⟨dA (i:=0) (by show (["facts","book_facts"] : List Str).Nodup;decide +kernel) rfl (.inl rfl),fZ,(jc j6 hr il (ak (av 1) (ak (av 0) bg)))⟩)))) cx)))) (bc (cJ mP)) eu) (bc (cJ (Ip (jc kE hr px (ak (av 3) (ak (av 4) bg))) (Io (jc kE hr px (ak (av 5) (ak (av 6) bg)))))))))))
abbrev n5:eJ:=vv 15
abbrev uh:List Str:=["thing","facts","errands"]
theorem re:cr uh ["thing"] (aN n5):=hX (by decide +kernel)
abbrev yK (e:En):=FN e "is_book" 5 1 pW
theorem Ds (D:kK e.K e.mg "is_book" n5) (B:Bi e.mg) (ef:i_ e) (ph:uC e) (nW:Cn e.mg "MOST_FACTS" 6) (ll:Cn e.mg "MOST_ERRANDS" 6):yK e:=wn (k:=4) (g:=pV) D re b1 fun _ _ _ _ _ _ _ hr=>by have hu1:=o6 hr;have hu64:=hr.units;unfold pV;exact (aQ (iB (JW.t (uw (iT (gZ (qV (aq 0) rfl B.isinstance rfl B.tuple bI (by decide)))) (oP (g6 (DX hu64) (JE.bor (cH ki rfl B.len cP (bQ (aq 0) cx))) (JE.bor aP))))) (bc (cJ mP)) eu) (aQ (C_ (av 0) (tZ rfl (eC (dB 1 re.nd) (eC (dB 2 re.nd) pP)))) (aQ (iB (JW.t (uw (iT (gZ (jc ef hr px (ak (av 1) bg)))) (oP (g6 (MU) (JE.bor (cH ki rfl B.len cP (bQ (aq 1) cx))) (JE.bor (sw rfl nW)))))) (bc (cJ mP)) eu) (aQ (iB (JW.t (uw (iT (gZ (qV (aq 2) rfl B.isinstance rfl B.tuple bI (by decide)))) (oP (g6 (MU) (JE.bor (cH ki rfl B.len cP (bQ (aq 2) cx))) (JE.bor (sw rfl ll)))))) (bc (cJ mP)) eu) (aQ (iB (iT (gZ (cH (oT rfl) rfl B.all cW (bQ (JE.bor (JN.je (iO (N':=["errand","facts"]) (ix:=[1]) 1 (by decide) rfl (cD (so:=aN n5) (N:=uh) (by decide +kernel)) (gK (aq 2)) (fun cl A0 s0 H0 ex pn=>⟨dA (i:=0) (by show (["errand","facts"] : List Str).Nodup;decide +kernel) rfl (.inl rfl),fZ,(jc ph hr il (ak (av 1) (ak (av 0) bg)))⟩)))) cx)))) (bc (cJ mP)) eu) (bc (cJ (qS (vW hu64) (JE.bor (FM (II (N':=["errand"]) (ix:=[]) 1 (by decide) rfl (cD (so:=aN n5) (N:=uh) (by decide +kernel)) (gK (aq 2)) (fun cl A0 s0 H0 ex pn=>⟨dA (i:=0) (by show (["errand"] : List Str).Nodup;decide +kernel) rfl (.inl rfl),fZ,(dJ hu1 (aq 0) (JE.bor aP))⟩)) rfl B.len)) (JE.bor (cH ki rfl B.len cP (bQ (aq 2) cx)))))))))))
abbrev mn:eJ:=vv 16
abbrev xE:List Str:=["book","state"]
theorem wG:cr xE ["book","state"] (aN mn):=hX (by decide +kernel)
abbrev qF (e:En):=FN e "check_state" 4 2 jJ
theorem wH (D:kK e.K e.mg "check_state" mn) (j6:pf e):qF e:=wn (k:=3) (g:=jI) D wG b2 fun _ _ _ _ _ _ _ hr=>by have hu1:=o6 hr;unfold jI;exact (bc (iB (iT (gZ (jc j6 hr px (ak (dJ hu1 (aq 0) (JE.bor aP)) (ak (av 1) bg))))) (bc B8) eu))
abbrev ui:eJ:=vv 17
abbrev Gn:List Str:=["book"]
theorem Dt:cr Gn ["book"] (aN ui):=hX (by decide +kernel)
abbrev yL (e:En):=FN e "checked" 6 1 pY
theorem Du (D:kK e.K e.mg "checked" ui) (uj:yK e):yL e:=wn (k:=5) (g:=pX) D Dt b1 fun _ _ _ _ _ _ _ hr=>by unfold pX;exact (aQ (iB (iT (gZ (jc uj hr px (ak (av 0) bg)))) (bc B8) eu) (bc (cJ (av 0))))
abbrev mo:eJ:=vv 18
abbrev xF:List Str:=["book","state"]
theorem wI:cr xF ["book","state"] (aN mo):=hX (by decide +kernel)
abbrev qG (e:En):=FN e "check_place" 7 2 gT
theorem wJ (D:kK e.K e.mg "check_place" mo) (uk:yL e) (mq:qF e):qG e:=wn (k:=6) (g:=jK) D wI b2 fun _ _ _ _ _ _ _ hr=>by unfold jK;exact (aQ (zu (jc uk hr px (ak (av 0) bg))) (bc (zu (jc mq hr px (ak (av 0) (ak (av 1) bg))))))
abbrev jX:eJ:=vv 20
abbrev pi:List Str:=["book","layer_of","ready"]
theorem sX:cr pi ["book","layer_of"] (aN jX):=hX (by decide +kernel)
abbrev uD (e:En):=FN e "made_next" 1 2 eS
theorem zZ (D:kK e.K e.mg "made_next" jX) (B:Bi e.mg):uD e:=wn (k:=0) (g:=lT) D sX b2 fun _ _ _ _ _ _ _ hr=>by have hu1:=o6 hr;unfold lT;exact (aQ (kY 2 (N':=["errand","layer_of"]) (ix:=[1]) 1 (by decide) sX.nd rfl (cD (so:=aN jX) (N:=pi) (by decide +kernel)) (gK (JE.bor (dJ hu1 (aq 0) (JE.bor aP)))) (fun cl A0 s0 H0 ex pn=>⟨dA (i:=0) (by show (["errand","layer_of"] : List Str).Nodup;decide +kernel) rfl (.inl rfl),(sB (gZ (cH (oT rfl) rfl B.all cW (bQ (JE.bor (JN.je (iO (N':=["fact","layer_of"]) (ix:=[1]) 1 (by decide) rfl (cD (N:=["errand","layer_of"]) (by kernel_rfl) rfl) (gK (JE.bor (dJ hu1 (aq 0) (JE.bor aP)))) (fun cl A0 s0 H0 ex pn=>⟨dA (i:=0) (by show (["fact","layer_of"] : List Str).Nodup;decide +kernel) rfl (.inl rfl),fZ,(qS (P9 hu1) (aq 0) (aq 1))⟩)))) cx)))),(av 0)⟩)) (bc (cJ (wc rfl (FY (N':=["errand","fact","layer_of"]) (ix:=[1]) 1 (by decide) rfl (cD (so:=aN jX) (N:=pi) (by decide +kernel)) (gK (aq 2)) (fun cl A0 s0 H0 ex pn=>⟨dA (i:=0) (by show (["errand","fact","layer_of"] : List Str).Nodup;decide +kernel) rfl (.inl rfl),fZ,(gK (JE.bor (dJ hu1 (aq 0) (JE.bor aP)))),dA (i:=1) (by show (["errand","fact","layer_of"] : List Str).Nodup;decide +kernel) rfl (.inl rfl),(sB (g6 (F_ hu1) (aq 1) (aq 2))),(av 1)⟩)) rfl B.sorted))))
abbrev jq:eJ:=vv 21
abbrev pj:List Str:=["book","state","layer_of","layer","made","fact"]
theorem eL:cr pj ["book","state"] (aN jq):=hX (by decide +kernel)
abbrev pp (e:En):=FN e "first_layers" 2 2 gm
theorem uV (D:kK e.K e.mg "first_layers" jq) (m5:uD e):pp e:=wn (k:=1) (g:=jo) D eL b2 fun _ _ _ _ _ _ _ hr=>by have hu1:=o6 hr;unfold jo;exact (aQ (zH 2 (N':=["fact"]) (ix:=[]) 1 (by decide) hu1 eL.nd rfl (cD (so:=aN jq) (N:=pj) (by decide +kernel)) (gK (aq 1)) (fun cl A0 s0 H0 ex pn=>⟨dA (i:=0) (by show (["fact"] : List Str).Nodup;decide +kernel) rfl (.inl rfl),fZ,(av 0),aP⟩)) (aQ (gJ 3 aP eL.nd) (aQ (gJ 4 (Tr yo m5 hr px (Ei (av 0) (Jv 2 Ju))) eL.nd) (aQ (AT 100000 (OX (aq 4)) (aQ (E3 4 rfl (dB 5 eL.nd) (bc (vj 2 (av 3) (av 5) hu1))) (aQ (O_ 3 aP eL.nd) (bc (gJ 4 (Tr yo m5 hr il (Ei (av 0) (Jv 2 Ju))) eL.nd))))) (bc (cJ (av 2)))))))
abbrev wK:eJ:=vv 22
abbrev Ks:List Str:=["book","state"]
theorem Go:cr Ks ["book","state"] (aN wK):=hX (by decide +kernel)
abbrev BL (e:En):=FN e "layers" 8 2 mZ
theorem Gp (D:kK e.K e.mg "layers" wK) (B:Bi e.mg) (ms:qG e) (lm:pp e):BL e:=wn (k:=7) (g:=sO) D Go b2 fun _ _ _ _ _ _ _ hr=>by have hu64:=hr.units;unfold sO;exact (aQ (zu (jc ms hr px (ak (av 0) (ak (av 1) bg)))) (bc (cJ (zK rfl hu64 (jc lm hr px (ak (av 0) (ak (av 1) bg))) rfl B.sorted))))
abbrev mv:eJ:=vv 24
abbrev xG:List Str:=["_law_script","_law_k"]
theorem wL:cr xG ["_law_script","_law_k"] (aN mv):=hX (by decide +kernel)
abbrev qH (e:En):=FN e "_law_cell_at" 1 2 jM
theorem wM (D:kK e.K e.mg "_law_cell_at" mv) (B:Bi e.mg):qH e:=wn (k:=0) (g:=jL) D wL b2 fun _ _ _ _ _ _ _ hr=>by have hu1:=o6 hr;have hu64:=hr.units;unfold jL;exact (aQ (iB (g6 (y9) (aq 1) (JE.bor (cH ki rfl B.len cP (bQ (aq 0) cx)))) (bc (cJ (dJ hu1 (aq 0) (aq 1)))) eu) (aQ (iB (g6 (vW hu64) (aq 0) (JE.bor (nC bg))) (bc (cJ aP)) eu) (bc (cJ (bS c_ (JE.bor (bS oR (JE.bor (dJ hu1 (aq 0) (JE.bor (bS zq (aq 1) (JE.bor (cH ki rfl B.len cP (bQ (aq 0) cx))))))) (JE.bor aP))) (aq 1))))))
abbrev pz:eJ:=vv 25
abbrev BM:List Str:=["_law_script","_law_k","_law_many","_law_drawn"]
theorem sY:cr BM ["_law_script","_law_k","_law_many"] (aN pz):=hX (by decide +kernel)
abbrev fM (e:En):=FN e "_law_mixed" 2 3 br
theorem z_ (D:kK e.K e.mg "_law_mixed" pz) (mw:qH e):fM e:=wn (k:=1) (g:=lU) D sY b3 fun _ _ _ _ _ _ _ hr=>by unfold lU;exact (aQ (gJ 3 (bS zq (JE.bor (bS oR (JE.bor (bS c_ (JE.bor (bS c_ (JE.bor (jc mw hr px (ak (av 0) (ak (av 1) bg)))) (JE.bor (bS oR (JE.bor aP) (aq 1))))) (JE.bor aP))) (JE.bor aP))) (JE.bor aP)) sY.nd) (bc (cJ (bS zq (JE.bor (bS zq (JE.bor (bS c_ (JE.bor (bS c_ (JE.bor (bS oR (aq 3) (aq 3))) (JE.bor (bS oR (JE.bor aP) (aq 3))))) (aq 1))) (JE.bor aP))) (aq 2)))))
abbrev rf:eJ:=vv 26
abbrev Dv:List Str:=["_law_script","_law_at","_law_made","_law_k"]
theorem m6:cr Dv ["_law_script","_law_at"] (aN rf):=hX (by decide +kernel)
abbrev rg (e:En):=FN e "_law_word" 3 2 jB
theorem BN (D:kK e.K e.mg "_law_word" rf) (B:Bi e.mg) (aX:fM e):rg e:=wn (k:=2) (g:=nK) D m6 b2 fun _ _ _ _ _ _ _ hr=>by have hu1:=o6 hr;unfold nK;exact (aQ (gJ 2 zm m6.nd) (aQ (nF rfl (qW rfl B.range (bQ (JE.bor (dJ hu1 (JE.bor (nC (ak aP (ak aP (ak aP (ak aP (ak aP (ak aP bg)))))))) (JE.bor (jc aX hr il (ak (av 0) (ak (av 1) (ak aP bg))))))) cx)) (dB 3 m6.nd) (bc (gJ 2 (bS c_ (aq 2) (JE.bor (dJ hu1 (JE.bor zm) (JE.bor (jc aX hr il (ak (av 0) (ak (bS c_ (JE.bor (bS c_ (aq 1) (JE.bor aP))) (aq 3)) (ak aP bg)))))))) m6.nd))) (bc (cJ (av 2)))))
abbrev pA:eJ:=vv 27
abbrev BO:List Str:=["_law_script","_law_at","_law_most","_law_found","_law_k"]
theorem nX:cr BO ["_law_script","_law_at","_law_most"] (aN pA):=hX (by decide +kernel)
abbrev uE (e:En):=FN e "_law_facts" 4 3 lW
theorem A1 (D:kK e.K e.mg "_law_facts" pA) (B:Bi e.mg) (jD:rg e) (aX:fM e):uE e:=wn (k:=3) (g:=lV) D nX b3 fun _ _ _ _ _ _ _ hr=>by have hu1:=o6 hr;unfold lV;exact (aQ (lM 3 vi nX.nd) (aQ (nF rfl (qW rfl B.range (bQ (JE.bor (jc aX hr il (ak (av 0) (ak (av 1) (ak (bS c_ (aq 2) (JE.bor aP)) bg))))) cx)) (dB 4 nX.nd) (bc (vj 3 mP (jc jD hr il (ak (av 0) (ak (bS c_ (JE.bor (bS c_ (aq 1) (JE.bor aP))) (JE.bor (bS oR (JE.bor aP) (aq 4)))) bg))) hu1))) (bc (cJ (g9 (kX rfl) rfl B.tuple bI (bQ (JE.bor (cH FK rfl B.sorted ip (bQ (JE.bor (g9 (sH rfl) rfl B.list iN (bQ (aq 3) cx))) cx))) cx))))))
abbrev nY:eJ:=vv 28
abbrev wN:List Str:=["_law_script","_law_at","_law_facts_here","_law_part"]
theorem BP:cr wN ["_law_script","_law_at","_law_facts_here","_law_part"] (aN nY):=hX (by decide +kernel)
abbrev wO (e:En):=FN e "_law_some" 3 4 nM
theorem BQ (D:kK e.K e.mg "_law_some" nY) (B:Bi e.mg) (aX:fM e):wO e:=wn (k:=2) (g:=nL) D BP b4 fun _ _ _ _ _ _ _ hr=>by unfold nL;exact (bc (cJ (g9 (kX rfl) rfl B.tuple bI (bQ (JE.bor (JN.je (iO (N':=["_law_k","_law_fact","_law_script","_law_at","_law_part"]) (ix:=[0,1,3]) 2 (by decide) rfl (cD (so:=aN nY) (N:=wN) (by decide +kernel)) (GN.i (vZ rfl B.enumerate (ak (av 2) bg))) (fun cl A0 s0 H0 ex pn=>⟨Cs rfl (oK (dA (i:=0) (by show (["_law_k","_law_fact","_law_script","_law_at","_law_part"] : List Str).Nodup;decide +kernel) rfl (.inl rfl)) (oK (dA (i:=1) (by show (["_law_k","_law_fact","_law_script","_law_at","_law_part"] : List Str).Nodup;decide +kernel) rfl (.inl rfl)) yU)),(sB (g6 (y9) (JE.bor (jc aX hr il (ak (av 2) (ak (bS c_ (aq 3) (aq 0)) (ak aP bg))))) (aq 4))),(av 1)⟩)))) cx))))
abbrev jE:eJ:=vv 29
abbrev nZ:List Str:=["_law_script","_law_at","_law_facts_here","_law_name","_law_one","_law_two","_law_goal","_law_needs","_law_bars","_law_ends","_law_parts"]
theorem gC:cr nZ ["_law_script","_law_at","_law_facts_here","_law_name"] (aN jE):=hX (by decide +kernel)
abbrev wP (e:En):=FN e "_law_thin" 3 4 nO
theorem BR (D:kK e.K e.mg "_law_thin" jE) (B:Bi e.mg) (aX:fM e):wP e:=wn (k:=2) (g:=nN) D gC b4 fun _ _ _ _ _ _ _ hr=>by have hu1:=o6 hr;have hu64:=hr.units;unfold nN;exact (aQ (gJ 4 (dJ hu1 (aq 2) (JE.bor (jc aX hr px (ak (av 0) (ak (bS c_ (aq 1) (JE.bor aP)) (ak (cH ki rfl B.len cP (bQ (aq 2) cx)) bg)))))) gC.nd) (aQ (gJ 5 (dJ hu1 (aq 2) (JE.bor (jc aX hr px (ak (av 0) (ak (bS c_ (aq 1) (JE.bor aP)) (ak (cH ki rfl B.len cP (bQ (aq 2) cx)) bg)))))) gC.nd) (aQ (gJ 6 (dJ hu1 (aq 2) (JE.bor (jc aX hr px (ak (av 0) (ak (bS c_ (aq 1) (JE.bor aP)) (ak (cH ki rfl B.len cP (bQ (aq 2) cx)) bg)))))) gC.nd) (aQ (gJ 7 (sx (JE.bor (nC (ak (av 4) (ak (av 5) bg)))) vg (vh (bS c_ (JE.bor aP) (JE.bor (bS LM (JE.bor (jc aX hr px (ak (av 0) (ak (bS c_ (aq 1) (JE.bor aP)) (ak aP bg))))) (JE.bor aP)))))) gC.nd) (aQ (kY 8 (N':=["_law_fact","_law_needs","_law_script","_law_at"]) (ix:=[7,0,1]) 1 (by decide) gC.nd rfl (cD (so:=aN jE) (N:=nZ) (by decide +kernel)) (gK (JE.bor (nC (ak (av 6) bg)))) (fun cl A0 s0 H0 ex pn=>⟨dA (i:=0) (by show (["_law_fact","_law_needs","_law_script","_law_at"] : List Str).Nodup;decide +kernel) rfl (.inl rfl),(sB (JW.t (CT (g6 (AM) (aq 0) (aq 1)) (zo (g6 (vW hu64) (JE.bor (jc aX hr il (ak (av 2) (ak (bS c_ (aq 3) (JE.bor aP)) (ak aP bg))))) (JE.bor aP)))))),(av 0)⟩)) (aQ (kY 9 (N':=["_law_fact","_law_goal","_law_script","_law_at"]) (ix:=[6,0,1]) 1 (by decide) gC.nd rfl (cD (so:=aN jE) (N:=nZ) (by decide +kernel)) (gK (JE.bor (nC (ak (av 4) bg)))) (fun cl A0 s0 H0 ex pn=>⟨dA (i:=0) (by show (["_law_fact","_law_goal","_law_script","_law_at"] : List Str).Nodup;decide +kernel) rfl (.inl rfl),(sB (JW.t (CT (g6 (DX hu64) (aq 0) (aq 1)) (zo (g6 (vW hu64) (JE.bor (jc aX hr il (ak (av 2) (ak (bS c_ (aq 3) (JE.bor aP)) (ak aP bg))))) (JE.bor aP)))))),(av 0)⟩)) (aQ (D4 8 (D4 9 (kY 10 (N':=["_law_part"]) (ix:=[]) 1 (by decide) gC.nd rfl (cD (so:=aN jE) (N:=nZ) (by decide +kernel)) (gK (JE.bor (nB (ak (av 7) (ak (av 8) (ak (nC (ak (av 6) bg)) (ak (av 9) bg))))))) (fun cl A0 s0 H0 ex pn=>⟨dA (i:=0) (by show (["_law_part"] : List Str).Nodup;decide +kernel) rfl (.inl rfl),fZ,(g9 (kX rfl) rfl B.tuple bI (bQ (JE.bor (wc rfl (ON rfl (aq 0) rfl B.set) rfl B.sorted)) cx))⟩)))) (bc (cJ (nB (ak (av 3) (ak (dJ hu1 (aq 10) (JE.bor aP)) (ak (dJ hu1 (aq 10) (JE.bor aP)) (ak (dJ hu1 (aq 10) (JE.bor aP)) (ak (dJ hu1 (aq 10) (JE.bor aP)) (ak (jc aX hr px (ak (av 0) (ak (av 1) (ak aP bg)))) bg))))))))))))))))
abbrev kF:eJ:=vv 30
abbrev sZ:List Str:=["_law_script","_law_at","_law_facts_here","_law_name","_law_parts","_law_k","_law_fact","_law_way","_law_some_here"]
theorem fU:cr sZ ["_law_script","_law_at","_law_facts_here","_law_name"] (aN kF):=hX (by decide +kernel)
abbrev s_ (e:En):=FN e "_law_errand" 4 4 iy
theorem xH (D:kK e.K e.mg "_law_errand" kF) (B:Bi e.mg) (aX:fM e) (rh:wP e):s_ e:=wn (k:=3) (g:=iw) D fU b4 fun _ _ _ _ _ _ _ hr=>by have hu1:=o6 hr;have hu64:=hr.units;unfold iw;exact (aQ (iB (JW.t (CT (g6 (DX hu64) (aq 2) (JE.bor (nB bg))) (zo (g6 (vW hu64) (JE.bor (jc aX hr px (ak (av 0) (ak aP (ak aP bg))))) (JE.bor aP))))) (bc (cJ (jc rh hr px (ak (av 0) (ak (av 1) (ak (av 2) (ak (av 3) bg))))))) eu) (aQ (OO 4 fU.nd) (aQ (nF rfl (vZ rfl B.enumerate (ak (av 2) bg)) (tZ rfl (eC (dB 5 fU.nd) (eC (dB 6 fU.nd) pP))) (aQ (gJ 7 (jc aX hr il (ak (av 0) (ak (bS c_ (JE.bor (bS c_ (aq 1) (JE.bor aP))) (aq 5)) (ak aP bg)))) fU.nd) (aQ (iB (g6 (y9) (aq 7) (JE.bor aP)) (bc (wg 4 (dJ hu1 (JE.bor (nC (ak aP (ak aP (ak aP bg))))) (aq 7)) (av 6))) eu) (aQ (gJ 7 (jc aX hr il (ak (av 0) (ak (bS c_ (JE.bor (bS c_ (aq 1) (JE.bor aP))) (aq 5)) (ak aP bg)))) fU.nd) (bc (iB (g6 (y9) (aq 7) (JE.bor aP)) (bc (wg 4 (dJ hu1 (JE.bor (nC (ak aP (ak aP (ak aP (ak aP bg)))))) (aq 7)) (av 6))) eu)))))) (aQ (IJ (kY 8 (N':=["_law_part"]) (ix:=[]) 1 (by decide) fU.nd rfl (cD (so:=aN kF) (N:=sZ) (by decide +kernel)) (gK (aq 4)) (fun cl A0 s0 H0 ex pn=>⟨dA (i:=0) (by show (["_law_part"] : List Str).Nodup;decide +kernel) rfl (.inl rfl),fZ,(g9 (kX rfl) rfl B.tuple bI (bQ (aq 0) cx))⟩))) (bc (cJ (nB (ak (av 3) (ak (dJ hu1 (aq 8) (JE.bor aP)) (ak (dJ hu1 (aq 8) (JE.bor aP)) (ak (dJ hu1 (aq 8) (JE.bor aP)) (ak (dJ hu1 (aq 8) (JE.bor aP)) (ak (jc aX hr px (ak (av 0) (ak (av 1) (ak aP bg)))) bg)))))))))))))
abbrev n_:eJ:=vv 31
abbrev wQ:List Str:=["_law_script","_law_at","_law_most","_law_many","_law_facts_here","_law_made","_law_k","_law_name","_law_names","_law_turn"]
theorem io:cr wQ ["_law_script","_law_at","_law_most","_law_many"] (aN n_):=hX (by decide +kernel)
abbrev wR (e:En):=FN e "_law_book" 5 4 lc
theorem BS (D:kK e.K e.mg "_law_book" n_) (B:Bi e.mg) (pB:uE e) (jD:rg e) (o0:s_ e) (aX:fM e):wR e:=wn (k:=4) (g:=l5) D io b4 fun _ _ _ _ _ _ _ hr=>by have hu1:=o6 hr;unfold l5;exact (aQ (gJ 4 (jc pB hr px (ak (av 0) (ak (av 1) (ak (av 2) bg)))) io.nd) (aQ (lM 5 vi io.nd) (aQ (nF rfl (qW rfl B.range (bQ (JE.bor (jc aX hr il (ak (av 0) (ak (bS c_ (aq 1) (JE.bor aP)) (ak (bS c_ (aq 3) (JE.bor aP)) bg))))) cx)) (dB 6 io.nd) (aQ (gJ 7 (jc jD hr il (ak (av 0) (ak (bS c_ (JE.bor (bS c_ (aq 1) (JE.bor aP))) (JE.bor (bS oR (JE.bor aP) (aq 6)))) bg))) io.nd) (bc (vj 5 (jc o0 hr il (ak (av 0) (ak (bS c_ (JE.bor (bS c_ (aq 1) (JE.bor aP))) (JE.bor (bS oR (JE.bor aP) (aq 6)))) (ak (av 4) (ak (av 7) bg))))) (av 7) hu1)))) (aQ (gJ 8 (g9 (sH rfl) rfl B.list iN (bQ (aq 5) cx)) io.nd) (aQ (gJ 9 (jc aX hr px (ak (av 0) (ak (bS c_ (aq 1) (JE.bor aP)) (ak (bS c_ (JE.bor (cH ki rfl B.len cP (bQ (aq 8) cx))) (JE.bor aP)) bg)))) io.nd) (bc (cJ (nB (ak (av 4) (ak (g9 (kX rfl) rfl B.tuple bI (bQ (JE.bor (JN.je (iO (N':=["_law_name","_law_made"]) (ix:=[5]) 1 (by decide) rfl (cD (so:=aN n_) (N:=wQ) (by decide +kernel)) (gK (JE.bor (bS c_ (JE.bor (sx (aq 8) (vh (av 9)) vg)) (JE.bor (sx (aq 8) vg (vh (av 9))))))) (fun cl A0 s0 H0 ex pn=>⟨dA (i:=0) (by show (["_law_name","_law_made"] : List Str).Nodup;decide +kernel) rfl (.inl rfl),fZ,(dJ hu1 (aq 1) (aq 0))⟩)))) cx)) bg))))))))))
abbrev rj:eJ:=vv 32
abbrev Dw:List Str:=["_law_script","_law_at","_law_facts_here","_law_must","_law_bars","_law_k","_law_fact","_law_way"]
theorem j7:cr Dw ["_law_script","_law_at","_law_facts_here"] (aN rj):=hX (by decide +kernel)
abbrev wS (e:En):=FN e "_law_want" 3 3 r6
theorem BU (D:kK e.K e.mg "_law_want" rj) (B:Bi e.mg) (aX:fM e):wS e:=wn (k:=2) (g:=lf) D j7 b3 fun _ _ _ _ _ _ _ hr=>by have hu64:=hr.units;unfold lf;exact (aQ (lM 3 (v_ bg) j7.nd) (aQ (lM 4 (v_ bg) j7.nd) (aQ (nF rfl (vZ rfl B.enumerate (ak (av 2) bg)) (tZ rfl (eC (dB 5 j7.nd) (eC (dB 6 j7.nd) pP))) (aQ (gJ 7 (jc aX hr il (ak (av 0) (ak (bS c_ (aq 1) (aq 5)) (ak aP bg)))) j7.nd) (bc (iB (g6 (y9) (aq 7) (JE.bor aP)) (bc (u4 3 (av 6))) (bc (iB (g6 (vW hu64) (aq 7) (JE.bor aP)) (bc (u4 4 (av 6))) eu)))))) (bc (cJ (nB (ak (g9 (kX rfl) rfl B.tuple bI (bQ (aq 3) cx)) (ak (g9 (kX rfl) rfl B.tuple bI (bQ (aq 4) cx)) bg))))))))
abbrev rm:eJ:=vv 33
abbrev Dx:List Str:=["_law_script","_law_most","_law_many","_law_book_here","_law_state"]
theorem pC:cr Dx ["_law_script","_law_most","_law_many"] (aN rm):=hX (by decide +kernel)
abbrev wT (e:En):=FN e "_law_case" 6 3 iX
theorem BV (D:kK e.K e.mg "_law_case" rm) (rn:wR e) (aX:fM e) (ro:wO e) (rq:wS e):wT e:=wn (k:=5) (g:=nP) D pC b3 fun _ _ _ _ _ _ _ hr=>by have hu1:=o6 hr;unfold nP;exact (aQ (gJ 3 (jc rn hr px (ak (av 0) (ak aP (ak (av 1) (ak (av 2) bg))))) pC.nd) (aQ (gJ 4 (jc ro hr px (ak (av 0) (ak aP (ak (dJ hu1 (aq 3) (JE.bor aP)) (ak (dJ hu1 (JE.bor (nC (ak aP (ak aP bg)))) (JE.bor (jc aX hr px (ak (av 0) (ak aP (ak aP bg)))))) bg))))) pC.nd) (bc (cJ (nB (ak (av 3) (ak (av 4) (ak (jc rq hr px (ak (av 0) (ak aP (ak (dJ hu1 (aq 3) (JE.bor aP)) bg)))) bg))))))))
abbrev qI:eJ:=vv 34
abbrev Kt:List Str:=["_law_script","_law_book_here","_law_state","_law_want_here","_law_rows","_law_have","_law_row","_law_more","_law_errand_here","_law_fact","_law_due","_law_turn"]
theorem jF:cr Kt ["_law_script"] (aN qI):=hX (by decide +kernel)
theorem Pu {f:ah}{fd:eQ} (F:Ft e.K "law" "law" qI f fd) (B:Bi e.mg) (rz:wT e) (wU:BL e):qi e.P e.w e.K e.mg e.base (w_ e.P e.w) 9 f fd ["_law_script"] (LP e.K e.cls 1 F_law):=by
 refine N0 (k:=8) (g:=EC) F jF fun cdv A outer s H E hr=>?_
 have hu1:=o6 hr
 have hu64:=hr.units
 unfold EC
 exact (aQ (C_ (jc rz hr px (ak (av 0) (ak aP (ak aP bg)))) (tZ rfl (eC (dB 1 jF.nd) (eC (dB 2 jF.nd) (eC (dB 3 jF.nd) pP))))) (aQ (lM 4 (v_ (ak (g9 (sH rfl) rfl B.list iN (bQ (aq 2) cx)) bg)) jF.nd) (aQ (AT 100000 (gZ mP) (aQ (lM 5 (v_ bg) jF.nd) (aQ (E3 4 rfl (dB 6 jF.nd) (bc (yf 5 (av 6)))) (aQ (lM 7 vi jF.nd) (aQ (nF rfl (zx (dJ hu1 (aq 1) (JE.bor aP))) (dB 8 jF.nd) (bc (iB (gZ (cH (oT rfl) rfl B.all cW (bQ (JE.bor (JN.je (iO (N':=["_law_fact","_law_have"]) (ix:=[5]) 1 (by decide) rfl (cD (so:=aN qI) (N:=Kt) (by decide +kernel)) (gK (JE.bor (dJ hu1 (aq 8) (JE.bor aP)))) (fun cl A0 s0 H0 ex pn=>⟨dA (i:=0) (by show (["_law_fact","_law_have"] : List Str).Nodup;decide +kernel) rfl (.inl rfl),fZ,(qS (Ix) (aq 0) (aq 1))⟩)))) cx))) (bc (nF rfl (zx (dJ hu1 (aq 8) (JE.bor aP))) (dB 9 jF.nd) (bc (iB (g6 (AM) (aq 9) (aq 5)) (bc (vj 7 mP (av 9) hu1)) eu)))) eu))) (aQ (iB (g6 (Pd hu1) (aq 7) (JE.bor (JN.je vi))) (bc Iy) eu) (bc (u4 4 (g9 (sH rfl) rfl B.list iN (bQ (aq 7) cx)))))))))) (aQ (lM 10 (v_ bg) jF.nd) (aQ (D4 4 (nF rfl (FP rfl B.enumerate (ak (av 4) bg)) (tZ rfl (eC (dB 11 jF.nd) (eC (dB 6 jF.nd) pP))) (bc (yf 10 (JN.je (iO (N':=["_law_fact","_law_turn"]) (ix:=[11]) 1 (by decide) rfl (cD (so:=aN qI) (N:=Kt) (by decide +kernel)) (gK (aq 6)) (fun cl A0 s0 H0 ex pn=>⟨dA (i:=0) (by show (["_law_fact","_law_turn"] : List Str).Nodup;decide +kernel) rfl (.inl rfl),fZ,(nB (ak (av 0) (ak (av 1) bg)))⟩))))))) (bc (cJ (qS (vW hu64) (JE.bor (jc wU hr px (ak (av 1) (ak (av 2) bg)))) (JE.bor (cH (Dh hu64) rfl B.sorted ip (bQ (aq 10) cx)))))))))))
end
end
section
theorem all_mk {l:uH}{w:bn}{K:a8}{h:bu}{mg:Str->Option a9}{fa A:ah}{od an:Option ah}{sl:Array (Option a9)}{oc kV dc pm cv ct:a9} (X:K.In h) (G:h.Ns bK mg) (hfa:mg "law"=some (.ref fa))
  (Zz:Zs K zn)
  (li:Cn mg "MOST_LETTERS" 6)
  (nV:Cn mg "MOST_PRICE" 9)
  (nW:Cn mg "MOST_FACTS" 6)
  (ll:Cn mg "MOST_ERRANDS" 6)
  (A2:kK K mg "share_none" kC)
  (Gq:kK K mg "is_word" qc)
  (rA:kK K mg "are_rising_words" fg)
  (BW:kK K mg "are_facts" lZ)
  (Dy:kK K mg "is_whole" r9)
  (BX:kK K mg "is_errand" l_)
  (Gr:kK K mg "is_book" n5)
  (xI:kK K mg "check_state" mn)
  (Gs:kK K mg "checked" ui)
  (xJ:kK K mg "check_place" mo)
  (BY:kK K mg "made_next" jX)
  (wV:kK K mg "first_layers" jq)
  (Ku:kK K mg "layers" wK)
  (xK:kK K mg "_law_cell_at" mv)
  (BZ:kK K mg "_law_mixed" pz)
  (Dz:kK K mg "_law_word" rf)
  (B_:kK K mg "_law_facts" pA)
  (DA:kK K mg "_law_some" nY)
  (DB:kK K mg "_law_thin" jE)
  (A3:kK K mg "_law_errand" kF)
  (DC:kK K mg "_law_book" n_)
  (DD:kK K mg "_law_want" rj)
  (DE:kK K mg "_law_case" rm)
  (l0:gI K bK "law"=some (some (.ref A)))
  (l1:K.lookup A=some ⟨oc,od,.func (fF "law" "law" (jH qI) (hJ qI) (aN qI) .none kV dc pm an cv ct),sl⟩)
  (l2:kQ K cv "law"=true)
  (l3:eX K (.ref A)=true)
  : ∃ fd:eQ,(∀ (s:ae) (v:a9),xb s fd ⟨[v],[]⟩ [("_law_script",v)])/\∀ base:bu,K.In base->base.Ns bK mg->qi l.prog w K mg base (w_ l.prog w) 9 fa fd ["_law_script"] (QF K F_law):=by
 have q:=hfa.symm.trans (qx X G l0)
 cases q
 refine ⟨fF "law" "law" (jH qI) (hJ qI) (aN qI) .none kV dc pm an cv ct,fun s v=>.of_eq rfl,fun base X G=>?_⟩
 let e:En:=⟨l.prog,w,K,mg,base,QG []⟩
 have B:Bi e.mg:=QZ X G Zz
 have kE:=xD (e:=e) A2 B
 have kM:=Dq (e:=e) Gq B li
 have ef:=qq (e:=e) rA B kM
 have j6:=zX (e:=e) BW B ef
 have rc:=BK (e:=e) Dy B
 have ph:=zY (e:=e) BX B kM rc j6 kE nV
 have uj:=Ds (e:=e) Gr B ef ph nW ll
 have mq:=wH (e:=e) xI j6
 have uk:=Du (e:=e) Gs uj
 have ms:=wJ (e:=e) xJ uk mq
 have m5:=zZ (e:=e) BY B
 have lm:=uV (e:=e) wV m5
 have wU:=Gp (e:=e) Ku B ms lm
 have mw:=wM (e:=e) xK B
 have aX:=z_ (e:=e) BZ mw
 have jD:=BN (e:=e) Dz B aX
 have pB:=A1 (e:=e) B_ B jD aX
 have ro:=BQ (e:=e) DA B aX
 have rh:=BR (e:=e) DB B aX
 have o0:=xH (e:=e) A3 B aX rh
 have rn:=BS (e:=e) DC B pB jD o0 aX
 have rq:=BU (e:=e) DD B aX
 have rz:=BV (e:=e) DE rn aX ro rq
 exact (Pu (e:=e) (HH l1 l2 l3) B rz wU).imp OQ
end
end Z
section
open PySem PySem.W PyProof.Rows
namespace PySem.W.Fast
def tw680613566482612330:Nat:=0
def tw4252094200221135013:Nat:=0
def tw12026343524097892278:Nat:=0
def tw5277144836365330671:Nat:=0
def tw17963275088371001491:Nat:=0
def tw10871651369688226243:Nat:=0
def tw3940202132372755635:Nat:=0
def tw15750079032031829941:Nat:=0
def tw18261932173749770147:Nat:=0
def tw6857240187287499322:Nat:=0
def tw7219594980596039441:Nat:=0
def tw7063913117567986557:Nat:=0
def tw14281117974194245639:Nat:=0
def tw13185180065575641265:Nat:=0
def tw17847958355234455391:Nat:=0
def tw16351436901861361311:Nat:=0
def tw14019060061017800845:Nat:=0
def tw17468583208861305903:Nat:=0
def tw14182832606208475751:Nat:=0
def tw8965957751499520130:Nat:=0
def tw4593563601215599800:Nat:=0
def tw12031816551233966365:Nat:=0
def tw16981432317218272057:Nat:=0
def tw773511704824643770:Nat:=0
def tw13227005879884074463:Nat:=0
def tw2003269967456228960:Nat:=0
def tw4569722280542048531:Nat:=0
def tw3073671342299585637:Nat:=0
def tw4238769608873605783:Nat:=0
def tw8640977727574848821:Nat:=0
def tw7292532072396062497:Nat:=0
def tw14876821173140795679:Nat:=0
def tw8341519431593905143:Nat:=0
def tw2756568479801062857:Nat:=0
def tw1154050424133596772:Nat:=0
def tw6034890329027456314:Nat:=0
def tw17574963908850019539:Nat:=0
def tw4247817259903638817:Nat:=0
def tw17088732127003240740:Nat:=0
def tw10952645989007095036:Nat:=0
def tw822177037076684956:Nat:=0
def tw452532494386444710:Nat:=0
def tw4620022051622224270:Nat:=0
def tw11031128058774757204:Nat:=0
def tw2853417886689711689:Nat:=0
def tw3915606731573269067:Nat:=0
def tw7625208766266706866:Nat:=0
def tw6676871084249545918:Nat:=0
def tw7237843645473065556:Nat:=0
def tw10838970979380074215:Nat:=0
def tw18007958297987056308:Nat:=0
def tw16047192815139392678:Nat:=0
def tw5435253281908996281:Nat:=0
def tw13640769423022275605:Nat:=0
def tw7151584360565373912:Nat:=0
def tw646720462953551646:Nat:=0
def tw17858216538908853134:Nat:=0
def tw16878250538571814610:Nat:=0
def tw10724496151653051384:Nat:=0
def tw4020068305231410043:Nat:=0
def tw13203399661163792200:Nat:=0
def tw12146089454999869658:Nat:=0
def tw7460387479082012683:Nat:=0
def tw4343986179163465049:Nat:=0
def tw1997168247076801034:Nat:=0
def tw15755680128030647535:Nat:=0
def tw8738353251112295469:Nat:=0
def tw3073720860909221008:Nat:=0
end PySem.W.Fast
theorem PySem.Challenge.cw_errands_k15_layers_holds : PySem.Challenge.rw_errands_k15_layers.Holds := by
 w_on;o_law;k_head;(case hw=>w_witness2)
 k_fill
 refine J.walkF (l:=PySem.Challenge.rw_errands_k15_layers) (k:=9) (x:="_law_script") (F0:=Z.F_law) rfl rfl ⟨rfl,by decide,by decide⟩ (fun w h Y=>by first|exact PySem.W.kIn_of Y|exact PySem.W.km_in_of Y) ?F (fun ns _=>Z.law_true ns)
 case F =>
  intro w mg fa h KX G hmg
  refine' Z.all_mk KX G hmg ?_ ?_ ?_ ?_ ?_ ?_ ?_ ?_ ?_ ?_ ?_ ?_ ?_ ?_ ?_ ?_ ?_ ?_ ?_ ?_ ?_ ?_ ?_ ?_ ?_ ?_ ?_ ?_ ?_ ?_ ?_ ?_
  all_goals first
   |(refine' J.d_in KX G ?_ ?_ ?_ ?_<;>try k_is)
   |(refine' J.cn_in KX G ?_<;>try k_is)
   |k_is
   |(refine' J.TopC.mk ?_ ?_ ?_<;>try (first|k_is|k_exc))
   |(refine' J.topN ?_ ?_ ?_ ?_ ?_ ?_ ?_ ?_ ?_ ?_ ?_ ?_ ?_ ?_ ?_ ?_ ?_ ?_ ?_ ?_ ?_ ?_ ?_<;>try (first|k_is|rfl|exact fun _ _=>⟨_,rfl,rfl⟩|decide +kernel))
   |((refine' J.Wy.mk ?_ ?_ ?_ ?_ ?_ ?_ ?_ ?_ ?_ ?_)<;>try (first|k_is|decide|((repeat' (first|exact .nil|refine' .cons ?_ ?_ ?_))<;>try (first|k_is|decide))))
   |((repeat' (first|exact .nil|refine' .cons ?_ ?_))<;>try (first|(refine' J.cw_in ?_ ?_ ?_<;>try k_is)|k_is))
   |skip
end
