import PyProof.Rows.All
import Wide.All
import OpenK.AllK
import Wide.FinOn
import Lean
import PyProof.EqAt
import PyProof.EqKinds
import PyProof.TupleCall
import KE.KDictOf
import PyProof.AttrMissHeap
import KE.KRevIter
import PyProof.DictWalks
import PyProof.MinMaxWalk
import PyProof.SeqI3
import PyProof.WalkInts
import PyProof.ExcInit
import PyProof.InstStoreFacts
import PySem.Challenge.RW_errands_k05_serves
set_option Elab.async false
set_option linter.all false
set_option maxRecDepth 100000
set_option maxHeartbeats 0
open PySem renaming wpAny_bind->a6,Value->a8,wpAny_pure->ac,Shared->af,Addr->ag,wpAny->ak,starEach->aw,model->aE,Program->aI,Around->aX,Expr->b9,World->ba,wpAny_mono->bc,Heap->bf,cellsFrom->bh,mainGlobals->bA,wpAny_setState_of->bB,boot_len->bC,wpAny_newObj_type->bL,compareOp->bN,wpAny_holding->c7,Stmt->cr,wpAny_call_entry->cu,rawInt->cx,wpAny_callSpecial?_slot->cF,wpAny_field->cO,eval->da,FuncData->df,wpAny_standAt->dk,mem_of_lookup->dv,wpAny_loadPart_at->dO,Scope->el,wpAny_truthy_bool->eC,foldedSetIterable->eE,SetTable->eF,wpAny_seqItems->eG,backTo->eV,fits_of_scanBound->fA,codeAny_builtin->fD,binaryOp->fU,Builtin->gj,excClassObj->gx,wpAny_rule->gG,wpAny_pyIter_tuple->gH,letOwnedTupleGo->gY,behindInMarks->hV,typeLookup->hW,codeAny->ia,swapsWith->ig,wpAny_askSetting->ij,setField->ik,strIterType->iw,bootBuiltins->iz,assignEach->iA,wpAny_typeOf->iB,wpAny_setField_rec->iC,scanBound->iX,wpAny_storeSet_of->j0,recursionLimit->jf,wpAny_setField->jh,wpAny_isInstance->jA,wpAny_isSubtype_exc->jI,NameKind->k9,sysModules->kg,wpAny_Call_Name_kw->ki,IsPair->ko,wpAny_pyIter_list->lr,builtinLookup_eq_fast->lY,call_meets->mf,getItem->mS,plainId_quiet->mU,wpAny_attempt->mV,sliceBounds->mX,codeAny_call_builtin->mY,wpAny_execs_nil->nO,pyNext->nQ,wpAny_passesOwn->nR,codeAny_mono->oC,pickOrder->p7,wpAny_call->pf,wpAny_pyIter_enum->qv,assign->qz,wpAny_comprehension_free->qB,PyData->qD,cLine->sD,checkBuiltinCall->sG,Keyword->tH,isInstance->tK,ExcBaseFacts->tN,pushCells_keeps->uw,codeAny_of_tree->uy,typeLookup_type->uz,Model->vJ,wpAny_loadName_local->vK,Result->vL,IsPart->vM,newFunctionEnv->vO,relayAll->vP,wpAny_of_eq->vQ,raiseNew->vR,firstArgMember->vS,IsZip->vT,wpAny_updateSeq_pair->vU,BindsTo->wG,callerA->wH,CmpOp->xH,swapsWithSole->xI,swappedStores->xJ,attributeBase->xN,wpAny_onRaise->xO,wpAny_Name->y9,tupleKind_room_in1->ye,newExc->yg,concat_meets->Ac,wpAny_sequenceKey->Ad,valueAt->Ae,wpAny_Call_ofName->Al,tupleKind->BS,isTrue->BU,wpAny_execs_cons->BV,pyIter->BW,noFill_tuple_add->BX,noteFrame->BY,sizeLine_eq->Dz,subscripted->DA,keywordEach->DB,wpAny_updateSeq->DF,standAt->FK,GenState->FX,bindName->FY,bindL->F_,bindC->G0,wpAny_newFunctionEnv_cells->G1,stored->G4,atKey->G5,entryFor->G6,entryFor_alias->G7,isSubtype_type->G8,isSubtype_stop->G9,field->Ga,wpAny_letOwnedTupleGo_enum->Gb,StoreFacts->Gh,assignInOrder->Jy,seq_tuple_add->JC,evalPart_none->JF,call->JJ,Drawn->Lo,lastMarks->Lp,Walks->Lv,seqItems?->Lw,Paired->LH,leaving->LJ,sub_set_self->LO,argsOk->LP,setNext->LQ,wpAny_isTrue_Compare1->OO,codeAny_call_function->OP,bindArgs->P0,backToKw->P1,wpAny_alloc->P4,unsupported->P7,ZipApart->P8,wpAny_letGo->Pa,getAttr?->Pc,lookupAlong->Pj
open PySem.W renaming Frag->a7,mroIn->cp,kia_one->cA,kitOne->dA,keepIn->dX,fnOf->eO,nsMap_none_of_in->eQ,cellsFrom_some->fh,nsIn->gC,clsIn->gI,findIn->gW,mg_of->j4,codeIn->jG,isNs_of_in->mh,subIn->nY,looks_findIn->qF,hideAll_get->sC,of_hideAll->tF,callWith_K->tG,codeRec_of->tJ,methodObj->uC,specialIn->uD,kitx_list->uE,instObj->xc,hideAll->xg,takesIn->xh,OpenLaw->xj,lookIn->yc,typeIn->yj,excIn->Ak,funFrames_hide->C1,kitx_tuple->FZ,mg_none_of->Gg,kitx_dict->HZ,plainGet->JA,kitCls->LU,nsOkIn->LY,WalkO->OR,Looks->OT
open PySem.Heap renaming get?_push_of_some->ae,lt_size->am,get?_push_size->aG,SameBut->bI,size_push->cm,get?_update_self->gf,get?_update_other->qu,get?_none_of_le->sP,MadeExcOf->sV,IsTuple->FP,FlyingW->FR,get?_update_ne->JR,get?_push_at->LX
open List renaming getElem?_set_ne->aj,mem_cons_self->al,mem_cons_of_mem->ao,length_map->ay,not_mem_nil->aD,size_toArray->aH,getElem?_set_self->aJ,length_append->aL,length_cons->aO,mem_cons->aQ,map_cons->aR,getElem?_map->aS,mem_append_right->aY,getElem?_eq_getElem->aZ,replicate->bi,getElem?_append_right->bj,range->bt,length_nil->bx,getElem?_replicate->bO,getElem?_append_left->bQ,map_append->b_,append_nil->cj,getElem?_eq_none->cB,lookup_cons->cQ,all_eq_true->cR,replicate_succ->cU,length_replicate->cX,find?_cons->dL,map_nil->ef,length_range->eg,nil_append->eA,mem_singleton->eU,map_map->eZ,mem_of_getElem?->fc,any_cons->fB,getD_eq_getElem?_getD->g6,contains_cons->g9,length_singleton->gd,mem_append_left->gN,flatten_cons->gO,getElem_mem->g_,nodup_nil->iY,filterMap_cons->ja,getElem_of_mem->jb,sublist_append_left->jo,getElem?_cons_succ->jJ,append_assoc->kc,all_map->ke,any_eq_true->lj,foldl_cons->lW,forIn_cons->lX,mem_map_of_mem->mi,filterMap_map->n6,perm_ext_iff_of_nodup->ni,reverse_cons->oF,ext_getElem->qg,getElem_map->qh,of_mem_zip->qA,length->sR,forIn_nil->sS,foldl_map->sW,length_reverse->uA,map_congr_left->uB,all_cons->uF,getElem_range->vG,set_cons_zero->vH,set_cons_succ->vI,map->wM,length_filterMap_eq_countP->xn,length_take->xK,length_drop->xL,lookup->yf,mem_append->Aa,length_eraseIdx_of_lt->AU,drop_eq_getElem_cons->BZ,getElem?_cons_zero->DG,pairwise_singleton->DH,drop_of_length_le->FO,any_map->FS,length_filter_le->Gj,getElem?_range->JM,replicate_zero->JU,foldl->Lq,lookup_append->Ls,map_inj_right->Ly,nodup_append->LN,zipIdx_cons->OS,cons_append->OW,zipIdx_nil->P9
open Array renaming length_toList->aq,getElem?_toList->eI,getElem?_eq_getElem->gD,getD_eq_getD_getElem?->iy,eq_empty_of_size_eq_zero->l5,size_map->sH,all_toList->xp,replicate->yk,toArray_toList->Gc,append_assoc->Jx,find?_toList->Jz,forIn_toList->JQ,toList_push->Lu,size_append->Lz
open Nat renaming le_refl->ar,ne_of_lt->aC,lt_of_lt_of_le->aF,le_of_lt->bq,le_trans->bJ,lt_irrefl->bW,ne_of_gt->ej,zero_le->eB,lt_succ_self->fV,lt_succ_of_lt->gR,le_succ->ib,lt_succ_of_le->kn,lt_of_le_of_lt->nV,min_le_right->qm,lt_trans->xk,lt_asymm->xl,le_of_lt_succ->xm,mod_lt->B_,zero_add->Gd,succ_pos->Ge,lt_of_succ_lt_succ->Gf,add_lt_add_right->JP,add_le_add_left->Lr,le_of_not_lt->P3,le_add_right->Pb,reduceLeDiff->Pk,reduceEqDiff->Pl
open PySem.PyData renaming str->au,eqv->bG,canLayAll0->bV,bool->c9,tuple->cY,int->eL,canLay0->fQ,list->hX,eqvAll->AY
open Bool renaming false_ne_true->aN,and_eq_true->aP,false_eq_true->c8,not_false->hJ,eq_iff_iff->im,and_false->iW,or_eq_true->jB,noConfusion->ll,and_self->lv,not_true->pc,beq_eq_decide_eq->rN,false_or->uG,true_and->uI,or_true->wJ,false_and->AR,or_eq_false_iff->Ie,not_eq_true'->LS
open PyProof.Rows renaming boot_tuple->bg,boot_all->cK,slot_tuple_getitem->cS,callWith_type1->f9,boot_list->gS,envOfC->jg,boot_isinstance->kd,AllBare->qt,StrsAre->tM,slicePart_none->vN,isBoolOf->vV,boot_sorted->wK,entry_tuple_getitem->xi,subscriptTail->xM,boot_bool->xP,assignInOrder_cons->yb,args_tuple_getitem->yd,boot_any->ym,boot_str->yn,boot_int->yo,IsTup->Dw,Subscript_->G3,tupleItemsOf_->JD,subscriptTail_builtinR->LK,IntsAre->LM
open PySem.Value renaming ref->bE,none->dQ,bool->iL,type->iM,str->jE,int->pd,isStrOf->uu
open Option.some renaming inj->bH,injEq->DD
open PySem.Heap.SameBut renaming update->bU
open PySem.NameKind renaming free->ck,cell->dW,«local»->qx
open PySem.SetTable renaming sizeAbove->cn,grown->ir,below->iu,fits->nc,bits->nh,turns->qw,layClean->ux,laid->A9,orStandIn->FM,relaid->JL,fill->LV,road->LW
open PySem.Builtin.SmallTypes renaming nextOf->cy,ownedTupleIsFree->eP,ownedTupleHandOut->ng
open PySem.Builtin.Tuple renaming tupleExact->cG,tupleItemsOf->k_
open PySem.Builtin.Slice renaming slicePlaces->db,sliceApplied->i5,sliceAdjust->lu,sliceFields->vF
open Ne renaming symm->dh
open PySem.Heap.FunFrames renaming mem->dm
open PySem.SetTable.layClean renaming free->dD
open Option renaming map_some->dH,getD_none->gZ,getD_some->kL,isSome_some->mT,bind_some->wL,isSome_map->JK
open PySem.F renaming plainAttrs_list->dR,slot_tuple_iterator_next->j3,args_tuple_add_2->nU,slot_list_extend->nW,type_list_extend->nX,entry_tuple_add->oE,slot_tuple_add->ph,slot_zip_next->sU,excBase_ValueError->yi,slot_list_append->Ai,type_list_append->Aj,slot_list_count->AW,slot_list_index->AX,args_tuple_iterator_next_1->C0,entry_tuple_iterator_next->DC,slot_enumerate_next->Lx,args_list_extend_2->LL,entry_list_extend->OQ,slot_list_extend->P2
open Or renaming inr->e8,inl->gP
open False renaming elim->eN
open List.Sublist renaming refl->eR
open PySem.Around renaming under_plainId->eY
open Int renaming toNat_of_nonneg->fv,eq_ofNat_of_zero_le->k8,toNat_natCast->kj,emod_lt_of_pos->nZ,emod_nonneg->rO,reduceLT->Gi
open PySem.Obj renaming mapFields->fP,mapSeq->jH,putSet->qC,data_mapFields->LR
open PySem.Builtin.List renaming listTooLong->fZ,listExtendWith->uH,listSameRef->wI
open ForInStep renaming yield->f_
open PySem.AutoSeq1 renaming wpAny_loadPart'->gq
open PySem.Str renaming ofString->ii
open PyProof.Rows.F renaming plain_set_update_loop->io,entry_set_update_loop->o_
open PySem.Builtin.Frozenset renaming updateFrom->jz,isAnySet->sI,sizeOf->tL,copyOf->tO,newClass->P5,oneOther->Pd,addrOf->Pe,slot1->Pf,baseOf->Pg,merge->Ph,unchanged->Pi
open True renaming intro->jF
open PySem.Calls renaming Name_function_global->mW,evalArgs_plain->sF,call_function_entry->AV,loadGlobal_global->Dy
open PySem.Code renaming quiet_builtin->n8,weight->Ig
open PyProof.Rows.IsTup renaming new->sQ
open PySem.Paired renaming length->tE
open Sum renaming inr->uv,inl->xb
open PySem.Builtin.Dict renaming updateFrom->xo
open And renaming intro->yh
open PySem.Heap.IsSliceOf renaming new->A8
open PySem.Walks renaming list->Af
open PySem.pickOrder renaming go->Ag
open PySem.SetTable.below renaming go->Ah
open PySem.SeqAt.EqAt renaming bool_bool->AS,int_str->Du,str_int->Dv
open List.Pairwise renaming nil->AT
open PySem.Heap.DictOf renaming new->FL
open PySem.Shared renaming heap->FQ,TypeIs->P6
open PySem.Value.type renaming inj->H_
open PySem.PassesOwn renaming never->Ic
open PySem.SeqAt renaming EqAt->JH
open PySem.Builtin.ObjectAttr renaming attrName->OU,find->OV
section
namespace L2
open PySem PySem.Spec PyProof.Rows
abbrev ed:=Sum Int Str
def yp:ed->a8->Bool
 | .inl k,v=>Value.isInt k v
 | .inr x,v=>uu x v
def W4 (w:ba):ed->Int
 | .inl k=>hashInt k
 | .inr x=>hashStr w x
theorem fk:∀ {k:ed}{v:a8},yp k v=true->(∃ i t,k=xb i/\v=pd i t)\/(∃ x t,k=uv x/\v=jE x t)
 | .inl i,v,h=>by
  obtain ⟨t,e⟩:=Value.isInt_shape (k:=i) (v:=v) h
  exact .inl ⟨i,t,rfl,e⟩
 | .inr x,v,h=>by
  obtain ⟨t,e⟩:=Value.isStrOf_shape (x:=x) (v:=v) h
  exact .inr ⟨x,t,rfl,e⟩
theorem JV (i:Int) (t:Tok):yp (.inl i) (.int i t)=true:=by simp [yp,Value.isInt]
theorem JX (x:Str) (t:Tok):yp (.inr x) (.str x t)=true:=by simp [yp,uu]
theorem Sg (a b:Int):decide ((xb a:ed)=xb b)=(a == b):=by
 by_cases e:a=b
 ·subst e;simp
 ·have h:¬ (xb a:ed)=xb b:=fun q=>e (Sum.inl.inj q)
  rw [decide_eq_false h]
  exact (beq_eq_false_iff_ne.mpr e).symm
theorem Sh (a b:Str):decide ((uv a:ed)=uv b)=decide (a=b):=by
 by_cases e:a=b
 ·subst e;simp
 ·have h:¬ (uv a:ed)=uv b:=fun q=>e (Sum.inr.inj q)
  rw [decide_eq_false h,decide_eq_false e]
theorem Si (a:Int) (b:Str):decide ((xb a:ed)=uv b)=false:=decide_eq_false (fun q=>nomatch q)
theorem Sj (a:Str) (b:Int):decide ((uv a:ed)=xb b)=false:=decide_eq_false (fun q=>nomatch q)
def dU (prog:aI) (w:ba):PySem.KeyKind prog w ed where
 is:=yp
 hash:=W4 w
 inj:=fun v a b ha hb=>by
  rcases fk ha with ⟨i,t,rfl,rfl⟩ | ⟨x,t,rfl,rfl⟩
  ·rcases fk hb with ⟨j,u,rfl,e⟩ | ⟨y,u,rfl,e⟩
   ·injection e with e1 _;rw [e1]
   ·exact nomatch e
  ·rcases fk hb with ⟨j,u,rfl,e⟩ | ⟨y,u,rfl,e⟩
   ·exact nomatch e
   ·injection e with e1 _;rw [e1]
 byValue:=fun k v h=>by
  rcases fk h with ⟨i,t,rfl,rfl⟩ | ⟨x,t,rfl,rfl⟩<;>rfl
 pyHash:=fun hv h=>by
  rcases fk hv with ⟨i,t,rfl,rfl⟩ | ⟨x,t,rfl,rfl⟩
  ·exact wpAny_pyHash_int h
  ·exact wpAny_pyHash_str h
 eqBool:=fun hu hv h=>by
  rcases fk hu with ⟨i,t,rfl,rfl⟩ | ⟨x,t,rfl,rfl⟩
  ·rcases fk hv with ⟨j,u,rfl,rfl⟩ | ⟨y,u,rfl,rfl⟩
   ·rw [Sg] at h;exact wpAny_eqBool_int h
   ·rw [Si] at h;exact Du i t y u _ _ _ _ h
  ·rcases fk hv with ⟨j,u,rfl,rfl⟩ | ⟨y,u,rfl,rfl⟩
   ·rw [Sj] at h;exact Dv x t j u _ _ _ _ h
   ·rw [Sh] at h;exact wpAny_eqBool_str h
 «strs»:=fun k x t v h=>by
  rcases fk h with ⟨i,u,rfl,e⟩ | ⟨y,u,rfl,e⟩
  ·exact nomatch e
  ·injection e with e1 _
   subst e1
   cases v<;>rfl
theorem DI (prog:aI) (w:ba) (i:Int) (t:Tok):(dU prog w).is (.inl i) (.int i t)=true:=JV i t
theorem DJ (prog:aI) (w:ba) (x:Str) (t:Tok):(dU prog w).is (.inr x) (.str x t)=true:=JX x t
end L2
namespace L2
open PySem PySem.Spec PyProof.Rows
inductive V where
 | non | bl (b:Bool) | int (i:Int) | str (x:Str) | byt (b:Array UInt8) | flt (b:UInt64) | ref (a:ag) | ty (n:String)
 deriving DecidableEq
def dw:V->a8->Prop
 | .non,u=>u=dQ
 | .bl b,u=>u=iL b
 | .int i,u=>∃ t,u=pd i t
 | .str x,u=>∃ t,u=jE x t
 | .byt b,u=>∃ t,u=Value.bytes b t
 | .flt b,u=>∃ t,u=Value.float b t
 | .ref a,u=>u=bE a
 | .ty n,u=>u=iM n
abbrev cV:List V->List a8->Prop:=LH dw
theorem cV.length {xs:List V}{us:List a8} (r:cV xs us):xs.length=us.length:=tE r
theorem cV.get {xs:List V}{us:List a8} (h:cV xs us):∀ {i:Nat}{x:V},xs[i]?=some x->∃ u,us[i]?=some u/\dw x u:=by
 induction h with
 | nil=>intro i x e;cases e
 | cons r t ih =>
  intro i x e
  cases i with
  | zero=>cases e;exact ⟨_,rfl,r⟩
  | succ i=>have q:=ih (i:=i) e;exact q
theorem cV.append {xs ys:List V}{us ws:List a8} (h:cV xs us) (s:cV ys ws):cV (xs++ys) (us++ws):=by
 induction h with
 | nil=>exact s
 | cons r t ih=>exact .cons r ih
theorem cV.take:∀ {xs:List V}{us:List a8} (n:Nat),cV xs us->cV (xs.take n) (us.take n)
 | _,_,0,_=>.nil
 | _,_,_ + 1,.nil=>.nil
 | _,_,n + 1,.cons r t=>.cons r (cV.take n t)
theorem cV.drop:∀ {xs:List V}{us:List a8} (n:Nat),cV xs us->cV (xs.drop n) (us.drop n)
 | _,_,0,r=>r
 | _,_,_ + 1,.nil=>.nil
 | _,_,n + 1,.cons _ t=>cV.drop n t
def yq:Option V->Option a8->Prop
 | some v,some u=>dw v u
 | none,none=>True
 | _,_=>False
def KV {κ:Type}:List (κ×V)->List (κ×a8)->Prop:=LH fun (p:κ×V) (q:κ×a8)=>p.1=q.1/\dw p.2 q.2
def kV:ed->V
 | .inl i=>.int i
 | .inr x=>.str x
inductive HO where
 | lst (xs:List V)
 | tup (xs:List V)
 | dK (kvs:List (ed×V)) | dT (kvs:List (List ed×V))
 | set (S:Int->Bool) (n:Nat)
 | ins (C dx:ag) (fs:List (Str×V))
 | own (x:ag)
 | xd (fs:List (Str×V))
 | met (f x:ag)
 | rng (lo hi:Int)
 | frz (o:Obj) (u:HO)
 | tbl (ps:Array a8)
 | ext (φ:bf->Prop)
abbrev Hp:=ag->Option HO
def upd (H:Hp) (a:ag) (o:HO):Hp:=fun b=>if b=a then some o else H b
theorem aV {H:Hp}{a:ag}{o:HO}:upd H a o a=some o:=by unfold upd;rw [if_pos rfl]
theorem b6 {H:Hp}{a b:ag}{o:HO} (h:b≠a):upd H a o b=H b:=by unfold upd;rw [if_neg h]
theorem U0 {H:Hp}{a b:ag}{o u:HO} (h:H a=some o) (h':H b=some u) (d:o≠u):a≠b:=by
 intro e;subst e;rw [h] at h';exact d (bH h')
theorem bn {H:Hp}{a b:ag}{o:HO} (h:H a=some o) (h':H b=none):a≠b:=by
 intro e;subst e;rw [h] at h';cases h'
section
variable (P:aI) (w:ba)
def dn (H:Hp) (h:bf) (a:ag):HO->Prop
 | .lst xs=>xs.length<=sizeLine/\∃ (its:List a8) (n:Nat),cV xs its/\h.get? a=some { cls:=.type "list",data:=.seq its.toArray n }
 | .tup xs=>xs.length<=sizeLine/\∃ its:List a8,cV xs its/\Dw h a its.toArray
 | .dK kvs=>kvs.length<=sizeLine/\(a == kg)=false/\∃ vs,KV kvs vs/\h.DictOf (dU P w) a vs
 | .dT kvs=>kvs.length<=sizeLine/\(a == kg)=false/\∃ xs:List (List ed×ag×a8),
   LH (fun (p:List ed×V) (q:List ed×ag×a8)=>p.1=q.1/\H q.2.1=some (.tup (p.1.map kV))/\dw p.2 q.2.2) kvs xs /\
   ∃ o es ep,h.get? a=some o/\o.ExactDict/\o.data=.dict es ep/\es.toList=xs.map (entryOfKey (BS (dU P w)))/\(xs.map (·.1)).Nodup
 | .set S n=>h.SetOf (intKind P w) a S n
 | .ins C dx fs=>H dx=some (.own a)/\fs.length<=1000/\dx≠a/\h.get? a=some (xc C dx) /\
   ∃ mA,h.Ns1 dx mA/\(∀ f,yq (fs.lookup f) (mA f))/\PySem.Within mA (fs.map (·.1))
 | .own _=>∃ o,h.get? a=some o
 | .xd fs=>∃ mA,h.Ns1 a mA/\∀ f,yq (fs.lookup f) (mA f)
 | .rng lo hi=>∃ t u v,h.get? a=some { cls:=.type "range",data:=.fields #[.int lo t,.int hi u,.int 1 v] }
 | .frz o u=>h.get? a=some o/\dn H h a u
 | .tbl ps=>h.get? a=some { cls:=.none,data:=.fields ps }
 | .met f x=>h.get? a=some (uC (.ref f) (.ref x))
 | .ext φ=>φ h/\(∃ o,h.get? a=some o)/\∀ h1 h2:bf,φ h1->(∀ o,h1.get? a=some o->h2.get? a=some o)->φ h2
def qo (H:Hp) (h:bf):Prop:=∀ a o,H a=some o->dn P w H h a o
end
section
variable {P:aI}{w:ba}{H H':Hp}{h h':bf}{a:ag}{o:HO}
theorem dn.lt (x:dn P w H h a o):a<h.objs.size:=by
 cases o with
 | lst xs=>obtain ⟨_,_,_,_,e⟩:=x;exact am e
 | tup xs=>obtain ⟨_,_,_,p⟩:=x;exact p.lt
 | dK kvs=>obtain ⟨_,_,_,_,o,_,_,e,_⟩:=x;exact am e
 | dT kvs=>obtain ⟨_,_,_,_,o,_,_,e,_⟩:=x;exact am e
 | set S n=>obtain ⟨o,_,_,_,e,_⟩:=x;exact am e
 | ins C dx fs=>obtain ⟨_,_,_,e,_⟩:=x;exact am e
 | own y=>obtain ⟨_,e⟩:=x;exact am e
 | xd fs=>obtain ⟨_,⟨_,_,_,e,_⟩,_⟩:=x;exact am e
 | rng lo hi=>obtain ⟨_,_,_,e⟩:=x;exact am e
 | frz ob u=>obtain ⟨e,_⟩:=x;exact am e
 | tbl ps=>exact am (show h.get? a=some _ from x)
 | met f y=>exact am (show h.get? a=some _ from x)
 | ext φ=>obtain ⟨_,⟨_,e⟩,_⟩:=x;exact am e
theorem Paired.mapP {α β:Type}{F G:α->β->Prop}{l₁:List α}{l₂:List β} (h:LH F l₁ l₂) (f:∀ a b,F a b->G a b):LH G l₁ l₂:=by
 induction h with
 | nil=>exact .nil
 | cons r t ih=>exact .cons (f _ _ r) ih
theorem dn.stay (x:dn P w H h a o) (k:∀ b u,(b=a\/H b=some (.own a))->h.get? b=some u->h'.get? b=some u)
  (ho:∀ b,H b=some (.own a)->H' b=some (.own a)) (ht:∀ b xs,H b=some (.tup xs)->H' b=some (.tup xs)):dn P w H' h' a o:=by
 induction o with
 | lst xs=>obtain ⟨z,its,n,r,e⟩:=x;exact ⟨z,its,n,r,k _ _ (.inl rfl) e⟩
 | tup xs=>obtain ⟨z,its,r,ob,e,c⟩:=x;exact ⟨z,its,r,ob,k _ _ (.inl rfl) e,c⟩
 | dK kvs=>obtain ⟨z,y,vs,r,ob,es,ep,e,c⟩:=x;exact ⟨z,y,vs,r,ob,es,ep,k _ _ (.inl rfl) e,c⟩
 | dT kvs =>
  obtain ⟨z,y,xs,r,ob,es,ep,e,c⟩:=x
  exact ⟨z,y,xs,Paired.mapP r fun p q z=>⟨z.1,ht _ _ z.2.1,z.2.2⟩,ob,es,ep,k _ _ (.inl rfl) e,c⟩
 | set S n=>obtain ⟨ob,es,ep,t,e,c⟩:=x;exact ⟨ob,es,ep,t,k _ _ (.inl rfl) e,c⟩
 | ins C dx fs =>
  obtain ⟨d,z,ne,e,mA,⟨od,es,ep,e2,c⟩,r⟩:=x
  exact ⟨ho _ d,z,ne,k _ _ (.inl rfl) e,mA,⟨od,es,ep,k _ _ (.inr d) e2,c⟩,r⟩
 | own y=>obtain ⟨ob,e⟩:=x;exact ⟨ob,k _ _ (.inl rfl) e⟩
 | xd fs=>obtain ⟨mA,⟨od,es,ep,e,c⟩,r⟩:=x;exact ⟨mA,⟨od,es,ep,k _ _ (.inl rfl) e,c⟩,r⟩
 | rng lo hi=>obtain ⟨t,u,v,e⟩:=x;exact ⟨t,u,v,k _ _ (.inl rfl) e⟩
 | frz ob u ih=>obtain ⟨e,q⟩:=x;exact ⟨k _ _ (.inl rfl) e,ih q⟩
 | tbl ps =>
  have e:h.get? a=some { cls:=.none,data:=.fields ps }:=x
  show h'.get? a=some { cls:=.none,data:=.fields ps }
  exact k a _ (.inl rfl) e
 | met f y =>
  have e:h.get? a=some (uC (.ref f) (.ref y)):=x
  show h'.get? a=some (uC (.ref f) (.ref y))
  exact k a _ (.inl rfl) e
 | ext φ=>obtain ⟨p,⟨o,e⟩,st⟩:=x;exact ⟨st _ _ p fun o q=>k _ _ (.inl rfl) q,⟨o,k _ _ (.inl rfl) e⟩,st⟩
theorem qo.lt (x:qo P w H h) (e:H a=some o):a<h.objs.size:=(x a o e).lt
theorem qo.fresh (x:qo P w H h) (e:h.objs.size<=a):H a=none:=by
 cases q:H a with
 | none=>rfl
 | some u=>exact absurd (aF (x.lt q) e) (bW _)
theorem qo.kept (x:qo P w H h) (k:∀ b u,h.get? b=some u->h'.get? b=some u):qo P w H h':=fun a o e =>
 (x a o e).stay (fun b u _ q=>k b u q) (fun _ q=>q) fun _ _ q=>q
theorem qo.laid (x:qo P w H h) (k:∀ b u,h.get? b=some u->h'.get? b=some u) (hp:h.objs.size<=a) (new:dn P w (upd H a o) h' a o):qo P w (upd H a o) h':=fun b u e=>by
 have hn:=x.fresh hp
 by_cases hb:b=a
 ·subst hb;rw [aV] at e;cases e;exact new
 ·rw [b6 hb] at e
  exact (x b u e).stay (fun c v _ q=>k c v q) (fun c q=>by rw [b6 (bn q hn)];exact q) fun c xs q=>by rw [b6 (bn q hn)];exact q
end
def Rd (H:Hp) (a:ag) (u:HO):Prop:=H a=some u\/∃ o,H a=some (.frz o u)
theorem Rd.ok {P:aI}{w:ba}{H:Hp}{h:bf}{a:ag}{u:HO} (r:Rd H a u) (x:qo P w H h):dn P w H h a u:=by
 rcases r with r | ⟨o,r⟩
 ·exact x a u r
 ·obtain ⟨_,q⟩:=x a _ r
  exact q
def U1:Option HO->Prop
 | some (.lst _)=>True
 | some (.dK _)=>True
 | some (.dT _)=>True
 | some (.set _ _)=>True
 | some (.ins _ _ _)=>True
 | some (.ext _)=>True
 | _=>False
section
variable {P:aI}{w:ba}{H:Hp}{h h':bf}{x e:ag}{o':HO}
theorem qo.write (ok:qo P w H h) (mu:U1 (H x)) (he:e=x\/H e=some (.own x)) (k:∀ b u,b≠e->h.get? b=some u->h'.get? b=some u) (heo:∃ u,h'.get? e=some u)
  (new:dn P w (upd H x o') h' x o'):qo P w (upd H x o') h':=fun b u q=>by
 have nown:∀ c y,H c=some (.own y)->c≠x:=fun c y r z=>by subst z;rw [r] at mu;exact mu
 have ntup:∀ c xs,H c=some (.tup xs)->c≠x:=fun c xs r z=>by subst z;rw [r] at mu;exact mu
 by_cases hb:b=x
 ·subst hb;rw [aV] at q;cases q;exact new
 ·rw [b6 hb] at q
  by_cases hbe:b=e
  ·have q':H b=some (.own x):=by
    rcases he with z | z
    ·exact absurd (hbe.trans z) hb
    ·rw [hbe];exact z
   rw [q] at q';cases q'
   obtain ⟨v,hv⟩:=heo
   exact ⟨v,by rw [hbe];exact hv⟩
  ·refine (ok b u q).stay (fun c v hc r=>k c v ?_ r) (fun c r=>by rw [b6 (nown c b r)];exact r) fun c xs r=>by rw [b6 (ntup c xs r)];exact r
   rcases hc with rfl | hc
   ·exact hbe
   ·rintro rfl
    rcases he with z | z
    ·exact nown c b hc z
    ·rw [hc] at z;cases z;exact hb rfl
end
structure Un (fs ex:List ag) (H H':Hp) (h h':bf):Prop where
 keep:∀ b o,h.get? b=some o->H b=none->b∉fs->b∉ex->h'.get? b=some o
 slot:∀ b o,h.get? b=some o->H b=none->b∈fs->b∉ex->∃ sl,h'.get? b=some { o with slots:=sl }
 free:∀ b o,h.get? b=some o->H b=none->b∉ex->H' b=none
 there:∀ b o,h.get? b=some o->b∉ex->∃ o',h'.get? b=some o'
 tups:∀ b xs,H b=some (.tup xs)->H' b=some (.tup xs)
 frzs:∀ b o u,H b=some (.frz o u)->H' b=some (.frz o u)
 tbls:∀ b ps,H b=some (.tbl ps)->∃ more,H' b=some (.tbl (ps++more))
section
variable {fs fs' ex ex':List ag}{H H1 H2:Hp}{h h1 h2 h':bf}{a x e:ag}{o:HO}
theorem Un.any (u:Un fs ex H H1 h h1) {b:ag}{ob:Obj} (q:h.get? b=some ob) (n:H b=none) (hx:b∉ex):∃ sl,h1.get? b=some { ob with slots:=sl }:=by
 by_cases hb:b∈fs
 ·exact u.slot b ob q n hb hx
 ·exact ⟨ob.slots,u.keep b ob q n hb hx⟩
theorem Un.kept (k:∀ b u,h.get? b=some u->h'.get? b=some u):Un fs ex H H h h' :=
 ⟨fun b ob q _ _ _=>k b ob q,fun b ob q _ _ _=>⟨ob.slots,k b ob q⟩,fun _ _ _ n _=>n,fun b ob q _=>⟨ob,k b ob q⟩,fun _ _ q=>q,fun _ _ _ q=>q,fun _ ps q=>⟨#[],by rw [q];simp⟩⟩
theorem Un.refl:Un fs ex H H h h:=Un.kept fun _ _ q=>q
theorem Un.laid (k:∀ b u,h.get? b=some u->h'.get? b=some u) (hp:h.objs.size<=a) (hn:H a=none):Un fs ex H (upd H a o) h h' where
 keep:=fun b u q _ _ _=>k b u q
 slot:=fun b u q _ _ _=>⟨u.slots,k b u q⟩
 free:=fun b u q n _=>by rw [b6 (aC (aF (am q) hp))];exact n
 there:=fun b u q _=>⟨u,k b u q⟩
 tups:=fun b xs q=>by rw [b6 (bn q hn)];exact q
 frzs:=fun b u xs q=>by rw [b6 (bn q hn)];exact q
 tbls:=fun b ps q=>⟨#[],by rw [b6 (bn q hn),q];simp⟩
theorem Un.write (mu:U1 (H x)) (he:e=x\/H e=some (.own x)) (k:∀ b u,b≠e->h.get? b=some u->h'.get? b=some u) (heo:∃ u,h'.get? e=some u):Un fs ex H (upd H x o) h h':=by
 have hx:∀ b,H b=none->b≠x:=fun b n z=>by subst z;rw [n] at mu;exact mu
 have hb:∀ b,H b=none->b≠e:=fun b n z=>by
  subst z
  rcases he with r | r
  ·exact hx b n r
  ·rw [n] at r;cases r
 have hm:∀ b u,H b=some u->¬ U1 (some u)->b≠x:=fun b u q nm z=>by subst z;rw [q] at mu;exact nm mu
 refine ⟨fun b u q n _ _=>k b u (hb b n) q,fun b u q n _ _=>⟨u.slots,k b u (hb b n) q⟩,fun b u q n _=>by rw [b6 (hx b n)];exact n,fun b u q _=>?_,
  fun b xs q=>by rw [b6 (hm b _ q fun z=>z)];exact q,fun b u xs q=>by rw [b6 (hm b _ q fun z=>z)];exact q,fun b ps q=>⟨#[],by rw [b6 (hm b _ q fun z=>z),q];simp⟩⟩
 by_cases hbe:b=e
 ·subst hbe;exact heo
 ·exact ⟨u,k b u hbe q⟩
end
def VN (h:bf) (H:Hp):List ag:=(bt h.objs.size).filter fun a=>(H a).isSome
def C2 (h:bf) (H:Hp):bf:=xg h (VN h H)
theorem JY (h:bf) (H:Hp):(C2 h H).objs.size=h.objs.size:=PySem.W.hideAll_size _ _
theorem LZ {h:bf}{H:Hp}{b:ag}{o:Obj} (e:h.get? b=some o) (n:H b=none):(C2 h H).get? b=some o :=
 sC _ e fun hm=>by
  have q:(H b).isSome=true:=(List.mem_filter.mp hm).2
  rw [n] at q;simp at q
theorem Pm {h:bf}{H:Hp}{b:ag}{o:Obj} (e:(C2 h H).get? b=some o):h.get? b=some o/\H b=none:=by
 have e':h.get? b=some o:=tF (VN h H) e
 refine ⟨e',?_⟩
 cases q:H b with
 | none=>rfl
 | some x =>
  have hm:b∈VN h H:=List.mem_filter.mpr ⟨List.mem_range.mpr (am e'),by simp [q]⟩
  have z:(C2 h H).get? b=none:=PySem.W.hideAll_none (VN h H) hm
  rw [z] at e;cases e
def Pn (g h:bf) (L:ag):List (ag×Obj):=(bt h.objs.size).filterMap fun a=>if a=L\/(g.get? a).isSome=true then none else (h.get? a).map fun o=>(a,o)
def bK (g h:bf) (L d:ag):List (ag×Obj):=(Pn g h L).filter fun p=>decide (p.1≠d)
end L2
namespace L2
open PySem PySem.Spec PyProof.Rows
structure Mod (K:a7) (mg:Str->Option a8) (base:bf):Prop where
 kin:K.In base
 glob:base.Ns bA mg
 blt:∃ mb,base.Ns builtinsNs mb/\∀ x:Str,x≠"__name__"->mb x=iz x
 nolimit:base.NoLimit
structure Cx where
 prog:aI
 w:ba
 K:a7
 mg:Str->Option a8
 base:bf
 A:aX
 N:List Str
 s₀:af
 H₀:Hp
 env:Env
 outer:List Env
 stack:List Env
 ex:List ag
 fn:Str->Bool
 calm:Bool
 pn:List (ag×Obj)
 xe:a8->af->Prop
def oB (l:List Env):List ag:=l.filterMap (·.frame)
abbrev Cx.fs (X:Cx):List ag:=oB X.outer
def LA (sc:el) (x:Str):Prop:=sc.names.lookup x=some .local\/sc.names.lookup x=some .cell\/sc.names.lookup x=some .free
def R5 (sc:el) (x:Str):Prop:=sc.names.lookup x=some .local\/sc.names.lookup x=some .cell
def W5 (env:Env) (h:bf) (m:Str->Option a8) (x:Str) (u:a8):Prop :=
 (env.kindOf x=some .local/\m x=some u)\/((env.kindOf x=some .cell\/env.kindOf x=some .free)/\∃ c,env.cells.lookup x=some c/\h.IsCell c (some u))
structure Cx.Ok (X:Cx):Prop where
 mod:Mod X.K X.mg X.base
 kind:X.env.scope.kind=.function
 glob:X.env.globals=bA
 blt:X.env.builtins=builtinsNs
 above:X.s₀.heap.objs.size<=X.env.locals
 inj:∀ x y c,X.env.cells.lookup x=some c->X.env.cells.lookup y=some c->x=y
 has:∀ x,(X.env.kindOf x=some .cell\/X.env.kindOf x=some .free)->∃ c,X.env.cells.lookup x=some c
 cab:∀ x c,X.fn x=true->X.env.cells.lookup x=some c->X.s₀.heap.objs.size<=c
 hd:X.calm=true->X.A.handled=none
 frames:X.A.frames=some X.stack
 stk:X.stack=X.outer\/(X.stack=X.env::X.outer/\X.env.frame=some X.env.locals)
 exf:∀ b∈X.ex,b≠X.env.locals/\∀ x c,X.env.cells.lookup x=some c->c≠b
 bs:∀ b o,X.base.get? b=some o->X.s₀.heap.get? b=some o/\X.H₀ b=none
 bsz:X.base.objs.size<=X.s₀.heap.objs.size
 noex:∀ b o,X.base.get? b=some o->b∉X.ex
 exfs:∀ b∈X.ex,b∉X.fs
 funs:X.s₀.heap.FunFrames X.base X.outer
 frf:∀ b∈X.fs,X.H₀ b=none
structure bF (X:Cx) (pins:List (ag×Obj)) (σ:List (Option V)) (H:Hp) (s:af):Prop where
 ok:X.Ok
 os:s.os=X.s₀.os
 bare:qt s.gens
 base:Un X.fs X.ex X.H₀ H X.s₀.heap s.heap
 loc:∃ m,s.heap.Ns X.env.locals m/\∀ (i:Nat) (x:Str) (v:V),X.N[i]?=some x->σ[i]?=some (some v)->LA X.env.scope x->∃ u,dw v u/\W5 X.env s.heap m x u
 cell:∀ x c,X.env.cells.lookup x=some c->∃ v,s.heap.IsCell c v
 free:H X.env.locals=none
 freeC:∀ x c,X.env.cells.lookup x=some c->H c=none
 pin:∀ p∈X.pn++pins,s.heap.get? p.1=some p.2/\H p.1=none/\p.1≠X.env.locals/\p.1∉X.fs/\∀ v,p.2.data≠.cell v
 hok:qo X.prog X.w H s.heap
 len:σ.length=X.N.length
section
variable {X:Cx}{pins:List (ag×Obj)}{σ:List (Option V)}{H H':Hp}{s:af}{h':bf}
theorem Cx.Ok.nofr (ok:X.Ok) {b:ag}{o:Obj} (e:X.base.get? b=some o):b∉X.fs:=fun hb=>by
 have:=(ok.funs.mem hb).1
 rw [e] at this;cases this
theorem bF.bs (I:bF X pins σ H s):∀ b o,X.base.get? b=some o->s.heap.get? b=some o/\H b=none:=fun b o e =>
 ⟨I.base.keep b o (I.ok.bs b o e).1 (I.ok.bs b o e).2 (I.ok.nofr e) (I.ok.noex b o e),I.base.free b o (I.ok.bs b o e).1 (I.ok.bs b o e).2 (I.ok.noex b o e)⟩
theorem bF.bk (I:bF X pins σ H s):∀ b o,X.base.get? b=some o->s.heap.get? b=some o:=fun b o e=>(I.bs b o e).1
theorem bF.mod (I:bF X pins σ H s):Mod X.K X.mg X.base:=I.ok.mod
theorem bF.kIn (I:bF X pins σ H s):X.K.In s.heap:=I.ok.mod.kin.keeps I.bk
theorem bF.nolimit (I:bF X pins σ H s):s.heap.NoLimit:=I.ok.mod.nolimit.keeps I.bk
theorem bF.fr (I:bF X pins σ H s):∃ m,Fr X.base X.env.locals s.heap m :=
 let ⟨m,hn,_⟩:=I.loc
 ⟨m,hn,I.bk,bJ I.ok.bsz I.ok.above⟩
theorem bF.lt (I:bF X pins σ H s):X.env.locals<s.heap.objs.size:=let ⟨_,hn,_⟩:=I.loc;hn.lt
theorem bF.sz (I:bF X pins σ H s):X.s₀.heap.objs.size<=s.heap.objs.size:=bJ I.ok.above (bq I.lt)
theorem bF.nofs (I:bF X pins σ H s) {a:ag} (h:s.heap.objs.size<=a):a∉X.fs:=fun hb=>by
 obtain ⟨_,o,ho,_⟩:=I.ok.funs.mem hb
 exact absurd (aF (am ho) (bJ I.sz h)) (bW _)
theorem bF.cne (I:bF X pins σ H s):∀ x c,X.env.cells.lookup x=some c->c≠X.env.locals:=fun x c e z=>by
 obtain ⟨v,o,ho,hd⟩:=I.cell x c e
 obtain ⟨m,⟨o',es,ep,ho',hd',_⟩,_⟩:=I.loc
 rw [z,ho'] at ho;cases ho;rw [hd'] at hd;cases hd
theorem bF.funs (I:bF X pins σ H s):s.heap.FunFrames X.base X.outer:=by
 have all:∀ (l:List Env),(∀ b∈oB l,b∈X.fs)->X.s₀.heap.FunFrames X.base l->s.heap.FunFrames X.base l:=by
  intro l
  induction l with
  | nil=>intro _ _;trivial
  | cons env r ih =>
   intro hs hl
   obtain ⟨hk,⟨L,o,hf,hn,ho,hd⟩,hr⟩:=hl
   have hL:L∈X.fs:=hs L (by unfold oB;rw [ja,hf];exact al)
   obtain ⟨sl,e⟩:=I.base.slot L o ho (I.ok.frf L hL) hL fun z=>I.ok.exfs L z hL
   exact ⟨hk,⟨L,_,hf,hn,e,hd⟩,ih (fun b hb=>hs b (by unfold oB;rw [ja,hf];exact ao _ hb)) hr⟩
 exact all X.outer (fun _ hb=>hb) I.ok.funs
theorem bF.stack (I:bF X pins σ H s):s.heap.FunFrames X.base X.stack:=by
 rcases I.ok.stk with e | ⟨e,hf⟩
 ·rw [e];exact I.funs
 ·rw [e]
  obtain ⟨m,hn,_⟩:=I.loc
  refine .cons (by rw [I.ok.kind];decide) hf hn ?_ I.funs
  exact sP (bJ I.ok.bsz I.ok.above)
theorem bF.stkSub (I:bF X pins σ H s):∀ b∈oB X.stack,b∈X.env.locals::X.fs:=fun b hb=>by
 rcases I.ok.stk with e | ⟨e,hf⟩
 ·rw [e] at hb;exact ao _ hb
 ·rw [e] at hb
  unfold oB at hb
  rw [ja,hf] at hb
  exact hb
theorem bF.stkFree (I:bF X pins σ H s):∀ b∈oB X.stack,H b=none:=fun b hb=>by
 rcases List.mem_cons.mp (I.stkSub b hb) with e | hb
 ·rw [e];exact I.free
 ·obtain ⟨_,o,ho,_⟩:=I.ok.funs.mem hb
  exact I.base.free b o ho (I.ok.frf b hb) fun z=>I.ok.exfs b z hb
theorem bF.step {g':Array FX}{t':Nat}{d':Lo}{ch:List ag} (I:bF X pins σ H s)
  (hch:∀ b∈ch,(b∈X.ex\/X.s₀.heap.objs.size<=b)/\b≠X.env.locals/\(∀ x c,X.env.cells.lookup x=some c->c≠b)/\∀ p∈X.pn++pins,p.1≠b)
  (keep:∀ b o,b≠X.env.locals->b∉X.fs->b∉ch->s.heap.get? b=some o->H b=none->h'.get? b=some o)
  (slot:∀ b o,b≠X.env.locals->b∈X.fs->b∉ch->s.heap.get? b=some o->H b=none->∃ sl,h'.get? b=some { o with slots:=sl }) (free:∀ b o,b∉ch->s.heap.get? b=some o->H b=none->H' b=none)
  (there:∀ b o,b∉ch->s.heap.get? b=some o->∃ o',h'.get? b=some o')
  (tups:∀ b xs,H b=some (.tup xs)->H' b=some (.tup xs)) (frzs:∀ b o u,H b=some (.frz o u)->H' b=some (.frz o u)) (tbls:∀ b ps,H b=some (.tbl ps)->∃ more,H' b=some (.tbl (ps++more)))
  (ns:∀ m,s.heap.Ns X.env.locals m->h'.Ns X.env.locals m) (hok:qo X.prog X.w H' h') (hg:qt g') :
  bF X pins σ H' { s with heap:=h',gens:=g',drawn:=d',toks:=t' }:=by
 have neL:∀ b o,X.s₀.heap.get? b=some o->b≠X.env.locals:=fun b o e=>aC (aF (am e) I.ok.above)
 have neC:∀ b o,X.s₀.heap.get? b=some o->b∉X.ex->b∉ch:=fun b o e hx hb=>by
  rcases (hch b hb).1 with z | z
  ·exact hx z
  ·exact absurd (aF (am e) z) (bW _)
 have cellK:∀ x c,X.env.cells.lookup x=some c->∀ v,s.heap.IsCell c v->h'.IsCell c v:=fun x c e v h_0=>by
  obtain ⟨o,ho,hd⟩:=h_0
  have nch:c∉ch:=fun z=>(hch c z).2.2.1 x c e rfl
  by_cases hc:c∈X.fs
  ·obtain ⟨sl,q⟩:=slot c o (I.cne x c e) hc nch ho (I.freeC x c e)
   exact ⟨_,q,hd⟩
  ·exact ⟨o,keep c o (I.cne x c e) hc nch ho (I.freeC x c e),hd⟩
 refine ⟨I.ok,I.os,hg,⟨fun b o e n hb hx=>?_,fun b o e n hb hx=>?_,fun b o e n hx=>?_,fun b o e hx=>?_,fun b xs e=>tups b xs (I.base.tups b xs e),fun b o xs e=>frzs b o xs (I.base.frzs b o xs e),fun b ps e=>?_⟩,?_,fun x c e=>?_,?_,fun x c e=>?_,fun p hp=>?_,hok,I.len⟩
 ·exact keep b o (neL b o e) hb (neC b o e hx) (I.base.keep b o e n hb hx) (I.base.free b o e n hx)
 ·obtain ⟨sl,e1⟩:=I.base.slot b o e n hb hx
  obtain ⟨sl',e2⟩:=slot b _ (neL b o e) hb (neC b o e hx) e1 (I.base.free b o e n hx)
  exact ⟨sl',e2⟩
 ·obtain ⟨o',e1⟩:=I.base.there b o e hx
  exact free b o' (neC b o e hx) e1 (I.base.free b o e n hx)
 ·obtain ⟨o',e1⟩:=I.base.there b o e hx
  exact there b o' (neC b o e hx) e1
 ·obtain ⟨m1,e1⟩:=I.base.tbls b ps e
  obtain ⟨m2,e2⟩:=tbls b _ e1
  exact ⟨m1++m2,by rw [e2,Jx]⟩
 ·obtain ⟨m,hn,hl⟩:=I.loc
  refine ⟨m,ns m hn,fun i x v e1 e2 e3=>?_⟩
  obtain ⟨u,r,l⟩:=hl i x v e1 e2 e3
  refine ⟨u,r,?_⟩
  rcases l with l | ⟨k,c,e,z⟩
  ·exact .inl l
  ·exact .inr ⟨k,c,e,cellK x c e _ z⟩
 ·obtain ⟨v,z⟩:=I.cell x c e
  exact ⟨v,cellK x c e v z⟩
 ·obtain ⟨m,⟨o,_,_,ho,_⟩,_⟩:=I.loc
  exact free _ o (fun z=>(hch _ z).2.1 rfl) ho I.free
 ·obtain ⟨v,o,ho,hd⟩:=I.cell x c e
  exact free c o (fun z=>(hch c z).2.2.1 x c e rfl) ho (I.freeC x c e)
 ·obtain ⟨e,n,ne,nf,d⟩:=I.pin p hp
  have nch:p.1∉ch:=fun z=>(hch p.1 z).2.2.2 p hp rfl
  exact ⟨keep p.1 p.2 ne nf nch e n,free p.1 p.2 nch e n,ne,nf,d⟩
theorem bF.un {t':Nat} (I:bF X pins σ H s) (u:Un X.fs [] H H' s.heap h') (hok:qo X.prog X.w H' h'):bF X pins σ H' { s with heap:=h',toks:=t' }:=by
 obtain ⟨m,⟨o,es,ep,ho,r⟩,_⟩:=id I.loc
 obtain ⟨sl,hL⟩:=u.any ho I.free (by simp)
 exact I.step (g':=s.gens) (d':=s.drawn) (ch:=[]) (fun _ z=>nomatch z) (fun b o _ hb _ e n=>u.keep b o e n hb (by simp)) (fun b o _ hb _ e n=>u.slot b o e n hb (by simp)) (fun b o _ e n=>u.free b o e n (by simp)) (fun b o _ e=>u.there b o e (by simp)) u.tups u.frzs u.tbls (fun m' hm=>by
  obtain ⟨o',es',ep',ho',r'⟩:=hm
  rw [ho] at ho';cases ho'
  exact ⟨_,es',ep',hL,r'⟩) hok I.bare
theorem bF.call {g':Array FX}{t':Nat}{d':Lo}{ch:List ag} (I:bF X pins σ H s) (u:Un (oB X.stack) ch H H' s.heap h') (hok:qo X.prog X.w H' h') (hg:qt g')
  (hch:∀ b∈ch,(b∈X.ex\/X.s₀.heap.objs.size<=b)/\b≠X.env.locals/\(∀ x c,X.env.cells.lookup x=some c->c≠b)/\∀ p∈X.pn++pins,p.1≠b) :
  bF X pins σ H' { s with heap:=h',gens:=g',drawn:=d',toks:=t' }:=by
 obtain ⟨m,⟨o,es,ep,ho,r⟩,_⟩:=id I.loc
 obtain ⟨sl,hL⟩:=u.any ho I.free fun z=>(hch _ z).2.1 rfl
 exact I.step (ch:=ch) hch (fun b o hL hb hc e n=>u.keep b o e n (fun z=>(List.mem_cons.mp (I.stkSub b z)).elim hL hb) hc) (fun b o _ _ hc e n=>u.any e n hc) (fun b o hc e n=>u.free b o e n hc) (fun b o hc e=>u.there b o e hc) u.tups u.frzs u.tbls (fun m' hm=>by
  obtain ⟨o',es',ep',ho',r'⟩:=hm
  rw [ho] at ho';cases ho'
  exact ⟨_,es',ep',hL,r'⟩) hok hg
theorem bF.turned {t':Nat}{it:ag} (I:bF X pins σ H s) (k:∀ b o,b≠it->s.heap.get? b=some o->h'.get? b=some o) (hn:H it=none) (hL:it≠X.env.locals)
  (h1:it∈X.ex\/X.s₀.heap.objs.size<=it) (h2:∀ x c,X.env.cells.lookup x=some c->c≠it) (h3:∀ p∈X.pn++pins,p.1≠it):bF X pins σ H { s with heap:=h',toks:=t' }:=by
 have nit:∀ b u,H b=some u->b≠it:=fun b u e z=>by rw [z,hn] at e;cases e
 refine I.step (g':=s.gens) (d':=s.drawn) (ch:=[it]) (fun b hb=>?_) (fun b o _ _ hc e _=>k b o (fun z=>hc (by simp [z])) e) (fun b o _ _ hc e _=>⟨o.slots,k b o (fun z=>hc (by simp [z])) e⟩) (fun _ _ _ _ n=>n)
  (fun b o hc e=>⟨o,k b o (fun z=>hc (by simp [z])) e⟩) (fun _ _ e=>e) (fun _ _ _ e=>e) (fun b ps e=>⟨#[],by rw [e];simp⟩) (fun m hm=>?_) (fun b u e=>?_) I.bare
 ·have e:b=it:=by simpa using hb
  subst e
  exact ⟨h1,hL,h2,h3⟩
 ·obtain ⟨o,es,ep,ho,r⟩:=hm
  exact ⟨o,es,ep,k _ o (dh hL) ho,r⟩
 ·refine (I.hok b u e).stay (fun c v hc q=>k c v ?_ q) (fun _ q=>q) fun _ _ q=>q
  rcases hc with z | z
  ·rw [z];exact nit b u e
  ·exact nit c _ z
theorem bF.tok (I:bF X pins σ H s) (t:Nat):bF X pins σ H { s with toks:=t }:=I.un (h':=s.heap) (t':=t) Un.refl I.hok
theorem bF.kept {t':Nat} (I:bF X pins σ H s) (k:∀ b u,s.heap.get? b=some u->h'.get? b=some u):bF X pins σ H { s with heap:=h',toks:=t' }:=I.un (Un.kept k) (I.hok.kept k)
theorem bF.laid {a:ag}{o:HO}{t':Nat} (I:bF X pins σ H s) (k:∀ b u,s.heap.get? b=some u->h'.get? b=some u) (hp:s.heap.objs.size<=a) (new:dn X.prog X.w (upd H a o) h' a o) :
  bF X pins σ (upd H a o) { s with heap:=h',toks:=t' }:=I.un (Un.laid k hp (I.hok.fresh hp)) (I.hok.laid k hp new)
theorem bF.write {x e:ag}{o:HO}{t':Nat} (I:bF X pins σ H s) (mu:U1 (H x)) (he:e=x\/H e=some (.own x)) (k:∀ b u,b≠e->s.heap.get? b=some u->h'.get? b=some u) (heo:∃ u,h'.get? e=some u)
  (new:dn X.prog X.w (upd H x o) h' x o):bF X pins σ (upd H x o) { s with heap:=h',toks:=t' }:=I.un (Un.write mu he k heo) (I.hok.write mu he k heo new)
theorem bF.weak {σ':List (Option V)} (I:bF X pins σ H s) (hl:σ'.length=σ.length) (w:∀ (i:Nat) v,σ'[i]?=some (some v)->σ[i]?=some (some v)):bF X pins σ' H s :=
 ⟨I.ok,I.os,I.bare,I.base,let ⟨m,hn,hl'⟩:=I.loc;⟨m,hn,fun i x v e1 e2 e3=>hl' i x v e1 (w i v e2) e3⟩,I.cell,I.free,I.freeC,I.pin,I.hok,hl.trans I.len⟩
theorem bF.pins_of {pins':List (ag×Obj)} (I:bF X pins σ H s) (h:∀ p∈pins',s.heap.get? p.1=some p.2/\H p.1=none/\p.1≠X.env.locals/\p.1∉X.fs/\∀ v,p.2.data≠.cell v):bF X pins' σ H s :=
 ⟨I.ok,I.os,I.bare,I.base,I.loc,I.cell,I.free,I.freeC,fun p hp=>(List.mem_append.mp hp).elim (fun z=>I.pin p (gN _ z)) (h p),I.hok,I.len⟩
theorem DK {N:List Str} (hN:N.Nodup) {i j:Nat}{x:Str} (a:N[i]?=some x) (b:N[j]?=some x):i=j:=by
 obtain ⟨h1,e1⟩:=List.getElem?_eq_some_iff.mp a
 obtain ⟨h2,e2⟩:=List.getElem?_eq_some_iff.mp b
 exact (List.getElem_inj hN).mp (e1.trans e2.symm)
theorem AZ {M:vJ}{A:aX}{E:a8->af->Prop}{i:Nat}{x:Str}{v:V}{u:a8}{Q:Unit->af->Prop} (I:bF X pins σ H s) (hN:X.N.Nodup) (hi:X.N[i]?=some x) (hx:R5 X.env.scope x) (r:dw v u)
  (h:∀ s',bF X pins (σ.set i (some v)) H s'->(∃ a,bI a s.heap s'.heap/\(a=X.env.locals\/X.env.cells.lookup x=some a))->Q () s') (hf:X.fn x=true\/X.env.scope.names.lookup x=some .local:=by first | exact .inl rfl | exact .inr rfl | assumption):ak M A (storeName X.env x u) Q E s:=by
 obtain ⟨m,hn,hl⟩:=id I.loc
 have hcls:(X.env.scope.kind == .class || (X.env.scope.kind == .module && X.env.locals != X.env.globals))=false:=by rw [I.ok.kind];rfl
 have hiσ:i<σ.length:=by rw [I.len];exact (List.getElem?_eq_some_iff.mp hi).1
 have cne:=I.cne
 have tracked:∀ {a:ag}{h':bf},(∃ o,s.heap.get? a=some o/\H a=none)->bI a s.heap h'->qo X.prog X.w H h':=fun {a h'} ha hs b ob e=>by
  obtain ⟨_,_,hfree⟩:=ha
  refine (I.hok b ob e).stay (fun c w' hc q=>(hs.2 c ?_).trans q) (fun _ q=>q) fun _ _ q=>q
  rintro rfl
  rcases hc with rfl | hc
  ·rw [hfree] at e;cases e
  ·rw [hfree] at hc;cases hc
 rcases hx with hk | hk
 ·refine wpAny_storeName_local hk hn (fun h' hn' hs=>?_) hcls
  obtain ⟨oL,_,_,hoL,_⟩:=id hn
  refine h _ ⟨I.ok,I.os,I.bare,⟨fun b o e n hb hx=>?_,fun b o e n hb hx=>?_,I.base.free,fun b o e hx=>?_,I.base.tups,I.base.frzs,I.base.tbls⟩,⟨_,hn',fun j y v' e1 e2 e3=>?_⟩,fun y c e=>?_,I.free,I.freeC,fun p hp=>?_,tracked ⟨oL,hoL,I.free⟩ hs,by simpa using I.len⟩ ⟨_,hs,.inl rfl⟩
  ·exact (hs.2 b (aC (aF (am e) I.ok.above))).trans (I.base.keep b o e n hb hx)
  ·obtain ⟨sl,e1⟩:=I.base.slot b o e n hb hx
   exact ⟨sl,(hs.2 b (aC (aF (am e) I.ok.above))).trans e1⟩
  ·obtain ⟨o',e1⟩:=I.base.there b o e hx
   exact ⟨o',(hs.2 b (aC (aF (am e) I.ok.above))).trans e1⟩
  ·by_cases hj:j=i
   ·subst hj
    rw [hi] at e1;cases e1
    rw [aJ hiσ] at e2
    cases e2
    exact ⟨u,r,.inl ⟨hk,by simp⟩⟩
   ·rw [aj (dh hj)] at e2
    obtain ⟨u',r',q⟩:=hl j y v' e1 e2 e3
    refine ⟨u',r',?_⟩
    rcases q with ⟨k,e⟩ | ⟨k,c,e,z⟩
    ·refine .inl ⟨k,?_⟩
     have:y≠x:=fun e=>hj (DK hN e1 (e ▸ hi))
     simp [this,e]
    ·exact .inr ⟨k,c,e,z.sameBut hs (cne y c e)⟩
  ·obtain ⟨w',z⟩:=I.cell y c e
   exact ⟨w',z.sameBut hs (cne y c e)⟩
  ·obtain ⟨e,n,ne,nf,d⟩:=I.pin p hp
   exact ⟨(hs.2 p.1 ne).trans e,n,ne,nf,d⟩
 ·have hfn:X.fn x=true:=by
   rcases hf with z | z
   ·exact z
   ·rw [z] at hk;cases hk
  obtain ⟨c,hc⟩:=I.ok.has x (.inl hk)
  obtain ⟨w',z⟩:=I.cell x c hc
  refine wpAny_storeName_cell I.ok.kind hk hc z (fun h' hc' hs=>?_)
  obtain ⟨oc,hoc,hocd⟩:=id z
  refine h { s with heap:=h' } ⟨I.ok,I.os,I.bare,⟨fun b o e n hb hx=>?_,fun b o e n hb hx=>?_,I.base.free,fun b o e hx=>?_,I.base.tups,I.base.frzs,I.base.tbls⟩,⟨m,hn.sameBut hs (dh (cne x c hc)),fun j y v' e1 e2 e3=>?_⟩,fun y c' e=>?_,I.free,I.freeC,fun p hp=>?_,tracked ⟨oc,hoc,I.freeC x c hc⟩ hs,by simpa using I.len⟩ ⟨c,hs,.inr hc⟩
  ·exact (hs.2 b (aC (aF (am e) (I.ok.cab x c hfn hc)))).trans (I.base.keep b o e n hb hx)
  ·obtain ⟨sl,e1⟩:=I.base.slot b o e n hb hx
   exact ⟨sl,(hs.2 b (aC (aF (am e) (I.ok.cab x c hfn hc)))).trans e1⟩
  ·obtain ⟨o',e1⟩:=I.base.there b o e hx
   exact ⟨o',(hs.2 b (aC (aF (am e) (I.ok.cab x c hfn hc)))).trans e1⟩
  ·by_cases hj:j=i
   ·subst hj
    rw [hi] at e1;cases e1
    rw [aJ hiσ] at e2
    cases e2
    exact ⟨u,r,.inr ⟨.inl hk,c,hc,hc'⟩⟩
   ·rw [aj (dh hj)] at e2
    obtain ⟨u',r',q⟩:=hl j y v' e1 e2 e3
    refine ⟨u',r',?_⟩
    rcases q with q | ⟨k,c',e,z'⟩
    ·exact .inl q
    ·refine .inr ⟨k,c',e,z'.sameBut hs ?_⟩
     rintro rfl
     exact hj (DK hN e1 (I.ok.inj _ _ _ e hc ▸ hi))
  ·by_cases hcc:c'=c
   ·subst hcc;exact ⟨_,hc'⟩
   ·obtain ⟨w2,z2⟩:=I.cell y c' e
    exact ⟨w2,z2.sameBut hs hcc⟩
  ·obtain ⟨e,n,ne,nf,d⟩:=I.pin p hp
   refine ⟨(hs.2 p.1 ?_).trans e,n,ne,nf,d⟩
   intro q
   rw [q,hoc] at e
   have q':oc=p.2:=bH e
   exact d w' (by rw [<- q'];exact hocd)
theorem qG {M:vJ}{A:aX}{E:a8->af->Prop}{i:Nat}{x:Str}{v:V}{u:a8}{Q:Unit->af->Prop} (I:bF X pins σ H s) (hN:X.N.Nodup) (hi:X.N[i]?=some x) (hx:R5 X.env.scope x) (r:dw v u)
  (h:∀ s',bF X pins (σ.set i (some v)) H s'->Q () s') (hf:X.fn x=true\/X.env.scope.names.lookup x=some .local:=by first | exact .inl rfl | exact .inr rfl | assumption):ak M A (storeName X.env x u) Q E s :=
 AZ I hN hi hx r (fun s' I' _=>h s' I') hf
theorem bF.call' {s':af}{ch:List ag} (I:bF X pins σ H s) (ho:s'.os=s.os) (u:Un (oB X.stack) ch H H' s.heap s'.heap) (hok:qo X.prog X.w H' s'.heap) (hg:qt s'.gens)
  (hch:∀ b∈ch,(b∈X.ex\/X.s₀.heap.objs.size<=b)/\b≠X.env.locals/\(∀ x c,X.env.cells.lookup x=some c->c≠b)/\∀ p∈X.pn++pins,p.1≠b):bF X pins σ H' s':=by
 obtain ⟨h',g',d',t',o'⟩:=s'
 have e:o'=s.os:=ho
 subst e
 exact I.call (g':=g') (t':=t') (d':=d') u hok hg hch
end
abbrev XK:=a8->Option ag->Hp->Prop
abbrev St:=List (Option V)
abbrev VK:=V->Hp->Prop
abbrev TE:=St->Hp->VK->Prop
abbrev TT:=St->Hp->(Bool->Hp->Prop)->Prop
abbrev TA:=St->Hp->(List V->Hp->Prop)->Prop
structure tP where
 nx:St->Hp->Prop
 rt:VK
 bk:St->Hp->Prop:=fun _ _=>False
 ct:St->Hp->Prop:=fun _ _=>False
abbrev TS:=tP->St->Hp->Prop
inductive EP (X:Cx) (pins:List (ag×Obj)) (σ:St) (Q:VK) (u:a8) (s':af):Prop
 | mk (v H':_) (h0:bF X pins σ H' s') (h1:dw v u) (h2:Q v H'):EP X pins σ Q u s'
inductive TP (X:Cx) (pins:List (ag×Obj)) (σ:St) (Q:Bool->Hp->Prop) (b:Bool) (s':af):Prop
 | mk (H':_) (h0:bF X pins σ H' s') (h1:Q b H'):TP X pins σ Q b s'
inductive AP (X:Cx) (pins:List (ag×Obj)) (σ:St) (Q:List V->Hp->Prop) (us:List a8) (s':af):Prop
 | mk (vs H':_) (h0:bF X pins σ H' s') (h1:cV vs us) (h2:Q vs H'):AP X pins σ Q us s'
inductive SN (X:Cx) (pins:List (ag×Obj)) (k:St->Hp->Prop) (s':af):Prop
 | mk (σ':St) (H':Hp) (I:bF X pins σ' H' s') (q:k σ' H'):SN X pins k s'
inductive SV (X:Cx) (pins:List (ag×Obj)) (k:V->Hp->Prop) (u:a8) (s':af):Prop
 | mk (v:V) (σ':St) (H':Hp) (I:bF X pins σ' H' s') (r:dw v u) (q:k v H'):SV X pins k u s'
def SP (X:Cx) (pins:List (ag×Obj)) (D:tP) (f:Flow) (s':af):Prop :=
 match f with
 | .next=>SN X pins D.nx s'
 | .brk=>SN X pins D.bk s'
 | .cont=>SN X pins D.ct s'
 | .ret u=>SV X pins D.rt u s'
def PE (X:Cx) (e:b9) (t:TE):Prop :=
 ∀ (pins:List (ag×Obj)) (s:af) (σ:St) (H:Hp) (Q:VK),bF X pins σ H s->t σ H Q->ak (aE X.prog X.w) X.A (da e X.env) (EP X pins σ Q) X.xe s
def PT (X:Cx) (e:b9) (t:TT):Prop :=
 ∀ (pins:List (ag×Obj)) (s:af) (σ:St) (H:Hp) (Q:Bool->Hp->Prop),bF X pins σ H s->t σ H Q->ak (aE X.prog X.w) X.A (BU e X.env (da e X.env)) (TP X pins σ Q) X.xe s
def PW (X:Cx) (e:b9) (t:TT):Prop :=
 ∀ (whole:Sem a8) (pins:List (ag×Obj)) (s:af) (σ:St) (H:Hp) (Q:Bool->Hp->Prop),bF X pins σ H s->t σ H Q->ak (aE X.prog X.w) X.A (BU e X.env whole) (TP X pins σ Q) X.xe s
theorem PW.pt {X:Cx}{e:b9}{t:TT} (h:PW X e t):PT X e t:=h _
def PA (X:Cx) (es:List b9) (t:TA):Prop :=
 ∀ (pos:Pos) (pins:List (ag×Obj)) (s:af) (σ:St) (H:Hp) (Q:List V->Hp->Prop),bF X pins σ H s->t σ H Q->ak (aE X.prog X.w) X.A (spliced (eV pos (aw es X.env))) (AP X pins σ Q) X.xe s
def PS (X:Cx) (st:cr) (t:TS):Prop :=
 ∀ (pins:List (ag×Obj)) (s:af) (σ:St) (H:Hp) (D:tP),bF X pins σ H s->t D σ H->ak (aE X.prog X.w) X.A (exec st X.env) (SP X pins D) X.xe s
def A_ (X:Cx) (st:List cr) (t:TS):Prop :=
 ∀ (pins:List (ag×Obj)) (s:af) (σ:St) (H:Hp) (D:tP),bF X pins σ H s->t D σ H->ak (aE X.prog X.w) X.A (execs st X.env) (SP X pins D) X.xe s
theorem fW {α:Type}{t:Sem α}{Q Q':α->af->Prop}{M:vJ}{A:aX}{E:a8->af->Prop}{s:af} (h:ak M A t Q E s) (hQ:∀ a s,Q a s->Q' a s):ak M A t Q' E s:=bc h hQ fun _ _ x=>x
end L2
namespace L2
open PySem PySem.Spec PyProof.Rows
section
variable {X:Cx}
inductive R6 (i:Nat) (σ:St) (H:Hp) (Q:VK):Prop
 | mk (v:_) (h0:σ[i]?=some (some v)) (h1:Q v H):R6 i σ H Q
def JZ (i:Nat):TE:=R6 i
def tC (v:V):TE:=fun _ H Q=>Q v H
theorem n_ {i:Nat}{x:Str}{pos:Pos} (hN:X.N[i]?=some x) (hv:LA X.env.scope x) (hd:(x == ("__debug__" : Str))=false:=by decide) (hcd:(x == ("__classdict__" : Str))=false:=by decide):PE X (.Name x pos) (JZ i):=by
 intro pins s σ H Q I h
 obtain ⟨v,e,h⟩:=h
 obtain ⟨m,hn,hl⟩:=I.loc
 obtain ⟨u,r,l⟩:=hl i x v hN e hv
 have fin:EP X pins σ Q u s:=⟨v,H,I,r,h⟩
 rcases l with ⟨hk,hm⟩ | ⟨hk,c,hc,hcell⟩
 ·exact y9 (vK I.ok.kind hk hn hm fin) hd
 ·rcases hk with hk | hk
  ·exact y9 (wpAny_loadName_cell I.ok.kind hk hc hcell fin) hd
  ·exact y9 (wpAny_loadName_free I.ok.kind hk hc hcell fin hcd) hd
theorem yr {i j pos}:PE X (.Constant (.int i) j pos) (tC (.int i)):=fun _ _ _ H _ I h=>wpAny_Constant_int ⟨.int i,H,I.tok _,⟨_,rfl⟩,h⟩
theorem L_ {b j pos}:PE X (.Constant (.bool b) j pos) (tC (.bl b)):=fun _ _ _ H _ I h=>Constant_bool ⟨.bl b,H,I,rfl,h⟩
theorem Sk {j pos}:PE X (.Constant .none j pos) (tC .non):=fun _ _ _ H _ I h=>Constant_none ⟨.non,H,I,rfl,h⟩
theorem M0 {x j pos}:PE X (.Constant (.str x) j pos) (tC (.str x)):=fun _ _ _ H _ I h=>Calls.Constant_str ⟨.str x,H,I.tok _,⟨_,rfl⟩,h⟩
def Gl (X:Cx) (x:Str):Prop:=X.env.kindOf x=some .globalImplicit
theorem uJ {E:a8->af->Prop}{pins:List (ag×Obj)}{s:af}{σ:St}{H:Hp}{x:Str}{u:a8}{pos:Pos}{Q:a8->af->Prop} (I:bF X pins σ H s) (hg:Gl X x) (hm:X.mg x=some u) (h:Q u s)
  (hd:(x == ("__debug__" : Str))=false:=by decide):ak (aE X.prog X.w) X.A (da (.Name x pos) X.env) Q E s :=
 mW I.ok.kind hg (Dy (by rw [I.ok.glob];exact I.mod.glob.keeps I.bk) hm h) hd
theorem tQ {E:a8->af->Prop}{pins:List (ag×Obj)}{s:af}{σ:St}{H:Hp}{x:Str}{u:a8}{pos:Pos}{Q:a8->af->Prop} (I:bF X pins σ H s) (hg:Gl X x) (hm:X.mg x=none) (hv:iz x=some u) (h:Q u s)
  (hn:x≠"__name__":=by decide) (hd:(x == ("__debug__" : Str))=false:=by decide):ak (aE X.prog X.w) X.A (da (.Name x pos) X.env) Q E s:=by
 obtain ⟨mb,h1,h2⟩:=I.mod.blt
 exact mW I.ok.kind hg (Calls.loadGlobal_builtin (by rw [I.ok.glob];exact I.mod.glob.keeps I.bk) hm (by rw [I.ok.blt];exact h1.keeps I.bk) ((h2 x hn).trans hv) h) hd
theorem C3 {x:Str}{v:V}{u:a8}{pos:Pos} (hg:Gl X x) (hm:X.mg x=some u) (r:dw v u) (hd:(x == ("__debug__" : Str))=false:=by decide):PE X (.Name x pos) (tC v) :=
 fun _ _ _ H _ I h=>uJ I hg hm ⟨v,H,I,r,h⟩ hd
theorem Ih {x:Str}{v:V}{u:a8}{pos:Pos} (hg:Gl X x) (hm:X.mg x=none) (hv:iz x=some u) (r:dw v u) (hn:x≠"__name__":=by decide) (hd:(x == ("__debug__" : Str))=false:=by decide):PE X (.Name x pos) (tC v) :=
 fun _ _ _ H _ I h=>tQ I hg hm hv ⟨v,H,I,r,h⟩ hn hd
variable {a b:b9}{ta tb:TE}{pos:Pos}
def PC (X:Cx) (op:xH) (a b:b9) (t:TE):Prop :=
 ∀ (pins:List (ag×Obj)) (s:af) (σ:St) (H:Hp) (Q:VK),bF X pins σ H s->t σ H Q ->
  ak (aE X.prog X.w) X.A (da a X.env) (fun v s₁=>ak (aE X.prog X.w) X.A (da b X.env) (fun u s₂=>ak (aE X.prog X.w) X.A (bN op v u) (EP X pins σ Q) X.xe s₂) X.xe s₁) X.xe s
theorem M1 (b:b9) {op:xH} (h:op≠.In) (h2:op≠.NotIn):hV op b=false:=by
 have e1:(op == CmpOp.In)=false:=by cases op<;>first | rfl | exact absurd rfl h
 have e2:(op == CmpOp.NotIn)=false:=by cases op<;>first | rfl | exact absurd rfl h2
 cases b<;>simp [hV,e1,e2]
def tB (t:TE):TT:=fun σ H Q=>t σ H fun x H1=>∃ c,x=.bl c/\Q c H1
theorem W6 {op:xH}{t:TE} (h:PC X op a b t) (h1:hV op b=false:=by first | exact M1 _ (by decide) (by decide) | rfl):PT X (.Compare a [op] [b] pos) (tB t):=by
 intro pins s σ H Q I hw
 refine OO (fW (h pins s σ H _ I hw) fun v s1 h1=>fW h1 fun u s2 h2=>fW h2 fun c s3 ⟨x,H1,I1,r1,q1⟩=>?_) h1
 obtain ⟨d,rfl,q⟩:=q1
 cases r1
 exact eC ⟨H1,I1,q⟩
theorem M2 {e:b9}{t:TE} (h:PE X e t) (he:∀ whole,BU e X.env whole=(do let v <- whole;FK e.pos;holding [v] (truthy v)):=by intro _;rfl):PT X e (tB t):=by
 intro pins s σ H Q I hw
 refine isTrue_plain (fW (h pins s σ H _ I hw) fun v s1 ⟨x,H1,I1,r1,q1⟩=>?_) (he _)
 obtain ⟨d,rfl,q⟩:=q1
 cases r1
 exact eC ⟨H1,I1,q⟩
variable {tA tB':TT}{bK:List b9}
def W7 (t u:TT):TT:=fun σ H Q=>t σ H fun c H1=>if c=true then u σ H1 Q else Q false H1
def XJ (t u:TT):TT:=fun σ H Q=>t σ H fun c H1=>if c=true then Q true H1 else u σ H1 Q
def W8 (t:TT):TT:=fun σ H Q=>t σ H fun c H1=>Q (!c) H1
theorem Po (ha:PT X a tA):PW X (.BoolOp .And [a] pos) tA:=by
 intro wh pins s σ H Q I h
 refine isTrue_and (fW (ha pins s σ H Q I h) fun c s1 e=>?_)
 cases c with
 | true=>exact isTrue_and_nil e
 | false=>exact e
theorem M3 (ha:PT X a tA):PW X (.BoolOp .Or [a] pos) tA:=by
 intro wh pins s σ H Q I h
 refine isTrue_or (fW (ha pins s σ H Q I h) fun c s1 e=>?_)
 cases c with
 | false=>exact isTrue_or_nil e
 | true=>exact e
theorem Sm (ha:PT X a tA) (hb:PW X (.BoolOp .And (b::bK) pos) tB'):PW X (.BoolOp .And (a::b::bK) pos) (W7 tA tB'):=by
 intro wh pins s σ H Q I h
 refine isTrue_and (fW (ha pins s σ H _ I h) fun c s1 ⟨H1,I1,q1⟩=>?_)
 cases c with
 | true=>exact hb wh pins s1 σ H1 Q I1 q1
 | false=>exact ⟨H1,I1,q1⟩
theorem R7 (ha:PT X a tA) (hb:PW X (.BoolOp .Or (b::bK) pos) tB'):PW X (.BoolOp .Or (a::b::bK) pos) (XJ tA tB'):=by
 intro wh pins s σ H Q I h
 refine isTrue_or (fW (ha pins s σ H _ I h) fun c s1 ⟨H1,I1,q1⟩=>?_)
 cases c with
 | true=>exact ⟨H1,I1,q1⟩
 | false=>exact hb wh pins s1 σ H1 Q I1 q1
theorem M4 (ha:PT X a tA):PT X (.UnaryOp .Not a pos) (W8 tA):=by
 intro pins s σ H Q I h
 exact isTrue_not (fW (ha pins s σ H (fun c H1=>Q (!c) H1) I h) fun _ _ x=>by obtain ⟨a,b,c⟩:=x;exact ⟨a,b,c⟩)
def U2 (ta tb:TE):TE:=fun σ H Q=>ta σ H fun x H1=>∃ c,x=.bl c/\if c=true then tb σ H1 Q else Q (.bl false) H1
def U3 (ta:TE):TE:=fun σ H Q=>ta σ H fun x H1=>∃ c,x=.bl c/\Q (.bl (!c)) H1
theorem Sn {op}{t:TE} (h:PE X a t):PE X (.BoolOp op [a] pos) t:=fun pins s σ H Q I hw=>BoolOp_one (h pins s σ H Q I hw)
theorem So (ha:PE X a ta) (hb:PE X (.BoolOp .And (b::bK) pos) tb):PE X (.BoolOp .And (a::b::bK) pos) (U2 ta tb):=by
 intro pins s σ H Q I h
 refine BoolOp_and (fW (ha pins s σ H _ I h) fun v s1 ⟨x,H1,I1,r1,q1⟩=>?_)
 obtain ⟨c,rfl,q1⟩:=q1
 cases r1
 refine eC ?_
 cases c with
 | true=>exact hb pins s1 σ H1 Q I1 q1
 | false=>exact ⟨.bl false,H1,I1,rfl,q1⟩
theorem Sq (ha:PE X a ta):PE X (.UnaryOp .Not a pos) (U3 ta):=by
 intro pins s σ H Q I h
 refine UnaryOp_ (fW (ha pins s σ H _ I h) fun v s1 ⟨x,H1,I1,r1,q1⟩=>?_)
 obtain ⟨c,rfl,q1⟩:=q1
 cases r1
 exact not_of (eC ⟨.bl (!c),H1,I1,rfl,q1⟩)
end
end L2
namespace L2
open PySem PySem.Spec PyProof.Rows
inductive Xc (K:a7) (a:ag) (xs:List V):Prop
 | mk (o:Obj) (its:Array a8) (n:Nat) (h0:K.lookup a=some o) (h1:o.cls=.type "list") (h2:o.dict=none) (h3:o.data=.seq its n) (h4:its.size<=sizeLine) (h5:cV xs its.toList):Xc K a xs
def mZ (K:a7) (H:Hp) (a:ag) (xs:List V):Prop :=
 Rd H a (.lst xs)\/Xc K a xs
inductive Xd (K:a7) (a:ag) (xs:List V):Prop
 | mk (o:Obj) (its:Array a8) (n:Nat) (h0:K.lookup a=some o) (h1:o.cls=.type "tuple") (h3:o.data=.seq its n) (h4:its.size<=sizeLine) (h5:cV xs its.toList):Xd K a xs
def lm (K:a7) (H:Hp) (a:ag) (xs:List V):Prop :=
 Rd H a (.tup xs)\/Xd K a xs
def W9:a8->Option V
 | .none=>some .non
 | .bool b=>some (.bl b)
 | .int i _=>some (.int i)
 | .str x _=>some (.str x)
 | .bytes b _=>some (.byt b)
 | .float b _=>some (.flt b)
 | .ref a=>some (.ref a)
 | .type n=>some (.ty n)
 | _=>none
theorem dw.abs {x:V}{u:a8} (r:dw x u):W9 u=some x:=by
 cases x with
 | non=>cases r;rfl
 | bl _=>cases r;rfl
 | int _=>obtain ⟨t,rfl⟩:=r;rfl
 | str _=>obtain ⟨t,rfl⟩:=r;rfl
 | byt _=>obtain ⟨t,rfl⟩:=r;rfl
 | flt _=>obtain ⟨t,rfl⟩:=r;rfl
 | ref _=>cases r;rfl
 | ty _=>cases r;rfl
theorem dw.inj {x y:V}{u:a8} (r:dw x u) (q:dw y u):x=y:=bH (r.abs.symm.trans q.abs)
theorem cV.inj {xs:List V}{us:List a8} (h:cV xs us):∀ {ys:List V},cV ys us->xs=ys:=by
 induction h with
 | nil=>intro ys k;cases k;rfl
 | cons r t ih=>intro ys k;cases k with | cons r' t'=>rw [r.inj r',ih t']
section
variable {X:Cx}{pins:List (ag×Obj)}{σ:St}{H:Hp}{s:af}{a:ag}{xs ys:List V}
theorem mZ.of {K:a7} (h:H a=some (.lst xs)):mZ K H a xs:=.inl (.inl h)
theorem lm.of {K:a7} (h:H a=some (.tup xs)):lm K H a xs:=.inl (.inl h)
inductive Xe (h:bf) (a:ag) (xs:List V):Prop
 | mk (its:List a8) (r:cV xs its) (p:PlainL h a its.toArray) (z:xs.length<=sizeLine):Xe h a xs
inductive Xg (h:bf) (a:ag) (xs:List V):Prop
 | mk (its:List a8) (r:cV xs its) (p:Dw h a its.toArray) (z:xs.length<=sizeLine):Xg h a xs
inductive Xh (h:bf) (l:ag) (xs:List V):Prop
 | mk (z:xs.length<=sizeLine) (its:List a8) (n:Nat) (r:cV xs its) (hl:xs.length=its.length) (e:h.get? l=some { cls:=.type "list",data:=.seq its.toArray n }):Xh h l xs
theorem bF.list (I:bF X pins σ H s) (h:mZ X.K H a xs):Xe s.heap a xs:=by
 rcases h with h | ⟨o,its,n,hk,hc,hd,hs,hz,r⟩
 ·obtain ⟨z,its,n,r,e⟩:=h.ok I.hok
  exact ⟨its,r,⟨_,n,e,rfl,rfl,rfl⟩,z⟩
 ·refine ⟨its.toList,r,⟨o,n,I.kIn a o hk,hc,hd,by simpa using hs⟩,?_⟩
  have e:=r.length
  simp only [aq] at e
  omega
theorem bF.tuple (I:bF X pins σ H s) (h:lm X.K H a xs):Xg s.heap a xs:=by
 rcases h with h | ⟨o,its,n,hk,hc,hs,hz,r⟩
 ·obtain ⟨z,its,r,p⟩:=h.ok I.hok
  exact ⟨its,r,p,z⟩
 ·refine ⟨its.toList,r,⟨o,I.kIn a o hk,hc,n,by simpa using hs⟩,?_⟩
  have e:=r.length
  simp only [aq] at e
  omega
theorem bF.list_inj (I:bF X pins σ H s) (h:mZ X.K H a xs) (h':mZ X.K H a ys):xs=ys:=by
 obtain ⟨its,r,⟨o,n,e,_,_,d⟩,_⟩:=I.list h
 obtain ⟨its',r',⟨o',n',e',_,_,d'⟩,_⟩:=I.list h'
 rw [e] at e';cases e'
 rw [d] at d'
 injection d' with d1 _
 have:its=its':=by simpa using congrArg Array.toList d1
 subst this
 exact r.inj r'
theorem bF.tuple_inj (I:bF X pins σ H s) (h:lm X.K H a xs) (h':lm X.K H a ys):xs=ys:=by
 obtain ⟨its,r,⟨o,e,_,n,d⟩,_⟩:=I.tuple h
 obtain ⟨its',r',⟨o',e',_,n',d'⟩,_⟩:=I.tuple h'
 rw [e] at e';cases e'
 rw [d] at d'
 injection d' with d1 _
 have:its=its':=by simpa using congrArg Array.toList d1
 subst this
 exact r.inj r'
end
abbrev Cx.wish (X:Cx) (E:a8->af->Prop):Cx:={ X with xe:=E }
abbrev Cx.nox (X:Cx):Cx:=X.wish fun _ _=>False
theorem Cx.Ok.wish {X:Cx} (ok:X.Ok) (E:a8->af->Prop):(X.wish E).Ok :=
 ⟨ok.mod,ok.kind,ok.glob,ok.blt,ok.above,ok.inj,ok.has,ok.cab,ok.hd,ok.frames,ok.stk,ok.exf,ok.bs,ok.bsz,ok.noex,ok.exfs,ok.funs,ok.frf⟩
theorem Cx.Ok.unwish {X:Cx}{E:a8->af->Prop} (ok:(X.wish E).Ok):X.Ok :=
 ⟨ok.mod,ok.kind,ok.glob,ok.blt,ok.above,ok.inj,ok.has,ok.cab,ok.hd,ok.frames,ok.stk,ok.exf,ok.bs,ok.bsz,ok.noex,ok.exfs,ok.funs,ok.frf⟩
section
variable {X:Cx}{pins:List (ag×Obj)}{σ:St}{H:Hp}{s:af}{E:a8->af->Prop}
theorem bF.wish (I:bF X pins σ H s) (E:a8->af->Prop):bF (X.wish E) pins σ H s:=⟨I.ok.wish E,I.os,I.bare,I.base,I.loc,I.cell,I.free,I.freeC,I.pin,I.hok,I.len⟩
theorem bF.unwish (I:bF (X.wish E) pins σ H s):bF X pins σ H s:=⟨I.ok.unwish,I.os,I.bare,I.base,I.loc,I.cell,I.free,I.freeC,I.pin,I.hok,I.len⟩
theorem SP.unwish {D:tP}{f:Flow}{s':af} (h:SP (X.wish E) pins D f s'):SP X pins D f s':=by
 cases f with
 | next=>obtain ⟨σ',H',I,q⟩:=h;exact ⟨σ',H',I.unwish,q⟩
 | brk=>obtain ⟨σ',H',I,q⟩:=h;exact ⟨σ',H',I.unwish,q⟩
 | cont=>obtain ⟨σ',H',I,q⟩:=h;exact ⟨σ',H',I.unwish,q⟩
 | ret u=>obtain ⟨v,σ',H',I,r,q⟩:=h;exact ⟨v,σ',H',I.unwish,r,q⟩
end
section
variable {X:Cx}{st:cr}{bK:List cr}{t u:TS}{e:b9}{te:TE}{pos:Pos}
def U4:TS:=fun D σ H=>D.nx σ H
def Wa (t u:TS):TS:=fun D σ H=>t { D with nx:=u D } σ H
theorem Ii:A_ X [] U4:=fun _ _ σ H _ I h=>nO ⟨σ,H,I,h⟩
theorem jK (h1:PS X st t) (h2:A_ X bK u):A_ X (st::bK) (Wa t u):=by
 intro pins s σ H D I h
 refine BV (fW (h1 pins s σ H { D with nx:=u D } I h) fun f s1 q=>?_)
 cases f with
 | next =>
  obtain ⟨σ',H',I',q⟩:=q
  exact h2 pins s1 σ' H' D I' q
 | ret v=>exact q
 | brk=>exact q
 | cont=>exact q
theorem uK (h1:PS X st t):A_ X [st] t:=by
 intro pins s σ H D I h
 refine BV (fW (h1 pins s σ H D I h) fun f s1 q=>?_)
 cases f with
 | next=>exact nO q
 | ret v=>exact q
 | brk=>exact q
 | cont=>exact q
theorem bF.quiet {pins:List (ag×Obj)}{σ:St}{H:Hp}{s:af} (I:bF X pins σ H s):interactive X.env=false:=by simp [interactive,I.ok.kind]
def U5 (te:TE):TS:=fun D σ H=>te σ H fun _ H1=>D.nx σ H1
theorem rP (he:PE X e te) (hs:ig e none pos.line X.env=pure false:=by rfl):PS X (.Expr e pos) (U5 te):=by
 intro pins s σ H D I h
 exact wpAny_Expr_any (fW (he pins s σ H _ I h) fun v s1 h_7=>by obtain ⟨x,H1,I1,r1,q1⟩:=h_7;exact ⟨σ,H1,I1,q1⟩) I.quiet hs
def U6 (te:TE):TS:=fun D σ H=>te σ H D.rt
theorem C4 (he:PE X e te):PS X (.Return (some e) pos) (U6 te):=by
 intro pins s σ H D I h
 exact wpAny_Return_some (fW (he pins s σ H _ I h) fun v s1 h_8=>by obtain ⟨x,H1,I1,r1,q1⟩:=h_8;exact ⟨x,σ,H1,I1,r1,q1⟩)
def Wb (c:TT) (t u:TS):TS:=fun D σ H=>c σ H fun b H1=>if b=true then t D σ H1 else u D σ H1
theorem R8 {c:b9}{a b:List cr}{tc:TT} (hc:PT X c tc) (ha:A_ X a t) (hb:A_ X b u):PS X (.If c a b pos) (Wb tc t u):=by
 intro pins s σ H D I h
 refine wpAny_If (fW (hc pins s σ H _ I h) fun d s1 ⟨H1,I1,q1⟩=>?_)
 cases d with
 | true=>exact ha pins s1 σ H1 D I1 q1
 | false=>exact hb pins s1 σ H1 D I1 q1
def Sr:TS:=fun _ _ _=>False
theorem oG {sts:List cr}:A_ X sts Sr:=fun _ _ _ _ _ _ h=>h.elim
end
abbrev TG:=V->St->Hp->(St->Hp->Prop)->Prop
abbrev M5:=List V->St->Hp->(St->Hp->Prop)->Prop
def PG (X:Cx) (target:b9) (t:TG):Prop :=
 ∀ (pins:List (ag×Obj)) (s:af) (σ:St) (H:Hp) (v:V) (u:a8) (Q:St->Hp->Prop),bF X pins σ H s->dw v u->t v σ H Q ->
  ak (aE X.prog X.w) X.A (qz target X.env u) (fun _ s'=>SN X pins Q s') X.xe s
def R9 (X:Cx) (ts:List b9) (t:M5):Prop :=
 ∀ (pins:List (ag×Obj)) (s:af) (σ:St) (H:Hp) (vs:List V) (us:List a8) (Q:St->Hp->Prop),bF X pins σ H s->cV vs us->t vs σ H Q ->
  ak (aE X.prog X.w) X.A (Jy ((iA ts X.env).map (·.2)) us) (fun _ s'=>SN X pins Q s') X.xe s
section
variable {X:Cx}{pos:Pos}
def wN (i:Nat):TG:=fun v σ H Q=>Q (σ.set i (some v)) H
theorem cZ {i:Nat}{x:Str} (hN:X.N.Nodup) (hi:X.N[i]?=some x) (hx:R5 X.env.scope x) (hf:X.fn x=true\/X.env.scope.names.lookup x=some .local:=by first | exact .inl rfl | exact .inr rfl | assumption):PG X (.Name x pos) (wN i):=by
 intro pins s σ H v u Q I r h
 exact wpAny_assign_Name (qG I hN hi hx r (fun s' I'=>⟨_,H,I',h⟩) hf)
def aA:M5:=fun vs σ H Q=>vs=[]/\Q σ H
inductive M6 (t:TG) (u:M5) (vs:List V) (σ:St) (H:Hp) (Q:St->Hp->Prop):Prop
 | mk (v r:_) (h0:vs=v::r) (h1:t v σ H fun σ' H'=>u r σ' H' Q):M6 t u vs σ H Q
def aa (t:TG) (u:M5):M5:=M6 t u
theorem C5:R9 X [] aA:=by
 intro pins s σ H vs us Q I r h
 obtain ⟨e,h⟩:=h
 subst e
 cases r
 exact assignInOrder_nil ⟨σ,H,I,h⟩
theorem qH {e:b9}{es:List b9}{t:TG}{u:M5} (h1:PG X e t) (h2:R9 X es u)
  (hs:(iA (e::es) X.env).map (·.2)=qz e X.env::(iA es X.env).map (·.2):=by rfl):R9 X (e::es) (aa t u):=by
 intro pins s σ H vs us Q I r h
 obtain ⟨v,vr,e1,h⟩:=h
 subst e1
 cases r with
 | cons r rr =>
  rw [hs]
  refine yb (fW (h1 pins s σ H _ _ _ I r h) fun _ s1 ⟨σ1,H1,I1,q1⟩=>?_)
  exact h2 pins s1 σ1 H1 _ _ Q I1 rr q1
inductive Ra (K:a7) (n:Nat) (t:M5) (v:V) (σ:St) (H:Hp) (Q:St->Hp->Prop):Prop
 | mk (a xs:_) (h0:v=.ref a) (h1:lm K H a xs) (h2:xs.length=n) (h3:t xs σ H Q):Ra K n t v σ H Q
def Ss (K:a7) (n:Nat) (t:M5):TG:=Ra K n t
theorem Gk {es:List b9}{k:Nat}{t:M5}{n:Nat} (hc:X.calm=true) (h:R9 X es t)
  (hn:(iA es X.env).length=n:=by rfl) (hst:(iA es X.env).findIdx? (·.1)=none:=by rfl):PG X (.Tuple es k pos) (Ss X.K n t):=by
 intro pins s σ H v u Q I r hw
 obtain ⟨a,xs,e1,hq,hl,hw⟩:=hw
 subst e1
 cases r
 obtain ⟨its,rv,ht,hz⟩:=I.tuple hq
 refine assign_Tuple_tuple (I.ok.hd hc) ht (by simp [hn,<- hl,rv.length]) hst fun h' hx=>?_
 have I1:bF X pins σ H { s with heap:=h' }:=I.kept (t':=s.toks) fun b o e=>hx b o (aC (am e)) e
 exact h pins _ σ H xs _ Q I1 (by simpa using rv) hw
def U7 (te:TE) (g:TG):TS:=fun D σ H=>te σ H fun x H1=>g x σ H1 D.nx
theorem M7 {tg e:b9}{te:TE}{g:TG} (he:PE X e te) (hg:PG X tg g) (hs:xI [tg] e pos.line X.env=pure false:=by rfl) (hw:xJ [tg] e X.env=pure none:=by rfl)
  (h1:(iA [tg] X.env).map (·.2)=[qz tg X.env]:=by rfl):PS X (.Assign [tg] e pos) (U7 te g):=by
 intro pins s σ H D I h
 refine wpAny_Assign_stores (fW (he pins s σ H _ I h) fun v s1 ⟨x,H1,I1,r1,q1⟩=>?_) hs hw
 rw [h1]
 exact fW (hg pins s1 σ H1 x v _ I1 r1 q1) fun _ s2 q=>q
theorem C6 {i:Nat}{x:Str}{e:b9}{te:TE}{pos':Pos} (hN:X.N.Nodup) (hi:X.N[i]?=some x) (hx:R5 X.env.scope x) (he:PE X e te) (hs:ig e (some (.Name x pos')) pos.line X.env=pure false:=by rfl) (hf:X.fn x=true\/X.env.scope.names.lookup x=some .local:=by first | exact .inl rfl | exact .inr rfl | assumption) :
  PS X (.Assign [.Name x pos'] e pos) (U7 te (wN i)):=by
 intro pins s σ H D I h
 refine wpAny_Assign_Name (fW (he pins s σ H _ I h) fun v s1 ⟨y,H1,I1,r1,q1⟩=>?_) hs
 exact qG I1 hN hi hx r1 (fun s2 I2=>⟨_,H1,I2,q1⟩) hf
def Wc (i j:Nat) (ta:TA):TS:=fun D σ H=>ta σ H fun vs H1=>∃ v w,vs=[v,w]/\D.nx ((σ.set i (some v)).set j (some w)) H1
theorem Su {i j:Nat}{x y:Str}{a b:b9}{ta:TA}{px py pt:Pos}{kt k2 pt2} (hc:X.calm=true) (hN:X.N.Nodup) (hi:X.N[i]?=some x) (hj:X.N[j]?=some y) (hij:i≠j)
  (hx:X.env.scope.names.lookup x=some .local) (hy:X.env.scope.names.lookup y=some .local) (ha:PA X [a,b] ta)
  (hw:xJ [.Tuple [.Name x px,.Name y py] kt pt] (.Tuple [a,b] k2 pt2) X.env=pure (some [x,y]))
  (hs:xI [.Tuple [.Name x px,.Name y py] kt pt] (.Tuple [a,b] k2 pt2) pos.line X.env=pure false:=by rfl) :
  PS X (.Assign [.Tuple [.Name x px,.Name y py] kt pt] (.Tuple [a,b] k2 pt2) pos) (Wc i j ta):=by
 intro pins s σ H D I h
 rw [exec_Assign_arm]
 refine a6 (dk ?_)
 rw [hs]
 refine a6 (ac ?_)
 rw [if_neg (by decide)]
 refine a6 (Tuple_ (fW (ha _ pins s σ H _ I h) fun us s1 ⟨vs,H1,I1,r1,q1⟩=>?_))
 obtain ⟨v,w,e1,q1⟩:=q1
 subst e1
 obtain ⟨u1,u2,rfl,rv,rw'⟩:∃ u1 u2,us=[u1,u2]/\dw v u1/\dw w u2:=by
  cases r1 with
  | cons p q =>
   cases q with
   | cons p' q' =>
    cases q'
    exact ⟨_,_,rfl,p,p'⟩
 refine bL ?_ (by show 2<=sizeLine;decide)
 have I2:bF X pins σ H1 { s1 with heap:=s1.heap.push { cls:=.type "tuple",data:=.seq [u1,u2].toArray } }:=I1.kept (t':=s1.toks) fun b o e=>ae _ e
 rw [hw]
 refine a6 (ac ?_)
 show ak (aE X.prog X.w) X.A (do rule "assign.swapped-stores";let items <- unpackItems (.ref s1.heap.objs.size) 2 none;Jy [fun v=>FY X.env y v,fun v=>FY X.env x v] items.reverse;pure Flow.next) _ _ _
 refine a6 (gG (a6 (unpackItems_tuple (items:=#[u1,u2]) (I.ok.hd hc) (sQ s1.heap _) fun h' hx'=>?_)))
 have I3:=I2.kept (h':=h') (t':=s1.toks) fun b o e=>hx' b o (aC (am e)) e
 show ak _ _ (Jy [fun v=>FY X.env y v,fun v=>FY X.env x v] [u2,u1] >>= fun _=>pure Flow.next) _ _ _
 refine a6 (yb (wpAny_bindName (qG I3 hN hj (.inl hy) rw' (fun s2 I4=>?_) (.inr hy))))
 refine yb (wpAny_bindName (qG I4 hN hi (.inl hx) rv (fun s3 I5=>assignInOrder_nil (ac ?_)) (.inr hx)))
 rw [List.set_comm _ _ (dh hij)] at I5
 exact ⟨_,H1,I5,q1⟩
end
section
variable {X:Cx}{pos:Pos}
end
structure It where
 go:Nat->Hp->Prop
 yld:Nat->Hp->V->Hp->Prop
 stop:Nat->Hp->Prop
structure qI (X:Cx) (pins:List (ag×Obj)) (H:Hp) (b:ag):Prop where
 f0:H b=none
 f1:b≠X.env.locals
 f2:b∉X.fs
 f3:b∈X.ex\/X.s₀.heap.objs.size<=b
 f4:∀ x c,X.env.cells.lookup x=some c->c≠b
 f5:∀ p∈X.pn++pins,p.1≠b
theorem bF.fpOk {X:Cx}{pins:List (ag×Obj)}{σ:St}{H H':Hp}{s:af}{b:ag} (I:bF X pins σ H s) (hb:s.heap.objs.size<=b) (hn:H' b=none):qI X pins H' b:=by
 refine ⟨hn,ej (aF I.lt hb),I.nofs hb,.inr (bJ I.sz hb),fun x c e z=>?_,fun p hp z=>?_⟩
 ·obtain ⟨v,q⟩:=I.cell x c e
  exact absurd (aF q.lt (by rw [z];exact hb)) (bW _)
 ·exact absurd (aF (am (I.pin p hp).1) (by rw [z];exact hb)) (bW _)
structure Am (P:aI) (w:ba) (K:a7) (tg:b9) (J:It) (fp:List ag) (it:ag) (tn:Nat->bf->Prop):Prop where
 mem:it∈fp
 obj:∀ i h,tn i h->∀ b∈fp,∃ o,h.get? b=some o/\∀ v,o.data≠.cell v
 keep:∀ i h h',tn i h->(∀ b∈fp,∀ o,h.get? b=some o->h'.get? b=some o)->tn i h'
 item:∀ (X:Cx),X.prog=P->X.w=w->X.K=K->X.calm=true->∀ (i:Nat) (pins:List (ag×Obj)) (s:af) (σ:St) (H:Hp) (E:a8->af->Prop),bF X pins σ H s->(∀ b∈fp,qI X pins H b)->tn i s.heap->J.go i H ->
  ak (aE P w) X.A (nQ (.ref it)) (fun r s1=>∃ u,r=some u /\
   ak (aE P w) X.A (gY tg (.ref it) u) (fun _ s2=>∃ x H',bF X pins σ H' s2/\dw x u/\J.yld i H x H'/\tn (i + 1) s2.heap/\∀ b∈fp,H' b=none) E s1) E s
 done:∀ (X:Cx),X.prog=P->X.w=w->X.K=K->X.calm=true->∀ (i:Nat) (pins:List (ag×Obj)) (s:af) (σ:St) (H:Hp) (E:a8->af->Prop),bF X pins σ H s->(∀ b∈fp,qI X pins H b)->tn i s.heap->J.stop i H ->
  ak (aE P w) X.A (nQ (.ref it)) (fun r s1=>r=none/\bF X pins σ H s1) E s
 self:∀ (A:aX) (i:Nat) (s:af) (Q:a8->af->Prop) (E:a8->af->Prop),tn i s.heap->Q (.ref it) s->ak (aE P w) A (BW (.ref it)) Q E s
abbrev TI:=St->Hp->(It->Hp->Prop)->Prop
inductive Wd (X:Cx) (pins:List (ag×Obj)) (σ:St) (tg:b9) (R:It->Hp->Prop) (itv:a8) (s2:af):Prop
 | mk (it:ag) (fp:List ag) (tn:Nat->bf->Prop) (J:It) (H':Hp) (h0:itv=.ref it) (I:bF X pins σ H' s2) (T:Am X.prog X.w X.K tg J fp it tn) (t0:tn 0 s2.heap) (f:∀ b∈fp,qI X pins H' b) (q:R J H'):Wd X pins σ tg R itv s2
inductive We (X:Cx) (pins:List (ag×Obj)) (tn:Nat->bf->Prop) (fp:List ag) (W:Nat->Nat->St->Hp->Prop) (n:Nat) (s':af):Prop
 | mk (i:Nat) (σ':St) (H':Hp) (I:bF X pins σ' H' s') (t:tn i s'.heap) (f:∀ b∈fp,H' b=none) (q:W i n σ' H'):We X pins tn fp W n s'
def PI (X:Cx) (tg iter:b9) (wi:TI):Prop :=
 ∀ (pins:List (ag×Obj)) (s:af) (σ:St) (H:Hp) (R:It->Hp->Prop),bF X pins σ H s->wi σ H R ->
  ak (aE X.prog X.w) X.A (da iter X.env) (fun v s1=>ak (aE X.prog X.w) X.A (BW v) (Wd X pins σ tg R) X.xe s1) X.xe s
theorem M8 {M : vJ} {A : aX} {E : a8 -> af -> Prop} {s : af} {tg : b9} {it : ag} {u : a8} {o : Obj} {n : String} {vs : Array a8} {Q : Unit -> af -> Prop} (ho : s.heap.get? it = some o) (hc : o.cls = .type n) (hd : o.data = .fields vs)
    (hn : ["enumerate", "zip", "dict_itemiterator", "dict_reverseitemiterator", "odict_iterator", "itertools.zip_longest", "itertools.pairwise"].contains n = false) (hQ : Q () s) : ak M A (gY tg (.ref it) u) Q E s := by
  unfold gY
  cases tg <;> first
    | exact ac hQ
    | (cases u <;> first
        | exact ac hQ
        | (refine a6 (wpAny_load ho ?_)
           rw [hc, hd]
           show ak M A (if (["enumerate", "zip", "dict_itemiterator", "dict_reverseitemiterator", "odict_iterator", "itertools.zip_longest", "itertools.pairwise"].contains n && vs[0]? == some (cx _)) = true then _ else _) Q E s
           rw [if_neg (by intro h; rw [hn, AR] at h; cases h)]
           exact ac hQ))
def Wf (K:a7) (a:ag):It :=
 ⟨fun i H=>∃ xs x,mZ K H a xs/\xs[i]?=some x,fun i H x H'=>H'=H/\∀ xs,mZ K H a xs->xs[i]?=some x,fun i H=>∃ xs,mZ K H a xs/\xs.length<=i⟩
def Wg (K:a7) (a:ag):It :=
 ⟨fun i H=>∃ xs x,lm K H a xs/\xs[i]?=some x,fun i H x H'=>H'=H/\∀ xs,lm K H a xs->xs[i]?=some x,fun i H=>∃ xs,lm K H a xs/\xs.length<=i⟩
def VO (lo:Int) (n:Nat):It:=⟨fun i _=>i<n,fun i H x H'=>H'=H/\x=.int (lo + i),fun i _=>n<=i⟩
theorem J_ {P:aI}{w:ba}{K:a7}{tg:b9} (a it:ag):Am P w K tg (Wf K a) [it] it (fun i h=>h.IsListIter it a i) where
 mem:=by simp
 obj:=fun i h st b hb=>by
  have e:b=it:=by simpa using hb
  subst e
  obtain ⟨o,e,c,d⟩:=st
  exact ⟨o,e,fun v z=>by rw [d] at z;cases z⟩
 keep:=fun i h h' st k=>st.at fun o e=>k it (by simp) o e
 item:=by
  intro X hP hw hK hc i pins s σ H E I hf st hg
  subst hP hw hK
  obtain ⟨xs,x,hq,hx⟩:=hg
  obtain ⟨its,rv,p,hz⟩:=I.list hq
  obtain ⟨u,hu,ru⟩:=rv.get hx
  obtain ⟨f0,f1,f2,f3,f4,f5⟩:=hf it (by simp)
  refine wpAny_pyNext_list_item st p.isList (x:=u) (by simpa using hu) fun h' st' sb=>?_
  have I1:bF X pins σ H { s with heap:=h' }:=I.turned (t':=s.toks) (fun b o hb e=>(sb.2 b hb).trans e) f0 f1 f3 f4 f5
  obtain ⟨o,e,c,d⟩:=id st'
  exact ⟨u,rfl,M8 (s:={ s with heap:=h' }) e c d (by decide) ⟨x,H,I1,ru,⟨rfl,fun ys hy=>by rw [I.list_inj hy hq];exact hx⟩,st',fun b hb=>(hf b hb).1⟩⟩
 done:=by
  intro X hP hw hK hc i pins s σ H E I hf st hg
  subst hP hw hK
  obtain ⟨xs,hq,hx⟩:=hg
  obtain ⟨its,rv,p,hz⟩:=I.list hq
  obtain ⟨f0,f1,f2,f3,f4,f5⟩:=hf it (by simp)
  have hl:=rv.length
  exact wpAny_pyNext_list_end (I.ok.hd hc) st p.isList (by simp;omega) fun h' eb=>⟨rfl,I.turned (t':=s.toks) (fun b o hb e=>eb b o hb e) f0 f1 f3 f4 f5⟩
 self:=fun _ _ _ _ _ st h=>wpAny_pyIter_listiter st h
theorem Gm {P:aI}{w:ba}{K:a7}{tg:b9} (a it:ag):Am P w K tg (Wg K a) [it] it (fun i h=>h.IsTupleIter it a i) where
 mem:=by simp
 obj:=fun i h st b hb=>by
  have e:b=it:=by simpa using hb
  subst e
  obtain ⟨o,e,c,d⟩:=st
  exact ⟨o,e,fun v z=>by rw [d] at z;cases z⟩
 keep:=fun i h h' st k=>st.at fun o e=>k it (by simp) o e
 item:=by
  intro X hP hw hK hc i pins s σ H E I hf st hg
  subst hP hw hK
  obtain ⟨xs,x,hq,hx⟩:=hg
  obtain ⟨its,rv,p,hz⟩:=I.tuple hq
  obtain ⟨u,hu,ru⟩:=rv.get hx
  obtain ⟨f0,f1,f2,f3,f4,f5⟩:=hf it (by simp)
  refine wpAny_pyNext_tuple_item st (show s.heap.IsTuple a its.toArray from p) (x:=u) (by simpa using hu) fun h' st' sb=>?_
  have I1:bF X pins σ H { s with heap:=h' }:=I.turned (t':=s.toks) (fun b o hb e=>(sb.2 b hb).trans e) f0 f1 f3 f4 f5
  obtain ⟨o,e,c,d⟩:=id st'
  exact ⟨u,rfl,M8 (s:={ s with heap:=h' }) e c d (by decide) ⟨x,H,I1,ru,⟨rfl,fun ys hy=>by rw [I.tuple_inj hy hq];exact hx⟩,st',fun b hb=>(hf b hb).1⟩⟩
 done:=by
  intro X hP hw hK hc i pins s σ H E I hf st hg
  subst hP hw hK
  obtain ⟨xs,hq,hx⟩:=hg
  obtain ⟨its,rv,p,hz⟩:=I.tuple hq
  obtain ⟨f0,f1,f2,f3,f4,f5⟩:=hf it (by simp)
  have hl:=rv.length
  exact wpAny_pyNext_tuple_end (I.ok.hd hc) st (show s.heap.IsTuple a its.toArray from p) (by simp;omega) fun h' eb=>⟨rfl,I.turned (t':=s.toks) (fun b o hb e=>eb b o hb e) f0 f1 f3 f4 f5⟩
 self:=fun _ _ _ _ _ st h=>wpAny_pyIter_tupleiter st h
theorem Gn {P:aI}{w:ba}{K:a7}{tg:b9} (it:ag) (lo:Int) (n:Nat):Am P w K tg (VO lo n) [it] it (fun i h=>IsRangeIter h it (lo + (i:Nat) * 1) ((n:Int) - (i:Nat)) 1) where
 mem:=by simp
 obj:=fun i h st b hb=>by
  have e:b=it:=by simpa using hb
  subst e
  exact ⟨_,st,fun v z=>by
   have z':Data.fields _=Data.cell v:=z
   cases z'⟩
 keep:=fun i h h' st k=>k it (by simp) _ st
 item:=by
  intro X hP hw hK hc i pins s σ H E I hf st hg
  subst hP hw hK
  obtain ⟨f0,f1,f2,f3,f4,f5⟩:=hf it (by simp)
  have W:=Walks.range (prog:=X.prog) (w:=X.w) (I.ok.hd hc) it lo 1 n
  refine W.item i s _ _ hg st fun v h' tk hv st' kk=>?_
  obtain ⟨t,rfl⟩:=hv
  have I1:bF X pins σ H { s with heap:=h',toks:=tk }:=I.turned (fun b o hb e=>kk b o (by simpa using hb) e) f0 f1 f3 f4 f5
  refine ⟨_,rfl,M8 (s:={ s with heap:=h',toks:=tk }) (n:="range_iterator") st' rfl rfl (by decide) ⟨.int (lo + i),H,I1,⟨t,?_⟩,⟨rfl,rfl⟩,st',fun b hb=>(hf b hb).1⟩⟩
  rw [Int.mul_one]
 done:=by
  intro X hP hw hK hc i pins s σ H E I hf st hg
  subst hP hw hK
  obtain ⟨f0,f1,f2,f3,f4,f5⟩:=hf it (by simp)
  exact wpAny_pyNext_range_end (I.ok.hd hc) st (by have:n<=i:=hg;omega) fun h' eb=>⟨rfl,I.turned (t':=s.toks) (fun b o hb e=>eb b o hb e) f0 f1 f3 f4 f5⟩
 self:=fun _ _ _ _ _ st h=>wpAny_pyIter_rangeiter st h
end L2
namespace L2
open PySem PySem.Spec PyProof.Rows
section
variable {X:Cx}{tg:b9}
def U8 (K:a7) (tl:TE):TI:=fun σ H R=>tl σ H fun x H1=>∃ a,x=.ref a/\(∃ xs,mZ K H1 a xs)/\R (Wf K a) H1
def Wi (K:a7) (tl:TE):TI:=fun σ H R=>tl σ H fun x H1=>∃ a,x=.ref a/\(∃ xs,lm K H1 a xs)/\R (Wg K a) H1
theorem uL {l:b9}{tl:TE} (hl:PE X l tl):PI X tg l (U8 X.K tl):=by
 intro pins s σ H R I h
 refine fW (hl pins s σ H _ I h) fun v s1 h_16=>?_
 obtain ⟨x,H1,I1,r1,q1⟩:=h_16
 obtain ⟨a,e,⟨xs,hq⟩,q⟩:=q1
 subst e
 cases r1
 obtain ⟨its,rv,p,hz⟩:=I1.list hq
 refine lr p.isList ?_
 refine ⟨s1.heap.objs.size,[s1.heap.objs.size],_,_,H1,rfl,I1.kept (t':=s1.toks) fun b o e=>ae _ e,J_ a _,⟨_,aG _ rfl,rfl,rfl⟩,fun b hb=>?_,q⟩
 have e:b=s1.heap.objs.size:=by simpa using hb
 subst e
 exact I1.fpOk (ar _) (I1.hok.fresh (ar _))
theorem M9 {l:b9}{tl:TE} (hl:PE X l tl):PI X tg l (Wi X.K tl):=by
 intro pins s σ H R I h
 refine fW (hl pins s σ H _ I h) fun v s1 h_17=>?_
 obtain ⟨x,H1,I1,r1,q1⟩:=h_17
 obtain ⟨a,e,⟨xs,hq⟩,q⟩:=q1
 subst e
 cases r1
 obtain ⟨its,rv,p,hz⟩:=I1.tuple hq
 refine gH (show s1.heap.IsTuple a its.toArray from p) ?_
 refine ⟨s1.heap.objs.size,[s1.heap.objs.size],_,_,H1,rfl,I1.kept (t':=s1.toks) fun b o e=>ae _ e,Gm a _,⟨_,aG _ rfl,rfl,rfl⟩,fun b hb=>?_,q⟩
 have e:b=s1.heap.objs.size:=by simpa using hb
 subst e
 exact I1.fpOk (ar _) (I1.hok.fresh (ar _))
theorem Ma {pins:List (ag×Obj)}{σ:St}{H:Hp}{s:af}{R:It->Hp->Prop}{E:a8->af->Prop}{lo hi:Int}{t u v:Tok}{tk:Nat} (I:bF X pins σ H s) (h1:-(2 ^ 62)<=lo) (h2:lo<2 ^ 62) (h3:-(2 ^ 62)<=hi) (h4:hi<2 ^ 62)
  (q:R (VO lo (hi - lo).toNat) H):ak (aE X.prog X.w) X.A (BW (.ref s.heap.objs.size)) (Wd X pins σ tg R) E { s with heap:=s.heap.push { cls:=.type "range",data:=.fields #[.int lo t,.int hi u,.int 1 v] },toks:=tk }:=by
 refine wpAny_pyIter_range (IsRange.new ..) (small_one h1 h2 h3 h4) ?_
 have I1:bF X pins σ H { s with heap:=s.heap.push { cls:=.type "range",data:=.fields #[.int lo t,.int hi u,.int 1 v] },toks:=tk }:=I.kept fun b o e=>ae _ e
 refine ⟨(s.heap.push { cls:=.type "range",data:=.fields #[.int lo t,.int hi u,.int 1 v] }).objs.size,[(s.heap.push { cls:=.type "range",data:=.fields #[.int lo t,.int hi u,.int 1 v] }).objs.size],_,_,H,rfl,
  I1.kept (t':=tk) fun b o e=>ae _ e,Gn _ lo (hi - lo).toNat,?_,fun b hb=>?_,q⟩
 ·have e1:lo + ((0:Nat):Int) * 1=lo:=by simp
  have e2:(((hi - lo).toNat:Nat):Int) - ((0:Nat):Int)=Builtin.Range.rangeSize lo hi 1:=by rw [rangeSize_one];split<;>omega
  show IsRangeIter _ _ (lo + ((0:Nat):Int) * 1) ((((hi - lo).toNat:Nat):Int) - ((0:Nat):Int)) 1
  rw [e1,e2]
  exact aG _ rfl
 ·have e:b=(s.heap.push { cls:=.type "range",data:=.fields #[.int lo t,.int hi u,.int 1 v] }).objs.size:=by simpa using hb
  subst e
  exact I1.fpOk (ar _) (I1.hok.fresh (ar _))
def U9 (ta:TA):TI:=fun σ H R=>ta σ H fun vs H1=>∃ j:Int,vs=[.int j]/\-(2 ^ 62)<=j/\j<2 ^ 62/\R (VO 0 j.toNat) H1
theorem K0 {a:b9}{ta:TA}{p pos:Pos} (hg:Gl X "range") (hm:X.mg "range"=none) (ha:PA X [a] ta) (hs:aw [a] X.env=[(false,da a X.env)]:=by rfl):PI X tg (.Call (.Name "range" p) [a] [] pos) (U9 ta):=by
 intro pins s σ H R I h
 refine Call_ (tQ I hg hm boot_range (f9 (fW (ha pos pins s σ H _ I h) fun us s1 ⟨vs,H1,I1,r1,q1⟩=>?_) hs rfl))
 obtain ⟨j,e,q1,q2,q⟩:=q1
 subst e
 cases r1 with
 | cons r rr =>
  cases rr
  obtain ⟨t,rfl⟩:=r
  exact call_range_1 (Ma I1 (by omega) (by omega) q1 q2 (by simpa using q))
inductive Wj (g:TG) (tb:TS) (D:tP) (σ:St) (J:It) (H1:Hp):Prop
 | mk (W:Nat->Nat->St->Hp->Prop) (w0:∃ m,W 0 m σ H1) (turn:∀ i m σ H,W i m σ H ->
 (J.stop i H/\D.nx σ H)\/(J.go i H/\∃ N:St->Hp->Prop,(∀ σ' H',N σ' H'->∃ m',m'<m/\W (i + 1) m' σ' H')/\∀ x H',J.yld i H x H'->g x σ H' fun σ2 H2=>tb { D with nx:=N,ct:=N,bk:=D.nx } σ2 H2)):Wj g tb D σ J H1
def Wk (wi:TI) (g:TG) (tb:TS):TS:=fun D σ H=>wi σ H (Wj g tb D σ)
def vW (fp:List ag) (h:bf):List (ag×Obj):=fp.filterMap fun b=>(h.get? b).map fun o=>(b,o)
theorem kq {fp:List ag}{h:bf}{b:ag}{o:Obj} (hb:b∈fp) (e:h.get? b=some o):(b,o)∈vW fp h:=List.mem_filterMap.mpr ⟨b,hb,by rw [e];rfl⟩
theorem K1 {fp:List ag}{h:bf}{p:ag×Obj} (hp:p∈vW fp h):p.1∈fp/\h.get? p.1=some p.2:=by
 obtain ⟨b,hb,e⟩:=List.mem_filterMap.mp hp
 cases q:h.get? b with
 | none=>rw [q] at e;cases e
 | some o =>
  rw [q] at e
  have e':(b,o)=p:=bH e
  subst e'
  exact ⟨hb,q⟩
theorem bF.pinned {pins:List (ag×Obj)}{σ:St}{H:Hp}{s:af}{fp:List ag} (I:bF X pins σ H s) (hf:∀ b∈fp,qI X pins H b) (ho:∀ b∈fp,∃ o,s.heap.get? b=some o/\∀ v,o.data≠.cell v):bF X (pins++vW fp s.heap) σ H s :=
 I.pins_of fun p hp=>(List.mem_append.mp hp).elim (fun z=>I.pin p (aY _ z)) fun z=>by
  obtain ⟨hb,e⟩:=K1 z
  obtain ⟨f0,f1,f2,_⟩:=hf p.1 hb
  obtain ⟨o,e',d⟩:=ho p.1 hb
  rw [e] at e';cases e'
  exact ⟨e,f0,f1,f2,d⟩
theorem bF.unpinned {pins pl:List (ag×Obj)}{σ:St}{H:Hp}{s:af} (I:bF X (pins++pl) σ H s):bF X pins σ H s:=I.pins_of fun p hp=>I.pin p (aY _ (gN _ hp))
theorem Mb {iter:b9}{body:List cr}{wi:TI}{g:TG}{tb:TS}{pos:Pos} (hp:PassesOwn (aE X.prog X.w) X.A X.env X.xe) (hc:X.calm=true) (hi:PI X tg iter wi) (hg:PG X tg g) (hb:A_ X body tb)
  (hs:∀ x,eE iter X.env x=pure x:=by intro _;rfl):PS X (.For tg iter body [] pos) (Wk wi g tb):=by
 intro pins s σ H D I h
 refine wpAny_For (fW (hi pins s σ H _ I h) fun v s1 h1=>fW h1 fun itv s2 h2=>?_) hs
 obtain ⟨it,fp,tn,J,H2,e,I2,T,st2,f2,W,⟨m0,w0⟩,turn⟩:=h2
 subst e
 have stat:∀ {H':Hp},(∀ b∈fp,H' b=none)->∀ b∈fp,qI X pins H' b:=fun hn b hb=>⟨hn b hb,(f2 b hb).f1,(f2 b hb).f2,(f2 b hb).f3,(f2 b hb).f4,(f2 b hb).f5⟩
 refine codeAny_forLoop_any (We X pins tn fp W) ?_ m0 ⟨0,σ,H2,I2,st2,fun b hb=>(f2 b hb).1,w0⟩
 rintro n s3 ⟨i,σ3,H3,I3,st3,fr3,w3⟩
 rcases turn i n σ3 H3 w3 with ⟨stop,qn⟩ | ⟨go,N,hN,step⟩
 ·refine nR hp (fW (T.done X rfl rfl rfl hc i pins s3 σ3 H3 X.xe I3 (stat fr3) st3 stop) fun r s4 ⟨hr,I4⟩=>?_)
  subst hr
  exact nO ⟨σ3,H3,I4,qn⟩
 ·refine nR hp (fW (T.item X rfl rfl rfl hc i pins s3 σ3 H3 X.xe I3 (stat fr3) st3 go) fun r s4 ⟨u,hr,h4⟩=>?_)
  subst hr
  refine nR hp (fW h4 fun _ s5 ⟨x,H5,I5,r5,y5,st5,fr5⟩=>?_)
  have I5':=I5.pinned (stat fr5) (T.obj _ _ st5)
  refine nR hp (fW (hg _ s5 σ3 H5 x u _ I5' r5 (step x H5 y5)) fun _ s6 ⟨σ6,H6,I6,q6⟩=>?_)
  refine nR hp (fW (hb _ s6 σ6 H6 _ I6 q6) fun f s7 q7=>?_)
  have again:∀ {σ7:St}{H7:Hp},bF X (pins++vW fp s5.heap) σ7 H7 s7->N σ7 H7->∃ m,m<n/\We X pins tn fp W m s7:=fun {σ7 H7} I7 n7=>by
   obtain ⟨m',hm,w7⟩:=hN σ7 H7 n7
   refine ⟨m',hm,i + 1,σ7,H7,I7.unpinned,T.keep _ _ _ st5 fun b hb o e=>(I7.pin (b,o) (aY _ (aY _ (kq hb e)))).1,fun b hb=>?_,w7⟩
   obtain ⟨o,e,d⟩:=T.obj _ _ st5 b hb
   exact (I7.pin (b,o) (aY _ (aY _ (kq hb e)))).2.1
  cases f with
  | next=>obtain ⟨σ7,H7,I7,n7⟩:=q7;exact again I7 n7
  | cont=>obtain ⟨σ7,H7,I7,n7⟩:=q7;exact again I7 n7
  | brk=>obtain ⟨σ7,H7,I7,q7⟩:=q7;exact ⟨σ7,H7,I7.unpinned,q7⟩
  | ret v=>obtain ⟨x7,σ7,H7,I7,r7,q7⟩:=q7;exact ⟨x7,σ7,H7,I7.unpinned,r7,q7⟩
end
end L2
namespace L2
open PySem PySem.Spec PyProof.Rows
abbrev R2:=V->V->Hp->VK->Prop
def qi (X:Cx) (f:a8->a8->Sem a8) (r:R2):Prop :=
 ∀ (pins:List (ag×Obj)) (s:af) (σ:St) (H:Hp) (x y:V) (v u:a8) (Q:VK),bF X pins σ H s->dw x v->dw y u->r x y H Q ->
  ak (aE X.prog X.w) X.A (f v u) (EP X pins σ Q) X.xe s
def Wl (X:Cx) (f:a8->Sem a8) (r:V->Hp->VK->Prop):Prop :=
 ∀ (pins:List (ag×Obj)) (s:af) (σ:St) (H:Hp) (x:V) (v:a8) (Q:VK),bF X pins σ H s->dw x v->r x H Q ->
  ak (aE X.prog X.w) X.A (f v) (EP X pins σ Q) X.xe s
def jL (X:Cx) (f:a8) (r:List V->Hp->VK->Prop):Prop :=
 ∀ (pins:List (ag×Obj)) (s:af) (σ:St) (H:Hp) (xs:List V) (us:List a8) (Q:VK),bF X pins σ H s->cV xs us->r xs H Q ->
  ak (aE X.prog X.w) X.A (call f us) (EP X pins σ Q) X.xe s
def Ua (r:R2) (ta tb:TE):TE:=fun σ H Q=>ta σ H fun x H1=>tb σ H1 fun y H2=>r x y H2 Q
def XM (r:V->Hp->VK->Prop) (ta:TE):TE:=fun σ H Q=>ta σ H fun x H1=>r x H1 Q
inductive Xi (C:Int->Int->Prop) (g:Int->Int->V) (x:V) (y:V) (H:Hp) (Q:VK):Prop
 | mk (i j:_) (h0:x=.int i) (h1:y=.int j) (h2:C i j) (h3:Q (g i j) H):Xi C g x y H Q
def rI (C:Int->Int->Prop) (g:Int->Int->V):R2:=Xi C g
inductive Ub (g:Int->Int->V) (x:V) (y:V) (H:Hp) (Q:VK):Prop
 | mk (i j:_) (h0:x=.int i) (h1:y=.int j) (h2:Q (g i j) H):Ub g x y H Q
def Sv (g:Int->Int->V):R2:=Ub g
inductive Xj (g:Int->V) (x:V) (H:Hp) (Q:VK):Prop
 | mk (i:_) (h0:x=.int i) (h1:Q (g i) H):Xj g x H Q
def rU (g:Int->V):V->Hp->VK->Prop:=Xj g
section
variable {X:Cx}{a b c:b9}{ta tb tc:TE}{pos:Pos}
theorem Sw (ha:PE X a ta) (hb:PE X b tb) {pins:List (ag×Obj)}{s:af}{σ:St}{H:Hp}{R:V->V->Hp->Prop} (I:bF X pins σ H s)
  (h:ta σ H fun x H1=>tb σ H1 fun y H2=>R x y H2) {Q:a8->af->Prop}{f:a8->a8->Sem a8}
  (hf:∀ v u s2 x y H2,bF X pins σ H2 s2->dw x v->dw y u->R x y H2->ak (aE X.prog X.w) X.A (f v u) Q X.xe s2) :
  ak (aE X.prog X.w) X.A (da a X.env) (fun v s₁=>ak (aE X.prog X.w) X.A (da b X.env) (fun u s₂=>ak (aE X.prog X.w) X.A (f v u) Q X.xe s₂) X.xe s₁) X.xe s:=by
 refine fW (ha pins s σ H _ I h) fun v s1 h_19=>?_
 obtain ⟨x,H1,I1,r1,q1⟩:=h_19
 refine fW (hb pins s1 σ H1 _ I1 q1) fun u s2 h_20=>?_
 obtain ⟨y,H2,I2,r2,q2⟩:=h_20
 exact hf v u s2 x y H2 I2 r1 r2 q2
theorem Ij {op:Operator}{r:R2} (ho:qi X (fU op) r) (ha:PE X a ta) (hb:PE X b tb):PE X (.BinOp a op b pos) (Ua r ta tb):=by
 intro pins s σ H Q I h
 exact wpAny_BinOp (Sw ha hb I h fun v u s2 x y H2 I2 rx ry q=>ho pins s2 σ H2 x y v u Q I2 rx ry q)
theorem Rb {op:UnaryOp}{r:V->Hp->VK->Prop} (ho:Wl X (unaryOp op) r) (ha:PE X a ta):PE X (.UnaryOp op a pos) (XM r ta):=by
 intro pins s σ H Q I h
 exact UnaryOp_ (fW (ha pins s σ H _ I h) fun v s1 h_21=>by obtain ⟨x,H1,I1,r1,q1⟩:=h_21;exact ho pins s1 σ H1 x v Q I1 r1 q1)
theorem Wm {f:a8->a8->Sem a8}{C:Int->Int->Prop}{g:Int->Int->Int}
  (rule:∀ (i j:Int) (t u:Tok) (s:af) (Q:a8->af->Prop) (E:a8->af->Prop),C i j->Q (.int (g i j) s.toks) { s with toks:=s.toks + 1 }->ak (aE X.prog X.w) X.A (f (.int i t) (.int j u)) Q E s) :
  qi X f (rI C fun i j=>.int (g i j)):=by
 intro pins s σ H x y v u Q I rx ry h
 obtain ⟨i,j,rfl,rfl,hc,q⟩:=h
 obtain ⟨t,rfl⟩:=rx
 obtain ⟨t',rfl⟩:=ry
 exact rule i j t t' s _ _ hc ⟨.int (g i j),H,I.tok _,⟨_,rfl⟩,q⟩
theorem Wn {f:a8->a8->Sem a8}{g:Int->Int->Int}
  (rule:∀ (i j:Int) (t u:Tok) (s:af) (Q:a8->af->Prop) (E:a8->af->Prop),Q (.int (g i j) s.toks) { s with toks:=s.toks + 1 }->ak (aE X.prog X.w) X.A (f (.int i t) (.int j u)) Q E s) :
  qi X f (Sv fun i j=>.int (g i j)):=by
 intro pins s σ H x y v u Q I rx ry h
 obtain ⟨i,j,rfl,rfl,q⟩:=h
 obtain ⟨t,rfl⟩:=rx
 obtain ⟨t',rfl⟩:=ry
 exact rule i j t t' s _ _ ⟨.int (g i j),H,I.tok _,⟨_,rfl⟩,q⟩
theorem Sx {f:a8->a8->Sem a8}{g:Int->Int->Bool}
  (rule:∀ (i j:Int) (t u:Tok) (s:af) (Q:a8->af->Prop) (E:a8->af->Prop),Q (.bool (g i j)) s->ak (aE X.prog X.w) X.A (f (.int i t) (.int j u)) Q E s) :
  qi X f (Sv fun i j=>.bl (g i j)):=by
 intro pins s σ H x y v u Q I rx ry h
 obtain ⟨i,j,rfl,rfl,q⟩:=h
 obtain ⟨t,rfl⟩:=rx
 obtain ⟨t',rfl⟩:=ry
 exact rule i j t t' s _ _ ⟨.bl (g i j),H,I,rfl,q⟩
def Wo (i j:Int):Prop:=0<j/\j<1073741824
def Sy (i j:Int):Prop:=(-(2 ^ 64)<i/\i<2 ^ 64)\/(-(2 ^ 64)<j/\j<2 ^ 64)
theorem Sy.ok {i j:Int} (h:Sy i j):IntMulOk i j:=by
 rcases h with ⟨h1,h2⟩ | ⟨h1,h2⟩
 ·exact .of_left (intBits_le_64 h1 h2)
 ·exact .of_right (intBits_le_64 h1 h2)
theorem Sz:qi X (fU .Add) (Sv fun i j=>.int (i + j)):=Wn fun _ _ _ _ _ _ _ q=>add_int q
theorem SA:qi X (fU .Mult) (rI Sy fun i j=>.int (i * j)):=Wm fun _ _ _ _ _ _ _ hc q=>mul_int q hc.ok
theorem Pp:qi X (fU .FloorDiv) (rI Wo fun i j=>.int (i / j)):=Wm fun i j _ _ _ _ _ hc q=>by
 have h1:(0:Int)<j:=hc.1
 have h2:j<1073741824:=hc.2
 exact floordiv_int (by omega) (by rw [Int.fdiv_eq_ediv_of_nonneg i (by omega)];exact q) (.inl (PyProof.noPylong_small (by omega)))
theorem SB:qi X (fU .Mod) (rI (fun _ j=>0<j) fun i j=>.int (i % j)):=Wm fun i j _ _ _ _ _ hc q=>by
 have h1:(0:Int)<j:=hc
 exact mod_int' (by omega) (by rw [Int.fmod_eq_emod_of_nonneg i (by omega)];exact q)
theorem XN {f:a8->Sem a8}{g:Int->Int}
  (rule:∀ (i:Int) (t:Tok) (s:af) (Q:a8->af->Prop) (E:a8->af->Prop),Q (.int (g i) s.toks) { s with toks:=s.toks + 1 }->ak (aE X.prog X.w) X.A (f (.int i t)) Q E s) :
  Wl X f (rU fun i=>.int (g i)):=by
 intro pins s σ H x v Q I rx h
 obtain ⟨i,rfl,q⟩:=h
 obtain ⟨t,rfl⟩:=rx
 exact rule i t s _ _ ⟨.int (g i),H,I.tok _,⟨_,rfl⟩,q⟩
theorem Mc:Wl X (unaryOp .USub) (rU fun i=>.int (-i)):=XN fun _ _ _ _ _ q=>neg_int q
end
def Wp:V->V->Bool
 | .non,.non=>true | .non,.int _=>true | .int _,.non=>true | .non,.bl _=>true | .bl _,.non=>true | .non,.str _=>true | .str _,.non=>true
 | .int _,.int _=>true | .bl _,.bl _=>true | .str _,.str _=>true | .byt _,.byt _=>true
 | .int _,.str _=>true | .str _,.int _=>true | .bl _,.str _=>true | .str _,.bl _=>true
 | _,_=>false
def XO:R2:=fun x y H Q=>Wp x y=true/\Q (.bl (!decide (x=y))) H
theorem Pq {i j:Int}:decide (V.int i=V.int j)=(i == j):=by
 rw [im]
 simp
theorem SC {i j:Bool}:decide (V.bl i=V.bl j)=(i == j):=by
 rw [im]
 simp
theorem Pr {i j:Str}:decide (V.str i=V.str j)=(i == j):=by
 rw [im]
 simp
theorem Ps {i j:Array UInt8}:decide (V.byt i=V.byt j)=(i.toList == j.toList):=by
 rw [im]
 cases i
 cases j
 simp
section
variable {X:Cx}{a b c:b9}{ta tb tc:TE}{pos:Pos}
theorem hZ {pins:List (ag×Obj)}{σ:St}{H:Hp}{s:af}{Q:VK}{k k':Bool} (I:bF X pins σ H s) (q:Q (.bl k) H) (e:k=k'):EP X pins σ Q (.bool k') s:=by
 subst e
 exact ⟨.bl k,H,I,rfl,q⟩
theorem Uc:qi X (bN .NotEq) XO:=by
 intro pins s σ H x y v u Q I rx ry h
 obtain ⟨hs,q⟩:=h
 cases x with
 | non =>
  cases rx
  cases y with
  | non=>cases ry;exact PySem.EqNone.ne_none_none (hZ I q (by simp))
  | bl j=>cases ry;exact PySem.EqNone.ne_none_bool (hZ I q (by simp))
  | int j=>obtain ⟨t',rfl⟩:=ry;exact PySem.EqNone.ne_none_int (hZ I q (by simp))
  | str j=>obtain ⟨t',rfl⟩:=ry;exact PySem.EqNone.ne_none_str (hZ I q (by simp))
  | _=>exact absurd (show false=true from hs) aN
 | bl i =>
  cases rx
  cases y with
  | non=>cases ry;exact PySem.EqNone.ne_bool_none (hZ I q (by simp))
  | bl j=>cases ry;exact ne_bool (hZ I q (congrArg not SC))
  | str j=>obtain ⟨t',rfl⟩:=ry;exact PySem.EqMixed.ne_bool_str (hZ I q (by simp))
  | _=>exact absurd (show false=true from hs) aN
 | int i =>
  obtain ⟨t,rfl⟩:=rx
  cases y with
  | non=>cases ry;exact PySem.EqNone.ne_int_none (hZ I q (by simp))
  | int j=>obtain ⟨t',rfl⟩:=ry;exact ne_int (hZ I q (congrArg not Pq))
  | str j=>obtain ⟨t',rfl⟩:=ry;exact PySem.EqMixed.ne_int_str (hZ I q (by simp))
  | _=>exact absurd (show false=true from hs) aN
 | str i =>
  obtain ⟨t,rfl⟩:=rx
  cases y with
  | non=>cases ry;exact PySem.EqNone.ne_str_none (hZ I q (by simp))
  | bl j=>cases ry;exact PySem.EqMixed.ne_str_bool (hZ I q (by simp))
  | int j=>obtain ⟨t',rfl⟩:=ry;exact PySem.EqMixed.ne_str_int (hZ I q (by simp))
  | str j=>obtain ⟨t',rfl⟩:=ry;exact ne_str (hZ I q (congrArg not Pr))
  | _=>exact absurd (show false=true from hs) aN
 | byt i =>
  obtain ⟨t,rfl⟩:=rx
  cases y with
  | byt j=>obtain ⟨t',rfl⟩:=ry;exact PySem.W.ne_bytes (hZ I q (congrArg not Ps))
  | _=>exact absurd (show false=true from hs) aN
 | _=>cases y<;>exact absurd (show false=true from hs) aN
theorem Ud:qi X (bN .Lt) (Sv fun i j=>.bl (decide (i<j))):=Sx fun _ _ _ _ _ _ _ q=>lt_int q
theorem Ue:qi X (bN .LtE) (Sv fun i j=>.bl (decide (i<=j))):=Sx fun _ _ _ _ _ _ _ q=>le_int q
theorem Uf:qi X (bN .Gt) (Sv fun i j=>.bl (decide (j<i))):=Sx fun _ _ _ _ _ _ _ q=>gt_int q
theorem K2:qi X (bN .Lt) (fun x y H Q=>∃ i j,x=.str i/\y=.str j/\Q (.bl (decide (i.cps.toList<j.cps.toList))) H):=by
 intro pins s σ H x y v u Q I rx ry h
 obtain ⟨i,j,rfl,rfl,q⟩:=h
 obtain ⟨t,rfl⟩:=rx
 obtain ⟨t',rfl⟩:=ry
 exact lt_str (hZ I q rfl)
theorem SD:qi X (bN .Is) (fun x y H Q=>y=.non/\Q (.bl (decide (x=.non))) H):=by
 intro pins s σ H x y v u Q I rx ry h
 obtain ⟨rfl,q⟩:=h
 cases ry
 refine is_none_gen (hZ I q ?_)
 cases x<;>first
  | (cases rx;rfl)
  | (obtain ⟨t,rfl⟩:=rx;rfl)
theorem Pt:qi X (bN .IsNot) (fun x y H Q=>y=.non/\Q (.bl (!decide (x=.non))) H):=by
 intro pins s σ H x y v u Q I rx ry h
 obtain ⟨rfl,q⟩:=h
 cases ry
 refine isnot_none_gen (hZ I q ?_)
 cases x<;>first
  | (cases rx;rfl)
  | (obtain ⟨t,rfl⟩:=rx;rfl)
theorem Go (b:b9) {op:xH} (h:op≠.In:=by decide) (h2:op≠.NotIn:=by decide):hV op b=false:=by
 have e1:(op == CmpOp.In)=false:=by cases op<;>first | rfl | exact absurd rfl h
 have e2:(op == CmpOp.NotIn)=false:=by cases op<;>first | rfl | exact absurd rfl h2
 cases b<;>simp [hV,e1,e2]
theorem Pu {op:xH}{r:R2} (ho:qi X (bN op) r) (ha:PE X a ta) (hb:PE X b tb) (hm:hV op b=false):PE X (.Compare a [op] [b] pos) (Ua r ta tb):=by
 intro pins s σ H Q I h
 exact wpAny_Compare1 (Sw ha hb I h fun v u s2 x y H2 I2 rx ry q=>ho pins s2 σ H2 x y v u Q I2 rx ry q) hm
def Rc (t:TE):TT:=fun σ H Q=>t σ H fun x H'=>∃ k,x=.bl k/\Q k H'
theorem Ik {op:xH}{r:R2} (ho:qi X (bN op) r) (ha:PE X a ta) (hb:PE X b tb) (hm:hV op b=false):PT X (.Compare a [op] [b] pos) (Rc (Ua r ta tb)):=by
 intro pins s σ H Q I h
 refine OO (fW (ha pins s σ H _ I h) fun v s1 ⟨x,H1,I1,r1,q1⟩=>fW (hb pins s1 σ H1 _ I1 q1) fun u s2 ⟨y,H2,I2,r2,q2⟩ =>
  fW (ho pins s2 σ H2 x y v u _ I2 r1 r2 q2) fun c s3 ⟨z,H3,I3,r3,k,e,q3⟩=>?_) hm
 subst e
 cases r3
 exact eC ⟨H3,I3,q3⟩
def Gp (r r':R2) (ta tb tc:TE):TE:=fun σ H Q=>ta σ H fun x H1=>tb σ H1 fun y H2=>r x y H2 fun z H3=>∃ k,z=.bl k /\
 (if k=true then tc σ H3 fun w' H4=>r' y w' H4 Q else Q (.bl false) H3)
theorem Md {op op':xH}{r r':R2} (ho:qi X (bN op) r) (ho':qi X (bN op') r') (ha:PE X a ta) (hb:PE X b tb) (hc:PE X c tc)
  (hm:Lp [op,op'] [b,c]=false:=by with_unfolding_all rfl):PE X (.Compare a [op,op'] [b,c] pos) (Gp r r' ta tb tc):=by
 intro pins s σ H Q I h
 refine Compare_chain (fW (ha pins s σ H _ I h) fun v s1 ⟨x,H1,I1,r1,q1⟩=>chain_link (fW (hb pins s1 σ H1 _ I1 q1) fun u s2 ⟨y,H2,I2,r2,q2⟩ =>
  fW (ho pins s2 σ H2 x y v u _ I2 r1 r2 q2) fun d s3 ⟨z,H3,I3,r3,k,e,q3⟩=>?_)) hm
 subst e
 cases r3
 refine eC ?_
 cases k with
 | false=>exact ite_ff ⟨.bl false,H3,I3,rfl,q3⟩
 | true=>exact ite_tt (chain_last (fW (hc pins s3 σ H3 _ I3 q3) fun w' s4 h_22=>by obtain ⟨z',H4,I4,r4,q4⟩:=h_22;exact ho' pins s4 σ H4 y z' u w' Q I4 r2 r4 q4))
theorem Me {op op':xH}{r r':R2} (ho:qi X (bN op) r) (ho':qi X (bN op') r') (ha:PE X a ta) (hb:PE X b tb) (hc:PE X c tc)
  (hm:Lp [op,op'] [b,c]=false:=by with_unfolding_all rfl):PT X (.Compare a [op,op'] [b,c] pos) (Rc (Gp r r' ta tb tc)):=by
 intro pins s σ H Q I h
 refine isTrue_chain (fW (ha pins s σ H _ I h) fun v s1 ⟨x,H1,I1,r1,q1⟩=>test_link (fW (hb pins s1 σ H1 _ I1 q1) fun u s2 ⟨y,H2,I2,r2,q2⟩ =>
  fW (ho pins s2 σ H2 x y v u _ I2 r1 r2 q2) fun d s3 ⟨z,H3,I3,r3,k,e,q3⟩=>?_)) hm
 subst e
 cases r3
 refine eC ?_
 cases k with
 | false =>
  obtain ⟨k',e',q'⟩:=q3
  cases e'
  exact ite_ff ⟨H3,I3,q'⟩
 | true =>
  refine ite_tt (test_last (fW (hc pins s3 σ H3 _ I3 q3) fun w' s4 ⟨z',H4,I4,r4,q4⟩=>fW (ho' pins s4 σ H4 y z' u w' _ I4 r2 r4 q4) fun d' s5 ⟨z2,H5,I5,r5,k2,e2,q5⟩=>?_))
  subst e2
  cases r5
  exact eC ⟨H5,I5,q5⟩
theorem yt:(sizeLine:Nat)<2 ^ 63:=by rw [Dz];decide
theorem Gq:qi X (fU .Add) (fun x y H Q=>∃ i j,x=.str i/\y=.str j/\i.length + j.length<=sizeLine/\Q (.str (i++j)) H):=by
 intro pins s σ H x y v u Q I rx ry h
 obtain ⟨i,j,rfl,rfl,hz,q⟩:=h
 obtain ⟨t,rfl⟩:=rx
 obtain ⟨t',rfl⟩:=ry
 exact add_str (fun t' tk=>⟨.str (i++j),H,I.tok _,⟨_,rfl⟩,q⟩) hz
theorem lI {x:V}{us:List a8} (r:cV [x] us):∃ u,us=[u]/\dw x u:=by
 cases r with
 | cons r1 r2=>cases r2;exact ⟨_,rfl,r1⟩
theorem Mf {x y:V}{us:List a8} (r:cV [x,y] us):∃ u w',us=[u,w']/\dw x u/\dw y w':=by
 cases r with
 | cons r1 r2 =>
  cases r2 with
  | cons r3 r4=>cases r4;exact ⟨_,_,rfl,r1,r3⟩
end
end L2
namespace L2
open PySem PySem.Spec PyProof.Rows
structure SE (h:bf) (x dx C:ag) (mA:Str->Option a8):Prop where
 obj:h.get? x=some (xc C dx)
 ns:h.Ns1 dx mA
 ne:dx≠x
theorem K3 {h:bf}{dx:ag}{mA:Str->Option a8} (n:h.Ns1 dx mA):∃ od,h.get? dx=some od/\∀ name,yc name od=some (mA name):=by
 obtain ⟨o,es,ep,ho,hd,hk,_,hm⟩:=n
 refine ⟨o,ho,fun name=>?_⟩
 have e:=hm name
 unfold nsFind findBy at e
 rw [<- Jz] at e
 unfold yc
 rw [hd]
 dsimp only
 split
 ·rename_i y q
  rw [q] at e
  exact congrArg some e
 ·rename_i q
  rw [q] at e
  have a:es.toList.any (·.refKey)=false:=by
   rw [List.any_eq_false]
   intro y hy
   obtain ⟨z,t,hkey⟩:=hk y (Array.mem_toList_iff.mp hy)
   simp [DictEntry.refKey,hkey]
  have a':¬ es.toList.any (·.refKey)=true:=by rw [a];exact aN
  rw [if_neg a']
  exact congrArg some e
theorem SE.look {h:bf}{x dx C:ag}{mA:Str->Option a8} (I:SE h x dx C mA):∃ od,PySem.W.InstAt h x (xc C dx) C (some od)/\∀ name,yc name od=some (mA name) :=
 let ⟨od,ho,hl⟩:=K3 I.ns
 ⟨od,⟨I.obj,rfl,rfl,ho⟩,hl⟩
section
variable {prog:aI}{w:ba}{A:aX}{E:a8->af->Prop}{s:af}{K:a7}{x dx C f:ag}{mA:Str->Option a8}{name:Str}{v:a8}
end
theorem yq.some_of {v:V}{o:Option a8} (r:yq (some v) o):∃ u,o=some u/\dw v u:=by
 cases o with
 | none=>exact (show False from r).elim
 | some u=>exact ⟨u,rfl,r⟩
section
variable {P:aI}{w:ba}{H H':Hp}{h h':bf}{a C dx:ag}{fs fs':List (Str×V)}
theorem Pw (hok:qo P w H h) (e:H a=some (.ins C dx fs)):∃ mA,SE h a dx C mA/\(∀ f,yq (fs.lookup f) (mA f))/\PySem.Within mA (fs.map (·.1))/\fs.length<=1000/\H dx=some (.own a):=by
 obtain ⟨d,z,ne,ob,mA,n,r,q⟩:=(show dn P w H h a (.ins C dx fs) from hok a _ e)
 exact ⟨mA,⟨ob,n,ne⟩,r,q,z,d⟩
end
structure Wq (K:a7) (C:ag):Prop where
 pg:JA K C Str.empty=true
 hd:PySem.W.hasDictIn K C=true
 po:PySem.W.plainOver K C=true
 sa:gW K (.ref C) "__setattr__"=some (some (.builtin "object.__setattr__"))
theorem Wq.get {K:a7}{C:ag} (c:Wq K C) (f:Str):JA K C f=true:=c.pg
section
variable {X:Cx}{pins:List (ag×Obj)}{σ:St}{H:Hp}{s:af}{a C dx:ag}{fs:List (Str×V)}{f:Str}{v:V}{A:aX}{E:a8->af->Prop}
end
section
variable {X:Cx}{o e value:b9}{f:Str}{pos pos' tpos:Pos}{ta tv:TE}
end
section
variable {X:Cx}{pins:List (ag×Obj)}{σ:St}{H:Hp}{s:af}{A:aX}{E:a8->af->Prop}{Q:a8->af->Prop}{c:a8}{b:Bool}
inductive vX (K:a7) (H:Hp):V->a8->Prop where
 | non:vX K H .non (.type "NoneType")
 | bl (x:Bool):vX K H (.bl x) (.type "bool")
 | int (i:Int):vX K H (.int i) (.type "int")
 | str (x:Str):vX K H (.str x) (.type "str")
 | flt (x:UInt64):vX K H (.flt x) (.type "float")
 | lst {a:ag}{xs:List V} (e:H a=some (.lst xs)):vX K H (.ref a) (.type "list")
 | frz {a:ag}{o:Obj}{xs:List V} (e:H a=some (.frz o (.lst xs))):vX K H (.ref a) (.type "list")
 | tup {a:ag}{xs:List V} (e:H a=some (.tup xs)):vX K H (.ref a) (.type "tuple")
 | dK {a:ag}{kvs:List (ed×V)} (e:H a=some (.dK kvs)):vX K H (.ref a) (.type "dict")
 | dT {a:ag}{kvs:List (List ed×V)} (e:H a=some (.dT kvs)):vX K H (.ref a) (.type "dict")
 | ins {a C dx:ag}{fs:List (Str×V)} (e:H a=some (.ins C dx fs)) (cl:Wq K C) (ha:gW K (.ref C) "__class__"=some (some (.builtin "object.__class__")))
   (hn:uD K (.builtin "object.__class__") "__get__"=some (some (.builtin "getset_descriptor.__get__"))) (htk:xh K (.builtin "object.__class__")=some true)
   (hm:cp K C (.type "object")=some true):vX K H (.ref a) (.ref C)
theorem oH {x:V}{u t:a8} (I:bF X pins σ H s) (rx:dw x u) (ty:vX X.K H x t) (e:dA X.K t c=some b) (h:∀ tk,Q (.bool b) { s with toks:=tk }) :
  ak (aE X.prog X.w) A (call (.builtin "isinstance") [u,c]) Q E s:=by
 cases ty with
 | non=>cases (show u=dQ from rx);exact cA PySem.W.kitx_none I.kIn jF e (fun z=>nomatch z) h
 | bl y=>cases (show u=iL y from rx);exact cA PySem.W.kitx_bool I.kIn jF e (fun z=>nomatch z) h
 | int i=>obtain ⟨t,q⟩:=(show ∃ t,u=pd i t from rx);cases q;exact cA PySem.W.kitx_int I.kIn jF e (fun z=>nomatch z) h
 | str y=>obtain ⟨t,q⟩:=(show ∃ t,u=jE y t from rx);cases q;exact cA PySem.W.kitx_str I.kIn jF e (fun z=>nomatch z) h
 | flt y=>obtain ⟨t,q⟩:=(show ∃ t,u=Value.float y t from rx);cases q;exact cA PySem.W.kitx_float I.kIn jF e (fun z=>nomatch z) h
 | @lst a xs ea =>
  cases (show u=bE a from rx)
  obtain ⟨_,_,n,_,h1⟩:=(show dn X.prog X.w H s.heap a (.lst xs) from I.hok a _ ea)
  exact cA uE I.kIn ⟨_,h1,rfl⟩ e (fun z=>nomatch z) h
 | @frz a ob xs ea =>
  cases (show u=bE a from rx)
  obtain ⟨_,_,_,n,_,h1⟩:=(show dn X.prog X.w H s.heap a (.frz ob (.lst xs)) from I.hok a _ ea)
  exact cA uE I.kIn ⟨_,h1,rfl⟩ e (fun z=>nomatch z) h
 | @tup a xs ea =>
  cases (show u=bE a from rx)
  obtain ⟨_,_,_,p⟩:=(show dn X.prog X.w H s.heap a (.tup xs) from I.hok a _ ea)
  obtain ⟨o,h1,h2,_⟩:=p
  exact cA FZ I.kIn ⟨o,h1,h2⟩ e (fun z=>nomatch z) h
 | @dK a kvs ea =>
  cases (show u=bE a from rx)
  obtain ⟨_,_,vs,_,p⟩:=(show dn X.prog X.w H s.heap a (.dK kvs) from I.hok a _ ea)
  obtain ⟨o,es,ep,h1,h2,_⟩:=p
  exact cA HZ I.kIn ⟨o,h1,h2.1⟩ e (fun z=>nomatch z) h
 | @dT a kvs ea =>
  cases (show u=bE a from rx)
  obtain ⟨_,_,xs,_,o,es,ep,h1,h2,_⟩:=(show dn X.prog X.w H s.heap a (.dT kvs) from I.hok a _ ea)
  exact cA HZ I.kIn ⟨o,h1,h2.1⟩ e (fun z=>nomatch z) h
 | @ins a C dx fs ea cl ha hn htk hm =>
  cases (show u=bE a from rx)
  obtain ⟨mA,O,_⟩:=Pw I.hok ea
  obtain ⟨od,J,_⟩:=O.look
  exact cA (PySem.W.kitx_own (cl.get _) cl.hd ha hn htk hm) I.kIn J e (fun z=>nomatch z) h
end
end L2
namespace L2
open PySem PySem.Spec PyProof.Rows
structure ji (k:Nat) (A:aX):Prop where
 hd:A.handled=none
 dp:A.depth + 3 * k + 5<jf
 un:A.units + 16 * k + 200<sD
theorem ji.mono {j k:Nat}{A:aX} (r:ji k A) (h:j<=k):ji j A:=⟨r.hd,by have:=r.dp;omega,by have:=r.un;omega⟩
theorem ji.deeper {k:Nat}{A:aX} (r:ji (k + 1) A) (env:Env):ji k (A.deeper env) :=
 ⟨r.hd,by have:=r.dp;show A.depth + 1 + 3 * k + 5<_;omega,by have:=r.un;show A.units + 3 + 16 * k + 200<_;omega⟩
theorem ji.depth {k:Nat}{A:aX} (r:ji k A):A.depth<jf:=by have:=r.dp;omega
theorem ji.units {k:Nat}{A:aX} (r:ji k A):A.units + 64<sD:=by have:=r.un;omega
def Mg:TA:=fun _ H Q=>Q [] H
def DL (ta:TE) (tr:TA):TA:=fun σ H Q=>ta σ H fun x H1=>tr σ H1 fun xs H2=>Q (x::xs) H2
section
variable {X:Cx}{e:b9}{es:List b9}{te:TE}{t:TA}{pos:Pos}
theorem eW:PA X [] Mg:=fun _ _ _ _ H Q I h=>Calls.spliced_nil ⟨[],H,I,.nil,h⟩
theorem bZ (ha:PE X e te) (hr:PA X es t) (hs:aw (e::es) X.env=(false,da e X.env)::aw es X.env:=by rfl):PA X (e::es) (DL te t):=by
 intro pos pins s σ H Q I h
 rw [hs]
 show ak _ _ (spliced ((false,da e X.env)::eV pos (aw es X.env))) _ _ s
 refine Calls.spliced_cons (fW (ha pins s σ H _ I h) fun u s1 ⟨x,H1,I1,r1,q1⟩=>?_)
 exact fW (hr pos pins s1 σ H1 _ I1 q1) fun us s2 h_25=>by obtain ⟨xs,H2,I2,r2,q2⟩:=h_25;exact ⟨x::xs,H2,I2,.cons r1 r2,q2⟩
def Wr (t:TA):TE:=fun σ H Q=>t σ H fun xs H1=>xs.length<=sizeLine/\∀ p,H1 p=none->Q (.ref p) (upd H1 p (.tup xs))
def Wt (t:TA):TE:=fun σ H Q=>t σ H fun xs H1=>xs.length<=sizeLine/\∀ p,H1 p=none->Q (.ref p) (upd H1 p (.lst xs))
theorem Mh {x1} (h:PA X es t):PE X (.Tuple es x1 pos) (Wr t):=by
 intro pins s σ H Q I hq
 refine wpAny_Tuple_spliced (fW (h pos pins s σ H _ I hq) fun us s1 ⟨xs,H1,I1,r,z,q⟩=>⟨by rw [<- r.length];exact z,?_⟩)
 have hf:H1 s1.heap.objs.size=none:=I1.hok.fresh (ar _)
 refine ⟨.ref s1.heap.objs.size,upd H1 s1.heap.objs.size (.tup xs),I1.laid (t':=s1.toks) (fun b u e=>ae _ e) (ar _) ?_,rfl,q _ hf⟩
 exact ⟨z,us,r,⟨_,aG _ rfl,rfl,_,rfl⟩⟩
theorem mj (h:PA X es t):PE X (.List es pos) (Wt t):=by
 intro pins s σ H Q I hq
 refine wpAny_List_spliced (fW (h pos pins s σ H _ I hq) fun us s1 ⟨xs,H1,I1,r,z,q⟩=>⟨by rw [<- r.length];exact z,?_⟩)
 have hf:H1 s1.heap.objs.size=none:=I1.hok.fresh (ar _)
 refine ⟨.ref s1.heap.objs.size,upd H1 s1.heap.objs.size (.lst xs),I1.laid (t':=s1.toks) (fun b u e=>ae _ e) (ar _) ?_,rfl,q _ hf⟩
 exact ⟨z,us,0,r,aG _ rfl⟩
end
abbrev Sp:=List V->Hp->VK->XK->Prop
abbrev Il:=List Env->Hp->af->XK->a8->af->Prop
structure Gr (P:aI) (w:ba) (K:a7) (mg:Str->Option a8) (base:bf) (A:aX) (outer:List Env) (s:af) (H:Hp):Prop where
 frames:A.frames=some outer
 mod:Mod K mg base
 bs:∀ b o,base.get? b=some o->s.heap.get? b=some o/\H b=none
 bsz:base.objs.size<=s.heap.objs.size
 funs:s.heap.FunFrames base outer
 frf:∀ b∈oB outer,H b=none
 hok:qo P w H s.heap
 bare:qt s.gens
inductive CE (outer:List Env) (P:aI) (w:ba) (H:Hp) (s:af) (Q:VK) (u:a8) (s':af):Prop
 | mk (v H':_) (h0:s'.os=s.os) (h1:qt s'.gens) (h2:Un (oB outer) [] H H' s.heap s'.heap) (h3:qo P w H' s'.heap) (h4:dw v u) (h5:Q v H'):CE outer P w H s Q u s'
def CR (CX:Il) (outer:List Env) (P:aI) (w:ba) (H:Hp) (s:af) (Q:VK) (E:XK) (r:vL) (s':af):Prop :=
 match r with
 | .ok (.ret u)=>CE outer P w H s Q u s'
 | .ok _=>False
 | .error e=>CX outer H s E e s'
structure sJ (P:aI) (w:ba) (K:a7) (mg:Str->Option a8) (base:bf) (CX:Il) (k:Nat) (f:ag) (fd:df) (ps:List Str) (sp:Sp):Prop where
 len:∀ vs H Q E,sp vs H Q E->vs.length=ps.length
 run:∀ (A:aX) (outer:List Env) (s:af) (H:Hp) (args:Args) (us:List a8) (vs:List V) (Q:VK) (E:XK),ji k A->Gr P w K mg base A outer s H->wG s fd args (ps.zip us)->cV vs us->sp vs H Q E ->
  ia (aE P w) A (.call (.ref f) args) (CR CX outer P w H s Q E) s
theorem sJ.imp {P:aI}{w:ba}{K:a7}{mg:Str->Option a8}{base:bf}{CX:Il}{k:Nat}{f:ag}{fd:df}{ps:List Str}{sp sp':Sp} (F:sJ P w K mg base CX k f fd ps sp)
  (h:∀ vs H Q E,sp' vs H Q E->sp vs H Q E):sJ P w K mg base CX k f fd ps sp' :=
 ⟨fun vs H Q E q=>F.len vs H Q E (h _ _ _ _ q),fun A outer s H args us vs Q E hr he hb hv hs=>F.run A outer s H args us vs Q E hr he hb hv (h _ _ _ _ hs)⟩
section
variable {X:Cx}{pins:List (ag×Obj)}{σ:St}{H:Hp}{s s':af}
theorem bF.env0 (I:bF X pins σ H s):Gr X.prog X.w X.K X.mg X.base X.A X.stack s H :=
 ⟨I.ok.frames,I.ok.mod,I.bs,bJ I.ok.bsz I.sz,I.stack,I.stkFree,I.hok,I.bare⟩
theorem bF.after {Q:VK}{u:a8} (I:bF X pins σ H s) (h:CE X.stack X.prog X.w H s Q u s'):EP X pins σ Q u s':=by
 obtain ⟨v,H',os,bare,un,hok,r,q⟩:=h
 obtain ⟨hh,g,d,t,os'⟩:=s'
 obtain rfl:os'=s.os:=os
 exact ⟨v,H',I.call (h':=hh) (g':=g) (d':=d) (t':=t) (ch:=[]) un hok bare (fun b z=>absurd z (by simp)),r,q⟩
end
def Im (sp:Sp) (dvs:List V) (E:XK) (t:TA):TE:=fun σ H Q=>t σ H fun vs H1=>sp (vs++dvs) H1 Q E
def jM (K:a7) (fd:df) (ps:List Str) (ds:List a8):Prop :=
 ∀ (s:af) (us:List a8),K.In s.heap->(us++ds).length=ps.length->wG s fd ⟨us,[]⟩ (ps.zip (us++ds))
theorem jM.all {K:a7}{fd:df}{ps:List Str} (h:∀ us:List a8,us.length=ps.length->P0 fd ⟨us,[]⟩=pure (ps.zip us)):jM K fd ps []:=fun s us _ hl=>by
 rw [cj] at hl ⊢
 exact .of_eq (h us hl)
def jN (CX:Il) (X:Cx) (E:XK):Prop:=∀ (pins:List (ag×Obj)) (σ:St) (H:Hp) (s:af) (e:a8) (s':af),bF X pins σ H s->CX X.stack H s E e s'->X.xe e s'
section
variable {X:Cx}{CX:Il}{k:Nat}{f C:ag}{fd:df}{ps:List Str}{sp:Sp}{dvs:List V}{ds:List a8}{E:XK}{x m:Str}{p pos apos:Pos}{e o:b9}{es:List b9}{ta:TE}{t:TA}
theorem Mi {pins:List (ag×Obj)}{σ:St}{H:Hp}{s:af}{Q:VK}{us:List a8}{vs:List V} (F:sJ X.prog X.w X.K X.mg X.base CX k f fd ps sp) (hr:ji k X.A) (hb:jM X.K fd ps ds) (hd:cV dvs ds) (hx:jN CX X E)
  (I:bF X pins σ H s) (r:cV vs us) (h:sp (vs++dvs) H Q E):ak (aE X.prog X.w) X.A (call (.ref f) us) (EP X pins σ Q) X.xe s:=by
 have r2:cV (vs++dvs) (us++ds):=r.append hd
 have hl:(us++ds).length=ps.length:=by rw [<- r2.length];exact F.len _ _ _ _ h
 refine pf (oC (F.run X.A X.stack s H ⟨us,[]⟩ (us++ds) (vs++dvs) Q E hr I.env0 (hb s us I.kIn hl) r2 h) fun r s' hq=>?_)
 cases r with
 | error e=>exact hx pins σ H s e s' I hq
 | ok fl =>
  cases fl with
  | ret u=>exact I.after hq
  | next=>exact eN hq
  | brk=>exact eN hq
  | cont=>exact eN hq
theorem Io (F:sJ X.prog X.w X.K X.mg X.base CX k f fd ps sp) (hr:ji k X.A) (hg:Gl X x) (hm:X.mg x=some (.ref f)) (hk:dX X.K (.ref f)=true) (hb:jM X.K fd ps ds) (hd:cV dvs ds) (hx:jN CX X E)
  (ha:PA X (e::es) t) (hdb:(x == ("__debug__" : Str))=false:=by decide) (he:aw (e::es) X.env=(false,da e X.env)::aw es X.env:=by rfl) (hpl:(eV pos (aw es X.env)).any (·.1)=false:=by rfl) :
  PE X (.Call (.Name x p) (e::es) [] pos) (Im sp dvs E t):=by
 intro pins s σ H Q I h
 refine ki (uJ I hg hm ?_ hdb)
 refine tG (h₀:=X.base) I.ok.mod.kin hk (fW (ha pos pins s σ H _ I h) fun us s1 ⟨vs,H1,I1,r,q⟩=>⟨I1.kIn,?_⟩) he hpl
 exact Mi F hr hb hd hx I1 r q
end
section
variable {X:Cx}{CX:Il}{k:Nat}{f C:ag}{fd:df}{ps ks:List Str}{sp:Sp}{E:XK}{x m:Str}{p pos apos kpos:Pos}{e o:b9}{es:List b9}{kws:List tH}{te ta:TE}{t tk:TA}{nm:Option Str}
variable {g:List a8->List a8->List a8}{gV:List V->List V->List V}
end
structure bu (N P:List Str) (sc:el):Prop where
 kind:sc.kind=.function
 co:sc.isCoroutine=false
 gen:sc.isGenerator=false
 nd:N.Nodup
 pre:N.take P.length=P
 par:∀ x∈P,sc.names.lookup x=some .local\/sc.names.lookup x=some .cell
 nofree:∀ y∈sc.names,y.2≠.free
theorem B0 {kindOf:Str->Option k9}{x:Str}:∀ {binds:List (Str×a8)}{m:Str->Option a8},(∀ v,(x,v)∉binds)->F_ kindOf binds m x=m x
 | [],_,_=>rfl
 | (n,v)::r,m,h=>by
  unfold F_
  rw [B0 fun w hw=>h w (ao _ hw)]
  split
  ·have:x≠n:=by rintro rfl;exact h v al
   simp [this]
  ·rfl
theorem B1 {kindOf:Str->Option k9}{x:Str}:∀ {binds:List (Str×a8)}{m:Str->Option a8},(∀ v,(x,v)∉binds)->G0 kindOf binds m x=m x
 | [],_,_=>rfl
 | (n,v)::r,m,h=>by
  unfold G0
  rw [B1 fun w hw=>h w (ao _ hw)]
  split
  ·rfl
  ·have:x≠n:=by rintro rfl;exact h v al
   simp [this]
theorem B2 {kindOf:Str->Option k9}{x:Str}{v:a8}:∀ {P:List Str}{vs:List a8}{i:Nat}{m:Str->Option a8},P.Nodup->P[i]?=some x->vs[i]?=some v->kindOf x=some .local ->
  F_ kindOf (P.zip vs) m x=some v
 | [],_,_,_,_,h,_,_=>by simp at h
 | _::_,[],_,_,_,_,h,_=>by simp at h
 | p::P,w::vs,0,m,nd,h1,h2,hk=>by
  simp at h1 h2;subst h1;subst h2
  show F_ kindOf ((p,w)::P.zip vs) m p=_
  unfold F_
  rw [B0 fun v hv=>(List.nodup_cons.mp nd).1 (qA hv).1,if_pos hk]
  simp
 | p::P,w::vs,i + 1,m,nd,h1,h2,hk=>by
  show F_ kindOf ((p,w)::P.zip vs) m x=_
  unfold F_
  exact B2 (i:=i) (List.nodup_cons.mp nd).2 (by simpa using h1) (by simpa using h2) hk
theorem B3 {kindOf:Str->Option k9}{x:Str}{v:a8}:∀ {P:List Str}{vs:List a8}{i:Nat}{m:Str->Option a8},P.Nodup->P[i]?=some x->vs[i]?=some v->kindOf x≠some .local ->
  G0 kindOf (P.zip vs) m x=some v
 | [],_,_,_,_,h,_,_=>by simp at h
 | _::_,[],_,_,_,_,h,_=>by simp at h
 | p::P,w::vs,0,m,nd,h1,h2,hk=>by
  simp at h1 h2;subst h1;subst h2
  show G0 kindOf ((p,w)::P.zip vs) m p=_
  unfold G0
  rw [B1 fun v hv=>(List.nodup_cons.mp nd).1 (qA hv).1,if_neg hk]
  simp
 | p::P,w::vs,i + 1,m,nd,h1,h2,hk=>by
  show G0 kindOf ((p,w)::P.zip vs) m x=_
  unfold G0
  exact B3 (i:=i) (List.nodup_cons.mp nd).2 (by simpa using h1) (by simpa using h2) hk
def start (N:List Str) (vs:List V):St:=vs.map some++bi (N.length - vs.length) none
def fX (CX:Il) (P:aI) (w:ba) (K:a7) (mg:Str->Option a8) (base:bf) (N:List Str) (qual:Str) (scope:el) (f:ag) (cd:a8) (A:aX) (outer:List Env) (s:af) (H:Hp) (E:XK):Cx where
 prog:=P
 w:=w
 K:=K
 mg:=mg
 base:=base
 A:=A.deeper (jg qual scope s.heap.objs.size f cd)
 N:=N
 s₀:=s
 H₀:=H
 env:=jg qual scope s.heap.objs.size f cd
 outer:=outer
 stack:=jg qual scope s.heap.objs.size f cd::outer
 ex:=[]
 calm:=true
 fn:=fun _=>true
 pn:=[]
 xe:=fun e s'=>ak (aE P w) (A.deeper (jg qual scope s.heap.objs.size f cd)) (LJ (jg qual scope s.heap.objs.size f cd) e) (fun _ s''=>CX outer H s E e s'') (fun e' s''=>CX outer H s E e' s'') s'
theorem DM {sc:el}{n:Nat}{x:Str} (h:sc.names.lookup x=some .cell):∃ c,(bh n sc.names []).lookup x=some c:=by
 have q:=fh sc.names n [] (.inl h)
 exact Option.isSome_iff_exists.mp q
theorem B4 {CX:Il}{P:aI}{w:ba}{K:a7}{mg:Str->Option a8}{base:bf}{N ps:List Str}{qual:Str}{scope:el}{f:ag}{cd:a8}{A:aX}{outer:List Env}{s s1:af}{H:Hp}{E:XK}{us:List a8}{vs:List V}
  (S:bu N ps scope) (hd:A.handled=none) (e0:Gr P w K mg base A outer s H) (hl:vs.length=ps.length) (r:cV vs us)
  (x:InCallC s s.heap.objs.size (F_ (jg qual scope s.heap.objs.size f cd).kindOf (ps.zip us) fun _=>none) (bh (s.heap.objs.size + 1) scope.names []) (G0 (jg qual scope s.heap.objs.size f cd).kindOf (ps.zip us) fun _=>none) s1) :
  bF (fX CX P w K mg base N qual scope f cd A outer s H E) [] (start N vs) H s1:=by
 have hpl:ps.length<=N.length:=by have:=congrArg sR S.pre;rw [xK] at this;omega
 obtain ⟨h1,tk,rfl,hk⟩:=x.done
 have noA:∀ b:ag,b∉(fX CX P w K mg base N qual scope f cd A outer s H E).ex:=fun b z=>absurd (show b∈([] : List ag) from z) (by simp)
 refine ⟨⟨e0.mod,S.kind,rfl,rfl,ar _,fun y z c h1 h2=>?_,fun y hy=>?_,fun y c _ h=>?_,fun _=>hd,Around.frames_deeper e0.frames,.inr ⟨rfl,rfl⟩,fun b z=>absurd z (noA b),e0.bs,e0.bsz,fun b _ _=>noA b,fun b z=>absurd z (noA b),e0.funs,e0.frf⟩,
  rfl,e0.bare,Un.kept hk,⟨_,x.toInCall.ns,fun i y v h1 h2 h3=>?_⟩,fun y c h=>⟨_,x.cell y c h⟩,e0.hok.fresh (ar _),fun y c h=>?_,fun p hp=>absurd (show p∈([] : List (ag×Obj)) from hp) (by simp),e0.hok.kept hk,?_⟩
 ·exact name_of_addr x.apart (dv h1) (dv h2)
 ·have hy:scope.names.lookup y=some .cell\/scope.names.lookup y=some .free:=hy
  rcases hy with hy | hy
  ·exact DM hy
  ·exact absurd rfl (S.nofree _ (dv hy))
 ·exact bq (x.above y c (dv h))
 ·have hi:i<vs.length:=by
   unfold start at h2
   by_cases hi:i<vs.length
   ·exact hi
   ·rw [bj (by simpa using hi)] at h2
    rw [bO] at h2
    split at h2<;>cases h2
  have ha:vs[i]?=some v:=by
   unfold start at h2
   rw [bQ (by simpa using hi),aS] at h2
   cases e:vs[i]? with
   | none=>rw [e] at h2;cases h2
   | some a=>rw [e] at h2;cases h2;rfl
  obtain ⟨u,hu,rv⟩:=r.get ha
  have hp:ps[i]?=some y:=by
   rw [<- S.pre,List.getElem?_take_of_lt (by omega)];exact h1
  have ndP:ps.Nodup:=by rw [<- S.pre];exact S.nd.sublist (List.take_sublist _ _)
  refine ⟨u,rv,?_⟩
  rcases S.par y (fc hp) with k | k
  ·exact .inl ⟨k,B2 ndP hp hu k⟩
  ·obtain ⟨c,e⟩:=DM (n:=s.heap.objs.size + 1) k
   refine .inr ⟨.inl k,c,e,?_⟩
   have q:=x.cell y c e
   rw [B3 ndP hp hu (by show scope.names.lookup y≠_;rw [k];decide)] at q
   exact q
 ·exact e0.hok.fresh (bq (x.above y c (dv h)))
 ·unfold start
  show _=N.length
  rw [aL,ay,cX]
  omega
theorem Re {CX:Il}{P:aI}{w:ba}{K:a7}{mg:Str->Option a8}{base:bf}{k:Nat}{f:ag}{name qual:Str}{params:Arguments}{body:List cr}{scope:el}{dV kV doc pm cdv ct oc:a8}{an od:Option ag}
  {osl:Array (Option a8)}{N ps:List Str}{sp:Sp} (lk:K.lookup f=some ⟨oc,od,.func (eO name qual params body scope dV kV doc pm an cdv ct),osl⟩) (hcd:jG K cdv qual=true) (S:bu N ps scope)
  (len:∀ vs H Q E,sp vs H Q E->vs.length=ps.length)
  (hbody:∀ (A:aX) (outer:List Env) (s:af) (H:Hp) (vs:List V) (Q:VK) (E:XK),ji k (A.deeper (jg qual scope s.heap.objs.size f cdv))->sp vs H Q E ->
   ∃ t,A_ (fX CX P w K mg base N qual scope f cdv A outer s H E) body t/\t { nx:=fun _ H'=>Q .non H',rt:=Q } (start N vs) H) :
  sJ P w K mg base CX (k + 1) f (eO name qual params body scope dV kV doc pm an cdv ct) ps sp:=by
 refine ⟨len,fun A outer s H args us vs Q E hr e0 hb r hsp=>?_⟩
 have hl:=len _ _ _ _ hsp
 have KX:K.In s.heap:=e0.mod.kin.keeps fun b o e=>(e0.bs b o e).1
 have lim:s.heap.NoLimit:=e0.mod.nolimit.keeps fun b o e=>(e0.bs b o e).1
 have hkind:∀ y∈ps.zip us,scope.names.lookup y.1=some .local\/(scope.names.lookup y.1=some .cell/\((bh (s.heap.objs.size + 1) scope.names []).lookup y.1).isSome=true):=fun ⟨n,v⟩ hy=>by
  rcases S.par n (qA hy).1 with q | q
  ·exact .inl q
  ·exact .inr ⟨q,fh _ _ _ (.inl q)⟩
 refine OP hr.depth (KX _ _ lk) rfl S.co S.gen rfl (tJ KX hcd) (hb _ _ _ _ ?_)
 refine G1 S.kind hkind fun env he s1 x=>?_
 subst he
 refine ⟨lim.keeps x.toInCall.keep,codeAny_func ?_⟩
 obtain ⟨t,ht,hq⟩:=hbody A outer s H vs Q E (hr.deeper _) hsp
 have I:bF (fX CX P w K mg base N qual scope f cdv A outer s H E) [] (start N vs) H s1:=B4 S hr.hd e0 hl r x
 refine bc (ht [] s1 (start N vs) H _ I hq) (fun fl s' hs=>?_) fun e s' hs=>hs
 have fin:∀ {σ':St}{H':Hp}{v:V}{u:a8},bF (fX CX P w K mg base N qual scope f cdv A outer s H E) [] σ' H' s'->dw v u->Q v H'->CE outer P w H s Q u s' :=
  fun {σ' H' v u} J rv q=>⟨v,H',J.os,J.bare,J.base,J.hok,rv,q⟩
 cases fl with
 | ret u =>
  obtain ⟨v,σ',H',J,rv,q⟩:=hs
  exact fin J rv q
 | next =>
  obtain ⟨σ',H',J,q⟩:=hs
  exact fin (v:=V.non) (u:=dQ) J rfl q
 | brk =>
  obtain ⟨_,_,_,q⟩:=hs
  exact eN q
 | cont =>
  obtain ⟨_,_,_,q⟩:=hs
  exact eN q
end L2
namespace L2
open PySem PySem.Spec PyProof.Rows
section
variable {X:Cx}{x:Str}{p pos:Pos}{e:b9}{es:List b9}{t:TA}{id T:String}{r:List V->Hp->VK->Prop}
def TX (r:List V->Hp->VK->Prop) (t:TA):TE:=fun σ H Q=>t σ H fun vs H1=>r vs H1 Q
theorem oJ (hc:jL X (.builtin id) r) (hg:Gl X x) (hm:X.mg x=none) (hv:iz x=some (.builtin id)) (ha:PA X (e::es) t) (hn:x≠"__name__":=by decide) (hdb:(x == ("__debug__" : Str))=false:=by decide)
  (he:aw (e::es) X.env=(false,da e X.env)::aw es X.env:=by rfl) (hpl:(eV pos (aw es X.env)).any (·.1)=false:=by rfl):PE X (.Call (.Name x p) (e::es) [] pos) (TX r t):=by
 intro pins s σ H Q I h
 refine ki (tQ I hg hm hv ?_ hn hdb)
 exact PyProof.Rows.callWith_builtin1 (fW (ha pos pins s σ H _ I h) fun us s1 h_27=>by obtain ⟨vs,H1,I1,r1,q1⟩:=h_27;exact hc pins s1 σ H1 vs us Q I1 r1 q1) he hpl
theorem vY (hc:jL X (.type T) r) (hg:Gl X x) (hm:X.mg x=none) (hv:iz x=some (.type T)) (ha:PA X (e::es) t) (hn:x≠"__name__":=by decide) (hdb:(x == ("__debug__" : Str))=false:=by decide)
  (he:aw (e::es) X.env=(false,da e X.env)::aw es X.env:=by rfl) (hpl:(eV pos (aw es X.env)).any (·.1)=false:=by rfl):PE X (.Call (.Name x p) (e::es) [] pos) (TX r t):=by
 intro pins s σ H Q I h
 refine ki (tQ I hg hm hv ?_ hn hdb)
 exact f9 (fW (ha pos pins s σ H _ I h) fun us s1 h_28=>by obtain ⟨vs,H1,I1,r1,q1⟩:=h_28;exact hc pins s1 σ H1 vs us Q I1 r1 q1) he hpl
end
end L2
namespace HT
open PySem PyProof.Rows
section
open PySem.SeqAt
open PySem.AutoSeq1 (wpAny_loadPart')
open PySem.MeetsSeq PySem.MeetsSeq2 PySem.MeetsSeq3
end
section
variable {prog:aI}{w:ba}{A:aX}{E:a8->af->Prop}{s:af}
theorem Px {t b:ag}{vs ws:List a8}{Q:a8->af->Prop} (ht:Dw s.heap t vs.toArray) (hb:Dw s.heap b ws.toArray) (hv:vs≠[])
  (h1:ws=[]->Q (.ref t) s) (h2:ws≠[]->Q (.ref s.heap.objs.size) { s with heap:=s.heap.push { cls:=.type "tuple",data:=.seq (vs++ws).toArray } })
  (hsz:vs.length + ws.length<=sizeLine):ak (aE prog w) A (fU .Add (.ref t) (.ref b)) Q E s:=by
 obtain ⟨⟨cls,dd,data,sl⟩,ho,hc,n,hd⟩:=id ht
 obtain ⟨⟨cls2,dd2,data2,sl2⟩,ho2,hc2,n2,hd2⟩:=id hb
 simp only at hc hd hc2 hd2
 subst hc hd hc2 hd2
 have e:vs.toArray++ws.toArray=(vs++ws).toArray:=by simp
 by_cases hw:ws=[]
 ·exact Ac ⟨_,ho,rfl⟩ ⟨_,ho2,rfl⟩ BX JC ph oE (nU _ _)
   (tuple_addW1 t b vs.toArray ws.toArray n n2 dd dd2 sl sl2 (by simpa using hv) (by simp [hw])) ⟨ho,ho2,h1 hw⟩
 ·refine Ac ⟨_,ho,rfl⟩ ⟨_,ho2,rfl⟩ BX JC ph oE (nU _ _)
   (tuple_addW2 t b vs.toArray ws.toArray n n2 dd dd2 sl sl2 (by simpa using hv) (by simpa using hw) (by rw [aH,aH];exact hsz)) ⟨ho,ho2,?_⟩
  rw [e]
  exact h2 hw
def iZ (n d:Nat):Option Int->Nat
 | none=>d
 | some v=>if v<0 then (v + (n:Int)).toNat else min v.toNat n
theorem DN (n d:Nat):iZ n d none=d:=rfl
theorem Ip (n d k:Nat):iZ n d (some (k:Int))=min k n:=by
 show (if (k:Int)<0 then ((k:Int) + (n:Int)).toNat else min (k:Int).toNat n)=min k n
 rw [if_neg (by omega),kj]
theorem SG (n d:Nat) (hd:d<=n) (o:Option Int):iZ n d o<=n:=by
 cases o with
 | none=>exact hd
 | some v =>
  show (if v<0 then (v + (n:Int)).toNat else min v.toNat n)<=n
  by_cases hv:v<0
  ·rw [if_pos hv];omega
  ·rw [if_neg hv];exact qm _ _
theorem Iq (v:Int) (n d:Nat):(if v<0 then max (v + (n:Int)) 0 else min v (n:Int))=((iZ n d (some v):Nat):Int):=by
 show (if v<0 then max (v + (n:Int)) 0 else min v (n:Int))=(((if v<0 then (v + (n:Int)).toNat else min v.toNat n):Nat):Int)
 by_cases hv:v<0
 ·simp only [if_pos hv];omega
 ·simp only [if_neg hv];omega
theorem Gs (lo hi:Option Int) (n:Nat):lu lo hi 1 (n:Int)=(((iZ n 0 lo:Nat):Int),((iZ n n hi:Nat):Int)):=by
 have h1:¬ ((1:Int)<0):=by omega
 unfold lu
 simp only [h1,if_false]
 refine Prod.ext ?_ ?_
 ·cases lo with
  | none=>rfl
  | some v=>exact Iq v n 0
 ·cases hi with
  | none=>rfl
  | some v=>exact Iq v n n
theorem Gu (i j:Nat):db (i:Int) (j:Int) 1=j - i:=by
 unfold db
 have h1:(1:Int) > 0:=by omega
 simp only [h1,if_true,Int.ediv_one]
 split<;>omega
theorem yu {v:a8}{o:Option Int}{Q:Option Int->af->Prop} (p:vM v o) (h:Q o s):ak (aE prog w) A (Builtin.Slice.slicePartIndex v) Q E s:=by
 cases p with
 | none=>exact vN h
 | int i t=>exact slicePart_int h
theorem oK {sl:ag}{vl vu:a8}{lo hi:Option Int}{n:Nat}{Q:Int×Int×Nat->af->Prop} (hs:s.heap.IsSliceOf sl vl vu .none) (pl:vM vl lo) (pu:vM vu hi)
  (h:Q (((iZ n 0 lo:Nat):Int),1,iZ n n hi - iZ n 0 lo) s):ak (aE prog w) A (i5 (.ref sl) (pure (n:Int))) Q E s:=by
 obtain ⟨os,hos,hcs,hds⟩:=id hs
 unfold i5 vF
 refine a6 (a6 (cO hos hds (x:=vl) rfl (a6 (cO hos hds (x:=vu) rfl (a6 (cO hos hds (x:=.none) rfl (ac ?_)))))))
 refine a6 (vN ?_)
 show ak _ _ (if ((1:Int) == 0)=true then _ else _) _ _ s
 rw [if_neg (by decide)]
 refine a6 (yu pl (a6 (yu pu (a6 (ac ?_)))))
 show ak _ _ (match lu lo hi 1 (n:Int) with | (lo,hi)=>pure (lo,(1:Int),db lo hi 1)) _ _ s
 rw [Gs lo hi n]
 show ak _ _ (pure (((iZ n 0 lo:Nat):Int),(1:Int),db ((iZ n 0 lo:Nat):Int) ((iZ n n hi:Nat):Int) 1)) _ _ s
 rw [Gu]
 exact ac h
theorem Mj (xs:Array a8) (i k:Nat):((bt k).filterMap fun (m:Nat)=>xs[((i:Int) + (m:Int) * 1).toNat]?).toArray=((xs.toList.drop i).take k).toArray:=by
 have e:(fun (m:Nat)=>xs[((i:Int) + (m:Int) * 1).toNat]?)=fun m=>xs[i + m]?:=by
  funext m
  have:((i:Int) + (m:Int) * 1).toNat=i + m:=by omega
  rw [this]
 rw [e]
 have:=pick_run xs i k
 rw [n6] at this
 have e2:((fun x=>xs[x]?)∘fun x=>i + x)=fun m=>xs[i + m]?:=rfl
 rw [e2] at this
 rw [this]
theorem uM {t sl:ag}{items:Array a8}{vl vu:a8}{lo hi:Option Int}{Q:a8->af->Prop} (ht:Dw s.heap t items) (hs:s.heap.IsSliceOf sl vl vu .none) (pl:vM vl lo) (pu:vM vu hi)
  (hw:¬ (iZ items.size 0 lo=0/\iZ items.size items.size hi=items.size))
  (h:Q (.ref s.heap.objs.size) { s with heap:=s.heap.push { cls:=.type "tuple",data:=.seq ((items.toList.drop (iZ items.size 0 lo)).take (iZ items.size items.size hi - iZ items.size 0 lo)).toArray } })
  (hsz:items.size<=sizeLine):ak (aE prog w) A (mS (.ref t) (.ref sl)) Q E s:=by
 have htake:sizeOk (.seq ((items.toList.drop (iZ items.size 0 lo)).take (iZ items.size items.size hi - iZ items.size 0 lo)).toArray):=by
  show ((items.toList.drop (iZ items.size 0 lo)).take (iZ items.size items.size hi - iZ items.size 0 lo)).toArray.size<=sizeLine
  rw [aH,xK,xL,aq]
  omega
 have hj:iZ items.size items.size hi<=items.size:=SG _ _ (ar _) hi
 obtain ⟨os,hos,hcs,hds⟩:=id hs
 have hTs:s.TypeIs (.ref sl) "slice":=⟨os,hos,hcs⟩
 unfold mS
 try with_reducible refine c7 ?_
 first | refine a6 (ac ?_) | skip
 refine a6 (Ad ht.typeIs (by decide) ?_)
 refine a6 (cF (name:=ii "__getitem__") ht.typeIs cS
  (cu cS ht.typeIs xi ?_ (yd _ _)))
 show ak _ _ (k_ (.ref t) >>= _) _ _ s
 refine a6 (JD ht ?_)
 refine a6 (iB hTs ?_)
 rw [if_pos (by decide)]
 refine a6 (oK hs pl pu ?_)
 have hno:¬ ((((iZ items.size 0 lo:Nat):Int) == 0 && (1:Int) == 1 && (iZ items.size items.size hi - iZ items.size 0 lo) == items.size)=true):=by
  intro q
  rw [aP,aP] at q
  have q1:((iZ items.size 0 lo:Nat):Int)=0:=eq_of_beq q.1.1
  have q2:iZ items.size items.size hi - iZ items.size 0 lo=items.size:=eq_of_beq q.2
  exact hw ⟨by omega,by omega⟩
 show ak _ _ (if (((iZ items.size 0 lo:Nat):Int) == 0 && (1:Int) == 1 && (iZ items.size items.size hi - iZ items.size 0 lo) == items.size)=true then _ else _) _ _ s
 rw [if_neg hno,Mj]
 first
  | exact a6 (m:=cG _) (bL (ac ⟨_,rfl,ac h⟩) htake)
  | exact a6 (m:=cG _) (bL (a6 (ac (ac ⟨_,rfl,ac h⟩))) htake)
  | exact a6 (a6 (m:=cG _) (bL (ac (ac ⟨_,rfl,ac h⟩)) htake))
  | exact a6 (a6 (m:=cG _) (bL (ac ⟨_,rfl,ac h⟩) htake))
end
end HT
namespace L2
open PySem PySem.Spec PyProof.Rows
abbrev TO:=St->Hp->(Option Int->Hp->Prop)->Prop
def PO (X:Cx) (e:Option b9) (t:TO):Prop :=
 ∀ (pins:List (ag×Obj)) (s:af) (σ:St) (H:Hp) (Q:Option Int->Hp->Prop),bF X pins σ H s->t σ H Q ->
  ak (aE X.prog X.w) X.A (evalPart e X.env) (fun u s'=>∃ o H',bF X pins σ H' s'/\vM u o/\Q o H') X.xe s
def Py:TO:=fun _ H Q=>Q none H
def Ug (t:TE):TO:=fun σ H Q=>t σ H fun x H1=>∃ i,x=.int i/\Q (some i) H1
section
variable {X:Cx}{e:b9}{te:TE}{lo hi:Option b9}{tl th:TO}{pos p2:Pos}
theorem Pz:PO X none Py:=by
 intro pins s σ H Q I h
 rw [JF]
 exact ac ⟨none,H,I,.none,h⟩
theorem PB (h:PE X e te):PO X (some e) (Ug te):=by
 intro pins s σ H Q I hw
 rw [evalPart_some]
 refine fW (h pins s σ H _ I hw) fun u s1 h_29=>?_
 obtain ⟨x,H1,I1,r1,q1⟩:=h_29
 obtain ⟨i,rfl,q⟩:=q1
 obtain ⟨t,rfl⟩:=r1
 exact ⟨some i,H1,I1,.int i t,q⟩
def Uh (X:Cx) (r:V->Option Int->Option Int->Hp->VK->Prop):Prop :=
 ∀ (pins:List (ag×Obj)) (s:af) (σ:St) (H:Hp) (x:V) (v vl vu:a8) (lo hi:Option Int) (sl:ag) (Q:VK),bF X pins σ H s->dw x v->s.heap.IsSliceOf sl vl vu .none->vM vl lo->vM vu hi->r x lo hi H Q ->
  ∃ T id,hW (.type T) "__getitem__"=pure (some (.builtin id))/\s.TypeIs v T/\ak (aE X.prog X.w) X.A (mS v (.ref sl)) (EP X pins σ Q) X.xe s
def XQ (r:V->Option Int->Option Int->Hp->VK->Prop) (te:TE) (tl th:TO):TE:=fun σ H Q=>te σ H fun x H1=>tl σ H1 fun l H2=>th σ H2 fun u H3=>r x l u H3 Q
theorem DO {r:V->Option Int->Option Int->Hp->VK->Prop} (hr:Uh X r) (he:PE X e te) (hl:PO X lo tl) (hu:PO X hi th):PE X (.Subscript e (.Slice lo hi none p2) pos) (XQ r te tl th):=by
 intro pins s σ H Q I h
 refine G3 (fW (he pins s σ H _ I h) fun v s1 ⟨x,H1,I1,r1,q1⟩=>?_)
 refine wpAny_Slice (fW (hl pins s1 σ H1 _ I1 q1) fun vl s2 ⟨l,H2,I2,pl,q2⟩=>fW (hu pins s2 σ H2 _ I2 q2) fun vu s3 ⟨u,H3,I3,pu,q3⟩=>?_)
 rw [JF]
 refine ac ?_
 have I4:bF X pins σ H3 { s3 with heap:=s3.heap.push { cls:=.type "slice",data:=.fields #[vl,vu,.none] } }:=I3.kept (t':=s3.toks) fun b ob q=>ae _ q
 obtain ⟨T,id,hT,ht,hg⟩:=hr pins { s3 with heap:=s3.heap.push { cls:=.type "slice",data:=.fields #[vl,vu,.none] } } σ H3 x v vl vu l u s3.heap.objs.size Q I4 r1 (A8 ..) pl pu q3
 show ak (aE X.prog X.w) X.A (xM e (.Slice lo hi none p2) v (.ref s3.heap.objs.size)) (EP X pins σ Q) X.xe { s3 with heap:=s3.heap.push { cls:=.type "slice",data:=.fields #[vl,vu,.none] } }
 exact tail_any (ops:=[.ref s3.heap.objs.size,v]) ht hT hg (by with_unfolding_all rfl)
def xq (xs:List V) (lo hi:Option Int):List V:=(xs.drop (HT.iZ xs.length 0 lo)).take (HT.iZ xs.length xs.length hi - HT.iZ xs.length 0 lo)
theorem wO (xs:List V) (lo hi:Option Int):(xq xs lo hi).length<=xs.length:=by
 unfold xq
 rw [xK,xL]
 omega
def Wu (K:a7):V->Option Int->Option Int->Hp->VK->Prop:=fun x lo hi H Q=>∃ a xs,x=.ref a/\lm K H a xs /\
 ¬ (HT.iZ xs.length 0 lo=0/\HT.iZ xs.length xs.length hi=xs.length)/\∀ p,H p=none->Q (.ref p) (upd H p (.tup (xq xs lo hi)))
theorem SH:Uh X (Wu X.K):=by
 intro pins s σ H x v vl vu lo hi sl Q I rx hs pl pu h
 obtain ⟨a,xs,rfl,hx,hw,q⟩:=h
 cases rx
 obtain ⟨its,r,ht,hz⟩:=I.tuple hx
 have hlen:its.toArray.size=xs.length:=by rw [aH];exact r.length.symm
 refine ⟨"tuple",_,PyProof.Rows.slot_tuple_getitem.lookup,ht.typeIs,?_⟩
 refine HT.uM ht hs pl pu (by rw [hlen];exact hw) ?_ (by rw [hlen];exact hz)
 rw [hlen]
 refine ⟨.ref s.heap.objs.size,_,I.laid (t':=s.toks) (o:=.tup (xq xs lo hi)) (fun b ob q=>ae _ q) (ar _) ?_,rfl,q _ (I.hok.fresh (ar _))⟩
 exact ⟨bJ (wO xs lo hi) hz,_,(r.drop (HT.iZ xs.length 0 lo)).take (HT.iZ xs.length xs.length hi - HT.iZ xs.length 0 lo),sQ _ _⟩
inductive Mk (K:a7) (x:V) (y:V) (H:Hp) (Q:VK):Prop
 | mk (a b xs ys:_) (h0:x=.ref a) (h1:y=.ref b) (h2:lm K H a xs) (h3:lm K H b ys) (h4:xs≠[]) (h5:xs.length + ys.length<=sizeLine) (h6:(ys=[]->Q (.ref a) H)) (h7:(ys≠[]->∀ p,H p=none->Q (.ref p) (upd H p (.tup (xs++ys))))):Mk K x y H Q
def Ui (K:a7):R2:=Mk K
theorem cV.nil_iff {xs:List V}{us:List a8} (r:cV xs us):us=[]↔xs=[]:=by
 cases r with
 | nil=>simp
 | cons _ _=>simp
theorem PD:qi X (fU .Add) (Ui X.K):=by
 intro pins s σ H x y v u Q I rx ry h
 obtain ⟨a,b,xs,ys,rfl,rfl,ha,hb,hx,hz,q1,q2⟩:=h
 cases rx
 cases ry
 obtain ⟨its,r1,p1,_⟩:=I.tuple ha
 obtain ⟨its2,r2,p2,_⟩:=I.tuple hb
 refine HT.Px p1 p2 (fun z=>hx (r1.nil_iff.mp z)) (fun z=>⟨.ref a,H,I,rfl,q1 (r2.nil_iff.mp z)⟩) (fun z=>?_) (by rw [<- r1.length,<- r2.length];exact hz)
 refine ⟨.ref s.heap.objs.size,_,I.laid (t':=s.toks) (o:=.tup (xs++ys)) (fun b ob q=>ae _ q) (ar _) ?_,rfl,q2 (fun w=>z (r2.nil_iff.mpr w)) _ (I.hok.fresh (ar _))⟩
 exact ⟨by rw [aL];exact hz,_,r1.append r2,sQ _ _⟩
end
end L2
namespace L2
open PySem PySem.Spec PyProof.Rows
def Rf (n:Nat) (i:Int):Option Nat:=if 0<=i then (if i<n then some i.toNat else none) else if -(n:Int)<=i then some (i + n).toNat else none
def DP {α:Type} (xs:List α) (i:Int):Option α:=(Rf xs.length i).bind fun j=>xs[j]?
theorem PF {n:Nat}{i:Int}{j:Nat} (h:Rf n i=some j):seqIndex? i n=some j/\j<n/\-(n:Int)<=i/\i<n:=by
 unfold Rf at h
 by_cases h0:0<=i
 ·rw [if_pos h0] at h
  by_cases h1:i<n
  ·rw [if_pos h1] at h
   have e:i.toNat=j:=bH h
   exact ⟨by rw [seqIndex_of h0 h1,e],by omega,by omega,h1⟩
  ·rw [if_neg h1] at h;cases h
 ·rw [if_neg h0] at h
  by_cases h1:-(n:Int)<=i
  ·rw [if_pos h1] at h
   have e:(i + n).toNat=j:=bH h
   exact ⟨by rw [seqIndex_neg (by omega) h1,e],by omega,h1,by omega⟩
  ·rw [if_neg h1] at h;cases h
theorem C7 {α:Type}{xs:List α}{i:Int}{v:α} (h:DP xs i=some v):∃ j,seqIndex? i xs.length=some j/\xs[j]?=some v/\j<xs.length/\-(xs.length:Int)<=i/\i<xs.length:=by
 unfold DP at h
 cases e:Rf xs.length i with
 | none=>rw [e] at h;cases h
 | some j =>
  rw [e] at h
  obtain ⟨h1,h2,h3,h4⟩:=PF e
  exact ⟨j,h1,h,h2,h3,h4⟩
theorem rQ {α:Type}{xs:List α}{j:Nat}{v:α} (h:xs[j]?=some v):DP xs (j:Int)=some v:=by
 have hj:j<xs.length:=(List.getElem?_eq_some_iff.mp h).1
 have e:Rf xs.length (j:Int)=some j:=by
  unfold Rf
  rw [if_pos (by omega),if_pos (by omega)];simp
 unfold DP;rw [e];exact h
def xQ (b:b9):Prop:=∀ o i,DA b false o i=operate [o,i] (mS o i)
def Uj (X:Cx) (r:R2):Prop :=
 ∀ (value slice:b9) (pins:List (ag×Obj)) (s:af) (σ:St) (H:Hp) (x y:V) (v u:a8) (Q:VK),bF X pins σ H s->dw x v->dw y u->r x y H Q ->
  DA slice false v u=operate [v,u] (mS v u)->ak (aE X.prog X.w) X.A (xM value slice v u) (EP X pins σ Q) X.xe s
def Wv (X:Cx) (id:String) (r:V->List V->Hp->VK->Prop):Prop :=
 ∀ (pins:List (ag×Obj)) (s:af) (σ:St) (H:Hp) (x:V) (xs:List V) (v:a8) (us:List a8) (Q:VK),bF X pins σ H s->dw x v->cV xs us->r x xs H Q ->
  ak (aE X.prog X.w) X.A (call (.builtin id) (v::us)) (EP X pins σ Q) X.xe s
section
variable {X:Cx}{a b:b9}{ta tb:TE}{pos:Pos}
theorem Rg {r:R2} (hr:Uj X r) (ha:PE X a ta) (hb:PE X b tb) (hs:xQ b):PE X (.Subscript a b pos) (Ua r ta tb):=by
 intro pins s σ H Q I h
 exact G3 (Sw ha hb I h fun v u s2 x y H2 I2 rx ry q=>hr a b pins s2 σ H2 x y v u Q I2 rx ry q (hs _ _))
inductive Rh (K:a7) (x:V) (y:V) (H:Hp) (Q:VK):Prop
 | mk (p xs i v:_) (h0:x=.ref p) (h1:y=.int i) (h2:mZ K H p xs) (h3:DP xs i=some v) (h4:Q v H):Rh K x y H Q
def Ww (K:a7):R2:=Rh K
inductive Ri (K:a7) (x:V) (y:V) (H:Hp) (Q:VK):Prop
 | mk (p xs i v:_) (h0:x=.ref p) (h1:y=.int i) (h2:lm K H p xs) (h3:DP xs i=some v) (h4:Q v H):Ri K x y H Q
def Wx (K:a7):R2:=Ri K
inductive Rj (x:V) (y:V) (H:Hp) (Q:VK):Prop
 | mk (z i c:_) (h0:x=.str z) (h1:y=.int i) (h2:z.length<=sizeLine) (h3:DP z.cps.toList i=some c) (h4:Q (.str ⟨#[c]⟩) H):Rj  x y H Q
def Wz:R2:=Rj
theorem rR:Uj X (Ww X.K):=by
 intro value slice pins s σ H x y v u Q I rx ry h hs
 obtain ⟨p,xs,i,z,rfl,rfl,hq,he,q⟩:=h
 cases rx
 obtain ⟨t,rfl⟩:=ry
 obtain ⟨its,r,pl,hz⟩:=I.list hq
 obtain ⟨j,h1,h2,h3,h4,h5⟩:=C7 he
 obtain ⟨w,ew,rw'⟩:=r.get h2
 have hl:=r.length
 have hn:=yt
 have fin:EP X pins σ Q w s:=⟨z,H,I,rw',q⟩
 by_cases h0:0<=i
 ·have hj:i.toNat=j:=by
   rw [seqIndex_of h0 h5] at h1
   exact bH h1
  exact item_listR pl.isList h0 (by omega) (by rw [hj];simpa using ew) fin hs
 ·have hj:(i + (its.toArray.size:Int)).toNat=j:=by
   rw [seqIndex_neg (by omega) h4] at h1
   rw [aH,<- hl]
   exact bH h1
  exact LK (x:=w) pl.isList.typeIs slot_list_getitem.lookup
   (wpAny_getItem_list_neg (Q:=fun r s'=>r=w/\EP X pins σ Q r s') pl.isList (by omega) (by rw [aH]<;>omega) (by omega) (by rw [hj];simpa using ew) ⟨rfl,fin⟩) hs
theorem SJ:Uj X (Wx X.K):=by
 intro value slice pins s σ H x y v u Q I rx ry h hs
 obtain ⟨p,xs,i,z,rfl,rfl,hq,he,q⟩:=h
 cases rx
 obtain ⟨t,rfl⟩:=ry
 obtain ⟨its,r,pl,hz⟩:=I.tuple hq
 obtain ⟨j,h1,h2,h3,h4,h5⟩:=C7 he
 obtain ⟨w,ew,rw'⟩:=r.get h2
 have hl:=r.length
 have hn:=yt
 have fin:EP X pins σ Q w s:=⟨z,H,I,rw',q⟩
 exact LK (x:=w) pl.typeIs slot_tuple_getitem.lookup
  (getItem_tuple (j:=j) (Q:=fun r s'=>r=w/\EP X pins σ Q r s') pl (by omega) (by omega) (by rw [aH,<- hl];exact h1) (by simpa using ew) ⟨rfl,fin⟩) hs
theorem SK:Uj X Wz:=by
 intro value slice pins s σ H x y v u Q I rx ry h hs
 obtain ⟨z,i,c,rfl,rfl,hz,he,q⟩:=h
 obtain ⟨t,rfl⟩:=rx
 obtain ⟨t',rfl⟩:=ry
 obtain ⟨j,h1,h2,h3,h4,h5⟩:=C7 he
 have hl:z.cps.toList.length=z.length:=by simp [Str.length]
 rw [hl] at h1 h4 h5
 have hn:=yt
 exact tail_any (typeIs_str s z t) slot_str_getitem.lookup (getItem_str (c:=c) (by
  have e1:decide (i < -(2 ^ 63:Int))=false:=decide_eq_false (by omega)
  have e2:decide (i ≥ 2 ^ 63)=false:=decide_eq_false (by omega)
  rw [e1,e2,Bool.or_false]) (by rw [h1];simpa using h2) ⟨.str ⟨#[c]⟩,H,I.tok _,⟨_,rfl⟩,q⟩) hs
theorem C8 (lo hi:Option Int) (n:Nat):(mX lo hi none n).1=((HT.iZ n 0 lo:Nat):Int)/\(mX lo hi none n).2.1=((HT.iZ n n hi:Nat):Int)/\(mX lo hi none n).2.2=1:=by
 refine ⟨?_,?_,rfl⟩
 ·cases lo with
  | none=>simp [mX,HT.iZ]
  | some i =>
   simp only [mX,HT.iZ,gZ,show (1:Int) > 0 by decide,if_true]
   by_cases h:i<0
   ·simp only [h,if_true]<;>omega
   ·simp only [h,if_false]<;>omega
 ·cases hi with
  | none=>simp [mX,HT.iZ]
  | some i =>
   simp only [mX,HT.iZ,gZ,show (1:Int) > 0 by decide,if_true]
   by_cases h:i<0
   ·simp only [h,if_true]<;>omega
   ·simp only [h,if_false]<;>omega
theorem An (its:List a8) (lo hi:Option Int):slicePick its.toArray lo hi none=((its.drop (HT.iZ its.length 0 lo)).take (HT.iZ its.length its.length hi - HT.iZ its.length 0 lo)).toArray:=by
 obtain ⟨h1,h2,h3⟩:=C8 lo hi its.toArray.size
 unfold slicePick
 rw [h1,h2,h3]
 simp only [sliceRange_one,pick_run,aH]<;>rfl
def WA (K:a7):V->Option Int->Option Int->Hp->VK->Prop:=fun x lo hi H Q=>∃ a xs,x=.ref a/\mZ K H a xs/\∀ p,H p=none->Q (.ref p) (upd H p (.lst (xq xs lo hi)))
theorem Ir:Uh X (WA X.K):=by
 intro pins s σ H x v vl vu lo hi sl Q I rx hs pl pu h
 obtain ⟨a,xs,rfl,hx,q⟩:=h
 cases rx
 obtain ⟨its,r,ht,hz⟩:=I.list hx
 have hlen:=r.length
 refine ⟨"list",_,slot_list_getitem.lookup,ht.isList.typeIs,?_⟩
 refine wpAny_getItem_list_slice ht.isList hs pl pu .none (by simp) ?_ (by rw [aH]<;>omega)
 rw [An,<- hlen]
 refine ⟨.ref s.heap.objs.size,_,I.laid (t':=s.toks) (o:=.lst (xq xs lo hi)) (fun b ob q=>ae _ q) (ar _) ?_,rfl,q _ (I.hok.fresh (ar _))⟩
 exact ⟨bJ (wO xs lo hi) hz,_,0,(r.drop (HT.iZ xs.length 0 lo)).take (HT.iZ xs.length xs.length hi - HT.iZ xs.length 0 lo),aG _ rfl⟩
def qJ:V->Bool
 | .non=>true
 | .bl _=>true
 | .int _=>true
 | .str _=>true
 | _=>false
def PH:V->V->Bool
 | .non,.non=>true
 | .bl a,.bl b=>a == b
 | .bl a,.int b=>(if a then 1 else 0) == b
 | .int a,.bl b=>a == (if b then 1 else 0)
 | .int a,.int b=>a == b
 | .str a,.str b=>a == b
 | _,_=>false
theorem SL {A:aX}{s:af}{y x:V}{u v:a8} (ry:dw y u) (rx:dw x v) (fy:qJ y=true) (fx:qJ x=true):JH A s u v (PH y x):=by
 cases y with
 | non =>
  cases ry
  cases x with
  | non=>cases rx;exact SeqAt.EqAt.same _
  | bl b=>cases rx;exact SeqAt.EqAt.none_bool b
  | int b=>obtain ⟨t,rfl⟩:=rx;exact SeqAt.EqAt.none_int b t
  | str b=>obtain ⟨t,rfl⟩:=rx;exact SeqAt.EqAt.none_str b t
  | _=>exact absurd (show false=true from fx) aN
 | bl a =>
  cases ry
  cases x with
  | non=>cases rx;exact SeqAt.EqAt.bool_none a
  | bl b=>cases rx;exact AS a b
  | int b=>obtain ⟨t,rfl⟩:=rx;exact SeqAt.EqAt.bool_int a b t
  | str b=>obtain ⟨t,rfl⟩:=rx;exact SeqAt.EqAt.bool_str a b t
  | _=>exact absurd (show false=true from fx) aN
 | int a =>
  obtain ⟨t',rfl⟩:=ry
  cases x with
  | non=>cases rx;exact SeqAt.EqAt.int_none a t'
  | bl b=>cases rx;exact SeqAt.EqAt.int_bool a t' b
  | int b=>obtain ⟨t,rfl⟩:=rx;exact SeqAt.EqAt.int_int a t' b t
  | str b=>obtain ⟨t,rfl⟩:=rx;exact Du a t' b t
  | _=>exact absurd (show false=true from fx) aN
 | str a =>
  obtain ⟨t',rfl⟩:=ry
  cases x with
  | non=>cases rx;exact SeqAt.EqAt.str_none a t'
  | bl b=>cases rx;exact SeqAt.EqAt.str_bool a t' b
  | int b=>obtain ⟨t,rfl⟩:=rx;exact Dv a t' b t
  | str b=>obtain ⟨t,rfl⟩:=rx;exact SeqAt.EqAt.str_str a t' b t
  | _=>exact absurd (show false=true from fx) aN
 | _=>exact absurd (show false=true from fy) aN
def Gv (x:V) (u:a8):Bool:=match u with
 | .none=>PH .non x
 | .bool b=>PH (.bl b) x
 | .int i _=>PH (.int i) x
 | .str z _=>PH (.str z) x
 | _=>false
theorem Ml {x y:V}{u:a8} (r:dw y u) (f:qJ y=true):Gv x u=PH y x:=by
 cases y with
 | non=>cases r;rfl
 | bl b=>cases r;rfl
 | int i=>obtain ⟨t,rfl⟩:=r;rfl
 | str z=>obtain ⟨t,rfl⟩:=r;rfl
 | _=>exact absurd (show false=true from f) aN
theorem uN {x:V}:∀ {xs:List V}{us:List a8},cV xs us->xs.all qJ=true->us.any (Gv x)=xs.any fun y=>PH y x
 | _,_,.nil,_=>rfl
 | y::xs,u::us,.cons r t,f=>by
  rw [uF,aP] at f
  rw [fB,fB,Ml r f.1,uN t f.2]
theorem qK {A:aX}{s:af}{x:V}{v:a8} (rx:dw x v) (fx:qJ x=true):∀ {xs:List V}{us:List a8},cV xs us->xs.all qJ=true->∀ u∈us,JH A s u v (Gv x u)
 | _,_,.nil,_=>fun u hu=>by cases hu
 | y::xs,u::us,.cons r t,f=>fun u' hu=>by
  rw [uF,aP] at f
  rcases List.mem_cons.mp hu with rfl | hu
  ·rw [Ml r f.1];exact SL r rx f.1 fx
  ·exact qK rx fx t f.2 u' hu
def VP (x:V) (xs:List V):Bool:=xs.any fun y=>PH y x
inductive Uk (K:a7) (neg:Bool) (x:V) (y:V) (H:Hp) (Q:VK):Prop
 | mk (p xs:_) (h0:y=.ref p) (h1:(mZ K H p xs\/lm K H p xs)) (h2:qJ x=true) (h3:xs.all qJ=true) (h4:Q (.bl (if neg then !VP x xs else VP x xs)) H):Uk K neg x y H Q
def WB (K:a7) (neg:Bool):R2:=Uk K neg
theorem K4:qi X (bN .In) (WB X.K false):=by
 intro pins s σ H x y v u Q I rx ry h
 obtain ⟨p,xs,rfl,hq,fx,fs,q⟩:=h
 cases ry
 rcases hq with hq | hq
 ·obtain ⟨its,r,pl,hz⟩:=I.list hq
  refine SeqAt.in_listAt (Gv x) pl.isList (fun w hw=>qK rx fx r fs w (by simpa using hw)) ⟨.bl _,H,I,rfl,?_⟩
  rw [show its.toArray.any (Gv x)=its.any (Gv x) by simp,uN r fs]
  exact q
 ·obtain ⟨its,r,pl,hz⟩:=I.tuple hq
  refine SeqAt.in_tupleAt (Gv x) pl (fun w hw=>qK rx fx r fs w (by simpa using hw)) ⟨.bl _,H,I,rfl,?_⟩
  rw [show its.toArray.any (Gv x)=its.any (Gv x) by simp,uN r fs]
  exact q
theorem C9:qi X (bN .NotIn) (WB X.K true):=by
 intro pins s σ H x y v u Q I rx ry h
 obtain ⟨p,xs,rfl,hq,fx,fs,q⟩:=h
 cases ry
 rcases hq with hq | hq
 ·obtain ⟨its,r,pl,hz⟩:=I.list hq
  refine SeqAt.notIn_listAt (Gv x) pl.isList (fun w hw=>qK rx fx r fs w (by simpa using hw)) ⟨.bl _,H,I,rfl,?_⟩
  rw [show its.toArray.any (Gv x)=its.any (Gv x) by simp,uN r fs]
  exact q
 ·obtain ⟨its,r,pl,hz⟩:=I.tuple hq
  refine SeqAt.notIn_tupleAt (Gv x) pl (fun w hw=>qK rx fx r fs w (by simpa using hw)) ⟨.bl _,H,I,rfl,?_⟩
  rw [show its.toArray.any (Gv x)=its.any (Gv x) by simp,uN r fs]
  exact q
theorem uO:jL X (.builtin "len") (fun xs H Q=>∃ p ys,xs=[.ref p]/\(mZ X.K H p ys\/lm X.K H p ys)/\Q (.int ys.length) H):=by
 intro pins s σ H xs us Q I r h
 obtain ⟨p,ys,rfl,hq,q⟩:=h
 obtain ⟨u,rfl,rx⟩:=lI r
 cases rx
 have hn:=yt
 rcases hq with hq | hq
 ·obtain ⟨its,r',pl,hz⟩:=I.list hq
  have hlen:=r'.length
  exact Calls.call_len_list pl.isList (by simp only [aH]<;>omega) ⟨.int ys.length,H,I.tok _,⟨s.toks + 1,by rw [aH,hlen]⟩,q⟩
 ·obtain ⟨its,r',pl,hz⟩:=I.tuple hq
  have hlen:=r'.length
  exact len_tuple pl (by simp only [aH]<;>omega) ⟨.int ys.length,H,I.tok _,⟨s.toks + 1,by rw [aH,hlen]⟩,q⟩
theorem Ca:jL X (.builtin "len") (fun xs H Q=>∃ z,xs=[.str z]/\z.length<=sizeLine/\Q (.int z.length) H):=by
 intro pins s σ H xs us Q I r h
 obtain ⟨z,rfl,hz,q⟩:=h
 obtain ⟨u,rfl,t,rfl⟩:=lI r
 have hn:=yt
 exact len_str (by omega) ⟨.int z.length,H,I.tok _,⟨_,rfl⟩,q⟩
theorem uP:jL X (.type "list") (fun xs H Q=>∃ p ys,xs=[.ref p]/\(mZ X.K H p ys\/lm X.K H p ys)/\∀ l,H l=none->Q (.ref l) (upd H l (.lst ys))):=by
 intro pins s σ H xs us Q I r h
 obtain ⟨p,ys,rfl,hq,q⟩:=h
 obtain ⟨u,rfl,rx⟩:=lI r
 cases rx
 have fin:∀ (its:List a8),cV ys its->ys.length<=sizeLine->∀ (h':bf) (c':Nat),(∀ b o',s.heap.get? b=some o'->h'.get? b=some o') ->
   h'.get? s.heap.objs.size=some { cls:=.type "list",dict:=none,data:=.seq its.toArray c',slots:=#[] }->EP X pins σ Q (.ref s.heap.objs.size) { s with heap:=h' }:=fun its r' hz h' c' kp e =>
  ⟨.ref s.heap.objs.size,_,I.laid (t':=s.toks) kp (ar _) (show dn X.prog X.w _ h' _ (.lst ys) from ⟨hz,its,c',r',e⟩),rfl,q _ (I.hok.fresh (ar _))⟩
 rcases hq with hq | hq
 ·obtain ⟨its,r',pl,hz⟩:=I.list hq
  have hlen:=r'.length
  obtain ⟨o,ho,hc,n,hd⟩:=pl.isList
  exact call_list_seq p (.inl rfl) ho hc hd (fun h' c' kp e=>fin its r' hz h' c' kp e) (by simp only [aH]<;>omega)
 ·obtain ⟨its,r',pl,hz⟩:=I.tuple hq
  have hlen:=r'.length
  obtain ⟨o,ho,hc,n,hd⟩:=pl
  exact call_list_seq p (.inr rfl) ho hc hd (fun h' c' kp e=>fin its r' hz h' c' kp e) (by simp only [aH]<;>omega)
theorem sX:jL X (.type "tuple") (fun xs H Q=>∃ p ys,xs=[.ref p]/\((mZ X.K H p ys/\∀ l,H l=none->Q (.ref l) (upd H l (.tup ys)))\/(lm X.K H p ys/\Q (.ref p) H))):=by
 intro pins s σ H xs us Q I r h
 obtain ⟨p,ys,rfl,h⟩:=h
 obtain ⟨u,rfl,rx⟩:=lI r
 cases rx
 rcases h with ⟨hq,q⟩ | ⟨hq,q⟩
 ·obtain ⟨its,r',pl,hz⟩:=I.list hq
  have hlen:=r'.length
  refine call_tuple_list pl.isList (fun h' kp=>?_) (by simp only [aH]<;>omega)
  have I1:bF X pins σ H { s with heap:=h' }:=I.kept (t':=s.toks) kp
  have I2:bF X pins σ (upd H h'.objs.size (.tup ys)) { s with heap:=h'.push { cls:=.type "tuple",data:=.seq its.toArray } } :=
   I1.laid (t':=s.toks) (fun b o e=>ae _ e) (ar _) (show dn X.prog X.w _ _ _ (.tup ys) from ⟨hz,its,r',sQ _ _⟩)
  exact ⟨.ref h'.objs.size,_,I2,rfl,q _ (I1.hok.fresh (ar _))⟩
 ·obtain ⟨its,r',pl,hz⟩:=I.tuple hq
  exact call_tuple_same pl ⟨.ref p,H,I,rfl,q⟩
def Xk (K:a7) (T:String) (x:V) (H:Hp):Prop:=match x with
 | .str _=>T="str"
 | .int _=>T="int"
 | .ref p=>(T="list"/\∃ xs,mZ K H p xs)\/(T="tuple"/\∃ o,K.lookup p=some o/\o.cls=.type "tuple"/\o.dict=none) \/
   (T="dict"/\((∃ kvs,H p=some (.dK kvs))\/∃ kvs,H p=some (.dT kvs)))\/(T="set"/\∃ S n,H p=some (.set S n))
 | _=>False
theorem SM {pins:List (ag×Obj)}{σ:St}{H:Hp}{s:af}{T:String}{x:V}{v:a8} (I:bF X pins σ H s) (r:dw x v) (ty:Xk X.K T x H) :
  s.TypeIs v T/\∀ a,v=.ref a->∃ ob,s.heap.get? a=some ob/\ob.dict=none:=by
 cases x with
 | str z =>
  obtain ⟨t,rfl⟩:=r
  cases (show T="str" from ty)
  exact ⟨typeIs_str s z t,fun _ e=>nomatch e⟩
 | int i =>
  obtain ⟨t,rfl⟩:=r
  cases (show T="int" from ty)
  exact ⟨typeIs_int s i t,fun _ e=>nomatch e⟩
 | ref p =>
  cases r
  rcases ty with ⟨rfl,xs,hq⟩ | ⟨rfl,o,hk,hc,hd⟩ | ⟨rfl,hk⟩ | ⟨rfl,S,n,hk⟩
  ·obtain ⟨its,_,pl,_⟩:=I.list hq
   refine ⟨pl.isList.typeIs,fun a e=>?_⟩
   cases e
   obtain ⟨o,n,e,c,hd,_⟩:=pl
   exact ⟨o,e,hd⟩
  ·refine ⟨⟨o,I.kIn p o hk,hc⟩,fun a e=>?_⟩
   cases e
   exact ⟨o,I.kIn _ o hk,hd⟩
  ·have z:∃ o,s.heap.get? p=some o/\o.ExactDict:=by
    rcases hk with ⟨kvs,hk⟩ | ⟨kvs,hk⟩
    ·obtain ⟨_,_,_,_,o,_,_,e,ex,_⟩:=I.hok p _ hk
     exact ⟨o,e,ex⟩
    ·obtain ⟨_,_,_,_,o,_,_,e,ex,_⟩:=I.hok p _ hk
     exact ⟨o,e,ex⟩
   obtain ⟨o,e,ex⟩:=z
   refine ⟨⟨o,e,ex.1⟩,fun a e2=>?_⟩
   cases e2
   exact ⟨o,e,ex.2.1⟩
  ·obtain ⟨o,_,_,_,e,ex,_⟩:=I.hok p _ hk
   refine ⟨⟨o,e,ex.1⟩,fun a e2=>?_⟩
   cases e2
   exact ⟨o,e,ex.2.1⟩
 | _=>exact eN ty
def XR (K:a7) (T:String) (r:V->List V->Hp->VK->Prop) (to:TE) (t:TA):TE:=fun σ H Q=>to σ H fun x H1=>Xk K T x H1/\t σ H1 fun xs H2=>r x xs H2 Q
variable {o e:b9}{es:List b9}{to:TE}{t:TA}{name:Str}{apos cpos:Pos}{T id:String}{r:V->List V->Hp->VK->Prop}
theorem yv (pa:PlainAttrs T) (slot:Slot T name id) (hty:typeOf (.builtin id)=pure (.type "method_descriptor")) (hm:Wv X id r) (ho:PE X o to) (ha:PA X (e::es) t)
  (hbase:xN o name X.env (da o X.env)=da o X.env:=by rfl)
  (hfew:((eV cpos (aw (e::es) X.env)).all (fun x=>!x.1) && (P1 cpos (DB [] X.env)).all (fun x=>x.1.isSome)
   && decide ((e::es).length + ([] : List tH).length + (if ([] : List tH).isEmpty then 0 else 1)<30))=true:=by rfl)
  (hline:(apos.endLine == cpos.line)=true:=by rfl) (hs:aw (e::es) X.env=(false,da e X.env)::aw es X.env:=by rfl) (hplain:(eV cpos (aw es X.env)).any (·.1)=false:=by rfl) :
  PE X (.Call (.Attribute o name apos) (e::es) [] cpos) (XR X.K T r to t):=by
 intro pins s σ H Q I h
 refine wpAny_Call_method_late hbase hfew hline rfl (fW (ho pins s σ H _ I h) fun v s1 ⟨x,H1,I1,r1,ty,q1⟩=>?_)
 obtain ⟨h1,h2⟩:=SM I1 r1 ty
 refine ⟨T,id,pa,slot,hty,h1,h2,?_⟩
 have hA:=ha cpos pins s1 σ H1 _ I1 q1
 rw [hs] at hA ⊢
 refine Calls.callWith_builtin (by show (false || (eV cpos (aw es X.env)).any (·.1))=false;rw [hplain]<;>rfl) (sF ?_)
 exact fW hA fun us s2 h_30=>by obtain ⟨vs,H2,I2,r2,q2⟩:=h_30;exact hm pins s2 σ H2 x vs v us Q I2 r1 r2 q2
end
end L2
namespace L2
open PySem PySem.Spec PyProof.Rows
def WC (X:Cx) (id:String) (r:V->List V->Hp->VK->Prop):Prop :=
 ∀ (pins:List (ag×Obj)) (s:af) (σ:St) (H:Hp) (x:V) (xs:List V) (v:a8) (us:List a8) (Q:VK),bF X pins σ H s->dw x v->cV xs us->r x xs H Q ->
  ak (aE X.prog X.w) X.A (call (.builtin id) (v::us)) (EP X pins σ Q) X.xe s
theorem cV.one {x:V}{us:List a8} (h:cV [x] us):∃ u,us=[u]/\dw x u:=by
 cases h with | cons r t=>cases t;exact ⟨_,rfl,r⟩
theorem cV.rep {xs:List V}{us:List a8} (h:cV xs us):∀ k:Nat,cV (bi k xs).flatten (bi k us).flatten
 | 0=>.nil
 | k + 1=>by
  rw [cU,cU,gO,gO]
  exact cV.append h (cV.rep h k)
theorem B5 (its:List a8):∀ (k:Nat) (acc:List a8),
  Lq (fun x1 x2=>x1++x2) acc.toArray (bi k its.toArray)=(acc++(bi k its).flatten).toArray
 | 0,acc=>by simp
 | k + 1,acc=>by
  have e:acc.toArray++its.toArray=(acc++its).toArray:=by simp
  have e2:(acc++its)++(bi k its).flatten=acc++(bi (k + 1) its).flatten:=by
   rw [cU,gO,kc]
  rw [<- e2,<- B5 its k (acc++its),<- e,cU,lW]
section
variable {X:Cx}{pins:List (ag×Obj)}{σ:St}{H:Hp}{s:af}{l b:ag}{xs ys zs:List V}
theorem bF.lset {its its':List a8}{n:Nat}{f:Array a8->Array a8}{t':Nat} (I:bF X pins σ H s) (hH:H l=some (.lst xs))
  (e:s.heap.get? l=some { cls:=.type "list",data:=.seq its.toArray n }) (hf:f its.toArray=its'.toArray) (hv:cV ys its') (hz:ys.length<=sizeLine) :
  bF X pins σ (upd H l (.lst ys)) { s with heap:=s.heap.update l (jH f),toks:=t' }:=by
 have q:=PySem.IsL.update e f
 rw [hf] at q
 refine I.write (x:=l) (e:=l) (by rw [hH];exact trivial) (.inl rfl) (fun b' u hb hu=>(qu s.heap (jH f) (dh hb)).trans hu) ⟨_,q⟩ ?_
 exact ⟨hz,its',_,hv,q⟩
theorem bF.lnew {its:List a8}{t':Nat} (I:bF X pins σ H s) (hv:cV ys its) (hz:ys.length<=sizeLine) :
  bF X pins σ (upd H s.heap.objs.size (.lst ys)) { s with heap:=s.heap.push { cls:=.type "list",data:=.seq its.toArray },toks:=t' } :=
 I.laid (fun _ _ q=>ae _ q) (ar _) ⟨hz,its,0,hv,aG _ rfl⟩
theorem bF.fresh (I:bF X pins σ H s):H s.heap.objs.size=none:=I.hok.fresh (ar _)
theorem bF.lstM (I:bF X pins σ H s) (hH:H l=some (.lst xs)):Xh s.heap l xs:=by
 obtain ⟨z,its,n,r,e⟩:=I.hok l _ hH
 exact ⟨z,its,n,r,r.length,e⟩
theorem yw {n:Nat} (h:n<=sizeLine):fZ n=false:=by
 unfold fZ
 exact decide_eq_false (by omega)
end
section
variable {X:Cx}
inductive DQ (x:V) (vs:List V) (H:Hp) (Q:VK):Prop
 | mk (l xs y:_) (h0:x=.ref l) (h1:vs=[y]) (h2:H l=some (.lst xs)) (h3:xs.length<sizeLine) (h4:Q .non (upd H l (.lst (xs++[y])))):DQ  x vs H Q
def PJ:V->List V->Hp->VK->Prop:=DQ
theorem B6:WC X "list.append" PJ:=by
 intro pins s σ H x vs v us Q I rx rv h
 obtain ⟨l,xs,y,rfl,rfl,hH,hz,q⟩:=h
 cases rx
 obtain ⟨u,rfl,ru⟩:=rv.one
 obtain ⟨z,its,n,r,hl,e⟩:=I.lstM hH
 refine mf F.slot_list_append ⟨_,e,rfl⟩ F.entry_list_append (F.args_list_append_2 _ _) (PySem.list_append l its.toArray n u (by rw [aH];omega)) ⟨e,?_⟩
 refine ⟨.non,_,I.lset (its':=its++[u]) hH e (by simp) (r.append (.cons ru .nil)) ?_,rfl,q⟩
 rw [aL,gd]
 omega
inductive DR (x:V) (vs:List V) (H:Hp) (Q:VK):Prop
 | mk (l b xs zs:_) (h0:x=.ref l) (h1:vs=[.ref b]) (h2:H l=some (.lst xs)) (h3:H b=some (.lst zs)) (h4:xs.length + zs.length<=sizeLine) (h5:Q .non (upd H l (.lst (xs++zs)))):DR  x vs H Q
def PK:V->List V->Hp->VK->Prop:=DR
theorem B7:WC X "list.extend" PK:=by
 intro pins s σ H x vs v us Q I rx rv h
 obtain ⟨l,b,xs,zs,rfl,rfl,hH,hB,hz,q⟩:=h
 cases rx
 obtain ⟨u,rfl,ru⟩:=rv.one
 cases ru
 obtain ⟨z,its,n,r,hl,e⟩:=I.lstM hH
 obtain ⟨z2,its2,n2,r2,hl2,e2⟩:=I.lstM hB
 have hsz:its.toArray.size + its2.toArray.size<=sizeLine:=by rw [aH,aH];omega
 have hlong:¬ (!its.toArray.isEmpty && fZ (its.toArray.size + its2.toArray.size))=true:=by
  rw [yw hsz,iW]
  exact aN
 refine mf P2 ⟨_,e,rfl⟩ OQ (LL _ _)
  (AutoSeq1.list_extend_list_list_0 l its.toArray n b its2.toArray n2 hlong (by rw [aH];omega) (by omega)) ⟨e,e2,?_⟩
 refine ⟨.non,_,I.lset (its':=its++its2) hH e (by simp) (r.append r2) ?_,rfl,q⟩
 rw [aL]
 omega
def WD:R2:=fun x y H Q=>∃ l k xs,x=.ref l/\y=.int k/\H l=some (.lst xs)/\-(2 ^ 63)<=k/\k<2 ^ 63/\xs.length * k.toNat<=sizeLine /\
 ∀ p,H p=none->Q (.ref p) (upd H p (.lst (bi k.toNat xs).flatten))
theorem PL {α:Type} (xs:List α) (k:Nat):(bi k xs).flatten.length=k * xs.length:=by
 induction k with
 | zero=>simp
 | succ k ih=>rw [cU,gO,aL,ih,Nat.succ_mul,Nat.add_comm]
theorem Mm:qi X (fU .Mult) WD:=by
 intro pins s σ H x y v u Q I rx ry h
 obtain ⟨l,k,xs,rfl,rfl,hH,h1,h2,hz,q⟩:=h
 cases rx
 obtain ⟨t,rfl⟩:=ry
 obtain ⟨z,its,n,r,hl,e⟩:=I.lstM hH
 have hlen:its.toArray.size * k.toNat<=sizeLine:=by rw [aH,<- hl];exact hz
 have hcap:¬ its.toArray.size * k.toNat > (2 ^ 63 - 1) / 8:=by
  have:(sizeLine:Nat)<=(2 ^ 63 - 1) / 8:=by decide
  omega
 have hfit:¬ (!Builtin.List.listFitsIndex k)=true:=by
  rw [fitsIndex_both h1 h2]
  exact aN
 have hlong:¬ fZ (its.toArray.size * k.toNat)=true:=by
  rw [yw hlen]
  exact aN
 have hnew:Lq (fun x1 x2=>x1++x2) #[] (bi (if its.toArray.isEmpty=true then 0 else k.toNat) its.toArray)=(bi k.toNat its).flatten.toArray:=by
  have f0:∀ m:Nat,Lq (fun x1 x2=>x1++x2) #[] (bi m its.toArray)=(bi m its).flatten.toArray:=fun m=>by
   have:=B5 its m []
   rw [eA] at this
   exact this
  rw [f0]
  cases its with
  | nil=>simp
  | cons a r'=>rw [if_neg (by simp)]
 refine wpAny_binaryOp_repeat_ref (T:="list") (U:="int") (by decide) ⟨_,e,rfl⟩ (fun s'=>typeIs_int s' k t) noFill_list_mul F.fills_int_mul F.slot_int_rmul repeat_list F.slot_int_index.lookup
  (mf F.slot_int_rmul (typeIs_int s k t) F.entry_int_rmul (F.args_int_rmul_2 _ _) (int___rmul___int_list k t l its.toArray n)
   ⟨e,rfl,⟨_,e,rfl⟩,mf F.slot_list_mul ⟨_,e,rfl⟩ F.entry_list_mul (F.args_list_mul_2 _ _) (AutoListH.list___mul___list_int_3 l its.toArray n k t hfit hcap hlong) ⟨e,?_⟩⟩)
 rw [hnew]
 exact ⟨.ref _,_,I.lnew (t':=s.toks) (r.rep k.toNat) (by rw [PL,Nat.mul_comm];exact hz),rfl,q _ I.fresh⟩
end
section
variable {prog:aI}{w:ba}{A:aX}{E:a8->af->Prop}{s:af}
end
section
variable {X:Cx}
end
end L2
namespace Att
open PySem PySem.W PySem.Calls PyProof.Rows
theorem xr {P:Params}{h:bf}:∀ (ns:List Int) (vs:List a8),WellAll P h vs (ns.map WData.int)->LM vs ns:=by
 intro ns
 induction ns with
 | nil =>
  intro vs w
  rw [ef] at w
  cases w
  exact .nil
 | cons n ns ih =>
  intro vs w
  rw [aR] at w
  cases w with
  | cons a b =>
   cases a
   exact .cons _ _ (ih _ b)
theorem K5 {l:OpenLaw}{n:Nat} (hn:l.most=some n) {P:Params}{h:bf}{args:List WData}{vals:List a8}
  (hpre:l.row.toRowW.claim.pre args=true) (hwl:WellAll P h vals args) :
  ∃ a vs ns,vals=[bE a]/\args=[WData.list (ns.map WData.int)]/\h.get? a=some { cls:=.type "list",data:=.seq vs.toArray }/\LM vs ns/\ns.length<=n:=by
 have hsh:WShape.hasAll [] args [.list .int]=true:=(pre_splitW hpre).1
 have hc:l.pre.holds [] { args:=args }=true:=(pre_splitW hpre).2
 obtain ⟨d,r,rfl,h1,h2⟩:=hasAllW_cons hsh
 obtain rfl:=hasAllW_nil h2
 obtain ⟨xs,rfl,h3⟩:=hasW_list h1
 obtain ⟨ns,rfl⟩:=items_int h3
 have hlen:ns.length<=n:=by
  unfold OpenLaw.pre at hc
  have h4:(WTm.not (.lt (.lit (.int (n:Int))) (.len (.arg 0)))).holds [] { args:=[.list (ns.map .int)] }=true:=by
   have h4:=(holds_andW hc).1
   rw [hn] at h4
   exact h4
  have h5:=condW_of h4 (w_not (w_lt w_lit (w_len_list (w_arg rfl))))
  rw [ay] at h5
  refine P3 fun q=>?_
  have q':(n:Int)<((ns.length:Nat):Int):=by omega
  first
   | (rw [decide_eq_true q'] at h5;exact absurd h5 (by decide))
   | (simp at h5;omega)
 cases hwl with
 | cons w1 w2 =>
  cases w2
  cases w1 with
  | list ho hall=>exact ⟨_,_,ns,rfl,rfl,ho,xr ns _ hall,hlen⟩
theorem K6 (l:OpenLaw) (args:List WData):l.row.toRowW.claim.post args (.bool true) args=true :=
 postW_of (r:=l.row.toRowW) (X:=(true == true))
  (show WShape.has [] (.bool true) .bool=true by first | rfl | decide | simp [WShape.has,WShape.arms,WShape.armsAll])
  (show (WTm.eq .res (.lit (.bool true))).value [] { args:=args,res:=some (.bool true),after:=args }=some (.bool (true == true)) from w_eq_bool (w_res rfl) w_lit) rfl
theorem attach_call {l:OpenLaw}{n:Nat}{q:aI}{loose:List Str}{XP:(Str->Option a8)->bf->Prop}{YP:ba->bf->Prop}{d:DefRec}
  (hn:l.most=some n) (hdf:d.params.defaults=[])
  (call:∀ (w:ba) (s₀ s₁:af) (mg mb:Str->Option a8) (fa:ag) (o:Obj) (pm cd doc:a8) (a:ag) (vs:List a8) (ns:List Int),
   Ground q loose [] XP w s₀ mg mb s₁.heap->YP w s₁.heap ->
   s₁.heap.get? fa=some o->o.data=.func (docDef d.name d.params d.body d.scope pm cd doc)->s₁.heap.CodeRec cd d.name->mg d.name=some (.ref fa) ->
   s₁.heap.get? a=some { cls:=.type "list",data:=.seq vs.toArray }->LM vs ns->ns.length<=n->s₁.gens=#[] ->
   ia (aE l.prog w) wH (.call (.ref fa) ⟨[.ref a],[]⟩) (fun r s'=>r=.ok (.ret (.bool true))/\OldK s₁.heap s'.heap/\s'.os=s₁.os/\qt s'.gens) s₁) :
  WalkO q loose XP YP l.row.toRowW d [] (fun f vs=>JJ f vs):=by
 intro w s₀ s₁ mg mb G Y fa o pm cd doc dV kV ho hd hcd hD hmg hg args vals as hpre hlay hrd hwl hlo
 obtain rfl:dV=.none:=Dflts.none hD hdf
 obtain rfl:kV=.none:=Dflts.noKw hD
 obtain ⟨a,vs,ns,rfl,rfl,hobj,hints,hlen⟩:=K5 hn hpre hwl
 refine enter_call (oC (call w s₀ s₁ mg mb fa o pm cd doc a vs ns G Y ho (fd_plain hd) hcd hmg hobj hints hlen hg) fun r s' hq=>?_)
 obtain ⟨rfl,h2,h3,h4⟩:=hq
 exact ⟨.inl ⟨.bool true,.bool true,[],rfl,fun _=>rfl,.bool true,K6 l _,fun _=>⟨AT,fun _ hm=>(nomatch hm)⟩⟩,h2,h3,h4⟩
section
variable {prog:aI}{w:ba}{A:aX}{E:a8->af->Prop}{s:af}{K:Frag}
def WE (h:bf) (L d:ag):List (ag×Obj):=(bt h.objs.size).filterMap fun a=>if a=L\/a=d then none else (h.get? a).map fun o=>(a,o)
end
end Att
namespace L2
open PySem PySem.Spec PyProof.Rows
theorem K7 {vs:List a8}{ns:List Int} (h:LM vs ns):cV (ns.map V.int) vs:=by
 induction h with
 | nil=>exact .nil
 | cons n t h ih=>exact .cons ⟨t,rfl⟩ ih
def SO (H:Hp):Prop:=∀ b,H b=none\/∃ o xs,H b=some (.frz o (.lst xs))
theorem Mn {P:aI}{w:ba}{K:a7}{mg mb:Str->Option a8}{CX:Il}{k:Nat}{fa a:ag}{fd:df}{x:Str}{sp:Sp}{s₁:af}{vs:List a8}{ns:List Int}
  (KX:K.In s₁.heap) (hns:s₁.heap.Ns bA mg) (hb:s₁.heap.Ns builtinsNs mb) (hbb:∀ x:Str,x≠"__name__"->mb x=iz x) (hlim:s₁.heap.NoLimit) (hg:s₁.gens=#[])
  (ha:s₁.heap.get? a=some { cls:=.type "list",data:=.seq vs.toArray }) (hi:LM vs ns) (hl:ns.length<=sizeLine) (hr:ji k wH)
  (F:∀ base:bf,K.In base->base.Ns bA mg->sJ P w K mg base CX k fa fd [x] sp) (hbind:∀ (s:af) (u:a8),wG s fd ⟨[u],[]⟩ [(x,u)])
  (hsp:∀ H:Hp,SO H->mZ K H a (ns.map V.int)->sp [.ref a] H (fun v _=>v=.bl true) fun _ _ _=>False)
  (hCX:∀ H e s',CX [] H s₁ (fun _ _ _=>False) e s'->False) :
  ia (aE P w) wH (.call (.ref fa) ⟨[.ref a],[]⟩) (fun r s'=>r=.ok (.ret (.bool true))/\OldK s₁.heap s'.heap/\s'.os=s₁.os/\qt s'.gens) s₁:=by
 have rv:=K7 hi
 have lenV:=hi.length
 have core:∀ H:Hp,SO H->mZ K H a (ns.map V.int)->qo P w H s₁.heap->(∀ b,H b≠none->b=a)->(H a≠none->K.lookup a=none) ->
   ia (aE P w) wH (.call (.ref fa) ⟨[.ref a],[]⟩) (fun r s'=>r=.ok (.ret (.bool true))/\OldK s₁.heap s'.heap/\s'.os=s₁.os/\qt s'.gens) s₁:=by
  intro H hO hS hok hA hK
  have base_of:∀ {b:ag}{o:Obj},s₁.heap.get? b=some o->H b=none->(C2 s₁.heap H).get? b=some o:=fun e n=>LZ e n
  have noA:∀ {b:ag}{o:Obj}{es:Array DictEntry}{ep:Nat},s₁.heap.get? b=some o->o.data=.dict es ep->H b=none:=fun {b o es ep} e d=>by
   cases q:H b with
   | none=>rfl
   | some u =>
    have e':b=a:=hA b (by rw [q];simp)
    subst e'
    rw [ha] at e;cases e
    have d':Data.seq vs.toArray _=Data.dict es ep:=d
    cases d'
  have nsK:∀ {b:ag}{m:Str->Option a8},s₁.heap.Ns b m->(C2 s₁.heap H).Ns b m:=fun {b m} ⟨o,es,ep,e,d,r⟩=>⟨o,es,ep,base_of e (noA e d),d,r⟩
  have hKb:K.In (C2 s₁.heap H):=fun b o e=>base_of (KX b o e) (by
   cases q:H b with
   | none=>rfl
   | some u =>
    have e':b=a:=hA b (by rw [q];simp)
    subst e'
    rw [hK (by rw [q];simp)] at e;cases e)
  have hM:Mod K mg (C2 s₁.heap H):=⟨hKb,nsK hns,⟨mb,nsK hb,hbb⟩,let ⟨mc,h1,h2⟩:=hlim;⟨mc,nsK h1,h2⟩⟩
  have e0:Gr P w K mg (C2 s₁.heap H) wH [] s₁ H:=⟨rfl,hM,fun b o e=>Pm e,Nat.le_of_eq (JY _ _),trivial,fun b hb=>absurd (show b∈([] : List ag) from hb) (by simp),hok,.of_eq hg⟩
  refine oC ((F _ hKb (nsK hns)).run wH [] s₁ H ⟨[.ref a],[]⟩ [.ref a] [.ref a] _ _ hr e0 (hbind s₁ (.ref a)) (.cons rfl .nil) (hsp H hO hS)) fun r s' h=>?_
  cases r with
  | error e=>exact (hCX H e s' h).elim
  | ok fl =>
   cases fl with
   | next=>exact eN h
   | brk=>exact eN h
   | cont=>exact eN h
   | ret u =>
    obtain ⟨v,H',os,bare,un,hok',r',q⟩:=h
    have q':v=.bl true:=q
    subst q'
    obtain rfl:u=iL true:=r'
    refine ⟨rfl,OldK.of_keep fun b o e=>?_,os,bare⟩
    cases q:H b with
    | none=>exact un.keep b o e q (by intro z;exact absurd (show b∈([] : List ag) from z) (by simp)) (by simp)
    | some u =>
     rcases hO b with z | ⟨ob,xs,z⟩
     ·rw [q] at z;cases z
     ·have z2:=un.frzs b ob _ z
      obtain ⟨e1,_⟩:=hok b _ z
      obtain ⟨e2,_⟩:=hok' b _ z2
      rw [e] at e1;cases e1
      exact e2
 cases hk:K.lookup a with
 | some o =>
  have e:=KX a o hk
  rw [ha] at e
  cases e
  refine core (fun _=>none) (fun _=>.inl rfl) (.inr ⟨_,vs.toArray,_,hk,rfl,rfl,rfl,by rw [aH,lenV];exact hl,by simpa using rv⟩) (fun b u z=>by have z':(none:Option HO)=some u:=z;cases z') (fun b z=>absurd rfl z) fun z=>absurd rfl z
 | none =>
  refine core (fun b=>if b=a then some (.frz { cls:=.type "list",data:=.seq vs.toArray } (.lst (ns.map V.int))) else none) (fun b=>?_) (.inl (.inr ⟨{ cls:=.type "list",data:=.seq vs.toArray },if_pos rfl⟩)) (fun b u z=>?_) (fun b z=>?_) fun _=>hk
  ·by_cases hb:b=a
   ·exact .inr ⟨_,_,if_pos hb⟩
   ·exact .inl (if_neg hb)
  ·by_cases hb:b=a
   ·have z':=(if_pos hb).symm.trans z
    cases z'
    subst hb
    exact ⟨ha,by rw [ay];exact hl,vs,_,rv,ha⟩
   ·have z':=(if_neg hb).symm.trans z
    cases z'
  ·by_cases hb:b=a
   ·exact hb
   ·exact absurd (if_neg hb) z
end L2
namespace L2
open PySem PySem.Spec PyProof.Rows
abbrev Y5 {K:a7}{h:bf} (_:K.In h):a7:=K
theorem PM {l:xj}{n k:Nat}{q:aI}{loose:List Str}{XP:(Str->Option a8)->bf->Prop}{YP:ba->bf->Prop}{d:DefRec}{K:Params->a7}{CX:ba->Il}{sp:ba->Sp}{x:Str}
  (hn:l.most=some n) (hn2:n<=sizeLine) (hdf:d.params.defaults=[]) (hr:ji k wH)
  (hY:∀ (w:ba) (h:bf),YP w h->(K w.params).In h)
  (F:∀ (w:ba) (mg:Str->Option a8) (fa:ag) (h:bf),(K w.params).In h->h.Ns bA mg->mg d.name=some (.ref fa) ->
   ∃ fd:df,(∀ (s:af) (u:a8),wG s fd ⟨[u],[]⟩ [(x,u)]) /\
    ∀ base:bf,(K w.params).In base->base.Ns bA mg->sJ l.prog w (K w.params) mg base (CX w) k fa fd [x] (sp w))
  (hsp:∀ (w:ba) (H:Hp) (a:ag) (ns:List Int),ns.length<=n->SO H->mZ (K w.params) H a (ns.map V.int)->sp w [.ref a] H (fun v _=>v=.bl true) fun _ _ _=>False)
  (hCX:∀ (w:ba) (H:Hp) (s:af) (e:a8) (s':af),CX w [] H s (fun _ _ _=>False) e s'->False) :
  OR q loose XP YP l.row.toRowW d [] (fun f vs=>JJ f vs):=by
 refine Att.attach_call hn hdf fun w s₀ s₁ mg mb fa o pm cd doc a vs ns G Y ho hd hcd hmg hobj hints hlen hg=>?_
 have KX:=hY w _ Y
 obtain ⟨fd,hb,hF⟩:=F w mg fa _ KX G.T.g hmg
 exact Mn KX G.T.g G.T.b G.T.builtins G.T.nolimit hg hobj hints (bJ hlen hn2) hr hF hb (fun H hO hS=>hsp w H a ns hlen hO hS) fun H e s'=>hCX w H s₁ e s'
end L2
namespace L2
open PySem PySem.Spec PyProof.Rows
def kM (s:cr):Arguments:=match s with
 | .FunctionDef _ a _ _ _ _ _ _ _ _=>a
 | _=>{ posonlyargs:=[],args:=[],vararg:=none,kwonlyargs:=[],kw_defaults:=[],kwarg:=none,defaults:=[] }
def gT (s:cr):List cr:=match s with
 | .FunctionDef _ _ b _ _ _ _ _ _ _=>b
 | _=>[]
def ax (s:cr):el:=match s with
 | .FunctionDef _ _ _ _ _ _ sc _ _ _=>sc
 | _=>{ kind:=.function,names:=[],isGenerator:=false,isCoroutine:=false }
abbrev Xl:Il:=fun _ _ _ _ _ _=>False
abbrev E0:XK:=fun _ _ _=>False
structure DS (K:a7) (x qual:Str) (st:cr) (f:ag) (fd:df):Prop where
 ex:∃ (oc:a8) (od:Option ag) (kV doc pm:a8) (an:Option ag) (cdv ct:a8) (osl:Array (Option a8)),
  fd=eO x qual (kM st) (gT st) (ax st) .none kV doc pm an cdv ct/\K.lookup f=some ⟨oc,od,.func fd,osl⟩/\jG K cdv qual=true
 kp:dX K (.ref f)=true
section
variable {P:aI}{w:ba}{K:a7}{mg:Str->Option a8}{base:bf}
theorem DS.binds {x qual:Str}{st:cr}{f:ag}{fd:df}{ps:List Str} (F:DS K x qual st f fd)
  (h:∀ (kV doc pm:a8) (an:Option ag) (cdv ct:a8) (us:List a8),us.length=ps.length->P0 (eO x qual (kM st) (gT st) (ax st) .none kV doc pm an cdv ct) ⟨us,[]⟩=pure (ps.zip us)):jM K fd ps []:=by
 obtain ⟨oc,od,kV,doc,pm,an,cdv,ct,osl,rfl,lk,hcd⟩:=F.ex
 exact .all (h kV doc pm an cdv ct)
theorem Mo {x qual:Str}{st:cr}{f:ag}{oc:a8}{od an:Option ag}{osl:Array (Option a8)}{kV doc pm cdv ct:a8} (l:K.lookup f=some ⟨oc,od,.func (eO x qual (kM st) (gT st) (ax st) .none kV doc pm an cdv ct),osl⟩)
  (c:jG K cdv qual=true) (k:dX K (.ref f)=true):DS K x qual st f (eO x qual (kM st) (gT st) (ax st) .none kV doc pm an cdv ct):=⟨⟨oc,od,kV,doc,pm,an,cdv,ct,osl,rfl,l,c⟩,k⟩
end
theorem ip {A:aX}{k:Nat} (hr:ji k A):A.units + 1<sD:=nV (Lr (by decide:1<=64) _) hr.units
theorem bY {n:Nat} (h:n<=1000):n<sizeLine:=nV h (by decide)
section
variable {X:Cx}
theorem pv (i:Nat) {x:Str}{pos:Pos} (hN:X.N[i]?=some x:=by rfl) (hv:LA X.env.scope x:=by first | exact gP rfl | exact e8 (gP rfl) | exact e8 (e8 rfl)) (hd:(x == ("__debug__" : Str))=false:=by decide)
  (hcd:(x == ("__classdict__" : Str))=false:=by decide):PE X (.Name x pos) (JZ i):=n_ hN hv hd hcd
end
theorem Cb {A B:Prop} (h:B):if false=true then A else B:=by
 rw [if_neg aN]
 exact h
theorem Gw {A B:Prop} (h:A):if true=true then A else B:=by
 rw [if_pos rfl]
 exact h
def dE (H H':Hp):Prop:=∀ b o,H b=some o->H' b=some o
theorem dE.refl (H:Hp):dE H H:=fun _ _ h=>h
theorem dE.trans {H H1 H2:Hp} (a:dE H H1) (b:dE H1 H2):dE H H2:=fun c o h=>b c o (a c o h)
theorem dE.free {H H':Hp} (e:dE H H') {l:ag} (h:H' l=Option.none):H l=Option.none:=by
 cases q:H l with
 | none=>rfl
 | some o =>
  rw [e l o q] at h
  cases h
theorem dE.seq {K:a7}{H H':Hp}{a:ag}{xs:List V} (e:dE H H') (h:mZ K H a xs):mZ K H' a xs:=by
 rcases h with (h | ⟨o,h⟩) | h
 ·exact .inl (.inl (e _ _ h))
 ·exact .inl (.inr ⟨o,e _ _ h⟩)
 ·exact .inr h
end L2
end
section
namespace L2
open PySem PySem.Spec PyProof.Rows
section
variable {κ:Type} [DecidableEq κ]
def uQ (kvs:List (κ×V)) (k:κ):Option V:=(kvs.find? fun kv=>decide (kv.1=k)).map (·.2)
def qL (kvs:List (κ×V)) (k:κ) (v:V):List (κ×V) :=
 if (kvs.any fun kv=>decide (kv.1=k))=true then kvs.map (fun kv=>if kv.1=k then (kv.1,v) else kv) else kvs++[(k,v)]
def Mp (kvs:List (κ×V)) (k:κ):List (κ×V):=kvs.filter fun kv=>decide (kv.1≠k)
theorem yx {p:κ×V}{r:List (κ×V)}{k:κ} (e:p.1=k):uQ (p::r) k=some p.2:=by simp [uQ,dL,e]
theorem yy {p:κ×V}{r:List (κ×V)}{k:κ} (e:¬ p.1=k):uQ (p::r) k=uQ r k:=by simp [uQ,dL,e]
theorem DT (k:κ):∀ kvs:List (κ×V),(kvs.any fun kv=>decide (kv.1=k))=(uQ kvs k).isSome
 | []=>rfl
 | p::r=>by
  rw [fB]
  by_cases e:p.1=k
  ·simp only [yx e,decide_eq_true e,Bool.true_or,mT]
  ·rw [yy e,decide_eq_false e,uG];exact DT k r
theorem qM (kvs:List (κ×V)) (k:κ) (v:V):(qL kvs k v).length<=kvs.length + 1:=by
 unfold qL
 split
 ·rw [ay];omega
 ·rw [aL,aO,bx];omega
theorem yq.isSome_eq {o:Option V}{u:Option a8} (r:yq o u):o.isSome=u.isSome:=by
 cases o with
 | none=>cases u with
  | none=>rfl
  | some _=>exact (show False from r).elim
 | some _=>cases u with
  | none=>exact (show False from r).elim
  | some _=>rfl
theorem KV.val {kvs:List (κ×V)}{vs:List (κ×a8)} (r:KV kvs vs) (k:κ):yq (uQ kvs k) (Ae vs k):=by
 unfold KV at r
 induction r with
 | nil=>exact jF
 | @cons p q ps qs h t ih =>
  obtain ⟨h1,h2⟩:=h
  by_cases e:p.1=k
  ·have e':q.1=k:=h1.symm.trans e
   have b:Ae (q::qs) k=some q.2:=by simp [Ae,dL,e']
   rw [yx e,b];exact h2
  ·have e':¬ q.1=k:=fun z=>e (h1.trans z)
   have b:Ae (q::qs) k=Ae qs k:=by simp [Ae,dL,e']
   rw [yy e,b];exact ih
theorem KV.any {kvs:List (κ×V)}{vs:List (κ×a8)} (r:KV kvs vs) (k:κ):(kvs.any fun kv=>decide (kv.1=k))=vs.any fun kv=>decide (kv.1=k):=by
 unfold KV at r
 induction r with
 | nil=>rfl
 | cons h t ih=>rw [fB,fB,ih,h.1]
theorem KV.repl {kvs:List (κ×V)}{vs:List (κ×a8)} (r:KV kvs vs) (k:κ) {y:V}{u:a8} (ry:dw y u) :
  KV (kvs.map fun kv=>if kv.1=k then (kv.1,y) else kv) (vs.map fun kv=>if kv.1=k then (kv.1,u) else kv):=by
 unfold KV at r ⊢
 induction r with
 | nil=>exact .nil
 | @cons p q ps qs h t ih =>
  rw [aR,aR]
  refine .cons ?_ ih
  obtain ⟨h1,h2⟩:=h
  by_cases e:p.1=k
  ·rw [if_pos e,if_pos (h1.symm.trans e)];exact ⟨h1,ry⟩
  ·rw [if_neg e,if_neg (fun z=>e (h1.trans z))];exact ⟨h1,h2⟩
theorem KV.put {kvs:List (κ×V)}{vs:List (κ×a8)} (r:KV kvs vs) (k:κ) {y:V}{u:a8} (ry:dw y u):KV (qL kvs k y) (G4 vs k u):=by
 unfold qL G4
 rw [r.any k]
 by_cases e:(vs.any fun kv=>decide (kv.1=k))=true
 ·rw [if_pos e,if_pos e];exact r.repl k ry
 ·rw [if_neg e,if_neg e];exact Paired.snoc r ⟨rfl,ry⟩
theorem KV.length {kvs:List (κ×V)}{vs:List (κ×a8)} (r:KV kvs vs):kvs.length=vs.length:=tE r
end
theorem DU {P:aI}{w:ba}{k:ed}{u:a8} (r:dw (kV k) u):(dU P w).is k u=true:=by
 cases k with
 | inl i=>obtain ⟨t,e⟩:=(show ∃ t,u=pd i t from r);subst e;exact DI P w i t
 | inr x=>obtain ⟨t,e⟩:=(show ∃ t,u=jE x t from r);subst e;exact DJ P w x t
theorem B8 {P:aI}{w:ba}:∀ {ks:List ed}{us:List a8},cV (ks.map kV) us->ItemsAre (dU P w) ks us
 | [],_,r=>by rw [ef] at r;cases r;exact .nil
 | k::ks,_,r=>by
  rw [aR] at r
  cases r with
  | cons h t=>exact .cons (DU h) (B8 t)
abbrev KT (H:Hp):List (List ed×V)->List (List ed×ag×a8)->Prop:=LH fun p q=>p.1=q.1/\H q.2.1=some (.tup (p.1.map kV))/\dw p.2 q.2.2
theorem KT.val {H:Hp}{kvs:List (List ed×V)}{xs:List (List ed×ag×a8)} (r:KT H kvs xs) (k:List ed):yq (uQ kvs k) ((G5 xs k).map (·.2)):=by
 induction r with
 | nil=>exact jF
 | @cons p q ps qs h t ih =>
  obtain ⟨h1,_,h2⟩:=h
  by_cases e:p.1=k
  ·have e':q.1=k:=h1.symm.trans e
   have b:G5 (q::qs) k=some q.2:=by simp [G5,dL,e']
   rw [yx e,b];exact h2
  ·have e':¬ q.1=k:=fun z=>e (h1.trans z)
   have b:G5 (q::qs) k=G5 qs k:=by simp [G5,dL,e']
   rw [yy e,b];exact ih
theorem KT.repl {H:Hp}{kvs:List (List ed×V)}{xs:List (List ed×ag×a8)} (r:KT H kvs xs) (k:List ed) {y:V}{u:a8} (ry:dw y u) :
  KT H (kvs.map fun kv=>if kv.1=k then (kv.1,y) else kv) (xs.map (putAt k u)):=by
 induction r with
 | nil=>exact .nil
 | @cons p q ps qs h t ih =>
  rw [aR,aR]
  refine .cons ?_ ih
  obtain ⟨h1,h2,h3⟩:=h
  unfold putAt
  by_cases e:p.1=k
  ·rw [if_pos e,if_pos (h1.symm.trans e)];exact ⟨h1,h2,ry⟩
  ·rw [if_neg e,if_neg (fun z=>e (h1.trans z))];exact ⟨h1,h2,h3⟩
theorem KT.put {H:Hp}{kvs:List (List ed×V)}{xs:List (List ed×ag×a8)} (r:KT H kvs xs) (k:List ed) {b:ag}{y:V}{u:a8} (hb:H b=some (.tup (k.map kV))) (ry:dw y u) :
  KT H (qL kvs k y) (storedH xs k b u):=by
 have e:(kvs.any fun kv=>decide (kv.1=k))=(G5 xs k).isSome:=by
  rw [DT,(r.val k).isSome_eq,JK]
 unfold qL storedH
 rw [e]
 by_cases q:(G5 xs k).isSome=true
 ·rw [if_pos q,if_pos q];exact r.repl k ry
 ·rw [if_neg q,if_neg q];exact Paired.snoc r ⟨rfl,hb,ry⟩
theorem KT.keeps {H H':Hp}{kvs:List (List ed×V)}{xs:List (List ed×ag×a8)} (r:KT H kvs xs) (ht:∀ b ys,H b=some (.tup ys)->H' b=some (.tup ys)):KT H' kvs xs :=
 Paired.mapP r fun _ _ z=>⟨z.1,ht _ _ z.2.1,z.2.2⟩
section
variable {P:aI}{w:ba}{H:Hp}{h:bf}{a:ag}
theorem Rk {u:HO} (ok:qo P w H h) (e:Rd H a u):dn P w H h a u:=e.ok ok
theorem Iu {kvs:List (ed×V)} (ok:qo P w H h) (e:Rd H a (.dK kvs)):kvs.length<=sizeLine/\(a == kg)=false/\∃ vs,KV kvs vs/\h.DictOf (dU P w) a vs :=
 show dn P w H h a (.dK kvs) from Rk ok e
theorem Ul {kvs:List (ed×V)} (ok:qo P w H h) (e:H a=some (.dK kvs)):kvs.length<=sizeLine/\(a == kg)=false/\∃ vs,KV kvs vs/\h.DictOf (dU P w) a vs:=Iu ok (.inl e)
theorem Cc {ks:List ed} (ok:qo P w H h) (e:H a=some (.tup (ks.map kV))):(BS (dU P w)).is h ks a:=by
 obtain ⟨_,its,r,o,h1,h2,n,h3⟩:=(show dn P w H h a (.tup (ks.map kV)) from ok a _ e)
 exact ⟨o,its.toArray,n,h1,h2,h3,by simpa using B8 r⟩
theorem Iv {kvs:List (List ed×V)} (ok:qo P w H h) (e:Rd H a (.dT kvs)):kvs.length<=sizeLine/\(a == kg)=false /\
  ∃ xs,KT H kvs xs/\h.DictOfH (BS (dU P w)) a xs:=by
 obtain ⟨z,y,xs,r,o,es,ep,h1,h2,h3,h4,h5⟩:=(show dn P w H h a (.dT kvs) from Rk ok e)
 refine ⟨z,y,xs,r,o,es,ep,h1,h2,h3,h4,fun x hx=>?_,h5⟩
 have all:∀ {l:List (List ed×V)}{m:List (List ed×ag×a8)},KT H l m->∀ x∈m,(BS (dU P w)).is h x.1 x.2.1:=by
  intro l m q
  induction q with
  | nil=>intro x hx;exact nomatch hx
  | @cons p q ps qs hq t ih =>
   intro x hx
   rcases List.mem_cons.mp hx with e | hx
   ·subst e
    exact Cc ok (by rw [<- hq.1];exact hq.2.1)
   ·exact ih x hx
 exact all r x hx
theorem Um {kvs:List (List ed×V)} (ok:qo P w H h) (e:H a=some (.dT kvs)):kvs.length<=sizeLine/\(a == kg)=false /\
  ∃ xs,KT H kvs xs/\h.DictOfH (BS (dU P w)) a xs:=Iv ok (.inl e)
end
def Gx (H:Hp) (a:ag) (y:V) (r:Option V):Prop :=
 (∃ kvs k,Rd H a (.dK kvs)/\y=kV k/\r=uQ kvs k)\/∃ kvs k b,Rd H a (.dT kvs)/\y=.ref b/\H b=some (.tup (k.map kV))/\r=uQ kvs k
def Mq (H:Hp) (a:ag) (y v:V) (H':Hp):Prop :=
 (∃ kvs k,H a=some (.dK kvs)/\y=kV k/\kvs.length<sizeLine/\H'=upd H a (.dK (qL kvs k v))) \/
 ∃ kvs k b,H a=some (.dT kvs)/\y=.ref b/\H b=some (.tup (k.map kV))/\kvs.length<sizeLine/\H'=upd H a (.dT (qL kvs k v))
theorem Gx.k {H:Hp}{a:ag}{kvs:List (ed×V)}{k:ed} (e:H a=some (.dK kvs)):Gx H a (kV k) (uQ kvs k):=.inl ⟨kvs,k,.inl e,rfl,rfl⟩
theorem Mq.k {H:Hp}{a:ag}{kvs:List (ed×V)}{k:ed}{v:V} (e:H a=some (.dK kvs)) (hl:kvs.length<sizeLine):Mq H a (kV k) v (upd H a (.dK (qL kvs k v))):=.inl ⟨kvs,k,e,rfl,hl,rfl⟩
section
variable {X:Cx}{pins:List (ag×Obj)}{σ:St}{H:Hp}{s:af}{a:ag}{y v:V}{u r:a8}{o:Option V}{A:aX}{E:a8->af->Prop}
theorem bF.big (I:bF X pins σ H s):kg<s.heap.objs.size:=by
 have h:bA<s.heap.objs.size:=(I.mod.glob.keeps I.bk).lt
 exact xk (by decide) h
theorem K8 {Q:a8->af->Prop} (hu:A.units + 1<sD) (I:bF X pins σ H s) (g:Gx H a y (some v)) (ry:dw y u) (h:∀ w' s',bF X pins σ H s'->dw v w'->Q w' s') :
  ak (aE X.prog X.w) A (mS (.ref a) u) Q E s:=by
 rcases g with ⟨kvs,k,e,ey,l⟩ | ⟨kvs,k,b,e,ey,eb,l⟩
 ·subst ey
  obtain ⟨z,hd,vs,rel,dd⟩:=Iu I.hok e
  obtain ⟨w',hw,rw'⟩:=yq.some_of (v:=v) (o:=Ae vs k) (by rw [l];exact rel.val k)
  exact wpAny_getItem_of (DU ry) dd.mapOf hw (h w' _ (I.tok _) rw')
 ·subst ey
  cases (show u=bE b from ry)
  obtain ⟨z,hd,xs,rel,dd⟩:=Iv I.hok e
  obtain ⟨w',hw,rw'⟩:=yq.some_of (v:=v) (o:=(G5 xs k).map (·.2)) (by rw [l];exact rel.val k)
  obtain ⟨p,hp,hp2⟩:=Option.map_eq_some_iff.mp hw
  refine wpAny_getItem_heap (ye hu) (Cc I.hok eb) dd hp ?_
  rw [hp2]
  exact h w' _ (I.tok _) rw'
theorem d_in {Q:a8->af->Prop} (hu:A.units + 1<sD) (I:bF X pins σ H s) (g:Gx H a y o) (ry:dw y u) (h:∀ s',bF X pins σ H s'->Q (.bool o.isSome) s') :
  ak (aE X.prog X.w) A (bN .In u (.ref a)) Q E s:=by
 rcases g with ⟨kvs,k,e,ey,l⟩ | ⟨kvs,k,b,e,ey,eb,l⟩
 ·subst ey
  obtain ⟨z,hd,vs,rel,dd⟩:=Iu I.hok e
  refine wpAny_in_of (DU ry) hd dd.mapOf ?_
  rw [<- (rel.val k).isSome_eq,<- l]
  exact h _ (I.tok _)
 ·subst ey
  cases (show u=bE b from ry)
  obtain ⟨z,hd,xs,rel,dd⟩:=Iv I.hok e
  refine wpAny_in_heap (ye hu) (Cc I.hok eb) hd dd ?_
  have q:=(rel.val k).isSome_eq
  rw [JK] at q
  rw [<- q,<- l]
  exact h _ (I.tok _)
theorem Iw {h':bf}{t':Nat}{ob:HO} (I:bF X pins σ H s) (mu:U1 (H a)) (hs:bI a s.heap h') (he:∃ q,h'.get? a=some q) (new:dn X.prog X.w (upd H a ob) h' a ob) :
  bF X pins σ (upd H a ob) { s with heap:=h',toks:=t' } :=
 I.write (x:=a) (e:=a) mu (.inl rfl) (fun b q hb z=>(hs.2 b hb).trans z) he new
theorem Mr {P:aI}{w:ba}{H':Hp}{h':bf}{kvs:List (ed×V)}{vs:List (ed×a8)} (z:kvs.length<=sizeLine) (hd:(a == kg)=false) (rel:KV kvs vs) (dd:h'.DictOf (dU P w) a vs) :
  dn P w H' h' a (.dK kvs):=⟨z,hd,vs,rel,dd⟩
theorem K9 {H':Hp}{Q:Unit->af->Prop} (hu:A.units + 1<sD) (I:bF X pins σ H s) (g:Mq H a y v H') (ry:dw y u) (rv:dw v r) (h:∀ s',bF X pins σ H' s'->Q () s') :
  ak (aE X.prog X.w) A (setItem (.ref a) u r) Q E s:=by
 rcases g with ⟨kvs,k,e,ey,l,eH⟩ | ⟨kvs,k,b,e,ey,eb,l,eH⟩
 ·subst ey eH
  obtain ⟨z,hd,vs,rel,dd⟩:=Ul I.hok e
  have hz:vs.length<=sizeLine:=by rw [<- rel.length];exact z
  have hl:(qL kvs k v).length<=sizeLine:=by have:=qM kvs k v;omega
  refine wpAny_setItem_pairs (hsz:=hz) (DU ry) dd fun h' dd' hs=>h _ ?_
  have he:∃ q,h'.get? a=some q:=let ⟨q,_,_,hq,_⟩:=dd';⟨q,hq⟩
  exact Iw I (by rw [e];exact jF) hs he (Mr hl hd (rel.put k rv) dd')
 ·subst ey eH
  cases (show u=bE b from ry)
  obtain ⟨z,hd,xs,rel,dd⟩:=Um I.hok e
  have hz:xs.length<=sizeLine:=by rw [<- tE rel];exact z
  have hl:(qL kvs k v).length<=sizeLine:=by have:=qM kvs k v;omega
  refine wpAny_setItem_heap (hsz:=hz) (ye hu) (Cc I.hok eb) dd fun h' dd' hs=>h _ ?_
  obtain ⟨q,es,ep,hq,h2,h3,h4,_,h5⟩:=dd'
  refine Iw I (by rw [e];exact jF) hs ⟨q,hq⟩ ⟨hl,hd,_,(rel.put k eb rv).keeps fun c ys ec=>?_,q,es,ep,hq,h2,h3,h4,h5⟩
  rw [b6 (U0 ec e (fun z=>nomatch z))]
  exact ec
end
section
variable {X:Cx}{pins:List (ag×Obj)}{σ:St}{H:Hp}{s:af}{a:ag}{kvs:List (ed×V)}{k:ed}{u:a8}{A:aX}{E:a8->af->Prop}
end
def Uo (i:b9):Prop:=∀ ov iv,DA i false ov iv=operate [ov,iv] (mS ov iv)
theorem PN {prog:aI}{w:ba}{A:aX}{E:a8->af->Prop}{s:af}{env:Env}{value slice:b9}{pos:Pos}{T id:String}{Q:a8->af->Prop}
  (hl:hW (.type T) "__getitem__"=pure (some (.builtin id))) (hs:Uo slice)
  (h:ak (aE prog w) A (da value env) (fun o s₁=>ak (aE prog w) A (da slice env) (fun i s₂=>s₂.TypeIs o T/\ak (aE prog w) A (mS o i) Q E s₂) E s₁) E s) :
  ak (aE prog w) A (da (.Subscript value slice pos) env) Q E s:=by
 refine G3 (bc h (fun o s₁ h₁=>bc h₁ (fun i s₂ h₂=>?_) fun _ _ x=>x) fun _ _ x=>x)
 obtain ⟨hT,h₂⟩:=h₂
 unfold xM
 refine a6 ?_
 rw [getitemInPython_of_ne hT.not_modules]
 refine a6 (wpAny_specialOf hT hl ?_)
 have fin:ak (aE prog w) A (DA slice false o i) (fun r s₃=>ak (aE prog w) A (letTemporaryGo value o r >>= fun _=>pure r) Q E s₃) E s₂:=by
  rw [hs o i]
  exact wpAny_operating (bc h₂ (fun r s₃ h₃=>a6 (wpAny_letTemporaryGo (ac h₃))) fun _ _ x=>x)
 first
  | exact ac (a6 fin)
  | exact a6 (ac (a6 fin))
  | exact a6 fin
theorem DV {X:Cx}{pins:List (ag×Obj)}{σ:St}{H:Hp}{s:af}{a:ag}{y:V}{o:Option V} (I:bF X pins σ H s) (g:Gx H a y o):s.TypeIs (.ref a) "dict":=by
 rcases g with ⟨kvs,k,e,_,_⟩ | ⟨kvs,k,b,e,_,_,_⟩
 ·obtain ⟨_,_,vs,_,dd⟩:=Iu I.hok e
  exact dd.typeIs
 ·obtain ⟨_,_,xs,_,dd⟩:=Iv I.hok e
  exact dd.typeIs
def Up (td ty:TE):TE:=fun σ H Q=>td σ H fun x H1=>ty σ H1 fun y H2=>∃ a v,x=.ref a/\Gx H2 a y (some v)/\Q v H2
def Rl (td ty tv:TE):TS:=fun D σ H=>tv σ H fun v H1=>td σ H1 fun x H2=>ty σ H2 fun y H3=>∃ a H4,x=.ref a/\Mq H3 a y v H4/\D.nx σ H4
section
variable {X:Cx}{o i e value:b9}{pos pos' tpos:Pos}{td ty tv:TE}
theorem PP (hu:X.A.units + 1<sD) (ho:PE X o td) (hi:PE X i ty) (hs:Uo i):PE X (.Subscript o i pos) (Up td ty):=by
 intro pins s σ H Q I h
 refine PN PySem.F.slot_dict_getitem.lookup hs (fW (ho pins s σ H _ I h) fun u s1 ⟨x,H1,I1,rx,q1⟩=>fW (hi pins s1 σ H1 _ I1 q1) fun iv s2 ⟨y,H2,I2,ry,a,v,ex,g,q2⟩=>?_)
 subst ex
 obtain rfl:u=bE a:=rx
 exact ⟨DV I2 g,K8 hu I2 g ry fun w' s3 I3 rw'=>⟨v,H2,I3,rw',q2⟩⟩
theorem PQ (hu:X.A.units + 1<sD) (ho:PE X o td) (hi:PE X i ty) (hv:PE X value tv) (hs:ig value (some (.Subscript o i pos')) pos.line X.env=pure false) :
  PS X (.Assign [.Subscript o i pos'] value pos) (Rl td ty tv):=by
 intro pins s σ H D I h
 refine wpAny_Assign_Subscript (fW (hv pins s σ H _ I h) fun r s1 ⟨v,H1,I1,rv,q1⟩=>fW (ho pins s1 σ H1 _ I1 q1) fun u s2 ⟨x,H2,I2,rx,q2⟩=>fW (hi pins s2 σ H2 _ I2 q2) fun iv s3 ⟨y,H3,I3,ry,a,H4,ex,g,q3⟩=>?_) hs
 subst ex
 obtain rfl:u=bE a:=rx
 exact K9 hu I3 g ry rv fun s4 I4=>⟨σ,H4,I4,q3⟩
end
theorem Ms {P:aI}{w:ba}{H:Hp} (h:bf) (hb:kg<h.objs.size):dn P w H (h.push { cls:=.type "dict",data:=.dict #[] }) h.objs.size (.dK []) :=
 ⟨eB _,beq_eq_false_iff_ne.mpr (dh (aC hb)),[],.nil,FL h⟩
def SQ:TE:=fun _ H Q=>∀ p,H p=none->Q (.ref p) (upd H p (.dK []))
section
variable {X:Cx}{pos:Pos}
theorem Mt:PE X (.Dict [] [] pos) SQ:=fun pins s σ H Q I h =>
 wpAny_Dict_empty ⟨.ref s.heap.objs.size,_,I.laid (a:=s.heap.objs.size) (o:=.dK []) (t':=s.toks) (fun _ _ q=>ae _ q) (ar _) (Ms s.heap I.big),rfl,h _ (I.hok.fresh (ar _))⟩
end
def yz (kvs more:List (ed×V)):List (ed×V):=more.foldl (fun acc kv=>qL acc kv.1 kv.2) kvs
theorem KV.merge:∀ {more:List (ed×V)}{rs:List (ed×a8)}{kvs:List (ed×V)}{vs:List (ed×a8)},KV more rs->KV kvs vs->KV (yz kvs more) (merged vs rs):=by
 intro more rs kvs vs r
 unfold KV at r
 induction r generalizing kvs vs with
 | nil=>intro q;exact q
 | @cons p q ps qs h t ih =>
  intro r0
  have e:KV (qL kvs p.1 p.2) (G4 vs q.1 q.2):=by
   have:=r0.put p.1 h.2
   rw [<- h.1];exact this
  exact ih e
theorem sY:∀ (more kvs:List (ed×V)),(yz kvs more).length<=kvs.length + more.length
 | [],kvs=>by show kvs.length<=kvs.length + 0;omega
 | p::r,kvs=>by
  have h1:=sY r (qL kvs p.1 p.2)
  have h2:=qM kvs p.1 p.2
  show (yz (qL kvs p.1 p.2) r).length<=_
  rw [aO];omega
section
variable {X:Cx}{pins:List (ag×Obj)}{σ:St}{H:Hp}{s:af}{a:ag}{y d:V}{u r:a8}{o:Option V}{A:aX}{E:a8->af->Prop}
end
section
variable {X:Cx}{o e f:b9}{apos cpos:Pos}{td ty tx:TE}
end
section
variable {X:Cx}{pins:List (ag×Obj)}{σ:St}{H:Hp}{s:af}{a:ag}{kvs:List (ed×V)}{A:aX}{E:a8->af->Prop}
end
section
variable {X:Cx}{pins:List (ag×Obj)}{σ:St}{H:Hp}{s:af}{a:ag}{y:V}{u:a8}{A:aX}{E:a8->af->Prop}
end
end L2
namespace L2
open PySem PySem.Spec PyProof.Rows
section
variable {X:Cx}
end
section
variable {κ:Type} [DecidableEq κ]
theorem Ix:∀ {l:List κ}{k:κ},l.Nodup->¬ k∈l->(l++[k]).Nodup
 | [],k,_,_=>by simp
 | a::r,k,h,hk=>by
  obtain ⟨h1,h2⟩:=List.nodup_cons.mp h
  show (a::(r++[k])).Nodup
  refine List.nodup_cons.mpr ⟨fun m=>?_,Ix h2 fun m=>hk (List.mem_cons.mpr (e8 m))⟩
  rcases List.mem_append.mp m with q | q
  ·exact h1 q
  ·exact hk (List.mem_cons.mpr (gP (List.mem_singleton.mp q).symm))
end
end L2
end
namespace L2
open PySem PySem.Spec PyProof.Rows
section
section
variable {prog:aI}{w:ba}{A:aX}{R:vL->af->Prop}{s:af}
theorem Cd {elt target iter:b9}{ifs:List b9}{scope:el}{pos:Pos}{it acc:a8}{env:Env} (I:Nat->af->Prop)
  (turn:∀ n s,I n s->ak (aE prog w) A (nQ it) (fun r s₁=>match r with
   | none=>R (.ok .next) s₁
   | some v=>ak (aE prog w) A (gY target it v) (fun _ s₁'=>ak (aE prog w) A (qz target env v) (fun _ s₂ =>
     ak (aE prog w) A (forIn ifs true fun c r=>if r=true then do let ok <- BU c env (da c env);pure (f_ ok) else pure (f_ r)) (fun ok s₃ =>
      if ok=true then ak (aE prog w) A (da elt env) (fun x s₄ =>
       ak (aE prog w) A (call (.builtin "list.append") [acc,x]) (fun _ s₅=>∃ m,m<n/\I m s₅) (fun _ _=>False) s₄) (fun _ _=>False) s₃
      else ∃ m,m<n/\I m s₃) (fun _ _=>False) s₂) (fun _ _=>False) s₁') (fun _ _=>False) s₁) (fun _ _=>False) s)
  (n:Nat) (h:I n s) :
  ia (aE prog w) A (.compLoop (.ListComp elt [⟨target,iter,ifs,0⟩] scope pos) 0 it acc env) R s:=by
 refine codeAny_loop rfl I (fun n s hI=>?_) n h
 show ak _ A ((compTurn (.ListComp elt [⟨target,iter,ifs,0⟩] scope pos) 0 it acc env).onRaise (fun x=>do BY x env;theTreesLotGoes x)) _ _ s
 refine wpAny_noted ?_
 rw [compTurn_list]
 have nf:∀ {α:Type}{t:Sem α}{Q:α->af->Prop}{E':a8->af->Prop}{s:af},ak (aE prog w) A t Q (fun _ _=>False) s->ak (aE prog w) A t Q E' s :=
  fun h=>bc h (fun _ _ q=>q) fun _ _ f=>f.elim
 refine a6 (dk (a6 (nf (bc (turn n s hI) (fun r s₁ h₁=>?_) fun _ _ h'=>h'))))
 cases r with
 | none=>exact ac h₁
 | some v =>
  refine a6 (nf (bc h₁ (fun _ s₁' h₁'=>?_) fun _ _ h'=>h'))
  refine a6 (nf (bc h₁' (fun _ s₂ h₂=>a6 (nf (bc h₂ (fun ok s₃ h₃=>?_) fun _ _ h'=>h'))) fun _ _ h'=>h'))
  cases ok with
  | false=>exact ac ⟨rfl,h₃⟩
  | true =>
   exact a6 (a6 (nf (bc h₃ (fun x s₄ h₄=>a6 (nf (bc h₄ (fun _ s₅ h₅=>ac (ac ⟨rfl,h₅⟩)) fun _ _ h'=>h'))) fun _ _ h'=>h')))
end
theorem Gy {env : Env} (names : List (Str × k9)) : ∀ (cs : List (Str × ag)), (∀ y ∈ names, y.2 = .free -> ∃ c, env.cells.lookup y.1 = some c) ->
    (∀ x c, cs.lookup x = some c -> env.cells.lookup x = some c) ->
    ∃ cl, (forIn names cs fun (x : Str × k9) (cs : List (Str × ag)) => match x with
        | (name, kind) => if (kind == ck) = true then do let a <- cellOf env name; pure (f_ ((name, a) :: cs)) else pure (f_ cs) : Sem (List (Str × ag))) = pure cl /\
      (∀ x c, cl.lookup x = some c -> env.cells.lookup x = some c) /\ (∀ y ∈ names, y.2 = .free -> ∃ c, cl.lookup y.1 = some c) /\ (∀ x c, cs.lookup x = some c -> ∃ c', cl.lookup x = some c') := by
  induction names with
  | nil => intro cs _ h2; exact ⟨cs, rfl, h2, fun _ h => absurd h (by simp), fun x c h => ⟨c, h⟩⟩
  | cons nk r ih =>
    obtain ⟨n, k⟩ := nk
    intro cs h1 h2
    by_cases hk : k = .free
    · subst hk
      obtain ⟨a, ha⟩ := h1 (n, .free) al rfl
      have h2' : ∀ x c, ((n, a) :: cs).lookup x = some c -> env.cells.lookup x = some c := fun x c h => by
        rw [cQ] at h
        cases e : x == n with
        | true => rw [e] at h; have : x = n := by simpa using e
                  subst this; cases h; exact ha
        | false => rw [e] at h; exact h2 x c h
      obtain ⟨cl, e1, e2, e3, e4⟩ := ih ((n, a) :: cs) (fun y hy => h1 y (ao _ hy)) h2'
      refine ⟨cl, ?_, e2, fun y hy hf => ?_, fun x c h => ?_⟩
      · rw [lX]
        have hc : cellOf env n = pure a := by unfold cellOf; rw [ha]
        simp only [beq_self_eq_true, if_true, hc]
        exact e1
      · rcases List.mem_cons.mp hy with rfl | hy
        · exact e4 n a (by simp)
        · exact e3 y hy hf
      · cases e : x == n with
        | true => exact e4 x a (by rw [cQ, e])
        | false => exact e4 x c (by rw [cQ, e]; exact h)
    · obtain ⟨cl, e1, e2, e3, e4⟩ := ih cs (fun y hy => h1 y (ao _ hy)) h2
      refine ⟨cl, ?_, e2, fun y hy hf => ?_, e4⟩
      · rw [lX]
        have hk' : (k == ck) = false := by simpa using hk
        simp only [hk', c8, if_false]
        exact e1
      · rcases List.mem_cons.mp hy with rfl | hy
        · exact absurd hf hk
        · exact e3 y hy hf
theorem tR {scope:el}{env:Env} (h:∀ y∈scope.names,y.2=.free->∃ c,env.cells.lookup y.1=some c):∃ cl,closureFor scope env=pure cl /\
  (∀ x c,cl.lookup x=some c->env.cells.lookup x=some c)/\(∀ y∈scope.names,y.2=.free->∃ c,cl.lookup y.1=some c):=by
 obtain ⟨cl,e1,e2,e3,_⟩:=Gy (env:=env) scope.names [] h (fun x c h=>by simp at h)
 refine ⟨cl,?_,e2,e3⟩
 simp only [closureFor]
 rw [show (forIn scope.names ([] : List (Str×ag)) fun x r=>_)=(pure cl:Sem (List (Str×ag))) from e1]
 rfl
end
section
def cP (X:Cx) (N':List Str) (scope:el) (cl:List (Str×ag)) (C:ag) (s₀:af) (H₀:Hp) (ex:List ag) (pn:List (ag×Obj)):Cx :=
 { X with N:=N',s₀:=s₀,H₀:=H₀,env:=compEnvC scope cl C X.env,outer:=X.stack,stack:=X.stack,ex:=ex,fn:=fun y=>scope.names.lookup y == some .cell,pn:=pn,xe:=fun _ _=>False }
def OX (X:Cx) (ifs:List b9) (t:TT):Prop :=
 ∀ (pins:List (ag×Obj)) (s:af) (σ:St) (H:Hp) (Q:Bool->Hp->Prop),bF X pins σ H s->t σ H Q ->
  ak (aE X.prog X.w) X.A (forIn ifs true fun c r=>if r=true then do let ok <- BU c X.env (da c X.env);pure (f_ ok) else pure (f_ r)) (TP X pins σ Q) X.xe s
def WF:TT:=fun _ H Q=>Q true H
theorem PR {X:Cx}:OX X [] WF:=fun pins s σ H Q I h=>wpAny_tests_nil ⟨H,I,h⟩
theorem PU {X:Cx}{c:b9}{t:TT} (h:PT X c t):OX X [c] t:=fun pins s σ H Q I hw=>wpAny_tests_one (h pins s σ H Q I hw)
structure o0 (X:Cx) (scope:el) (N':List Str) (nt:Nat) (ix:List Nat):Prop where
 kind:scope.kind=.function
 cel:∀ y∈scope.names,y.2=.cell->scope.names.lookup y.1=some .cell
 loc:∀ y∈scope.names,y.2=.local->scope.names.lookup y.1=some .local
 free:∀ y∈scope.names,y.2=.free->X.env.scope.names.lookup y.1=some .cell\/X.env.scope.names.lookup y.1=some .free
 cap:∀ k i,ix[k]?=some i->∃ x,X.N[i]?=some x/\N'[nt + k]?=some x/\scope.names.lookup x=some .free
 len:N'.length=nt + ix.length
def jC (nt:Nat) (ix:List Nat) (σ:St):St:=bi nt none++ix.map fun i=>(σ[i]?).join
theorem sK {env:Env}{x:Str}{names:List (Str×k9)}:names.lookup x=some .free ->
  (names.map fun (n,k)=>if (k == ck && env.scope.kind == .function && env.kindOf n == some .cell) then (n,dW) else (n,k)).lookup x=some .free \/
  (names.map fun (n,k)=>if (k == ck && env.scope.kind == .function && env.kindOf n == some .cell) then (n,dW) else (n,k)).lookup x=some .cell:=by
 induction names with
 | nil=>intro h;simp at h
 | cons nk r ih =>
  obtain ⟨n,k⟩:=nk
  intro h
  show yf x ((if (k == ck && env.scope.kind == .function && env.kindOf n == some .cell)=true then (n,dW) else (n,k))::_)=_ \/
   yf x ((if (k == ck && env.scope.kind == .function && env.kindOf n == some .cell)=true then (n,dW) else (n,k))::_)=_
  cases hx:x == n with
  | true =>
   simp only [cQ,hx] at h
   cases h
   by_cases hc:(ck == ck && env.scope.kind == .function && env.kindOf n == some .cell)=true
   ·rw [if_pos hc];right;simp [cQ,hx]
   ·rw [if_neg hc];left;simp [cQ,hx]
  | false =>
   simp only [cQ,hx] at h
   by_cases hc:(k == ck && env.scope.kind == .function && env.kindOf n == some .cell)=true
   ·rw [if_pos hc];simp only [cQ,hx];exact ih h
   ·rw [if_neg hc];simp only [cQ,hx];exact ih h
theorem uR {env:Env}{x:Str}{names:List (Str×k9)} :
  ((names.map fun (n,k)=>if (k == ck && env.scope.kind == .function && env.kindOf n == some .cell) then (n,dW) else (n,k)).lookup x=some .free \/
  (names.map fun (n,k)=>if (k == ck && env.scope.kind == .function && env.kindOf n == some .cell) then (n,dW) else (n,k)).lookup x=some .cell) ->
  (x,ck)∈names\/(x,dW)∈names:=by
 induction names with
 | nil=>intro h;simp at h
 | cons nk r ih =>
  obtain ⟨n,k⟩:=nk
  intro h
  have h:yf x ((if (k == ck && env.scope.kind == .function && env.kindOf n == some .cell)=true then (n,dW) else (n,k))::_)=_ \/
   yf x ((if (k == ck && env.scope.kind == .function && env.kindOf n == some .cell)=true then (n,dW) else (n,k))::_)=_:=h
  cases hx:x == n with
  | true =>
   have e:x=n:=by simpa using hx
   subst e
   by_cases hc:(k == ck && env.scope.kind == .function && env.kindOf x == some .cell)=true
   ·have:k=.free:=by simp at hc;exact hc.1.1
    subst this;left;exact al
   ·rw [if_neg hc] at h;simp only [cQ,hx] at h
    rcases h with h | h
    ·cases h;left;exact al
    ·cases h;right;exact al
  | false =>
   have h':=ih (by
    by_cases hc:(k == ck && env.scope.kind == .function && env.kindOf n == some .cell)=true
    ·rw [if_pos hc] at h;simp only [cQ,hx] at h;exact h
    ·rw [if_neg hc] at h;simp only [cQ,hx] at h;exact h)
   rcases h' with h' | h'
   ·left;exact ao _ h'
   ·right;exact ao _ h'
inductive Rm (nt:Nat) (ix:List Nat) (g:TG) (tt:TT) (te:TE) (σ:St) (Q:VK) (J:It) (H1:Hp):Prop
 | mk (W:Nat->Nat->List V->Hp->Prop) (w0:∃ m,W 0 m [] H1) (turn:∀ i m acc H,W i m acc H ->
 (J.stop i H/\∀ p,H p=none->Q (.ref p) (upd H p (.lst acc))) \/
 (J.go i H/\acc.length<sizeLine/\∀ x H',J.yld i H x H'->g x (jC nt ix σ) H' fun σ2 H2=>tt σ2 H2 fun b H3 =>
  if b=true then te σ2 H3 fun y H4=>∃ m',m'<m/\W (i + 1) m' (acc++[y]) H4 else ∃ m',m'<m/\W (i + 1) m' acc H3)):Rm nt ix g tt te σ Q J H1
def Mu (nt:Nat) (ix:List Nat) (wi:TI) (g:TG) (tt:TT) (te:TE):TE:=fun σ H Q=>wi σ H (Rm nt ix g tt te σ Q)
theorem j5:∀ (names:List (Str×k9)) (n:Nat) (acc:List (Str×ag)),bh n names acc=bh n names []++acc
 | [],_,_=>rfl
 | (y,k)::r,n,acc=>by
  unfold bh
  split
  ·rw [j5 r (n + 1) ((y,n)::acc),j5 r (n + 1) [(y,n)],kc];rfl
  ·exact j5 r n acc
theorem o6 {x:Str}{c:ag}:∀ (names:List (Str×k9)) (n:Nat) (acc:List (Str×ag)),(x,c)∈bh n names acc->(x,dW)∈names\/(x,c)∈acc
 | [],_,_,h=>.inr h
 | (y,k)::r,n,acc,h=>by
  unfold bh at h
  split at h
  ·rename_i hk
   have hk:k=.cell:=by simpa using hk
   rcases o6 r _ _ h with z | z
   ·exact .inl (ao _ z)
   ·rcases List.mem_cons.mp z with z | z
    ·cases z;subst hk;exact .inl al
    ·exact .inr z
  ·exact (o6 r _ _ h).imp (ao _) id
theorem l7 {names:List (Str×k9)}{n:Nat}{cl:List (Str×ag)}{x:Str}{c:ag} (h:(bh n names cl).lookup x=some c) :
  (x,c)∈bh n names []\/((bh n names []).lookup x=none/\cl.lookup x=some c):=by
 rw [j5,Ls] at h
 cases e:(bh n names []).lookup x with
 | some d=>rw [e] at h;cases h;exact .inl (dv e)
 | none=>rw [e] at h;exact .inr ⟨rfl,h⟩
theorem Iy {M:vJ}{A:aX}{E:a8->af->Prop}{s:af}{scope:el}{globals:ag}{cl:List (Str×ag)}{qual:Str}{func:Option ag}{code:a8}{outer:Env}{builtins:ag}{Q:Env->af->Prop}
  (hQ:∀ h₁,h₁=pushCells (s.heap.push { cls:=.type "dict",data:=.dict #[] }) scope.names->Q (newEnv scope s.heap.objs.size globals (bh (s.heap.objs.size + 1) scope.names cl) qual func code (some outer) builtins) { s with heap:=h₁ }) :
  ak M A (vO scope globals cl [] qual func code (some outer) builtins) Q E s:=by
 simp only [vO,mT,if_true]
 refine a6 (P4 ?_)
 refine a6 (wpAny_layCells _ (fun name kind cells=>by cases hkc:kind == dW<;>simp [hkc]) _ _ _ _ ?_)
 rw [show ({ s with heap:=s.heap.push { cls:=.type "dict",data:=.dict #[] } }:af).heap.objs.size=s.heap.objs.size + 1 from cm ..]
 refine a6 ?_
 rw [sS]
 exact ac (ac (hQ _ rfl))
theorem B9 (h:bf) (names:List (Str×k9)):CellsOk (pushCells (h.push { cls:=.type "dict",data:=.dict #[] }) names) (h.objs.size + 1) (bh (h.objs.size + 1) names []):=by
 have ok:=cellsFrom_ok names (h.push { cls:=.type "dict",data:=.dict #[] }) (h.objs.size + 1) [] ⟨fun _ _ hm=>(nomatch hm),AT⟩ (by rw [cm];exact ar _)
 rw [cm] at ok
 exact ok
section
variable {X:Cx}{pins:List (ag×Obj)}{σ:St}{H:Hp}{s:af}
theorem DW {scope:el}{N':List Str}{nt:Nat}{ix:List Nat}{cl:List (Str×ag)}{C:ag}{fp:List ag}{h₁:bf}{t':Nat}{m:Str->Option a8}
  (S:o0 X scope N' nt ix) (I:bF X pins σ H s) (c1:∀ x c,cl.lookup x=some c->X.env.cells.lookup x=some c) (c2:∀ y∈scope.names,y.2=.free->∃ c,cl.lookup y.1=some c)
  (hf:∀ b∈fp,qI X pins H b) (ff:∀ b∈fp,b<s.heap.objs.size) (hC:s.heap.objs.size<=C) (hns:h₁.Ns C m) (old:∀ b o,s.heap.get? b=some o->h₁.get? b=some o) (ok:CellsOk h₁ (C + 1) (bh (C + 1) scope.names [])) :
  bF (cP X N' scope (bh (C + 1) scope.names cl) C s H fp (X.pn++pins)) [] (jC nt ix σ) H { s with heap:=h₁,toks:=t' }:=by
 have cellOld:∀ {c v},s.heap.IsCell c v->h₁.IsCell c v:=fun {c v} ⟨o,ho,hd⟩=>⟨o,old _ _ ho,hd⟩
 have up:∀ {x c},(x,c)∈bh (C + 1) scope.names []->s.heap.objs.size<c:=fun {x c} h=>aF (kn hC) (ok.empty x c h).2
 have low:∀ {x c},cl.lookup x=some c->c<s.heap.objs.size:=fun {x c} h=>by
  obtain ⟨v,q⟩:=I.cell x c (c1 x c h)
  exact q.lt
 refine ⟨⟨I.ok.mod,S.kind,I.ok.glob,I.ok.blt,hC,fun x y c h1 h2=>?_,fun x hx=>?_,fun x c h h2=>?_,I.ok.hd,I.ok.frames,.inl rfl,fun b hb=>⟨?_,fun x c h=>?_⟩,I.bs,bJ I.ok.bsz I.sz,fun b o h hb=>?_,fun b hb z=>?_,I.stack,I.stkFree⟩,
  rfl,I.bare,Un.kept old,⟨m,hns,fun i x v h1 h2 h3=>?_⟩,fun x c h=>?_,I.hok.fresh hC,fun x c h=>?_,fun p hp=>?_,I.hok.kept old,?_⟩
 ·rcases l7 h1 with a | ⟨_,a⟩<;>rcases l7 h2 with b | ⟨_,b⟩
  ·exact name_of_addr ok.apart a b
  ·exact absurd (up a) (xl (low b))
  ·exact absurd (up b) (xl (low a))
  ·exact I.ok.inj x y c (c1 x c a) (c1 y c b)
 ·have hx':(x,ck)∈scope.names\/(x,dW)∈scope.names:=uR (env:=X.env) (hx.elim .inr .inl)
  have hs:((bh (C + 1) scope.names cl).lookup x).isSome=true:=by
   rcases hx' with z | z
   ·obtain ⟨c,e⟩:=c2 _ z rfl
    exact fh _ _ _ (.inr (by rw [e];rfl))
   ·exact fh _ _ _ (.inl (S.cel _ z rfl))
  exact Option.isSome_iff_exists.mp hs
 ·rcases l7 h2 with a | ⟨a,_⟩
  ·exact bq (up a)
  ·have:=fh (x:=x) scope.names (C + 1) [] (.inl (by simpa [cP] using h))
   rw [a] at this;cases this
 ·exact aC (aF (ff b hb) hC)
 ·rcases l7 h with a | ⟨_,a⟩
  ·exact ej (xk (ff b hb) (up a))
  ·exact (hf b hb).f4 x c (c1 x c a)
 ·rcases (hf b hb).f3 with z | z
  ·exact I.ok.noex b o h z
  ·exact absurd (aF (am h) (bJ I.ok.bsz z)) (bW _)
 ·rcases List.mem_cons.mp (I.stkSub b z) with e | e
  ·exact (hf b hb).f1 e
  ·exact (hf b hb).f2 e
 ·have hnt:nt<=i:=by
   refine P3 fun hlt=>?_
   have h2':(jC nt ix σ)[i]?=some (some v):=h2
   unfold jC at h2'
   rw [bQ (by simpa using hlt),bO,if_pos hlt] at h2'
   cases h2'
  have h2':(jC nt ix σ)[i]?=some (some v):=h2
  unfold jC at h2'
  rw [bj (by simpa using hnt),cX,aS] at h2'
  cases e:ix[i - nt]? with
  | none=>rw [e] at h2';cases h2'
  | some j =>
   rw [e] at h2'
   have hj:σ[j]?=some (some v):=by
    have q:(σ[j]?).join=some v:=bH h2'
    cases e3:σ[j]? with
    | none=>rw [e3] at q;cases q
    | some o=>rw [e3] at q;cases o with
     | none=>cases q
     | some v'=>cases q;rfl
   obtain ⟨x',n1,n2,fr⟩:=S.cap _ _ e
   rw [Nat.add_sub_cancel' hnt] at n2
   have h1':N'[i]?=some x:=h1
   rw [h1'] at n2
   cases n2
   obtain ⟨mm,hn,hl⟩:=I.loc
   have hfree:=S.free (x,.free) (dv fr) rfl
   obtain ⟨u,r,l⟩:=hl j x v n1 hj (hfree.elim (fun z=>.inr (.inl z)) fun z=>.inr (.inr z))
   refine ⟨u,r,?_⟩
   rcases l with ⟨k,_⟩ | ⟨k,c,hc,hcell⟩
   ·have k:X.env.scope.names.lookup x=some .local:=k
    rcases hfree with z | z<;>(rw [z] at k;cases k)
   ·obtain ⟨c',hc'⟩:=c2 _ (dv fr) rfl
    have:=c1 x c' hc'
    rw [hc] at this
    cases this
    have hno:(bh (C + 1) scope.names []).lookup x=none:=by
     cases e:(bh (C + 1) scope.names []).lookup x with
     | none=>rfl
     | some d =>
      rcases o6 _ _ _ (dv e) with z | z
      ·have q:=S.cel _ z rfl
       rw [fr] at q;cases q
      ·cases z
    refine .inr ⟨?_,c,by show (bh (C + 1) scope.names cl).lookup x=some c;rw [j5,Ls,hno];exact hc',cellOld hcell⟩
    rcases sK (env:=X.env) fr with z | z
    ·exact .inr z
    ·exact .inl z
 ·rcases l7 h with a | ⟨_,a⟩
  ·exact ⟨none,(ok.empty x c a).1⟩
  ·obtain ⟨v,q⟩:=I.cell x c (c1 x c a)
   exact ⟨v,cellOld q⟩
 ·rcases l7 h with a | ⟨_,a⟩
  ·exact I.hok.fresh (bq (up a))
  ·exact I.freeC x c (c1 x c a)
 ·have hp:p∈X.pn++pins:=(List.mem_append.mp hp).elim id fun z=>absurd z (by simp)
  obtain ⟨e,n,ne,nf,d⟩:=I.pin p hp
  refine ⟨old _ _ e,n,aC (aF (am e) hC),fun z=>?_,d⟩
  rcases List.mem_cons.mp (I.stkSub p.1 z) with e | e
  ·exact ne e
  ·exact nf e
 ·show (jC nt ix σ).length=N'.length
  rw [S.len];simp [jC]
end
end
section
theorem Un.grow {fs ex:List ag}{H H1:Hp}{h h1 h2:bf} (u:Un fs ex H H1 h h1) {C D:ag}{o:HO} (sb:bI C h1 h2) (hC:h.objs.size<=C) (hD:h.objs.size<=D) (hn:H1 D=none):Un fs ex H (upd H1 D o) h h2 where
 keep:=fun b ob q n hb hx=>(sb.2 b (aC (aF (am q) hC))).trans (u.keep b ob q n hb hx)
 slot:=fun b ob q n hb hx=>by
  obtain ⟨sl,e⟩:=u.slot b ob q n hb hx
  exact ⟨sl,(sb.2 b (aC (aF (am q) hC))).trans e⟩
 free:=fun b ob q n hx=>by rw [b6 (aC (aF (am q) hD))];exact u.free b ob q n hx
 there:=fun b ob q hx=>by
  obtain ⟨o',e⟩:=u.there b ob q hx
  exact ⟨o',(sb.2 b (aC (aF (am q) hC))).trans e⟩
 tups:=fun b xs q=>by have z:=u.tups b xs q;rw [b6 (bn z hn)];exact z
 frzs:=fun b ob xs q=>by have z:=u.frzs b ob xs q;rw [b6 (bn z hn)];exact z
 tbls:=fun b ps q=>by
  obtain ⟨m,z⟩:=u.tbls b ps q
  exact ⟨m,by rw [b6 (bn z hn)];exact z⟩
theorem yA {P:aI}{w:ba}{H:Hp}{h h':bf}{C:ag} (k:qo P w H h) (hC:H C=none) (sb:bI C h h'):qo P w H h':=fun b ob e=>by
 refine (k b ob e).stay (fun c w' hc q=>(sb.2 c ?_).trans q) (fun _ q=>q) fun _ _ q=>q
 rintro rfl
 rcases hc with rfl | hc
 ·rw [hC] at e;cases e
 ·rw [hC] at hc;cases hc
theorem rT {P:aI}{w:ba}{H:Hp}{h:bf}{D:ag}{o:HO} (k:qo P w H h) (hD:H D=none) (new:dn P w (upd H D o) h D o):qo P w (upd H D o) h:=fun b ob e=>by
 by_cases hb:b=D
 ·subst hb;rw [aV] at e;cases e;exact new
 ·rw [b6 hb] at e
  exact (k b ob e).stay (fun c w' hc q=>q) (fun c q=>by rw [b6 (bn q hD)];exact q) fun c x q=>by rw [b6 (bn q hD)];exact q
theorem nf {M:vJ}{A:aX}{α:Type}{t:Sem α}{Q:α->af->Prop}{E':a8->af->Prop}{s:af} (h:ak M A t Q (fun _ _=>False) s):ak M A t Q E' s :=
 bc h (fun _ _ q=>q) fun _ _ f=>f.elim
theorem bF.pin1 {X:Cx}{σ:St}{H:Hp}{s:af}{D:ag}{o:Obj} (I:bF X [] σ H s) (e:s.heap.get? D=some o) (n:H D=none) (ne:D≠X.env.locals) (nf:D∉X.fs) (d:∀ v,o.data≠.cell v):bF X [(D,o)] σ H s :=
 I.pins_of fun p hp=>by
  have:p=(D,o):=by simpa using hp
  subst this
  exact ⟨e,n,ne,nf,d⟩
def Rn (nt:Nat) (g:TG):Prop:=∀ x σ0 H (Q:St->Hp->Prop),g x σ0 H Q->g x σ0 H (fun σ2 H2=>Q σ2 H2/\σ2.length=σ0.length/\∀ j,nt<=j->σ2[j]?=σ0[j]?)
theorem Mv {nt i:Nat} (h:i<nt):Rn nt (wN i):=fun x σ0 H Q q=>⟨q,by simp,fun j hj=>aj (by omega)⟩
theorem PV {nt i k n:Nat}{K:a7} (h:i<nt) (h':k<nt):Rn nt (Ss K n (aa (wN i) (aa (wN k) aA))):=by
 rintro x σ0 H Q ⟨a,xs,rfl,sq,hl,v,r,rfl,v',r',rfl,rfl,q⟩
 exact ⟨a,_,rfl,sq,hl,v,_,rfl,v',_,rfl,rfl,q,by simp,fun j hj=>by rw [aj (by omega),aj (by omega)]⟩
inductive Xm (X:Cx) (pins:List (ag×Obj)) (N':List Str) (scope:el) (cl:List (Str×ag)) (C:ag) (s2:af) (H2:Hp) (fp:List ag) (nt:Nat) (ix:List Nat) (σ:St) (tn:Nat->bf->Prop) (W:Nat->Nat->List V->Hp->Prop) (n:Nat) (s':af):Prop
 | mk (i:Nat) (acc:List V) (its:List a8) (nn:Nat) (H':Hp) (I:bF (cP X N' scope cl C s2 H2 fp (X.pn++pins)) [(s2.heap.objs.size,{ cls:=.type "list",data:=.seq its.toArray nn })] (jC nt ix σ) H' s') (v:cV acc its) (l:acc.length<=sizeLine) (t:tn i s'.heap) (f:∀ b∈fp,H' b=none) (w:W i n acc H'):Xm X pins N' scope cl C s2 H2 fp nt ix σ tn W n s'
theorem yB {X:Cx}{elt tg iter:b9}{ifs:List b9}{scope:el}{pos:Pos}{g:TG}{tt:TT}{te:TE}{N':List Str}{nt:Nat}{ix:List Nat}
  (hc:X.calm=true) (S:o0 X scope N' nt ix) (lo:Rn nt g)
  (hb:∀ cl C s₀ H₀ ex pn,PG (cP X N' scope cl C s₀ H₀ ex pn) tg g/\OX (cP X N' scope cl C s₀ H₀ ex pn) ifs tt/\PE (cP X N' scope cl C s₀ H₀ ex pn) elt te)
  {cl:List (Str×ag)} (c1:∀ x c,cl.lookup x=some c->X.env.cells.lookup x=some c) (c2:∀ y∈scope.names,y.2=.free->∃ c,cl.lookup y.1=some c)
  {pins:List (ag×Obj)}{σ:St}{H2:Hp}{s2:af}{it:ag}{fp:List ag}{tn:Nat->bf->Prop}{J:It}{Q:VK}{E:a8->af->Prop}
  (I2:bF X pins σ H2 s2) (T:Am X.prog X.w X.K tg J fp it tn) (st2:tn 0 s2.heap) (f2:∀ b∈fp,qI X pins H2 b)
  {W:Nat->Nat->List V->Hp->Prop} (w0:∃ m,W 0 m [] H2)
  (turn:∀ i m acc H,W i m acc H->(J.stop i H/\∀ p,H p=none->Q (.ref p) (upd H p (.lst acc))) \/
   (J.go i H/\acc.length<sizeLine/\∀ x H',J.yld i H x H'->g x (jC nt ix σ) H' fun σ2 H2=>tt σ2 H2 fun b H3 =>
    if b=true then te σ2 H3 fun y H4=>∃ m',m'<m/\W (i + 1) m' (acc++[y]) H4 else ∃ m',m'<m/\W (i + 1) m' acc H3))
  {RR:a8->ag->vL->af->Prop}
  (hRR:∀ D C m s' (acc:List V) H',H' D=none->qI X pins (upd H' D (.lst acc)) C->Q (.ref D) (upd H' D (.lst acc))->s'.heap.Ns C m->(∀ h',bI C s'.heap h'->bF X pins σ (upd H' D (.lst acc)) { s' with heap:=h' })->RR (.ref D) C (.ok .next) s') :
  ak (aE X.prog X.w) X.A (newList []) (fun acc s₃=>ak (aE X.prog X.w) X.A (vO scope X.env.globals cl [] X.env.qual none .none (some X.env)) (fun cenv s₄ =>
   ia (aE X.prog X.w) X.A (.compStart (.ListComp elt [⟨tg,iter,ifs,0⟩] scope pos) 0 (.ref it) acc { cenv with scope:=relabel scope X.env }) (RR acc cenv.locals) s₄) E s₃) E s2:=by
 refine bL (Iy fun h₁ hh₁=>?_)
 dsimp only at hh₁ ⊢
 generalize hG2:s2.heap.push { cls:=.type "list",dict:=none,data:=.seq ([] : List a8).toArray }=G2 at hh₁ ⊢
 have hC:G2.objs.size=s2.heap.objs.size + 1:=by rw [<- hG2,cm]
 have hDC:s2.heap.objs.size≠G2.objs.size:=by rw [hC];exact aC (fV _)
 have hCle:s2.heap.objs.size<=G2.objs.size:=by rw [hC];exact ib _
 have below:∀ b,b<s2.heap.objs.size->b≠G2.objs.size:=fun b hb=>by rw [hC];exact aC (gR hb)
 have kp:∀ b o,G2.get? b=some o->h₁.get? b=some o:=fun b o e=>by rw [hh₁];exact uw _ _ b o (ae _ e)
 have hns₁:h₁.Ns G2.objs.size (fun _=>none):=by rw [hh₁];exact (Heap.Ns.new G2 (.type "dict")).keeps (uw _ _)
 have ok₁:CellsOk h₁ (G2.objs.size + 1) (bh (G2.objs.size + 1) scope.names []):=by rw [hh₁];exact B9 G2 scope.names
 have cne:∀ x c,(bh (G2.objs.size + 1) scope.names cl).lookup x=some c->X.env.cells.lookup x=some c\/s2.heap.objs.size<c:=fun x c e=>by
  rcases l7 e with a | ⟨_,a⟩
  ·exact .inr (aF (kn hCle) (ok₁.empty x c a).2)
  ·exact .inl (c1 x c a)
 have old:∀ b o,s2.heap.get? b=some o->h₁.get? b=some o:=fun b o e=>kp b o (hG2 ▸ ae _ e)
 have hacc:h₁.get? s2.heap.objs.size=some { cls:=.type "list",dict:=none,data:=.seq ([] : List a8).toArray }:=kp _ _ (hG2 ▸ aG _ rfl)
 have ff:∀ b∈fp,b<s2.heap.objs.size:=fun b hb=>by
  obtain ⟨o,e,_⟩:=T.obj _ _ st2 b hb
  exact am e
 have I3:bF (cP X N' scope (bh (G2.objs.size + 1) scope.names cl) G2.objs.size s2 H2 fp (X.pn++pins)) [] (jC nt ix σ) H2 { s2 with heap:=h₁,toks:=s2.toks }:=DW S I2 c1 c2 f2 ff hCle hns₁ old ok₁
 obtain ⟨pg,pt,pe⟩:=hb (bh (G2.objs.size + 1) scope.names cl) G2.objs.size s2 H2 fp (X.pn++pins)
 have hDfs:s2.heap.objs.size∉oB X.stack:=fun z=>by
  rcases List.mem_cons.mp (I2.stkSub _ z) with e | e
  ·exact absurd I2.lt (by rw [<- e];exact bW _)
  ·exact I2.nofs (ar _) e
 have nod:∀ (its:List a8) (n:Nat) v,({ cls:=.type "list",data:=.seq its.toArray n }:Obj).data≠.cell v:=fun _ _ _ z=>nomatch z
 have st1:tn 0 h₁:=T.keep _ _ _ st2 fun b _ o e=>old b o e
 have hDf:s2.heap.objs.size∉fp:=fun z=>absurd (ff _ z) (bW _)
 have stat:∀ {H':Hp}{pl:List (ag×Obj)},(∀ p∈pl,p.1∉fp)->(∀ b∈fp,H' b=none)->∀ b∈fp,qI (cP X N' scope (bh (G2.objs.size + 1) scope.names cl) G2.objs.size s2 H2 fp (X.pn++pins)) pl H' b:=fun hpl hn b hb=>by
  obtain ⟨f0,f1,f2',f3,f4,f5⟩:=f2 b hb
  refine ⟨hn b hb,below b (ff b hb),fun z=>?_,.inl hb,fun x c e=>(cne x c e).elim (f4 x c) fun q z=>xl q (by rw [z];exact ff b hb),fun p hp z=>?_⟩
  ·rcases List.mem_cons.mp (I2.stkSub _ z) with e | e
   ·exact f1 e
   ·exact f2' e
  ·rcases List.mem_append.mp hp with q | q
   ·exact f5 p q z
   ·exact hpl p q (z ▸ hb)
 obtain ⟨m0,w0⟩:=w0
 have loop:ia (aE X.prog X.w) X.A (.compLoop (.ListComp elt [⟨tg,iter,ifs,0⟩] scope pos) 0 (.ref it) (.ref s2.heap.objs.size) (compEnvC scope (bh (G2.objs.size + 1) scope.names cl) G2.objs.size X.env))
    (RR (.ref s2.heap.objs.size) G2.objs.size) { s2 with heap:=h₁,toks:=s2.toks }:=by
  refine Cd (Xm X pins N' scope (bh (G2.objs.size + 1) scope.names cl) G2.objs.size s2 H2 fp nt ix σ tn W) ?_ m0
   ⟨0,[],[],0,H2,I3.pin1 hacc (I2.hok.fresh (ar _)) hDC hDfs (nod _ _),.nil,eB _,st1,fun b hb=>(f2 b hb).1,w0⟩
  rintro n s3 ⟨i,acc,its,nn,H3,J3,rv,hz,st3,fr3,w3⟩
  have plD:∀ p∈[(s2.heap.objs.size,({ cls:=.type "list",data:=.seq its.toArray nn }:Obj))],p.1∉fp:=fun p hp=>by
   have:p=(s2.heap.objs.size,({ cls:=.type "list",data:=.seq its.toArray nn }:Obj)):=by simpa using hp
   rw [this];exact hDf
  rcases turn i n acc H3 w3 with ⟨stop,qn⟩ | ⟨go,hlt,step⟩
  ·refine fW (T.done (cP X N' scope (bh (G2.objs.size + 1) scope.names cl) G2.objs.size s2 H2 fp (X.pn++pins)) rfl rfl rfl hc i _ s3 _ H3 _ J3 (stat plD fr3) st3 stop) fun r s4 h_0=>?_
   obtain ⟨hr,I4⟩:=h_0
   subst hr
   obtain ⟨pD,pN,_⟩:=I4.pin (s2.heap.objs.size,_) (aY _ (List.mem_singleton.mpr rfl))
   obtain ⟨mm,hn,_⟩:=I4.loc
   have hCn:H3 G2.objs.size=none:=I4.free
   refine hRR _ _ mm s4 acc H3 pN (I2.fpOk hCle (by rw [b6 (dh hDC)];exact hCn)) (qn _ pN) hn fun h' sb=>?_
   have hu:Un (oB X.stack) fp H2 (upd H3 s2.heap.objs.size (.lst acc)) s2.heap h':=Un.grow I4.base sb hCle (ar _) pN
   refine I2.call' (s':={ s4 with heap:=h' }) (ch:=fp) I4.os hu ?_ I4.bare fun b hb=>?_
   ·refine rT (yA I4.hok hCn sb) pN ⟨hz,its,nn,rv,(sb.2 _ hDC).trans pD⟩
   ·obtain ⟨_,f1,_,f3,f4,f5⟩:=f2 b hb
    exact ⟨f3,f1,f4,f5⟩
  ·refine fW (T.item (cP X N' scope (bh (G2.objs.size + 1) scope.names cl) G2.objs.size s2 H2 fp (X.pn++pins)) rfl rfl rfl hc i _ s3 _ H3 _ J3 (stat plD fr3) st3 go) fun r s4 h_1=>?_
   obtain ⟨u,hr,h4⟩:=h_1
   subst hr
   refine fW h4 fun _ s5 h_2=>?_
   obtain ⟨x,H5,I5,r5,y5,st5,fr5⟩:=h_2
   have I5':=I5.pinned (stat plD fr5) (T.obj _ _ st5)
   refine fW (pg _ s5 _ H5 x u _ I5' r5 (lo _ _ _ _ (step x H5 y5))) fun _ s6 h_3=>?_
   obtain ⟨σ6,H6,I6,q6,l6,k6⟩:=h_3
   have hw:∀ (j:Nat) v,(jC nt ix σ)[j]?=some (some v)->σ6[j]?=some (some v):=fun j v e=>by
    by_cases hj:nt<=j
    ·rw [k6 j hj];exact e
    ·unfold jC at e
     rw [bQ (by simpa using hj),bO,if_pos (by omega)] at e
     cases e
   refine fW (pt _ s6 σ6 H6 _ I6 q6) fun b s7 h_4=>?_
   obtain ⟨H7,I7,q7⟩:=h_4
   have fpk:∀ {s8:af}{σ8:St}{H8:Hp},bF (cP X N' scope (bh (G2.objs.size + 1) scope.names cl) G2.objs.size s2 H2 fp (X.pn++pins)) ([(s2.heap.objs.size,{ cls:=.type "list",data:=.seq its.toArray nn })]++vW fp s5.heap) σ8 H8 s8 ->
     tn (i + 1) s8.heap/\∀ b∈fp,H8 b=none:=fun {s8 σ8 H8} I8=>by
    refine ⟨T.keep _ _ _ st5 fun b hb o e=>(I8.pin (b,o) (aY _ (aY _ (kq hb e)))).1,fun b hb=>?_⟩
    obtain ⟨o,e,d⟩:=T.obj _ _ st5 b hb
    exact (I8.pin (b,o) (aY _ (aY _ (kq hb e)))).2.1
   cases b with
   | false =>
    simp only [c8,if_false] at q7 ⊢
    obtain ⟨m',hm,w7⟩:=q7
    obtain ⟨t7,f7⟩:=fpk I7
    exact ⟨m',hm,i + 1,acc,its,nn,H7,(I7.weak l6.symm hw).unpinned,rv,hz,t7,f7,w7⟩
   | true =>
    simp only [if_true] at q7 ⊢
    refine fW (pe _ s7 σ6 H7 _ I7 q7) fun u8 s8 h_5=>?_
    obtain ⟨y,H8,I8,r8,m',hm,w8⟩:=h_5
    obtain ⟨t8,f8⟩:=fpk I8
    obtain ⟨pD,pN,_⟩:=I8.pin (s2.heap.objs.size,_) (aY _ (gN _ (List.mem_singleton.mpr rfl)))
    have hl:=rv.length
    refine wpAny_list_append_plain ⟨nn,pD⟩ (hsz:=by rw [aH];omega) ?_
    intro h9 pl9 sb9
    obtain ⟨n9,e9⟩:=pl9
    have e9':h9.get? s2.heap.objs.size=some { cls:=.type "list",data:=.seq (its++[u8]).toArray n9 }:=by rw [e9];simp
    refine ⟨m',hm,i + 1,acc++[y],its++[u8],n9,H8,?_,rv.append (.cons r8 .nil),by rw [aL,gd];omega,T.keep _ _ _ t8 fun b hb o e=>sb9.extBut b o (fun z=>hDf (z ▸ hb)) e,f8,w8⟩
    have I8':bF (cP X N' scope (bh (G2.objs.size + 1) scope.names cl) G2.objs.size s2 H2 fp (X.pn++pins)) [] (jC nt ix σ) H8 s8:=(I8.weak l6.symm hw).pins_of fun p hp=>absurd hp (by simp)
    have I9:bF (cP X N' scope (bh (G2.objs.size + 1) scope.names cl) G2.objs.size s2 H2 fp (X.pn++pins)) [] (jC nt ix σ) H8 { s8 with heap:=h9,toks:=s8.toks } :=
     I8'.turned (it:=s2.heap.objs.size) (fun b o hb e=>sb9.extBut b o hb e) pN hDC (.inr (ar _)) (fun x c e z=>by
      rcases cne x c e with e | e
      ·obtain ⟨v,q⟩:=I2.cell x c e
       exact absurd q.lt (by rw [z];exact bW _)
      ·exact absurd e (by rw [z];exact bW _)) fun p hp z=>by
      have hp:p∈X.pn++pins:=(List.mem_append.mp hp).elim id fun z=>absurd z (by simp)
      exact absurd (am (I2.pin p hp).1) (by rw [z];exact bW _)
    exact I9.pin1 e9' pN hDC hDfs (nod _ _)
 exact codeAny_compStart_list loop (T.self _ 0 _ _ _ st1 loop)
end
section
theorem DX {X:Cx}{elt tg iter:b9}{ifs:List b9}{scope:el}{pos:Pos}{wi:TI}{g:TG}{tt:TT}{te:TE}{N':List Str}{nt:Nat}{ix:List Nat}
  (hc:X.calm=true) (S:o0 X scope N' nt ix) (lo:Rn nt g) (hi:PI X tg iter wi)
  (hb:∀ cl C s₀ H₀ ex pn,PG (cP X N' scope cl C s₀ H₀ ex pn) tg g/\OX (cP X N' scope cl C s₀ H₀ ex pn) ifs tt/\PE (cP X N' scope cl C s₀ H₀ ex pn) elt te)
  (hs:∀ x,eE iter X.env x=pure x:=by intro _;rfl):PE X (.ListComp elt [⟨tg,iter,ifs,0⟩] scope pos) (Mu nt ix wi g tt te):=by
 intro pins s σ H Q I h
 obtain ⟨cl,hcl,c1,c2⟩:=tR (scope:=scope) (env:=X.env) fun y hy hf=>I.ok.has y.1 (S.free y hy hf)
 rw [eval_ListComp]
 refine qB (use:=none) rfl hs hcl S.kind S.loc (fW (hi pins s σ H _ I h) fun v s1 h1=>fW h1 fun itv s2 h2=>?_)
 obtain ⟨it,fp,tn,J,H2,e,I2,T,st2,f2,W,w0,turn⟩:=h2
 subst e
 refine yB (RR:=fun acc C=>compPost (aE X.prog X.w) X.A X.xe none (EP X pins σ Q) acc C) hc S lo hb c1 c2 I2 T st2 f2 w0 turn ?_
 intro D C m s' acc H' hD _ q hn hI
 exact ⟨m,hn,fun h' sb=>⟨.ref D,_,hI h' sb,rfl,q⟩⟩
def Uq (i:Nat) (te:TE):TS:=fun D σ H=>te σ H fun x H1=>D.nx (σ.set i (some x)) H1
theorem Gz {X:Cx}{elt tg iter:b9}{ifs:List b9}{scope:el}{pos spos py:Pos}{wi:TI}{g:TG}{tt:TT}{te:TE}{N':List Str}{nt:Nat}{ix:List Nat}{i:Nat}{y:Str}
  (hN:X.N.Nodup) (hiN:X.N[i]?=some y) (hy:X.env.scope.names.lookup y=some .local)
  (hc:X.calm=true) (S:o0 X scope N' nt ix) (lo:Rn nt g) (hi:PI X tg iter wi)
  (hb:∀ cl C s₀ H₀ ex pn,PG (cP X N' scope cl C s₀ H₀ ex pn) tg g/\OX (cP X N' scope cl C s₀ H₀ ex pn) ifs tt/\PE (cP X N' scope cl C s₀ H₀ ex pn) elt te)
  (hsw:ig (.ListComp elt [⟨tg,iter,ifs,0⟩] scope pos) (some (.Name y py)) spos.line X.env=pure true:=by rfl)
  (hs:∀ x,eE iter X.env x=pure x:=by intro _;rfl):PS X (.Assign [.Name y py] (.ListComp elt [⟨tg,iter,ifs,0⟩] scope pos) spos) (Uq i (Mu nt ix wi g tt te)):=by
 intro pins s σ H D I h
 obtain ⟨cl,hcl,c1,c2⟩:=tR (scope:=scope) (env:=X.env) fun y hy hf=>I.ok.has y.1 (S.free y hy hf)
 rw [exec_Assign_Name_used _ _ _ _ hsw]
 refine a6 (dk (a6 ?_))
 show ak _ X.A (do let _ <- comprehension (.ListComp elt [⟨tg,iter,ifs,0⟩] scope pos) scope X.env _ (newList []) false (da iter X.env) (some (qz (.Name y py) X.env))) _ _ s
 refine a6 (bc (qB (use:=some (qz (.Name y py) X.env)) (Q:=fun _ s'=>SP X pins D .next s') rfl hs hcl S.kind S.loc
  (fW (hi pins s σ H _ I h) fun v s1 h1=>fW h1 fun itv s2 h2=>?_)) (fun _ s' hq=>ac (ac hq)) fun _ _ e=>e)
 obtain ⟨it,fp,tn,J,H2,e,I2,T,st2,f2,W,w0,turn⟩:=h2
 subst e
 refine yB (Q:=fun x H1=>D.nx (σ.set i (some x)) H1) (RR:=fun acc C=>compPost (aE X.prog X.w) X.A X.xe (some (qz (.Name y py) X.env)) (fun _ s'=>SP X pins D .next s') acc C) hc S lo hb c1 c2 I2 T st2 f2 w0 turn ?_
 intro L C m s' acc H' hD fC q hn hI
 show ak _ X.A (qz (.Name y py) X.env (.ref L)) _ _ _
 have I3:bF X pins σ (upd H' L (.lst acc)) s':=hI s'.heap (.refl ..)
 refine wpAny_assign_Name (AZ I3 hN hiN (.inl hy) (v:=.ref L) rfl (fun s4 I4 ⟨a,sb,ha⟩=>?_) (.inr hy))
 obtain ⟨g0,g1,g2,g3,g4,g5⟩:=fC
 have hCa:C≠a:=by
  rcases ha with z | z
  ·rw [z];exact g1
  ·exact fun e=>g4 y a z e.symm
 refine ⟨m,hn.sameBut sb hCa,fun h5 sb5=>?_⟩
 exact ⟨_,_,I4.turned (t':=s4.toks) (fun b o hb e=>(sb5.2 b hb).trans e) g0 g1 g3 g4 g5,q⟩
end
section
def ka (e:Int×a8):Str:=match e.2 with
 | .str x _=>x
 | _=>⟨#[]⟩
def tS (w:ba) (e:Int×a8):Prop:=∃ x tk,e=(hashStr w x,jE x tk)
structure cW (w:ba) (h:bf) (a:ag) (es:Array (Int×a8)) (ep:Nat) (t:eF):Prop where
 at_:h.get? a=some { cls:=.type "set",dict:=none,data:=.set es ep t }
 txt:∀ e∈es.toList,tS w e
 nd:(es.toList.map ka).Nodup
 few:es.size<iX
 fits:t.fits es.size=true
 led:t.led=!w.params.followText "set-order"
 pl:es.size=0\/t.plain=false
inductive lw (w:ba) (h:bf) (a:ag) (ss:List Str):Prop
 | mk (es ep t:_) (h0:cW w h a es ep t) (h1:(es.toList.map ka).Perm ss):lw w h a ss
theorem GA (t:eF) (es:Array (Int×a8)) (h:Int) (x:a8):(layNew t es h x).2.1.led=t.led:=by
 unfold layNew
 cases t.freeSlot h with
 | none=>rfl
 | some p =>
  obtain ⟨slot,d⟩:=p
  show ((t.put slot).1.orStandIn _).led=_
  unfold FM
  split<;>rfl
theorem Ce (t:eF) (es:Array (Int×a8)) (h:Int) (x:a8):t.plain=false->(layNew t es h x).2.1.plain=false:=by
 intro hp
 unfold layNew
 cases t.freeSlot h with
 | none=>rfl
 | some p =>
  obtain ⟨slot,d⟩:=p
  show ((t.put slot).1.orStandIn _).plain=_
  unfold FM
  split
  ·exact hp
  ·rfl
theorem DY {t t':eF}{hs:Array Int}{n:Nat}{o:Array Nat} (h:t.relaid hs n=some (t',o)):t'.led=t.led/\t'.plain=t.plain:=by
 unfold JL A9 at h
 cases e:ux (cn n - 1) hs with
 | none=>rw [e] at h;cases h
 | some ow =>
  rw [e] at h
  have h:=bH h
  have h1:=congrArg Prod.fst h
  subst h1
  exact ⟨rfl,rfl⟩
theorem Ka (t:eF) (es:Array (Int×a8)) (n:Nat):(vP t es n).2.1.led=t.led/\(t.plain=false->(vP t es n).2.1.plain=false):=by
 unfold vP
 cases e:t.relaid (es.map (·.1)) n with
 | none=>exact ⟨rfl,fun _=>rfl⟩
 | some p =>
  obtain ⟨t',o⟩:=p
  obtain ⟨h1,h2⟩:=DY e
  dsimp only
  split
  ·exact ⟨h1,fun h=>h2.trans h⟩
  ·exact ⟨rfl,fun _=>rfl⟩
theorem Mw {w:ba}{P:aI}{l:List (Int×a8)} (h:∀ e∈l,tS w e):ElemsOf (strKind P w) l:=fun e he=>by
 obtain ⟨x,tk,rfl⟩:=h e he
 exact ⟨⟨x,by simp [PySem.strKind,uu],rfl⟩,rfl⟩
theorem VQ (P:aI) (w:ba) (x:Str) (tk:Tok):(strKind P w).is x (.str x tk)=true:=by simp [PySem.strKind,uu]
theorem Iz {P:aI}{w:ba}{e:Int×a8} (h:tS w e) (x:Str):(strKind P w).is x e.2=true↔ka e=x:=by
 obtain ⟨y,tk,rfl⟩:=h
 constructor
 ·intro q
  have:=(strKind P w).inj _ _ _ q (VQ P w y tk)
  rw [this];rfl
 ·rintro rfl
  exact VQ P w _ tk
section
variable {P:aI}{w:ba}{A:aX}{E:a8->af->Prop}{s:af}
theorem rV {h:bf}{a:ag}{es es':Array (Int×a8)}{ep:Nat}{t t':eF} (I:cW w h a es ep t):(h.update a (qC es' t')).get? a=some { cls:=.type "set",dict:=none,data:=.set es' (ep + 1) t' }:=by
 have q:=gf (qC es' t') I.at_ rfl
 exact q
theorem Ba {a:ag}{ss:List Str}{x:Str}{tk:Tok}{Q:Bool->af->Prop} (hS:lw w s.heap a ss) (hr:ss.length + 1<iX)
  (h:∀ h' tk',bI a s.heap h'->lw w h' a (if x∈ss then ss else ss++[x])->Q (!decide (x∈ss)) { s with heap:=h',toks:=tk' }) :
  ak (aE P w) A (setAddHashed a (.str x tk) ((strKind P w).hash x)) Q E s:=by
 obtain ⟨es,ep,t,I,pm⟩:=hS
 have hlen:es.size=ss.length:=by rw [<- pm.length_eq,ay,aq]
 have hel:ElemsOf (strKind P w) es.toList:=Mw I.txt
 unfold setAddHashed setAddHashedIn
 refine c7 (a6 (bB (s:=s) I.at_ rfl I.fits ?_))
 dsimp only
 rw [byScan_of rfl I.few hel]
 rw [if_pos rfl]
 unfold setAddByScan
 refine a6 (a6 (gG (a6 (wpAny_setScan_of (s:=s) (VQ P w x tk) I.at_ rfl I.fits hel ?_))))
 have inmem:x∈ss↔∃ e∈es.toList,(strKind P w).is x e.2=true:=by
  rw [<- pm.mem_iff,List.mem_map]
  constructor
  ·rintro ⟨e,he,q⟩;exact ⟨e,he,(Iz (I.txt e he) x).mpr q⟩
  ·rintro ⟨e,he,q⟩;exact ⟨e,he,(Iz (I.txt e he) x).mp q⟩
 cases hf:List.findIdx? (fun e=>(strKind P w).is x e.2) es.toList with
 | some j =>
  obtain ⟨hj,hp,_⟩:=List.findIdx?_eq_some_iff_getElem.mp hf
  have hin:x∈ss:=inmem.mpr ⟨_,g_ hj,hp⟩
  have q:=h s.heap s.toks (.refl ..) (by rw [if_pos hin];exact ⟨es,ep,t,I,pm⟩)
  rw [decide_eq_true hin] at q
  exact ac (ac q)
 | none =>
  have hout:x∉ss:=fun z=>by
   obtain ⟨e,he,q⟩:=inmem.mp z
   rw [List.findIdx?_eq_none_iff.mp hf e he] at q
   cases q
  have h:=fun h' tk' sb=>h h' tk' sb
  rw [decide_eq_false hout,if_neg hout] at h
  have p1:=layNew_perm t es ((strKind P w).hash x) (.str x tk)
  have f1:=layNew_fits t es ((strKind P w).hash x) (.str x tk)
  have l1:=GA t es ((strKind P w).hash x) (.str x tk)
  have q1:=Ce t es ((strKind P w).hash x) (.str x tk)
  generalize layNew t es ((strKind P w).hash x) (.str x tk)=L at p1 f1 l1 q1 ⊢
  obtain ⟨es1,t1,wd,gv⟩:=L
  dsimp only at p1 f1 l1 q1 ⊢
  rw [Lu] at p1
  have tx1:∀ e∈es1.toList,tS w e:=fun e he=>by
   rcases List.mem_append.mp (p1.mem_iff.mp he) with z | z
   ·exact I.txt e z
   ·rw [eU] at z;exact ⟨x,tk,z⟩
  have km:(es1.toList.map ka).Perm (ss++[x]):=(p1.map ka).trans (by rw [b_];exact pm.append_right _)
  have nd1:(ss++[x]).Nodup:=by
   rw [LN]
   exact ⟨pm.nodup_iff.mp I.nd,by simp,fun y hy z hz e=>hout (by rw [eU] at hz;rw [<- hz,<- e];exact hy)⟩
  have sz1:es1.size=es.size + 1:=by rw [<- aq,p1.length_eq,aL,aq];rfl
  have few1:es1.size<iX:=by omega
  have gw:∀ (b:Bool) {s₁:af}{Q':Unit->af->Prop},Q' () s₁->ak (aE P w) A (match b with | true=>rule "set.scan.the-table-gave-way" | false=>pure ()) Q' E s₁ :=
   fun b _ _ z=>by cases b<;>first | exact ac z | exact gG z
  have tail:∀ t2:eF,t2.fits es1.size=true->t2.led=t.led->t2.plain=false->ak (aE P w) A (do
    storeSet a es1 t2
    if (!wd && t2.tooFull)=true then do
      (match (vP t2 es1 (ir es1.size)).2.2 with | true=>rule "set.scan.the-table-gave-way" | false=>pure ())
      storeSet a (vP t2 es1 (ir es1.size)).1 (vP t2 es1 (ir es1.size)).2.1
      pure (some true)
     else pure (some true)) (fun r s'=>r=some true/\Q true s') E s:=fun t2 f2 l2 n2=>by
   refine a6 (j0 (s:=s) I.at_ rfl ?_ (fA few1))
   have at1:=rV (es':=es1) (t':=t2) I
   have sb1:=bU s.heap a (qC es1 t2)
   have I1:cW w (s.heap.update a (qC es1 t2)) a es1 (ep + 1) t2:=⟨at1,tx1,km.nodup_iff.mpr nd1,few1,f2,l2.trans I.led,.inr n2⟩
   split
   ·have p2:=relayAll_perm t2 es1 (ir es1.size)
    have f3:=relayAll_fits t2 es1 (ir es1.size)
    have l3:=Ka t2 es1 (ir es1.size)
    generalize vP t2 es1 (ir es1.size)=R3 at p2 f3 l3 ⊢
    obtain ⟨es2,t3,gv2⟩:=R3
    dsimp only at p2 f3 l3 ⊢
    have few2:es2.size<iX:=by rw [<- aq,p2.length_eq,aq];exact few1
    have km2:=(p2.map ka).trans km
    refine a6 (gw _ (a6 (j0 (s:={ s with heap:=s.heap.update a (qC es1 t2) }) I1.at_ rfl ?_ (fA few2))))
    refine ac ⟨rfl,h _ _ (sb1.trans (bU _ a _)) ⟨es2,ep + 1 + 1,t3,⟨rV I1,fun e he=>tx1 e (p2.mem_iff.mp he),km2.nodup_iff.mpr nd1,few2,f3,l3.1.trans (l2.trans I.led),.inr (l3.2 n2)⟩,km2⟩⟩
   ·exact ac ⟨rfl,h _ _ sb1 ⟨es1,ep + 1,t2,I1,km⟩⟩
  refine a6 (gw gv ?_)
  cases hp:t1.plain with
  | true =>
   simp only [if_true]
   rw [hashByValue_scannable 8 (x:=.str x tk) rfl]
   refine a6 (ac ?_)
   refine bc (tail { t1 with plain:=false } (by cases t1;exact f1) l1 rfl) (fun r s' z=>?_) fun _ _ z=>z
   obtain ⟨rfl,z⟩:=z
   exact ac z
  | false =>
   simp only [c8,if_false]
   refine a6 (ac ?_)
   refine bc (tail t1 f1 l1 hp) (fun r s' z=>?_) fun _ _ z=>z
   obtain ⟨rfl,z⟩:=z
   exact ac z
theorem DZ {a:ag}{ss:List Str}{x:Str}{tk:Tok}{Q:Bool->af->Prop} (hS:lw w s.heap a ss) (hr:ss.length + 1<iX)
  (h:∀ h' tk',bI a s.heap h'->lw w h' a (if x∈ss then ss else ss++[x])->Q (!decide (x∈ss)) { s with heap:=h',toks:=tk' }) :
  ak (aE P w) A (setAdd a (.str x tk)) Q E s:=by
 unfold setAdd
 refine c7 (a6 ((strKind P w).pyHash (k:=x) (VQ P w x tk) ?_))
 exact Ba (s:={ s with toks:=s.toks + 1 }) hS hr h
end
end
section
abbrev fi (w:ba):Obj:={ cls:=.type "set",dict:=none,data:=.set #[] 0 (.fresh 0 0 (!w.params.followText "set-order")) }
theorem Bb (w:ba) {h:bf}{a:ag} (e:h.get? a=some (fi w)):lw w h a [] :=
 ⟨#[],0,_,⟨e,fun e he=>by simp at he,by simp,by decide,rfl,rfl,.inl rfl⟩,by simp⟩
def de:List Str->List Str->List Str
 | acc,[]=>acc
 | acc,x::r=>de (if x∈acc then acc else acc++[x]) r
theorem iN:∀ (l acc:List Str) (x:Str),x∈de acc l↔x∈acc\/x∈l
 | [],acc,x=>by simp [de]
 | y::r,acc,x=>by
  rw [de,iN r]
  by_cases h:y∈acc
  ·rw [if_pos h];simp only [aQ]
   constructor
   ·exact fun z=>z.elim .inl fun z=>.inr (.inr z)
   ·rintro (z | z | z)
    ·exact .inl z
    ·exact .inl (z ▸ h)
    ·exact .inr z
  ·rw [if_neg h];simp [Aa,or_assoc]
theorem iD:∀ (l acc:List Str),acc.Nodup->(de acc l).Nodup
 | [],acc,h=>h
 | y::r,acc,h=>by
  rw [de]
  refine iD r _ ?_
  by_cases hy:y∈acc
  ·rw [if_pos hy];exact h
  ·rw [if_neg hy,LN]
   exact ⟨h,by simp,fun a ha b hb e=>hy (by rw [eU] at hb;rw [<- hb,<- e];exact ha)⟩
theorem gE:∀ (l acc:List Str),(de acc l).length<=acc.length + l.length
 | [],acc=>by simp [de]
 | y::r,acc=>by
  rw [de]
  have:=gE r (if y∈acc then acc else acc++[y])
  by_cases hy:y∈acc
  ·rw [if_pos hy] at this ⊢;simp only [aO];omega
  ·rw [if_neg hy] at this ⊢;simp only [aO,aL,gd,bx] at this ⊢;omega
section
variable {prog:aI}{w:ba}{A:aX}{E:a8->af->Prop}{s:af}{R:vL->af->Prop}
theorem lw.keep {h h':bf}{a:ag}{ss:List Str} (x:lw w h a ss) (k:∀ o,h.get? a=some o->h'.get? a=some o):lw w h' a ss :=
 let ⟨es,ep,t,I,p⟩:=x;⟨es,ep,t,⟨k _ I.at_,I.txt,I.nd,I.few,I.fits,I.led,I.pl⟩,p⟩
theorem Ao {I:ag}{fp wr:List ag}{n:Nat}{Pv:Nat->a8->Prop}{St:Nat->bf->Prop} (W:Lv prog w A.in1 I fp wr n Pv St) (D:ag) (hD:D∉fp) (xs:List Str) (hx:xs.length=n)
  (hv:∀ i v,Pv i v->∃ x t,xs[i]?=some x/\v=.str x t) (hb:n + 1<iX) :
  ∀ (k i:Nat) (s:af) (acc:List Str),n - i=k->i<=n->acc.length<=i->St i s.heap->lw w s.heap D acc ->
   (∀ h' tk,(∀ b o,b∉D::wr->s.heap.get? b=some o->h'.get? b=some o)->lw w h' D (de acc (xs.drop i))->R (.ok (.ret .none)) { s with heap:=h',toks:=tk }) ->
   ia (aE prog w) A (.builtin "set.update.loop" ⟨[.ref D,.ref I],[]⟩) R s:=by
 have hDw:D∉wr:=fun z=>hD (W.sub _ z)
 intro k
 induction k with
 | zero =>
  intro i s acc hk hi hl st hS hR
  obtain rfl:i=n:=by omega
  refine fD o_ ?_
  rw [eY io _]
  show ak _ A.in1 (nQ (.ref I) >>= _) _ _ s
  refine a6 (W.done s _ _ st fun h' tk kp=>?_)
  refine ac (hR h' tk (fun b o hb e=>kp b o (fun z=>hb (ao _ z)) e) ?_)
  rw [FO (by omega)]
  exact hS.keep fun o e=>kp D o hDw e
 | succ k ih =>
  intro i s acc hk hi hl st hS hR
  have hlt:i<n:=by omega
  refine fD o_ ?_
  rw [eY io _]
  show ak _ A.in1 (nQ (.ref I) >>= _) _ _ s
  refine a6 (W.item i s _ _ hlt st fun v h' tk hP st' kp=>?_)
  obtain ⟨x,t,hxi,rfl⟩:=hv i v hP
  have hS':lw w h' D acc:=hS.keep fun o e=>kp D o hDw e
  refine a6 (c7 (DZ (s:={ s with heap:=h',toks:=tk }) hS' (by omega) fun h2 tk2 sb hS2=>?_))
  refine ac ⟨mU io _,ih (i + 1) _ (if x∈acc then acc else acc++[x]) (by omega) hlt ?_ (W.frame _ _ _ st' fun b hb o e=>?_) hS2 fun h3 tk3 k3 hS3=>?_⟩
  ·by_cases z:x∈acc
   ·rw [if_pos z];omega
   ·rw [if_neg z,aL,gd];omega
  ·rw [sb.2 b fun z=>hD (z ▸ hb)];exact e
  ·refine hR h3 tk3 (fun b o hb e=>k3 b o hb ?_) ?_
   ·rw [sb.2 b fun z=>hb (by rw [z];exact al)]
    exact kp b o (fun z=>hb (ao _ z)) e
   ·have hd:xs.drop i=x::xs.drop (i + 1):=by
     obtain ⟨h1,h2⟩:=List.getElem?_eq_some_iff.mp hxi
     rw [BZ h1,h2]
    rw [hd,de];exact hS3
theorem Mx (a:a8) {Q₁:a8->af->Prop} (h:Q₁ (.ref s.heap.objs.size) { s with heap:=s.heap.push (fi w) }) :
  ia (aE prog w) A (.call (.builtin "set.__new__") ⟨[.type "set",a],[]⟩) (wants Q₁ E) s:=by
 refine uy ?_
 show ak _ A.in1 (do sG "set.__new__" ⟨[.type "set",a],[]⟩;again (.builtin "set.__new__" ⟨[.type "set",a],[]⟩)) _ _ s
 refine a6 (vQ (F.newCall_set_1 a) (ac ⟨mU F.plain_set_new _,fD F.entry_set_new ?_⟩))
 rw [eY F.plain_set_new _]
 unfold gj.«set.__new__» P5
 have hsub:=LO
 obtain ⟨hp,g,d,tk,os⟩:=s
 dsimp only
 wp_walk
 refine ij (ac ?_)
 dsimp only
 simp only [newObj]
 refine a6 (P4 (ac ?_))
 exact ac h
structure SS (prog:aI) (w:ba) (A:aX) (T:String) (l:ag) (o:Obj) (items:Array a8):Prop where
 ty:o.cls=.type T
 s1:isSubtype (.type T) (.type "set")=pure false
 s2:isSubtype (.type T) (.type "frozenset")=pure false
 nd:(iM T == iM "dict")=false
 iter:∀ (s:af) (Q:a8->af->Prop) (E:a8->af->Prop),s.heap.get? l=some o ->
  (∀ ob St,Lv prog w A.in1 s.heap.objs.size [s.heap.objs.size,l] [s.heap.objs.size] items.size (fun i v=>items[i]?=some v) St->St 0 (s.heap.push ob)->Q (.ref s.heap.objs.size) { s with heap:=s.heap.push ob })->ak (aE prog w) A (BW (.ref l)) Q E s
theorem uS {T:String}{l:ag}{ol:Obj}{items:Array a8}{xs:List Str}{Q:a8->af->Prop}
  (src:SS prog w A.in1.in1 T l ol items) (hol:s.heap.get? l=some ol) (hi:∀ (i:Nat) (v:a8),items[i]?=some v->∃ x t,xs[i]?=some x/\v=jE x t) (hx:xs.length=items.size) (hb:items.size + 1<iX)
  (h:∀ (h':bf) (tk:Nat),lw w h' s.heap.objs.size (de [] xs)->(∀ b o,s.heap.get? b=some o->h'.get? b=some o)->Q (.ref s.heap.objs.size) { s with heap:=h',toks:=tk }) :
  ak (aE prog w) A (call (.type "set") [.ref l]) Q E s:=by
 obtain ⟨c,tl,hmro⟩:=F.called_set.mro
 have hmade:=F.called_set.made
 have hsub:=F.called_set.sub
 refine pf (uy ?_)
 show ak _ _ (callAny (.type "set") _) _ _ _
 refine ac ⟨n8 _ (by decide +kernel),fD F.entry_type_call ?_⟩
 rw [Around.under_plain (weight_type_call_type "set" [.ref l] []) rfl]
 have h1:=F.called_set.notType
 have h2:=F.called_set.canCreate
 have hct:=F.typeCall_set_1 (.ref l)
 repeat (any_goals (first | assumption | wp_step))
 refine oC (Mx (.ref l) (E:=E) (Q₁:=fun obj s₁=>obj=.ref s.heap.objs.size/\s₁={ s with heap:=s.heap.push (fi w) }) ⟨rfl,rfl⟩) fun r s₁ hr=>?_
 cases r with
 | error e=>exact hr
 | ok fl =>
  cases fl with
  | ret obj =>
   obtain ⟨rfl,rfl⟩:=hr
   have hS:(s.heap.push (fi w)).get? s.heap.objs.size=some (fi w):=aG _ rfl
   have hT:P6 { s with heap:=s.heap.push (fi w) } (.ref s.heap.objs.size) "set":=⟨_,hS,rfl⟩
   have hli:=F.called_set.init.lookup
   have hbi:=F.called_set.init.bind (.ref s.heap.objs.size)
   repeat (any_goals (first | assumption | wp_step))
   refine oC (mY (R:=wants (fun r s₂=>r=.none/\∃ h' tk,s₂={ s with heap:=h',toks:=tk }/\lw w h' s.heap.objs.size (de [] xs) /\
     (∀ b o,s.heap.get? b=some o->h'.get? b=some o)) E) F.called_set.init.plain F.entry_set_init (check_set_init_1 hT ?_)) fun r₂ s₂ hr₂=>?_
   ·obtain ⟨oc,od,odt,os'⟩:=ol
    obtain ⟨ty,s1,s2,nd,iter⟩:=src
    have ty:oc=.type T:=ty
    subst ty
    have hol':(s.heap.push (fi w)).get? l=some { cls:=.type T,dict:=od,data:=odt,slots:=os' }:=ae _ hol
    unfold gj.«set.__init__» noKeywords jz
    generalize hPI:BW=PI
    wp_walk
    subst hPI
    refine iter { s with heap:=s.heap.push (fi w) } _ _ hol' fun ob St W st=>?_
    have hlS:l<s.heap.objs.size:=am hol
    refine a6 (wpAny_runValue ?_)
    have szp:(s.heap.push (fi w)).objs.size=s.heap.objs.size + 1:=cm ..
    refine Ao (A:=A.in1.in1) W s.heap.objs.size (by rw [szp];simp only [aQ,aD,or_false,not_or];exact ⟨aC (fV _),ej hlS⟩) xs hx hi hb items.size 0 _ [] (by omega) (eB _) (ar _) st (Bb w (ae _ hS)) fun h' tk kp hS'=>?_
    show ak _ _ _ _ _ _
    refine ac ?_
    show ak _ _ (ret dQ) _ _ _
    refine ac ⟨rfl,h',tk,rfl,hS',fun b o e=>kp b o ?_ (ae _ (ae _ e))⟩
    have:=am e
    rw [szp]
    simp only [aQ,aD,or_false,not_or]
    exact ⟨aC this,aC (gR this)⟩
   ·cases r₂ with
    | error e=>exact hr₂
    | ok fl₂ =>
     cases fl₂ with
     | ret r =>
      obtain ⟨rfl,h',tk,rfl,hS',hk'⟩:=hr₂
      repeat (any_goals (first | assumption | wp_step))
      exact h _ _ hS' hk'
     | next=>exact hr₂.elim
     | brk=>exact hr₂.elim
     | cont=>exact hr₂.elim
  | next=>exact hr.elim
  | brk=>exact hr.elim
  | cont=>exact hr.elim
theorem My {l:ag}{o:Obj}{its:List a8} (hh:A.handled=none) (e0:o.cls=.type "list") (e1:∃ n,o.data=.seq its.toArray n):SS prog w A "list" l o its.toArray :=
 ⟨e0,F.sub_list_set,F.sub_list_frozenset,by decide,fun s Q E e h=>lr ⟨_,e,e0,e1⟩
  (h _ _ (Af (by simpa using hh) _ l (aC (am e)) its.toArray) ⟨⟨_,aG _ rfl,rfl,rfl⟩,⟨_,ae _ e,e0,e1⟩⟩)⟩
theorem PX {l:ag}{o:Obj}{its:List a8} (hh:A.handled=none) (e0:o.cls=.type "tuple") (e1:∃ n,o.data=.seq its.toArray n):SS prog w A "tuple" l o its.toArray :=
 ⟨e0,F.sub_tuple_set,F.sub_tuple_frozenset,by decide,fun s Q E e h=>gH ⟨_,e,e0,e1⟩
  (h _ _ (Walks.tuple (by simpa using hh) _ l (aC (am e)) its.toArray) ⟨⟨_,aG _ rfl,rfl,rfl⟩,⟨_,ae _ e,e0,e1⟩⟩)⟩
end
end
end L2
section
namespace L2
open PySem PySem.Spec PyProof.Rows
namespace SI
theorem entry_iter:G6 table "set.__iter__"=some gj.«frozenset.__iter__» :=
 G7 (id':="frozenset.__iter__") (by kernel_rfl) rfl (by decide +kernel) (by kernel_rfl)
theorem slot_next:Slot "set_iterator" "__next__" "set_iterator.__next__":=by
 refine .of (owner:="set_iterator") (n:="__next__") ?_ ?_ ?_ ?_ ?_ ?_
 ·rw [uz,lY];kernel_rfl
 ·decide +kernel
 ·decide +kernel
 ·decide +kernel
 ·first
   | exact .inl (by decide +kernel)
   | exact .inr (by decide +kernel)
 ·rw [G8];kernel_rfl
theorem entry_next:G6 table "set_iterator.__next__"=some gj.«set_iterator.__next__» :=
 entryFor_of_tree (by kernel_rfl)
theorem D_:Manifest.owners.lookup (String.ofList ['r','o','t','a','r','e','t','i','_','t','e','s'].reverse)=some Manifest.sig_set_iterator:=by kernel_rfl
theorem args_next (a:a8):LP "set_iterator.__next__" ⟨[a],[]⟩:=by
 unfold LP
 rw [signature?_of (id:="set_iterator.__next__") (n:=['_','_','t','x','e','n','_','_']) (o:=['r','o','t','a','r','e','t','i','_','t','e','s']) (by kernel_rfl) D_]
 kernel_rfl
theorem args_iter (a:a8):LP "set_iterator.__iter__" ⟨[a],[]⟩:=by
 unfold LP
 rw [signature?_of (id:="set_iterator.__iter__") (n:=['_','_','r','e','t','i','_','_']) (o:=['r','o','t','a','r','e','t','i','_','t','e','s']) (by kernel_rfl) D_]
 kernel_rfl
theorem entry_self:G6 table "set_iterator.__iter__"=some gj.«dict_keyiterator.__iter__» :=
 G7 (id':="dict_keyiterator.__iter__") (by kernel_rfl) rfl (by decide +kernel) (by kernel_rfl)
theorem slot_iter:Slot "set_iterator" "__iter__" "set_iterator.__iter__":=by
 refine .of (owner:="set_iterator") (n:="__iter__") ?_ ?_ ?_ ?_ ?_ ?_
 ·rw [uz,lY];kernel_rfl
 ·decide +kernel
 ·decide +kernel
 ·decide +kernel
 ·first
   | exact .inl (by decide +kernel)
   | exact .inr (by decide +kernel)
 ·rw [G8];kernel_rfl
end SI
end L2
end
namespace L2
open PySem PySem.Spec PyProof.Rows
section
theorem tT {α:Type}:∀ {l:List α}{i:Nat} (h:i<l.length),(l[i]::l.eraseIdx i).Perm l
 | x::r,0,_=>.refl _
 | x::r,i + 1,h=>by
  have q:=tT (l:=r) (i:=i) (by simpa using h)
  rw [List.getElem_cons_succ,List.eraseIdx_cons_succ]
  exact (List.Perm.swap _ _ _).trans (q.cons x)
section
variable {M:vJ}{A:aX}{E:a8->af->Prop}{s:af}
theorem Kb {src:Source}{n:Nat}{Q:Nat->af->Prop} (hn:n≠0) (h:∀ i d,i<n->Q i { s with drawn:=d }):ak M A (choose src n) Q E s :=
 fun _ _ _=>⟨hn,h _ _ (B_ _ (Nat.pos_of_ne_zero hn))⟩
theorem uT {α:Type}:∀ (n:Nat) (xs:List α) (s:af) (Q:List α->af->Prop),n=xs.length->(∀ ys d,ys.Perm xs->Q ys { s with drawn:=d })->ak M A (drawOrder n xs) Q E s
 | 0,xs,s,Q,hn,h=>by
  obtain rfl:xs=[]:=List.length_eq_zero_iff.mp hn.symm
  exact ac (h [] s.drawn .nil)
 | n + 1,[],s,Q,hn,h=>by cases hn
 | n + 1,x::r,s,Q,hn,h=>by
  show ak M A (choose .order (x::r).length >>= _) Q E s
  refine a6 (Kb (by simp) fun i d hi=>?_)
  rw [aZ hi]
  refine a6 (uT n _ _ _ (by rw [AU hi];omega) fun ys d' p=>ac ?_)
  exact h _ _ ((p.cons _).trans (tT hi))
end
theorem IA {α:Type} (next:Nat->Nat):∀ (n k:Nat) (left:List α) (out:Array α),n=left.length->(Ag next n k left out).toList.Perm (out.toList++left)
 | 0,k,left,out,hn=>by
  obtain rfl:left=[]:=List.length_eq_zero_iff.mp hn.symm
  rw [Ag,cj]
 | n + 1,k,left,out,hn=>by
  have hl:next k % left.length<left.length:=B_ _ (by omega)
  rw [Ag,aZ hl]
  refine (IA next n (k + 1) _ _ (by rw [AU hl];omega)).trans ?_
  rw [Lu,kc]
  exact (tT hl).append_left _
theorem vZ {α:Type} (next:Nat->Nat) (xs:Array α):(p7 next xs).toList.Perm xs.toList:=by
 have:=IA next xs.size 0 xs.toList #[] (by simp)
 simpa [p7] using this
def Cf (h:bf) (I S:ag) (first:a8) (i n ep:Nat):Prop:=h.get? I=some { cls:=.type "set_iterator",data:=.fields #[first,.int i 0,.ref S,.int n 0,.int ep 0] }
section
variable {prog:aI}{w:ba}{A:aX}{E:a8->af->Prop}{s:af}{I S:ag}{es:Array (Int×a8)}{ep:Nat}{t:eF}{i n:Nat}{first:a8}
theorem Cf.put {f f':a8}{j j':Nat}{k:Nat}{x:a8}{h:bf} (hit:Cf h I S f j n ep) (e:(#[f,.int j 0,.ref S,.int n 0,.int ep 0] : Array a8).setIfInBounds k x=#[f',.int j' 0,.ref S,.int n 0,.int ep 0]) :
  Cf (h.update I (fP (·.setIfInBounds k x))) I S f' j' n ep:=by
 have q:=gf (fP (·.setIfInBounds k x)) hit rfl
 unfold Cf
 rw [q]
 show some ({ cls:=.type "set_iterator",data:=.fields ((#[f,.int j 0,.ref S,.int n 0,.int ep 0] : Array a8).setIfInBounds k x) }:Obj)=_
 rw [e]
theorem rW {Q:Option a8->af->Prop} (hit:Cf s.heap I S first i n ep) (hS:cW w s.heap S es ep t) (hn:n=es.size)
  (h:ak (aE prog w) A.in1 (do
   if let .int slot _:=first then
    match <- LQ S slot.toNat i ep with
    | some (x,next) =>
     ik (.ref I) 0 (cx next)
     ik (.ref I) 1 (cx (i + 1))
     ret x
    | none=>ik (.ref I) 2 .none;vR (<- yg (.type "StopIteration") [])
   else
    let some places <- Lw first | P7 "internal:set_iterator"
    match places[i]? with
    | some (.int place _) =>
     let x <- setNextDrawn S place.toNat ep
     ik (.ref I) 1 (cx (i + 1))
     ret x
    | some _=>P7 "internal:set_iterator"
    | none=>ik (.ref I) 0 (cx 0);ik (.ref I) 2 .none;vR (<- yg (.type "StopIteration") []))
   (fun fin s'=>∃ v,fin=.done (.ret v)/\Q (some v) s') (fun e s'=>ak (aE prog w) A (tK e (.type "StopIteration")) (fun b s''=>b=true/\Q none s'') E s') s) :
  ak (aE prog w) A (nQ (.ref I)) Q E s:=by
 unfold nQ
 refine a6 (mV ?_)
 refine cF (name:=ii "__next__") ⟨_,hit,rfl⟩ SI.slot_next ?_
 refine cu SI.slot_next ⟨_,hit,rfl⟩ SI.entry_next ?_ (SI.args_next _)
 show ak _ _ (fieldsOf (.ref I) >>= _) _ _ s
 refine a6 (wpAny_fieldsOf hit rfl ?_)
 show ak _ _ (setEntries S >>= _) _ _ s
 refine a6 (wpAny_setEntries_of hS.at_ rfl hS.fits ?_)
 rw [if_neg (by rw [hn];simp)]
 refine bc h (fun fin s' z=>?_) fun e s' z=>?_
 ·obtain ⟨v,rfl,q⟩:=z
  exact ⟨v,rfl,ac q⟩
 ·refine a6 (bc z (fun b s'' ⟨hb,q⟩=>?_) fun _ _ z=>z)
  subst hb
  exact ac q
theorem Cg {B:aX}{Q:Option a8->af->Prop}{Q':Fin->af->Prop}{o:Obj}{vs:Array a8} (hh:B.handled=none) (ho:s.heap.get? I=some o) (hd:o.data=.fields vs) (hz:2<vs.size)
  (h:∀ h',Heap.ExtBut I s.heap h'->Q none { s with heap:=h' }) :
  ak (aE prog w) B (do ik (.ref I) 2 .none;vR (<- yg (.type "StopIteration") []))
   Q' (fun e s'=>ak (aE prog w) A (tK e (.type "StopIteration")) (fun b s''=>b=true/\Q none s'') E s') s:=by
 refine a6 (jh ho hd hz ?_)
 show ak _ _ (yg (.type "StopIteration") [] >>= _) _ _ _
 refine a6 ?_
 simp only [yg,newTuple]
 refine a6 (bL ?_ (by size_fits))
 refine a6 (m:=vS _ _) (vQ (a:=dQ) ?_ ?_)
 ·first
   | rfl
   | (simp only [vS];rfl)
 refine bL ?_ (by size_fits)
 simp only [vR]
 refine a6 (wpAny_handled ?_)
 rw [hh]
 refine a6 (ac (wpAny_throw ?_))
 refine jA (T:="StopIteration") (b:=true) ⟨_,aG _ rfl,rfl⟩ G9 ⟨rfl,?_⟩
 exact h _ (((bU ..).extBut.push _).push _)
end
end
section
section
variable {prog:aI}{w:ba}{A:aX}{E:a8->af->Prop}{s:af}{I S:ag}{es:Array (Int×a8)}{ep:Nat}{t:eF}{i n:Nat}{first:a8}
theorem cW.keep {h h':bf} (x:cW w h S es ep t) (k:∀ o,h.get? S=some o->h'.get? S=some o):cW w h' S es ep t:=⟨k _ x.at_,x.txt,x.nd,x.few,x.fits,x.led,x.pl⟩
theorem Ch {Q:a8->af->Prop} (hit:Cf s.heap I S first i n ep) (h:Q (.ref I) s):ak (aE prog w) A (BW (.ref I)) Q E s:=by
 refine wpAny_pyIter_slot ⟨_,hit,rfl⟩ SI.slot_iter (cu SI.slot_iter ⟨_,hit,rfl⟩ SI.entry_self ?_ (SI.args_iter _))
 show ak _ _ (ret (.ref I)) _ _ s
 exact ac ⟨_,rfl,"set_iterator",_,⟨_,hit,rfl⟩,SI.slot_next.lookup,h⟩
theorem fm {Q:Bool->af->Prop}{B:aX} (h:Q (w.params.followText "set-order") s):ak (aE prog w) B setsByText Q E s:=by
 unfold setsByText
 exact a6 (ij (ac h))
theorem Mz {B:aX}{Q':Fin->af->Prop}{x:a8}{nx:Nat}{E':a8->af->Prop} (hit:Cf s.heap I S first i n ep)
  (h:∀ h',Cf h' I S (.int nx 0) (i + 1) n ep->bI I s.heap h'->Q' (.done (.ret x)) { s with heap:=h' }) :
  ak (aE prog w) B (do ik (.ref I) 0 (cx nx);ik (.ref I) 1 (cx (i + 1));ret x) Q' E' s:=by
 refine a6 (jh hit rfl (by simp) ?_)
 have h1:Cf (s.heap.update I (fP (·.setIfInBounds 0 (cx nx)))) I S (.int nx 0) i n ep:=hit.put (by simp [cx])
 refine a6 (jh h1 rfl (by simp) ?_)
 have h2:Cf ((s.heap.update I (fP (·.setIfInBounds 0 (cx nx)))).update I (fP (·.setIfInBounds 1 (cx (i + 1))))) I S (.int nx 0) (i + 1) n ep:=h1.put (by simp [cx])
 exact ac (h _ h2 ((bU ..).trans (bU ..)))
theorem v_ (f:Nat->Nat) (es:Array (Int×a8)):(p7 f es).size=es.size:=by
 rw [<- aq,(vZ f es).length_eq,aq]
theorem GB (hh:A.handled=none) (hw:w.params.followText "set-order"=true) (hne:S≠I) :
  Lv prog w A I [I,S] [I] es.size (fun i v=>((p7 (w.params.setOrder S ep) es).toList.map (·.2))[i]?=some v) (fun i h=>Cf h I S (.int 0 0) i es.size ep/\cW w h S es ep t) where
 sub:=fun b hb=>by simp at hb;simp [hb]
 frame:=fun i h h' st k=>⟨k I (by simp) _ st.1,st.2.keep fun o e=>k S (by simp) o e⟩
 item:=fun i s Q E hi st hQ=>by
  obtain ⟨hit,hS⟩:=st
  refine rW hit hS rfl ?_
  dsimp only
  unfold LQ setWalk
  refine a6 (a6 (bB hS.at_ rfl hS.fits (a6 (fm ?_))))
  rw [hw]
  simp only [if_true,bne_self_eq_false,c8,if_false]
  refine a6 (a6 (bB hS.at_ rfl hS.fits (a6 (fm ?_))))
  rw [hw]
  simp only [if_true]
  refine a6 (ij (ac (ac ?_)))
  have hi':i<(p7 (w.params.setOrder S ep) es).size:=by rw [v_];exact hi
  show ak _ _ (match ((p7 (w.params.setOrder S ep) es)[i]?).map fun e=>(e.2,(0:Int).toNat) with
   | some (x,next)=>do ik (.ref I) 0 (cx next);ik (.ref I) 1 (cx (i + 1));ret x
   | none=>do ik (.ref I) 2 .none;vR (<- yg (.type "StopIteration") [])) _ _ s
  rw [getElem?_pos _ i hi']
  refine Mz (nx:=0) hit fun h' h1 sb=>⟨_,rfl,hQ _ h' s.toks ?_ ⟨h1,hS.keep fun o e=>(sb.2 S hne).trans e⟩ fun b o hb e=>(sb.2 b fun z=>hb (by simp [z])).trans e⟩
  simp [hi']
 done:=fun s Q E st hQ=>by
  obtain ⟨hit,hS⟩:=st
  refine rW hit hS rfl ?_
  dsimp only
  unfold LQ setWalk
  refine a6 (a6 (bB hS.at_ rfl hS.fits (a6 (fm ?_))))
  rw [hw]
  simp only [if_true,bne_self_eq_false,c8,if_false]
  refine a6 (a6 (bB hS.at_ rfl hS.fits (a6 (fm ?_))))
  rw [hw]
  simp only [if_true]
  refine a6 (ij (ac (ac ?_)))
  show ak _ _ (match ((p7 (w.params.setOrder S ep) es)[es.size]?).map fun e=>(e.2,(0:Int).toNat) with
   | some (x,next)=>do ik (.ref I) 0 (cx next);ik (.ref I) 1 (cx (es.size + 1));ret x
   | none=>do ik (.ref I) 2 .none;vR (<- yg (.type "StopIteration") [])) _ _ s
  rw [getElem?_neg _ es.size (by rw [v_];exact bW _)]
  exact Cg (by simpa using hh) hit rfl (by simp) fun h' eb=>hQ h' s.toks fun b o hb e=>eb b o (fun z=>hb (by simp [z])) e
 self:=fun i s Q E st h=>Ch st.1 h
inductive WG (h:bf) (T:ag) (ps:List Nat):Prop
 | mk (o k:_) (h0:h.get? T=some o) (h1:o.data=.seq (ps.map fun (p:Nat)=>pd (p:Int) 0).toArray k):WG h T ps
theorem E2 (hh:A.handled=none) {T:ag}{ps:List Nat} (hne:S≠I) (hT:T≠I) (hp:∀ p∈ps,p<es.size) (hn:ps.length=es.size) :
  Lv prog w A I [I,S,T] [I] es.size (fun i v=>(ps.map fun p=>(es.getD p (0,.none)).2)[i]?=some v) (fun i h=>Cf h I S (.ref T) i es.size ep/\cW w h S es ep t/\WG h T ps) where
 sub:=fun b hb=>by simp at hb;simp [hb]
 frame:=fun i h h' st k=>⟨k I (by simp) _ st.1,st.2.1.keep fun o e=>k S (by simp) o e,let ⟨o,q,e,d⟩:=st.2.2;⟨o,q,k T (by simp) o e,d⟩⟩
 item:=fun i s Q E hi st hQ=>by
  obtain ⟨hit,hS,o,q,e,d⟩:=st
  refine rW hit hS rfl ?_
  dsimp only
  refine a6 (eG e d ?_)
  have hi':i<ps.length:=by omega
  dsimp only
  rw [show ((ps.map fun (p:Nat)=>pd (p:Int) 0).toArray)[i]?=some (.int (ps[i] : Nat) 0) by simp [hi']]
  dsimp only
  unfold setNextDrawn
  refine a6 (a6 (bB hS.at_ rfl hS.fits ?_))
  have hlt:=hp ps[i] (g_ hi')
  simp only [bne_self_eq_false,c8,if_false,kj]
  rw [getElem?_pos es ps[i] hlt]
  refine ac ?_
  refine a6 (jh hit rfl (by simp) ?_)
  have h1:Cf (s.heap.update I (fP (·.setIfInBounds 1 (cx (i + 1))))) I S (.ref T) (i + 1) es.size ep:=hit.put (by simp [cx])
  have sb:bI I s.heap (s.heap.update I (fP (·.setIfInBounds 1 (cx (i + 1))))):=bU ..
  refine ac ⟨_,rfl,hQ _ _ s.toks ?_ ⟨h1,hS.keep fun o e=>(sb.2 S hne).trans e,o,q,(sb.2 T hT).trans e,d⟩ fun b o hb e=>(sb.2 b fun z=>hb (by simp [z])).trans e⟩
  simp [hi',hlt]
 done:=fun s Q E st hQ=>by
  obtain ⟨hit,hS,o,q,e,d⟩:=st
  refine rW hit hS rfl ?_
  dsimp only
  refine a6 (eG e d ?_)
  dsimp only
  rw [show ((ps.map fun (p:Nat)=>pd (p:Int) 0).toArray)[es.size]?=none by simp [<- hn]]
  dsimp only
  refine a6 (jh hit rfl (by simp) ?_)
  have h1:Cf (s.heap.update I (fP (·.setIfInBounds 0 (cx 0)))) I S (.int 0 0) es.size es.size ep:=hit.put (by simp [cx])
  have sb:bI I s.heap (s.heap.update I (fP (·.setIfInBounds 0 (cx 0)))):=bU ..
  exact Cg (s:={ s with heap:=s.heap.update I (fP (·.setIfInBounds 0 (cx 0))) }) (by simpa using hh) h1 rfl (by simp) fun h' eb=>hQ h' s.toks fun b o hb e=>eb b o (fun z=>hb (by simp [z])) ((sb.2 b fun z=>hb (by simp [z])).trans e)
 self:=fun i s Q E st h=>Ch st.1 h
theorem MA {p:Array Nat}{j:Nat} (h:p=#[j]):iu p 0=0:=by subst h;simp [iu,Ah]
theorem MB {p:Array Nat}{j:Nat} (h:p=#[j]):iu p (j + 1)=1:=by subst h;simp [iu,Ah]
theorem Kc {t : eF} (h : t.fits 1 = true) : ∃ j, t.place = #[j] := by
  have h1 : t.place.size = 1 := by
    simp only [nc, aP, beq_iff_eq] at h; exact h.1
  exact ⟨t.place[0], by apply Array.ext; · simp [h1]
                        · intro i h2 h3; have : i = 0 := by omega
                          subst this; simp⟩
theorem SU {B:aX}{k:Unit->Sem (Option (a8×Nat))}{Q:Option (a8×Nat)->af->Prop} (hl:t.led=true) (h:ak (aE prog w) B (k ()) Q E s) :
  ak (aE prog w) B ((if (!t.led && !es.isEmpty)=true then P7 "set:maker-not-led" else pure ()) >>= k) Q E s:=by
 rw [if_neg (by rw [hl];simp)]
 exact a6 (ac h)
theorem uU {B:aX}{slot g:Nat}{Q:Option (a8×Nat)->af->Prop} (hw:w.params.followText "set-order"=false) (hS:cW w s.heap S es ep t) (h1:es.size<=1)
  (h:Q (match es[iu t.place slot]?,t.place[iu t.place slot]? with | some (_,x),some j=>some (x,j + 1) | _,_=>none) s):ak (aE prog w) B (LQ S slot g ep) Q E s:=by
 unfold LQ
 refine a6 (bB hS.at_ rfl hS.fits (a6 (fm ?_)))
 rw [hw]
 simp only [c8,if_false]
 split
 ·rename_i z
  exact absurd (show (!t.plain && decide (es.size > 1))=true from z) (by simp;omega)
 ·have hl:t.led=true:=by rw [hS.led,hw];rfl
  exact SU hl (ac h)
theorem Kd (hh:A.handled=none) (hw:w.params.followText "set-order"=false) (hne:S≠I) (h1:es.size<=1) :
  Lv prog w A I [I,S] [I] es.size (fun i v=>(es.toList.map (·.2))[i]?=some v)
   (fun i h=>∃ k,Cf h I S (.int (k:Nat) 0) i es.size ep/\cW w h S es ep t/\(i=0->k=0)/\(i=1->es.size=1->∃ j,t.place=#[j]/\k=j + 1)) where
 sub:=fun b hb=>by simp at hb;simp [hb]
 frame:=fun i h h' st k=>let ⟨c,a1,a2,a3⟩:=st;⟨c,k I (by simp) _ a1,a2.keep fun o e=>k S (by simp) o e,a3⟩
 item:=fun i s Q E hi st hQ=>by
  obtain ⟨c,hit,hS,c0,c1⟩:=st
  have hi0:i=0:=by omega
  subst hi0
  obtain rfl:c=0:=c0 rfl
  have e1:es.size=1:=by omega
  obtain ⟨j,hj⟩:=Kc (t:=t) (by rw [<- e1];exact hS.fits)
  refine rW hit hS rfl ?_
  dsimp only
  refine a6 (uU hw hS h1 ?_)
  rw [show (((0:Nat):Int).toNat)=0 from rfl,MA hj,getElem?_pos es 0 (by omega),hj]
  refine Mz (nx:=j + 1) hit fun h' h1 sb=>⟨_,rfl,hQ _ h' s.toks ?_ ⟨j + 1,h1,hS.keep fun o e=>(sb.2 S hne).trans e,by simp,fun _ _=>⟨j,hj,rfl⟩⟩ fun b o hb e=>(sb.2 b fun z=>hb (by simp [z])).trans e⟩
  simp [e1]
 done:=fun s Q E st hQ=>by
  obtain ⟨c,hit,hS,c0,c1⟩:=st
  refine rW hit hS rfl ?_
  dsimp only
  refine a6 (uU hw hS h1 ?_)
  have hz:es[iu t.place ((c:Nat):Int).toNat]?=none:=by
   rcases Nat.eq_zero_or_pos es.size with z | z
   ·rw [getElem?_neg];omega
   ·have e1:es.size=1:=by omega
    obtain ⟨j,hj,hc⟩:=c1 e1 e1
    rw [hc,show (((j + 1:Nat):Int).toNat)=j + 1 from rfl,MB hj,getElem?_neg];omega
  rw [hz]
  exact Cg (by simpa using hh) hit rfl (by simp) fun h' eb=>hQ h' s.toks fun b o hb e=>eb b o (fun z=>hb (by simp [z])) e
 self:=fun i s Q E st h=>let ⟨_,a1,_⟩:=st;Ch a1 h
theorem GC {Q:a8->af->Prop} (hh:A.handled=none) (hS:cW w s.heap S es ep t)
  (h:∀ (I:ag) (fp:List ag) (ord:List a8) (St:Nat->bf->Prop) (h':bf) (d:Lo),s.heap.objs.size<=I->(∀ b∈fp,b=S\/s.heap.objs.size<=b)->(∀ b∈fp,b<h'.objs.size)->ord.Perm (es.toList.map (·.2))->(∀ B:aX,B.handled=none->Lv prog w B I fp [I] ord.length (fun i v=>ord[i]?=some v) St)->St 0 h' ->
   (∀ b o,s.heap.get? b=some o->h'.get? b=some o)->P6 { s with heap:=h',drawn:=d } (.ref I) "set_iterator"->Q (.ref I) { s with heap:=h',drawn:=d }):ak (aE prog w) A (BW (.ref S)) Q E s:=by
 have hT:s.TypeIs (.ref S) "set":=⟨_,hS.at_,rfl⟩
 have hlt:=am hS.at_
 refine wpAny_pyIter_slot hT F.slot_set_iter (cu F.slot_set_iter hT SI.entry_iter ?_ (F.args_set_iter_1 _))
 show ak _ _ (tL S >>= _) _ _ s
 unfold tL
 refine a6 (a6 (wpAny_setEntries_of hS.at_ rfl hS.fits (ac ?_)))
 show ak _ _ (setDrawn S >>= _) _ _ s
 unfold setDrawn
 refine a6 (a6 (bB hS.at_ rfl hS.fits (a6 (fm (ac ?_)))))
 have fin:∀ (first:a8) (fp:List ag) (ord:List a8) (St:Nat->bf->Prop) (h':bf) (d:Lo),(∀ b o,s.heap.get? b=some o->h'.get? b=some o)->s.heap.objs.size<=h'.objs.size ->
   (∀ b∈fp,b=S\/b=h'.objs.size\/(s.heap.objs.size<=b/\b<h'.objs.size))->ord.Perm (es.toList.map (·.2))->(∀ B:aX,B.handled=none->Lv prog w B h'.objs.size fp [h'.objs.size] ord.length (fun i v=>ord[i]?=some v) St) ->
   (∀ h'':bf,(∀ b o,h'.get? b=some o->h''.get? b=some o)->Cf h'' h'.objs.size S first 0 es.size ep->St 0 h'') ->
   ak (aE prog w) A.in1 (setEpoch S >>= fun e=>newFields "set_iterator" [first,cx 0,.ref S,cx es.size,cx e] >>= fun x=>ret x) (fun fin s'=>∃ v,fin=.done (.ret v)/\∃ T' r,s'.TypeIs v T'/\hW (.type T') "__next__"=pure (some r)/\Q v s') E { s with heap:=h',drawn:=d }:=by
  intro first fp ord St h' d kp hsz hfp pm W st
  have hS':cW w h' S es ep t:=hS.keep fun o e=>kp S o e
  refine a6 (wpAny_setEpoch_of (s:={ s with heap:=h',drawn:=d }) hS'.at_ rfl hS'.fits ?_)
  refine a6 (bL ?_ (by size_fits))
  have gp:∀ b o,h'.get? b=some o->(h'.push { cls:=.type "set_iterator",dict:=none,data:=.fields #[first,cx 0,.ref S,cx es.size,cx ep] }).get? b=some o:=fun b o e=>ae _ e
  have it:(h'.push { cls:=.type "set_iterator",dict:=none,data:=.fields #[first,cx 0,.ref S,cx es.size,cx ep] }).get? h'.objs.size=some { cls:=.type "set_iterator",dict:=none,data:=.fields #[first,cx 0,.ref S,cx es.size,cx ep] }:=aG _ rfl
  refine ac ⟨_,rfl,"set_iterator",_,⟨_,it,rfl⟩,SI.slot_next.lookup,h h'.objs.size fp ord St _ d hsz (fun b hb=>?_) (fun b hb=>?_) pm W (st _ gp it) (fun b o e=>gp b o (kp b o e)) ⟨_,it,rfl⟩⟩
  ·rcases hfp b hb with z | z | z
   ·exact .inl z
   ·exact .inr (by rw [z];exact hsz)
   ·exact .inr z.1
  ·rw [cm]
   rcases hfp b hb with z | z | z
   ·rw [z];exact gR (aF hlt hsz)
   ·rw [z];exact fV _
   ·exact gR z.2
 dsimp only
 split
 ·rename_i z
  have z:(!w.params.followText "set-order" && (!t.plain && decide (es.size > 1)))=true:=z
  refine a6 (uT _ _ _ _ (by simp) fun ys d pm=>?_)
  simp only [newTuple]
  have hyl:ys.length=es.size:=by have:=pm.length_eq;rwa [eg] at this
  have zl:=fA hS.few
  refine a6 (bL ?_ (by show (ys.map fun (i:Nat)=>cx i).toArray.size<=sizeLine;simp;omega))
  have tp:∀ ob:Obj,(s.heap.push ob).objs.size=s.heap.objs.size + 1:=fun ob=>cm ..
  refine fin (.ref s.heap.objs.size) [s.heap.objs.size + 1,S,s.heap.objs.size] (ys.map fun p=>(es.getD p (0,.none)).2)
   (fun i h=>Cf h (s.heap.objs.size + 1) S (.ref s.heap.objs.size) i es.size ep/\cW w h S es ep t/\WG h s.heap.objs.size ys) (s.heap.push _) d
   (fun b o e=>ae _ e) (by rw [tp];exact ib _) (fun b hb=>?_) ?_ (fun B hB=>?_) (fun h'' k it=>⟨by rw [tp] at it;exact it,hS.keep fun o e=>k S o (ae _ e),_,_,k _ _ (aG _ rfl),rfl⟩)
  ·simp only [aQ,aD,or_false] at hb
   rcases hb with y | y | y
   ·exact .inr (.inl (by rw [tp];exact y))
   ·exact .inl y
   ·exact .inr (.inr ⟨by rw [y];exact ar _,by rw [tp,y];exact fV _⟩)
  ·refine (pm.map _).trans (.of_eq ?_)
   apply qg
   ·simp
   ·intro k h1 h2
    have:k<es.size:=by simpa using h1
    simp [this]
  ·rw [ay,hyl,tp]
   exact E2 hB (aC (gR hlt)) (aC (fV _)) (fun p hp=>List.mem_range.mp (pm.mem_iff.mp hp)) hyl
 ·rename_i z
  have z:¬ (!w.params.followText "set-order" && (!t.plain && decide (es.size > 1)))=true:=z
  refine a6 (ac ?_)
  have hne:S≠s.heap.objs.size:=aC hlt
  cases hw:w.params.followText "set-order" with
  | true =>
   refine fin (cx 0) [s.heap.objs.size,S] ((p7 (w.params.setOrder S ep) es).toList.map (·.2)) (fun i h=>Cf h s.heap.objs.size S (.int 0 0) i es.size ep/\cW w h S es ep t) s.heap s.drawn (fun _ _ e=>e) (ar _) (fun b hb=>?_) ((vZ _ es).map _) (fun B hB=>?_) (fun h'' k it=>⟨it,hS.keep fun o e=>k S o e⟩)
   ·simp only [aQ,aD,or_false] at hb
    exact hb.elim (fun z=>.inr (.inl z)) .inl
   ·rw [ay,aq,v_]
    exact GB hB hw hne
  | false =>
   have h1:es.size<=1:=by
    rw [hw] at z
    rcases hS.pl with y | y
    ·omega
    ·rw [y] at z;simpa using z
   refine fin (cx 0) [s.heap.objs.size,S] (es.toList.map (·.2)) (fun i h=>∃ k,Cf h s.heap.objs.size S (.int (k:Nat) 0) i es.size ep/\cW w h S es ep t/\(i=0->k=0)/\(i=1->es.size=1->∃ j,t.place=#[j]/\k=j + 1)) s.heap s.drawn (fun _ _ e=>e) (ar _) (fun b hb=>?_) (.refl _) (fun B hB=>?_) (fun h'' k it=>⟨0,it,hS.keep fun o e=>k S o e,fun _=>rfl,fun y=>by cases y⟩)
   ·simp only [aQ,aD,or_false] at hb
    exact hb.elim (fun z=>.inr (.inl z)) .inl
   ·rw [ay,aq]
    exact Kd hB hw hne h1
end
end
section
section
variable {prog:aI}{w:ba}{A:aX}{E:a8->af->Prop}{s:af}{S:ag}{es:Array (Int×a8)}{ep:Nat}{t:eF}
theorem E3 {Q:List a8->af->Prop} (hh:A.handled=none) (hS:cW w s.heap S es ep t)
  (h:∀ (ord:List a8) (h':bf) (d:Lo) (tk:Nat),ord.Perm (es.toList.map (·.2))->(∀ b o,s.heap.get? b=some o->h'.get? b=some o)->s.heap.objs.size<=h'.objs.size->Q ord { s with heap:=h',drawn:=d,toks:=tk }) :
  ak (aE prog w) A (collect (.ref S)) Q E s:=by
 have hlt:=am hS.at_
 unfold collect
 refine a6 (wpAny_runValue (fD F.entry_proto_collect ?_))
 rw [eY F.plain_proto_collect _]
 show ak _ A.in1 (newList [] >>= fun l=>again (.builtin "list.__iadd__" ⟨[l,.ref S],[]⟩)) _ _ s
 refine a6 (bL ?_)
 refine ac ⟨mU F.plain_list_iadd _,fD F.entry_list_iadd ?_⟩
 rw [eY F.plain_list_iadd _]
 let s1:af:={ s with heap:=s.heap.push { cls:=.type "list",data:=.seq ([] : List a8).toArray } }
 have sz1:s1.heap.objs.size=s.heap.objs.size + 1:=cm ..
 have at1:s1.heap.get? s.heap.objs.size=some { cls:=.type "list",data:=.seq ([] : List a8).toArray }:=aG _ rfl
 have hS1:cW w s1.heap S es ep t:=hS.keep fun o e=>ae _ e
 show ak _ A.in1 (uH (.ref s.heap.objs.size) (.ref S) (.ref s.heap.objs.size)) _ _ s1
 have hT1:s1.TypeIs (.ref S) "set":=⟨_,hS1.at_,rfl⟩
 unfold uH
 refine a6 (iB hT1 ?_)
 have e1:wI (.ref s.heap.objs.size) (.ref S)=false:=by simp [wI,ej hlt]
 have e2:(iM "set" == iM "list")=false:=by decide
 have e3:(iM "set" == iM "tuple")=false:=by decide
 simp only [e1,e2,e3,Bool.or_false,c8,if_false]
 refine a6 (GC (A:=A.in1) (by simpa using hh) hS1 fun I fp ord St h' d hI hfp hfl pm W st kp tI=>?_)
 let s2:af:={ s1 with heap:=h',drawn:=d }
 have hS2:cW w s2.heap S es ep t:=hS1.keep fun o e=>kp S o e
 have hT2:s2.TypeIs (.ref S) "set":=⟨_,hS2.at_,rfl⟩
 refine a6 (c7 ?_)
 unfold Builtin.List.listLengthHint
 refine a6 (wpAny_specialOf (s:=s2) hT2 F.slot_set_len.lookup ?_)
 dsimp only
 rw [show splitId "set.__len__"=some ("set","__len__") from by decide +kernel]
 dsimp only
 refine a6 (jA (b:=true) (s:=s2) hT2 (by rw [G8];kernel_rfl) ?_)
 rw [if_neg (by decide),if_pos (by decide)]
 refine a6 (iB (s:=s2) hT2 (ac ?_))
 rw [if_pos (by decide)]
 refine a6 (gG ?_)
 have nS:s.heap.objs.size∉fp:=fun z=>by
  rcases hfp _ z with q | q
  ·exact absurd hlt (by rw [<- q];exact bW _)
  ·rw [sz1] at q;exact absurd q (Nat.not_succ_le_self _)
 have at2:s2.heap.get? s.heap.objs.size=some { cls:=.type "list",data:=.seq ([] : List a8).toArray }:=kp _ _ at1
 refine a6 ?_
 show ak _ A.in1 (updateSeq s.heap.objs.size (·.push .none) >>= fun _=>updateSeq s.heap.objs.size (·.pop)) _ _ s2
 refine a6 (DF at2 rfl ?_)
 have at3:=gf (jH (·.push dQ)) at2 rfl
 refine DF at3 rfl ?_
 have at4:=gf (jH (·.pop)) at3 rfl
 have oth:∀ b o,b≠s.heap.objs.size->s2.heap.get? b=some o->((s2.heap.update s.heap.objs.size (jH (·.push dQ))).update s.heap.objs.size (jH (·.pop))).get? b=some o :=
  fun b o hb e=>(qu _ _ (dh hb)).trans ((qu _ _ (dh hb)).trans e)
 have zl:ord.length<=sizeLine:=by rw [pm.length_eq,ay,aq];exact fA hS.few
 have W1:=W A.in1 (by simpa using hh)
 refine ac ⟨mU F.plain_extend_loop _,codeAny_extend_loopS (A:=A) W1.toS zl _ nS _ ord.length 0 { s2 with heap:=(s2.heap.update s.heap.objs.size (jH (·.push dQ))).update s.heap.objs.size (jH (·.pop)) } _ _ rfl (eB _) (W1.frame 0 _ _ st fun b hb o e=>oth b o (fun z=>nS (z ▸ hb)) e) at4 (ItemsOf.nil _) fun s' acc' c' hm hS' hacc=>?_⟩
 show ak _ A (load s.heap.objs.size >>= _) _ _ s'
 refine a6 (wpAny_load hS' (ac ?_))
 have hacc':acc'.toList=ord:=by
  apply List.ext_getElem?
  intro j
  rw [eI]
  by_cases hj:j<acc'.size
  ·have:=hacc.2 j acc'[j] (by simp [hj])
   rw [this];simp [hj]
  ·rw [getElem?_neg acc' j hj,cB (by rw [<- hacc.1];omega)]
 rw [hacc']
 obtain ⟨h3,g3,d3,t3,o3⟩:=s'
 obtain rfl:g3=s.gens:=hm.gens
 obtain rfl:d3=d:=hm.drawn
 obtain rfl:o3=s.os:=hm.os
 have old:∀ b o,s.heap.get? b=some o->h3.get? b=some o:=fun b o e=>by
  have hb:=am e
  refine hm.heap b o ?_ (oth b o (aC hb) (kp b o (ae _ e)))
  simp only [aQ,aD,or_false,not_or]
  exact ⟨aC hb,aC (aF hb (by have q:=hI;rw [sz1] at q;exact Nat.le_of_succ_le q))⟩
 refine h ord h3 _ t3 pm old ?_
 have:=am (show h3.get? s.heap.objs.size=some _ from hS')
 exact bq this
theorem E4 {x:a8}{Q:a8->af->Prop} (hc:ak (aE prog w) A.in1 (collect x) (fun vs s1=>∃ ss,tM vs ss/\vs.length<64 /\
   ∀ (h':bf) (vs':List a8) (ss':List Str) (e:Nat),(∀ b o,s1.heap.get? b=some o->h'.get? b=some o)->h'.get? s1.heap.objs.size=some (seqObj "list" vs'.toArray e)->tM vs' ss'->ss'.Perm ss->sortedS ss'=true ->
    Q (.ref s1.heap.objs.size) { s1 with heap:=h' }) E s):ak (aE prog w) A (call (.builtin "sorted") [x]) Q E s:=by
 refine AV kind_sorted plain_sorted entry_sorted (args_sorted1 _) ?_
 unfold gj.«sorted»
 refine a6 (m:=checkCount "sorted" 1 1 _) (ac ?_)
 refine a6 (bc hc (fun vs s1 z=>?_) fun _ _ z=>z)
 obtain ⟨ss,hss,h64,hq⟩:=z
 refine a6 (wpAny_newList ?_)
 have at1:(s1.heap.push (seqObj "list" vs.toArray 0)).get? s1.heap.objs.size=some (seqObj "list" vs.toArray 0):=aG _ rfl
 show ak _ _ _ _ _ { s1 with heap:=s1.heap.push (seqObj "list" vs.toArray 0) }
 refine a6 (c7 (cu slot_list_sort ⟨_,at1,rfl⟩ entry_list_sort (list_sort_treeK strKind_oneLt at1 hss.keysOf (fun v₁ v₂ bK e=>keyKind_strs (by rw [<- e];exact hss)) h64 fun st' a1 a2=>⟨_,rfl,?_⟩) (args_list_sort _)))
 obtain ⟨ss',p1,p2,p3⟩:=sorted_out_str hss a1 a2
 obtain ⟨e,at2⟩:=sortedHeap_at (out:=(arrOf st').map (·.2)) at1
 refine ac ⟨_,rfl,hq _ _ ss' e (fun b o q=>?_) at2 p1 p2 p3⟩
 have hb:=am q
 rw [sortedHeap_old (aC hb) (by rw [cm];exact gR hb)]
 exact ae _ q
end
end
section
def lL (x y:Str):Bool:=decide (x.cps.toList<y.cps.toList)
def GD (x:Str):List Str->List Str
 | []=>[x]
 | y::r=>if lL y x then y::GD x r else x::y::r
def jO:List Str->List Str
 | []=>[]
 | x::r=>GD x (jO r)
theorem w4 (x:Str):∀ l,(GD x l).Perm (x::l)
 | []=>.refl _
 | y::r=>by
  rw [GD]
  split
  ·exact ((w4 x r).cons y).trans (.swap ..)
  ·exact .refl _
theorem h_:∀ l,(jO l).Perm l
 | []=>.refl _
 | x::r=>(w4 x _).trans ((h_ r).cons x)
theorem ml (x:Str):lL x x=false:=decide_eq_false (List.lt_irrefl _)
theorem lZ {x y z:Str} (h1:lL x y=true) (h2:lL y z=true):lL x z=true :=
 decide_eq_true (List.lt_trans (of_decide_eq_true h1) (of_decide_eq_true h2))
theorem xR {x y:Str} (h1:lL x y=false) (h2:lL y x=false):x=y:=by
 have h1:¬ x.cps.toList<y.cps.toList:=of_decide_eq_false h1
 have h2:¬ y.cps.toList<x.cps.toList:=of_decide_eq_false h2
 have:x.cps.toList=y.cps.toList:=List.le_antisymm (List.not_lt.mp h2) (List.not_lt.mp h1)
 cases x;cases y
 exact congrArg Str.mk (Array.toList_inj.mp this)
abbrev OY (l:List Str):Prop:=l.Pairwise fun a b=>lL b a=false
theorem MC (x:Str):∀ l,OY l->OY (GD x l)
 | [],_=>by simp [GD,OY]
 | y::r,h=>by
  obtain ⟨h1,h2⟩:=List.pairwise_cons.mp h
  rw [GD]
  split
  ·rename_i hy
   refine List.pairwise_cons.mpr ⟨fun z hz=>?_,MC x r h2⟩
   rcases List.mem_cons.mp ((w4 x r).mem_iff.mp hz) with e | e
   ·subst e
    cases q:lL z y with
    | false=>rfl
    | true=>exact absurd (lZ q hy) (by rw [ml];decide)
   ·exact h1 z e
  ·rename_i hy
   have hy:lL y x=false:=by simpa using hy
   refine List.pairwise_cons.mpr ⟨fun z hz=>?_,h⟩
   rcases List.mem_cons.mp hz with e | e
   ·subst e;exact hy
   ·cases q:lL z x with
    | false=>rfl
    | true =>
     have hzy:=h1 z e
     cases q2:lL x y with
     | true=>rw [lZ q q2] at hzy;cases hzy
     | false=>rw [<- xR hy q2,hzy] at q;cases q
theorem qN:∀ l,OY (jO l)
 | []=>.nil
 | x::r=>MC x _ (qN r)
theorem uV:∀ (p:Str) (l:List Str),risingS p l=true->OY (p::l)
 | p,[],_=>by simp [OY]
 | p,x::r,h=>by
  rw [risingS,aP] at h
  obtain ⟨h1,h2⟩:=h
  have h1:lL x p=false:=by
   rw [ltCps_eq] at h1
   simpa [lL] using h1
  have ih:=uV x r h2
  refine List.pairwise_cons.mpr ⟨fun z hz=>?_,ih⟩
  rcases List.mem_cons.mp hz with e | e
  ·rw [e];exact h1
  ·have hzx:=(List.pairwise_cons.mp ih).1 z e
   cases q:lL z p with
   | false=>rfl
   | true =>
    cases q2:lL p x with
    | true=>rw [lZ q q2] at hzx;cases hzx
    | false=>rw [xR q2 h1,hzx] at q;cases q
theorem Ci:∀ (l:List Str),sortedS l=true->OY l
 | [],_=>.nil
 | x::r,h=>uV x r h
theorem Bc:∀ {l l':List Str},l.Perm l'->OY l->OY l'->l=l'
 | [],l',p,_,_=>by rw [List.nil_perm.mp p]
 | x::r,[],p,_,_=>by have:=p.length_eq;simp at this
 | x::r,y::r',p,h,h'=>by
  obtain ⟨a1,a2⟩:=List.pairwise_cons.mp h
  obtain ⟨b1,b2⟩:=List.pairwise_cons.mp h'
  have e:x=y:=by
   have hx:x∈y::r':=p.mem_iff.mp al
   have hy:y∈x::r:=p.mem_iff.mpr al
   rcases List.mem_cons.mp hx with e | e
   ·exact e
   ·rcases List.mem_cons.mp hy with e' | e'
    ·exact e'.symm
    ·exact xR (b1 x e) (a1 y e')
  subst e
  rw [Bc (List.Perm.cons_inv p) a2 b2]
theorem E5 {l l':List Str} (p:l'.Perm l) (h:sortedS l'=true):l'=jO l:=Bc (p.trans (h_ l).symm) (Ci _ h) (qN l)
theorem w5 {l:List Str} (h:OY l) (nd:l.Nodup):l.Pairwise fun a b=>lL a b=true:=by
 induction l with
 | nil=>exact .nil
 | cons x r ih =>
  obtain ⟨a1,a2⟩:=List.pairwise_cons.mp h
  obtain ⟨n1,n2⟩:=List.nodup_cons.mp nd
  refine List.pairwise_cons.mpr ⟨fun y hy=>?_,ih a2 n2⟩
  cases q:lL x y with
  | true=>rfl
  | false=>exact absurd (xR q (a1 y hy) ▸ hy) n1
theorem lM:∀ {ss:List Str}{us:List a8},cV (ss.map V.str) us->tM us ss
 | [],_,.nil=>.nil
 | x::r,_,.cons h t=>by obtain ⟨tk,rfl⟩:=h;exact .cons x tk (lM t)
theorem pi:∀ {ss:List Str}{us:List a8},tM us ss->cV (ss.map V.str) us
 | _,_,.nil=>.nil
 | _,_,.cons x t h=>.cons ⟨t,rfl⟩ (pi h)
theorem fE:∀ {ss:List Str}{us:List a8},tM us ss->us.length=ss.length
 | _,_,.nil=>rfl
 | _,_,.cons x t h=>by simp [fE h]
theorem yC {ss:List Str}{us:List a8} (h:tM us ss) (i:Nat) (v:a8) (e:us[i]?=some v):∃ x t,ss[i]?=some x/\v=jE x t:=by
 induction h generalizing i with
 | nil=>simp at e
 | cons y t _ ih =>
  cases i with
  | zero=>simp at e;exact ⟨y,t,by simp,e.symm⟩
  | succ i=>simp at e;simpa using ih i e
theorem uW {w:ba}:∀ {l:List (Int×a8)},(∀ e∈l,tS w e)->tM (l.map (·.2)) (l.map ka)
 | [],_=>.nil
 | e::r,h=>by
  obtain ⟨x,tk,rfl⟩:=h e al
  exact .cons x tk (uW fun e he=>h e (ao _ he))
theorem Cj {us us':List a8}{ss:List Str} (h:tM us ss) (p:us'.Perm us):∃ ss',tM us' ss'/\ss'.Perm ss:=by
 refine ⟨us'.map strOf,strsAre_map _ fun v hv=>h.all v (p.mem_iff.mp hv),?_⟩
 rw [<- h.strs]
 exact p.map _
def lN (w:ba) (a:ag) (ss:List Str):HO:=.ext fun h=>lw w h a ss
theorem Ck {P:aI}{w:ba}{H:Hp}{h:bf}{a:ag}{ss:List Str} (x:lw w h a ss):dn P w H h a (lN w a ss) :=
 ⟨x,let ⟨_,_,_,I,_⟩:=x;⟨_,I.at_⟩,fun _ _ y k=>y.keep k⟩
section
variable {X:Cx}
theorem E6 (hc:X.calm=true):jL X (.type "set") (fun xs H Q=>∃ p ss,xs=[.ref p]/\(mZ X.K H p (ss.map V.str)\/lm X.K H p (ss.map V.str))/\ss.length + 1<iX/\∀ a,H a=none->Q (.ref a) (upd H a (lN X.w a (de [] ss)))):=by
 intro pins s σ H xs us Q I r h
 obtain ⟨p,ss,rfl,hq,hz,q⟩:=h
 obtain ⟨u,rfl,rx⟩:=lI r
 cases rx
 have hh:=I.ok.hd hc
 have fin:∀ (h':bf) (tk:Nat),lw X.w h' s.heap.objs.size (de [] ss)->(∀ b o,s.heap.get? b=some o->h'.get? b=some o)->EP X pins σ Q (.ref s.heap.objs.size) { s with heap:=h',toks:=tk }:=fun h' tk hS kp =>
  ⟨.ref s.heap.objs.size,_,I.laid (t':=tk) kp (ar _) (Ck hS),rfl,q _ (I.hok.fresh (ar _))⟩
 rcases hq with hq | hq
 ·obtain ⟨its,r',⟨o,n,ho,h1,h2,h3⟩,_⟩:=I.list hq
  have sa:=lM r'
  exact uS (My (by simpa using hh) h1 ⟨n,h3⟩) ho (fun i v e=>yC sa i v (by simpa using e)) (by simp [fE sa]) (by simp [fE sa];exact hz) fin
 ·obtain ⟨its,r',⟨o,ho,h1,n,h3⟩,_⟩:=I.tuple hq
  have sa:=lM r'
  exact uS (PX (by simpa using hh) h1 ⟨n,h3⟩) ho (fun i v e=>yC sa i v (by simpa using e)) (by simp [fE sa]) (by simp [fE sa];exact hz) fin
theorem w6:jL X (.builtin "sorted") (fun xs H Q=>∃ p ss,xs=[.ref p]/\mZ X.K H p (ss.map V.str)/\ss.length<64/\∀ l,H l=none->Q (.ref l) (upd H l (.lst ((jO ss).map V.str)))):=by
 intro pins s σ H xs us Q I r h
 obtain ⟨p,ss,rfl,hq,hz,q⟩:=h
 obtain ⟨u,rfl,rx⟩:=lI r
 cases rx
 obtain ⟨its,r',pl,hl⟩:=I.list hq
 have sa:=lM r'
 refine sorted_strs pl.isList sa (by rw [fE sa];exact hz) fun out ss' a1 a2 a3=>?_
 obtain ⟨e,he⟩:=sortedAll_at s.heap its out
 have kp:∀ b o,s.heap.get? b=some o->(sortedAll s.heap its out).get? b=some o:=fun b o=>sortedAll_old
 obtain rfl:=E5 a2 a3
 refine ⟨.ref (s.heap.objs.size + 1),upd H (s.heap.objs.size + 1) (.lst ((jO ss).map V.str)),I.laid (t':=s.toks) kp (ib _) (show dn X.prog X.w _ _ _ (.lst _) from ⟨?_,out.toList,e,pi a1,by simpa [seqObj] using he⟩),rfl,q _ (I.hok.fresh (ib _))⟩
 rw [ay,(h_ ss).length_eq]
 have:=hl
 rw [ay] at this
 exact this
theorem xt (hc:X.calm=true):jL X (.builtin "sorted") (fun xs H Q=>∃ p ss,xs=[.ref p]/\H p=some (lN X.w p ss)/\ss.length<64/\∀ l,H l=none->Q (.ref l) (upd H l (.lst ((jO ss).map V.str)))):=by
 intro pins s σ H xs us Q I r h
 obtain ⟨p,ss,rfl,hq,hz,q⟩:=h
 obtain ⟨u,rfl,rx⟩:=lI r
 cases rx
 have hh:=I.ok.hd hc
 obtain ⟨⟨es,ep,t,S,pm⟩,_⟩:=(show dn X.prog X.w H s.heap p (lN X.w p ss) from I.hok p _ hq)
 refine E4 (E3 (by simpa using hh) S fun ord h' d tk po kp sz=>?_)
 obtain ⟨ss1,sa,p1⟩:=Cj (uW S.txt) po
 have ln:ss1.length=ss.length:=(p1.trans pm).length_eq
 refine ⟨ss1,sa,by rw [fE sa,ln];exact hz,fun h2 vs' ss' e kp2 at2 sa2 p2 s2=>?_⟩
 have kk:∀ b o,s.heap.get? b=some o->h2.get? b=some o:=fun b o e=>kp2 b o (kp b o e)
 have es':ss'=jO ss:=E5 (p2.trans (p1.trans pm)) s2
 subst es'
 have fr:=I.hok.fresh sz
 have ok2:dn X.prog X.w (upd H h'.objs.size (.lst ((jO ss).map V.str))) h2 h'.objs.size (.lst ((jO ss).map V.str)) :=
  ⟨by rw [ay,(h_ ss).length_eq];exact bJ (bq hz) (by rw [Dz];decide),vs',e,pi sa2,at2⟩
 exact ⟨.ref h'.objs.size,_,I.call' (s':={ s with heap:=h2,drawn:=d,toks:=tk }) (ch:=[]) rfl (Un.laid kk sz fr) (I.hok.laid kk sz ok2) I.bare (fun b z=>absurd z (by simp)),rfl,q _ fr⟩
end
end
section
section
variable {X:Cx}
theorem wP {prog:aI}{w:ba}{B:aX}{bs:List Bool}{its:List a8} (r:cV (bs.map V.bl) its):TruthOf prog w B (fun i v=>its.toArray[i]?=some v) (fun i=>bs.getD i false):=by
 intro i v s Q E hv hq
 have hv:its[i]?=some v:=by simpa using hv
 have hl:=r.length
 rw [ay] at hl
 obtain ⟨hi,_⟩:=List.getElem?_eq_some_iff.mp hv
 have hb:bs[i]?=some bs[i]:=aZ (by omega)
 obtain ⟨u,hu,ru⟩:=r.get (i:=i) (x:=.bl bs[i]) (by rw [aS,hb];rfl)
 rw [hv] at hu;cases hu
 cases ru
 have hq:Q (bs.getD i false) s:=hq
 rw [g6,hb] at hq
 exact eC hq
theorem MD (bs:List Bool):(bt bs.length).all (fun i=>bs.getD i false)=bs.all id:=by
 rw [im,cR,cR]
 constructor
 ·intro h b hb
  obtain ⟨i,hi,rfl⟩:=jb hb
  have:=h i (List.mem_range.mpr hi)
  simpa [g6,hi] using this
 ·intro h i hi
  have hi:=List.mem_range.mp hi
  have:=h bs[i] (g_ hi)
  simpa [g6,hi] using this
theorem ME (bs:List Bool):(bt bs.length).any (fun i=>bs.getD i false)=bs.any id:=by
 rw [im,lj,lj]
 constructor
 ·rintro ⟨i,hi,h⟩
  have hi:=List.mem_range.mp hi
  exact ⟨bs[i],g_ hi,by simpa [g6,hi] using h⟩
 ·rintro ⟨b,hb,h⟩
  obtain ⟨i,hi,rfl⟩:=jb hb
  exact ⟨i,List.mem_range.mpr hi,by simpa [g6,hi] using h⟩
theorem yD (hc:X.calm=true):jL X (.builtin "all") (fun xs H Q=>∃ p,∃ bs:List Bool,xs=[.ref p]/\mZ X.K H p (bs.map V.bl)/\Q (.bl (bs.all id)) H):=by
 intro pins s σ H xs us Q I r h
 obtain ⟨p,bs,rfl,hq,q⟩:=h
 obtain ⟨u,rfl,rx⟩:=lI r
 cases rx
 obtain ⟨its,r',pl,hl⟩:=I.list hq
 have ln:its.toArray.size=bs.length:=by have:=r'.length;simp at this ⊢;omega
 obtain ⟨o,ho,hk⟩:=pl.isList
 refine call_all_walk (lr pl.isList ⟨_,_,_,_,_,_,_,rfl,Af (by simpa using I.ok.hd hc) _ p (aC (am ho)) its.toArray,⟨⟨_,aG _ rfl,rfl,rfl⟩,pl.isList.push _⟩,wP r',fun h' tk kp=>?_⟩)
 rw [ln,MD]
 refine ⟨.bl _,H,I.kept (t':=tk) fun b o e=>kp b o ?_ (ae _ e),rfl,q⟩
 simp only [eU]
 exact aC (am e)
theorem yE (hc:X.calm=true):jL X (.builtin "any") (fun xs H Q=>∃ p,∃ bs:List Bool,xs=[.ref p]/\mZ X.K H p (bs.map V.bl)/\Q (.bl (bs.any id)) H):=by
 intro pins s σ H xs us Q I r h
 obtain ⟨p,bs,rfl,hq,q⟩:=h
 obtain ⟨u,rfl,rx⟩:=lI r
 cases rx
 obtain ⟨its,r',pl,hl⟩:=I.list hq
 have ln:its.toArray.size=bs.length:=by have:=r'.length;simp at this ⊢;omega
 obtain ⟨o,ho,hk⟩:=pl.isList
 refine call_any_walk (lr pl.isList ⟨_,_,_,_,_,_,_,rfl,Af (by simpa using I.ok.hd hc) _ p (aC (am ho)) its.toArray,⟨⟨_,aG _ rfl,rfl,rfl⟩,pl.isList.push _⟩,wP r',fun h' tk kp=>?_⟩)
 rw [ln,ME]
 refine ⟨.bl _,H,I.kept (t':=tk) fun b o e=>kp b o ?_ (ae _ e),rfl,q⟩
 simp only [eU]
 exact aC (am e)
theorem Ke:qi X (bN .LtE) (fun x y H Q=>∃ i j,x=.str i/\y=.str j/\Q (.bl (!decide (j.cps.toList<i.cps.toList))) H):=by
 intro pins s σ H x y v u Q I rx ry h
 obtain ⟨i,j,rfl,rfl,q⟩:=h
 obtain ⟨t,rfl⟩:=rx
 obtain ⟨t',rfl⟩:=ry
 exact PySem.P.le_str (hZ I q rfl)
end
end
section
def Ur (x:Str):It:=⟨fun i _=>i<x.cps.size,fun i H v H'=>H'=H/\∃ c,x.cps[i]?=some c/\v=.str ⟨#[c]⟩,fun i _=>x.cps.size<=i⟩
theorem MF {P:aI}{w:ba}{K:a7}{tg:b9} (x:Str) (t:Tok) (it:ag):Am P w K tg (Ur x) [it] it (fun i h=>h.IsStrIter it (iw x) x t i) where
 mem:=by simp
 obj:=fun i h st b hb=>by
  obtain rfl:b=it:=by simpa using hb
  obtain ⟨o,e,c,d⟩:=st
  exact ⟨o,e,fun v z=>by rw [d] at z;cases z⟩
 keep:=fun i h h' st k=>let ⟨o,e,r⟩:=st;⟨o,k it (by simp) o e,r⟩
 item:=by
  intro X hP hw hK hc i pins s σ H E I hf st hg
  subst hP hw hK
  have hg:i<x.cps.size:=hg
  obtain ⟨f0,f1,f2,f3,f4,f5⟩:=hf it (by simp)
  have hx:x.cps[i]?=some x.cps[i]:=getElem?_pos _ i hg
  have go:∀ (h':bf) (tk tk':Nat),h'.IsStrIter it (iw x) x t (i + 1)->bI it s.heap h'->∃ u,some (jE ⟨#[x.cps[i]]⟩ tk)=some u /\
    ak (aE X.prog X.w) X.A (gY tg (.ref it) u) (fun _ s2=>∃ v H',bF X pins σ H' s2/\dw v u/\(Ur x).yld i H v H'/\s2.heap.IsStrIter it (iw x) x t (i + 1)/\∀ b∈[it],H' b=none) E { s with heap:=h',toks:=tk' }:=fun h' tk tk' st' sb=>by
   have I1:bF X pins σ H { s with heap:=h',toks:=tk' }:=I.turned (fun b o hb e=>(sb.2 b hb).trans e) f0 f1 f3 f4 f5
   refine ⟨_,rfl,?_⟩
   have q:∃ v H',bF X pins σ H' { s with heap:=h',toks:=tk' }/\dw v (jE ⟨#[x.cps[i]]⟩ tk)/\(Ur x).yld i H v H'/\h'.IsStrIter it (iw x) x t (i + 1)/\∀ b∈[it],H' b=none :=
    ⟨.str ⟨#[x.cps[i]]⟩,H,I1,⟨tk,rfl⟩,⟨rfl,_,hx,rfl⟩,st',fun b hb=>(hf b hb).1⟩
   unfold gY
   cases tg<;>exact ac q
  cases ha:x.cps.all (·<128)
  ·have ty:iw x="str_iterator":=by unfold iw;rw [ha];rfl
   rw [ty] at st
   exact wpAny_pyNext_wide_item st hx fun h' st' sb=>go h' _ _ (by rw [ty];exact st') sb
  ·have ty:iw x="str_ascii_iterator":=by unfold iw;rw [ha];rfl
   rw [ty] at st
   exact wpAny_pyNext_ascii_item st hx fun h' st' sb=>go h' _ _ (by rw [ty];exact st') sb
 done:=by
  intro X hP hw hK hc i pins s σ H E I hf st hg
  subst hP hw hK
  have hg:x.cps.size<=i:=hg
  obtain ⟨f0,f1,f2,f3,f4,f5⟩:=hf it (by simp)
  have hx:x.cps[i]?=none:=getElem?_neg _ i (Nat.not_lt.mpr hg)
  unfold iw at st
  cases ha:x.cps.all (·<128)
  ·rw [ha] at st
   exact wpAny_pyNext_wide_end (I.ok.hd hc) st hx fun h' eb=>⟨rfl,I.turned (t':=s.toks) (fun b o hb e=>eb b o hb e) f0 f1 f3 f4 f5⟩
  ·rw [ha] at st
   exact wpAny_pyNext_ascii_end (I.ok.hd hc) st hx fun h' eb=>⟨rfl,I.turned (t':=s.toks) (fun b o hb e=>eb b o hb e) f0 f1 f3 f4 f5⟩
 self:=fun _ _ _ _ _ st h=>by
  unfold iw at st
  cases ha:x.cps.all (·<128)
  ·rw [ha] at st;exact wpAny_pyIter_striter_wide st h
  ·rw [ha] at st;exact wpAny_pyIter_striter_ascii st h
def WH (tl:TE):TI:=fun σ H R=>tl σ H fun v H1=>∃ x,v=.str x/\R (Ur x) H1
theorem MG {X:Cx}{tg l:b9}{tl:TE} (hl:PE X l tl):PI X tg l (WH tl):=by
 intro pins s σ H R I h
 refine fW (hl pins s σ H _ I h) fun v s1 h_0=>?_
 obtain ⟨y,H1,I1,r1,q1⟩:=h_0
 obtain ⟨x,rfl,q⟩:=q1
 obtain ⟨t,rfl⟩:=r1
 refine wpAny_pyIter_strU ?_
 refine ⟨s1.heap.objs.size,[s1.heap.objs.size],_,_,H1,rfl,I1.kept (t':=s1.toks) fun b o e=>ae _ e,MF x t _,⟨_,aG _ rfl,rfl,rfl⟩,fun b hb=>?_,q⟩
 obtain rfl:b=s1.heap.objs.size:=by simpa using hb
 exact I1.fpOk (ar _) (I1.hok.fresh (ar _))
end
section
section
variable {X:Cx}{pins:List (ag×Obj)}{σ:St}{H H':Hp}{s:af}{h':bf}
theorem bF.turnedL {t':Nat}{ch:List ag} (I:bF X pins σ H s) (k:∀ b o,b∉ch->s.heap.get? b=some o->h'.get? b=some o) (hf:∀ b∈ch,qI X pins H b):bF X pins σ H { s with heap:=h',toks:=t' }:=by
 have nt:∀ b u,H b=some u->b∉ch:=fun b u e z=>by rw [(hf b z).1] at e;cases e
 refine I.step (g':=s.gens) (d':=s.drawn) (ch:=ch) (fun b hb=>?_) (fun b o _ _ hc e _=>k b o hc e) (fun b o _ _ hc e _=>⟨o.slots,k b o hc e⟩) (fun _ _ _ _ n=>n)
  (fun b o hc e=>⟨o,k b o hc e⟩) (fun _ _ e=>e) (fun _ _ _ e=>e) (fun b ps e=>⟨#[],by rw [e];simp⟩) (fun m hm=>?_) (fun b u e=>?_) I.bare
 ·obtain ⟨f0,f1,f2,f3,f4,f5⟩:=hf b hb
  exact ⟨f3,f1,f4,f5⟩
 ·obtain ⟨o,es,ep,ho,r⟩:=hm
  exact ⟨o,es,ep,k _ o (fun z=>(hf _ z).f1 rfl) ho,r⟩
 ·refine (I.hok b u e).stay (fun c v hc q=>k c v ?_ q) (fun _ q=>q) fun _ _ q=>q
  rcases hc with z | z
  ·rw [z];exact nt b u e
  ·exact nt c _ z
theorem bF.track {D:ag}{ho:HO} (I:bF X pins σ H s) (hf:qI X pins H D) (new:dn X.prog X.w (upd H D ho) s.heap D ho):bF X pins σ (upd H D ho) s:=by
 obtain ⟨f0,f1,f2,f3,f4,f5⟩:=hf
 have I':bF X pins σ (upd H D ho) { s with heap:=s.heap,gens:=s.gens,drawn:=s.drawn,toks:=s.toks }:=I.step (ch:=[D]) (fun b hb=>by
   obtain rfl:b=D:=by simpa using hb
   exact ⟨f3,f1,f4,f5⟩) (fun b o _ _ _ e _=>e) (fun b o _ _ _ e _=>⟨o.slots,e⟩) (fun b o hc e n=>by rw [b6 (fun z=>hc (by simp [z]))];exact n) (fun b o _ e=>⟨o,e⟩)
  (fun b xs e=>by rw [b6 (bn e f0)];exact e) (fun b o xs e=>by rw [b6 (bn e f0)];exact e) (fun b ps e=>⟨#[],by rw [b6 (bn e f0),e];simp⟩) (fun m hm=>hm) (rT I.hok f0 new) I.bare
 exact I'
end
section
variable {prog:aI}{w:ba}{A:aX}{E:a8->af->Prop}{s:af}{it l:ag}{i:Nat}{items:Array a8}
theorem uX {x:a8}{Q:a8->af->Prop} (ti:s.heap.IsTupleIter it l i) (tl:s.heap.IsTuple l items) (hx:items[i]?=some x)
  (q:∀ h',h'.IsTupleIter it l (i + 1)->bI it s.heap h'->Q x { s with heap:=h' }):ak (aE prog w) A (cy (.ref it)) Q E s:=by
 obtain ⟨oi,ei,ci,di⟩:=id ti
 obtain ⟨ot,et,_,nt,dt⟩:=tl
 unfold cy
 refine a6 (cF (name:=ii "__next__") ti.typeIs j3 ?_)
 refine cu j3 ti.typeIs DC ?_ (C0 _)
 show ak _ _ (Ga (.ref it) 0 >>= _) _ _ s
 refine a6 (cO ei di (x:=.ref l) rfl ?_)
 show ak _ _ (if (bE l == dQ)=true then _ else _) _ _ s
 rw [if_neg (fun z:(bE l == dQ)=true=>aN z)]
 show ak _ _ (Ga (.ref it) 1 >>= _) _ _ s
 refine a6 (cO ei di (x:=.int i 0) rfl ?_)
 show ak _ _ (Lw (.ref l) >>= _) _ _ s
 refine a6 (eG et dt ?_)
 simp only [kj,hx]
 refine a6 (jh ei di (by simp) (ac ⟨x,rfl,ac (q _ ?_ (bU ..))⟩))
 refine ⟨_,gf _ ei (Obj.isFreed_of_fields (LR di _)),(Obj.cls_mapFields ..).trans ci,?_⟩
 rw [LR di];simp [cx]
theorem uY {Q:a8->af->Prop} (hh:A.handled=none) (ti:s.heap.IsTupleIter it l i) (tl:s.heap.IsTuple l items) (hx:items[i]?=none)
  (q:∀ h' e,Heap.ExtBut it s.heap h'->(∃ o,h'.get? e=some o/\o.cls=.type "StopIteration")->E (.ref e) { s with heap:=h' }):ak (aE prog w) A (cy (.ref it)) Q E s:=by
 obtain ⟨oi,ei,ci,di⟩:=id ti
 obtain ⟨ot,et,_,nt,dt⟩:=tl
 unfold cy
 refine a6 (cF (name:=ii "__next__") ti.typeIs j3 ?_)
 refine cu j3 ti.typeIs DC ?_ (C0 _)
 show ak _ _ (Ga (.ref it) 0 >>= _) _ _ s
 refine a6 (cO ei di (x:=.ref l) rfl ?_)
 show ak _ _ (if (bE l == dQ)=true then _ else _) _ _ s
 rw [if_neg (fun z:(bE l == dQ)=true=>aN z)]
 show ak _ _ (Ga (.ref it) 1 >>= _) _ _ s
 refine a6 (cO ei di (x:=.int i 0) rfl ?_)
 show ak _ _ (Lw (.ref l) >>= _) _ _ s
 refine a6 (eG et dt ?_)
 simp only [kj,hx]
 refine a6 (gG (a6 (jh ei di (by simp) ?_)))
 show ak _ _ (yg (.type "StopIteration") [] >>= _) _ _ _
 refine a6 ?_
 simp only [yg,newTuple]
 refine a6 (bL ?_ (by size_fits))
 refine a6 (m:=vS _ _) (vQ (a:=dQ) ?_ ?_)
 ·first
   | rfl
   | (simp only [vS];rfl)
 refine bL ?_ (by size_fits)
 simp only [vR]
 refine a6 (wpAny_handled ?_)
 rw [show A.in1.handled=none from hh]
 refine a6 (ac (wpAny_throw ?_))
 exact q _ _ (((bU ..).extBut.push _).push _) ⟨_,aG _ rfl,rfl⟩
theorem Kf (hh:A.handled=none) (it l:ag) (hne:l≠it) (items:Array a8) :
  Draws prog w A it [it,l] items.size (fun i v=>items[i]?=some v) (fun i h=>h.IsTupleIter it l i/\h.IsTuple l items) where
 live:=fun i h st=>let ⟨o,e,_⟩:=st.1;⟨o,e⟩
 frame:=fun i h h' st k=>⟨let ⟨o,e,r⟩:=st.1;⟨o,k it (by simp) o e,r⟩,let ⟨o,e,r⟩:=st.2;⟨o,k l (by simp) o e,r⟩⟩
 item:=fun i s Q E hi st q=>uX st.1 st.2 (x:=items[i]) (by simp [hi]) fun h' t' sb=>q _ h' s.toks (by simp [hi]) ⟨t',st.2.extBut sb.extBut hne⟩ sb
 done:=fun s Q E st q=>uY hh st.1 st.2 (by simp) q
end
theorem yF (l:ag) (items:Array a8) (n:Nat) (dct:Option ag) (sl:Array (Option a8)) :
  Meets (gj.«enumerate.__new__» ⟨[.type "enumerate",.ref l],[]⟩) (fun _ R s=>s.heap.get? l=some { cls:=.type "tuple",dict:=dct,data:=.seq items n,slots:=sl } /\
   R (.ok (.ret (.ref (s.heap.push { cls:=.type "tuple_iterator",data:=.fields #[.ref l,.int 0 0] }).objs.size)))
    { s with heap:=(s.heap.push { cls:=.type "tuple_iterator",data:=.fields #[.ref l,.int 0 0] }).push { cls:=.type "enumerate",data:=.fields #[.none,.bool false,.ref s.heap.objs.size,cx 0,.none,.none] } }) :=
 .of_wp fun prog w A R s h=>by
  obtain ⟨hp,g,d,tk,os⟩:=s
  obtain ⟨hl,h⟩:=h
  have hsub:=PySem.sub_enumerate
  have hL:FP (FQ ⟨hp,g,d,tk,os⟩) l items:=⟨_,hl,rfl,n,rfl⟩
  wp_walk using gq hl
  refine wpAny_stack_any fun st=>ac ?_
  split
  ·rename_i c _ _ _ _ _
   cases (c == iM "enumerate")
   ·wp_walk using gq hl,gH hL
    exact ⟨_,rfl,h⟩
   ·wp_walk using gq hl,gH hL
    exact ⟨_,rfl,h⟩
  ·wp_walk using gq hl,gH hL
   exact ⟨_,rfl,h⟩
end
section
section
variable {prog:aI}{w:ba}{A:aX}{E:a8->af->Prop}{s:af}
theorem Ap {l:ag}{items:Array a8}{Q:a8->af->Prop} (hL:s.heap.IsTuple l items)
  (h:∀ h',IsEnum h' (s.heap.objs.size + 1) s.heap.objs.size 0 .none->h'.IsTupleIter s.heap.objs.size l 0->(∀ b o,s.heap.get? b=some o->h'.get? b=some o)->h'.objs.size=s.heap.objs.size + 2 ->
   Q (.ref (s.heap.objs.size + 1)) { s with heap:=h' }):ak (aE prog w) A (call (.type "enumerate") [.ref l]) Q E s:=by
 obtain ⟨⟨c,dc,dt,sl⟩,hl,hc,n,hd⟩:=hL
 obtain rfl:c=.type "tuple":=hc
 obtain rfl:dt=.seq items n:=hd
 refine callType_new F.called_enumerate (by decide) (F.typeCall_enumerate_1 _) (F.newCall_enumerate_1 _) (fun obj=>F.args_object_init_2 obj _) F.entry_enumerate_new (yF l items n dc sl) ⟨hl,?_⟩
 have z1:(s.heap.push { cls:=.type "tuple_iterator",data:=.fields #[.ref l,.int 0 0] }).objs.size=s.heap.objs.size + 1:=cm ..
 show _/\_
 rw [z1]
 have he:IsEnum ((s.heap.push { cls:=.type "tuple_iterator",data:=.fields #[.ref l,.int 0 0] }).push { cls:=.type "enumerate",data:=.fields #[.none,.bool false,.ref s.heap.objs.size,cx 0,.none,.none] }) (s.heap.objs.size + 1) s.heap.objs.size 0 .none:=by
  have q:=aG (s.heap.push { cls:=.type "tuple_iterator",data:=.fields #[.ref l,.int 0 0] }) (o:={ cls:=.type "enumerate",data:=.fields #[.none,.bool false,.ref s.heap.objs.size,cx 0,.none,.none] }) rfl
  rw [z1] at q
  exact q
 exact ⟨⟨_,he,rfl⟩,h _ he ⟨_,ae _ (aG _ rfl),rfl,rfl⟩ (fun b o e=>ae _ (ae _ e)) (by rw [cm,z1])⟩
end
def WI (K:a7) (a:ag):It :=
 ⟨fun i H=>∃ xs x,lm K H a xs/\xs[i]?=some x,fun i H v H'=>∃ p,H p=none/\v=.ref p/\∀ xs,lm K H a xs->∃ x,xs[i]?=some x/\H'=upd H p (.tup [.int i,x]),fun i H=>∃ xs,lm K H a xs/\xs.length<=i⟩
theorem Kg {P:aI}{w:ba}{K:a7}{elts:List b9}{x1}{pos:Pos} (a e it:ag) (hei:e≠it):Am P w K (.Tuple elts x1 pos) (WI K a) [e,it] e (fun i h=>(∃ old,IsEnum h e it i old)/\h.IsTupleIter it a i) where
 mem:=by simp
 obj:=fun i h st b hb=>by
  simp only [aQ,aD,or_false] at hb
  rcases hb with rfl | rfl
  ·obtain ⟨⟨old,q⟩,_⟩:=st
   exact ⟨_,q,fun v z=>by cases z⟩
  ·obtain ⟨_,o,q,_,d⟩:=st
   exact ⟨o,q,fun v z=>by rw [d] at z;cases z⟩
 keep:=fun i h h' st k=>⟨let ⟨old,q⟩:=st.1;⟨old,k e (by simp) _ q⟩,let ⟨o,q,r⟩:=st.2;⟨o,k it (by simp) o q,r⟩⟩
 item:=by
  intro X hP hw hK hc i pins s σ H E I hf st hg
  subst hP hw hK
  obtain ⟨xs,x,hq,hx⟩:=hg
  obtain ⟨its,rv,p,hz⟩:=I.tuple hq
  obtain ⟨u,hu,ru⟩:=rv.get hx
  obtain ⟨⟨old,he⟩,hit⟩:=st
  have hit0:=hit
  obtain ⟨oi,ei,_⟩:=hit0
  have hai:a≠it:=fun z=>by
   obtain ⟨o1,e1,c1,_⟩:=p
   obtain ⟨o2,e2,c2,_⟩:=hit
   rw [z,e2] at e1;cases e1;rw [c2] at c1;exact absurd (H_ c1) (by decide)
  have hae:a≠e:=fun z=>by
   obtain ⟨o1,e1,c1,_⟩:=p
   rw [z,he] at e1;cases e1;exact absurd (H_ (show iM "enumerate"=iM "tuple" from c1)) (by decide)
  have hlt:i<its.toArray.size:=by simp;exact (List.getElem?_eq_some_iff.mp hu).1
  have he0:=am he
  refine wpAny_pyNext_enum_itemD (Kf (by simpa using I.ok.hd hc) it a hai its.toArray) he ⟨hit,p⟩ hlt hei (by simp [hei,dh hae]) ?_
  intro x' h1 tk hx' eo st1 tup sz k1
  have hx'':its[i]?=some x':=by simpa using hx'
  rw [hu] at hx'';cases hx''
  refine ⟨_,rfl,Gb eo fun h2 e2 sb2=>?_⟩
  have szn:s.heap.objs.size≠e:=ej he0
  have I2:bF X pins σ H { s with heap:=h2,toks:=tk + 1 }:=I.turnedL (ch:=[e,it]) (fun b o hb q=>by
   simp only [aQ,aD,or_false,not_or] at hb
   exact (sb2.2 b hb.1).trans (k1 b o hb.1 hb.2 q)) hf
  have fT:=I.fpOk (H':=H) (ar _) (I.hok.fresh (ar _))
  have tup2:h2.get? s.heap.objs.size=some { cls:=.type "tuple",data:=.seq #[.int i tk,u] }:=(sb2.2 _ szn).trans tup
  have I3:=I2.track (ho:=.tup [.int i,x]) fT ⟨by show 2<=sizeLine;decide,[.int i tk,u],.cons ⟨tk,rfl⟩ (.cons ru .nil),⟨_,tup2,rfl,0,rfl⟩⟩
  refine ⟨.ref s.heap.objs.size,_,I3,rfl,⟨_,fT.1,rfl,fun ys hy=>?_⟩,⟨⟨u,?_⟩,?_⟩,fun b hb=>?_⟩
  ·rw [I.tuple_inj hy hq];exact ⟨x,hx,rfl⟩
  ·have:(((i + 1:Nat):Int))=(i:Int) + 1:=by omega
   rw [this];exact e2
  ·obtain ⟨o,q,r⟩:=st1.1
   exact ⟨o,(sb2.2 it (dh hei)).trans q,r⟩
  ·rw [b6]
   ·exact (hf b hb).1
   ·simp only [aQ,aD,or_false] at hb
    rcases hb with z | z
    ·rw [z];exact aC he0
    ·rw [z];exact aC (am ei)
 done:=by
  intro X hP hw hK hc i pins s σ H E I hf st hg
  subst hP hw hK
  obtain ⟨xs,hq,hx⟩:=hg
  obtain ⟨its,rv,p,hz⟩:=I.tuple hq
  obtain ⟨⟨old,he⟩,hit⟩:=st
  have hl:=rv.length
  have hT:s.TypeIs (.ref e) "enumerate":=⟨_,he,rfl⟩
  unfold nQ
  refine a6 (mV (cF (name:=ii "__next__") hT Lx ?_))
  refine cu Lx hT F.entry_enumerate_next ?_ (F.args_enumerate_next_1 _)
  show ak _ _ (Ga (.ref e) 2 >>= _) _ _ _
  refine a6 (cO he rfl (x:=.ref it) rfl ?_)
  refine a6 (uY (by simpa using I.ok.hd hc) hit (show s.heap.IsTuple a its.toArray from p) (by simp;omega) fun h' z eb hz'=>?_)
  obtain ⟨o,ho,hcl⟩:=hz'
  refine a6 (jA (T:="StopIteration") (b:=true) ⟨o,ho,hcl⟩ G9 ?_)
  exact ac ⟨rfl,I.turnedL (t':=s.toks) (ch:=[e,it]) (fun b o hb q=>eb b o (by
   simp only [aQ,aD,or_false,not_or] at hb;exact hb.2) q) hf⟩
 self:=fun _ _ _ _ _ st h=>let ⟨⟨_,q⟩,_⟩:=st;qv q h
def Us (K:a7) (ta:TA):TI:=fun σ H R=>ta σ H fun vs H1=>∃ a xs,vs=[.ref a]/\lm K H1 a xs/\R (WI K a) H1
theorem PY {X:Cx}{elts:List b9}{x1}{tpos p pos:Pos}{a:b9}{ta:TA} (hg:Gl X "enumerate") (hm:X.mg "enumerate"=none) (ha:PA X [a] ta) (hs:aw [a] X.env=[(false,da a X.env)]:=by rfl) :
  PI X (.Tuple elts x1 tpos) (.Call (.Name "enumerate" p) [a] [] pos) (Us X.K ta):=by
 intro pins s σ H R I h
 refine Call_ (tQ I hg hm boot_enumerate (f9 (fW (ha pos pins s σ H _ I h) fun us s1 ⟨vs,H1,I1,r1,q1⟩=>?_) hs rfl))
 obtain ⟨ad,xs,rfl,hq,q⟩:=q1
 obtain ⟨u,rfl,rx⟩:=lI r1
 cases rx
 obtain ⟨its,rv,tp,hz⟩:=I1.tuple hq
 refine Ap (show s1.heap.IsTuple ad its.toArray from tp) fun h' e1 t1 kp sz=>?_
 refine qv e1 ?_
 have I2:bF X pins σ H1 { s1 with heap:=h' }:=I1.kept (t':=s1.toks) kp
 refine ⟨s1.heap.objs.size + 1,[s1.heap.objs.size + 1,s1.heap.objs.size],_,_,H1,rfl,I2,Kg ad _ _ (ej (fV _)),⟨⟨.none,e1⟩,t1⟩,fun b hb=>?_,q⟩
 simp only [aQ,aD,or_false] at hb
 rcases hb with z | z
 ·rw [z];exact I1.fpOk (ib _) (I1.hok.fresh (ib _))
 ·rw [z];exact I1.fpOk (ar _) (I1.hok.fresh (ar _))
end
section
section
variable {prog:aI}{w:ba}{A:aX}{E:a8->af->Prop}{s:af}{z TI TO i1 i2 l1 l2:ag}{k1 k2:Nat}{xs ys:Array a8}{x y a b:a8}
theorem jj {h h':bf}{it l:ag}{k:Nat}{c:ag} (t:h.IsTupleIter it l k) (sb:bI c h h') (ne:it≠c):h'.IsTupleIter it l k:=t.extBut sb.extBut ne
theorem pj {h h':bf}{l:ag}{xs:Array a8}{c:ag} (t:h.IsTuple l xs) (sb:bI c h h') (ne:l≠c):h'.IsTuple l xs:=t.extBut sb.extBut ne
theorem MH {Q:a8->af->Prop} (D:P8 z TI TO i1 i2 l1 l2) (za:vT s.heap z TI TO .none) (pa:ko s.heap TI (.ref i1) (.ref i2)) (pb:ko s.heap TO a b)
  (u1:s.heap.IsTupleIter i1 l1 k1) (u2:s.heap.IsTupleIter i2 l2 k2) (v1:s.heap.IsTuple l1 xs) (v2:s.heap.IsTuple l2 ys) (hx:xs[k1]?=some x) (hy:ys[k2]?=some y)
  (q:∀ h',vT h' z TI TO (cx s.heap.objs.size)->ko h' TO x y->h'.IsTupleIter i1 l1 (k1 + 1)->h'.IsTupleIter i2 l2 (k2 + 1)->ko h' s.heap.objs.size x y ->
   (∀ c o,c≠z->c≠TO->c≠i1->c≠i2->s.heap.get? c=some o->h'.get? c=some o)->Q (.ref s.heap.objs.size) { s with heap:=h' }) :
  ak (aE prog w) A (gj.«zip.__next__» ⟨[.ref z],[]⟩) (fun fin s'=>∃ v,fin=.done (.ret v)/\Q v s') E s:=by
 show ak _ _ (Ga (.ref z) 2 >>= _) _ _ _
 refine a6 (cO za rfl (x:=.bool false) rfl ?_)
 show ak _ _ (Ga (.ref z) 3 >>= _) _ _ _
 refine a6 (cO za rfl (x:=.ref TI) rfl ?_)
 refine a6 (eG pa rfl ?_)
 show ak _ _ (eP (.ref z) >>= _) _ _ _
 refine a6 ?_
 unfold eP
 refine a6 (cO za rfl (x:=.none) rfl (ac ?_))
 simp only [if_true]
 refine a6 (gG ?_)
 refine a6 (cO za rfl (x:=.ref TO) rfl ?_)
 refine a6 (iC za (by simp) fun g1 z1 b1=>?_)
 replace z1:vT g1 z TI TO .ellipsis:=z1
 refine a6 ?_
 simp only [OS,P9,lX,sS]
 refine a6 (a6 (xO ?_))
 show ak _ _ (cy (.ref i1) >>= _) _ _ _
 refine a6 (uX (jj u1 b1 D.i1z) (pj v1 b1 D.l1z) hx fun g2 w1 b2=>ac ?_)
 have p2:ko g2 TO a b:=b2.extBut _ _ D.TOi1 (b1.extBut _ _ D.TOz pb)
 refine a6 (eG p2 rfl (a6 (vU p2 fun g3 p3 b3=>?_)))
 replace p3:ko g3 TO x b:=p3
 refine a6 (Pa (ac (a6 (a6 (xO ?_)))))
 show ak _ _ (cy (.ref i2) >>= _) _ _ _
 refine a6 (uX (jj (jj (jj u2 b1 D.i2z) b2 D.i12.symm) b3 D.TOi2.symm) (pj (pj (pj v2 b1 D.l2z) b2 D.l2i1) b3 D.l2TO) hy fun g4 w2 b4=>ac ?_)
 have p4:ko g4 TO x b:=b4.extBut _ _ D.TOi2 p3
 refine a6 (eG p4 rfl (a6 (vU p4 fun g5 p5 b5=>?_)))
 replace p5:ko g5 TO x y:=p5
 refine a6 (Pa (ac (ac ?_)))
 refine a6 (eG p5 rfl (a6 (wpAny_newTuple ?_)))
 have sz:g5.objs.size=s.heap.objs.size:=by rw [b5.1,b4.1,b3.1,b2.1,b1.1]
 have z5:vT g5 z TI TO .ellipsis:=b5.extBut _ _ D.TOz.symm (b4.extBut _ _ D.i2z.symm (b3.extBut _ _ D.TOz.symm (b2.extBut _ _ D.i1z.symm z1)))
 have k5:∀ c o,c≠z->c≠TO->c≠i1->c≠i2->s.heap.get? c=some o->g5.get? c=some o:=fun c o n1 n2 n3 n4 e =>
  b5.extBut _ _ n2 (b4.extBut _ _ n4 (b3.extBut _ _ n2 (b2.extBut _ _ n3 (b1.extBut _ _ n1 e))))
 have y1:g5.IsTupleIter i1 l1 (k1 + 1):=jj (jj (jj w1 b3 D.TOi1.symm) b4 D.i12) b5 D.TOi1.symm
 have y2:g5.IsTupleIter i2 l2 (k2 + 1):=jj w2 b5 D.TOi2.symm
 have zl:z<g5.objs.size:=am z5
 show ak _ _ (ng (.ref z) (.ref g5.objs.size) >>= _) _ _ _
 refine a6 ?_
 unfold ng
 have z6:vT (g5.push { cls:=.type "tuple",data:=.seq #[x,y] }) z TI TO .ellipsis:=ae _ z5
 refine a6 (iC z6 (by simp) fun g7 z7 b7=>?_)
 replace z7:vT g7 z TI TO (cx g5.objs.size):=z7
 refine iC z7 (by simp) fun g8 z8 b8=>?_
 replace z8:vT g8 z TI TO (cx g5.objs.size):=z8
 have up:∀ c o,c≠z->g5.get? c=some o->g8.get? c=some o:=fun c o n1 e=>b8.extBut _ _ n1 (b7.extBut _ _ n1 (ae _ e))
 have p8:ko g8 g5.objs.size x y:=b8.extBut _ _ (ej zl) (b7.extBut _ _ (ej zl) (aG _ rfl))
 rw [sz] at z8 p8
 refine ac ⟨_,rfl,?_⟩
 show Q (.ref g5.objs.size) _
 rw [sz]
 exact q g8 z8 (up _ _ D.TOz p5) (let ⟨o,e,r⟩:=y1;⟨o,up _ o D.i1z e,r⟩) (let ⟨o,e,r⟩:=y2;⟨o,up _ o D.i2z e,r⟩) p8 fun c o n1 n2 n3 n4 e=>up c o n1 (k5 c o n1 n2 n3 n4 e)
theorem MI {Q:Fin->af->Prop} (hh:A.handled=none) (D:P8 z TI TO i1 i2 l1 l2) (za:vT s.heap z TI TO .none) (pa:ko s.heap TI (.ref i1) (.ref i2)) (pb:ko s.heap TO a b)
  (u1:s.heap.IsTupleIter i1 l1 k1) (u2:s.heap.IsTupleIter i2 l2 k2) (v1:s.heap.IsTuple l1 xs) (v2:s.heap.IsTuple l2 ys) (hend:xs[k1]?=none\/ys[k2]?=none)
  (q:∀ h' e,(∀ c o,c≠z->c≠TO->c≠i1->c≠i2->s.heap.get? c=some o->h'.get? c=some o)->(∃ o,h'.get? e=some o/\o.cls=.type "StopIteration")->E (.ref e) { s with heap:=h' }) :
  ak (aE prog w) A (gj.«zip.__next__» ⟨[.ref z],[]⟩) Q E s:=by
 show ak _ _ (Ga (.ref z) 2 >>= _) _ _ _
 refine a6 (cO za rfl (x:=.bool false) rfl ?_)
 show ak _ _ (Ga (.ref z) 3 >>= _) _ _ _
 refine a6 (cO za rfl (x:=.ref TI) rfl ?_)
 refine a6 (eG pa rfl ?_)
 show ak _ _ (eP (.ref z) >>= _) _ _ _
 refine a6 ?_
 unfold eP
 refine a6 (cO za rfl (x:=.none) rfl (ac ?_))
 simp only [if_true]
 refine a6 (gG ?_)
 refine a6 (cO za rfl (x:=.ref TO) rfl ?_)
 refine a6 (iC za (by simp) fun g1 z1 b1=>?_)
 replace z1:vT g1 z TI TO .ellipsis:=z1
 refine a6 ?_
 simp only [OS,P9,lX,sS]
 refine a6 (a6 (xO ?_))
 show ak _ _ (cy (.ref i1) >>= _) _ _ _
 cases hx:xs[k1]? with
 | none =>
  refine a6 (uY hh (jj u1 b1 D.i1z) (pj v1 b1 D.l1z) hx fun g2 e b2 he=>?_)
  obtain ⟨oe,ee,ce⟩:=he
  have z2:vT g2 z TI TO .ellipsis:=b2 _ _ D.i1z.symm z1
  have ez:e≠z:=fun n=>by subst n;rw [z2] at ee;cases ee;simp at ce
  refine iC z2 (by simp) fun g3 _ b3=>q g3 e (fun c o n1 _ n3 _ m=>b3.extBut _ _ n1 (b2 _ _ n3 (b1.extBut _ _ n1 m))) ⟨oe,b3.extBut _ _ ez ee,ce⟩
 | some x =>
  have hy:ys[k2]?=none:=hend.resolve_left fun n=>by rw [hx] at n;cases n
  refine a6 (uX (jj u1 b1 D.i1z) (pj v1 b1 D.l1z) hx fun g2 w1 b2=>ac ?_)
  have p2:ko g2 TO a b:=b2.extBut _ _ D.TOi1 (b1.extBut _ _ D.TOz pb)
  refine a6 (eG p2 rfl (a6 (vU p2 fun g3 p3 b3=>?_)))
  refine a6 (Pa (ac (a6 (a6 (xO ?_)))))
  show ak _ _ (cy (.ref i2) >>= _) _ _ _
  refine a6 (uY hh (jj (jj (jj u2 b1 D.i2z) b2 D.i12.symm) b3 D.TOi2.symm) (pj (pj (pj v2 b1 D.l2z) b2 D.l2i1) b3 D.l2TO) hy fun g4 e b4 he=>?_)
  obtain ⟨oe,ee,ce⟩:=he
  have z4:vT g4 z TI TO .ellipsis:=b4 _ _ D.i2z.symm (b3.extBut _ _ D.TOz.symm (b2.extBut _ _ D.i1z.symm z1))
  have ez:e≠z:=fun n=>by subst n;rw [z4] at ee;cases ee;simp at ce
  refine iC z4 (by simp) fun g5 _ b5=>q g5 e (fun c o n1 n2 n3 n4 m=>b5.extBut _ _ n1 (b4 _ _ n4 (b3.extBut _ _ n2 (b2.extBut _ _ n3 (b1.extBut _ _ n1 m))))) ⟨oe,b5.extBut _ _ ez ee,ce⟩
end
abbrev VR (h:bf) (l1:ag):bf:=h.push { cls:=.type "tuple_iterator",data:=.fields #[.ref l1,.int 0 0] }
abbrev VS (h:bf) (l1 l2:ag):bf:=(VR h l1).push { cls:=.type "tuple_iterator",data:=.fields #[.ref l2,.int 0 0] }
abbrev VT (h:bf) (l1 l2:ag):bf:=(VS h l1 l2).push { cls:=.type "tuple",data:=.seq #[.ref h.objs.size,.ref (VR h l1).objs.size] }
abbrev VU (h:bf) (l1 l2:ag):bf:=(VT h l1 l2).push { cls:=.type "tuple",data:=.seq #[.none,.none] }
abbrev TY (h:bf) (l1 l2:ag):bf:=(VU h l1 l2).push { cls:=.type "zip",data:=.fields #[.none,.bool false,.bool false,.ref (VS h l1 l2).objs.size,.ref (VT h l1 l2).objs.size] }
theorem Aq (l1 l2:ag) (xs ys:Array a8) :
  Meets (gj.«zip.__new__» ⟨[.type "zip",.ref l1,.ref l2],[]⟩) (fun _ R s=>s.heap.IsTuple l1 xs/\s.heap.IsTuple l2 ys/\R (.ok (.ret (.ref (VU s.heap l1 l2).objs.size))) { s with heap:=TY s.heap l1 l2 }) :=
 .of_wp fun prog w A R s h=>by
  obtain ⟨hp,g,d,tk,os⟩:=s
  obtain ⟨v1,v2,h⟩:=h
  have hsub:=PySem.sub_zip
  have L1:FP (FQ ⟨hp,g,d,tk,os⟩) l1 xs:=v1
  have L2:FP (FQ ⟨hp.push { cls:=.type "tuple_iterator",data:=.fields #[.ref l1,.int 0 0] },g,d,tk,os⟩) l2 ys:=Heap.IsTuple.push v2 _
  wp_walk using gH L1,gH L2
  exact ⟨_,rfl,h⟩
section
variable {prog:aI}{w:ba}{A:aX}{E:a8->af->Prop}{s:af}
theorem Cm {l1 l2:ag}{xs ys:Array a8}{Q:a8->af->Prop} (v1:s.heap.IsTuple l1 xs) (v2:s.heap.IsTuple l2 ys)
  (h:∀ h',vT h' (s.heap.objs.size + 4) (s.heap.objs.size + 2) (s.heap.objs.size + 3) .none->ko h' (s.heap.objs.size + 2) (.ref s.heap.objs.size) (.ref (s.heap.objs.size + 1)) ->
   ko h' (s.heap.objs.size + 3) .none .none->h'.IsTupleIter s.heap.objs.size l1 0->h'.IsTupleIter (s.heap.objs.size + 1) l2 0 ->
   (∀ c o,s.heap.get? c=some o->h'.get? c=some o)->Q (.ref (s.heap.objs.size + 4)) { s with heap:=h' }):ak (aE prog w) A (call (.type "zip") [.ref l1,.ref l2]) Q E s:=by
 refine callType_new F.called_zip (by decide) (F.typeCall_zip_2 _ _) (F.newCall_zip_2 _ _) (fun obj=>F.args_object_init_3 obj _ _) F.entry_zip_new (Aq l1 l2 xs ys) ⟨v1,v2,?_⟩
 have n1:(VR s.heap l1).objs.size=s.heap.objs.size + 1:=cm ..
 have n2:(VS s.heap l1 l2).objs.size=s.heap.objs.size + 2:=by rw [cm,n1]
 have n3:(VT s.heap l1 l2).objs.size=s.heap.objs.size + 3:=by rw [cm,n2]
 have n4:(VU s.heap l1 l2).objs.size=s.heap.objs.size + 4:=by rw [cm,n3]
 have c5:(TY s.heap l1 l2).get? (VU s.heap l1 l2).objs.size=some _:=aG _ rfl
 have c4:(TY s.heap l1 l2).get? (VT s.heap l1 l2).objs.size=some _:=ae _ (aG _ rfl)
 have c3:(TY s.heap l1 l2).get? (VS s.heap l1 l2).objs.size=some _:=ae _ (ae _ (aG _ rfl))
 have c2:(TY s.heap l1 l2).get? (VR s.heap l1).objs.size=some _:=ae _ (ae _ (ae _ (aG _ rfl)))
 have c1:(TY s.heap l1 l2).get? s.heap.objs.size=some _:=ae _ (ae _ (ae _ (ae _ (aG _ rfl))))
 show _/\_
 rw [n2,n3,n4] at c5
 rw [n1,n2] at c3
 rw [n3] at c4
 rw [n1] at c2
 rw [n4]
 exact ⟨⟨_,c5,rfl⟩,h _ c5 c3 c4 ⟨_,c1,rfl,rfl⟩ ⟨_,c2,rfl,rfl⟩ fun c o e=>ae _ (ae _ (ae _ (ae _ (ae _ e))))⟩
end
theorem lm.ne_fp {X:Cx}{pins:List (ag×Obj)}{σ:St}{H:Hp}{s:af}{a b:ag}{xs:List V} (I:bF X pins σ H s) (hq:lm X.K H a xs) (hf:qI X pins H b):a≠b:=by
 rintro rfl
 rcases hq with (h | ⟨o,h⟩) | ⟨o,its,n,hk,_⟩
 ·rw [hf.1] at h;cases h
 ·rw [hf.1] at h;cases h
 ·have e:X.base.get? a=some o:=I.mod.kin a o hk
  rcases hf.f3 with z | z
  ·exact I.ok.noex a o e z
  ·exact absurd (aF (am e) (bJ I.ok.bsz z)) (bW _)
def WJ (K:a7) (a b:ag):It :=
 ⟨fun i H=>∃ xs ys x y,lm K H a xs/\lm K H b ys/\xs[i]?=some x/\ys[i]?=some y,
  fun i H v H'=>∃ p,H p=none/\v=.ref p/\∀ xs ys,lm K H a xs->lm K H b ys->∃ x y,xs[i]?=some x/\ys[i]?=some y/\H'=upd H p (.tup [x,y]),
  fun i H=>∃ xs ys,lm K H a xs/\lm K H b ys/\(xs.length<=i\/ys.length<=i)⟩
structure WK (z TI TO i1 i2:ag):Prop where
 d1:TI≠z
 d2:TO≠z
 d3:i1≠z
 d4:i2≠z
 d5:TI≠TO
 d6:TI≠i1
 d7:TI≠i2
 d8:TO≠i1
 d9:TO≠i2
 d0:i1≠i2
theorem MJ {P:aI}{w:ba}{K:a7}{elts:List b9}{x1}{pos:Pos} (l1 l2 z TI TO i1 i2:ag) (Z:WK z TI TO i1 i2) :
  Am P w K (.Tuple elts x1 pos) (WJ K l1 l2) [z,TI,TO,i1,i2] z (fun i h=>vT h z TI TO .none/\ko h TI (.ref i1) (.ref i2)/\(∃ a b,ko h TO a b)/\h.IsTupleIter i1 l1 i/\h.IsTupleIter i2 l2 i) where
 mem:=by simp
 obj:=fun i h st b hb=>by
  obtain ⟨s1,s2,⟨_,_,s3⟩,⟨o4,e4,_,f4⟩,⟨o5,e5,_,f5⟩⟩:=st
  simp only [aQ,aD,or_false] at hb
  rcases hb with rfl | rfl | rfl | rfl | rfl
  ·exact ⟨_,s1,fun v q=>by cases q⟩
  ·exact ⟨_,s2,fun v q=>by cases q⟩
  ·exact ⟨_,s3,fun v q=>by cases q⟩
  ·exact ⟨o4,e4,fun v q=>by rw [f4] at q;cases q⟩
  ·exact ⟨o5,e5,fun v q=>by rw [f5] at q;cases q⟩
 keep:=fun i h h' st k=>by
  obtain ⟨s1,s2,⟨u,v,s3⟩,⟨o4,e4,r4⟩,⟨o5,e5,r5⟩⟩:=st
  exact ⟨k z (by simp) _ s1,k TI (by simp) _ s2,⟨u,v,k TO (by simp) _ s3⟩,⟨o4,k i1 (by simp) _ e4,r4⟩,⟨o5,k i2 (by simp) _ e5,r5⟩⟩
 item:=by
  intro X hP hw hK hc i pins s σ H E I hf st hg
  subst hP hw hK
  obtain ⟨xs,ys,x,y,hq1,hq2,hx,hy⟩:=hg
  obtain ⟨its1,rv1,p1,_⟩:=I.tuple hq1
  obtain ⟨its2,rv2,p2,_⟩:=I.tuple hq2
  obtain ⟨u,hu,ru⟩:=rv1.get hx
  obtain ⟨v,hv,rv⟩:=rv2.get hy
  obtain ⟨s1,s2,⟨a,b,s3⟩,s4,s5⟩:=st
  have ne1:∀ b∈[z,TI,TO,i1,i2],l1≠b:=fun b hb=>hq1.ne_fp I (hf b hb)
  have ne2:∀ b∈[z,TI,TO,i1,i2],l2≠b:=fun b hb=>hq2.ne_fp I (hf b hb)
  have D:P8 z TI TO i1 i2 l1 l2:=⟨Z.d1,Z.d2,Z.d3,Z.d4,Z.d5,Z.d6,Z.d7,Z.d8,Z.d9,Z.d0,ne1 z (by simp),ne1 TO (by simp),ne1 i1 (by simp),ne1 i2 (by simp),ne2 z (by simp),ne2 TO (by simp),ne2 i1 (by simp),ne2 i2 (by simp)⟩
  have zl:=am s1
  have hT:s.TypeIs (.ref z) "zip":=⟨_,s1,rfl⟩
  unfold nQ
  refine a6 (mV (cF (name:=ii "__next__") hT sU ?_))
  refine cu sU hT F.entry_zip_next (MH D s1 s2 s3 s4 s5 p1 p2 (by simpa using hu) (by simpa using hv) fun h1 z1 t1 y1 y2 pr k1=>?_) (F.args_zip_next_1 _)
  refine ac ⟨_,rfl,wpAny_letOwnedTupleGo_zip z1 fun h2 z2 b2=>?_⟩
  have szn:s.heap.objs.size≠z:=ej zl
  have TIk:ko h1 TI (.ref i1) (.ref i2):=k1 TI _ Z.d1 Z.d5 Z.d6 Z.d7 s2
  have I2:bF X pins σ H { s with heap:=h2 }:=I.turnedL (t':=s.toks) (ch:=[z,TI,TO,i1,i2]) (fun b o hb q=>by
   simp only [aQ,aD,or_false,not_or] at hb
   exact (b2.2 b hb.1).trans (k1 b o hb.1 hb.2.2.1 hb.2.2.2.1 hb.2.2.2.2 q)) hf
  have fT:=I.fpOk (H':=H) (ar _) (I.hok.fresh (ar _))
  have pr2:h2.get? s.heap.objs.size=some { cls:=.type "tuple",data:=.seq #[u,v] }:=(b2.2 _ szn).trans pr
  have I3:=I2.track (ho:=.tup [x,y]) fT ⟨by show 2<=sizeLine;decide,[u,v],.cons ru (.cons rv .nil),⟨_,pr2,rfl,0,rfl⟩⟩
  refine ⟨.ref s.heap.objs.size,_,I3,rfl,⟨_,fT.1,rfl,fun xs' ys' h1 h2=>?_⟩,⟨z2,(b2.2 TI Z.d1).trans TIk,⟨u,v,(b2.2 TO Z.d2).trans t1⟩,jj y1 b2 Z.d3,jj y2 b2 Z.d4⟩,fun b hb=>?_⟩
  ·rw [I.tuple_inj h1 hq1,I.tuple_inj h2 hq2];exact ⟨x,y,hx,hy,rfl⟩
  ·have bl:b<s.heap.objs.size:=by
    simp only [aQ,aD,or_false] at hb
    rcases hb with q | q | q | q | q
    ·rw [q];exact zl
    ·rw [q];exact am s2
    ·rw [q];exact am s3
    ·obtain ⟨_,e,_⟩:=s4;rw [q];exact am e
    ·obtain ⟨_,e,_⟩:=s5;rw [q];exact am e
   rw [b6 (aC bl)];exact (hf b hb).1
 done:=by
  intro X hP hw hK hc i pins s σ H E I hf st hg
  subst hP hw hK
  obtain ⟨xs,ys,hq1,hq2,hend⟩:=hg
  obtain ⟨its1,rv1,p1,_⟩:=I.tuple hq1
  obtain ⟨its2,rv2,p2,_⟩:=I.tuple hq2
  obtain ⟨s1,s2,⟨a,b,s3⟩,s4,s5⟩:=st
  have ne1:∀ b∈[z,TI,TO,i1,i2],l1≠b:=fun b hb=>hq1.ne_fp I (hf b hb)
  have ne2:∀ b∈[z,TI,TO,i1,i2],l2≠b:=fun b hb=>hq2.ne_fp I (hf b hb)
  have D:P8 z TI TO i1 i2 l1 l2:=⟨Z.d1,Z.d2,Z.d3,Z.d4,Z.d5,Z.d6,Z.d7,Z.d8,Z.d9,Z.d0,ne1 z (by simp),ne1 TO (by simp),ne1 i1 (by simp),ne1 i2 (by simp),ne2 z (by simp),ne2 TO (by simp),ne2 i1 (by simp),ne2 i2 (by simp)⟩
  have hT:s.TypeIs (.ref z) "zip":=⟨_,s1,rfl⟩
  have n1:=rv1.length
  have n2:=rv2.length
  unfold nQ
  refine a6 (mV (cF (name:=ii "__next__") hT sU ?_))
  refine cu sU hT F.entry_zip_next (MI (by simpa using I.ok.hd hc) D s1 s2 s3 s4 s5 p1 p2 (hend.elim (fun q=>.inl (by simp;omega)) fun q=>.inr (by simp;omega)) fun h' e kp he=>?_) (F.args_zip_next_1 _)
  obtain ⟨o,eo,co⟩:=he
  refine a6 (jA (T:="StopIteration") (b:=true) ⟨o,eo,co⟩ G9 ?_)
  exact ac ⟨rfl,I.turnedL (t':=s.toks) (ch:=[z,TI,TO,i1,i2]) (fun b o hb q=>by
   simp only [aQ,aD,or_false,not_or] at hb
   exact kp b o hb.1 hb.2.2.1 hb.2.2.2.1 hb.2.2.2.2 q) hf⟩
 self:=fun _ _ _ _ _ st h=>wpAny_pyIter_zip st.1 h
def WL (K:a7) (ta:TA):TI:=fun σ H R=>ta σ H fun vs H1=>∃ a b xs ys,vs=[.ref a,.ref b]/\lm K H1 a xs/\lm K H1 b ys/\R (WJ K a b) H1
theorem SW {X:Cx}{elts:List b9}{x1}{tpos p pos:Pos}{a b:b9}{ta:TA} (hg:Gl X "zip") (hm:X.mg "zip"=none) (ha:PA X [a,b] ta) (hs:aw [a,b] X.env=[(false,da a X.env),(false,da b X.env)]:=by rfl)
  (hs2:aw [b] X.env=[(false,da b X.env)]:=by rfl):PI X (.Tuple elts x1 tpos) (.Call (.Name "zip" p) [a,b] [] pos) (WL X.K ta):=by
 intro pins s σ H R I h
 refine Call_ (tQ I hg hm boot_zip (f9 (fW (ha pos pins s σ H _ I h) fun us s1 ⟨vs,H1,I1,r1,q1⟩=>?_) (by rw [hs,hs2]) (by rw [hs2];rfl)))
 obtain ⟨a1,a2,xs,ys,rfl,hq1,hq2,q⟩:=q1
 obtain ⟨u1,u2,rfl,rx1,rx2⟩:=Mf r1
 cases rx1
 cases rx2
 obtain ⟨its1,rv1,p1,_⟩:=I1.tuple hq1
 obtain ⟨its2,rv2,p2,_⟩:=I1.tuple hq2
 refine Cm (show s1.heap.IsTuple a1 its1.toArray from p1) (show s1.heap.IsTuple a2 its2.toArray from p2) fun h' c1 c2 c3 c4 c5 kp=>?_
 refine wpAny_pyIter_zip c1 ?_
 have I2:bF X pins σ H1 { s1 with heap:=h' }:=I1.kept (t':=s1.toks) kp
 have ad:∀ k j:Nat,k≠j->s1.heap.objs.size + k≠s1.heap.objs.size + j:=fun k j n e=>n (Nat.add_left_cancel e)
 refine ⟨s1.heap.objs.size + 4,[s1.heap.objs.size + 4,s1.heap.objs.size + 2,s1.heap.objs.size + 3,s1.heap.objs.size + 0,s1.heap.objs.size + 1],_,_,H1,rfl,I2,
  MJ a1 a2 _ _ _ _ _ ⟨ad _ _ (by decide),ad _ _ (by decide),ad _ _ (by decide),ad _ _ (by decide),ad _ _ (by decide),ad _ _ (by decide),ad _ _ (by decide),ad _ _ (by decide),ad _ _ (by decide),ad _ _ (by decide)⟩,
  ⟨c1,c2,⟨_,_,c3⟩,c4,c5⟩,fun b hb=>?_,q⟩
 have:∀ k:Nat,qI X pins H1 (s1.heap.objs.size + k):=fun k=>I1.fpOk (Pb _ _) (I1.hok.fresh (Pb _ _))
 simp only [aQ,aD,or_false] at hb
 rcases hb with q | q | q | q | q<;>(rw [q];exact this _)
end
section
mutual
inductive GE (K:a7) (H:Hp):V->qD->Prop
 | none:GE K H .non .none
 | bool (b:Bool):GE K H (.bl b) (.bool b)
 | int (i:Int):GE K H (.int i) (.int i)
 | str (x:Str):GE K H (.str x) (.str x)
 | list {a:ag}{xs:List V}{ds:List qD}:mZ K H a xs->Reps K H xs ds->GE K H (.ref a) (.list ds)
 | tuple {a:ag}{xs:List V}{ds:List qD}:lm K H a xs->Reps K H xs ds->GE K H (.ref a) (.tuple ds)
inductive Reps (K:a7) (H:Hp):List V->List qD->Prop
 | nil:Reps K H [] []
 | cons {x:V}{xs:List V}{d:qD}{ds:List qD}:GE K H x d->Reps K H xs ds->Reps K H (x::xs) (d::ds)
end
theorem dE.tup {K:a7}{H H':Hp}{a:ag}{xs:List V} (e:dE H H') (h:lm K H a xs):lm K H' a xs:=by
 rcases h with (h | ⟨o,h⟩) | h
 ·exact .inl (.inl (e _ _ h))
 ·exact .inl (.inr ⟨o,e _ _ h⟩)
 ·exact .inr h
section
variable {X:Cx}{pins:List (ag×Obj)}{σ:St}{H:Hp}{s:af}
theorem PZ (I:bF X pins σ H s) {a:ag}{xs:List V}{ds:List qD}{u:a8} (h:mZ X.K H a xs) (ih:∀ {us:List a8},cV xs us->∃ as,ReadsAll s.heap us ds as) (r:dw (.ref a) u):∃ as,Reads s.heap u (.list ds) as:=by
 cases r
 obtain ⟨its,rv,⟨o,n,e,c,_,d⟩,_⟩:=I.list h
 obtain ⟨as,ra⟩:=ih rv
 exact ⟨_,.list e c d (by simpa using ra)⟩
theorem MK (I:bF X pins σ H s) {a:ag}{xs:List V}{ds:List qD}{u:a8} (h:lm X.K H a xs) (ih:∀ {us:List a8},cV xs us->∃ as,ReadsAll s.heap us ds as) (r:dw (.ref a) u):∃ as,Reads s.heap u (.tuple ds) as:=by
 cases r
 obtain ⟨its,rv,⟨o,e,c,n,d⟩,_⟩:=I.tuple h
 obtain ⟨as,ra⟩:=ih rv
 exact ⟨_,.tuple e c d (by simpa using ra)⟩
theorem rX (I:bF X pins σ H s) {v:V}{d:qD} (h:GE X.K H v d):∀ {u:a8},dw v u->∃ as,Reads s.heap u d as :=
 GE.rec (motive_1:=fun v d _=>∀ {u:a8},dw v u->∃ as,Reads s.heap u d as) (motive_2:=fun vs ds _=>∀ {us:List a8},cV vs us->∃ as,ReadsAll s.heap us ds as)
  (fun r=>by cases r;exact ⟨_,.none⟩) (fun b _ r=>by cases r;exact ⟨_,.bool b⟩) (fun i _ r=>by obtain ⟨t,rfl⟩:=r;exact ⟨_,.int i t⟩) (fun x _ r=>by obtain ⟨t,rfl⟩:=r;exact ⟨_,.str x t⟩)
  (fun h _ ih _ r=>PZ I h ih r) (fun h _ ih _ r=>MK I h ih r) (fun r=>by cases r;exact ⟨_,.nil⟩) (fun _ _ a b _ r=>by
   cases r with
   | cons r rs =>
    obtain ⟨as,ra⟩:=a r
    obtain ⟨bs,rb⟩:=b rs
    exact ⟨_,.cons ra rb⟩) h
end
section
variable {X:Cx}
inductive Ro (K:a7) (neg:Bool) (x:V) (y:V) (H:Hp) (Q:VK):Prop
 | mk (dx dy:_) (h0:GE K H x dx) (h1:GE K H y dy) (h2:dx.canLay0=true) (h3:dy.canLay0=true) (h4:min dx.depth dy.depth<=60) (h5:Q (.bl (if neg then !bG dx dy else bG dx dy)) H):Ro K neg x y H Q
def SX (K:a7) (neg:Bool):R2:=Ro K neg
theorem SY (hu:X.A.units + 64<sD):qi X (bN .Eq) (SX X.K false):=by
 intro pins s σ H x y v u Q I rx ry h
 obtain ⟨dx,dy,hx,hy,lx,ly,dp,q⟩:=h
 obtain ⟨as,ra⟩:=rX I hx rx
 obtain ⟨bs,rb⟩:=rX I hy ry
 exact PySem.SeqAt.compareEq_reads ra rb lx ly (by omega) ⟨.bl _,H,I,rfl,q⟩
theorem SZ (hu:X.A.units + 64<sD):qi X (bN .NotEq) (SX X.K true):=by
 intro pins s σ H x y v u Q I rx ry h
 obtain ⟨dx,dy,hx,hy,lx,ly,dp,q⟩:=h
 obtain ⟨as,ra⟩:=rX I hx rx
 obtain ⟨bs,rb⟩:=rX I hy ry
 exact PySem.SeqAt.compareNe_reads ra rb lx ly (by omega) ⟨.bl _,H,I,rfl,q⟩
end
end
section
structure Rp (P:aI) (w:ba) (l:List Env) (H H':Hp) (h h' B:bf) (ea C t:ag):Prop where
 fly:FR B l ea (.ref C) (.ref t) h'
 cov:∀ b u,H' b=some u->∃ o,B.get? b=some o
 old:∀ b o,h.get? b=some o->H b=none->b∉oB l->B.get? b=some o
 all:∀ b o,h.get? b=some o->b∉oB l->∃ o',B.get? b=some o'
 un:Un (oB l) [] H H' h h'
 hok:qo P w H' h'
inductive Ut (P:aI) (w:ba) (outer:List Env) (H:Hp) (s:af) (E:XK) (e:a8) (s':af):Prop
 | mk (ea C t H' B:_) (h0:e=.ref ea) (h1:s'.os=s.os) (h2:qt s'.gens) (h3:Rp P w outer H H' s.heap s'.heap B ea C t) (h4:E (.ref C) none H'):Ut P w outer H s E e s'
def jD (P:aI) (w:ba):Il:=Ut P w
theorem E7 {P:aI}{w:ba}{H:Hp}{h:bf}{b:ag}{u:HO} (x:qo P w H h) (e:H b=some u):∃ o,h.get? b=some o:=by
 have y:=x b u e
 cases u with
 | lst xs=>obtain ⟨_,_,_,_,k⟩:=y;exact ⟨_,k⟩
 | tup xs=>obtain ⟨_,_,_,o,k,_⟩:=y;exact ⟨o,k⟩
 | dK kvs=>obtain ⟨_,_,_,_,o,_,_,k,_⟩:=y;exact ⟨o,k⟩
 | dT kvs=>obtain ⟨_,_,_,_,o,_,_,k,_⟩:=y;exact ⟨o,k⟩
 | set S n=>obtain ⟨o,_,_,_,k,_⟩:=y;exact ⟨o,k⟩
 | ins C dx fs=>obtain ⟨_,_,_,k,_⟩:=y;exact ⟨_,k⟩
 | own y'=>exact y
 | xd fs=>obtain ⟨_,⟨o,_,_,k,_⟩,_⟩:=y;exact ⟨o,k⟩
 | rng lo hi=>obtain ⟨_,_,_,k⟩:=y;exact ⟨_,k⟩
 | frz o u=>exact ⟨o,y.1⟩
 | tbl ps=>exact ⟨_,y⟩
 | met f y'=>exact ⟨_,y⟩
 | ext φ=>exact y.2.1
theorem Co {l:List Env}{env:Env}{b:ag} (he:env∈l) (hf:env.frame=some b):b∈oB l:=List.mem_filterMap.mpr ⟨env,he,hf⟩
section
variable {P:aI}{w:ba}{l:List Env}{H H':Hp}{h h' h'' B:bf}{ea C t:ag}
theorem Rp.kp (x:Rp P w l H H' h h' B ea C t) (st:B.StaysIn h'') (b:ag) (u:HO) (o:Obj) (e:H' b=some u) (q:h'.get? b=some o):h''.get? b=some o:=by
 obtain ⟨o',e1⟩:=x.cov b u e
 have:=x.fly.1 b o' e1
 rw [q] at this;cases this
 exact st b o e1
theorem Rp.on (x:Rp P w l H H' h h' B ea C t) (fl:FR B l ea (.ref C) (.ref t) h'') (up:h'.UpToSlots h''):Rp P w l H H' h h'' B ea C t:=by
 have st:=fl.1
 refine ⟨fl,x.cov,x.old,x.all,⟨fun b o q n hb hx=>st b o (x.old b o q n hb),fun b o q n hb hx=>?_,x.un.free,fun b o q hx=>?_,x.un.tups,x.un.frzs,x.un.tbls⟩,fun b u e=>?_⟩
 ·obtain ⟨sl,e1⟩:=x.un.slot b o q n hb hx
  obtain ⟨_,o',k1,k2⟩:=dm x.fly.2.2.1 hb
  rw [e1] at k1;cases k1
  obtain ⟨sl',e2⟩:=up b _ e1 k2
  exact ⟨sl',e2⟩
 ·by_cases hb:b∈oB l
  ·obtain ⟨_,o',k1,_⟩:=dm fl.2.2.1 hb
   exact ⟨o',k1⟩
  ·obtain ⟨o',k⟩:=x.all b o q hb
   exact ⟨o',st b o' k⟩
 ·exact (x.hok b u e).stay (fun c o hc q=>by
   rcases hc with z | z
   ·rw [z] at q ⊢;exact x.kp st b u o e q
   ·exact x.kp st c _ o z q) (fun _ q=>q) fun _ _ q=>q
end
section
variable {P:aI}{w:ba}{K:a7}{mg:Str->Option a8}{base:bf}{N:List Str}{qual:Str}{scope:el}{f:ag}{cd:a8}{A:aX}{outer:List Env}{s:af}{H:Hp}{E:XK}
theorem Cq {pins:List (ag×Obj)}{σ:St}{H1:Hp}{s1:af}{h':bf}{ea C:ag}{vs:List a8} (I:bF (fX (jD P w) P w K mg base N qual scope f cd A outer s H E) pins σ H1 s1)
  (hx:sV s1.heap h' ea (.ref C) vs) (q:E (.ref C) none H1):(fX (jD P w) P w K mg base N qual scope f cd A outer s H E).xe (.ref ea) { s1 with heap:=h' }:=by
 let X:=fX (jD P w) P w K mg base N qual scope f cd A outer s H E
 let B:=xg s1.heap (oB X.stack)
 have hin:∀ env∈X.stack,∀ a,env.frame=some a->a∈oB X.stack:=fun env he a hf=>Co he hf
 have stB:B.StaysIn s1.heap:=fun b o e=>tF _ e
 have nS:∀ b,b∉oB X.stack->∀ o,s1.heap.get? b=some o->B.get? b=some o:=fun b n o e=>sC _ e n
 show ak _ X.A (LJ X.env (.ref ea)) _ _ _
 refine wpAny_leaves_madeW (s:={ s1 with heap:=h' }) (base:=B) (outer:=outer) (L:=X.env.locals) I.ok.frames rfl stB (C1 I.stack hin) hx fun h2 t fl tup tn up=>?_
 have st2:=fl.1
 have bl:∀ b o,s.heap.get? b=some o->b∉oB outer->b∉oB X.stack:=fun b o e n z=>by
  rcases List.mem_cons.mp (I.stkSub b z) with y | y
  ·exact absurd (am e) (by rw [y];exact Nat.not_lt.mpr I.ok.above)
  ·exact n y
 have noex:∀ b:ag,b∉X.ex:=fun b z=>absurd (show b∈([] : List ag) from z) (by simp)
 have cov:∀ b u,H1 b=some u->∃ o,B.get? b=some o:=fun b u e=>by
  have hb:b∉oB X.stack:=fun z=>by have:=I.stkFree b z;rw [e] at this;cases this
  obtain ⟨o,k⟩:=E7 I.hok e
  exact ⟨o,nS b hb o k⟩
 refine ⟨ea,C,t,H1,B,rfl,I.os,I.bare,⟨fl,cov,fun b o e n hb=>?_,fun b o e hb=>?_,⟨fun b o e n hb hx'=>?_,fun b o e n hb hx'=>?_,fun b o e n _=>I.base.free b o e n (noex b),fun b o e _=>?_,I.base.tups,I.base.frzs,I.base.tbls⟩,fun b u e=>?_⟩,q⟩
 ·exact nS b (bl b o e hb) o (I.base.keep b o e n hb (noex b))
 ·obtain ⟨o',k⟩:=I.base.there b o e (noex b)
  exact ⟨o',nS b (bl b o e hb) o' k⟩
 ·exact st2 b o (nS b (bl b o e hb) o (I.base.keep b o e n hb (noex b)))
 ·obtain ⟨sl,k⟩:=I.base.slot b o e n hb (noex b)
  obtain ⟨_,o',k1,k2⟩:=dm I.funs hb
  rw [k] at k1;cases k1
  obtain ⟨sl',k3⟩:=up b _ (hx.keeps _ _ k) k2
  exact ⟨sl',k3⟩
 ·obtain ⟨o',k⟩:=I.base.there b o e (noex b)
  by_cases hb:b∈oB outer
  ·obtain ⟨_,o2,k1,_⟩:=dm fl.2.2.1 hb
   exact ⟨o2,k1⟩
  ·exact ⟨o',st2 b o' (nS b (bl b o e hb) o' k)⟩
 ·refine (I.hok b u e).stay (fun c o hc k=>?_) (fun _ q=>q) fun _ _ q=>q
  have hcs:c∉oB X.stack:=fun z=>by
   have:=I.stkFree c z
   rcases hc with y | y
   ·rw [y,e] at this;cases this
   ·rw [y] at this;cases this
  exact st2 c o (nS c hcs o k)
theorem E8 {E':XK} (hE:∀ c H',E' c none H'->E c none H'):jN (jD P w) (fX (jD P w) P w K mg base N qual scope f cd A outer s H E) E':=by
 intro pins σ H1 s1 e s' I h
 obtain ⟨ea,C,t,H',B,rfl,os,bare,x,q⟩:=h
 let X:=fX (jD P w) P w K mg base N qual scope f cd A outer s H E
 have noex:∀ b:ag,b∉X.ex:=fun b z=>absurd (show b∈([] : List ag) from z) (by simp)
 have bl:∀ b o,s.heap.get? b=some o->b∉oB outer->b∉oB X.stack:=fun b o e n z=>by
  rcases List.mem_cons.mp (I.stkSub b z) with y | y
  ·exact absurd (am e) (by rw [y];exact Nat.not_lt.mpr I.ok.above)
  ·exact n y
 have sub:∀ b∈oB outer,b∈oB X.stack:=fun b hb=>by
  obtain ⟨env,he,hf⟩:=List.mem_filterMap.mp hb
  exact Co (ao _ he) hf
 show ak _ X.A (LJ X.env (.ref ea)) _ _ _
 refine wpAny_leaves_onW (base:=B) (outer:=outer) (L:=X.env.locals) I.ok.frames rfl x.fly fun h2 fl up=>?_
 have st2:=fl.1
 refine ⟨ea,C,t,H',B,rfl,os.trans I.os,bare,⟨fl,x.cov,fun b o e n hb=>?_,fun b o e hb=>?_,⟨fun b o e n hb hx'=>?_,fun b o e n hb hx'=>?_,fun b o e n _=>?_,fun b o e _=>?_,fun b xs e=>x.un.tups b xs (I.base.tups b xs e),fun b o xs e=>x.un.frzs b o xs (I.base.frzs b o xs e),fun b ps e=>?_⟩,fun b u e=>?_⟩,hE _ _ q⟩
 ·exact x.old b o (I.base.keep b o e n hb (noex b)) (I.base.free b o e n (noex b)) (bl b o e hb)
 ·obtain ⟨o',k⟩:=I.base.there b o e (noex b)
  exact x.all b o' k (bl b o e hb)
 ·exact st2 b o (x.old b o (I.base.keep b o e n hb (noex b)) (I.base.free b o e n (noex b)) (bl b o e hb))
 ·obtain ⟨sl,k⟩:=I.base.slot b o e n hb (noex b)
  obtain ⟨sl1,k1⟩:=x.un.slot b _ k (I.base.free b o e n (noex b)) (sub b hb) (by simp)
  obtain ⟨_,o',k2,k3⟩:=dm x.fly.2.2.1 (sub b hb)
  rw [k1] at k2;cases k2
  obtain ⟨sl2,k4⟩:=up b _ k1 k3
  exact ⟨sl2,k4⟩
 ·obtain ⟨o',k⟩:=I.base.there b o e (noex b)
  exact x.un.free b o' k (I.base.free b o e n (noex b)) (by simp)
 ·obtain ⟨o',k⟩:=I.base.there b o e (noex b)
  by_cases hb:b∈oB outer
  ·obtain ⟨_,o2,k1,_⟩:=dm fl.2.2.1 hb
   exact ⟨o2,k1⟩
  ·obtain ⟨o2,k2⟩:=x.all b o' k (bl b o e hb)
   exact ⟨o2,st2 b o2 k2⟩
 ·obtain ⟨m1,e1⟩:=I.base.tbls b ps e
  obtain ⟨m2,e2⟩:=x.un.tbls b _ e1
  exact ⟨m1++m2,by rw [e2,Jx]⟩
 ·exact (x.hok b u e).stay (fun c o hc k=>by
   rcases hc with z | z
   ·rw [z] at k ⊢;exact x.kp st2 b u o e k
   ·exact x.kp st2 c _ o z k) (fun _ q=>q) fun _ _ q=>q
end
end
section
section
variable {P:aI}{w:ba}{K:a7}{mg:Str->Option a8}{base:bf}{N:List Str}{qual:Str}{scope:el}{f:ag}{cd:a8}{A:aX}{outer:List Env}{s:af}{H:Hp}{E:XK}
theorem ML {x:Str}{np cpos pos:Pos}{e0:b9}{bK:List b9}{C:ag}{bmB:List a8}{newId initId Bn:String}{ta:TA} (O:OwnCls x C bmB newId mg base) (FB:tN Bn newId initId bmB)
  (hg:Gl (fX (jD P w) P w K mg base N qual scope f cd A outer s H E) x) (ha:PA (fX (jD P w) P w K mg base N qual scope f cd A outer s H E) (e0::bK) ta)
  (he:aw (e0::bK) (fX (jD P w) P w K mg base N qual scope f cd A outer s H E).env=(false,da e0 (fX (jD P w) P w K mg base N qual scope f cd A outer s H E).env)::aw bK (fX (jD P w) P w K mg base N qual scope f cd A outer s H E).env:=by rfl)
  (hdb:(x == ("__debug__" : Str))=false:=by decide) (hpl:(eV cpos (aw bK (fX (jD P w) P w K mg base N qual scope f cd A outer s H E).env)).any (·.1)=false:=by rfl) :
  PS (fX (jD P w) P w K mg base N qual scope f cd A outer s H E) (.Raise (some (.Call (.Name x np) (e0::bK) [] cpos)) none pos) (fun D σ H1=>ta σ H1 fun vs H2=>vs.length<=sizeLine/\E (.ref C) none H2):=by
 intro pins s1 σ H1 D I h
 obtain ⟨tl,Nn,nm,q,bs,hdct,sn,sub,ab,col,dd,k0,k1,k2,k3,k5,mN,hC,hN,hni,T⟩:=O.obj
 refine wpAny_Raise_call_subT (C:=C) (nm:=nm) (q:=q) (N:=Nn) (bs:=bs) (bm:=tl) (hdct:=hdct) (sn:=sn) (sub:=sub) (ab:=ab) (col:=col) (dd:=dd) (k0:=k0) (k1:=k1) (k2:=k2) (k3:=k3) (k5:=k5)
  FB (mN:=mN) (T.hasType FB.hasBase) (I.ok.hd rfl) ?_ hni (uJ I hg O.bound ⟨rfl,?_⟩ hdb)
 ·rw [he]
  show (false || _)=false
  rw [uG];exact hpl
 ·have hx:=ha cpos pins s1 σ H1 _ I h
  rw [he] at hx ⊢
  refine sF (fW hx fun us s2 ⟨vs,H2,I2,r2,z,qE⟩=>?_)
  have kb:∀ b o,base.get? b=some o->s2.heap.get? b=some o:=I2.bk
  exact ⟨rfl,by show us.length<=sizeLine;rw [<- r2.length];exact z,kb _ _ hC,hN.keeps kb,T.keeps kb,fun h' ea hm=>Cq I2 hm qE⟩
end
structure Cr (base:bf) (C:ag) (bm:List a8):Prop where
 obj:∃ nm q N bs hdct sn sub ab col dd k0 k1 k2 k3 k5 newId,base.get? C=some (gx nm q C N bs bm hdct sn sub ab col dd k0 k1 k2 k3 k5 newId)
 exc:bm.contains (.type "BaseException")=true
theorem yG {M:vJ}{A:aX}{E:a8->af->Prop}{s:af}{base:bf}{ea C Cp:ag}{bm bp:List a8}{oe:Obj}{Q:Bool->af->Prop} (kb:∀ b o,base.get? b=some o->s.heap.get? b=some o) (x:Cr base C bm) (y:Cr base Cp bp)
  (hm:bm.contains (.ref Cp)=true) (he:s.heap.get? ea=some oe) (hcls:oe.cls=.ref C) (h:Q true s):ak M A (excMatches (.ref ea) (.ref Cp)) Q E s:=by
 obtain ⟨⟨nm,q,Nn,bs,hdct,sn,sub,ab,col,dd,k0,k1,k2,k3,k5,newId,o1⟩,x2⟩:=x
 obtain ⟨⟨nm',q',Nn',bs',hdct',sn',sub',ab',col',dd',k0',k1',k2',k3',k5',newId',o2⟩,y2⟩:=y
 have hC:=kb _ _ o1
 have hP:=kb _ _ o2
 have c1:(bE C::bm).contains (.ref Cp)=true:=by rw [g9,hm,wJ]
 have c2:(bE Cp::bp).contains (.type "BaseException")=true:=by rw [g9,y2,wJ]
 have f:=tc_notTuple
 obtain ⟨hp,g,d,tk,os⟩:=s
 unfold excMatches
 repeat (first
  | (with_reducible refine dO he ?_;rw [hcls])
  | with_reducible refine dO hP ?_
  | (with_reducible refine jI hC ?_;rw [c1])
  | (with_reducible refine jI hP ?_;rw [c2])
  | wp_step)
 exact h
def yH (ea C:ag):HO:=.ext fun h=>∃ o,h.get? ea=some o/\o.cls=.ref C
theorem P_ {P:aI}{w:ba}{H:Hp}{h:bf}{ea C:ag}{o:Obj} (e:h.get? ea=some o) (c:o.cls=.ref C):dn P w H h ea (yH ea C) :=
 ⟨⟨o,e,c⟩,⟨o,e⟩,fun h1 h2 ⟨o,e,c⟩ k=>⟨o,k o e,c⟩⟩
def TZ (X:Cx) (ea:ag):Cx:={ X with A:=X.A.mark (some (.ref ea)),calm:=false,xe:=fun _ _=>False }
theorem bF.inH {X:Cx}{pins:List (ag×Obj)}{σ:St}{H:Hp}{s:af} (I:bF X pins σ H s) (ea:ag):bF (TZ X ea) pins σ H s :=
 ⟨⟨I.ok.mod,I.ok.kind,I.ok.glob,I.ok.blt,I.ok.above,I.ok.inj,I.ok.has,I.ok.cab,(fun z=>ll z),I.ok.frames,I.ok.stk,I.ok.exf,I.ok.bs,I.ok.bsz,I.ok.noex,I.ok.exfs,I.ok.funs,I.ok.frf⟩,I.os,I.bare,I.base,I.loc,I.cell,I.free,I.freeC,I.pin,I.hok,I.len⟩
theorem bF.outH {X:Cx}{pins:List (ag×Obj)}{σ:St}{H:Hp}{s:af}{ea:ag} (ok:X.Ok) (I:bF (TZ X ea) pins σ H s):bF X pins σ H s :=
 ⟨ok,I.os,I.bare,I.base,I.loc,I.cell,I.free,I.freeC,I.pin,I.hok,I.len⟩
def yI (X:Cx):St:=bi X.N.length none
theorem bF.forget {X:Cx}{pins:List (ag×Obj)}{σ:St}{H:Hp}{s:af}{h':bf}{t':Nat}{m':Str->Option a8} (I:bF X pins σ H s) (hn:h'.Ns X.env.locals m') (sb:bI X.env.locals s.heap h'):bF X pins (yI X) H { s with heap:=h',toks:=t' }:=by
 have ne0:∀ b o,X.s₀.heap.get? b=some o->b≠X.env.locals:=fun b o e=>aC (aF (am e) I.ok.above)
 refine ⟨I.ok,I.os,I.bare,⟨fun b o e n hb hx=>(sb.2 b (ne0 b o e)).trans (I.base.keep b o e n hb hx),fun b o e n hb hx=>?_,I.base.free,fun b o e hx=>?_,I.base.tups,I.base.frzs,I.base.tbls⟩,⟨m',hn,fun i x v h1 h2 h3=>?_⟩,fun x c e=>?_,I.free,I.freeC,fun p hp=>?_,yA I.hok I.free sb,by simp [yI]⟩
 ·obtain ⟨sl,k⟩:=I.base.slot b o e n hb hx
  exact ⟨sl,(sb.2 b (ne0 b o e)).trans k⟩
 ·obtain ⟨o',k⟩:=I.base.there b o e hx
  exact ⟨o',(sb.2 b (ne0 b o e)).trans k⟩
 ·have h2:(yI X)[i]?=some (some v):=h2
  unfold yI at h2
  rw [bO] at h2
  split at h2<;>cases h2
 ·obtain ⟨v,z⟩:=I.cell x c e
  exact ⟨v,z.sameBut sb (I.cne x c e)⟩
 ·obtain ⟨e,n,ne,nf,d⟩:=I.pin p hp
  exact ⟨(sb.2 p.1 ne).trans e,n,ne,nf,d⟩
def Rq (X:Cx) (Cp:ag) (i:Nat) (ts:TS) (D:tP):XK:=fun c _ H'=>∃ C bm,c=.ref C/\Cr X.base C bm/\bm.contains (.ref Cp)=true /\
 ∀ ea,H' ea=none->ts { nx:=fun _ H=>D.nx (yI X) H,rt:=D.rt } ((yI X).set i (some (.ref ea))) (upd H' ea (yH ea C))
def WM (X:Cx) (Cp:ag) (i:Nat) (tb:XK->TS) (ts:TS):TS:=fun D σ H=>tb (Rq X Cp i ts D) D σ H
theorem MM {X:Cx}{A:aX}{E:a8->af->Prop}{pins:List (ag×Obj)}{s:af}{σ:St}{H:Hp}{x:Str}{u:a8}{pos:Pos}{Q:a8->af->Prop} (I:bF X pins σ H s) (hg:Gl X x) (hm:X.mg x=some u) (h:Q u s)
  (hd:(x == ("__debug__" : Str))=false:=by decide):ak (aE X.prog X.w) A (da (.Name x pos) X.env) Q E s :=
 mW I.ok.kind hg (Dy (by rw [I.ok.glob];exact I.mod.glob.keeps I.bk) hm h) hd
def Rr (X:Cx) (xe:a8->af->Prop) (pn:List (ag×Obj)):Cx:={ X with xe:=xe,pn:=pn }
theorem bF.inT {X:Cx}{pins:List (ag×Obj)}{σ:St}{H:Hp}{s:af} (I:bF X pins σ H s) (xe:a8->af->Prop):bF (Rr X xe (X.pn++pins)) [] σ H s :=
 ⟨⟨I.ok.mod,I.ok.kind,I.ok.glob,I.ok.blt,I.ok.above,I.ok.inj,I.ok.has,I.ok.cab,I.ok.hd,I.ok.frames,I.ok.stk,I.ok.exf,I.ok.bs,I.ok.bsz,I.ok.noex,I.ok.exfs,I.ok.funs,I.ok.frf⟩,I.os,I.bare,I.base,I.loc,I.cell,I.free,I.freeC,
  fun p hp=>I.pin p ((List.mem_append.mp hp).elim id fun z=>absurd z (by simp)),I.hok,I.len⟩
theorem bF.outT {X:Cx}{pins pins':List (ag×Obj)}{σ:St}{H:Hp}{s:af}{xe:a8->af->Prop} (ok:X.Ok) (I:bF (Rr X xe (X.pn++pins)) pins' σ H s):bF X pins σ H s :=
 ⟨ok,I.os,I.bare,I.base,I.loc,I.cell,I.free,I.freeC,fun p hp=>I.pin p (gN _ hp),I.hok,I.len⟩
theorem bF.track0 {X:Cx}{pins:List (ag×Obj)}{σ:St}{H:Hp}{s:af}{D:ag}{ho:HO} (I:bF X pins σ H s) (h0:X.s₀.heap.get? D=none) (f0:H D=none) (f1:D≠X.env.locals) (f4:∀ x c,X.env.cells.lookup x=some c->c≠D) (f5:∀ p∈X.pn++pins,p.1≠D)
  (new:dn X.prog X.w (upd H D ho) s.heap D ho):bF X pins σ (upd H D ho) s :=
 ⟨I.ok,I.os,I.bare,⟨I.base.keep,I.base.slot,fun b o e n hx=>by rw [b6 (fun z=>by rw [z,h0] at e;cases e)];exact I.base.free b o e n hx,I.base.there,fun b xs e=>by have q:=I.base.tups b xs e;rw [b6 (bn q f0)];exact q,
  fun b o xs e=>by have q:=I.base.frzs b o xs e;rw [b6 (bn q f0)];exact q,fun b ps e=>by obtain ⟨m,q⟩:=I.base.tbls b ps e;exact ⟨m,by rw [b6 (bn q f0)];exact q⟩⟩,I.loc,I.cell,
  by rw [b6 (dh f1)];exact I.free,fun x c e=>by rw [b6 (f4 x c e)];exact I.freeC x c e,fun p hp=>by
  obtain ⟨e,n,r⟩:=I.pin p hp
  exact ⟨e,by rw [b6 (f5 p hp)];exact n,r⟩,rT I.hok f0 new,I.len⟩
theorem S_ {X:Cx}{body suite:List cr}{b0:cr}{x n:Str}{np hpos pos:Pos}{Cp:ag}{bp:List a8}{i:Nat}{tb:XK->TS}{ts:TS} (hg:Gl X x) (hm:X.mg x=some (.ref Cp)) (y:Cr X.base Cp bp)
  (hN:X.N.Nodup) (hi:X.N[i]?=some n) (hn:X.env.scope.names.lookup n=some .local) (hst:∃ l,X.stack=X.env::l/\X.env.frame=some X.env.locals) (hex:X.ex=[])
  (hb:∀ (E:XK) (xe:a8->af->Prop) (pn:List (ag×Obj)),jN (jD X.prog X.w) (Rr X xe pn) E->A_ (Rr X xe pn) body (tb E)) (hs:∀ ea,A_ (TZ X ea) (b0::suite) ts) (hdb:(x == ("__debug__" : Str))=false:=by decide) :
  PS X (.Try body [.ExceptHandler (some (.Name x np)) (some n) (b0::suite) hpos] [] [] pos) (WM X Cp i tb ts):=by
 intro pins s σ H D I h
 obtain ⟨l,hl,hfr⟩:=hst
 have ok:=I.ok
 refine wpAny_Try_except ?_
 let xe:a8->af->Prop:=fun e s₁=>ak (aE X.prog X.w) X.A (BY e X.env) (fun _ s₂=>ak (aE X.prog X.w) X.A (setFlight e none) (fun _ s₃ =>
  ak (aE X.prog X.w) X.A (handleBy e X.env [.ExceptHandler (some (.Name x np)) (some n) (b0::suite) hpos]) (SP X pins D) X.xe s₃) X.xe s₂) X.xe s₁
 have hp:jN (jD X.prog X.w) (Rr X xe (X.pn++pins)) (Rq X Cp i ts D):=by
  intro pins' σ' H1 s1 e s' I' hx
  have I1:bF X pins σ' H1 s1:=I'.outT ok
  obtain ⟨ea,C,t,H',B,rfl,os,bare,air,C',bm,hCe,ox,hcp,hts⟩:=hx
  cases hCe
  have air:Rp X.prog X.w X.stack H1 H' s1.heap s'.heap B ea C t:=air
  have land:∀ h2,Rp X.prog X.w X.stack H1 H' s1.heap h2 B ea C t->bF X pins σ' H' { s' with heap:=h2 }:=fun h2 a =>
   I1.call' (s':={ s' with heap:=h2 }) (ch:=[]) os a.un a.hok bare (fun b z=>absurd z (by simp))
  have fly:=air.fly
  rw [hl] at fly
  show ak _ X.A (BY (.ref ea) X.env) _ _ s'
  refine wpAny_looks_onW (base:=B) (outer:=l) (L:=X.env.locals) (by rw [ok.frames,hl]) hfr fly fun h2 hd2 up2=>?_
  refine wpAny_landsW hd2 fun h3 fl3 up3=>?_
  have up3':=up2.trans up3
  have a3:=air.on (by rw [hl];exact fl3) up3'
  have I3:=land h3 a3
  obtain ⟨oe,he,hcl⟩:=fl3.there
  refine wpAny_handleBy_cons (codeAny_handlers_test (MM I3 hg hm ?_ hdb)) (by intro q;cases q)
  refine yG (base:=X.base) (s:={ s' with heap:=h3 }) I3.bk ox y hcp he hcl (codeAny_handlers_suite_as ?_)
  refine lands_againW (s:={ s' with heap:=h3 }) fl3 fun h4 fl4 up4=>?_
  have a4:=air.on (by rw [hl];exact fl4) (up3'.trans up4)
  have I4:=land h4 a4
  obtain ⟨oe4,ws,he4,hcl4,hd4,_⟩:=fl4.first
  have nB:B.get? ea=none:=fl4.2.1
  have nfr:ea∉oB X.stack:=fun z=>by
   obtain ⟨_,o',k1,k2⟩:=dm fl4.2.2.1 (by rw [<- hl];exact z)
   rw [he4] at k1;cases k1
   exact k2 _ hd4
  have n1:s1.heap.get? ea=none:=by
   cases q:s1.heap.get? ea with
   | none=>rfl
   | some o =>
    obtain ⟨o',k⟩:=air.all ea o q nfr
    rw [nB] at k;cases k
  have nH:H' ea=none:=by
   cases q:H' ea with
   | none=>rfl
   | some u =>
    obtain ⟨o',k⟩:=air.cov ea u q
    rw [nB] at k;cases k
  have nloc:ea≠X.env.locals:=fun z=>by
   obtain ⟨m,⟨o,_,_,k,_⟩,_⟩:=I1.loc
   rw [<- z,n1] at k;cases k
  have ncell:∀ x c,X.env.cells.lookup x=some c->c≠ea:=fun x c e z=>by
   obtain ⟨v,o,k,_⟩:=I1.cell x c e
   rw [z,n1] at k;cases k
  have npin:∀ p∈X.pn++pins,p.1≠ea:=fun p hp z=>by
   have k:=(I1.pin p hp).1
   rw [z,n1] at k;cases k
  have n0:X.s₀.heap.get? ea=none:=by
   cases q:X.s₀.heap.get? ea with
   | none=>rfl
   | some o =>
    by_cases hx:ea∈X.ex
    ·rw [hex] at hx;cases hx
    ·obtain ⟨o',k⟩:=I1.base.there ea o q hx
     rw [n1] at k;cases k
  have I5:=(I4.weak (σ':=yI X) (by rw [I4.len];simp [yI]) (fun j v z=>by
   unfold yI at z
   rw [bO] at z
   split at z<;>cases z)).track0 (ho:=yH ea C) n0 nH nloc ncell npin (P_ he4 hcl4)
  refine qG I5 hN hi (.inl hn) (v:=.ref ea) rfl (fun s6 I6=>?_) (.inr hn)
  refine bc (hs ea pins s6 _ _ _ (I6.inH ea) (hts ea nH)) (fun f s7 q7=>?_) fun _ _ z=>z.elim
  have fin:∀ {σ7:St}{H7:Hp}{Q':St->Hp->Prop},bF (TZ X ea) pins σ7 H7 s7->(∀ s8,bF X pins (yI X) H7 s8->SP X pins D f s8)->ak (aE X.prog X.w) X.A (do FY X.env n .none;unbindBehindTheSuite X.env n hpos) (fun _ s8=>SP X pins D f s8) X.xe s7:=fun {σ7 H7 Q'} J k=>by
   have J:=J.outH ok
   obtain ⟨m,hm7,_⟩:=J.loc
   exact wpAny_nameGoes hn hm7 (by rw [ok.kind];rfl) fun h8 m8 hn8 sb8=>k _ (J.forget hn8 sb8)
  cases f with
  | next=>obtain ⟨σ7,H7,J,q⟩:=q7;exact fin (Q':=fun _ _=>True) J fun s8 I8=>⟨_,_,I8,q⟩
  | brk=>obtain ⟨σ7,H7,J,q⟩:=q7;exact q.elim
  | cont=>obtain ⟨σ7,H7,J,q⟩:=q7;exact q.elim
  | ret v=>obtain ⟨z,σ7,H7,J,r,q⟩:=q7;exact fin (Q':=fun _ _=>True) J fun s8 I8=>⟨z,_,_,I8,r,q⟩
 refine bc (hb _ xe (X.pn++pins) hp [] s σ H D (I.inT xe) h) (fun f s1 q=>?_) fun e s1 q=>q
 have q:SP X pins D f s1:=by
  cases f with
  | next=>obtain ⟨σ',H',J,q⟩:=q;exact ⟨σ',H',J.outT ok,q⟩
  | brk=>obtain ⟨σ',H',J,q⟩:=q;exact ⟨σ',H',J.outT ok,q⟩
  | cont=>obtain ⟨σ',H',J,q⟩:=q;exact ⟨σ',H',J.outT ok,q⟩
  | ret v=>obtain ⟨z,σ',H',J,r,q⟩:=q;exact ⟨z,σ',H',J.outT ok,r,q⟩
 cases f with
 | next=>exact nO q
 | brk=>exact q
 | cont=>exact q
 | ret v=>exact q
end
section
structure MN (K:a7) (C:ag):Prop where
 ga:gW K (.ref C) "__getattribute__"=some (some (.builtin "BaseException.__getattribute__"))
 gn:gW K (.ref C) "__getattr__"=some none
 ca:gW K (.ref C) "__class__"=some (some (.builtin "object.__class__"))
 gg:uD K (.builtin "object.__class__") "__get__"=some (some (.builtin "getset_descriptor.__get__"))
 tk:xh K (.builtin "object.__class__")=some true
 mo:cp K C (.type "object")=some true
 be:cp K C (.type "BaseException")=some true
 cl:(gI K C).isSome=true
def Bd (x C:ag) (h:bf):Prop:=∃ o,h.get? x=some o/\o.cls=.ref C
theorem Bd.type {M:vJ}{x C:ag}{h:bf} (p:Bd x C h):OT M h (typeOf (.ref x)) (.ref C):=by
 obtain ⟨o,e,c⟩:=p
 exact c ▸ (PySem.W.Looks.ld e).andThen .now
section
variable {prog:aI}{w:ba}{A:aX}{E:a8->af->Prop}{s:af}{K:a7}{x C:ag}{R:vL->af->Prop}
open PySem.W Builtin Builtin.ObjectAttr Builtin.Getset_descriptor in
theorem Q0 {tp:a8} (Z:MN K C) (X:K.In s.heap) (p:Bd x C s.heap) (q:R (.ok (.ret (.ref C))) s):ia (aE prog w) A (.call (.builtin "getset_descriptor.__get__") ⟨[.builtin "object.__class__",.ref x,tp],[]⟩) R s:=by
 obtain ⟨hp,gs,dr,tt,os⟩:=s
 have T0:=p.type (M:=aE prog w)
 have T1:=looks_mroIn (M:=aE prog w) X Z.mo
 refine mY KF.slot_gs.plain KF.entry_gs ?_
 refine KF.slot_gs.check _ _ _ _ _ _ _ _ KF.type_class (KF.args_gs _ _ _) ?_
 unfold gj.«getset_descriptor.__get__» descrGet
 rw [dga_obj]
 refine a6 (ac ?_)
 unfold descrGetter descrCheckInstance descrNameAndClass tK
 simp only [KF.owner_class]
 repeat lk
 refine ⟨n8 _ (by decide +kernel),fD KF.entry_class ?_⟩
 unfold gj.«object.__class__» shownTypeOf
 repeat lk
 exact q
theorem Kh {Q:Option a8->af->Prop} (Z:MN K C) (X:K.In s.heap) (p:Bd x C s.heap) (h:Q (some (.ref C)) { s with toks:=s.toks + 1 }):ak (aE prog w) A (Pc (.ref x) "__class__") Q E s:=by
 obtain ⟨hh,g,d,t,os⟩:=s
 have L0:=p.type (M:=aE prog w)
 have L1:=qF (M:=aE prog w) X Z.ga
 have L2:=qF (M:=aE prog w) X Z.gn
 have F1:=qF (M:=aE prog w) X Z.ca
 have F2:=PySem.W.looks_specialIn (M:=aE prog w) X Z.gg
 have F3:=PySem.W.looks_takesIn (M:=aE prog w) X Z.tk
 have L4:=PySem.W.looks_mroIn (M:=aE prog w) X Z.be
 unfold Pc getAttrBy? getAttrBy
 refine a6 (wpAny_mkText (a6 (mV (c7 (a6 (L0.at (a6 (L1.at ?_))))))))
 show ak _ _ (getAttrByItsOwn (.ref x) (.str "__class__" t) (.ref C) (.builtin "BaseException.__getattribute__") false false) _ _ _
 unfold getAttrByItsOwn
 show ak _ _ (hW (.ref C) "__getattr__" >>= _) _ _ _
 refine a6 (L2.at (a6 (mV (c7 ?_))))
 show ak _ _ (boundAndCalled (.builtin "BaseException.__getattribute__") (.ref x) (.str "__class__" t)) _ _ _
 unfold boundAndCalled
 refine a6 (vQ (F.excAttr_ValueError.ga.bind (.ref x)) ?_)
 show ak _ _ (call (.builtin "BaseException.__getattribute__") [.ref x,.str "__class__" t]) _ _ _
 refine pf (mY F.excAttr_ValueError.ga.plain F.entry_bexc_ga ?_)
 have hk:builtinKind "BaseException.__getattribute__"=some .slot:=by decide +kernel
 have hsp:splitId "BaseException.__getattribute__"=some ("BaseException","__getattribute__"):=by decide +kernel
 have hao:=F.args_bexc_ga (.ref x) (.str "__class__" t)
 simp only [sG,hk,hsp]
 have LI:OT (aE prog w) hh (tK (.ref x) (.type "BaseException")) true:=L0.andThen L4
 refine a6 (LI.at ?_)
 rw [if_neg (by decide)]
 refine vQ (a:=()) (by unfold LP at hao;exact hao) ?_
 unfold gj.«object.__getattribute__»
 refine a6 (m:=slotArgs "__getattribute__" 1 _) (ac ?_)
 refine a6 (m:=OU _) (ac ?_)
 refine a6 (L0.at (a6 ?_))
 unfold OV
 refine a6 (F1.at (a6 (F2.at (a6 ?_))))
 refine a6 (F3.at ?_)
 refine ac (a6 (gG (ac ?_)))
 show ak _ _ (holding [.builtin "object.__class__"] (call (.builtin "getset_descriptor.__get__") [.builtin "object.__class__",.ref x,.ref C]) >>= fun v=>ret v) _ _ _
 refine a6 (c7 (pf (Q0 (s:=⟨hh,g,d,t + 1,os⟩) Z X p ?_)))
 exact ac (PySem.W.handed_on rfl (ac h))
theorem MO (Z:MN K C):PySem.W.KitX K (.ref x) (.ref C) (Bd x C) where
 ty:=fun _ _ _ p=>p.type
 it:=fun M h X _=>by
  obtain ⟨cd,hc⟩:=Option.isSome_iff_exists.mp Z.cl
  unfold gI at hc
  split at hc
  ·rename_i c' d' cd' sl' ho
   intro A' Q' E' s' k q
   unfold isType loadHead
   exact a6 (wpAny_loadPart (k _ _ (X _ _ ho)) (ac q))
  ·cases hc
 ne:=fun h tp dd its n sl X htp=>by
  refine Bool.eq_false_iff.mpr fun q=>?_
  obtain rfl:C=tp:=Value.ref.inj (beq_iff_eq.mp q)
  obtain ⟨cd,hc⟩:=Option.isSome_iff_exists.mp Z.cl
  unfold gI at hc
  split at hc
  ·rename_i c' d' cd' sl' ho
   have z:=(X _ _ ho).symm.trans htp
   cases z
  ·cases hc
 ca:=fun X p k=>Kh Z X p k
end
section
variable {X:Cx}
theorem wQ:jL X (.builtin "isinstance") (fun xs H Q=>∃ x c cv b,xs=[x,c]/\((∃ n,c=.ty n/\cv=.type n)\/∃ C',c=.ref C'/\cv=.ref C')/\((∃ t,vX X.K H x t/\dA X.K t cv=some b) \/
  ∃ ea C,x=.ref ea/\H ea=some (yH ea C)/\MN X.K C/\dA X.K (.ref C) cv=some b)/\Q (.bl b) H):=by
 intro pins s σ H xs us Q I r h
 obtain ⟨x,c,cv,b,rfl,rc,h,q⟩:=h
 obtain ⟨u,v,rfl,ru,rv⟩:=Mf r
 obtain rfl:v=cv:=by
  rcases rc with ⟨n,rfl,rfl⟩ | ⟨C',rfl,rfl⟩
  ·exact rv
  ·exact rv
 rcases h with ⟨t,ty,e⟩ | ⟨ea,C,rfl,hH,Z,e⟩
 ·exact oH I ru ty e fun tk=>⟨.bl b,H,I.tok tk,rfl,q⟩
 ·cases ru
  have p:Bd ea C s.heap:=(show dn X.prog X.w H s.heap ea (yH ea C) from I.hok ea _ hH).1
  exact cA (MO Z) I.kIn p e (fun z=>nomatch z) fun tk=>⟨.bl b,H,I.tok tk,rfl,q⟩
end
end
section
structure mn (k:Nat) (A:aX):Prop where
 dp:A.depth + 3 * k + 5<jf
 un:A.units + 16 * k + 200<sD
theorem ji.h {k:Nat}{A:aX} (r:ji k A):mn k A:=⟨r.dp,r.un⟩
theorem mn.mark {k:Nat}{A:aX} (r:mn k A) (v:Option a8):mn k (A.mark v):=⟨r.dp,r.un⟩
theorem mn.deeper {k:Nat}{A:aX} (r:mn (k + 1) A) (env:Env):mn k (A.deeper env):=⟨by have:=r.dp;show A.depth + 1 + 3 * k + 5<_;omega,by have:=r.un;show A.units + 3 + 16 * k + 200<_;omega⟩
structure E9 (P:aI) (w:ba) (K:a7) (mg:Str->Option a8) (base:bf) (k:Nat) (f:ag) (fd:df) (ps:List Str) (sp:Sp):Prop where
 len:∀ vs H Q E,sp vs H Q E->vs.length=ps.length
 run:∀ (A:aX) (outer:List Env) (s:af) (H:Hp) (args:Args) (us:List a8) (vs:List V) (Q:VK) (E:XK),mn k A->Gr P w K mg base A outer s H->wG s fd args (ps.zip us)->cV vs us->sp vs H Q E ->
  ia (aE P w) A (.call (.ref f) args) (CR Xl outer P w H s Q E) s
def Uu (P:aI) (w:ba) (K:a7) (mg:Str->Option a8) (base:bf) (N:List Str) (qual:Str) (scope:el) (f:ag) (cd:a8) (A:aX) (outer:List Env) (s:af) (H:Hp):Cx where
 prog:=P
 w:=w
 K:=K
 mg:=mg
 base:=base
 A:=A.deeper (jg qual scope s.heap.objs.size f cd)
 N:=N
 s₀:=s
 H₀:=H
 env:=jg qual scope s.heap.objs.size f cd
 outer:=outer
 stack:=jg qual scope s.heap.objs.size f cd::outer
 ex:=[]
 calm:=false
 fn:=fun _=>true
 pn:=[]
 xe:=fun _ _=>False
section
variable {P:aI}{w:ba}{K:a7}{mg:Str->Option a8}{base:bf}
theorem GF {N ps:List Str}{qual:Str}{scope:el}{f:ag}{cd:a8}{A:aX}{outer:List Env}{s s1:af}{H:Hp}{us:List a8}{vs:List V}
  (S:bu N ps scope) (e0:Gr P w K mg base A outer s H) (hl:vs.length=ps.length) (r:cV vs us)
  (x:InCallC s s.heap.objs.size (F_ (jg qual scope s.heap.objs.size f cd).kindOf (ps.zip us) fun _=>none) (bh (s.heap.objs.size + 1) scope.names []) (G0 (jg qual scope s.heap.objs.size f cd).kindOf (ps.zip us) fun _=>none) s1) :
  bF (Uu P w K mg base N qual scope f cd A outer s H) [] (start N vs) H s1:=by
 have e1:Gr P w K mg base { A with handled:=none } outer s H:=⟨e0.frames,e0.mod,e0.bs,e0.bsz,e0.funs,e0.frf,e0.hok,e0.bare⟩
 have I:=B4 (CX:=Xl) (E:=E0) S (A:={ A with handled:=none }) rfl e1 hl r x
 exact ⟨⟨I.ok.mod,I.ok.kind,I.ok.glob,I.ok.blt,I.ok.above,I.ok.inj,I.ok.has,I.ok.cab,(fun z=>ll z),I.ok.frames,I.ok.stk,I.ok.exf,I.ok.bs,I.ok.bsz,I.ok.noex,I.ok.exfs,I.ok.funs,I.ok.frf⟩,I.os,I.bare,I.base,I.loc,I.cell,I.free,I.freeC,I.pin,I.hok,I.len⟩
theorem T2 {k:Nat}{f:ag}{name qual:Str}{params:Arguments}{body:List cr}{scope:el}{dV kV doc pm cdv ct oc:a8}{an od:Option ag}
  {osl:Array (Option a8)}{N ps:List Str}{sp:Sp} (lk:K.lookup f=some ⟨oc,od,.func (eO name qual params body scope dV kV doc pm an cdv ct),osl⟩) (hcd:jG K cdv qual=true) (S:bu N ps scope)
  (len:∀ vs H Q E,sp vs H Q E->vs.length=ps.length)
  (hbody:∀ (A:aX) (outer:List Env) (s:af) (H:Hp) (vs:List V) (Q:VK) (E:XK),mn k (A.deeper (jg qual scope s.heap.objs.size f cdv))->sp vs H Q E ->
   ∃ t,A_ (Uu P w K mg base N qual scope f cdv A outer s H) body t/\t { nx:=fun _ H'=>Q .non H',rt:=Q } (start N vs) H) :
  E9 P w K mg base (k + 1) f (eO name qual params body scope dV kV doc pm an cdv ct) ps sp:=by
 refine ⟨len,fun A outer s H args us vs Q E hr e0 hb r hsp=>?_⟩
 have hl:=len _ _ _ _ hsp
 have KX:K.In s.heap:=e0.mod.kin.keeps fun b o e=>(e0.bs b o e).1
 have lim:s.heap.NoLimit:=e0.mod.nolimit.keeps fun b o e=>(e0.bs b o e).1
 have hkind:∀ y∈ps.zip us,scope.names.lookup y.1=some .local\/(scope.names.lookup y.1=some .cell/\((bh (s.heap.objs.size + 1) scope.names []).lookup y.1).isSome=true):=fun ⟨n,v⟩ hy=>by
  rcases S.par n (qA hy).1 with q | q
  ·exact .inl q
  ·exact .inr ⟨q,fh _ _ _ (.inl q)⟩
 refine OP (by have:=hr.dp;omega) (KX _ _ lk) rfl S.co S.gen rfl (tJ KX hcd) (hb _ _ _ _ ?_)
 refine G1 S.kind hkind fun env he s1 x=>?_
 subst he
 refine ⟨lim.keeps x.toInCall.keep,codeAny_func ?_⟩
 obtain ⟨t,ht,hq⟩:=hbody A outer s H vs Q E (hr.deeper _) hsp
 have I:bF (Uu P w K mg base N qual scope f cdv A outer s H) [] (start N vs) H s1:=GF S e0 hl r x
 refine bc (ht [] s1 (start N vs) H _ I hq) (fun fl s' hs=>?_) fun e s' hs=>(show False from hs).elim
 have fin:∀ {σ':St}{H':Hp}{v:V}{u:a8},bF (Uu P w K mg base N qual scope f cdv A outer s H) [] σ' H' s'->dw v u->Q v H'->CE outer P w H s Q u s' :=
  fun {σ' H' v u} J rv q=>⟨v,H',J.os,J.bare,J.base,J.hok,rv,q⟩
 cases fl with
 | ret u =>
  obtain ⟨v,σ',H',J,rv,q⟩:=hs
  exact fin J rv q
 | next =>
  obtain ⟨σ',H',J,q⟩:=hs
  exact fin (v:=V.non) (u:=dQ) J rfl q
 | brk =>
  obtain ⟨_,_,_,q⟩:=hs
  exact eN q
 | cont =>
  obtain ⟨_,_,_,q⟩:=hs
  exact eN q
theorem DS.okH {x qual:Str}{st:cr}{f:ag}{fd:df}{N ps:List Str}{k:Nat}{sp:Sp} (F:DS K x qual st f fd) (S:bu N ps (ax st)) (len:∀ vs H Q E,sp vs H Q E->vs.length=ps.length)
  (hbody:∀ (cdv:a8) (A:aX) (outer:List Env) (s:af) (H:Hp) (vs:List V) (Q:VK) (E:XK),mn k (A.deeper (jg qual (ax st) s.heap.objs.size f cdv))->sp vs H Q E ->
   ∃ t,A_ (Uu P w K mg base N qual (ax st) f cdv A outer s H) (gT st) t/\t { nx:=fun _ H'=>Q .non H',rt:=Q } (start N vs) H):E9 P w K mg base (k + 1) f fd ps sp:=by
 obtain ⟨oc,od,kV,doc,pm,an,cdv,ct,osl,rfl,lk,hcd⟩:=F.ex
 exact T2 lk hcd S len fun A outer s H vs Q E hr hsp=>hbody cdv A outer s H vs Q E hr hsp
end
section
variable {X:Cx}{k:Nat}{f:ag}{fd:df}{ps:List Str}{sp:Sp}{x:Str}{p pos:Pos}{e:b9}{es:List b9}{t:TA}
theorem MP (F:E9 X.prog X.w X.K X.mg X.base k f fd ps sp) (hr:mn k X.A) (hg:Gl X x) (hm:X.mg x=some (.ref f)) (hk:dX X.K (.ref f)=true) (hb:jM X.K fd ps [])
  (ha:PA X (e::es) t) (hdb:(x == ("__debug__" : Str))=false:=by decide) (he:aw (e::es) X.env=(false,da e X.env)::aw es X.env:=by rfl) (hpl:(eV pos (aw es X.env)).any (·.1)=false:=by rfl) :
  PE X (.Call (.Name x p) (e::es) [] pos) (Im sp [] E0 t):=by
 intro pins s σ H Q I h
 refine ki (uJ I hg hm ?_ hdb)
 refine tG (h₀:=X.base) I.ok.mod.kin hk (fW (ha pos pins s σ H _ I h) fun us s1 ⟨vs,H1,I1,r,q⟩=>⟨I1.kIn,?_⟩) he hpl
 have q:sp (vs++[]) H1 Q E0:=q
 rw [cj] at q
 have hl:us.length=ps.length:=by rw [<- r.length];exact F.len _ _ _ _ q
 have hb':=hb s1 us I1.kIn (by rw [cj];exact hl)
 rw [cj] at hb'
 refine pf (oC (F.run X.A X.stack s1 H1 ⟨us,[]⟩ us vs Q E0 hr I1.env0 hb' r q) fun r s' hq=>?_)
 cases r with
 | error e=>exact (show False from hq).elim
 | ok fl =>
  cases fl with
  | ret u=>exact I1.after hq
  | next=>exact eN hq
  | brk=>exact eN hq
  | cont=>exact eN hq
end
end
section
section
variable {X:Cx}
def WN:qD->String
 | .none=>"NoneType" | .bool _=>"bool" | .int _=>"int" | .str _=>"str" | .list _=>"list" | .tuple _=>"tuple" | .dict _=>"dict"
theorem GG {pins:List (ag×Obj)}{σ:St}{H:Hp}{s:af}{A:aX}{E:a8->af->Prop}{Q:a8->af->Prop}{c:a8}{b:Bool}{x:V}{d:qD}{u:a8} (I:bF X pins σ H s) (rx:dw x u) (r:GE X.K H x d) (e:dA X.K (.type (WN d)) c=some b) (h:∀ tk,Q (.bool b) { s with toks:=tk }) :
  ak (aE X.prog X.w) A (call (.builtin "isinstance") [u,c]) Q E s:=by
 cases r with
 | none=>exact oH I rx .non e h
 | bool y=>exact oH I rx (.bl y) e h
 | int i=>exact oH I rx (.int i) e h
 | str y=>exact oH I rx (.str y) e h
 | list hq _ =>
  cases rx
  obtain ⟨its,rv,⟨o,n,ho,c,_,dd⟩,_⟩:=I.list hq
  exact cA uE I.kIn ⟨o,ho,c⟩ e (fun z=>nomatch z) h
 | tuple hq _ =>
  cases rx
  obtain ⟨its,rv,⟨o,ho,c,n,dd⟩,_⟩:=I.tuple hq
  exact cA FZ I.kIn ⟨o,ho,c⟩ e (fun z=>nomatch z) h
theorem MQ:jL X (.builtin "isinstance") (fun xs H Q=>∃ x d T b,xs=[x,.ty T]/\GE X.K H x d/\dA X.K (.type (WN d)) (.type T)=some b/\Q (.bl b) H):=by
 intro pins s σ H xs us Q I r h
 obtain ⟨x,d,T,b,rfl,rp,e,q⟩:=h
 obtain ⟨u,v,rfl,ru,rv⟩:=Mf r
 obtain rfl:v=.type T:=rv
 exact GG I ru rp e fun tk=>⟨.bl b,H,I.tok tk,rfl,q⟩
end
end
end L2
section
namespace HT
open PySem PyProof.Rows
section
variable {prog:aI}{w:ba}{A:aX}{E:a8->af->Prop}{s:af}
theorem Ea {t sl:ag}{items:Array a8}{vl vu:a8}{lo hi:Option Int}{Q:a8->af->Prop} (ht:Dw s.heap t items) (hs:s.heap.IsSliceOf sl vl vu .none) (pl:vM vl lo) (pu:vM vu hi)
  (hw:iZ items.size 0 lo=0/\iZ items.size items.size hi=items.size) (h:Q (.ref t) s):ak (aE prog w) A (mS (.ref t) (.ref sl)) Q E s:=by
 obtain ⟨os,hos,hcs,hds⟩:=id hs
 have hTs:s.TypeIs (.ref sl) "slice":=⟨os,hos,hcs⟩
 unfold mS
 try with_reducible refine c7 ?_
 first | refine a6 (ac ?_) | skip
 refine a6 (Ad ht.typeIs (by decide) ?_)
 refine a6 (cF (name:=ii "__getitem__") ht.typeIs cS
  (cu cS ht.typeIs xi ?_ (yd _ _)))
 show ak _ _ (k_ (.ref t) >>= _) _ _ s
 refine a6 (JD ht ?_)
 refine a6 (iB hTs ?_)
 rw [if_pos (by decide)]
 refine a6 (oK hs pl pu ?_)
 have hyes:((((iZ items.size 0 lo:Nat):Int) == 0 && (1:Int) == 1 && (iZ items.size items.size hi - iZ items.size 0 lo) == items.size)=true):=by
  rw [hw.1,hw.2];simp
 show ak _ _ (if (((iZ items.size 0 lo:Nat):Int) == 0 && (1:Int) == 1 && (iZ items.size items.size hi - iZ items.size 0 lo) == items.size)=true then _ else _) _ _ s
 rw [if_pos hyes]
 refine a6 ?_
 unfold Builtin.Tuple.tupleIsExact
 refine a6 (iB ht.typeIs (ac ?_))
 rw [if_pos (by decide)]
 refine a6 (gG ?_)
 first
  | exact ac (ac ⟨_,rfl,h⟩)
  | exact ac ⟨_,rfl,ac h⟩
  | exact a6 (ac (ac ⟨_,rfl,ac h⟩))
  | exact a6 (ac (ac ⟨_,rfl,h⟩))
end
end HT
namespace L2
open PySem PySem.Spec PyProof.Rows
section
variable {X:Cx}
inductive MR (K:a7) (x:V) (lo:Option Int) (hi:Option Int) (H:Hp) (Q:VK):Prop
 | mk (a xs:_) (h0:x=.ref a) (h1:lm K H a xs) (h2:(HT.iZ xs.length 0 lo=0/\HT.iZ xs.length xs.length hi=xs.length)) (h3:Q (.ref a) H):MR K x lo hi H Q
def Uv (K:a7):V->Option Int->Option Int->Hp->VK->Prop:=MR K
theorem Q1:Uh X (Uv X.K):=by
 intro pins s σ H x v vl vu lo hi sl Q I rx hs pl pu h
 obtain ⟨a,xs,rfl,hx,hw,q⟩:=h
 cases rx
 obtain ⟨its,r,ht,hz⟩:=I.tuple hx
 have hlen:its.toArray.size=xs.length:=by rw [aH];exact r.length.symm
 exact ⟨"tuple",_,PyProof.Rows.slot_tuple_getitem.lookup,ht.typeIs,HT.Ea ht hs pl pu (by rw [hlen];exact hw) ⟨.ref a,H,I,rfl,q⟩⟩
theorem j6 {H:Hp}{p:ag}{o:HO} (h:H p=none):dE H (upd H p o):=fun b u e=>by rw [b6 (bn e h)];exact e
theorem tU:∀ {bs:List Bool}{us:List a8},cV (bs.map V.bl) us->us=bs.map iL
 | [],_,.nil=>rfl
 | b::r,_,.cons h t=>by cases h;rw [tU t];rfl
theorem yJ {A:aX}{s:af}{bs:List Bool}:∀ y,y∈(bs.map iL).toArray->JH A s y (.bool true) (vV true y):=fun y hy=>by
 have hy:y∈bs.map iL:=by simpa using hy
 obtain ⟨b,_,rfl⟩:=List.mem_map.mp hy
 exact AS b true
def Q2 (K:a7):V->List V->Hp->VK->Prop:=fun x vs H Q=>∃ l,∃ bs:List Bool,x=.ref l/\vs=[.bl true]/\mZ K H l (bs.map V.bl)/\Q (.int (bs.countP id:Nat)) H
theorem Ki:Wv X "list.count" (Q2 X.K):=by
 intro pins s σ H x vs v us Q I rx rv h
 obtain ⟨l,bs,rfl,rfl,hq,q⟩:=h
 cases rx
 obtain ⟨u,rfl,ru⟩:=rv.one
 cases ru
 obtain ⟨its,r,⟨o,n,ho,c,hd,dt⟩,hz⟩:=I.list hq
 rw [tU r] at dt
 obtain ⟨cls,dd,data,sl⟩:=o
 simp only at c dt
 subst c dt
 refine mf AW ⟨_,ho,rfl⟩ PySem.F.entry_list_count (PySem.F.args_list_count_2 _ _) (SeqAt.list_countAt l (bs.map iL).toArray n dd sl (.bool true) (vV true)) ⟨ho,fun y hy=>yJ y hy,?_⟩
 refine ⟨.int _,H,I.tok _,⟨_,rfl⟩,?_⟩
 have e:(bs.map iL).toArray.toList.countP (vV true)=bs.countP id:=by
  show (bs.map iL).countP (vV true)=_
  rw [List.countP_map]
  congr 1
  funext b
  cases b<;>rfl
 rw [e]
 exact q
def Q3 (K:a7):V->List V->Hp->VK->Prop:=fun x vs H Q=>∃ l,∃ bs:List Bool,∃ j:Nat,x=.ref l/\vs=[.bl true]/\mZ K H l (bs.map V.bl)/\bs[j]?=some true/\(∀ m,m<j->bs[m]?=some false)/\j<=1000/\Q (.int (j:Nat)) H
theorem Kj:Wv X "list.index" (Q3 X.K):=by
 intro pins s σ H x vs v us Q I rx rv h
 obtain ⟨l,bs,j,rfl,rfl,hq,hj,hno,hsm,q⟩:=h
 cases rx
 obtain ⟨u,rfl,ru⟩:=rv.one
 cases ru
 obtain ⟨its,r,⟨o,n,ho,c,hd,dt⟩,hz⟩:=I.list hq
 rw [tU r] at dt
 obtain ⟨cls,dd,data,sl⟩:=o
 simp only at c dt
 subst c dt
 obtain ⟨hjl,hjv⟩:=List.getElem?_eq_some_iff.mp hj
 refine mf AX ⟨_,ho,rfl⟩ PySem.F.entry_list_index (PySem.F.args_list_index_2 _ _) (SeqAt.list_indexAt l (bs.map iL).toArray n dd sl (.bool true) (vV true) j (by simpa using hjl) (by omega) ?_ ?_) ⟨ho,fun y hy=>yJ y hy,?_⟩
 ·simp [vV,hjv]
 ·intro m hm hlt
  have:=hno m hlt
  obtain ⟨_,hv⟩:=List.getElem?_eq_some_iff.mp this
  simp [vV,hv]
 ·exact ⟨.int _,H,I.tok _,⟨_,rfl⟩,q⟩
theorem yK (hc:X.calm=true):jL X (.type "list") (fun xs H Q=>∃ a kvs,xs=[.ref a]/\H a=some (.dK kvs)/\∀ l,H l=none->Q (.ref l) (upd H l (.lst (kvs.map fun p=>kV p.1)))):=by
 intro pins s σ H xs us Q I r h
 obtain ⟨a,kvs,rfl,hH,q⟩:=h
 obtain ⟨u,rfl,rx⟩:=lI r
 cases rx
 obtain ⟨hz,hs,vs,rk,hd⟩:=(show dn X.prog X.w H s.heap a (.dK kvs) from I.hok a _ hH)
 obtain ⟨ep,hat⟩:∃ ep,s.heap.DictAt (dU X.prog X.w) a vs ep:=by
  obtain ⟨o,es,ep,h1,h2,h3,h4⟩:=hd
  exact ⟨ep,o,es,h1,h2,h3,h4⟩
 have hlen:kvs.length=vs.length:=tE rk
 refine PySem.W.kdl_call (PySem.W.kdl_dict hs) (I.ok.hd hc) hat (by omega) fun h' tk acc' c' kp e hacc=>?_
 have rv:cV (kvs.map fun p=>kV p.1) acc'.toList:=by
  have key:∀ {kvs:List (ed×V)}{vs:List (ed×a8)} (acc:List a8),KV kvs vs->acc.length=vs.length->(∀ (j:Nat) (v:a8),acc[j]?=some v->∃ k x,vs[j]?=some (k,x)/\yp k v=true)->cV (kvs.map fun p=>kV p.1) acc:=by
   intro kvs
   induction kvs with
   | nil=>intro vs acc rk hl _;cases rk;cases acc with
    | nil=>exact .nil
    | cons _ _=>simp at hl
   | cons p kvs ih =>
    intro vs acc rk hl hv
    cases rk with
    | cons h1 t1 =>
     cases acc with
     | nil=>simp at hl
     | cons v acc =>
      refine .cons ?_ (ih acc t1 (by simpa using hl) fun j v hj=>by simpa using hv (j + 1) v (by simpa using hj))
      obtain ⟨k,x,e1,e2⟩:=hv 0 v rfl
      simp only [DG,DD] at e1
      subst e1
      have hk:p.1=k:=h1.1
      rcases fk e2 with ⟨i,t,e,rfl⟩ | ⟨i,t,e,rfl⟩
      ·show dw (kV p.1) _;rw [hk,e];exact ⟨t,rfl⟩
      ·show dw (kV p.1) _;rw [hk,e];exact ⟨t,rfl⟩
  exact key acc'.toList rk (by rw [aq];exact hacc.1) fun j v hj=>hacc.2 j v (by rw [<- eI];exact hj)
 exact ⟨.ref s.heap.objs.size,_,I.laid (t':=tk) kp (ar _) (show dn X.prog X.w _ h' _ (.lst _) from ⟨by simpa using hz,acc'.toList,c',rv,by rw [Gc];exact e⟩),rfl,q _ (I.hok.fresh (ar _))⟩
def yL (x:Str):List V:=x.cps.toList.map fun c=>V.str ⟨#[c]⟩
theorem xu (hc:X.calm=true):jL X (.type "tuple") (fun xs H Q=>∃ x,xs=[.str x]/\x.cps.size<=sizeLine/\∀ l,H l=none->Q (.ref l) (upd H l (.tup (yL x)))):=by
 intro pins s σ H xs us Q I r h
 obtain ⟨x,rfl,hz,q⟩:=h
 obtain ⟨u,rfl,rx⟩:=lI r
 obtain ⟨t,rfl⟩:=rx
 refine call_tuple_str (I.ok.hd hc) x t (fun h' tk acc kp hacc=>?_) hz
 have I1:bF X pins σ H { s with heap:=h',toks:=tk }:=I.kept (t':=tk) kp
 have rv:cV (yL x) acc.toList:=by
  have key:∀ (cs:List Nat) (acc:List a8),acc.length=cs.length->(∀ (j:Nat) (v:a8),acc[j]?=some v->∃ c u,cs[j]?=some c/\v=.str ⟨#[c]⟩ u)->cV (cs.map fun c=>V.str ⟨#[c]⟩) acc:=by
   intro cs
   induction cs with
   | nil=>intro acc hl _;cases acc with
    | nil=>exact .nil
    | cons _ _=>simp at hl
   | cons c cs ih =>
    intro acc hl hv
    cases acc with
    | nil=>simp at hl
    | cons v acc =>
     obtain ⟨c',u,e1,rfl⟩:=hv 0 v rfl
     simp only [DG,DD] at e1
     subst e1
     exact .cons ⟨u,rfl⟩ (ih acc (by simpa using hl) fun j v hj=>by simpa using hv (j + 1) v (by simpa using hj))
  refine key x.cps.toList acc.toList (by rw [aq,aq];exact hacc.1) fun j v hj=>?_
  obtain ⟨c,u,e1,e2⟩:=hacc.2 j v (by rw [<- eI];exact hj)
  exact ⟨c,u,by rw [eI];exact e1,e2⟩
 have I2:bF X pins σ (upd H h'.objs.size (.tup (yL x))) { s with heap:=h'.push { cls:=.type "tuple",data:=.seq acc },toks:=tk } :=
  I1.laid (t':=tk) (fun b o e=>ae _ e) (ar _) (show dn X.prog X.w _ _ _ (.tup (yL x)) from ⟨by unfold yL;simpa using hz,acc.toList,rv,by rw [Gc];exact sQ _ _⟩)
 exact ⟨.ref h'.objs.size,_,I2,rfl,q _ (I1.hok.fresh (ar _))⟩
end
end L2
end
namespace L2
open PySem PySem.Spec PyProof.Rows
section
theorem Ct (elt target iter:b9) (ifs:List b9) (scope:el) (pos:Pos) (it acc:a8) (env:Env) :
  compTurn (.SetComp elt [⟨target,iter,ifs,0⟩] scope pos) 0 it acc env=(do
   FK iter.pos
   let r <- nQ it
   match r with
   | none=>pure (.done .next)
   | some v =>
    gY target it v
    qz target env v
    let mut ok:=true
    for c in ifs do
     if ok then ok <- BU c env (da c env)
    if ok then
     (do let v <- da elt env;FK elt.pos;let _ <- call (.builtin "set.add") [acc,v])
    again (.compLoop (.SetComp elt [⟨target,iter,ifs,0⟩] scope pos) 0 it acc env)):=by rfl
section
variable {prog:aI}{w:ba}{A:aX}{E:a8->af->Prop}{R:vL->af->Prop}{s:af}
theorem qp {elt target iter ifs bK scope pos it acc env}
  (h0:ia (aE prog w) A (.compLoop (.SetComp elt (⟨target,iter,ifs,0⟩::bK) scope pos) 0 it acc env) R s)
  (h:ak (aE prog w) A (BW it) (fun it' s'=>ia (aE prog w) A (.compLoop (.SetComp elt (⟨target,iter,ifs,0⟩::bK) scope pos) 0 it' acc env) R s')
   (notedBy (aE prog w) A env fun x s'=>R (.error x) s') s) :
  ia (aE prog w) A (.compStart (.SetComp elt (⟨target,iter,ifs,0⟩::bK) scope pos) 0 it acc env) R s:=by
 refine uy ?_
 show ak _ _ ((compStart (.SetComp elt (⟨target,iter,ifs,0⟩::bK) scope pos) 0 it acc env).onRaise (fun x=>do BY x env;FK theWindowsPlace)) _ _ s
 refine wpAny_notedAt ?_
 unfold compStart
 show ak _ _ (ask >>= _) _ _ s
 refine a6 (ij (wpAny_ite ?_))
 split
 ·first
   | exact a6 (ac (ac (yh rfl h0)))
   | exact ac (yh rfl h0)
 ·first
   | exact a6 (gG (a6 (dk (a6 (bc h (fun it' s' hq=>ac (yh rfl hq)) fun _ _ x=>x)))))
   | (refine a6 (gG ?_);show ak _ _ (FK iter.pos >>= _) _ _ s;exact a6 (dk (a6 (bc h (fun it' s' hq=>ac (yh rfl hq)) fun _ _ x=>x))))
theorem sZ {Q:a8->af->Prop} (h:Q (.ref s.heap.objs.size) { s with heap:=s.heap.push (fi w) }):ak (aE prog w) A (newSet (.type "set")) Q E s:=by
 unfold newSet setsByText
 refine a6 (a6 (ij (ac ?_)))
 dsimp only
 simp only [newObj]
 exact a6 (P4 (ac h))
theorem Ar {a:ag}{ss:List Str}{x:Str}{tk:Tok}{Q:a8->af->Prop} (hS:lw w s.heap a ss) (hr:ss.length + 1<iX)
  (h:∀ h' tk',bI a s.heap h'->lw w h' a (if x∈ss then ss else ss++[x])->Q .none { s with heap:=h',toks:=tk' }) :
  ak (aE prog w) A (call (.builtin "set.add") [.ref a,.str x tk]) Q E s:=by
 have hT:s.TypeIs (.ref a) "set":=by obtain ⟨es,ep,t,I,_⟩:=id hS;exact ⟨_,I.at_,rfl⟩
 refine cu F.slot_set_add hT F.entry_set_add ?_ (F.args_set_add_2 _ _)
 unfold gj.«set.add» Pd
 simp only [List.isEmpty_nil,bind_assoc]
 unfold Pe
 refine a6 (ac ?_)
 try dsimp only
 refine a6 (ac ?_)
 try dsimp only
 refine a6 ?_
 refine DZ hS hr fun h' tk' sb hS'=>?_
 exact ac ⟨_,rfl,h h' tk' sb hS'⟩
end
section
variable {prog:aI}{w:ba}{A:aX}{R:vL->af->Prop}{s:af}
theorem Eb {elt target iter:b9}{ifs:List b9}{scope:el}{pos:Pos}{it acc:a8}{env:Env} (I:Nat->af->Prop)
  (turn:∀ n s,I n s->ak (aE prog w) A (nQ it) (fun r s₁=>match r with
   | none=>R (.ok .next) s₁
   | some v=>ak (aE prog w) A (gY target it v) (fun _ s₁'=>ak (aE prog w) A (qz target env v) (fun _ s₂ =>
     ak (aE prog w) A (forIn ifs true fun c r=>if r=true then do let ok <- BU c env (da c env);pure (f_ ok) else pure (f_ r)) (fun ok s₃ =>
      if ok=true then ak (aE prog w) A (da elt env) (fun x s₄ =>
       ak (aE prog w) A (call (.builtin "set.add") [acc,x]) (fun _ s₅=>∃ m,m<n/\I m s₅) (fun _ _=>False) s₄) (fun _ _=>False) s₃
      else ∃ m,m<n/\I m s₃) (fun _ _=>False) s₂) (fun _ _=>False) s₁') (fun _ _=>False) s₁) (fun _ _=>False) s)
  (n:Nat) (h:I n s) :
  ia (aE prog w) A (.compLoop (.SetComp elt [⟨target,iter,ifs,0⟩] scope pos) 0 it acc env) R s:=by
 refine codeAny_loop rfl I (fun n s hI=>?_) n h
 show ak _ A ((compTurn (.SetComp elt [⟨target,iter,ifs,0⟩] scope pos) 0 it acc env).onRaise (fun x=>do BY x env;theTreesLotGoes x)) _ _ s
 refine wpAny_noted ?_
 rw [Ct]
 have nf:∀ {α:Type}{t:Sem α}{Q:α->af->Prop}{E':a8->af->Prop}{s:af},ak (aE prog w) A t Q (fun _ _=>False) s->ak (aE prog w) A t Q E' s :=
  fun h=>bc h (fun _ _ q=>q) fun _ _ f=>f.elim
 refine a6 (dk (a6 (nf (bc (turn n s hI) (fun r s₁ h₁=>?_) fun _ _ h'=>h'))))
 cases r with
 | none=>exact ac h₁
 | some v =>
  refine a6 (nf (bc h₁ (fun _ s₁' h₁'=>?_) fun _ _ h'=>h'))
  refine a6 (nf (bc h₁' (fun _ s₂ h₂=>a6 (nf (bc h₂ (fun ok s₃ h₃=>?_) fun _ _ h'=>h'))) fun _ _ h'=>h'))
  cases ok with
  | false=>exact ac ⟨rfl,h₃⟩
  | true =>
   exact a6 (a6 (nf (bc h₃ (fun x s₄ h₄=>a6 (dk (a6 (nf (bc h₄ (fun _ s₅ h₅=>ac (ac ⟨rfl,h₅⟩)) fun _ _ h'=>h'))))) fun _ _ h'=>h')))
end
inductive Xn (X:Cx) (pins:List (ag×Obj)) (N':List Str) (scope:el) (cl:List (Str×ag)) (C:ag) (s2:af) (H2:Hp) (fp:List ag) (nt:Nat) (ix:List Nat) (σ:St) (tn:Nat->bf->Prop) (W:Nat->Nat->List Str->Hp->Prop) (n:Nat) (s':af):Prop
 | mk (i:Nat) (acc:List Str) (oD:Obj) (H':Hp) (I:bF (cP X N' scope cl C s2 H2 fp (X.pn++pins)) [(s2.heap.objs.size,oD)] (jC nt ix σ) H' s') (S:lw X.w s'.heap s2.heap.objs.size acc) (t:tn i s'.heap) (f:∀ b∈fp,H' b=none) (w:W i n acc H'):Xn X pins N' scope cl C s2 H2 fp nt ix σ tn W n s'
theorem Kk {X:Cx}{elt tg iter:b9}{ifs:List b9}{scope:el}{pos:Pos}{g:TG}{tt:TT}{te:TE}{N':List Str}{nt:Nat}{ix:List Nat}
  (hc:X.calm=true) (S:o0 X scope N' nt ix) (lo:Rn nt g)
  (hb:∀ cl C s₀ H₀ ex pn,PG (cP X N' scope cl C s₀ H₀ ex pn) tg g/\OX (cP X N' scope cl C s₀ H₀ ex pn) ifs tt/\PE (cP X N' scope cl C s₀ H₀ ex pn) elt te)
  {cl:List (Str×ag)} (c1:∀ x c,cl.lookup x=some c->X.env.cells.lookup x=some c) (c2:∀ y∈scope.names,y.2=.free->∃ c,cl.lookup y.1=some c)
  {pins:List (ag×Obj)}{σ:St}{H2:Hp}{s2:af}{it:ag}{fp:List ag}{tn:Nat->bf->Prop}{J:It}{Q:VK}{E:a8->af->Prop}
  (I2:bF X pins σ H2 s2) (T:Am X.prog X.w X.K tg J fp it tn) (st2:tn 0 s2.heap) (f2:∀ b∈fp,qI X pins H2 b)
  {W:Nat->Nat->List Str->Hp->Prop} (w0:∃ m,W 0 m [] H2)
  (turn:∀ i m acc H,W i m acc H->(J.stop i H/\∀ p,H p=none->Q (.ref p) (upd H p (lN X.w p acc))) \/
   (J.go i H/\acc.length + 1<iX/\∀ x H',J.yld i H x H'->g x (jC nt ix σ) H' fun σ2 H2=>tt σ2 H2 fun b H3 =>
    if b=true then te σ2 H3 fun y H4=>∃ z m',y=.str z/\m'<m/\W (i + 1) m' (if z∈acc then acc else acc++[z]) H4 else ∃ m',m'<m/\W (i + 1) m' acc H3))
  {RR:a8->ag->vL->af->Prop}
  (hRR:∀ D C m s' (acc:List Str) H',H' D=none->qI X pins (upd H' D (lN X.w D acc)) C->Q (.ref D) (upd H' D (lN X.w D acc))->s'.heap.Ns C m->(∀ h',bI C s'.heap h'->bF X pins σ (upd H' D (lN X.w D acc)) { s' with heap:=h' })->RR (.ref D) C (.ok .next) s') :
  ak (aE X.prog X.w) X.A (newSet (.type "set")) (fun acc s₃=>ak (aE X.prog X.w) X.A (vO scope X.env.globals cl [] X.env.qual none .none (some X.env)) (fun cenv s₄ =>
   ia (aE X.prog X.w) X.A (.compStart (.SetComp elt [⟨tg,iter,ifs,0⟩] scope pos) 0 (.ref it) acc { cenv with scope:=relabel scope X.env }) (RR acc cenv.locals) s₄) E s₃) E s2:=by
 refine sZ (Iy fun h₁ hh₁=>?_)
 dsimp only at hh₁ ⊢
 generalize hG2:s2.heap.push (fi X.w)=G2 at hh₁ ⊢
 have hC:G2.objs.size=s2.heap.objs.size + 1:=by rw [<- hG2,cm]
 have hDC:s2.heap.objs.size≠G2.objs.size:=by rw [hC];exact aC (fV _)
 have hCle:s2.heap.objs.size<=G2.objs.size:=by rw [hC];exact ib _
 have below:∀ b,b<s2.heap.objs.size->b≠G2.objs.size:=fun b hb=>by rw [hC];exact aC (gR hb)
 have kp:∀ b o,G2.get? b=some o->h₁.get? b=some o:=fun b o e=>by rw [hh₁];exact uw _ _ b o (ae _ e)
 have hns₁:h₁.Ns G2.objs.size (fun _=>none):=by rw [hh₁];exact (Heap.Ns.new G2 (.type "dict")).keeps (uw _ _)
 have ok₁:CellsOk h₁ (G2.objs.size + 1) (bh (G2.objs.size + 1) scope.names []):=by rw [hh₁];exact B9 G2 scope.names
 have cne:∀ x c,(bh (G2.objs.size + 1) scope.names cl).lookup x=some c->X.env.cells.lookup x=some c\/s2.heap.objs.size<c:=fun x c e=>by
  rcases l7 e with a | ⟨_,a⟩
  ·exact .inr (aF (kn hCle) (ok₁.empty x c a).2)
  ·exact .inl (c1 x c a)
 have old:∀ b o,s2.heap.get? b=some o->h₁.get? b=some o:=fun b o e=>kp b o (hG2 ▸ ae _ e)
 have hacc:h₁.get? s2.heap.objs.size=some (fi X.w):=kp _ _ (hG2 ▸ aG _ rfl)
 have ff:∀ b∈fp,b<s2.heap.objs.size:=fun b hb=>by
  obtain ⟨o,e,_⟩:=T.obj _ _ st2 b hb
  exact am e
 have I3:bF (cP X N' scope (bh (G2.objs.size + 1) scope.names cl) G2.objs.size s2 H2 fp (X.pn++pins)) [] (jC nt ix σ) H2 { s2 with heap:=h₁,toks:=s2.toks }:=DW S I2 c1 c2 f2 ff hCle hns₁ old ok₁
 obtain ⟨pg,pt,pe⟩:=hb (bh (G2.objs.size + 1) scope.names cl) G2.objs.size s2 H2 fp (X.pn++pins)
 have hDfs:s2.heap.objs.size∉oB X.stack:=fun z=>by
  rcases List.mem_cons.mp (I2.stkSub _ z) with e | e
  ·exact absurd I2.lt (by rw [<- e];exact bW _)
  ·exact I2.nofs (ar _) e
 have st1:tn 0 h₁:=T.keep _ _ _ st2 fun b _ o e=>old b o e
 have hDf:s2.heap.objs.size∉fp:=fun z=>absurd (ff _ z) (bW _)
 have stat:∀ {H':Hp}{pl:List (ag×Obj)},(∀ p∈pl,p.1∉fp)->(∀ b∈fp,H' b=none)->∀ b∈fp,qI (cP X N' scope (bh (G2.objs.size + 1) scope.names cl) G2.objs.size s2 H2 fp (X.pn++pins)) pl H' b:=fun hpl hn b hb=>by
  obtain ⟨f0,f1,f2',f3,f4,f5⟩:=f2 b hb
  refine ⟨hn b hb,below b (ff b hb),fun z=>?_,.inl hb,fun x c e=>(cne x c e).elim (f4 x c) fun q z=>xl q (by rw [z];exact ff b hb),fun p hp z=>?_⟩
  ·rcases List.mem_cons.mp (I2.stkSub _ z) with e | e
   ·exact f1 e
   ·exact f2' e
  ·rcases List.mem_append.mp hp with q | q
   ·exact f5 p q z
   ·exact hpl p q (z ▸ hb)
 obtain ⟨m0,w0⟩:=w0
 have loop:ia (aE X.prog X.w) X.A (.compLoop (.SetComp elt [⟨tg,iter,ifs,0⟩] scope pos) 0 (.ref it) (.ref s2.heap.objs.size) (compEnvC scope (bh (G2.objs.size + 1) scope.names cl) G2.objs.size X.env))
    (RR (.ref s2.heap.objs.size) G2.objs.size) { s2 with heap:=h₁,toks:=s2.toks }:=by
  refine Eb (Xn X pins N' scope (bh (G2.objs.size + 1) scope.names cl) G2.objs.size s2 H2 fp nt ix σ tn W) ?_ m0
   ⟨0,[],_,H2,I3.pin1 hacc (I2.hok.fresh (ar _)) hDC hDfs (fun v z=>nomatch z),Bb X.w hacc,st1,fun b hb=>(f2 b hb).1,w0⟩
  rintro n s3 ⟨i,acc,oD,H3,J3,hS3,st3,fr3,w3⟩
  have plD:∀ p∈[(s2.heap.objs.size,oD)],p.1∉fp:=fun p hp=>by
   have:p=(s2.heap.objs.size,oD):=by simpa using hp
   rw [this];exact hDf
  have stS:∀ {s8:af},s8.heap.get? s2.heap.objs.size=some oD->lw X.w s8.heap s2.heap.objs.size acc:=fun {s8} e=>hS3.keep fun o eo=>by
   have q:=(J3.pin (s2.heap.objs.size,oD) (aY _ (List.mem_singleton.mpr rfl))).1
   rw [q] at eo;cases eo;exact e
  rcases turn i n acc H3 w3 with ⟨stop,qn⟩ | ⟨go,hlt,step⟩
  ·refine fW (T.done (cP X N' scope (bh (G2.objs.size + 1) scope.names cl) G2.objs.size s2 H2 fp (X.pn++pins)) rfl rfl rfl hc i _ s3 _ H3 _ J3 (stat plD fr3) st3 stop) fun r s4 h_0=>?_
   obtain ⟨hr,I4⟩:=h_0
   subst hr
   obtain ⟨pD,pN,_⟩:=I4.pin (s2.heap.objs.size,_) (aY _ (List.mem_singleton.mpr rfl))
   obtain ⟨mm,hn,_⟩:=I4.loc
   have hCn:H3 G2.objs.size=none:=I4.free
   refine hRR _ _ mm s4 acc H3 pN (I2.fpOk hCle (by rw [b6 (dh hDC)];exact hCn)) (qn _ pN) hn fun h' sb=>?_
   have hu:Un (oB X.stack) fp H2 (upd H3 s2.heap.objs.size (lN X.w s2.heap.objs.size acc)) s2.heap h':=Un.grow I4.base sb hCle (ar _) pN
   refine I2.call' (s':={ s4 with heap:=h' }) (ch:=fp) I4.os hu ?_ I4.bare fun b hb=>?_
   ·exact rT (yA I4.hok hCn sb) pN (Ck ((stS pD).keep fun o e=>(sb.2 _ hDC).trans e))
   ·obtain ⟨_,f1,_,f3,f4,f5⟩:=f2 b hb
    exact ⟨f3,f1,f4,f5⟩
  ·refine fW (T.item (cP X N' scope (bh (G2.objs.size + 1) scope.names cl) G2.objs.size s2 H2 fp (X.pn++pins)) rfl rfl rfl hc i _ s3 _ H3 _ J3 (stat plD fr3) st3 go) fun r s4 h_1=>?_
   obtain ⟨u,hr,h4⟩:=h_1
   subst hr
   refine fW h4 fun _ s5 h_2=>?_
   obtain ⟨x,H5,I5,r5,y5,st5,fr5⟩:=h_2
   have I5':=I5.pinned (stat plD fr5) (T.obj _ _ st5)
   refine fW (pg _ s5 _ H5 x u _ I5' r5 (lo _ _ _ _ (step x H5 y5))) fun _ s6 h_3=>?_
   obtain ⟨σ6,H6,I6,q6,l6,k6⟩:=h_3
   have hw:∀ (j:Nat) v,(jC nt ix σ)[j]?=some (some v)->σ6[j]?=some (some v):=fun j v e=>by
    by_cases hj:nt<=j
    ·rw [k6 j hj];exact e
    ·unfold jC at e
     rw [bQ (by simpa using hj),bO,if_pos (by omega)] at e
     cases e
   refine fW (pt _ s6 σ6 H6 _ I6 q6) fun b s7 h_4=>?_
   obtain ⟨H7,I7,q7⟩:=h_4
   have fpk:∀ {s8:af}{σ8:St}{H8:Hp},bF (cP X N' scope (bh (G2.objs.size + 1) scope.names cl) G2.objs.size s2 H2 fp (X.pn++pins)) ([(s2.heap.objs.size,oD)]++vW fp s5.heap) σ8 H8 s8 ->
     tn (i + 1) s8.heap/\∀ b∈fp,H8 b=none:=fun {s8 σ8 H8} I8=>by
    refine ⟨T.keep _ _ _ st5 fun b hb o e=>(I8.pin (b,o) (aY _ (aY _ (kq hb e)))).1,fun b hb=>?_⟩
    obtain ⟨o,e,d⟩:=T.obj _ _ st5 b hb
    exact (I8.pin (b,o) (aY _ (aY _ (kq hb e)))).2.1
   cases b with
   | false =>
    simp only [c8,if_false] at q7 ⊢
    obtain ⟨m',hm,w7⟩:=q7
    obtain ⟨t7,f7⟩:=fpk I7
    obtain ⟨pD,_⟩:=I7.pin (s2.heap.objs.size,oD) (aY _ (gN _ (List.mem_singleton.mpr rfl)))
    exact ⟨m',hm,i + 1,acc,oD,H7,(I7.weak l6.symm hw).unpinned,stS pD,t7,f7,w7⟩
   | true =>
    simp only [if_true] at q7 ⊢
    refine fW (pe _ s7 σ6 H7 _ I7 q7) fun u8 s8 h_5=>?_
    obtain ⟨y,H8,I8,r8,z,m',hy,hm,w8⟩:=h_5
    obtain ⟨t8,f8⟩:=fpk I8
    obtain ⟨pD,pN,_⟩:=I8.pin (s2.heap.objs.size,_) (aY _ (gN _ (List.mem_singleton.mpr rfl)))
    subst hy
    obtain ⟨tz,rfl⟩:=r8
    refine Ar (stS pD) hlt fun h9 tk9 sb9 hS9=>?_
    obtain ⟨es9,ep9,t9,is9,pm9⟩:=id hS9
    have e9':=is9.at_
    refine ⟨m',hm,i + 1,_,{ cls:=.type "set",dict:=none,data:=.set es9 ep9 t9 },H8,?_,hS9,T.keep _ _ _ t8 fun b hb o e=>sb9.extBut b o (fun z=>hDf (z ▸ hb)) e,f8,w8⟩
    have I8':bF (cP X N' scope (bh (G2.objs.size + 1) scope.names cl) G2.objs.size s2 H2 fp (X.pn++pins)) [] (jC nt ix σ) H8 s8:=(I8.weak l6.symm hw).pins_of fun p hp=>absurd hp (by simp)
    have I9:bF (cP X N' scope (bh (G2.objs.size + 1) scope.names cl) G2.objs.size s2 H2 fp (X.pn++pins)) [] (jC nt ix σ) H8 { s8 with heap:=h9,toks:=tk9 } :=
     I8'.turned (it:=s2.heap.objs.size) (fun b o hb e=>sb9.extBut b o hb e) pN hDC (.inr (ar _)) (fun x c e z=>by
      rcases cne x c e with e | e
      ·obtain ⟨v,q⟩:=I2.cell x c e
       exact absurd q.lt (by rw [z];exact bW _)
      ·exact absurd e (by rw [z];exact bW _)) fun p hp z=>by
      have hp:p∈X.pn++pins:=(List.mem_append.mp hp).elim id fun z=>absurd z (by simp)
      exact absurd (am (I2.pin p hp).1) (by rw [z];exact bW _)
    exact I9.pin1 e9' pN hDC hDfs (fun v z=>nomatch z)
 exact qp loop (T.self _ 0 _ _ _ st1 loop)
inductive Rs (w:ba) (nt:Nat) (ix:List Nat) (g:TG) (tt:TT) (te:TE) (σ:St) (Q:VK) (J:It) (H1:Hp):Prop
 | mk (W:Nat->Nat->List Str->Hp->Prop) (w0:∃ m,W 0 m [] H1) (turn:∀ i m acc H,W i m acc H ->
 (J.stop i H/\∀ p,H p=none->Q (.ref p) (upd H p (lN w p acc))) \/
 (J.go i H/\acc.length + 1<iX/\∀ x H',J.yld i H x H'->g x (jC nt ix σ) H' fun σ2 H2=>tt σ2 H2 fun b H3 =>
  if b=true then te σ2 H3 fun y H4=>∃ z m',y=.str z/\m'<m/\W (i + 1) m' (if z∈acc then acc else acc++[z]) H4 else ∃ m',m'<m/\W (i + 1) m' acc H3)):Rs w nt ix g tt te σ Q J H1
def MS (w:ba) (nt:Nat) (ix:List Nat) (wi:TI) (g:TG) (tt:TT) (te:TE):TE:=fun σ H Q=>wi σ H (Rs w nt ix g tt te σ Q)
theorem GH {X:Cx}{elt tg iter:b9}{ifs:List b9}{scope:el}{pos:Pos}{wi:TI}{g:TG}{tt:TT}{te:TE}{N':List Str}{nt:Nat}{ix:List Nat}
  (hc:X.calm=true) (S:o0 X scope N' nt ix) (lo:Rn nt g) (hi:PI X tg iter wi)
  (hb:∀ cl C s₀ H₀ ex pn,PG (cP X N' scope cl C s₀ H₀ ex pn) tg g/\OX (cP X N' scope cl C s₀ H₀ ex pn) ifs tt/\PE (cP X N' scope cl C s₀ H₀ ex pn) elt te)
  (hs:∀ x,eE iter X.env x=pure x:=by intro _;rfl):PE X (.SetComp elt [⟨tg,iter,ifs,0⟩] scope pos) (MS X.w nt ix wi g tt te):=by
 intro pins s σ H Q I h
 obtain ⟨cl,hcl,c1,c2⟩:=tR (scope:=scope) (env:=X.env) fun y hy hf=>I.ok.has y.1 (S.free y hy hf)
 show ak _ _ (comprehension (.SetComp elt [⟨tg,iter,ifs,0⟩] scope pos) scope X.env (firstIterPos [⟨tg,iter,ifs,0⟩] pos) (newSet (.type "set")) (firstAsync [⟨tg,iter,ifs,0⟩]) (firstIter [⟨tg,iter,ifs,0⟩] X.env)) _ _ _
 refine qB (use:=none) rfl hs hcl S.kind S.loc (fW (hi pins s σ H _ I h) fun v s1 h1=>fW h1 fun itv s2 h2=>?_)
 obtain ⟨it,fp,tn,J,H2,e,I2,T,st2,f2,W,w0,turn⟩:=h2
 subst e
 refine Kk (RR:=fun acc C=>compPost (aE X.prog X.w) X.A X.xe none (EP X pins σ Q) acc C) hc S lo hb c1 c2 I2 T st2 f2 w0 turn ?_
 intro D C m s' acc H' hD _ q hn hI
 exact ⟨m,hn,fun h' sb=>⟨.ref D,_,hI h' sb,rfl,q⟩⟩
section
variable {X:Cx}
theorem As:jL X (.builtin "len") (fun xs H Q=>∃ p ss,xs=[.ref p]/\H p=some (lN X.w p ss)/\Q (.int ss.length) H):=by
 intro pins s σ H xs us Q I r h
 obtain ⟨p,ss,rfl,hq,q⟩:=h
 obtain ⟨u,rfl,rx⟩:=lI r
 cases rx
 obtain ⟨es,ep,t,is,pm⟩:=(show dn X.prog X.w H s.heap p (lN X.w p ss) from I.hok p _ hq).1
 have hlen:es.size=ss.length:=by rw [<- pm.length_eq,ay,aq]
 have hsm:(es.size:Int)<2 ^ 63:=by
  have h1:=is.few
  have h2:iX<=2 ^ 62:=by decide
  omega
 refine AV kind_len plain_len entry_len (args_len1 _) (wpAny_len_body_set is.at_ ⟨rfl,rfl,rfl⟩ rfl is.fits hsm ?_)
 refine ⟨.int _,H,I.tok _,⟨_,rfl⟩,?_⟩
 rw [hlen];exact q
end
end
end L2
section
namespace L2
open PySem PySem.Spec PyProof.Rows
section
variable {K:a7}{nt:Nat}{ix:List Nat}{te:TE}{σ:St}{H1:Hp}{Q:VK}{a:ag}{xs:List V}{i:Nat}
end
end L2
namespace L2
open PySem PySem.Spec PyProof.Rows
def IB (so:el) (N:List Str) (scope:el) (N':List Str) (nt:Nat) (ix:List Nat):Bool :=
 (scope.kind == .function) && (scope.names.all fun y=>y.2 != .cell || scope.names.lookup y.1 == some .cell) && (scope.names.all fun y=>y.2 != .local || scope.names.lookup y.1 == some .local) &&
 (scope.names.all fun y=>y.2 != .free || so.names.lookup y.1 == some .cell || so.names.lookup y.1 == some .free) &&
 ((bt ix.length).all fun k=>match ix[k]? with
  | none=>false
  | some i=>match N[i]? with
   | none=>false
   | some x=>N'[nt + k]? == some x && scope.names.lookup x == some .free) && (N'.length == nt + ix.length)
theorem cb {X:Cx}{so:el}{N:List Str}{scope:el}{N':List Str}{nt:Nat}{ix:List Nat} (h:IB so N scope N' nt ix=true) (h1:X.env.scope=so:=by rfl) (h2:X.N=N:=by rfl):o0 X scope N' nt ix:=by
 unfold IB at h
 simp only [aP,cR] at h
 obtain ⟨⟨⟨⟨⟨a,b⟩,c⟩,d⟩,e⟩,l⟩:=h
 refine ⟨by simpa using a,fun y hy z=>?_,fun y hy z=>?_,fun y hy z=>?_,fun k i hk=>?_,by simpa using l⟩
 ·have:=b y hy;simpa [z] using this
 ·have:=c y hy;simpa [z] using this
 ·have:=d y hy
  rw [h1]
  simpa [z] using this
 ·have hl:k<ix.length:=(List.getElem?_eq_some_iff.mp hk).1
  have:=e k (List.mem_range.mpr hl)
  rw [hk] at this
  rw [h2]
  simp only at this
  split at this
  ·cases this
  ·rename_i x hx
   simp only [aP] at this
   exact ⟨x,hx,by simpa using this.1,by simpa using this.2⟩
end L2
end
namespace L2
open PySem PySem.Spec PyProof.Rows
section
section
variable {K:a7}{nt:Nat}{ix:List Nat}{te:TE}{σ:St}{H1:Hp}{Q:VK}{a b:ag}{xs ys:List V}{i k:Nat}
end
end
end L2
namespace J
open PySem L2
section
abbrev D:=qD
inductive R (α:Type) where
 | ok (a:α)
 | ex (c:Str) (n:Option D)
 | no
def R.bind {α β:Type}:R α->(α->R β)->R β
 | .ok a,f=>f a
 | .ex c n,_=>.ex c n
 | .no,_=>.no
@[simp] theorem bind_ok {α β:Type} (a:α) (f:α->R β):(R.ok a).bind f=f a:=rfl
@[simp] theorem bind_ex {α β:Type} (c:Str) (n:Option D) (f:α->R β):(R.ex c n).bind f=.ex c n:=rfl
@[simp] theorem bind_no {α β:Type} (f:α->R β):(R.no:R α).bind f=.no:=rfl
def kD:ed->D
 | .inl i=>.int i
 | .inr x=>.str x
def tD (ks:List ed):D:=.tuple (ks.map kD)
mutual
inductive RD (K:a7) (H:Hp):V->D->Prop
 | none:RD K H .non .none
 | bool (b:Bool):RD K H (.bl b) (.bool b)
 | int (i:Int):RD K H (.int i) (.int i)
 | str (x:Str):RD K H (.str x) (.str x)
 | list {a:ag}{xs:List V}{ds:List D}:mZ K H a xs->RDs K H xs ds->RD K H (.ref a) (.list ds)
 | tuple {a:ag}{xs:List V}{ds:List D}:H a=some (.tup xs)->RDs K H xs ds->RD K H (.ref a) (.tuple ds)
 | dictK {a:ag}{kvs:List (ed×V)}{ds:List (D×D)}:H a=some (.dK kvs)->RDk K H kvs ds->RD K H (.ref a) (.dict ds)
 | dictT {a:ag}{kvs:List (List ed×V)}{ds:List (D×D)}:H a=some (.dT kvs)->kvs≠[]->RDt K H kvs ds->RD K H (.ref a) (.dict ds)
 | dictF {a:ag}{o:Obj}{kvs:List (List ed×V)}{ds:List (D×D)}:H a=some (.frz o (.dT kvs))->kvs≠[]->RDt K H kvs ds->RD K H (.ref a) (.dict ((.none,.none)::ds))
inductive RDs (K:a7) (H:Hp):List V->List D->Prop
 | nil:RDs K H [] []
 | cons {x:V}{xs:List V}{d:D}{ds:List D}:RD K H x d->RDs K H xs ds->RDs K H (x::xs) (d::ds)
inductive RDk (K:a7) (H:Hp):List (ed×V)->List (D×D)->Prop
 | nil:RDk K H [] []
 | cons {k:ed}{x:V}{xs:List (ed×V)}{d:D}{ds:List (D×D)}:RD K H x d->RDk K H xs ds->RDk K H ((k,x)::xs) ((kD k,d)::ds)
inductive RDt (K:a7) (H:Hp):List (List ed×V)->List (D×D)->Prop
 | nil:RDt K H [] []
 | cons {k:List ed}{x:V}{xs:List (List ed×V)}{d:D}{ds:List (D×D)}:RD K H x d->RDt K H xs ds->RDt K H ((k,x)::xs) ((tD k,d)::ds)
end
section
variable {K:a7}{H H':Hp}
theorem RD.same (e:dE H H') {v:V}{d:D} (h:RD K H v d):RD K H' v d:=RD.rec (motive_1:=fun v d _=>RD K H' v d) (motive_2:=fun v d _=>RDs K H' v d) (motive_3:=fun v d _=>RDk K H' v d) (motive_4:=fun v d _=>RDt K H' v d) .none .bool .int .str (fun h _ r=>.list (e.seq h) r) (fun h _ r=>.tuple (e _ _ h) r) (fun h _ r=>.dictK (e _ _ h) r) (fun h n _ r=>.dictT (e _ _ h) n r) (fun h n _ r=>.dictF (e _ _ h) n r) .nil (fun _ _ a b=>.cons a b) .nil (fun _ _ a b=>.cons a b) .nil (fun _ _ a b=>.cons a b) h
theorem RDs.same (e:dE H H') {v:List V}{d:List D} (h:RDs K H v d):RDs K H' v d:=RDs.rec (motive_1:=fun v d _=>RD K H' v d) (motive_2:=fun v d _=>RDs K H' v d) (motive_3:=fun v d _=>RDk K H' v d) (motive_4:=fun v d _=>RDt K H' v d) .none .bool .int .str (fun h _ r=>.list (e.seq h) r) (fun h _ r=>.tuple (e _ _ h) r) (fun h _ r=>.dictK (e _ _ h) r) (fun h n _ r=>.dictT (e _ _ h) n r) (fun h n _ r=>.dictF (e _ _ h) n r) .nil (fun _ _ a b=>.cons a b) .nil (fun _ _ a b=>.cons a b) .nil (fun _ _ a b=>.cons a b) h
theorem RDk.same (e:dE H H') {v:List (ed×V)}{d:List (D×D)} (h:RDk K H v d):RDk K H' v d:=RDk.rec (motive_1:=fun v d _=>RD K H' v d) (motive_2:=fun v d _=>RDs K H' v d) (motive_3:=fun v d _=>RDk K H' v d) (motive_4:=fun v d _=>RDt K H' v d) .none .bool .int .str (fun h _ r=>.list (e.seq h) r) (fun h _ r=>.tuple (e _ _ h) r) (fun h _ r=>.dictK (e _ _ h) r) (fun h n _ r=>.dictT (e _ _ h) n r) (fun h n _ r=>.dictF (e _ _ h) n r) .nil (fun _ _ a b=>.cons a b) .nil (fun _ _ a b=>.cons a b) .nil (fun _ _ a b=>.cons a b) h
theorem RDt.same (e:dE H H') {v:List (List ed×V)}{d:List (D×D)} (h:RDt K H v d):RDt K H' v d:=RDt.rec (motive_1:=fun v d _=>RD K H' v d) (motive_2:=fun v d _=>RDs K H' v d) (motive_3:=fun v d _=>RDk K H' v d) (motive_4:=fun v d _=>RDt K H' v d) .none .bool .int .str (fun h _ r=>.list (e.seq h) r) (fun h _ r=>.tuple (e _ _ h) r) (fun h _ r=>.dictK (e _ _ h) r) (fun h n _ r=>.dictT (e _ _ h) n r) (fun h n _ r=>.dictF (e _ _ h) n r) .nil (fun _ _ a b=>.cons a b) .nil (fun _ _ a b=>.cons a b) .nil (fun _ _ a b=>.cons a b) h
mutual
def kO:D->Bool
 | .dict _=>false
 | .list xs=>noDs xs
 | .tuple xs=>noDs xs
 | _=>true
def noDs:List D->Bool
 | []=>true
 | x::r=>kO x && noDs r
end
theorem Uw {a b:Bool} (h:(a && b)=true):a=true:=(Bool.and_eq_true_iff.mp h).1
theorem Ux {a b:Bool} (h:(a && b)=true):b=true:=(Bool.and_eq_true_iff.mp h).2
theorem RD.rep {v:V}{d:D} (h:RD K H v d):kO d=true->GE K H v d:=RD.rec (motive_1:=fun v d _=>kO d=true->GE K H v d) (motive_2:=fun v d _=>noDs d=true->Reps K H v d) (motive_3:=fun _ _ _=>True) (motive_4:=fun _ _ _=>True) (fun _=>.none) (fun b _=>.bool b) (fun i _=>.int i) (fun x _=>.str x) (fun h _ r e=>.list h (r e)) (fun h _ r e=>.tuple (.of h) (r e)) (fun _ _ _ e=>ll e) (fun _ _ _ _ e=>ll e) (fun _ _ _ _ e=>ll e) (fun _=>.nil) (fun _ _ a b e=>.cons (a (Uw e)) (b (Ux e))) trivial (fun _ _ _ _=>trivial) trivial (fun _ _ _ _=>trivial) h
theorem RDs.length {vs:List V}:∀ {ds:List D},RDs K H vs ds->vs.length=ds.length:=by
 induction vs with
 | nil=>intro ds h;cases h;rfl
 | cons x r ih=>intro ds h;cases h with | cons a b=>exact congrArg (· + 1) (ih b)
theorem RDs.get {vs:List V}:∀ {ds:List D}{i:Nat}{v:V},RDs K H vs ds->vs[i]?=some v->∃ d,ds[i]?=some d/\RD K H v d:=by
 induction vs with
 | nil=>intro ds i v _ e;cases e
 | cons x r ih =>
  intro ds i v h e
  cases h with
  | cons a b =>
   cases i with
   | zero=>cases e;exact ⟨_,rfl,a⟩
   | succ i=>have q:=ih (i:=i) b e;exact q
theorem RDs.get' {vs:List V}:∀ {ds:List D}{i:Nat}{d:D},RDs K H vs ds->ds[i]?=some d->∃ v,vs[i]?=some v/\RD K H v d:=by
 induction vs with
 | nil=>intro ds i v h e;cases h;cases e
 | cons x r ih =>
  intro ds i v h e
  cases h with
  | cons a b =>
   cases i with
   | zero=>cases e;exact ⟨_,rfl,a⟩
   | succ i=>have q:=ih (i:=i) b e;exact q
theorem RDs.append {vs ws:List V}{es:List D}:∀ {ds:List D},RDs K H vs ds->RDs K H ws es->RDs K H (vs++ws) (ds++es):=by
 induction vs with
 | nil=>intro ds h s;cases h;exact s
 | cons x r ih=>intro ds h s;cases h with | cons a b=>exact .cons a (ih b s)
theorem RDs.drop {vs:List V}:∀ {ds:List D} (n:Nat),RDs K H vs ds->RDs K H (vs.drop n) (ds.drop n):=by
 induction vs with
 | nil=>intro ds n h;cases h;cases n<;>exact .nil
 | cons x r ih =>
  intro ds n h
  cases n with
  | zero=>exact h
  | succ n=>cases h with | cons a b=>exact ih n b
theorem RDs.take {vs:List V}:∀ {ds:List D} (n:Nat),RDs K H vs ds->RDs K H (vs.take n) (ds.take n):=by
 induction vs with
 | nil=>intro ds n h;cases h;cases n<;>exact .nil
 | cons x r ih =>
  intro ds n h
  cases n with
  | zero=>exact .nil
  | succ n=>cases h with | cons a b=>exact .cons a (ih n b)
theorem RDs.reverse {vs:List V}{ds:List D} (h:RDs K H vs ds):RDs K H vs.reverse ds.reverse:=by
 induction vs generalizing ds with
 | nil=>cases h;exact .nil
 | cons x r ih=>cases h with | cons a b=>rw [oF,oF];exact (ih b).append (.cons a .nil)
theorem yM:∀ (ss:List Str),RDs K H (ss.map V.str) (ss.map au)
 | []=>.nil
 | x::r=>.cons (.str x) (yM r)
theorem RD.str_inv {v:V}{x:Str} (h:RD K H v (.str x)):v=.str x:=by cases h;rfl
theorem RD.bool_inv {v:V}{x:Bool} (h:RD K H v (.bool x)):v=.bl x:=by cases h;rfl
theorem RD.int_inv {v:V}{x:Int} (h:RD K H v (.int x)):v=.int x:=by cases h;rfl
theorem IC {α:Type}{c:α->D}{k:α->V} (hc:∀ {v x},RD K H v (c x)->v=k x) {ss:List α}:∀ {vs:List V},RDs K H vs (ss.map c)->vs=ss.map k:=by
 induction ss with
 | nil=>intro vs h;cases h;rfl
 | cons x r ih=>intro vs h;cases h with | cons a b=>rw [hc a,ih b];rfl
theorem pp {ss:List Str}{vs:List V}:RDs K H vs (ss.map au)->vs=ss.map V.str:=IC RD.str_inv
theorem At {ss:List Bool}{vs:List V}:RDs K H vs (ss.map c9)->vs=ss.map V.bl:=IC RD.bool_inv
end
def nt:HO->Bool
 | .tup _=>false
 | _=>true
structure cJ (H Hs H' Hs':Hp):Prop where
 all:dE H H'
 sh:dE Hs Hs'
 sub:dE Hs' H'
 out:∀ a o,H a=some o->nt o=true->Hs a=none->Hs' a=none
theorem cJ.refl {H Hs:Hp} (h:dE Hs H):cJ H Hs H Hs:=⟨.refl _,.refl _,h,fun _ _ _ _ e=>e⟩
theorem cJ.trans {H Hs H1 Hs1 H2 Hs2:Hp} (a:cJ H Hs H1 Hs1) (b:cJ H1 Hs1 H2 Hs2):cJ H Hs H2 Hs2 :=
 ⟨a.all.trans b.all,a.sh.trans b.sh,b.sub,fun c o e t n=>b.out c o (a.all c o e) t (a.out c o e t n)⟩
theorem cJ.new {H Hs:Hp}{p:ag}{o:HO} (h:dE Hs H) (n:H p=none):cJ H Hs (upd H p o) (upd Hs p o):=by
 have n':Hs p=none:=h.free n
 refine ⟨j6 n,j6 n',fun b u e=>?_,fun a u e t z=>?_⟩
 ·by_cases hb:b=p
  ·subst hb;rw [aV] at e ⊢;exact e
  ·rw [b6 hb] at e ⊢;exact h b u e
 ·rw [b6 (bn e n)];exact z
theorem cJ.mine {H Hs:Hp}{p:ag}{o:HO} (h:dE Hs H) (n:H p=none):cJ H Hs (upd H p o) Hs:=by
 refine ⟨j6 n,.refl _,fun b u e=>?_,fun a u e t z=>z⟩
 have e':=h b u e
 rw [b6 (bn e' n)];exact e'
inductive m_ (K:a7) (Hs:Hp):HO->D->Prop
 | lst {vs:List V}{ds:List D}:RDs K Hs vs ds->m_ K Hs (.lst vs) (.list ds)
 | dK {kvs:List (ed×V)}{ds:List (D×D)}:RDk K Hs kvs ds->m_ K Hs (.dK kvs) (.dict ds)
 | dT {kvs:List (List ed×V)}{ds:List (D×D)}:kvs≠[]->RDt K Hs kvs ds->m_ K Hs (.dT kvs) (.dict ds)
 | dF {o:Obj}{kvs:List (List ed×V)}{ds:List (D×D)}:kvs≠[]->RDt K Hs kvs ds->m_ K Hs (.frz o (.dT kvs)) (.dict ((.none,.none)::ds))
theorem m_.same {K:a7}{Hs Hs':Hp}{o:HO}{d:D} (e:dE Hs Hs') (h:m_ K Hs o d):m_ K Hs' o d:=by
 cases h with
 | lst r=>exact .lst (r.same e)
 | dK r=>exact .dK (r.same e)
 | dT n r=>exact .dT n (r.same e)
 | dF n r=>exact .dF n (r.same e)
theorem m_.nt {K:a7}{Hs:Hp}{o:HO}{d:D} (h:m_ K Hs o d):J.nt o=true:=by cases h<;>rfl
theorem m_.share {K:a7}{Hs:Hp}{o:HO}{d:D}{a:ag} (n:Hs a=none) (h:m_ K Hs o d):RD K (upd Hs a o) (.ref a) d:=by
 have e:dE Hs (upd Hs a o):=j6 n
 cases h with
 | lst r=>exact .list (.of aV) (r.same e)
 | dK r=>exact .dictK aV (r.same e)
 | dT n r=>exact .dictT aV n (r.same e)
 | dF n r=>exact .dictF aV n (r.same e)
inductive Sl where
 | no
 | shr (d:D)
 | own (d:D)
 | lck (d:D)
 | ow2 (dss:List (List D))
abbrev av:=List Sl
inductive Be (K:a7) (H Hs:Hp):List ag->List (List D)->Prop
 | nil:Be K H Hs [] []
 | cons {a:ag}{as:List ag}{vs:List V}{ds:List D}{dss:List (List D)}:H a=some (.lst vs)->RDs K Hs vs ds->Be K H Hs as dss->Be K H Hs (a::as) (ds::dss)
theorem Be.step {K:a7}{H Hs H' Hs':Hp} (e:dE H H') (e':dE Hs Hs') {as:List ag}{dss:List (List D)} (h:Be K H Hs as dss):Be K H' Hs' as dss:=by
 induction h with
 | nil=>exact .nil
 | cons h r t ih=>exact .cons (e _ _ h) (r.same e') ih
theorem Be.upd {K:a7}{H Hs:Hp}{b:ag}{o:HO}{as:List ag}{dss:List (List D)} (n:b∉as) (h:Be K H Hs as dss):Be K (upd H b o) Hs as dss:=by
 induction h with
 | nil=>exact .nil
 | cons h r t ih=>exact .cons (by rw [b6 (fun z=>n (by rw [<- z];exact al))];exact h) r (ih fun z=>n (ao _ z))
theorem Be.there {K:a7}{H Hs:Hp}{b:ag}{as:List ag}{dss:List (List D)} (h:Be K H Hs as dss) (hb:b∈as):∃ o,H b=some o/\nt o=true:=by
 induction h with
 | nil=>cases hb
 | cons h r t ih =>
  rcases List.mem_cons.mp hb with e | hb
  ·exact ⟨_,e ▸ h,rfl⟩
  ·exact ih hb
structure O2 (K:a7) (H0 H Hs:Hp) (ρ:av) (σ:St) (i:Nat) (dss:List (List D)) (a:ag) (as:List ag):Prop where
 at_:σ[i]?=some (some (V.ref a))
 ob:H a=some (.lst (as.map V.ref))
 nd:(a::as).Nodup
 out:∀ b∈a::as,Hs b=none/\H0 b=none
 dj:∀ b∈a::as,∀ (j:Nat) (e:D),ρ[j]?=some (Sl.own e)->σ[j]?≠some (some (V.ref b))
 inn:Be K H Hs as dss
structure Fr (K:a7) (H0 Hs0:Hp) (la:Nat->Option ag) (ρ:av) (σ:St) (H Hs:Hp):Prop where
 st:cJ H0 Hs0 H Hs
 len:ρ.length=σ.length
 sh:∀ (i:Nat) (d:D),ρ[i]?=some (Sl.shr d)->∃ v,σ[i]?=some (some v)/\RD K Hs v d
 ow:∀ (i:Nat) (d:D),ρ[i]?=some (Sl.own d)->∃ a o,σ[i]?=some (some (V.ref a))/\H a=some o/\Hs a=none/\H0 a=none/\m_ K Hs o d
 lk:∀ (i:Nat) (d:D),ρ[i]?=some (Sl.lck d)->∃ a o,σ[i]?=some (some (V.ref a))/\la i=some a/\H a=some o/\Hs a=none/\H0 a=some o/\m_ K Hs o d
 dj:∀ (i j:Nat) (d e:D) (a:ag),ρ[i]?=some (Sl.own d)->ρ[j]?=some (Sl.own e)->σ[i]?=some (some (V.ref a))->σ[j]?=some (some (V.ref a))->i=j
 lh:∀ (i:Nat) (a:ag),la i=some a->∃ o,H0 a=some o
 o2:∀ (i:Nat) (dss:List (List D)),ρ[i]?=some (Sl.ow2 dss)->∃ a as,O2 K H0 H Hs ρ σ i dss a as
 u2:∀ (i j:Nat) (d e:List (List D)),ρ[i]?=some (Sl.ow2 d)->ρ[j]?=some (Sl.ow2 e)->i=j
theorem Fr.step {K:a7}{H0 Hs0 H Hs H' Hs':Hp}{la:Nat->Option ag}{ρ:av}{σ:St} (f:Fr K H0 Hs0 la ρ σ H Hs) (s:cJ H Hs H' Hs'):Fr K H0 Hs0 la ρ σ H' Hs':=by
 refine ⟨f.st.trans s,f.len,fun i d e=>?_,fun i d e=>?_,fun i d e=>?_,f.dj,f.lh,fun i dss e=>?_,f.u2⟩
 ·obtain ⟨v,h1,h2⟩:=f.sh i d e
  exact ⟨v,h1,h2.same s.sh⟩
 ·obtain ⟨a,o,h1,h2,h3,h4,h5⟩:=f.ow i d e
  exact ⟨a,o,h1,s.all _ _ h2,s.out _ _ h2 h5.nt h3,h4,h5.same s.sh⟩
 ·obtain ⟨a,o,h1,h2,h3,h4,h5,h6⟩:=f.lk i d e
  exact ⟨a,o,h1,h2,s.all _ _ h3,s.out _ _ h3 h6.nt h4,h5,h6.same s.sh⟩
 ·obtain ⟨a,as,h⟩:=f.o2 i dss e
  refine ⟨a,as,h.at_,s.all _ _ h.ob,h.nd,fun b hb=>⟨?_,(h.out b hb).2⟩,h.dj,h.inn.step s.all s.sh⟩
  have there:∃ o,H b=some o/\nt o=true:=by
   rcases List.mem_cons.mp hb with rfl | hb
   ·exact ⟨_,h.ob,rfl⟩
   ·exact h.inn.there hb
  obtain ⟨o,ho,hn⟩:=there
  exact s.out b o ho hn (h.out b (by assumption)).1
inductive Uy (K:a7) (H Hs:Hp) (v:V) (d:D):Prop
 | mk (a:ag) (o:HO) (h0:v=.ref a) (h1:H a=some o) (h2:Hs a=none) (h3:m_ K Hs o d):Uy K H Hs v d
def RB (K:a7) (H Hs:Hp) (v:V) (d:D):Prop:=RD K Hs v d\/Uy K H Hs v d
theorem RB.step {K:a7}{H Hs H' Hs':Hp}{v:V}{d:D} (h:RB K H Hs v d) (s:cJ H Hs H' Hs'):RB K H' Hs' v d:=by
 rcases h with h | ⟨a,o,h1,h2,h3,h4⟩
 ·exact .inl (h.same s.sh)
 ·exact .inr ⟨a,o,h1,s.all _ _ h2,s.out _ _ h2 h4.nt h3,h4.same s.sh⟩
theorem RB.full {K:a7}{H Hs:Hp}{v:V}{d:D} (sub:dE Hs H) (h:RB K H Hs v d):RD K H v d:=by
 rcases h with h | ⟨a,o,rfl,h2,h3,h4⟩
 ·exact h.same sub
 ·have e:dE (upd Hs a o) H:=fun b u q=>by
   by_cases hb:b=a
   ·subst hb;rw [aV] at q;cases q;exact h2
   ·rw [b6 hb] at q;exact sub b u q
  exact (h4.share h3).same e
theorem RB.list {K:a7}{H Hs:Hp}{v:V}{ds:List D} (sub:dE Hs H) (h:RB K H Hs v (.list ds)):∃ a vs,v=.ref a/\mZ K H a vs/\RDs K Hs vs ds:=by
 rcases h with h | ⟨a,o,rfl,h2,h3,h4⟩
 ·cases h with | list q r=>exact ⟨_,_,rfl,sub.seq q,r⟩
 ·cases h4 with | lst r=>exact ⟨a,_,rfl,.of h2,r⟩
theorem RB.tuple {K:a7}{H Hs:Hp}{v:V}{ds:List D} (sub:dE Hs H) (h:RB K H Hs v (.tuple ds)):∃ a vs,v=.ref a/\lm K H a vs/\RDs K Hs vs ds/\Hs a=some (.tup vs):=by
 rcases h with h | ⟨a,o,rfl,h2,h3,h4⟩
 ·cases h with | tuple q r=>exact ⟨_,_,rfl,.of (sub _ _ q),r,q⟩
 ·cases h4
theorem RB.str {K:a7}{H Hs:Hp}{v:V}{x:Str} (h:RB K H Hs v (.str x)):v=.str x:=by
 rcases h with h | ⟨a,o,rfl,h2,h3,h4⟩
 ·exact h.str_inv
 ·cases h4
theorem RB.int {K:a7}{H Hs:Hp}{v:V}{i:Int} (h:RB K H Hs v (.int i)):v=.int i:=by
 rcases h with h | ⟨a,o,rfl,h2,h3,h4⟩
 ·exact h.int_inv
 ·cases h4
theorem RB.non {K:a7}{H Hs:Hp}{v:V} (h:RB K H Hs v .none):v=.non:=by
 rcases h with h | ⟨a,o,rfl,h2,h3,h4⟩
 ·cases h;rfl
 ·cases h4
def XW (K:a7) (cls:Str->ag) (E:XK) (c:Str) (n:Option D) (H Hs:Hp):Prop:=match n with
 | none=>E (.ref (cls c)) none H
 | some d=>∀ dx v,H dx=some (.xd [("number",v)])->RD K Hs v d->E (.ref (cls c)) (some dx) H
def Fin {α:Type} (K:a7) (cls:Str->ag) (E:XK) (H Hs:Hp) (r:R α) (q:α->Prop):Prop:=match r with
 | .ok d=>q d
 | .ex c n=>∀ H' Hs',cJ H Hs H' Hs'->XW K cls E c n H' Hs'
 | .no=>False
inductive Xo (K:a7) (cls:Str->ag) (E:XK) (ρ:av) (r:R D) (σ:St) (H:Hp) (Q:VK):Prop
 | mk (H0 Hs0:Hp) (la:Nat->Option ag) (Hs:Hp) (f:Fr K H0 Hs0 la ρ σ H Hs) (q:Fin K cls E H Hs r fun d=>∀ v H' Hs',cJ H Hs H' Hs'->RD K Hs' v d->Q v H'):Xo K cls E ρ r σ H Q
def TR (K:a7) (cls:Str->ag) (E:XK) (ρ:av) (r:R D):TE:=Xo K cls E ρ r
inductive Xp (K:a7) (cls:Str->ag) (E:XK) (ρ:av) (r:R D) (σ:St) (H:Hp) (Q:VK):Prop
 | mk (H0 Hs0:Hp) (la:Nat->Option ag) (Hs:Hp) (f:Fr K H0 Hs0 la ρ σ H Hs) (q:Fin K cls E H Hs r fun d=>∀ v H' Hs',cJ H Hs H' Hs'->RB K H' Hs' v d->Q v H'):Xp K cls E ρ r σ H Q
def TB (K:a7) (cls:Str->ag) (E:XK) (ρ:av) (r:R D):TE:=Xp K cls E ρ r
inductive Uz (K:a7) (cls:Str->ag) (E:XK) (ρ:av) (r:R Bool) (σ:St) (H:Hp) (Q:Bool->Hp->Prop):Prop
 | mk (H0 Hs0:Hp) (la:Nat->Option ag) (Hs:Hp) (f:Fr K H0 Hs0 la ρ σ H Hs) (q:Fin K cls E H Hs r fun b=>∀ H' Hs',cJ H Hs H' Hs'->Q b H'):Uz K cls E ρ r σ H Q
def LB (K:a7) (cls:Str->ag) (E:XK) (ρ:av) (r:R Bool):TT:=Uz K cls E ρ r
inductive Rt (K:a7) (H Hs:Hp):List V->List D->Prop
 | nil:Rt K H Hs [] []
 | cons {x:V}{xs:List V}{d:D}{ds:List D}:RB K H Hs x d->Rt K H Hs xs ds->Rt K H Hs (x::xs) (d::ds)
inductive UA (K:a7) (cls:Str->ag) (E:XK) (ρ:av) (r:R (List D)) (σ:St) (H:Hp) (Q:List V->Hp->Prop):Prop
 | mk (H0 Hs0:Hp) (la:Nat->Option ag) (Hs:Hp) (f:Fr K H0 Hs0 la ρ σ H Hs) (q:Fin K cls E H Hs r fun d=>∀ v H' Hs',cJ H Hs H' Hs'->RDs K Hs' v d->Q v H'):UA K cls E ρ r σ H Q
def UB (K:a7) (cls:Str->ag) (E:XK) (ρ:av) (r:R (List D)):TA:=UA K cls E ρ r
inductive UC (K:a7) (cls:Str->ag) (E:XK) (ρ:av) (r:R (List D)) (σ:St) (H:Hp) (Q:List V->Hp->Prop):Prop
 | mk (H0 Hs0:Hp) (la:Nat->Option ag) (Hs:Hp) (f:Fr K H0 Hs0 la ρ σ H Hs) (q:Fin K cls E H Hs r fun d=>∀ v H' Hs',cJ H Hs H' Hs'->Rt K H' Hs' v d->Q v H'):UC K cls E ρ r σ H Q
def VV (K:a7) (cls:Str->ag) (E:XK) (ρ:av) (r:R (List D)):TA:=UC K cls E ρ r
structure C where
 X:Cx
 cls:Str->ag
 E:XK
structure JE (c:C) (e:b9) (g:av->R D):Prop where of ::
 run:∀ ρ,PE c.X e (TR c.X.K c.cls c.E ρ (g ρ))
instance {c:C}{e:b9}{g:av->R D}:CoeFun (JE c e g) (fun _=>∀ ρ,PE c.X e (TR c.X.K c.cls c.E ρ (g ρ))):=⟨JE.run⟩
structure JB (c:C) (e:b9) (g:av->R D):Prop where of ::
 run:∀ ρ,PE c.X e (TB c.X.K c.cls c.E ρ (g ρ))
instance {c:C}{e:b9}{g:av->R D}:CoeFun (JB c e g) (fun _=>∀ ρ,PE c.X e (TB c.X.K c.cls c.E ρ (g ρ))):=⟨JB.run⟩
structure JT (c:C) (e:b9) (g:av->R Bool):Prop where of ::
 run:∀ ρ,PT c.X e (LB c.X.K c.cls c.E ρ (g ρ))
instance {c:C}{e:b9}{g:av->R Bool}:CoeFun (JT c e g) (fun _=>∀ ρ,PT c.X e (LB c.X.K c.cls c.E ρ (g ρ))):=⟨JT.run⟩
structure JW (c:C) (e:b9) (g:av->R Bool):Prop where of ::
 run:∀ ρ,PW c.X e (LB c.X.K c.cls c.E ρ (g ρ))
instance {c:C}{e:b9}{g:av->R Bool}:CoeFun (JW c e g) (fun _=>∀ ρ,PW c.X e (LB c.X.K c.cls c.E ρ (g ρ))):=⟨JW.run⟩
structure Bf (c:C) (es:List b9) (g:av->R (List D)):Prop where of ::
 run:∀ ρ,PA c.X es (UB c.X.K c.cls c.E ρ (g ρ))
instance {c:C}{es:List b9}{g:av->R (List D)}:CoeFun (Bf c es g) (fun _=>∀ ρ,PA c.X es (UB c.X.K c.cls c.E ρ (g ρ))):=⟨Bf.run⟩
structure Ru (c:C) (es:List b9) (g:av->R (List D)):Prop where of ::
 run:∀ ρ,PA c.X es (VV c.X.K c.cls c.E ρ (g ρ))
instance {c:C}{es:List b9}{g:av->R (List D)}:CoeFun (Ru c es g) (fun _=>∀ ρ,PA c.X es (VV c.X.K c.cls c.E ρ (g ρ))):=⟨Ru.run⟩
section
variable {c:C}{e a b:b9}{g ga gb:av->R D}{pos:Pos}
theorem qy {X:Cx}{e:b9}{t t':TE} (h:PE X e t) (m:∀ σ H Q,t' σ H Q->t σ H Q):PE X e t':=fun pins s σ H Q I q=>h pins s σ H Q I (m σ H Q q)
theorem VW {X:Cx}{e:b9}{t t':TT} (h:PT X e t) (m:∀ σ H Q,t' σ H Q->t σ H Q):PT X e t':=fun pins s σ H Q I q=>h pins s σ H Q I (m σ H Q q)
theorem Xq {X:Cx}{e:b9}{t t':TT} (h:PW X e t) (m:∀ σ H Q,t' σ H Q->t σ H Q):PW X e t':=fun wh pins s σ H Q I q=>h wh pins s σ H Q I (m σ H Q q)
theorem VX {X:Cx}{e:List b9}{t t':TA} (h:PA X e t) (m:∀ σ H Q,t' σ H Q->t σ H Q):PA X e t':=fun pos pins s σ H Q I q=>h pos pins s σ H Q I (m σ H Q q)
theorem Ab {X:Cx}{e:cr}{t t':TS} (h:PS X e t) (m:∀ D σ H,t' D σ H->t D σ H):PS X e t':=fun pins s σ H Q I q=>h pins s σ H Q I (m Q σ H q)
theorem WO {X:Cx}{e:List cr}{t t':TS} (h:A_ X e t) (m:∀ D σ H,t' D σ H->t D σ H):A_ X e t':=fun pins s σ H Q I q=>h pins s σ H Q I (m Q σ H q)
theorem JE.bor (h:JE c e g):JB c e g:=.of fun ρ=>qy (h ρ) fun σ H Q ⟨H0,Hs0,la,Hs,f,q⟩=>⟨H0,Hs0,la,Hs,f,by
 cases hr:g ρ with
 | ok d=>rw [hr] at q;exact fun v H' Hs' s r=>q v H' Hs' s (.inl r)
 | ex c n=>rw [hr] at q;exact q
 | no=>rw [hr] at q;exact q⟩
theorem one {K:a7}{cls:Str->ag}{E:XK}{ρ:av}{r:R D}{β:Type}{k:D->R β}{σ:St}{H:Hp}{H0 Hs0 Hs:Hp}{la:Nat->Option ag}{Q:V->Hp->Prop}{q:β->Prop} (f:Fr K H0 Hs0 la ρ σ H Hs)
  (h:Fin K cls E H Hs (r.bind k) q) (m:∀ d v H' Hs',r=.ok d->cJ H Hs H' Hs'->Fr K H0 Hs0 la ρ σ H' Hs'->RB K H' Hs' v d->Q v H'):TB K cls E ρ r σ H Q:=by
 refine ⟨H0,Hs0,la,Hs,f,?_⟩
 cases r with
 | ok d=>exact fun v H' Hs' s r=>m d v H' Hs' rfl s (f.step s) r
 | ex c n=>exact h
 | no=>exact h
theorem Cu {K:a7}{cls:Str->ag}{E:XK}{ρ:av}{r:R D}{β:Type}{k:D->R β}{σ:St}{H:Hp}{H0 Hs0 Hs:Hp}{la:Nat->Option ag}{Q:V->Hp->Prop}{q:β->Prop} (f:Fr K H0 Hs0 la ρ σ H Hs)
  (h:Fin K cls E H Hs (r.bind k) q) (m:∀ d v H' Hs',r=.ok d->cJ H Hs H' Hs'->Fr K H0 Hs0 la ρ σ H' Hs'->RD K Hs' v d->Q v H'):TR K cls E ρ r σ H Q:=by
 refine ⟨H0,Hs0,la,Hs,f,?_⟩
 cases r with
 | ok d=>exact fun v H' Hs' s r=>m d v H' Hs' rfl s (f.step s) r
 | ex c n=>exact h
 | no=>exact h
theorem MT {K:a7}{cls:Str->ag}{E:XK}{ρ:av}{r:R Bool}{β:Type}{k:Bool->R β}{σ:St}{H:Hp}{H0 Hs0 Hs:Hp}{la:Nat->Option ag}{Q:Bool->Hp->Prop}{q:β->Prop} (f:Fr K H0 Hs0 la ρ σ H Hs)
  (h:Fin K cls E H Hs (r.bind k) q) (m:∀ d H' Hs',r=.ok d->cJ H Hs H' Hs'->Fr K H0 Hs0 la ρ σ H' Hs'->Q d H'):LB K cls E ρ r σ H Q:=by
 refine ⟨H0,Hs0,la,Hs,f,?_⟩
 cases r with
 | ok d=>exact fun H' Hs' s=>m d H' Hs' rfl s (f.step s)
 | ex c n=>exact h
 | no=>exact h
theorem yN {K:a7}{cls:Str->ag}{E:XK}{ρ:av}{r:R (List D)}{β:Type}{k:List D->R β}{σ:St}{H:Hp}{H0 Hs0 Hs:Hp}{la:Nat->Option ag}{Q:List V->Hp->Prop}{q:β->Prop} (f:Fr K H0 Hs0 la ρ σ H Hs)
  (h:Fin K cls E H Hs (r.bind k) q) (m:∀ d v H' Hs',r=.ok d->cJ H Hs H' Hs'->Fr K H0 Hs0 la ρ σ H' Hs'->RDs K Hs' v d->Q v H'):UB K cls E ρ r σ H Q:=by
 refine ⟨H0,Hs0,la,Hs,f,?_⟩
 cases r with
 | ok d=>exact fun v H' Hs' s r=>m d v H' Hs' rfl s (f.step s) r
 | ex c n=>exact h
 | no=>exact h
theorem MU {K:a7}{cls:Str->ag}{E:XK}{ρ:av}{r:R (List D)}{β:Type}{k:List D->R β}{σ:St}{H:Hp}{H0 Hs0 Hs:Hp}{la:Nat->Option ag}{Q:List V->Hp->Prop}{q:β->Prop} (f:Fr K H0 Hs0 la ρ σ H Hs)
  (h:Fin K cls E H Hs (r.bind k) q) (m:∀ d v H' Hs',r=.ok d->cJ H Hs H' Hs'->Fr K H0 Hs0 la ρ σ H' Hs'->Rt K H' Hs' v d->Q v H'):VV K cls E ρ r σ H Q:=by
 refine ⟨H0,Hs0,la,Hs,f,?_⟩
 cases r with
 | ok d=>exact fun v H' Hs' s r=>m d v H' Hs' rfl s (f.step s) r
 | ex c n=>exact h
 | no=>exact h
theorem Fin.on {α:Type}{K:a7}{cls:Str->ag}{E:XK}{H Hs H' Hs':Hp}{r:R α}{q q':α->Prop} (h:Fin K cls E H Hs r q) (s:cJ H Hs H' Hs') (m:∀ a,q a->q' a):Fin K cls E H' Hs' r q':=by
 cases r with
 | ok a=>exact m a h
 | ex c n=>exact fun H2 Hs2 s2=>h H2 Hs2 (s.trans s2)
 | no=>exact h
end
end
section
def FU (ρ:av) (i:Nat):R D:=match ρ[i]? with
 | some (Sl.shr d)=>.ok d
 | _=>.no
def FV (ρ:av) (i:Nat):R D:=match ρ[i]? with
 | some (Sl.shr d)=>.ok d
 | some (Sl.own d)=>.ok d
 | some (Sl.lck d)=>.ok d
 | _=>.no
section
variable {c:C}{e a b:b9}{g ga gb:av->R D}{pos:Pos}
theorem ai (i:Nat) {x:Str} (hN:c.X.N[i]?=some x:=by rfl) (hv:LA c.X.env.scope x:=by first | exact gP rfl | exact e8 (gP rfl) | exact e8 (e8 rfl)) (hd:(x == ("__debug__" : Str))=false:=by decide)
  (hcd:(x == ("__classdict__" : Str))=false:=by decide):JE c (.Name x pos) (fun ρ=>FU ρ i):=.of fun ρ=>qy (n_ hN hv hd hcd) fun σ H Q h_0=>by
 obtain ⟨H0,Hs0,la,Hs,f,q⟩:=h_0
 cases hr:ρ[i]? with
 | none=>simp only [FU,hr] at q;exact q.elim
 | some s =>
  cases s with
  | shr d =>
   obtain ⟨v,h1,h2⟩:=f.sh i d hr
   simp only [FU,hr] at q
   exact ⟨v,h1,q v H Hs (.refl f.st.sub) h2⟩
  | no=>simp only [FU,hr] at q;exact q.elim
  | own d=>simp only [FU,hr] at q;exact q.elim
  | lck d=>simp only [FU,hr] at q;exact q.elim
  | ow2 d=>simp only [FU,hr] at q;exact q.elim
theorem ah (i:Nat) {x:Str} (hN:c.X.N[i]?=some x:=by rfl) (hv:LA c.X.env.scope x:=by first | exact gP rfl | exact e8 (gP rfl) | exact e8 (e8 rfl)) (hd:(x == ("__debug__" : Str))=false:=by decide)
  (hcd:(x == ("__classdict__" : Str))=false:=by decide):JB c (.Name x pos) (fun ρ=>FV ρ i):=.of fun ρ=>qy (n_ hN hv hd hcd) fun σ H Q h_1=>by
 obtain ⟨H0,Hs0,la,Hs,f,q⟩:=h_1
 cases hr:ρ[i]? with
 | none=>simp only [FV,hr] at q;exact q.elim
 | some s =>
  cases s with
  | shr d =>
   obtain ⟨v,h1,h2⟩:=f.sh i d hr
   simp only [FV,hr] at q
   exact ⟨v,h1,q v H Hs (.refl f.st.sub) (.inl h2)⟩
  | no=>simp only [FV,hr] at q;exact q.elim
  | own d =>
   obtain ⟨a,o,h1,h2,h3,h4,h5⟩:=f.ow i d hr
   simp only [FV,hr] at q
   exact ⟨_,h1,q _ H Hs (.refl f.st.sub) (.inr ⟨a,o,rfl,h2,h3,h5⟩)⟩
  | lck d =>
   obtain ⟨a,o,h1,h2,h3,h4,h5,h6⟩:=f.lk i d hr
   simp only [FV,hr] at q
   exact ⟨_,h1,q _ H Hs (.refl f.st.sub) (.inr ⟨a,o,rfl,h3,h4,h6⟩)⟩
  | ow2 d=>simp only [FV,hr] at q;exact q.elim
theorem qO {v:V}{d:D} (h:PE c.X e (tC v)) (r:∀ Hs,RD c.X.K Hs v d):JE c e (fun _=>.ok d):=.of fun ρ=>qy h fun σ H Q h_2=>by obtain ⟨H0,Hs0,la,Hs,f,q⟩:=h_2;exact q v H Hs (.refl f.st.sub) (r Hs)
theorem az {i:Int}{j:Nat}:JE c (.Constant (.int i) j pos) (fun _=>.ok (.int i)):=qO yr fun _=>.int i
theorem mq {i:Bool}{j:Nat}:JE c (.Constant (.bool i) j pos) (fun _=>.ok (.bool i)):=qO L_ fun _=>.bool i
theorem kr {j:Nat}:JE c (.Constant .none j pos) (fun _=>.ok .none):=qO Sk fun _=>.none
theorem iE {i:Str}{j:Nat}:JE c (.Constant (.str i) j pos) (fun _=>.ok (.str i)):=qO M0 fun _=>.str i
theorem qP {x:Str}{i:Int} (hg:Gl c.X x) (hm:∃ t,c.X.mg x=some (.int i t)) (hd:(x == ("__debug__" : Str))=false:=by decide):JE c (.Name x pos) (fun _=>.ok (.int i)):=by
 obtain ⟨t,hm⟩:=hm
 exact qO (C3 hg hm (v:=.int i) ⟨t,rfl⟩ hd) fun _=>.int i
inductive Xr (K:a7) (h:D->D->R D) (x:V) (y:V) (H:Hp) (Q:VK):Prop
 | mk (Hs dx dy:_) (h0:dE Hs H) (h1:RB K H Hs x dx) (h2:RB K H Hs y dy) (h3:∃ d,h dx dy=.ok d/\∀ v H' Hs',cJ H Hs H' Hs'->RD K Hs' v d->Q v H'):Xr K h x y H Q
def rD (K:a7) (h:D->D->R D):R2:=Xr K h
def xS (X:Cx) (f:a8->a8->Sem a8) (h:D->D->R D):Prop:=qi X f (rD X.K h)/\∀ x y c n,h x y≠.ex c n
def g2 (ga gb:av->R D) (h:D->D->R D):av->R D:=fun ρ=>(ga ρ).bind fun x=>(gb ρ).bind fun y=>h x y
theorem two {K:a7}{cls:Str->ag}{E:XK}{h:D->D->R D}{ρ:av}{σ:St}{H:Hp}{Q:VK} (hx:∀ x y c n,h x y≠.ex c n) (q:TR K cls E ρ (g2 ga gb h ρ) σ H Q):Ua (rD K h) (TB K cls E ρ (ga ρ)) (TB K cls E ρ (gb ρ)) σ H Q:=by
 obtain ⟨H0,Hs0,la,Hs,f,q⟩:=q
 refine one f q fun x v H1 Hs1 e1 s1 f1 r1=>?_
 unfold g2 at q
 rw [e1,bind_ok] at q
 refine one f1 (q.on s1 (q':=fun _=>True) fun _ _=>trivial) fun y u H2 Hs2 e2 s2 f2 r2=>?_
 rw [e2,bind_ok] at q
 cases hr:h x y with
 | ok d =>
  rw [hr] at q
  exact ⟨Hs2,x,y,f2.st.sub,r1.step s2,r2,d,hr,fun w H3 Hs3 s3 r3=>q w H3 Hs3 (s1.trans (s2.trans s3)) r3⟩
 | ex c n=>exact (hx x y c n hr).elim
 | no=>rw [hr] at q;exact q.elim
theorem bP {op:Operator}{h:D->D->R D} (ho:xS c.X (fU op) h) (ha:JB c a ga) (hb:JB c b gb):JE c (.BinOp a op b pos) (g2 ga gb h):=.of fun ρ=>qy (Ij ho.1 (ha ρ) (hb ρ)) fun σ H Q q=>two ho.2 q
theorem o7 {op:xH}{h:D->D->R D} (ho:xS c.X (bN op) h) (ha:JB c a ga) (hb:JB c b gb) (hm:hV op b=false:=by first | exact Go _ | rfl):JE c (.Compare a [op] [b] pos) (g2 ga gb h):=.of fun ρ=>qy (Pu ho.1 (ha ρ) (hb ρ) hm) fun σ H Q q=>two ho.2 q
def fR (g:av->R D):av->R Bool:=fun ρ=>(g ρ).bind fun d=>match d with
 | .bool b=>.ok b
 | _=>.no
theorem UD {K:a7}{cls:Str->ag}{E:XK}{ρ:av}{σ:St}{H:Hp}{Q:Bool->Hp->Prop} (q:LB K cls E ρ (fR g ρ) σ H Q):TR K cls E ρ (g ρ) σ H fun x H'=>∃ k,x=.bl k/\Q k H':=by
 obtain ⟨H0,Hs0,la,Hs,f,q⟩:=q
 refine Cu f q fun d v H1 Hs1 e1 s1 f1 r1=>?_
 unfold fR at q
 rw [e1,bind_ok] at q
 cases r1 with
 | bool b=>exact ⟨b,rfl,q H1 Hs1 s1⟩
 | _=>exact q.elim
theorem dg {op:xH}{h:D->D->R D} (ho:xS c.X (bN op) h) (ha:JB c a ga) (hb:JB c b gb) (hm:hV op b=false:=by first | exact Go _ | rfl):JT c (.Compare a [op] [b] pos) (fR (g2 ga gb h)):=.of fun ρ=>VW (Ik ho.1 (ha ρ) (hb ρ) hm) fun σ H Q q=>two ho.2 (UD q)
theorem fF (h:JE c e g) (he:∀ whole,BU e c.X.env whole=(do let v <- whole;FK e.pos;holding [v] (truthy v)):=by intro _;rfl):JT c e (fR g):=.of fun ρ=>VW (M2 (h ρ) he) fun σ H Q q=>UD q
def jk (g:av->R Bool):av->R Bool:=fun ρ=>(g ρ).bind fun b=>.ok (!b)
def Cv (g h:av->R Bool):av->R Bool:=fun ρ=>(g ρ).bind fun b=>if b then h ρ else .ok false
def FW (g h:av->R Bool):av->R Bool:=fun ρ=>(g ρ).bind fun b=>if b then .ok true else h ρ
variable {gt gu:av->R Bool}{bK:List b9}
theorem fG (h:JT c e gt):JT c (.UnaryOp .Not e pos) (jk gt):=.of fun ρ=>VW (M4 (h ρ)) fun σ H Q q=>by
 obtain ⟨H0,Hs0,la,Hs,f,q⟩:=q
 refine MT f q fun d H1 Hs1 e1 s1 f1=>?_
 unfold jk at q
 rw [e1,bind_ok] at q
 exact q H1 Hs1 s1
theorem xT (h:JT c a gt):JW c (.BoolOp .And [a] pos) gt:=.of fun ρ=>Po (h ρ)
theorem mr (h:JT c a gt):JW c (.BoolOp .Or [a] pos) gt:=.of fun ρ=>M3 (h ρ)
theorem Cy (h:JT c a gt) (h2:JW c (.BoolOp .And (b::bK) pos) gu):JW c (.BoolOp .And (a::b::bK) pos) (Cv gt gu):=.of fun ρ=>Xq (Sm (h ρ) (h2 ρ)) fun σ H Q q=>by
 obtain ⟨H0,Hs0,la,Hs,f,q⟩:=q
 refine MT f q fun d H1 Hs1 e1 s1 f1=>?_
 unfold Cv at q
 rw [e1,bind_ok] at q
 cases d with
 | true=>exact Gw ⟨H0,Hs0,la,Hs1,f1,q.on s1 fun b k H2 Hs2 s2=>k H2 Hs2 (s1.trans s2)⟩
 | false=>exact Cb (q H1 Hs1 s1)
theorem qQ (h:JT c a gt) (h2:JW c (.BoolOp .Or (b::bK) pos) gu):JW c (.BoolOp .Or (a::b::bK) pos) (FW gt gu):=.of fun ρ=>Xq (R7 (h ρ) (h2 ρ)) fun σ H Q q=>by
 obtain ⟨H0,Hs0,la,Hs,f,q⟩:=q
 refine MT f q fun d H1 Hs1 e1 s1 f1=>?_
 unfold FW at q
 rw [e1,bind_ok] at q
 cases d with
 | false=>exact Cb ⟨H0,Hs0,la,Hs1,f1,q.on s1 fun b k H2 Hs2 s2=>k H2 Hs2 (s1.trans s2)⟩
 | true=>exact Gw (q H1 Hs1 s1)
theorem JW.t (h:JW c e gt):JT c e gt:=.of fun ρ=>(h ρ).pt
def Bg (g:av->R D):av->R D:=fun ρ=>(fR g ρ).bind fun b=>.ok (.bool (!b))
theorem GI (h:JE c e g):JE c (.UnaryOp .Not e pos) (Bg g):=.of fun ρ=>qy (Sq (h ρ)) fun σ H Q q=>by
 refine UD ?_
 obtain ⟨H0,Hs0,la,Hs,f,q⟩:=q
 refine MT f q fun d H1 Hs1 e1 s1 f1=>?_
 unfold Bg at q
 rw [e1,bind_ok] at q
 exact q _ H1 Hs1 s1 (.bool _)
def qR (g h:av->R D):av->R D:=fun ρ=>(fR g ρ).bind fun b=>if b then h ρ else .ok (.bool false)
theorem tV {op:BoolOp} (h:JE c a g):JE c (.BoolOp op [a] pos) g:=.of fun ρ=>Sn (h ρ)
theorem qS (h:JE c a ga) (h2:JE c (.BoolOp .And (b::bK) pos) gb):JE c (.BoolOp .And (a::b::bK) pos) (qR ga gb):=.of fun ρ=>qy (So (h ρ) (h2 ρ)) fun σ H Q q=>by
 refine UD ?_
 obtain ⟨H0,Hs0,la,Hs,f,q⟩:=q
 refine MT f q fun d H1 Hs1 e1 s1 f1=>?_
 unfold qR at q
 rw [e1,bind_ok] at q
 cases d with
 | true=>exact Gw ⟨H0,Hs0,la,Hs1,f1,q.on s1 fun b k v H2 Hs2 s2 r2=>k v H2 Hs2 (s1.trans s2) r2⟩
 | false=>exact Cb (q _ H1 Hs1 s1 (.bool _))
def qT (ga gb gc:av->R D) (h h':D->D->R D):av->R D:=fun ρ=>(ga ρ).bind fun x=>(gb ρ).bind fun y=>(h x y).bind fun z=>match z with
 | .bool true=>(gc ρ).bind fun w=>h' y w
 | .bool false=>.ok (.bool false)
 | _=>.no
variable {es:List b9}{gs:av->R (List D)}
def aa (g:av->R D) (gs:av->R (List D)):av->R (List D):=fun ρ=>(g ρ).bind fun d=>(gs ρ).bind fun ds=>.ok (d::ds)
def aA:av->R (List D):=fun _=>.ok []
theorem ap:Bf c [] aA:=.of fun ρ=>VX eW fun σ H Q h_3=>by obtain ⟨H0,Hs0,la,Hs,f,q⟩:=h_3;exact q [] H Hs (.refl f.st.sub) .nil
theorem bR:Ru c [] aA:=.of fun ρ=>VX eW fun σ H Q h_4=>by obtain ⟨H0,Hs0,la,Hs,f,q⟩:=h_4;exact q [] H Hs (.refl f.st.sub) .nil
theorem a9 (h:JE c e g) (hr:Bf c es gs) (hs:aw (e::es) c.X.env=(false,da e c.X.env)::aw es c.X.env:=by rfl):Bf c (e::es) (aa g gs):=.of fun ρ=>VX (bZ (h ρ) (hr ρ) hs) fun σ H Q h_5=>by
 obtain ⟨H0,Hs0,la,Hs,f,q⟩:=h_5
 refine Cu f q fun d v H1 Hs1 e1 s1 f1 r1=>?_
 unfold aa at q
 rw [e1,bind_ok] at q
 refine yN f1 (q.on s1 (q':=fun _=>True) fun _ _=>trivial) fun ds vs H2 Hs2 e2 s2 f2 r2=>?_
 rw [e2,bind_ok] at q
 exact q _ H2 Hs2 (s1.trans s2) (.cons (r1.same s2.sh) r2)
theorem bv (h:JB c e g) (hr:Ru c es gs) (hs:aw (e::es) c.X.env=(false,da e c.X.env)::aw es c.X.env:=by rfl):Ru c (e::es) (aa g gs):=.of fun ρ=>VX (bZ (h ρ) (hr ρ) hs) fun σ H Q h_6=>by
 obtain ⟨H0,Hs0,la,Hs,f,q⟩:=h_6
 refine one f q fun d v H1 Hs1 e1 s1 f1 r1=>?_
 unfold aa at q
 rw [e1,bind_ok] at q
 refine MU f1 (q.on s1 (q':=fun _=>True) fun _ _=>trivial) fun ds vs H2 Hs2 e2 s2 f2 r2=>?_
 rw [e2,bind_ok] at q
 exact q _ H2 Hs2 (s1.trans s2) (.cons (r1.step s2) r2)
def cc (gs:av->R (List D)) (k:List D->D):av->R D:=fun ρ=>(gs ρ).bind fun ds=>if ds.length<=1000 then .ok (k ds) else .no
theorem cH {x1} (h:Bf c es gs):JE c (.Tuple es x1 pos) (cc gs .tuple):=.of fun ρ=>qy (Mh (h ρ)) fun σ H Q h_7=>by
 obtain ⟨H0,Hs0,la,Hs,f,q⟩:=h_7
 refine yN f q fun ds vs H1 Hs1 e1 s1 f1 r1=>?_
 unfold cc at q
 rw [e1,bind_ok] at q
 by_cases hl:ds.length<=1000
 ·rw [if_pos hl] at q
  refine ⟨bq (bY (by rw [r1.length];exact hl)),fun p hp=>q _ _ _ (s1.trans (.new f1.st.sub hp)) (.tuple aV (r1.same (cJ.new f1.st.sub hp).sh))⟩
 ·rw [if_neg hl] at q;exact q.elim
theorem fH (h:Bf c es gs):JE c (.List es pos) (cc gs .list):=.of fun ρ=>qy (mj (h ρ)) fun σ H Q h_8=>by
 obtain ⟨H0,Hs0,la,Hs,f,q⟩:=h_8
 refine yN f q fun ds vs H1 Hs1 e1 s1 f1 r1=>?_
 unfold cc at q
 rw [e1,bind_ok] at q
 by_cases hl:ds.length<=1000
 ·rw [if_pos hl] at q
  refine ⟨bq (bY (by rw [r1.length];exact hl)),fun p hp=>q _ _ _ (s1.trans (.new f1.st.sub hp)) (.list (.of aV) (r1.same (cJ.new f1.st.sub hp).sh))⟩
 ·rw [if_neg hl] at q;exact q.elim
end
end
end J
namespace J
open PySem PySem.Spec PyProof.Rows L2
section
section
variable {X:Cx}
def dI:D->D->R D
 | .int i,.int j=>.ok (.int (i + j))
 | .str x,.str y=>if x.length + y.length<=1000 then .ok (.str (x++y)) else .no
 | .tuple xs,.tuple ys=>if xs.length + ys.length<=1000 then .ok (.tuple (xs++ys)) else .no
 | .list xs,.list ys=>if xs.length + ys.length<=1000 then .ok (.list (xs++ys)) else .no
 | _,_=>.no
inductive MV (K:a7) (x:V) (y:V) (H:Hp) (Q:VK):Prop
 | mk (l b xs zs:_) (h0:x=.ref l) (h1:y=.ref b) (h2:mZ K H l xs) (h3:mZ K H b zs) (h4:xs.length + zs.length<=sizeLine) (h5:∀ p,H p=none->Q (.ref p) (upd H p (.lst (xs++zs)))):MV K x y H Q
def UE (K:a7):R2:=MV K
theorem Q4:qi X (fU .Add) (UE X.K):=by
 intro pins s σ H x y v u Q I rx ry h
 obtain ⟨l,b,xs,zs,rfl,rfl,h1,h2,hz,q⟩:=h
 cases rx;cases ry
 obtain ⟨its,r,⟨o,n,e,c1,c2,c3⟩,z⟩:=I.list h1
 obtain ⟨its2,r2,⟨o2,n2,e2,d1,d2,d3⟩,z2⟩:=I.list h2
 obtain ⟨k1,k2,k3,k4⟩:=o
 obtain ⟨m1,m2,m3,m4⟩:=o2
 simp only at c1 c2 c3 d1 d2 d3
 subst c1 c2 c3 d1 d2 d3
 refine Ac ⟨_,e,rfl⟩ ⟨_,e2,rfl⟩ noFill_list_add seq_list_add PySem.F.slot_list_add PySem.F.entry_list_add (PySem.F.args_list_add_2 _ _) (PyProof.Rows.list_addW l b _ _ n n2 _ _ k4 m4 (by rw [aH,aH,<- r.length,<- r2.length];exact hz)) ⟨e,e2,?_⟩
 have ea:its.toArray++its2.toArray=(its++its2).toArray:=by simp
 rw [ea]
 exact ⟨.ref _,_,I.lnew (t':=s.toks) (r.append r2) (by rw [aL];omega),rfl,q _ I.fresh⟩
inductive MW (K:a7) (x:V) (y:V) (H:Hp) (Q:VK):Prop
 | mk (a b ys:_) (h0:x=.ref a) (h1:y=.ref b) (h2:lm K H a []) (h3:lm K H b ys) (h4:Q (.ref b) H):MW K x y H Q
def UF (K:a7):R2:=MW K
theorem Q5:qi X (fU .Add) (UF X.K):=by
 intro pins s σ H x y v u Q I rx ry h
 obtain ⟨a,b,ys,rfl,rfl,h1,h2,q⟩:=h
 cases rx;cases ry
 obtain ⟨its,r,⟨⟨k1,k2,k3,k4⟩,e,c1,n,c3⟩,z⟩:=I.tuple h1
 obtain ⟨its2,r2,⟨⟨m1,m2,m3,m4⟩,e2,d1,n2,d3⟩,z2⟩:=I.tuple h2
 simp only at c1 c3 d1 d3
 subst c1 c3 d1 d3
 cases r
 exact Ac ⟨_,e,rfl⟩ ⟨_,e2,rfl⟩ BX JC ph oE (nU _ _)
  (PyProof.Rows.tuple_addW0 a b _ _ n n2 _ _ k4 m4 rfl) ⟨e,e2,⟨.ref b,H,I,rfl,q⟩⟩
theorem cz:xS X (fU .Add) dI:=by
 refine ⟨fun pins s σ H x y v u Q I rv ru ⟨Hs,dx,dy,sub,rx,ry,d,hd,q⟩=>?_,fun x y c n=>?_⟩
 ·unfold dI at hd
  split at hd
  ·cases hd
   exact Sz pins s σ H x y v u Q I rv ru ⟨_,_,rx.int,ry.int,q _ H Hs (.refl sub) (.int _)⟩
  ·split at hd
   ·rename_i hz
    cases hd
    exact Gq pins s σ H x y v u Q I rv ru ⟨_,_,rx.str,ry.str,bq (bY hz),q _ H Hs (.refl sub) (.str _)⟩
   ·cases hd
  ·split at hd
   ·rename_i xs ys hz
    cases hd
    obtain ⟨a,vs,rfl,qa,ra,_⟩:=rx.tuple sub
    obtain ⟨b,ws,rfl,qb,rb,_⟩:=ry.tuple sub
    have hz':vs.length + ws.length<=sizeLine:=by rw [ra.length,rb.length];exact bq (bY hz)
    have big:∀ p,H p=none->Q (.ref p) (upd H p (.tup (vs++ws))):=fun p hp=>q _ _ _ (.new sub hp) (.tuple aV ((ra.append rb).same (cJ.new sub hp).sh))
    cases vs with
    | nil =>
     cases ra
     refine Q5 pins s σ H _ _ v u Q I rv ru ⟨a,b,ws,rfl,rfl,qa,qb,?_⟩
     rcases ry with ry | ⟨_,_,_,_,_,ow⟩
     ·exact q _ H Hs (.refl sub) (by simpa using ry)
     ·cases ow
    | cons v0 vr =>
     refine PD pins s σ H _ _ v u Q I rv ru ⟨a,b,_,ws,rfl,rfl,qa,qb,by simp,hz',fun e=>?_,fun _=>big⟩
     subst e
     cases rb
     rcases rx with rx | ⟨_,_,_,_,_,ow⟩
     ·exact q _ H Hs (.refl sub) (by simpa using rx)
     ·cases ow
   ·cases hd
  ·split at hd
   ·rename_i xs ys hz
    cases hd
    obtain ⟨a,vs,rfl,qa,ra⟩:=rx.list sub
    obtain ⟨b,ws,rfl,qb,rb⟩:=ry.list sub
    have hz':vs.length + ws.length<=sizeLine:=by rw [ra.length,rb.length];exact bq (bY hz)
    exact Q4 pins s σ H _ _ v u Q I rv ru ⟨a,b,vs,ws,rfl,rfl,qa,qb,hz',fun p hp=>q _ _ _ (.new sub hp) (.list (.of aV) ((ra.append rb).same (cJ.new sub hp).sh))⟩
   ·cases hd
  ·cases hd
 ·unfold dI
  split<;>(try split)<;>exact fun h=>by cases h
def GJ (C:Int->Int->Bool) (k:Int->Int->D):D->D->R D
 | .int i,.int j=>if C i j then .ok (k i j) else .no
 | _,_=>.no
theorem GK {f:a8->a8->Sem a8}{C:Int->Int->Bool}{P:Int->Int->Prop}{k:Int->Int->D}{kv:Int->Int->V} (h:qi X f (rI P kv)) (hC:∀ i j,C i j=true->P i j) (hk:∀ Hs i j,RD X.K Hs (kv i j) (k i j)):xS X f (GJ C k):=by
 refine ⟨fun pins s σ H x y v u Q I rv ru ⟨Hs,dx,dy,sub,rx,ry,d,hd,q⟩=>?_,fun x y c n=>?_⟩
 ·unfold GJ at hd
  split at hd
  ·split at hd
   ·rename_i hc
    cases hd
    exact h pins s σ H x y v u Q I rv ru ⟨_,_,rx.int,ry.int,hC _ _ hc,q _ H Hs (.refl sub) (hk _ _ _)⟩
   ·cases hd
  ·cases hd
 ·unfold GJ
  split<;>(try split)<;>exact fun h=>by cases h
def Bh (i j:Int):Bool:=(decide (-(2 ^ 64)<i) && decide (i<2 ^ 64)) || (decide (-(2 ^ 64)<j) && decide (j<2 ^ 64))
def uZ:=GJ Bh fun i j=>.int (i * j)
def Kl:=GJ (fun _ j=>decide (0<j)) fun i j=>.int (i % j)
def MX:=GJ (fun _ j=>decide (0<j) && decide (j<1073741824)) fun i j=>.int (i / j)
theorem pq:xS X (fU .Mult) uZ:=GK SA (fun i j h=>by
 unfold Bh at h
 simp only [jB,aP,decide_eq_true_eq] at h
 exact h) fun _ _ _=>.int _
theorem Cz:xS X (fU .Mod) Kl:=GK SB (fun i j h=>of_decide_eq_true h) fun _ _ _=>.int _
theorem Q6:xS X (fU .FloorDiv) MX:=GK Pp (fun i j h=>by
 simp only [aP,decide_eq_true_eq] at h
 exact h) fun _ _ _=>.int _
def kP (neg:Bool) (x y:D):R D:=if x.canLay0 && y.canLay0 && decide (min x.depth y.depth<=60) then .ok (.bool (if neg then !bG x y else bG x y)) else .no
mutual
theorem CA:∀ d:D,d.canLay0=true->kO d=true
 | .none,_=>rfl
 | .bool _,_=>rfl
 | .int _,_=>rfl
 | .str _,_=>rfl
 | .list xs,h=>by
  simp only [fQ] at h
  simp only [kO]
  exact lays_noD xs h
 | .tuple xs,h=>by
  simp only [fQ] at h
  simp only [kO]
  exact lays_noD xs h
 | .dict _,h=>by simp [fQ] at h
theorem lays_noD:∀ d:List D,bV d=true->noDs d=true
 | [],_=>rfl
 | x::r,h=>by
  simp only [bV,aP] at h
  simp only [noDs,aP]
  exact ⟨CA x h.1,lays_noD r h.2⟩
end
theorem MY {neg:Bool}{f:a8->a8->Sem a8} (h:qi X f (SX X.K neg)):xS X f (kP neg):=by
 refine ⟨fun pins s σ H x y v u Q I rv ru ⟨Hs,dx,dy,sub,rx,ry,d,hd,q⟩=>?_,fun x y c n=>?_⟩
 ·unfold kP at hd
  split at hd
  ·rename_i hc
   simp only [aP,decide_eq_true_eq] at hc
   cases hd
   exact h pins s σ H x y v u Q I rv ru ⟨dx,dy,(rx.full sub).rep (CA _ hc.1.1),(ry.full sub).rep (CA _ hc.1.2),hc.1.1,hc.1.2,hc.2,q _ H Hs (.refl sub) (.bool _)⟩
  ·cases hd
 ·unfold kP
  split<;>exact fun h=>by cases h
theorem s_ (hu:X.A.units + 64<sD):xS X (bN .Eq) (kP false):=MY (SY hu)
theorem qU (hu:X.A.units + 64<sD):xS X (bN .NotEq) (kP true):=MY (SZ hu)
def Km (k:Int->Int->Bool) (t:Str->Str->Bool):D->D->R D
 | .int i,.int j=>.ok (.bool (k i j))
 | .str x,.str y=>.ok (.bool (t x y))
 | _,_=>.no
theorem MZ {f:a8->a8->Sem a8}{k:Int->Int->Bool}{t:Str->Str->Bool} (h1:qi X f (Sv fun i j=>.bl (k i j))) (h2:qi X f (fun x y H Q=>∃ i j,x=.str i/\y=.str j/\Q (.bl (t i j)) H)):xS X f (Km k t):=by
 refine ⟨fun pins s σ H x y v u Q I rv ru ⟨Hs,dx,dy,sub,rx,ry,d,hd,q⟩=>?_,fun x y c n=>?_⟩
 ·unfold Km at hd
  split at hd
  ·cases hd
   exact h1 pins s σ H x y v u Q I rv ru ⟨_,_,rx.int,ry.int,q _ H Hs (.refl sub) (.bool _)⟩
  ·cases hd
   exact h2 pins s σ H x y v u Q I rv ru ⟨_,_,rx.str,ry.str,q _ H Hs (.refl sub) (.bool _)⟩
  ·cases hd
 ·unfold Km
  split<;>exact fun h=>by cases h
def GL:=Km (fun i j=>decide (i<j)) lL
def Rv:=Km (fun i j=>decide (i<=j)) fun x y=>!lL y x
def Q7:D->D->R D
 | .int i,.int j=>.ok (.bool (decide (j<i)))
 | _,_=>.no
theorem Bj:xS X (bN .Lt) GL:=MZ Ud K2
theorem Bk:xS X (bN .LtE) Rv:=MZ Ue Ke
theorem Ec:xS X (bN .Gt) Q7:=by
 refine ⟨fun pins s σ H x y v u Q I rv ru ⟨Hs,dx,dy,sub,rx,ry,d,hd,q⟩=>?_,fun x y c n=>?_⟩
 ·unfold Q7 at hd
  split at hd
  ·cases hd
   exact Uf pins s σ H x y v u Q I rv ru ⟨_,_,rx.int,ry.int,q _ H Hs (.refl sub) (.bool _)⟩
  ·cases hd
 ·unfold Q7
  split<;>exact fun h=>by cases h
def GM:D->Bool
 | .none=>true
 | _=>false
def Bl (neg:Bool):D->D->R D
 | x,.none=>.ok (.bool (if neg then !GM x else GM x))
 | _,_=>.no
theorem ID {K:a7}{H Hs:Hp}{v:V}{d:D} (h:RB K H Hs v d):decide (v=.non)=GM d:=by
 rcases h with h | ⟨a,o,rfl,_,_,h⟩
 ·cases h<;>rfl
 ·cases h<;>rfl
theorem UG:xS X (bN .Is) (Bl false):=by
 refine ⟨fun pins s σ H x y v u Q I rv ru ⟨Hs,dx,dy,sub,rx,ry,d,hd,q⟩=>?_,fun x y c n=>?_⟩
 ·unfold Bl at hd
  split at hd
  ·cases hd
   exact SD pins s σ H x y v u Q I rv ru ⟨ry.non,by rw [ID rx];exact q _ H Hs (.refl sub) (.bool _)⟩
  ·cases hd
 ·unfold Bl
  split<;>exact fun h=>by cases h
theorem Ed:xS X (bN .IsNot) (Bl true):=by
 refine ⟨fun pins s σ H x y v u Q I rv ru ⟨Hs,dx,dy,sub,rx,ry,d,hd,q⟩=>?_,fun x y c n=>?_⟩
 ·unfold Bl at hd
  split at hd
  ·cases hd
   exact Pt pins s σ H x y v u Q I rv ru ⟨ry.non,by rw [ID rx];exact q _ H Hs (.refl sub) (.bool _)⟩
  ·cases hd
 ·unfold Bl
  split<;>exact fun h=>by cases h
def lJ:D->Bool
 | .none=>true
 | .bool _=>true
 | .int _=>true
 | .str _=>true
 | _=>false
def Ee (neg:Bool):D->D->R D
 | x,.list ys=>if lJ x && ys.all lJ then .ok (.bool (if neg then !(ys.any fun y=>bG y x) else ys.any fun y=>bG y x)) else .no
 | x,.tuple ys=>if lJ x && ys.all lJ then .ok (.bool (if neg then !(ys.any fun y=>bG y x) else ys.any fun y=>bG y x)) else .no
 | _,_=>.no
theorem IE {K:a7}{H:Hp}{v:V}{d:D} (h:RD K H v d) (f:lJ d=true):qJ v=true:=by
 cases h<;>first | rfl | cases f
theorem Ef {K:a7}{H Hs:Hp}{v:V}{d:D} (h:RB K H Hs v d) (f:lJ d=true):qJ v=true:=by
 rcases h with h | ⟨a,o,rfl,_,_,h⟩
 ·exact IE h f
 ·cases h<;>cases f
theorem Eg {K:a7}{H:Hp}{vs:List V}:∀ {ds:List D},RDs K H vs ds->ds.all lJ=true->vs.all qJ=true:=by
 induction vs with
 | nil=>intro ds _ _;rfl
 | cons x r ih =>
  intro ds h f
  cases h with
  | cons h t =>
   rw [uF,aP] at f ⊢
   exact ⟨IE h f.1,ih t f.2⟩
theorem T3 {K:a7}{H H2 Hs:Hp}{v u:V}{d e:D} (h:RD K H v d) (h2:RB K H2 Hs u e) (f:lJ d=true) (f2:lJ e=true):PH v u=bG d e:=by
 have h2':RD K Hs u e:=by
  rcases h2 with h2 | ⟨a,o,rfl,_,_,h2⟩
  ·exact h2
  ·cases h2<;>cases f2
 cases h with
 | list _ _=>cases f
 | tuple _ _=>cases f
 | dictK _ _=>cases f
 | dictT _ _ _=>cases f
 | dictF _ _ _=>cases f
 | none=>cases h2'<;>first | rfl | cases f2
 | bool b=>cases h2'<;>first | rfl | cases f2
 | int i=>cases h2'<;>first | rfl | cases f2
 | str x=>cases h2'<;>first | rfl | cases f2
theorem GN {K:a7}{H H2 Hs:Hp}{u:V}{e:D} (h2:RB K H2 Hs u e) (f2:lJ e=true):∀ {vs:List V}{ds:List D},RDs K H vs ds->ds.all lJ=true->VP u vs=ds.any fun y=>bG y e
 | _,_,.nil,_=>rfl
 | _,_,.cons h t,f=>by
  rw [uF,aP] at f
  have:=GN h2 f2 t f.2
  unfold VP at this ⊢
  rw [fB,fB,this,T3 h h2 f.1 f2]
theorem M_ {neg:Bool}{f:a8->a8->Sem a8} (h:qi X f (WB X.K neg)):xS X f (Ee neg):=by
 refine ⟨fun pins s σ H x y v u Q I rv ru ⟨Hs,dx,dy,sub,rx,ry,d,hd,q⟩=>?_,fun x y c n=>?_⟩
 ·unfold Ee at hd
  split at hd
  ·split at hd
   ·rename_i hc
    simp only [aP] at hc
    cases hd
    obtain ⟨b,ws,rfl,qb,rb⟩:=ry.list sub
    refine h pins s σ H _ _ v u Q I rv ru ⟨b,ws,rfl,.inl qb,Ef rx hc.1,Eg rb hc.2,?_⟩
    rw [GN rx hc.1 rb hc.2]
    exact q _ H Hs (.refl sub) (.bool _)
   ·cases hd
  ·split at hd
   ·rename_i hc
    simp only [aP] at hc
    cases hd
    obtain ⟨b,ws,rfl,qb,rb,_⟩:=ry.tuple sub
    refine h pins s σ H _ _ v u Q I rv ru ⟨b,ws,rfl,.inr qb,Ef rx hc.1,Eg rb hc.2,?_⟩
    rw [GN rx hc.1 rb hc.2]
    exact q _ H Hs (.refl sub) (.bool _)
   ·cases hd
  ·cases hd
 ·unfold Ee
  split<;>(try split)<;>exact fun h=>by cases h
theorem Eh:xS X (bN .In) (Ee false):=M_ K4
theorem yO:xS X (bN .NotIn) (Ee true):=M_ C9
end
end
end J
namespace J
open PySem L2
section
section
variable {c:C}{e a b:b9}{g ga gb:av->R D}{pos:Pos}
def CB:D->D->R D
 | .list xs,.int i=>match DP xs i with
  | some d=>.ok d
  | none=>.no
 | .tuple xs,.int i=>match DP xs i with
  | some d=>.ok d
  | none=>.no
 | .str x,.int i=>if x.length<=1000 then (match DP x.cps.toList i with
  | some k=>.ok (.str ⟨#[k]⟩)
  | none=>.no) else .no
 | _,_=>.no
theorem IG {K:a7}{H:Hp}{vs:List V}{ds:List D} (h:RDs K H vs ds) {i:Int}{d:D} (e:DP ds i=some d):∃ v,DP vs i=some v/\RD K H v d:=by
 unfold DP at e ⊢
 rw [h.length]
 cases hx:Rf ds.length i with
 | none=>rw [hx] at e;cases e
 | some j =>
  rw [hx] at e
  exact h.get' e
theorem WP {X:Cx}:Uj X (rD X.K CB):=by
 intro va sl pins s σ H x y v u Q I rv ru h
 obtain ⟨Hs,dx,dy,sub,rx,ry,d,hd,q⟩:=h
 unfold CB at hd
 split at hd
 ·split at hd
  ·rename_i d' he
   cases hd
   obtain ⟨p,vs,rfl,qa,ra⟩:=rx.list sub
   obtain ⟨w,hw,rw'⟩:=IG ra he
   exact rR va sl pins s σ H _ _ v u Q I rv ru ⟨p,vs,_,w,rfl,ry.int,qa,hw,q _ H Hs (.refl sub) rw'⟩
  ·cases hd
 ·split at hd
  ·rename_i d' he
   cases hd
   obtain ⟨p,vs,rfl,qa,ra,_⟩:=rx.tuple sub
   obtain ⟨w,hw,rw'⟩:=IG ra he
   exact SJ va sl pins s σ H _ _ v u Q I rv ru ⟨p,vs,_,w,rfl,ry.int,qa,hw,q _ H Hs (.refl sub) rw'⟩
  ·cases hd
 ·split at hd
  ·rename_i hz
   split at hd
   ·rename_i k he
    cases hd
    exact SK va sl pins s σ H _ _ v u Q I rv ru ⟨_,_,k,rx.str,ry.int,bq (bY hz),he,q _ H Hs (.refl sub) (.str _)⟩
   ·cases hd
  ·cases hd
 ·cases hd
theorem T4 (x y:D) (c:Str) (n:Option D):CB x y≠.ex c n:=by
 unfold CB
 split<;>(try split)<;>(try split)<;>exact fun h=>by cases h
theorem UH (ha:JB c a ga) (hb:JB c b gb) (hs:xQ b:=by exact fun _ _=>rfl):JE c (.Subscript a b pos) (g2 ga gb CB):=.of fun ρ=>qy (Rg WP (ha ρ) (hb ρ) hs) fun σ H Q q=>two T4 q
def qV (ds:List D) (lo hi:Option Int):List D:=(ds.drop (HT.iZ ds.length 0 lo)).take (HT.iZ ds.length ds.length hi - HT.iZ ds.length 0 lo)
theorem CC {K:a7}{H:Hp}{vs:List V}{ds:List D} (h:RDs K H vs ds) (lo hi:Option Int):RDs K H (xq vs lo hi) (qV ds lo hi):=by
 unfold xq qV
 rw [h.length]
 exact (h.drop _).take _
def Au:D->Option Int->Option Int->R D
 | .list xs,lo,hi=>.ok (.list (qV xs lo hi))
 | .tuple xs,lo,hi=>.ok (.tuple (qV xs lo hi))
 | _,_,_=>.no
inductive Rw (K:a7) (x:V) (lo:Option Int) (hi:Option Int) (H:Hp) (Q:VK):Prop
 | mk (Hs dx:_) (h0:dE Hs H) (h1:RB K H Hs x dx) (h2:∃ d,Au dx lo hi=.ok d/\∀ v H' Hs',cJ H Hs H' Hs'->RD K Hs' v d->Q v H'):Rw K x lo hi H Q
def WQ (K:a7):V->Option Int->Option Int->Hp->VK->Prop:=Rw K
theorem WR {X:Cx}:Uh X (WQ X.K):=by
 intro pins s σ H x v vl vu lo hi sl Q I rx hs pl pu h
 obtain ⟨Hs,dx,sub,rb,d,hd,q⟩:=h
 unfold Au at hd
 split at hd
 ·cases hd
  obtain ⟨p,vs,rfl,qa,ra⟩:=rb.list sub
  exact Ir pins s σ H _ v vl vu lo hi sl Q I rx hs pl pu ⟨p,vs,rfl,qa,fun l hl=>q _ _ _ (.new sub hl) (.list (.of aV) ((CC ra lo hi).same (cJ.new sub hl).sh))⟩
 ·cases hd
  obtain ⟨p,vs,rfl,qa,ra,_⟩:=rb.tuple sub
  by_cases hw:HT.iZ vs.length 0 lo=0/\HT.iZ vs.length vs.length hi=vs.length
  ·refine Q1 pins s σ H _ v vl vu lo hi sl Q I rx hs pl pu ⟨p,vs,rfl,qa,hw,?_⟩
   rcases rb with rb | ⟨_,_,_,_,_,ow⟩
   ·refine q _ H Hs (.refl sub) ?_
    unfold qV
    rw [<- ra.length,hw.1,hw.2,ra.length]
    simpa using rb
   ·cases ow
  ·exact SH pins s σ H _ v vl vu lo hi sl Q I rx hs pl pu ⟨p,vs,rfl,qa,hw,fun l hl=>q _ _ _ (.new sub hl) (.tuple aV ((CC ra lo hi).same (cJ.new sub hl).sh))⟩
 ·cases hd
inductive UI (K:a7) (cls:Str->ag) (E:XK) (ρ:av) (r:R (Option Int)) (σ:St) (H:Hp) (Q:Option Int->Hp->Prop):Prop
 | mk (H0 Hs0:Hp) (la:Nat->Option ag) (Hs:Hp) (f:Fr K H0 Hs0 la ρ σ H Hs) (q:Fin K cls E H Hs r fun d=>∀ H' Hs',cJ H Hs H' Hs'->Q d H'):UI K cls E ρ r σ H Q
def WS (K:a7) (cls:Str->ag) (E:XK) (ρ:av) (r:R (Option Int)):TO:=UI K cls E ρ r
structure JO (c:C) (e:Option b9) (g:av->R (Option Int)):Prop where of ::
 run:∀ ρ,PO c.X e (WS c.X.K c.cls c.E ρ (g ρ))
instance {c:C}{e:Option b9}{g:av->R (Option Int)}:CoeFun (JO c e g) (fun _=>∀ ρ,PO c.X e (WS c.X.K c.cls c.E ρ (g ρ))):=⟨JO.run⟩
theorem Xs {X:Cx}{e:Option b9}{t t':TO} (h:PO X e t) (m:∀ σ H Q,t' σ H Q->t σ H Q):PO X e t':=fun pins s σ H Q I q=>h pins s σ H Q I (m σ H Q q)
def N0:av->R (Option Int):=fun _=>.ok none
def IH (g:av->R D):av->R (Option Int):=fun ρ=>(g ρ).bind fun d=>match d with
 | .int i=>.ok (some i)
 | _=>.no
theorem lO:JO c none N0:=.of fun ρ=>Xs Pz fun σ H Q h_0=>by obtain ⟨H0,Hs0,la,Hs,f,q⟩:=h_0;exact q H Hs (.refl f.st.sub)
theorem jP (h:JE c e g):JO c (some e) (IH g):=.of fun ρ=>Xs (PB (h ρ)) fun σ H Q h_1=>by
 obtain ⟨H0,Hs0,la,Hs,f,q⟩:=h_1
 refine Cu f q fun d v H1 Hs1 e1 s1 f1 r1=>?_
 unfold IH at q
 rw [e1,bind_ok] at q
 cases r1 with
 | int i=>exact ⟨i,rfl,q H1 Hs1 s1⟩
 | _=>exact q.elim
theorem Q8 {K:a7}{cls:Str->ag}{E:XK}{ρ:av}{r:R (Option Int)}{β:Type}{k:Option Int->R β}{σ:St}{H:Hp}{H0 Hs0 Hs:Hp}{la:Nat->Option ag}{Q:Option Int->Hp->Prop}{q:β->Prop} (f:Fr K H0 Hs0 la ρ σ H Hs)
  (h:Fin K cls E H Hs (r.bind k) q) (m:∀ d H' Hs',r=.ok d->cJ H Hs H' Hs'->Fr K H0 Hs0 la ρ σ H' Hs'->Q d H'):WS K cls E ρ r σ H Q:=by
 refine ⟨H0,Hs0,la,Hs,f,?_⟩
 cases r with
 | ok d=>exact fun H' Hs' s=>m d H' Hs' rfl s (f.step s)
 | ex c n=>exact h
 | no=>exact h
def LC (g:av->R D) (gl gh:av->R (Option Int)):av->R D:=fun ρ=>(g ρ).bind fun x=>(gl ρ).bind fun l=>(gh ρ).bind fun h=>Au x l h
theorem jQ {lo hi:Option b9}{gl gh:av->R (Option Int)}{p2:Pos} (he:JB c e g) (hl:JO c lo gl) (hh:JO c hi gh):JE c (.Subscript e (.Slice lo hi none p2) pos) (LC g gl gh):=.of fun ρ=>qy (DO WR (he ρ) (hl ρ) (hh ρ)) fun σ H Q h_2=>by
 obtain ⟨H0,Hs0,la,Hs,f,q⟩:=h_2
 refine one f q fun d v H1 Hs1 e1 s1 f1 r1=>?_
 unfold LC at q
 rw [e1,bind_ok] at q
 refine Q8 f1 (q.on s1 (q':=fun _=>True) fun _ _=>trivial) fun l H2 Hs2 e2 s2 f2=>?_
 rw [e2,bind_ok] at q
 refine Q8 f2 (q.on (s1.trans s2) (q':=fun _=>True) fun _ _=>trivial) fun h H3 Hs3 e3 s3 f3=>?_
 rw [e3,bind_ok] at q
 cases hr:Au d l h with
 | ok z=>rw [hr] at q;exact ⟨Hs3,d,f3.st.sub,(r1.step s2).step s3,z,hr,fun w H4 Hs4 s4 r4=>q w H4 Hs4 (s1.trans (s2.trans (s3.trans s4))) r4⟩
 | ex c n=>unfold Au at hr;split at hr<;>cases hr
 | no=>rw [hr] at q;exact q.elim
inductive Xt (K:a7) (h:List D->R D) (xs:List V) (H:Hp) (Q:VK):Prop
 | mk (Hs ds:_) (h0:dE Hs H) (h1:Rt K H Hs xs ds) (h2:∃ d,h ds=.ok d/\∀ v H' Hs',cJ H Hs H' Hs'->RD K Hs' v d->Q v H'):Xt K h xs H Q
def rC (K:a7) (h:List D->R D):List V->Hp->VK->Prop:=Xt K h
def N1 (X:Cx) (f:a8) (h:List D->R D):Prop:=jL X f (rC X.K h)/\∀ x c n,h x≠.ex c n
def c6 (gs:av->R (List D)) (h:List D->R D):av->R D:=fun ρ=>(gs ρ).bind h
theorem Rx {K:a7}{cls:Str->ag}{E:XK}{h:List D->R D}{gs:av->R (List D)}{ρ:av}{σ:St}{H:Hp}{Q:VK} (hx:∀ x c n,h x≠.ex c n) (q:TR K cls E ρ (c6 gs h ρ) σ H Q):TX (rC K h) (VV K cls E ρ (gs ρ)) σ H Q:=by
 obtain ⟨H0,Hs0,la,Hs,f,q⟩:=q
 refine MU f q fun ds vs H1 Hs1 e1 s1 f1 r1=>?_
 unfold c6 at q
 rw [e1,bind_ok] at q
 cases hr:h ds with
 | ok d =>
  rw [hr] at q
  exact ⟨Hs1,ds,f1.st.sub,r1,d,hr,fun w H3 Hs3 s3 r3=>q w H3 Hs3 (s1.trans s3) r3⟩
 | ex c n=>exact (hx ds c n hr).elim
 | no=>rw [hr] at q;exact q.elim
variable {es:List b9}{gs:av->R (List D)}{x:Str}{p:Pos}{id T:String}{h:List D->R D}
theorem bT (hc:N1 c.X (.builtin id) h) (hg:Gl c.X x) (hm:c.X.mg x=none) (hv:iz x=some (.builtin id)) (ha:Ru c (e::es) gs) (hn:x≠"__name__":=by decide) (hdb:(x == ("__debug__" : Str))=false:=by decide)
  (he:aw (e::es) c.X.env=(false,da e c.X.env)::aw es c.X.env:=by rfl) (hpl:(eV pos (aw es c.X.env)).any (·.1)=false:=by rfl):JE c (.Call (.Name x p) (e::es) [] pos) (c6 gs h):=.of fun ρ=>qy (oJ hc.1 hg hm hv (ha ρ) hn hdb he hpl) fun σ H Q q=>Rx hc.2 q
theorem eJ (hc:N1 c.X (.type T) h) (hg:Gl c.X x) (hm:c.X.mg x=none) (hv:iz x=some (.type T)) (ha:Ru c (e::es) gs) (hn:x≠"__name__":=by decide) (hdb:(x == ("__debug__" : Str))=false:=by decide)
  (he:aw (e::es) c.X.env=(false,da e c.X.env)::aw es c.X.env:=by rfl) (hpl:(eV pos (aw es c.X.env)).any (·.1)=false:=by rfl):JE c (.Call (.Name x p) (e::es) [] pos) (c6 gs h):=.of fun ρ=>qy (vY hc.1 hg hm hv (ha ρ) hn hdb he hpl) fun σ H Q q=>Rx hc.2 q
end
end
section
section
variable {X:Cx}
theorem Rt.one {K:a7}{H Hs:Hp}{xs:List V}{d:D} (h:Rt K H Hs xs [d]):∃ x,xs=[x]/\RB K H Hs x d:=by
 cases h with | cons a t=>cases t;exact ⟨_,rfl,a⟩
def iK (h:D->R D):List D->R D
 | [d]=>h d
 | _=>.no
theorem w9 {f:a8}{h:D->R D} (hx:∀ d c n,h d≠.ex c n)
  (hr:∀ pins s σ H x u Q Hs d d',bF X pins σ H s->dw x u->dE Hs H->RB X.K H Hs x d->h d=.ok d'->(∀ v H' Hs',cJ H Hs H' Hs'->RD X.K Hs' v d'->Q v H')->ak (aE X.prog X.w) X.A (call f [u]) (EP X pins σ Q) X.xe s):N1 X f (iK h):=by
 refine ⟨fun pins s σ H xs us Q I r ⟨Hs,ds,sub,rb,d,hd,q⟩=>?_,fun x c n=>?_⟩
 ·unfold iK at hd
  split at hd
  ·obtain ⟨x,rfl,rx⟩:=rb.one
   obtain ⟨u,rfl,ru⟩:=lI r
   exact hr pins s σ H x u Q Hs _ _ I ru sub rx hd q
  ·cases hd
 ·unfold iK
  split
  ·exact hx _ _ _
  ·exact fun h=>by cases h
def j7:D->R D
 | .list xs=>.ok (.int xs.length)
 | .tuple xs=>.ok (.int xs.length)
 | .str x=>if x.length<=1000 then .ok (.int x.length) else .no
 | _=>.no
theorem RDk.length {K:a7}{H:Hp}{vs:List (ed×V)}:∀ {ds:List (D×D)},RDk K H vs ds->vs.length=ds.length:=by
 induction vs with
 | nil=>intro ds h;cases h;rfl
 | cons x r ih=>intro ds h;cases h with | cons a b=>exact congrArg (· + 1) (ih b)
theorem RB.dict {K:a7}{H Hs:Hp}{v:V}{ds:List (D×D)} (sub:dE Hs H) (h:RB K H Hs v (.dict ds)):∃ a,v=.ref a/\((∃ kvs,H a=some (.dK kvs)/\RDk K Hs kvs ds)\/(∃ kvs,H a=some (.dT kvs)/\kvs≠[]/\RDt K Hs kvs ds)\/∃ o kvs es,ds=(.none,.none)::es/\H a=some (.frz o (.dT kvs))/\kvs≠[]/\RDt K Hs kvs es):=by
 rcases h with h | ⟨a,o,rfl,h2,h3,h4⟩
 ·cases h with
  | dictK q r=>exact ⟨_,rfl,.inl ⟨_,sub _ _ q,r⟩⟩
  | dictT q n r=>exact ⟨_,rfl,.inr (.inl ⟨_,sub _ _ q,n,r⟩)⟩
  | dictF q n r=>exact ⟨_,rfl,.inr (.inr ⟨_,_,_,rfl,sub _ _ q,n,r⟩)⟩
 ·cases h4 with
  | dK r=>exact ⟨a,rfl,.inl ⟨_,h2,r⟩⟩
  | dT n r=>exact ⟨a,rfl,.inr (.inl ⟨_,h2,n,r⟩)⟩
  | dF n r=>exact ⟨a,rfl,.inr (.inr ⟨_,_,_,rfl,h2,n,r⟩)⟩
theorem gm:N1 X (.builtin "len") (iK j7):=by
 refine w9 (fun d c n=>?_) fun pins s σ H x u Q Hs d d' I ru sub rx hd q=>?_
 ·unfold j7
  split<;>(try split)<;>exact fun h=>by cases h
 ·unfold j7 at hd
  split at hd
  ·cases hd
   obtain ⟨a,vs,rfl,qa,ra⟩:=rx.list sub
   refine uO pins s σ H _ _ Q I (.cons ru .nil) ⟨a,vs,rfl,.inl qa,?_⟩
   rw [ra.length]
   exact q _ H Hs (.refl sub) (.int _)
  ·cases hd
   obtain ⟨a,vs,rfl,qa,ra,_⟩:=rx.tuple sub
   refine uO pins s σ H _ _ Q I (.cons ru .nil) ⟨a,vs,rfl,.inr qa,?_⟩
   rw [ra.length]
   exact q _ H Hs (.refl sub) (.int _)
  ·split at hd
   ·rename_i hz
    cases hd
    exact Ca pins s σ H _ _ Q I (.cons ru .nil) ⟨_,by rw [rx.str],bq (bY hz),q _ H Hs (.refl sub) (.int _)⟩
   ·cases hd
  ·cases hd
def pw (T:String) (d:D):Bool:=match T,d with
 | "str",.str _=>true
 | "int",.int _=>true
 | "int",.bool _=>true
 | "bool",.bool _=>true
 | "list",.list _=>true
 | "tuple",.tuple _=>true
 | _,_=>false
def qW (g:av->R D) (T:String):av->R D:=fun ρ=>(g ρ).bind fun d=>if kO d then .ok (.bool (pw T d)) else .no
theorem Q9 {K:a7}{d:D} (T:String) (hT:T="str"\/T="int"\/T="bool"\/T="list"\/T="tuple") (h:kO d=true):dA K (.type (WN d)) (.type T)=some (pw T d):=by
 rcases hT with rfl | rfl | rfl | rfl | rfl<;>cases d<;>first | rfl | simp [kO] at h
theorem lz {c:C}{e:b9}{g:av->R D}{p p2 pos:Pos}{T:Str}{Ts:String} (h:JB c e g) (hgi:Gl c.X "isinstance") (hi:c.X.mg "isinstance"=none) (hgT:Gl c.X T) (hT:c.X.mg T=none) (hv:iz T=some (.type Ts))
  (hTs:Ts="str"\/Ts="int"\/Ts="bool"\/Ts="list"\/Ts="tuple")
  (hn:T≠"__name__":=by decide) (hdb:(T == ("__debug__" : Str))=false:=by decide)
  (he:aw [e,.Name T p2] c.X.env=(false,da e c.X.env)::aw [.Name T p2] c.X.env:=by rfl) (hpl:(eV pos (aw [.Name T p2] c.X.env)).any (·.1)=false:=by rfl) :
  JE c (.Call (.Name "isinstance" p) [e,.Name T p2] [] pos) (qW g Ts):=.of fun ρ=>by
 refine qy (oJ MQ hgi hi kd (bZ (h ρ) (bZ (Ih hgT hT hv (v:=.ty Ts) rfl hn hdb) eW) he) (by decide) (by decide) he hpl) fun σ H Q h_0=>?_
 obtain ⟨H0,Hs0,la,Hs,f,q⟩:=h_0
 refine one f q fun d v H1 Hs1 e1 s1 f1 r1=>?_
 unfold qW at q
 rw [e1,bind_ok] at q
 by_cases hd:kO d=true
 ·rw [if_pos hd] at q
  exact ⟨v,d,Ts,_,rfl,(r1.full f1.st.sub).rep hd,Q9 Ts hTs hd,q _ H1 Hs1 s1 (.bool _)⟩
 ·rw [if_neg hd] at q;exact q.elim
def nj:List D->Option (List Bool)
 | []=>some []
 | .bool b::r=>(nj r).map (b::·)
 | _::_=>none
theorem CD {ds:List D}:∀ {bs:List Bool},nj ds=some bs->ds=bs.map c9:=by
 induction ds with
 | nil=>intro bs h;cases h;rfl
 | cons d r ih =>
  intro bs h
  cases d with
  | bool b =>
   have h:(nj r).map (b::·)=some bs:=h
   cases hr:nj r with
   | none=>rw [hr] at h;cases h
   | some z=>rw [hr] at h;cases h;rw [ih hr];rfl
  | _=>cases h
def gX (k:List Bool->Bool):D->R D
 | .list ds=>match nj ds with
  | some bs=>.ok (.bool (k bs))
  | none=>.no
 | _=>.no
theorem Ei {id:String}{k:List Bool->Bool} (h:jL X (.builtin id) (fun xs H Q=>∃ p,∃ bs:List Bool,xs=[.ref p]/\mZ X.K H p (bs.map V.bl)/\Q (.bl (k bs)) H)):N1 X (.builtin id) (iK (gX k)):=by
 refine w9 (fun d c n=>?_) fun pins s σ H x u Q Hs d d' I ru sub rx hd q=>?_
 ·unfold gX
  split<;>(try split)<;>exact fun h=>by cases h
 ·unfold gX at hd
  split at hd
  ·split at hd
   ·rename_i bs hb
    cases hd
    obtain ⟨a,vs,rfl,qa,ra⟩:=rx.list sub
    rw [CD hb] at ra
    rw [At ra] at qa
    exact h pins s σ H _ _ Q I (.cons ru .nil) ⟨a,bs,rfl,qa,q _ H Hs (.refl sub) (.bool _)⟩
   ·cases hd
  ·cases hd
theorem pz (hc:X.calm=true):N1 X (.builtin "all") (iK (gX fun bs=>bs.all id)):=Ei (yD hc)
theorem N5 (hc:X.calm=true):N1 X (.builtin "any") (iK (gX fun bs=>bs.any id)):=Ei (yE hc)
def o8 (x:Str):List D:=x.cps.toList.map fun c=>au ⟨#[c]⟩
theorem Kn {K:a7}{H:Hp} (x:Str):RDs K H (yL x) (o8 x):=by
 unfold yL o8
 induction x.cps.toList with
 | nil=>exact .nil
 | cons a r ih=>exact .cons (.str _) ih
def i0:D->R D
 | .list xs=>.ok (.tuple xs)
 | .tuple xs=>.ok (.tuple xs)
 | .str x=>if x.cps.size<=1000 then .ok (.tuple (o8 x)) else .no
 | _=>.no
theorem iF (hc:X.calm=true):N1 X (.type "tuple") (iK i0):=by
 refine w9 (fun d c n=>?_) fun pins s σ H x u Q Hs d d' I ru sub rx hd q=>?_
 ·unfold i0
  split<;>(try split)<;>exact fun h=>by cases h
 ·unfold i0 at hd
  split at hd
  ·cases hd
   obtain ⟨a,vs,rfl,qa,ra⟩:=rx.list sub
   exact sX pins s σ H _ _ Q I (.cons ru .nil) ⟨a,vs,rfl,.inl ⟨qa,fun l hl=>q _ _ _ (.new sub hl) (.tuple aV (ra.same (cJ.new sub hl).sh))⟩⟩
  ·cases hd
   obtain ⟨a,vs,rfl,qa,ra,_⟩:=rx.tuple sub
   refine sX pins s σ H _ _ Q I (.cons ru .nil) ⟨a,vs,rfl,.inr ⟨qa,?_⟩⟩
   rcases rx with rx | ⟨_,_,_,_,_,ow⟩
   ·exact q _ H Hs (.refl sub) rx
   ·cases ow
  ·split at hd
   ·rename_i hz
    cases hd
    exact xu hc pins s σ H _ _ Q I (.cons ru .nil) ⟨_,by rw [rx.str],bq (bY hz),fun l hl=>q _ _ _ (.new sub hl) (.tuple aV (Kn _))⟩
   ·cases hd
  ·cases hd
def Bm:D->R D
 | .list xs=>.ok (.list xs)
 | .tuple xs=>.ok (.list xs)
 | _=>.no
theorem Qa:N1 X (.type "list") (iK Bm):=by
 refine w9 (fun d c n=>?_) fun pins s σ H x u Q Hs d d' I ru sub rx hd q=>?_
 ·unfold Bm
  split<;>exact fun h=>by cases h
 ·unfold Bm at hd
  split at hd
  ·cases hd
   obtain ⟨a,vs,rfl,qa,ra⟩:=rx.list sub
   exact uP pins s σ H _ _ Q I (.cons ru .nil) ⟨a,vs,rfl,.inl qa,fun l hl=>q _ _ _ (.new sub hl) (.list (.of aV) (ra.same (cJ.new sub hl).sh))⟩
  ·cases hd
   obtain ⟨a,vs,rfl,qa,ra,_⟩:=rx.tuple sub
   exact uP pins s σ H _ _ Q I (.cons ru .nil) ⟨a,vs,rfl,.inr qa,fun l hl=>q _ _ _ (.new sub hl) (.list (.of aV) (ra.same (cJ.new sub hl).sh))⟩
  ·cases hd
def gJ:List D->Option (List Str)
 | []=>some []
 | .str b::r=>(gJ r).map (b::·)
 | _::_=>none
theorem qX {ds:List D}:∀ {bs:List Str},gJ ds=some bs->ds=bs.map au:=by
 induction ds with
 | nil=>intro bs h;cases h;rfl
 | cons d r ih =>
  intro bs h
  cases d with
  | str b =>
   have h:(gJ r).map (b::·)=some bs:=h
   cases hr:gJ r with
   | none=>rw [hr] at h;cases h
   | some z=>rw [hr] at h;cases h;rw [ih hr];rfl
  | _=>cases h
@[simp] theorem strsOf_map:∀ bs:List Str,gJ (bs.map au)=some bs
 | []=>rfl
 | b::r=>by show (gJ (r.map au)).map (b::·)=_;rw [strsOf_map r];rfl
def rY:D->R D
 | .list ds=>match gJ ds with
  | some ss=>if ss.length<64 then .ok (.list ((jO ss).map .str)) else .no
  | none=>.no
 | _=>.no
theorem Ko:N1 X (.builtin "sorted") (iK rY):=by
 refine w9 (fun d c n=>?_) fun pins s σ H x u Q Hs d d' I ru sub rx hd q=>?_
 ·unfold rY
  split<;>(try split)<;>(try split)<;>exact fun h=>by cases h
 ·unfold rY at hd
  split at hd
  ·split at hd
   ·split at hd
    ·rename_i ss hs hz
     cases hd
     obtain ⟨a,vs,rfl,qa,ra⟩:=rx.list sub
     rw [qX hs] at ra
     rw [pp ra] at qa
     exact w6 pins s σ H _ _ Q I (.cons ru .nil) ⟨a,ss,rfl,qa,hz,fun l hl=>q _ _ _ (.new sub hl) (.list (.of aV) (yM _))⟩
    ·cases hd
   ·cases hd
  ·cases hd
end
end
section
inductive UJ (K:a7) (cls:Str->ag) (n:Nat) (F:List D->R D) (vs:List V) (H:Hp) (Q:VK) (E:XK):Prop
 | mk (Hs ds:_) (h0:dE Hs H) (h1:ds.length=n) (h2:RDs K Hs vs ds) (h3:Fin K cls E H Hs (F ds) fun d=>∀ v H' Hs',cJ H Hs H' Hs'->RD K Hs' v d->Q v H'):UJ K cls n F vs H Q E
def Ry (K:a7) (cls:Str->ag) (n:Nat) (F:List D->R D):Sp:=UJ K cls n F
structure Fn (P:aI) (w:ba) (K:a7) (mg:Str->Option a8) (base:bf) (cls:Str->ag) (x:Str) (k n:Nat) (F:List D->R D):Prop where
 ex:∃ f fd ps,sJ P w K mg base (jD P w) k f fd ps (Ry K cls n F)/\mg x=some (.ref f)/\dX K (.ref f)=true/\jM K fd ps []
section
variable {c:C}{e a b:b9}{g ga gb:av->R D}{pos:Pos}{es:List b9}{gs:av->R (List D)}{x:Str}{p:Pos}
def dz (n:Nat) (F:List D->R D) (gs:av->R (List D)):av->R D:=fun ρ=>(gs ρ).bind fun ds=>if ds.length=n then F ds else .no
theorem Qb {k n:Nat}{F:List D->R D} (G:Fn c.X.prog c.X.w c.X.K c.X.mg c.X.base c.cls x k n F) (hr:ji k c.X.A) (hg:Gl c.X x) (hx:jN (jD c.X.prog c.X.w) c.X c.E) (ha:Bf c (e::es) gs)
  (hdb:(x == ("__debug__" : Str))=false:=by decide) (he:aw (e::es) c.X.env=(false,da e c.X.env)::aw es c.X.env:=by rfl) (hpl:(eV pos (aw es c.X.env)).any (·.1)=false:=by rfl) :
  JE c (.Call (.Name x p) (e::es) [] pos) (dz n F gs):=.of fun ρ=>by
 obtain ⟨f,fd,ps,hf,hm,hk,hb⟩:=G.ex
 refine qy (Io (E:=c.E) hf hr hg hm hk hb .nil hx (ha ρ) hdb he hpl) fun σ H Q h_0=>?_
 obtain ⟨H0,Hs0,la,Hs,fr,q⟩:=h_0
 refine yN fr q fun ds vs H1 Hs1 e1 s1 f1 r1=>?_
 unfold dz at q
 rw [e1,bind_ok] at q
 by_cases hn:ds.length=n
 ·rw [if_pos hn] at q
  show Ry _ _ _ _ (vs++[]) _ _ _
  rw [cj]
  exact ⟨Hs1,ds,f1.st.sub,hn,r1,q.on s1 fun d k v H2 Hs2 s2 r2=>k v H2 Hs2 (s1.trans s2) r2⟩
 ·rw [if_neg hn] at q;exact q.elim
end
inductive Fl where
 | nx (ρ:av)
 | rt (d:D)
 | bk (ρ:av)
 | ct (ρ:av)
def pA (K:a7) (cls:Str->ag) (E:XK) (H0 Hs0:Hp) (la:Nat->Option ag) (D:tP) (r:R Fl):Prop:=match r with
 | .ok (.nx ρ')=>∀ σ' H' Hs',Fr K H0 Hs0 la ρ' σ' H' Hs'->D.nx σ' H'
 | .ok (.bk ρ')=>∀ σ' H' Hs',Fr K H0 Hs0 la ρ' σ' H' Hs'->D.bk σ' H'
 | .ok (.ct ρ')=>∀ σ' H' Hs',Fr K H0 Hs0 la ρ' σ' H' Hs'->D.ct σ' H'
 | .ok (.rt d)=>∀ v H' Hs',cJ H0 Hs0 H' Hs'->RD K Hs' v d->D.rt v H'
 | .ex c n=>∀ H' Hs',cJ H0 Hs0 H' Hs'->XW K cls E c n H' Hs'
 | .no=>False
inductive Xu (K:a7) (cls:Str->ag) (E:XK) (ρ:av) (r:R Fl) (D:tP) (σ:St) (H:Hp):Prop
 | mk (H0 Hs0:Hp) (la:Nat->Option ag) (Hs:Hp) (f:Fr K H0 Hs0 la ρ σ H Hs) (q:pA K cls E H0 Hs0 la D r):Xu K cls E ρ r D σ H
def SR (K:a7) (cls:Str->ag) (E:XK) (ρ:av) (r:R Fl):TS:=Xu K cls E ρ r
structure JS (c:C) (s:cr) (g:av->R Fl):Prop where of ::
 run:∀ ρ,PS c.X s (SR c.X.K c.cls c.E ρ (g ρ))
instance {c:C}{s:cr}{g:av->R Fl}:CoeFun (JS c s g) (fun _=>∀ ρ,PS c.X s (SR c.X.K c.cls c.E ρ (g ρ))):=⟨JS.run⟩
structure Kp (c:C) (s:List cr) (g:av->R Fl):Prop where of ::
 run:∀ ρ,A_ c.X s (SR c.X.K c.cls c.E ρ (g ρ))
instance {c:C}{s:List cr}{g:av->R Fl}:CoeFun (Kp c s g) (fun _=>∀ ρ,A_ c.X s (SR c.X.K c.cls c.E ρ (g ρ))):=⟨Kp.run⟩
theorem Fr.set {K:a7}{H0 Hs0 H Hs:Hp}{la:Nat->Option ag}{ρ:av}{σ:St} (f:Fr K H0 Hs0 la ρ σ H Hs) (i:Nat) {v:V}{d:D} (r:RD K Hs v d):Fr K H0 Hs0 la (ρ.set i (.shr d)) (σ.set i (some v)) H Hs:=by
 have hl:=f.len
 have nx:∀ {j:Nat}{s:Sl},(∀ d,s≠.shr d)->(ρ.set i (.shr d))[j]?=some s->ρ[j]?=some s/\i≠j:=fun {j s} hs e=>by
  by_cases hj:i=j
  ·subst hj
   by_cases hi:i<ρ.length
   ·rw [aJ hi] at e;exact absurd (bH e).symm (hs d)
   ·rw [cB (by simpa using hi)] at e;cases e
  ·rw [aj hj] at e;exact ⟨e,hj⟩
 refine ⟨f.st,by simp [hl],fun j e h=>?_,fun j e h=>?_,fun j e h=>?_,fun j k d1 d2 a h1 h2 h3 h4=>?_,f.lh,fun j e h=>?_,fun j k d1 d2 h1 h2=>?_⟩
 ·by_cases hj:i=j
  ·subst hj
   by_cases hi:i<ρ.length
   ·rw [aJ hi] at h
    cases h
    exact ⟨v,aJ (by omega),r⟩
   ·rw [cB (by simpa using hi)] at h;cases h
  ·rw [aj hj] at h ⊢
   exact f.sh j e h
 ·obtain ⟨h,hj⟩:=nx (fun _ z=>by cases z) h
  rw [aj hj]
  exact f.ow j e h
 ·obtain ⟨h,hj⟩:=nx (fun _ z=>by cases z) h
  rw [aj hj]
  exact f.lk j e h
 ·obtain ⟨h1,n1⟩:=nx (fun _ z=>by cases z) h1
  obtain ⟨h2,n2⟩:=nx (fun _ z=>by cases z) h2
  rw [aj n1] at h3
  rw [aj n2] at h4
  exact f.dj j k d1 d2 a h1 h2 h3 h4
 ·obtain ⟨h,hj⟩:=nx (fun _ z=>by cases z) h
  obtain ⟨a,as,O⟩:=f.o2 j e h
  refine ⟨a,as,by rw [aj hj];exact O.at_,O.ob,O.nd,O.out,fun b hb k e' hk=>?_,O.inn⟩
  obtain ⟨hk,nk⟩:=nx (fun _ z=>by cases z) hk
  rw [aj nk]
  exact O.dj b hb k e' hk
 ·exact f.u2 j k d1 d2 (nx (fun _ z=>by cases z) h1).1 (nx (fun _ z=>by cases z) h2).1
theorem Fr.setO {K:a7}{H0 Hs0 H Hs:Hp}{la:Nat->Option ag}{ρ:av}{σ:St} (f:Fr K H0 Hs0 la ρ σ H Hs) (i:Nat) {a:ag}{o:HO}{d:D} (n:H a=none) (r:m_ K Hs o d):Fr K H0 Hs0 la (ρ.set i (.own d)) (σ.set i (some (.ref a))) (upd H a o) Hs:=by
 have f':=f.step (cJ.mine (o:=o) f.st.sub n)
 have hl:=f.len
 have n0:H0 a=none:=f.st.all.free n
 have ns:Hs a=none:=f.st.sub.free n
 have nx:∀ {j:Nat}{s:Sl},(∀ d,s≠.own d)->(ρ.set i (.own d))[j]?=some s->ρ[j]?=some s/\i≠j:=fun {j s} hs e=>by
  by_cases hj:i=j
  ·subst hj
   by_cases hi:i<ρ.length
   ·rw [aJ hi] at e;exact absurd (bH e).symm (hs d)
   ·rw [cB (by simpa using hi)] at e;cases e
  ·rw [aj hj] at e;exact ⟨e,hj⟩
 have ne:∀ j e,ρ[j]?=some (Sl.own e)->σ[j]?≠some (some (V.ref a)):=fun j e h z=>by
  obtain ⟨b,o',h1,h2,_⟩:=f.ow j e h
  rw [z] at h1
  cases h1
  rw [n] at h2;cases h2
 refine ⟨f'.st,by simp [hl],fun j e h=>?_,fun j e h=>?_,fun j e h=>?_,fun j k d1 d2 b h1 h2 h3 h4=>?_,f.lh,fun j e h=>?_,fun j k d1 d2 h1 h2=>?_⟩
 ·obtain ⟨h,hj⟩:=nx (fun _ z=>by cases z) h
  rw [aj hj]
  exact f'.sh j e h
 ·by_cases hj:i=j
  ·subst hj
   by_cases hi:i<ρ.length
   ·rw [aJ hi] at h
    cases h
    exact ⟨a,o,aJ (by omega),aV,ns,n0,r⟩
   ·rw [cB (by simpa using hi)] at h;cases h
  ·rw [aj hj] at h ⊢
   exact f'.ow j e h
 ·obtain ⟨h,hj⟩:=nx (fun _ z=>by cases z) h
  rw [aj hj]
  exact f'.lk j e h
 ·by_cases hj:i=j
  ·by_cases hk:i=k
   ·exact hj.symm.trans hk
   ·rw [aj hk] at h2 h4
    subst hj
    by_cases hi:i<ρ.length
    ·rw [aJ (by omega)] at h3
     cases h3
     exact (ne k d2 h2 h4).elim
    ·rw [cB (by simpa using hi)] at h1;cases h1
  ·rw [aj hj] at h1 h3
   by_cases hk:i=k
   ·subst hk
    by_cases hi:i<ρ.length
    ·rw [aJ (by omega)] at h4
     cases h4
     exact (ne j d1 h1 h3).elim
    ·rw [cB (by simpa using hi)] at h2;cases h2
   ·rw [aj hk] at h2 h4
    exact f.dj j k d1 d2 b h1 h2 h3 h4
 ·obtain ⟨h,hj⟩:=nx (fun _ z=>by cases z) h
  obtain ⟨b,as,O⟩:=f.o2 j e h
  have nb:∀ c∈b::as,c≠a:=fun c hc z=>by
   subst z
   rcases List.mem_cons.mp hc with z | z
   ·have:=O.ob;rw [<- z,n] at this;cases this
   ·obtain ⟨o,ho,_⟩:=O.inn.there z;rw [n] at ho;cases ho
  refine ⟨b,as,by rw [aj hj];exact O.at_,by rw [b6 (nb b al)];exact O.ob,O.nd,O.out,fun c hc k e' hk=>?_,O.inn.upd fun z=>nb a (ao _ z) rfl⟩
  by_cases nk:i=k
  ·subst nk
   intro z
   by_cases hi:i<ρ.length
   ·rw [aJ (by omega)] at z
    cases z
    exact nb _ hc rfl
   ·rw [cB (by simp;omega)] at hk;cases hk
  ·rw [aj nk] at hk ⊢
   exact O.dj c hc k e' hk
 ·exact f.u2 j k d1 d2 (nx (fun _ z=>by cases z) h1).1 (nx (fun _ z=>by cases z) h2).1
theorem Fr.write {K:a7}{H0 Hs0 H Hs:Hp}{la:Nat->Option ag}{ρ:av}{σ:St} (f:Fr K H0 Hs0 la ρ σ H Hs) (i:Nat) {a:ag}{o:HO}{d d':D} (hi:ρ[i]?=some (Sl.own d)) (hs:σ[i]?=some (some (V.ref a))) (r:m_ K Hs o d'):Fr K H0 Hs0 la (ρ.set i (.own d')) σ (upd H a o) Hs:=by
 obtain ⟨a',o',h1,h2,h3,h4,h5⟩:=f.ow i d hi
 rw [hs] at h1
 cases h1
 have hl:=f.len
 have hil:i<ρ.length:=(List.getElem?_eq_some_iff.mp hi).1
 have nx:∀ {j:Nat}{s:Sl},(∀ d,s≠.own d)->(ρ.set i (.own d'))[j]?=some s->ρ[j]?=some s/\i≠j:=fun {j s} hs e=>by
  by_cases hj:i=j
  ·subst hj
   rw [aJ hil] at e;exact absurd (bH e).symm (hs d')
  ·rw [aj hj] at e;exact ⟨e,hj⟩
 refine ⟨⟨fun b u e=>?_,f.st.sh,fun b u e=>?_,f.st.out⟩,by simp [hl],fun j e h=>?_,fun j e h=>?_,fun j e h=>?_,fun j k d1 d2 b h1 h2 h3 h4=>?_,f.lh,fun j e h=>?_,fun j k d1 d2 h1 h2=>?_⟩
 ·rw [b6 (bn e h4)];exact f.st.all b u e
 ·rw [b6 (bn e h3)];exact f.st.sub b u e
 ·obtain ⟨h,hj⟩:=nx (fun _ z=>by cases z) h
  exact f.sh j e h
 ·by_cases hj:i=j
  ·subst hj
   rw [aJ hil] at h
   cases h
   exact ⟨a,o,hs,aV,h3,h4,r⟩
  ·rw [aj hj] at h
   obtain ⟨b,u,k1,k2,k3,k4,k5⟩:=f.ow j e h
   refine ⟨b,u,k1,?_,k3,k4,k5⟩
   rw [b6 (fun z=>hj ?_)]
   ·exact k2
   ·subst z
    exact f.dj i j d e b hi h hs k1
 ·obtain ⟨h,hj⟩:=nx (fun _ z=>by cases z) h
  obtain ⟨b,u,k1,k2,k3,k4,k5,k6⟩:=f.lk j e h
  refine ⟨b,u,k1,k2,?_,k4,k5,k6⟩
  rw [b6 (bn k5 h4)]
  exact k3
 ·have own:∀ {j:Nat}{e:D},(ρ.set i (.own d'))[j]?=some (Sl.own e)->∃ e',ρ[j]?=some (Sl.own e'):=fun {j e} h=>by
   by_cases hj:i=j
   ·subst hj;exact ⟨d,hi⟩
   ·rw [aj hj] at h;exact ⟨e,h⟩
  obtain ⟨e1,h1⟩:=own h1
  obtain ⟨e2,h2⟩:=own h2
  exact f.dj j k e1 e2 b h1 h2 h3 h4
 ·obtain ⟨h,hj⟩:=nx (fun _ z=>by cases z) h
  obtain ⟨b,as,O⟩:=f.o2 j e h
  have nb:∀ c∈b::as,c≠a:=fun c hc z=>by
   subst z
   exact O.dj c hc i d hi hs
  refine ⟨b,as,O.at_,by rw [b6 (nb b al)];exact O.ob,O.nd,O.out,fun c hc k e' hk=>?_,O.inn.upd fun z=>nb a (ao _ z) rfl⟩
  by_cases nk:i=k
  ·subst nk
   exact O.dj c hc i d hi
  ·rw [aj nk] at hk
   exact O.dj c hc k e' hk
 ·exact f.u2 j k d1 d2 (nx (fun _ z=>by cases z) h1).1 (nx (fun _ z=>by cases z) h2).1
def dB (ρ:av):av:=ρ.map fun s=>match s with
 | .own d=>.shr d
 | .ow2 dss=>.shr (.list (dss.map .list))
 | s=>s
open Classical in
theorem Fr.share {K:a7}{H0 Hs0 H Hs:Hp}{la:Nat->Option ag}{ρ:av}{σ:St} (f:Fr K H0 Hs0 la ρ σ H Hs):∃ Hs',Fr K H0 Hs0 la (dB ρ) σ H Hs'/\cJ H Hs H Hs'\/Fr K H0 Hs0 la (dB ρ) σ H Hs':=by
 let P:ag->Prop:=fun b=>(∃ (i:Nat) (d:D),ρ[i]?=some (Sl.own d)/\σ[i]?=some (some (V.ref b)))\/∃ (i:Nat) (dss:List (List D)) (a:ag) (as:List ag),ρ[i]?=some (Sl.ow2 dss)/\O2 K H0 H Hs ρ σ i dss a as/\b∈a::as
 let Hs':Hp:=fun b=>if P b then H b else Hs b
 have pos:∀ b,P b->Hs' b=H b:=fun b h=>if_pos h
 have neg:∀ b,¬ P b->Hs' b=Hs b:=fun b h=>if_neg h
 have up:dE Hs Hs':=fun b o e=>by
  by_cases h:P b
  ·rw [pos b h];exact f.st.sub b o e
  ·rw [neg b h];exact e
 have none0:∀ b o,H0 b=some o->¬ P b:=fun b o e hP=>by
  rcases hP with ⟨i,d,h1,h2⟩ | ⟨i,dss,a,as,h1,O,hb⟩
  ·obtain ⟨a,o',k1,_,_,k4,_⟩:=f.ow i d h1
   rw [h2] at k1;cases k1
   rw [e] at k4;cases k4
  ·have:=(O.out b hb).2
   rw [e] at this;cases this
 have un:∀ {j:Nat}{s:Sl},(dB ρ)[j]?=some s->(∃ d,s=.shr d/\ρ[j]?=some (Sl.own d))\/(∃ dss:List (List D),s=.shr (.list (dss.map .list))/\ρ[j]?=some (Sl.ow2 dss))\/((∀ d,s≠.own d)/\(∀ d,s≠.ow2 d)/\ρ[j]?=some s):=fun {j s} e=>by
  unfold dB at e
  rw [aS] at e
  cases h:ρ[j]? with
  | none=>rw [h] at e;cases e
  | some t =>
   rw [h] at e
   cases t with
   | own d=>cases e;exact .inl ⟨d,rfl,rfl⟩
   | no=>cases e;exact .inr (.inr ⟨fun _ z=>(by cases z),fun _ z=>(by cases z),rfl⟩)
   | shr d=>cases e;exact .inr (.inr ⟨fun _ z=>(by cases z),fun _ z=>(by cases z),rfl⟩)
   | lck d=>cases e;exact .inr (.inr ⟨fun _ z=>(by cases z),fun _ z=>(by cases z),rfl⟩)
   | ow2 d=>cases e;exact .inr (.inl ⟨d,rfl,rfl⟩)
 refine ⟨Hs',.inr ⟨⟨f.st.all,f.st.sh.trans up,fun b o e=>?_,fun a o e t z=>?_⟩,by simp [dB,f.len],fun j d h=>?_,fun j d h=>?_,fun j d h=>?_,fun j k d1 d2 a h1 h2 _ _=>?_,f.lh,fun j d h=>?_,fun j k d1 d2 h1 h2=>?_⟩⟩
 ·by_cases h:P b
  ·rw [pos b h] at e;exact e
  ·rw [neg b h] at e;exact f.st.sub b o e
 ·rw [neg a (none0 a o e)];exact f.st.out a o e t z
 ·rcases un h with ⟨d',e,h'⟩ | ⟨dss,e,h'⟩ | ⟨_,_,h'⟩
  ·cases e
   obtain ⟨a,o,k1,k2,k3,k4,k5⟩:=f.ow j d h'
   refine ⟨_,k1,?_⟩
   have hp:Hs' a=some o:=by rw [pos a (.inl ⟨j,d,h',k1⟩)];exact k2
   have e:dE (upd Hs a o) Hs':=fun b u q=>by
    by_cases hb:b=a
    ·subst hb;rw [aV] at q;cases q;exact hp
    ·rw [b6 hb] at q;exact up b u q
   exact (k5.share k3).same e
  ·cases e
   obtain ⟨a,as,O⟩:=f.o2 j dss h'
   refine ⟨_,O.at_,?_⟩
   have hp:∀ b∈a::as,∀ o,H b=some o->Hs' b=some o:=fun b hb o ho=>by rw [pos b (.inr ⟨j,dss,a,as,h',O,hb⟩)];exact ho
   refine .list (.of (hp a al _ O.ob)) ?_
   have go:∀ {as':List ag}{dss':List (List D)},(∀ b∈as',b∈a::as)->Be K H Hs as' dss'->RDs K Hs' (as'.map V.ref) (dss'.map .list):=fun {as' dss'} hs hi=>by
    induction hi with
    | nil=>exact .nil
    | cons h1 h2 _ ih=>exact .cons (.list (.of (hp _ (hs _ al) _ h1)) (h2.same up)) (ih fun b hb=>hs b (ao _ hb))
   exact go (fun b hb=>ao _ hb) O.inn
  ·obtain ⟨v,k1,k2⟩:=f.sh j d h'
   exact ⟨v,k1,k2.same up⟩
 ·rcases un h with ⟨d',e,h'⟩ | ⟨d',e,h'⟩ | ⟨n,_,h'⟩
  ·cases e
  ·cases e
  ·exact (n d rfl).elim
 ·rcases un h with ⟨d',e,h'⟩ | ⟨d',e,h'⟩ | ⟨_,_,h'⟩
  ·cases e
  ·cases e
  ·obtain ⟨a,o,k1,k2,k3,k4,k5,k6⟩:=f.lk j d h'
   exact ⟨a,o,k1,k2,k3,by rw [neg a (none0 a o k5)];exact k4,k5,k6.same up⟩
 ·rcases un h1 with ⟨d',e,h'⟩ | ⟨d',e,h'⟩ | ⟨n,_,h'⟩
  ·cases e
  ·cases e
  ·exact (n d1 rfl).elim
 ·rcases un h with ⟨d',e,h'⟩ | ⟨d',e,h'⟩ | ⟨_,n,h'⟩
  ·cases e
  ·cases e
  ·exact (n d rfl).elim
 ·rcases un h1 with ⟨d',e,h'⟩ | ⟨d',e,h'⟩ | ⟨_,n,h'⟩
  ·cases e
  ·cases e
  ·exact (n d1 rfl).elim
theorem Fr.shared {K:a7}{H0 Hs0 H Hs:Hp}{la:Nat->Option ag}{ρ:av}{σ:St} (f:Fr K H0 Hs0 la ρ σ H Hs):∃ Hs',Fr K H0 Hs0 la (dB ρ) σ H Hs':=by
 obtain ⟨Hs',h | h⟩:=f.share
 ·exact ⟨Hs',h.1⟩
 ·exact ⟨Hs',h⟩
section
variable {c:C}{e a b:b9}{g ga gb:av->R D}{pos:Pos}{x:Str}{st:cr}{bK:List cr}{gs gr:av->R Fl}
def aW (g h:av->R Fl):av->R Fl:=fun ρ=>(g ρ).bind fun fl=>match fl with
 | .nx ρ'=>h ρ'
 | fl=>.ok fl
theorem cf:Kp c [] (fun ρ=>.ok (.nx ρ)):=.of fun ρ=>WO Ii fun D σ H h_1=>by obtain ⟨H0,Hs0,la,Hs,f,q⟩:=h_1;exact q σ H Hs f
theorem aM (h:JS c st gs):Kp c [st] gs:=.of fun ρ=>uK (h ρ)
theorem aB (h:JS c st gs) (hr:Kp c bK gr):Kp c (st::bK) (aW gs gr):=.of fun ρ pins s σ H D I h_2=>by
 obtain ⟨H0,Hs0,la,Hs,f,q⟩:=h_2
 unfold aW at q
 cases hg:gs ρ with
 | no=>rw [hg] at q;exact q.elim
 | ex x n =>
  rw [hg] at q
  refine jK (h ρ) (oG (X:=c.X) (sts:=bK)) pins s σ H D I ⟨H0,Hs0,la,Hs,f,?_⟩
  rw [hg]
  exact q
 | ok fl =>
  rw [hg,bind_ok] at q
  cases fl with
  | nx ρ' =>
   refine jK (h ρ) (hr ρ') pins s σ H D I ⟨H0,Hs0,la,Hs,f,?_⟩
   rw [hg]
   exact fun σ' H' Hs' f'=>⟨H0,Hs0,la,Hs',f',q⟩
  | rt d =>
   refine jK (h ρ) (oG (X:=c.X) (sts:=bK)) pins s σ H D I ⟨H0,Hs0,la,Hs,f,?_⟩
   rw [hg]
   exact q
  | bk ρ' =>
   refine jK (h ρ) (oG (X:=c.X) (sts:=bK)) pins s σ H D I ⟨H0,Hs0,la,Hs,f,?_⟩
   rw [hg]
   exact q
  | ct ρ' =>
   refine jK (h ρ) (oG (X:=c.X) (sts:=bK)) pins s σ H D I ⟨H0,Hs0,la,Hs,f,?_⟩
   rw [hg]
   exact q
theorem sE {K:a7}{cls:Str->ag}{E:XK}{ρ:av}{r:R D}{k:D->R Fl}{σ:St}{H:Hp}{H0 Hs0 Hs:Hp}{la:Nat->Option ag}{D':tP}{Q:V->Hp->Prop} (f:Fr K H0 Hs0 la ρ σ H Hs)
  (h:pA K cls E H0 Hs0 la D' (r.bind k)) (m:∀ d v H' Hs',r=.ok d->cJ H Hs H' Hs'->Fr K H0 Hs0 la ρ σ H' Hs'->RD K Hs' v d->Q v H'):TR K cls E ρ r σ H Q:=by
 refine ⟨H0,Hs0,la,Hs,f,?_⟩
 cases r with
 | ok d=>exact fun v H' Hs' s r=>m d v H' Hs' rfl s (f.step s) r
 | ex c n=>exact fun H' Hs' s=>h H' Hs' (f.st.trans s)
 | no=>exact h
theorem sT {K:a7}{cls:Str->ag}{E:XK}{ρ:av}{r:R Bool}{k:Bool->R Fl}{σ:St}{H:Hp}{H0 Hs0 Hs:Hp}{la:Nat->Option ag}{D':tP}{Q:Bool->Hp->Prop} (f:Fr K H0 Hs0 la ρ σ H Hs)
  (h:pA K cls E H0 Hs0 la D' (r.bind k)) (m:∀ d H' Hs',r=.ok d->cJ H Hs H' Hs'->Fr K H0 Hs0 la ρ σ H' Hs'->Q d H'):LB K cls E ρ r σ H Q:=by
 refine ⟨H0,Hs0,la,Hs,f,?_⟩
 cases r with
 | ok d=>exact fun H' Hs' s=>m d H' Hs' rfl s (f.step s)
 | ex c n=>exact fun H' Hs' s=>h H' Hs' (f.st.trans s)
 | no=>exact h
def cg (g:av->R D):av->R Fl:=fun ρ=>(g (dB ρ)).bind fun d=>.ok (.rt d)
theorem bD (h:JE c e g):JS c (.Return (some e) pos) (cg g):=.of fun ρ=>Ab (C4 (h (dB ρ))) fun D σ H h_3=>by
 obtain ⟨H0,Hs0,la,Hs,f,q⟩:=h_3
 obtain ⟨Hs',f'⟩:=f.shared
 refine sE f' q fun d v H1 Hs1 e1 s1 f1 r1=>?_
 unfold cg at q
 rw [e1,bind_ok] at q
 exact q v H1 Hs1 f1.st r1
def dY (t:av->R Bool) (g h:av->R Fl):av->R Fl:=fun ρ=>(t ρ).bind fun b=>if b then g ρ else h ρ
theorem eM {t:b9}{gt:av->R Bool}{A B:List cr}{gA gB:av->R Fl} (ht:JT c t gt) (hA:Kp c A gA) (hB:Kp c B gB):JS c (.If t A B pos) (dY gt gA gB):=.of fun ρ=>Ab (R8 (ht ρ) (hA ρ) (hB ρ)) fun D σ H h_5=>by
 obtain ⟨H0,Hs0,la,Hs,f,q⟩:=h_5
 refine sT f q fun d H1 Hs1 e1 s1 f1=>?_
 unfold dY at q
 rw [e1,bind_ok] at q
 cases d with
 | true=>exact Gw ⟨H0,Hs0,la,Hs1,f1,q⟩
 | false=>exact Cb ⟨H0,Hs0,la,Hs1,f1,q⟩
def fY (i:Nat) (g:av->R D):av->R Fl:=fun ρ=>(g ρ).bind fun d=>.ok (.nx (ρ.set i (.shr d)))
theorem eX (i:Nat) {pos':Pos} (h:JE c e g) (hN:c.X.N.Nodup) (hi:c.X.N[i]?=some x:=by rfl) (hx:R5 c.X.env.scope x:=by first | exact gP rfl | exact e8 rfl) (hs:ig e (some (.Name x pos')) pos.line c.X.env=pure false:=by rfl)
  (hf:c.X.fn x=true\/c.X.env.scope.names.lookup x=some .local:=by first | exact .inl rfl | exact .inr rfl | assumption):JS c (.Assign [.Name x pos'] e pos) (fY i g):=.of fun ρ=>Ab (C6 hN hi hx (h ρ) hs hf) fun D σ H h_6=>by
 obtain ⟨H0,Hs0,la,Hs,f,q⟩:=h_6
 refine sE f q fun d v H1 Hs1 e1 s1 f1 r1=>?_
 unfold fY at q
 rw [e1,bind_ok] at q
 exact q _ H1 Hs1 (f1.set i r1)
def wR (g:av->R D):av->R Fl:=fun ρ=>(g ρ).bind fun _=>.ok (.nx ρ)
theorem u_ (h:JE c e g) (hs:ig e none pos.line c.X.env=pure false:=by rfl):JS c (.Expr e pos) (wR g):=.of fun ρ=>Ab (rP (h ρ) hs) fun D σ H h_7=>by
 obtain ⟨H0,Hs0,la,Hs,f,q⟩:=h_7
 refine sE f q fun d v H1 Hs1 e1 s1 f1 r1=>?_
 unfold wR at q
 rw [e1,bind_ok] at q
 exact q _ H1 Hs1 f1
def Xv (K:a7) (H0 Hs0:Hp) (la:Nat->Option ag) (H Hs:Hp) (Q:St->Hp->Prop) (r:R av):Prop:=match r with
 | .ok ρ'=>∀ σ',Fr K H0 Hs0 la ρ' σ' H Hs->Q σ' H
 | _=>False
inductive UK (K:a7) (ρ:av) (d:D) (r:R av) (v:V) (σ:St) (H:Hp) (Q:St->Hp->Prop):Prop
 | mk (H0 Hs0:Hp) (la:Nat->Option ag) (Hs:Hp) (f:Fr K H0 Hs0 la ρ σ H Hs) (rd:RD K Hs v d) (q:Xv K H0 Hs0 la H Hs Q r):UK K ρ d r v σ H Q
def T5 (K:a7) (ρ:av) (d:D) (r:R av):TG:=UK K ρ d r
inductive Rz (K:a7) (ρ:av) (ds:List D) (r:R av) (vs:List V) (σ:St) (H:Hp) (Q:St->Hp->Prop):Prop
 | mk (H0 Hs0:Hp) (la:Nat->Option ag) (Hs:Hp) (f:Fr K H0 Hs0 la ρ σ H Hs) (rd:RDs K Hs vs ds) (q:Xv K H0 Hs0 la H Hs Q r):Rz K ρ ds r vs σ H Q
def UL (K:a7) (ρ:av) (ds:List D) (r:R av):M5:=Rz K ρ ds r
structure JG (c:C) (t:b9) (k:D->av->R av):Prop where of ::
 run:∀ ρ d,PG c.X t (T5 c.X.K ρ d (k d ρ))
instance {c:C}{t:b9}{k:D->av->R av}:CoeFun (JG c t k) (fun _=>∀ ρ d,PG c.X t (T5 c.X.K ρ d (k d ρ))):=⟨JG.run⟩
structure T_ (c:C) (t:List b9) (k:List D->av->R av):Prop where of ::
 run:∀ ρ d,R9 c.X t (UL c.X.K ρ d (k d ρ))
instance {c:C}{t:List b9}{k:List D->av->R av}:CoeFun (T_ c t k) (fun _=>∀ ρ d,R9 c.X t (UL c.X.K ρ d (k d ρ))):=⟨T_.run⟩
theorem Xw {X:Cx}{e:b9}{t t':TG} (h:PG X e t) (m:∀ v σ H Q,t' v σ H Q->t v σ H Q):PG X e t':=fun pins s σ H v u Q I r q=>h pins s σ H v u Q I r (m v σ H Q q)
theorem WT {X:Cx}{e:List b9}{t t':M5} (h:R9 X e t) (m:∀ v σ H Q,t' v σ H Q->t v σ H Q):R9 X e t':=fun pins s σ H v u Q I r q=>h pins s σ H v u Q I r (m v σ H Q q)
def bX (i:Nat):D->av->R av:=fun d ρ=>.ok (ρ.set i (.shr d))
theorem c_ (i:Nat) (hN:c.X.N.Nodup) (hi:c.X.N[i]?=some x:=by rfl) (hx:R5 c.X.env.scope x:=by first | exact gP rfl | exact e8 rfl) (hf:c.X.fn x=true\/c.X.env.scope.names.lookup x=some .local:=by first | exact .inl rfl | exact .inr rfl | assumption) :
  JG c (.Name x pos) (bX i):=.of fun ρ d=>Xw (cZ hN hi hx hf) fun v σ H Q h_11=>by obtain ⟨H0,Hs0,la,Hs,f,r,q⟩:=h_11;exact q _ (f.set i r)
variable {kt:D->av->R av}{kts:List D->av->R av}{t:b9}{ts:List b9}
def o9:List D->av->R av:=fun ds ρ=>match ds with
 | []=>.ok ρ
 | _=>.no
def cC (k:D->av->R av) (ks:List D->av->R av):List D->av->R av:=fun ds ρ=>match ds with
 | d::r=>(k d ρ).bind fun ρ'=>ks r ρ'
 | _=>.no
theorem nl:T_ c [] o9:=.of fun ρ ds=>WT C5 fun vs σ H Q h_12=>by
 obtain ⟨H0,Hs0,la,Hs,f,r,q⟩:=h_12
 cases r with
 | nil=>exact ⟨rfl,q σ f⟩
 | cons _ _=>exact q.elim
theorem dC (h:JG c t kt) (hr:T_ c ts kts) (hs:(iA (t::ts) c.X.env).map (·.2)=qz t c.X.env::(iA ts c.X.env).map (·.2):=by rfl):T_ c (t::ts) (cC kt kts):=.of fun ρ ds pins s σ H vs us Q I rv h_13=>by
 obtain ⟨H0,Hs0,la,Hs,f,r,q⟩:=h_13
 cases r with
 | nil=>exact q.elim
 | @cons v vr d dr r1 r2 =>
  unfold cC at q
  cases hk:kt d ρ with
  | ok ρ' =>
   simp only [hk,bind_ok] at q
   refine qH (h ρ d) (hr ρ' dr) hs pins s σ H _ us Q I rv ⟨v,vr,rfl,H0,Hs0,la,Hs,f,r1,?_⟩
   rw [hk]
   exact fun σ' f'=>⟨H0,Hs0,la,Hs,f',r2,q⟩
  | ex x n=>simp only [hk,bind_ex] at q;exact q.elim
  | no=>simp only [hk,bind_no] at q;exact q.elim
def ms (n:Nat) (ks:List D->av->R av):D->av->R av:=fun d ρ=>match d with
 | .tuple ds=>if ds.length=n then ks ds ρ else .no
 | _=>.no
theorem qY {k n:Nat} (hc:c.X.calm=true) (h:T_ c ts kts) (hn:(iA ts c.X.env).length=n:=by rfl) (hst:(iA ts c.X.env).findIdx? (·.1)=none:=by rfl):JG c (.Tuple ts k pos) (ms n kts):=.of fun ρ d=>by
 cases d with
 | tuple ds =>
  refine Xw (Gk hc (h ρ ds) hn hst) fun v σ H Q h_14=>?_
  obtain ⟨H0,Hs0,la,Hs,f,r,q⟩:=h_14
  cases r with
  | @tuple p xs _ hq rs =>
   unfold ms at q
   by_cases hl:ds.length=n
   ·simp only [if_pos hl] at q
    exact ⟨p,xs,rfl,(lm.of (f.st.sub _ _ hq)),by rw [rs.length];exact hl,H0,Hs0,la,Hs,f,rs,q⟩
   ·simp only [if_neg hl] at q;exact q.elim
 | _=>exact fun pins s σ H v u Q I rv h_15=>by obtain ⟨H0,Hs0,la,Hs,f,r,q⟩:=h_15;exact q.elim
def yP (g:av->R D) (k:D->av->R av):av->R Fl:=fun ρ=>(g ρ).bind fun d=>match k d ρ with
 | .ok ρ'=>.ok (.nx ρ')
 | _=>.no
theorem yQ (h:JE c e g) (hg:JG c t kt) (hs:xI [t] e pos.line c.X.env=pure false:=by rfl) (hw:xJ [t] e c.X.env=pure none:=by rfl) (h1:(iA [t] c.X.env).map (·.2)=[qz t c.X.env]:=by rfl) :
  JS c (.Assign [t] e pos) (yP g kt):=.of fun ρ=>by
 cases hr:g ρ with
 | ok d =>
  refine Ab (M7 (h ρ) (hg ρ d) hs hw h1) fun D σ H h_16=>?_
  obtain ⟨H0,Hs0,la,Hs,f,q⟩:=h_16
  refine sE (k:=fun d=>match kt d ρ with | .ok ρ'=>.ok (.nx ρ') | _=>.no) f q fun d' v H1 Hs1 e1 s1 f1 r1=>?_
  rw [hr] at e1
  cases e1
  unfold yP at q
  rw [hr,bind_ok] at q
  refine ⟨H0,Hs0,la,Hs1,f1,r1,?_⟩
  cases hk:kt d ρ with
  | ok ρ'=>rw [hk] at q;exact fun σ' f'=>q σ' H1 Hs1 f'
  | ex x n=>rw [hk] at q;exact q.elim
  | no=>rw [hk] at q;exact q.elim
 | ex x n =>
  refine Ab (M7 (h ρ) (hg ρ .none) hs hw h1) fun D σ H h_17=>?_
  obtain ⟨H0,Hs0,la,Hs,f,q⟩:=h_17
  refine sE (k:=fun _=>.no) (D':=D) f (by unfold yP at q;rw [hr] at q ⊢;exact q) fun d' v H1 Hs1 e1 s1 f1 r1=>?_
  rw [hr] at e1;cases e1
 | no =>
  refine fun pins s σ H D I h_18=>?_
  obtain ⟨H0,Hs0,la,Hs,f,q⟩:=h_18
  unfold yP at q
  rw [hr] at q
  exact q.elim
end
end
section
def OZ (K:a7) (J:It) (ds:List D) (Hn Hs:Hp):Prop:=∀ H2 Hs2,dE Hn H2->dE Hs Hs2->dE Hs2 H2 ->
 (∀ i,i<ds.length->J.go i H2)/\(∀ i,ds.length<=i->J.stop i H2)/\∀ i x H3,i<ds.length->J.yld i H2 x H3->∃ d Hs3,ds[i]?=some d/\cJ H2 Hs2 H3 Hs3/\RD K Hs3 x d
theorem CF {K:a7}{Hn Hs:Hp}{a:ag}{vs:List V}{ds:List D} (h:mZ K Hn a vs) (r:RDs K Hs vs ds):OZ K (Wf K a) ds Hn Hs:=fun H2 Hs2 e1 e2 e3=>by
 have q:=e1.seq h
 refine ⟨fun i hi=>?_,fun i hi=>⟨vs,q,by rw [r.length];exact hi⟩,fun i x H3 hi y=>?_⟩
 ·have hi':i<vs.length:=by rw [r.length];exact hi
  exact ⟨vs,vs[i],q,aZ hi'⟩
 ·obtain ⟨rfl,y⟩:=y
  obtain ⟨d,k1,k2⟩:=r.get (y vs q)
  exact ⟨d,Hs2,k1,.refl e3,k2.same e2⟩
theorem N6 {K:a7}{Hn Hs:Hp}{a:ag}{vs:List V}{ds:List D} (h:lm K Hn a vs) (r:RDs K Hs vs ds):OZ K (Wg K a) ds Hn Hs:=fun H2 Hs2 e1 e2 e3=>by
 have q:=e1.tup h
 refine ⟨fun i hi=>?_,fun i hi=>⟨vs,q,by rw [r.length];exact hi⟩,fun i x H3 hi y=>?_⟩
 ·have hi':i<vs.length:=by rw [r.length];exact hi
  exact ⟨vs,vs[i],q,aZ hi'⟩
 ·obtain ⟨rfl,y⟩:=y
  obtain ⟨d,k1,k2⟩:=r.get (y vs q)
  exact ⟨d,Hs2,k1,.refl e3,k2.same e2⟩
theorem N7 {K:a7}{Hn Hs:Hp} (x:Str):OZ K (Ur x) (o8 x) Hn Hs:=fun H2 Hs2 e1 e2 e3=>by
 have hl:(o8 x).length=x.cps.size:=by simp [o8]
 refine ⟨fun i hi=>by rw [hl] at hi;exact hi,fun i hi=>by rw [hl] at hi;exact hi,fun i v H3 hi y=>?_⟩
 obtain ⟨rfl,c,k1,rfl⟩:=y
 refine ⟨.str ⟨#[c]⟩,Hs2,?_,.refl e3,.str _⟩
 unfold o8
 rw [aS,eI,k1]
 rfl
def qZ (lo:Int) (n:Nat):List D:=(bt n).map fun (k:Nat)=>eL (lo + k)
theorem N8 {K:a7}{Hn Hs:Hp} (lo:Int) (n:Nat):OZ K (VO lo n) (qZ lo n) Hn Hs:=fun H2 Hs2 e1 e2 e3=>by
 have hl:(qZ lo n).length=n:=by simp [qZ]
 refine ⟨fun i hi=>by rw [hl] at hi;exact hi,fun i hi=>by rw [hl] at hi;exact hi,fun i v H3 hi y=>?_⟩
 obtain ⟨rfl,rfl⟩:=y
 refine ⟨.int (lo + i),Hs2,?_,.refl e3,.int _⟩
 rw [hl] at hi
 unfold qZ
 rw [aS,JM hi]
 rfl
def j8 (n:Nat):List D->List D
 | []=>[]
 | d::r=>.tuple [.int n,d]::j8 (n + 1) r
theorem wa:∀ (ds:List D) (n i:Nat),(j8 n ds)[i]?=(ds[i]?).map fun d=>cY [.int ((n + i:Nat):Int),d]
 | [],_,_=>by simp [j8]
 | d::r,n,0=>by simp [j8]
 | d::r,n,i + 1=>by
  simp only [j8,jJ]
  rw [wa r (n + 1) i,show n + 1 + i=n + (i + 1) by omega]
theorem wc:∀ (ds:List D) (n:Nat),(j8 n ds).length=ds.length
 | [],_=>rfl
 | d::r,n=>by simp [j8,wc r]
theorem Qc {K:a7}{Hn Hs:Hp}{a:ag}{vs:List V}{ds:List D} (h:lm K Hn a vs) (r:RDs K Hs vs ds):OZ K (WI K a) (j8 0 ds) Hn Hs:=fun H2 Hs2 e1 e2 e3=>by
 have q:=e1.tup h
 have hl:=wc ds 0
 refine ⟨fun i hi=>?_,fun i hi=>⟨vs,q,by rw [r.length];omega⟩,fun i x H3 hi y=>?_⟩
 ·have hi':i<vs.length:=by rw [r.length];omega
  exact ⟨vs,vs[i],q,aZ hi'⟩
 ·obtain ⟨p,hp,rfl,y⟩:=y
  obtain ⟨x,k0,rfl⟩:=y vs q
  obtain ⟨d,k1,k2⟩:=r.get k0
  have st:=cJ.new (o:=.tup [.int i,x]) e3 hp
  refine ⟨.tuple [.int i,d],_,?_,st,.tuple aV (.cons (.int _) (.cons ((k2.same e2).same st.sh) .nil))⟩
  rw [wa,k1]
  simp
def xv:List D->List D->List D
 | x::xs,y::ys=>.tuple [x,y]::xv xs ys
 | _,_=>[]
theorem Ej:∀ (xs ys:List D) (i:Nat) (x y:D),xs[i]?=some x->ys[i]?=some y->(xv xs ys)[i]?=some (.tuple [x,y])
 | x::xs,y::ys,0,_,_,h1,h2=>by simp at h1 h2;subst h1 h2;rfl
 | _::xs,_::ys,i + 1,x,y,h1,h2=>by
  simp only [jJ] at h1 h2
  simp only [xv,jJ]
  exact Ej xs ys i x y h1 h2
 | [],_,_,_,_,h1,_=>by simp at h1
 | _::_,[],_,_,_,_,h2=>by simp at h2
theorem Ek:∀ (xs ys:List D),(xv xs ys).length=min xs.length ys.length
 | x::xs,y::ys=>by simp [xv,Ek xs ys]
 | [],_=>by simp [xv]
 | _::_,[]=>by simp [xv]
theorem T6 {K:a7}{Hn Hs:Hp}{a b:ag}{vs ws:List V}{ds es:List D} (h:lm K Hn a vs) (r:RDs K Hs vs ds) (h':lm K Hn b ws) (r':RDs K Hs ws es):OZ K (WJ K a b) (xv ds es) Hn Hs:=fun H2 Hs2 e1 e2 e3=>by
 have q:=e1.tup h
 have q':=e1.tup h'
 have hl:=Ek ds es
 refine ⟨fun i hi=>?_,fun i hi=>⟨vs,ws,q,q',by rw [r.length,r'.length];omega⟩,fun i x H3 hi y=>?_⟩
 ·have h1:i<vs.length:=by rw [r.length];omega
  have h2:i<ws.length:=by rw [r'.length];omega
  exact ⟨vs,ws,vs[i],ws[i],q,q',aZ h1,aZ h2⟩
 ·obtain ⟨p,hp,rfl,y⟩:=y
  obtain ⟨x,z,k0,k0',rfl⟩:=y vs ws q q'
  obtain ⟨d,k1,k2⟩:=r.get k0
  obtain ⟨d',k1',k2'⟩:=r'.get k0'
  have st:=cJ.new (o:=.tup [x,z]) e3 hp
  exact ⟨.tuple [d,d'],_,Ej ds es i d d' k1 k1',st,.tuple aV (.cons ((k2.same e2).same st.sh) (.cons ((k2'.same e2).same st.sh) .nil))⟩
inductive UM (K:a7) (cls:Str->ag) (E:XK) (ρ:av) (r:R (List D)) (σ:St) (H:Hp) (Q:It->Hp->Prop):Prop
 | mk (H0 Hs0:Hp) (la:Nat->Option ag) (Hs:Hp) (f:Fr K H0 Hs0 la ρ σ H Hs) (q:Fin K cls E H Hs r fun ds=>∀ J H' Hs' Hn,cJ H Hs H' Hs'->dE Hn H'->OZ K J ds Hn Hs'->Q J H'):UM K cls E ρ r σ H Q
def VY (K:a7) (cls:Str->ag) (E:XK) (ρ:av) (r:R (List D)):TI:=UM K cls E ρ r
inductive UN (K:a7) (cls:Str->ag) (E:XK) (ρ:av) (r:R (List D)) (σ:St) (H:Hp) (Q:It->Hp->Prop):Prop
 | mk (H0 Hs0:Hp) (la:Nat->Option ag) (Hs:Hp) (f:Fr K H0 Hs0 la ρ σ H Hs) (q:Fin K cls E H Hs r fun ds=>∀ J H' Hs',cJ H Hs H' Hs'->OZ K J ds Hs' Hs'->Q J H'):UN K cls E ρ r σ H Q
def Xx (K:a7) (cls:Str->ag) (E:XK) (ρ:av) (r:R (List D)):TI:=UN K cls E ρ r
structure JI (c:C) (tg it:b9) (g:av->R (List D)):Prop where of ::
 run:∀ ρ,PI c.X tg it (VY c.X.K c.cls c.E ρ (g ρ))
instance {c:C}{tg it:b9}{g:av->R (List D)}:CoeFun (JI c tg it g) (fun _=>∀ ρ,PI c.X tg it (VY c.X.K c.cls c.E ρ (g ρ))):=⟨JI.run⟩
structure LD (c:C) (tg it:b9) (g:av->R (List D)):Prop where of ::
 run:∀ ρ,PI c.X tg it (Xx c.X.K c.cls c.E ρ (g ρ))
instance {c:C}{tg it:b9}{g:av->R (List D)}:CoeFun (LD c tg it g) (fun _=>∀ ρ,PI c.X tg it (Xx c.X.K c.cls c.E ρ (g ρ))):=⟨LD.run⟩
theorem Kq {X:Cx}{tg e:b9}{t t':TI} (h:PI X tg e t) (m:∀ σ H Q,t' σ H Q->t σ H Q):PI X tg e t':=fun pins s σ H Q I q=>h pins s σ H Q I (m σ H Q q)
section
variable {c:C}{e a b l tg:b9}{g ga gb:av->R D}{pos p:Pos}{gs:av->R (List D)}
def yR:D->R (List D)
 | .list ds=>.ok ds
 | .tuple ds=>.ok ds
 | .str x=>.ok (o8 x)
 | _=>.no
def lK (g:av->R D):av->R (List D):=fun ρ=>(g ρ).bind yR
theorem fJ (h:JB c l g):JI c tg l (lK g):=.of fun ρ=>by
 cases hr:g ρ with
 | no=>exact fun pins s σ H Q I h_0=>by obtain ⟨H0,Hs0,la,Hs,f,q⟩:=h_0;exact by unfold lK at q;rw [hr] at q;exact q.elim
 | ex x n =>
  refine Kq (uL (h ρ)) fun σ H Q h_1=>?_
  obtain ⟨H0,Hs0,la,Hs,f,q⟩:=h_1
  refine one f q fun d v H1 Hs1 e1 s1 f1 r1=>?_
  rw [hr] at e1;cases e1
 | ok d =>
  cases d with
  | list ds =>
   refine Kq (uL (h ρ)) fun σ H Q h_2=>?_
   obtain ⟨H0,Hs0,la,Hs,f,q⟩:=h_2
   refine one f q fun d v H1 Hs1 e1 s1 f1 r1=>?_
   rw [hr] at e1;cases e1
   unfold lK at q
   rw [hr,bind_ok] at q
   obtain ⟨a,vs,rfl,qa,ra⟩:=r1.list f1.st.sub
   exact ⟨a,rfl,⟨vs,qa⟩,q _ H1 Hs1 H1 s1 (.refl _) (CF qa ra)⟩
  | tuple ds =>
   refine Kq (M9 (h ρ)) fun σ H Q h_3=>?_
   obtain ⟨H0,Hs0,la,Hs,f,q⟩:=h_3
   refine one f q fun d v H1 Hs1 e1 s1 f1 r1=>?_
   rw [hr] at e1;cases e1
   unfold lK at q
   rw [hr,bind_ok] at q
   obtain ⟨a,vs,rfl,qa,ra,_⟩:=r1.tuple f1.st.sub
   exact ⟨a,rfl,⟨vs,qa⟩,q _ H1 Hs1 H1 s1 (.refl _) (N6 qa ra)⟩
  | str x =>
   refine Kq (MG (h ρ)) fun σ H Q h_4=>?_
   obtain ⟨H0,Hs0,la,Hs,f,q⟩:=h_4
   refine one f q fun d v H1 Hs1 e1 s1 f1 r1=>?_
   rw [hr] at e1;cases e1
   unfold lK at q
   rw [hr,bind_ok] at q
   exact ⟨x,r1.str,q _ H1 Hs1 H1 s1 (.refl _) (N7 x)⟩
  | none=>exact fun pins s σ H Q I h_5=>by obtain ⟨H0,Hs0,la,Hs,f,q⟩:=h_5;exact by unfold lK at q;rw [hr] at q;exact q.elim
  | bool _=>exact fun pins s σ H Q I h_6=>by obtain ⟨H0,Hs0,la,Hs,f,q⟩:=h_6;exact by unfold lK at q;rw [hr] at q;exact q.elim
  | int _=>exact fun pins s σ H Q I h_7=>by obtain ⟨H0,Hs0,la,Hs,f,q⟩:=h_7;exact by unfold lK at q;rw [hr] at q;exact q.elim
  | dict _=>exact fun pins s σ H Q I h_8=>by obtain ⟨H0,Hs0,la,Hs,f,q⟩:=h_8;exact by unfold lK at q;rw [hr] at q;exact q.elim
theorem II (h:JE c l g):LD c tg l (lK g):=.of fun ρ=>by
 cases hr:g ρ with
 | no=>exact fun pins s σ H Q I h_9=>by obtain ⟨H0,Hs0,la,Hs,f,q⟩:=h_9;exact by unfold lK at q;rw [hr] at q;exact q.elim
 | ex x n =>
  refine Kq (uL (h ρ)) fun σ H Q h_10=>?_
  obtain ⟨H0,Hs0,la,Hs,f,q⟩:=h_10
  refine Cu f q fun d v H1 Hs1 e1 s1 f1 r1=>?_
  rw [hr] at e1;cases e1
 | ok d =>
  cases d with
  | list ds =>
   refine Kq (uL (h ρ)) fun σ H Q h_11=>?_
   obtain ⟨H0,Hs0,la,Hs,f,q⟩:=h_11
   refine Cu f q fun d v H1 Hs1 e1 s1 f1 r1=>?_
   rw [hr] at e1;cases e1
   unfold lK at q
   rw [hr,bind_ok] at q
   cases r1 with
   | list qa ra=>exact ⟨_,rfl,⟨_,f1.st.sub.seq qa⟩,q _ H1 Hs1 s1 (CF qa ra)⟩
  | tuple ds =>
   refine Kq (M9 (h ρ)) fun σ H Q h_12=>?_
   obtain ⟨H0,Hs0,la,Hs,f,q⟩:=h_12
   refine Cu f q fun d v H1 Hs1 e1 s1 f1 r1=>?_
   rw [hr] at e1;cases e1
   unfold lK at q
   rw [hr,bind_ok] at q
   cases r1 with
   | tuple qa ra=>exact ⟨_,rfl,⟨_,(lm.of (f1.st.sub _ _ qa))⟩,q _ H1 Hs1 s1 (N6 (.of qa) ra)⟩
  | str x =>
   refine Kq (MG (h ρ)) fun σ H Q h_13=>?_
   obtain ⟨H0,Hs0,la,Hs,f,q⟩:=h_13
   refine Cu f q fun d v H1 Hs1 e1 s1 f1 r1=>?_
   rw [hr] at e1;cases e1
   unfold lK at q
   rw [hr,bind_ok] at q
   cases r1 with
   | str _=>exact ⟨x,rfl,q _ H1 Hs1 s1 (N7 x)⟩
  | none=>exact fun pins s σ H Q I h_14=>by obtain ⟨H0,Hs0,la,Hs,f,q⟩:=h_14;exact by unfold lK at q;rw [hr] at q;exact q.elim
  | bool _=>exact fun pins s σ H Q I h_15=>by obtain ⟨H0,Hs0,la,Hs,f,q⟩:=h_15;exact by unfold lK at q;rw [hr] at q;exact q.elim
  | int _=>exact fun pins s σ H Q I h_16=>by obtain ⟨H0,Hs0,la,Hs,f,q⟩:=h_16;exact by unfold lK at q;rw [hr] at q;exact q.elim
  | dict _=>exact fun pins s σ H Q I h_17=>by obtain ⟨H0,Hs0,la,Hs,f,q⟩:=h_17;exact by unfold lK at q;rw [hr] at q;exact q.elim
theorem LD.i (h:LD c tg l gs):JI c tg l gs:=.of fun ρ=>Kq (h ρ) fun σ H Q ⟨H0,Hs0,la,Hs,f,q⟩=>⟨H0,Hs0,la,Hs,f,by
 cases hr:gs ρ with
 | ok ds=>rw [hr] at q;exact fun J H' Hs' s i=>q J H' Hs' Hs' s s.sub i
 | ex x n=>rw [hr] at q;exact q
 | no=>rw [hr] at q;exact q⟩
def GO:List D->R (List D)
 | [.int j]=>if -(2 ^ 62)<=j/\j<2 ^ 62 then .ok (qZ 0 j.toNat) else .no
 | _=>.no
def v3 (gs:av->R (List D)):av->R (List D):=fun ρ=>(gs ρ).bind GO
theorem mx (hg:Gl c.X "range") (hm:c.X.mg "range"=none) (ha:Ru c [a] gs) (hs:aw [a] c.X.env=[(false,da a c.X.env)]:=by rfl):LD c tg (.Call (.Name "range" p) [a] [] pos) (v3 gs):=.of fun ρ=>Kq (K0 hg hm (ha ρ) hs) fun σ H Q h_18=>by
 obtain ⟨H0,Hs0,la,Hs,f,q⟩:=h_18
 refine MU f q fun ds vs H1 Hs1 e1 s1 f1 r1=>?_
 unfold v3 at q
 rw [e1,bind_ok] at q
 unfold GO at q
 split at q
 ·rename_i j
  by_cases hj:-(2 ^ 62)<=j/\j<2 ^ 62
  ·rw [if_pos hj] at q
   obtain ⟨x,rfl,rx⟩:=r1.one
   exact ⟨j,by rw [rx.int],hj.1,hj.2,q _ H1 Hs1 s1 (N8 0 _)⟩
  ·rw [if_neg hj] at q;exact q.elim
 ·exact q.elim
def VZ:List D->R (List D)
 | [.tuple ds]=>.ok (j8 0 ds)
 | _=>.no
def GP (gs:av->R (List D)):av->R (List D):=fun ρ=>(gs ρ).bind VZ
theorem RDs.one {K:a7}{H:Hp}{xs:List V}{d:D} (h:RDs K H xs [d]):∃ x,xs=[x]/\RD K H x d:=by
 cases h with | cons a t=>cases t;exact ⟨_,rfl,a⟩
theorem RDs.two {K:a7}{H:Hp}{xs:List V}{d e:D} (h:RDs K H xs [d,e]):∃ x y,xs=[x,y]/\RD K H x d/\RD K H y e:=by
 cases h with | cons a t=>cases t with | cons b t=>cases t;exact ⟨_,_,rfl,a,b⟩
theorem yS {elts:List b9}{x1}{tpos:Pos} (hg:Gl c.X "enumerate") (hm:c.X.mg "enumerate"=none) (ha:Bf c [a] gs) (hs:aw [a] c.X.env=[(false,da a c.X.env)]:=by rfl):LD c (.Tuple elts x1 tpos) (.Call (.Name "enumerate" p) [a] [] pos) (GP gs):=.of fun ρ=>Kq (PY hg hm (ha ρ) hs) fun σ H Q h_20=>by
 obtain ⟨H0,Hs0,la,Hs,f,q⟩:=h_20
 refine yN f q fun ds vs H1 Hs1 e1 s1 f1 r1=>?_
 unfold GP at q
 rw [e1,bind_ok] at q
 unfold VZ at q
 split at q
 ·obtain ⟨x,rfl,rx⟩:=r1.one
  cases rx with
  | tuple qa ra=>exact ⟨_,_,rfl,(lm.of (f1.st.sub _ _ qa)),q _ H1 Hs1 s1 (Qc (.of qa) ra)⟩
 ·exact q.elim
def zp:List D->R (List D)
 | [.tuple ds,.tuple es]=>.ok (xv ds es)
 | _=>.no
def Qd (gs:av->R (List D)):av->R (List D):=fun ρ=>(gs ρ).bind zp
theorem Qe {elts:List b9}{x1}{tpos:Pos} (hg:Gl c.X "zip") (hm:c.X.mg "zip"=none) (ha:Bf c [a,b] gs) (hs:aw [a,b] c.X.env=[(false,da a c.X.env),(false,da b c.X.env)]:=by rfl) (hs2:aw [b] c.X.env=[(false,da b c.X.env)]:=by rfl) :
  LD c (.Tuple elts x1 tpos) (.Call (.Name "zip" p) [a,b] [] pos) (Qd gs):=.of fun ρ=>Kq (SW hg hm (ha ρ) hs hs2) fun σ H Q h_21=>by
 obtain ⟨H0,Hs0,la,Hs,f,q⟩:=h_21
 refine yN f q fun ds vs H1 Hs1 e1 s1 f1 r1=>?_
 unfold Qd at q
 rw [e1,bind_ok] at q
 unfold zp at q
 split at q
 ·obtain ⟨x,y,rfl,rx,ry⟩:=r1.two
  cases rx with
  | tuple qa ra =>
   cases ry with
   | tuple qb rb=>exact ⟨_,_,_,_,rfl,(lm.of (f1.st.sub _ _ qa)),(lm.of (f1.st.sub _ _ qb)),q _ H1 Hs1 s1 (T6 (.of qa) ra (.of qb) rb)⟩
 ·exact q.elim
end
end
section
inductive Xy (K:a7) (cls:Str->ag) (E:XK) (ρ:av) (r:R D) (σ:St) (H:Hp) (Q:VK):Prop
 | mk (H0 Hs0:Hp) (la:Nat->Option ag) (Hs:Hp) (f:Fr K H0 Hs0 la ρ σ H Hs) (q:Fin K cls E H Hs r fun d=>∀ a o H' Hs',cJ H Hs H' Hs'->H' a=none->m_ K Hs' o d->Q (.ref a) (upd H' a o)):Xy K cls E ρ r σ H Q
def TN (K:a7) (cls:Str->ag) (E:XK) (ρ:av) (r:R D):TE:=Xy K cls E ρ r
structure JN (c:C) (e:b9) (g:av->R D):Prop where of ::
 run:∀ ρ,PE c.X e (TN c.X.K c.cls c.E ρ (g ρ))
instance {c:C}{e:b9}{g:av->R D}:CoeFun (JN c e g) (fun _=>∀ ρ,PE c.X e (TN c.X.K c.cls c.E ρ (g ρ))):=⟨JN.run⟩
section
variable {c:C}{e a b l tg:b9}{g ga gb:av->R D}{pos p:Pos}{gs:av->R (List D)}{es:List b9}{x:Str}
theorem WU {K:a7}{cls:Str->ag}{E:XK}{ρ:av}{r:R D}{σ:St}{H:Hp}{Q:VK} (q:TR K cls E ρ r σ H Q):TN K cls E ρ r σ H Q:=by
 obtain ⟨H0,Hs0,la,Hs,f,q⟩:=q
 refine ⟨H0,Hs0,la,Hs,f,?_⟩
 cases r with
 | ok d=>exact fun a o H' Hs' s n r=>q _ _ _ (s.trans (.new s.sub n)) (r.share (s.sub.free n))
 | ex x n=>exact q
 | no=>exact q
theorem JN.je (h:JN c e g):JE c e g:=.of fun ρ=>qy (h ρ) fun σ H Q q=>WU q
theorem q_ (h:Bf c es gs):JN c (.List es pos) (cc gs .list):=.of fun ρ=>qy (mj (h ρ)) fun σ H Q h_0=>by
 obtain ⟨H0,Hs0,la,Hs,f,q⟩:=h_0
 refine yN f q fun ds vs H1 Hs1 e1 s1 f1 r1=>?_
 unfold cc at q
 rw [e1,bind_ok] at q
 by_cases hl:ds.length<=1000
 ·rw [if_pos hl] at q
  exact ⟨bq (bY (by rw [r1.length];exact hl)),fun p hp=>q p _ H1 Hs1 s1 hp (.lst r1)⟩
 ·rw [if_neg hl] at q;exact q.elim
theorem IJ:JN c (.Dict [] [] pos) (fun _=>.ok (.dict [])):=.of fun ρ=>qy Mt fun σ H Q h_1=>by obtain ⟨H0,Hs0,la,Hs,f,q⟩:=h_1;exact fun p hp=>q p _ H Hs (.refl f.st.sub) hp (.dK .nil)
def gQ (i:Nat) (g:av->R D):av->R Fl:=fun ρ=>(g ρ).bind fun d=>.ok (.nx (ρ.set i (.own d)))
theorem sN {K:a7}{cls:Str->ag}{E:XK}{ρ:av}{r:R D}{k:D->R Fl}{σ:St}{H:Hp}{H0 Hs0 Hs:Hp}{la:Nat->Option ag}{D':tP}{Q:V->Hp->Prop} (f:Fr K H0 Hs0 la ρ σ H Hs)
  (h:pA K cls E H0 Hs0 la D' (r.bind k)) (m:∀ d a o H' Hs',r=.ok d->Fr K H0 Hs0 la ρ σ H' Hs'->H' a=none->m_ K Hs' o d->Q (.ref a) (upd H' a o)):TN K cls E ρ r σ H Q:=by
 refine ⟨H0,Hs0,la,Hs,f,?_⟩
 cases r with
 | ok d=>exact fun a o H' Hs' s n r=>m d a o H' Hs' rfl (f.step s) n r
 | ex c n=>exact fun H' Hs' s=>h H' Hs' (f.st.trans s)
 | no=>exact h
theorem jR (i:Nat) {pos':Pos} (h:JN c e g) (hN:c.X.N.Nodup) (hi:c.X.N[i]?=some x:=by rfl) (hx:R5 c.X.env.scope x:=by first | exact gP rfl | exact e8 rfl) (hs:ig e (some (.Name x pos')) pos.line c.X.env=pure false:=by rfl)
  (hf:c.X.fn x=true\/c.X.env.scope.names.lookup x=some .local:=by first | exact .inl rfl | exact .inr rfl | assumption):JS c (.Assign [.Name x pos'] e pos) (gQ i g):=.of fun ρ=>Ab (C6 hN hi hx (h ρ) hs hf) fun D σ H h_2=>by
 obtain ⟨H0,Hs0,la,Hs,f,q⟩:=h_2
 refine sN f q fun d a o H1 Hs1 e1 f1 n1 r1=>?_
 unfold gQ at q
 rw [e1,bind_ok] at q
 exact q _ _ Hs1 (f1.setO i n1 r1)
def Kr {α:Type}:R α->R α
 | .ex _ _=>.no
 | r=>r
theorem IK {α:Type}{r:R α}{a:α} (h:Kr r=.ok a):r=.ok a:=by
 cases r<;>first | exact h | cases h
def i6 (f:D->R (Option D)):List D->R (List D)
 | []=>.ok []
 | d::r=>(f d).bind fun o=>(i6 f r).bind fun ys=>.ok (match o with
  | some y=>y::ys
  | none=>ys)
theorem yT {f:D->R (Option D)}{d:D}{r ys:List D} (h:i6 f (d::r)=.ok ys):∃ o zs,f d=.ok o/\i6 f r=.ok zs/\ys=o.toList++zs:=by
 unfold i6 at h
 cases hf:f d with
 | ok o =>
  rw [hf,bind_ok] at h
  cases hm:i6 f r with
  | ok zs =>
   rw [hm,bind_ok] at h
   cases h
   cases o<;>exact ⟨_,zs,rfl,rfl,rfl⟩
  | ex x n=>rw [hm] at h;cases h
  | no=>rw [hm] at h;cases h
 | ex x n=>rw [hf] at h;cases h
 | no=>rw [hf] at h;cases h
def Qf:Sl->Sl
 | .own d=>.lck d
 | .ow2 _=>.no
 | s=>s
def oM (nt:Nat) (ix:List Nat) (ρ:av):av:=bi nt Sl.no++ix.map fun i=>Qf ((ρ[i]?).getD .no)
def UO (nt:Nat):D->av->R av:=match nt with
 | 1=>bX 0
 | 2=>ms 2 (cC (bX 0) (cC (bX 1) o9))
 | _=>fun _ _=>.no
def i_ (nt:Nat) (ρ:av) (gt:av->R Bool) (ge:av->R D):D->R (Option D):=fun d=>Kr ((UO nt d ρ).bind fun ρ'=>(gt ρ').bind fun b=>if b then (ge ρ').bind fun y=>.ok (some y) else .ok none)
def fo (nt:Nat) (ix:List Nat) (gi:av->R (List D)) (gt:av->R Bool) (ge:av->R D):av->R D:=fun ρ=>(gi ρ).bind fun ds=>if ds.length<=1000 then (i6 (i_ nt (oM nt ix ρ) gt ge) ds).bind fun ys=>.ok (.list ys) else .no
structure UP (c:C) (ifs:List b9) (g:av->R Bool):Prop where of ::
 run:∀ ρ,OX c.X ifs (LB c.X.K c.cls c.E ρ (g ρ))
instance {c:C}{ifs:List b9}{g:av->R Bool}:CoeFun (UP c ifs g) (fun _=>∀ ρ,OX c.X ifs (LB c.X.K c.cls c.E ρ (g ρ))):=⟨UP.run⟩
theorem fj:UP c [] (fun _=>.ok true):=.of fun ρ pins s σ H Q I h_3=>by obtain ⟨H0,Hs0,la,Hs,f,q⟩:=h_3;exact PR pins s σ H Q I (q H Hs (.refl f.st.sub))
theorem rZ {gt:av->R Bool} (h:JT c e gt):UP c [e] gt:=.of fun ρ=>PU (h ρ)
def Ks (K:a7) (nt:Nat):TG:=match nt with
 | 1=>wN 0
 | _=>Ss K 2 (L2.aa (wN 0) (L2.aa (wN 1) L2.aA))
theorem CG {K:a7}{nt:Nat} (h:nt=1\/nt=2):Rn nt (Ks K nt):=by
 rcases h with rfl | rfl
 ·exact Mv (by decide)
 ·exact PV (by decide) (by decide)
theorem El {K:a7}{nt:Nat}{H0 Hs0 H Hs:Hp}{la:Nat->Option ag}{ρ ρ':av}{σ:St}{v:V}{d:D}{Q:St->Hp->Prop} (hnt:nt=1\/nt=2) (f:Fr K H0 Hs0 la ρ σ H Hs) (r:RD K Hs v d) (hb:UO nt d ρ=.ok ρ')
  (q:∀ σ',Fr K H0 Hs0 la ρ' σ' H Hs->Q σ' H):Ks K nt v σ H Q:=by
 rcases hnt with rfl | rfl
 ·cases hb
  exact q _ (f.set 0 r)
 ·unfold UO ms at hb
  simp only at hb
  cases r with
  | @tuple p xs ds hq rs =>
   simp only at hb
   split at hb
   ·rename_i hl
    cases rs with
    | nil=>cases hl
    | cons r1 rs =>
     cases rs with
     | nil=>cases hl
     | cons r2 rs =>
      cases rs with
      | nil =>
       cases hb
       exact ⟨p,_,rfl,(lm.of (f.st.sub _ _ hq)),rfl,_,_,rfl,_,_,rfl,rfl,q _ ((f.set 0 r1).set 1 r2)⟩
      | cons _ _=>simp at hl
   ·cases hb
  | none=>cases hb
  | bool _=>cases hb
  | int _=>cases hb
  | str _=>cases hb
  | list _ _=>cases hb
  | dictK _ _=>cases hb
  | dictT _ _ _=>cases hb
  | dictF _ _ _=>cases hb
theorem Fr.block {K:a7}{H0 Hs0 H Hs:Hp}{la:Nat->Option ag}{ρ:av}{σ:St} (f:Fr K H0 Hs0 la ρ σ H Hs) (nt:Nat) (ix:List Nat):∃ la',Fr K H Hs la' (oM nt ix ρ) (L2.jC nt ix σ) H Hs:=by
 have lk:∀ (j:Nat) (d:D),(oM nt ix ρ)[j]?=some (Sl.lck d)->∃ a o,(L2.jC nt ix σ)[j]?=some (some (V.ref a))/\H a=some o/\Hs a=none/\m_ K Hs o d:=fun j d h=>by
  unfold oM at h
  by_cases hj:j<nt
  ·rw [bQ (by simpa using hj),bO,if_pos hj] at h;cases h
  ·have hj:nt<=j:=by omega
   rw [bj (by simpa using hj),cX,aS] at h
   cases hi:ix[j - nt]? with
   | none=>rw [hi] at h;cases h
   | some i =>
    rw [hi] at h
    have at_:∀ v,σ[i]?=some (some v)->(L2.jC nt ix σ)[j]?=some (some v):=fun v k1=>by
     unfold L2.jC
     rw [bj (by simpa using hj),cX,aS,hi]
     simp [k1]
    cases hr:ρ[i]? with
    | none=>simp only [dH,hr,gZ,Qf] at h;cases h
    | some s =>
     simp only [dH,hr,kL] at h
     cases s with
     | own d' =>
      cases h
      obtain ⟨a,o,k1,k2,k3,k4,k5⟩:=f.ow i d hr
      exact ⟨a,o,at_ _ k1,k2,k3,k5⟩
     | lck d' =>
      cases h
      obtain ⟨a,o,k1,k2,k3,k4,k5,k6⟩:=f.lk i d hr
      exact ⟨a,o,at_ _ k1,k3,k4,k6⟩
     | no=>cases h
     | shr _=>cases h
     | ow2 _=>cases h
 have no2:∀ (j:Nat) (d:List (List D)),¬ (oM nt ix ρ)[j]?=some (Sl.ow2 d):=fun j d h=>by
  unfold oM at h
  by_cases hj:j<nt
  ·rw [bQ (by simpa using hj),bO,if_pos hj] at h;cases h
  ·have hj:nt<=j:=by omega
   rw [bj (by simpa using hj),cX,aS] at h
   cases hi:ix[j - nt]? with
   | none=>rw [hi] at h;cases h
   | some i =>
    rw [hi] at h
    cases hr:ρ[i]? with
    | none=>simp only [dH,hr,gZ,Qf] at h;cases h
    | some s =>
     simp only [dH,hr,kL] at h
     cases s<;>cases h
 refine ⟨fun j=>match (oM nt ix ρ)[j]?,(L2.jC nt ix σ)[j]? with
  | some (Sl.lck _),some (some (V.ref a))=>some a
  | _,_=>none,.refl f.st.sub,by simp [oM,L2.jC],fun j d h=>?_,fun j d h=>?_,fun j d h=>?_,fun j k d1 d2 a h1 h2 _ _=>?_,fun j a h=>?_,fun j d h=>(no2 j d h).elim,fun j k d1 d2 h1 _=>(no2 j d1 h1).elim⟩
 case refine_3 =>
  obtain ⟨a,o,k1,k2,k3,k4⟩:=lk j d h
  exact ⟨a,o,k1,by rw [h,k1],k2,k3,k2,k4⟩
 case refine_5 =>
  split at h
  ·rename_i d a' h1 h2
   cases h
   obtain ⟨a',o,k1,k2,_⟩:=lk j d h1
   rw [h2] at k1
   cases k1
   exact ⟨o,k2⟩
  ·cases h
 all_goals
  unfold oM at *
 ·have h:=h
  by_cases hj:j<nt
  ·rw [bQ (by simpa using hj),bO,if_pos hj] at h;cases h
  ·have hj:nt<=j:=by omega
   rw [bj (by simpa using hj),cX,aS] at h
   cases hi:ix[j - nt]? with
   | none=>rw [hi] at h;cases h
   | some i =>
    rw [hi] at h
    cases hr:ρ[i]? with
    | none=>simp only [dH,hr,gZ,Qf] at h;cases h
    | some s =>
     simp only [dH,hr,kL] at h
     cases s with
     | shr d' =>
      cases h
      obtain ⟨v,k1,k2⟩:=f.sh i d hr
      refine ⟨v,?_,k2⟩
      unfold L2.jC
      rw [bj (by simpa using hj),cX,aS,hi]
      simp [k1]
     | no=>cases h
     | own _=>cases h
     | lck _=>cases h
     | ow2 _=>cases h
 ·have h:=h
  by_cases hj:j<nt
  ·rw [bQ (by simpa using hj),bO,if_pos hj] at h;cases h
  ·have hj:nt<=j:=by omega
   rw [bj (by simpa using hj),cX,aS] at h
   cases hi:ix[j - nt]? with
   | none=>rw [hi] at h;cases h
   | some i =>
    rw [hi] at h
    cases hr:ρ[i]? with
    | none=>simp only [dH,hr,gZ,Qf] at h;cases h
    | some s =>
     simp only [dH,hr,kL] at h
     cases s<;>cases h
 ·have h1:=h1
  by_cases hj:j<nt
  ·rw [bQ (by simpa using hj),bO,if_pos hj] at h1;cases h1
  ·have hj:nt<=j:=by omega
   rw [bj (by simpa using hj),cX,aS] at h1
   cases hi:ix[j - nt]? with
   | none=>rw [hi] at h1;cases h1
   | some i =>
    rw [hi] at h1
    cases hr:ρ[i]? with
    | none=>simp only [dH,hr,gZ,Qf] at h1;cases h1
    | some s =>
     simp only [dH,hr,kL] at h1
     cases s<;>cases h1
theorem yU {f:D->R (Option D)} (h:∀ d c n,f d≠.ex c n):∀ (ds:List D) (c:Str) (n:Option D),i6 f ds≠.ex c n
 | [],c,n=>fun e=>by cases e
 | d::r,c,n=>fun e=>by
  unfold i6 at e
  cases hf:f d with
  | ok o =>
   rw [hf,bind_ok] at e
   cases hm:i6 f r with
   | ok zs=>rw [hm,bind_ok] at e;cases e
   | ex x k=>exact yU h r x k hm
   | no=>rw [hm] at e;cases e
  | ex x k=>exact h d x k hf
  | no=>rw [hf] at e;cases e
theorem Em (nt:Nat) (ρ:av) (gt:av->R Bool) (ge:av->R D) (d:D) (c:Str) (n:Option D):i_ nt ρ gt ge d≠.ex c n:=by
 unfold i_ Kr
 split<;>first | exact fun e=>by cases e | skip
 rename_i h
 exact fun e=>h c n e
inductive Xz (K:a7) (f:D->R (Option D)) (ds ys:List D) (H1 Hs1:Hp) (i m:Nat) (acc:List V) (H':Hp):Prop
 | mk (done bK zs ya Hs':_) (h0:ds=done++bK) (h1:done.length=i) (h2:bK.length=m) (h3:cJ H1 Hs1 H' Hs') (h4:RDs K Hs' acc ya) (h5:ya.length<=i) (h6:i6 f bK=.ok zs) (h7:ys=ya++zs):Xz K f ds ys H1 Hs1 i m acc H'
theorem IL {K:a7}{cls:Str->ag}{E:XK}{nt:Nat}{ix:List Nat}{gi:av->R (List D)}{gt:av->R Bool}{ge:av->R D}{ρ:av}{σ:St}{H:Hp}{Q:VK} (hnt:nt=1\/nt=2)
  (q:TN K cls E ρ (fo nt ix gi gt ge ρ) σ H Q) :
  Mu nt ix (VY K cls E ρ (gi ρ)) (Ks K nt) (fun σ H Q=>∃ ρ',LB K cls E0 ρ' (gt ρ') σ H Q) (fun σ H Q=>∃ ρ',TR K cls E0 ρ' (ge ρ') σ H Q) σ H Q:=by
 obtain ⟨H0,Hs0,la,Hs,f,q⟩:=q
 refine ⟨H0,Hs0,la,Hs,f,?_⟩
 unfold fo at q
 cases hi:gi ρ with
 | no=>rw [hi] at q;exact q
 | ex x n=>rw [hi] at q;exact q
 | ok ds =>
  rw [hi,bind_ok] at q
  intro J H1 Hs1 Hn s1 sn it
  by_cases hl:ds.length<=1000
  ·rw [if_pos hl] at q
   cases hm:i6 (i_ nt (oM nt ix ρ) gt ge) ds with
   | no=>rw [hm] at q;exact q.elim
   | ex x n=>exact (yU (Em _ _ _ _) _ _ _ hm).elim
   | ok ys =>
    rw [hm,bind_ok] at q
    obtain ⟨lb,fb⟩:=(f.step s1).block nt ix
    refine ⟨Xz K (i_ nt (oM nt ix ρ) gt ge) ds ys H1 Hs1,
     ⟨ds.length,[],ds,ys,[],Hs1,rfl,rfl,rfl,.refl s1.sub,.nil,eB _,hm,rfl⟩,?_⟩
    rintro i m acc H' ⟨done,bK,zs,ya,Hs',hds,hdl,hrl,st,ra,yl,hz,hy⟩
    obtain ⟨igo,istop,iyld⟩:=it H' Hs' (sn.trans st.all) st.sh st.sub
    cases bK with
    | nil =>
     left
     cases hz
     rw [cj] at hds hy
     subst hy hds
     exact ⟨istop i (by omega),fun p hp=>q p _ H' Hs' (s1.trans st) hp (.lst ra)⟩
    | cons d bK =>
     right
     have hil:i<ds.length:=by rw [hds,aL,aO];omega
     refine ⟨igo i hil,bY (by rw [ra.length];omega),fun x H2 hyl=>?_⟩
     obtain ⟨d',Hs2,hd,s2,r2⟩:=iyld i x H2 hil hyl
     have hdd:d'=d:=by
      rw [hds,bj (by omega)] at hd
      simp [hdl] at hd
      exact hd.symm
     subst hdd
     obtain ⟨o,zs',hf,hz',rfl⟩:=yT hz
     have hf:=IK hf
     cases hb:UO nt d' (oM nt ix ρ) with
     | no=>rw [hb] at hf;cases hf
     | ex x n=>rw [hb] at hf;cases hf
     | ok ρ' =>
      rw [hb,bind_ok] at hf
      refine El hnt ((fb.step st).step s2) r2 hb fun σ2 f2=>⟨ρ',?_⟩
      refine ⟨_,_,_,Hs2,f2,?_⟩
      cases ht:gt ρ' with
      | no=>rw [ht] at hf;cases hf
      | ex x n=>rw [ht] at hf;cases hf
      | ok b =>
       rw [ht,bind_ok] at hf
       intro H3 Hs3 s3
       cases b with
       | false =>
        rw [if_neg aN] at hf
        cases hf
        refine Cb ⟨bK.length,by rw [<- hrl];simp,done++[d'],bK,zs',ya,Hs3,by rw [hds];simp,by simp [hdl],rfl,(st.trans s2).trans s3,ra.same (s2.trans s3).sh,by omega,hz',by simpa using hy⟩
       | true =>
        rw [if_pos rfl] at hf
        refine Gw ⟨ρ',_,_,_,Hs3,f2.step s3,?_⟩
        cases he:ge ρ' with
        | no=>rw [he] at hf;cases hf
        | ex x n=>rw [he] at hf;cases hf
        | ok y =>
         rw [he,bind_ok] at hf
         cases hf
         intro v H4 Hs4 s4 r4
         exact ⟨bK.length,by rw [<- hrl];simp,done++[d'],bK,zs',ya++[y],Hs4,by rw [hds];simp,by simp [hdl],rfl,((st.trans s2).trans s3).trans s4,(ra.same ((s2.trans s3).trans s4).sh).append (.cons r4 .nil),by simp;omega,hz',by rw [hy];simp⟩
  ·rw [if_neg hl] at q;exact q.elim
def C.comp (c:C) (N':List Str) (scope:el) (cl:List (Str×ag)) (A:ag) (s₀:af) (H₀:Hp) (ex:List ag) (pn:List (ag×Obj)):C:=⟨cP c.X N' scope cl A s₀ H₀ ex pn,c.cls,E0⟩
variable {elt iter:b9}{ifs:List b9}{scope:el}{N':List Str}{nt:Nat}{ix:List Nat}{gi:av->R (List D)}{gt:av->R Bool}{ge:av->R D}
def v4 (c:C) (N':List Str) (scope:el) (nt:Nat) (tg:b9) (ifs:List b9) (elt:b9) (gt:av->R Bool) (ge:av->R D):Prop :=
 ∀ cl A s₀ H₀ ex pn,PG (c.comp N' scope cl A s₀ H₀ ex pn).X tg (Ks c.X.K nt)/\UP (c.comp N' scope cl A s₀ H₀ ex pn) ifs gt/\JE (c.comp N' scope cl A s₀ H₀ ex pn) elt ge
theorem v4.at (h:v4 c N' scope nt tg ifs elt gt ge):∀ cl A s₀ H₀ ex pn,PG (cP c.X N' scope cl A s₀ H₀ ex pn) tg (Ks c.X.K nt)/\OX (cP c.X N' scope cl A s₀ H₀ ex pn) ifs (fun σ H Q=>∃ ρ',LB c.X.K c.cls E0 ρ' (gt ρ') σ H Q) /\
  PE (cP c.X N' scope cl A s₀ H₀ ex pn) elt (fun σ H Q=>∃ ρ',TR c.X.K c.cls E0 ρ' (ge ρ') σ H Q):=fun cl A s₀ H₀ ex pn=>by
 obtain ⟨h1,h2,h3⟩:=h cl A s₀ H₀ ex pn
 exact ⟨h1,fun pins s σ H Q I h_4=>by obtain ⟨ρ',q⟩:=h_4;exact h2 ρ' pins s σ H Q I q,fun pins s σ H Q I h_5=>by obtain ⟨ρ',q⟩:=h_5;exact h3 ρ' pins s σ H Q I q⟩
theorem gU (nt:Nat) (hnt:nt=1\/nt=2) (hc:c.X.calm=true) (S:o0 c.X scope N' nt ix) (hi:JI c tg iter gi) (hb:v4 c N' scope nt tg ifs elt gt ge) (hs:∀ x,eE iter c.X.env x=pure x:=by intro _;rfl) :
  JN c (.ListComp elt [⟨tg,iter,ifs,0⟩] scope pos) (fo nt ix gi gt ge):=.of fun ρ=>qy (DX hc S (CG hnt) (hi ρ) hb.at hs) fun σ H Q q=>IL hnt q
theorem iG (i:Nat) {spos py:Pos} (nt:Nat) (hnt:nt=1\/nt=2) (hN:c.X.N.Nodup) (hc:c.X.calm=true) (S:o0 c.X scope N' nt ix) (hi:JI c tg iter gi) (hb:v4 c N' scope nt tg ifs elt gt ge)
  (hiN:c.X.N[i]?=some x:=by rfl) (hy:c.X.env.scope.names.lookup x=some .local:=by rfl)
  (hsw:ig (.ListComp elt [⟨tg,iter,ifs,0⟩] scope pos) (some (.Name x py)) spos.line c.X.env=pure true:=by rfl)
  (hs:∀ x,eE iter c.X.env x=pure x:=by intro _;rfl):JS c (.Assign [.Name x py] (.ListComp elt [⟨tg,iter,ifs,0⟩] scope pos) spos) (gQ i (fo nt ix gi gt ge)):=.of fun ρ=>Ab (Gz hN hiN hy hc S (CG hnt) (hi ρ) hb.at hsw hs) fun D σ H h_6=>by
 obtain ⟨H0,Hs0,la,Hs,f,q⟩:=h_6
 refine IL (Q:=fun x H1=>D.nx (σ.set i (some x)) H1) hnt (sN f q fun d a o H1 Hs1 e1 f1 n1 r1=>?_)
 unfold gQ at q
 rw [e1,bind_ok] at q
 exact q _ _ Hs1 (f1.setO i n1 r1)
end
end
section
theorem RA {X:Cx}{st:cr}{t:TS} (h:PS X.nox st t):PS X st t:=fun pins s σ H D I hw =>
 bc (h pins s σ H D (I.wish _) hw) (fun _ _ q=>q.unwish) fun _ _ z=>eN z
def C.nox (c:C):C:=⟨c.X.nox,c.cls,E0⟩
def iO (k:D->av->R av) (b:av->R Fl):List D->av->R Fl
 | [],ρ=>.ok (.nx ρ)
 | d::r,ρ=>match k d ρ with
  | .ok ρ1=>match b ρ1 with
   | .ok (.nx ρ')=>iO k b r ρ'
   | .ok (.ct ρ')=>iO k b r ρ'
   | .ok (.bk ρ')=>.ok (.nx ρ')
   | .ok (.rt d)=>.ok (.rt d)
   | _=>.no
  | _=>.no
def CH (i:Nat) (ρ:av):av:=match ρ[i]? with
 | some (Sl.own d)=>ρ.set i (.lck d)
 | _=>ρ
def yV (i:Nat) (ρ0 ρ:av):av:=match ρ0[i]?,ρ[i]? with
 | some (Sl.own _),some (Sl.lck d)=>ρ.set i (.own d)
 | _,_=>ρ
def XS (i:Nat) (ρ0:av):R Fl->R Fl
 | .ok (.nx ρ)=>.ok (.nx (yV i ρ0 ρ))
 | .ok (.bk ρ)=>.no
 | .ok (.ct ρ)=>.no
 | r=>r
section
variable {K:a7}{cls:Str->ag}{E:XK}
inductive XA (K:a7) (cls:Str->ag) (E:XK) (H0 Hs0:Hp) (la:Nat->Option ag) (D':tP) (kt:D->av->R av) (gb:av->R Fl) (ds:List D) (i m:Nat) (σ:St) (H:Hp):Prop
 | mk (done bK ρ Hs:_) (h0:ds=done++bK) (h1:done.length=i) (h2:bK.length=m) (h3:Fr K H0 Hs0 la ρ σ H Hs) (h4:pA K cls E H0 Hs0 la D' (iO kt gb bK ρ)):XA K cls E H0 Hs0 la D' kt gb ds i m σ H
theorem N9 {J:It}{Hn H0 Hs0:Hp}{la:Nat->Option ag}{ds:List D}{kt:D->av->R av}{gb:av->R Fl}{ρ:av}{σ:St}{H Hs:Hp}{D':tP}{tg:TG}{tb:TS}
  (it:OZ K J ds Hn Hs0) (hn:dE Hn H0) (f:Fr K H0 Hs0 la ρ σ H Hs)
  (htg:∀ ρ d v σ H Q,T5 K ρ d (kt d ρ) v σ H Q->tg v σ H Q) (htb:∀ ρ D σ H,SR K cls E0 ρ (gb ρ) D σ H->tb D σ H)
  (q:pA K cls E H0 Hs0 la D' (iO kt gb ds ρ)) :
  Wj tg tb D' σ J H:=by
 refine ⟨XA K cls E H0 Hs0 la D' kt gb ds,⟨ds.length,[],ds,ρ,Hs,rfl,rfl,rfl,f,q⟩,?_⟩
 rintro i m σ H ⟨done,bK,ρ,Hs,hds,hdl,hrl,f,q⟩
 obtain ⟨igo,istop,iyld⟩:=it H Hs (hn.trans f.st.all) f.st.sh f.st.sub
 cases bK with
 | nil =>
  rw [cj] at hds
  subst hds
  exact .inl ⟨istop i (by omega),q σ H Hs f⟩
 | cons d bK =>
  have hil:i<ds.length:=by rw [hds,aL,aO];omega
  refine .inr ⟨igo i hil,fun σ' H'=>∃ ρ' Hs',Fr K H0 Hs0 la ρ' σ' H' Hs'/\pA K cls E H0 Hs0 la D' (iO kt gb bK ρ'),fun σ' H' ⟨ρ',Hs',f',q'⟩=>⟨bK.length,by rw [<- hrl];simp,done++[d],bK,ρ',Hs',by rw [hds];simp,by simp [hdl],rfl,f',q'⟩,fun x H2 hyl=>?_⟩
  obtain ⟨d',Hs2,hd,s2,r2⟩:=iyld i x H2 hil hyl
  have hdd:d'=d:=by
   rw [hds,bj (by omega)] at hd
   simp [hdl] at hd
   exact hd.symm
  subst hdd
  unfold iO at q
  refine htg ρ d' x σ H2 _ ⟨H0,Hs0,la,Hs2,f.step s2,r2,?_⟩
  cases hk:kt d' ρ with
  | ex c n=>rw [hk] at q;exact q
  | no=>rw [hk] at q;exact q
  | ok ρ1 =>
   rw [hk] at q
   intro σ2 f2
   refine htb ρ1 _ σ2 H2 ⟨H0,Hs0,la,Hs2,f2,?_⟩
   cases hg:gb ρ1 with
   | no=>simp only [hg] at q;exact q.elim
   | ex c n=>simp only [hg] at q;exact q.elim
   | ok fl =>
    simp only [hg] at q
    cases fl with
    | nx ρ'=>exact fun σ' H' Hs' f'=>⟨ρ',Hs',f',q⟩
    | ct ρ'=>exact fun σ' H' Hs' f'=>⟨ρ',Hs',f',q⟩
    | bk ρ'=>exact fun σ' H' Hs' f'=>q σ' H' Hs' f'
    | rt d=>exact q
def qq (A B:Hp):Hp:=fun b=>match A b with
 | some o=>some o
 | none=>B b
theorem jS {A B:Hp}:dE A (qq A B):=fun b o e=>by unfold qq;rw [e]
theorem jp {A B:Hp}{b:ag} (h:A b=none):qq A B b=B b:=by unfold qq;rw [h]
theorem Eo {A B H:Hp} (h1:dE A H) (h2:dE B H):dE (qq A B) H:=fun b o e=>by
 cases h:A b with
 | some u=>unfold qq at e;rw [h] at e;cases e;exact h1 b o h
 | none=>rw [jp h] at e;exact h2 b o e
theorem Na {A B H:Hp} (h1:dE A H) (h2:dE B H):dE B (qq A B):=fun b o e=>by
 cases h:A b with
 | some u =>
  unfold qq
  rw [h]
  have:=h1 b u h
  rw [h2 b o e] at this
  exact this.symm
 | none=>rw [jp h];exact e
theorem Fr.into {H0 Hs0 H Hs:Hp}{la:Nat->Option ag}{ρ:av}{σ:St} (f:Fr K H0 Hs0 la ρ σ H Hs):Fr K (qq H0 Hs) Hs la ρ σ H Hs:=by
 have sub:=Eo f.st.all f.st.sub
 refine ⟨⟨sub,.refl _,f.st.sub,fun a o e _ z=>z⟩,f.len,f.sh,fun i d h=>?_,fun i d h=>?_,f.dj,fun i a e=>let ⟨o,k⟩:=f.lh i a e;⟨o,jS _ _ k⟩,fun i d h=>?_,f.u2⟩
 ·obtain ⟨a,o,h1,h2,h3,h4,h5⟩:=f.ow i d h
  exact ⟨a,o,h1,h2,h3,by rw [jp h4];exact h3,h5⟩
 ·obtain ⟨a,o,h1,h2,h3,h4,h5,h6⟩:=f.lk i d h
  exact ⟨a,o,h1,h2,h3,h4,jS _ _ h5,h6⟩
 ·obtain ⟨a,as,O⟩:=f.o2 i d h
  exact ⟨a,as,O.at_,O.ob,O.nd,fun b hb=>⟨(O.out b hb).1,by rw [jp (O.out b hb).2];exact (O.out b hb).1⟩,O.dj,O.inn⟩
theorem cJ.outof {H0 Hs0 H1 Hs1 H' Hs':Hp} (s:cJ H0 Hs0 H1 Hs1) (t:cJ (qq H0 Hs1) Hs1 H' Hs'):cJ H0 Hs0 H' Hs' :=
 ⟨jS.trans t.all,s.sh.trans t.sh,t.sub,fun a o e n z=>t.out a o (jS _ _ e) n (s.out a o e n z)⟩
theorem Fr.outof {H0 Hs0 H1 Hs1 H' Hs':Hp}{la:Nat->Option ag}{ρ1 ρ:av}{σ1 σ:St} (f1:Fr K H0 Hs0 la ρ1 σ1 H1 Hs1) (f:Fr K (qq H0 Hs1) Hs1 la ρ σ H' Hs'):Fr K H0 Hs0 la ρ σ H' Hs':=by
 refine ⟨f1.st.outof f.st,f.len,f.sh,fun i d h=>?_,fun i d h=>?_,f.dj,f1.lh,fun i d h=>?_,f.u2⟩
 ·obtain ⟨a,o,h1,h2,h3,h4,h5⟩:=f.ow i d h
  exact ⟨a,o,h1,h2,h3,jS.free h4,h5⟩
 ·obtain ⟨a,o,h1,h2,h3,h4,h5,h6⟩:=f.lk i d h
  obtain ⟨o',e⟩:=f1.lh i a h2
  have e':=jS (B:=Hs1) _ _ e
  rw [h5] at e'
  cases e'
  exact ⟨a,o,h1,h2,h3,h4,e,h6⟩
 ·obtain ⟨a,as,O⟩:=f.o2 i d h
  exact ⟨a,as,O.at_,O.ob,O.nd,fun b hb=>⟨(O.out b hb).1,jS.free (O.out b hb).2⟩,O.dj,O.inn⟩
end
end
section
section
variable {K:a7}{cls:Str->ag}{E:XK}
theorem pA.into {H0 Hs0 H1 Hs1:Hp}{la:Nat->Option ag}{ρ1:av}{σ1:St}{D':tP}{r:R Fl} (f1:Fr K H0 Hs0 la ρ1 σ1 H1 Hs1) (q:pA K cls E H0 Hs0 la D' r):pA K cls E (qq H0 Hs1) Hs1 la D' r:=by
 cases r with
 | no=>exact q
 | ex c n=>exact fun H' Hs' s=>q H' Hs' (f1.st.outof s)
 | ok fl =>
  cases fl with
  | nx ρ=>exact fun σ' H' Hs' f=>q σ' H' Hs' (f1.outof f)
  | bk ρ=>exact fun σ' H' Hs' f=>q σ' H' Hs' (f1.outof f)
  | ct ρ=>exact fun σ' H' Hs' f=>q σ' H' Hs' (f1.outof f)
  | rt d=>exact fun v H' Hs' s r=>q v H' Hs' (f1.st.outof s) r
theorem Fr.lock {H0 Hs0 H Hs:Hp}{la:Nat->Option ag}{ρ:av}{σ:St} (f:Fr K H0 Hs0 la ρ σ H Hs) {i:Nat}{d:D}{a:ag}{o:HO} (hi:ρ[i]?=some (Sl.own d)) (k1:σ[i]?=some (some (V.ref a))) (k2:H a=some o) (k3:Hs a=none) (k4:H0 a=none) (k5:m_ K Hs o d) :
  Fr K (qq H0 (upd Hs a o)) Hs (fun j=>if j=i then some a else la j) (ρ.set i (.lck d)) σ H Hs:=by
 have hil:i<ρ.length:=(List.getElem?_eq_some_iff.mp hi).1
 have sub:dE (upd Hs a o) H:=fun b u q=>by
  by_cases hb:b=a
  ·subst hb;rw [aV] at q;cases q;exact k2
  ·rw [b6 hb] at q;exact f.st.sub b u q
 have nx:∀ {j:Nat}{s:Sl},(∀ d,s≠.lck d)->(ρ.set i (.lck d))[j]?=some s->ρ[j]?=some s/\i≠j:=fun {j s} hs e=>by
  by_cases hj:i=j
  ·subst hj
   rw [aJ hil] at e;exact absurd (bH e).symm (hs d)
  ·rw [aj hj] at e;exact ⟨e,hj⟩
 refine ⟨⟨Eo f.st.all sub,.refl _,f.st.sub,fun a o e _ z=>z⟩,by simp [f.len],fun j e h=>?_,fun j e h=>?_,fun j e h=>?_,fun j k d1 d2 b h1 h2 h3 h4=>?_,fun j b h=>?_,fun j e h=>?_,fun j k d1 d2 h1 h2=>?_⟩
 ·obtain ⟨h,_⟩:=nx (fun _ z=>by cases z) h
  exact f.sh j e h
 ·obtain ⟨h,hj⟩:=nx (fun _ z=>by cases z) h
  obtain ⟨b,u,q1,q2,q3,q4,q5⟩:=f.ow j e h
  refine ⟨b,u,q1,q2,q3,?_,q5⟩
  rw [jp q4,b6 (fun z=>hj ?_)]
  ·exact q3
  ·subst z
   exact f.dj i j d e b hi h k1 q1
 ·by_cases hj:i=j
  ·subst hj
   rw [aJ hil] at h
   cases h
   exact ⟨a,o,k1,if_pos rfl,k2,k3,by rw [jp k4,aV],k5⟩
  ·rw [aj hj] at h
   obtain ⟨b,u,q1,q2,q3,q4,q5,q6⟩:=f.lk j e h
   exact ⟨b,u,q1,by rw [if_neg (dh hj)];exact q2,q3,q4,jS _ _ q5,q6⟩
 ·obtain ⟨h1,_⟩:=nx (fun _ z=>by cases z) h1
  obtain ⟨h2,_⟩:=nx (fun _ z=>by cases z) h2
  exact f.dj j k d1 d2 b h1 h2 h3 h4
 ·by_cases hj:j=i
  ·simp only [if_pos hj] at h
   cases h
   exact ⟨o,by rw [jp k4,aV]⟩
  ·simp only [if_neg hj] at h
   obtain ⟨u,e⟩:=f.lh j b h
   exact ⟨u,jS _ _ e⟩
 ·obtain ⟨h,hj⟩:=nx (fun _ z=>by cases z) h
  obtain ⟨b,as,O⟩:=f.o2 j e h
  refine ⟨b,as,O.at_,O.ob,O.nd,fun c hc=>⟨(O.out c hc).1,?_⟩,fun c hc k e' hk=>O.dj c hc k e' (nx (fun _ z=>by cases z) hk).1,O.inn⟩
  rw [jp (O.out c hc).2,b6 (fun z=>?_)]
  ·exact (O.out c hc).1
  ·subst z
   exact O.dj c hc i d hi k1
 ·exact f.u2 j k d1 d2 (nx (fun _ z=>by cases z) h1).1 (nx (fun _ z=>by cases z) h2).1
theorem cJ.unlock {H0 Hs0 H Hs H' Hs':Hp}{a:ag}{o:HO} (s:cJ H0 Hs0 H Hs) (t:cJ (qq H0 (upd Hs a o)) Hs H' Hs'):cJ H0 Hs0 H' Hs' :=
 ⟨jS.trans t.all,s.sh.trans t.sh,t.sub,fun b u e n z=>t.out b u (jS _ _ e) n (s.out b u e n z)⟩
theorem Fr.unlock {H0 Hs0 H Hs H' Hs':Hp}{la:Nat->Option ag}{ρ ρ':av}{σ σ':St} (f:Fr K H0 Hs0 la ρ σ H Hs) {i:Nat}{d:D}{a:ag}{o:HO} (hi:ρ[i]?=some (Sl.own d)) (k4:H0 a=none)
  (f':Fr K (qq H0 (upd Hs a o)) Hs (fun j=>if j=i then some a else la j) ρ' σ' H' Hs'):Fr K H0 Hs0 la (yV i ρ ρ') σ' H' Hs':=by
 have st:=f.st.unlock f'.st
 have own:∀ (j:Nat) (e:D),ρ'[j]?=some (Sl.own e)->∃ b u,σ'[j]?=some (some (V.ref b))/\H' b=some u/\Hs' b=none/\H0 b=none/\m_ K Hs' u e/\(qq H0 (upd Hs a o)) b=none:=fun j e h=>by
  obtain ⟨b,u,q1,q2,q3,q4,q5⟩:=f'.ow j e h
  exact ⟨b,u,q1,q2,q3,jS.free q4,q5,q4⟩
 have lck:∀ (j:Nat) (e:D),j≠i->ρ'[j]?=some (Sl.lck e)->∃ b u,σ'[j]?=some (some (V.ref b))/\la j=some b/\H' b=some u/\Hs' b=none/\H0 b=some u/\m_ K Hs' u e:=fun j e hj h=>by
  obtain ⟨b,u,q1,q2,q3,q4,q5,q6⟩:=f'.lk j e h
  simp only [if_neg hj] at q2
  obtain ⟨u',e'⟩:=f.lh j b q2
  have:=jS (B:=upd Hs a o) _ _ e'
  rw [q5] at this
  cases this
  exact ⟨b,u,q1,q2,q3,q4,e',q6⟩
 have two:∀ (j:Nat) (e:List (List D)),ρ'[j]?=some (Sl.ow2 e)->∃ b as,O2 K H0 H' Hs' ρ' σ' j e b as:=fun j e h=>by
  obtain ⟨b,as,O⟩:=f'.o2 j e h
  exact ⟨b,as,O.at_,O.ob,O.nd,fun c hc=>⟨(O.out c hc).1,jS.free (O.out c hc).2⟩,O.dj,O.inn⟩
 unfold yV
 cases hl:ρ'[i]? with
 | none =>
  simp only [hi]
  refine ⟨st,f'.len,f'.sh,fun j e h=>let ⟨b,u,q1,q2,q3,q4,q5,_⟩:=own j e h;⟨b,u,q1,q2,q3,q4,q5⟩,fun j e h=>lck j e (fun z=>by rw [z,hl] at h;cases h) h,f'.dj,f.lh,two,f'.u2⟩
 | some s =>
  cases s with
  | no=>simp only [hi];exact ⟨st,f'.len,f'.sh,fun j e h=>let ⟨b,u,q1,q2,q3,q4,q5,_⟩:=own j e h;⟨b,u,q1,q2,q3,q4,q5⟩,fun j e h=>lck j e (fun z=>by rw [z,hl] at h;cases h) h,f'.dj,f.lh,two,f'.u2⟩
  | shr _=>simp only [hi];exact ⟨st,f'.len,f'.sh,fun j e h=>let ⟨b,u,q1,q2,q3,q4,q5,_⟩:=own j e h;⟨b,u,q1,q2,q3,q4,q5⟩,fun j e h=>lck j e (fun z=>by rw [z,hl] at h;cases h) h,f'.dj,f.lh,two,f'.u2⟩
  | own _=>simp only [hi];exact ⟨st,f'.len,f'.sh,fun j e h=>let ⟨b,u,q1,q2,q3,q4,q5,_⟩:=own j e h;⟨b,u,q1,q2,q3,q4,q5⟩,fun j e h=>lck j e (fun z=>by rw [z,hl] at h;cases h) h,f'.dj,f.lh,two,f'.u2⟩
  | ow2 _=>simp only [hi];exact ⟨st,f'.len,f'.sh,fun j e h=>let ⟨b,u,q1,q2,q3,q4,q5,_⟩:=own j e h;⟨b,u,q1,q2,q3,q4,q5⟩,fun j e h=>lck j e (fun z=>by rw [z,hl] at h;cases h) h,f'.dj,f.lh,two,f'.u2⟩
  | lck d' =>
   simp only [hi]
   have hil:i<ρ'.length:=(List.getElem?_eq_some_iff.mp hl).1
   have nx:∀ {j:Nat}{s:Sl},(∀ d,s≠.own d)->(ρ'.set i (.own d'))[j]?=some s->ρ'[j]?=some s/\i≠j:=fun {j s} hs e=>by
    by_cases hj:i=j
    ·subst hj
     rw [aJ hil] at e;exact absurd (bH e).symm (hs d')
    ·rw [aj hj] at e;exact ⟨e,hj⟩
   obtain ⟨b,u,q1,q2,q3,q4,q5,q6⟩:=f'.lk i d' hl
   simp only [if_pos rfl] at q2
   cases q2
   have ne:∀ (j:Nat) (e:D),ρ'[j]?=some (Sl.own e)->σ'[j]?≠some (some (V.ref a)):=fun j e h z=>by
    obtain ⟨b,u,p1,_,_,_,_,p6⟩:=own j e h
    rw [z] at p1
    cases p1
    rw [q5] at p6;cases p6
   refine ⟨st,by simp [f'.len],fun j e h=>?_,fun j e h=>?_,fun j e h=>?_,fun j k d1 d2 c h1 h2 h3 h4=>?_,f.lh,fun j e h=>?_,fun j k d1 d2 h1 h2=>?_⟩
   ·obtain ⟨h,_⟩:=nx (fun _ z=>by cases z) h
    exact f'.sh j e h
   ·by_cases hj:i=j
    ·subst hj
     rw [aJ hil] at h
     cases h
     exact ⟨a,u,q1,q3,q4,k4,q6⟩
    ·rw [aj hj] at h
     obtain ⟨b,u,p1,p2,p3,p4,p5,_⟩:=own j e h
     exact ⟨b,u,p1,p2,p3,p4,p5⟩
   ·obtain ⟨h,hj⟩:=nx (fun _ z=>by cases z) h
    exact lck j e (dh hj) h
   ·by_cases hj:i=j
    ·by_cases hk:i=k
     ·exact hj.symm.trans hk
     ·rw [aj hk] at h2
      subst hj
      rw [q1] at h3
      cases h3
      exact (ne k d2 h2 h4).elim
    ·rw [aj hj] at h1
     by_cases hk:i=k
     ·subst hk
      rw [q1] at h4
      cases h4
      exact (ne j d1 h1 h3).elim
     ·rw [aj hk] at h2
      exact f'.dj j k d1 d2 c h1 h2 h3 h4
   ·obtain ⟨h,hj⟩:=nx (fun _ z=>by cases z) h
    obtain ⟨b,as,O⟩:=two j e h
    refine ⟨b,as,O.at_,O.ob,O.nd,O.out,fun c hc k e' hk=>?_,O.inn⟩
    by_cases nk:i=k
    ·subst nk
     intro z
     rw [q1] at z
     cases z
     obtain ⟨b',as',O'⟩:=f'.o2 j e h
     have hh:=O.at_
     rw [O'.at_] at hh
     cases hh
     have hs:as'=as:=by
      have h1:=O.ob
      rw [O'.ob] at h1
      injection h1 with h1
      injection h1 with h1
      exact Ly (fun x y z=>by cases z;rfl) |>.mp h1
     subst hs
     have:=(O'.out _ hc).2
     rw [q5] at this;cases this
    ·rw [aj nk] at hk
     exact O.dj c hc k e' hk
   ·exact f'.u2 j k d1 d2 (nx (fun _ z=>by cases z) h1).1 (nx (fun _ z=>by cases z) h2).1
end
section
variable {c:C}{e a b iter tg:b9}{g ga gb:av->R D}{pos p:Pos}{gi:av->R (List D)}{body:List cr}{x:Str}{kt:D->av->R av}{gbd:av->R Fl}
def qr (gi:av->R (List D)) (kt:D->av->R av) (gb:av->R Fl):av->R Fl:=fun ρ=>match gi ρ with
 | .ok ds=>iO kt gb ds ρ
 | _=>.no
theorem oa (hc:c.X.calm=true) (hi:LD c.nox tg iter gi) (hg:JG c.nox tg kt) (hb:Kp c.nox body gbd) (hs:∀ x,eE iter c.X.env x=pure x:=by intro _;rfl):JS c (.For tg iter body [] pos) (qr gi kt gbd):=.of fun ρ=>by
 refine RA (Ab (Mb Ic hc (hi ρ) (g:=fun v σ H Q=>∃ ρ d,T5 c.X.K ρ d (kt d ρ) v σ H Q) (tb:=fun D σ H=>∃ ρ,SR c.X.K c.cls E0 ρ (gbd ρ) D σ H) ?_ ?_ hs) fun D σ H ⟨H0,Hs0,la,Hs,f,q⟩=>?_)
 ·exact fun pins s σ H v u Q I r h_0=>by obtain ⟨ρ,d,q⟩:=h_0;exact hg ρ d pins s σ H v u Q I r q
 ·exact fun pins s σ H D I h_1=>by obtain ⟨ρ,q⟩:=h_1;exact hb ρ pins s σ H D I q
 ·refine ⟨H0,Hs0,la,Hs,f,?_⟩
  unfold qr at q
  cases hr:gi ρ with
  | no=>rw [hr] at q;exact q
  | ex x n=>rw [hr] at q;exact q.elim
  | ok ds =>
   rw [hr] at q
   intro J H1 Hs1 s1 it
   have f1:=f.step s1
   exact N9 (E:=c.E) (cls:=c.cls) (kt:=kt) (gb:=gbd) (tg:=fun v σ H Q=>∃ ρ d,T5 c.X.K ρ d (kt d ρ) v σ H Q) (tb:=fun D σ H=>∃ ρ,SR c.X.K c.cls E0 ρ (gbd ρ) D σ H) it (Na f1.st.all f1.st.sub) f1.into (fun ρ d v σ H Q h=>⟨ρ,d,h⟩) (fun ρ D σ H h=>⟨ρ,h⟩) (pA.into f1 q)
def yW (i:Nat) (kt:D->av->R av) (gb:av->R Fl):av->R Fl:=fun ρ=>match ρ[i]? with
 | some (Sl.own (.list ds))=>XS i ρ (iO kt gb ds (CH i ρ))
 | _=>qr (lK fun ρ=>FU ρ i) kt gb ρ
theorem yX {kt:D->av->R av}{gb:av->R Fl}:∀ (ds:List D) (ρ:av) (fl:Fl),iO kt gb ds ρ=.ok fl->(∃ ρ',fl=.nx ρ')\/∃ d,fl=.rt d
 | [],ρ,fl,h=>by cases h;exact .inl ⟨_,rfl⟩
 | d::r,ρ,fl,h=>by
  unfold iO at h
  split at h
  ·split at h
   ·exact yX r _ _ h
   ·exact yX r _ _ h
   ·cases h;exact .inl ⟨_,rfl⟩
   ·cases h;exact .inr ⟨_,rfl⟩
   ·cases h
  ·cases h
theorem CI {kt:D->av->R av}{gb:av->R Fl}:∀ (ds:List D) (ρ:av) (c:Str) (n:Option D),iO kt gb ds ρ≠.ex c n
 | [],ρ,c,n,h=>by cases h
 | d::r,ρ,c,n,h=>by
  unfold iO at h
  split at h
  ·split at h
   ·exact CI r _ _ _ h
   ·exact CI r _ _ _ h
   ·cases h
   ·cases h
   ·cases h
  ·cases h
theorem Qg (i:Nat) (hc:c.X.calm=true) (hg:JG c.nox tg kt) (hb:Kp c.nox body gbd) (hN:c.X.N[i]?=some x:=by rfl) (hv:LA c.X.env.scope x:=by first | exact gP rfl | exact e8 (gP rfl) | exact e8 (e8 rfl)) (hd:(x == ("__debug__" : Str))=false:=by decide)
  (hcd:(x == ("__classdict__" : Str))=false:=by decide) (hs:∀ y,eE (.Name x p) c.X.env y=pure y:=by intro _;rfl):JS c (.For tg (.Name x p) body [] pos) (yW i kt gbd):=.of fun ρ=>by
 by_cases ho:∃ ds,ρ[i]?=some (Sl.own (.list ds))
 ·obtain ⟨ds,ho⟩:=ho
  refine RA (Ab (Mb (tg:=tg) Ic hc (uL (X:=c.nox.X) (n_ hN hv hd hcd)) (g:=fun v σ H Q=>∃ ρ d,T5 c.X.K ρ d (kt d ρ) v σ H Q) (tb:=fun D σ H=>∃ ρ,SR c.X.K c.cls E0 ρ (gbd ρ) D σ H) ?_ ?_ hs) fun D σ H ⟨H0,Hs0,la,Hs,f,q⟩=>?_)
  ·exact fun pins s σ H v u Q I r h_2=>by obtain ⟨ρ,d,q⟩:=h_2;exact hg ρ d pins s σ H v u Q I r q
  ·exact fun pins s σ H D I h_3=>by obtain ⟨ρ,q⟩:=h_3;exact hb ρ pins s σ H D I q
  ·obtain ⟨a,o,k1,k2,k3,k4,k5⟩:=f.ow i _ ho
   cases k5 with
   | @lst vs _ r =>
    refine ⟨_,k1,a,rfl,⟨_,.of k2⟩,?_⟩
    have hn:mZ c.X.K (upd Hs a (.lst vs)) a vs:=.of aV
    unfold yW at q
    simp only [ho] at q
    have fl:=f.lock ho k1 k2 k3 k4 (.lst r)
    have sub:dE (upd Hs a (.lst vs)) H:=fun b u q=>by
     by_cases hb:b=a
     ·subst hb;rw [aV] at q;cases q;exact k2
     ·rw [b6 hb] at q;exact f.st.sub b u q
    refine N9 (E:=c.E) (cls:=c.cls) (kt:=kt) (gb:=gbd) (ρ:=CH i ρ) (Hs:=Hs) (la:=fun i'=>if i'=i then some a else la i') (tg:=fun v σ H Q=>∃ ρ d,T5 c.X.K ρ d (kt d ρ) v σ H Q) (tb:=fun D σ H=>∃ ρ,SR c.X.K c.cls E0 ρ (gbd ρ) D σ H) (CF hn r) (Na f.st.all sub) ?_ (fun ρ d v σ H Q h=>⟨ρ,d,h⟩) (fun ρ D σ H h=>⟨ρ,h⟩) ?_
    ·unfold CH
     rw [ho]
     exact fl
    ·cases hr:iO kt gbd ds (CH i ρ) with
     | no=>rw [hr] at q;exact q
     | ex c n=>exact (CI _ _ _ _ hr).elim
     | ok fl =>
      rw [hr] at q
      rcases yX _ _ _ hr with ⟨ρ',rfl⟩ | ⟨d,rfl⟩
      ·exact fun σ' H' Hs' f'=>q σ' H' Hs' (f.unlock ho k4 f')
      ·exact fun v H' Hs' s r=>q v H' Hs' (f.st.unlock s) r
 ·have e:yW i kt gbd ρ=qr (lK fun ρ=>FU ρ i) kt gbd ρ:=by
   unfold yW
   split
   ·rename_i ds h;exact (ho ⟨ds,h⟩).elim
   ·rfl
  rw [e]
  exact oa hc (II (c:=c.nox) (ai (c:=c.nox) i hN hv hd hcd)) hg hb hs ρ
end
end
section
section
variable {c:C}{e k:b9}{g gk:av->R D}{pos p apos cpos:Pos}{x:Str}
def pB (i:Nat) (g:av->R D):av->R Fl:=fun ρ=>match ρ[i]? with
 | some (Sl.own (.list ds))=>(g ρ).bind fun d=>if ds.length<1000 then .ok (.nx (ρ.set i (.own (.list (ds++[d]))))) else .no
 | _=>.no
theorem oN (i:Nat) (h:JE c e g) (hN:c.X.N[i]?=some x:=by rfl) (hv:LA c.X.env.scope x:=by first | exact gP rfl | exact e8 (gP rfl) | exact e8 (e8 rfl)) (hd:(x == ("__debug__" : Str))=false:=by decide)
  (hcd:(x == ("__classdict__" : Str))=false:=by decide)
  (hbase:xN (.Name x p) "append" c.X.env (da (.Name x p) c.X.env)=da (.Name x p) c.X.env:=by rfl)
  (hfew:((eV cpos (aw [e] c.X.env)).all (fun x=>!x.1) && (P1 cpos (DB [] c.X.env)).all (fun x=>x.1.isSome)
   && decide ([e].length + ([] : List tH).length + (if ([] : List tH).isEmpty then 0 else 1)<30))=true:=by rfl)
  (hline:(apos.endLine == cpos.line)=true:=by rfl) (hst:aw [e] c.X.env=(false,da e c.X.env)::aw [] c.X.env:=by rfl) (hplain:(eV cpos (aw [] c.X.env)).any (·.1)=false:=by rfl)
  (hs:ig (.Call (.Attribute (.Name x p) "append" apos) [e] [] cpos) none pos.line c.X.env=pure false:=by rfl) :
  JS c (.Expr (.Call (.Attribute (.Name x p) "append" apos) [e] [] cpos) pos) (pB i g):=.of fun ρ=>by
 refine Ab (rP (yv dR Ai Aj B6 (n_ hN hv hd hcd) (bZ (h ρ) eW hst) hbase hfew hline hst hplain) hs) fun D σ H h_0=>?_
 obtain ⟨H0,Hs0,la,Hs,f,q⟩:=h_0
 replace q:pA c.X.K c.cls c.E H0 Hs0 la D (pB i g ρ):=q
 unfold pB at q
 split at q
 ·rename_i ds ho
  obtain ⟨a,o,k1,k2,k3,k4,k5⟩:=f.ow i _ ho
  cases k5 with
  | @lst vs _ r =>
   refine ⟨_,k1,.inl ⟨rfl,_,.of k2⟩,?_⟩
   refine sE f q fun d v H1 Hs1 e1 s1 f1 r1=>?_
   rw [e1,bind_ok] at q
   by_cases hl:ds.length<1000
   ·rw [if_pos hl] at q
    have r':=r.same s1.sh
    exact ⟨a,vs,v,rfl,rfl,s1.all _ _ k2,bY (by rw [r.length];omega),q _ _ Hs1 (f1.write i ho k1 (.lst (r'.append (.cons r1 .nil))))⟩
   ·rw [if_neg hl] at q;exact q.elim
 ·exact q.elim
def r6:D->Option ed
 | .int i=>some (.inl i)
 | .str x=>some (.inr x)
 | _=>none
theorem yY {d:D}{y:ed} (h:r6 d=some y):d=kD y:=by
 cases d<;>cases h<;>rfl
def Av (kvs:List (D×D)) (k d:D):List (D×D):=if kvs.any (fun kv=>bG kv.1 k) then kvs.map (fun kv=>if bG kv.1 k then (kv.1,d) else kv) else kvs++[(k,d)]
theorem GQ (a b:ed):bG (kD a) (kD b)=decide (a=b):=by
 cases a<;>cases b<;>simp [kD,bG,rN]
theorem RDk.any {K:a7}{H:Hp}{kvs:List (ed×V)} (y:ed):∀ {ds:List (D×D)},RDk K H kvs ds->(ds.any fun kv=>bG kv.1 (kD y))=kvs.any fun kv=>decide (kv.1=y):=by
 induction kvs with
 | nil=>intro ds h;cases h;rfl
 | cons x r ih=>intro ds h;cases h with | cons h t=>rw [fB,fB,ih t,GQ]
theorem RDk.repl {K:a7}{H:Hp} (y:ed) {v:V}{d:D} (rv:RD K H v d):∀ {kvs:List (ed×V)}{ds:List (D×D)},RDk K H kvs ds ->
  RDk K H (kvs.map fun kv=>if kv.1=y then (kv.1,v) else kv) (ds.map fun kv=>if bG kv.1 (kD y) then (kv.1,d) else kv)
 | _,_,.nil=>.nil
 | _,_,.cons (k:=k) h t=>by
  rw [aR,aR]
  have e:=GQ k y
  by_cases hk:k=y
  ·subst hk
   rw [show (if k=k then (k,v) else (k,_))=(k,v) from if_pos rfl,show (if bG (kD k) (kD k)=true then (kD k,d) else (kD k,_))=(kD k,d) from if_pos (by rw [e];simp)]
   exact .cons rv (RDk.repl k rv t)
  ·simp only [e,hk,if_neg,decide_false,c8,not_false_eq_true]
   exact .cons h (RDk.repl y rv t)
theorem RDk.snoc {K:a7}{H:Hp} (y:ed) {v:V}{d:D} (rv:RD K H v d):∀ {kvs:List (ed×V)}{ds:List (D×D)},RDk K H kvs ds->RDk K H (kvs++[(y,v)]) (ds++[(kD y,d)])
 | _,_,.nil=>.cons rv .nil
 | _,_,.cons h t=>.cons h (RDk.snoc y rv t)
theorem RDk.put {K:a7}{H:Hp}{kvs:List (ed×V)}{ds:List (D×D)} (r:RDk K H kvs ds) (y:ed) {v:V}{d:D} (rv:RD K H v d):RDk K H (qL kvs y v) (Av ds (kD y) d):=by
 unfold qL Av
 rw [r.any y]
 split
 ·exact r.repl y rv
 ·exact r.snoc y rv
def i7 (kvs:List (D×D)):Bool:=kvs.all fun kv=>(r6 kv.1).isSome
def CJ (i:Nat) (gk g:av->R D):av->R Fl:=fun ρ=>match ρ[i]? with
 | some (Sl.own (.dict kvs))=>(g ρ).bind fun d=>(gk ρ).bind fun k=>match r6 k with
  | some _=>if kvs.length<1000/\i7 kvs=true then .ok (.nx (ρ.set i (.own (.dict (Av kvs k d))))) else .no
  | none=>.no
 | _=>.no
theorem GR {K:a7}{H:Hp}{v:V}{y:ed} (h:RD K H v (kD y)):v=kV y:=by
 cases y<;>cases h<;>rfl
theorem RDt.flat {K:a7}{H:Hp}{kvs:List (List ed×V)}{ds:List (D×D)} (h:RDt K H kvs ds) (f:i7 ds=true):kvs=[]/\ds=[]:=by
 cases h with
 | nil=>exact ⟨rfl,rfl⟩
 | cons h t=>simp [i7,tD,r6] at f
theorem IM (i:Nat) (h:JE c e g) (hk:JE c k gk) (hu:c.X.A.units + 1<sD) (hN:c.X.N[i]?=some x:=by rfl) (hv:LA c.X.env.scope x:=by first | exact gP rfl | exact e8 (gP rfl) | exact e8 (e8 rfl)) (hd:(x == ("__debug__" : Str))=false:=by decide)
  (hcd:(x == ("__classdict__" : Str))=false:=by decide) (hs:ig e (some (.Subscript (.Name x p) k apos)) pos.line c.X.env=pure false:=by rfl):JS c (.Assign [.Subscript (.Name x p) k apos] e pos) (CJ i gk g):=.of fun ρ=>by
 refine Ab (PQ hu (n_ hN hv hd hcd) (hk ρ) (h ρ) hs) fun D σ H h_1=>?_
 obtain ⟨H0,Hs0,la,Hs,f,q⟩:=h_1
 replace q:pA c.X.K c.cls c.E H0 Hs0 la D (CJ i gk g ρ):=q
 unfold CJ at q
 split at q
 ·rename_i kvs ho
  obtain ⟨a,o,k1,k2,k3,k4,k5⟩:=f.ow i _ ho
  have main:∀ {H:Hp}{vs:List (ed×V)},Fr c.X.K H0 Hs0 la ρ σ H Hs->H a=some (.dK vs)->RDk c.X.K Hs vs kvs->Rl (JZ i) (TR c.X.K c.cls c.E ρ (gk ρ)) (TR c.X.K c.cls c.E ρ (g ρ)) D σ H:=fun {H vs} f k2 r=>by
   refine sE f q fun d v H1 Hs1 e1 s1 f1 r1=>?_
   rw [e1,bind_ok] at q
   refine ⟨_,k1,sE f1 q fun y w H2 Hs2 e2 s2 f2 r2=>?_⟩
   rw [e2,bind_ok] at q
   split at q
   ·rename_i ky hy
    obtain rfl:=yY hy
    by_cases hl:kvs.length<1000/\i7 kvs=true
    ·rw [if_pos hl] at q
     have ha:=s2.all _ _ (s1.all _ _ k2)
     have r':=(r.same s1.sh).same s2.sh
     rw [GR r2]
     exact ⟨a,_,rfl,Mq.k ha (bY (by rw [r.length];omega)),q _ _ Hs2 (f2.write i ho k1 (.dK (r'.put ky (r1.same s2.sh))))⟩
    ·rw [if_neg hl] at q;exact q.elim
   ·exact q.elim
  cases k5 with
  | dK r=>exact main f k2 r
  | dT n r =>
   refine sE f q fun d v H1 Hs1 e1 s1 f1 r1=>?_
   rw [e1,bind_ok] at q
   refine ⟨_,k1,sE f1 q fun y w H2 Hs2 e2 s2 f2 r2=>?_⟩
   rw [e2,bind_ok] at q
   split at q
   ·rw [if_neg (fun z=>n (r.flat z.2).1)] at q;exact q.elim
   ·exact q.elim
  | dF n r =>
   refine sE f q fun d v H1 Hs1 e1 s1 f1 r1=>?_
   rw [e1,bind_ok] at q
   refine ⟨_,k1,sE f1 q fun y w H2 Hs2 e2 s2 f2 r2=>?_⟩
   rw [e2,bind_ok] at q
   split at q
   ·rw [if_neg (fun z=>by cases z.2)] at q;exact q.elim
   ·exact q.elim
 ·exact q.elim
def v5 (kvs:List (D×D)) (k:D):Option D:=(kvs.find? fun kv=>bG kv.1 k).map (·.2)
theorem RDk.val {K:a7}{H:Hp}:∀ {kvs:List (ed×V)}{ds:List (D×D)},RDk K H kvs ds->∀ (y:ed),(uQ kvs y=none/\v5 ds (kD y)=none)\/∃ v d,uQ kvs y=some v/\v5 ds (kD y)=some d/\RD K H v d
 | _,_,.nil,y=>.inl ⟨rfl,rfl⟩
 | _,_,.cons (k:=k) h t,y=>by
  unfold uQ v5
  rw [dL,dL,GQ]
  by_cases hk:k=y
  ·simp only [hk,decide_true,dH]
   exact .inr ⟨_,_,rfl,rfl,h⟩
  ·simp only [hk,decide_false]
   exact RDk.val t y
def aU:D->D->R D
 | .dict kvs,k=>match r6 k with
  | some _=>if i7 kvs=true then (match v5 kvs k with
   | some d=>.ok d
   | none=>.no) else .no
  | none=>.no
 | x,k=>CB x k
variable {a b:b9}{ga gb:av->R D}
theorem bM (hu:c.X.A.units + 1<sD) (ha:JB c a ga) (hb:JB c b gb) (hs:xQ b:=by exact fun _ _=>rfl):JE c (.Subscript a b pos) (g2 ga gb aU):=.of fun ρ=>by
 by_cases hx:∃ kvs,ga ρ=.ok (.dict kvs)
 ·obtain ⟨kvs,hx⟩:=hx
  refine qy (PP hu (ha ρ) (hb ρ) hs) fun σ H Q h_2=>?_
  obtain ⟨H0,Hs0,la,Hs,f,q⟩:=h_2
  refine one f q fun d v H1 Hs1 e1 s1 f1 r1=>?_
  rw [hx] at e1
  cases e1
  unfold g2 at q
  rw [hx,bind_ok] at q
  refine one f1 (q.on s1 (q':=fun _=>True) fun _ _=>trivial) fun y w H2 Hs2 e2 s2 f2 r2=>?_
  rw [e2,bind_ok] at q
  unfold aU at q
  simp only at q
  split at q
  ·rename_i ky hy
   obtain rfl:=yY hy
   by_cases hf:i7 kvs=true
   ·rw [if_pos hf] at q
    obtain ⟨p,rfl,h⟩:=(r1.step s2).dict f2.st.sub
    have rk:w=kV ky:=by
     rcases r2 with r2 | ⟨_,o,rfl,_,_,ow⟩
     ·exact GR r2
     ·cases ky<;>cases ow
    subst rk
    rcases h with ⟨vs,h1,h2⟩ | ⟨vs,h1,hn,h2⟩ | ⟨o,vs,es,rfl,h1,hn,h2⟩
    ·rcases h2.val ky with ⟨_,h3⟩ | ⟨u,d,h3,h4,h5⟩
     ·rw [h3] at q;exact q.elim
     ·rw [h4] at q
      exact ⟨p,u,rfl,by rw [<- h3];exact Gx.k h1,q _ H2 Hs2 (s1.trans s2) h5⟩
    ·exact (hn (h2.flat hf).1).elim
    ·cases hf
   ·rw [if_neg hf] at q;exact q.elim
  ·exact q.elim
 ·refine qy (UH ha hb hs ρ) fun σ H Q q=>?_
  have e:g2 ga gb aU ρ=g2 ga gb CB ρ:=by
   unfold g2
   cases hr:ga ρ with
   | ok d =>
    cases d with
    | dict kvs=>exact (hx ⟨kvs,hr⟩).elim
    | _=>rfl
   | _=>rfl
  rw [e] at q
  exact q
def jT:D->R D
 | .dict kvs=>if i7 kvs=true then .ok (.list (kvs.map (·.1))) else .no
 | x=>Bm x
theorem Ep {K:a7}{H:Hp}:∀ {kvs:List (ed×V)}{ds:List (D×D)},RDk K H kvs ds->RDs K H (kvs.map fun p=>kV p.1) (ds.map (·.1))
 | _,_,.nil=>.nil
 | _,_,.cons (k:=k) h t=>.cons (by cases k<;>constructor) (Ep t)
theorem v6 {X:Cx} (hc:X.calm=true):N1 X (.type "list") (iK jT):=by
 refine w9 (fun d c n=>?_) fun pins s σ H x u Q Hs d d' I ru sub rx hd q=>?_
 ·unfold jT Bm
  split<;>(try split)<;>(try split)<;>exact fun h=>by cases h
 ·by_cases hx:∃ kvs,d=.dict kvs
  ·obtain ⟨kvs,rfl⟩:=hx
   unfold jT at hd
   simp only at hd
   split at hd
   ·rename_i hf
    cases hd
    obtain ⟨a,rfl,⟨vs,h1,h2⟩ | ⟨vs,h1,n,h2⟩ | ⟨o,vs,es,rfl,h1,n,h2⟩⟩:=rx.dict sub
    ·exact yK hc pins s σ H _ _ Q I (.cons ru .nil) ⟨a,vs,rfl,h1,fun l hl=>q _ _ _ (.new sub hl) (.list (.of aV) ((Ep h2).same (cJ.new sub hl).sh))⟩
    ·exact (n (h2.flat hf).1).elim
    ·cases hf
   ·cases hd
  ·have e:jT d=Bm d:=by
    cases d with
    | dict kvs=>exact (hx ⟨kvs,rfl⟩).elim
    | _=>rfl
   rw [e] at hd
   exact (Qa (X:=X)).1 pins s σ H [x] [u] Q I (.cons ru .nil) ⟨Hs,[d],sub,.cons rx .nil,d',hd,q⟩
end
end
section
open PyProof.Rows (envOfC)
section
variable {c:C}{e a b d:b9}{g ga gb gc:av->R D}{pos p cpos:Pos}{x:Str}
theorem Nb {K:a7}{cls:Str->ag}{E:XK}{h h':D->D->R D}{ρ:av}{σ:St}{H:Hp}{Q:VK} (hx:∀ x y c n,h x y≠.ex c n) (hx':∀ x y c n,h' x y≠.ex c n) (q:TR K cls E ρ (qT ga gb gc h h' ρ) σ H Q) :
  Gp (rD K h) (rD K h') (TB K cls E ρ (ga ρ)) (TB K cls E ρ (gb ρ)) (TB K cls E ρ (gc ρ)) σ H Q:=by
 obtain ⟨H0,Hs0,la,Hs,f,q⟩:=q
 refine one f q fun x v H1 Hs1 e1 s1 f1 r1=>?_
 unfold qT at q
 rw [e1,bind_ok] at q
 refine one f1 (q.on s1 (q':=fun _=>True) fun _ _=>trivial) fun y u H2 Hs2 e2 s2 f2 r2=>?_
 rw [e2,bind_ok] at q
 cases hr:h x y with
 | ex c n=>exact (hx x y c n hr).elim
 | no=>rw [hr] at q;exact q.elim
 | ok z =>
  rw [hr,bind_ok] at q
  refine ⟨Hs2,x,y,f2.st.sub,r1.step s2,r2,z,hr,fun w H3 Hs3 s3 r3=>?_⟩
  cases r3 with
  | bool k =>
   refine ⟨k,rfl,?_⟩
   have f3:=f2.step s3
   cases k with
   | false=>exact Cb (q _ H3 Hs3 (s1.trans (s2.trans s3)) (.bool _))
   | true =>
    refine Gw (one f3 (q.on (s1.trans (s2.trans s3)) (q':=fun _=>True) fun _ _=>trivial) fun t u' H4 Hs4 e4 s4 f4 r4=>?_)
    simp only [e4,bind_ok] at q
    cases hr':h' y t with
    | ex c n=>exact (hx' y t c n hr').elim
    | no=>rw [hr'] at q;exact q.elim
    | ok z' =>
     rw [hr'] at q
     exact ⟨Hs4,y,t,f4.st.sub,(r2.step s3).step s4,r4,z',hr',fun w H5 Hs5 s5 r5=>q w H5 Hs5 (s1.trans (s2.trans (s3.trans (s4.trans s5)))) r5⟩
  | none=>exact q.elim
  | int _=>exact q.elim
  | str _=>exact q.elim
  | list _ _=>exact q.elim
  | tuple _ _=>exact q.elim
  | dictK _ _=>exact q.elim
  | dictT _ _ _=>exact q.elim
  | dictF _ _ _=>exact q.elim
theorem Es {op op':xH}{h h':D->D->R D} (ho:xS c.X (bN op) h) (ho':xS c.X (bN op') h') (ha:JB c a ga) (hb:JB c b gb) (hc:JB c d gc) (hm:Lp [op,op'] [b,d]=false:=by with_unfolding_all rfl):JE c (.Compare a [op,op'] [b,d] pos) (qT ga gb gc h h') :=
 .of fun ρ=>qy (Md ho.1 ho'.1 (ha ρ) (hb ρ) (hc ρ) hm) fun σ H Q q=>Nb ho.2 ho'.2 q
theorem Nc {op op':xH}{h h':D->D->R D} (ho:xS c.X (bN op) h) (ho':xS c.X (bN op') h') (ha:JB c a ga) (hb:JB c b gb) (hc:JB c d gc) (hm:Lp [op,op'] [b,d]=false:=by with_unfolding_all rfl):JT c (.Compare a [op,op'] [b,d] pos) (fR (qT ga gb gc h h')) :=
 .of fun ρ=>VW (Me ho.1 ho'.1 (ha ρ) (hb ρ) (hc ρ) hm) fun σ H Q q=>Nb ho.2 ho'.2 (UD q)
def T7:D->R D
 | .int i=>.ok (.int (-i))
 | _=>.no
def r9 (g:av->R D):av->R D:=fun ρ=>(g ρ).bind T7
theorem yZ (h:JE c e g):JE c (.UnaryOp .USub e pos) (r9 g):=.of fun ρ=>qy (Rb Mc (h ρ)) fun σ H Q h_0=>by
 obtain ⟨H0,Hs0,la,Hs,f,q⟩:=h_0
 refine Cu f q fun d v H1 Hs1 e1 s1 f1 r1=>?_
 unfold r9 at q
 rw [e1,bind_ok] at q
 cases r1 with
 | int i=>exact ⟨i,rfl,q _ H1 Hs1 s1 (.int _)⟩
 | _=>exact q.elim
inductive UQ (K:a7) (w:ba) (cls:Str->ag) (E:XK) (ρ:av) (r:R (List Str)) (σ:St) (H:Hp) (Q:VK):Prop
 | mk (H0 Hs0:Hp) (la:Nat->Option ag) (Hs:Hp) (f:Fr K H0 Hs0 la ρ σ H Hs) (q:Fin K cls E H Hs r fun ss=>∀ p H' Hs',cJ H Hs H' Hs'->H' p=none->Q (.ref p) (upd H' p (lN w p ss))):UQ K w cls E ρ r σ H Q
def V_ (K:a7) (w:ba) (cls:Str->ag) (E:XK) (ρ:av) (r:R (List Str)):TE:=UQ K w cls E ρ r
structure Qh (c:C) (e:b9) (g:av->R (List Str)):Prop where of ::
 run:∀ ρ,PE c.X e (V_ c.X.K c.X.w c.cls c.E ρ (g ρ))
instance {c:C}{e:b9}{g:av->R (List Str)}:CoeFun (Qh c e g) (fun _=>∀ ρ,PE c.X e (V_ c.X.K c.X.w c.cls c.E ρ (g ρ))):=⟨Qh.run⟩
theorem IN {K:a7}{w:ba}{cls:Str->ag}{E:XK}{ρ:av}{r:R (List Str)}{β:Type}{k:List Str->R β}{σ:St}{H:Hp}{H0 Hs0 Hs:Hp}{la:Nat->Option ag}{Q:V->Hp->Prop}{q:β->Prop} (f:Fr K H0 Hs0 la ρ σ H Hs)
  (h:Fin K cls E H Hs (r.bind k) q) (m:∀ ss p H' Hs',r=.ok ss->cJ H Hs H' Hs'->Fr K H0 Hs0 la ρ σ H' Hs'->H' p=none->Q (.ref p) (upd H' p (lN w p ss))):V_ K w cls E ρ r σ H Q:=by
 refine ⟨H0,Hs0,la,Hs,f,?_⟩
 cases r with
 | ok d=>exact fun p H' Hs' s n=>m d p H' Hs' rfl s (f.step s) n
 | ex c n=>exact h
 | no=>exact h
variable {gset:av->R (List Str)}
def tW:D->R (List Str)
 | .list ds=>match gJ ds with
  | some ss=>if ss.length<60 then .ok (de [] ss) else .no
  | none=>.no
 | .tuple ds=>match gJ ds with
  | some ss=>if ss.length<60 then .ok (de [] ss) else .no
  | none=>.no
 | _=>.no
def pC (g:av->R D):av->R (List Str):=fun ρ=>(g ρ).bind tW
theorem CK (hc:c.X.calm=true) (h:JB c e g) (hg2:Gl c.X "set") (hm2:c.X.mg "set"=none) (he:aw [e] c.X.env=(false,da e c.X.env)::aw [] c.X.env:=by rfl) :
  Qh c (.Call (.Name "set" p) [e] [] cpos) (pC g):=.of fun ρ=>by
 refine qy (vY (E6 hc) hg2 hm2 PyProof.Rows.boot_set (bZ (h ρ) eW he) (he:=he)) fun σ H Q h_1=>?_
 obtain ⟨H0,Hs0,la,Hs,f,q⟩:=h_1
 refine one f q fun d v H1 Hs1 e1 s1 f1 r1=>?_
 unfold pC at q
 rw [e1,bind_ok] at q
 unfold tW at q
 split at q
 ·split at q
  ·rename_i ss hs
   by_cases hz:ss.length<60
   ·rw [if_pos hz] at q
    obtain ⟨a,vs,rfl,qa,ra⟩:=r1.list f1.st.sub
    rw [qX hs] at ra
    rw [pp ra] at qa
    exact ⟨a,ss,rfl,.inl qa,aF (JP hz 1) (by decide),fun p hp=>q p H1 Hs1 s1 hp⟩
   ·rw [if_neg hz] at q;exact q.elim
  ·exact q.elim
 ·split at q
  ·rename_i ss hs
   by_cases hz:ss.length<60
   ·rw [if_pos hz] at q
    obtain ⟨a,vs,rfl,qa,ra,_⟩:=r1.tuple f1.st.sub
    rw [qX hs] at ra
    rw [pp ra] at qa
    exact ⟨a,ss,rfl,.inr qa,aF (JP hz 1) (by decide),fun p hp=>q p H1 Hs1 s1 hp⟩
   ·rw [if_neg hz] at q;exact q.elim
  ·exact q.elim
 ·exact q.elim
def l8 (g:av->R (List Str)):av->R D:=fun ρ=>(g ρ).bind fun ss=>if ss.length<64 then .ok (.list ((jO ss).map .str)) else .no
theorem tX (hc:c.X.calm=true) (h:Qh c e gset) (hg:Gl c.X "sorted") (hm:c.X.mg "sorted"=none) (he:aw [e] c.X.env=(false,da e c.X.env)::aw [] c.X.env:=by rfl) :
  JE c (.Call (.Name "sorted" p) [e] [] cpos) (l8 gset):=.of fun ρ=>by
 refine qy (oJ (xt hc) hg hm wK (bZ (h ρ) eW he) (he:=he)) fun σ H Q h_2=>?_
 obtain ⟨H0,Hs0,la,Hs,f,q⟩:=h_2
 dsimp only [L2.TX,L2.DL,L2.Mg]
 refine IN (w:=c.X.w) f q fun ss p H1 Hs1 e1 s1 f1 n1=>?_
 unfold l8 at q
 rw [e1,bind_ok] at q
 by_cases hz:ss.length<64
 ·rw [if_pos hz] at q
  have st1:cJ H1 Hs1 (upd H1 p (lN c.X.w p ss)) Hs1:=.mine f1.st.sub n1
  exact ⟨p,ss,rfl,aV,hz,fun l hl=>q _ _ _ (s1.trans (st1.trans (.new st1.sub hl))) (.list (.of aV) (yM _))⟩
 ·rw [if_neg hz] at q;exact q.elim
def v7 (g:av->R (List Str)):av->R D:=fun ρ=>(g ρ).bind fun ss=>.ok (.int ss.length)
theorem Kt (h:Qh c e gset) (hg:Gl c.X "len") (hm:c.X.mg "len"=none) (he:aw [e] c.X.env=(false,da e c.X.env)::aw [] c.X.env:=by rfl) :
  JE c (.Call (.Name "len" p) [e] [] cpos) (v7 gset):=.of fun ρ=>by
 refine qy (oJ As hg hm bC (bZ (h ρ) eW he) (he:=he)) fun σ H Q h_3=>?_
 obtain ⟨H0,Hs0,la,Hs,f,q⟩:=h_3
 dsimp only [L2.TX,L2.DL,L2.Mg]
 refine IN (w:=c.X.w) f q fun ss p H1 Hs1 e1 s1 f1 n1=>?_
 unfold v7 at q
 rw [e1,bind_ok] at q
 have st1:cJ H1 Hs1 (upd H1 p (lN c.X.w p ss)) Hs1:=.mine f1.st.sub n1
 exact ⟨p,ss,rfl,aV,q _ _ _ (s1.trans st1) (.int _)⟩
variable {elt iter tg:b9}{ifs:List b9}{scope:el}{N':List Str}{nt:Nat}{ix:List Nat}{gi:av->R (List D)}{gt:av->R Bool}{ge:av->R D}
def we (nt:Nat) (ix:List Nat) (gi:av->R (List D)) (gt:av->R Bool) (ge:av->R D):av->R (List Str):=fun ρ=>(gi ρ).bind fun ds=>if ds.length<=60 then (i6 (i_ nt (oM nt ix ρ) gt ge) ds).bind fun ys=>match gJ ys with
 | some ss=>.ok (de [] ss)
 | none=>.no else .no
theorem Aw {ys:List D}{xs:List D}:∀ {ss:List Str},gJ (xs++ys)=some ss->∃ s1 s2,gJ xs=some s1/\gJ ys=some s2/\ss=s1++s2:=by
 induction xs with
 | nil=>intro ss h;exact ⟨[],ss,rfl,h,rfl⟩
 | cons d r ih =>
  intro ss h
  cases d with
  | str b =>
   have h:(gJ (r++ys)).map (b::·)=some ss:=h
   cases hr:gJ (r++ys) with
   | none=>rw [hr] at h;cases h
   | some z =>
    rw [hr] at h
    cases h
    obtain ⟨s1,s2,h1,h2,rfl⟩:=ih hr
    exact ⟨b::s1,s2,by show (gJ r).map (b::·)=_;rw [h1];rfl,h2,rfl⟩
  | _=>cases h
theorem y_ (z:Str):∀ (l acc:List Str),de acc (l++[z])=if z∈de acc l then de acc l else de acc l++[z]
 | [],acc=>rfl
 | x::l,acc=>by
  show de _ (l++[z])=_
  rw [y_ z l]
  rfl
inductive XB (f:D->R (Option D)) (ds:List D) (ss:List Str) (H1 Hs1:Hp) (i m:Nat) (acc:List Str) (H':Hp):Prop
 | mk (done bK zs sa sz Hs':_) (h0:ds=done++bK) (h1:done.length=i) (h2:bK.length=m) (h3:cJ H1 Hs1 H' Hs') (h4:acc=de [] sa) (h5:sa.length<=i) (h6:i6 f bK=.ok zs) (h7:gJ zs=some sz) (h8:ss=sa++sz):XB f ds ss H1 Hs1 i m acc H'
theorem Qi {K:a7}{w:ba}{cls:Str->ag}{E:XK}{ρ:av}{σ:St}{H:Hp}{Q:VK} (hnt:nt=1\/nt=2)
  (q:V_ K w cls E ρ (we nt ix gi gt ge ρ) σ H Q) :
  MS w nt ix (VY K cls E ρ (gi ρ)) (Ks K nt) (fun σ H Q=>∃ ρ',LB K cls E0 ρ' (gt ρ') σ H Q) (fun σ H Q=>∃ ρ',TR K cls E0 ρ' (ge ρ') σ H Q) σ H Q:=by
 obtain ⟨H0,Hs0,la,Hs,f,q⟩:=q
 refine ⟨H0,Hs0,la,Hs,f,?_⟩
 unfold we at q
 cases hi:gi ρ with
 | no=>rw [hi] at q;exact q
 | ex x n=>rw [hi] at q;exact q
 | ok ds =>
  rw [hi,bind_ok] at q
  intro J H1 Hs1 Hn s1 sn it
  by_cases hl:ds.length<=60
  ·rw [if_pos hl] at q
   cases hm:i6 (i_ nt (oM nt ix ρ) gt ge) ds with
   | no=>rw [hm] at q;exact q.elim
   | ex x n=>exact (yU (Em _ _ _ _) _ _ _ hm).elim
   | ok ys =>
    rw [hm,bind_ok] at q
    cases hs:gJ ys with
    | none=>rw [hs] at q;exact q.elim
    | some ss =>
     rw [hs] at q
     obtain ⟨lb,fb⟩:=(f.step s1).block nt ix
     refine ⟨XB (i_ nt (oM nt ix ρ) gt ge) ds ss H1 Hs1,
      ⟨ds.length,[],ds,ys,[],ss,Hs1,rfl,rfl,rfl,.refl s1.sub,rfl,eB _,hm,hs,rfl⟩,?_⟩
     rintro i m acc H' ⟨done,bK,zs,sa,sz,Hs',hds,hdl,hrl,st,rfl,yl,hz,hzs,hy⟩
     obtain ⟨igo,istop,iyld⟩:=it H' Hs' (sn.trans st.all) st.sh st.sub
     cases bK with
     | nil =>
      left
      cases hz
      cases hzs
      rw [cj] at hds hy
      subst hy hds
      exact ⟨istop i (by omega),fun p hp=>q p H' Hs' (s1.trans st) hp⟩
     | cons d bK =>
      right
      have hil:i<ds.length:=by rw [hds,aL,aO];omega
      have hol:=gE sa []
      simp at hol
      refine ⟨igo i hil,nV (show (de [] sa).length + 1<=61 by omega) (by decide),fun x H2 hyl=>?_⟩
      obtain ⟨d',Hs2,hd,s2,r2⟩:=iyld i x H2 hil hyl
      have hdd:d'=d:=by
       rw [hds,bj (by omega)] at hd
       simp [hdl] at hd
       exact hd.symm
      subst hdd
      obtain ⟨o,zs',hf,hz',rfl⟩:=yT hz
      have hf:=IK hf
      obtain ⟨so,sz',hso,hsz,rfl⟩:=Aw hzs
      cases hb:UO nt d' (oM nt ix ρ) with
      | no=>rw [hb] at hf;cases hf
      | ex x n=>rw [hb] at hf;cases hf
      | ok ρ' =>
       rw [hb,bind_ok] at hf
       refine El hnt ((fb.step st).step s2) r2 hb fun σ2 f2=>⟨ρ',?_⟩
       refine ⟨_,_,_,Hs2,f2,?_⟩
       cases ht:gt ρ' with
       | no=>rw [ht] at hf;cases hf
       | ex x n=>rw [ht] at hf;cases hf
       | ok b =>
        rw [ht,bind_ok] at hf
        intro H3 Hs3 s3
        cases b with
        | false =>
         rw [if_neg aN] at hf
         cases hf
         cases hso
         refine Cb ⟨bK.length,by rw [<- hrl];simp,done++[d'],bK,zs',sa,sz',Hs3,by rw [hds];simp,by simp [hdl],rfl,(st.trans s2).trans s3,rfl,by omega,hz',hsz,by simpa using hy⟩
        | true =>
         rw [if_pos rfl] at hf
         refine Gw ⟨ρ',_,_,_,Hs3,f2.step s3,?_⟩
         cases he:ge ρ' with
         | no=>rw [he] at hf;cases hf
         | ex x n=>rw [he] at hf;cases hf
         | ok y =>
          rw [he,bind_ok] at hf
          cases hf
          intro v H4 Hs4 s4 r4
          cases r4 with
          | str z =>
           cases hso
           exact ⟨z,bK.length,rfl,by rw [<- hrl];simp,done++[d'],bK,zs',sa++[z],sz',Hs4,by rw [hds];simp,by simp [hdl],rfl,((st.trans s2).trans s3).trans s4,(y_ z sa []).symm,by simp;omega,hz',hsz,by rw [hy];simp⟩
          | none=>cases hso
          | bool _=>cases hso
          | int _=>cases hso
          | list _ _=>cases hso
          | tuple _ _=>cases hso
          | dictK _ _=>cases hso
          | dictT _ _ _=>cases hso
          | dictF _ _ _=>cases hso
  ·rw [if_neg hl] at q;exact q.elim
theorem Nd (nt:Nat) (hnt:nt=1\/nt=2) (hc:c.X.calm=true) (S:o0 c.X scope N' nt ix) (hi:JI c tg iter gi) (hb:v4 c N' scope nt tg ifs elt gt ge) (hs:∀ x,eE iter c.X.env x=pure x:=by intro _;rfl) :
  Qh c (.SetComp elt [⟨tg,iter,ifs,0⟩] scope pos) (we nt ix gi gt ge):=.of fun ρ=>qy (GH hc S (CG hnt) (hi ρ) hb.at hs) fun σ H Q q=>Qi hnt q
end
def bd (n:Nat) (ds:List D):av:=ds.map Sl.shr++bi (n - ds.length) Sl.no
def e_ (n:Nat) (g:av->R Fl):List D->R D:=fun ds=>match g (bd n ds) with
 | .ok (.nx _)=>.ok .none
 | .ok (.rt d)=>.ok d
 | .ex c m=>.ex c m
 | _=>.no
theorem z0 {n:Nat}{ds:List D}{i:Nat}{s:Sl} (h:(bd n ds)[i]?=some s):(∃ d,ds[i]?=some d/\s=.shr d)\/s=.no:=by
 unfold bd at h
 by_cases hi:i<ds.length
 ·rw [bQ (by simpa using hi),aS] at h
  cases hd:ds[i]? with
  | none=>rw [hd] at h;cases h
  | some z=>rw [hd] at h;cases h;exact .inl ⟨z,rfl,rfl⟩
 ·rw [bj (by simp;omega),bO] at h
  split at h<;>cases h
  exact .inr rfl
theorem Ku {N:List Str}{vs:List V}{i:Nat}{v:V} (h:vs[i]?=some v):(L2.start N vs)[i]?=some (some v):=by
 unfold L2.start
 have hi:i<vs.length:=(List.getElem?_eq_some_iff.mp h).1
 rw [bQ (by simpa using hi),aS,h]
 rfl
theorem Fr.start {K : a7} {H Hs : Hp} {N : List Str} {vs : List V} {ds : List D} (sub : dE Hs H) (r : RDs K Hs vs ds) : Fr K H Hs (fun _ => none) (bd N.length ds) (L2.start N vs) H Hs := by
  have hl := r.length
  refine ⟨.refl sub, by simp [bd, L2.start, hl], fun i d h => ?_, fun i d h => ?_, fun i d h => ?_, fun i j d e a h _ _ _ => ?_, fun i a h => (nomatch h), fun i d h => ?_, fun i j d e h _ => ?_⟩
  · rcases z0 h with ⟨z, hz, e⟩ | e
    · cases e
      obtain ⟨v, k1, k2⟩ := r.get' hz
      exact ⟨v, Ku k1, k2⟩
    · cases e
  all_goals (rcases z0 h with ⟨z, _, e⟩ | e <;> cases e)
theorem RC {P:aI}{w:ba}{K:a7}{mg:Str->Option a8}{base:bf}{cls:Str->ag}{x qual:Str}{st:cr}{f:ag}{fd:df}{N ps:List Str}{k:Nat}{g:av->R Fl} (F:DS K x qual st f fd) (S:bu N ps (ax st))
  (h:∀ (cdv:a8) (A:aX) (outer:List Env) (s:af) (H:Hp) (E:XK),ji k (A.deeper (jg qual (ax st) s.heap.objs.size f cdv))->Kp ⟨fX (jD P w) P w K mg base N qual (ax st) f cdv A outer s H E,cls,E⟩ (gT st) g) :
  sJ P w K mg base (jD P w) (k + 1) f fd ps (Ry K cls ps.length (e_ N.length g)):=by
 obtain ⟨oc,od,kV,doc,pm,an,cdv,ct,osl,rfl,lk,hcd⟩:=F.ex
 refine Re lk hcd S (fun vs H Q E h_4=>by obtain ⟨Hs,ds,sub,hn,r,q⟩:=h_4;exact by rw [r.length];exact hn) fun A outer s H vs Q E hr hsp=>?_
 obtain ⟨Hs,ds,sub,hn,r,q⟩:=hsp
 refine ⟨_,h cdv A outer s H E hr (bd N.length ds),H,Hs,_,Hs,Fr.start sub r,?_⟩
 unfold e_ at q
 cases hg:g (bd N.length ds) with
 | no=>rw [hg] at q;exact q
 | ex c n=>rw [hg] at q;exact q
 | ok fl =>
  rw [hg] at q
  cases fl with
  | nx ρ'=>exact fun σ' H' Hs' f'=>q .non H' Hs' f'.st .none
  | rt d=>exact fun v H' Hs' s r=>q v H' Hs' s r
  | bk ρ'=>exact q.elim
  | ct ρ'=>exact q.elim
theorem UR {P:aI}{w:ba}{K:a7}{mg:Str->Option a8}{base:bf}{cls:Str->ag}{x qual:Str}{st:cr}{f:ag}{fd:df}{N ps:List Str}{k:Nat}{g:av->R Fl} (F:DS K x qual st f fd) (S:bu N ps (ax st)) (hm:mg x=some (.ref f)) (hb:jM K fd ps [])
  (h:∀ (cdv:a8) (A:aX) (outer:List Env) (s:af) (H:Hp) (E:XK),ji k (A.deeper (jg qual (ax st) s.heap.objs.size f cdv))->Kp ⟨fX (jD P w) P w K mg base N qual (ax st) f cdv A outer s H E,cls,E⟩ (gT st) g) :
  Fn P w K mg base cls x (k + 1) ps.length (e_ N.length g):=⟨f,fd,ps,RC F S h,hm,F.kp,hb⟩
theorem dZ {X:Cx}:jN (jD X.prog X.w) X E0:=fun _ _ _ _ _ _ _ h=>by
 obtain ⟨_,_,_,_,_,_,_,_,_,q⟩:=h
 exact q.elim
end
section
def clear2 (ρ:av):av:=ρ.map fun s=>match s with
 | .ow2 _=>.no
 | s=>s
section
variable {K:a7}
theorem Fr.clear2 {H0 Hs0 H Hs:Hp}{la:Nat->Option ag}{ρ:av}{σ:St} (f:Fr K H0 Hs0 la ρ σ H Hs):Fr K H0 Hs0 la (clear2 ρ) σ H Hs/\∀ (j:Nat) (d:List (List D)),¬ (J.clear2 ρ)[j]?=some (Sl.ow2 d):=by
 have un:∀ {j:Nat}{s:Sl},(J.clear2 ρ)[j]?=some s->(∀ d,s≠.ow2 d)/\(ρ[j]?=some s\/s=.no):=fun {j s} e=>by
  unfold J.clear2 at e
  rw [aS] at e
  cases h:ρ[j]? with
  | none=>rw [h] at e;cases e
  | some t =>
   rw [h] at e
   cases t with
   | ow2 d=>cases e;exact ⟨fun _ z=>(by cases z),.inr rfl⟩
   | no=>cases e;exact ⟨fun _ z=>(by cases z),.inl rfl⟩
   | shr d=>cases e;exact ⟨fun _ z=>(by cases z),.inl rfl⟩
   | lck d=>cases e;exact ⟨fun _ z=>(by cases z),.inl rfl⟩
   | own d=>cases e;exact ⟨fun _ z=>(by cases z),.inl rfl⟩
 have is:∀ {j:Nat}{s:Sl},s≠.no->(J.clear2 ρ)[j]?=some s->ρ[j]?=some s:=fun {j s} n e=>(un e).2.resolve_right n
 have no2:∀ (j:Nat) (d:List (List D)),¬ (J.clear2 ρ)[j]?=some (Sl.ow2 d):=fun j d e=>(un e).1 d rfl
 exact ⟨⟨f.st,by simp [J.clear2,f.len],fun j d h=>f.sh j d (is (fun z=>by cases z) h),fun j d h=>f.ow j d (is (fun z=>by cases z) h),fun j d h=>f.lk j d (is (fun z=>by cases z) h),fun j k d e a h1 h2=>f.dj j k d e a (is (fun z=>by cases z) h1) (is (fun z=>by cases z) h2),f.lh,fun j d h=>(no2 j d h).elim,fun j k d e h _=>(no2 j d h).elim⟩,no2⟩
end
def re:List ag->Hp->Hp
 | [],H=>H
 | a::as,H=>re as (upd H a (.lst []))
section
variable {c:C}{e:b9}{g gi:av->R D}{pos p apos cpos spos:Pos}{x:Str}
theorem z3:∀ (as:List ag) (H:Hp),(∀ a∈as,H a=none)->as.Nodup->dE H (re as H)
 | [],H,_,_=>.refl H
 | a::as,H,h,nd=>by
  obtain ⟨n1,n2⟩:=List.nodup_cons.mp nd
  refine (j6 (h a al)).trans (z3 as _ (fun b hb=>?_) n2)
  rw [b6 (fun (z:b=a)=>n1 (z ▸ hb))]
  exact h b (ao _ hb)
theorem Et:∀ (as:List ag) (H:Hp),as.Nodup->∀ a∈as,re as H a=some (.lst [])
 | a::as,H,nd,b,hb=>by
  obtain ⟨n1,n2⟩:=List.nodup_cons.mp nd
  show re as (upd H a (.lst [])) b=_
  by_cases hm:b∈as
  ·exact Et as _ n2 b hm
  ·have e:b=a:=(List.mem_cons.mp hb).resolve_right hm
   subst e
   have:∀ (as:List ag) (H:Hp),b∉as->re as H b=H b:=by
    intro as
    induction as with
    | nil=>intro H _;rfl
    | cons c as ih =>
     intro H h
     show re as (upd H c (.lst [])) b=_
     rw [ih _ (fun z=>h (ao _ z)),b6 (fun (z:b=c)=>h (by rw [z];exact al))]
   rw [this as _ hm,aV]
theorem my:∀ (as:List ag) (H:Hp) (b:ag),re as H b=none->H b=none/\b∉as
 | [],H,b,h=>⟨h,by simp⟩
 | a::as,H,b,h=>by
  obtain ⟨h1,h2⟩:=my as (upd H a (.lst [])) b h
  by_cases hb:b=a
  ·subst hb;rw [aV] at h1;cases h1
  ·rw [b6 hb] at h1
   exact ⟨h1,fun z=>(List.mem_cons.mp z).elim hb h2⟩
def Qj (i:Nat):av->R Fl:=fun ρ=>.ok (.nx ((clear2 ρ).set i (.ow2 [[],[],[],[]])))
theorem T8 (i:Nat) {p1 p2 p3 p4:Pos}{pos':Pos} (hN:c.X.N.Nodup) (hi:c.X.N[i]?=some x:=by rfl) (hx:R5 c.X.env.scope x:=by first | exact gP rfl | exact e8 rfl)
  (hs:ig (.List [.List [] p1,.List [] p2,.List [] p3,.List [] p4] p) (some (.Name x pos')) spos.line c.X.env=pure false:=by rfl)
  (hf:c.X.fn x=true\/c.X.env.scope.names.lookup x=some .local:=by first | exact .inl rfl | exact .inr rfl | assumption)
  (h1:aw [.List [] p1,.List [] p2,.List [] p3,.List [] p4] c.X.env=(false,da (.List [] p1) c.X.env)::aw [.List [] p2,.List [] p3,.List [] p4] c.X.env:=by rfl)
  (h2:aw [.List [] p2,.List [] p3,.List [] p4] c.X.env=(false,da (.List [] p2) c.X.env)::aw [.List [] p3,.List [] p4] c.X.env:=by rfl)
  (h3:aw [.List [] p3,.List [] p4] c.X.env=(false,da (.List [] p3) c.X.env)::aw [.List [] p4] c.X.env:=by rfl)
  (h4:aw [.List [] p4] c.X.env=(false,da (.List [] p4) c.X.env)::aw [] c.X.env:=by rfl) :
  JS c (.Assign [.Name x pos'] (.List [.List [] p1,.List [] p2,.List [] p3,.List [] p4] p) spos) (Qj i):=.of fun ρ=>by
 refine Ab (C6 hN hi hx (mj (bZ (mj eW) (bZ (mj eW) (bZ (mj eW) (bZ (mj eW) eW h4) h3) h2) h1)) hs hf) fun D σ H h_0=>?_
 obtain ⟨H0,Hs0,la,Hs,f,q⟩:=h_0
 replace q:pA c.X.K c.cls c.E H0 Hs0 la D (Qj i ρ):=q
 obtain ⟨f,no2⟩:=f.clear2
 refine ⟨eB _,fun a1 n1=>⟨eB _,fun a2 n2=>⟨eB _,fun a3 n3=>⟨eB _,fun a4 n4=>⟨bq (bY (show 4<=1000 by decide)),fun a n=>?_⟩⟩⟩⟩⟩
 have N:=my [a1,a2,a3,a4] H a n
 have N4:=my [a1,a2,a3] H a4 n4
 have N3:=my [a1,a2] H a3 n3
 have N2:=my [a1] H a2 n2
 simp only [aQ,aD,or_false,not_or] at N N4 N3 N2
 have nd:[a1,a2,a3,a4].Nodup:=by
  simp only [List.nodup_cons,aQ,aD,or_false,not_or,iY,and_true,not_false_eq_true]
  exact ⟨⟨dh N2.2,dh N3.2.1,dh N4.2.1⟩,⟨dh N3.2.2,dh N4.2.2.1⟩,dh N4.2.2.2⟩
 have free:∀ b∈[a1,a2,a3,a4],H b=none:=fun b hb=>by
  simp only [aQ,aD,or_false] at hb
  rcases hb with rfl | rfl | rfl | rfl
  ·exact n1
  ·exact N2.1
  ·exact N3.1
  ·exact N4.1
 have nd5:(a::[a1,a2,a3,a4]).Nodup:=List.nodup_cons.mpr ⟨by simp only [aQ,aD,or_false,not_or];exact N.2,nd⟩
 have sm:dE H (re [a1,a2,a3,a4] H):=z3 _ _ free nd
 have all:dE H (upd (re [a1,a2,a3,a4] H) a (.lst [.ref a1,.ref a2,.ref a3,.ref a4])):=sm.trans (j6 n)
 have free5:∀ b∈a::[a1,a2,a3,a4],H b=none:=fun b hb=>(List.mem_cons.mp hb).elim (fun z=>z ▸ N.1) (free b)
 have st:cJ H Hs (upd (re [a1,a2,a3,a4] H) a (.lst [.ref a1,.ref a2,.ref a3,.ref a4])) Hs:=⟨all,.refl _,f.st.sub.trans all,fun _ _ _ _ z=>z⟩
 have f':=f.step st
 have hl:i<σ.length\/¬ i<σ.length:=Decidable.em _
 have nx:∀ {j:Nat}{s:Sl},(∀ d,s≠.ow2 d)->((clear2 ρ).set i (.ow2 [[],[],[],[]]))[j]?=some s->(clear2 ρ)[j]?=some s/\i≠j:=fun {j s} hs e=>by
  by_cases hj:i=j
  ·subst hj
   by_cases hi:i<(clear2 ρ).length
   ·rw [aJ hi] at e;exact absurd (bH e).symm (hs _)
   ·rw [cB (by simpa using hi)] at e;cases e
  ·rw [aj hj] at e;exact ⟨e,hj⟩
 refine q _ _ Hs ⟨f'.st,by simp [f'.len],fun j d h=>?_,fun j d h=>?_,fun j d h=>?_,fun j k d d' b h1 h2 h3 h4=>?_,f'.lh,fun j d h=>?_,fun j k d d' h1 h2=>?_⟩
 ·obtain ⟨h,hj⟩:=nx (fun _ z=>by cases z) h
  rw [aj hj];exact f'.sh j d h
 ·obtain ⟨h,hj⟩:=nx (fun _ z=>by cases z) h
  rw [aj hj];exact f'.ow j d h
 ·obtain ⟨h,hj⟩:=nx (fun _ z=>by cases z) h
  rw [aj hj];exact f'.lk j d h
 ·obtain ⟨h1,hj⟩:=nx (fun _ z=>by cases z) h1
  obtain ⟨h2,hk⟩:=nx (fun _ z=>by cases z) h2
  rw [aj hj] at h3
  rw [aj hk] at h4
  exact f'.dj j k d d' b h1 h2 h3 h4
 ·by_cases hj:i=j
  ·subst hj
   by_cases hi:i<(clear2 ρ).length
   ·rw [aJ hi] at h
    cases h
    have at4:=Et [a1,a2,a3,a4] H nd
    have ne:∀ b∈[a1,a2,a3,a4],b≠a:=fun b hb z=>(List.nodup_cons.mp nd5).1 (z ▸ hb)
    have go:∀ b∈[a1,a2,a3,a4],upd (re [a1,a2,a3,a4] H) a (.lst [.ref a1,.ref a2,.ref a3,.ref a4]) b=some (.lst []):=fun b hb=>by rw [b6 (ne b hb)];exact at4 b hb
    refine ⟨a,[a1,a2,a3,a4],aJ (by rw [<- f'.len];exact hi),aV,nd5,fun b hb=>⟨f.st.sub.free (free5 b hb),f.st.all.free (free5 b hb)⟩,fun b hb k e hk=>?_,.cons (go _ (by simp)) .nil (.cons (go _ (by simp)) .nil (.cons (go _ (by simp)) .nil (.cons (go _ (by simp)) .nil .nil)))⟩
    obtain ⟨hk,nk⟩:=nx (fun _ z=>by cases z) hk
    rw [aj nk]
    intro z
    obtain ⟨b',o,k1,k2,_⟩:=f.ow k e hk
    rw [z] at k1
    cases k1
    rw [free5 b hb] at k2;cases k2
   ·rw [cB (by simpa using hi)] at h;cases h
  ·rw [aj hj] at h;exact (no2 j d h).elim
 ·by_cases hj:i=j
  ·by_cases hk:i=k
   ·exact hj.symm.trans hk
   ·rw [aj hk] at h2;exact (no2 k d' h2).elim
  ·rw [aj hj] at h1;exact (no2 j d h1).elim
theorem Nf {st:cr}{gs:av->R Fl} (h:JS c st gs):JS c st (fun ρ=>gs (dB ρ)):=.of fun ρ=>Ab (h (dB ρ)) fun D σ H h_1=>by
 obtain ⟨H0,Hs0,la,Hs,f,q⟩:=h_1
 obtain ⟨Hs',f'⟩:=f.shared
 exact ⟨H0,Hs0,la,Hs',f',q⟩
def shareAt (i:Nat) (ρ:av):av:=match ρ[i]? with
 | some (Sl.own d)=>ρ.set i (.shr d)
 | _=>ρ
theorem Fr.shareAt {K:a7}{H0 Hs0 H Hs:Hp}{la:Nat->Option ag}{ρ:av}{σ:St} (f:Fr K H0 Hs0 la ρ σ H Hs) (i:Nat):∃ Hs',Fr K H0 Hs0 la (J.shareAt i ρ) σ H Hs':=by
 unfold J.shareAt
 split
 ·rename_i d ho
  obtain ⟨a,o,k1,k2,k3,k4,k5⟩:=f.ow i d ho
  have hil:i<ρ.length:=(List.getElem?_eq_some_iff.mp ho).1
  have up:dE Hs (upd Hs a o):=j6 k3
  have nx:∀ {j:Nat}{s:Sl},(∀ d,s≠.shr d)->(ρ.set i (.shr d))[j]?=some s->ρ[j]?=some s/\i≠j:=fun {j s} hs e=>by
   by_cases hj:i=j
   ·subst hj
    rw [aJ hil] at e;exact absurd (bH e).symm (hs d)
   ·rw [aj hj] at e;exact ⟨e,hj⟩
  have ne:∀ (j:Nat) (e:D) (b:ag),i≠j->ρ[j]?=some (Sl.own e)->σ[j]?=some (some (V.ref b))->b≠a:=fun j e b hj h hb z=>by
   subst z
   exact hj (f.dj i j d e b ho h k1 hb)
  refine ⟨upd Hs a o,⟨f.st.all,f.st.sh.trans up,fun b u e=>?_,fun b u e t z=>?_⟩,by simp [f.len],fun j e h=>?_,fun j e h=>?_,fun j e h=>?_,fun j k d1 d2 b h1 h2 h3 h4=>?_,f.lh,fun j e h=>?_,fun j k d1 d2 h1 h2=>?_⟩
  ·by_cases hb:b=a
   ·subst hb;rw [aV] at e;cases e;exact k2
   ·rw [b6 hb] at e;exact f.st.sub b u e
  ·rw [b6 (bn e k4)];exact f.st.out b u e t z
  ·by_cases hj:i=j
   ·subst hj
    rw [aJ hil] at h
    cases h
    exact ⟨_,k1,k5.share k3⟩
   ·rw [aj hj] at h
    obtain ⟨v,q1,q2⟩:=f.sh j e h
    exact ⟨v,q1,q2.same up⟩
  ·obtain ⟨h,hj⟩:=nx (fun _ z=>by cases z) h
   obtain ⟨b,u,q1,q2,q3,q4,q5⟩:=f.ow j e h
   exact ⟨b,u,q1,q2,by rw [b6 (ne j e b hj h q1)];exact q3,q4,q5.same up⟩
  ·obtain ⟨h,hj⟩:=nx (fun _ z=>by cases z) h
   obtain ⟨b,u,q1,q2,q3,q4,q5,q6⟩:=f.lk j e h
   exact ⟨b,u,q1,q2,q3,by rw [b6 (bn q5 k4)];exact q4,q5,q6.same up⟩
  ·exact f.dj j k d1 d2 b (nx (fun _ z=>by cases z) h1).1 (nx (fun _ z=>by cases z) h2).1 h3 h4
  ·obtain ⟨h,hj⟩:=nx (fun _ z=>by cases z) h
   obtain ⟨b,as,O⟩:=f.o2 j e h
   refine ⟨b,as,O.at_,O.ob,O.nd,fun c hc=>⟨?_,(O.out c hc).2⟩,fun c hc k e' hk=>O.dj c hc k e' (nx (fun _ z=>by cases z) hk).1,O.inn.step (.refl _) up⟩
   rw [b6 (fun z=>O.dj c hc i d ho (by rw [z];exact k1))]
   exact (O.out c hc).1
  ·exact f.u2 j k d1 d2 (nx (fun _ z=>by cases z) h1).1 (nx (fun _ z=>by cases z) h2).1
 ·exact ⟨Hs,f⟩
theorem GS (i:Nat) {st:cr}{gs:av->R Fl} (h:JS c st gs):JS c st (fun ρ=>gs (shareAt i ρ)):=.of fun ρ=>Ab (h (shareAt i ρ)) fun D σ H h_2=>by
 obtain ⟨H0,Hs0,la,Hs,f,q⟩:=h_2
 obtain ⟨Hs',f'⟩:=f.shareAt i
 exact ⟨H0,Hs0,la,Hs',f',q⟩
theorem Be.get {K:a7}{H Hs:Hp}{as:List ag}{dss:List (List D)} (h:Be K H Hs as dss):∀ {j:Nat}{ds:List D},dss[j]?=some ds->∃ b vs,as[j]?=some b/\H b=some (.lst vs)/\RDs K Hs vs ds:=by
 induction h with
 | nil=>intro j ds e;cases e
 | cons h r t ih =>
  intro j ds e
  cases j with
  | zero=>cases e;exact ⟨_,_,rfl,h,r⟩
  | succ j=>have q:=ih (j:=j) e;exact q
theorem Be.set {K:a7}{H Hs:Hp}{vs':List V}{ds':List D} (r':RDs K Hs vs' ds'):∀ {as:List ag}{dss:List (List D)}{j:Nat}{b:ag},Be K H Hs as dss->as[j]?=some b->as.Nodup->Be K (L2.upd H b (.lst vs')) Hs as (dss.set j ds')
 | _,_,_,_,.nil,h,_=>by simp at h
 | _,_,0,b,.cons h r t,e,nd=>by
  simp at e
  subst e
  exact .cons aV r' (t.upd (List.nodup_cons.mp nd).1)
 | _,_,j + 1,b,.cons (a:=a) h r t,e,nd=>by
  have e':_:=e
  simp only [jJ] at e'
  obtain ⟨n1,n2⟩:=List.nodup_cons.mp nd
  have hb:b∈_:=fc e'
  exact .cons (by rw [b6 (fun z=>n1 (by rw [z];exact hb))];exact h) r (Be.set r' t e' n2)
def oO (i:Nat) (gi g:av->R D):av->R Fl:=fun ρ=>match ρ[i]? with
 | some (Sl.ow2 dss)=>(gi ρ).bind fun k=>match k with
  | .int j=>if 0<=j then (match dss[j.toNat]? with
   | some ds=>(g ρ).bind fun d=>if ds.length<1000 then .ok (.nx (ρ.set i (.ow2 (dss.set j.toNat (ds++[d]))))) else .no
   | none=>.no) else .no
  | _=>.no
 | _=>.no
variable {ie:b9}
theorem zb (i:Nat) (hie:JE c ie gi) (h:JE c e g) (hN:c.X.N[i]?=some x:=by rfl) (hv:LA c.X.env.scope x:=by first | exact gP rfl | exact e8 (gP rfl) | exact e8 (e8 rfl)) (hd:(x == ("__debug__" : Str))=false:=by decide)
  (hcd:(x == ("__classdict__" : Str))=false:=by decide) {p3:Pos} (hpx:xQ ie:=by exact fun _ _=>rfl)
  (hbase:xN (.Subscript (.Name x p) ie p3) "append" c.X.env (da (.Subscript (.Name x p) ie p3) c.X.env)=da (.Subscript (.Name x p) ie p3) c.X.env:=by rfl)
  (hfew:((eV cpos (aw [e] c.X.env)).all (fun x=>!x.1) && (P1 cpos (DB [] c.X.env)).all (fun x=>x.1.isSome)
   && decide ([e].length + ([] : List tH).length + (if ([] : List tH).isEmpty then 0 else 1)<30))=true:=by rfl)
  (hline:(apos.endLine == cpos.line)=true:=by rfl) (hst:aw [e] c.X.env=(false,da e c.X.env)::aw [] c.X.env:=by rfl) (hplain:(eV cpos (aw [] c.X.env)).any (·.1)=false:=by rfl)
  (hs:ig (.Call (.Attribute (.Subscript (.Name x p) ie p3) "append" apos) [e] [] cpos) none pos.line c.X.env=pure false:=by rfl) :
  JS c (.Expr (.Call (.Attribute (.Subscript (.Name x p) ie p3) "append" apos) [e] [] cpos) pos) (oO i gi g):=.of fun ρ=>by
 refine Ab (rP (yv dR Ai Aj B6 (Rg rR (n_ hN hv hd hcd) (hie ρ) hpx) (bZ (h ρ) eW hst) hbase hfew hline hst hplain) hs) fun D σ H h_3=>?_
 obtain ⟨H0,Hs0,la,Hs,f,q⟩:=h_3
 replace q:pA c.X.K c.cls c.E H0 Hs0 la D (oO i gi g ρ):=q
 unfold oO at q
 split at q
 ·rename_i dss ho
  obtain ⟨a,as,O⟩:=f.o2 i dss ho
  refine ⟨_,O.at_,?_⟩
  refine sE f q fun k v H1 Hs1 e1 s1 f1 r1=>?_
  rw [e1,bind_ok] at q
  cases r1 with
  | int j =>
   simp only at q
   by_cases hj:0<=j
   ·rw [if_pos hj] at q
    split at q
    ·rename_i ds hds
     obtain ⟨b,vs,hb,hH,rv⟩:=O.inn.get hds
     have hix:DP (as.map V.ref) j=some (.ref b):=by
      have:=rQ (xs:=as.map V.ref) (j:=j.toNat) (v:=V.ref b) (by rw [aS,hb];rfl)
      rwa [fv hj] at this
     refine ⟨a,_,j,_,rfl,rfl,.of (s1.all _ _ O.ob),hix,.inl ⟨rfl,_,.of (s1.all _ _ hH)⟩,?_⟩
     refine sE f1 q fun d w H2 Hs2 e2 s2 f2 r2=>?_
     rw [e2,bind_ok] at q
     by_cases hl:ds.length<1000
     ·rw [if_pos hl] at q
      have st:=s1.trans s2
      refine ⟨b,vs,w,rfl,rfl,st.all _ _ hH,bY (by rw [rv.length];omega),?_⟩
      have hil:i<ρ.length:=(List.getElem?_eq_some_iff.mp ho).1
      obtain ⟨a',as',O2'⟩:=f2.o2 i dss ho
      have ea:a'=a:=by
       have:=O2'.at_
       rw [O.at_] at this
       cases this;rfl
      subst ea
      have eas:as'=as:=by
       have h1:=O2'.ob
       rw [st.all _ _ O.ob] at h1
       injection h1 with h1
       injection h1 with h1
       exact (Ly (fun x y z=>by cases z;rfl) |>.mp h1).symm
      subst eas
      have hbm:b∈a'::as':=ao _ (fc hb)
      have nb:b≠a':=fun z=>(List.nodup_cons.mp O.nd).1 (z ▸ fc hb)
      obtain ⟨bs,b0⟩:=O2'.out b hbm
      have nx:∀ {j':Nat}{s:Sl},(∀ d,s≠.ow2 d)->(ρ.set i (.ow2 (dss.set j.toNat (ds++[d]))))[j']?=some s->ρ[j']?=some s/\i≠j':=fun {j' s} hs e=>by
       by_cases hj:i=j'
       ·subst hj
        rw [aJ hil] at e;exact absurd (bH e).symm (hs _)
       ·rw [aj hj] at e;exact ⟨e,hj⟩
      refine q _ _ Hs2 ⟨⟨fun c u e=>?_,f2.st.sh,fun c u e=>?_,f2.st.out⟩,by simp [f2.len],fun j' d' h=>f2.sh j' d' (nx (fun _ z=>by cases z) h).1,fun j' d' h=>?_,fun j' d' h=>?_,fun j' k' d' e' a h1 h2=>f2.dj j' k' d' e' a (nx (fun _ z=>by cases z) h1).1 (nx (fun _ z=>by cases z) h2).1,f2.lh,fun j' d' h=>?_,fun j' k' d' e' h1 h2=>?_⟩
      ·rw [b6 (bn e b0)];exact f2.st.all c u e
      ·rw [b6 (bn e bs)];exact f2.st.sub c u e
      ·obtain ⟨h,_⟩:=nx (fun _ z=>by cases z) h
       obtain ⟨c',u,k1,k2,k3,k4,k5⟩:=f2.ow j' d' h
       refine ⟨c',u,k1,?_,k3,k4,k5⟩
       rw [b6 (fun z=>O2'.dj b hbm j' d' h (by rw [<- z];exact k1))]
       exact k2
      ·obtain ⟨h,_⟩:=nx (fun _ z=>by cases z) h
       obtain ⟨c',u,k1,k2,k3,k4,k5,k6⟩:=f2.lk j' d' h
       refine ⟨c',u,k1,k2,?_,k4,k5,k6⟩
       rw [b6 (bn k5 b0)]
       exact k3
      ·by_cases hj':i=j'
       ·subst hj'
        rw [aJ hil] at h
        cases h
        refine ⟨a',as',O2'.at_,by rw [b6 (dh nb)];exact O2'.ob,O2'.nd,O2'.out,fun c hc k e' hk=>O2'.dj c hc k e' (nx (fun _ z=>by cases z) hk).1,?_⟩
        exact Be.set ((rv.same st.sh).append (.cons r2 .nil)) O2'.inn hb (List.nodup_cons.mp O2'.nd).2
       ·rw [aj hj'] at h
        exact (hj' (f2.u2 i j' _ _ ho h)).elim
      ·by_cases hj':i=j'
       ·by_cases hk':i=k'
        ·exact hj'.symm.trans hk'
        ·rw [aj hk'] at h2
         exact (hk' (f2.u2 i k' _ _ ho h2)).elim
       ·rw [aj hj'] at h1
        exact (hj' (f2.u2 i j' _ _ ho h1)).elim
     ·rw [if_neg hl] at q;exact q.elim
    ·exact q.elim
   ·rw [if_neg hj] at q;exact q.elim
  | none=>exact q.elim
  | bool _=>exact q.elim
  | str _=>exact q.elim
  | list _ _=>exact q.elim
  | tuple _ _=>exact q.elim
  | dictK _ _=>exact q.elim
  | dictT _ _ _=>exact q.elim
  | dictF _ _ _=>exact q.elim
 ·exact q.elim
end
end
section
open PyProof.Rows (OwnCls)
theorem Qk (l:ag) (items:Array a8) (n:Nat) (b:ag) (dd:Option ag) (items2:Array a8) (n2:Nat) (sl:Array (Option a8)) (door:¬(!items.isEmpty && fZ (items.size + items2.size))=true) (z1:items.size<=sizeLine) (z2:items.size + items2.size<=sizeLine + 1) :
  Meets (gj.«list.extend» ⟨[.ref l,.ref b],[]⟩) (fun _ R s=>s.heap.get? l=some { cls:=.type "list",data:=.seq items n }/\s.heap.get? b=some { cls:=.type "list",dict:=dd,data:=.seq items2 n2,slots:=sl } /\
   R (.ok (.ret dQ)) { s with heap:=s.heap.update l (jH fun xs=>xs++items2),toks:=s.toks }) :=
 .of_wp fun prog w A R s h=>by
  obtain ⟨hp,gg,dr,tk,os⟩:=s
  obtain ⟨hl,hb,h⟩:=h
  have f1:=AutoSeq1.idx_int
  have f2:=AutoSeq1.sub_tuple_tuple
  have f3:=AutoSeq1.sub_list_list
  have f4:=AutoSeq1.sub_tuple_list
  have f5:=AutoSeq1.sub_list_tuple
  have qq:(items++items2).size<=sizeLine + 1:=by rw [Lz];exact z2
  wp_walk using (DF hl rfl (hz:=z1) (_hz':=qq)),wpAny_loadPart' hl,wpAny_loadPart' hb
  exact ⟨_,rfl,h⟩
section
variable {X:Cx}
inductive RE (K:a7) (x:V) (vs:List V) (H:Hp) (Q:VK):Prop
 | mk (l b xs zs:_) (h0:x=.ref l) (h1:vs=[.ref b]) (h2:H l=some (.lst xs)) (h3:mZ K H b zs) (h4:xs.length + zs.length<=sizeLine) (h5:Q .non (upd H l (.lst (xs++zs)))):RE K x vs H Q
def WV (K:a7):V->List V->Hp->VK->Prop:=RE K
theorem T9:WC X "list.extend" (WV X.K):=by
 intro pins s σ H x vs v us Q I rx rv h
 obtain ⟨l,b,xs,zs,rfl,rfl,hH,hB,hz,q⟩:=h
 cases rx
 obtain ⟨u,rfl,ru⟩:=rv.one
 cases ru
 obtain ⟨z,its,n,r,hl,e⟩:=I.lstM hH
 obtain ⟨its2,r2,⟨⟨m1,m2,m3,m4⟩,n2,e2,d1,d2,d3⟩,z2⟩:=I.list hB
 simp only at d1 d2 d3
 subst d1 d2 d3
 have len2:=r2.length
 have fit:its.toArray.size + its2.toArray.size<=sizeLine:=by rw [aH,aH];omega
 refine mf P2 ⟨_,e,rfl⟩ OQ (LL _ _) (Qk l its.toArray n b _ its2.toArray n2 m4 ?_ (by omega) (by omega)) ⟨e,e2,?_⟩
 ·rw [yw fit,iW]
  exact aN
 ·refine ⟨.non,_,I.lset (its':=its++its2) hH e (by simp) (r.append r2) ?_,rfl,q⟩
  rw [aL]
  omega
end
section
variable {c:C}{e:b9}{g:av->R D}{pos p apos cpos:Pos}{x:Str}
def CL (i:Nat) (g:av->R D):av->R Fl:=fun ρ=>match ρ[i]? with
 | some (Sl.own (.list ds))=>(g ρ).bind fun d=>match d with
  | .list es=>if ds.length + es.length<=1000 then .ok (.nx (ρ.set i (.own (.list (ds++es))))) else .no
  | _=>.no
 | _=>.no
theorem r_ (i:Nat) (h:JE c e g) (hN:c.X.N[i]?=some x:=by rfl) (hv:LA c.X.env.scope x:=by first | exact gP rfl | exact e8 (gP rfl) | exact e8 (e8 rfl)) (hd:(x == ("__debug__" : Str))=false:=by decide)
  (hcd:(x == ("__classdict__" : Str))=false:=by decide)
  (hbase:xN (.Name x p) "extend" c.X.env (da (.Name x p) c.X.env)=da (.Name x p) c.X.env:=by rfl)
  (hfew:((eV cpos (aw [e] c.X.env)).all (fun x=>!x.1) && (P1 cpos (DB [] c.X.env)).all (fun x=>x.1.isSome)
   && decide ([e].length + ([] : List tH).length + (if ([] : List tH).isEmpty then 0 else 1)<30))=true:=by rfl)
  (hline:(apos.endLine == cpos.line)=true:=by rfl) (hst:aw [e] c.X.env=(false,da e c.X.env)::aw [] c.X.env:=by rfl) (hplain:(eV cpos (aw [] c.X.env)).any (·.1)=false:=by rfl)
  (hs:ig (.Call (.Attribute (.Name x p) "extend" apos) [e] [] cpos) none pos.line c.X.env=pure false:=by rfl) :
  JS c (.Expr (.Call (.Attribute (.Name x p) "extend" apos) [e] [] cpos) pos) (CL i g):=.of fun ρ=>by
 refine Ab (rP (yv dR nW nX T9 (n_ hN hv hd hcd) (bZ (h ρ) eW hst) hbase hfew hline hst hplain) hs) fun D σ H h_0=>?_
 obtain ⟨H0,Hs0,la,Hs,f,q⟩:=h_0
 replace q:pA c.X.K c.cls c.E H0 Hs0 la D (CL i g ρ):=q
 unfold CL at q
 split at q
 ·rename_i ds ho
  obtain ⟨a,o,k1,k2,k3,k4,k5⟩:=f.ow i _ ho
  cases k5 with
  | @lst vs _ r =>
   refine ⟨_,k1,.inl ⟨rfl,_,.of k2⟩,?_⟩
   refine sE f q fun d v H1 Hs1 e1 s1 f1 r1=>?_
   rw [e1,bind_ok] at q
   cases r1 with
   | @list b zs es sq rs =>
    simp only at q
    by_cases hl:ds.length + es.length<=1000
    ·rw [if_pos hl] at q
     have r':=r.same s1.sh
     exact ⟨a,b,vs,zs,rfl,rfl,s1.all _ _ k2,f1.st.sub.seq sq,bq (bY (by rw [r.length,rs.length];exact hl)),q _ _ Hs1 (f1.write i ho k1 (.lst (r'.append rs)))⟩
    ·rw [if_neg hl] at q;exact q.elim
   | none=>exact q.elim
   | bool _=>exact q.elim
   | int _=>exact q.elim
   | str _=>exact q.elim
   | tuple _ _=>exact q.elim
   | dictK _ _=>exact q.elim
   | dictT _ _ _=>exact q.elim
   | dictF _ _ _=>exact q.elim
 ·exact q.elim
end
structure Er (mg:Str->Option a8) (base:bf) (cls:Str->ag) (x:Str):Prop where
 ex:∃ bmB newId initId Bn,OwnCls x (cls x) bmB newId mg base/\tN Bn newId initId bmB
def rf (x:Str) (gs:av->R (List D)):av->R Fl:=fun ρ=>(gs ρ).bind fun ds=>if ds.length<=1000 then .ex x none else .no
section
variable {P:aI}{w:ba}{K:a7}{mg:Str->Option a8}{base:bf}{N:List Str}{qual:Str}{scope:el}{f:ag}{cd:a8}{A:aX}{outer:List Env}{s:af}{H:Hp}{E:XK}{cls:Str->ag}
theorem zc {x:Str}{np cpos pos:Pos}{e0:b9}{bK:List b9}{gs:av->R (List D)} (R0:Er mg base cls x)
  (hg:Gl (fX (jD P w) P w K mg base N qual scope f cd A outer s H E) x) (ha:Bf ⟨fX (jD P w) P w K mg base N qual scope f cd A outer s H E,cls,E⟩ (e0::bK) gs)
  (he:aw (e0::bK) (fX (jD P w) P w K mg base N qual scope f cd A outer s H E).env=(false,da e0 (fX (jD P w) P w K mg base N qual scope f cd A outer s H E).env)::aw bK (fX (jD P w) P w K mg base N qual scope f cd A outer s H E).env:=by rfl)
  (hdb:(x == ("__debug__" : Str))=false:=by decide) (hpl:(eV cpos (aw bK (fX (jD P w) P w K mg base N qual scope f cd A outer s H E).env)).any (·.1)=false:=by rfl) :
  JS ⟨fX (jD P w) P w K mg base N qual scope f cd A outer s H E,cls,E⟩ (.Raise (some (.Call (.Name x np) (e0::bK) [] cpos)) none pos) (rf x gs):=.of fun ρ=>by
 obtain ⟨bmB,newId,initId,Bn,O,FB⟩:=R0.ex
 refine Ab (ML O FB hg (ha ρ) he hdb hpl) fun D σ H1 h_1=>?_
 obtain ⟨H0,Hs0,la,Hs,f,q⟩:=h_1
 replace q:pA K cls E H0 Hs0 la D (rf x gs ρ):=q
 refine ⟨H0,Hs0,la,Hs,f,?_⟩
 unfold rf at q
 cases hr:gs ρ with
 | no=>rw [hr] at q;exact q
 | ex y n=>rw [hr] at q;exact fun H' Hs' s=>q H' Hs' (f.st.trans s)
 | ok ds =>
  rw [hr,bind_ok] at q
  intro vs H2 Hs2 s2 r2
  by_cases hl:ds.length<=1000
  ·rw [if_pos hl] at q
   exact ⟨bq (bY (by rw [r2.length];exact hl)),q H2 Hs2 (f.st.trans s2)⟩
  ·rw [if_neg hl] at q;exact q.elim
end
end
section
structure Bi (mg:Str->Option a8):Prop where
 len:mg "len"=none
 isinstance:mg "isinstance"=none
 all:mg "all"=none
 any:mg "any"=none
 zip:mg "zip"=none
 tuple:mg "tuple"=none
 list:mg "list"=none
 sorted:mg "sorted"=none
 set:mg "set"=none
 range:mg "range"=none
 enumerate:mg "enumerate"=none
 dict:mg "dict"=none
 sum:mg "sum"=none
 max:mg "max"=none
 min:mg "min"=none
 reversed:mg "reversed"=none
 str:mg "str"=none
 int:mg "int"=none
 bool:mg "bool"=none
end
section
structure Xf (K:a7) (base:bf) (cls:Str->ag) (names:List Str) (C:ag) (j:Nat):Prop where
 ek:MN K C
 is:∀ i n,names[i]?=some n->dA K (.ref C) (.ref (cls n))=some (decide (i=j))
 ve:dA K (.ref C) (.type "ValueError")=some true
 ox:∃ bm,Cr base C bm/\bm.contains (.ref (cls "PlanError"))=true
 lt:j<11
inductive RF (K:a7) (base:bf) (cls:Str->ag) (names:List Str) (vs:List V) (H:Hp) (Q:VK) (z_3:XK):Prop
 | mk (ea C j:_) (h0:vs=[.ref ea]) (h1:H ea=some (yH ea C)) (h2:Xf K base cls names C j) (h3:∀ t H',dE H H'->H t=none->H' t=some (.tup [.str "refused",.int (j:Nat)])->Q (.ref t) H'):RF K base cls names vs H Q z_3
def Ta (K:a7) (base:bf) (cls:Str->ag) (names:List Str):Sp:=RF K base cls names
def bits (j:Nat):List Bool:=[decide (0=j),decide (1=j),decide (2=j),decide (3=j),decide (4=j),decide (5=j),decide (6=j),decide (7=j),decide (8=j),decide (9=j),decide (10=j)]
theorem GT:∀ j,j<11->(bits j).countP id=1:=by
 intro j h
 have:∀ k:_root_.Fin 11,(bits k.val).countP id=1:=by decide
 exact this ⟨j,h⟩
theorem Ql:∀ j,j<11->(bits j)[j]?=some true/\∀ m,m<j->(bits j)[m]?=some false:=by
 intro j h
 have:∀ k:_root_.Fin 11,(bits k.val)[k.val]?=some true/\∀ m:_root_.Fin 11,m.val<k.val->(bits k.val)[m.val]?=some false:=by decide
 exact ⟨(this ⟨j,h⟩).1,fun m hm=>(this ⟨j,h⟩).2 ⟨m,by omega⟩ hm⟩
section
variable {X:Cx}{cls:Str->ag}{names:List Str}{base:bf}
theorem mz {e0:b9}{n:Str}{p p2 pos:Pos} (h0:PE X e0 (JZ 0)) (hg:Gl X "isinstance") (hm:X.mg "isinstance"=none) (hgn:Gl X n) (hmn:X.mg n=some (.ref (cls n))) (hdb:(n == ("__debug__" : Str))=false:=by decide)
  (he:aw [e0,.Name n p2] X.env=(false,da e0 X.env)::aw [.Name n p2] X.env:=by rfl) (hpl:(eV pos (aw [.Name n p2] X.env)).any (·.1)=false:=by rfl) :
  PE X (.Call (.Name "isinstance" p) [e0,.Name n p2] [] pos) (fun σ H Q=>∃ ea C j i,σ[0]?=some (some (V.ref ea))/\H ea=some (yH ea C)/\Xf X.K base cls names C j/\names[i]?=some n/\Q (.bl (decide (i=j))) H) :=
 qy (oJ wQ hg hm kd (bZ h0 (bZ (C3 hgn hmn (v:=.ref (cls n)) rfl hdb) eW) he) (by decide) (by decide) he hpl) fun σ H Q ⟨ea,C,j,i,h1,h2,x,h3,q⟩ =>
  ⟨_,h1,.ref ea,.ref (cls n),.ref (cls n),_,rfl,.inr ⟨_,rfl,rfl⟩,.inr ⟨ea,C,rfl,h2,x.ek,x.is i n h3⟩,q⟩
theorem Qm {e0:b9}{p p2 pos:Pos} (h0:PE X e0 (JZ 0)) (hg:Gl X "isinstance") (hm:X.mg "isinstance"=none) (hgn:Gl X "ValueError") (hmn:X.mg "ValueError"=none)
  (he:aw [e0,.Name "ValueError" p2] X.env=(false,da e0 X.env)::aw [.Name "ValueError" p2] X.env:=by rfl) (hpl:(eV pos (aw [.Name "ValueError" p2] X.env)).any (·.1)=false:=by rfl) :
  PE X (.Call (.Name "isinstance" p) [e0,.Name "ValueError" p2] [] pos) (fun σ H Q=>∃ ea C j,σ[0]?=some (some (V.ref ea))/\H ea=some (yH ea C)/\Xf X.K base cls names C j/\Q (.bl true) H) :=
 qy (oJ wQ hg hm kd (bZ h0 (bZ (Ih hgn hmn (u:=.type "ValueError") (v:=.ty "ValueError") rfl rfl) eW) he) (by decide) (by decide) he hpl) fun σ H Q ⟨ea,C,j,h1,h2,x,q⟩ =>
  ⟨_,h1,.ref ea,.ty "ValueError",.type "ValueError",_,rfl,.inl ⟨_,rfl,rfl⟩,.inr ⟨ea,C,rfl,h2,x.ek,x.ve⟩,q⟩
end
end
end J
section
namespace J
open PySem L2
def Kv (wh:Str->Option Nat) (gb:av->R Fl):av->R Fl:=fun ρ=>match gb ρ with
 | .ok fl=>.ok fl
 | .ex y none=>match wh y with
  | some j=>.ok (.rt (.tuple [.str "refused",.int (j:Nat)]))
  | none=>.no
 | _=>.no
structure Wh (P:aI) (w:ba) (K:a7) (mg:Str->Option a8) (base:bf) (cls:Str->ag) (x:Str) (names:List Str) (wh:Str->Option Nat):Prop where
 fn:∃ f fd ps,E9 P w K mg base 1 f fd ps (Ta K base cls names)/\mg x=some (.ref f)/\dX K (.ref f)=true/\jM K fd ps []
 pe:mg "PlanError"=some (.ref (cls "PlanError"))
 ox:∃ bp,Cr base (cls "PlanError") bp
 xf:∀ y j,wh y=some j->Xf K base cls names (cls y) j
section
variable {c:C}{body:List cr}{x n:Str}{np np2 np3 hpos cpos rpos pos:Pos}{gb:av->R Fl}{names:List Str}{wh:Str->Option Nat}
end
end J
namespace L2
open PySem
theorem mn.mono1 {k:Nat}{A:aX} (r:mn k A) (h:1<=k:=by decide):mn 1 A:=⟨by have:=r.dp;omega,by have:=r.un;omega⟩
end L2
end
namespace J
open PySem L2
section
open PyProof.Rows (OwnCls)
abbrev Qn:List a8:=[.type "ValueError",.type "Exception",.type "BaseException",.type "object"]
theorem GU {K:a7}{h:bf}{mg:Str->Option a8}{x:Str}{C:ag}{bmB:List a8}{newId:String} (X:K.In h) (G:h.Ns bA mg) (e:gC K bA x=some (some (.ref C))) (q:Ak K C bmB newId=true) (m1:cp K C (.type "BaseException")=some true) :
  OwnCls x C bmB newId mg h/\∃ bm,Cr h C bm/\∀ v,(v == bE C)=false->cp K C v=some true->bm.contains v=true:=by
 have hmg:=j4 X G e
 unfold Ak at q
 split at q
 ·rename_i dd cd sl look
  split at q
  ·rename_i C' bm k0 k1 k2 k3 n k5 hmro hslots
   simp only [aP,beq_iff_eq,LS] at q
   obtain ⟨⟨⟨⟨⟨rfl,rfl⟩,nodel⟩,tl⟩,nsok⟩,noinit⟩:=q
   have slots:sl=#[k0,k1,k2,k3,some (.builtin n),k5]:=by
    cases sl with | mk l=>simp only at hslots;rw [hslots]
   have inMro:∀ v,cp K C' v=some true->cd.mro.contains v=true:=fun v hv=>by
    unfold cp gI at hv
    rw [look] at hv
    simp only [wL] at hv
    split at hv
    ·cases hv
    ·exact bH hv
   have bK:∀ v,(v == bE C')=false->cp K C' v=some true->bm.contains v=true:=fun v nv hv=>by
    have:=inMro v hv
    rw [hmro,g9,nv,uG] at this
    exact this
   obtain ⟨nm,bs,mro,ns,qn,hd,sn,sub,ab,col,del⟩:=cd
   dsimp only at hmro nodel nsok noinit
   subst hmro nodel slots
   have at_:=X _ _ look
   exact ⟨⟨hmg,bm,ns,nm,qn,bs,hd,sn,sub,ab,col,dd,k0,k1,k2,k3,k5,_,at_,.of_isNs (mh X nsok),eQ X nsok noinit,PySem.W.tail_of_in X tl⟩,
    bm,⟨⟨nm,qn,ns,bs,hd,sn,sub,ab,col,dd,k0,k1,k2,k3,k5,n,at_⟩,bK _ rfl m1⟩,bK⟩
  ·cases q
 ·cases q
structure TopC (K:a7) (x:Str) (C:ag):Prop where
 ns:gC K bA x=some (some (.ref C))
 ex:Ak K C Qn "ValueError.__new__"=true
 mb:cp K C (.type "BaseException")=some true
theorem TopC.er {K:a7}{h:bf}{mg:Str->Option a8}{cls:Str->ag}{x:Str}{C:ag} (T:TopC K x C) (X:K.In h) (G:h.Ns bA mg) (hc:cls x=C):Er mg h cls x:=by
 subst hc
 exact ⟨_,_,_,_,(GU X G T.ns T.ex T.mb).1,yi⟩
theorem Qo {K:a7}{t C:ag}{cd:ClassData}{b:Bool} (h1:gI K C=some cd) (h2:yj K (.ref C)=some (.type "type")) (h3:nY K (.ref t) (.ref C)=some b) (hn:b=false->t≠C):dA K (.ref t) (.ref C)=some b:=by
 unfold dA
 split
 ·rename_i he
  have e:t=C:=by have:=eq_of_beq he;cases this;rfl
  cases b with
  | true=>rfl
  | false=>exact (hn rfl e).elim
 ·unfold LU
  simp only [h1,h2,mT,beq_self_eq_true,lv,if_true]
  exact h3
theorem Tb {K:a7}{t:ag} (h3:nY K (.ref t) (.type "ValueError")=some true):dA K (.ref t) (.type "ValueError")=some true:=by
 unfold dA
 split
 ·rename_i he
  cases (eq_of_beq he)
 ·unfold LU
  show (if PySem.W.kitMeta "ValueError"=true then _ else none)=some true
  rw [if_pos (by decide +kernel)]
  exact h3
inductive US (K:a7) (F:List D->R D) (vs:List V) (H:Hp) (Q:VK) (z_3:XK):Prop
 | mk (Hs ds d:_) (h0:dE Hs H) (h1:ds.length=1) (h2:RDs K Hs vs ds) (h3:F ds=.ok d) (h4:∀ v H' Hs',cJ H Hs H' Hs'->RD K Hs' v d->Q v H'):US K F vs H Q z_3
def UT (K:a7) (F:List D->R D):Sp:=US K F
theorem Tc {K:a7}{cls:Str->ag}{F:List D->R D}:∀ vs H Q E,UT K F vs H Q E->Ry K cls 1 F vs H Q E:=fun vs H Q E ⟨Hs,ds,d,s,l,r,e,q⟩=>⟨Hs,ds,s,l,r,by rw [e];exact q⟩
def UU (l:List (Str×ag)):Str->ag:=fun x=>(l.lookup x).getD 0
theorem Td {K:a7}{F:List D->R D}{H:Hp}{a:ag}{ns:List Int} (hF:F [.list (ns.map .int)]=.ok (.bool true)) (h:mZ K H a (ns.map V.int)):UT K F [.ref a] H (fun v _=>v=.bl true) fun _ _ _=>False:=by
 have ri:∀ ns:List Int,RDs K H (ns.map V.int) (ns.map .int):=fun ns=>by
  induction ns with
  | nil=>exact .nil
  | cons x r ih=>exact .cons (.int x) ih
 refine ⟨H,[.list (ns.map .int)],.bool true,.refl H,rfl,.cons (.list h (ri ns)) .nil,hF,?_⟩
 intro v H' Hs' _ r
 cases r
 rfl
theorem Te {P:aI}{w:ba}{H:Hp}{s:af}{e:a8}{s':af} (h:jD P w [] H s (fun _ _ _=>False) e s'):False:=by
 obtain ⟨_,_,_,_,_,_,_,_,_,q⟩:=h
 exact q
theorem walkF {l:xj}{k:Nat}{q:aI}{loose:List Str}{XP:(Str->Option a8)->bf->Prop}{YP:ba->bf->Prop}{d:DefRec}{K:Params->a7}{x:Str}{F0:List D->R D}
  (hn:l.most=some 63) (hdf:d.params.defaults=[]) (hr:ji k wH) (hY:∀ (w:ba) (h:bf),YP w h->(K w.params).In h)
  (F:∀ (w:ba) (mg:Str->Option a8) (fa:ag) (h:bf),(K w.params).In h->h.Ns bA mg->mg d.name=some (.ref fa) ->
   ∃ fd:df,(∀ (s:af) (u:a8),wG s fd ⟨[u],[]⟩ [(x,u)])/\∀ base:bf,(K w.params).In base->base.Ns bA mg->sJ l.prog w (K w.params) mg base (jD l.prog w) k fa fd [x] (UT (K w.params) F0))
  (hF:∀ ns:List Int,ns.length<=63->F0 [.list (ns.map .int)]=.ok (.bool true)) :
  OR q loose XP YP l.row.toRowW d [] (fun f vs=>JJ f vs) :=
 L2.PM (n:=63) (k:=k) (x:=x) (CX:=fun w=>jD l.prog w) (sp:=fun w=>UT (K w.params) F0) hn (by decide) hdf hr hY F (fun w H a ns hl _ hS=>Td (hF ns hl) hS) fun _ _ _ _ _ h=>Te h
def W0 (i:Nat) (g:av->R Fl):av->R Fl:=fun ρ=>g (shareAt i ρ)
theorem Ng {c:C} (i:Nat) {st:cr}{gs:av->R Fl} (h:JS c st gs):JS c st (W0 i gs):=GS i h
end
section
section
variable {s:Sl}{ρ:av}{d x y:D}{ds:List D}
theorem CM {α β:Type} (a:α) (f:α->R β):(R.ok a).bind f=f a:=id rfl
theorem UV {α β:Type} (c:Str) (n:Option D) (f:α->R β):(R.ex c n:R α).bind f=.ex c n:=id rfl
theorem UW {α β:Type} (f:α->R β):(R.no:R α).bind f=.no:=id rfl
def GV (h:av->R Fl):Fl->R Fl:=fun fl=>match fl with
 | .nx ρ'=>h ρ'
 | fl=>.ok fl
theorem zd (g h:av->R Fl):aW g h (s::ρ)=(g (s::ρ)).bind (GV h):=id rfl
theorem rg (h:av->R Fl) (ρ:av):GV h (.nx ρ)=h ρ:=id rfl
theorem Eu (h:av->R Fl) (d:D):GV h (.rt d)=.ok (.rt d):=id rfl
def WW (g h:av->R Fl) (ρ:av):Bool->R Fl:=fun b=>bif b then g ρ else h ρ
theorem UX (t:av->R Bool) (g h:av->R Fl):dY t g h (s::ρ)=(t (s::ρ)).bind (WW g h (s::ρ)):=by
 show (t (s::ρ)).bind _=_
 congr 1
 funext b
 cases b<;>rfl
theorem Nh (g h:av->R Fl) (ρ:av):WW g h ρ false=h ρ:=id rfl
theorem Ni (g h:av->R Fl) (ρ:av) (b:Bool):WW g h ρ b=bif b then g ρ else h ρ:=id rfl
def XC:D->R Fl:=fun d=>.ok (.rt d)
theorem RG (g:av->R D):cg g (s::ρ)=(g (dB (s::ρ))).bind XC:=id rfl
theorem UY (d:D):XC d=.ok (.rt d):=id rfl
def ze:Sl->Sl
 | .own d=>.shr d
 | .ow2 dss=>.shr (.list (dss.map .list))
 | s=>s
theorem IP:dB (s::ρ)=ze s::dB ρ:=by cases s<;>rfl
theorem Ev:dB []=[]:=id rfl
theorem IQ:ze .no=.no:=id rfl
theorem Ew (d:D):ze (.shr d)=.shr d:=id rfl
theorem Ex (d:D):ze (.own d)=.shr d:=id rfl
theorem Ey (d:List (List D)):ze (.ow2 d)=.shr (.list (d.map .list)):=id rfl
def UZ (i:Nat) (ρ:av):D->R Fl:=fun d=>.ok (.nx (ρ.set i (.shr d)))
theorem Nj (i:Nat) (g:av->R D):fY i g (s::ρ)=(g (s::ρ)).bind (UZ i (s::ρ)):=id rfl
theorem Nk (i:Nat) (ρ:av) (d:D):UZ i ρ d=.ok (.nx (ρ.set i (.shr d))):=id rfl
def RH (i:Nat) (ρ:av):D->R Fl:=fun d=>.ok (.nx (ρ.set i (.own d)))
theorem Nl (i:Nat) (g:av->R D):gQ i g (s::ρ)=(g (s::ρ)).bind (RH i (s::ρ)):=id rfl
theorem IR (i:Nat) (ρ:av) (d:D):RH i ρ d=.ok (.nx (ρ.set i (.own d))):=id rfl
def Mp (ρ:av):D->R Fl:=fun _=>.ok (.nx ρ)
theorem Nm (g:av->R D):wR g (s::ρ)=(g (s::ρ)).bind (J.Mp (s::ρ)):=id rfl
theorem IS (ρ:av) (d:D):J.Mp ρ d=.ok (.nx ρ):=id rfl
def XD (gb:av->R D) (h:D->D->R D) (ρ:av):D->R D:=fun x=>(gb ρ).bind (h x)
theorem U_ (ga gb:av->R D) (h:D->D->R D):g2 ga gb h (s::ρ)=(ga (s::ρ)).bind (XD gb h (s::ρ)):=id rfl
theorem RI (gb:av->R D) (h:D->D->R D) (ρ:av) (x:D):XD gb h ρ x=(gb ρ).bind (h x):=id rfl
def Qp:D->R Bool:=fun d=>match d with
 | .bool b=>.ok b
 | _=>.no
theorem RJ (g:av->R D):fR g (s::ρ)=(g (s::ρ)).bind Qp:=id rfl
theorem No (b:Bool):Qp (.bool b)=.ok b:=id rfl
def V0:Bool->R Bool:=fun b=>.ok (!b)
theorem RK (g:av->R Bool):jk g (s::ρ)=(g (s::ρ)).bind V0:=id rfl
theorem Np (b:Bool):V0 b=.ok (!b):=id rfl
def V1 (h:av->R Bool) (ρ:av):Bool->R Bool:=fun b=>bif b then h ρ else .ok false
def XE (h:av->R Bool) (ρ:av):Bool->R Bool:=fun b=>bif b then .ok true else h ρ
theorem RL (g h:av->R Bool):Cv g h (s::ρ)=(g (s::ρ)).bind (V1 h (s::ρ)):=by
 show (g (s::ρ)).bind _=_
 congr 1;funext b;cases b<;>rfl
theorem V2 (g h:av->R Bool):FW g h (s::ρ)=(g (s::ρ)).bind (XE h (s::ρ)):=by
 show (g (s::ρ)).bind _=_
 congr 1;funext b;cases b<;>rfl
theorem Nq (h:av->R Bool) (ρ:av) (b:Bool):V1 h ρ b=bif b then h ρ else .ok false:=id rfl
theorem RM (h:av->R Bool) (ρ:av) (b:Bool):XE h ρ b=bif b then .ok true else h ρ:=id rfl
def RN:Bool->R D:=fun b=>.ok (.bool (!b))
theorem Nr (g:av->R D):Bg g (s::ρ)=((g (s::ρ)).bind Qp).bind RN:=id rfl
theorem IT (b:Bool):RN b=.ok (.bool (!b)):=id rfl
def RO (h:av->R D) (ρ:av):Bool->R D:=fun b=>bif b then h ρ else .ok (.bool false)
theorem Nt (g h:av->R D):qR g h (s::ρ)=((g (s::ρ)).bind Qp).bind (RO h (s::ρ)):=by
 show (fR g (s::ρ)).bind _=(fR g (s::ρ)).bind _
 congr 1;funext b;cases b<;>rfl
theorem IU (h:av->R D) (ρ:av) (b:Bool):RO h ρ b=bif b then h ρ else .ok (.bool false):=id rfl
def V3 (gb gc:av->R D) (h h':D->D->R D) (ρ:av):D->R D:=fun x=>(gb ρ).bind fun y=>(h x y).bind fun z=>match z with
 | .bool true=>(gc ρ).bind fun w=>h' y w
 | .bool false=>.ok (.bool false)
 | _=>.no
def V4 (gc:av->R D) (h h':D->D->R D) (ρ:av) (x:D):D->R D:=fun y=>(h x y).bind fun z=>match z with
 | .bool true=>(gc ρ).bind fun w=>h' y w
 | .bool false=>.ok (.bool false)
 | _=>.no
def V5 (gc:av->R D) (h':D->D->R D) (ρ:av) (y:D):D->R D:=fun z=>match z with
 | .bool true=>(gc ρ).bind (h' y)
 | .bool false=>.ok (.bool false)
 | _=>.no
theorem IV (ga gb gc:av->R D) (h h':D->D->R D):qT ga gb gc h h' (s::ρ)=(ga (s::ρ)).bind (V3 gb gc h h' (s::ρ)):=id rfl
theorem Nu (gb gc:av->R D) (h h':D->D->R D) (ρ:av) (x:D):V3 gb gc h h' ρ x=(gb ρ).bind (V4 gc h h' ρ x):=id rfl
theorem Nv (gc:av->R D) (h h':D->D->R D) (ρ:av) (x y:D):V4 gc h h' ρ x y=(h x y).bind (V5 gc h' ρ y):=id rfl
theorem Nw (gc:av->R D) (h':D->D->R D) (ρ:av) (y:D) (b:Bool):V5 gc h' ρ y (.bool b)=bif b then (gc ρ).bind (h' y) else .ok (.bool false):=by cases b<;>rfl
def Nx (gs:av->R (List D)) (ρ:av):D->R (List D):=fun d=>(gs ρ).bind fun ds=>.ok (d::ds)
def Ny (d:D):List D->R (List D):=fun ds=>.ok (d::ds)
theorem Nz (g:av->R D) (gs:av->R (List D)):J.aa g gs (s::ρ)=(g (s::ρ)).bind (Nx gs (s::ρ)):=id rfl
theorem Ez (gs:av->R (List D)) (ρ:av) (d:D):Nx gs ρ d=(gs ρ).bind (Ny d):=id rfl
theorem EA (d:D) (ds:List D):Ny d ds=.ok (d::ds):=id rfl
theorem RP (ρ:av):J.aA ρ=.ok []:=id rfl
def RQ (k:List D->D):List D->R D:=fun ds=>if ds.length<=1000 then .ok (k ds) else .no
theorem NA (gs:av->R (List D)) (k:List D->D):cc gs k (s::ρ)=(gs (s::ρ)).bind (RQ k):=id rfl
theorem IW (k:List D->D) (ds:List D):RQ k ds=if ds.length<=1000 then .ok (k ds) else .no:=id rfl
theorem NB (gs:av->R (List D)) (h:List D->R D):c6 gs h (s::ρ)=(gs (s::ρ)).bind h:=id rfl
def XF (n:Nat) (F:List D->R D):List D->R D:=fun ds=>if ds.length=n then F ds else .no
theorem V6 (n:Nat) (F:List D->R D) (gs:av->R (List D)):dz n F gs (s::ρ)=(gs (s::ρ)).bind (XF n F):=id rfl
theorem RS (n:Nat) (F:List D->R D) (ds:List D):XF n F ds=if ds.length=n then F ds else .no:=id rfl
theorem RT (h:D->R D) (d:D):iK h [d]=h d:=id rfl
theorem NC (d:D) (ρ:av):FU (.shr d::ρ) 0=.ok d:=id rfl
theorem RU (s:Sl) (ρ:av) (n:Nat):FU (s::ρ) (n + 1)=FU ρ n:=by simp [FU]
theorem ND (d:D) (ρ:av):FV (.shr d::ρ) 0=.ok d:=id rfl
theorem NE (d:D) (ρ:av):FV (.own d::ρ) 0=.ok d:=id rfl
theorem RV (s:Sl) (ρ:av) (n:Nat):FV (s::ρ) (n + 1)=FV ρ n:=by simp [FV]
def V7 (T:String):D->R D:=fun d=>if kO d then .ok (.bool (pw T d)) else .no
theorem RW (g:av->R D) (T:String):qW g T (s::ρ)=(g (s::ρ)).bind (V7 T):=id rfl
theorem NF (T:String) (d:D):V7 T d=if kO d then .ok (.bool (pw T d)) else .no:=id rfl
def V8 (gl gh:av->R (Option Int)) (ρ:av):D->R D:=fun x=>(gl ρ).bind fun l=>(gh ρ).bind fun h=>Au x l h
def V9 (gh:av->R (Option Int)) (ρ:av) (x:D):Option Int->R D:=fun l=>(gh ρ).bind fun h=>Au x l h
theorem Va (g:av->R D) (gl gh:av->R (Option Int)):LC g gl gh (s::ρ)=(g (s::ρ)).bind (V8 gl gh (s::ρ)):=id rfl
theorem NG (gl gh:av->R (Option Int)) (ρ:av) (x:D):V8 gl gh ρ x=(gl ρ).bind (V9 gh ρ x):=id rfl
theorem NH (gh:av->R (Option Int)) (ρ:av) (x:D) (l:Option Int):V9 gh ρ x l=(gh ρ).bind (Au x l):=id rfl
theorem RX (ρ:av):N0 ρ=.ok none:=id rfl
def Vb:D->R (Option Int):=fun d=>match d with
 | .int i=>.ok (some i)
 | _=>.no
theorem RY (g:av->R D):IH g (s::ρ)=(g (s::ρ)).bind Vb:=id rfl
theorem NI (i:Int):Vb (.int i)=.ok (some i):=id rfl
theorem Tf (g:av->R D):lK g (s::ρ)=(g (s::ρ)).bind yR:=id rfl
theorem NJ (gs:av->R (List D)):v3 gs (s::ρ)=(gs (s::ρ)).bind GO:=id rfl
theorem RZ (gs:av->R (List D)):GP gs (s::ρ)=(gs (s::ρ)).bind VZ:=id rfl
theorem R_ (gs:av->R (List D)):Qd gs (s::ρ)=(gs (s::ρ)).bind zp:=id rfl
def S0 (nt:Nat) (ix:List Nat) (gt:av->R Bool) (ge:av->R D) (ρ:av):List D->R D:=fun ds=>if ds.length<=1000 then (i6 (i_ nt (oM nt ix ρ) gt ge) ds).bind fun ys=>.ok (.list ys) else .no
def S1:List D->R D:=fun ys=>.ok (.list ys)
theorem NK (nt:Nat) (ix:List Nat) (gi:av->R (List D)) (gt:av->R Bool) (ge:av->R D):fo nt ix gi gt ge (s::ρ)=(gi (s::ρ)).bind (S0 nt ix gt ge (s::ρ)):=id rfl
theorem IX (nt:Nat) (ix:List Nat) (gt:av->R Bool) (ge:av->R D) (ρ:av) (ds:List D):S0 nt ix gt ge ρ ds=if ds.length<=1000 then (i6 (i_ nt (oM nt ix ρ) gt ge) ds).bind S1 else .no:=id rfl
theorem IY (ys:List D):S1 ys=.ok (.list ys):=id rfl
theorem rh (gi:av->R (List D)) (kt:D->av->R av) (gb:av->R Fl) (ds:List D) (h:gi (s::ρ)=.ok ds):qr gi kt gb (s::ρ)=iO kt gb ds (s::ρ):=by unfold qr;rw [h]
def NL (k:D->av->R av) (ρ:av):D->R Fl:=fun d=>match k d ρ with
 | .ok ρ'=>.ok (.nx ρ')
 | _=>.no
theorem S2 (g:av->R D) (k:D->av->R av):yP g k (s::ρ)=(g (s::ρ)).bind (NL k (s::ρ)):=id rfl
theorem Bo (ds:List D):yR (.list ds)=.ok ds:=id rfl
theorem Bp (ds:List D):yR (.tuple ds)=.ok ds:=id rfl
theorem Br (x:Str):yR (.str x)=.ok (o8 x):=id rfl
theorem NM (ds:List D):VZ [.tuple ds]=.ok (j8 0 ds):=id rfl
theorem Vc (ds es:List D):zp [.tuple ds,.tuple es]=.ok (xv ds es):=id rfl
def Bs (ρ:av) (i:Nat):Sl:=Qf ((ρ[i]?).getD .no)
def NN (ix:List Nat) (ρ:av):av:=ix.map (Bs ρ)
theorem NO (ix:List Nat) (ρ:av):oM 1 ix ρ=.no::NN ix ρ:=id rfl
theorem NQ (ix:List Nat) (ρ:av):oM 2 ix ρ=.no::.no::NN ix ρ:=id rfl
theorem NR (ρ:av):NN [] ρ=[]:=id rfl
theorem NS (i:Nat) (ix:List Nat) (ρ:av):NN (i::ix) ρ=Bs ρ i::NN ix ρ:=id rfl
theorem NT (s:Sl) (ρ:av):Bs (s::ρ) 0=Qf s:=id rfl
theorem NU (s:Sl) (ρ:av) (n:Nat):Bs (s::ρ) (n + 1)=Bs ρ n:=by simp [Bs]
theorem Bt (d:D):Qf (.shr d)=.shr d:=id rfl
theorem NV {i:Nat}{ρ:av}{d:D} (h:ρ[i]?=some (Sl.own d)):shareAt i ρ=ρ.set i (.shr d):=by unfold shareAt;rw [h]
theorem cD {α:Type} (f:D->R (Option D)) (c:α->D) (h:α->D):∀ (xs:List α),(∀ x∈xs,f (c x)=.ok (some (h x)))->i6 f (xs.map c)=.ok (xs.map h)
 | [],_=>rfl
 | x::r,e=>by
  rw [aR,aR]
  unfold i6
  rw [e x al,bind_ok,cD f c h r fun y hy=>e y (ao _ hy),bind_ok]
theorem jU {α:Type} (f:D->R (Option D)) (c:α->D) (h:α->D) (p:α->Bool):∀ (xs:List α),(∀ x∈xs,f (c x)=.ok (if p x then some (h x) else none))->i6 f (xs.map c)=.ok ((xs.filter p).map h)
 | [],_=>rfl
 | x::r,e=>by
  rw [aR]
  unfold i6
  rw [e x al,bind_ok,jU f c h p r fun y hy=>e y (ao _ hy),bind_ok]
  cases hp:p x<;>simp [hp]
theorem S3 {ρ:av}{gt:av->R Bool}{ge:av->R D}{d:D}:i_ 1 ρ gt ge d=Kr (((gt (ρ.set 0 (.shr d)))).bind fun b=>if b then (ge (ρ.set 0 (.shr d))).bind fun y=>.ok (some y) else .ok none):=id rfl
theorem d_ {ρ:av}{gt:av->R Bool}{ge:av->R D}{d y:D} (h1:gt (ρ.set 0 (.shr d))=.ok true) (h2:ge (ρ.set 0 (.shr d))=.ok y):i_ 1 ρ gt ge d=.ok (some y):=by
 rw [S3,h1,bind_ok,if_pos rfl,h2];rfl
theorem xU {ρ:av}{gt:av->R Bool}{ge:av->R D}{d y:D}{b:Bool} (h1:gt (ρ.set 0 (.shr d))=.ok b) (h2:b=true->ge (ρ.set 0 (.shr d))=.ok y):i_ 1 ρ gt ge d=.ok (if b then some y else none):=by
 rw [S3,h1,bind_ok]
 cases b with
 | true=>rw [if_pos rfl,h2 rfl];rfl
 | false=>rfl
theorem Qq {j:Int} (h1:-(2 ^ 62)<=j) (h2:j<2 ^ 62):GO [.int j]=.ok (qZ 0 j.toNat):=by
 have h:-(2 ^ 62)<=j/\j<2 ^ 62:=⟨h1,h2⟩
 unfold GO
 split
 ·rename_i j' e
  have e':j=j':=by injection e with e;injection e
  subst e'
  rw [if_pos h]
 ·rename_i hn
  exact (hn j rfl).elim
end
end
end J
section
namespace L2
open PySem PySem.Spec PyProof.Rows
theorem NW {X:Cx}{CX:Il}{k i:Nat}{f:ag}{fd:df}{ps:List Str}{sp:Sp}{x:Str}{p pos:Pos}{e:b9}{es:List b9}{t:TA}{E:XK}{ds:List a8}{dvs:List V}
  (F:sJ X.prog X.w X.K X.mg X.base CX k f fd ps sp) (hr:ji k X.A) (hN:X.N[i]?=some x) (hv:LA X.env.scope x) (hk:dX X.K (.ref f)=true) (hb:jM X.K fd ps ds) (hd:cV dvs ds) (hx:jN CX X E)
  (ha:PA X (e::es) t) (hdb:(x == ("__debug__" : Str))=false:=by decide) (hcd:(x == ("__classdict__" : Str))=false:=by decide) (he:aw (e::es) X.env=(false,da e X.env)::aw es X.env:=by rfl) (hpl:(eV pos (aw es X.env)).any (·.1)=false:=by rfl) :
  PE X (.Call (.Name x p) (e::es) [] pos) (fun σ H Q=>σ[i]?=some (some (V.ref f))/\Im sp dvs E t σ H Q):=by
 intro pins s σ H Q I ⟨hi,h⟩
 refine ki (fW (n_ hN hv hdb hcd pins s σ H (fun v H'=>v=V.ref f/\H'=H) I ⟨.ref f,hi,rfl,rfl⟩) fun u s0 ⟨v,H0,I0,r0,ev,eh⟩=>?_)
 subst ev eh
 cases r0
 refine tG (h₀:=X.base) I0.ok.mod.kin hk (fW (ha pos pins s0 σ H0 _ I0 h) fun us s1 ⟨vs,H1,I1,r,q⟩=>⟨I1.kIn,?_⟩) he hpl
 exact Mi F hr hb hd hx I1 r q
end L2
namespace J
open PySem L2
open PyProof.Rows (envOfC)
def Bu (wh:Str->Option Nat):R D->R D
 | .ok d=>.ok d
 | .ex y none=>match wh y with
  | some j=>.ok (.tuple [.str "refused",.int (j:Nat)])
  | none=>.no
 | _=>.no
def qj (wh:Str->Option Nat) (F:List D->R D):List D->R D:=fun ds=>Bu wh (F ds)
def XG (K:a7) (cls:Str->ag) (n:Nat) (a:ag) (F:List D->R D):Sp:=fun vs H Q E=>∃ vs',vs=V.ref a::vs'/\Ry K cls n F vs' H Q E
structure W2 (P:aI) (w:ba) (K:a7) (mg:Str->Option a8) (base:bf) (cls:Str->ag) (x y:Str) (k n:Nat) (F:List D->R D):Prop where
 ex:∃ f fd ps a,sJ P w K mg base (jD P w) k f fd ps (XG K cls n a F)/\mg x=some (.ref f)/\dX K (.ref f)=true/\jM K fd ps []/\mg y=some (.ref a)
section
variable {c:C}{e a b:b9}{g ga gb:av->R D}{pos rpos:Pos}{es:List b9}{gs:av->R (List D)}{x y:Str}{p q:Pos}
theorem Qr {k n:Nat}{F:List D->R D} (G:W2 c.X.prog c.X.w c.X.K c.X.mg c.X.base c.cls x y k n F) (hr:ji k c.X.A) (hg:Gl c.X x) (hgy:Gl c.X y) (hx:jN (jD c.X.prog c.X.w) c.X c.E) (ha:Bf c es gs)
  (hdb:(x == ("__debug__" : Str))=false:=by decide) (hdy:(y == ("__debug__" : Str))=false:=by decide) (he:aw (.Name y q::es) c.X.env=(false,da (.Name y q) c.X.env)::aw es c.X.env:=by rfl) (hpl:(eV pos (aw es c.X.env)).any (·.1)=false:=by rfl) :
  JE c (.Call (.Name x p) (.Name y q::es) [] pos) (dz n F gs):=.of fun ρ=>by
 obtain ⟨f,fd,ps,a,hf,hm,hk,hb,hy⟩:=G.ex
 refine qy (Io (E:=c.E) hf hr hg hm hk hb .nil hx (bZ (C3 (v:=.ref a) hgy hy rfl hdy) (ha ρ) he) hdb he hpl) fun σ H Q h_0=>?_
 obtain ⟨H0,Hs0,la,Hs,fr,q⟩:=h_0
 show UB c.X.K c.cls c.E ρ (gs ρ) σ H fun xs H2=>XG c.X.K c.cls n a F (V.ref a::xs++[]) H2 Q c.E
 refine yN fr q fun ds vs H1 Hs1 e1 s1 f1 r1=>?_
 unfold dz at q
 rw [e1,bind_ok] at q
 by_cases hn:ds.length=n
 ·rw [if_pos hn] at q
  rw [cj]
  exact ⟨vs,rfl,Hs1,ds,f1.st.sub,hn,r1,q.on s1 fun d k v H2 Hs2 s2 r2=>k v H2 Hs2 (s1.trans s2) r2⟩
 ·rw [if_neg hn] at q;exact q.elim
theorem Tg {i k n:Nat}{F:List D->R D}{f:ag}{fd:df}{ps:List Str} (hf:sJ c.X.prog c.X.w c.X.K c.X.mg c.X.base (jD c.X.prog c.X.w) k f fd ps (Ry c.X.K c.cls n F)) (hk:dX c.X.K (.ref f)=true) (hb:jM c.X.K fd ps []) (hr:ji k c.X.A) (hx:jN (jD c.X.prog c.X.w) c.X c.E) (ha:Bf c (e::es) gs)
  (hN:c.X.N[i]?=some x:=by rfl) (hv:LA c.X.env.scope x:=by first | exact gP rfl | exact e8 (gP rfl) | exact e8 (e8 rfl)) (hdb:(x == ("__debug__" : Str))=false:=by decide) (hcd:(x == ("__classdict__" : Str))=false:=by decide) (he:aw (e::es) c.X.env=(false,da e c.X.env)::aw es c.X.env:=by rfl) (hpl:(eV pos (aw es c.X.env)).any (·.1)=false:=by rfl) (ρ:av) :
  PS c.X (.Return (some (.Call (.Name x p) (e::es) [] pos)) rpos) (fun D σ H=>σ[i]?=some (some (V.ref f))/\SR c.X.K c.cls c.E ρ (cg (dz n F gs) ρ) D σ H):=by
 refine Ab (C4 (NW (E:=c.E) hf hr hN hv hk hb .nil hx (ha (dB ρ)) hdb hcd he hpl)) fun D σ H ⟨hi,H0,Hs0,la,Hs,fr,q⟩=>⟨hi,?_⟩
 obtain ⟨Hs',f'⟩:=fr.shared
 have t:TR c.X.K c.cls c.E (dB ρ) (dz n F gs (dB ρ)) σ H D.rt:=sE f' q fun d v H1 Hs1 e1 s1 f1 r1=>by
  unfold cg at q
  rw [e1,bind_ok] at q
  exact q v H1 Hs1 f1.st r1
 clear q f' fr
 obtain ⟨H0,Hs0,la,Hs,fr,q⟩:=t
 show UB c.X.K c.cls c.E (dB ρ) (gs (dB ρ)) σ H fun xs H2=>Ry c.X.K c.cls n F (xs++[]) H2 D.rt c.E
 refine yN fr q fun ds vs H1 Hs1 e1 s1 f1 r1=>?_
 unfold dz at q
 rw [e1,bind_ok] at q
 by_cases hn:ds.length=n
 ·rw [if_pos hn] at q
  rw [cj]
  exact ⟨Hs1,ds,f1.st.sub,hn,r1,q.on s1 fun d k v H2 Hs2 s2 r2=>k v H2 Hs2 (s1.trans s2) r2⟩
 ·rw [if_neg hn] at q;exact q.elim
end
section
variable {c:C}{body:List cr}{x n:Str}{np np2 np3 hpos cpos rpos pos:Pos}{gb:av->R Fl}{names:List Str}{wh:Str->Option Nat}
theorem Th (i j:Nat) {a:ag}{ρ:av} (W:Wh c.X.prog c.X.w c.X.K c.X.mg c.X.base c.cls x names wh) (hb:∀ (E:XK) (xe:a8->af->Prop) (pn:List (ag×Obj)),jN (jD c.X.prog c.X.w) (Rr c.X xe pn) E->A_ (Rr c.X xe pn) body (fun D σ H=>σ[j]?=some (some (V.ref a))/\SR c.X.K c.cls E ρ (gb ρ) D σ H))
  (hr:mn 1 c.X.A) (hgx:Gl c.X x) (hg:Gl c.X "PlanError") (hN:c.X.N.Nodup) (hi:c.X.N[i]?=some n:=by rfl) (hn:c.X.env.scope.names.lookup n=some .local:=by rfl)
  (hst:∃ l,c.X.stack=c.X.env::l/\c.X.env.frame=some c.X.env.locals:=by exact ⟨_,rfl,rfl⟩) (hex:c.X.ex=[]:=by rfl) (hdb:(x == ("__debug__" : Str))=false:=by decide) (hd:(n == ("__debug__" : Str))=false:=by decide) (hcd:(n == ("__classdict__" : Str))=false:=by decide) :
  PS c.X (.Try body [.ExceptHandler (some (.Name "PlanError" np)) (some n) [.Return (some (.Call (.Name x np2) [.Name n np3] [] cpos)) rpos] hpos] [] [] pos) (fun D σ H=>σ[j]?=some (some (V.ref a))/\SR c.X.K c.cls c.E ρ (Kv wh gb ρ) D σ H):=by
 obtain ⟨f,fd,ps,F,hm,hk,hbn⟩:=W.fn
 obtain ⟨bp,y⟩:=W.ox
 have hs:∀ ea,A_ (TZ c.X ea) [.Return (some (.Call (.Name x np2) [.Name n np3] [] cpos)) rpos] (U6 (Im (Ta c.X.K c.X.base c.cls names) [] E0 (DL (JZ i) Mg))):=fun ea =>
  uK (C4 (MP (X:=TZ c.X ea) F (hr.mark _) hgx hm hk hbn (bZ (n_ hi (.inl hn) hd hcd) eW) hdb))
 refine Ab (S_ hg W.pe y hN hi hn hst hex (tb:=fun E D σ H=>σ[j]?=some (some (V.ref a))/\SR c.X.K c.cls E ρ (gb ρ) D σ H) (fun E xe pn hp=>hb E xe pn hp) hs) fun D σ H h_1=>?_
 obtain ⟨hj,H0,Hs0,la,Hs,fr,q⟩:=h_1
 replace q:pA c.X.K c.cls c.E H0 Hs0 la D (Kv wh gb ρ):=q
 refine ⟨hj,H0,Hs0,la,Hs,fr,?_⟩
 unfold Kv at q
 cases hr':gb ρ with
 | no=>rw [hr'] at q;exact q
 | ok fl =>
  rw [hr'] at q
  cases fl<;>exact q
 | ex z m =>
  rw [hr'] at q
  cases m with
  | some d=>exact q.elim
  | none =>
   simp only at q
   cases hw:wh z with
   | none=>rw [hw] at q;exact q.elim
   | some j =>
    rw [hw] at q
    have X0:=W.xf z j hw
    intro H' Hs' st
    obtain ⟨bm,o1,o2⟩:=X0.ox
    refine ⟨c.cls z,bm,rfl,o1,o2,fun ea hea=>?_⟩
    have hl:i<c.X.N.length:=(List.getElem?_eq_some_iff.mp hi).1
    refine ⟨.ref ea,aJ (by simpa [yI] using hl),ea,c.cls z,j,rfl,aV,X0,fun t H2 sm ht hT=>?_⟩
    have s1:dE H' (upd H' ea (yH ea (c.cls z))):=j6 hea
    have ht':H' t=none:=s1.free ht
    refine q (.ref t) H2 (upd Hs' t (.tup [.str "refused",.int (j:Nat)])) ?_ (.tuple aV (.cons (.str _) (.cons (.int _) .nil)))
    refine st.trans ⟨s1.trans sm,j6 (st.sub.free ht'),fun b u e=>?_,fun a o e _ z=>by rw [b6 (bn e ht')];exact z⟩
    by_cases hb':b=t
    ·subst hb';rw [aV] at e;cases e;exact hT
    ·rw [b6 hb'] at e;exact sm b u (s1 b u (st.sub b u e))
end
theorem Fr.consNo {K:a7}{H0 Hs0 H Hs:Hp}{ρ:av}{σ:St}{v:V} (f:Fr K H0 Hs0 (fun _=>none) ρ σ H Hs):Fr K H0 Hs0 (fun _=>none) (.no::ρ) (some v::σ) H Hs:=by
 refine ⟨f.st,congrArg (· + 1) f.len,fun i d h=>?_,fun i d h=>?_,fun i d h=>?_,fun i j d e a h1 h2 h3 h4=>?_,fun i a h=>(nomatch h),fun i d h=>?_,fun i j d e h1 h2=>?_⟩
 ·cases i with
  | zero=>cases h
  | succ i=>exact f.sh i d h
 ·cases i with
  | zero=>cases h
  | succ i=>exact f.ow i d h
 ·cases i with
  | zero=>cases h
  | succ i=>exact f.lk i d h
 ·cases i with
  | zero=>cases h1
  | succ i =>
   cases j with
   | zero=>cases h2
   | succ j=>exact congrArg (· + 1) (f.dj i j d e a h1 h2 h3 h4)
 ·cases i with
  | zero=>cases h
  | succ i =>
   obtain ⟨a,as,o⟩:=f.o2 i d h
   refine ⟨a,as,o.at_,o.ob,o.nd,o.out,fun b hb j e h1=>?_,o.inn⟩
   cases j with
   | zero=>cases h1
   | succ j=>exact o.dj b hb j e h1
 ·cases i with
  | zero=>cases h1
  | succ i =>
   cases j with
   | zero=>cases h2
   | succ j=>exact congrArg (· + 1) (f.u2 i j d e h1 h2)
def Qs (n:Nat) (g:av->R Fl):List D->R D:=fun ds=>match g (.no::bd n ds) with
 | .ok (.nx _)=>.ok .none
 | .ok (.rt d)=>.ok d
 | .ex c m=>.ex c m
 | _=>.no
theorem Qt {P:aI}{w:ba}{K:a7}{mg:Str->Option a8}{base:bf}{cls:Str->ag}{x y x0 qual:Str}{st:cr}{f a:ag}{fd:df}{N ps:List Str}{k n:Nat}{g:av->R Fl}{F:List D->R D} (Fu:DS K x qual st f fd) (S:bu (x0::N) ps (ax st)) (hm:mg x=some (.ref f)) (hb:jM K fd ps []) (hy:mg y=some (.ref a)) (hps:ps.length=n + 1)
  (h:∀ (cdv:a8) (A:aX) (outer:List Env) (s:af) (H:Hp) (E:XK),ji k (A.deeper (jg qual (ax st) s.heap.objs.size f cdv))->∀ ρ,A_ (fX (jD P w) P w K mg base (x0::N) qual (ax st) f cdv A outer s H E) (gT st) (fun D σ H=>σ[0]?=some (some (V.ref a))/\SR K cls E ρ (g ρ) D σ H))
  (hF:∀ ds,ds.length=n->Qs N.length g ds=F ds):W2 P w K mg base cls x y (k + 1) n F:=by
 refine ⟨f,fd,ps,a,?_,hm,Fu.kp,hb,hy⟩
 obtain ⟨oc,od,kV,doc,pm,an,cdv,ct,osl,rfl,lk,hcd⟩:=Fu.ex
 refine Re lk hcd S (fun vs H Q E h_2=>by obtain ⟨vs',e,Hs,ds,sub,hn,r,q⟩:=h_2;exact by rw [e,aO,r.length,hn,hps]) fun A outer s H vs Q E hr hsp=>?_
 obtain ⟨vs',rfl,Hs,ds,sub,hn,r,q⟩:=hsp
 have fs:Fr K H Hs (fun _=>none) (.no::bd N.length ds) (L2.start (x0::N) (V.ref a::vs')) H Hs:=by
  have:=(Fr.start (N:=N) sub r).consNo (v:=V.ref a)
  have e:L2.start (x0::N) (V.ref a::vs')=some (V.ref a)::L2.start N vs':=by
   unfold L2.start
   rw [aR,aO,aO,Nat.add_sub_add_right]
   rfl
  rw [e]
  exact this
 refine ⟨_,h cdv A outer s H E hr (.no::bd N.length ds),rfl,H,Hs,_,Hs,fs,?_⟩
 rw [<- hF ds hn] at q
 unfold Qs at q
 cases hg:g (.no::bd N.length ds) with
 | no=>rw [hg] at q;exact q
 | ex c n=>rw [hg] at q;exact q
 | ok fl =>
  rw [hg] at q
  cases fl with
  | nx ρ'=>exact fun σ' H' Hs' f'=>q .non H' Hs' f'.st .none
  | rt d=>exact fun v H' Hs' s r=>q v H' Hs' s r
  | bk ρ'=>exact q.elim
  | ct ρ'=>exact q.elim
theorem NX {wh:Str->Option Nat}{n:Nat}{F:List D->R D}{gs:av->R (List D)}{m:Nat}{ds:List D} (h:gs (dB (.no::bd m ds))=.ok ds) (hl:ds.length=n):Qs m (Kv wh (cg (dz n F gs))) ds=qj wh F ds:=by
 unfold Qs Kv cg dz qj Bu
 rw [h,bind_ok,if_pos hl]
 cases F ds with
 | ok d=>rfl
 | no=>rfl
 | ex z o =>
  cases o with
  | some d=>rfl
  | none =>
   show (match (match wh z with
    | some j=>R.ok (Fl.rt (.tuple [.str "refused",.int (j:Nat)]))
    | none=>R.no:R Fl) with
    | .ok (.nx _)=>R.ok PyData.none
    | .ok (.rt d)=>.ok d
    | .ex c m=>.ex c m
    | _=>.no)=_
   cases hw:wh z<;>simp only [hw]
theorem XT {α:Type}{us:List α} (h:us.length=1):∃ a,us=[a]:=by
 rcases us with _ | ⟨a0,_ | ⟨z,r⟩⟩
 ·simp at h
 ·exact ⟨_,rfl⟩
 ·simp at h
theorem XU {α:Type}{us:List α} (h:us.length=2):∃ a b,us=[a,b]:=by
 rcases us with _ | ⟨a0,_ | ⟨a0,_ | ⟨z,r⟩⟩⟩
 ·simp at h
 ·simp at h
 ·exact ⟨_,_,rfl⟩
 ·simp at h
theorem XV {α:Type}{us:List α} (h:us.length=3):∃ a b c,us=[a,b,c]:=by
 rcases us with _ | ⟨a0,_ | ⟨a0,_ | ⟨a0,_ | ⟨z,r⟩⟩⟩⟩
 ·simp at h
 ·simp at h
 ·simp at h
 ·exact ⟨_,_,_,rfl⟩
 ·simp at h
theorem XX {α:Type}{us:List α} (h:us.length=4):∃ a b c d,us=[a,b,c,d]:=by
 rcases us with _ | ⟨a0,_ | ⟨a0,_ | ⟨a0,_ | ⟨a0,_ | ⟨z,r⟩⟩⟩⟩⟩
 ·simp at h
 ·simp at h
 ·simp at h
 ·simp at h
 ·exact ⟨_,_,_,_,rfl⟩
 ·simp at h
theorem XY {α:Type}{us:List α} (h:us.length=5):∃ a b c d e,us=[a,b,c,d,e]:=by
 rcases us with _ | ⟨a0,_ | ⟨a0,_ | ⟨a0,_ | ⟨a0,_ | ⟨a0,_ | ⟨z,r⟩⟩⟩⟩⟩⟩
 ·simp at h
 ·simp at h
 ·simp at h
 ·simp at h
 ·simp at h
 ·exact ⟨_,_,_,_,_,rfl⟩
 ·simp at h
end J
end
namespace J
open PySem L2
section
section
variable {c:C}{e a b l tg:b9}{g ga gb:av->R D}{pos p:Pos}{gs:av->R (List D)}{es:List b9}{x:Str}
theorem RDs.rep {K:a7}{H:Hp}{vs:List V}{ds:List D} (h:RDs K H vs ds) (k:Nat):RDs K H (bi k vs).flatten (bi k ds).flatten:=by
 induction k with
 | zero=>exact .nil
 | succ k ih=>rw [cU,cU,gO,gO];exact h.append ih
def Qu (k:Nat) (ds:List D):R D:=if ds.length<=10 then .ok (.list (bi k ds).flatten) else .no
def Qv (k:Nat) (gs:av->R (List D)):av->R D:=fun ρ=>(gs ρ).bind (Qu k)
theorem Ti (k:Nat) {j:Nat}{p2:Pos} (hk:k<=10) (h:Bf c es gs):JE c (.BinOp (.List es p) .Mult (.Constant (.int k) j p2) pos) (Qv k gs):=.of fun ρ=>qy (Ij Mm (mj (h ρ)) yr) fun σ H Q h_0=>by
 obtain ⟨H0,Hs0,la,Hs,f,q⟩:=h_0
 refine yN f q fun ds vs H1 Hs1 e1 s1 f1 r1=>?_
 unfold Qv at q
 rw [e1,bind_ok] at q
 unfold Qu at q
 by_cases hl:ds.length<=10
 ·rw [if_pos hl] at q
  have hv:vs.length<=10:=by rw [r1.length];exact hl
  refine ⟨bq (bY (bJ hv (by decide))),fun p hp=>?_⟩
  have s2:cJ H1 Hs1 (upd H1 p (.lst vs)) Hs1:=.mine s1.sub hp
  refine ⟨p,k,vs,rfl,rfl,aV,by omega,by omega,?_,fun p2 hp2=>?_⟩
  ·have:vs.length * k<=10 * 10:=Nat.mul_le_mul hv hk
   exact bq (bY (bJ this (by decide)))
  ·refine q _ _ _ (s1.trans (s2.trans (.new s2.sub hp2))) (.list (.of aV) ?_)
   exact (r1.rep k).same (cJ.new s2.sub hp2).sh
 ·rw [if_neg hl] at q;exact q.elim
end
end
end J
section
namespace HT
open PySem PyProof.Rows
section
open PySem.SeqAt
open PySem.AutoSeq1 (wpAny_loadPart')
open PySem.MeetsSeq PySem.MeetsSeq2 PySem.MeetsSeq3
variable {prog:aI}{w:ba}{A:aX}{E:a8->af->Prop}{s:af}
theorem wf {sl:ag}{t:Tok}{n:Nat}{Q:Int×Int×Nat->af->Prop} (hs:s.heap.IsSliceOf sl .none .none (.int (-1) t))
  (h:Q ((n:Int) - 1,-1,n) s):ak (aE prog w) A (i5 (.ref sl) (pure (n:Int))) Q E s:=by
 obtain ⟨os,hos,hcs,hds⟩:=id hs
 unfold i5 vF
 refine a6 (a6 (cO hos hds (x:=.none) rfl (a6 (cO hos hds (x:=.none) rfl (a6 (cO hos hds (x:=.int (-1) t) rfl (ac ?_)))))))
 refine a6 (slicePart_int ?_)
 show ak _ _ (if ((-1:Int) == 0)=true then _ else _) _ _ s
 rw [if_neg (by decide)]
 refine a6 (vN (a6 (vN (a6 (ac ?_)))))
 show ak _ _ (pure ((n:Int) - 1,(-1:Int),db ((n:Int) - 1) (-1) (-1))) _ _ s
 have e:db ((n:Int) - 1) (-1) (-1)=n:=by
  unfold db
  rw [if_neg (by omega)]
  simp only [Int.neg_neg,Int.ediv_one]
  split<;>omega
 rw [e]
 exact ac h
theorem EB {α β:Type}{f g:α->Option β}:∀ {l:List α},(∀ x∈l,f x=g x)->l.filterMap f=l.filterMap g
 | [],_=>rfl
 | x::r,h=>by
  rw [ja,ja,h x al,EB fun y hy=>h y (ao _ hy)]
theorem NY (xs:Array a8):((bt xs.size).filterMap fun (m:Nat)=>xs[((xs.size:Int) - 1 + (m:Int) * (-1)).toNat]?).toArray=xs.toList.reverse.toArray:=by
 congr 1
 have e:(bt xs.size).filterMap (fun (m:Nat)=>xs[((xs.size:Int) - 1 + (m:Int) * (-1)).toNat]?)=(bt xs.size).filterMap (fun m=>some (xs.getD (xs.size - 1 - m) .none)):=by
  refine EB fun m hm=>?_
  have hm:=List.mem_range.mp hm
  have:((xs.size:Int) - 1 + (m:Int) * (-1)).toNat=xs.size - 1 - m:=by omega
  rw [this]
  have h2:xs.size - 1 - m<xs.size:=by omega
  rw [gD h2]
  simp [Array.getD,h2]
 rw [e]
 have e2:(fun m=>some (xs.getD (xs.size - 1 - m) dQ))=some∘fun m=>xs.getD (xs.size - 1 - m) dQ:=rfl
 rw [e2,List.filterMap_eq_map]
 refine qg (by simp) fun i h1 h2=>?_
 simp only [ay,eg] at h1
 have h3:xs.size - 1 - i<xs.size:=by omega
 rw [qh,vG,List.getElem_reverse]
 simp [Array.getD,h3]
theorem v8 {t sl:ag}{tk:Tok}{items:Array a8}{Q:a8->af->Prop} (ht:Dw s.heap t items) (hs:s.heap.IsSliceOf sl .none .none (.int (-1) tk))
  (h:Q (.ref s.heap.objs.size) { s with heap:=s.heap.push { cls:=.type "tuple",data:=.seq items.toList.reverse.toArray } })
  (hsz:items.size<=sizeLine):ak (aE prog w) A (mS (.ref t) (.ref sl)) Q E s:=by
 have htake:sizeOk (.seq items.toList.reverse.toArray):=by
  show items.toList.reverse.toArray.size<=sizeLine
  rw [aH,uA,aq]
  exact hsz
 obtain ⟨os,hos,hcs,hds⟩:=id hs
 have hTs:s.TypeIs (.ref sl) "slice":=⟨os,hos,hcs⟩
 unfold mS
 try with_reducible refine c7 ?_
 first | refine a6 (ac ?_) | skip
 refine a6 (Ad ht.typeIs (by decide) ?_)
 refine a6 (cF (name:=ii "__getitem__") ht.typeIs cS
  (cu cS ht.typeIs xi ?_ (yd _ _)))
 show ak _ _ (k_ (.ref t) >>= _) _ _ s
 refine a6 (JD ht ?_)
 refine a6 (iB hTs ?_)
 rw [if_pos (by decide)]
 refine a6 (wf hs ?_)
 have hno:¬ ((((items.size:Int) - 1) == 0 && (-1:Int) == 1 && items.size == items.size)=true):=by
  intro q
  rw [aP,aP] at q
  exact absurd q.1.2 (by decide)
 show ak _ _ (if ((((items.size:Int) - 1) == 0 && (-1:Int) == 1 && items.size == items.size)=true) then _ else _) _ _ s
 rw [if_neg hno,NY]
 first
  | exact a6 (m:=cG _) (bL (ac ⟨_,rfl,ac h⟩) htake)
  | exact a6 (m:=cG _) (bL (a6 (ac (ac ⟨_,rfl,ac h⟩))) htake)
  | exact a6 (a6 (m:=cG _) (bL (ac (ac ⟨_,rfl,ac h⟩)) htake))
  | exact a6 (a6 (m:=cG _) (bL (ac ⟨_,rfl,ac h⟩) htake))
end
end HT
namespace L2
open PySem PySem.Spec PyProof.Rows
section
variable {X:Cx}{e st:b9}{te ts:TE}{pos p2:Pos}
theorem cV.rev {xs:List V}{us:List a8} (h:cV xs us):cV xs.reverse us.reverse:=by
 induction h with
 | nil=>exact .nil
 | cons r t ih=>rw [oF,oF];exact ih.append (.cons r .nil)
theorem Tj (he:PE X e te) (hs:PE X st ts):PE X (.Subscript e (.Slice none none (some st) p2) pos) (fun σ H Q=>te σ H fun x H1=>ts σ H1 fun y H2=>y=.int (-1)/\∃ a xs,x=.ref a/\lm X.K H2 a xs/\∀ p,H2 p=none->Q (.ref p) (upd H2 p (.tup xs.reverse))):=by
 intro pins s σ H Q I h
 refine G3 (fW (he pins s σ H _ I h) fun v s1 h1=>?_)
 obtain ⟨x,H1,I1,r1,q1⟩:=h1
 have nP:evalPart none X.env=pure .none:=JF ..
 refine wpAny_Slice ?_
 rw [nP]
 refine ac ?_
 refine ac ?_
 rw [evalPart_some]
 refine fW (hs pins s1 σ H1 _ I1 q1) fun u s3 h3=>?_
 obtain ⟨y,H3,I3,r3,hy,a,xs,hx,sq,q⟩:=h3
 subst hy
 subst hx
 obtain ⟨tk,rfl⟩:=r3
 cases r1
 have I4:bF X pins σ H3 { s3 with heap:=s3.heap.push { cls:=.type "slice",data:=.fields #[.none,.none,.int (-1) tk] } }:=I3.kept (t':=s3.toks) fun b ob q=>ae _ q
 obtain ⟨its,r,ht,hz⟩:=I4.tuple sq
 have hlen:its.toArray.size=xs.length:=by rw [aH];exact r.length.symm
 show ak (aE X.prog X.w) X.A (xM e (.Slice none none (some st) p2) (.ref a) (.ref s3.heap.objs.size)) (EP X pins σ Q) X.xe { s3 with heap:=s3.heap.push { cls:=.type "slice",data:=.fields #[.none,.none,.int (-1) tk] } }
 refine tail_any (ops:=[.ref a,.ref s3.heap.objs.size]) ht.typeIs PyProof.Rows.slot_tuple_getitem.lookup ?_ (by with_unfolding_all rfl)
 refine HT.v8 ht (A8 ..) ?_ (by rw [hlen];exact hz)
 refine ⟨.ref _,_,I4.laid (t':=s3.toks) (o:=.tup xs.reverse) (fun b ob q=>ae _ q) (ar _) ?_,rfl,q _ (I4.hok.fresh (ar _))⟩
 exact ⟨by rw [uA];exact hz,_,r.rev,sQ _ _⟩
end
end L2
namespace J
open PySem L2
section
variable {c:C}{e:b9}{g:av->R D}{pos p2 p3 p4:Pos}
def Tk:D->R D
 | .tuple xs=>.ok (.tuple xs.reverse)
 | _=>.no
def Qw (g:av->R D):av->R D:=fun ρ=>(g ρ).bind Tk
theorem Tl {j:Nat} (h:JB c e g):JE c (.Subscript e (.Slice none none (some (.UnaryOp .USub (.Constant (.int 1) j p3) p4)) p2) pos) (Qw g):=.of fun ρ=>qy (Tj (h ρ) (Rb Mc yr)) fun σ H Q h_0=>by
 obtain ⟨H0,Hs0,la,Hs,f,q⟩:=h_0
 refine one f q fun d v H1 Hs1 e1 s1 f1 r1=>?_
 unfold Qw at q
 rw [e1,bind_ok] at q
 refine ⟨1,rfl,rfl,?_⟩
 cases d with
 | tuple ds =>
  obtain ⟨a,vs,rfl,qa,ra,_⟩:=r1.tuple s1.sub
  exact ⟨a,vs,rfl,qa,fun p hp=>q _ _ _ (s1.trans (.new s1.sub hp)) (.tuple aV (ra.reverse.same (cJ.new s1.sub hp).sh))⟩
 | _=>exact q.elim
end
end J
end
section
namespace L2
open PySem
def LF (mask:Nat):Nat->Nat×Nat->Nat×Nat
 | 0,x=>x
 | n + 1,x=>LF mask n (SetTable.leap mask x.1 x.2)
theorem IZ (mask:Nat):∀ (n m:Nat) (x:Nat×Nat),LF mask (n + m) x=LF mask m (LF mask n x)
 | 0,m,x=>by rw [Gd];rfl
 | n + 1,m,x=>by
  rw [Nat.succ_add]
  exact IZ mask n m _
theorem I_ (mask:Nat):∀ (n:Nat) (x:Nat×Nat),(LF mask n x).2=x.2 / 32 ^ n
 | 0,x=>by simp [LF]
 | n + 1,x=>by
  show (LF mask n _).2=_
  rw [I_ mask n]
  show x.2 / 32 / 32 ^ n=_
  rw [Nat.div_div_eq_div_mul,Nat.pow_succ,Nat.mul_comm]
theorem J4 (mask:Nat):∀ (n:Nat) (x:Nat×Nat),x.1<=mask->(LF mask n x).1<=mask
 | 0,x,h=>h
 | n + 1,x,h=>J4 mask n _ (by
  show (x.1 * 5 + 1 + x.2 / 32) % (mask + 1)<=mask
  exact xm (B_ _ (Ge _)))
theorem Bv {mask:Nat}{owner:Array (Option Nat)}:∀ (fuel i p:Nat),dD mask owner fuel i p=none->∀ n,n<fuel->(owner.getD (LF mask n (i,p)).1 (some 0)).isSome=true
 | 0,_,_,_,n,h=>absurd h (Nat.not_lt_zero n)
 | fuel + 1,i,p,e,n,h=>by
  unfold dD at e
  split at e
  ·cases e
  ·rename_i hf
   cases n with
   | zero =>
    have h0:=List.find?_eq_none.mp hf 0 (List.mem_range.mpr (by unfold SetTable.runEnd;split<;>omega))
    simp only [Nat.add_zero] at h0
    show (owner.getD i (some 0)).isSome=true
    cases q:owner.getD i (some 0) with
    | none=>rw [q] at h0;exact absurd rfl h0
    | some _=>rfl
   | succ n=>exact Bv fuel _ _ e n (Gf h)
theorem Bw {mask:Nat}{owner:Array (Option Nat)}:∀ (fuel i p k:Nat),dD mask owner fuel i p=some k->owner.getD k (some 0)=none
 | 0,_,_,_,e=>nomatch e
 | fuel + 1,i,p,k,e=>by
  unfold dD at e
  split at e
  ·rename_i k' hf
   cases e
   have:=List.find?_some hf
   cases q:owner.getD (i + k') (some 0) with
   | none=>rfl
   | some _=>rw [q] at this;cases this
  ·exact Bw fuel _ _ k e
def LG (mask:Nat):Prop:=mask=7\/mask=15\/mask=31
def Vd (mask:Nat):Bool:=(bt (mask + 1)).all fun i=>(bt (mask + 1)).all fun j=>(bt (mask + 1)).any fun n=>decide ((LF mask n (i,0)).1=j)
theorem Qx {mask:Nat} (h:LG mask):Vd mask=true:=by
 rcases h with h | h | h<;>subst h<;>decide +kernel
theorem getD_none {owner:Array (Option Nat)}{k:Nat} (h:owner.getD k (some 0)=none):owner.toList[k]?=some none:=by
 by_cases hk:k<owner.size
 ·rw [iy,gD hk] at h
  rw [eI,gD hk]
  simpa using h
 ·rw [iy,Array.getElem?_eq_none (by omega)] at h
  cases h
theorem Kw {mask:Nat} (hm:LG mask) {owner:Array (Option Nat)}{j:Nat} (hj:j<=mask) (hn:owner.toList[j]?=some none) {i p:Nat} (hi:i<=mask) (hp:p<2 ^ 64) :
  ∃ k,dD mask owner (qw mask) i p=some k/\owner.toList[k]?=some none:=by
 cases e:dD mask owner (qw mask) i p with
 | some k=>exact ⟨k,rfl,getD_none (Bw _ _ _ _ e)⟩
 | none =>
  exfalso
  have hz:(LF mask 13 (i,p)).2=0:=by
   rw [I_]
   exact Nat.div_eq_of_lt (aF hp (by decide))
  have h1:=J4 mask 13 (i,p) hi
  have g:=Qx hm
  unfold Vd at g
  rw [cR] at g
  have g:=g _ (List.mem_range.mpr (kn h1))
  rw [cR] at g
  have g:=g j (List.mem_range.mpr (kn hj))
  rw [lj] at g
  obtain ⟨n,hn1,hn2⟩:=g
  have hn1:=List.mem_range.mp hn1
  have hn2:=of_decide_eq_true hn2
  have hs:(LF mask (13 + n) (i,p)).1=j:=by
   rw [IZ,<- hn2,<- hz]
  have:=Bv _ _ _ e (13 + n) (by unfold qw;omega)
  rw [hs] at this
  have hq:owner.getD j (some 0)=none:=by
   rw [eI] at hn
   rw [iy,hn]
   rfl
  rw [hq] at this
  cases this
theorem Qy (h:Int):nh h<2 ^ 64:=by
 unfold nh
 have:=nZ h (show (0:Int)<2 ^ 64 by decide)
 have:=rO h (show (2 ^ 64:Int)≠0 by decide)
 omega
theorem EC {k:Nat}:∀ {l:List (Option Nat)}{j:Nat},l[j]?=some none->((l.set j (some k)).filterMap id).Perm (k::l.filterMap id)
 | [],_,h=>nomatch h
 | x::r,0,h=>by
  cases h
  exact .refl _
 | x::r,j + 1,h=>by
  have ih:=EC (k:=k) (l:=r) (j:=j) h
  cases x with
  | none=>exact ih
  | some y=>exact (ih.cons y).trans (.swap k y _)
theorem ED:∀ {l:List (Option Nat)},(l.filterMap id).length<l.length->∃ j,j<l.length/\l[j]?=some none
 | [],h=>absurd h (bW 0)
 | none::r,_=>⟨0,Ge _,rfl⟩
 | some y::r,h=>by
  obtain ⟨j,h1,h2⟩:=ED (l:=r) (Gf h)
  exact ⟨j + 1,Nat.succ_lt_succ h1,h2⟩
def J5 (mask:Nat) (acc:Option (Array (Option Nat)×Nat)) (h:Int):Option (Array (Option Nat)×Nat):=acc.bind fun x=>(dD mask x.1 (qw mask) (nh h % (mask + 1)) (nh h)).bind fun j=>some (x.1.setIfInBounds j (some x.2),x.2 + 1)
theorem EE (mask:Nat) (hs:Array Int):ux mask hs=(hs.toList.foldl (J5 mask) (some (yk (mask + 1) none,0))).map (·.1):=by
 rw [Array.foldl_toList]
 rfl
theorem J6 {mask:Nat} (hm:LG mask):∀ (l:List Int) (owner:Array (Option Nat)) (k:Nat),owner.size=mask + 1->(owner.toList.filterMap id).Perm (bt k)->k + l.length<=mask ->
  ∃ o',l.foldl (J5 mask) (some (owner,k))=some (o',k + l.length)/\o'.size=mask + 1/\(o'.toList.filterMap id).Perm (bt (k + l.length))
 | [],owner,k,h1,h2,_=>⟨owner,rfl,h1,h2⟩
 | h::r,owner,k,h1,h2,h3=>by
  simp only [aO] at h3 ⊢
  obtain ⟨j,j1,j2⟩:=ED (l:=owner.toList) (by rw [h2.length_eq,eg,aq,h1];omega)
  rw [aq,h1] at j1
  obtain ⟨m,m1,m2⟩:=Kw hm (xm j1) j2 (i:=nh h % (mask + 1)) (xm (B_ _ (Ge _))) (Qy h)
  have e:J5 mask (some (owner,k)) h=some (owner.setIfInBounds m (some k),k + 1):=by
   unfold J5
   simp only [wL,m1]
  rw [lW,e]
  obtain ⟨o',a1,a2,a3⟩:=J6 hm r (owner.setIfInBounds m (some k)) (k + 1) (by rw [Array.size_setIfInBounds];exact h1) (by
   rw [Array.toList_setIfInBounds]
   refine (EC m2).trans ?_
   rw [List.range_succ]
   exact ((h2.cons k).trans (List.perm_append_singleton k _).symm)) (by omega)
  rw [show k + 1 + r.length=k + (r.length + 1) by omega] at a1 a3
  exact ⟨o',a1,a2,a3⟩
theorem J7 {n:Nat}{o:Array (Option Nat)} (h:o.size=n):(bt n).filterMap (fun j=>o.getD j none)=o.toList.filterMap id:=by
 have e:(bt n).map (fun j=>o.getD j none)=o.toList:=by
  refine qg (by simp [h]) fun i h1 h2=>?_
  simp only [ay,eg] at h1
  rw [qh,vG,iy,gD (by omega)]
  simp
 rw [<- e,n6]
 rfl
theorem J8 {mask finger moves:Nat}{led plain:Bool}{hs:Array Int} (hm:LG mask) (hl:hs.size<=mask):∃ place order,A9 mask finger moves led plain hs=some ({ mask,place,dummies:=#[],finger,led,moves,plain },order)/\place.size=hs.size/\order.toList.Perm (bt hs.size):=by
 obtain ⟨o,h1,h2,h3⟩:=J6 hm hs.toList (yk (mask + 1) none) 0 (by simp) (by
  have:(yk (mask + 1) (none:Option Nat)).toList.filterMap id=[]:=by
   rw [Array.toList_replicate,List.filterMap_eq_nil_iff]
   intro x hx
   rw [(List.mem_replicate.mp hx).2]
   rfl
  rw [this]
  exact .refl _) (by rw [aq];omega)
 have hc:ux mask hs=some o:=by
  rw [EE,h1]
  rfl
 rw [Gd,aq] at h3
 refine ⟨_,_,by unfold A9;rw [hc];rfl,?_,?_⟩
 ·have e:=congrArg sR (J7 h2)
  rw [h3.length_eq,eg] at e
  rw [aH,ay,<- e]
  rw [xn,xn]
  congr 1
  funext j
  cases o.getD j none<;>rfl
 ·rw [List.map_filterMap]
  refine .trans (.of_eq ?_) h3
  rw [<- J7 h2]
  show List.filterMap _ _=List.filterMap _ _
  congr 1
  funext j
  cases o.getD j none<;>rfl
end L2
namespace L2
open PySem
section
variable {P:aI}{w:ba}{A:aX}{E:a8->af->Prop}{s:af}
theorem NZ:∀ n:_root_.Fin 31,n.val<cn n.val/\(cn n.val=8\/cn n.val=16\/cn n.val=32):=by decide +kernel
theorem N_ {n:Nat} (h:n<=30):n<=cn n - 1/\LG (cn n - 1)/\cn n<=32:=by
 obtain ⟨h1,h2⟩:=NZ ⟨n,by omega⟩
 simp only at h1 h2
 unfold LG
 omega
theorem zf {es:Array (Int×a8)}{order:Array Nat} (h:order.toList.Perm (bt es.size)):(order.filterMap (es[·]?)).toList.Perm es.toList:=by
 rw [Array.toList_filterMap]
 refine (h.filterMap _).trans (.of_eq ?_)
 have e:(bt es.size).map (fun i=>es[i]?)=es.toList.map some:=by
  refine qg (by simp) fun i h1 h2=>?_
  simp only [ay,eg] at h1
  rw [qh,vG,qh,Array.getElem_toList]
  exact gD h1
 have e2:(bt es.size).filterMap (fun i=>es[i]?)=((bt es.size).map (fun i=>es[i]?)).filterMap id:=by rw [n6];rfl
 rw [e2,e,n6]
 simp
theorem cW.of {h:bf}{a:ag}{es es':Array (Int×a8)}{ep:Nat}{t t':eF} (I:cW w h a es ep t) (p:es'.toList.Perm es.toList) (f:t'.fits es'.size=true) (l:t'.led=t.led) (pl:t'.plain=t.plain):cW w (h.update a (qC es' t')) a es' (ep + 1) t':=by
 have sz:es'.size=es.size:=by rw [<- aq,p.length_eq,aq]
 refine ⟨rV I,fun e he=>I.txt e (p.mem_iff.mp he),(p.map ka).nodup_iff.mpr I.nd,by rw [sz];exact I.few,f,l.trans I.led,?_⟩
 rw [sz,pl]
 exact I.pl
theorem zg {t:eF}{n:Nat} (h:t.fits n=true):t.place.size=n/\t.fill<=t.mask:=by
 unfold nc at h
 rw [aP] at h
 exact ⟨eq_of_beq h.1,of_decide_eq_true h.2⟩
theorem J9 {mask finger moves:Nat}{led plain:Bool}{place:Array Nat}{n:Nat} (h:place.size=n) (hm:n<=mask):nc { mask,place,dummies:=#[],finger,led,moves,plain } n=true:=by
 unfold nc LV
 subst h
 simp only [beq_self_eq_true,uI,decide_eq_true_eq]
 exact hm
theorem GW {a:ag}{es:Array (Int×a8)}{ep:Nat}{t:eF}{wanted:Nat}{Q:Unit->af->Prop} (I:cW w s.heap a es ep t) (hw:wanted<=30) (hz:es.size<=wanted)
  (h:∀ h' es' ep' t',bI a s.heap h'->cW w h' a es' ep' t'->es'.toList.Perm es.toList->LG t'.mask->wanted<=t'.mask->Q () { s with heap:=h' }):ak (aE P w) A (setRelay a wanted) Q E s:=by
 obtain ⟨w1,w2,w3⟩:=N_ hw
 obtain ⟨place,order,e,hp,ho⟩:=J8 (finger:=t.finger) (moves:=t.movedTo (cn wanted - 1)) (led:=t.led) (plain:=t.plain) (hs:=es.map (·.1)) w2 (by rw [sH];omega)
 rw [sH] at hp ho
 have pm:=zf ho
 have sz:(order.filterMap (es[·]?)).size=es.size:=by rw [<- aq,pm.length_eq,aq]
 unfold setRelay
 refine a6 (bB I.at_ rfl I.fits ?_)
 show ak _ _ (if cn wanted > sizeLine then _ else _) _ _ s
 have h32:(32:Nat)<=sizeLine:=by decide
 rw [if_neg (by omega)]
 refine a6 ?_
 unfold JL
 rw [e]
 show ak _ _ (if ((order.filterMap (es[·]?)).size != es.size)=true then _ else pure (order.filterMap (es[·]?),_)) _ _ s
 rw [if_neg (by rw [sz];simp)]
 refine ac ?_
 have fit:nc { mask:=cn wanted - 1,place,dummies:=#[],finger:=t.finger,led:=t.led,moves:=t.movedTo (cn wanted - 1),plain:=t.plain } (order.filterMap (es[·]?)).size=true:=J9 (by rw [sz];exact hp) (by rw [sz];omega)
 refine j0 I.at_ rfl ?_ (by rw [sz];exact fA I.few)
 exact h _ _ _ _ (bU s.heap a _) (I.of pm fit rfl rfl) pm w2 w1
theorem CN {a:ag}{es:Array (Int×a8)}{ep:Nat}{t:eF}{more:Nat}{Q:Unit->af->Prop} (I:cW w s.heap a es ep t) (hz:es.size + more<=15) (hm:es.size≠0\/LG t.mask)
  (h:∀ h' es' ep' t',bI a s.heap h'->cW w h' a es' ep' t'->es'.toList.Perm es.toList->(es.size≠0\/LG t'.mask)->more<=t'.mask->Q () { s with heap:=h' }):ak (aE P w) A (setRoomFor a more) Q E s:=by
 obtain ⟨f1,f2⟩:=zg I.fits
 unfold setRoomFor
 refine a6 (bB I.at_ rfl I.fits ?_)
 dsimp only
 unfold SetTable.roomFor
 by_cases hc:(t.fill + more) * 5 ≥ t.mask * 3
 ·rw [if_pos hc]
  refine GW I (by rw [f1];omega) (by rw [f1];omega) fun h' es' ep' t' a1 a2 a3 a4 a5=>?_
  exact h h' es' ep' t' a1 a2 a3 (.inr a4) (by rw [f1] at a5;omega)
 ·rw [if_neg hc]
  exact ac (h s.heap es ep t (.refl ..) I (.refl _) hm (by omega))
end
end L2
namespace L2
open PySem
theorem xV {α σ:Type}{M:vJ}{A:aX}{E:a8->af->Prop}{Q:σ->af->Prop}{f:α->σ->Sem (ForInStep σ)}{b:σ} (I:List α->af->Prop)
  (step:∀ x r s,I (x::r) s->ak M A (f x b) (fun st s'=>st=.yield b/\I r s') E s) (fin:∀ s,I [] s->Q b s):∀ (l:List α) (s:af),I l s->ak M A (forIn l b f) Q E s
 | [],s,h=>by rw [sS];exact ac (fin s h)
 | x::r,s,h=>by
  rw [lX]
  refine a6 (bc (step x r s h) (fun st s' q=>?_) fun _ _ e=>e)
  obtain ⟨rfl,q⟩:=q
  exact xV I step fin r s' q
section
variable {P:aI}{w:ba}{A:aX}{E:a8->af->Prop}{s:af}
theorem EF {l:List ag}{Q:Bool->af->Prop} (h:∀ a∈l,∃ es ep t,cW w s.heap a es ep t) (q:Q true s):ak (aE P w) A (setsQuiet l) Q E s:=by
 unfold setsQuiet
 refine a6 (xV (fun r s'=>s'=s/\∀ a∈r,∃ es ep t,cW w s.heap a es ep t) (fun a r s' hI=>?_) (fun s' hI=>?_) l s ⟨rfl,h⟩)
 ·obtain ⟨rfl,hI⟩:=hI
  obtain ⟨es,ep,t,I⟩:=hI a al
  unfold setEntries
  refine a6 (a6 (bB I.at_ rfl I.fits (ac ?_)))
  dsimp only
  rw [<- JQ]
  refine a6 (xV (fun r2 s2=>s2=s'/\∀ e∈r2,tS w e) (fun e r2 s2 h2=>?_) (fun s2 h2=>?_) es.toList s' ⟨rfl,I.txt⟩)
  ·obtain ⟨rfl,h2⟩:=h2
   obtain ⟨x,tk,rfl⟩:=h2 e al
   exact ac ⟨rfl,rfl,fun e he=>h2 e (ao _ he)⟩
  ·obtain ⟨rfl,_⟩:=h2
   exact ac ⟨rfl,rfl,fun b hb=>hI b (ao _ hb)⟩
 ·obtain ⟨rfl,_⟩:=hI
  exact ac q
theorem Kx {o:ag}{es:Array (Int×a8)}{ep:Nat}{t:eF}{Q:Array (Int×a8)->af->Prop} (I:cW w s.heap o es ep t) (hb:w.params.followText "set-order"=true\/t.plain=true\/es.size<=1)
  (q:∀ es',es'.toList.Perm es.toList->Q es' s):ak (aE P w) A (setWalk o) Q E s:=by
 unfold setWalk
 refine a6 (bB I.at_ rfl I.fits (a6 (fm ?_)))
 cases hw:w.params.followText "set-order" with
 | true =>
  simp only [if_true]
  exact a6 (ij (ac (q _ (vZ _ _))))
 | false =>
  simp only [c8,if_false]
  have hd:(!t.plain && decide (es.size > 1))=false:=by
   rcases hb with h | h | h
   ·rw [hw] at h;cases h
   ·rw [h];rfl
   ·rw [decide_eq_false (by omega),iW]
  have hl:t.led=true:=by rw [I.led,hw];rfl
  show ak _ _ (if (!t.plain && decide (es.size > 1))=true then _ else _) _ _ s
  rw [hd,if_neg aN]
  refine a6 ?_
  show ak _ _ (if (!t.led && decide (es.size > 1))=true then _ else pure ()) _ _ s
  rw [hl,if_neg (by simp)]
  exact ac (ac (q _ (.refl _)))
theorem xw {o a:ag}{eo es:Array (Int×a8)}{epo ep:Nat}{to t:eF}{Q:Array (Int×a8)->af->Prop} (I:cW w s.heap o eo epo to) (J:cW w s.heap a es ep t)
  (q:∀ h' es' ep' t',bI a s.heap h'->cW w h' a es ep' t'->es'.toList.Perm eo.toList->Q es' { s with heap:=h' }):ak (aE P w) A (setWalkUnseen o [a] (some a)) Q E s:=by
 unfold setWalkUnseen
 refine a6 (bB I.at_ rfl I.fits (a6 (fm ?_)))
 cases hc:(w.params.followText "set-order" || to.led && to.plain || decide (eo.size<=1)) with
 | true =>
  rw [if_pos rfl]
  refine Kx I ?_ fun es' p=>q s.heap es' ep t (.refl ..) J p
  rw [jB,jB,aP,decide_eq_true_eq] at hc
  rcases hc with (h | h) | h
  ·exact .inl h
  ·exact .inr (.inl h.2)
  ·exact .inr (.inr h)
 | false =>
  rw [if_neg aN]
  rw [Ie,Ie,decide_eq_false_iff_not] at hc
  obtain ⟨⟨c1,_⟩,c3⟩:=hc
  refine a6 (EF (fun b hb=>?_) ?_)
  ·rcases List.mem_cons.mp hb with h | h
   ·rw [h];exact ⟨_,_,_,I⟩
   ·rw [List.mem_singleton.mp h];exact ⟨_,_,_,J⟩
  rw [if_neg (by simp)]
  refine a6 (gG ?_)
  dsimp only
  refine a6 (bB J.at_ rfl J.fits ?_)
  dsimp only
  have hpl:to.plain=false:=I.pl.resolve_left (by omega)
  have hled:(t.led && to.led)=t.led:=by rw [I.led,J.led,lv]
  split
  ·refine a6 (j0 J.at_ rfl ?_ (fA J.few))
   refine ac (q _ _ _ _ (bU s.heap a _) (⟨rV J,J.txt,J.nd,J.few,?_,?_,?_⟩:cW w _ a es (ep + 1) _) (.refl _))
   ·exact J.fits
   ·exact hled.trans J.led
   ·exact .inr (by show (t.plain && to.plain)=false;rw [hpl,iW])
  ·exact ac (q s.heap eo ep t (.refl ..) J (.refl _))
end
end L2
namespace L2
open PySem
section
variable {P:aI}{w:ba}{A:aX}{E:a8->af->Prop}{s:af}
theorem cW.but {h h':bf}{a o:ag}{eo:Array (Int×a8)}{epo:Nat}{to:eF} (I:cW w h o eo epo to) (ne:a≠o) (sb:bI a h h'):cW w h' o eo epo to:=I.keep fun _ e=>(sb.2 o (dh ne)).trans e
theorem zh {a o:ag}{es eo:Array (Int×a8)}{ep epo:Nat}{t to:eF}{each:Sem Unit}{Q:Unit->af->Prop} (ne:a≠o) (J:cW w s.heap a es ep t) (I:cW w s.heap o eo epo to)
  (hz:es.size + eo.size<=15) (hm:es.size≠0\/LG t.mask) (he:∀ (s':af) (Q':Unit->af->Prop),cW w s'.heap o eo epo to->Q' () s'->ak (aE P w) A each Q' E s')
  (q:∀ h' tk' es' ep' t',bI a s.heap h'->cW w h' a es' ep' t'->(∀ x,x∈es'.toList.map ka↔x∈es.toList.map ka\/x∈eo.toList.map ka)->(es'.size≠0\/LG t'.mask)->Q () { s with heap:=h',toks:=tk' }) :
  ak (aE P w) A (setMerge a o each) Q E s:=by
 unfold setMerge
 rw [if_neg (by simpa using ne)]
 refine a6 (bB I.at_ rfl I.fits ?_)
 dsimp only
 by_cases h0:eo.size=0
 ·rw [if_pos (by simpa [Array.isEmpty] using h0)]
  have e0:eo=#[]:=l5 h0
  exact ac (q s.heap s.toks es ep t (.refl ..) J (fun x=>by rw [e0];simp) hm)
 rw [if_neg (by simpa [Array.isEmpty] using h0)]
 refine a6 (CN J hz hm fun h1 es1 ep1 t1 sb1 J1 p1 m1 r1=>?_)
 have I1:=I.but ne sb1
 have sz1:es1.size=es.size:=by rw [<- aq,p1.length_eq,aq]
 refine a6 (bB (s:={ s with heap:=h1 }) J1.at_ rfl J1.fits ?_)
 dsimp only
 obtain ⟨f1,f2⟩:=zg J1.fits
 have hpl:to.plain=false:=I.pl.resolve_left h0
 have hled:(t1.led && to.led)=t1.led:=by rw [I.led,J1.led,lv]
 have kp:∀ x,x∈es1.toList.map ka↔x∈es.toList.map ka:=fun x=>(p1.map ka).mem_iff
 by_cases hf:t1.fill=0
 ·have e1:es.size=0:=by
   unfold LV at hf
   omega
  have mk:LG t1.mask:=m1.resolve_left (by omega)
  have ee:es=#[]:=l5 e1
  unfold LW
  rw [if_neg (by rw [hf];decide)]
  split
  ·refine j0 (s:={ s with heap:=h1 }) J1.at_ rfl ?_ (fA I.few)
   refine q _ s.toks _ _ _ (sb1.trans (bU h1 a _)) (⟨rV J1,I.txt,I.nd,I.few,?_,?_,?_⟩:cW w _ a eo (ep1 + 1) _) (fun x=>by rw [ee];simp) (.inl h0)
   ·exact I.fits
   ·exact hled.trans J1.led
   ·exact .inr (by show (t1.plain && to.plain)=false;rw [hpl,iW])
  ·obtain ⟨place,order,e,hp,ho⟩:=J8 (finger:=t1.finger) (moves:=t1.moves) (led:=t1.led && to.led) (plain:=t1.plain && to.plain) (hs:=eo.map (·.1)) mk (by rw [sH];exact r1)
   rw [sH] at hp ho
   have pm:=zf ho
   have sz:(order.filterMap (eo[·]?)).size=eo.size:=by rw [<- aq,pm.length_eq,aq]
   refine a6 ?_
   rw [e]
   show ak _ _ (if ((order.filterMap (eo[·]?)).size != eo.size)=true then _ else pure (order.filterMap (eo[·]?),_)) _ _ _
   rw [if_neg (by rw [sz];simp)]
   refine ac ?_
   refine j0 (s:={ s with heap:=h1 }) J1.at_ rfl ?_ (by rw [sz];exact fA I.few)
   refine q _ s.toks _ _ _ (sb1.trans (bU h1 a _)) (⟨rV J1,fun x hx=>I.txt x (pm.mem_iff.mp hx),(pm.map ka).nodup_iff.mpr I.nd,by rw [sz];exact I.few,J9 (by rw [sz];exact hp) (by rw [sz];exact r1),hled.trans J1.led,.inr ?_⟩:cW w _ a (order.filterMap (eo[·]?)) (ep1 + 1) _) (fun x=>?_) (.inl (by rw [sz];exact h0))
   ·show (t1.plain && to.plain)=false;rw [hpl,iW]
   ·rw [(pm.map ka).mem_iff,ee];simp
  ·rename_i hq
   split at hq<;>cases hq
 ·unfold LW
  rw [if_pos (by simpa using hf)]
  dsimp only
  refine a6 (xw (s:={ s with heap:=h1 }) I1 J1 fun h2 es2 ep2 t2 sb2 J2 p2=>?_)
  rw [<- JQ]
  have hl:es2.toList.length=eo.size:=by rw [p2.length_eq,aq]
  refine a6 (xV (fun r s'=>∃ h' tk' e' p' t',s'={ s with heap:=h',toks:=tk' }/\bI a s.heap h'/\cW w h' a e' p' t'/\e'.size + r.length<=15/\(∀ e∈r,tS w e)/\∀ x,(x∈e'.toList.map ka\/x∈r.map ka)↔x∈es.toList.map ka\/x∈eo.toList.map ka) ?_ ?_ es2.toList _ ⟨h2,s.toks,es1,ep2,t2,rfl,sb1.trans sb2,J2,by omega,fun e he=>I.txt e (p2.mem_iff.mp he),fun x=>by rw [kp,(p2.map ka).mem_iff]⟩)
  ·rintro e r s' ⟨h',tk',e',p',t',rfl,sb',J',z',tx',k'⟩
   obtain ⟨x,tk,rfl⟩:=tx' e al
   simp only [aO] at z'
   dsimp only
   refine a6 (c7 (Ba (s:={ s with heap:=h',toks:=tk' }) (⟨e',p',t',J',.refl _⟩:lw w h' a (e'.toList.map ka)) (by rw [ay,aq];exact aF (show e'.size + 1<100 by omega) (by decide)) fun h'' tk'' sb'' S''=>?_))
   obtain ⟨e'',p'',t'',J'',pm''⟩:=S''
   have sb3:=sb'.trans sb''
   have I3:=I.but ne sb3
   refine a6 (he _ _ I3 ?_)
   refine a6 (bB (s:={ s with heap:=h'',toks:=tk'' }) I3.at_ rfl I3.fits ?_)
   dsimp only
   rw [if_neg (by simp)]
   refine ac ⟨rfl,h'',tk'',e'',p'',t'',rfl,sb3,J'',?_,fun e he=>tx' e (ao _ he),fun y=>?_⟩
   ·have:=pm''.length_eq
    rw [ay,aq] at this
    have l2:(if x∈e'.toList.map ka then e'.toList.map ka else e'.toList.map ka++[x]).length<=e'.size + 1:=by
     split<;>simp
    omega
   ·rw [<- k' y,pm''.mem_iff]
    have ek:ka (hashStr w x,jE x tk)=x:=rfl
    rw [aR,aQ,ek]
    split
    ·rename_i hx
     constructor
     ·rintro (h | h)
      ·exact .inl h
      ·exact .inr (.inr h)
     ·rintro (h | h | h)
      ·exact .inl h
      ·rw [h];exact .inl hx
      ·exact .inr h
    ·rw [Aa,eU]
     constructor
     ·rintro ((h | h) | h)
      ·exact .inl h
      ·exact .inr (.inl h)
      ·exact .inr (.inr h)
     ·rintro (h | h | h)
      ·exact .inl (.inl h)
      ·exact .inl (.inr h)
      ·exact .inr h
  ·rintro s' ⟨h',tk',e',p',t',rfl,sb',J',z',tx',k'⟩
   refine ac (q h' tk' e' p' t' sb' J' (fun x=>?_) (.inl ?_))
   ·rw [<- k' x];simp
   ·intro e0
    obtain ⟨e,hh⟩:∃ e,e∈eo.toList:=by
     cases hq:eo.toList with
     | nil=>rw [<- aq,hq] at h0;exact absurd rfl h0
     | cons e r=>exact ⟨e,al⟩
    have:=(k' (ka e)).mpr (.inr (mi hh))
    rw [l5 e0] at this
    simp at this
end
end L2
namespace L2
open PySem PyProof.Rows
theorem CO:G6 table "set.__or__"=some gj.«frozenset.__or__»:=G7 (id':="frozenset.__or__") (by kernel_rfl) rfl (by decide +kernel) (by kernel_rfl)
section
variable {P:aI}{w:ba}{A:aX}{E:a8->af->Prop}{s:af}
theorem cW.ty {a:ag}{es:Array (Int×a8)}{ep:Nat}{t:eF} (I:cW w s.heap a es ep t):s.TypeIs (.ref a) "set":=⟨_,I.at_,rfl⟩
theorem tY {a:ag}{es:Array (Int×a8)}{ep:Nat}{t:eF}{Q:Bool->af->Prop} (I:cW w s.heap a es ep t) (q:Q true s):ak (aE P w) A (sI (.ref a)) Q E s:=by
 unfold sI
 refine a6 (jA I.ty LO ?_)
 exact ac q
theorem O0 {h:bf}{a:ag} (e:h.get? a=some (fi w)):cW w h a #[] 0 (.fresh 0 0 (!w.params.followText "set-order")) :=
 ⟨e,(fun _ h=>nomatch h),iY,by decide,rfl,rfl,.inl rfl⟩
theorem Qz {a b:ag}{xs ys:List Str}{Q:a8->af->Prop} (ha:lw w s.heap a xs) (hb:lw w s.heap b ys) (ne:a≠b) (hz:xs.length + ys.length<=15)
  (q:∀ h' tk',bI s.heap.objs.size (s.heap.push (fi w)) h'->lw w h' s.heap.objs.size (de xs ys)->Q (.ref s.heap.objs.size) { s with heap:=h',toks:=tk' }) :
  ak (aE P w) A (fU .BitOr (.ref a) (.ref b)) Q E s:=by
 obtain ⟨ea,pa,ta,Ia,ma⟩:=ha
 obtain ⟨eb,pb,tb,Ib,mb⟩:=hb
 have sa:ea.size=xs.length:=by rw [<- ma.length_eq,ay,aq]
 have sb:eb.size=ys.length:=by rw [<- mb.length_eq,ay,aq]
 refine wpAny_binaryOp_same Ia.ty Ib.ty F.fills_set_or F.slot_set_or (cu F.slot_set_or Ia.ty CO ?_ (F.args_set_or_2 _ _))
 have lt1:a<s.heap.objs.size:=am Ia.at_
 have lt2:b<s.heap.objs.size:=am Ib.at_
 show ak _ _ (Pf "__or__" ⟨[.ref a,.ref b],[]⟩ >>= _) _ _ s
 refine a6 (a6 (ac (ac ?_)))
 dsimp only
 refine a6 (a6 (tY Ia (tY Ib ?_)))
 rw [if_neg (by simp)]
 refine a6 (ac (a6 ?_))
 show ak _ _ (tO a >>= _) _ _ s
 refine a6 ?_
 unfold tO Pg
 refine a6 (a6 (jA Ia.ty LO (ac ?_)))
 rw [if_pos rfl]
 refine a6 (sZ ?_)
 have g0:(s.heap.push (fi w)).get? s.heap.objs.size=some (fi w):=aG _ rfl
 have J0:=O0 g0
 have Ia1:cW w (s.heap.push (fi w)) a ea pa ta:=Ia.keep fun _ e=>ae _ e
 have Ib1:cW w (s.heap.push (fi w)) b eb pb tb:=Ib.keep fun _ e=>ae _ e
 have na:s.heap.objs.size≠a:=dh (aC lt1)
 have nb:s.heap.objs.size≠b:=dh (aC lt2)
 refine a6 (ac (a6 (zh (s:={ s with heap:=s.heap.push (fi w) }) na J0 Ia1 (by show 0 + ea.size<=15;omega) (.inr (.inl rfl)) (fun _ _ _ q=>ac q) fun h1 tk1 e1 p1 t1 sb1 J1 k1 m1=>ac ?_)))
 have Ib2:=Ib1.but nb sb1
 have n1:(e1.toList.map ka).length<=ea.size:=by
  have:=(ni J1.nd Ia.nd).mpr fun x=>by rw [k1];simp
  rw [this.length_eq,ay,aq]
  exact ar _
 rw [ay,aq] at n1
 show ak _ _ (if (bE b != bE a)=true then _ else _) _ _ _
 rw [if_pos (by simp;exact dh ne)]
 refine a6 (ac (a6 (c7 ?_)))
 show ak _ _ (jz _ s.heap.objs.size (bE b)) _ _ _
 unfold jz
 refine a6 (tY (s:={ s with heap:=h1,toks:=tk1 }) Ib2 ?_)
 rw [if_pos rfl]
 refine a6 (ac ?_)
 unfold Ph setEpoch
 refine a6 (a6 (bB (s:={ s with heap:=h1,toks:=tk1 }) Ib2.at_ rfl Ib2.fits (ac ?_)))
 refine zh (s:={ s with heap:=h1,toks:=tk1 }) nb J1 Ib2 (by omega) m1 (fun s' Q' I' q'=>?_) fun h2 tk2 e2 p2 t2 sb2 J2 k2 m2=>?_
 ·unfold Pi setEpoch
  refine a6 (a6 (bB I'.at_ rfl I'.fits (ac ?_)))
  dsimp only
  rw [if_neg (by simp)]
  exact ac q'
 ·refine ac (ac ⟨_,rfl,(fun z=>nomatch z),q h2 tk2 (sb1.trans sb2) ⟨e2,p2,t2,J2,?_⟩⟩)
  refine (ni J2.nd (iD _ _ (ma.nodup_iff.mp Ia.nd))).mpr fun x=>?_
  rw [k2,iN,k1,ma.mem_iff,mb.mem_iff]
  simp
end
end L2
namespace L2
open PySem PyProof.Rows
theorem Tn {X:Cx}:qi X (fU .BitOr) (fun x y H Q=>∃ a b xs ys,x=.ref a/\y=.ref b/\a≠b/\H a=some (lN X.w a xs)/\H b=some (lN X.w b ys)/\xs.length + ys.length<=15/\∀ p,H p=none->Q (.ref p) (upd H p (lN X.w p (de xs ys)))):=by
 intro pins s σ H x y v u Q I rx ry h
 obtain ⟨a,b,xs,ys,rfl,rfl,ne,ha,hb,hz,q⟩:=h
 cases rx
 cases ry
 have Sa:=(show dn X.prog X.w H s.heap a (lN X.w a xs) from I.hok a _ ha).1
 have Sb:=(show dn X.prog X.w H s.heap b (lN X.w b ys) from I.hok b _ hb).1
 refine Qz Sa Sb ne hz fun h' tk' sb S=>?_
 refine ⟨.ref s.heap.objs.size,_,I.laid (t':=tk') (fun b o e=>?_) (ar _) (Ck S),rfl,q _ (I.hok.fresh (ar _))⟩
 exact (sb.2 b (aC (am e))).trans (ae _ e)
end L2
namespace J
open PySem L2
section
variable {c:C}{a b:b9}{ga gb:av->R (List Str)}{pos:Pos}
def To (xs ys:List Str):R (List Str):=if xs.length + ys.length<=15 then .ok (de xs ys) else .no
def O1 (ga gb:av->R (List Str)):av->R (List Str):=fun ρ=>(ga ρ).bind fun xs=>(gb ρ).bind (J.To xs)
theorem Tp (ha:Qh c a ga) (hb:Qh c b gb):Qh c (.BinOp a .BitOr b pos) (O1 ga gb):=.of fun ρ=>qy (Ij Tn (ha ρ) (hb ρ)) fun σ H Q h_0=>by
 obtain ⟨H0,Hs0,la,Hs,f,q⟩:=h_0
 refine IN (w:=c.X.w) f q fun xs p H1 Hs1 e1 s1 f1 n1=>?_
 unfold O1 at q
 rw [e1,bind_ok] at q
 have s2:cJ H1 Hs1 (upd H1 p (lN c.X.w p xs)) Hs1:=.mine f1.st.sub n1
 refine IN (w:=c.X.w) (f1.step s2) (q.on (s1.trans s2) (q':=fun _=>True) fun _ _=>trivial) fun ys p2 H2 Hs2 e2 s3 f2 n2=>?_
 rw [e2,bind_ok] at q
 unfold J.To at q
 by_cases hz:xs.length + ys.length<=15
 ·rw [if_pos hz] at q
  have k1:H2 p=some (lN c.X.w p xs):=s3.all p _ aV
  have ne:p≠p2:=fun z=>by rw [z,n2] at k1;cases k1
  have s4:cJ H2 Hs2 (upd H2 p2 (lN c.X.w p2 ys)) Hs2:=.mine f2.st.sub n2
  exact ⟨p,p2,xs,ys,rfl,rfl,ne,by rw [b6 ne];exact k1,aV,hz,fun l hl=>q l _ _ (s1.trans (s2.trans (s3.trans s4))) hl⟩
 ·rw [if_neg hz] at q;exact q.elim
end
end J
namespace J
open PySem L2
section
variable {c:C}{a b:b9}{gs:av->R (List D)}{pos px py pt pt2:Pos}{x y:Str}
def WX (i j:Nat) (ρ:av):List D->R Fl
 | [d,e]=>.ok (.nx ((ρ.set i (.shr d)).set j (.shr e)))
 | _=>.no
def O3 (i j:Nat) (gs:av->R (List D)):av->R Fl:=fun ρ=>(gs ρ).bind (WX i j ρ)
theorem Tq (i j:Nat) {kt k2:_} (hc:c.X.calm=true) (hN:c.X.N.Nodup) (ha:Bf c [a,b] gs) (hi:c.X.N[i]?=some x:=by rfl) (hj:c.X.N[j]?=some y:=by rfl) (hij:i≠j:=by decide)
  (hx:c.X.env.scope.names.lookup x=some .local:=by rfl) (hy:c.X.env.scope.names.lookup y=some .local:=by rfl) (hw:xJ [.Tuple [.Name x px,.Name y py] kt pt] (.Tuple [a,b] k2 pt2) c.X.env=pure (some [x,y]):=by rfl)
  (hs:xI [.Tuple [.Name x px,.Name y py] kt pt] (.Tuple [a,b] k2 pt2) pos.line c.X.env=pure false:=by rfl):JS c (.Assign [.Tuple [.Name x px,.Name y py] kt pt] (.Tuple [a,b] k2 pt2) pos) (O3 i j gs):=.of fun ρ=>Ab (Su hc hN hi hj hij hx hy (ha ρ) hw hs) fun D σ H h_0=>by
 obtain ⟨H0,Hs0,la,Hs,f,q⟩:=h_0
 refine ⟨H0,Hs0,la,Hs,f,?_⟩
 unfold O3 at q
 cases hr:gs ρ with
 | ok ds =>
  rw [hr,bind_ok] at q
  intro vs H' Hs' s r
  match ds,r,q with
  | [],_,q=>exact q.elim
  | [_],_,q=>exact q.elim
  | [d,e],.cons r1 (.cons r2 .nil),q=>exact ⟨_,_,rfl,q _ _ Hs' (((f.step s).set i r1).set j r2)⟩
  | _::_::_::_,_,q=>exact q.elim
 | ex z n =>
  rw [hr] at q
  exact fun H' Hs' s=>q H' Hs' (f.st.trans s)
 | no=>rw [hr] at q;exact q.elim
end
end J
namespace J
open PySem L2
end J
end
section
namespace L2
open PySem PySem.Spec PyProof.Rows
theorem CQ:hW (.type "list") "keys"=pure none:=by rw [uz,lY];kernel_rfl
theorem Bx:G6 table "dict.update.loop"=some gj.«dict.update.loop»:=entryFor_of_tree (by kernel_rfl)
theorem s9:plainId "dict.update.loop"=true:=by decide +kernel
section
variable {prog:aI}{w:ba}{A:aX}{E:a8->af->Prop}{s:af}{R:vL->af->Prop}
theorem zi {a:ag}{o:Obj}{xs:Array a8}{k:Nat}{Q:Option a8->af->Prop}
  (hx:s.heap.get? a=some o) (hc:o.cls=.type "list") (hdat:o.data=.seq xs k) (hd:o.dict=none) (hA:A.handled=none)
  (h:∀ h' tk,(∀ b o,s.heap.get? b=some o->h'.get? b=some o)->Q none { s with heap:=h',toks:=tk }) :
  ak (aE prog w) A (Pc (.ref a) "keys") Q E s:=by
 obtain ⟨c,dct,dat,sl⟩:=o
 simp only at hc hdat hd
 subst hc hdat hd
 obtain ⟨hp,g,d,tk,os⟩:=s
 have hT:∀ tk',(⟨hp,g,d,tk',os⟩:af).TypeIs (.ref a) "list":=fun _=>⟨_,hx,rfl⟩
 have f1:=sub_AttributeError
 have f3:=F.slot_list_getattribute.lookup
 have f4:=F.slot_list_getattribute.bind (.ref a)
 have f5:=am_list_getattr_none
 have hname:(["__module__","__name__","__qualname__","__doc__","__annotations__"] : List Str).contains "keys"=false:=by decide +kernel
 unfold Pc getAttrBy? getAttrBy
 repeat (any_goals (first | assumption | exact hT _ | ((with_reducible show ak _ _ (call (Value.builtin "list.__getattribute__") _ _) _ _ _);refine mf F.slot_list_getattribute (hT _) am_entry_list_getattribute (F.args_list_getattribute_2 _ _) (meets_getattribute_miss_list a xs k sl "keys" _ CQ hname (by size_fits)) ⟨hx,hA,fun h' tk' e hx'=>?_⟩) | wp_step))
 have ha:=hx'.of
 obtain ⟨ob,vs,he,hc,_⟩:=ha.there
 have hTe:(⟨h',g,d,tk',os⟩:af).TypeIs (.ref e) "AttributeError":=⟨_,he,hc⟩
 show ak _ _ (getattributeRaised _ _ _ _ _ _ _) _ _ _
 unfold getattributeRaised
 repeat (any_goals (first | assumption | wp_step))
 exact h _ _ ha.keeps
end
end L2
namespace L2
open PySem PySem.Spec PyProof.Rows
def Ja (acc:List (ed×a8)) (l:List (ed×a8×a8)):List (ed×a8):=l.foldl (fun a t=>G4 a t.1 t.2.2) acc
theorem GX (kvs:List (ed×a8)) (k:ed) (v:a8):(G4 kvs k v).length<=kvs.length + 1:=by
 unfold G4
 split<;>simp
section
variable {prog:aI}{w:ba}{A:aX}{E:a8->af->Prop}{s:af}{R:vL->af->Prop}
theorem Ax {I:ag}{fp wr:List ag}{n:Nat}{Pv:Nat->a8->Prop}{St:Nat->bf->Prop} (W:Lv prog w A.in1 I fp wr n Pv St) (D:ag) (hD:D∉fp) (xs:List (ed×a8×a8)) (pa:List ag) (hx:xs.length=n)
  (hv:∀ i v,Pv i v->∃ p x,pa[i]?=some p/\xs[i]?=some x/\v=.ref p) (hk:∀ x∈xs,(dU prog w).is x.1 x.2.1=true) (hp:∀ p∈pa,p∉D::wr) (hb:n<=1000) :
  ∀ (k i:Nat) (s:af) (acc:List (ed×a8)) (j:Int),n - i=k->i<=n->acc.length<=i->St i s.heap->s.heap.DictOf (dU prog w) D acc->(∀ (i:Nat) (p:ag) (x:ed×a8×a8),pa[i]?=some p->xs[i]?=some x->Dw s.heap p #[x.2.1,x.2.2]) ->
   (∀ h' tk,(∀ b o,b∉D::wr->s.heap.get? b=some o->h'.get? b=some o)->h'.DictOf (dU prog w) D (Ja acc (xs.drop i))->R (.ok (.ret .none)) { s with heap:=h',toks:=tk }) ->
   ia (aE prog w) A (.builtin "dict.update.loop" ⟨[.ref D,.ref I,cx j,.none],[]⟩) R s:=by
 have hDw:D∉wr:=fun z=>hD (W.sub _ z)
 intro k
 induction k with
 | zero =>
  intro i s acc j hk' hi hl st hS hT hR
  obtain rfl:i=n:=by omega
  refine fD Bx ?_
  rw [eY s9 _]
  show ak _ A.in1 (nQ (.ref I) >>= _) _ _ s
  refine a6 (W.done s _ _ st fun h' tk kp=>?_)
  show ak _ _ (Builtin.Dict.addKeywords D [] >>= _) _ _ _
  refine a6 (ac (ac (hR h' tk (fun b o hb e=>kp b o (fun z=>hb (ao _ z)) e) ?_)))
  rw [FO (by omega)]
  obtain ⟨o,es,ep,e,r⟩:=hS
  exact ⟨o,es,ep,kp D o hDw e,r⟩
 | succ k ih =>
  intro i s acc j hk' hi hl st hS hT hR
  have hlt:i<n:=by omega
  refine fD Bx ?_
  rw [eY s9 _]
  show ak _ A.in1 (nQ (.ref I) >>= _) _ _ s
  refine a6 (W.item i s _ _ hlt st fun v h' tk hP st' kp=>?_)
  obtain ⟨p,x,hpi,hxi,rfl⟩:=hv i v hP
  have hpm:=hp p (fc hpi)
  have hS':h'.DictOf (dU prog w) D acc:=by
   obtain ⟨o,es,ep,e,r⟩:=hS
   exact ⟨o,es,ep,kp D o hDw e,r⟩
  obtain ⟨ot,et,ct,nt,dt⟩:=hT i p x hpi hxi
  have et':h'.get? p=some ot:=kp p ot (fun z=>hpm (ao _ z)) et
  have hkx:=hk x (fc hxi)
  refine a6 (c7 (a6 (wpAny_tryCatch ?_)))
  unfold Builtin.Dict.pairItems
  refine a6 (iB (T:="tuple") (s:={ s with heap:=h',toks:=tk }) ⟨_,et',ct⟩ ?_)
  rw [if_pos (by decide)]
  refine a6 (eG (s:={ s with heap:=h',toks:=tk }) et' dt (ac ?_))
  show ak _ _ (holding [x.2.1,x.2.2] (dictSet D x.2.1 x.2.2)) _ _ _
  refine c7 ?_
  unfold dictSet
  refine c7 (a6 ((dU prog w).pyHash (k:=x.1) hkx ?_))
  refine wpAny_dictSetHashed_pairs (s:={ s with heap:=h',toks:=tk + 1 }) hkx hS' (fun h2 hS2 sb=>?_) (bJ hl (bJ hi (bJ hb (bq (bY (ar _))))))
  refine ac ⟨mU s9 _,ih (i + 1) _ (G4 acc x.1 x.2.2) _ (by omega) hlt ?_ (W.frame _ _ _ st' fun b hb o e=>?_) hS2 (fun i2 p2 x2 e1 e2=>?_) fun h3 tk3 k3 hS3=>?_⟩
  ·have:=GX acc x.1 x.2.2
   omega
  ·rw [sb.2 b fun z=>hD (z ▸ hb)];exact e
  ·obtain ⟨o2,g2,r2⟩:=hT i2 p2 x2 e1 e2
   have hm:=hp p2 (fc e1)
   exact ⟨o2,(sb.2 p2 fun z=>hm (by rw [z];exact al)).trans (kp p2 o2 (fun z=>hm (ao _ z)) g2),r2⟩
  ·refine hR h3 tk3 (fun b o hb e=>k3 b o hb ?_) ?_
   ·show h2.get? b=_
    rw [sb.2 b fun z=>hb (by rw [z];exact al)]
    exact kp b o (fun z=>hb (ao _ z)) e
   ·have hd:xs.drop i=x::xs.drop (i + 1):=by
     obtain ⟨h1,h2⟩:=List.getElem?_eq_some_iff.mp hxi
     rw [BZ h1,h2]
    rw [hd];exact hS3
theorem Ay {l:ag}{ol:Obj}{its:List a8}{n:Nat}{xs:List (ed×a8×a8)}{pa:List ag}{Q:a8->af->Prop} (hh:A.handled=none)
  (hol:s.heap.get? l=some ol) (hc:ol.cls=.type "list") (hdd:ol.dict=none) (hdt:ol.data=.seq its.toArray n) (hi:∀ (i:Nat) (v:a8),its[i]?=some v->∃ p x,pa[i]?=some p/\xs[i]?=some x/\v=.ref p) (hx:xs.length=its.length) (hk:∀ x∈xs,(dU prog w).is x.1 x.2.1=true) (hb:its.length<=1000)
  (hT:∀ (i:Nat) (p:ag) (x:ed×a8×a8),pa[i]?=some p->xs[i]?=some x->Dw s.heap p #[x.2.1,x.2.2]) (hpa:∀ p∈pa,p<s.heap.objs.size)
  (h:∀ (h':bf) (tk:Nat),h'.DictOf (dU prog w) s.heap.objs.size (Ja [] xs)->(∀ b o,s.heap.get? b=some o->h'.get? b=some o)->Q (.ref s.heap.objs.size) { s with heap:=h',toks:=tk }) :
  ak (aE prog w) A (call (.type "dict") [.ref l]) Q E s:=by
 refine callType_codes (Q₁:=fun obj s₁=>obj=.ref s.heap.objs.size/\s₁={ s with heap:=s.heap.push { cls:=.type "dict",data:=.dict #[] } }) F.kt_called_dict (F.kt_typeCall_dict_1 _) F.entry_dict_init (kt_code_dict_new _ ⟨rfl,rfl⟩) ?_
 rintro obj s₁ ⟨rfl,rfl⟩
 have hnew:(s.heap.push { cls:=.type "dict",data:=.dict #[] }).DictOf (dU prog w) s.heap.objs.size []:=FL s.heap
 have hol':(s.heap.push { cls:=.type "dict",data:=.dict #[] }).get? l=some ol:=ae _ hol
 have hlS:l<s.heap.objs.size:=am hol
 refine ⟨hnew.typeIs,F.args_dict_init_2 _ _,?_⟩
 unfold gj.«dict.__init__»
 refine a6 ?_
 unfold Builtin.Dict.selfAndRest
 refine a6 (wpAny_notOrdered_dict hnew.typeIs ?_)
 show ak _ _ (pure (s.heap.objs.size,[bE l])) _ _ _
 refine ac ?_
 show ak _ _ (xo "dict.__init__" s.heap.objs.size (.ref l) [] .none) _ _ _
 unfold xo
 refine a6 (iB (T:="list") ⟨_,hol',hc⟩ ?_)
 rw [if_pos (by decide)]
 refine a6 (zi (s:={ s with heap:=s.heap.push { cls:=.type "dict",data:=.dict #[] } }) hol' hc hdt hdd (by simpa using hh) fun h1 tk1 k1=>?_)
 rw [if_pos (by rfl)]
 refine a6 (gG ?_)
 have hol1:=k1 l ol hol'
 refine a6 (lr (s:={ s with heap:=h1,toks:=tk1 }) ⟨_,hol1,hc,⟨_,hdt⟩⟩ ?_)
 have hD1:∃ o,h1.get? s.heap.objs.size=some o:=by
  obtain ⟨o,es,ep,e,_⟩:=hnew
  exact ⟨o,k1 _ _ e⟩
 obtain ⟨oD,eD⟩:=hD1
 have lD:=am eD
 have W:=Af (prog:=prog) (w:=w) (A:=A.in1.in1) (by simpa using hh) h1.objs.size l (aC (am hol1)) its.toArray
 have k2:∀ b o,h1.get? b=some o->(h1.push { cls:=.type "list_iterator",data:=.fields #[.ref l,.int 0 0] }).get? b=some o:=fun b o e=>ae _ e
 have hD2:(h1.push { cls:=.type "list_iterator",data:=.fields #[.ref l,.int 0 0] }).DictOf (dU prog w) s.heap.objs.size []:=by
  obtain ⟨o,es,ep,e,r⟩:=hnew
  exact ⟨o,es,ep,k2 _ _ (k1 _ _ e),r⟩
 refine ac ⟨mU s9 _,Ax (A:=A.in1) W s.heap.objs.size ?_ xs pa (by rw [hx,aH]) (fun i v e=>hi i v (by simpa using e)) hk (fun p hp=>?_) (by rw [aH];exact hb) its.length 0 _ [] 0 (by rw [aH];omega) (eB _) (ar _) ⟨⟨_,aG _ rfl,rfl,rfl⟩,⟨_,k2 _ _ hol1,hc,⟨_,hdt⟩⟩⟩ hD2 (fun i p x e1 e2=>?_) fun h' tk kp hS'=>?_⟩
 ·simp only [aQ,aD,or_false,not_or]
  exact ⟨aC lD,ej hlS⟩
 ·have:=hpa p hp
  simp only [aQ,aD,or_false,not_or]
  exact ⟨aC this,aC (xk this lD)⟩
 ·obtain ⟨o,g,r⟩:=hT i p x e1 e2
  exact ⟨o,k2 _ _ (k1 _ _ (ae _ g)),r⟩
 ·refine ⟨rfl,h h' tk hS' fun b o e=>kp b o ?_ (k2 _ _ (k1 _ _ (ae _ e)))⟩
  have:=am e
  simp only [aQ,aD,or_false,not_or]
  exact ⟨aC this,aC (xk this lD)⟩
end
end L2
namespace L2
open PySem PySem.Spec PyProof.Rows
theorem EG {P:aI}{w:ba}{H:Hp}{h:bf} (ok:qo P w H h):∀ (pa:List ag) (kvs:List (ed×V)),kvs.length=pa.length->(∀ (i:Nat) (a:ag) (kv:ed×V),pa[i]?=some a->kvs[i]?=some kv->H a=some (.tup [kV kv.1,kv.2])) ->
  ∃ xs:List (ed×a8×a8),xs.length=pa.length/\(∀ (i:Nat) (p:ag) (x:ed×a8×a8),pa[i]?=some p->xs[i]?=some x->Dw h p #[x.2.1,x.2.2])/\(∀ x∈xs,(dU P w).is x.1 x.2.1=true)/\KV kvs (xs.map fun x=>(x.1,x.2.2))
 | [],[],_,_=>⟨[],rfl,fun i p x e=>by simp at e,fun _ e=>by simp at e,.nil⟩
 | a::pa,kv::kvs,hl,hH=>by
  obtain ⟨xs,h1,h2,h3,h4⟩:=EG ok pa kvs (Nat.succ.inj hl) fun i b x e1 e2=>hH (i + 1) b x e1 e2
  have h0:=hH 0 a kv rfl rfl
  obtain ⟨_,its,r,it⟩:=(show dn P w H h a (.tup [kV kv.1,kv.2]) from ok a _ h0)
  cases r with
  | cons r1 r2 =>
   cases r2 with
   | cons r3 r4 =>
    cases r4
    rename_i u1 u2
    refine ⟨(kv.1,u1,u2)::xs,by simp [h1],fun i p x e1 e2=>?_,fun x hx=>?_,.cons ⟨rfl,r3⟩ h4⟩
    ·cases i with
     | zero=>cases e1;cases e2;exact it
     | succ i=>exact h2 i p x e1 e2
    ·rcases List.mem_cons.mp hx with z | z
     ·rw [z];exact DU r1
     ·exact h3 x z
 | [],_::_,hl,_=>by simp at hl
 | _::_,[],hl,_=>by simp at hl
theorem By:∀ {pa:List ag}{us:List a8},cV (pa.map V.ref) us->us=pa.map bE
 | [],us,h=>by cases h;rfl
 | a::pa,us,h=>by
  cases h with
  | cons r t=>rw [By t,show _=bE a from r];rfl
theorem CS {X:Cx} (hc:X.calm=true):jL X (.type "dict") (fun xs H Q=>∃ (l:ag) (pa:List ag) (kvs:List (ed×V)),xs=[.ref l]/\mZ X.K H l (pa.map V.ref)/\kvs.length=pa.length/\pa.length<=1000/\(∀ (i:Nat) (a:ag) (kv:ed×V),pa[i]?=some a->kvs[i]?=some kv->H a=some (.tup [kV kv.1,kv.2]))/\∀ d,H d=none->Q (.ref d) (upd H d (.dK (yz [] kvs)))):=by
 intro pins s σ H xs us Q I r h
 obtain ⟨l,pa,kvs,rfl,hq,hl,hz,hH,q⟩:=h
 obtain ⟨u,rfl,rx⟩:=lI r
 cases rx
 have hh:=I.ok.hd hc
 obtain ⟨its,r',⟨o,n,ho,h1,h2,h3⟩,_⟩:=I.list hq
 obtain rfl:=By r'
 obtain ⟨ys,y1,y2,y3,y4⟩:=EG I.hok pa kvs hl hH
 refine Ay (by simpa using hh) ho h1 h2 h3 (xs:=ys) (pa:=pa) (fun i v e=>?_) (by rw [y1,ay]) y3 (by rw [ay];exact hz) y2 (fun p hp=>?_) fun h' tk dd kp=>?_
 ·rw [aS] at e
  cases hp:pa[i]? with
  | none=>rw [hp] at e;cases e
  | some p =>
   rw [hp] at e
   cases e
   have hi:i<ys.length:=by rw [y1];exact (List.getElem?_eq_some_iff.mp hp).1
   exact ⟨p,ys[i],rfl,aZ hi,rfl⟩
 ·obtain ⟨i,hi,e⟩:=jb hp
  have hk:i<kvs.length:=by rw [hl];exact hi
  have:=hH i p kvs[i] (by rw [<- e];exact aZ hi) (aZ hk)
  obtain ⟨_,_,_,_,g,_⟩:=(show dn X.prog X.w H s.heap p (.tup _) from I.hok p _ this)
  exact am g
 ·have e:Ja [] ys=merged [] (ys.map fun x=>(x.1,x.2.2)):=by unfold Ja merged;rw [sW]
  rw [e] at dd
  have rel:=KV.merge y4 (Paired.nil:KV (κ:=ed) [] [])
  have ln:=sY kvs []
  simp only [bx] at ln
  refine ⟨.ref s.heap.objs.size,_,I.laid (t':=tk) kp (ar _) (Mr (bJ ln (by rw [Gd,hl];exact bq (bY hz))) ?_ rel dd),rfl,q _ (I.hok.fresh (ar _))⟩
  have:=I.big
  exact beq_false_of_ne (ej this)
end L2
namespace J
open PySem L2
def nq:List D->Option (List (ed×D))
 | []=>some []
 | .tuple [k,v]::r=>(r6 k).bind fun y=>(nq r).map ((y,v)::·)
 | _::_=>none
def v9:D->R D
 | .list ds=>if ds.length<=1000 then (match nq ds with
  | some ps=>.ok (.dict (ps.foldl (fun a p=>Av a (kD p.1) p.2) []))
  | none=>.no) else .no
 | _=>.no
theorem Bz {K:a7}{H:Hp}:∀ {ds:List D}{vs:List V}{ps:List (ed×D)},RDs K H vs ds->nq ds=some ps ->
  ∃ (pa:List ag) (kvs:List (ed×V)),vs=pa.map V.ref/\kvs.length=pa.length/\(∀ (i:Nat) (a:ag) (kv:ed×V),pa[i]?=some a->kvs[i]?=some kv->H a=some (.tup [kV kv.1,kv.2]))/\RDk K H kvs (ps.map fun p=>(kD p.1,p.2))
 | [],vs,ps,r,e=>by
  cases r
  cases e
  exact ⟨[],[],rfl,rfl,fun i a kv e=>by simp at e,.nil⟩
 | d::ds,vs,ps,r,e=>by
  unfold nq at e
  split at e
  ·rename_i h;cases h
  ·rename_i k v r0 h
   cases h
   cases r with
   | cons r1 r2 =>
    rename_i x0 xs0
    cases hk:r6 k with
    | none=>rw [hk] at e;cases e
    | some y =>
     rw [hk] at e
     cases hr:nq ds with
     | none=>rw [hr] at e;cases e
     | some qs =>
      rw [hr] at e
      cases e
      obtain ⟨pa,kvs,h1,h2,h3,h4⟩:=Bz r2 hr
      obtain ⟨a,vs0,rfl,ha,ra⟩:∃ a vs0,x0=V.ref a/\H a=some (.tup vs0)/\RDs K H vs0 [k,v]:=by
       cases r1 with
       | tuple ha ra=>exact ⟨_,_,rfl,ha,ra⟩
      ·obtain ⟨x1,x2,rfl,q1,q2⟩:=ra.two
       have ek:=yY hk
       subst ek
       have:=GR q1
       subst this
       refine ⟨a::pa,(y,x2)::kvs,by rw [h1];rfl,by simp [h2],fun i b kv e1 e2=>?_,.cons q2 h4⟩
       cases i with
       | zero=>cases e1;cases e2;exact ha
       | succ i=>exact h3 i b kv e1 e2
  ·cases e
theorem EH {K:a7}{H:Hp}:∀ {kvs:List (ed×V)}{es:List (D×D)}{acc:List (ed×V)}{ds:List (D×D)},RDk K H kvs es->RDk K H acc ds->RDk K H (yz acc kvs) (es.foldl (fun a p=>Av a p.1 p.2) ds)
 | [],es,acc,ds,r,r0=>by
  cases r
  exact r0
 | kv::kvs,es,acc,ds,r,r0=>by
  cases r with
  | cons h t =>
   rename_i k0 x0 d0 ds0
   have:=EH (kvs:=kvs) t (r0.put k0 h)
   exact this
section
variable {c:C}{e:b9}{g:av->R D}{p cpos:Pos}
def xW (g:av->R D):av->R D:=fun ρ=>(g ρ).bind v9
theorem Ky (hc:c.X.calm=true) (h:JE c e g) (hg2:Gl c.X "dict") (hm2:c.X.mg "dict"=none) (he:aw [e] c.X.env=(false,da e c.X.env)::aw [] c.X.env:=by rfl) :
  JN c (.Call (.Name "dict" p) [e] [] cpos) (xW g):=.of fun ρ=>by
 refine qy (vY (CS hc) hg2 hm2 PyProof.Rows.boot_dict (bZ (h ρ) eW he) (he:=he)) fun σ H Q h_1=>?_
 obtain ⟨H0,Hs0,la,Hs,f,q⟩:=h_1
 dsimp only [L2.TX,L2.DL,L2.Mg]
 refine Cu f q fun d v H1 Hs1 e1 s1 f1 r1=>?_
 unfold xW at q
 rw [e1,bind_ok] at q
 unfold v9 at q
 split at q
 ·rename_i ds
  by_cases hz:ds.length<=1000
  ·rw [if_pos hz] at q
   split at q
   ·rename_i ps hs
    obtain ⟨a,vs0,rfl,qa,ra⟩:∃ a vs0,v=V.ref a/\mZ c.X.K Hs1 a vs0/\RDs c.X.K Hs1 vs0 ds:=by
     cases r1 with
     | list qa ra=>exact ⟨_,_,rfl,qa,ra⟩
    ·obtain ⟨pa,kvs,rfl,h2,h3,h4⟩:=Bz ra hs
     have h5:=EH h4 (RDk.nil (K:=c.X.K) (H:=Hs1))
     rw [sW] at h5
     refine ⟨a,pa,kvs,rfl,?_,h2,?_,fun i b kv e1 e2=>f1.st.sub _ _ (h3 i b kv e1 e2),fun l hl=>q l _ H1 Hs1 s1 hl (.dK h5)⟩
     ·exact dE.seq f1.st.sub qa
     ·have:=ra.length
      rw [ay] at this
      omega
   ·exact q.elim
  ·rw [if_neg hz] at q;exact q.elim
 ·exact q.elim
end
end J
namespace L2
open PySem PySem.Spec PyProof.Rows
def Tr (K:a7) (a:ag):It :=
 ⟨fun i H=>∃ xs x,mZ K H a xs/\xs[i]?=some x,fun i H v H'=>∃ p,H p=none/\v=.ref p/\∀ xs,mZ K H a xs->∃ x,xs[i]?=some x/\H'=upd H p (.tup [.int i,x]),fun i H=>∃ xs,mZ K H a xs/\xs.length<=i⟩
theorem GY {P:aI}{w:ba}{K:a7}{elts:List b9}{x1}{pos:Pos} (a e it:ag) (hei:e≠it):Am P w K (.Tuple elts x1 pos) (Tr K a) [e,it] e (fun i h=>(∃ old,IsEnum h e it i old)/\h.IsListIter it a i) where
 mem:=by simp
 obj:=fun i h st b hb=>by
  simp only [aQ,aD,or_false] at hb
  rcases hb with rfl | rfl
  ·obtain ⟨⟨old,q⟩,_⟩:=st
   exact ⟨_,q,fun v z=>by cases z⟩
  ·obtain ⟨_,o,q,_,d⟩:=st
   exact ⟨o,q,fun v z=>by rw [d] at z;cases z⟩
 keep:=fun i h h' st k=>⟨let ⟨old,q⟩:=st.1;⟨old,k e (by simp) _ q⟩,let ⟨o,q,r⟩:=st.2;⟨o,k it (by simp) o q,r⟩⟩
 item:=by
  intro X hP hw hK hc i pins s σ H E I hf st hg
  subst hP hw hK
  obtain ⟨xs,x,hq,hx⟩:=hg
  obtain ⟨its,rv,p,hz⟩:=I.list hq
  obtain ⟨u,hu,ru⟩:=rv.get hx
  obtain ⟨⟨old,he⟩,hit⟩:=st
  have hit0:=hit
  obtain ⟨oi,ei,_⟩:=hit0
  have he0:=am he
  refine wpAny_pyNext_enum_item he hit p.isList (by simpa using hu) hei ?_
  intro h1 eo st1 tup sz k1
  refine ⟨_,rfl,Gb eo fun h2 e2 sb2=>?_⟩
  have szn:s.heap.objs.size≠e:=ej he0
  have I2:bF X pins σ H { s with heap:=h2,toks:=s.toks + 1 }:=I.turnedL (ch:=[e,it]) (fun b o hb q=>by
   simp only [aQ,aD,or_false,not_or] at hb
   exact (sb2.2 b hb.1).trans (k1 b o hb.1 hb.2 q)) hf
  have fT:=I.fpOk (H':=H) (ar _) (I.hok.fresh (ar _))
  have tup2:h2.get? s.heap.objs.size=some { cls:=.type "tuple",data:=.seq #[.int i s.toks,u] }:=(sb2.2 _ szn).trans tup
  have I3:=I2.track (ho:=.tup [.int i,x]) fT ⟨by show 2<=sizeLine;decide,[.int i s.toks,u],.cons ⟨s.toks,rfl⟩ (.cons ru .nil),⟨_,tup2,rfl,0,rfl⟩⟩
  refine ⟨.ref s.heap.objs.size,_,I3,rfl,⟨_,fT.1,rfl,fun ys hy=>?_⟩,⟨⟨u,?_⟩,?_⟩,fun b hb=>?_⟩
  ·rw [I.list_inj hy hq];exact ⟨x,hx,rfl⟩
  ·have:(((i + 1:Nat):Int))=(i:Int) + 1:=by omega
   rw [this];exact e2
  ·obtain ⟨o,q,r⟩:=st1
   exact ⟨o,(sb2.2 it (dh hei)).trans q,r⟩
  ·rw [b6]
   ·exact (hf b hb).1
   ·simp only [aQ,aD,or_false] at hb
    rcases hb with z | z
    ·rw [z];exact aC he0
    ·rw [z];exact aC (am ei)
 done:=by
  intro X hP hw hK hc i pins s σ H E I hf st hg
  subst hP hw hK
  obtain ⟨xs,hq,hx⟩:=hg
  obtain ⟨its,rv,p,hz⟩:=I.list hq
  obtain ⟨⟨old,he⟩,hit⟩:=st
  have hl:=rv.length
  refine wpAny_pyNext_enum_end (by simpa using I.ok.hd hc) he hit p.isList (by simp;omega) fun h' eb=>?_
  exact ⟨rfl,I.turnedL (t':=s.toks) (ch:=[e,it]) (fun b o hb q=>eb b o (by
   simp only [aQ,aD,or_false,not_or] at hb;exact hb.2) q) hf⟩
 self:=fun _ _ _ _ _ st h=>let ⟨⟨_,q⟩,_⟩:=st;qv q h
def Tt (K:a7) (ta:TA):TI:=fun σ H R=>ta σ H fun vs H1=>∃ a xs,vs=[.ref a]/\mZ K H1 a xs/\R (Tr K a) H1
theorem O4 {X:Cx}{elts:List b9}{x1}{tpos p pos:Pos}{a:b9}{ta:TA} (hg:Gl X "enumerate") (hm:X.mg "enumerate"=none) (ha:PA X [a] ta) (hs:aw [a] X.env=[(false,da a X.env)]:=by rfl) :
  PI X (.Tuple elts x1 tpos) (.Call (.Name "enumerate" p) [a] [] pos) (Tt X.K ta):=by
 intro pins s σ H R I h
 refine Call_ (tQ I hg hm boot_enumerate (f9 (fW (ha pos pins s σ H _ I h) fun us s1 h1=>?_) hs rfl))
 obtain ⟨vs,H1,I1,r1,q1⟩:=h1
 obtain ⟨ad,xs,rfl,hq,q⟩:=q1
 obtain ⟨u,rfl,rx⟩:=lI r1
 cases rx
 obtain ⟨its,rv,tp,hz⟩:=I1.list hq
 refine call_enumerate_list tp.isList fun h' e1 t1 sz kp=>?_
 refine qv e1 ?_
 have I2:bF X pins σ H1 { s1 with heap:=h' }:=I1.kept (t':=s1.toks) kp
 refine ⟨s1.heap.objs.size + 1,[s1.heap.objs.size + 1,s1.heap.objs.size],_,_,H1,rfl,I2,GY ad _ _ (ej (fV _)),⟨⟨.none,e1⟩,t1⟩,fun b hb=>?_,q⟩
 simp only [aQ,aD,or_false] at hb
 rcases hb with z | z
 ·rw [z];exact I1.fpOk (ib _) (I1.hok.fresh (ib _))
 ·rw [z];exact I1.fpOk (ar _) (I1.hok.fresh (ar _))
end L2
namespace J
open PySem L2
theorem O5 {K:a7}{Hn Hs:Hp}{a:ag}{vs:List V}{ds:List D} (h:mZ K Hn a vs) (r:RDs K Hs vs ds):OZ K (Tr K a) (j8 0 ds) Hn Hs:=fun H2 Hs2 e1 e2 e3=>by
 have q:=e1.seq h
 have hl:=wc ds 0
 refine ⟨fun i hi=>?_,fun i hi=>⟨vs,q,by rw [r.length];omega⟩,fun i x H3 hi y=>?_⟩
 ·have hi':i<vs.length:=by rw [r.length];omega
  exact ⟨vs,vs[i],q,aZ hi'⟩
 ·obtain ⟨p,hp,rfl,y⟩:=y
  obtain ⟨x,k0,rfl⟩:=y vs q
  obtain ⟨d,k1,k2⟩:=r.get k0
  have st:=cJ.new (o:=.tup [.int i,x]) e3 hp
  refine ⟨.tuple [.int i,d],_,?_,st,.tuple aV (.cons (.int _) (.cons ((k2.same e2).same st.sh) .nil))⟩
  rw [wa,k1]
  simp
section
variable {c:C}{a:b9}{gs:av->R (List D)}{p pos:Pos}
def QA:List D->R (List D)
 | [.list ds]=>.ok (j8 0 ds)
 | _=>.no
def Jb (gs:av->R (List D)):av->R (List D):=fun ρ=>(gs ρ).bind QA
theorem Kz {elts:List b9}{x1}{tpos:Pos} (hg:Gl c.X "enumerate") (hm:c.X.mg "enumerate"=none) (ha:Bf c [a] gs) (hs:aw [a] c.X.env=[(false,da a c.X.env)]:=by rfl):LD c (.Tuple elts x1 tpos) (.Call (.Name "enumerate" p) [a] [] pos) (Jb gs):=.of fun ρ=>Kq (O4 hg hm (ha ρ) hs) fun σ H Q h_20=>by
 obtain ⟨H0,Hs0,la,Hs,f,q⟩:=h_20
 refine yN f q fun ds vs H1 Hs1 e1 s1 f1 r1=>?_
 unfold Jb at q
 rw [e1,bind_ok] at q
 unfold QA at q
 split at q
 ·obtain ⟨x,rfl,rx⟩:=r1.one
  cases rx with
  | list qa ra=>exact ⟨_,_,rfl,dE.seq f1.st.sub qa,q _ H1 Hs1 s1 (O5 qa ra)⟩
 ·exact q.elim
end
end J
namespace L2
open PySem PySem.Spec PyProof.Rows
end L2
namespace J
open PySem L2
section
variable {c:C}{tg a:b9}{gs:av->R (List D)}{p pos:Pos}
end
end J
namespace J
open PySem L2
end J
end
namespace J
open PySem L2 PyProof.Rows
section
structure En where
 P:aI
 w:ba
 K:a7
 mg:Str->Option a8
 base:bf
 cls:Str->ag
abbrev FN (e:En):=Fn e.P e.w e.K e.mg e.base e.cls
abbrev FT (e:En):=W2 e.P e.w e.K e.mg e.base e.cls
abbrev ER (e:En):=Er e.mg e.base e.cls
abbrev Cn (mg:Str->Option a8) (x:Str) (n:Int):Prop:=∃ t,mg x=some (.int n t)
structure gK (K:a7) (mg:Str->Option a8) (x:Str) (st:cr):Prop where
 ex:∃ f fd,DS K x x st f fd/\mg x=some (.ref f)
section
variable {K:a7}{h:bf}{mg:Str->Option a8}{x:Str}
theorem d_in {st:cr}{A:ag}{od an:Option ag}{sl:Array (Option a8)}{oc kV dc pm cv ct:a8} (X:K.In h) (G:h.Ns bA mg) (a:gC K bA x=some (some (.ref A)))
  (l:K.lookup A=some ⟨oc,od,.func (eO x x (kM st) (gT st) (ax st) .none kV dc pm an cv ct),sl⟩) (c:jG K cv x=true) (k:dX K (.ref A)=true):gK K mg x st :=
 ⟨_,_,Mo l c k,j4 X G a⟩
theorem cn_in {n:Int}{tk:Tok} (X:K.In h) (G:h.Ns bA mg) (t:gC K bA x=some (some (.int n tk))):Cn mg x n:=⟨_,j4 X G t⟩
inductive Zs (K:a7):List Str->Prop
 | nil:Zs K []
 | cons {x:Str}{r:List Str}:gC K bA x=some none->Zs K r->Zs K (x::r)
theorem Zs.get {r:List Str} (z:Zs K r):∀ x∈r,gC K bA x=some none:=by
 induction z with
 | nil=>exact fun _ h=>nomatch h
 | cons a _ ih =>
  intro y hy
  rcases List.mem_cons.mp hy with e | e
  ·rw [e];exact a
  ·exact ih y e
abbrev zn:List Str:=["len","isinstance","all","any","zip","tuple","list","sorted","set","range","enumerate","dict","sum","max","min","reversed","str","int","bool","ValueError"]
theorem Ve (X:K.In h) (G:h.Ns bA mg) (z:Zs K zn):Bi mg:=by
 have q:∀ x∈zn,mg x=none:=fun x hx=>Gg X G (z.get x hx)
 exact ⟨q _ (by decide),q _ (by decide),q _ (by decide),q _ (by decide),q _ (by decide),q _ (by decide),q _ (by decide),q _ (by decide),q _ (by decide),q _ (by decide),q _ (by decide),q _ (by decide),q _ (by decide),q _ (by decide),q _ (by decide),q _ (by decide),q _ (by decide),q _ (by decide),q _ (by decide)⟩
theorem Vf (X:K.In h) (G:h.Ns bA mg) (z:Zs K zn):mg "ValueError"=none:=Gg X G (z.get _ (by decide))
end
section
variable {P:aI}{w:ba}{K:a7}{mg:Str->Option a8}{base:bf}{N:List Str}{qual:Str}{scope:el}{f:ag}{cd:a8}{A:aX}{outer:List Env}{s:af}{H:Hp}{E:XK}
theorem px:jN (jD P w) (fX (jD P w) P w K mg base N qual scope f cd A outer s H E) E:=E8 fun _ _ h=>h
end
section
variable {c:C}{x y:Str}{e:b9}{es:List b9}{gs:av->R (List D)}{p q pos:Pos}
theorem jc {k j n:Nat}{F:List D->R D} (G:Fn c.X.prog c.X.w c.X.K c.X.mg c.X.base c.cls x k n F) (hr:ji j c.X.A) (hx:jN (jD c.X.prog c.X.w) c.X c.E) (ha:Bf c (e::es) gs)
  (hk:k<=j:=by decide) (hg:Gl c.X x:=by exact rfl) (hdb:(x == ("__debug__" : Str))=false:=by decide) (he:aw (e::es) c.X.env=(false,da e c.X.env)::aw es c.X.env:=by rfl) (hpl:(eV pos (aw es c.X.env)).any (·.1)=false:=by rfl) :
  JE c (.Call (.Name x p) (e::es) [] pos) (dz n F gs):=Qb G (hr.mono hk) hg hx ha hdb he hpl
theorem jd {k j n:Nat}{F:List D->R D} (G:W2 c.X.prog c.X.w c.X.K c.X.mg c.X.base c.cls x y k n F) (hr:ji j c.X.A) (hx:jN (jD c.X.prog c.X.w) c.X c.E) (ha:Bf c es gs)
  (hk:k<=j:=by decide) (hg:Gl c.X x:=by exact rfl) (hgy:Gl c.X y:=by exact rfl) (hdb:(x == ("__debug__" : Str))=false:=by decide) (hdy:(y == ("__debug__" : Str))=false:=by decide) (he:aw (.Name y q::es) c.X.env=(false,da (.Name y q) c.X.env)::aw es c.X.env:=by rfl) (hpl:(eV pos (aw es c.X.env)).any (·.1)=false:=by rfl) :
  JE c (.Call (.Name x p) (.Name y q::es) [] pos) (dz n F gs):=Qr G (hr.mono hk) hg hgy hx ha hdb hdy he hpl
end
abbrev Bq (x:Str) (st:cr) (us:List a8) (r:List (Str×a8)):Prop:=∀ (kV doc pm:a8) (an:Option ag) (cdv ct:a8),P0 (eO x x (kM st) (gT st) (ax st) .none kV doc pm an cdv ct) ⟨us,[]⟩=pure r
section
variable {K:a7}{x:Str}{st:cr}{f:ag}{fd:df}
theorem b1 {a:Str} (F:DS K x x st f fd) (h:∀ u,Bq x st [u] [(a,u)]:=by exact fun _ _ _ _ _ _ _=>rfl):jM K fd [a] []:=F.binds fun _ _ _ _ _ _ us hl=>by obtain ⟨_,rfl⟩:=XT hl;exact h ..
theorem b2 {a b:Str} (F:DS K x x st f fd) (h:∀ u v,Bq x st [u,v] [(a,u),(b,v)]:=by exact fun _ _ _ _ _ _ _ _=>rfl):jM K fd [a,b] []:=F.binds fun _ _ _ _ _ _ us hl=>by obtain ⟨_,_,rfl⟩:=XU hl;exact h ..
theorem b3 {a b c:Str} (F:DS K x x st f fd) (h:∀ u v w,Bq x st [u,v,w] [(a,u),(b,v),(c,w)]:=by exact fun _ _ _ _ _ _ _ _ _=>rfl):jM K fd [a,b,c] []:=F.binds fun _ _ _ _ _ _ us hl=>by obtain ⟨_,_,_,rfl⟩:=XV hl;exact h ..
theorem b4 {a b c d:Str} (F:DS K x x st f fd) (h:∀ u v w z,Bq x st [u,v,w,z] [(a,u),(b,v),(c,w),(d,z)]:=by exact fun _ _ _ _ _ _ _ _ _ _=>rfl):jM K fd [a,b,c,d] []:=F.binds fun _ _ _ _ _ _ us hl=>by obtain ⟨_,_,_,_,rfl⟩:=XX hl;exact h ..
theorem b5 {a b c d e:Str} (F:DS K x x st f fd) (h:∀ u v w z y,Bq x st [u,v,w,z,y] [(a,u),(b,v),(c,w),(d,z),(e,y)]:=by exact fun _ _ _ _ _ _ _ _ _ _ _=>rfl):jM K fd [a,b,c,d,e] []:=F.binds fun _ _ _ _ _ _ us hl=>by obtain ⟨_,_,_,_,_,rfl⟩:=XY hl;exact h ..
end
theorem oP {e:En}{x:Str}{st:cr}{N ps:List Str}{k:Nat}{g:av->R Fl} (D:gK e.K e.mg x st) (S:bu N ps (ax st)) (b:∀ {f:ag}{fd:df},DS e.K x x st f fd->jM e.K fd ps [])
  (h:∀ (f:ag) (cdv:a8) (A:aX) (outer:List Env) (s:af) (H:Hp) (E:XK),ji k (A.deeper (jg x (ax st) s.heap.objs.size f cdv))->Kp ⟨fX (jD e.P e.w) e.P e.w e.K e.mg e.base N x (ax st) f cdv A outer s H E,e.cls,E⟩ (gT st) g) :
  FN e x (k + 1) ps.length (e_ N.length g):=by
 obtain ⟨f,fd,F,hm⟩:=D.ex
 exact UR F S hm (b F) (h f)
def XH (N P:List Str) (sc:el):Bool:=decide (sc.kind=.function) && !sc.isCoroutine && !sc.isGenerator && decide N.Nodup && decide (N.take P.length=P) && P.all (fun x=>decide (sc.names.lookup x=some .local) || decide (sc.names.lookup x=some .cell)) && sc.names.all fun y=>decide (y.2≠.free)
theorem dq {N P:List Str}{sc:el} (h:XH N P sc=true):bu N P sc:=by
 unfold XH at h
 simp only [aP,decide_eq_true_eq,LS,cR,jB] at h
 obtain ⟨⟨⟨⟨⟨⟨a,b⟩,c⟩,d⟩,e⟩,f⟩,g⟩:=h
 exact ⟨a,b,c,d,e,f,g⟩
structure Cw (K:a7) (x:Str) (C:ag):Prop where
 ns:gC K bA x=some (some (.ref C))
 cl:∃ cd,gI K C=some cd
 ty:yj K (.ref C)=some (.type "type")
theorem cw_in {K:a7}{x:Str}{C:ag}{cd:ClassData} (a:gC K bA x=some (some (.ref C))) (i:gI K C=some cd) (y:yj K (.ref C)=some (.type "type")):Cw K x C:=⟨a,⟨_,i⟩,y⟩
inductive QB (K:a7):List Str->List ag->Prop
 | nil:QB K [] []
 | cons {x:Str}{C:ag}{ns:List Str}{Cs:List ag}:Cw K x C->QB K ns Cs->QB K (x::ns) (C::Cs)
inductive Sb (K:a7) (C:ag):List (ag×Bool)->Prop
 | nil:Sb K C []
 | cons {D:ag}{b:Bool}{l:List (ag×Bool)}:nY K (.ref C) (.ref D)=some b->(b=false->C≠D)->Sb K C l->Sb K C ((D,b)::l)
structure Wy (K:a7) (C CP:ag) (l:List (ag×Bool)):Prop where
 x1:gW K (.ref C) "__getattribute__"=some (some (.builtin "BaseException.__getattribute__"))
 x2:gW K (.ref C) "__getattr__"=some none
 x3:gW K (.ref C) "__class__"=some (some (.builtin "object.__class__"))
 x4:uD K (.builtin "object.__class__") "__get__"=some (some (.builtin "getset_descriptor.__get__"))
 x5:xh K (.builtin "object.__class__")=some true
 x6:cp K C (.type "object")=some true
 x7:cp K C (.ref CP)=some true
 x8:nY K (.ref C) (.type "ValueError")=some true
 x9:(bE CP == bE C)=false
 sb:Sb K C l
theorem QB.at {K:a7}{ns:List Str}{Cs:List ag} (N:QB K ns Cs):∀ (i:Nat) (n:Str),ns[i]?=some n->∃ C,Cs[i]?=some C/\Cw K n C:=by
 induction N with
 | nil=>intro i n h;simp at h
 | cons a _ ih =>
  intro i n h
  cases i with
  | zero=>cases h;exact ⟨_,rfl,a⟩
  | succ i=>exact ih i n h
theorem Sb.at {K:a7}{C:ag}{l:List (ag×Bool)} (N:Sb K C l):∀ (i:Nat) (D:ag) (b:Bool),l[i]?=some (D,b)->nY K (.ref C) (.ref D)=some b/\(b=false->C≠D):=by
 induction N with
 | nil=>intro i D b h;simp at h
 | cons a c _ ih =>
  intro i D b h
  cases i with
  | zero=>cases h;exact ⟨a,c⟩
  | succ i=>exact ih i D b h
theorem Vg {K:a7}{h:bf}{mg:Str->Option a8}{cls:Str->ag}{ns:List Str}{Cs:List ag} (X:K.In h) (G:h.Ns bA mg) (N:QB K ns Cs) (hn:ns.map cls=Cs):∀ n∈ns,mg n=some (.ref (cls n)):=by
 intro n hm
 obtain ⟨i,hi,e⟩:=jb hm
 have e1:ns[i]?=some n:=by rw [aZ hi,e]
 obtain ⟨C,h1,h2⟩:=N.at i n e1
 rw [<- hn,aS,e1] at h1
 cases h1
 exact j4 X G h2.ns
theorem Jc {K:a7}{base:bf}{cls:Str->ag}{x:Str}{C CP:ag}{ns:List Str}{Cs:List ag}{l:List (ag×Bool)}{j:Nat} (mb:cp K C (.type "BaseException")=some true) (Q:∃ bm,Cr base C bm/\∀ v,(v == bE C)=false->cp K C v=some true->bm.contains v=true) (W:Wy K C CP l) (N:QB K ns Cs)
  (hc:cls x=C) (hp:cls "PlanError"=CP) (hn:ns.map cls=Cs) (hl:l.map (·.1)=Cs) (hb:l.map (·.2)=bits j) (hj:j<11) (hx:x∈ns):Xf K base cls ns (cls x) j:=by
 obtain ⟨bm,o,mm⟩:=Q
 subst hc hp
 have hcl:(gI K (cls x)).isSome=true:=by
  obtain ⟨i,hi,e⟩:=jb hx
  have e1:ns[i]?=some x:=by rw [aZ hi,e]
  obtain ⟨C,h1,h2⟩:=N.at i x e1
  rw [<- hn,aS,e1] at h1
  cases h1
  obtain ⟨cd,h3⟩:=h2.cl
  rw [h3];rfl
 refine ⟨⟨W.x1,W.x2,W.x3,W.x4,W.x5,W.x6,mb,hcl⟩,fun i n e=>?_,Tb W.x8,⟨bm,o,mm _ W.x9 W.x7⟩,hj⟩
 obtain ⟨D,h1,h2⟩:=N.at i n e
 have h3:Cs[i]?=some (cls n):=by rw [<- hn,aS,e];rfl
 rw [h1] at h3
 cases h3
 obtain ⟨cd,h4⟩:=h2.cl
 have hi:l[i]?≠none:=fun z=>by
  rw [<- hl,aS,z] at h1
  cases h1
 cases hq:l[i]? with
 | none=>exact (hi hq).elim
 | some q =>
  obtain ⟨D,b⟩:=q
  have e1:D=cls n:=by rw [<- hl,aS,hq] at h1;cases h1;rfl
  have e2:(bits j)[i]?=some b:=by rw [<- hb,aS,hq];rfl
  subst e1
  obtain ⟨s1,s2⟩:=W.sb.at i _ b hq
  have e3:b=decide (i=j):=by
   unfold bits at e2
   match i,e2 with
   | 0,e | 1,e | 2,e | 3,e | 4,e | 5,e | 6,e | 7,e | 8,e | 9,e | 10,e=>simpa using e.symm
   | (i + 11),e=>simp at e
  rw [<- e3]
  exact Qo h4 h2.ty s1 s2
theorem O6 {K:a7}{base:bf}{mg:Str->Option a8}{cls:Str->ag}{x:Str}{C CP:ag}{ns:List Str}{Cs:List ag}{l:List (ag×Bool)}{j:Nat} (X:K.In base) (G:base.Ns bA mg) (T:TopC K x C) (W:Wy K C CP l) (N:QB K ns Cs)
  (hc:cls x=C) (hp:cls "PlanError"=CP) (hn:ns.map cls=Cs) (hl:l.map (·.1)=Cs) (hb:l.map (·.2)=bits j) (hj:j<11) (hx:x∈ns):Xf K base cls ns (cls x) j:=Jc T.mb (GU X G T.ns T.ex T.mb).2 W N hc hp hn hl hb hj hx
end
end J
section
namespace L2
open PySem PySem.Spec PyProof.Rows
section
variable {prog:aI}{w:ba}{A:aX}{E:a8->af->Prop}{s:af}{it d:ag}{i n ep:Nat}{o:Obj}{es:Array DictEntry}
end
end L2
namespace J
open PySem L2
def keysOf:List D->Option (List ed)
 | []=>some []
 | d::r=>(r6 d).bind fun k=>(keysOf r).map (k::·)
def S4:D->Option (List ed)
 | .tuple ds=>keysOf ds
 | _=>none
def WY:List (D×D)->List (D×D)
 | (.none,_)::r=>r
 | l=>l
def QC (ds:List (D×D)):Bool:=!ds.isEmpty && ds.all fun kv=>(S4 kv.1).isSome
section
variable {c:C}{a b e k:b9}{ga gb g gk:av->R D}{pos p apos:Pos}{x:Str}
def inT (neg:Bool):D->D->R D
 | k,.dict ds=>match S4 k with
  | some _=>if QC (WY ds)=true then .ok (.bool (if neg then !(v5 (WY ds) k).isSome else (v5 (WY ds) k).isSome)) else .no
  | none=>.no
 | _,_=>.no
end
end J
namespace J
open PySem L2
section
variable {c:C}{tg l k v e:b9}{g gk gv:av->R D}{pos:Pos}
end
end J
namespace L2
open PySem PySem.Spec PyProof.Rows
end L2
namespace J
open PySem L2
end J
namespace J
open PySem L2
end J
namespace J
open PySem L2
end J
namespace J
open PySem L2
def rS (i:Nat) (ρ:av):R D:=FU ρ i
def rB (i:Nat) (ρ:av):R D:=FV ρ i
def kI (n:Int) (_:av):R D:=.ok (.int n)
def kB (b:Bool) (_:av):R D:=.ok (.bool b)
def kN (_:av):R D:=.ok .none
def kT (_:av):R Bool:=.ok true
theorem Vh (i:Nat) (ρ:av):rS i ρ=FU ρ i:=id rfl
theorem Tu (i:Nat) (ρ:av):rB i ρ=FV ρ i:=id rfl
theorem Vi (n:Int) (ρ:av):kI n ρ=.ok (.int n):=id rfl
theorem Vj (b:Bool) (ρ:av):kB b ρ=.ok (.bool b):=id rfl
theorem Vk (ρ:av):kN ρ=.ok .none:=id rfl
end J
end
section
namespace L2
open PySem PySem.Spec PyProof.Rows
section
variable {X:Cx}{tg:b9}
end
end L2
namespace J
open PySem L2
section
variable {c:C}{tg a b d:b9}{p pos:Pos}{gs:av->R (List D)}
end
end J
end
namespace L2
open PySem PySem.Spec PyProof.Rows
section
open Builtin Builtin.ObjectAttr
inductive jV (h:bf) (bmB:List a8) (nms:List Str):List a8->Prop
 | base:jV h bmB nms bmB
 | own {A:ag}{c0:a8}{dd:Option ag}{cd:ClassData}{sl:Array (Option a8)}{mA:Str->Option a8}{tl:List a8} :
   h.get? A=some { cls:=c0,dict:=dd,data:=.cls cd,slots:=sl }->h.Ns cd.ns mA->(∀ n∈nms,mA n=none)->jV h bmB nms tl->jV h bmB nms (.ref A::tl)
theorem jV.ownTail {h:bf}{bmB tl:List a8}{nms:List Str} (hi:("__init__" : Str)∈nms) (T:jV h bmB nms tl):OwnTail h bmB tl:=by
 induction T with
 | base=>exact .base
 | own a b c _ ih=>exact .own a b (c _ hi) ih
theorem jV.keeps {h h':bf}{bmB tl:List a8}{nms:List Str} (T:jV h bmB nms tl) (hk:∀ b o,h.get? b=some o->h'.get? b=some o):jV h' bmB nms tl:=by
 induction T with
 | base=>exact .base
 | own a b c _ ih=>exact .own (hk _ _ a) (b.keeps hk) c ih
theorem jV.hasType {h:bf}{bmB tl:List a8}{nms:List Str} (T:jV h bmB nms tl) {X:String}{b:Bool} (hb:bmB.contains (.type X)=b):tl.contains (.type X)=b:=by
 induction T with
 | base=>exact hb
 | own _ _ _ _ ih=>rw [g9,ih];rfl
theorem jV.refuse {h:bf}{bmB tl:List a8}{nms:List Str}{self:a8}{what:Str} (T:jV h bmB nms tl) (hp:refuseLoop self what bmB=pure ()):refuseLoop self what tl=pure ():=by
 induction T with
 | base=>exact hp
 | own _ _ _ _ ih=>rw [refuseLoop_ref];exact ih
section
variable {M:vJ}{A:aX}{E:a8->af->Prop}{h:bf}{g:Array FX}{d:Lo}{t:Nat}{os:OsState}
theorem vb {bmB tl:List a8}{nms:List Str}{name:Str}{y:Option a8}{Q:Option a8->af->Prop} (hm:name∈nms) (T:jV h bmB nms tl) (hrest:Pj bmB name=pure y) (hq:Q y ⟨h,g,d,t,os⟩) :
  ak M A (Pj tl name) Q E ⟨h,g,d,t,os⟩:=by
 induction T with
 | base=>rw [hrest];exact ac hq
 | own hA hN hni _ ih =>
  rw [lookupAlong_cons]
  refine a6 (wpAny_classOwn_cls hA hN ?_)
  rw [hni _ hm]
  exact ih
variable {nm q:Str}{C N x:ag}{bs bm bmB:List a8}{hdct:Bool}{sn:List Str}{sub:List a8}{ab:Bool}{col:Option Bool}{dd:Option ag}{k0 k1 k2 k3 k5:Option a8}{B newId initId sa owner:String}{nms:List Str}{name:Str}{v:a8}{mN:Str->Option a8}
theorem oQ {y:Option a8}{Q:Option a8->af->Prop}
  (hC:h.get? C=some (gx nm q C N bs bm hdct sn sub ab col dd k0 k1 k2 k3 k5 newId)) (hn:h.Ns N mN) (hm:name∈nms) (T:jV h bmB nms bm) (hbm:mroOf (.type B)=pure bmB) (hB:hW (.type B) name=pure y)
  (hq:Q (match mN name with | some v=>some v | none=>y) ⟨h,g,d,t,os⟩):ak M A (hW (.ref C) name) Q E ⟨h,g,d,t,os⟩:=by
 have hrest:Pj bmB name=pure y:=by rw [typeLookup_eq,hbm] at hB;exact hB
 rw [typeLookup_eq]
 refine a6 (wpAny_mroOf_exc hC ?_)
 rw [lookupAlong_cons]
 refine a6 (wpAny_classOwn_exc hC hn ?_)
 cases hv:mN name with
 | some v=>rw [hv] at hq;exact ac hq
 | none=>rw [hv] at hq;exact vb hm T hrest hq
theorem KA {o:Obj}{nameV:a8}{Q:Unit->af->Prop} (SF:Gh B bmB sa owner) (T:jV h bmB nms bm)
  (hC:h.get? C=some (gx nm q C N bs bm hdct sn sub ab col dd k0 k1 k2 k3 k5 newId)) (hx:h.get? x=some o) (hc:o.cls=.ref C) (hq:Q () ⟨h,g,d,t,os⟩) :
  ak M A (sG sa ⟨[.ref x,nameV,v],[]⟩) Q E ⟨h,g,d,t,os⟩:=by
 have hcB:(bE C::bm).contains (.type owner)=true:=by rw [g9,T.hasType SF.hasOwner,wJ]
 have ha:=SF.args (.ref x) nameV v
 simp only [sG,SF.kind,SF.split]
 refine a6 ?_
 ·unfold tK
  repeat (first | (with_reducible refine dO hx ?_;rw [hc]) | (with_reducible refine jI hC ?_;rw [hcB]) | wp_step)
  cases hsig:Manifest.signature? sa with
  | none=>exact ac hq
  | some sig =>
   simp only [LP,hsig] at ha
   have h2:Bind.checkArgs sa sig ⟨[.ref x,nameV,v],[]⟩=pure ():=ha
   show ak M A (Bind.checkArgs sa sig ⟨[.ref x,nameV,v],[]⟩) Q E _
   rw [h2];exact ac hq
end
section
variable {prog:aI}{w:ba}{A:aX}{E:a8->af->Prop}{h:bf}{g:Array FX}{d:Lo}{t:Nat}{os:OsState}
variable {nm q:Str}{C N x:ag}{bs bm bmB:List a8}{sn:List Str}{sub:List a8}{ab:Bool}{col:Option Bool}{dd:Option ag}{k0 k1 k2 k3 k5:Option a8}{B newId initId sa owner:String}{nms:List Str}{name:Str}{v:a8}{mN:Str->Option a8}
theorem CT {tk:Tok}{o:Obj}{Q:Fin->af->Prop} (SF:Gh B bmB sa owner) (T:jV h bmB nms bm)
  (hC:h.get? C=some (gx nm q C N bs bm true sn sub ab col dd k0 k1 k2 k3 k5 newId)) (hn:h.Ns N mN) (hm:name∈nms) (hna:mN name=none)
  (hB:hW (.type B) name=pure none) (hx:h.get? x=some o) (hc:o.cls=.ref C) (hnc:∀ c,o.data≠.cls c) (hdn:o.dict=none)
  (hq:∀ h' tk',h'.get? x=some { cls:=o.cls,dict:=some h.objs.size,data:=o.data,slots:=o.slots }->(∀ b ob,b≠x->h.get? b=some ob->h'.get? b=some ob)->h'.Ns1 h.objs.size (fun y=>if y=name then some v else none)->Q (.done (.ret .none)) ⟨h',g,d,tk',os⟩) :
  ak (aE prog w) A (gj.«object.__setattr__» ⟨[.ref x,.str name tk,v],[]⟩) Q E ⟨h,g,d,t,os⟩:=by
 have hpass:=T.refuse (SF.passes (.ref x))
 unfold gj.«object.__setattr__»
 repeat (first | rw [refuse_eq] | (rw [refuseLoop_ref,hpass]) | (with_reducible refine dO hx ?_;rw [hc]) | with_reducible refine wpAny_mroOf_exc hC ?_ | (with_reducible refine oQ hC hn hm T SF.mro hB ?_;rw [hna]) | wp_step)
 rw [hdn,if_neg (by simp [typeHasDict])]
 split
 ·rename_i hcd
  cases hcd
 split
 ·rename_i c hcd
  exact absurd hcd (hnc c)
 ·have hx₁:(h.push { cls:=.type "dict",data:=.dict #[] }).get? x=some o:=ae _ hx
  have hxs:x≠h.objs.size:=aC (am hx)
  refine a6 (wpAny_alloc' ?_)
  refine a6 (wpAny_update' hx₁ ?_)
  refine ac ?_
  have hgd:((h.push { cls:=.type "dict",data:=.dict #[] }).update x fun o=>{ cls:=o.cls,dict:=some h.objs.size,data:=o.data,slots:=o.slots }).get? h.objs.size
    = some { cls:=.type "dict",data:=.dict #[] } :=
   (JR _ _ _ _ hxs.symm).trans (LX rfl rfl)
  have hnd:((h.push { cls:=.type "dict",data:=.dict #[] }).update x fun o=>{ cls:=o.cls,dict:=some h.objs.size,data:=o.data,slots:=o.slots }).Ns h.objs.size (fun _=>none) :=
   ⟨_,#[],_,hgd,rfl,fun e he=>absurd he (by simp),fun _=>rfl⟩
  show ak _ _ (storeInDict h.objs.size (.str name tk) name v) _ _ _
  unfold storeInDict newKeyGuard
  refine a6 (ac (a6 (wpAny_nsSet1 (Heap.Ns1.of_empty hnd) fun h' hn' hs=>?_)))
  obtain ⟨oD,esD,epD,hoD,hdD,hcD⟩:=hn'.count (Within.cons name v Within.nil)
  refine a6 (wpAny_lookBehind hoD (by rw [hdD];exact pastItsLine_dict (bJ hcD (by rw [aO,bx,Dz];omega))) ?_)
  wp_walk
  refine hq h' _ ?_ (fun b ob hbx hb=>?_) hn'
  ·refine (hs.2 x hxs).trans (gf _ hx₁ ?_)
   have hfr:=(Heap.get?_some_iff.mp hx).2
   obtain ⟨oc,od,odt,osl⟩:=o
   cases odt<;>first | rfl | exact hfr
  ·exact (hs.2 b (aC (am hb))).trans ((JR _ _ _ _ hbx).trans (ae _ hb))
theorem EI {o:Obj}{Q:Unit->af->Prop} (SF:Gh B bmB sa owner) (T:jV h bmB nms bm)
  (hC:h.get? C=some (gx nm q C N bs bm true sn sub ab col dd k0 k1 k2 k3 k5 newId)) (hn:h.Ns N mN) (hs:("__setattr__" : Str)∈nms) (hns:mN "__setattr__"=none) (hm:name∈nms) (hna:mN name=none)
  (hB:hW (.type B) name=pure none) (hx:h.get? x=some o) (hc:o.cls=.ref C) (hnc:∀ c,o.data≠.cls c) (hdn:o.dict=none)
  (hq:∀ h' tk',h'.get? x=some { cls:=o.cls,dict:=some h.objs.size,data:=o.data,slots:=o.slots }->(∀ b ob,b≠x->h.get? b=some ob->h'.get? b=some ob)->h'.Ns1 h.objs.size (fun y=>if y=name then some v else none)->Q () ⟨h',g,d,tk',os⟩) :
  ak (aE prog w) A (setAttr (.ref x) name v) Q E ⟨h,g,d,t,os⟩:=by
 have f3:=SF.slot.bind (.ref x)
 unfold setAttr callSpecial? specialOf
 repeat (any_goals (first | assumption | (with_reducible refine dO hx ?_;rw [hc]) | (with_reducible refine oQ hC hn hs T SF.mro SF.slot.lookup ?_;rw [hns]) | wp_step))
 refine mY SF.slot.plain SF.entry (KA SF T hC hx hc (CT SF T hC hn hm hna hB hx hc hnc hdn fun h' tk' a1 a2 a3=>?_))
 repeat (any_goals (first | assumption | wp_step))
 exact hq h' tk' a1 a2 a3
end
end
section
section
variable {prog:aI}{w:ba}{A:aX}{E:a8->af->Prop}{h:bf}{g:Array FX}{d:Lo}{t:Nat}{os:OsState}
variable {nm q:Str}{C N:ag}{bs bm bmB:List a8}{hdct:Bool}{sn:List Str}{sub:List a8}{ab:Bool}{col:Option Bool}{dd:Option ag}{k0 k1 k2 k3 k5:Option a8}{B newId initId:String}
theorem xx (F:tN B newId initId bmB) (T:OwnTail h bmB bm) {mN:Str->Option a8}{bK:List a8}{fI:ag}{oI:Obj}{Q:Fin->af->Prop}
  (hC:h.get? C=some (gx nm q C N bs bm hdct sn sub ab col dd k0 k1 k2 k3 k5 newId)) (hn:h.Ns N mN) (hi:mN "__init__"=some (.ref fI))
  (hfI:h.get? fI=some oI) (hfc:oI.cls=.type "function")
  (hq:∀ h' e,sV h h' e (.ref C) bK ->
   ak (aE prog w) A (call (.ref fI) (.ref e::bK)) (fun r s'=>r=.none/\Q (.done (.ret (.ref e))) s') E ⟨h',g,d,t,os⟩) (hrest:bK.length<=sizeLine:=by size_fits) :
  ak (aE prog w) A (gj.«type.__call__» ⟨.ref C::bK,[]⟩) Q E ⟨h,g,d,t,os⟩:=by
 repeat (first | with_reducible refine dO hC ?_ | with_reducible refine wpAny_madeBy_exc hC ?_ | wp_step)
 refine codeAny_call_builtin_code (n8 _ F.quiet) (wpAny_check_new_subT F T hC ?_)
 refine codeAny_exc_new_subT F T hC ?_ hrest
 show ak _ _ _ _ _ _
 have hC₁:=ae { cls:=.ref C,data:=.fields #[.ref h.objs.size,.none,.none,.none,.bool false,.none] }
  (ae { cls:=.type "tuple",data:=.seq bK.toArray } hC)
 have hfI₁:=ae { cls:=.ref C,data:=.fields #[.ref h.objs.size,.none,.none,.none,.bool false,.none] }
  (ae { cls:=.type "tuple",data:=.seq bK.toArray } hfI)
 have hn₁:((h.push { cls:=.type "tuple",data:=.seq bK.toArray }).push { cls:=.ref C,data:=.fields #[.ref h.objs.size,.none,.none,.none,.bool false,.none] }).Ns N mN :=
  let ⟨o,es,ep,e,r⟩:=hn;⟨o,es,ep,ae _ (ae _ e),r⟩
 have hget:((h.push { cls:=.type "tuple",data:=.seq bK.toArray }).push
   { cls:=.ref C,data:=.fields #[.ref h.objs.size,.none,.none,.none,.bool false,.none] }).get? (h.objs.size + 1)=some
   { cls:=.ref C,data:=.fields #[.ref h.objs.size,.none,.none,.none,.bool false,.none] }:=by heap_get
 have hcC:(bE C::bm).contains (.ref C)=true:=by simp
 have T₁:=T.keeps (h':=(h.push { cls:=.type "tuple",data:=.seq bK.toArray }).push { cls:=.ref C,data:=.fields #[.ref h.objs.size,.none,.none,.none,.bool false,.none] })
  fun b o e=>ae _ (ae _ e)
 unfold tK
 repeat (first | with_reducible refine dO hget ?_ | (with_reducible refine jI hC₁ ?_;rw [hcC]) | wp_step)
 show ak _ _ (hW (.ref C) _) _ _ _
 refine wpAny_typeLookup_tail hC₁ hn₁ T₁ F.mroIs F.init.lookup ?_
 rw [hi]
 refine c7 (a6 ?_)
 unfold bindSpecial
 refine a6 (iB (T:="function") ⟨_,hfI₁,hfc⟩ ?_)
 rw [if_pos (by decide)]
 refine ac (a6 (bc (hq _ (h.objs.size + 1) ⟨fun b o hb=>ae _ (ae _ hb),sP (ib _),h.objs.size,hget,sP (ar _),?_⟩) (fun r s' hr=>?_) fun _ _ x=>x))
 ·exact ae _ (LX rfl rfl)
 ·obtain ⟨rfl,hQ⟩:=hr
  wp_walk
  exact hQ
theorem GZ (F:tN B newId initId bmB) (T:OwnTail h bmB bm) {mN:Str->Option a8}{bK:List a8}{fI:ag}{oI:Obj}{Q:a8->af->Prop}
  (hC:h.get? C=some (gx nm q C N bs bm hdct sn sub ab col dd k0 k1 k2 k3 k5 newId)) (hn:h.Ns N mN) (hi:mN "__init__"=some (.ref fI))
  (hfI:h.get? fI=some oI) (hfc:oI.cls=.type "function")
  (hq:∀ h' e,sV h h' e (.ref C) bK ->
   ak (aE prog w) (A.under (.builtin "type.__call__" ⟨.ref C::bK,[]⟩)) (call (.ref fI) (.ref e::bK)) (fun r s'=>r=.none/\Q (.ref e) s') E ⟨h',g,d,t,os⟩) (hrest:bK.length<=sizeLine:=by size_fits) :
  ak (aE prog w) A (call (.ref C) bK) Q E ⟨h,g,d,t,os⟩:=by
 have f1:=tc_lookup
 have f2:=tc_bind (.ref C)
 have hT:(⟨h,g,d,t,os⟩:af).TypeIs (.ref C) "type":=⟨_,hC,rfl⟩
 refine pf (uy ?_)
 show ak _ _ (callAny (.ref C) _) _ _ _
 repeat (any_goals (first | assumption | with_reducible refine dO hC ?_ | wp_step))
 refine ⟨rfl,?_⟩
 refine codeAny_call_builtin_at (n8 _ (by decide +kernel)) entry_typeCall (wpAny_check_type_call_sub hC (xx (hrest:=hrest) F T hC hn hi hfI hfc fun h' e hm=>?_))
 exact hq h' e hm
end
section
variable {M:vJ}{A:aX}{E:a8->af->Prop}{env:Env}
variable {nm q:Str}{C N:ag}{bs bm:List a8}{hdct:Bool}{sn:List Str}{sub:List a8}{ab:Bool}{col:Option Bool}{dd:Option ag}{k0 k1 k2 k3 k5:Option a8}{newId:String}
theorem og {s:af}{x:Sem a8}{Q:Flow->af->Prop} (hbase:bm.contains (.type "BaseException")=true) (hh:A.handled=none)
  (h:ak M A x (fun v s₁=>∃ e dx tt sl,v=.ref e/\s₁.heap.get? C=some (gx nm q C N bs bm hdct sn sub ab col dd k0 k1 k2 k3 k5 newId) /\
   s₁.heap.get? e=some { cls:=.ref C,dict:=dx,data:=.fields #[.ref tt,.none,.none,.none,.bool false,.none],slots:=sl }/\E (.ref e) s₁) E s) :
  ak M A (raiseStmt env (some x) none) Q E s:=by
 have hcB:(bE C::bm).contains (.type "BaseException")=true:=by rw [g9,hbase,wJ]
 unfold raiseStmt
 refine a6 (bc h (fun v s₁ h₁=>?_) fun _ _ x=>x)
 obtain ⟨e,dx,vs,sl,rfl,hC,he,hE⟩:=h₁
 obtain ⟨hp,g,d,tk,os⟩:=s₁
 repeat (first | with_reducible refine dO he ?_ | with_reducible refine dO hC ?_ | (with_reducible refine jI hC ?_;rw [hcB]) | wp_step)
 exact wpAny_raiseNew_none hh hE
end
section
variable {prog:aI}{w:ba}{A:aX}{E:a8->af->Prop}{s:af}{env:Env}
variable {nm q:Str}{C N:ag}{bs bm bmB:List a8}{hdct:Bool}{sn:List Str}{sub:List a8}{ab:Bool}{col:Option Bool}{dd:Option ag}{k0 k1 k2 k3 k5:Option a8}{B newId initId:String}
theorem EJ (F:tN B newId initId bmB) {mN:Str->Option a8}{x:Str}{np cpos pos:Pos}{args:List b9}{fI:ag}{oI:Obj}{Q:Flow->af->Prop}
  (hbase:bm.contains (.type "BaseException")=true) (hh:A.handled=none) (hplain:(eV cpos (aw args env)).any (·.1)=false) (hi:mN "__init__"=some (.ref fI)) (hfc:oI.cls=.type "function")
  (h:ak (aE prog w) A (da (.Name x np) env) (fun f s₁=>f=.ref C/\ak (aE prog w) A (evalArgs (.ref C) true (eV cpos (aw args env)) [])
   (fun a s₂=>a.kw=[]/\a.pos.length<=sizeLine/\s₂.heap.get? C=some (gx nm q C N bs bm hdct sn sub ab col dd k0 k1 k2 k3 k5 newId)/\s₂.heap.Ns N mN/\OwnTail s₂.heap bmB bm/\s₂.heap.get? fI=some oI /\
    ∀ h' e,sV s₂.heap h' e (.ref C) a.pos->ak (aE prog w) (A.under (.builtin "type.__call__" ⟨.ref C::a.pos,[]⟩)) (call (.ref fI) (.ref e::a.pos)) (fun r s'=>r=.none/\s'.heap.get? C=some (gx nm q C N bs bm hdct sn sub ab col dd k0 k1 k2 k3 k5 newId)/\(∃ dx tt sl,s'.heap.get? e=some { cls:=.ref C,dict:=dx,data:=.fields #[.ref tt,.none,.none,.none,.bool false,.none],slots:=sl })/\E (.ref e) s') E { s₂ with heap:=h' }) E s₁) E s) :
  ak (aE prog w) A (exec (.Raise (some (.Call (.Name x np) args [] cpos)) none pos) env) Q E s:=by
 rw [arm_exec_Raise]
 first
  | refine a6 (dk (og (C:=C) (nm:=nm) (q:=q) (N:=N) (bs:=bs) (bm:=bm) (hdct:=hdct) (sn:=sn) (sub:=sub) (ab:=ab) (col:=col) (dd:=dd) (k0:=k0) (k1:=k1) (k2:=k2) (k3:=k3) (k5:=k5) (newId:=newId) hbase hh (a6 (bc (Al (bc h (fun f s₁ h₁=>?_) fun _ _ x=>x)) (fun v s₃ h₃=>a6 (dk (ac h₃))) fun _ _ x=>x))))
  | (simp only [evalOpt,Option.map];refine a6 (dk (og (C:=C) (nm:=nm) (q:=q) (N:=N) (bs:=bs) (bm:=bm) (hdct:=hdct) (sn:=sn) (sub:=sub) (ab:=ab) (col:=col) (dd:=dd) (k0:=k0) (k1:=k1) (k2:=k2) (k3:=k3) (k5:=k5) (newId:=newId) hbase hh (a6 (bc (Al (bc h (fun f s₁ h₁=>?_) fun _ _ x=>x)) (fun v s₃ h₃=>a6 (dk (ac h₃))) fun _ _ x=>x)))))
  | (refine a6 (dk (og (C:=C) (nm:=nm) (q:=q) (N:=N) (bs:=bs) (bm:=bm) (hdct:=hdct) (sn:=sn) (sub:=sub) (ab:=ab) (col:=col) (dd:=dd) (k0:=k0) (k1:=k1) (k2:=k2) (k3:=k3) (k5:=k5) (newId:=newId) hbase hh ?_));refine a6 (bc (Al (bc h (fun f s₁ h₁=>?_) fun _ _ x=>x)) (fun v s₃ h₃=>a6 (dk (ac h₃))) fun _ _ x=>x))
 obtain ⟨rfl,h₁⟩:=h₁
 unfold callWith
 refine a6 (c7 (bc h₁ (fun a s₂ h₂=>a6 (dk ?_)) fun _ _ x=>x))
 obtain ⟨apos,akw⟩:=a
 obtain ⟨hkw,hlen,hC,hn,T,hfI,h₂⟩:=h₂
 obtain rfl:akw=[]:=hkw
 obtain ⟨hp,g,d,tk,os⟩:=s₂
 simp only [hplain]
 refine a6 (wpAny_keeperOf_exc hC ?_)
 refine a6 (GZ (hrest:=hlen) F T hC hn hi hfI hfc fun h' e hm=>bc (h₂ h' e hm) (fun r s' hr=>?_) fun _ _ x=>x)
 obtain ⟨rfl,hC',⟨dx,vs,sl,he⟩,hE⟩:=hr
 refine ⟨rfl,a6 (c7 (wpAny_point (ac ?_)))⟩
 exact ⟨e,dx,vs,sl,rfl,hC',he,hE⟩
end
end
section
structure O7 (h:bf) (fI:ag):Prop where
 ex:∃ (oI:Obj) (fd:df) (p1 p2 p3 p4:Pos),h.get? fI=some oI/\oI.cls=.type "function"/\oI.data=.func fd/\h.CodeRec fd.code fd.qualname/\fd.scope.isCoroutine=false/\fd.scope.isGenerator=false/\fd.scope.kind=.function /\
  fd.scope.names=[(("self" : Str),qx),(("number" : Str),qx)]/\fd.body=.stmts [.Assign [.Attribute (.Name "self" p1) "number" p2] (.Name "number" p3) p4]/\∀ (s:af) (e v:a8),(∀ b o,h.get? b=some o->s.heap.get? b=some o)->wG s fd ⟨[e,v],[]⟩ [("self",e),("number",v)]
section
variable {prog:aI}{w:ba}{A:aX}{E:a8->af->Prop}{s:af}
variable {nm q:Str}{C N e fI:ag}{bs bm bmB:List a8}{sn:List Str}{sub:List a8}{ab:Bool}{col:Option Bool}{dd:Option ag}{k0 k1 k2 k3 k5:Option a8}{B newId initId sa owner:String}{nms:List Str}{v:a8}{mN:Str->Option a8}
theorem KB {oe:Obj}{base:bf}{Q:a8->af->Prop} (I:O7 base fI) (kb:∀ b o,base.get? b=some o->s.heap.get? b=some o) (hroom:A.depth<jf) (hlim:s.heap.NoLimit) (SF:Gh B bmB sa owner) (T:jV s.heap bmB nms bm)
  (hC:s.heap.get? C=some (gx nm q C N bs bm true sn sub ab col dd k0 k1 k2 k3 k5 newId)) (hn:s.heap.Ns N mN) (hs:("__setattr__" : Str)∈nms) (hns:mN "__setattr__"=none) (hm:("number" : Str)∈nms) (hna:mN "number"=none)
  (hB:hW (.type B) "number"=pure none) (hx:s.heap.get? e=some oe) (hc:oe.cls=.ref C) (hnc:∀ c,oe.data≠.cls c) (hdn:oe.dict=none)
  (hq:∀ h' tk' D,h'.get? e=some { cls:=oe.cls,dict:=some D,data:=oe.data,slots:=oe.slots }->(∀ b ob,b≠e->s.heap.get? b=some ob->h'.get? b=some ob)->Q .none { s with heap:=h',toks:=tk' }) :
  ak (aE prog w) A (call (.ref fI) [.ref e,v]) Q E s:=by
 obtain ⟨oI,fd,p1,p2,p3,p4,ho,_,hd,hcd,hco,hgen,hk,hsc,hbody,hbind⟩:=I.ex
 have cd':s.heap.CodeRec fd.code fd.qualname:=by
  obtain ⟨c,oc,vs,tq,a1,a2,a3⟩:=hcd
  exact ⟨c,oc,vs,tq,a1,kb _ _ a2,a3⟩
 refine pf (codeAny_call_def hroom (kb _ _ ho) hd hlim cd' hbody (hbind s (.ref e) v kb) (by rw [hsc];decide) (by
  intro y hy
  rw [hsc]
  rcases List.mem_cons.mp hy with z | z
  ·rw [z];rfl
  ·rw [List.mem_singleton.mp z];rfl) (fun h₀ hns₀ keep=>?_) hco hgen hk)
 have l1:(callEnv fd s.heap.objs.size fI).kindOf "number"=some .local:=show fd.scope.names.lookup ("number" : Str)=_ by rw [hsc];rfl
 have l2:(callEnv fd s.heap.objs.size fI).kindOf "self"=some .local:=show fd.scope.names.lookup ("self" : Str)=_ by rw [hsc];rfl
 refine BV (plainObj_wpAny_Assign_Attribute (y9 (vK hk l1 hns₀ (v:=v) rfl (y9 (vK hk l2 hns₀ (v:=.ref e) rfl ?_)))))
 refine EI SF (T.keeps keep) (keep _ _ hC) (hn.keeps keep) hs hns hm hna hB (keep _ _ hx) hc hnc hdn fun h' tk' a1 a2 _=>?_
 exact nO (hq h' tk' _ a1 fun b ob hb eb=>a2 b ob hb (keep b ob eb))
end
section
variable {M:vJ}{A:aX}{E:a8->af->Prop}{s:af}
theorem G_ {base h:bf}{env:Env}{outer:List Env}{L e t:ag}{C:a8}{dx:Option ag}{sl:Array (Option a8)}{Q:Unit->af->Prop}
  (hfr:A.frames=some (env::outer)) (hf:env.frame=some L) (hkb:base.StaysIn h) (hl:h.FunFrames base (env::outer)) (kp:∀ b o,h.get? b=some o->s.heap.get? b=some o) (new:h.get? e=none) (he:s.heap.get? e=some { cls:=C,dict:=dx,data:=.fields #[.ref t,.none,.none,.none,.bool false,.none],slots:=sl })
  (hQ:∀ h',FR base outer e C (.ref t) h'->s.heap.UpToSlots h'->Q () { s with heap:=h' }):ak M A (LJ env (.ref e)) Q E s:=by
 have fresh:∀ b,h.get? b=none->base.get? b=none:=fun b hb=>by
  cases hq:base.get? b with
  | none=>rfl
  | some o'=>have:=hkb b o' hq;rw [hb] at this;cases this
 refine wpAny_leaving_firstW (a0:=.ref t) hfr (hl.of_keeps fun b o hb _=>⟨o,kp b o hb,rfl⟩) hf he (fun b o hb=>kp b o (hkb b o hb)) (fresh e new) rfl rfl rfl fun h' hL=>?_
 obtain ⟨k1,⟨_,_,k2⟩,k3,k4⟩:=hL
 exact hQ h' ⟨k1,fresh e new,k2,k3⟩ k4
end
end
section
structure O8 (x:Str) (C:ag) (mg:Str->Option a8) (base:bf):Prop where
 bound:mg x=some (.ref C)
 obj:∃ nm q N bs bm sn sub ab col dd k0 k1 k2 k3 k5 mN fI,base.get? C=some (gx nm q C N bs bm true sn sub ab col dd k0 k1 k2 k3 k5 "ValueError.__new__")/\base.Ns N mN/\mN "__init__"=some (.ref fI)/\mN "__setattr__"=none/\mN "number"=none /\
  jV base [.type "ValueError",.type "Exception",.type "BaseException",.type "object"] ["__init__","__setattr__","number"] bm/\O7 base fI
section
variable {P:aI}{w:ba}{K:a7}{mg:Str->Option a8}{base:bf}{N:List Str}{qual:Str}{scope:el}{f:ag}{cd:a8}{A:aX}{outer:List Env}{s:af}{H:Hp}{E:XK}
theorem Az {pins:List (ag×Obj)}{σ:St}{H1:Hp}{s1:af}{h':bf}{tk':Nat}{ea C t:ag}{dx:Option ag}{sl:Array (Option a8)} (I:bF (fX (jD P w) P w K mg base N qual scope f cd A outer s H E) pins σ H1 s1)
  (kp:∀ b o,s1.heap.get? b=some o->h'.get? b=some o) (new:s1.heap.get? ea=none) (he:h'.get? ea=some { cls:=.ref C,dict:=dx,data:=.fields #[.ref t,.none,.none,.none,.bool false,.none],slots:=sl }) (q:E (.ref C) none H1):(fX (jD P w) P w K mg base N qual scope f cd A outer s H E).xe (.ref ea) { s1 with heap:=h',toks:=tk' }:=by
 let X:=fX (jD P w) P w K mg base N qual scope f cd A outer s H E
 let B:=xg s1.heap (oB X.stack)
 have hin:∀ env∈X.stack,∀ a,env.frame=some a->a∈oB X.stack:=fun env he a hf=>Co he hf
 have stB:B.StaysIn s1.heap:=fun b o e=>tF _ e
 have nS:∀ b,b∉oB X.stack->∀ o,s1.heap.get? b=some o->B.get? b=some o:=fun b n o e=>sC _ e n
 show ak _ X.A (LJ X.env (.ref ea)) _ _ _
 refine G_ (s:={ s1 with heap:=h',toks:=tk' }) (base:=B) (outer:=outer) (L:=X.env.locals) I.ok.frames rfl stB (C1 I.stack hin) kp new he fun h2 fl up=>?_
 have st2:=fl.1
 have bl:∀ b o,s.heap.get? b=some o->b∉oB outer->b∉oB X.stack:=fun b o e n z=>by
  rcases List.mem_cons.mp (I.stkSub b z) with y | y
  ·exact absurd (am e) (by rw [y];exact Nat.not_lt.mpr I.ok.above)
  ·exact n y
 have noex:∀ b:ag,b∉X.ex:=fun b z=>absurd (show b∈([] : List ag) from z) (by simp)
 have cov:∀ b u,H1 b=some u->∃ o,B.get? b=some o:=fun b u e=>by
  have hb:b∉oB X.stack:=fun z=>by have:=I.stkFree b z;rw [e] at this;cases this
  obtain ⟨o,k⟩:=E7 I.hok e
  exact ⟨o,nS b hb o k⟩
 refine ⟨ea,C,t,H1,B,rfl,I.os,I.bare,⟨fl,cov,fun b o e n hb=>?_,fun b o e hb=>?_,⟨fun b o e n hb hx'=>?_,fun b o e n hb hx'=>?_,fun b o e n _=>I.base.free b o e n (noex b),fun b o e _=>?_,I.base.tups,I.base.frzs,I.base.tbls⟩,fun b u e=>?_⟩,q⟩
 ·exact nS b (bl b o e hb) o (I.base.keep b o e n hb (noex b))
 ·obtain ⟨o',k⟩:=I.base.there b o e (noex b)
  exact ⟨o',nS b (bl b o e hb) o' k⟩
 ·exact st2 b o (nS b (bl b o e hb) o (I.base.keep b o e n hb (noex b)))
 ·obtain ⟨sl,k⟩:=I.base.slot b o e n hb (noex b)
  obtain ⟨_,o',k1,k2⟩:=dm I.funs hb
  rw [k] at k1;cases k1
  obtain ⟨sl',k3⟩:=up b _ (kp _ _ k) k2
  exact ⟨sl',k3⟩
 ·obtain ⟨o',k⟩:=I.base.there b o e (noex b)
  by_cases hb:b∈oB outer
  ·obtain ⟨_,o2,k1,_⟩:=dm fl.2.2.1 hb
   exact ⟨o2,k1⟩
  ·exact ⟨o',st2 b o' (nS b (bl b o e hb) o' k)⟩
 ·refine (I.hok b u e).stay (fun c o hc k=>?_) (fun _ q=>q) fun _ _ q=>q
  have hcs:c∉oB X.stack:=fun z=>by
   have:=I.stkFree c z
   rcases hc with y | y
   ·rw [y,e] at this;cases this
   ·rw [y] at this;cases this
  exact st2 c o (nS c hcs o k)
theorem KC:hW (.type "ValueError") "number"=pure none:=by rw [uz,lY];kernel_rfl
theorem KD {x:Str}{np cpos pos:Pos}{e0:b9}{C:ag}{ta:TA} (O:O8 x C mg base) (hr:(fX (jD P w) P w K mg base N qual scope f cd A outer s H E).A.depth + 5<jf)
  (hg:Gl (fX (jD P w) P w K mg base N qual scope f cd A outer s H E) x) (ha:PA (fX (jD P w) P w K mg base N qual scope f cd A outer s H E) [e0] ta)
  (he:aw [e0] (fX (jD P w) P w K mg base N qual scope f cd A outer s H E).env=[(false,da e0 (fX (jD P w) P w K mg base N qual scope f cd A outer s H E).env)]:=by rfl)
  (hdb:(x == ("__debug__" : Str))=false:=by decide) :
  PS (fX (jD P w) P w K mg base N qual scope f cd A outer s H E) (.Raise (some (.Call (.Name x np) [e0] [] cpos)) none pos) (fun D σ H1=>ta σ H1 fun vs H2=>vs.length=1/\E (.ref C) none H2):=by
 intro pins s1 σ H1 D I h
 obtain ⟨nm,q,Nn,bs,bm,sn,sub,ab,col,dd,k0,k1,k2,k3,k5,mN,fI,hC,hN,hi,hsa,hnu,T,IF⟩:=O.obj
 obtain ⟨oI,_,_,_,_,_,hoI,hfc,_⟩:=id IF.ex
 refine EJ (C:=C) (nm:=nm) (q:=q) (N:=Nn) (bs:=bs) (bm:=bm) (hdct:=true) (sn:=sn) (sub:=sub) (ab:=ab) (col:=col) (dd:=dd) (k0:=k0) (k1:=k1) (k2:=k2) (k3:=k3) (k5:=k5) (fI:=fI) (oI:=oI)
  yi (mN:=mN) (T.hasType PySem.F.excBase_ValueError.hasBase) (I.ok.hd rfl) (by rw [he];rfl) hi hfc (uJ I hg O.bound ⟨rfl,?_⟩ hdb)
 have hx:=ha cpos pins s1 σ H1 _ I h
 rw [he] at hx ⊢
 refine sF (fW hx fun us s2 ⟨vs,H2,I2,r2,z,qE⟩=>?_)
 have kb:∀ b o,base.get? b=some o->s2.heap.get? b=some o:=I2.bk
 have hl:=r2.length
 rw [z] at hl
 match us,hl with
 | [u],_ =>
  refine ⟨rfl,by show 1<=sizeLine;rw [Dz];omega,kb _ _ hC,hN.keeps kb,(T.ownTail (by simp)).keeps kb,kb _ _ hoI,fun h' ea hm=>?_⟩
  obtain ⟨t,ht,_,_⟩:=hm.there
  have kh:∀ b o,base.get? b=some o->h'.get? b=some o:=fun b o e=>hm.keeps b o (kb b o e)
  refine KB (s:={ s2 with heap:=h' }) IF kh ?_ (I2.nolimit.keeps hm.keeps) PySem.F.store_ValueError (T.keeps kh) (kh _ _ hC) (hN.keeps kh) (by simp) hsa (by simp) hnu KC ht rfl (fun c z=>nomatch z) rfl fun h2 tk2 Dx e1 e2=>?_
  ·have hw:∀ r,Ig (.builtin "type.__call__" ⟨.ref C::r,[]⟩)<=5:=fun r=>by
    have e:Ig (.builtin "type.__call__" ⟨.ref C::r,[]⟩)=Ig (.builtin "type.__call__" ⟨[.ref 0],[]⟩):=rfl
    rw [e]
    decide +kernel
   exact nV (Lr (hw [u]) _) hr
  ·have kp:∀ b o,s2.heap.get? b=some o->h2.get? b=some o:=fun b o e=>e2 b o (fun z=>by rw [z,hm.new] at e;cases e) (hm.keeps b o e)
   exact ⟨rfl,kp _ _ (kb _ _ hC),⟨some Dx,t,#[],e1⟩,Az (s1:=s2) (tk':=tk2) I2 kp hm.new e1 qE⟩
end
end
end L2
namespace J
open PySem L2
section
open PySem.W (nsIn nsOkIn codeIn fnOf)
def Vl:cr->Nat->cr
 | .ClassDef (body:=b) ..,j=>b.getD j (.Pass ⟨0,0,0,0⟩)
 | _,_=>.Pass ⟨0,0,0,0⟩
theorem Vm {K:a7}{h:bf}{N:ag}{mg:Str->Option a8}{n:Str}{v:a8} (X:K.In h) (G:h.Ns N mg) (e:nsIn K N n=some (some v)):mg n=some v:=by
 obtain ⟨o,es,ep,ho,hd,_,hf⟩:=G
 unfold gC at e
 split at e
 ·rename_i c d es' n' sl q
  have:=X _ _ q
  rw [ho] at this
  cases this
  cases hd
  split at e
  ·rename_i he
   rw [<- hf]
   unfold nsFind findBy
   rw [<- Jz,he]
   cases e
   rfl
  ·split at e<;>cases e
 ·cases e
structure Vn (K:a7) (x:Str) (C:ag) (st:cr):Prop where
 ns:nsIn K bA x=some (some (.ref C))
 own:∀ {h:bf}{mg:Str->Option a8},K.In h->h.Ns bA mg->O8 x C mg h
 mb:cp K C (.type "BaseException")=some true
 ox:∀ {h:bf},K.In h->∃ bm,Cr h C bm/\∀ v,(v == bE C)=false->cp K C v=some true->bm.contains v=true
theorem topN {K:a7}{x:Str}{C CP fI T0 Nn NP:ag}{st:cr}{nm qn nmP qnP fq:Str}{bs bsP mroP subP sub:List a8}{sn snP:List Str}{ab abP hdP delP:Bool}{col colP:Option Bool}{dd dP od dT an:Option ag}{k0 k1 k2 k3 k5:Option a8}{c0 kV doc pm cdv ct cT:a8}{slP slF slT:Array (Option a8)}{nT:Nat}{p1 p2 p3 p4:Pos}{cN cM:a8}{dN dM:Option ag}{esN esM:Array DictEntry}{epN epM:Nat}{slN slM:Array (Option a8)}
  (a1:nsIn K bA x=some (some (.ref C))) (a4:cp K C (.type "BaseException")=some true)
  (a2:K.lookup C=some ⟨.type "type",dd,.cls ⟨nm,bs,[.ref C,.ref CP,.type "ValueError",.type "Exception",.type "BaseException",.type "object"],Nn,qn,true,sn,sub,ab,col,false⟩,#[k0,k1,k2,k3,some (.builtin "ValueError.__new__"),k5]⟩)
  (a3:K.lookup CP=some ⟨c0,dP,.cls ⟨nmP,bsP,mroP,NP,qnP,hdP,snP,subP,abP,colP,delP⟩,slP⟩)
  (b1:nsIn K Nn "__init__"=some (some (.ref fI))) (b2:nsIn K Nn "__setattr__"=some none) (b3:nsIn K Nn "number"=some none)
  (c1:nsIn K NP "__init__"=some none) (c2:nsIn K NP "__setattr__"=some none) (c3:nsIn K NP "number"=some none)
  (d1:K.lookup fI=some ⟨.type "function",od,.func (fnOf "__init__" fq (kM st) (gT st) (ax st) (.ref T0) kV doc pm an cdv ct),slF⟩)
  (d2:K.lookup T0=some ⟨cT,dT,.seq #[.none] nT,slT⟩) (d3:codeIn K cdv fq=true)
  (g1:K.lookup Nn=some ⟨cN,dN,.dict esN epN,slN⟩) (g2:K.lookup NP=some ⟨cM,dM,.dict esM epM,slM⟩) (g3:(esN.toList.all fun e=>match e.key with | .str _ _=>true | _=>false)=true) (g4:(esM.toList.all fun e=>match e.key with | .str _ _=>true | _=>false)=true)
  (f1:gT st=[.Assign [.Attribute (.Name "self" p1) "number" p2] (.Name "number" p3) p4]) (f2:(ax st).names=[(("self" : Str),qx),(("number" : Str),qx)])
  (f3:(ax st).isCoroutine=false) (f4:(ax st).isGenerator=false) (f5:(ax st).kind=.function)
  (f6:∀ e v,∃ k,P0 (fnOf "__init__" fq (kM st) (gT st) (ax st) (.ref T0) kV doc pm an cdv ct) ⟨[e,v],[]⟩=Lw (.ref T0) >>= k/\k (some #[.none])=pure [(("self" : Str),e),(("number" : Str),v)]):Vn K x C st:=by
 have e1:nsOkIn K Nn=true:=by unfold LY;rw [g1];show esN.all _=true;rw [<- xp];exact g3
 have e2:nsOkIn K NP=true:=by unfold LY;rw [g2];show esM.all _=true;rw [<- xp];exact g4
 refine ⟨a1,fun {h mg} X G=>⟨j4 X G a1,nm,qn,Nn,bs,_,sn,sub,ab,col,dd,k0,k1,k2,k3,k5,h.nsMap Nn,fI,X _ _ a2,.of_isNs (mh X e1),?_,eQ X e1 b2,eQ X e1 b3,?_,⟨_,_,p1,p2,p3,p4,X _ _ d1,rfl,rfl,tJ X d3,f3,f4,f5,f2,congrArg FuncBody.stmts f1,fun s e v kb=>?_⟩⟩,a4,fun {h} X=>⟨_,⟨⟨nm,qn,Nn,bs,true,sn,sub,ab,col,dd,k0,k1,k2,k3,k5,_,X _ _ a2⟩,rfl⟩,fun v nv hv=>?_⟩⟩
 ·exact Vm X (.of_isNs (mh X e1)) b1
 ·refine .own (X _ _ a3) (.of_isNs (mh X e2)) (fun n hn=>?_) .base
  rcases List.mem_cons.mp hn with z | hn
  ·rw [z];exact eQ X e2 c1
  rcases List.mem_cons.mp hn with z | hn
  ·rw [z];exact eQ X e2 c2
  ·rw [List.mem_singleton.mp hn];exact eQ X e2 c3
 ·obtain ⟨k,k1,k2⟩:=f6 e v
  exact BindsTo.of_defaults rfl (kb _ _ (X _ _ d2)) rfl k1 k2
 ·unfold cp gI at hv
  rw [a2] at hv
  have:(bE C::[bE CP,.type "ValueError",.type "Exception",.type "BaseException",.type "object"]).contains v=true:=by simpa using hv
  rw [g9,nv,uG] at this
  exact this
def sd (x:Str) (gs:av->R (List D)):av->R Fl:=fun ρ=>(gs ρ).bind fun ds=>if ds.length=1 then .ex x none else .no
theorem XZ {k:Nat}{A:aX} (hr:ji k A):A.depth + 5<jf:=by have:=hr.dp;omega
section
variable {P:aI}{w:ba}{K:a7}{mg:Str->Option a8}{base:bf}{N:List Str}{qual:Str}{scope:el}{f:ag}{cd:a8}{A:aX}{outer:List Env}{s:af}{H:Hp}{E:XK}{cls:Str->ag}
theorem KG {x:Str}{np cpos pos:Pos}{e0:b9}{gs:av->R (List D)} (R0:O8 x (cls x) mg base) (hr:(fX (jD P w) P w K mg base N qual scope f cd A outer s H E).A.depth + 5<jf)
  (hg:Gl (fX (jD P w) P w K mg base N qual scope f cd A outer s H E) x) (ha:Bf ⟨fX (jD P w) P w K mg base N qual scope f cd A outer s H E,cls,E⟩ [e0] gs)
  (he:aw [e0] (fX (jD P w) P w K mg base N qual scope f cd A outer s H E).env=[(false,da e0 (fX (jD P w) P w K mg base N qual scope f cd A outer s H E).env)]:=by rfl)
  (hdb:(x == ("__debug__" : Str))=false:=by decide) :
  JS ⟨fX (jD P w) P w K mg base N qual scope f cd A outer s H E,cls,E⟩ (.Raise (some (.Call (.Name x np) [e0] [] cpos)) none pos) (sd x gs):=.of fun ρ=>by
 refine Ab (KD R0 hr hg (ha ρ) he hdb) fun D σ H1 h_1=>?_
 obtain ⟨H0,Hs0,la,Hs,f,q⟩:=h_1
 replace q:pA K cls E H0 Hs0 la D (sd x gs ρ):=q
 refine ⟨H0,Hs0,la,Hs,f,?_⟩
 unfold sd at q
 cases hr:gs ρ with
 | no=>rw [hr] at q;exact q
 | ex y n=>rw [hr] at q;exact fun H' Hs' s=>q H' Hs' (f.st.trans s)
 | ok ds =>
  rw [hr,bind_ok] at q
  intro vs H2 Hs2 s2 r2
  by_cases hl:ds.length=1
  ·rw [if_pos hl] at q
   exact ⟨by rw [r2.length];exact hl,q H2 Hs2 (f.st.trans s2)⟩
  ·rw [if_neg hl] at q;exact q.elim
end
end
section
section
variable {c:C}{e:b9}{g:av->R D}{pos p:Pos}
def QD (k:Nat):D->R D
 | .list ds=>Qu k ds
 | _=>.no
def zj (k:Nat) (g:av->R D) (gl gh:av->R (Option Int)):av->R D:=fun ρ=>(g ρ).bind fun x=>(gl ρ).bind fun l=>(gh ρ).bind fun h=>(Au x l h).bind (QD k)
theorem O9 (k:Nat) {j:Nat}{lo hi:Option b9}{gl gh:av->R (Option Int)}{p2 p3:Pos} (hk:k<=100) (he:JB c e g) (hl:JO c lo gl) (hh:JO c hi gh):JE c (.BinOp (.Subscript e (.Slice lo hi none p2) p) .Mult (.Constant (.int k) j p3) pos) (zj k g gl gh):=.of fun ρ=>qy (Ij Mm (DO Ir (he ρ) (hl ρ) (hh ρ)) yr) fun σ H Q h_2=>by
 obtain ⟨H0,Hs0,la,Hs,f,q⟩:=h_2
 refine one f q fun d v H1 Hs1 e1 s1 f1 r1=>?_
 unfold zj at q
 rw [e1,bind_ok] at q
 refine Q8 f1 (q.on s1 (q':=fun _=>True) fun _ _=>trivial) fun l H2 Hs2 e2 s2 f2=>?_
 rw [e2,bind_ok] at q
 refine Q8 f2 (q.on (s1.trans s2) (q':=fun _=>True) fun _ _=>trivial) fun h H3 Hs3 e3 s3 f3=>?_
 rw [e3,bind_ok] at q
 have r3:=(r1.step s2).step s3
 cases d with
 | list ds =>
  obtain ⟨a,vs,rfl,qa,ra⟩:=r3.list f3.st.sub
  rw [show Au (.list ds) l h=.ok (.list (qV ds l h)) from rfl,bind_ok] at q
  rw [show QD k (.list (qV ds l h))=if (qV ds l h).length<=10 then .ok (.list (bi k (qV ds l h)).flatten) else .no from rfl] at q
  by_cases hlen:(qV ds l h).length<=10
  ·rw [if_pos hlen] at q
   have rc:=CC ra l h
   have hv:(xq vs l h).length<=10:=by rw [rc.length];exact hlen
   refine ⟨a,vs,rfl,qa,fun p hp=>?_⟩
   have s4:cJ H3 Hs3 (upd H3 p (.lst (xq vs l h))) Hs3:=.mine f3.st.sub hp
   refine ⟨p,k,xq vs l h,rfl,rfl,aV,by omega,by omega,?_,fun p2 hp2=>?_⟩
   ·have:(xq vs l h).length * k<=10 * 100:=Nat.mul_le_mul hv hk
    exact bq (bY (bJ this (by decide)))
   ·refine q _ _ _ (s1.trans (s2.trans (s3.trans (s4.trans (.new s4.sub hp2))))) (.list (.of aV) ?_)
    exact (rc.rep k).same (cJ.new s4.sub hp2).sh
  ·rw [if_neg hlen] at q;exact q.elim
 | tuple ds=>exact q.elim
 | none=>exact q.elim
 | bool _=>exact q.elim
 | int _=>exact q.elim
 | str _=>exact q.elim
 | dict _=>exact q.elim
end
end
end J
namespace Z
open PySem L2 J
section
def H9 (y:Str):Option Nat:=if y="NoState" then some 1 else if y="NoWant" then some 2 else if y="NoBook" then some 0 else if y="NoRow" then some 4 else none
def jW:av->R Fl:=(cg (Bg (c6 (aa (fo 1 [1] (lK (rB 0)) kT (g2 (rB 0) (rB 1) (Ee false))) aA) (iK (gX fun bs=>bs.any id)))))
def dG:List D->R D:=e_ 2 jW
def se:av->R Fl:=(cg (c6 (aa (fo 1 [1] (lK (rB 0)) (fR (g2 (rB 0) (rB 1) (Ee true))) (rS 0)) aA) (iK i0)))
def sf:List D->R D:=e_ 2 se
def vc:av->R Fl:=(cg (c6 (aa (l8 (O1 (pC (rB 0)) (pC (rB 1)))) aA) (iK i0)))
def vd:List D->R D:=e_ 2 vc
def oR:av->R Fl:=(aW (dY (FW (jk (fR (qW (rB 0) "str"))) (jk (fR (qT (kI 1) (c6 (aa (rB 0) aA) (iK j7)) (kI 6) Rv Rv)))) (cg (kB false)) (fun ρ=>.ok (.nx ρ))) (cg (c6 (aa (fo 1 [] (lK (rB 0)) kT (qT (fun _=>.ok (.str "a")) (rB 0) (fun _=>.ok (.str "z")) Rv Rv)) aA) (iK (gX fun bs=>bs.all id)))))
def fz:List D->R D:=e_ 1 oR
def dJ:av->R Fl:=(aW (dY (FW (jk (fR (qW (rB 0) "tuple"))) (jk (fR (c6 (aa (fo 1 [] (lK (rB 0)) kT (dz 1 fz (aa (rS 0) aA))) aA) (iK (gX fun bs=>bs.all id)))))) (cg (kB false)) (fun ρ=>.ok (.nx ρ))) (cg (c6 (aa (fo 2 [] (Qd (aa (rS 0) (aa (LC (rB 0) (IH (kI 1)) N0) aA))) kT (g2 (rB 0) (rB 1) GL)) aA) (iK (gX fun bs=>bs.all id)))))
def cq:List D->R D:=e_ 1 dJ
def jq:av->R Fl:=(cg (qR (dz 1 cq (aa (rS 1) aA)) (c6 (aa (fo 1 [0] (lK (rB 1)) kT (g2 (rB 0) (rB 1) (Ee false))) aA) (iK (gX fun bs=>bs.all id)))))
def cE:List D->R D:=e_ 2 jq
def pE:av->R Fl:=(aW (dY (FW (jk (fR (qW (rB 0) "int"))) (fR (qW (rB 0) "bool"))) (cg (kB false)) (fun ρ=>.ok (.nx ρ))) (cg (qT (rB 1) (rB 0) (rB 2) Rv Rv)))
def pF:List D->R D:=e_ 3 pE
def nr:av->R Fl:=(aW (dY (FW (jk (fR (qW (rB 1) "tuple"))) (fR (g2 (c6 (aa (rB 1) aA) (iK j7)) (kI 6) (kP true)))) (cg (kB false)) (fun ρ=>.ok (.nx ρ))) (aW (yP (rS 1) (ms 6 (cC (bX 2) (cC (bX 3) (cC (bX 4) (cC (bX 5) (cC (bX 6) (cC (bX 7) o9)))))))) (aW (dY (FW (jk (fR (dz 1 fz (aa (rS 2) aA)))) (jk (fR (dz 3 pF (aa (rS 7) (aa (kI 0) (aa (kI 9) aA))))))) (cg (kB false)) (fun ρ=>.ok (.nx ρ))) (aW (dY (jk (fR (c6 (aa (fo 1 [0] (lK (cc (aa (rS 3) (aa (rS 4) (aa (rS 5) (aa (rS 6) aA)))) .tuple)) kT (dz 2 cE (aa (rS 1) (aa (rS 0) aA)))) aA) (iK (gX fun bs=>bs.all id))))) (cg (kB false)) (fun ρ=>.ok (.nx ρ))) (cg (qR (dz 2 dG (aa (rS 3) (aa (rS 4) aA))) (dz 2 dG (aa (rS 5) (aa (rS 6) aA)))))))))
def nu:List D->R D:=e_ 8 nr
def sg:av->R Fl:=(aW (dY (FW (jk (fR (qW (rB 0) "tuple"))) (fR (g2 (c6 (aa (rB 0) aA) (iK j7)) (kI 2) (kP true)))) (cg (kB false)) (fun ρ=>.ok (.nx ρ))) (aW (yP (rS 0) (ms 2 (cC (bX 1) (cC (bX 2) o9)))) (aW (dY (FW (jk (fR (dz 1 cq (aa (rS 1) aA)))) (fR (g2 (c6 (aa (rB 1) aA) (iK j7)) (kI 6) Q7))) (cg (kB false)) (fun ρ=>.ok (.nx ρ))) (aW (dY (FW (jk (fR (qW (rB 2) "tuple"))) (fR (g2 (c6 (aa (rB 2) aA) (iK j7)) (kI 6) Q7))) (cg (kB false)) (fun ρ=>.ok (.nx ρ))) (aW (dY (jk (fR (c6 (aa (fo 1 [1] (lK (rB 2)) kT (dz 2 nu (aa (rS 1) (aa (rS 0) aA)))) aA) (iK (gX fun bs=>bs.all id))))) (cg (kB false)) (fun ρ=>.ok (.nx ρ))) (cg (g2 (v7 (we 1 [] (lK (rB 2)) kT (g2 (rB 0) (kI 0) aU))) (c6 (aa (rB 2) aA) (iK j7)) (kP false))))))))
def si:List D->R D:=e_ 3 sg
def l_:av->R Fl:=(aW (dY (FW (jk (fR (qW (rB 1) "tuple"))) (fR (g2 (c6 (aa (rB 1) aA) (iK j7)) (kI 2) (kP true)))) (cg (kB false)) (fun ρ=>.ok (.nx ρ))) (aW (yP (rS 1) (ms 2 (cC (bX 2) (cC (bX 3) o9)))) (cg (qR (dz 2 cE (aa (g2 (rB 0) (kI 0) aU) (aa (rS 2) aA))) (qR (dz 2 cE (aa (g2 (rB 0) (kI 0) aU) (aa (rS 3) aA))) (dz 2 dG (aa (rS 2) (aa (rS 3) aA))))))))
def ku:List D->R D:=e_ 4 l_
def kQ:av->R Fl:=(dY (jk (fR (dz 2 cE (aa (g2 (rB 0) (kI 0) aU) (aa (rS 1) aA))))) (rf "NoState" (aa (fun _=>.ok (.str "a state is a rising tuple of the book's facts, none twice")) aA)) (fun ρ=>.ok (.nx ρ)))
def kR:List D->R D:=e_ 2 kQ
def jX:av->R Fl:=(dY (jk (fR (dz 2 ku (aa (rS 0) (aa (rS 1) aA))))) (rf "NoWant" (aa (fun _=>.ok (.str "a want is a tuple of two states with nothing in common")) aA)) (fun ρ=>.ok (.nx ρ)))
def iP:List D->R D:=e_ 2 jX
def gy:av->R Fl:=(aW (dY (jk (fR (qW (rB 1) "str"))) (cg kN) (fun ρ=>.ok (.nx ρ))) (aW (qr (lK (g2 (rB 0) (kI 1) aU)) (bX 2) (dY (fR (g2 (g2 (rB 2) (kI 0) aU) (rB 1) (kP false))) (cg (rS 2)) (fun ρ=>.ok (.nx ρ)))) (cg kN)))
def cL:List D->R D:=e_ 3 gy
def sj:av->R Fl:=(aW (yP (rS 1) (ms 2 (cC (bX 2) (cC (bX 3) o9)))) (cg (qR (c6 (aa (fo 1 [0] (lK (rB 2)) kT (g2 (rB 0) (rB 1) (Ee false))) aA) (iK (gX fun bs=>bs.all id))) (dz 2 dG (aa (rS 3) (aa (rS 0) aA))))))
def oS:List D->R D:=e_ 4 sj
def nw:av->R Fl:=(cg (dz 2 oS (aa (rS 1) (aa (cc (aa (g2 (rB 0) (kI 1) aU) (aa (g2 (rB 0) (kI 2) aU) aA)) .tuple) aA))))
def iH:List D->R D:=e_ 2 nw
def jY:av->R Fl:=(aW (O3 2 3 (aa (g2 (rB 0) (kI 3) aU) (aa (g2 (rB 0) (kI 4) aU) aA))) (cg (dz 2 vd (aa (dz 2 sf (aa (rS 1) (aa (rS 3) aA))) (aa (rS 2) aA)))))
def fK:List D->R D:=e_ 4 jY
def sk:av->R Fl:=(aW (dY (jk (fR (dz 1 si (aa (rS 0) aA)))) (rf "NoBook" (aa (fun _=>.ok (.str "a book is a tuple of facts and errands, each as the document tells")) aA)) (fun ρ=>.ok (.nx ρ))) (cg (rS 0)))
def sr:List D->R D:=e_ 1 sk
def kS:av->R Fl:=(aW (wR (dz 1 sr (aa (rS 0) aA))) (wR (dz 2 kR (aa (rS 0) (aa (rS 1) aA)))))
def kU:List D->R D:=e_ 2 kS
def l9:av->R Fl:=(aW (wR (dz 2 kU (aa (rS 0) (aa (rS 1) aA)))) (wR (dz 2 iP (aa (rS 0) (aa (rS 2) aA)))))
def jr:List D->R D:=e_ 3 l9
def mB:av->R Fl:=(aW (dY (FW (jk (fR (qW (rB 1) "list"))) (fR (g2 (c6 (aa (rB 1) aA) (iK j7)) (kI 64) Q7))) (cg (kB false)) (fun ρ=>.ok (.nx ρ))) (cg (c6 (aa (fo 1 [0] (lK (rB 1)) kT (g2 (dz 2 cL (aa (rS 1) (aa (rS 0) aA))) kN (Bl true))) aA) (iK (gX fun bs=>bs.all id)))))
def lc:List D->R D:=e_ 2 mB
def jZ:av->R Fl:=(aW (dY (jk (fR (dz 2 lc (aa (rS 0) (aa (rS 1) aA))))) (sd "NoRow" (aa kN aA)) (fun ρ=>.ok (.nx ρ))) (cg (fo 1 [0] (lK (rB 1)) kT (dz 2 cL (aa (rS 1) (aa (rS 0) aA))))))
def iQ:List D->R D:=e_ 2 jZ
def iR:av->R Fl:=(aW (gQ 2 (cc (aa (rS 1) aA) .list)) (aW (yW 0 (bX 3) (aW (dY (jk (fR (dz 2 iH (aa (rS 3) (aa (g2 (rB 2) (r9 (kI 1)) aU) aA))))) (cg (rS 2)) (fun ρ=>.ok (.nx ρ))) (pB 2 (dz 2 fK (aa (rS 3) (aa (g2 (rB 2) (r9 (kI 1)) aU) aA)))))) (cg (rS 2))))
def iS:List D->R D:=e_ 4 iR
def oT:av->R Fl:=(aW (wR (dz 3 jr (aa (rS 0) (aa (rS 1) (aa (rS 2) aA))))) (aW (fY 4 (dz 2 iQ (aa (rS 0) (aa (rS 3) aA)))) (aW (fY 5 (dz 2 iS (aa (rS 4) (aa (rS 1) aA)))) (cg (qR (g2 (c6 (aa (rB 5) aA) (iK j7)) (c6 (aa (rB 4) aA) (iK j7)) Q7) (dz 2 oS (aa (g2 (rB 5) (r9 (kI 1)) aU) (aa (rS 2) aA))))))))
def fL:List D->R D:=e_ 6 oT
def kW:av->R Fl:=(aW (dY (fR (g2 (rB 1) (c6 (aa (rB 0) aA) (iK j7)) GL)) (cg (g2 (rB 0) (rB 1) aU)) (fun ρ=>.ok (.nx ρ))) (aW (dY (fR (g2 (rB 0) (cc aA .list) (kP false))) (cg (kI 0)) (fun ρ=>.ok (.nx ρ))) (cg (g2 (g2 (g2 (rB 0) (g2 (rB 1) (c6 (aa (rB 0) aA) (iK j7)) Kl) aU) (kI 31) uZ) (rB 1) dI))))
def kX:List D->R D:=e_ 2 kW
def ny:av->R Fl:=(aW (fY 3 (g2 (g2 (g2 (g2 (dz 2 kX (aa (rS 0) (aa (rS 1) aA))) (g2 (kI 7919) (rB 1) uZ) dI) (kI 1) dI) (kI 48271) uZ) (kI 2147483647) Kl)) (cg (g2 (g2 (g2 (g2 (g2 (rB 3) (rB 3) uZ) (g2 (kI 7) (rB 3) uZ) dI) (rB 1) dI) (kI 2147483629) Kl) (rB 2) Kl)))
def a_:List D->R D:=e_ 4 ny
def pG:av->R Fl:=(aW (fY 2 (fun _=>.ok (.str ""))) (aW (qr (v3 (aa (g2 (cc (aa (kI 1) (aa (kI 2) (aa (kI 3) (aa (kI 6) (aa (kI 1) (aa (kI 4) aA)))))) .list) (dz 3 a_ (aa (rS 0) (aa (rS 1) (aa (kI 6) aA)))) aU) aA)) (bX 3) (fY 2 (g2 (rB 2) (g2 (fun _=>.ok (.str "abcdefghijklmnopqrstuvwxyz")) (dz 3 a_ (aa (rS 0) (aa (g2 (g2 (rB 1) (kI 1) dI) (rB 3) dI) (aa (kI 26) aA)))) aU) dI))) (cg (rS 2))))
def kx:List D->R D:=e_ 4 pG
def nz:av->R Fl:=(aW (gQ 3 (fun _=>.ok (.dict []))) (aW (qr (v3 (aa (dz 3 a_ (aa (rS 0) (aa (rS 1) (aa (g2 (rB 2) (kI 1) dI) aA)))) aA)) (bX 4) (CJ 3 (dz 2 kx (aa (rS 0) (aa (g2 (g2 (rB 1) (kI 1) dI) (g2 (kI 8) (rB 4) uZ) dI) aA))) (kB true))) (cg (c6 (aa (c6 (aa (c6 (aa (rB 3) aA) (iK jT)) aA) (iK rY)) aA) (iK i0)))))
def nA:List D->R D:=e_ 5 nz
def pH:av->R Fl:=(cg (c6 (aa (fo 2 [0,1,3] (GP (aa (rS 2) aA)) (fR (g2 (dz 3 a_ (aa (rS 2) (aa (g2 (rB 3) (rB 0) dI) (aa (kI 12) aA)))) (rB 4) GL)) (rS 1)) aA) (iK i0)))
def pI:List D->R D:=e_ 4 pH
def pJ:av->R Fl:=(aW (fY 4 (g2 (rB 2) (dz 3 a_ (aa (rS 0) (aa (g2 (rB 1) (kI 10) dI) (aa (c6 (aa (rB 2) aA) (iK j7)) aA)))) aU)) (aW (fY 5 (g2 (rB 2) (dz 3 a_ (aa (rS 0) (aa (g2 (rB 1) (kI 11) dI) (aa (c6 (aa (rB 2) aA) (iK j7)) aA)))) aU)) (aW (fY 6 (g2 (rB 2) (dz 3 a_ (aa (rS 0) (aa (g2 (rB 1) (kI 12) dI) (aa (c6 (aa (rB 2) aA) (iK j7)) aA)))) aU)) (aW (fY 7 (LC (cc (aa (rS 4) (aa (rS 5) aA)) .list) N0 (IH (g2 (kI 1) (g2 (dz 3 a_ (aa (rS 0) (aa (g2 (rB 1) (kI 13) dI) (aa (kI 3) aA)))) (kI 2) MX) dI)))) (aW (gQ 8 (fo 1 [7,0,1] (lK (cc (aa (rS 6) aA) .list)) (Cv (fR (g2 (rB 0) (rB 1) (Ee true))) (fR (g2 (dz 3 a_ (aa (rS 2) (aa (g2 (rB 3) (kI 14) dI) (aa (kI 4) aA)))) (kI 0) (kP false)))) (rS 0))) (aW (gQ 9 (fo 1 [6,0,1] (lK (cc (aa (rS 4) aA) .list)) (Cv (fR (g2 (rB 0) (rB 1) (kP true))) (fR (g2 (dz 3 a_ (aa (rS 2) (aa (g2 (rB 3) (kI 15) dI) (aa (kI 3) aA)))) (kI 0) (kP false)))) (rS 0))) (aW (W0 8 (W0 9 (gQ 10 (fo 1 [] (lK (cc (aa (rS 7) (aa (rS 8) (aa (cc (aa (rS 6) aA) .list) (aa (rS 9) aA)))) .tuple)) kT (c6 (aa (l8 (pC (rB 0))) aA) (iK i0)))))) (cg (cc (aa (rS 3) (aa (g2 (rB 10) (kI 0) aU) (aa (g2 (rB 10) (kI 1) aU) (aa (g2 (rB 10) (kI 2) aU) (aa (g2 (rB 10) (kI 3) aU) (aa (dz 3 a_ (aa (rS 0) (aa (rS 1) (aa (kI 5) aA)))) aA)))))) .tuple)))))))))
def pK:List D->R D:=e_ 11 pJ
def iT:av->R Fl:=(aW (dY (Cv (fR (g2 (rB 2) (cc aA .tuple) (kP true))) (fR (g2 (dz 3 a_ (aa (rS 0) (aa (kI 97) (aa (kI 2) aA)))) (kI 0) (kP false)))) (cg (dz 4 pK (aa (rS 0) (aa (rS 1) (aa (rS 2) (aa (rS 3) aA)))))) (fun ρ=>.ok (.nx ρ))) (aW (Qj 4) (aW (qr (GP (aa (rS 2) aA)) (ms 2 (cC (bX 5) (cC (bX 6) o9))) (aW (fY 7 (dz 3 a_ (aa (rS 0) (aa (g2 (g2 (rB 1) (kI 10) dI) (rB 5) dI) (aa (kI 8) aA))))) (aW (dY (fR (g2 (rB 7) (kI 3) GL)) (oO 4 (g2 (cc (aa (kI 0) (aa (kI 0) (aa (kI 1) aA))) .list) (rB 7) aU) (rS 6)) (fun ρ=>.ok (.nx ρ))) (aW (fY 7 (dz 3 a_ (aa (rS 0) (aa (g2 (g2 (rB 1) (kI 20) dI) (rB 5) dI) (aa (kI 8) aA))))) (dY (fR (g2 (rB 7) (kI 4) GL)) (oO 4 (g2 (cc (aa (kI 2) (aa (kI 2) (aa (kI 3) (aa (kI 3) aA)))) .list) (rB 7) aU) (rS 6)) (fun ρ=>.ok (.nx ρ))))))) (aW (fun ρ=>(gQ 8 (fo 1 [] (lK (rB 4)) kT (c6 (aa (rB 0) aA) (iK i0)))) (dB ρ)) (cg (cc (aa (rS 3) (aa (g2 (rB 8) (kI 0) aU) (aa (g2 (rB 8) (kI 1) aU) (aa (g2 (rB 8) (kI 2) aU) (aa (g2 (rB 8) (kI 3) aU) (aa (dz 3 a_ (aa (rS 0) (aa (rS 1) (aa (kI 5) aA)))) aA)))))) .tuple))))))
def iU:List D->R D:=e_ 9 iT
def mC:av->R Fl:=(aW (fY 4 (dz 3 nA (aa (rS 0) (aa (rS 1) (aa (rS 2) aA))))) (aW (gQ 5 (fun _=>.ok (.dict []))) (aW (qr (v3 (aa (dz 3 a_ (aa (rS 0) (aa (g2 (rB 1) (kI 60) dI) (aa (g2 (rB 3) (kI 1) dI) aA)))) aA)) (bX 6) (aW (fY 7 (dz 2 kx (aa (rS 0) (aa (g2 (g2 (rB 1) (kI 70) dI) (g2 (kI 40) (rB 6) uZ) dI) aA)))) (CJ 5 (rS 7) (dz 4 iU (aa (rS 0) (aa (g2 (g2 (rB 1) (kI 80) dI) (g2 (kI 40) (rB 6) uZ) dI) (aa (rS 4) (aa (rS 7) aA)))))))) (aW (fY 8 (c6 (aa (rB 5) aA) (iK jT))) (aW (fY 9 (dz 3 a_ (aa (rS 0) (aa (g2 (rB 1) (kI 61) dI) (aa (g2 (c6 (aa (rB 8) aA) (iK j7)) (kI 1) dI) aA))))) (cg (cc (aa (rS 4) (aa (c6 (aa (fo 1 [5] (lK (g2 (LC (rB 8) (IH (rS 9)) N0) (LC (rB 8) N0 (IH (rS 9))) dI)) kT (g2 (rB 1) (rB 0) aU)) aA) (iK i0)) aA)) .tuple)))))))
def mD:List D->R D:=e_ 10 mC
def mE:av->R Fl:=(aW (gQ 3 (cc aA .list)) (aW (gQ 4 (cc aA .list)) (aW (qr (GP (aa (rS 2) aA)) (ms 2 (cC (bX 5) (cC (bX 6) o9))) (aW (fY 7 (dz 3 a_ (aa (rS 0) (aa (g2 (rB 1) (rB 5) dI) (aa (kI 8) aA))))) (dY (fR (g2 (rB 7) (kI 2) GL)) (pB 3 (rS 6)) (dY (fR (g2 (rB 7) (kI 2) (kP false))) (pB 4 (rS 6)) (fun ρ=>.ok (.nx ρ)))))) (cg (cc (aa (c6 (aa (rB 3) aA) (iK i0)) (aa (c6 (aa (rB 4) aA) (iK i0)) aA)) .tuple)))))
def tZ:List D->R D:=e_ 8 mE
def pL:av->R Fl:=(aW (fY 3 (dz 4 mD (aa (rS 0) (aa (kI 100) (aa (rS 1) (aa (rS 2) aA)))))) (aW (fY 4 (dz 4 pI (aa (rS 0) (aa (kI 20) (aa (g2 (rB 3) (kI 0) aU) (aa (g2 (cc (aa (kI 2) (aa (kI 4) aA)) .list) (dz 3 a_ (aa (rS 0) (aa (kI 97) (aa (kI 2) aA)))) aU) aA)))))) (cg (cc (aa (rS 3) (aa (rS 4) (aa (dz 3 tZ (aa (rS 0) (aa (kI 30) (aa (g2 (rB 3) (kI 0) aU) aA)))) aA))) .tuple))))
def mF:List D->R D:=e_ 5 pL
def pM:av->R Fl:=(cg (qR (c6 (aa (fo 1 [0] (lK (g2 (rB 1) (kI 0) aU)) kT (g2 (rB 0) (rB 1) (Ee false))) aA) (iK (gX fun bs=>bs.all id))) (Bg (c6 (aa (fo 1 [0] (lK (g2 (rB 1) (kI 1) aU)) kT (g2 (rB 0) (rB 1) (Ee false))) aA) (iK (gX fun bs=>bs.any id))))))
def mG:List D->R D:=e_ 2 pM
def pO:av->R Fl:=(aW (dY (jk (fR (dz 2 mG (aa (rS 1) (aa (LC (rB 0) (IH (kI 1)) (IH (kI 3))) aA))))) (cg kN) (fun ρ=>.ok (.nx ρ))) (aW (gQ 2 (fo 1 [0] (lK (rB 1)) (fR (g2 (rB 0) (g2 (rB 1) (kI 4) aU) (Ee true))) (rS 0))) (cg (c6 (aa (l8 (pC (g2 (rB 2) (c6 (aa (g2 (rB 0) (kI 3) aU) aA) (iK jT)) dI))) aA) (iK i0)))))
def fe:List D->R D:=e_ 3 pO
def pP:av->R Fl:=(aW (gQ 5 (cc aA .list)) (aW (qr (v3 (aa (rB 4) aA)) (bX 6) (aW (gQ 7 (fo 1 [3] (lK (g2 (rB 2) (kI 1) aU)) (fR (g2 (dz 2 fe (aa (rS 0) (aa (rS 1) aA))) kN (Bl true))) (rS 0))) (aW (dY (fR (g2 (rB 7) (cc aA .list) (kP false))) (cg (rS 5)) (fun ρ=>.ok (.nx ρ))) (aW (fY 8 (g2 (rB 7) (dz 3 a_ (aa (rS 0) (aa (g2 (rB 1) (rB 6) dI) (aa (c6 (aa (rB 7) aA) (iK j7)) aA)))) aU)) (aW (pB 5 (g2 (rB 8) (kI 0) aU)) (fY 3 (dz 2 fe (aa (rS 8) (aa (rS 3) aA))))))))) (cg (rS 5))))
def mH:List D->R D:=e_ 9 pP
def lP:av->R Fl:=(aW (gQ 3 (xW (fo 1 [] (lK (g2 (rB 0) (kI 1) aU)) kT (cc (aa (g2 (rB 0) (kI 0) aU) (aa (rS 0) aA)) .tuple)))) (aW (gQ 4 (cc (aa (rS 1) aA) .list)) (aW (qr (Jb (aa (rS 2) aA)) (ms 2 (cC (bX 5) (cC (bX 6) o9))) (aW (fY 7 (dz 2 fe (aa (g2 (rB 3) (rB 6) aU) (aa (g2 (rB 4) (r9 (kI 1)) aU) aA)))) (aW (dY (fR (g2 (rB 7) kN (Bl false))) (cg (rS 5)) (fun ρ=>.ok (.nx ρ))) (pB 4 (rS 7))))) (cg (rS 4)))))
def iV:List D->R D:=e_ 8 lP
def pQ:av->R Fl:=(aW (fY 4 (dz 3 iV (aa (rS 0) (aa (rS 1) (aa (rS 3) aA))))) (cg (qR (Bg (qW (rB 4) "int")) (dz 2 mG (aa (g2 (rB 4) (r9 (kI 1)) aU) (aa (rS 2) aA))))))
def kz:List D->R D:=e_ 5 pQ
def i8:av->R Fl:=(aW (gQ 3 (cc (aa kN (aa (c6 (aa (rB 2) aA) (iK jT)) (aa (cc (aa (fun _=>.ok (.str "zzzzz")) aA) .tuple) (aa (g2 (rB 2) (cc (aa (fun _=>.ok (.str "zzzzz")) aA) .tuple) dI) (aa (cc (aa (kI 1) aA) .tuple) (aa (kI 0) (aa (fun _=>.ok (.str "a")) (aa (cc (aa (fun _=>.ok (.str "")) aA) .tuple) (aa (cc (aa kN aA) .tuple) aA))))))))) .list)) (aW (dY (fR (g2 (rB 2) (cc aA .tuple) (kP true))) (CL 3 (cc (aa (g2 (rB 2) (rB 2) dI) (aa (g2 (LC (rB 2) N0 (IH (kI 1))) (LC (rB 2) N0 (IH (kI 1))) dI) (aa (cc (aa (g2 (rB 2) (kI 0) aU) (aa (kI 0) aA)) .tuple) aA))) .list)) (fun ρ=>.ok (.nx ρ))) (aW (dY (fR (g2 (c6 (aa (rB 2) aA) (iK j7)) (kI 1) Q7)) (CL 3 (Qv 3 (aa (Qw (rB 2)) aA))) (fun ρ=>.ok (.nx ρ))) (cg (g2 (rB 3) (dz 3 a_ (aa (rS 0) (aa (rS 1) (aa (c6 (aa (rB 3) aA) (iK j7)) aA)))) aU)))))
def lA:List D->R D:=e_ 4 i8
def iI:av->R Fl:=(aW (fY 3 (dz 3 lA (aa (rS 0) (aa (g2 (rB 1) (kI 1) dI) (aa (rS 2) aA))))) (aW (gQ 4 (cc (aa kN (aa (cc (aa (cc aA .tuple) aA) .tuple) (aa (cc (aa (cc aA .tuple) (aa (cc aA .tuple) aA)) .list) (aa (cc (aa (cc aA .tuple) (aa (cc aA .tuple) (aa (cc aA .tuple) aA))) .tuple) (aa (cc (aa (rS 3) (aa (cc aA .tuple) aA)) .tuple) (aa (cc (aa (cc aA .tuple) (aa (rS 3) aA)) .tuple) (aa (cc (aa (rS 3) (aa (cc aA .tuple) aA)) .tuple) (aa (cc (aa (cc aA .tuple) (aa (rS 3) aA)) .tuple) (aa (kI 0) aA))))))))) .list)) (aW (dY (fR (g2 (rB 2) (cc aA .tuple) (kP true))) (CL 4 (cc (aa (cc (aa (rS 2) (aa (LC (rB 2) N0 (IH (kI 1))) aA)) .tuple) (aa (cc (aa (LC (rB 2) N0 (IH (kI 1))) (aa (rS 2) aA)) .tuple) aA)) .list)) (fun ρ=>.ok (.nx ρ))) (cg (g2 (rB 4) (dz 3 a_ (aa (rS 0) (aa (rS 1) (aa (c6 (aa (rB 4) aA) (iK j7)) aA)))) aU)))))
def j_:List D->R D:=e_ 5 iI
def j9:av->R Fl:=(aW (gQ 3 (fo 1 [] (lK (g2 (rB 2) (kI 1) aU)) kT (g2 (rB 0) (kI 0) aU))) (aW (gQ 4 (cc (aa kN (aa (c6 (aa (rB 3) aA) (iK i0)) (aa (g2 (rB 3) (cc (aa (fun _=>.ok (.str "zzzzz")) aA) .list) dI) (aa (cc (aa (fun _=>.ok (.str "zzzzz")) aA) .list) (aa (cc (aa kN aA) .list) (aa (cc (aa (cc (aa (fun _=>.ok (.str "a")) aA) .list) aA) .list) (aa (fun _=>.ok (.str "a")) (aa (kI 0) (aa (cc (aa (kI 1) aA) .list) aA))))))))) .list)) (aW (dY (fR (g2 (rB 3) (cc aA .list) (kP true))) (CL 4 (cc (aa (zj 65 (rB 3) N0 (IH (kI 1))) (aa (cc (aa (g2 (rB 3) (kI 0) aU) aA) .tuple) aA)) .list)) (fun ρ=>.ok (.nx ρ))) (cg (g2 (rB 4) (dz 3 a_ (aa (rS 0) (aa (rS 1) (aa (c6 (aa (rB 4) aA) (iK j7)) aA)))) aU)))))
def kY:List D->R D:=e_ 5 j9
def Jd:av->R Fl:=(aW (yP (dz 3 mF (aa (rS 0) (aa (kI 5) (aa (kI 6) aA)))) (ms 3 (cC (bX 1) (cC (bX 2) (cC (bX 3) o9))))) (aW (gQ 4 (fo 1 [] (lK (g2 (rB 1) (kI 1) aU)) kT (g2 (rB 0) (kI 0) aU))) (aW (qr (v3 (aa (kI 4) aA)) (bX 5) (aW (fY 6 (dz 5 mH (aa (rS 0) (aa (g2 (kI 300) (g2 (kI 40) (rB 5) uZ) dI) (aa (rS 1) (aa (rS 2) (aa (dz 3 a_ (aa (rS 0) (aa (rS 5) (aa (kI 7) aA)))) aA))))))) (aW (dY (Cv (fR (g2 (rB 4) (cc aA .list) (kP true))) (fR (g2 (rB 5) (kI 3) (kP false)))) (fY 6 (g2 (rB 6) (cc (aa (g2 (rB 4) (dz 3 a_ (aa (rS 0) (aa (kI 5) (aa (c6 (aa (rB 4) aA) (iK j7)) aA)))) aU) aA) .list) dI)) (fun ρ=>.ok (.nx ρ))) (aW (fY 7 (dz 4 (qj H9 fL) (aa (rS 1) (aa (rS 2) (aa (rS 3) (aa (rS 6) aA)))))) (dY (FW (jk (fR (qW (rB 7) "bool"))) (fR (g2 (rB 7) (dz 4 kz (aa (rS 1) (aa (rS 2) (aa (rS 3) (aa (rS 6) aA))))) (kP true)))) (cg (kB false)) (fun ρ=>.ok (.nx ρ))))))) (aW (dY (fR (g2 (dz 4 (qj H9 fL) (aa (rS 1) (aa (rS 2) (aa (rS 3) (aa (dz 3 kY (aa (rS 0) (aa (kI 6) (aa (rS 1) aA)))) aA))))) (cc (aa (fun _=>.ok (.str "refused")) (aa (kI 4) aA)) .tuple) (kP true))) (cg (kB false)) (fun ρ=>.ok (.nx ρ))) (cg (g2 (dz 4 (qj H9 fL) (aa (rS 1) (aa (rS 2) (aa (dz 3 j_ (aa (rS 0) (aa (kI 8) (aa (g2 (rB 1) (kI 0) aU) aA)))) (aa kN aA))))) (cc (aa (fun _=>.ok (.str "refused")) (aa (kI 2) aA)) .tuple) (kP false)))))))
def F_law:List D->R D:=e_ 8 Jd
end
end Z
section
set_option hygiene false
namespace Z
open PySem L2 J
local macro_rules | `(tactic| walk_at "zz") => `(tactic| simp only [Vh, Tu, Vi, Vj, Vk, zd, rg, Eu, UX, Nh, Ni, RG, UY, IP, Ev, IQ, Ew, Ex, Ey, Nj, Nk, Nl, IR, Nm, IS, U_, RI, RJ, No, RK, Np, RL, V2, Nq, RM, Nr, IT, Nt, IU, IV, Nu, Nv, Nw, Nz, Ez, EA, RP, NA, IW, NB, V6, RS, RT, NC, RU, ND, NE, RV, RW, NF, Va, NG, NH, RX, RY, NI, Tf, NJ, RZ, R_, NK, IX, IY, S2, Bo, Bp, Br, NM, Vc, NO, NQ, NR, NS, NT, NU, Bt, CM, UV, UW, dI, uZ, Kl, MX, GJ, GL, Rv, Q7, Km, j7, aR, ef, aO, bx, ay, OW, eA, cU, JU, vH, vI, Nat.reduceSub, Nat.reduceAdd, Pk, Pl, Nat.sub_self, if_true, if_false, ite_true, ite_false, c8, decide_true, decide_false, cond_true, cond_false, pc, hJ, ar, eB, Gi, Int.reduceLE, Int.reduceAdd, Int.reduceMul, Nat.reduceLT, Int.reduceNeg, reduceIte])
local macro_rules | `(tactic| walk_at "yy") => `(tactic| simp only [Vh, Tu, Vi, Vj, Vk, zd, rg, Eu, RG, UY, IP, Ev, IQ, Ew, Ex, Ey, Nj, Nk, Nl, IR, Nm, IS, U_, RI, RJ, No, RK, Np, RL, V2, Nq, RM, Nr, IT, Nt, IU, IV, Nu, Nv, Nw, Nz, Ez, EA, RP, NA, IW, NB, V6, RS, RT, NC, RU, ND, NE, RV, RW, NF, Va, NG, NH, RX, RY, NI, Tf, NJ, RZ, R_, NK, IX, IY, S2, Bo, Bp, Br, NM, Vc, NO, NQ, NR, NS, NT, NU, Bt, CM, UV, UW, dI, j7, aR, ef, aO, bx, ay, OW, eA, cU, JU, vH, vI, Nat.reduceSub, Nat.reduceAdd, Pk, Pl, Nat.sub_self, if_true, if_false, ite_true, ite_false, c8, decide_true, decide_false, cond_true, cond_false, pc, hJ, ar, eB, Gi, Int.reduceLE, Int.reduceAdd, Int.reduceMul, Nat.reduceLT, Int.reduceNeg, reduceIte])
theorem bS {n:Nat}{g:av->R Fl}{ds:List D}{d:D} (h:g (bd n ds)=.ok (.rt d)):e_ n g ds=.ok d:=by unfold e_;rw [h]
theorem zk {n:Nat}{g:av->R Fl}{ds:List D}{c:Str}{m:Option D} (h:g (bd n ds)=.ex c m):e_ n g ds=.ex c m:=by unfold e_;rw [h]
def Je (ns:List Int) (k:Int):Int:=if k<ns.length then ns.getD k.toNat 0 else if ns=[] then 0 else ns.getD (k % ns.length).toNat 0 * 31 + k
theorem Oa (ns:List Int):bV (ns.map .int)=true:=by
 induction ns with
 | nil=>rfl
 | cons x r ih=>simp [bV,fQ,ih]
theorem QE (ns:List Int):bG (.list (ns.map .int)) (.list [])=decide (ns=[]):=by
 cases ns with
 | nil=>rfl
 | cons x r=>simp [bG,AY]
theorem Tv (ns:List Int):kP false (.list (ns.map .int)) (.list [])=.ok (.bool (decide (ns=[]))):=by
 unfold kP
 have h1:(hX (ns.map .int)).canLay0=true:=by simp only [fQ];exact Oa ns
 have h2:(hX []).canLay0=true:=rfl
 have h3:min (hX (ns.map .int)).depth (hX []).depth<=60:=bJ (qm _ _) (by decide)
 rw [h1,h2,decide_eq_true h3,QE]
 rfl
theorem Tw (ns:List Int) (k:Int) (h0:0<=k) (h1:k<ns.length):DP (ns.map eL) k=some (.int (ns.getD k.toNat 0)):=by
 have hk:k.toNat<ns.length:=by omega
 have:=rQ (xs:=ns.map eL) (j:=k.toNat) (v:=.int (ns.getD k.toNat 0)) (by rw [aS,aZ hk];simp [hk])
 rwa [fv h0] at this
theorem Ob (ns:List Int) (k:Int) (h0:0<=k) (h1:k<ns.length):aU (.list (ns.map .int)) (.int k)=.ok (.int (ns.getD k.toNat 0)):=by
 have e:∀ xs k,aU (.list xs) k=CB (.list xs) k:=fun _ _=>rfl
 rw [e]
 unfold CB
 simp only [Tw ns k h0 h1]
theorem Jf {i j:Int} (h1:-(2 ^ 64)<j) (h2:j<2 ^ 64):Bh i j=true:=by
 unfold Bh
 simp only [jB,aP,decide_eq_true_eq]
 exact .inr ⟨h1,h2⟩
theorem nC {i j:Int} (h1:-(2 ^ 64)<i) (h2:i<2 ^ 64):Bh i j=true:=by
 unfold Bh
 simp only [jB,aP,decide_eq_true_eq]
 exact .inl ⟨h1,h2⟩
theorem QF (ns:List Int) (k:Int) (hk:0<=k):kX [.list (ns.map .int),.int k]=.ok (.int (Je ns k)):=by
 unfold kX
 refine bS ?_
 unfold kW bd Je
 walk_at "zz"
 by_cases h:k<ns.length
 ·simp only [h,decide_true,cond_true,if_true,Ob ns k hk h,bind_ok]
  walk_at "zz"
 ·simp only [h,decide_false,cond_false,if_false]
  walk_at "zz"
  rw [Tv]
  walk_at "zz"
  by_cases h2:ns=[]
  ·simp only [h2,decide_true,cond_true,if_true]
   walk_at "zz"
  ·have hl:(0:Int)<ns.length:=by have:0<ns.length:=List.length_pos_iff.mpr h2;omega
   simp only [h2,decide_false,cond_false,if_false,hl,decide_true]
   walk_at "zz"
   simp only [h2,decide_false,cond_false,if_false,hl,decide_true,if_true]
   walk_at "zz"
   rw [Ob ns _ (rO _ (by omega)) (nZ _ hl)]
   walk_at "zz"
   rw [Jf (by decide) (by decide)]
   walk_at "zz"
def zm (ns:List Int) (k:Int):Int:=(Je ns k + 7919 * k + 1) * 48271 % 2147483647
def fg (ns:List Int) (k m:Int):Int:=(zm ns k * zm ns k + 7 * zm ns k + k) % 2147483629 % m
theorem e6 (ns:List Int) (k m:Int) (h:0<m):0<=fg ns k m:=rO _ (by omega)
theorem eS (ns:List Int) (k m:Int) (h:0<m):fg ns k m<m:=nZ _ h
theorem e7 (ns:List Int) (k m:Int) (hk:0<=k) (hm:0<m):a_ [.list (ns.map .int),.int k,.int m]=.ok (.int (fg ns k m)):=by
 have d0:0<=zm ns k:=rO _ (by decide)
 have d1:zm ns k<2147483647:=nZ _ (by decide)
 unfold a_
 refine bS ?_
 unfold ny bd
 walk_at "zz"
 rw [QF ns k hk]
 walk_at "zz"
 rw [nC (by decide) (by decide)]
 walk_at "zz"
 rw [Jf (by decide) (by decide)]
 walk_at "zz"
 rw [show (Je ns k + 7919 * k + 1) * 48271 % 2147483647=zm ns k from rfl,nC (i:=zm ns k) (by omega) (by omega)]
 walk_at "zz"
 rw [nC (i:=7) (by decide) (by decide)]
 walk_at "zz"
 rw [decide_eq_true hm]
 walk_at "zz"
 rfl
theorem rj {α β:Type}{kt:D->av->R av}{gb:av->R Fl} (c:α->D) (f:β->α->β) (P:List α->β->av->Prop) (h:∀ x bK b ρ,P (x::bK) b ρ->∃ ρ1 ρ',kt (c x) ρ=.ok ρ1/\gb ρ1=.ok (.nx ρ')/\P bK (f b x) ρ') :
  ∀ (xs:List α) (b:β) (ρ:av),P xs b ρ->∃ ρ',iO kt gb (xs.map c) ρ=.ok (.nx ρ')/\P [] (xs.foldl f b) ρ'
 | [],b,ρ,p=>⟨ρ,rfl,p⟩
 | x::r,b,ρ,p=>by
  obtain ⟨ρ1,ρ2,h1,h2,h3⟩:=h x r b ρ p
  obtain ⟨ρ3,h4,h5⟩:=rj c f P h r (f b x) ρ2 h3
  refine ⟨ρ3,?_,h5⟩
  rw [aR]
  unfold iO
  rw [h1]
  simp only [h2]
  exact h4
theorem CU {α β:Type}{kt:D->av->R av}{gb hh:av->R Fl}{r:R Fl} (c:α->D) (f:β->α->β) (P:List α->β->av->Prop) {xs:List α} (b:β) {ρ:av}
  (h:∀ x bK b ρ,P (x::bK) b ρ->∃ ρ1 ρ',kt (c x) ρ=.ok ρ1/\gb ρ1=.ok (.nx ρ')/\P bK (f b x) ρ') (p0:P xs b ρ) (k:∀ ρ',P [] (xs.foldl f b) ρ'->hh ρ'=r):(iO kt gb (xs.map c) ρ).bind (GV hh)=r:=by
 obtain ⟨ρ',e,p⟩:=rj c f P h xs b ρ p0
 rw [e,bind_ok,rg]
 exact k ρ' p
theorem vf (n:Nat) (h:n<=1000):GO [.int (n:Int)]=.ok ((bt n).map fun (i:Nat)=>eL (i:Int)):=by
 have e:GO [.int (n:Int)]=.ok (qZ 0 (n:Int).toNat):=Qq (by omega) (by omega)
 rw [e]
 unfold qZ
 rw [kj]
 exact congrArg R.ok (uB fun a _=>congrArg eL (Int.zero_add _))
def t_ (x:Str):Bool:=decide (1<=x.cps.size) && decide (x.cps.size<=6/\x.cps.size≠5) && x.cps.toList.all fun c=>decide (97<=c) && decide (c<=122)
def t4 (ns:List Int) (k:Int):Nat:=[1,2,3,6,1,4].getD (fg ns k 6).toNat 0
def CV (ns:List Int) (k:Int) (i:Nat):Nat:=97 + (fg ns (k + 1 + i) 26).toNat
def le (ns:List Int) (k:Int):Str:=⟨((bt (t4 ns k)).map (CV ns k)).toArray⟩
theorem Jg (ns:List Int) (k:Int):1<=t4 ns k/\(t4 ns k<=6/\t4 ns k≠5):=by
 have h0:=e6 ns k 6 (by decide)
 have h1:=eS ns k 6 (by decide)
 unfold t4
 have:∀ j:_root_.Fin 6,1<=[1,2,3,6,1,4].getD j.val 0/\([1,2,3,6,1,4].getD j.val 0<=6/\[1,2,3,6,1,4].getD j.val 0≠5):=by decide
 exact this ⟨(fg ns k 6).toNat,by omega⟩
theorem QG (ns:List Int) (k:Int) (i:Nat):97<=CV ns k i/\CV ns k i<=122:=by
 have h0:=e6 ns (k + 1 + i) 26 (by decide)
 have h1:=eS ns (k + 1 + i) 26 (by decide)
 unfold CV
 omega
theorem EK (ns:List Int) (k:Int):t_ (le ns k)=true:=by
 have ⟨h1,h2⟩:=Jg ns k
 unfold t_ le
 simp only [aH,ay,eg,aP,decide_eq_true_eq,cR]
 refine ⟨⟨h1,h2⟩,fun c hc=>?_⟩
 obtain ⟨i,_,rfl⟩:=List.mem_map.mp hc
 exact QG ns k i
theorem Oc (j:Int) (h0:0<=j) (h1:j<26):aU (.str "abcdefghijklmnopqrstuvwxyz") (.int j)=.ok (.str ⟨#[97 + j.toNat]⟩):=by
 have e:∀ x k,aU (.str x) k=CB (.str x) k:=fun _ _=>rfl
 rw [e]
 unfold CB
 have hc:("abcdefghijklmnopqrstuvwxyz" : Str).cps.toList=(bt 26).map (97 + ·):=by decide +kernel
 have hl:("abcdefghijklmnopqrstuvwxyz" : Str).length<=1000:=by decide +kernel
 have hj:j.toNat<26:=by omega
 have hx:=rQ (xs:=(bt 26).map (97 + ·)) (j:=j.toNat) (v:=97 + j.toNat) (by rw [aS,JM hj];rfl)
 rw [fv h0] at hx
 simp only [hl,if_true,hc,hx]
theorem QH (j:Int) (h0:0<=j) (h1:j<6):aU (.list [.int 1,.int 2,.int 3,.int 6,.int 1,.int 4]) (.int j)=.ok (.int (([1,2,3,6,1,4].getD j.toNat 0:Nat):Int)):=by
 obtain ⟨n,rfl⟩:=k8 h0
 have hn:n<6:=by omega
 match n,hn with
 | 0,_=>rfl
 | 1,_=>rfl
 | 2,_=>rfl
 | 3,_=>rfl
 | 4,_=>rfl
 | 5,_=>rfl
theorem CW (l:List Nat):∀ (acc:Str),l.foldl (fun (a:Str) c=>a++⟨#[c]⟩) acc=⟨(acc.cps.toList++l).toArray⟩:=by
 induction l with
 | nil=>intro acc;simp
 | cons c r ih =>
  intro acc
  rw [lW,ih]
  show (⟨((acc.cps++#[c]).toList++r).toArray⟩:Str)=_
  simp
theorem KH:("" : Str).cps.toList=[]:=by decide +kernel
theorem Jh (ns:List Int) (k:Int) (hk:0<=k):kx [.list (ns.map .int),.int k]=.ok (.str (le ns k)):=by
 have h0:=e6 ns k 6 (by decide)
 have h1:=eS ns k 6 (by decide)
 have ⟨w1,w2⟩:=Jg ns k
 unfold kx
 refine bS ?_
 unfold pG bd
 walk_at "zz"
 rw [rh (ds:=(bt (t4 ns k)).map fun (i:Nat)=>eL i)]
 ·refine CU (fun (i:Nat)=>eL i) (fun (a:Str) i=>a++⟨#[CV ns k i]⟩) (fun bK a ρ=>a.length + bK.length<=900/\∃ z,ρ=[.shr (.list (ns.map .int)),.shr (.int k),.shr (.str a),z]) "" ?_ ⟨by rw [eg,show ("" : Str).length=0 by decide];omega,_,rfl⟩ ?_
  ·rintro i bK a ρ ⟨hl,z,rfl⟩
   simp only [aO] at hl
   refine ⟨_,[.shr (.list (ns.map .int)),.shr (.int k),.shr (.str (a++⟨#[CV ns k i]⟩)),.shr (.int i)],rfl,?_,?_,_,rfl⟩
   ·walk_at "zz"
    rw [e7 ns _ 26 (by omega) (by decide)]
    walk_at "zz"
    rw [Oc _ (e6 _ _ _ (by decide)) (eS _ _ _ (by decide))]
    walk_at "zz"
    have hz:a.length + (⟨#[97 + (fg ns (k + 1 + i) 26).toNat]⟩:Str).length<=1000:=by
     show a.length + 1<=1000
     omega
    rw [if_pos hz]
    walk_at "zz"
    rw [show 97 + (fg ns (k + 1 + i) 26).toNat=CV ns k i from rfl]
   ·show (a.cps++#[_]).size + bK.length<=900
    rw [Lz]
    show a.cps.size + 1 + bK.length<=900
    have:a.length=a.cps.size:=rfl
    omega
  ·rintro ρ' ⟨_,z,rfl⟩
   walk_at "zz"
   have:(bt (t4 ns k)).foldl (fun (a:Str) i=>a++⟨#[CV ns k i]⟩) ""=le ns k:=by
    have:=CW ((bt (t4 ns k)).map (CV ns k)) ""
    rw [sW] at this
    rw [this,KH]
    unfold le
    rw [eA]
   rw [this]
 ·walk_at "zz"
  rw [e7 ns k 6 hk (by decide)]
  walk_at "zz"
  have et:=QH (fg ns k 6) h0 h1
  have ew:[1,2,3,6,1,4].getD (fg ns k 6).toNat 0=t4 ns k:=rfl
  rw [ew] at et
  rw [et]
  walk_at "zz"
  rw [vf (t4 ns k) (by omega)]
def iq (l:List (Str×D)):List (D×D):=l.map fun p=>(.str p.1,p.2)
def sL (l:List (Str×D)) (x:Str) (d:D):List (Str×D):=if l.any (fun p=>decide (p.1=x)) then l.map (fun p=>if p.1=x then (p.1,d) else p) else l++[(x,d)]
theorem su (x y:Str):bG (.str x) (.str y)=decide (x=y):=by
 show (x == y)=_
 rw [rN]
theorem Ji (l:List (Str×D)) (x:Str) (d:D):Av (iq l) (.str x) d=iq (sL l x d):=by
 unfold Av sL iq
 rw [FS]
 have e:((fun kv:D×D=>bG kv.1 (.str x))∘fun p:Str×D=>(au p.1,p.2))=fun p=>decide (p.1=x):=by
  funext p
  exact su p.1 x
 rw [e]
 split
 ·rw [eZ,eZ]
  apply uB
  intro p _
  simp only [Function.comp,su]
  by_cases h:p.1=x
  ·simp [h]
  ·simp [h]
 ·simp
theorem zo (l:List (Str×D)):i7 (iq l)=true:=by
 unfold i7 iq
 rw [ke,cR]
 intro p _
 rfl
theorem EL (l:List (Str×D)) (x:Str) (d:D):(sL l x d).length<=l.length + 1:=by
 unfold sL
 split<;>simp
theorem BA (l:List (Str×D)) (x:Str) (d:D):(sL l x d).map (·.1)=if x∈l.map (·.1) then l.map (·.1) else l.map (·.1)++[x]:=by
 unfold sL
 have e:(l.any fun p=>decide (p.1=x))=decide (x∈l.map (·.1)):=by
  rw [im]
  simp only [lj,decide_eq_true_eq,List.mem_map]
 rw [e]
 by_cases h:x∈l.map (·.1)
 ·rw [decide_eq_true h,if_pos rfl,if_pos h,eZ]
  apply uB
  intro p _
  by_cases hp:p.1=x<;>simp [hp]
 ·rw [decide_eq_false h,if_neg aN,if_neg h,b_]
  rfl
theorem Od {Q:Str->D->Prop}{l:List (Str×D)}{x:Str}{d:D} (h:∀ p∈l,Q p.1 p.2) (hx:Q x d):∀ p∈sL l x d,Q p.1 p.2:=by
 unfold sL
 split
 ·intro p hp
  obtain ⟨p',hp',rfl⟩:=List.mem_map.mp hp
  by_cases e:p'.1=x
  ·rw [if_pos e];rw [e];exact hx
  ·rw [if_neg e];exact h p' hp'
 ·intro p hp
  rcases List.mem_append.mp hp with hp | hp
  ·exact h p hp
  ·rw [List.mem_singleton.mp hp];exact hx
theorem KI {l:List Str}{x:Str} (h:l.Nodup):(if x∈l then l else l++[x]).Nodup:=by
 by_cases hx:x∈l
 ·rw [if_pos hx];exact h
 ·rw [if_neg hx];exact Ix h hx
theorem S5 {i:Nat}{gk g:av->R D}{ρ:av}{l:List (Str×D)}{x:Str}{d:D} (hi:ρ[i]?=some (Sl.own (.dict (iq l)))) (hg:g ρ=.ok d) (hk:gk ρ=.ok (.str x)) (hl:l.length<1000):CJ i gk g ρ=.ok (.nx (ρ.set i (.own (.dict (iq (sL l x d)))))):=by
 have hl':(iq l).length<1000:=by unfold iq;rw [ay];exact hl
 have e:CJ i gk g ρ=(g ρ).bind fun d=>(gk ρ).bind fun k=>match r6 k with
  | some _=>if (iq l).length<1000/\i7 (iq l)=true then .ok (.nx (ρ.set i (.own (.dict (Av (iq l) k d))))) else .no
  | none=>.no:=by
  unfold CJ
  simp only [hi]
  try rfl
 rw [e,hg,CM,hk,CM]
 simp only [r6,if_pos (yh hl' (zo l)),Ji]
theorem EM (l:List (Str×D)):jT (.dict (iq l))=.ok (.list ((l.map (·.1)).map .str)):=by
 have e:∀ kvs,jT (.dict kvs)=if i7 kvs=true then .ok (.list (kvs.map (·.1))) else .no:=fun _=>rfl
 rw [e,if_pos (zo l)]
 unfold iq
 rw [eZ,eZ]
 rfl
theorem sorted_strs (ss:List Str) (h:ss.length<64):rY (.list (ss.map .str))=.ok (.list ((jO ss).map .str)):=by
 have e:∀ ds,rY (.list ds)=match gJ ds with
  | some ss=>if ss.length<64 then .ok (.list ((jO ss).map .str)) else .no
  | none=>.no:=fun _=>rfl
 rw [e,strsOf_map]
 simp only [if_pos h]
theorem fM (ds:List D):i0 (.list ds)=.ok (.tuple ds):=id rfl
def CY (ns:List Int) (k:Int) (n:Nat):List Str:=(bt n).map fun (i:Nat)=>le ns (k + 1 + 8 * (i:Int))
def CZ (ns:List Int) (k m:Int):List Str:=jO (de [] (CY ns k (fg ns k (m + 1)).toNat))
structure Ha (fs:List Str) (n:Nat):Prop where
 ok:∀ x∈fs,t_ x=true
 up:fs.Pairwise fun a b=>lL a b=true
 len:fs.length<=n
theorem Oe {α:Type}{a b:List α} (h:a.Perm b):a.length=b.length:=h.length_eq
theorem Hb (ns:List Int) (k m:Int) (hm:0<=m):Ha (CZ ns k m) m.toNat:=by
 have h0:=e6 ns k (m + 1) (by omega)
 have h1:=eS ns k (m + 1) (by omega)
 have hp:=h_ (de [] (CY ns k (fg ns k (m + 1)).toNat))
 refine ⟨fun x hx=>?_,?_,?_⟩
 ·have hx:=hp.mem_iff.mp hx
  rw [iN] at hx
  rcases hx with hx | hx
  ·cases hx
  ·obtain ⟨i,_,rfl⟩:=List.mem_map.mp hx
   exact EK _ _
 ·exact w5 (qN _) (hp.nodup_iff.mpr (iD _ [] iY))
 ·unfold CZ
  rw [Oe hp]
  have:=gE (CY ns k (fg ns k (m + 1)).toNat) []
  unfold CY at this ⊢
  simp at this
  omega
theorem KJ (f:Nat->Str) (l:List Nat):∀ acc:List (Str×D),((l.foldl (fun (a:List (Str×D)) i=>sL a (f i) (.bool true)) acc).map (·.1))=de (acc.map (·.1)) (l.map f):=by
 induction l with
 | nil=>intro acc;rfl
 | cons i r ih =>
  intro acc
  rw [lW,ih,aR,BA]
  rfl
theorem Of (ns:List Int) (k m:Int) (hk:0<=k) (hm:0<=m) (hm2:m<=20):nA [.list (ns.map .int),.int k,.int m]=.ok (.tuple ((CZ ns k m).map .str)):=by
 have h0:=e6 ns k (m + 1) (by omega)
 have h1:=eS ns k (m + 1) (by omega)
 unfold nA
 refine bS ?_
 unfold nz bd
 walk_at "zz"
 rw [rh (ds:=(bt (fg ns k (m + 1)).toNat).map fun (i:Nat)=>eL i)]
 ·refine CU (fun (i:Nat)=>eL i) (fun (a:List (Str×D)) i=>sL a (le ns (k + 1 + 8 * (i:Int))) (.bool true)) (fun bK a ρ=>a.length + bK.length<=60/\∃ z,ρ=[.shr (.list (ns.map .int)),.shr (.int k),.shr (.int m),.own (.dict (iq a)),z]) [] ?_ ⟨by simp;omega,_,rfl⟩ ?_
  ·rintro i bK a ρ ⟨hl,z,rfl⟩
   simp only [aO] at hl
   refine ⟨_,[.shr (.list (ns.map .int)),.shr (.int k),.shr (.int m),.own (.dict (iq (sL a (le ns (k + 1 + 8 * (i:Int))) (.bool true)))),.shr (.int i)],rfl,?_,?_,_,rfl⟩
   ·refine (S5 (l:=a) (x:=le ns (k + 1 + 8 * (i:Int))) (d:=.bool true) rfl rfl ?_ (by omega)).trans rfl
    walk_at "zz"
    rw [nC (by decide) (by decide)]
    walk_at "zz"
    rw [Jh ns _ (by omega)]
   ·have:=EL a (le ns (k + 1 + 8 * (i:Int))) (.bool true)
    omega
  ·rintro ρ' ⟨hl,z,rfl⟩
   simp only [bx] at hl
   walk_at "zz"
   rw [EM]
   walk_at "zz"
   have ek:=KJ (fun i=>le ns (k + 1 + 8 * (i:Int))) (bt (fg ns k (m + 1)).toNat) []
   rw [ek,sorted_strs]
   ·walk_at "zz"
    rw [fM]
    walk_at "zz"
    rfl
   ·rw [<- ek,ay];omega
 ·walk_at "zz"
  rw [e7 ns k (m + 1) hk (by omega)]
  walk_at "zz"
  have:=vf (fg ns k (m + 1)).toNat (by omega)
  rw [fv h0] at this
  exact this
structure ft where
 name:Str
 needs:List Str
 bars:List Str
 makes:List Str
 ends:List Str
 price:Int
abbrev aT (xs:List Str):D:=.tuple (xs.map .str)
def cw (e:ft):D:=.tuple [.str e.name,aT e.needs,aT e.bars,aT e.makes,aT e.ends,.int e.price]
structure t5 (fs xs:List Str):Prop where
 up:xs.Pairwise fun a b=>lL a b=true
 mem:∀ x∈xs,x∈fs
structure rl (fs:List Str) (e:ft):Prop where
 name:t_ e.name=true
 needs:t5 fs e.needs
 bars:t5 fs e.bars
 makes:t5 fs e.makes
 ends:t5 fs e.ends
 nb:∀ x∈e.needs,x∉e.bars
 me:∀ x∈e.makes,x∉e.ends
 p0:0<=e.price
 p9:e.price<=9
def DE (xs:List Str):List Str:=jO (de [] xs)
theorem nD {xs:List Str}{x:Str}:x∈DE xs↔x∈xs:=by
 unfold DE
 rw [(h_ _).mem_iff,iN]
 simp
theorem Hc (xs:List Str):(DE xs).Pairwise fun a b=>lL a b=true:=w5 (qN _) ((h_ _).nodup_iff.mpr (iD _ [] iY))
theorem xX {fs xs:List Str} (h:∀ x∈xs,x∈fs):t5 fs (DE xs):=⟨Hc xs,fun x hx=>h x (nD.mp hx)⟩
theorem C_ (fs:List Str) (j:Int) (h0:0<=j) (h1:j<fs.length):∃ x,x∈fs/\aU (aT fs) (.int j)=.ok (.str x):=by
 have hj:j.toNat<fs.length:=by omega
 refine ⟨fs[j.toNat],g_ hj,?_⟩
 have e:∀ xs k,aU (.tuple xs) k=CB (.tuple xs) k:=fun _ _=>rfl
 rw [e]
 have hx:=rQ (xs:=fs.map au) (j:=j.toNat) (v:=.str fs[j.toNat]) (by rw [aS,aZ hj];rfl)
 rw [fv h0] at hx
 unfold CB
 simp only [hx]
theorem zq (x:Str):∀ ys:List Str,((ys.map au).any fun y=>bG y (.str x))=decide (x∈ys)
 | []=>rfl
 | y::r=>by
  rw [aR,fB,zq x r,su]
  by_cases h:y=x
  ·subst h;simp
  ·simp [h,dh h]
theorem zr (ys:List Str):(ys.map au).all lJ=true:=by
 rw [ke,cR];intro _ _;rfl
theorem QI (neg:Bool) (x:Str) (ys:List Str):Ee neg (.str x) (.list (ys.map .str))=.ok (.bool (if neg then !decide (x∈ys) else decide (x∈ys))):=by
 have e:Ee neg (.str x) (.list (ys.map .str))=if lJ (.str x) && (ys.map au).all lJ then .ok (.bool (if neg then !((ys.map au).any fun y=>bG y (.str x)) else (ys.map au).any fun y=>bG y (.str x))) else .no:=rfl
 rw [e,zr,zq]
 rfl
theorem pR (neg:Bool) (x:Str) (ys:List Str):Ee neg (.str x) (aT ys)=.ok (.bool (if neg then !decide (x∈ys) else decide (x∈ys))):=by
 have e:Ee neg (.str x) (aT ys)=if lJ (.str x) && (ys.map au).all lJ then .ok (.bool (if neg then !((ys.map au).any fun y=>bG y (.str x)) else (ys.map au).any fun y=>bG y (.str x))) else .no:=rfl
 rw [e,zr,zq]
 rfl
theorem kA (neg:Bool) (a b:Int):kP neg (.int a) (.int b)=.ok (.bool (if neg then !decide (a=b) else decide (a=b))):=by
 have e:kP neg (.int a) (.int b)=.ok (.bool (if neg then !(a == b) else (a == b))):=rfl
 rw [e,rN]
theorem sv {x:Str} (h:t_ x=true):(au x).canLay0=true:=by
 unfold t_ at h
 simp only [aP,cR,decide_eq_true_eq] at h
 show PyData.strOk x=true
 unfold PyData.strOk
 rw [<- xp,cR]
 intro c hc
 have:=h.2 c hc
 exact decide_eq_true (by omega)
theorem D0 (neg:Bool) {x y:Str} (hx:t_ x=true) (hy:t_ y=true):kP neg (.str x) (.str y)=.ok (.bool (if neg then !decide (x=y) else decide (x=y))):=by
 unfold kP
 rw [sv hx,sv hy,su]
 rfl
theorem zt (ss:List Str) (h:ss.length<60):tW (.list (ss.map .str))=.ok (de [] ss):=by
 have e:∀ ds,tW (.list ds)=match gJ ds with
  | some ss=>if ss.length<60 then .ok (de [] ss) else .no
  | none=>.no:=fun _=>rfl
 rw [e,strsOf_map]
 simp only [if_pos h]
theorem Jj (g:av->R D) (s:Sl) (ρ:av):pC g (s::ρ)=(g (s::ρ)).bind tW:=id rfl
def S6:List Str->R D:=fun ss=>if ss.length<64 then .ok (.list ((jO ss).map .str)) else .no
theorem wg (g:av->R (List Str)) (s:Sl) (ρ:av):l8 g (s::ρ)=(g (s::ρ)).bind S6:=id rfl
theorem zu (ss:List Str) (h:ss.length<64):S6 ss=.ok (.list ((jO ss).map .str)):=if_pos h
theorem KL (ss:List Str) (h:ss.length<60) (ρ:av):(c6 (J.aa (l8 (pC (rB 0))) J.aA) (iK i0)) (.shr (.list (ss.map .str))::ρ)=.ok (aT (DE ss)):=by
 walk_at "zz"
 rw [wg,Jj]
 walk_at "zz"
 rw [zt ss h]
 walk_at "zz"
 rw [zu _ (by have:=gE ss [];simp at this;omega)]
 walk_at "zz"
 rw [fM]
 rfl
theorem EN {ρ:av}{gt:av->R Bool}{x:Str}{b:Bool}{s:Sl}{r:av} (hρ:ρ=s::r) (h:gt (.shr (.str x)::r)=.ok b):i6 (i_ 1 ρ gt (rS 0)) [.str x]=.ok ((if b then [x] else []).map .str):=by
 subst hρ
 have e:=xU (ρ:=s::r) (gt:=gt) (ge:=(rS 0)) (d:=.str x) (y:=.str x) (b:=b) h fun _=>rfl
 unfold i6
 rw [e,CM]
 unfold i6
 rw [CM]
 cases b<;>rfl
theorem Tx (p q r t:List Str) (hp:p.length<60) (hq:q.length<60) (hr:r.length<60) (ht:t.length<60):i6 (i_ 1 [Sl.no] kT (c6 (J.aa (l8 (pC (rB 0))) J.aA) (iK i0))) [.list (p.map .str),.list (q.map .str),.list (r.map .str),.list (t.map .str)]=.ok [aT (DE p),aT (DE q),aT (DE r),aT (DE t)] :=
 cD _ (fun ss:List Str=>hX (ss.map .str)) (fun ss=>aT (DE ss)) [p,q,r,t] fun ss hs=>d_ rfl (KL ss (by simp at hs;rcases hs with h | h | h | h<;>(rw [h];assumption)) _)
theorem S7 (a b c d:D):aU (.list [a,b,c,d]) (.int 0)=.ok a:=id rfl
theorem S8 (a b c d:D):aU (.list [a,b,c,d]) (.int 1)=.ok b:=id rfl
theorem S9 (a b c d:D):aU (.list [a,b,c,d]) (.int 2)=.ok c:=id rfl
theorem Sc (a b c d:D):aU (.list [a,b,c,d]) (.int 3)=.ok d:=id rfl
theorem QJ (ns:List Int) (k:Int) (hk:0<=k) (fs:List Str) (hf:∀ x∈fs,t_ x=true) (h0:0<fs.length) (nm:Str) (hn:t_ nm=true) :
  ∃ e,pK [.list (ns.map .int),.int k,aT fs,.str nm]=.ok (cw e)/\rl fs e/\e.name=nm:=by
 have hl:(0:Int)<(fs.length:Int):=by omega
 obtain ⟨a,ha,ea⟩:=C_ fs (fg ns (k + 10) fs.length) (e6 _ _ _ hl) (eS _ _ _ hl)
 obtain ⟨b,hb,eb⟩:=C_ fs (fg ns (k + 11) fs.length) (e6 _ _ _ hl) (eS _ _ _ hl)
 obtain ⟨c,hc,ec⟩:=C_ fs (fg ns (k + 12) fs.length) (e6 _ _ _ hl) (eS _ _ _ hl)
 have m13a:=e6 ns (k + 13) 3 (by decide)
 have m13b:=eS ns (k + 13) 3 (by decide)
 obtain ⟨nd,hnd,hnl,end_⟩:∃ nd:List Str,(∀ x∈nd,x∈fs)/\nd.length<60/\Au (.list [.str a,.str b]) none (some (1 + fg ns (k + 13) 3 / 2))=.ok (.list (nd.map .str)):=by
  by_cases h2:fg ns (k + 13) 3=2
  ·exact ⟨[a,b],by simp [ha,hb],by simp,by rw [h2];rfl⟩
  ·have:fg ns (k + 13) 3 / 2=0:=by omega
   exact ⟨[a],by simp [ha],by simp,by rw [this];rfl⟩
 let bb:Bool:=!decide (c∈nd) && decide (fg ns (k + 14) 4=0)
 let be:Bool:=!decide (a=c) && decide (fg ns (k + 15) 3=0)
 have p0:=e6 ns k 5 (by decide)
 have p1:=eS ns k 5 (by decide)
 refine ⟨⟨nm,DE nd,DE (if bb then [c] else []),DE [c],DE (if be then [a] else []),fg ns k 5⟩,?_,⟨hn,xX hnd,xX ?_,xX (by simp [hc]),xX ?_,fun x h1 h2=>?_,fun x h1 h2=>?_,p0,by show fg ns k 5<=9;omega⟩,rfl⟩
 ·unfold pK
  refine bS ?_
  unfold pJ bd
  walk_at "zz"
  rw [e7 ns _ _ (by omega) hl]
  walk_at "zz"
  rw [ea]
  walk_at "zz"
  rw [e7 ns (k + 11) _ (by omega) hl]
  walk_at "zz"
  rw [eb]
  walk_at "zz"
  rw [e7 ns (k + 12) _ (by omega) hl]
  walk_at "zz"
  rw [ec]
  walk_at "zz"
  rw [e7 ns (k + 13) 3 (by omega) (by decide)]
  walk_at "zz"
  simp only [Gi,decide_true,lv,if_true]
  walk_at "zz"
  rw [end_]
  walk_at "zz"
  rw [EN (b:=bb) rfl]
  ·walk_at "zz"
   rw [EN (b:=be) rfl]
   ·walk_at "zz"
    simp only [W0]
    rw [NV rfl,NV rfl]
    walk_at "zz"
    have pk:=Tx nd (if bb then [c] else []) [c] (if be then [a] else []) hnl (by cases bb<;>simp) (by simp) (by cases be<;>simp)
    rw [show ([c].map au)=[au c] from rfl] at pk
    rw [pk]
    walk_at "zz"
    rw [S7]
    walk_at "zz"
    rw [S8]
    walk_at "zz"
    rw [S9]
    walk_at "zz"
    rw [Sc]
    walk_at "zz"
    rw [e7 ns k 5 hk (by decide)]
    walk_at "zz"
    rfl
   ·walk_at "zz"
    rw [D0 true (hf a ha) (hf c hc)]
    walk_at "zz"
    by_cases hac:a=c
    ·simp only [be,hac,decide_true,pc,AR,if_true,cond_false]
    ·simp only [be,hac,decide_false,hJ,uI,if_true,cond_true]
     rw [e7 ns (k + 15) 3 (by omega) (by decide)]
     walk_at "zz"
     rw [kA]
     walk_at "zz"
  ·walk_at "zz"
   rw [QI]
   walk_at "zz"
   by_cases hcn:c∈nd
   ·simp only [bb,hcn,decide_true,pc,AR,if_true,cond_false]
   ·simp only [bb,hcn,decide_false,hJ,uI,if_true,cond_true]
    rw [e7 ns (k + 14) 4 (by omega) (by decide)]
    walk_at "zz"
    rw [kA]
    walk_at "zz"
 ·intro x hx
  cases hbb:bb
  ·simp [hbb] at hx
  ·simp [hbb] at hx;rw [hx];exact hc
 ·intro x hx
  cases hbe:be
  ·simp [hbe] at hx
  ·simp [hbe] at hx;rw [hx];exact ha
 ·have h2:x∈(if bb then [c] else []):=nD.mp h2
  cases hbb:bb
  ·simp [hbb] at h2
  ·simp [hbb] at h2
   subst h2
   have:(!decide (x∈nd))=true:=by
    have:(!decide (x∈nd) && decide (fg ns (k + 14) 4=0))=true:=hbb
    simp only [aP] at this
    exact this.1
   simp at this
   exact this (nD.mp h1)
 ·cases hbe:be
  ·have h2:x∈(if be then [a] else []):=nD.mp h2
   simp [hbe] at h2
  ·skip
   have h4:x∈[c]:=nD.mp h1
   have h5:x∈(if be then [a] else []):=nD.mp h2
   simp only [eU] at h4
   simp only [hbe,if_true,eU] at h5
   have:(!decide (a=c) && decide (fg ns (k + 15) 3=0))=true:=hbe
   simp only [aP] at this
   have h3:=this.1
   simp at h3
   exact h3 (h5.symm.trans h4)
theorem D1 {i:Nat}{gi g:av->R D}{ρ:av}{dss:List (List D)}{ds:List D}{d:D}{j:Int} (hi:ρ[i]?=some (Sl.ow2 dss)) (hj:gi ρ=.ok (.int j)) (h0:0<=j) (hd:dss[j.toNat]?=some ds) (hg:g ρ=.ok d) (hl:ds.length<1000):oO i gi g ρ=.ok (.nx (ρ.set i (.ow2 (dss.set j.toNat (ds++[d]))))):=by
 unfold oO
 simp only [hi,hj,bind_ok,if_pos h0,hd,hg,if_pos hl]
def nE (n:Nat):List Str->List (Nat×Str)
 | []=>[]
 | x::r=>(n,x)::nE (n + 1) r
abbrev cI (p:Nat×Str):D:=.tuple [.int (p.1:Nat),.str p.2]
theorem xY:∀ (xs:List Str) (n:Nat),j8 n (xs.map .str)=(nE n xs).map cI
 | [],_=>rfl
 | x::r,n=>by
  show cY [.int n,.str x]::j8 (n + 1) (r.map .str)=cI (n,x)::(nE (n + 1) r).map cI
  rw [xY r (n + 1)]
theorem sw:∀ (xs:List Str) (n:Nat),(nE n xs).map (·.2)=xs
 | [],_=>rfl
 | x::r,n=>by
  show x::(nE (n + 1) r).map (·.2)=x::r
  rw [sw r]
theorem zv:∀ (fs:List Str),(∀ x∈fs,t_ x=true)->bV (fs.map .str)=true
 | [],_=>rfl
 | x::r,h=>by
  have h1:=sv (h x al)
  have h2:=zv r fun y hy=>h y (ao _ hy)
  simp only [aR,bV,h1,h2,lv]
theorem xZ (fs:List Str) (hf:∀ x∈fs,t_ x=true):kP true (aT fs) (.tuple [])=.ok (.bool (!decide (fs=[]))):=by
 unfold kP
 have h1:(aT fs).canLay0=true:=by simp only [fQ];exact zv fs hf
 have h2:(cY []).canLay0=true:=rfl
 have h3:min (aT fs).depth (cY []).depth<=60:=bJ (qm _ _) (by decide)
 have h4:bG (aT fs) (.tuple [])=decide (fs=[]):=by
  cases fs with
  | nil=>rfl
  | cons x r=>simp [bG,AY]
 rw [h1,h2,decide_eq_true h3,h4]
 rfl
structure oh (pre p q:List Str):Prop where
 sp:p.Sublist pre
 sq:q.Sublist pre
 d:∀ x∈p,x∉q
theorem oh.skip {pre p q:List Str} (h:oh pre p q) (x:Str):oh (pre++[x]) p q:=⟨h.sp.trans (jo _ _),h.sq.trans (jo _ _),h.d⟩
theorem oh.left {pre p q:List Str} (h:oh pre p q) (x:Str) (hx:x∉pre):oh (pre++[x]) (p++[x]) q:=⟨h.sp.append (eR _),h.sq.trans (jo _ _),fun y hy hq=>by
 rcases List.mem_append.mp hy with h1 | h1
 ·exact h.d y h1 hq
 ·rw [List.mem_singleton.mp h1] at hq
  exact hx (h.sq.subset hq)⟩
theorem oh.right {pre p q:List Str} (h:oh pre p q) (x:Str) (hx:x∉pre):oh (pre++[x]) p (q++[x]):=⟨h.sp.trans (jo _ _),h.sq.append (eR _),fun y hy hq=>by
 rcases List.mem_append.mp hq with h1 | h1
 ·exact h.d y hy h1
 ·rw [List.mem_singleton.mp h1] at hy
  exact hx (h.sp.subset hy)⟩
abbrev o4 (p q r t:List Str):Sl:=.ow2 [p.map .str,q.map .str,r.map .str,t.map .str]
theorem Vo (j:Int) (h0:0<=j) (h1:j<3):∃ b:Bool,aU (.list [.int 0,.int 0,.int 1]) (.int j)=.ok (.int (if b then 0 else 1)):=by
 have:j=0\/j=1\/j=2:=by omega
 rcases this with h | h | h<;>subst h
 ·exact ⟨true,rfl⟩
 ·exact ⟨true,rfl⟩
 ·exact ⟨false,rfl⟩
theorem Vp (j:Int) (h0:0<=j) (h1:j<4):∃ b:Bool,aU (.list [.int 2,.int 2,.int 3,.int 3]) (.int j)=.ok (.int (if b then 2 else 3)):=by
 have:j=0\/j=1\/j=2\/j=3:=by omega
 rcases this with h | h | h | h<;>subst h
 ·exact ⟨true,rfl⟩
 ·exact ⟨true,rfl⟩
 ·exact ⟨false,rfl⟩
 ·exact ⟨false,rfl⟩
theorem vg (p:List Str) (x:Str):(p++[x]).map au=p.map .str++[.str x]:=by simp
theorem Og {a b c d e f:Sl}{pre p q r t:List Str}{x:Str}{j:Int} (hp:oh pre p q) (hx:x∉pre) (hl:pre.length<900) (h0:0<=j) :
  ∃ p' q',oh (pre++[x]) p' q'/\dY (fR (g2 (rB 7) (kI 3) GL)) (oO 4 (g2 (cc (J.aa (kI 0) (J.aa (kI 0) (J.aa (kI 1) J.aA))) .list) (rB 7) aU) (rS 6)) (fun ρ=>.ok (.nx ρ)) [a,b,c,d,o4 p q r t,e,.shr (.str x),.shr (.int j),f]=.ok (.nx [a,b,c,d,o4 p' q' r t,e,.shr (.str x),.shr (.int j),f]):=by
 by_cases h3:j<3
 ·obtain ⟨bo,e3⟩:=Vo j h0 h3
  have lp:p.length<1000:=by have:=hp.sp.length_le;omega
  have lq:q.length<1000:=by have:=hp.sq.length_le;omega
  cases bo
  ·refine ⟨p,q++[x],hp.right x hx,?_⟩
   walk_at "zz"
   rw [decide_eq_true h3]
   walk_at "zz"
   simp only [o4,vg]
   refine (D1 (j:=1) (ds:=q.map .str) (d:=.str x) rfl ?_ (by decide) rfl rfl (by rw [ay];exact lq)).trans rfl
   walk_at "zz"
   rw [e3]
   rfl
  ·refine ⟨p++[x],q,hp.left x hx,?_⟩
   walk_at "zz"
   rw [decide_eq_true h3]
   walk_at "zz"
   simp only [o4,vg]
   refine (D1 (j:=0) (ds:=p.map .str) (d:=.str x) rfl ?_ (by decide) rfl rfl (by rw [ay];exact lp)).trans rfl
   walk_at "zz"
   rw [e3]
   rfl
 ·refine ⟨p,q,hp.skip x,?_⟩
  walk_at "zz"
  rw [decide_eq_false h3]
  walk_at "zz"
theorem Oh {a b c d e f:Sl}{pre p q r t:List Str}{x:Str}{j:Int} (hp:oh pre r t) (hx:x∉pre) (hl:pre.length<900) (h0:0<=j) :
  ∃ r' t',oh (pre++[x]) r' t'/\dY (fR (g2 (rB 7) (kI 4) GL)) (oO 4 (g2 (cc (J.aa (kI 2) (J.aa (kI 2) (J.aa (kI 3) (J.aa (kI 3) J.aA)))) .list) (rB 7) aU) (rS 6)) (fun ρ=>.ok (.nx ρ)) [a,b,c,d,o4 p q r t,e,.shr (.str x),.shr (.int j),f]=.ok (.nx [a,b,c,d,o4 p q r' t',e,.shr (.str x),.shr (.int j),f]):=by
 by_cases h3:j<4
 ·obtain ⟨bo,e3⟩:=Vp j h0 h3
  have lp:r.length<1000:=by have:=hp.sp.length_le;omega
  have lq:t.length<1000:=by have:=hp.sq.length_le;omega
  cases bo
  ·refine ⟨r,t++[x],hp.right x hx,?_⟩
   walk_at "zz"
   rw [decide_eq_true h3]
   walk_at "zz"
   simp only [o4,vg]
   refine (D1 (j:=3) (ds:=t.map .str) (d:=.str x) rfl ?_ (by decide) rfl rfl (by rw [ay];exact lq)).trans rfl
   walk_at "zz"
   rw [e3]
   rfl
  ·refine ⟨r++[x],t,hp.left x hx,?_⟩
   walk_at "zz"
   rw [decide_eq_true h3]
   walk_at "zz"
   simp only [o4,vg]
   refine (D1 (j:=2) (ds:=r.map .str) (d:=.str x) rfl ?_ (by decide) rfl rfl (by rw [ay];exact lp)).trans rfl
   walk_at "zz"
   rw [e3]
   rfl
 ·refine ⟨r,t,hp.skip x,?_⟩
  walk_at "zz"
  rw [decide_eq_false h3]
  walk_at "zz"
theorem Vq (i:Nat) (ρ:av):Qj i ρ=.ok (.nx ((clear2 ρ).set i (.ow2 [[],[],[],[]]))):=id rfl
theorem oh.sub {fs p q:List Str} (up:fs.Pairwise fun a b=>lL a b=true) (h:oh fs p q):t5 fs p/\t5 fs q:=⟨⟨up.sublist h.sp,fun x hx=>h.sp.subset hx⟩,⟨up.sublist h.sq,fun x hx=>h.sq.subset hx⟩⟩
theorem Oi (p:List Str) (ρ:av):(c6 (J.aa (rB 0) J.aA) (iK i0)) (.shr (.list (p.map .str))::ρ)=.ok (aT p):=by
 walk_at "zz"
 rw [fM]
theorem Vr (p q r t:List Str):i6 (i_ 1 [Sl.no] kT (c6 (J.aa (rB 0) J.aA) (iK i0))) [.list (p.map .str),.list (q.map .str),.list (r.map .str),.list (t.map .str)]=.ok [aT p,aT q,aT r,aT t] :=
 cD _ (fun ss:List Str=>hX (ss.map .str)) (fun ss=>aT ss) [p,q,r,t] fun ss hs=>d_ rfl (Oi ss _)
theorem KM (ns:List Int) (k:Int) (hk:0<=k) (fs:List Str) (hf:∀ x∈fs,t_ x=true) (up:fs.Pairwise fun a b=>lL a b=true) (nd:fs.Nodup) (hl:fs.length<=6) (nm:Str) (hn:t_ nm=true) :
  ∃ e,iU [.list (ns.map .int),.int k,aT fs,.str nm]=.ok (cw e)/\rl fs e/\e.name=nm:=by
 have p0:=e6 ns k 5 (by decide)
 have p1:=eS ns k 5 (by decide)
 have go:∀ ρ:av,ρ=[.shr (.list (ns.map .int)),.shr (.int k),.shr (aT fs),.shr (.str nm),.no,.no,.no,.no,.no]->(!decide (fs=[]) && decide (fg ns 97 2=0))=false->∃ e,iT ρ=.ok (.rt (cw e))/\rl fs e/\e.name=nm:=by
  rintro ρ rfl hc
  obtain ⟨ρ',h1,p,q,r,t,h2,h3,h4⟩:∃ ρ',(qr (GP (J.aa (rS 2) J.aA)) (ms 2 (cC (bX 5) (cC (bX 6) o9))) (aW (fY 7 (dz 3 a_ (J.aa (rS 0) (J.aa (g2 (g2 (rB 1) (kI 10) dI) (rB 5) dI) (J.aa (kI 8) J.aA))))) (aW (dY (fR (g2 (rB 7) (kI 3) GL)) (oO 4 (g2 (cc (J.aa (kI 0) (J.aa (kI 0) (J.aa (kI 1) J.aA))) .list) (rB 7) aU) (rS 6)) (fun ρ=>.ok (.nx ρ))) (aW (fY 7 (dz 3 a_ (J.aa (rS 0) (J.aa (g2 (g2 (rB 1) (kI 20) dI) (rB 5) dI) (J.aa (kI 8) J.aA))))) (dY (fR (g2 (rB 7) (kI 4) GL)) (oO 4 (g2 (cc (J.aa (kI 2) (J.aa (kI 2) (J.aa (kI 3) (J.aa (kI 3) J.aA)))) .list) (rB 7) aU) (rS 6)) (fun ρ=>.ok (.nx ρ))))))) [.shr (.list (ns.map .int)),.shr (.int k),.shr (aT fs),.shr (.str nm),o4 [] [] [] [],.no,.no,.no,.no]=.ok (.nx ρ')/\∃ p q r t,oh fs p q/\oh fs r t/\∃ z5 z6 z7,ρ'=[.shr (.list (ns.map .int)),.shr (.int k),.shr (aT fs),.shr (.str nm),o4 p q r t,z5,z6,z7,.no]:=by
   rw [rh (ds:=(nE 0 fs).map cI)]
   ·have H:=rj cI (fun (a:Unit) (_:Nat×Str)=>a) (fun bK _ ρ=>∃ pre,pre++bK.map (·.2)=fs/\∃ p q r t,oh pre p q/\oh pre r t/\∃ z5 z6 z7,ρ=[.shr (.list (ns.map .int)),.shr (.int k),.shr (aT fs),.shr (.str nm),o4 p q r t,z5,z6,z7,.no]) (kt:=ms 2 (cC (bX 5) (cC (bX 6) o9))) (gb:=(aW (fY 7 (dz 3 a_ (J.aa (rS 0) (J.aa (g2 (g2 (rB 1) (kI 10) dI) (rB 5) dI) (J.aa (kI 8) J.aA))))) (aW (dY (fR (g2 (rB 7) (kI 3) GL)) (oO 4 (g2 (cc (J.aa (kI 0) (J.aa (kI 0) (J.aa (kI 1) J.aA))) .list) (rB 7) aU) (rS 6)) (fun ρ=>.ok (.nx ρ))) (aW (fY 7 (dz 3 a_ (J.aa (rS 0) (J.aa (g2 (g2 (rB 1) (kI 20) dI) (rB 5) dI) (J.aa (kI 8) J.aA))))) (dY (fR (g2 (rB 7) (kI 4) GL)) (oO 4 (g2 (cc (J.aa (kI 2) (J.aa (kI 2) (J.aa (kI 3) (J.aa (kI 3) J.aA)))) .list) (rB 7) aU) (rS 6)) (fun ρ=>.ok (.nx ρ)))))))
    obtain ⟨ρ',h1,pre,h2,p,q,r,t,h3,h4,h5⟩:=H (by
     rintro ⟨i,x⟩ bK _ ρ ⟨pre,h2,p,q,r,t,h3,h4,z5,z6,z7,rfl⟩
     have hx:x∉pre:=by
      rw [<- h2,aR] at nd
      have:=(List.nodup_append.mp nd).2.2
      intro hx
      exact this x hx x al rfl
     have hpl:pre.length<900:=by
      have:=congrArg sR h2
      rw [aL] at this
      omega
     obtain ⟨p',q',k1,k2⟩:=Og (a:=.shr (.list (ns.map .int))) (b:=.shr (.int k)) (c:=.shr (aT fs)) (d:=.shr (.str nm)) (e:=.shr (.int (i:Nat))) (f:=.no) (r:=r) (t:=t) (j:=fg ns (k + 10 + i) 8) h3 hx hpl (e6 _ _ _ (by decide))
     obtain ⟨r',t',k3,k4⟩:=Oh (a:=.shr (.list (ns.map .int))) (b:=.shr (.int k)) (c:=.shr (aT fs)) (d:=.shr (.str nm)) (e:=.shr (.int (i:Nat))) (f:=.no) (p:=p') (q:=q') (j:=fg ns (k + 20 + i) 8) h4 hx hpl (e6 _ _ _ (by decide))
     refine ⟨[.shr (.list (ns.map .int)),.shr (.int k),.shr (aT fs),.shr (.str nm),o4 p q r t,.shr (.int (i:Nat)),.shr (.str x),z7,.no],[.shr (.list (ns.map .int)),.shr (.int k),.shr (aT fs),.shr (.str nm),o4 p' q' r' t',.shr (.int (i:Nat)),.shr (.str x),.shr (.int (fg ns (k + 20 + i) 8)),.no],rfl,?_,pre++[x],?_,p',q',r',t',k1,k3,_,_,_,rfl⟩
     ·rw [zd,Nj]
      walk_at "yy"
      rw [e7 ns _ 8 (by omega) (by decide)]
      walk_at "yy"
      rw [k2]
      walk_at "yy"
      rw [e7 ns _ 8 (by omega) (by decide)]
      walk_at "yy"
      rw [k4]
     ·rw [<- h2];simp) (nE 0 fs) () [.shr (.list (ns.map .int)),.shr (.int k),.shr (aT fs),.shr (.str nm),o4 [] [] [] [],.no,.no,.no,.no] ⟨[],by rw [sw];rfl,[],[],[],[],⟨eR _,eR _,fun _ h=>nomatch h⟩,⟨eR _,eR _,fun _ h=>nomatch h⟩,_,_,_,rfl⟩
    refine ⟨ρ',h1,p,q,r,t,?_,?_,h5⟩
    ·simp only [ef,cj] at h2
     rw [<- h2];exact h3
    ·simp only [ef,cj] at h2
     rw [<- h2];exact h4
   ·walk_at "zz"
    rw [xY]
  obtain ⟨s1,s2⟩:=h2.sub up
  obtain ⟨s3,s4⟩:=h3.sub up
  obtain ⟨z5,z6,z7,rfl⟩:=h4
  refine ⟨⟨nm,p,q,r,t,fg ns k 5⟩,?_,⟨hn,s1,s2,s3,s4,h2.d,h3.d,p0,by show fg ns k 5<=9;omega⟩,rfl⟩
  unfold iT
  have hand:Cv (fR (g2 (rB 2) (cc J.aA .tuple) (kP true))) (fR (g2 (dz 3 a_ (J.aa (rS 0) (J.aa (kI 97) (J.aa (kI 2) J.aA)))) (kI 0) (kP false))) [.shr (.list (ns.map .int)),.shr (.int k),.shr (aT fs),.shr (.str nm),.no,.no,.no,.no,.no]=.ok false:=by
   walk_at "zz"
   rw [xZ fs hf]
   walk_at "zz"
   by_cases h:fs=[]
   ·simp only [h,decide_true,pc,cond_false]
   ·simp only [h,decide_false,hJ,cond_true,uI] at hc ⊢
    rw [e7 ns 97 2 (by decide) (by decide)]
    walk_at "zz"
    rw [kA]
    walk_at "zz"
    rw [hc]
  rw [zd,UX,hand]
  simp only [CM,Nh,Vq,clear2,aR,ef,vI,vH,CM,rg,zd]
  rw [show Sl.ow2 [[],[],[],[]]=o4 [] [] [] [] from rfl,h1]
  walk_at "zz"
  rw [Vr]
  walk_at "zz"
  rw [S7]
  walk_at "zz"
  rw [S8]
  walk_at "zz"
  rw [S9]
  walk_at "zz"
  rw [Sc]
  walk_at "zz"
  rw [e7 ns k 5 hk (by decide)]
  walk_at "zz"
  rfl
 by_cases hc:(!decide (fs=[]) && decide (fg ns 97 2=0))=true
 ·have h0:0<fs.length:=by
   rcases fs with _ | ⟨x,r⟩
   ·simp at hc
   ·simp
  obtain ⟨e,h1,h2⟩:=QJ ns k hk fs hf h0 nm hn
  refine ⟨e,?_,h2⟩
  unfold iU
  refine bS ?_
  unfold iT bd
  walk_at "zz"
  rw [xZ fs hf]
  walk_at "zz"
  simp only [aP] at hc
  rw [hc.1]
  walk_at "zz"
  rw [e7 ns 97 2 (by decide) (by decide)]
  walk_at "zz"
  rw [kA]
  walk_at "zz"
  rw [hc.2]
  walk_at "zz"
  rw [h1]
  walk_at "zz"
 ·obtain ⟨e,h1,h2⟩:=go _ rfl (Bool.eq_false_iff.mpr hc)
  exact ⟨e,by unfold iU;exact bS h1,h2⟩
theorem Oj (ds:List D) (t:Nat) (h:t<=ds.length):qV ds (some (t:Int)) none=ds.drop t:=by
 unfold qV
 rw [HT.Ip,HT.DN,Nat.min_eq_left h,List.take_of_length_le (by rw [xL];exact ar _)]
theorem Hd (ds:List D) (t:Nat) (h:t<=ds.length):qV ds none (some (t:Int))=ds.take t:=by
 unfold qV
 rw [HT.Ip,HT.DN,Nat.min_eq_left h,List.drop_zero,Nat.sub_zero]
theorem Vs (ds:List D) (t:Nat) (h:t<=ds.length):Au (.list ds) (some (t:Int)) none=.ok (.list (ds.drop t)):=by
 rw [<- Oj ds t h];rfl
theorem Vt (ds:List D) (t:Nat) (h:t<=ds.length):Au (.list ds) none (some (t:Int))=.ok (.list (ds.take t)):=by
 rw [<- Hd ds t h];rfl
theorem Ol {l:List (Str×D)} (nd:(l.map (·.1)).Nodup) {p:Str×D} (hp:p∈l):aU (.dict (iq l)) (.str p.1)=.ok p.2:=by
 have e:∀ kvs x,aU (.dict kvs) (.str x)=if i7 kvs=true then (match v5 kvs (.str x) with
   | some d=>.ok d
   | none=>.no) else .no:=fun _ _=>rfl
 rw [e,if_pos (zo l)]
 have:v5 (iq l) (.str p.1)=some p.2:=by
  unfold v5 iq
  clear e
  induction l with
  | nil=>cases hp
  | cons q r ih =>
   rw [aR] at nd
   obtain ⟨n1,n2⟩:=List.nodup_cons.mp nd
   rw [aR,dL,su]
   rcases List.mem_cons.mp hp with h | h
   ·subst h;simp
   ·have:q.1≠p.1:=fun z=>n1 (z ▸ mi h)
    rw [decide_eq_false this]
    exact ih n2 h
 rw [this]
structure fN (fs:List Str) (es:List ft):Prop where
 rise:Ha fs 6
 len:es.length<=6
 nd:(es.map (·.name)).Nodup
 ok:∀ e∈es,rl fs e
def dS (fs:List Str) (es:List ft):D:=.tuple [aT fs,.tuple (es.map cw)]
theorem Vu (fs:List Str):∀ (l:List (Str×D)),(∀ p∈l,∃ e,p.2=cw e/\rl fs e/\e.name=p.1)->∃ es:List ft,l.map (·.2)=es.map cw/\es.map (·.name)=l.map (·.1)/\∀ e∈es,rl fs e
 | [],_=>⟨[],rfl,rfl,fun _ h=>nomatch h⟩
 | p::r,h=>by
  obtain ⟨e,h1,h2,h3⟩:=h p al
  obtain ⟨es,k1,k2,k3⟩:=Vu fs r fun q hq=>h q (ao _ hq)
  refine ⟨e::es,by rw [aR,aR,h1,k1],by rw [aR,aR,h3,k2],fun x hx=>?_⟩
  rcases List.mem_cons.mp hx with z | z
  ·rw [z];exact h2
  ·exact k3 x z
theorem KN {α:Type} (l:List α) (t:Nat):(l.drop t++l.take t).Perm l:=by
 refine List.perm_append_comm.trans ?_
 rw [List.take_append_drop]
theorem js {l:List Str} (h:l.Pairwise fun a b=>lL a b=true):l.Nodup:=h.imp fun hab z=>by
 rw [z,ml] at hab
 cases hab
theorem QK (ns:List Int) (k:Int) (hk:0<=k) (m n:Int) (hm0:0<=m) (hm:m<=6) (hn0:0<=n) (hn:n<=6):∃ fs es,mD [.list (ns.map .int),.int k,.int m,.int n]=.ok (dS fs es)/\fN fs es/\fs.length<=m.toNat:=by
 have hr:=Hb ns k m hm0
 generalize hfs:CZ ns k m=fs at hr
 have hrl:=hr.len
 have hr:Ha fs 6:=⟨hr.ok,hr.up,by have:=hr.len;omega⟩
 have nd:=js hr.up
 have m0:=e6 ns (k + 60) (n + 1) (by omega)
 have m1:=eS ns (k + 60) (n + 1) (by omega)
 suffices H:∃ es,mD [.list (ns.map .int),.int k,.int m,.int n]=.ok (dS fs es)/\fN fs es from H.elim fun es h=>⟨fs,es,h.1,h.2,hrl⟩
 unfold mD
 suffices H:∃ es,mC (bd 10 [.list (ns.map .int),.int k,.int m,.int n])=.ok (.rt (dS fs es))/\fN fs es from H.elim fun es h=>⟨es,bS h.1,h.2⟩
 have H:=rj (fun (i:Nat)=>eL i) (fun (a:Unit) (_:Nat)=>a) (fun bK _ ρ=>∃ l,l.length + bK.length<=6/\(l.map (·.1)).Nodup/\(∀ p∈l,∃ e,p.2=cw e/\rl fs e/\e.name=p.1)/\∃ z6 z7,ρ=[.shr (.list (ns.map .int)),.shr (.int k),.shr (.int m),.shr (.int n),.shr (aT fs),.own (.dict (iq l)),z6,z7,.no,.no]) (kt:=bX 6) (gb:=aW (fY 7 (dz 2 kx (J.aa (rS 0) (J.aa (g2 (g2 (rB 1) (kI 70) dI) (g2 (kI 40) (rB 6) uZ) dI) J.aA)))) (CJ 5 (rS 7) (dz 4 iU (J.aa (rS 0) (J.aa (g2 (g2 (rB 1) (kI 80) dI) (g2 (kI 40) (rB 6) uZ) dI) (J.aa (rS 4) (J.aa (rS 7) J.aA)))))))
 obtain ⟨ρ',h1,l,h2,h3,h4,z6,z7,h5⟩:=H (by
  rintro i bK _ ρ ⟨l,h2,h3,h4,z6,z7,rfl⟩
  simp only [aO] at h2
  have hw:=EK ns (k + 70 + 40 * (i:Int))
  obtain ⟨e,e1,e2,e3⟩:=KM ns (k + 80 + 40 * (i:Int)) (by omega) fs hr.ok hr.up nd hr.len (le ns (k + 70 + 40 * (i:Int))) hw
  have pl:=EL l (le ns (k + 70 + 40 * (i:Int))) (cw e)
  refine ⟨[.shr (.list (ns.map .int)),.shr (.int k),.shr (.int m),.shr (.int n),.shr (aT fs),.own (.dict (iq l)),.shr (.int i),z7,.no,.no],[.shr (.list (ns.map .int)),.shr (.int k),.shr (.int m),.shr (.int n),.shr (aT fs),.own (.dict (iq (sL l (le ns (k + 70 + 40 * (i:Int))) (cw e)))),.shr (.int i),.shr (.str (le ns (k + 70 + 40 * (i:Int)))),.no,.no],rfl,?_,sL l (le ns (k + 70 + 40 * (i:Int))) (cw e),by omega,?_,?_,_,_,rfl⟩
  ·walk_at "zz"
   rw [nC (by decide) (by decide)]
   walk_at "zz"
   rw [Jh ns _ (by omega)]
   walk_at "zz"
   refine (S5 (l:=l) (x:=le ns (k + 70 + 40 * (i:Int))) (d:=cw e) rfl ?_ rfl (by omega)).trans rfl
   walk_at "zz"
   rw [nC (by decide) (by decide)]
   walk_at "zz"
   exact e1
  ·rw [BA];exact KI h3
  ·exact Od (Q:=fun x d=>∃ e,d=cw e/\rl fs e/\e.name=x) h4 ⟨e,rfl,e2,e3⟩) (bt (fg ns (k + 60) (n + 1)).toNat) () [.shr (.list (ns.map .int)),.shr (.int k),.shr (.int m),.shr (.int n),.shr (aT fs),.own (.dict (iq [])),.no,.no,.no,.no] ⟨[],by rw [eg];simp only [bx];omega,iY,fun _ h=>(nomatch h),_,_,rfl⟩
 simp only [bx,Nat.add_zero] at h2
 have t0:=e6 ns (k + 61) ((l.length:Int) + 1) (by omega)
 have t1:=eS ns (k + 61) ((l.length:Int) + 1) (by omega)
 obtain ⟨t,ht⟩:∃ t:Nat,fg ns (k + 61) ((l.length:Int) + 1)=t:=⟨_,(fv t0).symm⟩
 have tl:t<=l.length:=by omega
 have pm:=KN l t
 obtain ⟨es,k1,k2,k3⟩:=Vu fs (l.drop t++l.take t) fun p hp=>h4 p (pm.mem_iff.mp hp)
 have kl:es.length=l.length:=by
  have:=congrArg sR k1
  rw [ay,ay,pm.length_eq] at this
  exact this.symm
 refine ⟨es,?_,hr,by omega,?_,k3⟩
 ·unfold mC bd
  walk_at "yy"
  rw [Of ns k m hk hm0 (by omega),hfs]
  walk_at "yy"
  rw [rh (ds:=(bt (fg ns (k + 60) (n + 1)).toNat).map fun (i:Nat)=>eL i)]
  ·rw [show PyData.dict []=PyData.dict (iq []) from rfl,h1,h5]
   walk_at "yy"
   rw [EM]
   walk_at "yy"
   rw [e7 ns _ _ (by omega) (by omega),ht]
   walk_at "yy"
   clear H h1
   rw [Vs _ t (by simpa using tl)]
   walk_at "yy"
   rw [Vt _ t (by simpa using tl)]
   walk_at "yy"
   have e1:(List.drop t (wM au (wM (fun x=>x.fst) l))++List.take t (wM au (wM (fun x=>x.fst) l)))=(l.drop t++l.take t).map fun p=>au p.1:=by
    rw [b_,List.map_drop,List.map_take,eZ];rfl
   rw [e1,if_pos (by rw [<- aL,e1,ay,pm.length_eq];omega)]
   have pl:=pm.length_eq
   have px:∀ p∈l.drop t++l.take t,p∈l:=fun p hp=>pm.mem_iff.mp hp
   clear e1 pm k2
   generalize l.drop t++l.take t=L at pl px k1 ⊢
   walk_at "yy"
   rw [if_pos (by omega)]
   rw [cD _ (fun p:Str×D=>au p.1) (fun p=>p.2) L fun p hp=>d_ rfl (by
    walk_at "yy"
    exact Ol h3 (px p hp))]
   walk_at "yy"
   rw [fM]
   walk_at "yy"
   rw [k1]
   rfl
  ·walk_at "yy"
   rw [e7 ns (k + 60) (n + 1) (by omega) (by omega)]
   walk_at "yy"
   have:=vf (fg ns (k + 60) (n + 1)).toNat (by omega)
   rw [fv m0] at this
   exact this
 ·rw [k2]
  exact ((pm.map _).nodup_iff).mpr h3
theorem BB {α:Type} (b:α->Bool):∀ xs:List α,nj (xs.map fun x=>c9 (b x))=some (xs.map b)
 | []=>rfl
 | x::r=>by
  show (nj (r.map fun x=>c9 (b x))).map (b x::·)=_
  rw [BB b r]
  rfl
theorem i3 {α:Type} (k:List Bool->Bool) (b:α->Bool) (xs:List α):gX k (.list (xs.map fun x=>c9 (b x)))=.ok (.bool (k (xs.map b))):=by
 have e:∀ ds,gX k (.list ds)=match nj ds with
  | some bs=>.ok (.bool (k bs))
  | none=>.no:=fun _=>rfl
 rw [e,BB]
theorem EO {s s':Sl}{ρ:av}{gt:av->R Bool}{ge:av->R D}{d d' y:D} (h1:gt (.shr d::.shr d'::ρ)=.ok true) (h2:ge (.shr d::.shr d'::ρ)=.ok y):i_ 2 (s::s'::ρ) gt ge (.tuple [d,d'])=.ok (some y):=by
 have e:i_ 2 (s::s'::ρ) gt ge (.tuple [d,d'])=Kr ((gt (.shr d::.shr d'::ρ)).bind fun b=>if b then (ge (.shr d::.shr d'::ρ)).bind fun y=>.ok (some y) else .ok none):=id rfl
 rw [e,h1,bind_ok,if_pos rfl,h2];rfl
theorem He (x:Str):kO (.str x)=true:=id rfl
theorem Hf (i:Int):kO (.int i)=true:=id rfl
theorem nF {α:Type} (c:α->D) (h:∀ x,kO (c x)=true):∀ xs:List α,noDs (xs.map c)=true
 | []=>rfl
 | x::r=>by
  show (kO (c x) && noDs (r.map c))=true
  rw [h x,nF c h r];rfl
theorem Om (xs:List D):kO (.tuple xs)=noDs xs:=id rfl
theorem gF (xs:List Str):kO (aT xs)=true:=by
 rw [Om]
 exact nF _ (fun _=>rfl) xs
theorem Jk (e:ft):kO (cw e)=true:=by
 have:kO (cw e)=(true && (kO (aT e.needs) && (kO (aT e.bars) && (kO (aT e.makes) && (kO (aT e.ends) && (true && true)))))):=rfl
 rw [this,gF,gF,gF,gF];rfl
theorem Sd (es:List ft):kO (.tuple (es.map cw))=true:=by
 rw [Om]
 exact nF _ Jk es
theorem QL (fs:List Str) (es:List ft):kO (dS fs es)=true:=by
 have:kO (dS fs es)=(kO (aT fs) && (kO (.tuple (es.map cw)) && true)):=rfl
 rw [this,gF,Sd];rfl
theorem Hg (x:Str):pw "str" (.str x)=true:=id rfl
theorem rm (x:List D):pw "tuple" (.tuple x)=true:=id rfl
theorem Tz (x:Int):pw "int" (.int x)=true:=id rfl
theorem TC (x:Int):pw "bool" (.int x)=false:=id rfl
theorem QM:∀ c:_root_.Fin 123,97<=c.val->(!lL ⟨#[c.val]⟩ "a")=true/\(!lL "z" ⟨#[c.val]⟩)=true:=by decide +kernel
theorem jt {x:Str} (h:t_ x=true):fz [.str x]=.ok (.bool true):=by
 have hw:=h
 unfold t_ at h
 simp only [aP,decide_eq_true_eq,cR] at h
 obtain ⟨⟨h1,h2⟩,h3⟩:=h
 have hl:x.length=x.cps.size:=rfl
 unfold fz
 refine bS ?_
 unfold oR bd
 walk_at "zz"
 rw [He,Hg]
 walk_at "zz"
 rw [if_pos (by omega)]
 walk_at "zz"
 rw [decide_eq_true (by omega)]
 walk_at "zz"
 rw [decide_eq_true (by omega)]
 walk_at "zz"
 unfold o8
 walk_at "zz"
 rw [if_pos (by rw [aq];omega)]
 rw [cD _ (fun c:Nat=>au ⟨#[c]⟩) (fun _=>c9 true) x.cps.toList fun c hc=>d_ rfl (by
  obtain ⟨a1,a2⟩:=h3 c hc
  obtain ⟨b1,b2⟩:=QM ⟨c,by omega⟩ a1
  walk_at "zz"
  simp only at b1 b2
  rw [b1]
  walk_at "zz"
  rw [b2])]
 walk_at "zz"
 rw [i3 _ (fun _=>true)]
 walk_at "zz"
 simp
theorem zw:∀ (xs ys:List Str),xv (xs.map .str) (ys.map .str)=(xs.zip ys).map fun p=>cY [.str p.1,.str p.2]
 | [],_=>rfl
 | _::_,[]=>rfl
 | x::r,y::r'=>by
  show cY [.str x,.str y]::xv (r.map .str) (r'.map .str)=_
  rw [zw r r']
  rfl
theorem On:∀ {l:List Str},(l.Pairwise fun a b=>lL a b=true)->∀ p∈l.zip (l.drop 1),lL p.1 p.2=true
 | [],_,p,hp=>by cases hp
 | [_],_,p,hp=>by cases hp
 | a::b::r,h,p,hp=>by
  obtain ⟨h1,h2⟩:=List.pairwise_cons.mp h
  rcases List.mem_cons.mp hp with z | z
  ·rw [z];exact h1 b al
  ·exact On h2 p z
theorem Jl (xs:List Str):Au (aT xs) (some 1) none=.ok (aT (xs.drop 1)):=by
 have e:Au (aT xs) (some 1) none=.ok (.tuple (qV (xs.map .str) (some 1) none)):=rfl
 rw [e]
 cases xs with
 | nil=>rfl
 | cons x r =>
  rw [show (1:Int)=((1:Nat):Int) from rfl,Oj _ 1 (by simp)]
  rfl
theorem wS {xs:List Str} (hw:∀ x∈xs,t_ x=true) (up:xs.Pairwise fun a b=>lL a b=true) (hl:xs.length<=6):cq [aT xs]=.ok (.bool true):=by
 unfold cq
 refine bS ?_
 unfold dJ bd
 walk_at "zz"
 rw [gF,rm]
 walk_at "zz"
 rw [if_pos (by omega)]
 rw [cD _ (fun x:Str=>au x) (fun _=>c9 true) xs fun x hx=>d_ rfl (by
  walk_at "zz"
  rw [jt (hw x hx)])]
 walk_at "zz"
 rw [i3 _ (fun _=>true)]
 walk_at "zz"
 rw [show ((xs.map fun _=>true).all id)=true by simp]
 walk_at "zz"
 rw [Jl]
 walk_at "zz"
 rw [zw]
 walk_at "zz"
 rw [if_pos (by simp;omega)]
 rw [cD _ (fun p:Str×Str=>cY [.str p.1,.str p.2]) (fun _=>c9 true) (xs.zip (xs.drop 1)) fun p hp=>EO rfl (by
  walk_at "zz"
  rw [On up p hp])]
 walk_at "zz"
 rw [i3 _ (fun _=>true)]
 walk_at "zz"
 simp
theorem gL {fs xs:List Str} (hw:∀ x∈fs,t_ x=true) (h:t5 fs xs) (hl:xs.length<=6):cE [aT fs,aT xs]=.ok (.bool true):=by
 unfold cE
 refine bS ?_
 unfold jq bd
 walk_at "zz"
 rw [wS (fun x hx=>hw x (h.mem x hx)) h.up hl]
 walk_at "zz"
 rw [if_pos (by omega)]
 rw [cD _ (fun x:Str=>au x) (fun _=>c9 true) xs fun x hx=>d_ rfl (by
  walk_at "zz"
  rw [pR,decide_eq_true (h.mem x hx)]
  rfl)]
 walk_at "zz"
 rw [i3 _ (fun _=>true)]
 walk_at "zz"
 simp
theorem wj {xs ys:List Str} (h:∀ x∈xs,x∉ys) (hl:xs.length<=6):dG [aT xs,aT ys]=.ok (.bool true):=by
 unfold dG
 refine bS ?_
 unfold jW bd
 walk_at "zz"
 rw [if_pos (by omega)]
 rw [cD _ (fun x:Str=>au x) (fun _=>c9 false) xs fun x hx=>d_ rfl (by
  walk_at "zz"
  rw [pR,decide_eq_false (h x hx)]
  rfl)]
 walk_at "zz"
 rw [i3 _ (fun _=>false)]
 walk_at "zz"
 simp
theorem Hh {l i m:Int} (h0:l<=i) (h1:i<=m):pF [.int i,.int l,.int m]=.ok (.bool true):=by
 unfold pF
 refine bS ?_
 unfold pE bd
 walk_at "zz"
 rw [Hf,Tz]
 walk_at "zz"
 rw [Hf,TC]
 walk_at "zz"
 rw [decide_eq_true h0]
 walk_at "zz"
 rw [decide_eq_true h1]
theorem D2:∀ (xs fs:List Str),xs.Nodup->(∀ x∈xs,x∈fs)->xs.length<=fs.length
 | [],_,_,_=>eB _
 | x::r,fs,nd,h=>by
  obtain ⟨n1,n2⟩:=List.nodup_cons.mp nd
  have hx:=h x al
  have:=D2 r (fs.erase x) n2 fun y hy=>(List.mem_erase_of_ne fun (z:y=x)=>n1 (z ▸ hy)).mpr (h y (ao _ hy))
  rw [List.length_erase_of_mem hx] at this
  have:0<fs.length:=List.length_pos_of_mem hx
  rw [aO]
  omega
theorem fS {fs xs:List Str} (h:t5 fs xs) (hl:fs.length<=6):xs.length<=6:=by
 exact bJ (D2 xs fs (js h.up) h.mem) hl
theorem WZ (a b c d e f g:D):NL (ms 6 (cC (bX 2) (cC (bX 3) (cC (bX 4) (cC (bX 5) (cC (bX 6) (cC (bX 7) o9))))))) [Sl.shr a,Sl.shr (.tuple [b,c,d,e,f,g]),.no,.no,.no,.no,.no,.no] (.tuple [b,c,d,e,f,g])=.ok (.nx [Sl.shr a,Sl.shr (.tuple [b,c,d,e,f,g]),.shr b,.shr c,.shr d,.shr e,.shr f,.shr g]):=id rfl
theorem EQ {fs:List Str} (hr:Ha fs 6) {e:ft} (g:rl fs e):nu [aT fs,cw e]=.ok (.bool true):=by
 have l1:=fS g.needs hr.len
 have l2:=fS g.bars hr.len
 have l3:=fS g.makes hr.len
 have l4:=fS g.ends hr.len
 unfold nu
 refine bS ?_
 unfold nr bd
 walk_at "zz"
 rw [Jk]
 unfold cw
 walk_at "zz"
 rw [rm]
 walk_at "zz"
 rw [kA]
 walk_at "zz"
 rw [show decide (((6:Nat):Int)=6)=true from rfl]
 walk_at "zz"
 rw [WZ]
 ·walk_at "zz"
  rw [jt g.name]
  walk_at "zz"
  rw [Hh g.p0 g.p9]
  walk_at "zz"
  have pk:=cD (i_ 1 [Sl.no,Sl.shr (aT fs)] kT (dz 2 cE (J.aa (rS 1) (J.aa (rS 0) J.aA)))) (fun x:List Str=>aT x) (fun _=>c9 true) [e.needs,e.bars,e.makes,e.ends] fun x hx=>d_ rfl (by
   walk_at "zz"
   simp only [aQ,aD,or_false] at hx
   rcases hx with z | z | z | z<;>rw [z]
   ·rw [gL hr.ok g.needs l1]
   ·rw [gL hr.ok g.bars l2]
   ·rw [gL hr.ok g.makes l3]
   ·rw [gL hr.ok g.ends l4])
  simp only [aR,ef] at pk
  rw [pk]
  walk_at "zz"
  rw [show gX (fun bs=>bs.all id) (.list [.bool true,.bool true,.bool true,.bool true])=.ok (.bool true) from rfl]
  walk_at "zz"
  rw [wj g.nb l1]
  walk_at "zz"
  rw [wj g.me l3]
  walk_at "zz"
theorem Oo (l:List Str) (nd:l.Nodup):(de [] l).length=l.length:=by
 have h1:=D2 (de [] l) l (iD l [] iY) fun x hx=>((iN l [] x).mp hx).elim (fun h=>nomatch h) id
 have h2:=D2 l (de [] l) nd fun x hx=>(iN l [] x).mpr (.inr hx)
 omega
theorem KO (es:List ft) (hl:es.length<=6) (nd:(es.map (·.name)).Nodup) (s:Sl) (ρ:av) (h:(s::ρ)[2]?=some (.shr (.tuple (es.map cw)))):v7 (we 1 [] (lK (rB 2)) kT (g2 (rB 0) (kI 0) aU)) (s::ρ)=.ok (.int (es.length:Nat)):=by
 have hr:FV (s::ρ) 2=.ok (.tuple (es.map cw)):=by unfold FV;rw [h]
 unfold v7 we
 rw [Tf,Tu,hr]
 walk_at "zz"
 rw [if_pos (by omega)]
 rw [cD _ cw (fun e=>au e.name) es fun e he=>d_ rfl (by
  walk_at "zz"
  rfl)]
 walk_at "zz"
 have:(es.map fun e=>au e.name)=(es.map (·.name)).map .str:=by rw [eZ];rfl
 rw [this,strsOf_map]
 simp only [CM,Oo _ nd,ay]
theorem W_ (b c:D):NL (ms 2 (cC (bX 1) (cC (bX 2) o9))) [Sl.shr (.tuple [b,c]),.no,.no] (.tuple [b,c])=.ok (.nx [Sl.shr (.tuple [b,c]),.shr b,.shr c]):=id rfl
theorem KP {fs:List Str}{es:List ft} (g:fN fs es):si [dS fs es]=.ok (.bool true):=by
 have l1:=g.rise.len
 have l2:=g.len
 unfold si
 refine bS ?_
 unfold sg bd
 walk_at "zz"
 rw [QL]
 unfold dS
 walk_at "zz"
 rw [rm]
 walk_at "zz"
 rw [kA]
 walk_at "zz"
 rw [show decide (((2:Nat):Int)=2)=true from rfl]
 walk_at "zz"
 rw [W_]
 walk_at "zz"
 rw [wS g.rise.ok g.rise.up l1]
 walk_at "zz"
 rw [decide_eq_false (by omega)]
 walk_at "zz"
 rw [Sd,rm]
 walk_at "zz"
 rw [decide_eq_false (by omega)]
 walk_at "zz"
 rw [if_pos (by omega)]
 rw [cD _ cw (fun _=>c9 true) es fun e he=>d_ rfl (by
  walk_at "zz"
  rw [EQ g.rise (g.ok e he)])]
 walk_at "zz"
 rw [i3 _ (fun _=>true)]
 walk_at "zz"
 rw [show ((es.map fun _=>true).all id)=true by simp]
 walk_at "zz"
 rw [KO es l2 g.nd _ _ rfl]
 walk_at "zz"
 rw [kA,decide_eq_true rfl]
 rfl
theorem Hi {fs:List Str}{es:List ft} (g:fN fs es):sr [dS fs es]=.ok (dS fs es):=by
 unfold sr
 refine bS ?_
 unfold sk bd
 walk_at "zz"
 rw [KP g]
 walk_at "zz"
theorem zx {α:Type} (c:α->D):∀ xs:List α,(∀ x∈xs,(c x).canLay0=true)->bV (xs.map c)=true
 | [],_=>rfl
 | x::r,h=>by
  have h1:=h x al
  have h2:=zx c r fun y hy=>h y (ao _ hy)
  simp only [aR,bV,h1,h2,lv]
theorem vh {fs xs:List Str} (hf:∀ x∈fs,t_ x=true) (h:t5 fs xs):bV (xs.map .str)=true:=zv xs fun x hx=>hf x (h.mem x hx)
theorem Op {fs:List Str} (hf:∀ x∈fs,t_ x=true) {e:ft} (g:rl fs e):(cw e).canLay0=true:=by
 unfold cw
 simp only [fQ,bV]
 have:=sv g.name
 simp only [fQ] at this
 rw [vh hf g.needs,vh hf g.bars,vh hf g.makes,vh hf g.ends,this]
 rfl
theorem ES {i:Nat}{g:av->R D}{ρ:av}{ds:List D}{d:D} (hi:ρ[i]?=some (Sl.own (.list ds))) (hg:g ρ=.ok d) (hl:ds.length<1000):pB i g ρ=.ok (.nx (ρ.set i (.own (.list (ds++[d]))))):=by
 unfold pB
 simp only [hi,hg,bind_ok,if_pos hl]
theorem Oq {s s':Sl}{ρ:av}{gt:av->R Bool}{ge:av->R D}{d d' y:D}{b:Bool} (h1:gt (.shr d::.shr d'::ρ)=.ok b) (h2:b=true->ge (.shr d::.shr d'::ρ)=.ok y):i_ 2 (s::s'::ρ) gt ge (.tuple [d,d'])=.ok (if b then some y else none):=by
 have e:i_ 2 (s::s'::ρ) gt ge (.tuple [d,d'])=Kr ((gt (.shr d::.shr d'::ρ)).bind fun b=>if b then (ge (.shr d::.shr d'::ρ)).bind fun y=>.ok (some y) else .ok none):=id rfl
 rw [e,h1,bind_ok]
 cases b with
 | true=>rw [if_pos rfl,h2 rfl];rfl
 | false=>rfl
theorem BC:∀ (xs:List Str) (n:Nat),(nE n xs).length=xs.length
 | [],_=>rfl
 | x::r,n=>by
  show (nE (n + 1) r).length + 1=r.length + 1
  rw [BC r]
theorem QN (ns:List Int) (k:Int) (hk:0<=k) (fs:List Str) (hl:fs.length<=6) (m:Int):∃ ss:List Str,pI [.list (ns.map .int),.int k,aT fs,.int m]=.ok (aT ss)/\ss.Sublist fs:=by
 refine ⟨((nE 0 fs).filter fun q=>decide (fg ns (k + (q.1:Int)) 12<m)).map (·.2),?_,?_⟩
 ·unfold pI
  refine bS ?_
  unfold pH bd
  walk_at "zz"
  rw [xY]
  walk_at "zz"
  rw [if_pos (by rw [BC];omega)]
  rw [jU _ cI (fun q=>au q.2) (fun q=>decide (fg ns (k + (q.1:Int)) 12<m)) (nE 0 fs) fun q hq=>Oq (by
   walk_at "zz"
   rw [e7 ns _ 12 (by omega) (by decide)]
   walk_at "zz") fun _=>rfl]
  walk_at "zz"
  rw [fM]
  walk_at "zz"
  unfold aT
  rw [eZ]
  rfl
 ·have:=(List.filter_sublist (l:=nE 0 fs) (p:=fun q=>decide (fg ns (k + (q.1:Int)) 12<m))).map (·.2)
  rw [sw] at this
  exact this
theorem Hj {fs xs:List Str} (up:fs.Pairwise fun a b=>lL a b=true) (h:xs.Sublist fs):t5 fs xs:=⟨up.sublist h,fun x hx=>h.subset hx⟩
def ET (P:av->Prop) (r:R Fl):Prop:=∃ ρ',r=.ok (.nx ρ')/\P ρ'
theorem KQ {P:av->Prop}{r:R Fl}{hh:av->R Fl}{o:R Fl} (h:ET P r) (k:∀ ρ,P ρ->hh ρ=o):r.bind (GV hh)=o:=by
 obtain ⟨ρ',h1,p⟩:=h
 rw [h1,bind_ok,rg]
 exact k ρ' p
theorem BD {α:Type}{kt:D->av->R av}{gb:av->R Fl} (c:α->D) (P:av->Prop):∀ (xs:List α) (ρ:av),(∀ x∈xs,∀ ρ,P ρ->∃ ρ1,kt (c x) ρ=.ok ρ1/\ET P (gb ρ1))->P ρ->ET P (iO kt gb (xs.map c) ρ)
 | [],ρ,_,p=>⟨ρ,rfl,p⟩
 | x::r,ρ,h,p=>by
  obtain ⟨ρ1,h1,ρ2,h2,h3⟩:=h x al ρ p
  rw [aR]
  unfold iO
  rw [h1]
  simp only [h2]
  exact BD c P r ρ2 (fun y hy=>h y (ao _ hy)) h3
theorem EU {α:Type}{kt:D->av->R av}{gb:av->R Fl} (c:α->D) (p:α->Bool) (out:α->D) (P:av->Prop):∀ (xs:List α) (ρ:av),(∀ x∈xs,∀ ρ,P ρ->∃ ρ1,kt (c x) ρ=.ok ρ1/\(p x=true->gb ρ1=.ok (.rt (out x)))/\(p x=false->ET P (gb ρ1)))->P ρ ->
  (∀ x,xs.find? p=some x->iO kt gb (xs.map c) ρ=.ok (.rt (out x)))/\(xs.find? p=none->ET P (iO kt gb (xs.map c) ρ))
 | [],ρ,_,q=>⟨fun x h=>(nomatch h),fun _=>⟨ρ,rfl,q⟩⟩
 | x::r,ρ,h,q=>by
  obtain ⟨ρ1,h1,h2,h3⟩:=h x al ρ q
  rw [aR,dL]
  unfold iO
  rw [h1]
  cases hp:p x with
  | true =>
   refine ⟨fun y hy=>?_,fun hn=>nomatch hn⟩
   cases hy
   simp only [h2 hp]
  | false =>
   obtain ⟨ρ2,h4,h5⟩:=h3 hp
   simp only [h4]
   exact EU c p out P r ρ2 (fun y hy=>h y (ao _ hy)) h5
structure vi (fs m b:List Str):Prop where
 must:t5 fs m
 bars:t5 fs b
 mb:∀ x∈m,x∉b
abbrev mI (m b:List Str):D:=.tuple [aT m,aT b]
theorem Jm (p:List Str) (x:Str):p.map au++[au x]=(p++[x]).map .str:=by simp
theorem QO (ns:List Int) (k:Int) (hk:0<=k) (fs:List Str) (up:fs.Pairwise fun a b=>lL a b=true) (hl:fs.length<=6):∃ m b,tZ [.list (ns.map .int),.int k,aT fs]=.ok (mI m b)/\vi fs m b:=by
 have nd:=js up
 suffices H:∃ p q,mE (bd 8 [.list (ns.map .int),.int k,aT fs])=.ok (.rt (mI p q))/\oh fs p q by
  obtain ⟨p,q,h1,h2⟩:=H
  exact ⟨p,q,bS h1,Hj up h2.sp,Hj up h2.sq,h2.d⟩
 unfold mE bd
 walk_at "yy"
 rw [rh (ds:=(nE 0 fs).map cI)]
 ·have H:=rj cI (fun (a:Unit) (_:Nat×Str)=>a) (fun bK _ ρ=>∃ pre,pre++bK.map (·.2)=fs/\∃ p q,oh pre p q/\∃ z5 z6 z7,ρ=[.shr (.list (ns.map .int)),.shr (.int k),.shr (aT fs),.own (.list (p.map .str)),.own (.list (q.map .str)),z5,z6,z7]) (kt:=ms 2 (cC (bX 5) (cC (bX 6) o9))) (gb:=aW (fY 7 (dz 3 a_ (J.aa (rS 0) (J.aa (g2 (rB 1) (rB 5) dI) (J.aa (kI 8) J.aA))))) (dY (fR (g2 (rB 7) (kI 2) GL)) (pB 3 (rS 6)) (dY (fR (g2 (rB 7) (kI 2) (kP false))) (pB 4 (rS 6)) (fun ρ=>.ok (.nx ρ)))))
  obtain ⟨ρ',h1,pre,h2,p,q,h3,z5,z6,z7,h4⟩:=H (by
   rintro ⟨i,x⟩ bK _ ρ ⟨pre,h2,p,q,h3,z5,z6,z7,rfl⟩
   have hx:x∉pre:=by
    rw [<- h2,aR] at nd
    have:=(List.nodup_append.mp nd).2.2
    intro hx
    exact this x hx x al rfl
   have hpl:pre.length<900:=by
    have:=congrArg sR h2
    rw [aL] at this
    omega
   have lp:=h3.sp.length_le
   have lq:=h3.sq.length_le
   refine ⟨[.shr (.list (ns.map .int)),.shr (.int k),.shr (aT fs),.own (.list (p.map .str)),.own (.list (q.map .str)),.shr (.int (i:Nat)),.shr (.str x),z7],?_⟩
   by_cases c1:fg ns (k + (i:Nat)) 8<2
   ·refine ⟨[.shr (.list (ns.map .int)),.shr (.int k),.shr (aT fs),.own (.list ((p++[x]).map .str)),.own (.list (q.map .str)),.shr (.int (i:Nat)),.shr (.str x),.shr (.int (fg ns (k + (i:Nat)) 8))],rfl,?_,pre++[x],by rw [<- h2];simp,_,_,h3.left x hx,_,_,_,rfl⟩
    walk_at "zz"
    rw [e7 ns _ 8 (by omega) (by decide)]
    walk_at "zz"
    rw [decide_eq_true c1]
    walk_at "zz"
    rw [<- Jm]
    exact ES (ds:=p.map .str) rfl rfl (by rw [ay];omega)
   ·by_cases c2:fg ns (k + (i:Nat)) 8=2
    ·refine ⟨[.shr (.list (ns.map .int)),.shr (.int k),.shr (aT fs),.own (.list (p.map .str)),.own (.list ((q++[x]).map .str)),.shr (.int (i:Nat)),.shr (.str x),.shr (.int (fg ns (k + (i:Nat)) 8))],rfl,?_,pre++[x],by rw [<- h2];simp,_,_,h3.right x hx,_,_,_,rfl⟩
     walk_at "zz"
     rw [e7 ns _ 8 (by omega) (by decide)]
     walk_at "zz"
     rw [decide_eq_false c1]
     walk_at "zz"
     rw [kA]
     walk_at "zz"
     rw [decide_eq_true c2]
     walk_at "zz"
     rw [<- Jm]
     exact ES (ds:=q.map .str) rfl rfl (by rw [ay];omega)
    ·refine ⟨[.shr (.list (ns.map .int)),.shr (.int k),.shr (aT fs),.own (.list (p.map .str)),.own (.list (q.map .str)),.shr (.int (i:Nat)),.shr (.str x),.shr (.int (fg ns (k + (i:Nat)) 8))],rfl,?_,pre++[x],by rw [<- h2];simp,_,_,h3.skip x,_,_,_,rfl⟩
     walk_at "zz"
     rw [e7 ns _ 8 (by omega) (by decide)]
     walk_at "zz"
     rw [decide_eq_false c1]
     walk_at "zz"
     rw [kA]
     walk_at "zz"
     rw [decide_eq_false c2]
     walk_at "zz") (nE 0 fs) () [.shr (.list (ns.map .int)),.shr (.int k),.shr (aT fs),.own (.list []),.own (.list []),.no,.no,.no] ⟨[],by rw [sw];rfl,[],[],⟨eR _,eR _,fun _ h=>nomatch h⟩,_,_,_,rfl⟩
  refine ⟨p,q,?_,?_⟩
  ·rw [h1,h4]
   walk_at "zz"
   rw [fM]
   walk_at "zz"
   rw [fM]
   walk_at "zz"
  ·simp only [ef,cj] at h2
   rw [<- h2];exact h3
 ·walk_at "zz"
  rw [xY]
theorem TD (j:Int) (h0:0<=j) (h1:j<2):∃ m:Int,aU (.list [.int 2,.int 4]) (.int j)=.ok (.int m):=by
 have:j=0\/j=1:=by omega
 rcases this with h | h<;>subst h
 ·exact ⟨2,rfl⟩
 ·exact ⟨4,rfl⟩
theorem KR (fs:List Str) (es:List ft):aU (dS fs es) (.int 0)=.ok (aT fs):=id rfl
theorem KS (fs:List Str) (es:List ft):aU (dS fs es) (.int 1)=.ok (.tuple (es.map cw)):=id rfl
theorem QP (ns:List Int) (m n:Int) (hm0:0<=m) (hm:m<=6) (hn0:0<=n) (hn:n<=6):∃ fs es ss wm wb,mF [.list (ns.map .int),.int m,.int n]=.ok (.tuple [dS fs es,aT ss,mI wm wb])/\fN fs es/\t5 fs ss/\vi fs wm wb/\fs.length<=m.toNat:=by
 obtain ⟨fs,es,hb,gb,fl⟩:=QK ns 100 (by decide) m n hm0 hm hn0 hn
 obtain ⟨pt,hp⟩:=TD (fg ns 97 2) (e6 _ _ _ (by decide)) (eS _ _ _ (by decide))
 obtain ⟨ss,hs,gs⟩:=QN ns 20 (by decide) fs gb.rise.len pt
 obtain ⟨wm,wb,hw,gw⟩:=QO ns 30 (by decide) fs gb.rise.up gb.rise.len
 refine ⟨fs,es,ss,wm,wb,?_,gb,Hj gb.rise.up gs,gw,fl⟩
 unfold mF
 refine bS ?_
 unfold pL bd
 walk_at "zz"
 rw [hb]
 walk_at "zz"
 rw [KR]
 walk_at "zz"
 rw [e7 ns 97 2 (by decide) (by decide)]
 walk_at "zz"
 rw [hp]
 walk_at "zz"
 rw [hs]
 walk_at "zz"
 rw [KR]
 walk_at "zz"
 rw [hw]
 walk_at "zz"
theorem zy {xs ys:List Str} (hl:xs.length<=60):dG [aT xs,aT ys]=.ok (.bool (!xs.any fun x=>decide (x∈ys))):=by
 unfold dG
 refine bS ?_
 unfold jW bd
 walk_at "zz"
 rw [if_pos (by omega)]
 rw [cD _ (fun x:Str=>au x) (fun x=>c9 (decide (x∈ys))) xs fun x hx=>d_ rfl (by
  walk_at "zz"
  rw [pR]
  rfl)]
 walk_at "zz"
 rw [i3 _ (fun x=>decide (x∈ys))]
 walk_at "zz"
 rw [FS]
 rfl
theorem Se (neg:Bool) (e:ft):Bl neg (cw e) .none=.ok (.bool neg):=by cases neg<;>rfl
theorem Vv (neg:Bool) (xs:List Str):Bl neg (aT xs) .none=.ok (.bool neg):=by cases neg<;>rfl
theorem Vw (neg:Bool):Bl neg .none .none=.ok (.bool (!neg)):=by cases neg<;>rfl
theorem Hk (e:ft):aU (cw e) (.int 0)=.ok (.str e.name):=id rfl
theorem X1 (e:ft):aU (cw e) (.int 3)=.ok (aT e.makes):=id rfl
theorem X2 (e:ft):aU (cw e) (.int 4)=.ok (aT e.ends):=id rfl
theorem Vx (e:ft):Au (cw e) (some 1) (some 3)=.ok (mI e.needs e.bars):=id rfl
theorem QQ (x:Str) (gs:av->R (List D)) (s:Sl) (ρ:av) {ds:List D} (h:gs (s::ρ)=.ok ds) (hl:ds.length<=1000):rf x gs (s::ρ)=.ex x none:=by unfold rf;rw [h,bind_ok,if_pos hl]
theorem Vy (k:Nat) (gs:av->R (List D)) (s:Sl) (ρ:av):Qv k gs (s::ρ)=(gs (s::ρ)).bind (Qu k):=id rfl
theorem Hl (wh:Str->Option Nat) (F:List D->R D) (ds:List D):qj wh F ds=Bu wh (F ds):=id rfl
theorem QR (wh:Str->Option Nat) (d:D):Bu wh (.ok d)=.ok d:=id rfl
theorem Jn {wh:Str->Option Nat}{y:Str}{j:Nat} (h:wh y=some j):Bu wh (.ex y none)=.ok (.tuple [.str "refused",.int (j:Nat)]):=by simp only [Bu,h]
theorem Hm {x:Str} (h:t_ x=true):x≠"zzzzz":=by
 intro e
 rw [e] at h
 have:t_ "zzzzz"=false:=by decide +kernel
 rw [this] at h
 cases h
theorem X3 {x:Str} (h:t_ x=true):kP false (.str x) (.str "zzzzz")=.ok (.bool false):=by
 unfold kP
 rw [sv h,show (au "zzzzz").canLay0=true by decide +kernel,su,decide_eq_false (Hm h)]
 rfl
theorem Vz (b:Bool):kO (.bool b)=true:=id rfl
theorem VA (b:Bool):pw "bool" (.bool b)=true:=id rfl
theorem VB (neg a b:Bool):kP neg (.bool a) (.bool b)=.ok (.bool (if neg then !(a == b) else a == b)):=by
 cases neg<;>cases a<;>cases b<;>rfl
theorem rR {xs:List D}{j:Nat}{v:D} (h:xs[j]?=some v):aU (.list xs) (.int (j:Nat))=.ok v:=by
 have e:aU (.list xs) (.int (j:Nat))=CB (.list xs) (.int (j:Nat)):=rfl
 rw [e]
 unfold CB
 simp only [rQ h]
def VC:R D->Bool
 | .ok (.bool b)=>b
 | _=>false
theorem Jo {r:R D} (h:VC r=true):r=.ok (.bool true):=by
 unfold VC at h
 split at h
 ·rw [h]
 ·cases h
theorem X4 (a x y z:D) (r:av):NL (ms 3 (cC (bX 1) (cC (bX 2) (cC (bX 3) o9)))) (Sl.shr a::.no::.no::.no::r) (.tuple [x,y,z])=.ok (.nx (.shr a::.shr x::.shr y::.shr z::r)):=id rfl
def ju (st a b:List Str):Bool:=(a.all fun x=>decide (x∈st)) && !b.any fun x=>decide (x∈st)
theorem X5 (m b:List Str):aU (mI m b) (.int 0)=.ok (aT m):=id rfl
theorem X6 (m b:List Str):aU (mI m b) (.int 1)=.ok (aT b):=id rfl
theorem Jp {st a b:List Str} (ha:a.length<=60) (hb:b.length<=60):mG [aT st,mI a b]=.ok (.bool (ju st a b)):=by
 unfold mG
 refine bS ?_
 unfold pM bd
 walk_at "zz"
 rw [X5]
 walk_at "zz"
 rw [if_pos (by omega)]
 rw [cD _ (fun x:Str=>au x) (fun x=>c9 (decide (x∈st))) a fun x hx=>d_ rfl (by
  walk_at "zz"
  rw [pR]
  rfl)]
 walk_at "zz"
 rw [i3 _ (fun x=>decide (x∈st))]
 walk_at "zz"
 rw [X6]
 walk_at "zz"
 rw [if_pos (by omega)]
 rw [cD _ (fun x:Str=>au x) (fun x=>c9 (decide (x∈st))) b fun x hx=>d_ rfl (by
  walk_at "zz"
  rw [pR]
  rfl)]
 walk_at "zz"
 rw [i3 _ (fun x=>decide (x∈st))]
 walk_at "zz"
 unfold ju
 rw [ke,FS]
 have e:(id∘fun x=>decide (x∈st))=fun x=>decide (x∈st):=rfl
 rw [e]
 cases (a.all fun x=>decide (x∈st))<;>rfl
theorem D3 {n:Nat}{g:av->R Fl}{ds:List D}{ρ:av} (h:g (bd n ds)=.ok (.nx ρ)):e_ n g ds=.ok .none:=by unfold e_;rw [h]
def VD:R D->Bool
 | .ok (.bool b)=>!b
 | _=>false
theorem x_ {r:R D} (h:VD r=true):r=.ok (.bool false):=by
 unfold VD at h
 split at h
 ·rename_i b;cases b
  ·rfl
  ·cases h
 ·cases h
theorem Jq:fz [.str "zzzzz"]=.ok (.bool true):=Jo (by decide +kernel)
theorem Os (i:Int):fz [.int i]=.ok (.bool false):=by
 unfold fz
 refine bS ?_
 unfold oR bd
 walk_at "zz"
 rw [Hf,show pw "str" (.int i)=false from rfl]
 walk_at "zz"
theorem Ot {xs:List Str} (hw:∀ x∈xs,fz [.str x]=.ok (.bool true)) (hl:xs.length<=20):cq [aT xs]=.ok (.bool ((xs.zip (xs.drop 1)).all fun p=>lL p.1 p.2)):=by
 unfold cq
 refine bS ?_
 unfold dJ bd
 walk_at "zz"
 rw [gF,rm]
 walk_at "zz"
 rw [if_pos (by omega)]
 rw [cD _ (fun x:Str=>au x) (fun _=>c9 true) xs fun x hx=>d_ rfl (by
  walk_at "zz"
  rw [hw x hx])]
 walk_at "zz"
 rw [i3 _ (fun _=>true)]
 walk_at "zz"
 rw [show ((xs.map fun _=>true).all id)=true by simp]
 walk_at "zz"
 rw [Jl]
 walk_at "zz"
 rw [zw]
 walk_at "zz"
 rw [if_pos (by simp;omega)]
 rw [cD _ (fun p:Str×Str=>cY [.str p.1,.str p.2]) (fun p=>c9 (lL p.1 p.2)) (xs.zip (xs.drop 1)) fun p hp=>EO rfl (by
  walk_at "zz")]
 walk_at "zz"
 rw [i3 _ (fun p:Str×Str=>lL p.1 p.2)]
 walk_at "zz"
 rw [ke]
 rfl
theorem BE {fs xs:List Str} (hw:∀ x∈xs,fz [.str x]=.ok (.bool true)) (hl:xs.length<=20):cE [aT fs,aT xs]=.ok (.bool (((xs.zip (xs.drop 1)).all fun p=>lL p.1 p.2) && xs.all fun x=>decide (x∈fs))):=by
 unfold cE
 refine bS ?_
 unfold jq bd
 walk_at "zz"
 rw [Ot hw hl]
 cases ((xs.zip (xs.drop 1)).all fun p=>lL p.1 p.2) with
 | false=>rfl
 | true =>
  walk_at "zz"
  rw [if_pos (by omega)]
  rw [cD _ (fun x:Str=>au x) (fun x=>c9 (decide (x∈fs))) xs fun x hx=>d_ rfl (by
   walk_at "zz"
   rw [pR]
   rfl)]
  walk_at "zz"
  rw [i3 _ (fun x:Str=>decide (x∈fs))]
  walk_at "zz"
  rw [ke]
  rfl
theorem zz:∀ {l:List Str},((l.zip (l.drop 1)).all fun p=>lL p.1 p.2)=true->l.Pairwise fun a b=>lL a b=true
 | [],_=>.nil
 | [_],_=>DH _ _
 | a::b::r,h=>by
  have h':(lL a b && (((b::r).zip ((b::r).drop 1)).all fun p=>lL p.1 p.2))=true:=h
  rw [aP] at h'
  have ih:=zz h'.2
  refine List.pairwise_cons.mpr ⟨fun x hx=>?_,ih⟩
  rcases List.mem_cons.mp hx with z | z
  ·rw [z];exact h'.1
  ·exact lZ h'.1 ((List.pairwise_cons.mp ih).1 x z)
structure xy (fs:List Str) (d:D):Prop where
 nd:kO d=true
 no:cE [aT fs,d]=.ok (.bool false)
theorem EV {fs:List Str}{d:D} (h0:kO d=true) (h:cq [d]=.ok (.bool false)):xy fs d:=by
 refine ⟨h0,?_⟩
 unfold cE
 refine bS ?_
 unfold jq bd
 walk_at "zz"
 rw [h]
 walk_at "zz"
theorem Jr {fs:List Str}{d:D} (h0:kO d=true) (h1:pw "tuple" d=false):xy fs d:=by
 refine EV h0 ?_
 unfold cq
 refine bS ?_
 unfold dJ bd
 walk_at "zz"
 rw [h0,h1]
 walk_at "zz"
theorem VE {fs xs:List Str} (hf:∀ x∈fs,t_ x=true) (hw:∀ x∈xs,fz [.str x]=.ok (.bool true)) (hl:xs.length<=20) (hz:("zzzzz" : Str)∈xs):xy fs (aT xs):=by
 refine ⟨gF xs,?_⟩
 rw [BE hw hl]
 have:(xs.all fun x=>decide (x∈fs))=false:=by
  rw [List.all_eq_false]
  exact ⟨_,hz,by rw [decide_eq_true_eq];exact fun h=>Hm (hf _ h) rfl⟩
 rw [this,iW]
theorem Ou {fs xs:List Str} (hw:∀ x∈xs,fz [.str x]=.ok (.bool true)) (hl:xs.length<=20) (hz:¬ xs.Pairwise fun a b=>lL a b=true):xy fs (aT xs):=by
 refine ⟨gF xs,?_⟩
 rw [BE hw hl]
 cases h:((xs.zip (xs.drop 1)).all fun p=>lL p.1 p.2) with
 | true=>exact (hz (zz h)).elim
 | false=>rfl
theorem VF {fs:List Str}{x:Str} (hx:t_ x=true):xy fs (.tuple [.str x,.int 0]):=by
 refine EV rfl ?_
 unfold cq
 refine bS ?_
 unfold dJ bd
 walk_at "zz"
 rw [show kO (.tuple [.str x,.int 0])=true from rfl,rm]
 walk_at "zz"
 have pk:=cD (i_ 1 [Sl.no] kT (dz 1 fz (J.aa (rS 0) J.aA))) (fun p:D×Bool=>p.1) (fun p=>c9 p.2) [(.str x,true),(.int 0,false)] fun p hp=>d_ rfl (by
  walk_at "zz"
  simp only [aQ,aD,or_false] at hp
  rcases hp with z | z<;>rw [z]
  ·rw [jt hx]
  ·rw [Os])
 simp only [aR,ef] at pk
 rw [pk]
 walk_at "zz"
 rw [show gX (fun bs=>bs.all id) (.list [.bool true,.bool false])=.ok (.bool false) from rfl]
 walk_at "zz"
theorem D4 {L:List D}{j:Int} (h0:0<=j) (h1:j<L.length):∃ d∈L,aU (.list L) (.int j)=.ok d:=by
 obtain ⟨n,rfl⟩:=k8 h0
 have hn:n<L.length:=by omega
 exact ⟨L[n],g_ hn,rR (aZ hn)⟩
def t6 (fs:List Str):List D:=[.none,.list (fs.map .str),.tuple [.str "zzzzz"],.tuple (fs.map .str++[.str "zzzzz"]),.tuple [.int 1],.int 0,.str "a",.tuple [.str ""],.tuple [.none]]
def zA (x:Str) (fs:List Str):List D:=[.tuple (fs.map .str++fs.map .str),.tuple [.str x,.str x],.tuple [.str x,.int 0]]
theorem X7 {fs:List Str} (hf:∀ x∈fs,t_ x=true) (hl:fs.length<=6):∀ d∈t6 fs,xy fs d:=by
 intro d hd
 unfold t6 at hd
 simp only [aQ,aD,or_false] at hd
 rcases hd with h | h | h | h | h | h | h | h | h<;>rw [h]
 ·exact Jr rfl rfl
 ·exact Jr (by show noDs (fs.map au)=true;exact nF _ (fun _=>rfl) fs) rfl
 ·exact VE (xs:=[("zzzzz" : Str)]) hf (fun x hx=>by rw [List.mem_singleton.mp hx];exact Jq) (by decide) (List.mem_singleton.mpr rfl)
 ·have:=VE (xs:=fs++[("zzzzz" : Str)]) hf (fun x hx=>by
   rcases List.mem_append.mp hx with h | h
   ·exact jt (hf x h)
   ·rw [List.mem_singleton.mp h];exact Jq) (by rw [aL];simp;omega) (aY _ (List.mem_singleton.mpr rfl))
  unfold aT at this
  rwa [b_] at this
 ·exact EV rfl (x_ (by decide +kernel))
 ·exact Jr rfl rfl
 ·exact Jr rfl rfl
 ·exact EV rfl (x_ (by decide +kernel))
 ·exact EV rfl (x_ (by decide +kernel))
theorem X8 {x:Str}{r:List Str} (hf:∀ y∈x::r,t_ y=true) (up:(x::r).Pairwise fun a b=>lL a b=true) (hl:(x::r).length<=6):∀ d∈zA x (x::r),xy (x::r) d:=by
 intro d hd
 have hx:=hf x al
 unfold zA at hd
 simp only [aQ,aD,or_false] at hd
 rcases hd with h | h | h<;>rw [h]
 ·have:=Ou (fs:=x::r) (xs:=(x::r)++(x::r)) (fun y hy=>by
   rcases List.mem_append.mp hy with h | h
   ·exact jt (hf y h)
   ·exact jt (hf y h)) (by rw [aL];omega) (fun h=>by
   have:=(List.nodup_append.mp (js h)).2.2
   exact this x al x al rfl)
  unfold aT at this
  rwa [b_] at this
 ·exact Ou (xs:=[x,x]) (fun y hy=>by
   simp only [aQ,aD,or_false,or_self] at hy
   rw [hy];exact jt hx) (by simp) (fun h=>by
   have:=(List.pairwise_cons.mp h).1 x al
   rw [ml] at this
   cases this)
 ·exact VF hx
theorem X9 {x y:Str}{r:List Str} (hf:∀ z∈x::y::r,t_ z=true) (up:(x::y::r).Pairwise fun a b=>lL a b=true) (hl:(x::y::r).length<=6):xy (x::y::r) (aT (x::y::r).reverse):=by
 refine Ou (fun z hz=>jt (hf z (List.mem_reverse.mp hz))) (by rw [uA];omega) (fun h=>?_)
 have h2:=List.pairwise_reverse.mp h
 have a1:=(List.pairwise_cons.mp up).1 y al
 have a2:=(List.pairwise_cons.mp h2).1 y al
 have:=lZ a1 a2
 rw [ml] at this
 cases this
theorem VG (a x y:D):NL (ms 2 (cC (bX 2) (cC (bX 3) o9))) [Sl.shr a,.shr (.tuple [x,y]),.no,.no] (.tuple [x,y])=.ok (.nx [.shr a,.shr (.tuple [x,y]),.shr x,.shr y]):=id rfl
theorem zB {st a b:List Str} (ha:a.length<=60) (hb:b.length<=60):oS [aT st,mI a b]=.ok (.bool (ju st a b)):=by
 unfold oS
 refine bS ?_
 unfold sj bd mI
 walk_at "zz"
 rw [VG]
 walk_at "zz"
 rw [if_pos (by omega)]
 rw [cD _ (fun x:Str=>au x) (fun x=>c9 (decide (x∈st))) a fun x hx=>d_ rfl (by
  walk_at "zz"
  rw [pR]
  rfl)]
 walk_at "zz"
 rw [i3 _ (fun x=>decide (x∈st))]
 walk_at "zz"
 rw [zy (by omega)]
 unfold ju
 rw [ke]
 have e:(id∘fun x=>decide (x∈st))=fun x=>decide (x∈st):=rfl
 rw [e]
 cases (a.all fun x=>decide (x∈st))<;>rfl
theorem KU {fs ss:List Str}{es:List ft} (g:fN fs es) (h:t5 fs ss):kR [dS fs es,aT ss]=.ok .none:=by
 unfold kR
 refine D3 (ρ:=[.shr (dS fs es),.shr (aT ss)]) ?_
 unfold kQ bd
 walk_at "zz"
 rw [KR]
 walk_at "zz"
 rw [gL g.rise.ok h (fS h g.rise.len)]
 walk_at "zz"
theorem EW {fs ss:List Str}{es:List ft} (g:fN fs es) (h:t5 fs ss):kU [dS fs es,aT ss]=.ok .none:=by
 unfold kU
 refine D3 (ρ:=[.shr (dS fs es),.shr (aT ss)]) ?_
 unfold kS bd
 walk_at "zz"
 rw [Hi g]
 walk_at "zz"
 rw [KU g h]
 walk_at "zz"
theorem rn {fs:List Str}{es:List ft}{x y:D}{p q r:Bool} (n:kO (.tuple [x,y])=true) (hx:cE [aT fs,x]=.ok (.bool p)) (hy:p=true->cE [aT fs,y]=.ok (.bool q)) (hs:p=true->q=true->dG [x,y]=.ok (.bool r)):ku [dS fs es,.tuple [x,y]]=.ok (.bool (p && (q && r))):=by
 unfold ku
 refine bS ?_
 unfold l_ bd
 walk_at "zz"
 rw [n,rm]
 walk_at "zz"
 rw [kA]
 walk_at "zz"
 rw [show decide (((2:Nat):Int)=2)=true from rfl]
 walk_at "zz"
 rw [VG]
 walk_at "zz"
 rw [KR]
 walk_at "zz"
 rw [hx]
 cases p with
 | false=>rfl
 | true =>
  walk_at "zz"
  rw [KR]
  walk_at "zz"
  rw [hy rfl]
  cases q with
  | false=>rfl
  | true =>
   walk_at "zz"
   rw [hs rfl rfl]
   cases r<;>rfl
structure zC (fs:List Str) (es:List ft) (d:D):Prop where
 no:ku [dS fs es,d]=.ok (.bool false)
theorem Ov {fs:List Str}{es:List ft}{d:D} (h0:kO d=true) (h1:pw "tuple" d=false):zC fs es d:=by
 constructor
 unfold ku
 refine bS ?_
 unfold l_ bd
 walk_at "zz"
 rw [h0,h1]
 walk_at "zz"
theorem Ow {fs:List Str}{es:List ft}{ds:List D} (h0:kO (.tuple ds)=true) (h1:ds.length≠2):zC fs es (.tuple ds):=by
 constructor
 unfold ku
 refine bS ?_
 unfold l_ bd
 walk_at "zz"
 rw [h0,rm]
 walk_at "zz"
 rw [kA]
 walk_at "zz"
 rw [decide_eq_false (by omega)]
 walk_at "zz"
theorem Ox {fs m b:List Str}{es:List ft} (g:fN fs es) (h:vi fs m b):iP [dS fs es,mI m b]=.ok .none:=by
 have n:kO (mI m b)=true:=by
  have:kO (mI m b)=(kO (aT m) && (kO (aT b) && true)):=rfl
  rw [this,gF,gF];rfl
 have l1:=fS h.must g.rise.len
 have l2:=fS h.bars g.rise.len
 unfold iP
 refine D3 (ρ:=[.shr (dS fs es),.shr (mI m b)]) ?_
 unfold jX bd
 walk_at "zz"
 rw [rn n (gL g.rise.ok h.must l1) (fun _=>gL g.rise.ok h.bars l2) (fun _ _=>wj h.mb l1)]
 walk_at "zz"
 rfl
theorem Oy {fs:List Str}{es:List ft}{d:D} (h:zC fs es d):iP [dS fs es,d]=.ex "NoWant" none:=by
 unfold iP
 refine zk ?_
 unfold jX bd
 walk_at "zz"
 rw [h.no]
 walk_at "zz"
 rw [QQ _ _ _ _ rfl (by decide)]
theorem Oz {fs ss m b:List Str}{es:List ft} (g:fN fs es) (h:t5 fs ss) (w:vi fs m b):jr [dS fs es,aT ss,mI m b]=.ok .none:=by
 unfold jr
 refine D3 (ρ:=[.shr (dS fs es),.shr (aT ss),.shr (mI m b)]) ?_
 unfold l9 bd
 walk_at "zz"
 rw [EW g h]
 walk_at "zz"
 rw [Ox g w]
 walk_at "zz"
theorem TF {fs ss:List Str}{es:List ft}{d:D} (g:fN fs es) (h:t5 fs ss) (w:zC fs es d):jr [dS fs es,aT ss,d]=.ex "NoWant" none:=by
 unfold jr
 refine zk ?_
 unfold l9 bd
 walk_at "zz"
 rw [EW g h]
 walk_at "zz"
 rw [Oy w]
 walk_at "zz"
theorem Js {i:Nat}{g:av->R D}{ρ:av}{ds es:List D} (hi:ρ[i]?=some (Sl.own (.list ds))) (hg:g ρ=.ok (.list es)) (hl:ds.length + es.length<=1000):CL i g ρ=.ok (.nx (ρ.set i (.own (.list (ds++es))))):=by
 unfold CL
 simp only [hi,hg,bind_ok,if_pos hl]
theorem VH (g:av->R D) (s:Sl) (ρ:av):Qw g (s::ρ)=(g (s::ρ)).bind Tk:=id rfl
theorem QS (fs:List Str):Tk (aT fs)=.ok (aT fs.reverse):=by
 show R.ok (cY (fs.map au).reverse)=_
 rw [<- List.map_reverse]
theorem D5 (x:Str) (r:List Str):Au (aT (x::r)) none (some 1)=.ok (aT [x]):=by
 have e:Au (aT (x::r)) none (some 1)=.ok (.tuple (qV ((x::r).map .str) none (some 1))):=rfl
 rw [e,show (1:Int)=((1:Nat):Int) from rfl,Hd _ 1 (by simp)]
 rfl
theorem QT (x:Str) (r:List Str):aU (aT (x::r)) (.int 0)=.ok (.str x):=by
 have e:aU (aT (x::r)) (.int 0)=CB (.tuple (.str x::r.map .str)) (.int 0):=rfl
 rw [e]
 unfold CB
 have:=rQ (xs:=au x::r.map .str) (j:=0) (v:=.str x) rfl
 rw [show ((0:Nat):Int)=0 from rfl] at this
 simp only [this]
theorem EX (xs:List D):jT (.tuple xs)=.ok (.list xs):=id rfl
theorem D6 (ns:List Int) (k:Int) (hk:0<=k) {L:List D}{P:D->Prop} (hL:0<L.length) (h:∀ d∈L,P d) (F:D):∃ d,cg (g2 (rB 3) (dz 3 a_ (J.aa (rS 0) (J.aa (rS 1) (J.aa (c6 (J.aa (rB 3) J.aA) (iK j7)) J.aA)))) aU) [.shr (.list (ns.map .int)),.shr (.int k),.shr F,.own (.list L)]=.ok (.rt d)/\P d:=by
 have hm:=e7 ns k (L.length:Nat) hk (by omega)
 obtain ⟨d,hd,e⟩:=D4 (L:=L) (e6 ns k (L.length:Nat) (by omega)) (eS ns k (L.length:Nat) (by omega))
 refine ⟨d,?_,h d hd⟩
 walk_at "zz"
 rw [hm]
 walk_at "zz"
 rw [e]
 walk_at "zz"
theorem KW (ns:List Int) (k:Int) (hk:0<=k) (fs:List Str) (hr:Ha fs 6):∃ d,lA [.list (ns.map .int),.int k,aT fs]=.ok d/\xy fs d:=by
 suffices H:∃ d,i8 (bd 4 [.list (ns.map .int),.int k,aT fs])=.ok (.rt d)/\xy fs d by
  obtain ⟨d,h1,h2⟩:=H
  exact ⟨d,bS h1,h2⟩
 have l:=hr.len
 have b0:=X7 hr.ok l
 unfold i8 bd
 generalize hG:cg _=G
 walk_at "zz"
 rw [EX]
 walk_at "zz"
 rw [if_pos (by omega)]
 walk_at "zz"
 rw [xZ fs hr.ok]
 walk_at "zz"
 cases fs with
 | nil =>
  walk_at "zz"
  rw [show decide ((1:Int)<((0:Nat):Int))=false from rfl]
  walk_at "zz"
  rw [<- hG]
  exact D6 ns k hk (L:=t6 []) (by decide) b0 _
 | cons x r =>
  have b1:=X8 hr.ok hr.up l
  rw [decide_eq_false (by simp)]
  simp only [hJ,cond_true]
  simp only [aO] at l
  rw [Js (ds:=t6 (x::r)) (es:=zA x (x::r))]
  ·walk_at "zz"
   have bb:∀ d∈t6 (x::r)++zA x (x::r),xy (x::r) d:=fun d hd=>(List.mem_append.mp hd).elim (b0 d) (b1 d)
   cases r with
   | nil =>
    rw [show decide ((1:Int)<(([].length + 1:Nat):Int))=false from rfl]
    walk_at "zz"
    rw [<- hG]
    exact D6 ns k hk (by simp [t6]) bb _
   | cons y r =>
    rw [decide_eq_true (by simp only [aO];omega)]
    simp only [cond_true]
    have b2:=X9 hr.ok hr.up hr.len
    rw [Js (ds:=t6 (x::y::r)++zA x (x::y::r)) (es:=[aT (x::y::r).reverse,aT (x::y::r).reverse,aT (x::y::r).reverse])]
    ·walk_at "zz"
     rw [<- hG]
     exact D6 ns k hk (by simp [t6]) (fun d hd=>(List.mem_append.mp hd).elim (bb d) fun h=>by
      simp only [aQ,aD,or_false,or_self] at h
      rw [h];exact b2) _
    ·rfl
    ·rw [Vy]
     walk_at "zz"
     rw [VH]
     walk_at "zz"
     rw [QS]
     rfl
    ·simp [t6,zA]
  ·rfl
  ·walk_at "zz"
   rw [if_pos (by omega)]
   walk_at "zz"
   rw [D5]
   walk_at "zz"
   rw [D5]
   walk_at "zz"
   rw [QT]
   walk_at "zz"
   rfl
  ·simp [t6,zA]
def u0 (b:D):List D:=[.none,.tuple [.tuple []],.list [.tuple [],.tuple []],.tuple [.tuple [],.tuple [],.tuple []],.tuple [b,.tuple []],.tuple [.tuple [],b],.tuple [b,.tuple []],.tuple [.tuple [],b],.int 0]
theorem KY {fs:List Str} (hf:∀ x∈fs,t_ x=true):cE [aT fs,.tuple []]=.ok (.bool true):=gL (xs:=[]) hf ⟨.nil,fun _ h=>nomatch h⟩ (by decide)
theorem D7 {x y:D} (h1:kO x=true) (h2:kO y=true):kO (.tuple [x,y])=true:=by
 have:kO (.tuple [x,y])=(kO x && (kO y && true)):=rfl
 rw [this,h1,h2];rfl
theorem X_ {fs:List Str}{es:List ft}{b:D} (hf:∀ x∈fs,t_ x=true) (hb:xy fs b):∀ d∈u0 b,zC fs es d:=by
 intro d hd
 unfold u0 at hd
 simp only [aQ,aD,or_false] at hd
 have w1:zC fs es (.tuple [b,.tuple []]):=⟨rn (q:=false) (r:=false) (D7 hb.nd rfl) hb.no (fun h=>nomatch h) (fun h=>nomatch h)⟩
 have w2:zC fs es (.tuple [.tuple [],b]):=⟨rn (r:=false) (D7 rfl hb.nd) (KY hf) (fun _=>hb.no) (fun _ h=>nomatch h)⟩
 rcases hd with h | h | h | h | h | h | h | h | h<;>rw [h]
 ·exact Ov rfl rfl
 ·exact Ow rfl (by decide)
 ·exact Ov rfl rfl
 ·exact Ow rfl (by decide)
 ·exact w1
 ·exact w2
 ·exact w1
 ·exact w2
 ·exact Ov rfl rfl
def D8 (x:Str) (fs:List Str):List D:=[.tuple [aT fs,aT [x]],.tuple [aT [x],aT fs]]
theorem Y0 {x:Str}{r:List Str}{es:List ft} (hr:Ha (x::r) 6):∀ d∈D8 x (x::r),zC (x::r) es d:=by
 intro d hd
 unfold D8 at hd
 simp only [aQ,aD,or_false] at hd
 have l:=hr.len
 have f1:cE [aT (x::r),aT (x::r)]=.ok (.bool true):=gL hr.ok ⟨hr.up,fun _ h=>h⟩ l
 have f2:cE [aT (x::r),aT [x]]=.ok (.bool true):=gL hr.ok ⟨DH _ _,fun y h=>by rw [List.mem_singleton.mp h];exact al⟩ (by simp)
 have s1:dG [aT (x::r),aT [x]]=.ok (.bool false):=by
  rw [zy (by omega)]
  simp
 have s2:dG [aT [x],aT (x::r)]=.ok (.bool false):=by
  rw [zy (by simp)]
  simp
 rcases hd with h | h<;>rw [h]
 ·exact ⟨rn (D7 (gF _) (gF _)) f1 (fun _=>f2) (fun _ _=>s1)⟩
 ·exact ⟨rn (D7 (gF _) (gF _)) f2 (fun _=>f1) (fun _ _=>s2)⟩
theorem EY (ns:List Int) (k:Int) (hk:0<=k) {L:List D}{P:D->Prop} (hL:0<L.length) (h:∀ d∈L,P d) (F b:D):∃ d,cg (g2 (rB 4) (dz 3 a_ (J.aa (rS 0) (J.aa (rS 1) (J.aa (c6 (J.aa (rB 4) J.aA) (iK j7)) J.aA)))) aU) [.shr (.list (ns.map .int)),.shr (.int k),.shr F,.shr b,.own (.list L)]=.ok (.rt d)/\P d:=by
 have hm:=e7 ns k (L.length:Nat) hk (by omega)
 obtain ⟨d,hd,e⟩:=D4 (L:=L) (e6 ns k (L.length:Nat) (by omega)) (eS ns k (L.length:Nat) (by omega))
 refine ⟨d,?_,h d hd⟩
 walk_at "zz"
 rw [hm]
 walk_at "zz"
 rw [e]
 walk_at "zz"
theorem OA (ns:List Int) (k:Int) (hk:0<=k) (fs:List Str) (es:List ft) (hr:Ha fs 6):∃ d,j_ [.list (ns.map .int),.int k,aT fs]=.ok d/\zC fs es d:=by
 suffices H:∃ d,iI (bd 5 [.list (ns.map .int),.int k,aT fs])=.ok (.rt d)/\zC fs es d by
  obtain ⟨d,h1,h2⟩:=H
  exact ⟨d,bS h1,h2⟩
 obtain ⟨b,hb1,hb2⟩:=KW ns (k + 1) (by omega) fs hr
 have b0:=X_ (es:=es) hr.ok hb2
 unfold iI bd
 generalize hG:cg _=G
 walk_at "zz"
 rw [hb1]
 walk_at "zz"
 rw [xZ fs hr.ok]
 walk_at "zz"
 cases fs with
 | nil =>
  walk_at "zz"
  rw [<- hG]
  exact EY ns k hk (L:=u0 b) (by simp [u0]) b0 _ _
 | cons x r =>
  have b1:=Y0 (es:=es) hr
  rw [decide_eq_false (by simp)]
  simp only [hJ,cond_true]
  rw [Js (ds:=u0 b) (es:=D8 x (x::r))]
  ·walk_at "zz"
   rw [<- hG]
   exact EY ns k hk (by simp [u0]) (fun d hd=>(List.mem_append.mp hd).elim (b0 d) (b1 d)) _ _
  ·rfl
  ·walk_at "zz"
   rw [D5]
   walk_at "zz"
   rw [D5]
   walk_at "zz"
   rfl
  ·simp [u0,D8]
def vj (es:List ft) (nm:Str):Option ft:=es.find? fun e=>decide (e.name=nm)
def TH:Option ft->D
 | none=>.none
 | some e=>cw e
theorem wk {fs:List Str}{es:List ft} (g:fN fs es) {nm:Str} (hn:t_ nm=true):cL [dS fs es,.str nm]=.ok (TH (vj es nm)):=by
 unfold cL
 refine bS ?_
 unfold gy bd
 walk_at "zz"
 rw [He,Hg]
 walk_at "zz"
 rw [rh (ds:=es.map cw)]
 ·obtain ⟨h1,h2⟩:=EU cw (fun e=>decide (e.name=nm)) cw (fun ρ=>∃ z,ρ=[Sl.shr (dS fs es),.shr (.str nm),z]) (kt:=bX 2) (gb:=dY (fR (g2 (g2 (rB 2) (kI 0) aU) (rB 1) (kP false))) (cg (rS 2)) (fun ρ=>.ok (.nx ρ))) es [Sl.shr (dS fs es),.shr (.str nm),.no] (by
   rintro e he ρ ⟨z,rfl⟩
   refine ⟨[.shr (dS fs es),.shr (.str nm),.shr (cw e)],rfl,fun hp=>?_,fun hp=>⟨[.shr (dS fs es),.shr (.str nm),.shr (cw e)],?_,_,rfl⟩⟩
   ·walk_at "zz"
    rw [Hk]
    walk_at "zz"
    rw [D0 false (g.ok e he).name hn]
    walk_at "zz"
    rw [hp]
    walk_at "zz"
   ·walk_at "zz"
    rw [Hk]
    walk_at "zz"
    rw [D0 false (g.ok e he).name hn]
    walk_at "zz"
    rw [hp]
    walk_at "zz") ⟨_,rfl⟩
  cases hf:es.find? (fun e=>decide (e.name=nm)) with
  | some e =>
   rw [h1 e hf]
   walk_at "zz"
   unfold vj
   rw [hf]
   rfl
  | none =>
   obtain ⟨ρ',e1,z,rfl⟩:=h2 hf
   rw [e1]
   walk_at "zz"
   unfold vj
   rw [hf]
   rfl
 ·walk_at "zz"
  rw [KS]
  walk_at "zz"
theorem pS:∀ {es:List ft},(es.map (·.name)).Nodup->∀ {e:ft},e∈es->vj es e.name=some e
 | x::r,nd,e,he=>by
  obtain ⟨n1,n2⟩:=List.nodup_cons.mp nd
  unfold vj
  rw [dL]
  rcases List.mem_cons.mp he with h | h
  ·subst h;simp
  ·have:x.name≠e.name:=fun z=>n1 (by show x.name∈_;rw [z];exact mi h)
   rw [decide_eq_false this]
   exact pS n2 h
structure Jt (e:ft):Prop where
 needs:e.needs.length<=6
 bars:e.bars.length<=6
 makes:e.makes.length<=6
 ends:e.ends.length<=6
theorem vk {fs:List Str}{es:List ft} (g:fN fs es) {e:ft} (he:e∈es):Jt e :=
 ⟨fS (g.ok e he).needs g.rise.len,fS (g.ok e he).bars g.rise.len,fS (g.ok e he).makes g.rise.len,fS (g.ok e he).ends g.rise.len⟩
theorem OB {fs:List Str}{es:List ft} (g:fN fs es):cL [dS fs es,.str "zzzzz"]=.ok .none:=by
 unfold cL
 refine bS ?_
 unfold gy bd
 walk_at "zz"
 rw [He,Hg]
 walk_at "zz"
 rw [rh (ds:=es.map cw)]
 ·refine KQ (P:=fun ρ=>∃ z,ρ=[Sl.shr (dS fs es),.shr (.str "zzzzz"),z]) (BD cw _ es _ ?_ ⟨_,rfl⟩) ?_
  ·rintro e he ρ ⟨z,rfl⟩
   refine ⟨[.shr (dS fs es),.shr (.str "zzzzz"),.shr (cw e)],rfl,[.shr (dS fs es),.shr (.str "zzzzz"),.shr (cw e)],?_,_,rfl⟩
   walk_at "zz"
   rw [Hk]
   walk_at "zz"
   rw [X3 (g.ok e he).name]
   walk_at "zz"
  ·rintro ρ ⟨z,rfl⟩
   walk_at "zz"
 ·walk_at "zz"
  rw [KS]
  walk_at "zz"
theorem zD {fs:List Str}{es:List ft}{d:D} (h1:kO d=true) (h2:pw "str" d=false):cL [dS fs es,d]=.ok .none:=by
 unfold cL
 refine bS ?_
 unfold gy bd
 walk_at "zz"
 rw [h1,h2]
 walk_at "zz"
theorem Xa (e:ft):aU (cw e) (.int 1)=.ok (aT e.needs):=id rfl
theorem Xb (e:ft):aU (cw e) (.int 2)=.ok (aT e.bars):=id rfl
def EZ (e:ft) (st:List Str):Option (List Str):=if ju st e.needs e.bars then some (DE ((st.filter fun x=>!decide (x∈e.ends))++e.makes)) else none
def QU:Option (List Str)->D
 | none=>.none
 | some s=>aT s
theorem y0 {e:ft} (he:Jt e) {st:List Str} (hs:st.length<=30):fe [cw e,aT st]=.ok (QU (EZ e st)):=by
 have:=he.needs
 have:=he.bars
 have:=he.makes
 unfold fe
 refine bS ?_
 unfold pO bd
 walk_at "zz"
 rw [Vx]
 walk_at "zz"
 rw [Jp (by omega) (by omega)]
 walk_at "zz"
 unfold EZ
 cases hg:ju st e.needs e.bars with
 | false =>
  walk_at "zz"
  rfl
 | true =>
  walk_at "zz"
  rw [if_pos (by omega)]
  rw [jU _ (fun x:Str=>au x) (fun x=>au x) (fun x=>!decide (x∈e.ends)) st fun x hx=>xU (by
   walk_at "zz"
   rw [X2]
   walk_at "zz"
   rw [pR]
   rfl) fun _=>rfl]
  have hf:(st.filter fun x=>!decide (x∈e.ends)).length<=st.length:=Gj _ _
  walk_at "zz"
  rw [wg,Jj]
  walk_at "zz"
  rw [X1]
  walk_at "zz"
  rw [EX]
  walk_at "zz"
  rw [if_pos (by omega)]
  walk_at "zz"
  rw [<- b_,zt _ (by rw [aL];omega)]
  walk_at "zz"
  rw [zu _ (by have:=gE ((st.filter fun x=>!decide (x∈e.ends))++e.makes) [];simp only [bx,aL] at this;omega)]
  walk_at "zz"
  rw [fM]
  rfl
theorem TJ:∀ {a b:List Str},(a.Pairwise fun x y=>lL x y=true)->(b.Pairwise fun x y=>lL x y=true)->(∀ x,x∈a↔x∈b)->a=b:=by
 intro a b ha hb h
 have na:=js ha
 have nb:=js hb
 have p:a.Perm b:=(ni na nb).mpr h
 exact p.eq_of_pairwise (fun x y _ _ h1 h2=>by
  have:=lZ h1 h2
  rw [ml] at this
  cases this) ha hb
def eu (e:ft) (st:List Str):List Str:=DE ((st.filter fun x=>!decide (x∈e.ends))++e.makes)
theorem Ho {e:ft}{st:List Str}{x:Str}:x∈eu e st↔(x∈st/\x∉e.ends)\/x∈e.makes:=by
 unfold eu
 rw [nD]
 simp [List.mem_filter]
theorem wl (e:ft) (st:List Str):EZ e st=if ju st e.needs e.bars then some (eu e st) else none:=rfl
theorem KZ (s:List Str):QU (some s)=aT s:=rfl
theorem K_:QU none=.none:=rfl
theorem VI (ga gb:av->R (List Str)) (s:Sl) (ρ:av) {xs ys:List Str} (h1:ga (s::ρ)=.ok xs) (h2:gb (s::ρ)=.ok ys) (hl:xs.length + ys.length<=15):O1 ga gb (s::ρ)=.ok (de xs ys):=by
 unfold O1 J.To
 rw [h1,bind_ok,h2,bind_ok,if_pos hl]
theorem BF (ss:List Str) (h:ss.length<60):tW (aT ss)=.ok (de [] ss):=by
 have e:∀ ds,tW (.tuple ds)=match gJ ds with
  | some ss=>if ss.length<60 then .ok (de [] ss) else .no
  | none=>.no:=fun _=>rfl
 rw [e,strsOf_map]
 simp only [if_pos h]
theorem TK (xs ys:List Str):jO (de (de [] xs) (de [] ys))=DE (xs++ys):=by
 refine TJ (w5 (qN _) ((h_ _).nodup_iff.mpr (iD _ _ (iD _ [] iY)))) (Hc _) fun x=>?_
 rw [(h_ _).mem_iff,iN,iN,iN,nD,Aa]
 simp
theorem L3 {xs ys:List Str} (h:xs.length + ys.length<=12):vd [aT xs,aT ys]=.ok (aT (DE (xs++ys))):=by
 have l1:=gE xs []
 have l2:=gE ys []
 simp only [bx] at l1 l2
 have l3:=gE (de [] ys) (de [] xs)
 unfold vd
 refine bS ?_
 unfold vc bd
 walk_at "zz"
 rw [wg,VI _ _ _ _ (BF xs (by omega)) (BF ys (by omega)) (by omega)]
 walk_at "zz"
 rw [zu _ (by omega),TK]
 walk_at "zz"
 rw [fM]
 walk_at "zz"
theorem Hq {xs ys:List Str} (h:xs.length<=60):sf [aT xs,aT ys]=.ok (aT (xs.filter fun x=>!decide (x∈ys))):=by
 unfold sf
 refine bS ?_
 unfold se bd
 walk_at "zz"
 rw [if_pos (by omega)]
 rw [jU _ (fun x:Str=>au x) (fun x=>au x) (fun x=>!decide (x∈ys)) xs fun x hx=>xU (by
  walk_at "zz"
  rw [pR]
  rfl) fun _=>rfl]
 walk_at "zz"
 rw [fM]
 walk_at "zz"
theorem VJ {i j:Nat}{gs:av->R (List D)}{s:Sl}{ρ:av}{d e:D} (h:gs (s::ρ)=.ok [d,e]):O3 i j gs (s::ρ)=.ok (.nx (((s::ρ).set i (.shr d)).set j (.shr e))):=by
 unfold O3
 rw [h]
 rfl
theorem L5 {e:ft} (he:Jt e) {st:List Str} (hs:st.length<=6):fK [cw e,aT st]=.ok (aT (eu e st)):=by
 have:=he.makes
 have hf:(st.filter fun x=>!decide (x∈e.ends)).length<=st.length:=Gj _ _
 unfold fK
 refine bS ?_
 unfold jY bd
 walk_at "zz"
 rw [VJ (d:=aT e.makes) (e:=aT e.ends) rfl]
 walk_at "zz"
 rw [Hq (by omega)]
 walk_at "zz"
 rw [L3 (by omega)]
 rfl
theorem BG {e:ft} (he:Jt e) {st:List Str}:iH [cw e,aT st]=.ok (.bool (ju st e.needs e.bars)):=by
 have:=he.needs
 have:=he.bars
 unfold iH
 refine bS ?_
 unfold nw bd
 walk_at "zz"
 rw [Xa]
 walk_at "zz"
 rw [Xb]
 walk_at "zz"
 rw [zB (by omega) (by omega)]
 walk_at "zz"
def xz:List ft->List Str->Option (List Str)
 | [],st=>some st
 | e::r,st=>if ju st e.needs e.bars then xz r (eu e st) else none
def il:List ft->List Str->List (List Str)
 | [],st=>[st]
 | e::r,st=>if ju st e.needs e.bars then st::il r (eu e st) else [st]
def nG (st m b:List Str) (rs:List ft):Bool:=match xz rs st with
 | some s=>ju s m b
 | none=>false
theorem u3 {fs st:List Str}{e:ft} (hf:fs.Pairwise fun a b=>lL a b=true) (g:rl fs e) (h:t5 fs st):t5 fs (eu e st):=by
 refine ⟨Hc _,fun x hx=>?_⟩
 rcases Ho.mp hx with z | z
 ·exact h.mem x z.1
 ·exact g.makes.mem x z
theorem L6:∀ (rs:List ft) (st:List Str),(il rs st).length<=rs.length + 1
 | [],_=>ar _
 | e::r,st=>by
  unfold il
  split
  ·have:=L6 r (eu e st)
   simp only [aO]
   omega
  ·simp
theorem BH:∀ (rs:List ft) (st:List Str),decide (((rs.length:Nat):Int)<((il rs st).length:Nat))=(xz rs st).isSome
 | [],_=>rfl
 | e::r,st=>by
  unfold il xz
  cases ju st e.needs e.bars with
  | true =>
   rw [if_pos rfl,if_pos rfl,<- BH r]
   simp only [aO]
   congr 1
   simp only [eq_iff_iff]
   omega
  | false =>
   rw [if_neg aN,if_neg aN]
   simp only [aO,bx]
   exact decide_eq_false (by omega)
theorem u4:∀ (rs:List ft) (st s:List Str),xz rs st=some s->∃ pre,il rs st=pre++[s]
 | [],st,s,h=>by cases h;exact ⟨[],rfl⟩
 | e::r,st,s,h=>by
  unfold xz at h
  unfold il
  cases hg:ju st e.needs e.bars with
  | true =>
   rw [hg,if_pos rfl] at h
   rw [if_pos rfl]
   obtain ⟨pre,hp⟩:=u4 r _ _ h
   exact ⟨st::pre,by rw [hp];rfl⟩
  | false=>rw [hg] at h;cases h
theorem y8 (xs:List D) (x:D):aU (.list (xs++[x])) (.int (-1))=.ok x:=by
 have e:aU (.list (xs++[x])) (.int (-1))=CB (.list (xs++[x])) (.int (-1)):=rfl
 rw [e]
 unfold CB
 have:DP (xs++[x]) (-1)=some x:=by
  unfold DP Rf
  rw [if_neg (by decide),if_pos (by simp only [aL,aO,bx];omega)]
  have hj:(-1 + ((xs++[x]).length:Int)).toNat=xs.length:=by simp only [aL,aO,bx];omega
  simp only [wL,hj]
  rw [bj (ar _)]
  simp
 simp only [this]
theorem TL {i:Nat}{kt:D->av->R av}{gb:av->R Fl}{ρ:av}{d:D} (h:ρ[i]?=some (Sl.shr d)):yW i kt gb ρ=qr (lK fun ρ=>FU ρ i) kt gb ρ:=by
 unfold yW
 rw [h]
structure O_ (es rs:List ft):Prop where
 mem:∀ e∈rs,e∈es
 len:rs.length<=64
abbrev lQ (rs:List ft):D:=.list (rs.map fun e=>au e.name)
theorem OC (rs:List ft):noDs (rs.map fun e=>au e.name)=true:=nF _ (fun _=>rfl) rs
theorem OD {fs:List Str}{es rs:List ft} (g:fN fs es) (h:O_ es rs):lc [dS fs es,lQ rs]=.ok (.bool true):=by
 have hl:=h.len
 unfold lc
 refine bS ?_
 unfold mB bd
 walk_at "zz"
 rw [show kO (lQ rs)=true from OC rs,show pw "list" (lQ rs)=true from rfl]
 walk_at "zz"
 rw [decide_eq_false (by omega)]
 walk_at "zz"
 rw [if_pos (by omega)]
 rw [cD _ (fun e:ft=>au e.name) (fun _=>c9 true) rs fun e he=>d_ rfl (by
  walk_at "zz"
  rw [wk g (g.ok e (h.mem e he)).name,pS g.nd (h.mem e he)]
  simp only [TH]
  walk_at "zz"
  rw [Se])]
 walk_at "zz"
 rw [i3 _ (fun _=>true)]
 walk_at "zz"
 simp
theorem Hr {fs:List Str}{es rs:List ft} (g:fN fs es) (h:O_ es rs):iQ [dS fs es,lQ rs]=.ok (.list (rs.map cw)):=by
 have hl:=h.len
 unfold iQ
 refine bS ?_
 unfold jZ bd
 walk_at "zz"
 rw [OD g h]
 walk_at "zz"
 rw [if_pos (by omega)]
 rw [cD _ (fun e:ft=>au e.name) cw rs fun e he=>d_ rfl (by
  walk_at "zz"
  rw [wk g (g.ok e (h.mem e he)).name,pS g.nd (h.mem e he)]
  rfl)]
 walk_at "zz"
theorem pT:T7 (.int 1)=.ok (.int (-1)):=rfl
theorem zE (g:av->R D) (s:Sl) (ρ:av):r9 g (s::ρ)=(g (s::ρ)).bind T7:=id rfl
theorem D9 {kt:D->av->R av}{gb:av->R Fl}{d:D}{r:List D}{ρ ρ1 ρ2:av} (h1:kt d ρ=.ok ρ1) (h2:gb ρ1=.ok (.nx ρ2)):iO kt gb (d::r) ρ=iO kt gb r ρ2:=by
 rw [iO,h1]
 simp only [h2]
theorem Da {kt:D->av->R av}{gb:av->R Fl}{d x:D}{r:List D}{ρ ρ1:av} (h1:kt d ρ=.ok ρ1) (h2:gb ρ1=.ok (.rt x)):iO kt gb (d::r) ρ=.ok (.rt x):=by
 rw [iO,h1]
 simp only [h2]
theorem wT {fs:List Str}{es:List ft} (g:fN fs es) (A B:D):∀ (rs:List ft) (pre:List (List Str)) (st:List Str) (z:Sl),(∀ e∈rs,e∈es)->t5 fs st->pre.length + rs.length<=100 ->
  (∃ z',iO (bX 3) (aW (dY (jk (fR (dz 2 iH (J.aa (rS 3) (J.aa (g2 (rB 2) (r9 (kI 1)) aU) J.aA))))) (cg (rS 2)) (fun ρ=>.ok (.nx ρ))) (pB 2 (dz 2 fK (J.aa (rS 3) (J.aa (g2 (rB 2) (r9 (kI 1)) aU) J.aA))))) (rs.map cw) [.shr A,.shr B,.own (.list ((pre++[st]).map aT)),z]=.ok (.nx [.shr A,.shr B,.own (.list ((pre++il rs st).map aT)),z'])) \/
  iO (bX 3) (aW (dY (jk (fR (dz 2 iH (J.aa (rS 3) (J.aa (g2 (rB 2) (r9 (kI 1)) aU) J.aA))))) (cg (rS 2)) (fun ρ=>.ok (.nx ρ))) (pB 2 (dz 2 fK (J.aa (rS 3) (J.aa (g2 (rB 2) (r9 (kI 1)) aU) J.aA))))) (rs.map cw) [.shr A,.shr B,.own (.list ((pre++[st]).map aT)),z]=.ok (.rt (.list ((pre++il rs st).map aT)))
 | [],pre,st,z,_,_,_=>.inl ⟨z,rfl⟩
 | e::r,pre,st,z,hm,hs,hl=>by
  have he:=hm e al
  have sh:=vk g he
  simp only [aO] at hl
  have hix:aU (.list ((pre++[st]).map aT)) (.int (-1))=.ok (aT st):=by
   rw [b_]
   exact y8 _ _
  unfold il
  cases hg:ju st e.needs e.bars with
  | true =>
   rw [if_pos rfl]
   have e2:pre++st::il r (eu e st)=(pre++[st])++il r (eu e st):=by simp
   rw [e2,aR]
   have hb:=wT g A B r (pre++[st]) (eu e st) (.shr (cw e)) (fun x hx=>hm x (ao _ hx)) (u3 g.rise.up (g.ok e he) hs) (by rw [aL];simp only [aO,bx];omega)
   have hbody:(aW (dY (jk (fR (dz 2 iH (J.aa (rS 3) (J.aa (g2 (rB 2) (r9 (kI 1)) aU) J.aA))))) (cg (rS 2)) (fun ρ=>.ok (.nx ρ))) (pB 2 (dz 2 fK (J.aa (rS 3) (J.aa (g2 (rB 2) (r9 (kI 1)) aU) J.aA))))) [.shr A,.shr B,.own (.list ((pre++[st]).map aT)),.shr (cw e)]=.ok (.nx [.shr A,.shr B,.own (.list ((pre++[st]++[eu e st]).map aT)),.shr (cw e)]):=by
    walk_at "zz"
    rw [zE]
    walk_at "zz"
    rw [pT]
    walk_at "zz"
    rw [hix]
    walk_at "zz"
    rw [BG sh,hg]
    walk_at "zz"
    rw [b_ (l₁:=pre++[st])]
    refine ES (ds:=(pre++[st]).map aT) (d:=aT (eu e st)) rfl ?_ (by rw [ay,aL];simp only [aO,bx];omega)
    walk_at "zz"
    rw [zE]
    walk_at "zz"
    rw [pT]
    walk_at "zz"
    rw [hix]
    walk_at "zz"
    rw [L5 sh (fS hs g.rise.len)]
   rw [D9 (ρ1:=[.shr A,.shr B,.own (.list ((pre++[st]).map aT)),.shr (cw e)]) rfl hbody]
   exact hb
  | false =>
   rw [if_neg aN,aR]
   refine .inr (Da (ρ1:=[.shr A,.shr B,.own (.list ((pre++[st]).map aT)),.shr (cw e)]) rfl ?_)
   walk_at "zz"
   rw [zE]
   walk_at "zz"
   rw [pT]
   walk_at "zz"
   rw [hix]
   walk_at "zz"
   rw [BG sh,hg]
   walk_at "zz"
theorem Ht {fs st:List Str}{es rs:List ft} (g:fN fs es) (h:O_ es rs) (hs:t5 fs st):iS [.list (rs.map cw),aT st]=.ok (.list ((il rs st).map aT)):=by
 have hl:=h.len
 unfold iS
 refine bS ?_
 unfold iR bd
 walk_at "zz"
 rw [TL (d:=.list (rs.map cw)) rfl,rh (ds:=rs.map cw)]
 ·rcases wT g (.list (rs.map cw)) (aT st) rs [] st .no h.mem hs (by simp only [bx];omega) with ⟨z,e⟩ | e
  ·rw [eA,eA] at e
   simp only [aR,ef] at e
   rw [e]
   walk_at "zz"
  ·rw [eA,eA] at e
   simp only [aR,ef] at e
   rw [e]
   walk_at "zz"
 ·walk_at "zz"
theorem L7 {fs st m b:List Str}{es rs:List ft} (g:fN fs es) (h:O_ es rs) (hs:t5 fs st) (hw:vi fs m b):fL [dS fs es,aT st,mI m b,lQ rs]=.ok (.bool (nG st m b rs)):=by
 have l1:=fS hw.must g.rise.len
 have l2:=fS hw.bars g.rise.len
 unfold fL
 refine bS ?_
 unfold oT bd
 walk_at "zz"
 rw [Oz g hs hw]
 walk_at "zz"
 rw [Hr g h]
 walk_at "zz"
 rw [Ht g h hs]
 walk_at "zz"
 rw [BH]
 unfold nG
 cases hr:xz rs st with
 | none =>
  rw [Option.isSome_none]
  walk_at "zz"
 | some s =>
  obtain ⟨pre,hp⟩:=u4 rs st s hr
  rw [mT,hp,b_]
  walk_at "zz"
  rw [zE]
  walk_at "zz"
  rw [pT]
  walk_at "zz"
  rw [y8]
  walk_at "zz"
  rw [zB (by omega) (by omega)]
  walk_at "zz"
theorem Ju (neg:Bool) (ds:List D) (h:bV ds=true):kP neg (.list ds) (.list [])=.ok (.bool (neg != decide (ds=[]))):=by
 unfold kP
 have h1:(hX ds).canLay0=true:=by simp only [fQ];exact h
 have h3:min (hX ds).depth (hX []).depth<=60:=bJ (qm _ _) (by decide)
 have h4:bG (.list ds) (.list [])=decide (ds=[]):=by
  cases ds with
  | nil=>rfl
  | cons x r=>simp [bG,AY]
 rw [h1,show (hX []).canLay0=true from rfl,decide_eq_true h3,h4]
 cases neg<;>cases decide (ds=[])<;>rfl
theorem Jv (ds:List D) (h:bV ds=true):kP false (.list ds) (.list [])=.ok (.bool (decide (ds=[]))):=by rw [Ju false ds h,Bool.false_bne]
theorem Db (ds:List D) (h:bV ds=true):kP true (.list ds) (.list [])=.ok (.bool (!decide (ds=[]))):=by rw [Ju true ds h,Bool.true_bne]
theorem OE (neg:Bool) (o:Option (List Str)):Bl neg (QU o) .none=.ok (.bool (neg == o.isSome)):=by cases o<;>cases neg<;>rfl
theorem QV {L:List ft}{j:Int} (h0:0<=j) (h1:j<(L.length:Nat)):∃ e∈L,aU (.list (L.map cw)) (.int j)=.ok (cw e):=by
 obtain ⟨n,rfl⟩:=k8 h0
 have hn:n<L.length:=by omega
 refine ⟨L[n],g_ hn,rR ?_⟩
 rw [aS,aZ hn]
 rfl
theorem Hu (e:ft) (st:List Str):(EZ e st).isSome=ju st e.needs e.bars:=by
 unfold EZ
 cases ju st e.needs e.bars<;>rfl
theorem BI {fs:List Str}{es:List ft} (g:fN fs es) (ns:List Int) (at0:Int) (h0:0<=at0) (M:D):∀ (ks:List Nat) (rs:List ft) (st:List Str) (z7 z8 z9:Sl),(∀ e∈rs,e∈es)->t5 fs st->rs.length + ks.length<=20 ->
  ∃ rs',(O_ es rs'/\rs'.length<=20)/\(iO (bX 6) (aW (gQ 7 (fo 1 [3] (lK (g2 (rB 2) (kI 1) aU)) (fR (g2 (dz 2 fe (J.aa (rS 0) (J.aa (rS 1) J.aA))) kN (Bl true))) (rS 0))) (aW (dY (fR (g2 (rB 7) (cc J.aA .list) (kP false))) (cg (rS 5)) (fun ρ=>.ok (.nx ρ))) (aW (fY 8 (g2 (rB 7) (dz 3 a_ (J.aa (rS 0) (J.aa (g2 (rB 1) (rB 6) dI) (J.aa (c6 (J.aa (rB 7) J.aA) (iK j7)) J.aA)))) aU)) (aW (pB 5 (g2 (rB 8) (kI 0) aU)) (fY 3 (dz 2 fe (J.aa (rS 8) (J.aa (rS 3) J.aA)))))))) (ks.map fun (i:Nat)=>eL (i:Int)) [.shr (.list (ns.map .int)),.shr (.int at0),.shr (dS fs es),.shr (aT st),.shr M,.own (lQ rs),z7,z8,z9]).bind (GV (cg (rS 5)))=.ok (.rt (lQ rs'))
 | [],rs,st,z7,z8,z9,hm,hs,hl=>by
  refine ⟨rs,⟨⟨hm,by simp only [bx] at hl;omega⟩,by simp only [bx] at hl;omega⟩,?_⟩
  rw [ef,iO]
  walk_at "zz"
 | k::ks,rs,st,z7,z8,z9,hm,hs,hl=>by
  have ls:=fS hs g.rise.len
  have lg:=g.len
  simp only [aO] at hl
  let L:=es.filter fun e=>ju st e.needs e.bars
  have hL:∀ e∈L,e∈es/\ju st e.needs e.bars=true:=fun e he=>List.mem_filter.mp he
  have hc:∀ (z:Sl),fo 1 [3] (lK (g2 (rB 2) (kI 1) aU)) (fR (g2 (dz 2 fe (J.aa (rS 0) (J.aa (rS 1) J.aA))) kN (Bl true))) (rS 0) [.shr (.list (ns.map .int)),.shr (.int at0),.shr (dS fs es),.shr (aT st),.shr M,.own (lQ rs),.shr (.int (k:Int)),z8,z]=.ok (.list (L.map cw)):=by
   intro z
   walk_at "zz"
   rw [KS]
   walk_at "zz"
   rw [if_pos (by omega)]
   rw [jU _ cw cw (fun e=>ju st e.needs e.bars) es fun e he=>xU (by
    walk_at "zz"
    rw [y0 (vk g he) (by omega)]
    walk_at "zz"
    rw [OE,Hu]
    walk_at "zz"
    rw [Bool.true_beq]) fun _=>rfl]
   walk_at "zz"
   rfl
  have lay:bV (L.map cw)=true:=zx cw L fun e he=>Op g.rise.ok (g.ok e (hL e he).1)
  rw [aR]
  by_cases hn:L=[]
  ·refine ⟨rs,⟨⟨hm,by omega⟩,by omega⟩,?_⟩
   rw [Da (x:=lQ rs) (ρ1:=[.shr (.list (ns.map .int)),.shr (.int at0),.shr (dS fs es),.shr (aT st),.shr M,.own (lQ rs),.shr (.int (k:Int)),z8,z9]) rfl ?_]
   ·walk_at "zz"
   ·rw [zd]
    unfold gQ
    rw [hc]
    walk_at "zz"
    rw [Jv _ lay,hn]
    walk_at "zz"
  ·have hp:0<L.length:=List.length_pos_iff.mpr hn
   have hk:((L.length:Nat):Int) > 0:=by omega
   obtain ⟨e,he,hix⟩:=QV (L:=L) (e6 ns (at0 + k) (L.length:Nat) (by omega)) (eS ns (at0 + k) (L.length:Nat) (by omega))
   obtain ⟨he1,he2⟩:=hL e he
   obtain ⟨rs',r1,r2⟩:=BI g ns at0 h0 M ks (rs++[e]) (eu e st) (.shr (.int (k:Int))) (.own (.list (L.map cw))) (.shr (cw e)) (fun x hx=>by
    rcases List.mem_append.mp hx with h | h
    ·exact hm x h
    ·rw [List.mem_singleton.mp h];exact he1) (u3 g.rise.up (g.ok e he1) hs) (by rw [aL,gd];omega)
   refine ⟨rs',r1,?_⟩
   rw [D9 (ρ1:=[.shr (.list (ns.map .int)),.shr (.int at0),.shr (dS fs es),.shr (aT st),.shr M,.own (lQ rs),.shr (.int (k:Int)),z8,z9]) (ρ2:=[.shr (.list (ns.map .int)),.shr (.int at0),.shr (dS fs es),.shr (aT (eu e st)),.shr M,.own (lQ (rs++[e])),.shr (.int (k:Int)),.own (.list (L.map cw)),.shr (cw e)]) rfl ?_]
   ·exact r2
   ·rw [zd]
    unfold gQ
    rw [hc]
    walk_at "zz"
    rw [Jv _ lay,decide_eq_false (by simpa using hn)]
    walk_at "zz"
    rw [e7 ns (at0 + k) (L.length:Nat) (by omega) (by omega)]
    walk_at "zz"
    rw [hix]
    walk_at "zz"
    rw [ES (ds:=rs.map fun e=>au e.name) (d:=.str e.name) rfl (by
     walk_at "zz"
     rw [Hk]) (by rw [ay];omega)]
    walk_at "zz"
    rw [y0 (vk g he1) (by omega),wl,he2]
    walk_at "zz"
    simp only [lQ,b_]
    rfl
theorem QW {fs st:List Str}{es:List ft} (g:fN fs es) (ns:List Int) (k n:Int) (h0:0<=k) (hn:0<=n) (h20:n<=20) (hs:t5 fs st):∃ rs,O_ es rs/\rs.length<=20/\mH [.list (ns.map .int),.int k,dS fs es,aT st,.int n]=.ok (lQ rs):=by
 obtain ⟨j,rfl⟩:=k8 hn
 obtain ⟨rs,h1,h2⟩:=BI g ns k h0 (.int (j:Int)) (bt j) [] st .no .no .no (fun _ h=>nomatch h) hs (by simp;omega)
 refine ⟨rs,h1.1,h1.2,?_⟩
 unfold mH
 refine bS ?_
 unfold pP bd
 walk_at "zz"
 rw [rh (ds:=(bt j).map fun (i:Nat)=>eL (i:Int))]
 ·exact h2
 ·walk_at "zz"
  exact vf j (by omega)
def Hv (es:List ft):List (Str×D):=es.map fun e=>(e.name,cw e)
theorem E_:∀ es:List ft,J.nq (es.map fun e=>cY [.str e.name,cw e])=some (es.map fun e=>(uv e.name,cw e))
 | []=>rfl
 | e::r=>by
  show (r6 (.str e.name)).bind (fun y=>(J.nq (r.map fun e=>cY [.str e.name,cw e])).map ((y,cw e)::·))=_
  rw [E_ r]
  rfl
theorem F4:∀ (l acc:List (Str×D)),((acc++l).map (·.1)).Nodup->l.foldl (fun a p=>Av a (.str p.1) p.2) (iq acc)=iq (acc++l)
 | [],acc,_=>by rw [cj];rfl
 | p::r,acc,nd=>by
  have hx:p.1∉acc.map (·.1):=by
   rw [b_,aR] at nd
   intro h
   exact (List.nodup_append.mp nd).2.2 _ h _ al rfl
  have hp:sL acc p.1 p.2=acc++[p]:=by
   unfold sL
   rw [if_neg]
   rw [lj]
   rintro ⟨q,hq,e⟩
   exact hx (List.mem_map.mpr ⟨q,hq,of_decide_eq_true e⟩)
  rw [lW,Ji,hp]
  have:=F4 r (acc++[p]) (by rwa [kc])
  rwa [kc] at this
theorem QX {es:List ft} (nd:(es.map (·.name)).Nodup) (hl:es.length<=6):J.v9 (.list (es.map fun e=>cY [.str e.name,cw e]))=.ok (.dict (iq (Hv es))):=by
 have e:J.v9 (.list (es.map fun e=>cY [.str e.name,cw e]))=if (es.map fun e=>cY [.str e.name,cw e]).length<=1000 then (match J.nq (es.map fun e=>cY [.str e.name,cw e]) with
  | some ps=>.ok (.dict (ps.foldl (fun a p=>Av a (kD p.1) p.2) []))
  | none=>.no) else .no:=rfl
 rw [e,if_pos (by rw [ay];omega),E_]
 have:=F4 (Hv es) [] (by rw [eA];unfold Hv;rw [eZ];exact nd)
 rw [eA] at this
 rw [<- this]
 unfold Hv
 simp only [sW]
 rfl
theorem TM {es:List ft} (nd:(es.map (·.name)).Nodup) {e:ft} (he:e∈es):aU (.dict (iq (Hv es))) (.str e.name)=.ok (cw e) :=
 Ol (l:=Hv es) (by unfold Hv;rw [eZ];exact nd) (p:=(e.name,cw e)) (mi (f:=fun e=>(e.name,cw e)) he)
theorem vm {fs:List Str}{es:List ft} (g:fN fs es) (A B C:D):∀ (rs:List ft) (n:Nat) (pre:List (List Str)) (st:List Str) (x y z:Sl),(∀ e∈rs,e∈es)->t5 fs st->pre.length + rs.length<=100 ->
  match xz rs st with
  | some _=>∃ x' y' z',iO (ms 2 (cC (bX 5) (cC (bX 6) o9))) (aW (fY 7 (dz 2 fe (J.aa (g2 (rB 3) (rB 6) aU) (J.aa (g2 (rB 4) (r9 (kI 1)) aU) J.aA)))) (aW (dY (fR (g2 (rB 7) kN (Bl false))) (cg (rS 5)) (fun ρ=>.ok (.nx ρ))) (pB 4 (rS 7)))) (j8 n (rs.map fun e=>au e.name)) [.shr A,.shr B,.shr C,.own (.dict (iq (Hv es))),.own (.list ((pre++[st]).map aT)),x,y,z]=.ok (.nx [.shr A,.shr B,.shr C,.own (.dict (iq (Hv es))),.own (.list ((pre++il rs st).map aT)),x',y',z'])
  | none=>∃ k,iO (ms 2 (cC (bX 5) (cC (bX 6) o9))) (aW (fY 7 (dz 2 fe (J.aa (g2 (rB 3) (rB 6) aU) (J.aa (g2 (rB 4) (r9 (kI 1)) aU) J.aA)))) (aW (dY (fR (g2 (rB 7) kN (Bl false))) (cg (rS 5)) (fun ρ=>.ok (.nx ρ))) (pB 4 (rS 7)))) (j8 n (rs.map fun e=>au e.name)) [.shr A,.shr B,.shr C,.own (.dict (iq (Hv es))),.own (.list ((pre++[st]).map aT)),x,y,z]=.ok (.rt (.int k))
 | [],n,pre,st,x,y,z,_,_,_=>⟨x,y,z,rfl⟩
 | e::r,n,pre,st,x,y,z,hm,hs,hl=>by
  have he:=hm e al
  have sh:=vk g he
  have ls:=fS hs g.rise.len
  simp only [aO] at hl
  have hix:aU (.list ((pre++[st]).map aT)) (.int (-1))=.ok (aT st):=by
   rw [b_]
   exact y8 _ _
  have hk:aU (.dict (iq (Hv es))) (.str e.name)=.ok (cw e):=TM g.nd he
  have en:j8 n ((e::r).map fun e=>au e.name)=.tuple [.int (n:Nat),.str e.name]::j8 (n + 1) (r.map fun e=>au e.name):=rfl
  rw [en]
  unfold il xz
  cases hg:ju st e.needs e.bars with
  | true =>
   rw [if_pos rfl,if_pos rfl]
   have e2:pre++st::il r (eu e st)=(pre++[st])++il r (eu e st):=by simp
   rw [e2]
   have ih:=vm g A B C r (n + 1) (pre++[st]) (eu e st) (.shr (.int (n:Nat))) (.shr (.str e.name)) (.shr (aT (eu e st))) (fun x hx=>hm x (ao _ hx)) (u3 g.rise.up (g.ok e he) hs) (by rw [aL];simp only [aO,bx];omega)
   rw [D9 (ρ1:=[.shr A,.shr B,.shr C,.own (.dict (iq (Hv es))),.own (.list ((pre++[st]).map aT)),.shr (.int (n:Nat)),.shr (.str e.name),z]) (ρ2:=[.shr A,.shr B,.shr C,.own (.dict (iq (Hv es))),.own (.list ((pre++[st]++[eu e st]).map aT)),.shr (.int (n:Nat)),.shr (.str e.name),.shr (aT (eu e st))]) rfl ?_]
   ·exact ih
   ·walk_at "zz"
    rw [hk]
    walk_at "zz"
    rw [zE]
    walk_at "zz"
    rw [pT]
    walk_at "zz"
    rw [hix]
    walk_at "zz"
    rw [y0 sh (by omega),wl,hg]
    walk_at "zz"
    rw [KZ,Vv]
    walk_at "zz"
    rw [b_ (l₁:=pre++[st])]
    exact ES (ds:=(pre++[st]).map aT) (d:=aT (eu e st)) rfl (by rfl) (by rw [ay,aL];simp only [aO,bx];omega)
  | false =>
   rw [if_neg aN]
   refine ⟨(n:Int),?_⟩
   rw [Da (x:=.int (n:Nat)) (ρ1:=[.shr A,.shr B,.shr C,.own (.dict (iq (Hv es))),.own (.list ((pre++[st]).map aT)),.shr (.int (n:Nat)),.shr (.str e.name),z]) rfl ?_]
   walk_at "zz"
   rw [hk]
   walk_at "zz"
   rw [zE]
   walk_at "zz"
   rw [pT]
   walk_at "zz"
   rw [hix]
   walk_at "zz"
   rw [y0 sh (by omega),wl,hg]
   walk_at "zz"
   rw [K_,Vw]
   walk_at "zz"
theorem TQ (gs:av->R (List D)) (s:Sl) (ρ:av):J.Jb gs (s::ρ)=(gs (s::ρ)).bind J.QA:=id rfl
theorem OF (g:av->R D) (s:Sl) (ρ:av):J.xW g (s::ρ)=(g (s::ρ)).bind J.v9:=id rfl
theorem QY (ds:List D):J.QA [.list ds]=.ok (j8 0 ds):=rfl
theorem Hw {fs st:List Str}{es rs:List ft} (g:fN fs es) (h:O_ es rs) (hs:t5 fs st):match xz rs st with
  | some _=>iV [dS fs es,aT st,lQ rs]=.ok (.list ((il rs st).map aT))
  | none=>∃ k,iV [dS fs es,aT st,lQ rs]=.ok (.int k):=by
 have hl:=h.len
 have lg:=g.len
 have L:=vm g (dS fs es) (aT st) (lQ rs) rs 0 [] st .no .no .no h.mem hs (by simp only [bx];omega)
 have K:∀ {x:D},(iO (ms 2 (cC (bX 5) (cC (bX 6) o9))) (aW (fY 7 (dz 2 fe (J.aa (g2 (rB 3) (rB 6) aU) (J.aa (g2 (rB 4) (r9 (kI 1)) aU) J.aA)))) (aW (dY (fR (g2 (rB 7) kN (Bl false))) (cg (rS 5)) (fun ρ=>.ok (.nx ρ))) (pB 4 (rS 7)))) (j8 0 (rs.map fun e=>au e.name)) [.shr (dS fs es),.shr (aT st),.shr (lQ rs),.own (.dict (iq (Hv es))),.own (.list (([]++[st]).map aT)),.no,.no,.no]).bind (GV (cg (rS 4)))=.ok (.rt x)->iV [dS fs es,aT st,lQ rs]=.ok x:=by
  intro x hx
  unfold iV
  refine bS ?_
  unfold lP bd
  walk_at "zz"
  rw [OF]
  walk_at "zz"
  rw [KS]
  walk_at "zz"
  rw [if_pos (by omega)]
  rw [cD _ cw (fun e=>cY [.str e.name,cw e]) es fun e he=>d_ rfl (by
   walk_at "zz"
   rw [Hk]
   walk_at "zz")]
  walk_at "zz"
  rw [QX g.nd lg]
  walk_at "zz"
  rw [rh (ds:=j8 0 (rs.map fun e=>au e.name))]
  ·exact hx
  ·rw [TQ]
   walk_at "zz"
   rw [QY]
 cases hr:xz rs st with
 | none =>
  rw [hr] at L
  obtain ⟨k,L⟩:=L
  refine ⟨k,K ?_⟩
  rw [L]
  walk_at "zz"
 | some s =>
  rw [hr] at L
  obtain ⟨x,y,z,L⟩:=L
  refine K ?_
  rw [L]
  walk_at "zz"
theorem QZ {fs st m b:List Str}{es rs:List ft} (g:fN fs es) (h:O_ es rs) (hs:t5 fs st) (hw:vi fs m b):kz [dS fs es,aT st,mI m b,lQ rs]=.ok (.bool (nG st m b rs)):=by
 have l1:=fS hw.must g.rise.len
 have l2:=fS hw.bars g.rise.len
 have L:=Hw g h hs
 unfold kz
 refine bS ?_
 unfold pQ bd
 walk_at "zz"
 unfold nG
 cases hr:xz rs st with
 | none =>
  rw [hr] at L
  obtain ⟨k,L⟩:=L
  rw [L]
  walk_at "zz"
  rw [show kO (.int k)=true from rfl,show pw "int" (.int k)=true from rfl]
  walk_at "zz"
 | some s =>
  rw [hr] at L
  simp only at L
  rw [L]
  obtain ⟨pre,hp⟩:=u4 rs st s hr
  rw [hp]
  walk_at "zz"
  rw [show kO (.list ((pre++[s]).map aT))=true from nF _ gF _,show pw "int" (.list ((pre++[s]).map aT))=false from rfl]
  walk_at "zz"
  rw [zE]
  walk_at "zz"
  rw [pT]
  walk_at "zz"
  rw [b_,show wM aT [s]=[aT s] from rfl]
  rw [y8]
  walk_at "zz"
  rw [Jp (by omega) (by omega)]
  walk_at "zz"
structure Dc (fs:List Str) (es:List ft) (d:D):Prop where
 no:lc [dS fs es,d]=.ok (.bool false)
theorem F5 {fs:List Str}{es:List ft}{d:D} (h0:kO d=true) (h1:pw "list" d=false):Dc fs es d:=by
 refine ⟨?_⟩
 unfold lc
 refine bS ?_
 unfold mB bd
 walk_at "zz"
 rw [h0,h1]
 walk_at "zz"
theorem Q_ {fs:List Str}{es:List ft}{ds:List D} (h0:kO (.list ds)=true) (h1:64<ds.length):Dc fs es (.list ds):=by
 refine ⟨?_⟩
 unfold lc
 refine bS ?_
 unfold mB bd
 walk_at "zz"
 rw [h0,show pw "list" (.list ds)=true from rfl]
 walk_at "zz"
 rw [decide_eq_true (by omega)]
 walk_at "zz"
theorem vn {fs:List Str}{es:List ft}{ds:List D} (h0:kO (.list ds)=true) (hl:ds.length<=64) (b:D->Bool) (hb:∀ d∈ds,∃ r,cL [dS fs es,d]=.ok r/\Bl true r .none=.ok (.bool (b d))) (hz:ds.all b=false):Dc fs es (.list ds):=by
 refine ⟨?_⟩
 unfold lc
 refine bS ?_
 unfold mB bd
 walk_at "zz"
 rw [h0,show pw "list" (.list ds)=true from rfl]
 walk_at "zz"
 rw [decide_eq_false (by omega)]
 walk_at "zz"
 rw [if_pos (by omega)]
 rw [show ds=ds.map (fun d:D=>d) from (List.map_id _).symm]
 rw [cD _ (fun d:D=>d) (fun d=>c9 (b d)) ds fun d hd=>d_ rfl (by
  obtain ⟨r,r1,r2⟩:=hb d hd
  walk_at "zz"
  rw [r1]
  walk_at "zz"
  rw [r2])]
 walk_at "zz"
 rw [i3 _ b]
 walk_at "zz"
 rw [ke,show (id∘b)=b from rfl,hz]
def vo (ns:List Str):List D:=[.none,.tuple (ns.map .str),.list ((ns++[("zzzzz" : Str)]).map .str),.list [.str "zzzzz"],.list [.none],.list [.list [.str "a"]],.str "a",.int 0,.list [.int 1]]
def F6 (x:Str):List D:=[.list (bi 65 [au x]).flatten,.tuple [.str x]]
theorem Y1 {fs:List Str}{es:List ft} (g:fN fs es):∀ d∈vo (es.map (·.name)),Dc fs es d:=by
 have lg:=g.len
 have bz:∀ d,(d=.str "zzzzz"\/∃ e∈es,d=.str e.name)->∃ r,cL [dS fs es,d]=.ok r/\Bl true r .none=.ok (.bool (match d with
   | .str x=>!decide (x="zzzzz")
   | _=>false)):=by
  rintro d (rfl | ⟨e,he,rfl⟩)
  ·exact ⟨_,OB g,rfl⟩
  ·refine ⟨_,wk g (g.ok e he).name,?_⟩
   rw [pS g.nd he]
   simp only [TH]
   rw [Se,decide_eq_false (Hm (g.ok e he).name)]
   rfl
 intro d hd
 unfold vo at hd
 simp only [aQ,aD,or_false] at hd
 rcases hd with rfl | rfl | rfl | rfl | rfl | rfl | rfl | rfl | rfl
 ·exact F5 rfl rfl
 ·exact F5 (gF _) rfl
 ·refine vn (nF _ (fun _=>rfl) _) (by simp;omega) _ (fun d hd=>bz d ?_) ?_
  ·obtain ⟨x,hx,rfl⟩:=List.mem_map.mp hd
   rcases List.mem_append.mp hx with z | z
   ·obtain ⟨e,he,rfl⟩:=List.mem_map.mp z
    exact .inr ⟨e,he,rfl⟩
   ·rw [List.mem_singleton.mp z];exact .inl rfl
  ·simp
 ·refine vn rfl (by decide) _ (fun d hd=>bz d (.inl (List.mem_singleton.mp hd))) (by simp)
 ·exact vn rfl (by decide) (fun _=>false) (fun d hd=>by rw [List.mem_singleton.mp hd];exact ⟨_,zD rfl rfl,rfl⟩) rfl
 ·exact vn rfl (by decide) (fun _=>false) (fun d hd=>by rw [List.mem_singleton.mp hd];exact ⟨_,zD rfl rfl,rfl⟩) rfl
 ·exact F5 rfl rfl
 ·exact F5 rfl rfl
 ·exact vn rfl (by decide) (fun _=>false) (fun d hd=>by rw [List.mem_singleton.mp hd];exact ⟨_,zD rfl rfl,rfl⟩) rfl
theorem Jw (x:D):∀ n:Nat,(bi n [x]).flatten=bi n x
 | 0=>rfl
 | n + 1=>by rw [cU,gO,Jw x n];rfl
theorem Y2 {fs:List Str}{es:List ft} (x:Str):∀ d∈F6 x,Dc fs es d:=by
 intro d hd
 unfold F6 at hd
 simp only [aQ,aD,or_false] at hd
 rcases hd with rfl | rfl
 ·rw [Jw,show bi 65 (au x)=(bi 65 x).map .str from (List.map_replicate ..).symm]
  exact Q_ (nF _ (fun _=>rfl) _) (by simp)
 ·exact F5 rfl rfl
theorem F7 (ns:List Int) (k:Int) (hk:0<=k) {L:List D}{P:D->Prop} (hL:0<L.length) (h:∀ d∈L,P d) (F:D) (b:Sl):∃ d,cg (g2 (rB 4) (dz 3 a_ (J.aa (rS 0) (J.aa (rS 1) (J.aa (c6 (J.aa (rB 4) J.aA) (iK j7)) J.aA)))) aU) [.shr (.list (ns.map .int)),.shr (.int k),.shr F,b,.own (.list L)]=.ok (.rt d)/\P d:=by
 have hm:=e7 ns k (L.length:Nat) hk (by omega)
 obtain ⟨d,hd,e⟩:=D4 (L:=L) (e6 ns k (L.length:Nat) (by omega)) (eS ns k (L.length:Nat) (by omega))
 refine ⟨d,?_,h d hd⟩
 walk_at "zz"
 rw [hm]
 walk_at "zz"
 rw [e]
 walk_at "zz"
theorem R1 (k:Nat) (g:av->R D) (gl gh:av->R (Option Int)) (ρ:av) {d:D}{l h:Option Int} (h1:g ρ=.ok d) (h2:gl ρ=.ok l) (h3:gh ρ=.ok h):J.zj k g gl gh ρ=(Au d l h).bind (J.QD k):=by
 unfold J.zj
 rw [h1,bind_ok,h2,bind_ok,h3,bind_ok]
theorem TU (x:D) (r:List D):Au (.list (x::r)) none (some 1)=.ok (.list [x]):=by
 have e:Au (.list (x::r)) none (some 1)=.ok (.list (qV (x::r) none (some 1))):=rfl
 rw [e,show (1:Int)=((1:Nat):Int) from rfl,Hd _ 1 (by simp)]
 rfl
theorem wn {fs:List Str}{es:List ft} (g:fN fs es):bV (es.map fun e=>au e.name)=true:=zx _ es fun e he=>sv (g.ok e he).name
theorem R4 (ns:List Int) (k:Int) (hk:0<=k) {fs:List Str}{es:List ft} (g:fN fs es):∃ d,kY [.list (ns.map .int),.int k,dS fs es]=.ok d/\Dc fs es d:=by
 suffices H:∃ d,j9 (bd 5 [.list (ns.map .int),.int k,dS fs es])=.ok (.rt d)/\Dc fs es d by
  obtain ⟨d,h1,h2⟩:=H
  exact ⟨d,bS h1,h2⟩
 have lg:=g.len
 have b0:=Y1 g
 have e3:(es.map fun e=>au e.name)++[au "zzzzz"]=((es.map (·.name))++[("zzzzz" : Str)]).map .str:=by rw [b_,eZ];rfl
 have e1:(es.map fun e=>au e.name)=(es.map (·.name)).map .str:=by rw [eZ];rfl
 unfold j9 bd
 generalize hG:cg _=G
 walk_at "zz"
 rw [KS]
 walk_at "zz"
 rw [if_pos (by omega)]
 rw [cD _ cw (fun e=>au e.name) es fun e he=>d_ rfl (by
  walk_at "zz"
  rw [Hk])]
 walk_at "zz"
 rw [fM]
 walk_at "zz"
 rw [if_pos (by omega)]
 walk_at "zz"
 rw [e3]
 rw [Db _ (wn g)]
 cases es with
 | nil =>
  walk_at "zz"
  rw [<- hG]
  exact F7 ns k hk (L:=vo []) (by simp [vo]) b0 _ _
 | cons a r =>
  rw [decide_eq_false (by simp)]
  simp only [hJ]
  walk_at "zz"
  rw [Js (ds:=vo ((a::r).map (·.name))) (es:=F6 a.name)]
  ·walk_at "zz"
   rw [<- hG]
   exact F7 ns k hk (L:=vo ((a::r).map (·.name))++F6 a.name) (by simp [vo]) (fun d hd=>(List.mem_append.mp hd).elim (b0 d) (Y2 a.name d)) _ _
  ·rw [vo,<- e1]
   rfl
  ·walk_at "zz"
   rw [R1 (d:=.list (au a.name::r.map fun e=>au e.name)) (l:=none) (h:=some 1) _ _ _ _ _ rfl rfl rfl,TU]
   walk_at "zz"
   rw [show J.QD 65 (.list [au a.name])=.ok (.list (bi 65 [au a.name]).flatten) from rfl]
   walk_at "zz"
   rw [show aU (.list (au a.name::wM (fun e=>au e.name) r)) (.int 0)=.ok (.str a.name) from rR (j:=0) rfl]
   walk_at "zz"
   rfl
  ·simp [vo,F6]
theorem OG (x:Str) (gs:av->R (List D)) (s:Sl) (ρ:av) {d:D} (h:gs (s::ρ)=.ok [d]):J.sd x gs (s::ρ)=.ex x none:=by
 unfold J.sd
 rw [h,bind_ok]
 rfl
theorem Hx {fs:List Str}{es:List ft}{d:D} (h:Dc fs es d):iQ [dS fs es,d]=.ex "NoRow" none:=by
 unfold iQ
 refine zk ?_
 unfold jZ bd
 walk_at "zz"
 rw [h.no]
 walk_at "zz"
 rw [OG (d:=.none) _ _ _ _ rfl]
 walk_at "zz"
theorem L8 {fs st m b:List Str}{es:List ft}{d:D} (g:fN fs es) (hs:t5 fs st) (hw:vi fs m b) (h:Dc fs es d):fL [dS fs es,aT st,mI m b,d]=.ex "NoRow" none:=by
 unfold fL
 refine zk ?_
 unfold oT bd
 walk_at "zz"
 rw [Oz g hs hw]
 walk_at "zz"
 rw [Hx h]
 walk_at "zz"
theorem L9 {fs st:List Str}{es:List ft}{w d:D} (g:fN fs es) (hs:t5 fs st) (h:zC fs es w):fL [dS fs es,aT st,w,d]=.ex "NoWant" none:=by
 unfold fL
 refine zk ?_
 unfold oT bd
 walk_at "zz"
 rw [TF g hs h]
 walk_at "zz"
def W3:av->R Fl:=(aW (fY 6 (dz 5 mH (J.aa (rS 0) (J.aa (g2 (kI 300) (g2 (kI 40) (rB 5) uZ) dI) (J.aa (rS 1) (J.aa (rS 2) (J.aa (dz 3 a_ (J.aa (rS 0) (J.aa (rS 5) (J.aa (kI 7) J.aA)))) J.aA))))))) (aW (dY (Cv (fR (g2 (rB 4) (cc J.aA .list) (kP true))) (fR (g2 (rB 5) (kI 3) (kP false)))) (fY 6 (g2 (rB 6) (cc (J.aa (g2 (rB 4) (dz 3 a_ (J.aa (rS 0) (J.aa (kI 5) (J.aa (c6 (J.aa (rB 4) J.aA) (iK j7)) J.aA)))) aU) J.aA) .list) dI)) (fun ρ=>.ok (.nx ρ))) (aW (fY 7 (dz 4 (qj H9 fL) (J.aa (rS 1) (J.aa (rS 2) (J.aa (rS 3) (J.aa (rS 6) J.aA)))))) (dY (FW (jk (fR (qW (rB 7) "bool"))) (fR (g2 (rB 7) (dz 4 kz (J.aa (rS 1) (J.aa (rS 2) (J.aa (rS 3) (J.aa (rS 6) J.aA))))) (kP true)))) (cg (kB false)) (fun ρ=>.ok (.nx ρ))))))
def XI:av->R Fl:=aW (dY (fR (g2 (dz 4 (qj H9 fL) (J.aa (rS 1) (J.aa (rS 2) (J.aa (rS 3) (J.aa (dz 3 kY (J.aa (rS 0) (J.aa (kI 6) (J.aa (rS 1) J.aA)))) J.aA))))) (cc (J.aa (fun _=>.ok (.str "refused")) (J.aa (kI 4) J.aA)) .tuple) (kP true))) (cg (kB false)) (fun ρ=>.ok (.nx ρ))) (cg (g2 (dz 4 (qj H9 fL) (J.aa (rS 1) (J.aa (rS 2) (J.aa (dz 3 j_ (J.aa (rS 0) (J.aa (kI 8) (J.aa (g2 (rB 1) (kI 0) aU) J.aA)))) (J.aa kN J.aA))))) (cc (J.aa (fun _=>.ok (.str "refused")) (J.aa (kI 2) J.aA)) .tuple) (kP false)))
theorem La:Jd=aW (yP (dz 3 mF (J.aa (rS 0) (J.aa (kI 5) (J.aa (kI 6) J.aA)))) (ms 3 (cC (bX 1) (cC (bX 2) (cC (bX 3) o9))))) (aW (gQ 4 (fo 1 [] (lK (g2 (rB 1) (kI 1) aU)) kT (g2 (rB 0) (kI 0) aU))) (aW (qr (v3 (J.aa (kI 4) J.aA)) (bX 5) W3) XI)):=rfl
theorem BJ {fs st m b:List Str}{es rs:List ft} (g:fN fs es) (hs:t5 fs st) (hw:vi fs m b) (hr:O_ es rs) (S:D) (o4 z5 z7:Sl):(aW (fY 7 (dz 4 (qj H9 fL) (J.aa (rS 1) (J.aa (rS 2) (J.aa (rS 3) (J.aa (rS 6) J.aA)))))) (dY (FW (jk (fR (qW (rB 7) "bool"))) (fR (g2 (rB 7) (dz 4 kz (J.aa (rS 1) (J.aa (rS 2) (J.aa (rS 3) (J.aa (rS 6) J.aA))))) (kP true)))) (cg (kB false)) (fun ρ=>.ok (.nx ρ)))) [.shr S,.shr (dS fs es),.shr (aT st),.shr (mI m b),o4,z5,.shr (lQ rs),z7]=.ok (.nx [.shr S,.shr (dS fs es),.shr (aT st),.shr (mI m b),o4,z5,.shr (lQ rs),.shr (.bool (nG st m b rs))]):=by
 walk_at "zz"
 rw [Hl,L7 g hr hs hw,QR]
 walk_at "zz"
 rw [Vz,VA]
 walk_at "zz"
 rw [QZ g hr hs hw]
 walk_at "zz"
 rw [VB]
 cases nG st m b rs<;>rfl
theorem TV {fs st m b:List Str}{es:List ft} (g:fN fs es) (hs:t5 fs st) (hw:vi fs m b) (ns:List Int) (k:Nat) (z6 z7:Sl):∃ y6 y7,W3 [.shr (.list (ns.map .int)),.shr (dS fs es),.shr (aT st),.shr (mI m b),.own (.list (es.map fun e=>au e.name)),.shr (.int (k:Nat)),z6,z7]=.ok (.nx [.shr (.list (ns.map .int)),.shr (dS fs es),.shr (aT st),.shr (mI m b),.own (.list (es.map fun e=>au e.name)),.shr (.int (k:Nat)),y6,y7]):=by
 have lg:=g.len
 have m0:=e6 ns (k:Nat) 7 (by decide)
 have m1:=eS ns (k:Nat) 7 (by decide)
 obtain ⟨rs,r1,r20,r2⟩:=QW g ns (300 + 40 * (k:Nat)) (fg ns (k:Nat) 7) (by omega) m0 (by omega) hs
 by_cases hc:es≠[]/\k=3
 ·obtain ⟨h1,h2⟩:=hc
  subst h2
  have hp:0<es.length:=List.length_pos_iff.mpr h1
  obtain ⟨d,hd,hix⟩:=D4 (L:=es.map fun e=>au e.name) (j:=fg ns 5 (es.length:Nat)) (e6 ns 5 (es.length:Nat) (by omega)) (by rw [ay];exact eS ns 5 (es.length:Nat) (by omega))
  obtain ⟨e,he,rfl⟩:=List.mem_map.mp hd
  have r3:O_ es (rs++[e]):=⟨fun a ha=>by
   rcases List.mem_append.mp ha with z | z
   ·exact r1.mem a z
   ·rw [List.mem_singleton.mp z];exact he,by rw [aL,gd];omega⟩
  refine ⟨.shr (lQ (rs++[e])),.shr (.bool (nG st m b (rs++[e]))),?_⟩
  rw [<- BJ g hs hw r3 (.list (ns.map .int)) (.own (.list (es.map fun e=>au e.name))) (.shr (.int ((3:Nat):Int))) z7]
  unfold W3
  generalize hG:aW (fY 7 _) _=G
  walk_at "zz"
  rw [nC (by decide) (by decide)]
  walk_at "zz"
  rw [e7 ns ((3:Nat):Int) 7 (by decide) (by decide)]
  walk_at "zz"
  rw [r2]
  walk_at "zz"
  rw [Db _ (wn g),decide_eq_false (by simpa using h1)]
  walk_at "zz"
  rw [kA]
  walk_at "zz"
  rw [show decide (((3:Nat):Int)=3)=true from rfl]
  walk_at "zz"
  rw [e7 ns 5 (es.length:Nat) (by decide) (by omega)]
  walk_at "zz"
  rw [hix]
  walk_at "zz"
  rw [if_pos (by omega)]
  walk_at "zz"
  rw [show (rs.map fun e=>au e.name)++[au e.name]=(rs++[e]).map (fun e=>au e.name) from by rw [b_];rfl]
 ·refine ⟨.shr (lQ rs),.shr (.bool (nG st m b rs)),?_⟩
  rw [<- BJ g hs hw r1 (.list (ns.map .int)) (.own (.list (es.map fun e=>au e.name))) (.shr (.int (k:Nat))) z7]
  unfold W3
  generalize hG:aW (fY 7 _) _=G
  walk_at "zz"
  rw [nC (by decide) (by decide)]
  walk_at "zz"
  rw [e7 ns (k:Nat) 7 (by omega) (by decide)]
  walk_at "zz"
  rw [r2]
  walk_at "zz"
  rw [Db _ (wn g)]
  by_cases he:es=[]
  ·rw [decide_eq_true (by simpa using he)]
   walk_at "zz"
  ·rw [decide_eq_false (by simpa using he)]
   walk_at "zz"
   rw [kA]
   walk_at "zz"
   rw [decide_eq_false (fun z=>hc ⟨he,by omega⟩)]
   walk_at "zz"
theorem Y3:H9 "NoWant"=some 2:=by decide +kernel
theorem Y4:H9 "NoRow"=some 4:=by decide +kernel
theorem VL:kP false (.tuple [.str "refused",.int 2]) (.tuple [.str "refused",.int 2])=.ok (.bool true):=Jo (by decide +kernel)
theorem VM:kP true (.tuple [.str "refused",.int 4]) (.tuple [.str "refused",.int 4])=.ok (.bool false):=x_ (by decide +kernel)
theorem law_true (ns:List Int):F_law [.list (ns.map .int)]=.ok (.bool true):=by
 obtain ⟨fs,es,ss,wm,wb,hc,gb,gs,gw,_⟩:=QP ns 5 6 (by decide) (by decide) (by decide) (by decide)
 have lg:=gb.len
 obtain ⟨br,b1,b2⟩:=R4 ns 6 (by decide) gb
 obtain ⟨bw,w1,w2⟩:=OA ns 8 (by decide) fs es gb.rise
 unfold F_law
 refine bS ?_
 rw [La]
 unfold bd
 walk_at "zz"
 rw [hc]
 walk_at "zz"
 rw [X4]
 walk_at "zz"
 rw [KS]
 walk_at "zz"
 rw [if_pos (by omega)]
 rw [cD _ cw (fun e=>au e.name) es fun e he=>d_ rfl (by
  walk_at "zz"
  rw [Hk])]
 walk_at "zz"
 rw [rh (ds:=(bt 4).map fun (i:Nat)=>eL (i:Int))]
 ·refine CU (fun (i:Nat)=>eL (i:Int)) (fun (_:Unit) _=>()) (fun _ _ ρ=>∃ z5 z6 z7,ρ=[.shr (.list (ns.map .int)),.shr (dS fs es),.shr (aT ss),.shr (mI wm wb),.own (.list (es.map fun e=>au e.name)),z5,z6,z7]) () ?_ ⟨_,_,_,rfl⟩ ?_
  ·rintro k bK _ ρ ⟨z5,z6,z7,rfl⟩
   obtain ⟨y6,y7,q⟩:=TV gb gs gw ns k z6 z7
   exact ⟨_,_,rfl,q,_,_,_,rfl⟩
  ·rintro ρ' ⟨z5,z6,z7,rfl⟩
   unfold XI
   walk_at "zz"
   rw [b1]
   walk_at "zz"
   rw [Hl,L8 gb gs gw b2,Jn Y4]
   walk_at "zz"
   rw [show ((4:Nat):Int)=4 from rfl,VM]
   walk_at "zz"
   rw [KR]
   walk_at "zz"
   rw [w1]
   walk_at "zz"
   rw [Hl,L9 gb gs w2,Jn Y3]
   walk_at "zz"
   rw [show ((2:Nat):Int)=2 from rfl,VL]
   walk_at "zz"
 ·walk_at "zz"
  exact vf 4 (by decide)
end Z
end
namespace Z
open PySem L2 J
section
def n5 (i:Nat):cr:=PySem.Challenge.pw_errands_k05_serves.main.body.getD i (.Pass ⟨0,0,0,0⟩)
section
variable {e:En}
abbrev ro:cr:=n5 62
def F8:List Str:=["NoBook","NoState","NoWant","NoErrand","NoRow","NoWay","NoPaper","NoFacts","NoNumber","Nothing","NoText"]
theorem vp:bu ["_law_e","_law_own"] ["_law_e"] (ax ro):=dq (by decide +kernel)
theorem AA {f:ag}{fd:df} (F:DS e.K "_law_which" "_law_which" ro f fd) (B:Bi e.mg) (mv:e.mg "ValueError"=none) (mc:∀ n∈F8,e.mg n=some (.ref (e.cls n))):E9 e.P e.w e.K e.mg e.base 1 f fd ["_law_e"] (Ta e.K e.base e.cls F8):=by
 refine F.okH vp (fun vs H Q E h=>?_) (fun cdv A outer s H vs Q E hr h=>?_)
 ·obtain ⟨_,_,_,rfl,_⟩:=h;rfl
 obtain ⟨ea,C,j,rfl,hH,x,q⟩:=h
 refine ⟨_,jK (C6 (i:=1) vp.nd rfl (gP rfl) (mj (bZ (mz (names:=F8) (cls:=e.cls) (base:=e.base) (pv 0) rfl B.isinstance rfl (mc "NoBook" (by decide +kernel))) (bZ (mz (names:=F8) (cls:=e.cls) (base:=e.base) (pv 0) rfl B.isinstance rfl (mc "NoState" (by decide +kernel))) (bZ (mz (names:=F8) (cls:=e.cls) (base:=e.base) (pv 0) rfl B.isinstance rfl (mc "NoWant" (by decide +kernel))) (bZ (mz (names:=F8) (cls:=e.cls) (base:=e.base) (pv 0) rfl B.isinstance rfl (mc "NoErrand" (by decide +kernel))) eW))))))
  (jK (rP (yv dR nW nX B7 (pv 1) (bZ (mj (bZ (mz (names:=F8) (cls:=e.cls) (base:=e.base) (pv 0) rfl B.isinstance rfl (mc "NoRow" (by decide +kernel))) (bZ (mz (names:=F8) (cls:=e.cls) (base:=e.base) (pv 0) rfl B.isinstance rfl (mc "NoWay" (by decide +kernel))) (bZ (mz (names:=F8) (cls:=e.cls) (base:=e.base) (pv 0) rfl B.isinstance rfl (mc "NoPaper" (by decide +kernel))) (bZ (mz (names:=F8) (cls:=e.cls) (base:=e.base) (pv 0) rfl B.isinstance rfl (mc "NoFacts" (by decide +kernel))) eW))))) eW)))
  (jK (rP (yv dR nW nX B7 (pv 1) (bZ (mj (bZ (mz (names:=F8) (cls:=e.cls) (base:=e.base) (pv 0) rfl B.isinstance rfl (mc "NoNumber" (by decide +kernel))) (bZ (mz (names:=F8) (cls:=e.cls) (base:=e.base) (pv 0) rfl B.isinstance rfl (mc "Nothing" (by decide +kernel))) (bZ (mz (names:=F8) (cls:=e.cls) (base:=e.base) (pv 0) rfl B.isinstance rfl (mc "NoText" (by decide +kernel))) eW)))) eW)))
  (jK (R8 (PW.pt (R7 (Ik Uc (yv dR AW PySem.F.type_list_count Ki (pv 1) (bZ L_ eW)) yr (Go _)) (M3 (M4 (M2 (Qm (names:=F8) (cls:=e.cls) (base:=e.base) (pv 0) rfl B.isinstance rfl mv)))))) oG Ii)
  (uK (C4 (Mh (bZ M0 (bZ (yv dR AX PySem.F.type_list_index Kj (pv 1) (bZ L_ eW)) eW)))))))),?_⟩
 refine ⟨ea,C,j,0,rfl,hH,x,rfl,ea,C,j,1,rfl,hH,x,rfl,ea,C,j,2,rfl,hH,x,rfl,ea,C,j,3,rfl,hH,x,rfl,bq (bY (show 4<=1000 by decide)),fun p hp=>?_⟩
 have np:ea≠p:=bn hH hp
 have hH1:∀ o,upd H p o ea=some (yH ea C):=fun o=>by rw [b6 np];exact hH
 refine ⟨_,rfl,.inl ⟨rfl,_,.of aV⟩,?_⟩
 refine ⟨ea,C,j,4,rfl,hH1 _,x,rfl,ea,C,j,5,rfl,hH1 _,x,rfl,ea,C,j,6,rfl,hH1 _,x,rfl,ea,C,j,7,rfl,hH1 _,x,rfl,bq (bY (show 4<=1000 by decide)),fun p2 hp2=>?_⟩
 have np2:p≠p2:=bn aV hp2
 have ne2:ea≠p2:=bn (hH1 _) hp2
 refine ⟨p,p2,([decide (0=j),decide (1=j),decide (2=j),decide (3=j)].map V.bl),_,rfl,rfl,by rw [b6 np2];exact aV,aV,bq (bY (show 8<=1000 by decide)),?_⟩
 have hH2:∀ o u,upd (upd (upd H p o) p2 u) p (.lst (([decide (0=j),decide (1=j),decide (2=j),decide (3=j)]++[decide (4=j),decide (5=j),decide (6=j),decide (7=j)]).map V.bl)) ea=some (yH ea C):=fun o u=>by rw [b6 np,b6 ne2];exact hH1 _
 refine ⟨_,rfl,.inl ⟨rfl,_,.of aV⟩,?_⟩
 refine ⟨ea,C,j,8,rfl,hH2 _ _,x,rfl,ea,C,j,9,rfl,hH2 _ _,x,rfl,ea,C,j,10,rfl,hH2 _ _,x,rfl,bq (bY (show 3<=1000 by decide)),fun p3 hp3=>?_⟩
 have np3:p≠p3:=bn aV hp3
 have ne3:ea≠p3:=bn (hH2 _ _) hp3
 refine ⟨p,p3,(([decide (0=j),decide (1=j),decide (2=j),decide (3=j)]++[decide (4=j),decide (5=j),decide (6=j),decide (7=j)]).map V.bl),_,rfl,rfl,by rw [b6 np3];exact aV,aV,bq (bY (show 11<=1000 by decide)),?_⟩
 refine ⟨_,rfl,.inl ⟨rfl,_,.of aV⟩,p,bits j,rfl,rfl,.of aV,?_⟩
 rw [GT j x.lt]
 refine ⟨rfl,_,rfl,Cb ⟨ea,C,j,rfl,?_,x,_,rfl,Cb ?_⟩⟩
 ·rw [b6 np,b6 ne3];exact hH2 _ _
 obtain ⟨b1,b2⟩:=Ql j x.lt
 refine ⟨_,rfl,.inl ⟨rfl,_,.of aV⟩,p,bits j,j,rfl,rfl,.of aV,b1,b2,bq (aF x.lt (by decide)),bq (bY (show 2<=1000 by decide)),fun t ht=>?_⟩
 have s1:dE H _:=j6 (o:=.lst ([decide (0=j),decide (1=j),decide (2=j),decide (3=j)].map V.bl)) hp
 have hpn:∀ b o,H b=some o->b≠p:=fun b o e=>bn e hp
 have hp2n:∀ b o,H b=some o->b≠p2:=fun b o e=>bn (s1 b o e) hp2
 have hp3n:∀ b o,H b=some o->b≠p3:=fun b o e=>bn (by rw [b6 (hpn b o e),b6 (hp2n b o e)];exact s1 b o e) hp3
 have old:∀ b o,H b=some o->b≠t:=fun b o e=>bn (by rw [b6 (hpn b o e),b6 (hp3n b o e),b6 (hpn b o e),b6 (hp2n b o e)];exact s1 b o e) ht
 refine q t _ (fun b o e=>?_) ?_ aV
 ·rw [b6 (old b o e),b6 (hpn b o e),b6 (hp3n b o e),b6 (hpn b o e),b6 (hp2n b o e)];exact s1 b o e
 ·cases z:H t with
  | none=>rfl
  | some o=>exact (old t o z rfl).elim
abbrev i9:cr:=n5 63
abbrev lB:List Str:=["_law_ask","_law_one","_law_other","_law_third","_law_fourth","_law_e"]
theorem oU:bu lB ["_law_ask","_law_one","_law_other","_law_third","_law_fourth"] (ax i9):=dq (by decide +kernel)
theorem wo {y:Str}{kf k:Nat}{Fy:List D->R D} (D:gK e.K e.mg "_law_told_four" i9) (W:Wh e.P e.w e.K e.mg e.base e.cls "_law_which" F8 H9) (G:FN e y kf 4 Fy) (hk:kf<=k) (h1:1<=k):FT e "_law_told_four" y (k + 1) 4 (qj H9 Fy):=by
 obtain ⟨f,fd,F,hm⟩:=D.ex
 obtain ⟨a,fda,psa,hf,hma,hka,hba⟩:=G.ex
 refine Qt (k:=k) (g:=Kv H9 (cg (dz 4 Fy (aa (rS 1) (aa (rS 2) (aa (rS 3) (aa (rS 4) aA))))))) F oU hm (b5 F) hma rfl (fun cdv A outer s H E hr ρ=>?_) fun ds hl=>?_
 ·exact uK (Th (c:=⟨fX (jD e.P e.w) e.P e.w e.K e.mg e.base lB "_law_told_four" (ax i9) f cdv A outer s H E,e.cls,E⟩) 5 0 W (fun E1 xe1 pn1 hp=>uK (Tg (c:=⟨Rr (fX (jD e.P e.w) e.P e.w e.K e.mg e.base lB "_law_told_four" (ax i9) f cdv A outer s H E) xe1 pn1,e.cls,E1⟩) hf hka hba (hr.mono hk) hp (a9 (ai 1) (a9 (ai 2) (a9 (ai 3) (a9 (ai 4) ap)))) (ρ:=ρ))) (hr.h.mono1 h1) rfl rfl oU.nd)
 ·match ds,hl with
  | [_,_,_,_],_=>exact NX rfl rfl
abbrev lR:cr:=n5 18
abbrev vq:List Str:=["one","other"]
theorem AB:bu vq ["one","other"] (ax lR):=dq (by decide +kernel)
abbrev lS (e:En):=FN e "share_none" 1 2 dG
theorem AC (D:gK e.K e.mg "share_none" lR) (B:Bi e.mg):lS e:=oP (k:=0) (g:=jW) D AB b2 fun _ _ _ _ _ _ _ hr=>by unfold jW;exact (aM (bD (GI (bT (N5 rfl) rfl B.any ym (bv (JE.bor (JN.je (gU (N':=["fact","other"]) (ix:=[1]) 1 (by decide) rfl (cb (so:=ax lR) (N:=vq) (by decide +kernel)) (fJ (ah 0)) (fun cl A0 s0 H0 ex pn=>⟨cZ (i:=0) (by show (["fact","other"] : List Str).Nodup;decide +kernel) rfl (.inl rfl),fj,(o7 (Eh) (ah 0) (ah 1))⟩)))) bR)))))
abbrev sx:cr:=n5 19
abbrev BK:List Str:=["facts","others"]
theorem Hy:bu BK ["facts","others"] (ax sx):=dq (by decide +kernel)
abbrev BL (e:En):=FN e "without" 1 2 sf
theorem Hz (D:gK e.K e.mg "without" sx) (B:Bi e.mg):BL e:=oP (k:=0) (g:=se) D Hy b2 fun _ _ _ _ _ _ _ hr=>by unfold se;exact (aM (bD (eJ (iF rfl) rfl B.tuple bg (bv (JE.bor (JN.je (gU (N':=["fact","others"]) (ix:=[1]) 1 (by decide) rfl (cb (so:=ax sx) (N:=BK) (by decide +kernel)) (fJ (ah 0)) (fun cl A0 s0 H0 ex pn=>⟨cZ (i:=0) (by show (["fact","others"] : List Str).Nodup;decide +kernel) rfl (.inl rfl),(rZ (dg (yO) (ah 0) (ah 1))),(ai 0)⟩)))) bR))))
abbrev zF:cr:=n5 20
abbrev OH:List Str:=["one","other"]
theorem Lb:bu OH ["one","other"] (ax zF):=dq (by decide +kernel)
abbrev F9 (e:En):=FN e "joined" 1 2 vd
theorem Lc (D:gK e.K e.mg "joined" zF) (B:Bi e.mg):F9 e:=oP (k:=0) (g:=vc) D Lb b2 fun _ _ _ _ _ _ _ hr=>by unfold vc;exact (aM (bD (eJ (iF rfl) rfl B.tuple bg (bv (JE.bor (tX rfl (Tp (CK rfl (ah 0) rfl B.set) (CK rfl (ah 1) rfl B.set)) rfl B.sorted)) bR))))
abbrev sy:cr:=n5 21
abbrev BM:List Str:=["thing"]
theorem HA:bu BM ["thing"] (ax sy):=dq (by decide +kernel)
abbrev wp (e:En):=FN e "is_word" 1 1 fz
theorem HB (D:gK e.K e.mg "is_word" sy) (B:Bi e.mg) (mJ:Cn e.mg "MOST_LETTERS" 6):wp e:=oP (k:=0) (g:=oR) D HA b1 fun _ _ _ _ _ _ _ hr=>by unfold oR;exact (aB (eM (JW.t (qQ (fG (fF (lz (ah 0) rfl B.isinstance rfl B.str yn (by decide)))) (mr (fG (Nc (Bk) (Bk) (JE.bor az) (JE.bor (bT gm rfl B.len bC (bv (ah 0) bR))) (JE.bor (qP rfl mJ))))))) (aM (bD mq)) cf) (aM (bD (bT (pz rfl) rfl B.all cK (bv (JE.bor (JN.je (gU (N':=["sign"]) (ix:=[]) 1 (by decide) rfl (cb (so:=ax sy) (N:=BM) (by decide +kernel)) (fJ (ah 0)) (fun cl A0 s0 H0 ex pn=>⟨cZ (i:=0) (by show (["sign"] : List Str).Nodup;decide +kernel) rfl (.inl rfl),fj,(Es (Bk) (Bk) (JE.bor iE) (ah 0) (JE.bor iE))⟩)))) bR)))))
abbrev fO:cr:=n5 22
abbrev jl:List Str:=["thing"]
theorem sM:bu jl ["thing"] (ax fO):=dq (by decide +kernel)
abbrev jm (e:En):=FN e "are_rising_words" 2 1 cq
theorem sO (D:gK e.K e.mg "are_rising_words" fO) (B:Bi e.mg) (m5:wp e):jm e:=oP (k:=1) (g:=dJ) D sM b1 fun _ _ _ _ _ _ _ hr=>by unfold dJ;exact (aB (eM (JW.t (qQ (fG (fF (lz (ah 0) rfl B.isinstance rfl B.tuple bg (by decide)))) (mr (fG (fF (bT (pz rfl) rfl B.all cK (bv (JE.bor (JN.je (gU (N':=["word"]) (ix:=[]) 1 (by decide) rfl (cb (so:=ax fO) (N:=jl) (by decide +kernel)) (fJ (ah 0)) (fun cl A0 s0 H0 ex pn=>⟨cZ (i:=0) (by show (["word"] : List Str).Nodup;decide +kernel) rfl (.inl rfl),fj,(jc m5 hr dZ (a9 (ai 0) ap))⟩)))) bR))))))) (aM (bD mq)) cf) (aM (bD (bT (pz rfl) rfl B.all cK (bv (JE.bor (JN.je (gU (N':=["low","high"]) (ix:=[]) 2 (by decide) rfl (cb (so:=ax fO) (N:=jl) (by decide +kernel)) (LD.i (Qe rfl B.zip (a9 (ai 0) (a9 (jQ (ah 0) (jP az) lO) ap)))) (fun cl A0 s0 H0 ex pn=>⟨Gk rfl (qH (cZ (i:=0) (by show (["low","high"] : List Str).Nodup;decide +kernel) rfl (.inl rfl)) (qH (cZ (i:=1) (by show (["low","high"] : List Str).Nodup;decide +kernel) rfl (.inl rfl)) C5)),fj,(o7 (Bj) (ah 0) (ah 1))⟩)))) bR)))))
abbrev nI:cr:=n5 23
abbrev wU:List Str:=["book_facts","thing"]
theorem Dd:bu wU ["book_facts","thing"] (ax nI):=dq (by decide +kernel)
abbrev nJ (e:En):=FN e "are_facts" 3 2 cE
theorem De (D:gK e.K e.mg "are_facts" nI) (B:Bi e.mg) (eK:jm e):nJ e:=oP (k:=2) (g:=jq) D Dd b2 fun _ _ _ _ _ _ _ hr=>by unfold jq;exact (aM (bD (qS (jc eK hr px (a9 (ai 1) ap)) (tV (bT (pz rfl) rfl B.all cK (bv (JE.bor (JN.je (gU (N':=["fact","book_facts"]) (ix:=[0]) 1 (by decide) rfl (cb (so:=ax nI) (N:=wU) (by decide +kernel)) (fJ (ah 1)) (fun cl A0 s0 H0 ex pn=>⟨cZ (i:=0) (by show (["fact","book_facts"] : List Str).Nodup;decide +kernel) rfl (.inl rfl),fj,(o7 (Eh) (ah 0) (ah 1))⟩)))) bR))))))
abbrev u5:cr:=n5 24
abbrev HC:List Str:=["thing","least","most"]
theorem Fa:bu HC ["thing","least","most"] (ax u5):=dq (by decide +kernel)
abbrev zG (e:En):=FN e "is_whole" 1 3 pF
theorem Fb (D:gK e.K e.mg "is_whole" u5) (B:Bi e.mg):zG e:=oP (k:=0) (g:=pE) D Fa b3 fun _ _ _ _ _ _ _ hr=>by unfold pE;exact (aB (eM (JW.t (qQ (fG (fF (lz (ah 0) rfl B.isinstance rfl B.int yo (by decide)))) (mr (fF (lz (ah 0) rfl B.isinstance rfl B.bool xP (by decide)))))) (aM (bD mq)) cf) (aM (bD (Es (Bk) (Bk) (ah 1) (ah 0) (ah 2)))))
abbrev nK:cr:=n5 25
abbrev wV:List Str:=["book_facts","thing","name","needs","bars","makes","ends","price"]
theorem i4:bu wV ["book_facts","thing"] (ax nK):=dq (by decide +kernel)
abbrev wW (e:En):=FN e "is_errand" 4 2 nu
theorem Df (D:gK e.K e.mg "is_errand" nK) (B:Bi e.mg) (m5:wp e) (u6:zG e) (fu:nJ e) (eT:lS e) (pU:Cn e.mg "MOST_PRICE" 9):wW e:=oP (k:=3) (g:=nr) D i4 b2 fun _ _ _ _ _ _ _ hr=>by have hu64:=hr.units;unfold nr;exact (aB (eM (JW.t (qQ (fG (fF (lz (ah 1) rfl B.isinstance rfl B.tuple bg (by decide)))) (mr (dg (qU hu64) (JE.bor (bT gm rfl B.len bC (bv (ah 1) bR))) (JE.bor az))))) (aM (bD mq)) cf) (aB (yQ (ai 1) (qY rfl (dC (c_ 2 i4.nd) (dC (c_ 3 i4.nd) (dC (c_ 4 i4.nd) (dC (c_ 5 i4.nd) (dC (c_ 6 i4.nd) (dC (c_ 7 i4.nd) nl)))))))) (aB (eM (JW.t (qQ (fG (fF (jc m5 hr px (a9 (ai 2) ap)))) (mr (fG (fF (jc u6 hr px (a9 (ai 7) (a9 az (a9 (qP rfl pU) ap))))))))) (aM (bD mq)) cf) (aB (eM (fG (fF (bT (pz rfl) rfl B.all cK (bv (JE.bor (JN.je (gU (N':=["facts","book_facts"]) (ix:=[0]) 1 (by decide) rfl (cb (so:=ax nK) (N:=wV) (by decide +kernel)) (fJ (JE.bor (cH (a9 (ai 3) (a9 (ai 4) (a9 (ai 5) (a9 (ai 6) ap))))))) (fun cl A0 s0 H0 ex pn=>⟨cZ (i:=0) (by show (["facts","book_facts"] : List Str).Nodup;decide +kernel) rfl (.inl rfl),fj,(jc fu hr dZ (a9 (ai 1) (a9 (ai 0) ap)))⟩)))) bR)))) (aM (bD mq)) cf) (aM (bD (qS (jc eT hr px (a9 (ai 3) (a9 (ai 4) ap))) (tV (jc eT hr px (a9 (ai 5) (a9 (ai 6) ap)))))))))))
abbrev oV:cr:=n5 26
abbrev wq:List Str:=["thing","facts","errands"]
theorem u7:bu wq ["thing"] (ax oV):=dq (by decide +kernel)
abbrev BN (e:En):=FN e "is_book" 5 1 si
theorem HD (D:gK e.K e.mg "is_book" oV) (B:Bi e.mg) (eK:jm e) (rq:wW e) (pV:Cn e.mg "MOST_FACTS" 6) (mK:Cn e.mg "MOST_ERRANDS" 6):BN e:=oP (k:=4) (g:=sg) D u7 b1 fun _ _ _ _ _ _ _ hr=>by have hu1:=ip hr;have hu64:=hr.units;unfold sg;exact (aB (eM (JW.t (qQ (fG (fF (lz (ah 0) rfl B.isinstance rfl B.tuple bg (by decide)))) (mr (dg (qU hu64) (JE.bor (bT gm rfl B.len bC (bv (ah 0) bR))) (JE.bor az))))) (aM (bD mq)) cf) (aB (yQ (ai 0) (qY rfl (dC (c_ 1 u7.nd) (dC (c_ 2 u7.nd) nl)))) (aB (eM (JW.t (qQ (fG (fF (jc eK hr px (a9 (ai 1) ap)))) (mr (dg (Ec) (JE.bor (bT gm rfl B.len bC (bv (ah 1) bR))) (JE.bor (qP rfl pV)))))) (aM (bD mq)) cf) (aB (eM (JW.t (qQ (fG (fF (lz (ah 2) rfl B.isinstance rfl B.tuple bg (by decide)))) (mr (dg (Ec) (JE.bor (bT gm rfl B.len bC (bv (ah 2) bR))) (JE.bor (qP rfl mK)))))) (aM (bD mq)) cf) (aB (eM (fG (fF (bT (pz rfl) rfl B.all cK (bv (JE.bor (JN.je (gU (N':=["errand","facts"]) (ix:=[1]) 1 (by decide) rfl (cb (so:=ax oV) (N:=wq) (by decide +kernel)) (fJ (ah 2)) (fun cl A0 s0 H0 ex pn=>⟨cZ (i:=0) (by show (["errand","facts"] : List Str).Nodup;decide +kernel) rfl (.inl rfl),fj,(jc rq hr dZ (a9 (ai 1) (a9 (ai 0) ap)))⟩)))) bR)))) (aM (bD mq)) cf) (aM (bD (o7 (s_ hu64) (JE.bor (Kt (Nd (N':=["errand"]) (ix:=[]) 1 (by decide) rfl (cb (so:=ax oV) (N:=wq) (by decide +kernel)) (fJ (ah 2)) (fun cl A0 s0 H0 ex pn=>⟨cZ (i:=0) (by show (["errand"] : List Str).Nodup;decide +kernel) rfl (.inl rfl),fj,(bM hu1 (ah 0) (JE.bor az))⟩)) rfl B.len)) (JE.bor (bT gm rfl B.len bC (bv (ah 2) bR)))))))))))
abbrev wt:cr:=n5 27
abbrev Ld:List Str:=["book","thing","must","bars"]
theorem u9:bu Ld ["book","thing"] (ax wt):=dq (by decide +kernel)
abbrev BO (e:En):=FN e "is_want" 4 2 ku
theorem HE (D:gK e.K e.mg "is_want" wt) (B:Bi e.mg) (fu:nJ e) (eT:lS e):BO e:=oP (k:=3) (g:=l_) D u9 b2 fun _ _ _ _ _ _ _ hr=>by have hu1:=ip hr;have hu64:=hr.units;unfold l_;exact (aB (eM (JW.t (qQ (fG (fF (lz (ah 1) rfl B.isinstance rfl B.tuple bg (by decide)))) (mr (dg (qU hu64) (JE.bor (bT gm rfl B.len bC (bv (ah 1) bR))) (JE.bor az))))) (aM (bD mq)) cf) (aB (yQ (ai 1) (qY rfl (dC (c_ 2 u9.nd) (dC (c_ 3 u9.nd) nl)))) (aM (bD (qS (jc fu hr px (a9 (bM hu1 (ah 0) (JE.bor az)) (a9 (ai 2) ap))) (qS (jc fu hr px (a9 (bM hu1 (ah 0) (JE.bor az)) (a9 (ai 3) ap))) (tV (jc eT hr px (a9 (ai 2) (a9 (ai 3) ap))))))))))
abbrev oj:cr:=n5 28
abbrev AD:List Str:=["book","state"]
theorem zH:bu AD ["book","state"] (ax oj):=dq (by decide +kernel)
abbrev tf (e:En):=FN e "check_state" 4 2 kR
theorem zI (D:gK e.K e.mg "check_state" oj) (fu:nJ e) (wu:ER e "NoState"):tf e:=oP (k:=3) (g:=kQ) D zH b2 fun _ _ _ _ _ _ _ hr=>by have hu1:=ip hr;unfold kQ;exact (aM (eM (fG (fF (jc fu hr px (a9 (bM hu1 (ah 0) (JE.bor az)) (a9 (ai 1) ap))))) (aM (zc wu rfl (a9 iE ap))) cf))
abbrev pW:cr:=n5 29
abbrev Dg:List Str:=["book","want"]
theorem AE:bu Dg ["book","want"] (ax pW):=dq (by decide +kernel)
abbrev vt (e:En):=FN e "check_want" 5 2 iP
theorem AF (D:gK e.K e.mg "check_want" pW) (wv:BO e) (zJ:ER e "NoWant"):vt e:=oP (k:=4) (g:=jX) D AE b2 fun _ _ _ _ _ _ _ hr=>by unfold jX;exact (aM (eM (fG (fF (jc wv hr px (a9 (ai 0) (a9 (ai 1) ap))))) (aM (zc zJ rfl (a9 iE ap))) cf))
abbrev lC:cr:=n5 30
abbrev xA:List Str:=["book","name","errand"]
theorem oW:bu xA ["book","name"] (ax lC):=dq (by decide +kernel)
abbrev lE (e:En):=FN e "errand_called" 1 2 cL
theorem ww (D:gK e.K e.mg "errand_called" lC) (B:Bi e.mg):lE e:=oP (k:=0) (g:=gy) D oW b2 fun _ _ _ _ _ _ _ hr=>by have hu1:=ip hr;have hu64:=hr.units;unfold gy;exact (aB (eM (fG (fF (lz (ah 1) rfl B.isinstance rfl B.str yn (by decide)))) (aM (bD kr)) cf) (aB (oa rfl (II (bM hu1 (ah 0) (JE.bor az))) (c_ 2 oW.nd) (aM (eM (dg (s_ hu64) (JE.bor (bM hu1 (ah 2) (JE.bor az))) (ah 1)) (aM (bD (ai 2))) cf))) (aM (bD kr))))
abbrev sA:cr:=n5 31
abbrev BP:List Str:=["state","want","must","bars"]
theorem ua:bu BP ["state","want"] (ax sA):=dq (by decide +kernel)
abbrev wx (e:En):=FN e "fulfils" 2 2 oS
theorem HF (D:gK e.K e.mg "fulfils" sA) (B:Bi e.mg) (eT:lS e):wx e:=oP (k:=1) (g:=sj) D ua b2 fun _ _ _ _ _ _ _ hr=>by unfold sj;exact (aB (yQ (ai 1) (qY rfl (dC (c_ 2 ua.nd) (dC (c_ 3 ua.nd) nl)))) (aM (bD (qS (bT (pz rfl) rfl B.all cK (bv (JE.bor (JN.je (gU (N':=["fact","state"]) (ix:=[0]) 1 (by decide) rfl (cb (so:=ax sA) (N:=BP) (by decide +kernel)) (fJ (ah 2)) (fun cl A0 s0 H0 ex pn=>⟨cZ (i:=0) (by show (["fact","state"] : List Str).Nodup;decide +kernel) rfl (.inl rfl),fj,(o7 (Eh) (ah 0) (ah 1))⟩)))) bR)) (tV (jc eT hr px (a9 (ai 3) (a9 (ai 0) ap))))))))
abbrev rz:cr:=n5 32
abbrev Fc:List Str:=["errand","state"]
theorem Dh:bu Fc ["errand","state"] (ax rz):=dq (by decide +kernel)
abbrev wX (e:En):=FN e "is_doable" 3 2 iH
theorem Di (D:gK e.K e.mg "is_doable" rz) (m6:wx e):wX e:=oP (k:=2) (g:=nw) D Dh b2 fun _ _ _ _ _ _ _ hr=>by have hu1:=ip hr;unfold nw;exact (aM (bD (jc m6 hr px (a9 (ai 1) (a9 (cH (a9 (bM hu1 (ah 0) (JE.bor az)) (a9 (bM hu1 (ah 0) (JE.bor az)) ap))) ap)))))
abbrev mL:cr:=n5 33
abbrev zK:List Str:=["errand","state","makes","ends"]
theorem qk:bu zK ["errand","state"] (ax mL):=dq (by decide +kernel)
abbrev rA (e:En):=FN e "state_behind" 2 2 fK
theorem xB (D:gK e.K e.mg "state_behind" mL) (wy:BL e) (zL:F9 e):rA e:=oP (k:=1) (g:=jY) D qk b2 fun _ _ _ _ _ _ _ hr=>by have hu1:=ip hr;unfold jY;exact (aB (Tq 2 3 rfl qk.nd (a9 (bM hu1 (ah 0) (JE.bor az)) (a9 (bM hu1 (ah 0) (JE.bor az)) ap))) (aM (bD (jc zL hr px (a9 (jc wy hr px (a9 (ai 1) (a9 (ai 3) ap))) (a9 (ai 2) ap))))))
abbrev wz:cr:=n5 34
abbrev Le:List Str:=["book"]
theorem HG:bu Le ["book"] (ax wz):=dq (by decide +kernel)
abbrev BQ (e:En):=FN e "checked" 6 1 sr
theorem HH (D:gK e.K e.mg "checked" wz) (wA:BN e) (zM:ER e "NoBook"):BQ e:=oP (k:=5) (g:=sk) D HG b1 fun _ _ _ _ _ _ _ hr=>by unfold sk;exact (aB (eM (fG (fF (jc wA hr px (a9 (ai 0) ap)))) (aM (zc zM rfl (a9 iE ap))) cf) (aM (bD (ai 0))))
abbrev om:cr:=n5 35
abbrev AG:List Str:=["book","state"]
theorem zN:bu AG ["book","state"] (ax om):=dq (by decide +kernel)
abbrev tj (e:En):=FN e "check_place" 7 2 kU
theorem zO (D:gK e.K e.mg "check_place" om) (wB:BQ e) (oo:tf e):tj e:=oP (k:=6) (g:=kS) D zN b2 fun _ _ _ _ _ _ _ hr=>by unfold kS;exact (aB (u_ (jc wB hr px (a9 (ai 0) ap))) (aM (u_ (jc oo hr px (a9 (ai 0) (a9 (ai 1) ap))))))
abbrev rE:cr:=n5 36
abbrev Fd:List Str:=["book","state","want"]
theorem Dj:bu Fd ["book","state","want"] (ax rE):=dq (by decide +kernel)
abbrev wY (e:En):=FN e "check_aim" 8 3 jr
theorem Dk (D:gK e.K e.mg "check_aim" rE) (oq:tj e) (pX:vt e):wY e:=oP (k:=7) (g:=l9) D Dj b3 fun _ _ _ _ _ _ _ hr=>by unfold l9;exact (aB (u_ (jc oq hr px (a9 (ai 0) (a9 (ai 1) ap)))) (aM (u_ (jc pX hr px (a9 (ai 0) (a9 (ai 2) ap))))))
abbrev vv:cr:=n5 39
abbrev Fe:List Str:=["book","thing"]
theorem Lf:bu Fe ["book","thing"] (ax vv):=dq (by decide +kernel)
abbrev Ff (e:En):=FN e "is_row" 2 2 lc
theorem Lg (D:gK e.K e.mg "is_row" vv) (B:Bi e.mg) (gz:lE e) (ou:Cn e.mg "MOST_IN_ROW" 64):Ff e:=oP (k:=1) (g:=mB) D Lf b2 fun _ _ _ _ _ _ _ hr=>by unfold mB;exact (aB (eM (JW.t (qQ (fG (fF (lz (ah 1) rfl B.isinstance rfl B.list gS (by decide)))) (mr (dg (Ec) (JE.bor (bT gm rfl B.len bC (bv (ah 1) bR))) (JE.bor (qP rfl ou)))))) (aM (bD mq)) cf) (aM (bD (bT (pz rfl) rfl B.all cK (bv (JE.bor (JN.je (gU (N':=["name","book"]) (ix:=[0]) 1 (by decide) rfl (cb (so:=ax vv) (N:=Fe) (by decide +kernel)) (fJ (ah 1)) (fun cl A0 s0 H0 ex pn=>⟨cZ (i:=0) (by show (["name","book"] : List Str).Nodup;decide +kernel) rfl (.inl rfl),fj,(o7 (Ed) (JE.bor (jc gz hr dZ (a9 (ai 1) (a9 (ai 0) ap)))) (JE.bor kr))⟩)))) bR)))))
abbrev lT:cr:=n5 40
abbrev vw:List Str:=["book","row"]
theorem AH:bu vw ["book","row"] (ax lT):=dq (by decide +kernel)
abbrev vx (e:En):=FN e "errands_of" 3 2 iQ
theorem AI (D:gK e.K e.mg "errands_of" lT) (zP:Ff e) (gz:lE e) (Dl:O8 "NoRow" (e.cls "NoRow") e.mg e.base):vx e:=oP (k:=2) (g:=jZ) D AH b2 fun _ _ _ _ _ _ _ hr=>by unfold jZ;exact (aB (eM (fG (fF (jc zP hr px (a9 (ai 0) (a9 (ai 1) ap))))) (aM (KG Dl (XZ hr) rfl (a9 kr ap))) cf) (aM (bD (JN.je (gU (N':=["name","book"]) (ix:=[0]) 1 (by decide) rfl (cb (so:=ax lT) (N:=vw) (by decide +kernel)) (fJ (ah 1)) (fun cl A0 s0 H0 ex pn=>⟨cZ (i:=0) (by show (["name","book"] : List Str).Nodup;decide +kernel) rfl (.inl rfl),fj,(jc gz hr dZ (a9 (ai 1) (a9 (ai 0) ap)))⟩))))))
abbrev kC:cr:=n5 41
abbrev wC:List Str:=["errands","state","states","errand"]
theorem k7:bu wC ["errands","state"] (ax kC):=dq (by decide +kernel)
abbrev oX (e:En):=FN e "states_through" 4 2 iS
theorem vy (D:gK e.K e.mg "states_through" kC) (rF:wX e) (mM:rA e):oX e:=oP (k:=3) (g:=iR) D k7 b2 fun _ _ _ _ _ _ _ hr=>by have hu1:=ip hr;unfold iR;exact (aB (jR 2 (q_ (a9 (ai 1) ap)) k7.nd) (aB (Qg 0 rfl (c_ 3 k7.nd) (aB (eM (fG (fF (jc rF hr dZ (a9 (ai 3) (a9 (bM hu1 (ah 2) (JE.bor (yZ az))) ap))))) (aM (bD (ai 2))) cf) (aM (oN 2 (jc mM hr dZ (a9 (ai 3) (a9 (bM hu1 (ah 2) (JE.bor (yZ az))) ap))))))) (aM (bD (ai 2)))))
abbrev zQ:cr:=n5 42
abbrev OI:List Str:=["book","state","want","row","errands","states"]
theorem wD:bu OI ["book","state","want","row"] (ax zQ):=dq (by decide +kernel)
abbrev OJ (e:En):=FN e "serves" 9 4 fL
theorem Lh (D:gK e.K e.mg "serves" zQ) (B:Bi e.mg) (rG:wY e) (pY:vx e) (kE:oX e) (m6:wx e):OJ e:=oP (k:=8) (g:=oT) D wD b4 fun _ _ _ _ _ _ _ hr=>by have hu1:=ip hr;unfold oT;exact (aB (u_ (jc rG hr px (a9 (ai 0) (a9 (ai 1) (a9 (ai 2) ap))))) (aB (eX 4 (jc pY hr px (a9 (ai 0) (a9 (ai 3) ap))) wD.nd) (aB (eX 5 (jc kE hr px (a9 (ai 4) (a9 (ai 1) ap))) wD.nd) (aM (bD (qS (o7 (Ec) (JE.bor (bT gm rfl B.len bC (bv (ah 5) bR))) (JE.bor (bT gm rfl B.len bC (bv (ah 4) bR)))) (tV (jc m6 hr px (a9 (bM hu1 (ah 5) (JE.bor (yZ az))) (a9 (ai 2) ap))))))))))
abbrev oy:cr:=n5 44
abbrev AJ:List Str:=["_law_script","_law_k"]
theorem zR:bu AJ ["_law_script","_law_k"] (ax oy):=dq (by decide +kernel)
abbrev tm (e:En):=FN e "_law_cell_at" 1 2 kX
theorem zS (D:gK e.K e.mg "_law_cell_at" oy) (B:Bi e.mg):tm e:=oP (k:=0) (g:=kW) D zR b2 fun _ _ _ _ _ _ _ hr=>by have hu1:=ip hr;have hu64:=hr.units;unfold kW;exact (aB (eM (dg (Bj) (ah 1) (JE.bor (bT gm rfl B.len bC (bv (ah 0) bR)))) (aM (bD (bM hu1 (ah 0) (ah 1)))) cf) (aB (eM (dg (s_ hu64) (ah 0) (JE.bor (fH ap))) (aM (bD az)) cf) (aM (bD (bP cz (JE.bor (bP pq (JE.bor (bM hu1 (ah 0) (JE.bor (bP Cz (ah 1) (JE.bor (bT gm rfl B.len bC (bv (ah 0) bR))))))) (JE.bor az))) (ah 1))))))
abbrev rH:cr:=n5 45
abbrev Fg:List Str:=["_law_script","_law_k","_law_many","_law_drawn"]
theorem vz:bu Fg ["_law_script","_law_k","_law_many"] (ax rH):=dq (by decide +kernel)
abbrev du (e:En):=FN e "_law_mixed" 2 3 a_
theorem Dm (D:gK e.K e.mg "_law_mixed" rH) (oz:tm e):du e:=oP (k:=1) (g:=ny) D vz b3 fun _ _ _ _ _ _ _ hr=>by unfold ny;exact (aB (eX 3 (bP Cz (JE.bor (bP pq (JE.bor (bP cz (JE.bor (bP cz (JE.bor (jc oz hr px (a9 (ai 0) (a9 (ai 1) ap)))) (JE.bor (bP pq (JE.bor az) (ah 1))))) (JE.bor az))) (JE.bor az))) (JE.bor az)) vz.nd) (aM (bD (bP Cz (JE.bor (bP Cz (JE.bor (bP cz (JE.bor (bP cz (JE.bor (bP pq (ah 3) (ah 3))) (JE.bor (bP pq (JE.bor az) (ah 3))))) (ah 1))) (JE.bor az))) (ah 2)))))
abbrev ub:cr:=n5 46
abbrev HI:List Str:=["_law_script","_law_at","_law_made","_law_k"]
theorem nL:bu HI ["_law_script","_law_at"] (ax ub):=dq (by decide +kernel)
abbrev uc (e:En):=FN e "_law_word" 3 2 kx
theorem Fh (D:gK e.K e.mg "_law_word" ub) (B:Bi e.mg) (aK:du e):uc e:=oP (k:=2) (g:=pG) D nL b2 fun _ _ _ _ _ _ _ hr=>by have hu1:=ip hr;unfold pG;exact (aB (eX 2 iE nL.nd) (aB (oa rfl (mx rfl B.range (bv (JE.bor (bM hu1 (JE.bor (fH (a9 az (a9 az (a9 az (a9 az (a9 az (a9 az ap)))))))) (JE.bor (jc aK hr dZ (a9 (ai 0) (a9 (ai 1) (a9 az ap))))))) bR)) (c_ 3 nL.nd) (aM (eX 2 (bP cz (ah 2) (JE.bor (bM hu1 (JE.bor iE) (JE.bor (jc aK hr dZ (a9 (ai 0) (a9 (bP cz (JE.bor (bP cz (ah 1) (JE.bor az))) (ah 3)) (a9 az ap)))))))) nL.nd))) (aM (bD (ai 2)))))
abbrev rJ:cr:=n5 47
abbrev Fi:List Str:=["_law_script","_law_at","_law_most","_law_found","_law_k"]
theorem pZ:bu Fi ["_law_script","_law_at","_law_most"] (ax rJ):=dq (by decide +kernel)
abbrev wZ (e:En):=FN e "_law_facts" 4 3 nA
theorem Dn (D:gK e.K e.mg "_law_facts" rJ) (B:Bi e.mg) (kF:uc e) (aK:du e):wZ e:=oP (k:=3) (g:=nz) D pZ b3 fun _ _ _ _ _ _ _ hr=>by have hu1:=ip hr;unfold nz;exact (aB (jR 3 IJ pZ.nd) (aB (oa rfl (mx rfl B.range (bv (JE.bor (jc aK hr dZ (a9 (ai 0) (a9 (ai 1) (a9 (bP cz (ah 2) (JE.bor az)) ap))))) bR)) (c_ 4 pZ.nd) (aM (IM 3 mq (jc kF hr dZ (a9 (ai 0) (a9 (bP cz (JE.bor (bP cz (ah 1) (JE.bor az))) (JE.bor (bP pq (JE.bor az) (ah 4)))) ap))) hu1))) (aM (bD (eJ (iF rfl) rfl B.tuple bg (bv (JE.bor (bT Ko rfl B.sorted wK (bv (JE.bor (eJ (v6 rfl) rfl B.list gS (bv (ah 3) bR))) bR))) bR))))))
abbrev p_:cr:=n5 48
abbrev zT:List Str:=["_law_script","_law_at","_law_facts_here","_law_part"]
theorem Fj:bu zT ["_law_script","_law_at","_law_facts_here","_law_part"] (ax p_):=dq (by decide +kernel)
abbrev zU (e:En):=FN e "_law_some" 3 4 pI
theorem Fk (D:gK e.K e.mg "_law_some" p_) (B:Bi e.mg) (aK:du e):zU e:=oP (k:=2) (g:=pH) D Fj b4 fun _ _ _ _ _ _ _ hr=>by unfold pH;exact (aM (bD (eJ (iF rfl) rfl B.tuple bg (bv (JE.bor (JN.je (gU (N':=["_law_k","_law_fact","_law_script","_law_at","_law_part"]) (ix:=[0,1,3]) 2 (by decide) rfl (cb (so:=ax p_) (N:=zT) (by decide +kernel)) (LD.i (yS rfl B.enumerate (a9 (ai 2) ap))) (fun cl A0 s0 H0 ex pn=>⟨Gk rfl (qH (cZ (i:=0) (by show (["_law_k","_law_fact","_law_script","_law_at","_law_part"] : List Str).Nodup;decide +kernel) rfl (.inl rfl)) (qH (cZ (i:=1) (by show (["_law_k","_law_fact","_law_script","_law_at","_law_part"] : List Str).Nodup;decide +kernel) rfl (.inl rfl)) C5)),(rZ (dg (Bj) (JE.bor (jc aK hr dZ (a9 (ai 2) (a9 (bP cz (ah 3) (ah 0)) (a9 az ap))))) (ah 4))),(ai 1)⟩)))) bR))))
abbrev kG:cr:=n5 49
abbrev q0:List Str:=["_law_script","_law_at","_law_facts_here","_law_name","_law_one","_law_two","_law_goal","_law_needs","_law_bars","_law_ends","_law_parts"]
theorem hU:bu q0 ["_law_script","_law_at","_law_facts_here","_law_name"] (ax kG):=dq (by decide +kernel)
abbrev zV (e:En):=FN e "_law_thin" 3 4 pK
theorem Fm (D:gK e.K e.mg "_law_thin" kG) (B:Bi e.mg) (aK:du e):zV e:=oP (k:=2) (g:=pJ) D hU b4 fun _ _ _ _ _ _ _ hr=>by have hu1:=ip hr;have hu64:=hr.units;unfold pJ;exact (aB (eX 4 (bM hu1 (ah 2) (JE.bor (jc aK hr px (a9 (ai 0) (a9 (bP cz (ah 1) (JE.bor az)) (a9 (bT gm rfl B.len bC (bv (ah 2) bR)) ap)))))) hU.nd) (aB (eX 5 (bM hu1 (ah 2) (JE.bor (jc aK hr px (a9 (ai 0) (a9 (bP cz (ah 1) (JE.bor az)) (a9 (bT gm rfl B.len bC (bv (ah 2) bR)) ap)))))) hU.nd) (aB (eX 6 (bM hu1 (ah 2) (JE.bor (jc aK hr px (a9 (ai 0) (a9 (bP cz (ah 1) (JE.bor az)) (a9 (bT gm rfl B.len bC (bv (ah 2) bR)) ap)))))) hU.nd) (aB (eX 7 (jQ (JE.bor (fH (a9 (ai 4) (a9 (ai 5) ap)))) lO (jP (bP cz (JE.bor az) (JE.bor (bP Q6 (JE.bor (jc aK hr px (a9 (ai 0) (a9 (bP cz (ah 1) (JE.bor az)) (a9 az ap))))) (JE.bor az)))))) hU.nd) (aB (iG 8 (N':=["_law_fact","_law_needs","_law_script","_law_at"]) (ix:=[7,0,1]) 1 (by decide) hU.nd rfl (cb (so:=ax kG) (N:=q0) (by decide +kernel)) (fJ (JE.bor (fH (a9 (ai 6) ap)))) (fun cl A0 s0 H0 ex pn=>⟨cZ (i:=0) (by show (["_law_fact","_law_needs","_law_script","_law_at"] : List Str).Nodup;decide +kernel) rfl (.inl rfl),(rZ (JW.t (Cy (dg (yO) (ah 0) (ah 1)) (xT (dg (s_ hu64) (JE.bor (jc aK hr dZ (a9 (ai 2) (a9 (bP cz (ah 3) (JE.bor az)) (a9 az ap))))) (JE.bor az)))))),(ai 0)⟩)) (aB (iG 9 (N':=["_law_fact","_law_goal","_law_script","_law_at"]) (ix:=[6,0,1]) 1 (by decide) hU.nd rfl (cb (so:=ax kG) (N:=q0) (by decide +kernel)) (fJ (JE.bor (fH (a9 (ai 4) ap)))) (fun cl A0 s0 H0 ex pn=>⟨cZ (i:=0) (by show (["_law_fact","_law_goal","_law_script","_law_at"] : List Str).Nodup;decide +kernel) rfl (.inl rfl),(rZ (JW.t (Cy (dg (qU hu64) (ah 0) (ah 1)) (xT (dg (s_ hu64) (JE.bor (jc aK hr dZ (a9 (ai 2) (a9 (bP cz (ah 3) (JE.bor az)) (a9 az ap))))) (JE.bor az)))))),(ai 0)⟩)) (aB (Ng 8 (Ng 9 (iG 10 (N':=["_law_part"]) (ix:=[]) 1 (by decide) hU.nd rfl (cb (so:=ax kG) (N:=q0) (by decide +kernel)) (fJ (JE.bor (cH (a9 (ai 7) (a9 (ai 8) (a9 (fH (a9 (ai 6) ap)) (a9 (ai 9) ap))))))) (fun cl A0 s0 H0 ex pn=>⟨cZ (i:=0) (by show (["_law_part"] : List Str).Nodup;decide +kernel) rfl (.inl rfl),fj,(eJ (iF rfl) rfl B.tuple bg (bv (JE.bor (tX rfl (CK rfl (ah 0) rfl B.set) rfl B.sorted)) bR))⟩)))) (aM (bD (cH (a9 (ai 3) (a9 (bM hu1 (ah 10) (JE.bor az)) (a9 (bM hu1 (ah 10) (JE.bor az)) (a9 (bM hu1 (ah 10) (JE.bor az)) (a9 (bM hu1 (ah 10) (JE.bor az)) (a9 (jc aK hr px (a9 (ai 0) (a9 (ai 1) (a9 az ap)))) ap))))))))))))))))
abbrev lU:cr:=n5 50
abbrev vA:List Str:=["_law_script","_law_at","_law_facts_here","_law_name","_law_parts","_law_k","_law_fact","_law_way","_law_some_here"]
theorem gM:bu vA ["_law_script","_law_at","_law_facts_here","_law_name"] (ax lU):=dq (by decide +kernel)
abbrev vB (e:En):=FN e "_law_errand" 4 4 iU
theorem AK (D:gK e.K e.mg "_law_errand" lU) (B:Bi e.mg) (aK:du e) (ud:zV e):vB e:=oP (k:=3) (g:=iT) D gM b4 fun _ _ _ _ _ _ _ hr=>by have hu1:=ip hr;have hu64:=hr.units;unfold iT;exact (aB (eM (JW.t (Cy (dg (qU hu64) (ah 2) (JE.bor (cH ap))) (xT (dg (s_ hu64) (JE.bor (jc aK hr px (a9 (ai 0) (a9 az (a9 az ap))))) (JE.bor az))))) (aM (bD (jc ud hr px (a9 (ai 0) (a9 (ai 1) (a9 (ai 2) (a9 (ai 3) ap))))))) cf) (aB (T8 4 gM.nd) (aB (oa rfl (yS rfl B.enumerate (a9 (ai 2) ap)) (qY rfl (dC (c_ 5 gM.nd) (dC (c_ 6 gM.nd) nl))) (aB (eX 7 (jc aK hr dZ (a9 (ai 0) (a9 (bP cz (JE.bor (bP cz (ah 1) (JE.bor az))) (ah 5)) (a9 az ap)))) gM.nd) (aB (eM (dg (Bj) (ah 7) (JE.bor az)) (aM (zb 4 (bM hu1 (JE.bor (fH (a9 az (a9 az (a9 az ap))))) (ah 7)) (ai 6))) cf) (aB (eX 7 (jc aK hr dZ (a9 (ai 0) (a9 (bP cz (JE.bor (bP cz (ah 1) (JE.bor az))) (ah 5)) (a9 az ap)))) gM.nd) (aM (eM (dg (Bj) (ah 7) (JE.bor az)) (aM (zb 4 (bM hu1 (JE.bor (fH (a9 az (a9 az (a9 az (a9 az ap)))))) (ah 7)) (ai 6))) cf)))))) (aB (Nf (iG 8 (N':=["_law_part"]) (ix:=[]) 1 (by decide) gM.nd rfl (cb (so:=ax lU) (N:=vA) (by decide +kernel)) (fJ (ah 4)) (fun cl A0 s0 H0 ex pn=>⟨cZ (i:=0) (by show (["_law_part"] : List Str).Nodup;decide +kernel) rfl (.inl rfl),fj,(eJ (iF rfl) rfl B.tuple bg (bv (ah 0) bR))⟩))) (aM (bD (cH (a9 (ai 3) (a9 (bM hu1 (ah 8) (JE.bor az)) (a9 (bM hu1 (ah 8) (JE.bor az)) (a9 (bM hu1 (ah 8) (JE.bor az)) (a9 (bM hu1 (ah 8) (JE.bor az)) (a9 (jc aK hr px (a9 (ai 0) (a9 (ai 1) (a9 az ap)))) ap)))))))))))))
abbrev q8:cr:=n5 51
abbrev zW:List Str:=["_law_script","_law_at","_law_most","_law_many","_law_facts_here","_law_made","_law_k","_law_name","_law_names","_law_turn"]
theorem iJ:bu zW ["_law_script","_law_at","_law_most","_law_many"] (ax q8):=dq (by decide +kernel)
abbrev zX (e:En):=FN e "_law_book" 5 4 mD
theorem Fo (D:gK e.K e.mg "_law_book" q8) (B:Bi e.mg) (rK:wZ e) (kF:uc e) (q9:vB e) (aK:du e):zX e:=oP (k:=4) (g:=mC) D iJ b4 fun _ _ _ _ _ _ _ hr=>by have hu1:=ip hr;unfold mC;exact (aB (eX 4 (jc rK hr px (a9 (ai 0) (a9 (ai 1) (a9 (ai 2) ap)))) iJ.nd) (aB (jR 5 IJ iJ.nd) (aB (oa rfl (mx rfl B.range (bv (JE.bor (jc aK hr dZ (a9 (ai 0) (a9 (bP cz (ah 1) (JE.bor az)) (a9 (bP cz (ah 3) (JE.bor az)) ap))))) bR)) (c_ 6 iJ.nd) (aB (eX 7 (jc kF hr dZ (a9 (ai 0) (a9 (bP cz (JE.bor (bP cz (ah 1) (JE.bor az))) (JE.bor (bP pq (JE.bor az) (ah 6)))) ap))) iJ.nd) (aM (IM 5 (jc q9 hr dZ (a9 (ai 0) (a9 (bP cz (JE.bor (bP cz (ah 1) (JE.bor az))) (JE.bor (bP pq (JE.bor az) (ah 6)))) (a9 (ai 4) (a9 (ai 7) ap))))) (ai 7) hu1)))) (aB (eX 8 (eJ (v6 rfl) rfl B.list gS (bv (ah 5) bR)) iJ.nd) (aB (eX 9 (jc aK hr px (a9 (ai 0) (a9 (bP cz (ah 1) (JE.bor az)) (a9 (bP cz (JE.bor (bT gm rfl B.len bC (bv (ah 8) bR))) (JE.bor az)) ap)))) iJ.nd) (aM (bD (cH (a9 (ai 4) (a9 (eJ (iF rfl) rfl B.tuple bg (bv (JE.bor (JN.je (gU (N':=["_law_name","_law_made"]) (ix:=[5]) 1 (by decide) rfl (cb (so:=ax q8) (N:=zW) (by decide +kernel)) (fJ (JE.bor (bP cz (JE.bor (jQ (ah 8) (jP (ai 9)) lO)) (JE.bor (jQ (ah 8) lO (jP (ai 9))))))) (fun cl A0 s0 H0 ex pn=>⟨cZ (i:=0) (by show (["_law_name","_law_made"] : List Str).Nodup;decide +kernel) rfl (.inl rfl),fj,(bM hu1 (ah 1) (ah 0))⟩)))) bR)) ap))))))))))
abbrev ue:cr:=n5 52
abbrev HJ:List Str:=["_law_script","_law_at","_law_facts_here","_law_must","_law_bars","_law_k","_law_fact","_law_way"]
theorem jv:bu HJ ["_law_script","_law_at","_law_facts_here"] (ax ue):=dq (by decide +kernel)
abbrev zY (e:En):=FN e "_law_want" 3 3 tZ
theorem Fp (D:gK e.K e.mg "_law_want" ue) (B:Bi e.mg) (aK:du e):zY e:=oP (k:=2) (g:=mE) D jv b3 fun _ _ _ _ _ _ _ hr=>by have hu64:=hr.units;unfold mE;exact (aB (jR 3 (q_ ap) jv.nd) (aB (jR 4 (q_ ap) jv.nd) (aB (oa rfl (yS rfl B.enumerate (a9 (ai 2) ap)) (qY rfl (dC (c_ 5 jv.nd) (dC (c_ 6 jv.nd) nl))) (aB (eX 7 (jc aK hr dZ (a9 (ai 0) (a9 (bP cz (ah 1) (ah 5)) (a9 az ap)))) jv.nd) (aM (eM (dg (Bj) (ah 7) (JE.bor az)) (aM (oN 3 (ai 6))) (aM (eM (dg (s_ hu64) (ah 7) (JE.bor az)) (aM (oN 4 (ai 6))) cf)))))) (aM (bD (cH (a9 (eJ (iF rfl) rfl B.tuple bg (bv (ah 3) bR)) (a9 (eJ (iF rfl) rfl B.tuple bg (bv (ah 4) bR)) ap))))))))
abbrev uf:cr:=n5 53
abbrev HK:List Str:=["_law_script","_law_most","_law_many","_law_book_here","_law_state"]
theorem rL:bu HK ["_law_script","_law_most","_law_many"] (ax uf):=dq (by decide +kernel)
abbrev zZ (e:En):=FN e "_law_case" 6 3 mF
theorem Fq (D:gK e.K e.mg "_law_case" uf) (ug:zX e) (aK:du e) (uh:zU e) (ui:zY e):zZ e:=oP (k:=5) (g:=pL) D rL b3 fun _ _ _ _ _ _ _ hr=>by have hu1:=ip hr;unfold pL;exact (aB (eX 3 (jc ug hr px (a9 (ai 0) (a9 az (a9 (ai 1) (a9 (ai 2) ap))))) rL.nd) (aB (eX 4 (jc uh hr px (a9 (ai 0) (a9 az (a9 (bM hu1 (ah 3) (JE.bor az)) (a9 (bM hu1 (JE.bor (fH (a9 az (a9 az ap)))) (JE.bor (jc aK hr px (a9 (ai 0) (a9 az (a9 az ap)))))) ap))))) rL.nd) (aM (bD (cH (a9 (ai 3) (a9 (ai 4) (a9 (jc ui hr px (a9 (ai 0) (a9 az (a9 (bM hu1 (ah 3) (JE.bor az)) ap)))) ap))))))))
abbrev mO:cr:=n5 54
abbrev uj:List Str:=["_law_state","_law_want_here"]
theorem Fs:bu uj ["_law_state","_law_want_here"] (ax mO):=dq (by decide +kernel)
abbrev uk (e:En):=FN e "_law_good" 1 2 mG
theorem Ft (D:gK e.K e.mg "_law_good" mO) (B:Bi e.mg):uk e:=oP (k:=0) (g:=pM) D Fs b2 fun _ _ _ _ _ _ _ hr=>by have hu1:=ip hr;unfold pM;exact (aM (bD (qS (bT (pz rfl) rfl B.all cK (bv (JE.bor (JN.je (gU (N':=["_law_fact","_law_state"]) (ix:=[0]) 1 (by decide) rfl (cb (so:=ax mO) (N:=uj) (by decide +kernel)) (fJ (JE.bor (bM hu1 (ah 1) (JE.bor az)))) (fun cl A0 s0 H0 ex pn=>⟨cZ (i:=0) (by show (["_law_fact","_law_state"] : List Str).Nodup;decide +kernel) rfl (.inl rfl),fj,(o7 (Eh) (ah 0) (ah 1))⟩)))) bR)) (tV (GI (bT (N5 rfl) rfl B.any ym (bv (JE.bor (JN.je (gU (N':=["_law_fact","_law_state"]) (ix:=[0]) 1 (by decide) rfl (cb (so:=ax mO) (N:=uj) (by decide +kernel)) (fJ (JE.bor (bM hu1 (ah 1) (JE.bor az)))) (fun cl A0 s0 H0 ex pn=>⟨cZ (i:=0) (by show (["_law_fact","_law_state"] : List Str).Nodup;decide +kernel) rfl (.inl rfl),fj,(o7 (Eh) (ah 0) (ah 1))⟩)))) bR)))))))
abbrev qc:cr:=n5 55
abbrev z_:List Str:=["_law_errand_here","_law_state","_law_left"]
theorem w_:bu z_ ["_law_errand_here","_law_state"] (ax qc):=dq (by decide +kernel)
abbrev ul (e:En):=FN e "_law_step" 2 2 fe
theorem Fv (D:gK e.K e.mg "_law_step" qc) (B:Bi e.mg) (kH:uk e):ul e:=oP (k:=1) (g:=pO) D w_ b2 fun _ _ _ _ _ _ _ hr=>by have hu1:=ip hr;unfold pO;exact (aB (eM (fG (fF (jc kH hr px (a9 (ai 1) (a9 (jQ (ah 0) (jP az) (jP az)) ap))))) (aM (bD kr)) cf) (aB (iG 2 (N':=["_law_fact","_law_errand_here"]) (ix:=[0]) 1 (by decide) w_.nd rfl (cb (so:=ax qc) (N:=z_) (by decide +kernel)) (fJ (ah 1)) (fun cl A0 s0 H0 ex pn=>⟨cZ (i:=0) (by show (["_law_fact","_law_errand_here"] : List Str).Nodup;decide +kernel) rfl (.inl rfl),(rZ (dg (yO) (ah 0) (JE.bor (bM hu1 (ah 1) (JE.bor az))))),(ai 0)⟩)) (aM (bD (eJ (iF rfl) rfl B.tuple bg (bv (JE.bor (tX rfl (CK rfl (JE.bor (bP cz (ah 2) (JE.bor (eJ (v6 rfl) rfl B.list gS (bv (JE.bor (bM hu1 (ah 0) (JE.bor az))) bR))))) rfl B.set) rfl B.sorted)) bR))))))
abbrev qd:cr:=n5 56
abbrev A1:List Str:=["_law_script","_law_at","_law_book_here","_law_state","_law_many","_law_row","_law_k","_law_some_here","_law_errand_here"]
theorem jw:bu A1 ["_law_script","_law_at","_law_book_here","_law_state","_law_many"] (ax qd):=dq (by decide +kernel)
abbrev A2 (e:En):=FN e "_law_walk" 3 5 mH
theorem Fx (D:gK e.K e.mg "_law_walk" qd) (B:Bi e.mg) (jn:ul e) (aK:du e):A2 e:=oP (k:=2) (g:=pP) D jw b5 fun _ _ _ _ _ _ _ hr=>by have hu1:=ip hr;have hu64:=hr.units;unfold pP;exact (aB (jR 5 (q_ ap) jw.nd) (aB (oa rfl (mx rfl B.range (bv (ah 4) bR)) (c_ 6 jw.nd) (aB (iG 7 (N':=["_law_errand_here","_law_state"]) (ix:=[3]) 1 (by decide) jw.nd rfl (cb (so:=ax qd) (N:=A1) (by decide +kernel)) (fJ (JE.bor (bM hu1 (ah 2) (JE.bor az)))) (fun cl A0 s0 H0 ex pn=>⟨cZ (i:=0) (by show (["_law_errand_here","_law_state"] : List Str).Nodup;decide +kernel) rfl (.inl rfl),(rZ (dg (Ed) (JE.bor (jc jn hr dZ (a9 (ai 0) (a9 (ai 1) ap)))) (JE.bor kr))),(ai 0)⟩)) (aB (eM (dg (s_ hu64) (ah 7) (JE.bor (fH ap))) (aM (bD (ai 5))) cf) (aB (eX 8 (bM hu1 (ah 7) (JE.bor (jc aK hr dZ (a9 (ai 0) (a9 (bP cz (ah 1) (ah 6)) (a9 (bT gm rfl B.len bC (bv (ah 7) bR)) ap)))))) jw.nd) (aB (oN 5 (bM hu1 (ah 8) (JE.bor az))) (aM (eX 3 (jc jn hr dZ (a9 (ai 8) (a9 (ai 3) ap))) jw.nd))))))) (aM (bD (ai 5)))))
abbrev lV:cr:=n5 57
abbrev vC:List Str:=["_law_book_here","_law_state","_law_row","_law_named","_law_found","_law_number","_law_name","_law_other"]
theorem ic:bu vC ["_law_book_here","_law_state","_law_row"] (ax lV):=dq (by decide +kernel)
abbrev vD (e:En):=FN e "_law_states" 3 3 iV
theorem AL (D:gK e.K e.mg "_law_states" lV) (B:Bi e.mg) (jn:ul e):vD e:=oP (k:=2) (g:=lP) D ic b3 fun _ _ _ _ _ _ _ hr=>by have hu1:=ip hr;unfold lP;exact (aB (jR 3 (Ky rfl (JN.je (gU (N':=["_law_errand_here"]) (ix:=[]) 1 (by decide) rfl (cb (so:=ax lV) (N:=vC) (by decide +kernel)) (fJ (JE.bor (bM hu1 (ah 0) (JE.bor az)))) (fun cl A0 s0 H0 ex pn=>⟨cZ (i:=0) (by show (["_law_errand_here"] : List Str).Nodup;decide +kernel) rfl (.inl rfl),fj,(cH (a9 (bM hu1 (ah 0) (JE.bor az)) (a9 (ai 0) ap)))⟩))) rfl B.dict) ic.nd) (aB (jR 4 (q_ (a9 (ai 1) ap)) ic.nd) (aB (oa rfl (Kz rfl B.enumerate (a9 (ai 2) ap)) (qY rfl (dC (c_ 5 ic.nd) (dC (c_ 6 ic.nd) nl))) (aB (eX 7 (jc jn hr dZ (a9 (bM hu1 (ah 3) (ah 6)) (a9 (bM hu1 (ah 4) (JE.bor (yZ az))) ap))) ic.nd) (aB (eM (dg (UG) (ah 7) (JE.bor kr)) (aM (bD (ai 5))) cf) (aM (oN 4 (ai 7)))))) (aM (bD (ai 4))))))
abbrev um:cr:=n5 58
abbrev HL:List Str:=["_law_book_here","_law_state","_law_want_here","_law_row","_law_found"]
theorem xa:bu HL ["_law_book_here","_law_state","_law_want_here","_law_row"] (ax um):=dq (by decide +kernel)
abbrev A3 (e:En):=FN e "_law_does" 4 4 kz
theorem Fz (D:gK e.K e.mg "_law_does" um) (B:Bi e.mg) (qe:vD e) (kH:uk e):A3 e:=oP (k:=3) (g:=pQ) D xa b4 fun _ _ _ _ _ _ _ hr=>by have hu1:=ip hr;unfold pQ;exact (aB (eX 4 (jc qe hr px (a9 (ai 0) (a9 (ai 1) (a9 (ai 3) ap)))) xa.nd) (aM (bD (qS (GI (lz (ah 4) rfl B.isinstance rfl B.int yo (by decide))) (tV (jc kH hr px (a9 (bM hu1 (ah 4) (JE.bor (yZ az))) (a9 (ai 2) ap))))))))
abbrev lF:cr:=n5 59
abbrev xC:List Str:=["_law_script","_law_at","_law_facts_here","_law_some_here"]
theorem oY:bu xC ["_law_script","_law_at","_law_facts_here"] (ax lF):=dq (by decide +kernel)
abbrev ql (e:En):=FN e "_law_bad_state" 3 3 lA
theorem wE (D:gK e.K e.mg "_law_bad_state" lF) (B:Bi e.mg) (aK:du e):ql e:=oP (k:=2) (g:=i8) D oY b3 fun _ _ _ _ _ _ _ hr=>by have hu1:=ip hr;have hu64:=hr.units;unfold i8;exact (aB (jR 3 (q_ (a9 kr (a9 (eJ (v6 rfl) rfl B.list gS (bv (ah 2) bR)) (a9 (cH (a9 iE ap)) (a9 (bP cz (ah 2) (JE.bor (cH (a9 iE ap)))) (a9 (cH (a9 az ap)) (a9 az (a9 iE (a9 (cH (a9 iE ap)) (a9 (cH (a9 kr ap)) ap)))))))))) oY.nd) (aB (eM (dg (qU hu64) (ah 2) (JE.bor (cH ap))) (aM (r_ 3 (fH (a9 (bP cz (ah 2) (ah 2)) (a9 (bP cz (JE.bor (jQ (ah 2) lO (jP az))) (JE.bor (jQ (ah 2) lO (jP az)))) (a9 (cH (a9 (bM hu1 (ah 2) (JE.bor az)) (a9 az ap))) ap)))))) cf) (aB (eM (dg (Ec) (JE.bor (bT gm rfl B.len bC (bv (ah 2) bR))) (JE.bor az)) (aM (r_ 3 (Ti 3 (by decide) (a9 (Tl (ah 2)) ap)))) cf) (aM (bD (bM hu1 (ah 3) (JE.bor (jc aK hr px (a9 (ai 0) (a9 (ai 1) (a9 (bT gm rfl B.len bC (bv (ah 3) bR)) ap)))))))))))
abbrev mP:cr:=n5 60
abbrev A4:List Str:=["_law_script","_law_at","_law_facts_here","_law_bad","_law_some_here"]
theorem lG:bu A4 ["_law_script","_law_at","_law_facts_here"] (ax mP):=dq (by decide +kernel)
abbrev rM (e:En):=FN e "_law_bad_want" 4 3 j_
theorem xD (D:gK e.K e.mg "_law_bad_want" mP) (B:Bi e.mg) (lH:ql e) (aK:du e):rM e:=oP (k:=3) (g:=iI) D lG b3 fun _ _ _ _ _ _ _ hr=>by have hu1:=ip hr;have hu64:=hr.units;unfold iI;exact (aB (eX 3 (jc lH hr px (a9 (ai 0) (a9 (bP cz (ah 1) (JE.bor az)) (a9 (ai 2) ap)))) lG.nd) (aB (jR 4 (q_ (a9 kr (a9 (cH (a9 (cH ap) ap)) (a9 (fH (a9 (cH ap) (a9 (cH ap) ap))) (a9 (cH (a9 (cH ap) (a9 (cH ap) (a9 (cH ap) ap)))) (a9 (cH (a9 (ai 3) (a9 (cH ap) ap))) (a9 (cH (a9 (cH ap) (a9 (ai 3) ap))) (a9 (cH (a9 (ai 3) (a9 (cH ap) ap))) (a9 (cH (a9 (cH ap) (a9 (ai 3) ap))) (a9 az ap)))))))))) lG.nd) (aB (eM (dg (qU hu64) (ah 2) (JE.bor (cH ap))) (aM (r_ 4 (fH (a9 (cH (a9 (ai 2) (a9 (jQ (ah 2) lO (jP az)) ap))) (a9 (cH (a9 (jQ (ah 2) lO (jP az)) (a9 (ai 2) ap))) ap))))) cf) (aM (bD (bM hu1 (ah 4) (JE.bor (jc aK hr px (a9 (ai 0) (a9 (ai 1) (a9 (bT gm rfl B.len bC (bv (ah 4) bR)) ap)))))))))))
abbrev kZ:cr:=n5 61
abbrev tu:List Str:=["_law_script","_law_at","_law_book_here","_law_names","_law_some_here"]
theorem mQ:bu tu ["_law_script","_law_at","_law_book_here"] (ax kZ):=dq (by decide +kernel)
abbrev tw (e:En):=FN e "_law_bad_row" 3 3 kY
theorem A5 (D:gK e.K e.mg "_law_bad_row" kZ) (B:Bi e.mg) (aK:du e):tw e:=oP (k:=2) (g:=j9) D mQ b3 fun _ _ _ _ _ _ _ hr=>by have hu1:=ip hr;have hu64:=hr.units;unfold j9;exact (aB (iG 3 (N':=["_law_errand_here"]) (ix:=[]) 1 (by decide) mQ.nd rfl (cb (so:=ax kZ) (N:=tu) (by decide +kernel)) (fJ (JE.bor (bM hu1 (ah 2) (JE.bor az)))) (fun cl A0 s0 H0 ex pn=>⟨cZ (i:=0) (by show (["_law_errand_here"] : List Str).Nodup;decide +kernel) rfl (.inl rfl),fj,(bM hu1 (ah 0) (JE.bor az))⟩)) (aB (jR 4 (q_ (a9 kr (a9 (eJ (iF rfl) rfl B.tuple bg (bv (ah 3) bR)) (a9 (bP cz (ah 3) (JE.bor (fH (a9 iE ap)))) (a9 (fH (a9 iE ap)) (a9 (fH (a9 kr ap)) (a9 (fH (a9 (fH (a9 iE ap)) ap)) (a9 iE (a9 az (a9 (fH (a9 az ap)) ap)))))))))) mQ.nd) (aB (eM (dg (qU hu64) (ah 3) (JE.bor (fH ap))) (aM (r_ 4 (fH (a9 (O9 65 (by decide) (ah 3) lO (jP az)) (a9 (cH (a9 (bM hu1 (ah 3) (JE.bor az)) ap)) ap))))) cf) (aM (bD (bM hu1 (ah 4) (JE.bor (jc aK hr px (a9 (ai 0) (a9 (ai 1) (a9 (bT gm rfl B.len bC (bv (ah 4) bR)) ap)))))))))))
abbrev vE:cr:=n5 64
abbrev Sf:List Str:=["_law_script","_law_book_here","_law_state","_law_want_here","_law_names","_law_k","_law_row","_law_answer"]
theorem qf:bu Sf ["_law_script"] (ax vE):=dq (by decide +kernel)
theorem TW {f:ag}{fd:df} (F:DS e.K "law" "law" vE f fd) (B:Bi e.mg) (uo:zZ e) (aK:du e) (uq:A2 e) (ur:A3 e) (oA:tw e) (mR:rM e) (T_law_told_four_serves:FT e "_law_told_four" "serves" 10 4 (qj H9 fL)):sJ e.P e.w e.K e.mg e.base (jD e.P e.w) 11 f fd ["_law_script"] (Ry e.K e.cls 1 F_law):=by
 refine RC (k:=10) (g:=Jd) F qf fun cdv A outer s H E hr=>?_
 have hu1:=ip hr
 have hu64:=hr.units
 unfold Jd
 exact (aB (yQ (jc uo hr px (a9 (ai 0) (a9 az (a9 az ap)))) (qY rfl (dC (c_ 1 qf.nd) (dC (c_ 2 qf.nd) (dC (c_ 3 qf.nd) nl))))) (aB (iG 4 (N':=["_law_errand_here"]) (ix:=[]) 1 (by decide) qf.nd rfl (cb (so:=ax vE) (N:=Sf) (by decide +kernel)) (fJ (JE.bor (bM hu1 (ah 1) (JE.bor az)))) (fun cl A0 s0 H0 ex pn=>⟨cZ (i:=0) (by show (["_law_errand_here"] : List Str).Nodup;decide +kernel) rfl (.inl rfl),fj,(bM hu1 (ah 0) (JE.bor az))⟩)) (aB (oa rfl (mx rfl B.range (bv (JE.bor az) bR)) (c_ 5 qf.nd) (aB (eX 6 (jc uq hr dZ (a9 (ai 0) (a9 (bP cz (JE.bor az) (JE.bor (bP pq (JE.bor az) (ah 5)))) (a9 (ai 1) (a9 (ai 2) (a9 (jc aK hr dZ (a9 (ai 0) (a9 (ai 5) (a9 az ap)))) ap)))))) qf.nd) (aB (eM (JW.t (Cy (dg (qU hu64) (ah 4) (JE.bor (fH ap))) (xT (dg (s_ hu64) (ah 5) (JE.bor az))))) (aM (eX 6 (bP cz (ah 6) (JE.bor (fH (a9 (bM hu1 (ah 4) (JE.bor (jc aK hr dZ (a9 (ai 0) (a9 az (a9 (bT gm rfl B.len bC (bv (ah 4) bR)) ap)))))) ap)))) qf.nd)) cf) (aB (eX 7 (jd T_law_told_four_serves hr dZ (a9 (ai 1) (a9 (ai 2) (a9 (ai 3) (a9 (ai 6) ap))))) qf.nd) (aM (eM (JW.t (qQ (fG (fF (lz (ah 7) rfl B.isinstance rfl B.bool xP (by decide)))) (mr (dg (qU hu64) (ah 7) (JE.bor (jc ur hr dZ (a9 (ai 1) (a9 (ai 2) (a9 (ai 3) (a9 (ai 6) ap)))))))))) (aM (bD mq)) cf)))))) (aB (eM (dg (qU hu64) (JE.bor (jd T_law_told_four_serves hr px (a9 (ai 1) (a9 (ai 2) (a9 (ai 3) (a9 (jc oA hr px (a9 (ai 0) (a9 az (a9 (ai 1) ap)))) ap)))))) (JE.bor (cH (a9 iE (a9 az ap))))) (aM (bD mq)) cf) (aM (bD (o7 (s_ hu64) (JE.bor (jd T_law_told_four_serves hr px (a9 (ai 1) (a9 (ai 2) (a9 (jc mR hr px (a9 (ai 0) (a9 az (a9 (bM hu1 (ah 1) (JE.bor az)) ap)))) (a9 kr ap)))))) (JE.bor (cH (a9 iE (a9 az ap)))))))))))
end
end
section
theorem all_mk {l:xj}{w:ba}{K:a7}{h:bf}{mg:Str->Option a8}{fa A:ag}{lf:ag}{jx:ag}{li:ag}{kJ:ag}{nM:ag}{sB:ag}{m7:ag}{m9:ag}{kK:ag}{md:ag}{oZ:ag}{jy:ag}{od an:Option ag}{sl:Array (Option a8)}{oc kV dc pm cv ct:a8} (X:K.In h) (G:h.Ns bA mg) (hfa:mg "law"=some (.ref fa))
  (Zz:Zs K zn)
  (mJ:Cn mg "MOST_LETTERS" 6)
  (pU:Cn mg "MOST_PRICE" 9)
  (pV:Cn mg "MOST_FACTS" 6)
  (mK:Cn mg "MOST_ERRANDS" 6)
  (ou:Cn mg "MOST_IN_ROW" 64)
  (Ws:QB K F8 [lf,jx,li,kJ,nM,sB,m7,m9,kK,md,oZ])
  (BR:TopC K "NoState" jx)
  (FA:TopC K "NoWant" li)
  (FC:TopC K "NoBook" lf)
  (nN:TopC K "PlanError" jy)
  (Do:Vn K "NoRow" nM (Vl (n5 6) 0))
  (w_NoState:Wy K jx jy [(lf,false),(jx,true),(li,false),(kJ,false),(nM,false),(sB,false),(m7,false),(m9,false),(kK,false),(md,false),(oZ,false)])
  (w_NoWant:Wy K li jy [(lf,false),(jx,false),(li,true),(kJ,false),(nM,false),(sB,false),(m7,false),(m9,false),(kK,false),(md,false),(oZ,false)])
  (w_NoBook:Wy K lf jy [(lf,true),(jx,false),(li,false),(kJ,false),(nM,false),(sB,false),(m7,false),(m9,false),(kK,false),(md,false),(oZ,false)])
  (w_NoRow:Wy K nM jy [(lf,false),(jx,false),(li,false),(kJ,false),(nM,true),(sB,false),(m7,false),(m9,false),(kK,false),(md,false),(oZ,false)])
  (FD:gK K mg "_law_which" ro)
  (xE:gK K mg "_law_told_four" i9)
  (Dp:gK K mg "share_none" lR)
  (Li:gK K mg "without" sx)
  (OK:gK K mg "joined" zF)
  (Lj:gK K mg "is_word" sy)
  (ut:gK K mg "are_rising_words" fO)
  (FE:gK K mg "are_facts" nI)
  (HM:gK K mg "is_whole" u5)
  (FF:gK K mg "is_errand" nK)
  (Lk:gK K mg "is_book" oV)
  (Ll:gK K mg "is_want" wt)
  (AM:gK K mg "check_state" oj)
  (Dq:gK K mg "check_want" pW)
  (xF:gK K mg "errand_called" lC)
  (Lm:gK K mg "fulfils" sA)
  (FG:gK K mg "is_doable" rz)
  (A6:gK K mg "state_behind" mL)
  (Ln:gK K mg "checked" wz)
  (AN:gK K mg "check_place" om)
  (FH:gK K mg "check_aim" rE)
  (OL:gK K mg "is_row" vv)
  (Dr:gK K mg "errands_of" lT)
  (wF:gK K mg "states_through" kC)
  (OM:gK K mg "serves" zQ)
  (AO:gK K mg "_law_cell_at" oy)
  (FI:gK K mg "_law_mixed" rH)
  (HN:gK K mg "_law_word" ub)
  (FJ:gK K mg "_law_facts" rJ)
  (HP:gK K mg "_law_some" p_)
  (HQ:gK K mg "_law_thin" kG)
  (Ds:gK K mg "_law_errand" lU)
  (HR:gK K mg "_law_book" q8)
  (HS:gK K mg "_law_want" ue)
  (HU:gK K mg "_law_case" uf)
  (HV:gK K mg "_law_good" mO)
  (HW:gK K mg "_law_step" qc)
  (HX:gK K mg "_law_walk" qd)
  (Dt:gK K mg "_law_states" lV)
  (HY:gK K mg "_law_does" um)
  (xG:gK K mg "_law_bad_state" lF)
  (A7:gK K mg "_law_bad_want" mP)
  (AQ:gK K mg "_law_bad_row" kZ)
  (l0:gC K bA "law"=some (some (.ref A)))
  (l1:K.lookup A=some ⟨oc,od,.func (eO "law" "law" (kM vE) (gT vE) (ax vE) .none kV dc pm an cv ct),sl⟩)
  (l2:jG K cv "law"=true)
  (l3:dX K (.ref A)=true)
  : ∃ fd:df,(∀ (s:af) (v:a8),wG s fd ⟨[v],[]⟩ [("_law_script",v)])/\∀ base:bf,K.In base->base.Ns bA mg->sJ l.prog w K mg base (jD l.prog w) 11 fa fd ["_law_script"] (UT K F_law):=by
 have q:=hfa.symm.trans (j4 X G l0)
 cases q
 refine ⟨eO "law" "law" (kM vE) (gT vE) (ax vE) .none kV dc pm an cv ct,fun s v=>.of_eq rfl,fun base X G=>?_⟩
 let e:En:=⟨l.prog,w,K,mg,base,UU [("NoBook",lf),("NoState",jx),("NoWant",li),("NoErrand",kJ),("NoRow",nM),("NoWay",sB),("NoPaper",m7),("NoFacts",m9),("NoNumber",kK),("Nothing",md),("NoText",oZ),("PlanError",jy)]⟩
 have B:Bi e.mg:=Ve X G Zz
 have wu:ER e "NoState":=BR.er X G rfl
 have zJ:ER e "NoWant":=FA.er X G rfl
 have zM:ER e "NoBook":=FC.er X G rfl
 have Dl:O8 "NoRow" (e.cls "NoRow") e.mg e.base:=Do.own X G
 obtain ⟨fw,fdw,Fw,mw⟩:=FD.ex
 have W:Wh e.P e.w e.K e.mg e.base e.cls "_law_which" F8 H9:=by
  refine ⟨⟨_,_,_,AA (e:=e) Fw B (Vf X G Zz) (Vg X G Ws rfl),mw,Fw.kp,b1 Fw⟩,j4 X G nN.ns,?_,fun y j h=>?_⟩
  ·obtain ⟨bm,o,_⟩:=(GU X G nN.ns nN.ex nN.mb).2
   exact ⟨bm,o⟩
  unfold H9 at h
  by_cases hy:y="NoState"
  ·subst hy
   simp at h
   subst h
   exact O6 X G BR w_NoState Ws rfl rfl rfl rfl rfl (by decide) (by decide)
  rw [if_neg hy] at h
  by_cases hy:y="NoWant"
  ·subst hy
   simp at h
   subst h
   exact O6 X G FA w_NoWant Ws rfl rfl rfl rfl rfl (by decide) (by decide)
  rw [if_neg hy] at h
  by_cases hy:y="NoBook"
  ·subst hy
   simp at h
   subst h
   exact O6 X G FC w_NoBook Ws rfl rfl rfl rfl rfl (by decide) (by decide)
  rw [if_neg hy] at h
  by_cases hy:y="NoRow"
  ·subst hy
   simp at h
   subst h
   exact Jc Do.mb (Do.ox X) w_NoRow Ws rfl rfl rfl rfl rfl (by decide) (by decide)
  rw [if_neg hy] at h
  cases h
 have eT:=AC (e:=e) Dp B
 have wy:=Hz (e:=e) Li B
 have zL:=Lc (e:=e) OK B
 have m5:=HB (e:=e) Lj B mJ
 have eK:=sO (e:=e) ut B m5
 have fu:=De (e:=e) FE B eK
 have u6:=Fb (e:=e) HM B
 have rq:=Df (e:=e) FF B m5 u6 fu eT pU
 have wA:=HD (e:=e) Lk B eK rq pV mK
 have wv:=HE (e:=e) Ll B fu eT
 have oo:=zI (e:=e) AM fu wu
 have pX:=AF (e:=e) Dq wv zJ
 have gz:=ww (e:=e) xF B
 have m6:=HF (e:=e) Lm B eT
 have rF:=Di (e:=e) FG m6
 have mM:=xB (e:=e) A6 wy zL
 have wB:=HH (e:=e) Ln wA zM
 have oq:=zO (e:=e) AN wB oo
 have rG:=Dk (e:=e) FH oq pX
 have zP:=Lg (e:=e) OL B gz ou
 have pY:=AI (e:=e) Dr zP gz Dl
 have kE:=vy (e:=e) wF rF mM
 have ON:=Lh (e:=e) OM B rG pY kE m6
 have oz:=zS (e:=e) AO B
 have aK:=Dm (e:=e) FI oz
 have kF:=Fh (e:=e) HN B aK
 have rK:=Dn (e:=e) FJ B kF aK
 have uh:=Fk (e:=e) HP B aK
 have ud:=Fm (e:=e) HQ B aK
 have q9:=AK (e:=e) Ds B aK ud
 have ug:=Fo (e:=e) HR B rK kF q9 aK
 have ui:=Fp (e:=e) HS B aK
 have uo:=Fq (e:=e) HU ug aK uh ui
 have kH:=Ft (e:=e) HV B
 have jn:=Fv (e:=e) HW B kH
 have uq:=Fx (e:=e) HX B jn aK
 have qe:=AL (e:=e) Dt B jn
 have ur:=Fz (e:=e) HY B qe kH
 have lH:=wE (e:=e) xG B aK
 have mR:=xD (e:=e) A7 B lH aK
 have oA:=A5 (e:=e) AQ B aK
 have T_law_told_four_serves:=wo (e:=e) (k:=9) xE W ON (by decide) (by decide)
 exact (TW (e:=e) (Mo l1 l2 l3) B uo aK uq ur oA mR T_law_told_four_serves).imp Tc
end
end Z
section
open PySem PySem.W PyProof.Rows
def PySem.W.Fast.tw16270796958566160021:Nat:=0
def PySem.W.Fast.tw1139093122862920186:Nat:=0
def PySem.W.Fast.tw10753408246925074658:Nat:=0
def PySem.W.Fast.tw16170665909357282998:Nat:=0
def PySem.W.Fast.tw4630733988234365331:Nat:=0
def PySem.W.Fast.tw1342363069592715743:Nat:=0
def PySem.W.Fast.tw11267138512654580889:Nat:=0
def PySem.W.Fast.tw11962151919680671648:Nat:=0
def PySem.W.Fast.tw2168006183479609520:Nat:=0
def PySem.W.Fast.tw16753975281316563817:Nat:=0
def PySem.W.Fast.tw16309205008377228694:Nat:=0
def PySem.W.Fast.tw10515051583411319026:Nat:=0
def PySem.W.Fast.tw6829678055745678037:Nat:=0
def PySem.W.Fast.tw8819107800799560095:Nat:=0
def PySem.W.Fast.tw8331491039000125149:Nat:=0
def PySem.W.Fast.tw10664777971069430088:Nat:=0
def PySem.W.Fast.tw2853459583943229434:Nat:=0
def PySem.W.Fast.tw16050796094941187016:Nat:=0
def PySem.W.Fast.tw7417056543406961275:Nat:=0
def PySem.W.Fast.tw11327762063781437886:Nat:=0
def PySem.W.Fast.tw10512809744339952398:Nat:=0
def PySem.W.Fast.tw10405108391973244096:Nat:=0
def PySem.W.Fast.tw4264822311156169926:Nat:=0
def PySem.W.Fast.tw16462308147898889028:Nat:=0
def PySem.W.Fast.tw13158016915883970235:Nat:=0
def PySem.W.Fast.tw17003071641760976060:Nat:=0
def PySem.W.Fast.tw3438767003470776397:Nat:=0
def PySem.W.Fast.tw7113099832854017558:Nat:=0
def PySem.W.Fast.tw2129621514137472687:Nat:=0
def PySem.W.Fast.tw11336941858597924199:Nat:=0
def PySem.W.Fast.tw4532856237025085302:Nat:=0
def PySem.W.Fast.tw12930423230269063378:Nat:=0
def PySem.W.Fast.tw10417054863117610002:Nat:=0
def PySem.W.Fast.tw7755417113075297992:Nat:=0
def PySem.W.Fast.tw4042299305900793855:Nat:=0
def PySem.W.Fast.tw5498670024748261795:Nat:=0
def PySem.W.Fast.tw15407184152878020247:Nat:=0
def PySem.W.Fast.tw12918143144274704639:Nat:=0
def PySem.W.Fast.tw12006307165686006044:Nat:=0
def PySem.W.Fast.tw9188036229690973415:Nat:=0
def PySem.W.Fast.tw10885842015102984585:Nat:=0
def PySem.W.Fast.tw12400597642866706091:Nat:=0
def PySem.W.Fast.tw2086547651740140569:Nat:=0
def PySem.W.Fast.tw12428221372524567284:Nat:=0
def PySem.W.Fast.tw2485510421668804835:Nat:=0
def PySem.W.Fast.tw9661171817012204361:Nat:=0
def PySem.W.Fast.tw5034335893042340387:Nat:=0
def PySem.W.Fast.tw16114800718224062042:Nat:=0
def PySem.W.Fast.tw8591690744179766475:Nat:=0
def PySem.W.Fast.tw1903856233020590335:Nat:=0
def PySem.W.Fast.tw8022953786389938792:Nat:=0
def PySem.W.Fast.tw13205220390558079044:Nat:=0
theorem PySem.Challenge.cw_errands_k05_serves_holds : PySem.Challenge.rw_errands_k05_serves.Holds := by
 w_on;o_law;k_head;(case hw=>w_witness2)
 k_fill
 refine J.walkF (l:=PySem.Challenge.rw_errands_k05_serves) (k:=11) (x:="_law_script") (F0:=Z.F_law) rfl rfl ⟨rfl,by decide,by decide⟩ (fun w h Y=>PySem.W.kIn_of Y) ?F (fun ns _=>Z.law_true ns)
 case F =>
  intro w mg fa h KX G hmg
  refine' Z.all_mk KX G hmg ?_ ?_ ?_ ?_ ?_ ?_ ?_ ?_ ?_ ?_ ?_ ?_ ?_ ?_ ?_ ?_ ?_ ?_ ?_ ?_ ?_ ?_ ?_ ?_ ?_ ?_ ?_ ?_ ?_ ?_ ?_ ?_ ?_ ?_ ?_ ?_ ?_ ?_ ?_ ?_ ?_ ?_ ?_ ?_ ?_ ?_ ?_ ?_ ?_ ?_ ?_ ?_ ?_ ?_ ?_ ?_ ?_ ?_ ?_ ?_ ?_ ?_ ?_
  all_goals first
   | (refine' J.d_in KX G ?_ ?_ ?_ ?_<;>try k_is)
   | (refine' J.cn_in KX G ?_<;>try k_is)
   | k_is
   | (refine' J.TopC.mk ?_ ?_ ?_<;>try (first | k_is | k_exc))
   | (refine' J.topN ?_ ?_ ?_ ?_ ?_ ?_ ?_ ?_ ?_ ?_ ?_ ?_ ?_ ?_ ?_ ?_ ?_ ?_ ?_ ?_ ?_ ?_ ?_<;>try (first | k_is | rfl | exact fun _ _=>⟨_,rfl,rfl⟩ | decide +kernel))
   | ((refine' J.Wy.mk ?_ ?_ ?_ ?_ ?_ ?_ ?_ ?_ ?_ ?_)<;>try (first | k_is | decide | ((repeat' (first | exact .nil | refine' .cons ?_ ?_ ?_))<;>try (first | k_is | decide))))
   | ((repeat' (first | exact .nil | refine' .cons ?_ ?_))<;>try (first | (refine' J.cw_in ?_ ?_ ?_<;>try k_is) | k_is))
   | skip
end
