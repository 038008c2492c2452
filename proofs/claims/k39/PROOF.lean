import PyProof.Rows.All
import Wide.All
import OpenK.AllK
import Wide.FinOn
import Lean
import PyProof.EqAt
import PyProof.EqKinds
import PyProof.TupleCall
import KE.KDictOf
import PyProof.AttrMissHeap
import KE.KRevIter
import PyProof.DictWalks
import PyProof.MinMaxWalk
import PyProof.SeqI3
import PyProof.WalkInts
import PyProof.ExcInit
import PyProof.InstStoreFacts
import PyProof.DictCompW
import PySem.Challenge.RW_errands_k39_refused
set_option Elab.async false
set_option linter.all false
set_option maxRecDepth 100000
set_option maxHeartbeats 0
open PySem.W renaming Frag->a9,mroIn->cu,kia_one->cD,kitOne->dO,keepIn->eE,fnOf->eR,nsMap_none_of_in->eT,cellsFrom_some->fk,nsIn->gj,clsIn->gD,findIn->gT,mg_of->jo,codeIn->k7,isNs_of_in->mY,subIn->oK,looks_findIn->sg,hideAll_get->ud,of_hideAll->uN,callWith_K->uP,codeRec_of->uQ,methodObj->vP,specialIn->vQ,kitx_list->vR,instObj->yV,hideAll->yW,takesIn->yX,OpenLaw->y_,lookIn->A1,typeIn->Aa,excIn->Cf,funFrames_hide->E6,kitx_tuple->Ir,mg_none_of->IC,kitx_dict->Kv,plainGet->LR,kitCls->NT,nsOkIn->NV,WalkO->Ro,Looks->Rr
open PySem renaming wpAny_bind->aa,Value->ae,Shared->ah,Addr->ai,wpAny_pure->aj,wpAny->av,starEach->aw,model->aG,Program->aH,Expr->aR,Around->aW,World->b9,wpAny_mono->bh,cellsFrom->bn,Heap->br,mainGlobals->bF,Stmt->bH,wpAny_newObj_type->bW,compareOp->bX,boot_len->bY,rawInt->cE,eval->cG,wpAny_callSpecial?_slot->cP,wpAny_call_entry->cQ,wpAny_field->cX,FuncData->dE,wpAny_standAt->dG,wpAny_holding->dH,mem_of_lookup->dJ,backTo->dL,foldedSetIterable->e6,wpAny_loadPart_at->e8,Scope->eD,wpAny_truthy_bool->eN,binaryOp->eZ,swapsWith->fh,wpAny_seqItems->fm,wpAny_setState_of->fE,excClassObj->fY,wpAny_pyIter_tuple->gz,letOwnedTupleGo->hJ,keywordEach->hV,behindInMarks->h_,Builtin->ir,setField->iB,strIterType->iP,bootBuiltins->iQ,assignEach->iR,codeAny->iS,typeLookup->iT,wpAny_setField_rec->iU,codeAny_builtin->j5,scanBound->jg,recursionLimit->jE,wpAny_rule->jF,wpAny_setField->jG,wpAny_askSetting->jX,wpAny_isSubtype_exc->k9,NameKind->kM,sysModules->kS,IsPair->kW,backToKw->m6,wpAny_typeOf->m9,SetTable->ma,Keyword->nN,getItem->nO,wpAny_attempt->nQ,sliceBounds->nV,codeAny_call_builtin->nW,wpAny_execs_nil->oF,wpAny_passesOwn->oG,codeAny_mono->pK,pickOrder->qz,wpAny_call->qD,wpAny_Call_Name_kw->qF,call_meets->qH,wpAny_pyIter_list->rP,fits_of_scanBound->rR,assign->rX,pyNext->rY,attributeBase->r_,wpAny_comprehension_free->se,PyData->sf,cLine->ue,checkBuiltinCall->ug,wpAny_isInstance->uh,Result->uO,isInstance->uR,ExcBaseFacts->uU,pushCells_keeps->vM,codeAny_of_tree->vN,builtinLookup_eq_fast->vU,wpAny_loadName_local->xp,IsPart->xq,newFunctionEnv->xt,relayAll->xu,wpAny_of_eq->xw,raiseNew->xx,firstArgMember->xy,IsZip->xz,wpAny_updateSeq_pair->xA,BindsTo->yv,callerA->yx,Model->zC,CmpOp->zD,plainId_quiet->zH,wpAny_onRaise->zJ,wpAny_Name->z_,tupleKind_room_in1->A5,newExc->A7,standAt->C7,concat_meets->C8,wpAny_sequenceKey->C9,valueAt->Ca,wpAny_Call_ofName->Cg,tupleKind->DY,isTrue->DZ,wpAny_execs_cons->D_,pyIter->E2,noFill_tuple_add->E3,noteFrame->E4,sizeLine_eq->FO,subscripted->FP,typeLookup_type->FU,wpAny_updateSeq->FV,GenState->Iq,bindL->Is,bindC->Iu,wpAny_newFunctionEnv_cells->Iv,atKey->Ix,isSubtype_type->Iy,isSubtype_stop->Iz,field->IA,StoreFacts->ID,callWith->IE,seq_tuple_add->LS,evalPart_none->LV,call->LX,Drawn->Nw,lastMarks->Nx,seqItems?->NC,Paired->NI,leaving->NJ,argsOk->NO,setNext->NQ,wpAny_isTrue_Compare1->Rl,codeAny_call_function->Rm,bindArgs->Rz,wpAny_alloc->RE,Walks->RF,unsupported->RJ,ZipApart->RK,wpAny_letGo->RM,lookupAlong->RQ
open PySem.Heap renaming get?_push_of_some->ag,lt_size->ax,get?_push_size->aE,size_push->cr,SameBut->cF,get?_update_self->fV,get?_update_other->rQ,get?_none_of_le->uw,MadeExcOf->uy,IsTuple->Ih,FlyingW->Ij,get?_update_ne->M1,get?_push_at->NU
open List renaming getElem?_set_ne->am,mem_cons_self->ay,mem_cons_of_mem->aA,getElem?_set_self->aB,size_toArray->aI,length_map->aN,not_mem_nil->aQ,getElem?_map->aT,mem_append_right->aV,map_cons->bd,mem_cons->bf,getElem?_eq_getElem->bg,replicate->bt,length_append->bw,getElem?_append_right->bC,getElem?_replicate->bR,getElem?_append_left->bS,getElem?_eq_none->bT,range->bZ,length_cons->cc,append_nil->c_,lookup_cons->df,replicate_succ->dh,length_replicate->dn,find?_cons->e7,all_eq_true->eA,any_cons->fG,mem_singleton->fQ,getD_eq_getElem?_getD->fS,contains_cons->fU,length_nil->gC,mem_append_left->gJ,flatten_cons->gK,map_nil->gL,map_map->gM,getElem_mem->hW,map_append->iH,filterMap_cons->jA,length_reverse->jB,sublist_append_left->jO,getElem?_cons_succ->ka,length_range->kO,length_singleton->lQ,mem_of_getElem?->mr,getElem_of_mem->mX,nodup_nil->nZ,reverse_cons->pM,all_map->rV,of_mem_zip->rZ,nil_append->s9,forIn_cons->sd,map_congr_left->vO,all_cons->vS,set_cons_zero->xn,set_cons_succ->xo,append_assoc->yw,length_take->zE,length_drop->zF,any_eq_true->zI,length->A3,lookup->A6,foldl_cons->C4,forIn_nil->D8,length_eraseIdx_of_lt->D9,map->De,getElem?_cons_zero->FW,pairwise_singleton->FX,take_of_length_le->Ik,getElem?_range->L_,replicate_zero->M2,mem_map_of_mem->M3,foldl->Ny,lookup_append->NA,nodup_append->NN,ext_getElem->Rp,zipIdx_cons->Rq,cons_append->Ru,zipIdx_nil->RL
open Nat renaming le_refl->az,lt_of_lt_of_le->aF,ne_of_lt->aO,le_of_lt->bA,le_trans->c7,lt_irrefl->cb,zero_le->dU,lt_succ_of_lt->gO,lt_succ_self->i0,ne_of_gt->iz,le_succ->kL,lt_of_le_of_lt->oJ,min_le_right->rL,lt_succ_of_le->z0,lt_asymm->z3,add_lt_add_right->M0,add_le_add_left->Nz,le_of_not_lt->RC,le_add_right->RN,reduceLeDiff->RS,reduceEqDiff->RT
open Bool renaming and_eq_true->aL,false_ne_true->ba,false_eq_true->cz,not_false->hX,eq_iff_iff->iG,noConfusion->l_,not_true->qA,or_eq_true->si,beq_eq_decide_eq->tK,false_or->vT,and_self->vW,or_true->yz,false_and->D4,and_false->D6,true_and->FS,not_eq_true'->NS
open PySem.PyData renaming str->aM,eqv->bK,bool->db,canLayAll0->dq,int->ed,list->fA,tuple->ic,canLay0->j2,eqvAll->Dd
open Array renaming length_toList->bv,getElem?_toList->fR,getElem?_eq_getElem->oM,all_toList->z9,getD_eq_getD_getElem?->C5,toArray_toList->IB,append_assoc->LP,find?_toList->LQ,toList_push->NB,size_append->NE
open PyProof.Rows renaming boot_tuple->bx,slot_tuple_getitem->dg,boot_all->eJ,callWith_type1->f9,boot_list->gP,envOfC->j_,boot_isinstance->kP,AllBare->rO,StrsAre->uT,slicePart_none->xr,isBoolOf->xB,boot_sorted->yA,entry_tuple_getitem->yY,subscriptTail->zG,args_tuple_getitem->A4,boot_str->Ab,Subscript_->Iw,tupleItemsOf_->LU,subscriptTail_builtinR->NK,IntsAre->NM,IsTup->Ry
open Option.some renaming inj->bL,injEq->FR
open PySem.Value renaming ref->c6,none->ef,bool->j3,type->j4,str->lO,int->qC,isStrOf->vK
open PySem.NameKind renaming free->cq,cell->eC,«local»->rT
open PySem.Builtin.SmallTypes renaming nextOf->cA,ownedTupleIsFree->eS,ownedTupleHandOut->nY
open Int renaming toNat_of_nonneg->cH,toNat_natCast->kU,emod_lt_of_pos->oN,emod_nonneg->tL,eq_ofNat_of_zero_le->Il,reduceLT->IG
open PySem.Builtin.Tuple renaming tupleExact->cR,tupleItemsOf->lP
open PySem.F renaming plainAttrs_list->dv,slot_tuple_iterator_next->jl,slot_list_extend->jm,type_list_extend->jn,args_tuple_add_2->oH,entry_tuple_add->pL,slot_tuple_add->qG,slot_zip_next->ux,excBase_ValueError->A9,slot_list_append->Cd,type_list_append->Ce,slot_list_count->Db,slot_list_index->Dc,args_tuple_iterator_next_1->E5,entry_tuple_iterator_next->FQ,slot_enumerate_next->ND,args_list_extend_2->NL,entry_list_extend->Rn,slot_list_extend->RA
open PySem.Builtin.Slice renaming slicePlaces->dw,sliceApplied->ii,sliceAdjust->m7,sliceFields->xm
open PySem.Heap.SameBut renaming update->dB
open PySem.Heap.FunFrames renaming mem->dI
open Or renaming inr->dS,inl->fu
open Option renaming map_some->dY,getD_none->hU,getD_some->lB,isSome_some->vL,isSome_map->LY
open False renaming elim->eQ
open List.Sublist renaming refl->eU
open Ne renaming symm->fM
open PySem.Obj renaming mapFields->fN,mapSeq->k8,putSet->xv,data_mapFields->NR
open PySem.Builtin.List renaming listTooLong->fO,listExtendWith->vV,listSameRef->yy
open ForInStep renaming yield->fP
open PySem.AutoSeq1 renaming wpAny_loadPart'->fX
open PySem.Str renaming ofString->iA
open PyProof.Rows.F renaming plain_set_update_loop->iI,entry_set_update_loop->qy
open PySem.SetTable renaming grown->iN,below->iO,orStandIn->Ig
open PySem.Around renaming under_plainId->j1
open True renaming intro->jZ
open PySem.Calls renaming Name_function_global->nU,evalArgs_plain->uf,call_function_entry->Da,loadGlobal_global->FM
open PySem.Code renaming quiet_builtin->nX,weight->Kx
open PySem.Paired renaming length->uM
open PySem.Builtin.Frozenset renaming sizeOf->uS,newClass->RG,updateFrom->RI,oneOther->RO,addrOf->RP
open Sum renaming inl->yT,inr->yU
open PyProof.Rows.IsTup renaming new->yZ
open And renaming intro->A8
open PySem.Heap.IsSliceOf renaming new->C3
open PySem.pickOrder renaming go->Cb
open PySem.SetTable.below renaming go->Cc
open PySem.SeqAt.EqAt renaming bool_bool->D5,int_str->FK,str_int->FL
open List.Pairwise renaming nil->D7
open PySem.Shared renaming heap->Ii,TypeIs->RH
open PySem.Value.type renaming inj->Kw
open PySem.SeqAt renaming EqAt->LW
open PySem.Walks renaming list->LZ
open PySem.Builtin.ObjectAttr renaming attrName->Rs,find->Rt
section
namespace L2
open PySem PySem.Spec PyProof.Rows
abbrev gy:=Sum Int Str
def Ac:gy->ae->Bool
 | .inl k,v=>Value.isInt k v
 | .inr x,v=>vK x v
def Zj (w:b9):gy->Int
 | .inl k=>hashInt k
 | .inr x=>hashStr w x
theorem fv:∀ {k:gy}{v:ae},Ac k v=true->(∃ i t,k=yT i/\v=qC i t)\/(∃ x t,k=yU x/\v=lO x t)
 | .inl i,v,h=>by
  obtain ⟨t,e⟩:=Value.isInt_shape (k:=i) (v:=v) h
  exact .inl ⟨i,t,rfl,e⟩
 | .inr x,v,h=>by
  obtain ⟨t,e⟩:=Value.isStrOf_shape (x:=x) (v:=v) h
  exact .inr ⟨x,t,rfl,e⟩
theorem M4 (i:Int) (t:Tok):Ac (.inl i) (.int i t)=true:=by simp [Ac,Value.isInt]
theorem M5 (x:Str) (t:Tok):Ac (.inr x) (.str x t)=true:=by simp [Ac,vK]
theorem Vh (a b:Int):decide ((yT a:gy)=yT b)=(a == b):=by
 by_cases e:a=b
 ·subst e;simp
 ·have h:¬ (yT a:gy)=yT b:=fun q=>e (Sum.inl.inj q)
  rw [decide_eq_false h]
  exact (beq_eq_false_iff_ne.mpr e).symm
theorem Vi (a b:Str):decide ((yU a:gy)=yU b)=decide (a=b):=by
 by_cases e:a=b
 ·subst e;simp
 ·have h:¬ (yU a:gy)=yU b:=fun q=>e (Sum.inr.inj q)
  rw [decide_eq_false h,decide_eq_false e]
theorem Vj (a:Int) (b:Str):decide ((yT a:gy)=yU b)=false:=decide_eq_false (fun q=>nomatch q)
theorem Vk (a:Str) (b:Int):decide ((yU a:gy)=yT b)=false:=decide_eq_false (fun q=>nomatch q)
def iJ (prog:aH) (w:b9):PySem.KeyKind prog w gy where
 is:=Ac
 hash:=Zj w
 inj:=fun v a b ha hb=>by
  rcases fv ha with ⟨i,t,rfl,rfl⟩ | ⟨x,t,rfl,rfl⟩
  ·rcases fv hb with ⟨j,u,rfl,e⟩ | ⟨y,u,rfl,e⟩
   ·injection e with e1 _;rw [e1]
   ·exact nomatch e
  ·rcases fv hb with ⟨j,u,rfl,e⟩ | ⟨y,u,rfl,e⟩
   ·exact nomatch e
   ·injection e with e1 _;rw [e1]
 byValue:=fun k v h=>by
  rcases fv h with ⟨i,t,rfl,rfl⟩ | ⟨x,t,rfl,rfl⟩<;>rfl
 pyHash:=fun hv h=>by
  rcases fv hv with ⟨i,t,rfl,rfl⟩ | ⟨x,t,rfl,rfl⟩
  ·exact wpAny_pyHash_int h
  ·exact wpAny_pyHash_str h
 eqBool:=fun hu hv h=>by
  rcases fv hu with ⟨i,t,rfl,rfl⟩ | ⟨x,t,rfl,rfl⟩
  ·rcases fv hv with ⟨j,u,rfl,rfl⟩ | ⟨y,u,rfl,rfl⟩
   ·rw [Vh] at h;exact wpAny_eqBool_int h
   ·rw [Vj] at h;exact FK i t y u _ _ _ _ h
  ·rcases fv hv with ⟨j,u,rfl,rfl⟩ | ⟨y,u,rfl,rfl⟩
   ·rw [Vk] at h;exact FL x t j u _ _ _ _ h
   ·rw [Vi] at h;exact wpAny_eqBool_str h
 «strs»:=fun k x t v h=>by
  rcases fv h with ⟨i,u,rfl,e⟩ | ⟨y,u,rfl,e⟩
  ·exact nomatch e
  ·injection e with e1 _
   subst e1
   cases v<;>rfl
theorem FY (prog:aH) (w:b9) (i:Int) (t:Tok):(iJ prog w).is (.inl i) (.int i t)=true:=M4 i t
theorem FZ (prog:aH) (w:b9) (x:Str) (t:Tok):(iJ prog w).is (.inr x) (.str x t)=true:=M5 x t
end L2
namespace L2
open PySem PySem.Spec PyProof.Rows
inductive V where
 | non | bl (b:Bool) | int (i:Int) | str (x:Str) | byt (b:Array UInt8) | flt (b:UInt64) | ref (a:ai) | ty (n:String)
 deriving DecidableEq
def dW:V->ae->Prop
 | .non,u=>u=ef
 | .bl b,u=>u=j3 b
 | .int i,u=>∃ t,u=qC i t
 | .str x,u=>∃ t,u=lO x t
 | .byt b,u=>∃ t,u=Value.bytes b t
 | .flt b,u=>∃ t,u=Value.float b t
 | .ref a,u=>u=c6 a
 | .ty n,u=>u=j4 n
abbrev du:List V->List ae->Prop:=NI dW
theorem du.length {xs:List V}{us:List ae} (r:du xs us):xs.length=us.length:=uM r
theorem du.get {xs:List V}{us:List ae} (h:du xs us):∀ {i:Nat}{x:V},xs[i]?=some x->∃ u,us[i]?=some u/\dW x u:=by
 induction h with
 | nil=>intro i x e;cases e
 | cons r t ih =>
  intro i x e
  cases i with
  | zero=>cases e;exact ⟨_,rfl,r⟩
  | succ i=>have q:=ih (i:=i) e;exact q
theorem du.append {xs ys:List V}{us ws:List ae} (h:du xs us) (s:du ys ws):du (xs++ys) (us++ws):=by
 induction h with
 | nil=>exact s
 | cons r t ih=>exact .cons r ih
theorem du.take:∀ {xs:List V}{us:List ae} (n:Nat),du xs us->du (xs.take n) (us.take n)
 | _,_,0,_=>.nil
 | _,_,_ + 1,.nil=>.nil
 | _,_,n + 1,.cons r t=>.cons r (du.take n t)
theorem du.drop:∀ {xs:List V}{us:List ae} (n:Nat),du xs us->du (xs.drop n) (us.drop n)
 | _,_,0,r=>r
 | _,_,_ + 1,.nil=>.nil
 | _,_,n + 1,.cons _ t=>du.drop n t
def Ad:Option V->Option ae->Prop
 | some v,some u=>dW v u
 | none,none=>True
 | _,_=>False
def KV {κ:Type}:List (κ×V)->List (κ×ae)->Prop:=NI fun (p:κ×V) (q:κ×ae)=>p.1=q.1/\dW p.2 q.2
def kV:gy->V
 | .inl i=>.int i
 | .inr x=>.str x
inductive HO where
 | lst (xs:List V)
 | tup (xs:List V)
 | dK (kvs:List (gy×V)) | dT (kvs:List (List gy×V))
 | set (S:Int->Bool) (n:Nat)
 | ins (C dx:ai) (fs:List (Str×V))
 | own (x:ai)
 | xd (fs:List (Str×V))
 | met (f x:ai)
 | rng (lo hi:Int)
 | frz (o:Obj) (u:HO)
 | tbl (ps:Array ae)
 | ext (φ:br->Prop)
abbrev Hp:=ai->Option HO
def upd (H:Hp) (a:ai) (o:HO):Hp:=fun b=>if b=a then some o else H b
theorem aU {H:Hp}{a:ai}{o:HO}:upd H a o a=some o:=by unfold upd;rw [if_pos rfl]
theorem a_ {H:Hp}{a b:ai}{o:HO} (h:b≠a):upd H a o b=H b:=by unfold upd;rw [if_neg h]
theorem X7 {H:Hp}{a b:ai}{o u:HO} (h:H a=some o) (h':H b=some u) (d:o≠u):a≠b:=by
 intro e;subst e;rw [h] at h';exact d (bL h')
theorem bc {H:Hp}{a b:ai}{o:HO} (h:H a=some o) (h':H b=none):a≠b:=by
 intro e;subst e;rw [h] at h';cases h'
section
variable (P:aH) (w:b9)
def eB (H:Hp) (h:br) (a:ai):HO->Prop
 | .lst xs=>xs.length<=sizeLine/\∃ (its:List ae) (n:Nat),du xs its/\h.get? a=some { cls:=.type "list",data:=.seq its.toArray n }
 | .tup xs=>xs.length<=sizeLine/\∃ its:List ae,du xs its/\Ry h a its.toArray
 | .dK kvs=>kvs.length<=sizeLine/\(a == kS)=false/\∃ vs,KV kvs vs/\h.DictOf (iJ P w) a vs
 | .dT kvs=>kvs.length<=sizeLine/\(a == kS)=false/\∃ xs:List (List gy×ai×ae),
   NI (fun (p:List gy×V) (q:List gy×ai×ae)=>p.1=q.1/\H q.2.1=some (.tup (p.1.map kV))/\dW p.2 q.2.2) kvs xs /\
   ∃ o es ep,h.get? a=some o/\o.ExactDict/\o.data=.dict es ep/\es.toList=xs.map (entryOfKey (DY (iJ P w)))/\(xs.map (·.1)).Nodup
 | .set S n=>h.SetOf (intKind P w) a S n
 | .ins C dx fs=>H dx=some (.own a)/\fs.length<=1000/\dx≠a/\h.get? a=some (yV C dx) /\
   ∃ mA,h.Ns1 dx mA/\(∀ f,Ad (fs.lookup f) (mA f))/\PySem.Within mA (fs.map (·.1))
 | .own _=>∃ o,h.get? a=some o
 | .xd fs=>∃ mA,h.Ns1 a mA/\∀ f,Ad (fs.lookup f) (mA f)
 | .rng lo hi=>∃ t u v,h.get? a=some { cls:=.type "range",data:=.fields #[.int lo t,.int hi u,.int 1 v] }
 | .frz o u=>h.get? a=some o/\eB H h a u
 | .tbl ps=>h.get? a=some { cls:=.none,data:=.fields ps }
 | .met f x=>h.get? a=some (vP (.ref f) (.ref x))
 | .ext φ=>φ h/\(∃ o,h.get? a=some o)/\∀ h1 h2:br,φ h1->(∀ o,h1.get? a=some o->h2.get? a=some o)->φ h2
def rW (H:Hp) (h:br):Prop:=∀ a o,H a=some o->eB P w H h a o
end
section
variable {P:aH}{w:b9}{H H':Hp}{h h':br}{a:ai}{o:HO}
theorem eB.lt (x:eB P w H h a o):a<h.objs.size:=by
 cases o with
 | lst xs=>obtain ⟨_,_,_,_,e⟩:=x;exact ax e
 | tup xs=>obtain ⟨_,_,_,p⟩:=x;exact p.lt
 | dK kvs=>obtain ⟨_,_,_,_,o,_,_,e,_⟩:=x;exact ax e
 | dT kvs=>obtain ⟨_,_,_,_,o,_,_,e,_⟩:=x;exact ax e
 | set S n=>obtain ⟨o,_,_,_,e,_⟩:=x;exact ax e
 | ins C dx fs=>obtain ⟨_,_,_,e,_⟩:=x;exact ax e
 | own y=>obtain ⟨_,e⟩:=x;exact ax e
 | xd fs=>obtain ⟨_,⟨_,_,_,e,_⟩,_⟩:=x;exact ax e
 | rng lo hi=>obtain ⟨_,_,_,e⟩:=x;exact ax e
 | frz ob u=>obtain ⟨e,_⟩:=x;exact ax e
 | tbl ps=>exact ax (show h.get? a=some _ from x)
 | met f y=>exact ax (show h.get? a=some _ from x)
 | ext φ=>obtain ⟨_,⟨_,e⟩,_⟩:=x;exact ax e
theorem Paired.mapP {α β:Type}{F G:α->β->Prop}{l₁:List α}{l₂:List β} (h:NI F l₁ l₂) (f:∀ a b,F a b->G a b):NI G l₁ l₂:=by
 induction h with
 | nil=>exact .nil
 | cons r t ih=>exact .cons (f _ _ r) ih
theorem eB.stay (x:eB P w H h a o) (k:∀ b u,(b=a\/H b=some (.own a))->h.get? b=some u->h'.get? b=some u)
  (ho:∀ b,H b=some (.own a)->H' b=some (.own a)) (ht:∀ b xs,H b=some (.tup xs)->H' b=some (.tup xs)):eB P w H' h' a o:=by
 induction o with
 | lst xs=>obtain ⟨z,its,n,r,e⟩:=x;exact ⟨z,its,n,r,k _ _ (.inl rfl) e⟩
 | tup xs=>obtain ⟨z,its,r,ob,e,c⟩:=x;exact ⟨z,its,r,ob,k _ _ (.inl rfl) e,c⟩
 | dK kvs=>obtain ⟨z,y,vs,r,ob,es,ep,e,c⟩:=x;exact ⟨z,y,vs,r,ob,es,ep,k _ _ (.inl rfl) e,c⟩
 | dT kvs =>
  obtain ⟨z,y,xs,r,ob,es,ep,e,c⟩:=x
  exact ⟨z,y,xs,Paired.mapP r fun p q z=>⟨z.1,ht _ _ z.2.1,z.2.2⟩,ob,es,ep,k _ _ (.inl rfl) e,c⟩
 | set S n=>obtain ⟨ob,es,ep,t,e,c⟩:=x;exact ⟨ob,es,ep,t,k _ _ (.inl rfl) e,c⟩
 | ins C dx fs =>
  obtain ⟨d,z,ne,e,mA,⟨od,es,ep,e2,c⟩,r⟩:=x
  exact ⟨ho _ d,z,ne,k _ _ (.inl rfl) e,mA,⟨od,es,ep,k _ _ (.inr d) e2,c⟩,r⟩
 | own y=>obtain ⟨ob,e⟩:=x;exact ⟨ob,k _ _ (.inl rfl) e⟩
 | xd fs=>obtain ⟨mA,⟨od,es,ep,e,c⟩,r⟩:=x;exact ⟨mA,⟨od,es,ep,k _ _ (.inl rfl) e,c⟩,r⟩
 | rng lo hi=>obtain ⟨t,u,v,e⟩:=x;exact ⟨t,u,v,k _ _ (.inl rfl) e⟩
 | frz ob u ih=>obtain ⟨e,q⟩:=x;exact ⟨k _ _ (.inl rfl) e,ih q⟩
 | tbl ps =>
  have e:h.get? a=some { cls:=.none,data:=.fields ps }:=x
  show h'.get? a=some { cls:=.none,data:=.fields ps }
  exact k a _ (.inl rfl) e
 | met f y =>
  have e:h.get? a=some (vP (.ref f) (.ref y)):=x
  show h'.get? a=some (vP (.ref f) (.ref y))
  exact k a _ (.inl rfl) e
 | ext φ=>obtain ⟨p,⟨o,e⟩,st⟩:=x;exact ⟨st _ _ p fun o q=>k _ _ (.inl rfl) q,⟨o,k _ _ (.inl rfl) e⟩,st⟩
theorem rW.lt (x:rW P w H h) (e:H a=some o):a<h.objs.size:=(x a o e).lt
theorem rW.fresh (x:rW P w H h) (e:h.objs.size<=a):H a=none:=by
 cases q:H a with
 | none=>rfl
 | some u=>exact absurd (aF (x.lt q) e) (cb _)
theorem rW.kept (x:rW P w H h) (k:∀ b u,h.get? b=some u->h'.get? b=some u):rW P w H h':=fun a o e =>
 (x a o e).stay (fun b u _ q=>k b u q) (fun _ q=>q) fun _ _ q=>q
theorem rW.laid (x:rW P w H h) (k:∀ b u,h.get? b=some u->h'.get? b=some u) (hp:h.objs.size<=a) (new:eB P w (upd H a o) h' a o):rW P w (upd H a o) h':=fun b u e=>by
 have hn:=x.fresh hp
 by_cases hb:b=a
 ·subst hb;rw [aU] at e;cases e;exact new
 ·rw [a_ hb] at e
  exact (x b u e).stay (fun c v _ q=>k c v q) (fun c q=>by rw [a_ (bc q hn)];exact q) fun c xs q=>by rw [a_ (bc q hn)];exact q
end
def Rd (H:Hp) (a:ai) (u:HO):Prop:=H a=some u\/∃ o,H a=some (.frz o u)
theorem Rd.ok {P:aH}{w:b9}{H:Hp}{h:br}{a:ai}{u:HO} (r:Rd H a u) (x:rW P w H h):eB P w H h a u:=by
 rcases r with r | ⟨o,r⟩
 ·exact x a u r
 ·obtain ⟨_,q⟩:=x a _ r
  exact q
def X8:Option HO->Prop
 | some (.lst _)=>True
 | some (.dK _)=>True
 | some (.dT _)=>True
 | some (.set _ _)=>True
 | some (.ins _ _ _)=>True
 | some (.ext _)=>True
 | _=>False
section
variable {P:aH}{w:b9}{H:Hp}{h h':br}{x e:ai}{o':HO}
theorem rW.write (ok:rW P w H h) (mu:X8 (H x)) (he:e=x\/H e=some (.own x)) (k:∀ b u,b≠e->h.get? b=some u->h'.get? b=some u) (heo:∃ u,h'.get? e=some u)
  (new:eB P w (upd H x o') h' x o'):rW P w (upd H x o') h':=fun b u q=>by
 have nown:∀ c y,H c=some (.own y)->c≠x:=fun c y r z=>by subst z;rw [r] at mu;exact mu
 have ntup:∀ c xs,H c=some (.tup xs)->c≠x:=fun c xs r z=>by subst z;rw [r] at mu;exact mu
 by_cases hb:b=x
 ·subst hb;rw [aU] at q;cases q;exact new
 ·rw [a_ hb] at q
  by_cases hbe:b=e
  ·have q':H b=some (.own x):=by
    rcases he with z | z
    ·exact absurd (hbe.trans z) hb
    ·rw [hbe];exact z
   rw [q] at q';cases q'
   obtain ⟨v,hv⟩:=heo
   exact ⟨v,by rw [hbe];exact hv⟩
  ·refine (ok b u q).stay (fun c v hc r=>k c v ?_ r) (fun c r=>by rw [a_ (nown c b r)];exact r) fun c xs r=>by rw [a_ (ntup c xs r)];exact r
   rcases hc with rfl | hc
   ·exact hbe
   ·rintro rfl
    rcases he with z | z
    ·exact nown c b hc z
    ·rw [hc] at z;cases z;exact hb rfl
end
structure Un (fs ex:List ai) (H H':Hp) (h h':br):Prop where
 keep:∀ b o,h.get? b=some o->H b=none->b∉fs->b∉ex->h'.get? b=some o
 slot:∀ b o,h.get? b=some o->H b=none->b∈fs->b∉ex->∃ sl,h'.get? b=some { o with slots:=sl }
 free:∀ b o,h.get? b=some o->H b=none->b∉ex->H' b=none
 there:∀ b o,h.get? b=some o->b∉ex->∃ o',h'.get? b=some o'
 tups:∀ b xs,H b=some (.tup xs)->H' b=some (.tup xs)
 frzs:∀ b o u,H b=some (.frz o u)->H' b=some (.frz o u)
 tbls:∀ b ps,H b=some (.tbl ps)->∃ more,H' b=some (.tbl (ps++more))
section
variable {fs fs' ex ex':List ai}{H H1 H2:Hp}{h h1 h2 h':br}{a x e:ai}{o:HO}
theorem Un.any (u:Un fs ex H H1 h h1) {b:ai}{ob:Obj} (q:h.get? b=some ob) (n:H b=none) (hx:b∉ex):∃ sl,h1.get? b=some { ob with slots:=sl }:=by
 by_cases hb:b∈fs
 ·exact u.slot b ob q n hb hx
 ·exact ⟨ob.slots,u.keep b ob q n hb hx⟩
theorem Un.kept (k:∀ b u,h.get? b=some u->h'.get? b=some u):Un fs ex H H h h' :=
 ⟨fun b ob q _ _ _=>k b ob q,fun b ob q _ _ _=>⟨ob.slots,k b ob q⟩,fun _ _ _ n _=>n,fun b ob q _=>⟨ob,k b ob q⟩,fun _ _ q=>q,fun _ _ _ q=>q,fun _ ps q=>⟨#[],by rw [q];simp⟩⟩
theorem Un.refl:Un fs ex H H h h:=Un.kept fun _ _ q=>q
theorem Un.laid (k:∀ b u,h.get? b=some u->h'.get? b=some u) (hp:h.objs.size<=a) (hn:H a=none):Un fs ex H (upd H a o) h h' where
 keep:=fun b u q _ _ _=>k b u q
 slot:=fun b u q _ _ _=>⟨u.slots,k b u q⟩
 free:=fun b u q n _=>by rw [a_ (aO (aF (ax q) hp))];exact n
 there:=fun b u q _=>⟨u,k b u q⟩
 tups:=fun b xs q=>by rw [a_ (bc q hn)];exact q
 frzs:=fun b u xs q=>by rw [a_ (bc q hn)];exact q
 tbls:=fun b ps q=>⟨#[],by rw [a_ (bc q hn),q];simp⟩
theorem Un.write (mu:X8 (H x)) (he:e=x\/H e=some (.own x)) (k:∀ b u,b≠e->h.get? b=some u->h'.get? b=some u) (heo:∃ u,h'.get? e=some u):Un fs ex H (upd H x o) h h':=by
 have hx:∀ b,H b=none->b≠x:=fun b n z=>by subst z;rw [n] at mu;exact mu
 have hb:∀ b,H b=none->b≠e:=fun b n z=>by
  subst z
  rcases he with r | r
  ·exact hx b n r
  ·rw [n] at r;cases r
 have hm:∀ b u,H b=some u->¬ X8 (some u)->b≠x:=fun b u q nm z=>by subst z;rw [q] at mu;exact nm mu
 refine ⟨fun b u q n _ _=>k b u (hb b n) q,fun b u q n _ _=>⟨u.slots,k b u (hb b n) q⟩,fun b u q n _=>by rw [a_ (hx b n)];exact n,fun b u q _=>?_,
  fun b xs q=>by rw [a_ (hm b _ q fun z=>z)];exact q,fun b u xs q=>by rw [a_ (hm b _ q fun z=>z)];exact q,fun b ps q=>⟨#[],by rw [a_ (hm b _ q fun z=>z),q];simp⟩⟩
 by_cases hbe:b=e
 ·subst hbe;exact heo
 ·exact ⟨u,k b u hbe q⟩
end
def Z2 (h:br) (H:Hp):List ai:=(bZ h.objs.size).filter fun a=>(H a).isSome
def E7 (h:br) (H:Hp):br:=yW h (Z2 h H)
theorem M6 (h:br) (H:Hp):(E7 h H).objs.size=h.objs.size:=PySem.W.hideAll_size _ _
theorem NW {h:br}{H:Hp}{b:ai}{o:Obj} (e:h.get? b=some o) (n:H b=none):(E7 h H).get? b=some o :=
 ud _ e fun hm=>by
  have q:(H b).isSome=true:=(List.mem_filter.mp hm).2
  rw [n] at q;simp at q
theorem RU {h:br}{H:Hp}{b:ai}{o:Obj} (e:(E7 h H).get? b=some o):h.get? b=some o/\H b=none:=by
 have e':h.get? b=some o:=uN (Z2 h H) e
 refine ⟨e',?_⟩
 cases q:H b with
 | none=>rfl
 | some x =>
  have hm:b∈Z2 h H:=List.mem_filter.mpr ⟨List.mem_range.mpr (ax e'),by simp [q]⟩
  have z:(E7 h H).get? b=none:=PySem.W.hideAll_none (Z2 h H) hm
  rw [z] at e;cases e
def RV (g h:br) (L:ai):List (ai×Obj):=(bZ h.objs.size).filterMap fun a=>if a=L\/(g.get? a).isSome=true then none else (h.get? a).map fun o=>(a,o)
def bP (g h:br) (L d:ai):List (ai×Obj):=(RV g h L).filter fun p=>decide (p.1≠d)
end L2
namespace L2
open PySem PySem.Spec PyProof.Rows
structure Mod (K:a9) (mg:Str->Option ae) (base:br):Prop where
 kin:K.In base
 glob:base.Ns bF mg
 blt:∃ mb,base.Ns builtinsNs mb/\∀ x:Str,x≠"__name__"->mb x=iQ x
 nolimit:base.NoLimit
structure Cx where
 prog:aH
 w:b9
 K:a9
 mg:Str->Option ae
 base:br
 A:aW
 N:List Str
 s₀:ah
 H₀:Hp
 env:Env
 outer:List Env
 stack:List Env
 ex:List ai
 fn:Str->Bool
 calm:Bool
 pn:List (ai×Obj)
 xe:ae->ah->Prop
def pI (l:List Env):List ai:=l.filterMap (·.frame)
abbrev Cx.fs (X:Cx):List ai:=pI X.outer
def NX (sc:eD) (x:Str):Prop:=sc.names.lookup x=some .local\/sc.names.lookup x=some .cell\/sc.names.lookup x=some .free
def NY (sc:eD) (x:Str):Prop:=sc.names.lookup x=some .local\/sc.names.lookup x=some .cell
def Zk (env:Env) (h:br) (m:Str->Option ae) (x:Str) (u:ae):Prop :=
 (env.kindOf x=some .local/\m x=some u)\/((env.kindOf x=some .cell\/env.kindOf x=some .free)/\∃ c,env.cells.lookup x=some c/\h.IsCell c (some u))
structure Cx.Ok (X:Cx):Prop where
 mod:Mod X.K X.mg X.base
 kind:X.env.scope.kind=.function
 glob:X.env.globals=bF
 blt:X.env.builtins=builtinsNs
 above:X.s₀.heap.objs.size<=X.env.locals
 inj:∀ x y c,X.env.cells.lookup x=some c->X.env.cells.lookup y=some c->x=y
 has:∀ x,(X.env.kindOf x=some .cell\/X.env.kindOf x=some .free)->∃ c,X.env.cells.lookup x=some c
 cab:∀ x c,X.fn x=true->X.env.cells.lookup x=some c->X.s₀.heap.objs.size<=c
 hd:X.calm=true->X.A.handled=none
 frames:X.A.frames=some X.stack
 stk:X.stack=X.outer\/(X.stack=X.env::X.outer/\X.env.frame=some X.env.locals)
 exf:∀ b∈X.ex,b≠X.env.locals/\∀ x c,X.env.cells.lookup x=some c->c≠b
 bs:∀ b o,X.base.get? b=some o->X.s₀.heap.get? b=some o/\X.H₀ b=none
 bsz:X.base.objs.size<=X.s₀.heap.objs.size
 noex:∀ b o,X.base.get? b=some o->b∉X.ex
 exfs:∀ b∈X.ex,b∉X.fs
 funs:X.s₀.heap.FunFrames X.base X.outer
 frf:∀ b∈X.fs,X.H₀ b=none
structure bI (X:Cx) (pins:List (ai×Obj)) (σ:List (Option V)) (H:Hp) (s:ah):Prop where
 ok:X.Ok
 os:s.os=X.s₀.os
 bare:rO s.gens
 base:Un X.fs X.ex X.H₀ H X.s₀.heap s.heap
 loc:∃ m,s.heap.Ns X.env.locals m/\∀ (i:Nat) (x:Str) (v:V),X.N[i]?=some x->σ[i]?=some (some v)->NX X.env.scope x->∃ u,dW v u/\Zk X.env s.heap m x u
 cell:∀ x c,X.env.cells.lookup x=some c->∃ v,s.heap.IsCell c v
 free:H X.env.locals=none
 freeC:∀ x c,X.env.cells.lookup x=some c->H c=none
 pin:∀ p∈X.pn++pins,s.heap.get? p.1=some p.2/\H p.1=none/\p.1≠X.env.locals/\p.1∉X.fs/\∀ v,p.2.data≠.cell v
 hok:rW X.prog X.w H s.heap
 len:σ.length=X.N.length
section
variable {X:Cx}{pins:List (ai×Obj)}{σ:List (Option V)}{H H':Hp}{s:ah}{h':br}
theorem Cx.Ok.nofr (ok:X.Ok) {b:ai}{o:Obj} (e:X.base.get? b=some o):b∉X.fs:=fun hb=>by
 have:=(ok.funs.mem hb).1
 rw [e] at this;cases this
theorem bI.bs (I:bI X pins σ H s):∀ b o,X.base.get? b=some o->s.heap.get? b=some o/\H b=none:=fun b o e =>
 ⟨I.base.keep b o (I.ok.bs b o e).1 (I.ok.bs b o e).2 (I.ok.nofr e) (I.ok.noex b o e),I.base.free b o (I.ok.bs b o e).1 (I.ok.bs b o e).2 (I.ok.noex b o e)⟩
theorem bI.bk (I:bI X pins σ H s):∀ b o,X.base.get? b=some o->s.heap.get? b=some o:=fun b o e=>(I.bs b o e).1
theorem bI.mod (I:bI X pins σ H s):Mod X.K X.mg X.base:=I.ok.mod
theorem bI.kIn (I:bI X pins σ H s):X.K.In s.heap:=I.ok.mod.kin.keeps I.bk
theorem bI.nolimit (I:bI X pins σ H s):s.heap.NoLimit:=I.ok.mod.nolimit.keeps I.bk
theorem bI.fr (I:bI X pins σ H s):∃ m,Fr X.base X.env.locals s.heap m :=
 let ⟨m,hn,_⟩:=I.loc
 ⟨m,hn,I.bk,c7 I.ok.bsz I.ok.above⟩
theorem bI.lt (I:bI X pins σ H s):X.env.locals<s.heap.objs.size:=let ⟨_,hn,_⟩:=I.loc;hn.lt
theorem bI.sz (I:bI X pins σ H s):X.s₀.heap.objs.size<=s.heap.objs.size:=c7 I.ok.above (bA I.lt)
theorem bI.nofs (I:bI X pins σ H s) {a:ai} (h:s.heap.objs.size<=a):a∉X.fs:=fun hb=>by
 obtain ⟨_,o,ho,_⟩:=I.ok.funs.mem hb
 exact absurd (aF (ax ho) (c7 I.sz h)) (cb _)
theorem bI.cne (I:bI X pins σ H s):∀ x c,X.env.cells.lookup x=some c->c≠X.env.locals:=fun x c e z=>by
 obtain ⟨v,o,ho,hd⟩:=I.cell x c e
 obtain ⟨m,⟨o',es,ep,ho',hd',_⟩,_⟩:=I.loc
 rw [z,ho'] at ho;cases ho;rw [hd'] at hd;cases hd
theorem bI.funs (I:bI X pins σ H s):s.heap.FunFrames X.base X.outer:=by
 have all:∀ (l:List Env),(∀ b∈pI l,b∈X.fs)->X.s₀.heap.FunFrames X.base l->s.heap.FunFrames X.base l:=by
  intro l
  induction l with
  | nil=>intro _ _;trivial
  | cons env r ih =>
   intro hs hl
   obtain ⟨hk,⟨L,o,hf,hn,ho,hd⟩,hr⟩:=hl
   have hL:L∈X.fs:=hs L (by unfold pI;rw [jA,hf];exact ay)
   obtain ⟨sl,e⟩:=I.base.slot L o ho (I.ok.frf L hL) hL fun z=>I.ok.exfs L z hL
   exact ⟨hk,⟨L,_,hf,hn,e,hd⟩,ih (fun b hb=>hs b (by unfold pI;rw [jA,hf];exact aA _ hb)) hr⟩
 exact all X.outer (fun _ hb=>hb) I.ok.funs
theorem bI.stack (I:bI X pins σ H s):s.heap.FunFrames X.base X.stack:=by
 rcases I.ok.stk with e | ⟨e,hf⟩
 ·rw [e];exact I.funs
 ·rw [e]
  obtain ⟨m,hn,_⟩:=I.loc
  refine .cons (by rw [I.ok.kind];decide) hf hn ?_ I.funs
  exact uw (c7 I.ok.bsz I.ok.above)
theorem bI.stkSub (I:bI X pins σ H s):∀ b∈pI X.stack,b∈X.env.locals::X.fs:=fun b hb=>by
 rcases I.ok.stk with e | ⟨e,hf⟩
 ·rw [e] at hb;exact aA _ hb
 ·rw [e] at hb
  unfold pI at hb
  rw [jA,hf] at hb
  exact hb
theorem bI.stkFree (I:bI X pins σ H s):∀ b∈pI X.stack,H b=none:=fun b hb=>by
 rcases List.mem_cons.mp (I.stkSub b hb) with e | hb
 ·rw [e];exact I.free
 ·obtain ⟨_,o,ho,_⟩:=I.ok.funs.mem hb
  exact I.base.free b o ho (I.ok.frf b hb) fun z=>I.ok.exfs b z hb
theorem bI.step {g':Array Iq}{t':Nat}{d':Nw}{ch:List ai} (I:bI X pins σ H s)
  (hch:∀ b∈ch,(b∈X.ex\/X.s₀.heap.objs.size<=b)/\b≠X.env.locals/\(∀ x c,X.env.cells.lookup x=some c->c≠b)/\∀ p∈X.pn++pins,p.1≠b)
  (keep:∀ b o,b≠X.env.locals->b∉X.fs->b∉ch->s.heap.get? b=some o->H b=none->h'.get? b=some o)
  (slot:∀ b o,b≠X.env.locals->b∈X.fs->b∉ch->s.heap.get? b=some o->H b=none->∃ sl,h'.get? b=some { o with slots:=sl }) (free:∀ b o,b∉ch->s.heap.get? b=some o->H b=none->H' b=none)
  (there:∀ b o,b∉ch->s.heap.get? b=some o->∃ o',h'.get? b=some o')
  (tups:∀ b xs,H b=some (.tup xs)->H' b=some (.tup xs)) (frzs:∀ b o u,H b=some (.frz o u)->H' b=some (.frz o u)) (tbls:∀ b ps,H b=some (.tbl ps)->∃ more,H' b=some (.tbl (ps++more)))
  (ns:∀ m,s.heap.Ns X.env.locals m->h'.Ns X.env.locals m) (hok:rW X.prog X.w H' h') (hg:rO g') :
  bI X pins σ H' { s with heap:=h',gens:=g',drawn:=d',toks:=t' }:=by
 have neL:∀ b o,X.s₀.heap.get? b=some o->b≠X.env.locals:=fun b o e=>aO (aF (ax e) I.ok.above)
 have neC:∀ b o,X.s₀.heap.get? b=some o->b∉X.ex->b∉ch:=fun b o e hx hb=>by
  rcases (hch b hb).1 with z | z
  ·exact hx z
  ·exact absurd (aF (ax e) z) (cb _)
 have cellK:∀ x c,X.env.cells.lookup x=some c->∀ v,s.heap.IsCell c v->h'.IsCell c v:=fun x c e v h_0=>by
  obtain ⟨o,ho,hd⟩:=h_0
  have nch:c∉ch:=fun z=>(hch c z).2.2.1 x c e rfl
  by_cases hc:c∈X.fs
  ·obtain ⟨sl,q⟩:=slot c o (I.cne x c e) hc nch ho (I.freeC x c e)
   exact ⟨_,q,hd⟩
  ·exact ⟨o,keep c o (I.cne x c e) hc nch ho (I.freeC x c e),hd⟩
 refine ⟨I.ok,I.os,hg,⟨fun b o e n hb hx=>?_,fun b o e n hb hx=>?_,fun b o e n hx=>?_,fun b o e hx=>?_,fun b xs e=>tups b xs (I.base.tups b xs e),fun b o xs e=>frzs b o xs (I.base.frzs b o xs e),fun b ps e=>?_⟩,?_,fun x c e=>?_,?_,fun x c e=>?_,fun p hp=>?_,hok,I.len⟩
 ·exact keep b o (neL b o e) hb (neC b o e hx) (I.base.keep b o e n hb hx) (I.base.free b o e n hx)
 ·obtain ⟨sl,e1⟩:=I.base.slot b o e n hb hx
  obtain ⟨sl',e2⟩:=slot b _ (neL b o e) hb (neC b o e hx) e1 (I.base.free b o e n hx)
  exact ⟨sl',e2⟩
 ·obtain ⟨o',e1⟩:=I.base.there b o e hx
  exact free b o' (neC b o e hx) e1 (I.base.free b o e n hx)
 ·obtain ⟨o',e1⟩:=I.base.there b o e hx
  exact there b o' (neC b o e hx) e1
 ·obtain ⟨m1,e1⟩:=I.base.tbls b ps e
  obtain ⟨m2,e2⟩:=tbls b _ e1
  exact ⟨m1++m2,by rw [e2,LP]⟩
 ·obtain ⟨m,hn,hl⟩:=I.loc
  refine ⟨m,ns m hn,fun i x v e1 e2 e3=>?_⟩
  obtain ⟨u,r,l⟩:=hl i x v e1 e2 e3
  refine ⟨u,r,?_⟩
  rcases l with l | ⟨k,c,e,z⟩
  ·exact .inl l
  ·exact .inr ⟨k,c,e,cellK x c e _ z⟩
 ·obtain ⟨v,z⟩:=I.cell x c e
  exact ⟨v,cellK x c e v z⟩
 ·obtain ⟨m,⟨o,_,_,ho,_⟩,_⟩:=I.loc
  exact free _ o (fun z=>(hch _ z).2.1 rfl) ho I.free
 ·obtain ⟨v,o,ho,hd⟩:=I.cell x c e
  exact free c o (fun z=>(hch c z).2.2.1 x c e rfl) ho (I.freeC x c e)
 ·obtain ⟨e,n,ne,nf,d⟩:=I.pin p hp
  have nch:p.1∉ch:=fun z=>(hch p.1 z).2.2.2 p hp rfl
  exact ⟨keep p.1 p.2 ne nf nch e n,free p.1 p.2 nch e n,ne,nf,d⟩
theorem bI.un {t':Nat} (I:bI X pins σ H s) (u:Un X.fs [] H H' s.heap h') (hok:rW X.prog X.w H' h'):bI X pins σ H' { s with heap:=h',toks:=t' }:=by
 obtain ⟨m,⟨o,es,ep,ho,r⟩,_⟩:=id I.loc
 obtain ⟨sl,hL⟩:=u.any ho I.free (by simp)
 exact I.step (g':=s.gens) (d':=s.drawn) (ch:=[]) (fun _ z=>nomatch z) (fun b o _ hb _ e n=>u.keep b o e n hb (by simp)) (fun b o _ hb _ e n=>u.slot b o e n hb (by simp)) (fun b o _ e n=>u.free b o e n (by simp)) (fun b o _ e=>u.there b o e (by simp)) u.tups u.frzs u.tbls (fun m' hm=>by
  obtain ⟨o',es',ep',ho',r'⟩:=hm
  rw [ho] at ho';cases ho'
  exact ⟨_,es',ep',hL,r'⟩) hok I.bare
theorem bI.call {g':Array Iq}{t':Nat}{d':Nw}{ch:List ai} (I:bI X pins σ H s) (u:Un (pI X.stack) ch H H' s.heap h') (hok:rW X.prog X.w H' h') (hg:rO g')
  (hch:∀ b∈ch,(b∈X.ex\/X.s₀.heap.objs.size<=b)/\b≠X.env.locals/\(∀ x c,X.env.cells.lookup x=some c->c≠b)/\∀ p∈X.pn++pins,p.1≠b) :
  bI X pins σ H' { s with heap:=h',gens:=g',drawn:=d',toks:=t' }:=by
 obtain ⟨m,⟨o,es,ep,ho,r⟩,_⟩:=id I.loc
 obtain ⟨sl,hL⟩:=u.any ho I.free fun z=>(hch _ z).2.1 rfl
 exact I.step (ch:=ch) hch (fun b o hL hb hc e n=>u.keep b o e n (fun z=>(List.mem_cons.mp (I.stkSub b z)).elim hL hb) hc) (fun b o _ _ hc e n=>u.any e n hc) (fun b o hc e n=>u.free b o e n hc) (fun b o hc e=>u.there b o e hc) u.tups u.frzs u.tbls (fun m' hm=>by
  obtain ⟨o',es',ep',ho',r'⟩:=hm
  rw [ho] at ho';cases ho'
  exact ⟨_,es',ep',hL,r'⟩) hok hg
theorem bI.turned {t':Nat}{it:ai} (I:bI X pins σ H s) (k:∀ b o,b≠it->s.heap.get? b=some o->h'.get? b=some o) (hn:H it=none) (hL:it≠X.env.locals)
  (h1:it∈X.ex\/X.s₀.heap.objs.size<=it) (h2:∀ x c,X.env.cells.lookup x=some c->c≠it) (h3:∀ p∈X.pn++pins,p.1≠it):bI X pins σ H { s with heap:=h',toks:=t' }:=by
 have nit:∀ b u,H b=some u->b≠it:=fun b u e z=>by rw [z,hn] at e;cases e
 refine I.step (g':=s.gens) (d':=s.drawn) (ch:=[it]) (fun b hb=>?_) (fun b o _ _ hc e _=>k b o (fun z=>hc (by simp [z])) e) (fun b o _ _ hc e _=>⟨o.slots,k b o (fun z=>hc (by simp [z])) e⟩) (fun _ _ _ _ n=>n)
  (fun b o hc e=>⟨o,k b o (fun z=>hc (by simp [z])) e⟩) (fun _ _ e=>e) (fun _ _ _ e=>e) (fun b ps e=>⟨#[],by rw [e];simp⟩) (fun m hm=>?_) (fun b u e=>?_) I.bare
 ·have e:b=it:=by simpa using hb
  subst e
  exact ⟨h1,hL,h2,h3⟩
 ·obtain ⟨o,es,ep,ho,r⟩:=hm
  exact ⟨o,es,ep,k _ o (fM hL) ho,r⟩
 ·refine (I.hok b u e).stay (fun c v hc q=>k c v ?_ q) (fun _ q=>q) fun _ _ q=>q
  rcases hc with z | z
  ·rw [z];exact nit b u e
  ·exact nit c _ z
theorem bI.tok (I:bI X pins σ H s) (t:Nat):bI X pins σ H { s with toks:=t }:=I.un (h':=s.heap) (t':=t) Un.refl I.hok
theorem bI.kept {t':Nat} (I:bI X pins σ H s) (k:∀ b u,s.heap.get? b=some u->h'.get? b=some u):bI X pins σ H { s with heap:=h',toks:=t' }:=I.un (Un.kept k) (I.hok.kept k)
theorem bI.laid {a:ai}{o:HO}{t':Nat} (I:bI X pins σ H s) (k:∀ b u,s.heap.get? b=some u->h'.get? b=some u) (hp:s.heap.objs.size<=a) (new:eB X.prog X.w (upd H a o) h' a o) :
  bI X pins σ (upd H a o) { s with heap:=h',toks:=t' }:=I.un (Un.laid k hp (I.hok.fresh hp)) (I.hok.laid k hp new)
theorem bI.write {x e:ai}{o:HO}{t':Nat} (I:bI X pins σ H s) (mu:X8 (H x)) (he:e=x\/H e=some (.own x)) (k:∀ b u,b≠e->s.heap.get? b=some u->h'.get? b=some u) (heo:∃ u,h'.get? e=some u)
  (new:eB X.prog X.w (upd H x o) h' x o):bI X pins σ (upd H x o) { s with heap:=h',toks:=t' }:=I.un (Un.write mu he k heo) (I.hok.write mu he k heo new)
theorem bI.weak {σ':List (Option V)} (I:bI X pins σ H s) (hl:σ'.length=σ.length) (w:∀ (i:Nat) v,σ'[i]?=some (some v)->σ[i]?=some (some v)):bI X pins σ' H s :=
 ⟨I.ok,I.os,I.bare,I.base,let ⟨m,hn,hl'⟩:=I.loc;⟨m,hn,fun i x v e1 e2 e3=>hl' i x v e1 (w i v e2) e3⟩,I.cell,I.free,I.freeC,I.pin,I.hok,hl.trans I.len⟩
theorem bI.pins_of {pins':List (ai×Obj)} (I:bI X pins σ H s) (h:∀ p∈pins',s.heap.get? p.1=some p.2/\H p.1=none/\p.1≠X.env.locals/\p.1∉X.fs/\∀ v,p.2.data≠.cell v):bI X pins' σ H s :=
 ⟨I.ok,I.os,I.bare,I.base,I.loc,I.cell,I.free,I.freeC,fun p hp=>(List.mem_append.mp hp).elim (fun z=>I.pin p (gJ _ z)) (h p),I.hok,I.len⟩
theorem F_ {N:List Str} (hN:N.Nodup) {i j:Nat}{x:Str} (a:N[i]?=some x) (b:N[j]?=some x):i=j:=by
 obtain ⟨h1,e1⟩:=List.getElem?_eq_some_iff.mp a
 obtain ⟨h2,e2⟩:=List.getElem?_eq_some_iff.mp b
 exact (List.getElem_inj hN).mp (e1.trans e2.symm)
theorem Df {M:zC}{A:aW}{E:ae->ah->Prop}{i:Nat}{x:Str}{v:V}{u:ae}{Q:Unit->ah->Prop} (I:bI X pins σ H s) (hN:X.N.Nodup) (hi:X.N[i]?=some x) (hx:NY X.env.scope x) (r:dW v u)
  (h:∀ s',bI X pins (σ.set i (some v)) H s'->(∃ a,cF a s.heap s'.heap/\(a=X.env.locals\/X.env.cells.lookup x=some a))->Q () s') (hf:X.fn x=true\/X.env.scope.names.lookup x=some .local:=by first | exact .inl rfl | exact .inr rfl | assumption):av M A (storeName X.env x u) Q E s:=by
 obtain ⟨m,hn,hl⟩:=id I.loc
 have hcls:(X.env.scope.kind == .class || (X.env.scope.kind == .module && X.env.locals != X.env.globals))=false:=by rw [I.ok.kind];rfl
 have hiσ:i<σ.length:=by rw [I.len];exact (List.getElem?_eq_some_iff.mp hi).1
 have cne:=I.cne
 have tracked:∀ {a:ai}{h':br},(∃ o,s.heap.get? a=some o/\H a=none)->cF a s.heap h'->rW X.prog X.w H h':=fun {a h'} ha hs b ob e=>by
  obtain ⟨_,_,hfree⟩:=ha
  refine (I.hok b ob e).stay (fun c w' hc q=>(hs.2 c ?_).trans q) (fun _ q=>q) fun _ _ q=>q
  rintro rfl
  rcases hc with rfl | hc
  ·rw [hfree] at e;cases e
  ·rw [hfree] at hc;cases hc
 rcases hx with hk | hk
 ·refine wpAny_storeName_local hk hn (fun h' hn' hs=>?_) hcls
  obtain ⟨oL,_,_,hoL,_⟩:=id hn
  refine h _ ⟨I.ok,I.os,I.bare,⟨fun b o e n hb hx=>?_,fun b o e n hb hx=>?_,I.base.free,fun b o e hx=>?_,I.base.tups,I.base.frzs,I.base.tbls⟩,⟨_,hn',fun j y v' e1 e2 e3=>?_⟩,fun y c e=>?_,I.free,I.freeC,fun p hp=>?_,tracked ⟨oL,hoL,I.free⟩ hs,by simpa using I.len⟩ ⟨_,hs,.inl rfl⟩
  ·exact (hs.2 b (aO (aF (ax e) I.ok.above))).trans (I.base.keep b o e n hb hx)
  ·obtain ⟨sl,e1⟩:=I.base.slot b o e n hb hx
   exact ⟨sl,(hs.2 b (aO (aF (ax e) I.ok.above))).trans e1⟩
  ·obtain ⟨o',e1⟩:=I.base.there b o e hx
   exact ⟨o',(hs.2 b (aO (aF (ax e) I.ok.above))).trans e1⟩
  ·by_cases hj:j=i
   ·subst hj
    rw [hi] at e1;cases e1
    rw [aB hiσ] at e2
    cases e2
    exact ⟨u,r,.inl ⟨hk,by simp⟩⟩
   ·rw [am (fM hj)] at e2
    obtain ⟨u',r',q⟩:=hl j y v' e1 e2 e3
    refine ⟨u',r',?_⟩
    rcases q with ⟨k,e⟩ | ⟨k,c,e,z⟩
    ·refine .inl ⟨k,?_⟩
     have:y≠x:=fun e=>hj (F_ hN e1 (e ▸ hi))
     simp [this,e]
    ·exact .inr ⟨k,c,e,z.sameBut hs (cne y c e)⟩
  ·obtain ⟨w',z⟩:=I.cell y c e
   exact ⟨w',z.sameBut hs (cne y c e)⟩
  ·obtain ⟨e,n,ne,nf,d⟩:=I.pin p hp
   exact ⟨(hs.2 p.1 ne).trans e,n,ne,nf,d⟩
 ·have hfn:X.fn x=true:=by
   rcases hf with z | z
   ·exact z
   ·rw [z] at hk;cases hk
  obtain ⟨c,hc⟩:=I.ok.has x (.inl hk)
  obtain ⟨w',z⟩:=I.cell x c hc
  refine wpAny_storeName_cell I.ok.kind hk hc z (fun h' hc' hs=>?_)
  obtain ⟨oc,hoc,hocd⟩:=id z
  refine h { s with heap:=h' } ⟨I.ok,I.os,I.bare,⟨fun b o e n hb hx=>?_,fun b o e n hb hx=>?_,I.base.free,fun b o e hx=>?_,I.base.tups,I.base.frzs,I.base.tbls⟩,⟨m,hn.sameBut hs (fM (cne x c hc)),fun j y v' e1 e2 e3=>?_⟩,fun y c' e=>?_,I.free,I.freeC,fun p hp=>?_,tracked ⟨oc,hoc,I.freeC x c hc⟩ hs,by simpa using I.len⟩ ⟨c,hs,.inr hc⟩
  ·exact (hs.2 b (aO (aF (ax e) (I.ok.cab x c hfn hc)))).trans (I.base.keep b o e n hb hx)
  ·obtain ⟨sl,e1⟩:=I.base.slot b o e n hb hx
   exact ⟨sl,(hs.2 b (aO (aF (ax e) (I.ok.cab x c hfn hc)))).trans e1⟩
  ·obtain ⟨o',e1⟩:=I.base.there b o e hx
   exact ⟨o',(hs.2 b (aO (aF (ax e) (I.ok.cab x c hfn hc)))).trans e1⟩
  ·by_cases hj:j=i
   ·subst hj
    rw [hi] at e1;cases e1
    rw [aB hiσ] at e2
    cases e2
    exact ⟨u,r,.inr ⟨.inl hk,c,hc,hc'⟩⟩
   ·rw [am (fM hj)] at e2
    obtain ⟨u',r',q⟩:=hl j y v' e1 e2 e3
    refine ⟨u',r',?_⟩
    rcases q with q | ⟨k,c',e,z'⟩
    ·exact .inl q
    ·refine .inr ⟨k,c',e,z'.sameBut hs ?_⟩
     rintro rfl
     exact hj (F_ hN e1 (I.ok.inj _ _ _ e hc ▸ hi))
  ·by_cases hcc:c'=c
   ·subst hcc;exact ⟨_,hc'⟩
   ·obtain ⟨w2,z2⟩:=I.cell y c' e
    exact ⟨w2,z2.sameBut hs hcc⟩
  ·obtain ⟨e,n,ne,nf,d⟩:=I.pin p hp
   refine ⟨(hs.2 p.1 ?_).trans e,n,ne,nf,d⟩
   intro q
   rw [q,hoc] at e
   have q':oc=p.2:=bL e
   exact d w' (by rw [<- q'];exact hocd)
theorem Ae {M:zC}{A:aW}{E:ae->ah->Prop}{i:Nat}{x:Str}{v:V}{u:ae}{Q:Unit->ah->Prop} (I:bI X pins σ H s) (hN:X.N.Nodup) (hi:X.N[i]?=some x) (hx:NY X.env.scope x) (r:dW v u)
  (h:∀ s',bI X pins (σ.set i (some v)) H s'->Q () s') (hf:X.fn x=true\/X.env.scope.names.lookup x=some .local:=by first | exact .inl rfl | exact .inr rfl | assumption):av M A (storeName X.env x u) Q E s :=
 Df I hN hi hx r (fun s' I' _=>h s' I') hf
theorem bI.call' {s':ah}{ch:List ai} (I:bI X pins σ H s) (ho:s'.os=s.os) (u:Un (pI X.stack) ch H H' s.heap s'.heap) (hok:rW X.prog X.w H' s'.heap) (hg:rO s'.gens)
  (hch:∀ b∈ch,(b∈X.ex\/X.s₀.heap.objs.size<=b)/\b≠X.env.locals/\(∀ x c,X.env.cells.lookup x=some c->c≠b)/\∀ p∈X.pn++pins,p.1≠b):bI X pins σ H' s':=by
 obtain ⟨h',g',d',t',o'⟩:=s'
 have e:o'=s.os:=ho
 subst e
 exact I.call (g':=g') (t':=t') (d':=d') u hok hg hch
end
abbrev XK:=ae->Option ai->Hp->Prop
abbrev St:=List (Option V)
abbrev VK:=V->Hp->Prop
abbrev TE:=St->Hp->VK->Prop
abbrev TT:=St->Hp->(Bool->Hp->Prop)->Prop
abbrev TA:=St->Hp->(List V->Hp->Prop)->Prop
structure ui where
 nx:St->Hp->Prop
 rt:VK
 bk:St->Hp->Prop:=fun _ _=>False
 ct:St->Hp->Prop:=fun _ _=>False
abbrev TS:=ui->St->Hp->Prop
inductive EP (X:Cx) (pins:List (ai×Obj)) (σ:St) (Q:VK) (u:ae) (s':ah):Prop
 | mk (v H':_) (h0:bI X pins σ H' s') (h1:dW v u) (h2:Q v H'):EP X pins σ Q u s'
inductive TP (X:Cx) (pins:List (ai×Obj)) (σ:St) (Q:Bool->Hp->Prop) (b:Bool) (s':ah):Prop
 | mk (H':_) (h0:bI X pins σ H' s') (h1:Q b H'):TP X pins σ Q b s'
inductive AP (X:Cx) (pins:List (ai×Obj)) (σ:St) (Q:List V->Hp->Prop) (us:List ae) (s':ah):Prop
 | mk (vs H':_) (h0:bI X pins σ H' s') (h1:du vs us) (h2:Q vs H'):AP X pins σ Q us s'
inductive SN (X:Cx) (pins:List (ai×Obj)) (k:St->Hp->Prop) (s':ah):Prop
 | mk (σ':St) (H':Hp) (I:bI X pins σ' H' s') (q:k σ' H'):SN X pins k s'
inductive SV (X:Cx) (pins:List (ai×Obj)) (k:V->Hp->Prop) (u:ae) (s':ah):Prop
 | mk (v:V) (σ':St) (H':Hp) (I:bI X pins σ' H' s') (r:dW v u) (q:k v H'):SV X pins k u s'
def SP (X:Cx) (pins:List (ai×Obj)) (D:ui) (f:Flow) (s':ah):Prop :=
 match f with
 | .next=>SN X pins D.nx s'
 | .brk=>SN X pins D.bk s'
 | .cont=>SN X pins D.ct s'
 | .ret u=>SV X pins D.rt u s'
def PE (X:Cx) (e:aR) (t:TE):Prop :=
 ∀ (pins:List (ai×Obj)) (s:ah) (σ:St) (H:Hp) (Q:VK),bI X pins σ H s->t σ H Q->av (aG X.prog X.w) X.A (cG e X.env) (EP X pins σ Q) X.xe s
def PT (X:Cx) (e:aR) (t:TT):Prop :=
 ∀ (pins:List (ai×Obj)) (s:ah) (σ:St) (H:Hp) (Q:Bool->Hp->Prop),bI X pins σ H s->t σ H Q->av (aG X.prog X.w) X.A (DZ e X.env (cG e X.env)) (TP X pins σ Q) X.xe s
def PW (X:Cx) (e:aR) (t:TT):Prop :=
 ∀ (whole:Sem ae) (pins:List (ai×Obj)) (s:ah) (σ:St) (H:Hp) (Q:Bool->Hp->Prop),bI X pins σ H s->t σ H Q->av (aG X.prog X.w) X.A (DZ e X.env whole) (TP X pins σ Q) X.xe s
theorem PW.pt {X:Cx}{e:aR}{t:TT} (h:PW X e t):PT X e t:=h _
def PA (X:Cx) (es:List aR) (t:TA):Prop :=
 ∀ (pos:Pos) (pins:List (ai×Obj)) (s:ah) (σ:St) (H:Hp) (Q:List V->Hp->Prop),bI X pins σ H s->t σ H Q->av (aG X.prog X.w) X.A (spliced (dL pos (aw es X.env))) (AP X pins σ Q) X.xe s
def PS (X:Cx) (st:bH) (t:TS):Prop :=
 ∀ (pins:List (ai×Obj)) (s:ah) (σ:St) (H:Hp) (D:ui),bI X pins σ H s->t D σ H->av (aG X.prog X.w) X.A (exec st X.env) (SP X pins D) X.xe s
def FT (X:Cx) (st:List bH) (t:TS):Prop :=
 ∀ (pins:List (ai×Obj)) (s:ah) (σ:St) (H:Hp) (D:ui),bI X pins σ H s->t D σ H->av (aG X.prog X.w) X.A (execs st X.env) (SP X pins D) X.xe s
theorem fF {α:Type}{t:Sem α}{Q Q':α->ah->Prop}{M:zC}{A:aW}{E:ae->ah->Prop}{s:ah} (h:av M A t Q E s) (hQ:∀ a s,Q a s->Q' a s):av M A t Q' E s:=bh h hQ fun _ _ x=>x
end L2
namespace L2
open PySem PySem.Spec PyProof.Rows
section
variable {X:Cx}
inductive Ue (i:Nat) (σ:St) (H:Hp) (Q:VK):Prop
 | mk (v:_) (h0:σ[i]?=some (some v)) (h1:Q v H):Ue i σ H Q
def M7 (i:Nat):TE:=Ue i
def tC (v:V):TE:=fun _ H Q=>Q v H
theorem mZ {i:Nat}{x:Str}{pos:Pos} (hN:X.N[i]?=some x) (hv:NX X.env.scope x) (hd:(x == ("__debug__" : Str))=false:=by decide) (hcd:(x == ("__classdict__" : Str))=false:=by decide):PE X (.Name x pos) (M7 i):=by
 intro pins s σ H Q I h
 obtain ⟨v,e,h⟩:=h
 obtain ⟨m,hn,hl⟩:=I.loc
 obtain ⟨u,r,l⟩:=hl i x v hN e hv
 have fin:EP X pins σ Q u s:=⟨v,H,I,r,h⟩
 rcases l with ⟨hk,hm⟩ | ⟨hk,c,hc,hcell⟩
 ·exact z_ (xp I.ok.kind hk hn hm fin) hd
 ·rcases hk with hk | hk
  ·exact z_ (wpAny_loadName_cell I.ok.kind hk hc hcell fin) hd
  ·exact z_ (wpAny_loadName_free I.ok.kind hk hc hcell fin hcd) hd
theorem Af {i j pos}:PE X (.Constant (.int i) j pos) (tC (.int i)):=fun _ _ _ H _ I h=>wpAny_Constant_int ⟨.int i,H,I.tok _,⟨_,rfl⟩,h⟩
theorem NZ {b j pos}:PE X (.Constant (.bool b) j pos) (tC (.bl b)):=fun _ _ _ H _ I h=>Constant_bool ⟨.bl b,H,I,rfl,h⟩
theorem Vl {j pos}:PE X (.Constant .none j pos) (tC .non):=fun _ _ _ H _ I h=>Constant_none ⟨.non,H,I,rfl,h⟩
theorem N_ {x j pos}:PE X (.Constant (.str x) j pos) (tC (.str x)):=fun _ _ _ H _ I h=>Calls.Constant_str ⟨.str x,H,I.tok _,⟨_,rfl⟩,h⟩
def Gl (X:Cx) (x:Str):Prop:=X.env.kindOf x=some .globalImplicit
theorem vX {E:ae->ah->Prop}{pins:List (ai×Obj)}{s:ah}{σ:St}{H:Hp}{x:Str}{u:ae}{pos:Pos}{Q:ae->ah->Prop} (I:bI X pins σ H s) (hg:Gl X x) (hm:X.mg x=some u) (h:Q u s)
  (hd:(x == ("__debug__" : Str))=false:=by decide):av (aG X.prog X.w) X.A (cG (.Name x pos) X.env) Q E s :=
 nU I.ok.kind hg (FM (by rw [I.ok.glob];exact I.mod.glob.keeps I.bk) hm h) hd
theorem uV {E:ae->ah->Prop}{pins:List (ai×Obj)}{s:ah}{σ:St}{H:Hp}{x:Str}{u:ae}{pos:Pos}{Q:ae->ah->Prop} (I:bI X pins σ H s) (hg:Gl X x) (hm:X.mg x=none) (hv:iQ x=some u) (h:Q u s)
  (hn:x≠"__name__":=by decide) (hd:(x == ("__debug__" : Str))=false:=by decide):av (aG X.prog X.w) X.A (cG (.Name x pos) X.env) Q E s:=by
 obtain ⟨mb,h1,h2⟩:=I.mod.blt
 exact nU I.ok.kind hg (Calls.loadGlobal_builtin (by rw [I.ok.glob];exact I.mod.glob.keeps I.bk) hm (by rw [I.ok.blt];exact h1.keeps I.bk) ((h2 x hn).trans hv) h) hd
theorem E8 {x:Str}{v:V}{u:ae}{pos:Pos} (hg:Gl X x) (hm:X.mg x=some u) (r:dW v u) (hd:(x == ("__debug__" : Str))=false:=by decide):PE X (.Name x pos) (tC v) :=
 fun _ _ _ H _ I h=>vX I hg hm ⟨v,H,I,r,h⟩ hd
theorem Ky {x:Str}{v:V}{u:ae}{pos:Pos} (hg:Gl X x) (hm:X.mg x=none) (hv:iQ x=some u) (r:dW v u) (hn:x≠"__name__":=by decide) (hd:(x == ("__debug__" : Str))=false:=by decide):PE X (.Name x pos) (tC v) :=
 fun _ _ _ H _ I h=>uV I hg hm hv ⟨v,H,I,r,h⟩ hn hd
variable {a b:aR}{ta tb:TE}{pos:Pos}
def PC (X:Cx) (op:zD) (a b:aR) (t:TE):Prop :=
 ∀ (pins:List (ai×Obj)) (s:ah) (σ:St) (H:Hp) (Q:VK),bI X pins σ H s->t σ H Q ->
  av (aG X.prog X.w) X.A (cG a X.env) (fun v s₁=>av (aG X.prog X.w) X.A (cG b X.env) (fun u s₂=>av (aG X.prog X.w) X.A (bX op v u) (EP X pins σ Q) X.xe s₂) X.xe s₁) X.xe s
theorem O0 (b:aR) {op:zD} (h:op≠.In) (h2:op≠.NotIn):h_ op b=false:=by
 have e1:(op == CmpOp.In)=false:=by cases op<;>first | rfl | exact absurd rfl h
 have e2:(op == CmpOp.NotIn)=false:=by cases op<;>first | rfl | exact absurd rfl h2
 cases b<;>simp [h_,e1,e2]
def tB (t:TE):TT:=fun σ H Q=>t σ H fun x H1=>∃ c,x=.bl c/\Q c H1
theorem Zl {op:zD}{t:TE} (h:PC X op a b t) (h1:h_ op b=false:=by first | exact O0 _ (by decide) (by decide) | rfl):PT X (.Compare a [op] [b] pos) (tB t):=by
 intro pins s σ H Q I hw
 refine Rl (fF (h pins s σ H _ I hw) fun v s1 h1=>fF h1 fun u s2 h2=>fF h2 fun c s3 ⟨x,H1,I1,r1,q1⟩=>?_) h1
 obtain ⟨d,rfl,q⟩:=q1
 cases r1
 exact eN ⟨H1,I1,q⟩
theorem O1 {e:aR}{t:TE} (h:PE X e t) (he:∀ whole,DZ e X.env whole=(do let v <- whole;C7 e.pos;holding [v] (truthy v)):=by intro _;rfl):PT X e (tB t):=by
 intro pins s σ H Q I hw
 refine isTrue_plain (fF (h pins s σ H _ I hw) fun v s1 ⟨x,H1,I1,r1,q1⟩=>?_) (he _)
 obtain ⟨d,rfl,q⟩:=q1
 cases r1
 exact eN ⟨H1,I1,q⟩
variable {tA tB':TT}{bP:List aR}
def Zm (t u:TT):TT:=fun σ H Q=>t σ H fun c H1=>if c=true then u σ H1 Q else Q false H1
def tOr (t u:TT):TT:=fun σ H Q=>t σ H fun c H1=>if c=true then Q true H1 else u σ H1 Q
def Zn (t:TT):TT:=fun σ H Q=>t σ H fun c H1=>Q (!c) H1
theorem RW (ha:PT X a tA):PW X (.BoolOp .And [a] pos) tA:=by
 intro wh pins s σ H Q I h
 refine isTrue_and (fF (ha pins s σ H Q I h) fun c s1 e=>?_)
 cases c with
 | true=>exact isTrue_and_nil e
 | false=>exact e
theorem O3 (ha:PT X a tA):PW X (.BoolOp .Or [a] pos) tA:=by
 intro wh pins s σ H Q I h
 refine isTrue_or (fF (ha pins s σ H Q I h) fun c s1 e=>?_)
 cases c with
 | false=>exact isTrue_or_nil e
 | true=>exact e
theorem Vm (ha:PT X a tA) (hb:PW X (.BoolOp .And (b::bP) pos) tB'):PW X (.BoolOp .And (a::b::bP) pos) (Zm tA tB'):=by
 intro wh pins s σ H Q I h
 refine isTrue_and (fF (ha pins s σ H _ I h) fun c s1 ⟨H1,I1,q1⟩=>?_)
 cases c with
 | true=>exact hb wh pins s1 σ H1 Q I1 q1
 | false=>exact ⟨H1,I1,q1⟩
theorem Uf (ha:PT X a tA) (hb:PW X (.BoolOp .Or (b::bP) pos) tB'):PW X (.BoolOp .Or (a::b::bP) pos) (tOr tA tB'):=by
 intro wh pins s σ H Q I h
 refine isTrue_or (fF (ha pins s σ H _ I h) fun c s1 ⟨H1,I1,q1⟩=>?_)
 cases c with
 | true=>exact ⟨H1,I1,q1⟩
 | false=>exact hb wh pins s1 σ H1 Q I1 q1
theorem O4 (ha:PT X a tA):PT X (.UnaryOp .Not a pos) (Zn tA):=by
 intro pins s σ H Q I h
 exact isTrue_not (fF (ha pins s σ H (fun c H1=>Q (!c) H1) I h) fun _ _ x=>by obtain ⟨a,b,c⟩:=x;exact ⟨a,b,c⟩)
def X9 (ta tb:TE):TE:=fun σ H Q=>ta σ H fun x H1=>∃ c,x=.bl c/\if c=true then tb σ H1 Q else Q (.bl false) H1
def Xa (ta:TE):TE:=fun σ H Q=>ta σ H fun x H1=>∃ c,x=.bl c/\Q (.bl (!c)) H1
theorem Vn {op}{t:TE} (h:PE X a t):PE X (.BoolOp op [a] pos) t:=fun pins s σ H Q I hw=>BoolOp_one (h pins s σ H Q I hw)
theorem Vo (ha:PE X a ta) (hb:PE X (.BoolOp .And (b::bP) pos) tb):PE X (.BoolOp .And (a::b::bP) pos) (X9 ta tb):=by
 intro pins s σ H Q I h
 refine BoolOp_and (fF (ha pins s σ H _ I h) fun v s1 ⟨x,H1,I1,r1,q1⟩=>?_)
 obtain ⟨c,rfl,q1⟩:=q1
 cases r1
 refine eN ?_
 cases c with
 | true=>exact hb pins s1 σ H1 Q I1 q1
 | false=>exact ⟨.bl false,H1,I1,rfl,q1⟩
theorem Vp (ha:PE X a ta):PE X (.UnaryOp .Not a pos) (Xa ta):=by
 intro pins s σ H Q I h
 refine UnaryOp_ (fF (ha pins s σ H _ I h) fun v s1 ⟨x,H1,I1,r1,q1⟩=>?_)
 obtain ⟨c,rfl,q1⟩:=q1
 cases r1
 exact not_of (eN ⟨.bl (!c),H1,I1,rfl,q1⟩)
end
end L2
namespace L2
open PySem PySem.Spec PyProof.Rows
inductive KqL (K:a9) (a:ai) (xs:List V):Prop
 | mk (o:Obj) (its:Array ae) (n:Nat) (h0:K.lookup a=some o) (h1:o.cls=.type "list") (h2:o.dict=none) (h3:o.data=.seq its n) (h4:its.size<=sizeLine) (h5:du xs its.toList):KqL K a xs
def pJ (K:a9) (H:Hp) (a:ai) (xs:List V):Prop :=
 Rd H a (.lst xs)\/KqL K a xs
inductive KqT (K:a9) (a:ai) (xs:List V):Prop
 | mk (o:Obj) (its:Array ae) (n:Nat) (h0:K.lookup a=some o) (h1:o.cls=.type "tuple") (h3:o.data=.seq its n) (h4:its.size<=sizeLine) (h5:du xs its.toList):KqT K a xs
def m5 (K:a9) (H:Hp) (a:ai) (xs:List V):Prop :=
 Rd H a (.tup xs)\/KqT K a xs
def Zo:ae->Option V
 | .none=>some .non
 | .bool b=>some (.bl b)
 | .int i _=>some (.int i)
 | .str x _=>some (.str x)
 | .bytes b _=>some (.byt b)
 | .float b _=>some (.flt b)
 | .ref a=>some (.ref a)
 | .type n=>some (.ty n)
 | _=>none
theorem dW.abs {x:V}{u:ae} (r:dW x u):Zo u=some x:=by
 cases x with
 | non=>cases r;rfl
 | bl _=>cases r;rfl
 | int _=>obtain ⟨t,rfl⟩:=r;rfl
 | str _=>obtain ⟨t,rfl⟩:=r;rfl
 | byt _=>obtain ⟨t,rfl⟩:=r;rfl
 | flt _=>obtain ⟨t,rfl⟩:=r;rfl
 | ref _=>cases r;rfl
 | ty _=>cases r;rfl
theorem dW.inj {x y:V}{u:ae} (r:dW x u) (q:dW y u):x=y:=bL (r.abs.symm.trans q.abs)
theorem du.inj {xs:List V}{us:List ae} (h:du xs us):∀ {ys:List V},du ys us->xs=ys:=by
 induction h with
 | nil=>intro ys k;cases k;rfl
 | cons r t ih=>intro ys k;cases k with | cons r' t'=>rw [r.inj r',ih t']
section
variable {X:Cx}{pins:List (ai×Obj)}{σ:St}{H:Hp}{s:ah}{a:ai}{xs ys:List V}
theorem pJ.of {K:a9} (h:H a=some (.lst xs)):pJ K H a xs:=.inl (.inl h)
theorem m5.of {K:a9} (h:H a=some (.tup xs)):m5 K H a xs:=.inl (.inl h)
inductive InL (h:br) (a:ai) (xs:List V):Prop
 | mk (its:List ae) (r:du xs its) (p:PlainL h a its.toArray) (z:xs.length<=sizeLine):InL h a xs
inductive InT (h:br) (a:ai) (xs:List V):Prop
 | mk (its:List ae) (r:du xs its) (p:Ry h a its.toArray) (z:xs.length<=sizeLine):InT h a xs
inductive InM (h:br) (l:ai) (xs:List V):Prop
 | mk (z:xs.length<=sizeLine) (its:List ae) (n:Nat) (r:du xs its) (hl:xs.length=its.length) (e:h.get? l=some { cls:=.type "list",data:=.seq its.toArray n }):InM h l xs
theorem bI.list (I:bI X pins σ H s) (h:pJ X.K H a xs):InL s.heap a xs:=by
 rcases h with h | ⟨o,its,n,hk,hc,hd,hs,hz,r⟩
 ·obtain ⟨z,its,n,r,e⟩:=h.ok I.hok
  exact ⟨its,r,⟨_,n,e,rfl,rfl,rfl⟩,z⟩
 ·refine ⟨its.toList,r,⟨o,n,I.kIn a o hk,hc,hd,by simpa using hs⟩,?_⟩
  have e:=r.length
  simp only [bv] at e
  omega
theorem bI.tuple (I:bI X pins σ H s) (h:m5 X.K H a xs):InT s.heap a xs:=by
 rcases h with h | ⟨o,its,n,hk,hc,hs,hz,r⟩
 ·obtain ⟨z,its,r,p⟩:=h.ok I.hok
  exact ⟨its,r,p,z⟩
 ·refine ⟨its.toList,r,⟨o,I.kIn a o hk,hc,n,by simpa using hs⟩,?_⟩
  have e:=r.length
  simp only [bv] at e
  omega
theorem bI.list_inj (I:bI X pins σ H s) (h:pJ X.K H a xs) (h':pJ X.K H a ys):xs=ys:=by
 obtain ⟨its,r,⟨o,n,e,_,_,d⟩,_⟩:=I.list h
 obtain ⟨its',r',⟨o',n',e',_,_,d'⟩,_⟩:=I.list h'
 rw [e] at e';cases e'
 rw [d] at d'
 injection d' with d1 _
 have:its=its':=by simpa using congrArg Array.toList d1
 subst this
 exact r.inj r'
theorem bI.tuple_inj (I:bI X pins σ H s) (h:m5 X.K H a xs) (h':m5 X.K H a ys):xs=ys:=by
 obtain ⟨its,r,⟨o,e,_,n,d⟩,_⟩:=I.tuple h
 obtain ⟨its',r',⟨o',e',_,n',d'⟩,_⟩:=I.tuple h'
 rw [e] at e';cases e'
 rw [d] at d'
 injection d' with d1 _
 have:its=its':=by simpa using congrArg Array.toList d1
 subst this
 exact r.inj r'
end
abbrev Cx.wish (X:Cx) (E:ae->ah->Prop):Cx:={ X with xe:=E }
abbrev Cx.nox (X:Cx):Cx:=X.wish fun _ _=>False
theorem Cx.Ok.wish {X:Cx} (ok:X.Ok) (E:ae->ah->Prop):(X.wish E).Ok :=
 ⟨ok.mod,ok.kind,ok.glob,ok.blt,ok.above,ok.inj,ok.has,ok.cab,ok.hd,ok.frames,ok.stk,ok.exf,ok.bs,ok.bsz,ok.noex,ok.exfs,ok.funs,ok.frf⟩
theorem Cx.Ok.unwish {X:Cx}{E:ae->ah->Prop} (ok:(X.wish E).Ok):X.Ok :=
 ⟨ok.mod,ok.kind,ok.glob,ok.blt,ok.above,ok.inj,ok.has,ok.cab,ok.hd,ok.frames,ok.stk,ok.exf,ok.bs,ok.bsz,ok.noex,ok.exfs,ok.funs,ok.frf⟩
section
variable {X:Cx}{pins:List (ai×Obj)}{σ:St}{H:Hp}{s:ah}{E:ae->ah->Prop}
theorem bI.wish (I:bI X pins σ H s) (E:ae->ah->Prop):bI (X.wish E) pins σ H s:=⟨I.ok.wish E,I.os,I.bare,I.base,I.loc,I.cell,I.free,I.freeC,I.pin,I.hok,I.len⟩
theorem bI.unwish (I:bI (X.wish E) pins σ H s):bI X pins σ H s:=⟨I.ok.unwish,I.os,I.bare,I.base,I.loc,I.cell,I.free,I.freeC,I.pin,I.hok,I.len⟩
theorem SP.unwish {D:ui}{f:Flow}{s':ah} (h:SP (X.wish E) pins D f s'):SP X pins D f s':=by
 cases f with
 | next=>obtain ⟨σ',H',I,q⟩:=h;exact ⟨σ',H',I.unwish,q⟩
 | brk=>obtain ⟨σ',H',I,q⟩:=h;exact ⟨σ',H',I.unwish,q⟩
 | cont=>obtain ⟨σ',H',I,q⟩:=h;exact ⟨σ',H',I.unwish,q⟩
 | ret u=>obtain ⟨v,σ',H',I,r,q⟩:=h;exact ⟨v,σ',H',I.unwish,r,q⟩
end
section
variable {X:Cx}{st:bH}{bP:List bH}{t u:TS}{e:aR}{te:TE}{pos:Pos}
def Xb:TS:=fun D σ H=>D.nx σ H
def Zp (t u:TS):TS:=fun D σ H=>t { D with nx:=u D } σ H
theorem Kz:FT X [] Xb:=fun _ _ σ H _ I h=>oF ⟨σ,H,I,h⟩
theorem ij (h1:PS X st t) (h2:FT X bP u):FT X (st::bP) (Zp t u):=by
 intro pins s σ H D I h
 refine D_ (fF (h1 pins s σ H { D with nx:=u D } I h) fun f s1 q=>?_)
 cases f with
 | next =>
  obtain ⟨σ',H',I',q⟩:=q
  exact h2 pins s1 σ' H' D I' q
 | ret v=>exact q
 | brk=>exact q
 | cont=>exact q
theorem vY (h1:PS X st t):FT X [st] t:=by
 intro pins s σ H D I h
 refine D_ (fF (h1 pins s σ H D I h) fun f s1 q=>?_)
 cases f with
 | next=>exact oF q
 | ret v=>exact q
 | brk=>exact q
 | cont=>exact q
theorem bI.quiet {pins:List (ai×Obj)}{σ:St}{H:Hp}{s:ah} (I:bI X pins σ H s):interactive X.env=false:=by simp [interactive,I.ok.kind]
def Xc (te:TE):TS:=fun D σ H=>te σ H fun _ H1=>D.nx σ H1
theorem qI (he:PE X e te) (hs:fh e none pos.line X.env=pure false:=by rfl):PS X (.Expr e pos) (Xc te):=by
 intro pins s σ H D I h
 exact wpAny_Expr_any (fF (he pins s σ H _ I h) fun v s1 h_7=>by obtain ⟨x,H1,I1,r1,q1⟩:=h_7;exact ⟨σ,H1,I1,q1⟩) I.quiet hs
def Xd (te:TE):TS:=fun D σ H=>te σ H D.rt
theorem xC (he:PE X e te):PS X (.Return (some e) pos) (Xd te):=by
 intro pins s σ H D I h
 exact wpAny_Return_some (fF (he pins s σ H _ I h) fun v s1 h_8=>by obtain ⟨x,H1,I1,r1,q1⟩:=h_8;exact ⟨x,σ,H1,I1,r1,q1⟩)
def Zq (c:TT) (t u:TS):TS:=fun D σ H=>c σ H fun b H1=>if b=true then t D σ H1 else u D σ H1
theorem Ug {c:aR}{a b:List bH}{tc:TT} (hc:PT X c tc) (ha:FT X a t) (hb:FT X b u):PS X (.If c a b pos) (Zq tc t u):=by
 intro pins s σ H D I h
 refine wpAny_If (fF (hc pins s σ H _ I h) fun d s1 ⟨H1,I1,q1⟩=>?_)
 cases d with
 | true=>exact ha pins s1 σ H1 D I1 q1
 | false=>exact hb pins s1 σ H1 D I1 q1
def Vq:TS:=fun _ _ _=>False
theorem pO {sts:List bH}:FT X sts Vq:=fun _ _ _ _ _ _ h=>h.elim
end
abbrev TG:=V->St->Hp->(St->Hp->Prop)->Prop
abbrev O5:=List V->St->Hp->(St->Hp->Prop)->Prop
def PG (X:Cx) (target:aR) (t:TG):Prop :=
 ∀ (pins:List (ai×Obj)) (s:ah) (σ:St) (H:Hp) (v:V) (u:ae) (Q:St->Hp->Prop),bI X pins σ H s->dW v u->t v σ H Q ->
  av (aG X.prog X.w) X.A (rX target X.env u) (fun _ s'=>SN X pins Q s') X.xe s
def Uh (X:Cx) (ts:List aR) (t:O5):Prop :=
 ∀ (pins:List (ai×Obj)) (s:ah) (σ:St) (H:Hp) (vs:List V) (us:List ae) (Q:St->Hp->Prop),bI X pins σ H s->du vs us->t vs σ H Q ->
  av (aG X.prog X.w) X.A (assignInOrder ((iR ts X.env).map (·.2)) us) (fun _ s'=>SN X pins Q s') X.xe s
section
variable {X:Cx}{pos:Pos}
def yB (i:Nat):TG:=fun v σ H Q=>Q (σ.set i (some v)) H
theorem eM {i:Nat}{x:Str} (hN:X.N.Nodup) (hi:X.N[i]?=some x) (hx:NY X.env.scope x) (hf:X.fn x=true\/X.env.scope.names.lookup x=some .local:=by first | exact .inl rfl | exact .inr rfl | assumption):PG X (.Name x pos) (yB i):=by
 intro pins s σ H v u Q I r h
 exact wpAny_assign_Name (Ae I hN hi hx r (fun s' I'=>⟨_,H,I',h⟩) hf)
def aq:O5:=fun vs σ H Q=>vs=[]/\Q σ H
inductive O6 (t:TG) (u:O5) (vs:List V) (σ:St) (H:Hp) (Q:St->Hp->Prop):Prop
 | mk (v r:_) (h0:vs=v::r) (h1:t v σ H fun σ' H'=>u r σ' H' Q):O6 t u vs σ H Q
def ac (t:TG) (u:O5):O5:=O6 t u
theorem E9:Uh X [] aq:=by
 intro pins s σ H vs us Q I r h
 obtain ⟨e,h⟩:=h
 subst e
 cases r
 exact assignInOrder_nil ⟨σ,H,I,h⟩
theorem sj {e:aR}{es:List aR}{t:TG}{u:O5} (h1:PG X e t) (h2:Uh X es u)
  (hs:(iR (e::es) X.env).map (·.2)=rX e X.env::(iR es X.env).map (·.2):=by rfl):Uh X (e::es) (ac t u):=by
 intro pins s σ H vs us Q I r h
 obtain ⟨v,vr,e1,h⟩:=h
 subst e1
 cases r with
 | cons r rr =>
  rw [hs]
  refine assignInOrder_cons (fF (h1 pins s σ H _ _ _ I r h) fun _ s1 ⟨σ1,H1,I1,q1⟩=>?_)
  exact h2 pins s1 σ1 H1 _ _ Q I1 rr q1
inductive Ui (K:a9) (n:Nat) (t:O5) (v:V) (σ:St) (H:Hp) (Q:St->Hp->Prop):Prop
 | mk (a xs:_) (h0:v=.ref a) (h1:m5 K H a xs) (h2:xs.length=n) (h3:t xs σ H Q):Ui K n t v σ H Q
def Vr (K:a9) (n:Nat) (t:O5):TG:=Ui K n t
theorem IH {es:List aR}{k:Nat}{t:O5}{n:Nat} (hc:X.calm=true) (h:Uh X es t)
  (hn:(iR es X.env).length=n:=by rfl) (hst:(iR es X.env).findIdx? (·.1)=none:=by rfl):PG X (.Tuple es k pos) (Vr X.K n t):=by
 intro pins s σ H v u Q I r hw
 obtain ⟨a,xs,e1,hq,hl,hw⟩:=hw
 subst e1
 cases r
 obtain ⟨its,rv,ht,hz⟩:=I.tuple hq
 refine assign_Tuple_tuple (I.ok.hd hc) ht (by simp [hn,<- hl,rv.length]) hst fun h' hx=>?_
 have I1:bI X pins σ H { s with heap:=h' }:=I.kept (t':=s.toks) fun b o e=>hx b o (aO (ax e)) e
 exact h pins _ σ H xs _ Q I1 (by simpa using rv) hw
def Xe (te:TE) (g:TG):TS:=fun D σ H=>te σ H fun x H1=>g x σ H1 D.nx
theorem O7 {tg e:aR}{te:TE}{g:TG} (he:PE X e te) (hg:PG X tg g) (hs:swapsWithSole [tg] e pos.line X.env=pure false:=by rfl) (hw:swappedStores [tg] e X.env=pure none:=by rfl)
  (h1:(iR [tg] X.env).map (·.2)=[rX tg X.env]:=by rfl):PS X (.Assign [tg] e pos) (Xe te g):=by
 intro pins s σ H D I h
 refine wpAny_Assign_stores (fF (he pins s σ H _ I h) fun v s1 ⟨x,H1,I1,r1,q1⟩=>?_) hs hw
 rw [h1]
 exact fF (hg pins s1 σ H1 x v _ I1 r1 q1) fun _ s2 q=>q
theorem uW {i:Nat}{x:Str}{e:aR}{te:TE}{pos':Pos} (hN:X.N.Nodup) (hi:X.N[i]?=some x) (hx:NY X.env.scope x) (he:PE X e te) (hs:fh e (some (.Name x pos')) pos.line X.env=pure false:=by rfl) (hf:X.fn x=true\/X.env.scope.names.lookup x=some .local:=by first | exact .inl rfl | exact .inr rfl | assumption) :
  PS X (.Assign [.Name x pos'] e pos) (Xe te (yB i)):=by
 intro pins s σ H D I h
 refine wpAny_Assign_Name (fF (he pins s σ H _ I h) fun v s1 ⟨y,H1,I1,r1,q1⟩=>?_) hs
 exact Ae I1 hN hi hx r1 (fun s2 I2=>⟨_,H1,I2,q1⟩) hf
end
section
variable {X:Cx}{pos:Pos}
end
structure It where
 go:Nat->Hp->Prop
 yld:Nat->Hp->V->Hp->Prop
 stop:Nat->Hp->Prop
structure sk (X:Cx) (pins:List (ai×Obj)) (H:Hp) (b:ai):Prop where
 f0:H b=none
 f1:b≠X.env.locals
 f2:b∉X.fs
 f3:b∈X.ex\/X.s₀.heap.objs.size<=b
 f4:∀ x c,X.env.cells.lookup x=some c->c≠b
 f5:∀ p∈X.pn++pins,p.1≠b
theorem bI.fpOk {X:Cx}{pins:List (ai×Obj)}{σ:St}{H H':Hp}{s:ah}{b:ai} (I:bI X pins σ H s) (hb:s.heap.objs.size<=b) (hn:H' b=none):sk X pins H' b:=by
 refine ⟨hn,iz (aF I.lt hb),I.nofs hb,.inr (c7 I.sz hb),fun x c e z=>?_,fun p hp z=>?_⟩
 ·obtain ⟨v,q⟩:=I.cell x c e
  exact absurd (aF q.lt (by rw [z];exact hb)) (cb _)
 ·exact absurd (aF (ax (I.pin p hp).1) (by rw [z];exact hb)) (cb _)
structure Ch (P:aH) (w:b9) (K:a9) (tg:aR) (J:It) (fp:List ai) (it:ai) (tn:Nat->br->Prop):Prop where
 mem:it∈fp
 obj:∀ i h,tn i h->∀ b∈fp,∃ o,h.get? b=some o/\∀ v,o.data≠.cell v
 keep:∀ i h h',tn i h->(∀ b∈fp,∀ o,h.get? b=some o->h'.get? b=some o)->tn i h'
 item:∀ (X:Cx),X.prog=P->X.w=w->X.K=K->X.calm=true->∀ (i:Nat) (pins:List (ai×Obj)) (s:ah) (σ:St) (H:Hp) (E:ae->ah->Prop),bI X pins σ H s->(∀ b∈fp,sk X pins H b)->tn i s.heap->J.go i H ->
  av (aG P w) X.A (rY (.ref it)) (fun r s1=>∃ u,r=some u /\
   av (aG P w) X.A (hJ tg (.ref it) u) (fun _ s2=>∃ x H',bI X pins σ H' s2/\dW x u/\J.yld i H x H'/\tn (i + 1) s2.heap/\∀ b∈fp,H' b=none) E s1) E s
 done:∀ (X:Cx),X.prog=P->X.w=w->X.K=K->X.calm=true->∀ (i:Nat) (pins:List (ai×Obj)) (s:ah) (σ:St) (H:Hp) (E:ae->ah->Prop),bI X pins σ H s->(∀ b∈fp,sk X pins H b)->tn i s.heap->J.stop i H ->
  av (aG P w) X.A (rY (.ref it)) (fun r s1=>r=none/\bI X pins σ H s1) E s
 self:∀ (A:aW) (i:Nat) (s:ah) (Q:ae->ah->Prop) (E:ae->ah->Prop),tn i s.heap->Q (.ref it) s->av (aG P w) A (E2 (.ref it)) Q E s
abbrev TI:=St->Hp->(It->Hp->Prop)->Prop
inductive Zr (X:Cx) (pins:List (ai×Obj)) (σ:St) (tg:aR) (R:It->Hp->Prop) (itv:ae) (s2:ah):Prop
 | mk (it:ai) (fp:List ai) (tn:Nat->br->Prop) (J:It) (H':Hp) (h0:itv=.ref it) (I:bI X pins σ H' s2) (T:Ch X.prog X.w X.K tg J fp it tn) (t0:tn 0 s2.heap) (f:∀ b∈fp,sk X pins H' b) (q:R J H'):Zr X pins σ tg R itv s2
inductive Zt (X:Cx) (pins:List (ai×Obj)) (tn:Nat->br->Prop) (fp:List ai) (W:Nat->Nat->St->Hp->Prop) (n:Nat) (s':ah):Prop
 | mk (i:Nat) (σ':St) (H':Hp) (I:bI X pins σ' H' s') (t:tn i s'.heap) (f:∀ b∈fp,H' b=none) (q:W i n σ' H'):Zt X pins tn fp W n s'
def PI (X:Cx) (tg iter:aR) (wi:TI):Prop :=
 ∀ (pins:List (ai×Obj)) (s:ah) (σ:St) (H:Hp) (R:It->Hp->Prop),bI X pins σ H s->wi σ H R ->
  av (aG X.prog X.w) X.A (cG iter X.env) (fun v s1=>av (aG X.prog X.w) X.A (E2 v) (Zr X pins σ tg R) X.xe s1) X.xe s
theorem KA {M : zC} {A : aW} {E : ae -> ah -> Prop} {s : ah} {tg : aR} {it : ai} {u : ae} {o : Obj} {n : String} {vs : Array ae} {Q : Unit -> ah -> Prop} (ho : s.heap.get? it = some o) (hc : o.cls = .type n) (hd : o.data = .fields vs)
    (hn : ["enumerate", "zip", "dict_itemiterator", "dict_reverseitemiterator", "odict_iterator", "itertools.zip_longest", "itertools.pairwise"].contains n = false) (hQ : Q () s) : av M A (hJ tg (.ref it) u) Q E s := by
  unfold hJ
  cases tg <;> first
    | exact aj hQ
    | (cases u <;> first
        | exact aj hQ
        | (refine aa (wpAny_load ho ?_)
           rw [hc, hd]
           show av M A (if (["enumerate", "zip", "dict_itemiterator", "dict_reverseitemiterator", "odict_iterator", "itertools.zip_longest", "itertools.pairwise"].contains n && vs[0]? == some (cE _)) = true then _ else _) Q E s
           rw [if_neg (by intro h; rw [hn, D4] at h; cases h)]
           exact aj hQ))
def Zu (K:a9) (a:ai):It :=
 ⟨fun i H=>∃ xs x,pJ K H a xs/\xs[i]?=some x,fun i H x H'=>H'=H/\∀ xs,pJ K H a xs->xs[i]?=some x,fun i H=>∃ xs,pJ K H a xs/\xs.length<=i⟩
def Zv (K:a9) (a:ai):It :=
 ⟨fun i H=>∃ xs x,m5 K H a xs/\xs[i]?=some x,fun i H x H'=>H'=H/\∀ xs,m5 K H a xs->xs[i]?=some x,fun i H=>∃ xs,m5 K H a xs/\xs.length<=i⟩
def Z3 (lo:Int) (n:Nat):It:=⟨fun i _=>i<n,fun i H x H'=>H'=H/\x=.int (lo + i),fun i _=>n<=i⟩
theorem M8 {P:aH}{w:b9}{K:a9}{tg:aR} (a it:ai):Ch P w K tg (Zu K a) [it] it (fun i h=>h.IsListIter it a i) where
 mem:=by simp
 obj:=fun i h st b hb=>by
  have e:b=it:=by simpa using hb
  subst e
  obtain ⟨o,e,c,d⟩:=st
  exact ⟨o,e,fun v z=>by rw [d] at z;cases z⟩
 keep:=fun i h h' st k=>st.at fun o e=>k it (by simp) o e
 item:=by
  intro X hP hw hK hc i pins s σ H E I hf st hg
  subst hP hw hK
  obtain ⟨xs,x,hq,hx⟩:=hg
  obtain ⟨its,rv,p,hz⟩:=I.list hq
  obtain ⟨u,hu,ru⟩:=rv.get hx
  obtain ⟨f0,f1,f2,f3,f4,f5⟩:=hf it (by simp)
  refine wpAny_pyNext_list_item st p.isList (x:=u) (by simpa using hu) fun h' st' sb=>?_
  have I1:bI X pins σ H { s with heap:=h' }:=I.turned (t':=s.toks) (fun b o hb e=>(sb.2 b hb).trans e) f0 f1 f3 f4 f5
  obtain ⟨o,e,c,d⟩:=id st'
  exact ⟨u,rfl,KA (s:={ s with heap:=h' }) e c d (by decide) ⟨x,H,I1,ru,⟨rfl,fun ys hy=>by rw [I.list_inj hy hq];exact hx⟩,st',fun b hb=>(hf b hb).1⟩⟩
 done:=by
  intro X hP hw hK hc i pins s σ H E I hf st hg
  subst hP hw hK
  obtain ⟨xs,hq,hx⟩:=hg
  obtain ⟨its,rv,p,hz⟩:=I.list hq
  obtain ⟨f0,f1,f2,f3,f4,f5⟩:=hf it (by simp)
  have hl:=rv.length
  exact wpAny_pyNext_list_end (I.ok.hd hc) st p.isList (by simp;omega) fun h' eb=>⟨rfl,I.turned (t':=s.toks) (fun b o hb e=>eb b o hb e) f0 f1 f3 f4 f5⟩
 self:=fun _ _ _ _ _ st h=>wpAny_pyIter_listiter st h
theorem II {P:aH}{w:b9}{K:a9}{tg:aR} (a it:ai):Ch P w K tg (Zv K a) [it] it (fun i h=>h.IsTupleIter it a i) where
 mem:=by simp
 obj:=fun i h st b hb=>by
  have e:b=it:=by simpa using hb
  subst e
  obtain ⟨o,e,c,d⟩:=st
  exact ⟨o,e,fun v z=>by rw [d] at z;cases z⟩
 keep:=fun i h h' st k=>st.at fun o e=>k it (by simp) o e
 item:=by
  intro X hP hw hK hc i pins s σ H E I hf st hg
  subst hP hw hK
  obtain ⟨xs,x,hq,hx⟩:=hg
  obtain ⟨its,rv,p,hz⟩:=I.tuple hq
  obtain ⟨u,hu,ru⟩:=rv.get hx
  obtain ⟨f0,f1,f2,f3,f4,f5⟩:=hf it (by simp)
  refine wpAny_pyNext_tuple_item st (show s.heap.IsTuple a its.toArray from p) (x:=u) (by simpa using hu) fun h' st' sb=>?_
  have I1:bI X pins σ H { s with heap:=h' }:=I.turned (t':=s.toks) (fun b o hb e=>(sb.2 b hb).trans e) f0 f1 f3 f4 f5
  obtain ⟨o,e,c,d⟩:=id st'
  exact ⟨u,rfl,KA (s:={ s with heap:=h' }) e c d (by decide) ⟨x,H,I1,ru,⟨rfl,fun ys hy=>by rw [I.tuple_inj hy hq];exact hx⟩,st',fun b hb=>(hf b hb).1⟩⟩
 done:=by
  intro X hP hw hK hc i pins s σ H E I hf st hg
  subst hP hw hK
  obtain ⟨xs,hq,hx⟩:=hg
  obtain ⟨its,rv,p,hz⟩:=I.tuple hq
  obtain ⟨f0,f1,f2,f3,f4,f5⟩:=hf it (by simp)
  have hl:=rv.length
  exact wpAny_pyNext_tuple_end (I.ok.hd hc) st (show s.heap.IsTuple a its.toArray from p) (by simp;omega) fun h' eb=>⟨rfl,I.turned (t':=s.toks) (fun b o hb e=>eb b o hb e) f0 f1 f3 f4 f5⟩
 self:=fun _ _ _ _ _ st h=>wpAny_pyIter_tupleiter st h
theorem IJ {P:aH}{w:b9}{K:a9}{tg:aR} (it:ai) (lo:Int) (n:Nat):Ch P w K tg (Z3 lo n) [it] it (fun i h=>IsRangeIter h it (lo + (i:Nat) * 1) ((n:Int) - (i:Nat)) 1) where
 mem:=by simp
 obj:=fun i h st b hb=>by
  have e:b=it:=by simpa using hb
  subst e
  exact ⟨_,st,fun v z=>by
   have z':Data.fields _=Data.cell v:=z
   cases z'⟩
 keep:=fun i h h' st k=>k it (by simp) _ st
 item:=by
  intro X hP hw hK hc i pins s σ H E I hf st hg
  subst hP hw hK
  obtain ⟨f0,f1,f2,f3,f4,f5⟩:=hf it (by simp)
  have W:=Walks.range (prog:=X.prog) (w:=X.w) (I.ok.hd hc) it lo 1 n
  refine W.item i s _ _ hg st fun v h' tk hv st' kk=>?_
  obtain ⟨t,rfl⟩:=hv
  have I1:bI X pins σ H { s with heap:=h',toks:=tk }:=I.turned (fun b o hb e=>kk b o (by simpa using hb) e) f0 f1 f3 f4 f5
  refine ⟨_,rfl,KA (s:={ s with heap:=h',toks:=tk }) (n:="range_iterator") st' rfl rfl (by decide) ⟨.int (lo + i),H,I1,⟨t,?_⟩,⟨rfl,rfl⟩,st',fun b hb=>(hf b hb).1⟩⟩
  rw [Int.mul_one]
 done:=by
  intro X hP hw hK hc i pins s σ H E I hf st hg
  subst hP hw hK
  obtain ⟨f0,f1,f2,f3,f4,f5⟩:=hf it (by simp)
  exact wpAny_pyNext_range_end (I.ok.hd hc) st (by have:n<=i:=hg;omega) fun h' eb=>⟨rfl,I.turned (t':=s.toks) (fun b o hb e=>eb b o hb e) f0 f1 f3 f4 f5⟩
 self:=fun _ _ _ _ _ st h=>wpAny_pyIter_rangeiter st h
end L2
namespace L2
open PySem PySem.Spec PyProof.Rows
section
variable {X:Cx}{tg:aR}
def Xg (K:a9) (tl:TE):TI:=fun σ H R=>tl σ H fun x H1=>∃ a,x=.ref a/\(∃ xs,pJ K H1 a xs)/\R (Zu K a) H1
def Zw (K:a9) (tl:TE):TI:=fun σ H R=>tl σ H fun x H1=>∃ a,x=.ref a/\(∃ xs,m5 K H1 a xs)/\R (Zv K a) H1
theorem zK {l:aR}{tl:TE} (hl:PE X l tl):PI X tg l (Xg X.K tl):=by
 intro pins s σ H R I h
 refine fF (hl pins s σ H _ I h) fun v s1 h_16=>?_
 obtain ⟨x,H1,I1,r1,q1⟩:=h_16
 obtain ⟨a,e,⟨xs,hq⟩,q⟩:=q1
 subst e
 cases r1
 obtain ⟨its,rv,p,hz⟩:=I1.list hq
 refine rP p.isList ?_
 refine ⟨s1.heap.objs.size,[s1.heap.objs.size],_,_,H1,rfl,I1.kept (t':=s1.toks) fun b o e=>ag _ e,M8 a _,⟨_,aE _ rfl,rfl,rfl⟩,fun b hb=>?_,q⟩
 have e:b=s1.heap.objs.size:=by simpa using hb
 subst e
 exact I1.fpOk (az _) (I1.hok.fresh (az _))
theorem O8 {l:aR}{tl:TE} (hl:PE X l tl):PI X tg l (Zw X.K tl):=by
 intro pins s σ H R I h
 refine fF (hl pins s σ H _ I h) fun v s1 h_17=>?_
 obtain ⟨x,H1,I1,r1,q1⟩:=h_17
 obtain ⟨a,e,⟨xs,hq⟩,q⟩:=q1
 subst e
 cases r1
 obtain ⟨its,rv,p,hz⟩:=I1.tuple hq
 refine gz (show s1.heap.IsTuple a its.toArray from p) ?_
 refine ⟨s1.heap.objs.size,[s1.heap.objs.size],_,_,H1,rfl,I1.kept (t':=s1.toks) fun b o e=>ag _ e,II a _,⟨_,aE _ rfl,rfl,rfl⟩,fun b hb=>?_,q⟩
 have e:b=s1.heap.objs.size:=by simpa using hb
 subst e
 exact I1.fpOk (az _) (I1.hok.fresh (az _))
theorem O9 {pins:List (ai×Obj)}{σ:St}{H:Hp}{s:ah}{R:It->Hp->Prop}{E:ae->ah->Prop}{lo hi:Int}{t u v:Tok}{tk:Nat} (I:bI X pins σ H s) (h1:-(2 ^ 62)<=lo) (h2:lo<2 ^ 62) (h3:-(2 ^ 62)<=hi) (h4:hi<2 ^ 62)
  (q:R (Z3 lo (hi - lo).toNat) H):av (aG X.prog X.w) X.A (E2 (.ref s.heap.objs.size)) (Zr X pins σ tg R) E { s with heap:=s.heap.push { cls:=.type "range",data:=.fields #[.int lo t,.int hi u,.int 1 v] },toks:=tk }:=by
 refine wpAny_pyIter_range (IsRange.new ..) (small_one h1 h2 h3 h4) ?_
 have I1:bI X pins σ H { s with heap:=s.heap.push { cls:=.type "range",data:=.fields #[.int lo t,.int hi u,.int 1 v] },toks:=tk }:=I.kept fun b o e=>ag _ e
 refine ⟨(s.heap.push { cls:=.type "range",data:=.fields #[.int lo t,.int hi u,.int 1 v] }).objs.size,[(s.heap.push { cls:=.type "range",data:=.fields #[.int lo t,.int hi u,.int 1 v] }).objs.size],_,_,H,rfl,
  I1.kept (t':=tk) fun b o e=>ag _ e,IJ _ lo (hi - lo).toNat,?_,fun b hb=>?_,q⟩
 ·have e1:lo + ((0:Nat):Int) * 1=lo:=by simp
  have e2:(((hi - lo).toNat:Nat):Int) - ((0:Nat):Int)=Builtin.Range.rangeSize lo hi 1:=by rw [rangeSize_one];split<;>omega
  show IsRangeIter _ _ (lo + ((0:Nat):Int) * 1) ((((hi - lo).toNat:Nat):Int) - ((0:Nat):Int)) 1
  rw [e1,e2]
  exact aE _ rfl
 ·have e:b=(s.heap.push { cls:=.type "range",data:=.fields #[.int lo t,.int hi u,.int 1 v] }).objs.size:=by simpa using hb
  subst e
  exact I1.fpOk (az _) (I1.hok.fresh (az _))
def Xh (ta:TA):TI:=fun σ H R=>ta σ H fun vs H1=>∃ j:Int,vs=[.int j]/\-(2 ^ 62)<=j/\j<2 ^ 62/\R (Z3 0 j.toNat) H1
theorem M9 {a:aR}{ta:TA}{p pos:Pos} (hg:Gl X "range") (hm:X.mg "range"=none) (ha:PA X [a] ta) (hs:aw [a] X.env=[(false,cG a X.env)]:=by rfl):PI X tg (.Call (.Name "range" p) [a] [] pos) (Xh ta):=by
 intro pins s σ H R I h
 refine Call_ (uV I hg hm boot_range (f9 (fF (ha pos pins s σ H _ I h) fun us s1 ⟨vs,H1,I1,r1,q1⟩=>?_) hs rfl))
 obtain ⟨j,e,q1,q2,q⟩:=q1
 subst e
 cases r1 with
 | cons r rr =>
  cases rr
  obtain ⟨t,rfl⟩:=r
  exact call_range_1 (O9 I1 (by omega) (by omega) q1 q2 (by simpa using q))
inductive Zx (g:TG) (tb:TS) (D:ui) (σ:St) (J:It) (H1:Hp):Prop
 | mk (W:Nat->Nat->St->Hp->Prop) (w0:∃ m,W 0 m σ H1) (turn:∀ i m σ H,W i m σ H ->
 (J.stop i H/\D.nx σ H)\/(J.go i H/\∃ N:St->Hp->Prop,(∀ σ' H',N σ' H'->∃ m',m'<m/\W (i + 1) m' σ' H')/\∀ x H',J.yld i H x H'->g x σ H' fun σ2 H2=>tb { D with nx:=N,ct:=N,bk:=D.nx } σ2 H2)):Zx g tb D σ J H1
def Zy (wi:TI) (g:TG) (tb:TS):TS:=fun D σ H=>wi σ H (Zx g tb D σ)
def xD (fp:List ai) (h:br):List (ai×Obj):=fp.filterMap fun b=>(h.get? b).map fun o=>(b,o)
theorem kX {fp:List ai}{h:br}{b:ai}{o:Obj} (hb:b∈fp) (e:h.get? b=some o):(b,o)∈xD fp h:=List.mem_filterMap.mpr ⟨b,hb,by rw [e];rfl⟩
theorem Ma {fp:List ai}{h:br}{p:ai×Obj} (hp:p∈xD fp h):p.1∈fp/\h.get? p.1=some p.2:=by
 obtain ⟨b,hb,e⟩:=List.mem_filterMap.mp hp
 cases q:h.get? b with
 | none=>rw [q] at e;cases e
 | some o =>
  rw [q] at e
  have e':(b,o)=p:=bL e
  subst e'
  exact ⟨hb,q⟩
theorem bI.pinned {pins:List (ai×Obj)}{σ:St}{H:Hp}{s:ah}{fp:List ai} (I:bI X pins σ H s) (hf:∀ b∈fp,sk X pins H b) (ho:∀ b∈fp,∃ o,s.heap.get? b=some o/\∀ v,o.data≠.cell v):bI X (pins++xD fp s.heap) σ H s :=
 I.pins_of fun p hp=>(List.mem_append.mp hp).elim (fun z=>I.pin p (aV _ z)) fun z=>by
  obtain ⟨hb,e⟩:=Ma z
  obtain ⟨f0,f1,f2,_⟩:=hf p.1 hb
  obtain ⟨o,e',d⟩:=ho p.1 hb
  rw [e] at e';cases e'
  exact ⟨e,f0,f1,f2,d⟩
theorem bI.unpinned {pins pl:List (ai×Obj)}{σ:St}{H:Hp}{s:ah} (I:bI X (pins++pl) σ H s):bI X pins σ H s:=I.pins_of fun p hp=>I.pin p (aV _ (gJ _ hp))
theorem Vs {iter:aR}{body:List bH}{wi:TI}{g:TG}{tb:TS}{pos:Pos} (hp:PassesOwn (aG X.prog X.w) X.A X.env X.xe) (hc:X.calm=true) (hi:PI X tg iter wi) (hg:PG X tg g) (hb:FT X body tb)
  (hs:∀ x,e6 iter X.env x=pure x:=by intro _;rfl):PS X (.For tg iter body [] pos) (Zy wi g tb):=by
 intro pins s σ H D I h
 refine wpAny_For (fF (hi pins s σ H _ I h) fun v s1 h1=>fF h1 fun itv s2 h2=>?_) hs
 obtain ⟨it,fp,tn,J,H2,e,I2,T,st2,f2,W,⟨m0,w0⟩,turn⟩:=h2
 subst e
 have stat:∀ {H':Hp},(∀ b∈fp,H' b=none)->∀ b∈fp,sk X pins H' b:=fun hn b hb=>⟨hn b hb,(f2 b hb).f1,(f2 b hb).f2,(f2 b hb).f3,(f2 b hb).f4,(f2 b hb).f5⟩
 refine codeAny_forLoop_any (Zt X pins tn fp W) ?_ m0 ⟨0,σ,H2,I2,st2,fun b hb=>(f2 b hb).1,w0⟩
 rintro n s3 ⟨i,σ3,H3,I3,st3,fr3,w3⟩
 rcases turn i n σ3 H3 w3 with ⟨stop,qn⟩ | ⟨go,N,hN,step⟩
 ·refine oG hp (fF (T.done X rfl rfl rfl hc i pins s3 σ3 H3 X.xe I3 (stat fr3) st3 stop) fun r s4 ⟨hr,I4⟩=>?_)
  subst hr
  exact oF ⟨σ3,H3,I4,qn⟩
 ·refine oG hp (fF (T.item X rfl rfl rfl hc i pins s3 σ3 H3 X.xe I3 (stat fr3) st3 go) fun r s4 ⟨u,hr,h4⟩=>?_)
  subst hr
  refine oG hp (fF h4 fun _ s5 ⟨x,H5,I5,r5,y5,st5,fr5⟩=>?_)
  have I5':=I5.pinned (stat fr5) (T.obj _ _ st5)
  refine oG hp (fF (hg _ s5 σ3 H5 x u _ I5' r5 (step x H5 y5)) fun _ s6 ⟨σ6,H6,I6,q6⟩=>?_)
  refine oG hp (fF (hb _ s6 σ6 H6 _ I6 q6) fun f s7 q7=>?_)
  have again:∀ {σ7:St}{H7:Hp},bI X (pins++xD fp s5.heap) σ7 H7 s7->N σ7 H7->∃ m,m<n/\Zt X pins tn fp W m s7:=fun {σ7 H7} I7 n7=>by
   obtain ⟨m',hm,w7⟩:=hN σ7 H7 n7
   refine ⟨m',hm,i + 1,σ7,H7,I7.unpinned,T.keep _ _ _ st5 fun b hb o e=>(I7.pin (b,o) (aV _ (aV _ (kX hb e)))).1,fun b hb=>?_,w7⟩
   obtain ⟨o,e,d⟩:=T.obj _ _ st5 b hb
   exact (I7.pin (b,o) (aV _ (aV _ (kX hb e)))).2.1
  cases f with
  | next=>obtain ⟨σ7,H7,I7,n7⟩:=q7;exact again I7 n7
  | cont=>obtain ⟨σ7,H7,I7,n7⟩:=q7;exact again I7 n7
  | brk=>obtain ⟨σ7,H7,I7,q7⟩:=q7;exact ⟨σ7,H7,I7.unpinned,q7⟩
  | ret v=>obtain ⟨x7,σ7,H7,I7,r7,q7⟩:=q7;exact ⟨x7,σ7,H7,I7.unpinned,r7,q7⟩
end
end L2
namespace L2
open PySem PySem.Spec PyProof.Rows
abbrev R2:=V->V->Hp->VK->Prop
def qB (X:Cx) (f:ae->ae->Sem ae) (r:R2):Prop :=
 ∀ (pins:List (ai×Obj)) (s:ah) (σ:St) (H:Hp) (x y:V) (v u:ae) (Q:VK),bI X pins σ H s->dW x v->dW y u->r x y H Q ->
  av (aG X.prog X.w) X.A (f v u) (EP X pins σ Q) X.xe s
def ZA (X:Cx) (f:ae->Sem ae) (r:V->Hp->VK->Prop):Prop :=
 ∀ (pins:List (ai×Obj)) (s:ah) (σ:St) (H:Hp) (x:V) (v:ae) (Q:VK),bI X pins σ H s->dW x v->r x H Q ->
  av (aG X.prog X.w) X.A (f v) (EP X pins σ Q) X.xe s
def kc (X:Cx) (f:ae) (r:List V->Hp->VK->Prop):Prop :=
 ∀ (pins:List (ai×Obj)) (s:ah) (σ:St) (H:Hp) (xs:List V) (us:List ae) (Q:VK),bI X pins σ H s->du xs us->r xs H Q ->
  av (aG X.prog X.w) X.A (call f us) (EP X pins σ Q) X.xe s
def Xi (r:R2) (ta tb:TE):TE:=fun σ H Q=>ta σ H fun x H1=>tb σ H1 fun y H2=>r x y H2 Q
def tUn (r:V->Hp->VK->Prop) (ta:TE):TE:=fun σ H Q=>ta σ H fun x H1=>r x H1 Q
inductive rII (C:Int->Int->Prop) (g:Int->Int->V) (x:V) (y:V) (H:Hp) (Q:VK):Prop
 | mk (i j:_) (h0:x=.int i) (h1:y=.int j) (h2:C i j) (h3:Q (g i j) H):rII C g x y H Q
def rI (C:Int->Int->Prop) (g:Int->Int->V):R2:=rII C g
inductive Xj (g:Int->Int->V) (x:V) (y:V) (H:Hp) (Q:VK):Prop
 | mk (i j:_) (h0:x=.int i) (h1:y=.int j) (h2:Q (g i j) H):Xj g x y H Q
def RX (g:Int->Int->V):R2:=Xj g
inductive rUI (g:Int->V) (x:V) (H:Hp) (Q:VK):Prop
 | mk (i:_) (h0:x=.int i) (h1:Q (g i) H):rUI g x H Q
def rU (g:Int->V):V->Hp->VK->Prop:=rUI g
section
variable {X:Cx}{a b c:aR}{ta tb tc:TE}{pos:Pos}
theorem Vt (ha:PE X a ta) (hb:PE X b tb) {pins:List (ai×Obj)}{s:ah}{σ:St}{H:Hp}{R:V->V->Hp->Prop} (I:bI X pins σ H s)
  (h:ta σ H fun x H1=>tb σ H1 fun y H2=>R x y H2) {Q:ae->ah->Prop}{f:ae->ae->Sem ae}
  (hf:∀ v u s2 x y H2,bI X pins σ H2 s2->dW x v->dW y u->R x y H2->av (aG X.prog X.w) X.A (f v u) Q X.xe s2) :
  av (aG X.prog X.w) X.A (cG a X.env) (fun v s₁=>av (aG X.prog X.w) X.A (cG b X.env) (fun u s₂=>av (aG X.prog X.w) X.A (f v u) Q X.xe s₂) X.xe s₁) X.xe s:=by
 refine fF (ha pins s σ H _ I h) fun v s1 h_19=>?_
 obtain ⟨x,H1,I1,r1,q1⟩:=h_19
 refine fF (hb pins s1 σ H1 _ I1 q1) fun u s2 h_20=>?_
 obtain ⟨y,H2,I2,r2,q2⟩:=h_20
 exact hf v u s2 x y H2 I2 r1 r2 q2
theorem Oa {op:Operator}{r:R2} (ho:qB X (eZ op) r) (ha:PE X a ta) (hb:PE X b tb):PE X (.BinOp a op b pos) (Xi r ta tb):=by
 intro pins s σ H Q I h
 exact wpAny_BinOp (Vt ha hb I h fun v u s2 x y H2 I2 rx ry q=>ho pins s2 σ H2 x y v u Q I2 rx ry q)
theorem Uj {op:UnaryOp}{r:V->Hp->VK->Prop} (ho:ZA X (unaryOp op) r) (ha:PE X a ta):PE X (.UnaryOp op a pos) (tUn r ta):=by
 intro pins s σ H Q I h
 exact UnaryOp_ (fF (ha pins s σ H _ I h) fun v s1 h_21=>by obtain ⟨x,H1,I1,r1,q1⟩:=h_21;exact ho pins s1 σ H1 x v Q I1 r1 q1)
theorem Z4 {f:ae->ae->Sem ae}{C:Int->Int->Prop}{g:Int->Int->Int}
  (rule:∀ (i j:Int) (t u:Tok) (s:ah) (Q:ae->ah->Prop) (E:ae->ah->Prop),C i j->Q (.int (g i j) s.toks) { s with toks:=s.toks + 1 }->av (aG X.prog X.w) X.A (f (.int i t) (.int j u)) Q E s) :
  qB X f (rI C fun i j=>.int (g i j)):=by
 intro pins s σ H x y v u Q I rx ry h
 obtain ⟨i,j,rfl,rfl,hc,q⟩:=h
 obtain ⟨t,rfl⟩:=rx
 obtain ⟨t',rfl⟩:=ry
 exact rule i j t t' s _ _ hc ⟨.int (g i j),H,I.tok _,⟨_,rfl⟩,q⟩
theorem Xk {f:ae->ae->Sem ae}{g:Int->Int->Int}
  (rule:∀ (i j:Int) (t u:Tok) (s:ah) (Q:ae->ah->Prop) (E:ae->ah->Prop),Q (.int (g i j) s.toks) { s with toks:=s.toks + 1 }->av (aG X.prog X.w) X.A (f (.int i t) (.int j u)) Q E s) :
  qB X f (RX fun i j=>.int (g i j)):=by
 intro pins s σ H x y v u Q I rx ry h
 obtain ⟨i,j,rfl,rfl,q⟩:=h
 obtain ⟨t,rfl⟩:=rx
 obtain ⟨t',rfl⟩:=ry
 exact rule i j t t' s _ _ ⟨.int (g i j),H,I.tok _,⟨_,rfl⟩,q⟩
theorem Vu {f:ae->ae->Sem ae}{g:Int->Int->Bool}
  (rule:∀ (i j:Int) (t u:Tok) (s:ah) (Q:ae->ah->Prop) (E:ae->ah->Prop),Q (.bool (g i j)) s->av (aG X.prog X.w) X.A (f (.int i t) (.int j u)) Q E s) :
  qB X f (RX fun i j=>.bl (g i j)):=by
 intro pins s σ H x y v u Q I rx ry h
 obtain ⟨i,j,rfl,rfl,q⟩:=h
 obtain ⟨t,rfl⟩:=rx
 obtain ⟨t',rfl⟩:=ry
 exact rule i j t t' s _ _ ⟨.bl (g i j),H,I,rfl,q⟩
def ZB (i j:Int):Prop:=0<j/\j<1073741824
def ZC (i j:Int):Prop:=0<=j/\j<=1000000/\i.natAbs<2 ^ 64
def Vv (i j:Int):Prop:=(-(2 ^ 64)<i/\i<2 ^ 64)\/(-(2 ^ 64)<j/\j<2 ^ 64)
theorem Vv.ok {i j:Int} (h:Vv i j):IntMulOk i j:=by
 rcases h with ⟨h1,h2⟩ | ⟨h1,h2⟩
 ·exact .of_left (intBits_le_64 h1 h2)
 ·exact .of_right (intBits_le_64 h1 h2)
theorem Vw:qB X (eZ .Add) (RX fun i j=>.int (i + j)):=Xk fun _ _ _ _ _ _ _ q=>add_int q
theorem Vx:qB X (eZ .Sub) (RX fun i j=>.int (i - j)):=Xk fun _ _ _ _ _ _ _ q=>sub_int q
theorem Vy:qB X (eZ .Mult) (rI Vv fun i j=>.int (i * j)):=Z4 fun _ _ _ _ _ _ _ hc q=>mul_int q hc.ok
theorem RY:qB X (eZ .FloorDiv) (rI ZB fun i j=>.int (i / j)):=Z4 fun i j _ _ _ _ _ hc q=>by
 have h1:(0:Int)<j:=hc.1
 have h2:j<1073741824:=hc.2
 exact floordiv_int (by omega) (by rw [Int.fdiv_eq_ediv_of_nonneg i (by omega)];exact q) (.inl (PyProof.noPylong_small (by omega)))
theorem Vz:qB X (eZ .Mod) (rI (fun _ j=>0<j) fun i j=>.int (i % j)):=Z4 fun i j _ _ _ _ _ hc q=>by
 have h1:(0:Int)<j:=hc
 exact mod_int' (by omega) (by rw [Int.fmod_eq_emod_of_nonneg i (by omega)];exact q)
theorem VA:qB X (eZ .Pow) (rI ZC fun i j=>.int (i ^ j.toNat)):=Z4 fun _ _ _ _ _ _ _ hc q=>pow_int_small hc.1 hc.2.1 hc.2.2 q
theorem unI {f:ae->Sem ae}{g:Int->Int}
  (rule:∀ (i:Int) (t:Tok) (s:ah) (Q:ae->ah->Prop) (E:ae->ah->Prop),Q (.int (g i) s.toks) { s with toks:=s.toks + 1 }->av (aG X.prog X.w) X.A (f (.int i t)) Q E s) :
  ZA X f (rU fun i=>.int (g i)):=by
 intro pins s σ H x v Q I rx h
 obtain ⟨i,rfl,q⟩:=h
 obtain ⟨t,rfl⟩:=rx
 exact rule i t s _ _ ⟨.int (g i),H,I.tok _,⟨_,rfl⟩,q⟩
theorem Ob:ZA X (unaryOp .USub) (rU fun i=>.int (-i)):=unI fun _ _ _ _ _ q=>neg_int q
end
def ZD:V->V->Bool
 | .non,.non=>true | .non,.int _=>true | .int _,.non=>true | .non,.bl _=>true | .bl _,.non=>true | .non,.str _=>true | .str _,.non=>true
 | .int _,.int _=>true | .bl _,.bl _=>true | .str _,.str _=>true | .byt _,.byt _=>true
 | .int _,.str _=>true | .str _,.int _=>true | .bl _,.str _=>true | .str _,.bl _=>true
 | _,_=>false
def rNe:R2:=fun x y H Q=>ZD x y=true/\Q (.bl (!decide (x=y))) H
theorem RZ {i j:Int}:decide (V.int i=V.int j)=(i == j):=by
 rw [iG]
 simp
theorem VB {i j:Bool}:decide (V.bl i=V.bl j)=(i == j):=by
 rw [iG]
 simp
theorem R_ {i j:Str}:decide (V.str i=V.str j)=(i == j):=by
 rw [iG]
 simp
theorem S0 {i j:Array UInt8}:decide (V.byt i=V.byt j)=(i.toList == j.toList):=by
 rw [iG]
 cases i
 cases j
 simp
section
variable {X:Cx}{a b c:aR}{ta tb tc:TE}{pos:Pos}
theorem iC {pins:List (ai×Obj)}{σ:St}{H:Hp}{s:ah}{Q:VK}{k k':Bool} (I:bI X pins σ H s) (q:Q (.bl k) H) (e:k=k'):EP X pins σ Q (.bool k') s:=by
 subst e
 exact ⟨.bl k,H,I,rfl,q⟩
theorem Xl:qB X (bX .NotEq) rNe:=by
 intro pins s σ H x y v u Q I rx ry h
 obtain ⟨hs,q⟩:=h
 cases x with
 | non =>
  cases rx
  cases y with
  | non=>cases ry;exact PySem.EqNone.ne_none_none (iC I q (by simp))
  | bl j=>cases ry;exact PySem.EqNone.ne_none_bool (iC I q (by simp))
  | int j=>obtain ⟨t',rfl⟩:=ry;exact PySem.EqNone.ne_none_int (iC I q (by simp))
  | str j=>obtain ⟨t',rfl⟩:=ry;exact PySem.EqNone.ne_none_str (iC I q (by simp))
  | _=>exact absurd (show false=true from hs) ba
 | bl i =>
  cases rx
  cases y with
  | non=>cases ry;exact PySem.EqNone.ne_bool_none (iC I q (by simp))
  | bl j=>cases ry;exact ne_bool (iC I q (congrArg not VB))
  | str j=>obtain ⟨t',rfl⟩:=ry;exact PySem.EqMixed.ne_bool_str (iC I q (by simp))
  | _=>exact absurd (show false=true from hs) ba
 | int i =>
  obtain ⟨t,rfl⟩:=rx
  cases y with
  | non=>cases ry;exact PySem.EqNone.ne_int_none (iC I q (by simp))
  | int j=>obtain ⟨t',rfl⟩:=ry;exact ne_int (iC I q (congrArg not RZ))
  | str j=>obtain ⟨t',rfl⟩:=ry;exact PySem.EqMixed.ne_int_str (iC I q (by simp))
  | _=>exact absurd (show false=true from hs) ba
 | str i =>
  obtain ⟨t,rfl⟩:=rx
  cases y with
  | non=>cases ry;exact PySem.EqNone.ne_str_none (iC I q (by simp))
  | bl j=>cases ry;exact PySem.EqMixed.ne_str_bool (iC I q (by simp))
  | int j=>obtain ⟨t',rfl⟩:=ry;exact PySem.EqMixed.ne_str_int (iC I q (by simp))
  | str j=>obtain ⟨t',rfl⟩:=ry;exact ne_str (iC I q (congrArg not R_))
  | _=>exact absurd (show false=true from hs) ba
 | byt i =>
  obtain ⟨t,rfl⟩:=rx
  cases y with
  | byt j=>obtain ⟨t',rfl⟩:=ry;exact PySem.W.ne_bytes (iC I q (congrArg not S0))
  | _=>exact absurd (show false=true from hs) ba
 | _=>cases y<;>exact absurd (show false=true from hs) ba
theorem Xm:qB X (bX .Lt) (RX fun i j=>.bl (decide (i<j))):=Vu fun _ _ _ _ _ _ _ q=>lt_int q
theorem Xn:qB X (bX .LtE) (RX fun i j=>.bl (decide (i<=j))):=Vu fun _ _ _ _ _ _ _ q=>le_int q
theorem Xo:qB X (bX .Gt) (RX fun i j=>.bl (decide (j<i))):=Vu fun _ _ _ _ _ _ _ q=>gt_int q
theorem Mb:qB X (bX .Lt) (fun x y H Q=>∃ i j,x=.str i/\y=.str j/\Q (.bl (decide (i.cps.toList<j.cps.toList))) H):=by
 intro pins s σ H x y v u Q I rx ry h
 obtain ⟨i,j,rfl,rfl,q⟩:=h
 obtain ⟨t,rfl⟩:=rx
 obtain ⟨t',rfl⟩:=ry
 exact lt_str (iC I q rfl)
theorem S1:qB X (bX .IsNot) (fun x y H Q=>y=.non/\Q (.bl (!decide (x=.non))) H):=by
 intro pins s σ H x y v u Q I rx ry h
 obtain ⟨rfl,q⟩:=h
 cases ry
 refine isnot_none_gen (iC I q ?_)
 cases x<;>first
  | (cases rx;rfl)
  | (obtain ⟨t,rfl⟩:=rx;rfl)
theorem IK (b:aR) {op:zD} (h:op≠.In:=by decide) (h2:op≠.NotIn:=by decide):h_ op b=false:=by
 have e1:(op == CmpOp.In)=false:=by cases op<;>first | rfl | exact absurd rfl h
 have e2:(op == CmpOp.NotIn)=false:=by cases op<;>first | rfl | exact absurd rfl h2
 cases b<;>simp [h_,e1,e2]
theorem S2 {op:zD}{r:R2} (ho:qB X (bX op) r) (ha:PE X a ta) (hb:PE X b tb) (hm:h_ op b=false):PE X (.Compare a [op] [b] pos) (Xi r ta tb):=by
 intro pins s σ H Q I h
 exact wpAny_Compare1 (Vt ha hb I h fun v u s2 x y H2 I2 rx ry q=>ho pins s2 σ H2 x y v u Q I2 rx ry q) hm
def Uk (t:TE):TT:=fun σ H Q=>t σ H fun x H'=>∃ k,x=.bl k/\Q k H'
theorem KB {op:zD}{r:R2} (ho:qB X (bX op) r) (ha:PE X a ta) (hb:PE X b tb) (hm:h_ op b=false):PT X (.Compare a [op] [b] pos) (Uk (Xi r ta tb)):=by
 intro pins s σ H Q I h
 refine Rl (fF (ha pins s σ H _ I h) fun v s1 ⟨x,H1,I1,r1,q1⟩=>fF (hb pins s1 σ H1 _ I1 q1) fun u s2 ⟨y,H2,I2,r2,q2⟩ =>
  fF (ho pins s2 σ H2 x y v u _ I2 r1 r2 q2) fun c s3 ⟨z,H3,I3,r3,k,e,q3⟩=>?_) hm
 subst e
 cases r3
 exact eN ⟨H3,I3,q3⟩
def IL (r r':R2) (ta tb tc:TE):TE:=fun σ H Q=>ta σ H fun x H1=>tb σ H1 fun y H2=>r x y H2 fun z H3=>∃ k,z=.bl k /\
 (if k=true then tc σ H3 fun w' H4=>r' y w' H4 Q else Q (.bl false) H3)
theorem Oc {op op':zD}{r r':R2} (ho:qB X (bX op) r) (ho':qB X (bX op') r') (ha:PE X a ta) (hb:PE X b tb) (hc:PE X c tc)
  (hm:Nx [op,op'] [b,c]=false:=by with_unfolding_all rfl):PE X (.Compare a [op,op'] [b,c] pos) (IL r r' ta tb tc):=by
 intro pins s σ H Q I h
 refine Compare_chain (fF (ha pins s σ H _ I h) fun v s1 ⟨x,H1,I1,r1,q1⟩=>chain_link (fF (hb pins s1 σ H1 _ I1 q1) fun u s2 ⟨y,H2,I2,r2,q2⟩ =>
  fF (ho pins s2 σ H2 x y v u _ I2 r1 r2 q2) fun d s3 ⟨z,H3,I3,r3,k,e,q3⟩=>?_)) hm
 subst e
 cases r3
 refine eN ?_
 cases k with
 | false=>exact ite_ff ⟨.bl false,H3,I3,rfl,q3⟩
 | true=>exact ite_tt (chain_last (fF (hc pins s3 σ H3 _ I3 q3) fun w' s4 h_22=>by obtain ⟨z',H4,I4,r4,q4⟩:=h_22;exact ho' pins s4 σ H4 y z' u w' Q I4 r2 r4 q4))
theorem Od {op op':zD}{r r':R2} (ho:qB X (bX op) r) (ho':qB X (bX op') r') (ha:PE X a ta) (hb:PE X b tb) (hc:PE X c tc)
  (hm:Nx [op,op'] [b,c]=false:=by with_unfolding_all rfl):PT X (.Compare a [op,op'] [b,c] pos) (Uk (IL r r' ta tb tc)):=by
 intro pins s σ H Q I h
 refine isTrue_chain (fF (ha pins s σ H _ I h) fun v s1 ⟨x,H1,I1,r1,q1⟩=>test_link (fF (hb pins s1 σ H1 _ I1 q1) fun u s2 ⟨y,H2,I2,r2,q2⟩ =>
  fF (ho pins s2 σ H2 x y v u _ I2 r1 r2 q2) fun d s3 ⟨z,H3,I3,r3,k,e,q3⟩=>?_)) hm
 subst e
 cases r3
 refine eN ?_
 cases k with
 | false =>
  obtain ⟨k',e',q'⟩:=q3
  cases e'
  exact ite_ff ⟨H3,I3,q'⟩
 | true =>
  refine ite_tt (test_last (fF (hc pins s3 σ H3 _ I3 q3) fun w' s4 ⟨z',H4,I4,r4,q4⟩=>fF (ho' pins s4 σ H4 y z' u w' _ I4 r2 r4 q4) fun d' s5 ⟨z2,H5,I5,r5,k2,e2,q5⟩=>?_))
  subst e2
  cases r5
  exact eN ⟨H5,I5,q5⟩
theorem Ag:(sizeLine:Nat)<2 ^ 63:=by rw [FO];decide
theorem IM:qB X (eZ .Add) (fun x y H Q=>∃ i j,x=.str i/\y=.str j/\i.length + j.length<=sizeLine/\Q (.str (i++j)) H):=by
 intro pins s σ H x y v u Q I rx ry h
 obtain ⟨i,j,rfl,rfl,hz,q⟩:=h
 obtain ⟨t,rfl⟩:=rx
 obtain ⟨t',rfl⟩:=ry
 exact add_str (fun t' tk=>⟨.str (i++j),H,I.tok _,⟨_,rfl⟩,q⟩) hz
theorem ms {x:V}{us:List ae} (r:du [x] us):∃ u,us=[u]/\dW x u:=by
 cases r with
 | cons r1 r2=>cases r2;exact ⟨_,rfl,r1⟩
theorem Oe {x y:V}{us:List ae} (r:du [x,y] us):∃ u w',us=[u,w']/\dW x u/\dW y w':=by
 cases r with
 | cons r1 r2 =>
  cases r2 with
  | cons r3 r4=>cases r4;exact ⟨_,_,rfl,r1,r3⟩
end
end L2
namespace L2
open PySem PySem.Spec PyProof.Rows
structure VC (h:br) (x dx C:ai) (mA:Str->Option ae):Prop where
 obj:h.get? x=some (yV C dx)
 ns:h.Ns1 dx mA
 ne:dx≠x
theorem Mc {h:br}{dx:ai}{mA:Str->Option ae} (n:h.Ns1 dx mA):∃ od,h.get? dx=some od/\∀ name,A1 name od=some (mA name):=by
 obtain ⟨o,es,ep,ho,hd,hk,_,hm⟩:=n
 refine ⟨o,ho,fun name=>?_⟩
 have e:=hm name
 unfold nsFind findBy at e
 rw [<- LQ] at e
 unfold A1
 rw [hd]
 dsimp only
 split
 ·rename_i y q
  rw [q] at e
  exact congrArg some e
 ·rename_i q
  rw [q] at e
  have a:es.toList.any (·.refKey)=false:=by
   rw [List.any_eq_false]
   intro y hy
   obtain ⟨z,t,hkey⟩:=hk y (Array.mem_toList_iff.mp hy)
   simp [DictEntry.refKey,hkey]
  have a':¬ es.toList.any (·.refKey)=true:=by rw [a];exact ba
  rw [if_neg a']
  exact congrArg some e
theorem VC.look {h:br}{x dx C:ai}{mA:Str->Option ae} (I:VC h x dx C mA):∃ od,PySem.W.InstAt h x (yV C dx) C (some od)/\∀ name,A1 name od=some (mA name) :=
 let ⟨od,ho,hl⟩:=Mc I.ns
 ⟨od,⟨I.obj,rfl,rfl,ho⟩,hl⟩
section
variable {prog:aH}{w:b9}{A:aW}{E:ae->ah->Prop}{s:ah}{K:a9}{x dx C f:ai}{mA:Str->Option ae}{name:Str}{v:ae}
end
theorem Ad.some_of {v:V}{o:Option ae} (r:Ad (some v) o):∃ u,o=some u/\dW v u:=by
 cases o with
 | none=>exact (show False from r).elim
 | some u=>exact ⟨u,rfl,r⟩
section
variable {P:aH}{w:b9}{H H':Hp}{h h':br}{a C dx:ai}{fs fs':List (Str×V)}
theorem S3 (hok:rW P w H h) (e:H a=some (.ins C dx fs)):∃ mA,VC h a dx C mA/\(∀ f,Ad (fs.lookup f) (mA f))/\PySem.Within mA (fs.map (·.1))/\fs.length<=1000/\H dx=some (.own a):=by
 obtain ⟨d,z,ne,ob,mA,n,r,q⟩:=(show eB P w H h a (.ins C dx fs) from hok a _ e)
 exact ⟨mA,⟨ob,n,ne⟩,r,q,z,d⟩
end
structure ZE (K:a9) (C:ai):Prop where
 pg:LR K C Str.empty=true
 hd:PySem.W.hasDictIn K C=true
 po:PySem.W.plainOver K C=true
 sa:gT K (.ref C) "__setattr__"=some (some (.builtin "object.__setattr__"))
theorem ZE.get {K:a9}{C:ai} (c:ZE K C) (f:Str):LR K C f=true:=c.pg
section
variable {X:Cx}{pins:List (ai×Obj)}{σ:St}{H:Hp}{s:ah}{a C dx:ai}{fs:List (Str×V)}{f:Str}{v:V}{A:aW}{E:ae->ah->Prop}
end
section
variable {X:Cx}{o e value:aR}{f:Str}{pos pos' tpos:Pos}{ta tv:TE}
end
section
variable {X:Cx}{pins:List (ai×Obj)}{σ:St}{H:Hp}{s:ah}{A:aW}{E:ae->ah->Prop}{Q:ae->ah->Prop}{c:ae}{b:Bool}
inductive xE (K:a9) (H:Hp):V->ae->Prop where
 | non:xE K H .non (.type "NoneType")
 | bl (x:Bool):xE K H (.bl x) (.type "bool")
 | int (i:Int):xE K H (.int i) (.type "int")
 | str (x:Str):xE K H (.str x) (.type "str")
 | flt (x:UInt64):xE K H (.flt x) (.type "float")
 | lst {a:ai}{xs:List V} (e:H a=some (.lst xs)):xE K H (.ref a) (.type "list")
 | frz {a:ai}{o:Obj}{xs:List V} (e:H a=some (.frz o (.lst xs))):xE K H (.ref a) (.type "list")
 | tup {a:ai}{xs:List V} (e:H a=some (.tup xs)):xE K H (.ref a) (.type "tuple")
 | dK {a:ai}{kvs:List (gy×V)} (e:H a=some (.dK kvs)):xE K H (.ref a) (.type "dict")
 | dT {a:ai}{kvs:List (List gy×V)} (e:H a=some (.dT kvs)):xE K H (.ref a) (.type "dict")
 | ins {a C dx:ai}{fs:List (Str×V)} (e:H a=some (.ins C dx fs)) (cl:ZE K C) (ha:gT K (.ref C) "__class__"=some (some (.builtin "object.__class__")))
   (hn:vQ K (.builtin "object.__class__") "__get__"=some (some (.builtin "getset_descriptor.__get__"))) (htk:yX K (.builtin "object.__class__")=some true)
   (hm:cu K C (.type "object")=some true):xE K H (.ref a) (.ref C)
theorem pP {x:V}{u t:ae} (I:bI X pins σ H s) (rx:dW x u) (ty:xE X.K H x t) (e:dO X.K t c=some b) (h:∀ tk,Q (.bool b) { s with toks:=tk }) :
  av (aG X.prog X.w) A (call (.builtin "isinstance") [u,c]) Q E s:=by
 cases ty with
 | non=>cases (show u=ef from rx);exact cD PySem.W.kitx_none I.kIn jZ e (fun z=>nomatch z) h
 | bl y=>cases (show u=j3 y from rx);exact cD PySem.W.kitx_bool I.kIn jZ e (fun z=>nomatch z) h
 | int i=>obtain ⟨t,q⟩:=(show ∃ t,u=qC i t from rx);cases q;exact cD PySem.W.kitx_int I.kIn jZ e (fun z=>nomatch z) h
 | str y=>obtain ⟨t,q⟩:=(show ∃ t,u=lO y t from rx);cases q;exact cD PySem.W.kitx_str I.kIn jZ e (fun z=>nomatch z) h
 | flt y=>obtain ⟨t,q⟩:=(show ∃ t,u=Value.float y t from rx);cases q;exact cD PySem.W.kitx_float I.kIn jZ e (fun z=>nomatch z) h
 | @lst a xs ea =>
  cases (show u=c6 a from rx)
  obtain ⟨_,_,n,_,h1⟩:=(show eB X.prog X.w H s.heap a (.lst xs) from I.hok a _ ea)
  exact cD vR I.kIn ⟨_,h1,rfl⟩ e (fun z=>nomatch z) h
 | @frz a ob xs ea =>
  cases (show u=c6 a from rx)
  obtain ⟨_,_,_,n,_,h1⟩:=(show eB X.prog X.w H s.heap a (.frz ob (.lst xs)) from I.hok a _ ea)
  exact cD vR I.kIn ⟨_,h1,rfl⟩ e (fun z=>nomatch z) h
 | @tup a xs ea =>
  cases (show u=c6 a from rx)
  obtain ⟨_,_,_,p⟩:=(show eB X.prog X.w H s.heap a (.tup xs) from I.hok a _ ea)
  obtain ⟨o,h1,h2,_⟩:=p
  exact cD Ir I.kIn ⟨o,h1,h2⟩ e (fun z=>nomatch z) h
 | @dK a kvs ea =>
  cases (show u=c6 a from rx)
  obtain ⟨_,_,vs,_,p⟩:=(show eB X.prog X.w H s.heap a (.dK kvs) from I.hok a _ ea)
  obtain ⟨o,es,ep,h1,h2,_⟩:=p
  exact cD Kv I.kIn ⟨o,h1,h2.1⟩ e (fun z=>nomatch z) h
 | @dT a kvs ea =>
  cases (show u=c6 a from rx)
  obtain ⟨_,_,xs,_,o,es,ep,h1,h2,_⟩:=(show eB X.prog X.w H s.heap a (.dT kvs) from I.hok a _ ea)
  exact cD Kv I.kIn ⟨o,h1,h2.1⟩ e (fun z=>nomatch z) h
 | @ins a C dx fs ea cl ha hn htk hm =>
  cases (show u=c6 a from rx)
  obtain ⟨mA,O,_⟩:=S3 I.hok ea
  obtain ⟨od,J,_⟩:=O.look
  exact cD (PySem.W.kitx_own (cl.get _) cl.hd ha hn htk hm) I.kIn J e (fun z=>nomatch z) h
end
end L2
namespace L2
open PySem PySem.Spec PyProof.Rows
structure jH (k:Nat) (A:aW):Prop where
 hd:A.handled=none
 dp:A.depth + 3 * k + 5<jE
 un:A.units + 16 * k + 200<ue
theorem jH.mono {j k:Nat}{A:aW} (r:jH k A) (h:j<=k):jH j A:=⟨r.hd,by have:=r.dp;omega,by have:=r.un;omega⟩
theorem jH.deeper {k:Nat}{A:aW} (r:jH (k + 1) A) (env:Env):jH k (A.deeper env) :=
 ⟨r.hd,by have:=r.dp;show A.depth + 1 + 3 * k + 5<_;omega,by have:=r.un;show A.units + 3 + 16 * k + 200<_;omega⟩
theorem jH.depth {k:Nat}{A:aW} (r:jH k A):A.depth<jE:=by have:=r.dp;omega
theorem jH.units {k:Nat}{A:aW} (r:jH k A):A.units + 64<ue:=by have:=r.un;omega
def Of:TA:=fun _ H Q=>Q [] H
def G0 (ta:TE) (tr:TA):TA:=fun σ H Q=>ta σ H fun x H1=>tr σ H1 fun xs H2=>Q (x::xs) H2
section
variable {X:Cx}{e:aR}{es:List aR}{te:TE}{t:TA}{pos:Pos}
theorem eL:PA X [] Of:=fun _ _ _ _ H Q I h=>Calls.spliced_nil ⟨[],H,I,.nil,h⟩
theorem c9 (ha:PE X e te) (hr:PA X es t) (hs:aw (e::es) X.env=(false,cG e X.env)::aw es X.env:=by rfl):PA X (e::es) (G0 te t):=by
 intro pos pins s σ H Q I h
 rw [hs]
 show av _ _ (spliced ((false,cG e X.env)::dL pos (aw es X.env))) _ _ s
 refine Calls.spliced_cons (fF (ha pins s σ H _ I h) fun u s1 ⟨x,H1,I1,r1,q1⟩=>?_)
 exact fF (hr pos pins s1 σ H1 _ I1 q1) fun us s2 h_25=>by obtain ⟨xs,H2,I2,r2,q2⟩:=h_25;exact ⟨x::xs,H2,I2,.cons r1 r2,q2⟩
def ZF (t:TA):TE:=fun σ H Q=>t σ H fun xs H1=>xs.length<=sizeLine/\∀ p,H1 p=none->Q (.ref p) (upd H1 p (.tup xs))
def ZG (t:TA):TE:=fun σ H Q=>t σ H fun xs H1=>xs.length<=sizeLine/\∀ p,H1 p=none->Q (.ref p) (upd H1 p (.lst xs))
theorem Og {x1} (h:PA X es t):PE X (.Tuple es x1 pos) (ZF t):=by
 intro pins s σ H Q I hq
 refine wpAny_Tuple_spliced (fF (h pos pins s σ H _ I hq) fun us s1 ⟨xs,H1,I1,r,z,q⟩=>⟨by rw [<- r.length];exact z,?_⟩)
 have hf:H1 s1.heap.objs.size=none:=I1.hok.fresh (az _)
 refine ⟨.ref s1.heap.objs.size,upd H1 s1.heap.objs.size (.tup xs),I1.laid (t':=s1.toks) (fun b u e=>ag _ e) (az _) ?_,rfl,q _ hf⟩
 exact ⟨z,us,r,⟨_,aE _ rfl,rfl,_,rfl⟩⟩
theorem jk (h:PA X es t):PE X (.List es pos) (ZG t):=by
 intro pins s σ H Q I hq
 refine wpAny_List_spliced (fF (h pos pins s σ H _ I hq) fun us s1 ⟨xs,H1,I1,r,z,q⟩=>⟨by rw [<- r.length];exact z,?_⟩)
 have hf:H1 s1.heap.objs.size=none:=I1.hok.fresh (az _)
 refine ⟨.ref s1.heap.objs.size,upd H1 s1.heap.objs.size (.lst xs),I1.laid (t':=s1.toks) (fun b u e=>ag _ e) (az _) ?_,rfl,q _ hf⟩
 exact ⟨z,us,0,r,aE _ rfl⟩
end
abbrev Sp:=List V->Hp->VK->XK->Prop
abbrev IN:=List Env->Hp->ah->XK->ae->ah->Prop
structure IP (P:aH) (w:b9) (K:a9) (mg:Str->Option ae) (base:br) (A:aW) (outer:List Env) (s:ah) (H:Hp):Prop where
 frames:A.frames=some outer
 mod:Mod K mg base
 bs:∀ b o,base.get? b=some o->s.heap.get? b=some o/\H b=none
 bsz:base.objs.size<=s.heap.objs.size
 funs:s.heap.FunFrames base outer
 frf:∀ b∈pI outer,H b=none
 hok:rW P w H s.heap
 bare:rO s.gens
inductive CE (outer:List Env) (P:aH) (w:b9) (H:Hp) (s:ah) (Q:VK) (u:ae) (s':ah):Prop
 | mk (v H':_) (h0:s'.os=s.os) (h1:rO s'.gens) (h2:Un (pI outer) [] H H' s.heap s'.heap) (h3:rW P w H' s'.heap) (h4:dW v u) (h5:Q v H'):CE outer P w H s Q u s'
def CR (CX:IN) (outer:List Env) (P:aH) (w:b9) (H:Hp) (s:ah) (Q:VK) (E:XK) (r:uO) (s':ah):Prop :=
 match r with
 | .ok (.ret u)=>CE outer P w H s Q u s'
 | .ok _=>False
 | .error e=>CX outer H s E e s'
structure uj (P:aH) (w:b9) (K:a9) (mg:Str->Option ae) (base:br) (CX:IN) (k:Nat) (f:ai) (fd:dE) (ps:List Str) (sp:Sp):Prop where
 len:∀ vs H Q E,sp vs H Q E->vs.length=ps.length
 run:∀ (A:aW) (outer:List Env) (s:ah) (H:Hp) (args:Args) (us:List ae) (vs:List V) (Q:VK) (E:XK),jH k A->IP P w K mg base A outer s H->yv s fd args (ps.zip us)->du vs us->sp vs H Q E ->
  iS (aG P w) A (.call (.ref f) args) (CR CX outer P w H s Q E) s
theorem uj.imp {P:aH}{w:b9}{K:a9}{mg:Str->Option ae}{base:br}{CX:IN}{k:Nat}{f:ai}{fd:dE}{ps:List Str}{sp sp':Sp} (F:uj P w K mg base CX k f fd ps sp)
  (h:∀ vs H Q E,sp' vs H Q E->sp vs H Q E):uj P w K mg base CX k f fd ps sp' :=
 ⟨fun vs H Q E q=>F.len vs H Q E (h _ _ _ _ q),fun A outer s H args us vs Q E hr he hb hv hs=>F.run A outer s H args us vs Q E hr he hb hv (h _ _ _ _ hs)⟩
section
variable {X:Cx}{pins:List (ai×Obj)}{σ:St}{H:Hp}{s s':ah}
theorem bI.env0 (I:bI X pins σ H s):IP X.prog X.w X.K X.mg X.base X.A X.stack s H :=
 ⟨I.ok.frames,I.ok.mod,I.bs,c7 I.ok.bsz I.sz,I.stack,I.stkFree,I.hok,I.bare⟩
theorem bI.after {Q:VK}{u:ae} (I:bI X pins σ H s) (h:CE X.stack X.prog X.w H s Q u s'):EP X pins σ Q u s':=by
 obtain ⟨v,H',os,bare,un,hok,r,q⟩:=h
 obtain ⟨hh,g,d,t,os'⟩:=s'
 obtain rfl:os'=s.os:=os
 exact ⟨v,H',I.call (h':=hh) (g':=g) (d':=d) (t':=t) (ch:=[]) un hok bare (fun b z=>absurd z (by simp)),r,q⟩
end
def KC (sp:Sp) (dvs:List V) (E:XK) (t:TA):TE:=fun σ H Q=>t σ H fun vs H1=>sp (vs++dvs) H1 Q E
def kQ (K:a9) (fd:dE) (ps:List Str) (ds:List ae):Prop :=
 ∀ (s:ah) (us:List ae),K.In s.heap->(us++ds).length=ps.length->yv s fd ⟨us,[]⟩ (ps.zip (us++ds))
theorem kQ.all {K:a9}{fd:dE}{ps:List Str} (h:∀ us:List ae,us.length=ps.length->Rz fd ⟨us,[]⟩=pure (ps.zip us)):kQ K fd ps []:=fun s us _ hl=>by
 rw [c_] at hl ⊢
 exact .of_eq (h us hl)
def kd (CX:IN) (X:Cx) (E:XK):Prop:=∀ (pins:List (ai×Obj)) (σ:St) (H:Hp) (s:ah) (e:ae) (s':ah),bI X pins σ H s->CX X.stack H s E e s'->X.xe e s'
section
variable {X:Cx}{CX:IN}{k:Nat}{f C:ai}{fd:dE}{ps:List Str}{sp:Sp}{dvs:List V}{ds:List ae}{E:XK}{x m:Str}{p pos apos:Pos}{e o:aR}{es:List aR}{ta:TE}{t:TA}
theorem Oh {pins:List (ai×Obj)}{σ:St}{H:Hp}{s:ah}{Q:VK}{us:List ae}{vs:List V} (F:uj X.prog X.w X.K X.mg X.base CX k f fd ps sp) (hr:jH k X.A) (hb:kQ X.K fd ps ds) (hd:du dvs ds) (hx:kd CX X E)
  (I:bI X pins σ H s) (r:du vs us) (h:sp (vs++dvs) H Q E):av (aG X.prog X.w) X.A (call (.ref f) us) (EP X pins σ Q) X.xe s:=by
 have r2:du (vs++dvs) (us++ds):=r.append hd
 have hl:(us++ds).length=ps.length:=by rw [<- r2.length];exact F.len _ _ _ _ h
 refine qD (pK (F.run X.A X.stack s H ⟨us,[]⟩ (us++ds) (vs++dvs) Q E hr I.env0 (hb s us I.kIn hl) r2 h) fun r s' hq=>?_)
 cases r with
 | error e=>exact hx pins σ H s e s' I hq
 | ok fl =>
  cases fl with
  | ret u=>exact I.after hq
  | next=>exact eQ hq
  | brk=>exact eQ hq
  | cont=>exact eQ hq
theorem S4 (F:uj X.prog X.w X.K X.mg X.base CX k f fd ps sp) (hr:jH k X.A) (hg:Gl X x) (hm:X.mg x=some (.ref f)) (hk:eE X.K (.ref f)=true) (hb:kQ X.K fd ps ds) (hd:du dvs ds) (hx:kd CX X E)
  (ha:PA X (e::es) t) (hdb:(x == ("__debug__" : Str))=false:=by decide) (he:aw (e::es) X.env=(false,cG e X.env)::aw es X.env:=by rfl) (hpl:(dL pos (aw es X.env)).any (·.1)=false:=by rfl) :
  PE X (.Call (.Name x p) (e::es) [] pos) (KC sp dvs E t):=by
 intro pins s σ H Q I h
 refine qF (vX I hg hm ?_ hdb)
 refine uP (h₀:=X.base) I.ok.mod.kin hk (fF (ha pos pins s σ H _ I h) fun us s1 ⟨vs,H1,I1,r,q⟩=>⟨I1.kIn,?_⟩) he hpl
 exact Oh F hr hb hd hx I1 r q
end
def PK (X:Cx) (kws:List nN) (t:TA):Prop :=
 ∀ (pos:Pos) (pins:List (ai×Obj)) (s:ah) (σ:St) (H:Hp) (Q:List V->Hp->Prop),bI X pins σ H s->t σ H Q->av (aG X.prog X.w) X.A (evalAll ((m6 pos (hV kws X.env)).map (·.2))) (AP X pins σ Q) X.xe s
section
variable {X:Cx}{CX:IN}{k:Nat}{f C:ai}{fd:dE}{ps ks:List Str}{sp:Sp}{E:XK}{x m:Str}{p pos apos kpos:Pos}{e o:aR}{es:List aR}{kws:List nN}{te ta:TE}{t tk:TA}{nm:Option Str}
theorem ke:PK X [] Of:=fun _ _ _ _ H Q I h=>wpAny_evalAll_nil ⟨[],H,I,.nil,h⟩
theorem aP (ha:PE X e te) (hr:PK X kws t):PK X (⟨nm,e,kpos⟩::kws) (G0 te t):=by
 intro pos pins s σ H Q I h
 show av _ _ (evalAll ((do let v <- cG e X.env;C7 pos;pure v)::(m6 pos (hV kws X.env)).map (·.2))) _ _ s
 refine wpAny_evalAll_cons (aa (fF (ha pins s σ H _ I h) fun u s1 ⟨x,H1,I1,r1,q1⟩=>aa (dG (aj ?_))))
 exact fF (hr pos pins s1 σ H1 _ I1 q1) fun us s2 h_26=>by obtain ⟨xs,H2,I2,r2,q2⟩:=h_26;exact ⟨x::xs,H2,I2,.cons r1 r2,q2⟩
variable {g:List ae->List ae->List ae}{gV:List V->List V->List V}
end
structure aK (N P:List Str) (sc:eD):Prop where
 kind:sc.kind=.function
 co:sc.isCoroutine=false
 gen:sc.isGenerator=false
 nd:N.Nodup
 pre:N.take P.length=P
 par:∀ x∈P,sc.names.lookup x=some .local\/sc.names.lookup x=some .cell
 nofree:∀ y∈sc.names,y.2≠.free
theorem Dg {kindOf:Str->Option kM}{x:Str}:∀ {binds:List (Str×ae)}{m:Str->Option ae},(∀ v,(x,v)∉binds)->Is kindOf binds m x=m x
 | [],_,_=>rfl
 | (n,v)::r,m,h=>by
  unfold Is
  rw [Dg fun w hw=>h w (aA _ hw)]
  split
  ·have:x≠n:=by rintro rfl;exact h v ay
   simp [this]
  ·rfl
theorem Dh {kindOf:Str->Option kM}{x:Str}:∀ {binds:List (Str×ae)}{m:Str->Option ae},(∀ v,(x,v)∉binds)->Iu kindOf binds m x=m x
 | [],_,_=>rfl
 | (n,v)::r,m,h=>by
  unfold Iu
  rw [Dh fun w hw=>h w (aA _ hw)]
  split
  ·rfl
  ·have:x≠n:=by rintro rfl;exact h v ay
   simp [this]
theorem Di {kindOf:Str->Option kM}{x:Str}{v:ae}:∀ {P:List Str}{vs:List ae}{i:Nat}{m:Str->Option ae},P.Nodup->P[i]?=some x->vs[i]?=some v->kindOf x=some .local ->
  Is kindOf (P.zip vs) m x=some v
 | [],_,_,_,_,h,_,_=>by simp at h
 | _::_,[],_,_,_,_,h,_=>by simp at h
 | p::P,w::vs,0,m,nd,h1,h2,hk=>by
  simp at h1 h2;subst h1;subst h2
  show Is kindOf ((p,w)::P.zip vs) m p=_
  unfold Is
  rw [Dg fun v hv=>(List.nodup_cons.mp nd).1 (rZ hv).1,if_pos hk]
  simp
 | p::P,w::vs,i + 1,m,nd,h1,h2,hk=>by
  show Is kindOf ((p,w)::P.zip vs) m x=_
  unfold Is
  exact Di (i:=i) (List.nodup_cons.mp nd).2 (by simpa using h1) (by simpa using h2) hk
theorem Dj {kindOf:Str->Option kM}{x:Str}{v:ae}:∀ {P:List Str}{vs:List ae}{i:Nat}{m:Str->Option ae},P.Nodup->P[i]?=some x->vs[i]?=some v->kindOf x≠some .local ->
  Iu kindOf (P.zip vs) m x=some v
 | [],_,_,_,_,h,_,_=>by simp at h
 | _::_,[],_,_,_,_,h,_=>by simp at h
 | p::P,w::vs,0,m,nd,h1,h2,hk=>by
  simp at h1 h2;subst h1;subst h2
  show Iu kindOf ((p,w)::P.zip vs) m p=_
  unfold Iu
  rw [Dh fun v hv=>(List.nodup_cons.mp nd).1 (rZ hv).1,if_neg hk]
  simp
 | p::P,w::vs,i + 1,m,nd,h1,h2,hk=>by
  show Iu kindOf ((p,w)::P.zip vs) m x=_
  unfold Iu
  exact Dj (i:=i) (List.nodup_cons.mp nd).2 (by simpa using h1) (by simpa using h2) hk
def start (N:List Str) (vs:List V):St:=vs.map some++bt (N.length - vs.length) none
def gE (CX:IN) (P:aH) (w:b9) (K:a9) (mg:Str->Option ae) (base:br) (N:List Str) (qual:Str) (scope:eD) (f:ai) (cd:ae) (A:aW) (outer:List Env) (s:ah) (H:Hp) (E:XK):Cx where
 prog:=P
 w:=w
 K:=K
 mg:=mg
 base:=base
 A:=A.deeper (j_ qual scope s.heap.objs.size f cd)
 N:=N
 s₀:=s
 H₀:=H
 env:=j_ qual scope s.heap.objs.size f cd
 outer:=outer
 stack:=j_ qual scope s.heap.objs.size f cd::outer
 ex:=[]
 calm:=true
 fn:=fun _=>true
 pn:=[]
 xe:=fun e s'=>av (aG P w) (A.deeper (j_ qual scope s.heap.objs.size f cd)) (NJ (j_ qual scope s.heap.objs.size f cd) e) (fun _ s''=>CX outer H s E e s'') (fun e' s''=>CX outer H s E e' s'') s'
theorem G1 {sc:eD}{n:Nat}{x:Str} (h:sc.names.lookup x=some .cell):∃ c,(bn n sc.names []).lookup x=some c:=by
 have q:=fk sc.names n [] (.inl h)
 exact Option.isSome_iff_exists.mp q
theorem Dk {CX:IN}{P:aH}{w:b9}{K:a9}{mg:Str->Option ae}{base:br}{N ps:List Str}{qual:Str}{scope:eD}{f:ai}{cd:ae}{A:aW}{outer:List Env}{s s1:ah}{H:Hp}{E:XK}{us:List ae}{vs:List V}
  (S:aK N ps scope) (hd:A.handled=none) (e0:IP P w K mg base A outer s H) (hl:vs.length=ps.length) (r:du vs us)
  (x:InCallC s s.heap.objs.size (Is (j_ qual scope s.heap.objs.size f cd).kindOf (ps.zip us) fun _=>none) (bn (s.heap.objs.size + 1) scope.names []) (Iu (j_ qual scope s.heap.objs.size f cd).kindOf (ps.zip us) fun _=>none) s1) :
  bI (gE CX P w K mg base N qual scope f cd A outer s H E) [] (start N vs) H s1:=by
 have hpl:ps.length<=N.length:=by have:=congrArg A3 S.pre;rw [zE] at this;omega
 obtain ⟨h1,tk,rfl,hk⟩:=x.done
 have noA:∀ b:ai,b∉(gE CX P w K mg base N qual scope f cd A outer s H E).ex:=fun b z=>absurd (show b∈([] : List ai) from z) (by simp)
 refine ⟨⟨e0.mod,S.kind,rfl,rfl,az _,fun y z c h1 h2=>?_,fun y hy=>?_,fun y c _ h=>?_,fun _=>hd,Around.frames_deeper e0.frames,.inr ⟨rfl,rfl⟩,fun b z=>absurd z (noA b),e0.bs,e0.bsz,fun b _ _=>noA b,fun b z=>absurd z (noA b),e0.funs,e0.frf⟩,
  rfl,e0.bare,Un.kept hk,⟨_,x.toInCall.ns,fun i y v h1 h2 h3=>?_⟩,fun y c h=>⟨_,x.cell y c h⟩,e0.hok.fresh (az _),fun y c h=>?_,fun p hp=>absurd (show p∈([] : List (ai×Obj)) from hp) (by simp),e0.hok.kept hk,?_⟩
 ·exact name_of_addr x.apart (dJ h1) (dJ h2)
 ·have hy:scope.names.lookup y=some .cell\/scope.names.lookup y=some .free:=hy
  rcases hy with hy | hy
  ·exact G1 hy
  ·exact absurd rfl (S.nofree _ (dJ hy))
 ·exact bA (x.above y c (dJ h))
 ·have hi:i<vs.length:=by
   unfold start at h2
   by_cases hi:i<vs.length
   ·exact hi
   ·rw [bC (by simpa using hi)] at h2
    rw [bR] at h2
    split at h2<;>cases h2
  have ha:vs[i]?=some v:=by
   unfold start at h2
   rw [bS (by simpa using hi),aT] at h2
   cases e:vs[i]? with
   | none=>rw [e] at h2;cases h2
   | some a=>rw [e] at h2;cases h2;rfl
  obtain ⟨u,hu,rv⟩:=r.get ha
  have hp:ps[i]?=some y:=by
   rw [<- S.pre,List.getElem?_take_of_lt (by omega)];exact h1
  have ndP:ps.Nodup:=by rw [<- S.pre];exact S.nd.sublist (List.take_sublist _ _)
  refine ⟨u,rv,?_⟩
  rcases S.par y (mr hp) with k | k
  ·exact .inl ⟨k,Di ndP hp hu k⟩
  ·obtain ⟨c,e⟩:=G1 (n:=s.heap.objs.size + 1) k
   refine .inr ⟨.inl k,c,e,?_⟩
   have q:=x.cell y c e
   rw [Dj ndP hp hu (by show scope.names.lookup y≠_;rw [k];decide)] at q
   exact q
 ·exact e0.hok.fresh (bA (x.above y c (dJ h)))
 ·unfold start
  show _=N.length
  rw [bw,aN,dn]
  omega
theorem Ah {CX:IN}{P:aH}{w:b9}{K:a9}{mg:Str->Option ae}{base:br}{k:Nat}{f:ai}{name qual:Str}{params:Arguments}{body:List bH}{scope:eD}{dV kV doc pm cdv ct oc:ae}{an od:Option ai}
  {osl:Array (Option ae)}{N ps:List Str}{sp:Sp} (lk:K.lookup f=some ⟨oc,od,.func (eR name qual params body scope dV kV doc pm an cdv ct),osl⟩) (hcd:k7 K cdv qual=true) (S:aK N ps scope)
  (len:∀ vs H Q E,sp vs H Q E->vs.length=ps.length)
  (hbody:∀ (A:aW) (outer:List Env) (s:ah) (H:Hp) (vs:List V) (Q:VK) (E:XK),jH k (A.deeper (j_ qual scope s.heap.objs.size f cdv))->sp vs H Q E ->
   ∃ t,FT (gE CX P w K mg base N qual scope f cdv A outer s H E) body t/\t { nx:=fun _ H'=>Q .non H',rt:=Q } (start N vs) H) :
  uj P w K mg base CX (k + 1) f (eR name qual params body scope dV kV doc pm an cdv ct) ps sp:=by
 refine ⟨len,fun A outer s H args us vs Q E hr e0 hb r hsp=>?_⟩
 have hl:=len _ _ _ _ hsp
 have KX:K.In s.heap:=e0.mod.kin.keeps fun b o e=>(e0.bs b o e).1
 have lim:s.heap.NoLimit:=e0.mod.nolimit.keeps fun b o e=>(e0.bs b o e).1
 have hkind:∀ y∈ps.zip us,scope.names.lookup y.1=some .local\/(scope.names.lookup y.1=some .cell/\((bn (s.heap.objs.size + 1) scope.names []).lookup y.1).isSome=true):=fun ⟨n,v⟩ hy=>by
  rcases S.par n (rZ hy).1 with q | q
  ·exact .inl q
  ·exact .inr ⟨q,fk _ _ _ (.inl q)⟩
 refine Rm hr.depth (KX _ _ lk) rfl S.co S.gen rfl (uQ KX hcd) (hb _ _ _ _ ?_)
 refine Iv S.kind hkind fun env he s1 x=>?_
 subst he
 refine ⟨lim.keeps x.toInCall.keep,codeAny_func ?_⟩
 obtain ⟨t,ht,hq⟩:=hbody A outer s H vs Q E (hr.deeper _) hsp
 have I:bI (gE CX P w K mg base N qual scope f cdv A outer s H E) [] (start N vs) H s1:=Dk S hr.hd e0 hl r x
 refine bh (ht [] s1 (start N vs) H _ I hq) (fun fl s' hs=>?_) fun e s' hs=>hs
 have fin:∀ {σ':St}{H':Hp}{v:V}{u:ae},bI (gE CX P w K mg base N qual scope f cdv A outer s H E) [] σ' H' s'->dW v u->Q v H'->CE outer P w H s Q u s' :=
  fun {σ' H' v u} J rv q=>⟨v,H',J.os,J.bare,J.base,J.hok,rv,q⟩
 cases fl with
 | ret u =>
  obtain ⟨v,σ',H',J,rv,q⟩:=hs
  exact fin J rv q
 | next =>
  obtain ⟨σ',H',J,q⟩:=hs
  exact fin (v:=V.non) (u:=ef) J rfl q
 | brk =>
  obtain ⟨_,_,_,q⟩:=hs
  exact eQ q
 | cont =>
  obtain ⟨_,_,_,q⟩:=hs
  exact eQ q
end L2
namespace L2
open PySem PySem.Spec PyProof.Rows
section
variable {X:Cx}{x:Str}{p pos:Pos}{e:aR}{es:List aR}{t:TA}{id T:String}{r:List V->Hp->VK->Prop}
def Xp (r:List V->Hp->VK->Prop) (t:TA):TE:=fun σ H Q=>t σ H fun vs H1=>r vs H1 Q
theorem pQ (hc:kc X (.builtin id) r) (hg:Gl X x) (hm:X.mg x=none) (hv:iQ x=some (.builtin id)) (ha:PA X (e::es) t) (hn:x≠"__name__":=by decide) (hdb:(x == ("__debug__" : Str))=false:=by decide)
  (he:aw (e::es) X.env=(false,cG e X.env)::aw es X.env:=by rfl) (hpl:(dL pos (aw es X.env)).any (·.1)=false:=by rfl):PE X (.Call (.Name x p) (e::es) [] pos) (Xp r t):=by
 intro pins s σ H Q I h
 refine qF (uV I hg hm hv ?_ hn hdb)
 exact PyProof.Rows.callWith_builtin1 (fF (ha pos pins s σ H _ I h) fun us s1 h_27=>by obtain ⟨vs,H1,I1,r1,q1⟩:=h_27;exact hc pins s1 σ H1 vs us Q I1 r1 q1) he hpl
theorem Dl (hc:kc X (.type T) r) (hg:Gl X x) (hm:X.mg x=none) (hv:iQ x=some (.type T)) (ha:PA X (e::es) t) (hn:x≠"__name__":=by decide) (hdb:(x == ("__debug__" : Str))=false:=by decide)
  (he:aw (e::es) X.env=(false,cG e X.env)::aw es X.env:=by rfl) (hpl:(dL pos (aw es X.env)).any (·.1)=false:=by rfl):PE X (.Call (.Name x p) (e::es) [] pos) (Xp r t):=by
 intro pins s σ H Q I h
 refine qF (uV I hg hm hv ?_ hn hdb)
 exact f9 (fF (ha pos pins s σ H _ I h) fun us s1 h_28=>by obtain ⟨vs,H1,I1,r1,q1⟩:=h_28;exact hc pins s1 σ H1 vs us Q I1 r1 q1) he hpl
end
end L2
namespace HT
open PySem PyProof.Rows
section
open PySem.SeqAt
open PySem.AutoSeq1 (wpAny_loadPart')
open PySem.MeetsSeq PySem.MeetsSeq2 PySem.MeetsSeq3
end
section
variable {prog:aH}{w:b9}{A:aW}{E:ae->ah->Prop}{s:ah}
theorem S5 {t b:ai}{vs ws:List ae}{Q:ae->ah->Prop} (ht:Ry s.heap t vs.toArray) (hb:Ry s.heap b ws.toArray) (hv:vs≠[])
  (h1:ws=[]->Q (.ref t) s) (h2:ws≠[]->Q (.ref s.heap.objs.size) { s with heap:=s.heap.push { cls:=.type "tuple",data:=.seq (vs++ws).toArray } })
  (hsz:vs.length + ws.length<=sizeLine):av (aG prog w) A (eZ .Add (.ref t) (.ref b)) Q E s:=by
 obtain ⟨⟨cls,dd,data,sl⟩,ho,hc,n,hd⟩:=id ht
 obtain ⟨⟨cls2,dd2,data2,sl2⟩,ho2,hc2,n2,hd2⟩:=id hb
 simp only at hc hd hc2 hd2
 subst hc hd hc2 hd2
 have e:vs.toArray++ws.toArray=(vs++ws).toArray:=by simp
 by_cases hw:ws=[]
 ·exact C8 ⟨_,ho,rfl⟩ ⟨_,ho2,rfl⟩ E3 LS qG pL (oH _ _)
   (tuple_addW1 t b vs.toArray ws.toArray n n2 dd dd2 sl sl2 (by simpa using hv) (by simp [hw])) ⟨ho,ho2,h1 hw⟩
 ·refine C8 ⟨_,ho,rfl⟩ ⟨_,ho2,rfl⟩ E3 LS qG pL (oH _ _)
   (tuple_addW2 t b vs.toArray ws.toArray n n2 dd dd2 sl sl2 (by simpa using hv) (by simpa using hw) (by rw [aI,aI];exact hsz)) ⟨ho,ho2,?_⟩
  rw [e]
  exact h2 hw
def jh (n d:Nat):Option Int->Nat
 | none=>d
 | some v=>if v<0 then (v + (n:Int)).toNat else min v.toNat n
theorem G3 (n d:Nat):jh n d none=d:=rfl
theorem KD (n d k:Nat):jh n d (some (k:Int))=min k n:=by
 show (if (k:Int)<0 then ((k:Int) + (n:Int)).toNat else min (k:Int).toNat n)=min k n
 rw [if_neg (by omega),kU]
theorem VD (n d:Nat) (hd:d<=n) (o:Option Int):jh n d o<=n:=by
 cases o with
 | none=>exact hd
 | some v =>
  show (if v<0 then (v + (n:Int)).toNat else min v.toNat n)<=n
  by_cases hv:v<0
  ·rw [if_pos hv];omega
  ·rw [if_neg hv];exact rL _ _
theorem KG (v:Int) (n d:Nat):(if v<0 then max (v + (n:Int)) 0 else min v (n:Int))=((jh n d (some v):Nat):Int):=by
 show (if v<0 then max (v + (n:Int)) 0 else min v (n:Int))=(((if v<0 then (v + (n:Int)).toNat else min v.toNat n):Nat):Int)
 by_cases hv:v<0
 ·simp only [if_pos hv];omega
 ·simp only [if_neg hv];omega
theorem IQ (lo hi:Option Int) (n:Nat):m7 lo hi 1 (n:Int)=(((jh n 0 lo:Nat):Int),((jh n n hi:Nat):Int)):=by
 have h1:¬ ((1:Int)<0):=by omega
 unfold m7
 simp only [h1,if_false]
 refine Prod.ext ?_ ?_
 ·cases lo with
  | none=>rfl
  | some v=>exact KG v n 0
 ·cases hi with
  | none=>rfl
  | some v=>exact KG v n n
theorem IR (i j:Nat):dw (i:Int) (j:Int) 1=j - i:=by
 unfold dw
 have h1:(1:Int) > 0:=by omega
 simp only [h1,if_true,Int.ediv_one]
 split<;>omega
theorem Ai {v:ae}{o:Option Int}{Q:Option Int->ah->Prop} (p:xq v o) (h:Q o s):av (aG prog w) A (Builtin.Slice.slicePartIndex v) Q E s:=by
 cases p with
 | none=>exact xr h
 | int i t=>exact slicePart_int h
theorem pR {sl:ai}{vl vu:ae}{lo hi:Option Int}{n:Nat}{Q:Int×Int×Nat->ah->Prop} (hs:s.heap.IsSliceOf sl vl vu .none) (pl:xq vl lo) (pu:xq vu hi)
  (h:Q (((jh n 0 lo:Nat):Int),1,jh n n hi - jh n 0 lo) s):av (aG prog w) A (ii (.ref sl) (pure (n:Int))) Q E s:=by
 obtain ⟨os,hos,hcs,hds⟩:=id hs
 unfold ii xm
 refine aa (aa (cX hos hds (x:=vl) rfl (aa (cX hos hds (x:=vu) rfl (aa (cX hos hds (x:=.none) rfl (aj ?_)))))))
 refine aa (xr ?_)
 show av _ _ (if ((1:Int) == 0)=true then _ else _) _ _ s
 rw [if_neg (by decide)]
 refine aa (Ai pl (aa (Ai pu (aa (aj ?_)))))
 show av _ _ (match m7 lo hi 1 (n:Int) with | (lo,hi)=>pure (lo,(1:Int),dw lo hi 1)) _ _ s
 rw [IQ lo hi n]
 show av _ _ (pure (((jh n 0 lo:Nat):Int),(1:Int),dw ((jh n 0 lo:Nat):Int) ((jh n n hi:Nat):Int) 1)) _ _ s
 rw [IR]
 exact aj h
theorem Oi (xs:Array ae) (i k:Nat):((bZ k).filterMap fun (m:Nat)=>xs[((i:Int) + (m:Int) * 1).toNat]?).toArray=((xs.toList.drop i).take k).toArray:=by
 have e:(fun (m:Nat)=>xs[((i:Int) + (m:Int) * 1).toNat]?)=fun m=>xs[i + m]?:=by
  funext m
  have:((i:Int) + (m:Int) * 1).toNat=i + m:=by omega
  rw [this]
 rw [e]
 have:=pick_run xs i k
 rw [List.filterMap_map] at this
 have e2:((fun x=>xs[x]?)∘fun x=>i + x)=fun m=>xs[i + m]?:=rfl
 rw [e2] at this
 rw [this]
theorem vZ {t sl:ai}{items:Array ae}{vl vu:ae}{lo hi:Option Int}{Q:ae->ah->Prop} (ht:Ry s.heap t items) (hs:s.heap.IsSliceOf sl vl vu .none) (pl:xq vl lo) (pu:xq vu hi)
  (hw:¬ (jh items.size 0 lo=0/\jh items.size items.size hi=items.size))
  (h:Q (.ref s.heap.objs.size) { s with heap:=s.heap.push { cls:=.type "tuple",data:=.seq ((items.toList.drop (jh items.size 0 lo)).take (jh items.size items.size hi - jh items.size 0 lo)).toArray } })
  (hsz:items.size<=sizeLine):av (aG prog w) A (nO (.ref t) (.ref sl)) Q E s:=by
 have htake:sizeOk (.seq ((items.toList.drop (jh items.size 0 lo)).take (jh items.size items.size hi - jh items.size 0 lo)).toArray):=by
  show ((items.toList.drop (jh items.size 0 lo)).take (jh items.size items.size hi - jh items.size 0 lo)).toArray.size<=sizeLine
  rw [aI,zE,zF,bv]
  omega
 have hj:jh items.size items.size hi<=items.size:=VD _ _ (az _) hi
 obtain ⟨os,hos,hcs,hds⟩:=id hs
 have hTs:s.TypeIs (.ref sl) "slice":=⟨os,hos,hcs⟩
 unfold nO
 try with_reducible refine dH ?_
 first | refine aa (aj ?_) | skip
 refine aa (C9 ht.typeIs (by decide) ?_)
 refine aa (cP (name:=iA "__getitem__") ht.typeIs dg
  (cQ dg ht.typeIs yY ?_ (A4 _ _)))
 show av _ _ (lP (.ref t) >>= _) _ _ s
 refine aa (LU ht ?_)
 refine aa (m9 hTs ?_)
 rw [if_pos (by decide)]
 refine aa (pR hs pl pu ?_)
 have hno:¬ ((((jh items.size 0 lo:Nat):Int) == 0 && (1:Int) == 1 && (jh items.size items.size hi - jh items.size 0 lo) == items.size)=true):=by
  intro q
  rw [aL,aL] at q
  have q1:((jh items.size 0 lo:Nat):Int)=0:=eq_of_beq q.1.1
  have q2:jh items.size items.size hi - jh items.size 0 lo=items.size:=eq_of_beq q.2
  exact hw ⟨by omega,by omega⟩
 show av _ _ (if (((jh items.size 0 lo:Nat):Int) == 0 && (1:Int) == 1 && (jh items.size items.size hi - jh items.size 0 lo) == items.size)=true then _ else _) _ _ s
 rw [if_neg hno,Oi]
 first
  | exact aa (m:=cR _) (bW (aj ⟨_,rfl,aj h⟩) htake)
  | exact aa (m:=cR _) (bW (aa (aj (aj ⟨_,rfl,aj h⟩))) htake)
  | exact aa (aa (m:=cR _) (bW (aj (aj ⟨_,rfl,aj h⟩)) htake))
  | exact aa (aa (m:=cR _) (bW (aj ⟨_,rfl,aj h⟩) htake))
end
end HT
namespace L2
open PySem PySem.Spec PyProof.Rows
abbrev TO:=St->Hp->(Option Int->Hp->Prop)->Prop
def PO (X:Cx) (e:Option aR) (t:TO):Prop :=
 ∀ (pins:List (ai×Obj)) (s:ah) (σ:St) (H:Hp) (Q:Option Int->Hp->Prop),bI X pins σ H s->t σ H Q ->
  av (aG X.prog X.w) X.A (evalPart e X.env) (fun u s'=>∃ o H',bI X pins σ H' s'/\xq u o/\Q o H') X.xe s
def S6:TO:=fun _ H Q=>Q none H
def Xq (t:TE):TO:=fun σ H Q=>t σ H fun x H1=>∃ i,x=.int i/\Q (some i) H1
section
variable {X:Cx}{e:aR}{te:TE}{lo hi:Option aR}{tl th:TO}{pos p2:Pos}
theorem S7:PO X none S6:=by
 intro pins s σ H Q I h
 rw [LV]
 exact aj ⟨none,H,I,.none,h⟩
theorem S8 (h:PE X e te):PO X (some e) (Xq te):=by
 intro pins s σ H Q I hw
 rw [evalPart_some]
 refine fF (h pins s σ H _ I hw) fun u s1 h_29=>?_
 obtain ⟨x,H1,I1,r1,q1⟩:=h_29
 obtain ⟨i,rfl,q⟩:=q1
 obtain ⟨t,rfl⟩:=r1
 exact ⟨some i,H1,I1,.int i t,q⟩
def Xr (X:Cx) (r:V->Option Int->Option Int->Hp->VK->Prop):Prop :=
 ∀ (pins:List (ai×Obj)) (s:ah) (σ:St) (H:Hp) (x:V) (v vl vu:ae) (lo hi:Option Int) (sl:ai) (Q:VK),bI X pins σ H s->dW x v->s.heap.IsSliceOf sl vl vu .none->xq vl lo->xq vu hi->r x lo hi H Q ->
  ∃ T id,iT (.type T) "__getitem__"=pure (some (.builtin id))/\s.TypeIs v T/\av (aG X.prog X.w) X.A (nO v (.ref sl)) (EP X pins σ Q) X.xe s
def tSl (r:V->Option Int->Option Int->Hp->VK->Prop) (te:TE) (tl th:TO):TE:=fun σ H Q=>te σ H fun x H1=>tl σ H1 fun l H2=>th σ H2 fun u H3=>r x l u H3 Q
theorem G4 {r:V->Option Int->Option Int->Hp->VK->Prop} (hr:Xr X r) (he:PE X e te) (hl:PO X lo tl) (hu:PO X hi th):PE X (.Subscript e (.Slice lo hi none p2) pos) (tSl r te tl th):=by
 intro pins s σ H Q I h
 refine Iw (fF (he pins s σ H _ I h) fun v s1 ⟨x,H1,I1,r1,q1⟩=>?_)
 refine wpAny_Slice (fF (hl pins s1 σ H1 _ I1 q1) fun vl s2 ⟨l,H2,I2,pl,q2⟩=>fF (hu pins s2 σ H2 _ I2 q2) fun vu s3 ⟨u,H3,I3,pu,q3⟩=>?_)
 rw [LV]
 refine aj ?_
 have I4:bI X pins σ H3 { s3 with heap:=s3.heap.push { cls:=.type "slice",data:=.fields #[vl,vu,.none] } }:=I3.kept (t':=s3.toks) fun b ob q=>ag _ q
 obtain ⟨T,id,hT,ht,hg⟩:=hr pins { s3 with heap:=s3.heap.push { cls:=.type "slice",data:=.fields #[vl,vu,.none] } } σ H3 x v vl vu l u s3.heap.objs.size Q I4 r1 (C3 ..) pl pu q3
 show av (aG X.prog X.w) X.A (zG e (.Slice lo hi none p2) v (.ref s3.heap.objs.size)) (EP X pins σ Q) X.xe { s3 with heap:=s3.heap.push { cls:=.type "slice",data:=.fields #[vl,vu,.none] } }
 exact tail_any (ops:=[.ref s3.heap.objs.size,v]) ht hT hg (by with_unfolding_all rfl)
def zb (xs:List V) (lo hi:Option Int):List V:=(xs.drop (HT.jh xs.length 0 lo)).take (HT.jh xs.length xs.length hi - HT.jh xs.length 0 lo)
theorem yC (xs:List V) (lo hi:Option Int):(zb xs lo hi).length<=xs.length:=by
 unfold zb
 rw [zE,zF]
 omega
def ZH (K:a9):V->Option Int->Option Int->Hp->VK->Prop:=fun x lo hi H Q=>∃ a xs,x=.ref a/\m5 K H a xs /\
 ¬ (HT.jh xs.length 0 lo=0/\HT.jh xs.length xs.length hi=xs.length)/\∀ p,H p=none->Q (.ref p) (upd H p (.tup (zb xs lo hi)))
theorem VE:Xr X (ZH X.K):=by
 intro pins s σ H x v vl vu lo hi sl Q I rx hs pl pu h
 obtain ⟨a,xs,rfl,hx,hw,q⟩:=h
 cases rx
 obtain ⟨its,r,ht,hz⟩:=I.tuple hx
 have hlen:its.toArray.size=xs.length:=by rw [aI];exact r.length.symm
 refine ⟨"tuple",_,PyProof.Rows.slot_tuple_getitem.lookup,ht.typeIs,?_⟩
 refine HT.vZ ht hs pl pu (by rw [hlen];exact hw) ?_ (by rw [hlen];exact hz)
 rw [hlen]
 refine ⟨.ref s.heap.objs.size,_,I.laid (t':=s.toks) (o:=.tup (zb xs lo hi)) (fun b ob q=>ag _ q) (az _) ?_,rfl,q _ (I.hok.fresh (az _))⟩
 exact ⟨c7 (yC xs lo hi) hz,_,(r.drop (HT.jh xs.length 0 lo)).take (HT.jh xs.length xs.length hi - HT.jh xs.length 0 lo),yZ _ _⟩
inductive Oj (K:a9) (x:V) (y:V) (H:Hp) (Q:VK):Prop
 | mk (a b xs ys:_) (h0:x=.ref a) (h1:y=.ref b) (h2:m5 K H a xs) (h3:m5 K H b ys) (h4:xs≠[]) (h5:xs.length + ys.length<=sizeLine) (h6:(ys=[]->Q (.ref a) H)) (h7:(ys≠[]->∀ p,H p=none->Q (.ref p) (upd H p (.tup (xs++ys))))):Oj K x y H Q
def Xs (K:a9):R2:=Oj K
theorem du.nil_iff {xs:List V}{us:List ae} (r:du xs us):us=[]↔xs=[]:=by
 cases r with
 | nil=>simp
 | cons _ _=>simp
theorem S9:qB X (eZ .Add) (Xs X.K):=by
 intro pins s σ H x y v u Q I rx ry h
 obtain ⟨a,b,xs,ys,rfl,rfl,ha,hb,hx,hz,q1,q2⟩:=h
 cases rx
 cases ry
 obtain ⟨its,r1,p1,_⟩:=I.tuple ha
 obtain ⟨its2,r2,p2,_⟩:=I.tuple hb
 refine HT.S5 p1 p2 (fun z=>hx (r1.nil_iff.mp z)) (fun z=>⟨.ref a,H,I,rfl,q1 (r2.nil_iff.mp z)⟩) (fun z=>?_) (by rw [<- r1.length,<- r2.length];exact hz)
 refine ⟨.ref s.heap.objs.size,_,I.laid (t':=s.toks) (o:=.tup (xs++ys)) (fun b ob q=>ag _ q) (az _) ?_,rfl,q2 (fun w=>z (r2.nil_iff.mpr w)) _ (I.hok.fresh (az _))⟩
 exact ⟨by rw [bw];exact hz,_,r1.append r2,yZ _ _⟩
end
end L2
namespace L2
open PySem PySem.Spec PyProof.Rows
def VF (n:Nat) (i:Int):Option Nat:=if 0<=i then (if i<n then some i.toNat else none) else if -(n:Int)<=i then some (i + n).toNat else none
def Im {α:Type} (xs:List α) (i:Int):Option α:=(VF xs.length i).bind fun j=>xs[j]?
theorem Sa {n:Nat}{i:Int}{j:Nat} (h:VF n i=some j):seqIndex? i n=some j/\j<n/\-(n:Int)<=i/\i<n:=by
 unfold VF at h
 by_cases h0:0<=i
 ·rw [if_pos h0] at h
  by_cases h1:i<n
  ·rw [if_pos h1] at h
   have e:i.toNat=j:=bL h
   exact ⟨by rw [seqIndex_of h0 h1,e],by omega,by omega,h1⟩
  ·rw [if_neg h1] at h;cases h
 ·rw [if_neg h0] at h
  by_cases h1:-(n:Int)<=i
  ·rw [if_pos h1] at h
   have e:(i + n).toNat=j:=bL h
   exact ⟨by rw [seqIndex_neg (by omega) h1,e],by omega,h1,by omega⟩
  ·rw [if_neg h1] at h;cases h
theorem Ea {α:Type}{xs:List α}{i:Int}{v:α} (h:Im xs i=some v):∃ j,seqIndex? i xs.length=some j/\xs[j]?=some v/\j<xs.length/\-(xs.length:Int)<=i/\i<xs.length:=by
 unfold Im at h
 cases e:VF xs.length i with
 | none=>rw [e] at h;cases h
 | some j =>
  rw [e] at h
  obtain ⟨h1,h2,h3,h4⟩:=Sa e
  exact ⟨j,h1,h,h2,h3,h4⟩
theorem qJ {α:Type}{xs:List α}{j:Nat}{v:α} (h:xs[j]?=some v):Im xs (j:Int)=some v:=by
 have hj:j<xs.length:=(List.getElem?_eq_some_iff.mp h).1
 have e:VF xs.length (j:Int)=some j:=by
  unfold VF
  rw [if_pos (by omega),if_pos (by omega)];simp
 unfold Im;rw [e];exact h
def qK (b:aR):Prop:=∀ o i,FP b false o i=operate [o,i] (nO o i)
def Xt (X:Cx) (r:R2):Prop :=
 ∀ (value slice:aR) (pins:List (ai×Obj)) (s:ah) (σ:St) (H:Hp) (x y:V) (v u:ae) (Q:VK),bI X pins σ H s->dW x v->dW y u->r x y H Q ->
  FP slice false v u=operate [v,u] (nO v u)->av (aG X.prog X.w) X.A (zG value slice v u) (EP X pins σ Q) X.xe s
def ZI (X:Cx) (id:String) (r:V->List V->Hp->VK->Prop):Prop :=
 ∀ (pins:List (ai×Obj)) (s:ah) (σ:St) (H:Hp) (x:V) (xs:List V) (v:ae) (us:List ae) (Q:VK),bI X pins σ H s->dW x v->du xs us->r x xs H Q ->
  av (aG X.prog X.w) X.A (call (.builtin id) (v::us)) (EP X pins σ Q) X.xe s
section
variable {X:Cx}{a b:aR}{ta tb:TE}{pos:Pos}
theorem G5 {r:R2} (hr:Xt X r) (ha:PE X a ta) (hb:PE X b tb) (hs:qK b):PE X (.Subscript a b pos) (Xi r ta tb):=by
 intro pins s σ H Q I h
 exact Iw (Vt ha hb I h fun v u s2 x y H2 I2 rx ry q=>hr a b pins s2 σ H2 x y v u Q I2 rx ry q (hs _ _))
inductive Ul (K:a9) (x:V) (y:V) (H:Hp) (Q:VK):Prop
 | mk (p xs i v:_) (h0:x=.ref p) (h1:y=.int i) (h2:pJ K H p xs) (h3:Im xs i=some v) (h4:Q v H):Ul K x y H Q
def Xu (K:a9):R2:=Ul K
inductive Um (K:a9) (x:V) (y:V) (H:Hp) (Q:VK):Prop
 | mk (p xs i v:_) (h0:x=.ref p) (h1:y=.int i) (h2:m5 K H p xs) (h3:Im xs i=some v) (h4:Q v H):Um K x y H Q
def ZJ (K:a9):R2:=Um K
inductive Uo (x:V) (y:V) (H:Hp) (Q:VK):Prop
 | mk (z i c:_) (h0:x=.str z) (h1:y=.int i) (h2:z.length<=sizeLine) (h3:Im z.cps.toList i=some c) (h4:Q (.str ⟨#[c]⟩) H):Uo  x y H Q
def ZK:R2:=Uo
theorem lC:Xt X (Xu X.K):=by
 intro value slice pins s σ H x y v u Q I rx ry h hs
 obtain ⟨p,xs,i,z,rfl,rfl,hq,he,q⟩:=h
 cases rx
 obtain ⟨t,rfl⟩:=ry
 obtain ⟨its,r,pl,hz⟩:=I.list hq
 obtain ⟨j,h1,h2,h3,h4,h5⟩:=Ea he
 obtain ⟨w,ew,rw'⟩:=r.get h2
 have hl:=r.length
 have hn:=Ag
 have fin:EP X pins σ Q w s:=⟨z,H,I,rw',q⟩
 by_cases h0:0<=i
 ·have hj:i.toNat=j:=by
   rw [seqIndex_of h0 h5] at h1
   exact bL h1
  exact item_listR pl.isList h0 (by omega) (by rw [hj];simpa using ew) fin hs
 ·have hj:(i + (its.toArray.size:Int)).toNat=j:=by
   rw [seqIndex_neg (by omega) h4] at h1
   rw [aI,<- hl]
   exact bL h1
  exact NK (x:=w) pl.isList.typeIs slot_list_getitem.lookup
   (wpAny_getItem_list_neg (Q:=fun r s'=>r=w/\EP X pins σ Q r s') pl.isList (by omega) (by rw [aI]<;>omega) (by omega) (by rw [hj];simpa using ew) ⟨rfl,fin⟩) hs
theorem VG:Xt X (ZJ X.K):=by
 intro value slice pins s σ H x y v u Q I rx ry h hs
 obtain ⟨p,xs,i,z,rfl,rfl,hq,he,q⟩:=h
 cases rx
 obtain ⟨t,rfl⟩:=ry
 obtain ⟨its,r,pl,hz⟩:=I.tuple hq
 obtain ⟨j,h1,h2,h3,h4,h5⟩:=Ea he
 obtain ⟨w,ew,rw'⟩:=r.get h2
 have hl:=r.length
 have hn:=Ag
 have fin:EP X pins σ Q w s:=⟨z,H,I,rw',q⟩
 exact NK (x:=w) pl.typeIs slot_tuple_getitem.lookup
  (getItem_tuple (j:=j) (Q:=fun r s'=>r=w/\EP X pins σ Q r s') pl (by omega) (by omega) (by rw [aI,<- hl];exact h1) (by simpa using ew) ⟨rfl,fin⟩) hs
theorem VH:Xt X ZK:=by
 intro value slice pins s σ H x y v u Q I rx ry h hs
 obtain ⟨z,i,c,rfl,rfl,hz,he,q⟩:=h
 obtain ⟨t,rfl⟩:=rx
 obtain ⟨t',rfl⟩:=ry
 obtain ⟨j,h1,h2,h3,h4,h5⟩:=Ea he
 have hl:z.cps.toList.length=z.length:=by simp [Str.length]
 rw [hl] at h1 h4 h5
 have hn:=Ag
 exact tail_any (typeIs_str s z t) slot_str_getitem.lookup (getItem_str (c:=c) (by
  have e1:decide (i < -(2 ^ 63:Int))=false:=decide_eq_false (by omega)
  have e2:decide (i ≥ 2 ^ 63)=false:=decide_eq_false (by omega)
  rw [e1,e2,Bool.or_false]) (by rw [h1];simpa using h2) ⟨.str ⟨#[c]⟩,H,I.tok _,⟨_,rfl⟩,q⟩) hs
theorem Eb (lo hi:Option Int) (n:Nat):(nV lo hi none n).1=((HT.jh n 0 lo:Nat):Int)/\(nV lo hi none n).2.1=((HT.jh n n hi:Nat):Int)/\(nV lo hi none n).2.2=1:=by
 refine ⟨?_,?_,rfl⟩
 ·cases lo with
  | none=>simp [nV,HT.jh]
  | some i =>
   simp only [nV,HT.jh,hU,show (1:Int) > 0 by decide,if_true]
   by_cases h:i<0
   ·simp only [h,if_true]<;>omega
   ·simp only [h,if_false]<;>omega
 ·cases hi with
  | none=>simp [nV,HT.jh]
  | some i =>
   simp only [nV,HT.jh,hU,show (1:Int) > 0 by decide,if_true]
   by_cases h:i<0
   ·simp only [h,if_true]<;>omega
   ·simp only [h,if_false]<;>omega
theorem Ci (its:List ae) (lo hi:Option Int):slicePick its.toArray lo hi none=((its.drop (HT.jh its.length 0 lo)).take (HT.jh its.length its.length hi - HT.jh its.length 0 lo)).toArray:=by
 obtain ⟨h1,h2,h3⟩:=Eb lo hi its.toArray.size
 unfold slicePick
 rw [h1,h2,h3]
 simp only [sliceRange_one,pick_run,aI]<;>rfl
def ZL (K:a9):V->Option Int->Option Int->Hp->VK->Prop:=fun x lo hi H Q=>∃ a xs,x=.ref a/\pJ K H a xs/\∀ p,H p=none->Q (.ref p) (upd H p (.lst (zb xs lo hi)))
theorem KH:Xr X (ZL X.K):=by
 intro pins s σ H x v vl vu lo hi sl Q I rx hs pl pu h
 obtain ⟨a,xs,rfl,hx,q⟩:=h
 cases rx
 obtain ⟨its,r,ht,hz⟩:=I.list hx
 have hlen:=r.length
 refine ⟨"list",_,slot_list_getitem.lookup,ht.isList.typeIs,?_⟩
 refine wpAny_getItem_list_slice ht.isList hs pl pu .none (by simp) ?_ (by rw [aI]<;>omega)
 rw [Ci,<- hlen]
 refine ⟨.ref s.heap.objs.size,_,I.laid (t':=s.toks) (o:=.lst (zb xs lo hi)) (fun b ob q=>ag _ q) (az _) ?_,rfl,q _ (I.hok.fresh (az _))⟩
 exact ⟨c7 (yC xs lo hi) hz,_,0,(r.drop (HT.jh xs.length 0 lo)).take (HT.jh xs.length xs.length hi - HT.jh xs.length 0 lo),aE _ rfl⟩
def sr:V->Bool
 | .non=>true
 | .bl _=>true
 | .int _=>true
 | .str _=>true
 | _=>false
def Sc:V->V->Bool
 | .non,.non=>true
 | .bl a,.bl b=>a == b
 | .bl a,.int b=>(if a then 1 else 0) == b
 | .int a,.bl b=>a == (if b then 1 else 0)
 | .int a,.int b=>a == b
 | .str a,.str b=>a == b
 | _,_=>false
theorem VI {A:aW}{s:ah}{y x:V}{u v:ae} (ry:dW y u) (rx:dW x v) (fy:sr y=true) (fx:sr x=true):LW A s u v (Sc y x):=by
 cases y with
 | non =>
  cases ry
  cases x with
  | non=>cases rx;exact SeqAt.EqAt.same _
  | bl b=>cases rx;exact SeqAt.EqAt.none_bool b
  | int b=>obtain ⟨t,rfl⟩:=rx;exact SeqAt.EqAt.none_int b t
  | str b=>obtain ⟨t,rfl⟩:=rx;exact SeqAt.EqAt.none_str b t
  | _=>exact absurd (show false=true from fx) ba
 | bl a =>
  cases ry
  cases x with
  | non=>cases rx;exact SeqAt.EqAt.bool_none a
  | bl b=>cases rx;exact D5 a b
  | int b=>obtain ⟨t,rfl⟩:=rx;exact SeqAt.EqAt.bool_int a b t
  | str b=>obtain ⟨t,rfl⟩:=rx;exact SeqAt.EqAt.bool_str a b t
  | _=>exact absurd (show false=true from fx) ba
 | int a =>
  obtain ⟨t',rfl⟩:=ry
  cases x with
  | non=>cases rx;exact SeqAt.EqAt.int_none a t'
  | bl b=>cases rx;exact SeqAt.EqAt.int_bool a t' b
  | int b=>obtain ⟨t,rfl⟩:=rx;exact SeqAt.EqAt.int_int a t' b t
  | str b=>obtain ⟨t,rfl⟩:=rx;exact FK a t' b t
  | _=>exact absurd (show false=true from fx) ba
 | str a =>
  obtain ⟨t',rfl⟩:=ry
  cases x with
  | non=>cases rx;exact SeqAt.EqAt.str_none a t'
  | bl b=>cases rx;exact SeqAt.EqAt.str_bool a t' b
  | int b=>obtain ⟨t,rfl⟩:=rx;exact FL a t' b t
  | str b=>obtain ⟨t,rfl⟩:=rx;exact SeqAt.EqAt.str_str a t' b t
  | _=>exact absurd (show false=true from fx) ba
 | _=>exact absurd (show false=true from fy) ba
def IS (x:V) (u:ae):Bool:=match u with
 | .none=>Sc .non x
 | .bool b=>Sc (.bl b) x
 | .int i _=>Sc (.int i) x
 | .str z _=>Sc (.str z) x
 | _=>false
theorem Ol {x y:V}{u:ae} (r:dW y u) (f:sr y=true):IS x u=Sc y x:=by
 cases y with
 | non=>cases r;rfl
 | bl b=>cases r;rfl
 | int i=>obtain ⟨t,rfl⟩:=r;rfl
 | str z=>obtain ⟨t,rfl⟩:=r;rfl
 | _=>exact absurd (show false=true from f) ba
theorem v_ {x:V}:∀ {xs:List V}{us:List ae},du xs us->xs.all sr=true->us.any (IS x)=xs.any fun y=>Sc y x
 | _,_,.nil,_=>rfl
 | y::xs,u::us,.cons r t,f=>by
  rw [vS,aL] at f
  rw [fG,fG,Ol r f.1,v_ t f.2]
theorem su {A:aW}{s:ah}{x:V}{v:ae} (rx:dW x v) (fx:sr x=true):∀ {xs:List V}{us:List ae},du xs us->xs.all sr=true->∀ u∈us,LW A s u v (IS x u)
 | _,_,.nil,_=>fun u hu=>by cases hu
 | y::xs,u::us,.cons r t,f=>fun u' hu=>by
  rw [vS,aL] at f
  rcases List.mem_cons.mp hu with rfl | hu
  ·rw [Ol r f.1];exact VI r rx f.1 fx
  ·exact su rx fx t f.2 u' hu
def Z5 (x:V) (xs:List V):Bool:=xs.any fun y=>Sc y x
inductive Xv (K:a9) (neg:Bool) (x:V) (y:V) (H:Hp) (Q:VK):Prop
 | mk (p xs:_) (h0:y=.ref p) (h1:(pJ K H p xs\/m5 K H p xs)) (h2:sr x=true) (h3:xs.all sr=true) (h4:Q (.bl (if neg then !Z5 x xs else Z5 x xs)) H):Xv K neg x y H Q
def ZM (K:a9) (neg:Bool):R2:=Xv K neg
theorem Md:qB X (bX .In) (ZM X.K false):=by
 intro pins s σ H x y v u Q I rx ry h
 obtain ⟨p,xs,rfl,hq,fx,fs,q⟩:=h
 cases ry
 rcases hq with hq | hq
 ·obtain ⟨its,r,pl,hz⟩:=I.list hq
  refine SeqAt.in_listAt (IS x) pl.isList (fun w hw=>su rx fx r fs w (by simpa using hw)) ⟨.bl _,H,I,rfl,?_⟩
  rw [show its.toArray.any (IS x)=its.any (IS x) by simp,v_ r fs]
  exact q
 ·obtain ⟨its,r,pl,hz⟩:=I.tuple hq
  refine SeqAt.in_tupleAt (IS x) pl (fun w hw=>su rx fx r fs w (by simpa using hw)) ⟨.bl _,H,I,rfl,?_⟩
  rw [show its.toArray.any (IS x)=its.any (IS x) by simp,v_ r fs]
  exact q
theorem Ec:qB X (bX .NotIn) (ZM X.K true):=by
 intro pins s σ H x y v u Q I rx ry h
 obtain ⟨p,xs,rfl,hq,fx,fs,q⟩:=h
 cases ry
 rcases hq with hq | hq
 ·obtain ⟨its,r,pl,hz⟩:=I.list hq
  refine SeqAt.notIn_listAt (IS x) pl.isList (fun w hw=>su rx fx r fs w (by simpa using hw)) ⟨.bl _,H,I,rfl,?_⟩
  rw [show its.toArray.any (IS x)=its.any (IS x) by simp,v_ r fs]
  exact q
 ·obtain ⟨its,r,pl,hz⟩:=I.tuple hq
  refine SeqAt.notIn_tupleAt (IS x) pl (fun w hw=>su rx fx r fs w (by simpa using hw)) ⟨.bl _,H,I,rfl,?_⟩
  rw [show its.toArray.any (IS x)=its.any (IS x) by simp,v_ r fs]
  exact q
theorem w4:kc X (.builtin "len") (fun xs H Q=>∃ p ys,xs=[.ref p]/\(pJ X.K H p ys\/m5 X.K H p ys)/\Q (.int ys.length) H):=by
 intro pins s σ H xs us Q I r h
 obtain ⟨p,ys,rfl,hq,q⟩:=h
 obtain ⟨u,rfl,rx⟩:=ms r
 cases rx
 have hn:=Ag
 rcases hq with hq | hq
 ·obtain ⟨its,r',pl,hz⟩:=I.list hq
  have hlen:=r'.length
  exact Calls.call_len_list pl.isList (by simp only [aI]<;>omega) ⟨.int ys.length,H,I.tok _,⟨s.toks + 1,by rw [aI,hlen]⟩,q⟩
 ·obtain ⟨its,r',pl,hz⟩:=I.tuple hq
  have hlen:=r'.length
  exact len_tuple pl (by simp only [aI]<;>omega) ⟨.int ys.length,H,I.tok _,⟨s.toks + 1,by rw [aI,hlen]⟩,q⟩
theorem Ed:kc X (.builtin "len") (fun xs H Q=>∃ z,xs=[.str z]/\z.length<=sizeLine/\Q (.int z.length) H):=by
 intro pins s σ H xs us Q I r h
 obtain ⟨z,rfl,hz,q⟩:=h
 obtain ⟨u,rfl,t,rfl⟩:=ms r
 have hn:=Ag
 exact len_str (by omega) ⟨.int z.length,H,I.tok _,⟨_,rfl⟩,q⟩
theorem w5:kc X (.type "list") (fun xs H Q=>∃ p ys,xs=[.ref p]/\(pJ X.K H p ys\/m5 X.K H p ys)/\∀ l,H l=none->Q (.ref l) (upd H l (.lst ys))):=by
 intro pins s σ H xs us Q I r h
 obtain ⟨p,ys,rfl,hq,q⟩:=h
 obtain ⟨u,rfl,rx⟩:=ms r
 cases rx
 have fin:∀ (its:List ae),du ys its->ys.length<=sizeLine->∀ (h':br) (c':Nat),(∀ b o',s.heap.get? b=some o'->h'.get? b=some o') ->
   h'.get? s.heap.objs.size=some { cls:=.type "list",dict:=none,data:=.seq its.toArray c',slots:=#[] }->EP X pins σ Q (.ref s.heap.objs.size) { s with heap:=h' }:=fun its r' hz h' c' kp e =>
  ⟨.ref s.heap.objs.size,_,I.laid (t':=s.toks) kp (az _) (show eB X.prog X.w _ h' _ (.lst ys) from ⟨hz,its,c',r',e⟩),rfl,q _ (I.hok.fresh (az _))⟩
 rcases hq with hq | hq
 ·obtain ⟨its,r',pl,hz⟩:=I.list hq
  have hlen:=r'.length
  obtain ⟨o,ho,hc,n,hd⟩:=pl.isList
  exact call_list_seq p (.inl rfl) ho hc hd (fun h' c' kp e=>fin its r' hz h' c' kp e) (by simp only [aI]<;>omega)
 ·obtain ⟨its,r',pl,hz⟩:=I.tuple hq
  have hlen:=r'.length
  obtain ⟨o,ho,hc,n,hd⟩:=pl
  exact call_list_seq p (.inr rfl) ho hc hd (fun h' c' kp e=>fin its r' hz h' c' kp e) (by simp only [aI]<;>omega)
theorem uz:kc X (.type "tuple") (fun xs H Q=>∃ p ys,xs=[.ref p]/\((pJ X.K H p ys/\∀ l,H l=none->Q (.ref l) (upd H l (.tup ys)))\/(m5 X.K H p ys/\Q (.ref p) H))):=by
 intro pins s σ H xs us Q I r h
 obtain ⟨p,ys,rfl,h⟩:=h
 obtain ⟨u,rfl,rx⟩:=ms r
 cases rx
 rcases h with ⟨hq,q⟩ | ⟨hq,q⟩
 ·obtain ⟨its,r',pl,hz⟩:=I.list hq
  have hlen:=r'.length
  refine call_tuple_list pl.isList (fun h' kp=>?_) (by simp only [aI]<;>omega)
  have I1:bI X pins σ H { s with heap:=h' }:=I.kept (t':=s.toks) kp
  have I2:bI X pins σ (upd H h'.objs.size (.tup ys)) { s with heap:=h'.push { cls:=.type "tuple",data:=.seq its.toArray } } :=
   I1.laid (t':=s.toks) (fun b o e=>ag _ e) (az _) (show eB X.prog X.w _ _ _ (.tup ys) from ⟨hz,its,r',yZ _ _⟩)
  exact ⟨.ref h'.objs.size,_,I2,rfl,q _ (I1.hok.fresh (az _))⟩
 ·obtain ⟨its,r',pl,hz⟩:=I.tuple hq
  exact call_tuple_same pl ⟨.ref p,H,I,rfl,q⟩
def tyV (K:a9) (T:String) (x:V) (H:Hp):Prop:=match x with
 | .str _=>T="str"
 | .int _=>T="int"
 | .ref p=>(T="list"/\∃ xs,pJ K H p xs)\/(T="tuple"/\∃ o,K.lookup p=some o/\o.cls=.type "tuple"/\o.dict=none) \/
   (T="dict"/\((∃ kvs,H p=some (.dK kvs))\/∃ kvs,H p=some (.dT kvs)))\/(T="set"/\∃ S n,H p=some (.set S n))
 | _=>False
theorem VJ {pins:List (ai×Obj)}{σ:St}{H:Hp}{s:ah}{T:String}{x:V}{v:ae} (I:bI X pins σ H s) (r:dW x v) (ty:tyV X.K T x H) :
  s.TypeIs v T/\∀ a,v=.ref a->∃ ob,s.heap.get? a=some ob/\ob.dict=none:=by
 cases x with
 | str z =>
  obtain ⟨t,rfl⟩:=r
  cases (show T="str" from ty)
  exact ⟨typeIs_str s z t,fun _ e=>nomatch e⟩
 | int i =>
  obtain ⟨t,rfl⟩:=r
  cases (show T="int" from ty)
  exact ⟨typeIs_int s i t,fun _ e=>nomatch e⟩
 | ref p =>
  cases r
  rcases ty with ⟨rfl,xs,hq⟩ | ⟨rfl,o,hk,hc,hd⟩ | ⟨rfl,hk⟩ | ⟨rfl,S,n,hk⟩
  ·obtain ⟨its,_,pl,_⟩:=I.list hq
   refine ⟨pl.isList.typeIs,fun a e=>?_⟩
   cases e
   obtain ⟨o,n,e,c,hd,_⟩:=pl
   exact ⟨o,e,hd⟩
  ·refine ⟨⟨o,I.kIn p o hk,hc⟩,fun a e=>?_⟩
   cases e
   exact ⟨o,I.kIn _ o hk,hd⟩
  ·have z:∃ o,s.heap.get? p=some o/\o.ExactDict:=by
    rcases hk with ⟨kvs,hk⟩ | ⟨kvs,hk⟩
    ·obtain ⟨_,_,_,_,o,_,_,e,ex,_⟩:=I.hok p _ hk
     exact ⟨o,e,ex⟩
    ·obtain ⟨_,_,_,_,o,_,_,e,ex,_⟩:=I.hok p _ hk
     exact ⟨o,e,ex⟩
   obtain ⟨o,e,ex⟩:=z
   refine ⟨⟨o,e,ex.1⟩,fun a e2=>?_⟩
   cases e2
   exact ⟨o,e,ex.2.1⟩
  ·obtain ⟨o,_,_,_,e,ex,_⟩:=I.hok p _ hk
   refine ⟨⟨o,e,ex.1⟩,fun a e2=>?_⟩
   cases e2
   exact ⟨o,e,ex.2.1⟩
 | _=>exact eQ ty
def tBM (K:a9) (T:String) (r:V->List V->Hp->VK->Prop) (to:TE) (t:TA):TE:=fun σ H Q=>to σ H fun x H1=>tyV K T x H1/\t σ H1 fun xs H2=>r x xs H2 Q
variable {o e:aR}{es:List aR}{to:TE}{t:TA}{name:Str}{apos cpos:Pos}{T id:String}{r:V->List V->Hp->VK->Prop}
theorem yD (pa:PlainAttrs T) (slot:Slot T name id) (hty:typeOf (.builtin id)=pure (.type "method_descriptor")) (hm:ZI X id r) (ho:PE X o to) (ha:PA X (e::es) t)
  (hbase:r_ o name X.env (cG o X.env)=cG o X.env:=by rfl)
  (hfew:((dL cpos (aw (e::es) X.env)).all (fun x=>!x.1) && (m6 cpos (hV [] X.env)).all (fun x=>x.1.isSome)
   && decide ((e::es).length + ([] : List nN).length + (if ([] : List nN).isEmpty then 0 else 1)<30))=true:=by rfl)
  (hline:(apos.endLine == cpos.line)=true:=by rfl) (hs:aw (e::es) X.env=(false,cG e X.env)::aw es X.env:=by rfl) (hplain:(dL cpos (aw es X.env)).any (·.1)=false:=by rfl) :
  PE X (.Call (.Attribute o name apos) (e::es) [] cpos) (tBM X.K T r to t):=by
 intro pins s σ H Q I h
 refine wpAny_Call_method_late hbase hfew hline rfl (fF (ho pins s σ H _ I h) fun v s1 ⟨x,H1,I1,r1,ty,q1⟩=>?_)
 obtain ⟨h1,h2⟩:=VJ I1 r1 ty
 refine ⟨T,id,pa,slot,hty,h1,h2,?_⟩
 have hA:=ha cpos pins s1 σ H1 _ I1 q1
 rw [hs] at hA ⊢
 refine Calls.callWith_builtin (by show (false || (dL cpos (aw es X.env)).any (·.1))=false;rw [hplain]<;>rfl) (uf ?_)
 exact fF hA fun us s2 h_30=>by obtain ⟨vs,H2,I2,r2,q2⟩:=h_30;exact hm pins s2 σ H2 x vs v us Q I2 r1 r2 q2
end
end L2
namespace L2
open PySem PySem.Spec PyProof.Rows
def ZN (X:Cx) (id:String) (r:V->List V->Hp->VK->Prop):Prop :=
 ∀ (pins:List (ai×Obj)) (s:ah) (σ:St) (H:Hp) (x:V) (xs:List V) (v:ae) (us:List ae) (Q:VK),bI X pins σ H s->dW x v->du xs us->r x xs H Q ->
  av (aG X.prog X.w) X.A (call (.builtin id) (v::us)) (EP X pins σ Q) X.xe s
theorem du.one {x:V}{us:List ae} (h:du [x] us):∃ u,us=[u]/\dW x u:=by
 cases h with | cons r t=>cases t;exact ⟨_,rfl,r⟩
theorem du.rep {xs:List V}{us:List ae} (h:du xs us):∀ k:Nat,du (bt k xs).flatten (bt k us).flatten
 | 0=>.nil
 | k + 1=>by
  rw [dh,dh,gK,gK]
  exact du.append h (du.rep h k)
theorem Dm (its:List ae):∀ (k:Nat) (acc:List ae),
  Ny (fun x1 x2=>x1++x2) acc.toArray (bt k its.toArray)=(acc++(bt k its).flatten).toArray
 | 0,acc=>by simp
 | k + 1,acc=>by
  have e:acc.toArray++its.toArray=(acc++its).toArray:=by simp
  have e2:(acc++its)++(bt k its).flatten=acc++(bt (k + 1) its).flatten:=by
   rw [dh,gK,yw]
  rw [<- e2,<- Dm its k (acc++its),<- e,dh,C4]
section
variable {X:Cx}{pins:List (ai×Obj)}{σ:St}{H:Hp}{s:ah}{l b:ai}{xs ys zs:List V}
theorem bI.lset {its its':List ae}{n:Nat}{f:Array ae->Array ae}{t':Nat} (I:bI X pins σ H s) (hH:H l=some (.lst xs))
  (e:s.heap.get? l=some { cls:=.type "list",data:=.seq its.toArray n }) (hf:f its.toArray=its'.toArray) (hv:du ys its') (hz:ys.length<=sizeLine) :
  bI X pins σ (upd H l (.lst ys)) { s with heap:=s.heap.update l (k8 f),toks:=t' }:=by
 have q:=PySem.IsL.update e f
 rw [hf] at q
 refine I.write (x:=l) (e:=l) (by rw [hH];exact trivial) (.inl rfl) (fun b' u hb hu=>(rQ s.heap (k8 f) (fM hb)).trans hu) ⟨_,q⟩ ?_
 exact ⟨hz,its',_,hv,q⟩
theorem bI.lnew {its:List ae}{t':Nat} (I:bI X pins σ H s) (hv:du ys its) (hz:ys.length<=sizeLine) :
  bI X pins σ (upd H s.heap.objs.size (.lst ys)) { s with heap:=s.heap.push { cls:=.type "list",data:=.seq its.toArray },toks:=t' } :=
 I.laid (fun _ _ q=>ag _ q) (az _) ⟨hz,its,0,hv,aE _ rfl⟩
theorem bI.fresh (I:bI X pins σ H s):H s.heap.objs.size=none:=I.hok.fresh (az _)
theorem bI.lstM (I:bI X pins σ H s) (hH:H l=some (.lst xs)):InM s.heap l xs:=by
 obtain ⟨z,its,n,r,e⟩:=I.hok l _ hH
 exact ⟨z,its,n,r,r.length,e⟩
theorem Aj {n:Nat} (h:n<=sizeLine):fO n=false:=by
 unfold fO
 exact decide_eq_false (by omega)
end
section
variable {X:Cx}
inductive G6 (x:V) (vs:List V) (H:Hp) (Q:VK):Prop
 | mk (l xs y:_) (h0:x=.ref l) (h1:vs=[y]) (h2:H l=some (.lst xs)) (h3:xs.length<sizeLine) (h4:Q .non (upd H l (.lst (xs++[y])))):G6  x vs H Q
def Sd:V->List V->Hp->VK->Prop:=G6
theorem Dn:ZN X "list.append" Sd:=by
 intro pins s σ H x vs v us Q I rx rv h
 obtain ⟨l,xs,y,rfl,rfl,hH,hz,q⟩:=h
 cases rx
 obtain ⟨u,rfl,ru⟩:=rv.one
 obtain ⟨z,its,n,r,hl,e⟩:=I.lstM hH
 refine qH F.slot_list_append ⟨_,e,rfl⟩ F.entry_list_append (F.args_list_append_2 _ _) (PySem.list_append l its.toArray n u (by rw [aI];omega)) ⟨e,?_⟩
 refine ⟨.non,_,I.lset (its':=its++[u]) hH e (by simp) (r.append (.cons ru .nil)) ?_,rfl,q⟩
 rw [bw,lQ]
 omega
inductive G7 (x:V) (vs:List V) (H:Hp) (Q:VK):Prop
 | mk (l b xs zs:_) (h0:x=.ref l) (h1:vs=[.ref b]) (h2:H l=some (.lst xs)) (h3:H b=some (.lst zs)) (h4:xs.length + zs.length<=sizeLine) (h5:Q .non (upd H l (.lst (xs++zs)))):G7  x vs H Q
def Se:V->List V->Hp->VK->Prop:=G7
theorem xF:ZN X "list.extend" Se:=by
 intro pins s σ H x vs v us Q I rx rv h
 obtain ⟨l,b,xs,zs,rfl,rfl,hH,hB,hz,q⟩:=h
 cases rx
 obtain ⟨u,rfl,ru⟩:=rv.one
 cases ru
 obtain ⟨z,its,n,r,hl,e⟩:=I.lstM hH
 obtain ⟨z2,its2,n2,r2,hl2,e2⟩:=I.lstM hB
 have hsz:its.toArray.size + its2.toArray.size<=sizeLine:=by rw [aI,aI];omega
 have hlong:¬ (!its.toArray.isEmpty && fO (its.toArray.size + its2.toArray.size))=true:=by
  rw [Aj hsz,D6]
  exact ba
 refine qH RA ⟨_,e,rfl⟩ Rn (NL _ _)
  (AutoSeq1.list_extend_list_list_0 l its.toArray n b its2.toArray n2 hlong (by rw [aI];omega) (by omega)) ⟨e,e2,?_⟩
 refine ⟨.non,_,I.lset (its':=its++its2) hH e (by simp) (r.append r2) ?_,rfl,q⟩
 rw [bw]
 omega
def ZO:R2:=fun x y H Q=>∃ l k xs,x=.ref l/\y=.int k/\H l=some (.lst xs)/\-(2 ^ 63)<=k/\k<2 ^ 63/\xs.length * k.toNat<=sizeLine /\
 ∀ p,H p=none->Q (.ref p) (upd H p (.lst (bt k.toNat xs).flatten))
theorem Sf {α:Type} (xs:List α) (k:Nat):(bt k xs).flatten.length=k * xs.length:=by
 induction k with
 | zero=>simp
 | succ k ih=>rw [dh,gK,bw,ih,Nat.succ_mul,Nat.add_comm]
theorem Om:qB X (eZ .Mult) ZO:=by
 intro pins s σ H x y v u Q I rx ry h
 obtain ⟨l,k,xs,rfl,rfl,hH,h1,h2,hz,q⟩:=h
 cases rx
 obtain ⟨t,rfl⟩:=ry
 obtain ⟨z,its,n,r,hl,e⟩:=I.lstM hH
 have hlen:its.toArray.size * k.toNat<=sizeLine:=by rw [aI,<- hl];exact hz
 have hcap:¬ its.toArray.size * k.toNat > (2 ^ 63 - 1) / 8:=by
  have:(sizeLine:Nat)<=(2 ^ 63 - 1) / 8:=by decide
  omega
 have hfit:¬ (!Builtin.List.listFitsIndex k)=true:=by
  rw [fitsIndex_both h1 h2]
  exact ba
 have hlong:¬ fO (its.toArray.size * k.toNat)=true:=by
  rw [Aj hlen]
  exact ba
 have hnew:Ny (fun x1 x2=>x1++x2) #[] (bt (if its.toArray.isEmpty=true then 0 else k.toNat) its.toArray)=(bt k.toNat its).flatten.toArray:=by
  have f0:∀ m:Nat,Ny (fun x1 x2=>x1++x2) #[] (bt m its.toArray)=(bt m its).flatten.toArray:=fun m=>by
   have:=Dm its m []
   rw [s9] at this
   exact this
  rw [f0]
  cases its with
  | nil=>simp
  | cons a r'=>rw [if_neg (by simp)]
 refine wpAny_binaryOp_repeat_ref (T:="list") (U:="int") (by decide) ⟨_,e,rfl⟩ (fun s'=>typeIs_int s' k t) noFill_list_mul F.fills_int_mul F.slot_int_rmul repeat_list F.slot_int_index.lookup
  (qH F.slot_int_rmul (typeIs_int s k t) F.entry_int_rmul (F.args_int_rmul_2 _ _) (int___rmul___int_list k t l its.toArray n)
   ⟨e,rfl,⟨_,e,rfl⟩,qH F.slot_list_mul ⟨_,e,rfl⟩ F.entry_list_mul (F.args_list_mul_2 _ _) (AutoListH.list___mul___list_int_3 l its.toArray n k t hfit hcap hlong) ⟨e,?_⟩⟩)
 rw [hnew]
 exact ⟨.ref _,_,I.lnew (t':=s.toks) (r.rep k.toNat) (by rw [Sf,Nat.mul_comm];exact hz),rfl,q _ I.fresh⟩
end
section
variable {prog:aH}{w:b9}{A:aW}{E:ae->ah->Prop}{s:ah}
end
section
variable {X:Cx}
end
end L2
namespace Att
open PySem PySem.W PySem.Calls PyProof.Rows
theorem zc {P:Params}{h:br}:∀ (ns:List Int) (vs:List ae),WellAll P h vs (ns.map WData.int)->NM vs ns:=by
 intro ns
 induction ns with
 | nil =>
  intro vs w
  rw [gL] at w
  cases w
  exact .nil
 | cons n ns ih =>
  intro vs w
  rw [bd] at w
  cases w with
  | cons a b =>
   cases a
   exact .cons _ _ (ih _ b)
theorem Me {l:OpenLaw}{n:Nat} (hn:l.most=some n) {P:Params}{h:br}{args:List WData}{vals:List ae}
  (hpre:l.row.toRowW.claim.pre args=true) (hwl:WellAll P h vals args) :
  ∃ a vs ns,vals=[c6 a]/\args=[WData.list (ns.map WData.int)]/\h.get? a=some { cls:=.type "list",data:=.seq vs.toArray }/\NM vs ns/\ns.length<=n:=by
 have hsh:WShape.hasAll [] args [.list .int]=true:=(pre_splitW hpre).1
 have hc:l.pre.holds [] { args:=args }=true:=(pre_splitW hpre).2
 obtain ⟨d,r,rfl,h1,h2⟩:=hasAllW_cons hsh
 obtain rfl:=hasAllW_nil h2
 obtain ⟨xs,rfl,h3⟩:=hasW_list h1
 obtain ⟨ns,rfl⟩:=items_int h3
 have hlen:ns.length<=n:=by
  unfold OpenLaw.pre at hc
  have h4:(WTm.not (.lt (.lit (.int (n:Int))) (.len (.arg 0)))).holds [] { args:=[.list (ns.map .int)] }=true:=by
   have h4:=(holds_andW hc).1
   rw [hn] at h4
   exact h4
  have h5:=condW_of h4 (w_not (w_lt w_lit (w_len_list (w_arg rfl))))
  rw [aN] at h5
  refine RC fun q=>?_
  have q':(n:Int)<((ns.length:Nat):Int):=by omega
  first
   | (rw [decide_eq_true q'] at h5;exact absurd h5 (by decide))
   | (simp at h5;omega)
 cases hwl with
 | cons w1 w2 =>
  cases w2
  cases w1 with
  | list ho hall=>exact ⟨_,_,ns,rfl,rfl,ho,zc ns _ hall,hlen⟩
theorem Mf (l:OpenLaw) (args:List WData):l.row.toRowW.claim.post args (.bool true) args=true :=
 postW_of (r:=l.row.toRowW) (X:=(true == true))
  (show WShape.has [] (.bool true) .bool=true by first | rfl | decide | simp [WShape.has,WShape.arms,WShape.armsAll])
  (show (WTm.eq .res (.lit (.bool true))).value [] { args:=args,res:=some (.bool true),after:=args }=some (.bool (true == true)) from w_eq_bool (w_res rfl) w_lit) rfl
theorem attach_call {l:OpenLaw}{n:Nat}{q:aH}{loose:List Str}{XP:(Str->Option ae)->br->Prop}{YP:b9->br->Prop}{d:DefRec}
  (hn:l.most=some n) (hdf:d.params.defaults=[])
  (call:∀ (w:b9) (s₀ s₁:ah) (mg mb:Str->Option ae) (fa:ai) (o:Obj) (pm cd doc:ae) (a:ai) (vs:List ae) (ns:List Int),
   Ground q loose [] XP w s₀ mg mb s₁.heap->YP w s₁.heap ->
   s₁.heap.get? fa=some o->o.data=.func (docDef d.name d.params d.body d.scope pm cd doc)->s₁.heap.CodeRec cd d.name->mg d.name=some (.ref fa) ->
   s₁.heap.get? a=some { cls:=.type "list",data:=.seq vs.toArray }->NM vs ns->ns.length<=n->s₁.gens=#[] ->
   iS (aG l.prog w) yx (.call (.ref fa) ⟨[.ref a],[]⟩) (fun r s'=>r=.ok (.ret (.bool true))/\OldK s₁.heap s'.heap/\s'.os=s₁.os/\rO s'.gens) s₁) :
  WalkO q loose XP YP l.row.toRowW d [] (fun f vs=>LX f vs):=by
 intro w s₀ s₁ mg mb G Y fa o pm cd doc dV kV ho hd hcd hD hmg hg args vals as hpre hlay hrd hwl hlo
 obtain rfl:dV=.none:=Dflts.none hD hdf
 obtain rfl:kV=.none:=Dflts.noKw hD
 obtain ⟨a,vs,ns,rfl,rfl,hobj,hints,hlen⟩:=Me hn hpre hwl
 refine enter_call (pK (call w s₀ s₁ mg mb fa o pm cd doc a vs ns G Y ho (fd_plain hd) hcd hmg hobj hints hlen hg) fun r s' hq=>?_)
 obtain ⟨rfl,h2,h3,h4⟩:=hq
 exact ⟨.inl ⟨.bool true,.bool true,[],rfl,fun _=>rfl,.bool true,Mf l _,fun _=>⟨D7,fun _ hm=>(nomatch hm)⟩⟩,h2,h3,h4⟩
section
variable {prog:aH}{w:b9}{A:aW}{E:ae->ah->Prop}{s:ah}{K:Frag}
def ZP (h:br) (L d:ai):List (ai×Obj):=(bZ h.objs.size).filterMap fun a=>if a=L\/a=d then none else (h.get? a).map fun o=>(a,o)
end
end Att
namespace L2
open PySem PySem.Spec PyProof.Rows
theorem Mg {vs:List ae}{ns:List Int} (h:NM vs ns):du (ns.map V.int) vs:=by
 induction h with
 | nil=>exact .nil
 | cons n t h ih=>exact .cons ⟨t,rfl⟩ ih
def VL (H:Hp):Prop:=∀ b,H b=none\/∃ o xs,H b=some (.frz o (.lst xs))
theorem On {P:aH}{w:b9}{K:a9}{mg mb:Str->Option ae}{CX:IN}{k:Nat}{fa a:ai}{fd:dE}{x:Str}{sp:Sp}{s₁:ah}{vs:List ae}{ns:List Int}
  (KX:K.In s₁.heap) (hns:s₁.heap.Ns bF mg) (hb:s₁.heap.Ns builtinsNs mb) (hbb:∀ x:Str,x≠"__name__"->mb x=iQ x) (hlim:s₁.heap.NoLimit) (hg:s₁.gens=#[])
  (ha:s₁.heap.get? a=some { cls:=.type "list",data:=.seq vs.toArray }) (hi:NM vs ns) (hl:ns.length<=sizeLine) (hr:jH k yx)
  (F:∀ base:br,K.In base->base.Ns bF mg->uj P w K mg base CX k fa fd [x] sp) (hbind:∀ (s:ah) (u:ae),yv s fd ⟨[u],[]⟩ [(x,u)])
  (hsp:∀ H:Hp,VL H->pJ K H a (ns.map V.int)->sp [.ref a] H (fun v _=>v=.bl true) fun _ _ _=>False)
  (hCX:∀ H e s',CX [] H s₁ (fun _ _ _=>False) e s'->False) :
  iS (aG P w) yx (.call (.ref fa) ⟨[.ref a],[]⟩) (fun r s'=>r=.ok (.ret (.bool true))/\OldK s₁.heap s'.heap/\s'.os=s₁.os/\rO s'.gens) s₁:=by
 have rv:=Mg hi
 have lenV:=hi.length
 have core:∀ H:Hp,VL H->pJ K H a (ns.map V.int)->rW P w H s₁.heap->(∀ b,H b≠none->b=a)->(H a≠none->K.lookup a=none) ->
   iS (aG P w) yx (.call (.ref fa) ⟨[.ref a],[]⟩) (fun r s'=>r=.ok (.ret (.bool true))/\OldK s₁.heap s'.heap/\s'.os=s₁.os/\rO s'.gens) s₁:=by
  intro H hO hS hok hA hK
  have base_of:∀ {b:ai}{o:Obj},s₁.heap.get? b=some o->H b=none->(E7 s₁.heap H).get? b=some o:=fun e n=>NW e n
  have noA:∀ {b:ai}{o:Obj}{es:Array DictEntry}{ep:Nat},s₁.heap.get? b=some o->o.data=.dict es ep->H b=none:=fun {b o es ep} e d=>by
   cases q:H b with
   | none=>rfl
   | some u =>
    have e':b=a:=hA b (by rw [q];simp)
    subst e'
    rw [ha] at e;cases e
    have d':Data.seq vs.toArray _=Data.dict es ep:=d
    cases d'
  have nsK:∀ {b:ai}{m:Str->Option ae},s₁.heap.Ns b m->(E7 s₁.heap H).Ns b m:=fun {b m} ⟨o,es,ep,e,d,r⟩=>⟨o,es,ep,base_of e (noA e d),d,r⟩
  have hKb:K.In (E7 s₁.heap H):=fun b o e=>base_of (KX b o e) (by
   cases q:H b with
   | none=>rfl
   | some u =>
    have e':b=a:=hA b (by rw [q];simp)
    subst e'
    rw [hK (by rw [q];simp)] at e;cases e)
  have hM:Mod K mg (E7 s₁.heap H):=⟨hKb,nsK hns,⟨mb,nsK hb,hbb⟩,let ⟨mc,h1,h2⟩:=hlim;⟨mc,nsK h1,h2⟩⟩
  have e0:IP P w K mg (E7 s₁.heap H) yx [] s₁ H:=⟨rfl,hM,fun b o e=>RU e,Nat.le_of_eq (M6 _ _),trivial,fun b hb=>absurd (show b∈([] : List ai) from hb) (by simp),hok,.of_eq hg⟩
  refine pK ((F _ hKb (nsK hns)).run yx [] s₁ H ⟨[.ref a],[]⟩ [.ref a] [.ref a] _ _ hr e0 (hbind s₁ (.ref a)) (.cons rfl .nil) (hsp H hO hS)) fun r s' h=>?_
  cases r with
  | error e=>exact (hCX H e s' h).elim
  | ok fl =>
   cases fl with
   | next=>exact eQ h
   | brk=>exact eQ h
   | cont=>exact eQ h
   | ret u =>
    obtain ⟨v,H',os,bare,un,hok',r',q⟩:=h
    have q':v=.bl true:=q
    subst q'
    obtain rfl:u=j3 true:=r'
    refine ⟨rfl,OldK.of_keep fun b o e=>?_,os,bare⟩
    cases q:H b with
    | none=>exact un.keep b o e q (by intro z;exact absurd (show b∈([] : List ai) from z) (by simp)) (by simp)
    | some u =>
     rcases hO b with z | ⟨ob,xs,z⟩
     ·rw [q] at z;cases z
     ·have z2:=un.frzs b ob _ z
      obtain ⟨e1,_⟩:=hok b _ z
      obtain ⟨e2,_⟩:=hok' b _ z2
      rw [e] at e1;cases e1
      exact e2
 cases hk:K.lookup a with
 | some o =>
  have e:=KX a o hk
  rw [ha] at e
  cases e
  refine core (fun _=>none) (fun _=>.inl rfl) (.inr ⟨_,vs.toArray,_,hk,rfl,rfl,rfl,by rw [aI,lenV];exact hl,by simpa using rv⟩) (fun b u z=>by have z':(none:Option HO)=some u:=z;cases z') (fun b z=>absurd rfl z) fun z=>absurd rfl z
 | none =>
  refine core (fun b=>if b=a then some (.frz { cls:=.type "list",data:=.seq vs.toArray } (.lst (ns.map V.int))) else none) (fun b=>?_) (.inl (.inr ⟨{ cls:=.type "list",data:=.seq vs.toArray },if_pos rfl⟩)) (fun b u z=>?_) (fun b z=>?_) fun _=>hk
  ·by_cases hb:b=a
   ·exact .inr ⟨_,_,if_pos hb⟩
   ·exact .inl (if_neg hb)
  ·by_cases hb:b=a
   ·have z':=(if_pos hb).symm.trans z
    cases z'
    subst hb
    exact ⟨ha,by rw [aN];exact hl,vs,_,rv,ha⟩
   ·have z':=(if_neg hb).symm.trans z
    cases z'
  ·by_cases hb:b=a
   ·exact hb
   ·exact absurd (if_neg hb) z
end L2
namespace L2
open PySem PySem.Spec PyProof.Rows
abbrev KOf {K:a9}{h:br} (_:K.In h):a9:=K
theorem Sg {l:y_}{n k:Nat}{q:aH}{loose:List Str}{XP:(Str->Option ae)->br->Prop}{YP:b9->br->Prop}{d:DefRec}{K:Params->a9}{CX:b9->IN}{sp:b9->Sp}{x:Str}
  (hn:l.most=some n) (hn2:n<=sizeLine) (hdf:d.params.defaults=[]) (hr:jH k yx)
  (hY:∀ (w:b9) (h:br),YP w h->(K w.params).In h)
  (F:∀ (w:b9) (mg:Str->Option ae) (fa:ai) (h:br),(K w.params).In h->h.Ns bF mg->mg d.name=some (.ref fa) ->
   ∃ fd:dE,(∀ (s:ah) (u:ae),yv s fd ⟨[u],[]⟩ [(x,u)]) /\
    ∀ base:br,(K w.params).In base->base.Ns bF mg->uj l.prog w (K w.params) mg base (CX w) k fa fd [x] (sp w))
  (hsp:∀ (w:b9) (H:Hp) (a:ai) (ns:List Int),ns.length<=n->VL H->pJ (K w.params) H a (ns.map V.int)->sp w [.ref a] H (fun v _=>v=.bl true) fun _ _ _=>False)
  (hCX:∀ (w:b9) (H:Hp) (s:ah) (e:ae) (s':ah),CX w [] H s (fun _ _ _=>False) e s'->False) :
  Ro q loose XP YP l.row.toRowW d [] (fun f vs=>LX f vs):=by
 refine Att.attach_call hn hdf fun w s₀ s₁ mg mb fa o pm cd doc a vs ns G Y ho hd hcd hmg hobj hints hlen hg=>?_
 have KX:=hY w _ Y
 obtain ⟨fd,hb,hF⟩:=F w mg fa _ KX G.T.g hmg
 exact On KX G.T.g G.T.b G.T.builtins G.T.nolimit hg hobj hints (c7 hlen hn2) hr hF hb (fun H hO hS=>hsp w H a ns hlen hO hS) fun H e s'=>hCX w H s₁ e s'
end L2
namespace L2
open PySem PySem.Spec PyProof.Rows
def lD (s:bH):Arguments:=match s with
 | .FunctionDef _ a _ _ _ _ _ _ _ _=>a
 | _=>{ posonlyargs:=[],args:=[],vararg:=none,kwonlyargs:=[],kw_defaults:=[],kwarg:=none,defaults:=[] }
def i3 (s:bH):List bH:=match s with
 | .FunctionDef _ _ b _ _ _ _ _ _ _=>b
 | _=>[]
def ar (s:bH):eD:=match s with
 | .FunctionDef _ _ _ _ _ _ sc _ _ _=>sc
 | _=>{ kind:=.function,names:=[],isGenerator:=false,isCoroutine:=false }
abbrev CX0:IN:=fun _ _ _ _ _ _=>False
abbrev E0:XK:=fun _ _ _=>False
structure Io (K:a9) (x qual:Str) (st:bH) (f:ai) (fd:dE):Prop where
 ex:∃ (oc:ae) (od:Option ai) (kV doc pm:ae) (an:Option ai) (cdv ct:ae) (osl:Array (Option ae)),
  fd=eR x qual (lD st) (i3 st) (ar st) .none kV doc pm an cdv ct/\K.lookup f=some ⟨oc,od,.func fd,osl⟩/\k7 K cdv qual=true
 kp:eE K (.ref f)=true
section
variable {P:aH}{w:b9}{K:a9}{mg:Str->Option ae}{base:br}
theorem Io.binds {x qual:Str}{st:bH}{f:ai}{fd:dE}{ps:List Str} (F:Io K x qual st f fd)
  (h:∀ (kV doc pm:ae) (an:Option ai) (cdv ct:ae) (us:List ae),us.length=ps.length->Rz (eR x qual (lD st) (i3 st) (ar st) .none kV doc pm an cdv ct) ⟨us,[]⟩=pure (ps.zip us)):kQ K fd ps []:=by
 obtain ⟨oc,od,kV,doc,pm,an,cdv,ct,osl,rfl,lk,hcd⟩:=F.ex
 exact .all (h kV doc pm an cdv ct)
theorem Oo {x qual:Str}{st:bH}{f:ai}{oc:ae}{od an:Option ai}{osl:Array (Option ae)}{kV doc pm cdv ct:ae} (l:K.lookup f=some ⟨oc,od,.func (eR x qual (lD st) (i3 st) (ar st) .none kV doc pm an cdv ct),osl⟩)
  (c:k7 K cdv qual=true) (k:eE K (.ref f)=true):Io K x qual st f (eR x qual (lD st) (i3 st) (ar st) .none kV doc pm an cdv ct):=⟨⟨oc,od,kV,doc,pm,an,cdv,ct,osl,rfl,l,c⟩,k⟩
end
theorem jP {A:aW}{k:Nat} (hr:jH k A):A.units + 1<ue:=oJ (Nz (by decide:1<=64) _) hr.units
theorem c8 {n:Nat} (h:n<=1000):n<sizeLine:=oJ h (by decide)
section
variable {X:Cx}
theorem pv (i:Nat) {x:Str}{pos:Pos} (hN:X.N[i]?=some x:=by rfl) (hv:NX X.env.scope x:=by first | exact fu rfl | exact dS (fu rfl) | exact dS (dS rfl)) (hd:(x == ("__debug__" : Str))=false:=by decide)
  (hcd:(x == ("__classdict__" : Str))=false:=by decide):PE X (.Name x pos) (M7 i):=mZ hN hv hd hcd
end
theorem Ee {A B:Prop} (h:B):if false=true then A else B:=by
 rw [if_neg ba]
 exact h
theorem IT {A B:Prop} (h:A):if true=true then A else B:=by
 rw [if_pos rfl]
 exact h
def eg (H H':Hp):Prop:=∀ b o,H b=some o->H' b=some o
theorem eg.refl (H:Hp):eg H H:=fun _ _ h=>h
theorem eg.trans {H H1 H2:Hp} (a:eg H H1) (b:eg H1 H2):eg H H2:=fun c o h=>b c o (a c o h)
theorem eg.free {H H':Hp} (e:eg H H') {l:ai} (h:H' l=Option.none):H l=Option.none:=by
 cases q:H l with
 | none=>rfl
 | some o =>
  rw [e l o q] at h
  cases h
theorem eg.seq {K:a9}{H H':Hp}{a:ai}{xs:List V} (e:eg H H') (h:pJ K H a xs):pJ K H' a xs:=by
 rcases h with (h | ⟨o,h⟩) | h
 ·exact .inl (.inl (e _ _ h))
 ·exact .inl (.inr ⟨o,e _ _ h⟩)
 ·exact .inr h
end L2
end
section
namespace L2
open PySem PySem.Spec PyProof.Rows
section
variable {κ:Type} [DecidableEq κ]
def w6 (kvs:List (κ×V)) (k:κ):Option V:=(kvs.find? fun kv=>decide (kv.1=k)).map (·.2)
def xG (kvs:List (κ×V)) (k:κ) (v:V):List (κ×V) :=
 if (kvs.any fun kv=>decide (kv.1=k))=true then kvs.map (fun kv=>if kv.1=k then (kv.1,v) else kv) else kvs++[(k,v)]
def Op (kvs:List (κ×V)) (k:κ):List (κ×V):=kvs.filter fun kv=>decide (kv.1≠k)
theorem Ak {p:κ×V}{r:List (κ×V)}{k:κ} (e:p.1=k):w6 (p::r) k=some p.2:=by simp [w6,e7,e]
theorem Al {p:κ×V}{r:List (κ×V)}{k:κ} (e:¬ p.1=k):w6 (p::r) k=w6 r k:=by simp [w6,e7,e]
theorem G8 (k:κ):∀ kvs:List (κ×V),(kvs.any fun kv=>decide (kv.1=k))=(w6 kvs k).isSome
 | []=>rfl
 | p::r=>by
  rw [fG]
  by_cases e:p.1=k
  ·simp only [Ak e,decide_eq_true e,Bool.true_or,vL]
  ·rw [Al e,decide_eq_false e,vT];exact G8 k r
theorem yE (kvs:List (κ×V)) (k:κ) (v:V):(xG kvs k v).length<=kvs.length + 1:=by
 unfold xG
 split
 ·rw [aN];omega
 ·rw [bw,cc,gC];omega
theorem Ad.isSome_eq {o:Option V}{u:Option ae} (r:Ad o u):o.isSome=u.isSome:=by
 cases o with
 | none=>cases u with
  | none=>rfl
  | some _=>exact (show False from r).elim
 | some _=>cases u with
  | none=>exact (show False from r).elim
  | some _=>rfl
theorem KV.val {kvs:List (κ×V)}{vs:List (κ×ae)} (r:KV kvs vs) (k:κ):Ad (w6 kvs k) (Ca vs k):=by
 unfold KV at r
 induction r with
 | nil=>exact jZ
 | @cons p q ps qs h t ih =>
  obtain ⟨h1,h2⟩:=h
  by_cases e:p.1=k
  ·have e':q.1=k:=h1.symm.trans e
   have b:Ca (q::qs) k=some q.2:=by simp [Ca,e7,e']
   rw [Ak e,b];exact h2
  ·have e':¬ q.1=k:=fun z=>e (h1.trans z)
   have b:Ca (q::qs) k=Ca qs k:=by simp [Ca,e7,e']
   rw [Al e,b];exact ih
theorem KV.any {kvs:List (κ×V)}{vs:List (κ×ae)} (r:KV kvs vs) (k:κ):(kvs.any fun kv=>decide (kv.1=k))=vs.any fun kv=>decide (kv.1=k):=by
 unfold KV at r
 induction r with
 | nil=>rfl
 | cons h t ih=>rw [fG,fG,ih,h.1]
theorem KV.repl {kvs:List (κ×V)}{vs:List (κ×ae)} (r:KV kvs vs) (k:κ) {y:V}{u:ae} (ry:dW y u) :
  KV (kvs.map fun kv=>if kv.1=k then (kv.1,y) else kv) (vs.map fun kv=>if kv.1=k then (kv.1,u) else kv):=by
 unfold KV at r ⊢
 induction r with
 | nil=>exact .nil
 | @cons p q ps qs h t ih =>
  rw [bd,bd]
  refine .cons ?_ ih
  obtain ⟨h1,h2⟩:=h
  by_cases e:p.1=k
  ·rw [if_pos e,if_pos (h1.symm.trans e)];exact ⟨h1,ry⟩
  ·rw [if_neg e,if_neg (fun z=>e (h1.trans z))];exact ⟨h1,h2⟩
theorem KV.put {kvs:List (κ×V)}{vs:List (κ×ae)} (r:KV kvs vs) (k:κ) {y:V}{u:ae} (ry:dW y u):KV (xG kvs k y) (stored vs k u):=by
 unfold xG stored
 rw [r.any k]
 by_cases e:(vs.any fun kv=>decide (kv.1=k))=true
 ·rw [if_pos e,if_pos e];exact r.repl k ry
 ·rw [if_neg e,if_neg e];exact Paired.snoc r ⟨rfl,ry⟩
theorem KV.length {kvs:List (κ×V)}{vs:List (κ×ae)} (r:KV kvs vs):kvs.length=vs.length:=uM r
end
theorem KI {P:aH}{w:b9}{k:gy}{u:ae} (r:dW (kV k) u):(iJ P w).is k u=true:=by
 cases k with
 | inl i=>obtain ⟨t,e⟩:=(show ∃ t,u=qC i t from r);subst e;exact FY P w i t
 | inr x=>obtain ⟨t,e⟩:=(show ∃ t,u=lO x t from r);subst e;exact FZ P w x t
theorem Do {P:aH}{w:b9}:∀ {ks:List gy}{us:List ae},du (ks.map kV) us->ItemsAre (iJ P w) ks us
 | [],_,r=>by rw [gL] at r;cases r;exact .nil
 | k::ks,_,r=>by
  rw [bd] at r
  cases r with
  | cons h t=>exact .cons (KI h) (Do t)
abbrev KT (H:Hp):List (List gy×V)->List (List gy×ai×ae)->Prop:=NI fun p q=>p.1=q.1/\H q.2.1=some (.tup (p.1.map kV))/\dW p.2 q.2.2
theorem KT.val {H:Hp}{kvs:List (List gy×V)}{xs:List (List gy×ai×ae)} (r:KT H kvs xs) (k:List gy):Ad (w6 kvs k) ((Ix xs k).map (·.2)):=by
 induction r with
 | nil=>exact jZ
 | @cons p q ps qs h t ih =>
  obtain ⟨h1,_,h2⟩:=h
  by_cases e:p.1=k
  ·have e':q.1=k:=h1.symm.trans e
   have b:Ix (q::qs) k=some q.2:=by simp [Ix,e7,e']
   rw [Ak e,b];exact h2
  ·have e':¬ q.1=k:=fun z=>e (h1.trans z)
   have b:Ix (q::qs) k=Ix qs k:=by simp [Ix,e7,e']
   rw [Al e,b];exact ih
theorem KT.repl {H:Hp}{kvs:List (List gy×V)}{xs:List (List gy×ai×ae)} (r:KT H kvs xs) (k:List gy) {y:V}{u:ae} (ry:dW y u) :
  KT H (kvs.map fun kv=>if kv.1=k then (kv.1,y) else kv) (xs.map (putAt k u)):=by
 induction r with
 | nil=>exact .nil
 | @cons p q ps qs h t ih =>
  rw [bd,bd]
  refine .cons ?_ ih
  obtain ⟨h1,h2,h3⟩:=h
  unfold putAt
  by_cases e:p.1=k
  ·rw [if_pos e,if_pos (h1.symm.trans e)];exact ⟨h1,h2,ry⟩
  ·rw [if_neg e,if_neg (fun z=>e (h1.trans z))];exact ⟨h1,h2,h3⟩
theorem KT.put {H:Hp}{kvs:List (List gy×V)}{xs:List (List gy×ai×ae)} (r:KT H kvs xs) (k:List gy) {b:ai}{y:V}{u:ae} (hb:H b=some (.tup (k.map kV))) (ry:dW y u) :
  KT H (xG kvs k y) (storedH xs k b u):=by
 have e:(kvs.any fun kv=>decide (kv.1=k))=(Ix xs k).isSome:=by
  rw [G8,(r.val k).isSome_eq,LY]
 unfold xG storedH
 rw [e]
 by_cases q:(Ix xs k).isSome=true
 ·rw [if_pos q,if_pos q];exact r.repl k ry
 ·rw [if_neg q,if_neg q];exact Paired.snoc r ⟨rfl,hb,ry⟩
theorem KT.keeps {H H':Hp}{kvs:List (List gy×V)}{xs:List (List gy×ai×ae)} (r:KT H kvs xs) (ht:∀ b ys,H b=some (.tup ys)->H' b=some (.tup ys)):KT H' kvs xs :=
 Paired.mapP r fun _ _ z=>⟨z.1,ht _ _ z.2.1,z.2.2⟩
section
variable {P:aH}{w:b9}{H:Hp}{h:br}{a:ai}
theorem Up {u:HO} (ok:rW P w H h) (e:Rd H a u):eB P w H h a u:=e.ok ok
theorem KJ {kvs:List (gy×V)} (ok:rW P w H h) (e:Rd H a (.dK kvs)):kvs.length<=sizeLine/\(a == kS)=false/\∃ vs,KV kvs vs/\h.DictOf (iJ P w) a vs :=
 show eB P w H h a (.dK kvs) from Up ok e
theorem Xw {kvs:List (gy×V)} (ok:rW P w H h) (e:H a=some (.dK kvs)):kvs.length<=sizeLine/\(a == kS)=false/\∃ vs,KV kvs vs/\h.DictOf (iJ P w) a vs:=KJ ok (.inl e)
theorem Ef {ks:List gy} (ok:rW P w H h) (e:H a=some (.tup (ks.map kV))):(DY (iJ P w)).is h ks a:=by
 obtain ⟨_,its,r,o,h1,h2,n,h3⟩:=(show eB P w H h a (.tup (ks.map kV)) from ok a _ e)
 exact ⟨o,its.toArray,n,h1,h2,h3,by simpa using Do r⟩
theorem KL {kvs:List (List gy×V)} (ok:rW P w H h) (e:Rd H a (.dT kvs)):kvs.length<=sizeLine/\(a == kS)=false /\
  ∃ xs,KT H kvs xs/\h.DictOfH (DY (iJ P w)) a xs:=by
 obtain ⟨z,y,xs,r,o,es,ep,h1,h2,h3,h4,h5⟩:=(show eB P w H h a (.dT kvs) from Up ok e)
 refine ⟨z,y,xs,r,o,es,ep,h1,h2,h3,h4,fun x hx=>?_,h5⟩
 have all:∀ {l:List (List gy×V)}{m:List (List gy×ai×ae)},KT H l m->∀ x∈m,(DY (iJ P w)).is h x.1 x.2.1:=by
  intro l m q
  induction q with
  | nil=>intro x hx;exact nomatch hx
  | @cons p q ps qs hq t ih =>
   intro x hx
   rcases List.mem_cons.mp hx with e | hx
   ·subst e
    exact Ef ok (by rw [<- hq.1];exact hq.2.1)
   ·exact ih x hx
 exact all r x hx
theorem Xx {kvs:List (List gy×V)} (ok:rW P w H h) (e:H a=some (.dT kvs)):kvs.length<=sizeLine/\(a == kS)=false /\
  ∃ xs,KT H kvs xs/\h.DictOfH (DY (iJ P w)) a xs:=KL ok (.inl e)
end
def IU (H:Hp) (a:ai) (y:V) (r:Option V):Prop :=
 (∃ kvs k,Rd H a (.dK kvs)/\y=kV k/\r=w6 kvs k)\/∃ kvs k b,Rd H a (.dT kvs)/\y=.ref b/\H b=some (.tup (k.map kV))/\r=w6 kvs k
def Oq (H:Hp) (a:ai) (y v:V) (H':Hp):Prop :=
 (∃ kvs k,H a=some (.dK kvs)/\y=kV k/\kvs.length<sizeLine/\H'=upd H a (.dK (xG kvs k v))) \/
 ∃ kvs k b,H a=some (.dT kvs)/\y=.ref b/\H b=some (.tup (k.map kV))/\kvs.length<sizeLine/\H'=upd H a (.dT (xG kvs k v))
theorem IU.k {H:Hp}{a:ai}{kvs:List (gy×V)}{k:gy} (e:H a=some (.dK kvs)):IU H a (kV k) (w6 kvs k):=.inl ⟨kvs,k,.inl e,rfl,rfl⟩
theorem Oq.k {H:Hp}{a:ai}{kvs:List (gy×V)}{k:gy}{v:V} (e:H a=some (.dK kvs)) (hl:kvs.length<sizeLine):Oq H a (kV k) v (upd H a (.dK (xG kvs k v))):=.inl ⟨kvs,k,e,rfl,hl,rfl⟩
section
variable {X:Cx}{pins:List (ai×Obj)}{σ:St}{H:Hp}{s:ah}{a:ai}{y v:V}{u r:ae}{o:Option V}{A:aW}{E:ae->ah->Prop}
theorem bI.big (I:bI X pins σ H s):kS<s.heap.objs.size:=by
 have h:bF<s.heap.objs.size:=(I.mod.glob.keeps I.bk).lt
 exact Nat.lt_trans (by decide) h
theorem Mh {Q:ae->ah->Prop} (hu:A.units + 1<ue) (I:bI X pins σ H s) (g:IU H a y (some v)) (ry:dW y u) (h:∀ w' s',bI X pins σ H s'->dW v w'->Q w' s') :
  av (aG X.prog X.w) A (nO (.ref a) u) Q E s:=by
 rcases g with ⟨kvs,k,e,ey,l⟩ | ⟨kvs,k,b,e,ey,eb,l⟩
 ·subst ey
  obtain ⟨z,hd,vs,rel,dd⟩:=KJ I.hok e
  obtain ⟨w',hw,rw'⟩:=Ad.some_of (v:=v) (o:=Ca vs k) (by rw [l];exact rel.val k)
  exact wpAny_getItem_of (KI ry) dd.mapOf hw (h w' _ (I.tok _) rw')
 ·subst ey
  cases (show u=c6 b from ry)
  obtain ⟨z,hd,xs,rel,dd⟩:=KL I.hok e
  obtain ⟨w',hw,rw'⟩:=Ad.some_of (v:=v) (o:=(Ix xs k).map (·.2)) (by rw [l];exact rel.val k)
  obtain ⟨p,hp,hp2⟩:=Option.map_eq_some_iff.mp hw
  refine wpAny_getItem_heap (A5 hu) (Ef I.hok eb) dd hp ?_
  rw [hp2]
  exact h w' _ (I.tok _) rw'
theorem d_in {Q:ae->ah->Prop} (hu:A.units + 1<ue) (I:bI X pins σ H s) (g:IU H a y o) (ry:dW y u) (h:∀ s',bI X pins σ H s'->Q (.bool o.isSome) s') :
  av (aG X.prog X.w) A (bX .In u (.ref a)) Q E s:=by
 rcases g with ⟨kvs,k,e,ey,l⟩ | ⟨kvs,k,b,e,ey,eb,l⟩
 ·subst ey
  obtain ⟨z,hd,vs,rel,dd⟩:=KJ I.hok e
  refine wpAny_in_of (KI ry) hd dd.mapOf ?_
  rw [<- (rel.val k).isSome_eq,<- l]
  exact h _ (I.tok _)
 ·subst ey
  cases (show u=c6 b from ry)
  obtain ⟨z,hd,xs,rel,dd⟩:=KL I.hok e
  refine wpAny_in_heap (A5 hu) (Ef I.hok eb) hd dd ?_
  have q:=(rel.val k).isSome_eq
  rw [LY] at q
  rw [<- q,<- l]
  exact h _ (I.tok _)
theorem KM {h':br}{t':Nat}{ob:HO} (I:bI X pins σ H s) (mu:X8 (H a)) (hs:cF a s.heap h') (he:∃ q,h'.get? a=some q) (new:eB X.prog X.w (upd H a ob) h' a ob) :
  bI X pins σ (upd H a ob) { s with heap:=h',toks:=t' } :=
 I.write (x:=a) (e:=a) mu (.inl rfl) (fun b q hb z=>(hs.2 b hb).trans z) he new
theorem VM {P:aH}{w:b9}{H':Hp}{h':br}{kvs:List (gy×V)}{vs:List (gy×ae)} (z:kvs.length<=sizeLine) (hd:(a == kS)=false) (rel:KV kvs vs) (dd:h'.DictOf (iJ P w) a vs) :
  eB P w H' h' a (.dK kvs):=⟨z,hd,vs,rel,dd⟩
theorem Mi {H':Hp}{Q:Unit->ah->Prop} (hu:A.units + 1<ue) (I:bI X pins σ H s) (g:Oq H a y v H') (ry:dW y u) (rv:dW v r) (h:∀ s',bI X pins σ H' s'->Q () s') :
  av (aG X.prog X.w) A (setItem (.ref a) u r) Q E s:=by
 rcases g with ⟨kvs,k,e,ey,l,eH⟩ | ⟨kvs,k,b,e,ey,eb,l,eH⟩
 ·subst ey eH
  obtain ⟨z,hd,vs,rel,dd⟩:=Xw I.hok e
  have hz:vs.length<=sizeLine:=by rw [<- rel.length];exact z
  have hl:(xG kvs k v).length<=sizeLine:=by have:=yE kvs k v;omega
  refine wpAny_setItem_pairs (hsz:=hz) (KI ry) dd fun h' dd' hs=>h _ ?_
  have he:∃ q,h'.get? a=some q:=let ⟨q,_,_,hq,_⟩:=dd';⟨q,hq⟩
  exact KM I (by rw [e];exact jZ) hs he (VM hl hd (rel.put k rv) dd')
 ·subst ey eH
  cases (show u=c6 b from ry)
  obtain ⟨z,hd,xs,rel,dd⟩:=Xx I.hok e
  have hz:xs.length<=sizeLine:=by rw [<- uM rel];exact z
  have hl:(xG kvs k v).length<=sizeLine:=by have:=yE kvs k v;omega
  refine wpAny_setItem_heap (hsz:=hz) (A5 hu) (Ef I.hok eb) dd fun h' dd' hs=>h _ ?_
  obtain ⟨q,es,ep,hq,h2,h3,h4,_,h5⟩:=dd'
  refine KM I (by rw [e];exact jZ) hs ⟨q,hq⟩ ⟨hl,hd,_,(rel.put k eb rv).keeps fun c ys ec=>?_,q,es,ep,hq,h2,h3,h4,h5⟩
  rw [a_ (X7 ec e (fun z=>nomatch z))]
  exact ec
end
section
variable {X:Cx}{pins:List (ai×Obj)}{σ:St}{H:Hp}{s:ah}{a:ai}{kvs:List (gy×V)}{k:gy}{u:ae}{A:aW}{E:ae->ah->Prop}
end
def Xy (i:aR):Prop:=∀ ov iv,FP i false ov iv=operate [ov,iv] (nO ov iv)
theorem Sh {prog:aH}{w:b9}{A:aW}{E:ae->ah->Prop}{s:ah}{env:Env}{value slice:aR}{pos:Pos}{T id:String}{Q:ae->ah->Prop}
  (hl:iT (.type T) "__getitem__"=pure (some (.builtin id))) (hs:Xy slice)
  (h:av (aG prog w) A (cG value env) (fun o s₁=>av (aG prog w) A (cG slice env) (fun i s₂=>s₂.TypeIs o T/\av (aG prog w) A (nO o i) Q E s₂) E s₁) E s) :
  av (aG prog w) A (cG (.Subscript value slice pos) env) Q E s:=by
 refine Iw (bh h (fun o s₁ h₁=>bh h₁ (fun i s₂ h₂=>?_) fun _ _ x=>x) fun _ _ x=>x)
 obtain ⟨hT,h₂⟩:=h₂
 unfold zG
 refine aa ?_
 rw [getitemInPython_of_ne hT.not_modules]
 refine aa (wpAny_specialOf hT hl ?_)
 have fin:av (aG prog w) A (FP slice false o i) (fun r s₃=>av (aG prog w) A (letTemporaryGo value o r >>= fun _=>pure r) Q E s₃) E s₂:=by
  rw [hs o i]
  exact wpAny_operating (bh h₂ (fun r s₃ h₃=>aa (wpAny_letTemporaryGo (aj h₃))) fun _ _ x=>x)
 first
  | exact aj (aa fin)
  | exact aa (aj (aa fin))
  | exact aa fin
theorem G9 {X:Cx}{pins:List (ai×Obj)}{σ:St}{H:Hp}{s:ah}{a:ai}{y:V}{o:Option V} (I:bI X pins σ H s) (g:IU H a y o):s.TypeIs (.ref a) "dict":=by
 rcases g with ⟨kvs,k,e,_,_⟩ | ⟨kvs,k,b,e,_,_,_⟩
 ·obtain ⟨_,_,vs,_,dd⟩:=KJ I.hok e
  exact dd.typeIs
 ·obtain ⟨_,_,xs,_,dd⟩:=KL I.hok e
  exact dd.typeIs
def Xz (td ty:TE):TE:=fun σ H Q=>td σ H fun x H1=>ty σ H1 fun y H2=>∃ a v,x=.ref a/\IU H2 a y (some v)/\Q v H2
def Uq (td ty tv:TE):TS:=fun D σ H=>tv σ H fun v H1=>td σ H1 fun x H2=>ty σ H2 fun y H3=>∃ a H4,x=.ref a/\Oq H3 a y v H4/\D.nx σ H4
section
variable {X:Cx}{o i e value:aR}{pos pos' tpos:Pos}{td ty tv:TE}
theorem Si (hu:X.A.units + 1<ue) (ho:PE X o td) (hi:PE X i ty) (hs:Xy i):PE X (.Subscript o i pos) (Xz td ty):=by
 intro pins s σ H Q I h
 refine Sh PySem.F.slot_dict_getitem.lookup hs (fF (ho pins s σ H _ I h) fun u s1 ⟨x,H1,I1,rx,q1⟩=>fF (hi pins s1 σ H1 _ I1 q1) fun iv s2 ⟨y,H2,I2,ry,a,v,ex,g,q2⟩=>?_)
 subst ex
 obtain rfl:u=c6 a:=rx
 exact ⟨G9 I2 g,Mh hu I2 g ry fun w' s3 I3 rw'=>⟨v,H2,I3,rw',q2⟩⟩
theorem Sj (hu:X.A.units + 1<ue) (ho:PE X o td) (hi:PE X i ty) (hv:PE X value tv) (hs:fh value (some (.Subscript o i pos')) pos.line X.env=pure false) :
  PS X (.Assign [.Subscript o i pos'] value pos) (Uq td ty tv):=by
 intro pins s σ H D I h
 refine wpAny_Assign_Subscript (fF (hv pins s σ H _ I h) fun r s1 ⟨v,H1,I1,rv,q1⟩=>fF (ho pins s1 σ H1 _ I1 q1) fun u s2 ⟨x,H2,I2,rx,q2⟩=>fF (hi pins s2 σ H2 _ I2 q2) fun iv s3 ⟨y,H3,I3,ry,a,H4,ex,g,q3⟩=>?_) hs
 subst ex
 obtain rfl:u=c6 a:=rx
 exact Mi hu I3 g ry rv fun s4 I4=>⟨σ,H4,I4,q3⟩
end
theorem Os {P:aH}{w:b9}{H:Hp} (h:br) (hb:kS<h.objs.size):eB P w H (h.push { cls:=.type "dict",data:=.dict #[] }) h.objs.size (.dK []) :=
 ⟨dU _,beq_eq_false_iff_ne.mpr (fM (aO hb)),[],.nil,Heap.DictOf.new h⟩
def VN:TE:=fun _ H Q=>∀ p,H p=none->Q (.ref p) (upd H p (.dK []))
section
variable {X:Cx}{pos:Pos}
theorem Ot:PE X (.Dict [] [] pos) VN:=fun pins s σ H Q I h =>
 wpAny_Dict_empty ⟨.ref s.heap.objs.size,_,I.laid (a:=s.heap.objs.size) (o:=.dK []) (t':=s.toks) (fun _ _ q=>ag _ q) (az _) (Os s.heap I.big),rfl,h _ (I.hok.fresh (az _))⟩
end
section
variable {X:Cx}{pins:List (ai×Obj)}{σ:St}{H:Hp}{s:ah}{a:ai}{y d:V}{u r:ae}{o:Option V}{A:aW}{E:ae->ah->Prop}
end
section
variable {X:Cx}{o e f:aR}{apos cpos:Pos}{td ty tx:TE}
end
section
variable {X:Cx}{pins:List (ai×Obj)}{σ:St}{H:Hp}{s:ah}{a:ai}{kvs:List (gy×V)}{A:aW}{E:ae->ah->Prop}
end
section
variable {X:Cx}{pins:List (ai×Obj)}{σ:St}{H:Hp}{s:ah}{a:ai}{y:V}{u:ae}{A:aW}{E:ae->ah->Prop}
end
end L2
namespace L2
open PySem PySem.Spec PyProof.Rows
section
variable {X:Cx}
end
section
variable {κ:Type} [DecidableEq κ]
theorem KN:∀ {l:List κ}{k:κ},l.Nodup->¬ k∈l->(l++[k]).Nodup
 | [],k,_,_=>by simp
 | a::r,k,h,hk=>by
  obtain ⟨h1,h2⟩:=List.nodup_cons.mp h
  show (a::(r++[k])).Nodup
  refine List.nodup_cons.mpr ⟨fun m=>?_,KN h2 fun m=>hk (List.mem_cons.mpr (dS m))⟩
  rcases List.mem_append.mp m with q | q
  ·exact h1 q
  ·exact hk (List.mem_cons.mpr (fu (List.mem_singleton.mp q).symm))
end
end L2
end
namespace L2
open PySem PySem.Spec PyProof.Rows
section
section
variable {prog:aH}{w:b9}{A:aW}{R:uO->ah->Prop}{s:ah}
theorem Eg {elt target iter:aR}{ifs:List aR}{scope:eD}{pos:Pos}{it acc:ae}{env:Env} (I:Nat->ah->Prop)
  (turn:∀ n s,I n s->av (aG prog w) A (rY it) (fun r s₁=>match r with
   | none=>R (.ok .next) s₁
   | some v=>av (aG prog w) A (hJ target it v) (fun _ s₁'=>av (aG prog w) A (rX target env v) (fun _ s₂ =>
     av (aG prog w) A (forIn ifs true fun c r=>if r=true then do let ok <- DZ c env (cG c env);pure (fP ok) else pure (fP r)) (fun ok s₃ =>
      if ok=true then av (aG prog w) A (cG elt env) (fun x s₄ =>
       av (aG prog w) A (call (.builtin "list.append") [acc,x]) (fun _ s₅=>∃ m,m<n/\I m s₅) (fun _ _=>False) s₄) (fun _ _=>False) s₃
      else ∃ m,m<n/\I m s₃) (fun _ _=>False) s₂) (fun _ _=>False) s₁') (fun _ _=>False) s₁) (fun _ _=>False) s)
  (n:Nat) (h:I n s) :
  iS (aG prog w) A (.compLoop (.ListComp elt [⟨target,iter,ifs,0⟩] scope pos) 0 it acc env) R s:=by
 refine codeAny_loop rfl I (fun n s hI=>?_) n h
 show av _ A ((compTurn (.ListComp elt [⟨target,iter,ifs,0⟩] scope pos) 0 it acc env).onRaise (fun x=>do E4 x env;theTreesLotGoes x)) _ _ s
 refine wpAny_noted ?_
 rw [compTurn_list]
 have nf:∀ {α:Type}{t:Sem α}{Q:α->ah->Prop}{E':ae->ah->Prop}{s:ah},av (aG prog w) A t Q (fun _ _=>False) s->av (aG prog w) A t Q E' s :=
  fun h=>bh h (fun _ _ q=>q) fun _ _ f=>f.elim
 refine aa (dG (aa (nf (bh (turn n s hI) (fun r s₁ h₁=>?_) fun _ _ h'=>h'))))
 cases r with
 | none=>exact aj h₁
 | some v =>
  refine aa (nf (bh h₁ (fun _ s₁' h₁'=>?_) fun _ _ h'=>h'))
  refine aa (nf (bh h₁' (fun _ s₂ h₂=>aa (nf (bh h₂ (fun ok s₃ h₃=>?_) fun _ _ h'=>h'))) fun _ _ h'=>h'))
  cases ok with
  | false=>exact aj ⟨rfl,h₃⟩
  | true =>
   exact aa (aa (nf (bh h₃ (fun x s₄ h₄=>aa (nf (bh h₄ (fun _ s₅ h₅=>aj (aj ⟨rfl,h₅⟩)) fun _ _ h'=>h'))) fun _ _ h'=>h')))
end
theorem IV {env : Env} (names : List (Str × kM)) : ∀ (cs : List (Str × ai)), (∀ y ∈ names, y.2 = .free -> ∃ c, env.cells.lookup y.1 = some c) ->
    (∀ x c, cs.lookup x = some c -> env.cells.lookup x = some c) ->
    ∃ cl, (forIn names cs fun (x : Str × kM) (cs : List (Str × ai)) => match x with
        | (name, kind) => if (kind == cq) = true then do let a <- cellOf env name; pure (fP ((name, a) :: cs)) else pure (fP cs) : Sem (List (Str × ai))) = pure cl /\
      (∀ x c, cl.lookup x = some c -> env.cells.lookup x = some c) /\ (∀ y ∈ names, y.2 = .free -> ∃ c, cl.lookup y.1 = some c) /\ (∀ x c, cs.lookup x = some c -> ∃ c', cl.lookup x = some c') := by
  induction names with
  | nil => intro cs _ h2; exact ⟨cs, rfl, h2, fun _ h => absurd h (by simp), fun x c h => ⟨c, h⟩⟩
  | cons nk r ih =>
    obtain ⟨n, k⟩ := nk
    intro cs h1 h2
    by_cases hk : k = .free
    · subst hk
      obtain ⟨a, ha⟩ := h1 (n, .free) ay rfl
      have h2' : ∀ x c, ((n, a) :: cs).lookup x = some c -> env.cells.lookup x = some c := fun x c h => by
        rw [df] at h
        cases e : x == n with
        | true => rw [e] at h; have : x = n := by simpa using e
                  subst this; cases h; exact ha
        | false => rw [e] at h; exact h2 x c h
      obtain ⟨cl, e1, e2, e3, e4⟩ := ih ((n, a) :: cs) (fun y hy => h1 y (aA _ hy)) h2'
      refine ⟨cl, ?_, e2, fun y hy hf => ?_, fun x c h => ?_⟩
      · rw [sd]
        have hc : cellOf env n = pure a := by unfold cellOf; rw [ha]
        simp only [beq_self_eq_true, if_true, hc]
        exact e1
      · rcases List.mem_cons.mp hy with rfl | hy
        · exact e4 n a (by simp)
        · exact e3 y hy hf
      · cases e : x == n with
        | true => exact e4 x a (by rw [df, e])
        | false => exact e4 x c (by rw [df, e]; exact h)
    · obtain ⟨cl, e1, e2, e3, e4⟩ := ih cs (fun y hy => h1 y (aA _ hy)) h2
      refine ⟨cl, ?_, e2, fun y hy hf => ?_, e4⟩
      · rw [sd]
        have hk' : (k == cq) = false := by simpa using hk
        simp only [hk', cz, if_false]
        exact e1
      · rcases List.mem_cons.mp hy with rfl | hy
        · exact absurd hf hk
        · exact e3 y hy hf
theorem uX {scope:eD}{env:Env} (h:∀ y∈scope.names,y.2=.free->∃ c,env.cells.lookup y.1=some c):∃ cl,closureFor scope env=pure cl /\
  (∀ x c,cl.lookup x=some c->env.cells.lookup x=some c)/\(∀ y∈scope.names,y.2=.free->∃ c,cl.lookup y.1=some c):=by
 obtain ⟨cl,e1,e2,e3,_⟩:=IV (env:=env) scope.names [] h (fun x c h=>by simp at h)
 refine ⟨cl,?_,e2,e3⟩
 simp only [closureFor]
 rw [show (forIn scope.names ([] : List (Str×ai)) fun x r=>_)=(pure cl:Sem (List (Str×ai))) from e1]
 rfl
end
section
def de (X:Cx) (N':List Str) (scope:eD) (cl:List (Str×ai)) (C:ai) (s₀:ah) (H₀:Hp) (ex:List ai) (pn:List (ai×Obj)):Cx :=
 { X with N:=N',s₀:=s₀,H₀:=H₀,env:=compEnvC scope cl C X.env,outer:=X.stack,stack:=X.stack,ex:=ex,fn:=fun y=>scope.names.lookup y == some .cell,pn:=pn,xe:=fun _ _=>False }
def Rv (X:Cx) (ifs:List aR) (t:TT):Prop :=
 ∀ (pins:List (ai×Obj)) (s:ah) (σ:St) (H:Hp) (Q:Bool->Hp->Prop),bI X pins σ H s->t σ H Q ->
  av (aG X.prog X.w) X.A (forIn ifs true fun c r=>if r=true then do let ok <- DZ c X.env (cG c X.env);pure (fP ok) else pure (fP r)) (TP X pins σ Q) X.xe s
def ZQ:TT:=fun _ H Q=>Q true H
theorem Sk {X:Cx}:Rv X [] ZQ:=fun pins s σ H Q I h=>wpAny_tests_nil ⟨H,I,h⟩
theorem Sm {X:Cx}{c:aR}{t:TT} (h:PT X c t):Rv X [c] t:=fun pins s σ H Q I hw=>wpAny_tests_one (h pins s σ H Q I hw)
structure oO (X:Cx) (scope:eD) (N':List Str) (nt:Nat) (ix:List Nat):Prop where
 kind:scope.kind=.function
 cel:∀ y∈scope.names,y.2=.cell->scope.names.lookup y.1=some .cell
 loc:∀ y∈scope.names,y.2=.local->scope.names.lookup y.1=some .local
 free:∀ y∈scope.names,y.2=.free->X.env.scope.names.lookup y.1=some .cell\/X.env.scope.names.lookup y.1=some .free
 cap:∀ k i,ix[k]?=some i->∃ x,X.N[i]?=some x/\N'[nt + k]?=some x/\scope.names.lookup x=some .free
 len:N'.length=nt + ix.length
def jY (nt:Nat) (ix:List Nat) (σ:St):St:=bt nt none++ix.map fun i=>(σ[i]?).join
theorem uk {env:Env}{x:Str}{names:List (Str×kM)}:names.lookup x=some .free ->
  (names.map fun (n,k)=>if (k == cq && env.scope.kind == .function && env.kindOf n == some .cell) then (n,eC) else (n,k)).lookup x=some .free \/
  (names.map fun (n,k)=>if (k == cq && env.scope.kind == .function && env.kindOf n == some .cell) then (n,eC) else (n,k)).lookup x=some .cell:=by
 induction names with
 | nil=>intro h;simp at h
 | cons nk r ih =>
  obtain ⟨n,k⟩:=nk
  intro h
  show A6 x ((if (k == cq && env.scope.kind == .function && env.kindOf n == some .cell)=true then (n,eC) else (n,k))::_)=_ \/
   A6 x ((if (k == cq && env.scope.kind == .function && env.kindOf n == some .cell)=true then (n,eC) else (n,k))::_)=_
  cases hx:x == n with
  | true =>
   simp only [df,hx] at h
   cases h
   by_cases hc:(cq == cq && env.scope.kind == .function && env.kindOf n == some .cell)=true
   ·rw [if_pos hc];right;simp [df,hx]
   ·rw [if_neg hc];left;simp [df,hx]
  | false =>
   simp only [df,hx] at h
   by_cases hc:(k == cq && env.scope.kind == .function && env.kindOf n == some .cell)=true
   ·rw [if_pos hc];simp only [df,hx];exact ih h
   ·rw [if_neg hc];simp only [df,hx];exact ih h
theorem w9 {env:Env}{x:Str}{names:List (Str×kM)} :
  ((names.map fun (n,k)=>if (k == cq && env.scope.kind == .function && env.kindOf n == some .cell) then (n,eC) else (n,k)).lookup x=some .free \/
  (names.map fun (n,k)=>if (k == cq && env.scope.kind == .function && env.kindOf n == some .cell) then (n,eC) else (n,k)).lookup x=some .cell) ->
  (x,cq)∈names\/(x,eC)∈names:=by
 induction names with
 | nil=>intro h;simp at h
 | cons nk r ih =>
  obtain ⟨n,k⟩:=nk
  intro h
  have h:A6 x ((if (k == cq && env.scope.kind == .function && env.kindOf n == some .cell)=true then (n,eC) else (n,k))::_)=_ \/
   A6 x ((if (k == cq && env.scope.kind == .function && env.kindOf n == some .cell)=true then (n,eC) else (n,k))::_)=_:=h
  cases hx:x == n with
  | true =>
   have e:x=n:=by simpa using hx
   subst e
   by_cases hc:(k == cq && env.scope.kind == .function && env.kindOf x == some .cell)=true
   ·have:k=.free:=by simp at hc;exact hc.1.1
    subst this;left;exact ay
   ·rw [if_neg hc] at h;simp only [df,hx] at h
    rcases h with h | h
    ·cases h;left;exact ay
    ·cases h;right;exact ay
  | false =>
   have h':=ih (by
    by_cases hc:(k == cq && env.scope.kind == .function && env.kindOf n == some .cell)=true
    ·rw [if_pos hc] at h;simp only [df,hx] at h;exact h
    ·rw [if_neg hc] at h;simp only [df,hx] at h;exact h)
   rcases h' with h' | h'
   ·left;exact aA _ h'
   ·right;exact aA _ h'
inductive Ur (nt:Nat) (ix:List Nat) (g:TG) (tt:TT) (te:TE) (σ:St) (Q:VK) (J:It) (H1:Hp):Prop
 | mk (W:Nat->Nat->List V->Hp->Prop) (w0:∃ m,W 0 m [] H1) (turn:∀ i m acc H,W i m acc H ->
 (J.stop i H/\∀ p,H p=none->Q (.ref p) (upd H p (.lst acc))) \/
 (J.go i H/\acc.length<sizeLine/\∀ x H',J.yld i H x H'->g x (jY nt ix σ) H' fun σ2 H2=>tt σ2 H2 fun b H3 =>
  if b=true then te σ2 H3 fun y H4=>∃ m',m'<m/\W (i + 1) m' (acc++[y]) H4 else ∃ m',m'<m/\W (i + 1) m' acc H3)):Ur nt ix g tt te σ Q J H1
def Ou (nt:Nat) (ix:List Nat) (wi:TI) (g:TG) (tt:TT) (te:TE):TE:=fun σ H Q=>wi σ H (Ur nt ix g tt te σ Q)
theorem jp:∀ (names:List (Str×kM)) (n:Nat) (acc:List (Str×ai)),bn n names acc=bn n names []++acc
 | [],_,_=>rfl
 | (y,k)::r,n,acc=>by
  unfold bn
  split
  ·rw [jp r (n + 1) ((y,n)::acc),jp r (n + 1) [(y,n)],yw];rfl
  ·exact jp r n acc
theorem oP {x:Str}{c:ai}:∀ (names:List (Str×kM)) (n:Nat) (acc:List (Str×ai)),(x,c)∈bn n names acc->(x,eC)∈names\/(x,c)∈acc
 | [],_,_,h=>.inr h
 | (y,k)::r,n,acc,h=>by
  unfold bn at h
  split at h
  ·rename_i hk
   have hk:k=.cell:=by simpa using hk
   rcases oP r _ _ h with z | z
   ·exact .inl (aA _ z)
   ·rcases List.mem_cons.mp z with z | z
    ·cases z;subst hk;exact .inl ay
    ·exact .inr z
  ·exact (oP r _ _ h).imp (aA _) id
theorem lR {names:List (Str×kM)}{n:Nat}{cl:List (Str×ai)}{x:Str}{c:ai} (h:(bn n names cl).lookup x=some c) :
  (x,c)∈bn n names []\/((bn n names []).lookup x=none/\cl.lookup x=some c):=by
 rw [jp,NA] at h
 cases e:(bn n names []).lookup x with
 | some d=>rw [e] at h;cases h;exact .inl (dJ e)
 | none=>rw [e] at h;exact .inr ⟨rfl,h⟩
theorem KO {M:zC}{A:aW}{E:ae->ah->Prop}{s:ah}{scope:eD}{globals:ai}{cl:List (Str×ai)}{qual:Str}{func:Option ai}{code:ae}{outer:Env}{builtins:ai}{Q:Env->ah->Prop}
  (hQ:∀ h₁,h₁=pushCells (s.heap.push { cls:=.type "dict",data:=.dict #[] }) scope.names->Q (newEnv scope s.heap.objs.size globals (bn (s.heap.objs.size + 1) scope.names cl) qual func code (some outer) builtins) { s with heap:=h₁ }) :
  av M A (xt scope globals cl [] qual func code (some outer) builtins) Q E s:=by
 simp only [xt,vL,if_true]
 refine aa (RE ?_)
 refine aa (wpAny_layCells _ (fun name kind cells=>by cases hkc:kind == eC<;>simp [hkc]) _ _ _ _ ?_)
 rw [show ({ s with heap:=s.heap.push { cls:=.type "dict",data:=.dict #[] } }:ah).heap.objs.size=s.heap.objs.size + 1 from cr ..]
 refine aa ?_
 rw [D8]
 exact aj (aj (hQ _ rfl))
theorem Dp (h:br) (names:List (Str×kM)):CellsOk (pushCells (h.push { cls:=.type "dict",data:=.dict #[] }) names) (h.objs.size + 1) (bn (h.objs.size + 1) names []):=by
 have ok:=cellsFrom_ok names (h.push { cls:=.type "dict",data:=.dict #[] }) (h.objs.size + 1) [] ⟨fun _ _ hm=>(nomatch hm),D7⟩ (by rw [cr];exact az _)
 rw [cr] at ok
 exact ok
section
variable {X:Cx}{pins:List (ai×Obj)}{σ:St}{H:Hp}{s:ah}
theorem Ga {scope:eD}{N':List Str}{nt:Nat}{ix:List Nat}{cl:List (Str×ai)}{C:ai}{fp:List ai}{h₁:br}{t':Nat}{m:Str->Option ae}
  (S:oO X scope N' nt ix) (I:bI X pins σ H s) (c1:∀ x c,cl.lookup x=some c->X.env.cells.lookup x=some c) (c2:∀ y∈scope.names,y.2=.free->∃ c,cl.lookup y.1=some c)
  (hf:∀ b∈fp,sk X pins H b) (ff:∀ b∈fp,b<s.heap.objs.size) (hC:s.heap.objs.size<=C) (hns:h₁.Ns C m) (old:∀ b o,s.heap.get? b=some o->h₁.get? b=some o) (ok:CellsOk h₁ (C + 1) (bn (C + 1) scope.names [])) :
  bI (de X N' scope (bn (C + 1) scope.names cl) C s H fp (X.pn++pins)) [] (jY nt ix σ) H { s with heap:=h₁,toks:=t' }:=by
 have cellOld:∀ {c v},s.heap.IsCell c v->h₁.IsCell c v:=fun {c v} ⟨o,ho,hd⟩=>⟨o,old _ _ ho,hd⟩
 have up:∀ {x c},(x,c)∈bn (C + 1) scope.names []->s.heap.objs.size<c:=fun {x c} h=>aF (z0 hC) (ok.empty x c h).2
 have low:∀ {x c},cl.lookup x=some c->c<s.heap.objs.size:=fun {x c} h=>by
  obtain ⟨v,q⟩:=I.cell x c (c1 x c h)
  exact q.lt
 refine ⟨⟨I.ok.mod,S.kind,I.ok.glob,I.ok.blt,hC,fun x y c h1 h2=>?_,fun x hx=>?_,fun x c h h2=>?_,I.ok.hd,I.ok.frames,.inl rfl,fun b hb=>⟨?_,fun x c h=>?_⟩,I.bs,c7 I.ok.bsz I.sz,fun b o h hb=>?_,fun b hb z=>?_,I.stack,I.stkFree⟩,
  rfl,I.bare,Un.kept old,⟨m,hns,fun i x v h1 h2 h3=>?_⟩,fun x c h=>?_,I.hok.fresh hC,fun x c h=>?_,fun p hp=>?_,I.hok.kept old,?_⟩
 ·rcases lR h1 with a | ⟨_,a⟩<;>rcases lR h2 with b | ⟨_,b⟩
  ·exact name_of_addr ok.apart a b
  ·exact absurd (up a) (z3 (low b))
  ·exact absurd (up b) (z3 (low a))
  ·exact I.ok.inj x y c (c1 x c a) (c1 y c b)
 ·have hx':(x,cq)∈scope.names\/(x,eC)∈scope.names:=w9 (env:=X.env) (hx.elim .inr .inl)
  have hs:((bn (C + 1) scope.names cl).lookup x).isSome=true:=by
   rcases hx' with z | z
   ·obtain ⟨c,e⟩:=c2 _ z rfl
    exact fk _ _ _ (.inr (by rw [e];rfl))
   ·exact fk _ _ _ (.inl (S.cel _ z rfl))
  exact Option.isSome_iff_exists.mp hs
 ·rcases lR h2 with a | ⟨a,_⟩
  ·exact bA (up a)
  ·have:=fk (x:=x) scope.names (C + 1) [] (.inl (by simpa [de] using h))
   rw [a] at this;cases this
 ·exact aO (aF (ff b hb) hC)
 ·rcases lR h with a | ⟨_,a⟩
  ·exact iz (Nat.lt_trans (ff b hb) (up a))
  ·exact (hf b hb).f4 x c (c1 x c a)
 ·rcases (hf b hb).f3 with z | z
  ·exact I.ok.noex b o h z
  ·exact absurd (aF (ax h) (c7 I.ok.bsz z)) (cb _)
 ·rcases List.mem_cons.mp (I.stkSub b z) with e | e
  ·exact (hf b hb).f1 e
  ·exact (hf b hb).f2 e
 ·have hnt:nt<=i:=by
   refine RC fun hlt=>?_
   have h2':(jY nt ix σ)[i]?=some (some v):=h2
   unfold jY at h2'
   rw [bS (by simpa using hlt),bR,if_pos hlt] at h2'
   cases h2'
  have h2':(jY nt ix σ)[i]?=some (some v):=h2
  unfold jY at h2'
  rw [bC (by simpa using hnt),dn,aT] at h2'
  cases e:ix[i - nt]? with
  | none=>rw [e] at h2';cases h2'
  | some j =>
   rw [e] at h2'
   have hj:σ[j]?=some (some v):=by
    have q:(σ[j]?).join=some v:=bL h2'
    cases e3:σ[j]? with
    | none=>rw [e3] at q;cases q
    | some o=>rw [e3] at q;cases o with
     | none=>cases q
     | some v'=>cases q;rfl
   obtain ⟨x',n1,n2,fr⟩:=S.cap _ _ e
   rw [Nat.add_sub_cancel' hnt] at n2
   have h1':N'[i]?=some x:=h1
   rw [h1'] at n2
   cases n2
   obtain ⟨mm,hn,hl⟩:=I.loc
   have hfree:=S.free (x,.free) (dJ fr) rfl
   obtain ⟨u,r,l⟩:=hl j x v n1 hj (hfree.elim (fun z=>.inr (.inl z)) fun z=>.inr (.inr z))
   refine ⟨u,r,?_⟩
   rcases l with ⟨k,_⟩ | ⟨k,c,hc,hcell⟩
   ·have k:X.env.scope.names.lookup x=some .local:=k
    rcases hfree with z | z<;>(rw [z] at k;cases k)
   ·obtain ⟨c',hc'⟩:=c2 _ (dJ fr) rfl
    have:=c1 x c' hc'
    rw [hc] at this
    cases this
    have hno:(bn (C + 1) scope.names []).lookup x=none:=by
     cases e:(bn (C + 1) scope.names []).lookup x with
     | none=>rfl
     | some d =>
      rcases oP _ _ _ (dJ e) with z | z
      ·have q:=S.cel _ z rfl
       rw [fr] at q;cases q
      ·cases z
    refine .inr ⟨?_,c,by show (bn (C + 1) scope.names cl).lookup x=some c;rw [jp,NA,hno];exact hc',cellOld hcell⟩
    rcases uk (env:=X.env) fr with z | z
    ·exact .inr z
    ·exact .inl z
 ·rcases lR h with a | ⟨_,a⟩
  ·exact ⟨none,(ok.empty x c a).1⟩
  ·obtain ⟨v,q⟩:=I.cell x c (c1 x c a)
   exact ⟨v,cellOld q⟩
 ·rcases lR h with a | ⟨_,a⟩
  ·exact I.hok.fresh (bA (up a))
  ·exact I.freeC x c (c1 x c a)
 ·have hp:p∈X.pn++pins:=(List.mem_append.mp hp).elim id fun z=>absurd z (by simp)
  obtain ⟨e,n,ne,nf,d⟩:=I.pin p hp
  refine ⟨old _ _ e,n,aO (aF (ax e) hC),fun z=>?_,d⟩
  rcases List.mem_cons.mp (I.stkSub p.1 z) with e | e
  ·exact ne e
  ·exact nf e
 ·show (jY nt ix σ).length=N'.length
  rw [S.len];simp [jY]
end
end
section
theorem Un.grow {fs ex:List ai}{H H1:Hp}{h h1 h2:br} (u:Un fs ex H H1 h h1) {C D:ai}{o:HO} (sb:cF C h1 h2) (hC:h.objs.size<=C) (hD:h.objs.size<=D) (hn:H1 D=none):Un fs ex H (upd H1 D o) h h2 where
 keep:=fun b ob q n hb hx=>(sb.2 b (aO (aF (ax q) hC))).trans (u.keep b ob q n hb hx)
 slot:=fun b ob q n hb hx=>by
  obtain ⟨sl,e⟩:=u.slot b ob q n hb hx
  exact ⟨sl,(sb.2 b (aO (aF (ax q) hC))).trans e⟩
 free:=fun b ob q n hx=>by rw [a_ (aO (aF (ax q) hD))];exact u.free b ob q n hx
 there:=fun b ob q hx=>by
  obtain ⟨o',e⟩:=u.there b ob q hx
  exact ⟨o',(sb.2 b (aO (aF (ax q) hC))).trans e⟩
 tups:=fun b xs q=>by have z:=u.tups b xs q;rw [a_ (bc z hn)];exact z
 frzs:=fun b ob xs q=>by have z:=u.frzs b ob xs q;rw [a_ (bc z hn)];exact z
 tbls:=fun b ps q=>by
  obtain ⟨m,z⟩:=u.tbls b ps q
  exact ⟨m,by rw [a_ (bc z hn)];exact z⟩
theorem Am {P:aH}{w:b9}{H:Hp}{h h':br}{C:ai} (k:rW P w H h) (hC:H C=none) (sb:cF C h h'):rW P w H h':=fun b ob e=>by
 refine (k b ob e).stay (fun c w' hc q=>(sb.2 c ?_).trans q) (fun _ q=>q) fun _ _ q=>q
 rintro rfl
 rcases hc with rfl | hc
 ·rw [hC] at e;cases e
 ·rw [hC] at hc;cases hc
theorem tM {P:aH}{w:b9}{H:Hp}{h:br}{D:ai}{o:HO} (k:rW P w H h) (hD:H D=none) (new:eB P w (upd H D o) h D o):rW P w (upd H D o) h:=fun b ob e=>by
 by_cases hb:b=D
 ·subst hb;rw [aU] at e;cases e;exact new
 ·rw [a_ hb] at e
  exact (k b ob e).stay (fun c w' hc q=>q) (fun c q=>by rw [a_ (bc q hD)];exact q) fun c x q=>by rw [a_ (bc q hD)];exact q
theorem nf {M:zC}{A:aW}{α:Type}{t:Sem α}{Q:α->ah->Prop}{E':ae->ah->Prop}{s:ah} (h:av M A t Q (fun _ _=>False) s):av M A t Q E' s :=
 bh h (fun _ _ q=>q) fun _ _ f=>f.elim
theorem bI.pin1 {X:Cx}{σ:St}{H:Hp}{s:ah}{D:ai}{o:Obj} (I:bI X [] σ H s) (e:s.heap.get? D=some o) (n:H D=none) (ne:D≠X.env.locals) (nf:D∉X.fs) (d:∀ v,o.data≠.cell v):bI X [(D,o)] σ H s :=
 I.pins_of fun p hp=>by
  have:p=(D,o):=by simpa using hp
  subst this
  exact ⟨e,n,ne,nf,d⟩
def Us (nt:Nat) (g:TG):Prop:=∀ x σ0 H (Q:St->Hp->Prop),g x σ0 H Q->g x σ0 H (fun σ2 H2=>Q σ2 H2/\σ2.length=σ0.length/\∀ j,nt<=j->σ2[j]?=σ0[j]?)
theorem Ov {nt i:Nat} (h:i<nt):Us nt (yB i):=fun x σ0 H Q q=>⟨q,by simp,fun j hj=>am (by omega)⟩
theorem Sn {nt i k n:Nat}{K:a9} (h:i<nt) (h':k<nt):Us nt (Vr K n (ac (yB i) (ac (yB k) aq))):=by
 rintro x σ0 H Q ⟨a,xs,rfl,sq,hl,v,r,rfl,v',r',rfl,rfl,q⟩
 exact ⟨a,_,rfl,sq,hl,v,_,rfl,v',_,rfl,rfl,q,by simp,fun j hj=>by rw [am (by omega),am (by omega)]⟩
inductive CLI (X:Cx) (pins:List (ai×Obj)) (N':List Str) (scope:eD) (cl:List (Str×ai)) (C:ai) (s2:ah) (H2:Hp) (fp:List ai) (nt:Nat) (ix:List Nat) (σ:St) (tn:Nat->br->Prop) (W:Nat->Nat->List V->Hp->Prop) (n:Nat) (s':ah):Prop
 | mk (i:Nat) (acc:List V) (its:List ae) (nn:Nat) (H':Hp) (I:bI (de X N' scope cl C s2 H2 fp (X.pn++pins)) [(s2.heap.objs.size,{ cls:=.type "list",data:=.seq its.toArray nn })] (jY nt ix σ) H' s') (v:du acc its) (l:acc.length<=sizeLine) (t:tn i s'.heap) (f:∀ b∈fp,H' b=none) (w:W i n acc H'):CLI X pins N' scope cl C s2 H2 fp nt ix σ tn W n s'
theorem An {X:Cx}{elt tg iter:aR}{ifs:List aR}{scope:eD}{pos:Pos}{g:TG}{tt:TT}{te:TE}{N':List Str}{nt:Nat}{ix:List Nat}
  (hc:X.calm=true) (S:oO X scope N' nt ix) (lo:Us nt g)
  (hb:∀ cl C s₀ H₀ ex pn,PG (de X N' scope cl C s₀ H₀ ex pn) tg g/\Rv (de X N' scope cl C s₀ H₀ ex pn) ifs tt/\PE (de X N' scope cl C s₀ H₀ ex pn) elt te)
  {cl:List (Str×ai)} (c1:∀ x c,cl.lookup x=some c->X.env.cells.lookup x=some c) (c2:∀ y∈scope.names,y.2=.free->∃ c,cl.lookup y.1=some c)
  {pins:List (ai×Obj)}{σ:St}{H2:Hp}{s2:ah}{it:ai}{fp:List ai}{tn:Nat->br->Prop}{J:It}{Q:VK}{E:ae->ah->Prop}
  (I2:bI X pins σ H2 s2) (T:Ch X.prog X.w X.K tg J fp it tn) (st2:tn 0 s2.heap) (f2:∀ b∈fp,sk X pins H2 b)
  {W:Nat->Nat->List V->Hp->Prop} (w0:∃ m,W 0 m [] H2)
  (turn:∀ i m acc H,W i m acc H->(J.stop i H/\∀ p,H p=none->Q (.ref p) (upd H p (.lst acc))) \/
   (J.go i H/\acc.length<sizeLine/\∀ x H',J.yld i H x H'->g x (jY nt ix σ) H' fun σ2 H2=>tt σ2 H2 fun b H3 =>
    if b=true then te σ2 H3 fun y H4=>∃ m',m'<m/\W (i + 1) m' (acc++[y]) H4 else ∃ m',m'<m/\W (i + 1) m' acc H3))
  {RR:ae->ai->uO->ah->Prop}
  (hRR:∀ D C m s' (acc:List V) H',H' D=none->sk X pins (upd H' D (.lst acc)) C->Q (.ref D) (upd H' D (.lst acc))->s'.heap.Ns C m->(∀ h',cF C s'.heap h'->bI X pins σ (upd H' D (.lst acc)) { s' with heap:=h' })->RR (.ref D) C (.ok .next) s') :
  av (aG X.prog X.w) X.A (newList []) (fun acc s₃=>av (aG X.prog X.w) X.A (xt scope X.env.globals cl [] X.env.qual none .none (some X.env)) (fun cenv s₄ =>
   iS (aG X.prog X.w) X.A (.compStart (.ListComp elt [⟨tg,iter,ifs,0⟩] scope pos) 0 (.ref it) acc { cenv with scope:=relabel scope X.env }) (RR acc cenv.locals) s₄) E s₃) E s2:=by
 refine bW (KO fun h₁ hh₁=>?_)
 dsimp only at hh₁ ⊢
 generalize hG2:s2.heap.push { cls:=.type "list",dict:=none,data:=.seq ([] : List ae).toArray }=G2 at hh₁ ⊢
 have hC:G2.objs.size=s2.heap.objs.size + 1:=by rw [<- hG2,cr]
 have hDC:s2.heap.objs.size≠G2.objs.size:=by rw [hC];exact aO (i0 _)
 have hCle:s2.heap.objs.size<=G2.objs.size:=by rw [hC];exact kL _
 have below:∀ b,b<s2.heap.objs.size->b≠G2.objs.size:=fun b hb=>by rw [hC];exact aO (gO hb)
 have kp:∀ b o,G2.get? b=some o->h₁.get? b=some o:=fun b o e=>by rw [hh₁];exact vM _ _ b o (ag _ e)
 have hns₁:h₁.Ns G2.objs.size (fun _=>none):=by rw [hh₁];exact (Heap.Ns.new G2 (.type "dict")).keeps (vM _ _)
 have ok₁:CellsOk h₁ (G2.objs.size + 1) (bn (G2.objs.size + 1) scope.names []):=by rw [hh₁];exact Dp G2 scope.names
 have cne:∀ x c,(bn (G2.objs.size + 1) scope.names cl).lookup x=some c->X.env.cells.lookup x=some c\/s2.heap.objs.size<c:=fun x c e=>by
  rcases lR e with a | ⟨_,a⟩
  ·exact .inr (aF (z0 hCle) (ok₁.empty x c a).2)
  ·exact .inl (c1 x c a)
 have old:∀ b o,s2.heap.get? b=some o->h₁.get? b=some o:=fun b o e=>kp b o (hG2 ▸ ag _ e)
 have hacc:h₁.get? s2.heap.objs.size=some { cls:=.type "list",dict:=none,data:=.seq ([] : List ae).toArray }:=kp _ _ (hG2 ▸ aE _ rfl)
 have ff:∀ b∈fp,b<s2.heap.objs.size:=fun b hb=>by
  obtain ⟨o,e,_⟩:=T.obj _ _ st2 b hb
  exact ax e
 have I3:bI (de X N' scope (bn (G2.objs.size + 1) scope.names cl) G2.objs.size s2 H2 fp (X.pn++pins)) [] (jY nt ix σ) H2 { s2 with heap:=h₁,toks:=s2.toks }:=Ga S I2 c1 c2 f2 ff hCle hns₁ old ok₁
 obtain ⟨pg,pt,pe⟩:=hb (bn (G2.objs.size + 1) scope.names cl) G2.objs.size s2 H2 fp (X.pn++pins)
 have hDfs:s2.heap.objs.size∉pI X.stack:=fun z=>by
  rcases List.mem_cons.mp (I2.stkSub _ z) with e | e
  ·exact absurd I2.lt (by rw [<- e];exact cb _)
  ·exact I2.nofs (az _) e
 have nod:∀ (its:List ae) (n:Nat) v,({ cls:=.type "list",data:=.seq its.toArray n }:Obj).data≠.cell v:=fun _ _ _ z=>nomatch z
 have st1:tn 0 h₁:=T.keep _ _ _ st2 fun b _ o e=>old b o e
 have hDf:s2.heap.objs.size∉fp:=fun z=>absurd (ff _ z) (cb _)
 have stat:∀ {H':Hp}{pl:List (ai×Obj)},(∀ p∈pl,p.1∉fp)->(∀ b∈fp,H' b=none)->∀ b∈fp,sk (de X N' scope (bn (G2.objs.size + 1) scope.names cl) G2.objs.size s2 H2 fp (X.pn++pins)) pl H' b:=fun hpl hn b hb=>by
  obtain ⟨f0,f1,f2',f3,f4,f5⟩:=f2 b hb
  refine ⟨hn b hb,below b (ff b hb),fun z=>?_,.inl hb,fun x c e=>(cne x c e).elim (f4 x c) fun q z=>z3 q (by rw [z];exact ff b hb),fun p hp z=>?_⟩
  ·rcases List.mem_cons.mp (I2.stkSub _ z) with e | e
   ·exact f1 e
   ·exact f2' e
  ·rcases List.mem_append.mp hp with q | q
   ·exact f5 p q z
   ·exact hpl p q (z ▸ hb)
 obtain ⟨m0,w0⟩:=w0
 have loop:iS (aG X.prog X.w) X.A (.compLoop (.ListComp elt [⟨tg,iter,ifs,0⟩] scope pos) 0 (.ref it) (.ref s2.heap.objs.size) (compEnvC scope (bn (G2.objs.size + 1) scope.names cl) G2.objs.size X.env))
    (RR (.ref s2.heap.objs.size) G2.objs.size) { s2 with heap:=h₁,toks:=s2.toks }:=by
  refine Eg (CLI X pins N' scope (bn (G2.objs.size + 1) scope.names cl) G2.objs.size s2 H2 fp nt ix σ tn W) ?_ m0
   ⟨0,[],[],0,H2,I3.pin1 hacc (I2.hok.fresh (az _)) hDC hDfs (nod _ _),.nil,dU _,st1,fun b hb=>(f2 b hb).1,w0⟩
  rintro n s3 ⟨i,acc,its,nn,H3,J3,rv,hz,st3,fr3,w3⟩
  have plD:∀ p∈[(s2.heap.objs.size,({ cls:=.type "list",data:=.seq its.toArray nn }:Obj))],p.1∉fp:=fun p hp=>by
   have:p=(s2.heap.objs.size,({ cls:=.type "list",data:=.seq its.toArray nn }:Obj)):=by simpa using hp
   rw [this];exact hDf
  rcases turn i n acc H3 w3 with ⟨stop,qn⟩ | ⟨go,hlt,step⟩
  ·refine fF (T.done (de X N' scope (bn (G2.objs.size + 1) scope.names cl) G2.objs.size s2 H2 fp (X.pn++pins)) rfl rfl rfl hc i _ s3 _ H3 _ J3 (stat plD fr3) st3 stop) fun r s4 h_0=>?_
   obtain ⟨hr,I4⟩:=h_0
   subst hr
   obtain ⟨pD,pN,_⟩:=I4.pin (s2.heap.objs.size,_) (aV _ (List.mem_singleton.mpr rfl))
   obtain ⟨mm,hn,_⟩:=I4.loc
   have hCn:H3 G2.objs.size=none:=I4.free
   refine hRR _ _ mm s4 acc H3 pN (I2.fpOk hCle (by rw [a_ (fM hDC)];exact hCn)) (qn _ pN) hn fun h' sb=>?_
   have hu:Un (pI X.stack) fp H2 (upd H3 s2.heap.objs.size (.lst acc)) s2.heap h':=Un.grow I4.base sb hCle (az _) pN
   refine I2.call' (s':={ s4 with heap:=h' }) (ch:=fp) I4.os hu ?_ I4.bare fun b hb=>?_
   ·refine tM (Am I4.hok hCn sb) pN ⟨hz,its,nn,rv,(sb.2 _ hDC).trans pD⟩
   ·obtain ⟨_,f1,_,f3,f4,f5⟩:=f2 b hb
    exact ⟨f3,f1,f4,f5⟩
  ·refine fF (T.item (de X N' scope (bn (G2.objs.size + 1) scope.names cl) G2.objs.size s2 H2 fp (X.pn++pins)) rfl rfl rfl hc i _ s3 _ H3 _ J3 (stat plD fr3) st3 go) fun r s4 h_1=>?_
   obtain ⟨u,hr,h4⟩:=h_1
   subst hr
   refine fF h4 fun _ s5 h_2=>?_
   obtain ⟨x,H5,I5,r5,y5,st5,fr5⟩:=h_2
   have I5':=I5.pinned (stat plD fr5) (T.obj _ _ st5)
   refine fF (pg _ s5 _ H5 x u _ I5' r5 (lo _ _ _ _ (step x H5 y5))) fun _ s6 h_3=>?_
   obtain ⟨σ6,H6,I6,q6,l6,k6⟩:=h_3
   have hw:∀ (j:Nat) v,(jY nt ix σ)[j]?=some (some v)->σ6[j]?=some (some v):=fun j v e=>by
    by_cases hj:nt<=j
    ·rw [k6 j hj];exact e
    ·unfold jY at e
     rw [bS (by simpa using hj),bR,if_pos (by omega)] at e
     cases e
   refine fF (pt _ s6 σ6 H6 _ I6 q6) fun b s7 h_4=>?_
   obtain ⟨H7,I7,q7⟩:=h_4
   have fpk:∀ {s8:ah}{σ8:St}{H8:Hp},bI (de X N' scope (bn (G2.objs.size + 1) scope.names cl) G2.objs.size s2 H2 fp (X.pn++pins)) ([(s2.heap.objs.size,{ cls:=.type "list",data:=.seq its.toArray nn })]++xD fp s5.heap) σ8 H8 s8 ->
     tn (i + 1) s8.heap/\∀ b∈fp,H8 b=none:=fun {s8 σ8 H8} I8=>by
    refine ⟨T.keep _ _ _ st5 fun b hb o e=>(I8.pin (b,o) (aV _ (aV _ (kX hb e)))).1,fun b hb=>?_⟩
    obtain ⟨o,e,d⟩:=T.obj _ _ st5 b hb
    exact (I8.pin (b,o) (aV _ (aV _ (kX hb e)))).2.1
   cases b with
   | false =>
    simp only [cz,if_false] at q7 ⊢
    obtain ⟨m',hm,w7⟩:=q7
    obtain ⟨t7,f7⟩:=fpk I7
    exact ⟨m',hm,i + 1,acc,its,nn,H7,(I7.weak l6.symm hw).unpinned,rv,hz,t7,f7,w7⟩
   | true =>
    simp only [if_true] at q7 ⊢
    refine fF (pe _ s7 σ6 H7 _ I7 q7) fun u8 s8 h_5=>?_
    obtain ⟨y,H8,I8,r8,m',hm,w8⟩:=h_5
    obtain ⟨t8,f8⟩:=fpk I8
    obtain ⟨pD,pN,_⟩:=I8.pin (s2.heap.objs.size,_) (aV _ (gJ _ (List.mem_singleton.mpr rfl)))
    have hl:=rv.length
    refine wpAny_list_append_plain ⟨nn,pD⟩ (hsz:=by rw [aI];omega) ?_
    intro h9 pl9 sb9
    obtain ⟨n9,e9⟩:=pl9
    have e9':h9.get? s2.heap.objs.size=some { cls:=.type "list",data:=.seq (its++[u8]).toArray n9 }:=by rw [e9];simp
    refine ⟨m',hm,i + 1,acc++[y],its++[u8],n9,H8,?_,rv.append (.cons r8 .nil),by rw [bw,lQ];omega,T.keep _ _ _ t8 fun b hb o e=>sb9.extBut b o (fun z=>hDf (z ▸ hb)) e,f8,w8⟩
    have I8':bI (de X N' scope (bn (G2.objs.size + 1) scope.names cl) G2.objs.size s2 H2 fp (X.pn++pins)) [] (jY nt ix σ) H8 s8:=(I8.weak l6.symm hw).pins_of fun p hp=>absurd hp (by simp)
    have I9:bI (de X N' scope (bn (G2.objs.size + 1) scope.names cl) G2.objs.size s2 H2 fp (X.pn++pins)) [] (jY nt ix σ) H8 { s8 with heap:=h9,toks:=s8.toks } :=
     I8'.turned (it:=s2.heap.objs.size) (fun b o hb e=>sb9.extBut b o hb e) pN hDC (.inr (az _)) (fun x c e z=>by
      rcases cne x c e with e | e
      ·obtain ⟨v,q⟩:=I2.cell x c e
       exact absurd q.lt (by rw [z];exact cb _)
      ·exact absurd e (by rw [z];exact cb _)) fun p hp z=>by
      have hp:p∈X.pn++pins:=(List.mem_append.mp hp).elim id fun z=>absurd z (by simp)
      exact absurd (ax (I2.pin p hp).1) (by rw [z];exact cb _)
    exact I9.pin1 e9' pN hDC hDfs (nod _ _)
 exact codeAny_compStart_list loop (T.self _ 0 _ _ _ st1 loop)
end
section
theorem Gb {X:Cx}{elt tg iter:aR}{ifs:List aR}{scope:eD}{pos:Pos}{wi:TI}{g:TG}{tt:TT}{te:TE}{N':List Str}{nt:Nat}{ix:List Nat}
  (hc:X.calm=true) (S:oO X scope N' nt ix) (lo:Us nt g) (hi:PI X tg iter wi)
  (hb:∀ cl C s₀ H₀ ex pn,PG (de X N' scope cl C s₀ H₀ ex pn) tg g/\Rv (de X N' scope cl C s₀ H₀ ex pn) ifs tt/\PE (de X N' scope cl C s₀ H₀ ex pn) elt te)
  (hs:∀ x,e6 iter X.env x=pure x:=by intro _;rfl):PE X (.ListComp elt [⟨tg,iter,ifs,0⟩] scope pos) (Ou nt ix wi g tt te):=by
 intro pins s σ H Q I h
 obtain ⟨cl,hcl,c1,c2⟩:=uX (scope:=scope) (env:=X.env) fun y hy hf=>I.ok.has y.1 (S.free y hy hf)
 rw [eval_ListComp]
 refine se (use:=none) rfl hs hcl S.kind S.loc (fF (hi pins s σ H _ I h) fun v s1 h1=>fF h1 fun itv s2 h2=>?_)
 obtain ⟨it,fp,tn,J,H2,e,I2,T,st2,f2,W,w0,turn⟩:=h2
 subst e
 refine An (RR:=fun acc C=>compPost (aG X.prog X.w) X.A X.xe none (EP X pins σ Q) acc C) hc S lo hb c1 c2 I2 T st2 f2 w0 turn ?_
 intro D C m s' acc H' hD _ q hn hI
 exact ⟨m,hn,fun h' sb=>⟨.ref D,_,hI h' sb,rfl,q⟩⟩
def XA (i:Nat) (te:TE):TS:=fun D σ H=>te σ H fun x H1=>D.nx (σ.set i (some x)) H1
theorem IW {X:Cx}{elt tg iter:aR}{ifs:List aR}{scope:eD}{pos spos py:Pos}{wi:TI}{g:TG}{tt:TT}{te:TE}{N':List Str}{nt:Nat}{ix:List Nat}{i:Nat}{y:Str}
  (hN:X.N.Nodup) (hiN:X.N[i]?=some y) (hy:X.env.scope.names.lookup y=some .local)
  (hc:X.calm=true) (S:oO X scope N' nt ix) (lo:Us nt g) (hi:PI X tg iter wi)
  (hb:∀ cl C s₀ H₀ ex pn,PG (de X N' scope cl C s₀ H₀ ex pn) tg g/\Rv (de X N' scope cl C s₀ H₀ ex pn) ifs tt/\PE (de X N' scope cl C s₀ H₀ ex pn) elt te)
  (hsw:fh (.ListComp elt [⟨tg,iter,ifs,0⟩] scope pos) (some (.Name y py)) spos.line X.env=pure true:=by rfl)
  (hs:∀ x,e6 iter X.env x=pure x:=by intro _;rfl):PS X (.Assign [.Name y py] (.ListComp elt [⟨tg,iter,ifs,0⟩] scope pos) spos) (XA i (Ou nt ix wi g tt te)):=by
 intro pins s σ H D I h
 obtain ⟨cl,hcl,c1,c2⟩:=uX (scope:=scope) (env:=X.env) fun y hy hf=>I.ok.has y.1 (S.free y hy hf)
 rw [exec_Assign_Name_used _ _ _ _ hsw]
 refine aa (dG (aa ?_))
 show av _ X.A (do let _ <- comprehension (.ListComp elt [⟨tg,iter,ifs,0⟩] scope pos) scope X.env _ (newList []) false (cG iter X.env) (some (rX (.Name y py) X.env))) _ _ s
 refine aa (bh (se (use:=some (rX (.Name y py) X.env)) (Q:=fun _ s'=>SP X pins D .next s') rfl hs hcl S.kind S.loc
  (fF (hi pins s σ H _ I h) fun v s1 h1=>fF h1 fun itv s2 h2=>?_)) (fun _ s' hq=>aj (aj hq)) fun _ _ e=>e)
 obtain ⟨it,fp,tn,J,H2,e,I2,T,st2,f2,W,w0,turn⟩:=h2
 subst e
 refine An (Q:=fun x H1=>D.nx (σ.set i (some x)) H1) (RR:=fun acc C=>compPost (aG X.prog X.w) X.A X.xe (some (rX (.Name y py) X.env)) (fun _ s'=>SP X pins D .next s') acc C) hc S lo hb c1 c2 I2 T st2 f2 w0 turn ?_
 intro L C m s' acc H' hD fC q hn hI
 show av _ X.A (rX (.Name y py) X.env (.ref L)) _ _ _
 have I3:bI X pins σ (upd H' L (.lst acc)) s':=hI s'.heap (.refl ..)
 refine wpAny_assign_Name (Df I3 hN hiN (.inl hy) (v:=.ref L) rfl (fun s4 I4 ⟨a,sb,ha⟩=>?_) (.inr hy))
 obtain ⟨g0,g1,g2,g3,g4,g5⟩:=fC
 have hCa:C≠a:=by
  rcases ha with z | z
  ·rw [z];exact g1
  ·exact fun e=>g4 y a z e.symm
 refine ⟨m,hn.sameBut sb hCa,fun h5 sb5=>?_⟩
 exact ⟨_,_,I4.turned (t':=s4.toks) (fun b o hb e=>(sb5.2 b hb).trans e) g0 g1 g3 g4 g5,q⟩
end
section
def IX (e:Int×ae):Str:=match e.2 with
 | .str x _=>x
 | _=>⟨#[]⟩
def Ao (w:b9) (e:Int×ae):Prop:=∃ x tk,e=(hashStr w x,lO x tk)
structure kf (w:b9) (h:br) (a:ai) (es:Array (Int×ae)) (ep:Nat) (t:ma):Prop where
 at_:h.get? a=some { cls:=.type "set",dict:=none,data:=.set es ep t }
 txt:∀ e∈es.toList,Ao w e
 nd:(es.toList.map IX).Nodup
 few:es.size<jg
 fits:t.fits es.size=true
 led:t.led=!w.params.followText "set-order"
 pl:es.size=0\/t.plain=false
inductive oQ (w:b9) (h:br) (a:ai) (ss:List Str):Prop
 | mk (es ep t:_) (h0:kf w h a es ep t) (h1:(es.toList.map IX).Perm ss):oQ w h a ss
theorem IY (t:ma) (es:Array (Int×ae)) (h:Int) (x:ae):(layNew t es h x).2.1.led=t.led:=by
 unfold layNew
 cases t.freeSlot h with
 | none=>rfl
 | some p =>
  obtain ⟨slot,d⟩:=p
  show ((t.put slot).1.orStandIn _).led=_
  unfold Ig
  split<;>rfl
theorem Eh (t:ma) (es:Array (Int×ae)) (h:Int) (x:ae):t.plain=false->(layNew t es h x).2.1.plain=false:=by
 intro hp
 unfold layNew
 cases t.freeSlot h with
 | none=>rfl
 | some p =>
  obtain ⟨slot,d⟩:=p
  show ((t.put slot).1.orStandIn _).plain=_
  unfold Ig
  split
  ·exact hp
  ·rfl
theorem Gc {t t':ma}{hs:Array Int}{n:Nat}{o:Array Nat} (h:t.relaid hs n=some (t',o)):t'.led=t.led/\t'.plain=t.plain:=by
 unfold SetTable.relaid SetTable.laid at h
 cases e:SetTable.layClean (SetTable.sizeAbove n - 1) hs with
 | none=>rw [e] at h;cases h
 | some ow =>
  rw [e] at h
  have h:=bL h
  have h1:=congrArg Prod.fst h
  subst h1
  exact ⟨rfl,rfl⟩
theorem Mj (t:ma) (es:Array (Int×ae)) (n:Nat):(xu t es n).2.1.led=t.led/\(t.plain=false->(xu t es n).2.1.plain=false):=by
 unfold xu
 cases e:t.relaid (es.map (·.1)) n with
 | none=>exact ⟨rfl,fun _=>rfl⟩
 | some p =>
  obtain ⟨t',o⟩:=p
  obtain ⟨h1,h2⟩:=Gc e
  dsimp only
  split
  ·exact ⟨h1,fun h=>h2.trans h⟩
  ·exact ⟨rfl,fun _=>rfl⟩
theorem Ow {w:b9}{P:aH}{l:List (Int×ae)} (h:∀ e∈l,Ao w e):ElemsOf (strKind P w) l:=fun e he=>by
 obtain ⟨x,tk,rfl⟩:=h e he
 exact ⟨⟨x,by simp [PySem.strKind,vK],rfl⟩,rfl⟩
theorem Z6 (P:aH) (w:b9) (x:Str) (tk:Tok):(strKind P w).is x (.str x tk)=true:=by simp [PySem.strKind,vK]
theorem KP {P:aH}{w:b9}{e:Int×ae} (h:Ao w e) (x:Str):(strKind P w).is x e.2=true↔IX e=x:=by
 obtain ⟨y,tk,rfl⟩:=h
 constructor
 ·intro q
  have:=(strKind P w).inj _ _ _ q (Z6 P w y tk)
  rw [this];rfl
 ·rintro rfl
  exact Z6 P w _ tk
section
variable {P:aH}{w:b9}{A:aW}{E:ae->ah->Prop}{s:ah}
theorem KQ {h:br}{a:ai}{es es':Array (Int×ae)}{ep:Nat}{t t':ma} (I:kf w h a es ep t):(h.update a (xv es' t')).get? a=some { cls:=.type "set",dict:=none,data:=.set es' (ep + 1) t' }:=by
 have q:=fV (xv es' t') I.at_ rfl
 exact q
theorem Mk {a:ai}{ss:List Str}{x:Str}{tk:Tok}{Q:Bool->ah->Prop} (hS:oQ w s.heap a ss) (hr:ss.length + 1<jg)
  (h:∀ h' tk',cF a s.heap h'->oQ w h' a (if x∈ss then ss else ss++[x])->Q (!decide (x∈ss)) { s with heap:=h',toks:=tk' }) :
  av (aG P w) A (setAddHashed a (.str x tk) ((strKind P w).hash x)) Q E s:=by
 obtain ⟨es,ep,t,I,pm⟩:=hS
 have hlen:es.size=ss.length:=by rw [<- pm.length_eq,aN,bv]
 have hel:ElemsOf (strKind P w) es.toList:=Ow I.txt
 unfold setAddHashed setAddHashedIn
 refine dH (aa (fE (s:=s) I.at_ rfl I.fits ?_))
 dsimp only
 rw [byScan_of rfl I.few hel]
 rw [if_pos rfl]
 unfold setAddByScan
 refine aa (aa (jF (aa (wpAny_setScan_of (s:=s) (Z6 P w x tk) I.at_ rfl I.fits hel ?_))))
 have inmem:x∈ss↔∃ e∈es.toList,(strKind P w).is x e.2=true:=by
  rw [<- pm.mem_iff,List.mem_map]
  constructor
  ·rintro ⟨e,he,q⟩;exact ⟨e,he,(KP (I.txt e he) x).mpr q⟩
  ·rintro ⟨e,he,q⟩;exact ⟨e,he,(KP (I.txt e he) x).mp q⟩
 cases hf:List.findIdx? (fun e=>(strKind P w).is x e.2) es.toList with
 | some j =>
  obtain ⟨hj,hp,_⟩:=List.findIdx?_eq_some_iff_getElem.mp hf
  have hin:x∈ss:=inmem.mpr ⟨_,hW hj,hp⟩
  have q:=h s.heap s.toks (.refl ..) (by rw [if_pos hin];exact ⟨es,ep,t,I,pm⟩)
  rw [decide_eq_true hin] at q
  exact aj (aj q)
 | none =>
  have hout:x∉ss:=fun z=>by
   obtain ⟨e,he,q⟩:=inmem.mp z
   rw [List.findIdx?_eq_none_iff.mp hf e he] at q
   cases q
  have h:=fun h' tk' sb=>h h' tk' sb
  rw [decide_eq_false hout,if_neg hout] at h
  have p1:=layNew_perm t es ((strKind P w).hash x) (.str x tk)
  have f1:=layNew_fits t es ((strKind P w).hash x) (.str x tk)
  have l1:=IY t es ((strKind P w).hash x) (.str x tk)
  have q1:=Eh t es ((strKind P w).hash x) (.str x tk)
  generalize layNew t es ((strKind P w).hash x) (.str x tk)=L at p1 f1 l1 q1 ⊢
  obtain ⟨es1,t1,wd,gv⟩:=L
  dsimp only at p1 f1 l1 q1 ⊢
  rw [NB] at p1
  have tx1:∀ e∈es1.toList,Ao w e:=fun e he=>by
   rcases List.mem_append.mp (p1.mem_iff.mp he) with z | z
   ·exact I.txt e z
   ·rw [fQ] at z;exact ⟨x,tk,z⟩
  have km:(es1.toList.map IX).Perm (ss++[x]):=(p1.map IX).trans (by rw [iH];exact pm.append_right _)
  have nd1:(ss++[x]).Nodup:=by
   rw [NN]
   exact ⟨pm.nodup_iff.mp I.nd,by simp,fun y hy z hz e=>hout (by rw [fQ] at hz;rw [<- hz,<- e];exact hy)⟩
  have sz1:es1.size=es.size + 1:=by rw [<- bv,p1.length_eq,bw,bv];rfl
  have few1:es1.size<jg:=by omega
  have gw:∀ (b:Bool) {s₁:ah}{Q':Unit->ah->Prop},Q' () s₁->av (aG P w) A (match b with | true=>rule "set.scan.the-table-gave-way" | false=>pure ()) Q' E s₁ :=
   fun b _ _ z=>by cases b<;>first | exact aj z | exact jF z
  have tail:∀ t2:ma,t2.fits es1.size=true->t2.led=t.led->t2.plain=false->av (aG P w) A (do
    storeSet a es1 t2
    if (!wd && t2.tooFull)=true then do
      (match (xu t2 es1 (iN es1.size)).2.2 with | true=>rule "set.scan.the-table-gave-way" | false=>pure ())
      storeSet a (xu t2 es1 (iN es1.size)).1 (xu t2 es1 (iN es1.size)).2.1
      pure (some true)
     else pure (some true)) (fun r s'=>r=some true/\Q true s') E s:=fun t2 f2 l2 n2=>by
   refine aa (wpAny_storeSet_of (s:=s) I.at_ rfl ?_ (rR few1))
   have at1:=KQ (es':=es1) (t':=t2) I
   have sb1:=dB s.heap a (xv es1 t2)
   have I1:kf w (s.heap.update a (xv es1 t2)) a es1 (ep + 1) t2:=⟨at1,tx1,km.nodup_iff.mpr nd1,few1,f2,l2.trans I.led,.inr n2⟩
   split
   ·have p2:=relayAll_perm t2 es1 (iN es1.size)
    have f3:=relayAll_fits t2 es1 (iN es1.size)
    have l3:=Mj t2 es1 (iN es1.size)
    generalize xu t2 es1 (iN es1.size)=R3 at p2 f3 l3 ⊢
    obtain ⟨es2,t3,gv2⟩:=R3
    dsimp only at p2 f3 l3 ⊢
    have few2:es2.size<jg:=by rw [<- bv,p2.length_eq,bv];exact few1
    have km2:=(p2.map IX).trans km
    refine aa (gw _ (aa (wpAny_storeSet_of (s:={ s with heap:=s.heap.update a (xv es1 t2) }) I1.at_ rfl ?_ (rR few2))))
    refine aj ⟨rfl,h _ _ (sb1.trans (dB _ a _)) ⟨es2,ep + 1 + 1,t3,⟨KQ I1,fun e he=>tx1 e (p2.mem_iff.mp he),km2.nodup_iff.mpr nd1,few2,f3,l3.1.trans (l2.trans I.led),.inr (l3.2 n2)⟩,km2⟩⟩
   ·exact aj ⟨rfl,h _ _ sb1 ⟨es1,ep + 1,t2,I1,km⟩⟩
  refine aa (gw gv ?_)
  cases hp:t1.plain with
  | true =>
   simp only [if_true]
   rw [hashByValue_scannable 8 (x:=.str x tk) rfl]
   refine aa (aj ?_)
   refine bh (tail { t1 with plain:=false } (by cases t1;exact f1) l1 rfl) (fun r s' z=>?_) fun _ _ z=>z
   obtain ⟨rfl,z⟩:=z
   exact aj z
  | false =>
   simp only [cz,if_false]
   refine aa (aj ?_)
   refine bh (tail t1 f1 l1 hp) (fun r s' z=>?_) fun _ _ z=>z
   obtain ⟨rfl,z⟩:=z
   exact aj z
theorem Gd {a:ai}{ss:List Str}{x:Str}{tk:Tok}{Q:Bool->ah->Prop} (hS:oQ w s.heap a ss) (hr:ss.length + 1<jg)
  (h:∀ h' tk',cF a s.heap h'->oQ w h' a (if x∈ss then ss else ss++[x])->Q (!decide (x∈ss)) { s with heap:=h',toks:=tk' }) :
  av (aG P w) A (setAdd a (.str x tk)) Q E s:=by
 unfold setAdd
 refine dH (aa ((strKind P w).pyHash (k:=x) (Z6 P w x tk) ?_))
 exact Mk (s:={ s with toks:=s.toks + 1 }) hS hr h
end
end
section
abbrev jC (w:b9):Obj:={ cls:=.type "set",dict:=none,data:=.set #[] 0 (.fresh 0 0 (!w.params.followText "set-order")) }
theorem Dq (w:b9) {h:br}{a:ai} (e:h.get? a=some (jC w)):oQ w h a [] :=
 ⟨#[],0,_,⟨e,fun e he=>by simp at he,by simp,by decide,rfl,rfl,.inl rfl⟩,by simp⟩
def fc:List Str->List Str->List Str
 | acc,[]=>acc
 | acc,x::r=>fc (if x∈acc then acc else acc++[x]) r
theorem pS:∀ (l acc:List Str) (x:Str),x∈fc acc l↔x∈acc\/x∈l
 | [],acc,x=>by simp [fc]
 | y::r,acc,x=>by
  rw [fc,pS r]
  by_cases h:y∈acc
  ·rw [if_pos h];simp only [bf]
   constructor
   ·exact fun z=>z.elim .inl fun z=>.inr (.inr z)
   ·rintro (z | z | z)
    ·exact .inl z
    ·exact .inl (z ▸ h)
    ·exact .inr z
  ·rw [if_neg h];simp [List.mem_append,or_assoc]
theorem n_:∀ (l acc:List Str),acc.Nodup->(fc acc l).Nodup
 | [],acc,h=>h
 | y::r,acc,h=>by
  rw [fc]
  refine n_ r _ ?_
  by_cases hy:y∈acc
  ·rw [if_pos hy];exact h
  ·rw [if_neg hy,NN]
   exact ⟨h,by simp,fun a ha b hb e=>hy (by rw [fQ] at hb;rw [<- hb,<- e];exact ha)⟩
theorem mD:∀ (l acc:List Str),(fc acc l).length<=acc.length + l.length
 | [],acc=>by simp [fc]
 | y::r,acc=>by
  rw [fc]
  have:=mD r (if y∈acc then acc else acc++[y])
  by_cases hy:y∈acc
  ·rw [if_pos hy] at this ⊢;simp only [cc];omega
  ·rw [if_neg hy] at this ⊢;simp only [cc,bw,lQ,gC] at this ⊢;omega
section
variable {prog:aH}{w:b9}{A:aW}{E:ae->ah->Prop}{s:ah}{R:uO->ah->Prop}
theorem oQ.keep {h h':br}{a:ai}{ss:List Str} (x:oQ w h a ss) (k:∀ o,h.get? a=some o->h'.get? a=some o):oQ w h' a ss :=
 let ⟨es,ep,t,I,p⟩:=x;⟨es,ep,t,⟨k _ I.at_,I.txt,I.nd,I.few,I.fits,I.led,I.pl⟩,p⟩
theorem Cj {I:ai}{fp wr:List ai}{n:Nat}{Pv:Nat->ae->Prop}{St:Nat->br->Prop} (W:RF prog w A.in1 I fp wr n Pv St) (D:ai) (hD:D∉fp) (xs:List Str) (hx:xs.length=n)
  (hv:∀ i v,Pv i v->∃ x t,xs[i]?=some x/\v=.str x t) (hb:n + 1<jg) :
  ∀ (k i:Nat) (s:ah) (acc:List Str),n - i=k->i<=n->acc.length<=i->St i s.heap->oQ w s.heap D acc ->
   (∀ h' tk,(∀ b o,b∉D::wr->s.heap.get? b=some o->h'.get? b=some o)->oQ w h' D (fc acc (xs.drop i))->R (.ok (.ret .none)) { s with heap:=h',toks:=tk }) ->
   iS (aG prog w) A (.builtin "set.update.loop" ⟨[.ref D,.ref I],[]⟩) R s:=by
 have hDw:D∉wr:=fun z=>hD (W.sub _ z)
 intro k
 induction k with
 | zero =>
  intro i s acc hk hi hl st hS hR
  obtain rfl:i=n:=by omega
  refine j5 qy ?_
  rw [j1 iI _]
  show av _ A.in1 (rY (.ref I) >>= _) _ _ s
  refine aa (W.done s _ _ st fun h' tk kp=>?_)
  refine aj (hR h' tk (fun b o hb e=>kp b o (fun z=>hb (aA _ z)) e) ?_)
  rw [List.drop_of_length_le (by omega)]
  exact hS.keep fun o e=>kp D o hDw e
 | succ k ih =>
  intro i s acc hk hi hl st hS hR
  have hlt:i<n:=by omega
  refine j5 qy ?_
  rw [j1 iI _]
  show av _ A.in1 (rY (.ref I) >>= _) _ _ s
  refine aa (W.item i s _ _ hlt st fun v h' tk hP st' kp=>?_)
  obtain ⟨x,t,hxi,rfl⟩:=hv i v hP
  have hS':oQ w h' D acc:=hS.keep fun o e=>kp D o hDw e
  refine aa (dH (Gd (s:={ s with heap:=h',toks:=tk }) hS' (by omega) fun h2 tk2 sb hS2=>?_))
  refine aj ⟨zH iI _,ih (i + 1) _ (if x∈acc then acc else acc++[x]) (by omega) hlt ?_ (W.frame _ _ _ st' fun b hb o e=>?_) hS2 fun h3 tk3 k3 hS3=>?_⟩
  ·by_cases z:x∈acc
   ·rw [if_pos z];omega
   ·rw [if_neg z,bw,lQ];omega
  ·rw [sb.2 b fun z=>hD (z ▸ hb)];exact e
  ·refine hR h3 tk3 (fun b o hb e=>k3 b o hb ?_) ?_
   ·rw [sb.2 b fun z=>hb (by rw [z];exact ay)]
    exact kp b o (fun z=>hb (aA _ z)) e
   ·have hd:xs.drop i=x::xs.drop (i + 1):=by
     obtain ⟨h1,h2⟩:=List.getElem?_eq_some_iff.mp hxi
     rw [List.drop_eq_getElem_cons h1,h2]
    rw [hd,fc];exact hS3
theorem Ox (a:ae) {Q₁:ae->ah->Prop} (h:Q₁ (.ref s.heap.objs.size) { s with heap:=s.heap.push (jC w) }) :
  iS (aG prog w) A (.call (.builtin "set.__new__") ⟨[.type "set",a],[]⟩) (wants Q₁ E) s:=by
 refine vN ?_
 show av _ A.in1 (do ug "set.__new__" ⟨[.type "set",a],[]⟩;again (.builtin "set.__new__" ⟨[.type "set",a],[]⟩)) _ _ s
 refine aa (xw (F.newCall_set_1 a) (aj ⟨zH F.plain_set_new _,j5 F.entry_set_new ?_⟩))
 rw [j1 F.plain_set_new _]
 unfold ir.«set.__new__» RG
 have hsub:=sub_set_self
 obtain ⟨hp,g,d,tk,os⟩:=s
 dsimp only
 wp_walk
 refine jX (aj ?_)
 dsimp only
 simp only [newObj]
 refine aa (RE (aj ?_))
 exact aj h
structure VO (prog:aH) (w:b9) (A:aW) (T:String) (l:ai) (o:Obj) (items:Array ae):Prop where
 ty:o.cls=.type T
 s1:isSubtype (.type T) (.type "set")=pure false
 s2:isSubtype (.type T) (.type "frozenset")=pure false
 nd:(j4 T == j4 "dict")=false
 iter:∀ (s:ah) (Q:ae->ah->Prop) (E:ae->ah->Prop),s.heap.get? l=some o ->
  (∀ ob St,RF prog w A.in1 s.heap.objs.size [s.heap.objs.size,l] [s.heap.objs.size] items.size (fun i v=>items[i]?=some v) St->St 0 (s.heap.push ob)->Q (.ref s.heap.objs.size) { s with heap:=s.heap.push ob })->av (aG prog w) A (E2 (.ref l)) Q E s
theorem wa {T:String}{l:ai}{ol:Obj}{items:Array ae}{xs:List Str}{Q:ae->ah->Prop}
  (src:VO prog w A.in1.in1 T l ol items) (hol:s.heap.get? l=some ol) (hi:∀ (i:Nat) (v:ae),items[i]?=some v->∃ x t,xs[i]?=some x/\v=lO x t) (hx:xs.length=items.size) (hb:items.size + 1<jg)
  (h:∀ (h':br) (tk:Nat),oQ w h' s.heap.objs.size (fc [] xs)->(∀ b o,s.heap.get? b=some o->h'.get? b=some o)->Q (.ref s.heap.objs.size) { s with heap:=h',toks:=tk }) :
  av (aG prog w) A (call (.type "set") [.ref l]) Q E s:=by
 obtain ⟨c,tl,hmro⟩:=F.called_set.mro
 have hmade:=F.called_set.made
 have hsub:=F.called_set.sub
 refine qD (vN ?_)
 show av _ _ (callAny (.type "set") _) _ _ _
 refine aj ⟨nX _ (by decide +kernel),j5 F.entry_type_call ?_⟩
 rw [Around.under_plain (weight_type_call_type "set" [.ref l] []) rfl]
 have h1:=F.called_set.notType
 have h2:=F.called_set.canCreate
 have hct:=F.typeCall_set_1 (.ref l)
 repeat (any_goals (first | assumption | wp_step))
 refine pK (Ox (.ref l) (E:=E) (Q₁:=fun obj s₁=>obj=.ref s.heap.objs.size/\s₁={ s with heap:=s.heap.push (jC w) }) ⟨rfl,rfl⟩) fun r s₁ hr=>?_
 cases r with
 | error e=>exact hr
 | ok fl =>
  cases fl with
  | ret obj =>
   obtain ⟨rfl,rfl⟩:=hr
   have hS:(s.heap.push (jC w)).get? s.heap.objs.size=some (jC w):=aE _ rfl
   have hT:RH { s with heap:=s.heap.push (jC w) } (.ref s.heap.objs.size) "set":=⟨_,hS,rfl⟩
   have hli:=F.called_set.init.lookup
   have hbi:=F.called_set.init.bind (.ref s.heap.objs.size)
   repeat (any_goals (first | assumption | wp_step))
   refine pK (nW (R:=wants (fun r s₂=>r=.none/\∃ h' tk,s₂={ s with heap:=h',toks:=tk }/\oQ w h' s.heap.objs.size (fc [] xs) /\
     (∀ b o,s.heap.get? b=some o->h'.get? b=some o)) E) F.called_set.init.plain F.entry_set_init (check_set_init_1 hT ?_)) fun r₂ s₂ hr₂=>?_
   ·obtain ⟨oc,od,odt,os'⟩:=ol
    obtain ⟨ty,s1,s2,nd,iter⟩:=src
    have ty:oc=.type T:=ty
    subst ty
    have hol':(s.heap.push (jC w)).get? l=some { cls:=.type T,dict:=od,data:=odt,slots:=os' }:=ag _ hol
    unfold ir.«set.__init__» noKeywords RI
    generalize hPI:E2=PI
    wp_walk
    subst hPI
    refine iter { s with heap:=s.heap.push (jC w) } _ _ hol' fun ob St W st=>?_
    have hlS:l<s.heap.objs.size:=ax hol
    refine aa (wpAny_runValue ?_)
    have szp:(s.heap.push (jC w)).objs.size=s.heap.objs.size + 1:=cr ..
    refine Cj (A:=A.in1.in1) W s.heap.objs.size (by rw [szp];simp only [bf,aQ,or_false,not_or];exact ⟨aO (i0 _),iz hlS⟩) xs hx hi hb items.size 0 _ [] (by omega) (dU _) (az _) st (Dq w (ag _ hS)) fun h' tk kp hS'=>?_
    show av _ _ _ _ _ _
    refine aj ?_
    show av _ _ (ret ef) _ _ _
    refine aj ⟨rfl,h',tk,rfl,hS',fun b o e=>kp b o ?_ (ag _ (ag _ e))⟩
    have:=ax e
    rw [szp]
    simp only [bf,aQ,or_false,not_or]
    exact ⟨aO this,aO (gO this)⟩
   ·cases r₂ with
    | error e=>exact hr₂
    | ok fl₂ =>
     cases fl₂ with
     | ret r =>
      obtain ⟨rfl,h',tk,rfl,hS',hk'⟩:=hr₂
      repeat (any_goals (first | assumption | wp_step))
      exact h _ _ hS' hk'
     | next=>exact hr₂.elim
     | brk=>exact hr₂.elim
     | cont=>exact hr₂.elim
  | next=>exact hr.elim
  | brk=>exact hr.elim
  | cont=>exact hr.elim
theorem Oy {l:ai}{o:Obj}{its:List ae} (hh:A.handled=none) (e0:o.cls=.type "list") (e1:∃ n,o.data=.seq its.toArray n):VO prog w A "list" l o its.toArray :=
 ⟨e0,F.sub_list_set,F.sub_list_frozenset,by decide,fun s Q E e h=>rP ⟨_,e,e0,e1⟩
  (h _ _ (LZ (by simpa using hh) _ l (aO (ax e)) its.toArray) ⟨⟨_,aE _ rfl,rfl,rfl⟩,⟨_,ag _ e,e0,e1⟩⟩)⟩
theorem So {l:ai}{o:Obj}{its:List ae} (hh:A.handled=none) (e0:o.cls=.type "tuple") (e1:∃ n,o.data=.seq its.toArray n):VO prog w A "tuple" l o its.toArray :=
 ⟨e0,F.sub_tuple_set,F.sub_tuple_frozenset,by decide,fun s Q E e h=>gz ⟨_,e,e0,e1⟩
  (h _ _ (Walks.tuple (by simpa using hh) _ l (aO (ax e)) its.toArray) ⟨⟨_,aE _ rfl,rfl,rfl⟩,⟨_,ag _ e,e0,e1⟩⟩)⟩
end
end
end L2
section
namespace L2
open PySem PySem.Spec PyProof.Rows
namespace SI
theorem entry_iter:entryFor table "set.__iter__"=some ir.«frozenset.__iter__» :=
 entryFor_alias (id':="frozenset.__iter__") (by kernel_rfl) rfl (by decide +kernel) (by kernel_rfl)
theorem slot_next:Slot "set_iterator" "__next__" "set_iterator.__next__":=by
 refine .of (owner:="set_iterator") (n:="__next__") ?_ ?_ ?_ ?_ ?_ ?_
 ·rw [FU,vU];kernel_rfl
 ·decide +kernel
 ·decide +kernel
 ·decide +kernel
 ·first
   | exact .inl (by decide +kernel)
   | exact .inr (by decide +kernel)
 ·rw [Iy];kernel_rfl
theorem entry_next:entryFor table "set_iterator.__next__"=some ir.«set_iterator.__next__» :=
 entryFor_of_tree (by kernel_rfl)
theorem Ge:Manifest.owners.lookup (String.ofList ['r','o','t','a','r','e','t','i','_','t','e','s'].reverse)=some Manifest.sig_set_iterator:=by kernel_rfl
theorem args_next (a:ae):NO "set_iterator.__next__" ⟨[a],[]⟩:=by
 unfold NO
 rw [signature?_of (id:="set_iterator.__next__") (n:=['_','_','t','x','e','n','_','_']) (o:=['r','o','t','a','r','e','t','i','_','t','e','s']) (by kernel_rfl) Ge]
 kernel_rfl
theorem args_iter (a:ae):NO "set_iterator.__iter__" ⟨[a],[]⟩:=by
 unfold NO
 rw [signature?_of (id:="set_iterator.__iter__") (n:=['_','_','r','e','t','i','_','_']) (o:=['r','o','t','a','r','e','t','i','_','t','e','s']) (by kernel_rfl) Ge]
 kernel_rfl
theorem entry_self:entryFor table "set_iterator.__iter__"=some ir.«dict_keyiterator.__iter__» :=
 entryFor_alias (id':="dict_keyiterator.__iter__") (by kernel_rfl) rfl (by decide +kernel) (by kernel_rfl)
theorem slot_iter:Slot "set_iterator" "__iter__" "set_iterator.__iter__":=by
 refine .of (owner:="set_iterator") (n:="__iter__") ?_ ?_ ?_ ?_ ?_ ?_
 ·rw [FU,vU];kernel_rfl
 ·decide +kernel
 ·decide +kernel
 ·decide +kernel
 ·first
   | exact .inl (by decide +kernel)
   | exact .inr (by decide +kernel)
 ·rw [Iy];kernel_rfl
end SI
end L2
end
namespace L2
open PySem PySem.Spec PyProof.Rows
section
theorem uY {α:Type}:∀ {l:List α}{i:Nat} (h:i<l.length),(l[i]::l.eraseIdx i).Perm l
 | x::r,0,_=>.refl _
 | x::r,i + 1,h=>by
  have q:=uY (l:=r) (i:=i) (by simpa using h)
  rw [List.getElem_cons_succ,List.eraseIdx_cons_succ]
  exact (List.Perm.swap _ _ _).trans (q.cons x)
section
variable {M:zC}{A:aW}{E:ae->ah->Prop}{s:ah}
theorem Ml {src:Source}{n:Nat}{Q:Nat->ah->Prop} (hn:n≠0) (h:∀ i d,i<n->Q i { s with drawn:=d }):av M A (choose src n) Q E s :=
 fun _ _ _=>⟨hn,h _ _ (Nat.mod_lt _ (Nat.pos_of_ne_zero hn))⟩
theorem wc {α:Type}:∀ (n:Nat) (xs:List α) (s:ah) (Q:List α->ah->Prop),n=xs.length->(∀ ys d,ys.Perm xs->Q ys { s with drawn:=d })->av M A (drawOrder n xs) Q E s
 | 0,xs,s,Q,hn,h=>by
  obtain rfl:xs=[]:=List.length_eq_zero_iff.mp hn.symm
  exact aj (h [] s.drawn .nil)
 | n + 1,[],s,Q,hn,h=>by cases hn
 | n + 1,x::r,s,Q,hn,h=>by
  show av M A (choose .order (x::r).length >>= _) Q E s
  refine aa (Ml (by simp) fun i d hi=>?_)
  rw [bg hi]
  refine aa (wc n _ _ _ (by rw [D9 hi];omega) fun ys d' p=>aj ?_)
  exact h _ _ ((p.cons _).trans (uY hi))
end
theorem tN {α:Type} (next:Nat->Nat):∀ (n k:Nat) (left:List α) (out:Array α),n=left.length->(Cb next n k left out).toList.Perm (out.toList++left)
 | 0,k,left,out,hn=>by
  obtain rfl:left=[]:=List.length_eq_zero_iff.mp hn.symm
  rw [Cb,c_]
 | n + 1,k,left,out,hn=>by
  have hl:next k % left.length<left.length:=Nat.mod_lt _ (by omega)
  rw [Cb,bg hl]
  refine (tN next n (k + 1) _ _ (by rw [D9 hl];omega)).trans ?_
  rw [NB,yw]
  exact (uY hl).append_left _
theorem Dr {α:Type} (next:Nat->Nat) (xs:Array α):(qz next xs).toList.Perm xs.toList:=by
 have:=tN next xs.size 0 xs.toList #[] (by simp)
 simpa [qz] using this
def Ei (h:br) (I S:ai) (first:ae) (i n ep:Nat):Prop:=h.get? I=some { cls:=.type "set_iterator",data:=.fields #[first,.int i 0,.ref S,.int n 0,.int ep 0] }
section
variable {prog:aH}{w:b9}{A:aW}{E:ae->ah->Prop}{s:ah}{I S:ai}{es:Array (Int×ae)}{ep:Nat}{t:ma}{i n:Nat}{first:ae}
theorem Ei.put {f f':ae}{j j':Nat}{k:Nat}{x:ae}{h:br} (hit:Ei h I S f j n ep) (e:(#[f,.int j 0,.ref S,.int n 0,.int ep 0] : Array ae).setIfInBounds k x=#[f',.int j' 0,.ref S,.int n 0,.int ep 0]) :
  Ei (h.update I (fN (·.setIfInBounds k x))) I S f' j' n ep:=by
 have q:=fV (fN (·.setIfInBounds k x)) hit rfl
 unfold Ei
 rw [q]
 show some ({ cls:=.type "set_iterator",data:=.fields ((#[f,.int j 0,.ref S,.int n 0,.int ep 0] : Array ae).setIfInBounds k x) }:Obj)=_
 rw [e]
theorem tO {Q:Option ae->ah->Prop} (hit:Ei s.heap I S first i n ep) (hS:kf w s.heap S es ep t) (hn:n=es.size)
  (h:av (aG prog w) A.in1 (do
   if let .int slot _:=first then
    match <- NQ S slot.toNat i ep with
    | some (x,next) =>
     iB (.ref I) 0 (cE next)
     iB (.ref I) 1 (cE (i + 1))
     ret x
    | none=>iB (.ref I) 2 .none;xx (<- A7 (.type "StopIteration") [])
   else
    let some places <- NC first | RJ "internal:set_iterator"
    match places[i]? with
    | some (.int place _) =>
     let x <- setNextDrawn S place.toNat ep
     iB (.ref I) 1 (cE (i + 1))
     ret x
    | some _=>RJ "internal:set_iterator"
    | none=>iB (.ref I) 0 (cE 0);iB (.ref I) 2 .none;xx (<- A7 (.type "StopIteration") []))
   (fun fin s'=>∃ v,fin=.done (.ret v)/\Q (some v) s') (fun e s'=>av (aG prog w) A (uR e (.type "StopIteration")) (fun b s''=>b=true/\Q none s'') E s') s) :
  av (aG prog w) A (rY (.ref I)) Q E s:=by
 unfold rY
 refine aa (nQ ?_)
 refine cP (name:=iA "__next__") ⟨_,hit,rfl⟩ SI.slot_next ?_
 refine cQ SI.slot_next ⟨_,hit,rfl⟩ SI.entry_next ?_ (SI.args_next _)
 show av _ _ (fieldsOf (.ref I) >>= _) _ _ s
 refine aa (wpAny_fieldsOf hit rfl ?_)
 show av _ _ (setEntries S >>= _) _ _ s
 refine aa (wpAny_setEntries_of hS.at_ rfl hS.fits ?_)
 rw [if_neg (by rw [hn];simp)]
 refine bh h (fun fin s' z=>?_) fun e s' z=>?_
 ·obtain ⟨v,rfl,q⟩:=z
  exact ⟨v,rfl,aj q⟩
 ·refine aa (bh z (fun b s'' ⟨hb,q⟩=>?_) fun _ _ z=>z)
  subst hb
  exact aj q
theorem Ej {B:aW}{Q:Option ae->ah->Prop}{Q':Fin->ah->Prop}{o:Obj}{vs:Array ae} (hh:B.handled=none) (ho:s.heap.get? I=some o) (hd:o.data=.fields vs) (hz:2<vs.size)
  (h:∀ h',Heap.ExtBut I s.heap h'->Q none { s with heap:=h' }) :
  av (aG prog w) B (do iB (.ref I) 2 .none;xx (<- A7 (.type "StopIteration") []))
   Q' (fun e s'=>av (aG prog w) A (uR e (.type "StopIteration")) (fun b s''=>b=true/\Q none s'') E s') s:=by
 refine aa (jG ho hd hz ?_)
 show av _ _ (A7 (.type "StopIteration") [] >>= _) _ _ _
 refine aa ?_
 simp only [A7,newTuple]
 refine aa (bW ?_ (by size_fits))
 refine aa (m:=xy _ _) (xw (a:=ef) ?_ ?_)
 ·first
   | rfl
   | (simp only [xy];rfl)
 refine bW ?_ (by size_fits)
 simp only [xx]
 refine aa (wpAny_handled ?_)
 rw [hh]
 refine aa (aj (wpAny_throw ?_))
 refine uh (T:="StopIteration") (b:=true) ⟨_,aE _ rfl,rfl⟩ Iz ⟨rfl,?_⟩
 exact h _ (((dB ..).extBut.push _).push _)
end
end
section
section
variable {prog:aH}{w:b9}{A:aW}{E:ae->ah->Prop}{s:ah}{I S:ai}{es:Array (Int×ae)}{ep:Nat}{t:ma}{i n:Nat}{first:ae}
theorem kf.keep {h h':br} (x:kf w h S es ep t) (k:∀ o,h.get? S=some o->h'.get? S=some o):kf w h' S es ep t:=⟨k _ x.at_,x.txt,x.nd,x.few,x.fits,x.led,x.pl⟩
theorem Ek {Q:ae->ah->Prop} (hit:Ei s.heap I S first i n ep) (h:Q (.ref I) s):av (aG prog w) A (E2 (.ref I)) Q E s:=by
 refine wpAny_pyIter_slot ⟨_,hit,rfl⟩ SI.slot_iter (cQ SI.slot_iter ⟨_,hit,rfl⟩ SI.entry_self ?_ (SI.args_iter _))
 show av _ _ (ret (.ref I)) _ _ s
 exact aj ⟨_,rfl,"set_iterator",_,⟨_,hit,rfl⟩,SI.slot_next.lookup,h⟩
theorem iu {Q:Bool->ah->Prop}{B:aW} (h:Q (w.params.followText "set-order") s):av (aG prog w) B setsByText Q E s:=by
 unfold setsByText
 exact aa (jX (aj h))
theorem Oz {B:aW}{Q':Fin->ah->Prop}{x:ae}{nx:Nat}{E':ae->ah->Prop} (hit:Ei s.heap I S first i n ep)
  (h:∀ h',Ei h' I S (.int nx 0) (i + 1) n ep->cF I s.heap h'->Q' (.done (.ret x)) { s with heap:=h' }) :
  av (aG prog w) B (do iB (.ref I) 0 (cE nx);iB (.ref I) 1 (cE (i + 1));ret x) Q' E' s:=by
 refine aa (jG hit rfl (by simp) ?_)
 have h1:Ei (s.heap.update I (fN (·.setIfInBounds 0 (cE nx)))) I S (.int nx 0) i n ep:=hit.put (by simp [cE])
 refine aa (jG h1 rfl (by simp) ?_)
 have h2:Ei ((s.heap.update I (fN (·.setIfInBounds 0 (cE nx)))).update I (fN (·.setIfInBounds 1 (cE (i + 1))))) I S (.int nx 0) (i + 1) n ep:=h1.put (by simp [cE])
 exact aj (h _ h2 ((dB ..).trans (dB ..)))
theorem xH (f:Nat->Nat) (es:Array (Int×ae)):(qz f es).size=es.size:=by
 rw [<- bv,(Dr f es).length_eq,bv]
theorem IZ (hh:A.handled=none) (hw:w.params.followText "set-order"=true) (hne:S≠I) :
  RF prog w A I [I,S] [I] es.size (fun i v=>((qz (w.params.setOrder S ep) es).toList.map (·.2))[i]?=some v) (fun i h=>Ei h I S (.int 0 0) i es.size ep/\kf w h S es ep t) where
 sub:=fun b hb=>by simp at hb;simp [hb]
 frame:=fun i h h' st k=>⟨k I (by simp) _ st.1,st.2.keep fun o e=>k S (by simp) o e⟩
 item:=fun i s Q E hi st hQ=>by
  obtain ⟨hit,hS⟩:=st
  refine tO hit hS rfl ?_
  dsimp only
  unfold NQ setWalk
  refine aa (aa (fE hS.at_ rfl hS.fits (aa (iu ?_))))
  rw [hw]
  simp only [if_true,bne_self_eq_false,cz,if_false]
  refine aa (aa (fE hS.at_ rfl hS.fits (aa (iu ?_))))
  rw [hw]
  simp only [if_true]
  refine aa (jX (aj (aj ?_)))
  have hi':i<(qz (w.params.setOrder S ep) es).size:=by rw [xH];exact hi
  show av _ _ (match ((qz (w.params.setOrder S ep) es)[i]?).map fun e=>(e.2,(0:Int).toNat) with
   | some (x,next)=>do iB (.ref I) 0 (cE next);iB (.ref I) 1 (cE (i + 1));ret x
   | none=>do iB (.ref I) 2 .none;xx (<- A7 (.type "StopIteration") [])) _ _ s
  rw [getElem?_pos _ i hi']
  refine Oz (nx:=0) hit fun h' h1 sb=>⟨_,rfl,hQ _ h' s.toks ?_ ⟨h1,hS.keep fun o e=>(sb.2 S hne).trans e⟩ fun b o hb e=>(sb.2 b fun z=>hb (by simp [z])).trans e⟩
  simp [hi']
 done:=fun s Q E st hQ=>by
  obtain ⟨hit,hS⟩:=st
  refine tO hit hS rfl ?_
  dsimp only
  unfold NQ setWalk
  refine aa (aa (fE hS.at_ rfl hS.fits (aa (iu ?_))))
  rw [hw]
  simp only [if_true,bne_self_eq_false,cz,if_false]
  refine aa (aa (fE hS.at_ rfl hS.fits (aa (iu ?_))))
  rw [hw]
  simp only [if_true]
  refine aa (jX (aj (aj ?_)))
  show av _ _ (match ((qz (w.params.setOrder S ep) es)[es.size]?).map fun e=>(e.2,(0:Int).toNat) with
   | some (x,next)=>do iB (.ref I) 0 (cE next);iB (.ref I) 1 (cE (es.size + 1));ret x
   | none=>do iB (.ref I) 2 .none;xx (<- A7 (.type "StopIteration") [])) _ _ s
  rw [getElem?_neg _ es.size (by rw [xH];exact cb _)]
  exact Ej (by simpa using hh) hit rfl (by simp) fun h' eb=>hQ h' s.toks fun b o hb e=>eb b o (fun z=>hb (by simp [z])) e
 self:=fun i s Q E st h=>Ek st.1 h
inductive ZR (h:br) (T:ai) (ps:List Nat):Prop
 | mk (o k:_) (h0:h.get? T=some o) (h1:o.data=.seq (ps.map fun (p:Nat)=>qC (p:Int) 0).toArray k):ZR h T ps
theorem Gf (hh:A.handled=none) {T:ai}{ps:List Nat} (hne:S≠I) (hT:T≠I) (hp:∀ p∈ps,p<es.size) (hn:ps.length=es.size) :
  RF prog w A I [I,S,T] [I] es.size (fun i v=>(ps.map fun p=>(es.getD p (0,.none)).2)[i]?=some v) (fun i h=>Ei h I S (.ref T) i es.size ep/\kf w h S es ep t/\ZR h T ps) where
 sub:=fun b hb=>by simp at hb;simp [hb]
 frame:=fun i h h' st k=>⟨k I (by simp) _ st.1,st.2.1.keep fun o e=>k S (by simp) o e,let ⟨o,q,e,d⟩:=st.2.2;⟨o,q,k T (by simp) o e,d⟩⟩
 item:=fun i s Q E hi st hQ=>by
  obtain ⟨hit,hS,o,q,e,d⟩:=st
  refine tO hit hS rfl ?_
  dsimp only
  refine aa (fm e d ?_)
  have hi':i<ps.length:=by omega
  dsimp only
  rw [show ((ps.map fun (p:Nat)=>qC (p:Int) 0).toArray)[i]?=some (.int (ps[i] : Nat) 0) by simp [hi']]
  dsimp only
  unfold setNextDrawn
  refine aa (aa (fE hS.at_ rfl hS.fits ?_))
  have hlt:=hp ps[i] (hW hi')
  simp only [bne_self_eq_false,cz,if_false,kU]
  rw [getElem?_pos es ps[i] hlt]
  refine aj ?_
  refine aa (jG hit rfl (by simp) ?_)
  have h1:Ei (s.heap.update I (fN (·.setIfInBounds 1 (cE (i + 1))))) I S (.ref T) (i + 1) es.size ep:=hit.put (by simp [cE])
  have sb:cF I s.heap (s.heap.update I (fN (·.setIfInBounds 1 (cE (i + 1))))):=dB ..
  refine aj ⟨_,rfl,hQ _ _ s.toks ?_ ⟨h1,hS.keep fun o e=>(sb.2 S hne).trans e,o,q,(sb.2 T hT).trans e,d⟩ fun b o hb e=>(sb.2 b fun z=>hb (by simp [z])).trans e⟩
  simp [hi',hlt]
 done:=fun s Q E st hQ=>by
  obtain ⟨hit,hS,o,q,e,d⟩:=st
  refine tO hit hS rfl ?_
  dsimp only
  refine aa (fm e d ?_)
  dsimp only
  rw [show ((ps.map fun (p:Nat)=>qC (p:Int) 0).toArray)[es.size]?=none by simp [<- hn]]
  dsimp only
  refine aa (jG hit rfl (by simp) ?_)
  have h1:Ei (s.heap.update I (fN (·.setIfInBounds 0 (cE 0)))) I S (.int 0 0) es.size es.size ep:=hit.put (by simp [cE])
  have sb:cF I s.heap (s.heap.update I (fN (·.setIfInBounds 0 (cE 0)))):=dB ..
  exact Ej (s:={ s with heap:=s.heap.update I (fN (·.setIfInBounds 0 (cE 0))) }) (by simpa using hh) h1 rfl (by simp) fun h' eb=>hQ h' s.toks fun b o hb e=>eb b o (fun z=>hb (by simp [z])) ((sb.2 b fun z=>hb (by simp [z])).trans e)
 self:=fun i s Q E st h=>Ek st.1 h
theorem OA {p:Array Nat}{j:Nat} (h:p=#[j]):iO p 0=0:=by subst h;simp [iO,Cc]
theorem OB {p:Array Nat}{j:Nat} (h:p=#[j]):iO p (j + 1)=1:=by subst h;simp [iO,Cc]
theorem Mm {t : ma} (h : t.fits 1 = true) : ∃ j, t.place = #[j] := by
  have h1 : t.place.size = 1 := by
    simp only [SetTable.fits, aL, beq_iff_eq] at h; exact h.1
  exact ⟨t.place[0], by apply Array.ext; · simp [h1]
                        · intro i h2 h3; have : i = 0 := by omega
                          subst this; simp⟩
theorem VP {B:aW}{k:Unit->Sem (Option (ae×Nat))}{Q:Option (ae×Nat)->ah->Prop} (hl:t.led=true) (h:av (aG prog w) B (k ()) Q E s) :
  av (aG prog w) B ((if (!t.led && !es.isEmpty)=true then RJ "set:maker-not-led" else pure ()) >>= k) Q E s:=by
 rw [if_neg (by rw [hl];simp)]
 exact aa (aj h)
theorem we {B:aW}{slot g:Nat}{Q:Option (ae×Nat)->ah->Prop} (hw:w.params.followText "set-order"=false) (hS:kf w s.heap S es ep t) (h1:es.size<=1)
  (h:Q (match es[iO t.place slot]?,t.place[iO t.place slot]? with | some (_,x),some j=>some (x,j + 1) | _,_=>none) s):av (aG prog w) B (NQ S slot g ep) Q E s:=by
 unfold NQ
 refine aa (fE hS.at_ rfl hS.fits (aa (iu ?_)))
 rw [hw]
 simp only [cz,if_false]
 split
 ·rename_i z
  exact absurd (show (!t.plain && decide (es.size > 1))=true from z) (by simp;omega)
 ·have hl:t.led=true:=by rw [hS.led,hw];rfl
  exact VP hl (aj h)
theorem Mn (hh:A.handled=none) (hw:w.params.followText "set-order"=false) (hne:S≠I) (h1:es.size<=1) :
  RF prog w A I [I,S] [I] es.size (fun i v=>(es.toList.map (·.2))[i]?=some v)
   (fun i h=>∃ k,Ei h I S (.int (k:Nat) 0) i es.size ep/\kf w h S es ep t/\(i=0->k=0)/\(i=1->es.size=1->∃ j,t.place=#[j]/\k=j + 1)) where
 sub:=fun b hb=>by simp at hb;simp [hb]
 frame:=fun i h h' st k=>let ⟨c,a1,a2,a3⟩:=st;⟨c,k I (by simp) _ a1,a2.keep fun o e=>k S (by simp) o e,a3⟩
 item:=fun i s Q E hi st hQ=>by
  obtain ⟨c,hit,hS,c0,c1⟩:=st
  have hi0:i=0:=by omega
  subst hi0
  obtain rfl:c=0:=c0 rfl
  have e1:es.size=1:=by omega
  obtain ⟨j,hj⟩:=Mm (t:=t) (by rw [<- e1];exact hS.fits)
  refine tO hit hS rfl ?_
  dsimp only
  refine aa (we hw hS h1 ?_)
  rw [show (((0:Nat):Int).toNat)=0 from rfl,OA hj,getElem?_pos es 0 (by omega),hj]
  refine Oz (nx:=j + 1) hit fun h' h1 sb=>⟨_,rfl,hQ _ h' s.toks ?_ ⟨j + 1,h1,hS.keep fun o e=>(sb.2 S hne).trans e,by simp,fun _ _=>⟨j,hj,rfl⟩⟩ fun b o hb e=>(sb.2 b fun z=>hb (by simp [z])).trans e⟩
  simp [e1]
 done:=fun s Q E st hQ=>by
  obtain ⟨c,hit,hS,c0,c1⟩:=st
  refine tO hit hS rfl ?_
  dsimp only
  refine aa (we hw hS h1 ?_)
  have hz:es[iO t.place ((c:Nat):Int).toNat]?=none:=by
   rcases Nat.eq_zero_or_pos es.size with z | z
   ·rw [getElem?_neg];omega
   ·have e1:es.size=1:=by omega
    obtain ⟨j,hj,hc⟩:=c1 e1 e1
    rw [hc,show (((j + 1:Nat):Int).toNat)=j + 1 from rfl,OB hj,getElem?_neg];omega
  rw [hz]
  exact Ej (by simpa using hh) hit rfl (by simp) fun h' eb=>hQ h' s.toks fun b o hb e=>eb b o (fun z=>hb (by simp [z])) e
 self:=fun i s Q E st h=>let ⟨_,a1,_⟩:=st;Ek a1 h
theorem I_ {Q:ae->ah->Prop} (hh:A.handled=none) (hS:kf w s.heap S es ep t)
  (h:∀ (I:ai) (fp:List ai) (ord:List ae) (St:Nat->br->Prop) (h':br) (d:Nw),s.heap.objs.size<=I->(∀ b∈fp,b=S\/s.heap.objs.size<=b)->(∀ b∈fp,b<h'.objs.size)->ord.Perm (es.toList.map (·.2))->(∀ B:aW,B.handled=none->RF prog w B I fp [I] ord.length (fun i v=>ord[i]?=some v) St)->St 0 h' ->
   (∀ b o,s.heap.get? b=some o->h'.get? b=some o)->RH { s with heap:=h',drawn:=d } (.ref I) "set_iterator"->Q (.ref I) { s with heap:=h',drawn:=d }):av (aG prog w) A (E2 (.ref S)) Q E s:=by
 have hT:s.TypeIs (.ref S) "set":=⟨_,hS.at_,rfl⟩
 have hlt:=ax hS.at_
 refine wpAny_pyIter_slot hT F.slot_set_iter (cQ F.slot_set_iter hT SI.entry_iter ?_ (F.args_set_iter_1 _))
 show av _ _ (uS S >>= _) _ _ s
 unfold uS
 refine aa (aa (wpAny_setEntries_of hS.at_ rfl hS.fits (aj ?_)))
 show av _ _ (setDrawn S >>= _) _ _ s
 unfold setDrawn
 refine aa (aa (fE hS.at_ rfl hS.fits (aa (iu (aj ?_)))))
 have fin:∀ (first:ae) (fp:List ai) (ord:List ae) (St:Nat->br->Prop) (h':br) (d:Nw),(∀ b o,s.heap.get? b=some o->h'.get? b=some o)->s.heap.objs.size<=h'.objs.size ->
   (∀ b∈fp,b=S\/b=h'.objs.size\/(s.heap.objs.size<=b/\b<h'.objs.size))->ord.Perm (es.toList.map (·.2))->(∀ B:aW,B.handled=none->RF prog w B h'.objs.size fp [h'.objs.size] ord.length (fun i v=>ord[i]?=some v) St) ->
   (∀ h'':br,(∀ b o,h'.get? b=some o->h''.get? b=some o)->Ei h'' h'.objs.size S first 0 es.size ep->St 0 h'') ->
   av (aG prog w) A.in1 (setEpoch S >>= fun e=>newFields "set_iterator" [first,cE 0,.ref S,cE es.size,cE e] >>= fun x=>ret x) (fun fin s'=>∃ v,fin=.done (.ret v)/\∃ T' r,s'.TypeIs v T'/\iT (.type T') "__next__"=pure (some r)/\Q v s') E { s with heap:=h',drawn:=d }:=by
  intro first fp ord St h' d kp hsz hfp pm W st
  have hS':kf w h' S es ep t:=hS.keep fun o e=>kp S o e
  refine aa (wpAny_setEpoch_of (s:={ s with heap:=h',drawn:=d }) hS'.at_ rfl hS'.fits ?_)
  refine aa (bW ?_ (by size_fits))
  have gp:∀ b o,h'.get? b=some o->(h'.push { cls:=.type "set_iterator",dict:=none,data:=.fields #[first,cE 0,.ref S,cE es.size,cE ep] }).get? b=some o:=fun b o e=>ag _ e
  have it:(h'.push { cls:=.type "set_iterator",dict:=none,data:=.fields #[first,cE 0,.ref S,cE es.size,cE ep] }).get? h'.objs.size=some { cls:=.type "set_iterator",dict:=none,data:=.fields #[first,cE 0,.ref S,cE es.size,cE ep] }:=aE _ rfl
  refine aj ⟨_,rfl,"set_iterator",_,⟨_,it,rfl⟩,SI.slot_next.lookup,h h'.objs.size fp ord St _ d hsz (fun b hb=>?_) (fun b hb=>?_) pm W (st _ gp it) (fun b o e=>gp b o (kp b o e)) ⟨_,it,rfl⟩⟩
  ·rcases hfp b hb with z | z | z
   ·exact .inl z
   ·exact .inr (by rw [z];exact hsz)
   ·exact .inr z.1
  ·rw [cr]
   rcases hfp b hb with z | z | z
   ·rw [z];exact gO (aF hlt hsz)
   ·rw [z];exact i0 _
   ·exact gO z.2
 dsimp only
 split
 ·rename_i z
  have z:(!w.params.followText "set-order" && (!t.plain && decide (es.size > 1)))=true:=z
  refine aa (wc _ _ _ _ (by simp) fun ys d pm=>?_)
  simp only [newTuple]
  have hyl:ys.length=es.size:=by have:=pm.length_eq;rwa [kO] at this
  have zl:=rR hS.few
  refine aa (bW ?_ (by show (ys.map fun (i:Nat)=>cE i).toArray.size<=sizeLine;simp;omega))
  have tp:∀ ob:Obj,(s.heap.push ob).objs.size=s.heap.objs.size + 1:=fun ob=>cr ..
  refine fin (.ref s.heap.objs.size) [s.heap.objs.size + 1,S,s.heap.objs.size] (ys.map fun p=>(es.getD p (0,.none)).2)
   (fun i h=>Ei h (s.heap.objs.size + 1) S (.ref s.heap.objs.size) i es.size ep/\kf w h S es ep t/\ZR h s.heap.objs.size ys) (s.heap.push _) d
   (fun b o e=>ag _ e) (by rw [tp];exact kL _) (fun b hb=>?_) ?_ (fun B hB=>?_) (fun h'' k it=>⟨by rw [tp] at it;exact it,hS.keep fun o e=>k S o (ag _ e),_,_,k _ _ (aE _ rfl),rfl⟩)
  ·simp only [bf,aQ,or_false] at hb
   rcases hb with y | y | y
   ·exact .inr (.inl (by rw [tp];exact y))
   ·exact .inl y
   ·exact .inr (.inr ⟨by rw [y];exact az _,by rw [tp,y];exact i0 _⟩)
  ·refine (pm.map _).trans (.of_eq ?_)
   apply Rp
   ·simp
   ·intro k h1 h2
    have:k<es.size:=by simpa using h1
    simp [this]
  ·rw [aN,hyl,tp]
   exact Gf hB (aO (gO hlt)) (aO (i0 _)) (fun p hp=>List.mem_range.mp (pm.mem_iff.mp hp)) hyl
 ·rename_i z
  have z:¬ (!w.params.followText "set-order" && (!t.plain && decide (es.size > 1)))=true:=z
  refine aa (aj ?_)
  have hne:S≠s.heap.objs.size:=aO hlt
  cases hw:w.params.followText "set-order" with
  | true =>
   refine fin (cE 0) [s.heap.objs.size,S] ((qz (w.params.setOrder S ep) es).toList.map (·.2)) (fun i h=>Ei h s.heap.objs.size S (.int 0 0) i es.size ep/\kf w h S es ep t) s.heap s.drawn (fun _ _ e=>e) (az _) (fun b hb=>?_) ((Dr _ es).map _) (fun B hB=>?_) (fun h'' k it=>⟨it,hS.keep fun o e=>k S o e⟩)
   ·simp only [bf,aQ,or_false] at hb
    exact hb.elim (fun z=>.inr (.inl z)) .inl
   ·rw [aN,bv,xH]
    exact IZ hB hw hne
  | false =>
   have h1:es.size<=1:=by
    rw [hw] at z
    rcases hS.pl with y | y
    ·omega
    ·rw [y] at z;simpa using z
   refine fin (cE 0) [s.heap.objs.size,S] (es.toList.map (·.2)) (fun i h=>∃ k,Ei h s.heap.objs.size S (.int (k:Nat) 0) i es.size ep/\kf w h S es ep t/\(i=0->k=0)/\(i=1->es.size=1->∃ j,t.place=#[j]/\k=j + 1)) s.heap s.drawn (fun _ _ e=>e) (az _) (fun b hb=>?_) (.refl _) (fun B hB=>?_) (fun h'' k it=>⟨0,it,hS.keep fun o e=>k S o e,fun _=>rfl,fun y=>by cases y⟩)
   ·simp only [bf,aQ,or_false] at hb
    exact hb.elim (fun z=>.inr (.inl z)) .inl
   ·rw [aN,bv]
    exact Mn hB hw hne h1
end
end
section
section
variable {prog:aH}{w:b9}{A:aW}{E:ae->ah->Prop}{s:ah}{S:ai}{es:Array (Int×ae)}{ep:Nat}{t:ma}
theorem Gg {Q:List ae->ah->Prop} (hh:A.handled=none) (hS:kf w s.heap S es ep t)
  (h:∀ (ord:List ae) (h':br) (d:Nw) (tk:Nat),ord.Perm (es.toList.map (·.2))->(∀ b o,s.heap.get? b=some o->h'.get? b=some o)->s.heap.objs.size<=h'.objs.size->Q ord { s with heap:=h',drawn:=d,toks:=tk }) :
  av (aG prog w) A (collect (.ref S)) Q E s:=by
 have hlt:=ax hS.at_
 unfold collect
 refine aa (wpAny_runValue (j5 F.entry_proto_collect ?_))
 rw [j1 F.plain_proto_collect _]
 show av _ A.in1 (newList [] >>= fun l=>again (.builtin "list.__iadd__" ⟨[l,.ref S],[]⟩)) _ _ s
 refine aa (bW ?_)
 refine aj ⟨zH F.plain_list_iadd _,j5 F.entry_list_iadd ?_⟩
 rw [j1 F.plain_list_iadd _]
 let s1:ah:={ s with heap:=s.heap.push { cls:=.type "list",data:=.seq ([] : List ae).toArray } }
 have sz1:s1.heap.objs.size=s.heap.objs.size + 1:=cr ..
 have at1:s1.heap.get? s.heap.objs.size=some { cls:=.type "list",data:=.seq ([] : List ae).toArray }:=aE _ rfl
 have hS1:kf w s1.heap S es ep t:=hS.keep fun o e=>ag _ e
 show av _ A.in1 (vV (.ref s.heap.objs.size) (.ref S) (.ref s.heap.objs.size)) _ _ s1
 have hT1:s1.TypeIs (.ref S) "set":=⟨_,hS1.at_,rfl⟩
 unfold vV
 refine aa (m9 hT1 ?_)
 have e1:yy (.ref s.heap.objs.size) (.ref S)=false:=by simp [yy,iz hlt]
 have e2:(j4 "set" == j4 "list")=false:=by decide
 have e3:(j4 "set" == j4 "tuple")=false:=by decide
 simp only [e1,e2,e3,Bool.or_false,cz,if_false]
 refine aa (I_ (A:=A.in1) (by simpa using hh) hS1 fun I fp ord St h' d hI hfp hfl pm W st kp tI=>?_)
 let s2:ah:={ s1 with heap:=h',drawn:=d }
 have hS2:kf w s2.heap S es ep t:=hS1.keep fun o e=>kp S o e
 have hT2:s2.TypeIs (.ref S) "set":=⟨_,hS2.at_,rfl⟩
 refine aa (dH ?_)
 unfold Builtin.List.listLengthHint
 refine aa (wpAny_specialOf (s:=s2) hT2 F.slot_set_len.lookup ?_)
 dsimp only
 rw [show splitId "set.__len__"=some ("set","__len__") from by decide +kernel]
 dsimp only
 refine aa (uh (b:=true) (s:=s2) hT2 (by rw [Iy];kernel_rfl) ?_)
 rw [if_neg (by decide),if_pos (by decide)]
 refine aa (m9 (s:=s2) hT2 (aj ?_))
 rw [if_pos (by decide)]
 refine aa (jF ?_)
 have nS:s.heap.objs.size∉fp:=fun z=>by
  rcases hfp _ z with q | q
  ·exact absurd hlt (by rw [<- q];exact cb _)
  ·rw [sz1] at q;exact absurd q (Nat.not_succ_le_self _)
 have at2:s2.heap.get? s.heap.objs.size=some { cls:=.type "list",data:=.seq ([] : List ae).toArray }:=kp _ _ at1
 refine aa ?_
 show av _ A.in1 (updateSeq s.heap.objs.size (·.push .none) >>= fun _=>updateSeq s.heap.objs.size (·.pop)) _ _ s2
 refine aa (FV at2 rfl ?_)
 have at3:=fV (k8 (·.push ef)) at2 rfl
 refine FV at3 rfl ?_
 have at4:=fV (k8 (·.pop)) at3 rfl
 have oth:∀ b o,b≠s.heap.objs.size->s2.heap.get? b=some o->((s2.heap.update s.heap.objs.size (k8 (·.push ef))).update s.heap.objs.size (k8 (·.pop))).get? b=some o :=
  fun b o hb e=>(rQ _ _ (fM hb)).trans ((rQ _ _ (fM hb)).trans e)
 have zl:ord.length<=sizeLine:=by rw [pm.length_eq,aN,bv];exact rR hS.few
 have W1:=W A.in1 (by simpa using hh)
 refine aj ⟨zH F.plain_extend_loop _,codeAny_extend_loopS (A:=A) W1.toS zl _ nS _ ord.length 0 { s2 with heap:=(s2.heap.update s.heap.objs.size (k8 (·.push ef))).update s.heap.objs.size (k8 (·.pop)) } _ _ rfl (dU _) (W1.frame 0 _ _ st fun b hb o e=>oth b o (fun z=>nS (z ▸ hb)) e) at4 (ItemsOf.nil _) fun s' acc' c' hm hS' hacc=>?_⟩
 show av _ A (load s.heap.objs.size >>= _) _ _ s'
 refine aa (wpAny_load hS' (aj ?_))
 have hacc':acc'.toList=ord:=by
  apply List.ext_getElem?
  intro j
  rw [fR]
  by_cases hj:j<acc'.size
  ·have:=hacc.2 j acc'[j] (by simp [hj])
   rw [this];simp [hj]
  ·rw [getElem?_neg acc' j hj,bT (by rw [<- hacc.1];omega)]
 rw [hacc']
 obtain ⟨h3,g3,d3,t3,o3⟩:=s'
 obtain rfl:g3=s.gens:=hm.gens
 obtain rfl:d3=d:=hm.drawn
 obtain rfl:o3=s.os:=hm.os
 have old:∀ b o,s.heap.get? b=some o->h3.get? b=some o:=fun b o e=>by
  have hb:=ax e
  refine hm.heap b o ?_ (oth b o (aO hb) (kp b o (ag _ e)))
  simp only [bf,aQ,or_false,not_or]
  exact ⟨aO hb,aO (aF hb (by have q:=hI;rw [sz1] at q;exact Nat.le_of_succ_le q))⟩
 refine h ord h3 _ t3 pm old ?_
 have:=ax (show h3.get? s.heap.objs.size=some _ from hS')
 exact bA this
theorem Gh {x:ae}{Q:ae->ah->Prop} (hc:av (aG prog w) A.in1 (collect x) (fun vs s1=>∃ ss,uT vs ss/\vs.length<64 /\
   ∀ (h':br) (vs':List ae) (ss':List Str) (e:Nat),(∀ b o,s1.heap.get? b=some o->h'.get? b=some o)->h'.get? s1.heap.objs.size=some (seqObj "list" vs'.toArray e)->uT vs' ss'->ss'.Perm ss->sortedS ss'=true ->
    Q (.ref s1.heap.objs.size) { s1 with heap:=h' }) E s):av (aG prog w) A (call (.builtin "sorted") [x]) Q E s:=by
 refine Da kind_sorted plain_sorted entry_sorted (args_sorted1 _) ?_
 unfold ir.«sorted»
 refine aa (m:=checkCount "sorted" 1 1 _) (aj ?_)
 refine aa (bh hc (fun vs s1 z=>?_) fun _ _ z=>z)
 obtain ⟨ss,hss,h64,hq⟩:=z
 refine aa (wpAny_newList ?_)
 have at1:(s1.heap.push (seqObj "list" vs.toArray 0)).get? s1.heap.objs.size=some (seqObj "list" vs.toArray 0):=aE _ rfl
 show av _ _ _ _ _ { s1 with heap:=s1.heap.push (seqObj "list" vs.toArray 0) }
 refine aa (dH (cQ slot_list_sort ⟨_,at1,rfl⟩ entry_list_sort (list_sort_treeK strKind_oneLt at1 hss.keysOf (fun v₁ v₂ bP e=>keyKind_strs (by rw [<- e];exact hss)) h64 fun st' a1 a2=>⟨_,rfl,?_⟩) (args_list_sort _)))
 obtain ⟨ss',p1,p2,p3⟩:=sorted_out_str hss a1 a2
 obtain ⟨e,at2⟩:=sortedHeap_at (out:=(arrOf st').map (·.2)) at1
 refine aj ⟨_,rfl,hq _ _ ss' e (fun b o q=>?_) at2 p1 p2 p3⟩
 have hb:=ax q
 rw [sortedHeap_old (aO hb) (by rw [cr];exact gO hb)]
 exact ag _ q
end
end
section
def nR (x y:Str):Bool:=decide (x.cps.toList<y.cps.toList)
def J0 (x:Str):List Str->List Str
 | []=>[x]
 | y::r=>if nR y x then y::J0 x r else x::y::r
def kR:List Str->List Str
 | []=>[]
 | x::r=>J0 x (kR r)
theorem xI (x:Str):∀ l,(J0 x l).Perm (x::l)
 | []=>.refl _
 | y::r=>by
  rw [J0]
  split
  ·exact ((xI x r).cons y).trans (.swap ..)
  ·exact .refl _
theorem jI:∀ l,(kR l).Perm l
 | []=>.refl _
 | x::r=>(xI x _).trans ((jI r).cons x)
theorem qL (x:Str):nR x x=false:=decide_eq_false (List.lt_irrefl _)
theorem pT {x y z:Str} (h1:nR x y=true) (h2:nR y z=true):nR x z=true :=
 decide_eq_true (List.lt_trans (of_decide_eq_true h1) (of_decide_eq_true h2))
theorem zL {x y:Str} (h1:nR x y=false) (h2:nR y x=false):x=y:=by
 have h1:¬ x.cps.toList<y.cps.toList:=of_decide_eq_false h1
 have h2:¬ y.cps.toList<x.cps.toList:=of_decide_eq_false h2
 have:x.cps.toList=y.cps.toList:=List.le_antisymm (List.not_lt.mp h2) (List.not_lt.mp h1)
 cases x;cases y
 exact congrArg Str.mk (Array.toList_inj.mp this)
abbrev Rw (l:List Str):Prop:=l.Pairwise fun a b=>nR b a=false
theorem OC (x:Str):∀ l,Rw l->Rw (J0 x l)
 | [],_=>by simp [J0,Rw]
 | y::r,h=>by
  obtain ⟨h1,h2⟩:=List.pairwise_cons.mp h
  rw [J0]
  split
  ·rename_i hy
   refine List.pairwise_cons.mpr ⟨fun z hz=>?_,OC x r h2⟩
   rcases List.mem_cons.mp ((xI x r).mem_iff.mp hz) with e | e
   ·subst e
    cases q:nR z y with
    | false=>rfl
    | true=>exact absurd (pT q hy) (by rw [qL];decide)
   ·exact h1 z e
  ·rename_i hy
   have hy:nR y x=false:=by simpa using hy
   refine List.pairwise_cons.mpr ⟨fun z hz=>?_,h⟩
   rcases List.mem_cons.mp hz with e | e
   ·subst e;exact hy
   ·cases q:nR z x with
    | false=>rfl
    | true =>
     have hzy:=h1 z e
     cases q2:nR x y with
     | true=>rw [pT q q2] at hzy;cases hzy
     | false=>rw [<- zL hy q2,hzy] at q;cases q
theorem wf:∀ l,Rw (kR l)
 | []=>.nil
 | x::r=>OC x _ (wf r)
theorem wg:∀ (p:Str) (l:List Str),risingS p l=true->Rw (p::l)
 | p,[],_=>by simp [Rw]
 | p,x::r,h=>by
  rw [risingS,aL] at h
  obtain ⟨h1,h2⟩:=h
  have h1:nR x p=false:=by
   rw [ltCps_eq] at h1
   simpa [nR] using h1
  have ih:=wg x r h2
  refine List.pairwise_cons.mpr ⟨fun z hz=>?_,ih⟩
  rcases List.mem_cons.mp hz with e | e
  ·rw [e];exact h1
  ·have hzx:=(List.pairwise_cons.mp ih).1 z e
   cases q:nR z p with
   | false=>rfl
   | true =>
    cases q2:nR p x with
    | true=>rw [pT q q2] at hzx;cases hzx
    | false=>rw [zL q2 h1,hzx] at q;cases q
theorem El:∀ (l:List Str),sortedS l=true->Rw l
 | [],_=>.nil
 | x::r,h=>wg x r h
theorem Ds:∀ {l l':List Str},l.Perm l'->Rw l->Rw l'->l=l'
 | [],l',p,_,_=>by rw [List.nil_perm.mp p]
 | x::r,[],p,_,_=>by have:=p.length_eq;simp at this
 | x::r,y::r',p,h,h'=>by
  obtain ⟨a1,a2⟩:=List.pairwise_cons.mp h
  obtain ⟨b1,b2⟩:=List.pairwise_cons.mp h'
  have e:x=y:=by
   have hx:x∈y::r':=p.mem_iff.mp ay
   have hy:y∈x::r:=p.mem_iff.mpr ay
   rcases List.mem_cons.mp hx with e | e
   ·exact e
   ·rcases List.mem_cons.mp hy with e' | e'
    ·exact e'.symm
    ·exact zL (b1 x e) (a1 y e')
  subst e
  rw [Ds (List.Perm.cons_inv p) a2 b2]
theorem Gi {l l':List Str} (p:l'.Perm l) (h:sortedS l'=true):l'=kR l:=Ds (p.trans (jI l).symm) (El _ h) (wf l)
theorem Dt {l:List Str} (h:Rw l) (nd:l.Nodup):l.Pairwise fun a b=>nR a b=true:=by
 induction l with
 | nil=>exact .nil
 | cons x r ih =>
  obtain ⟨a1,a2⟩:=List.pairwise_cons.mp h
  obtain ⟨n1,n2⟩:=List.nodup_cons.mp nd
  refine List.pairwise_cons.mpr ⟨fun y hy=>?_,ih a2 n2⟩
  cases q:nR x y with
  | true=>rfl
  | false=>exact absurd (zL q (a1 y hy) ▸ hy) n1
theorem mE:∀ {ss:List Str}{us:List ae},du (ss.map V.str) us->uT us ss
 | [],_,.nil=>.nil
 | x::r,_,.cons h t=>by obtain ⟨tk,rfl⟩:=h;exact .cons x tk (mE t)
theorem qM:∀ {ss:List Str}{us:List ae},uT us ss->du (ss.map V.str) us
 | _,_,.nil=>.nil
 | _,_,.cons x t h=>.cons ⟨t,rfl⟩ (qM h)
theorem fH:∀ {ss:List Str}{us:List ae},uT us ss->us.length=ss.length
 | _,_,.nil=>rfl
 | _,_,.cons x t h=>by simp [fH h]
theorem Ap {ss:List Str}{us:List ae} (h:uT us ss) (i:Nat) (v:ae) (e:us[i]?=some v):∃ x t,ss[i]?=some x/\v=lO x t:=by
 induction h generalizing i with
 | nil=>simp at e
 | cons y t _ ih =>
  cases i with
  | zero=>simp at e;exact ⟨y,t,by simp,e.symm⟩
  | succ i=>simp at e;simpa using ih i e
theorem wj {w:b9}:∀ {l:List (Int×ae)},(∀ e∈l,Ao w e)->uT (l.map (·.2)) (l.map IX)
 | [],_=>.nil
 | e::r,h=>by
  obtain ⟨x,tk,rfl⟩:=h e ay
  exact .cons x tk (wj fun e he=>h e (aA _ he))
theorem Em {us us':List ae}{ss:List Str} (h:uT us ss) (p:us'.Perm us):∃ ss',uT us' ss'/\ss'.Perm ss:=by
 refine ⟨us'.map strOf,strsAre_map _ fun v hv=>h.all v (p.mem_iff.mp hv),?_⟩
 rw [<- h.strs]
 exact p.map _
def ul (w:b9) (a:ai) (ss:List Str):HO:=.ext fun h=>oQ w h a ss
theorem KR {P:aH}{w:b9}{H:Hp}{h:br}{a:ai}{ss:List Str} (x:oQ w h a ss):eB P w H h a (ul w a ss) :=
 ⟨x,let ⟨_,_,_,I,_⟩:=x;⟨_,I.at_⟩,fun _ _ y k=>y.keep k⟩
section
variable {X:Cx}
theorem Gj (hc:X.calm=true):kc X (.type "set") (fun xs H Q=>∃ p ss,xs=[.ref p]/\(pJ X.K H p (ss.map V.str)\/m5 X.K H p (ss.map V.str))/\ss.length + 1<jg/\∀ a,H a=none->Q (.ref a) (upd H a (ul X.w a (fc [] ss)))):=by
 intro pins s σ H xs us Q I r h
 obtain ⟨p,ss,rfl,hq,hz,q⟩:=h
 obtain ⟨u,rfl,rx⟩:=ms r
 cases rx
 have hh:=I.ok.hd hc
 have fin:∀ (h':br) (tk:Nat),oQ X.w h' s.heap.objs.size (fc [] ss)->(∀ b o,s.heap.get? b=some o->h'.get? b=some o)->EP X pins σ Q (.ref s.heap.objs.size) { s with heap:=h',toks:=tk }:=fun h' tk hS kp =>
  ⟨.ref s.heap.objs.size,_,I.laid (t':=tk) kp (az _) (KR hS),rfl,q _ (I.hok.fresh (az _))⟩
 rcases hq with hq | hq
 ·obtain ⟨its,r',⟨o,n,ho,h1,h2,h3⟩,_⟩:=I.list hq
  have sa:=mE r'
  exact wa (Oy (by simpa using hh) h1 ⟨n,h3⟩) ho (fun i v e=>Ap sa i v (by simpa using e)) (by simp [fH sa]) (by simp [fH sa];exact hz) fin
 ·obtain ⟨its,r',⟨o,ho,h1,n,h3⟩,_⟩:=I.tuple hq
  have sa:=mE r'
  exact wa (So (by simpa using hh) h1 ⟨n,h3⟩) ho (fun i v e=>Ap sa i v (by simpa using e)) (by simp [fH sa]) (by simp [fH sa];exact hz) fin
theorem xJ:kc X (.builtin "sorted") (fun xs H Q=>∃ p ss,xs=[.ref p]/\pJ X.K H p (ss.map V.str)/\ss.length<64/\∀ l,H l=none->Q (.ref l) (upd H l (.lst ((kR ss).map V.str)))):=by
 intro pins s σ H xs us Q I r h
 obtain ⟨p,ss,rfl,hq,hz,q⟩:=h
 obtain ⟨u,rfl,rx⟩:=ms r
 cases rx
 obtain ⟨its,r',pl,hl⟩:=I.list hq
 have sa:=mE r'
 refine sorted_strs pl.isList sa (by rw [fH sa];exact hz) fun out ss' a1 a2 a3=>?_
 obtain ⟨e,he⟩:=sortedAll_at s.heap its out
 have kp:∀ b o,s.heap.get? b=some o->(sortedAll s.heap its out).get? b=some o:=fun b o=>sortedAll_old
 obtain rfl:=Gi a2 a3
 refine ⟨.ref (s.heap.objs.size + 1),upd H (s.heap.objs.size + 1) (.lst ((kR ss).map V.str)),I.laid (t':=s.toks) kp (kL _) (show eB X.prog X.w _ _ _ (.lst _) from ⟨?_,out.toList,e,qM a1,by simpa [seqObj] using he⟩),rfl,q _ (I.hok.fresh (kL _))⟩
 rw [aN,(jI ss).length_eq]
 have:=hl
 rw [aN] at this
 exact this
theorem zd (hc:X.calm=true):kc X (.builtin "sorted") (fun xs H Q=>∃ p ss,xs=[.ref p]/\H p=some (ul X.w p ss)/\ss.length<64/\∀ l,H l=none->Q (.ref l) (upd H l (.lst ((kR ss).map V.str)))):=by
 intro pins s σ H xs us Q I r h
 obtain ⟨p,ss,rfl,hq,hz,q⟩:=h
 obtain ⟨u,rfl,rx⟩:=ms r
 cases rx
 have hh:=I.ok.hd hc
 obtain ⟨⟨es,ep,t,S,pm⟩,_⟩:=(show eB X.prog X.w H s.heap p (ul X.w p ss) from I.hok p _ hq)
 refine Gh (Gg (by simpa using hh) S fun ord h' d tk po kp sz=>?_)
 obtain ⟨ss1,sa,p1⟩:=Em (wj S.txt) po
 have ln:ss1.length=ss.length:=(p1.trans pm).length_eq
 refine ⟨ss1,sa,by rw [fH sa,ln];exact hz,fun h2 vs' ss' e kp2 at2 sa2 p2 s2=>?_⟩
 have kk:∀ b o,s.heap.get? b=some o->h2.get? b=some o:=fun b o e=>kp2 b o (kp b o e)
 have es':ss'=kR ss:=Gi (p2.trans (p1.trans pm)) s2
 subst es'
 have fr:=I.hok.fresh sz
 have ok2:eB X.prog X.w (upd H h'.objs.size (.lst ((kR ss).map V.str))) h2 h'.objs.size (.lst ((kR ss).map V.str)) :=
  ⟨by rw [aN,(jI ss).length_eq];exact c7 (bA hz) (by rw [FO];decide),vs',e,qM sa2,at2⟩
 exact ⟨.ref h'.objs.size,_,I.call' (s':={ s with heap:=h2,drawn:=d,toks:=tk }) (ch:=[]) rfl (Un.laid kk sz fr) (I.hok.laid kk sz ok2) I.bare (fun b z=>absurd z (by simp)),rfl,q _ fr⟩
end
end
section
section
variable {X:Cx}
theorem yF {prog:aH}{w:b9}{B:aW}{bs:List Bool}{its:List ae} (r:du (bs.map V.bl) its):TruthOf prog w B (fun i v=>its.toArray[i]?=some v) (fun i=>bs.getD i false):=by
 intro i v s Q E hv hq
 have hv:its[i]?=some v:=by simpa using hv
 have hl:=r.length
 rw [aN] at hl
 obtain ⟨hi,_⟩:=List.getElem?_eq_some_iff.mp hv
 have hb:bs[i]?=some bs[i]:=bg (by omega)
 obtain ⟨u,hu,ru⟩:=r.get (i:=i) (x:=.bl bs[i]) (by rw [aT,hb];rfl)
 rw [hv] at hu;cases hu
 cases ru
 have hq:Q (bs.getD i false) s:=hq
 rw [fS,hb] at hq
 exact eN hq
theorem OD (bs:List Bool):(bZ bs.length).all (fun i=>bs.getD i false)=bs.all id:=by
 rw [iG,eA,eA]
 constructor
 ·intro h b hb
  obtain ⟨i,hi,rfl⟩:=mX hb
  have:=h i (List.mem_range.mpr hi)
  simpa [fS,hi] using this
 ·intro h i hi
  have hi:=List.mem_range.mp hi
  have:=h bs[i] (hW hi)
  simpa [fS,hi] using this
theorem OE (bs:List Bool):(bZ bs.length).any (fun i=>bs.getD i false)=bs.any id:=by
 rw [iG,zI,zI]
 constructor
 ·rintro ⟨i,hi,h⟩
  have hi:=List.mem_range.mp hi
  exact ⟨bs[i],hW hi,by simpa [fS,hi] using h⟩
 ·rintro ⟨b,hb,h⟩
  obtain ⟨i,hi,rfl⟩:=mX hb
  exact ⟨i,List.mem_range.mpr hi,by simpa [fS,hi] using h⟩
theorem Aq (hc:X.calm=true):kc X (.builtin "all") (fun xs H Q=>∃ p,∃ bs:List Bool,xs=[.ref p]/\pJ X.K H p (bs.map V.bl)/\Q (.bl (bs.all id)) H):=by
 intro pins s σ H xs us Q I r h
 obtain ⟨p,bs,rfl,hq,q⟩:=h
 obtain ⟨u,rfl,rx⟩:=ms r
 cases rx
 obtain ⟨its,r',pl,hl⟩:=I.list hq
 have ln:its.toArray.size=bs.length:=by have:=r'.length;simp at this ⊢;omega
 obtain ⟨o,ho,hk⟩:=pl.isList
 refine call_all_walk (rP pl.isList ⟨_,_,_,_,_,_,_,rfl,LZ (by simpa using I.ok.hd hc) _ p (aO (ax ho)) its.toArray,⟨⟨_,aE _ rfl,rfl,rfl⟩,pl.isList.push _⟩,yF r',fun h' tk kp=>?_⟩)
 rw [ln,OD]
 refine ⟨.bl _,H,I.kept (t':=tk) fun b o e=>kp b o ?_ (ag _ e),rfl,q⟩
 simp only [fQ]
 exact aO (ax e)
theorem Ar (hc:X.calm=true):kc X (.builtin "any") (fun xs H Q=>∃ p,∃ bs:List Bool,xs=[.ref p]/\pJ X.K H p (bs.map V.bl)/\Q (.bl (bs.any id)) H):=by
 intro pins s σ H xs us Q I r h
 obtain ⟨p,bs,rfl,hq,q⟩:=h
 obtain ⟨u,rfl,rx⟩:=ms r
 cases rx
 obtain ⟨its,r',pl,hl⟩:=I.list hq
 have ln:its.toArray.size=bs.length:=by have:=r'.length;simp at this ⊢;omega
 obtain ⟨o,ho,hk⟩:=pl.isList
 refine call_any_walk (rP pl.isList ⟨_,_,_,_,_,_,_,rfl,LZ (by simpa using I.ok.hd hc) _ p (aO (ax ho)) its.toArray,⟨⟨_,aE _ rfl,rfl,rfl⟩,pl.isList.push _⟩,yF r',fun h' tk kp=>?_⟩)
 rw [ln,OE]
 refine ⟨.bl _,H,I.kept (t':=tk) fun b o e=>kp b o ?_ (ag _ e),rfl,q⟩
 simp only [fQ]
 exact aO (ax e)
theorem Mo:qB X (bX .LtE) (fun x y H Q=>∃ i j,x=.str i/\y=.str j/\Q (.bl (!decide (j.cps.toList<i.cps.toList))) H):=by
 intro pins s σ H x y v u Q I rx ry h
 obtain ⟨i,j,rfl,rfl,q⟩:=h
 obtain ⟨t,rfl⟩:=rx
 obtain ⟨t',rfl⟩:=ry
 exact PySem.P.le_str (iC I q rfl)
end
end
section
def XB (x:Str):It:=⟨fun i _=>i<x.cps.size,fun i H v H'=>H'=H/\∃ c,x.cps[i]?=some c/\v=.str ⟨#[c]⟩,fun i _=>x.cps.size<=i⟩
theorem OF {P:aH}{w:b9}{K:a9}{tg:aR} (x:Str) (t:Tok) (it:ai):Ch P w K tg (XB x) [it] it (fun i h=>h.IsStrIter it (iP x) x t i) where
 mem:=by simp
 obj:=fun i h st b hb=>by
  obtain rfl:b=it:=by simpa using hb
  obtain ⟨o,e,c,d⟩:=st
  exact ⟨o,e,fun v z=>by rw [d] at z;cases z⟩
 keep:=fun i h h' st k=>let ⟨o,e,r⟩:=st;⟨o,k it (by simp) o e,r⟩
 item:=by
  intro X hP hw hK hc i pins s σ H E I hf st hg
  subst hP hw hK
  have hg:i<x.cps.size:=hg
  obtain ⟨f0,f1,f2,f3,f4,f5⟩:=hf it (by simp)
  have hx:x.cps[i]?=some x.cps[i]:=getElem?_pos _ i hg
  have go:∀ (h':br) (tk tk':Nat),h'.IsStrIter it (iP x) x t (i + 1)->cF it s.heap h'->∃ u,some (lO ⟨#[x.cps[i]]⟩ tk)=some u /\
    av (aG X.prog X.w) X.A (hJ tg (.ref it) u) (fun _ s2=>∃ v H',bI X pins σ H' s2/\dW v u/\(XB x).yld i H v H'/\s2.heap.IsStrIter it (iP x) x t (i + 1)/\∀ b∈[it],H' b=none) E { s with heap:=h',toks:=tk' }:=fun h' tk tk' st' sb=>by
   have I1:bI X pins σ H { s with heap:=h',toks:=tk' }:=I.turned (fun b o hb e=>(sb.2 b hb).trans e) f0 f1 f3 f4 f5
   refine ⟨_,rfl,?_⟩
   have q:∃ v H',bI X pins σ H' { s with heap:=h',toks:=tk' }/\dW v (lO ⟨#[x.cps[i]]⟩ tk)/\(XB x).yld i H v H'/\h'.IsStrIter it (iP x) x t (i + 1)/\∀ b∈[it],H' b=none :=
    ⟨.str ⟨#[x.cps[i]]⟩,H,I1,⟨tk,rfl⟩,⟨rfl,_,hx,rfl⟩,st',fun b hb=>(hf b hb).1⟩
   unfold hJ
   cases tg<;>exact aj q
  cases ha:x.cps.all (·<128)
  ·have ty:iP x="str_iterator":=by unfold iP;rw [ha];rfl
   rw [ty] at st
   exact wpAny_pyNext_wide_item st hx fun h' st' sb=>go h' _ _ (by rw [ty];exact st') sb
  ·have ty:iP x="str_ascii_iterator":=by unfold iP;rw [ha];rfl
   rw [ty] at st
   exact wpAny_pyNext_ascii_item st hx fun h' st' sb=>go h' _ _ (by rw [ty];exact st') sb
 done:=by
  intro X hP hw hK hc i pins s σ H E I hf st hg
  subst hP hw hK
  have hg:x.cps.size<=i:=hg
  obtain ⟨f0,f1,f2,f3,f4,f5⟩:=hf it (by simp)
  have hx:x.cps[i]?=none:=getElem?_neg _ i (Nat.not_lt.mpr hg)
  unfold iP at st
  cases ha:x.cps.all (·<128)
  ·rw [ha] at st
   exact wpAny_pyNext_wide_end (I.ok.hd hc) st hx fun h' eb=>⟨rfl,I.turned (t':=s.toks) (fun b o hb e=>eb b o hb e) f0 f1 f3 f4 f5⟩
  ·rw [ha] at st
   exact wpAny_pyNext_ascii_end (I.ok.hd hc) st hx fun h' eb=>⟨rfl,I.turned (t':=s.toks) (fun b o hb e=>eb b o hb e) f0 f1 f3 f4 f5⟩
 self:=fun _ _ _ _ _ st h=>by
  unfold iP at st
  cases ha:x.cps.all (·<128)
  ·rw [ha] at st;exact wpAny_pyIter_striter_wide st h
  ·rw [ha] at st;exact wpAny_pyIter_striter_ascii st h
def ZS (tl:TE):TI:=fun σ H R=>tl σ H fun v H1=>∃ x,v=.str x/\R (XB x) H1
theorem OG {X:Cx}{tg l:aR}{tl:TE} (hl:PE X l tl):PI X tg l (ZS tl):=by
 intro pins s σ H R I h
 refine fF (hl pins s σ H _ I h) fun v s1 h_0=>?_
 obtain ⟨y,H1,I1,r1,q1⟩:=h_0
 obtain ⟨x,rfl,q⟩:=q1
 obtain ⟨t,rfl⟩:=r1
 refine wpAny_pyIter_strU ?_
 refine ⟨s1.heap.objs.size,[s1.heap.objs.size],_,_,H1,rfl,I1.kept (t':=s1.toks) fun b o e=>ag _ e,OF x t _,⟨_,aE _ rfl,rfl,rfl⟩,fun b hb=>?_,q⟩
 obtain rfl:b=s1.heap.objs.size:=by simpa using hb
 exact I1.fpOk (az _) (I1.hok.fresh (az _))
end
section
section
variable {X:Cx}{pins:List (ai×Obj)}{σ:St}{H H':Hp}{s:ah}{h':br}
theorem bI.turnedL {t':Nat}{ch:List ai} (I:bI X pins σ H s) (k:∀ b o,b∉ch->s.heap.get? b=some o->h'.get? b=some o) (hf:∀ b∈ch,sk X pins H b):bI X pins σ H { s with heap:=h',toks:=t' }:=by
 have nt:∀ b u,H b=some u->b∉ch:=fun b u e z=>by rw [(hf b z).1] at e;cases e
 refine I.step (g':=s.gens) (d':=s.drawn) (ch:=ch) (fun b hb=>?_) (fun b o _ _ hc e _=>k b o hc e) (fun b o _ _ hc e _=>⟨o.slots,k b o hc e⟩) (fun _ _ _ _ n=>n)
  (fun b o hc e=>⟨o,k b o hc e⟩) (fun _ _ e=>e) (fun _ _ _ e=>e) (fun b ps e=>⟨#[],by rw [e];simp⟩) (fun m hm=>?_) (fun b u e=>?_) I.bare
 ·obtain ⟨f0,f1,f2,f3,f4,f5⟩:=hf b hb
  exact ⟨f3,f1,f4,f5⟩
 ·obtain ⟨o,es,ep,ho,r⟩:=hm
  exact ⟨o,es,ep,k _ o (fun z=>(hf _ z).f1 rfl) ho,r⟩
 ·refine (I.hok b u e).stay (fun c v hc q=>k c v ?_ q) (fun _ q=>q) fun _ _ q=>q
  rcases hc with z | z
  ·rw [z];exact nt b u e
  ·exact nt c _ z
theorem bI.track {D:ai}{ho:HO} (I:bI X pins σ H s) (hf:sk X pins H D) (new:eB X.prog X.w (upd H D ho) s.heap D ho):bI X pins σ (upd H D ho) s:=by
 obtain ⟨f0,f1,f2,f3,f4,f5⟩:=hf
 have I':bI X pins σ (upd H D ho) { s with heap:=s.heap,gens:=s.gens,drawn:=s.drawn,toks:=s.toks }:=I.step (ch:=[D]) (fun b hb=>by
   obtain rfl:b=D:=by simpa using hb
   exact ⟨f3,f1,f4,f5⟩) (fun b o _ _ _ e _=>e) (fun b o _ _ _ e _=>⟨o.slots,e⟩) (fun b o hc e n=>by rw [a_ (fun z=>hc (by simp [z]))];exact n) (fun b o _ e=>⟨o,e⟩)
  (fun b xs e=>by rw [a_ (bc e f0)];exact e) (fun b o xs e=>by rw [a_ (bc e f0)];exact e) (fun b ps e=>⟨#[],by rw [a_ (bc e f0),e];simp⟩) (fun m hm=>hm) (tM I.hok f0 new) I.bare
 exact I'
end
section
variable {prog:aH}{w:b9}{A:aW}{E:ae->ah->Prop}{s:ah}{it l:ai}{i:Nat}{items:Array ae}
theorem wk {x:ae}{Q:ae->ah->Prop} (ti:s.heap.IsTupleIter it l i) (tl:s.heap.IsTuple l items) (hx:items[i]?=some x)
  (q:∀ h',h'.IsTupleIter it l (i + 1)->cF it s.heap h'->Q x { s with heap:=h' }):av (aG prog w) A (cA (.ref it)) Q E s:=by
 obtain ⟨oi,ei,ci,di⟩:=id ti
 obtain ⟨ot,et,_,nt,dt⟩:=tl
 unfold cA
 refine aa (cP (name:=iA "__next__") ti.typeIs jl ?_)
 refine cQ jl ti.typeIs FQ ?_ (E5 _)
 show av _ _ (IA (.ref it) 0 >>= _) _ _ s
 refine aa (cX ei di (x:=.ref l) rfl ?_)
 show av _ _ (if (c6 l == ef)=true then _ else _) _ _ s
 rw [if_neg (fun z:(c6 l == ef)=true=>ba z)]
 show av _ _ (IA (.ref it) 1 >>= _) _ _ s
 refine aa (cX ei di (x:=.int i 0) rfl ?_)
 show av _ _ (NC (.ref l) >>= _) _ _ s
 refine aa (fm et dt ?_)
 simp only [kU,hx]
 refine aa (jG ei di (by simp) (aj ⟨x,rfl,aj (q _ ?_ (dB ..))⟩))
 refine ⟨_,fV _ ei (Obj.isFreed_of_fields (NR di _)),(Obj.cls_mapFields ..).trans ci,?_⟩
 rw [NR di];simp [cE]
theorem wl {Q:ae->ah->Prop} (hh:A.handled=none) (ti:s.heap.IsTupleIter it l i) (tl:s.heap.IsTuple l items) (hx:items[i]?=none)
  (q:∀ h' e,Heap.ExtBut it s.heap h'->(∃ o,h'.get? e=some o/\o.cls=.type "StopIteration")->E (.ref e) { s with heap:=h' }):av (aG prog w) A (cA (.ref it)) Q E s:=by
 obtain ⟨oi,ei,ci,di⟩:=id ti
 obtain ⟨ot,et,_,nt,dt⟩:=tl
 unfold cA
 refine aa (cP (name:=iA "__next__") ti.typeIs jl ?_)
 refine cQ jl ti.typeIs FQ ?_ (E5 _)
 show av _ _ (IA (.ref it) 0 >>= _) _ _ s
 refine aa (cX ei di (x:=.ref l) rfl ?_)
 show av _ _ (if (c6 l == ef)=true then _ else _) _ _ s
 rw [if_neg (fun z:(c6 l == ef)=true=>ba z)]
 show av _ _ (IA (.ref it) 1 >>= _) _ _ s
 refine aa (cX ei di (x:=.int i 0) rfl ?_)
 show av _ _ (NC (.ref l) >>= _) _ _ s
 refine aa (fm et dt ?_)
 simp only [kU,hx]
 refine aa (jF (aa (jG ei di (by simp) ?_)))
 show av _ _ (A7 (.type "StopIteration") [] >>= _) _ _ _
 refine aa ?_
 simp only [A7,newTuple]
 refine aa (bW ?_ (by size_fits))
 refine aa (m:=xy _ _) (xw (a:=ef) ?_ ?_)
 ·first
   | rfl
   | (simp only [xy];rfl)
 refine bW ?_ (by size_fits)
 simp only [xx]
 refine aa (wpAny_handled ?_)
 rw [show A.in1.handled=none from hh]
 refine aa (aj (wpAny_throw ?_))
 exact q _ _ (((dB ..).extBut.push _).push _) ⟨_,aE _ rfl,rfl⟩
theorem Mp (hh:A.handled=none) (it l:ai) (hne:l≠it) (items:Array ae) :
  Draws prog w A it [it,l] items.size (fun i v=>items[i]?=some v) (fun i h=>h.IsTupleIter it l i/\h.IsTuple l items) where
 live:=fun i h st=>let ⟨o,e,_⟩:=st.1;⟨o,e⟩
 frame:=fun i h h' st k=>⟨let ⟨o,e,r⟩:=st.1;⟨o,k it (by simp) o e,r⟩,let ⟨o,e,r⟩:=st.2;⟨o,k l (by simp) o e,r⟩⟩
 item:=fun i s Q E hi st q=>wk st.1 st.2 (x:=items[i]) (by simp [hi]) fun h' t' sb=>q _ h' s.toks (by simp [hi]) ⟨t',st.2.extBut sb.extBut hne⟩ sb
 done:=fun s Q E st q=>wl hh st.1 st.2 (by simp) q
end
theorem As (l:ai) (items:Array ae) (n:Nat) (dct:Option ai) (sl:Array (Option ae)) :
  Meets (ir.«enumerate.__new__» ⟨[.type "enumerate",.ref l],[]⟩) (fun _ R s=>s.heap.get? l=some { cls:=.type "tuple",dict:=dct,data:=.seq items n,slots:=sl } /\
   R (.ok (.ret (.ref (s.heap.push { cls:=.type "tuple_iterator",data:=.fields #[.ref l,.int 0 0] }).objs.size)))
    { s with heap:=(s.heap.push { cls:=.type "tuple_iterator",data:=.fields #[.ref l,.int 0 0] }).push { cls:=.type "enumerate",data:=.fields #[.none,.bool false,.ref s.heap.objs.size,cE 0,.none,.none] } }) :=
 .of_wp fun prog w A R s h=>by
  obtain ⟨hp,g,d,tk,os⟩:=s
  obtain ⟨hl,h⟩:=h
  have hsub:=PySem.sub_enumerate
  have hL:Ih (Ii ⟨hp,g,d,tk,os⟩) l items:=⟨_,hl,rfl,n,rfl⟩
  wp_walk using fX hl
  refine wpAny_stack_any fun st=>aj ?_
  split
  ·rename_i c _ _ _ _ _
   cases (c == j4 "enumerate")
   ·wp_walk using fX hl,gz hL
    exact ⟨_,rfl,h⟩
   ·wp_walk using fX hl,gz hL
    exact ⟨_,rfl,h⟩
  ·wp_walk using fX hl,gz hL
   exact ⟨_,rfl,h⟩
end
section
section
variable {prog:aH}{w:b9}{A:aW}{E:ae->ah->Prop}{s:ah}
theorem Ck {l:ai}{items:Array ae}{Q:ae->ah->Prop} (hL:s.heap.IsTuple l items)
  (h:∀ h',IsEnum h' (s.heap.objs.size + 1) s.heap.objs.size 0 .none->h'.IsTupleIter s.heap.objs.size l 0->(∀ b o,s.heap.get? b=some o->h'.get? b=some o)->h'.objs.size=s.heap.objs.size + 2 ->
   Q (.ref (s.heap.objs.size + 1)) { s with heap:=h' }):av (aG prog w) A (call (.type "enumerate") [.ref l]) Q E s:=by
 obtain ⟨⟨c,dc,dt,sl⟩,hl,hc,n,hd⟩:=hL
 obtain rfl:c=.type "tuple":=hc
 obtain rfl:dt=.seq items n:=hd
 refine callType_new F.called_enumerate (by decide) (F.typeCall_enumerate_1 _) (F.newCall_enumerate_1 _) (fun obj=>F.args_object_init_2 obj _) F.entry_enumerate_new (As l items n dc sl) ⟨hl,?_⟩
 have z1:(s.heap.push { cls:=.type "tuple_iterator",data:=.fields #[.ref l,.int 0 0] }).objs.size=s.heap.objs.size + 1:=cr ..
 show _/\_
 rw [z1]
 have he:IsEnum ((s.heap.push { cls:=.type "tuple_iterator",data:=.fields #[.ref l,.int 0 0] }).push { cls:=.type "enumerate",data:=.fields #[.none,.bool false,.ref s.heap.objs.size,cE 0,.none,.none] }) (s.heap.objs.size + 1) s.heap.objs.size 0 .none:=by
  have q:=aE (s.heap.push { cls:=.type "tuple_iterator",data:=.fields #[.ref l,.int 0 0] }) (o:={ cls:=.type "enumerate",data:=.fields #[.none,.bool false,.ref s.heap.objs.size,cE 0,.none,.none] }) rfl
  rw [z1] at q
  exact q
 exact ⟨⟨_,he,rfl⟩,h _ he ⟨_,ag _ (aE _ rfl),rfl,rfl⟩ (fun b o e=>ag _ (ag _ e)) (by rw [cr,z1])⟩
end
def ZT (K:a9) (a:ai):It :=
 ⟨fun i H=>∃ xs x,m5 K H a xs/\xs[i]?=some x,fun i H v H'=>∃ p,H p=none/\v=.ref p/\∀ xs,m5 K H a xs->∃ x,xs[i]?=some x/\H'=upd H p (.tup [.int i,x]),fun i H=>∃ xs,m5 K H a xs/\xs.length<=i⟩
theorem Mq {P:aH}{w:b9}{K:a9}{elts:List aR}{x1}{pos:Pos} (a e it:ai) (hei:e≠it):Ch P w K (.Tuple elts x1 pos) (ZT K a) [e,it] e (fun i h=>(∃ old,IsEnum h e it i old)/\h.IsTupleIter it a i) where
 mem:=by simp
 obj:=fun i h st b hb=>by
  simp only [bf,aQ,or_false] at hb
  rcases hb with rfl | rfl
  ·obtain ⟨⟨old,q⟩,_⟩:=st
   exact ⟨_,q,fun v z=>by cases z⟩
  ·obtain ⟨_,o,q,_,d⟩:=st
   exact ⟨o,q,fun v z=>by rw [d] at z;cases z⟩
 keep:=fun i h h' st k=>⟨let ⟨old,q⟩:=st.1;⟨old,k e (by simp) _ q⟩,let ⟨o,q,r⟩:=st.2;⟨o,k it (by simp) o q,r⟩⟩
 item:=by
  intro X hP hw hK hc i pins s σ H E I hf st hg
  subst hP hw hK
  obtain ⟨xs,x,hq,hx⟩:=hg
  obtain ⟨its,rv,p,hz⟩:=I.tuple hq
  obtain ⟨u,hu,ru⟩:=rv.get hx
  obtain ⟨⟨old,he⟩,hit⟩:=st
  have hit0:=hit
  obtain ⟨oi,ei,_⟩:=hit0
  have hai:a≠it:=fun z=>by
   obtain ⟨o1,e1,c1,_⟩:=p
   obtain ⟨o2,e2,c2,_⟩:=hit
   rw [z,e2] at e1;cases e1;rw [c2] at c1;exact absurd (Kw c1) (by decide)
  have hae:a≠e:=fun z=>by
   obtain ⟨o1,e1,c1,_⟩:=p
   rw [z,he] at e1;cases e1;exact absurd (Kw (show j4 "enumerate"=j4 "tuple" from c1)) (by decide)
  have hlt:i<its.toArray.size:=by simp;exact (List.getElem?_eq_some_iff.mp hu).1
  have he0:=ax he
  refine wpAny_pyNext_enum_itemD (Mp (by simpa using I.ok.hd hc) it a hai its.toArray) he ⟨hit,p⟩ hlt hei (by simp [hei,fM hae]) ?_
  intro x' h1 tk hx' eo st1 tup sz k1
  have hx'':its[i]?=some x':=by simpa using hx'
  rw [hu] at hx'';cases hx''
  refine ⟨_,rfl,wpAny_letOwnedTupleGo_enum eo fun h2 e2 sb2=>?_⟩
  have szn:s.heap.objs.size≠e:=iz he0
  have I2:bI X pins σ H { s with heap:=h2,toks:=tk + 1 }:=I.turnedL (ch:=[e,it]) (fun b o hb q=>by
   simp only [bf,aQ,or_false,not_or] at hb
   exact (sb2.2 b hb.1).trans (k1 b o hb.1 hb.2 q)) hf
  have fT:=I.fpOk (H':=H) (az _) (I.hok.fresh (az _))
  have tup2:h2.get? s.heap.objs.size=some { cls:=.type "tuple",data:=.seq #[.int i tk,u] }:=(sb2.2 _ szn).trans tup
  have I3:=I2.track (ho:=.tup [.int i,x]) fT ⟨by show 2<=sizeLine;decide,[.int i tk,u],.cons ⟨tk,rfl⟩ (.cons ru .nil),⟨_,tup2,rfl,0,rfl⟩⟩
  refine ⟨.ref s.heap.objs.size,_,I3,rfl,⟨_,fT.1,rfl,fun ys hy=>?_⟩,⟨⟨u,?_⟩,?_⟩,fun b hb=>?_⟩
  ·rw [I.tuple_inj hy hq];exact ⟨x,hx,rfl⟩
  ·have:(((i + 1:Nat):Int))=(i:Int) + 1:=by omega
   rw [this];exact e2
  ·obtain ⟨o,q,r⟩:=st1.1
   exact ⟨o,(sb2.2 it (fM hei)).trans q,r⟩
  ·rw [a_]
   ·exact (hf b hb).1
   ·simp only [bf,aQ,or_false] at hb
    rcases hb with z | z
    ·rw [z];exact aO he0
    ·rw [z];exact aO (ax ei)
 done:=by
  intro X hP hw hK hc i pins s σ H E I hf st hg
  subst hP hw hK
  obtain ⟨xs,hq,hx⟩:=hg
  obtain ⟨its,rv,p,hz⟩:=I.tuple hq
  obtain ⟨⟨old,he⟩,hit⟩:=st
  have hl:=rv.length
  have hT:s.TypeIs (.ref e) "enumerate":=⟨_,he,rfl⟩
  unfold rY
  refine aa (nQ (cP (name:=iA "__next__") hT ND ?_))
  refine cQ ND hT F.entry_enumerate_next ?_ (F.args_enumerate_next_1 _)
  show av _ _ (IA (.ref e) 2 >>= _) _ _ _
  refine aa (cX he rfl (x:=.ref it) rfl ?_)
  refine aa (wl (by simpa using I.ok.hd hc) hit (show s.heap.IsTuple a its.toArray from p) (by simp;omega) fun h' z eb hz'=>?_)
  obtain ⟨o,ho,hcl⟩:=hz'
  refine aa (uh (T:="StopIteration") (b:=true) ⟨o,ho,hcl⟩ Iz ?_)
  exact aj ⟨rfl,I.turnedL (t':=s.toks) (ch:=[e,it]) (fun b o hb q=>eb b o (by
   simp only [bf,aQ,or_false,not_or] at hb;exact hb.2) q) hf⟩
 self:=fun _ _ _ _ _ st h=>let ⟨⟨_,q⟩,_⟩:=st;wpAny_pyIter_enum q h
def XC (K:a9) (ta:TA):TI:=fun σ H R=>ta σ H fun vs H1=>∃ a xs,vs=[.ref a]/\m5 K H1 a xs/\R (ZT K a) H1
theorem Sq {X:Cx}{elts:List aR}{x1}{tpos p pos:Pos}{a:aR}{ta:TA} (hg:Gl X "enumerate") (hm:X.mg "enumerate"=none) (ha:PA X [a] ta) (hs:aw [a] X.env=[(false,cG a X.env)]:=by rfl) :
  PI X (.Tuple elts x1 tpos) (.Call (.Name "enumerate" p) [a] [] pos) (XC X.K ta):=by
 intro pins s σ H R I h
 refine Call_ (uV I hg hm boot_enumerate (f9 (fF (ha pos pins s σ H _ I h) fun us s1 ⟨vs,H1,I1,r1,q1⟩=>?_) hs rfl))
 obtain ⟨ad,xs,rfl,hq,q⟩:=q1
 obtain ⟨u,rfl,rx⟩:=ms r1
 cases rx
 obtain ⟨its,rv,tp,hz⟩:=I1.tuple hq
 refine Ck (show s1.heap.IsTuple ad its.toArray from tp) fun h' e1 t1 kp sz=>?_
 refine wpAny_pyIter_enum e1 ?_
 have I2:bI X pins σ H1 { s1 with heap:=h' }:=I1.kept (t':=s1.toks) kp
 refine ⟨s1.heap.objs.size + 1,[s1.heap.objs.size + 1,s1.heap.objs.size],_,_,H1,rfl,I2,Mq ad _ _ (iz (i0 _)),⟨⟨.none,e1⟩,t1⟩,fun b hb=>?_,q⟩
 simp only [bf,aQ,or_false] at hb
 rcases hb with z | z
 ·rw [z];exact I1.fpOk (kL _) (I1.hok.fresh (kL _))
 ·rw [z];exact I1.fpOk (az _) (I1.hok.fresh (az _))
end
section
section
variable {prog:aH}{w:b9}{A:aW}{E:ae->ah->Prop}{s:ah}{z TI TO i1 i2 l1 l2:ai}{k1 k2:Nat}{xs ys:Array ae}{x y a b:ae}
theorem jJ {h h':br}{it l:ai}{k:Nat}{c:ai} (t:h.IsTupleIter it l k) (sb:cF c h h') (ne:it≠c):h'.IsTupleIter it l k:=t.extBut sb.extBut ne
theorem qN {h h':br}{l:ai}{xs:Array ae}{c:ai} (t:h.IsTuple l xs) (sb:cF c h h') (ne:l≠c):h'.IsTuple l xs:=t.extBut sb.extBut ne
theorem OH {Q:ae->ah->Prop} (D:RK z TI TO i1 i2 l1 l2) (za:xz s.heap z TI TO .none) (pa:kW s.heap TI (.ref i1) (.ref i2)) (pb:kW s.heap TO a b)
  (u1:s.heap.IsTupleIter i1 l1 k1) (u2:s.heap.IsTupleIter i2 l2 k2) (v1:s.heap.IsTuple l1 xs) (v2:s.heap.IsTuple l2 ys) (hx:xs[k1]?=some x) (hy:ys[k2]?=some y)
  (q:∀ h',xz h' z TI TO (cE s.heap.objs.size)->kW h' TO x y->h'.IsTupleIter i1 l1 (k1 + 1)->h'.IsTupleIter i2 l2 (k2 + 1)->kW h' s.heap.objs.size x y ->
   (∀ c o,c≠z->c≠TO->c≠i1->c≠i2->s.heap.get? c=some o->h'.get? c=some o)->Q (.ref s.heap.objs.size) { s with heap:=h' }) :
  av (aG prog w) A (ir.«zip.__next__» ⟨[.ref z],[]⟩) (fun fin s'=>∃ v,fin=.done (.ret v)/\Q v s') E s:=by
 show av _ _ (IA (.ref z) 2 >>= _) _ _ _
 refine aa (cX za rfl (x:=.bool false) rfl ?_)
 show av _ _ (IA (.ref z) 3 >>= _) _ _ _
 refine aa (cX za rfl (x:=.ref TI) rfl ?_)
 refine aa (fm pa rfl ?_)
 show av _ _ (eS (.ref z) >>= _) _ _ _
 refine aa ?_
 unfold eS
 refine aa (cX za rfl (x:=.none) rfl (aj ?_))
 simp only [if_true]
 refine aa (jF ?_)
 refine aa (cX za rfl (x:=.ref TO) rfl ?_)
 refine aa (iU za (by simp) fun g1 z1 b1=>?_)
 replace z1:xz g1 z TI TO .ellipsis:=z1
 refine aa ?_
 simp only [Rq,RL,sd,D8]
 refine aa (aa (zJ ?_))
 show av _ _ (cA (.ref i1) >>= _) _ _ _
 refine aa (wk (jJ u1 b1 D.i1z) (qN v1 b1 D.l1z) hx fun g2 w1 b2=>aj ?_)
 have p2:kW g2 TO a b:=b2.extBut _ _ D.TOi1 (b1.extBut _ _ D.TOz pb)
 refine aa (fm p2 rfl (aa (xA p2 fun g3 p3 b3=>?_)))
 replace p3:kW g3 TO x b:=p3
 refine aa (RM (aj (aa (aa (zJ ?_)))))
 show av _ _ (cA (.ref i2) >>= _) _ _ _
 refine aa (wk (jJ (jJ (jJ u2 b1 D.i2z) b2 D.i12.symm) b3 D.TOi2.symm) (qN (qN (qN v2 b1 D.l2z) b2 D.l2i1) b3 D.l2TO) hy fun g4 w2 b4=>aj ?_)
 have p4:kW g4 TO x b:=b4.extBut _ _ D.TOi2 p3
 refine aa (fm p4 rfl (aa (xA p4 fun g5 p5 b5=>?_)))
 replace p5:kW g5 TO x y:=p5
 refine aa (RM (aj (aj ?_)))
 refine aa (fm p5 rfl (aa (wpAny_newTuple ?_)))
 have sz:g5.objs.size=s.heap.objs.size:=by rw [b5.1,b4.1,b3.1,b2.1,b1.1]
 have z5:xz g5 z TI TO .ellipsis:=b5.extBut _ _ D.TOz.symm (b4.extBut _ _ D.i2z.symm (b3.extBut _ _ D.TOz.symm (b2.extBut _ _ D.i1z.symm z1)))
 have k5:∀ c o,c≠z->c≠TO->c≠i1->c≠i2->s.heap.get? c=some o->g5.get? c=some o:=fun c o n1 n2 n3 n4 e =>
  b5.extBut _ _ n2 (b4.extBut _ _ n4 (b3.extBut _ _ n2 (b2.extBut _ _ n3 (b1.extBut _ _ n1 e))))
 have y1:g5.IsTupleIter i1 l1 (k1 + 1):=jJ (jJ (jJ w1 b3 D.TOi1.symm) b4 D.i12) b5 D.TOi1.symm
 have y2:g5.IsTupleIter i2 l2 (k2 + 1):=jJ w2 b5 D.TOi2.symm
 have zl:z<g5.objs.size:=ax z5
 show av _ _ (nY (.ref z) (.ref g5.objs.size) >>= _) _ _ _
 refine aa ?_
 unfold nY
 have z6:xz (g5.push { cls:=.type "tuple",data:=.seq #[x,y] }) z TI TO .ellipsis:=ag _ z5
 refine aa (iU z6 (by simp) fun g7 z7 b7=>?_)
 replace z7:xz g7 z TI TO (cE g5.objs.size):=z7
 refine iU z7 (by simp) fun g8 z8 b8=>?_
 replace z8:xz g8 z TI TO (cE g5.objs.size):=z8
 have up:∀ c o,c≠z->g5.get? c=some o->g8.get? c=some o:=fun c o n1 e=>b8.extBut _ _ n1 (b7.extBut _ _ n1 (ag _ e))
 have p8:kW g8 g5.objs.size x y:=b8.extBut _ _ (iz zl) (b7.extBut _ _ (iz zl) (aE _ rfl))
 rw [sz] at z8 p8
 refine aj ⟨_,rfl,?_⟩
 show Q (.ref g5.objs.size) _
 rw [sz]
 exact q g8 z8 (up _ _ D.TOz p5) (let ⟨o,e,r⟩:=y1;⟨o,up _ o D.i1z e,r⟩) (let ⟨o,e,r⟩:=y2;⟨o,up _ o D.i2z e,r⟩) p8 fun c o n1 n2 n3 n4 e=>up c o n1 (k5 c o n1 n2 n3 n4 e)
theorem OI {Q:Fin->ah->Prop} (hh:A.handled=none) (D:RK z TI TO i1 i2 l1 l2) (za:xz s.heap z TI TO .none) (pa:kW s.heap TI (.ref i1) (.ref i2)) (pb:kW s.heap TO a b)
  (u1:s.heap.IsTupleIter i1 l1 k1) (u2:s.heap.IsTupleIter i2 l2 k2) (v1:s.heap.IsTuple l1 xs) (v2:s.heap.IsTuple l2 ys) (hend:xs[k1]?=none\/ys[k2]?=none)
  (q:∀ h' e,(∀ c o,c≠z->c≠TO->c≠i1->c≠i2->s.heap.get? c=some o->h'.get? c=some o)->(∃ o,h'.get? e=some o/\o.cls=.type "StopIteration")->E (.ref e) { s with heap:=h' }) :
  av (aG prog w) A (ir.«zip.__next__» ⟨[.ref z],[]⟩) Q E s:=by
 show av _ _ (IA (.ref z) 2 >>= _) _ _ _
 refine aa (cX za rfl (x:=.bool false) rfl ?_)
 show av _ _ (IA (.ref z) 3 >>= _) _ _ _
 refine aa (cX za rfl (x:=.ref TI) rfl ?_)
 refine aa (fm pa rfl ?_)
 show av _ _ (eS (.ref z) >>= _) _ _ _
 refine aa ?_
 unfold eS
 refine aa (cX za rfl (x:=.none) rfl (aj ?_))
 simp only [if_true]
 refine aa (jF ?_)
 refine aa (cX za rfl (x:=.ref TO) rfl ?_)
 refine aa (iU za (by simp) fun g1 z1 b1=>?_)
 replace z1:xz g1 z TI TO .ellipsis:=z1
 refine aa ?_
 simp only [Rq,RL,sd,D8]
 refine aa (aa (zJ ?_))
 show av _ _ (cA (.ref i1) >>= _) _ _ _
 cases hx:xs[k1]? with
 | none =>
  refine aa (wl hh (jJ u1 b1 D.i1z) (qN v1 b1 D.l1z) hx fun g2 e b2 he=>?_)
  obtain ⟨oe,ee,ce⟩:=he
  have z2:xz g2 z TI TO .ellipsis:=b2 _ _ D.i1z.symm z1
  have ez:e≠z:=fun n=>by subst n;rw [z2] at ee;cases ee;simp at ce
  refine iU z2 (by simp) fun g3 _ b3=>q g3 e (fun c o n1 _ n3 _ m=>b3.extBut _ _ n1 (b2 _ _ n3 (b1.extBut _ _ n1 m))) ⟨oe,b3.extBut _ _ ez ee,ce⟩
 | some x =>
  have hy:ys[k2]?=none:=hend.resolve_left fun n=>by rw [hx] at n;cases n
  refine aa (wk (jJ u1 b1 D.i1z) (qN v1 b1 D.l1z) hx fun g2 w1 b2=>aj ?_)
  have p2:kW g2 TO a b:=b2.extBut _ _ D.TOi1 (b1.extBut _ _ D.TOz pb)
  refine aa (fm p2 rfl (aa (xA p2 fun g3 p3 b3=>?_)))
  refine aa (RM (aj (aa (aa (zJ ?_)))))
  show av _ _ (cA (.ref i2) >>= _) _ _ _
  refine aa (wl hh (jJ (jJ (jJ u2 b1 D.i2z) b2 D.i12.symm) b3 D.TOi2.symm) (qN (qN (qN v2 b1 D.l2z) b2 D.l2i1) b3 D.l2TO) hy fun g4 e b4 he=>?_)
  obtain ⟨oe,ee,ce⟩:=he
  have z4:xz g4 z TI TO .ellipsis:=b4 _ _ D.i2z.symm (b3.extBut _ _ D.TOz.symm (b2.extBut _ _ D.i1z.symm z1))
  have ez:e≠z:=fun n=>by subst n;rw [z4] at ee;cases ee;simp at ce
  refine iU z4 (by simp) fun g5 _ b5=>q g5 e (fun c o n1 n2 n3 n4 m=>b5.extBut _ _ n1 (b4 _ _ n4 (b3.extBut _ _ n2 (b2.extBut _ _ n3 (b1.extBut _ _ n1 m))))) ⟨oe,b5.extBut _ _ ez ee,ce⟩
end
abbrev Z7 (h:br) (l1:ai):br:=h.push { cls:=.type "tuple_iterator",data:=.fields #[.ref l1,.int 0 0] }
abbrev Z8 (h:br) (l1 l2:ai):br:=(Z7 h l1).push { cls:=.type "tuple_iterator",data:=.fields #[.ref l2,.int 0 0] }
abbrev Z9 (h:br) (l1 l2:ai):br:=(Z8 h l1 l2).push { cls:=.type "tuple",data:=.seq #[.ref h.objs.size,.ref (Z7 h l1).objs.size] }
abbrev Za (h:br) (l1 l2:ai):br:=(Z9 h l1 l2).push { cls:=.type "tuple",data:=.seq #[.none,.none] }
abbrev X3 (h:br) (l1 l2:ai):br:=(Za h l1 l2).push { cls:=.type "zip",data:=.fields #[.none,.bool false,.bool false,.ref (Z8 h l1 l2).objs.size,.ref (Z9 h l1 l2).objs.size] }
theorem Cm (l1 l2:ai) (xs ys:Array ae) :
  Meets (ir.«zip.__new__» ⟨[.type "zip",.ref l1,.ref l2],[]⟩) (fun _ R s=>s.heap.IsTuple l1 xs/\s.heap.IsTuple l2 ys/\R (.ok (.ret (.ref (Za s.heap l1 l2).objs.size))) { s with heap:=X3 s.heap l1 l2 }) :=
 .of_wp fun prog w A R s h=>by
  obtain ⟨hp,g,d,tk,os⟩:=s
  obtain ⟨v1,v2,h⟩:=h
  have hsub:=PySem.sub_zip
  have L1:Ih (Ii ⟨hp,g,d,tk,os⟩) l1 xs:=v1
  have L2:Ih (Ii ⟨hp.push { cls:=.type "tuple_iterator",data:=.fields #[.ref l1,.int 0 0] },g,d,tk,os⟩) l2 ys:=Heap.IsTuple.push v2 _
  wp_walk using gz L1,gz L2
  exact ⟨_,rfl,h⟩
section
variable {prog:aH}{w:b9}{A:aW}{E:ae->ah->Prop}{s:ah}
theorem Eo {l1 l2:ai}{xs ys:Array ae}{Q:ae->ah->Prop} (v1:s.heap.IsTuple l1 xs) (v2:s.heap.IsTuple l2 ys)
  (h:∀ h',xz h' (s.heap.objs.size + 4) (s.heap.objs.size + 2) (s.heap.objs.size + 3) .none->kW h' (s.heap.objs.size + 2) (.ref s.heap.objs.size) (.ref (s.heap.objs.size + 1)) ->
   kW h' (s.heap.objs.size + 3) .none .none->h'.IsTupleIter s.heap.objs.size l1 0->h'.IsTupleIter (s.heap.objs.size + 1) l2 0 ->
   (∀ c o,s.heap.get? c=some o->h'.get? c=some o)->Q (.ref (s.heap.objs.size + 4)) { s with heap:=h' }):av (aG prog w) A (call (.type "zip") [.ref l1,.ref l2]) Q E s:=by
 refine callType_new F.called_zip (by decide) (F.typeCall_zip_2 _ _) (F.newCall_zip_2 _ _) (fun obj=>F.args_object_init_3 obj _ _) F.entry_zip_new (Cm l1 l2 xs ys) ⟨v1,v2,?_⟩
 have n1:(Z7 s.heap l1).objs.size=s.heap.objs.size + 1:=cr ..
 have n2:(Z8 s.heap l1 l2).objs.size=s.heap.objs.size + 2:=by rw [cr,n1]
 have n3:(Z9 s.heap l1 l2).objs.size=s.heap.objs.size + 3:=by rw [cr,n2]
 have n4:(Za s.heap l1 l2).objs.size=s.heap.objs.size + 4:=by rw [cr,n3]
 have c5:(X3 s.heap l1 l2).get? (Za s.heap l1 l2).objs.size=some _:=aE _ rfl
 have c4:(X3 s.heap l1 l2).get? (Z9 s.heap l1 l2).objs.size=some _:=ag _ (aE _ rfl)
 have c3:(X3 s.heap l1 l2).get? (Z8 s.heap l1 l2).objs.size=some _:=ag _ (ag _ (aE _ rfl))
 have c2:(X3 s.heap l1 l2).get? (Z7 s.heap l1).objs.size=some _:=ag _ (ag _ (ag _ (aE _ rfl)))
 have c1:(X3 s.heap l1 l2).get? s.heap.objs.size=some _:=ag _ (ag _ (ag _ (ag _ (aE _ rfl))))
 show _/\_
 rw [n2,n3,n4] at c5
 rw [n1,n2] at c3
 rw [n3] at c4
 rw [n1] at c2
 rw [n4]
 exact ⟨⟨_,c5,rfl⟩,h _ c5 c3 c4 ⟨_,c1,rfl,rfl⟩ ⟨_,c2,rfl,rfl⟩ fun c o e=>ag _ (ag _ (ag _ (ag _ (ag _ e))))⟩
end
theorem m5.ne_fp {X:Cx}{pins:List (ai×Obj)}{σ:St}{H:Hp}{s:ah}{a b:ai}{xs:List V} (I:bI X pins σ H s) (hq:m5 X.K H a xs) (hf:sk X pins H b):a≠b:=by
 rintro rfl
 rcases hq with (h | ⟨o,h⟩) | ⟨o,its,n,hk,_⟩
 ·rw [hf.1] at h;cases h
 ·rw [hf.1] at h;cases h
 ·have e:X.base.get? a=some o:=I.mod.kin a o hk
  rcases hf.f3 with z | z
  ·exact I.ok.noex a o e z
  ·exact absurd (aF (ax e) (c7 I.ok.bsz z)) (cb _)
def ZU (K:a9) (a b:ai):It :=
 ⟨fun i H=>∃ xs ys x y,m5 K H a xs/\m5 K H b ys/\xs[i]?=some x/\ys[i]?=some y,
  fun i H v H'=>∃ p,H p=none/\v=.ref p/\∀ xs ys,m5 K H a xs->m5 K H b ys->∃ x y,xs[i]?=some x/\ys[i]?=some y/\H'=upd H p (.tup [x,y]),
  fun i H=>∃ xs ys,m5 K H a xs/\m5 K H b ys/\(xs.length<=i\/ys.length<=i)⟩
structure ZV (z TI TO i1 i2:ai):Prop where
 d1:TI≠z
 d2:TO≠z
 d3:i1≠z
 d4:i2≠z
 d5:TI≠TO
 d6:TI≠i1
 d7:TI≠i2
 d8:TO≠i1
 d9:TO≠i2
 d0:i1≠i2
theorem OJ {P:aH}{w:b9}{K:a9}{elts:List aR}{x1}{pos:Pos} (l1 l2 z TI TO i1 i2:ai) (Z:ZV z TI TO i1 i2) :
  Ch P w K (.Tuple elts x1 pos) (ZU K l1 l2) [z,TI,TO,i1,i2] z (fun i h=>xz h z TI TO .none/\kW h TI (.ref i1) (.ref i2)/\(∃ a b,kW h TO a b)/\h.IsTupleIter i1 l1 i/\h.IsTupleIter i2 l2 i) where
 mem:=by simp
 obj:=fun i h st b hb=>by
  obtain ⟨s1,s2,⟨_,_,s3⟩,⟨o4,e4,_,f4⟩,⟨o5,e5,_,f5⟩⟩:=st
  simp only [bf,aQ,or_false] at hb
  rcases hb with rfl | rfl | rfl | rfl | rfl
  ·exact ⟨_,s1,fun v q=>by cases q⟩
  ·exact ⟨_,s2,fun v q=>by cases q⟩
  ·exact ⟨_,s3,fun v q=>by cases q⟩
  ·exact ⟨o4,e4,fun v q=>by rw [f4] at q;cases q⟩
  ·exact ⟨o5,e5,fun v q=>by rw [f5] at q;cases q⟩
 keep:=fun i h h' st k=>by
  obtain ⟨s1,s2,⟨u,v,s3⟩,⟨o4,e4,r4⟩,⟨o5,e5,r5⟩⟩:=st
  exact ⟨k z (by simp) _ s1,k TI (by simp) _ s2,⟨u,v,k TO (by simp) _ s3⟩,⟨o4,k i1 (by simp) _ e4,r4⟩,⟨o5,k i2 (by simp) _ e5,r5⟩⟩
 item:=by
  intro X hP hw hK hc i pins s σ H E I hf st hg
  subst hP hw hK
  obtain ⟨xs,ys,x,y,hq1,hq2,hx,hy⟩:=hg
  obtain ⟨its1,rv1,p1,_⟩:=I.tuple hq1
  obtain ⟨its2,rv2,p2,_⟩:=I.tuple hq2
  obtain ⟨u,hu,ru⟩:=rv1.get hx
  obtain ⟨v,hv,rv⟩:=rv2.get hy
  obtain ⟨s1,s2,⟨a,b,s3⟩,s4,s5⟩:=st
  have ne1:∀ b∈[z,TI,TO,i1,i2],l1≠b:=fun b hb=>hq1.ne_fp I (hf b hb)
  have ne2:∀ b∈[z,TI,TO,i1,i2],l2≠b:=fun b hb=>hq2.ne_fp I (hf b hb)
  have D:RK z TI TO i1 i2 l1 l2:=⟨Z.d1,Z.d2,Z.d3,Z.d4,Z.d5,Z.d6,Z.d7,Z.d8,Z.d9,Z.d0,ne1 z (by simp),ne1 TO (by simp),ne1 i1 (by simp),ne1 i2 (by simp),ne2 z (by simp),ne2 TO (by simp),ne2 i1 (by simp),ne2 i2 (by simp)⟩
  have zl:=ax s1
  have hT:s.TypeIs (.ref z) "zip":=⟨_,s1,rfl⟩
  unfold rY
  refine aa (nQ (cP (name:=iA "__next__") hT ux ?_))
  refine cQ ux hT F.entry_zip_next (OH D s1 s2 s3 s4 s5 p1 p2 (by simpa using hu) (by simpa using hv) fun h1 z1 t1 y1 y2 pr k1=>?_) (F.args_zip_next_1 _)
  refine aj ⟨_,rfl,wpAny_letOwnedTupleGo_zip z1 fun h2 z2 b2=>?_⟩
  have szn:s.heap.objs.size≠z:=iz zl
  have TIk:kW h1 TI (.ref i1) (.ref i2):=k1 TI _ Z.d1 Z.d5 Z.d6 Z.d7 s2
  have I2:bI X pins σ H { s with heap:=h2 }:=I.turnedL (t':=s.toks) (ch:=[z,TI,TO,i1,i2]) (fun b o hb q=>by
   simp only [bf,aQ,or_false,not_or] at hb
   exact (b2.2 b hb.1).trans (k1 b o hb.1 hb.2.2.1 hb.2.2.2.1 hb.2.2.2.2 q)) hf
  have fT:=I.fpOk (H':=H) (az _) (I.hok.fresh (az _))
  have pr2:h2.get? s.heap.objs.size=some { cls:=.type "tuple",data:=.seq #[u,v] }:=(b2.2 _ szn).trans pr
  have I3:=I2.track (ho:=.tup [x,y]) fT ⟨by show 2<=sizeLine;decide,[u,v],.cons ru (.cons rv .nil),⟨_,pr2,rfl,0,rfl⟩⟩
  refine ⟨.ref s.heap.objs.size,_,I3,rfl,⟨_,fT.1,rfl,fun xs' ys' h1 h2=>?_⟩,⟨z2,(b2.2 TI Z.d1).trans TIk,⟨u,v,(b2.2 TO Z.d2).trans t1⟩,jJ y1 b2 Z.d3,jJ y2 b2 Z.d4⟩,fun b hb=>?_⟩
  ·rw [I.tuple_inj h1 hq1,I.tuple_inj h2 hq2];exact ⟨x,y,hx,hy,rfl⟩
  ·have bl:b<s.heap.objs.size:=by
    simp only [bf,aQ,or_false] at hb
    rcases hb with q | q | q | q | q
    ·rw [q];exact zl
    ·rw [q];exact ax s2
    ·rw [q];exact ax s3
    ·obtain ⟨_,e,_⟩:=s4;rw [q];exact ax e
    ·obtain ⟨_,e,_⟩:=s5;rw [q];exact ax e
   rw [a_ (aO bl)];exact (hf b hb).1
 done:=by
  intro X hP hw hK hc i pins s σ H E I hf st hg
  subst hP hw hK
  obtain ⟨xs,ys,hq1,hq2,hend⟩:=hg
  obtain ⟨its1,rv1,p1,_⟩:=I.tuple hq1
  obtain ⟨its2,rv2,p2,_⟩:=I.tuple hq2
  obtain ⟨s1,s2,⟨a,b,s3⟩,s4,s5⟩:=st
  have ne1:∀ b∈[z,TI,TO,i1,i2],l1≠b:=fun b hb=>hq1.ne_fp I (hf b hb)
  have ne2:∀ b∈[z,TI,TO,i1,i2],l2≠b:=fun b hb=>hq2.ne_fp I (hf b hb)
  have D:RK z TI TO i1 i2 l1 l2:=⟨Z.d1,Z.d2,Z.d3,Z.d4,Z.d5,Z.d6,Z.d7,Z.d8,Z.d9,Z.d0,ne1 z (by simp),ne1 TO (by simp),ne1 i1 (by simp),ne1 i2 (by simp),ne2 z (by simp),ne2 TO (by simp),ne2 i1 (by simp),ne2 i2 (by simp)⟩
  have hT:s.TypeIs (.ref z) "zip":=⟨_,s1,rfl⟩
  have n1:=rv1.length
  have n2:=rv2.length
  unfold rY
  refine aa (nQ (cP (name:=iA "__next__") hT ux ?_))
  refine cQ ux hT F.entry_zip_next (OI (by simpa using I.ok.hd hc) D s1 s2 s3 s4 s5 p1 p2 (hend.elim (fun q=>.inl (by simp;omega)) fun q=>.inr (by simp;omega)) fun h' e kp he=>?_) (F.args_zip_next_1 _)
  obtain ⟨o,eo,co⟩:=he
  refine aa (uh (T:="StopIteration") (b:=true) ⟨o,eo,co⟩ Iz ?_)
  exact aj ⟨rfl,I.turnedL (t':=s.toks) (ch:=[z,TI,TO,i1,i2]) (fun b o hb q=>by
   simp only [bf,aQ,or_false,not_or] at hb
   exact kp b o hb.1 hb.2.2.1 hb.2.2.2.1 hb.2.2.2.2 q) hf⟩
 self:=fun _ _ _ _ _ st h=>wpAny_pyIter_zip st.1 h
def ZW (K:a9) (ta:TA):TI:=fun σ H R=>ta σ H fun vs H1=>∃ a b xs ys,vs=[.ref a,.ref b]/\m5 K H1 a xs/\m5 K H1 b ys/\R (ZU K a b) H1
theorem VQ {X:Cx}{elts:List aR}{x1}{tpos p pos:Pos}{a b:aR}{ta:TA} (hg:Gl X "zip") (hm:X.mg "zip"=none) (ha:PA X [a,b] ta) (hs:aw [a,b] X.env=[(false,cG a X.env),(false,cG b X.env)]:=by rfl)
  (hs2:aw [b] X.env=[(false,cG b X.env)]:=by rfl):PI X (.Tuple elts x1 tpos) (.Call (.Name "zip" p) [a,b] [] pos) (ZW X.K ta):=by
 intro pins s σ H R I h
 refine Call_ (uV I hg hm boot_zip (f9 (fF (ha pos pins s σ H _ I h) fun us s1 ⟨vs,H1,I1,r1,q1⟩=>?_) (by rw [hs,hs2]) (by rw [hs2];rfl)))
 obtain ⟨a1,a2,xs,ys,rfl,hq1,hq2,q⟩:=q1
 obtain ⟨u1,u2,rfl,rx1,rx2⟩:=Oe r1
 cases rx1
 cases rx2
 obtain ⟨its1,rv1,p1,_⟩:=I1.tuple hq1
 obtain ⟨its2,rv2,p2,_⟩:=I1.tuple hq2
 refine Eo (show s1.heap.IsTuple a1 its1.toArray from p1) (show s1.heap.IsTuple a2 its2.toArray from p2) fun h' c1 c2 c3 c4 c5 kp=>?_
 refine wpAny_pyIter_zip c1 ?_
 have I2:bI X pins σ H1 { s1 with heap:=h' }:=I1.kept (t':=s1.toks) kp
 have ad:∀ k j:Nat,k≠j->s1.heap.objs.size + k≠s1.heap.objs.size + j:=fun k j n e=>n (Nat.add_left_cancel e)
 refine ⟨s1.heap.objs.size + 4,[s1.heap.objs.size + 4,s1.heap.objs.size + 2,s1.heap.objs.size + 3,s1.heap.objs.size + 0,s1.heap.objs.size + 1],_,_,H1,rfl,I2,
  OJ a1 a2 _ _ _ _ _ ⟨ad _ _ (by decide),ad _ _ (by decide),ad _ _ (by decide),ad _ _ (by decide),ad _ _ (by decide),ad _ _ (by decide),ad _ _ (by decide),ad _ _ (by decide),ad _ _ (by decide),ad _ _ (by decide)⟩,
  ⟨c1,c2,⟨_,_,c3⟩,c4,c5⟩,fun b hb=>?_,q⟩
 have:∀ k:Nat,sk X pins H1 (s1.heap.objs.size + k):=fun k=>I1.fpOk (RN _ _) (I1.hok.fresh (RN _ _))
 simp only [bf,aQ,or_false] at hb
 rcases hb with q | q | q | q | q<;>(rw [q];exact this _)
end
section
mutual
inductive J1 (K:a9) (H:Hp):V->sf->Prop
 | none:J1 K H .non .none
 | bool (b:Bool):J1 K H (.bl b) (.bool b)
 | int (i:Int):J1 K H (.int i) (.int i)
 | str (x:Str):J1 K H (.str x) (.str x)
 | list {a:ai}{xs:List V}{ds:List sf}:pJ K H a xs->Reps K H xs ds->J1 K H (.ref a) (.list ds)
 | tuple {a:ai}{xs:List V}{ds:List sf}:m5 K H a xs->Reps K H xs ds->J1 K H (.ref a) (.tuple ds)
inductive Reps (K:a9) (H:Hp):List V->List sf->Prop
 | nil:Reps K H [] []
 | cons {x:V}{xs:List V}{d:sf}{ds:List sf}:J1 K H x d->Reps K H xs ds->Reps K H (x::xs) (d::ds)
end
theorem eg.tup {K:a9}{H H':Hp}{a:ai}{xs:List V} (e:eg H H') (h:m5 K H a xs):m5 K H' a xs:=by
 rcases h with (h | ⟨o,h⟩) | h
 ·exact .inl (.inl (e _ _ h))
 ·exact .inl (.inr ⟨o,e _ _ h⟩)
 ·exact .inr h
section
variable {X:Cx}{pins:List (ai×Obj)}{σ:St}{H:Hp}{s:ah}
theorem Sr (I:bI X pins σ H s) {a:ai}{xs:List V}{ds:List sf}{u:ae} (h:pJ X.K H a xs) (ih:∀ {us:List ae},du xs us->∃ as,ReadsAll s.heap us ds as) (r:dW (.ref a) u):∃ as,Reads s.heap u (.list ds) as:=by
 cases r
 obtain ⟨its,rv,⟨o,n,e,c,_,d⟩,_⟩:=I.list h
 obtain ⟨as,ra⟩:=ih rv
 exact ⟨_,.list e c d (by simpa using ra)⟩
theorem OK (I:bI X pins σ H s) {a:ai}{xs:List V}{ds:List sf}{u:ae} (h:m5 X.K H a xs) (ih:∀ {us:List ae},du xs us->∃ as,ReadsAll s.heap us ds as) (r:dW (.ref a) u):∃ as,Reads s.heap u (.tuple ds) as:=by
 cases r
 obtain ⟨its,rv,⟨o,e,c,n,d⟩,_⟩:=I.tuple h
 obtain ⟨as,ra⟩:=ih rv
 exact ⟨_,.tuple e c d (by simpa using ra)⟩
theorem tP (I:bI X pins σ H s) {v:V}{d:sf} (h:J1 X.K H v d):∀ {u:ae},dW v u->∃ as,Reads s.heap u d as :=
 J1.rec (motive_1:=fun v d _=>∀ {u:ae},dW v u->∃ as,Reads s.heap u d as) (motive_2:=fun vs ds _=>∀ {us:List ae},du vs us->∃ as,ReadsAll s.heap us ds as)
  (fun r=>by cases r;exact ⟨_,.none⟩) (fun b _ r=>by cases r;exact ⟨_,.bool b⟩) (fun i _ r=>by obtain ⟨t,rfl⟩:=r;exact ⟨_,.int i t⟩) (fun x _ r=>by obtain ⟨t,rfl⟩:=r;exact ⟨_,.str x t⟩)
  (fun h _ ih _ r=>Sr I h ih r) (fun h _ ih _ r=>OK I h ih r) (fun r=>by cases r;exact ⟨_,.nil⟩) (fun _ _ a b _ r=>by
   cases r with
   | cons r rs =>
    obtain ⟨as,ra⟩:=a r
    obtain ⟨bs,rb⟩:=b rs
    exact ⟨_,.cons ra rb⟩) h
end
section
variable {X:Cx}
inductive Ut (K:a9) (neg:Bool) (x:V) (y:V) (H:Hp) (Q:VK):Prop
 | mk (dx dy:_) (h0:J1 K H x dx) (h1:J1 K H y dy) (h2:dx.canLay0=true) (h3:dy.canLay0=true) (h4:min dx.depth dy.depth<=60) (h5:Q (.bl (if neg then !bK dx dy else bK dx dy)) H):Ut K neg x y H Q
def VR (K:a9) (neg:Bool):R2:=Ut K neg
theorem VS (hu:X.A.units + 64<ue):qB X (bX .Eq) (VR X.K false):=by
 intro pins s σ H x y v u Q I rx ry h
 obtain ⟨dx,dy,hx,hy,lx,ly,dp,q⟩:=h
 obtain ⟨as,ra⟩:=tP I hx rx
 obtain ⟨bs,rb⟩:=tP I hy ry
 exact PySem.SeqAt.compareEq_reads ra rb lx ly (by omega) ⟨.bl _,H,I,rfl,q⟩
theorem VT (hu:X.A.units + 64<ue):qB X (bX .NotEq) (VR X.K true):=by
 intro pins s σ H x y v u Q I rx ry h
 obtain ⟨dx,dy,hx,hy,lx,ly,dp,q⟩:=h
 obtain ⟨as,ra⟩:=tP I hx rx
 obtain ⟨bs,rb⟩:=tP I hy ry
 exact PySem.SeqAt.compareNe_reads ra rb lx ly (by omega) ⟨.bl _,H,I,rfl,q⟩
end
end
section
structure Uu (P:aH) (w:b9) (l:List Env) (H H':Hp) (h h' B:br) (ea C t:ai):Prop where
 fly:Ij B l ea (.ref C) (.ref t) h'
 cov:∀ b u,H' b=some u->∃ o,B.get? b=some o
 old:∀ b o,h.get? b=some o->H b=none->b∉pI l->B.get? b=some o
 all:∀ b o,h.get? b=some o->b∉pI l->∃ o',B.get? b=some o'
 un:Un (pI l) [] H H' h h'
 hok:rW P w H' h'
inductive XD (P:aH) (w:b9) (outer:List Env) (H:Hp) (s:ah) (E:XK) (e:ae) (s':ah):Prop
 | mk (ea C t H' B:_) (h0:e=.ref ea) (h1:s'.os=s.os) (h2:rO s'.gens) (h3:Uu P w outer H H' s.heap s'.heap B ea C t) (h4:E (.ref C) none H'):XD P w outer H s E e s'
def kg (P:aH) (w:b9):IN:=XD P w
theorem Gk {P:aH}{w:b9}{H:Hp}{h:br}{b:ai}{u:HO} (x:rW P w H h) (e:H b=some u):∃ o,h.get? b=some o:=by
 have y:=x b u e
 cases u with
 | lst xs=>obtain ⟨_,_,_,_,k⟩:=y;exact ⟨_,k⟩
 | tup xs=>obtain ⟨_,_,_,o,k,_⟩:=y;exact ⟨o,k⟩
 | dK kvs=>obtain ⟨_,_,_,_,o,_,_,k,_⟩:=y;exact ⟨o,k⟩
 | dT kvs=>obtain ⟨_,_,_,_,o,_,_,k,_⟩:=y;exact ⟨o,k⟩
 | set S n=>obtain ⟨o,_,_,_,k,_⟩:=y;exact ⟨o,k⟩
 | ins C dx fs=>obtain ⟨_,_,_,k,_⟩:=y;exact ⟨_,k⟩
 | own y'=>exact y
 | xd fs=>obtain ⟨_,⟨o,_,_,k,_⟩,_⟩:=y;exact ⟨o,k⟩
 | rng lo hi=>obtain ⟨_,_,_,k⟩:=y;exact ⟨_,k⟩
 | frz o u=>exact ⟨o,y.1⟩
 | tbl ps=>exact ⟨_,y⟩
 | met f y'=>exact ⟨_,y⟩
 | ext φ=>exact y.2.1
theorem Ep {l:List Env}{env:Env}{b:ai} (he:env∈l) (hf:env.frame=some b):b∈pI l:=List.mem_filterMap.mpr ⟨env,he,hf⟩
section
variable {P:aH}{w:b9}{l:List Env}{H H':Hp}{h h' h'' B:br}{ea C t:ai}
theorem Uu.kp (x:Uu P w l H H' h h' B ea C t) (st:B.StaysIn h'') (b:ai) (u:HO) (o:Obj) (e:H' b=some u) (q:h'.get? b=some o):h''.get? b=some o:=by
 obtain ⟨o',e1⟩:=x.cov b u e
 have:=x.fly.1 b o' e1
 rw [q] at this;cases this
 exact st b o e1
theorem Uu.on (x:Uu P w l H H' h h' B ea C t) (fl:Ij B l ea (.ref C) (.ref t) h'') (up:h'.UpToSlots h''):Uu P w l H H' h h'' B ea C t:=by
 have st:=fl.1
 refine ⟨fl,x.cov,x.old,x.all,⟨fun b o q n hb hx=>st b o (x.old b o q n hb),fun b o q n hb hx=>?_,x.un.free,fun b o q hx=>?_,x.un.tups,x.un.frzs,x.un.tbls⟩,fun b u e=>?_⟩
 ·obtain ⟨sl,e1⟩:=x.un.slot b o q n hb hx
  obtain ⟨_,o',k1,k2⟩:=dI x.fly.2.2.1 hb
  rw [e1] at k1;cases k1
  obtain ⟨sl',e2⟩:=up b _ e1 k2
  exact ⟨sl',e2⟩
 ·by_cases hb:b∈pI l
  ·obtain ⟨_,o',k1,_⟩:=dI fl.2.2.1 hb
   exact ⟨o',k1⟩
  ·obtain ⟨o',k⟩:=x.all b o q hb
   exact ⟨o',st b o' k⟩
 ·exact (x.hok b u e).stay (fun c o hc q=>by
   rcases hc with z | z
   ·rw [z] at q ⊢;exact x.kp st b u o e q
   ·exact x.kp st c _ o z q) (fun _ q=>q) fun _ _ q=>q
end
section
variable {P:aH}{w:b9}{K:a9}{mg:Str->Option ae}{base:br}{N:List Str}{qual:Str}{scope:eD}{f:ai}{cd:ae}{A:aW}{outer:List Env}{s:ah}{H:Hp}{E:XK}
theorem Es {pins:List (ai×Obj)}{σ:St}{H1:Hp}{s1:ah}{h':br}{ea C:ai}{vs:List ae} (I:bI (gE (kg P w) P w K mg base N qual scope f cd A outer s H E) pins σ H1 s1)
  (hx:uy s1.heap h' ea (.ref C) vs) (q:E (.ref C) none H1):(gE (kg P w) P w K mg base N qual scope f cd A outer s H E).xe (.ref ea) { s1 with heap:=h' }:=by
 let X:=gE (kg P w) P w K mg base N qual scope f cd A outer s H E
 let B:=yW s1.heap (pI X.stack)
 have hin:∀ env∈X.stack,∀ a,env.frame=some a->a∈pI X.stack:=fun env he a hf=>Ep he hf
 have stB:B.StaysIn s1.heap:=fun b o e=>uN _ e
 have nS:∀ b,b∉pI X.stack->∀ o,s1.heap.get? b=some o->B.get? b=some o:=fun b n o e=>ud _ e n
 show av _ X.A (NJ X.env (.ref ea)) _ _ _
 refine wpAny_leaves_madeW (s:={ s1 with heap:=h' }) (base:=B) (outer:=outer) (L:=X.env.locals) I.ok.frames rfl stB (E6 I.stack hin) hx fun h2 t fl tup tn up=>?_
 have st2:=fl.1
 have bl:∀ b o,s.heap.get? b=some o->b∉pI outer->b∉pI X.stack:=fun b o e n z=>by
  rcases List.mem_cons.mp (I.stkSub b z) with y | y
  ·exact absurd (ax e) (by rw [y];exact Nat.not_lt.mpr I.ok.above)
  ·exact n y
 have noex:∀ b:ai,b∉X.ex:=fun b z=>absurd (show b∈([] : List ai) from z) (by simp)
 have cov:∀ b u,H1 b=some u->∃ o,B.get? b=some o:=fun b u e=>by
  have hb:b∉pI X.stack:=fun z=>by have:=I.stkFree b z;rw [e] at this;cases this
  obtain ⟨o,k⟩:=Gk I.hok e
  exact ⟨o,nS b hb o k⟩
 refine ⟨ea,C,t,H1,B,rfl,I.os,I.bare,⟨fl,cov,fun b o e n hb=>?_,fun b o e hb=>?_,⟨fun b o e n hb hx'=>?_,fun b o e n hb hx'=>?_,fun b o e n _=>I.base.free b o e n (noex b),fun b o e _=>?_,I.base.tups,I.base.frzs,I.base.tbls⟩,fun b u e=>?_⟩,q⟩
 ·exact nS b (bl b o e hb) o (I.base.keep b o e n hb (noex b))
 ·obtain ⟨o',k⟩:=I.base.there b o e (noex b)
  exact ⟨o',nS b (bl b o e hb) o' k⟩
 ·exact st2 b o (nS b (bl b o e hb) o (I.base.keep b o e n hb (noex b)))
 ·obtain ⟨sl,k⟩:=I.base.slot b o e n hb (noex b)
  obtain ⟨_,o',k1,k2⟩:=dI I.funs hb
  rw [k] at k1;cases k1
  obtain ⟨sl',k3⟩:=up b _ (hx.keeps _ _ k) k2
  exact ⟨sl',k3⟩
 ·obtain ⟨o',k⟩:=I.base.there b o e (noex b)
  by_cases hb:b∈pI outer
  ·obtain ⟨_,o2,k1,_⟩:=dI fl.2.2.1 hb
   exact ⟨o2,k1⟩
  ·exact ⟨o',st2 b o' (nS b (bl b o e hb) o' k)⟩
 ·refine (I.hok b u e).stay (fun c o hc k=>?_) (fun _ q=>q) fun _ _ q=>q
  have hcs:c∉pI X.stack:=fun z=>by
   have:=I.stkFree c z
   rcases hc with y | y
   ·rw [y,e] at this;cases this
   ·rw [y] at this;cases this
  exact st2 c o (nS c hcs o k)
theorem Gm {E':XK} (hE:∀ c H',E' c none H'->E c none H'):kd (kg P w) (gE (kg P w) P w K mg base N qual scope f cd A outer s H E) E':=by
 intro pins σ H1 s1 e s' I h
 obtain ⟨ea,C,t,H',B,rfl,os,bare,x,q⟩:=h
 let X:=gE (kg P w) P w K mg base N qual scope f cd A outer s H E
 have noex:∀ b:ai,b∉X.ex:=fun b z=>absurd (show b∈([] : List ai) from z) (by simp)
 have bl:∀ b o,s.heap.get? b=some o->b∉pI outer->b∉pI X.stack:=fun b o e n z=>by
  rcases List.mem_cons.mp (I.stkSub b z) with y | y
  ·exact absurd (ax e) (by rw [y];exact Nat.not_lt.mpr I.ok.above)
  ·exact n y
 have sub:∀ b∈pI outer,b∈pI X.stack:=fun b hb=>by
  obtain ⟨env,he,hf⟩:=List.mem_filterMap.mp hb
  exact Ep (aA _ he) hf
 show av _ X.A (NJ X.env (.ref ea)) _ _ _
 refine wpAny_leaves_onW (base:=B) (outer:=outer) (L:=X.env.locals) I.ok.frames rfl x.fly fun h2 fl up=>?_
 have st2:=fl.1
 refine ⟨ea,C,t,H',B,rfl,os.trans I.os,bare,⟨fl,x.cov,fun b o e n hb=>?_,fun b o e hb=>?_,⟨fun b o e n hb hx'=>?_,fun b o e n hb hx'=>?_,fun b o e n _=>?_,fun b o e _=>?_,fun b xs e=>x.un.tups b xs (I.base.tups b xs e),fun b o xs e=>x.un.frzs b o xs (I.base.frzs b o xs e),fun b ps e=>?_⟩,fun b u e=>?_⟩,hE _ _ q⟩
 ·exact x.old b o (I.base.keep b o e n hb (noex b)) (I.base.free b o e n (noex b)) (bl b o e hb)
 ·obtain ⟨o',k⟩:=I.base.there b o e (noex b)
  exact x.all b o' k (bl b o e hb)
 ·exact st2 b o (x.old b o (I.base.keep b o e n hb (noex b)) (I.base.free b o e n (noex b)) (bl b o e hb))
 ·obtain ⟨sl,k⟩:=I.base.slot b o e n hb (noex b)
  obtain ⟨sl1,k1⟩:=x.un.slot b _ k (I.base.free b o e n (noex b)) (sub b hb) (by simp)
  obtain ⟨_,o',k2,k3⟩:=dI x.fly.2.2.1 (sub b hb)
  rw [k1] at k2;cases k2
  obtain ⟨sl2,k4⟩:=up b _ k1 k3
  exact ⟨sl2,k4⟩
 ·obtain ⟨o',k⟩:=I.base.there b o e (noex b)
  exact x.un.free b o' k (I.base.free b o e n (noex b)) (by simp)
 ·obtain ⟨o',k⟩:=I.base.there b o e (noex b)
  by_cases hb:b∈pI outer
  ·obtain ⟨_,o2,k1,_⟩:=dI fl.2.2.1 hb
   exact ⟨o2,k1⟩
  ·obtain ⟨o2,k2⟩:=x.all b o' k (bl b o e hb)
   exact ⟨o2,st2 b o2 k2⟩
 ·obtain ⟨m1,e1⟩:=I.base.tbls b ps e
  obtain ⟨m2,e2⟩:=x.un.tbls b _ e1
  exact ⟨m1++m2,by rw [e2,LP]⟩
 ·exact (x.hok b u e).stay (fun c o hc k=>by
   rcases hc with z | z
   ·rw [z] at k ⊢;exact x.kp st2 b u o e k
   ·exact x.kp st2 c _ o z k) (fun _ q=>q) fun _ _ q=>q
end
end
section
section
variable {P:aH}{w:b9}{K:a9}{mg:Str->Option ae}{base:br}{N:List Str}{qual:Str}{scope:eD}{f:ai}{cd:ae}{A:aW}{outer:List Env}{s:ah}{H:Hp}{E:XK}
theorem OL {x:Str}{np cpos pos:Pos}{e0:aR}{bP:List aR}{C:ai}{bmB:List ae}{newId initId Bn:String}{ta:TA} (O:OwnCls x C bmB newId mg base) (FB:uU Bn newId initId bmB)
  (hg:Gl (gE (kg P w) P w K mg base N qual scope f cd A outer s H E) x) (ha:PA (gE (kg P w) P w K mg base N qual scope f cd A outer s H E) (e0::bP) ta)
  (he:aw (e0::bP) (gE (kg P w) P w K mg base N qual scope f cd A outer s H E).env=(false,cG e0 (gE (kg P w) P w K mg base N qual scope f cd A outer s H E).env)::aw bP (gE (kg P w) P w K mg base N qual scope f cd A outer s H E).env:=by rfl)
  (hdb:(x == ("__debug__" : Str))=false:=by decide) (hpl:(dL cpos (aw bP (gE (kg P w) P w K mg base N qual scope f cd A outer s H E).env)).any (·.1)=false:=by rfl) :
  PS (gE (kg P w) P w K mg base N qual scope f cd A outer s H E) (.Raise (some (.Call (.Name x np) (e0::bP) [] cpos)) none pos) (fun D σ H1=>ta σ H1 fun vs H2=>vs.length<=sizeLine/\E (.ref C) none H2):=by
 intro pins s1 σ H1 D I h
 obtain ⟨tl,Nn,nm,q,bs,hdct,sn,sub,ab,col,dd,k0,k1,k2,k3,k5,mN,hC,hN,hni,T⟩:=O.obj
 refine wpAny_Raise_call_subT (C:=C) (nm:=nm) (q:=q) (N:=Nn) (bs:=bs) (bm:=tl) (hdct:=hdct) (sn:=sn) (sub:=sub) (ab:=ab) (col:=col) (dd:=dd) (k0:=k0) (k1:=k1) (k2:=k2) (k3:=k3) (k5:=k5)
  FB (mN:=mN) (T.hasType FB.hasBase) (I.ok.hd rfl) ?_ hni (vX I hg O.bound ⟨rfl,?_⟩ hdb)
 ·rw [he]
  show (false || _)=false
  rw [vT];exact hpl
 ·have hx:=ha cpos pins s1 σ H1 _ I h
  rw [he] at hx ⊢
  refine uf (fF hx fun us s2 ⟨vs,H2,I2,r2,z,qE⟩=>?_)
  have kb:∀ b o,base.get? b=some o->s2.heap.get? b=some o:=I2.bk
  exact ⟨rfl,by show us.length<=sizeLine;rw [<- r2.length];exact z,kb _ _ hC,hN.keeps kb,T.keeps kb,fun h' ea hm=>Es I2 hm qE⟩
end
structure Et (base:br) (C:ai) (bm:List ae):Prop where
 obj:∃ nm q N bs hdct sn sub ab col dd k0 k1 k2 k3 k5 newId,base.get? C=some (fY nm q C N bs bm hdct sn sub ab col dd k0 k1 k2 k3 k5 newId)
 exc:bm.contains (.type "BaseException")=true
theorem At {M:zC}{A:aW}{E:ae->ah->Prop}{s:ah}{base:br}{ea C Cp:ai}{bm bp:List ae}{oe:Obj}{Q:Bool->ah->Prop} (kb:∀ b o,base.get? b=some o->s.heap.get? b=some o) (x:Et base C bm) (y:Et base Cp bp)
  (hm:bm.contains (.ref Cp)=true) (he:s.heap.get? ea=some oe) (hcls:oe.cls=.ref C) (h:Q true s):av M A (excMatches (.ref ea) (.ref Cp)) Q E s:=by
 obtain ⟨⟨nm,q,Nn,bs,hdct,sn,sub,ab,col,dd,k0,k1,k2,k3,k5,newId,o1⟩,x2⟩:=x
 obtain ⟨⟨nm',q',Nn',bs',hdct',sn',sub',ab',col',dd',k0',k1',k2',k3',k5',newId',o2⟩,y2⟩:=y
 have hC:=kb _ _ o1
 have hP:=kb _ _ o2
 have c1:(c6 C::bm).contains (.ref Cp)=true:=by rw [fU,hm,yz]
 have c2:(c6 Cp::bp).contains (.type "BaseException")=true:=by rw [fU,y2,yz]
 have f:=tc_notTuple
 obtain ⟨hp,g,d,tk,os⟩:=s
 unfold excMatches
 repeat (first
  | (with_reducible refine e8 he ?_;rw [hcls])
  | with_reducible refine e8 hP ?_
  | (with_reducible refine k9 hC ?_;rw [c1])
  | (with_reducible refine k9 hP ?_;rw [c2])
  | wp_step)
 exact h
def Au (ea C:ai):HO:=.ext fun h=>∃ o,h.get? ea=some o/\o.cls=.ref C
theorem Ss {P:aH}{w:b9}{H:Hp}{h:br}{ea C:ai}{o:Obj} (e:h.get? ea=some o) (c:o.cls=.ref C):eB P w H h ea (Au ea C) :=
 ⟨⟨o,e,c⟩,⟨o,e⟩,fun h1 h2 ⟨o,e,c⟩ k=>⟨o,k o e,c⟩⟩
def X4 (X:Cx) (ea:ai):Cx:={ X with A:=X.A.mark (some (.ref ea)),calm:=false,xe:=fun _ _=>False }
theorem bI.inH {X:Cx}{pins:List (ai×Obj)}{σ:St}{H:Hp}{s:ah} (I:bI X pins σ H s) (ea:ai):bI (X4 X ea) pins σ H s :=
 ⟨⟨I.ok.mod,I.ok.kind,I.ok.glob,I.ok.blt,I.ok.above,I.ok.inj,I.ok.has,I.ok.cab,(fun z=>l_ z),I.ok.frames,I.ok.stk,I.ok.exf,I.ok.bs,I.ok.bsz,I.ok.noex,I.ok.exfs,I.ok.funs,I.ok.frf⟩,I.os,I.bare,I.base,I.loc,I.cell,I.free,I.freeC,I.pin,I.hok,I.len⟩
theorem bI.outH {X:Cx}{pins:List (ai×Obj)}{σ:St}{H:Hp}{s:ah}{ea:ai} (ok:X.Ok) (I:bI (X4 X ea) pins σ H s):bI X pins σ H s :=
 ⟨ok,I.os,I.bare,I.base,I.loc,I.cell,I.free,I.freeC,I.pin,I.hok,I.len⟩
def Av (X:Cx):St:=bt X.N.length none
theorem bI.forget {X:Cx}{pins:List (ai×Obj)}{σ:St}{H:Hp}{s:ah}{h':br}{t':Nat}{m':Str->Option ae} (I:bI X pins σ H s) (hn:h'.Ns X.env.locals m') (sb:cF X.env.locals s.heap h'):bI X pins (Av X) H { s with heap:=h',toks:=t' }:=by
 have ne0:∀ b o,X.s₀.heap.get? b=some o->b≠X.env.locals:=fun b o e=>aO (aF (ax e) I.ok.above)
 refine ⟨I.ok,I.os,I.bare,⟨fun b o e n hb hx=>(sb.2 b (ne0 b o e)).trans (I.base.keep b o e n hb hx),fun b o e n hb hx=>?_,I.base.free,fun b o e hx=>?_,I.base.tups,I.base.frzs,I.base.tbls⟩,⟨m',hn,fun i x v h1 h2 h3=>?_⟩,fun x c e=>?_,I.free,I.freeC,fun p hp=>?_,Am I.hok I.free sb,by simp [Av]⟩
 ·obtain ⟨sl,k⟩:=I.base.slot b o e n hb hx
  exact ⟨sl,(sb.2 b (ne0 b o e)).trans k⟩
 ·obtain ⟨o',k⟩:=I.base.there b o e hx
  exact ⟨o',(sb.2 b (ne0 b o e)).trans k⟩
 ·have h2:(Av X)[i]?=some (some v):=h2
  unfold Av at h2
  rw [bR] at h2
  split at h2<;>cases h2
 ·obtain ⟨v,z⟩:=I.cell x c e
  exact ⟨v,z.sameBut sb (I.cne x c e)⟩
 ·obtain ⟨e,n,ne,nf,d⟩:=I.pin p hp
  exact ⟨(sb.2 p.1 ne).trans e,n,ne,nf,d⟩
def Uv (X:Cx) (Cp:ai) (i:Nat) (ts:TS) (D:ui):XK:=fun c _ H'=>∃ C bm,c=.ref C/\Et X.base C bm/\bm.contains (.ref Cp)=true /\
 ∀ ea,H' ea=none->ts { nx:=fun _ H=>D.nx (Av X) H,rt:=D.rt } ((Av X).set i (some (.ref ea))) (upd H' ea (Au ea C))
def ZX (X:Cx) (Cp:ai) (i:Nat) (tb:XK->TS) (ts:TS):TS:=fun D σ H=>tb (Uv X Cp i ts D) D σ H
theorem OM {X:Cx}{A:aW}{E:ae->ah->Prop}{pins:List (ai×Obj)}{s:ah}{σ:St}{H:Hp}{x:Str}{u:ae}{pos:Pos}{Q:ae->ah->Prop} (I:bI X pins σ H s) (hg:Gl X x) (hm:X.mg x=some u) (h:Q u s)
  (hd:(x == ("__debug__" : Str))=false:=by decide):av (aG X.prog X.w) A (cG (.Name x pos) X.env) Q E s :=
 nU I.ok.kind hg (FM (by rw [I.ok.glob];exact I.mod.glob.keeps I.bk) hm h) hd
def VU (X:Cx) (xe:ae->ah->Prop) (pn:List (ai×Obj)):Cx:={ X with xe:=xe,pn:=pn }
theorem bI.inT {X:Cx}{pins:List (ai×Obj)}{σ:St}{H:Hp}{s:ah} (I:bI X pins σ H s) (xe:ae->ah->Prop):bI (VU X xe (X.pn++pins)) [] σ H s :=
 ⟨⟨I.ok.mod,I.ok.kind,I.ok.glob,I.ok.blt,I.ok.above,I.ok.inj,I.ok.has,I.ok.cab,I.ok.hd,I.ok.frames,I.ok.stk,I.ok.exf,I.ok.bs,I.ok.bsz,I.ok.noex,I.ok.exfs,I.ok.funs,I.ok.frf⟩,I.os,I.bare,I.base,I.loc,I.cell,I.free,I.freeC,
  fun p hp=>I.pin p ((List.mem_append.mp hp).elim id fun z=>absurd z (by simp)),I.hok,I.len⟩
theorem bI.outT {X:Cx}{pins pins':List (ai×Obj)}{σ:St}{H:Hp}{s:ah}{xe:ae->ah->Prop} (ok:X.Ok) (I:bI (VU X xe (X.pn++pins)) pins' σ H s):bI X pins σ H s :=
 ⟨ok,I.os,I.bare,I.base,I.loc,I.cell,I.free,I.freeC,fun p hp=>I.pin p (gJ _ hp),I.hok,I.len⟩
theorem bI.track0 {X:Cx}{pins:List (ai×Obj)}{σ:St}{H:Hp}{s:ah}{D:ai}{ho:HO} (I:bI X pins σ H s) (h0:X.s₀.heap.get? D=none) (f0:H D=none) (f1:D≠X.env.locals) (f4:∀ x c,X.env.cells.lookup x=some c->c≠D) (f5:∀ p∈X.pn++pins,p.1≠D)
  (new:eB X.prog X.w (upd H D ho) s.heap D ho):bI X pins σ (upd H D ho) s :=
 ⟨I.ok,I.os,I.bare,⟨I.base.keep,I.base.slot,fun b o e n hx=>by rw [a_ (fun z=>by rw [z,h0] at e;cases e)];exact I.base.free b o e n hx,I.base.there,fun b xs e=>by have q:=I.base.tups b xs e;rw [a_ (bc q f0)];exact q,
  fun b o xs e=>by have q:=I.base.frzs b o xs e;rw [a_ (bc q f0)];exact q,fun b ps e=>by obtain ⟨m,q⟩:=I.base.tbls b ps e;exact ⟨m,by rw [a_ (bc q f0)];exact q⟩⟩,I.loc,I.cell,
  by rw [a_ (fM f1)];exact I.free,fun x c e=>by rw [a_ (f4 x c e)];exact I.freeC x c e,fun p hp=>by
  obtain ⟨e,n,r⟩:=I.pin p hp
  exact ⟨e,by rw [a_ (f5 p hp)];exact n,r⟩,tM I.hok f0 new,I.len⟩
theorem VV {X:Cx}{body suite:List bH}{b0:bH}{x n:Str}{np hpos pos:Pos}{Cp:ai}{bp:List ae}{i:Nat}{tb:XK->TS}{ts:TS} (hg:Gl X x) (hm:X.mg x=some (.ref Cp)) (y:Et X.base Cp bp)
  (hN:X.N.Nodup) (hi:X.N[i]?=some n) (hn:X.env.scope.names.lookup n=some .local) (hst:∃ l,X.stack=X.env::l/\X.env.frame=some X.env.locals) (hex:X.ex=[])
  (hb:∀ (E:XK) (xe:ae->ah->Prop) (pn:List (ai×Obj)),kd (kg X.prog X.w) (VU X xe pn) E->FT (VU X xe pn) body (tb E)) (hs:∀ ea,FT (X4 X ea) (b0::suite) ts) (hdb:(x == ("__debug__" : Str))=false:=by decide) :
  PS X (.Try body [.ExceptHandler (some (.Name x np)) (some n) (b0::suite) hpos] [] [] pos) (ZX X Cp i tb ts):=by
 intro pins s σ H D I h
 obtain ⟨l,hl,hfr⟩:=hst
 have ok:=I.ok
 refine wpAny_Try_except ?_
 let xe:ae->ah->Prop:=fun e s₁=>av (aG X.prog X.w) X.A (E4 e X.env) (fun _ s₂=>av (aG X.prog X.w) X.A (setFlight e none) (fun _ s₃ =>
  av (aG X.prog X.w) X.A (handleBy e X.env [.ExceptHandler (some (.Name x np)) (some n) (b0::suite) hpos]) (SP X pins D) X.xe s₃) X.xe s₂) X.xe s₁
 have hp:kd (kg X.prog X.w) (VU X xe (X.pn++pins)) (Uv X Cp i ts D):=by
  intro pins' σ' H1 s1 e s' I' hx
  have I1:bI X pins σ' H1 s1:=I'.outT ok
  obtain ⟨ea,C,t,H',B,rfl,os,bare,air,C',bm,hCe,ox,hcp,hts⟩:=hx
  cases hCe
  have air:Uu X.prog X.w X.stack H1 H' s1.heap s'.heap B ea C t:=air
  have land:∀ h2,Uu X.prog X.w X.stack H1 H' s1.heap h2 B ea C t->bI X pins σ' H' { s' with heap:=h2 }:=fun h2 a =>
   I1.call' (s':={ s' with heap:=h2 }) (ch:=[]) os a.un a.hok bare (fun b z=>absurd z (by simp))
  have fly:=air.fly
  rw [hl] at fly
  show av _ X.A (E4 (.ref ea) X.env) _ _ s'
  refine wpAny_looks_onW (base:=B) (outer:=l) (L:=X.env.locals) (by rw [ok.frames,hl]) hfr fly fun h2 hd2 up2=>?_
  refine wpAny_landsW hd2 fun h3 fl3 up3=>?_
  have up3':=up2.trans up3
  have a3:=air.on (by rw [hl];exact fl3) up3'
  have I3:=land h3 a3
  obtain ⟨oe,he,hcl⟩:=fl3.there
  refine wpAny_handleBy_cons (codeAny_handlers_test (OM I3 hg hm ?_ hdb)) (by intro q;cases q)
  refine At (base:=X.base) (s:={ s' with heap:=h3 }) I3.bk ox y hcp he hcl (codeAny_handlers_suite_as ?_)
  refine lands_againW (s:={ s' with heap:=h3 }) fl3 fun h4 fl4 up4=>?_
  have a4:=air.on (by rw [hl];exact fl4) (up3'.trans up4)
  have I4:=land h4 a4
  obtain ⟨oe4,ws,he4,hcl4,hd4,_⟩:=fl4.first
  have nB:B.get? ea=none:=fl4.2.1
  have nfr:ea∉pI X.stack:=fun z=>by
   obtain ⟨_,o',k1,k2⟩:=dI fl4.2.2.1 (by rw [<- hl];exact z)
   rw [he4] at k1;cases k1
   exact k2 _ hd4
  have n1:s1.heap.get? ea=none:=by
   cases q:s1.heap.get? ea with
   | none=>rfl
   | some o =>
    obtain ⟨o',k⟩:=air.all ea o q nfr
    rw [nB] at k;cases k
  have nH:H' ea=none:=by
   cases q:H' ea with
   | none=>rfl
   | some u =>
    obtain ⟨o',k⟩:=air.cov ea u q
    rw [nB] at k;cases k
  have nloc:ea≠X.env.locals:=fun z=>by
   obtain ⟨m,⟨o,_,_,k,_⟩,_⟩:=I1.loc
   rw [<- z,n1] at k;cases k
  have ncell:∀ x c,X.env.cells.lookup x=some c->c≠ea:=fun x c e z=>by
   obtain ⟨v,o,k,_⟩:=I1.cell x c e
   rw [z,n1] at k;cases k
  have npin:∀ p∈X.pn++pins,p.1≠ea:=fun p hp z=>by
   have k:=(I1.pin p hp).1
   rw [z,n1] at k;cases k
  have n0:X.s₀.heap.get? ea=none:=by
   cases q:X.s₀.heap.get? ea with
   | none=>rfl
   | some o =>
    by_cases hx:ea∈X.ex
    ·rw [hex] at hx;cases hx
    ·obtain ⟨o',k⟩:=I1.base.there ea o q hx
     rw [n1] at k;cases k
  have I5:=(I4.weak (σ':=Av X) (by rw [I4.len];simp [Av]) (fun j v z=>by
   unfold Av at z
   rw [bR] at z
   split at z<;>cases z)).track0 (ho:=Au ea C) n0 nH nloc ncell npin (Ss he4 hcl4)
  refine Ae I5 hN hi (.inl hn) (v:=.ref ea) rfl (fun s6 I6=>?_) (.inr hn)
  refine bh (hs ea pins s6 _ _ _ (I6.inH ea) (hts ea nH)) (fun f s7 q7=>?_) fun _ _ z=>z.elim
  have fin:∀ {σ7:St}{H7:Hp}{Q':St->Hp->Prop},bI (X4 X ea) pins σ7 H7 s7->(∀ s8,bI X pins (Av X) H7 s8->SP X pins D f s8)->av (aG X.prog X.w) X.A (do bindName X.env n .none;unbindBehindTheSuite X.env n hpos) (fun _ s8=>SP X pins D f s8) X.xe s7:=fun {σ7 H7 Q'} J k=>by
   have J:=J.outH ok
   obtain ⟨m,hm7,_⟩:=J.loc
   exact wpAny_nameGoes hn hm7 (by rw [ok.kind];rfl) fun h8 m8 hn8 sb8=>k _ (J.forget hn8 sb8)
  cases f with
  | next=>obtain ⟨σ7,H7,J,q⟩:=q7;exact fin (Q':=fun _ _=>True) J fun s8 I8=>⟨_,_,I8,q⟩
  | brk=>obtain ⟨σ7,H7,J,q⟩:=q7;exact q.elim
  | cont=>obtain ⟨σ7,H7,J,q⟩:=q7;exact q.elim
  | ret v=>obtain ⟨z,σ7,H7,J,r,q⟩:=q7;exact fin (Q':=fun _ _=>True) J fun s8 I8=>⟨z,_,_,I8,r,q⟩
 refine bh (hb _ xe (X.pn++pins) hp [] s σ H D (I.inT xe) h) (fun f s1 q=>?_) fun e s1 q=>q
 have q:SP X pins D f s1:=by
  cases f with
  | next=>obtain ⟨σ',H',J,q⟩:=q;exact ⟨σ',H',J.outT ok,q⟩
  | brk=>obtain ⟨σ',H',J,q⟩:=q;exact ⟨σ',H',J.outT ok,q⟩
  | cont=>obtain ⟨σ',H',J,q⟩:=q;exact ⟨σ',H',J.outT ok,q⟩
  | ret v=>obtain ⟨z,σ',H',J,r,q⟩:=q;exact ⟨z,σ',H',J.outT ok,r,q⟩
 cases f with
 | next=>exact oF q
 | brk=>exact q
 | cont=>exact q
 | ret v=>exact q
end
section
structure ON (K:a9) (C:ai):Prop where
 ga:gT K (.ref C) "__getattribute__"=some (some (.builtin "BaseException.__getattribute__"))
 gn:gT K (.ref C) "__getattr__"=some none
 ca:gT K (.ref C) "__class__"=some (some (.builtin "object.__class__"))
 gg:vQ K (.builtin "object.__class__") "__get__"=some (some (.builtin "getset_descriptor.__get__"))
 tk:yX K (.builtin "object.__class__")=some true
 mo:cu K C (.type "object")=some true
 be:cu K C (.type "BaseException")=some true
 cl:(gD K C).isSome=true
def Du (x C:ai) (h:br):Prop:=∃ o,h.get? x=some o/\o.cls=.ref C
theorem Du.type {M:zC}{x C:ai}{h:br} (p:Du x C h):Rr M h (typeOf (.ref x)) (.ref C):=by
 obtain ⟨o,e,c⟩:=p
 exact c ▸ (PySem.W.Looks.ld e).andThen .now
section
variable {prog:aH}{w:b9}{A:aW}{E:ae->ah->Prop}{s:ah}{K:a9}{x C:ai}{R:uO->ah->Prop}
open PySem.W Builtin Builtin.ObjectAttr Builtin.Getset_descriptor in
theorem Su {tp:ae} (Z:ON K C) (X:K.In s.heap) (p:Du x C s.heap) (q:R (.ok (.ret (.ref C))) s):iS (aG prog w) A (.call (.builtin "getset_descriptor.__get__") ⟨[.builtin "object.__class__",.ref x,tp],[]⟩) R s:=by
 obtain ⟨hp,gs,dr,tt,os⟩:=s
 have T0:=p.type (M:=aG prog w)
 have T1:=looks_mroIn (M:=aG prog w) X Z.mo
 refine nW KF.slot_gs.plain KF.entry_gs ?_
 refine KF.slot_gs.check _ _ _ _ _ _ _ _ KF.type_class (KF.args_gs _ _ _) ?_
 unfold ir.«getset_descriptor.__get__» descrGet
 rw [dga_obj]
 refine aa (aj ?_)
 unfold descrGetter descrCheckInstance descrNameAndClass uR
 simp only [KF.owner_class]
 repeat lk
 refine ⟨nX _ (by decide +kernel),j5 KF.entry_class ?_⟩
 unfold ir.«object.__class__» shownTypeOf
 repeat lk
 exact q
theorem Mr {Q:Option ae->ah->Prop} (Z:ON K C) (X:K.In s.heap) (p:Du x C s.heap) (h:Q (some (.ref C)) { s with toks:=s.toks + 1 }):av (aG prog w) A (getAttr? (.ref x) "__class__") Q E s:=by
 obtain ⟨hh,g,d,t,os⟩:=s
 have L0:=p.type (M:=aG prog w)
 have L1:=sg (M:=aG prog w) X Z.ga
 have L2:=sg (M:=aG prog w) X Z.gn
 have F1:=sg (M:=aG prog w) X Z.ca
 have F2:=PySem.W.looks_specialIn (M:=aG prog w) X Z.gg
 have F3:=PySem.W.looks_takesIn (M:=aG prog w) X Z.tk
 have L4:=PySem.W.looks_mroIn (M:=aG prog w) X Z.be
 unfold getAttr? getAttrBy? getAttrBy
 refine aa (wpAny_mkText (aa (nQ (dH (aa (L0.at (aa (L1.at ?_))))))))
 show av _ _ (getAttrByItsOwn (.ref x) (.str "__class__" t) (.ref C) (.builtin "BaseException.__getattribute__") false false) _ _ _
 unfold getAttrByItsOwn
 show av _ _ (iT (.ref C) "__getattr__" >>= _) _ _ _
 refine aa (L2.at (aa (nQ (dH ?_))))
 show av _ _ (boundAndCalled (.builtin "BaseException.__getattribute__") (.ref x) (.str "__class__" t)) _ _ _
 unfold boundAndCalled
 refine aa (xw (F.excAttr_ValueError.ga.bind (.ref x)) ?_)
 show av _ _ (call (.builtin "BaseException.__getattribute__") [.ref x,.str "__class__" t]) _ _ _
 refine qD (nW F.excAttr_ValueError.ga.plain F.entry_bexc_ga ?_)
 have hk:builtinKind "BaseException.__getattribute__"=some .slot:=by decide +kernel
 have hsp:splitId "BaseException.__getattribute__"=some ("BaseException","__getattribute__"):=by decide +kernel
 have hao:=F.args_bexc_ga (.ref x) (.str "__class__" t)
 simp only [ug,hk,hsp]
 have LI:Rr (aG prog w) hh (uR (.ref x) (.type "BaseException")) true:=L0.andThen L4
 refine aa (LI.at ?_)
 rw [if_neg (by decide)]
 refine xw (a:=()) (by unfold NO at hao;exact hao) ?_
 unfold ir.«object.__getattribute__»
 refine aa (m:=slotArgs "__getattribute__" 1 _) (aj ?_)
 refine aa (m:=Rs _) (aj ?_)
 refine aa (L0.at (aa ?_))
 unfold Rt
 refine aa (F1.at (aa (F2.at (aa ?_))))
 refine aa (F3.at ?_)
 refine aj (aa (jF (aj ?_)))
 show av _ _ (holding [.builtin "object.__class__"] (call (.builtin "getset_descriptor.__get__") [.builtin "object.__class__",.ref x,.ref C]) >>= fun v=>ret v) _ _ _
 refine aa (dH (qD (Su (s:=⟨hh,g,d,t + 1,os⟩) Z X p ?_)))
 exact aj (PySem.W.handed_on rfl (aj h))
theorem OO (Z:ON K C):PySem.W.KitX K (.ref x) (.ref C) (Du x C) where
 ty:=fun _ _ _ p=>p.type
 it:=fun M h X _=>by
  obtain ⟨cd,hc⟩:=Option.isSome_iff_exists.mp Z.cl
  unfold gD at hc
  split at hc
  ·rename_i c' d' cd' sl' ho
   intro A' Q' E' s' k q
   unfold isType loadHead
   exact aa (wpAny_loadPart (k _ _ (X _ _ ho)) (aj q))
  ·cases hc
 ne:=fun h tp dd its n sl X htp=>by
  refine Bool.eq_false_iff.mpr fun q=>?_
  obtain rfl:C=tp:=Value.ref.inj (beq_iff_eq.mp q)
  obtain ⟨cd,hc⟩:=Option.isSome_iff_exists.mp Z.cl
  unfold gD at hc
  split at hc
  ·rename_i c' d' cd' sl' ho
   have z:=(X _ _ ho).symm.trans htp
   cases z
  ·cases hc
 ca:=fun X p k=>Mr Z X p k
end
section
variable {X:Cx}
theorem yG:kc X (.builtin "isinstance") (fun xs H Q=>∃ x c cv b,xs=[x,c]/\((∃ n,c=.ty n/\cv=.type n)\/∃ C',c=.ref C'/\cv=.ref C')/\((∃ t,xE X.K H x t/\dO X.K t cv=some b) \/
  ∃ ea C,x=.ref ea/\H ea=some (Au ea C)/\ON X.K C/\dO X.K (.ref C) cv=some b)/\Q (.bl b) H):=by
 intro pins s σ H xs us Q I r h
 obtain ⟨x,c,cv,b,rfl,rc,h,q⟩:=h
 obtain ⟨u,v,rfl,ru,rv⟩:=Oe r
 obtain rfl:v=cv:=by
  rcases rc with ⟨n,rfl,rfl⟩ | ⟨C',rfl,rfl⟩
  ·exact rv
  ·exact rv
 rcases h with ⟨t,ty,e⟩ | ⟨ea,C,rfl,hH,Z,e⟩
 ·exact pP I ru ty e fun tk=>⟨.bl b,H,I.tok tk,rfl,q⟩
 ·cases ru
  have p:Du ea C s.heap:=(show eB X.prog X.w H s.heap ea (Au ea C) from I.hok ea _ hH).1
  exact cD (OO Z) I.kIn p e (fun z=>nomatch z) fun tk=>⟨.bl b,H,I.tok tk,rfl,q⟩
end
end
section
structure m_ (k:Nat) (A:aW):Prop where
 dp:A.depth + 3 * k + 5<jE
 un:A.units + 16 * k + 200<ue
theorem jH.h {k:Nat}{A:aW} (r:jH k A):m_ k A:=⟨r.dp,r.un⟩
theorem m_.mark {k:Nat}{A:aW} (r:m_ k A) (v:Option ae):m_ k (A.mark v):=⟨r.dp,r.un⟩
theorem m_.deeper {k:Nat}{A:aW} (r:m_ (k + 1) A) (env:Env):m_ k (A.deeper env):=⟨by have:=r.dp;show A.depth + 1 + 3 * k + 5<_;omega,by have:=r.un;show A.units + 3 + 16 * k + 200<_;omega⟩
structure Gn (P:aH) (w:b9) (K:a9) (mg:Str->Option ae) (base:br) (k:Nat) (f:ai) (fd:dE) (ps:List Str) (sp:Sp):Prop where
 len:∀ vs H Q E,sp vs H Q E->vs.length=ps.length
 run:∀ (A:aW) (outer:List Env) (s:ah) (H:Hp) (args:Args) (us:List ae) (vs:List V) (Q:VK) (E:XK),m_ k A->IP P w K mg base A outer s H->yv s fd args (ps.zip us)->du vs us->sp vs H Q E ->
  iS (aG P w) A (.call (.ref f) args) (CR CX0 outer P w H s Q E) s
def XE (P:aH) (w:b9) (K:a9) (mg:Str->Option ae) (base:br) (N:List Str) (qual:Str) (scope:eD) (f:ai) (cd:ae) (A:aW) (outer:List Env) (s:ah) (H:Hp):Cx where
 prog:=P
 w:=w
 K:=K
 mg:=mg
 base:=base
 A:=A.deeper (j_ qual scope s.heap.objs.size f cd)
 N:=N
 s₀:=s
 H₀:=H
 env:=j_ qual scope s.heap.objs.size f cd
 outer:=outer
 stack:=j_ qual scope s.heap.objs.size f cd::outer
 ex:=[]
 calm:=false
 fn:=fun _=>true
 pn:=[]
 xe:=fun _ _=>False
section
variable {P:aH}{w:b9}{K:a9}{mg:Str->Option ae}{base:br}
theorem J2 {N ps:List Str}{qual:Str}{scope:eD}{f:ai}{cd:ae}{A:aW}{outer:List Env}{s s1:ah}{H:Hp}{us:List ae}{vs:List V}
  (S:aK N ps scope) (e0:IP P w K mg base A outer s H) (hl:vs.length=ps.length) (r:du vs us)
  (x:InCallC s s.heap.objs.size (Is (j_ qual scope s.heap.objs.size f cd).kindOf (ps.zip us) fun _=>none) (bn (s.heap.objs.size + 1) scope.names []) (Iu (j_ qual scope s.heap.objs.size f cd).kindOf (ps.zip us) fun _=>none) s1) :
  bI (XE P w K mg base N qual scope f cd A outer s H) [] (start N vs) H s1:=by
 have e1:IP P w K mg base { A with handled:=none } outer s H:=⟨e0.frames,e0.mod,e0.bs,e0.bsz,e0.funs,e0.frf,e0.hok,e0.bare⟩
 have I:=Dk (CX:=CX0) (E:=E0) S (A:={ A with handled:=none }) rfl e1 hl r x
 exact ⟨⟨I.ok.mod,I.ok.kind,I.ok.glob,I.ok.blt,I.ok.above,I.ok.inj,I.ok.has,I.ok.cab,(fun z=>l_ z),I.ok.frames,I.ok.stk,I.ok.exf,I.ok.bs,I.ok.bsz,I.ok.noex,I.ok.exfs,I.ok.funs,I.ok.frf⟩,I.os,I.bare,I.base,I.loc,I.cell,I.free,I.freeC,I.pin,I.hok,I.len⟩
theorem VW {k:Nat}{f:ai}{name qual:Str}{params:Arguments}{body:List bH}{scope:eD}{dV kV doc pm cdv ct oc:ae}{an od:Option ai}
  {osl:Array (Option ae)}{N ps:List Str}{sp:Sp} (lk:K.lookup f=some ⟨oc,od,.func (eR name qual params body scope dV kV doc pm an cdv ct),osl⟩) (hcd:k7 K cdv qual=true) (S:aK N ps scope)
  (len:∀ vs H Q E,sp vs H Q E->vs.length=ps.length)
  (hbody:∀ (A:aW) (outer:List Env) (s:ah) (H:Hp) (vs:List V) (Q:VK) (E:XK),m_ k (A.deeper (j_ qual scope s.heap.objs.size f cdv))->sp vs H Q E ->
   ∃ t,FT (XE P w K mg base N qual scope f cdv A outer s H) body t/\t { nx:=fun _ H'=>Q .non H',rt:=Q } (start N vs) H) :
  Gn P w K mg base (k + 1) f (eR name qual params body scope dV kV doc pm an cdv ct) ps sp:=by
 refine ⟨len,fun A outer s H args us vs Q E hr e0 hb r hsp=>?_⟩
 have hl:=len _ _ _ _ hsp
 have KX:K.In s.heap:=e0.mod.kin.keeps fun b o e=>(e0.bs b o e).1
 have lim:s.heap.NoLimit:=e0.mod.nolimit.keeps fun b o e=>(e0.bs b o e).1
 have hkind:∀ y∈ps.zip us,scope.names.lookup y.1=some .local\/(scope.names.lookup y.1=some .cell/\((bn (s.heap.objs.size + 1) scope.names []).lookup y.1).isSome=true):=fun ⟨n,v⟩ hy=>by
  rcases S.par n (rZ hy).1 with q | q
  ·exact .inl q
  ·exact .inr ⟨q,fk _ _ _ (.inl q)⟩
 refine Rm (by have:=hr.dp;omega) (KX _ _ lk) rfl S.co S.gen rfl (uQ KX hcd) (hb _ _ _ _ ?_)
 refine Iv S.kind hkind fun env he s1 x=>?_
 subst he
 refine ⟨lim.keeps x.toInCall.keep,codeAny_func ?_⟩
 obtain ⟨t,ht,hq⟩:=hbody A outer s H vs Q E (hr.deeper _) hsp
 have I:bI (XE P w K mg base N qual scope f cdv A outer s H) [] (start N vs) H s1:=J2 S e0 hl r x
 refine bh (ht [] s1 (start N vs) H _ I hq) (fun fl s' hs=>?_) fun e s' hs=>(show False from hs).elim
 have fin:∀ {σ':St}{H':Hp}{v:V}{u:ae},bI (XE P w K mg base N qual scope f cdv A outer s H) [] σ' H' s'->dW v u->Q v H'->CE outer P w H s Q u s' :=
  fun {σ' H' v u} J rv q=>⟨v,H',J.os,J.bare,J.base,J.hok,rv,q⟩
 cases fl with
 | ret u =>
  obtain ⟨v,σ',H',J,rv,q⟩:=hs
  exact fin J rv q
 | next =>
  obtain ⟨σ',H',J,q⟩:=hs
  exact fin (v:=V.non) (u:=ef) J rfl q
 | brk =>
  obtain ⟨_,_,_,q⟩:=hs
  exact eQ q
 | cont =>
  obtain ⟨_,_,_,q⟩:=hs
  exact eQ q
theorem Io.okH {x qual:Str}{st:bH}{f:ai}{fd:dE}{N ps:List Str}{k:Nat}{sp:Sp} (F:Io K x qual st f fd) (S:aK N ps (ar st)) (len:∀ vs H Q E,sp vs H Q E->vs.length=ps.length)
  (hbody:∀ (cdv:ae) (A:aW) (outer:List Env) (s:ah) (H:Hp) (vs:List V) (Q:VK) (E:XK),m_ k (A.deeper (j_ qual (ar st) s.heap.objs.size f cdv))->sp vs H Q E ->
   ∃ t,FT (XE P w K mg base N qual (ar st) f cdv A outer s H) (i3 st) t/\t { nx:=fun _ H'=>Q .non H',rt:=Q } (start N vs) H):Gn P w K mg base (k + 1) f fd ps sp:=by
 obtain ⟨oc,od,kV,doc,pm,an,cdv,ct,osl,rfl,lk,hcd⟩:=F.ex
 exact VW lk hcd S len fun A outer s H vs Q E hr hsp=>hbody cdv A outer s H vs Q E hr hsp
end
section
variable {X:Cx}{k:Nat}{f:ai}{fd:dE}{ps:List Str}{sp:Sp}{x:Str}{p pos:Pos}{e:aR}{es:List aR}{t:TA}
theorem OP (F:Gn X.prog X.w X.K X.mg X.base k f fd ps sp) (hr:m_ k X.A) (hg:Gl X x) (hm:X.mg x=some (.ref f)) (hk:eE X.K (.ref f)=true) (hb:kQ X.K fd ps [])
  (ha:PA X (e::es) t) (hdb:(x == ("__debug__" : Str))=false:=by decide) (he:aw (e::es) X.env=(false,cG e X.env)::aw es X.env:=by rfl) (hpl:(dL pos (aw es X.env)).any (·.1)=false:=by rfl) :
  PE X (.Call (.Name x p) (e::es) [] pos) (KC sp [] E0 t):=by
 intro pins s σ H Q I h
 refine qF (vX I hg hm ?_ hdb)
 refine uP (h₀:=X.base) I.ok.mod.kin hk (fF (ha pos pins s σ H _ I h) fun us s1 ⟨vs,H1,I1,r,q⟩=>⟨I1.kIn,?_⟩) he hpl
 have q:sp (vs++[]) H1 Q E0:=q
 rw [c_] at q
 have hl:us.length=ps.length:=by rw [<- r.length];exact F.len _ _ _ _ q
 have hb':=hb s1 us I1.kIn (by rw [c_];exact hl)
 rw [c_] at hb'
 refine qD (pK (F.run X.A X.stack s1 H1 ⟨us,[]⟩ us vs Q E0 hr I1.env0 hb' r q) fun r s' hq=>?_)
 cases r with
 | error e=>exact (show False from hq).elim
 | ok fl =>
  cases fl with
  | ret u=>exact I1.after hq
  | next=>exact eQ hq
  | brk=>exact eQ hq
  | cont=>exact eQ hq
end
end
section
section
variable {X:Cx}
def ZY:sf->String
 | .none=>"NoneType" | .bool _=>"bool" | .int _=>"int" | .str _=>"str" | .list _=>"list" | .tuple _=>"tuple" | .dict _=>"dict"
theorem J4 {pins:List (ai×Obj)}{σ:St}{H:Hp}{s:ah}{A:aW}{E:ae->ah->Prop}{Q:ae->ah->Prop}{c:ae}{b:Bool}{x:V}{d:sf}{u:ae} (I:bI X pins σ H s) (rx:dW x u) (r:J1 X.K H x d) (e:dO X.K (.type (ZY d)) c=some b) (h:∀ tk,Q (.bool b) { s with toks:=tk }) :
  av (aG X.prog X.w) A (call (.builtin "isinstance") [u,c]) Q E s:=by
 cases r with
 | none=>exact pP I rx .non e h
 | bool y=>exact pP I rx (.bl y) e h
 | int i=>exact pP I rx (.int i) e h
 | str y=>exact pP I rx (.str y) e h
 | list hq _ =>
  cases rx
  obtain ⟨its,rv,⟨o,n,ho,c,_,dd⟩,_⟩:=I.list hq
  exact cD vR I.kIn ⟨o,ho,c⟩ e (fun z=>nomatch z) h
 | tuple hq _ =>
  cases rx
  obtain ⟨its,rv,⟨o,ho,c,n,dd⟩,_⟩:=I.tuple hq
  exact cD Ir I.kIn ⟨o,ho,c⟩ e (fun z=>nomatch z) h
theorem OQ:kc X (.builtin "isinstance") (fun xs H Q=>∃ x d T b,xs=[x,.ty T]/\J1 X.K H x d/\dO X.K (.type (ZY d)) (.type T)=some b/\Q (.bl b) H):=by
 intro pins s σ H xs us Q I r h
 obtain ⟨x,d,T,b,rfl,rp,e,q⟩:=h
 obtain ⟨u,v,rfl,ru,rv⟩:=Oe r
 obtain rfl:v=.type T:=rv
 exact J4 I ru rp e fun tk=>⟨.bl b,H,I.tok tk,rfl,q⟩
end
end
end L2
section
namespace HT
open PySem PyProof.Rows
section
variable {prog:aH}{w:b9}{A:aW}{E:ae->ah->Prop}{s:ah}
theorem Go {t sl:ai}{items:Array ae}{vl vu:ae}{lo hi:Option Int}{Q:ae->ah->Prop} (ht:Ry s.heap t items) (hs:s.heap.IsSliceOf sl vl vu .none) (pl:xq vl lo) (pu:xq vu hi)
  (hw:jh items.size 0 lo=0/\jh items.size items.size hi=items.size) (h:Q (.ref t) s):av (aG prog w) A (nO (.ref t) (.ref sl)) Q E s:=by
 obtain ⟨os,hos,hcs,hds⟩:=id hs
 have hTs:s.TypeIs (.ref sl) "slice":=⟨os,hos,hcs⟩
 unfold nO
 try with_reducible refine dH ?_
 first | refine aa (aj ?_) | skip
 refine aa (C9 ht.typeIs (by decide) ?_)
 refine aa (cP (name:=iA "__getitem__") ht.typeIs dg
  (cQ dg ht.typeIs yY ?_ (A4 _ _)))
 show av _ _ (lP (.ref t) >>= _) _ _ s
 refine aa (LU ht ?_)
 refine aa (m9 hTs ?_)
 rw [if_pos (by decide)]
 refine aa (pR hs pl pu ?_)
 have hyes:((((jh items.size 0 lo:Nat):Int) == 0 && (1:Int) == 1 && (jh items.size items.size hi - jh items.size 0 lo) == items.size)=true):=by
  rw [hw.1,hw.2];simp
 show av _ _ (if (((jh items.size 0 lo:Nat):Int) == 0 && (1:Int) == 1 && (jh items.size items.size hi - jh items.size 0 lo) == items.size)=true then _ else _) _ _ s
 rw [if_pos hyes]
 refine aa ?_
 unfold Builtin.Tuple.tupleIsExact
 refine aa (m9 ht.typeIs (aj ?_))
 rw [if_pos (by decide)]
 refine aa (jF ?_)
 first
  | exact aj (aj ⟨_,rfl,h⟩)
  | exact aj ⟨_,rfl,aj h⟩
  | exact aa (aj (aj ⟨_,rfl,aj h⟩))
  | exact aa (aj (aj ⟨_,rfl,h⟩))
end
end HT
namespace L2
open PySem PySem.Spec PyProof.Rows
section
variable {X:Cx}
inductive OR (K:a9) (x:V) (lo:Option Int) (hi:Option Int) (H:Hp) (Q:VK):Prop
 | mk (a xs:_) (h0:x=.ref a) (h1:m5 K H a xs) (h2:(HT.jh xs.length 0 lo=0/\HT.jh xs.length xs.length hi=xs.length)) (h3:Q (.ref a) H):OR K x lo hi H Q
def XF (K:a9):V->Option Int->Option Int->Hp->VK->Prop:=OR K
theorem Sv:Xr X (XF X.K):=by
 intro pins s σ H x v vl vu lo hi sl Q I rx hs pl pu h
 obtain ⟨a,xs,rfl,hx,hw,q⟩:=h
 cases rx
 obtain ⟨its,r,ht,hz⟩:=I.tuple hx
 have hlen:its.toArray.size=xs.length:=by rw [aI];exact r.length.symm
 exact ⟨"tuple",_,PyProof.Rows.slot_tuple_getitem.lookup,ht.typeIs,HT.Go ht hs pl pu (by rw [hlen];exact hw) ⟨.ref a,H,I,rfl,q⟩⟩
theorem jq {H:Hp}{p:ai}{o:HO} (h:H p=none):eg H (upd H p o):=fun b u e=>by rw [a_ (bc e h)];exact e
theorem uZ:∀ {bs:List Bool}{us:List ae},du (bs.map V.bl) us->us=bs.map j3
 | [],_,.nil=>rfl
 | b::r,_,.cons h t=>by cases h;rw [uZ t];rfl
theorem Aw {A:aW}{s:ah}{bs:List Bool}:∀ y,y∈(bs.map j3).toArray->LW A s y (.bool true) (xB true y):=fun y hy=>by
 have hy:y∈bs.map j3:=by simpa using hy
 obtain ⟨b,_,rfl⟩:=List.mem_map.mp hy
 exact D5 b true
def Sw (K:a9):V->List V->Hp->VK->Prop:=fun x vs H Q=>∃ l,∃ bs:List Bool,x=.ref l/\vs=[.bl true]/\pJ K H l (bs.map V.bl)/\Q (.int (bs.countP id:Nat)) H
theorem Ms:ZI X "list.count" (Sw X.K):=by
 intro pins s σ H x vs v us Q I rx rv h
 obtain ⟨l,bs,rfl,rfl,hq,q⟩:=h
 cases rx
 obtain ⟨u,rfl,ru⟩:=rv.one
 cases ru
 obtain ⟨its,r,⟨o,n,ho,c,hd,dt⟩,hz⟩:=I.list hq
 rw [uZ r] at dt
 obtain ⟨cls,dd,data,sl⟩:=o
 simp only at c dt
 subst c dt
 refine qH Db ⟨_,ho,rfl⟩ PySem.F.entry_list_count (PySem.F.args_list_count_2 _ _) (SeqAt.list_countAt l (bs.map j3).toArray n dd sl (.bool true) (xB true)) ⟨ho,fun y hy=>Aw y hy,?_⟩
 refine ⟨.int _,H,I.tok _,⟨_,rfl⟩,?_⟩
 have e:(bs.map j3).toArray.toList.countP (xB true)=bs.countP id:=by
  show (bs.map j3).countP (xB true)=_
  rw [List.countP_map]
  congr 1
  funext b
  cases b<;>rfl
 rw [e]
 exact q
def Sx (K:a9):V->List V->Hp->VK->Prop:=fun x vs H Q=>∃ l,∃ bs:List Bool,∃ j:Nat,x=.ref l/\vs=[.bl true]/\pJ K H l (bs.map V.bl)/\bs[j]?=some true/\(∀ m,m<j->bs[m]?=some false)/\j<=1000/\Q (.int (j:Nat)) H
theorem Mt:ZI X "list.index" (Sx X.K):=by
 intro pins s σ H x vs v us Q I rx rv h
 obtain ⟨l,bs,j,rfl,rfl,hq,hj,hno,hsm,q⟩:=h
 cases rx
 obtain ⟨u,rfl,ru⟩:=rv.one
 cases ru
 obtain ⟨its,r,⟨o,n,ho,c,hd,dt⟩,hz⟩:=I.list hq
 rw [uZ r] at dt
 obtain ⟨cls,dd,data,sl⟩:=o
 simp only at c dt
 subst c dt
 obtain ⟨hjl,hjv⟩:=List.getElem?_eq_some_iff.mp hj
 refine qH Dc ⟨_,ho,rfl⟩ PySem.F.entry_list_index (PySem.F.args_list_index_2 _ _) (SeqAt.list_indexAt l (bs.map j3).toArray n dd sl (.bool true) (xB true) j (by simpa using hjl) (by omega) ?_ ?_) ⟨ho,fun y hy=>Aw y hy,?_⟩
 ·simp [xB,hjv]
 ·intro m hm hlt
  have:=hno m hlt
  obtain ⟨_,hv⟩:=List.getElem?_eq_some_iff.mp this
  simp [xB,hv]
 ·exact ⟨.int _,H,I.tok _,⟨_,rfl⟩,q⟩
theorem Ax (hc:X.calm=true):kc X (.type "list") (fun xs H Q=>∃ a kvs,xs=[.ref a]/\H a=some (.dK kvs)/\∀ l,H l=none->Q (.ref l) (upd H l (.lst (kvs.map fun p=>kV p.1)))):=by
 intro pins s σ H xs us Q I r h
 obtain ⟨a,kvs,rfl,hH,q⟩:=h
 obtain ⟨u,rfl,rx⟩:=ms r
 cases rx
 obtain ⟨hz,hs,vs,rk,hd⟩:=(show eB X.prog X.w H s.heap a (.dK kvs) from I.hok a _ hH)
 obtain ⟨ep,hat⟩:∃ ep,s.heap.DictAt (iJ X.prog X.w) a vs ep:=by
  obtain ⟨o,es,ep,h1,h2,h3,h4⟩:=hd
  exact ⟨ep,o,es,h1,h2,h3,h4⟩
 have hlen:kvs.length=vs.length:=uM rk
 refine PySem.W.kdl_call (PySem.W.kdl_dict hs) (I.ok.hd hc) hat (by omega) fun h' tk acc' c' kp e hacc=>?_
 have rv:du (kvs.map fun p=>kV p.1) acc'.toList:=by
  have key:∀ {kvs:List (gy×V)}{vs:List (gy×ae)} (acc:List ae),KV kvs vs->acc.length=vs.length->(∀ (j:Nat) (v:ae),acc[j]?=some v->∃ k x,vs[j]?=some (k,x)/\Ac k v=true)->du (kvs.map fun p=>kV p.1) acc:=by
   intro kvs
   induction kvs with
   | nil=>intro vs acc rk hl _;cases rk;cases acc with
    | nil=>exact .nil
    | cons _ _=>simp at hl
   | cons p kvs ih =>
    intro vs acc rk hl hv
    cases rk with
    | cons h1 t1 =>
     cases acc with
     | nil=>simp at hl
     | cons v acc =>
      refine .cons ?_ (ih acc t1 (by simpa using hl) fun j v hj=>by simpa using hv (j + 1) v (by simpa using hj))
      obtain ⟨k,x,e1,e2⟩:=hv 0 v rfl
      simp only [FW,FR] at e1
      subst e1
      have hk:p.1=k:=h1.1
      rcases fv e2 with ⟨i,t,e,rfl⟩ | ⟨i,t,e,rfl⟩
      ·show dW (kV p.1) _;rw [hk,e];exact ⟨t,rfl⟩
      ·show dW (kV p.1) _;rw [hk,e];exact ⟨t,rfl⟩
  exact key acc'.toList rk (by rw [bv];exact hacc.1) fun j v hj=>hacc.2 j v (by rw [<- fR];exact hj)
 exact ⟨.ref s.heap.objs.size,_,I.laid (t':=tk) kp (az _) (show eB X.prog X.w _ h' _ (.lst _) from ⟨by simpa using hz,acc'.toList,c',rv,by rw [IB];exact e⟩),rfl,q _ (I.hok.fresh (az _))⟩
def Ay (x:Str):List V:=x.cps.toList.map fun c=>V.str ⟨#[c]⟩
theorem ze (hc:X.calm=true):kc X (.type "tuple") (fun xs H Q=>∃ x,xs=[.str x]/\x.cps.size<=sizeLine/\∀ l,H l=none->Q (.ref l) (upd H l (.tup (Ay x)))):=by
 intro pins s σ H xs us Q I r h
 obtain ⟨x,rfl,hz,q⟩:=h
 obtain ⟨u,rfl,rx⟩:=ms r
 obtain ⟨t,rfl⟩:=rx
 refine call_tuple_str (I.ok.hd hc) x t (fun h' tk acc kp hacc=>?_) hz
 have I1:bI X pins σ H { s with heap:=h',toks:=tk }:=I.kept (t':=tk) kp
 have rv:du (Ay x) acc.toList:=by
  have key:∀ (cs:List Nat) (acc:List ae),acc.length=cs.length->(∀ (j:Nat) (v:ae),acc[j]?=some v->∃ c u,cs[j]?=some c/\v=.str ⟨#[c]⟩ u)->du (cs.map fun c=>V.str ⟨#[c]⟩) acc:=by
   intro cs
   induction cs with
   | nil=>intro acc hl _;cases acc with
    | nil=>exact .nil
    | cons _ _=>simp at hl
   | cons c cs ih =>
    intro acc hl hv
    cases acc with
    | nil=>simp at hl
    | cons v acc =>
     obtain ⟨c',u,e1,rfl⟩:=hv 0 v rfl
     simp only [FW,FR] at e1
     subst e1
     exact .cons ⟨u,rfl⟩ (ih acc (by simpa using hl) fun j v hj=>by simpa using hv (j + 1) v (by simpa using hj))
  refine key x.cps.toList acc.toList (by rw [bv,bv];exact hacc.1) fun j v hj=>?_
  obtain ⟨c,u,e1,e2⟩:=hacc.2 j v (by rw [<- fR];exact hj)
  exact ⟨c,u,by rw [fR];exact e1,e2⟩
 have I2:bI X pins σ (upd H h'.objs.size (.tup (Ay x))) { s with heap:=h'.push { cls:=.type "tuple",data:=.seq acc },toks:=tk } :=
  I1.laid (t':=tk) (fun b o e=>ag _ e) (az _) (show eB X.prog X.w _ _ _ (.tup (Ay x)) from ⟨by unfold Ay;simpa using hz,acc.toList,rv,by rw [IB];exact yZ _ _⟩)
 exact ⟨.ref h'.objs.size,_,I2,rfl,q _ (I1.hok.fresh (az _))⟩
end
end L2
end
namespace L2
open PySem PySem.Spec PyProof.Rows
section
theorem Eu (elt target iter:aR) (ifs:List aR) (scope:eD) (pos:Pos) (it acc:ae) (env:Env) :
  compTurn (.SetComp elt [⟨target,iter,ifs,0⟩] scope pos) 0 it acc env=(do
   C7 iter.pos
   let r <- rY it
   match r with
   | none=>pure (.done .next)
   | some v =>
    hJ target it v
    rX target env v
    let mut ok:=true
    for c in ifs do
     if ok then ok <- DZ c env (cG c env)
    if ok then
     (do let v <- cG elt env;C7 elt.pos;let _ <- call (.builtin "set.add") [acc,v])
    again (.compLoop (.SetComp elt [⟨target,iter,ifs,0⟩] scope pos) 0 it acc env)):=by rfl
section
variable {prog:aH}{w:b9}{A:aW}{E:ae->ah->Prop}{R:uO->ah->Prop}{s:ah}
theorem rM {elt target iter ifs bP scope pos it acc env}
  (h0:iS (aG prog w) A (.compLoop (.SetComp elt (⟨target,iter,ifs,0⟩::bP) scope pos) 0 it acc env) R s)
  (h:av (aG prog w) A (E2 it) (fun it' s'=>iS (aG prog w) A (.compLoop (.SetComp elt (⟨target,iter,ifs,0⟩::bP) scope pos) 0 it' acc env) R s')
   (notedBy (aG prog w) A env fun x s'=>R (.error x) s') s) :
  iS (aG prog w) A (.compStart (.SetComp elt (⟨target,iter,ifs,0⟩::bP) scope pos) 0 it acc env) R s:=by
 refine vN ?_
 show av _ _ ((compStart (.SetComp elt (⟨target,iter,ifs,0⟩::bP) scope pos) 0 it acc env).onRaise (fun x=>do E4 x env;C7 theWindowsPlace)) _ _ s
 refine wpAny_notedAt ?_
 unfold compStart
 show av _ _ (ask >>= _) _ _ s
 refine aa (jX (wpAny_ite ?_))
 split
 ·first
   | exact aa (aj (aj (A8 rfl h0)))
   | exact aj (A8 rfl h0)
 ·first
   | exact aa (jF (aa (dG (aa (bh h (fun it' s' hq=>aj (A8 rfl hq)) fun _ _ x=>x)))))
   | (refine aa (jF ?_);show av _ _ (C7 iter.pos >>= _) _ _ s;exact aa (dG (aa (bh h (fun it' s' hq=>aj (A8 rfl hq)) fun _ _ x=>x))))
theorem Co {Q:ae->ah->Prop} (h:Q (.ref s.heap.objs.size) { s with heap:=s.heap.push (jC w) }):av (aG prog w) A (newSet (.type "set")) Q E s:=by
 unfold newSet setsByText
 refine aa (aa (jX (aj ?_)))
 dsimp only
 simp only [newObj]
 exact aa (RE (aj h))
theorem Cq {a:ai}{ss:List Str}{x:Str}{tk:Tok}{Q:ae->ah->Prop} (hS:oQ w s.heap a ss) (hr:ss.length + 1<jg)
  (h:∀ h' tk',cF a s.heap h'->oQ w h' a (if x∈ss then ss else ss++[x])->Q .none { s with heap:=h',toks:=tk' }) :
  av (aG prog w) A (call (.builtin "set.add") [.ref a,.str x tk]) Q E s:=by
 have hT:s.TypeIs (.ref a) "set":=by obtain ⟨es,ep,t,I,_⟩:=id hS;exact ⟨_,I.at_,rfl⟩
 refine cQ F.slot_set_add hT F.entry_set_add ?_ (F.args_set_add_2 _ _)
 unfold ir.«set.add» RO
 simp only [List.isEmpty_nil,bind_assoc]
 unfold RP
 refine aa (aj ?_)
 try dsimp only
 refine aa (aj ?_)
 try dsimp only
 refine aa ?_
 refine Gd hS hr fun h' tk' sb hS'=>?_
 exact aj ⟨_,rfl,h h' tk' sb hS'⟩
end
section
variable {prog:aH}{w:b9}{A:aW}{R:uO->ah->Prop}{s:ah}
theorem Gp {elt target iter:aR}{ifs:List aR}{scope:eD}{pos:Pos}{it acc:ae}{env:Env} (I:Nat->ah->Prop)
  (turn:∀ n s,I n s->av (aG prog w) A (rY it) (fun r s₁=>match r with
   | none=>R (.ok .next) s₁
   | some v=>av (aG prog w) A (hJ target it v) (fun _ s₁'=>av (aG prog w) A (rX target env v) (fun _ s₂ =>
     av (aG prog w) A (forIn ifs true fun c r=>if r=true then do let ok <- DZ c env (cG c env);pure (fP ok) else pure (fP r)) (fun ok s₃ =>
      if ok=true then av (aG prog w) A (cG elt env) (fun x s₄ =>
       av (aG prog w) A (call (.builtin "set.add") [acc,x]) (fun _ s₅=>∃ m,m<n/\I m s₅) (fun _ _=>False) s₄) (fun _ _=>False) s₃
      else ∃ m,m<n/\I m s₃) (fun _ _=>False) s₂) (fun _ _=>False) s₁') (fun _ _=>False) s₁) (fun _ _=>False) s)
  (n:Nat) (h:I n s) :
  iS (aG prog w) A (.compLoop (.SetComp elt [⟨target,iter,ifs,0⟩] scope pos) 0 it acc env) R s:=by
 refine codeAny_loop rfl I (fun n s hI=>?_) n h
 show av _ A ((compTurn (.SetComp elt [⟨target,iter,ifs,0⟩] scope pos) 0 it acc env).onRaise (fun x=>do E4 x env;theTreesLotGoes x)) _ _ s
 refine wpAny_noted ?_
 rw [Eu]
 have nf:∀ {α:Type}{t:Sem α}{Q:α->ah->Prop}{E':ae->ah->Prop}{s:ah},av (aG prog w) A t Q (fun _ _=>False) s->av (aG prog w) A t Q E' s :=
  fun h=>bh h (fun _ _ q=>q) fun _ _ f=>f.elim
 refine aa (dG (aa (nf (bh (turn n s hI) (fun r s₁ h₁=>?_) fun _ _ h'=>h'))))
 cases r with
 | none=>exact aj h₁
 | some v =>
  refine aa (nf (bh h₁ (fun _ s₁' h₁'=>?_) fun _ _ h'=>h'))
  refine aa (nf (bh h₁' (fun _ s₂ h₂=>aa (nf (bh h₂ (fun ok s₃ h₃=>?_) fun _ _ h'=>h'))) fun _ _ h'=>h'))
  cases ok with
  | false=>exact aj ⟨rfl,h₃⟩
  | true =>
   exact aa (aa (nf (bh h₃ (fun x s₄ h₄=>aa (dG (aa (nf (bh h₄ (fun _ s₅ h₅=>aj (aj ⟨rfl,h₅⟩)) fun _ _ h'=>h'))))) fun _ _ h'=>h')))
end
inductive SLI (X:Cx) (pins:List (ai×Obj)) (N':List Str) (scope:eD) (cl:List (Str×ai)) (C:ai) (s2:ah) (H2:Hp) (fp:List ai) (nt:Nat) (ix:List Nat) (σ:St) (tn:Nat->br->Prop) (W:Nat->Nat->List Str->Hp->Prop) (n:Nat) (s':ah):Prop
 | mk (i:Nat) (acc:List Str) (oD:Obj) (H':Hp) (I:bI (de X N' scope cl C s2 H2 fp (X.pn++pins)) [(s2.heap.objs.size,oD)] (jY nt ix σ) H' s') (S:oQ X.w s'.heap s2.heap.objs.size acc) (t:tn i s'.heap) (f:∀ b∈fp,H' b=none) (w:W i n acc H'):SLI X pins N' scope cl C s2 H2 fp nt ix σ tn W n s'
theorem Mu {X:Cx}{elt tg iter:aR}{ifs:List aR}{scope:eD}{pos:Pos}{g:TG}{tt:TT}{te:TE}{N':List Str}{nt:Nat}{ix:List Nat}
  (hc:X.calm=true) (S:oO X scope N' nt ix) (lo:Us nt g)
  (hb:∀ cl C s₀ H₀ ex pn,PG (de X N' scope cl C s₀ H₀ ex pn) tg g/\Rv (de X N' scope cl C s₀ H₀ ex pn) ifs tt/\PE (de X N' scope cl C s₀ H₀ ex pn) elt te)
  {cl:List (Str×ai)} (c1:∀ x c,cl.lookup x=some c->X.env.cells.lookup x=some c) (c2:∀ y∈scope.names,y.2=.free->∃ c,cl.lookup y.1=some c)
  {pins:List (ai×Obj)}{σ:St}{H2:Hp}{s2:ah}{it:ai}{fp:List ai}{tn:Nat->br->Prop}{J:It}{Q:VK}{E:ae->ah->Prop}
  (I2:bI X pins σ H2 s2) (T:Ch X.prog X.w X.K tg J fp it tn) (st2:tn 0 s2.heap) (f2:∀ b∈fp,sk X pins H2 b)
  {W:Nat->Nat->List Str->Hp->Prop} (w0:∃ m,W 0 m [] H2)
  (turn:∀ i m acc H,W i m acc H->(J.stop i H/\∀ p,H p=none->Q (.ref p) (upd H p (ul X.w p acc))) \/
   (J.go i H/\acc.length + 1<jg/\∀ x H',J.yld i H x H'->g x (jY nt ix σ) H' fun σ2 H2=>tt σ2 H2 fun b H3 =>
    if b=true then te σ2 H3 fun y H4=>∃ z m',y=.str z/\m'<m/\W (i + 1) m' (if z∈acc then acc else acc++[z]) H4 else ∃ m',m'<m/\W (i + 1) m' acc H3))
  {RR:ae->ai->uO->ah->Prop}
  (hRR:∀ D C m s' (acc:List Str) H',H' D=none->sk X pins (upd H' D (ul X.w D acc)) C->Q (.ref D) (upd H' D (ul X.w D acc))->s'.heap.Ns C m->(∀ h',cF C s'.heap h'->bI X pins σ (upd H' D (ul X.w D acc)) { s' with heap:=h' })->RR (.ref D) C (.ok .next) s') :
  av (aG X.prog X.w) X.A (newSet (.type "set")) (fun acc s₃=>av (aG X.prog X.w) X.A (xt scope X.env.globals cl [] X.env.qual none .none (some X.env)) (fun cenv s₄ =>
   iS (aG X.prog X.w) X.A (.compStart (.SetComp elt [⟨tg,iter,ifs,0⟩] scope pos) 0 (.ref it) acc { cenv with scope:=relabel scope X.env }) (RR acc cenv.locals) s₄) E s₃) E s2:=by
 refine Co (KO fun h₁ hh₁=>?_)
 dsimp only at hh₁ ⊢
 generalize hG2:s2.heap.push (jC X.w)=G2 at hh₁ ⊢
 have hC:G2.objs.size=s2.heap.objs.size + 1:=by rw [<- hG2,cr]
 have hDC:s2.heap.objs.size≠G2.objs.size:=by rw [hC];exact aO (i0 _)
 have hCle:s2.heap.objs.size<=G2.objs.size:=by rw [hC];exact kL _
 have below:∀ b,b<s2.heap.objs.size->b≠G2.objs.size:=fun b hb=>by rw [hC];exact aO (gO hb)
 have kp:∀ b o,G2.get? b=some o->h₁.get? b=some o:=fun b o e=>by rw [hh₁];exact vM _ _ b o (ag _ e)
 have hns₁:h₁.Ns G2.objs.size (fun _=>none):=by rw [hh₁];exact (Heap.Ns.new G2 (.type "dict")).keeps (vM _ _)
 have ok₁:CellsOk h₁ (G2.objs.size + 1) (bn (G2.objs.size + 1) scope.names []):=by rw [hh₁];exact Dp G2 scope.names
 have cne:∀ x c,(bn (G2.objs.size + 1) scope.names cl).lookup x=some c->X.env.cells.lookup x=some c\/s2.heap.objs.size<c:=fun x c e=>by
  rcases lR e with a | ⟨_,a⟩
  ·exact .inr (aF (z0 hCle) (ok₁.empty x c a).2)
  ·exact .inl (c1 x c a)
 have old:∀ b o,s2.heap.get? b=some o->h₁.get? b=some o:=fun b o e=>kp b o (hG2 ▸ ag _ e)
 have hacc:h₁.get? s2.heap.objs.size=some (jC X.w):=kp _ _ (hG2 ▸ aE _ rfl)
 have ff:∀ b∈fp,b<s2.heap.objs.size:=fun b hb=>by
  obtain ⟨o,e,_⟩:=T.obj _ _ st2 b hb
  exact ax e
 have I3:bI (de X N' scope (bn (G2.objs.size + 1) scope.names cl) G2.objs.size s2 H2 fp (X.pn++pins)) [] (jY nt ix σ) H2 { s2 with heap:=h₁,toks:=s2.toks }:=Ga S I2 c1 c2 f2 ff hCle hns₁ old ok₁
 obtain ⟨pg,pt,pe⟩:=hb (bn (G2.objs.size + 1) scope.names cl) G2.objs.size s2 H2 fp (X.pn++pins)
 have hDfs:s2.heap.objs.size∉pI X.stack:=fun z=>by
  rcases List.mem_cons.mp (I2.stkSub _ z) with e | e
  ·exact absurd I2.lt (by rw [<- e];exact cb _)
  ·exact I2.nofs (az _) e
 have st1:tn 0 h₁:=T.keep _ _ _ st2 fun b _ o e=>old b o e
 have hDf:s2.heap.objs.size∉fp:=fun z=>absurd (ff _ z) (cb _)
 have stat:∀ {H':Hp}{pl:List (ai×Obj)},(∀ p∈pl,p.1∉fp)->(∀ b∈fp,H' b=none)->∀ b∈fp,sk (de X N' scope (bn (G2.objs.size + 1) scope.names cl) G2.objs.size s2 H2 fp (X.pn++pins)) pl H' b:=fun hpl hn b hb=>by
  obtain ⟨f0,f1,f2',f3,f4,f5⟩:=f2 b hb
  refine ⟨hn b hb,below b (ff b hb),fun z=>?_,.inl hb,fun x c e=>(cne x c e).elim (f4 x c) fun q z=>z3 q (by rw [z];exact ff b hb),fun p hp z=>?_⟩
  ·rcases List.mem_cons.mp (I2.stkSub _ z) with e | e
   ·exact f1 e
   ·exact f2' e
  ·rcases List.mem_append.mp hp with q | q
   ·exact f5 p q z
   ·exact hpl p q (z ▸ hb)
 obtain ⟨m0,w0⟩:=w0
 have loop:iS (aG X.prog X.w) X.A (.compLoop (.SetComp elt [⟨tg,iter,ifs,0⟩] scope pos) 0 (.ref it) (.ref s2.heap.objs.size) (compEnvC scope (bn (G2.objs.size + 1) scope.names cl) G2.objs.size X.env))
    (RR (.ref s2.heap.objs.size) G2.objs.size) { s2 with heap:=h₁,toks:=s2.toks }:=by
  refine Gp (SLI X pins N' scope (bn (G2.objs.size + 1) scope.names cl) G2.objs.size s2 H2 fp nt ix σ tn W) ?_ m0
   ⟨0,[],_,H2,I3.pin1 hacc (I2.hok.fresh (az _)) hDC hDfs (fun v z=>nomatch z),Dq X.w hacc,st1,fun b hb=>(f2 b hb).1,w0⟩
  rintro n s3 ⟨i,acc,oD,H3,J3,hS3,st3,fr3,w3⟩
  have plD:∀ p∈[(s2.heap.objs.size,oD)],p.1∉fp:=fun p hp=>by
   have:p=(s2.heap.objs.size,oD):=by simpa using hp
   rw [this];exact hDf
  have stS:∀ {s8:ah},s8.heap.get? s2.heap.objs.size=some oD->oQ X.w s8.heap s2.heap.objs.size acc:=fun {s8} e=>hS3.keep fun o eo=>by
   have q:=(J3.pin (s2.heap.objs.size,oD) (aV _ (List.mem_singleton.mpr rfl))).1
   rw [q] at eo;cases eo;exact e
  rcases turn i n acc H3 w3 with ⟨stop,qn⟩ | ⟨go,hlt,step⟩
  ·refine fF (T.done (de X N' scope (bn (G2.objs.size + 1) scope.names cl) G2.objs.size s2 H2 fp (X.pn++pins)) rfl rfl rfl hc i _ s3 _ H3 _ J3 (stat plD fr3) st3 stop) fun r s4 h_0=>?_
   obtain ⟨hr,I4⟩:=h_0
   subst hr
   obtain ⟨pD,pN,_⟩:=I4.pin (s2.heap.objs.size,_) (aV _ (List.mem_singleton.mpr rfl))
   obtain ⟨mm,hn,_⟩:=I4.loc
   have hCn:H3 G2.objs.size=none:=I4.free
   refine hRR _ _ mm s4 acc H3 pN (I2.fpOk hCle (by rw [a_ (fM hDC)];exact hCn)) (qn _ pN) hn fun h' sb=>?_
   have hu:Un (pI X.stack) fp H2 (upd H3 s2.heap.objs.size (ul X.w s2.heap.objs.size acc)) s2.heap h':=Un.grow I4.base sb hCle (az _) pN
   refine I2.call' (s':={ s4 with heap:=h' }) (ch:=fp) I4.os hu ?_ I4.bare fun b hb=>?_
   ·exact tM (Am I4.hok hCn sb) pN (KR ((stS pD).keep fun o e=>(sb.2 _ hDC).trans e))
   ·obtain ⟨_,f1,_,f3,f4,f5⟩:=f2 b hb
    exact ⟨f3,f1,f4,f5⟩
  ·refine fF (T.item (de X N' scope (bn (G2.objs.size + 1) scope.names cl) G2.objs.size s2 H2 fp (X.pn++pins)) rfl rfl rfl hc i _ s3 _ H3 _ J3 (stat plD fr3) st3 go) fun r s4 h_1=>?_
   obtain ⟨u,hr,h4⟩:=h_1
   subst hr
   refine fF h4 fun _ s5 h_2=>?_
   obtain ⟨x,H5,I5,r5,y5,st5,fr5⟩:=h_2
   have I5':=I5.pinned (stat plD fr5) (T.obj _ _ st5)
   refine fF (pg _ s5 _ H5 x u _ I5' r5 (lo _ _ _ _ (step x H5 y5))) fun _ s6 h_3=>?_
   obtain ⟨σ6,H6,I6,q6,l6,k6⟩:=h_3
   have hw:∀ (j:Nat) v,(jY nt ix σ)[j]?=some (some v)->σ6[j]?=some (some v):=fun j v e=>by
    by_cases hj:nt<=j
    ·rw [k6 j hj];exact e
    ·unfold jY at e
     rw [bS (by simpa using hj),bR,if_pos (by omega)] at e
     cases e
   refine fF (pt _ s6 σ6 H6 _ I6 q6) fun b s7 h_4=>?_
   obtain ⟨H7,I7,q7⟩:=h_4
   have fpk:∀ {s8:ah}{σ8:St}{H8:Hp},bI (de X N' scope (bn (G2.objs.size + 1) scope.names cl) G2.objs.size s2 H2 fp (X.pn++pins)) ([(s2.heap.objs.size,oD)]++xD fp s5.heap) σ8 H8 s8 ->
     tn (i + 1) s8.heap/\∀ b∈fp,H8 b=none:=fun {s8 σ8 H8} I8=>by
    refine ⟨T.keep _ _ _ st5 fun b hb o e=>(I8.pin (b,o) (aV _ (aV _ (kX hb e)))).1,fun b hb=>?_⟩
    obtain ⟨o,e,d⟩:=T.obj _ _ st5 b hb
    exact (I8.pin (b,o) (aV _ (aV _ (kX hb e)))).2.1
   cases b with
   | false =>
    simp only [cz,if_false] at q7 ⊢
    obtain ⟨m',hm,w7⟩:=q7
    obtain ⟨t7,f7⟩:=fpk I7
    obtain ⟨pD,_⟩:=I7.pin (s2.heap.objs.size,oD) (aV _ (gJ _ (List.mem_singleton.mpr rfl)))
    exact ⟨m',hm,i + 1,acc,oD,H7,(I7.weak l6.symm hw).unpinned,stS pD,t7,f7,w7⟩
   | true =>
    simp only [if_true] at q7 ⊢
    refine fF (pe _ s7 σ6 H7 _ I7 q7) fun u8 s8 h_5=>?_
    obtain ⟨y,H8,I8,r8,z,m',hy,hm,w8⟩:=h_5
    obtain ⟨t8,f8⟩:=fpk I8
    obtain ⟨pD,pN,_⟩:=I8.pin (s2.heap.objs.size,_) (aV _ (gJ _ (List.mem_singleton.mpr rfl)))
    subst hy
    obtain ⟨tz,rfl⟩:=r8
    refine Cq (stS pD) hlt fun h9 tk9 sb9 hS9=>?_
    obtain ⟨es9,ep9,t9,is9,pm9⟩:=id hS9
    have e9':=is9.at_
    refine ⟨m',hm,i + 1,_,{ cls:=.type "set",dict:=none,data:=.set es9 ep9 t9 },H8,?_,hS9,T.keep _ _ _ t8 fun b hb o e=>sb9.extBut b o (fun z=>hDf (z ▸ hb)) e,f8,w8⟩
    have I8':bI (de X N' scope (bn (G2.objs.size + 1) scope.names cl) G2.objs.size s2 H2 fp (X.pn++pins)) [] (jY nt ix σ) H8 s8:=(I8.weak l6.symm hw).pins_of fun p hp=>absurd hp (by simp)
    have I9:bI (de X N' scope (bn (G2.objs.size + 1) scope.names cl) G2.objs.size s2 H2 fp (X.pn++pins)) [] (jY nt ix σ) H8 { s8 with heap:=h9,toks:=tk9 } :=
     I8'.turned (it:=s2.heap.objs.size) (fun b o hb e=>sb9.extBut b o hb e) pN hDC (.inr (az _)) (fun x c e z=>by
      rcases cne x c e with e | e
      ·obtain ⟨v,q⟩:=I2.cell x c e
       exact absurd q.lt (by rw [z];exact cb _)
      ·exact absurd e (by rw [z];exact cb _)) fun p hp z=>by
      have hp:p∈X.pn++pins:=(List.mem_append.mp hp).elim id fun z=>absurd z (by simp)
      exact absurd (ax (I2.pin p hp).1) (by rw [z];exact cb _)
    exact I9.pin1 e9' pN hDC hDfs (fun v z=>nomatch z)
 exact rM loop (T.self _ 0 _ _ _ st1 loop)
inductive Uw (w:b9) (nt:Nat) (ix:List Nat) (g:TG) (tt:TT) (te:TE) (σ:St) (Q:VK) (J:It) (H1:Hp):Prop
 | mk (W:Nat->Nat->List Str->Hp->Prop) (w0:∃ m,W 0 m [] H1) (turn:∀ i m acc H,W i m acc H ->
 (J.stop i H/\∀ p,H p=none->Q (.ref p) (upd H p (ul w p acc))) \/
 (J.go i H/\acc.length + 1<jg/\∀ x H',J.yld i H x H'->g x (jY nt ix σ) H' fun σ2 H2=>tt σ2 H2 fun b H3 =>
  if b=true then te σ2 H3 fun y H4=>∃ z m',y=.str z/\m'<m/\W (i + 1) m' (if z∈acc then acc else acc++[z]) H4 else ∃ m',m'<m/\W (i + 1) m' acc H3)):Uw w nt ix g tt te σ Q J H1
def OS (w:b9) (nt:Nat) (ix:List Nat) (wi:TI) (g:TG) (tt:TT) (te:TE):TE:=fun σ H Q=>wi σ H (Uw w nt ix g tt te σ Q)
theorem J5 {X:Cx}{elt tg iter:aR}{ifs:List aR}{scope:eD}{pos:Pos}{wi:TI}{g:TG}{tt:TT}{te:TE}{N':List Str}{nt:Nat}{ix:List Nat}
  (hc:X.calm=true) (S:oO X scope N' nt ix) (lo:Us nt g) (hi:PI X tg iter wi)
  (hb:∀ cl C s₀ H₀ ex pn,PG (de X N' scope cl C s₀ H₀ ex pn) tg g/\Rv (de X N' scope cl C s₀ H₀ ex pn) ifs tt/\PE (de X N' scope cl C s₀ H₀ ex pn) elt te)
  (hs:∀ x,e6 iter X.env x=pure x:=by intro _;rfl):PE X (.SetComp elt [⟨tg,iter,ifs,0⟩] scope pos) (OS X.w nt ix wi g tt te):=by
 intro pins s σ H Q I h
 obtain ⟨cl,hcl,c1,c2⟩:=uX (scope:=scope) (env:=X.env) fun y hy hf=>I.ok.has y.1 (S.free y hy hf)
 show av _ _ (comprehension (.SetComp elt [⟨tg,iter,ifs,0⟩] scope pos) scope X.env (firstIterPos [⟨tg,iter,ifs,0⟩] pos) (newSet (.type "set")) (firstAsync [⟨tg,iter,ifs,0⟩]) (firstIter [⟨tg,iter,ifs,0⟩] X.env)) _ _ _
 refine se (use:=none) rfl hs hcl S.kind S.loc (fF (hi pins s σ H _ I h) fun v s1 h1=>fF h1 fun itv s2 h2=>?_)
 obtain ⟨it,fp,tn,J,H2,e,I2,T,st2,f2,W,w0,turn⟩:=h2
 subst e
 refine Mu (RR:=fun acc C=>compPost (aG X.prog X.w) X.A X.xe none (EP X pins σ Q) acc C) hc S lo hb c1 c2 I2 T st2 f2 w0 turn ?_
 intro D C m s' acc H' hD _ q hn hI
 exact ⟨m,hn,fun h' sb=>⟨.ref D,_,hI h' sb,rfl,q⟩⟩
section
variable {X:Cx}
theorem Cr:kc X (.builtin "len") (fun xs H Q=>∃ p ss,xs=[.ref p]/\H p=some (ul X.w p ss)/\Q (.int ss.length) H):=by
 intro pins s σ H xs us Q I r h
 obtain ⟨p,ss,rfl,hq,q⟩:=h
 obtain ⟨u,rfl,rx⟩:=ms r
 cases rx
 obtain ⟨es,ep,t,is,pm⟩:=(show eB X.prog X.w H s.heap p (ul X.w p ss) from I.hok p _ hq).1
 have hlen:es.size=ss.length:=by rw [<- pm.length_eq,aN,bv]
 have hsm:(es.size:Int)<2 ^ 63:=by
  have h1:=is.few
  have h2:jg<=2 ^ 62:=by decide
  omega
 refine Da kind_len plain_len entry_len (args_len1 _) (wpAny_len_body_set is.at_ ⟨rfl,rfl,rfl⟩ rfl is.fits hsm ?_)
 refine ⟨.int _,H,I.tok _,⟨_,rfl⟩,?_⟩
 rw [hlen];exact q
end
end
end L2
section
namespace L2
open PySem PySem.Spec PyProof.Rows
section
variable {K:a9}{nt:Nat}{ix:List Nat}{te:TE}{σ:St}{H1:Hp}{Q:VK}{a:ai}{xs:List V}{i:Nat}
end
end L2
namespace L2
open PySem PySem.Spec PyProof.Rows
def KS (so:eD) (N:List Str) (scope:eD) (N':List Str) (nt:Nat) (ix:List Nat):Bool :=
 (scope.kind == .function) && (scope.names.all fun y=>y.2 != .cell || scope.names.lookup y.1 == some .cell) && (scope.names.all fun y=>y.2 != .local || scope.names.lookup y.1 == some .local) &&
 (scope.names.all fun y=>y.2 != .free || so.names.lookup y.1 == some .cell || so.names.lookup y.1 == some .free) &&
 ((bZ ix.length).all fun k=>match ix[k]? with
  | none=>false
  | some i=>match N[i]? with
   | none=>false
   | some x=>N'[nt + k]? == some x && scope.names.lookup x == some .free) && (N'.length == nt + ix.length)
theorem dC {X:Cx}{so:eD}{N:List Str}{scope:eD}{N':List Str}{nt:Nat}{ix:List Nat} (h:KS so N scope N' nt ix=true) (h1:X.env.scope=so:=by rfl) (h2:X.N=N:=by rfl):oO X scope N' nt ix:=by
 unfold KS at h
 simp only [aL,eA] at h
 obtain ⟨⟨⟨⟨⟨a,b⟩,c⟩,d⟩,e⟩,l⟩:=h
 refine ⟨by simpa using a,fun y hy z=>?_,fun y hy z=>?_,fun y hy z=>?_,fun k i hk=>?_,by simpa using l⟩
 ·have:=b y hy;simpa [z] using this
 ·have:=c y hy;simpa [z] using this
 ·have:=d y hy
  rw [h1]
  simpa [z] using this
 ·have hl:k<ix.length:=(List.getElem?_eq_some_iff.mp hk).1
  have:=e k (List.mem_range.mpr hl)
  rw [hk] at this
  rw [h2]
  simp only at this
  split at this
  ·cases this
  ·rename_i x hx
   simp only [aL] at this
   exact ⟨x,hx,by simpa using this.1,by simpa using this.2⟩
end L2
end
namespace L2
open PySem PySem.Spec PyProof.Rows
section
section
variable {K:a9}{nt:Nat}{ix:List Nat}{te:TE}{σ:St}{H1:Hp}{Q:VK}{a b:ai}{xs ys:List V}{i k:Nat}
end
end
end L2
namespace J
open PySem L2
section
abbrev D:=sf
inductive R (α:Type) where
 | ok (a:α)
 | ex (c:Str) (n:Option D)
 | no
def R.bind {α β:Type}:R α->(α->R β)->R β
 | .ok a,f=>f a
 | .ex c n,_=>.ex c n
 | .no,_=>.no
@[simp] theorem bind_ok {α β:Type} (a:α) (f:α->R β):(R.ok a).bind f=f a:=rfl
@[simp] theorem bind_ex {α β:Type} (c:Str) (n:Option D) (f:α->R β):(R.ex c n).bind f=.ex c n:=rfl
@[simp] theorem bind_no {α β:Type} (f:α->R β):(R.no:R α).bind f=.no:=rfl
def kD:gy->D
 | .inl i=>.int i
 | .inr x=>.str x
def tD (ks:List gy):D:=.tuple (ks.map kD)
mutual
inductive RD (K:a9) (H:Hp):V->D->Prop
 | none:RD K H .non .none
 | bool (b:Bool):RD K H (.bl b) (.bool b)
 | int (i:Int):RD K H (.int i) (.int i)
 | str (x:Str):RD K H (.str x) (.str x)
 | list {a:ai}{xs:List V}{ds:List D}:pJ K H a xs->RDs K H xs ds->RD K H (.ref a) (.list ds)
 | tuple {a:ai}{xs:List V}{ds:List D}:H a=some (.tup xs)->RDs K H xs ds->RD K H (.ref a) (.tuple ds)
 | dictK {a:ai}{kvs:List (gy×V)}{ds:List (D×D)}:H a=some (.dK kvs)->RDk K H kvs ds->RD K H (.ref a) (.dict ds)
 | dictT {a:ai}{kvs:List (List gy×V)}{ds:List (D×D)}:H a=some (.dT kvs)->kvs≠[]->RDt K H kvs ds->RD K H (.ref a) (.dict ds)
 | dictF {a:ai}{o:Obj}{kvs:List (List gy×V)}{ds:List (D×D)}:H a=some (.frz o (.dT kvs))->kvs≠[]->RDt K H kvs ds->RD K H (.ref a) (.dict ((.none,.none)::ds))
inductive RDs (K:a9) (H:Hp):List V->List D->Prop
 | nil:RDs K H [] []
 | cons {x:V}{xs:List V}{d:D}{ds:List D}:RD K H x d->RDs K H xs ds->RDs K H (x::xs) (d::ds)
inductive RDk (K:a9) (H:Hp):List (gy×V)->List (D×D)->Prop
 | nil:RDk K H [] []
 | cons {k:gy}{x:V}{xs:List (gy×V)}{d:D}{ds:List (D×D)}:RD K H x d->RDk K H xs ds->RDk K H ((k,x)::xs) ((kD k,d)::ds)
inductive RDt (K:a9) (H:Hp):List (List gy×V)->List (D×D)->Prop
 | nil:RDt K H [] []
 | cons {k:List gy}{x:V}{xs:List (List gy×V)}{d:D}{ds:List (D×D)}:RD K H x d->RDt K H xs ds->RDt K H ((k,x)::xs) ((tD k,d)::ds)
end
section
variable {K:a9}{H H':Hp}
theorem RD.same (e:eg H H') {v:V}{d:D} (h:RD K H v d):RD K H' v d:=RD.rec (motive_1:=fun v d _=>RD K H' v d) (motive_2:=fun v d _=>RDs K H' v d) (motive_3:=fun v d _=>RDk K H' v d) (motive_4:=fun v d _=>RDt K H' v d) .none .bool .int .str (fun h _ r=>.list (e.seq h) r) (fun h _ r=>.tuple (e _ _ h) r) (fun h _ r=>.dictK (e _ _ h) r) (fun h n _ r=>.dictT (e _ _ h) n r) (fun h n _ r=>.dictF (e _ _ h) n r) .nil (fun _ _ a b=>.cons a b) .nil (fun _ _ a b=>.cons a b) .nil (fun _ _ a b=>.cons a b) h
theorem RDs.same (e:eg H H') {v:List V}{d:List D} (h:RDs K H v d):RDs K H' v d:=RDs.rec (motive_1:=fun v d _=>RD K H' v d) (motive_2:=fun v d _=>RDs K H' v d) (motive_3:=fun v d _=>RDk K H' v d) (motive_4:=fun v d _=>RDt K H' v d) .none .bool .int .str (fun h _ r=>.list (e.seq h) r) (fun h _ r=>.tuple (e _ _ h) r) (fun h _ r=>.dictK (e _ _ h) r) (fun h n _ r=>.dictT (e _ _ h) n r) (fun h n _ r=>.dictF (e _ _ h) n r) .nil (fun _ _ a b=>.cons a b) .nil (fun _ _ a b=>.cons a b) .nil (fun _ _ a b=>.cons a b) h
theorem RDk.same (e:eg H H') {v:List (gy×V)}{d:List (D×D)} (h:RDk K H v d):RDk K H' v d:=RDk.rec (motive_1:=fun v d _=>RD K H' v d) (motive_2:=fun v d _=>RDs K H' v d) (motive_3:=fun v d _=>RDk K H' v d) (motive_4:=fun v d _=>RDt K H' v d) .none .bool .int .str (fun h _ r=>.list (e.seq h) r) (fun h _ r=>.tuple (e _ _ h) r) (fun h _ r=>.dictK (e _ _ h) r) (fun h n _ r=>.dictT (e _ _ h) n r) (fun h n _ r=>.dictF (e _ _ h) n r) .nil (fun _ _ a b=>.cons a b) .nil (fun _ _ a b=>.cons a b) .nil (fun _ _ a b=>.cons a b) h
theorem RDt.same (e:eg H H') {v:List (List gy×V)}{d:List (D×D)} (h:RDt K H v d):RDt K H' v d:=RDt.rec (motive_1:=fun v d _=>RD K H' v d) (motive_2:=fun v d _=>RDs K H' v d) (motive_3:=fun v d _=>RDk K H' v d) (motive_4:=fun v d _=>RDt K H' v d) .none .bool .int .str (fun h _ r=>.list (e.seq h) r) (fun h _ r=>.tuple (e _ _ h) r) (fun h _ r=>.dictK (e _ _ h) r) (fun h n _ r=>.dictT (e _ _ h) n r) (fun h n _ r=>.dictF (e _ _ h) n r) .nil (fun _ _ a b=>.cons a b) .nil (fun _ _ a b=>.cons a b) .nil (fun _ _ a b=>.cons a b) h
mutual
def mx:D->Bool
 | .dict _=>false
 | .list xs=>noDs xs
 | .tuple xs=>noDs xs
 | _=>true
def noDs:List D->Bool
 | []=>true
 | x::r=>mx x && noDs r
end
theorem XG {a b:Bool} (h:(a && b)=true):a=true:=(Bool.and_eq_true_iff.mp h).1
theorem XH {a b:Bool} (h:(a && b)=true):b=true:=(Bool.and_eq_true_iff.mp h).2
theorem RD.rep {v:V}{d:D} (h:RD K H v d):mx d=true->J1 K H v d:=RD.rec (motive_1:=fun v d _=>mx d=true->J1 K H v d) (motive_2:=fun v d _=>noDs d=true->Reps K H v d) (motive_3:=fun _ _ _=>True) (motive_4:=fun _ _ _=>True) (fun _=>.none) (fun b _=>.bool b) (fun i _=>.int i) (fun x _=>.str x) (fun h _ r e=>.list h (r e)) (fun h _ r e=>.tuple (.of h) (r e)) (fun _ _ _ e=>l_ e) (fun _ _ _ _ e=>l_ e) (fun _ _ _ _ e=>l_ e) (fun _=>.nil) (fun _ _ a b e=>.cons (a (XG e)) (b (XH e))) trivial (fun _ _ _ _=>trivial) trivial (fun _ _ _ _=>trivial) h
theorem RDs.length {vs:List V}:∀ {ds:List D},RDs K H vs ds->vs.length=ds.length:=by
 induction vs with
 | nil=>intro ds h;cases h;rfl
 | cons x r ih=>intro ds h;cases h with | cons a b=>exact congrArg (· + 1) (ih b)
theorem RDs.get {vs:List V}:∀ {ds:List D}{i:Nat}{v:V},RDs K H vs ds->vs[i]?=some v->∃ d,ds[i]?=some d/\RD K H v d:=by
 induction vs with
 | nil=>intro ds i v _ e;cases e
 | cons x r ih =>
  intro ds i v h e
  cases h with
  | cons a b =>
   cases i with
   | zero=>cases e;exact ⟨_,rfl,a⟩
   | succ i=>have q:=ih (i:=i) b e;exact q
theorem RDs.get' {vs:List V}:∀ {ds:List D}{i:Nat}{d:D},RDs K H vs ds->ds[i]?=some d->∃ v,vs[i]?=some v/\RD K H v d:=by
 induction vs with
 | nil=>intro ds i v h e;cases h;cases e
 | cons x r ih =>
  intro ds i v h e
  cases h with
  | cons a b =>
   cases i with
   | zero=>cases e;exact ⟨_,rfl,a⟩
   | succ i=>have q:=ih (i:=i) b e;exact q
theorem RDs.append {vs ws:List V}{es:List D}:∀ {ds:List D},RDs K H vs ds->RDs K H ws es->RDs K H (vs++ws) (ds++es):=by
 induction vs with
 | nil=>intro ds h s;cases h;exact s
 | cons x r ih=>intro ds h s;cases h with | cons a b=>exact .cons a (ih b s)
theorem RDs.drop {vs:List V}:∀ {ds:List D} (n:Nat),RDs K H vs ds->RDs K H (vs.drop n) (ds.drop n):=by
 induction vs with
 | nil=>intro ds n h;cases h;cases n<;>exact .nil
 | cons x r ih =>
  intro ds n h
  cases n with
  | zero=>exact h
  | succ n=>cases h with | cons a b=>exact ih n b
theorem RDs.take {vs:List V}:∀ {ds:List D} (n:Nat),RDs K H vs ds->RDs K H (vs.take n) (ds.take n):=by
 induction vs with
 | nil=>intro ds n h;cases h;cases n<;>exact .nil
 | cons x r ih =>
  intro ds n h
  cases n with
  | zero=>exact .nil
  | succ n=>cases h with | cons a b=>exact .cons a (ih n b)
theorem RDs.reverse {vs:List V}{ds:List D} (h:RDs K H vs ds):RDs K H vs.reverse ds.reverse:=by
 induction vs generalizing ds with
 | nil=>cases h;exact .nil
 | cons x r ih=>cases h with | cons a b=>rw [pM,pM];exact (ih b).append (.cons a .nil)
theorem Az:∀ (ss:List Str),RDs K H (ss.map V.str) (ss.map aM)
 | []=>.nil
 | x::r=>.cons (.str x) (Az r)
theorem RD.str_inv {v:V}{x:Str} (h:RD K H v (.str x)):v=.str x:=by cases h;rfl
theorem RD.bool_inv {v:V}{x:Bool} (h:RD K H v (.bool x)):v=.bl x:=by cases h;rfl
theorem RD.int_inv {v:V}{x:Int} (h:RD K H v (.int x)):v=.int x:=by cases h;rfl
theorem Ev {α:Type}{c:α->D}{k:α->V} (hc:∀ {v x},RD K H v (c x)->v=k x) {ss:List α}:∀ {vs:List V},RDs K H vs (ss.map c)->vs=ss.map k:=by
 induction ss with
 | nil=>intro vs h;cases h;rfl
 | cons x r ih=>intro vs h;cases h with | cons a b=>rw [hc a,ih b];rfl
theorem qO {ss:List Str}{vs:List V}:RDs K H vs (ss.map aM)->vs=ss.map V.str:=Ev RD.str_inv
theorem Ct {ss:List Bool}{vs:List V}:RDs K H vs (ss.map db)->vs=ss.map V.bl:=Ev RD.bool_inv
theorem Ew {ss:List Int}{vs:List V}:RDs K H vs (ss.map ed)->vs=ss.map V.int:=Ev RD.int_inv
end
def nt:HO->Bool
 | .tup _=>false
 | _=>true
structure dk (H Hs H' Hs':Hp):Prop where
 all:eg H H'
 sh:eg Hs Hs'
 sub:eg Hs' H'
 out:∀ a o,H a=some o->nt o=true->Hs a=none->Hs' a=none
theorem dk.refl {H Hs:Hp} (h:eg Hs H):dk H Hs H Hs:=⟨.refl _,.refl _,h,fun _ _ _ _ e=>e⟩
theorem dk.trans {H Hs H1 Hs1 H2 Hs2:Hp} (a:dk H Hs H1 Hs1) (b:dk H1 Hs1 H2 Hs2):dk H Hs H2 Hs2 :=
 ⟨a.all.trans b.all,a.sh.trans b.sh,b.sub,fun c o e t n=>b.out c o (a.all c o e) t (a.out c o e t n)⟩
theorem dk.new {H Hs:Hp}{p:ai}{o:HO} (h:eg Hs H) (n:H p=none):dk H Hs (upd H p o) (upd Hs p o):=by
 have n':Hs p=none:=h.free n
 refine ⟨jq n,jq n',fun b u e=>?_,fun a u e t z=>?_⟩
 ·by_cases hb:b=p
  ·subst hb;rw [aU] at e ⊢;exact e
  ·rw [a_ hb] at e ⊢;exact h b u e
 ·rw [a_ (bc e n)];exact z
theorem dk.mine {H Hs:Hp}{p:ai}{o:HO} (h:eg Hs H) (n:H p=none):dk H Hs (upd H p o) Hs:=by
 refine ⟨jq n,.refl _,fun b u e=>?_,fun a u e t z=>z⟩
 have e':=h b u e
 rw [a_ (bc e' n)];exact e'
inductive qP (K:a9) (Hs:Hp):HO->D->Prop
 | lst {vs:List V}{ds:List D}:RDs K Hs vs ds->qP K Hs (.lst vs) (.list ds)
 | dK {kvs:List (gy×V)}{ds:List (D×D)}:RDk K Hs kvs ds->qP K Hs (.dK kvs) (.dict ds)
 | dT {kvs:List (List gy×V)}{ds:List (D×D)}:kvs≠[]->RDt K Hs kvs ds->qP K Hs (.dT kvs) (.dict ds)
 | dF {o:Obj}{kvs:List (List gy×V)}{ds:List (D×D)}:kvs≠[]->RDt K Hs kvs ds->qP K Hs (.frz o (.dT kvs)) (.dict ((.none,.none)::ds))
theorem qP.same {K:a9}{Hs Hs':Hp}{o:HO}{d:D} (e:eg Hs Hs') (h:qP K Hs o d):qP K Hs' o d:=by
 cases h with
 | lst r=>exact .lst (r.same e)
 | dK r=>exact .dK (r.same e)
 | dT n r=>exact .dT n (r.same e)
 | dF n r=>exact .dF n (r.same e)
theorem qP.nt {K:a9}{Hs:Hp}{o:HO}{d:D} (h:qP K Hs o d):J.nt o=true:=by cases h<;>rfl
theorem qP.share {K:a9}{Hs:Hp}{o:HO}{d:D}{a:ai} (n:Hs a=none) (h:qP K Hs o d):RD K (upd Hs a o) (.ref a) d:=by
 have e:eg Hs (upd Hs a o):=jq n
 cases h with
 | lst r=>exact .list (.of aU) (r.same e)
 | dK r=>exact .dictK aU (r.same e)
 | dT n r=>exact .dictT aU n (r.same e)
 | dF n r=>exact .dictF aU n (r.same e)
inductive Sl where
 | no
 | shr (d:D)
 | own (d:D)
 | lck (d:D)
 | ow2 (dss:List (List D))
abbrev au:=List Sl
inductive Dv (K:a9) (H Hs:Hp):List ai->List (List D)->Prop
 | nil:Dv K H Hs [] []
 | cons {a:ai}{as:List ai}{vs:List V}{ds:List D}{dss:List (List D)}:H a=some (.lst vs)->RDs K Hs vs ds->Dv K H Hs as dss->Dv K H Hs (a::as) (ds::dss)
theorem Dv.step {K:a9}{H Hs H' Hs':Hp} (e:eg H H') (e':eg Hs Hs') {as:List ai}{dss:List (List D)} (h:Dv K H Hs as dss):Dv K H' Hs' as dss:=by
 induction h with
 | nil=>exact .nil
 | cons h r t ih=>exact .cons (e _ _ h) (r.same e') ih
theorem Dv.upd {K:a9}{H Hs:Hp}{b:ai}{o:HO}{as:List ai}{dss:List (List D)} (n:b∉as) (h:Dv K H Hs as dss):Dv K (upd H b o) Hs as dss:=by
 induction h with
 | nil=>exact .nil
 | cons h r t ih=>exact .cons (by rw [a_ (fun z=>n (by rw [<- z];exact ay))];exact h) r (ih fun z=>n (aA _ z))
theorem Dv.there {K:a9}{H Hs:Hp}{b:ai}{as:List ai}{dss:List (List D)} (h:Dv K H Hs as dss) (hb:b∈as):∃ o,H b=some o/\nt o=true:=by
 induction h with
 | nil=>cases hb
 | cons h r t ih =>
  rcases List.mem_cons.mp hb with e | hb
  ·exact ⟨_,e ▸ h,rfl⟩
  ·exact ih hb
structure O2 (K:a9) (H0 H Hs:Hp) (ρ:au) (σ:St) (i:Nat) (dss:List (List D)) (a:ai) (as:List ai):Prop where
 at_:σ[i]?=some (some (V.ref a))
 ob:H a=some (.lst (as.map V.ref))
 nd:(a::as).Nodup
 out:∀ b∈a::as,Hs b=none/\H0 b=none
 dj:∀ b∈a::as,∀ (j:Nat) (e:D),ρ[j]?=some (Sl.own e)->σ[j]?≠some (some (V.ref b))
 inn:Dv K H Hs as dss
structure Fr (K:a9) (H0 Hs0:Hp) (la:Nat->Option ai) (ρ:au) (σ:St) (H Hs:Hp):Prop where
 st:dk H0 Hs0 H Hs
 len:ρ.length=σ.length
 sh:∀ (i:Nat) (d:D),ρ[i]?=some (Sl.shr d)->∃ v,σ[i]?=some (some v)/\RD K Hs v d
 ow:∀ (i:Nat) (d:D),ρ[i]?=some (Sl.own d)->∃ a o,σ[i]?=some (some (V.ref a))/\H a=some o/\Hs a=none/\H0 a=none/\qP K Hs o d
 lk:∀ (i:Nat) (d:D),ρ[i]?=some (Sl.lck d)->∃ a o,σ[i]?=some (some (V.ref a))/\la i=some a/\H a=some o/\Hs a=none/\H0 a=some o/\qP K Hs o d
 dj:∀ (i j:Nat) (d e:D) (a:ai),ρ[i]?=some (Sl.own d)->ρ[j]?=some (Sl.own e)->σ[i]?=some (some (V.ref a))->σ[j]?=some (some (V.ref a))->i=j
 lh:∀ (i:Nat) (a:ai),la i=some a->∃ o,H0 a=some o
 o2:∀ (i:Nat) (dss:List (List D)),ρ[i]?=some (Sl.ow2 dss)->∃ a as,O2 K H0 H Hs ρ σ i dss a as
 u2:∀ (i j:Nat) (d e:List (List D)),ρ[i]?=some (Sl.ow2 d)->ρ[j]?=some (Sl.ow2 e)->i=j
theorem Fr.step {K:a9}{H0 Hs0 H Hs H' Hs':Hp}{la:Nat->Option ai}{ρ:au}{σ:St} (f:Fr K H0 Hs0 la ρ σ H Hs) (s:dk H Hs H' Hs'):Fr K H0 Hs0 la ρ σ H' Hs':=by
 refine ⟨f.st.trans s,f.len,fun i d e=>?_,fun i d e=>?_,fun i d e=>?_,f.dj,f.lh,fun i dss e=>?_,f.u2⟩
 ·obtain ⟨v,h1,h2⟩:=f.sh i d e
  exact ⟨v,h1,h2.same s.sh⟩
 ·obtain ⟨a,o,h1,h2,h3,h4,h5⟩:=f.ow i d e
  exact ⟨a,o,h1,s.all _ _ h2,s.out _ _ h2 h5.nt h3,h4,h5.same s.sh⟩
 ·obtain ⟨a,o,h1,h2,h3,h4,h5,h6⟩:=f.lk i d e
  exact ⟨a,o,h1,h2,s.all _ _ h3,s.out _ _ h3 h6.nt h4,h5,h6.same s.sh⟩
 ·obtain ⟨a,as,h⟩:=f.o2 i dss e
  refine ⟨a,as,h.at_,s.all _ _ h.ob,h.nd,fun b hb=>⟨?_,(h.out b hb).2⟩,h.dj,h.inn.step s.all s.sh⟩
  have there:∃ o,H b=some o/\nt o=true:=by
   rcases List.mem_cons.mp hb with rfl | hb
   ·exact ⟨_,h.ob,rfl⟩
   ·exact h.inn.there hb
  obtain ⟨o,ho,hn⟩:=there
  exact s.out b o ho hn (h.out b (by assumption)).1
inductive XI (K:a9) (H Hs:Hp) (v:V) (d:D):Prop
 | mk (a:ai) (o:HO) (h0:v=.ref a) (h1:H a=some o) (h2:Hs a=none) (h3:qP K Hs o d):XI K H Hs v d
def RB (K:a9) (H Hs:Hp) (v:V) (d:D):Prop:=RD K Hs v d\/XI K H Hs v d
theorem RB.step {K:a9}{H Hs H' Hs':Hp}{v:V}{d:D} (h:RB K H Hs v d) (s:dk H Hs H' Hs'):RB K H' Hs' v d:=by
 rcases h with h | ⟨a,o,h1,h2,h3,h4⟩
 ·exact .inl (h.same s.sh)
 ·exact .inr ⟨a,o,h1,s.all _ _ h2,s.out _ _ h2 h4.nt h3,h4.same s.sh⟩
theorem RB.full {K:a9}{H Hs:Hp}{v:V}{d:D} (sub:eg Hs H) (h:RB K H Hs v d):RD K H v d:=by
 rcases h with h | ⟨a,o,rfl,h2,h3,h4⟩
 ·exact h.same sub
 ·have e:eg (upd Hs a o) H:=fun b u q=>by
   by_cases hb:b=a
   ·subst hb;rw [aU] at q;cases q;exact h2
   ·rw [a_ hb] at q;exact sub b u q
  exact (h4.share h3).same e
theorem RB.list {K:a9}{H Hs:Hp}{v:V}{ds:List D} (sub:eg Hs H) (h:RB K H Hs v (.list ds)):∃ a vs,v=.ref a/\pJ K H a vs/\RDs K Hs vs ds:=by
 rcases h with h | ⟨a,o,rfl,h2,h3,h4⟩
 ·cases h with | list q r=>exact ⟨_,_,rfl,sub.seq q,r⟩
 ·cases h4 with | lst r=>exact ⟨a,_,rfl,.of h2,r⟩
theorem RB.tuple {K:a9}{H Hs:Hp}{v:V}{ds:List D} (sub:eg Hs H) (h:RB K H Hs v (.tuple ds)):∃ a vs,v=.ref a/\m5 K H a vs/\RDs K Hs vs ds/\Hs a=some (.tup vs):=by
 rcases h with h | ⟨a,o,rfl,h2,h3,h4⟩
 ·cases h with | tuple q r=>exact ⟨_,_,rfl,.of (sub _ _ q),r,q⟩
 ·cases h4
theorem RB.str {K:a9}{H Hs:Hp}{v:V}{x:Str} (h:RB K H Hs v (.str x)):v=.str x:=by
 rcases h with h | ⟨a,o,rfl,h2,h3,h4⟩
 ·exact h.str_inv
 ·cases h4
theorem RB.int {K:a9}{H Hs:Hp}{v:V}{i:Int} (h:RB K H Hs v (.int i)):v=.int i:=by
 rcases h with h | ⟨a,o,rfl,h2,h3,h4⟩
 ·exact h.int_inv
 ·cases h4
theorem RB.non {K:a9}{H Hs:Hp}{v:V} (h:RB K H Hs v .none):v=.non:=by
 rcases h with h | ⟨a,o,rfl,h2,h3,h4⟩
 ·cases h;rfl
 ·cases h4
def XW (K:a9) (cls:Str->ai) (E:XK) (c:Str) (n:Option D) (H Hs:Hp):Prop:=match n with
 | none=>E (.ref (cls c)) none H
 | some d=>∀ dx v,H dx=some (.xd [("number",v)])->RD K Hs v d->E (.ref (cls c)) (some dx) H
def Fin {α:Type} (K:a9) (cls:Str->ai) (E:XK) (H Hs:Hp) (r:R α) (q:α->Prop):Prop:=match r with
 | .ok d=>q d
 | .ex c n=>∀ H' Hs',dk H Hs H' Hs'->XW K cls E c n H' Hs'
 | .no=>False
inductive TRI (K:a9) (cls:Str->ai) (E:XK) (ρ:au) (r:R D) (σ:St) (H:Hp) (Q:VK):Prop
 | mk (H0 Hs0:Hp) (la:Nat->Option ai) (Hs:Hp) (f:Fr K H0 Hs0 la ρ σ H Hs) (q:Fin K cls E H Hs r fun d=>∀ v H' Hs',dk H Hs H' Hs'->RD K Hs' v d->Q v H'):TRI K cls E ρ r σ H Q
def TR (K:a9) (cls:Str->ai) (E:XK) (ρ:au) (r:R D):TE:=TRI K cls E ρ r
inductive TBI (K:a9) (cls:Str->ai) (E:XK) (ρ:au) (r:R D) (σ:St) (H:Hp) (Q:VK):Prop
 | mk (H0 Hs0:Hp) (la:Nat->Option ai) (Hs:Hp) (f:Fr K H0 Hs0 la ρ σ H Hs) (q:Fin K cls E H Hs r fun d=>∀ v H' Hs',dk H Hs H' Hs'->RB K H' Hs' v d->Q v H'):TBI K cls E ρ r σ H Q
def TB (K:a9) (cls:Str->ai) (E:XK) (ρ:au) (r:R D):TE:=TBI K cls E ρ r
inductive XJ (K:a9) (cls:Str->ai) (E:XK) (ρ:au) (r:R Bool) (σ:St) (H:Hp) (Q:Bool->Hp->Prop):Prop
 | mk (H0 Hs0:Hp) (la:Nat->Option ai) (Hs:Hp) (f:Fr K H0 Hs0 la ρ σ H Hs) (q:Fin K cls E H Hs r fun b=>∀ H' Hs',dk H Hs H' Hs'->Q b H'):XJ K cls E ρ r σ H Q
def NF (K:a9) (cls:Str->ai) (E:XK) (ρ:au) (r:R Bool):TT:=XJ K cls E ρ r
inductive Ux (K:a9) (H Hs:Hp):List V->List D->Prop
 | nil:Ux K H Hs [] []
 | cons {x:V}{xs:List V}{d:D}{ds:List D}:RB K H Hs x d->Ux K H Hs xs ds->Ux K H Hs (x::xs) (d::ds)
inductive XM (K:a9) (cls:Str->ai) (E:XK) (ρ:au) (r:R (List D)) (σ:St) (H:Hp) (Q:List V->Hp->Prop):Prop
 | mk (H0 Hs0:Hp) (la:Nat->Option ai) (Hs:Hp) (f:Fr K H0 Hs0 la ρ σ H Hs) (q:Fin K cls E H Hs r fun d=>∀ v H' Hs',dk H Hs H' Hs'->RDs K Hs' v d->Q v H'):XM K cls E ρ r σ H Q
def Zb (K:a9) (cls:Str->ai) (E:XK) (ρ:au) (r:R (List D)):TA:=XM K cls E ρ r
inductive XN (K:a9) (cls:Str->ai) (E:XK) (ρ:au) (r:R (List D)) (σ:St) (H:Hp) (Q:List V->Hp->Prop):Prop
 | mk (H0 Hs0:Hp) (la:Nat->Option ai) (Hs:Hp) (f:Fr K H0 Hs0 la ρ σ H Hs) (q:Fin K cls E H Hs r fun d=>∀ v H' Hs',dk H Hs H' Hs'->Ux K H' Hs' v d->Q v H'):XN K cls E ρ r σ H Q
def Zc (K:a9) (cls:Str->ai) (E:XK) (ρ:au) (r:R (List D)):TA:=XN K cls E ρ r
structure C where
 X:Cx
 cls:Str->ai
 E:XK
structure JE (c:C) (e:aR) (g:au->R D):Prop where of ::
 run:∀ ρ,PE c.X e (TR c.X.K c.cls c.E ρ (g ρ))
instance {c:C}{e:aR}{g:au->R D}:CoeFun (JE c e g) (fun _=>∀ ρ,PE c.X e (TR c.X.K c.cls c.E ρ (g ρ))):=⟨JE.run⟩
structure JB (c:C) (e:aR) (g:au->R D):Prop where of ::
 run:∀ ρ,PE c.X e (TB c.X.K c.cls c.E ρ (g ρ))
instance {c:C}{e:aR}{g:au->R D}:CoeFun (JB c e g) (fun _=>∀ ρ,PE c.X e (TB c.X.K c.cls c.E ρ (g ρ))):=⟨JB.run⟩
structure JT (c:C) (e:aR) (g:au->R Bool):Prop where of ::
 run:∀ ρ,PT c.X e (NF c.X.K c.cls c.E ρ (g ρ))
instance {c:C}{e:aR}{g:au->R Bool}:CoeFun (JT c e g) (fun _=>∀ ρ,PT c.X e (NF c.X.K c.cls c.E ρ (g ρ))):=⟨JT.run⟩
structure JW (c:C) (e:aR) (g:au->R Bool):Prop where of ::
 run:∀ ρ,PW c.X e (NF c.X.K c.cls c.E ρ (g ρ))
instance {c:C}{e:aR}{g:au->R Bool}:CoeFun (JW c e g) (fun _=>∀ ρ,PW c.X e (NF c.X.K c.cls c.E ρ (g ρ))):=⟨JW.run⟩
structure Ex (c:C) (es:List aR) (g:au->R (List D)):Prop where of ::
 run:∀ ρ,PA c.X es (Zb c.X.K c.cls c.E ρ (g ρ))
instance {c:C}{es:List aR}{g:au->R (List D)}:CoeFun (Ex c es g) (fun _=>∀ ρ,PA c.X es (Zb c.X.K c.cls c.E ρ (g ρ))):=⟨Ex.run⟩
structure Uy (c:C) (es:List aR) (g:au->R (List D)):Prop where of ::
 run:∀ ρ,PA c.X es (Zc c.X.K c.cls c.E ρ (g ρ))
instance {c:C}{es:List aR}{g:au->R (List D)}:CoeFun (Uy c es g) (fun _=>∀ ρ,PA c.X es (Zc c.X.K c.cls c.E ρ (g ρ))):=⟨Uy.run⟩
section
variable {c:C}{e a b:aR}{g ga gb:au->R D}{pos:Pos}
theorem um {X:Cx}{e:aR}{t t':TE} (h:PE X e t) (m:∀ σ H Q,t' σ H Q->t σ H Q):PE X e t':=fun pins s σ H Q I q=>h pins s σ H Q I (m σ H Q q)
theorem Zd {X:Cx}{e:aR}{t t':TT} (h:PT X e t) (m:∀ σ H Q,t' σ H Q->t σ H Q):PT X e t':=fun pins s σ H Q I q=>h pins s σ H Q I (m σ H Q q)
theorem mPW {X:Cx}{e:aR}{t t':TT} (h:PW X e t) (m:∀ σ H Q,t' σ H Q->t σ H Q):PW X e t':=fun wh pins s σ H Q I q=>h wh pins s σ H Q I (m σ H Q q)
theorem XO {X:Cx}{e:List aR}{t t':TA} (h:PA X e t) (m:∀ σ H Q,t' σ H Q->t σ H Q):PA X e t':=fun pos pins s σ H Q I q=>h pos pins s σ H Q I (m σ H Q q)
theorem zM {X:Cx}{e:bH}{t t':TS} (h:PS X e t) (m:∀ D σ H,t' D σ H->t D σ H):PS X e t':=fun pins s σ H Q I q=>h pins s σ H Q I (m Q σ H q)
theorem VX {X:Cx}{e:List bH}{t t':TS} (h:FT X e t) (m:∀ D σ H,t' D σ H->t D σ H):FT X e t':=fun pins s σ H Q I q=>h pins s σ H Q I (m Q σ H q)
theorem JE.bor (h:JE c e g):JB c e g:=.of fun ρ=>um (h ρ) fun σ H Q ⟨H0,Hs0,la,Hs,f,q⟩=>⟨H0,Hs0,la,Hs,f,by
 cases hr:g ρ with
 | ok d=>rw [hr] at q;exact fun v H' Hs' s r=>q v H' Hs' s (.inl r)
 | ex c n=>rw [hr] at q;exact q
 | no=>rw [hr] at q;exact q⟩
theorem one {K:a9}{cls:Str->ai}{E:XK}{ρ:au}{r:R D}{β:Type}{k:D->R β}{σ:St}{H:Hp}{H0 Hs0 Hs:Hp}{la:Nat->Option ai}{Q:V->Hp->Prop}{q:β->Prop} (f:Fr K H0 Hs0 la ρ σ H Hs)
  (h:Fin K cls E H Hs (r.bind k) q) (m:∀ d v H' Hs',r=.ok d->dk H Hs H' Hs'->Fr K H0 Hs0 la ρ σ H' Hs'->RB K H' Hs' v d->Q v H'):TB K cls E ρ r σ H Q:=by
 refine ⟨H0,Hs0,la,Hs,f,?_⟩
 cases r with
 | ok d=>exact fun v H' Hs' s r=>m d v H' Hs' rfl s (f.step s) r
 | ex c n=>exact h
 | no=>exact h
theorem Gq {K:a9}{cls:Str->ai}{E:XK}{ρ:au}{r:R D}{β:Type}{k:D->R β}{σ:St}{H:Hp}{H0 Hs0 Hs:Hp}{la:Nat->Option ai}{Q:V->Hp->Prop}{q:β->Prop} (f:Fr K H0 Hs0 la ρ σ H Hs)
  (h:Fin K cls E H Hs (r.bind k) q) (m:∀ d v H' Hs',r=.ok d->dk H Hs H' Hs'->Fr K H0 Hs0 la ρ σ H' Hs'->RD K Hs' v d->Q v H'):TR K cls E ρ r σ H Q:=by
 refine ⟨H0,Hs0,la,Hs,f,?_⟩
 cases r with
 | ok d=>exact fun v H' Hs' s r=>m d v H' Hs' rfl s (f.step s) r
 | ex c n=>exact h
 | no=>exact h
theorem OT {K:a9}{cls:Str->ai}{E:XK}{ρ:au}{r:R Bool}{β:Type}{k:Bool->R β}{σ:St}{H:Hp}{H0 Hs0 Hs:Hp}{la:Nat->Option ai}{Q:Bool->Hp->Prop}{q:β->Prop} (f:Fr K H0 Hs0 la ρ σ H Hs)
  (h:Fin K cls E H Hs (r.bind k) q) (m:∀ d H' Hs',r=.ok d->dk H Hs H' Hs'->Fr K H0 Hs0 la ρ σ H' Hs'->Q d H'):NF K cls E ρ r σ H Q:=by
 refine ⟨H0,Hs0,la,Hs,f,?_⟩
 cases r with
 | ok d=>exact fun H' Hs' s=>m d H' Hs' rfl s (f.step s)
 | ex c n=>exact h
 | no=>exact h
theorem Ey {K:a9}{cls:Str->ai}{E:XK}{ρ:au}{r:R (List D)}{β:Type}{k:List D->R β}{σ:St}{H:Hp}{H0 Hs0 Hs:Hp}{la:Nat->Option ai}{Q:List V->Hp->Prop}{q:β->Prop} (f:Fr K H0 Hs0 la ρ σ H Hs)
  (h:Fin K cls E H Hs (r.bind k) q) (m:∀ d v H' Hs',r=.ok d->dk H Hs H' Hs'->Fr K H0 Hs0 la ρ σ H' Hs'->RDs K Hs' v d->Q v H'):Zb K cls E ρ r σ H Q:=by
 refine ⟨H0,Hs0,la,Hs,f,?_⟩
 cases r with
 | ok d=>exact fun v H' Hs' s r=>m d v H' Hs' rfl s (f.step s) r
 | ex c n=>exact h
 | no=>exact h
theorem OU {K:a9}{cls:Str->ai}{E:XK}{ρ:au}{r:R (List D)}{β:Type}{k:List D->R β}{σ:St}{H:Hp}{H0 Hs0 Hs:Hp}{la:Nat->Option ai}{Q:List V->Hp->Prop}{q:β->Prop} (f:Fr K H0 Hs0 la ρ σ H Hs)
  (h:Fin K cls E H Hs (r.bind k) q) (m:∀ d v H' Hs',r=.ok d->dk H Hs H' Hs'->Fr K H0 Hs0 la ρ σ H' Hs'->Ux K H' Hs' v d->Q v H'):Zc K cls E ρ r σ H Q:=by
 refine ⟨H0,Hs0,la,Hs,f,?_⟩
 cases r with
 | ok d=>exact fun v H' Hs' s r=>m d v H' Hs' rfl s (f.step s) r
 | ex c n=>exact h
 | no=>exact h
theorem Fin.on {α:Type}{K:a9}{cls:Str->ai}{E:XK}{H Hs H' Hs':Hp}{r:R α}{q q':α->Prop} (h:Fin K cls E H Hs r q) (s:dk H Hs H' Hs') (m:∀ a,q a->q' a):Fin K cls E H' Hs' r q':=by
 cases r with
 | ok a=>exact m a h
 | ex c n=>exact fun H2 Hs2 s2=>h H2 Hs2 (s.trans s2)
 | no=>exact h
end
end
section
def Mv (ρ:au) (i:Nat):R D:=match ρ[i]? with
 | some (Sl.shr d)=>.ok d
 | _=>.no
def Ip (ρ:au) (i:Nat):R D:=match ρ[i]? with
 | some (Sl.shr d)=>.ok d
 | some (Sl.own d)=>.ok d
 | some (Sl.lck d)=>.ok d
 | _=>.no
section
variable {c:C}{e a b:aR}{g ga gb:au->R D}{pos:Pos}
theorem af (i:Nat) {x:Str} (hN:c.X.N[i]?=some x:=by rfl) (hv:NX c.X.env.scope x:=by first | exact fu rfl | exact dS (fu rfl) | exact dS (dS rfl)) (hd:(x == ("__debug__" : Str))=false:=by decide)
  (hcd:(x == ("__classdict__" : Str))=false:=by decide):JE c (.Name x pos) (fun ρ=>Mv ρ i):=.of fun ρ=>um (mZ hN hv hd hcd) fun σ H Q h_0=>by
 obtain ⟨H0,Hs0,la,Hs,f,q⟩:=h_0
 cases hr:ρ[i]? with
 | none=>simp only [Mv,hr] at q;exact q.elim
 | some s =>
  cases s with
  | shr d =>
   obtain ⟨v,h1,h2⟩:=f.sh i d hr
   simp only [Mv,hr] at q
   exact ⟨v,h1,q v H Hs (.refl f.st.sub) h2⟩
  | no=>simp only [Mv,hr] at q;exact q.elim
  | own d=>simp only [Mv,hr] at q;exact q.elim
  | lck d=>simp only [Mv,hr] at q;exact q.elim
  | ow2 d=>simp only [Mv,hr] at q;exact q.elim
theorem al (i:Nat) {x:Str} (hN:c.X.N[i]?=some x:=by rfl) (hv:NX c.X.env.scope x:=by first | exact fu rfl | exact dS (fu rfl) | exact dS (dS rfl)) (hd:(x == ("__debug__" : Str))=false:=by decide)
  (hcd:(x == ("__classdict__" : Str))=false:=by decide):JB c (.Name x pos) (fun ρ=>Ip ρ i):=.of fun ρ=>um (mZ hN hv hd hcd) fun σ H Q h_1=>by
 obtain ⟨H0,Hs0,la,Hs,f,q⟩:=h_1
 cases hr:ρ[i]? with
 | none=>simp only [Ip,hr] at q;exact q.elim
 | some s =>
  cases s with
  | shr d =>
   obtain ⟨v,h1,h2⟩:=f.sh i d hr
   simp only [Ip,hr] at q
   exact ⟨v,h1,q v H Hs (.refl f.st.sub) (.inl h2)⟩
  | no=>simp only [Ip,hr] at q;exact q.elim
  | own d =>
   obtain ⟨a,o,h1,h2,h3,h4,h5⟩:=f.ow i d hr
   simp only [Ip,hr] at q
   exact ⟨_,h1,q _ H Hs (.refl f.st.sub) (.inr ⟨a,o,rfl,h2,h3,h5⟩)⟩
  | lck d =>
   obtain ⟨a,o,h1,h2,h3,h4,h5,h6⟩:=f.lk i d hr
   simp only [Ip,hr] at q
   exact ⟨_,h1,q _ H Hs (.refl f.st.sub) (.inr ⟨a,o,rfl,h3,h4,h6⟩)⟩
  | ow2 d=>simp only [Ip,hr] at q;exact q.elim
theorem sv {v:V}{d:D} (h:PE c.X e (tC v)) (r:∀ Hs,RD c.X.K Hs v d):JE c e (fun _=>.ok d):=.of fun ρ=>um h fun σ H Q h_2=>by obtain ⟨H0,Hs0,la,Hs,f,q⟩:=h_2;exact q v H Hs (.refl f.st.sub) (r Hs)
theorem ap {i:Int}{j:Nat}:JE c (.Constant (.int i) j pos) (fun _=>.ok (.int i)):=sv Af fun _=>.int i
theorem my {i:Bool}{j:Nat}:JE c (.Constant (.bool i) j pos) (fun _=>.ok (.bool i)):=sv NZ fun _=>.bool i
theorem eO {j:Nat}:JE c (.Constant .none j pos) (fun _=>.ok .none):=sv Vl fun _=>.none
theorem cf {i:Str}{j:Nat}:JE c (.Constant (.str i) j pos) (fun _=>.ok (.str i)):=sv N_ fun _=>.str i
theorem sw {x:Str}{i:Int} (hg:Gl c.X x) (hm:∃ t,c.X.mg x=some (.int i t)) (hd:(x == ("__debug__" : Str))=false:=by decide):JE c (.Name x pos) (fun _=>.ok (.int i)):=by
 obtain ⟨t,hm⟩:=hm
 exact sv (E8 hg hm (v:=.int i) ⟨t,rfl⟩ hd) fun _=>.int i
inductive rDI (K:a9) (h:D->D->R D) (x:V) (y:V) (H:Hp) (Q:VK):Prop
 | mk (Hs dx dy:_) (h0:eg Hs H) (h1:RB K H Hs x dx) (h2:RB K H Hs y dy) (h3:∃ d,h dx dy=.ok d/\∀ v H' Hs',dk H Hs H' Hs'->RD K Hs' v d->Q v H'):rDI K h x y H Q
def rD (K:a9) (h:D->D->R D):R2:=rDI K h
def zf (X:Cx) (f:ae->ae->Sem ae) (h:D->D->R D):Prop:=qB X f (rD X.K h)/\∀ x y c n,h x y≠.ex c n
def g2 (ga gb:au->R D) (h:D->D->R D):au->R D:=fun ρ=>(ga ρ).bind fun x=>(gb ρ).bind fun y=>h x y
theorem two {K:a9}{cls:Str->ai}{E:XK}{h:D->D->R D}{ρ:au}{σ:St}{H:Hp}{Q:VK} (hx:∀ x y c n,h x y≠.ex c n) (q:TR K cls E ρ (g2 ga gb h ρ) σ H Q):Xi (rD K h) (TB K cls E ρ (ga ρ)) (TB K cls E ρ (gb ρ)) σ H Q:=by
 obtain ⟨H0,Hs0,la,Hs,f,q⟩:=q
 refine one f q fun x v H1 Hs1 e1 s1 f1 r1=>?_
 unfold g2 at q
 rw [e1,bind_ok] at q
 refine one f1 (q.on s1 (q':=fun _=>True) fun _ _=>trivial) fun y u H2 Hs2 e2 s2 f2 r2=>?_
 rw [e2,bind_ok] at q
 cases hr:h x y with
 | ok d =>
  rw [hr] at q
  exact ⟨Hs2,x,y,f2.st.sub,r1.step s2,r2,d,hr,fun w H3 Hs3 s3 r3=>q w H3 Hs3 (s1.trans (s2.trans s3)) r3⟩
 | ex c n=>exact (hx x y c n hr).elim
 | no=>rw [hr] at q;exact q.elim
theorem b6 {op:Operator}{h:D->D->R D} (ho:zf c.X (eZ op) h) (ha:JB c a ga) (hb:JB c b gb):JE c (.BinOp a op b pos) (g2 ga gb h):=.of fun ρ=>um (Oa ho.1 (ha ρ) (hb ρ)) fun σ H Q q=>two ho.2 q
theorem AA {op:zD}{h:D->D->R D} (ho:zf c.X (bX op) h) (ha:JB c a ga) (hb:JB c b gb) (hm:h_ op b=false:=by first | exact IK _ | rfl):JE c (.Compare a [op] [b] pos) (g2 ga gb h):=.of fun ρ=>um (S2 ho.1 (ha ρ) (hb ρ) hm) fun σ H Q q=>two ho.2 q
def gN (g:au->R D):au->R Bool:=fun ρ=>(g ρ).bind fun d=>match d with
 | .bool b=>.ok b
 | _=>.no
theorem XQ {K:a9}{cls:Str->ai}{E:XK}{ρ:au}{σ:St}{H:Hp}{Q:Bool->Hp->Prop} (q:NF K cls E ρ (gN g ρ) σ H Q):TR K cls E ρ (g ρ) σ H fun x H'=>∃ k,x=.bl k/\Q k H':=by
 obtain ⟨H0,Hs0,la,Hs,f,q⟩:=q
 refine Gq f q fun d v H1 Hs1 e1 s1 f1 r1=>?_
 unfold gN at q
 rw [e1,bind_ok] at q
 cases r1 with
 | bool b=>exact ⟨b,rfl,q H1 Hs1 s1⟩
 | _=>exact q.elim
theorem cS {op:zD}{h:D->D->R D} (ho:zf c.X (bX op) h) (ha:JB c a ga) (hb:JB c b gb) (hm:h_ op b=false:=by first | exact IK _ | rfl):JT c (.Compare a [op] [b] pos) (gN (g2 ga gb h)):=.of fun ρ=>Zd (KB ho.1 (ha ρ) (hb ρ) hm) fun σ H Q q=>two ho.2 (XQ q)
theorem gF (h:JE c e g) (he:∀ whole,DZ e c.X.env whole=(do let v <- whole;C7 e.pos;holding [v] (truthy v)):=by intro _;rfl):JT c e (gN g):=.of fun ρ=>Zd (O1 (h ρ) he) fun σ H Q q=>XQ q
def mF (g:au->R Bool):au->R Bool:=fun ρ=>(g ρ).bind fun b=>.ok (!b)
def J6 (g h:au->R Bool):au->R Bool:=fun ρ=>(g ρ).bind fun b=>if b then h ρ else .ok false
def Mw (g h:au->R Bool):au->R Bool:=fun ρ=>(g ρ).bind fun b=>if b then .ok true else h ρ
variable {gt gu:au->R Bool}{bP:List aR}
theorem gG (h:JT c e gt):JT c (.UnaryOp .Not e pos) (mF gt):=.of fun ρ=>Zd (O4 (h ρ)) fun σ H Q q=>by
 obtain ⟨H0,Hs0,la,Hs,f,q⟩:=q
 refine OT f q fun d H1 Hs1 e1 s1 f1=>?_
 unfold mF at q
 rw [e1,bind_ok] at q
 exact q H1 Hs1 s1
theorem Ez (h:JT c a gt):JW c (.BoolOp .And [a] pos) gt:=.of fun ρ=>RW (h ρ)
theorem oR (h:JT c a gt):JW c (.BoolOp .Or [a] pos) gt:=.of fun ρ=>O3 (h ρ)
theorem J7 (h:JT c a gt) (h2:JW c (.BoolOp .And (b::bP) pos) gu):JW c (.BoolOp .And (a::b::bP) pos) (J6 gt gu):=.of fun ρ=>mPW (Vm (h ρ) (h2 ρ)) fun σ H Q q=>by
 obtain ⟨H0,Hs0,la,Hs,f,q⟩:=q
 refine OT f q fun d H1 Hs1 e1 s1 f1=>?_
 unfold J6 at q
 rw [e1,bind_ok] at q
 cases d with
 | true=>exact IT ⟨H0,Hs0,la,Hs1,f1,q.on s1 fun b k H2 Hs2 s2=>k H2 Hs2 (s1.trans s2)⟩
 | false=>exact Ee (q H1 Hs1 s1)
theorem uA (h:JT c a gt) (h2:JW c (.BoolOp .Or (b::bP) pos) gu):JW c (.BoolOp .Or (a::b::bP) pos) (Mw gt gu):=.of fun ρ=>mPW (Uf (h ρ) (h2 ρ)) fun σ H Q q=>by
 obtain ⟨H0,Hs0,la,Hs,f,q⟩:=q
 refine OT f q fun d H1 Hs1 e1 s1 f1=>?_
 unfold Mw at q
 rw [e1,bind_ok] at q
 cases d with
 | false=>exact Ee ⟨H0,Hs0,la,Hs1,f1,q.on s1 fun b k H2 Hs2 s2=>k H2 Hs2 (s1.trans s2)⟩
 | true=>exact IT (q H1 Hs1 s1)
theorem JW.t (h:JW c e gt):JT c e gt:=.of fun ρ=>(h ρ).pt
def KU (g:au->R D):au->R D:=fun ρ=>(gN g ρ).bind fun b=>.ok (.bool (!b))
theorem VY (h:JE c e g):JE c (.UnaryOp .Not e pos) (KU g):=.of fun ρ=>um (Vp (h ρ)) fun σ H Q q=>by
 refine XQ ?_
 obtain ⟨H0,Hs0,la,Hs,f,q⟩:=q
 refine OT f q fun d H1 Hs1 e1 s1 f1=>?_
 unfold KU at q
 rw [e1,bind_ok] at q
 exact q _ H1 Hs1 s1 (.bool _)
def AB (g h:au->R D):au->R D:=fun ρ=>(gN g ρ).bind fun b=>if b then h ρ else .ok (.bool false)
theorem J8 {op:BoolOp} (h:JE c a g):JE c (.BoolOp op [a] pos) g:=.of fun ρ=>Vn (h ρ)
theorem EA (h:JE c a ga) (h2:JE c (.BoolOp .And (b::bP) pos) gb):JE c (.BoolOp .And (a::b::bP) pos) (AB ga gb):=.of fun ρ=>um (Vo (h ρ) (h2 ρ)) fun σ H Q q=>by
 refine XQ ?_
 obtain ⟨H0,Hs0,la,Hs,f,q⟩:=q
 refine OT f q fun d H1 Hs1 e1 s1 f1=>?_
 unfold AB at q
 rw [e1,bind_ok] at q
 cases d with
 | true=>exact IT ⟨H0,Hs0,la,Hs1,f1,q.on s1 fun b k v H2 Hs2 s2 r2=>k v H2 Hs2 (s1.trans s2) r2⟩
 | false=>exact Ee (q _ H1 Hs1 s1 (.bool _))
def sx (ga gb gc:au->R D) (h h':D->D->R D):au->R D:=fun ρ=>(ga ρ).bind fun x=>(gb ρ).bind fun y=>(h x y).bind fun z=>match z with
 | .bool true=>(gc ρ).bind fun w=>h' y w
 | .bool false=>.ok (.bool false)
 | _=>.no
variable {es:List aR}{gs:au->R (List D)}
def ac (g:au->R D) (gs:au->R (List D)):au->R (List D):=fun ρ=>(g ρ).bind fun d=>(gs ρ).bind fun ds=>.ok (d::ds)
def aq:au->R (List D):=fun _=>.ok []
theorem ak:Ex c [] aq:=.of fun ρ=>XO eL fun σ H Q h_3=>by obtain ⟨H0,Hs0,la,Hs,f,q⟩:=h_3;exact q [] H Hs (.refl f.st.sub) .nil
theorem cg:Uy c [] aq:=.of fun ρ=>XO eL fun σ H Q h_4=>by obtain ⟨H0,Hs0,la,Hs,f,q⟩:=h_4;exact q [] H Hs (.refl f.st.sub) .nil
theorem a8 (h:JE c e g) (hr:Ex c es gs) (hs:aw (e::es) c.X.env=(false,cG e c.X.env)::aw es c.X.env:=by rfl):Ex c (e::es) (ac g gs):=.of fun ρ=>XO (c9 (h ρ) (hr ρ) hs) fun σ H Q h_5=>by
 obtain ⟨H0,Hs0,la,Hs,f,q⟩:=h_5
 refine Gq f q fun d v H1 Hs1 e1 s1 f1 r1=>?_
 unfold ac at q
 rw [e1,bind_ok] at q
 refine Ey f1 (q.on s1 (q':=fun _=>True) fun _ _=>trivial) fun ds vs H2 Hs2 e2 s2 f2 r2=>?_
 rw [e2,bind_ok] at q
 exact q _ H2 Hs2 (s1.trans s2) (.cons (r1.same s2.sh) r2)
theorem bO (h:JB c e g) (hr:Uy c es gs) (hs:aw (e::es) c.X.env=(false,cG e c.X.env)::aw es c.X.env:=by rfl):Uy c (e::es) (ac g gs):=.of fun ρ=>XO (c9 (h ρ) (hr ρ) hs) fun σ H Q h_6=>by
 obtain ⟨H0,Hs0,la,Hs,f,q⟩:=h_6
 refine one f q fun d v H1 Hs1 e1 s1 f1 r1=>?_
 unfold ac at q
 rw [e1,bind_ok] at q
 refine OU f1 (q.on s1 (q':=fun _=>True) fun _ _=>trivial) fun ds vs H2 Hs2 e2 s2 f2 r2=>?_
 rw [e2,bind_ok] at q
 exact q _ H2 Hs2 (s1.trans s2) (.cons (r1.step s2) r2)
def bq (gs:au->R (List D)) (k:List D->D):au->R D:=fun ρ=>(gs ρ).bind fun ds=>if ds.length<=1000 then .ok (k ds) else .no
theorem aS {x1} (h:Ex c es gs):JE c (.Tuple es x1 pos) (bq gs .tuple):=.of fun ρ=>um (Og (h ρ)) fun σ H Q h_7=>by
 obtain ⟨H0,Hs0,la,Hs,f,q⟩:=h_7
 refine Ey f q fun ds vs H1 Hs1 e1 s1 f1 r1=>?_
 unfold bq at q
 rw [e1,bind_ok] at q
 by_cases hl:ds.length<=1000
 ·rw [if_pos hl] at q
  refine ⟨bA (c8 (by rw [r1.length];exact hl)),fun p hp=>q _ _ _ (s1.trans (.new f1.st.sub hp)) (.tuple aU (r1.same (dk.new f1.st.sub hp).sh))⟩
 ·rw [if_neg hl] at q;exact q.elim
theorem dQ (h:Ex c es gs):JE c (.List es pos) (bq gs .list):=.of fun ρ=>um (jk (h ρ)) fun σ H Q h_8=>by
 obtain ⟨H0,Hs0,la,Hs,f,q⟩:=h_8
 refine Ey f q fun ds vs H1 Hs1 e1 s1 f1 r1=>?_
 unfold bq at q
 rw [e1,bind_ok] at q
 by_cases hl:ds.length<=1000
 ·rw [if_pos hl] at q
  refine ⟨bA (c8 (by rw [r1.length];exact hl)),fun p hp=>q _ _ _ (s1.trans (.new f1.st.sub hp)) (.list (.of aU) (r1.same (dk.new f1.st.sub hp).sh))⟩
 ·rw [if_neg hl] at q;exact q.elim
end
end
end J
namespace J
open PySem PySem.Spec PyProof.Rows L2
section
section
variable {X:Cx}
def cK:D->D->R D
 | .int i,.int j=>.ok (.int (i + j))
 | .str x,.str y=>if x.length + y.length<=1000 then .ok (.str (x++y)) else .no
 | .tuple xs,.tuple ys=>if xs.length + ys.length<=1000 then .ok (.tuple (xs++ys)) else .no
 | .list xs,.list ys=>if xs.length + ys.length<=1000 then .ok (.list (xs++ys)) else .no
 | _,_=>.no
inductive OV (K:a9) (x:V) (y:V) (H:Hp) (Q:VK):Prop
 | mk (l b xs zs:_) (h0:x=.ref l) (h1:y=.ref b) (h2:pJ K H l xs) (h3:pJ K H b zs) (h4:xs.length + zs.length<=sizeLine) (h5:∀ p,H p=none->Q (.ref p) (upd H p (.lst (xs++zs)))):OV K x y H Q
def XR (K:a9):R2:=OV K
theorem Sy:qB X (eZ .Add) (XR X.K):=by
 intro pins s σ H x y v u Q I rx ry h
 obtain ⟨l,b,xs,zs,rfl,rfl,h1,h2,hz,q⟩:=h
 cases rx;cases ry
 obtain ⟨its,r,⟨o,n,e,c1,c2,c3⟩,z⟩:=I.list h1
 obtain ⟨its2,r2,⟨o2,n2,e2,d1,d2,d3⟩,z2⟩:=I.list h2
 obtain ⟨k1,k2,k3,k4⟩:=o
 obtain ⟨m1,m2,m3,m4⟩:=o2
 simp only at c1 c2 c3 d1 d2 d3
 subst c1 c2 c3 d1 d2 d3
 refine C8 ⟨_,e,rfl⟩ ⟨_,e2,rfl⟩ noFill_list_add seq_list_add PySem.F.slot_list_add PySem.F.entry_list_add (PySem.F.args_list_add_2 _ _) (PyProof.Rows.list_addW l b _ _ n n2 _ _ k4 m4 (by rw [aI,aI,<- r.length,<- r2.length];exact hz)) ⟨e,e2,?_⟩
 have ea:its.toArray++its2.toArray=(its++its2).toArray:=by simp
 rw [ea]
 exact ⟨.ref _,_,I.lnew (t':=s.toks) (r.append r2) (by rw [bw];omega),rfl,q _ I.fresh⟩
inductive OW (K:a9) (x:V) (y:V) (H:Hp) (Q:VK):Prop
 | mk (a b ys:_) (h0:x=.ref a) (h1:y=.ref b) (h2:m5 K H a []) (h3:m5 K H b ys) (h4:Q (.ref b) H):OW K x y H Q
def XS (K:a9):R2:=OW K
theorem Sz:qB X (eZ .Add) (XS X.K):=by
 intro pins s σ H x y v u Q I rx ry h
 obtain ⟨a,b,ys,rfl,rfl,h1,h2,q⟩:=h
 cases rx;cases ry
 obtain ⟨its,r,⟨⟨k1,k2,k3,k4⟩,e,c1,n,c3⟩,z⟩:=I.tuple h1
 obtain ⟨its2,r2,⟨⟨m1,m2,m3,m4⟩,e2,d1,n2,d3⟩,z2⟩:=I.tuple h2
 simp only at c1 c3 d1 d3
 subst c1 c3 d1 d3
 cases r
 exact C8 ⟨_,e,rfl⟩ ⟨_,e2,rfl⟩ E3 LS qG pL (oH _ _)
  (PyProof.Rows.tuple_addW0 a b _ _ n n2 _ _ k4 m4 rfl) ⟨e,e2,⟨.ref b,H,I,rfl,q⟩⟩
theorem bG:zf X (eZ .Add) cK:=by
 refine ⟨fun pins s σ H x y v u Q I rv ru ⟨Hs,dx,dy,sub,rx,ry,d,hd,q⟩=>?_,fun x y c n=>?_⟩
 ·unfold cK at hd
  split at hd
  ·cases hd
   exact Vw pins s σ H x y v u Q I rv ru ⟨_,_,rx.int,ry.int,q _ H Hs (.refl sub) (.int _)⟩
  ·split at hd
   ·rename_i hz
    cases hd
    exact IM pins s σ H x y v u Q I rv ru ⟨_,_,rx.str,ry.str,bA (c8 hz),q _ H Hs (.refl sub) (.str _)⟩
   ·cases hd
  ·split at hd
   ·rename_i xs ys hz
    cases hd
    obtain ⟨a,vs,rfl,qa,ra,_⟩:=rx.tuple sub
    obtain ⟨b,ws,rfl,qb,rb,_⟩:=ry.tuple sub
    have hz':vs.length + ws.length<=sizeLine:=by rw [ra.length,rb.length];exact bA (c8 hz)
    have big:∀ p,H p=none->Q (.ref p) (upd H p (.tup (vs++ws))):=fun p hp=>q _ _ _ (.new sub hp) (.tuple aU ((ra.append rb).same (dk.new sub hp).sh))
    cases vs with
    | nil =>
     cases ra
     refine Sz pins s σ H _ _ v u Q I rv ru ⟨a,b,ws,rfl,rfl,qa,qb,?_⟩
     rcases ry with ry | ⟨_,_,_,_,_,ow⟩
     ·exact q _ H Hs (.refl sub) (by simpa using ry)
     ·cases ow
    | cons v0 vr =>
     refine S9 pins s σ H _ _ v u Q I rv ru ⟨a,b,_,ws,rfl,rfl,qa,qb,by simp,hz',fun e=>?_,fun _=>big⟩
     subst e
     cases rb
     rcases rx with rx | ⟨_,_,_,_,_,ow⟩
     ·exact q _ H Hs (.refl sub) (by simpa using rx)
     ·cases ow
   ·cases hd
  ·split at hd
   ·rename_i xs ys hz
    cases hd
    obtain ⟨a,vs,rfl,qa,ra⟩:=rx.list sub
    obtain ⟨b,ws,rfl,qb,rb⟩:=ry.list sub
    have hz':vs.length + ws.length<=sizeLine:=by rw [ra.length,rb.length];exact bA (c8 hz)
    exact Sy pins s σ H _ _ v u Q I rv ru ⟨a,b,vs,ws,rfl,rfl,qa,qb,hz',fun p hp=>q _ _ _ (.new sub hp) (.list (.of aU) ((ra.append rb).same (dk.new sub hp).sh))⟩
   ·cases hd
  ·cases hd
 ·unfold cK
  split<;>(try split)<;>exact fun h=>by cases h
def EB (C:Int->Int->Bool) (k:Int->Int->D):D->D->R D
 | .int i,.int j=>if C i j then .ok (k i j) else .no
 | _,_=>.no
theorem AC {f:ae->ae->Sem ae}{C:Int->Int->Bool}{P:Int->Int->Prop}{k:Int->Int->D}{kv:Int->Int->V} (h:qB X f (rI P kv)) (hC:∀ i j,C i j=true->P i j) (hk:∀ Hs i j,RD X.K Hs (kv i j) (k i j)):zf X f (EB C k):=by
 refine ⟨fun pins s σ H x y v u Q I rv ru ⟨Hs,dx,dy,sub,rx,ry,d,hd,q⟩=>?_,fun x y c n=>?_⟩
 ·unfold EB at hd
  split at hd
  ·split at hd
   ·rename_i hc
    cases hd
    exact h pins s σ H x y v u Q I rv ru ⟨_,_,rx.int,ry.int,hC _ _ hc,q _ H Hs (.refl sub) (hk _ _ _)⟩
   ·cases hd
  ·cases hd
 ·unfold EB
  split<;>(try split)<;>exact fun h=>by cases h
def Dw (i j:Int):Bool:=(decide (-(2 ^ 64)<i) && decide (i<2 ^ 64)) || (decide (-(2 ^ 64)<j) && decide (j<2 ^ 64))
theorem XT {g:Int->Int->V}{f:ae->ae->Sem ae} (h:qB X f (RX g)):qB X f (rI (fun _ _=>True) g):=fun pins s σ H x y v u Q I rv ru h_0=>by obtain ⟨i,j,a,b,_,q⟩:=h_0;exact h pins s σ H x y v u Q I rv ru ⟨i,j,a,b,q⟩
def EC:=EB (fun _ _=>true) fun i j=>.int (i - j)
def zg:=EB Dw fun i j=>.int (i * j)
def wn:=EB (fun _ j=>decide (0<j)) fun i j=>.int (i % j)
def OX:=EB (fun _ j=>decide (0<j) && decide (j<1073741824)) fun i j=>.int (i / j)
theorem u_:zf X (eZ .Sub) EC:=AC (XT Vx) (fun _ _ _=>trivial) fun _ _ _=>.int _
theorem sy:zf X (eZ .Mult) zg:=AC Vy (fun i j h=>by
 unfold Dw at h
 simp only [si,aL,decide_eq_true_eq] at h
 exact h) fun _ _ _=>.int _
theorem sA:zf X (eZ .Mod) wn:=AC Vz (fun i j h=>of_decide_eq_true h) fun _ _ _=>.int _
theorem SA:zf X (eZ .FloorDiv) OX:=AC RY (fun i j h=>by
 simp only [aL,decide_eq_true_eq] at h
 exact h) fun _ _ _=>.int _
def mz (neg:Bool) (x y:D):R D:=if x.canLay0 && y.canLay0 && decide (min x.depth y.depth<=60) then .ok (.bool (if neg then !bK x y else bK x y)) else .no
mutual
theorem ED:∀ d:D,d.canLay0=true->mx d=true
 | .none,_=>rfl
 | .bool _,_=>rfl
 | .int _,_=>rfl
 | .str _,_=>rfl
 | .list xs,h=>by
  simp only [j2] at h
  simp only [mx]
  exact lays_noD xs h
 | .tuple xs,h=>by
  simp only [j2] at h
  simp only [mx]
  exact lays_noD xs h
 | .dict _,h=>by simp [j2] at h
theorem lays_noD:∀ d:List D,dq d=true->noDs d=true
 | [],_=>rfl
 | x::r,h=>by
  simp only [dq,aL] at h
  simp only [noDs,aL]
  exact ⟨ED x h.1,lays_noD r h.2⟩
end
theorem OY {neg:Bool}{f:ae->ae->Sem ae} (h:qB X f (VR X.K neg)):zf X f (mz neg):=by
 refine ⟨fun pins s σ H x y v u Q I rv ru ⟨Hs,dx,dy,sub,rx,ry,d,hd,q⟩=>?_,fun x y c n=>?_⟩
 ·unfold mz at hd
  split at hd
  ·rename_i hc
   simp only [aL,decide_eq_true_eq] at hc
   cases hd
   exact h pins s σ H x y v u Q I rv ru ⟨dx,dy,(rx.full sub).rep (ED _ hc.1.1),(ry.full sub).rep (ED _ hc.1.2),hc.1.1,hc.1.2,hc.2,q _ H Hs (.refl sub) (.bool _)⟩
  ·cases hd
 ·unfold mz
  split<;>exact fun h=>by cases h
theorem o0 (hu:X.A.units + 64<ue):zf X (bX .Eq) (mz false):=OY (VS hu)
theorem wo (hu:X.A.units + 64<ue):zf X (bX .NotEq) (mz true):=OY (VT hu)
def Mx (k:Int->Int->Bool) (t:Str->Str->Bool):D->D->R D
 | .int i,.int j=>.ok (.bool (k i j))
 | .str x,.str y=>.ok (.bool (t x y))
 | _,_=>.no
theorem OZ {f:ae->ae->Sem ae}{k:Int->Int->Bool}{t:Str->Str->Bool} (h1:qB X f (RX fun i j=>.bl (k i j))) (h2:qB X f (fun x y H Q=>∃ i j,x=.str i/\y=.str j/\Q (.bl (t i j)) H)):zf X f (Mx k t):=by
 refine ⟨fun pins s σ H x y v u Q I rv ru ⟨Hs,dx,dy,sub,rx,ry,d,hd,q⟩=>?_,fun x y c n=>?_⟩
 ·unfold Mx at hd
  split at hd
  ·cases hd
   exact h1 pins s σ H x y v u Q I rv ru ⟨_,_,rx.int,ry.int,q _ H Hs (.refl sub) (.bool _)⟩
  ·cases hd
   exact h2 pins s σ H x y v u Q I rv ru ⟨_,_,rx.str,ry.str,q _ H Hs (.refl sub) (.bool _)⟩
  ·cases hd
 ·unfold Mx
  split<;>exact fun h=>by cases h
def C6:=Mx (fun i j=>decide (i<j)) nR
def Uz:=Mx (fun i j=>decide (i<=j)) fun x y=>!nR y x
def UA:D->D->R D
 | .int i,.int j=>.ok (.bool (decide (j<i)))
 | _,_=>.no
theorem pU:zf X (bX .Lt) C6:=OZ Xm Mb
theorem Dy:zf X (bX .LtE) Uz:=OZ Xn Mo
theorem KW:zf X (bX .Gt) UA:=by
 refine ⟨fun pins s σ H x y v u Q I rv ru ⟨Hs,dx,dy,sub,rx,ry,d,hd,q⟩=>?_,fun x y c n=>?_⟩
 ·unfold UA at hd
  split at hd
  ·cases hd
   exact Xo pins s σ H x y v u Q I rv ru ⟨_,_,rx.int,ry.int,q _ H Hs (.refl sub) (.bool _)⟩
  ·cases hd
 ·unfold UA
  split<;>exact fun h=>by cases h
def J9:D->Bool
 | .none=>true
 | _=>false
def VZ (neg:Bool):D->D->R D
 | x,.none=>.ok (.bool (if neg then !J9 x else J9 x))
 | _,_=>.no
theorem SB {K:a9}{H Hs:Hp}{v:V}{d:D} (h:RB K H Hs v d):decide (v=.non)=J9 d:=by
 rcases h with h | ⟨a,o,rfl,_,_,h⟩
 ·cases h<;>rfl
 ·cases h<;>rfl
theorem O_:zf X (bX .IsNot) (VZ true):=by
 refine ⟨fun pins s σ H x y v u Q I rv ru ⟨Hs,dx,dy,sub,rx,ry,d,hd,q⟩=>?_,fun x y c n=>?_⟩
 ·unfold VZ at hd
  split at hd
  ·cases hd
   exact S1 pins s σ H x y v u Q I rv ru ⟨ry.non,by rw [SB rx];exact q _ H Hs (.refl sub) (.bool _)⟩
  ·cases hd
 ·unfold VZ
  split<;>exact fun h=>by cases h
def mB:D->Bool
 | .none=>true
 | .bool _=>true
 | .int _=>true
 | .str _=>true
 | _=>false
def NG (neg:Bool):D->D->R D
 | x,.list ys=>if mB x && ys.all mB then .ok (.bool (if neg then !(ys.any fun y=>bK y x) else ys.any fun y=>bK y x)) else .no
 | x,.tuple ys=>if mB x && ys.all mB then .ok (.bool (if neg then !(ys.any fun y=>bK y x) else ys.any fun y=>bK y x)) else .no
 | _,_=>.no
theorem KY {K:a9}{H:Hp}{v:V}{d:D} (h:RD K H v d) (f:mB d=true):sr v=true:=by
 cases h<;>first | rfl | cases f
theorem Gr {K:a9}{H Hs:Hp}{v:V}{d:D} (h:RB K H Hs v d) (f:mB d=true):sr v=true:=by
 rcases h with h | ⟨a,o,rfl,_,_,h⟩
 ·exact KY h f
 ·cases h<;>cases f
theorem Gs {K:a9}{H:Hp}{vs:List V}:∀ {ds:List D},RDs K H vs ds->ds.all mB=true->vs.all sr=true:=by
 induction vs with
 | nil=>intro ds _ _;rfl
 | cons x r ih =>
  intro ds h f
  cases h with
  | cons h t =>
   rw [vS,aL] at f ⊢
   exact ⟨KY h f.1,ih t f.2⟩
theorem V_ {K:a9}{H H2 Hs:Hp}{v u:V}{d e:D} (h:RD K H v d) (h2:RB K H2 Hs u e) (f:mB d=true) (f2:mB e=true):Sc v u=bK d e:=by
 have h2':RD K Hs u e:=by
  rcases h2 with h2 | ⟨a,o,rfl,_,_,h2⟩
  ·exact h2
  ·cases h2<;>cases f2
 cases h with
 | list _ _=>cases f
 | tuple _ _=>cases f
 | dictK _ _=>cases f
 | dictT _ _ _=>cases f
 | dictF _ _ _=>cases f
 | none=>cases h2'<;>first | rfl | cases f2
 | bool b=>cases h2'<;>first | rfl | cases f2
 | int i=>cases h2'<;>first | rfl | cases f2
 | str x=>cases h2'<;>first | rfl | cases f2
theorem Ja {K:a9}{H H2 Hs:Hp}{u:V}{e:D} (h2:RB K H2 Hs u e) (f2:mB e=true):∀ {vs:List V}{ds:List D},RDs K H vs ds->ds.all mB=true->Z5 u vs=ds.any fun y=>bK y e
 | _,_,.nil,_=>rfl
 | _,_,.cons h t,f=>by
  rw [vS,aL] at f
  have:=Ja h2 f2 t f.2
  unfold Z5 at this ⊢
  rw [fG,fG,this,V_ h h2 f.1 f2]
theorem P0 {neg:Bool}{f:ae->ae->Sem ae} (h:qB X f (ZM X.K neg)):zf X f (NG neg):=by
 refine ⟨fun pins s σ H x y v u Q I rv ru ⟨Hs,dx,dy,sub,rx,ry,d,hd,q⟩=>?_,fun x y c n=>?_⟩
 ·unfold NG at hd
  split at hd
  ·split at hd
   ·rename_i hc
    simp only [aL] at hc
    cases hd
    obtain ⟨b,ws,rfl,qb,rb⟩:=ry.list sub
    refine h pins s σ H _ _ v u Q I rv ru ⟨b,ws,rfl,.inl qb,Gr rx hc.1,Gs rb hc.2,?_⟩
    rw [Ja rx hc.1 rb hc.2]
    exact q _ H Hs (.refl sub) (.bool _)
   ·cases hd
  ·split at hd
   ·rename_i hc
    simp only [aL] at hc
    cases hd
    obtain ⟨b,ws,rfl,qb,rb,_⟩:=ry.tuple sub
    refine h pins s σ H _ _ v u Q I rv ru ⟨b,ws,rfl,.inr qb,Gr rx hc.1,Gs rb hc.2,?_⟩
    rw [Ja rx hc.1 rb hc.2]
    exact q _ H Hs (.refl sub) (.bool _)
   ·cases hd
  ·cases hd
 ·unfold NG
  split<;>(try split)<;>exact fun h=>by cases h
theorem UB:zf X (bX .In) (NG false):=P0 Md
theorem P1:zf X (bX .NotIn) (NG true):=P0 Ec
end
end
end J
namespace J
open PySem L2
section
section
variable {c:C}{e a b:aR}{g ga gb:au->R D}{pos:Pos}
def Gu:D->D->R D
 | .list xs,.int i=>match Im xs i with
  | some d=>.ok d
  | none=>.no
 | .tuple xs,.int i=>match Im xs i with
  | some d=>.ok d
  | none=>.no
 | .str x,.int i=>if x.length<=1000 then (match Im x.cps.toList i with
  | some k=>.ok (.str ⟨#[k]⟩)
  | none=>.no) else .no
 | _,_=>.no
theorem KZ {K:a9}{H:Hp}{vs:List V}{ds:List D} (h:RDs K H vs ds) {i:Int}{d:D} (e:Im ds i=some d):∃ v,Im vs i=some v/\RD K H v d:=by
 unfold Im at e ⊢
 rw [h.length]
 cases hx:VF ds.length i with
 | none=>rw [hx] at e;cases e
 | some j =>
  rw [hx] at e
  exact h.get' e
theorem ZZ {X:Cx}:Xt X (rD X.K Gu):=by
 intro va sl pins s σ H x y v u Q I rv ru h
 obtain ⟨Hs,dx,dy,sub,rx,ry,d,hd,q⟩:=h
 unfold Gu at hd
 split at hd
 ·split at hd
  ·rename_i d' he
   cases hd
   obtain ⟨p,vs,rfl,qa,ra⟩:=rx.list sub
   obtain ⟨w,hw,rw'⟩:=KZ ra he
   exact lC va sl pins s σ H _ _ v u Q I rv ru ⟨p,vs,_,w,rfl,ry.int,qa,hw,q _ H Hs (.refl sub) rw'⟩
  ·cases hd
 ·split at hd
  ·rename_i d' he
   cases hd
   obtain ⟨p,vs,rfl,qa,ra,_⟩:=rx.tuple sub
   obtain ⟨w,hw,rw'⟩:=KZ ra he
   exact VG va sl pins s σ H _ _ v u Q I rv ru ⟨p,vs,_,w,rfl,ry.int,qa,hw,q _ H Hs (.refl sub) rw'⟩
  ·cases hd
 ·split at hd
  ·rename_i hz
   split at hd
   ·rename_i k he
    cases hd
    exact VH va sl pins s σ H _ _ v u Q I rv ru ⟨_,_,k,rx.str,ry.int,bA (c8 hz),he,q _ H Hs (.refl sub) (.str _)⟩
   ·cases hd
  ·cases hd
 ·cases hd
theorem W0 (x y:D) (c:Str) (n:Option D):Gu x y≠.ex c n:=by
 unfold Gu
 split<;>(try split)<;>(try split)<;>exact fun h=>by cases h
theorem XU (ha:JB c a ga) (hb:JB c b gb) (hs:qK b:=by exact fun _ _=>rfl):JE c (.Subscript a b pos) (g2 ga gb Gu):=.of fun ρ=>um (G5 ZZ (ha ρ) (hb ρ) hs) fun σ H Q q=>two W0 q
def sB (ds:List D) (lo hi:Option Int):List D:=(ds.drop (HT.jh ds.length 0 lo)).take (HT.jh ds.length ds.length hi - HT.jh ds.length 0 lo)
theorem EE {K:a9}{H:Hp}{vs:List V}{ds:List D} (h:RDs K H vs ds) (lo hi:Option Int):RDs K H (zb vs lo hi) (sB ds lo hi):=by
 unfold zb sB
 rw [h.length]
 exact (h.drop _).take _
def Dz:D->Option Int->Option Int->R D
 | .list xs,lo,hi=>.ok (.list (sB xs lo hi))
 | .tuple xs,lo,hi=>.ok (.tuple (sB xs lo hi))
 | _,_,_=>.no
inductive UC (K:a9) (x:V) (lo:Option Int) (hi:Option Int) (H:Hp) (Q:VK):Prop
 | mk (Hs dx:_) (h0:eg Hs H) (h1:RB K H Hs x dx) (h2:∃ d,Dz dx lo hi=.ok d/\∀ v H' Hs',dk H Hs H' Hs'->RD K Hs' v d->Q v H'):UC K x lo hi H Q
def Z_ (K:a9):V->Option Int->Option Int->Hp->VK->Prop:=UC K
theorem q00 {X:Cx}:Xr X (Z_ X.K):=by
 intro pins s σ H x v vl vu lo hi sl Q I rx hs pl pu h
 obtain ⟨Hs,dx,sub,rb,d,hd,q⟩:=h
 unfold Dz at hd
 split at hd
 ·cases hd
  obtain ⟨p,vs,rfl,qa,ra⟩:=rb.list sub
  exact KH pins s σ H _ v vl vu lo hi sl Q I rx hs pl pu ⟨p,vs,rfl,qa,fun l hl=>q _ _ _ (.new sub hl) (.list (.of aU) ((EE ra lo hi).same (dk.new sub hl).sh))⟩
 ·cases hd
  obtain ⟨p,vs,rfl,qa,ra,_⟩:=rb.tuple sub
  by_cases hw:HT.jh vs.length 0 lo=0/\HT.jh vs.length vs.length hi=vs.length
  ·refine Sv pins s σ H _ v vl vu lo hi sl Q I rx hs pl pu ⟨p,vs,rfl,qa,hw,?_⟩
   rcases rb with rb | ⟨_,_,_,_,_,ow⟩
   ·refine q _ H Hs (.refl sub) ?_
    unfold sB
    rw [<- ra.length,hw.1,hw.2,ra.length]
    simpa using rb
   ·cases ow
  ·exact VE pins s σ H _ v vl vu lo hi sl Q I rx hs pl pu ⟨p,vs,rfl,qa,hw,fun l hl=>q _ _ _ (.new sub hl) (.tuple aU ((EE ra lo hi).same (dk.new sub hl).sh))⟩
 ·cases hd
inductive XV (K:a9) (cls:Str->ai) (E:XK) (ρ:au) (r:R (Option Int)) (σ:St) (H:Hp) (Q:Option Int->Hp->Prop):Prop
 | mk (H0 Hs0:Hp) (la:Nat->Option ai) (Hs:Hp) (f:Fr K H0 Hs0 la ρ σ H Hs) (q:Fin K cls E H Hs r fun d=>∀ H' Hs',dk H Hs H' Hs'->Q d H'):XV K cls E ρ r σ H Q
def TOr (K:a9) (cls:Str->ai) (E:XK) (ρ:au) (r:R (Option Int)):TO:=XV K cls E ρ r
structure JO (c:C) (e:Option aR) (g:au->R (Option Int)):Prop where of ::
 run:∀ ρ,PO c.X e (TOr c.X.K c.cls c.E ρ (g ρ))
instance {c:C}{e:Option aR}{g:au->R (Option Int)}:CoeFun (JO c e g) (fun _=>∀ ρ,PO c.X e (TOr c.X.K c.cls c.E ρ (g ρ))):=⟨JO.run⟩
theorem mPO {X:Cx}{e:Option aR}{t t':TO} (h:PO X e t) (m:∀ σ H Q,t' σ H Q->t σ H Q):PO X e t':=fun pins s σ H Q I q=>h pins s σ H Q I (m σ H Q q)
def uB:au->R (Option Int):=fun _=>.ok none
def uo (g:au->R D):au->R (Option Int):=fun ρ=>(g ρ).bind fun d=>match d with
 | .int i=>.ok (some i)
 | _=>.no
theorem cV:JO c none uB:=.of fun ρ=>mPO S7 fun σ H Q h_0=>by obtain ⟨H0,Hs0,la,Hs,f,q⟩:=h_0;exact q H Hs (.refl f.st.sub)
theorem cW (h:JE c e g):JO c (some e) (uo g):=.of fun ρ=>mPO (S8 (h ρ)) fun σ H Q h_1=>by
 obtain ⟨H0,Hs0,la,Hs,f,q⟩:=h_1
 refine Gq f q fun d v H1 Hs1 e1 s1 f1 r1=>?_
 unfold uo at q
 rw [e1,bind_ok] at q
 cases r1 with
 | int i=>exact ⟨i,rfl,q H1 Hs1 s1⟩
 | _=>exact q.elim
theorem SC {K:a9}{cls:Str->ai}{E:XK}{ρ:au}{r:R (Option Int)}{β:Type}{k:Option Int->R β}{σ:St}{H:Hp}{H0 Hs0 Hs:Hp}{la:Nat->Option ai}{Q:Option Int->Hp->Prop}{q:β->Prop} (f:Fr K H0 Hs0 la ρ σ H Hs)
  (h:Fin K cls E H Hs (r.bind k) q) (m:∀ d H' Hs',r=.ok d->dk H Hs H' Hs'->Fr K H0 Hs0 la ρ σ H' Hs'->Q d H'):TOr K cls E ρ r σ H Q:=by
 refine ⟨H0,Hs0,la,Hs,f,?_⟩
 cases r with
 | ok d=>exact fun H' Hs' s=>m d H' Hs' rfl s (f.step s)
 | ex c n=>exact h
 | no=>exact h
def uC (g:au->R D) (gl gh:au->R (Option Int)):au->R D:=fun ρ=>(g ρ).bind fun x=>(gl ρ).bind fun l=>(gh ρ).bind fun h=>Dz x l h
theorem cp {lo hi:Option aR}{gl gh:au->R (Option Int)}{p2:Pos} (he:JB c e g) (hl:JO c lo gl) (hh:JO c hi gh):JE c (.Subscript e (.Slice lo hi none p2) pos) (uC g gl gh):=.of fun ρ=>um (G4 q00 (he ρ) (hl ρ) (hh ρ)) fun σ H Q h_2=>by
 obtain ⟨H0,Hs0,la,Hs,f,q⟩:=h_2
 refine one f q fun d v H1 Hs1 e1 s1 f1 r1=>?_
 unfold uC at q
 rw [e1,bind_ok] at q
 refine SC f1 (q.on s1 (q':=fun _=>True) fun _ _=>trivial) fun l H2 Hs2 e2 s2 f2=>?_
 rw [e2,bind_ok] at q
 refine SC f2 (q.on (s1.trans s2) (q':=fun _=>True) fun _ _=>trivial) fun h H3 Hs3 e3 s3 f3=>?_
 rw [e3,bind_ok] at q
 cases hr:Dz d l h with
 | ok z=>rw [hr] at q;exact ⟨Hs3,d,f3.st.sub,(r1.step s2).step s3,z,hr,fun w H4 Hs4 s4 r4=>q w H4 Hs4 (s1.trans (s2.trans (s3.trans s4))) r4⟩
 | ex c n=>unfold Dz at hr;split at hr<;>cases hr
 | no=>rw [hr] at q;exact q.elim
inductive rCI (K:a9) (h:List D->R D) (xs:List V) (H:Hp) (Q:VK):Prop
 | mk (Hs ds:_) (h0:eg Hs H) (h1:Ux K H Hs xs ds) (h2:∃ d,h ds=.ok d/\∀ v H' Hs',dk H Hs H' Hs'->RD K Hs' v d->Q v H'):rCI K h xs H Q
def rC (K:a9) (h:List D->R D):List V->Hp->VK->Prop:=rCI K h
def NH (X:Cx) (f:ae) (h:List D->R D):Prop:=kc X f (rC X.K h)/\∀ x c n,h x≠.ex c n
def cJ (gs:au->R (List D)) (h:List D->R D):au->R D:=fun ρ=>(gs ρ).bind h
theorem UD {K:a9}{cls:Str->ai}{E:XK}{h:List D->R D}{gs:au->R (List D)}{ρ:au}{σ:St}{H:Hp}{Q:VK} (hx:∀ x c n,h x≠.ex c n) (q:TR K cls E ρ (cJ gs h ρ) σ H Q):Xp (rC K h) (Zc K cls E ρ (gs ρ)) σ H Q:=by
 obtain ⟨H0,Hs0,la,Hs,f,q⟩:=q
 refine OU f q fun ds vs H1 Hs1 e1 s1 f1 r1=>?_
 unfold cJ at q
 rw [e1,bind_ok] at q
 cases hr:h ds with
 | ok d =>
  rw [hr] at q
  exact ⟨Hs1,ds,f1.st.sub,r1,d,hr,fun w H3 Hs3 s3 r3=>q w H3 Hs3 (s1.trans s3) r3⟩
 | ex c n=>exact (hx ds c n hr).elim
 | no=>rw [hr] at q;exact q.elim
variable {es:List aR}{gs:au->R (List D)}{x:Str}{p:Pos}{id T:String}{h:List D->R D}
theorem cx (hc:NH c.X (.builtin id) h) (hg:Gl c.X x) (hm:c.X.mg x=none) (hv:iQ x=some (.builtin id)) (ha:Uy c (e::es) gs) (hn:x≠"__name__":=by decide) (hdb:(x == ("__debug__" : Str))=false:=by decide)
  (he:aw (e::es) c.X.env=(false,cG e c.X.env)::aw es c.X.env:=by rfl) (hpl:(dL pos (aw es c.X.env)).any (·.1)=false:=by rfl):JE c (.Call (.Name x p) (e::es) [] pos) (cJ gs h):=.of fun ρ=>um (pQ hc.1 hg hm hv (ha ρ) hn hdb he hpl) fun σ H Q q=>UD hc.2 q
theorem fe (hc:NH c.X (.type T) h) (hg:Gl c.X x) (hm:c.X.mg x=none) (hv:iQ x=some (.type T)) (ha:Uy c (e::es) gs) (hn:x≠"__name__":=by decide) (hdb:(x == ("__debug__" : Str))=false:=by decide)
  (he:aw (e::es) c.X.env=(false,cG e c.X.env)::aw es c.X.env:=by rfl) (hpl:(dL pos (aw es c.X.env)).any (·.1)=false:=by rfl):JE c (.Call (.Name x p) (e::es) [] pos) (cJ gs h):=.of fun ρ=>um (Dl hc.1 hg hm hv (ha ρ) hn hdb he hpl) fun σ H Q q=>UD hc.2 q
end
end
section
section
variable {X:Cx}
theorem Ux.one {K:a9}{H Hs:Hp}{xs:List V}{d:D} (h:Ux K H Hs xs [d]):∃ x,xs=[x]/\RB K H Hs x d:=by
 cases h with | cons a t=>cases t;exact ⟨_,rfl,a⟩
def jQ (h:D->R D):List D->R D
 | [d]=>h d
 | _=>.no
theorem v3 {f:ae}{h:D->R D} (hx:∀ d c n,h d≠.ex c n)
  (hr:∀ pins s σ H x u Q Hs d d',bI X pins σ H s->dW x u->eg Hs H->RB X.K H Hs x d->h d=.ok d'->(∀ v H' Hs',dk H Hs H' Hs'->RD X.K Hs' v d'->Q v H')->av (aG X.prog X.w) X.A (call f [u]) (EP X pins σ Q) X.xe s):NH X f (jQ h):=by
 refine ⟨fun pins s σ H xs us Q I r ⟨Hs,ds,sub,rb,d,hd,q⟩=>?_,fun x c n=>?_⟩
 ·unfold jQ at hd
  split at hd
  ·obtain ⟨x,rfl,rx⟩:=rb.one
   obtain ⟨u,rfl,ru⟩:=ms r
   exact hr pins s σ H x u Q Hs _ _ I ru sub rx hd q
  ·cases hd
 ·unfold jQ
  split
  ·exact hx _ _ _
  ·exact fun h=>by cases h
def lS:D->R D
 | .list xs=>.ok (.int xs.length)
 | .tuple xs=>.ok (.int xs.length)
 | .str x=>if x.length<=1000 then .ok (.int x.length) else .no
 | _=>.no
theorem RDk.length {K:a9}{H:Hp}{vs:List (gy×V)}:∀ {ds:List (D×D)},RDk K H vs ds->vs.length=ds.length:=by
 induction vs with
 | nil=>intro ds h;cases h;rfl
 | cons x r ih=>intro ds h;cases h with | cons a b=>exact congrArg (· + 1) (ih b)
theorem RB.dict {K:a9}{H Hs:Hp}{v:V}{ds:List (D×D)} (sub:eg Hs H) (h:RB K H Hs v (.dict ds)):∃ a,v=.ref a/\((∃ kvs,H a=some (.dK kvs)/\RDk K Hs kvs ds)\/(∃ kvs,H a=some (.dT kvs)/\kvs≠[]/\RDt K Hs kvs ds)\/∃ o kvs es,ds=(.none,.none)::es/\H a=some (.frz o (.dT kvs))/\kvs≠[]/\RDt K Hs kvs es):=by
 rcases h with h | ⟨a,o,rfl,h2,h3,h4⟩
 ·cases h with
  | dictK q r=>exact ⟨_,rfl,.inl ⟨_,sub _ _ q,r⟩⟩
  | dictT q n r=>exact ⟨_,rfl,.inr (.inl ⟨_,sub _ _ q,n,r⟩)⟩
  | dictF q n r=>exact ⟨_,rfl,.inr (.inr ⟨_,_,_,rfl,sub _ _ q,n,r⟩)⟩
 ·cases h4 with
  | dK r=>exact ⟨a,rfl,.inl ⟨_,h2,r⟩⟩
  | dT n r=>exact ⟨a,rfl,.inr (.inl ⟨_,h2,n,r⟩)⟩
  | dF n r=>exact ⟨a,rfl,.inr (.inr ⟨_,_,_,rfl,h2,n,r⟩)⟩
theorem iD:NH X (.builtin "len") (jQ lS):=by
 refine v3 (fun d c n=>?_) fun pins s σ H x u Q Hs d d' I ru sub rx hd q=>?_
 ·unfold lS
  split<;>(try split)<;>exact fun h=>by cases h
 ·unfold lS at hd
  split at hd
  ·cases hd
   obtain ⟨a,vs,rfl,qa,ra⟩:=rx.list sub
   refine w4 pins s σ H _ _ Q I (.cons ru .nil) ⟨a,vs,rfl,.inl qa,?_⟩
   rw [ra.length]
   exact q _ H Hs (.refl sub) (.int _)
  ·cases hd
   obtain ⟨a,vs,rfl,qa,ra,_⟩:=rx.tuple sub
   refine w4 pins s σ H _ _ Q I (.cons ru .nil) ⟨a,vs,rfl,.inr qa,?_⟩
   rw [ra.length]
   exact q _ H Hs (.refl sub) (.int _)
  ·split at hd
   ·rename_i hz
    cases hd
    exact Ed pins s σ H _ _ Q I (.cons ru .nil) ⟨_,by rw [rx.str],bA (c8 hz),q _ H Hs (.refl sub) (.int _)⟩
   ·cases hd
  ·cases hd
def v4 (T:String) (d:D):Bool:=match T,d with
 | "str",.str _=>true
 | "int",.int _=>true
 | "int",.bool _=>true
 | "bool",.bool _=>true
 | "list",.list _=>true
 | "tuple",.tuple _=>true
 | _,_=>false
def xK (g:au->R D) (T:String):au->R D:=fun ρ=>(g ρ).bind fun d=>if mx d then .ok (.bool (v4 T d)) else .no
theorem SD {K:a9}{d:D} (T:String) (hT:T="str"\/T="int"\/T="bool"\/T="list"\/T="tuple") (h:mx d=true):dO K (.type (ZY d)) (.type T)=some (v4 T d):=by
 rcases hT with rfl | rfl | rfl | rfl | rfl<;>cases d<;>first | rfl | simp [mx] at h
theorem oS {c:C}{e:aR}{g:au->R D}{p p2 pos:Pos}{T:Str}{Ts:String} (h:JB c e g) (hgi:Gl c.X "isinstance") (hi:c.X.mg "isinstance"=none) (hgT:Gl c.X T) (hT:c.X.mg T=none) (hv:iQ T=some (.type Ts))
  (hTs:Ts="str"\/Ts="int"\/Ts="bool"\/Ts="list"\/Ts="tuple")
  (hn:T≠"__name__":=by decide) (hdb:(T == ("__debug__" : Str))=false:=by decide)
  (he:aw [e,.Name T p2] c.X.env=(false,cG e c.X.env)::aw [.Name T p2] c.X.env:=by rfl) (hpl:(dL pos (aw [.Name T p2] c.X.env)).any (·.1)=false:=by rfl) :
  JE c (.Call (.Name "isinstance" p) [e,.Name T p2] [] pos) (xK g Ts):=.of fun ρ=>by
 refine um (pQ OQ hgi hi kP (c9 (h ρ) (c9 (Ky hgT hT hv (v:=.ty Ts) rfl hn hdb) eL) he) (by decide) (by decide) he hpl) fun σ H Q h_0=>?_
 obtain ⟨H0,Hs0,la,Hs,f,q⟩:=h_0
 refine one f q fun d v H1 Hs1 e1 s1 f1 r1=>?_
 unfold xK at q
 rw [e1,bind_ok] at q
 by_cases hd:mx d=true
 ·rw [if_pos hd] at q
  exact ⟨v,d,Ts,_,rfl,(r1.full f1.st.sub).rep hd,SD Ts hTs hd,q _ H1 Hs1 s1 (.bool _)⟩
 ·rw [if_neg hd] at q;exact q.elim
def o6:List D->Option (List Bool)
 | []=>some []
 | .bool b::r=>(o6 r).map (b::·)
 | _::_=>none
theorem EF {ds:List D}:∀ {bs:List Bool},o6 ds=some bs->ds=bs.map db:=by
 induction ds with
 | nil=>intro bs h;cases h;rfl
 | cons d r ih =>
  intro bs h
  cases d with
  | bool b =>
   have h:(o6 r).map (b::·)=some bs:=h
   cases hr:o6 r with
   | none=>rw [hr] at h;cases h
   | some z=>rw [hr] at h;cases h;rw [ih hr];rfl
  | _=>cases h
def iV (k:List Bool->Bool):D->R D
 | .list ds=>match o6 ds with
  | some bs=>.ok (.bool (k bs))
  | none=>.no
 | _=>.no
theorem Gv {id:String}{k:List Bool->Bool} (h:kc X (.builtin id) (fun xs H Q=>∃ p,∃ bs:List Bool,xs=[.ref p]/\pJ X.K H p (bs.map V.bl)/\Q (.bl (k bs)) H)):NH X (.builtin id) (jQ (iV k)):=by
 refine v3 (fun d c n=>?_) fun pins s σ H x u Q Hs d d' I ru sub rx hd q=>?_
 ·unfold iV
  split<;>(try split)<;>exact fun h=>by cases h
 ·unfold iV at hd
  split at hd
  ·split at hd
   ·rename_i bs hb
    cases hd
    obtain ⟨a,vs,rfl,qa,ra⟩:=rx.list sub
    rw [EF hb] at ra
    rw [Ct ra] at qa
    exact h pins s σ H _ _ Q I (.cons ru .nil) ⟨a,bs,rfl,qa,q _ H Hs (.refl sub) (.bool _)⟩
   ·cases hd
  ·cases hd
theorem v5 (hc:X.calm=true):NH X (.builtin "all") (jQ (iV fun bs=>bs.all id)):=Gv (Aq hc)
theorem W2 (hc:X.calm=true):NH X (.builtin "any") (jQ (iV fun bs=>bs.any id)):=Gv (Ar hc)
def oT (x:Str):List D:=x.cps.toList.map fun c=>aM ⟨#[c]⟩
theorem My {K:a9}{H:Hp} (x:Str):RDs K H (Ay x) (oT x):=by
 unfold Ay oT
 induction x.cps.toList with
 | nil=>exact .nil
 | cons a r ih=>exact .cons (.str _) ih
def iE:D->R D
 | .list xs=>.ok (.tuple xs)
 | .tuple xs=>.ok (.tuple xs)
 | .str x=>if x.cps.size<=1000 then .ok (.tuple (oT x)) else .no
 | _=>.no
theorem jr (hc:X.calm=true):NH X (.type "tuple") (jQ iE):=by
 refine v3 (fun d c n=>?_) fun pins s σ H x u Q Hs d d' I ru sub rx hd q=>?_
 ·unfold iE
  split<;>(try split)<;>exact fun h=>by cases h
 ·unfold iE at hd
  split at hd
  ·cases hd
   obtain ⟨a,vs,rfl,qa,ra⟩:=rx.list sub
   exact uz pins s σ H _ _ Q I (.cons ru .nil) ⟨a,vs,rfl,.inl ⟨qa,fun l hl=>q _ _ _ (.new sub hl) (.tuple aU (ra.same (dk.new sub hl).sh))⟩⟩
  ·cases hd
   obtain ⟨a,vs,rfl,qa,ra,_⟩:=rx.tuple sub
   refine uz pins s σ H _ _ Q I (.cons ru .nil) ⟨a,vs,rfl,.inr ⟨qa,?_⟩⟩
   rcases rx with rx | ⟨_,_,_,_,_,ow⟩
   ·exact q _ H Hs (.refl sub) rx
   ·cases ow
  ·split at hd
   ·rename_i hz
    cases hd
    exact ze hc pins s σ H _ _ Q I (.cons ru .nil) ⟨_,by rw [rx.str],bA (c8 hz),fun l hl=>q _ _ _ (.new sub hl) (.tuple aU (My _))⟩
   ·cases hd
  ·cases hd
def DA:D->R D
 | .list xs=>.ok (.list xs)
 | .tuple xs=>.ok (.list xs)
 | _=>.no
theorem SE:NH X (.type "list") (jQ DA):=by
 refine v3 (fun d c n=>?_) fun pins s σ H x u Q Hs d d' I ru sub rx hd q=>?_
 ·unfold DA
  split<;>exact fun h=>by cases h
 ·unfold DA at hd
  split at hd
  ·cases hd
   obtain ⟨a,vs,rfl,qa,ra⟩:=rx.list sub
   exact w5 pins s σ H _ _ Q I (.cons ru .nil) ⟨a,vs,rfl,.inl qa,fun l hl=>q _ _ _ (.new sub hl) (.list (.of aU) (ra.same (dk.new sub hl).sh))⟩
  ·cases hd
   obtain ⟨a,vs,rfl,qa,ra,_⟩:=rx.tuple sub
   exact w5 pins s σ H _ _ Q I (.cons ru .nil) ⟨a,vs,rfl,.inr qa,fun l hl=>q _ _ _ (.new sub hl) (.list (.of aU) (ra.same (dk.new sub hl).sh))⟩
  ·cases hd
def gU:List D->Option (List Str)
 | []=>some []
 | .str b::r=>(gU r).map (b::·)
 | _::_=>none
theorem sC {ds:List D}:∀ {bs:List Str},gU ds=some bs->ds=bs.map aM:=by
 induction ds with
 | nil=>intro bs h;cases h;rfl
 | cons d r ih =>
  intro bs h
  cases d with
  | str b =>
   have h:(gU r).map (b::·)=some bs:=h
   cases hr:gU r with
   | none=>rw [hr] at h;cases h
   | some z=>rw [hr] at h;cases h;rw [ih hr];rfl
  | _=>cases h
@[simp] theorem strsOf_map:∀ bs:List Str,gU (bs.map aM)=some bs
 | []=>rfl
 | b::r=>by show (gU (r.map aM)).map (b::·)=_;rw [strsOf_map r];rfl
def tQ:D->R D
 | .list ds=>match gU ds with
  | some ss=>if ss.length<64 then .ok (.list ((kR ss).map .str)) else .no
  | none=>.no
 | _=>.no
theorem Mz:NH X (.builtin "sorted") (jQ tQ):=by
 refine v3 (fun d c n=>?_) fun pins s σ H x u Q Hs d d' I ru sub rx hd q=>?_
 ·unfold tQ
  split<;>(try split)<;>(try split)<;>exact fun h=>by cases h
 ·unfold tQ at hd
  split at hd
  ·split at hd
   ·split at hd
    ·rename_i ss hs hz
     cases hd
     obtain ⟨a,vs,rfl,qa,ra⟩:=rx.list sub
     rw [sC hs] at ra
     rw [qO ra] at qa
     exact xJ pins s σ H _ _ Q I (.cons ru .nil) ⟨a,ss,rfl,qa,hz,fun l hl=>q _ _ _ (.new sub hl) (.list (.of aU) (Az _))⟩
    ·cases hd
   ·cases hd
  ·cases hd
end
end
section
inductive XX (K:a9) (cls:Str->ai) (n:Nat) (F:List D->R D) (vs:List V) (H:Hp) (Q:VK) (E:XK):Prop
 | mk (Hs ds:_) (h0:eg Hs H) (h1:ds.length=n) (h2:RDs K Hs vs ds) (h3:Fin K cls E H Hs (F ds) fun d=>∀ v H' Hs',dk H Hs H' Hs'->RD K Hs' v d->Q v H'):XX K cls n F vs H Q E
def UE (K:a9) (cls:Str->ai) (n:Nat) (F:List D->R D):Sp:=XX K cls n F
structure Fn (P:aH) (w:b9) (K:a9) (mg:Str->Option ae) (base:br) (cls:Str->ai) (x:Str) (k n:Nat) (F:List D->R D):Prop where
 ex:∃ f fd ps,uj P w K mg base (kg P w) k f fd ps (UE K cls n F)/\mg x=some (.ref f)/\eE K (.ref f)=true/\kQ K fd ps []
section
variable {c:C}{e a b:aR}{g ga gb:au->R D}{pos:Pos}{es:List aR}{gs:au->R (List D)}{x:Str}{p:Pos}
def da (n:Nat) (F:List D->R D) (gs:au->R (List D)):au->R D:=fun ρ=>(gs ρ).bind fun ds=>if ds.length=n then F ds else .no
theorem SG {k n:Nat}{F:List D->R D} (G:Fn c.X.prog c.X.w c.X.K c.X.mg c.X.base c.cls x k n F) (hr:jH k c.X.A) (hg:Gl c.X x) (hx:kd (kg c.X.prog c.X.w) c.X c.E) (ha:Ex c (e::es) gs)
  (hdb:(x == ("__debug__" : Str))=false:=by decide) (he:aw (e::es) c.X.env=(false,cG e c.X.env)::aw es c.X.env:=by rfl) (hpl:(dL pos (aw es c.X.env)).any (·.1)=false:=by rfl) :
  JE c (.Call (.Name x p) (e::es) [] pos) (da n F gs):=.of fun ρ=>by
 obtain ⟨f,fd,ps,hf,hm,hk,hb⟩:=G.ex
 refine um (S4 (E:=c.E) hf hr hg hm hk hb .nil hx (ha ρ) hdb he hpl) fun σ H Q h_0=>?_
 obtain ⟨H0,Hs0,la,Hs,fr,q⟩:=h_0
 refine Ey fr q fun ds vs H1 Hs1 e1 s1 f1 r1=>?_
 unfold da at q
 rw [e1,bind_ok] at q
 by_cases hn:ds.length=n
 ·rw [if_pos hn] at q
  show UE _ _ _ _ (vs++[]) _ _ _
  rw [c_]
  exact ⟨Hs1,ds,f1.st.sub,hn,r1,q.on s1 fun d k v H2 Hs2 s2 r2=>k v H2 Hs2 (s1.trans s2) r2⟩
 ·rw [if_neg hn] at q;exact q.elim
end
inductive Fl where
 | nx (ρ:au)
 | rt (d:D)
 | bk (ρ:au)
 | ct (ρ:au)
def n5 (K:a9) (cls:Str->ai) (E:XK) (H0 Hs0:Hp) (la:Nat->Option ai) (D:ui) (r:R Fl):Prop:=match r with
 | .ok (.nx ρ')=>∀ σ' H' Hs',Fr K H0 Hs0 la ρ' σ' H' Hs'->D.nx σ' H'
 | .ok (.bk ρ')=>∀ σ' H' Hs',Fr K H0 Hs0 la ρ' σ' H' Hs'->D.bk σ' H'
 | .ok (.ct ρ')=>∀ σ' H' Hs',Fr K H0 Hs0 la ρ' σ' H' Hs'->D.ct σ' H'
 | .ok (.rt d)=>∀ v H' Hs',dk H0 Hs0 H' Hs'->RD K Hs' v d->D.rt v H'
 | .ex c n=>∀ H' Hs',dk H0 Hs0 H' Hs'->XW K cls E c n H' Hs'
 | .no=>False
inductive SRI (K:a9) (cls:Str->ai) (E:XK) (ρ:au) (r:R Fl) (D:ui) (σ:St) (H:Hp):Prop
 | mk (H0 Hs0:Hp) (la:Nat->Option ai) (Hs:Hp) (f:Fr K H0 Hs0 la ρ σ H Hs) (q:n5 K cls E H0 Hs0 la D r):SRI K cls E ρ r D σ H
def SR (K:a9) (cls:Str->ai) (E:XK) (ρ:au) (r:R Fl):TS:=SRI K cls E ρ r
structure JS (c:C) (s:bH) (g:au->R Fl):Prop where of ::
 run:∀ ρ,PS c.X s (SR c.X.K c.cls c.E ρ (g ρ))
instance {c:C}{s:bH}{g:au->R Fl}:CoeFun (JS c s g) (fun _=>∀ ρ,PS c.X s (SR c.X.K c.cls c.E ρ (g ρ))):=⟨JS.run⟩
structure Gw (c:C) (s:List bH) (g:au->R Fl):Prop where of ::
 run:∀ ρ,FT c.X s (SR c.X.K c.cls c.E ρ (g ρ))
instance {c:C}{s:List bH}{g:au->R Fl}:CoeFun (Gw c s g) (fun _=>∀ ρ,FT c.X s (SR c.X.K c.cls c.E ρ (g ρ))):=⟨Gw.run⟩
theorem Fr.set {K:a9}{H0 Hs0 H Hs:Hp}{la:Nat->Option ai}{ρ:au}{σ:St} (f:Fr K H0 Hs0 la ρ σ H Hs) (i:Nat) {v:V}{d:D} (r:RD K Hs v d):Fr K H0 Hs0 la (ρ.set i (.shr d)) (σ.set i (some v)) H Hs:=by
 have hl:=f.len
 have nx:∀ {j:Nat}{s:Sl},(∀ d,s≠.shr d)->(ρ.set i (.shr d))[j]?=some s->ρ[j]?=some s/\i≠j:=fun {j s} hs e=>by
  by_cases hj:i=j
  ·subst hj
   by_cases hi:i<ρ.length
   ·rw [aB hi] at e;exact absurd (bL e).symm (hs d)
   ·rw [bT (by simpa using hi)] at e;cases e
  ·rw [am hj] at e;exact ⟨e,hj⟩
 refine ⟨f.st,by simp [hl],fun j e h=>?_,fun j e h=>?_,fun j e h=>?_,fun j k d1 d2 a h1 h2 h3 h4=>?_,f.lh,fun j e h=>?_,fun j k d1 d2 h1 h2=>?_⟩
 ·by_cases hj:i=j
  ·subst hj
   by_cases hi:i<ρ.length
   ·rw [aB hi] at h
    cases h
    exact ⟨v,aB (by omega),r⟩
   ·rw [bT (by simpa using hi)] at h;cases h
  ·rw [am hj] at h ⊢
   exact f.sh j e h
 ·obtain ⟨h,hj⟩:=nx (fun _ z=>by cases z) h
  rw [am hj]
  exact f.ow j e h
 ·obtain ⟨h,hj⟩:=nx (fun _ z=>by cases z) h
  rw [am hj]
  exact f.lk j e h
 ·obtain ⟨h1,n1⟩:=nx (fun _ z=>by cases z) h1
  obtain ⟨h2,n2⟩:=nx (fun _ z=>by cases z) h2
  rw [am n1] at h3
  rw [am n2] at h4
  exact f.dj j k d1 d2 a h1 h2 h3 h4
 ·obtain ⟨h,hj⟩:=nx (fun _ z=>by cases z) h
  obtain ⟨a,as,O⟩:=f.o2 j e h
  refine ⟨a,as,by rw [am hj];exact O.at_,O.ob,O.nd,O.out,fun b hb k e' hk=>?_,O.inn⟩
  obtain ⟨hk,nk⟩:=nx (fun _ z=>by cases z) hk
  rw [am nk]
  exact O.dj b hb k e' hk
 ·exact f.u2 j k d1 d2 (nx (fun _ z=>by cases z) h1).1 (nx (fun _ z=>by cases z) h2).1
theorem Fr.setO {K:a9}{H0 Hs0 H Hs:Hp}{la:Nat->Option ai}{ρ:au}{σ:St} (f:Fr K H0 Hs0 la ρ σ H Hs) (i:Nat) {a:ai}{o:HO}{d:D} (n:H a=none) (r:qP K Hs o d):Fr K H0 Hs0 la (ρ.set i (.own d)) (σ.set i (some (.ref a))) (upd H a o) Hs:=by
 have f':=f.step (dk.mine (o:=o) f.st.sub n)
 have hl:=f.len
 have n0:H0 a=none:=f.st.all.free n
 have ns:Hs a=none:=f.st.sub.free n
 have nx:∀ {j:Nat}{s:Sl},(∀ d,s≠.own d)->(ρ.set i (.own d))[j]?=some s->ρ[j]?=some s/\i≠j:=fun {j s} hs e=>by
  by_cases hj:i=j
  ·subst hj
   by_cases hi:i<ρ.length
   ·rw [aB hi] at e;exact absurd (bL e).symm (hs d)
   ·rw [bT (by simpa using hi)] at e;cases e
  ·rw [am hj] at e;exact ⟨e,hj⟩
 have ne:∀ j e,ρ[j]?=some (Sl.own e)->σ[j]?≠some (some (V.ref a)):=fun j e h z=>by
  obtain ⟨b,o',h1,h2,_⟩:=f.ow j e h
  rw [z] at h1
  cases h1
  rw [n] at h2;cases h2
 refine ⟨f'.st,by simp [hl],fun j e h=>?_,fun j e h=>?_,fun j e h=>?_,fun j k d1 d2 b h1 h2 h3 h4=>?_,f.lh,fun j e h=>?_,fun j k d1 d2 h1 h2=>?_⟩
 ·obtain ⟨h,hj⟩:=nx (fun _ z=>by cases z) h
  rw [am hj]
  exact f'.sh j e h
 ·by_cases hj:i=j
  ·subst hj
   by_cases hi:i<ρ.length
   ·rw [aB hi] at h
    cases h
    exact ⟨a,o,aB (by omega),aU,ns,n0,r⟩
   ·rw [bT (by simpa using hi)] at h;cases h
  ·rw [am hj] at h ⊢
   exact f'.ow j e h
 ·obtain ⟨h,hj⟩:=nx (fun _ z=>by cases z) h
  rw [am hj]
  exact f'.lk j e h
 ·by_cases hj:i=j
  ·by_cases hk:i=k
   ·exact hj.symm.trans hk
   ·rw [am hk] at h2 h4
    subst hj
    by_cases hi:i<ρ.length
    ·rw [aB (by omega)] at h3
     cases h3
     exact (ne k d2 h2 h4).elim
    ·rw [bT (by simpa using hi)] at h1;cases h1
  ·rw [am hj] at h1 h3
   by_cases hk:i=k
   ·subst hk
    by_cases hi:i<ρ.length
    ·rw [aB (by omega)] at h4
     cases h4
     exact (ne j d1 h1 h3).elim
    ·rw [bT (by simpa using hi)] at h2;cases h2
   ·rw [am hk] at h2 h4
    exact f.dj j k d1 d2 b h1 h2 h3 h4
 ·obtain ⟨h,hj⟩:=nx (fun _ z=>by cases z) h
  obtain ⟨b,as,O⟩:=f.o2 j e h
  have nb:∀ c∈b::as,c≠a:=fun c hc z=>by
   subst z
   rcases List.mem_cons.mp hc with z | z
   ·have:=O.ob;rw [<- z,n] at this;cases this
   ·obtain ⟨o,ho,_⟩:=O.inn.there z;rw [n] at ho;cases ho
  refine ⟨b,as,by rw [am hj];exact O.at_,by rw [a_ (nb b ay)];exact O.ob,O.nd,O.out,fun c hc k e' hk=>?_,O.inn.upd fun z=>nb a (aA _ z) rfl⟩
  by_cases nk:i=k
  ·subst nk
   intro z
   by_cases hi:i<ρ.length
   ·rw [aB (by omega)] at z
    cases z
    exact nb _ hc rfl
   ·rw [bT (by simp;omega)] at hk;cases hk
  ·rw [am nk] at hk ⊢
   exact O.dj c hc k e' hk
 ·exact f.u2 j k d1 d2 (nx (fun _ z=>by cases z) h1).1 (nx (fun _ z=>by cases z) h2).1
theorem Fr.write {K:a9}{H0 Hs0 H Hs:Hp}{la:Nat->Option ai}{ρ:au}{σ:St} (f:Fr K H0 Hs0 la ρ σ H Hs) (i:Nat) {a:ai}{o:HO}{d d':D} (hi:ρ[i]?=some (Sl.own d)) (hs:σ[i]?=some (some (V.ref a))) (r:qP K Hs o d'):Fr K H0 Hs0 la (ρ.set i (.own d')) σ (upd H a o) Hs:=by
 obtain ⟨a',o',h1,h2,h3,h4,h5⟩:=f.ow i d hi
 rw [hs] at h1
 cases h1
 have hl:=f.len
 have hil:i<ρ.length:=(List.getElem?_eq_some_iff.mp hi).1
 have nx:∀ {j:Nat}{s:Sl},(∀ d,s≠.own d)->(ρ.set i (.own d'))[j]?=some s->ρ[j]?=some s/\i≠j:=fun {j s} hs e=>by
  by_cases hj:i=j
  ·subst hj
   rw [aB hil] at e;exact absurd (bL e).symm (hs d')
  ·rw [am hj] at e;exact ⟨e,hj⟩
 refine ⟨⟨fun b u e=>?_,f.st.sh,fun b u e=>?_,f.st.out⟩,by simp [hl],fun j e h=>?_,fun j e h=>?_,fun j e h=>?_,fun j k d1 d2 b h1 h2 h3 h4=>?_,f.lh,fun j e h=>?_,fun j k d1 d2 h1 h2=>?_⟩
 ·rw [a_ (bc e h4)];exact f.st.all b u e
 ·rw [a_ (bc e h3)];exact f.st.sub b u e
 ·obtain ⟨h,hj⟩:=nx (fun _ z=>by cases z) h
  exact f.sh j e h
 ·by_cases hj:i=j
  ·subst hj
   rw [aB hil] at h
   cases h
   exact ⟨a,o,hs,aU,h3,h4,r⟩
  ·rw [am hj] at h
   obtain ⟨b,u,k1,k2,k3,k4,k5⟩:=f.ow j e h
   refine ⟨b,u,k1,?_,k3,k4,k5⟩
   rw [a_ (fun z=>hj ?_)]
   ·exact k2
   ·subst z
    exact f.dj i j d e b hi h hs k1
 ·obtain ⟨h,hj⟩:=nx (fun _ z=>by cases z) h
  obtain ⟨b,u,k1,k2,k3,k4,k5,k6⟩:=f.lk j e h
  refine ⟨b,u,k1,k2,?_,k4,k5,k6⟩
  rw [a_ (bc k5 h4)]
  exact k3
 ·have own:∀ {j:Nat}{e:D},(ρ.set i (.own d'))[j]?=some (Sl.own e)->∃ e',ρ[j]?=some (Sl.own e'):=fun {j e} h=>by
   by_cases hj:i=j
   ·subst hj;exact ⟨d,hi⟩
   ·rw [am hj] at h;exact ⟨e,h⟩
  obtain ⟨e1,h1⟩:=own h1
  obtain ⟨e2,h2⟩:=own h2
  exact f.dj j k e1 e2 b h1 h2 h3 h4
 ·obtain ⟨h,hj⟩:=nx (fun _ z=>by cases z) h
  obtain ⟨b,as,O⟩:=f.o2 j e h
  have nb:∀ c∈b::as,c≠a:=fun c hc z=>by
   subst z
   exact O.dj c hc i d hi hs
  refine ⟨b,as,O.at_,by rw [a_ (nb b ay)];exact O.ob,O.nd,O.out,fun c hc k e' hk=>?_,O.inn.upd fun z=>nb a (aA _ z) rfl⟩
  by_cases nk:i=k
  ·subst nk
   exact O.dj c hc i d hi
  ·rw [am nk] at hk
   exact O.dj c hc k e' hk
 ·exact f.u2 j k d1 d2 (nx (fun _ z=>by cases z) h1).1 (nx (fun _ z=>by cases z) h2).1
def fj (ρ:au):au:=ρ.map fun s=>match s with
 | .own d=>.shr d
 | .ow2 dss=>.shr (.list (dss.map .list))
 | s=>s
open Classical in
theorem Fr.share {K:a9}{H0 Hs0 H Hs:Hp}{la:Nat->Option ai}{ρ:au}{σ:St} (f:Fr K H0 Hs0 la ρ σ H Hs):∃ Hs',Fr K H0 Hs0 la (fj ρ) σ H Hs'/\dk H Hs H Hs'\/Fr K H0 Hs0 la (fj ρ) σ H Hs':=by
 let P:ai->Prop:=fun b=>(∃ (i:Nat) (d:D),ρ[i]?=some (Sl.own d)/\σ[i]?=some (some (V.ref b)))\/∃ (i:Nat) (dss:List (List D)) (a:ai) (as:List ai),ρ[i]?=some (Sl.ow2 dss)/\O2 K H0 H Hs ρ σ i dss a as/\b∈a::as
 let Hs':Hp:=fun b=>if P b then H b else Hs b
 have pos:∀ b,P b->Hs' b=H b:=fun b h=>if_pos h
 have neg:∀ b,¬ P b->Hs' b=Hs b:=fun b h=>if_neg h
 have up:eg Hs Hs':=fun b o e=>by
  by_cases h:P b
  ·rw [pos b h];exact f.st.sub b o e
  ·rw [neg b h];exact e
 have none0:∀ b o,H0 b=some o->¬ P b:=fun b o e hP=>by
  rcases hP with ⟨i,d,h1,h2⟩ | ⟨i,dss,a,as,h1,O,hb⟩
  ·obtain ⟨a,o',k1,_,_,k4,_⟩:=f.ow i d h1
   rw [h2] at k1;cases k1
   rw [e] at k4;cases k4
  ·have:=(O.out b hb).2
   rw [e] at this;cases this
 have un:∀ {j:Nat}{s:Sl},(fj ρ)[j]?=some s->(∃ d,s=.shr d/\ρ[j]?=some (Sl.own d))\/(∃ dss:List (List D),s=.shr (.list (dss.map .list))/\ρ[j]?=some (Sl.ow2 dss))\/((∀ d,s≠.own d)/\(∀ d,s≠.ow2 d)/\ρ[j]?=some s):=fun {j s} e=>by
  unfold fj at e
  rw [aT] at e
  cases h:ρ[j]? with
  | none=>rw [h] at e;cases e
  | some t =>
   rw [h] at e
   cases t with
   | own d=>cases e;exact .inl ⟨d,rfl,rfl⟩
   | no=>cases e;exact .inr (.inr ⟨fun _ z=>(by cases z),fun _ z=>(by cases z),rfl⟩)
   | shr d=>cases e;exact .inr (.inr ⟨fun _ z=>(by cases z),fun _ z=>(by cases z),rfl⟩)
   | lck d=>cases e;exact .inr (.inr ⟨fun _ z=>(by cases z),fun _ z=>(by cases z),rfl⟩)
   | ow2 d=>cases e;exact .inr (.inl ⟨d,rfl,rfl⟩)
 refine ⟨Hs',.inr ⟨⟨f.st.all,f.st.sh.trans up,fun b o e=>?_,fun a o e t z=>?_⟩,by simp [fj,f.len],fun j d h=>?_,fun j d h=>?_,fun j d h=>?_,fun j k d1 d2 a h1 h2 _ _=>?_,f.lh,fun j d h=>?_,fun j k d1 d2 h1 h2=>?_⟩⟩
 ·by_cases h:P b
  ·rw [pos b h] at e;exact e
  ·rw [neg b h] at e;exact f.st.sub b o e
 ·rw [neg a (none0 a o e)];exact f.st.out a o e t z
 ·rcases un h with ⟨d',e,h'⟩ | ⟨dss,e,h'⟩ | ⟨_,_,h'⟩
  ·cases e
   obtain ⟨a,o,k1,k2,k3,k4,k5⟩:=f.ow j d h'
   refine ⟨_,k1,?_⟩
   have hp:Hs' a=some o:=by rw [pos a (.inl ⟨j,d,h',k1⟩)];exact k2
   have e:eg (upd Hs a o) Hs':=fun b u q=>by
    by_cases hb:b=a
    ·subst hb;rw [aU] at q;cases q;exact hp
    ·rw [a_ hb] at q;exact up b u q
   exact (k5.share k3).same e
  ·cases e
   obtain ⟨a,as,O⟩:=f.o2 j dss h'
   refine ⟨_,O.at_,?_⟩
   have hp:∀ b∈a::as,∀ o,H b=some o->Hs' b=some o:=fun b hb o ho=>by rw [pos b (.inr ⟨j,dss,a,as,h',O,hb⟩)];exact ho
   refine .list (.of (hp a ay _ O.ob)) ?_
   have go:∀ {as':List ai}{dss':List (List D)},(∀ b∈as',b∈a::as)->Dv K H Hs as' dss'->RDs K Hs' (as'.map V.ref) (dss'.map .list):=fun {as' dss'} hs hi=>by
    induction hi with
    | nil=>exact .nil
    | cons h1 h2 _ ih=>exact .cons (.list (.of (hp _ (hs _ ay) _ h1)) (h2.same up)) (ih fun b hb=>hs b (aA _ hb))
   exact go (fun b hb=>aA _ hb) O.inn
  ·obtain ⟨v,k1,k2⟩:=f.sh j d h'
   exact ⟨v,k1,k2.same up⟩
 ·rcases un h with ⟨d',e,h'⟩ | ⟨d',e,h'⟩ | ⟨n,_,h'⟩
  ·cases e
  ·cases e
  ·exact (n d rfl).elim
 ·rcases un h with ⟨d',e,h'⟩ | ⟨d',e,h'⟩ | ⟨_,_,h'⟩
  ·cases e
  ·cases e
  ·obtain ⟨a,o,k1,k2,k3,k4,k5,k6⟩:=f.lk j d h'
   exact ⟨a,o,k1,k2,k3,by rw [neg a (none0 a o k5)];exact k4,k5,k6.same up⟩
 ·rcases un h1 with ⟨d',e,h'⟩ | ⟨d',e,h'⟩ | ⟨n,_,h'⟩
  ·cases e
  ·cases e
  ·exact (n d1 rfl).elim
 ·rcases un h with ⟨d',e,h'⟩ | ⟨d',e,h'⟩ | ⟨_,n,h'⟩
  ·cases e
  ·cases e
  ·exact (n d rfl).elim
 ·rcases un h1 with ⟨d',e,h'⟩ | ⟨d',e,h'⟩ | ⟨_,n,h'⟩
  ·cases e
  ·cases e
  ·exact (n d1 rfl).elim
theorem Fr.shared {K:a9}{H0 Hs0 H Hs:Hp}{la:Nat->Option ai}{ρ:au}{σ:St} (f:Fr K H0 Hs0 la ρ σ H Hs):∃ Hs',Fr K H0 Hs0 la (fj ρ) σ H Hs':=by
 obtain ⟨Hs',h | h⟩:=f.share
 ·exact ⟨Hs',h.1⟩
 ·exact ⟨Hs',h⟩
section
variable {c:C}{e a b:aR}{g ga gb:au->R D}{pos:Pos}{x:Str}{st:bH}{bP:List bH}{gs gr:au->R Fl}
def aC (g h:au->R Fl):au->R Fl:=fun ρ=>(g ρ).bind fun fl=>match fl with
 | .nx ρ'=>h ρ'
 | fl=>.ok fl
theorem bU:Gw c [] (fun ρ=>.ok (.nx ρ)):=.of fun ρ=>VX Kz fun D σ H h_1=>by obtain ⟨H0,Hs0,la,Hs,f,q⟩:=h_1;exact q σ H Hs f
theorem aJ (h:JS c st gs):Gw c [st] gs:=.of fun ρ=>vY (h ρ)
theorem ao (h:JS c st gs) (hr:Gw c bP gr):Gw c (st::bP) (aC gs gr):=.of fun ρ pins s σ H D I h_2=>by
 obtain ⟨H0,Hs0,la,Hs,f,q⟩:=h_2
 unfold aC at q
 cases hg:gs ρ with
 | no=>rw [hg] at q;exact q.elim
 | ex x n =>
  rw [hg] at q
  refine ij (h ρ) (pO (X:=c.X) (sts:=bP)) pins s σ H D I ⟨H0,Hs0,la,Hs,f,?_⟩
  rw [hg]
  exact q
 | ok fl =>
  rw [hg,bind_ok] at q
  cases fl with
  | nx ρ' =>
   refine ij (h ρ) (hr ρ') pins s σ H D I ⟨H0,Hs0,la,Hs,f,?_⟩
   rw [hg]
   exact fun σ' H' Hs' f'=>⟨H0,Hs0,la,Hs',f',q⟩
  | rt d =>
   refine ij (h ρ) (pO (X:=c.X) (sts:=bP)) pins s σ H D I ⟨H0,Hs0,la,Hs,f,?_⟩
   rw [hg]
   exact q
  | bk ρ' =>
   refine ij (h ρ) (pO (X:=c.X) (sts:=bP)) pins s σ H D I ⟨H0,Hs0,la,Hs,f,?_⟩
   rw [hg]
   exact q
  | ct ρ' =>
   refine ij (h ρ) (pO (X:=c.X) (sts:=bP)) pins s σ H D I ⟨H0,Hs0,la,Hs,f,?_⟩
   rw [hg]
   exact q
theorem sE {K:a9}{cls:Str->ai}{E:XK}{ρ:au}{r:R D}{k:D->R Fl}{σ:St}{H:Hp}{H0 Hs0 Hs:Hp}{la:Nat->Option ai}{D':ui}{Q:V->Hp->Prop} (f:Fr K H0 Hs0 la ρ σ H Hs)
  (h:n5 K cls E H0 Hs0 la D' (r.bind k)) (m:∀ d v H' Hs',r=.ok d->dk H Hs H' Hs'->Fr K H0 Hs0 la ρ σ H' Hs'->RD K Hs' v d->Q v H'):TR K cls E ρ r σ H Q:=by
 refine ⟨H0,Hs0,la,Hs,f,?_⟩
 cases r with
 | ok d=>exact fun v H' Hs' s r=>m d v H' Hs' rfl s (f.step s) r
 | ex c n=>exact fun H' Hs' s=>h H' Hs' (f.st.trans s)
 | no=>exact h
theorem sT {K:a9}{cls:Str->ai}{E:XK}{ρ:au}{r:R Bool}{k:Bool->R Fl}{σ:St}{H:Hp}{H0 Hs0 Hs:Hp}{la:Nat->Option ai}{D':ui}{Q:Bool->Hp->Prop} (f:Fr K H0 Hs0 la ρ σ H Hs)
  (h:n5 K cls E H0 Hs0 la D' (r.bind k)) (m:∀ d H' Hs',r=.ok d->dk H Hs H' Hs'->Fr K H0 Hs0 la ρ σ H' Hs'->Q d H'):NF K cls E ρ r σ H Q:=by
 refine ⟨H0,Hs0,la,Hs,f,?_⟩
 cases r with
 | ok d=>exact fun H' Hs' s=>m d H' Hs' rfl s (f.step s)
 | ex c n=>exact fun H' Hs' s=>h H' Hs' (f.st.trans s)
 | no=>exact h
def cY (g:au->R D):au->R Fl:=fun ρ=>(g (fj ρ)).bind fun d=>.ok (.rt d)
theorem bN (h:JE c e g):JS c (.Return (some e) pos) (cY g):=.of fun ρ=>zM (xC (h (fj ρ))) fun D σ H h_3=>by
 obtain ⟨H0,Hs0,la,Hs,f,q⟩:=h_3
 obtain ⟨Hs',f'⟩:=f.shared
 refine sE f' q fun d v H1 Hs1 e1 s1 f1 r1=>?_
 unfold cY at q
 rw [e1,bind_ok] at q
 exact q v H1 Hs1 f1.st r1
def ev (t:au->R Bool) (g h:au->R Fl):au->R Fl:=fun ρ=>(t ρ).bind fun b=>if b then g ρ else h ρ
theorem dD {t:aR}{gt:au->R Bool}{A B:List bH}{gA gB:au->R Fl} (ht:JT c t gt) (hA:Gw c A gA) (hB:Gw c B gB):JS c (.If t A B pos) (ev gt gA gB):=.of fun ρ=>zM (Ug (ht ρ) (hA ρ) (hB ρ)) fun D σ H h_5=>by
 obtain ⟨H0,Hs0,la,Hs,f,q⟩:=h_5
 refine sT f q fun d H1 Hs1 e1 s1 f1=>?_
 unfold ev at q
 rw [e1,bind_ok] at q
 cases d with
 | true=>exact IT ⟨H0,Hs0,la,Hs1,f1,q⟩
 | false=>exact Ee ⟨H0,Hs0,la,Hs1,f1,q⟩
def fB (i:Nat) (g:au->R D):au->R Fl:=fun ρ=>(g ρ).bind fun d=>.ok (.nx (ρ.set i (.shr d)))
theorem dZ (i:Nat) {pos':Pos} (h:JE c e g) (hN:c.X.N.Nodup) (hi:c.X.N[i]?=some x:=by rfl) (hx:NY c.X.env.scope x:=by first | exact fu rfl | exact dS rfl) (hs:fh e (some (.Name x pos')) pos.line c.X.env=pure false:=by rfl)
  (hf:c.X.fn x=true\/c.X.env.scope.names.lookup x=some .local:=by first | exact .inl rfl | exact .inr rfl | assumption):JS c (.Assign [.Name x pos'] e pos) (fB i g):=.of fun ρ=>zM (uW hN hi hx (h ρ) hs hf) fun D σ H h_6=>by
 obtain ⟨H0,Hs0,la,Hs,f,q⟩:=h_6
 refine sE f q fun d v H1 Hs1 e1 s1 f1 r1=>?_
 unfold fB at q
 rw [e1,bind_ok] at q
 exact q _ H1 Hs1 (f1.set i r1)
def eh (g:au->R D):au->R Fl:=fun ρ=>(g ρ).bind fun _=>.ok (.nx ρ)
theorem cj (h:JE c e g) (hs:fh e none pos.line c.X.env=pure false:=by rfl):JS c (.Expr e pos) (eh g):=.of fun ρ=>zM (qI (h ρ) hs) fun D σ H h_7=>by
 obtain ⟨H0,Hs0,la,Hs,f,q⟩:=h_7
 refine sE f q fun d v H1 Hs1 e1 s1 f1 r1=>?_
 unfold eh at q
 rw [e1,bind_ok] at q
 exact q _ H1 Hs1 f1
def TGq (K:a9) (H0 Hs0:Hp) (la:Nat->Option ai) (H Hs:Hp) (Q:St->Hp->Prop) (r:R au):Prop:=match r with
 | .ok ρ'=>∀ σ',Fr K H0 Hs0 la ρ' σ' H Hs->Q σ' H
 | _=>False
inductive XY (K:a9) (ρ:au) (d:D) (r:R au) (v:V) (σ:St) (H:Hp) (Q:St->Hp->Prop):Prop
 | mk (H0 Hs0:Hp) (la:Nat->Option ai) (Hs:Hp) (f:Fr K H0 Hs0 la ρ σ H Hs) (rd:RD K Hs v d) (q:TGq K H0 Hs0 la H Hs Q r):XY K ρ d r v σ H Q
def XZ (K:a9) (ρ:au) (d:D) (r:R au):TG:=XY K ρ d r
inductive UF (K:a9) (ρ:au) (ds:List D) (r:R au) (vs:List V) (σ:St) (H:Hp) (Q:St->Hp->Prop):Prop
 | mk (H0 Hs0:Hp) (la:Nat->Option ai) (Hs:Hp) (f:Fr K H0 Hs0 la ρ σ H Hs) (rd:RDs K Hs vs ds) (q:TGq K H0 Hs0 la H Hs Q r):UF K ρ ds r vs σ H Q
def X_ (K:a9) (ρ:au) (ds:List D) (r:R au):O5:=UF K ρ ds r
structure JG (c:C) (t:aR) (k:D->au->R au):Prop where of ::
 run:∀ ρ d,PG c.X t (XZ c.X.K ρ d (k d ρ))
instance {c:C}{t:aR}{k:D->au->R au}:CoeFun (JG c t k) (fun _=>∀ ρ d,PG c.X t (XZ c.X.K ρ d (k d ρ))):=⟨JG.run⟩
structure X5 (c:C) (t:List aR) (k:List D->au->R au):Prop where of ::
 run:∀ ρ d,Uh c.X t (X_ c.X.K ρ d (k d ρ))
instance {c:C}{t:List aR}{k:List D->au->R au}:CoeFun (X5 c t k) (fun _=>∀ ρ d,Uh c.X t (X_ c.X.K ρ d (k d ρ))):=⟨X5.run⟩
theorem mPG {X:Cx}{e:aR}{t t':TG} (h:PG X e t) (m:∀ v σ H Q,t' v σ H Q->t v σ H Q):PG X e t':=fun pins s σ H v u Q I r q=>h pins s σ H v u Q I r (m v σ H Q q)
theorem q01 {X:Cx}{e:List aR}{t t':O5} (h:Uh X e t) (m:∀ v σ H Q,t' v σ H Q->t v σ H Q):Uh X e t':=fun pins s σ H v u Q I r q=>h pins s σ H v u Q I r (m v σ H Q q)
def cL (i:Nat):D->au->R au:=fun d ρ=>.ok (ρ.set i (.shr d))
theorem en (i:Nat) (hN:c.X.N.Nodup) (hi:c.X.N[i]?=some x:=by rfl) (hx:NY c.X.env.scope x:=by first | exact fu rfl | exact dS rfl) (hf:c.X.fn x=true\/c.X.env.scope.names.lookup x=some .local:=by first | exact .inl rfl | exact .inr rfl | assumption) :
  JG c (.Name x pos) (cL i):=.of fun ρ d=>mPG (eM hN hi hx hf) fun v σ H Q h_11=>by obtain ⟨H0,Hs0,la,Hs,f,r,q⟩:=h_11;exact q _ (f.set i r)
variable {kt:D->au->R au}{kts:List D->au->R au}{t:aR}{ts:List aR}
def uq:List D->au->R au:=fun ds ρ=>match ds with
 | []=>.ok ρ
 | _=>.no
def dR (k:D->au->R au) (ks:List D->au->R au):List D->au->R au:=fun ds ρ=>match ds with
 | d::r=>(k d ρ).bind fun ρ'=>ks r ρ'
 | _=>.no
theorem tR:X5 c [] uq:=.of fun ρ ds=>q01 E9 fun vs σ H Q h_12=>by
 obtain ⟨H0,Hs0,la,Hs,f,r,q⟩:=h_12
 cases r with
 | nil=>exact ⟨rfl,q σ f⟩
 | cons _ _=>exact q.elim
theorem eY (h:JG c t kt) (hr:X5 c ts kts) (hs:(iR (t::ts) c.X.env).map (·.2)=rX t c.X.env::(iR ts c.X.env).map (·.2):=by rfl):X5 c (t::ts) (dR kt kts):=.of fun ρ ds pins s σ H vs us Q I rv h_13=>by
 obtain ⟨H0,Hs0,la,Hs,f,r,q⟩:=h_13
 cases r with
 | nil=>exact q.elim
 | @cons v vr d dr r1 r2 =>
  unfold dR at q
  cases hk:kt d ρ with
  | ok ρ' =>
   simp only [hk,bind_ok] at q
   refine sj (h ρ d) (hr ρ' dr) hs pins s σ H _ us Q I rv ⟨v,vr,rfl,H0,Hs0,la,Hs,f,r1,?_⟩
   rw [hk]
   exact fun σ' f'=>⟨H0,Hs0,la,Hs,f',r2,q⟩
  | ex x n=>simp only [hk,bind_ex] at q;exact q.elim
  | no=>simp only [hk,bind_no] at q;exact q.elim
def rN (n:Nat) (ks:List D->au->R au):D->au->R au:=fun d ρ=>match d with
 | .tuple ds=>if ds.length=n then ks ds ρ else .no
 | _=>.no
theorem xL {k n:Nat} (hc:c.X.calm=true) (h:X5 c ts kts) (hn:(iR ts c.X.env).length=n:=by rfl) (hst:(iR ts c.X.env).findIdx? (·.1)=none:=by rfl):JG c (.Tuple ts k pos) (rN n kts):=.of fun ρ d=>by
 cases d with
 | tuple ds =>
  refine mPG (IH hc (h ρ ds) hn hst) fun v σ H Q h_14=>?_
  obtain ⟨H0,Hs0,la,Hs,f,r,q⟩:=h_14
  cases r with
  | @tuple p xs _ hq rs =>
   unfold rN at q
   by_cases hl:ds.length=n
   ·simp only [if_pos hl] at q
    exact ⟨p,xs,rfl,(m5.of (f.st.sub _ _ hq)),by rw [rs.length];exact hl,H0,Hs0,la,Hs,f,rs,q⟩
   ·simp only [if_neg hl] at q;exact q.elim
 | _=>exact fun pins s σ H v u Q I rv h_15=>by obtain ⟨H0,Hs0,la,Hs,f,r,q⟩:=h_15;exact q.elim
def Cu (g:au->R D) (k:D->au->R au):au->R Fl:=fun ρ=>(g ρ).bind fun d=>match k d ρ with
 | .ok ρ'=>.ok (.nx ρ')
 | _=>.no
theorem EG (h:JE c e g) (hg:JG c t kt) (hs:swapsWithSole [t] e pos.line c.X.env=pure false:=by rfl) (hw:swappedStores [t] e c.X.env=pure none:=by rfl) (h1:(iR [t] c.X.env).map (·.2)=[rX t c.X.env]:=by rfl) :
  JS c (.Assign [t] e pos) (Cu g kt):=.of fun ρ=>by
 cases hr:g ρ with
 | ok d =>
  refine zM (O7 (h ρ) (hg ρ d) hs hw h1) fun D σ H h_16=>?_
  obtain ⟨H0,Hs0,la,Hs,f,q⟩:=h_16
  refine sE (k:=fun d=>match kt d ρ with | .ok ρ'=>.ok (.nx ρ') | _=>.no) f q fun d' v H1 Hs1 e1 s1 f1 r1=>?_
  rw [hr] at e1
  cases e1
  unfold Cu at q
  rw [hr,bind_ok] at q
  refine ⟨H0,Hs0,la,Hs1,f1,r1,?_⟩
  cases hk:kt d ρ with
  | ok ρ'=>rw [hk] at q;exact fun σ' f'=>q σ' H1 Hs1 f'
  | ex x n=>rw [hk] at q;exact q.elim
  | no=>rw [hk] at q;exact q.elim
 | ex x n =>
  refine zM (O7 (h ρ) (hg ρ .none) hs hw h1) fun D σ H h_17=>?_
  obtain ⟨H0,Hs0,la,Hs,f,q⟩:=h_17
  refine sE (k:=fun _=>.no) (D':=D) f (by unfold Cu at q;rw [hr] at q ⊢;exact q) fun d' v H1 Hs1 e1 s1 f1 r1=>?_
  rw [hr] at e1;cases e1
 | no =>
  refine fun pins s σ H D I h_18=>?_
  obtain ⟨H0,Hs0,la,Hs,f,q⟩:=h_18
  unfold Cu at q
  rw [hr] at q
  exact q.elim
end
end
section
def Rx (K:a9) (J:It) (ds:List D) (Hn Hs:Hp):Prop:=∀ H2 Hs2,eg Hn H2->eg Hs Hs2->eg Hs2 H2 ->
 (∀ i,i<ds.length->J.go i H2)/\(∀ i,ds.length<=i->J.stop i H2)/\∀ i x H3,i<ds.length->J.yld i H2 x H3->∃ d Hs3,ds[i]?=some d/\dk H2 Hs2 H3 Hs3/\RD K Hs3 x d
theorem K_ {K:a9}{Hn Hs:Hp}{a:ai}{vs:List V}{ds:List D} (h:pJ K Hn a vs) (r:RDs K Hs vs ds):Rx K (Zu K a) ds Hn Hs:=fun H2 Hs2 e1 e2 e3=>by
 have q:=e1.seq h
 refine ⟨fun i hi=>?_,fun i hi=>⟨vs,q,by rw [r.length];exact hi⟩,fun i x H3 hi y=>?_⟩
 ·have hi':i<vs.length:=by rw [r.length];exact hi
  exact ⟨vs,vs[i],q,bg hi'⟩
 ·obtain ⟨rfl,y⟩:=y
  obtain ⟨d,k1,k2⟩:=r.get (y vs q)
  exact ⟨d,Hs2,k1,.refl e3,k2.same e2⟩
theorem P2 {K:a9}{Hn Hs:Hp}{a:ai}{vs:List V}{ds:List D} (h:m5 K Hn a vs) (r:RDs K Hs vs ds):Rx K (Zv K a) ds Hn Hs:=fun H2 Hs2 e1 e2 e3=>by
 have q:=e1.tup h
 refine ⟨fun i hi=>?_,fun i hi=>⟨vs,q,by rw [r.length];exact hi⟩,fun i x H3 hi y=>?_⟩
 ·have hi':i<vs.length:=by rw [r.length];exact hi
  exact ⟨vs,vs[i],q,bg hi'⟩
 ·obtain ⟨rfl,y⟩:=y
  obtain ⟨d,k1,k2⟩:=r.get (y vs q)
  exact ⟨d,Hs2,k1,.refl e3,k2.same e2⟩
theorem P3 {K:a9}{Hn Hs:Hp} (x:Str):Rx K (XB x) (oT x) Hn Hs:=fun H2 Hs2 e1 e2 e3=>by
 have hl:(oT x).length=x.cps.size:=by simp [oT]
 refine ⟨fun i hi=>by rw [hl] at hi;exact hi,fun i hi=>by rw [hl] at hi;exact hi,fun i v H3 hi y=>?_⟩
 obtain ⟨rfl,c,k1,rfl⟩:=y
 refine ⟨.str ⟨#[c]⟩,Hs2,?_,.refl e3,.str _⟩
 unfold oT
 rw [aT,fR,k1]
 rfl
def sD (lo:Int) (n:Nat):List D:=(bZ n).map fun (k:Nat)=>ed (lo + k)
theorem P4 {K:a9}{Hn Hs:Hp} (lo:Int) (n:Nat):Rx K (Z3 lo n) (sD lo n) Hn Hs:=fun H2 Hs2 e1 e2 e3=>by
 have hl:(sD lo n).length=n:=by simp [sD]
 refine ⟨fun i hi=>by rw [hl] at hi;exact hi,fun i hi=>by rw [hl] at hi;exact hi,fun i v H3 hi y=>?_⟩
 obtain ⟨rfl,rfl⟩:=y
 refine ⟨.int (lo + i),Hs2,?_,.refl e3,.int _⟩
 rw [hl] at hi
 unfold sD
 rw [aT,L_ hi]
 rfl
def pV (n:Nat):List D->List D
 | []=>[]
 | d::r=>.tuple [.int n,d]::pV (n + 1) r
theorem DB:∀ (ds:List D) (n i:Nat),(pV n ds)[i]?=(ds[i]?).map fun d=>ic [.int ((n + i:Nat):Int),d]
 | [],_,_=>by simp [pV]
 | d::r,n,0=>by simp [pV]
 | d::r,n,i + 1=>by
  simp only [pV,ka]
  rw [DB r (n + 1) i,show n + 1 + i=n + (i + 1) by omega]
theorem DC:∀ (ds:List D) (n:Nat),(pV n ds).length=ds.length
 | [],_=>rfl
 | d::r,n=>by simp [pV,DC r]
theorem SH {K:a9}{Hn Hs:Hp}{a:ai}{vs:List V}{ds:List D} (h:m5 K Hn a vs) (r:RDs K Hs vs ds):Rx K (ZT K a) (pV 0 ds) Hn Hs:=fun H2 Hs2 e1 e2 e3=>by
 have q:=e1.tup h
 have hl:=DC ds 0
 refine ⟨fun i hi=>?_,fun i hi=>⟨vs,q,by rw [r.length];omega⟩,fun i x H3 hi y=>?_⟩
 ·have hi':i<vs.length:=by rw [r.length];omega
  exact ⟨vs,vs[i],q,bg hi'⟩
 ·obtain ⟨p,hp,rfl,y⟩:=y
  obtain ⟨x,k0,rfl⟩:=y vs q
  obtain ⟨d,k1,k2⟩:=r.get k0
  have st:=dk.new (o:=.tup [.int i,x]) e3 hp
  refine ⟨.tuple [.int i,d],_,?_,st,.tuple aU (.cons (.int _) (.cons ((k2.same e2).same st.sh) .nil))⟩
  rw [DB,k1]
  simp
def zh:List D->List D->List D
 | x::xs,y::ys=>.tuple [x,y]::zh xs ys
 | _,_=>[]
theorem Gx:∀ (xs ys:List D) (i:Nat) (x y:D),xs[i]?=some x->ys[i]?=some y->(zh xs ys)[i]?=some (.tuple [x,y])
 | x::xs,y::ys,0,_,_,h1,h2=>by simp at h1 h2;subst h1 h2;rfl
 | _::xs,_::ys,i + 1,x,y,h1,h2=>by
  simp only [ka] at h1 h2
  simp only [zh,ka]
  exact Gx xs ys i x y h1 h2
 | [],_,_,_,_,h1,_=>by simp at h1
 | _::_,[],_,_,_,_,h2=>by simp at h2
theorem Gy:∀ (xs ys:List D),(zh xs ys).length=min xs.length ys.length
 | x::xs,y::ys=>by simp [zh,Gy xs ys]
 | [],_=>by simp [zh]
 | _::_,[]=>by simp [zh]
theorem W3 {K:a9}{Hn Hs:Hp}{a b:ai}{vs ws:List V}{ds es:List D} (h:m5 K Hn a vs) (r:RDs K Hs vs ds) (h':m5 K Hn b ws) (r':RDs K Hs ws es):Rx K (ZU K a b) (zh ds es) Hn Hs:=fun H2 Hs2 e1 e2 e3=>by
 have q:=e1.tup h
 have q':=e1.tup h'
 have hl:=Gy ds es
 refine ⟨fun i hi=>?_,fun i hi=>⟨vs,ws,q,q',by rw [r.length,r'.length];omega⟩,fun i x H3 hi y=>?_⟩
 ·have h1:i<vs.length:=by rw [r.length];omega
  have h2:i<ws.length:=by rw [r'.length];omega
  exact ⟨vs,ws,vs[i],ws[i],q,q',bg h1,bg h2⟩
 ·obtain ⟨p,hp,rfl,y⟩:=y
  obtain ⟨x,z,k0,k0',rfl⟩:=y vs ws q q'
  obtain ⟨d,k1,k2⟩:=r.get k0
  obtain ⟨d',k1',k2'⟩:=r'.get k0'
  have st:=dk.new (o:=.tup [x,z]) e3 hp
  exact ⟨.tuple [d,d'],_,Gx ds es i d d' k1 k1',st,.tuple aU (.cons ((k2.same e2).same st.sh) (.cons ((k2'.same e2).same st.sh) .nil))⟩
inductive Y0 (K:a9) (cls:Str->ai) (E:XK) (ρ:au) (r:R (List D)) (σ:St) (H:Hp) (Q:It->Hp->Prop):Prop
 | mk (H0 Hs0:Hp) (la:Nat->Option ai) (Hs:Hp) (f:Fr K H0 Hs0 la ρ σ H Hs) (q:Fin K cls E H Hs r fun ds=>∀ J H' Hs' Hn,dk H Hs H' Hs'->eg Hn H'->Rx K J ds Hn Hs'->Q J H'):Y0 K cls E ρ r σ H Q
def Ze (K:a9) (cls:Str->ai) (E:XK) (ρ:au) (r:R (List D)):TI:=Y0 K cls E ρ r
inductive Y1 (K:a9) (cls:Str->ai) (E:XK) (ρ:au) (r:R (List D)) (σ:St) (H:Hp) (Q:It->Hp->Prop):Prop
 | mk (H0 Hs0:Hp) (la:Nat->Option ai) (Hs:Hp) (f:Fr K H0 Hs0 la ρ σ H Hs) (q:Fin K cls E H Hs r fun ds=>∀ J H' Hs',dk H Hs H' Hs'->Rx K J ds Hs' Hs'->Q J H'):Y1 K cls E ρ r σ H Q
def TIs (K:a9) (cls:Str->ai) (E:XK) (ρ:au) (r:R (List D)):TI:=Y1 K cls E ρ r
structure JI (c:C) (tg it:aR) (g:au->R (List D)):Prop where of ::
 run:∀ ρ,PI c.X tg it (Ze c.X.K c.cls c.E ρ (g ρ))
instance {c:C}{tg it:aR}{g:au->R (List D)}:CoeFun (JI c tg it g) (fun _=>∀ ρ,PI c.X tg it (Ze c.X.K c.cls c.E ρ (g ρ))):=⟨JI.run⟩
structure L3 (c:C) (tg it:aR) (g:au->R (List D)):Prop where of ::
 run:∀ ρ,PI c.X tg it (TIs c.X.K c.cls c.E ρ (g ρ))
instance {c:C}{tg it:aR}{g:au->R (List D)}:CoeFun (L3 c tg it g) (fun _=>∀ ρ,PI c.X tg it (TIs c.X.K c.cls c.E ρ (g ρ))):=⟨L3.run⟩
theorem MA {X:Cx}{tg e:aR}{t t':TI} (h:PI X tg e t) (m:∀ σ H Q,t' σ H Q->t σ H Q):PI X tg e t':=fun pins s σ H Q I q=>h pins s σ H Q I (m σ H Q q)
section
variable {c:C}{e a b l tg:aR}{g ga gb:au->R D}{pos p:Pos}{gs:au->R (List D)}
def AD:D->R (List D)
 | .list ds=>.ok ds
 | .tuple ds=>.ok ds
 | .str x=>.ok (oT x)
 | _=>.no
def qQ (g:au->R D):au->R (List D):=fun ρ=>(g ρ).bind AD
theorem iW (h:JB c l g):JI c tg l (qQ g):=.of fun ρ=>by
 cases hr:g ρ with
 | no=>exact fun pins s σ H Q I h_0=>by obtain ⟨H0,Hs0,la,Hs,f,q⟩:=h_0;exact by unfold qQ at q;rw [hr] at q;exact q.elim
 | ex x n =>
  refine MA (zK (h ρ)) fun σ H Q h_1=>?_
  obtain ⟨H0,Hs0,la,Hs,f,q⟩:=h_1
  refine one f q fun d v H1 Hs1 e1 s1 f1 r1=>?_
  rw [hr] at e1;cases e1
 | ok d =>
  cases d with
  | list ds =>
   refine MA (zK (h ρ)) fun σ H Q h_2=>?_
   obtain ⟨H0,Hs0,la,Hs,f,q⟩:=h_2
   refine one f q fun d v H1 Hs1 e1 s1 f1 r1=>?_
   rw [hr] at e1;cases e1
   unfold qQ at q
   rw [hr,bind_ok] at q
   obtain ⟨a,vs,rfl,qa,ra⟩:=r1.list f1.st.sub
   exact ⟨a,rfl,⟨vs,qa⟩,q _ H1 Hs1 H1 s1 (.refl _) (K_ qa ra)⟩
  | tuple ds =>
   refine MA (O8 (h ρ)) fun σ H Q h_3=>?_
   obtain ⟨H0,Hs0,la,Hs,f,q⟩:=h_3
   refine one f q fun d v H1 Hs1 e1 s1 f1 r1=>?_
   rw [hr] at e1;cases e1
   unfold qQ at q
   rw [hr,bind_ok] at q
   obtain ⟨a,vs,rfl,qa,ra,_⟩:=r1.tuple f1.st.sub
   exact ⟨a,rfl,⟨vs,qa⟩,q _ H1 Hs1 H1 s1 (.refl _) (P2 qa ra)⟩
  | str x =>
   refine MA (OG (h ρ)) fun σ H Q h_4=>?_
   obtain ⟨H0,Hs0,la,Hs,f,q⟩:=h_4
   refine one f q fun d v H1 Hs1 e1 s1 f1 r1=>?_
   rw [hr] at e1;cases e1
   unfold qQ at q
   rw [hr,bind_ok] at q
   exact ⟨x,r1.str,q _ H1 Hs1 H1 s1 (.refl _) (P3 x)⟩
  | none=>exact fun pins s σ H Q I h_5=>by obtain ⟨H0,Hs0,la,Hs,f,q⟩:=h_5;exact by unfold qQ at q;rw [hr] at q;exact q.elim
  | bool _=>exact fun pins s σ H Q I h_6=>by obtain ⟨H0,Hs0,la,Hs,f,q⟩:=h_6;exact by unfold qQ at q;rw [hr] at q;exact q.elim
  | int _=>exact fun pins s σ H Q I h_7=>by obtain ⟨H0,Hs0,la,Hs,f,q⟩:=h_7;exact by unfold qQ at q;rw [hr] at q;exact q.elim
  | dict _=>exact fun pins s σ H Q I h_8=>by obtain ⟨H0,Hs0,la,Hs,f,q⟩:=h_8;exact by unfold qQ at q;rw [hr] at q;exact q.elim
theorem EH (h:JE c l g):L3 c tg l (qQ g):=.of fun ρ=>by
 cases hr:g ρ with
 | no=>exact fun pins s σ H Q I h_9=>by obtain ⟨H0,Hs0,la,Hs,f,q⟩:=h_9;exact by unfold qQ at q;rw [hr] at q;exact q.elim
 | ex x n =>
  refine MA (zK (h ρ)) fun σ H Q h_10=>?_
  obtain ⟨H0,Hs0,la,Hs,f,q⟩:=h_10
  refine Gq f q fun d v H1 Hs1 e1 s1 f1 r1=>?_
  rw [hr] at e1;cases e1
 | ok d =>
  cases d with
  | list ds =>
   refine MA (zK (h ρ)) fun σ H Q h_11=>?_
   obtain ⟨H0,Hs0,la,Hs,f,q⟩:=h_11
   refine Gq f q fun d v H1 Hs1 e1 s1 f1 r1=>?_
   rw [hr] at e1;cases e1
   unfold qQ at q
   rw [hr,bind_ok] at q
   cases r1 with
   | list qa ra=>exact ⟨_,rfl,⟨_,f1.st.sub.seq qa⟩,q _ H1 Hs1 s1 (K_ qa ra)⟩
  | tuple ds =>
   refine MA (O8 (h ρ)) fun σ H Q h_12=>?_
   obtain ⟨H0,Hs0,la,Hs,f,q⟩:=h_12
   refine Gq f q fun d v H1 Hs1 e1 s1 f1 r1=>?_
   rw [hr] at e1;cases e1
   unfold qQ at q
   rw [hr,bind_ok] at q
   cases r1 with
   | tuple qa ra=>exact ⟨_,rfl,⟨_,(m5.of (f1.st.sub _ _ qa))⟩,q _ H1 Hs1 s1 (P2 (.of qa) ra)⟩
  | str x =>
   refine MA (OG (h ρ)) fun σ H Q h_13=>?_
   obtain ⟨H0,Hs0,la,Hs,f,q⟩:=h_13
   refine Gq f q fun d v H1 Hs1 e1 s1 f1 r1=>?_
   rw [hr] at e1;cases e1
   unfold qQ at q
   rw [hr,bind_ok] at q
   cases r1 with
   | str _=>exact ⟨x,rfl,q _ H1 Hs1 s1 (P3 x)⟩
  | none=>exact fun pins s σ H Q I h_14=>by obtain ⟨H0,Hs0,la,Hs,f,q⟩:=h_14;exact by unfold qQ at q;rw [hr] at q;exact q.elim
  | bool _=>exact fun pins s σ H Q I h_15=>by obtain ⟨H0,Hs0,la,Hs,f,q⟩:=h_15;exact by unfold qQ at q;rw [hr] at q;exact q.elim
  | int _=>exact fun pins s σ H Q I h_16=>by obtain ⟨H0,Hs0,la,Hs,f,q⟩:=h_16;exact by unfold qQ at q;rw [hr] at q;exact q.elim
  | dict _=>exact fun pins s σ H Q I h_17=>by obtain ⟨H0,Hs0,la,Hs,f,q⟩:=h_17;exact by unfold qQ at q;rw [hr] at q;exact q.elim
theorem L3.i (h:L3 c tg l gs):JI c tg l gs:=.of fun ρ=>MA (h ρ) fun σ H Q ⟨H0,Hs0,la,Hs,f,q⟩=>⟨H0,Hs0,la,Hs,f,by
 cases hr:gs ρ with
 | ok ds=>rw [hr] at q;exact fun J H' Hs' s i=>q J H' Hs' Hs' s s.sub i
 | ex x n=>rw [hr] at q;exact q
 | no=>rw [hr] at q;exact q⟩
def Jb:List D->R (List D)
 | [.int j]=>if -(2 ^ 62)<=j/\j<2 ^ 62 then .ok (sD 0 j.toNat) else .no
 | _=>.no
def yH (gs:au->R (List D)):au->R (List D):=fun ρ=>(gs ρ).bind Jb
theorem qR (hg:Gl c.X "range") (hm:c.X.mg "range"=none) (ha:Uy c [a] gs) (hs:aw [a] c.X.env=[(false,cG a c.X.env)]:=by rfl):L3 c tg (.Call (.Name "range" p) [a] [] pos) (yH gs):=.of fun ρ=>MA (M9 hg hm (ha ρ) hs) fun σ H Q h_18=>by
 obtain ⟨H0,Hs0,la,Hs,f,q⟩:=h_18
 refine OU f q fun ds vs H1 Hs1 e1 s1 f1 r1=>?_
 unfold yH at q
 rw [e1,bind_ok] at q
 unfold Jb at q
 split at q
 ·rename_i j
  by_cases hj:-(2 ^ 62)<=j/\j<2 ^ 62
  ·rw [if_pos hj] at q
   obtain ⟨x,rfl,rx⟩:=r1.one
   exact ⟨j,by rw [rx.int],hj.1,hj.2,q _ H1 Hs1 s1 (P4 0 _)⟩
  ·rw [if_neg hj] at q;exact q.elim
 ·exact q.elim
def Zf:List D->R (List D)
 | [.tuple ds]=>.ok (pV 0 ds)
 | _=>.no
def Jc (gs:au->R (List D)):au->R (List D):=fun ρ=>(gs ρ).bind Zf
theorem RDs.one {K:a9}{H:Hp}{xs:List V}{d:D} (h:RDs K H xs [d]):∃ x,xs=[x]/\RD K H x d:=by
 cases h with | cons a t=>cases t;exact ⟨_,rfl,a⟩
theorem RDs.two {K:a9}{H:Hp}{xs:List V}{d e:D} (h:RDs K H xs [d,e]):∃ x y,xs=[x,y]/\RD K H x d/\RD K H y e:=by
 cases h with | cons a t=>cases t with | cons b t=>cases t;exact ⟨_,_,rfl,a,b⟩
theorem AE {elts:List aR}{x1}{tpos:Pos} (hg:Gl c.X "enumerate") (hm:c.X.mg "enumerate"=none) (ha:Ex c [a] gs) (hs:aw [a] c.X.env=[(false,cG a c.X.env)]:=by rfl):L3 c (.Tuple elts x1 tpos) (.Call (.Name "enumerate" p) [a] [] pos) (Jc gs):=.of fun ρ=>MA (Sq hg hm (ha ρ) hs) fun σ H Q h_20=>by
 obtain ⟨H0,Hs0,la,Hs,f,q⟩:=h_20
 refine Ey f q fun ds vs H1 Hs1 e1 s1 f1 r1=>?_
 unfold Jc at q
 rw [e1,bind_ok] at q
 unfold Zf at q
 split at q
 ·obtain ⟨x,rfl,rx⟩:=r1.one
  cases rx with
  | tuple qa ra=>exact ⟨_,_,rfl,(m5.of (f1.st.sub _ _ qa)),q _ H1 Hs1 s1 (SH (.of qa) ra)⟩
 ·exact q.elim
def zp:List D->R (List D)
 | [.tuple ds,.tuple es]=>.ok (zh ds es)
 | _=>.no
def SJ (gs:au->R (List D)):au->R (List D):=fun ρ=>(gs ρ).bind zp
theorem SK {elts:List aR}{x1}{tpos:Pos} (hg:Gl c.X "zip") (hm:c.X.mg "zip"=none) (ha:Ex c [a,b] gs) (hs:aw [a,b] c.X.env=[(false,cG a c.X.env),(false,cG b c.X.env)]:=by rfl) (hs2:aw [b] c.X.env=[(false,cG b c.X.env)]:=by rfl) :
  L3 c (.Tuple elts x1 tpos) (.Call (.Name "zip" p) [a,b] [] pos) (SJ gs):=.of fun ρ=>MA (VQ hg hm (ha ρ) hs hs2) fun σ H Q h_21=>by
 obtain ⟨H0,Hs0,la,Hs,f,q⟩:=h_21
 refine Ey f q fun ds vs H1 Hs1 e1 s1 f1 r1=>?_
 unfold SJ at q
 rw [e1,bind_ok] at q
 unfold zp at q
 split at q
 ·obtain ⟨x,y,rfl,rx,ry⟩:=r1.two
  cases rx with
  | tuple qa ra =>
   cases ry with
   | tuple qb rb=>exact ⟨_,_,_,_,rfl,(m5.of (f1.st.sub _ _ qa)),(m5.of (f1.st.sub _ _ qb)),q _ H1 Hs1 s1 (W3 (.of qa) ra (.of qb) rb)⟩
 ·exact q.elim
end
end
section
inductive TNI (K:a9) (cls:Str->ai) (E:XK) (ρ:au) (r:R D) (σ:St) (H:Hp) (Q:VK):Prop
 | mk (H0 Hs0:Hp) (la:Nat->Option ai) (Hs:Hp) (f:Fr K H0 Hs0 la ρ σ H Hs) (q:Fin K cls E H Hs r fun d=>∀ a o H' Hs',dk H Hs H' Hs'->H' a=none->qP K Hs' o d->Q (.ref a) (upd H' a o)):TNI K cls E ρ r σ H Q
def TN (K:a9) (cls:Str->ai) (E:XK) (ρ:au) (r:R D):TE:=TNI K cls E ρ r
structure JN (c:C) (e:aR) (g:au->R D):Prop where of ::
 run:∀ ρ,PE c.X e (TN c.X.K c.cls c.E ρ (g ρ))
instance {c:C}{e:aR}{g:au->R D}:CoeFun (JN c e g) (fun _=>∀ ρ,PE c.X e (TN c.X.K c.cls c.E ρ (g ρ))):=⟨JN.run⟩
section
variable {c:C}{e a b l tg:aR}{g ga gb:au->R D}{pos p:Pos}{gs:au->R (List D)}{es:List aR}{x:Str}
theorem q02 {K:a9}{cls:Str->ai}{E:XK}{ρ:au}{r:R D}{σ:St}{H:Hp}{Q:VK} (q:TR K cls E ρ r σ H Q):TN K cls E ρ r σ H Q:=by
 obtain ⟨H0,Hs0,la,Hs,f,q⟩:=q
 refine ⟨H0,Hs0,la,Hs,f,?_⟩
 cases r with
 | ok d=>exact fun a o H' Hs' s n r=>q _ _ _ (s.trans (.new s.sub n)) (r.share (s.sub.free n))
 | ex x n=>exact q
 | no=>exact q
theorem JN.je (h:JN c e g):JE c e g:=.of fun ρ=>um (h ρ) fun σ H Q q=>q02 q
theorem sF (h:Ex c es gs):JN c (.List es pos) (bq gs .list):=.of fun ρ=>um (jk (h ρ)) fun σ H Q h_0=>by
 obtain ⟨H0,Hs0,la,Hs,f,q⟩:=h_0
 refine Ey f q fun ds vs H1 Hs1 e1 s1 f1 r1=>?_
 unfold bq at q
 rw [e1,bind_ok] at q
 by_cases hl:ds.length<=1000
 ·rw [if_pos hl] at q
  exact ⟨bA (c8 (by rw [r1.length];exact hl)),fun p hp=>q p _ H1 Hs1 s1 hp (.lst r1)⟩
 ·rw [if_neg hl] at q;exact q.elim
theorem L5:JN c (.Dict [] [] pos) (fun _=>.ok (.dict [])):=.of fun ρ=>um Ot fun σ H Q h_1=>by obtain ⟨H0,Hs0,la,Hs,f,q⟩:=h_1;exact fun p hp=>q p _ H Hs (.refl f.st.sub) hp (.dK .nil)
def js (i:Nat) (g:au->R D):au->R Fl:=fun ρ=>(g ρ).bind fun d=>.ok (.nx (ρ.set i (.own d)))
theorem sN {K:a9}{cls:Str->ai}{E:XK}{ρ:au}{r:R D}{k:D->R Fl}{σ:St}{H:Hp}{H0 Hs0 Hs:Hp}{la:Nat->Option ai}{D':ui}{Q:V->Hp->Prop} (f:Fr K H0 Hs0 la ρ σ H Hs)
  (h:n5 K cls E H0 Hs0 la D' (r.bind k)) (m:∀ d a o H' Hs',r=.ok d->Fr K H0 Hs0 la ρ σ H' Hs'->H' a=none->qP K Hs' o d->Q (.ref a) (upd H' a o)):TN K cls E ρ r σ H Q:=by
 refine ⟨H0,Hs0,la,Hs,f,?_⟩
 cases r with
 | ok d=>exact fun a o H' Hs' s n r=>m d a o H' Hs' rfl (f.step s) n r
 | ex c n=>exact fun H' Hs' s=>h H' Hs' (f.st.trans s)
 | no=>exact h
theorem lE (i:Nat) {pos':Pos} (h:JN c e g) (hN:c.X.N.Nodup) (hi:c.X.N[i]?=some x:=by rfl) (hx:NY c.X.env.scope x:=by first | exact fu rfl | exact dS rfl) (hs:fh e (some (.Name x pos')) pos.line c.X.env=pure false:=by rfl)
  (hf:c.X.fn x=true\/c.X.env.scope.names.lookup x=some .local:=by first | exact .inl rfl | exact .inr rfl | assumption):JS c (.Assign [.Name x pos'] e pos) (js i g):=.of fun ρ=>zM (uW hN hi hx (h ρ) hs hf) fun D σ H h_2=>by
 obtain ⟨H0,Hs0,la,Hs,f,q⟩:=h_2
 refine sN f q fun d a o H1 Hs1 e1 f1 n1 r1=>?_
 unfold js at q
 rw [e1,bind_ok] at q
 exact q _ _ Hs1 (f1.setO i n1 r1)
def MB {α:Type}:R α->R α
 | .ex _ _=>.no
 | r=>r
theorem L6 {α:Type}{r:R α}{a:α} (h:MB r=.ok a):r=.ok a:=by
 cases r<;>first | exact h | cases h
def ik (f:D->R (Option D)):List D->R (List D)
 | []=>.ok []
 | d::r=>(f d).bind fun o=>(ik f r).bind fun ys=>.ok (match o with
  | some y=>y::ys
  | none=>ys)
theorem AF {f:D->R (Option D)}{d:D}{r ys:List D} (h:ik f (d::r)=.ok ys):∃ o zs,f d=.ok o/\ik f r=.ok zs/\ys=o.toList++zs:=by
 unfold ik at h
 cases hf:f d with
 | ok o =>
  rw [hf,bind_ok] at h
  cases hm:ik f r with
  | ok zs =>
   rw [hm,bind_ok] at h
   cases h
   cases o<;>exact ⟨_,zs,rfl,rfl,rfl⟩
  | ex x n=>rw [hm] at h;cases h
  | no=>rw [hm] at h;cases h
 | ex x n=>rw [hf] at h;cases h
 | no=>rw [hf] at h;cases h
def SL:Sl->Sl
 | .own d=>.lck d
 | .ow2 _=>.no
 | s=>s
def pW (nt:Nat) (ix:List Nat) (ρ:au):au:=bt nt Sl.no++ix.map fun i=>SL ((ρ[i]?).getD .no)
def Y2 (nt:Nat):D->au->R au:=match nt with
 | 1=>cL 0
 | 2=>rN 2 (dR (cL 0) (dR (cL 1) uq))
 | _=>fun _ _=>.no
def ji (nt:Nat) (ρ:au) (gt:au->R Bool) (ge:au->R D):D->R (Option D):=fun d=>MB ((Y2 nt d ρ).bind fun ρ'=>(gt ρ').bind fun b=>if b then (ge ρ').bind fun y=>.ok (some y) else .ok none)
def iX (nt:Nat) (ix:List Nat) (gi:au->R (List D)) (gt:au->R Bool) (ge:au->R D):au->R D:=fun ρ=>(gi ρ).bind fun ds=>if ds.length<=1000 then (ik (ji nt (pW nt ix ρ) gt ge) ds).bind fun ys=>.ok (.list ys) else .no
structure Y3 (c:C) (ifs:List aR) (g:au->R Bool):Prop where of ::
 run:∀ ρ,Rv c.X ifs (NF c.X.K c.cls c.E ρ (g ρ))
instance {c:C}{ifs:List aR}{g:au->R Bool}:CoeFun (Y3 c ifs g) (fun _=>∀ ρ,Rv c.X ifs (NF c.X.K c.cls c.E ρ (g ρ))):=⟨Y3.run⟩
theorem gQ:Y3 c [] (fun _=>.ok true):=.of fun ρ pins s σ H Q I h_3=>by obtain ⟨H0,Hs0,la,Hs,f,q⟩:=h_3;exact Sk pins s σ H Q I (q H Hs (.refl f.st.sub))
theorem EI {gt:au->R Bool} (h:JT c e gt):Y3 c [e] gt:=.of fun ρ=>Sm (h ρ)
def MC (K:a9) (nt:Nat):TG:=match nt with
 | 1=>yB 0
 | _=>Vr K 2 (L2.ac (yB 0) (L2.ac (yB 1) L2.aq))
theorem EJ {K:a9}{nt:Nat} (h:nt=1\/nt=2):Us nt (MC K nt):=by
 rcases h with rfl | rfl
 ·exact Ov (by decide)
 ·exact Sn (by decide) (by decide)
theorem Gz {K:a9}{nt:Nat}{H0 Hs0 H Hs:Hp}{la:Nat->Option ai}{ρ ρ':au}{σ:St}{v:V}{d:D}{Q:St->Hp->Prop} (hnt:nt=1\/nt=2) (f:Fr K H0 Hs0 la ρ σ H Hs) (r:RD K Hs v d) (hb:Y2 nt d ρ=.ok ρ')
  (q:∀ σ',Fr K H0 Hs0 la ρ' σ' H Hs->Q σ' H):MC K nt v σ H Q:=by
 rcases hnt with rfl | rfl
 ·cases hb
  exact q _ (f.set 0 r)
 ·unfold Y2 rN at hb
  simp only at hb
  cases r with
  | @tuple p xs ds hq rs =>
   simp only at hb
   split at hb
   ·rename_i hl
    cases rs with
    | nil=>cases hl
    | cons r1 rs =>
     cases rs with
     | nil=>cases hl
     | cons r2 rs =>
      cases rs with
      | nil =>
       cases hb
       exact ⟨p,_,rfl,(m5.of (f.st.sub _ _ hq)),rfl,_,_,rfl,_,_,rfl,rfl,q _ ((f.set 0 r1).set 1 r2)⟩
      | cons _ _=>simp at hl
   ·cases hb
  | none=>cases hb
  | bool _=>cases hb
  | int _=>cases hb
  | str _=>cases hb
  | list _ _=>cases hb
  | dictK _ _=>cases hb
  | dictT _ _ _=>cases hb
  | dictF _ _ _=>cases hb
theorem Fr.block {K:a9}{H0 Hs0 H Hs:Hp}{la:Nat->Option ai}{ρ:au}{σ:St} (f:Fr K H0 Hs0 la ρ σ H Hs) (nt:Nat) (ix:List Nat):∃ la',Fr K H Hs la' (pW nt ix ρ) (L2.jY nt ix σ) H Hs:=by
 have lk:∀ (j:Nat) (d:D),(pW nt ix ρ)[j]?=some (Sl.lck d)->∃ a o,(L2.jY nt ix σ)[j]?=some (some (V.ref a))/\H a=some o/\Hs a=none/\qP K Hs o d:=fun j d h=>by
  unfold pW at h
  by_cases hj:j<nt
  ·rw [bS (by simpa using hj),bR,if_pos hj] at h;cases h
  ·have hj:nt<=j:=by omega
   rw [bC (by simpa using hj),dn,aT] at h
   cases hi:ix[j - nt]? with
   | none=>rw [hi] at h;cases h
   | some i =>
    rw [hi] at h
    have at_:∀ v,σ[i]?=some (some v)->(L2.jY nt ix σ)[j]?=some (some v):=fun v k1=>by
     unfold L2.jY
     rw [bC (by simpa using hj),dn,aT,hi]
     simp [k1]
    cases hr:ρ[i]? with
    | none=>simp only [dY,hr,hU,SL] at h;cases h
    | some s =>
     simp only [dY,hr,lB] at h
     cases s with
     | own d' =>
      cases h
      obtain ⟨a,o,k1,k2,k3,k4,k5⟩:=f.ow i d hr
      exact ⟨a,o,at_ _ k1,k2,k3,k5⟩
     | lck d' =>
      cases h
      obtain ⟨a,o,k1,k2,k3,k4,k5,k6⟩:=f.lk i d hr
      exact ⟨a,o,at_ _ k1,k3,k4,k6⟩
     | no=>cases h
     | shr _=>cases h
     | ow2 _=>cases h
 have no2:∀ (j:Nat) (d:List (List D)),¬ (pW nt ix ρ)[j]?=some (Sl.ow2 d):=fun j d h=>by
  unfold pW at h
  by_cases hj:j<nt
  ·rw [bS (by simpa using hj),bR,if_pos hj] at h;cases h
  ·have hj:nt<=j:=by omega
   rw [bC (by simpa using hj),dn,aT] at h
   cases hi:ix[j - nt]? with
   | none=>rw [hi] at h;cases h
   | some i =>
    rw [hi] at h
    cases hr:ρ[i]? with
    | none=>simp only [dY,hr,hU,SL] at h;cases h
    | some s =>
     simp only [dY,hr,lB] at h
     cases s<;>cases h
 refine ⟨fun j=>match (pW nt ix ρ)[j]?,(L2.jY nt ix σ)[j]? with
  | some (Sl.lck _),some (some (V.ref a))=>some a
  | _,_=>none,.refl f.st.sub,by simp [pW,L2.jY],fun j d h=>?_,fun j d h=>?_,fun j d h=>?_,fun j k d1 d2 a h1 h2 _ _=>?_,fun j a h=>?_,fun j d h=>(no2 j d h).elim,fun j k d1 d2 h1 _=>(no2 j d1 h1).elim⟩
 case refine_3 =>
  obtain ⟨a,o,k1,k2,k3,k4⟩:=lk j d h
  exact ⟨a,o,k1,by rw [h,k1],k2,k3,k2,k4⟩
 case refine_5 =>
  split at h
  ·rename_i d a' h1 h2
   cases h
   obtain ⟨a',o,k1,k2,_⟩:=lk j d h1
   rw [h2] at k1
   cases k1
   exact ⟨o,k2⟩
  ·cases h
 all_goals
  unfold pW at *
 ·have h:=h
  by_cases hj:j<nt
  ·rw [bS (by simpa using hj),bR,if_pos hj] at h;cases h
  ·have hj:nt<=j:=by omega
   rw [bC (by simpa using hj),dn,aT] at h
   cases hi:ix[j - nt]? with
   | none=>rw [hi] at h;cases h
   | some i =>
    rw [hi] at h
    cases hr:ρ[i]? with
    | none=>simp only [dY,hr,hU,SL] at h;cases h
    | some s =>
     simp only [dY,hr,lB] at h
     cases s with
     | shr d' =>
      cases h
      obtain ⟨v,k1,k2⟩:=f.sh i d hr
      refine ⟨v,?_,k2⟩
      unfold L2.jY
      rw [bC (by simpa using hj),dn,aT,hi]
      simp [k1]
     | no=>cases h
     | own _=>cases h
     | lck _=>cases h
     | ow2 _=>cases h
 ·have h:=h
  by_cases hj:j<nt
  ·rw [bS (by simpa using hj),bR,if_pos hj] at h;cases h
  ·have hj:nt<=j:=by omega
   rw [bC (by simpa using hj),dn,aT] at h
   cases hi:ix[j - nt]? with
   | none=>rw [hi] at h;cases h
   | some i =>
    rw [hi] at h
    cases hr:ρ[i]? with
    | none=>simp only [dY,hr,hU,SL] at h;cases h
    | some s =>
     simp only [dY,hr,lB] at h
     cases s<;>cases h
 ·have h1:=h1
  by_cases hj:j<nt
  ·rw [bS (by simpa using hj),bR,if_pos hj] at h1;cases h1
  ·have hj:nt<=j:=by omega
   rw [bC (by simpa using hj),dn,aT] at h1
   cases hi:ix[j - nt]? with
   | none=>rw [hi] at h1;cases h1
   | some i =>
    rw [hi] at h1
    cases hr:ρ[i]? with
    | none=>simp only [dY,hr,hU,SL] at h1;cases h1
    | some s =>
     simp only [dY,hr,lB] at h1
     cases s<;>cases h1
theorem AG {f:D->R (Option D)} (h:∀ d c n,f d≠.ex c n):∀ (ds:List D) (c:Str) (n:Option D),ik f ds≠.ex c n
 | [],c,n=>fun e=>by cases e
 | d::r,c,n=>fun e=>by
  unfold ik at e
  cases hf:f d with
  | ok o =>
   rw [hf,bind_ok] at e
   cases hm:ik f r with
   | ok zs=>rw [hm,bind_ok] at e;cases e
   | ex x k=>exact AG h r x k hm
   | no=>rw [hm] at e;cases e
  | ex x k=>exact h d x k hf
  | no=>rw [hf] at e;cases e
theorem GA (nt:Nat) (ρ:au) (gt:au->R Bool) (ge:au->R D) (d:D) (c:Str) (n:Option D):ji nt ρ gt ge d≠.ex c n:=by
 unfold ji MB
 split<;>first | exact fun e=>by cases e | skip
 rename_i h
 exact fun e=>h c n e
inductive cnI (K:a9) (f:D->R (Option D)) (ds ys:List D) (H1 Hs1:Hp) (i m:Nat) (acc:List V) (H':Hp):Prop
 | mk (done bP zs ya Hs':_) (h0:ds=done++bP) (h1:done.length=i) (h2:bP.length=m) (h3:dk H1 Hs1 H' Hs') (h4:RDs K Hs' acc ya) (h5:ya.length<=i) (h6:ik f bP=.ok zs) (h7:ys=ya++zs):cnI K f ds ys H1 Hs1 i m acc H'
theorem L7 {K:a9}{cls:Str->ai}{E:XK}{nt:Nat}{ix:List Nat}{gi:au->R (List D)}{gt:au->R Bool}{ge:au->R D}{ρ:au}{σ:St}{H:Hp}{Q:VK} (hnt:nt=1\/nt=2)
  (q:TN K cls E ρ (iX nt ix gi gt ge ρ) σ H Q) :
  Ou nt ix (Ze K cls E ρ (gi ρ)) (MC K nt) (fun σ H Q=>∃ ρ',NF K cls E0 ρ' (gt ρ') σ H Q) (fun σ H Q=>∃ ρ',TR K cls E0 ρ' (ge ρ') σ H Q) σ H Q:=by
 obtain ⟨H0,Hs0,la,Hs,f,q⟩:=q
 refine ⟨H0,Hs0,la,Hs,f,?_⟩
 unfold iX at q
 cases hi:gi ρ with
 | no=>rw [hi] at q;exact q
 | ex x n=>rw [hi] at q;exact q
 | ok ds =>
  rw [hi,bind_ok] at q
  intro J H1 Hs1 Hn s1 sn it
  by_cases hl:ds.length<=1000
  ·rw [if_pos hl] at q
   cases hm:ik (ji nt (pW nt ix ρ) gt ge) ds with
   | no=>rw [hm] at q;exact q.elim
   | ex x n=>exact (AG (GA _ _ _ _) _ _ _ hm).elim
   | ok ys =>
    rw [hm,bind_ok] at q
    obtain ⟨lb,fb⟩:=(f.step s1).block nt ix
    refine ⟨cnI K (ji nt (pW nt ix ρ) gt ge) ds ys H1 Hs1,
     ⟨ds.length,[],ds,ys,[],Hs1,rfl,rfl,rfl,.refl s1.sub,.nil,dU _,hm,rfl⟩,?_⟩
    rintro i m acc H' ⟨done,bP,zs,ya,Hs',hds,hdl,hrl,st,ra,yl,hz,hy⟩
    obtain ⟨igo,istop,iyld⟩:=it H' Hs' (sn.trans st.all) st.sh st.sub
    cases bP with
    | nil =>
     left
     cases hz
     rw [c_] at hds hy
     subst hy hds
     exact ⟨istop i (by omega),fun p hp=>q p _ H' Hs' (s1.trans st) hp (.lst ra)⟩
    | cons d bP =>
     right
     have hil:i<ds.length:=by rw [hds,bw,cc];omega
     refine ⟨igo i hil,c8 (by rw [ra.length];omega),fun x H2 hyl=>?_⟩
     obtain ⟨d',Hs2,hd,s2,r2⟩:=iyld i x H2 hil hyl
     have hdd:d'=d:=by
      rw [hds,bC (by omega)] at hd
      simp [hdl] at hd
      exact hd.symm
     subst hdd
     obtain ⟨o,zs',hf,hz',rfl⟩:=AF hz
     have hf:=L6 hf
     cases hb:Y2 nt d' (pW nt ix ρ) with
     | no=>rw [hb] at hf;cases hf
     | ex x n=>rw [hb] at hf;cases hf
     | ok ρ' =>
      rw [hb,bind_ok] at hf
      refine Gz hnt ((fb.step st).step s2) r2 hb fun σ2 f2=>⟨ρ',?_⟩
      refine ⟨_,_,_,Hs2,f2,?_⟩
      cases ht:gt ρ' with
      | no=>rw [ht] at hf;cases hf
      | ex x n=>rw [ht] at hf;cases hf
      | ok b =>
       rw [ht,bind_ok] at hf
       intro H3 Hs3 s3
       cases b with
       | false =>
        rw [if_neg ba] at hf
        cases hf
        refine Ee ⟨bP.length,by rw [<- hrl];simp,done++[d'],bP,zs',ya,Hs3,by rw [hds];simp,by simp [hdl],rfl,(st.trans s2).trans s3,ra.same (s2.trans s3).sh,by omega,hz',by simpa using hy⟩
       | true =>
        rw [if_pos rfl] at hf
        refine IT ⟨ρ',_,_,_,Hs3,f2.step s3,?_⟩
        cases he:ge ρ' with
        | no=>rw [he] at hf;cases hf
        | ex x n=>rw [he] at hf;cases hf
        | ok y =>
         rw [he,bind_ok] at hf
         cases hf
         intro v H4 Hs4 s4 r4
         exact ⟨bP.length,by rw [<- hrl];simp,done++[d'],bP,zs',ya++[y],Hs4,by rw [hds];simp,by simp [hdl],rfl,((st.trans s2).trans s3).trans s4,(ra.same ((s2.trans s3).trans s4).sh).append (.cons r4 .nil),by simp;omega,hz',by rw [hy];simp⟩
  ·rw [if_neg hl] at q;exact q.elim
def C.comp (c:C) (N':List Str) (scope:eD) (cl:List (Str×ai)) (A:ai) (s₀:ah) (H₀:Hp) (ex:List ai) (pn:List (ai×Obj)):C:=⟨de c.X N' scope cl A s₀ H₀ ex pn,c.cls,E0⟩
variable {elt iter:aR}{ifs:List aR}{scope:eD}{N':List Str}{nt:Nat}{ix:List Nat}{gi:au->R (List D)}{gt:au->R Bool}{ge:au->R D}
def wp (c:C) (N':List Str) (scope:eD) (nt:Nat) (tg:aR) (ifs:List aR) (elt:aR) (gt:au->R Bool) (ge:au->R D):Prop :=
 ∀ cl A s₀ H₀ ex pn,PG (c.comp N' scope cl A s₀ H₀ ex pn).X tg (MC c.X.K nt)/\Y3 (c.comp N' scope cl A s₀ H₀ ex pn) ifs gt/\JE (c.comp N' scope cl A s₀ H₀ ex pn) elt ge
theorem wp.at (h:wp c N' scope nt tg ifs elt gt ge):∀ cl A s₀ H₀ ex pn,PG (de c.X N' scope cl A s₀ H₀ ex pn) tg (MC c.X.K nt)/\Rv (de c.X N' scope cl A s₀ H₀ ex pn) ifs (fun σ H Q=>∃ ρ',NF c.X.K c.cls E0 ρ' (gt ρ') σ H Q) /\
  PE (de c.X N' scope cl A s₀ H₀ ex pn) elt (fun σ H Q=>∃ ρ',TR c.X.K c.cls E0 ρ' (ge ρ') σ H Q):=fun cl A s₀ H₀ ex pn=>by
 obtain ⟨h1,h2,h3⟩:=h cl A s₀ H₀ ex pn
 exact ⟨h1,fun pins s σ H Q I h_4=>by obtain ⟨ρ',q⟩:=h_4;exact h2 ρ' pins s σ H Q I q,fun pins s σ H Q I h_5=>by obtain ⟨ρ',q⟩:=h_5;exact h3 ρ' pins s σ H Q I q⟩
theorem j6 (nt:Nat) (hnt:nt=1\/nt=2) (hc:c.X.calm=true) (S:oO c.X scope N' nt ix) (hi:JI c tg iter gi) (hb:wp c N' scope nt tg ifs elt gt ge) (hs:∀ x,e6 iter c.X.env x=pure x:=by intro _;rfl) :
  JN c (.ListComp elt [⟨tg,iter,ifs,0⟩] scope pos) (iX nt ix gi gt ge):=.of fun ρ=>um (Gb hc S (EJ hnt) (hi ρ) hb.at hs) fun σ H Q q=>L7 hnt q
theorem n6 (i:Nat) {spos py:Pos} (nt:Nat) (hnt:nt=1\/nt=2) (hN:c.X.N.Nodup) (hc:c.X.calm=true) (S:oO c.X scope N' nt ix) (hi:JI c tg iter gi) (hb:wp c N' scope nt tg ifs elt gt ge)
  (hiN:c.X.N[i]?=some x:=by rfl) (hy:c.X.env.scope.names.lookup x=some .local:=by rfl)
  (hsw:fh (.ListComp elt [⟨tg,iter,ifs,0⟩] scope pos) (some (.Name x py)) spos.line c.X.env=pure true:=by rfl)
  (hs:∀ x,e6 iter c.X.env x=pure x:=by intro _;rfl):JS c (.Assign [.Name x py] (.ListComp elt [⟨tg,iter,ifs,0⟩] scope pos) spos) (js i (iX nt ix gi gt ge)):=.of fun ρ=>zM (IW hN hiN hy hc S (EJ hnt) (hi ρ) hb.at hsw hs) fun D σ H h_6=>by
 obtain ⟨H0,Hs0,la,Hs,f,q⟩:=h_6
 refine L7 (Q:=fun x H1=>D.nx (σ.set i (some x)) H1) hnt (sN f q fun d a o H1 Hs1 e1 f1 n1 r1=>?_)
 unfold js at q
 rw [e1,bind_ok] at q
 exact q _ _ Hs1 (f1.setO i n1 r1)
end
end
section
theorem Y4 {X:Cx}{st:bH}{t:TS} (h:PS X.nox st t):PS X st t:=fun pins s σ H D I hw =>
 bh (h pins s σ H D (I.wish _) hw) (fun _ _ q=>q.unwish) fun _ _ z=>eQ z
def C.nox (c:C):C:=⟨c.X.nox,c.cls,E0⟩
def sG (k:D->au->R au) (b:au->R Fl):List D->au->R Fl
 | [],ρ=>.ok (.nx ρ)
 | d::r,ρ=>match k d ρ with
  | .ok ρ1=>match b ρ1 with
   | .ok (.nx ρ')=>sG k b r ρ'
   | .ok (.ct ρ')=>sG k b r ρ'
   | .ok (.bk ρ')=>.ok (.nx ρ')
   | .ok (.rt d)=>.ok (.rt d)
   | _=>.no
  | _=>.no
section
variable {K:a9}{cls:Str->ai}{E:XK}
inductive fgI (K:a9) (cls:Str->ai) (E:XK) (H0 Hs0:Hp) (la:Nat->Option ai) (D':ui) (kt:D->au->R au) (gb:au->R Fl) (ds:List D) (i m:Nat) (σ:St) (H:Hp):Prop
 | mk (done bP ρ Hs:_) (h0:ds=done++bP) (h1:done.length=i) (h2:bP.length=m) (h3:Fr K H0 Hs0 la ρ σ H Hs) (h4:n5 K cls E H0 Hs0 la D' (sG kt gb bP ρ)):fgI K cls E H0 Hs0 la D' kt gb ds i m σ H
theorem W4 {J:It}{Hn H0 Hs0:Hp}{la:Nat->Option ai}{ds:List D}{kt:D->au->R au}{gb:au->R Fl}{ρ:au}{σ:St}{H Hs:Hp}{D':ui}{tg:TG}{tb:TS}
  (it:Rx K J ds Hn Hs0) (hn:eg Hn H0) (f:Fr K H0 Hs0 la ρ σ H Hs)
  (htg:∀ ρ d v σ H Q,XZ K ρ d (kt d ρ) v σ H Q->tg v σ H Q) (htb:∀ ρ D σ H,SR K cls E0 ρ (gb ρ) D σ H->tb D σ H)
  (q:n5 K cls E H0 Hs0 la D' (sG kt gb ds ρ)) :
  Zx tg tb D' σ J H:=by
 refine ⟨fgI K cls E H0 Hs0 la D' kt gb ds,⟨ds.length,[],ds,ρ,Hs,rfl,rfl,rfl,f,q⟩,?_⟩
 rintro i m σ H ⟨done,bP,ρ,Hs,hds,hdl,hrl,f,q⟩
 obtain ⟨igo,istop,iyld⟩:=it H Hs (hn.trans f.st.all) f.st.sh f.st.sub
 cases bP with
 | nil =>
  rw [c_] at hds
  subst hds
  exact .inl ⟨istop i (by omega),q σ H Hs f⟩
 | cons d bP =>
  have hil:i<ds.length:=by rw [hds,bw,cc];omega
  refine .inr ⟨igo i hil,fun σ' H'=>∃ ρ' Hs',Fr K H0 Hs0 la ρ' σ' H' Hs'/\n5 K cls E H0 Hs0 la D' (sG kt gb bP ρ'),fun σ' H' ⟨ρ',Hs',f',q'⟩=>⟨bP.length,by rw [<- hrl];simp,done++[d],bP,ρ',Hs',by rw [hds];simp,by simp [hdl],rfl,f',q'⟩,fun x H2 hyl=>?_⟩
  obtain ⟨d',Hs2,hd,s2,r2⟩:=iyld i x H2 hil hyl
  have hdd:d'=d:=by
   rw [hds,bC (by omega)] at hd
   simp [hdl] at hd
   exact hd.symm
  subst hdd
  unfold sG at q
  refine htg ρ d' x σ H2 _ ⟨H0,Hs0,la,Hs2,f.step s2,r2,?_⟩
  cases hk:kt d' ρ with
  | ex c n=>rw [hk] at q;exact q
  | no=>rw [hk] at q;exact q
  | ok ρ1 =>
   rw [hk] at q
   intro σ2 f2
   refine htb ρ1 _ σ2 H2 ⟨H0,Hs0,la,Hs2,f2,?_⟩
   cases hg:gb ρ1 with
   | no=>simp only [hg] at q;exact q.elim
   | ex c n=>simp only [hg] at q;exact q.elim
   | ok fl =>
    simp only [hg] at q
    cases fl with
    | nx ρ'=>exact fun σ' H' Hs' f'=>⟨ρ',Hs',f',q⟩
    | ct ρ'=>exact fun σ' H' Hs' f'=>⟨ρ',Hs',f',q⟩
    | bk ρ'=>exact fun σ' H' Hs' f'=>q σ' H' Hs' f'
    | rt d=>exact q
def wq (A B:Hp):Hp:=fun b=>match A b with
 | some o=>some o
 | none=>B b
theorem v6 {A B:Hp}:eg A (wq A B):=fun b o e=>by unfold wq;rw [e]
theorem tS {A B:Hp}{b:ai} (h:A b=none):wq A B b=B b:=by unfold wq;rw [h]
theorem P5 {A B H:Hp} (h1:eg A H) (h2:eg B H):eg (wq A B) H:=fun b o e=>by
 cases h:A b with
 | some u=>unfold wq at e;rw [h] at e;cases e;exact h1 b o h
 | none=>rw [tS h] at e;exact h2 b o e
theorem W5 {A B H:Hp} (h1:eg A H) (h2:eg B H):eg B (wq A B):=fun b o e=>by
 cases h:A b with
 | some u =>
  unfold wq
  rw [h]
  have:=h1 b u h
  rw [h2 b o e] at this
  exact this.symm
 | none=>rw [tS h];exact e
theorem Fr.into {H0 Hs0 H Hs:Hp}{la:Nat->Option ai}{ρ:au}{σ:St} (f:Fr K H0 Hs0 la ρ σ H Hs):Fr K (wq H0 Hs) Hs la ρ σ H Hs:=by
 have sub:=P5 f.st.all f.st.sub
 refine ⟨⟨sub,.refl _,f.st.sub,fun a o e _ z=>z⟩,f.len,f.sh,fun i d h=>?_,fun i d h=>?_,f.dj,fun i a e=>let ⟨o,k⟩:=f.lh i a e;⟨o,v6 _ _ k⟩,fun i d h=>?_,f.u2⟩
 ·obtain ⟨a,o,h1,h2,h3,h4,h5⟩:=f.ow i d h
  exact ⟨a,o,h1,h2,h3,by rw [tS h4];exact h3,h5⟩
 ·obtain ⟨a,o,h1,h2,h3,h4,h5,h6⟩:=f.lk i d h
  exact ⟨a,o,h1,h2,h3,h4,v6 _ _ h5,h6⟩
 ·obtain ⟨a,as,O⟩:=f.o2 i d h
  exact ⟨a,as,O.at_,O.ob,O.nd,fun b hb=>⟨(O.out b hb).1,by rw [tS (O.out b hb).2];exact (O.out b hb).1⟩,O.dj,O.inn⟩
theorem dk.outof {H0 Hs0 H1 Hs1 H' Hs':Hp} (s:dk H0 Hs0 H1 Hs1) (t:dk (wq H0 Hs1) Hs1 H' Hs'):dk H0 Hs0 H' Hs' :=
 ⟨v6.trans t.all,s.sh.trans t.sh,t.sub,fun a o e n z=>t.out a o (v6 _ _ e) n (s.out a o e n z)⟩
theorem Fr.outof {H0 Hs0 H1 Hs1 H' Hs':Hp}{la:Nat->Option ai}{ρ1 ρ:au}{σ1 σ:St} (f1:Fr K H0 Hs0 la ρ1 σ1 H1 Hs1) (f:Fr K (wq H0 Hs1) Hs1 la ρ σ H' Hs'):Fr K H0 Hs0 la ρ σ H' Hs':=by
 refine ⟨f1.st.outof f.st,f.len,f.sh,fun i d h=>?_,fun i d h=>?_,f.dj,f1.lh,fun i d h=>?_,f.u2⟩
 ·obtain ⟨a,o,h1,h2,h3,h4,h5⟩:=f.ow i d h
  exact ⟨a,o,h1,h2,h3,v6.free h4,h5⟩
 ·obtain ⟨a,o,h1,h2,h3,h4,h5,h6⟩:=f.lk i d h
  obtain ⟨o',e⟩:=f1.lh i a h2
  have e':=v6 (B:=Hs1) _ _ e
  rw [h5] at e'
  cases e'
  exact ⟨a,o,h1,h2,h3,h4,e,h6⟩
 ·obtain ⟨a,as,O⟩:=f.o2 i d h
  exact ⟨a,as,O.at_,O.ob,O.nd,fun b hb=>⟨(O.out b hb).1,v6.free (O.out b hb).2⟩,O.dj,O.inn⟩
end
end
section
section
variable {K:a9}{cls:Str->ai}{E:XK}
theorem n5.into {H0 Hs0 H1 Hs1:Hp}{la:Nat->Option ai}{ρ1:au}{σ1:St}{D':ui}{r:R Fl} (f1:Fr K H0 Hs0 la ρ1 σ1 H1 Hs1) (q:n5 K cls E H0 Hs0 la D' r):n5 K cls E (wq H0 Hs1) Hs1 la D' r:=by
 cases r with
 | no=>exact q
 | ex c n=>exact fun H' Hs' s=>q H' Hs' (f1.st.outof s)
 | ok fl =>
  cases fl with
  | nx ρ=>exact fun σ' H' Hs' f=>q σ' H' Hs' (f1.outof f)
  | bk ρ=>exact fun σ' H' Hs' f=>q σ' H' Hs' (f1.outof f)
  | ct ρ=>exact fun σ' H' Hs' f=>q σ' H' Hs' (f1.outof f)
  | rt d=>exact fun v H' Hs' s r=>q v H' Hs' (f1.st.outof s) r
end
section
variable {c:C}{e a b iter tg:aR}{g ga gb:au->R D}{pos p:Pos}{gi:au->R (List D)}{body:List bH}{x:Str}{kt:D->au->R au}{gbd:au->R Fl}
def v7 (gi:au->R (List D)) (kt:D->au->R au) (gb:au->R Fl):au->R Fl:=fun ρ=>match gi ρ with
 | .ok ds=>sG kt gb ds ρ
 | _=>.no
theorem qS (hc:c.X.calm=true) (hi:L3 c.nox tg iter gi) (hg:JG c.nox tg kt) (hb:Gw c.nox body gbd) (hs:∀ x,e6 iter c.X.env x=pure x:=by intro _;rfl):JS c (.For tg iter body [] pos) (v7 gi kt gbd):=.of fun ρ=>by
 refine Y4 (zM (Vs PassesOwn.never hc (hi ρ) (g:=fun v σ H Q=>∃ ρ d,XZ c.X.K ρ d (kt d ρ) v σ H Q) (tb:=fun D σ H=>∃ ρ,SR c.X.K c.cls E0 ρ (gbd ρ) D σ H) ?_ ?_ hs) fun D σ H ⟨H0,Hs0,la,Hs,f,q⟩=>?_)
 ·exact fun pins s σ H v u Q I r h_0=>by obtain ⟨ρ,d,q⟩:=h_0;exact hg ρ d pins s σ H v u Q I r q
 ·exact fun pins s σ H D I h_1=>by obtain ⟨ρ,q⟩:=h_1;exact hb ρ pins s σ H D I q
 ·refine ⟨H0,Hs0,la,Hs,f,?_⟩
  unfold v7 at q
  cases hr:gi ρ with
  | no=>rw [hr] at q;exact q
  | ex x n=>rw [hr] at q;exact q.elim
  | ok ds =>
   rw [hr] at q
   intro J H1 Hs1 s1 it
   have f1:=f.step s1
   exact W4 (E:=c.E) (cls:=c.cls) (kt:=kt) (gb:=gbd) (tg:=fun v σ H Q=>∃ ρ d,XZ c.X.K ρ d (kt d ρ) v σ H Q) (tb:=fun D σ H=>∃ ρ,SR c.X.K c.cls E0 ρ (gbd ρ) D σ H) it (W5 f1.st.all f1.st.sub) f1.into (fun ρ d v σ H Q h=>⟨ρ,d,h⟩) (fun ρ D σ H h=>⟨ρ,h⟩) (n5.into f1 q)
end
end
section
section
variable {c:C}{e k:aR}{g gk:au->R D}{pos p apos cpos:Pos}{x:Str}
def zi (i:Nat) (g:au->R D):au->R Fl:=fun ρ=>match ρ[i]? with
 | some (Sl.own (.list ds))=>(g ρ).bind fun d=>if ds.length<1000 then .ok (.nx (ρ.set i (.own (.list (ds++[d]))))) else .no
 | _=>.no
theorem tT (i:Nat) (h:JE c e g) (hN:c.X.N[i]?=some x:=by rfl) (hv:NX c.X.env.scope x:=by first | exact fu rfl | exact dS (fu rfl) | exact dS (dS rfl)) (hd:(x == ("__debug__" : Str))=false:=by decide)
  (hcd:(x == ("__classdict__" : Str))=false:=by decide)
  (hbase:r_ (.Name x p) "append" c.X.env (cG (.Name x p) c.X.env)=cG (.Name x p) c.X.env:=by rfl)
  (hfew:((dL cpos (aw [e] c.X.env)).all (fun x=>!x.1) && (m6 cpos (hV [] c.X.env)).all (fun x=>x.1.isSome)
   && decide ([e].length + ([] : List nN).length + (if ([] : List nN).isEmpty then 0 else 1)<30))=true:=by rfl)
  (hline:(apos.endLine == cpos.line)=true:=by rfl) (hst:aw [e] c.X.env=(false,cG e c.X.env)::aw [] c.X.env:=by rfl) (hplain:(dL cpos (aw [] c.X.env)).any (·.1)=false:=by rfl)
  (hs:fh (.Call (.Attribute (.Name x p) "append" apos) [e] [] cpos) none pos.line c.X.env=pure false:=by rfl) :
  JS c (.Expr (.Call (.Attribute (.Name x p) "append" apos) [e] [] cpos) pos) (zi i g):=.of fun ρ=>by
 refine zM (qI (yD dv Cd Ce Dn (mZ hN hv hd hcd) (c9 (h ρ) eL hst) hbase hfew hline hst hplain) hs) fun D σ H h_0=>?_
 obtain ⟨H0,Hs0,la,Hs,f,q⟩:=h_0
 replace q:n5 c.X.K c.cls c.E H0 Hs0 la D (zi i g ρ):=q
 unfold zi at q
 split at q
 ·rename_i ds ho
  obtain ⟨a,o,k1,k2,k3,k4,k5⟩:=f.ow i _ ho
  cases k5 with
  | @lst vs _ r =>
   refine ⟨_,k1,.inl ⟨rfl,_,.of k2⟩,?_⟩
   refine sE f q fun d v H1 Hs1 e1 s1 f1 r1=>?_
   rw [e1,bind_ok] at q
   by_cases hl:ds.length<1000
   ·rw [if_pos hl] at q
    have r':=r.same s1.sh
    exact ⟨a,vs,v,rfl,rfl,s1.all _ _ k2,c8 (by rw [r.length];omega),q _ _ Hs1 (f1.write i ho k1 (.lst (r'.append (.cons r1 .nil))))⟩
   ·rw [if_neg hl] at q;exact q.elim
 ·exact q.elim
def wt:D->Option gy
 | .int i=>some (.inl i)
 | .str x=>some (.inr x)
 | _=>none
theorem GB {d:D}{y:gy} (h:wt d=some y):d=kD y:=by
 cases d<;>cases h<;>rfl
def Jd (kvs:List (D×D)) (k d:D):List (D×D):=if kvs.any (fun kv=>bK kv.1 k) then kvs.map (fun kv=>if bK kv.1 k then (kv.1,d) else kv) else kvs++[(k,d)]
theorem Je (a b:gy):bK (kD a) (kD b)=decide (a=b):=by
 cases a<;>cases b<;>simp [kD,bK,tK]
theorem RDk.any {K:a9}{H:Hp}{kvs:List (gy×V)} (y:gy):∀ {ds:List (D×D)},RDk K H kvs ds->(ds.any fun kv=>bK kv.1 (kD y))=kvs.any fun kv=>decide (kv.1=y):=by
 induction kvs with
 | nil=>intro ds h;cases h;rfl
 | cons x r ih=>intro ds h;cases h with | cons h t=>rw [fG,fG,ih t,Je]
theorem RDk.repl {K:a9}{H:Hp} (y:gy) {v:V}{d:D} (rv:RD K H v d):∀ {kvs:List (gy×V)}{ds:List (D×D)},RDk K H kvs ds ->
  RDk K H (kvs.map fun kv=>if kv.1=y then (kv.1,v) else kv) (ds.map fun kv=>if bK kv.1 (kD y) then (kv.1,d) else kv)
 | _,_,.nil=>.nil
 | _,_,.cons (k:=k) h t=>by
  rw [bd,bd]
  have e:=Je k y
  by_cases hk:k=y
  ·subst hk
   rw [show (if k=k then (k,v) else (k,_))=(k,v) from if_pos rfl,show (if bK (kD k) (kD k)=true then (kD k,d) else (kD k,_))=(kD k,d) from if_pos (by rw [e];simp)]
   exact .cons rv (RDk.repl k rv t)
  ·simp only [e,hk,if_neg,decide_false,cz,not_false_eq_true]
   exact .cons h (RDk.repl y rv t)
theorem RDk.snoc {K:a9}{H:Hp} (y:gy) {v:V}{d:D} (rv:RD K H v d):∀ {kvs:List (gy×V)}{ds:List (D×D)},RDk K H kvs ds->RDk K H (kvs++[(y,v)]) (ds++[(kD y,d)])
 | _,_,.nil=>.cons rv .nil
 | _,_,.cons h t=>.cons h (RDk.snoc y rv t)
theorem RDk.put {K:a9}{H:Hp}{kvs:List (gy×V)}{ds:List (D×D)} (r:RDk K H kvs ds) (y:gy) {v:V}{d:D} (rv:RD K H v d):RDk K H (xG kvs y v) (Jd ds (kD y) d):=by
 unfold xG Jd
 rw [r.any y]
 split
 ·exact r.repl y rv
 ·exact r.snoc y rv
def il (kvs:List (D×D)):Bool:=kvs.all fun kv=>(wt kv.1).isSome
def EK (i:Nat) (gk g:au->R D):au->R Fl:=fun ρ=>match ρ[i]? with
 | some (Sl.own (.dict kvs))=>(g ρ).bind fun d=>(gk ρ).bind fun k=>match wt k with
  | some _=>if kvs.length<1000/\il kvs=true then .ok (.nx (ρ.set i (.own (.dict (Jd kvs k d))))) else .no
  | none=>.no
 | _=>.no
theorem P6 {K:a9}{H:Hp}{v:V}{y:gy} (h:RD K H v (kD y)):v=kV y:=by
 cases y<;>cases h<;>rfl
theorem RDt.flat {K:a9}{H:Hp}{kvs:List (List gy×V)}{ds:List (D×D)} (h:RDt K H kvs ds) (f:il ds=true):kvs=[]/\ds=[]:=by
 cases h with
 | nil=>exact ⟨rfl,rfl⟩
 | cons h t=>simp [il,tD,wt] at f
theorem L8 (i:Nat) (h:JE c e g) (hk:JE c k gk) (hu:c.X.A.units + 1<ue) (hN:c.X.N[i]?=some x:=by rfl) (hv:NX c.X.env.scope x:=by first | exact fu rfl | exact dS (fu rfl) | exact dS (dS rfl)) (hd:(x == ("__debug__" : Str))=false:=by decide)
  (hcd:(x == ("__classdict__" : Str))=false:=by decide) (hs:fh e (some (.Subscript (.Name x p) k apos)) pos.line c.X.env=pure false:=by rfl):JS c (.Assign [.Subscript (.Name x p) k apos] e pos) (EK i gk g):=.of fun ρ=>by
 refine zM (Sj hu (mZ hN hv hd hcd) (hk ρ) (h ρ) hs) fun D σ H h_1=>?_
 obtain ⟨H0,Hs0,la,Hs,f,q⟩:=h_1
 replace q:n5 c.X.K c.cls c.E H0 Hs0 la D (EK i gk g ρ):=q
 unfold EK at q
 split at q
 ·rename_i kvs ho
  obtain ⟨a,o,k1,k2,k3,k4,k5⟩:=f.ow i _ ho
  have main:∀ {H:Hp}{vs:List (gy×V)},Fr c.X.K H0 Hs0 la ρ σ H Hs->H a=some (.dK vs)->RDk c.X.K Hs vs kvs->Uq (M7 i) (TR c.X.K c.cls c.E ρ (gk ρ)) (TR c.X.K c.cls c.E ρ (g ρ)) D σ H:=fun {H vs} f k2 r=>by
   refine sE f q fun d v H1 Hs1 e1 s1 f1 r1=>?_
   rw [e1,bind_ok] at q
   refine ⟨_,k1,sE f1 q fun y w H2 Hs2 e2 s2 f2 r2=>?_⟩
   rw [e2,bind_ok] at q
   split at q
   ·rename_i ky hy
    obtain rfl:=GB hy
    by_cases hl:kvs.length<1000/\il kvs=true
    ·rw [if_pos hl] at q
     have ha:=s2.all _ _ (s1.all _ _ k2)
     have r':=(r.same s1.sh).same s2.sh
     rw [P6 r2]
     exact ⟨a,_,rfl,Oq.k ha (c8 (by rw [r.length];omega)),q _ _ Hs2 (f2.write i ho k1 (.dK (r'.put ky (r1.same s2.sh))))⟩
    ·rw [if_neg hl] at q;exact q.elim
   ·exact q.elim
  cases k5 with
  | dK r=>exact main f k2 r
  | dT n r =>
   refine sE f q fun d v H1 Hs1 e1 s1 f1 r1=>?_
   rw [e1,bind_ok] at q
   refine ⟨_,k1,sE f1 q fun y w H2 Hs2 e2 s2 f2 r2=>?_⟩
   rw [e2,bind_ok] at q
   split at q
   ·rw [if_neg (fun z=>n (r.flat z.2).1)] at q;exact q.elim
   ·exact q.elim
  | dF n r =>
   refine sE f q fun d v H1 Hs1 e1 s1 f1 r1=>?_
   rw [e1,bind_ok] at q
   refine ⟨_,k1,sE f1 q fun y w H2 Hs2 e2 s2 f2 r2=>?_⟩
   rw [e2,bind_ok] at q
   split at q
   ·rw [if_neg (fun z=>by cases z.2)] at q;exact q.elim
   ·exact q.elim
 ·exact q.elim
def wu (kvs:List (D×D)) (k:D):Option D:=(kvs.find? fun kv=>bK kv.1 k).map (·.2)
theorem RDk.val {K:a9}{H:Hp}:∀ {kvs:List (gy×V)}{ds:List (D×D)},RDk K H kvs ds->∀ (y:gy),(w6 kvs y=none/\wu ds (kD y)=none)\/∃ v d,w6 kvs y=some v/\wu ds (kD y)=some d/\RD K H v d
 | _,_,.nil,y=>.inl ⟨rfl,rfl⟩
 | _,_,.cons (k:=k) h t,y=>by
  unfold w6 wu
  rw [e7,e7,Je]
  by_cases hk:k=y
  ·simp only [hk,decide_true,dY]
   exact .inr ⟨_,_,rfl,rfl,h⟩
  ·simp only [hk,decide_false]
   exact RDk.val t y
def bD:D->D->R D
 | .dict kvs,k=>match wt k with
  | some _=>if il kvs=true then (match wu kvs k with
   | some d=>.ok d
   | none=>.no) else .no
  | none=>.no
 | x,k=>Gu x k
variable {a b:aR}{ga gb:au->R D}
theorem cm (hu:c.X.A.units + 1<ue) (ha:JB c a ga) (hb:JB c b gb) (hs:qK b:=by exact fun _ _=>rfl):JE c (.Subscript a b pos) (g2 ga gb bD):=.of fun ρ=>by
 by_cases hx:∃ kvs,ga ρ=.ok (.dict kvs)
 ·obtain ⟨kvs,hx⟩:=hx
  refine um (Si hu (ha ρ) (hb ρ) hs) fun σ H Q h_2=>?_
  obtain ⟨H0,Hs0,la,Hs,f,q⟩:=h_2
  refine one f q fun d v H1 Hs1 e1 s1 f1 r1=>?_
  rw [hx] at e1
  cases e1
  unfold g2 at q
  rw [hx,bind_ok] at q
  refine one f1 (q.on s1 (q':=fun _=>True) fun _ _=>trivial) fun y w H2 Hs2 e2 s2 f2 r2=>?_
  rw [e2,bind_ok] at q
  unfold bD at q
  simp only at q
  split at q
  ·rename_i ky hy
   obtain rfl:=GB hy
   by_cases hf:il kvs=true
   ·rw [if_pos hf] at q
    obtain ⟨p,rfl,h⟩:=(r1.step s2).dict f2.st.sub
    have rk:w=kV ky:=by
     rcases r2 with r2 | ⟨_,o,rfl,_,_,ow⟩
     ·exact P6 r2
     ·cases ky<;>cases ow
    subst rk
    rcases h with ⟨vs,h1,h2⟩ | ⟨vs,h1,hn,h2⟩ | ⟨o,vs,es,rfl,h1,hn,h2⟩
    ·rcases h2.val ky with ⟨_,h3⟩ | ⟨u,d,h3,h4,h5⟩
     ·rw [h3] at q;exact q.elim
     ·rw [h4] at q
      exact ⟨p,u,rfl,by rw [<- h3];exact IU.k h1,q _ H2 Hs2 (s1.trans s2) h5⟩
    ·exact (hn (h2.flat hf).1).elim
    ·cases hf
   ·rw [if_neg hf] at q;exact q.elim
  ·exact q.elim
 ·refine um (XU ha hb hs ρ) fun σ H Q q=>?_
  have e:g2 ga gb bD ρ=g2 ga gb Gu ρ:=by
   unfold g2
   cases hr:ga ρ with
   | ok d =>
    cases d with
    | dict kvs=>exact (hx ⟨kvs,hr⟩).elim
    | _=>rfl
   | _=>rfl
  rw [e] at q
  exact q
def ki:D->R D
 | .dict kvs=>if il kvs=true then .ok (.list (kvs.map (·.1))) else .no
 | x=>DA x
theorem GC {K:a9}{H:Hp}:∀ {kvs:List (gy×V)}{ds:List (D×D)},RDk K H kvs ds->RDs K H (kvs.map fun p=>kV p.1) (ds.map (·.1))
 | _,_,.nil=>.nil
 | _,_,.cons (k:=k) h t=>.cons (by cases k<;>constructor) (GC t)
theorem wv {X:Cx} (hc:X.calm=true):NH X (.type "list") (jQ ki):=by
 refine v3 (fun d c n=>?_) fun pins s σ H x u Q Hs d d' I ru sub rx hd q=>?_
 ·unfold ki DA
  split<;>(try split)<;>(try split)<;>exact fun h=>by cases h
 ·by_cases hx:∃ kvs,d=.dict kvs
  ·obtain ⟨kvs,rfl⟩:=hx
   unfold ki at hd
   simp only at hd
   split at hd
   ·rename_i hf
    cases hd
    obtain ⟨a,rfl,⟨vs,h1,h2⟩ | ⟨vs,h1,n,h2⟩ | ⟨o,vs,es,rfl,h1,n,h2⟩⟩:=rx.dict sub
    ·exact Ax hc pins s σ H _ _ Q I (.cons ru .nil) ⟨a,vs,rfl,h1,fun l hl=>q _ _ _ (.new sub hl) (.list (.of aU) ((GC h2).same (dk.new sub hl).sh))⟩
    ·exact (n (h2.flat hf).1).elim
    ·cases hf
   ·cases hd
  ·have e:ki d=DA d:=by
    cases d with
    | dict kvs=>exact (hx ⟨kvs,rfl⟩).elim
    | _=>rfl
   rw [e] at hd
   exact (SE (X:=X)).1 pins s σ H [x] [u] Q I (.cons ru .nil) ⟨Hs,[d],sub,.cons rx .nil,d',hd,q⟩
end
end
section
open PyProof.Rows (envOfC)
section
variable {c:C}{e a b d:aR}{g ga gb gc:au->R D}{pos p cpos:Pos}{x:Str}
theorem P7 {K:a9}{cls:Str->ai}{E:XK}{h h':D->D->R D}{ρ:au}{σ:St}{H:Hp}{Q:VK} (hx:∀ x y c n,h x y≠.ex c n) (hx':∀ x y c n,h' x y≠.ex c n) (q:TR K cls E ρ (sx ga gb gc h h' ρ) σ H Q) :
  IL (rD K h) (rD K h') (TB K cls E ρ (ga ρ)) (TB K cls E ρ (gb ρ)) (TB K cls E ρ (gc ρ)) σ H Q:=by
 obtain ⟨H0,Hs0,la,Hs,f,q⟩:=q
 refine one f q fun x v H1 Hs1 e1 s1 f1 r1=>?_
 unfold sx at q
 rw [e1,bind_ok] at q
 refine one f1 (q.on s1 (q':=fun _=>True) fun _ _=>trivial) fun y u H2 Hs2 e2 s2 f2 r2=>?_
 rw [e2,bind_ok] at q
 cases hr:h x y with
 | ex c n=>exact (hx x y c n hr).elim
 | no=>rw [hr] at q;exact q.elim
 | ok z =>
  rw [hr,bind_ok] at q
  refine ⟨Hs2,x,y,f2.st.sub,r1.step s2,r2,z,hr,fun w H3 Hs3 s3 r3=>?_⟩
  cases r3 with
  | bool k =>
   refine ⟨k,rfl,?_⟩
   have f3:=f2.step s3
   cases k with
   | false=>exact Ee (q _ H3 Hs3 (s1.trans (s2.trans s3)) (.bool _))
   | true =>
    refine IT (one f3 (q.on (s1.trans (s2.trans s3)) (q':=fun _=>True) fun _ _=>trivial) fun t u' H4 Hs4 e4 s4 f4 r4=>?_)
    simp only [e4,bind_ok] at q
    cases hr':h' y t with
    | ex c n=>exact (hx' y t c n hr').elim
    | no=>rw [hr'] at q;exact q.elim
    | ok z' =>
     rw [hr'] at q
     exact ⟨Hs4,y,t,f4.st.sub,(r2.step s3).step s4,r4,z',hr',fun w H5 Hs5 s5 r5=>q w H5 Hs5 (s1.trans (s2.trans (s3.trans (s4.trans s5)))) r5⟩
  | none=>exact q.elim
  | int _=>exact q.elim
  | str _=>exact q.elim
  | list _ _=>exact q.elim
  | tuple _ _=>exact q.elim
  | dictK _ _=>exact q.elim
  | dictT _ _ _=>exact q.elim
  | dictF _ _ _=>exact q.elim
theorem GD {op op':zD}{h h':D->D->R D} (ho:zf c.X (bX op) h) (ho':zf c.X (bX op') h') (ha:JB c a ga) (hb:JB c b gb) (hc:JB c d gc) (hm:Nx [op,op'] [b,d]=false:=by with_unfolding_all rfl):JE c (.Compare a [op,op'] [b,d] pos) (sx ga gb gc h h') :=
 .of fun ρ=>um (Oc ho.1 ho'.1 (ha ρ) (hb ρ) (hc ρ) hm) fun σ H Q q=>P7 ho.2 ho'.2 q
theorem P8 {op op':zD}{h h':D->D->R D} (ho:zf c.X (bX op) h) (ho':zf c.X (bX op') h') (ha:JB c a ga) (hb:JB c b gb) (hc:JB c d gc) (hm:Nx [op,op'] [b,d]=false:=by with_unfolding_all rfl):JT c (.Compare a [op,op'] [b,d] pos) (gN (sx ga gb gc h h')) :=
 .of fun ρ=>Zd (Od ho.1 ho'.1 (ha ρ) (hb ρ) (hc ρ) hm) fun σ H Q q=>P7 ho.2 ho'.2 (XQ q)
def q03:D->R D
 | .int i=>.ok (.int (-i))
 | _=>.no
def W6 (g:au->R D):au->R D:=fun ρ=>(g ρ).bind q03
theorem W7 (h:JE c e g):JE c (.UnaryOp .USub e pos) (W6 g):=.of fun ρ=>um (Uj Ob (h ρ)) fun σ H Q h_0=>by
 obtain ⟨H0,Hs0,la,Hs,f,q⟩:=h_0
 refine Gq f q fun d v H1 Hs1 e1 s1 f1 r1=>?_
 unfold W6 at q
 rw [e1,bind_ok] at q
 cases r1 with
 | int i=>exact ⟨i,rfl,q _ H1 Hs1 s1 (.int _)⟩
 | _=>exact q.elim
inductive Y5 (K:a9) (w:b9) (cls:Str->ai) (E:XK) (ρ:au) (r:R (List Str)) (σ:St) (H:Hp) (Q:VK):Prop
 | mk (H0 Hs0:Hp) (la:Nat->Option ai) (Hs:Hp) (f:Fr K H0 Hs0 la ρ σ H Hs) (q:Fin K cls E H Hs r fun ss=>∀ p H' Hs',dk H Hs H' Hs'->H' p=none->Q (.ref p) (upd H' p (ul w p ss))):Y5 K w cls E ρ r σ H Q
def Zg (K:a9) (w:b9) (cls:Str->ai) (E:XK) (ρ:au) (r:R (List Str)):TE:=Y5 K w cls E ρ r
structure X6 (c:C) (e:aR) (g:au->R (List Str)):Prop where of ::
 run:∀ ρ,PE c.X e (Zg c.X.K c.X.w c.cls c.E ρ (g ρ))
instance {c:C}{e:aR}{g:au->R (List Str)}:CoeFun (X6 c e g) (fun _=>∀ ρ,PE c.X e (Zg c.X.K c.X.w c.cls c.E ρ (g ρ))):=⟨X6.run⟩
theorem UG {K:a9}{w:b9}{cls:Str->ai}{E:XK}{ρ:au}{r:R (List Str)}{β:Type}{k:List Str->R β}{σ:St}{H:Hp}{H0 Hs0 Hs:Hp}{la:Nat->Option ai}{Q:V->Hp->Prop}{q:β->Prop} (f:Fr K H0 Hs0 la ρ σ H Hs)
  (h:Fin K cls E H Hs (r.bind k) q) (m:∀ ss p H' Hs',r=.ok ss->dk H Hs H' Hs'->Fr K H0 Hs0 la ρ σ H' Hs'->H' p=none->Q (.ref p) (upd H' p (ul w p ss))):Zg K w cls E ρ r σ H Q:=by
 refine ⟨H0,Hs0,la,Hs,f,?_⟩
 cases r with
 | ok d=>exact fun p H' Hs' s n=>m d p H' Hs' rfl s (f.step s) n
 | ex c n=>exact h
 | no=>exact h
variable {gset:au->R (List Str)}
def AH:D->R (List Str)
 | .list ds=>match gU ds with
  | some ss=>if ss.length<60 then .ok (fc [] ss) else .no
  | none=>.no
 | .tuple ds=>match gU ds with
  | some ss=>if ss.length<60 then .ok (fc [] ss) else .no
  | none=>.no
 | _=>.no
def xM (g:au->R D):au->R (List Str):=fun ρ=>(g ρ).bind AH
theorem W8 (hc:c.X.calm=true) (h:JB c e g) (hg2:Gl c.X "set") (hm2:c.X.mg "set"=none) (he:aw [e] c.X.env=(false,cG e c.X.env)::aw [] c.X.env:=by rfl) :
  X6 c (.Call (.Name "set" p) [e] [] cpos) (xM g):=.of fun ρ=>by
 refine um (Dl (Gj hc) hg2 hm2 PyProof.Rows.boot_set (c9 (h ρ) eL he) (he:=he)) fun σ H Q h_1=>?_
 obtain ⟨H0,Hs0,la,Hs,f,q⟩:=h_1
 refine one f q fun d v H1 Hs1 e1 s1 f1 r1=>?_
 unfold xM at q
 rw [e1,bind_ok] at q
 unfold AH at q
 split at q
 ·split at q
  ·rename_i ss hs
   by_cases hz:ss.length<60
   ·rw [if_pos hz] at q
    obtain ⟨a,vs,rfl,qa,ra⟩:=r1.list f1.st.sub
    rw [sC hs] at ra
    rw [qO ra] at qa
    exact ⟨a,ss,rfl,.inl qa,aF (M0 hz 1) (by decide),fun p hp=>q p H1 Hs1 s1 hp⟩
   ·rw [if_neg hz] at q;exact q.elim
  ·exact q.elim
 ·split at q
  ·rename_i ss hs
   by_cases hz:ss.length<60
   ·rw [if_pos hz] at q
    obtain ⟨a,vs,rfl,qa,ra,_⟩:=r1.tuple f1.st.sub
    rw [sC hs] at ra
    rw [qO ra] at qa
    exact ⟨a,ss,rfl,.inr qa,aF (M0 hz 1) (by decide),fun p hp=>q p H1 Hs1 s1 hp⟩
   ·rw [if_neg hz] at q;exact q.elim
  ·exact q.elim
 ·exact q.elim
def pX (g:au->R (List Str)):au->R D:=fun ρ=>(g ρ).bind fun ss=>if ss.length<64 then .ok (.list ((kR ss).map .str)) else .no
theorem Jf (hc:c.X.calm=true) (h:X6 c e gset) (hg:Gl c.X "sorted") (hm:c.X.mg "sorted"=none) (he:aw [e] c.X.env=(false,cG e c.X.env)::aw [] c.X.env:=by rfl) :
  JE c (.Call (.Name "sorted" p) [e] [] cpos) (pX gset):=.of fun ρ=>by
 refine um (pQ (zd hc) hg hm yA (c9 (h ρ) eL he) (he:=he)) fun σ H Q h_2=>?_
 obtain ⟨H0,Hs0,la,Hs,f,q⟩:=h_2
 dsimp only [L2.Xp,L2.G0,L2.Of]
 refine UG (w:=c.X.w) f q fun ss p H1 Hs1 e1 s1 f1 n1=>?_
 unfold pX at q
 rw [e1,bind_ok] at q
 by_cases hz:ss.length<64
 ·rw [if_pos hz] at q
  have st1:dk H1 Hs1 (upd H1 p (ul c.X.w p ss)) Hs1:=.mine f1.st.sub n1
  exact ⟨p,ss,rfl,aU,hz,fun l hl=>q _ _ _ (s1.trans (st1.trans (.new st1.sub hl))) (.list (.of aU) (Az _))⟩
 ·rw [if_neg hz] at q;exact q.elim
def ww (g:au->R (List Str)):au->R D:=fun ρ=>(g ρ).bind fun ss=>.ok (.int ss.length)
theorem MD (h:X6 c e gset) (hg:Gl c.X "len") (hm:c.X.mg "len"=none) (he:aw [e] c.X.env=(false,cG e c.X.env)::aw [] c.X.env:=by rfl) :
  JE c (.Call (.Name "len" p) [e] [] cpos) (ww gset):=.of fun ρ=>by
 refine um (pQ Cr hg hm bY (c9 (h ρ) eL he) (he:=he)) fun σ H Q h_3=>?_
 obtain ⟨H0,Hs0,la,Hs,f,q⟩:=h_3
 dsimp only [L2.Xp,L2.G0,L2.Of]
 refine UG (w:=c.X.w) f q fun ss p H1 Hs1 e1 s1 f1 n1=>?_
 unfold ww at q
 rw [e1,bind_ok] at q
 have st1:dk H1 Hs1 (upd H1 p (ul c.X.w p ss)) Hs1:=.mine f1.st.sub n1
 exact ⟨p,ss,rfl,aU,q _ _ _ (s1.trans st1) (.int _)⟩
variable {elt iter tg:aR}{ifs:List aR}{scope:eD}{N':List Str}{nt:Nat}{ix:List Nat}{gi:au->R (List D)}{gt:au->R Bool}{ge:au->R D}
def xN (nt:Nat) (ix:List Nat) (gi:au->R (List D)) (gt:au->R Bool) (ge:au->R D):au->R (List Str):=fun ρ=>(gi ρ).bind fun ds=>if ds.length<=60 then (ik (ji nt (pW nt ix ρ) gt ge) ds).bind fun ys=>match gU ys with
 | some ss=>.ok (fc [] ss)
 | none=>.no else .no
theorem Cv {ys:List D}{xs:List D}:∀ {ss:List Str},gU (xs++ys)=some ss->∃ s1 s2,gU xs=some s1/\gU ys=some s2/\ss=s1++s2:=by
 induction xs with
 | nil=>intro ss h;exact ⟨[],ss,rfl,h,rfl⟩
 | cons d r ih =>
  intro ss h
  cases d with
  | str b =>
   have h:(gU (r++ys)).map (b::·)=some ss:=h
   cases hr:gU (r++ys) with
   | none=>rw [hr] at h;cases h
   | some z =>
    rw [hr] at h
    cases h
    obtain ⟨s1,s2,h1,h2,rfl⟩:=ih hr
    exact ⟨b::s1,s2,by show (gU r).map (b::·)=_;rw [h1];rfl,h2,rfl⟩
  | _=>cases h
theorem AI (z:Str):∀ (l acc:List Str),fc acc (l++[z])=if z∈fc acc l then fc acc l else fc acc l++[z]
 | [],acc=>rfl
 | x::l,acc=>by
  show fc _ (l++[z])=_
  rw [AI z l]
  rfl
inductive scI (f:D->R (Option D)) (ds:List D) (ss:List Str) (H1 Hs1:Hp) (i m:Nat) (acc:List Str) (H':Hp):Prop
 | mk (done bP zs sa sz Hs':_) (h0:ds=done++bP) (h1:done.length=i) (h2:bP.length=m) (h3:dk H1 Hs1 H' Hs') (h4:acc=fc [] sa) (h5:sa.length<=i) (h6:ik f bP=.ok zs) (h7:gU zs=some sz) (h8:ss=sa++sz):scI f ds ss H1 Hs1 i m acc H'
theorem SM {K:a9}{w:b9}{cls:Str->ai}{E:XK}{ρ:au}{σ:St}{H:Hp}{Q:VK} (hnt:nt=1\/nt=2)
  (q:Zg K w cls E ρ (xN nt ix gi gt ge ρ) σ H Q) :
  OS w nt ix (Ze K cls E ρ (gi ρ)) (MC K nt) (fun σ H Q=>∃ ρ',NF K cls E0 ρ' (gt ρ') σ H Q) (fun σ H Q=>∃ ρ',TR K cls E0 ρ' (ge ρ') σ H Q) σ H Q:=by
 obtain ⟨H0,Hs0,la,Hs,f,q⟩:=q
 refine ⟨H0,Hs0,la,Hs,f,?_⟩
 unfold xN at q
 cases hi:gi ρ with
 | no=>rw [hi] at q;exact q
 | ex x n=>rw [hi] at q;exact q
 | ok ds =>
  rw [hi,bind_ok] at q
  intro J H1 Hs1 Hn s1 sn it
  by_cases hl:ds.length<=60
  ·rw [if_pos hl] at q
   cases hm:ik (ji nt (pW nt ix ρ) gt ge) ds with
   | no=>rw [hm] at q;exact q.elim
   | ex x n=>exact (AG (GA _ _ _ _) _ _ _ hm).elim
   | ok ys =>
    rw [hm,bind_ok] at q
    cases hs:gU ys with
    | none=>rw [hs] at q;exact q.elim
    | some ss =>
     rw [hs] at q
     obtain ⟨lb,fb⟩:=(f.step s1).block nt ix
     refine ⟨scI (ji nt (pW nt ix ρ) gt ge) ds ss H1 Hs1,
      ⟨ds.length,[],ds,ys,[],ss,Hs1,rfl,rfl,rfl,.refl s1.sub,rfl,dU _,hm,hs,rfl⟩,?_⟩
     rintro i m acc H' ⟨done,bP,zs,sa,sz,Hs',hds,hdl,hrl,st,rfl,yl,hz,hzs,hy⟩
     obtain ⟨igo,istop,iyld⟩:=it H' Hs' (sn.trans st.all) st.sh st.sub
     cases bP with
     | nil =>
      left
      cases hz
      cases hzs
      rw [c_] at hds hy
      subst hy hds
      exact ⟨istop i (by omega),fun p hp=>q p H' Hs' (s1.trans st) hp⟩
     | cons d bP =>
      right
      have hil:i<ds.length:=by rw [hds,bw,cc];omega
      have hol:=mD sa []
      simp at hol
      refine ⟨igo i hil,oJ (show (fc [] sa).length + 1<=61 by omega) (by decide),fun x H2 hyl=>?_⟩
      obtain ⟨d',Hs2,hd,s2,r2⟩:=iyld i x H2 hil hyl
      have hdd:d'=d:=by
       rw [hds,bC (by omega)] at hd
       simp [hdl] at hd
       exact hd.symm
      subst hdd
      obtain ⟨o,zs',hf,hz',rfl⟩:=AF hz
      have hf:=L6 hf
      obtain ⟨so,sz',hso,hsz,rfl⟩:=Cv hzs
      cases hb:Y2 nt d' (pW nt ix ρ) with
      | no=>rw [hb] at hf;cases hf
      | ex x n=>rw [hb] at hf;cases hf
      | ok ρ' =>
       rw [hb,bind_ok] at hf
       refine Gz hnt ((fb.step st).step s2) r2 hb fun σ2 f2=>⟨ρ',?_⟩
       refine ⟨_,_,_,Hs2,f2,?_⟩
       cases ht:gt ρ' with
       | no=>rw [ht] at hf;cases hf
       | ex x n=>rw [ht] at hf;cases hf
       | ok b =>
        rw [ht,bind_ok] at hf
        intro H3 Hs3 s3
        cases b with
        | false =>
         rw [if_neg ba] at hf
         cases hf
         cases hso
         refine Ee ⟨bP.length,by rw [<- hrl];simp,done++[d'],bP,zs',sa,sz',Hs3,by rw [hds];simp,by simp [hdl],rfl,(st.trans s2).trans s3,rfl,by omega,hz',hsz,by simpa using hy⟩
        | true =>
         rw [if_pos rfl] at hf
         refine IT ⟨ρ',_,_,_,Hs3,f2.step s3,?_⟩
         cases he:ge ρ' with
         | no=>rw [he] at hf;cases hf
         | ex x n=>rw [he] at hf;cases hf
         | ok y =>
          rw [he,bind_ok] at hf
          cases hf
          intro v H4 Hs4 s4 r4
          cases r4 with
          | str z =>
           cases hso
           exact ⟨z,bP.length,rfl,by rw [<- hrl];simp,done++[d'],bP,zs',sa++[z],sz',Hs4,by rw [hds];simp,by simp [hdl],rfl,((st.trans s2).trans s3).trans s4,(AI z sa []).symm,by simp;omega,hz',hsz,by rw [hy];simp⟩
          | none=>cases hso
          | bool _=>cases hso
          | int _=>cases hso
          | list _ _=>cases hso
          | tuple _ _=>cases hso
          | dictK _ _=>cases hso
          | dictT _ _ _=>cases hso
          | dictF _ _ _=>cases hso
  ·rw [if_neg hl] at q;exact q.elim
theorem P9 (nt:Nat) (hnt:nt=1\/nt=2) (hc:c.X.calm=true) (S:oO c.X scope N' nt ix) (hi:JI c tg iter gi) (hb:wp c N' scope nt tg ifs elt gt ge) (hs:∀ x,e6 iter c.X.env x=pure x:=by intro _;rfl) :
  X6 c (.SetComp elt [⟨tg,iter,ifs,0⟩] scope pos) (xN nt ix gi gt ge):=.of fun ρ=>um (J5 hc S (EJ hnt) (hi ρ) hb.at hs) fun σ H Q q=>SM hnt q
end
def bi (n:Nat) (ds:List D):au:=ds.map Sl.shr++bt (n - ds.length) Sl.no
def cy (n:Nat) (g:au->R Fl):List D->R D:=fun ds=>match g (bi n ds) with
 | .ok (.nx _)=>.ok .none
 | .ok (.rt d)=>.ok d
 | .ex c m=>.ex c m
 | _=>.no
theorem AJ {n:Nat}{ds:List D}{i:Nat}{s:Sl} (h:(bi n ds)[i]?=some s):(∃ d,ds[i]?=some d/\s=.shr d)\/s=.no:=by
 unfold bi at h
 by_cases hi:i<ds.length
 ·rw [bS (by simpa using hi),aT] at h
  cases hd:ds[i]? with
  | none=>rw [hd] at h;cases h
  | some z=>rw [hd] at h;cases h;exact .inl ⟨z,rfl,rfl⟩
 ·rw [bC (by simp;omega),bR] at h
  split at h<;>cases h
  exact .inr rfl
theorem ME {N:List Str}{vs:List V}{i:Nat}{v:V} (h:vs[i]?=some v):(L2.start N vs)[i]?=some (some v):=by
 unfold L2.start
 have hi:i<vs.length:=(List.getElem?_eq_some_iff.mp h).1
 rw [bS (by simpa using hi),aT,h]
 rfl
theorem Fr.start {K : a9} {H Hs : Hp} {N : List Str} {vs : List V} {ds : List D} (sub : eg Hs H) (r : RDs K Hs vs ds) : Fr K H Hs (fun _ => none) (bi N.length ds) (L2.start N vs) H Hs := by
  have hl := r.length
  refine ⟨.refl sub, by simp [bi, L2.start, hl], fun i d h => ?_, fun i d h => ?_, fun i d h => ?_, fun i j d e a h _ _ _ => ?_, fun i a h => (nomatch h), fun i d h => ?_, fun i j d e h _ => ?_⟩
  · rcases AJ h with ⟨z, hz, e⟩ | e
    · cases e
      obtain ⟨v, k1, k2⟩ := r.get' hz
      exact ⟨v, ME k1, k2⟩
    · cases e
  all_goals (rcases AJ h with ⟨z, _, e⟩ | e <;> cases e)
theorem UH {P:aH}{w:b9}{K:a9}{mg:Str->Option ae}{base:br}{cls:Str->ai}{x qual:Str}{st:bH}{f:ai}{fd:dE}{N ps:List Str}{k:Nat}{g:au->R Fl} (F:Io K x qual st f fd) (S:aK N ps (ar st))
  (h:∀ (cdv:ae) (A:aW) (outer:List Env) (s:ah) (H:Hp) (E:XK),jH k (A.deeper (j_ qual (ar st) s.heap.objs.size f cdv))->Gw ⟨gE (kg P w) P w K mg base N qual (ar st) f cdv A outer s H E,cls,E⟩ (i3 st) g) :
  uj P w K mg base (kg P w) (k + 1) f fd ps (UE K cls ps.length (cy N.length g)):=by
 obtain ⟨oc,od,kV,doc,pm,an,cdv,ct,osl,rfl,lk,hcd⟩:=F.ex
 refine Ah lk hcd S (fun vs H Q E h_4=>by obtain ⟨Hs,ds,sub,hn,r,q⟩:=h_4;exact by rw [r.length];exact hn) fun A outer s H vs Q E hr hsp=>?_
 obtain ⟨Hs,ds,sub,hn,r,q⟩:=hsp
 refine ⟨_,h cdv A outer s H E hr (bi N.length ds),H,Hs,_,Hs,Fr.start sub r,?_⟩
 unfold cy at q
 cases hg:g (bi N.length ds) with
 | no=>rw [hg] at q;exact q
 | ex c n=>rw [hg] at q;exact q
 | ok fl =>
  rw [hg] at q
  cases fl with
  | nx ρ'=>exact fun σ' H' Hs' f'=>q .non H' Hs' f'.st .none
  | rt d=>exact fun v H' Hs' s r=>q v H' Hs' s r
  | bk ρ'=>exact q.elim
  | ct ρ'=>exact q.elim
theorem Y6 {P:aH}{w:b9}{K:a9}{mg:Str->Option ae}{base:br}{cls:Str->ai}{x qual:Str}{st:bH}{f:ai}{fd:dE}{N ps:List Str}{k:Nat}{g:au->R Fl} (F:Io K x qual st f fd) (S:aK N ps (ar st)) (hm:mg x=some (.ref f)) (hb:kQ K fd ps [])
  (h:∀ (cdv:ae) (A:aW) (outer:List Env) (s:ah) (H:Hp) (E:XK),jH k (A.deeper (j_ qual (ar st) s.heap.objs.size f cdv))->Gw ⟨gE (kg P w) P w K mg base N qual (ar st) f cdv A outer s H E,cls,E⟩ (i3 st) g) :
  Fn P w K mg base cls x (k + 1) ps.length (cy N.length g):=⟨f,fd,ps,UH F S h,hm,F.kp,hb⟩
theorem fW {X:Cx}:kd (kg X.prog X.w) X E0:=fun _ _ _ _ _ _ _ h=>by
 obtain ⟨_,_,_,_,_,_,_,_,_,q⟩:=h
 exact q.elim
end
section
def clear2 (ρ:au):au:=ρ.map fun s=>match s with
 | .ow2 _=>.no
 | s=>s
section
variable {K:a9}
theorem Fr.clear2 {H0 Hs0 H Hs:Hp}{la:Nat->Option ai}{ρ:au}{σ:St} (f:Fr K H0 Hs0 la ρ σ H Hs):Fr K H0 Hs0 la (clear2 ρ) σ H Hs/\∀ (j:Nat) (d:List (List D)),¬ (J.clear2 ρ)[j]?=some (Sl.ow2 d):=by
 have un:∀ {j:Nat}{s:Sl},(J.clear2 ρ)[j]?=some s->(∀ d,s≠.ow2 d)/\(ρ[j]?=some s\/s=.no):=fun {j s} e=>by
  unfold J.clear2 at e
  rw [aT] at e
  cases h:ρ[j]? with
  | none=>rw [h] at e;cases e
  | some t =>
   rw [h] at e
   cases t with
   | ow2 d=>cases e;exact ⟨fun _ z=>(by cases z),.inr rfl⟩
   | no=>cases e;exact ⟨fun _ z=>(by cases z),.inl rfl⟩
   | shr d=>cases e;exact ⟨fun _ z=>(by cases z),.inl rfl⟩
   | lck d=>cases e;exact ⟨fun _ z=>(by cases z),.inl rfl⟩
   | own d=>cases e;exact ⟨fun _ z=>(by cases z),.inl rfl⟩
 have is:∀ {j:Nat}{s:Sl},s≠.no->(J.clear2 ρ)[j]?=some s->ρ[j]?=some s:=fun {j s} n e=>(un e).2.resolve_right n
 have no2:∀ (j:Nat) (d:List (List D)),¬ (J.clear2 ρ)[j]?=some (Sl.ow2 d):=fun j d e=>(un e).1 d rfl
 exact ⟨⟨f.st,by simp [J.clear2,f.len],fun j d h=>f.sh j d (is (fun z=>by cases z) h),fun j d h=>f.ow j d (is (fun z=>by cases z) h),fun j d h=>f.lk j d (is (fun z=>by cases z) h),fun j k d e a h1 h2=>f.dj j k d e a (is (fun z=>by cases z) h1) (is (fun z=>by cases z) h2),f.lh,fun j d h=>(no2 j d h).elim,fun j k d e h _=>(no2 j d h).elim⟩,no2⟩
end
def sH:List ai->Hp->Hp
 | [],H=>H
 | a::as,H=>sH as (upd H a (.lst []))
section
variable {c:C}{e:aR}{g gi:au->R D}{pos p apos cpos spos:Pos}{x:Str}
theorem AK:∀ (as:List ai) (H:Hp),(∀ a∈as,H a=none)->as.Nodup->eg H (sH as H)
 | [],H,_,_=>.refl H
 | a::as,H,h,nd=>by
  obtain ⟨n1,n2⟩:=List.nodup_cons.mp nd
  refine (jq (h a ay)).trans (AK as _ (fun b hb=>?_) n2)
  rw [a_ (fun (z:b=a)=>n1 (z ▸ hb))]
  exact h b (aA _ hb)
theorem GE:∀ (as:List ai) (H:Hp),as.Nodup->∀ a∈as,sH as H a=some (.lst [])
 | a::as,H,nd,b,hb=>by
  obtain ⟨n1,n2⟩:=List.nodup_cons.mp nd
  show sH as (upd H a (.lst [])) b=_
  by_cases hm:b∈as
  ·exact GE as _ n2 b hm
  ·have e:b=a:=(List.mem_cons.mp hb).resolve_right hm
   subst e
   have:∀ (as:List ai) (H:Hp),b∉as->sH as H b=H b:=by
    intro as
    induction as with
    | nil=>intro H _;rfl
    | cons c as ih =>
     intro H h
     show sH as (upd H c (.lst [])) b=_
     rw [ih _ (fun z=>h (aA _ z)),a_ (fun (z:b=c)=>h (by rw [z];exact ay))]
   rw [this as _ hm,aU]
theorem n8:∀ (as:List ai) (H:Hp) (b:ai),sH as H b=none->H b=none/\b∉as
 | [],H,b,h=>⟨h,by simp⟩
 | a::as,H,b,h=>by
  obtain ⟨h1,h2⟩:=n8 as (upd H a (.lst [])) b h
  by_cases hb:b=a
  ·subst hb;rw [aU] at h1;cases h1
  ·rw [a_ hb] at h1
   exact ⟨h1,fun z=>(List.mem_cons.mp z).elim hb h2⟩
def SO (i:Nat):au->R Fl:=fun ρ=>.ok (.nx ((clear2 ρ).set i (.ow2 [[],[],[],[]])))
theorem W9 (i:Nat) {p1 p2 p3 p4:Pos}{pos':Pos} (hN:c.X.N.Nodup) (hi:c.X.N[i]?=some x:=by rfl) (hx:NY c.X.env.scope x:=by first | exact fu rfl | exact dS rfl)
  (hs:fh (.List [.List [] p1,.List [] p2,.List [] p3,.List [] p4] p) (some (.Name x pos')) spos.line c.X.env=pure false:=by rfl)
  (hf:c.X.fn x=true\/c.X.env.scope.names.lookup x=some .local:=by first | exact .inl rfl | exact .inr rfl | assumption)
  (h1:aw [.List [] p1,.List [] p2,.List [] p3,.List [] p4] c.X.env=(false,cG (.List [] p1) c.X.env)::aw [.List [] p2,.List [] p3,.List [] p4] c.X.env:=by rfl)
  (h2:aw [.List [] p2,.List [] p3,.List [] p4] c.X.env=(false,cG (.List [] p2) c.X.env)::aw [.List [] p3,.List [] p4] c.X.env:=by rfl)
  (h3:aw [.List [] p3,.List [] p4] c.X.env=(false,cG (.List [] p3) c.X.env)::aw [.List [] p4] c.X.env:=by rfl)
  (h4:aw [.List [] p4] c.X.env=(false,cG (.List [] p4) c.X.env)::aw [] c.X.env:=by rfl) :
  JS c (.Assign [.Name x pos'] (.List [.List [] p1,.List [] p2,.List [] p3,.List [] p4] p) spos) (SO i):=.of fun ρ=>by
 refine zM (uW hN hi hx (jk (c9 (jk eL) (c9 (jk eL) (c9 (jk eL) (c9 (jk eL) eL h4) h3) h2) h1)) hs hf) fun D σ H h_0=>?_
 obtain ⟨H0,Hs0,la,Hs,f,q⟩:=h_0
 replace q:n5 c.X.K c.cls c.E H0 Hs0 la D (SO i ρ):=q
 obtain ⟨f,no2⟩:=f.clear2
 refine ⟨dU _,fun a1 n1=>⟨dU _,fun a2 n2=>⟨dU _,fun a3 n3=>⟨dU _,fun a4 n4=>⟨bA (c8 (show 4<=1000 by decide)),fun a n=>?_⟩⟩⟩⟩⟩
 have N:=n8 [a1,a2,a3,a4] H a n
 have N4:=n8 [a1,a2,a3] H a4 n4
 have N3:=n8 [a1,a2] H a3 n3
 have N2:=n8 [a1] H a2 n2
 simp only [bf,aQ,or_false,not_or] at N N4 N3 N2
 have nd:[a1,a2,a3,a4].Nodup:=by
  simp only [List.nodup_cons,bf,aQ,or_false,not_or,nZ,and_true,not_false_eq_true]
  exact ⟨⟨fM N2.2,fM N3.2.1,fM N4.2.1⟩,⟨fM N3.2.2,fM N4.2.2.1⟩,fM N4.2.2.2⟩
 have free:∀ b∈[a1,a2,a3,a4],H b=none:=fun b hb=>by
  simp only [bf,aQ,or_false] at hb
  rcases hb with rfl | rfl | rfl | rfl
  ·exact n1
  ·exact N2.1
  ·exact N3.1
  ·exact N4.1
 have nd5:(a::[a1,a2,a3,a4]).Nodup:=List.nodup_cons.mpr ⟨by simp only [bf,aQ,or_false,not_or];exact N.2,nd⟩
 have sm:eg H (sH [a1,a2,a3,a4] H):=AK _ _ free nd
 have all:eg H (upd (sH [a1,a2,a3,a4] H) a (.lst [.ref a1,.ref a2,.ref a3,.ref a4])):=sm.trans (jq n)
 have free5:∀ b∈a::[a1,a2,a3,a4],H b=none:=fun b hb=>(List.mem_cons.mp hb).elim (fun z=>z ▸ N.1) (free b)
 have st:dk H Hs (upd (sH [a1,a2,a3,a4] H) a (.lst [.ref a1,.ref a2,.ref a3,.ref a4])) Hs:=⟨all,.refl _,f.st.sub.trans all,fun _ _ _ _ z=>z⟩
 have f':=f.step st
 have hl:i<σ.length\/¬ i<σ.length:=Decidable.em _
 have nx:∀ {j:Nat}{s:Sl},(∀ d,s≠.ow2 d)->((clear2 ρ).set i (.ow2 [[],[],[],[]]))[j]?=some s->(clear2 ρ)[j]?=some s/\i≠j:=fun {j s} hs e=>by
  by_cases hj:i=j
  ·subst hj
   by_cases hi:i<(clear2 ρ).length
   ·rw [aB hi] at e;exact absurd (bL e).symm (hs _)
   ·rw [bT (by simpa using hi)] at e;cases e
  ·rw [am hj] at e;exact ⟨e,hj⟩
 refine q _ _ Hs ⟨f'.st,by simp [f'.len],fun j d h=>?_,fun j d h=>?_,fun j d h=>?_,fun j k d d' b h1 h2 h3 h4=>?_,f'.lh,fun j d h=>?_,fun j k d d' h1 h2=>?_⟩
 ·obtain ⟨h,hj⟩:=nx (fun _ z=>by cases z) h
  rw [am hj];exact f'.sh j d h
 ·obtain ⟨h,hj⟩:=nx (fun _ z=>by cases z) h
  rw [am hj];exact f'.ow j d h
 ·obtain ⟨h,hj⟩:=nx (fun _ z=>by cases z) h
  rw [am hj];exact f'.lk j d h
 ·obtain ⟨h1,hj⟩:=nx (fun _ z=>by cases z) h1
  obtain ⟨h2,hk⟩:=nx (fun _ z=>by cases z) h2
  rw [am hj] at h3
  rw [am hk] at h4
  exact f'.dj j k d d' b h1 h2 h3 h4
 ·by_cases hj:i=j
  ·subst hj
   by_cases hi:i<(clear2 ρ).length
   ·rw [aB hi] at h
    cases h
    have at4:=GE [a1,a2,a3,a4] H nd
    have ne:∀ b∈[a1,a2,a3,a4],b≠a:=fun b hb z=>(List.nodup_cons.mp nd5).1 (z ▸ hb)
    have go:∀ b∈[a1,a2,a3,a4],upd (sH [a1,a2,a3,a4] H) a (.lst [.ref a1,.ref a2,.ref a3,.ref a4]) b=some (.lst []):=fun b hb=>by rw [a_ (ne b hb)];exact at4 b hb
    refine ⟨a,[a1,a2,a3,a4],aB (by rw [<- f'.len];exact hi),aU,nd5,fun b hb=>⟨f.st.sub.free (free5 b hb),f.st.all.free (free5 b hb)⟩,fun b hb k e hk=>?_,.cons (go _ (by simp)) .nil (.cons (go _ (by simp)) .nil (.cons (go _ (by simp)) .nil (.cons (go _ (by simp)) .nil .nil)))⟩
    obtain ⟨hk,nk⟩:=nx (fun _ z=>by cases z) hk
    rw [am nk]
    intro z
    obtain ⟨b',o,k1,k2,_⟩:=f.ow k e hk
    rw [z] at k1
    cases k1
    rw [free5 b hb] at k2;cases k2
   ·rw [bT (by simpa using hi)] at h;cases h
  ·rw [am hj] at h;exact (no2 j d h).elim
 ·by_cases hj:i=j
  ·by_cases hk:i=k
   ·exact hj.symm.trans hk
   ·rw [am hk] at h2;exact (no2 k d' h2).elim
  ·rw [am hj] at h1;exact (no2 j d h1).elim
theorem Pa {st:bH}{gs:au->R Fl} (h:JS c st gs):JS c st (fun ρ=>gs (fj ρ)):=.of fun ρ=>zM (h (fj ρ)) fun D σ H h_1=>by
 obtain ⟨H0,Hs0,la,Hs,f,q⟩:=h_1
 obtain ⟨Hs',f'⟩:=f.shared
 exact ⟨H0,Hs0,la,Hs',f',q⟩
def shareAt (i:Nat) (ρ:au):au:=match ρ[i]? with
 | some (Sl.own d)=>ρ.set i (.shr d)
 | _=>ρ
theorem Fr.shareAt {K:a9}{H0 Hs0 H Hs:Hp}{la:Nat->Option ai}{ρ:au}{σ:St} (f:Fr K H0 Hs0 la ρ σ H Hs) (i:Nat):∃ Hs',Fr K H0 Hs0 la (J.shareAt i ρ) σ H Hs':=by
 unfold J.shareAt
 split
 ·rename_i d ho
  obtain ⟨a,o,k1,k2,k3,k4,k5⟩:=f.ow i d ho
  have hil:i<ρ.length:=(List.getElem?_eq_some_iff.mp ho).1
  have up:eg Hs (upd Hs a o):=jq k3
  have nx:∀ {j:Nat}{s:Sl},(∀ d,s≠.shr d)->(ρ.set i (.shr d))[j]?=some s->ρ[j]?=some s/\i≠j:=fun {j s} hs e=>by
   by_cases hj:i=j
   ·subst hj
    rw [aB hil] at e;exact absurd (bL e).symm (hs d)
   ·rw [am hj] at e;exact ⟨e,hj⟩
  have ne:∀ (j:Nat) (e:D) (b:ai),i≠j->ρ[j]?=some (Sl.own e)->σ[j]?=some (some (V.ref b))->b≠a:=fun j e b hj h hb z=>by
   subst z
   exact hj (f.dj i j d e b ho h k1 hb)
  refine ⟨upd Hs a o,⟨f.st.all,f.st.sh.trans up,fun b u e=>?_,fun b u e t z=>?_⟩,by simp [f.len],fun j e h=>?_,fun j e h=>?_,fun j e h=>?_,fun j k d1 d2 b h1 h2 h3 h4=>?_,f.lh,fun j e h=>?_,fun j k d1 d2 h1 h2=>?_⟩
  ·by_cases hb:b=a
   ·subst hb;rw [aU] at e;cases e;exact k2
   ·rw [a_ hb] at e;exact f.st.sub b u e
  ·rw [a_ (bc e k4)];exact f.st.out b u e t z
  ·by_cases hj:i=j
   ·subst hj
    rw [aB hil] at h
    cases h
    exact ⟨_,k1,k5.share k3⟩
   ·rw [am hj] at h
    obtain ⟨v,q1,q2⟩:=f.sh j e h
    exact ⟨v,q1,q2.same up⟩
  ·obtain ⟨h,hj⟩:=nx (fun _ z=>by cases z) h
   obtain ⟨b,u,q1,q2,q3,q4,q5⟩:=f.ow j e h
   exact ⟨b,u,q1,q2,by rw [a_ (ne j e b hj h q1)];exact q3,q4,q5.same up⟩
  ·obtain ⟨h,hj⟩:=nx (fun _ z=>by cases z) h
   obtain ⟨b,u,q1,q2,q3,q4,q5,q6⟩:=f.lk j e h
   exact ⟨b,u,q1,q2,q3,by rw [a_ (bc q5 k4)];exact q4,q5,q6.same up⟩
  ·exact f.dj j k d1 d2 b (nx (fun _ z=>by cases z) h1).1 (nx (fun _ z=>by cases z) h2).1 h3 h4
  ·obtain ⟨h,hj⟩:=nx (fun _ z=>by cases z) h
   obtain ⟨b,as,O⟩:=f.o2 j e h
   refine ⟨b,as,O.at_,O.ob,O.nd,fun c hc=>⟨?_,(O.out c hc).2⟩,fun c hc k e' hk=>O.dj c hc k e' (nx (fun _ z=>by cases z) hk).1,O.inn.step (.refl _) up⟩
   rw [a_ (fun z=>O.dj c hc i d ho (by rw [z];exact k1))]
   exact (O.out c hc).1
  ·exact f.u2 j k d1 d2 (nx (fun _ z=>by cases z) h1).1 (nx (fun _ z=>by cases z) h2).1
 ·exact ⟨Hs,f⟩
theorem Jg (i:Nat) {st:bH}{gs:au->R Fl} (h:JS c st gs):JS c st (fun ρ=>gs (shareAt i ρ)):=.of fun ρ=>zM (h (shareAt i ρ)) fun D σ H h_2=>by
 obtain ⟨H0,Hs0,la,Hs,f,q⟩:=h_2
 obtain ⟨Hs',f'⟩:=f.shareAt i
 exact ⟨H0,Hs0,la,Hs',f',q⟩
theorem Dv.get {K:a9}{H Hs:Hp}{as:List ai}{dss:List (List D)} (h:Dv K H Hs as dss):∀ {j:Nat}{ds:List D},dss[j]?=some ds->∃ b vs,as[j]?=some b/\H b=some (.lst vs)/\RDs K Hs vs ds:=by
 induction h with
 | nil=>intro j ds e;cases e
 | cons h r t ih =>
  intro j ds e
  cases j with
  | zero=>cases e;exact ⟨_,_,rfl,h,r⟩
  | succ j=>have q:=ih (j:=j) e;exact q
theorem Dv.set {K:a9}{H Hs:Hp}{vs':List V}{ds':List D} (r':RDs K Hs vs' ds'):∀ {as:List ai}{dss:List (List D)}{j:Nat}{b:ai},Dv K H Hs as dss->as[j]?=some b->as.Nodup->Dv K (L2.upd H b (.lst vs')) Hs as (dss.set j ds')
 | _,_,_,_,.nil,h,_=>by simp at h
 | _,_,0,b,.cons h r t,e,nd=>by
  simp at e
  subst e
  exact .cons aU r' (t.upd (List.nodup_cons.mp nd).1)
 | _,_,j + 1,b,.cons (a:=a) h r t,e,nd=>by
  have e':_:=e
  simp only [ka] at e'
  obtain ⟨n1,n2⟩:=List.nodup_cons.mp nd
  have hb:b∈_:=mr e'
  exact .cons (by rw [a_ (fun z=>n1 (by rw [z];exact hb))];exact h) r (Dv.set r' t e' n2)
def pY (i:Nat) (gi g:au->R D):au->R Fl:=fun ρ=>match ρ[i]? with
 | some (Sl.ow2 dss)=>(gi ρ).bind fun k=>match k with
  | .int j=>if 0<=j then (match dss[j.toNat]? with
   | some ds=>(g ρ).bind fun d=>if ds.length<1000 then .ok (.nx (ρ.set i (.ow2 (dss.set j.toNat (ds++[d]))))) else .no
   | none=>.no) else .no
  | _=>.no
 | _=>.no
variable {ie:aR}
theorem AL (i:Nat) (hie:JE c ie gi) (h:JE c e g) (hN:c.X.N[i]?=some x:=by rfl) (hv:NX c.X.env.scope x:=by first | exact fu rfl | exact dS (fu rfl) | exact dS (dS rfl)) (hd:(x == ("__debug__" : Str))=false:=by decide)
  (hcd:(x == ("__classdict__" : Str))=false:=by decide) {p3:Pos} (hpx:qK ie:=by exact fun _ _=>rfl)
  (hbase:r_ (.Subscript (.Name x p) ie p3) "append" c.X.env (cG (.Subscript (.Name x p) ie p3) c.X.env)=cG (.Subscript (.Name x p) ie p3) c.X.env:=by rfl)
  (hfew:((dL cpos (aw [e] c.X.env)).all (fun x=>!x.1) && (m6 cpos (hV [] c.X.env)).all (fun x=>x.1.isSome)
   && decide ([e].length + ([] : List nN).length + (if ([] : List nN).isEmpty then 0 else 1)<30))=true:=by rfl)
  (hline:(apos.endLine == cpos.line)=true:=by rfl) (hst:aw [e] c.X.env=(false,cG e c.X.env)::aw [] c.X.env:=by rfl) (hplain:(dL cpos (aw [] c.X.env)).any (·.1)=false:=by rfl)
  (hs:fh (.Call (.Attribute (.Subscript (.Name x p) ie p3) "append" apos) [e] [] cpos) none pos.line c.X.env=pure false:=by rfl) :
  JS c (.Expr (.Call (.Attribute (.Subscript (.Name x p) ie p3) "append" apos) [e] [] cpos) pos) (pY i gi g):=.of fun ρ=>by
 refine zM (qI (yD dv Cd Ce Dn (G5 lC (mZ hN hv hd hcd) (hie ρ) hpx) (c9 (h ρ) eL hst) hbase hfew hline hst hplain) hs) fun D σ H h_3=>?_
 obtain ⟨H0,Hs0,la,Hs,f,q⟩:=h_3
 replace q:n5 c.X.K c.cls c.E H0 Hs0 la D (pY i gi g ρ):=q
 unfold pY at q
 split at q
 ·rename_i dss ho
  obtain ⟨a,as,O⟩:=f.o2 i dss ho
  refine ⟨_,O.at_,?_⟩
  refine sE f q fun k v H1 Hs1 e1 s1 f1 r1=>?_
  rw [e1,bind_ok] at q
  cases r1 with
  | int j =>
   simp only at q
   by_cases hj:0<=j
   ·rw [if_pos hj] at q
    split at q
    ·rename_i ds hds
     obtain ⟨b,vs,hb,hH,rv⟩:=O.inn.get hds
     have hix:Im (as.map V.ref) j=some (.ref b):=by
      have:=qJ (xs:=as.map V.ref) (j:=j.toNat) (v:=V.ref b) (by rw [aT,hb];rfl)
      rwa [cH hj] at this
     refine ⟨a,_,j,_,rfl,rfl,.of (s1.all _ _ O.ob),hix,.inl ⟨rfl,_,.of (s1.all _ _ hH)⟩,?_⟩
     refine sE f1 q fun d w H2 Hs2 e2 s2 f2 r2=>?_
     rw [e2,bind_ok] at q
     by_cases hl:ds.length<1000
     ·rw [if_pos hl] at q
      have st:=s1.trans s2
      refine ⟨b,vs,w,rfl,rfl,st.all _ _ hH,c8 (by rw [rv.length];omega),?_⟩
      have hil:i<ρ.length:=(List.getElem?_eq_some_iff.mp ho).1
      obtain ⟨a',as',O2'⟩:=f2.o2 i dss ho
      have ea:a'=a:=by
       have:=O2'.at_
       rw [O.at_] at this
       cases this;rfl
      subst ea
      have eas:as'=as:=by
       have h1:=O2'.ob
       rw [st.all _ _ O.ob] at h1
       injection h1 with h1
       injection h1 with h1
       exact (List.map_inj_right (fun x y z=>by cases z;rfl) |>.mp h1).symm
      subst eas
      have hbm:b∈a'::as':=aA _ (mr hb)
      have nb:b≠a':=fun z=>(List.nodup_cons.mp O.nd).1 (z ▸ mr hb)
      obtain ⟨bs,b0⟩:=O2'.out b hbm
      have nx:∀ {j':Nat}{s:Sl},(∀ d,s≠.ow2 d)->(ρ.set i (.ow2 (dss.set j.toNat (ds++[d]))))[j']?=some s->ρ[j']?=some s/\i≠j':=fun {j' s} hs e=>by
       by_cases hj:i=j'
       ·subst hj
        rw [aB hil] at e;exact absurd (bL e).symm (hs _)
       ·rw [am hj] at e;exact ⟨e,hj⟩
      refine q _ _ Hs2 ⟨⟨fun c u e=>?_,f2.st.sh,fun c u e=>?_,f2.st.out⟩,by simp [f2.len],fun j' d' h=>f2.sh j' d' (nx (fun _ z=>by cases z) h).1,fun j' d' h=>?_,fun j' d' h=>?_,fun j' k' d' e' a h1 h2=>f2.dj j' k' d' e' a (nx (fun _ z=>by cases z) h1).1 (nx (fun _ z=>by cases z) h2).1,f2.lh,fun j' d' h=>?_,fun j' k' d' e' h1 h2=>?_⟩
      ·rw [a_ (bc e b0)];exact f2.st.all c u e
      ·rw [a_ (bc e bs)];exact f2.st.sub c u e
      ·obtain ⟨h,_⟩:=nx (fun _ z=>by cases z) h
       obtain ⟨c',u,k1,k2,k3,k4,k5⟩:=f2.ow j' d' h
       refine ⟨c',u,k1,?_,k3,k4,k5⟩
       rw [a_ (fun z=>O2'.dj b hbm j' d' h (by rw [<- z];exact k1))]
       exact k2
      ·obtain ⟨h,_⟩:=nx (fun _ z=>by cases z) h
       obtain ⟨c',u,k1,k2,k3,k4,k5,k6⟩:=f2.lk j' d' h
       refine ⟨c',u,k1,k2,?_,k4,k5,k6⟩
       rw [a_ (bc k5 b0)]
       exact k3
      ·by_cases hj':i=j'
       ·subst hj'
        rw [aB hil] at h
        cases h
        refine ⟨a',as',O2'.at_,by rw [a_ (fM nb)];exact O2'.ob,O2'.nd,O2'.out,fun c hc k e' hk=>O2'.dj c hc k e' (nx (fun _ z=>by cases z) hk).1,?_⟩
        exact Dv.set ((rv.same st.sh).append (.cons r2 .nil)) O2'.inn hb (List.nodup_cons.mp O2'.nd).2
       ·rw [am hj'] at h
        exact (hj' (f2.u2 i j' _ _ ho h)).elim
      ·by_cases hj':i=j'
       ·by_cases hk':i=k'
        ·exact hj'.symm.trans hk'
        ·rw [am hk'] at h2
         exact (hk' (f2.u2 i k' _ _ ho h2)).elim
       ·rw [am hj'] at h1
        exact (hj' (f2.u2 i j' _ _ ho h1)).elim
     ·rw [if_neg hl] at q;exact q.elim
    ·exact q.elim
   ·rw [if_neg hj] at q;exact q.elim
  | none=>exact q.elim
  | bool _=>exact q.elim
  | str _=>exact q.elim
  | list _ _=>exact q.elim
  | tuple _ _=>exact q.elim
  | dictK _ _=>exact q.elim
  | dictT _ _ _=>exact q.elim
  | dictF _ _ _=>exact q.elim
 ·exact q.elim
end
end
section
open PyProof.Rows (OwnCls)
theorem SQ (l:ai) (items:Array ae) (n:Nat) (b:ai) (dd:Option ai) (items2:Array ae) (n2:Nat) (sl:Array (Option ae)) (door:¬(!items.isEmpty && fO (items.size + items2.size))=true) (z1:items.size<=sizeLine) (z2:items.size + items2.size<=sizeLine + 1) :
  Meets (ir.«list.extend» ⟨[.ref l,.ref b],[]⟩) (fun _ R s=>s.heap.get? l=some { cls:=.type "list",data:=.seq items n }/\s.heap.get? b=some { cls:=.type "list",dict:=dd,data:=.seq items2 n2,slots:=sl } /\
   R (.ok (.ret ef)) { s with heap:=s.heap.update l (k8 fun xs=>xs++items2),toks:=s.toks }) :=
 .of_wp fun prog w A R s h=>by
  obtain ⟨hp,gg,dr,tk,os⟩:=s
  obtain ⟨hl,hb,h⟩:=h
  have f1:=AutoSeq1.idx_int
  have f2:=AutoSeq1.sub_tuple_tuple
  have f3:=AutoSeq1.sub_list_list
  have f4:=AutoSeq1.sub_tuple_list
  have f5:=AutoSeq1.sub_list_tuple
  have wq:(items++items2).size<=sizeLine + 1:=by rw [NE];exact z2
  wp_walk using (FV hl rfl (hz:=z1) (_hz':=wq)),wpAny_loadPart' hl,wpAny_loadPart' hb
  exact ⟨_,rfl,h⟩
section
variable {X:Cx}
inductive UI (K:a9) (x:V) (vs:List V) (H:Hp) (Q:VK):Prop
 | mk (l b xs zs:_) (h0:x=.ref l) (h1:vs=[.ref b]) (h2:H l=some (.lst xs)) (h3:pJ K H b zs) (h4:xs.length + zs.length<=sizeLine) (h5:Q .non (upd H l (.lst (xs++zs)))):UI K x vs H Q
def q04 (K:a9):V->List V->Hp->VK->Prop:=UI K
theorem Wa:ZN X "list.extend" (q04 X.K):=by
 intro pins s σ H x vs v us Q I rx rv h
 obtain ⟨l,b,xs,zs,rfl,rfl,hH,hB,hz,q⟩:=h
 cases rx
 obtain ⟨u,rfl,ru⟩:=rv.one
 cases ru
 obtain ⟨z,its,n,r,hl,e⟩:=I.lstM hH
 obtain ⟨its2,r2,⟨⟨m1,m2,m3,m4⟩,n2,e2,d1,d2,d3⟩,z2⟩:=I.list hB
 simp only at d1 d2 d3
 subst d1 d2 d3
 have len2:=r2.length
 have fit:its.toArray.size + its2.toArray.size<=sizeLine:=by rw [aI,aI];omega
 refine qH RA ⟨_,e,rfl⟩ Rn (NL _ _) (SQ l its.toArray n b _ its2.toArray n2 m4 ?_ (by omega) (by omega)) ⟨e,e2,?_⟩
 ·rw [Aj fit,D6]
  exact ba
 ·refine ⟨.non,_,I.lset (its':=its++its2) hH e (by simp) (r.append r2) ?_,rfl,q⟩
  rw [bw]
  omega
end
section
variable {c:C}{e:aR}{g:au->R D}{pos p apos cpos:Pos}{x:Str}
def wx (i:Nat) (g:au->R D):au->R Fl:=fun ρ=>match ρ[i]? with
 | some (Sl.own (.list ds))=>(g ρ).bind fun d=>match d with
  | .list es=>if ds.length + es.length<=1000 then .ok (.nx (ρ.set i (.own (.list (ds++es))))) else .no
  | _=>.no
 | _=>.no
theorem j7 (i:Nat) (h:JE c e g) (hN:c.X.N[i]?=some x:=by rfl) (hv:NX c.X.env.scope x:=by first | exact fu rfl | exact dS (fu rfl) | exact dS (dS rfl)) (hd:(x == ("__debug__" : Str))=false:=by decide)
  (hcd:(x == ("__classdict__" : Str))=false:=by decide)
  (hbase:r_ (.Name x p) "extend" c.X.env (cG (.Name x p) c.X.env)=cG (.Name x p) c.X.env:=by rfl)
  (hfew:((dL cpos (aw [e] c.X.env)).all (fun x=>!x.1) && (m6 cpos (hV [] c.X.env)).all (fun x=>x.1.isSome)
   && decide ([e].length + ([] : List nN).length + (if ([] : List nN).isEmpty then 0 else 1)<30))=true:=by rfl)
  (hline:(apos.endLine == cpos.line)=true:=by rfl) (hst:aw [e] c.X.env=(false,cG e c.X.env)::aw [] c.X.env:=by rfl) (hplain:(dL cpos (aw [] c.X.env)).any (·.1)=false:=by rfl)
  (hs:fh (.Call (.Attribute (.Name x p) "extend" apos) [e] [] cpos) none pos.line c.X.env=pure false:=by rfl) :
  JS c (.Expr (.Call (.Attribute (.Name x p) "extend" apos) [e] [] cpos) pos) (wx i g):=.of fun ρ=>by
 refine zM (qI (yD dv jm jn Wa (mZ hN hv hd hcd) (c9 (h ρ) eL hst) hbase hfew hline hst hplain) hs) fun D σ H h_0=>?_
 obtain ⟨H0,Hs0,la,Hs,f,q⟩:=h_0
 replace q:n5 c.X.K c.cls c.E H0 Hs0 la D (wx i g ρ):=q
 unfold wx at q
 split at q
 ·rename_i ds ho
  obtain ⟨a,o,k1,k2,k3,k4,k5⟩:=f.ow i _ ho
  cases k5 with
  | @lst vs _ r =>
   refine ⟨_,k1,.inl ⟨rfl,_,.of k2⟩,?_⟩
   refine sE f q fun d v H1 Hs1 e1 s1 f1 r1=>?_
   rw [e1,bind_ok] at q
   cases r1 with
   | @list b zs es sq rs =>
    simp only at q
    by_cases hl:ds.length + es.length<=1000
    ·rw [if_pos hl] at q
     have r':=r.same s1.sh
     exact ⟨a,b,vs,zs,rfl,rfl,s1.all _ _ k2,f1.st.sub.seq sq,bA (c8 (by rw [r.length,rs.length];exact hl)),q _ _ Hs1 (f1.write i ho k1 (.lst (r'.append rs)))⟩
    ·rw [if_neg hl] at q;exact q.elim
   | none=>exact q.elim
   | bool _=>exact q.elim
   | int _=>exact q.elim
   | str _=>exact q.elim
   | tuple _ _=>exact q.elim
   | dictK _ _=>exact q.elim
   | dictT _ _ _=>exact q.elim
   | dictF _ _ _=>exact q.elim
 ·exact q.elim
end
structure Er (mg:Str->Option ae) (base:br) (cls:Str->ai) (x:Str):Prop where
 ex:∃ bmB newId initId Bn,OwnCls x (cls x) bmB newId mg base/\uU Bn newId initId bmB
def sI (x:Str) (gs:au->R (List D)):au->R Fl:=fun ρ=>(gs ρ).bind fun ds=>if ds.length<=1000 then .ex x none else .no
section
variable {P:aH}{w:b9}{K:a9}{mg:Str->Option ae}{base:br}{N:List Str}{qual:Str}{scope:eD}{f:ai}{cd:ae}{A:aW}{outer:List Env}{s:ah}{H:Hp}{E:XK}{cls:Str->ai}
theorem AM {x:Str}{np cpos pos:Pos}{e0:aR}{bP:List aR}{gs:au->R (List D)} (R0:Er mg base cls x)
  (hg:Gl (gE (kg P w) P w K mg base N qual scope f cd A outer s H E) x) (ha:Ex ⟨gE (kg P w) P w K mg base N qual scope f cd A outer s H E,cls,E⟩ (e0::bP) gs)
  (he:aw (e0::bP) (gE (kg P w) P w K mg base N qual scope f cd A outer s H E).env=(false,cG e0 (gE (kg P w) P w K mg base N qual scope f cd A outer s H E).env)::aw bP (gE (kg P w) P w K mg base N qual scope f cd A outer s H E).env:=by rfl)
  (hdb:(x == ("__debug__" : Str))=false:=by decide) (hpl:(dL cpos (aw bP (gE (kg P w) P w K mg base N qual scope f cd A outer s H E).env)).any (·.1)=false:=by rfl) :
  JS ⟨gE (kg P w) P w K mg base N qual scope f cd A outer s H E,cls,E⟩ (.Raise (some (.Call (.Name x np) (e0::bP) [] cpos)) none pos) (sI x gs):=.of fun ρ=>by
 obtain ⟨bmB,newId,initId,Bn,O,FB⟩:=R0.ex
 refine zM (OL O FB hg (ha ρ) he hdb hpl) fun D σ H1 h_1=>?_
 obtain ⟨H0,Hs0,la,Hs,f,q⟩:=h_1
 replace q:n5 K cls E H0 Hs0 la D (sI x gs ρ):=q
 refine ⟨H0,Hs0,la,Hs,f,?_⟩
 unfold sI at q
 cases hr:gs ρ with
 | no=>rw [hr] at q;exact q
 | ex y n=>rw [hr] at q;exact fun H' Hs' s=>q H' Hs' (f.st.trans s)
 | ok ds =>
  rw [hr,bind_ok] at q
  intro vs H2 Hs2 s2 r2
  by_cases hl:ds.length<=1000
  ·rw [if_pos hl] at q
   exact ⟨bA (c8 (by rw [r2.length];exact hl)),q H2 Hs2 (f.st.trans s2)⟩
  ·rw [if_neg hl] at q;exact q.elim
end
end
section
structure Bi (mg:Str->Option ae):Prop where
 len:mg "len"=none
 isinstance:mg "isinstance"=none
 all:mg "all"=none
 any:mg "any"=none
 zip:mg "zip"=none
 tuple:mg "tuple"=none
 list:mg "list"=none
 sorted:mg "sorted"=none
 set:mg "set"=none
 range:mg "range"=none
 enumerate:mg "enumerate"=none
 dict:mg "dict"=none
 sum:mg "sum"=none
 max:mg "max"=none
 min:mg "min"=none
 reversed:mg "reversed"=none
 str:mg "str"=none
 int:mg "int"=none
 bool:mg "bool"=none
end
section
structure Xf (K:a9) (base:br) (cls:Str->ai) (names:List Str) (C:ai) (j:Nat):Prop where
 ek:ON K C
 is:∀ i n,names[i]?=some n->dO K (.ref C) (.ref (cls n))=some (decide (i=j))
 ve:dO K (.ref C) (.type "ValueError")=some true
 ox:∃ bm,Et base C bm/\bm.contains (.ref (cls "PlanError"))=true
 lt:j<11
inductive UJ (K:a9) (base:br) (cls:Str->ai) (names:List Str) (vs:List V) (H:Hp) (Q:VK) (z_3:XK):Prop
 | mk (ea C j:_) (h0:vs=[.ref ea]) (h1:H ea=some (Au ea C)) (h2:Xf K base cls names C j) (h3:∀ t H',eg H H'->H t=none->H' t=some (.tup [.str "refused",.int (j:Nat)])->Q (.ref t) H'):UJ K base cls names vs H Q z_3
def Wb (K:a9) (base:br) (cls:Str->ai) (names:List Str):Sp:=UJ K base cls names
def zj (j:Nat):List Bool:=[decide (0=j),decide (1=j),decide (2=j),decide (3=j),decide (4=j),decide (5=j),decide (6=j),decide (7=j),decide (8=j),decide (9=j),decide (10=j)]
theorem Jh:∀ j,j<11->(zj j).countP id=1:=by
 intro j h
 have:∀ k:_root_.Fin 11,(zj k.val).countP id=1:=by decide
 exact this ⟨j,h⟩
theorem SS:∀ j,j<11->(zj j)[j]?=some true/\∀ m,m<j->(zj j)[m]?=some false:=by
 intro j h
 have:∀ k:_root_.Fin 11,(zj k.val)[k.val]?=some true/\∀ m:_root_.Fin 11,m.val<k.val->(zj k.val)[m.val]?=some false:=by decide
 exact ⟨(this ⟨j,h⟩).1,fun m hm=>(this ⟨j,h⟩).2 ⟨m,by omega⟩ hm⟩
section
variable {X:Cx}{cls:Str->ai}{names:List Str}{base:br}
theorem nc {e0:aR}{n:Str}{p p2 pos:Pos} (h0:PE X e0 (M7 0)) (hg:Gl X "isinstance") (hm:X.mg "isinstance"=none) (hgn:Gl X n) (hmn:X.mg n=some (.ref (cls n))) (hdb:(n == ("__debug__" : Str))=false:=by decide)
  (he:aw [e0,.Name n p2] X.env=(false,cG e0 X.env)::aw [.Name n p2] X.env:=by rfl) (hpl:(dL pos (aw [.Name n p2] X.env)).any (·.1)=false:=by rfl) :
  PE X (.Call (.Name "isinstance" p) [e0,.Name n p2] [] pos) (fun σ H Q=>∃ ea C j i,σ[0]?=some (some (V.ref ea))/\H ea=some (Au ea C)/\Xf X.K base cls names C j/\names[i]?=some n/\Q (.bl (decide (i=j))) H) :=
 um (pQ yG hg hm kP (c9 h0 (c9 (E8 hgn hmn (v:=.ref (cls n)) rfl hdb) eL) he) (by decide) (by decide) he hpl) fun σ H Q ⟨ea,C,j,i,h1,h2,x,h3,q⟩ =>
  ⟨_,h1,.ref ea,.ref (cls n),.ref (cls n),_,rfl,.inr ⟨_,rfl,rfl⟩,.inr ⟨ea,C,rfl,h2,x.ek,x.is i n h3⟩,q⟩
theorem SU {e0:aR}{p p2 pos:Pos} (h0:PE X e0 (M7 0)) (hg:Gl X "isinstance") (hm:X.mg "isinstance"=none) (hgn:Gl X "ValueError") (hmn:X.mg "ValueError"=none)
  (he:aw [e0,.Name "ValueError" p2] X.env=(false,cG e0 X.env)::aw [.Name "ValueError" p2] X.env:=by rfl) (hpl:(dL pos (aw [.Name "ValueError" p2] X.env)).any (·.1)=false:=by rfl) :
  PE X (.Call (.Name "isinstance" p) [e0,.Name "ValueError" p2] [] pos) (fun σ H Q=>∃ ea C j,σ[0]?=some (some (V.ref ea))/\H ea=some (Au ea C)/\Xf X.K base cls names C j/\Q (.bl true) H) :=
 um (pQ yG hg hm kP (c9 h0 (c9 (Ky hgn hmn (u:=.type "ValueError") (v:=.ty "ValueError") rfl rfl) eL) he) (by decide) (by decide) he hpl) fun σ H Q ⟨ea,C,j,h1,h2,x,q⟩ =>
  ⟨_,h1,.ref ea,.ty "ValueError",.type "ValueError",_,rfl,.inl ⟨_,rfl,rfl⟩,.inr ⟨ea,C,rfl,h2,x.ek,x.ve⟩,q⟩
end
end
end J
section
namespace J
open PySem L2
def Ji (wh:Str->Option Nat) (gb:au->R Fl):au->R Fl:=fun ρ=>match gb ρ with
 | .ok fl=>.ok fl
 | .ex y none=>match wh y with
  | some j=>.ok (.rt (.tuple [.str "refused",.int (j:Nat)]))
  | none=>.no
 | _=>.no
structure Wh (P:aH) (w:b9) (K:a9) (mg:Str->Option ae) (base:br) (cls:Str->ai) (x:Str) (names:List Str) (wh:Str->Option Nat):Prop where
 fn:∃ f fd ps,Gn P w K mg base 1 f fd ps (Wb K base cls names)/\mg x=some (.ref f)/\eE K (.ref f)=true/\kQ K fd ps []
 pe:mg "PlanError"=some (.ref (cls "PlanError"))
 ox:∃ bp,Et base (cls "PlanError") bp
 xf:∀ y j,wh y=some j->Xf K base cls names (cls y) j
section
variable {c:C}{body:List bH}{x n:Str}{np np2 np3 hpos cpos rpos pos:Pos}{gb:au->R Fl}{names:List Str}{wh:Str->Option Nat}
theorem SW (i:Nat) (W:Wh c.X.prog c.X.w c.X.K c.X.mg c.X.base c.cls x names wh) (hb:∀ (E:XK) (xe:ae->ah->Prop) (pn:List (ai×Obj)),kd (kg c.X.prog c.X.w) (VU c.X xe pn) E->Gw ⟨VU c.X xe pn,c.cls,E⟩ body gb)
  (hr:m_ 1 c.X.A) (hgx:Gl c.X x) (hg:Gl c.X "PlanError") (hN:c.X.N.Nodup) (hi:c.X.N[i]?=some n:=by rfl) (hn:c.X.env.scope.names.lookup n=some .local:=by rfl)
  (hst:∃ l,c.X.stack=c.X.env::l/\c.X.env.frame=some c.X.env.locals:=by exact ⟨_,rfl,rfl⟩) (hex:c.X.ex=[]:=by rfl) (hdb:(x == ("__debug__" : Str))=false:=by decide) (hd:(n == ("__debug__" : Str))=false:=by decide) (hcd:(n == ("__classdict__" : Str))=false:=by decide) :
  JS c (.Try body [.ExceptHandler (some (.Name "PlanError" np)) (some n) [.Return (some (.Call (.Name x np2) [.Name n np3] [] cpos)) rpos] hpos] [] [] pos) (Ji wh gb):=.of fun ρ=>by
 obtain ⟨f,fd,ps,F,hm,hk,hbn⟩:=W.fn
 obtain ⟨bp,y⟩:=W.ox
 have hs:∀ ea,FT (X4 c.X ea) [.Return (some (.Call (.Name x np2) [.Name n np3] [] cpos)) rpos] (Xd (KC (Wb c.X.K c.X.base c.cls names) [] E0 (G0 (M7 i) Of))):=fun ea =>
  vY (xC (OP (X:=X4 c.X ea) F (hr.mark _) hgx hm hk hbn (c9 (mZ hi (.inl hn) hd hcd) eL) hdb))
 refine zM (VV hg W.pe y hN hi hn hst hex (tb:=fun E D σ H=>SR c.X.K c.cls E ρ (gb ρ) D σ H) (fun E xe pn hp=>hb E xe pn hp ρ) hs) fun D σ H h_0=>?_
 obtain ⟨H0,Hs0,la,Hs,fr,q⟩:=h_0
 replace q:n5 c.X.K c.cls c.E H0 Hs0 la D (Ji wh gb ρ):=q
 refine ⟨H0,Hs0,la,Hs,fr,?_⟩
 unfold Ji at q
 cases hr':gb ρ with
 | no=>rw [hr'] at q;exact q
 | ok fl =>
  rw [hr'] at q
  cases fl<;>exact q
 | ex z m =>
  rw [hr'] at q
  cases m with
  | some d=>exact q.elim
  | none =>
   simp only at q
   cases hw:wh z with
   | none=>rw [hw] at q;exact q.elim
   | some j =>
    rw [hw] at q
    have X0:=W.xf z j hw
    intro H' Hs' st
    obtain ⟨bm,o1,o2⟩:=X0.ox
    refine ⟨c.cls z,bm,rfl,o1,o2,fun ea hea=>?_⟩
    have hl:i<c.X.N.length:=(List.getElem?_eq_some_iff.mp hi).1
    refine ⟨.ref ea,aB (by simpa [Av] using hl),ea,c.cls z,j,rfl,aU,X0,fun t H2 sm ht hT=>?_⟩
    have s1:eg H' (upd H' ea (Au ea (c.cls z))):=jq hea
    have ht':H' t=none:=s1.free ht
    refine q (.ref t) H2 (upd Hs' t (.tup [.str "refused",.int (j:Nat)])) ?_ (.tuple aU (.cons (.str _) (.cons (.int _) .nil)))
    refine st.trans ⟨s1.trans sm,jq (st.sub.free ht'),fun b u e=>?_,fun a o e _ z=>by rw [a_ (bc e ht')];exact z⟩
    by_cases hb':b=t
    ·subst hb';rw [aU] at e;cases e;exact hT
    ·rw [a_ hb'] at e;exact sm b u (s1 b u (st.sub b u e))
end
end J
namespace L2
open PySem
theorem m_.mono1 {k:Nat}{A:aW} (r:m_ k A) (h:1<=k:=by decide):m_ 1 A:=⟨by have:=r.dp;omega,by have:=r.un;omega⟩
end L2
end
namespace J
open PySem L2
section
open PyProof.Rows (OwnCls)
abbrev SX:List ae:=[.type "ValueError",.type "Exception",.type "BaseException",.type "object"]
theorem Jj {K:a9}{h:br}{mg:Str->Option ae}{x:Str}{C:ai}{bmB:List ae}{newId:String} (X:K.In h) (G:h.Ns bF mg) (e:gj K bF x=some (some (.ref C))) (q:Cf K C bmB newId=true) (m1:cu K C (.type "BaseException")=some true) :
  OwnCls x C bmB newId mg h/\∃ bm,Et h C bm/\∀ v,(v == c6 C)=false->cu K C v=some true->bm.contains v=true:=by
 have hmg:=jo X G e
 unfold Cf at q
 split at q
 ·rename_i dd cd sl look
  split at q
  ·rename_i C' bm k0 k1 k2 k3 n k5 hmro hslots
   simp only [aL,beq_iff_eq,NS] at q
   obtain ⟨⟨⟨⟨⟨rfl,rfl⟩,nodel⟩,tl⟩,nsok⟩,noinit⟩:=q
   have slots:sl=#[k0,k1,k2,k3,some (.builtin n),k5]:=by
    cases sl with | mk l=>simp only at hslots;rw [hslots]
   have inMro:∀ v,cu K C' v=some true->cd.mro.contains v=true:=fun v hv=>by
    unfold cu gD at hv
    rw [look] at hv
    simp only [Option.bind_some] at hv
    split at hv
    ·cases hv
    ·exact bL hv
   have bP:∀ v,(v == c6 C')=false->cu K C' v=some true->bm.contains v=true:=fun v nv hv=>by
    have:=inMro v hv
    rw [hmro,fU,nv,vT] at this
    exact this
   obtain ⟨nm,bs,mro,ns,qn,hd,sn,sub,ab,col,del⟩:=cd
   dsimp only at hmro nodel nsok noinit
   subst hmro nodel slots
   have at_:=X _ _ look
   exact ⟨⟨hmg,bm,ns,nm,qn,bs,hd,sn,sub,ab,col,dd,k0,k1,k2,k3,k5,_,at_,.of_isNs (mY X nsok),eT X nsok noinit,PySem.W.tail_of_in X tl⟩,
    bm,⟨⟨nm,qn,ns,bs,hd,sn,sub,ab,col,dd,k0,k1,k2,k3,k5,n,at_⟩,bP _ rfl m1⟩,bP⟩
  ·cases q
 ·cases q
structure TopC (K:a9) (x:Str) (C:ai):Prop where
 ns:gj K bF x=some (some (.ref C))
 ex:Cf K C SX "ValueError.__new__"=true
 mb:cu K C (.type "BaseException")=some true
theorem TopC.er {K:a9}{h:br}{mg:Str->Option ae}{cls:Str->ai}{x:Str}{C:ai} (T:TopC K x C) (X:K.In h) (G:h.Ns bF mg) (hc:cls x=C):Er mg h cls x:=by
 subst hc
 exact ⟨_,_,_,_,(Jj X G T.ns T.ex T.mb).1,A9⟩
theorem SY {K:a9}{t C:ai}{cd:ClassData}{b:Bool} (h1:gD K C=some cd) (h2:Aa K (.ref C)=some (.type "type")) (h3:oK K (.ref t) (.ref C)=some b) (hn:b=false->t≠C):dO K (.ref t) (.ref C)=some b:=by
 unfold dO
 split
 ·rename_i he
  have e:t=C:=by have:=eq_of_beq he;cases this;rfl
  cases b with
  | true=>rfl
  | false=>exact (hn rfl e).elim
 ·unfold NT
  simp only [h1,h2,vL,beq_self_eq_true,vW,if_true]
  exact h3
theorem Wc {K:a9}{t:ai} (h3:oK K (.ref t) (.type "ValueError")=some true):dO K (.ref t) (.type "ValueError")=some true:=by
 unfold dO
 split
 ·rename_i he
  cases (eq_of_beq he)
 ·unfold NT
  show (if PySem.W.kitMeta "ValueError"=true then _ else none)=some true
  rw [if_pos (by decide +kernel)]
  exact h3
inductive Y7 (K:a9) (F:List D->R D) (vs:List V) (H:Hp) (Q:VK) (z_3:XK):Prop
 | mk (Hs ds d:_) (h0:eg Hs H) (h1:ds.length=1) (h2:RDs K Hs vs ds) (h3:F ds=.ok d) (h4:∀ v H' Hs',dk H Hs H' Hs'->RD K Hs' v d->Q v H'):Y7 K F vs H Q z_3
def Y8 (K:a9) (F:List D->R D):Sp:=Y7 K F
theorem Wd {K:a9}{cls:Str->ai}{F:List D->R D}:∀ vs H Q E,Y8 K F vs H Q E->UE K cls 1 F vs H Q E:=fun vs H Q E ⟨Hs,ds,d,s,l,r,e,q⟩=>⟨Hs,ds,s,l,r,by rw [e];exact q⟩
def Y9 (l:List (Str×ai)):Str->ai:=fun x=>(l.lookup x).getD 0
theorem We {K:a9}{F:List D->R D}{H:Hp}{a:ai}{ns:List Int} (hF:F [.list (ns.map .int)]=.ok (.bool true)) (h:pJ K H a (ns.map V.int)):Y8 K F [.ref a] H (fun v _=>v=.bl true) fun _ _ _=>False:=by
 have ri:∀ ns:List Int,RDs K H (ns.map V.int) (ns.map .int):=fun ns=>by
  induction ns with
  | nil=>exact .nil
  | cons x r ih=>exact .cons (.int x) ih
 refine ⟨H,[.list (ns.map .int)],.bool true,.refl H,rfl,.cons (.list h (ri ns)) .nil,hF,?_⟩
 intro v H' Hs' _ r
 cases r
 rfl
theorem Wf {P:aH}{w:b9}{H:Hp}{s:ah}{e:ae}{s':ah} (h:kg P w [] H s (fun _ _ _=>False) e s'):False:=by
 obtain ⟨_,_,_,_,_,_,_,_,_,q⟩:=h
 exact q
theorem walkF {l:y_}{k:Nat}{q:aH}{loose:List Str}{XP:(Str->Option ae)->br->Prop}{YP:b9->br->Prop}{d:DefRec}{K:Params->a9}{x:Str}{F0:List D->R D}
  (hn:l.most=some 63) (hdf:d.params.defaults=[]) (hr:jH k yx) (hY:∀ (w:b9) (h:br),YP w h->(K w.params).In h)
  (F:∀ (w:b9) (mg:Str->Option ae) (fa:ai) (h:br),(K w.params).In h->h.Ns bF mg->mg d.name=some (.ref fa) ->
   ∃ fd:dE,(∀ (s:ah) (u:ae),yv s fd ⟨[u],[]⟩ [(x,u)])/\∀ base:br,(K w.params).In base->base.Ns bF mg->uj l.prog w (K w.params) mg base (kg l.prog w) k fa fd [x] (Y8 (K w.params) F0))
  (hF:∀ ns:List Int,ns.length<=63->F0 [.list (ns.map .int)]=.ok (.bool true)) :
  Ro q loose XP YP l.row.toRowW d [] (fun f vs=>LX f vs) :=
 L2.Sg (n:=63) (k:=k) (x:=x) (CX:=fun w=>kg l.prog w) (sp:=fun w=>Y8 (K w.params) F0) hn (by decide) hdf hr hY F (fun w H a ns hl _ hS=>We (hF ns hl) hS) fun _ _ _ _ _ h=>Wf h
def Zh (i:Nat) (g:au->R Fl):au->R Fl:=fun ρ=>g (shareAt i ρ)
theorem Pb {c:C} (i:Nat) {st:bH}{gs:au->R Fl} (h:JS c st gs):JS c st (Zh i gs):=Jg i h
end
section
section
variable {s:Sl}{ρ:au}{d x y:D}{ds:List D}
theorem EL {α β:Type} (a:α) (f:α->R β):(R.ok a).bind f=f a:=id rfl
theorem Ya {α β:Type} (c:Str) (n:Option D) (f:α->R β):(R.ex c n:R α).bind f=.ex c n:=id rfl
theorem Yb {α β:Type} (f:α->R β):(R.no:R α).bind f=.no:=id rfl
def Pc (h:au->R Fl):Fl->R Fl:=fun fl=>match fl with
 | .nx ρ'=>h ρ'
 | fl=>.ok fl
theorem GF (g h:au->R Fl):aC g h (s::ρ)=(g (s::ρ)).bind (Pc h):=id rfl
theorem sJ (h:au->R Fl) (ρ:au):Pc h (.nx ρ)=h ρ:=id rfl
theorem GG (h:au->R Fl) (d:D):Pc h (.rt d)=.ok (.rt d):=id rfl
def ifK (g h:au->R Fl) (ρ:au):Bool->R Fl:=fun b=>bif b then g ρ else h ρ
theorem Yc (t:au->R Bool) (g h:au->R Fl):ev t g h (s::ρ)=(t (s::ρ)).bind (ifK g h (s::ρ)):=by
 show (t (s::ρ)).bind _=_
 congr 1
 funext b
 cases b<;>rfl
theorem Pd (g h:au->R Fl) (ρ:au):ifK g h ρ false=h ρ:=id rfl
theorem Pe (g h:au->R Fl) (ρ:au) (b:Bool):ifK g h ρ b=bif b then g ρ else h ρ:=id rfl
def rtK:D->R Fl:=fun d=>.ok (.rt d)
theorem UK (g:au->R D):cY g (s::ρ)=(g (fj (s::ρ))).bind rtK:=id rfl
theorem Yd (d:D):rtK d=.ok (.rt d):=id rfl
def AN:Sl->Sl
 | .own d=>.shr d
 | .ow2 dss=>.shr (.list (dss.map .list))
 | s=>s
theorem L9:fj (s::ρ)=AN s::fj ρ:=by cases s<;>rfl
theorem GH:fj []=[]:=id rfl
theorem La:AN .no=.no:=id rfl
theorem GI (d:D):AN (.shr d)=.shr d:=id rfl
theorem GJ (d:D):AN (.own d)=.shr d:=id rfl
theorem GK (d:List (List D)):AN (.ow2 d)=.shr (.list (d.map .list)):=id rfl
def Ye (i:Nat) (ρ:au):D->R Fl:=fun d=>.ok (.nx (ρ.set i (.shr d)))
theorem Pf (i:Nat) (g:au->R D):fB i g (s::ρ)=(g (s::ρ)).bind (Ye i (s::ρ)):=id rfl
theorem Pg (i:Nat) (ρ:au) (d:D):Ye i ρ d=.ok (.nx (ρ.set i (.shr d))):=id rfl
def UL (i:Nat) (ρ:au):D->R Fl:=fun d=>.ok (.nx (ρ.set i (.own d)))
theorem Ph (i:Nat) (g:au->R D):js i g (s::ρ)=(g (s::ρ)).bind (UL i (s::ρ)):=id rfl
theorem Lb (i:Nat) (ρ:au) (d:D):UL i ρ d=.ok (.nx (ρ.set i (.own d))):=id rfl
def Op (ρ:au):D->R Fl:=fun _=>.ok (.nx ρ)
theorem Pi (g:au->R D):eh g (s::ρ)=(g (s::ρ)).bind (J.Op (s::ρ)):=id rfl
theorem Lc (ρ:au) (d:D):J.Op ρ d=.ok (.nx ρ):=id rfl
def g2K (gb:au->R D) (h:D->D->R D) (ρ:au):D->R D:=fun x=>(gb ρ).bind (h x)
theorem Yf (ga gb:au->R D) (h:D->D->R D):g2 ga gb h (s::ρ)=(ga (s::ρ)).bind (g2K gb h (s::ρ)):=id rfl
theorem UM (gb:au->R D) (h:D->D->R D) (ρ:au) (x:D):g2K gb h ρ x=(gb ρ).bind (h x):=id rfl
def SZ:D->R Bool:=fun d=>match d with
 | .bool b=>.ok b
 | _=>.no
theorem UN (g:au->R D):gN g (s::ρ)=(g (s::ρ)).bind SZ:=id rfl
theorem Pj (b:Bool):SZ (.bool b)=.ok b:=id rfl
def Yg:Bool->R Bool:=fun b=>.ok (!b)
theorem UO (g:au->R Bool):mF g (s::ρ)=(g (s::ρ)).bind Yg:=id rfl
theorem Pl (b:Bool):Yg b=.ok (!b):=id rfl
def Yh (h:au->R Bool) (ρ:au):Bool->R Bool:=fun b=>bif b then h ρ else .ok false
def orK (h:au->R Bool) (ρ:au):Bool->R Bool:=fun b=>bif b then .ok true else h ρ
theorem UP (g h:au->R Bool):J6 g h (s::ρ)=(g (s::ρ)).bind (Yh h (s::ρ)):=by
 show (g (s::ρ)).bind _=_
 congr 1;funext b;cases b<;>rfl
theorem Yi (g h:au->R Bool):Mw g h (s::ρ)=(g (s::ρ)).bind (orK h (s::ρ)):=by
 show (g (s::ρ)).bind _=_
 congr 1;funext b;cases b<;>rfl
theorem Pm (h:au->R Bool) (ρ:au) (b:Bool):Yh h ρ b=bif b then h ρ else .ok false:=id rfl
theorem UQ (h:au->R Bool) (ρ:au) (b:Bool):orK h ρ b=bif b then .ok true else h ρ:=id rfl
def UR:Bool->R D:=fun b=>.ok (.bool (!b))
theorem Pn (g:au->R D):KU g (s::ρ)=((g (s::ρ)).bind SZ).bind UR:=id rfl
theorem Ld (b:Bool):UR b=.ok (.bool (!b)):=id rfl
def US (h:au->R D) (ρ:au):Bool->R D:=fun b=>bif b then h ρ else .ok (.bool false)
theorem Po (g h:au->R D):AB g h (s::ρ)=((g (s::ρ)).bind SZ).bind (US h (s::ρ)):=by
 show (gN g (s::ρ)).bind _=(gN g (s::ρ)).bind _
 congr 1;funext b;cases b<;>rfl
theorem Le (h:au->R D) (ρ:au) (b:Bool):US h ρ b=bif b then h ρ else .ok (.bool false):=id rfl
def Yj (gb gc:au->R D) (h h':D->D->R D) (ρ:au):D->R D:=fun x=>(gb ρ).bind fun y=>(h x y).bind fun z=>match z with
 | .bool true=>(gc ρ).bind fun w=>h' y w
 | .bool false=>.ok (.bool false)
 | _=>.no
def Yk (gc:au->R D) (h h':D->D->R D) (ρ:au) (x:D):D->R D:=fun y=>(h x y).bind fun z=>match z with
 | .bool true=>(gc ρ).bind fun w=>h' y w
 | .bool false=>.ok (.bool false)
 | _=>.no
def Yl (gc:au->R D) (h':D->D->R D) (ρ:au) (y:D):D->R D:=fun z=>match z with
 | .bool true=>(gc ρ).bind (h' y)
 | .bool false=>.ok (.bool false)
 | _=>.no
theorem Lf (ga gb gc:au->R D) (h h':D->D->R D):sx ga gb gc h h' (s::ρ)=(ga (s::ρ)).bind (Yj gb gc h h' (s::ρ)):=id rfl
theorem Pp (gb gc:au->R D) (h h':D->D->R D) (ρ:au) (x:D):Yj gb gc h h' ρ x=(gb ρ).bind (Yk gc h h' ρ x):=id rfl
theorem Pq (gc:au->R D) (h h':D->D->R D) (ρ:au) (x y:D):Yk gc h h' ρ x y=(h x y).bind (Yl gc h' ρ y):=id rfl
theorem Pr (gc:au->R D) (h':D->D->R D) (ρ:au) (y:D) (b:Bool):Yl gc h' ρ y (.bool b)=bif b then (gc ρ).bind (h' y) else .ok (.bool false):=by cases b<;>rfl
def Ps (gs:au->R (List D)) (ρ:au):D->R (List D):=fun d=>(gs ρ).bind fun ds=>.ok (d::ds)
def Pt (d:D):List D->R (List D):=fun ds=>.ok (d::ds)
theorem Pu (g:au->R D) (gs:au->R (List D)):J.ac g gs (s::ρ)=(g (s::ρ)).bind (Ps gs (s::ρ)):=id rfl
theorem GL (gs:au->R (List D)) (ρ:au) (d:D):Ps gs ρ d=(gs ρ).bind (Pt d):=id rfl
theorem GM (d:D) (ds:List D):Pt d ds=.ok (d::ds):=id rfl
theorem UT (ρ:au):J.aq ρ=.ok []:=id rfl
def UU (k:List D->D):List D->R D:=fun ds=>if ds.length<=1000 then .ok (k ds) else .no
theorem Pw (gs:au->R (List D)) (k:List D->D):bq gs k (s::ρ)=(gs (s::ρ)).bind (UU k):=id rfl
theorem Lg (k:List D->D) (ds:List D):UU k ds=if ds.length<=1000 then .ok (k ds) else .no:=id rfl
theorem Px (gs:au->R (List D)) (h:List D->R D):cJ gs h (s::ρ)=(gs (s::ρ)).bind h:=id rfl
def fnK (n:Nat) (F:List D->R D):List D->R D:=fun ds=>if ds.length=n then F ds else .no
theorem Ym (n:Nat) (F:List D->R D) (gs:au->R (List D)):da n F gs (s::ρ)=(gs (s::ρ)).bind (fnK n F):=id rfl
theorem UV (n:Nat) (F:List D->R D) (ds:List D):fnK n F ds=if ds.length=n then F ds else .no:=id rfl
theorem UW (h:D->R D) (d:D):jQ h [d]=h d:=id rfl
theorem Py (d:D) (ρ:au):Mv (.shr d::ρ) 0=.ok d:=id rfl
theorem UX (s:Sl) (ρ:au) (n:Nat):Mv (s::ρ) (n + 1)=Mv ρ n:=by simp [Mv]
theorem Pz (d:D) (ρ:au):Ip (.shr d::ρ) 0=.ok d:=id rfl
theorem PB (d:D) (ρ:au):Ip (.own d::ρ) 0=.ok d:=id rfl
theorem UY (s:Sl) (ρ:au) (n:Nat):Ip (s::ρ) (n + 1)=Ip ρ n:=by simp [Ip]
def Yn (T:String):D->R D:=fun d=>if mx d then .ok (.bool (v4 T d)) else .no
theorem UZ (g:au->R D) (T:String):xK g T (s::ρ)=(g (s::ρ)).bind (Yn T):=id rfl
theorem PD (T:String) (d:D):Yn T d=if mx d then .ok (.bool (v4 T d)) else .no:=id rfl
def Yo (gl gh:au->R (Option Int)) (ρ:au):D->R D:=fun x=>(gl ρ).bind fun l=>(gh ρ).bind fun h=>Dz x l h
def Yp (gh:au->R (Option Int)) (ρ:au) (x:D):Option Int->R D:=fun l=>(gh ρ).bind fun h=>Dz x l h
theorem Yq (g:au->R D) (gl gh:au->R (Option Int)):uC g gl gh (s::ρ)=(g (s::ρ)).bind (Yo gl gh (s::ρ)):=id rfl
theorem PF (gl gh:au->R (Option Int)) (ρ:au) (x:D):Yo gl gh ρ x=(gl ρ).bind (Yp gh ρ x):=id rfl
theorem PH (gh:au->R (Option Int)) (ρ:au) (x:D) (l:Option Int):Yp gh ρ x l=(gh ρ).bind (Dz x l):=id rfl
theorem U_ (ρ:au):uB ρ=.ok none:=id rfl
def Yr:D->R (Option Int):=fun d=>match d with
 | .int i=>.ok (some i)
 | _=>.no
theorem V0 (g:au->R D):uo g (s::ρ)=(g (s::ρ)).bind Yr:=id rfl
theorem PJ (i:Int):Yr (.int i)=.ok (some i):=id rfl
theorem Wg (g:au->R D):qQ g (s::ρ)=(g (s::ρ)).bind AD:=id rfl
theorem PL (gs:au->R (List D)):yH gs (s::ρ)=(gs (s::ρ)).bind Jb:=id rfl
theorem V1 (gs:au->R (List D)):Jc gs (s::ρ)=(gs (s::ρ)).bind Zf:=id rfl
theorem V2 (gs:au->R (List D)):SJ gs (s::ρ)=(gs (s::ρ)).bind zp:=id rfl
def V3 (nt:Nat) (ix:List Nat) (gt:au->R Bool) (ge:au->R D) (ρ:au):List D->R D:=fun ds=>if ds.length<=1000 then (ik (ji nt (pW nt ix ρ) gt ge) ds).bind fun ys=>.ok (.list ys) else .no
def V4:List D->R D:=fun ys=>.ok (.list ys)
theorem PM (nt:Nat) (ix:List Nat) (gi:au->R (List D)) (gt:au->R Bool) (ge:au->R D):iX nt ix gi gt ge (s::ρ)=(gi (s::ρ)).bind (V3 nt ix gt ge (s::ρ)):=id rfl
theorem Lh (nt:Nat) (ix:List Nat) (gt:au->R Bool) (ge:au->R D) (ρ:au) (ds:List D):V3 nt ix gt ge ρ ds=if ds.length<=1000 then (ik (ji nt (pW nt ix ρ) gt ge) ds).bind V4 else .no:=id rfl
theorem Li (ys:List D):V4 ys=.ok (.list ys):=id rfl
theorem yI (gi:au->R (List D)) (kt:D->au->R au) (gb:au->R Fl) (ds:List D) (h:gi (s::ρ)=.ok ds):v7 gi kt gb (s::ρ)=sG kt gb ds (s::ρ):=by unfold v7;rw [h]
def PN (k:D->au->R au) (ρ:au):D->R Fl:=fun d=>match k d ρ with
 | .ok ρ'=>.ok (.nx ρ')
 | _=>.no
theorem V5 (g:au->R D) (k:D->au->R au):Cu g k (s::ρ)=(g (s::ρ)).bind (PN k (s::ρ)):=id rfl
theorem DD (ds:List D):AD (.list ds)=.ok ds:=id rfl
theorem DE (ds:List D):AD (.tuple ds)=.ok ds:=id rfl
theorem DF (x:Str):AD (.str x)=.ok (oT x):=id rfl
theorem PP (ds:List D):Zf [.tuple ds]=.ok (pV 0 ds):=id rfl
theorem Ys (ds es:List D):zp [.tuple ds,.tuple es]=.ok (zh ds es):=id rfl
def DG (ρ:au) (i:Nat):Sl:=SL ((ρ[i]?).getD .no)
def PQ (ix:List Nat) (ρ:au):au:=ix.map (DG ρ)
theorem PR (ix:List Nat) (ρ:au):pW 1 ix ρ=.no::PQ ix ρ:=id rfl
theorem PU (ix:List Nat) (ρ:au):pW 2 ix ρ=.no::.no::PQ ix ρ:=id rfl
theorem PV (ρ:au):PQ [] ρ=[]:=id rfl
theorem PX (i:Nat) (ix:List Nat) (ρ:au):PQ (i::ix) ρ=DG ρ i::PQ ix ρ:=id rfl
theorem PY (s:Sl) (ρ:au):DG (s::ρ) 0=SL s:=id rfl
theorem PZ (s:Sl) (ρ:au) (n:Nat):DG (s::ρ) (n + 1)=DG ρ n:=by simp [DG]
theorem DH (d:D):SL (.shr d)=.shr d:=id rfl
theorem P_ {i:Nat}{ρ:au}{d:D} (h:ρ[i]?=some (Sl.own d)):shareAt i ρ=ρ.set i (.shr d):=by unfold shareAt;rw [h]
theorem eF {α:Type} (f:D->R (Option D)) (c:α->D) (h:α->D):∀ (xs:List α),(∀ x∈xs,f (c x)=.ok (some (h x)))->ik f (xs.map c)=.ok (xs.map h)
 | [],_=>rfl
 | x::r,e=>by
  rw [bd,bd]
  unfold ik
  rw [e x ay,bind_ok,eF f c h r fun y hy=>e y (aA _ hy),bind_ok]
theorem wy {α:Type} (f:D->R (Option D)) (c:α->D) (h:α->D) (p:α->Bool):∀ (xs:List α),(∀ x∈xs,f (c x)=.ok (if p x then some (h x) else none))->ik f (xs.map c)=.ok ((xs.filter p).map h)
 | [],_=>rfl
 | x::r,e=>by
  rw [bd]
  unfold ik
  rw [e x ay,bind_ok,wy f c h p r fun y hy=>e y (aA _ hy),bind_ok]
  cases hp:p x<;>simp [hp]
theorem V6 {ρ:au}{gt:au->R Bool}{ge:au->R D}{d:D}:ji 1 ρ gt ge d=MB (((gt (ρ.set 0 (.shr d)))).bind fun b=>if b then (ge (ρ.set 0 (.shr d))).bind fun y=>.ok (some y) else .ok none):=id rfl
theorem gR {ρ:au}{gt:au->R Bool}{ge:au->R D}{d y:D} (h1:gt (ρ.set 0 (.shr d))=.ok true) (h2:ge (ρ.set 0 (.shr d))=.ok y):ji 1 ρ gt ge d=.ok (some y):=by
 rw [V6,h1,bind_ok,if_pos rfl,h2];rfl
theorem S_ {ρ:au}{gt:au->R Bool}{ge:au->R D}{d y:D}{b:Bool} (h1:gt (ρ.set 0 (.shr d))=.ok b) (h2:b=true->ge (ρ.set 0 (.shr d))=.ok y):ji 1 ρ gt ge d=.ok (if b then some y else none):=by
 rw [V6,h1,bind_ok]
 cases b with
 | true=>rw [if_pos rfl,h2 rfl];rfl
 | false=>rfl
theorem T2 {j:Int} (h1:-(2 ^ 62)<=j) (h2:j<2 ^ 62):Jb [.int j]=.ok (sD 0 j.toNat):=by
 have h:-(2 ^ 62)<=j/\j<2 ^ 62:=⟨h1,h2⟩
 unfold Jb
 split
 ·rename_i j' e
  have e':j=j':=by injection e with e;injection e
  subst e'
  rw [if_pos h]
 ·rename_i hn
  exact (hn j rfl).elim
end
end
end J
section
namespace L2
open PySem PySem.Spec PyProof.Rows
end L2
namespace J
open PySem L2
open PyProof.Rows (envOfC)
section
variable {c:C}{e a b:aR}{g ga gb:au->R D}{pos rpos:Pos}{es:List aR}{gs:au->R (List D)}{x y:Str}{p q:Pos}
end
section
variable {c:C}{body:List bH}{x n:Str}{np np2 np3 hpos cpos rpos pos:Pos}{gb:au->R Fl}{names:List Str}{wh:Str->Option Nat}
end
theorem ln1 {α:Type}{us:List α} (h:us.length=1):∃ a,us=[a]:=by
 rcases us with _ | ⟨a0,_ | ⟨z,r⟩⟩
 ·simp at h
 ·exact ⟨_,rfl⟩
 ·simp at h
theorem ln2 {α:Type}{us:List α} (h:us.length=2):∃ a b,us=[a,b]:=by
 rcases us with _ | ⟨a0,_ | ⟨a0,_ | ⟨z,r⟩⟩⟩
 ·simp at h
 ·simp at h
 ·exact ⟨_,_,rfl⟩
 ·simp at h
theorem ln3 {α:Type}{us:List α} (h:us.length=3):∃ a b c,us=[a,b,c]:=by
 rcases us with _ | ⟨a0,_ | ⟨a0,_ | ⟨a0,_ | ⟨z,r⟩⟩⟩⟩
 ·simp at h
 ·simp at h
 ·simp at h
 ·exact ⟨_,_,_,rfl⟩
 ·simp at h
theorem ln4 {α:Type}{us:List α} (h:us.length=4):∃ a b c d,us=[a,b,c,d]:=by
 rcases us with _ | ⟨a0,_ | ⟨a0,_ | ⟨a0,_ | ⟨a0,_ | ⟨z,r⟩⟩⟩⟩⟩
 ·simp at h
 ·simp at h
 ·simp at h
 ·simp at h
 ·exact ⟨_,_,_,_,rfl⟩
 ·simp at h
theorem ln5 {α:Type}{us:List α} (h:us.length=5):∃ a b c d e,us=[a,b,c,d,e]:=by
 rcases us with _ | ⟨a0,_ | ⟨a0,_ | ⟨a0,_ | ⟨a0,_ | ⟨a0,_ | ⟨z,r⟩⟩⟩⟩⟩⟩
 ·simp at h
 ·simp at h
 ·simp at h
 ·simp at h
 ·simp at h
 ·exact ⟨_,_,_,_,_,rfl⟩
 ·simp at h
end J
end
namespace J
open PySem L2
section
section
variable {c:C}{e a b l tg:aR}{g ga gb:au->R D}{pos p:Pos}{gs:au->R (List D)}{es:List aR}{x:Str}
theorem RDs.rep {K:a9}{H:Hp}{vs:List V}{ds:List D} (h:RDs K H vs ds) (k:Nat):RDs K H (bt k vs).flatten (bt k ds).flatten:=by
 induction k with
 | zero=>exact .nil
 | succ k ih=>rw [dh,dh,gK,gK];exact h.append ih
def T3 (k:Nat) (ds:List D):R D:=if ds.length<=10 then .ok (.list (bt k ds).flatten) else .no
def T4 (k:Nat) (gs:au->R (List D)):au->R D:=fun ρ=>(gs ρ).bind (T3 k)
theorem Wi (k:Nat) {j:Nat}{p2:Pos} (hk:k<=10) (h:Ex c es gs):JE c (.BinOp (.List es p) .Mult (.Constant (.int k) j p2) pos) (T4 k gs):=.of fun ρ=>um (Oa Om (jk (h ρ)) Af) fun σ H Q h_0=>by
 obtain ⟨H0,Hs0,la,Hs,f,q⟩:=h_0
 refine Ey f q fun ds vs H1 Hs1 e1 s1 f1 r1=>?_
 unfold T4 at q
 rw [e1,bind_ok] at q
 unfold T3 at q
 by_cases hl:ds.length<=10
 ·rw [if_pos hl] at q
  have hv:vs.length<=10:=by rw [r1.length];exact hl
  refine ⟨bA (c8 (c7 hv (by decide))),fun p hp=>?_⟩
  have s2:dk H1 Hs1 (upd H1 p (.lst vs)) Hs1:=.mine s1.sub hp
  refine ⟨p,k,vs,rfl,rfl,aU,by omega,by omega,?_,fun p2 hp2=>?_⟩
  ·have:vs.length * k<=10 * 10:=Nat.mul_le_mul hv hk
   exact bA (c8 (c7 this (by decide)))
  ·refine q _ _ _ (s1.trans (s2.trans (.new s2.sub hp2))) (.list (.of aU) ?_)
   exact (r1.rep k).same (dk.new s2.sub hp2).sh
 ·rw [if_neg hl] at q;exact q.elim
end
end
end J
section
namespace HT
open PySem PyProof.Rows
section
open PySem.SeqAt
open PySem.AutoSeq1 (wpAny_loadPart')
open PySem.MeetsSeq PySem.MeetsSeq2 PySem.MeetsSeq3
variable {prog:aH}{w:b9}{A:aW}{E:ae->ah->Prop}{s:ah}
theorem xO {sl:ai}{t:Tok}{n:Nat}{Q:Int×Int×Nat->ah->Prop} (hs:s.heap.IsSliceOf sl .none .none (.int (-1) t))
  (h:Q ((n:Int) - 1,-1,n) s):av (aG prog w) A (ii (.ref sl) (pure (n:Int))) Q E s:=by
 obtain ⟨os,hos,hcs,hds⟩:=id hs
 unfold ii xm
 refine aa (aa (cX hos hds (x:=.none) rfl (aa (cX hos hds (x:=.none) rfl (aa (cX hos hds (x:=.int (-1) t) rfl (aj ?_)))))))
 refine aa (slicePart_int ?_)
 show av _ _ (if ((-1:Int) == 0)=true then _ else _) _ _ s
 rw [if_neg (by decide)]
 refine aa (xr (aa (xr (aa (aj ?_)))))
 show av _ _ (pure ((n:Int) - 1,(-1:Int),dw ((n:Int) - 1) (-1) (-1))) _ _ s
 have e:dw ((n:Int) - 1) (-1) (-1)=n:=by
  unfold dw
  rw [if_neg (by omega)]
  simp only [Int.neg_neg,Int.ediv_one]
  split<;>omega
 rw [e]
 exact aj h
theorem GN {α β:Type}{f g:α->Option β}:∀ {l:List α},(∀ x∈l,f x=g x)->l.filterMap f=l.filterMap g
 | [],_=>rfl
 | x::r,h=>by
  rw [jA,jA,h x ay,GN fun y hy=>h y (aA _ hy)]
theorem Q0 (xs:Array ae):((bZ xs.size).filterMap fun (m:Nat)=>xs[((xs.size:Int) - 1 + (m:Int) * (-1)).toNat]?).toArray=xs.toList.reverse.toArray:=by
 congr 1
 have e:(bZ xs.size).filterMap (fun (m:Nat)=>xs[((xs.size:Int) - 1 + (m:Int) * (-1)).toNat]?)=(bZ xs.size).filterMap (fun m=>some (xs.getD (xs.size - 1 - m) .none)):=by
  refine GN fun m hm=>?_
  have hm:=List.mem_range.mp hm
  have:((xs.size:Int) - 1 + (m:Int) * (-1)).toNat=xs.size - 1 - m:=by omega
  rw [this]
  have h2:xs.size - 1 - m<xs.size:=by omega
  rw [oM h2]
  simp [Array.getD,h2]
 rw [e]
 have e2:(fun m=>some (xs.getD (xs.size - 1 - m) ef))=some∘fun m=>xs.getD (xs.size - 1 - m) ef:=rfl
 rw [e2,List.filterMap_eq_map]
 refine Rp (by simp) fun i h1 h2=>?_
 simp only [aN,kO] at h1
 have h3:xs.size - 1 - i<xs.size:=by omega
 rw [List.getElem_map,List.getElem_range,List.getElem_reverse]
 simp [Array.getD,h3]
theorem wz {t sl:ai}{tk:Tok}{items:Array ae}{Q:ae->ah->Prop} (ht:Ry s.heap t items) (hs:s.heap.IsSliceOf sl .none .none (.int (-1) tk))
  (h:Q (.ref s.heap.objs.size) { s with heap:=s.heap.push { cls:=.type "tuple",data:=.seq items.toList.reverse.toArray } })
  (hsz:items.size<=sizeLine):av (aG prog w) A (nO (.ref t) (.ref sl)) Q E s:=by
 have htake:sizeOk (.seq items.toList.reverse.toArray):=by
  show items.toList.reverse.toArray.size<=sizeLine
  rw [aI,jB,bv]
  exact hsz
 obtain ⟨os,hos,hcs,hds⟩:=id hs
 have hTs:s.TypeIs (.ref sl) "slice":=⟨os,hos,hcs⟩
 unfold nO
 try with_reducible refine dH ?_
 first | refine aa (aj ?_) | skip
 refine aa (C9 ht.typeIs (by decide) ?_)
 refine aa (cP (name:=iA "__getitem__") ht.typeIs dg
  (cQ dg ht.typeIs yY ?_ (A4 _ _)))
 show av _ _ (lP (.ref t) >>= _) _ _ s
 refine aa (LU ht ?_)
 refine aa (m9 hTs ?_)
 rw [if_pos (by decide)]
 refine aa (xO hs ?_)
 have hno:¬ ((((items.size:Int) - 1) == 0 && (-1:Int) == 1 && items.size == items.size)=true):=by
  intro q
  rw [aL,aL] at q
  exact absurd q.1.2 (by decide)
 show av _ _ (if ((((items.size:Int) - 1) == 0 && (-1:Int) == 1 && items.size == items.size)=true) then _ else _) _ _ s
 rw [if_neg hno,Q0]
 first
  | exact aa (m:=cR _) (bW (aj ⟨_,rfl,aj h⟩) htake)
  | exact aa (m:=cR _) (bW (aa (aj (aj ⟨_,rfl,aj h⟩))) htake)
  | exact aa (aa (m:=cR _) (bW (aj (aj ⟨_,rfl,aj h⟩)) htake))
  | exact aa (aa (m:=cR _) (bW (aj ⟨_,rfl,aj h⟩) htake))
end
end HT
namespace L2
open PySem PySem.Spec PyProof.Rows
section
variable {X:Cx}{e st:aR}{te ts:TE}{pos p2:Pos}
theorem du.rev {xs:List V}{us:List ae} (h:du xs us):du xs.reverse us.reverse:=by
 induction h with
 | nil=>exact .nil
 | cons r t ih=>rw [pM,pM];exact ih.append (.cons r .nil)
theorem Wj (he:PE X e te) (hs:PE X st ts):PE X (.Subscript e (.Slice none none (some st) p2) pos) (fun σ H Q=>te σ H fun x H1=>ts σ H1 fun y H2=>y=.int (-1)/\∃ a xs,x=.ref a/\m5 X.K H2 a xs/\∀ p,H2 p=none->Q (.ref p) (upd H2 p (.tup xs.reverse))):=by
 intro pins s σ H Q I h
 refine Iw (fF (he pins s σ H _ I h) fun v s1 h1=>?_)
 obtain ⟨x,H1,I1,r1,q1⟩:=h1
 have nP:evalPart none X.env=pure .none:=LV ..
 refine wpAny_Slice ?_
 rw [nP]
 refine aj ?_
 refine aj ?_
 rw [evalPart_some]
 refine fF (hs pins s1 σ H1 _ I1 q1) fun u s3 h3=>?_
 obtain ⟨y,H3,I3,r3,hy,a,xs,hx,sq,q⟩:=h3
 subst hy
 subst hx
 obtain ⟨tk,rfl⟩:=r3
 cases r1
 have I4:bI X pins σ H3 { s3 with heap:=s3.heap.push { cls:=.type "slice",data:=.fields #[.none,.none,.int (-1) tk] } }:=I3.kept (t':=s3.toks) fun b ob q=>ag _ q
 obtain ⟨its,r,ht,hz⟩:=I4.tuple sq
 have hlen:its.toArray.size=xs.length:=by rw [aI];exact r.length.symm
 show av (aG X.prog X.w) X.A (zG e (.Slice none none (some st) p2) (.ref a) (.ref s3.heap.objs.size)) (EP X pins σ Q) X.xe { s3 with heap:=s3.heap.push { cls:=.type "slice",data:=.fields #[.none,.none,.int (-1) tk] } }
 refine tail_any (ops:=[.ref a,.ref s3.heap.objs.size]) ht.typeIs PyProof.Rows.slot_tuple_getitem.lookup ?_ (by with_unfolding_all rfl)
 refine HT.wz ht (C3 ..) ?_ (by rw [hlen];exact hz)
 refine ⟨.ref _,_,I4.laid (t':=s3.toks) (o:=.tup xs.reverse) (fun b ob q=>ag _ q) (az _) ?_,rfl,q _ (I4.hok.fresh (az _))⟩
 exact ⟨by rw [jB];exact hz,_,r.rev,yZ _ _⟩
end
end L2
namespace J
open PySem L2
section
variable {c:C}{e:aR}{g:au->R D}{pos p2 p3 p4:Pos}
def Wk:D->R D
 | .tuple xs=>.ok (.tuple xs.reverse)
 | _=>.no
def T5 (g:au->R D):au->R D:=fun ρ=>(g ρ).bind Wk
theorem Wl {j:Nat} (h:JB c e g):JE c (.Subscript e (.Slice none none (some (.UnaryOp .USub (.Constant (.int 1) j p3) p4)) p2) pos) (T5 g):=.of fun ρ=>um (Wj (h ρ) (Uj Ob Af)) fun σ H Q h_0=>by
 obtain ⟨H0,Hs0,la,Hs,f,q⟩:=h_0
 refine one f q fun d v H1 Hs1 e1 s1 f1 r1=>?_
 unfold T5 at q
 rw [e1,bind_ok] at q
 refine ⟨1,rfl,rfl,?_⟩
 cases d with
 | tuple ds =>
  obtain ⟨a,vs,rfl,qa,ra,_⟩:=r1.tuple s1.sub
  exact ⟨a,vs,rfl,qa,fun p hp=>q _ _ _ (s1.trans (.new s1.sub hp)) (.tuple aU (ra.reverse.same (dk.new s1.sub hp).sh))⟩
 | _=>exact q.elim
end
end J
end
section
namespace L2
open PySem
def stp (mask:Nat):Nat->Nat×Nat->Nat×Nat
 | 0,x=>x
 | n + 1,x=>stp mask n (SetTable.leap mask x.1 x.2)
def q0f (mask:Nat):Bool:=(bZ (mask + 1)).all fun i=>(bZ (mask + 1)).all fun j=>(bZ (mask + 1)).any fun n=>decide ((stp mask n (i,0)).1=j)
theorem getD_none {owner:Array (Option Nat)}{k:Nat} (h:owner.getD k (some 0)=none):owner.toList[k]?=some none:=by
 by_cases hk:k<owner.size
 ·rw [C5,oM hk] at h
  rw [fR,oM hk]
  simpa using h
 ·rw [C5,Array.getElem?_eq_none (by omega)] at h
  cases h
end L2
namespace L2
open PySem
section
variable {P:aH}{w:b9}{A:aW}{E:ae->ah->Prop}{s:ah}
end
end L2
namespace L2
open PySem
section
variable {P:aH}{w:b9}{A:aW}{E:ae->ah->Prop}{s:ah}
end
end L2
namespace L2
open PySem
section
variable {P:aH}{w:b9}{A:aW}{E:ae->ah->Prop}{s:ah}
end
end L2
namespace L2
open PySem PyProof.Rows
section
variable {P:aH}{w:b9}{A:aW}{E:ae->ah->Prop}{s:ah}
end
end L2
namespace L2
open PySem PyProof.Rows
end L2
namespace J
open PySem L2
section
variable {c:C}{a b:aR}{ga gb:au->R (List Str)}{pos:Pos}
end
end J
namespace J
open PySem L2
section
variable {c:C}{a b:aR}{gs:au->R (List D)}{pos px py pt pt2:Pos}{x y:Str}
end
end J
namespace J
open PySem L2
end J
end
section
namespace L2
open PySem PySem.Spec PyProof.Rows
section
variable {prog:aH}{w:b9}{A:aW}{E:ae->ah->Prop}{s:ah}{R:uO->ah->Prop}
end
end L2
namespace L2
open PySem PySem.Spec PyProof.Rows
section
variable {prog:aH}{w:b9}{A:aW}{E:ae->ah->Prop}{s:ah}{R:uO->ah->Prop}
end
end L2
namespace L2
open PySem PySem.Spec PyProof.Rows
end L2
namespace J
open PySem L2
def Lj:List D->Option (List (gy×D))
 | []=>some []
 | .tuple [k,v]::r=>(wt k).bind fun y=>(Lj r).map ((y,v)::·)
 | _::_=>none
def Zi:D->R D
 | .list ds=>if ds.length<=1000 then (match Lj ds with
  | some ps=>.ok (.dict (ps.foldl (fun a p=>Jd a (kD p.1) p.2) []))
  | none=>.no) else .no
 | _=>.no
section
variable {c:C}{e:aR}{g:au->R D}{p cpos:Pos}
end
end J
namespace L2
open PySem PySem.Spec PyProof.Rows
end L2
namespace J
open PySem L2
section
variable {c:C}{a:aR}{gs:au->R (List D)}{p pos:Pos}
def q0g:List D->R (List D)
 | [.list ds]=>.ok (pV 0 ds)
 | _=>.no
end
end J
namespace L2
open PySem PySem.Spec PyProof.Rows
def Itv (K:a9) (a:ai) (n:Nat):It :=
 ⟨fun i H=>i<n/\∃ xs,pJ K H a xs/\xs.length=n,fun i H x H'=>H'=H/\∀ xs,pJ K H a xs->xs.reverse[i]?=some x,fun i H=>n<=i⟩
theorem GO {P:aH}{w:b9}{K:a9}{tg:aR} (a it:ai) (n:Nat):Ch P w K tg (Itv K a n) [it] it (fun i h=>h.IsRevIter it a ((n:Int) - 1 - i)/\i<=n) where
 mem:=by simp
 obj:=fun i h st b hb=>by
  have e:b=it:=by simpa using hb
  subst e
  obtain ⟨⟨o,e,c,d⟩,_⟩:=st
  exact ⟨o,e,fun v z=>by rw [d] at z;cases z⟩
 keep:=fun i h h' st k=>⟨st.1.at fun o e=>k it (by simp) o e,st.2⟩
 item:=by
  intro X hP hw hK hc i pins s σ H E I hf st hg
  subst hP hw hK
  obtain ⟨hi,xs,hq,hn⟩:=hg
  obtain ⟨st,_⟩:=st
  obtain ⟨its,rv,p,hz⟩:=I.list hq
  have hj:n - 1 - i<xs.length:=by omega
  obtain ⟨u,hu,ru⟩:=rv.get (bg hj)
  obtain ⟨f0,f1,f2,f3,f4,f5⟩:=hf it (by simp)
  have ej:((n:Int) - 1 - i)=((n - 1 - i:Nat):Int):=by omega
  rw [ej] at st
  refine wpAny_pyNext_rev_item st p.isList (x:=u) (by simpa using hu) fun h' st' sb=>?_
  have I1:bI X pins σ H { s with heap:=h' }:=I.turned (t':=s.toks) (fun b o hb e=>(sb.2 b hb).trans e) f0 f1 f3 f4 f5
  obtain ⟨o,e,c,d⟩:=id st'
  have ej2:(((n - 1 - i:Nat):Int) - 1)=((n:Int) - 1 - ((i + 1:Nat):Int)):=by omega
  rw [ej2] at st'
  refine ⟨u,rfl,KA (s:={ s with heap:=h' }) e c d (by decide) ⟨_,H,I1,ru,⟨rfl,fun ys hy=>?_⟩,⟨st',hi⟩,fun b hb=>(hf b hb).1⟩⟩
  rw [I.list_inj hy hq,List.getElem?_reverse (by omega),hn]
  exact bg hj
 done:=by
  intro X hP hw hK hc i pins s σ H E I hf st hg
  subst hP hw hK
  obtain ⟨st,hi⟩:=st
  obtain rfl:i=n:=Nat.le_antisymm hi hg
  obtain ⟨f0,f1,f2,f3,f4,f5⟩:=hf it (by simp)
  have ej:((i:Int) - 1 - i)=-1:=by omega
  rw [ej] at st
  exact wpAny_pyNext_rev_end (I.ok.hd hc) st fun h' eb=>⟨rfl,I.turned (t':=s.toks) (fun b o hb e=>eb b o hb e) f0 f1 f3 f4 f5⟩
 self:=fun _ _ _ _ _ st h=>wpAny_pyIter_revIter st.1 h
def q05 (K:a9) (ta:TA):TI:=fun σ H R=>ta σ H fun vs H1=>∃ a xs,vs=[.ref a]/\pJ K H1 a xs/\R (Itv K a xs.length) H1
theorem Wm {X:Cx}{tg:aR}{p pos:Pos}{a:aR}{ta:TA} (hg:Gl X "reversed") (hm:X.mg "reversed"=none) (ha:PA X [a] ta) (hs:aw [a] X.env=[(false,cG a X.env)]:=by rfl) :
  PI X tg (.Call (.Name "reversed" p) [a] [] pos) (q05 X.K ta):=by
 intro pins s σ H R I h
 refine Call_ (uV I hg hm boot_reversed (f9 (fF (ha pos pins s σ H _ I h) fun us s1 h1=>?_) hs rfl))
 obtain ⟨vs,H1,I1,r1,q1⟩:=h1
 obtain ⟨ad,xs,rfl,hq,q⟩:=q1
 obtain ⟨u,rfl,rx⟩:=ms r1
 cases rx
 obtain ⟨its,rv,tp,hz⟩:=I1.list hq
 refine call_reversed_list tp.isList ?_
 have hsz:(its.toArray.size:Int) - 1=(xs.length:Int) - 1 - ((0:Nat):Int):=by
  rw [aI,<- rv.length];omega
 have st:(s1.heap.push (revObj ad ((its.toArray.size:Int) - 1))).IsRevIter s1.heap.objs.size ad ((xs.length:Int) - 1 - ((0:Nat):Int)):=by
  rw [<- hsz]
  exact ⟨_,aE _ rfl,rfl,rfl⟩
 have I2:bI X pins σ H1 { s1 with heap:=s1.heap.push (revObj ad ((its.toArray.size:Int) - 1)) }:=I1.kept (t':=s1.toks) fun b o e=>ag _ e
 refine (GO (P:=X.prog) (w:=X.w) (K:=X.K) (tg:=tg) ad s1.heap.objs.size xs.length).self _ 0 _ _ _ ⟨st,dU _⟩ ?_
 refine ⟨s1.heap.objs.size,[s1.heap.objs.size],_,_,H1,rfl,I2,GO ad _ xs.length,⟨st,dU _⟩,fun b hb=>?_,q⟩
 rw [List.mem_singleton.mp hb]
 exact I1.fpOk (az _) (I1.hok.fresh (az _))
end L2
namespace J
open PySem L2
theorem Wn {K:a9}{Hn Hs:Hp}{a:ai}{vs:List V}{ds:List D} (h:pJ K Hn a vs) (r:RDs K Hs vs ds):Rx K (Itv K a vs.length) ds.reverse Hn Hs:=fun H2 Hs2 e1 e2 e3=>by
 have q:=e1.seq h
 have hl:=r.length
 refine ⟨fun i hi=>?_,fun i hi=>?_,fun i x H3 hi y=>?_⟩
 ·rw [jB] at hi
  exact ⟨by omega,vs,q,rfl⟩
 ·rw [jB] at hi
  show vs.length<=i
  omega
 ·obtain ⟨rfl,y⟩:=y
  obtain ⟨d,k1,k2⟩:=r.reverse.get (y vs q)
  exact ⟨d,Hs2,k1,.refl e3,k2.same e2⟩
section
variable {c:C}{tg a:aR}{gs:au->R (List D)}{p pos:Pos}
def Wo:List D->R (List D)
 | [.list ds]=>.ok ds.reverse
 | _=>.no
def Lk (gs:au->R (List D)):au->R (List D):=fun ρ=>(gs ρ).bind Wo
theorem Ll (hg:Gl c.X "reversed") (hm:c.X.mg "reversed"=none) (ha:Ex c [a] gs) (hs:aw [a] c.X.env=[(false,cG a c.X.env)]:=by rfl):L3 c tg (.Call (.Name "reversed" p) [a] [] pos) (Lk gs):=.of fun ρ=>MA (Wm hg hm (ha ρ) hs) fun σ H Q h_20=>by
 obtain ⟨H0,Hs0,la,Hs,f,q⟩:=h_20
 refine Ey f q fun ds vs H1 Hs1 e1 s1 f1 r1=>?_
 unfold Lk at q
 rw [e1,bind_ok] at q
 unfold Wo at q
 split at q
 ·obtain ⟨x,rfl,rx⟩:=r1.one
  cases rx with
  | list qa ra=>exact ⟨_,_,rfl,eg.seq f1.st.sub qa,q _ H1 Hs1 s1 (Wn qa ra)⟩
 ·exact q.elim
end
end J
namespace J
open PySem L2
end J
end
namespace J
open PySem L2 PyProof.Rows
section
structure En where
 P:aH
 w:b9
 K:a9
 mg:Str->Option ae
 base:br
 cls:Str->ai
abbrev FN (e:En):=Fn e.P e.w e.K e.mg e.base e.cls
abbrev ER (e:En):=Er e.mg e.base e.cls
abbrev Cn (mg:Str->Option ae) (x:Str) (n:Int):Prop:=∃ t,mg x=some (.int n t)
structure cZ (K:a9) (mg:Str->Option ae) (x:Str) (st:bH):Prop where
 ex:∃ f fd,Io K x x st f fd/\mg x=some (.ref f)
section
variable {K:a9}{h:br}{mg:Str->Option ae}{x:Str}
theorem d_in {st:bH}{A:ai}{od an:Option ai}{sl:Array (Option ae)}{oc kV dc pm cv ct:ae} (X:K.In h) (G:h.Ns bF mg) (a:gj K bF x=some (some (.ref A)))
  (l:K.lookup A=some ⟨oc,od,.func (eR x x (lD st) (i3 st) (ar st) .none kV dc pm an cv ct),sl⟩) (c:k7 K cv x=true) (k:eE K (.ref A)=true):cZ K mg x st :=
 ⟨_,_,Oo l c k,jo X G a⟩
theorem cn_in {n:Int}{tk:Tok} (X:K.In h) (G:h.Ns bF mg) (t:gj K bF x=some (some (.int n tk))):Cn mg x n:=⟨_,jo X G t⟩
inductive Zs (K:a9):List Str->Prop
 | nil:Zs K []
 | cons {x:Str}{r:List Str}:gj K bF x=some none->Zs K r->Zs K (x::r)
theorem Zs.get {r:List Str} (z:Zs K r):∀ x∈r,gj K bF x=some none:=by
 induction z with
 | nil=>exact fun _ h=>nomatch h
 | cons a _ ih =>
  intro y hy
  rcases List.mem_cons.mp hy with e | e
  ·rw [e];exact a
  ·exact ih y e
abbrev zn:List Str:=["len","isinstance","all","any","zip","tuple","list","sorted","set","range","enumerate","dict","sum","max","min","reversed","str","int","bool","ValueError"]
theorem Yt (X:K.In h) (G:h.Ns bF mg) (z:Zs K zn):Bi mg:=by
 have q:∀ x∈zn,mg x=none:=fun x hx=>IC X G (z.get x hx)
 exact ⟨q _ (by decide),q _ (by decide),q _ (by decide),q _ (by decide),q _ (by decide),q _ (by decide),q _ (by decide),q _ (by decide),q _ (by decide),q _ (by decide),q _ (by decide),q _ (by decide),q _ (by decide),q _ (by decide),q _ (by decide),q _ (by decide),q _ (by decide),q _ (by decide),q _ (by decide)⟩
theorem Yu (X:K.In h) (G:h.Ns bF mg) (z:Zs K zn):mg "ValueError"=none:=IC X G (z.get _ (by decide))
end
section
variable {P:aH}{w:b9}{K:a9}{mg:Str->Option ae}{base:br}{N:List Str}{qual:Str}{scope:eD}{f:ai}{cd:ae}{A:aW}{outer:List Env}{s:ah}{H:Hp}{E:XK}
theorem px:kd (kg P w) (gE (kg P w) P w K mg base N qual scope f cd A outer s H E) E:=Gm fun _ _ h=>h
end
section
variable {c:C}{x y:Str}{e:aR}{es:List aR}{gs:au->R (List D)}{p q pos:Pos}
theorem jc {k j n:Nat}{F:List D->R D} (G:Fn c.X.prog c.X.w c.X.K c.X.mg c.X.base c.cls x k n F) (hr:jH j c.X.A) (hx:kd (kg c.X.prog c.X.w) c.X c.E) (ha:Ex c (e::es) gs)
  (hk:k<=j:=by decide) (hg:Gl c.X x:=by exact rfl) (hdb:(x == ("__debug__" : Str))=false:=by decide) (he:aw (e::es) c.X.env=(false,cG e c.X.env)::aw es c.X.env:=by rfl) (hpl:(dL pos (aw es c.X.env)).any (·.1)=false:=by rfl) :
  JE c (.Call (.Name x p) (e::es) [] pos) (da n F gs):=SG G (hr.mono hk) hg hx ha hdb he hpl
end
abbrev Bq (x:Str) (st:bH) (us:List ae) (r:List (Str×ae)):Prop:=∀ (kV doc pm:ae) (an:Option ai) (cdv ct:ae),Rz (eR x x (lD st) (i3 st) (ar st) .none kV doc pm an cdv ct) ⟨us,[]⟩=pure r
section
variable {K:a9}{x:Str}{st:bH}{f:ai}{fd:dE}
theorem b1 {a:Str} (F:Io K x x st f fd) (h:∀ u,Bq x st [u] [(a,u)]:=by exact fun _ _ _ _ _ _ _=>rfl):kQ K fd [a] []:=F.binds fun _ _ _ _ _ _ us hl=>by obtain ⟨_,rfl⟩:=ln1 hl;exact h ..
theorem b2 {a b:Str} (F:Io K x x st f fd) (h:∀ u v,Bq x st [u,v] [(a,u),(b,v)]:=by exact fun _ _ _ _ _ _ _ _=>rfl):kQ K fd [a,b] []:=F.binds fun _ _ _ _ _ _ us hl=>by obtain ⟨_,_,rfl⟩:=ln2 hl;exact h ..
theorem b3 {a b c:Str} (F:Io K x x st f fd) (h:∀ u v w,Bq x st [u,v,w] [(a,u),(b,v),(c,w)]:=by exact fun _ _ _ _ _ _ _ _ _=>rfl):kQ K fd [a,b,c] []:=F.binds fun _ _ _ _ _ _ us hl=>by obtain ⟨_,_,_,rfl⟩:=ln3 hl;exact h ..
theorem b4 {a b c d:Str} (F:Io K x x st f fd) (h:∀ u v w z,Bq x st [u,v,w,z] [(a,u),(b,v),(c,w),(d,z)]:=by exact fun _ _ _ _ _ _ _ _ _ _=>rfl):kQ K fd [a,b,c,d] []:=F.binds fun _ _ _ _ _ _ us hl=>by obtain ⟨_,_,_,_,rfl⟩:=ln4 hl;exact h ..
theorem b5 {a b c d e:Str} (F:Io K x x st f fd) (h:∀ u v w z y,Bq x st [u,v,w,z,y] [(a,u),(b,v),(c,w),(d,z),(e,y)]:=by exact fun _ _ _ _ _ _ _ _ _ _ _=>rfl):kQ K fd [a,b,c,d,e] []:=F.binds fun _ _ _ _ _ _ us hl=>by obtain ⟨_,_,_,_,_,rfl⟩:=ln5 hl;exact h ..
end
theorem iF {e:En}{x:Str}{st:bH}{N ps:List Str}{k:Nat}{g:au->R Fl} (D:cZ e.K e.mg x st) (S:aK N ps (ar st)) (b:∀ {f:ai}{fd:dE},Io e.K x x st f fd->kQ e.K fd ps [])
  (h:∀ (f:ai) (cdv:ae) (A:aW) (outer:List Env) (s:ah) (H:Hp) (E:XK),jH k (A.deeper (j_ x (ar st) s.heap.objs.size f cdv))->Gw ⟨gE (kg e.P e.w) e.P e.w e.K e.mg e.base N x (ar st) f cdv A outer s H E,e.cls,E⟩ (i3 st) g) :
  FN e x (k + 1) ps.length (cy N.length g):=by
 obtain ⟨f,fd,F,hm⟩:=D.ex
 exact Y6 F S hm (b F) (h f)
def scB (N P:List Str) (sc:eD):Bool:=decide (sc.kind=.function) && !sc.isCoroutine && !sc.isGenerator && decide N.Nodup && decide (N.take P.length=P) && P.all (fun x=>decide (sc.names.lookup x=some .local) || decide (sc.names.lookup x=some .cell)) && sc.names.all fun y=>decide (y.2≠.free)
theorem bQ {N P:List Str}{sc:eD} (h:scB N P sc=true):aK N P sc:=by
 unfold scB at h
 simp only [aL,decide_eq_true_eq,NS,eA,si] at h
 obtain ⟨⟨⟨⟨⟨⟨a,b⟩,c⟩,d⟩,e⟩,f⟩,g⟩:=h
 exact ⟨a,b,c,d,e,f,g⟩
structure Cw (K:a9) (x:Str) (C:ai):Prop where
 ns:gj K bF x=some (some (.ref C))
 cl:∃ cd,gD K C=some cd
 ty:Aa K (.ref C)=some (.type "type")
theorem cw_in {K:a9}{x:Str}{C:ai}{cd:ClassData} (a:gj K bF x=some (some (.ref C))) (i:gD K C=some cd) (y:Aa K (.ref C)=some (.type "type")):Cw K x C:=⟨a,⟨_,i⟩,y⟩
inductive T6 (K:a9):List Str->List ai->Prop
 | nil:T6 K [] []
 | cons {x:Str}{C:ai}{ns:List Str}{Cs:List ai}:Cw K x C->T6 K ns Cs->T6 K (x::ns) (C::Cs)
inductive Sb (K:a9) (C:ai):List (ai×Bool)->Prop
 | nil:Sb K C []
 | cons {D:ai}{b:Bool}{l:List (ai×Bool)}:oK K (.ref C) (.ref D)=some b->(b=false->C≠D)->Sb K C l->Sb K C ((D,b)::l)
structure Wy (K:a9) (C CP:ai) (l:List (ai×Bool)):Prop where
 x1:gT K (.ref C) "__getattribute__"=some (some (.builtin "BaseException.__getattribute__"))
 x2:gT K (.ref C) "__getattr__"=some none
 x3:gT K (.ref C) "__class__"=some (some (.builtin "object.__class__"))
 x4:vQ K (.builtin "object.__class__") "__get__"=some (some (.builtin "getset_descriptor.__get__"))
 x5:yX K (.builtin "object.__class__")=some true
 x6:cu K C (.type "object")=some true
 x7:cu K C (.ref CP)=some true
 x8:oK K (.ref C) (.type "ValueError")=some true
 x9:(c6 CP == c6 C)=false
 sb:Sb K C l
theorem T6.at {K:a9}{ns:List Str}{Cs:List ai} (N:T6 K ns Cs):∀ (i:Nat) (n:Str),ns[i]?=some n->∃ C,Cs[i]?=some C/\Cw K n C:=by
 induction N with
 | nil=>intro i n h;simp at h
 | cons a _ ih =>
  intro i n h
  cases i with
  | zero=>cases h;exact ⟨_,rfl,a⟩
  | succ i=>exact ih i n h
theorem Sb.at {K:a9}{C:ai}{l:List (ai×Bool)} (N:Sb K C l):∀ (i:Nat) (D:ai) (b:Bool),l[i]?=some (D,b)->oK K (.ref C) (.ref D)=some b/\(b=false->C≠D):=by
 induction N with
 | nil=>intro i D b h;simp at h
 | cons a c _ ih =>
  intro i D b h
  cases i with
  | zero=>cases h;exact ⟨a,c⟩
  | succ i=>exact ih i D b h
theorem Yv {K:a9}{h:br}{mg:Str->Option ae}{cls:Str->ai}{ns:List Str}{Cs:List ai} (X:K.In h) (G:h.Ns bF mg) (N:T6 K ns Cs) (hn:ns.map cls=Cs):∀ n∈ns,mg n=some (.ref (cls n)):=by
 intro n hm
 obtain ⟨i,hi,e⟩:=mX hm
 have e1:ns[i]?=some n:=by rw [bg hi,e]
 obtain ⟨C,h1,h2⟩:=N.at i n e1
 rw [<- hn,aT,e1] at h1
 cases h1
 exact jo X G h2.ns
theorem Lm {K:a9}{base:br}{cls:Str->ai}{x:Str}{C CP:ai}{ns:List Str}{Cs:List ai}{l:List (ai×Bool)}{j:Nat} (mb:cu K C (.type "BaseException")=some true) (Q:∃ bm,Et base C bm/\∀ v,(v == c6 C)=false->cu K C v=some true->bm.contains v=true) (W:Wy K C CP l) (N:T6 K ns Cs)
  (hc:cls x=C) (hp:cls "PlanError"=CP) (hn:ns.map cls=Cs) (hl:l.map (·.1)=Cs) (hb:l.map (·.2)=zj j) (hj:j<11) (hx:x∈ns):Xf K base cls ns (cls x) j:=by
 obtain ⟨bm,o,mm⟩:=Q
 subst hc hp
 have hcl:(gD K (cls x)).isSome=true:=by
  obtain ⟨i,hi,e⟩:=mX hx
  have e1:ns[i]?=some x:=by rw [bg hi,e]
  obtain ⟨C,h1,h2⟩:=N.at i x e1
  rw [<- hn,aT,e1] at h1
  cases h1
  obtain ⟨cd,h3⟩:=h2.cl
  rw [h3];rfl
 refine ⟨⟨W.x1,W.x2,W.x3,W.x4,W.x5,W.x6,mb,hcl⟩,fun i n e=>?_,Wc W.x8,⟨bm,o,mm _ W.x9 W.x7⟩,hj⟩
 obtain ⟨D,h1,h2⟩:=N.at i n e
 have h3:Cs[i]?=some (cls n):=by rw [<- hn,aT,e];rfl
 rw [h1] at h3
 cases h3
 obtain ⟨cd,h4⟩:=h2.cl
 have hi:l[i]?≠none:=fun z=>by
  rw [<- hl,aT,z] at h1
  cases h1
 cases hq:l[i]? with
 | none=>exact (hi hq).elim
 | some q =>
  obtain ⟨D,b⟩:=q
  have e1:D=cls n:=by rw [<- hl,aT,hq] at h1;cases h1;rfl
  have e2:(zj j)[i]?=some b:=by rw [<- hb,aT,hq];rfl
  subst e1
  obtain ⟨s1,s2⟩:=W.sb.at i _ b hq
  have e3:b=decide (i=j):=by
   unfold zj at e2
   match i,e2 with
   | 0,e | 1,e | 2,e | 3,e | 4,e | 5,e | 6,e | 7,e | 8,e | 9,e | 10,e=>simpa using e.symm
   | (i + 11),e=>simp at e
  rw [<- e3]
  exact SY h4 h2.ty s1 s2
theorem Q1 {K:a9}{base:br}{mg:Str->Option ae}{cls:Str->ai}{x:Str}{C CP:ai}{ns:List Str}{Cs:List ai}{l:List (ai×Bool)}{j:Nat} (X:K.In base) (G:base.Ns bF mg) (T:TopC K x C) (W:Wy K C CP l) (N:T6 K ns Cs)
  (hc:cls x=C) (hp:cls "PlanError"=CP) (hn:ns.map cls=Cs) (hl:l.map (·.1)=Cs) (hb:l.map (·.2)=zj j) (hj:j<11) (hx:x∈ns):Xf K base cls ns (cls x) j:=Lm T.mb (Jj X G T.ns T.ex T.mb).2 W N hc hp hn hl hb hj hx
end
end J
section
namespace L2
open PySem PySem.Spec PyProof.Rows
section
variable {prog:aH}{w:b9}{A:aW}{E:ae->ah->Prop}{s:ah}{it d:ai}{i n ep:Nat}{o:Obj}{es:Array DictEntry}
end
end L2
namespace J
open PySem L2
def keysOf:List D->Option (List gy)
 | []=>some []
 | d::r=>(wt d).bind fun k=>(keysOf r).map (k::·)
def V7:D->Option (List gy)
 | .tuple ds=>keysOf ds
 | _=>none
def unF:List (D×D)->List (D×D)
 | (.none,_)::r=>r
 | l=>l
def T7 (ds:List (D×D)):Bool:=!ds.isEmpty && ds.all fun kv=>(V7 kv.1).isSome
section
variable {c:C}{a b e k:aR}{ga gb g gk:au->R D}{pos p apos:Pos}{x:Str}
def inT (neg:Bool):D->D->R D
 | k,.dict ds=>match V7 k with
  | some _=>if T7 (unF ds)=true then .ok (.bool (if neg then !(wu (unF ds) k).isSome else (wu (unF ds) k).isSome)) else .no
  | none=>.no
 | _,_=>.no
end
end J
namespace J
open PySem L2
section
variable {c:C}{tg l k v e:aR}{g gk gv:au->R D}{pos:Pos}
end
end J
namespace L2
open PySem PySem.Spec PyProof.Rows
end L2
namespace J
open PySem L2
def AO:List D->Option (List Int)
 | []=>some []
 | .int b::r=>(AO r).map (b::·)
 | _::_=>none
theorem GP {ds:List D}:∀ {bs:List Int},AO ds=some bs->ds=bs.map ed:=by
 induction ds with
 | nil=>intro bs h;cases h;rfl
 | cons d r ih =>
  intro bs h
  cases d with
  | int b =>
   have h:(AO r).map (b::·)=some bs:=h
   cases hr:AO r with
   | none=>rw [hr] at h;cases h
   | some z=>rw [hr] at h;cases h;rw [ih hr];rfl
  | _=>cases h
end J
namespace J
open PySem L2
end J
namespace J
open PySem L2
end J
namespace J
open PySem L2
def rS (i:Nat) (ρ:au):R D:=Mv ρ i
def rB (i:Nat) (ρ:au):R D:=Ip ρ i
def kI (n:Int) (_:au):R D:=.ok (.int n)
def kB (b:Bool) (_:au):R D:=.ok (.bool b)
def kN (_:au):R D:=.ok .none
def kT (_:au):R Bool:=.ok true
theorem Yw (i:Nat) (ρ:au):rS i ρ=Mv ρ i:=id rfl
theorem Wp (i:Nat) (ρ:au):rB i ρ=Ip ρ i:=id rfl
theorem Yx (n:Int) (ρ:au):kI n ρ=.ok (.int n):=id rfl
theorem Yy (b:Bool) (ρ:au):kB b ρ=.ok (.bool b):=id rfl
theorem Yz (ρ:au):kN ρ=.ok .none:=id rfl
end J
end
section
namespace L2
open PySem PySem.Spec PyProof.Rows
section
variable {X:Cx}{tg:aR}
end
end L2
namespace J
open PySem L2
section
variable {c:C}{tg a b d:aR}{p pos:Pos}{gs:au->R (List D)}
end
end J
end
namespace L2
open PySem PySem.Spec PyProof.Rows
section
open Builtin Builtin.ObjectAttr
inductive kj (h:br) (bmB:List ae) (nms:List Str):List ae->Prop
 | base:kj h bmB nms bmB
 | own {A:ai}{c0:ae}{dd:Option ai}{cd:ClassData}{sl:Array (Option ae)}{mA:Str->Option ae}{tl:List ae} :
   h.get? A=some { cls:=c0,dict:=dd,data:=.cls cd,slots:=sl }->h.Ns cd.ns mA->(∀ n∈nms,mA n=none)->kj h bmB nms tl->kj h bmB nms (.ref A::tl)
theorem kj.ownTail {h:br}{bmB tl:List ae}{nms:List Str} (hi:("__init__" : Str)∈nms) (T:kj h bmB nms tl):OwnTail h bmB tl:=by
 induction T with
 | base=>exact .base
 | own a b c _ ih=>exact .own a b (c _ hi) ih
theorem kj.keeps {h h':br}{bmB tl:List ae}{nms:List Str} (T:kj h bmB nms tl) (hk:∀ b o,h.get? b=some o->h'.get? b=some o):kj h' bmB nms tl:=by
 induction T with
 | base=>exact .base
 | own a b c _ ih=>exact .own (hk _ _ a) (b.keeps hk) c ih
theorem kj.hasType {h:br}{bmB tl:List ae}{nms:List Str} (T:kj h bmB nms tl) {X:String}{b:Bool} (hb:bmB.contains (.type X)=b):tl.contains (.type X)=b:=by
 induction T with
 | base=>exact hb
 | own _ _ _ _ ih=>rw [fU,ih];rfl
theorem kj.refuse {h:br}{bmB tl:List ae}{nms:List Str}{self:ae}{what:Str} (T:kj h bmB nms tl) (hp:refuseLoop self what bmB=pure ()):refuseLoop self what tl=pure ():=by
 induction T with
 | base=>exact hp
 | own _ _ _ _ ih=>rw [refuseLoop_ref];exact ih
section
variable {M:zC}{A:aW}{E:ae->ah->Prop}{h:br}{g:Array Iq}{d:Nw}{t:Nat}{os:OsState}
theorem wA {bmB tl:List ae}{nms:List Str}{name:Str}{y:Option ae}{Q:Option ae->ah->Prop} (hm:name∈nms) (T:kj h bmB nms tl) (hrest:RQ bmB name=pure y) (hq:Q y ⟨h,g,d,t,os⟩) :
  av M A (RQ tl name) Q E ⟨h,g,d,t,os⟩:=by
 induction T with
 | base=>rw [hrest];exact aj hq
 | own hA hN hni _ ih =>
  rw [lookupAlong_cons]
  refine aa (wpAny_classOwn_cls hA hN ?_)
  rw [hni _ hm]
  exact ih
variable {nm q:Str}{C N x:ai}{bs bm bmB:List ae}{hdct:Bool}{sn:List Str}{sub:List ae}{ab:Bool}{col:Option Bool}{dd:Option ai}{k0 k1 k2 k3 k5:Option ae}{B newId initId sa owner:String}{nms:List Str}{name:Str}{v:ae}{mN:Str->Option ae}
theorem pZ {y:Option ae}{Q:Option ae->ah->Prop}
  (hC:h.get? C=some (fY nm q C N bs bm hdct sn sub ab col dd k0 k1 k2 k3 k5 newId)) (hn:h.Ns N mN) (hm:name∈nms) (T:kj h bmB nms bm) (hbm:mroOf (.type B)=pure bmB) (hB:iT (.type B) name=pure y)
  (hq:Q (match mN name with | some v=>some v | none=>y) ⟨h,g,d,t,os⟩):av M A (iT (.ref C) name) Q E ⟨h,g,d,t,os⟩:=by
 have hrest:RQ bmB name=pure y:=by rw [typeLookup_eq,hbm] at hB;exact hB
 rw [typeLookup_eq]
 refine aa (wpAny_mroOf_exc hC ?_)
 rw [lookupAlong_cons]
 refine aa (wpAny_classOwn_exc hC hn ?_)
 cases hv:mN name with
 | some v=>rw [hv] at hq;exact aj hq
 | none=>rw [hv] at hq;exact wA hm T hrest hq
theorem MF {o:Obj}{nameV:ae}{Q:Unit->ah->Prop} (SF:ID B bmB sa owner) (T:kj h bmB nms bm)
  (hC:h.get? C=some (fY nm q C N bs bm hdct sn sub ab col dd k0 k1 k2 k3 k5 newId)) (hx:h.get? x=some o) (hc:o.cls=.ref C) (hq:Q () ⟨h,g,d,t,os⟩) :
  av M A (ug sa ⟨[.ref x,nameV,v],[]⟩) Q E ⟨h,g,d,t,os⟩:=by
 have hcB:(c6 C::bm).contains (.type owner)=true:=by rw [fU,T.hasType SF.hasOwner,yz]
 have ha:=SF.args (.ref x) nameV v
 simp only [ug,SF.kind,SF.split]
 refine aa ?_
 ·unfold uR
  repeat (first | (with_reducible refine e8 hx ?_;rw [hc]) | (with_reducible refine k9 hC ?_;rw [hcB]) | wp_step)
  cases hsig:Manifest.signature? sa with
  | none=>exact aj hq
  | some sig =>
   simp only [NO,hsig] at ha
   have h2:Bind.checkArgs sa sig ⟨[.ref x,nameV,v],[]⟩=pure ():=ha
   show av M A (Bind.checkArgs sa sig ⟨[.ref x,nameV,v],[]⟩) Q E _
   rw [h2];exact aj hq
end
section
variable {prog:aH}{w:b9}{A:aW}{E:ae->ah->Prop}{h:br}{g:Array Iq}{d:Nw}{t:Nat}{os:OsState}
variable {nm q:Str}{C N x:ai}{bs bm bmB:List ae}{sn:List Str}{sub:List ae}{ab:Bool}{col:Option Bool}{dd:Option ai}{k0 k1 k2 k3 k5:Option ae}{B newId initId sa owner:String}{nms:List Str}{name:Str}{v:ae}{mN:Str->Option ae}
theorem EM {tk:Tok}{o:Obj}{Q:Fin->ah->Prop} (SF:ID B bmB sa owner) (T:kj h bmB nms bm)
  (hC:h.get? C=some (fY nm q C N bs bm true sn sub ab col dd k0 k1 k2 k3 k5 newId)) (hn:h.Ns N mN) (hm:name∈nms) (hna:mN name=none)
  (hB:iT (.type B) name=pure none) (hx:h.get? x=some o) (hc:o.cls=.ref C) (hnc:∀ c,o.data≠.cls c) (hdn:o.dict=none)
  (hq:∀ h' tk',h'.get? x=some { cls:=o.cls,dict:=some h.objs.size,data:=o.data,slots:=o.slots }->(∀ b ob,b≠x->h.get? b=some ob->h'.get? b=some ob)->h'.Ns1 h.objs.size (fun y=>if y=name then some v else none)->Q (.done (.ret .none)) ⟨h',g,d,tk',os⟩) :
  av (aG prog w) A (ir.«object.__setattr__» ⟨[.ref x,.str name tk,v],[]⟩) Q E ⟨h,g,d,t,os⟩:=by
 have hpass:=T.refuse (SF.passes (.ref x))
 unfold ir.«object.__setattr__»
 repeat (first | rw [refuse_eq] | (rw [refuseLoop_ref,hpass]) | (with_reducible refine e8 hx ?_;rw [hc]) | with_reducible refine wpAny_mroOf_exc hC ?_ | (with_reducible refine pZ hC hn hm T SF.mro hB ?_;rw [hna]) | wp_step)
 rw [hdn,if_neg (by simp [typeHasDict])]
 split
 ·rename_i hcd
  cases hcd
 split
 ·rename_i c hcd
  exact absurd hcd (hnc c)
 ·have hx₁:(h.push { cls:=.type "dict",data:=.dict #[] }).get? x=some o:=ag _ hx
  have hxs:x≠h.objs.size:=aO (ax hx)
  refine aa (wpAny_alloc' ?_)
  refine aa (wpAny_update' hx₁ ?_)
  refine aj ?_
  have hgd:((h.push { cls:=.type "dict",data:=.dict #[] }).update x fun o=>{ cls:=o.cls,dict:=some h.objs.size,data:=o.data,slots:=o.slots }).get? h.objs.size
    = some { cls:=.type "dict",data:=.dict #[] } :=
   (M1 _ _ _ _ hxs.symm).trans (NU rfl rfl)
  have hnd:((h.push { cls:=.type "dict",data:=.dict #[] }).update x fun o=>{ cls:=o.cls,dict:=some h.objs.size,data:=o.data,slots:=o.slots }).Ns h.objs.size (fun _=>none) :=
   ⟨_,#[],_,hgd,rfl,fun e he=>absurd he (by simp),fun _=>rfl⟩
  show av _ _ (storeInDict h.objs.size (.str name tk) name v) _ _ _
  unfold storeInDict newKeyGuard
  refine aa (aj (aa (wpAny_nsSet1 (Heap.Ns1.of_empty hnd) fun h' hn' hs=>?_)))
  obtain ⟨oD,esD,epD,hoD,hdD,hcD⟩:=hn'.count (Within.cons name v Within.nil)
  refine aa (wpAny_lookBehind hoD (by rw [hdD];exact pastItsLine_dict (c7 hcD (by rw [cc,gC,FO];omega))) ?_)
  wp_walk
  refine hq h' _ ?_ (fun b ob hbx hb=>?_) hn'
  ·refine (hs.2 x hxs).trans (fV _ hx₁ ?_)
   have hfr:=(Heap.get?_some_iff.mp hx).2
   obtain ⟨oc,od,odt,osl⟩:=o
   cases odt<;>first | rfl | exact hfr
  ·exact (hs.2 b (aO (ax hb))).trans ((M1 _ _ _ _ hbx).trans (ag _ hb))
theorem GQ {o:Obj}{Q:Unit->ah->Prop} (SF:ID B bmB sa owner) (T:kj h bmB nms bm)
  (hC:h.get? C=some (fY nm q C N bs bm true sn sub ab col dd k0 k1 k2 k3 k5 newId)) (hn:h.Ns N mN) (hs:("__setattr__" : Str)∈nms) (hns:mN "__setattr__"=none) (hm:name∈nms) (hna:mN name=none)
  (hB:iT (.type B) name=pure none) (hx:h.get? x=some o) (hc:o.cls=.ref C) (hnc:∀ c,o.data≠.cls c) (hdn:o.dict=none)
  (hq:∀ h' tk',h'.get? x=some { cls:=o.cls,dict:=some h.objs.size,data:=o.data,slots:=o.slots }->(∀ b ob,b≠x->h.get? b=some ob->h'.get? b=some ob)->h'.Ns1 h.objs.size (fun y=>if y=name then some v else none)->Q () ⟨h',g,d,tk',os⟩) :
  av (aG prog w) A (setAttr (.ref x) name v) Q E ⟨h,g,d,t,os⟩:=by
 have f3:=SF.slot.bind (.ref x)
 unfold setAttr callSpecial? specialOf
 repeat (any_goals (first | assumption | (with_reducible refine e8 hx ?_;rw [hc]) | (with_reducible refine pZ hC hn hs T SF.mro SF.slot.lookup ?_;rw [hns]) | wp_step))
 refine nW SF.slot.plain SF.entry (MF SF T hC hx hc (EM SF T hC hn hm hna hB hx hc hnc hdn fun h' tk' a1 a2 a3=>?_))
 repeat (any_goals (first | assumption | wp_step))
 exact hq h' tk' a1 a2 a3
end
end
section
section
variable {prog:aH}{w:b9}{A:aW}{E:ae->ah->Prop}{h:br}{g:Array Iq}{d:Nw}{t:Nat}{os:OsState}
variable {nm q:Str}{C N:ai}{bs bm bmB:List ae}{hdct:Bool}{sn:List Str}{sub:List ae}{ab:Bool}{col:Option Bool}{dd:Option ai}{k0 k1 k2 k3 k5:Option ae}{B newId initId:String}
theorem zk (F:uU B newId initId bmB) (T:OwnTail h bmB bm) {mN:Str->Option ae}{bP:List ae}{fI:ai}{oI:Obj}{Q:Fin->ah->Prop}
  (hC:h.get? C=some (fY nm q C N bs bm hdct sn sub ab col dd k0 k1 k2 k3 k5 newId)) (hn:h.Ns N mN) (hi:mN "__init__"=some (.ref fI))
  (hfI:h.get? fI=some oI) (hfc:oI.cls=.type "function")
  (hq:∀ h' e,uy h h' e (.ref C) bP ->
   av (aG prog w) A (call (.ref fI) (.ref e::bP)) (fun r s'=>r=.none/\Q (.done (.ret (.ref e))) s') E ⟨h',g,d,t,os⟩) (hrest:bP.length<=sizeLine:=by size_fits) :
  av (aG prog w) A (ir.«type.__call__» ⟨.ref C::bP,[]⟩) Q E ⟨h,g,d,t,os⟩:=by
 repeat (first | with_reducible refine e8 hC ?_ | with_reducible refine wpAny_madeBy_exc hC ?_ | wp_step)
 refine codeAny_call_builtin_code (nX _ F.quiet) (wpAny_check_new_subT F T hC ?_)
 refine codeAny_exc_new_subT F T hC ?_ hrest
 show av _ _ _ _ _ _
 have hC₁:=ag { cls:=.ref C,data:=.fields #[.ref h.objs.size,.none,.none,.none,.bool false,.none] }
  (ag { cls:=.type "tuple",data:=.seq bP.toArray } hC)
 have hfI₁:=ag { cls:=.ref C,data:=.fields #[.ref h.objs.size,.none,.none,.none,.bool false,.none] }
  (ag { cls:=.type "tuple",data:=.seq bP.toArray } hfI)
 have hn₁:((h.push { cls:=.type "tuple",data:=.seq bP.toArray }).push { cls:=.ref C,data:=.fields #[.ref h.objs.size,.none,.none,.none,.bool false,.none] }).Ns N mN :=
  let ⟨o,es,ep,e,r⟩:=hn;⟨o,es,ep,ag _ (ag _ e),r⟩
 have hget:((h.push { cls:=.type "tuple",data:=.seq bP.toArray }).push
   { cls:=.ref C,data:=.fields #[.ref h.objs.size,.none,.none,.none,.bool false,.none] }).get? (h.objs.size + 1)=some
   { cls:=.ref C,data:=.fields #[.ref h.objs.size,.none,.none,.none,.bool false,.none] }:=by heap_get
 have hcC:(c6 C::bm).contains (.ref C)=true:=by simp
 have T₁:=T.keeps (h':=(h.push { cls:=.type "tuple",data:=.seq bP.toArray }).push { cls:=.ref C,data:=.fields #[.ref h.objs.size,.none,.none,.none,.bool false,.none] })
  fun b o e=>ag _ (ag _ e)
 unfold uR
 repeat (first | with_reducible refine e8 hget ?_ | (with_reducible refine k9 hC₁ ?_;rw [hcC]) | wp_step)
 show av _ _ (iT (.ref C) _) _ _ _
 refine wpAny_typeLookup_tail hC₁ hn₁ T₁ F.mroIs F.init.lookup ?_
 rw [hi]
 refine dH (aa ?_)
 unfold bindSpecial
 refine aa (m9 (T:="function") ⟨_,hfI₁,hfc⟩ ?_)
 rw [if_pos (by decide)]
 refine aj (aa (bh (hq _ (h.objs.size + 1) ⟨fun b o hb=>ag _ (ag _ hb),uw (kL _),h.objs.size,hget,uw (az _),?_⟩) (fun r s' hr=>?_) fun _ _ x=>x))
 ·exact ag _ (NU rfl rfl)
 ·obtain ⟨rfl,hQ⟩:=hr
  wp_walk
  exact hQ
theorem Jk (F:uU B newId initId bmB) (T:OwnTail h bmB bm) {mN:Str->Option ae}{bP:List ae}{fI:ai}{oI:Obj}{Q:ae->ah->Prop}
  (hC:h.get? C=some (fY nm q C N bs bm hdct sn sub ab col dd k0 k1 k2 k3 k5 newId)) (hn:h.Ns N mN) (hi:mN "__init__"=some (.ref fI))
  (hfI:h.get? fI=some oI) (hfc:oI.cls=.type "function")
  (hq:∀ h' e,uy h h' e (.ref C) bP ->
   av (aG prog w) (A.under (.builtin "type.__call__" ⟨.ref C::bP,[]⟩)) (call (.ref fI) (.ref e::bP)) (fun r s'=>r=.none/\Q (.ref e) s') E ⟨h',g,d,t,os⟩) (hrest:bP.length<=sizeLine:=by size_fits) :
  av (aG prog w) A (call (.ref C) bP) Q E ⟨h,g,d,t,os⟩:=by
 have f1:=tc_lookup
 have f2:=tc_bind (.ref C)
 have hT:(⟨h,g,d,t,os⟩:ah).TypeIs (.ref C) "type":=⟨_,hC,rfl⟩
 refine qD (vN ?_)
 show av _ _ (callAny (.ref C) _) _ _ _
 repeat (any_goals (first | assumption | with_reducible refine e8 hC ?_ | wp_step))
 refine ⟨rfl,?_⟩
 refine codeAny_call_builtin_at (nX _ (by decide +kernel)) entry_typeCall (wpAny_check_type_call_sub hC (zk (hrest:=hrest) F T hC hn hi hfI hfc fun h' e hm=>?_))
 exact hq h' e hm
end
section
variable {M:zC}{A:aW}{E:ae->ah->Prop}{env:Env}
variable {nm q:Str}{C N:ai}{bs bm:List ae}{hdct:Bool}{sn:List Str}{sub:List ae}{ab:Bool}{col:Option Bool}{dd:Option ai}{k0 k1 k2 k3 k5:Option ae}{newId:String}
theorem oU {s:ah}{x:Sem ae}{Q:Flow->ah->Prop} (hbase:bm.contains (.type "BaseException")=true) (hh:A.handled=none)
  (h:av M A x (fun v s₁=>∃ e dx tt sl,v=.ref e/\s₁.heap.get? C=some (fY nm q C N bs bm hdct sn sub ab col dd k0 k1 k2 k3 k5 newId) /\
   s₁.heap.get? e=some { cls:=.ref C,dict:=dx,data:=.fields #[.ref tt,.none,.none,.none,.bool false,.none],slots:=sl }/\E (.ref e) s₁) E s) :
  av M A (raiseStmt env (some x) none) Q E s:=by
 have hcB:(c6 C::bm).contains (.type "BaseException")=true:=by rw [fU,hbase,yz]
 unfold raiseStmt
 refine aa (bh h (fun v s₁ h₁=>?_) fun _ _ x=>x)
 obtain ⟨e,dx,vs,sl,rfl,hC,he,hE⟩:=h₁
 obtain ⟨hp,g,d,tk,os⟩:=s₁
 repeat (first | with_reducible refine e8 he ?_ | with_reducible refine e8 hC ?_ | (with_reducible refine k9 hC ?_;rw [hcB]) | wp_step)
 exact wpAny_raiseNew_none hh hE
end
section
variable {prog:aH}{w:b9}{A:aW}{E:ae->ah->Prop}{s:ah}{env:Env}
variable {nm q:Str}{C N:ai}{bs bm bmB:List ae}{hdct:Bool}{sn:List Str}{sub:List ae}{ab:Bool}{col:Option Bool}{dd:Option ai}{k0 k1 k2 k3 k5:Option ae}{B newId initId:String}
theorem GR (F:uU B newId initId bmB) {mN:Str->Option ae}{x:Str}{np cpos pos:Pos}{args:List aR}{fI:ai}{oI:Obj}{Q:Flow->ah->Prop}
  (hbase:bm.contains (.type "BaseException")=true) (hh:A.handled=none) (hplain:(dL cpos (aw args env)).any (·.1)=false) (hi:mN "__init__"=some (.ref fI)) (hfc:oI.cls=.type "function")
  (h:av (aG prog w) A (cG (.Name x np) env) (fun f s₁=>f=.ref C/\av (aG prog w) A (evalArgs (.ref C) true (dL cpos (aw args env)) [])
   (fun a s₂=>a.kw=[]/\a.pos.length<=sizeLine/\s₂.heap.get? C=some (fY nm q C N bs bm hdct sn sub ab col dd k0 k1 k2 k3 k5 newId)/\s₂.heap.Ns N mN/\OwnTail s₂.heap bmB bm/\s₂.heap.get? fI=some oI /\
    ∀ h' e,uy s₂.heap h' e (.ref C) a.pos->av (aG prog w) (A.under (.builtin "type.__call__" ⟨.ref C::a.pos,[]⟩)) (call (.ref fI) (.ref e::a.pos)) (fun r s'=>r=.none/\s'.heap.get? C=some (fY nm q C N bs bm hdct sn sub ab col dd k0 k1 k2 k3 k5 newId)/\(∃ dx tt sl,s'.heap.get? e=some { cls:=.ref C,dict:=dx,data:=.fields #[.ref tt,.none,.none,.none,.bool false,.none],slots:=sl })/\E (.ref e) s') E { s₂ with heap:=h' }) E s₁) E s) :
  av (aG prog w) A (exec (.Raise (some (.Call (.Name x np) args [] cpos)) none pos) env) Q E s:=by
 rw [arm_exec_Raise]
 first
  | refine aa (dG (oU (C:=C) (nm:=nm) (q:=q) (N:=N) (bs:=bs) (bm:=bm) (hdct:=hdct) (sn:=sn) (sub:=sub) (ab:=ab) (col:=col) (dd:=dd) (k0:=k0) (k1:=k1) (k2:=k2) (k3:=k3) (k5:=k5) (newId:=newId) hbase hh (aa (bh (Cg (bh h (fun f s₁ h₁=>?_) fun _ _ x=>x)) (fun v s₃ h₃=>aa (dG (aj h₃))) fun _ _ x=>x))))
  | (simp only [evalOpt,Option.map];refine aa (dG (oU (C:=C) (nm:=nm) (q:=q) (N:=N) (bs:=bs) (bm:=bm) (hdct:=hdct) (sn:=sn) (sub:=sub) (ab:=ab) (col:=col) (dd:=dd) (k0:=k0) (k1:=k1) (k2:=k2) (k3:=k3) (k5:=k5) (newId:=newId) hbase hh (aa (bh (Cg (bh h (fun f s₁ h₁=>?_) fun _ _ x=>x)) (fun v s₃ h₃=>aa (dG (aj h₃))) fun _ _ x=>x)))))
  | (refine aa (dG (oU (C:=C) (nm:=nm) (q:=q) (N:=N) (bs:=bs) (bm:=bm) (hdct:=hdct) (sn:=sn) (sub:=sub) (ab:=ab) (col:=col) (dd:=dd) (k0:=k0) (k1:=k1) (k2:=k2) (k3:=k3) (k5:=k5) (newId:=newId) hbase hh ?_));refine aa (bh (Cg (bh h (fun f s₁ h₁=>?_) fun _ _ x=>x)) (fun v s₃ h₃=>aa (dG (aj h₃))) fun _ _ x=>x))
 obtain ⟨rfl,h₁⟩:=h₁
 unfold IE
 refine aa (dH (bh h₁ (fun a s₂ h₂=>aa (dG ?_)) fun _ _ x=>x))
 obtain ⟨apos,akw⟩:=a
 obtain ⟨hkw,hlen,hC,hn,T,hfI,h₂⟩:=h₂
 obtain rfl:akw=[]:=hkw
 obtain ⟨hp,g,d,tk,os⟩:=s₂
 simp only [hplain]
 refine aa (wpAny_keeperOf_exc hC ?_)
 refine aa (Jk (hrest:=hlen) F T hC hn hi hfI hfc fun h' e hm=>bh (h₂ h' e hm) (fun r s' hr=>?_) fun _ _ x=>x)
 obtain ⟨rfl,hC',⟨dx,vs,sl,he⟩,hE⟩:=hr
 refine ⟨rfl,aa (dH (wpAny_point (aj ?_)))⟩
 exact ⟨e,dx,vs,sl,rfl,hC',he,hE⟩
end
end
section
structure Q2 (h:br) (fI:ai):Prop where
 ex:∃ (oI:Obj) (fd:dE) (p1 p2 p3 p4:Pos),h.get? fI=some oI/\oI.cls=.type "function"/\oI.data=.func fd/\h.CodeRec fd.code fd.qualname/\fd.scope.isCoroutine=false/\fd.scope.isGenerator=false/\fd.scope.kind=.function /\
  fd.scope.names=[(("self" : Str),rT),(("number" : Str),rT)]/\fd.body=.stmts [.Assign [.Attribute (.Name "self" p1) "number" p2] (.Name "number" p3) p4]/\∀ (s:ah) (e v:ae),(∀ b o,h.get? b=some o->s.heap.get? b=some o)->yv s fd ⟨[e,v],[]⟩ [("self",e),("number",v)]
section
variable {prog:aH}{w:b9}{A:aW}{E:ae->ah->Prop}{s:ah}
variable {nm q:Str}{C N e fI:ai}{bs bm bmB:List ae}{sn:List Str}{sub:List ae}{ab:Bool}{col:Option Bool}{dd:Option ai}{k0 k1 k2 k3 k5:Option ae}{B newId initId sa owner:String}{nms:List Str}{v:ae}{mN:Str->Option ae}
theorem MG {oe:Obj}{base:br}{Q:ae->ah->Prop} (I:Q2 base fI) (kb:∀ b o,base.get? b=some o->s.heap.get? b=some o) (hroom:A.depth<jE) (hlim:s.heap.NoLimit) (SF:ID B bmB sa owner) (T:kj s.heap bmB nms bm)
  (hC:s.heap.get? C=some (fY nm q C N bs bm true sn sub ab col dd k0 k1 k2 k3 k5 newId)) (hn:s.heap.Ns N mN) (hs:("__setattr__" : Str)∈nms) (hns:mN "__setattr__"=none) (hm:("number" : Str)∈nms) (hna:mN "number"=none)
  (hB:iT (.type B) "number"=pure none) (hx:s.heap.get? e=some oe) (hc:oe.cls=.ref C) (hnc:∀ c,oe.data≠.cls c) (hdn:oe.dict=none)
  (hq:∀ h' tk' D,h'.get? e=some { cls:=oe.cls,dict:=some D,data:=oe.data,slots:=oe.slots }->(∀ b ob,b≠e->s.heap.get? b=some ob->h'.get? b=some ob)->Q .none { s with heap:=h',toks:=tk' }) :
  av (aG prog w) A (call (.ref fI) [.ref e,v]) Q E s:=by
 obtain ⟨oI,fd,p1,p2,p3,p4,ho,_,hd,hcd,hco,hgen,hk,hsc,hbody,hbind⟩:=I.ex
 have cd':s.heap.CodeRec fd.code fd.qualname:=by
  obtain ⟨c,oc,vs,tq,a1,a2,a3⟩:=hcd
  exact ⟨c,oc,vs,tq,a1,kb _ _ a2,a3⟩
 refine qD (codeAny_call_def hroom (kb _ _ ho) hd hlim cd' hbody (hbind s (.ref e) v kb) (by rw [hsc];decide) (by
  intro y hy
  rw [hsc]
  rcases List.mem_cons.mp hy with z | z
  ·rw [z];rfl
  ·rw [List.mem_singleton.mp z];rfl) (fun h₀ hns₀ keep=>?_) hco hgen hk)
 have l1:(callEnv fd s.heap.objs.size fI).kindOf "number"=some .local:=show fd.scope.names.lookup ("number" : Str)=_ by rw [hsc];rfl
 have l2:(callEnv fd s.heap.objs.size fI).kindOf "self"=some .local:=show fd.scope.names.lookup ("self" : Str)=_ by rw [hsc];rfl
 refine D_ (plainObj_wpAny_Assign_Attribute (z_ (xp hk l1 hns₀ (v:=v) rfl (z_ (xp hk l2 hns₀ (v:=.ref e) rfl ?_)))))
 refine GQ SF (T.keeps keep) (keep _ _ hC) (hn.keeps keep) hs hns hm hna hB (keep _ _ hx) hc hnc hdn fun h' tk' a1 a2 _=>?_
 exact oF (hq h' tk' _ a1 fun b ob hb eb=>a2 b ob hb (keep b ob eb))
end
section
variable {M:zC}{A:aW}{E:ae->ah->Prop}{s:ah}
theorem Jl {base h:br}{env:Env}{outer:List Env}{L e t:ai}{C:ae}{dx:Option ai}{sl:Array (Option ae)}{Q:Unit->ah->Prop}
  (hfr:A.frames=some (env::outer)) (hf:env.frame=some L) (hkb:base.StaysIn h) (hl:h.FunFrames base (env::outer)) (kp:∀ b o,h.get? b=some o->s.heap.get? b=some o) (new:h.get? e=none) (he:s.heap.get? e=some { cls:=C,dict:=dx,data:=.fields #[.ref t,.none,.none,.none,.bool false,.none],slots:=sl })
  (hQ:∀ h',Ij base outer e C (.ref t) h'->s.heap.UpToSlots h'->Q () { s with heap:=h' }):av M A (NJ env (.ref e)) Q E s:=by
 have fresh:∀ b,h.get? b=none->base.get? b=none:=fun b hb=>by
  cases hq:base.get? b with
  | none=>rfl
  | some o'=>have:=hkb b o' hq;rw [hb] at this;cases this
 refine wpAny_leaving_firstW (a0:=.ref t) hfr (hl.of_keeps fun b o hb _=>⟨o,kp b o hb,rfl⟩) hf he (fun b o hb=>kp b o (hkb b o hb)) (fresh e new) rfl rfl rfl fun h' hL=>?_
 obtain ⟨k1,⟨_,_,k2⟩,k3,k4⟩:=hL
 exact hQ h' ⟨k1,fresh e new,k2,k3⟩ k4
end
end
section
structure MH (x:Str) (C:ai) (mg:Str->Option ae) (base:br):Prop where
 bound:mg x=some (.ref C)
 obj:∃ nm q N bs bm sn sub ab col dd k0 k1 k2 k3 k5 mN fI,base.get? C=some (fY nm q C N bs bm true sn sub ab col dd k0 k1 k2 k3 k5 "ValueError.__new__")/\base.Ns N mN/\mN "__init__"=some (.ref fI)/\mN "__setattr__"=none/\mN "number"=none /\
  kj base [.type "ValueError",.type "Exception",.type "BaseException",.type "object"] ["__init__","__setattr__","number"] bm/\Q2 base fI
section
variable {P:aH}{w:b9}{K:a9}{mg:Str->Option ae}{base:br}{N:List Str}{qual:Str}{scope:eD}{f:ai}{cd:ae}{A:aW}{outer:List Env}{s:ah}{H:Hp}{E:XK}
theorem Cy {pins:List (ai×Obj)}{σ:St}{H1:Hp}{s1:ah}{h':br}{tk':Nat}{ea C t:ai}{dx:Option ai}{sl:Array (Option ae)} (I:bI (gE (kg P w) P w K mg base N qual scope f cd A outer s H E) pins σ H1 s1)
  (kp:∀ b o,s1.heap.get? b=some o->h'.get? b=some o) (new:s1.heap.get? ea=none) (he:h'.get? ea=some { cls:=.ref C,dict:=dx,data:=.fields #[.ref t,.none,.none,.none,.bool false,.none],slots:=sl }) (q:E (.ref C) none H1):(gE (kg P w) P w K mg base N qual scope f cd A outer s H E).xe (.ref ea) { s1 with heap:=h',toks:=tk' }:=by
 let X:=gE (kg P w) P w K mg base N qual scope f cd A outer s H E
 let B:=yW s1.heap (pI X.stack)
 have hin:∀ env∈X.stack,∀ a,env.frame=some a->a∈pI X.stack:=fun env he a hf=>Ep he hf
 have stB:B.StaysIn s1.heap:=fun b o e=>uN _ e
 have nS:∀ b,b∉pI X.stack->∀ o,s1.heap.get? b=some o->B.get? b=some o:=fun b n o e=>ud _ e n
 show av _ X.A (NJ X.env (.ref ea)) _ _ _
 refine Jl (s:={ s1 with heap:=h',toks:=tk' }) (base:=B) (outer:=outer) (L:=X.env.locals) I.ok.frames rfl stB (E6 I.stack hin) kp new he fun h2 fl up=>?_
 have st2:=fl.1
 have bl:∀ b o,s.heap.get? b=some o->b∉pI outer->b∉pI X.stack:=fun b o e n z=>by
  rcases List.mem_cons.mp (I.stkSub b z) with y | y
  ·exact absurd (ax e) (by rw [y];exact Nat.not_lt.mpr I.ok.above)
  ·exact n y
 have noex:∀ b:ai,b∉X.ex:=fun b z=>absurd (show b∈([] : List ai) from z) (by simp)
 have cov:∀ b u,H1 b=some u->∃ o,B.get? b=some o:=fun b u e=>by
  have hb:b∉pI X.stack:=fun z=>by have:=I.stkFree b z;rw [e] at this;cases this
  obtain ⟨o,k⟩:=Gk I.hok e
  exact ⟨o,nS b hb o k⟩
 refine ⟨ea,C,t,H1,B,rfl,I.os,I.bare,⟨fl,cov,fun b o e n hb=>?_,fun b o e hb=>?_,⟨fun b o e n hb hx'=>?_,fun b o e n hb hx'=>?_,fun b o e n _=>I.base.free b o e n (noex b),fun b o e _=>?_,I.base.tups,I.base.frzs,I.base.tbls⟩,fun b u e=>?_⟩,q⟩
 ·exact nS b (bl b o e hb) o (I.base.keep b o e n hb (noex b))
 ·obtain ⟨o',k⟩:=I.base.there b o e (noex b)
  exact ⟨o',nS b (bl b o e hb) o' k⟩
 ·exact st2 b o (nS b (bl b o e hb) o (I.base.keep b o e n hb (noex b)))
 ·obtain ⟨sl,k⟩:=I.base.slot b o e n hb (noex b)
  obtain ⟨_,o',k1,k2⟩:=dI I.funs hb
  rw [k] at k1;cases k1
  obtain ⟨sl',k3⟩:=up b _ (kp _ _ k) k2
  exact ⟨sl',k3⟩
 ·obtain ⟨o',k⟩:=I.base.there b o e (noex b)
  by_cases hb:b∈pI outer
  ·obtain ⟨_,o2,k1,_⟩:=dI fl.2.2.1 hb
   exact ⟨o2,k1⟩
  ·exact ⟨o',st2 b o' (nS b (bl b o e hb) o' k)⟩
 ·refine (I.hok b u e).stay (fun c o hc k=>?_) (fun _ q=>q) fun _ _ q=>q
  have hcs:c∉pI X.stack:=fun z=>by
   have:=I.stkFree c z
   rcases hc with y | y
   ·rw [y,e] at this;cases this
   ·rw [y] at this;cases this
  exact st2 c o (nS c hcs o k)
theorem MI:iT (.type "ValueError") "number"=pure none:=by rw [FU,vU];kernel_rfl
theorem MJ {x:Str}{np cpos pos:Pos}{e0:aR}{C:ai}{ta:TA} (O:MH x C mg base) (hr:(gE (kg P w) P w K mg base N qual scope f cd A outer s H E).A.depth + 5<jE)
  (hg:Gl (gE (kg P w) P w K mg base N qual scope f cd A outer s H E) x) (ha:PA (gE (kg P w) P w K mg base N qual scope f cd A outer s H E) [e0] ta)
  (he:aw [e0] (gE (kg P w) P w K mg base N qual scope f cd A outer s H E).env=[(false,cG e0 (gE (kg P w) P w K mg base N qual scope f cd A outer s H E).env)]:=by rfl)
  (hdb:(x == ("__debug__" : Str))=false:=by decide) :
  PS (gE (kg P w) P w K mg base N qual scope f cd A outer s H E) (.Raise (some (.Call (.Name x np) [e0] [] cpos)) none pos) (fun D σ H1=>ta σ H1 fun vs H2=>vs.length=1/\E (.ref C) none H2):=by
 intro pins s1 σ H1 D I h
 obtain ⟨nm,q,Nn,bs,bm,sn,sub,ab,col,dd,k0,k1,k2,k3,k5,mN,fI,hC,hN,hi,hsa,hnu,T,IF⟩:=O.obj
 obtain ⟨oI,_,_,_,_,_,hoI,hfc,_⟩:=id IF.ex
 refine GR (C:=C) (nm:=nm) (q:=q) (N:=Nn) (bs:=bs) (bm:=bm) (hdct:=true) (sn:=sn) (sub:=sub) (ab:=ab) (col:=col) (dd:=dd) (k0:=k0) (k1:=k1) (k2:=k2) (k3:=k3) (k5:=k5) (fI:=fI) (oI:=oI)
  A9 (mN:=mN) (T.hasType PySem.F.excBase_ValueError.hasBase) (I.ok.hd rfl) (by rw [he];rfl) hi hfc (vX I hg O.bound ⟨rfl,?_⟩ hdb)
 have hx:=ha cpos pins s1 σ H1 _ I h
 rw [he] at hx ⊢
 refine uf (fF hx fun us s2 ⟨vs,H2,I2,r2,z,qE⟩=>?_)
 have kb:∀ b o,base.get? b=some o->s2.heap.get? b=some o:=I2.bk
 have hl:=r2.length
 rw [z] at hl
 match us,hl with
 | [u],_ =>
  refine ⟨rfl,by show 1<=sizeLine;rw [FO];omega,kb _ _ hC,hN.keeps kb,(T.ownTail (by simp)).keeps kb,kb _ _ hoI,fun h' ea hm=>?_⟩
  obtain ⟨t,ht,_,_⟩:=hm.there
  have kh:∀ b o,base.get? b=some o->h'.get? b=some o:=fun b o e=>hm.keeps b o (kb b o e)
  refine MG (s:={ s2 with heap:=h' }) IF kh ?_ (I2.nolimit.keeps hm.keeps) PySem.F.store_ValueError (T.keeps kh) (kh _ _ hC) (hN.keeps kh) (by simp) hsa (by simp) hnu MI ht rfl (fun c z=>nomatch z) rfl fun h2 tk2 Dx e1 e2=>?_
  ·have hw:∀ r,Kx (.builtin "type.__call__" ⟨.ref C::r,[]⟩)<=5:=fun r=>by
    have e:Kx (.builtin "type.__call__" ⟨.ref C::r,[]⟩)=Kx (.builtin "type.__call__" ⟨[.ref 0],[]⟩):=rfl
    rw [e]
    decide +kernel
   exact oJ (Nz (hw [u]) _) hr
  ·have kp:∀ b o,s2.heap.get? b=some o->h2.get? b=some o:=fun b o e=>e2 b o (fun z=>by rw [z,hm.new] at e;cases e) (hm.keeps b o e)
   exact ⟨rfl,kp _ _ (kb _ _ hC),⟨some Dx,t,#[],e1⟩,Cy (s1:=s2) (tk':=tk2) I2 kp hm.new e1 qE⟩
end
end
end L2
namespace J
open PySem L2
section
open PySem.W (nsIn nsOkIn codeIn fnOf)
def YA:bH->Nat->bH
 | .ClassDef (body:=b) ..,j=>b.getD j (.Pass ⟨0,0,0,0⟩)
 | _,_=>.Pass ⟨0,0,0,0⟩
theorem YB {K:a9}{h:br}{N:ai}{mg:Str->Option ae}{n:Str}{v:ae} (X:K.In h) (G:h.Ns N mg) (e:nsIn K N n=some (some v)):mg n=some v:=by
 obtain ⟨o,es,ep,ho,hd,_,hf⟩:=G
 unfold gj at e
 split at e
 ·rename_i c d es' n' sl q
  have:=X _ _ q
  rw [ho] at this
  cases this
  cases hd
  split at e
  ·rename_i he
   rw [<- hf]
   unfold nsFind findBy
   rw [<- LQ,he]
   cases e
   rfl
  ·split at e<;>cases e
 ·cases e
structure YC (K:a9) (x:Str) (C:ai) (st:bH):Prop where
 ns:nsIn K bF x=some (some (.ref C))
 own:∀ {h:br}{mg:Str->Option ae},K.In h->h.Ns bF mg->MH x C mg h
 mb:cu K C (.type "BaseException")=some true
 ox:∀ {h:br},K.In h->∃ bm,Et h C bm/\∀ v,(v == c6 C)=false->cu K C v=some true->bm.contains v=true
theorem topN {K:a9}{x:Str}{C CP fI T0 Nn NP:ai}{st:bH}{nm qn nmP qnP fq:Str}{bs bsP mroP subP sub:List ae}{sn snP:List Str}{ab abP hdP delP:Bool}{col colP:Option Bool}{dd dP od dT an:Option ai}{k0 k1 k2 k3 k5:Option ae}{c0 kV doc pm cdv ct cT:ae}{slP slF slT:Array (Option ae)}{nT:Nat}{p1 p2 p3 p4:Pos}{cN cM:ae}{dN dM:Option ai}{esN esM:Array DictEntry}{epN epM:Nat}{slN slM:Array (Option ae)}
  (a1:nsIn K bF x=some (some (.ref C))) (a4:cu K C (.type "BaseException")=some true)
  (a2:K.lookup C=some ⟨.type "type",dd,.cls ⟨nm,bs,[.ref C,.ref CP,.type "ValueError",.type "Exception",.type "BaseException",.type "object"],Nn,qn,true,sn,sub,ab,col,false⟩,#[k0,k1,k2,k3,some (.builtin "ValueError.__new__"),k5]⟩)
  (a3:K.lookup CP=some ⟨c0,dP,.cls ⟨nmP,bsP,mroP,NP,qnP,hdP,snP,subP,abP,colP,delP⟩,slP⟩)
  (b1:nsIn K Nn "__init__"=some (some (.ref fI))) (b2:nsIn K Nn "__setattr__"=some none) (b3:nsIn K Nn "number"=some none)
  (c1:nsIn K NP "__init__"=some none) (c2:nsIn K NP "__setattr__"=some none) (c3:nsIn K NP "number"=some none)
  (d1:K.lookup fI=some ⟨.type "function",od,.func (fnOf "__init__" fq (lD st) (i3 st) (ar st) (.ref T0) kV doc pm an cdv ct),slF⟩)
  (d2:K.lookup T0=some ⟨cT,dT,.seq #[.none] nT,slT⟩) (d3:codeIn K cdv fq=true)
  (g1:K.lookup Nn=some ⟨cN,dN,.dict esN epN,slN⟩) (g2:K.lookup NP=some ⟨cM,dM,.dict esM epM,slM⟩) (g3:(esN.toList.all fun e=>match e.key with | .str _ _=>true | _=>false)=true) (g4:(esM.toList.all fun e=>match e.key with | .str _ _=>true | _=>false)=true)
  (f1:i3 st=[.Assign [.Attribute (.Name "self" p1) "number" p2] (.Name "number" p3) p4]) (f2:(ar st).names=[(("self" : Str),rT),(("number" : Str),rT)])
  (f3:(ar st).isCoroutine=false) (f4:(ar st).isGenerator=false) (f5:(ar st).kind=.function)
  (f6:∀ e v,∃ k,Rz (fnOf "__init__" fq (lD st) (i3 st) (ar st) (.ref T0) kV doc pm an cdv ct) ⟨[e,v],[]⟩=NC (.ref T0) >>= k/\k (some #[.none])=pure [(("self" : Str),e),(("number" : Str),v)]):YC K x C st:=by
 have e1:nsOkIn K Nn=true:=by unfold NV;rw [g1];show esN.all _=true;rw [<- z9];exact g3
 have e2:nsOkIn K NP=true:=by unfold NV;rw [g2];show esM.all _=true;rw [<- z9];exact g4
 refine ⟨a1,fun {h mg} X G=>⟨jo X G a1,nm,qn,Nn,bs,_,sn,sub,ab,col,dd,k0,k1,k2,k3,k5,h.nsMap Nn,fI,X _ _ a2,.of_isNs (mY X e1),?_,eT X e1 b2,eT X e1 b3,?_,⟨_,_,p1,p2,p3,p4,X _ _ d1,rfl,rfl,uQ X d3,f3,f4,f5,f2,congrArg FuncBody.stmts f1,fun s e v kb=>?_⟩⟩,a4,fun {h} X=>⟨_,⟨⟨nm,qn,Nn,bs,true,sn,sub,ab,col,dd,k0,k1,k2,k3,k5,_,X _ _ a2⟩,rfl⟩,fun v nv hv=>?_⟩⟩
 ·exact YB X (.of_isNs (mY X e1)) b1
 ·refine .own (X _ _ a3) (.of_isNs (mY X e2)) (fun n hn=>?_) .base
  rcases List.mem_cons.mp hn with z | hn
  ·rw [z];exact eT X e2 c1
  rcases List.mem_cons.mp hn with z | hn
  ·rw [z];exact eT X e2 c2
  ·rw [List.mem_singleton.mp hn];exact eT X e2 c3
 ·obtain ⟨k,k1,k2⟩:=f6 e v
  exact BindsTo.of_defaults rfl (kb _ _ (X _ _ d2)) rfl k1 k2
 ·unfold cu gD at hv
  rw [a2] at hv
  have:(c6 C::[c6 CP,.type "ValueError",.type "Exception",.type "BaseException",.type "object"]).contains v=true:=by simpa using hv
  rw [fU,nv,vT] at this
  exact this
def qT (x:Str) (gs:au->R (List D)):au->R Fl:=fun ρ=>(gs ρ).bind fun ds=>if ds.length=1 then .ex x none else .no
theorem dp5 {k:Nat}{A:aW} (hr:jH k A):A.depth + 5<jE:=by have:=hr.dp;omega
section
variable {P:aH}{w:b9}{K:a9}{mg:Str->Option ae}{base:br}{N:List Str}{qual:Str}{scope:eD}{f:ai}{cd:ae}{A:aW}{outer:List Env}{s:ah}{H:Hp}{E:XK}{cls:Str->ai}
theorem DI {x:Str}{np cpos pos:Pos}{e0:aR}{gs:au->R (List D)} (R0:MH x (cls x) mg base) (hr:(gE (kg P w) P w K mg base N qual scope f cd A outer s H E).A.depth + 5<jE)
  (hg:Gl (gE (kg P w) P w K mg base N qual scope f cd A outer s H E) x) (ha:Ex ⟨gE (kg P w) P w K mg base N qual scope f cd A outer s H E,cls,E⟩ [e0] gs)
  (he:aw [e0] (gE (kg P w) P w K mg base N qual scope f cd A outer s H E).env=[(false,cG e0 (gE (kg P w) P w K mg base N qual scope f cd A outer s H E).env)]:=by rfl)
  (hdb:(x == ("__debug__" : Str))=false:=by decide) :
  JS ⟨gE (kg P w) P w K mg base N qual scope f cd A outer s H E,cls,E⟩ (.Raise (some (.Call (.Name x np) [e0] [] cpos)) none pos) (qT x gs):=.of fun ρ=>by
 refine zM (MJ R0 hr hg (ha ρ) he hdb) fun D σ H1 h_1=>?_
 obtain ⟨H0,Hs0,la,Hs,f,q⟩:=h_1
 replace q:n5 K cls E H0 Hs0 la D (qT x gs ρ):=q
 refine ⟨H0,Hs0,la,Hs,f,?_⟩
 unfold qT at q
 cases hr:gs ρ with
 | no=>rw [hr] at q;exact q
 | ex y n=>rw [hr] at q;exact fun H' Hs' s=>q H' Hs' (f.st.trans s)
 | ok ds =>
  rw [hr,bind_ok] at q
  intro vs H2 Hs2 s2 r2
  by_cases hl:ds.length=1
  ·rw [if_pos hl] at q
   exact ⟨by rw [r2.length];exact hl,q H2 Hs2 (f.st.trans s2)⟩
  ·rw [if_neg hl] at q;exact q.elim
end
end
section
section
variable {c:C}{e:aR}{g:au->R D}{pos p:Pos}
def T8 (k:Nat):D->R D
 | .list ds=>T3 k ds
 | _=>.no
def AQ (k:Nat) (g:au->R D) (gl gh:au->R (Option Int)):au->R D:=fun ρ=>(g ρ).bind fun x=>(gl ρ).bind fun l=>(gh ρ).bind fun h=>(Dz x l h).bind (T8 k)
theorem Q3 (k:Nat) {j:Nat}{lo hi:Option aR}{gl gh:au->R (Option Int)}{p2 p3:Pos} (hk:k<=100) (he:JB c e g) (hl:JO c lo gl) (hh:JO c hi gh):JE c (.BinOp (.Subscript e (.Slice lo hi none p2) p) .Mult (.Constant (.int k) j p3) pos) (AQ k g gl gh):=.of fun ρ=>um (Oa Om (G4 KH (he ρ) (hl ρ) (hh ρ)) Af) fun σ H Q h_2=>by
 obtain ⟨H0,Hs0,la,Hs,f,q⟩:=h_2
 refine one f q fun d v H1 Hs1 e1 s1 f1 r1=>?_
 unfold AQ at q
 rw [e1,bind_ok] at q
 refine SC f1 (q.on s1 (q':=fun _=>True) fun _ _=>trivial) fun l H2 Hs2 e2 s2 f2=>?_
 rw [e2,bind_ok] at q
 refine SC f2 (q.on (s1.trans s2) (q':=fun _=>True) fun _ _=>trivial) fun h H3 Hs3 e3 s3 f3=>?_
 rw [e3,bind_ok] at q
 have r3:=(r1.step s2).step s3
 cases d with
 | list ds =>
  obtain ⟨a,vs,rfl,qa,ra⟩:=r3.list f3.st.sub
  rw [show Dz (.list ds) l h=.ok (.list (sB ds l h)) from rfl,bind_ok] at q
  rw [show T8 k (.list (sB ds l h))=if (sB ds l h).length<=10 then .ok (.list (bt k (sB ds l h)).flatten) else .no from rfl] at q
  by_cases hlen:(sB ds l h).length<=10
  ·rw [if_pos hlen] at q
   have rc:=EE ra l h
   have hv:(zb vs l h).length<=10:=by rw [rc.length];exact hlen
   refine ⟨a,vs,rfl,qa,fun p hp=>?_⟩
   have s4:dk H3 Hs3 (upd H3 p (.lst (zb vs l h))) Hs3:=.mine f3.st.sub hp
   refine ⟨p,k,zb vs l h,rfl,rfl,aU,by omega,by omega,?_,fun p2 hp2=>?_⟩
   ·have:(zb vs l h).length * k<=10 * 100:=Nat.mul_le_mul hv hk
    exact bA (c8 (c7 this (by decide)))
   ·refine q _ _ _ (s1.trans (s2.trans (s3.trans (s4.trans (.new s4.sub hp2))))) (.list (.of aU) ?_)
    exact (rc.rep k).same (dk.new s4.sub hp2).sh
  ·rw [if_neg hlen] at q;exact q.elim
 | tuple ds=>exact q.elim
 | none=>exact q.elim
 | bool _=>exact q.elim
 | int _=>exact q.elim
 | str _=>exact q.elim
 | dict _=>exact q.elim
end
end
end J
section
namespace L2
open PySem PySem.Spec PyProof.Rows
theorem T9 {ns:List Int}{its:List ae} (h:du (ns.map V.int) its):AllInts its.toArray/\numsOf its=ns:=by
 induction ns generalizing its with
 | nil=>cases h;exact ⟨fun v hv=>absurd hv (by simp),rfl⟩
 | cons n r ih =>
  cases h with
  | cons a b =>
   obtain ⟨t,rfl⟩:=a
   obtain ⟨h1,h2⟩:=ih b
   refine ⟨fun v hv=>?_,?_⟩
   ·rcases (by simpa using hv:v=.int n t\/_) with z | z
    ·exact ⟨n,t,z⟩
    ·exact h1 v (by simpa using z)
   ·show n::numsOf _=_
    rw [h2]
theorem Cz {X:Cx} (hc:X.calm=true):kc X (.builtin "sum") (fun xs H Q=>∃ p,∃ ns:List Int,xs=[.ref p]/\pJ X.K H p (ns.map V.int)/\Q (.int ns.sum) H):=by
 intro pins s σ H xs us Q I r h
 obtain ⟨p,ns,rfl,hq,q⟩:=h
 obtain ⟨u,rfl,rx⟩:=ms r
 cases rx
 obtain ⟨its,r',pl,hl⟩:=I.list hq
 obtain ⟨ha,hn⟩:=T9 r'
 obtain ⟨xs,hx⟩:=ha.items
 have hl:=pl.isList
 rw [hx] at hl
 have hs:preSum (numAt xs) xs.size=ns.sum:=by
  rw [<- hn,show its=its.toArray.toList from rfl,hx,nums_intItems,preSum_eq,Ik (by simp)]
 refine sum_intListG (I.ok.hd hc) hl fun h' tk t' hk=>?_
 rw [hs]
 exact ⟨.int ns.sum,H,I.kept (t':=tk) hk,⟨t',rfl⟩,q⟩
end L2
namespace L2
open PySem PySem.Spec PyProof.Rows
end L2
namespace J
open PySem L2
def Ta:D->R D
 | .list ds=>match AO ds with
  | some ns=>.ok (.int ns.sum)
  | none=>.no
 | _=>.no
theorem Wq {X:Cx} (hc:X.calm=true):NH X (.builtin "sum") (jQ Ta):=by
 refine v3 (fun d c n=>?_) fun pins s σ H x u Q Hs d d' I ru sub rx hd q=>?_
 ·unfold Ta
  split<;>(try split)<;>exact fun h=>by cases h
 ·unfold Ta at hd
  split at hd
  ·split at hd
   ·rename_i ns hs
    cases hd
    obtain ⟨a,vs,rfl,qa,ra⟩:=rx.list sub
    rw [GP hs] at ra
    rw [Ew ra] at qa
    exact Cz hc pins s σ H _ _ Q I (.cons ru .nil) ⟨a,ns,rfl,qa,q _ H Hs (.refl sub) (.int _)⟩
   ·cases hd
  ·cases hd
end J
end
namespace J
open PySem L2
section
end
end J
namespace L2
open PySem PySem.Spec PyProof.Rows
section
section
variable {prog:aH}{w:b9}{A:aW}{R:uO->ah->Prop}{s:ah}
end
end
end L2
namespace J
open PySem L2
section
section
variable {c:C}{pos:Pos}{x:Str}{kx vx iter tg:aR}{ifs:List aR}{scope:eD}{N':List Str}{nt:Nat}{ix:List Nat}{gi:au->R (List D)}{gt:au->R Bool}{gk gv:au->R D}
end
end
end J
section
namespace L2
open PySem PySem.Spec PyProof.Rows
end L2
namespace J
open PySem L2
section
variable {c:C}{pos:Pos}{x:Str}{kx vx iter tg:aR}{ifs:List aR}{scope:eD}{N':List Str}{nt:Nat}{ix:List Nat}{gi:au->R (List D)}{gt:au->R Bool}{gk gv:au->R D}
end
end J
end
namespace J
open PySem L2
section
end
section
end
section
def q06 (p:HO->Bool) (H Hs:Hp):Hp:=fun b=>match Hs b,H b with
 | some o,_=>some o
 | none,some o=>if p o then some o else none
 | none,none=>none
def q0h (p:HO->Bool) (H Hs Hs1:Hp):Hp:=fun b=>match Hs b,H b with
 | none,some o=>if p o then none else Hs1 b
 | _,_=>Hs1 b
section
variable {p:HO->Bool}{H Hs H' Hs' Hs1:Hp}{K:a9}
end
inductive YD (p:HO->Bool) (K:a9) (cls:Str->ai) (E:XK) (ρ:au) (r:R (List D)) (σ:St) (H:Hp) (Q:List V->Hp->Prop):Prop
 | mk (H0 Hs0:Hp) (la:Nat->Option ai) (Hs:Hp) (f:Fr K H0 Hs0 la ρ σ H Hs) (q:Fin K cls E H Hs r fun d=>∀ v H' Hs',dk H Hs H' Hs'->RDs K (q06 p H' Hs') v d->Q v H'):YD p K cls E ρ r σ H Q
structure JL (p:HO->Bool) (c:C) (es:List aR) (g:au->R (List D)):Prop where of ::
 run:∀ ρ,PA c.X es (YD p c.X.K c.cls c.E ρ (g ρ))
section
variable {p:HO->Bool}{c:C}{e:aR}{es:List aR}{g:au->R D}{gs:au->R (List D)}{pos:Pos}
end
end
section
section
variable {p:HO->Bool}{c:C}{e:aR}{es:List aR}{g:au->R D}{gs:au->R (List D)}{pos spos pn apos cpos:Pos}{x:Str}
def Tb (i:Nat):au->R Fl:=fun ρ=>.ok (.nx ((clear2 ρ).set i (.ow2 [])))
theorem Wr (i:Nat) {pos':Pos} (hN:c.X.N.Nodup) (hi:c.X.N[i]?=some x:=by rfl) (hx:NY c.X.env.scope x:=by first | exact fu rfl | exact dS rfl)
  (hs:fh (.List [] pn) (some (.Name x pos')) spos.line c.X.env=pure false:=by rfl)
  (hf:c.X.fn x=true\/c.X.env.scope.names.lookup x=some .local:=by first | exact .inl rfl | exact .inr rfl | assumption) :
  JS c (.Assign [.Name x pos'] (.List [] pn) spos) (Tb i):=.of fun ρ=>by
 refine zM (uW hN hi hx (jk eL) hs hf) fun D σ H h_0=>?_
 obtain ⟨H0,Hs0,la,Hs,f,q⟩:=h_0
 replace q:n5 c.X.K c.cls c.E H0 Hs0 la D (Tb i ρ):=q
 obtain ⟨f,no2⟩:=f.clear2
 refine ⟨dU _,fun a n=>?_⟩
 have st:dk H Hs (upd H a (.lst [])) Hs:=.mine f.st.sub n
 have f':=f.step st
 have nx:∀ {j:Nat}{s:Sl},(∀ d,s≠.ow2 d)->((clear2 ρ).set i (.ow2 []))[j]?=some s->(clear2 ρ)[j]?=some s/\i≠j:=fun {j s} hs e=>by
  by_cases hj:i=j
  ·subst hj
   by_cases hi:i<(clear2 ρ).length
   ·rw [aB hi] at e;exact absurd (bL e).symm (hs _)
   ·rw [bT (by simpa using hi)] at e;cases e
  ·rw [am hj] at e;exact ⟨e,hj⟩
 refine q _ _ Hs ⟨f'.st,by simp [f'.len],fun j d h=>?_,fun j d h=>?_,fun j d h=>?_,fun j k d d' b h1 h2 h3 h4=>?_,f'.lh,fun j d h=>?_,fun j k d d' h1 h2=>?_⟩
 ·obtain ⟨h,hj⟩:=nx (fun _ z=>by cases z) h
  rw [am hj];exact f'.sh j d h
 ·obtain ⟨h,hj⟩:=nx (fun _ z=>by cases z) h
  rw [am hj];exact f'.ow j d h
 ·obtain ⟨h,hj⟩:=nx (fun _ z=>by cases z) h
  rw [am hj];exact f'.lk j d h
 ·obtain ⟨h1,hj⟩:=nx (fun _ z=>by cases z) h1
  obtain ⟨h2,hk⟩:=nx (fun _ z=>by cases z) h2
  rw [am hj] at h3
  rw [am hk] at h4
  exact f'.dj j k d d' b h1 h2 h3 h4
 ·by_cases hj:i=j
  ·subst hj
   by_cases hi:i<(clear2 ρ).length
   ·rw [aB hi] at h
    cases h
    refine ⟨a,[],aB (by rw [<- f'.len];exact hi),aU,List.nodup_cons.mpr ⟨by simp,.nil⟩,fun b hb=>?_,fun b hb k e hk=>?_,.nil⟩
    ·rw [List.mem_singleton.mp hb]
     exact ⟨f.st.sub.free n,f.st.all.free n⟩
    ·obtain ⟨hk,nk⟩:=nx (fun _ z=>by cases z) hk
     rw [am nk]
     intro z
     obtain ⟨b',o,k1,k2,_⟩:=f.ow k e hk
     rw [z] at k1
     cases k1
     rw [List.mem_singleton.mp hb,n] at k2;cases k2
   ·rw [bT (by simpa using hi)] at h;cases h
  ·rw [am hj] at h;exact (no2 j d h).elim
 ·by_cases hj:i=j
  ·by_cases hk:i=k
   ·exact hj.symm.trans hk
   ·rw [am hk] at h2;exact (no2 k d' h2).elim
  ·rw [am hj] at h1;exact (no2 j d h1).elim
end
end
end J
section
namespace L2
open PySem PySem.Spec PyProof.Rows
theorem MK {X:Cx}{tg iter:aR}{body:List bH}{wi:TI}{pos:Pos} (hi:PI X tg iter wi) (hs:∀ x,e6 iter X.env x=pure x:=by intro _;rfl):PS X (.For tg iter body [] pos) (fun _ σ H=>wi σ H fun _ _=>False):=by
 intro pins s σ H D I h
 refine wpAny_For (fF (hi pins s σ H _ I h) fun v s1 h1=>fF h1 fun itv s2 h2=>?_) hs
 obtain ⟨it,fp,tn,J,H2,e,I2,T,st2,f2,z⟩:=h2
 exact z.elim
end L2
namespace J
open PySem L2
def yJ (gi:au->R (List D)) (kt:D->au->R au) (gb:au->R Fl):au->R Fl:=fun ρ=>(gi ρ).bind fun ds=>sG kt gb ds ρ
theorem Ln {c:C}{iter tg:aR}{pos:Pos}{gi:au->R (List D)}{body:List bH}{kt:D->au->R au}{gbd:au->R Fl} (hc:c.X.calm=true) (hi:L3 c tg iter gi) (hi':L3 c.nox tg iter gi) (hg:JG c.nox tg kt) (hb:Gw c.nox body gbd) (hs:∀ x,e6 iter c.X.env x=pure x:=by intro _;rfl):JS c (.For tg iter body [] pos) (yJ gi kt gbd):=.of fun ρ=>by
 cases hr:gi ρ with
 | ok ds =>
  refine zM (qS hc hi' hg hb hs ρ) fun D σ H q=>?_
  unfold yJ at q
  unfold v7
  rw [hr] at q ⊢
  exact q
 | no =>
  refine zM (qS hc hi' hg hb hs ρ) fun D σ H q=>?_
  unfold yJ at q
  unfold v7
  rw [hr] at q ⊢
  exact q
 | ex x n =>
  refine zM (MK (hi ρ) hs) fun D σ H q=>?_
  obtain ⟨H0,Hs0,la,Hs,f,q⟩:=q
  unfold yJ at q
  rw [hr] at q
  refine ⟨H0,Hs0,la,Hs,f,?_⟩
  rw [hr]
  exact fun H' Hs' s=>q H' Hs' (f.st.trans s)
end J
end
namespace J
open PySem L2
section
section
variable {c:C}{e:aR}{g:au->R D}{pn cpos pos:Pos}
end
end
end J
section
namespace L2
open PySem PySem.Spec PyProof.Rows
inductive Wt (X:Cx) (CX:IN) (E:XK) (t:TA) (σ:St) (Q:VK) (v:V) (H1:Hp):Prop
 | mk (k:Nat) (f:ai) (fd:dE) (ps:List Str) (sp:Sp) (h0:v=.ref f) (F:uj X.prog X.w X.K X.mg X.base CX k f fd ps sp) (hr:jH k X.A) (hk:eE X.K (.ref f)=true) (hb:kQ X.K fd ps []) (q:KC sp [] E t σ H1 Q):Wt X CX E t σ Q v H1
theorem AR {X:Cx}{CX:IN}{E:XK}{fn e:aR}{es:List aR}{tf:TE}{t:TA}{pos:Pos} (hx:kd CX X E) (hfn:PE X fn tf) (ha:PA X (e::es) t)
  (hq:cG (.Call fn (e::es) [] pos) X.env=(do IE pos (<- cG fn X.env) [] (dL pos (aw (e::es) X.env)) (m6 pos (hV [] X.env))):=by rfl)
  (he:aw (e::es) X.env=(false,cG e X.env)::aw es X.env:=by rfl) (hpl:(dL pos (aw es X.env)).any (·.1)=false:=by rfl) :
  PE X (.Call fn (e::es) [] pos) (fun σ H Q=>tf σ H (Wt X CX E t σ Q)):=by
 intro pins s σ H Q I h
 rw [hq]
 refine aa (fF (hfn pins s σ H _ I h) fun u s0 hh=>?_)
 obtain ⟨v,H1,I1,r1,k,f,fd,ps,sp,rfl,F,hr,hk,hb,q⟩:=hh
 cases r1
 refine uP (h₀:=X.base) I1.ok.mod.kin hk (fF (ha pos pins s0 σ H1 _ I1 q) fun us s1 ⟨vs,H2,I2,r,q⟩=>⟨I2.kIn,?_⟩) he hpl
 exact Oh F hr hb .nil hx I2 r q
end L2
namespace J
open PySem L2
inductive p_ (c:C) (n j:Nat):List aR->List (List D->R D)->List ai->Prop
 | nil:p_ c n j [] [] []
 | cons {x:Str}{p:Pos}{F:List D->R D}{k:Nat}{f:ai}{fd:dE}{ps:List Str}{es:List aR}{Fs:List (List D->R D)}{as:List ai} (hf:uj c.X.prog c.X.w c.X.K c.X.mg c.X.base (kg c.X.prog c.X.w) k f fd ps (UE c.X.K c.cls n F)) (hm:c.X.mg x=some (.ref f)) (hk:eE c.X.K (.ref f)=true) (hb:kQ c.X.K fd ps []) (hj:k<=j) (hg:Gl c.X x) (hdb:(x == ("__debug__" : Str))=false) (r:p_ c n j es Fs as):p_ c n j (.Name x p::es) (F::Fs) (f::as)
structure Pk (c:C) (n j:Nat) (es:List aR) (Fs:List (List D->R D)):Prop where
 ex:∃ as,p_ c n j es Fs as
section
variable {c:C}{n j:Nat}{es:List aR}{Fs:List (List D->R D)}{x:Str}{p pos:Pos}
theorem ke:Pk c n j [] []:=⟨[],.nil⟩
theorem aP {F:List D->R D}{k:Nat} (G:Fn c.X.prog c.X.w c.X.K c.X.mg c.X.base c.cls x k n F) (r:Pk c n j es Fs) (hj:k<=j:=by decide) (hg:Gl c.X x:=by exact rfl) (hdb:(x == ("__debug__" : Str))=false:=by decide):Pk c n j (.Name x p::es) (F::Fs):=by
 obtain ⟨f,fd,ps,hf,hm,hk,hb⟩:=G.ex
 obtain ⟨as,h⟩:=r.ex
 exact ⟨f::as,.cons hf hm hk hb hj hg hdb h⟩
theorem wB {as:List ai} (h:p_ c n j es Fs as):PA c.X es (fun _ H Q=>Q (as.map V.ref) H):=by
 induction h with
 | nil=>exact eL
 | @cons x p F k f fd ps es Fs as hf hm hk hb hj hg hdb r ih=>exact XO (c9 (E8 (v:=.ref f) hg hm rfl hdb) ih) fun σ H Q q=>q
theorem xP {as:List ai} (h:p_ c n j es Fs as):as.length=Fs.length:=by
 induction h with
 | nil=>rfl
 | cons _ _ _ _ _ _ _ _ ih=>exact congrArg (· + 1) ih
inductive Q4 (c:C) (n j:Nat) (F:List D->R D) (f:ai):Prop
 | mk (k:Nat) (fd:dE) (ps:List Str) (hf:uj c.X.prog c.X.w c.X.K c.X.mg c.X.base (kg c.X.prog c.X.w) k f fd ps (UE c.X.K c.cls n F)) (hk:eE c.X.K (.ref f)=true) (hb:kQ c.X.K fd ps []) (hj:k<=j):Q4 c n j F f
theorem ML {as:List ai} (h:p_ c n j es Fs as):∀ {i:Nat}{F:List D->R D},Fs[i]?=some F->∃ f,as[i]?=some f/\Q4 c n j F f:=by
 induction h with
 | nil=>intro i F e;simp at e
 | @cons x p F k f fd ps es Fs as hf hm hk hb hj hg hdb r ih =>
  intro i F e
  cases i with
  | zero=>cases e;exact ⟨f,rfl,k,fd,ps,hf,hk,hb,hj⟩
  | succ i=>have q:=ih (i:=i) e;exact q
theorem p_.app {es':List aR}{Fs':List (List D->R D)}{as as':List ai} (h:p_ c n j es Fs as) (h':p_ c n j es' Fs' as'):p_ c n j (es++es') (Fs++Fs') (as++as'):=by
 induction h with
 | nil=>exact h'
 | cons a1 a2 a3 a4 a5 a6 a7 _ ih=>exact .cons a1 a2 a3 a4 a5 a6 a7 ih
def rK (Fs:List (List D->R D)) (n:Nat) (gi:au->R D) (gs:au->R (List D)) (ρ:au):R Fl:=(gi ρ).bind fun d=>match d with
 | .int k=>if 0<=k then (match Fs[k.toNat]? with
  | some F=>(gs ρ).bind fun ds=>if ds.length=n then (F ds).bind fun d=>.ok (.rt d) else .no
  | none=>.no) else .no
 | _=>.no
variable {e ie:aR}{gi:au->R D}{gs:au->R (List D)}{ess:List aR}
theorem tN {as:List ai}{ρ:au}{σ:St}{H H0 Hs0 Hs:Hp}{la:Nat->Option ai}{D':ui}{a:ai} (P:p_ c n j es Fs as) (hr:jH j c.X.A) (f:Fr c.X.K H0 Hs0 la ρ σ H Hs) (ha:H a=some (.lst (as.map V.ref))) (q:n5 c.X.K c.cls c.E H0 Hs0 la D' (rK Fs n gi gs ρ)) :
  TR c.X.K c.cls c.E ρ (gi ρ) σ H fun y H2=>Xu c.X.K (.ref a) y H2 (Wt c.X (kg c.X.prog c.X.w) c.E (Zb c.X.K c.cls c.E ρ (gs ρ)) σ D'.rt):=by
 refine sE f q fun d v H2 Hs2 e1 s1 f2 r1=>?_
 unfold rK at q
 rw [e1,bind_ok] at q
 cases r1 with
 | int k =>
  simp only at q
  by_cases hk:0<=k
  ·rw [if_pos hk] at q
   split at q
   ·rename_i F hF
    obtain ⟨g,h1,k',fd,ps,hf,hkp,hb,hj⟩:=ML P hF
    have hix:Im (as.map V.ref) k=some (.ref g):=by
     have:=qJ (xs:=as.map V.ref) (j:=k.toNat) (v:=V.ref g) (by rw [aT,h1];rfl)
     rwa [cH hk] at this
    refine ⟨a,as.map V.ref,k,.ref g,rfl,rfl,.of (s1.all _ _ ha),hix,k',g,fd,ps,_,rfl,hf,hr.mono hj,hkp,hb,H0,Hs0,la,Hs2,f2,?_⟩
    cases hg:gs ρ with
    | no=>rw [hg] at q;exact q.elim
    | ex y m=>rw [hg] at q;exact fun H3 Hs3 s3=>q H3 Hs3 (f2.st.trans s3)
    | ok ds =>
     rw [hg,bind_ok] at q
     intro vs H3 Hs3 s3 r3
     have f3:=f2.step s3
     by_cases hn:ds.length=n
     ·rw [if_pos hn] at q
      show UE _ _ _ _ (vs++[]) _ _ _
      rw [c_]
      refine ⟨Hs3,ds,f3.st.sub,hn,r3,?_⟩
      cases hFd:F ds with
      | no=>rw [hFd] at q;exact q.elim
      | ex y m=>rw [hFd] at q;exact fun H4 Hs4 s4=>q H4 Hs4 (f3.st.trans s4)
      | ok d=>rw [hFd] at q;exact fun v H4 Hs4 s4 r4=>q v H4 Hs4 (f3.st.trans s4) r4
     ·rw [if_neg hn] at q;exact q.elim
   ·exact q.elim
  ·rw [if_neg hk] at q;exact q.elim
 | list _ _=>exact q.elim
 | none=>exact q.elim
 | bool _=>exact q.elim
 | str _=>exact q.elim
 | tuple _ _=>exact q.elim
 | dictK _ _=>exact q.elim
 | dictT _ _ _=>exact q.elim
 | dictF _ _ _=>exact q.elim
theorem tU {as:List ai} (h:p_ c n j es Fs as) (hl:Fs.length<=1000):(as.map V.ref).length<=sizeLine:=bA (c8 (by rw [aN,xP h];exact hl))
theorem q8 {lp sp rpos:Pos} (P:Pk c n j es Fs) (hr:jH j c.X.A) (hx:kd (kg c.X.prog c.X.w) c.X c.E) (hi:JE c ie gi) (ha:Ex c (e::ess) gs) (hl:Fs.length<=1000:=by decide) (hpx:qK ie:=by exact fun _ _=>rfl)
  (hq:cG (.Call (.Subscript (.List es lp) ie sp) (e::ess) [] pos) c.X.env=(do IE pos (<- cG (.Subscript (.List es lp) ie sp) c.X.env) [] (dL pos (aw (e::ess) c.X.env)) (m6 pos (hV [] c.X.env))):=by rfl)
  (he:aw (e::ess) c.X.env=(false,cG e c.X.env)::aw ess c.X.env:=by rfl) (hpl:(dL pos (aw ess c.X.env)).any (·.1)=false:=by rfl) :
  JS c (.Return (some (.Call (.Subscript (.List es lp) ie sp) (e::ess) [] pos)) rpos) (rK Fs n gi gs):=.of fun ρ=>by
 obtain ⟨as,P⟩:=P.ex
 refine zM (xC (AR hx (G5 lC (jk (wB P)) (hi ρ) hpx) (ha ρ) hq he hpl)) fun D σ H h=>?_
 obtain ⟨H0,Hs0,la,Hs,f,q⟩:=h
 exact ⟨tU P hl,fun a na=>tN P hr (f.step (.mine f.st.sub na)) aU q⟩
theorem Fr.forget {K:a9}{H0 Hs0 H Hs:Hp}{la:Nat->Option ai}{ρ:au}{σ:St} (f:Fr K H0 Hs0 la ρ σ H Hs) (i:Nat) (v:V):Fr K H0 Hs0 la (ρ.set i .no) (σ.set i (some v)) H Hs:=by
 have nx:∀ {j:Nat}{s:Sl},s≠.no->(ρ.set i .no)[j]?=some s->ρ[j]?=some s/\i≠j:=fun {j s} hs e=>by
  by_cases hj:i=j
  ·subst hj
   by_cases hi:i<ρ.length
   ·rw [aB hi] at e;exact absurd (bL e).symm hs
   ·rw [bT (by simpa using hi)] at e;cases e
  ·rw [am hj] at e;exact ⟨e,hj⟩
 refine ⟨f.st,by simp [f.len],fun j d h=>?_,fun j d h=>?_,fun j d h=>?_,fun j k d d' b h1 h2 h3 h4=>?_,f.lh,fun j d h=>?_,fun j k d d' h1 h2=>f.u2 j k d d' (nx (fun z=>by cases z) h1).1 (nx (fun z=>by cases z) h2).1⟩
 ·obtain ⟨h,hj⟩:=nx (fun z=>by cases z) h
  rw [am hj];exact f.sh j d h
 ·obtain ⟨h,hj⟩:=nx (fun z=>by cases z) h
  rw [am hj];exact f.ow j d h
 ·obtain ⟨h,hj⟩:=nx (fun z=>by cases z) h
  rw [am hj];exact f.lk j d h
 ·obtain ⟨h1,hj⟩:=nx (fun z=>by cases z) h1
  obtain ⟨h2,hk⟩:=nx (fun z=>by cases z) h2
  rw [am hj] at h3
  rw [am hk] at h4
  exact f.dj j k d d' b h1 h2 h3 h4
 ·obtain ⟨h,hj⟩:=nx (fun z=>by cases z) h
  obtain ⟨a,as,O⟩:=f.o2 j d h
  refine ⟨a,as,by rw [am hj];exact O.at_,O.ob,O.nd,O.out,fun b hb k e hk=>?_,O.inn⟩
  obtain ⟨hk,nk⟩:=nx (fun z=>by cases z) hk
  rw [am nk]
  exact O.dj b hb k e hk
def kY (i:Nat) (Fs:List (List D->R D)) (n:Nat) (gi:au->R D) (gs:au->R (List D)) (ρ:au):R Fl:=if i<ρ.length then rK Fs n gi gs (ρ.set i .no) else .no
theorem AS (i:Nat) {lp sp rpos py pz spos:Pos} (P:Pk c n j es Fs) (hr:jH j c.X.A) (hx:kd (kg c.X.prog c.X.w) c.X c.E) (hND:c.X.N.Nodup) (hi:JE c ie gi) (ha:Ex c (e::ess) gs) (hN:c.X.N[i]?=some x:=by rfl) (hlo:NY c.X.env.scope x:=by first | exact fu rfl | exact dS rfl)
  (hf:c.X.fn x=true\/c.X.env.scope.names.lookup x=some .local:=by first | exact .inl rfl | exact .inr rfl | assumption)
  (hv:NX c.X.env.scope x:=by first | exact fu rfl | exact dS (fu rfl) | exact dS (dS rfl)) (hd:(x == ("__debug__" : Str))=false:=by decide) (hcd:(x == ("__classdict__" : Str))=false:=by decide)
  (hl:Fs.length<=1000:=by decide) (hpx:qK ie:=by exact fun _ _=>rfl)
  (hsw:fh (.List es lp) (some (.Name x py)) spos.line c.X.env=pure false:=by rfl)
  (hq:cG (.Call (.Subscript (.Name x pz) ie sp) (e::ess) [] pos) c.X.env=(do IE pos (<- cG (.Subscript (.Name x pz) ie sp) c.X.env) [] (dL pos (aw (e::ess) c.X.env)) (m6 pos (hV [] c.X.env))):=by rfl)
  (he:aw (e::ess) c.X.env=(false,cG e c.X.env)::aw ess c.X.env:=by rfl) (hpl:(dL pos (aw ess c.X.env)).any (·.1)=false:=by rfl) :
  Gw c [.Assign [.Name x py] (.List es lp) spos,.Return (some (.Call (.Subscript (.Name x pz) ie sp) (e::ess) [] pos)) rpos] (kY i Fs n gi gs):=.of fun ρ=>by
 obtain ⟨as,P⟩:=P.ex
 refine VX (ij (uW hND hN hlo (jk (wB P)) hsw hf) (vY (xC (AR hx (G5 lC (mZ hN hv hd hcd) (hi (ρ.set i .no)) hpx) (ha (ρ.set i .no)) hq he hpl)))) fun D σ H h=>?_
 obtain ⟨H0,Hs0,la,Hs,f,q⟩:=h
 refine ⟨tU P hl,fun a na=>?_⟩
 have f1:=(f.step (.mine (o:=.lst (as.map V.ref)) f.st.sub na)).forget i (.ref a)
 replace q:n5 c.X.K c.cls c.E H0 Hs0 la D (kY i Fs n gi gs ρ):=q
 unfold kY at q
 by_cases hs:i<ρ.length
 ·rw [if_pos hs] at q
  exact ⟨_,aB (by rw [<- f.len];exact hs),tN P hr f1 aU q⟩
 ·rw [if_neg hs] at q;exact q.elim
theorem GS (i:Nat) {lp sp rpos py pz spos pw lq apos cpos epos:Pos}{es':List aR}{Fs':List (List D->R D)} (P:Pk c n j es Fs) (P':Pk c n j es' Fs') (hr:jH j c.X.A) (hx:kd (kg c.X.prog c.X.w) c.X c.E) (hND:c.X.N.Nodup) (hi:JE c ie gi) (ha:Ex c (e::ess) gs) (hN:c.X.N[i]?=some x:=by rfl) (hlo:NY c.X.env.scope x:=by first | exact fu rfl | exact dS rfl)
  (hf:c.X.fn x=true\/c.X.env.scope.names.lookup x=some .local:=by first | exact .inl rfl | exact .inr rfl | assumption)
  (hv:NX c.X.env.scope x:=by first | exact fu rfl | exact dS (fu rfl) | exact dS (dS rfl)) (hd:(x == ("__debug__" : Str))=false:=by decide) (hcd:(x == ("__classdict__" : Str))=false:=by decide)
  (hl:Fs.length + Fs'.length<=1000:=by decide) (hpx:qK ie:=by exact fun _ _=>rfl)
  (hsw:fh (.List es lp) (some (.Name x py)) spos.line c.X.env=pure false:=by rfl)
  (hbase:r_ (.Name x pw) "extend" c.X.env (cG (.Name x pw) c.X.env)=cG (.Name x pw) c.X.env:=by rfl)
  (hfew:((dL cpos (aw [.List es' lq] c.X.env)).all (fun x=>!x.1) && (m6 cpos (hV [] c.X.env)).all (fun x=>x.1.isSome)
   && decide ([Expr.List es' lq].length + ([] : List nN).length + (if ([] : List nN).isEmpty then 0 else 1)<30))=true:=by rfl)
  (hline:(apos.endLine == cpos.line)=true:=by rfl) (hst:aw [.List es' lq] c.X.env=(false,cG (.List es' lq) c.X.env)::aw [] c.X.env:=by rfl) (hplain:(dL cpos (aw [] c.X.env)).any (·.1)=false:=by rfl)
  (hs2:fh (.Call (.Attribute (.Name x pw) "extend" apos) [.List es' lq] [] cpos) none epos.line c.X.env=pure false:=by rfl)
  (hq:cG (.Call (.Subscript (.Name x pz) ie sp) (e::ess) [] pos) c.X.env=(do IE pos (<- cG (.Subscript (.Name x pz) ie sp) c.X.env) [] (dL pos (aw (e::ess) c.X.env)) (m6 pos (hV [] c.X.env))):=by rfl)
  (he:aw (e::ess) c.X.env=(false,cG e c.X.env)::aw ess c.X.env:=by rfl) (hpl:(dL pos (aw ess c.X.env)).any (·.1)=false:=by rfl) :
  Gw c [.Assign [.Name x py] (.List es lp) spos,.Expr (.Call (.Attribute (.Name x pw) "extend" apos) [.List es' lq] [] cpos) epos,.Return (some (.Call (.Subscript (.Name x pz) ie sp) (e::ess) [] pos)) rpos] (kY i (Fs++Fs') n gi gs):=.of fun ρ=>by
 obtain ⟨as,P⟩:=P.ex
 obtain ⟨bs,P'⟩:=P'.ex
 refine VX (ij (uW hND hN hlo (jk (wB P)) hsw hf) (ij (qI (yD dv jm jn xF (mZ hN hv hd hcd) (c9 (jk (wB P')) eL hst) hbase hfew hline hst hplain) hs2) (vY (xC (AR hx (G5 lC (mZ hN hv hd hcd) (hi (ρ.set i .no)) hpx) (ha (ρ.set i .no)) hq he hpl))))) fun D σ H h=>?_
 obtain ⟨H0,Hs0,la,Hs,f,q⟩:=h
 replace q:n5 c.X.K c.cls c.E H0 Hs0 la D (kY i (Fs++Fs') n gi gs ρ):=q
 unfold kY at q
 by_cases hs:i<ρ.length
 ·rw [if_pos hs] at q
  have hs':i<σ.length:=by rw [<- f.len];exact hs
  refine ⟨tU P (by omega),fun a na=>?_⟩
  refine ⟨_,aB hs',.inl ⟨rfl,_,.of aU⟩,tU P' (by omega),fun b nb=>?_⟩
  have hab:a≠b:=bc aU nb
  refine ⟨a,b,as.map V.ref,bs.map V.ref,rfl,rfl,by rw [a_ hab];exact aU,aU,?_,?_⟩
  ·have h1:=xP P
   have h2:=xP P'
   exact bA (c8 (by rw [aN,aN];omega))
  ·rw [<- iH]
   have st:dk H Hs (upd (upd (upd H a (.lst (as.map V.ref))) b (.lst (bs.map V.ref))) a (.lst ((as++bs).map V.ref))) Hs:=by
    have all:eg H (upd (upd (upd H a (.lst (as.map V.ref))) b (.lst (bs.map V.ref))) a (.lst ((as++bs).map V.ref))):=fun d u e=>by
     have hd:d≠a:=bc e na
     have e1:upd H a (.lst (as.map V.ref)) d=some u:=by rw [a_ hd];exact e
     rw [a_ hd,a_ (bc e1 nb)]
     exact e1
    exact ⟨all,.refl _,f.st.sub.trans all,fun _ _ _ _ z=>z⟩
   have f1:=(f.step st).forget i (.ref a)
   exact ⟨_,aB hs',tN (P.app P') hr f1 aU q⟩
 ·rw [if_neg hs] at q;exact q.elim
end
end J
namespace J
open PySem L2
theorem bE {c:C}{ss:List bH}:Gw c ss (fun _=>.no):=.of fun ρ pins s σ H D I h=>by
 obtain ⟨H0,Hs0,la,Hs,f,q⟩:=h
 exact q.elim
def Tc:=EB (fun i j=>decide (0<=j) && decide (j<=1000) && decide (i.natAbs<1000000)) fun i j=>.int (i ^ j.toNat)
theorem Wu {X:Cx}:zf X (eZ .Pow) Tc:=AC VA (fun i j h=>by
 simp only [aL,decide_eq_true_eq] at h
 exact ⟨h.1.1,by omega,by omega⟩) fun _ _ _=>.int _
end J
end
namespace Z
open PySem L2 J
section
def Td (y:Str):Option Nat:=if y="NoState" then some 1 else if y="NoWant" then some 2 else if y="NoBook" then some 0 else if y="NoRow" then some 4 else none
def kn:au->R Fl:=(cY (KU (cJ (ac (iX 1 [1] (qQ (rB 0)) kT (g2 (rB 0) (rB 1) (NG false))) aq) (jQ (iV fun bs=>bs.any id)))))
def eG:List D->R D:=cy 2 kn
def q9:au->R Fl:=(aC (ev (Mw (mF (gN (xK (rB 0) "str"))) (mF (gN (sx (kI 1) (cJ (ac (rB 0) aq) (jQ lS)) (kI 6) Uz Uz)))) (cY (kB false)) (fun ρ=>.ok (.nx ρ))) (cY (cJ (ac (iX 1 [] (qQ (rB 0)) kT (sx (fun _=>.ok (.str "a")) (rB 0) (fun _=>.ok (.str "z")) Uz Uz)) aq) (jQ (iV fun bs=>bs.all id)))))
def fD:List D->R D:=cy 1 q9
def d_:au->R Fl:=(aC (ev (Mw (mF (gN (xK (rB 0) "tuple"))) (mF (gN (cJ (ac (iX 1 [] (qQ (rB 0)) kT (da 1 fD (ac (rS 0) aq))) aq) (jQ (iV fun bs=>bs.all id)))))) (cY (kB false)) (fun ρ=>.ok (.nx ρ))) (cY (cJ (ac (iX 2 [] (SJ (ac (rS 0) (ac (uC (rB 0) (uo (kI 1)) uB) aq))) kT (g2 (rB 0) (rB 1) C6)) aq) (jQ (iV fun bs=>bs.all id)))))
def cw:List D->R D:=cy 1 d_
def jR:au->R Fl:=(cY (AB (da 1 cw (ac (rS 1) aq)) (cJ (ac (iX 1 [0] (qQ (rB 1)) kT (g2 (rB 0) (rB 1) (NG false))) aq) (jQ (iV fun bs=>bs.all id)))))
def cO:List D->R D:=cy 2 jR
def qU:au->R Fl:=(aC (ev (Mw (mF (gN (xK (rB 0) "int"))) (gN (xK (rB 0) "bool"))) (cY (kB false)) (fun ρ=>.ok (.nx ρ))) (cY (sx (rB 1) (rB 0) (rB 2) Uz Uz)))
def qV:List D->R D:=cy 3 qU
def o7:au->R Fl:=(aC (ev (Mw (mF (gN (xK (rB 1) "tuple"))) (gN (g2 (cJ (ac (rB 1) aq) (jQ lS)) (kI 6) (mz true)))) (cY (kB false)) (fun ρ=>.ok (.nx ρ))) (aC (Cu (rS 1) (rN 6 (dR (cL 2) (dR (cL 3) (dR (cL 4) (dR (cL 5) (dR (cL 6) (dR (cL 7) uq)))))))) (aC (ev (Mw (mF (gN (da 1 fD (ac (rS 2) aq)))) (mF (gN (da 3 qV (ac (rS 7) (ac (kI 0) (ac (kI 9) aq))))))) (cY (kB false)) (fun ρ=>.ok (.nx ρ))) (aC (ev (mF (gN (cJ (ac (iX 1 [0] (qQ (bq (ac (rS 3) (ac (rS 4) (ac (rS 5) (ac (rS 6) aq)))) .tuple)) kT (da 2 cO (ac (rS 1) (ac (rS 0) aq)))) aq) (jQ (iV fun bs=>bs.all id))))) (cY (kB false)) (fun ρ=>.ok (.nx ρ))) (cY (AB (da 2 eG (ac (rS 3) (ac (rS 4) aq))) (da 2 eG (ac (rS 5) (ac (rS 6) aq)))))))))
def o8:List D->R D:=cy 8 o7
def tV:au->R Fl:=(aC (ev (Mw (mF (gN (xK (rB 0) "tuple"))) (gN (g2 (cJ (ac (rB 0) aq) (jQ lS)) (kI 2) (mz true)))) (cY (kB false)) (fun ρ=>.ok (.nx ρ))) (aC (Cu (rS 0) (rN 2 (dR (cL 1) (dR (cL 2) uq)))) (aC (ev (Mw (mF (gN (da 1 cw (ac (rS 1) aq)))) (gN (g2 (cJ (ac (rB 1) aq) (jQ lS)) (kI 6) UA))) (cY (kB false)) (fun ρ=>.ok (.nx ρ))) (aC (ev (Mw (mF (gN (xK (rB 2) "tuple"))) (gN (g2 (cJ (ac (rB 2) aq) (jQ lS)) (kI 6) UA))) (cY (kB false)) (fun ρ=>.ok (.nx ρ))) (aC (ev (mF (gN (cJ (ac (iX 1 [1] (qQ (rB 2)) kT (da 2 o8 (ac (rS 1) (ac (rS 0) aq)))) aq) (jQ (iV fun bs=>bs.all id))))) (cY (kB false)) (fun ρ=>.ok (.nx ρ))) (cY (g2 (ww (xN 1 [] (qQ (rB 2)) kT (g2 (rB 0) (kI 0) bD))) (cJ (ac (rB 2) aq) (jQ lS)) (mz false))))))))
def mQ:List D->R D:=cy 3 tV
def mR:au->R Fl:=(aC (ev (Mw (mF (gN (xK (rB 1) "tuple"))) (gN (g2 (cJ (ac (rB 1) aq) (jQ lS)) (kI 2) (mz true)))) (cY (kB false)) (fun ρ=>.ok (.nx ρ))) (aC (Cu (rS 1) (rN 2 (dR (cL 2) (dR (cL 3) uq)))) (cY (AB (da 2 cO (ac (g2 (rB 0) (kI 0) bD) (ac (rS 2) aq))) (AB (da 2 cO (ac (g2 (rB 0) (kI 0) bD) (ac (rS 3) aq))) (da 2 eG (ac (rS 2) (ac (rS 3) aq))))))))
def kZ:List D->R D:=cy 4 mR
def jt:au->R Fl:=(ev (mF (gN (da 2 cO (ac (g2 (rB 0) (kI 0) bD) (ac (rS 1) aq))))) (sI "NoState" (ac (fun _=>.ok (.str "a state is a rising tuple of the book's facts, none twice")) aq)) (fun ρ=>.ok (.nx ρ)))
def iw:List D->R D:=cy 2 jt
def ko:au->R Fl:=(ev (mF (gN (da 2 kZ (ac (rS 0) (ac (rS 1) aq))))) (sI "NoWant" (ac (fun _=>.ok (.str "a want is a tuple of two states with nothing in common")) aq)) (fun ρ=>.ok (.nx ρ)))
def i4:List D->R D:=cy 2 ko
def fZ:au->R Fl:=(aC (ev (mF (gN (xK (rB 1) "str"))) (cY kN) (fun ρ=>.ok (.nx ρ))) (aC (v7 (qQ (g2 (rB 0) (kI 1) bD)) (cL 2) (ev (gN (g2 (g2 (rB 2) (kI 0) bD) (rB 1) (mz false))) (cY (rS 2)) (fun ρ=>.ok (.nx ρ)))) (cY kN)))
def cU:List D->R D:=cy 3 fZ
def qc:au->R Fl:=(aC (ev (mF (gN (da 1 mQ (ac (rS 0) aq)))) (sI "NoBook" (ac (fun _=>.ok (.str "a book is a tuple of facts and errands, each as the document tells")) aq)) (fun ρ=>.ok (.nx ρ))) (cY (rS 0)))
def cn:List D->R D:=cy 1 qc
def ju:au->R Fl:=(aC (eh (da 1 cn (ac (rS 0) aq))) (eh (da 2 iw (ac (rS 0) (ac (rS 1) aq)))))
def aZ:List D->R D:=cy 2 ju
def lT:au->R Fl:=(aC (eh (da 2 aZ (ac (rS 0) (ac (rS 1) aq)))) (eh (da 2 i4 (ac (rS 0) (ac (rS 2) aq)))))
def bj:List D->R D:=cy 3 lT
def Q5:au->R Fl:=(aC (eh (da 2 aZ (ac (rS 0) (ac (rS 1) aq)))) (fun _=>.no))
def GT:List D->R D:=cy 2 Q5
def Jm:au->R Fl:=(aC (eh (da 2 aZ (ac (rS 0) (ac (rS 1) aq)))) (fun _=>.no))
def EN:List D->R D:=cy 4 Jm
def AT:au->R Fl:=(aC (eh (da 3 bj (ac (rS 0) (ac (rS 1) (ac (rS 2) aq))))) (fun _=>.no))
def sK:List D->R D:=cy 3 AT
def xQ:au->R Fl:=(aC (eh (da 2 aZ (ac (rS 0) (ac (rS 1) aq)))) (fun _=>.no))
def tW:List D->R D:=cy 2 xQ
def AU:au->R Fl:=(aC (eh (da 2 aZ (ac (rS 0) (ac (rS 1) aq)))) (fun _=>.no))
def wC:List D->R D:=cy 4 AU
def v8:au->R Fl:=(aC (eh (da 3 bj (ac (rS 0) (ac (rS 1) (ac (rS 2) aq))))) (fun _=>.no))
def k_:List D->R D:=cy 5 v8
def Q6:au->R Fl:=(aC (fB 3 (da 3 k_ (ac (rS 0) (ac (rS 1) (ac (rS 2) aq))))) (fun _=>.no))
def GU:List D->R D:=cy 4 Q6
def md:au->R Fl:=(aC (eh (da 3 bj (ac (rS 0) (ac (rS 1) (ac (rS 2) aq))))) (fun _=>.no))
def im:List D->R D:=cy 5 md
def ng:au->R Fl:=(aC (eh (da 3 bj (ac (rS 0) (ac (rS 1) (ac (rS 2) aq))))) (fun _=>.no))
def kq:List D->R D:=cy 3 ng
def xR:au->R Fl:=(aC (eh (da 3 kq (ac (rS 0) (ac (rS 1) (ac (rS 2) aq))))) (fun _=>.no))
def qd:List D->R D:=cy 3 xR
def sL:au->R Fl:=(aC (eh (da 3 kq (ac (rS 0) (ac (rS 1) (ac (rS 2) aq))))) (fun _=>.no))
def lU:List D->R D:=cy 3 sL
def Jn:au->R Fl:=(aC (eh (da 2 aZ (ac (rS 0) (ac (rS 1) aq)))) (fun _=>.no))
def EO:List D->R D:=cy 3 Jn
def EQ:au->R Fl:=(fun _=>.no)
def Lo:List D->R D:=cy 2 EQ
def nh:au->R Fl:=(aC (eh (da 2 aZ (ac (rS 0) (ac (rS 1) aq)))) (fun _=>.no))
def kr:List D->R D:=cy 7 nh
def o9:au->R Fl:=(cY (da 2 Lo (ac (g2 (da 4 kr (ac (rS 0) (ac (rS 1) (ac (rS 2) (ac (rS 3) aq))))) (kI 0) bD) (ac (rS 2) aq))))
def lV:List D->R D:=cy 4 o9
def qW:au->R Fl:=(cY (g2 (da 4 kr (ac (rS 0) (ac (rS 1) (ac (rS 2) (ac (rS 3) aq))))) (kI 1) bD))
def ni:List D->R D:=cy 4 qW
def AV:au->R Fl:=(aC (eh (da 2 aZ (ac (rS 0) (ac (rS 1) aq)))) (fun _=>.no))
def wD:List D->R D:=cy 2 AV
def Jo:au->R Fl:=(aC (eh (da 3 bj (ac (rS 0) (ac (rS 1) (ac (rS 2) aq))))) (fun _=>.no))
def AW:List D->R D:=cy 7 Jo
def qe:au->R Fl:=(aC (ev (Mw (mF (gN (xK (rB 1) "list"))) (gN (g2 (cJ (ac (rB 1) aq) (jQ lS)) (kI 64) UA))) (cY (kB false)) (fun ρ=>.ok (.nx ρ))) (cY (cJ (ac (iX 1 [0] (qQ (rB 1)) kT (g2 (da 2 cU (ac (rS 1) (ac (rS 0) aq))) kN (VZ true))) aq) (jQ (iV fun bs=>bs.all id)))))
def qf:List D->R D:=cy 2 qe
def mG:au->R Fl:=(aC (ev (mF (gN (da 2 qf (ac (rS 0) (ac (rS 1) aq))))) (qT "NoRow" (ac kN aq)) (fun ρ=>.ok (.nx ρ))) (cY (iX 1 [0] (qQ (rB 1)) kT (da 2 cU (ac (rS 1) (ac (rS 0) aq))))))
def fo:List D->R D:=cy 2 mG
def zN:au->R Fl:=(aC (eh (da 2 aZ (ac (rS 0) (ac (rS 1) aq)))) (aC (fB 3 (da 2 fo (ac (rS 0) (ac (rS 2) aq)))) (fun _=>.no)))
def qX:List D->R D:=cy 5 zN
def wE:au->R Fl:=(aC (eh (da 3 bj (ac (rS 0) (ac (rS 1) (ac (rS 2) aq))))) (aC (fB 4 (da 2 fo (ac (rS 0) (ac (rS 3) aq)))) (fun _=>.no)))
def jv:List D->R D:=cy 6 wE
def wF:au->R Fl:=(aC (eh (da 1 cn (ac (rS 0) aq))) (aC (eh (da 2 i4 (ac (rS 0) (ac (rS 1) aq)))) (aC (fB 3 (rS 1)) (aC (yJ (Lk (ac (da 2 fo (ac (rS 0) (ac (rS 2) aq))) aq)) (cL 4) (fun _=>.no)) (fun _=>.no)))))
def mH:List D->R D:=cy 5 wF
def zO:au->R Fl:=(aC (eh (da 1 cn (ac (rS 0) aq))) (cY (cJ (ac (iX 1 [] (qQ (da 2 fo (ac (rS 0) (ac (rS 1) aq)))) kT (g2 (rB 0) (kI 5) bD)) aq) (jQ Ta))))
def tX:List D->R D:=cy 2 zO
def tY:au->R Fl:=(aC (ev (mF (gN (da 4 jv (ac (rS 0) (ac (rS 1) (ac (rS 2) (ac (rS 3) aq))))))) (qT "NoRow" (ac kN aq)) (fun ρ=>.ok (.nx ρ))) (fun _=>.no))
def l5:List D->R D:=cy 6 tY
def l7:au->R Fl:=(fun _=>.no)
def qg:List D->R D:=cy 5 l7
def wG:au->R Fl:=(aC (eh (da 3 bj (ac (rS 0) (ac (rS 1) (ac (rS 2) aq))))) (aC (fB 4 (da 2 qg (ac (da 2 fo (ac (rS 0) (ac (rS 3) aq))) (ac (rS 2) aq)))) (fun _=>.no)))
def lW:List D->R D:=cy 11 wG
def ES:au->R Fl:=(aC (eh (da 2 aZ (ac (rS 0) (ac (rS 1) aq)))) (fun _=>.no))
def zP:List D->R D:=cy 4 ES
def oV:au->R Fl:=(aC (eh (da 2 aZ (ac (rS 0) (ac (rS 1) aq)))) (fun _=>.no))
def lF:List D->R D:=cy 4 oV
def oW:au->R Fl:=(aC (eh (da 3 bj (ac (rS 0) (ac (rS 1) (ac (rS 2) aq))))) (fun _=>.no))
def jw:List D->R D:=cy 4 oW
def v9:au->R Fl:=(aC (eh (da 3 bj (ac (rS 0) (ac (rS 1) (ac (rS 2) aq))))) (fun _=>.no))
def nj:List D->R D:=cy 4 v9
def oX:au->R Fl:=(aC (eh (da 3 bj (ac (rS 0) (ac (rS 1) (ac (rS 2) aq))))) (fun _=>.no))
def jx:List D->R D:=cy 5 oX
def vb:au->R Fl:=(aC (eh (da 3 bj (ac (rS 0) (ac (rS 1) (ac (rS 2) aq))))) (fun _=>.no))
def nl:List D->R D:=cy 5 vb
def AX:au->R Fl:=(aC (eh (da 1 cn (ac (rS 0) aq))) (fun _=>.no))
def AY:List D->R D:=cy 5 AX
def wH:au->R Fl:=(aC (eh (da 1 cn (ac (rS 0) aq))) (aC (Tb 2) (aC (yJ (qQ (da 2 fo (ac (rS 0) (ac (rS 1) aq)))) (cL 3) (fun _=>.no)) (fun _=>.no))))
def qh:List D->R D:=cy 5 wH
def xS:au->R Fl:=(fun _=>.no)
def DJ:List D->R D:=cy 2 xS
def zQ:au->R Fl:=(cY (da 1 DJ (ac (da 1 cn (ac (rS 0) aq)) aq)))
def zR:List D->R D:=cy 1 zQ
def Jp:au->R Fl:=(aC (eh (da 1 cn (ac (rS 0) aq))) (fun _=>.no))
def Jq:List D->R D:=cy 2 Jp
def oY:au->R Fl:=(aC (eh (da 1 cn (ac (rS 0) aq))) (fun _=>.no))
def oZ:List D->R D:=cy 3 oY
def l8:au->R Fl:=(aC (eh (da 1 cn (ac (rS 0) aq))) (fun _=>.no))
def l9:List D->R D:=cy 2 l8
def sM:au->R Fl:=(aC (eh (da 1 cn (ac (rS 0) aq))) (fun _=>.no))
def sO:List D->R D:=cy 1 sM
def lG:au->R Fl:=(aC (ev (gN (g2 (rB 1) (cJ (ac (rB 0) aq) (jQ lS)) C6)) (cY (g2 (rB 0) (rB 1) bD)) (fun ρ=>.ok (.nx ρ))) (aC (ev (gN (g2 (rB 0) (bq aq .list) (mz false))) (cY (kI 0)) (fun ρ=>.ok (.nx ρ))) (cY (g2 (g2 (g2 (rB 0) (g2 (rB 1) (cJ (ac (rB 0) aq) (jQ lS)) wn) bD) (kI 31) zg) (rB 1) cK))))
def lH:List D->R D:=cy 2 lG
def oa:au->R Fl:=(aC (fB 3 (g2 (g2 (g2 (g2 (da 2 lH (ac (rS 0) (ac (rS 1) aq))) (g2 (kI 7919) (rB 1) zg) cK) (kI 1) cK) (kI 48271) zg) (kI 2147483647) wn)) (cY (g2 (g2 (g2 (g2 (g2 (rB 3) (rB 3) zg) (g2 (kI 7) (rB 3) zg) cK) (rB 1) cK) (kI 2147483629) wn) (rB 2) wn)))
def aY:List D->R D:=cy 4 oa
def qY:au->R Fl:=(aC (fB 2 (fun _=>.ok (.str ""))) (aC (v7 (yH (ac (g2 (bq (ac (kI 1) (ac (kI 2) (ac (kI 3) (ac (kI 6) (ac (kI 1) (ac (kI 4) aq)))))) .list) (da 3 aY (ac (rS 0) (ac (rS 1) (ac (kI 6) aq)))) bD) aq)) (cL 3) (fB 2 (g2 (rB 2) (g2 (fun _=>.ok (.str "abcdefghijklmnopqrstuvwxyz")) (da 3 aY (ac (rS 0) (ac (g2 (g2 (rB 1) (kI 1) cK) (rB 3) cK) (ac (kI 26) aq)))) bD) cK))) (cY (rS 2))))
def lc:List D->R D:=cy 4 qY
def og:au->R Fl:=(aC (js 3 (fun _=>.ok (.dict []))) (aC (v7 (yH (ac (da 3 aY (ac (rS 0) (ac (rS 1) (ac (g2 (rB 2) (kI 1) cK) aq)))) aq)) (cL 4) (EK 3 (da 2 lc (ac (rS 0) (ac (g2 (g2 (rB 1) (kI 1) cK) (g2 (kI 8) (rB 4) zg) cK) aq))) (kB true))) (cY (cJ (ac (cJ (ac (cJ (ac (rB 3) aq) (jQ ki)) aq) (jQ tQ)) aq) (jQ iE)))))
def oh:List D->R D:=cy 5 og
def qZ:au->R Fl:=(cY (cJ (ac (iX 2 [0,1,3] (Jc (ac (rS 2) aq)) (gN (g2 (da 3 aY (ac (rS 2) (ac (g2 (rB 3) (rB 0) cK) (ac (kI 12) aq)))) (rB 4) C6)) (rS 1)) aq) (jQ iE)))
def q_:List D->R D:=cy 4 qZ
def r0:au->R Fl:=(aC (fB 4 (g2 (rB 2) (da 3 aY (ac (rS 0) (ac (g2 (rB 1) (kI 10) cK) (ac (cJ (ac (rB 2) aq) (jQ lS)) aq)))) bD)) (aC (fB 5 (g2 (rB 2) (da 3 aY (ac (rS 0) (ac (g2 (rB 1) (kI 11) cK) (ac (cJ (ac (rB 2) aq) (jQ lS)) aq)))) bD)) (aC (fB 6 (g2 (rB 2) (da 3 aY (ac (rS 0) (ac (g2 (rB 1) (kI 12) cK) (ac (cJ (ac (rB 2) aq) (jQ lS)) aq)))) bD)) (aC (fB 7 (uC (bq (ac (rS 4) (ac (rS 5) aq)) .list) uB (uo (g2 (kI 1) (g2 (da 3 aY (ac (rS 0) (ac (g2 (rB 1) (kI 13) cK) (ac (kI 3) aq)))) (kI 2) OX) cK)))) (aC (js 8 (iX 1 [7,0,1] (qQ (bq (ac (rS 6) aq) .list)) (J6 (gN (g2 (rB 0) (rB 1) (NG true))) (gN (g2 (da 3 aY (ac (rS 2) (ac (g2 (rB 3) (kI 14) cK) (ac (kI 4) aq)))) (kI 0) (mz false)))) (rS 0))) (aC (js 9 (iX 1 [6,0,1] (qQ (bq (ac (rS 4) aq) .list)) (J6 (gN (g2 (rB 0) (rB 1) (mz true))) (gN (g2 (da 3 aY (ac (rS 2) (ac (g2 (rB 3) (kI 15) cK) (ac (kI 3) aq)))) (kI 0) (mz false)))) (rS 0))) (aC (Zh 8 (Zh 9 (js 10 (iX 1 [] (qQ (bq (ac (rS 7) (ac (rS 8) (ac (bq (ac (rS 6) aq) .list) (ac (rS 9) aq)))) .tuple)) kT (cJ (ac (pX (xM (rB 0))) aq) (jQ iE)))))) (cY (bq (ac (rS 3) (ac (g2 (rB 10) (kI 0) bD) (ac (g2 (rB 10) (kI 1) bD) (ac (g2 (rB 10) (kI 2) bD) (ac (g2 (rB 10) (kI 3) bD) (ac (da 3 aY (ac (rS 0) (ac (rS 1) (ac (kI 5) aq)))) aq)))))) .tuple)))))))))
def r6:List D->R D:=cy 11 r0
def j8:au->R Fl:=(aC (ev (J6 (gN (g2 (rB 2) (bq aq .tuple) (mz true))) (gN (g2 (da 3 aY (ac (rS 0) (ac (kI 97) (ac (kI 2) aq)))) (kI 0) (mz false)))) (cY (da 4 r6 (ac (rS 0) (ac (rS 1) (ac (rS 2) (ac (rS 3) aq)))))) (fun ρ=>.ok (.nx ρ))) (aC (SO 4) (aC (v7 (Jc (ac (rS 2) aq)) (rN 2 (dR (cL 5) (dR (cL 6) uq))) (aC (fB 7 (da 3 aY (ac (rS 0) (ac (g2 (g2 (rB 1) (kI 10) cK) (rB 5) cK) (ac (kI 8) aq))))) (aC (ev (gN (g2 (rB 7) (kI 3) C6)) (pY 4 (g2 (bq (ac (kI 0) (ac (kI 0) (ac (kI 1) aq))) .list) (rB 7) bD) (rS 6)) (fun ρ=>.ok (.nx ρ))) (aC (fB 7 (da 3 aY (ac (rS 0) (ac (g2 (g2 (rB 1) (kI 20) cK) (rB 5) cK) (ac (kI 8) aq))))) (ev (gN (g2 (rB 7) (kI 4) C6)) (pY 4 (g2 (bq (ac (kI 2) (ac (kI 2) (ac (kI 3) (ac (kI 3) aq)))) .list) (rB 7) bD) (rS 6)) (fun ρ=>.ok (.nx ρ))))))) (aC (fun ρ=>(js 8 (iX 1 [] (qQ (rB 4)) kT (cJ (ac (rB 0) aq) (jQ iE)))) (fj ρ)) (cY (bq (ac (rS 3) (ac (g2 (rB 8) (kI 0) bD) (ac (g2 (rB 8) (kI 1) bD) (ac (g2 (rB 8) (kI 2) bD) (ac (g2 (rB 8) (kI 3) bD) (ac (da 3 aY (ac (rS 0) (ac (rS 1) (ac (kI 5) aq)))) aq)))))) .tuple))))))
def j9:List D->R D:=cy 9 j8
def nq:au->R Fl:=(aC (fB 4 (da 3 oh (ac (rS 0) (ac (rS 1) (ac (rS 2) aq))))) (aC (js 5 (fun _=>.ok (.dict []))) (aC (v7 (yH (ac (da 3 aY (ac (rS 0) (ac (g2 (rB 1) (kI 60) cK) (ac (g2 (rB 3) (kI 1) cK) aq)))) aq)) (cL 6) (aC (fB 7 (da 2 lc (ac (rS 0) (ac (g2 (g2 (rB 1) (kI 70) cK) (g2 (kI 40) (rB 6) zg) cK) aq)))) (EK 5 (rS 7) (da 4 j9 (ac (rS 0) (ac (g2 (g2 (rB 1) (kI 80) cK) (g2 (kI 40) (rB 6) zg) cK) (ac (rS 4) (ac (rS 7) aq)))))))) (aC (fB 8 (cJ (ac (rB 5) aq) (jQ ki))) (aC (fB 9 (da 3 aY (ac (rS 0) (ac (g2 (rB 1) (kI 61) cK) (ac (g2 (cJ (ac (rB 8) aq) (jQ lS)) (kI 1) cK) aq))))) (cY (bq (ac (rS 4) (ac (cJ (ac (iX 1 [5] (qQ (g2 (uC (rB 8) (uo (rS 9)) uB) (uC (rB 8) uB (uo (rS 9))) cK)) kT (g2 (rB 1) (rB 0) bD)) aq) (jQ iE)) aq)) .tuple)))))))
def nr:List D->R D:=cy 10 nq
def nu:au->R Fl:=(aC (js 3 (bq aq .list)) (aC (js 4 (bq aq .list)) (aC (v7 (Jc (ac (rS 2) aq)) (rN 2 (dR (cL 5) (dR (cL 6) uq))) (aC (fB 7 (da 3 aY (ac (rS 0) (ac (g2 (rB 1) (rB 5) cK) (ac (kI 8) aq))))) (ev (gN (g2 (rB 7) (kI 2) C6)) (zi 3 (rS 6)) (ev (gN (g2 (rB 7) (kI 2) (mz false))) (zi 4 (rS 6)) (fun ρ=>.ok (.nx ρ)))))) (cY (bq (ac (cJ (ac (rB 3) aq) (jQ iE)) (ac (cJ (ac (rB 4) aq) (jQ iE)) aq)) .tuple)))))
def vc:List D->R D:=cy 8 nu
def r9:au->R Fl:=(aC (fB 3 (da 4 nr (ac (rS 0) (ac (kI 100) (ac (rS 1) (ac (rS 2) aq)))))) (aC (fB 4 (da 4 q_ (ac (rS 0) (ac (kI 20) (ac (g2 (rB 3) (kI 0) bD) (ac (g2 (bq (ac (kI 2) (ac (kI 4) aq)) .list) (da 3 aY (ac (rS 0) (ac (kI 97) (ac (kI 2) aq)))) bD) aq)))))) (cY (bq (ac (rS 3) (ac (rS 4) (ac (da 3 vc (ac (rS 0) (ac (kI 30) (ac (g2 (rB 3) (kI 0) bD) aq)))) aq))) .tuple))))
def nw:List D->R D:=cy 5 r9
def ja:au->R Fl:=(aC (fB 2 (bq (ac (fun _=>.ok (.str "x")) (ac (bq aq .tuple) (ac (bq aq .tuple) (ac (bq aq .tuple) (ac (bq aq .tuple) (ac (kI 0) aq)))))) .tuple)) (aC (js 3 (bq (ac (g2 (bq (ac (fun _=>.ok (.str "X")) aq) .tuple) (uC (rB 2) (uo (kI 1)) uB) cK) (ac (uC (rB 2) uB (uo (kI 5))) (ac (cJ (ac (rB 2) aq) (jQ ki)) (ac kN (ac (g2 (uC (rB 2) uB (uo (kI 5))) (bq (ac (kI 10) aq) .tuple) cK) (ac (g2 (uC (rB 2) uB (uo (kI 5))) (bq (ac (W6 (kI 1)) aq) .tuple) cK) (ac (g2 (uC (rB 2) uB (uo (kI 5))) (bq (ac (kB true) aq) .tuple) cK) aq))))))) .list)) (aC (wx 3 (bq (ac (g2 (g2 (uC (rB 2) uB (uo (kI 1))) (bq (ac (bq (ac (fun _=>.ok (.str "a")) aq) .list) aq) .tuple) cK) (uC (rB 2) (uo (kI 2)) uB) cK) (ac (g2 (g2 (uC (rB 2) uB (uo (kI 1))) (bq (ac (bq (ac (fun _=>.ok (.str "b")) (ac (fun _=>.ok (.str "a")) aq)) .tuple) aq) .tuple) cK) (uC (rB 2) (uo (kI 2)) uB) cK) aq)) .list)) (aC (zi 3 (g2 (g2 (uC (rB 2) uB (uo (kI 1))) (bq (ac (bq (ac (fun _=>.ok (.str "a")) (ac (fun _=>.ok (.str "a")) aq)) .tuple) aq) .tuple) cK) (uC (rB 2) (uo (kI 2)) uB) cK)) (aC (wx 3 (bq (ac (g2 (g2 (uC (rB 2) uB (uo (kI 1))) (bq (ac (bq (ac (fun _=>.ok (.str "a")) aq) .tuple) (ac (bq (ac (fun _=>.ok (.str "a")) aq) .tuple) aq)) .tuple) cK) (uC (rB 2) (uo (kI 3)) uB) cK) (ac (g2 (g2 (uC (rB 2) uB (uo (kI 3))) (bq (ac (bq (ac (fun _=>.ok (.str "a")) aq) .tuple) (ac (bq (ac (fun _=>.ok (.str "a")) aq) .tuple) aq)) .tuple) cK) (uC (rB 2) (uo (kI 5)) uB) cK) (ac (g2 (uC (rB 2) uB (uo (kI 4))) (bq (ac kN (ac (kI 0) aq)) .tuple) cK) aq))) .list)) (aC (wx 3 (bq (ac (g2 (g2 (uC (rB 2) uB (uo (kI 1))) (bq (ac (bq (ac (fun _=>.ok (.str "zz")) aq) .tuple) aq) .tuple) cK) (uC (rB 2) (uo (kI 2)) uB) cK) (ac (g2 (rB 2) (bq (ac (kI 0) aq) .tuple) cK) (ac (g2 (g2 (uC (rB 2) uB (uo (kI 2))) (bq (ac (bq (ac (fun _=>.ok (.str "a")) (ac (kI 1) aq)) .tuple) aq) .tuple) cK) (uC (rB 2) (uo (kI 3)) uB) cK) aq))) .list)) (cY (g2 (rB 3) (da 3 aY (ac (rS 0) (ac (rS 1) (ac (kI 16) aq)))) bD))))))))
def gW:List D->R D:=cy 4 ja
def ku:au->R Fl:=(aC (fB 2 (bq (ac (fun _=>.ok (.str "a")) (ac (fun _=>.ok (.str "b")) aq)) .tuple)) (aC (fB 3 (bq (ac (fun _=>.ok (.str "x")) (ac (bq aq .tuple) (ac (bq aq .tuple) (ac (bq aq .tuple) (ac (bq aq .tuple) (ac (kI 0) aq)))))) .tuple)) (aC (fB 4 (da 2 gW (ac (rS 0) (ac (g2 (rB 1) (kI 1) cK) aq)))) (aC (fB 5 (cJ (ac (iX 1 [3] (qQ (bq (ac (fun _=>.ok (.str "p")) (ac (fun _=>.ok (.str "q")) (ac (fun _=>.ok (.str "r")) (ac (fun _=>.ok (.str "s")) (ac (fun _=>.ok (.str "t")) (ac (fun _=>.ok (.str "u")) (ac (fun _=>.ok (.str "v")) aq))))))) .list)) kT (g2 (bq (ac (rS 0) aq) .tuple) (uC (rB 1) (uo (kI 1)) uB) cK)) aq) (jQ iE))) (aC (js 6 (bq (ac (bq (ac (rS 2) (ac (bq (ac (rS 4) aq) .tuple) aq)) .tuple) (ac (bq (ac (rS 2) (ac (bq (ac (rS 3) (ac (rS 4) aq)) .tuple) aq)) .tuple) (ac kN aq))) .list)) (aC (wx 6 (bq (ac (bq (ac (rS 2) (ac (bq (ac (rS 3) (ac (rS 3) aq)) .tuple) aq)) .tuple) (ac (bq (ac (rS 2) (ac (rS 5) aq)) .tuple) (ac (bq (ac (rS 2) (ac (bq (ac (rS 3) aq) .list) aq)) .tuple) (ac (bq (ac (rS 2) aq) .tuple) (ac (bq (ac (rS 2) (ac (bq aq .tuple) aq)) .list) (ac kN (ac (bq (ac (bq (ac (fun _=>.ok (.str "b")) (ac (fun _=>.ok (.str "a")) aq)) .tuple) (ac (bq aq .tuple) aq)) .tuple) aq))))))) .list)) (aC (wx 6 (bq (ac (bq (ac (bq (ac (fun _=>.ok (.str "a")) (ac (fun _=>.ok (.str "a")) aq)) .tuple) (ac (bq aq .tuple) aq)) .tuple) (ac (bq (ac (bq (ac (fun _=>.ok (.str "a")) aq) .list) (ac (bq aq .tuple) aq)) .tuple) (ac (bq (ac (bq (ac (fun _=>.ok (.str "A")) aq) .tuple) (ac (bq aq .tuple) aq)) .tuple) (ac (bq (ac (cJ (ac (fun _=>.ok (.str "abcdefg")) aq) (jQ iE)) (ac (bq aq .tuple) aq)) .tuple) (ac (g2 (bq (ac (rS 2) (ac (bq aq .tuple) aq)) .tuple) (bq (ac (bq aq .tuple) aq) .tuple) cK) (ac (bq (ac (bq (ac (fun _=>.ok (.str "")) aq) .tuple) (ac (bq aq .tuple) aq)) .tuple) aq)))))) .list)) (cY (g2 (rB 6) (g2 (bq (ac (kI 0) (ac (kI 0) (ac (kI 0) (ac (kI 1) (ac (kI 1) (ac (kI 3) (ac (kI 4) (ac (kI 5) (ac (kI 6) (ac (kI 7) (ac (kI 8) (ac (kI 9) (ac (kI 10) (ac (kI 11) (ac (kI 12) (ac (kI 13) (ac (kI 14) (ac (kI 15) aq)))))))))))))))))) .list) (da 3 aY (ac (rS 0) (ac (rS 1) (ac (kI 18) aq)))) bD) bD)))))))))
def gX:List D->R D:=cy 7 ku
def io:au->R Fl:=(aC (js 3 (bq (ac kN (ac (cJ (ac (rB 2) aq) (jQ ki)) (ac (bq (ac (fun _=>.ok (.str "zzzzz")) aq) .tuple) (ac (g2 (rB 2) (bq (ac (fun _=>.ok (.str "zzzzz")) aq) .tuple) cK) (ac (bq (ac (kI 1) aq) .tuple) (ac (kI 0) (ac (fun _=>.ok (.str "a")) (ac (bq (ac (fun _=>.ok (.str "")) aq) .tuple) (ac (bq (ac kN aq) .tuple) aq))))))))) .list)) (aC (ev (gN (g2 (rB 2) (bq aq .tuple) (mz true))) (wx 3 (bq (ac (g2 (rB 2) (rB 2) cK) (ac (g2 (uC (rB 2) uB (uo (kI 1))) (uC (rB 2) uB (uo (kI 1))) cK) (ac (bq (ac (g2 (rB 2) (kI 0) bD) (ac (kI 0) aq)) .tuple) aq))) .list)) (fun ρ=>.ok (.nx ρ))) (aC (ev (gN (g2 (cJ (ac (rB 2) aq) (jQ lS)) (kI 1) UA)) (wx 3 (T4 3 (ac (T5 (rB 2)) aq))) (fun ρ=>.ok (.nx ρ))) (cY (g2 (rB 3) (da 3 aY (ac (rS 0) (ac (rS 1) (ac (cJ (ac (rB 3) aq) (jQ lS)) aq)))) bD)))))
def ip:List D->R D:=cy 4 io
def iY:au->R Fl:=(aC (fB 3 (da 3 ip (ac (rS 0) (ac (g2 (rB 1) (kI 1) cK) (ac (rS 2) aq))))) (aC (js 4 (bq (ac kN (ac (bq (ac (bq aq .tuple) aq) .tuple) (ac (bq (ac (bq aq .tuple) (ac (bq aq .tuple) aq)) .list) (ac (bq (ac (bq aq .tuple) (ac (bq aq .tuple) (ac (bq aq .tuple) aq))) .tuple) (ac (bq (ac (rS 3) (ac (bq aq .tuple) aq)) .tuple) (ac (bq (ac (bq aq .tuple) (ac (rS 3) aq)) .tuple) (ac (bq (ac (rS 3) (ac (bq aq .tuple) aq)) .tuple) (ac (bq (ac (bq aq .tuple) (ac (rS 3) aq)) .tuple) (ac (kI 0) aq))))))))) .list)) (aC (ev (gN (g2 (rB 2) (bq aq .tuple) (mz true))) (wx 4 (bq (ac (bq (ac (rS 2) (ac (uC (rB 2) uB (uo (kI 1))) aq)) .tuple) (ac (bq (ac (uC (rB 2) uB (uo (kI 1))) (ac (rS 2) aq)) .tuple) aq)) .list)) (fun ρ=>.ok (.nx ρ))) (cY (g2 (rB 4) (da 3 aY (ac (rS 0) (ac (rS 1) (ac (cJ (ac (rB 4) aq) (jQ lS)) aq)))) bD)))))
def kz:List D->R D:=cy 5 iY
def jy:au->R Fl:=(aC (js 3 (iX 1 [] (qQ (g2 (rB 2) (kI 1) bD)) kT (g2 (rB 0) (kI 0) bD))) (aC (js 4 (bq (ac kN (ac (cJ (ac (rB 3) aq) (jQ iE)) (ac (g2 (rB 3) (bq (ac (fun _=>.ok (.str "zzzzz")) aq) .list) cK) (ac (bq (ac (fun _=>.ok (.str "zzzzz")) aq) .list) (ac (bq (ac kN aq) .list) (ac (bq (ac (bq (ac (fun _=>.ok (.str "a")) aq) .list) aq) .list) (ac (fun _=>.ok (.str "a")) (ac (kI 0) (ac (bq (ac (kI 1) aq) .list) aq))))))))) .list)) (aC (ev (gN (g2 (rB 3) (bq aq .list) (mz true))) (wx 4 (bq (ac (AQ 65 (rB 3) uB (uo (kI 1))) (ac (bq (ac (g2 (rB 3) (kI 0) bD) aq) .tuple) aq)) .list)) (fun ρ=>.ok (.nx ρ))) (cY (g2 (rB 4) (da 3 aY (ac (rS 0) (ac (rS 1) (ac (cJ (ac (rB 4) aq) (jQ lS)) aq)))) bD)))))
def lI:List D->R D:=cy 5 jy
def iK:au->R Fl:=(aC (ev (gN (g2 (rB 0) (kI 3) C6)) (rK [cn,zR,sO] 1 (rS 0) (ac (rS 1) aq)) (fun ρ=>.ok (.nx ρ))) (aC (ev (gN (g2 (rB 0) (kI 14) C6)) (kY 2 [GT,tW,zP,wD,EO,tX,qh,Jq,oZ,l9,GT] 2 (g2 (rB 0) (kI 3) EC) (ac (rS 1) (ac kN aq))) (fun ρ=>.ok (.nx ρ))) (aC (ev (gN (g2 (rB 0) (kI 29) C6)) (kY 2 ([EN,sK,qX,mH,wC,k_,GU,im,jw,nj,jx]++[AW,qd,lU,lF]) 3 (g2 (rB 0) (kI 14) EC) (ac (rS 1) (ac kN (ac kN aq)))) (fun ρ=>.ok (.nx ρ))) (aC (ev (gN (g2 (rB 0) (kI 29) (mz false))) (cY (da 3 AY (ac (rS 1) (ac kN (ac kN aq))))) (fun ρ=>.ok (.nx ρ))) (kY 2 [jv,nl,l5,lW,lV,ni] 4 (g2 (rB 0) (kI 30) EC) (ac (rS 1) (ac kN (ac kN (ac kN aq)))))))))
def gm:List D->R D:=cy 3 iK
def i5:au->R Fl:=(aC (ev (gN (g2 (rB 0) (kI 5) C6)) (rK [GT,tW,zP,wD,EO] 2 (rS 0) (ac (rS 1) (ac (rS 2) aq))) (fun ρ=>.ok (.nx ρ))) (aC (ev (gN (g2 (rB 0) (kI 19) C6)) (kY 3 ([EN,sK,qX,wC,k_,GU,im,jw,nj,jx,AW]++[qd,lU,lF]) 3 (g2 (rB 0) (kI 5) EC) (ac (rS 1) (ac (rS 2) (ac kN aq)))) (fun ρ=>.ok (.nx ρ))) (rK [jv,nl,l5,lW,lV,ni] 4 (g2 (rB 0) (kI 19) EC) (ac (rS 1) (ac (rS 2) (ac kN (ac kN aq)))))))
def fJ:List D->R D:=cy 4 i5
def iL:au->R Fl:=(aC (ev (gN (g2 (rB 0) (kI 10) C6)) (kY 4 [sK,k_,GU,im,jw,nj,jx,AW,qd,lU] 3 (rS 0) (ac (rS 1) (ac (rS 2) (ac (rS 3) aq)))) (fun ρ=>.ok (.nx ρ))) (aC (ev (gN (g2 (rB 0) (kI 10) (mz false))) (cY (da 3 mH (ac (rS 1) (ac (rS 3) (ac kN aq))))) (fun ρ=>.ok (.nx ρ))) (rK [jv,nl,l5,lW] 4 (g2 (rB 0) (kI 11) EC) (ac (rS 1) (ac (rS 2) (ac (rS 3) (ac kN aq)))))))
def gq:List D->R D:=cy 5 iL
def jb:au->R Fl:=(aC (ev (gN (g2 (rB 0) (kI 2) C6)) (rK [tX,qh] 2 (rS 0) (ac (rS 1) (ac (rS 4) aq))) (fun ρ=>.ok (.nx ρ))) (aC (ev (gN (g2 (rB 0) (kI 2) (mz false))) (cY (da 3 qX (ac (rS 1) (ac (rS 2) (ac (rS 4) aq))))) (fun ρ=>.ok (.nx ρ))) (aC (ev (gN (g2 (rB 0) (kI 3) (mz false))) (cY (da 3 mH (ac (rS 1) (ac (rS 3) (ac (rS 4) aq))))) (fun ρ=>.ok (.nx ρ))) (rK [jv,l5,lW] 4 (g2 (rB 0) (kI 4) EC) (ac (rS 1) (ac (rS 2) (ac (rS 3) (ac (rS 4) aq))))))))
def gY:List D->R D:=cy 5 jb
def lJ:au->R Fl:=(aC (Cu (rS 2) (rN 3 (dR (cL 4) (dR (cL 5) (dR (cL 6) uq))))) (Ji Td (aC (ev (gN (g2 (rB 0) (kI 0) (mz false))) (cY (da 2 gm (ac (g2 (rB 1) (kI 36) wn) (ac (rS 3) aq)))) (fun ρ=>.ok (.nx ρ))) (aC (ev (gN (g2 (rB 0) (kI 1) (mz false))) (cY (da 3 fJ (ac (g2 (rB 1) (kI 25) wn) (ac (rS 4) (ac (rS 3) aq))))) (fun ρ=>.ok (.nx ρ))) (aC (ev (gN (g2 (rB 0) (kI 2) (mz false))) (cY (da 4 gq (ac (g2 (rB 1) (kI 15) wn) (ac (rS 4) (ac (rS 5) (ac (rS 3) aq)))))) (fun ρ=>.ok (.nx ρ))) (cY (da 5 gY (ac (g2 (rB 1) (kI 7) wn) (ac (rS 4) (ac (rS 5) (ac (rS 6) (ac (rS 3) aq))))))))))))
def jz:List D->R D:=cy 8 lJ
def Lp:au->R Fl:=(aC (fB 1 (da 3 nw (ac (rS 0) (ac (kI 5) (ac (kI 4) aq))))) (aC (fB 2 (g2 (g2 (rB 1) (kI 0) bD) (kI 0) bD)) (aC (fB 3 (da 3 aY (ac (rS 0) (ac (kI 0) (ac (kI 4) aq))))) (aC (js 4 (bq (ac (da 2 gX (ac (rS 0) (ac (kI 1) aq))) (ac (da 3 ip (ac (rS 0) (ac (kI 5) (ac (rS 2) aq)))) (ac (da 3 kz (ac (rS 0) (ac (kI 7) (ac (rS 2) aq)))) aq))) .list)) (aC (zi 4 (da 3 lI (ac (rS 0) (ac (kI 10) (ac (g2 (rB 1) (kI 0) bD) aq))))) (aC (v7 (yH (ac (kI 6) aq)) (cL 5) (aC (fB 6 (da 3 aY (ac (rS 0) (ac (g2 (kI 900) (rB 5) cK) (ac (g2 (kI 10) (kI 6) Tc) aq))))) (ev (gN (g2 (da 4 jz (ac (rS 3) (ac (rS 6) (ac (rS 1) (ac (g2 (rB 4) (rB 3) bD) aq))))) (bq (ac (fun _=>.ok (.str "refused")) (ac (g2 (bq (ac (kI 0) (ac (kI 1) (ac (kI 2) (ac (kI 4) aq)))) .list) (rB 3) bD) aq)) .tuple) (mz true))) (cY (kB false)) (fun ρ=>.ok (.nx ρ))))) (cY (kB true))))))))
def F_law:List D->R D:=cy 7 Lp
end
end Z
section
set_option hygiene false
namespace Z
open PySem L2 J
local macro_rules | `(tactic| walk_at "zz") => `(tactic| simp only [Yw, Wp, Yx, Yy, Yz, GF, sJ, GG, Yc, Pd, Pe, UK, Yd, L9, GH, La, GI, GJ, GK, Pf, Pg, Ph, Lb, Pi, Lc, Yf, UM, UN, Pj, UO, Pl, UP, Yi, Pm, UQ, Pn, Ld, Po, Le, Lf, Pp, Pq, Pr, Pu, GL, GM, UT, Pw, Lg, Px, Ym, UV, UW, Py, UX, Pz, PB, UY, UZ, PD, Yq, PF, PH, U_, V0, PJ, Wg, PL, V1, V2, PM, Lh, Li, V5, DD, DE, DF, PP, Ys, PR, PU, PV, PX, PY, PZ, DH, EL, Ya, Yb, cK, EC, zg, wn, OX, EB, C6, Uz, UA, Mx, lS, bd, gL, cc, gC, aN, Ru, s9, dh, M2, xn, xo, Nat.reduceSub, Nat.reduceAdd, RS, RT, Nat.sub_self, if_true, if_false, ite_true, ite_false, cz, decide_true, decide_false, cond_true, cond_false, qA, hX, az, dU, IG, Int.reduceLE, Int.reduceAdd, Int.reduceMul, Nat.reduceLT, Int.reduceNeg, reduceIte])
local macro_rules | `(tactic| walk_at "yy") => `(tactic| simp only [Yw, Wp, Yx, Yy, Yz, GF, sJ, GG, UK, Yd, L9, GH, La, GI, GJ, GK, Pf, Pg, Ph, Lb, Pi, Lc, Yf, UM, UN, Pj, UO, Pl, UP, Yi, Pm, UQ, Pn, Ld, Po, Le, Lf, Pp, Pq, Pr, Pu, GL, GM, UT, Pw, Lg, Px, Ym, UV, UW, Py, UX, Pz, PB, UY, UZ, PD, Yq, PF, PH, U_, V0, PJ, Wg, PL, V1, V2, PM, Lh, Li, V5, DD, DE, DF, PP, Ys, PR, PU, PV, PX, PY, PZ, DH, EL, Ya, Yb, cK, lS, bd, gL, cc, gC, aN, Ru, s9, dh, M2, xn, xo, Nat.reduceSub, Nat.reduceAdd, RS, RT, Nat.sub_self, if_true, if_false, ite_true, ite_false, cz, decide_true, decide_false, cond_true, cond_false, qA, hX, az, dU, IG, Int.reduceLE, Int.reduceAdd, Int.reduceMul, Nat.reduceLT, Int.reduceNeg, reduceIte])
theorem cB {n:Nat}{g:au->R Fl}{ds:List D}{d:D} (h:g (bi n ds)=.ok (.rt d)):cy n g ds=.ok d:=by unfold cy;rw [h]
theorem bV {n:Nat}{g:au->R Fl}{ds:List D}{c:Str}{m:Option D} (h:g (bi n ds)=.ex c m):cy n g ds=.ex c m:=by unfold cy;rw [h]
def Lq (ns:List Int) (k:Int):Int:=if k<ns.length then ns.getD k.toNat 0 else if ns=[] then 0 else ns.getD (k % ns.length).toNat 0 * 31 + k
theorem Q7 (ns:List Int):dq (ns.map .int)=true:=by
 induction ns with
 | nil=>rfl
 | cons x r ih=>simp [dq,j2,ih]
theorem Te (ns:List Int):bK (.list (ns.map .int)) (.list [])=decide (ns=[]):=by
 cases ns with
 | nil=>rfl
 | cons x r=>simp [bK,Dd]
theorem Wv (ns:List Int):mz false (.list (ns.map .int)) (.list [])=.ok (.bool (decide (ns=[]))):=by
 unfold mz
 have h1:(fA (ns.map .int)).canLay0=true:=by simp only [j2];exact Q7 ns
 have h2:(fA []).canLay0=true:=rfl
 have h3:min (fA (ns.map .int)).depth (fA []).depth<=60:=c7 (rL _ _) (by decide)
 rw [h1,h2,decide_eq_true h3,Te]
 rfl
theorem Ww (ns:List Int) (k:Int) (h0:0<=k) (h1:k<ns.length):Im (ns.map ed) k=some (.int (ns.getD k.toNat 0)):=by
 have hk:k.toNat<ns.length:=by omega
 have:=qJ (xs:=ns.map ed) (j:=k.toNat) (v:=.int (ns.getD k.toNat 0)) (by rw [aT,bg hk];simp [hk])
 rwa [cH h0] at this
theorem Q8 (ns:List Int) (k:Int) (h0:0<=k) (h1:k<ns.length):bD (.list (ns.map .int)) (.int k)=.ok (.int (ns.getD k.toNat 0)):=by
 have e:∀ xs k,bD (.list xs) k=Gu (.list xs) k:=fun _ _=>rfl
 rw [e]
 unfold Gu
 simp only [Ww ns k h0 h1]
theorem Lr {i j:Int} (h1:-(2 ^ 64)<j) (h2:j<2 ^ 64):Dw i j=true:=by
 unfold Dw
 simp only [si,aL,decide_eq_true_eq]
 exact .inr ⟨h1,h2⟩
theorem tZ {i j:Int} (h1:-(2 ^ 64)<i) (h2:i<2 ^ 64):Dw i j=true:=by
 unfold Dw
 simp only [si,aL,decide_eq_true_eq]
 exact .inl ⟨h1,h2⟩
theorem Tf (ns:List Int) (k:Int) (hk:0<=k):lH [.list (ns.map .int),.int k]=.ok (.int (Lq ns k)):=by
 unfold lH
 refine cB ?_
 unfold lG bi Lq
 walk_at "zz"
 by_cases h:k<ns.length
 ·simp only [h,decide_true,cond_true,if_true,Q8 ns k hk h,bind_ok]
  walk_at "zz"
 ·simp only [h,decide_false,cond_false,if_false]
  walk_at "zz"
  rw [Wv]
  walk_at "zz"
  by_cases h2:ns=[]
  ·simp only [h2,decide_true,cond_true,if_true]
   walk_at "zz"
  ·have hl:(0:Int)<ns.length:=by have:0<ns.length:=List.length_pos_iff.mpr h2;omega
   simp only [h2,decide_false,cond_false,if_false,hl,decide_true]
   walk_at "zz"
   simp only [h2,decide_false,cond_false,if_false,hl,decide_true,if_true]
   walk_at "zz"
   rw [Q8 ns _ (tL _ (by omega)) (oN _ hl)]
   walk_at "zz"
   rw [Lr (by decide) (by decide)]
   walk_at "zz"
def AZ (ns:List Int) (k:Int):Int:=(Lq ns k + 7919 * k + 1) * 48271 % 2147483647
def e_ (ns:List Int) (k m:Int):Int:=(AZ ns k * AZ ns k + 7 * AZ ns k + k) % 2147483629 % m
theorem eu (ns:List Int) (k m:Int) (h:0<m):0<=e_ ns k m:=tL _ (by omega)
theorem eV (ns:List Int) (k m:Int) (h:0<m):e_ ns k m<m:=oN _ h
theorem eI (ns:List Int) (k m:Int) (hk:0<=k) (hm:0<m):aY [.list (ns.map .int),.int k,.int m]=.ok (.int (e_ ns k m)):=by
 have d0:0<=AZ ns k:=tL _ (by decide)
 have d1:AZ ns k<2147483647:=oN _ (by decide)
 unfold aY
 refine cB ?_
 unfold oa bi
 walk_at "zz"
 rw [Tf ns k hk]
 walk_at "zz"
 rw [tZ (by decide) (by decide)]
 walk_at "zz"
 rw [Lr (by decide) (by decide)]
 walk_at "zz"
 rw [show (Lq ns k + 7919 * k + 1) * 48271 % 2147483647=AZ ns k from rfl,tZ (i:=AZ ns k) (by omega) (by omega)]
 walk_at "zz"
 rw [tZ (i:=7) (by decide) (by decide)]
 walk_at "zz"
 rw [decide_eq_true hm]
 walk_at "zz"
 rfl
theorem sP {α β:Type}{kt:D->au->R au}{gb:au->R Fl} (c:α->D) (f:β->α->β) (P:List α->β->au->Prop) (h:∀ x bP b ρ,P (x::bP) b ρ->∃ ρ1 ρ',kt (c x) ρ=.ok ρ1/\gb ρ1=.ok (.nx ρ')/\P bP (f b x) ρ') :
  ∀ (xs:List α) (b:β) (ρ:au),P xs b ρ->∃ ρ',sG kt gb (xs.map c) ρ=.ok (.nx ρ')/\P [] (xs.foldl f b) ρ'
 | [],b,ρ,p=>⟨ρ,rfl,p⟩
 | x::r,b,ρ,p=>by
  obtain ⟨ρ1,ρ2,h1,h2,h3⟩:=h x r b ρ p
  obtain ⟨ρ3,h4,h5⟩:=sP c f P h r (f b x) ρ2 h3
  refine ⟨ρ3,?_,h5⟩
  rw [bd]
  unfold sG
  rw [h1]
  simp only [h2]
  exact h4
theorem Ls {α β:Type}{kt:D->au->R au}{gb hh:au->R Fl}{r:R Fl} (c:α->D) (f:β->α->β) (P:List α->β->au->Prop) {xs:List α} (b:β) {ρ:au}
  (h:∀ x bP b ρ,P (x::bP) b ρ->∃ ρ1 ρ',kt (c x) ρ=.ok ρ1/\gb ρ1=.ok (.nx ρ')/\P bP (f b x) ρ') (p0:P xs b ρ) (k:∀ ρ',P [] (xs.foldl f b) ρ'->hh ρ'=r):(sG kt gb (xs.map c) ρ).bind (Pc hh)=r:=by
 obtain ⟨ρ',e,p⟩:=sP c f P h xs b ρ p0
 rw [e,bind_ok,sJ]
 exact k ρ' p
theorem zS (n:Nat) (h:n<=1000):Jb [.int (n:Int)]=.ok ((bZ n).map fun (i:Nat)=>ed (i:Int)):=by
 have e:Jb [.int (n:Int)]=.ok (sD 0 (n:Int).toNat):=T2 (by omega) (by omega)
 rw [e]
 unfold sD
 rw [kU]
 exact congrArg R.ok (vO fun a _=>congrArg ed (Int.zero_add _))
def wI (x:Str):Bool:=decide (1<=x.cps.size) && decide (x.cps.size<=6/\x.cps.size≠5) && x.cps.toList.all fun c=>decide (97<=c) && decide (c<=122)
def uD (ns:List Int) (k:Int):Nat:=[1,2,3,6,1,4].getD (e_ ns k 6).toNat 0
def ET (ns:List Int) (k:Int) (i:Nat):Nat:=97 + (e_ ns (k + 1 + i) 26).toNat
def lX (ns:List Int) (k:Int):Str:=⟨((bZ (uD ns k)).map (ET ns k)).toArray⟩
theorem Lu (ns:List Int) (k:Int):1<=uD ns k/\(uD ns k<=6/\uD ns k≠5):=by
 have h0:=eu ns k 6 (by decide)
 have h1:=eV ns k 6 (by decide)
 unfold uD
 have:∀ j:_root_.Fin 6,1<=[1,2,3,6,1,4].getD j.val 0/\([1,2,3,6,1,4].getD j.val 0<=6/\[1,2,3,6,1,4].getD j.val 0≠5):=by decide
 exact this ⟨(e_ ns k 6).toNat,by omega⟩
theorem Tg (ns:List Int) (k:Int) (i:Nat):97<=ET ns k i/\ET ns k i<=122:=by
 have h0:=eu ns (k + 1 + i) 26 (by decide)
 have h1:=eV ns (k + 1 + i) 26 (by decide)
 unfold ET
 omega
theorem GV (ns:List Int) (k:Int):wI (lX ns k)=true:=by
 have ⟨h1,h2⟩:=Lu ns k
 unfold wI lX
 simp only [aI,aN,kO,aL,decide_eq_true_eq,eA]
 refine ⟨⟨h1,h2⟩,fun c hc=>?_⟩
 obtain ⟨i,_,rfl⟩:=List.mem_map.mp hc
 exact Tg ns k i
theorem Q9 (j:Int) (h0:0<=j) (h1:j<26):bD (.str "abcdefghijklmnopqrstuvwxyz") (.int j)=.ok (.str ⟨#[97 + j.toNat]⟩):=by
 have e:∀ x k,bD (.str x) k=Gu (.str x) k:=fun _ _=>rfl
 rw [e]
 unfold Gu
 have hc:("abcdefghijklmnopqrstuvwxyz" : Str).cps.toList=(bZ 26).map (97 + ·):=by decide +kernel
 have hl:("abcdefghijklmnopqrstuvwxyz" : Str).length<=1000:=by decide +kernel
 have hj:j.toNat<26:=by omega
 have hx:=qJ (xs:=(bZ 26).map (97 + ·)) (j:=j.toNat) (v:=97 + j.toNat) (by rw [aT,L_ hj];rfl)
 rw [cH h0] at hx
 simp only [hl,if_true,hc,hx]
theorem Th (j:Int) (h0:0<=j) (h1:j<6):bD (.list [.int 1,.int 2,.int 3,.int 6,.int 1,.int 4]) (.int j)=.ok (.int (([1,2,3,6,1,4].getD j.toNat 0:Nat):Int)):=by
 obtain ⟨n,rfl⟩:=Il h0
 have hn:n<6:=by omega
 match n,hn with
 | 0,_=>rfl
 | 1,_=>rfl
 | 2,_=>rfl
 | 3,_=>rfl
 | 4,_=>rfl
 | 5,_=>rfl
theorem EU (l:List Nat):∀ (acc:Str),l.foldl (fun (a:Str) c=>a++⟨#[c]⟩) acc=⟨(acc.cps.toList++l).toArray⟩:=by
 induction l with
 | nil=>intro acc;simp
 | cons c r ih =>
  intro acc
  rw [C4,ih]
  show (⟨((acc.cps++#[c]).toList++r).toArray⟩:Str)=_
  simp
theorem MM:("" : Str).cps.toList=[]:=by decide +kernel
theorem Lv (ns:List Int) (k:Int) (hk:0<=k):lc [.list (ns.map .int),.int k]=.ok (.str (lX ns k)):=by
 have h0:=eu ns k 6 (by decide)
 have h1:=eV ns k 6 (by decide)
 have ⟨w1,w2⟩:=Lu ns k
 unfold lc
 refine cB ?_
 unfold qY bi
 walk_at "zz"
 rw [yI (ds:=(bZ (uD ns k)).map fun (i:Nat)=>ed i)]
 ·refine Ls (fun (i:Nat)=>ed i) (fun (a:Str) i=>a++⟨#[ET ns k i]⟩) (fun bP a ρ=>a.length + bP.length<=900/\∃ z,ρ=[.shr (.list (ns.map .int)),.shr (.int k),.shr (.str a),z]) "" ?_ ⟨by rw [kO,show ("" : Str).length=0 by decide];omega,_,rfl⟩ ?_
  ·rintro i bP a ρ ⟨hl,z,rfl⟩
   simp only [cc] at hl
   refine ⟨_,[.shr (.list (ns.map .int)),.shr (.int k),.shr (.str (a++⟨#[ET ns k i]⟩)),.shr (.int i)],rfl,?_,?_,_,rfl⟩
   ·walk_at "zz"
    rw [eI ns _ 26 (by omega) (by decide)]
    walk_at "zz"
    rw [Q9 _ (eu _ _ _ (by decide)) (eV _ _ _ (by decide))]
    walk_at "zz"
    have hz:a.length + (⟨#[97 + (e_ ns (k + 1 + i) 26).toNat]⟩:Str).length<=1000:=by
     show a.length + 1<=1000
     omega
    rw [if_pos hz]
    walk_at "zz"
    rw [show 97 + (e_ ns (k + 1 + i) 26).toNat=ET ns k i from rfl]
   ·show (a.cps++#[_]).size + bP.length<=900
    rw [NE]
    show a.cps.size + 1 + bP.length<=900
    have:a.length=a.cps.size:=rfl
    omega
  ·rintro ρ' ⟨_,z,rfl⟩
   walk_at "zz"
   have:(bZ (uD ns k)).foldl (fun (a:Str) i=>a++⟨#[ET ns k i]⟩) ""=lX ns k:=by
    have:=EU ((bZ (uD ns k)).map (ET ns k)) ""
    rw [List.foldl_map] at this
    rw [this,MM]
    unfold lX
    rw [s9]
   rw [this]
 ·walk_at "zz"
  rw [eI ns k 6 hk (by decide)]
  walk_at "zz"
  have et:=Th (e_ ns k 6) h0 h1
  have ew:[1,2,3,6,1,4].getD (e_ ns k 6).toNat 0=uD ns k:=rfl
  rw [ew] at et
  rw [et]
  walk_at "zz"
  rw [zS (uD ns k) (by omega)]
def mI (l:List (Str×D)):List (D×D):=l.map fun p=>(.str p.1,p.2)
def wJ (l:List (Str×D)) (x:Str) (d:D):List (Str×D):=if l.any (fun p=>decide (p.1=x)) then l.map (fun p=>if p.1=x then (p.1,d) else p) else l++[(x,d)]
theorem t_ (x y:Str):bK (.str x) (.str y)=decide (x=y):=by
 show (x == y)=_
 rw [tK]
theorem Ti (l:List (Str×D)) (x:Str) (d:D):Jd (mI l) (.str x) d=mI (wJ l x d):=by
 unfold Jd wJ mI
 rw [List.any_map]
 have e:((fun kv:D×D=>bK kv.1 (.str x))∘fun p:Str×D=>(aM p.1,p.2))=fun p=>decide (p.1=x):=by
  funext p
  exact t_ p.1 x
 rw [e]
 split
 ·rw [gM,gM]
  apply vO
  intro p _
  simp only [Function.comp,t_]
  by_cases h:p.1=x
  ·simp [h]
  ·simp [h]
 ·simp
theorem A_ (l:List (Str×D)):il (mI l)=true:=by
 unfold il mI
 rw [rV,eA]
 intro p _
 rfl
theorem GW (l:List (Str×D)) (x:Str) (d:D):(wJ l x d).length<=l.length + 1:=by
 unfold wJ
 split<;>simp
theorem DK (l:List (Str×D)) (x:Str) (d:D):(wJ l x d).map (·.1)=if x∈l.map (·.1) then l.map (·.1) else l.map (·.1)++[x]:=by
 unfold wJ
 have e:(l.any fun p=>decide (p.1=x))=decide (x∈l.map (·.1)):=by
  rw [iG]
  simp only [zI,decide_eq_true_eq,List.mem_map]
 rw [e]
 by_cases h:x∈l.map (·.1)
 ·rw [decide_eq_true h,if_pos rfl,if_pos h,gM]
  apply vO
  intro p _
  by_cases hp:p.1=x<;>simp [hp]
 ·rw [decide_eq_false h,if_neg ba,if_neg h,iH]
  rfl
theorem Qa {Q:Str->D->Prop}{l:List (Str×D)}{x:Str}{d:D} (h:∀ p∈l,Q p.1 p.2) (hx:Q x d):∀ p∈wJ l x d,Q p.1 p.2:=by
 unfold wJ
 split
 ·intro p hp
  obtain ⟨p',hp',rfl⟩:=List.mem_map.mp hp
  by_cases e:p'.1=x
  ·rw [if_pos e];rw [e];exact hx
  ·rw [if_neg e];exact h p' hp'
 ·intro p hp
  rcases List.mem_append.mp hp with hp | hp
  ·exact h p hp
  ·rw [List.mem_singleton.mp hp];exact hx
theorem MN {l:List Str}{x:Str} (h:l.Nodup):(if x∈l then l else l++[x]).Nodup:=by
 by_cases hx:x∈l
 ·rw [if_pos hx];exact h
 ·rw [if_neg hx];exact KN h hx
theorem V8 {i:Nat}{gk g:au->R D}{ρ:au}{l:List (Str×D)}{x:Str}{d:D} (hi:ρ[i]?=some (Sl.own (.dict (mI l)))) (hg:g ρ=.ok d) (hk:gk ρ=.ok (.str x)) (hl:l.length<1000):EK i gk g ρ=.ok (.nx (ρ.set i (.own (.dict (mI (wJ l x d)))))):=by
 have hl':(mI l).length<1000:=by unfold mI;rw [aN];exact hl
 have e:EK i gk g ρ=(g ρ).bind fun d=>(gk ρ).bind fun k=>match wt k with
  | some _=>if (mI l).length<1000/\il (mI l)=true then .ok (.nx (ρ.set i (.own (.dict (Jd (mI l) k d))))) else .no
  | none=>.no:=by
  unfold EK
  simp only [hi]
  try rfl
 rw [e,hg,EL,hk,EL]
 simp only [wt,if_pos (A8 hl' (A_ l)),Ti]
theorem GX (l:List (Str×D)):ki (.dict (mI l))=.ok (.list ((l.map (·.1)).map .str)):=by
 have e:∀ kvs,ki (.dict kvs)=if il kvs=true then .ok (.list (kvs.map (·.1))) else .no:=fun _=>rfl
 rw [e,if_pos (A_ l)]
 unfold mI
 rw [gM,gM]
 rfl
theorem sorted_strs (ss:List Str) (h:ss.length<64):tQ (.list (ss.map .str))=.ok (.list ((kR ss).map .str)):=by
 have e:∀ ds,tQ (.list ds)=match gU ds with
  | some ss=>if ss.length<64 then .ok (.list ((kR ss).map .str)) else .no
  | none=>.no:=fun _=>rfl
 rw [e,strsOf_map]
 simp only [if_pos h]
theorem iZ (ds:List D):iE (.list ds)=.ok (.tuple ds):=id rfl
def EV (ns:List Int) (k:Int) (n:Nat):List Str:=(bZ n).map fun (i:Nat)=>lX ns (k + 1 + 8 * (i:Int))
def EW (ns:List Int) (k m:Int):List Str:=kR (fc [] (EV ns k (e_ ns k (m + 1)).toNat))
structure Jr (fs:List Str) (n:Nat):Prop where
 ok:∀ x∈fs,wI x=true
 up:fs.Pairwise fun a b=>nR a b=true
 len:fs.length<=n
theorem Qb {α:Type}{a b:List α} (h:a.Perm b):a.length=b.length:=h.length_eq
theorem Js (ns:List Int) (k m:Int) (hm:0<=m):Jr (EW ns k m) m.toNat:=by
 have h0:=eu ns k (m + 1) (by omega)
 have h1:=eV ns k (m + 1) (by omega)
 have hp:=jI (fc [] (EV ns k (e_ ns k (m + 1)).toNat))
 refine ⟨fun x hx=>?_,?_,?_⟩
 ·have hx:=hp.mem_iff.mp hx
  rw [pS] at hx
  rcases hx with hx | hx
  ·cases hx
  ·obtain ⟨i,_,rfl⟩:=List.mem_map.mp hx
   exact GV _ _
 ·exact Dt (wf _) (hp.nodup_iff.mpr (n_ _ [] nZ))
 ·unfold EW
  rw [Qb hp]
  have:=mD (EV ns k (e_ ns k (m + 1)).toNat) []
  unfold EV at this ⊢
  simp at this
  omega
theorem MO (f:Nat->Str) (l:List Nat):∀ acc:List (Str×D),((l.foldl (fun (a:List (Str×D)) i=>wJ a (f i) (.bool true)) acc).map (·.1))=fc (acc.map (·.1)) (l.map f):=by
 induction l with
 | nil=>intro acc;rfl
 | cons i r ih =>
  intro acc
  rw [C4,ih,bd,DK]
  rfl
theorem Qc (ns:List Int) (k m:Int) (hk:0<=k) (hm:0<=m) (hm2:m<=20):oh [.list (ns.map .int),.int k,.int m]=.ok (.tuple ((EW ns k m).map .str)):=by
 have h0:=eu ns k (m + 1) (by omega)
 have h1:=eV ns k (m + 1) (by omega)
 unfold oh
 refine cB ?_
 unfold og bi
 walk_at "zz"
 rw [yI (ds:=(bZ (e_ ns k (m + 1)).toNat).map fun (i:Nat)=>ed i)]
 ·refine Ls (fun (i:Nat)=>ed i) (fun (a:List (Str×D)) i=>wJ a (lX ns (k + 1 + 8 * (i:Int))) (.bool true)) (fun bP a ρ=>a.length + bP.length<=60/\∃ z,ρ=[.shr (.list (ns.map .int)),.shr (.int k),.shr (.int m),.own (.dict (mI a)),z]) [] ?_ ⟨by simp;omega,_,rfl⟩ ?_
  ·rintro i bP a ρ ⟨hl,z,rfl⟩
   simp only [cc] at hl
   refine ⟨_,[.shr (.list (ns.map .int)),.shr (.int k),.shr (.int m),.own (.dict (mI (wJ a (lX ns (k + 1 + 8 * (i:Int))) (.bool true)))),.shr (.int i)],rfl,?_,?_,_,rfl⟩
   ·refine (V8 (l:=a) (x:=lX ns (k + 1 + 8 * (i:Int))) (d:=.bool true) rfl rfl ?_ (by omega)).trans rfl
    walk_at "zz"
    rw [tZ (by decide) (by decide)]
    walk_at "zz"
    rw [Lv ns _ (by omega)]
   ·have:=GW a (lX ns (k + 1 + 8 * (i:Int))) (.bool true)
    omega
  ·rintro ρ' ⟨hl,z,rfl⟩
   simp only [gC] at hl
   walk_at "zz"
   rw [GX]
   walk_at "zz"
   have ek:=MO (fun i=>lX ns (k + 1 + 8 * (i:Int))) (bZ (e_ ns k (m + 1)).toNat) []
   rw [ek,sorted_strs]
   ·walk_at "zz"
    rw [iZ]
    walk_at "zz"
    rfl
   ·rw [<- ek,aN];omega
 ·walk_at "zz"
  rw [eI ns k (m + 1) hk (by omega)]
  walk_at "zz"
  have:=zS (e_ ns k (m + 1)).toNat (by omega)
  rw [cH h0] at this
  exact this
structure lK where
 name:Str
 needs:List Str
 bars:List Str
 makes:List Str
 ends:List Str
 price:Int
abbrev bB (xs:List Str):D:=.tuple (xs.map .str)
def iM (e:lK):D:=.tuple [.str e.name,bB e.needs,bB e.bars,bB e.makes,bB e.ends,.int e.price]
structure Sub (fs xs:List Str):Prop where
 up:xs.Pairwise fun a b=>nR a b=true
 mem:∀ x∈xs,x∈fs
structure wK (fs:List Str) (e:lK):Prop where
 name:wI e.name=true
 needs:Sub fs e.needs
 bars:Sub fs e.bars
 makes:Sub fs e.makes
 ends:Sub fs e.ends
 nb:∀ x∈e.needs,x∉e.bars
 me:∀ x∈e.makes,x∉e.ends
 p0:0<=e.price
 p9:e.price<=9
def Lw (xs:List Str):List Str:=kR (fc [] xs)
theorem u0 {xs:List Str}{x:Str}:x∈Lw xs↔x∈xs:=by
 unfold Lw
 rw [(jI _).mem_iff,pS]
 simp
theorem Wx (xs:List Str):(Lw xs).Pairwise fun a b=>nR a b=true:=Dt (wf _) ((jI _).nodup_iff.mpr (n_ _ [] nZ))
theorem zT {fs xs:List Str} (h:∀ x∈xs,x∈fs):Sub fs (Lw xs):=⟨Wx xs,fun x hx=>h x (u0.mp hx)⟩
theorem EX (fs:List Str) (j:Int) (h0:0<=j) (h1:j<fs.length):∃ x,x∈fs/\bD (bB fs) (.int j)=.ok (.str x):=by
 have hj:j.toNat<fs.length:=by omega
 refine ⟨fs[j.toNat],hW hj,?_⟩
 have e:∀ xs k,bD (.tuple xs) k=Gu (.tuple xs) k:=fun _ _=>rfl
 rw [e]
 have hx:=qJ (xs:=fs.map aM) (j:=j.toNat) (v:=.str fs[j.toNat]) (by rw [aT,bg hj];rfl)
 rw [cH h0] at hx
 unfold Gu
 simp only [hx]
theorem B0 (x:Str):∀ ys:List Str,((ys.map aM).any fun y=>bK y (.str x))=decide (x∈ys)
 | []=>rfl
 | y::r=>by
  rw [bd,fG,B0 x r,t_]
  by_cases h:y=x
  ·subst h;simp
  ·simp [h,fM h]
theorem B1 (ys:List Str):(ys.map aM).all mB=true:=by
 rw [rV,eA];intro _ _;rfl
theorem Tj (neg:Bool) (x:Str) (ys:List Str):NG neg (.str x) (.list (ys.map .str))=.ok (.bool (if neg then !decide (x∈ys) else decide (x∈ys))):=by
 have e:NG neg (.str x) (.list (ys.map .str))=if mB (.str x) && (ys.map aM).all mB then .ok (.bool (if neg then !((ys.map aM).any fun y=>bK y (.str x)) else (ys.map aM).any fun y=>bK y (.str x))) else .no:=rfl
 rw [e,B1,B0]
 rfl
theorem EY (neg:Bool) (x:Str) (ys:List Str):NG neg (.str x) (bB ys)=.ok (.bool (if neg then !decide (x∈ys) else decide (x∈ys))):=by
 have e:NG neg (.str x) (bB ys)=if mB (.str x) && (ys.map aM).all mB then .ok (.bool (if neg then !((ys.map aM).any fun y=>bK y (.str x)) else (ys.map aM).any fun y=>bK y (.str x))) else .no:=rfl
 rw [e,B1,B0]
 rfl
theorem ft (neg:Bool) (a b:Int):mz neg (.int a) (.int b)=.ok (.bool (if neg then !decide (a=b) else decide (a=b))):=by
 have e:mz neg (.int a) (.int b)=.ok (.bool (if neg then !(a == b) else (a == b))):=rfl
 rw [e,tK]
theorem wL {x:Str} (h:wI x=true):(aM x).canLay0=true:=by
 unfold wI at h
 simp only [aL,eA,decide_eq_true_eq] at h
 show PyData.strOk x=true
 unfold PyData.strOk
 rw [<- z9,eA]
 intro c hc
 have:=h.2 c hc
 exact decide_eq_true (by omega)
theorem EZ (neg:Bool) {x y:Str} (hx:wI x=true) (hy:wI y=true):mz neg (.str x) (.str y)=.ok (.bool (if neg then !decide (x=y) else decide (x=y))):=by
 unfold mz
 rw [wL hx,wL hy,t_]
 rfl
theorem Jt (ss:List Str) (h:ss.length<60):AH (.list (ss.map .str))=.ok (fc [] ss):=by
 have e:∀ ds,AH (.list ds)=match gU ds with
  | some ss=>if ss.length<60 then .ok (fc [] ss) else .no
  | none=>.no:=fun _=>rfl
 rw [e,strsOf_map]
 simp only [if_pos h]
theorem Tk (g:au->R D) (s:Sl) (ρ:au):xM g (s::ρ)=(g (s::ρ)).bind AH:=id rfl
def V9:List Str->R D:=fun ss=>if ss.length<64 then .ok (.list ((kR ss).map .str)) else .no
theorem MP (g:au->R (List Str)) (s:Sl) (ρ:au):pX g (s::ρ)=(g (s::ρ)).bind V9:=id rfl
theorem Qd (ss:List Str) (h:ss.length<64):V9 ss=.ok (.list ((kR ss).map .str)):=if_pos h
theorem MQ (ss:List Str) (h:ss.length<60) (ρ:au):(cJ (J.ac (pX (xM (rB 0))) J.aq) (jQ iE)) (.shr (.list (ss.map .str))::ρ)=.ok (bB (Lw ss)):=by
 walk_at "zz"
 rw [MP,Tk]
 walk_at "zz"
 rw [Jt ss h]
 walk_at "zz"
 rw [Qd _ (by have:=mD ss [];simp at this;omega)]
 walk_at "zz"
 rw [iZ]
 rfl
theorem GY {ρ:au}{gt:au->R Bool}{x:Str}{b:Bool}{s:Sl}{r:au} (hρ:ρ=s::r) (h:gt (.shr (.str x)::r)=.ok b):ik (ji 1 ρ gt (rS 0)) [.str x]=.ok ((if b then [x] else []).map .str):=by
 subst hρ
 have e:=S_ (ρ:=s::r) (gt:=gt) (ge:=(rS 0)) (d:=.str x) (y:=.str x) (b:=b) h fun _=>rfl
 unfold ik
 rw [e,EL]
 unfold ik
 rw [EL]
 cases b<;>rfl
theorem Wz (p q r t:List Str) (hp:p.length<60) (hq:q.length<60) (hr:r.length<60) (ht:t.length<60):ik (ji 1 [Sl.no] kT (cJ (J.ac (pX (xM (rB 0))) J.aq) (jQ iE))) [.list (p.map .str),.list (q.map .str),.list (r.map .str),.list (t.map .str)]=.ok [bB (Lw p),bB (Lw q),bB (Lw r),bB (Lw t)] :=
 eF _ (fun ss:List Str=>fA (ss.map .str)) (fun ss=>bB (Lw ss)) [p,q,r,t] fun ss hs=>gR rfl (MQ ss (by simp at hs;rcases hs with h | h | h | h<;>(rw [h];assumption)) _)
theorem Va (a b c d:D):bD (.list [a,b,c,d]) (.int 0)=.ok a:=id rfl
theorem Vb (a b c d:D):bD (.list [a,b,c,d]) (.int 1)=.ok b:=id rfl
theorem Vc (a b c d:D):bD (.list [a,b,c,d]) (.int 2)=.ok c:=id rfl
theorem Vd (a b c d:D):bD (.list [a,b,c,d]) (.int 3)=.ok d:=id rfl
theorem Tl (ns:List Int) (k:Int) (hk:0<=k) (fs:List Str) (hf:∀ x∈fs,wI x=true) (h0:0<fs.length) (nm:Str) (hn:wI nm=true) :
  ∃ e,r6 [.list (ns.map .int),.int k,bB fs,.str nm]=.ok (iM e)/\wK fs e/\e.name=nm:=by
 have hl:(0:Int)<(fs.length:Int):=by omega
 obtain ⟨a,ha,ea⟩:=EX fs (e_ ns (k + 10) fs.length) (eu _ _ _ hl) (eV _ _ _ hl)
 obtain ⟨b,hb,eb⟩:=EX fs (e_ ns (k + 11) fs.length) (eu _ _ _ hl) (eV _ _ _ hl)
 obtain ⟨c,hc,ec⟩:=EX fs (e_ ns (k + 12) fs.length) (eu _ _ _ hl) (eV _ _ _ hl)
 have m13a:=eu ns (k + 13) 3 (by decide)
 have m13b:=eV ns (k + 13) 3 (by decide)
 obtain ⟨nd,hnd,hnl,end_⟩:∃ nd:List Str,(∀ x∈nd,x∈fs)/\nd.length<60/\Dz (.list [.str a,.str b]) none (some (1 + e_ ns (k + 13) 3 / 2))=.ok (.list (nd.map .str)):=by
  by_cases h2:e_ ns (k + 13) 3=2
  ·exact ⟨[a,b],by simp [ha,hb],by simp,by rw [h2];rfl⟩
  ·have:e_ ns (k + 13) 3 / 2=0:=by omega
   exact ⟨[a],by simp [ha],by simp,by rw [this];rfl⟩
 let bb:Bool:=!decide (c∈nd) && decide (e_ ns (k + 14) 4=0)
 let be:Bool:=!decide (a=c) && decide (e_ ns (k + 15) 3=0)
 have p0:=eu ns k 5 (by decide)
 have p1:=eV ns k 5 (by decide)
 refine ⟨⟨nm,Lw nd,Lw (if bb then [c] else []),Lw [c],Lw (if be then [a] else []),e_ ns k 5⟩,?_,⟨hn,zT hnd,zT ?_,zT (by simp [hc]),zT ?_,fun x h1 h2=>?_,fun x h1 h2=>?_,p0,by show e_ ns k 5<=9;omega⟩,rfl⟩
 ·unfold r6
  refine cB ?_
  unfold r0 bi
  walk_at "zz"
  rw [eI ns _ _ (by omega) hl]
  walk_at "zz"
  rw [ea]
  walk_at "zz"
  rw [eI ns (k + 11) _ (by omega) hl]
  walk_at "zz"
  rw [eb]
  walk_at "zz"
  rw [eI ns (k + 12) _ (by omega) hl]
  walk_at "zz"
  rw [ec]
  walk_at "zz"
  rw [eI ns (k + 13) 3 (by omega) (by decide)]
  walk_at "zz"
  simp only [IG,decide_true,vW,if_true]
  walk_at "zz"
  rw [end_]
  walk_at "zz"
  rw [GY (b:=bb) rfl]
  ·walk_at "zz"
   rw [GY (b:=be) rfl]
   ·walk_at "zz"
    simp only [Zh]
    rw [P_ rfl,P_ rfl]
    walk_at "zz"
    have pk:=Wz nd (if bb then [c] else []) [c] (if be then [a] else []) hnl (by cases bb<;>simp) (by simp) (by cases be<;>simp)
    rw [show ([c].map aM)=[aM c] from rfl] at pk
    rw [pk]
    walk_at "zz"
    rw [Va]
    walk_at "zz"
    rw [Vb]
    walk_at "zz"
    rw [Vc]
    walk_at "zz"
    rw [Vd]
    walk_at "zz"
    rw [eI ns k 5 hk (by decide)]
    walk_at "zz"
    rfl
   ·walk_at "zz"
    rw [EZ true (hf a ha) (hf c hc)]
    walk_at "zz"
    by_cases hac:a=c
    ·simp only [be,hac,decide_true,qA,D4,if_true,cond_false]
    ·simp only [be,hac,decide_false,hX,FS,if_true,cond_true]
     rw [eI ns (k + 15) 3 (by omega) (by decide)]
     walk_at "zz"
     rw [ft]
     walk_at "zz"
  ·walk_at "zz"
   rw [Tj]
   walk_at "zz"
   by_cases hcn:c∈nd
   ·simp only [bb,hcn,decide_true,qA,D4,if_true,cond_false]
   ·simp only [bb,hcn,decide_false,hX,FS,if_true,cond_true]
    rw [eI ns (k + 14) 4 (by omega) (by decide)]
    walk_at "zz"
    rw [ft]
    walk_at "zz"
 ·intro x hx
  cases hbb:bb
  ·simp [hbb] at hx
  ·simp [hbb] at hx;rw [hx];exact hc
 ·intro x hx
  cases hbe:be
  ·simp [hbe] at hx
  ·simp [hbe] at hx;rw [hx];exact ha
 ·have h2:x∈(if bb then [c] else []):=u0.mp h2
  cases hbb:bb
  ·simp [hbb] at h2
  ·simp [hbb] at h2
   subst h2
   have:(!decide (x∈nd))=true:=by
    have:(!decide (x∈nd) && decide (e_ ns (k + 14) 4=0))=true:=hbb
    simp only [aL] at this
    exact this.1
   simp at this
   exact this (u0.mp h1)
 ·cases hbe:be
  ·have h2:x∈(if be then [a] else []):=u0.mp h2
   simp [hbe] at h2
  ·skip
   have h4:x∈[c]:=u0.mp h1
   have h5:x∈(if be then [a] else []):=u0.mp h2
   simp only [fQ] at h4
   simp only [hbe,if_true,fQ] at h5
   have:(!decide (a=c) && decide (e_ ns (k + 15) 3=0))=true:=hbe
   simp only [aL] at this
   have h3:=this.1
   simp at h3
   exact h3 (h5.symm.trans h4)
theorem E_ {i:Nat}{gi g:au->R D}{ρ:au}{dss:List (List D)}{ds:List D}{d:D}{j:Int} (hi:ρ[i]?=some (Sl.ow2 dss)) (hj:gi ρ=.ok (.int j)) (h0:0<=j) (hd:dss[j.toNat]?=some ds) (hg:g ρ=.ok d) (hl:ds.length<1000):pY i gi g ρ=.ok (.nx (ρ.set i (.ow2 (dss.set j.toNat (ds++[d]))))):=by
 unfold pY
 simp only [hi,hj,bind_ok,if_pos h0,hd,hg,if_pos hl]
def oj (n:Nat):List Str->List (Nat×Str)
 | []=>[]
 | x::r=>(n,x)::oj (n + 1) r
abbrev cI (p:Nat×Str):D:=.tuple [.int (p.1:Nat),.str p.2]
theorem zU:∀ (xs:List Str) (n:Nat),pV n (xs.map .str)=(oj n xs).map cI
 | [],_=>rfl
 | x::r,n=>by
  show ic [.int n,.str x]::pV (n + 1) (r.map .str)=cI (n,x)::(oj (n + 1) r).map cI
  rw [zU r (n + 1)]
theorem u3:∀ (xs:List Str) (n:Nat),(oj n xs).map (·.2)=xs
 | [],_=>rfl
 | x::r,n=>by
  show x::(oj (n + 1) r).map (·.2)=x::r
  rw [u3 r]
theorem GZ:∀ (fs:List Str),(∀ x∈fs,wI x=true)->dq (fs.map .str)=true
 | [],_=>rfl
 | x::r,h=>by
  have h1:=wL (h x ay)
  have h2:=GZ r fun y hy=>h y (aA _ hy)
  simp only [bd,dq,h1,h2,vW]
theorem zV (fs:List Str) (hf:∀ x∈fs,wI x=true):mz true (bB fs) (.tuple [])=.ok (.bool (!decide (fs=[]))):=by
 unfold mz
 have h1:(bB fs).canLay0=true:=by simp only [j2];exact GZ fs hf
 have h2:(ic []).canLay0=true:=rfl
 have h3:min (bB fs).depth (ic []).depth<=60:=c7 (rL _ _) (by decide)
 have h4:bK (bB fs) (.tuple [])=decide (fs=[]):=by
  cases fs with
  | nil=>rfl
  | cons x r=>simp [bK,Dd]
 rw [h1,h2,decide_eq_true h3,h4]
 rfl
structure o_ (pre p q:List Str):Prop where
 sp:p.Sublist pre
 sq:q.Sublist pre
 d:∀ x∈p,x∉q
theorem o_.skip {pre p q:List Str} (h:o_ pre p q) (x:Str):o_ (pre++[x]) p q:=⟨h.sp.trans (jO _ _),h.sq.trans (jO _ _),h.d⟩
theorem o_.left {pre p q:List Str} (h:o_ pre p q) (x:Str) (hx:x∉pre):o_ (pre++[x]) (p++[x]) q:=⟨h.sp.append (eU _),h.sq.trans (jO _ _),fun y hy hq=>by
 rcases List.mem_append.mp hy with h1 | h1
 ·exact h.d y h1 hq
 ·rw [List.mem_singleton.mp h1] at hq
  exact hx (h.sq.subset hq)⟩
theorem o_.right {pre p q:List Str} (h:o_ pre p q) (x:Str) (hx:x∉pre):o_ (pre++[x]) p (q++[x]):=⟨h.sp.trans (jO _ _),h.sq.append (eU _),fun y hy hq=>by
 rcases List.mem_append.mp hq with h1 | h1
 ·exact h.d y hy h1
 ·rw [List.mem_singleton.mp h1] at hy
  exact hx (h.sp.subset hy)⟩
abbrev o4 (p q r t:List Str):Sl:=.ow2 [p.map .str,q.map .str,r.map .str,t.map .str]
theorem YE (j:Int) (h0:0<=j) (h1:j<3):∃ b:Bool,bD (.list [.int 0,.int 0,.int 1]) (.int j)=.ok (.int (if b then 0 else 1)):=by
 have:j=0\/j=1\/j=2:=by omega
 rcases this with h | h | h<;>subst h
 ·exact ⟨true,rfl⟩
 ·exact ⟨true,rfl⟩
 ·exact ⟨false,rfl⟩
theorem YF (j:Int) (h0:0<=j) (h1:j<4):∃ b:Bool,bD (.list [.int 2,.int 2,.int 3,.int 3]) (.int j)=.ok (.int (if b then 2 else 3)):=by
 have:j=0\/j=1\/j=2\/j=3:=by omega
 rcases this with h | h | h | h<;>subst h
 ·exact ⟨true,rfl⟩
 ·exact ⟨true,rfl⟩
 ·exact ⟨false,rfl⟩
 ·exact ⟨false,rfl⟩
theorem wM (p:List Str) (x:Str):(p++[x]).map aM=p.map .str++[.str x]:=by simp
theorem Qe {a b c d e f:Sl}{pre p q r t:List Str}{x:Str}{j:Int} (hp:o_ pre p q) (hx:x∉pre) (hl:pre.length<900) (h0:0<=j) :
  ∃ p' q',o_ (pre++[x]) p' q'/\ev (gN (g2 (rB 7) (kI 3) C6)) (pY 4 (g2 (bq (J.ac (kI 0) (J.ac (kI 0) (J.ac (kI 1) J.aq))) .list) (rB 7) bD) (rS 6)) (fun ρ=>.ok (.nx ρ)) [a,b,c,d,o4 p q r t,e,.shr (.str x),.shr (.int j),f]=.ok (.nx [a,b,c,d,o4 p' q' r t,e,.shr (.str x),.shr (.int j),f]):=by
 by_cases h3:j<3
 ·obtain ⟨bo,e3⟩:=YE j h0 h3
  have lp:p.length<1000:=by have:=hp.sp.length_le;omega
  have lq:q.length<1000:=by have:=hp.sq.length_le;omega
  cases bo
  ·refine ⟨p,q++[x],hp.right x hx,?_⟩
   walk_at "zz"
   rw [decide_eq_true h3]
   walk_at "zz"
   simp only [o4,wM]
   refine (E_ (j:=1) (ds:=q.map .str) (d:=.str x) rfl ?_ (by decide) rfl rfl (by rw [aN];exact lq)).trans rfl
   walk_at "zz"
   rw [e3]
   rfl
  ·refine ⟨p++[x],q,hp.left x hx,?_⟩
   walk_at "zz"
   rw [decide_eq_true h3]
   walk_at "zz"
   simp only [o4,wM]
   refine (E_ (j:=0) (ds:=p.map .str) (d:=.str x) rfl ?_ (by decide) rfl rfl (by rw [aN];exact lp)).trans rfl
   walk_at "zz"
   rw [e3]
   rfl
 ·refine ⟨p,q,hp.skip x,?_⟩
  walk_at "zz"
  rw [decide_eq_false h3]
  walk_at "zz"
theorem Qf {a b c d e f:Sl}{pre p q r t:List Str}{x:Str}{j:Int} (hp:o_ pre r t) (hx:x∉pre) (hl:pre.length<900) (h0:0<=j) :
  ∃ r' t',o_ (pre++[x]) r' t'/\ev (gN (g2 (rB 7) (kI 4) C6)) (pY 4 (g2 (bq (J.ac (kI 2) (J.ac (kI 2) (J.ac (kI 3) (J.ac (kI 3) J.aq)))) .list) (rB 7) bD) (rS 6)) (fun ρ=>.ok (.nx ρ)) [a,b,c,d,o4 p q r t,e,.shr (.str x),.shr (.int j),f]=.ok (.nx [a,b,c,d,o4 p q r' t',e,.shr (.str x),.shr (.int j),f]):=by
 by_cases h3:j<4
 ·obtain ⟨bo,e3⟩:=YF j h0 h3
  have lp:r.length<1000:=by have:=hp.sp.length_le;omega
  have lq:t.length<1000:=by have:=hp.sq.length_le;omega
  cases bo
  ·refine ⟨r,t++[x],hp.right x hx,?_⟩
   walk_at "zz"
   rw [decide_eq_true h3]
   walk_at "zz"
   simp only [o4,wM]
   refine (E_ (j:=3) (ds:=t.map .str) (d:=.str x) rfl ?_ (by decide) rfl rfl (by rw [aN];exact lq)).trans rfl
   walk_at "zz"
   rw [e3]
   rfl
  ·refine ⟨r++[x],t,hp.left x hx,?_⟩
   walk_at "zz"
   rw [decide_eq_true h3]
   walk_at "zz"
   simp only [o4,wM]
   refine (E_ (j:=2) (ds:=r.map .str) (d:=.str x) rfl ?_ (by decide) rfl rfl (by rw [aN];exact lp)).trans rfl
   walk_at "zz"
   rw [e3]
   rfl
 ·refine ⟨r,t,hp.skip x,?_⟩
  walk_at "zz"
  rw [decide_eq_false h3]
  walk_at "zz"
theorem YG (i:Nat) (ρ:au):SO i ρ=.ok (.nx ((clear2 ρ).set i (.ow2 [[],[],[],[]]))):=id rfl
theorem o_.sub {fs p q:List Str} (up:fs.Pairwise fun a b=>nR a b=true) (h:o_ fs p q):Sub fs p/\Sub fs q:=⟨⟨up.sublist h.sp,fun x hx=>h.sp.subset hx⟩,⟨up.sublist h.sq,fun x hx=>h.sq.subset hx⟩⟩
theorem Qg (p:List Str) (ρ:au):(cJ (J.ac (rB 0) J.aq) (jQ iE)) (.shr (.list (p.map .str))::ρ)=.ok (bB p):=by
 walk_at "zz"
 rw [iZ]
theorem YH (p q r t:List Str):ik (ji 1 [Sl.no] kT (cJ (J.ac (rB 0) J.aq) (jQ iE))) [.list (p.map .str),.list (q.map .str),.list (r.map .str),.list (t.map .str)]=.ok [bB p,bB q,bB r,bB t] :=
 eF _ (fun ss:List Str=>fA (ss.map .str)) (fun ss=>bB ss) [p,q,r,t] fun ss hs=>gR rfl (Qg ss _)
theorem MR (ns:List Int) (k:Int) (hk:0<=k) (fs:List Str) (hf:∀ x∈fs,wI x=true) (up:fs.Pairwise fun a b=>nR a b=true) (nd:fs.Nodup) (hl:fs.length<=6) (nm:Str) (hn:wI nm=true) :
  ∃ e,j9 [.list (ns.map .int),.int k,bB fs,.str nm]=.ok (iM e)/\wK fs e/\e.name=nm:=by
 have p0:=eu ns k 5 (by decide)
 have p1:=eV ns k 5 (by decide)
 have go:∀ ρ:au,ρ=[.shr (.list (ns.map .int)),.shr (.int k),.shr (bB fs),.shr (.str nm),.no,.no,.no,.no,.no]->(!decide (fs=[]) && decide (e_ ns 97 2=0))=false->∃ e,j8 ρ=.ok (.rt (iM e))/\wK fs e/\e.name=nm:=by
  rintro ρ rfl hc
  obtain ⟨ρ',h1,p,q,r,t,h2,h3,h4⟩:∃ ρ',(v7 (Jc (J.ac (rS 2) J.aq)) (rN 2 (dR (cL 5) (dR (cL 6) uq))) (aC (fB 7 (da 3 aY (J.ac (rS 0) (J.ac (g2 (g2 (rB 1) (kI 10) cK) (rB 5) cK) (J.ac (kI 8) J.aq))))) (aC (ev (gN (g2 (rB 7) (kI 3) C6)) (pY 4 (g2 (bq (J.ac (kI 0) (J.ac (kI 0) (J.ac (kI 1) J.aq))) .list) (rB 7) bD) (rS 6)) (fun ρ=>.ok (.nx ρ))) (aC (fB 7 (da 3 aY (J.ac (rS 0) (J.ac (g2 (g2 (rB 1) (kI 20) cK) (rB 5) cK) (J.ac (kI 8) J.aq))))) (ev (gN (g2 (rB 7) (kI 4) C6)) (pY 4 (g2 (bq (J.ac (kI 2) (J.ac (kI 2) (J.ac (kI 3) (J.ac (kI 3) J.aq)))) .list) (rB 7) bD) (rS 6)) (fun ρ=>.ok (.nx ρ))))))) [.shr (.list (ns.map .int)),.shr (.int k),.shr (bB fs),.shr (.str nm),o4 [] [] [] [],.no,.no,.no,.no]=.ok (.nx ρ')/\∃ p q r t,o_ fs p q/\o_ fs r t/\∃ z5 z6 z7,ρ'=[.shr (.list (ns.map .int)),.shr (.int k),.shr (bB fs),.shr (.str nm),o4 p q r t,z5,z6,z7,.no]:=by
   rw [yI (ds:=(oj 0 fs).map cI)]
   ·have H:=sP cI (fun (a:Unit) (_:Nat×Str)=>a) (fun bP _ ρ=>∃ pre,pre++bP.map (·.2)=fs/\∃ p q r t,o_ pre p q/\o_ pre r t/\∃ z5 z6 z7,ρ=[.shr (.list (ns.map .int)),.shr (.int k),.shr (bB fs),.shr (.str nm),o4 p q r t,z5,z6,z7,.no]) (kt:=rN 2 (dR (cL 5) (dR (cL 6) uq))) (gb:=(aC (fB 7 (da 3 aY (J.ac (rS 0) (J.ac (g2 (g2 (rB 1) (kI 10) cK) (rB 5) cK) (J.ac (kI 8) J.aq))))) (aC (ev (gN (g2 (rB 7) (kI 3) C6)) (pY 4 (g2 (bq (J.ac (kI 0) (J.ac (kI 0) (J.ac (kI 1) J.aq))) .list) (rB 7) bD) (rS 6)) (fun ρ=>.ok (.nx ρ))) (aC (fB 7 (da 3 aY (J.ac (rS 0) (J.ac (g2 (g2 (rB 1) (kI 20) cK) (rB 5) cK) (J.ac (kI 8) J.aq))))) (ev (gN (g2 (rB 7) (kI 4) C6)) (pY 4 (g2 (bq (J.ac (kI 2) (J.ac (kI 2) (J.ac (kI 3) (J.ac (kI 3) J.aq)))) .list) (rB 7) bD) (rS 6)) (fun ρ=>.ok (.nx ρ)))))))
    obtain ⟨ρ',h1,pre,h2,p,q,r,t,h3,h4,h5⟩:=H (by
     rintro ⟨i,x⟩ bP _ ρ ⟨pre,h2,p,q,r,t,h3,h4,z5,z6,z7,rfl⟩
     have hx:x∉pre:=by
      rw [<- h2,bd] at nd
      have:=(List.nodup_append.mp nd).2.2
      intro hx
      exact this x hx x ay rfl
     have hpl:pre.length<900:=by
      have:=congrArg A3 h2
      rw [bw] at this
      omega
     obtain ⟨p',q',k1,k2⟩:=Qe (a:=.shr (.list (ns.map .int))) (b:=.shr (.int k)) (c:=.shr (bB fs)) (d:=.shr (.str nm)) (e:=.shr (.int (i:Nat))) (f:=.no) (r:=r) (t:=t) (j:=e_ ns (k + 10 + i) 8) h3 hx hpl (eu _ _ _ (by decide))
     obtain ⟨r',t',k3,k4⟩:=Qf (a:=.shr (.list (ns.map .int))) (b:=.shr (.int k)) (c:=.shr (bB fs)) (d:=.shr (.str nm)) (e:=.shr (.int (i:Nat))) (f:=.no) (p:=p') (q:=q') (j:=e_ ns (k + 20 + i) 8) h4 hx hpl (eu _ _ _ (by decide))
     refine ⟨[.shr (.list (ns.map .int)),.shr (.int k),.shr (bB fs),.shr (.str nm),o4 p q r t,.shr (.int (i:Nat)),.shr (.str x),z7,.no],[.shr (.list (ns.map .int)),.shr (.int k),.shr (bB fs),.shr (.str nm),o4 p' q' r' t',.shr (.int (i:Nat)),.shr (.str x),.shr (.int (e_ ns (k + 20 + i) 8)),.no],rfl,?_,pre++[x],?_,p',q',r',t',k1,k3,_,_,_,rfl⟩
     ·rw [GF,Pf]
      walk_at "yy"
      rw [eI ns _ 8 (by omega) (by decide)]
      walk_at "yy"
      rw [k2]
      walk_at "yy"
      rw [eI ns _ 8 (by omega) (by decide)]
      walk_at "yy"
      rw [k4]
     ·rw [<- h2];simp) (oj 0 fs) () [.shr (.list (ns.map .int)),.shr (.int k),.shr (bB fs),.shr (.str nm),o4 [] [] [] [],.no,.no,.no,.no] ⟨[],by rw [u3];rfl,[],[],[],[],⟨eU _,eU _,fun _ h=>nomatch h⟩,⟨eU _,eU _,fun _ h=>nomatch h⟩,_,_,_,rfl⟩
    refine ⟨ρ',h1,p,q,r,t,?_,?_,h5⟩
    ·simp only [gL,c_] at h2
     rw [<- h2];exact h3
    ·simp only [gL,c_] at h2
     rw [<- h2];exact h4
   ·walk_at "zz"
    rw [zU]
  obtain ⟨s1,s2⟩:=h2.sub up
  obtain ⟨s3,s4⟩:=h3.sub up
  obtain ⟨z5,z6,z7,rfl⟩:=h4
  refine ⟨⟨nm,p,q,r,t,e_ ns k 5⟩,?_,⟨hn,s1,s2,s3,s4,h2.d,h3.d,p0,by show e_ ns k 5<=9;omega⟩,rfl⟩
  unfold j8
  have hand:J6 (gN (g2 (rB 2) (bq J.aq .tuple) (mz true))) (gN (g2 (da 3 aY (J.ac (rS 0) (J.ac (kI 97) (J.ac (kI 2) J.aq)))) (kI 0) (mz false))) [.shr (.list (ns.map .int)),.shr (.int k),.shr (bB fs),.shr (.str nm),.no,.no,.no,.no,.no]=.ok false:=by
   walk_at "zz"
   rw [zV fs hf]
   walk_at "zz"
   by_cases h:fs=[]
   ·simp only [h,decide_true,qA,cond_false]
   ·simp only [h,decide_false,hX,cond_true,FS] at hc ⊢
    rw [eI ns 97 2 (by decide) (by decide)]
    walk_at "zz"
    rw [ft]
    walk_at "zz"
    rw [hc]
  rw [GF,Yc,hand]
  simp only [EL,Pd,YG,clear2,bd,gL,xo,xn,EL,sJ,GF]
  rw [show Sl.ow2 [[],[],[],[]]=o4 [] [] [] [] from rfl,h1]
  walk_at "zz"
  rw [YH]
  walk_at "zz"
  rw [Va]
  walk_at "zz"
  rw [Vb]
  walk_at "zz"
  rw [Vc]
  walk_at "zz"
  rw [Vd]
  walk_at "zz"
  rw [eI ns k 5 hk (by decide)]
  walk_at "zz"
  rfl
 by_cases hc:(!decide (fs=[]) && decide (e_ ns 97 2=0))=true
 ·have h0:0<fs.length:=by
   rcases fs with _ | ⟨x,r⟩
   ·simp at hc
   ·simp
  obtain ⟨e,h1,h2⟩:=Tl ns k hk fs hf h0 nm hn
  refine ⟨e,?_,h2⟩
  unfold j9
  refine cB ?_
  unfold j8 bi
  walk_at "zz"
  rw [zV fs hf]
  walk_at "zz"
  simp only [aL] at hc
  rw [hc.1]
  walk_at "zz"
  rw [eI ns 97 2 (by decide) (by decide)]
  walk_at "zz"
  rw [ft]
  walk_at "zz"
  rw [hc.2]
  walk_at "zz"
  rw [h1]
  walk_at "zz"
 ·obtain ⟨e,h1,h2⟩:=go _ rfl (Bool.eq_false_iff.mpr hc)
  exact ⟨e,by unfold j9;exact cB h1,h2⟩
theorem Qh (ds:List D) (t:Nat) (h:t<=ds.length):sB ds (some (t:Int)) none=ds.drop t:=by
 unfold sB
 rw [HT.KD,HT.G3,Nat.min_eq_left h,Ik (by rw [zF];exact az _)]
theorem Ju (ds:List D) (t:Nat) (h:t<=ds.length):sB ds none (some (t:Int))=ds.take t:=by
 unfold sB
 rw [HT.KD,HT.G3,Nat.min_eq_left h,List.drop_zero,Nat.sub_zero]
theorem YI (ds:List D) (t:Nat) (h:t<=ds.length):Dz (.list ds) (some (t:Int)) none=.ok (.list (ds.drop t)):=by
 rw [<- Qh ds t h];rfl
theorem YJ (ds:List D) (t:Nat) (h:t<=ds.length):Dz (.list ds) none (some (t:Int))=.ok (.list (ds.take t)):=by
 rw [<- Ju ds t h];rfl
theorem WA {l:List (Str×D)} (nd:(l.map (·.1)).Nodup) {p:Str×D} (hp:p∈l):bD (.dict (mI l)) (.str p.1)=.ok p.2:=by
 have e:∀ kvs x,bD (.dict kvs) (.str x)=if il kvs=true then (match wu kvs (.str x) with
   | some d=>.ok d
   | none=>.no) else .no:=fun _ _=>rfl
 rw [e,if_pos (A_ l)]
 have:wu (mI l) (.str p.1)=some p.2:=by
  unfold wu mI
  clear e
  induction l with
  | nil=>cases hp
  | cons q r ih =>
   rw [bd] at nd
   obtain ⟨n1,n2⟩:=List.nodup_cons.mp nd
   rw [bd,e7,t_]
   rcases List.mem_cons.mp hp with h | h
   ·subst h;simp
   ·have:q.1≠p.1:=fun z=>n1 (z ▸ M3 h)
    rw [decide_eq_false this]
    exact ih n2 h
 rw [this]
structure jj (fs:List Str) (es:List lK):Prop where
 rise:Jr fs 6
 len:es.length<=6
 nd:(es.map (·.name)).Nodup
 ok:∀ e∈es,wK fs e
def dm (fs:List Str) (es:List lK):D:=.tuple [bB fs,.tuple (es.map iM)]
theorem YK (fs:List Str):∀ (l:List (Str×D)),(∀ p∈l,∃ e,p.2=iM e/\wK fs e/\e.name=p.1)->∃ es:List lK,l.map (·.2)=es.map iM/\es.map (·.name)=l.map (·.1)/\∀ e∈es,wK fs e
 | [],_=>⟨[],rfl,rfl,fun _ h=>nomatch h⟩
 | p::r,h=>by
  obtain ⟨e,h1,h2,h3⟩:=h p ay
  obtain ⟨es,k1,k2,k3⟩:=YK fs r fun q hq=>h q (aA _ hq)
  refine ⟨e::es,by rw [bd,bd,h1,k1],by rw [bd,bd,h3,k2],fun x hx=>?_⟩
  rcases List.mem_cons.mp hx with z | z
  ·rw [z];exact h2
  ·exact k3 x z
theorem MS {α:Type} (l:List α) (t:Nat):(l.drop t++l.take t).Perm l:=by
 refine List.perm_append_comm.trans ?_
 rw [List.take_append_drop]
theorem om {l:List Str} (h:l.Pairwise fun a b=>nR a b=true):l.Nodup:=h.imp fun hab z=>by
 rw [z,qL] at hab
 cases hab
theorem Tn (ns:List Int) (k:Int) (hk:0<=k) (m n:Int) (hm0:0<=m) (hm:m<=6) (hn0:0<=n) (hn:n<=6):∃ fs es,nr [.list (ns.map .int),.int k,.int m,.int n]=.ok (dm fs es)/\jj fs es:=by
 have hr:=Js ns k m hm0
 generalize hfs:EW ns k m=fs at hr
 have hr:Jr fs 6:=⟨hr.ok,hr.up,by have:=hr.len;omega⟩
 have nd:=om hr.up
 have m0:=eu ns (k + 60) (n + 1) (by omega)
 have m1:=eV ns (k + 60) (n + 1) (by omega)
 suffices H:∃ es,nr [.list (ns.map .int),.int k,.int m,.int n]=.ok (dm fs es)/\jj fs es from H.elim fun es h=>⟨fs,es,h⟩
 unfold nr
 suffices H:∃ es,nq (bi 10 [.list (ns.map .int),.int k,.int m,.int n])=.ok (.rt (dm fs es))/\jj fs es from H.elim fun es h=>⟨es,cB h.1,h.2⟩
 have H:=sP (fun (i:Nat)=>ed i) (fun (a:Unit) (_:Nat)=>a) (fun bP _ ρ=>∃ l,l.length + bP.length<=6/\(l.map (·.1)).Nodup/\(∀ p∈l,∃ e,p.2=iM e/\wK fs e/\e.name=p.1)/\∃ z6 z7,ρ=[.shr (.list (ns.map .int)),.shr (.int k),.shr (.int m),.shr (.int n),.shr (bB fs),.own (.dict (mI l)),z6,z7,.no,.no]) (kt:=cL 6) (gb:=aC (fB 7 (da 2 lc (J.ac (rS 0) (J.ac (g2 (g2 (rB 1) (kI 70) cK) (g2 (kI 40) (rB 6) zg) cK) J.aq)))) (EK 5 (rS 7) (da 4 j9 (J.ac (rS 0) (J.ac (g2 (g2 (rB 1) (kI 80) cK) (g2 (kI 40) (rB 6) zg) cK) (J.ac (rS 4) (J.ac (rS 7) J.aq)))))))
 obtain ⟨ρ',h1,l,h2,h3,h4,z6,z7,h5⟩:=H (by
  rintro i bP _ ρ ⟨l,h2,h3,h4,z6,z7,rfl⟩
  simp only [cc] at h2
  have hw:=GV ns (k + 70 + 40 * (i:Int))
  obtain ⟨e,e1,e2,e3⟩:=MR ns (k + 80 + 40 * (i:Int)) (by omega) fs hr.ok hr.up nd hr.len (lX ns (k + 70 + 40 * (i:Int))) hw
  have pl:=GW l (lX ns (k + 70 + 40 * (i:Int))) (iM e)
  refine ⟨[.shr (.list (ns.map .int)),.shr (.int k),.shr (.int m),.shr (.int n),.shr (bB fs),.own (.dict (mI l)),.shr (.int i),z7,.no,.no],[.shr (.list (ns.map .int)),.shr (.int k),.shr (.int m),.shr (.int n),.shr (bB fs),.own (.dict (mI (wJ l (lX ns (k + 70 + 40 * (i:Int))) (iM e)))),.shr (.int i),.shr (.str (lX ns (k + 70 + 40 * (i:Int)))),.no,.no],rfl,?_,wJ l (lX ns (k + 70 + 40 * (i:Int))) (iM e),by omega,?_,?_,_,_,rfl⟩
  ·walk_at "zz"
   rw [tZ (by decide) (by decide)]
   walk_at "zz"
   rw [Lv ns _ (by omega)]
   walk_at "zz"
   refine (V8 (l:=l) (x:=lX ns (k + 70 + 40 * (i:Int))) (d:=iM e) rfl ?_ rfl (by omega)).trans rfl
   walk_at "zz"
   rw [tZ (by decide) (by decide)]
   walk_at "zz"
   exact e1
  ·rw [DK];exact MN h3
  ·exact Qa (Q:=fun x d=>∃ e,d=iM e/\wK fs e/\e.name=x) h4 ⟨e,rfl,e2,e3⟩) (bZ (e_ ns (k + 60) (n + 1)).toNat) () [.shr (.list (ns.map .int)),.shr (.int k),.shr (.int m),.shr (.int n),.shr (bB fs),.own (.dict (mI [])),.no,.no,.no,.no] ⟨[],by rw [kO];simp only [gC];omega,nZ,fun _ h=>(nomatch h),_,_,rfl⟩
 simp only [gC,Nat.add_zero] at h2
 have t0:=eu ns (k + 61) ((l.length:Int) + 1) (by omega)
 have t1:=eV ns (k + 61) ((l.length:Int) + 1) (by omega)
 obtain ⟨t,ht⟩:∃ t:Nat,e_ ns (k + 61) ((l.length:Int) + 1)=t:=⟨_,(cH t0).symm⟩
 have tl:t<=l.length:=by omega
 have pm:=MS l t
 obtain ⟨es,k1,k2,k3⟩:=YK fs (l.drop t++l.take t) fun p hp=>h4 p (pm.mem_iff.mp hp)
 have kl:es.length=l.length:=by
  have:=congrArg A3 k1
  rw [aN,aN,pm.length_eq] at this
  exact this.symm
 refine ⟨es,?_,hr,by omega,?_,k3⟩
 ·unfold nq bi
  walk_at "yy"
  rw [Qc ns k m hk hm0 (by omega),hfs]
  walk_at "yy"
  rw [yI (ds:=(bZ (e_ ns (k + 60) (n + 1)).toNat).map fun (i:Nat)=>ed i)]
  ·rw [show PyData.dict []=PyData.dict (mI []) from rfl,h1,h5]
   walk_at "yy"
   rw [GX]
   walk_at "yy"
   rw [eI ns _ _ (by omega) (by omega),ht]
   walk_at "yy"
   clear H h1
   rw [YI _ t (by simpa using tl)]
   walk_at "yy"
   rw [YJ _ t (by simpa using tl)]
   walk_at "yy"
   have e1:(List.drop t (De aM (De (fun x=>x.fst) l))++List.take t (De aM (De (fun x=>x.fst) l)))=(l.drop t++l.take t).map fun p=>aM p.1:=by
    rw [iH,List.map_drop,List.map_take,gM];rfl
   rw [e1,if_pos (by rw [<- bw,e1,aN,pm.length_eq];omega)]
   have pl:=pm.length_eq
   have px:∀ p∈l.drop t++l.take t,p∈l:=fun p hp=>pm.mem_iff.mp hp
   clear e1 pm k2
   generalize l.drop t++l.take t=L at pl px k1 ⊢
   walk_at "yy"
   rw [if_pos (by omega)]
   rw [eF _ (fun p:Str×D=>aM p.1) (fun p=>p.2) L fun p hp=>gR rfl (by
    walk_at "yy"
    exact WA h3 (px p hp))]
   walk_at "yy"
   rw [iZ]
   walk_at "yy"
   rw [k1]
   rfl
  ·walk_at "yy"
   rw [eI ns (k + 60) (n + 1) (by omega) (by omega)]
   walk_at "yy"
   have:=zS (e_ ns (k + 60) (n + 1)).toNat (by omega)
   rw [cH m0] at this
   exact this
 ·rw [k2]
  exact ((pm.map _).nodup_iff).mpr h3
theorem DL {α:Type} (b:α->Bool):∀ xs:List α,o6 (xs.map fun x=>db (b x))=some (xs.map b)
 | []=>rfl
 | x::r=>by
  show (o6 (r.map fun x=>db (b x))).map (b x::·)=_
  rw [DL b r]
  rfl
theorem kA {α:Type} (k:List Bool->Bool) (b:α->Bool) (xs:List α):iV k (.list (xs.map fun x=>db (b x)))=.ok (.bool (k (xs.map b))):=by
 have e:∀ ds,iV k (.list ds)=match o6 ds with
  | some bs=>.ok (.bool (k bs))
  | none=>.no:=fun _=>rfl
 rw [e,DL]
theorem G_ {s s':Sl}{ρ:au}{gt:au->R Bool}{ge:au->R D}{d d' y:D} (h1:gt (.shr d::.shr d'::ρ)=.ok true) (h2:ge (.shr d::.shr d'::ρ)=.ok y):ji 2 (s::s'::ρ) gt ge (.tuple [d,d'])=.ok (some y):=by
 have e:ji 2 (s::s'::ρ) gt ge (.tuple [d,d'])=MB ((gt (.shr d::.shr d'::ρ)).bind fun b=>if b then (ge (.shr d::.shr d'::ρ)).bind fun y=>.ok (some y) else .ok none):=id rfl
 rw [e,h1,bind_ok,if_pos rfl,h2];rfl
theorem Jv (x:Str):mx (.str x)=true:=id rfl
theorem Jw (i:Int):mx (.int i)=true:=id rfl
theorem u4 {α:Type} (c:α->D) (h:∀ x,mx (c x)=true):∀ xs:List α,noDs (xs.map c)=true
 | []=>rfl
 | x::r=>by
  show (mx (c x) && noDs (r.map c))=true
  rw [h x,u4 c h r];rfl
theorem Qi (xs:List D):mx (.tuple xs)=noDs xs:=id rfl
theorem gS (xs:List Str):mx (bB xs)=true:=by
 rw [Qi]
 exact u4 _ (fun _=>rfl) xs
theorem Lx (e:lK):mx (iM e)=true:=by
 have:mx (iM e)=(true && (mx (bB e.needs) && (mx (bB e.bars) && (mx (bB e.makes) && (mx (bB e.ends) && (true && true)))))):=rfl
 rw [this,gS,gS,gS,gS];rfl
theorem Ve (es:List lK):mx (.tuple (es.map iM))=true:=by
 rw [Qi]
 exact u4 _ Lx es
theorem To (fs:List Str) (es:List lK):mx (dm fs es)=true:=by
 have:mx (dm fs es)=(mx (bB fs) && (mx (.tuple (es.map iM)) && true)):=rfl
 rw [this,gS,Ve];rfl
theorem Jx (x:Str):v4 "str" (.str x)=true:=id rfl
theorem sQ (x:List D):v4 "tuple" (.tuple x)=true:=id rfl
theorem WB (x:Int):v4 "int" (.int x)=true:=id rfl
theorem WC (x:Int):v4 "bool" (.int x)=false:=id rfl
theorem Tp:∀ c:_root_.Fin 123,97<=c.val->(!nR ⟨#[c.val]⟩ "a")=true/\(!nR "z" ⟨#[c.val]⟩)=true:=by decide +kernel
theorem jS {x:Str} (h:wI x=true):fD [.str x]=.ok (.bool true):=by
 have hw:=h
 unfold wI at h
 simp only [aL,decide_eq_true_eq,eA] at h
 obtain ⟨⟨h1,h2⟩,h3⟩:=h
 have hl:x.length=x.cps.size:=rfl
 unfold fD
 refine cB ?_
 unfold q9 bi
 walk_at "zz"
 rw [Jv,Jx]
 walk_at "zz"
 rw [if_pos (by omega)]
 walk_at "zz"
 rw [decide_eq_true (by omega)]
 walk_at "zz"
 rw [decide_eq_true (by omega)]
 walk_at "zz"
 unfold oT
 walk_at "zz"
 rw [if_pos (by rw [bv];omega)]
 rw [eF _ (fun c:Nat=>aM ⟨#[c]⟩) (fun _=>db true) x.cps.toList fun c hc=>gR rfl (by
  obtain ⟨a1,a2⟩:=h3 c hc
  obtain ⟨b1,b2⟩:=Tp ⟨c,by omega⟩ a1
  walk_at "zz"
  simp only at b1 b2
  rw [b1]
  walk_at "zz"
  rw [b2])]
 walk_at "zz"
 rw [kA _ (fun _=>true)]
 walk_at "zz"
 simp
theorem B2:∀ (xs ys:List Str),zh (xs.map .str) (ys.map .str)=(xs.zip ys).map fun p=>ic [.str p.1,.str p.2]
 | [],_=>rfl
 | _::_,[]=>rfl
 | x::r,y::r'=>by
  show ic [.str x,.str y]::zh (r.map .str) (r'.map .str)=_
  rw [B2 r r']
  rfl
theorem Qj:∀ {l:List Str},(l.Pairwise fun a b=>nR a b=true)->∀ p∈l.zip (l.drop 1),nR p.1 p.2=true
 | [],_,p,hp=>by cases hp
 | [_],_,p,hp=>by cases hp
 | a::b::r,h,p,hp=>by
  obtain ⟨h1,h2⟩:=List.pairwise_cons.mp h
  rcases List.mem_cons.mp hp with z | z
  ·rw [z];exact h1 b ay
  ·exact Qj h2 p z
theorem Ly (xs:List Str):Dz (bB xs) (some 1) none=.ok (bB (xs.drop 1)):=by
 have e:Dz (bB xs) (some 1) none=.ok (.tuple (sB (xs.map .str) (some 1) none)):=rfl
 rw [e]
 cases xs with
 | nil=>rfl
 | cons x r =>
  rw [show (1:Int)=((1:Nat):Int) from rfl,Qh _ 1 (by simp)]
  rfl
theorem yK {xs:List Str} (hw:∀ x∈xs,wI x=true) (up:xs.Pairwise fun a b=>nR a b=true) (hl:xs.length<=6):cw [bB xs]=.ok (.bool true):=by
 unfold cw
 refine cB ?_
 unfold d_ bi
 walk_at "zz"
 rw [gS,sQ]
 walk_at "zz"
 rw [if_pos (by omega)]
 rw [eF _ (fun x:Str=>aM x) (fun _=>db true) xs fun x hx=>gR rfl (by
  walk_at "zz"
  rw [jS (hw x hx)])]
 walk_at "zz"
 rw [kA _ (fun _=>true)]
 walk_at "zz"
 rw [show ((xs.map fun _=>true).all id)=true by simp]
 walk_at "zz"
 rw [Ly]
 walk_at "zz"
 rw [B2]
 walk_at "zz"
 rw [if_pos (by simp;omega)]
 rw [eF _ (fun p:Str×Str=>ic [.str p.1,.str p.2]) (fun _=>db true) (xs.zip (xs.drop 1)) fun p hp=>G_ rfl (by
  walk_at "zz"
  rw [Qj up p hp])]
 walk_at "zz"
 rw [kA _ (fun _=>true)]
 walk_at "zz"
 simp
theorem gH {fs xs:List Str} (hw:∀ x∈fs,wI x=true) (h:Sub fs xs) (hl:xs.length<=6):cO [bB fs,bB xs]=.ok (.bool true):=by
 unfold cO
 refine cB ?_
 unfold jR bi
 walk_at "zz"
 rw [yK (fun x hx=>hw x (h.mem x hx)) h.up hl]
 walk_at "zz"
 rw [if_pos (by omega)]
 rw [eF _ (fun x:Str=>aM x) (fun _=>db true) xs fun x hx=>gR rfl (by
  walk_at "zz"
  rw [EY,decide_eq_true (h.mem x hx)]
  rfl)]
 walk_at "zz"
 rw [kA _ (fun _=>true)]
 walk_at "zz"
 simp
theorem xT {xs ys:List Str} (h:∀ x∈xs,x∉ys) (hl:xs.length<=6):eG [bB xs,bB ys]=.ok (.bool true):=by
 unfold eG
 refine cB ?_
 unfold kn bi
 walk_at "zz"
 rw [if_pos (by omega)]
 rw [eF _ (fun x:Str=>aM x) (fun _=>db false) xs fun x hx=>gR rfl (by
  walk_at "zz"
  rw [EY,decide_eq_false (h x hx)]
  rfl)]
 walk_at "zz"
 rw [kA _ (fun _=>false)]
 walk_at "zz"
 simp
theorem Jy {l i m:Int} (h0:l<=i) (h1:i<=m):qV [.int i,.int l,.int m]=.ok (.bool true):=by
 unfold qV
 refine cB ?_
 unfold qU bi
 walk_at "zz"
 rw [Jw,WB]
 walk_at "zz"
 rw [Jw,WC]
 walk_at "zz"
 rw [decide_eq_true h0]
 walk_at "zz"
 rw [decide_eq_true h1]
theorem F4:∀ (xs fs:List Str),xs.Nodup->(∀ x∈xs,x∈fs)->xs.length<=fs.length
 | [],_,_,_=>dU _
 | x::r,fs,nd,h=>by
  obtain ⟨n1,n2⟩:=List.nodup_cons.mp nd
  have hx:=h x ay
  have:=F4 r (fs.erase x) n2 fun y hy=>(List.mem_erase_of_ne fun (z:y=x)=>n1 (z ▸ hy)).mpr (h y (aA _ hy))
  rw [List.length_erase_of_mem hx] at this
  have:0<fs.length:=List.length_pos_of_mem hx
  rw [cc]
  omega
theorem re {fs xs:List Str} (h:Sub fs xs) (hl:fs.length<=6):xs.length<=6:=by
 exact c7 (F4 xs fs (om h.up) h.mem) hl
theorem q07 (a b c d e f g:D):PN (rN 6 (dR (cL 2) (dR (cL 3) (dR (cL 4) (dR (cL 5) (dR (cL 6) (dR (cL 7) uq))))))) [Sl.shr a,Sl.shr (.tuple [b,c,d,e,f,g]),.no,.no,.no,.no,.no,.no] (.tuple [b,c,d,e,f,g])=.ok (.nx [Sl.shr a,Sl.shr (.tuple [b,c,d,e,f,g]),.shr b,.shr c,.shr d,.shr e,.shr f,.shr g]):=id rfl
theorem H9 {fs:List Str} (hr:Jr fs 6) {e:lK} (g:wK fs e):o8 [bB fs,iM e]=.ok (.bool true):=by
 have l1:=re g.needs hr.len
 have l2:=re g.bars hr.len
 have l3:=re g.makes hr.len
 have l4:=re g.ends hr.len
 unfold o8
 refine cB ?_
 unfold o7 bi
 walk_at "zz"
 rw [Lx]
 unfold iM
 walk_at "zz"
 rw [sQ]
 walk_at "zz"
 rw [ft]
 walk_at "zz"
 rw [show decide (((6:Nat):Int)=6)=true from rfl]
 walk_at "zz"
 rw [q07]
 ·walk_at "zz"
  rw [jS g.name]
  walk_at "zz"
  rw [Jy g.p0 g.p9]
  walk_at "zz"
  have pk:=eF (ji 1 [Sl.no,Sl.shr (bB fs)] kT (da 2 cO (J.ac (rS 1) (J.ac (rS 0) J.aq)))) (fun x:List Str=>bB x) (fun _=>db true) [e.needs,e.bars,e.makes,e.ends] fun x hx=>gR rfl (by
   walk_at "zz"
   simp only [bf,aQ,or_false] at hx
   rcases hx with z | z | z | z<;>rw [z]
   ·rw [gH hr.ok g.needs l1]
   ·rw [gH hr.ok g.bars l2]
   ·rw [gH hr.ok g.makes l3]
   ·rw [gH hr.ok g.ends l4])
  simp only [bd,gL] at pk
  rw [pk]
  walk_at "zz"
  rw [show iV (fun bs=>bs.all id) (.list [.bool true,.bool true,.bool true,.bool true])=.ok (.bool true) from rfl]
  walk_at "zz"
  rw [xT g.nb l1]
  walk_at "zz"
  rw [xT g.me l3]
  walk_at "zz"
theorem Qk (l:List Str) (nd:l.Nodup):(fc [] l).length=l.length:=by
 have h1:=F4 (fc [] l) l (n_ l [] nZ) fun x hx=>((pS l [] x).mp hx).elim (fun h=>nomatch h) id
 have h2:=F4 l (fc [] l) nd fun x hx=>(pS l [] x).mpr (.inr hx)
 omega
theorem MT (es:List lK) (hl:es.length<=6) (nd:(es.map (·.name)).Nodup) (s:Sl) (ρ:au) (h:(s::ρ)[2]?=some (.shr (.tuple (es.map iM)))):ww (xN 1 [] (qQ (rB 2)) kT (g2 (rB 0) (kI 0) bD)) (s::ρ)=.ok (.int (es.length:Nat)):=by
 have hr:Ip (s::ρ) 2=.ok (.tuple (es.map iM)):=by unfold Ip;rw [h]
 unfold ww xN
 rw [Wg,Wp,hr]
 walk_at "zz"
 rw [if_pos (by omega)]
 rw [eF _ iM (fun e=>aM e.name) es fun e he=>gR rfl (by
  walk_at "zz"
  rfl)]
 walk_at "zz"
 have:(es.map fun e=>aM e.name)=(es.map (·.name)).map .str:=by rw [gM];rfl
 rw [this,strsOf_map]
 simp only [EL,Qk _ nd,aN]
theorem q08 (b c:D):PN (rN 2 (dR (cL 1) (dR (cL 2) uq))) [Sl.shr (.tuple [b,c]),.no,.no] (.tuple [b,c])=.ok (.nx [Sl.shr (.tuple [b,c]),.shr b,.shr c]):=id rfl
theorem MU {fs:List Str}{es:List lK} (g:jj fs es):mQ [dm fs es]=.ok (.bool true):=by
 have l1:=g.rise.len
 have l2:=g.len
 unfold mQ
 refine cB ?_
 unfold tV bi
 walk_at "zz"
 rw [To]
 unfold dm
 walk_at "zz"
 rw [sQ]
 walk_at "zz"
 rw [ft]
 walk_at "zz"
 rw [show decide (((2:Nat):Int)=2)=true from rfl]
 walk_at "zz"
 rw [q08]
 walk_at "zz"
 rw [yK g.rise.ok g.rise.up l1]
 walk_at "zz"
 rw [decide_eq_false (by omega)]
 walk_at "zz"
 rw [Ve,sQ]
 walk_at "zz"
 rw [decide_eq_false (by omega)]
 walk_at "zz"
 rw [if_pos (by omega)]
 rw [eF _ iM (fun _=>db true) es fun e he=>gR rfl (by
  walk_at "zz"
  rw [H9 g.rise (g.ok e he)])]
 walk_at "zz"
 rw [kA _ (fun _=>true)]
 walk_at "zz"
 rw [show ((es.map fun _=>true).all id)=true by simp]
 walk_at "zz"
 rw [MT es l2 g.nd _ _ rfl]
 walk_at "zz"
 rw [ft,decide_eq_true rfl]
 rfl
theorem rf {fs:List Str}{es:List lK} (g:jj fs es):cn [dm fs es]=.ok (dm fs es):=by
 unfold cn
 refine cB ?_
 unfold qc bi
 walk_at "zz"
 rw [MU g]
 walk_at "zz"
theorem Ha {α:Type} (c:α->D):∀ xs:List α,(∀ x∈xs,(c x).canLay0=true)->dq (xs.map c)=true
 | [],_=>rfl
 | x::r,h=>by
  have h1:=h x ay
  have h2:=Ha c r fun y hy=>h y (aA _ hy)
  simp only [bd,dq,h1,h2,vW]
theorem Ql {i:Nat}{g:au->R D}{ρ:au}{ds:List D}{d:D} (hi:ρ[i]?=some (Sl.own (.list ds))) (hg:g ρ=.ok d) (hl:ds.length<1000):zi i g ρ=.ok (.nx (ρ.set i (.own (.list (ds++[d]))))):=by
 unfold zi
 simp only [hi,hg,bind_ok,if_pos hl]
theorem Qm {s s':Sl}{ρ:au}{gt:au->R Bool}{ge:au->R D}{d d' y:D}{b:Bool} (h1:gt (.shr d::.shr d'::ρ)=.ok b) (h2:b=true->ge (.shr d::.shr d'::ρ)=.ok y):ji 2 (s::s'::ρ) gt ge (.tuple [d,d'])=.ok (if b then some y else none):=by
 have e:ji 2 (s::s'::ρ) gt ge (.tuple [d,d'])=MB ((gt (.shr d::.shr d'::ρ)).bind fun b=>if b then (ge (.shr d::.shr d'::ρ)).bind fun y=>.ok (some y) else .ok none):=id rfl
 rw [e,h1,bind_ok]
 cases b with
 | true=>rw [if_pos rfl,h2 rfl];rfl
 | false=>rfl
theorem DM:∀ (xs:List Str) (n:Nat),(oj n xs).length=xs.length
 | [],_=>rfl
 | x::r,n=>by
  show (oj (n + 1) r).length + 1=r.length + 1
  rw [DM r]
theorem Tq (ns:List Int) (k:Int) (hk:0<=k) (fs:List Str) (hl:fs.length<=6) (m:Int):∃ ss:List Str,q_ [.list (ns.map .int),.int k,bB fs,.int m]=.ok (bB ss)/\ss.Sublist fs:=by
 refine ⟨((oj 0 fs).filter fun q=>decide (e_ ns (k + (q.1:Int)) 12<m)).map (·.2),?_,?_⟩
 ·unfold q_
  refine cB ?_
  unfold qZ bi
  walk_at "zz"
  rw [zU]
  walk_at "zz"
  rw [if_pos (by rw [DM];omega)]
  rw [wy _ cI (fun q=>aM q.2) (fun q=>decide (e_ ns (k + (q.1:Int)) 12<m)) (oj 0 fs) fun q hq=>Qm (by
   walk_at "zz"
   rw [eI ns _ 12 (by omega) (by decide)]
   walk_at "zz") fun _=>rfl]
  walk_at "zz"
  rw [iZ]
  walk_at "zz"
  unfold bB
  rw [gM]
  rfl
 ·have:=(List.filter_sublist (l:=oj 0 fs) (p:=fun q=>decide (e_ ns (k + (q.1:Int)) 12<m))).map (·.2)
  rw [u3] at this
  exact this
theorem Jz {fs xs:List Str} (up:fs.Pairwise fun a b=>nR a b=true) (h:xs.Sublist fs):Sub fs xs:=⟨up.sublist h,fun x hx=>h.subset hx⟩
def Hb (P:au->Prop) (r:R Fl):Prop:=∃ ρ',r=.ok (.nx ρ')/\P ρ'
theorem DN {P:au->Prop}{r:R Fl}{hh:au->R Fl}{o:R Fl} (h:Hb P r) (k:∀ ρ,P ρ->hh ρ=o):r.bind (Pc hh)=o:=by
 obtain ⟨ρ',h1,p⟩:=h
 rw [h1,bind_ok,sJ]
 exact k ρ' p
theorem xU {α:Type}{kt:D->au->R au}{gb:au->R Fl} (c:α->D) (P:au->Prop):∀ (xs:List α) (ρ:au),(∀ x∈xs,∀ ρ,P ρ->∃ ρ1,kt (c x) ρ=.ok ρ1/\Hb P (gb ρ1))->P ρ->Hb P (sG kt gb (xs.map c) ρ)
 | [],ρ,_,p=>⟨ρ,rfl,p⟩
 | x::r,ρ,h,p=>by
  obtain ⟨ρ1,h1,ρ2,h2,h3⟩:=h x ay ρ p
  rw [bd]
  unfold sG
  rw [h1]
  simp only [h2]
  exact xU c P r ρ2 (fun y hy=>h y (aA _ hy)) h3
theorem Hc {α:Type}{kt:D->au->R au}{gb:au->R Fl} (c:α->D) (p:α->Bool) (out:α->D) (P:au->Prop):∀ (xs:List α) (ρ:au),(∀ x∈xs,∀ ρ,P ρ->∃ ρ1,kt (c x) ρ=.ok ρ1/\(p x=true->gb ρ1=.ok (.rt (out x)))/\(p x=false->Hb P (gb ρ1)))->P ρ ->
  (∀ x,xs.find? p=some x->sG kt gb (xs.map c) ρ=.ok (.rt (out x)))/\(xs.find? p=none->Hb P (sG kt gb (xs.map c) ρ))
 | [],ρ,_,q=>⟨fun x h=>(nomatch h),fun _=>⟨ρ,rfl,q⟩⟩
 | x::r,ρ,h,q=>by
  obtain ⟨ρ1,h1,h2,h3⟩:=h x ay ρ q
  rw [bd,e7]
  unfold sG
  rw [h1]
  cases hp:p x with
  | true =>
   refine ⟨fun y hy=>?_,fun hn=>nomatch hn⟩
   cases hy
   simp only [h2 hp]
  | false =>
   obtain ⟨ρ2,h4,h5⟩:=h3 hp
   simp only [h4]
   exact Hc c p out P r ρ2 (fun y hy=>h y (aA _ hy)) h5
structure B3 (fs m b:List Str):Prop where
 must:Sub fs m
 bars:Sub fs b
 mb:∀ x∈m,x∉b
abbrev mJ (m b:List Str):D:=.tuple [bB m,bB b]
theorem Lz (p:List Str) (x:Str):p.map aM++[aM x]=(p++[x]).map .str:=by simp
theorem Tr (ns:List Int) (k:Int) (hk:0<=k) (fs:List Str) (up:fs.Pairwise fun a b=>nR a b=true) (hl:fs.length<=6):∃ m b,vc [.list (ns.map .int),.int k,bB fs]=.ok (mJ m b)/\B3 fs m b:=by
 have nd:=om up
 suffices H:∃ p q,nu (bi 8 [.list (ns.map .int),.int k,bB fs])=.ok (.rt (mJ p q))/\o_ fs p q by
  obtain ⟨p,q,h1,h2⟩:=H
  exact ⟨p,q,cB h1,Jz up h2.sp,Jz up h2.sq,h2.d⟩
 unfold nu bi
 walk_at "yy"
 rw [yI (ds:=(oj 0 fs).map cI)]
 ·have H:=sP cI (fun (a:Unit) (_:Nat×Str)=>a) (fun bP _ ρ=>∃ pre,pre++bP.map (·.2)=fs/\∃ p q,o_ pre p q/\∃ z5 z6 z7,ρ=[.shr (.list (ns.map .int)),.shr (.int k),.shr (bB fs),.own (.list (p.map .str)),.own (.list (q.map .str)),z5,z6,z7]) (kt:=rN 2 (dR (cL 5) (dR (cL 6) uq))) (gb:=aC (fB 7 (da 3 aY (J.ac (rS 0) (J.ac (g2 (rB 1) (rB 5) cK) (J.ac (kI 8) J.aq))))) (ev (gN (g2 (rB 7) (kI 2) C6)) (zi 3 (rS 6)) (ev (gN (g2 (rB 7) (kI 2) (mz false))) (zi 4 (rS 6)) (fun ρ=>.ok (.nx ρ)))))
  obtain ⟨ρ',h1,pre,h2,p,q,h3,z5,z6,z7,h4⟩:=H (by
   rintro ⟨i,x⟩ bP _ ρ ⟨pre,h2,p,q,h3,z5,z6,z7,rfl⟩
   have hx:x∉pre:=by
    rw [<- h2,bd] at nd
    have:=(List.nodup_append.mp nd).2.2
    intro hx
    exact this x hx x ay rfl
   have hpl:pre.length<900:=by
    have:=congrArg A3 h2
    rw [bw] at this
    omega
   have lp:=h3.sp.length_le
   have lq:=h3.sq.length_le
   refine ⟨[.shr (.list (ns.map .int)),.shr (.int k),.shr (bB fs),.own (.list (p.map .str)),.own (.list (q.map .str)),.shr (.int (i:Nat)),.shr (.str x),z7],?_⟩
   by_cases c1:e_ ns (k + (i:Nat)) 8<2
   ·refine ⟨[.shr (.list (ns.map .int)),.shr (.int k),.shr (bB fs),.own (.list ((p++[x]).map .str)),.own (.list (q.map .str)),.shr (.int (i:Nat)),.shr (.str x),.shr (.int (e_ ns (k + (i:Nat)) 8))],rfl,?_,pre++[x],by rw [<- h2];simp,_,_,h3.left x hx,_,_,_,rfl⟩
    walk_at "zz"
    rw [eI ns _ 8 (by omega) (by decide)]
    walk_at "zz"
    rw [decide_eq_true c1]
    walk_at "zz"
    rw [<- Lz]
    exact Ql (ds:=p.map .str) rfl rfl (by rw [aN];omega)
   ·by_cases c2:e_ ns (k + (i:Nat)) 8=2
    ·refine ⟨[.shr (.list (ns.map .int)),.shr (.int k),.shr (bB fs),.own (.list (p.map .str)),.own (.list ((q++[x]).map .str)),.shr (.int (i:Nat)),.shr (.str x),.shr (.int (e_ ns (k + (i:Nat)) 8))],rfl,?_,pre++[x],by rw [<- h2];simp,_,_,h3.right x hx,_,_,_,rfl⟩
     walk_at "zz"
     rw [eI ns _ 8 (by omega) (by decide)]
     walk_at "zz"
     rw [decide_eq_false c1]
     walk_at "zz"
     rw [ft]
     walk_at "zz"
     rw [decide_eq_true c2]
     walk_at "zz"
     rw [<- Lz]
     exact Ql (ds:=q.map .str) rfl rfl (by rw [aN];omega)
    ·refine ⟨[.shr (.list (ns.map .int)),.shr (.int k),.shr (bB fs),.own (.list (p.map .str)),.own (.list (q.map .str)),.shr (.int (i:Nat)),.shr (.str x),.shr (.int (e_ ns (k + (i:Nat)) 8))],rfl,?_,pre++[x],by rw [<- h2];simp,_,_,h3.skip x,_,_,_,rfl⟩
     walk_at "zz"
     rw [eI ns _ 8 (by omega) (by decide)]
     walk_at "zz"
     rw [decide_eq_false c1]
     walk_at "zz"
     rw [ft]
     walk_at "zz"
     rw [decide_eq_false c2]
     walk_at "zz") (oj 0 fs) () [.shr (.list (ns.map .int)),.shr (.int k),.shr (bB fs),.own (.list []),.own (.list []),.no,.no,.no] ⟨[],by rw [u3];rfl,[],[],⟨eU _,eU _,fun _ h=>nomatch h⟩,_,_,_,rfl⟩
  refine ⟨p,q,?_,?_⟩
  ·rw [h1,h4]
   walk_at "zz"
   rw [iZ]
   walk_at "zz"
   rw [iZ]
   walk_at "zz"
  ·simp only [gL,c_] at h2
   rw [<- h2];exact h3
 ·walk_at "zz"
  rw [zU]
theorem WD (j:Int) (h0:0<=j) (h1:j<2):∃ m:Int,bD (.list [.int 2,.int 4]) (.int j)=.ok (.int m):=by
 have:j=0\/j=1:=by omega
 rcases this with h | h<;>subst h
 ·exact ⟨2,rfl⟩
 ·exact ⟨4,rfl⟩
theorem JA (fs:List Str) (es:List lK):bD (dm fs es) (.int 0)=.ok (bB fs):=id rfl
theorem WE (fs:List Str) (es:List lK):bD (dm fs es) (.int 1)=.ok (.tuple (es.map iM)):=id rfl
theorem Tt (ns:List Int) (m n:Int) (hm0:0<=m) (hm:m<=6) (hn0:0<=n) (hn:n<=6):∃ fs es ss wm wb,nw [.list (ns.map .int),.int m,.int n]=.ok (.tuple [dm fs es,bB ss,mJ wm wb])/\jj fs es/\Sub fs ss/\B3 fs wm wb:=by
 obtain ⟨fs,es,hb,gb⟩:=Tn ns 100 (by decide) m n hm0 hm hn0 hn
 obtain ⟨pt,hp⟩:=WD (e_ ns 97 2) (eu _ _ _ (by decide)) (eV _ _ _ (by decide))
 obtain ⟨ss,hs,gs⟩:=Tq ns 20 (by decide) fs gb.rise.len pt
 obtain ⟨wm,wb,hw,gw⟩:=Tr ns 30 (by decide) fs gb.rise.up gb.rise.len
 refine ⟨fs,es,ss,wm,wb,?_,gb,Jz gb.rise.up gs,gw⟩
 unfold nw
 refine cB ?_
 unfold r9 bi
 walk_at "zz"
 rw [hb]
 walk_at "zz"
 rw [JA]
 walk_at "zz"
 rw [eI ns 97 2 (by decide) (by decide)]
 walk_at "zz"
 rw [hp]
 walk_at "zz"
 rw [hs]
 walk_at "zz"
 rw [JA]
 walk_at "zz"
 rw [hw]
 walk_at "zz"
theorem Hd {xs ys:List Str} (hl:xs.length<=60):eG [bB xs,bB ys]=.ok (.bool (!xs.any fun x=>decide (x∈ys))):=by
 unfold eG
 refine cB ?_
 unfold kn bi
 walk_at "zz"
 rw [if_pos (by omega)]
 rw [eF _ (fun x:Str=>aM x) (fun x=>db (decide (x∈ys))) xs fun x hx=>gR rfl (by
  walk_at "zz"
  rw [EY]
  rfl)]
 walk_at "zz"
 rw [kA _ (fun x=>decide (x∈ys))]
 walk_at "zz"
 rw [List.any_map]
 rfl
theorem YL (neg:Bool) (e:lK):VZ neg (iM e) .none=.ok (.bool neg):=by cases neg<;>rfl
theorem Tu (e:lK):bD (iM e) (.int 0)=.ok (.str e.name):=id rfl
theorem F5 (x:Str) (gs:au->R (List D)) (s:Sl) (ρ:au) {ds:List D} (h:gs (s::ρ)=.ok ds) (hl:ds.length<=1000):sI x gs (s::ρ)=.ex x none:=by unfold sI;rw [h,bind_ok,if_pos hl]
theorem YM (k:Nat) (gs:au->R (List D)) (s:Sl) (ρ:au):T4 k gs (s::ρ)=(gs (s::ρ)).bind (T3 k):=id rfl
theorem JC {x:Str} (h:wI x=true):x≠"zzzzz":=by
 intro e
 rw [e] at h
 have:wI "zzzzz"=false:=by decide +kernel
 rw [this] at h
 cases h
theorem q09 {x:Str} (h:wI x=true):mz false (.str x) (.str "zzzzz")=.ok (.bool false):=by
 unfold mz
 rw [wL h,show (aM "zzzzz").canLay0=true by decide +kernel,t_,decide_eq_false (JC h)]
 rfl
theorem lC {xs:List D}{j:Nat}{v:D} (h:xs[j]?=some v):bD (.list xs) (.int (j:Nat))=.ok v:=by
 have e:bD (.list xs) (.int (j:Nat))=Gu (.list xs) (.int (j:Nat)):=rfl
 rw [e]
 unfold Gu
 simp only [qJ h]
def YN:R D->Bool
 | .ok (.bool b)=>b
 | _=>false
theorem Tv {r:R D} (h:YN r=true):r=.ok (.bool true):=by
 unfold YN at h
 split at h
 ·rw [h]
 ·cases h
def wN (es:List lK) (nm:Str):Option lK:=es.find? fun e=>decide (e.name=nm)
def YO:Option lK->D
 | none=>.none
 | some e=>iM e
theorem MV {fs:List Str}{es:List lK} (g:jj fs es) {nm:Str} (hn:wI nm=true):cU [dm fs es,.str nm]=.ok (YO (wN es nm)):=by
 unfold cU
 refine cB ?_
 unfold fZ bi
 walk_at "zz"
 rw [Jv,Jx]
 walk_at "zz"
 rw [yI (ds:=es.map iM)]
 ·obtain ⟨h1,h2⟩:=Hc iM (fun e=>decide (e.name=nm)) iM (fun ρ=>∃ z,ρ=[Sl.shr (dm fs es),.shr (.str nm),z]) (kt:=cL 2) (gb:=ev (gN (g2 (g2 (rB 2) (kI 0) bD) (rB 1) (mz false))) (cY (rS 2)) (fun ρ=>.ok (.nx ρ))) es [Sl.shr (dm fs es),.shr (.str nm),.no] (by
   rintro e he ρ ⟨z,rfl⟩
   refine ⟨[.shr (dm fs es),.shr (.str nm),.shr (iM e)],rfl,fun hp=>?_,fun hp=>⟨[.shr (dm fs es),.shr (.str nm),.shr (iM e)],?_,_,rfl⟩⟩
   ·walk_at "zz"
    rw [Tu]
    walk_at "zz"
    rw [EZ false (g.ok e he).name hn]
    walk_at "zz"
    rw [hp]
    walk_at "zz"
   ·walk_at "zz"
    rw [Tu]
    walk_at "zz"
    rw [EZ false (g.ok e he).name hn]
    walk_at "zz"
    rw [hp]
    walk_at "zz") ⟨_,rfl⟩
  cases hf:es.find? (fun e=>decide (e.name=nm)) with
  | some e =>
   rw [h1 e hf]
   walk_at "zz"
   unfold wN
   rw [hf]
   rfl
  | none =>
   obtain ⟨ρ',e1,z,rfl⟩:=h2 hf
   rw [e1]
   walk_at "zz"
   unfold wN
   rw [hf]
   rfl
 ·walk_at "zz"
  rw [WE]
  walk_at "zz"
theorem B4:∀ {es:List lK},(es.map (·.name)).Nodup->∀ {e:lK},e∈es->wN es e.name=some e
 | x::r,nd,e,he=>by
  obtain ⟨n1,n2⟩:=List.nodup_cons.mp nd
  unfold wN
  rw [e7]
  rcases List.mem_cons.mp he with h | h
  ·subst h;simp
  ·have:x.name≠e.name:=fun z=>n1 (by show x.name∈_;rw [z];exact M3 h)
   rw [decide_eq_false this]
   exact B4 n2 h
theorem Qn {fs:List Str}{es:List lK} (g:jj fs es):cU [dm fs es,.str "zzzzz"]=.ok .none:=by
 unfold cU
 refine cB ?_
 unfold fZ bi
 walk_at "zz"
 rw [Jv,Jx]
 walk_at "zz"
 rw [yI (ds:=es.map iM)]
 ·refine DN (P:=fun ρ=>∃ z,ρ=[Sl.shr (dm fs es),.shr (.str "zzzzz"),z]) (xU iM _ es _ ?_ ⟨_,rfl⟩) ?_
  ·rintro e he ρ ⟨z,rfl⟩
   refine ⟨[.shr (dm fs es),.shr (.str "zzzzz"),.shr (iM e)],rfl,[.shr (dm fs es),.shr (.str "zzzzz"),.shr (iM e)],?_,_,rfl⟩
   walk_at "zz"
   rw [Tu]
   walk_at "zz"
   rw [q09 (g.ok e he).name]
   walk_at "zz"
  ·rintro ρ ⟨z,rfl⟩
   walk_at "zz"
 ·walk_at "zz"
  rw [WE]
  walk_at "zz"
theorem B5 {fs:List Str}{es:List lK}{d:D} (h1:mx d=true) (h2:v4 "str" d=false):cU [dm fs es,d]=.ok .none:=by
 unfold cU
 refine cB ?_
 unfold fZ bi
 walk_at "zz"
 rw [h1,h2]
 walk_at "zz"
theorem F6 {n:Nat}{g:au->R Fl}{ds:List D}{ρ:au} (h:g (bi n ds)=.ok (.nx ρ)):cy n g ds=.ok .none:=by unfold cy;rw [h]
def WF:R D->Bool
 | .ok (.bool b)=>!b
 | _=>false
theorem wO {r:R D} (h:WF r=true):r=.ok (.bool false):=by
 unfold WF at h
 split at h
 ·rename_i b;cases b
  ·rfl
  ·cases h
 ·cases h
theorem JD {L:List D}{j:Int} (h0:0<=j) (h1:j<L.length):∃ d∈L,bD (.list L) (.int j)=.ok d:=by
 obtain ⟨n,rfl⟩:=Il h0
 have hn:n<L.length:=by omega
 exact ⟨L[n],hW hn,lC (bg hn)⟩
theorem LA {i:Nat}{g:au->R D}{ρ:au}{ds es:List D} (hi:ρ[i]?=some (Sl.own (.list ds))) (hg:g ρ=.ok (.list es)) (hl:ds.length + es.length<=1000):wx i g ρ=.ok (.nx (ρ.set i (.own (.list (ds++es))))):=by
 unfold wx
 simp only [hi,hg,bind_ok,if_pos hl]
theorem Tw (neg:Bool) (ds:List D) (h:dq ds=true):mz neg (.list ds) (.list [])=.ok (.bool (neg != decide (ds=[]))):=by
 unfold mz
 have h1:(fA ds).canLay0=true:=by simp only [j2];exact h
 have h3:min (fA ds).depth (fA []).depth<=60:=c7 (rL _ _) (by decide)
 have h4:bK (.list ds) (.list [])=decide (ds=[]):=by
  cases ds with
  | nil=>rfl
  | cons x r=>simp [bK,Dd]
 rw [h1,show (fA []).canLay0=true from rfl,decide_eq_true h3,h4]
 cases neg<;>cases decide (ds=[])<;>rfl
theorem Tx (ds:List D) (h:dq ds=true):mz true (.list ds) (.list [])=.ok (.bool (!decide (ds=[]))):=by rw [Tw true ds h,Bool.true_bne]
theorem LB:fD [.str "zzzzz"]=.ok (.bool true):=Tv (by decide +kernel)
theorem Qo (i:Int):fD [.int i]=.ok (.bool false):=by
 unfold fD
 refine cB ?_
 unfold q9 bi
 walk_at "zz"
 rw [Jw,show v4 "str" (.int i)=false from rfl]
 walk_at "zz"
theorem Qp {xs:List Str} (hw:∀ x∈xs,fD [.str x]=.ok (.bool true)) (hl:xs.length<=20):cw [bB xs]=.ok (.bool ((xs.zip (xs.drop 1)).all fun p=>nR p.1 p.2)):=by
 unfold cw
 refine cB ?_
 unfold d_ bi
 walk_at "zz"
 rw [gS,sQ]
 walk_at "zz"
 rw [if_pos (by omega)]
 rw [eF _ (fun x:Str=>aM x) (fun _=>db true) xs fun x hx=>gR rfl (by
  walk_at "zz"
  rw [hw x hx])]
 walk_at "zz"
 rw [kA _ (fun _=>true)]
 walk_at "zz"
 rw [show ((xs.map fun _=>true).all id)=true by simp]
 walk_at "zz"
 rw [Ly]
 walk_at "zz"
 rw [B2]
 walk_at "zz"
 rw [if_pos (by simp;omega)]
 rw [eF _ (fun p:Str×Str=>ic [.str p.1,.str p.2]) (fun p=>db (nR p.1 p.2)) (xs.zip (xs.drop 1)) fun p hp=>G_ rfl (by
  walk_at "zz")]
 walk_at "zz"
 rw [kA _ (fun p:Str×Str=>nR p.1 p.2)]
 walk_at "zz"
 rw [rV]
 rfl
theorem DO {fs xs:List Str} (hw:∀ x∈xs,fD [.str x]=.ok (.bool true)) (hl:xs.length<=20):cO [bB fs,bB xs]=.ok (.bool (((xs.zip (xs.drop 1)).all fun p=>nR p.1 p.2) && xs.all fun x=>decide (x∈fs))):=by
 unfold cO
 refine cB ?_
 unfold jR bi
 walk_at "zz"
 rw [Qp hw hl]
 cases ((xs.zip (xs.drop 1)).all fun p=>nR p.1 p.2) with
 | false=>rfl
 | true =>
  walk_at "zz"
  rw [if_pos (by omega)]
  rw [eF _ (fun x:Str=>aM x) (fun x=>db (decide (x∈fs))) xs fun x hx=>gR rfl (by
   walk_at "zz"
   rw [EY]
   rfl)]
  walk_at "zz"
  rw [kA _ (fun x:Str=>decide (x∈fs))]
  walk_at "zz"
  rw [rV]
  rfl
theorem B6:∀ {l:List Str},((l.zip (l.drop 1)).all fun p=>nR p.1 p.2)=true->l.Pairwise fun a b=>nR a b=true
 | [],_=>.nil
 | [_],_=>FX _ _
 | a::b::r,h=>by
  have h':(nR a b && (((b::r).zip ((b::r).drop 1)).all fun p=>nR p.1 p.2))=true:=h
  rw [aL] at h'
  have ih:=B6 h'.2
  refine List.pairwise_cons.mpr ⟨fun x hx=>?_,ih⟩
  rcases List.mem_cons.mp hx with z | z
  ·rw [z];exact h'.1
  ·exact pT h'.1 ((List.pairwise_cons.mp ih).1 x z)
structure ur (fs:List Str) (d:D):Prop where
 nd:mx d=true
 no:cO [bB fs,d]=.ok (.bool false)
theorem He {fs:List Str}{d:D} (h0:mx d=true) (h:cw [d]=.ok (.bool false)):ur fs d:=by
 refine ⟨h0,?_⟩
 unfold cO
 refine cB ?_
 unfold jR bi
 walk_at "zz"
 rw [h]
 walk_at "zz"
theorem LC {fs:List Str}{d:D} (h0:mx d=true) (h1:v4 "tuple" d=false):ur fs d:=by
 refine He h0 ?_
 unfold cw
 refine cB ?_
 unfold d_ bi
 walk_at "zz"
 rw [h0,h1]
 walk_at "zz"
theorem YQ {fs xs:List Str} (hf:∀ x∈fs,wI x=true) (hw:∀ x∈xs,fD [.str x]=.ok (.bool true)) (hl:xs.length<=20) (hz:("zzzzz" : Str)∈xs):ur fs (bB xs):=by
 refine ⟨gS xs,?_⟩
 rw [DO hw hl]
 have:(xs.all fun x=>decide (x∈fs))=false:=by
  rw [List.all_eq_false]
  exact ⟨_,hz,by rw [decide_eq_true_eq];exact fun h=>JC (hf _ h) rfl⟩
 rw [this,D6]
theorem Qq {fs xs:List Str} (hw:∀ x∈xs,fD [.str x]=.ok (.bool true)) (hl:xs.length<=20) (hz:¬ xs.Pairwise fun a b=>nR a b=true):ur fs (bB xs):=by
 refine ⟨gS xs,?_⟩
 rw [DO hw hl]
 cases h:((xs.zip (xs.drop 1)).all fun p=>nR p.1 p.2) with
 | true=>exact (hz (B6 h)).elim
 | false=>rfl
theorem YR {fs:List Str}{x:Str} (hx:wI x=true):ur fs (.tuple [.str x,.int 0]):=by
 refine He rfl ?_
 unfold cw
 refine cB ?_
 unfold d_ bi
 walk_at "zz"
 rw [show mx (.tuple [.str x,.int 0])=true from rfl,sQ]
 walk_at "zz"
 have pk:=eF (ji 1 [Sl.no] kT (da 1 fD (J.ac (rS 0) J.aq))) (fun p:D×Bool=>p.1) (fun p=>db p.2) [(.str x,true),(.int 0,false)] fun p hp=>gR rfl (by
  walk_at "zz"
  simp only [bf,aQ,or_false] at hp
  rcases hp with z | z<;>rw [z]
  ·rw [jS hx]
  ·rw [Qo])
 simp only [bd,gL] at pk
 rw [pk]
 walk_at "zz"
 rw [show iV (fun bs=>bs.all id) (.list [.bool true,.bool false])=.ok (.bool false) from rfl]
 walk_at "zz"
def uE (fs:List Str):List D:=[.none,.list (fs.map .str),.tuple [.str "zzzzz"],.tuple (fs.map .str++[.str "zzzzz"]),.tuple [.int 1],.int 0,.str "a",.tuple [.str ""],.tuple [.none]]
def B7 (x:Str) (fs:List Str):List D:=[.tuple (fs.map .str++fs.map .str),.tuple [.str x,.str x],.tuple [.str x,.int 0]]
theorem q0a {fs:List Str} (hf:∀ x∈fs,wI x=true) (hl:fs.length<=6):∀ d∈uE fs,ur fs d:=by
 intro d hd
 unfold uE at hd
 simp only [bf,aQ,or_false] at hd
 rcases hd with h | h | h | h | h | h | h | h | h<;>rw [h]
 ·exact LC rfl rfl
 ·exact LC (by show noDs (fs.map aM)=true;exact u4 _ (fun _=>rfl) fs) rfl
 ·exact YQ (xs:=[("zzzzz" : Str)]) hf (fun x hx=>by rw [List.mem_singleton.mp hx];exact LB) (by decide) (List.mem_singleton.mpr rfl)
 ·have:=YQ (xs:=fs++[("zzzzz" : Str)]) hf (fun x hx=>by
   rcases List.mem_append.mp hx with h | h
   ·exact jS (hf x h)
   ·rw [List.mem_singleton.mp h];exact LB) (by rw [bw];simp;omega) (aV _ (List.mem_singleton.mpr rfl))
  unfold bB at this
  rwa [iH] at this
 ·exact He rfl (wO (by decide +kernel))
 ·exact LC rfl rfl
 ·exact LC rfl rfl
 ·exact He rfl (wO (by decide +kernel))
 ·exact He rfl (wO (by decide +kernel))
theorem q0b {x:Str}{r:List Str} (hf:∀ y∈x::r,wI y=true) (up:(x::r).Pairwise fun a b=>nR a b=true) (hl:(x::r).length<=6):∀ d∈B7 x (x::r),ur (x::r) d:=by
 intro d hd
 have hx:=hf x ay
 unfold B7 at hd
 simp only [bf,aQ,or_false] at hd
 rcases hd with h | h | h<;>rw [h]
 ·have:=Qq (fs:=x::r) (xs:=(x::r)++(x::r)) (fun y hy=>by
   rcases List.mem_append.mp hy with h | h
   ·exact jS (hf y h)
   ·exact jS (hf y h)) (by rw [bw];omega) (fun h=>by
   have:=(List.nodup_append.mp (om h)).2.2
   exact this x ay x ay rfl)
  unfold bB at this
  rwa [iH] at this
 ·exact Qq (xs:=[x,x]) (fun y hy=>by
   simp only [bf,aQ,or_false,or_self] at hy
   rw [hy];exact jS hx) (by simp) (fun h=>by
   have:=(List.pairwise_cons.mp h).1 x ay
   rw [qL] at this
   cases this)
 ·exact YR hx
theorem q0c {x y:Str}{r:List Str} (hf:∀ z∈x::y::r,wI z=true) (up:(x::y::r).Pairwise fun a b=>nR a b=true) (hl:(x::y::r).length<=6):ur (x::y::r) (bB (x::y::r).reverse):=by
 refine Qq (fun z hz=>jS (hf z (List.mem_reverse.mp hz))) (by rw [jB];omega) (fun h=>?_)
 have h2:=List.pairwise_reverse.mp h
 have a1:=(List.pairwise_cons.mp up).1 y ay
 have a2:=(List.pairwise_cons.mp h2).1 y ay
 have:=pT a1 a2
 rw [qL] at this
 cases this
theorem q0d (a x y:D):PN (rN 2 (dR (cL 2) (dR (cL 3) uq))) [Sl.shr a,.shr (.tuple [x,y]),.no,.no] (.tuple [x,y])=.ok (.nx [.shr a,.shr (.tuple [x,y]),.shr x,.shr y]):=id rfl
theorem MW {fs ss:List Str}{es:List lK} (g:jj fs es) (h:Sub fs ss):iw [dm fs es,bB ss]=.ok .none:=by
 unfold iw
 refine F6 (ρ:=[.shr (dm fs es),.shr (bB ss)]) ?_
 unfold jt bi
 walk_at "zz"
 rw [JA]
 walk_at "zz"
 rw [gH g.rise.ok h (re h g.rise.len)]
 walk_at "zz"
theorem MX {fs:List Str}{es:List lK}{d:D} (h:ur fs d):iw [dm fs es,d]=.ex "NoState" none:=by
 unfold iw
 refine bV ?_
 unfold jt bi
 walk_at "zz"
 rw [JA]
 walk_at "zz"
 rw [h.no]
 walk_at "zz"
 rw [F5 _ _ _ _ rfl (by decide)]
theorem B8 {fs ss:List Str}{es:List lK} (g:jj fs es) (h:Sub fs ss):aZ [dm fs es,bB ss]=.ok .none:=by
 unfold aZ
 refine F6 (ρ:=[.shr (dm fs es),.shr (bB ss)]) ?_
 unfold ju bi
 walk_at "zz"
 rw [rf g]
 walk_at "zz"
 rw [MW g h]
 walk_at "zz"
theorem Qr {fs:List Str}{es:List lK}{d:D} (g:jj fs es) (h:ur fs d):aZ [dm fs es,d]=.ex "NoState" none:=by
 unfold aZ
 refine bV ?_
 unfold ju bi
 walk_at "zz"
 rw [rf g]
 walk_at "zz"
 rw [MX h]
 walk_at "zz"
theorem sR {fs:List Str}{es:List lK}{x y:D}{p q r:Bool} (n:mx (.tuple [x,y])=true) (hx:cO [bB fs,x]=.ok (.bool p)) (hy:p=true->cO [bB fs,y]=.ok (.bool q)) (hs:p=true->q=true->eG [x,y]=.ok (.bool r)):kZ [dm fs es,.tuple [x,y]]=.ok (.bool (p && (q && r))):=by
 unfold kZ
 refine cB ?_
 unfold mR bi
 walk_at "zz"
 rw [n,sQ]
 walk_at "zz"
 rw [ft]
 walk_at "zz"
 rw [show decide (((2:Nat):Int)=2)=true from rfl]
 walk_at "zz"
 rw [q0d]
 walk_at "zz"
 rw [JA]
 walk_at "zz"
 rw [hx]
 cases p with
 | false=>rfl
 | true =>
  walk_at "zz"
  rw [JA]
  walk_at "zz"
  rw [hy rfl]
  cases q with
  | false=>rfl
  | true =>
   walk_at "zz"
   rw [hs rfl rfl]
   cases r<;>rfl
structure zm (fs:List Str) (es:List lK) (d:D):Prop where
 no:kZ [dm fs es,d]=.ok (.bool false)
theorem Qs {fs:List Str}{es:List lK}{d:D} (h0:mx d=true) (h1:v4 "tuple" d=false):zm fs es d:=by
 constructor
 unfold kZ
 refine cB ?_
 unfold mR bi
 walk_at "zz"
 rw [h0,h1]
 walk_at "zz"
theorem Qt {fs:List Str}{es:List lK}{ds:List D} (h0:mx (.tuple ds)=true) (h1:ds.length≠2):zm fs es (.tuple ds):=by
 constructor
 unfold kZ
 refine cB ?_
 unfold mR bi
 walk_at "zz"
 rw [h0,sQ]
 walk_at "zz"
 rw [ft]
 walk_at "zz"
 rw [decide_eq_false (by omega)]
 walk_at "zz"
theorem Hf {fs m b:List Str}{es:List lK} (g:jj fs es) (h:B3 fs m b):i4 [dm fs es,mJ m b]=.ok .none:=by
 have n:mx (mJ m b)=true:=by
  have:mx (mJ m b)=(mx (bB m) && (mx (bB b) && true)):=rfl
  rw [this,gS,gS];rfl
 have l1:=re h.must g.rise.len
 have l2:=re h.bars g.rise.len
 unfold i4
 refine F6 (ρ:=[.shr (dm fs es),.shr (mJ m b)]) ?_
 unfold ko bi
 walk_at "zz"
 rw [sR n (gH g.rise.ok h.must l1) (fun _=>gH g.rise.ok h.bars l2) (fun _ _=>xT h.mb l1)]
 walk_at "zz"
 rfl
theorem Hg {fs:List Str}{es:List lK}{d:D} (h:zm fs es d):i4 [dm fs es,d]=.ex "NoWant" none:=by
 unfold i4
 refine bV ?_
 unfold ko bi
 walk_at "zz"
 rw [h.no]
 walk_at "zz"
 rw [F5 _ _ _ _ rfl (by decide)]
theorem Qu {fs ss m b:List Str}{es:List lK} (g:jj fs es) (h:Sub fs ss) (w:B3 fs m b):bj [dm fs es,bB ss,mJ m b]=.ok .none:=by
 unfold bj
 refine F6 (ρ:=[.shr (dm fs es),.shr (bB ss),.shr (mJ m b)]) ?_
 unfold lT bi
 walk_at "zz"
 rw [B8 g h]
 walk_at "zz"
 rw [Hf g w]
 walk_at "zz"
theorem WG {fs ss:List Str}{es:List lK}{d:D} (g:jj fs es) (h:Sub fs ss) (w:zm fs es d):bj [dm fs es,bB ss,d]=.ex "NoWant" none:=by
 unfold bj
 refine bV ?_
 unfold lT bi
 walk_at "zz"
 rw [B8 g h]
 walk_at "zz"
 rw [Hg w]
 walk_at "zz"
theorem YS (g:au->R D) (s:Sl) (ρ:au):T5 g (s::ρ)=(g (s::ρ)).bind Wk:=id rfl
theorem Tz (fs:List Str):Wk (bB fs)=.ok (bB fs.reverse):=by
 show R.ok (ic (fs.map aM).reverse)=_
 rw [<- List.map_reverse]
theorem F7 (x:Str) (r:List Str):Dz (bB (x::r)) none (some 1)=.ok (bB [x]):=by
 have e:Dz (bB (x::r)) none (some 1)=.ok (.tuple (sB ((x::r).map .str) none (some 1))):=rfl
 rw [e,show (1:Int)=((1:Nat):Int) from rfl,Ju _ 1 (by simp)]
 rfl
theorem TC (x:Str) (r:List Str):bD (bB (x::r)) (.int 0)=.ok (.str x):=by
 have e:bD (bB (x::r)) (.int 0)=Gu (.tuple (.str x::r.map .str)) (.int 0):=rfl
 rw [e]
 unfold Gu
 have:=qJ (xs:=aM x::r.map .str) (j:=0) (v:=.str x) rfl
 rw [show ((0:Nat):Int)=0 from rfl] at this
 simp only [this]
theorem Qv (xs:List D):ki (.tuple xs)=.ok (.list xs):=id rfl
theorem F8 (ns:List Int) (k:Int) (hk:0<=k) {L:List D}{P:D->Prop} (hL:0<L.length) (h:∀ d∈L,P d) (F:D):∃ d,cY (g2 (rB 3) (da 3 aY (J.ac (rS 0) (J.ac (rS 1) (J.ac (cJ (J.ac (rB 3) J.aq) (jQ lS)) J.aq)))) bD) [.shr (.list (ns.map .int)),.shr (.int k),.shr F,.own (.list L)]=.ok (.rt d)/\P d:=by
 have hm:=eI ns k (L.length:Nat) hk (by omega)
 obtain ⟨d,hd,e⟩:=JD (L:=L) (eu ns k (L.length:Nat) (by omega)) (eV ns k (L.length:Nat) (by omega))
 refine ⟨d,?_,h d hd⟩
 walk_at "zz"
 rw [hm]
 walk_at "zz"
 rw [e]
 walk_at "zz"
theorem DP (ns:List Int) (k:Int) (hk:0<=k) (fs:List Str) (hr:Jr fs 6):∃ d,ip [.list (ns.map .int),.int k,bB fs]=.ok d/\ur fs d:=by
 suffices H:∃ d,io (bi 4 [.list (ns.map .int),.int k,bB fs])=.ok (.rt d)/\ur fs d by
  obtain ⟨d,h1,h2⟩:=H
  exact ⟨d,cB h1,h2⟩
 have l:=hr.len
 have b0:=q0a hr.ok l
 unfold io bi
 generalize hG:cY _=G
 walk_at "zz"
 rw [Qv]
 walk_at "zz"
 rw [if_pos (by omega)]
 walk_at "zz"
 rw [zV fs hr.ok]
 walk_at "zz"
 cases fs with
 | nil =>
  walk_at "zz"
  rw [show decide ((1:Int)<((0:Nat):Int))=false from rfl]
  walk_at "zz"
  rw [<- hG]
  exact F8 ns k hk (L:=uE []) (by decide) b0 _
 | cons x r =>
  have b1:=q0b hr.ok hr.up l
  rw [decide_eq_false (by simp)]
  simp only [hX,cond_true]
  simp only [cc] at l
  rw [LA (ds:=uE (x::r)) (es:=B7 x (x::r))]
  ·walk_at "zz"
   have bb:∀ d∈uE (x::r)++B7 x (x::r),ur (x::r) d:=fun d hd=>(List.mem_append.mp hd).elim (b0 d) (b1 d)
   cases r with
   | nil =>
    rw [show decide ((1:Int)<(([].length + 1:Nat):Int))=false from rfl]
    walk_at "zz"
    rw [<- hG]
    exact F8 ns k hk (by simp [uE]) bb _
   | cons y r =>
    rw [decide_eq_true (by simp only [cc];omega)]
    simp only [cond_true]
    have b2:=q0c hr.ok hr.up hr.len
    rw [LA (ds:=uE (x::y::r)++B7 x (x::y::r)) (es:=[bB (x::y::r).reverse,bB (x::y::r).reverse,bB (x::y::r).reverse])]
    ·walk_at "zz"
     rw [<- hG]
     exact F8 ns k hk (by simp [uE]) (fun d hd=>(List.mem_append.mp hd).elim (bb d) fun h=>by
      simp only [bf,aQ,or_false,or_self] at h
      rw [h];exact b2) _
    ·rfl
    ·rw [YM]
     walk_at "zz"
     rw [YS]
     walk_at "zz"
     rw [Tz]
     rfl
    ·simp [uE,B7]
  ·rfl
  ·walk_at "zz"
   rw [if_pos (by omega)]
   walk_at "zz"
   rw [F7]
   walk_at "zz"
   rw [F7]
   walk_at "zz"
   rw [TC]
   walk_at "zz"
   rfl
  ·simp [uE,B7]
def vd (b:D):List D:=[.none,.tuple [.tuple []],.list [.tuple [],.tuple []],.tuple [.tuple [],.tuple [],.tuple []],.tuple [b,.tuple []],.tuple [.tuple [],b],.tuple [b,.tuple []],.tuple [.tuple [],b],.int 0]
theorem MY {fs:List Str} (hf:∀ x∈fs,wI x=true):cO [bB fs,.tuple []]=.ok (.bool true):=gH (xs:=[]) hf ⟨.nil,fun _ h=>nomatch h⟩ (by decide)
theorem F9 {x y:D} (h1:mx x=true) (h2:mx y=true):mx (.tuple [x,y])=true:=by
 have:mx (.tuple [x,y])=(mx x && (mx y && true)):=rfl
 rw [this,h1,h2];rfl
theorem bw0 {fs:List Str}{es:List lK}{b:D} (hf:∀ x∈fs,wI x=true) (hb:ur fs b):∀ d∈vd b,zm fs es d:=by
 intro d hd
 unfold vd at hd
 simp only [bf,aQ,or_false] at hd
 have w1:zm fs es (.tuple [b,.tuple []]):=⟨sR (q:=false) (r:=false) (F9 hb.nd rfl) hb.no (fun h=>nomatch h) (fun h=>nomatch h)⟩
 have w2:zm fs es (.tuple [.tuple [],b]):=⟨sR (r:=false) (F9 rfl hb.nd) (MY hf) (fun _=>hb.no) (fun _ h=>nomatch h)⟩
 rcases hd with h | h | h | h | h | h | h | h | h<;>rw [h]
 ·exact Qs rfl rfl
 ·exact Qt rfl (by decide)
 ·exact Qs rfl rfl
 ·exact Qt rfl (by decide)
 ·exact w1
 ·exact w2
 ·exact w1
 ·exact w2
 ·exact Qs rfl rfl
def Fa (x:Str) (fs:List Str):List D:=[.tuple [bB fs,bB [x]],.tuple [bB [x],bB fs]]
theorem bw1 {x:Str}{r:List Str}{es:List lK} (hr:Jr (x::r) 6):∀ d∈Fa x (x::r),zm (x::r) es d:=by
 intro d hd
 unfold Fa at hd
 simp only [bf,aQ,or_false] at hd
 have l:=hr.len
 have f1:cO [bB (x::r),bB (x::r)]=.ok (.bool true):=gH hr.ok ⟨hr.up,fun _ h=>h⟩ l
 have f2:cO [bB (x::r),bB [x]]=.ok (.bool true):=gH hr.ok ⟨FX _ _,fun y h=>by rw [List.mem_singleton.mp h];exact ay⟩ (by simp)
 have s1:eG [bB (x::r),bB [x]]=.ok (.bool false):=by
  rw [Hd (by omega)]
  simp
 have s2:eG [bB [x],bB (x::r)]=.ok (.bool false):=by
  rw [Hd (by simp)]
  simp
 rcases hd with h | h<;>rw [h]
 ·exact ⟨sR (F9 (gS _) (gS _)) f1 (fun _=>f2) (fun _ _=>s1)⟩
 ·exact ⟨sR (F9 (gS _) (gS _)) f2 (fun _=>f1) (fun _ _=>s2)⟩
theorem Hh (ns:List Int) (k:Int) (hk:0<=k) {L:List D}{P:D->Prop} (hL:0<L.length) (h:∀ d∈L,P d) (F b:D):∃ d,cY (g2 (rB 4) (da 3 aY (J.ac (rS 0) (J.ac (rS 1) (J.ac (cJ (J.ac (rB 4) J.aq) (jQ lS)) J.aq)))) bD) [.shr (.list (ns.map .int)),.shr (.int k),.shr F,.shr b,.own (.list L)]=.ok (.rt d)/\P d:=by
 have hm:=eI ns k (L.length:Nat) hk (by omega)
 obtain ⟨d,hd,e⟩:=JD (L:=L) (eu ns k (L.length:Nat) (by omega)) (eV ns k (L.length:Nat) (by omega))
 refine ⟨d,?_,h d hd⟩
 walk_at "zz"
 rw [hm]
 walk_at "zz"
 rw [e]
 walk_at "zz"
theorem Qw (ns:List Int) (k:Int) (hk:0<=k) (fs:List Str) (es:List lK) (hr:Jr fs 6):∃ d,kz [.list (ns.map .int),.int k,bB fs]=.ok d/\zm fs es d:=by
 suffices H:∃ d,iY (bi 5 [.list (ns.map .int),.int k,bB fs])=.ok (.rt d)/\zm fs es d by
  obtain ⟨d,h1,h2⟩:=H
  exact ⟨d,cB h1,h2⟩
 obtain ⟨b,hb1,hb2⟩:=DP ns (k + 1) (by omega) fs hr
 have b0:=bw0 (es:=es) hr.ok hb2
 unfold iY bi
 generalize hG:cY _=G
 walk_at "zz"
 rw [hb1]
 walk_at "zz"
 rw [zV fs hr.ok]
 walk_at "zz"
 cases fs with
 | nil =>
  walk_at "zz"
  rw [<- hG]
  exact Hh ns k hk (L:=vd b) (by simp [vd]) b0 _ _
 | cons x r =>
  have b1:=bw1 (es:=es) hr
  rw [decide_eq_false (by simp)]
  simp only [hX,cond_true]
  rw [LA (ds:=vd b) (es:=Fa x (x::r))]
  ·walk_at "zz"
   rw [<- hG]
   exact Hh ns k hk (by simp [vd]) (fun d hd=>(List.mem_append.mp hd).elim (b0 d) (b1 d)) _ _
  ·rfl
  ·walk_at "zz"
   rw [F7]
   walk_at "zz"
   rw [F7]
   walk_at "zz"
   rfl
  ·simp [vd,Fa]
structure CA (fs:List Str) (es:List lK) (d:D):Prop where
 no:qf [dm fs es,d]=.ok (.bool false)
theorem Hi {fs:List Str}{es:List lK}{d:D} (h0:mx d=true) (h1:v4 "list" d=false):CA fs es d:=by
 refine ⟨?_⟩
 unfold qf
 refine cB ?_
 unfold qe bi
 walk_at "zz"
 rw [h0,h1]
 walk_at "zz"
theorem TD {fs:List Str}{es:List lK}{ds:List D} (h0:mx (.list ds)=true) (h1:64<ds.length):CA fs es (.list ds):=by
 refine ⟨?_⟩
 unfold qf
 refine cB ?_
 unfold qe bi
 walk_at "zz"
 rw [h0,show v4 "list" (.list ds)=true from rfl]
 walk_at "zz"
 rw [decide_eq_true (by omega)]
 walk_at "zz"
theorem wP {fs:List Str}{es:List lK}{ds:List D} (h0:mx (.list ds)=true) (hl:ds.length<=64) (b:D->Bool) (hb:∀ d∈ds,∃ r,cU [dm fs es,d]=.ok r/\VZ true r .none=.ok (.bool (b d))) (hz:ds.all b=false):CA fs es (.list ds):=by
 refine ⟨?_⟩
 unfold qf
 refine cB ?_
 unfold qe bi
 walk_at "zz"
 rw [h0,show v4 "list" (.list ds)=true from rfl]
 walk_at "zz"
 rw [decide_eq_false (by omega)]
 walk_at "zz"
 rw [if_pos (by omega)]
 rw [show ds=ds.map (fun d:D=>d) from (List.map_id _).symm]
 rw [eF _ (fun d:D=>d) (fun d=>db (b d)) ds fun d hd=>gR rfl (by
  obtain ⟨r,r1,r2⟩:=hb d hd
  walk_at "zz"
  rw [r1]
  walk_at "zz"
  rw [r2])]
 walk_at "zz"
 rw [kA _ b]
 walk_at "zz"
 rw [rV,show (id∘b)=b from rfl,hz]
def wQ (ns:List Str):List D:=[.none,.tuple (ns.map .str),.list ((ns++[("zzzzz" : Str)]).map .str),.list [.str "zzzzz"],.list [.none],.list [.list [.str "a"]],.str "a",.int 0,.list [.int 1]]
def Hj (x:Str):List D:=[.list (bt 65 [aM x]).flatten,.tuple [.str x]]
theorem br0 {fs:List Str}{es:List lK} (g:jj fs es):∀ d∈wQ (es.map (·.name)),CA fs es d:=by
 have lg:=g.len
 have bz:∀ d,(d=.str "zzzzz"\/∃ e∈es,d=.str e.name)->∃ r,cU [dm fs es,d]=.ok r/\VZ true r .none=.ok (.bool (match d with
   | .str x=>!decide (x="zzzzz")
   | _=>false)):=by
  rintro d (rfl | ⟨e,he,rfl⟩)
  ·exact ⟨_,Qn g,rfl⟩
  ·refine ⟨_,MV g (g.ok e he).name,?_⟩
   rw [B4 g.nd he]
   simp only [YO]
   rw [YL,decide_eq_false (JC (g.ok e he).name)]
   rfl
 intro d hd
 unfold wQ at hd
 simp only [bf,aQ,or_false] at hd
 rcases hd with rfl | rfl | rfl | rfl | rfl | rfl | rfl | rfl | rfl
 ·exact Hi rfl rfl
 ·exact Hi (gS _) rfl
 ·refine wP (u4 _ (fun _=>rfl) _) (by simp;omega) _ (fun d hd=>bz d ?_) ?_
  ·obtain ⟨x,hx,rfl⟩:=List.mem_map.mp hd
   rcases List.mem_append.mp hx with z | z
   ·obtain ⟨e,he,rfl⟩:=List.mem_map.mp z
    exact .inr ⟨e,he,rfl⟩
   ·rw [List.mem_singleton.mp z];exact .inl rfl
  ·simp
 ·refine wP rfl (by decide) _ (fun d hd=>bz d (.inl (List.mem_singleton.mp hd))) (by simp)
 ·exact wP rfl (by decide) (fun _=>false) (fun d hd=>by rw [List.mem_singleton.mp hd];exact ⟨_,B5 rfl rfl,rfl⟩) rfl
 ·exact wP rfl (by decide) (fun _=>false) (fun d hd=>by rw [List.mem_singleton.mp hd];exact ⟨_,B5 rfl rfl,rfl⟩) rfl
 ·exact Hi rfl rfl
 ·exact Hi rfl rfl
 ·exact wP rfl (by decide) (fun _=>false) (fun d hd=>by rw [List.mem_singleton.mp hd];exact ⟨_,B5 rfl rfl,rfl⟩) rfl
theorem LD (x:D):∀ n:Nat,(bt n [x]).flatten=bt n x
 | 0=>rfl
 | n + 1=>by rw [dh,gK,LD x n];rfl
theorem br1 {fs:List Str}{es:List lK} (x:Str):∀ d∈Hj x,CA fs es d:=by
 intro d hd
 unfold Hj at hd
 simp only [bf,aQ,or_false] at hd
 rcases hd with rfl | rfl
 ·rw [LD,show bt 65 (aM x)=(bt 65 x).map .str from (List.map_replicate ..).symm]
  exact TD (u4 _ (fun _=>rfl) _) (by simp)
 ·exact Hi rfl rfl
theorem Hk (ns:List Int) (k:Int) (hk:0<=k) {L:List D}{P:D->Prop} (hL:0<L.length) (h:∀ d∈L,P d) (F:D) (b:Sl):∃ d,cY (g2 (rB 4) (da 3 aY (J.ac (rS 0) (J.ac (rS 1) (J.ac (cJ (J.ac (rB 4) J.aq) (jQ lS)) J.aq)))) bD) [.shr (.list (ns.map .int)),.shr (.int k),.shr F,b,.own (.list L)]=.ok (.rt d)/\P d:=by
 have hm:=eI ns k (L.length:Nat) hk (by omega)
 obtain ⟨d,hd,e⟩:=JD (L:=L) (eu ns k (L.length:Nat) (by omega)) (eV ns k (L.length:Nat) (by omega))
 refine ⟨d,?_,h d hd⟩
 walk_at "zz"
 rw [hm]
 walk_at "zz"
 rw [e]
 walk_at "zz"
theorem TF (k:Nat) (g:au->R D) (gl gh:au->R (Option Int)) (ρ:au) {d:D}{l h:Option Int} (h1:g ρ=.ok d) (h2:gl ρ=.ok l) (h3:gh ρ=.ok h):J.AQ k g gl gh ρ=(Dz d l h).bind (J.T8 k):=by
 unfold J.AQ
 rw [h1,bind_ok,h2,bind_ok,h3,bind_ok]
theorem WH (x:D) (r:List D):Dz (.list (x::r)) none (some 1)=.ok (.list [x]):=by
 have e:Dz (.list (x::r)) none (some 1)=.ok (.list (sB (x::r) none (some 1))):=rfl
 rw [e,show (1:Int)=((1:Nat):Int) from rfl,Ju _ 1 (by simp)]
 rfl
theorem MZ {fs:List Str}{es:List lK} (g:jj fs es):dq (es.map fun e=>aM e.name)=true:=Ha _ es fun e he=>wL (g.ok e he).name
theorem TH (ns:List Int) (k:Int) (hk:0<=k) {fs:List Str}{es:List lK} (g:jj fs es):∃ d,lI [.list (ns.map .int),.int k,dm fs es]=.ok d/\CA fs es d:=by
 suffices H:∃ d,jy (bi 5 [.list (ns.map .int),.int k,dm fs es])=.ok (.rt d)/\CA fs es d by
  obtain ⟨d,h1,h2⟩:=H
  exact ⟨d,cB h1,h2⟩
 have lg:=g.len
 have b0:=br0 g
 have e3:(es.map fun e=>aM e.name)++[aM "zzzzz"]=((es.map (·.name))++[("zzzzz" : Str)]).map .str:=by rw [iH,gM];rfl
 have e1:(es.map fun e=>aM e.name)=(es.map (·.name)).map .str:=by rw [gM];rfl
 unfold jy bi
 generalize hG:cY _=G
 walk_at "zz"
 rw [WE]
 walk_at "zz"
 rw [if_pos (by omega)]
 rw [eF _ iM (fun e=>aM e.name) es fun e he=>gR rfl (by
  walk_at "zz"
  rw [Tu])]
 walk_at "zz"
 rw [iZ]
 walk_at "zz"
 rw [if_pos (by omega)]
 walk_at "zz"
 rw [e3]
 rw [Tx _ (MZ g)]
 cases es with
 | nil =>
  walk_at "zz"
  rw [<- hG]
  exact Hk ns k hk (L:=wQ []) (by simp [wQ]) b0 _ _
 | cons a r =>
  rw [decide_eq_false (by simp)]
  simp only [hX]
  walk_at "zz"
  rw [LA (ds:=wQ ((a::r).map (·.name))) (es:=Hj a.name)]
  ·walk_at "zz"
   rw [<- hG]
   exact Hk ns k hk (L:=wQ ((a::r).map (·.name))++Hj a.name) (by simp [wQ]) (fun d hd=>(List.mem_append.mp hd).elim (b0 d) (br1 a.name d)) _ _
  ·rw [wQ,<- e1]
   rfl
  ·walk_at "zz"
   rw [TF (d:=.list (aM a.name::r.map fun e=>aM e.name)) (l:=none) (h:=some 1) _ _ _ _ _ rfl rfl rfl,WH]
   walk_at "zz"
   rw [show J.T8 65 (.list [aM a.name])=.ok (.list (bt 65 [aM a.name]).flatten) from rfl]
   walk_at "zz"
   rw [show bD (.list (aM a.name::De (fun e=>aM e.name) r)) (.int 0)=.ok (.str a.name) from lC (j:=0) rfl]
   walk_at "zz"
   rfl
  ·simp [wQ,Hj]
theorem Qx (x:Str) (gs:au->R (List D)) (s:Sl) (ρ:au) {d:D} (h:gs (s::ρ)=.ok [d]):J.qT x gs (s::ρ)=.ex x none:=by
 unfold J.qT
 rw [h,bind_ok]
 rfl
theorem JF {fs:List Str}{es:List lK}{d:D} (h:CA fs es d):fo [dm fs es,d]=.ex "NoRow" none:=by
 unfold fo
 refine bV ?_
 unfold mG bi
 walk_at "zz"
 rw [h.no]
 walk_at "zz"
 rw [Qx (d:=.none) _ _ _ _ rfl]
 walk_at "zz"
def Vf:Nat->D
 | 0=>.tuple [.str "X",.tuple [],.tuple [],.tuple [],.tuple [],.int 0]
 | 1=>.tuple [.str "x",.tuple [],.tuple [],.tuple [],.tuple []]
 | 2=>.list [.str "x",.tuple [],.tuple [],.tuple [],.tuple [],.int 0]
 | 3=>.none
 | 4=>.tuple [.str "x",.tuple [],.tuple [],.tuple [],.tuple [],.int 10]
 | 5=>.tuple [.str "x",.tuple [],.tuple [],.tuple [],.tuple [],.int (-1)]
 | 6=>.tuple [.str "x",.tuple [],.tuple [],.tuple [],.tuple [],.bool true]
 | 7=>.tuple [.str "x",.list [.str "a"],.tuple [],.tuple [],.tuple [],.int 0]
 | 8=>.tuple [.str "x",.tuple [.str "b",.str "a"],.tuple [],.tuple [],.tuple [],.int 0]
 | 9=>.tuple [.str "x",.tuple [.str "a",.str "a"],.tuple [],.tuple [],.tuple [],.int 0]
 | 10=>.tuple [.str "x",.tuple [.str "a"],.tuple [.str "a"],.tuple [],.tuple [],.int 0]
 | 11=>.tuple [.str "x",.tuple [],.tuple [],.tuple [.str "a"],.tuple [.str "a"],.int 0]
 | 12=>.tuple [.str "x",.tuple [],.tuple [],.tuple [],.none,.int 0]
 | 13=>.tuple [.str "x",.tuple [.str "zz"],.tuple [],.tuple [],.tuple [],.int 0]
 | 14=>.tuple [.str "x",.tuple [],.tuple [],.tuple [],.tuple [],.int 0,.int 0]
 | 15=>.tuple [.str "x",.tuple [],.tuple [.str "a",.int 1],.tuple [],.tuple [],.int 0]
 | _=>.none
def Qy (E:D):Nat->D
 | 0=>.tuple [.tuple [.str "a",.str "b"],.tuple [E]]
 | 1=>.tuple [.tuple [.str "a",.str "b"],.tuple [E]]
 | 2=>.tuple [.tuple [.str "a",.str "b"],.tuple [E]]
 | 3=>.tuple [.tuple [.str "a",.str "b"],.tuple [.tuple [.str "x",.tuple [],.tuple [],.tuple [],.tuple [],.int 0],E]]
 | 4=>.tuple [.tuple [.str "a",.str "b"],.tuple [.tuple [.str "x",.tuple [],.tuple [],.tuple [],.tuple [],.int 0],E]]
 | 5=>.tuple [.tuple [.str "a",.str "b"],.tuple [.tuple [.str "x",.tuple [],.tuple [],.tuple [],.tuple [],.int 0],.tuple [.str "x",.tuple [],.tuple [],.tuple [],.tuple [],.int 0]]]
 | 6=>.tuple [.tuple [.str "a",.str "b"],.tuple [.tuple [.str "p",.tuple [],.tuple [],.tuple [],.tuple [],.int 0],.tuple [.str "q",.tuple [],.tuple [],.tuple [],.tuple [],.int 0],.tuple [.str "r",.tuple [],.tuple [],.tuple [],.tuple [],.int 0],.tuple [.str "s",.tuple [],.tuple [],.tuple [],.tuple [],.int 0],.tuple [.str "t",.tuple [],.tuple [],.tuple [],.tuple [],.int 0],.tuple [.str "u",.tuple [],.tuple [],.tuple [],.tuple [],.int 0],.tuple [.str "v",.tuple [],.tuple [],.tuple [],.tuple [],.int 0]]]
 | 7=>.tuple [.tuple [.str "a",.str "b"],.list [.tuple [.str "x",.tuple [],.tuple [],.tuple [],.tuple [],.int 0]]]
 | 8=>.tuple [.tuple [.str "a",.str "b"]]
 | 9=>.list [.tuple [.str "a",.str "b"],.tuple []]
 | 10=>.none
 | 11=>.tuple [.tuple [.str "b",.str "a"],.tuple []]
 | 12=>.tuple [.tuple [.str "a",.str "a"],.tuple []]
 | 13=>.tuple [.list [.str "a"],.tuple []]
 | 14=>.tuple [.tuple [.str "A"],.tuple []]
 | 15=>.tuple [.tuple [.str "a",.str "b",.str "c",.str "d",.str "e",.str "f",.str "g"],.tuple []]
 | 16=>.tuple [.tuple [.str "a",.str "b"],.tuple [],.tuple []]
 | 17=>.tuple [.tuple [.str ""],.tuple []]
 | _=>.none
theorem sq {a b:au->R Fl}{ρ ρ':au}{r:R Fl} (h1:a ρ=.ok (.nx ρ')) (h2:b ρ'=r):aC a b ρ=r:=by
 unfold aC
 rw [h1]
 exact h2
theorem Vg {g:au->R D}{ρ:au}{d:D} (h:g (fj ρ)=.ok d):cY g ρ=.ok (.rt d):=by
 unfold cY
 rw [h]
 rfl
theorem Qz {ga gb:au->R D}{h:D->D->R D}{ρ:au}{x y d:D} (h1:ga ρ=.ok x) (h2:gb ρ=.ok y) (h3:h x y=.ok d):g2 ga gb h ρ=.ok d:=by
 unfold g2
 rw [h1,bind_ok,h2,bind_ok,h3]
theorem Ah {n:Nat}{F:List D->R D}{gs:au->R (List D)}{ρ:au}{ds:List D}{r:R D} (h1:gs ρ=.ok ds) (h2:ds.length=n) (h3:F ds=r):da n F gs ρ=r:=by
 unfold da
 rw [h1,bind_ok,if_pos h2,h3]
theorem WI {i:Nat}{g:au->R D}{ρ:au}{d:D} (h:g ρ=.ok d):fB i g ρ=.ok (.nx (ρ.set i (.shr d))):=by
 unfold fB
 rw [h]
 rfl
theorem YT {j:Int} (h0:0<=j) (h1:j<16):∃ i:_root_.Fin 16,j=(i.val:Int):=⟨⟨j.toNat,by omega⟩,(cH h0).symm⟩
theorem YU {j:Int} (h0:0<=j) (h1:j<18):∃ i:_root_.Fin 18,j=(i.val:Int):=⟨⟨j.toNat,by omega⟩,(cH h0).symm⟩
theorem JH (ns:List Int) (k:Int) (hk:0<=k) (i:_root_.Fin 16) (hm:e_ ns k 16=(i.val:Int)):gW [.list (ns.map .int),.int k]=.ok (Vf i.val):=by
 have hM:=eI ns k 16 hk (by decide)
 rw [hm] at hM
 generalize fA (ns.map ed)=L at hM ⊢
 unfold gW
 refine cB ?_
 unfold ja
 refine sq rfl (sq rfl (sq rfl (sq rfl (sq rfl (sq rfl (Vg (Qz rfl (Ah rfl rfl hM) ?_)))))))
 clear hM hm
 match i with
 | ⟨0,_⟩=>exact id rfl
 | ⟨1,_⟩=>exact id rfl
 | ⟨2,_⟩=>exact id rfl
 | ⟨3,_⟩=>exact id rfl
 | ⟨4,_⟩=>exact id rfl
 | ⟨5,_⟩=>exact id rfl
 | ⟨6,_⟩=>exact id rfl
 | ⟨7,_⟩=>exact id rfl
 | ⟨8,_⟩=>exact id rfl
 | ⟨9,_⟩=>exact id rfl
 | ⟨10,_⟩=>exact id rfl
 | ⟨11,_⟩=>exact id rfl
 | ⟨12,_⟩=>exact id rfl
 | ⟨13,_⟩=>exact id rfl
 | ⟨14,_⟩=>exact id rfl
 | ⟨15,_⟩=>exact id rfl
 | ⟨n + 16,h⟩=>omega
def YV:Nat->Int
 | 0=>0
 | 1=>0
 | 2=>0
 | 3=>1
 | 4=>1
 | 5=>3
 | 6=>4
 | 7=>5
 | 8=>6
 | 9=>7
 | 10=>8
 | 11=>9
 | 12=>10
 | 13=>11
 | 14=>12
 | 15=>13
 | 16=>14
 | 17=>15
 | _=>0
theorem QA (ns:List Int) (k:Int) (hk:0<=k) (i:_root_.Fin 18) (hm:e_ ns k 18=(i.val:Int)) (E:D) (hE:gW [.list (ns.map .int),.int (k + 1)]=.ok E):gX [.list (ns.map .int),.int k]=.ok (Qy E i.val):=by
 have hM:=eI ns k 18 hk (by decide)
 rw [hm] at hM
 generalize fA (ns.map ed)=L at hM hE ⊢
 unfold gX
 refine cB ?_
 unfold ku
 refine sq rfl (sq rfl (sq (WI (Ah rfl rfl hE)) (sq rfl (sq rfl (sq rfl (sq rfl (Vg (Qz (y:=.int (YV i.val)) rfl (Qz rfl (Ah rfl rfl hM) ?_) ?_))))))))
 ·clear hM hm hE
  match i with
  | ⟨0,_⟩=>exact id rfl
  | ⟨1,_⟩=>exact id rfl
  | ⟨2,_⟩=>exact id rfl
  | ⟨3,_⟩=>exact id rfl
  | ⟨4,_⟩=>exact id rfl
  | ⟨5,_⟩=>exact id rfl
  | ⟨6,_⟩=>exact id rfl
  | ⟨7,_⟩=>exact id rfl
  | ⟨8,_⟩=>exact id rfl
  | ⟨9,_⟩=>exact id rfl
  | ⟨10,_⟩=>exact id rfl
  | ⟨11,_⟩=>exact id rfl
  | ⟨12,_⟩=>exact id rfl
  | ⟨13,_⟩=>exact id rfl
  | ⟨14,_⟩=>exact id rfl
  | ⟨15,_⟩=>exact id rfl
  | ⟨16,_⟩=>exact id rfl
  | ⟨17,_⟩=>exact id rfl
  | ⟨n + 18,h⟩=>omega
 ·clear hM hm hE
  match i with
  | ⟨0,_⟩=>exact id rfl
  | ⟨1,_⟩=>exact id rfl
  | ⟨2,_⟩=>exact id rfl
  | ⟨3,_⟩=>exact id rfl
  | ⟨4,_⟩=>exact id rfl
  | ⟨5,_⟩=>exact id rfl
  | ⟨6,_⟩=>exact id rfl
  | ⟨7,_⟩=>exact id rfl
  | ⟨8,_⟩=>exact id rfl
  | ⟨9,_⟩=>exact id rfl
  | ⟨10,_⟩=>exact id rfl
  | ⟨11,_⟩=>exact id rfl
  | ⟨12,_⟩=>exact id rfl
  | ⟨13,_⟩=>exact id rfl
  | ⟨14,_⟩=>exact id rfl
  | ⟨15,_⟩=>exact id rfl
  | ⟨16,_⟩=>exact id rfl
  | ⟨17,_⟩=>exact id rfl
  | ⟨n + 18,h⟩=>omega
structure QB (d:D):Prop where
 no:mQ [d]=.ok (.bool false)
theorem TJ:∀ (i:_root_.Fin 18) (j:_root_.Fin 16),WF (mQ [Qy (Vf j.val) i.val])=true:=by decide +kernel
theorem JJ (ns:List Int) (k:Int) (hk:0<=k):∃ d,gX [.list (ns.map .int),.int k]=.ok d/\QB d:=by
 obtain ⟨i,hi⟩:=YU (eu ns k 18 (by decide)) (eV ns k 18 (by decide))
 obtain ⟨j,hj⟩:=YT (eu ns (k + 1) 16 (by decide)) (eV ns (k + 1) 16 (by decide))
 exact ⟨_,QA ns k hk i hi _ (JH ns (k + 1) (by omega) j hj),⟨wO (TJ i j)⟩⟩
section
variable {b s w u v:D}{x:Str}
theorem fg {g1 g2:au->R Fl}{ρ:au} (h:g1 ρ=.ex x none):aC g1 g2 ρ=.ex x none:=by
 unfold aC
 rw [h]
 rfl
theorem cC {m:Nat}{F:List D->R D}{gs:au->R (List D)}{ρ:au}{ds:List D} (h1:gs ρ=.ok ds) (h2:ds.length=m) (h3:F ds=.ex x none):eh (da m F gs) ρ=.ex x none:=by
 have:=Ah h1 h2 h3
 unfold eh
 rw [this]
 rfl
theorem WJ {i m:Nat}{F:List D->R D}{gs:au->R (List D)}{ρ:au}{ds:List D} (h1:gs ρ=.ok ds) (h2:ds.length=m) (h3:F ds=.ex x none):fB i (da m F gs) ρ=.ex x none:=by
 have:=Ah h1 h2 h3
 unfold fB
 rw [this]
 rfl
theorem B9 (h:QB b):cn [b]=.ex "NoBook" none:=by
 unfold cn
 refine bV ?_
 unfold qc bi
 walk_at "zz"
 rw [h.no]
 walk_at "zz"
 rw [F5 _ _ _ _ rfl (by decide)]
 walk_at "zz"
theorem QC (h:QB b):aZ [b,s]=.ex "NoBook" none:=bV (fg (cC rfl rfl (B9 h)))
theorem QD (h:aZ [b,s]=.ex x none):bj [b,s,w]=.ex x none:=bV (fg (cC rfl rfl h))
theorem QE (h:aZ [b,s]=.ex x none):GT [b,s]=.ex x none:=bV (fg (cC rfl rfl h))
theorem DQ (h:aZ [b,s]=.ex x none):tW [b,s]=.ex x none:=bV (fg (cC rfl rfl h))
theorem LF (h:aZ [b,s]=.ex x none):zP [b,s]=.ex x none:=bV (fg (cC rfl rfl h))
theorem Hl (h:aZ [b,s]=.ex x none):wD [b,s]=.ex x none:=bV (fg (cC rfl rfl h))
theorem QF (h:aZ [b,s]=.ex x none):EO [b,s]=.ex x none:=bV (fg (cC rfl rfl h))
theorem QG (h:aZ [b,s]=.ex x none):EN [b,s,w]=.ex x none:=bV (fg (cC rfl rfl h))
theorem Hm (h:aZ [b,s]=.ex x none):wC [b,s,w]=.ex x none:=bV (fg (cC rfl rfl h))
theorem uF (h:aZ [b,s]=.ex x none):lF [b,s,w]=.ex x none:=bV (fg (cC rfl rfl h))
theorem LG (h:aZ [b,s]=.ex x none):qX [b,s,w]=.ex x none:=bV (fg (cC rfl rfl h))
theorem Ba (h:bj [b,s,w]=.ex x none):sK [b,s,w]=.ex x none:=bV (fg (cC rfl rfl h))
theorem rg (h:bj [b,s,w]=.ex x none):k_ [b,s,w]=.ex x none:=bV (fg (cC rfl rfl h))
theorem mf (h:bj [b,s,w]=.ex x none):im [b,s,w]=.ex x none:=bV (fg (cC rfl rfl h))
theorem p6 (h:bj [b,s,w]=.ex x none):jw [b,s,w]=.ex x none:=bV (fg (cC rfl rfl h))
theorem vf (h:bj [b,s,w]=.ex x none):nj [b,s,w]=.ex x none:=bV (fg (cC rfl rfl h))
theorem p7 (h:bj [b,s,w]=.ex x none):jx [b,s,w]=.ex x none:=bV (fg (cC rfl rfl h))
theorem JK (h:bj [b,s,w]=.ex x none):AW [b,s,w]=.ex x none:=bV (fg (cC rfl rfl h))
theorem sS (h:bj [b,s,w]=.ex x none):kq [b,s,w]=.ex x none:=bV (fg (cC rfl rfl h))
theorem xV (h:bj [b,s,w]=.ex x none):qd [b,s,w]=.ex x none:=bV (fg (cC rfl rfl (sS h)))
theorem sU (h:bj [b,s,w]=.ex x none):lU [b,s,w]=.ex x none:=bV (fg (cC rfl rfl (sS h)))
theorem QH (h:bj [b,s,w]=.ex x none):GU [b,s,w]=.ex x none:=bV (fg (WJ rfl rfl (rg h)))
theorem qi (h:bj [b,s,w]=.ex x none):jv [b,s,w,u]=.ex x none:=bV (fg (cC rfl rfl h))
theorem vg (h:bj [b,s,w]=.ex x none):nl [b,s,w,u]=.ex x none:=bV (fg (cC rfl rfl h))
theorem Bb (h:bj [b,s,w]=.ex x none):lW [b,s,w,u]=.ex x none:=bV (fg (cC rfl rfl h))
theorem Ho (h:cn [b]=.ex x none):sO [b]=.ex x none:=bV (fg (cC rfl rfl h))
theorem TK (h:cn [b]=.ex x none):tX [b,s]=.ex x none:=bV (fg (cC rfl rfl h))
theorem QI (h:cn [b]=.ex x none):qh [b,s]=.ex x none:=bV (fg (cC rfl rfl h))
theorem WK (h:cn [b]=.ex x none):Jq [b,s]=.ex x none:=bV (fg (cC rfl rfl h))
theorem CB (h:cn [b]=.ex x none):oZ [b,s]=.ex x none:=bV (fg (cC rfl rfl h))
theorem xW (h:cn [b]=.ex x none):l9 [b,s]=.ex x none:=bV (fg (cC rfl rfl h))
theorem TL (h:cn [b]=.ex x none):mH [b,s,w]=.ex x none:=bV (fg (cC rfl rfl h))
theorem QJ (h:cn [b]=.ex x none):AY [b,s,w]=.ex x none:=bV (fg (cC rfl rfl h))
theorem sV (h:aZ [b,s]=.ex x none):kr [b,s,w,u]=.ex x none:=bV (fg (cC rfl rfl h))
theorem u5 (h:jv [b,s,w,u]=.ex x none):l5 [b,s,w,u]=.ex x none:=by
 unfold l5
 refine bV ?_
 unfold tY bi
 walk_at "zz"
 rw [h]
 walk_at "zz"
theorem TM (h:cn [b]=.ex x none):zR [b]=.ex x none:=by
 unfold zR
 refine bV ?_
 unfold zQ bi
 walk_at "zz"
 rw [h]
 walk_at "zz"
theorem yL (h:aZ [b,s]=.ex x none):lV [b,s,w,u]=.ex x none:=by
 unfold lV
 refine bV ?_
 unfold o9 bi
 walk_at "zz"
 rw [sV h]
 walk_at "zz"
theorem Bc (h:aZ [b,s]=.ex x none):ni [b,s,w,u]=.ex x none:=by
 unfold ni
 refine bV ?_
 unfold qW bi
 walk_at "zz"
 rw [sV h]
 walk_at "zz"
theorem bJ {p:(List D->R D)->Prop}{a:List D->R D}{l:List (List D->R D)} (h:p a) (r:∀ F∈l,p F):∀ F∈a::l,p F:=fun F hF=>by
 rcases List.mem_cons.mp hF with z | z
 ·rw [z];exact h
 ·exact r F z
theorem Bd {p:(List D->R D)->Prop}:∀ F∈([] : List (List D->R D)),p F:=fun _ h=>nomatch h
theorem rh {Fs:List (List D->R D)}{n:Nat}{gi:au->R D}{gs:au->R (List D)}{ρ:au}{k:Int}{ds:List D} (hi:gi ρ=.ok (.int k)) (h0:0<=k) (hl:k.toNat<Fs.length) (hg:gs ρ=.ok ds) (hn:ds.length=n) (h:∀ F∈Fs,F ds=.ex x none):rK Fs n gi gs ρ=.ex x none:=by
 unfold rK
 have e:=bg hl
 rw [hi,bind_ok]
 simp only [if_pos h0,e,hg,bind_ok,if_pos hn,h _ (hW hl),bind_ex]
theorem sW {i:Nat}{Fs:List (List D->R D)}{n:Nat}{gi:au->R D}{gs:au->R (List D)}{ρ:au}{k:Int}{ds:List D} (hr:i<ρ.length) (hi:gi (ρ.set i .no)=.ok (.int k)) (h0:0<=k) (hl:k.toNat<Fs.length) (hg:gs (ρ.set i .no)=.ok ds) (hn:ds.length=n) (h:∀ F∈Fs,F ds=.ex x none):kY i Fs n gi gs ρ=.ex x none:=by
 unfold kY
 rw [if_pos hr]
 exact rh hi h0 hl hg hn h
end
theorem Be {r:R Fl}{K:Fl->R Fl}{x:Str} (h:r=.ex x none):r.bind K=.ex x none:=by rw [h];rfl
theorem LH (gi:au->R (List D)) (kt:D->au->R au) (gb:au->R Fl) (s:Sl) (ρ:au) {x:Str}{n:Option D} (h:gi (s::ρ)=.ex x n):yJ gi kt gb (s::ρ)=.ex x n:=by unfold yJ;rw [h,bind_ex]
theorem YW (a b:D):Tb 2 [.shr a,.shr b,.no,.no,.no]=.ok (.nx [.shr a,.shr b,.ow2 [],.no,.no]):=rfl
theorem WL (gs:au->R (List D)) (s:Sl) (ρ:au):J.Lk gs (s::ρ)=(gs (s::ρ)).bind J.Wo:=id rfl
theorem TQ {b:D} (hb:QB b) (k:Nat) (hk:k<36):gm [.int (k:Nat),b]=.ex "NoBook" none:=by
 have c:=B9 hb
 have p:aZ [b,.none]=.ex "NoBook" none:=QC hb
 have a:bj [b,.none,.none]=.ex "NoBook" none:=QD p
 unfold gm
 refine bV ?_
 unfold iK bi
 walk_at "zz"
 by_cases h1:k<3
 ·rw [decide_eq_true (by omega)]
  simp only [cond_true]
  refine Be (rh (k:=(k:Nat)) (ds:=[b]) ?_ (by omega) (by simp;omega) ?_ ?_ (bJ (c) (bJ (TM c) (bJ (Ho c) Bd))))
  all_goals rfl
 ·rw [decide_eq_false (by omega)]
  walk_at "zz"
  by_cases h2:k<14
  ·rw [decide_eq_true (by omega)]
   simp only [cond_true]
   refine Be (sW (k:=(k:Nat) - 3) (ds:=[b,.none]) (by simp) ?_ (by omega) (by simp;omega) ?_ ?_ (bJ (QE p) (bJ (DQ p) (bJ (LF p) (bJ (Hl p) (bJ (QF p) (bJ (TK c) (bJ (QI c) (bJ (WK c) (bJ (CB c) (bJ (xW c) (bJ (QE p) Bd))))))))))))
   all_goals rfl
  ·rw [decide_eq_false (by omega)]
   walk_at "zz"
   by_cases h3:k<29
   ·rw [decide_eq_true (by omega)]
    simp only [cond_true]
    refine Be (sW (k:=(k:Nat) - 14) (ds:=[b,.none,.none]) (by simp) ?_ (by omega) (by simp;omega) ?_ ?_ (bJ (QG p) (bJ (Ba a) (bJ (LG p) (bJ (TL c) (bJ (Hm p) (bJ (rg a) (bJ (QH a) (bJ (mf a) (bJ (p6 a) (bJ (vf a) (bJ (p7 a) (bJ (JK a) (bJ (xV a) (bJ (sU a) (bJ (uF p) Bd))))))))))))))))
    all_goals rfl
   ·rw [decide_eq_false (by omega)]
    walk_at "zz"
    rw [ft]
    walk_at "zz"
    by_cases h4:k=29
    ·rw [decide_eq_true (by omega)]
     walk_at "zz"
     rw [QJ c]
     walk_at "zz"
    ·rw [decide_eq_false (by omega)]
     walk_at "zz"
     refine (sW (k:=(k:Nat) - 30) (ds:=[b,.none,.none,.none]) (by simp) ?_ (by omega) (by simp;omega) ?_ ?_ (bJ (qi a) (bJ (vg a) (bJ (u5 (qi a)) (bJ (Bb a) (bJ (yL p) (bJ (Bc p) Bd)))))))
     all_goals rfl
theorem QK {fs:List Str}{es:List lK}{d:D} (g:jj fs es) (hd:ur fs d) (k:Nat) (hk:k<25):fJ [.int (k:Nat),dm fs es,d]=.ex "NoState" none:=by
 have p:aZ [dm fs es,d]=.ex "NoState" none:=Qr g hd
 have a:bj [dm fs es,d,.none]=.ex "NoState" none:=QD p
 unfold fJ
 refine bV ?_
 unfold i5 bi
 walk_at "zz"
 by_cases h1:k<5
 ·rw [decide_eq_true (by omega)]
  simp only [cond_true]
  refine Be (rh (k:=(k:Nat)) (ds:=[dm fs es,d]) ?_ (by omega) (by simp;omega) ?_ ?_ (bJ (QE p) (bJ (DQ p) (bJ (LF p) (bJ (Hl p) (bJ (QF p) Bd))))))
  all_goals rfl
 ·rw [decide_eq_false (by omega)]
  walk_at "zz"
  by_cases h2:k<19
  ·rw [decide_eq_true (by omega)]
   simp only [cond_true]
   refine Be (sW (k:=(k:Nat) - 5) (ds:=[dm fs es,d,.none]) (by simp) ?_ (by omega) (by simp;omega) ?_ ?_ (bJ (QG p) (bJ (Ba a) (bJ (LG p) (bJ (Hm p) (bJ (rg a) (bJ (QH a) (bJ (mf a) (bJ (p6 a) (bJ (vf a) (bJ (p7 a) (bJ (JK a) (bJ (xV a) (bJ (sU a) (bJ (uF p) Bd)))))))))))))))
   all_goals rfl
  ·rw [decide_eq_false (by omega)]
   walk_at "zz"
   refine (rh (k:=(k:Nat) - 19) (ds:=[dm fs es,d,.none,.none]) ?_ (by omega) (by simp;omega) ?_ ?_ (bJ (qi a) (bJ (vg a) (bJ (u5 (qi a)) (bJ (Bb a) (bJ (yL p) (bJ (Bc p) Bd)))))))
   all_goals rfl
theorem TU {fs ss:List Str}{es:List lK}{d:D} (g:jj fs es) (hs:Sub fs ss) (hd:zm fs es d) (k:Nat) (hk:k<15):gq [.int (k:Nat),dm fs es,bB ss,d]=.ex "NoWant" none:=by
 have a:bj [dm fs es,bB ss,d]=.ex "NoWant" none:=WG g hs hd
 unfold gq
 refine bV ?_
 unfold iL bi
 walk_at "zz"
 by_cases h1:k<10
 ·rw [decide_eq_true (by omega)]
  simp only [cond_true]
  refine Be (sW (k:=(k:Nat)) (ds:=[dm fs es,bB ss,d]) (by simp) ?_ (by omega) (by simp;omega) ?_ ?_ (bJ (Ba a) (bJ (rg a) (bJ (QH a) (bJ (mf a) (bJ (p6 a) (bJ (vf a) (bJ (p7 a) (bJ (JK a) (bJ (xV a) (bJ (sU a) Bd)))))))))))
  all_goals rfl
 ·rw [decide_eq_false (by omega)]
  walk_at "zz"
  rw [ft]
  walk_at "zz"
  by_cases h4:k=10
  ·rw [decide_eq_true (by omega)]
   walk_at "zz"
   have:mH [dm fs es,d,.none]=.ex "NoWant" none:=by
    unfold mH
    refine bV ?_
    unfold wF bi
    walk_at "zz"
    rw [rf g]
    walk_at "zz"
    rw [Hg hd]
    walk_at "zz"
   rw [this]
   walk_at "zz"
  ·rw [decide_eq_false (by omega)]
   walk_at "zz"
   refine (rh (k:=(k:Nat) - 11) (ds:=[dm fs es,bB ss,d,.none]) ?_ (by omega) (by simp;omega) ?_ ?_ (bJ (qi a) (bJ (vg a) (bJ (u5 (qi a)) (bJ (Bb a) Bd)))))
   all_goals rfl
theorem WM {fs ss m b:List Str}{es:List lK}{d:D} (g:jj fs es) (hs:Sub fs ss) (hw:B3 fs m b) (hd:CA fs es d) (k:Nat) (hk:k<7):gY [.int (k:Nat),dm fs es,bB ss,mJ m b,d]=.ex "NoRow" none:=by
 have r:=JF hd
 have ck:=rf g
 have ep:tX [dm fs es,d]=.ex "NoRow" none:=by
  unfold tX
  refine bV ?_
  unfold zO bi
  walk_at "zz"
  rw [ck]
  walk_at "zz"
  rw [r]
  walk_at "zz"
 have er:qh [dm fs es,d]=.ex "NoRow" none:=by
  unfold qh
  refine bV ?_
  unfold wH bi
  walk_at "zz"
  rw [ck]
  walk_at "zz"
  rw [YW]
  walk_at "zz"
  rw [LH (x:="NoRow") (n:=none)]
  ·walk_at "zz"
  ·walk_at "zz"
   rw [r]
   walk_at "zz"
 have el:qX [dm fs es,bB ss,d]=.ex "NoRow" none:=by
  unfold qX
  refine bV ?_
  unfold zN bi
  walk_at "zz"
  rw [B8 g hs]
  walk_at "zz"
  rw [r]
  walk_at "zz"
 have ea:mH [dm fs es,mJ m b,d]=.ex "NoRow" none:=by
  unfold mH
  refine bV ?_
  unfold wF bi
  walk_at "zz"
  rw [ck]
  walk_at "zz"
  rw [Hf g hw]
  walk_at "zz"
  rw [LH (x:="NoRow") (n:=none)]
  ·walk_at "zz"
  ·rw [WL]
   walk_at "zz"
   rw [r]
   walk_at "zz"
 have es':jv [dm fs es,bB ss,mJ m b,d]=.ex "NoRow" none:=by
  unfold jv
  refine bV ?_
  unfold wE bi
  walk_at "zz"
  rw [Qu g hs hw]
  walk_at "zz"
  rw [r]
  walk_at "zz"
 have em:lW [dm fs es,bB ss,mJ m b,d]=.ex "NoRow" none:=by
  unfold lW
  refine bV ?_
  unfold wG bi
  walk_at "zz"
  rw [Qu g hs hw]
  walk_at "zz"
  rw [r]
  walk_at "zz"
 unfold gY
 refine bV ?_
 unfold jb bi
 walk_at "zz"
 by_cases h1:k<2
 ·rw [decide_eq_true (by omega)]
  simp only [cond_true]
  refine Be (rh (k:=(k:Nat)) (ds:=[dm fs es,d]) ?_ (by omega) (by simp;omega) ?_ ?_ (bJ ep (bJ er Bd)))
  all_goals rfl
 ·rw [decide_eq_false (by omega)]
  walk_at "zz"
  rw [ft]
  walk_at "zz"
  by_cases h2:k=2
  ·rw [decide_eq_true (by omega)]
   walk_at "zz"
   rw [el]
   walk_at "zz"
  ·rw [decide_eq_false (by omega)]
   walk_at "zz"
   rw [ft]
   walk_at "zz"
   by_cases h3:k=3
   ·rw [decide_eq_true (by omega)]
    walk_at "zz"
    rw [ea]
    walk_at "zz"
   ·rw [decide_eq_false (by omega)]
    walk_at "zz"
    refine (rh (k:=(k:Nat) - 4) (ds:=[dm fs es,bB ss,mJ m b,d]) ?_ (by omega) (by simp;omega) ?_ ?_ (bJ es' (bJ (u5 es') (bJ em Bd))))
    all_goals rfl
theorem wh0:Td "NoBook"=some 0:=by decide +kernel
theorem wh1:Td "NoState"=some 1:=by decide +kernel
theorem wh2:Td "NoWant"=some 2:=by decide +kernel
theorem wh4:Td "NoRow"=some 4:=by decide +kernel
theorem WN (j:Nat) (h:j<5):mz true (.tuple [.str "refused",.int (j:Nat)]) (.tuple [.str "refused",.int (j:Nat)])=.ok (.bool false):=by
 have:j=0\/j=1\/j=2\/j=3\/j=4:=by omega
 rcases this with h | h | h | h | h<;>subst h<;>exact wO (by decide +kernel)
theorem LJ {wh:Str->Option Nat}{g:au->R Fl}{ρ:au}{y:Str}{j:Nat} (h:g ρ=.ex y none) (hw:wh y=some j):J.Ji wh g ρ=.ok (.rt (.tuple [.str "refused",.int (j:Nat)])):=by
 unfold J.Ji
 rw [h]
 simp only [hw]
def YX:au->R Fl:=(aC (ev (gN (g2 (rB 0) (kI 0) (mz false))) (cY (da 2 gm (J.ac (g2 (rB 1) (kI 36) wn) (J.ac (rS 3) J.aq)))) (fun ρ=>.ok (.nx ρ))) (aC (ev (gN (g2 (rB 0) (kI 1) (mz false))) (cY (da 3 fJ (J.ac (g2 (rB 1) (kI 25) wn) (J.ac (rS 4) (J.ac (rS 3) J.aq))))) (fun ρ=>.ok (.nx ρ))) (aC (ev (gN (g2 (rB 0) (kI 2) (mz false))) (cY (da 4 gq (J.ac (g2 (rB 1) (kI 15) wn) (J.ac (rS 4) (J.ac (rS 5) (J.ac (rS 3) J.aq)))))) (fun ρ=>.ok (.nx ρ))) (cY (da 5 gY (J.ac (g2 (rB 1) (kI 7) wn) (J.ac (rS 4) (J.ac (rS 5) (J.ac (rS 6) (J.ac (rS 3) J.aq))))))))))
theorem QL:lJ=aC (Cu (rS 2) (rN 3 (dR (cL 4) (dR (cL 5) (dR (cL 6) uq))))) (J.Ji Td YX):=rfl
theorem zW {w:Int} (h:0<=w) (n:Nat) (hn:0<n):∃ k:Nat,w % (n:Int)=(k:Int)/\k<n:=by
 have h1:=tL w (b:=(n:Int)) (by omega)
 have h2:=oN w (b:=(n:Int)) (by omega)
 exact ⟨(w % (n:Int)).toNat,by omega,by omega⟩
def LK:Nat->Nat
 | 0=>0
 | 1=>1
 | 2=>2
 | _=>4
structure WO (fs:List Str) (es:List lK) (b0 b1 b2 b3:D):Prop where
 k0:QB b0
 k1:ur fs b1
 k2:zm fs es b2
 k3:CA fs es b3
def yM (b0 b1 b2 b3:D):Nat->D
 | 0=>b0
 | 1=>b1
 | 2=>b2
 | _=>b3
theorem JM {fs ss m b:List Str}{es:List lK}{b0 b1 b2 b3:D} (g:jj fs es) (hs:Sub fs ss) (hw:B3 fs m b) (B:WO fs es b0 b1 b2 b3) (k:Nat) (hk:k<4) (w:Int) (h0:0<=w) :
  jz [.int (k:Nat),.int w,.tuple [dm fs es,bB ss,mJ m b],yM b0 b1 b2 b3 k]=.ok (.tuple [.str "refused",.int (LK k:Nat)]):=by
 obtain ⟨k0,e0,l0⟩:=zW h0 36 (by decide)
 replace e0:w % 36=(k0:Int):=e0
 obtain ⟨k1,e1,l1⟩:=zW h0 25 (by decide)
 replace e1:w % 25=(k1:Int):=e1
 obtain ⟨k2,e2,l2⟩:=zW h0 15 (by decide)
 replace e2:w % 15=(k2:Int):=e2
 obtain ⟨k3,e3,l3⟩:=zW h0 7 (by decide)
 replace e3:w % 7=(k3:Int):=e3
 unfold jz
 refine cB ?_
 rw [QL]
 unfold bi
 walk_at "zz"
 rw [show PN (rN 3 (dR (cL 4) (dR (cL 5) (dR (cL 6) uq)))) [Sl.shr (.int (k:Nat)),.shr (.int w),.shr (.tuple [dm fs es,bB ss,mJ m b]),.shr (yM b0 b1 b2 b3 k),.no,.no,.no,.no] (.tuple [dm fs es,bB ss,mJ m b])=.ok (.nx [.shr (.int (k:Nat)),.shr (.int w),.shr (.tuple [dm fs es,bB ss,mJ m b]),.shr (yM b0 b1 b2 b3 k),.shr (dm fs es),.shr (bB ss),.shr (mJ m b),.no]) from rfl]
 walk_at "zz"
 have:k=0\/k=1\/k=2\/k=3:=by omega
 rcases this with h | h | h | h<;>subst h
 ·refine LJ (y:="NoBook") (j:=0) ?_ wh0
  unfold YX
  walk_at "zz"
  rw [ft]
  walk_at "zz"
  rw [show decide (((0:Nat):Int)=0)=true from rfl]
  walk_at "zz"
  rw [e0,show yM b0 b1 b2 b3 0=b0 from rfl,TQ B.k0 k0 l0]
  walk_at "zz"
 ·refine LJ (y:="NoState") (j:=1) ?_ wh1
  unfold YX
  walk_at "zz"
  rw [ft]
  walk_at "zz"
  rw [show decide (((1:Nat):Int)=0)=false from rfl]
  walk_at "zz"
  rw [ft]
  walk_at "zz"
  rw [show decide (((1:Nat):Int)=1)=true from rfl]
  walk_at "zz"
  rw [e1,show yM b0 b1 b2 b3 1=b1 from rfl,QK g B.k1 k1 l1]
  walk_at "zz"
 ·refine LJ (y:="NoWant") (j:=2) ?_ wh2
  unfold YX
  walk_at "zz"
  rw [ft]
  walk_at "zz"
  rw [show decide (((2:Nat):Int)=0)=false from rfl]
  walk_at "zz"
  rw [ft]
  walk_at "zz"
  rw [show decide (((2:Nat):Int)=1)=false from rfl]
  walk_at "zz"
  rw [ft]
  walk_at "zz"
  rw [show decide (((2:Nat):Int)=2)=true from rfl]
  walk_at "zz"
  rw [e2,show yM b0 b1 b2 b3 2=b2 from rfl,TU g hs B.k2 k2 l2]
  walk_at "zz"
 ·refine LJ (y:="NoRow") (j:=4) ?_ wh4
  unfold YX
  walk_at "zz"
  rw [ft]
  walk_at "zz"
  rw [show decide (((3:Nat):Int)=0)=false from rfl]
  walk_at "zz"
  rw [ft]
  walk_at "zz"
  rw [show decide (((3:Nat):Int)=1)=false from rfl]
  walk_at "zz"
  rw [ft]
  walk_at "zz"
  rw [show decide (((3:Nat):Int)=2)=false from rfl]
  walk_at "zz"
  rw [e3,show yM b0 b1 b2 b3 3=b3 from rfl,WM g hs hw B.k3 k3 l3]
  walk_at "zz"
def lkB:au->R Fl:=aC (fB 6 (da 3 aY (J.ac (rS 0) (J.ac (g2 (kI 900) (rB 5) cK) (J.ac (g2 (kI 10) (kI 6) Tc) J.aq))))) (ev (gN (g2 (da 4 jz (J.ac (rS 3) (J.ac (rS 6) (J.ac (rS 1) (J.ac (g2 (rB 4) (rB 3) bD) J.aq))))) (bq (J.ac (fun _=>.ok (.str "refused")) (J.ac (g2 (bq (J.ac (kI 0) (J.ac (kI 1) (J.ac (kI 2) (J.ac (kI 4) J.aq)))) .list) (rB 3) bD) J.aq)) .tuple) (mz true))) (cY (kB false)) (fun ρ=>.ok (.nx ρ)))
theorem QM:Lp=aC (fB 1 (da 3 nw (J.ac (rS 0) (J.ac (kI 5) (J.ac (kI 4) J.aq))))) (aC (fB 2 (g2 (g2 (rB 1) (kI 0) bD) (kI 0) bD)) (aC (fB 3 (da 3 aY (J.ac (rS 0) (J.ac (kI 0) (J.ac (kI 4) J.aq))))) (aC (js 4 (bq (J.ac (da 2 gX (J.ac (rS 0) (J.ac (kI 1) J.aq))) (J.ac (da 3 ip (J.ac (rS 0) (J.ac (kI 5) (J.ac (rS 2) J.aq)))) (J.ac (da 3 kz (J.ac (rS 0) (J.ac (kI 7) (J.ac (rS 2) J.aq)))) J.aq))) .list)) (aC (zi 4 (da 3 lI (J.ac (rS 0) (J.ac (kI 10) (J.ac (g2 (rB 1) (kI 0) bD) J.aq))))) (aC (v7 (yH (J.ac (kI 6) J.aq)) (cL 5) lkB) (cY (kB true))))))):=rfl
theorem q0e:Tc (.int 10) (.int 6)=.ok (.int 1000000):=rfl
theorem WP (b0 b1 b2 b3:D) (k:Nat) (h:k<4):bD (.list [b0,b1,b2,b3]) (.int (k:Nat))=.ok (yM b0 b1 b2 b3 k):=by
 have:k=0\/k=1\/k=2\/k=3:=by omega
 rcases this with h | h | h | h<;>subst h<;>exact lC rfl
theorem TV (k:Nat) (h:k<4):bD (.list [.int 0,.int 1,.int 2,.int 4]) (.int (k:Nat))=.ok (.int (LK k:Nat)):=by
 have:k=0\/k=1\/k=2\/k=3:=by omega
 rcases this with h | h | h | h<;>subst h<;>exact lC rfl
theorem QN (k:Nat):LK k<5:=by
 unfold LK
 split<;>decide
theorem WQ {fs ss m b:List Str}{es:List lK}{b0 b1 b2 b3:D} (g:jj fs es) (hs:Sub fs ss) (hw:B3 fs m b) (B:WO fs es b0 b1 b2 b3) (k:Nat) (hk:k<4) (ns:List Int) (A2:D) (t:Nat) (z6:Sl) :
  ∃ y6,lkB [.shr (.list (ns.map .int)),.shr (.tuple [dm fs es,bB ss,mJ m b]),.shr A2,.shr (.int (k:Nat)),.own (.list [b0,b1,b2,b3]),.shr (.int (t:Nat)),z6]=.ok (.nx [.shr (.list (ns.map .int)),.shr (.tuple [dm fs es,bB ss,mJ m b]),.shr A2,.shr (.int (k:Nat)),.own (.list [b0,b1,b2,b3]),.shr (.int (t:Nat)),y6]):=by
 refine ⟨.shr (.int (e_ ns (900 + (t:Int)) 1000000)),?_⟩
 unfold lkB
 walk_at "zz"
 rw [q0e]
 walk_at "zz"
 rw [eI ns _ _ (by omega) (by decide)]
 walk_at "zz"
 rw [WP _ _ _ _ k hk]
 walk_at "zz"
 rw [JM g hs hw B k hk _ (eu ns _ _ (by decide))]
 walk_at "zz"
 rw [TV k hk]
 walk_at "zz"
 rw [WN _ (QN k)]
 walk_at "zz"
theorem law_true (ns:List Int):F_law [.list (ns.map .int)]=.ok (.bool true):=by
 obtain ⟨fs,es,ss,wm,wb,hc,gb,gs,gw⟩:=Tt ns 5 4 (by decide) (by decide) (by decide) (by decide)
 obtain ⟨b0,p0,q0⟩:=JJ ns 1 (by decide)
 obtain ⟨b1,p1,q1⟩:=DP ns 5 (by decide) fs gb.rise
 obtain ⟨b2,p2,q2⟩:=Qw ns 7 (by decide) fs es gb.rise
 obtain ⟨b3,p3,q3⟩:=TH ns 10 (by decide) gb
 have B:WO fs es b0 b1 b2 b3:=⟨q0,q1,q2,q3⟩
 have m0:=eu ns 0 4 (by decide)
 have m1:=eV ns 0 4 (by decide)
 obtain ⟨k,hk⟩:∃ k:Nat,e_ ns 0 4=k:=⟨_,(cH m0).symm⟩
 have hk4:k<4:=by omega
 unfold F_law
 refine cB ?_
 rw [QM]
 unfold bi
 walk_at "zz"
 rw [hc]
 walk_at "zz"
 rw [show bD (.tuple [dm fs es,bB ss,mJ wm wb]) (.int 0)=.ok (dm fs es) from rfl]
 walk_at "zz"
 rw [JA]
 walk_at "zz"
 rw [eI ns 0 4 (by decide) (by decide),hk]
 walk_at "zz"
 rw [p0]
 walk_at "zz"
 rw [p1]
 walk_at "zz"
 rw [p2]
 walk_at "zz"
 rw [Ql (ds:=[b0,b1,b2]) (d:=b3) rfl ?_ (by simp)]
 ·walk_at "zz"
  rw [yI (ds:=(bZ 6).map fun (i:Nat)=>ed (i:Int))]
  ·refine DN (P:=fun ρ=>∃ z5 z6,ρ=[.shr (.list (ns.map .int)),.shr (.tuple [dm fs es,bB ss,mJ wm wb]),.shr (bB fs),.shr (.int (k:Nat)),.own (.list [b0,b1,b2,b3]),z5,z6]) (xU (fun (i:Nat)=>ed (i:Int)) _ (bZ 6) _ ?_ ⟨_,_,rfl⟩) ?_
   ·rintro t ht ρ ⟨z5,z6,rfl⟩
    obtain ⟨y6,q⟩:=WQ gb gs gw B k hk4 ns (bB fs) t z6
    exact ⟨_,rfl,_,q,_,_,rfl⟩
   ·rintro ρ ⟨z5,z6,rfl⟩
    walk_at "zz"
  ·walk_at "zz"
   exact zS 6 (by decide)
 ·walk_at "zz"
  rw [show bD (.tuple [dm fs es,bB ss,mJ wm wb]) (.int 0)=.ok (dm fs es) from rfl]
  walk_at "zz"
  exact p3
end Z
end
namespace Z
open PySem L2 J
section
def ig (i:Nat):bH:=PySem.Challenge.pw_errands_k39_refused.main.body.getD i (.Pass ⟨0,0,0,0⟩)
section
variable {e:En}
abbrev sX:bH:=ig 143
def Hq:List Str:=["NoBook","NoState","NoWant","NoErrand","NoRow","NoWay","NoPaper","NoFacts","NoNumber","Nothing","NoText"]
theorem wR:aK ["_law_e","_law_own"] ["_law_e"] (ar sX):=bQ (by decide +kernel)
theorem CC {f:ai}{fd:dE} (F:Io e.K "_law_which" "_law_which" sX f fd) (B:Bi e.mg) (mv:e.mg "ValueError"=none) (mc:∀ n∈Hq,e.mg n=some (.ref (e.cls n))):Gn e.P e.w e.K e.mg e.base 1 f fd ["_law_e"] (Wb e.K e.base e.cls Hq):=by
 refine F.okH wR (fun vs H Q E h=>?_) (fun cdv A outer s H vs Q E hr h=>?_)
 ·obtain ⟨_,_,_,rfl,_⟩:=h;rfl
 obtain ⟨ea,C,j,rfl,hH,x,q⟩:=h
 refine ⟨_,ij (uW (i:=1) wR.nd rfl (fu rfl) (jk (c9 (nc (names:=Hq) (cls:=e.cls) (base:=e.base) (pv 0) rfl B.isinstance rfl (mc "NoBook" (by decide +kernel))) (c9 (nc (names:=Hq) (cls:=e.cls) (base:=e.base) (pv 0) rfl B.isinstance rfl (mc "NoState" (by decide +kernel))) (c9 (nc (names:=Hq) (cls:=e.cls) (base:=e.base) (pv 0) rfl B.isinstance rfl (mc "NoWant" (by decide +kernel))) (c9 (nc (names:=Hq) (cls:=e.cls) (base:=e.base) (pv 0) rfl B.isinstance rfl (mc "NoErrand" (by decide +kernel))) eL))))))
  (ij (qI (yD dv jm jn xF (pv 1) (c9 (jk (c9 (nc (names:=Hq) (cls:=e.cls) (base:=e.base) (pv 0) rfl B.isinstance rfl (mc "NoRow" (by decide +kernel))) (c9 (nc (names:=Hq) (cls:=e.cls) (base:=e.base) (pv 0) rfl B.isinstance rfl (mc "NoWay" (by decide +kernel))) (c9 (nc (names:=Hq) (cls:=e.cls) (base:=e.base) (pv 0) rfl B.isinstance rfl (mc "NoPaper" (by decide +kernel))) (c9 (nc (names:=Hq) (cls:=e.cls) (base:=e.base) (pv 0) rfl B.isinstance rfl (mc "NoFacts" (by decide +kernel))) eL))))) eL)))
  (ij (qI (yD dv jm jn xF (pv 1) (c9 (jk (c9 (nc (names:=Hq) (cls:=e.cls) (base:=e.base) (pv 0) rfl B.isinstance rfl (mc "NoNumber" (by decide +kernel))) (c9 (nc (names:=Hq) (cls:=e.cls) (base:=e.base) (pv 0) rfl B.isinstance rfl (mc "Nothing" (by decide +kernel))) (c9 (nc (names:=Hq) (cls:=e.cls) (base:=e.base) (pv 0) rfl B.isinstance rfl (mc "NoText" (by decide +kernel))) eL)))) eL)))
  (ij (Ug (PW.pt (Uf (KB Xl (yD dv Db PySem.F.type_list_count Ms (pv 1) (c9 NZ eL)) Af (IK _)) (O3 (O4 (O1 (SU (names:=Hq) (cls:=e.cls) (base:=e.base) (pv 0) rfl B.isinstance rfl mv)))))) pO Kz)
  (vY (xC (Og (c9 N_ (c9 (yD dv Dc PySem.F.type_list_index Mt (pv 1) (c9 NZ eL)) eL)))))))),?_⟩
 refine ⟨ea,C,j,0,rfl,hH,x,rfl,ea,C,j,1,rfl,hH,x,rfl,ea,C,j,2,rfl,hH,x,rfl,ea,C,j,3,rfl,hH,x,rfl,bA (c8 (show 4<=1000 by decide)),fun p hp=>?_⟩
 have np:ea≠p:=bc hH hp
 have hH1:∀ o,upd H p o ea=some (Au ea C):=fun o=>by rw [a_ np];exact hH
 refine ⟨_,rfl,.inl ⟨rfl,_,.of aU⟩,?_⟩
 refine ⟨ea,C,j,4,rfl,hH1 _,x,rfl,ea,C,j,5,rfl,hH1 _,x,rfl,ea,C,j,6,rfl,hH1 _,x,rfl,ea,C,j,7,rfl,hH1 _,x,rfl,bA (c8 (show 4<=1000 by decide)),fun p2 hp2=>?_⟩
 have np2:p≠p2:=bc aU hp2
 have ne2:ea≠p2:=bc (hH1 _) hp2
 refine ⟨p,p2,([decide (0=j),decide (1=j),decide (2=j),decide (3=j)].map V.bl),_,rfl,rfl,by rw [a_ np2];exact aU,aU,bA (c8 (show 8<=1000 by decide)),?_⟩
 have hH2:∀ o u,upd (upd (upd H p o) p2 u) p (.lst (([decide (0=j),decide (1=j),decide (2=j),decide (3=j)]++[decide (4=j),decide (5=j),decide (6=j),decide (7=j)]).map V.bl)) ea=some (Au ea C):=fun o u=>by rw [a_ np,a_ ne2];exact hH1 _
 refine ⟨_,rfl,.inl ⟨rfl,_,.of aU⟩,?_⟩
 refine ⟨ea,C,j,8,rfl,hH2 _ _,x,rfl,ea,C,j,9,rfl,hH2 _ _,x,rfl,ea,C,j,10,rfl,hH2 _ _,x,rfl,bA (c8 (show 3<=1000 by decide)),fun p3 hp3=>?_⟩
 have np3:p≠p3:=bc aU hp3
 have ne3:ea≠p3:=bc (hH2 _ _) hp3
 refine ⟨p,p3,(([decide (0=j),decide (1=j),decide (2=j),decide (3=j)]++[decide (4=j),decide (5=j),decide (6=j),decide (7=j)]).map V.bl),_,rfl,rfl,by rw [a_ np3];exact aU,aU,bA (c8 (show 11<=1000 by decide)),?_⟩
 refine ⟨_,rfl,.inl ⟨rfl,_,.of aU⟩,p,zj j,rfl,rfl,.of aU,?_⟩
 rw [Jh j x.lt]
 refine ⟨rfl,_,rfl,Ee ⟨ea,C,j,rfl,?_,x,_,rfl,Ee ?_⟩⟩
 ·rw [a_ np,a_ ne3];exact hH2 _ _
 obtain ⟨b1,b2⟩:=SS j x.lt
 refine ⟨_,rfl,.inl ⟨rfl,_,.of aU⟩,p,zj j,j,rfl,rfl,.of aU,b1,b2,bA (aF x.lt (by decide)),bA (c8 (show 2<=1000 by decide)),fun t ht=>?_⟩
 have s1:eg H _:=jq (o:=.lst ([decide (0=j),decide (1=j),decide (2=j),decide (3=j)].map V.bl)) hp
 have hpn:∀ b o,H b=some o->b≠p:=fun b o e=>bc e hp
 have hp2n:∀ b o,H b=some o->b≠p2:=fun b o e=>bc (s1 b o e) hp2
 have hp3n:∀ b o,H b=some o->b≠p3:=fun b o e=>bc (by rw [a_ (hpn b o e),a_ (hp2n b o e)];exact s1 b o e) hp3
 have old:∀ b o,H b=some o->b≠t:=fun b o e=>bc (by rw [a_ (hpn b o e),a_ (hp3n b o e),a_ (hpn b o e),a_ (hp2n b o e)];exact s1 b o e) ht
 refine q t _ (fun b o e=>?_) ?_ aU
 ·rw [a_ (old b o e),a_ (hpn b o e),a_ (hp3n b o e),a_ (hpn b o e),a_ (hp2n b o e)];exact s1 b o e
 ·cases z:H t with
  | none=>rfl
  | some o=>exact (old t o z rfl).elim
abbrev mK:bH:=ig 18
abbrev wS:List Str:=["one","other"]
theorem CD:aK wS ["one","other"] (ar mK):=bQ (by decide +kernel)
abbrev rj (e:En):=FN e "share_none" 1 2 eG
theorem CF (D:cZ e.K e.mg "share_none" mK) (B:Bi e.mg):rj e:=iF (k:=0) (g:=kn) D CD b2 fun _ _ _ _ _ _ _ hr=>by unfold kn;exact (aJ (bN (VY (cx (W2 rfl) rfl B.any PyProof.Rows.boot_any (bO (JE.bor (JN.je (j6 (N':=["fact","other"]) (ix:=[1]) 1 (by decide) rfl (dC (so:=ar mK) (N:=wS) (by decide +kernel)) (iW (al 0)) (fun cl A0 s0 H0 ex pn=>⟨eM (i:=0) (by show (["fact","other"] : List Str).Nodup;decide +kernel) rfl (.inl rfl),gQ,(AA (UB) (al 0) (al 1))⟩)))) cg)))))
abbrev u6:bH:=ig 21
abbrev DR:List Str:=["thing"]
theorem JP:aK DR ["thing"] (ar u6):=bQ (by decide +kernel)
abbrev xX (e:En):=FN e "is_word" 1 1 fD
theorem JQ (D:cZ e.K e.mg "is_word" u6) (B:Bi e.mg) (ny:Cn e.mg "MOST_LETTERS" 6):xX e:=iF (k:=0) (g:=q9) D JP b1 fun _ _ _ _ _ _ _ hr=>by unfold q9;exact (ao (dD (JW.t (uA (gG (gF (oS (al 0) rfl B.isinstance rfl B.str Ab (by decide)))) (oR (gG (P8 (Dy) (Dy) (JE.bor ap) (JE.bor (cx iD rfl B.len bY (bO (al 0) cg))) (JE.bor (sw rfl ny))))))) (aJ (bN my)) bU) (aJ (bN (cx (v5 rfl) rfl B.all eJ (bO (JE.bor (JN.je (j6 (N':=["sign"]) (ix:=[]) 1 (by decide) rfl (dC (so:=ar u6) (N:=DR) (by decide +kernel)) (iW (al 0)) (fun cl A0 s0 H0 ex pn=>⟨eM (i:=0) (by show (["sign"] : List Str).Nodup;decide +kernel) rfl (.inl rfl),gQ,(GD (Dy) (Dy) (JE.bor cf) (al 0) (JE.bor cf))⟩)))) cg)))))
abbrev fK:bH:=ig 22
abbrev jK:List Str:=["thing"]
theorem ut:aK jK ["thing"] (ar fK):=bQ (by decide +kernel)
abbrev jL (e:En):=FN e "are_rising_words" 2 1 cw
theorem uu (D:cZ e.K e.mg "are_rising_words" fK) (B:Bi e.mg) (mS:xX e):jL e:=iF (k:=1) (g:=d_) D ut b1 fun _ _ _ _ _ _ _ hr=>by unfold d_;exact (ao (dD (JW.t (uA (gG (gF (oS (al 0) rfl B.isinstance rfl B.tuple bx (by decide)))) (oR (gG (gF (cx (v5 rfl) rfl B.all eJ (bO (JE.bor (JN.je (j6 (N':=["word"]) (ix:=[]) 1 (by decide) rfl (dC (so:=ar fK) (N:=jK) (by decide +kernel)) (iW (al 0)) (fun cl A0 s0 H0 ex pn=>⟨eM (i:=0) (by show (["word"] : List Str).Nodup;decide +kernel) rfl (.inl rfl),gQ,(jc mS hr fW (a8 (af 0) ak))⟩)))) cg))))))) (aJ (bN my)) bU) (aJ (bN (cx (v5 rfl) rfl B.all eJ (bO (JE.bor (JN.je (j6 (N':=["low","high"]) (ix:=[]) 2 (by decide) rfl (dC (so:=ar fK) (N:=jK) (by decide +kernel)) (L3.i (SK rfl B.zip (a8 (af 0) (a8 (cp (al 0) (cW ap) cV) ak)))) (fun cl A0 s0 H0 ex pn=>⟨IH rfl (sj (eM (i:=0) (by show (["low","high"] : List Str).Nodup;decide +kernel) rfl (.inl rfl)) (sj (eM (i:=1) (by show (["low","high"] : List Str).Nodup;decide +kernel) rfl (.inl rfl)) E9)),gQ,(AA (pU) (al 0) (al 1))⟩)))) cg)))))
abbrev oo:bH:=ig 23
abbrev yN:List Str:=["book_facts","thing"]
theorem Fb:aK yN ["book_facts","thing"] (ar oo):=bQ (by decide +kernel)
abbrev oq (e:En):=FN e "are_facts" 3 2 cO
theorem Fc (D:cZ e.K e.mg "are_facts" oo) (B:Bi e.mg) (eP:jL e):oq e:=iF (k:=2) (g:=jR) D Fb b2 fun _ _ _ _ _ _ _ hr=>by unfold jR;exact (aJ (bN (EA (jc eP hr px (a8 (af 1) ak)) (J8 (cx (v5 rfl) rfl B.all eJ (bO (JE.bor (JN.je (j6 (N':=["fact","book_facts"]) (ix:=[0]) 1 (by decide) rfl (dC (so:=ar oo) (N:=yN) (by decide +kernel)) (iW (al 1)) (fun cl A0 s0 H0 ex pn=>⟨eM (i:=0) (by show (["fact","book_facts"] : List Str).Nodup;decide +kernel) rfl (.inl rfl),gQ,(AA (UB) (al 0) (al 1))⟩)))) cg))))))
abbrev vh:bH:=ig 24
abbrev JR:List Str:=["thing","least","most"]
theorem Hr:aK JR ["thing","least","most"] (ar vh):=bQ (by decide +kernel)
abbrev Bf (e:En):=FN e "is_whole" 1 3 qV
theorem Ht (D:cZ e.K e.mg "is_whole" vh) (B:Bi e.mg):Bf e:=iF (k:=0) (g:=qU) D Hr b3 fun _ _ _ _ _ _ _ hr=>by unfold qU;exact (ao (dD (JW.t (uA (gG (gF (oS (al 0) rfl B.isinstance rfl B.int PyProof.Rows.boot_int (by decide)))) (oR (gF (oS (al 0) rfl B.isinstance rfl B.bool PyProof.Rows.boot_bool (by decide)))))) (aJ (bN my)) bU) (aJ (bN (GD (Dy) (Dy) (al 1) (al 0) (al 2)))))
abbrev ou:bH:=ig 25
abbrev yO:List Str:=["book_facts","thing","name","needs","bars","makes","ends","price"]
theorem i6:aK yO ["book_facts","thing"] (ar ou):=bQ (by decide +kernel)
abbrev yP (e:En):=FN e "is_errand" 4 2 o8
theorem Fd (D:cZ e.K e.mg "is_errand" ou) (B:Bi e.mg) (mS:xX e) (vi:Bf e) (fz:oq e) (i7:rj e) (rl:Cn e.mg "MOST_PRICE" 9):yP e:=iF (k:=3) (g:=o7) D i6 b2 fun _ _ _ _ _ _ _ hr=>by have hu64:=hr.units;unfold o7;exact (ao (dD (JW.t (uA (gG (gF (oS (al 1) rfl B.isinstance rfl B.tuple bx (by decide)))) (oR (cS (wo hu64) (JE.bor (cx iD rfl B.len bY (bO (al 1) cg))) (JE.bor ap))))) (aJ (bN my)) bU) (ao (EG (af 1) (xL rfl (eY (en 2 i6.nd) (eY (en 3 i6.nd) (eY (en 4 i6.nd) (eY (en 5 i6.nd) (eY (en 6 i6.nd) (eY (en 7 i6.nd) tR)))))))) (ao (dD (JW.t (uA (gG (gF (jc mS hr px (a8 (af 2) ak)))) (oR (gG (gF (jc vi hr px (a8 (af 7) (a8 ap (a8 (sw rfl rl) ak))))))))) (aJ (bN my)) bU) (ao (dD (gG (gF (cx (v5 rfl) rfl B.all eJ (bO (JE.bor (JN.je (j6 (N':=["facts","book_facts"]) (ix:=[0]) 1 (by decide) rfl (dC (so:=ar ou) (N:=yO) (by decide +kernel)) (iW (JE.bor (aS (a8 (af 3) (a8 (af 4) (a8 (af 5) (a8 (af 6) ak))))))) (fun cl A0 s0 H0 ex pn=>⟨eM (i:=0) (by show (["facts","book_facts"] : List Str).Nodup;decide +kernel) rfl (.inl rfl),gQ,(jc fz hr fW (a8 (af 1) (a8 (af 0) ak)))⟩)))) cg)))) (aJ (bN my)) bU) (aJ (bN (EA (jc i7 hr px (a8 (af 3) (a8 (af 4) ak))) (J8 (jc i7 hr px (a8 (af 5) (a8 (af 6) ak)))))))))))
abbrev qj:bH:=ig 26
abbrev xY:List Str:=["thing","facts","errands"]
theorem vj:aK xY ["thing"] (ar qj):=bQ (by decide +kernel)
abbrev DS (e:En):=FN e "is_book" 5 1 mQ
theorem JU (D:cZ e.K e.mg "is_book" qj) (B:Bi e.mg) (eP:jL e) (sY:yP e) (rm:Cn e.mg "MOST_FACTS" 6) (nz:Cn e.mg "MOST_ERRANDS" 6):DS e:=iF (k:=4) (g:=tV) D vj b1 fun _ _ _ _ _ _ _ hr=>by have hu1:=jP hr;have hu64:=hr.units;unfold tV;exact (ao (dD (JW.t (uA (gG (gF (oS (al 0) rfl B.isinstance rfl B.tuple bx (by decide)))) (oR (cS (wo hu64) (JE.bor (cx iD rfl B.len bY (bO (al 0) cg))) (JE.bor ap))))) (aJ (bN my)) bU) (ao (EG (af 0) (xL rfl (eY (en 1 vj.nd) (eY (en 2 vj.nd) tR)))) (ao (dD (JW.t (uA (gG (gF (jc eP hr px (a8 (af 1) ak)))) (oR (cS (KW) (JE.bor (cx iD rfl B.len bY (bO (al 1) cg))) (JE.bor (sw rfl rm)))))) (aJ (bN my)) bU) (ao (dD (JW.t (uA (gG (gF (oS (al 2) rfl B.isinstance rfl B.tuple bx (by decide)))) (oR (cS (KW) (JE.bor (cx iD rfl B.len bY (bO (al 2) cg))) (JE.bor (sw rfl nz)))))) (aJ (bN my)) bU) (ao (dD (gG (gF (cx (v5 rfl) rfl B.all eJ (bO (JE.bor (JN.je (j6 (N':=["errand","facts"]) (ix:=[1]) 1 (by decide) rfl (dC (so:=ar qj) (N:=xY) (by decide +kernel)) (iW (al 2)) (fun cl A0 s0 H0 ex pn=>⟨eM (i:=0) (by show (["errand","facts"] : List Str).Nodup;decide +kernel) rfl (.inl rfl),gQ,(jc sY hr fW (a8 (af 1) (a8 (af 0) ak)))⟩)))) cg)))) (aJ (bN my)) bU) (aJ (bN (AA (o0 hu64) (JE.bor (MD (P9 (N':=["errand"]) (ix:=[]) 1 (by decide) rfl (dC (so:=ar qj) (N:=xY) (by decide +kernel)) (iW (al 2)) (fun cl A0 s0 H0 ex pn=>⟨eM (i:=0) (by show (["errand"] : List Str).Nodup;decide +kernel) rfl (.inl rfl),gQ,(cm hu1 (al 0) (JE.bor ap))⟩)) rfl B.len)) (JE.bor (cx iD rfl B.len bY (bO (al 2) cg)))))))))))
abbrev xZ:bH:=ig 27
abbrev M_:List Str:=["book","thing","must","bars"]
theorem vk:aK M_ ["book","thing"] (ar xZ):=bQ (by decide +kernel)
abbrev DT (e:En):=FN e "is_want" 4 2 kZ
theorem JV (D:cZ e.K e.mg "is_want" xZ) (B:Bi e.mg) (fz:oq e) (i7:rj e):DT e:=iF (k:=3) (g:=mR) D vk b2 fun _ _ _ _ _ _ _ hr=>by have hu1:=jP hr;have hu64:=hr.units;unfold mR;exact (ao (dD (JW.t (uA (gG (gF (oS (al 1) rfl B.isinstance rfl B.tuple bx (by decide)))) (oR (cS (wo hu64) (JE.bor (cx iD rfl B.len bY (bO (al 1) cg))) (JE.bor ap))))) (aJ (bN my)) bU) (ao (EG (af 1) (xL rfl (eY (en 2 vk.nd) (eY (en 3 vk.nd) tR)))) (aJ (bN (EA (jc fz hr px (a8 (cm hu1 (al 0) (JE.bor ap)) (a8 (af 2) ak))) (EA (jc fz hr px (a8 (cm hu1 (al 0) (JE.bor ap)) (a8 (af 3) ak))) (J8 (jc i7 hr px (a8 (af 2) (a8 (af 3) ak))))))))))
abbrev pc:bH:=ig 28
abbrev CG:List Str:=["book","state"]
theorem Bg:aK CG ["book","state"] (ar pc):=bQ (by decide +kernel)
abbrev uG (e:En):=FN e "check_state" 4 2 iw
theorem Bh (D:cZ e.K e.mg "check_state" pc) (fz:oq e) (x_:ER e "NoState"):uG e:=iF (k:=3) (g:=jt) D Bg b2 fun _ _ _ _ _ _ _ hr=>by have hu1:=jP hr;unfold jt;exact (aJ (dD (gG (gF (jc fz hr px (a8 (cm hu1 (al 0) (JE.bor ap)) (a8 (af 1) ak))))) (aJ (AM x_ rfl (a8 cf ak))) bU))
abbrev rn:bH:=ig 29
abbrev Fe:List Str:=["book","want"]
theorem CH:aK Fe ["book","want"] (ar rn):=bQ (by decide +kernel)
abbrev ro (e:En):=FN e "check_want" 5 2 i4
theorem CI (D:cZ e.K e.mg "check_want" rn) (y0:DT e) (Bj:ER e "NoWant"):ro e:=iF (k:=4) (g:=ko) D CH b2 fun _ _ _ _ _ _ _ hr=>by unfold ko;exact (aJ (dD (gG (gF (jc y0 hr px (a8 (af 0) (a8 (af 1) ak))))) (aJ (AM Bj rfl (a8 cf ak))) bU))
abbrev mh:bH:=ig 30
abbrev zo:List Str:=["book","name","errand"]
theorem qk:aK zo ["book","name"] (ar mh):=bQ (by decide +kernel)
abbrev mi (e:En):=FN e "errand_called" 1 2 cU
theorem y3 (D:cZ e.K e.mg "errand_called" mh) (B:Bi e.mg):mi e:=iF (k:=0) (g:=fZ) D qk b2 fun _ _ _ _ _ _ _ hr=>by have hu1:=jP hr;have hu64:=hr.units;unfold fZ;exact (ao (dD (gG (gF (oS (al 1) rfl B.isinstance rfl B.str Ab (by decide)))) (aJ (bN eO)) bU) (ao (qS rfl (EH (cm hu1 (al 0) (JE.bor ap))) (en 2 qk.nd) (aJ (dD (cS (o0 hu64) (JE.bor (cm hu1 (al 2) (JE.bor ap))) (al 1)) (aJ (bN (af 2))) bU))) (aJ (bN eO))))
abbrev y4:bH:=ig 34
abbrev N0:List Str:=["book"]
theorem JX:aK N0 ["book"] (ar y4):=bQ (by decide +kernel)
abbrev f_ (e:En):=FN e "checked" 6 1 cn
theorem JY (D:cZ e.K e.mg "checked" y4) (y7:DS e) (Bk:ER e "NoBook"):f_ e:=iF (k:=5) (g:=qc) D JX b1 fun _ _ _ _ _ _ _ hr=>by unfold qc;exact (ao (dD (gG (gF (jc y7 hr px (a8 (af 0) ak)))) (aJ (AM Bk rfl (a8 cf ak))) bU) (aJ (bN (af 0))))
abbrev pd:bH:=ig 35
abbrev CJ:List Str:=["book","state"]
theorem Bl:aK CJ ["book","state"] (ar pd):=bQ (by decide +kernel)
abbrev dA (e:En):=FN e "check_place" 7 2 aZ
theorem Bm (D:cZ e.K e.mg "check_place" pd) (bM:f_ e) (pf:uG e):dA e:=iF (k:=6) (g:=ju) D Bl b2 fun _ _ _ _ _ _ _ hr=>by unfold ju;exact (ao (cj (jc bM hr px (a8 (af 0) ak))) (aJ (cj (jc pf hr px (a8 (af 0) (a8 (af 1) ak))))))
abbrev sZ:bH:=ig 36
abbrev Hu:List Str:=["book","state","want"]
theorem Ff:aK Hu ["book","state","want"] (ar sZ):=bQ (by decide +kernel)
abbrev eK (e:En):=FN e "check_aim" 8 3 bj
theorem Fg (D:cZ e.K e.mg "check_aim" sZ) (aX:dA e) (jd:ro e):eK e:=iF (k:=7) (g:=lT) D Ff b3 fun _ _ _ _ _ _ _ hr=>by unfold lT;exact (ao (cj (jc aX hr px (a8 (af 0) (a8 (af 1) ak)))) (aJ (cj (jc jd hr px (a8 (af 0) (a8 (af 2) ak))))))
abbrev QO:bH:=ig 37
abbrev YY:List Str:=["book","state"]
theorem WR:aK YY ["book","state"] (ar QO):=bQ (by decide +kernel)
abbrev QP (e:En):=FN e "can" 8 2 GT
theorem WS (D:cZ e.K e.mg "can" QO) (aX:dA e):QP e:=iF (k:=7) (g:=Q5) D WR b2 fun _ _ _ _ _ _ _ hr=>by unfold Q5;exact (ao (cj (jc aX hr px (a8 (af 0) (a8 (af 1) ak)))) bE)
abbrev JZ:bH:=ig 38
abbrev WT:List Str:=["book","state","name","errand"]
theorem TW:aK WT ["book","state","name"] (ar JZ):=bQ (by decide +kernel)
abbrev J_ (e:En):=FN e "done" 8 3 EN
theorem TX (D:cZ e.K e.mg "done" JZ) (aX:dA e):J_ e:=iF (k:=7) (g:=Jm) D TW b3 fun _ _ _ _ _ _ _ hr=>by unfold Jm;exact (ao (cj (jc aX hr px (a8 (af 0) (a8 (af 1) ak)))) bE)
abbrev Bo:bH:=ig 39
abbrev QQ:List Str:=["book","state","want"]
theorem N1:aK QQ ["book","state","want"] (ar Bo):=bQ (by decide +kernel)
abbrev wT (e:En):=FN e "is_met" 9 3 sK
theorem N5 (D:cZ e.K e.mg "is_met" Bo) (bu:eK e):wT e:=iF (k:=8) (g:=AT) D N1 b3 fun _ _ _ _ _ _ _ hr=>by unfold AT;exact (ao (cj (jc bu hr px (a8 (af 0) (a8 (af 1) (a8 (af 2) ak))))) bE)
abbrev y8:bH:=ig 47
abbrev N6:List Str:=["book","state"]
theorem K0:aK N6 ["book","state"] (ar y8):=bQ (by decide +kernel)
abbrev y9 (e:En):=FN e "reached" 8 2 tW
theorem K1 (D:cZ e.K e.mg "reached" y8) (aX:dA e):y9 e:=iF (k:=7) (g:=xQ) D K0 b2 fun _ _ _ _ _ _ _ hr=>by unfold xQ;exact (ao (cj (jc aX hr px (a8 (af 0) (a8 (af 1) ak)))) bE)
abbrev Bp:bH:=ig 48
abbrev QR:List Str:=["book","state","most","rows"]
theorem N7:aK QR ["book","state","most"] (ar Bp):=bQ (by decide +kernel)
abbrev Br (e:En):=FN e "within" 8 3 wC
theorem N8 (D:cZ e.K e.mg "within" Bp) (aX:dA e):Br e:=iF (k:=7) (g:=AU) D N7 b3 fun _ _ _ _ _ _ _ hr=>by unfold AU;exact (ao (cj (jc aX hr px (a8 (af 0) (a8 (af 1) ak)))) bE)
abbrev vm:bH:=ig 49
abbrev K2:List Str:=["book","state","want","rows","goals"]
theorem Hv:aK K2 ["book","state","want"] (ar vm):=bQ (by decide +kernel)
abbrev nA (e:En):=FN e "shortest" 9 3 k_
theorem Hw (D:cZ e.K e.mg "shortest" vm) (bu:eK e):nA e:=iF (k:=8) (g:=v8) D Hv b3 fun _ _ _ _ _ _ _ hr=>by unfold v8;exact (ao (cj (jc bu hr px (a8 (af 0) (a8 (af 1) (a8 (af 2) ak))))) bE)
abbrev QS:bH:=ig 50
abbrev YZ:List Str:=["book","state","want","row"]
theorem QT:aK YZ ["book","state","want"] (ar QS):=bQ (by decide +kernel)
abbrev LL (e:En):=FN e "far" 10 3 GU
theorem WU (D:cZ e.K e.mg "far" QS) (fi:nA e):LL e:=iF (k:=9) (g:=Q6) D QT b3 fun _ _ _ _ _ _ _ hr=>by unfold Q6;exact (ao (dZ 3 (jc fi hr px (a8 (af 0) (a8 (af 1) (a8 (af 2) ak)))) QT.nd) bE)
abbrev mj:bH:=ig 51
abbrev zq:List Str:=["book","state","want","rows","counts"]
theorem yb:aK zq ["book","state","want"] (ar mj):=bQ (by decide +kernel)
abbrev jD (e:En):=FN e "shortest_rows" 9 3 im
theorem yc (D:cZ e.K e.mg "shortest_rows" mj) (bu:eK e):jD e:=iF (k:=8) (g:=md) D yb b3 fun _ _ _ _ _ _ _ hr=>by unfold md;exact (ao (cj (jc bu hr px (a8 (af 0) (a8 (af 1) (a8 (af 2) ak))))) bE)
abbrev nC:bH:=ig 54
abbrev Bs:List Str:=["book","state","want"]
theorem zr:aK Bs ["book","state","want"] (ar nC):=bQ (by decide +kernel)
abbrev nD (e:En):=FN e "check_served" 9 3 kq
theorem zt (D:cZ e.K e.mg "check_served" nC) (bu:eK e):nD e:=iF (k:=8) (g:=ng) D zr b3 fun _ _ _ _ _ _ _ hr=>by unfold ng;exact (ao (cj (jc bu hr px (a8 (af 0) (a8 (af 1) (a8 (af 2) ak))))) bE)
abbrev yd:bH:=ig 57
abbrev N9:List Str:=["book","state","want"]
theorem K3:aK N9 ["book","state","want"] (ar yd):=bQ (by decide +kernel)
abbrev u7 (e:En):=FN e "must_do" 10 3 qd
theorem K4 (D:cZ e.K e.mg "must_do" yd) (gZ:nD e):u7 e:=iF (k:=9) (g:=xR) D K3 b3 fun _ _ _ _ _ _ _ hr=>by unfold xR;exact (ao (cj (jc gZ hr px (a8 (af 0) (a8 (af 1) (a8 (af 2) ak))))) bE)
abbrev s_:bH:=ig 58
abbrev Hx:List Str:=["book","state","want"]
theorem Fh:aK Hx ["book","state","want"] (ar s_):=bQ (by decide +kernel)
abbrev oy (e:En):=FN e "must_hold" 10 3 lU
theorem Fi (D:cZ e.K e.mg "must_hold" s_) (gZ:nD e):oy e:=iF (k:=9) (g:=sL) D Fh b3 fun _ _ _ _ _ _ _ hr=>by unfold sL;exact (ao (cj (jc gZ hr px (a8 (af 0) (a8 (af 1) (a8 (af 2) ak))))) bE)
abbrev K5:bH:=ig 59
abbrev WV:List Str:=["book","state","states"]
theorem TY:aK WV ["book","state"] (ar K5):=bQ (by decide +kernel)
abbrev K6 (e:En):=FN e "idle" 8 2 EO
theorem TZ (D:cZ e.K e.mg "idle" K5) (aX:dA e):K6 e:=iF (k:=7) (g:=Jn) D TY b2 fun _ _ _ _ _ _ _ hr=>by unfold Jn;exact (ao (cj (jc aX hr px (a8 (af 0) (a8 (af 1) ak)))) bE)
abbrev Fj:bH:=ig 64
abbrev T_:List Str:=["state","gains"]
theorem QU:aK T_ ["state","gains"] (ar Fj):=bQ (by decide +kernel)
abbrev LM (e:En):=FN e "worth" 1 2 Lo
theorem QV (D:cZ e.K e.mg "worth" Fj):LM e:=iF (k:=0) (g:=EQ) D QU b2 fun _ _ _ _ _ _ _ hr=>by unfold EQ;exact bE
abbrev nE:bH:=ig 65
abbrev Bt:List Str:=["book","state","gains","most","rows","near","best"]
theorem zu:aK Bt ["book","state","gains","most"] (ar nE):=bQ (by decide +kernel)
abbrev nF (e:En):=FN e "best_reached" 8 4 kr
theorem zv (D:cZ e.K e.mg "best_reached" nE) (aX:dA e):nF e:=iF (k:=7) (g:=nh) D zu b4 fun _ _ _ _ _ _ _ hr=>by unfold nh;exact (ao (cj (jc aX hr px (a8 (af 0) (a8 (af 1) ak)))) bE)
abbrev t4:bH:=ig 66
abbrev Hy:List Str:=["book","state","gains","most"]
theorem Fk:aK Hy ["book","state","gains","most"] (ar t4):=bQ (by decide +kernel)
abbrev t5 (e:En):=FN e "best_gain" 9 4 lV
theorem Fm (D:cZ e.K e.mg "best_gain" t4) (g_:nF e) (Fo:LM e):t5 e:=iF (k:=8) (g:=o9) D Fk b4 fun _ _ _ _ _ _ _ hr=>by have hu1:=jP hr;unfold o9;exact (aJ (bN (jc Fo hr px (a8 (cm hu1 (JE.bor (jc g_ hr px (a8 (af 0) (a8 (af 1) (a8 (af 2) (a8 (af 3) ak)))))) (JE.bor ap)) (a8 (af 2) ak)))))
abbrev vn:bH:=ig 67
abbrev K7:List Str:=["book","state","gains","most"]
theorem Hz:aK K7 ["book","state","gains","most"] (ar vn):=bQ (by decide +kernel)
abbrev vo (e:En):=FN e "best_row" 9 4 ni
theorem HA (D:cZ e.K e.mg "best_row" vn) (g_:nF e):vo e:=iF (k:=8) (g:=qW) D Hz b4 fun _ _ _ _ _ _ _ hr=>by have hu1:=jP hr;unfold qW;exact (aJ (bN (cm hu1 (JE.bor (jc g_ hr px (a8 (af 0) (a8 (af 1) (a8 (af 2) (a8 (af 3) ak)))))) (JE.bor ap))))
abbrev Bu:bH:=ig 71
abbrev QW:List Str:=["book","state"]
theorem Na:aK QW ["book","state"] (ar Bu):=bQ (by decide +kernel)
abbrev Bv (e:En):=FN e "layers" 8 2 wD
theorem Nb (D:cZ e.K e.mg "layers" Bu) (aX:dA e):Bv e:=iF (k:=7) (g:=AV) D Na b2 fun _ _ _ _ _ _ _ hr=>by unfold AV;exact (ao (cj (jc aX hr px (a8 (af 0) (a8 (af 1) ak)))) bE)
abbrev K8:bH:=ig 72
abbrev WW:List Str:=["book","state","want","must","bars","layer_of","greatest"]
theorem U0:aK WW ["book","state","want"] (ar K8):=bQ (by decide +kernel)
abbrev Fp (e:En):=FN e "hint" 9 3 AW
theorem U1 (D:cZ e.K e.mg "hint" K8) (bu:eK e):Fp e:=iF (k:=8) (g:=Jo) D U0 b3 fun _ _ _ _ _ _ _ hr=>by unfold Jo;exact (ao (cj (jc bu hr px (a8 (af 0) (a8 (af 1) (a8 (af 2) ak))))) bE)
abbrev wU:bH:=ig 75
abbrev HB:List Str:=["book","thing"]
theorem Nc:aK HB ["book","thing"] (ar wU):=bQ (by decide +kernel)
abbrev HC (e:En):=FN e "is_row" 2 2 qf
theorem Nd (D:cZ e.K e.mg "is_row" wU) (B:Bi e.mg) (g6:mi e) (ph:Cn e.mg "MOST_IN_ROW" 64):HC e:=iF (k:=1) (g:=qe) D Nc b2 fun _ _ _ _ _ _ _ hr=>by unfold qe;exact (ao (dD (JW.t (uA (gG (gF (oS (al 1) rfl B.isinstance rfl B.list gP (by decide)))) (oR (cS (KW) (JE.bor (cx iD rfl B.len bY (bO (al 1) cg))) (JE.bor (sw rfl ph)))))) (aJ (bN my)) bU) (aJ (bN (cx (v5 rfl) rfl B.all eJ (bO (JE.bor (JN.je (j6 (N':=["name","book"]) (ix:=[0]) 1 (by decide) rfl (dC (so:=ar wU) (N:=HB) (by decide +kernel)) (iW (al 1)) (fun cl A0 s0 H0 ex pn=>⟨eM (i:=0) (by show (["name","book"] : List Str).Nodup;decide +kernel) rfl (.inl rfl),gQ,(AA (O_) (JE.bor (jc g6 hr fW (a8 (af 1) (a8 (af 0) ak)))) (JE.bor eO))⟩)))) cg)))))
abbrev mL:bH:=ig 76
abbrev wV:List Str:=["book","row"]
theorem CK:aK wV ["book","row"] (ar mL):=bQ (by decide +kernel)
abbrev i8 (e:En):=FN e "errands_of" 3 2 fo
theorem CL (D:cZ e.K e.mg "errands_of" mL) (Bw:HC e) (g6:mi e) (u9:MH "NoRow" (e.cls "NoRow") e.mg e.base):i8 e:=iF (k:=2) (g:=mG) D CK b2 fun _ _ _ _ _ _ _ hr=>by unfold mG;exact (ao (dD (gG (gF (jc Bw hr px (a8 (af 0) (a8 (af 1) ak))))) (aJ (DI u9 (dp5 hr) rfl (a8 eO ak))) bU) (aJ (bN (JN.je (j6 (N':=["name","book"]) (ix:=[0]) 1 (by decide) rfl (dC (so:=ar mL) (N:=wV) (by decide +kernel)) (iW (al 1)) (fun cl A0 s0 H0 ex pn=>⟨eM (i:=0) (by show (["name","book"] : List Str).Nodup;decide +kernel) rfl (.inl rfl),gQ,(jc g6 hr fW (a8 (af 1) (a8 (af 0) ak)))⟩))))))
abbrev Fq:bH:=ig 79
abbrev U2:List Str:=["book","state","row","errands","states"]
theorem HD:aK U2 ["book","state","row"] (ar Fq):=bQ (by decide +kernel)
abbrev zX (e:En):=FN e "leads" 8 3 qX
theorem QX (D:cZ e.K e.mg "leads" Fq) (aX:dA e) (b_:i8 e):zX e:=iF (k:=7) (g:=zN) D HD b3 fun _ _ _ _ _ _ _ hr=>by unfold zN;exact (ao (cj (jc aX hr px (a8 (af 0) (a8 (af 1) ak)))) (ao (dZ 3 (jc b_ hr px (a8 (af 0) (a8 (af 2) ak))) HD.nd) bE))
abbrev Bx:bH:=ig 80
abbrev QY:List Str:=["book","state","want","row","errands","states"]
theorem DU:aK QY ["book","state","want","row"] (ar Bx):=bQ (by decide +kernel)
abbrev ql (e:En):=FN e "serves" 9 4 jv
theorem Nf (D:cZ e.K e.mg "serves" Bx) (bu:eK e) (b_:i8 e):ql e:=iF (k:=8) (g:=wE) D DU b4 fun _ _ _ _ _ _ _ hr=>by unfold wE;exact (ao (cj (jc bu hr px (a8 (af 0) (a8 (af 1) (a8 (af 2) ak))))) (ao (dZ 4 (jc b_ hr px (a8 (af 0) (a8 (af 3) ak))) DU.nd) bE))
abbrev Ft:bH:=ig 81
abbrev U3:List Str:=["book","want","row","want_ahead","errand"]
theorem By:aK U3 ["book","want","row"] (ar Ft):=bQ (by decide +kernel)
abbrev zY (e:En):=FN e "asked" 7 3 mH
theorem QZ (D:cZ e.K e.mg "asked" Ft) (B:Bi e.mg) (bM:f_ e) (jd:ro e) (b_:i8 e):zY e:=iF (k:=6) (g:=wF) D By b3 fun _ _ _ _ _ _ _ hr=>by unfold wF;exact (ao (cj (jc bM hr px (a8 (af 0) ak))) (ao (cj (jc jd hr px (a8 (af 0) (a8 (af 1) ak)))) (ao (dZ 3 (af 1) By.nd) (ao (Ln rfl (Ll rfl B.reversed (a8 (jc b_ hr px (a8 (af 0) (a8 (af 2) ak))) ak)) (Ll rfl B.reversed (a8 (jc b_ hr fW (a8 (af 0) (a8 (af 2) ak))) ak)) (en 4 By.nd) bE) bE))))
abbrev zZ:bH:=ig 82
abbrev LN:List Str:=["book","row"]
theorem Q_:aK LN ["book","row"] (ar zZ):=bQ (by decide +kernel)
abbrev Fu (e:En):=FN e "price" 7 2 tX
theorem R1 (D:cZ e.K e.mg "price" zZ) (B:Bi e.mg) (bM:f_ e) (b_:i8 e):Fu e:=iF (k:=6) (g:=zO) D Q_ b2 fun _ _ _ _ _ _ _ hr=>by have hu1:=jP hr;unfold zO;exact (ao (cj (jc bM hr px (a8 (af 0) ak))) (aJ (bN (cx (Wq rfl) rfl B.sum PyProof.Rows.boot_sum (bO (JE.bor (JN.je (j6 (N':=["errand"]) (ix:=[]) 1 (by decide) rfl (dC (so:=ar zZ) (N:=LN) (by decide +kernel)) (iW (JE.bor (jc b_ hr px (a8 (af 0) (a8 (af 1) ak))))) (fun cl A0 s0 H0 ex pn=>⟨eM (i:=0) (by show (["errand"] : List Str).Nodup;decide +kernel) rfl (.inl rfl),gQ,(cm hu1 (al 0) (JE.bor ap))⟩)))) cg)))))
abbrev ye:bH:=ig 85
abbrev Ng:List Str:=["book","state","want","row","left","shorter"]
theorem K9:aK Ng ["book","state","want","row"] (ar ye):=bQ (by decide +kernel)
abbrev qm (e:En):=FN e "trimmed" 10 4 l5
theorem Ka (D:cZ e.K e.mg "trimmed" ye) (fL:ql e) (u9:MH "NoRow" (e.cls "NoRow") e.mg e.base):qm e:=iF (k:=9) (g:=tY) D K9 b4 fun _ _ _ _ _ _ _ hr=>by unfold tY;exact (ao (dD (gG (gF (jc fL hr px (a8 (af 0) (a8 (af 1) (a8 (af 2) (a8 (af 3) ak))))))) (aJ (DI u9 (dp5 hr) rfl (a8 eO ak))) bU) bE)
abbrev le:bH:=ig 86
abbrev yf:List Str:=["errands","want","wants","errand","ahead"]
theorem wW:aK yf ["errands","want"] (ar le):=bQ (by decide +kernel)
abbrev qo (e:En):=FN e "wants_of_rests" 1 2 qg
theorem wX (D:cZ e.K e.mg "wants_of_rests" le):qo e:=iF (k:=0) (g:=l7) D wW b2 fun _ _ _ _ _ _ _ hr=>by unfold l7;exact bE
abbrev Bz:bH:=ig 87
abbrev R4:List Str:=["book","state","want","row","wants","rows","fewest","rest","many","ahead","goals"]
theorem DV:aK R4 ["book","state","want","row"] (ar Bz):=bQ (by decide +kernel)
abbrev t6 (e:En):=FN e "mended" 9 4 lW
theorem Nh (D:cZ e.K e.mg "mended" Bz) (bu:eK e) (b_:i8 e) (lf:qo e):t6 e:=iF (k:=8) (g:=wG) D DV b4 fun _ _ _ _ _ _ _ hr=>by unfold wG;exact (ao (cj (jc bu hr px (a8 (af 0) (a8 (af 1) (a8 (af 2) ak))))) (ao (dZ 4 (jc lf hr px (a8 (jc b_ hr px (a8 (af 0) (a8 (af 3) ak))) (a8 (af 2) ak))) DV.nd) bE))
abbrev Fv:bH:=ig 94
abbrev U4:List Str:=["book","state","pairs","kept"]
theorem R5:aK U4 ["book","state"] (ar Fv):=bQ (by decide +kernel)
abbrev Fx (e:En):=FN e "apart" 8 2 zP
theorem R6 (D:cZ e.K e.mg "apart" Fv) (aX:dA e):Fx e:=iF (k:=7) (g:=ES) D R5 b2 fun _ _ _ _ _ _ _ hr=>by unfold ES;exact (ao (cj (jc aX hr px (a8 (af 0) (a8 (af 1) ak)))) bE)
abbrev pi:bH:=ig 95
abbrev CM:List Str:=["book","state","pairs","unlike"]
theorem BA:aK CM ["book","state","pairs"] (ar pi):=bQ (by decide +kernel)
abbrev pj (e:En):=FN e "keeps_apart" 8 3 lF
theorem BB (D:cZ e.K e.mg "keeps_apart" pi) (aX:dA e):pj e:=iF (k:=7) (g:=oV) D BA b3 fun _ _ _ _ _ _ _ hr=>by unfold oV;exact (ao (cj (jc aX hr px (a8 (af 0) (a8 (af 1) ak)))) bE)
abbrev pp:bH:=ig 101
abbrev CN:List Str:=["book","state","want","ways"]
theorem BC:aK CN ["book","state","want"] (ar pp):=bQ (by decide +kernel)
abbrev lL (e:En):=FN e "least_price" 9 3 jw
theorem BD (D:cZ e.K e.mg "least_price" pp) (bu:eK e):lL e:=iF (k:=8) (g:=oW) D BC b3 fun _ _ _ _ _ _ _ hr=>by unfold oW;exact (ao (cj (jc bu hr px (a8 (af 0) (a8 (af 1) (a8 (af 2) ak))))) bE)
abbrev vp:bH:=ig 102
abbrev Kb:List Str:=["book","state","want","ways"]
theorem HE:aK Kb ["book","state","want"] (ar vp):=bQ (by decide +kernel)
abbrev rq (e:En):=FN e "cheapest" 9 3 nj
theorem HF (D:cZ e.K e.mg "cheapest" vp) (bu:eK e):rq e:=iF (k:=8) (g:=v9) D HE b3 fun _ _ _ _ _ _ _ hr=>by unfold v9;exact (ao (cj (jc bu hr px (a8 (af 0) (a8 (af 1) (a8 (af 2) ak))))) bE)
abbrev pq:bH:=ig 103
abbrev CO:List Str:=["book","state","want","states","ways"]
theorem BE:aK CO ["book","state","want"] (ar pq):=bQ (by decide +kernel)
abbrev lM (e:En):=FN e "price_paper" 9 3 jx
theorem BF (D:cZ e.K e.mg "price_paper" pq) (bu:eK e):lM e:=iF (k:=8) (g:=oX) D BE b3 fun _ _ _ _ _ _ _ hr=>by unfold oX;exact (ao (cj (jc bu hr px (a8 (af 0) (a8 (af 1) (a8 (af 2) ak))))) bE)
abbrev vq:bH:=ig 107
abbrev Kc:List Str:=["book","state","want","paper","numbers"]
theorem HG:aK Kc ["book","state","want","paper"] (ar vq):=bQ (by decide +kernel)
abbrev rz (e:En):=FN e "shown_by" 9 4 nl
theorem HH (D:cZ e.K e.mg "shown_by" vq) (bu:eK e):rz e:=iF (k:=8) (g:=vb) D HG b4 fun _ _ _ _ _ _ _ hr=>by unfold vb;exact (ao (cj (jc bu hr px (a8 (af 0) (a8 (af 1) (a8 (af 2) ak))))) bE)
abbrev BG:bH:=ig 111
abbrev R7:List Str:=["book","one","other","first","second"]
theorem Ni:aK R7 ["book","one","other"] (ar BG):=bQ (by decide +kernel)
abbrev HI (e:En):=FN e "beside" 7 3 AY
theorem Nj (D:cZ e.K e.mg "beside" BG) (bM:f_ e):HI e:=iF (k:=6) (g:=AX) D Ni b3 fun _ _ _ _ _ _ _ hr=>by unfold AX;exact (ao (cj (jc bM hr px (a8 (af 0) ak))) bE)
abbrev BH:bH:=ig 113
abbrev R8:List Str:=["book","row","parts","errand","place"]
theorem yg:aK R8 ["book","row"] (ar BH):=bQ (by decide +kernel)
abbrev BI (e:En):=FN e "rounds" 7 2 qh
theorem Nk (D:cZ e.K e.mg "rounds" BH) (bM:f_ e) (b_:i8 e):BI e:=iF (k:=6) (g:=wH) D yg b2 fun _ _ _ _ _ _ _ hr=>by unfold wH;exact (ao (cj (jc bM hr px (a8 (af 0) ak))) (ao (Wr 2 yg.nd) (ao (Ln rfl (EH (jc b_ hr px (a8 (af 0) (a8 (af 1) ak)))) (EH (jc b_ hr fW (a8 (af 0) (a8 (af 1) ak)))) (en 3 yg.nd) bE) bE)))
abbrev yh:bH:=ig 117
abbrev Nl:List Str:=["book","first"]
theorem Kd:aK Nl ["book"] (ar yh):=bQ (by decide +kernel)
abbrev DW (e:En):=FN e "text_of" 1 1 DJ
theorem Ke (D:cZ e.K e.mg "text_of" yh):DW e:=iF (k:=0) (g:=xS) D Kd b1 fun _ _ _ _ _ _ _ hr=>by unfold xS;exact bE
abbrev Fy:bH:=ig 118
abbrev U5:List Str:=["book"]
theorem R9:aK U5 ["book"] (ar Fy):=bQ (by decide +kernel)
abbrev LO (e:En):=FN e "shown" 7 1 zR
theorem Ra (D:cZ e.K e.mg "shown" Fy) (bM:f_ e) (yi:DW e):LO e:=iF (k:=6) (g:=zQ) D R9 b1 fun _ _ _ _ _ _ _ hr=>by unfold zQ;exact (aJ (bN (jc yi hr px (a8 (jc bM hr px (a8 (af 0) ak)) ak))))
abbrev Kf:bH:=ig 121
abbrev WX:List Str:=["book","facts"]
theorem U6:aK WX ["book","facts"] (ar Kf):=bQ (by decide +kernel)
abbrev Rb (e:En):=FN e "seen" 7 2 Jq
theorem U7 (D:cZ e.K e.mg "seen" Kf) (bM:f_ e):Rb e:=iF (k:=6) (g:=Jp) D U6 b2 fun _ _ _ _ _ _ _ hr=>by unfold Jp;exact (ao (cj (jc bM hr px (a8 (af 0) ak))) bE)
abbrev pA:bH:=ig 122
abbrev CQ:List Str:=["book","errand","name"]
theorem BJ:aK CQ ["book","errand"] (ar pA):=bQ (by decide +kernel)
abbrev uH (e:En):=FN e "with_errand" 7 2 oZ
theorem BK (D:cZ e.K e.mg "with_errand" pA) (bM:f_ e):uH e:=iF (k:=6) (g:=oY) D BJ b2 fun _ _ _ _ _ _ _ hr=>by unfold oY;exact (ao (cj (jc bM hr px (a8 (af 0) ak))) bE)
abbrev li:bH:=ig 123
abbrev yj:List Str:=["book","name"]
theorem wY:aK yj ["book","name"] (ar li):=bQ (by decide +kernel)
abbrev qp (e:En):=FN e "without_errand" 7 2 l9
theorem wZ (D:cZ e.K e.mg "without_errand" li) (bM:f_ e):qp e:=iF (k:=6) (g:=l8) D wY b2 fun _ _ _ _ _ _ _ hr=>by unfold l8;exact (ao (cj (jc bM hr px (a8 (af 0) ak))) bE)
abbrev tj:bH:=ig 126
abbrev HJ:List Str:=["book"]
theorem Fz:aK HJ ["book"] (ar tj):=bQ (by decide +kernel)
abbrev yQ (e:En):=FN e "back_book" 7 1 sO
theorem FA (D:cZ e.K e.mg "back_book" tj) (bM:f_ e):yQ e:=iF (k:=6) (g:=sM) D Fz b1 fun _ _ _ _ _ _ _ hr=>by unfold sM;exact (ao (cj (jc bM hr px (a8 (af 0) ak))) bE)
abbrev pB:bH:=ig 128
abbrev CS:List Str:=["_law_script","_law_k"]
theorem BL:aK CS ["_law_script","_law_k"] (ar pB):=bQ (by decide +kernel)
abbrev uI (e:En):=FN e "_law_cell_at" 1 2 lH
theorem BM (D:cZ e.K e.mg "_law_cell_at" pB) (B:Bi e.mg):uI e:=iF (k:=0) (g:=lG) D BL b2 fun _ _ _ _ _ _ _ hr=>by have hu1:=jP hr;have hu64:=hr.units;unfold lG;exact (ao (dD (cS (pU) (al 1) (JE.bor (cx iD rfl B.len bY (bO (al 0) cg)))) (aJ (bN (cm hu1 (al 0) (al 1)))) bU) (ao (dD (cS (o0 hu64) (al 0) (JE.bor (dQ ak))) (aJ (bN ap)) bU) (aJ (bN (b6 bG (JE.bor (b6 sy (JE.bor (cm hu1 (al 0) (JE.bor (b6 sA (al 1) (JE.bor (cx iD rfl B.len bY (bO (al 0) cg))))))) (JE.bor ap))) (al 1))))))
abbrev tm:bH:=ig 129
abbrev HK:List Str:=["_law_script","_law_k","_law_many","_law_drawn"]
theorem w_:aK HK ["_law_script","_law_k","_law_many"] (ar tm):=bQ (by decide +kernel)
abbrev dz (e:En):=FN e "_law_mixed" 2 3 aY
theorem FC (D:cZ e.K e.mg "_law_mixed" tm) (pC:uI e):dz e:=iF (k:=1) (g:=oa) D w_ b3 fun _ _ _ _ _ _ _ hr=>by unfold oa;exact (ao (dZ 3 (b6 sA (JE.bor (b6 sy (JE.bor (b6 bG (JE.bor (b6 bG (JE.bor (jc pC hr px (a8 (af 0) (a8 (af 1) ak)))) (JE.bor (b6 sy (JE.bor ap) (al 1))))) (JE.bor ap))) (JE.bor ap))) (JE.bor ap)) w_.nd) (aJ (bN (b6 sA (JE.bor (b6 sA (JE.bor (b6 bG (JE.bor (b6 bG (JE.bor (b6 sy (al 3) (al 3))) (JE.bor (b6 sy (JE.bor ap) (al 3))))) (al 1))) (JE.bor ap))) (al 2)))))
abbrev vt:bH:=ig 130
abbrev Kg:List Str:=["_law_script","_law_at","_law_made","_law_k"]
theorem oz:aK Kg ["_law_script","_law_at"] (ar vt):=bQ (by decide +kernel)
abbrev vv (e:En):=FN e "_law_word" 3 2 lc
theorem HL (D:cZ e.K e.mg "_law_word" vt) (B:Bi e.mg) (aD:dz e):vv e:=iF (k:=2) (g:=qY) D oz b2 fun _ _ _ _ _ _ _ hr=>by have hu1:=jP hr;unfold qY;exact (ao (dZ 2 cf oz.nd) (ao (qS rfl (qR rfl B.range (bO (JE.bor (cm hu1 (JE.bor (dQ (a8 ap (a8 ap (a8 ap (a8 ap (a8 ap (a8 ap ak)))))))) (JE.bor (jc aD hr fW (a8 (af 0) (a8 (af 1) (a8 ap ak))))))) cg)) (en 3 oz.nd) (aJ (dZ 2 (b6 bG (al 2) (JE.bor (cm hu1 (JE.bor cf) (JE.bor (jc aD hr fW (a8 (af 0) (a8 (b6 bG (JE.bor (b6 bG (al 1) (JE.bor ap))) (al 3)) (a8 ap ak)))))))) oz.nd))) (aJ (bN (af 2)))))
abbrev tu:bH:=ig 131
abbrev HM:List Str:=["_law_script","_law_at","_law_most","_law_found","_law_k"]
theorem rA:aK HM ["_law_script","_law_at","_law_most"] (ar tu):=bQ (by decide +kernel)
abbrev yR (e:En):=FN e "_law_facts" 4 3 oh
theorem FD (D:cZ e.K e.mg "_law_facts" tu) (B:Bi e.mg) (lj:vv e) (aD:dz e):yR e:=iF (k:=3) (g:=og) D rA b3 fun _ _ _ _ _ _ _ hr=>by have hu1:=jP hr;unfold og;exact (ao (lE 3 L5 rA.nd) (ao (qS rfl (qR rfl B.range (bO (JE.bor (jc aD hr fW (a8 (af 0) (a8 (af 1) (a8 (b6 bG (al 2) (JE.bor ap)) ak))))) cg)) (en 4 rA.nd) (aJ (L8 3 my (jc lj hr fW (a8 (af 0) (a8 (b6 bG (JE.bor (b6 bG (al 1) (JE.bor ap))) (JE.bor (b6 sy (JE.bor ap) (al 4)))) ak))) hu1))) (aJ (bN (fe (jr rfl) rfl B.tuple bx (bO (JE.bor (cx Mz rfl B.sorted yA (bO (JE.bor (fe (wv rfl) rfl B.list gP (bO (al 3) cg))) cg))) cg))))))
abbrev rE:bH:=ig 132
abbrev BN:List Str:=["_law_script","_law_at","_law_facts_here","_law_part"]
theorem HN:aK BN ["_law_script","_law_at","_law_facts_here","_law_part"] (ar rE):=bQ (by decide +kernel)
abbrev BO (e:En):=FN e "_law_some" 3 4 q_
theorem HP (D:cZ e.K e.mg "_law_some" rE) (B:Bi e.mg) (aD:dz e):BO e:=iF (k:=2) (g:=qZ) D HN b4 fun _ _ _ _ _ _ _ hr=>by unfold qZ;exact (aJ (bN (fe (jr rfl) rfl B.tuple bx (bO (JE.bor (JN.je (j6 (N':=["_law_k","_law_fact","_law_script","_law_at","_law_part"]) (ix:=[0,1,3]) 2 (by decide) rfl (dC (so:=ar rE) (N:=BN) (by decide +kernel)) (L3.i (AE rfl B.enumerate (a8 (af 2) ak))) (fun cl A0 s0 H0 ex pn=>⟨IH rfl (sj (eM (i:=0) (by show (["_law_k","_law_fact","_law_script","_law_at","_law_part"] : List Str).Nodup;decide +kernel) rfl (.inl rfl)) (sj (eM (i:=1) (by show (["_law_k","_law_fact","_law_script","_law_at","_law_part"] : List Str).Nodup;decide +kernel) rfl (.inl rfl)) E9)),(EI (cS (pU) (JE.bor (jc aD hr fW (a8 (af 2) (a8 (b6 bG (al 3) (al 0)) (a8 ap ak))))) (al 4))),(af 1)⟩)))) cg))))
abbrev ll:bH:=ig 133
abbrev rF:List Str:=["_law_script","_law_at","_law_facts_here","_law_name","_law_one","_law_two","_law_goal","_law_needs","_law_bars","_law_ends","_law_parts"]
theorem hZ:aK rF ["_law_script","_law_at","_law_facts_here","_law_name"] (ar ll):=bQ (by decide +kernel)
abbrev BP (e:En):=FN e "_law_thin" 3 4 r6
theorem HQ (D:cZ e.K e.mg "_law_thin" ll) (B:Bi e.mg) (aD:dz e):BP e:=iF (k:=2) (g:=r0) D hZ b4 fun _ _ _ _ _ _ _ hr=>by have hu1:=jP hr;have hu64:=hr.units;unfold r0;exact (ao (dZ 4 (cm hu1 (al 2) (JE.bor (jc aD hr px (a8 (af 0) (a8 (b6 bG (al 1) (JE.bor ap)) (a8 (cx iD rfl B.len bY (bO (al 2) cg)) ak)))))) hZ.nd) (ao (dZ 5 (cm hu1 (al 2) (JE.bor (jc aD hr px (a8 (af 0) (a8 (b6 bG (al 1) (JE.bor ap)) (a8 (cx iD rfl B.len bY (bO (al 2) cg)) ak)))))) hZ.nd) (ao (dZ 6 (cm hu1 (al 2) (JE.bor (jc aD hr px (a8 (af 0) (a8 (b6 bG (al 1) (JE.bor ap)) (a8 (cx iD rfl B.len bY (bO (al 2) cg)) ak)))))) hZ.nd) (ao (dZ 7 (cp (JE.bor (dQ (a8 (af 4) (a8 (af 5) ak)))) cV (cW (b6 bG (JE.bor ap) (JE.bor (b6 SA (JE.bor (jc aD hr px (a8 (af 0) (a8 (b6 bG (al 1) (JE.bor ap)) (a8 ap ak))))) (JE.bor ap)))))) hZ.nd) (ao (n6 8 (N':=["_law_fact","_law_needs","_law_script","_law_at"]) (ix:=[7,0,1]) 1 (by decide) hZ.nd rfl (dC (so:=ar ll) (N:=rF) (by decide +kernel)) (iW (JE.bor (dQ (a8 (af 6) ak)))) (fun cl A0 s0 H0 ex pn=>⟨eM (i:=0) (by show (["_law_fact","_law_needs","_law_script","_law_at"] : List Str).Nodup;decide +kernel) rfl (.inl rfl),(EI (JW.t (J7 (cS (P1) (al 0) (al 1)) (Ez (cS (o0 hu64) (JE.bor (jc aD hr fW (a8 (af 2) (a8 (b6 bG (al 3) (JE.bor ap)) (a8 ap ak))))) (JE.bor ap)))))),(af 0)⟩)) (ao (n6 9 (N':=["_law_fact","_law_goal","_law_script","_law_at"]) (ix:=[6,0,1]) 1 (by decide) hZ.nd rfl (dC (so:=ar ll) (N:=rF) (by decide +kernel)) (iW (JE.bor (dQ (a8 (af 4) ak)))) (fun cl A0 s0 H0 ex pn=>⟨eM (i:=0) (by show (["_law_fact","_law_goal","_law_script","_law_at"] : List Str).Nodup;decide +kernel) rfl (.inl rfl),(EI (JW.t (J7 (cS (wo hu64) (al 0) (al 1)) (Ez (cS (o0 hu64) (JE.bor (jc aD hr fW (a8 (af 2) (a8 (b6 bG (al 3) (JE.bor ap)) (a8 ap ak))))) (JE.bor ap)))))),(af 0)⟩)) (ao (Pb 8 (Pb 9 (n6 10 (N':=["_law_part"]) (ix:=[]) 1 (by decide) hZ.nd rfl (dC (so:=ar ll) (N:=rF) (by decide +kernel)) (iW (JE.bor (aS (a8 (af 7) (a8 (af 8) (a8 (dQ (a8 (af 6) ak)) (a8 (af 9) ak))))))) (fun cl A0 s0 H0 ex pn=>⟨eM (i:=0) (by show (["_law_part"] : List Str).Nodup;decide +kernel) rfl (.inl rfl),gQ,(fe (jr rfl) rfl B.tuple bx (bO (JE.bor (Jf rfl (W8 rfl (al 0) rfl B.set) rfl B.sorted)) cg))⟩)))) (aJ (bN (aS (a8 (af 3) (a8 (cm hu1 (al 10) (JE.bor ap)) (a8 (cm hu1 (al 10) (JE.bor ap)) (a8 (cm hu1 (al 10) (JE.bor ap)) (a8 (cm hu1 (al 10) (JE.bor ap)) (a8 (jc aD hr px (a8 (af 0) (a8 (af 1) (a8 ap ak)))) ak))))))))))))))))
abbrev mM:bH:=ig 134
abbrev x0:List Str:=["_law_script","_law_at","_law_facts_here","_law_name","_law_parts","_law_k","_law_fact","_law_way","_law_some_here"]
theorem gI:aK x0 ["_law_script","_law_at","_law_facts_here","_law_name"] (ar mM):=bQ (by decide +kernel)
abbrev xa (e:En):=FN e "_law_errand" 4 4 j9
theorem CT (D:cZ e.K e.mg "_law_errand" mM) (B:Bi e.mg) (aD:dz e) (vw:BP e):xa e:=iF (k:=3) (g:=j8) D gI b4 fun _ _ _ _ _ _ _ hr=>by have hu1:=jP hr;have hu64:=hr.units;unfold j8;exact (ao (dD (JW.t (J7 (cS (wo hu64) (al 2) (JE.bor (aS ak))) (Ez (cS (o0 hu64) (JE.bor (jc aD hr px (a8 (af 0) (a8 ap (a8 ap ak))))) (JE.bor ap))))) (aJ (bN (jc vw hr px (a8 (af 0) (a8 (af 1) (a8 (af 2) (a8 (af 3) ak))))))) bU) (ao (W9 4 gI.nd) (ao (qS rfl (AE rfl B.enumerate (a8 (af 2) ak)) (xL rfl (eY (en 5 gI.nd) (eY (en 6 gI.nd) tR))) (ao (dZ 7 (jc aD hr fW (a8 (af 0) (a8 (b6 bG (JE.bor (b6 bG (al 1) (JE.bor ap))) (al 5)) (a8 ap ak)))) gI.nd) (ao (dD (cS (pU) (al 7) (JE.bor ap)) (aJ (AL 4 (cm hu1 (JE.bor (dQ (a8 ap (a8 ap (a8 ap ak))))) (al 7)) (af 6))) bU) (ao (dZ 7 (jc aD hr fW (a8 (af 0) (a8 (b6 bG (JE.bor (b6 bG (al 1) (JE.bor ap))) (al 5)) (a8 ap ak)))) gI.nd) (aJ (dD (cS (pU) (al 7) (JE.bor ap)) (aJ (AL 4 (cm hu1 (JE.bor (dQ (a8 ap (a8 ap (a8 ap (a8 ap ak)))))) (al 7)) (af 6))) bU)))))) (ao (Pa (n6 8 (N':=["_law_part"]) (ix:=[]) 1 (by decide) gI.nd rfl (dC (so:=ar mM) (N:=x0) (by decide +kernel)) (iW (al 4)) (fun cl A0 s0 H0 ex pn=>⟨eM (i:=0) (by show (["_law_part"] : List Str).Nodup;decide +kernel) rfl (.inl rfl),gQ,(fe (jr rfl) rfl B.tuple bx (bO (al 0) cg))⟩))) (aJ (bN (aS (a8 (af 3) (a8 (cm hu1 (al 8) (JE.bor ap)) (a8 (cm hu1 (al 8) (JE.bor ap)) (a8 (cm hu1 (al 8) (JE.bor ap)) (a8 (cm hu1 (al 8) (JE.bor ap)) (a8 (jc aD hr px (a8 (af 0) (a8 (af 1) (a8 ap ak)))) ak)))))))))))))
abbrev rG:bH:=ig 135
abbrev BQ:List Str:=["_law_script","_law_at","_law_most","_law_many","_law_facts_here","_law_made","_law_k","_law_name","_law_names","_law_turn"]
theorem i_:aK BQ ["_law_script","_law_at","_law_most","_law_many"] (ar rG):=bQ (by decide +kernel)
abbrev BR (e:En):=FN e "_law_book" 5 4 nr
theorem HR (D:cZ e.K e.mg "_law_book" rG) (B:Bi e.mg) (tw:yR e) (lj:vv e) (rH:xa e) (aD:dz e):BR e:=iF (k:=4) (g:=nq) D i_ b4 fun _ _ _ _ _ _ _ hr=>by have hu1:=jP hr;unfold nq;exact (ao (dZ 4 (jc tw hr px (a8 (af 0) (a8 (af 1) (a8 (af 2) ak)))) i_.nd) (ao (lE 5 L5 i_.nd) (ao (qS rfl (qR rfl B.range (bO (JE.bor (jc aD hr fW (a8 (af 0) (a8 (b6 bG (al 1) (JE.bor ap)) (a8 (b6 bG (al 3) (JE.bor ap)) ak))))) cg)) (en 6 i_.nd) (ao (dZ 7 (jc lj hr fW (a8 (af 0) (a8 (b6 bG (JE.bor (b6 bG (al 1) (JE.bor ap))) (JE.bor (b6 sy (JE.bor ap) (al 6)))) ak))) i_.nd) (aJ (L8 5 (jc rH hr fW (a8 (af 0) (a8 (b6 bG (JE.bor (b6 bG (al 1) (JE.bor ap))) (JE.bor (b6 sy (JE.bor ap) (al 6)))) (a8 (af 4) (a8 (af 7) ak))))) (af 7) hu1)))) (ao (dZ 8 (fe (wv rfl) rfl B.list gP (bO (al 5) cg)) i_.nd) (ao (dZ 9 (jc aD hr px (a8 (af 0) (a8 (b6 bG (al 1) (JE.bor ap)) (a8 (b6 bG (JE.bor (cx iD rfl B.len bY (bO (al 8) cg))) (JE.bor ap)) ak)))) i_.nd) (aJ (bN (aS (a8 (af 4) (a8 (fe (jr rfl) rfl B.tuple bx (bO (JE.bor (JN.je (j6 (N':=["_law_name","_law_made"]) (ix:=[5]) 1 (by decide) rfl (dC (so:=ar rG) (N:=BQ) (by decide +kernel)) (iW (JE.bor (b6 bG (JE.bor (cp (al 8) (cW (af 9)) cV)) (JE.bor (cp (al 8) cV (cW (af 9))))))) (fun cl A0 s0 H0 ex pn=>⟨eM (i:=0) (by show (["_law_name","_law_made"] : List Str).Nodup;decide +kernel) rfl (.inl rfl),gQ,(cm hu1 (al 1) (al 0))⟩)))) cg)) ak))))))))))
abbrev vy:bH:=ig 136
abbrev Kh:List Str:=["_law_script","_law_at","_law_facts_here","_law_must","_law_bars","_law_k","_law_fact","_law_way"]
theorem jT:aK Kh ["_law_script","_law_at","_law_facts_here"] (ar vy):=bQ (by decide +kernel)
abbrev BS (e:En):=FN e "_law_want" 3 3 vc
theorem HS (D:cZ e.K e.mg "_law_want" vy) (B:Bi e.mg) (aD:dz e):BS e:=iF (k:=2) (g:=nu) D jT b3 fun _ _ _ _ _ _ _ hr=>by have hu64:=hr.units;unfold nu;exact (ao (lE 3 (sF ak) jT.nd) (ao (lE 4 (sF ak) jT.nd) (ao (qS rfl (AE rfl B.enumerate (a8 (af 2) ak)) (xL rfl (eY (en 5 jT.nd) (eY (en 6 jT.nd) tR))) (ao (dZ 7 (jc aD hr fW (a8 (af 0) (a8 (b6 bG (al 1) (al 5)) (a8 ap ak)))) jT.nd) (aJ (dD (cS (pU) (al 7) (JE.bor ap)) (aJ (tT 3 (af 6))) (aJ (dD (cS (o0 hu64) (al 7) (JE.bor ap)) (aJ (tT 4 (af 6))) bU)))))) (aJ (bN (aS (a8 (fe (jr rfl) rfl B.tuple bx (bO (al 3) cg)) (a8 (fe (jr rfl) rfl B.tuple bx (bO (al 4) cg)) ak))))))))
abbrev vz:bH:=ig 137
abbrev Ki:List Str:=["_law_script","_law_most","_law_many","_law_book_here","_law_state"]
theorem tE:aK Ki ["_law_script","_law_most","_law_many"] (ar vz):=bQ (by decide +kernel)
abbrev BU (e:En):=FN e "_law_case" 6 3 nw
theorem HU (D:cZ e.K e.mg "_law_case" vz) (vA:BR e) (aD:dz e) (vB:BO e) (vC:BS e):BU e:=iF (k:=5) (g:=r9) D tE b3 fun _ _ _ _ _ _ _ hr=>by have hu1:=jP hr;unfold r9;exact (ao (dZ 3 (jc vA hr px (a8 (af 0) (a8 ap (a8 (af 1) (a8 (af 2) ak))))) tE.nd) (ao (dZ 4 (jc vB hr px (a8 (af 0) (a8 ap (a8 (cm hu1 (al 3) (JE.bor ap)) (a8 (cm hu1 (JE.bor (dQ (a8 ap (a8 ap ak)))) (JE.bor (jc aD hr px (a8 (af 0) (a8 ap (a8 ap ak)))))) ak))))) tE.nd) (aJ (bN (aS (a8 (af 3) (a8 (af 4) (a8 (jc vC hr px (a8 (af 0) (a8 ap (a8 (cm hu1 (al 3) (JE.bor ap)) ak)))) ak))))))))
abbrev lm:bH:=ig 138
abbrev yk:List Str:=["_law_script","_law_at","_law_good","_law_some_here"]
theorem kC:aK yk ["_law_script","_law_at"] (ar lm):=bQ (by decide +kernel)
abbrev qq (e:En):=FN e "_law_bad_errand" 3 2 gW
theorem xb (D:cZ e.K e.mg "_law_bad_errand" lm) (B:Bi e.mg) (aD:dz e):qq e:=iF (k:=2) (g:=ja) D kC b2 fun _ _ _ _ _ _ _ hr=>by have hu1:=jP hr;unfold ja;exact (ao (dZ 2 (aS (a8 cf (a8 (aS ak) (a8 (aS ak) (a8 (aS ak) (a8 (aS ak) (a8 ap ak))))))) kC.nd) (ao (lE 3 (sF (a8 (b6 bG (JE.bor (aS (a8 cf ak))) (JE.bor (cp (al 2) (cW ap) cV))) (a8 (cp (al 2) cV (cW ap)) (a8 (fe (wv rfl) rfl B.list gP (bO (al 2) cg)) (a8 eO (a8 (b6 bG (JE.bor (cp (al 2) cV (cW ap))) (JE.bor (aS (a8 ap ak)))) (a8 (b6 bG (JE.bor (cp (al 2) cV (cW ap))) (JE.bor (aS (a8 (W7 ap) ak)))) (a8 (b6 bG (JE.bor (cp (al 2) cV (cW ap))) (JE.bor (aS (a8 my ak)))) ak)))))))) kC.nd) (ao (j7 3 (dQ (a8 (b6 bG (JE.bor (b6 bG (JE.bor (cp (al 2) cV (cW ap))) (JE.bor (aS (a8 (dQ (a8 cf ak)) ak))))) (JE.bor (cp (al 2) (cW ap) cV))) (a8 (b6 bG (JE.bor (b6 bG (JE.bor (cp (al 2) cV (cW ap))) (JE.bor (aS (a8 (aS (a8 cf (a8 cf ak))) ak))))) (JE.bor (cp (al 2) (cW ap) cV))) ak)))) (ao (tT 3 (b6 bG (JE.bor (b6 bG (JE.bor (cp (al 2) cV (cW ap))) (JE.bor (aS (a8 (aS (a8 cf (a8 cf ak))) ak))))) (JE.bor (cp (al 2) (cW ap) cV)))) (ao (j7 3 (dQ (a8 (b6 bG (JE.bor (b6 bG (JE.bor (cp (al 2) cV (cW ap))) (JE.bor (aS (a8 (aS (a8 cf ak)) (a8 (aS (a8 cf ak)) ak)))))) (JE.bor (cp (al 2) (cW ap) cV))) (a8 (b6 bG (JE.bor (b6 bG (JE.bor (cp (al 2) cV (cW ap))) (JE.bor (aS (a8 (aS (a8 cf ak)) (a8 (aS (a8 cf ak)) ak)))))) (JE.bor (cp (al 2) (cW ap) cV))) (a8 (b6 bG (JE.bor (cp (al 2) cV (cW ap))) (JE.bor (aS (a8 eO (a8 ap ak))))) ak))))) (ao (j7 3 (dQ (a8 (b6 bG (JE.bor (b6 bG (JE.bor (cp (al 2) cV (cW ap))) (JE.bor (aS (a8 (aS (a8 cf ak)) ak))))) (JE.bor (cp (al 2) (cW ap) cV))) (a8 (b6 bG (al 2) (JE.bor (aS (a8 ap ak)))) (a8 (b6 bG (JE.bor (b6 bG (JE.bor (cp (al 2) cV (cW ap))) (JE.bor (aS (a8 (aS (a8 cf (a8 ap ak))) ak))))) (JE.bor (cp (al 2) (cW ap) cV))) ak))))) (aJ (bN (cm hu1 (al 3) (JE.bor (jc aD hr px (a8 (af 0) (a8 (af 1) (a8 ap ak))))))))))))))
abbrev kE:bH:=ig 139
abbrev tF:List Str:=["_law_script","_law_at","_law_facts_here","_law_good","_law_bad","_law_six","_law_some_here"]
theorem g9:aK tF ["_law_script","_law_at"] (ar kE):=bQ (by decide +kernel)
abbrev tG (e:En):=FN e "_law_bad_book" 4 2 gX
theorem zw (D:cZ e.K e.mg "_law_bad_book" kE) (B:Bi e.mg) (lr:qq e) (aD:dz e):tG e:=iF (k:=3) (g:=ku) D g9 b2 fun _ _ _ _ _ _ _ hr=>by have hu1:=jP hr;unfold ku;exact (ao (dZ 2 (aS (a8 cf (a8 cf ak))) g9.nd) (ao (dZ 3 (aS (a8 cf (a8 (aS ak) (a8 (aS ak) (a8 (aS ak) (a8 (aS ak) (a8 ap ak))))))) g9.nd) (ao (dZ 4 (jc lr hr px (a8 (af 0) (a8 (b6 bG (al 1) (JE.bor ap)) ak))) g9.nd) (ao (dZ 5 (fe (jr rfl) rfl B.tuple bx (bO (JE.bor (JN.je (j6 (N':=["_law_name","_law_good"]) (ix:=[3]) 1 (by decide) rfl (dC (so:=ar kE) (N:=tF) (by decide +kernel)) (iW (JE.bor (dQ (a8 cf (a8 cf (a8 cf (a8 cf (a8 cf (a8 cf (a8 cf ak)))))))))) (fun cl A0 s0 H0 ex pn=>⟨eM (i:=0) (by show (["_law_name","_law_good"] : List Str).Nodup;decide +kernel) rfl (.inl rfl),gQ,(b6 bG (JE.bor (aS (a8 (af 0) ak))) (JE.bor (cp (al 1) (cW ap) cV)))⟩)))) cg)) g9.nd) (ao (lE 6 (sF (a8 (aS (a8 (af 2) (a8 (aS (a8 (af 4) ak)) ak))) (a8 (aS (a8 (af 2) (a8 (aS (a8 (af 3) (a8 (af 4) ak))) ak))) (a8 eO ak)))) g9.nd) (ao (j7 6 (dQ (a8 (aS (a8 (af 2) (a8 (aS (a8 (af 3) (a8 (af 3) ak))) ak))) (a8 (aS (a8 (af 2) (a8 (af 5) ak))) (a8 (aS (a8 (af 2) (a8 (dQ (a8 (af 3) ak)) ak))) (a8 (aS (a8 (af 2) ak)) (a8 (dQ (a8 (af 2) (a8 (aS ak) ak))) (a8 eO (a8 (aS (a8 (aS (a8 cf (a8 cf ak))) (a8 (aS ak) ak))) ak))))))))) (ao (j7 6 (dQ (a8 (aS (a8 (aS (a8 cf (a8 cf ak))) (a8 (aS ak) ak))) (a8 (aS (a8 (dQ (a8 cf ak)) (a8 (aS ak) ak))) (a8 (aS (a8 (aS (a8 cf ak)) (a8 (aS ak) ak))) (a8 (aS (a8 (fe (jr rfl) rfl B.tuple bx (bO (JE.bor cf) cg)) (a8 (aS ak) ak))) (a8 (b6 bG (JE.bor (aS (a8 (af 2) (a8 (aS ak) ak)))) (JE.bor (aS (a8 (aS ak) ak)))) (a8 (aS (a8 (aS (a8 cf ak)) (a8 (aS ak) ak))) ak)))))))) (aJ (bN (cm hu1 (al 6) (JE.bor (cm hu1 (JE.bor (dQ (a8 ap (a8 ap (a8 ap (a8 ap (a8 ap (a8 ap (a8 ap (a8 ap (a8 ap (a8 ap (a8 ap (a8 ap (a8 ap (a8 ap (a8 ap (a8 ap (a8 ap (a8 ap ak)))))))))))))))))))) (JE.bor (jc aD hr px (a8 (af 0) (a8 (af 1) (a8 ap ak)))))))))))))))))
abbrev ml:bH:=ig 140
abbrev zx:List Str:=["_law_script","_law_at","_law_facts_here","_law_some_here"]
theorem qr:aK zx ["_law_script","_law_at","_law_facts_here"] (ar ml):=bQ (by decide +kernel)
abbrev mn (e:En):=FN e "_law_bad_state" 3 3 ip
theorem ym (D:cZ e.K e.mg "_law_bad_state" ml) (B:Bi e.mg) (aD:dz e):mn e:=iF (k:=2) (g:=io) D qr b3 fun _ _ _ _ _ _ _ hr=>by have hu1:=jP hr;have hu64:=hr.units;unfold io;exact (ao (lE 3 (sF (a8 eO (a8 (fe (wv rfl) rfl B.list gP (bO (al 2) cg)) (a8 (aS (a8 cf ak)) (a8 (b6 bG (al 2) (JE.bor (aS (a8 cf ak)))) (a8 (aS (a8 ap ak)) (a8 ap (a8 cf (a8 (aS (a8 cf ak)) (a8 (aS (a8 eO ak)) ak)))))))))) qr.nd) (ao (dD (cS (wo hu64) (al 2) (JE.bor (aS ak))) (aJ (j7 3 (dQ (a8 (b6 bG (al 2) (al 2)) (a8 (b6 bG (JE.bor (cp (al 2) cV (cW ap))) (JE.bor (cp (al 2) cV (cW ap)))) (a8 (aS (a8 (cm hu1 (al 2) (JE.bor ap)) (a8 ap ak))) ak)))))) bU) (ao (dD (cS (KW) (JE.bor (cx iD rfl B.len bY (bO (al 2) cg))) (JE.bor ap)) (aJ (j7 3 (Wi 3 (by decide) (a8 (Wl (al 2)) ak)))) bU) (aJ (bN (cm hu1 (al 3) (JE.bor (jc aD hr px (a8 (af 0) (a8 (af 1) (a8 (cx iD rfl B.len bY (bO (al 3) cg)) ak)))))))))))
abbrev nG:bH:=ig 141
abbrev BV:List Str:=["_law_script","_law_at","_law_facts_here","_law_bad","_law_some_here"]
theorem mq:aK BV ["_law_script","_law_at","_law_facts_here"] (ar nG):=bQ (by decide +kernel)
abbrev tH (e:En):=FN e "_law_bad_want" 4 3 kz
theorem zy (D:cZ e.K e.mg "_law_bad_want" nG) (B:Bi e.mg) (gd:mn e) (aD:dz e):tH e:=iF (k:=3) (g:=iY) D mq b3 fun _ _ _ _ _ _ _ hr=>by have hu1:=jP hr;have hu64:=hr.units;unfold iY;exact (ao (dZ 3 (jc gd hr px (a8 (af 0) (a8 (b6 bG (al 1) (JE.bor ap)) (a8 (af 2) ak)))) mq.nd) (ao (lE 4 (sF (a8 eO (a8 (aS (a8 (aS ak) ak)) (a8 (dQ (a8 (aS ak) (a8 (aS ak) ak))) (a8 (aS (a8 (aS ak) (a8 (aS ak) (a8 (aS ak) ak)))) (a8 (aS (a8 (af 3) (a8 (aS ak) ak))) (a8 (aS (a8 (aS ak) (a8 (af 3) ak))) (a8 (aS (a8 (af 3) (a8 (aS ak) ak))) (a8 (aS (a8 (aS ak) (a8 (af 3) ak))) (a8 ap ak)))))))))) mq.nd) (ao (dD (cS (wo hu64) (al 2) (JE.bor (aS ak))) (aJ (j7 4 (dQ (a8 (aS (a8 (af 2) (a8 (cp (al 2) cV (cW ap)) ak))) (a8 (aS (a8 (cp (al 2) cV (cW ap)) (a8 (af 2) ak))) ak))))) bU) (aJ (bN (cm hu1 (al 4) (JE.bor (jc aD hr px (a8 (af 0) (a8 (af 1) (a8 (cx iD rfl B.len bY (bO (al 4) cg)) ak)))))))))))
abbrev lN:bH:=ig 142
abbrev uJ:List Str:=["_law_script","_law_at","_law_book_here","_law_names","_law_some_here"]
theorem nI:aK uJ ["_law_script","_law_at","_law_book_here"] (ar lN):=bQ (by decide +kernel)
abbrev uK (e:En):=FN e "_law_bad_row" 3 3 lI
theorem BW (D:cZ e.K e.mg "_law_bad_row" lN) (B:Bi e.mg) (aD:dz e):uK e:=iF (k:=2) (g:=jy) D nI b3 fun _ _ _ _ _ _ _ hr=>by have hu1:=jP hr;have hu64:=hr.units;unfold jy;exact (ao (n6 3 (N':=["_law_errand_here"]) (ix:=[]) 1 (by decide) nI.nd rfl (dC (so:=ar lN) (N:=uJ) (by decide +kernel)) (iW (JE.bor (cm hu1 (al 2) (JE.bor ap)))) (fun cl A0 s0 H0 ex pn=>⟨eM (i:=0) (by show (["_law_errand_here"] : List Str).Nodup;decide +kernel) rfl (.inl rfl),gQ,(cm hu1 (al 0) (JE.bor ap))⟩)) (ao (lE 4 (sF (a8 eO (a8 (fe (jr rfl) rfl B.tuple bx (bO (al 3) cg)) (a8 (b6 bG (al 3) (JE.bor (dQ (a8 cf ak)))) (a8 (dQ (a8 cf ak)) (a8 (dQ (a8 eO ak)) (a8 (dQ (a8 (dQ (a8 cf ak)) ak)) (a8 cf (a8 ap (a8 (dQ (a8 ap ak)) ak)))))))))) nI.nd) (ao (dD (cS (wo hu64) (al 3) (JE.bor (dQ ak))) (aJ (j7 4 (dQ (a8 (Q3 65 (by decide) (al 3) cV (cW ap)) (a8 (aS (a8 (cm hu1 (al 3) (JE.bor ap)) ak)) ak))))) bU) (aJ (bN (cm hu1 (al 4) (JE.bor (jc aD hr px (a8 (af 0) (a8 (af 1) (a8 (cx iD rfl B.len bY (bO (al 4) cg)) ak)))))))))))
abbrev kF:bH:=ig 144
abbrev xc:List Str:=["_law_what","_law_bad","_law_some_here"]
theorem i9:aK xc ["_law_what","_law_bad"] (ar kF):=bQ (by decide +kernel)
abbrev oA (e:En):=FN e "_law_bad_book_to" 11 2 gm
theorem vD (D:cZ e.K e.mg "_law_bad_book_to" kF) (tJ:yQ e) (FE:LO e) (bM:f_ e) (BX:QP e) (ls:qp e) (pE:uH e) (Kj:Rb e) (qt:BI e) (ua:Fu e) (yn:K6 e) (qu:Bv e) (ub:Fx e) (mT:y9 e) (eW:lM e) (ia:rq e) (eX:lL e) (dX:jD e) (xg:LL e) (fi:nA e) (qv:Br e) (mO:zY e) (mP:zX e) (kG:wT e) (yo:J_ e) (iy:pj e) (gx:oy e) (jf:u7 e) (rJ:Fp e) (BY:HI e) (lu:vo e) (jU:t5 e) (iq:t6 e) (gf:qm e) (ib:rz e) (fL:ql e):oA e:=iF (k:=10) (g:=iK) D i9 b2 fun _ _ _ _ _ _ _ hr=>by have hu64:=hr.units;unfold iK;exact (ao (dD (cS (pU) (al 0) (JE.bor ap)) (aJ (q8 (aP bM (aP FE (aP tJ ke))) hr px (af 0) (a8 (af 1) ak))) bU) (ao (dD (cS (pU) (al 0) (JE.bor ap)) (AS 2 (aP BX (aP mT (aP ub (aP qu (aP yn (aP ua (aP qt (aP Kj (aP pE (aP ls (aP BX ke))))))))))) hr px i9.nd (b6 u_ (al 0) (JE.bor ap)) (a8 (af 1) (a8 eO ak))) bU) (ao (dD (cS (pU) (al 0) (JE.bor ap)) (GS 2 (aP yo (aP kG (aP mP (aP mO (aP qv (aP fi (aP xg (aP dX (aP eX (aP ia (aP eW ke))))))))))) (aP rJ (aP jf (aP gx (aP iy ke)))) hr px i9.nd (b6 u_ (al 0) (JE.bor ap)) (a8 (af 1) (a8 eO (a8 eO ak)))) bU) (ao (dD (cS (o0 hu64) (al 0) (JE.bor ap)) (aJ (bN (jc BY hr px (a8 (af 1) (a8 eO (a8 eO ak)))))) bU) (AS 2 (aP fL (aP ib (aP gf (aP iq (aP jU (aP lu ke)))))) hr px i9.nd (b6 u_ (al 0) (JE.bor ap)) (a8 (af 1) (a8 eO (a8 eO (a8 eO ak)))))))))
abbrev jM:bH:=ig 145
abbrev vE:List Str:=["_law_what","_law_book_here","_law_bad","_law_some_here"]
theorem mC:aK vE ["_law_what","_law_book_here","_law_bad"] (ar jM):=bQ (by decide +kernel)
abbrev nJ (e:En):=FN e "_law_bad_state_to" 11 3 fJ
theorem uv (D:cZ e.K e.mg "_law_bad_state_to" jM) (yn:K6 e) (qu:Bv e) (ub:Fx e) (mT:y9 e) (BX:QP e) (rJ:Fp e) (eW:lM e) (ia:rq e) (eX:lL e) (dX:jD e) (xg:LL e) (fi:nA e) (qv:Br e) (mP:zX e) (kG:wT e) (yo:J_ e) (iy:pj e) (gx:oy e) (jf:u7 e) (lu:vo e) (jU:t5 e) (iq:t6 e) (gf:qm e) (ib:rz e) (fL:ql e):nJ e:=iF (k:=10) (g:=i5) D mC b3 fun _ _ _ _ _ _ _ hr=>by unfold i5;exact (ao (dD (cS (pU) (al 0) (JE.bor ap)) (aJ (q8 (aP BX (aP mT (aP ub (aP qu (aP yn ke))))) hr px (af 0) (a8 (af 1) (a8 (af 2) ak)))) bU) (ao (dD (cS (pU) (al 0) (JE.bor ap)) (GS 3 (aP yo (aP kG (aP mP (aP qv (aP fi (aP xg (aP dX (aP eX (aP ia (aP eW (aP rJ ke))))))))))) (aP jf (aP gx (aP iy ke))) hr px mC.nd (b6 u_ (al 0) (JE.bor ap)) (a8 (af 1) (a8 (af 2) (a8 eO ak)))) bU) (aJ (q8 (aP fL (aP ib (aP gf (aP iq (aP jU (aP lu ke)))))) hr px (b6 u_ (al 0) (JE.bor ap)) (a8 (af 1) (a8 (af 2) (a8 eO (a8 eO ak))))))))
abbrev kH:bH:=ig 146
abbrev xh:List Str:=["_law_what","_law_book_here","_law_state","_law_bad","_law_some_here"]
theorem nK:aK xh ["_law_what","_law_book_here","_law_state","_law_bad"] (ar kH):=bQ (by decide +kernel)
abbrev oB (e:En):=FN e "_law_bad_want_to" 11 4 gq
theorem vF (D:cZ e.K e.mg "_law_bad_want_to" kH) (gx:oy e) (jf:u7 e) (rJ:Fp e) (eW:lM e) (ia:rq e) (eX:lL e) (dX:jD e) (xg:LL e) (fi:nA e) (kG:wT e) (mO:zY e) (iq:t6 e) (gf:qm e) (ib:rz e) (fL:ql e):oB e:=iF (k:=10) (g:=iL) D nK b4 fun _ _ _ _ _ _ _ hr=>by have hu64:=hr.units;unfold iL;exact (ao (dD (cS (pU) (al 0) (JE.bor ap)) (AS 4 (aP kG (aP fi (aP xg (aP dX (aP eX (aP ia (aP eW (aP rJ (aP jf (aP gx ke)))))))))) hr px nK.nd (af 0) (a8 (af 1) (a8 (af 2) (a8 (af 3) ak)))) bU) (ao (dD (cS (o0 hu64) (al 0) (JE.bor ap)) (aJ (bN (jc mO hr px (a8 (af 1) (a8 (af 3) (a8 eO ak)))))) bU) (aJ (q8 (aP fL (aP ib (aP gf (aP iq ke)))) hr px (b6 u_ (al 0) (JE.bor ap)) (a8 (af 1) (a8 (af 2) (a8 (af 3) (a8 eO ak))))))))
abbrev lv:bH:=ig 147
abbrev yp:List Str:=["_law_what","_law_book_here","_law_state","_law_want_here","_law_bad"]
theorem xi:aK yp ["_law_what","_law_book_here","_law_state","_law_want_here","_law_bad"] (ar lv):=bQ (by decide +kernel)
abbrev qw (e:En):=FN e "_law_bad_row_to" 11 5 gY
theorem xj (D:cZ e.K e.mg "_law_bad_row_to" lv) (qt:BI e) (ua:Fu e) (mP:zX e) (mO:zY e) (iq:t6 e) (gf:qm e) (fL:ql e):qw e:=iF (k:=10) (g:=jb) D xi b5 fun _ _ _ _ _ _ _ hr=>by have hu64:=hr.units;unfold jb;exact (ao (dD (cS (pU) (al 0) (JE.bor ap)) (aJ (q8 (aP ua (aP qt ke)) hr px (af 0) (a8 (af 1) (a8 (af 4) ak)))) bU) (ao (dD (cS (o0 hu64) (al 0) (JE.bor ap)) (aJ (bN (jc mP hr px (a8 (af 1) (a8 (af 2) (a8 (af 4) ak)))))) bU) (ao (dD (cS (o0 hu64) (al 0) (JE.bor ap)) (aJ (bN (jc mO hr px (a8 (af 1) (a8 (af 3) (a8 (af 4) ak)))))) bU) (aJ (q8 (aP fL (aP gf (aP iq ke))) hr px (b6 u_ (al 0) (JE.bor ap)) (a8 (af 1) (a8 (af 2) (a8 (af 3) (a8 (af 4) ak)))))))))
abbrev pF:bH:=ig 148
abbrev CU:List Str:=["_law_kind","_law_what","_law_case_here","_law_bad","_law_book_here","_law_state","_law_want_here","_law_e"]
theorem j0:aK CU ["_law_kind","_law_what","_law_case_here","_law_bad"] (ar pF):=bQ (by decide +kernel)
abbrev uL (e:En):=FN e "_law_refusal" 12 4 jz
theorem BZ (D:cZ e.K e.mg "_law_refusal" pF) (kJ:oA e) (jN:nJ e) (kK:oB e) (lw:qw e) (W:Wh e.P e.w e.K e.mg e.base e.cls "_law_which" Hq Td):uL e:=iF (k:=11) (g:=lJ) D j0 b4 fun _ _ _ _ _ _ _ hr=>by have hu64:=hr.units;unfold lJ;exact (ao (EG (af 2) (xL rfl (eY (en 4 j0.nd) (eY (en 5 j0.nd) (eY (en 6 j0.nd) tR))))) (aJ (SW 7 W (fun E1 xe1 pn1 hp=>(ao (dD (cS (o0 hu64) (al 0) (JE.bor ap)) (aJ (bN (jc kJ hr hp (a8 (b6 sA (al 1) (JE.bor ap)) (a8 (af 3) ak))))) bU) (ao (dD (cS (o0 hu64) (al 0) (JE.bor ap)) (aJ (bN (jc jN hr hp (a8 (b6 sA (al 1) (JE.bor ap)) (a8 (af 4) (a8 (af 3) ak)))))) bU) (ao (dD (cS (o0 hu64) (al 0) (JE.bor ap)) (aJ (bN (jc kK hr hp (a8 (b6 sA (al 1) (JE.bor ap)) (a8 (af 4) (a8 (af 5) (a8 (af 3) ak))))))) bU) (aJ (bN (jc lw hr hp (a8 (b6 sA (al 1) (JE.bor ap)) (a8 (af 4) (a8 (af 5) (a8 (af 6) (a8 (af 3) ak)))))))))))) (hr.h.mono1) rfl rfl j0.nd)))
abbrev yS:bH:=ig 149
abbrev Y_:List Str:=["_law_script","_law_case_here","_law_facts_here","_law_kind","_law_bad","_law_turn","_law_what"]
theorem vG:aK Y_ ["_law_script"] (ar yS):=bQ (by decide +kernel)
theorem WY {f:ai}{fd:dE} (F:Io e.K "law" "law" yS f fd) (B:Bi e.mg) (vH:BU e) (aD:dz e) (nL:tH e) (gd:mn e) (nM:tG e) (pG:uK e) (pH:uL e):uj e.P e.w e.K e.mg e.base (kg e.P e.w) 13 f fd ["_law_script"] (UE e.K e.cls 1 F_law):=by
 refine UH (k:=12) (g:=Lp) F vG fun cdv A outer s H E hr=>?_
 have hu1:=jP hr
 have hu64:=hr.units
 unfold Lp
 exact (ao (dZ 1 (jc vH hr px (a8 (af 0) (a8 ap (a8 ap ak)))) vG.nd) (ao (dZ 2 (cm hu1 (JE.bor (cm hu1 (al 1) (JE.bor ap))) (JE.bor ap)) vG.nd) (ao (dZ 3 (jc aD hr px (a8 (af 0) (a8 ap (a8 ap ak)))) vG.nd) (ao (lE 4 (sF (a8 (jc nM hr px (a8 (af 0) (a8 ap ak))) (a8 (jc gd hr px (a8 (af 0) (a8 ap (a8 (af 2) ak)))) (a8 (jc nL hr px (a8 (af 0) (a8 ap (a8 (af 2) ak)))) ak)))) vG.nd) (ao (tT 4 (jc pG hr px (a8 (af 0) (a8 ap (a8 (cm hu1 (al 1) (JE.bor ap)) ak))))) (ao (qS rfl (qR rfl B.range (bO (JE.bor ap) cg)) (en 5 vG.nd) (ao (dZ 6 (jc aD hr fW (a8 (af 0) (a8 (b6 bG (JE.bor ap) (al 5)) (a8 (b6 Wu (JE.bor ap) (JE.bor ap)) ak)))) vG.nd) (aJ (dD (cS (wo hu64) (JE.bor (jc pH hr fW (a8 (af 3) (a8 (af 6) (a8 (af 1) (a8 (cm hu1 (al 4) (al 3)) ak)))))) (JE.bor (aS (a8 cf (a8 (cm hu1 (JE.bor (dQ (a8 ap (a8 ap (a8 ap (a8 ap ak)))))) (al 3)) ak))))) (aJ (bN my)) bU)))) (aJ (bN my))))))))
end
end
section
theorem all_mk {l:y_}{w:b9}{K:a9}{h:br}{mg:Str->Option ae}{fa A:ai}{lY:ai}{jV:ai}{lZ:ai}{lz:ai}{oC:ai}{uc:ai}{mU:ai}{mV:ai}{lA:ai}{mW:ai}{qx:ai}{jW:ai}{od an:Option ai}{sl:Array (Option ae)}{oc kV dc pm cv ct:ae} (X:K.In h) (G:h.Ns bF mg) (hfa:mg "law"=some (.ref fa))
  (Zz:Zs K zn)
  (ny:Cn mg "MOST_LETTERS" 6)
  (rl:Cn mg "MOST_PRICE" 9)
  (rm:Cn mg "MOST_FACTS" 6)
  (nz:Cn mg "MOST_ERRANDS" 6)
  (ph:Cn mg "MOST_IN_ROW" 64)
  (Ws:T6 K Hq [lY,jV,lZ,lz,oC,uc,mU,mV,lA,mW,qx])
  (DX:TopC K "NoState" jV)
  (HV:TopC K "NoWant" lZ)
  (HW:TopC K "NoBook" lY)
  (oE:TopC K "PlanError" jW)
  (FF:YC K "NoRow" oC (YA (ig 6) 0))
  (w_NoState:Wy K jV jW [(lY,false),(jV,true),(lZ,false),(lz,false),(oC,false),(uc,false),(mU,false),(mV,false),(lA,false),(mW,false),(qx,false)])
  (w_NoWant:Wy K lZ jW [(lY,false),(jV,false),(lZ,true),(lz,false),(oC,false),(uc,false),(mU,false),(mV,false),(lA,false),(mW,false),(qx,false)])
  (w_NoBook:Wy K lY jW [(lY,true),(jV,false),(lZ,false),(lz,false),(oC,false),(uc,false),(mU,false),(mV,false),(lA,false),(mW,false),(qx,false)])
  (w_NoRow:Wy K oC jW [(lY,false),(jV,false),(lZ,false),(lz,false),(oC,true),(uc,false),(mU,false),(mV,false),(lA,false),(mW,false),(qx,false)])
  (HX:cZ K mg "_law_which" sX)
  (FG:cZ K mg "share_none" mK)
  (Nm:cZ K mg "is_word" u6)
  (vI:cZ K mg "are_rising_words" fK)
  (HY:cZ K mg "are_facts" oo)
  (Kk:cZ K mg "is_whole" vh)
  (HZ:cZ K mg "is_errand" ou)
  (No:cZ K mg "is_book" qj)
  (Np:cZ K mg "is_want" xZ)
  (CV:cZ K mg "check_state" pc)
  (FH:cZ K mg "check_want" rn)
  (zz:cZ K mg "errand_called" mh)
  (Nq:cZ K mg "checked" y4)
  (CW:cZ K mg "check_place" pd)
  (H_:cZ K mg "check_aim" sZ)
  (Z0:cZ K mg "can" QO)
  (WZ:cZ K mg "done" JZ)
  (Rc:cZ K mg "is_met" Bo)
  (Nr:cZ K mg "reached" y8)
  (Re:cZ K mg "within" Bp)
  (Kl:cZ K mg "shortest" vm)
  (Z1:cZ K mg "far" QS)
  (zA:cZ K mg "shortest_rows" mj)
  (B_:cZ K mg "check_served" nC)
  (Nt:cZ K mg "must_do" yd)
  (I0:cZ K mg "must_hold" s_)
  (W_:cZ K mg "idle" K5)
  (U8:cZ K mg "worth" Fj)
  (C0:cZ K mg "best_reached" nE)
  (Ia:cZ K mg "best_gain" t4)
  (Km:cZ K mg "best_row" vn)
  (Rf:cZ K mg "layers" Bu)
  (X1:cZ K mg "hint" K8)
  (Rg:cZ K mg "is_row" wU)
  (FI:cZ K mg "errands_of" mL)
  (U9:cZ K mg "leads" Fq)
  (Rh:cZ K mg "serves" Bx)
  (Ua:cZ K mg "asked" Ft)
  (Ub:cZ K mg "price" zZ)
  (Nu:cZ K mg "trimmed" ye)
  (yq:cZ K mg "wants_of_rests" le)
  (Ri:cZ K mg "mended" Bz)
  (Uc:cZ K mg "apart" Fv)
  (CY:cZ K mg "keeps_apart" pi)
  (CZ:cZ K mg "least_price" pp)
  (Kn:cZ K mg "cheapest" vp)
  (C_:cZ K mg "price_paper" pq)
  (Ko:cZ K mg "shown_by" vq)
  (Rj:cZ K mg "beside" BG)
  (Rk:cZ K mg "rounds" BH)
  (Nv:cZ K mg "text_of" yh)
  (Ud:cZ K mg "shown" Fy)
  (X2:cZ K mg "seen" Kf)
  (D0:cZ K mg "with_errand" pA)
  (yr:cZ K mg "without_errand" li)
  (Ib:cZ K mg "back_book" tj)
  (D1:cZ K mg "_law_cell_at" pB)
  (Ic:cZ K mg "_law_mixed" tm)
  (Kp:cZ K mg "_law_word" vt)
  (Ie:cZ K mg "_law_facts" tu)
  (Kq:cZ K mg "_law_some" rE)
  (Kr:cZ K mg "_law_thin" ll)
  (FJ:cZ K mg "_law_errand" mM)
  (Ks:cZ K mg "_law_book" rG)
  (Kt:cZ K mg "_law_want" vy)
  (Ku:cZ K mg "_law_case" vz)
  (yt:cZ K mg "_law_bad_errand" lm)
  (C1:cZ K mg "_law_bad_book" kE)
  (zB:cZ K mg "_law_bad_state" ml)
  (C2:cZ K mg "_law_bad_want" nG)
  (D2:cZ K mg "_law_bad_row" lN)
  (xk:cZ K mg "_law_bad_book_to" kF)
  (vJ:cZ K mg "_law_bad_state_to" jM)
  (xl:cZ K mg "_law_bad_want_to" kH)
  (yu:cZ K mg "_law_bad_row_to" lv)
  (D3:cZ K mg "_law_refusal" pF)
  (l0:gj K bF "law"=some (some (.ref A)))
  (l1:K.lookup A=some ⟨oc,od,.func (eR "law" "law" (lD yS) (i3 yS) (ar yS) .none kV dc pm an cv ct),sl⟩)
  (l2:k7 K cv "law"=true)
  (l3:eE K (.ref A)=true)
  : ∃ fd:dE,(∀ (s:ah) (v:ae),yv s fd ⟨[v],[]⟩ [("_law_script",v)])/\∀ base:br,K.In base->base.Ns bF mg->uj l.prog w K mg base (kg l.prog w) 13 fa fd ["_law_script"] (Y8 K F_law):=by
 have q:=hfa.symm.trans (jo X G l0)
 cases q
 refine ⟨eR "law" "law" (lD yS) (i3 yS) (ar yS) .none kV dc pm an cv ct,fun s v=>.of_eq rfl,fun base X G=>?_⟩
 let e:En:=⟨l.prog,w,K,mg,base,Y9 [("NoBook",lY),("NoState",jV),("NoWant",lZ),("NoErrand",lz),("NoRow",oC),("NoWay",uc),("NoPaper",mU),("NoFacts",mV),("NoNumber",lA),("Nothing",mW),("NoText",qx),("PlanError",jW)]⟩
 have B:Bi e.mg:=Yt X G Zz
 have x_:ER e "NoState":=DX.er X G rfl
 have Bj:ER e "NoWant":=HV.er X G rfl
 have Bk:ER e "NoBook":=HW.er X G rfl
 have u9:MH "NoRow" (e.cls "NoRow") e.mg e.base:=FF.own X G
 obtain ⟨fw,fdw,Fw,mw⟩:=HX.ex
 have W:Wh e.P e.w e.K e.mg e.base e.cls "_law_which" Hq Td:=by
  refine ⟨⟨_,_,_,CC (e:=e) Fw B (Yu X G Zz) (Yv X G Ws rfl),mw,Fw.kp,b1 Fw⟩,jo X G oE.ns,?_,fun y j h=>?_⟩
  ·obtain ⟨bm,o,_⟩:=(Jj X G oE.ns oE.ex oE.mb).2
   exact ⟨bm,o⟩
  unfold Td at h
  by_cases hy:y="NoState"
  ·subst hy
   simp at h
   subst h
   exact Q1 X G DX w_NoState Ws rfl rfl rfl rfl rfl (by decide) (by decide)
  rw [if_neg hy] at h
  by_cases hy:y="NoWant"
  ·subst hy
   simp at h
   subst h
   exact Q1 X G HV w_NoWant Ws rfl rfl rfl rfl rfl (by decide) (by decide)
  rw [if_neg hy] at h
  by_cases hy:y="NoBook"
  ·subst hy
   simp at h
   subst h
   exact Q1 X G HW w_NoBook Ws rfl rfl rfl rfl rfl (by decide) (by decide)
  rw [if_neg hy] at h
  by_cases hy:y="NoRow"
  ·subst hy
   simp at h
   subst h
   exact Lm FF.mb (FF.ox X) w_NoRow Ws rfl rfl rfl rfl rfl (by decide) (by decide)
  rw [if_neg hy] at h
  cases h
 have i7:=CF (e:=e) FG B
 have mS:=JQ (e:=e) Nm B ny
 have eP:=uu (e:=e) vI B mS
 have fz:=Fc (e:=e) HY B eP
 have vi:=Ht (e:=e) Kk B
 have sY:=Fd (e:=e) HZ B mS vi fz i7 rl
 have y7:=JU (e:=e) No B eP sY rm nz
 have y0:=JV (e:=e) Np B fz i7
 have pf:=Bh (e:=e) CV fz x_
 have jd:=CI (e:=e) FH y0 Bj
 have g6:=y3 (e:=e) zz B
 have bM:=JY (e:=e) Nq y7 Bk
 have aX:=Bm (e:=e) CW bM pf
 have bu:=Fg (e:=e) H_ aX jd
 have BX:=WS (e:=e) Z0 aX
 have yo:=TX (e:=e) WZ aX
 have kG:=N5 (e:=e) Rc bu
 have mT:=K1 (e:=e) Nr aX
 have qv:=N8 (e:=e) Re aX
 have fi:=Hw (e:=e) Kl bu
 have xg:=WU (e:=e) Z1 fi
 have dX:=yc (e:=e) zA bu
 have gZ:=zt (e:=e) B_ bu
 have jf:=K4 (e:=e) Nt gZ
 have gx:=Fi (e:=e) I0 gZ
 have yn:=TZ (e:=e) W_ aX
 have Fo:=QV (e:=e) U8
 have g_:=zv (e:=e) C0 aX
 have jU:=Fm (e:=e) Ia g_ Fo
 have lu:=HA (e:=e) Km g_
 have qu:=Nb (e:=e) Rf aX
 have rJ:=U1 (e:=e) X1 bu
 have Bw:=Nd (e:=e) Rg B g6 ph
 have b_:=CL (e:=e) FI Bw g6 u9
 have mP:=QX (e:=e) U9 aX b_
 have fL:=Nf (e:=e) Rh bu b_
 have mO:=QZ (e:=e) Ua B bM jd b_
 have ua:=R1 (e:=e) Ub B bM b_
 have gf:=Ka (e:=e) Nu fL u9
 have lf:=wX (e:=e) yq
 have iq:=Nh (e:=e) Ri bu b_ lf
 have ub:=R6 (e:=e) Uc aX
 have iy:=BB (e:=e) CY aX
 have eX:=BD (e:=e) CZ bu
 have ia:=HF (e:=e) Kn bu
 have eW:=BF (e:=e) C_ bu
 have ib:=HH (e:=e) Ko bu
 have BY:=Nj (e:=e) Rj bM
 have qt:=Nk (e:=e) Rk bM b_
 have yi:=Ke (e:=e) Nv
 have FE:=Ra (e:=e) Ud bM yi
 have Kj:=U7 (e:=e) X2 bM
 have pE:=BK (e:=e) D0 bM
 have ls:=wZ (e:=e) yr bM
 have tJ:=FA (e:=e) Ib bM
 have pC:=BM (e:=e) D1 B
 have aD:=FC (e:=e) Ic pC
 have lj:=HL (e:=e) Kp B aD
 have tw:=FD (e:=e) Ie B lj aD
 have vB:=HP (e:=e) Kq B aD
 have vw:=HQ (e:=e) Kr B aD
 have rH:=CT (e:=e) FJ B aD vw
 have vA:=HR (e:=e) Ks B tw lj rH aD
 have vC:=HS (e:=e) Kt B aD
 have vH:=HU (e:=e) Ku vA aD vB vC
 have lr:=xb (e:=e) yt B aD
 have nM:=zw (e:=e) C1 B lr aD
 have gd:=ym (e:=e) zB B aD
 have nL:=zy (e:=e) C2 B gd aD
 have pG:=BW (e:=e) D2 B aD
 have kJ:=vD (e:=e) xk tJ FE bM BX ls pE Kj qt ua yn qu ub mT eW ia eX dX xg fi qv mO mP kG yo iy gx jf rJ BY lu jU iq gf ib fL
 have jN:=uv (e:=e) vJ yn qu ub mT BX rJ eW ia eX dX xg fi qv mP kG yo iy gx jf lu jU iq gf ib fL
 have kK:=vF (e:=e) xl gx jf rJ eW ia eX dX xg fi kG mO iq gf ib fL
 have lw:=xj (e:=e) yu qt ua mP mO iq gf fL
 have pH:=BZ (e:=e) D3 kJ jN kK lw W
 exact (WY (e:=e) (Oo l1 l2 l3) B vH aD nL gd nM pG pH).imp Wd
end
end Z
section
open PySem PySem.W PyProof.Rows
def PySem.W.Fast.tw13263487488815641462:Nat:=0
def PySem.W.Fast.tw2281458142855472900:Nat:=0
def PySem.W.Fast.tw1694774617800481428:Nat:=0
def PySem.W.Fast.tw11620218305776376937:Nat:=0
def PySem.W.Fast.tw206652698542691094:Nat:=0
def PySem.W.Fast.tw6437147292171826708:Nat:=0
def PySem.W.Fast.tw10344372268461288173:Nat:=0
def PySem.W.Fast.tw16698810295008757017:Nat:=0
def PySem.W.Fast.tw446952922777142359:Nat:=0
def PySem.W.Fast.tw2055297354678669555:Nat:=0
def PySem.W.Fast.tw6727640864037769411:Nat:=0
def PySem.W.Fast.tw6989002989293033509:Nat:=0
def PySem.W.Fast.tw5456941096032587310:Nat:=0
def PySem.W.Fast.tw12150154721651758224:Nat:=0
def PySem.W.Fast.tw12945099799076171430:Nat:=0
def PySem.W.Fast.tw8045186380601138038:Nat:=0
def PySem.W.Fast.tw14371799446261211611:Nat:=0
def PySem.W.Fast.tw315993803949036830:Nat:=0
def PySem.W.Fast.tw14871051260427976500:Nat:=0
def PySem.W.Fast.tw7482753140000414764:Nat:=0
def PySem.W.Fast.tw16092213865155538005:Nat:=0
def PySem.W.Fast.tw5637362184629849794:Nat:=0
def PySem.W.Fast.tw9999522586383623158:Nat:=0
def PySem.W.Fast.tw12067679844325488355:Nat:=0
def PySem.W.Fast.tw6760645252750545725:Nat:=0
def PySem.W.Fast.tw2964942215694518631:Nat:=0
def PySem.W.Fast.tw15749059067227031638:Nat:=0
def PySem.W.Fast.tw17451790961191700872:Nat:=0
def PySem.W.Fast.tw1846492082539704153:Nat:=0
def PySem.W.Fast.tw423895141386846257:Nat:=0
def PySem.W.Fast.tw6366830426229511531:Nat:=0
def PySem.W.Fast.tw5341816739719215062:Nat:=0
def PySem.W.Fast.tw16006208893503804758:Nat:=0
def PySem.W.Fast.tw2957707865870665357:Nat:=0
def PySem.W.Fast.tw17089006157691846735:Nat:=0
def PySem.W.Fast.tw8072938542586505600:Nat:=0
def PySem.W.Fast.tw3302545763799460560:Nat:=0
def PySem.W.Fast.tw444794055958347028:Nat:=0
def PySem.W.Fast.tw11493030772023174187:Nat:=0
def PySem.W.Fast.tw5992795172886801358:Nat:=0
def PySem.W.Fast.tw16555157261892407384:Nat:=0
def PySem.W.Fast.tw17236933817047607946:Nat:=0
def PySem.W.Fast.tw7431285272558276543:Nat:=0
def PySem.W.Fast.tw14211591600069205558:Nat:=0
def PySem.W.Fast.tw3124607678736877600:Nat:=0
def PySem.W.Fast.tw8028231933483174450:Nat:=0
def PySem.W.Fast.tw4855495933477064972:Nat:=0
def PySem.W.Fast.tw2337277592697554189:Nat:=0
def PySem.W.Fast.tw7821329314733963189:Nat:=0
def PySem.W.Fast.tw821780893895616039:Nat:=0
def PySem.W.Fast.tw14630597567757107290:Nat:=0
def PySem.W.Fast.tw17842053295557722133:Nat:=0
def PySem.W.Fast.tw9437469743987494025:Nat:=0
def PySem.W.Fast.tw8747820487723130984:Nat:=0
def PySem.W.Fast.tw1446576249252504020:Nat:=0
def PySem.W.Fast.tw6373786141799885233:Nat:=0
def PySem.W.Fast.tw12765365491148116979:Nat:=0
def PySem.W.Fast.tw6889903204419853156:Nat:=0
def PySem.W.Fast.tw2528394640939881015:Nat:=0
def PySem.W.Fast.tw10776488360886994472:Nat:=0
def PySem.W.Fast.tw3060166380021398733:Nat:=0
def PySem.W.Fast.tw6467027699559585935:Nat:=0
def PySem.W.Fast.tw4592328133661756564:Nat:=0
def PySem.W.Fast.tw3367771845018514321:Nat:=0
def PySem.W.Fast.tw6900134572602392573:Nat:=0
def PySem.W.Fast.tw5660953321339196328:Nat:=0
def PySem.W.Fast.tw15741766902145528079:Nat:=0
def PySem.W.Fast.tw1144182326445237103:Nat:=0
def PySem.W.Fast.tw883381967523707005:Nat:=0
def PySem.W.Fast.tw4865573383629263062:Nat:=0
def PySem.W.Fast.tw17711486670508706066:Nat:=0
def PySem.W.Fast.tw9061491274173881324:Nat:=0
def PySem.W.Fast.tw4353520635195268774:Nat:=0
def PySem.W.Fast.tw702250404531572821:Nat:=0
def PySem.W.Fast.tw9574838388751748065:Nat:=0
def PySem.W.Fast.tw14701793749016935637:Nat:=0
def PySem.W.Fast.tw11422907650863836975:Nat:=0
def PySem.W.Fast.tw11987982394362747185:Nat:=0
def PySem.W.Fast.tw1630320897459041014:Nat:=0
def PySem.W.Fast.tw3540741985654490348:Nat:=0
def PySem.W.Fast.tw519162506540359087:Nat:=0
def PySem.W.Fast.tw10965270731461440666:Nat:=0
def PySem.W.Fast.tw6551421236020066569:Nat:=0
def PySem.W.Fast.tw12652420797717814363:Nat:=0
def PySem.W.Fast.tw9924939326572640937:Nat:=0
def PySem.W.Fast.tw601408869296650628:Nat:=0
def PySem.W.Fast.tw7947391211151654266:Nat:=0
def PySem.W.Fast.tw7092871360293629871:Nat:=0
def PySem.W.Fast.tw15026083750740575778:Nat:=0
def PySem.W.Fast.tw9844853891586212965:Nat:=0
def PySem.W.Fast.tw5481413242969196489:Nat:=0
def PySem.W.Fast.tw13781522594850161944:Nat:=0
def PySem.W.Fast.tw14581970273076410497:Nat:=0
def PySem.W.Fast.tw8037641486384534969:Nat:=0
def PySem.W.Fast.tw9398789591976752685:Nat:=0
def PySem.W.Fast.tw6759736276152050619:Nat:=0
def PySem.W.Fast.tw7018625644891503615:Nat:=0
def PySem.W.Fast.tw6528009372504262205:Nat:=0
def PySem.W.Fast.tw17823252159218427727:Nat:=0
def PySem.W.Fast.tw17675743753530803350:Nat:=0
def PySem.W.Fast.tw1700649933125774043:Nat:=0
def PySem.W.Fast.tw343555579375336085:Nat:=0
def PySem.W.Fast.tw6482825533861374327:Nat:=0
def PySem.W.Fast.tw5965448444828106414:Nat:=0
def PySem.W.Fast.tw13189535063771433675:Nat:=0
def PySem.W.Fast.tw12135920023401477870:Nat:=0
def PySem.W.Fast.tw4274535449310457738:Nat:=0
def PySem.W.Fast.tw15745039691538229111:Nat:=0
def PySem.W.Fast.tw18387350405353097132:Nat:=0
theorem PySem.Challenge.cw_errands_k39_refused_holds : PySem.Challenge.rw_errands_k39_refused.Holds := by
 w_on;o_law;k_head;(case hw=>w_witness2)
 k_fill
 refine J.walkF (l:=PySem.Challenge.rw_errands_k39_refused) (k:=13) (x:="_law_script") (F0:=Z.F_law) rfl rfl ⟨rfl,by decide,by decide⟩ (fun w h Y=>PySem.W.km_in_of Y) ?F (fun ns _=>Z.law_true ns)
 case F =>
  intro w mg fa h KX G hmg
  refine' Z.all_mk KX G hmg ?_ ?_ ?_ ?_ ?_ ?_ ?_ ?_ ?_ ?_ ?_ ?_ ?_ ?_ ?_ ?_ ?_ ?_ ?_ ?_ ?_ ?_ ?_ ?_ ?_ ?_ ?_ ?_ ?_ ?_ ?_ ?_ ?_ ?_ ?_ ?_ ?_ ?_ ?_ ?_ ?_ ?_ ?_ ?_ ?_ ?_ ?_ ?_ ?_ ?_ ?_ ?_ ?_ ?_ ?_ ?_ ?_ ?_ ?_ ?_ ?_ ?_ ?_ ?_ ?_ ?_ ?_ ?_ ?_ ?_ ?_ ?_ ?_ ?_ ?_ ?_ ?_ ?_ ?_ ?_ ?_ ?_ ?_ ?_ ?_ ?_ ?_ ?_ ?_ ?_ ?_ ?_ ?_ ?_ ?_ ?_
  all_goals first
   | (refine' J.d_in KX G ?_ ?_ ?_ ?_<;>try k_is)
   | (refine' J.cn_in KX G ?_<;>try k_is)
   | k_is
   | (refine' J.TopC.mk ?_ ?_ ?_<;>try (first | k_is | k_exc))
   | (refine' J.topN ?_ ?_ ?_ ?_ ?_ ?_ ?_ ?_ ?_ ?_ ?_ ?_ ?_ ?_ ?_ ?_ ?_ ?_ ?_ ?_ ?_ ?_ ?_<;>try (first | k_is | rfl | exact fun _ _=>⟨_,rfl,rfl⟩ | decide +kernel))
   | ((refine' J.Wy.mk ?_ ?_ ?_ ?_ ?_ ?_ ?_ ?_ ?_ ?_)<;>try (first | k_is | decide | ((repeat' (first | exact .nil | refine' .cons ?_ ?_ ?_))<;>try (first | k_is | decide))))
   | ((repeat' (first | exact .nil | refine' .cons ?_ ?_))<;>try (first | (refine' J.cw_in ?_ ?_ ?_<;>try k_is) | k_is))
   | skip
end
