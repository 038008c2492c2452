import PyProof.Rows.All
import Wide.All
import OpenK.AllK
import Wide.FinOn
import Lean
import PyProof.EqAt
import PyProof.EqKinds
import PyProof.TupleCall
import KE.KDictOf
import PyProof.AttrMissHeap
import KE.KRevIter
import PyProof.DictWalks
import PyProof.MinMaxWalk
import PyProof.SeqI3
import PyProof.WalkInts
import PySem.Challenge.RW_errands_k17_whole_must_do
set_option Elab.async false
set_option linter.all false
set_option maxRecDepth 100000
set_option maxHeartbeats 0
open PySem renaming wpAny_bind->a7,Value->a9,wpAny_pure->ac,Shared->af,Addr->ah,wpAny->aq,starEach->az,model->aF,Program->aI,Expr->b9,World->bc,Around->bg,Heap->br,wpAny_setState_of->bA,wpAny_mono->bC,compareOp->bG,mainGlobals->bN,wpAny_newObj_type->bU,wpAny_call_entry->bZ,boot_len->b_,rawInt->cf,wpAny_callSpecial?_slot->cm,wpAny_holding->cp,Stmt->cr,eval->dz,FuncData->dE,wpAny_truthy_bool->dJ,wpAny_field->dL,wpAny_of_eq->e7,foldedSetIterable->eg,SetTable->ej,wpAny_seqItems->el,Scope->eT,mem_of_lookup->fe,fits_of_scanBound->fE,codeAny_builtin->fF,backTo->fO,sysModules->fW,wpAny_rule->fX,wpAny_pyIter_tuple->fY,binaryOp->fZ,wpAny_setField->f_,letOwnedTupleGo->gE,behindInMarks->gM,codeAny->gW,swapsWith->gZ,wpAny_askSetting->g_,setField->hG,wpAny_isInstance->hJ,strIterType->i3,wpAny_typeNameOfWhole_keyiter->i5,bootBuiltins->i7,assignEach->i8,Builtin->ia,wpAny_setField_rec->ic,wpAny_passesOwn->ir,wpAny_standAt->iF,scanBound->iH,wpAny_attempt->iI,wpAny_pyIter_list->iM,wpAny_storeSet_of->iN,pyNext->jr,wpAny_Call_Name_kw->jN,IsPair->jP,cLine->k7,wpAny_typeOf->kJ,firstArgMember->kL,plainId_quiet->md,sliceBounds->ml,wpAny_execs_nil->ng,codeAny_mono->nP,pickOrder->oh,tupleKind_room_in1->oy,getItem->q8,wpAny_pyIter_enum->qc,assign->qh,wpAny_comprehension_free->qj,PyData->ql,tupleKind->rZ,NameKind->r_,raiseNew->s9,newExc->sS,builtinLookup_eq_fast->uj,isTrue->vm,Result->vn,IsPart->vo,relayAll->vq,codeAny_call_builtin->vt,isSubtype_stop->vv,IsZip->vw,wpAny_updateSeq_pair->vx,standAt->wj,callerA->wk,CmpOp->xb,swapsWithSole->xc,swappedStores->xg,wpAny_onRaise->xk,pyIter->xC,wpAny_call->xE,typeLookup->xF,call_meets->xG,BindsTo->zN,Keyword->zO,concat_meets->zP,valueAt->zQ,wpAny_pyIter_slot->zS,wpAny_dictEntries->zX,cellsFrom->BC,noFill_tuple_add->BD,DictEntry->BE,noteFrame->BF,sizeLine_eq->De,subscripted->Df,codeAny_of_tree->Dm,typeLookup_type->Dn,wpAny_dictEpoch->Dp,holding->Fv,Paired->FG,Model->FJ,bindName->FK,recursionLimit->FM,bindL->FO,bindC->FP,wpAny_newFunctionEnv_cells->FR,stored->FU,atKey->FV,entryFor->FX,entryFor_alias->FY,isSubtype_type->FZ,isInstance->F_,wpAny_fieldsOf->G0,field->G1,wpAny_letOwnedTupleGo_enum->G3,assignInOrder->Jn,seq_tuple_add->Jp,attributeBase->Js,call->Jt,wpAny_handled->Jv,lastMarks->L8,Walks->La,sub_set_self->Lp,setNext->Lq,wpAny_isTrue_Compare1->OL,codeAny_call_function->OM,wpAny_notOrdered_dict->OT,wpAny_isOneOf_keyiter->OU,keywordEach->OY,wpAny_newFunctionEnv->O_,unsupported->P2,newTuple->P3,wpAny_throw->P4,ZipApart->P5,wpAny_letGo->P7,getAttr?->P9
open PySem.W renaming Frag->a8,kia_one->cB,kitOne->dA,keepIn->dW,mroIn->eB,fnOf->eE,findIn->gz,nsIn->gN,clsIn->gX,codeIn->js,mg_of->k9,subIn->ni,cellsFrom_some->oq,looks_findIn->qm,callWith_K->sR,methodObj->uc,specialIn->ud,kitx_list->ue,instObj->wI,takesIn->wK,OpenLaw->wL,lookIn->xD,typeIn->xI,excIn->zW,hideAll_get->Ft,of_hideAll->FI,kitx_tuple->FL,codeRec_of->FQ,mg_none_of->G9,kitx_dict->HK,plainGet->Jo,hideAll->L7,kitCls->Ls,WalkO->ON,Looks->OP
open PySem.Heap renaming get?_push_of_some->ag,lt_size->ao,get?_push_size->ay,SameBut->bD,size_push->db,get?_update_self->fQ,get?_update_other->q9,IsTuple->FC,ExtBut->HM
open List renaming getElem?_set_ne->ak,length_map->al,mem_cons_of_mem->am,mem_cons_self->ap,map_cons->aG,getElem?_set_self->aH,size_toArray->aJ,mem_append_right->aM,getElem?_map->aN,length_append->aO,getElem?_eq_getElem->aQ,not_mem_nil->aU,length_cons->aX,map_append->ba,mem_cons->bf,getElem?_append_right->bn,mem_map_of_mem->bt,getElem?_append_left->bv,range->bw,mem_append_left->bP,length_nil->bQ,getElem?_replicate->bR,append_nil->bT,find?_cons->c9,all_eq_true->cq,getElem?_eq_none->cD,map_map->cF,mem_of_getElem?->cM,lookup_cons->cR,length_replicate->cU,length_singleton->cV,length_filter_le->cX,getD_eq_getElem?_getD->de,foldl_cons->dM,mem_singleton->dQ,any_cons->e6,map_nil->eQ,length_range->f9,getElem_of_mem->fm,nodup_nil->gG,getElem_mem->gH,any_eq_true->gI,append_assoc->ib,sublist_append_left->j4,forIn_cons->jj,nil_append->jm,getElem?_cons_succ->jt,all_map->mf,replicate->mq,filterMap_map->mr,perm_ext_iff_of_nodup->mC,map->mD,getElem_map->pP,any_map->qe,of_mem_zip->qi,length->sx,forIn_nil->sy,foldl_map->sB,filterMap_cons->u6,map_congr_left->ua,filter_sublist->ub,all_cons->uh,contains_cons->vh,set_cons_zero->vi,set_cons_succ->vj,length_filterMap_eq_countP->wO,length_take->xh,length_drop->xi,ext_getElem->xj,lookup->xH,mem_append->zK,length_eraseIdx_of_lt->AB,drop_eq_getElem_cons->BG,length_erase_of_mem->Dj,getElem?_cons_zero->Do,filter_cons_of_pos->Dq,drop_of_length_le->FA,length_pos_of_mem->FF,mem_erase_of_ne->HQ,getElem?_range->Jw,replicate_succ->Jz,replicate_zero->JA,map_inj_right->Ld,getElem_range->Le,any_eq_false->Ll,nodup_append->Lo,isEmpty_cons->Lx,zipIdx_cons->OO,cons_append->OV,zipIdx_nil->P6,mem_filter->Pi
open Array renaming length_toList->ar,getElem?_toList->dC,getD_eq_getD_getElem?->i4,getElem?_eq_getElem->iO,eq_empty_of_size_eq_zero->kj,size_map->sd,replicate->xJ,toArray_toList->G4,append_assoc->Jm,forIn_toList->Jy,toList_push->L9
open Nat renaming le_refl->au,ne_of_lt->aB,lt_of_lt_of_le->aK,le_trans->bE,le_of_lt->bL,lt_irrefl->cj,zero_le->cW,lt_succ_self->dU,ne_of_gt->eU,lt_succ_of_lt->fc,le_succ->iK,min_le_right->pW,not_lt_zero->q_,lt_of_le_of_lt->vp,le_of_lt_succ->wM,add_zero->wN,mod_lt->BH,lt_trans->FW,zero_add->G5,mul_comm->G6,succ_pos->G7,lt_of_succ_lt_succ->G8,add_lt_add_right->Jx,lt_of_lt_of_eq->Lw,lt_succ_of_le->OS,le_of_not_lt->OZ,le_add_right->P8,reduceLeDiff->Pg,reduceEqDiff->Ph
open PySem.PyData renaming str->aP,eqv->aZ,canLayAll0->c8,int->ck,tuple->cC,bool->cH,eqvAll->dD,canLay0->eS,list->fB,depthAll->pY,depth->vk,dict->FE
open Bool renaming false_ne_true->aS,and_eq_true->aW,false_eq_true->bY,eq_iff_iff->ef,and_self->j3,or_eq_true->jl,not_false->jM,noConfusion->kH,and_false->mx,true_and->om,not_true->oo,beq_eq_decide_eq->qZ,not_eq_true'->wo,false_and->Az,false_or->Dg,or_eq_false_iff->HP
open PyProof.Rows renaming boot_tuple->bd,boot_all->cx,callWith_type1->eW,slot_tuple_getitem->fP,envOfC->iU,boot_isinstance->jL,boot_list->mE,boot_any->nO,AllBare->q0,StrsAre->sV,isBoolOf->vy,boot_sorted->wn,assignInOrder_cons->xB,boot_int->xK,IsTup->FH,subscriptTail->Jq,subscriptTail_builtinR->Lm,IntsAre->Ln
open PySem.Heap.SameBut renaming update->bI
open Option.some renaming inj->bJ,injEq->Di
open PySem.Value renaming ref->bK,none->dN,bool->ip,type->iq,str->jp,int->m9,isStrOf->u5
open PySem.NameKind renaming free->cu,cell->fg
open PySem.SetTable renaming sizeAbove->cw,grown->h_,below->i0,fits->my,bits->mB,turns->qd,layClean->u7,laid->zJ,orStandIn->Fz,relaid->Ju,fill->Lu,road->Lv
open PySem.Builtin.SmallTypes renaming nextOf->cA,ownedTupleIsFree->eF,ownedTupleHandOut->mz
open Ne renaming symm->cZ
open Option renaming map_some->da,getD_none->gF,getD_some->k8,bind_some->oj,isSome_map->vg,isSome_some->HL
open PySem.SetTable.layClean renaming free->dG
open Or renaming inr->d_,inl->gx
open PySem.Obj renaming mapFields->ed,mapSeq->kK,putSet->qk,data_mapFields->Lr
open False renaming elim->eC
open List.Sublist renaming refl->eG
open PySem.Around renaming under_plainId->eR
open PySem.F renaming plainAttrs_list->eX,slot_dict_keyiterator_next->fG,slot_tuple_iterator_next->iP,args_tuple_add_2->nh,entry_tuple_add->nQ,slot_tuple_add->ou,args_dict_keyiterator_next_1->sf,slot_zip_next->sA,entry_dict_keyiterator_next->sC,slot_list_append->zU,type_list_append->zV,slot_list_extend->zY,type_list_extend->zZ,slot_list_count->AD,slot_list_index->AE,args_tuple_iterator_next_1->BI,slot_dict_iter->BJ,entry_tuple_iterator_next->Dh,slot_enumerate_next->Lc
open PySem.Heap.FunFrames renaming mem->f6
open Int renaming toNat_of_nonneg->fA,toNat_natCast->jO,emod_lt_of_pos->nj,eq_ofNat_of_zero_le->pX,emod_nonneg->r6,reduceLT->Ga
open ForInStep renaming yield->fN
open PySem.AutoSeq1 renaming wpAny_loadPart'->fS
open PySem.Str renaming ofString->gy
open PySem.Builtin.Slice renaming slicePlaces->hU,sliceAdjust->kI,sliceApplied->uf
open PyProof.Rows.F renaming plain_set_update_loop->hV,entry_set_update_loop->og
open PySem.Builtin.Tuple renaming tupleExact->i9,tupleItemsOf->ug
open True renaming intro->iG
open PySem.Paired renaming length->iT
open PySem.Builtin.Frozenset renaming updateFrom->jk,isAnySet->se,sizeOf->sU,copyOf->sW,newClass->P0,oneOther->Pa,addrOf->Pb,slot1->Pc,baseOf->Pd,merge->Pe,unchanged->Pf
open Sum renaming inr->kO,inl->wH
open PySem.Builtin.List renaming listTooLong->lv,listExtendWith->uk,listSameRef->wl
open PySem.Builtin.Dict_items renaming ownsTuple->lw
open PySem.Calls renaming Name_function_global->mj,call_function_entry->AC,loadGlobal_global->Dd,evalArgs_plain->FS
open And renaming intro->u9
open PySem.Walks renaming list->ui
open PySem.PassesOwn renaming never->vz
open PyProof.Rows.IsTup renaming new->wJ
open PySem.Builtin.Dict renaming updateFrom->wP
open Classical renaming byContradiction->xl,propDecidable->zL
open PySem.pickOrder renaming go->zR
open PySem.SetTable.below renaming go->zT
open PySem.SeqAt.EqAt renaming bool_bool->AA,int_str->Db,str_int->Dc
open PySem.Heap.DictOf renaming new->Fx
open PySem.Shared renaming heap->FD,TypeIs->P1
open PySem.Value.type renaming inj->HN
open PySem.SeqAt renaming EqAt->Jr
open PySem.Code renaming quiet_builtin->Lb
open PySem.Builtin.ObjectAttr renaming attrName->OQ,find->OR
section
namespace L2
open PySem PySem.Spec PyProof.Rows
abbrev cO:=Sum Int Str
def xL:cO->a9->Bool
 | .inl k,v=>Value.isInt k v
 | .inr x,v=>u5 x v
def Wd (w:bc):cO->Int
 | .inl k=>hashInt k
 | .inr x=>hashStr w x
theorem fo:∀ {k:cO}{v:a9},xL k v=true->(∃ i t,k=wH i/\v=m9 i t)\/(∃ x t,k=kO x/\v=jp x t)
 | .inl i,v,h=>by
  obtain ⟨t,e⟩:=Value.isInt_shape (k:=i) (v:=v) h
  exact .inl ⟨i,t,rfl,e⟩
 | .inr x,v,h=>by
  obtain ⟨t,e⟩:=Value.isStrOf_shape (x:=x) (v:=v) h
  exact .inr ⟨x,t,rfl,e⟩
theorem JC (i:Int) (t:Tok):xL (.inl i) (.int i t)=true:=by simp [xL,Value.isInt]
theorem JD (x:Str) (t:Tok):xL (.inr x) (.str x t)=true:=by simp [xL,u5]
theorem Sk (a b:Int):decide ((wH a:cO)=wH b)=(a == b):=by
 by_cases e:a=b
 ·subst e;simp
 ·have h:¬ (wH a:cO)=wH b:=fun q=>e (Sum.inl.inj q)
  rw [decide_eq_false h]
  exact (beq_eq_false_iff_ne.mpr e).symm
theorem Sm (a b:Str):decide ((kO a:cO)=kO b)=decide (a=b):=by
 by_cases e:a=b
 ·subst e;simp
 ·have h:¬ (kO a:cO)=kO b:=fun q=>e (Sum.inr.inj q)
  rw [decide_eq_false h,decide_eq_false e]
theorem Sn (a:Int) (b:Str):decide ((wH a:cO)=kO b)=false:=decide_eq_false (fun q=>nomatch q)
theorem So (a:Str) (b:Int):decide ((kO a:cO)=wH b)=false:=decide_eq_false (fun q=>nomatch q)
def dh (prog:aI) (w:bc):PySem.KeyKind prog w cO where
 is:=xL
 hash:=Wd w
 inj:=fun v a b ha hb=>by
  rcases fo ha with ⟨i,t,rfl,rfl⟩ | ⟨x,t,rfl,rfl⟩
  ·rcases fo hb with ⟨j,u,rfl,e⟩ | ⟨y,u,rfl,e⟩
   ·injection e with e1 _;rw [e1]
   ·exact nomatch e
  ·rcases fo hb with ⟨j,u,rfl,e⟩ | ⟨y,u,rfl,e⟩
   ·exact nomatch e
   ·injection e with e1 _;rw [e1]
 byValue:=fun k v h=>by
  rcases fo h with ⟨i,t,rfl,rfl⟩ | ⟨x,t,rfl,rfl⟩<;>rfl
 pyHash:=fun hv h=>by
  rcases fo hv with ⟨i,t,rfl,rfl⟩ | ⟨x,t,rfl,rfl⟩
  ·exact wpAny_pyHash_int h
  ·exact wpAny_pyHash_str h
 eqBool:=fun hu hv h=>by
  rcases fo hu with ⟨i,t,rfl,rfl⟩ | ⟨x,t,rfl,rfl⟩
  ·rcases fo hv with ⟨j,u,rfl,rfl⟩ | ⟨y,u,rfl,rfl⟩
   ·rw [Sk] at h;exact wpAny_eqBool_int h
   ·rw [Sn] at h;exact Db i t y u _ _ _ _ h
  ·rcases fo hv with ⟨j,u,rfl,rfl⟩ | ⟨y,u,rfl,rfl⟩
   ·rw [So] at h;exact Dc x t j u _ _ _ _ h
   ·rw [Sm] at h;exact wpAny_eqBool_str h
 «strs»:=fun k x t v h=>by
  rcases fo h with ⟨i,u,rfl,e⟩ | ⟨y,u,rfl,e⟩
  ·exact nomatch e
  ·injection e with e1 _
   subst e1
   cases v<;>rfl
theorem Dr (prog:aI) (w:bc) (i:Int) (t:Tok):(dh prog w).is (.inl i) (.int i t)=true:=JC i t
theorem Ds (prog:aI) (w:bc) (x:Str) (t:Tok):(dh prog w).is (.inr x) (.str x t)=true:=JD x t
end L2
namespace L2
open PySem PySem.Spec PyProof.Rows
inductive V where
 | non | bl (b:Bool) | int (i:Int) | str (x:Str) | byt (b:Array UInt8) | flt (b:UInt64) | ref (a:ah) | ty (n:String)
 deriving DecidableEq
def dm:V->a9->Prop
 | .non,u=>u=dN
 | .bl b,u=>u=ip b
 | .int i,u=>∃ t,u=m9 i t
 | .str x,u=>∃ t,u=jp x t
 | .byt b,u=>∃ t,u=Value.bytes b t
 | .flt b,u=>∃ t,u=Value.float b t
 | .ref a,u=>u=bK a
 | .ty n,u=>u=iq n
abbrev dn:List V->List a9->Prop:=FG dm
theorem dn.length {xs:List V}{us:List a9} (r:dn xs us):xs.length=us.length:=iT r
theorem dn.get {xs:List V}{us:List a9} (h:dn xs us):∀ {i:Nat}{x:V},xs[i]?=some x->∃ u,us[i]?=some u/\dm x u:=by
 induction h with
 | nil=>intro i x e;cases e
 | cons r t ih =>
  intro i x e
  cases i with
  | zero=>cases e;exact ⟨_,rfl,r⟩
  | succ i=>have q:=ih (i:=i) e;exact q
theorem dn.append {xs ys:List V}{us ws:List a9} (h:dn xs us) (s:dn ys ws):dn (xs++ys) (us++ws):=by
 induction h with
 | nil=>exact s
 | cons r t ih=>exact .cons r ih
theorem dn.take:∀ {xs:List V}{us:List a9} (n:Nat),dn xs us->dn (xs.take n) (us.take n)
 | _,_,0,_=>.nil
 | _,_,_ + 1,.nil=>.nil
 | _,_,n + 1,.cons r t=>.cons r (dn.take n t)
theorem dn.drop:∀ {xs:List V}{us:List a9} (n:Nat),dn xs us->dn (xs.drop n) (us.drop n)
 | _,_,0,r=>r
 | _,_,_ + 1,.nil=>.nil
 | _,_,n + 1,.cons _ t=>dn.drop n t
def xM:Option V->Option a9->Prop
 | some v,some u=>dm v u
 | none,none=>True
 | _,_=>False
def KV {κ:Type}:List (κ×V)->List (κ×a9)->Prop:=FG fun (p:κ×V) (q:κ×a9)=>p.1=q.1/\dm p.2 q.2
def kV:cO->V
 | .inl i=>.int i
 | .inr x=>.str x
inductive HO where
 | lst (xs:List V)
 | tup (xs:List V)
 | dK (kvs:List (cO×V)) | dT (kvs:List (List cO×V))
 | set (S:Int->Bool) (n:Nat)
 | ins (C dx:ah) (fs:List (Str×V))
 | own (x:ah)
 | xd (fs:List (Str×V))
 | met (f x:ah)
 | rng (lo hi:Int)
 | frz (o:Obj) (u:HO)
 | tbl (ps:Array a9)
 | ext (φ:br->Prop)
abbrev Hp:=ah->Option HO
def upd (H:Hp) (a:ah) (o:HO):Hp:=fun b=>if b=a then some o else H b
theorem aV {H:Hp}{a:ah}{o:HO}:upd H a o a=some o:=by unfold upd;rw [if_pos rfl]
theorem aT {H:Hp}{a b:ah}{o:HO} (h:b≠a):upd H a o b=H b:=by unfold upd;rw [if_neg h]
theorem Ly {H:Hp}{a b:ah}{o u:HO} (h:H a=some o) (h':H b=some u) (d:o≠u):a≠b:=by
 intro e;subst e;rw [h] at h';exact d (bJ h')
theorem bi {H:Hp}{a b:ah}{o:HO} (h:H a=some o) (h':H b=none):a≠b:=by
 intro e;subst e;rw [h] at h';cases h'
section
variable (P:aI) (w:bc)
def cY (H:Hp) (h:br) (a:ah):HO->Prop
 | .lst xs=>xs.length<=sizeLine/\∃ (its:List a9) (n:Nat),dn xs its/\h.get? a=some { cls:=.type "list",data:=.seq its.toArray n }
 | .tup xs=>xs.length<=sizeLine/\∃ its:List a9,dn xs its/\FH h a its.toArray
 | .dK kvs=>kvs.length<=sizeLine/\(a == fW)=false/\∃ vs,KV kvs vs/\h.DictOf (dh P w) a vs
 | .dT kvs=>kvs.length<=sizeLine/\(a == fW)=false/\∃ xs:List (List cO×ah×a9),
   FG (fun (p:List cO×V) (q:List cO×ah×a9)=>p.1=q.1/\H q.2.1=some (.tup (p.1.map kV))/\dm p.2 q.2.2) kvs xs /\
   ∃ o es ep,h.get? a=some o/\o.ExactDict/\o.data=.dict es ep/\es.toList=xs.map (entryOfKey (rZ (dh P w)))/\(xs.map (·.1)).Nodup
 | .set S n=>h.SetOf (intKind P w) a S n
 | .ins C dx fs=>H dx=some (.own a)/\fs.length<=1000/\dx≠a/\h.get? a=some (wI C dx) /\
   ∃ mA,h.Ns1 dx mA/\(∀ f,xM (fs.lookup f) (mA f))/\PySem.Within mA (fs.map (·.1))
 | .own _=>∃ o,h.get? a=some o
 | .xd fs=>∃ mA,h.Ns1 a mA/\∀ f,xM (fs.lookup f) (mA f)
 | .rng lo hi=>∃ t u v,h.get? a=some { cls:=.type "range",data:=.fields #[.int lo t,.int hi u,.int 1 v] }
 | .frz o u=>h.get? a=some o/\cY H h a u
 | .tbl ps=>h.get? a=some { cls:=.none,data:=.fields ps }
 | .met f x=>h.get? a=some (uc (.ref f) (.ref x))
 | .ext φ=>φ h/\(∃ o,h.get? a=some o)/\∀ h1 h2:br,φ h1->(∀ o,h1.get? a=some o->h2.get? a=some o)->φ h2
def pQ (H:Hp) (h:br):Prop:=∀ a o,H a=some o->cY P w H h a o
end
section
variable {P:aI}{w:bc}{H H':Hp}{h h':br}{a:ah}{o:HO}
theorem cY.lt (x:cY P w H h a o):a<h.objs.size:=by
 cases o with
 | lst xs=>obtain ⟨_,_,_,_,e⟩:=x;exact ao e
 | tup xs=>obtain ⟨_,_,_,p⟩:=x;exact p.lt
 | dK kvs=>obtain ⟨_,_,_,_,o,_,_,e,_⟩:=x;exact ao e
 | dT kvs=>obtain ⟨_,_,_,_,o,_,_,e,_⟩:=x;exact ao e
 | set S n=>obtain ⟨o,_,_,_,e,_⟩:=x;exact ao e
 | ins C dx fs=>obtain ⟨_,_,_,e,_⟩:=x;exact ao e
 | own y=>obtain ⟨_,e⟩:=x;exact ao e
 | xd fs=>obtain ⟨_,⟨_,_,_,e,_⟩,_⟩:=x;exact ao e
 | rng lo hi=>obtain ⟨_,_,_,e⟩:=x;exact ao e
 | frz ob u=>obtain ⟨e,_⟩:=x;exact ao e
 | tbl ps=>exact ao (show h.get? a=some _ from x)
 | met f y=>exact ao (show h.get? a=some _ from x)
 | ext φ=>obtain ⟨_,⟨_,e⟩,_⟩:=x;exact ao e
theorem Paired.mapP {α β:Type}{F G:α->β->Prop}{l₁:List α}{l₂:List β} (h:FG F l₁ l₂) (f:∀ a b,F a b->G a b):FG G l₁ l₂:=by
 induction h with
 | nil=>exact .nil
 | cons r t ih=>exact .cons (f _ _ r) ih
theorem cY.stay (x:cY P w H h a o) (k:∀ b u,(b=a\/H b=some (.own a))->h.get? b=some u->h'.get? b=some u)
  (ho:∀ b,H b=some (.own a)->H' b=some (.own a)) (ht:∀ b xs,H b=some (.tup xs)->H' b=some (.tup xs)):cY P w H' h' a o:=by
 induction o with
 | lst xs=>obtain ⟨z,its,n,r,e⟩:=x;exact ⟨z,its,n,r,k _ _ (.inl rfl) e⟩
 | tup xs=>obtain ⟨z,its,r,ob,e,c⟩:=x;exact ⟨z,its,r,ob,k _ _ (.inl rfl) e,c⟩
 | dK kvs=>obtain ⟨z,y,vs,r,ob,es,ep,e,c⟩:=x;exact ⟨z,y,vs,r,ob,es,ep,k _ _ (.inl rfl) e,c⟩
 | dT kvs =>
  obtain ⟨z,y,xs,r,ob,es,ep,e,c⟩:=x
  exact ⟨z,y,xs,Paired.mapP r fun p q z=>⟨z.1,ht _ _ z.2.1,z.2.2⟩,ob,es,ep,k _ _ (.inl rfl) e,c⟩
 | set S n=>obtain ⟨ob,es,ep,t,e,c⟩:=x;exact ⟨ob,es,ep,t,k _ _ (.inl rfl) e,c⟩
 | ins C dx fs =>
  obtain ⟨d,z,ne,e,mA,⟨od,es,ep,e2,c⟩,r⟩:=x
  exact ⟨ho _ d,z,ne,k _ _ (.inl rfl) e,mA,⟨od,es,ep,k _ _ (.inr d) e2,c⟩,r⟩
 | own y=>obtain ⟨ob,e⟩:=x;exact ⟨ob,k _ _ (.inl rfl) e⟩
 | xd fs=>obtain ⟨mA,⟨od,es,ep,e,c⟩,r⟩:=x;exact ⟨mA,⟨od,es,ep,k _ _ (.inl rfl) e,c⟩,r⟩
 | rng lo hi=>obtain ⟨t,u,v,e⟩:=x;exact ⟨t,u,v,k _ _ (.inl rfl) e⟩
 | frz ob u ih=>obtain ⟨e,q⟩:=x;exact ⟨k _ _ (.inl rfl) e,ih q⟩
 | tbl ps =>
  have e:h.get? a=some { cls:=.none,data:=.fields ps }:=x
  show h'.get? a=some { cls:=.none,data:=.fields ps }
  exact k a _ (.inl rfl) e
 | met f y =>
  have e:h.get? a=some (uc (.ref f) (.ref y)):=x
  show h'.get? a=some (uc (.ref f) (.ref y))
  exact k a _ (.inl rfl) e
 | ext φ=>obtain ⟨p,⟨o,e⟩,st⟩:=x;exact ⟨st _ _ p fun o q=>k _ _ (.inl rfl) q,⟨o,k _ _ (.inl rfl) e⟩,st⟩
theorem pQ.lt (x:pQ P w H h) (e:H a=some o):a<h.objs.size:=(x a o e).lt
theorem pQ.fresh (x:pQ P w H h) (e:h.objs.size<=a):H a=none:=by
 cases q:H a with
 | none=>rfl
 | some u=>exact absurd (aK (x.lt q) e) (cj _)
theorem pQ.kept (x:pQ P w H h) (k:∀ b u,h.get? b=some u->h'.get? b=some u):pQ P w H h':=fun a o e =>
 (x a o e).stay (fun b u _ q=>k b u q) (fun _ q=>q) fun _ _ q=>q
theorem pQ.laid (x:pQ P w H h) (k:∀ b u,h.get? b=some u->h'.get? b=some u) (hp:h.objs.size<=a) (new:cY P w (upd H a o) h' a o):pQ P w (upd H a o) h':=fun b u e=>by
 have hn:=x.fresh hp
 by_cases hb:b=a
 ·subst hb;rw [aV] at e;cases e;exact new
 ·rw [aT hb] at e
  exact (x b u e).stay (fun c v _ q=>k c v q) (fun c q=>by rw [aT (bi q hn)];exact q) fun c xs q=>by rw [aT (bi q hn)];exact q
end
def Rd (H:Hp) (a:ah) (u:HO):Prop:=H a=some u\/∃ o,H a=some (.frz o u)
theorem Rd.ok {P:aI}{w:bc}{H:Hp}{h:br}{a:ah}{u:HO} (r:Rd H a u) (x:pQ P w H h):cY P w H h a u:=by
 rcases r with r | ⟨o,r⟩
 ·exact x a u r
 ·obtain ⟨_,q⟩:=x a _ r
  exact q
def Ug:Option HO->Prop
 | some (.lst _)=>True
 | some (.dK _)=>True
 | some (.dT _)=>True
 | some (.set _ _)=>True
 | some (.ins _ _ _)=>True
 | some (.ext _)=>True
 | _=>False
section
variable {P:aI}{w:bc}{H:Hp}{h h':br}{x e:ah}{o':HO}
theorem pQ.write (ok:pQ P w H h) (mu:Ug (H x)) (he:e=x\/H e=some (.own x)) (k:∀ b u,b≠e->h.get? b=some u->h'.get? b=some u) (heo:∃ u,h'.get? e=some u)
  (new:cY P w (upd H x o') h' x o'):pQ P w (upd H x o') h':=fun b u q=>by
 have nown:∀ c y,H c=some (.own y)->c≠x:=fun c y r z=>by subst z;rw [r] at mu;exact mu
 have ntup:∀ c xs,H c=some (.tup xs)->c≠x:=fun c xs r z=>by subst z;rw [r] at mu;exact mu
 by_cases hb:b=x
 ·subst hb;rw [aV] at q;cases q;exact new
 ·rw [aT hb] at q
  by_cases hbe:b=e
  ·have q':H b=some (.own x):=by
    rcases he with z | z
    ·exact absurd (hbe.trans z) hb
    ·rw [hbe];exact z
   rw [q] at q';cases q'
   obtain ⟨v,hv⟩:=heo
   exact ⟨v,by rw [hbe];exact hv⟩
  ·refine (ok b u q).stay (fun c v hc r=>k c v ?_ r) (fun c r=>by rw [aT (nown c b r)];exact r) fun c xs r=>by rw [aT (ntup c xs r)];exact r
   rcases hc with rfl | hc
   ·exact hbe
   ·rintro rfl
    rcases he with z | z
    ·exact nown c b hc z
    ·rw [hc] at z;cases z;exact hb rfl
end
structure Un (fs ex:List ah) (H H':Hp) (h h':br):Prop where
 keep:∀ b o,h.get? b=some o->H b=none->b∉fs->b∉ex->h'.get? b=some o
 slot:∀ b o,h.get? b=some o->H b=none->b∈fs->b∉ex->∃ sl,h'.get? b=some { o with slots:=sl }
 free:∀ b o,h.get? b=some o->H b=none->b∉ex->H' b=none
 there:∀ b o,h.get? b=some o->b∉ex->∃ o',h'.get? b=some o'
 tups:∀ b xs,H b=some (.tup xs)->H' b=some (.tup xs)
 frzs:∀ b o u,H b=some (.frz o u)->H' b=some (.frz o u)
 tbls:∀ b ps,H b=some (.tbl ps)->∃ more,H' b=some (.tbl (ps++more))
section
variable {fs fs' ex ex':List ah}{H H1 H2:Hp}{h h1 h2 h':br}{a x e:ah}{o:HO}
theorem Un.any (u:Un fs ex H H1 h h1) {b:ah}{ob:Obj} (q:h.get? b=some ob) (n:H b=none) (hx:b∉ex):∃ sl,h1.get? b=some { ob with slots:=sl }:=by
 by_cases hb:b∈fs
 ·exact u.slot b ob q n hb hx
 ·exact ⟨ob.slots,u.keep b ob q n hb hx⟩
theorem Un.kept (k:∀ b u,h.get? b=some u->h'.get? b=some u):Un fs ex H H h h' :=
 ⟨fun b ob q _ _ _=>k b ob q,fun b ob q _ _ _=>⟨ob.slots,k b ob q⟩,fun _ _ _ n _=>n,fun b ob q _=>⟨ob,k b ob q⟩,fun _ _ q=>q,fun _ _ _ q=>q,fun _ ps q=>⟨#[],by rw [q];simp⟩⟩
theorem Un.refl:Un fs ex H H h h:=Un.kept fun _ _ q=>q
theorem Un.laid (k:∀ b u,h.get? b=some u->h'.get? b=some u) (hp:h.objs.size<=a) (hn:H a=none):Un fs ex H (upd H a o) h h' where
 keep:=fun b u q _ _ _=>k b u q
 slot:=fun b u q _ _ _=>⟨u.slots,k b u q⟩
 free:=fun b u q n _=>by rw [aT (aB (aK (ao q) hp))];exact n
 there:=fun b u q _=>⟨u,k b u q⟩
 tups:=fun b xs q=>by rw [aT (bi q hn)];exact q
 frzs:=fun b u xs q=>by rw [aT (bi q hn)];exact q
 tbls:=fun b ps q=>⟨#[],by rw [aT (bi q hn),q];simp⟩
theorem Un.write (mu:Ug (H x)) (he:e=x\/H e=some (.own x)) (k:∀ b u,b≠e->h.get? b=some u->h'.get? b=some u) (heo:∃ u,h'.get? e=some u):Un fs ex H (upd H x o) h h':=by
 have hx:∀ b,H b=none->b≠x:=fun b n z=>by subst z;rw [n] at mu;exact mu
 have hb:∀ b,H b=none->b≠e:=fun b n z=>by
  subst z
  rcases he with r | r
  ·exact hx b n r
  ·rw [n] at r;cases r
 have hm:∀ b u,H b=some u->¬ Ug (some u)->b≠x:=fun b u q nm z=>by subst z;rw [q] at mu;exact nm mu
 refine ⟨fun b u q n _ _=>k b u (hb b n) q,fun b u q n _ _=>⟨u.slots,k b u (hb b n) q⟩,fun b u q n _=>by rw [aT (hx b n)];exact n,fun b u q _=>?_,
  fun b xs q=>by rw [aT (hm b _ q fun z=>z)];exact q,fun b u xs q=>by rw [aT (hm b _ q fun z=>z)];exact q,fun b ps q=>⟨#[],by rw [aT (hm b _ q fun z=>z),q];simp⟩⟩
 by_cases hbe:b=e
 ·subst hbe;exact heo
 ·exact ⟨u,k b u hbe q⟩
end
def VV (h:br) (H:Hp):List ah:=(bw h.objs.size).filter fun a=>(H a).isSome
def BK (h:br) (H:Hp):br:=L7 h (VV h H)
theorem JF (h:br) (H:Hp):(BK h H).objs.size=h.objs.size:=PySem.W.hideAll_size _ _
theorem Lz {h:br}{H:Hp}{b:ah}{o:Obj} (e:h.get? b=some o) (n:H b=none):(BK h H).get? b=some o :=
 Ft _ e fun hm=>by
  have q:(H b).isSome=true:=(List.mem_filter.mp hm).2
  rw [n] at q;simp at q
theorem Pj {h:br}{H:Hp}{b:ah}{o:Obj} (e:(BK h H).get? b=some o):h.get? b=some o/\H b=none:=by
 have e':h.get? b=some o:=FI (VV h H) e
 refine ⟨e',?_⟩
 cases q:H b with
 | none=>rfl
 | some x =>
  have hm:b∈VV h H:=List.mem_filter.mpr ⟨List.mem_range.mpr (ao e'),by simp [q]⟩
  have z:(BK h H).get? b=none:=PySem.W.hideAll_none (VV h H) hm
  rw [z] at e;cases e
def Pk (g h:br) (L:ah):List (ah×Obj):=(bw h.objs.size).filterMap fun a=>if a=L\/(g.get? a).isSome=true then none else (h.get? a).map fun o=>(a,o)
def bW (g h:br) (L d:ah):List (ah×Obj):=(Pk g h L).filter fun p=>decide (p.1≠d)
end L2
namespace L2
open PySem PySem.Spec PyProof.Rows
structure Mod (K:a8) (mg:Str->Option a9) (base:br):Prop where
 kin:K.In base
 glob:base.Ns bN mg
 blt:∃ mb,base.Ns builtinsNs mb/\∀ x:Str,x≠"__name__"->mb x=i7 x
 nolimit:base.NoLimit
structure Cx where
 prog:aI
 w:bc
 K:a8
 mg:Str->Option a9
 base:br
 A:bg
 N:List Str
 s₀:af
 H₀:Hp
 env:Env
 outer:List Env
 stack:List Env
 ex:List ah
 fn:Str->Bool
 calm:Bool
 pn:List (ah×Obj)
 xe:a9->af->Prop
def r9 (l:List Env):List ah:=l.filterMap (·.frame)
abbrev Cx.fs (X:Cx):List ah:=r9 X.outer
def Lf (sc:eT) (x:Str):Prop:=sc.names.lookup x=some .local\/sc.names.lookup x=some .cell\/sc.names.lookup x=some .free
def R5 (sc:eT) (x:Str):Prop:=sc.names.lookup x=some .local\/sc.names.lookup x=some .cell
def We (env:Env) (h:br) (m:Str->Option a9) (x:Str) (u:a9):Prop :=
 (env.kindOf x=some .local/\m x=some u)\/((env.kindOf x=some .cell\/env.kindOf x=some .free)/\∃ c,env.cells.lookup x=some c/\h.IsCell c (some u))
structure Cx.Ok (X:Cx):Prop where
 mod:Mod X.K X.mg X.base
 kind:X.env.scope.kind=.function
 glob:X.env.globals=bN
 blt:X.env.builtins=builtinsNs
 above:X.s₀.heap.objs.size<=X.env.locals
 inj:∀ x y c,X.env.cells.lookup x=some c->X.env.cells.lookup y=some c->x=y
 has:∀ x,(X.env.kindOf x=some .cell\/X.env.kindOf x=some .free)->∃ c,X.env.cells.lookup x=some c
 cab:∀ x c,X.fn x=true->X.env.cells.lookup x=some c->X.s₀.heap.objs.size<=c
 hd:X.calm=true->X.A.handled=none
 frames:X.A.frames=some X.stack
 stk:X.stack=X.outer\/(X.stack=X.env::X.outer/\X.env.frame=some X.env.locals)
 exf:∀ b∈X.ex,b≠X.env.locals/\∀ x c,X.env.cells.lookup x=some c->c≠b
 bs:∀ b o,X.base.get? b=some o->X.s₀.heap.get? b=some o/\X.H₀ b=none
 bsz:X.base.objs.size<=X.s₀.heap.objs.size
 noex:∀ b o,X.base.get? b=some o->b∉X.ex
 exfs:∀ b∈X.ex,b∉X.fs
 funs:X.s₀.heap.FunFrames X.base X.outer
 frf:∀ b∈X.fs,X.H₀ b=none
structure bF (X:Cx) (pins:List (ah×Obj)) (σ:List (Option V)) (H:Hp) (s:af):Prop where
 ok:X.Ok
 os:s.os=X.s₀.os
 bare:q0 s.gens
 base:Un X.fs X.ex X.H₀ H X.s₀.heap s.heap
 loc:∃ m,s.heap.Ns X.env.locals m/\∀ (i:Nat) (x:Str) (v:V),X.N[i]?=some x->σ[i]?=some (some v)->Lf X.env.scope x->∃ u,dm v u/\We X.env s.heap m x u
 cell:∀ x c,X.env.cells.lookup x=some c->∃ v,s.heap.IsCell c v
 free:H X.env.locals=none
 freeC:∀ x c,X.env.cells.lookup x=some c->H c=none
 pin:∀ p∈X.pn++pins,s.heap.get? p.1=some p.2/\H p.1=none/\p.1≠X.env.locals/\p.1∉X.fs/\∀ v,p.2.data≠.cell v
 hok:pQ X.prog X.w H s.heap
 len:σ.length=X.N.length
section
variable {X:Cx}{pins:List (ah×Obj)}{σ:List (Option V)}{H H':Hp}{s:af}{h':br}
theorem Cx.Ok.nofr (ok:X.Ok) {b:ah}{o:Obj} (e:X.base.get? b=some o):b∉X.fs:=fun hb=>by
 have:=(ok.funs.mem hb).1
 rw [e] at this;cases this
theorem bF.bs (I:bF X pins σ H s):∀ b o,X.base.get? b=some o->s.heap.get? b=some o/\H b=none:=fun b o e =>
 ⟨I.base.keep b o (I.ok.bs b o e).1 (I.ok.bs b o e).2 (I.ok.nofr e) (I.ok.noex b o e),I.base.free b o (I.ok.bs b o e).1 (I.ok.bs b o e).2 (I.ok.noex b o e)⟩
theorem bF.bk (I:bF X pins σ H s):∀ b o,X.base.get? b=some o->s.heap.get? b=some o:=fun b o e=>(I.bs b o e).1
theorem bF.mod (I:bF X pins σ H s):Mod X.K X.mg X.base:=I.ok.mod
theorem bF.kIn (I:bF X pins σ H s):X.K.In s.heap:=I.ok.mod.kin.keeps I.bk
theorem bF.fr (I:bF X pins σ H s):∃ m,Fr X.base X.env.locals s.heap m :=
 let ⟨m,hn,_⟩:=I.loc
 ⟨m,hn,I.bk,bE I.ok.bsz I.ok.above⟩
theorem bF.lt (I:bF X pins σ H s):X.env.locals<s.heap.objs.size:=let ⟨_,hn,_⟩:=I.loc;hn.lt
theorem bF.sz (I:bF X pins σ H s):X.s₀.heap.objs.size<=s.heap.objs.size:=bE I.ok.above (bL I.lt)
theorem bF.nofs (I:bF X pins σ H s) {a:ah} (h:s.heap.objs.size<=a):a∉X.fs:=fun hb=>by
 obtain ⟨_,o,ho,_⟩:=I.ok.funs.mem hb
 exact absurd (aK (ao ho) (bE I.sz h)) (cj _)
theorem bF.cne (I:bF X pins σ H s):∀ x c,X.env.cells.lookup x=some c->c≠X.env.locals:=fun x c e z=>by
 obtain ⟨v,o,ho,hd⟩:=I.cell x c e
 obtain ⟨m,⟨o',es,ep,ho',hd',_⟩,_⟩:=I.loc
 rw [z,ho'] at ho;cases ho;rw [hd'] at hd;cases hd
theorem bF.funs (I:bF X pins σ H s):s.heap.FunFrames X.base X.outer:=by
 have all:∀ (l:List Env),(∀ b∈r9 l,b∈X.fs)->X.s₀.heap.FunFrames X.base l->s.heap.FunFrames X.base l:=by
  intro l
  induction l with
  | nil=>intro _ _;trivial
  | cons env r ih =>
   intro hs hl
   obtain ⟨hk,⟨L,o,hf,hn,ho,hd⟩,hr⟩:=hl
   have hL:L∈X.fs:=hs L (by unfold r9;rw [u6,hf];exact ap)
   obtain ⟨sl,e⟩:=I.base.slot L o ho (I.ok.frf L hL) hL fun z=>I.ok.exfs L z hL
   exact ⟨hk,⟨L,_,hf,hn,e,hd⟩,ih (fun b hb=>hs b (by unfold r9;rw [u6,hf];exact am _ hb)) hr⟩
 exact all X.outer (fun _ hb=>hb) I.ok.funs
theorem bF.stack (I:bF X pins σ H s):s.heap.FunFrames X.base X.stack:=by
 rcases I.ok.stk with e | ⟨e,hf⟩
 ·rw [e];exact I.funs
 ·rw [e]
  obtain ⟨m,hn,_⟩:=I.loc
  refine .cons (by rw [I.ok.kind];decide) hf hn ?_ I.funs
  exact Heap.get?_none_of_le (bE I.ok.bsz I.ok.above)
theorem bF.stkSub (I:bF X pins σ H s):∀ b∈r9 X.stack,b∈X.env.locals::X.fs:=fun b hb=>by
 rcases I.ok.stk with e | ⟨e,hf⟩
 ·rw [e] at hb;exact am _ hb
 ·rw [e] at hb
  unfold r9 at hb
  rw [u6,hf] at hb
  exact hb
theorem bF.stkFree (I:bF X pins σ H s):∀ b∈r9 X.stack,H b=none:=fun b hb=>by
 rcases List.mem_cons.mp (I.stkSub b hb) with e | hb
 ·rw [e];exact I.free
 ·obtain ⟨_,o,ho,_⟩:=I.ok.funs.mem hb
  exact I.base.free b o ho (I.ok.frf b hb) fun z=>I.ok.exfs b z hb
theorem bF.step {g':Array GenState}{t':Nat}{d':Drawn}{ch:List ah} (I:bF X pins σ H s)
  (hch:∀ b∈ch,(b∈X.ex\/X.s₀.heap.objs.size<=b)/\b≠X.env.locals/\(∀ x c,X.env.cells.lookup x=some c->c≠b)/\∀ p∈X.pn++pins,p.1≠b)
  (keep:∀ b o,b≠X.env.locals->b∉X.fs->b∉ch->s.heap.get? b=some o->H b=none->h'.get? b=some o)
  (slot:∀ b o,b≠X.env.locals->b∈X.fs->b∉ch->s.heap.get? b=some o->H b=none->∃ sl,h'.get? b=some { o with slots:=sl }) (free:∀ b o,b∉ch->s.heap.get? b=some o->H b=none->H' b=none)
  (there:∀ b o,b∉ch->s.heap.get? b=some o->∃ o',h'.get? b=some o')
  (tups:∀ b xs,H b=some (.tup xs)->H' b=some (.tup xs)) (frzs:∀ b o u,H b=some (.frz o u)->H' b=some (.frz o u)) (tbls:∀ b ps,H b=some (.tbl ps)->∃ more,H' b=some (.tbl (ps++more)))
  (ns:∀ m,s.heap.Ns X.env.locals m->h'.Ns X.env.locals m) (hok:pQ X.prog X.w H' h') (hg:q0 g') :
  bF X pins σ H' { s with heap:=h',gens:=g',drawn:=d',toks:=t' }:=by
 have neL:∀ b o,X.s₀.heap.get? b=some o->b≠X.env.locals:=fun b o e=>aB (aK (ao e) I.ok.above)
 have neC:∀ b o,X.s₀.heap.get? b=some o->b∉X.ex->b∉ch:=fun b o e hx hb=>by
  rcases (hch b hb).1 with z | z
  ·exact hx z
  ·exact absurd (aK (ao e) z) (cj _)
 have cellK:∀ x c,X.env.cells.lookup x=some c->∀ v,s.heap.IsCell c v->h'.IsCell c v:=fun x c e v h_0=>by
  obtain ⟨o,ho,hd⟩:=h_0
  have nch:c∉ch:=fun z=>(hch c z).2.2.1 x c e rfl
  by_cases hc:c∈X.fs
  ·obtain ⟨sl,q⟩:=slot c o (I.cne x c e) hc nch ho (I.freeC x c e)
   exact ⟨_,q,hd⟩
  ·exact ⟨o,keep c o (I.cne x c e) hc nch ho (I.freeC x c e),hd⟩
 refine ⟨I.ok,I.os,hg,⟨fun b o e n hb hx=>?_,fun b o e n hb hx=>?_,fun b o e n hx=>?_,fun b o e hx=>?_,fun b xs e=>tups b xs (I.base.tups b xs e),fun b o xs e=>frzs b o xs (I.base.frzs b o xs e),fun b ps e=>?_⟩,?_,fun x c e=>?_,?_,fun x c e=>?_,fun p hp=>?_,hok,I.len⟩
 ·exact keep b o (neL b o e) hb (neC b o e hx) (I.base.keep b o e n hb hx) (I.base.free b o e n hx)
 ·obtain ⟨sl,e1⟩:=I.base.slot b o e n hb hx
  obtain ⟨sl',e2⟩:=slot b _ (neL b o e) hb (neC b o e hx) e1 (I.base.free b o e n hx)
  exact ⟨sl',e2⟩
 ·obtain ⟨o',e1⟩:=I.base.there b o e hx
  exact free b o' (neC b o e hx) e1 (I.base.free b o e n hx)
 ·obtain ⟨o',e1⟩:=I.base.there b o e hx
  exact there b o' (neC b o e hx) e1
 ·obtain ⟨m1,e1⟩:=I.base.tbls b ps e
  obtain ⟨m2,e2⟩:=tbls b _ e1
  exact ⟨m1++m2,by rw [e2,Jm]⟩
 ·obtain ⟨m,hn,hl⟩:=I.loc
  refine ⟨m,ns m hn,fun i x v e1 e2 e3=>?_⟩
  obtain ⟨u,r,l⟩:=hl i x v e1 e2 e3
  refine ⟨u,r,?_⟩
  rcases l with l | ⟨k,c,e,z⟩
  ·exact .inl l
  ·exact .inr ⟨k,c,e,cellK x c e _ z⟩
 ·obtain ⟨v,z⟩:=I.cell x c e
  exact ⟨v,cellK x c e v z⟩
 ·obtain ⟨m,⟨o,_,_,ho,_⟩,_⟩:=I.loc
  exact free _ o (fun z=>(hch _ z).2.1 rfl) ho I.free
 ·obtain ⟨v,o,ho,hd⟩:=I.cell x c e
  exact free c o (fun z=>(hch c z).2.2.1 x c e rfl) ho (I.freeC x c e)
 ·obtain ⟨e,n,ne,nf,d⟩:=I.pin p hp
  have nch:p.1∉ch:=fun z=>(hch p.1 z).2.2.2 p hp rfl
  exact ⟨keep p.1 p.2 ne nf nch e n,free p.1 p.2 nch e n,ne,nf,d⟩
theorem bF.un {t':Nat} (I:bF X pins σ H s) (u:Un X.fs [] H H' s.heap h') (hok:pQ X.prog X.w H' h'):bF X pins σ H' { s with heap:=h',toks:=t' }:=by
 obtain ⟨m,⟨o,es,ep,ho,r⟩,_⟩:=id I.loc
 obtain ⟨sl,hL⟩:=u.any ho I.free (by simp)
 exact I.step (g':=s.gens) (d':=s.drawn) (ch:=[]) (fun _ z=>nomatch z) (fun b o _ hb _ e n=>u.keep b o e n hb (by simp)) (fun b o _ hb _ e n=>u.slot b o e n hb (by simp)) (fun b o _ e n=>u.free b o e n (by simp)) (fun b o _ e=>u.there b o e (by simp)) u.tups u.frzs u.tbls (fun m' hm=>by
  obtain ⟨o',es',ep',ho',r'⟩:=hm
  rw [ho] at ho';cases ho'
  exact ⟨_,es',ep',hL,r'⟩) hok I.bare
theorem bF.call {g':Array GenState}{t':Nat}{d':Drawn}{ch:List ah} (I:bF X pins σ H s) (u:Un (r9 X.stack) ch H H' s.heap h') (hok:pQ X.prog X.w H' h') (hg:q0 g')
  (hch:∀ b∈ch,(b∈X.ex\/X.s₀.heap.objs.size<=b)/\b≠X.env.locals/\(∀ x c,X.env.cells.lookup x=some c->c≠b)/\∀ p∈X.pn++pins,p.1≠b) :
  bF X pins σ H' { s with heap:=h',gens:=g',drawn:=d',toks:=t' }:=by
 obtain ⟨m,⟨o,es,ep,ho,r⟩,_⟩:=id I.loc
 obtain ⟨sl,hL⟩:=u.any ho I.free fun z=>(hch _ z).2.1 rfl
 exact I.step (ch:=ch) hch (fun b o hL hb hc e n=>u.keep b o e n (fun z=>(List.mem_cons.mp (I.stkSub b z)).elim hL hb) hc) (fun b o _ _ hc e n=>u.any e n hc) (fun b o hc e n=>u.free b o e n hc) (fun b o hc e=>u.there b o e hc) u.tups u.frzs u.tbls (fun m' hm=>by
  obtain ⟨o',es',ep',ho',r'⟩:=hm
  rw [ho] at ho';cases ho'
  exact ⟨_,es',ep',hL,r'⟩) hok hg
theorem bF.turned {t':Nat}{it:ah} (I:bF X pins σ H s) (k:∀ b o,b≠it->s.heap.get? b=some o->h'.get? b=some o) (hn:H it=none) (hL:it≠X.env.locals)
  (h1:it∈X.ex\/X.s₀.heap.objs.size<=it) (h2:∀ x c,X.env.cells.lookup x=some c->c≠it) (h3:∀ p∈X.pn++pins,p.1≠it):bF X pins σ H { s with heap:=h',toks:=t' }:=by
 have nit:∀ b u,H b=some u->b≠it:=fun b u e z=>by rw [z,hn] at e;cases e
 refine I.step (g':=s.gens) (d':=s.drawn) (ch:=[it]) (fun b hb=>?_) (fun b o _ _ hc e _=>k b o (fun z=>hc (by simp [z])) e) (fun b o _ _ hc e _=>⟨o.slots,k b o (fun z=>hc (by simp [z])) e⟩) (fun _ _ _ _ n=>n)
  (fun b o hc e=>⟨o,k b o (fun z=>hc (by simp [z])) e⟩) (fun _ _ e=>e) (fun _ _ _ e=>e) (fun b ps e=>⟨#[],by rw [e];simp⟩) (fun m hm=>?_) (fun b u e=>?_) I.bare
 ·have e:b=it:=by simpa using hb
  subst e
  exact ⟨h1,hL,h2,h3⟩
 ·obtain ⟨o,es,ep,ho,r⟩:=hm
  exact ⟨o,es,ep,k _ o (cZ hL) ho,r⟩
 ·refine (I.hok b u e).stay (fun c v hc q=>k c v ?_ q) (fun _ q=>q) fun _ _ q=>q
  rcases hc with z | z
  ·rw [z];exact nit b u e
  ·exact nit c _ z
theorem bF.tok (I:bF X pins σ H s) (t:Nat):bF X pins σ H { s with toks:=t }:=I.un (h':=s.heap) (t':=t) Un.refl I.hok
theorem bF.kept {t':Nat} (I:bF X pins σ H s) (k:∀ b u,s.heap.get? b=some u->h'.get? b=some u):bF X pins σ H { s with heap:=h',toks:=t' }:=I.un (Un.kept k) (I.hok.kept k)
theorem bF.laid {a:ah}{o:HO}{t':Nat} (I:bF X pins σ H s) (k:∀ b u,s.heap.get? b=some u->h'.get? b=some u) (hp:s.heap.objs.size<=a) (new:cY X.prog X.w (upd H a o) h' a o) :
  bF X pins σ (upd H a o) { s with heap:=h',toks:=t' }:=I.un (Un.laid k hp (I.hok.fresh hp)) (I.hok.laid k hp new)
theorem bF.write {x e:ah}{o:HO}{t':Nat} (I:bF X pins σ H s) (mu:Ug (H x)) (he:e=x\/H e=some (.own x)) (k:∀ b u,b≠e->s.heap.get? b=some u->h'.get? b=some u) (heo:∃ u,h'.get? e=some u)
  (new:cY X.prog X.w (upd H x o) h' x o):bF X pins σ (upd H x o) { s with heap:=h',toks:=t' }:=I.un (Un.write mu he k heo) (I.hok.write mu he k heo new)
theorem bF.weak {σ':List (Option V)} (I:bF X pins σ H s) (hl:σ'.length=σ.length) (w:∀ (i:Nat) v,σ'[i]?=some (some v)->σ[i]?=some (some v)):bF X pins σ' H s :=
 ⟨I.ok,I.os,I.bare,I.base,let ⟨m,hn,hl'⟩:=I.loc;⟨m,hn,fun i x v e1 e2 e3=>hl' i x v e1 (w i v e2) e3⟩,I.cell,I.free,I.freeC,I.pin,I.hok,hl.trans I.len⟩
theorem bF.pins_of {pins':List (ah×Obj)} (I:bF X pins σ H s) (h:∀ p∈pins',s.heap.get? p.1=some p.2/\H p.1=none/\p.1≠X.env.locals/\p.1∉X.fs/\∀ v,p.2.data≠.cell v):bF X pins' σ H s :=
 ⟨I.ok,I.os,I.bare,I.base,I.loc,I.cell,I.free,I.freeC,fun p hp=>(List.mem_append.mp hp).elim (fun z=>I.pin p (bP _ z)) (h p),I.hok,I.len⟩
theorem Dt {N:List Str} (hN:N.Nodup) {i j:Nat}{x:Str} (a:N[i]?=some x) (b:N[j]?=some x):i=j:=by
 obtain ⟨h1,e1⟩:=List.getElem?_eq_some_iff.mp a
 obtain ⟨h2,e2⟩:=List.getElem?_eq_some_iff.mp b
 exact (List.getElem_inj hN).mp (e1.trans e2.symm)
theorem AF {M:FJ}{A:bg}{E:a9->af->Prop}{i:Nat}{x:Str}{v:V}{u:a9}{Q:Unit->af->Prop} (I:bF X pins σ H s) (hN:X.N.Nodup) (hi:X.N[i]?=some x) (hx:R5 X.env.scope x) (r:dm v u)
  (h:∀ s',bF X pins (σ.set i (some v)) H s'->(∃ a,bD a s.heap s'.heap/\(a=X.env.locals\/X.env.cells.lookup x=some a))->Q () s') (hf:X.fn x=true\/X.env.scope.names.lookup x=some .local:=by first | exact .inl rfl | exact .inr rfl | assumption):aq M A (storeName X.env x u) Q E s:=by
 obtain ⟨m,hn,hl⟩:=id I.loc
 have hcls:(X.env.scope.kind == .class || (X.env.scope.kind == .module && X.env.locals != X.env.globals))=false:=by rw [I.ok.kind];rfl
 have hiσ:i<σ.length:=by rw [I.len];exact (List.getElem?_eq_some_iff.mp hi).1
 have cne:=I.cne
 have tracked:∀ {a:ah}{h':br},(∃ o,s.heap.get? a=some o/\H a=none)->bD a s.heap h'->pQ X.prog X.w H h':=fun {a h'} ha hs b ob e=>by
  obtain ⟨_,_,hfree⟩:=ha
  refine (I.hok b ob e).stay (fun c w' hc q=>(hs.2 c ?_).trans q) (fun _ q=>q) fun _ _ q=>q
  rintro rfl
  rcases hc with rfl | hc
  ·rw [hfree] at e;cases e
  ·rw [hfree] at hc;cases hc
 rcases hx with hk | hk
 ·refine wpAny_storeName_local hk hn (fun h' hn' hs=>?_) hcls
  obtain ⟨oL,_,_,hoL,_⟩:=id hn
  refine h _ ⟨I.ok,I.os,I.bare,⟨fun b o e n hb hx=>?_,fun b o e n hb hx=>?_,I.base.free,fun b o e hx=>?_,I.base.tups,I.base.frzs,I.base.tbls⟩,⟨_,hn',fun j y v' e1 e2 e3=>?_⟩,fun y c e=>?_,I.free,I.freeC,fun p hp=>?_,tracked ⟨oL,hoL,I.free⟩ hs,by simpa using I.len⟩ ⟨_,hs,.inl rfl⟩
  ·exact (hs.2 b (aB (aK (ao e) I.ok.above))).trans (I.base.keep b o e n hb hx)
  ·obtain ⟨sl,e1⟩:=I.base.slot b o e n hb hx
   exact ⟨sl,(hs.2 b (aB (aK (ao e) I.ok.above))).trans e1⟩
  ·obtain ⟨o',e1⟩:=I.base.there b o e hx
   exact ⟨o',(hs.2 b (aB (aK (ao e) I.ok.above))).trans e1⟩
  ·by_cases hj:j=i
   ·subst hj
    rw [hi] at e1;cases e1
    rw [aH hiσ] at e2
    cases e2
    exact ⟨u,r,.inl ⟨hk,by simp⟩⟩
   ·rw [ak (cZ hj)] at e2
    obtain ⟨u',r',q⟩:=hl j y v' e1 e2 e3
    refine ⟨u',r',?_⟩
    rcases q with ⟨k,e⟩ | ⟨k,c,e,z⟩
    ·refine .inl ⟨k,?_⟩
     have:y≠x:=fun e=>hj (Dt hN e1 (e ▸ hi))
     simp [this,e]
    ·exact .inr ⟨k,c,e,z.sameBut hs (cne y c e)⟩
  ·obtain ⟨w',z⟩:=I.cell y c e
   exact ⟨w',z.sameBut hs (cne y c e)⟩
  ·obtain ⟨e,n,ne,nf,d⟩:=I.pin p hp
   exact ⟨(hs.2 p.1 ne).trans e,n,ne,nf,d⟩
 ·have hfn:X.fn x=true:=by
   rcases hf with z | z
   ·exact z
   ·rw [z] at hk;cases hk
  obtain ⟨c,hc⟩:=I.ok.has x (.inl hk)
  obtain ⟨w',z⟩:=I.cell x c hc
  refine wpAny_storeName_cell I.ok.kind hk hc z (fun h' hc' hs=>?_)
  obtain ⟨oc,hoc,hocd⟩:=id z
  refine h { s with heap:=h' } ⟨I.ok,I.os,I.bare,⟨fun b o e n hb hx=>?_,fun b o e n hb hx=>?_,I.base.free,fun b o e hx=>?_,I.base.tups,I.base.frzs,I.base.tbls⟩,⟨m,hn.sameBut hs (cZ (cne x c hc)),fun j y v' e1 e2 e3=>?_⟩,fun y c' e=>?_,I.free,I.freeC,fun p hp=>?_,tracked ⟨oc,hoc,I.freeC x c hc⟩ hs,by simpa using I.len⟩ ⟨c,hs,.inr hc⟩
  ·exact (hs.2 b (aB (aK (ao e) (I.ok.cab x c hfn hc)))).trans (I.base.keep b o e n hb hx)
  ·obtain ⟨sl,e1⟩:=I.base.slot b o e n hb hx
   exact ⟨sl,(hs.2 b (aB (aK (ao e) (I.ok.cab x c hfn hc)))).trans e1⟩
  ·obtain ⟨o',e1⟩:=I.base.there b o e hx
   exact ⟨o',(hs.2 b (aB (aK (ao e) (I.ok.cab x c hfn hc)))).trans e1⟩
  ·by_cases hj:j=i
   ·subst hj
    rw [hi] at e1;cases e1
    rw [aH hiσ] at e2
    cases e2
    exact ⟨u,r,.inr ⟨.inl hk,c,hc,hc'⟩⟩
   ·rw [ak (cZ hj)] at e2
    obtain ⟨u',r',q⟩:=hl j y v' e1 e2 e3
    refine ⟨u',r',?_⟩
    rcases q with q | ⟨k,c',e,z'⟩
    ·exact .inl q
    ·refine .inr ⟨k,c',e,z'.sameBut hs ?_⟩
     rintro rfl
     exact hj (Dt hN e1 (I.ok.inj _ _ _ e hc ▸ hi))
  ·by_cases hcc:c'=c
   ·subst hcc;exact ⟨_,hc'⟩
   ·obtain ⟨w2,z2⟩:=I.cell y c' e
    exact ⟨w2,z2.sameBut hs hcc⟩
  ·obtain ⟨e,n,ne,nf,d⟩:=I.pin p hp
   refine ⟨(hs.2 p.1 ?_).trans e,n,ne,nf,d⟩
   intro q
   rw [q,hoc] at e
   have q':oc=p.2:=bJ e
   exact d w' (by rw [<- q'];exact hocd)
theorem qo {M:FJ}{A:bg}{E:a9->af->Prop}{i:Nat}{x:Str}{v:V}{u:a9}{Q:Unit->af->Prop} (I:bF X pins σ H s) (hN:X.N.Nodup) (hi:X.N[i]?=some x) (hx:R5 X.env.scope x) (r:dm v u)
  (h:∀ s',bF X pins (σ.set i (some v)) H s'->Q () s') (hf:X.fn x=true\/X.env.scope.names.lookup x=some .local:=by first | exact .inl rfl | exact .inr rfl | assumption):aq M A (storeName X.env x u) Q E s :=
 AF I hN hi hx r (fun s' I' _=>h s' I') hf
theorem bF.call' {s':af}{ch:List ah} (I:bF X pins σ H s) (ho:s'.os=s.os) (u:Un (r9 X.stack) ch H H' s.heap s'.heap) (hok:pQ X.prog X.w H' s'.heap) (hg:q0 s'.gens)
  (hch:∀ b∈ch,(b∈X.ex\/X.s₀.heap.objs.size<=b)/\b≠X.env.locals/\(∀ x c,X.env.cells.lookup x=some c->c≠b)/\∀ p∈X.pn++pins,p.1≠b):bF X pins σ H' s':=by
 obtain ⟨h',g',d',t',o'⟩:=s'
 have e:o'=s.os:=ho
 subst e
 exact I.call (g':=g') (t':=t') (d':=d') u hok hg hch
end
abbrev XK:=a9->Option ah->Hp->Prop
abbrev St:=List (Option V)
abbrev VK:=V->Hp->Prop
abbrev TE:=St->Hp->VK->Prop
abbrev TT:=St->Hp->(Bool->Hp->Prop)->Prop
abbrev TA:=St->Hp->(List V->Hp->Prop)->Prop
structure sX where
 nx:St->Hp->Prop
 rt:VK
 bk:St->Hp->Prop:=fun _ _=>False
 ct:St->Hp->Prop:=fun _ _=>False
abbrev TS:=sX->St->Hp->Prop
inductive EP (X:Cx) (pins:List (ah×Obj)) (σ:St) (Q:VK) (u:a9) (s':af):Prop
 | mk (v H':_) (h0:bF X pins σ H' s') (h1:dm v u) (h2:Q v H'):EP X pins σ Q u s'
inductive TP (X:Cx) (pins:List (ah×Obj)) (σ:St) (Q:Bool->Hp->Prop) (b:Bool) (s':af):Prop
 | mk (H':_) (h0:bF X pins σ H' s') (h1:Q b H'):TP X pins σ Q b s'
inductive AP (X:Cx) (pins:List (ah×Obj)) (σ:St) (Q:List V->Hp->Prop) (us:List a9) (s':af):Prop
 | mk (vs H':_) (h0:bF X pins σ H' s') (h1:dn vs us) (h2:Q vs H'):AP X pins σ Q us s'
inductive SN (X:Cx) (pins:List (ah×Obj)) (k:St->Hp->Prop) (s':af):Prop
 | mk (σ':St) (H':Hp) (I:bF X pins σ' H' s') (q:k σ' H'):SN X pins k s'
inductive SV (X:Cx) (pins:List (ah×Obj)) (k:V->Hp->Prop) (u:a9) (s':af):Prop
 | mk (v:V) (σ':St) (H':Hp) (I:bF X pins σ' H' s') (r:dm v u) (q:k v H'):SV X pins k u s'
def SP (X:Cx) (pins:List (ah×Obj)) (D:sX) (f:Flow) (s':af):Prop :=
 match f with
 | .next=>SN X pins D.nx s'
 | .brk=>SN X pins D.bk s'
 | .cont=>SN X pins D.ct s'
 | .ret u=>SV X pins D.rt u s'
def PE (X:Cx) (e:b9) (t:TE):Prop :=
 ∀ (pins:List (ah×Obj)) (s:af) (σ:St) (H:Hp) (Q:VK),bF X pins σ H s->t σ H Q->aq (aF X.prog X.w) X.A (dz e X.env) (EP X pins σ Q) X.xe s
def PT (X:Cx) (e:b9) (t:TT):Prop :=
 ∀ (pins:List (ah×Obj)) (s:af) (σ:St) (H:Hp) (Q:Bool->Hp->Prop),bF X pins σ H s->t σ H Q->aq (aF X.prog X.w) X.A (vm e X.env (dz e X.env)) (TP X pins σ Q) X.xe s
def PW (X:Cx) (e:b9) (t:TT):Prop :=
 ∀ (whole:Sem a9) (pins:List (ah×Obj)) (s:af) (σ:St) (H:Hp) (Q:Bool->Hp->Prop),bF X pins σ H s->t σ H Q->aq (aF X.prog X.w) X.A (vm e X.env whole) (TP X pins σ Q) X.xe s
theorem PW.pt {X:Cx}{e:b9}{t:TT} (h:PW X e t):PT X e t:=h _
def PA (X:Cx) (es:List b9) (t:TA):Prop :=
 ∀ (pos:Pos) (pins:List (ah×Obj)) (s:af) (σ:St) (H:Hp) (Q:List V->Hp->Prop),bF X pins σ H s->t σ H Q->aq (aF X.prog X.w) X.A (spliced (fO pos (az es X.env))) (AP X pins σ Q) X.xe s
def PS (X:Cx) (st:cr) (t:TS):Prop :=
 ∀ (pins:List (ah×Obj)) (s:af) (σ:St) (H:Hp) (D:sX),bF X pins σ H s->t D σ H->aq (aF X.prog X.w) X.A (exec st X.env) (SP X pins D) X.xe s
def z_ (X:Cx) (st:List cr) (t:TS):Prop :=
 ∀ (pins:List (ah×Obj)) (s:af) (σ:St) (H:Hp) (D:sX),bF X pins σ H s->t D σ H->aq (aF X.prog X.w) X.A (execs st X.env) (SP X pins D) X.xe s
theorem fD {α:Type}{t:Sem α}{Q Q':α->af->Prop}{M:FJ}{A:bg}{E:a9->af->Prop}{s:af} (h:aq M A t Q E s) (hQ:∀ a s,Q a s->Q' a s):aq M A t Q' E s:=bC h hQ fun _ _ x=>x
end L2
namespace L2
open PySem PySem.Spec PyProof.Rows
section
variable {X:Cx}
inductive R6 (i:Nat) (σ:St) (H:Hp) (Q:VK):Prop
 | mk (v:_) (h0:σ[i]?=some (some v)) (h1:Q v H):R6 i σ H Q
def JH (i:Nat):TE:=R6 i
def tC (v:V):TE:=fun _ H Q=>Q v H
theorem nl {i:Nat}{x:Str}{pos:Pos} (hN:X.N[i]?=some x) (hv:Lf X.env.scope x) (hd:(x == ("__debug__" : Str))=false:=by decide) (hcd:(x == ("__classdict__" : Str))=false:=by decide):PE X (.Name x pos) (JH i):=by
 intro pins s σ H Q I h
 obtain ⟨v,e,h⟩:=h
 obtain ⟨m,hn,hl⟩:=I.loc
 obtain ⟨u,r,l⟩:=hl i x v hN e hv
 have fin:EP X pins σ Q u s:=⟨v,H,I,r,h⟩
 rcases l with ⟨hk,hm⟩ | ⟨hk,c,hc,hcell⟩
 ·exact wpAny_Name (wpAny_loadName_local I.ok.kind hk hn hm fin) hd
 ·rcases hk with hk | hk
  ·exact wpAny_Name (wpAny_loadName_cell I.ok.kind hk hc hcell fin) hd
  ·exact wpAny_Name (wpAny_loadName_free I.ok.kind hk hc hcell fin hcd) hd
theorem LA {i j pos}:PE X (.Constant (.int i) j pos) (tC (.int i)):=fun _ _ _ H _ I h=>wpAny_Constant_int ⟨.int i,H,I.tok _,⟨_,rfl⟩,h⟩
theorem LB {b j pos}:PE X (.Constant (.bool b) j pos) (tC (.bl b)):=fun _ _ _ H _ I h=>Constant_bool ⟨.bl b,H,I,rfl,h⟩
theorem Sq {j pos}:PE X (.Constant .none j pos) (tC .non):=fun _ _ _ H _ I h=>Constant_none ⟨.non,H,I,rfl,h⟩
theorem LC {x j pos}:PE X (.Constant (.str x) j pos) (tC (.str x)):=fun _ _ _ H _ I h=>Calls.Constant_str ⟨.str x,H,I.tok _,⟨_,rfl⟩,h⟩
def Gl (X:Cx) (x:Str):Prop:=X.env.kindOf x=some .globalImplicit
theorem xm {E:a9->af->Prop}{pins:List (ah×Obj)}{s:af}{σ:St}{H:Hp}{x:Str}{u:a9}{pos:Pos}{Q:a9->af->Prop} (I:bF X pins σ H s) (hg:Gl X x) (hm:X.mg x=some u) (h:Q u s)
  (hd:(x == ("__debug__" : Str))=false:=by decide):aq (aF X.prog X.w) X.A (dz (.Name x pos) X.env) Q E s :=
 mj I.ok.kind hg (Dd (by rw [I.ok.glob];exact I.mod.glob.keeps I.bk) hm h) hd
theorem sY {E:a9->af->Prop}{pins:List (ah×Obj)}{s:af}{σ:St}{H:Hp}{x:Str}{u:a9}{pos:Pos}{Q:a9->af->Prop} (I:bF X pins σ H s) (hg:Gl X x) (hm:X.mg x=none) (hv:i7 x=some u) (h:Q u s)
  (hn:x≠"__name__":=by decide) (hd:(x == ("__debug__" : Str))=false:=by decide):aq (aF X.prog X.w) X.A (dz (.Name x pos) X.env) Q E s:=by
 obtain ⟨mb,h1,h2⟩:=I.mod.blt
 exact mj I.ok.kind hg (Calls.loadGlobal_builtin (by rw [I.ok.glob];exact I.mod.glob.keeps I.bk) hm (by rw [I.ok.blt];exact h1.keeps I.bk) ((h2 x hn).trans hv) h) hd
theorem BL {x:Str}{v:V}{u:a9}{pos:Pos} (hg:Gl X x) (hm:X.mg x=some u) (r:dm v u) (hd:(x == ("__debug__" : Str))=false:=by decide):PE X (.Name x pos) (tC v) :=
 fun _ _ _ H _ I h=>xm I hg hm ⟨v,H,I,r,h⟩ hd
theorem HR {x:Str}{v:V}{u:a9}{pos:Pos} (hg:Gl X x) (hm:X.mg x=none) (hv:i7 x=some u) (r:dm v u) (hn:x≠"__name__":=by decide) (hd:(x == ("__debug__" : Str))=false:=by decide):PE X (.Name x pos) (tC v) :=
 fun _ _ _ H _ I h=>sY I hg hm hv ⟨v,H,I,r,h⟩ hn hd
variable {a b:b9}{ta tb:TE}{pos:Pos}
def PC (X:Cx) (op:xb) (a b:b9) (t:TE):Prop :=
 ∀ (pins:List (ah×Obj)) (s:af) (σ:St) (H:Hp) (Q:VK),bF X pins σ H s->t σ H Q ->
  aq (aF X.prog X.w) X.A (dz a X.env) (fun v s₁=>aq (aF X.prog X.w) X.A (dz b X.env) (fun u s₂=>aq (aF X.prog X.w) X.A (bG op v u) (EP X pins σ Q) X.xe s₂) X.xe s₁) X.xe s
theorem LD (b:b9) {op:xb} (h:op≠.In) (h2:op≠.NotIn):gM op b=false:=by
 have e1:(op == CmpOp.In)=false:=by cases op<;>first | rfl | exact absurd rfl h
 have e2:(op == CmpOp.NotIn)=false:=by cases op<;>first | rfl | exact absurd rfl h2
 cases b<;>simp [gM,e1,e2]
def tB (t:TE):TT:=fun σ H Q=>t σ H fun x H1=>∃ c,x=.bl c/\Q c H1
theorem Wf {op:xb}{t:TE} (h:PC X op a b t) (h1:gM op b=false:=by first | exact LD _ (by decide) (by decide) | rfl):PT X (.Compare a [op] [b] pos) (tB t):=by
 intro pins s σ H Q I hw
 refine OL (fD (h pins s σ H _ I hw) fun v s1 h1=>fD h1 fun u s2 h2=>fD h2 fun c s3 ⟨x,H1,I1,r1,q1⟩=>?_) h1
 obtain ⟨d,rfl,q⟩:=q1
 cases r1
 exact dJ ⟨H1,I1,q⟩
theorem LF {e:b9}{t:TE} (h:PE X e t) (he:∀ whole,vm e X.env whole=(do let v <- whole;wj e.pos;Fv [v] (truthy v)):=by intro _;rfl):PT X e (tB t):=by
 intro pins s σ H Q I hw
 refine isTrue_plain (fD (h pins s σ H _ I hw) fun v s1 ⟨x,H1,I1,r1,q1⟩=>?_) (he _)
 obtain ⟨d,rfl,q⟩:=q1
 cases r1
 exact dJ ⟨H1,I1,q⟩
variable {tA tB':TT}{bW:List b9}
def Wg (t u:TT):TT:=fun σ H Q=>t σ H fun c H1=>if c=true then u σ H1 Q else Q false H1
def XV (t u:TT):TT:=fun σ H Q=>t σ H fun c H1=>if c=true then Q true H1 else u σ H1 Q
def Wi (t:TT):TT:=fun σ H Q=>t σ H fun c H1=>Q (!c) H1
theorem Pl (ha:PT X a tA):PW X (.BoolOp .And [a] pos) tA:=by
 intro wh pins s σ H Q I h
 refine isTrue_and (fD (ha pins s σ H Q I h) fun c s1 e=>?_)
 cases c with
 | true=>exact isTrue_and_nil e
 | false=>exact e
theorem LG (ha:PT X a tA):PW X (.BoolOp .Or [a] pos) tA:=by
 intro wh pins s σ H Q I h
 refine isTrue_or (fD (ha pins s σ H Q I h) fun c s1 e=>?_)
 cases c with
 | false=>exact isTrue_or_nil e
 | true=>exact e
theorem Sr (ha:PT X a tA) (hb:PW X (.BoolOp .And (b::bW) pos) tB'):PW X (.BoolOp .And (a::b::bW) pos) (Wg tA tB'):=by
 intro wh pins s σ H Q I h
 refine isTrue_and (fD (ha pins s σ H _ I h) fun c s1 ⟨H1,I1,q1⟩=>?_)
 cases c with
 | true=>exact hb wh pins s1 σ H1 Q I1 q1
 | false=>exact ⟨H1,I1,q1⟩
theorem R7 (ha:PT X a tA) (hb:PW X (.BoolOp .Or (b::bW) pos) tB'):PW X (.BoolOp .Or (a::b::bW) pos) (XV tA tB'):=by
 intro wh pins s σ H Q I h
 refine isTrue_or (fD (ha pins s σ H _ I h) fun c s1 ⟨H1,I1,q1⟩=>?_)
 cases c with
 | true=>exact ⟨H1,I1,q1⟩
 | false=>exact hb wh pins s1 σ H1 Q I1 q1
theorem LH (ha:PT X a tA):PT X (.UnaryOp .Not a pos) (Wi tA):=by
 intro pins s σ H Q I h
 exact isTrue_not (fD (ha pins s σ H (fun c H1=>Q (!c) H1) I h) fun _ _ x=>by obtain ⟨a,b,c⟩:=x;exact ⟨a,b,c⟩)
def Uh (ta tb:TE):TE:=fun σ H Q=>ta σ H fun x H1=>∃ c,x=.bl c/\if c=true then tb σ H1 Q else Q (.bl false) H1
def Ui (ta:TE):TE:=fun σ H Q=>ta σ H fun x H1=>∃ c,x=.bl c/\Q (.bl (!c)) H1
theorem Ss {op}{t:TE} (h:PE X a t):PE X (.BoolOp op [a] pos) t:=fun pins s σ H Q I hw=>BoolOp_one (h pins s σ H Q I hw)
theorem Su (ha:PE X a ta) (hb:PE X (.BoolOp .And (b::bW) pos) tb):PE X (.BoolOp .And (a::b::bW) pos) (Uh ta tb):=by
 intro pins s σ H Q I h
 refine BoolOp_and (fD (ha pins s σ H _ I h) fun v s1 ⟨x,H1,I1,r1,q1⟩=>?_)
 obtain ⟨c,rfl,q1⟩:=q1
 cases r1
 refine dJ ?_
 cases c with
 | true=>exact hb pins s1 σ H1 Q I1 q1
 | false=>exact ⟨.bl false,H1,I1,rfl,q1⟩
theorem Sv (ha:PE X a ta):PE X (.UnaryOp .Not a pos) (Ui ta):=by
 intro pins s σ H Q I h
 refine UnaryOp_ (fD (ha pins s σ H _ I h) fun v s1 ⟨x,H1,I1,r1,q1⟩=>?_)
 obtain ⟨c,rfl,q1⟩:=q1
 cases r1
 exact not_of (dJ ⟨.bl (!c),H1,I1,rfl,q1⟩)
def XX (t:TT) (ta tb:TE):TE:=fun σ H Q=>t σ H fun c H1=>if c=true then ta σ H1 Q else tb σ H1 Q
theorem LJ {c:b9} (hc:PT X c tA) (ha:PE X a ta) (hb:PE X b tb):PE X (.IfExp c a b pos) (XX tA ta tb):=by
 intro pins s σ H Q I h
 refine wpAny_IfExp (fD (hc pins s σ H _ I h) fun d s1 ⟨H1,I1,q1⟩=>?_)
 cases d with
 | true=>exact ha pins s1 σ H1 Q I1 q1
 | false=>exact hb pins s1 σ H1 Q I1 q1
end
end L2
namespace L2
open PySem PySem.Spec PyProof.Rows
inductive Xl (K:a8) (a:ah) (xs:List V):Prop
 | mk (o:Obj) (its:Array a9) (n:Nat) (h0:K.lookup a=some o) (h1:o.cls=.type "list") (h2:o.dict=none) (h3:o.data=.seq its n) (h4:its.size<=sizeLine) (h5:dn xs its.toList):Xl K a xs
def lF (K:a8) (H:Hp) (a:ah) (xs:List V):Prop :=
 Rd H a (.lst xs)\/Xl K a xs
inductive Xm (K:a8) (a:ah) (xs:List V):Prop
 | mk (o:Obj) (its:Array a9) (n:Nat) (h0:K.lookup a=some o) (h1:o.cls=.type "tuple") (h3:o.data=.seq its n) (h4:its.size<=sizeLine) (h5:dn xs its.toList):Xm K a xs
def kn (K:a8) (H:Hp) (a:ah) (xs:List V):Prop :=
 Rd H a (.tup xs)\/Xm K a xs
def Wj:a9->Option V
 | .none=>some .non
 | .bool b=>some (.bl b)
 | .int i _=>some (.int i)
 | .str x _=>some (.str x)
 | .bytes b _=>some (.byt b)
 | .float b _=>some (.flt b)
 | .ref a=>some (.ref a)
 | .type n=>some (.ty n)
 | _=>none
theorem dm.abs {x:V}{u:a9} (r:dm x u):Wj u=some x:=by
 cases x with
 | non=>cases r;rfl
 | bl _=>cases r;rfl
 | int _=>obtain ⟨t,rfl⟩:=r;rfl
 | str _=>obtain ⟨t,rfl⟩:=r;rfl
 | byt _=>obtain ⟨t,rfl⟩:=r;rfl
 | flt _=>obtain ⟨t,rfl⟩:=r;rfl
 | ref _=>cases r;rfl
 | ty _=>cases r;rfl
theorem dm.inj {x y:V}{u:a9} (r:dm x u) (q:dm y u):x=y:=bJ (r.abs.symm.trans q.abs)
theorem dn.inj {xs:List V}{us:List a9} (h:dn xs us):∀ {ys:List V},dn ys us->xs=ys:=by
 induction h with
 | nil=>intro ys k;cases k;rfl
 | cons r t ih=>intro ys k;cases k with | cons r' t'=>rw [r.inj r',ih t']
section
variable {X:Cx}{pins:List (ah×Obj)}{σ:St}{H:Hp}{s:af}{a:ah}{xs ys:List V}
theorem lF.of {K:a8} (h:H a=some (.lst xs)):lF K H a xs:=.inl (.inl h)
theorem kn.of {K:a8} (h:H a=some (.tup xs)):kn K H a xs:=.inl (.inl h)
inductive Xn (h:br) (a:ah) (xs:List V):Prop
 | mk (its:List a9) (r:dn xs its) (p:PlainL h a its.toArray) (z:xs.length<=sizeLine):Xn h a xs
inductive Xo (h:br) (a:ah) (xs:List V):Prop
 | mk (its:List a9) (r:dn xs its) (p:FH h a its.toArray) (z:xs.length<=sizeLine):Xo h a xs
inductive Xp (h:br) (l:ah) (xs:List V):Prop
 | mk (z:xs.length<=sizeLine) (its:List a9) (n:Nat) (r:dn xs its) (hl:xs.length=its.length) (e:h.get? l=some { cls:=.type "list",data:=.seq its.toArray n }):Xp h l xs
theorem bF.list (I:bF X pins σ H s) (h:lF X.K H a xs):Xn s.heap a xs:=by
 rcases h with h | ⟨o,its,n,hk,hc,hd,hs,hz,r⟩
 ·obtain ⟨z,its,n,r,e⟩:=h.ok I.hok
  exact ⟨its,r,⟨_,n,e,rfl,rfl,rfl⟩,z⟩
 ·refine ⟨its.toList,r,⟨o,n,I.kIn a o hk,hc,hd,by simpa using hs⟩,?_⟩
  have e:=r.length
  simp only [ar] at e
  omega
theorem bF.tuple (I:bF X pins σ H s) (h:kn X.K H a xs):Xo s.heap a xs:=by
 rcases h with h | ⟨o,its,n,hk,hc,hs,hz,r⟩
 ·obtain ⟨z,its,r,p⟩:=h.ok I.hok
  exact ⟨its,r,p,z⟩
 ·refine ⟨its.toList,r,⟨o,I.kIn a o hk,hc,n,by simpa using hs⟩,?_⟩
  have e:=r.length
  simp only [ar] at e
  omega
theorem bF.list_inj (I:bF X pins σ H s) (h:lF X.K H a xs) (h':lF X.K H a ys):xs=ys:=by
 obtain ⟨its,r,⟨o,n,e,_,_,d⟩,_⟩:=I.list h
 obtain ⟨its',r',⟨o',n',e',_,_,d'⟩,_⟩:=I.list h'
 rw [e] at e';cases e'
 rw [d] at d'
 injection d' with d1 _
 have:its=its':=by simpa using congrArg Array.toList d1
 subst this
 exact r.inj r'
theorem bF.tuple_inj (I:bF X pins σ H s) (h:kn X.K H a xs) (h':kn X.K H a ys):xs=ys:=by
 obtain ⟨its,r,⟨o,e,_,n,d⟩,_⟩:=I.tuple h
 obtain ⟨its',r',⟨o',e',_,n',d'⟩,_⟩:=I.tuple h'
 rw [e] at e';cases e'
 rw [d] at d'
 injection d' with d1 _
 have:its=its':=by simpa using congrArg Array.toList d1
 subst this
 exact r.inj r'
end
abbrev Cx.wish (X:Cx) (E:a9->af->Prop):Cx:={ X with xe:=E }
abbrev Cx.nox (X:Cx):Cx:=X.wish fun _ _=>False
theorem Cx.Ok.wish {X:Cx} (ok:X.Ok) (E:a9->af->Prop):(X.wish E).Ok :=
 ⟨ok.mod,ok.kind,ok.glob,ok.blt,ok.above,ok.inj,ok.has,ok.cab,ok.hd,ok.frames,ok.stk,ok.exf,ok.bs,ok.bsz,ok.noex,ok.exfs,ok.funs,ok.frf⟩
theorem Cx.Ok.unwish {X:Cx}{E:a9->af->Prop} (ok:(X.wish E).Ok):X.Ok :=
 ⟨ok.mod,ok.kind,ok.glob,ok.blt,ok.above,ok.inj,ok.has,ok.cab,ok.hd,ok.frames,ok.stk,ok.exf,ok.bs,ok.bsz,ok.noex,ok.exfs,ok.funs,ok.frf⟩
section
variable {X:Cx}{pins:List (ah×Obj)}{σ:St}{H:Hp}{s:af}{E:a9->af->Prop}
theorem bF.wish (I:bF X pins σ H s) (E:a9->af->Prop):bF (X.wish E) pins σ H s:=⟨I.ok.wish E,I.os,I.bare,I.base,I.loc,I.cell,I.free,I.freeC,I.pin,I.hok,I.len⟩
theorem bF.unwish (I:bF (X.wish E) pins σ H s):bF X pins σ H s:=⟨I.ok.unwish,I.os,I.bare,I.base,I.loc,I.cell,I.free,I.freeC,I.pin,I.hok,I.len⟩
theorem SP.unwish {D:sX}{f:Flow}{s':af} (h:SP (X.wish E) pins D f s'):SP X pins D f s':=by
 cases f with
 | next=>obtain ⟨σ',H',I,q⟩:=h;exact ⟨σ',H',I.unwish,q⟩
 | brk=>obtain ⟨σ',H',I,q⟩:=h;exact ⟨σ',H',I.unwish,q⟩
 | cont=>obtain ⟨σ',H',I,q⟩:=h;exact ⟨σ',H',I.unwish,q⟩
 | ret u=>obtain ⟨v,σ',H',I,r,q⟩:=h;exact ⟨v,σ',H',I.unwish,r,q⟩
end
section
variable {X:Cx}{st:cr}{bW:List cr}{t u:TS}{e:b9}{te:TE}{pos:Pos}
def Uj:TS:=fun D σ H=>D.nx σ H
def Wk (t u:TS):TS:=fun D σ H=>t { D with nx:=u D } σ H
theorem HS:z_ X [] Uj:=fun _ _ σ H _ I h=>ng ⟨σ,H,I,h⟩
theorem ju (h1:PS X st t) (h2:z_ X bW u):z_ X (st::bW) (Wk t u):=by
 intro pins s σ H D I h
 refine wpAny_execs_cons (fD (h1 pins s σ H { D with nx:=u D } I h) fun f s1 q=>?_)
 cases f with
 | next =>
  obtain ⟨σ',H',I',q⟩:=q
  exact h2 pins s1 σ' H' D I' q
 | ret v=>exact q
 | brk=>exact q
 | cont=>exact q
theorem ul (h1:PS X st t):z_ X [st] t:=by
 intro pins s σ H D I h
 refine wpAny_execs_cons (fD (h1 pins s σ H D I h) fun f s1 q=>?_)
 cases f with
 | next=>exact ng q
 | ret v=>exact q
 | brk=>exact q
 | cont=>exact q
theorem bF.quiet {pins:List (ah×Obj)}{σ:St}{H:Hp}{s:af} (I:bF X pins σ H s):interactive X.env=false:=by simp [interactive,I.ok.kind]
def Uk (te:TE):TS:=fun D σ H=>te σ H fun _ H1=>D.nx σ H1
theorem um (he:PE X e te) (hs:gZ e none pos.line X.env=pure false:=by rfl):PS X (.Expr e pos) (Uk te):=by
 intro pins s σ H D I h
 exact wpAny_Expr_any (fD (he pins s σ H _ I h) fun v s1 h_7=>by obtain ⟨x,H1,I1,r1,q1⟩:=h_7;exact ⟨σ,H1,I1,q1⟩) I.quiet hs
def Ul (te:TE):TS:=fun D σ H=>te σ H D.rt
theorem BM (he:PE X e te):PS X (.Return (some e) pos) (Ul te):=by
 intro pins s σ H D I h
 exact wpAny_Return_some (fD (he pins s σ H _ I h) fun v s1 h_8=>by obtain ⟨x,H1,I1,r1,q1⟩:=h_8;exact ⟨x,σ,H1,I1,r1,q1⟩)
def Wl (c:TT) (t u:TS):TS:=fun D σ H=>c σ H fun b H1=>if b=true then t D σ H1 else u D σ H1
theorem R8 {c:b9}{a b:List cr}{tc:TT} (hc:PT X c tc) (ha:z_ X a t) (hb:z_ X b u):PS X (.If c a b pos) (Wl tc t u):=by
 intro pins s σ H D I h
 refine wpAny_If (fD (hc pins s σ H _ I h) fun d s1 ⟨H1,I1,q1⟩=>?_)
 cases d with
 | true=>exact ha pins s1 σ H1 D I1 q1
 | false=>exact hb pins s1 σ H1 D I1 q1
def Sw:TS:=fun _ _ _=>False
theorem nR {sts:List cr}:z_ X sts Sw:=fun _ _ _ _ _ _ h=>h.elim
end
abbrev TG:=V->St->Hp->(St->Hp->Prop)->Prop
abbrev LK:=List V->St->Hp->(St->Hp->Prop)->Prop
def PG (X:Cx) (target:b9) (t:TG):Prop :=
 ∀ (pins:List (ah×Obj)) (s:af) (σ:St) (H:Hp) (v:V) (u:a9) (Q:St->Hp->Prop),bF X pins σ H s->dm v u->t v σ H Q ->
  aq (aF X.prog X.w) X.A (qh target X.env u) (fun _ s'=>SN X pins Q s') X.xe s
def R9 (X:Cx) (ts:List b9) (t:LK):Prop :=
 ∀ (pins:List (ah×Obj)) (s:af) (σ:St) (H:Hp) (vs:List V) (us:List a9) (Q:St->Hp->Prop),bF X pins σ H s->dn vs us->t vs σ H Q ->
  aq (aF X.prog X.w) X.A (Jn ((i8 ts X.env).map (·.2)) us) (fun _ s'=>SN X pins Q s') X.xe s
section
variable {X:Cx}{pos:Pos}
def wp (i:Nat):TG:=fun v σ H Q=>Q (σ.set i (some v)) H
theorem cy {i:Nat}{x:Str} (hN:X.N.Nodup) (hi:X.N[i]?=some x) (hx:R5 X.env.scope x) (hf:X.fn x=true\/X.env.scope.names.lookup x=some .local:=by first | exact .inl rfl | exact .inr rfl | assumption):PG X (.Name x pos) (wp i):=by
 intro pins s σ H v u Q I r h
 exact wpAny_assign_Name (qo I hN hi hx r (fun s' I'=>⟨_,H,I',h⟩) hf)
def aE:LK:=fun vs σ H Q=>vs=[]/\Q σ H
inductive LL (t:TG) (u:LK) (vs:List V) (σ:St) (H:Hp) (Q:St->Hp->Prop):Prop
 | mk (v r:_) (h0:vs=v::r) (h1:t v σ H fun σ' H'=>u r σ' H' Q):LL t u vs σ H Q
def ae (t:TG) (u:LK):LK:=LL t u
theorem BN:R9 X [] aE:=by
 intro pins s σ H vs us Q I r h
 obtain ⟨e,h⟩:=h
 subst e
 cases r
 exact assignInOrder_nil ⟨σ,H,I,h⟩
theorem qp {e:b9}{es:List b9}{t:TG}{u:LK} (h1:PG X e t) (h2:R9 X es u)
  (hs:(i8 (e::es) X.env).map (·.2)=qh e X.env::(i8 es X.env).map (·.2):=by rfl):R9 X (e::es) (ae t u):=by
 intro pins s σ H vs us Q I r h
 obtain ⟨v,vr,e1,h⟩:=h
 subst e1
 cases r with
 | cons r rr =>
  rw [hs]
  refine xB (fD (h1 pins s σ H _ _ _ I r h) fun _ s1 ⟨σ1,H1,I1,q1⟩=>?_)
  exact h2 pins s1 σ1 H1 _ _ Q I1 rr q1
inductive Ra (K:a8) (n:Nat) (t:LK) (v:V) (σ:St) (H:Hp) (Q:St->Hp->Prop):Prop
 | mk (a xs:_) (h0:v=.ref a) (h1:kn K H a xs) (h2:xs.length=n) (h3:t xs σ H Q):Ra K n t v σ H Q
def Sx (K:a8) (n:Nat) (t:LK):TG:=Ra K n t
theorem Gb {es:List b9}{k:Nat}{t:LK}{n:Nat} (hc:X.calm=true) (h:R9 X es t)
  (hn:(i8 es X.env).length=n:=by rfl) (hst:(i8 es X.env).findIdx? (·.1)=none:=by rfl):PG X (.Tuple es k pos) (Sx X.K n t):=by
 intro pins s σ H v u Q I r hw
 obtain ⟨a,xs,e1,hq,hl,hw⟩:=hw
 subst e1
 cases r
 obtain ⟨its,rv,ht,hz⟩:=I.tuple hq
 refine assign_Tuple_tuple (I.ok.hd hc) ht (by simp [hn,<- hl,rv.length]) hst fun h' hx=>?_
 have I1:bF X pins σ H { s with heap:=h' }:=I.kept (t':=s.toks) fun b o e=>hx b o (aB (ao e)) e
 exact h pins _ σ H xs _ Q I1 (by simpa using rv) hw
def Um (te:TE) (g:TG):TS:=fun D σ H=>te σ H fun x H1=>g x σ H1 D.nx
theorem LM {tg e:b9}{te:TE}{g:TG} (he:PE X e te) (hg:PG X tg g) (hs:xc [tg] e pos.line X.env=pure false:=by rfl) (hw:xg [tg] e X.env=pure none:=by rfl)
  (h1:(i8 [tg] X.env).map (·.2)=[qh tg X.env]:=by rfl):PS X (.Assign [tg] e pos) (Um te g):=by
 intro pins s σ H D I h
 refine wpAny_Assign_stores (fD (he pins s σ H _ I h) fun v s1 ⟨x,H1,I1,r1,q1⟩=>?_) hs hw
 rw [h1]
 exact fD (hg pins s1 σ H1 x v _ I1 r1 q1) fun _ s2 q=>q
theorem BO {i:Nat}{x:Str}{e:b9}{te:TE}{pos':Pos} (hN:X.N.Nodup) (hi:X.N[i]?=some x) (hx:R5 X.env.scope x) (he:PE X e te) (hs:gZ e (some (.Name x pos')) pos.line X.env=pure false:=by rfl) (hf:X.fn x=true\/X.env.scope.names.lookup x=some .local:=by first | exact .inl rfl | exact .inr rfl | assumption) :
  PS X (.Assign [.Name x pos'] e pos) (Um te (wp i)):=by
 intro pins s σ H D I h
 refine wpAny_Assign_Name (fD (he pins s σ H _ I h) fun v s1 ⟨y,H1,I1,r1,q1⟩=>?_) hs
 exact qo I1 hN hi hx r1 (fun s2 I2=>⟨_,H1,I2,q1⟩) hf
def Wm (i j:Nat) (ta:TA):TS:=fun D σ H=>ta σ H fun vs H1=>∃ v w,vs=[v,w]/\D.nx ((σ.set i (some v)).set j (some w)) H1
theorem Sy {i j:Nat}{x y:Str}{a b:b9}{ta:TA}{px py pt:Pos}{kt k2 pt2} (hc:X.calm=true) (hN:X.N.Nodup) (hi:X.N[i]?=some x) (hj:X.N[j]?=some y) (hij:i≠j)
  (hx:X.env.scope.names.lookup x=some .local) (hy:X.env.scope.names.lookup y=some .local) (ha:PA X [a,b] ta)
  (hw:xg [.Tuple [.Name x px,.Name y py] kt pt] (.Tuple [a,b] k2 pt2) X.env=pure (some [x,y]))
  (hs:xc [.Tuple [.Name x px,.Name y py] kt pt] (.Tuple [a,b] k2 pt2) pos.line X.env=pure false:=by rfl) :
  PS X (.Assign [.Tuple [.Name x px,.Name y py] kt pt] (.Tuple [a,b] k2 pt2) pos) (Wm i j ta):=by
 intro pins s σ H D I h
 rw [exec_Assign_arm]
 refine a7 (iF ?_)
 rw [hs]
 refine a7 (ac ?_)
 rw [if_neg (by decide)]
 refine a7 (Tuple_ (fD (ha _ pins s σ H _ I h) fun us s1 ⟨vs,H1,I1,r1,q1⟩=>?_))
 obtain ⟨v,w,e1,q1⟩:=q1
 subst e1
 obtain ⟨u1,u2,rfl,rv,rw'⟩:∃ u1 u2,us=[u1,u2]/\dm v u1/\dm w u2:=by
  cases r1 with
  | cons p q =>
   cases q with
   | cons p' q' =>
    cases q'
    exact ⟨_,_,rfl,p,p'⟩
 refine bU ?_ (by show 2<=sizeLine;decide)
 have I2:bF X pins σ H1 { s1 with heap:=s1.heap.push { cls:=.type "tuple",data:=.seq [u1,u2].toArray } }:=I1.kept (t':=s1.toks) fun b o e=>ag _ e
 rw [hw]
 refine a7 (ac ?_)
 show aq (aF X.prog X.w) X.A (do rule "assign.swapped-stores";let items <- unpackItems (.ref s1.heap.objs.size) 2 none;Jn [fun v=>FK X.env y v,fun v=>FK X.env x v] items.reverse;pure Flow.next) _ _ _
 refine a7 (fX (a7 (unpackItems_tuple (items:=#[u1,u2]) (I.ok.hd hc) (wJ s1.heap _) fun h' hx'=>?_)))
 have I3:=I2.kept (h':=h') (t':=s1.toks) fun b o e=>hx' b o (aB (ao e)) e
 show aq _ _ (Jn [fun v=>FK X.env y v,fun v=>FK X.env x v] [u2,u1] >>= fun _=>pure Flow.next) _ _ _
 refine a7 (xB (wpAny_bindName (qo I3 hN hj (.inl hy) rw' (fun s2 I4=>?_) (.inr hy))))
 refine xB (wpAny_bindName (qo I4 hN hi (.inl hx) rv (fun s3 I5=>assignInOrder_nil (ac ?_)) (.inr hx)))
 rw [List.set_comm _ _ (cZ hij)] at I5
 exact ⟨_,H1,I5,q1⟩
end
section
variable {X:Cx}{pos:Pos}
def Sz (c:TT) (tb:TS):TS:=fun D σ H=>∃ W:Nat->St->Hp->Prop,(∃ m,W m σ H)/\∀ m σ H,W m σ H ->
 c σ H fun b H1=>if b=true then ∃ N:St->Hp->Prop,(∀ σ' H',N σ' H'->∃ m',m'<m/\W m' σ' H')/\tb { D with nx:=N,ct:=N,bk:=D.nx } σ H1 else D.nx σ H1
theorem LN {c:b9}{body:List cr}{tc:TT}{tb:TS} (hp:PassesOwn (aF X.prog X.w) X.A X.env X.xe) (hc:PT X c tc) (hb:z_ X body tb):PS X (.While c body [] pos) (Sz tc tb):=by
 intro pins s σ H D I h
 obtain ⟨W,⟨m0,w0⟩,turn⟩:=h
 refine wpAny_While (codeAny_whileLoop (fun n s'=>∃ σ' H',bF X pins σ' H' s'/\W n σ' H') ?_ m0 ⟨σ,H,I,w0⟩)
 rintro n s1 ⟨σ1,H1,I1,w1⟩
 refine ir hp (fD (hc pins s1 σ1 H1 _ I1 (turn n σ1 H1 w1)) fun b s2 ⟨H2,I2,q2⟩=>?_)
 cases b with
 | true =>
  obtain ⟨N,hN,q2⟩:=q2
  rw [if_pos rfl]
  refine ir hp (fD (hb pins s2 σ1 H2 _ I2 q2) fun f s3 q3=>?_)
  cases f with
  | next =>
   obtain ⟨σ3,H3,I3,n3⟩:=q3
   obtain ⟨m',hm,w3⟩:=hN σ3 H3 n3
   exact ⟨m',hm,σ3,H3,I3,w3⟩
  | cont =>
   obtain ⟨σ3,H3,I3,n3⟩:=q3
   obtain ⟨m',hm,w3⟩:=hN σ3 H3 n3
   exact ⟨m',hm,σ3,H3,I3,w3⟩
  | brk=>exact q3
  | ret v=>exact q3
 | false =>
  rw [if_neg aS]
  exact ng ⟨σ1,H2,I2,q2⟩
end
structure It where
 go:Nat->Hp->Prop
 yld:Nat->Hp->V->Hp->Prop
 stop:Nat->Hp->Prop
structure qq (X:Cx) (pins:List (ah×Obj)) (H:Hp) (b:ah):Prop where
 f0:H b=none
 f1:b≠X.env.locals
 f2:b∉X.fs
 f3:b∈X.ex\/X.s₀.heap.objs.size<=b
 f4:∀ x c,X.env.cells.lookup x=some c->c≠b
 f5:∀ p∈X.pn++pins,p.1≠b
theorem bF.fpOk {X:Cx}{pins:List (ah×Obj)}{σ:St}{H H':Hp}{s:af}{b:ah} (I:bF X pins σ H s) (hb:s.heap.objs.size<=b) (hn:H' b=none):qq X pins H' b:=by
 refine ⟨hn,eU (aK I.lt hb),I.nofs hb,.inr (bE I.sz hb),fun x c e z=>?_,fun p hp z=>?_⟩
 ·obtain ⟨v,q⟩:=I.cell x c e
  exact absurd (aK q.lt (by rw [z];exact hb)) (cj _)
 ·exact absurd (aK (ao (I.pin p hp).1) (by rw [z];exact hb)) (cj _)
structure xN (P:aI) (w:bc) (K:a8) (tg:b9) (J:It) (fp:List ah) (it:ah) (tn:Nat->br->Prop):Prop where
 mem:it∈fp
 obj:∀ i h,tn i h->∀ b∈fp,∃ o,h.get? b=some o/\∀ v,o.data≠.cell v
 keep:∀ i h h',tn i h->(∀ b∈fp,∀ o,h.get? b=some o->h'.get? b=some o)->tn i h'
 item:∀ (X:Cx),X.prog=P->X.w=w->X.K=K->X.calm=true->∀ (i:Nat) (pins:List (ah×Obj)) (s:af) (σ:St) (H:Hp) (E:a9->af->Prop),bF X pins σ H s->(∀ b∈fp,qq X pins H b)->tn i s.heap->J.go i H ->
  aq (aF P w) X.A (jr (.ref it)) (fun r s1=>∃ u,r=some u /\
   aq (aF P w) X.A (gE tg (.ref it) u) (fun _ s2=>∃ x H',bF X pins σ H' s2/\dm x u/\J.yld i H x H'/\tn (i + 1) s2.heap/\∀ b∈fp,H' b=none) E s1) E s
 done:∀ (X:Cx),X.prog=P->X.w=w->X.K=K->X.calm=true->∀ (i:Nat) (pins:List (ah×Obj)) (s:af) (σ:St) (H:Hp) (E:a9->af->Prop),bF X pins σ H s->(∀ b∈fp,qq X pins H b)->tn i s.heap->J.stop i H ->
  aq (aF P w) X.A (jr (.ref it)) (fun r s1=>r=none/\bF X pins σ H s1) E s
 self:∀ (A:bg) (i:Nat) (s:af) (Q:a9->af->Prop) (E:a9->af->Prop),tn i s.heap->Q (.ref it) s->aq (aF P w) A (xC (.ref it)) Q E s
abbrev TI:=St->Hp->(It->Hp->Prop)->Prop
inductive Wn (X:Cx) (pins:List (ah×Obj)) (σ:St) (tg:b9) (R:It->Hp->Prop) (itv:a9) (s2:af):Prop
 | mk (it:ah) (fp:List ah) (tn:Nat->br->Prop) (J:It) (H':Hp) (h0:itv=.ref it) (I:bF X pins σ H' s2) (T:xN X.prog X.w X.K tg J fp it tn) (t0:tn 0 s2.heap) (f:∀ b∈fp,qq X pins H' b) (q:R J H'):Wn X pins σ tg R itv s2
inductive Wo (X:Cx) (pins:List (ah×Obj)) (tn:Nat->br->Prop) (fp:List ah) (W:Nat->Nat->St->Hp->Prop) (n:Nat) (s':af):Prop
 | mk (i:Nat) (σ':St) (H':Hp) (I:bF X pins σ' H' s') (t:tn i s'.heap) (f:∀ b∈fp,H' b=none) (q:W i n σ' H'):Wo X pins tn fp W n s'
def PI (X:Cx) (tg iter:b9) (wi:TI):Prop :=
 ∀ (pins:List (ah×Obj)) (s:af) (σ:St) (H:Hp) (R:It->Hp->Prop),bF X pins σ H s->wi σ H R ->
  aq (aF X.prog X.w) X.A (dz iter X.env) (fun v s1=>aq (aF X.prog X.w) X.A (xC v) (Wn X pins σ tg R) X.xe s1) X.xe s
theorem HU {M : FJ} {A : bg} {E : a9 -> af -> Prop} {s : af} {tg : b9} {it : ah} {u : a9} {o : Obj} {n : String} {vs : Array a9} {Q : Unit -> af -> Prop} (ho : s.heap.get? it = some o) (hc : o.cls = .type n) (hd : o.data = .fields vs)
    (hn : ["enumerate", "zip", "dict_itemiterator", "dict_reverseitemiterator", "odict_iterator", "itertools.zip_longest", "itertools.pairwise"].contains n = false) (hQ : Q () s) : aq M A (gE tg (.ref it) u) Q E s := by
  unfold gE
  cases tg <;> first
    | exact ac hQ
    | (cases u <;> first
        | exact ac hQ
        | (refine a7 (wpAny_load ho ?_)
           rw [hc, hd]
           show aq M A (if (["enumerate", "zip", "dict_itemiterator", "dict_reverseitemiterator", "odict_iterator", "itertools.zip_longest", "itertools.pairwise"].contains n && vs[0]? == some (cf _)) = true then _ else _) Q E s
           rw [if_neg (by intro h; rw [hn, Az] at h; cases h)]
           exact ac hQ))
def Wp (K:a8) (a:ah):It :=
 ⟨fun i H=>∃ xs x,lF K H a xs/\xs[i]?=some x,fun i H x H'=>H'=H/\∀ xs,lF K H a xs->xs[i]?=some x,fun i H=>∃ xs,lF K H a xs/\xs.length<=i⟩
def Wq (K:a8) (a:ah):It :=
 ⟨fun i H=>∃ xs x,kn K H a xs/\xs[i]?=some x,fun i H x H'=>H'=H/\∀ xs,kn K H a xs->xs[i]?=some x,fun i H=>∃ xs,kn K H a xs/\xs.length<=i⟩
def VW (lo:Int) (n:Nat):It:=⟨fun i _=>i<n,fun i H x H'=>H'=H/\x=.int (lo + i),fun i _=>n<=i⟩
theorem JJ {P:aI}{w:bc}{K:a8}{tg:b9} (a it:ah):xN P w K tg (Wp K a) [it] it (fun i h=>h.IsListIter it a i) where
 mem:=by simp
 obj:=fun i h st b hb=>by
  have e:b=it:=by simpa using hb
  subst e
  obtain ⟨o,e,c,d⟩:=st
  exact ⟨o,e,fun v z=>by rw [d] at z;cases z⟩
 keep:=fun i h h' st k=>st.at fun o e=>k it (by simp) o e
 item:=by
  intro X hP hw hK hc i pins s σ H E I hf st hg
  subst hP hw hK
  obtain ⟨xs,x,hq,hx⟩:=hg
  obtain ⟨its,rv,p,hz⟩:=I.list hq
  obtain ⟨u,hu,ru⟩:=rv.get hx
  obtain ⟨f0,f1,f2,f3,f4,f5⟩:=hf it (by simp)
  refine wpAny_pyNext_list_item st p.isList (x:=u) (by simpa using hu) fun h' st' sb=>?_
  have I1:bF X pins σ H { s with heap:=h' }:=I.turned (t':=s.toks) (fun b o hb e=>(sb.2 b hb).trans e) f0 f1 f3 f4 f5
  obtain ⟨o,e,c,d⟩:=id st'
  exact ⟨u,rfl,HU (s:={ s with heap:=h' }) e c d (by decide) ⟨x,H,I1,ru,⟨rfl,fun ys hy=>by rw [I.list_inj hy hq];exact hx⟩,st',fun b hb=>(hf b hb).1⟩⟩
 done:=by
  intro X hP hw hK hc i pins s σ H E I hf st hg
  subst hP hw hK
  obtain ⟨xs,hq,hx⟩:=hg
  obtain ⟨its,rv,p,hz⟩:=I.list hq
  obtain ⟨f0,f1,f2,f3,f4,f5⟩:=hf it (by simp)
  have hl:=rv.length
  exact wpAny_pyNext_list_end (I.ok.hd hc) st p.isList (by simp;omega) fun h' eb=>⟨rfl,I.turned (t':=s.toks) (fun b o hb e=>eb b o hb e) f0 f1 f3 f4 f5⟩
 self:=fun _ _ _ _ _ st h=>wpAny_pyIter_listiter st h
theorem Gc {P:aI}{w:bc}{K:a8}{tg:b9} (a it:ah):xN P w K tg (Wq K a) [it] it (fun i h=>h.IsTupleIter it a i) where
 mem:=by simp
 obj:=fun i h st b hb=>by
  have e:b=it:=by simpa using hb
  subst e
  obtain ⟨o,e,c,d⟩:=st
  exact ⟨o,e,fun v z=>by rw [d] at z;cases z⟩
 keep:=fun i h h' st k=>st.at fun o e=>k it (by simp) o e
 item:=by
  intro X hP hw hK hc i pins s σ H E I hf st hg
  subst hP hw hK
  obtain ⟨xs,x,hq,hx⟩:=hg
  obtain ⟨its,rv,p,hz⟩:=I.tuple hq
  obtain ⟨u,hu,ru⟩:=rv.get hx
  obtain ⟨f0,f1,f2,f3,f4,f5⟩:=hf it (by simp)
  refine wpAny_pyNext_tuple_item st (show s.heap.IsTuple a its.toArray from p) (x:=u) (by simpa using hu) fun h' st' sb=>?_
  have I1:bF X pins σ H { s with heap:=h' }:=I.turned (t':=s.toks) (fun b o hb e=>(sb.2 b hb).trans e) f0 f1 f3 f4 f5
  obtain ⟨o,e,c,d⟩:=id st'
  exact ⟨u,rfl,HU (s:={ s with heap:=h' }) e c d (by decide) ⟨x,H,I1,ru,⟨rfl,fun ys hy=>by rw [I.tuple_inj hy hq];exact hx⟩,st',fun b hb=>(hf b hb).1⟩⟩
 done:=by
  intro X hP hw hK hc i pins s σ H E I hf st hg
  subst hP hw hK
  obtain ⟨xs,hq,hx⟩:=hg
  obtain ⟨its,rv,p,hz⟩:=I.tuple hq
  obtain ⟨f0,f1,f2,f3,f4,f5⟩:=hf it (by simp)
  have hl:=rv.length
  exact wpAny_pyNext_tuple_end (I.ok.hd hc) st (show s.heap.IsTuple a its.toArray from p) (by simp;omega) fun h' eb=>⟨rfl,I.turned (t':=s.toks) (fun b o hb e=>eb b o hb e) f0 f1 f3 f4 f5⟩
 self:=fun _ _ _ _ _ st h=>wpAny_pyIter_tupleiter st h
theorem Gd {P:aI}{w:bc}{K:a8}{tg:b9} (it:ah) (lo:Int) (n:Nat):xN P w K tg (VW lo n) [it] it (fun i h=>IsRangeIter h it (lo + (i:Nat) * 1) ((n:Int) - (i:Nat)) 1) where
 mem:=by simp
 obj:=fun i h st b hb=>by
  have e:b=it:=by simpa using hb
  subst e
  exact ⟨_,st,fun v z=>by
   have z':Data.fields _=Data.cell v:=z
   cases z'⟩
 keep:=fun i h h' st k=>k it (by simp) _ st
 item:=by
  intro X hP hw hK hc i pins s σ H E I hf st hg
  subst hP hw hK
  obtain ⟨f0,f1,f2,f3,f4,f5⟩:=hf it (by simp)
  have W:=Walks.range (prog:=X.prog) (w:=X.w) (I.ok.hd hc) it lo 1 n
  refine W.item i s _ _ hg st fun v h' tk hv st' kk=>?_
  obtain ⟨t,rfl⟩:=hv
  have I1:bF X pins σ H { s with heap:=h',toks:=tk }:=I.turned (fun b o hb e=>kk b o (by simpa using hb) e) f0 f1 f3 f4 f5
  refine ⟨_,rfl,HU (s:={ s with heap:=h',toks:=tk }) (n:="range_iterator") st' rfl rfl (by decide) ⟨.int (lo + i),H,I1,⟨t,?_⟩,⟨rfl,rfl⟩,st',fun b hb=>(hf b hb).1⟩⟩
  rw [Int.mul_one]
 done:=by
  intro X hP hw hK hc i pins s σ H E I hf st hg
  subst hP hw hK
  obtain ⟨f0,f1,f2,f3,f4,f5⟩:=hf it (by simp)
  exact wpAny_pyNext_range_end (I.ok.hd hc) st (by have:n<=i:=hg;omega) fun h' eb=>⟨rfl,I.turned (t':=s.toks) (fun b o hb e=>eb b o hb e) f0 f1 f3 f4 f5⟩
 self:=fun _ _ _ _ _ st h=>wpAny_pyIter_rangeiter st h
end L2
namespace L2
open PySem PySem.Spec PyProof.Rows
section
variable {X:Cx}{tg:b9}
def Uo (K:a8) (tl:TE):TI:=fun σ H R=>tl σ H fun x H1=>∃ a,x=.ref a/\(∃ xs,lF K H1 a xs)/\R (Wp K a) H1
def Wr (K:a8) (tl:TE):TI:=fun σ H R=>tl σ H fun x H1=>∃ a,x=.ref a/\(∃ xs,kn K H1 a xs)/\R (Wq K a) H1
theorem uo {l:b9}{tl:TE} (hl:PE X l tl):PI X tg l (Uo X.K tl):=by
 intro pins s σ H R I h
 refine fD (hl pins s σ H _ I h) fun v s1 h_16=>?_
 obtain ⟨x,H1,I1,r1,q1⟩:=h_16
 obtain ⟨a,e,⟨xs,hq⟩,q⟩:=q1
 subst e
 cases r1
 obtain ⟨its,rv,p,hz⟩:=I1.list hq
 refine iM p.isList ?_
 refine ⟨s1.heap.objs.size,[s1.heap.objs.size],_,_,H1,rfl,I1.kept (t':=s1.toks) fun b o e=>ag _ e,JJ a _,⟨_,ay _ rfl,rfl,rfl⟩,fun b hb=>?_,q⟩
 have e:b=s1.heap.objs.size:=by simpa using hb
 subst e
 exact I1.fpOk (au _) (I1.hok.fresh (au _))
theorem LO {l:b9}{tl:TE} (hl:PE X l tl):PI X tg l (Wr X.K tl):=by
 intro pins s σ H R I h
 refine fD (hl pins s σ H _ I h) fun v s1 h_17=>?_
 obtain ⟨x,H1,I1,r1,q1⟩:=h_17
 obtain ⟨a,e,⟨xs,hq⟩,q⟩:=q1
 subst e
 cases r1
 obtain ⟨its,rv,p,hz⟩:=I1.tuple hq
 refine fY (show s1.heap.IsTuple a its.toArray from p) ?_
 refine ⟨s1.heap.objs.size,[s1.heap.objs.size],_,_,H1,rfl,I1.kept (t':=s1.toks) fun b o e=>ag _ e,Gc a _,⟨_,ay _ rfl,rfl,rfl⟩,fun b hb=>?_,q⟩
 have e:b=s1.heap.objs.size:=by simpa using hb
 subst e
 exact I1.fpOk (au _) (I1.hok.fresh (au _))
theorem LP {pins:List (ah×Obj)}{σ:St}{H:Hp}{s:af}{R:It->Hp->Prop}{E:a9->af->Prop}{lo hi:Int}{t u v:Tok}{tk:Nat} (I:bF X pins σ H s) (h1:-(2 ^ 62)<=lo) (h2:lo<2 ^ 62) (h3:-(2 ^ 62)<=hi) (h4:hi<2 ^ 62)
  (q:R (VW lo (hi - lo).toNat) H):aq (aF X.prog X.w) X.A (xC (.ref s.heap.objs.size)) (Wn X pins σ tg R) E { s with heap:=s.heap.push { cls:=.type "range",data:=.fields #[.int lo t,.int hi u,.int 1 v] },toks:=tk }:=by
 refine wpAny_pyIter_range (IsRange.new ..) (small_one h1 h2 h3 h4) ?_
 have I1:bF X pins σ H { s with heap:=s.heap.push { cls:=.type "range",data:=.fields #[.int lo t,.int hi u,.int 1 v] },toks:=tk }:=I.kept fun b o e=>ag _ e
 refine ⟨(s.heap.push { cls:=.type "range",data:=.fields #[.int lo t,.int hi u,.int 1 v] }).objs.size,[(s.heap.push { cls:=.type "range",data:=.fields #[.int lo t,.int hi u,.int 1 v] }).objs.size],_,_,H,rfl,
  I1.kept (t':=tk) fun b o e=>ag _ e,Gd _ lo (hi - lo).toNat,?_,fun b hb=>?_,q⟩
 ·have e1:lo + ((0:Nat):Int) * 1=lo:=by simp
  have e2:(((hi - lo).toNat:Nat):Int) - ((0:Nat):Int)=Builtin.Range.rangeSize lo hi 1:=by rw [rangeSize_one];split<;>omega
  show IsRangeIter _ _ (lo + ((0:Nat):Int) * 1) ((((hi - lo).toNat:Nat):Int) - ((0:Nat):Int)) 1
  rw [e1,e2]
  exact ay _ rfl
 ·have e:b=(s.heap.push { cls:=.type "range",data:=.fields #[.int lo t,.int hi u,.int 1 v] }).objs.size:=by simpa using hb
  subst e
  exact I1.fpOk (au _) (I1.hok.fresh (au _))
def Up (ta:TA):TI:=fun σ H R=>ta σ H fun vs H1=>∃ j:Int,vs=[.int j]/\-(2 ^ 62)<=j/\j<2 ^ 62/\R (VW 0 j.toNat) H1
theorem JK {a:b9}{ta:TA}{p pos:Pos} (hg:Gl X "range") (hm:X.mg "range"=none) (ha:PA X [a] ta) (hs:az [a] X.env=[(false,dz a X.env)]:=by rfl):PI X tg (.Call (.Name "range" p) [a] [] pos) (Up ta):=by
 intro pins s σ H R I h
 refine Call_ (sY I hg hm boot_range (eW (fD (ha pos pins s σ H _ I h) fun us s1 ⟨vs,H1,I1,r1,q1⟩=>?_) hs rfl))
 obtain ⟨j,e,q1,q2,q⟩:=q1
 subst e
 cases r1 with
 | cons r rr =>
  cases rr
  obtain ⟨t,rfl⟩:=r
  exact call_range_1 (LP I1 (by omega) (by omega) q1 q2 (by simpa using q))
inductive Wt (g:TG) (tb:TS) (D:sX) (σ:St) (J:It) (H1:Hp):Prop
 | mk (W:Nat->Nat->St->Hp->Prop) (w0:∃ m,W 0 m σ H1) (turn:∀ i m σ H,W i m σ H ->
 (J.stop i H/\D.nx σ H)\/(J.go i H/\∃ N:St->Hp->Prop,(∀ σ' H',N σ' H'->∃ m',m'<m/\W (i + 1) m' σ' H')/\∀ x H',J.yld i H x H'->g x σ H' fun σ2 H2=>tb { D with nx:=N,ct:=N,bk:=D.nx } σ2 H2)):Wt g tb D σ J H1
def Wu (wi:TI) (g:TG) (tb:TS):TS:=fun D σ H=>wi σ H (Wt g tb D σ)
def vA (fp:List ah) (h:br):List (ah×Obj):=fp.filterMap fun b=>(h.get? b).map fun o=>(b,o)
theorem jQ {fp:List ah}{h:br}{b:ah}{o:Obj} (hb:b∈fp) (e:h.get? b=some o):(b,o)∈vA fp h:=List.mem_filterMap.mpr ⟨b,hb,by rw [e];rfl⟩
theorem JL {fp:List ah}{h:br}{p:ah×Obj} (hp:p∈vA fp h):p.1∈fp/\h.get? p.1=some p.2:=by
 obtain ⟨b,hb,e⟩:=List.mem_filterMap.mp hp
 cases q:h.get? b with
 | none=>rw [q] at e;cases e
 | some o =>
  rw [q] at e
  have e':(b,o)=p:=bJ e
  subst e'
  exact ⟨hb,q⟩
theorem bF.pinned {pins:List (ah×Obj)}{σ:St}{H:Hp}{s:af}{fp:List ah} (I:bF X pins σ H s) (hf:∀ b∈fp,qq X pins H b) (ho:∀ b∈fp,∃ o,s.heap.get? b=some o/\∀ v,o.data≠.cell v):bF X (pins++vA fp s.heap) σ H s :=
 I.pins_of fun p hp=>(List.mem_append.mp hp).elim (fun z=>I.pin p (aM _ z)) fun z=>by
  obtain ⟨hb,e⟩:=JL z
  obtain ⟨f0,f1,f2,_⟩:=hf p.1 hb
  obtain ⟨o,e',d⟩:=ho p.1 hb
  rw [e] at e';cases e'
  exact ⟨e,f0,f1,f2,d⟩
theorem bF.unpinned {pins pl:List (ah×Obj)}{σ:St}{H:Hp}{s:af} (I:bF X (pins++pl) σ H s):bF X pins σ H s:=I.pins_of fun p hp=>I.pin p (aM _ (bP _ hp))
theorem LQ {iter:b9}{body:List cr}{wi:TI}{g:TG}{tb:TS}{pos:Pos} (hp:PassesOwn (aF X.prog X.w) X.A X.env X.xe) (hc:X.calm=true) (hi:PI X tg iter wi) (hg:PG X tg g) (hb:z_ X body tb)
  (hs:∀ x,eg iter X.env x=pure x:=by intro _;rfl):PS X (.For tg iter body [] pos) (Wu wi g tb):=by
 intro pins s σ H D I h
 refine wpAny_For (fD (hi pins s σ H _ I h) fun v s1 h1=>fD h1 fun itv s2 h2=>?_) hs
 obtain ⟨it,fp,tn,J,H2,e,I2,T,st2,f2,W,⟨m0,w0⟩,turn⟩:=h2
 subst e
 have stat:∀ {H':Hp},(∀ b∈fp,H' b=none)->∀ b∈fp,qq X pins H' b:=fun hn b hb=>⟨hn b hb,(f2 b hb).f1,(f2 b hb).f2,(f2 b hb).f3,(f2 b hb).f4,(f2 b hb).f5⟩
 refine codeAny_forLoop_any (Wo X pins tn fp W) ?_ m0 ⟨0,σ,H2,I2,st2,fun b hb=>(f2 b hb).1,w0⟩
 rintro n s3 ⟨i,σ3,H3,I3,st3,fr3,w3⟩
 rcases turn i n σ3 H3 w3 with ⟨stop,qn⟩ | ⟨go,N,hN,step⟩
 ·refine ir hp (fD (T.done X rfl rfl rfl hc i pins s3 σ3 H3 X.xe I3 (stat fr3) st3 stop) fun r s4 ⟨hr,I4⟩=>?_)
  subst hr
  exact ng ⟨σ3,H3,I4,qn⟩
 ·refine ir hp (fD (T.item X rfl rfl rfl hc i pins s3 σ3 H3 X.xe I3 (stat fr3) st3 go) fun r s4 ⟨u,hr,h4⟩=>?_)
  subst hr
  refine ir hp (fD h4 fun _ s5 ⟨x,H5,I5,r5,y5,st5,fr5⟩=>?_)
  have I5':=I5.pinned (stat fr5) (T.obj _ _ st5)
  refine ir hp (fD (hg _ s5 σ3 H5 x u _ I5' r5 (step x H5 y5)) fun _ s6 ⟨σ6,H6,I6,q6⟩=>?_)
  refine ir hp (fD (hb _ s6 σ6 H6 _ I6 q6) fun f s7 q7=>?_)
  have again:∀ {σ7:St}{H7:Hp},bF X (pins++vA fp s5.heap) σ7 H7 s7->N σ7 H7->∃ m,m<n/\Wo X pins tn fp W m s7:=fun {σ7 H7} I7 n7=>by
   obtain ⟨m',hm,w7⟩:=hN σ7 H7 n7
   refine ⟨m',hm,i + 1,σ7,H7,I7.unpinned,T.keep _ _ _ st5 fun b hb o e=>(I7.pin (b,o) (aM _ (aM _ (jQ hb e)))).1,fun b hb=>?_,w7⟩
   obtain ⟨o,e,d⟩:=T.obj _ _ st5 b hb
   exact (I7.pin (b,o) (aM _ (aM _ (jQ hb e)))).2.1
  cases f with
  | next=>obtain ⟨σ7,H7,I7,n7⟩:=q7;exact again I7 n7
  | cont=>obtain ⟨σ7,H7,I7,n7⟩:=q7;exact again I7 n7
  | brk=>obtain ⟨σ7,H7,I7,q7⟩:=q7;exact ⟨σ7,H7,I7.unpinned,q7⟩
  | ret v=>obtain ⟨x7,σ7,H7,I7,r7,q7⟩:=q7;exact ⟨x7,σ7,H7,I7.unpinned,r7,q7⟩
end
end L2
namespace L2
open PySem PySem.Spec PyProof.Rows
abbrev R2:=V->V->Hp->VK->Prop
def pZ (X:Cx) (f:a9->a9->Sem a9) (r:R2):Prop :=
 ∀ (pins:List (ah×Obj)) (s:af) (σ:St) (H:Hp) (x y:V) (v u:a9) (Q:VK),bF X pins σ H s->dm x v->dm y u->r x y H Q ->
  aq (aF X.prog X.w) X.A (f v u) (EP X pins σ Q) X.xe s
def Wv (X:Cx) (f:a9->Sem a9) (r:V->Hp->VK->Prop):Prop :=
 ∀ (pins:List (ah×Obj)) (s:af) (σ:St) (H:Hp) (x:V) (v:a9) (Q:VK),bF X pins σ H s->dm x v->r x H Q ->
  aq (aF X.prog X.w) X.A (f v) (EP X pins σ Q) X.xe s
def j5 (X:Cx) (f:a9) (r:List V->Hp->VK->Prop):Prop :=
 ∀ (pins:List (ah×Obj)) (s:af) (σ:St) (H:Hp) (xs:List V) (us:List a9) (Q:VK),bF X pins σ H s->dn xs us->r xs H Q ->
  aq (aF X.prog X.w) X.A (call f us) (EP X pins σ Q) X.xe s
def Ww (X:Cx) (r:V->Hp->(Bool->Hp->Prop)->Prop):Prop :=
 ∀ (pins:List (ah×Obj)) (s:af) (σ:St) (H:Hp) (x:V) (v:a9) (Q:Bool->Hp->Prop),bF X pins σ H s->dm x v->r x H Q ->
  aq (aF X.prog X.w) X.A (truthy v) (TP X pins σ Q) X.xe s
def Uq (r:R2) (ta tb:TE):TE:=fun σ H Q=>ta σ H fun x H1=>tb σ H1 fun y H2=>r x y H2 Q
def XY (r:V->Hp->VK->Prop) (ta:TE):TE:=fun σ H Q=>ta σ H fun x H1=>r x H1 Q
inductive Xq (C:Int->Int->Prop) (g:Int->Int->V) (x:V) (y:V) (H:Hp) (Q:VK):Prop
 | mk (i j:_) (h0:x=.int i) (h1:y=.int j) (h2:C i j) (h3:Q (g i j) H):Xq C g x y H Q
def rI (C:Int->Int->Prop) (g:Int->Int->V):R2:=Xq C g
inductive Ur (g:Int->Int->V) (x:V) (y:V) (H:Hp) (Q:VK):Prop
 | mk (i j:_) (h0:x=.int i) (h1:y=.int j) (h2:Q (g i j) H):Ur g x y H Q
def SA (g:Int->Int->V):R2:=Ur g
inductive Xr (g:Int->V) (x:V) (H:Hp) (Q:VK):Prop
 | mk (i:_) (h0:x=.int i) (h1:Q (g i) H):Xr g x H Q
def rU (g:Int->V):V->Hp->VK->Prop:=Xr g
section
variable {X:Cx}{a b c:b9}{ta tb tc:TE}{pos:Pos}
theorem SB (ha:PE X a ta) (hb:PE X b tb) {pins:List (ah×Obj)}{s:af}{σ:St}{H:Hp}{R:V->V->Hp->Prop} (I:bF X pins σ H s)
  (h:ta σ H fun x H1=>tb σ H1 fun y H2=>R x y H2) {Q:a9->af->Prop}{f:a9->a9->Sem a9}
  (hf:∀ v u s2 x y H2,bF X pins σ H2 s2->dm x v->dm y u->R x y H2->aq (aF X.prog X.w) X.A (f v u) Q X.xe s2) :
  aq (aF X.prog X.w) X.A (dz a X.env) (fun v s₁=>aq (aF X.prog X.w) X.A (dz b X.env) (fun u s₂=>aq (aF X.prog X.w) X.A (f v u) Q X.xe s₂) X.xe s₁) X.xe s:=by
 refine fD (ha pins s σ H _ I h) fun v s1 h_19=>?_
 obtain ⟨x,H1,I1,r1,q1⟩:=h_19
 refine fD (hb pins s1 σ H1 _ I1 q1) fun u s2 h_20=>?_
 obtain ⟨y,H2,I2,r2,q2⟩:=h_20
 exact hf v u s2 x y H2 I2 r1 r2 q2
theorem Rb {op:Operator}{r:R2} (ho:pZ X (fZ op) r) (ha:PE X a ta) (hb:PE X b tb):PE X (.BinOp a op b pos) (Uq r ta tb):=by
 intro pins s σ H Q I h
 exact wpAny_BinOp (SB ha hb I h fun v u s2 x y H2 I2 rx ry q=>ho pins s2 σ H2 x y v u Q I2 rx ry q)
theorem Us {op:UnaryOp}{r:V->Hp->VK->Prop} (ho:Wv X (unaryOp op) r) (ha:PE X a ta):PE X (.UnaryOp op a pos) (XY r ta):=by
 intro pins s σ H Q I h
 exact UnaryOp_ (fD (ha pins s σ H _ I h) fun v s1 h_21=>by obtain ⟨x,H1,I1,r1,q1⟩:=h_21;exact ho pins s1 σ H1 x v Q I1 r1 q1)
theorem Wx {f:a9->a9->Sem a9}{C:Int->Int->Prop}{g:Int->Int->Int}
  (rule:∀ (i j:Int) (t u:Tok) (s:af) (Q:a9->af->Prop) (E:a9->af->Prop),C i j->Q (.int (g i j) s.toks) { s with toks:=s.toks + 1 }->aq (aF X.prog X.w) X.A (f (.int i t) (.int j u)) Q E s) :
  pZ X f (rI C fun i j=>.int (g i j)):=by
 intro pins s σ H x y v u Q I rx ry h
 obtain ⟨i,j,rfl,rfl,hc,q⟩:=h
 obtain ⟨t,rfl⟩:=rx
 obtain ⟨t',rfl⟩:=ry
 exact rule i j t t' s _ _ hc ⟨.int (g i j),H,I.tok _,⟨_,rfl⟩,q⟩
theorem Wz {f:a9->a9->Sem a9}{g:Int->Int->Int}
  (rule:∀ (i j:Int) (t u:Tok) (s:af) (Q:a9->af->Prop) (E:a9->af->Prop),Q (.int (g i j) s.toks) { s with toks:=s.toks + 1 }->aq (aF X.prog X.w) X.A (f (.int i t) (.int j u)) Q E s) :
  pZ X f (SA fun i j=>.int (g i j)):=by
 intro pins s σ H x y v u Q I rx ry h
 obtain ⟨i,j,rfl,rfl,q⟩:=h
 obtain ⟨t,rfl⟩:=rx
 obtain ⟨t',rfl⟩:=ry
 exact rule i j t t' s _ _ ⟨.int (g i j),H,I.tok _,⟨_,rfl⟩,q⟩
theorem SC {f:a9->a9->Sem a9}{g:Int->Int->Bool}
  (rule:∀ (i j:Int) (t u:Tok) (s:af) (Q:a9->af->Prop) (E:a9->af->Prop),Q (.bool (g i j)) s->aq (aF X.prog X.w) X.A (f (.int i t) (.int j u)) Q E s) :
  pZ X f (SA fun i j=>.bl (g i j)):=by
 intro pins s σ H x y v u Q I rx ry h
 obtain ⟨i,j,rfl,rfl,q⟩:=h
 obtain ⟨t,rfl⟩:=rx
 obtain ⟨t',rfl⟩:=ry
 exact rule i j t t' s _ _ ⟨.bl (g i j),H,I,rfl,q⟩
def WA (i j:Int):Prop:=0<j/\j<1073741824
def SD (i j:Int):Prop:=(-(2 ^ 64)<i/\i<2 ^ 64)\/(-(2 ^ 64)<j/\j<2 ^ 64)
theorem SD.ok {i j:Int} (h:SD i j):IntMulOk i j:=by
 rcases h with ⟨h1,h2⟩ | ⟨h1,h2⟩
 ·exact .of_left (intBits_le_64 h1 h2)
 ·exact .of_right (intBits_le_64 h1 h2)
theorem SE:pZ X (fZ .Add) (SA fun i j=>.int (i + j)):=Wz fun _ _ _ _ _ _ _ q=>add_int q
theorem SF:pZ X (fZ .Mult) (rI SD fun i j=>.int (i * j)):=Wx fun _ _ _ _ _ _ _ hc q=>mul_int q hc.ok
theorem Pm:pZ X (fZ .FloorDiv) (rI WA fun i j=>.int (i / j)):=Wx fun i j _ _ _ _ _ hc q=>by
 have h1:(0:Int)<j:=hc.1
 have h2:j<1073741824:=hc.2
 exact floordiv_int (by omega) (by rw [Int.fdiv_eq_ediv_of_nonneg i (by omega)];exact q) (.inl (PyProof.noPylong_small (by omega)))
theorem SG:pZ X (fZ .Mod) (rI (fun _ j=>0<j) fun i j=>.int (i % j)):=Wx fun i j _ _ _ _ _ hc q=>by
 have h1:(0:Int)<j:=hc
 exact mod_int' (by omega) (by rw [Int.fmod_eq_emod_of_nonneg i (by omega)];exact q)
theorem XZ {f:a9->Sem a9}{g:Int->Int}
  (rule:∀ (i:Int) (t:Tok) (s:af) (Q:a9->af->Prop) (E:a9->af->Prop),Q (.int (g i) s.toks) { s with toks:=s.toks + 1 }->aq (aF X.prog X.w) X.A (f (.int i t)) Q E s) :
  Wv X f (rU fun i=>.int (g i)):=by
 intro pins s σ H x v Q I rx h
 obtain ⟨i,rfl,q⟩:=h
 obtain ⟨t,rfl⟩:=rx
 exact rule i t s _ _ ⟨.int (g i),H,I.tok _,⟨_,rfl⟩,q⟩
theorem SH:Wv X (unaryOp .USub) (rU fun i=>.int (-i)):=XZ fun _ _ _ _ _ q=>neg_int q
end
def WB:V->V->Bool
 | .non,.non=>true | .non,.int _=>true | .int _,.non=>true | .non,.bl _=>true | .bl _,.non=>true | .non,.str _=>true | .str _,.non=>true
 | .int _,.int _=>true | .bl _,.bl _=>true | .str _,.str _=>true | .byt _,.byt _=>true
 | .int _,.str _=>true | .str _,.int _=>true | .bl _,.str _=>true | .str _,.bl _=>true
 | _,_=>false
def X_:R2:=fun x y H Q=>WB x y=true/\Q (.bl (!decide (x=y))) H
theorem Pn {i j:Int}:decide (V.int i=V.int j)=(i == j):=by
 rw [ef]
 simp
theorem SJ {i j:Bool}:decide (V.bl i=V.bl j)=(i == j):=by
 rw [ef]
 simp
theorem Po {i j:Str}:decide (V.str i=V.str j)=(i == j):=by
 rw [ef]
 simp
theorem Pp {i j:Array UInt8}:decide (V.byt i=V.byt j)=(i.toList == j.toList):=by
 rw [ef]
 cases i
 cases j
 simp
section
variable {X:Cx}{a b c:b9}{ta tb tc:TE}{pos:Pos}
theorem gO {pins:List (ah×Obj)}{σ:St}{H:Hp}{s:af}{Q:VK}{k k':Bool} (I:bF X pins σ H s) (q:Q (.bl k) H) (e:k=k'):EP X pins σ Q (.bool k') s:=by
 subst e
 exact ⟨.bl k,H,I,rfl,q⟩
theorem Ut:pZ X (bG .NotEq) X_:=by
 intro pins s σ H x y v u Q I rx ry h
 obtain ⟨hs,q⟩:=h
 cases x with
 | non =>
  cases rx
  cases y with
  | non=>cases ry;exact PySem.EqNone.ne_none_none (gO I q (by simp))
  | bl j=>cases ry;exact PySem.EqNone.ne_none_bool (gO I q (by simp))
  | int j=>obtain ⟨t',rfl⟩:=ry;exact PySem.EqNone.ne_none_int (gO I q (by simp))
  | str j=>obtain ⟨t',rfl⟩:=ry;exact PySem.EqNone.ne_none_str (gO I q (by simp))
  | _=>exact absurd (show false=true from hs) aS
 | bl i =>
  cases rx
  cases y with
  | non=>cases ry;exact PySem.EqNone.ne_bool_none (gO I q (by simp))
  | bl j=>cases ry;exact ne_bool (gO I q (congrArg not SJ))
  | str j=>obtain ⟨t',rfl⟩:=ry;exact PySem.EqMixed.ne_bool_str (gO I q (by simp))
  | _=>exact absurd (show false=true from hs) aS
 | int i =>
  obtain ⟨t,rfl⟩:=rx
  cases y with
  | non=>cases ry;exact PySem.EqNone.ne_int_none (gO I q (by simp))
  | int j=>obtain ⟨t',rfl⟩:=ry;exact ne_int (gO I q (congrArg not Pn))
  | str j=>obtain ⟨t',rfl⟩:=ry;exact PySem.EqMixed.ne_int_str (gO I q (by simp))
  | _=>exact absurd (show false=true from hs) aS
 | str i =>
  obtain ⟨t,rfl⟩:=rx
  cases y with
  | non=>cases ry;exact PySem.EqNone.ne_str_none (gO I q (by simp))
  | bl j=>cases ry;exact PySem.EqMixed.ne_str_bool (gO I q (by simp))
  | int j=>obtain ⟨t',rfl⟩:=ry;exact PySem.EqMixed.ne_str_int (gO I q (by simp))
  | str j=>obtain ⟨t',rfl⟩:=ry;exact ne_str (gO I q (congrArg not Po))
  | _=>exact absurd (show false=true from hs) aS
 | byt i =>
  obtain ⟨t,rfl⟩:=rx
  cases y with
  | byt j=>obtain ⟨t',rfl⟩:=ry;exact PySem.W.ne_bytes (gO I q (congrArg not Pp))
  | _=>exact absurd (show false=true from hs) aS
 | _=>cases y<;>exact absurd (show false=true from hs) aS
theorem Uu:pZ X (bG .Lt) (SA fun i j=>.bl (decide (i<j))):=SC fun _ _ _ _ _ _ _ q=>lt_int q
theorem Uv:pZ X (bG .LtE) (SA fun i j=>.bl (decide (i<=j))):=SC fun _ _ _ _ _ _ _ q=>le_int q
theorem Uw:pZ X (bG .Gt) (SA fun i j=>.bl (decide (j<i))):=SC fun _ _ _ _ _ _ _ q=>gt_int q
theorem JM:pZ X (bG .Lt) (fun x y H Q=>∃ i j,x=.str i/\y=.str j/\Q (.bl (decide (i.cps.toList<j.cps.toList))) H):=by
 intro pins s σ H x y v u Q I rx ry h
 obtain ⟨i,j,rfl,rfl,q⟩:=h
 obtain ⟨t,rfl⟩:=rx
 obtain ⟨t',rfl⟩:=ry
 exact lt_str (gO I q rfl)
theorem SK:pZ X (bG .Is) (fun x y H Q=>y=.non/\Q (.bl (decide (x=.non))) H):=by
 intro pins s σ H x y v u Q I rx ry h
 obtain ⟨rfl,q⟩:=h
 cases ry
 refine is_none_gen (gO I q ?_)
 cases x<;>first
  | (cases rx;rfl)
  | (obtain ⟨t,rfl⟩:=rx;rfl)
theorem Pq:pZ X (bG .IsNot) (fun x y H Q=>y=.non/\Q (.bl (!decide (x=.non))) H):=by
 intro pins s σ H x y v u Q I rx ry h
 obtain ⟨rfl,q⟩:=h
 cases ry
 refine isnot_none_gen (gO I q ?_)
 cases x<;>first
  | (cases rx;rfl)
  | (obtain ⟨t,rfl⟩:=rx;rfl)
theorem Ge (b:b9) {op:xb} (h:op≠.In:=by decide) (h2:op≠.NotIn:=by decide):gM op b=false:=by
 have e1:(op == CmpOp.In)=false:=by cases op<;>first | rfl | exact absurd rfl h
 have e2:(op == CmpOp.NotIn)=false:=by cases op<;>first | rfl | exact absurd rfl h2
 cases b<;>simp [gM,e1,e2]
theorem Pr {op:xb}{r:R2} (ho:pZ X (bG op) r) (ha:PE X a ta) (hb:PE X b tb) (hm:gM op b=false):PE X (.Compare a [op] [b] pos) (Uq r ta tb):=by
 intro pins s σ H Q I h
 exact wpAny_Compare1 (SB ha hb I h fun v u s2 x y H2 I2 rx ry q=>ho pins s2 σ H2 x y v u Q I2 rx ry q) hm
def Rc (t:TE):TT:=fun σ H Q=>t σ H fun x H'=>∃ k,x=.bl k/\Q k H'
theorem HV {op:xb}{r:R2} (ho:pZ X (bG op) r) (ha:PE X a ta) (hb:PE X b tb) (hm:gM op b=false):PT X (.Compare a [op] [b] pos) (Rc (Uq r ta tb)):=by
 intro pins s σ H Q I h
 refine OL (fD (ha pins s σ H _ I h) fun v s1 ⟨x,H1,I1,r1,q1⟩=>fD (hb pins s1 σ H1 _ I1 q1) fun u s2 ⟨y,H2,I2,r2,q2⟩ =>
  fD (ho pins s2 σ H2 x y v u _ I2 r1 r2 q2) fun c s3 ⟨z,H3,I3,r3,k,e,q3⟩=>?_) hm
 subst e
 cases r3
 exact dJ ⟨H3,I3,q3⟩
def Gf (r r':R2) (ta tb tc:TE):TE:=fun σ H Q=>ta σ H fun x H1=>tb σ H1 fun y H2=>r x y H2 fun z H3=>∃ k,z=.bl k /\
 (if k=true then tc σ H3 fun w' H4=>r' y w' H4 Q else Q (.bl false) H3)
theorem LR {op op':xb}{r r':R2} (ho:pZ X (bG op) r) (ho':pZ X (bG op') r') (ha:PE X a ta) (hb:PE X b tb) (hc:PE X c tc)
  (hm:L8 [op,op'] [b,c]=false:=by with_unfolding_all rfl):PE X (.Compare a [op,op'] [b,c] pos) (Gf r r' ta tb tc):=by
 intro pins s σ H Q I h
 refine Compare_chain (fD (ha pins s σ H _ I h) fun v s1 ⟨x,H1,I1,r1,q1⟩=>chain_link (fD (hb pins s1 σ H1 _ I1 q1) fun u s2 ⟨y,H2,I2,r2,q2⟩ =>
  fD (ho pins s2 σ H2 x y v u _ I2 r1 r2 q2) fun d s3 ⟨z,H3,I3,r3,k,e,q3⟩=>?_)) hm
 subst e
 cases r3
 refine dJ ?_
 cases k with
 | false=>exact ite_ff ⟨.bl false,H3,I3,rfl,q3⟩
 | true=>exact ite_tt (chain_last (fD (hc pins s3 σ H3 _ I3 q3) fun w' s4 h_22=>by obtain ⟨z',H4,I4,r4,q4⟩:=h_22;exact ho' pins s4 σ H4 y z' u w' Q I4 r2 r4 q4))
theorem LS {op op':xb}{r r':R2} (ho:pZ X (bG op) r) (ho':pZ X (bG op') r') (ha:PE X a ta) (hb:PE X b tb) (hc:PE X c tc)
  (hm:L8 [op,op'] [b,c]=false:=by with_unfolding_all rfl):PT X (.Compare a [op,op'] [b,c] pos) (Rc (Gf r r' ta tb tc)):=by
 intro pins s σ H Q I h
 refine isTrue_chain (fD (ha pins s σ H _ I h) fun v s1 ⟨x,H1,I1,r1,q1⟩=>test_link (fD (hb pins s1 σ H1 _ I1 q1) fun u s2 ⟨y,H2,I2,r2,q2⟩ =>
  fD (ho pins s2 σ H2 x y v u _ I2 r1 r2 q2) fun d s3 ⟨z,H3,I3,r3,k,e,q3⟩=>?_)) hm
 subst e
 cases r3
 refine dJ ?_
 cases k with
 | false =>
  obtain ⟨k',e',q'⟩:=q3
  cases e'
  exact ite_ff ⟨H3,I3,q'⟩
 | true =>
  refine ite_tt (test_last (fD (hc pins s3 σ H3 _ I3 q3) fun w' s4 ⟨z',H4,I4,r4,q4⟩=>fD (ho' pins s4 σ H4 y z' u w' _ I4 r2 r4 q4) fun d' s5 ⟨z2,H5,I5,r5,k2,e2,q5⟩=>?_))
  subst e2
  cases r5
  exact dJ ⟨H5,I5,q5⟩
def Ux (K:a8) (x:V) (H:Hp) (k:Bool):Prop :=
 match x with
 | .non=>k=false
 | .bl b=>k=b
 | .int i=>k=(i != 0)
 | .str y=>y.length<=sizeLine/\k=((y.length:Int) != 0)
 | .byt y=>y.size<=sizeLine/\k=((y.size:Int) != 0)
 | .ref p=>(∃ xs,lF K H p xs/\k=!xs.isEmpty)\/(∃ xs,kn K H p xs/\k=!xs.isEmpty)\/∃ kvs,H p=some (.dK kvs)/\k=!kvs.isEmpty
 | _=>False
theorem Gg {κ:Type}{kvs:List (κ×V)}{vs:List (κ×a9)} (r:KV kvs vs):(!vs.isEmpty)=!kvs.isEmpty:=by
 cases r<;>rfl
theorem xO {xs:List V}{its:List a9} (r:dn xs its):(!its.toArray.isEmpty)=!xs.isEmpty:=by
 cases r<;>simp
theorem vB:(sizeLine:Nat)<2 ^ 63:=by rw [De];decide
theorem SL:Ww X (fun x H Q=>∃ k,Ux X.K x H k/\Q k H):=by
 intro pins s σ H x v Q I rx h
 obtain ⟨k,e,q⟩:=h
 have hl:=vB
 have hs:sizeLine=16777216:=De
 cases x with
 | non =>
  cases rx
  have e':k=false:=e
  subst e'
  exact truthy_none ⟨H,I,q⟩
 | bl b =>
  cases rx
  have e':k=b:=e
  subst e'
  exact dJ ⟨H,I,q⟩
 | int i =>
  obtain ⟨t,rfl⟩:=rx
  have e':k=(i != 0):=e
  subst e'
  exact PySem.P.truthy_int ⟨H,I,q⟩
 | str y =>
  obtain ⟨t,rfl⟩:=rx
  obtain ⟨hy,e'⟩:y.length<=sizeLine/\k=((y.length:Int) != 0):=e
  subst e'
  exact PySem.P.truthy_str (by omega) ⟨H,I.tok _,q⟩
 | byt y =>
  obtain ⟨t,rfl⟩:=rx
  obtain ⟨hy,e'⟩:y.size<=sizeLine/\k=((y.size:Int) != 0):=e
  subst e'
  exact PySem.W.truthy_bytes (by omega) ⟨H,I.tok _,q⟩
 | ref p =>
  cases rx
  have e':(∃ xs,lF X.K H p xs/\k=!xs.isEmpty)\/(∃ xs,kn X.K H p xs/\k=!xs.isEmpty)\/∃ kvs,H p=some (.dK kvs)/\k=!kvs.isEmpty:=e
  rcases e' with ⟨xs,hx,e'⟩ | ⟨xs,hx,e'⟩ | ⟨kvs,hx,e'⟩
  ·subst e'
   obtain ⟨its,r,pl,hz⟩:=I.list hx
   have hlen:=r.length
   exact wpAny_truthy_list pl.isList (by simp only [aJ];omega) ⟨H,I.tok _,by rw [xO r];exact q⟩
  ·subst e'
   obtain ⟨its,r,pl,hz⟩:=I.tuple hx
   have hlen:=r.length
   exact truthy_tuple pl (by simp only [aJ];omega) ⟨H,I.tok _,by rw [xO r];exact q⟩
  ·subst e'
   obtain ⟨hz,hS,vs,r,m⟩:kvs.length<=sizeLine/\(p == fW)=false/\∃ vs,KV kvs vs/\s.heap.DictOf (dh X.prog X.w) p vs:=I.hok p _ hx
   have hlen:kvs.length=vs.length:=iT r
   exact wpAny_truthy_dict hS m (by omega) ⟨H,I.tok _,by rw [Gg r];exact q⟩
 | _=>exact (show False from e).elim
theorem LU (ha:PE X a ta) (he:∀ whole,vm a X.env whole=(do let v <- whole;wj a.pos;Fv [v] (truthy v))) :
  PT X a (fun σ H Q=>ta σ H fun x H'=>∃ k,Ux X.K x H' k/\Q k H'):=by
 intro pins s σ H Q I h
 exact isTrue_plain (fD (ha pins s σ H _ I h) fun v s1 h_23=>by obtain ⟨x,H1,I1,r1,q1⟩:=h_23;exact SL pins s1 σ H1 x v Q I1 r1 q1) (he _)
theorem Gh:pZ X (fZ .Add) (fun x y H Q=>∃ i j,x=.str i/\y=.str j/\i.length + j.length<=sizeLine/\Q (.str (i++j)) H):=by
 intro pins s σ H x y v u Q I rx ry h
 obtain ⟨i,j,rfl,rfl,hz,q⟩:=h
 obtain ⟨t,rfl⟩:=rx
 obtain ⟨t',rfl⟩:=ry
 exact add_str (fun t' tk=>⟨.str (i++j),H,I.tok _,⟨_,rfl⟩,q⟩) hz
theorem ko {x:V}{us:List a9} (r:dn [x] us):∃ u,us=[u]/\dm x u:=by
 cases r with
 | cons r1 r2=>cases r2;exact ⟨_,rfl,r1⟩
theorem LV {x y:V}{us:List a9} (r:dn [x,y] us):∃ u w',us=[u,w']/\dm x u/\dm y w':=by
 cases r with
 | cons r1 r2 =>
  cases r2 with
  | cons r3 r4=>cases r4;exact ⟨_,_,rfl,r1,r3⟩
end
end L2
namespace L2
open PySem PySem.Spec PyProof.Rows
structure SM (h:br) (x dx C:ah) (mA:Str->Option a9):Prop where
 obj:h.get? x=some (wI C dx)
 ns:h.Ns1 dx mA
 ne:dx≠x
theorem JP {h:br}{dx:ah}{mA:Str->Option a9} (n:h.Ns1 dx mA):∃ od,h.get? dx=some od/\∀ name,xD name od=some (mA name):=by
 obtain ⟨o,es,ep,ho,hd,hk,_,hm⟩:=n
 refine ⟨o,ho,fun name=>?_⟩
 have e:=hm name
 unfold nsFind findBy at e
 rw [<- Array.find?_toList] at e
 unfold xD
 rw [hd]
 dsimp only
 split
 ·rename_i y q
  rw [q] at e
  exact congrArg some e
 ·rename_i q
  rw [q] at e
  have a:es.toList.any (·.refKey)=false:=by
   rw [Ll]
   intro y hy
   obtain ⟨z,t,hkey⟩:=hk y (Array.mem_toList_iff.mp hy)
   simp [DictEntry.refKey,hkey]
  have a':¬ es.toList.any (·.refKey)=true:=by rw [a];exact aS
  rw [if_neg a']
  exact congrArg some e
theorem SM.look {h:br}{x dx C:ah}{mA:Str->Option a9} (I:SM h x dx C mA):∃ od,PySem.W.InstAt h x (wI C dx) C (some od)/\∀ name,xD name od=some (mA name) :=
 let ⟨od,ho,hl⟩:=JP I.ns
 ⟨od,⟨I.obj,rfl,rfl,ho⟩,hl⟩
section
variable {prog:aI}{w:bc}{A:bg}{E:a9->af->Prop}{s:af}{K:a8}{x dx C f:ah}{mA:Str->Option a9}{name:Str}{v:a9}
end
theorem xM.some_of {v:V}{o:Option a9} (r:xM (some v) o):∃ u,o=some u/\dm v u:=by
 cases o with
 | none=>exact (show False from r).elim
 | some u=>exact ⟨u,rfl,r⟩
section
variable {P:aI}{w:bc}{H H':Hp}{h h':br}{a C dx:ah}{fs fs':List (Str×V)}
theorem Ps (hok:pQ P w H h) (e:H a=some (.ins C dx fs)):∃ mA,SM h a dx C mA/\(∀ f,xM (fs.lookup f) (mA f))/\PySem.Within mA (fs.map (·.1))/\fs.length<=1000/\H dx=some (.own a):=by
 obtain ⟨d,z,ne,ob,mA,n,r,q⟩:=(show cY P w H h a (.ins C dx fs) from hok a _ e)
 exact ⟨mA,⟨ob,n,ne⟩,r,q,z,d⟩
end
structure WC (K:a8) (C:ah):Prop where
 pg:Jo K C Str.empty=true
 hd:PySem.W.hasDictIn K C=true
 po:PySem.W.plainOver K C=true
 sa:gz K (.ref C) "__setattr__"=some (some (.builtin "object.__setattr__"))
theorem WC.get {K:a8}{C:ah} (c:WC K C) (f:Str):Jo K C f=true:=c.pg
section
variable {X:Cx}{pins:List (ah×Obj)}{σ:St}{H:Hp}{s:af}{a C dx:ah}{fs:List (Str×V)}{f:Str}{v:V}{A:bg}{E:a9->af->Prop}
end
section
variable {X:Cx}{o e value:b9}{f:Str}{pos pos' tpos:Pos}{ta tv:TE}
end
section
variable {X:Cx}{pins:List (ah×Obj)}{σ:St}{H:Hp}{s:af}{A:bg}{E:a9->af->Prop}{Q:a9->af->Prop}{c:a9}{b:Bool}
inductive vC (K:a8) (H:Hp):V->a9->Prop where
 | non:vC K H .non (.type "NoneType")
 | bl (x:Bool):vC K H (.bl x) (.type "bool")
 | int (i:Int):vC K H (.int i) (.type "int")
 | str (x:Str):vC K H (.str x) (.type "str")
 | flt (x:UInt64):vC K H (.flt x) (.type "float")
 | lst {a:ah}{xs:List V} (e:H a=some (.lst xs)):vC K H (.ref a) (.type "list")
 | frz {a:ah}{o:Obj}{xs:List V} (e:H a=some (.frz o (.lst xs))):vC K H (.ref a) (.type "list")
 | tup {a:ah}{xs:List V} (e:H a=some (.tup xs)):vC K H (.ref a) (.type "tuple")
 | dK {a:ah}{kvs:List (cO×V)} (e:H a=some (.dK kvs)):vC K H (.ref a) (.type "dict")
 | dT {a:ah}{kvs:List (List cO×V)} (e:H a=some (.dT kvs)):vC K H (.ref a) (.type "dict")
 | ins {a C dx:ah}{fs:List (Str×V)} (e:H a=some (.ins C dx fs)) (cl:WC K C) (ha:gz K (.ref C) "__class__"=some (some (.builtin "object.__class__")))
   (hn:ud K (.builtin "object.__class__") "__get__"=some (some (.builtin "getset_descriptor.__get__"))) (htk:wK K (.builtin "object.__class__")=some true)
   (hm:eB K C (.type "object")=some true):vC K H (.ref a) (.ref C)
theorem nT {x:V}{u t:a9} (I:bF X pins σ H s) (rx:dm x u) (ty:vC X.K H x t) (e:dA X.K t c=some b) (h:∀ tk,Q (.bool b) { s with toks:=tk }) :
  aq (aF X.prog X.w) A (call (.builtin "isinstance") [u,c]) Q E s:=by
 cases ty with
 | non=>cases (show u=dN from rx);exact cB PySem.W.kitx_none I.kIn iG e (fun z=>nomatch z) h
 | bl y=>cases (show u=ip y from rx);exact cB PySem.W.kitx_bool I.kIn iG e (fun z=>nomatch z) h
 | int i=>obtain ⟨t,q⟩:=(show ∃ t,u=m9 i t from rx);cases q;exact cB PySem.W.kitx_int I.kIn iG e (fun z=>nomatch z) h
 | str y=>obtain ⟨t,q⟩:=(show ∃ t,u=jp y t from rx);cases q;exact cB PySem.W.kitx_str I.kIn iG e (fun z=>nomatch z) h
 | flt y=>obtain ⟨t,q⟩:=(show ∃ t,u=Value.float y t from rx);cases q;exact cB PySem.W.kitx_float I.kIn iG e (fun z=>nomatch z) h
 | @lst a xs ea =>
  cases (show u=bK a from rx)
  obtain ⟨_,_,n,_,h1⟩:=(show cY X.prog X.w H s.heap a (.lst xs) from I.hok a _ ea)
  exact cB ue I.kIn ⟨_,h1,rfl⟩ e (fun z=>nomatch z) h
 | @frz a ob xs ea =>
  cases (show u=bK a from rx)
  obtain ⟨_,_,_,n,_,h1⟩:=(show cY X.prog X.w H s.heap a (.frz ob (.lst xs)) from I.hok a _ ea)
  exact cB ue I.kIn ⟨_,h1,rfl⟩ e (fun z=>nomatch z) h
 | @tup a xs ea =>
  cases (show u=bK a from rx)
  obtain ⟨_,_,_,p⟩:=(show cY X.prog X.w H s.heap a (.tup xs) from I.hok a _ ea)
  obtain ⟨o,h1,h2,_⟩:=p
  exact cB FL I.kIn ⟨o,h1,h2⟩ e (fun z=>nomatch z) h
 | @dK a kvs ea =>
  cases (show u=bK a from rx)
  obtain ⟨_,_,vs,_,p⟩:=(show cY X.prog X.w H s.heap a (.dK kvs) from I.hok a _ ea)
  obtain ⟨o,es,ep,h1,h2,_⟩:=p
  exact cB HK I.kIn ⟨o,h1,h2.1⟩ e (fun z=>nomatch z) h
 | @dT a kvs ea =>
  cases (show u=bK a from rx)
  obtain ⟨_,_,xs,_,o,es,ep,h1,h2,_⟩:=(show cY X.prog X.w H s.heap a (.dT kvs) from I.hok a _ ea)
  exact cB HK I.kIn ⟨o,h1,h2.1⟩ e (fun z=>nomatch z) h
 | @ins a C dx fs ea cl ha hn htk hm =>
  cases (show u=bK a from rx)
  obtain ⟨mA,O,_⟩:=Ps I.hok ea
  obtain ⟨od,J,_⟩:=O.look
  exact cB (PySem.W.kitx_own (cl.get _) cl.hd ha hn htk hm) I.kIn J e (fun z=>nomatch z) h
end
end L2
namespace L2
open PySem PySem.Spec PyProof.Rows
structure jn (k:Nat) (A:bg):Prop where
 hd:A.handled=none
 dp:A.depth + 3 * k + 5<FM
 un:A.units + 16 * k + 200<k7
theorem jn.mono {j k:Nat}{A:bg} (r:jn k A) (h:j<=k):jn j A:=⟨r.hd,by have:=r.dp;omega,by have:=r.un;omega⟩
theorem jn.deeper {k:Nat}{A:bg} (r:jn (k + 1) A) (env:Env):jn k (A.deeper env) :=
 ⟨r.hd,by have:=r.dp;show A.depth + 1 + 3 * k + 5<_;omega,by have:=r.un;show A.units + 3 + 16 * k + 200<_;omega⟩
theorem jn.depth {k:Nat}{A:bg} (r:jn k A):A.depth<FM:=by have:=r.dp;omega
theorem jn.units {k:Nat}{A:bg} (r:jn k A):A.units + 64<k7:=by have:=r.un;omega
def LW:TA:=fun _ H Q=>Q [] H
def Du (ta:TE) (tr:TA):TA:=fun σ H Q=>ta σ H fun x H1=>tr σ H1 fun xs H2=>Q (x::xs) H2
section
variable {X:Cx}{e:b9}{es:List b9}{te:TE}{t:TA}{pos:Pos}
theorem eY:PA X [] LW:=fun _ _ _ _ H Q I h=>Calls.spliced_nil ⟨[],H,I,.nil,h⟩
theorem cb (ha:PE X e te) (hr:PA X es t) (hs:az (e::es) X.env=(false,dz e X.env)::az es X.env:=by rfl):PA X (e::es) (Du te t):=by
 intro pos pins s σ H Q I h
 rw [hs]
 show aq _ _ (spliced ((false,dz e X.env)::fO pos (az es X.env))) _ _ s
 refine Calls.spliced_cons (fD (ha pins s σ H _ I h) fun u s1 ⟨x,H1,I1,r1,q1⟩=>?_)
 exact fD (hr pos pins s1 σ H1 _ I1 q1) fun us s2 h_25=>by obtain ⟨xs,H2,I2,r2,q2⟩:=h_25;exact ⟨x::xs,H2,I2,.cons r1 r2,q2⟩
def WD (t:TA):TE:=fun σ H Q=>t σ H fun xs H1=>xs.length<=sizeLine/\∀ p,H1 p=none->Q (.ref p) (upd H1 p (.tup xs))
def WE (t:TA):TE:=fun σ H Q=>t σ H fun xs H1=>xs.length<=sizeLine/\∀ p,H1 p=none->Q (.ref p) (upd H1 p (.lst xs))
theorem LX {x1} (h:PA X es t):PE X (.Tuple es x1 pos) (WD t):=by
 intro pins s σ H Q I hq
 refine wpAny_Tuple_spliced (fD (h pos pins s σ H _ I hq) fun us s1 ⟨xs,H1,I1,r,z,q⟩=>⟨by rw [<- r.length];exact z,?_⟩)
 have hf:H1 s1.heap.objs.size=none:=I1.hok.fresh (au _)
 refine ⟨.ref s1.heap.objs.size,upd H1 s1.heap.objs.size (.tup xs),I1.laid (t':=s1.toks) (fun b u e=>ag _ e) (au _) ?_,rfl,q _ hf⟩
 exact ⟨z,us,r,⟨_,ay _ rfl,rfl,_,rfl⟩⟩
theorem nq (h:PA X es t):PE X (.List es pos) (WE t):=by
 intro pins s σ H Q I hq
 refine wpAny_List_spliced (fD (h pos pins s σ H _ I hq) fun us s1 ⟨xs,H1,I1,r,z,q⟩=>⟨by rw [<- r.length];exact z,?_⟩)
 have hf:H1 s1.heap.objs.size=none:=I1.hok.fresh (au _)
 refine ⟨.ref s1.heap.objs.size,upd H1 s1.heap.objs.size (.lst xs),I1.laid (t':=s1.toks) (fun b u e=>ag _ e) (au _) ?_,rfl,q _ hf⟩
 exact ⟨z,us,0,r,ay _ rfl⟩
end
abbrev Sp:=List V->Hp->VK->XK->Prop
abbrev HW:=List Env->Hp->af->XK->a9->af->Prop
structure Gi (P:aI) (w:bc) (K:a8) (mg:Str->Option a9) (base:br) (A:bg) (outer:List Env) (s:af) (H:Hp):Prop where
 frames:A.frames=some outer
 mod:Mod K mg base
 bs:∀ b o,base.get? b=some o->s.heap.get? b=some o/\H b=none
 bsz:base.objs.size<=s.heap.objs.size
 funs:s.heap.FunFrames base outer
 frf:∀ b∈r9 outer,H b=none
 hok:pQ P w H s.heap
 bare:q0 s.gens
inductive CE (outer:List Env) (P:aI) (w:bc) (H:Hp) (s:af) (Q:VK) (u:a9) (s':af):Prop
 | mk (v H':_) (h0:s'.os=s.os) (h1:q0 s'.gens) (h2:Un (r9 outer) [] H H' s.heap s'.heap) (h3:pQ P w H' s'.heap) (h4:dm v u) (h5:Q v H'):CE outer P w H s Q u s'
def CR (CX:HW) (outer:List Env) (P:aI) (w:bc) (H:Hp) (s:af) (Q:VK) (E:XK) (r:vn) (s':af):Prop :=
 match r with
 | .ok (.ret u)=>CE outer P w H s Q u s'
 | .ok _=>False
 | .error e=>CX outer H s E e s'
structure sg (P:aI) (w:bc) (K:a8) (mg:Str->Option a9) (base:br) (CX:HW) (k:Nat) (f:ah) (fd:dE) (ps:List Str) (sp:Sp):Prop where
 len:∀ vs H Q E,sp vs H Q E->vs.length=ps.length
 run:∀ (A:bg) (outer:List Env) (s:af) (H:Hp) (args:Args) (us:List a9) (vs:List V) (Q:VK) (E:XK),jn k A->Gi P w K mg base A outer s H->zN s fd args (ps.zip us)->dn vs us->sp vs H Q E ->
  gW (aF P w) A (.call (.ref f) args) (CR CX outer P w H s Q E) s
theorem sg.imp {P:aI}{w:bc}{K:a8}{mg:Str->Option a9}{base:br}{CX:HW}{k:Nat}{f:ah}{fd:dE}{ps:List Str}{sp sp':Sp} (F:sg P w K mg base CX k f fd ps sp)
  (h:∀ vs H Q E,sp' vs H Q E->sp vs H Q E):sg P w K mg base CX k f fd ps sp' :=
 ⟨fun vs H Q E q=>F.len vs H Q E (h _ _ _ _ q),fun A outer s H args us vs Q E hr he hb hv hs=>F.run A outer s H args us vs Q E hr he hb hv (h _ _ _ _ hs)⟩
section
variable {X:Cx}{pins:List (ah×Obj)}{σ:St}{H:Hp}{s s':af}
theorem bF.env0 (I:bF X pins σ H s):Gi X.prog X.w X.K X.mg X.base X.A X.stack s H :=
 ⟨I.ok.frames,I.ok.mod,I.bs,bE I.ok.bsz I.sz,I.stack,I.stkFree,I.hok,I.bare⟩
theorem bF.after {Q:VK}{u:a9} (I:bF X pins σ H s) (h:CE X.stack X.prog X.w H s Q u s'):EP X pins σ Q u s':=by
 obtain ⟨v,H',os,bare,un,hok,r,q⟩:=h
 obtain ⟨hh,g,d,t,os'⟩:=s'
 obtain rfl:os'=s.os:=os
 exact ⟨v,H',I.call (h':=hh) (g':=g) (d':=d) (t':=t) (ch:=[]) un hok bare (fun b z=>absurd z (by simp)),r,q⟩
end
def HX (sp:Sp) (dvs:List V) (E:XK) (t:TA):TE:=fun σ H Q=>t σ H fun vs H1=>sp (vs++dvs) H1 Q E
def jv (K:a8) (fd:dE) (ps:List Str) (ds:List a9):Prop :=
 ∀ (s:af) (us:List a9),K.In s.heap->(us++ds).length=ps.length->zN s fd ⟨us,[]⟩ (ps.zip (us++ds))
theorem jv.all {K:a8}{fd:dE}{ps:List Str} (h:∀ us:List a9,us.length=ps.length->bindArgs fd ⟨us,[]⟩=pure (ps.zip us)):jv K fd ps []:=fun s us _ hl=>by
 rw [bT] at hl ⊢
 exact .of_eq (h us hl)
def jw (CX:HW) (X:Cx) (E:XK):Prop:=∀ (pins:List (ah×Obj)) (σ:St) (H:Hp) (s:af) (e:a9) (s':af),bF X pins σ H s->CX X.stack H s E e s'->X.xe e s'
section
variable {X:Cx}{CX:HW}{k:Nat}{f C:ah}{fd:dE}{ps:List Str}{sp:Sp}{dvs:List V}{ds:List a9}{E:XK}{x m:Str}{p pos apos:Pos}{e o:b9}{es:List b9}{ta:TE}{t:TA}
theorem LY {pins:List (ah×Obj)}{σ:St}{H:Hp}{s:af}{Q:VK}{us:List a9}{vs:List V} (F:sg X.prog X.w X.K X.mg X.base CX k f fd ps sp) (hr:jn k X.A) (hb:jv X.K fd ps ds) (hd:dn dvs ds) (hx:jw CX X E)
  (I:bF X pins σ H s) (r:dn vs us) (h:sp (vs++dvs) H Q E):aq (aF X.prog X.w) X.A (call (.ref f) us) (EP X pins σ Q) X.xe s:=by
 have r2:dn (vs++dvs) (us++ds):=r.append hd
 have hl:(us++ds).length=ps.length:=by rw [<- r2.length];exact F.len _ _ _ _ h
 refine xE (nP (F.run X.A X.stack s H ⟨us,[]⟩ (us++ds) (vs++dvs) Q E hr I.env0 (hb s us I.kIn hl) r2 h) fun r s' hq=>?_)
 cases r with
 | error e=>exact hx pins σ H s e s' I hq
 | ok fl =>
  cases fl with
  | ret u=>exact I.after hq
  | next=>exact eC hq
  | brk=>exact eC hq
  | cont=>exact eC hq
theorem HY (F:sg X.prog X.w X.K X.mg X.base CX k f fd ps sp) (hr:jn k X.A) (hg:Gl X x) (hm:X.mg x=some (.ref f)) (hk:dW X.K (.ref f)=true) (hb:jv X.K fd ps ds) (hd:dn dvs ds) (hx:jw CX X E)
  (ha:PA X (e::es) t) (hdb:(x == ("__debug__" : Str))=false:=by decide) (he:az (e::es) X.env=(false,dz e X.env)::az es X.env:=by rfl) (hpl:(fO pos (az es X.env)).any (·.1)=false:=by rfl) :
  PE X (.Call (.Name x p) (e::es) [] pos) (HX sp dvs E t):=by
 intro pins s σ H Q I h
 refine jN (xm I hg hm ?_ hdb)
 refine sR (h₀:=X.base) I.ok.mod.kin hk (fD (ha pos pins s σ H _ I h) fun us s1 ⟨vs,H1,I1,r,q⟩=>⟨I1.kIn,?_⟩) he hpl
 exact LY F hr hb hd hx I1 r q
end
section
variable {X:Cx}{CX:HW}{k:Nat}{f C:ah}{fd:dE}{ps ks:List Str}{sp:Sp}{E:XK}{x m:Str}{p pos apos kpos:Pos}{e o:b9}{es:List b9}{kws:List zO}{te ta:TE}{t tk:TA}{nm:Option Str}
variable {g:List a9->List a9->List a9}{gV:List V->List V->List V}
end
structure bu (N P:List Str) (sc:eT):Prop where
 kind:sc.kind=.function
 co:sc.isCoroutine=false
 gen:sc.isGenerator=false
 nd:N.Nodup
 pre:N.take P.length=P
 par:∀ x∈P,sc.names.lookup x=some .local\/sc.names.lookup x=some .cell
 nofree:∀ y∈sc.names,y.2≠.free
theorem AG {kindOf:Str->Option r_}{x:Str}:∀ {binds:List (Str×a9)}{m:Str->Option a9},(∀ v,(x,v)∉binds)->FO kindOf binds m x=m x
 | [],_,_=>rfl
 | (n,v)::r,m,h=>by
  unfold FO
  rw [AG fun w hw=>h w (am _ hw)]
  split
  ·have:x≠n:=by rintro rfl;exact h v ap
   simp [this]
  ·rfl
theorem AH {kindOf:Str->Option r_}{x:Str}:∀ {binds:List (Str×a9)}{m:Str->Option a9},(∀ v,(x,v)∉binds)->FP kindOf binds m x=m x
 | [],_,_=>rfl
 | (n,v)::r,m,h=>by
  unfold FP
  rw [AH fun w hw=>h w (am _ hw)]
  split
  ·rfl
  ·have:x≠n:=by rintro rfl;exact h v ap
   simp [this]
theorem AI {kindOf:Str->Option r_}{x:Str}{v:a9}:∀ {P:List Str}{vs:List a9}{i:Nat}{m:Str->Option a9},P.Nodup->P[i]?=some x->vs[i]?=some v->kindOf x=some .local ->
  FO kindOf (P.zip vs) m x=some v
 | [],_,_,_,_,h,_,_=>by simp at h
 | _::_,[],_,_,_,_,h,_=>by simp at h
 | p::P,w::vs,0,m,nd,h1,h2,hk=>by
  simp at h1 h2;subst h1;subst h2
  show FO kindOf ((p,w)::P.zip vs) m p=_
  unfold FO
  rw [AG fun v hv=>(List.nodup_cons.mp nd).1 (qi hv).1,if_pos hk]
  simp
 | p::P,w::vs,i + 1,m,nd,h1,h2,hk=>by
  show FO kindOf ((p,w)::P.zip vs) m x=_
  unfold FO
  exact AI (i:=i) (List.nodup_cons.mp nd).2 (by simpa using h1) (by simpa using h2) hk
theorem AJ {kindOf:Str->Option r_}{x:Str}{v:a9}:∀ {P:List Str}{vs:List a9}{i:Nat}{m:Str->Option a9},P.Nodup->P[i]?=some x->vs[i]?=some v->kindOf x≠some .local ->
  FP kindOf (P.zip vs) m x=some v
 | [],_,_,_,_,h,_,_=>by simp at h
 | _::_,[],_,_,_,_,h,_=>by simp at h
 | p::P,w::vs,0,m,nd,h1,h2,hk=>by
  simp at h1 h2;subst h1;subst h2
  show FP kindOf ((p,w)::P.zip vs) m p=_
  unfold FP
  rw [AH fun v hv=>(List.nodup_cons.mp nd).1 (qi hv).1,if_neg hk]
  simp
 | p::P,w::vs,i + 1,m,nd,h1,h2,hk=>by
  show FP kindOf ((p,w)::P.zip vs) m x=_
  unfold FP
  exact AJ (i:=i) (List.nodup_cons.mp nd).2 (by simpa using h1) (by simpa using h2) hk
def start (N:List Str) (vs:List V):St:=vs.map some++mq (N.length - vs.length) none
def iV (CX:HW) (P:aI) (w:bc) (K:a8) (mg:Str->Option a9) (base:br) (N:List Str) (qual:Str) (scope:eT) (f:ah) (cd:a9) (A:bg) (outer:List Env) (s:af) (H:Hp) (E:XK):Cx where
 prog:=P
 w:=w
 K:=K
 mg:=mg
 base:=base
 A:=A.deeper (iU qual scope s.heap.objs.size f cd)
 N:=N
 s₀:=s
 H₀:=H
 env:=iU qual scope s.heap.objs.size f cd
 outer:=outer
 stack:=iU qual scope s.heap.objs.size f cd::outer
 ex:=[]
 calm:=true
 fn:=fun _=>true
 pn:=[]
 xe:=fun e s'=>aq (aF P w) (A.deeper (iU qual scope s.heap.objs.size f cd)) (leaving (iU qual scope s.heap.objs.size f cd) e) (fun _ s''=>CX outer H s E e s'') (fun e' s''=>CX outer H s E e' s'') s'
theorem Dv {sc:eT}{n:Nat}{x:Str} (h:sc.names.lookup x=some .cell):∃ c,(BC n sc.names []).lookup x=some c:=by
 have q:=oq sc.names n [] (.inl h)
 exact Option.isSome_iff_exists.mp q
theorem AK {CX:HW}{P:aI}{w:bc}{K:a8}{mg:Str->Option a9}{base:br}{N ps:List Str}{qual:Str}{scope:eT}{f:ah}{cd:a9}{A:bg}{outer:List Env}{s s1:af}{H:Hp}{E:XK}{us:List a9}{vs:List V}
  (S:bu N ps scope) (hd:A.handled=none) (e0:Gi P w K mg base A outer s H) (hl:vs.length=ps.length) (r:dn vs us)
  (x:InCallC s s.heap.objs.size (FO (iU qual scope s.heap.objs.size f cd).kindOf (ps.zip us) fun _=>none) (BC (s.heap.objs.size + 1) scope.names []) (FP (iU qual scope s.heap.objs.size f cd).kindOf (ps.zip us) fun _=>none) s1) :
  bF (iV CX P w K mg base N qual scope f cd A outer s H E) [] (start N vs) H s1:=by
 have hpl:ps.length<=N.length:=by have:=congrArg sx S.pre;rw [xh] at this;omega
 obtain ⟨h1,tk,rfl,hk⟩:=x.done
 have noA:∀ b:ah,b∉(iV CX P w K mg base N qual scope f cd A outer s H E).ex:=fun b z=>absurd (show b∈([] : List ah) from z) (by simp)
 refine ⟨⟨e0.mod,S.kind,rfl,rfl,au _,fun y z c h1 h2=>?_,fun y hy=>?_,fun y c _ h=>?_,fun _=>hd,Around.frames_deeper e0.frames,.inr ⟨rfl,rfl⟩,fun b z=>absurd z (noA b),e0.bs,e0.bsz,fun b _ _=>noA b,fun b z=>absurd z (noA b),e0.funs,e0.frf⟩,
  rfl,e0.bare,Un.kept hk,⟨_,x.toInCall.ns,fun i y v h1 h2 h3=>?_⟩,fun y c h=>⟨_,x.cell y c h⟩,e0.hok.fresh (au _),fun y c h=>?_,fun p hp=>absurd (show p∈([] : List (ah×Obj)) from hp) (by simp),e0.hok.kept hk,?_⟩
 ·exact name_of_addr x.apart (fe h1) (fe h2)
 ·have hy:scope.names.lookup y=some .cell\/scope.names.lookup y=some .free:=hy
  rcases hy with hy | hy
  ·exact Dv hy
  ·exact absurd rfl (S.nofree _ (fe hy))
 ·exact bL (x.above y c (fe h))
 ·have hi:i<vs.length:=by
   unfold start at h2
   by_cases hi:i<vs.length
   ·exact hi
   ·rw [bn (by simpa using hi)] at h2
    rw [bR] at h2
    split at h2<;>cases h2
  have ha:vs[i]?=some v:=by
   unfold start at h2
   rw [bv (by simpa using hi),aN] at h2
   cases e:vs[i]? with
   | none=>rw [e] at h2;cases h2
   | some a=>rw [e] at h2;cases h2;rfl
  obtain ⟨u,hu,rv⟩:=r.get ha
  have hp:ps[i]?=some y:=by
   rw [<- S.pre,List.getElem?_take_of_lt (by omega)];exact h1
  have ndP:ps.Nodup:=by rw [<- S.pre];exact S.nd.sublist (List.take_sublist _ _)
  refine ⟨u,rv,?_⟩
  rcases S.par y (cM hp) with k | k
  ·exact .inl ⟨k,AI ndP hp hu k⟩
  ·obtain ⟨c,e⟩:=Dv (n:=s.heap.objs.size + 1) k
   refine .inr ⟨.inl k,c,e,?_⟩
   have q:=x.cell y c e
   rw [AJ ndP hp hu (by show scope.names.lookup y≠_;rw [k];decide)] at q
   exact q
 ·exact e0.hok.fresh (bL (x.above y c (fe h)))
 ·unfold start
  show _=N.length
  rw [aO,al,cU]
  omega
theorem Re {CX:HW}{P:aI}{w:bc}{K:a8}{mg:Str->Option a9}{base:br}{k:Nat}{f:ah}{name qual:Str}{params:Arguments}{body:List cr}{scope:eT}{dV kV doc pm cdv ct oc:a9}{an od:Option ah}
  {osl:Array (Option a9)}{N ps:List Str}{sp:Sp} (lk:K.lookup f=some ⟨oc,od,.func (eE name qual params body scope dV kV doc pm an cdv ct),osl⟩) (hcd:js K cdv qual=true) (S:bu N ps scope)
  (len:∀ vs H Q E,sp vs H Q E->vs.length=ps.length)
  (hbody:∀ (A:bg) (outer:List Env) (s:af) (H:Hp) (vs:List V) (Q:VK) (E:XK),jn k (A.deeper (iU qual scope s.heap.objs.size f cdv))->sp vs H Q E ->
   ∃ t,z_ (iV CX P w K mg base N qual scope f cdv A outer s H E) body t/\t { nx:=fun _ H'=>Q .non H',rt:=Q } (start N vs) H) :
  sg P w K mg base CX (k + 1) f (eE name qual params body scope dV kV doc pm an cdv ct) ps sp:=by
 refine ⟨len,fun A outer s H args us vs Q E hr e0 hb r hsp=>?_⟩
 have hl:=len _ _ _ _ hsp
 have KX:K.In s.heap:=e0.mod.kin.keeps fun b o e=>(e0.bs b o e).1
 have lim:s.heap.NoLimit:=e0.mod.nolimit.keeps fun b o e=>(e0.bs b o e).1
 have hkind:∀ y∈ps.zip us,scope.names.lookup y.1=some .local\/(scope.names.lookup y.1=some .cell/\((BC (s.heap.objs.size + 1) scope.names []).lookup y.1).isSome=true):=fun ⟨n,v⟩ hy=>by
  rcases S.par n (qi hy).1 with q | q
  ·exact .inl q
  ·exact .inr ⟨q,oq _ _ _ (.inl q)⟩
 refine OM hr.depth (KX _ _ lk) rfl S.co S.gen rfl (FQ KX hcd) (hb _ _ _ _ ?_)
 refine FR S.kind hkind fun env he s1 x=>?_
 subst he
 refine ⟨lim.keeps x.toInCall.keep,codeAny_func ?_⟩
 obtain ⟨t,ht,hq⟩:=hbody A outer s H vs Q E (hr.deeper _) hsp
 have I:bF (iV CX P w K mg base N qual scope f cdv A outer s H E) [] (start N vs) H s1:=AK S hr.hd e0 hl r x
 refine bC (ht [] s1 (start N vs) H _ I hq) (fun fl s' hs=>?_) fun e s' hs=>hs
 have fin:∀ {σ':St}{H':Hp}{v:V}{u:a9},bF (iV CX P w K mg base N qual scope f cdv A outer s H E) [] σ' H' s'->dm v u->Q v H'->CE outer P w H s Q u s' :=
  fun {σ' H' v u} J rv q=>⟨v,H',J.os,J.bare,J.base,J.hok,rv,q⟩
 cases fl with
 | ret u =>
  obtain ⟨v,σ',H',J,rv,q⟩:=hs
  exact fin J rv q
 | next =>
  obtain ⟨σ',H',J,q⟩:=hs
  exact fin (v:=V.non) (u:=dN) J rfl q
 | brk =>
  obtain ⟨_,_,_,q⟩:=hs
  exact eC q
 | cont =>
  obtain ⟨_,_,_,q⟩:=hs
  exact eC q
end L2
namespace L2
open PySem PySem.Spec PyProof.Rows
section
variable {X:Cx}{x:Str}{p pos:Pos}{e:b9}{es:List b9}{t:TA}{id T:String}{r:List V->Hp->VK->Prop}
def Ua (r:List V->Hp->VK->Prop) (t:TA):TE:=fun σ H Q=>t σ H fun vs H1=>r vs H1 Q
theorem nU (hc:j5 X (.builtin id) r) (hg:Gl X x) (hm:X.mg x=none) (hv:i7 x=some (.builtin id)) (ha:PA X (e::es) t) (hn:x≠"__name__":=by decide) (hdb:(x == ("__debug__" : Str))=false:=by decide)
  (he:az (e::es) X.env=(false,dz e X.env)::az es X.env:=by rfl) (hpl:(fO pos (az es X.env)).any (·.1)=false:=by rfl):PE X (.Call (.Name x p) (e::es) [] pos) (Ua r t):=by
 intro pins s σ H Q I h
 refine jN (sY I hg hm hv ?_ hn hdb)
 exact PyProof.Rows.callWith_builtin1 (fD (ha pos pins s σ H _ I h) fun us s1 h_27=>by obtain ⟨vs,H1,I1,r1,q1⟩:=h_27;exact hc pins s1 σ H1 vs us Q I1 r1 q1) he hpl
theorem vD (hc:j5 X (.type T) r) (hg:Gl X x) (hm:X.mg x=none) (hv:i7 x=some (.type T)) (ha:PA X (e::es) t) (hn:x≠"__name__":=by decide) (hdb:(x == ("__debug__" : Str))=false:=by decide)
  (he:az (e::es) X.env=(false,dz e X.env)::az es X.env:=by rfl) (hpl:(fO pos (az es X.env)).any (·.1)=false:=by rfl):PE X (.Call (.Name x p) (e::es) [] pos) (Ua r t):=by
 intro pins s σ H Q I h
 refine jN (sY I hg hm hv ?_ hn hdb)
 exact eW (fD (ha pos pins s σ H _ I h) fun us s1 h_28=>by obtain ⟨vs,H1,I1,r1,q1⟩:=h_28;exact hc pins s1 σ H1 vs us Q I1 r1 q1) he hpl
end
end L2
namespace HT
open PySem PyProof.Rows
section
open PySem.SeqAt
open PySem.AutoSeq1 (wpAny_loadPart')
open PySem.MeetsSeq PySem.MeetsSeq2 PySem.MeetsSeq3
end
section
variable {prog:aI}{w:bc}{A:bg}{E:a9->af->Prop}{s:af}
theorem Pt {t b:ah}{vs ws:List a9}{Q:a9->af->Prop} (ht:FH s.heap t vs.toArray) (hb:FH s.heap b ws.toArray) (hv:vs≠[])
  (h1:ws=[]->Q (.ref t) s) (h2:ws≠[]->Q (.ref s.heap.objs.size) { s with heap:=s.heap.push { cls:=.type "tuple",data:=.seq (vs++ws).toArray } })
  (hsz:vs.length + ws.length<=sizeLine):aq (aF prog w) A (fZ .Add (.ref t) (.ref b)) Q E s:=by
 obtain ⟨⟨cls,dd,data,sl⟩,ho,hc,n,hd⟩:=id ht
 obtain ⟨⟨cls2,dd2,data2,sl2⟩,ho2,hc2,n2,hd2⟩:=id hb
 simp only at hc hd hc2 hd2
 subst hc hd hc2 hd2
 have e:vs.toArray++ws.toArray=(vs++ws).toArray:=by simp
 by_cases hw:ws=[]
 ·exact zP ⟨_,ho,rfl⟩ ⟨_,ho2,rfl⟩ BD Jp ou nQ (nh _ _)
   (tuple_addW1 t b vs.toArray ws.toArray n n2 dd dd2 sl sl2 (by simpa using hv) (by simp [hw])) ⟨ho,ho2,h1 hw⟩
 ·refine zP ⟨_,ho,rfl⟩ ⟨_,ho2,rfl⟩ BD Jp ou nQ (nh _ _)
   (tuple_addW2 t b vs.toArray ws.toArray n n2 dd dd2 sl sl2 (by simpa using hv) (by simpa using hw) (by rw [aJ,aJ];exact hsz)) ⟨ho,ho2,?_⟩
  rw [e]
  exact h2 hw
def iJ (n d:Nat):Option Int->Nat
 | none=>d
 | some v=>if v<0 then (v + (n:Int)).toNat else min v.toNat n
theorem Dw (n d:Nat):iJ n d none=d:=rfl
theorem HZ (n d k:Nat):iJ n d (some (k:Int))=min k n:=by
 show (if (k:Int)<0 then ((k:Int) + (n:Int)).toNat else min (k:Int).toNat n)=min k n
 rw [if_neg (by omega),jO]
theorem SO (n d:Nat) (hd:d<=n) (o:Option Int):iJ n d o<=n:=by
 cases o with
 | none=>exact hd
 | some v =>
  show (if v<0 then (v + (n:Int)).toNat else min v.toNat n)<=n
  by_cases hv:v<0
  ·rw [if_pos hv];omega
  ·rw [if_neg hv];exact pW _ _
theorem H_ (v:Int) (n d:Nat):(if v<0 then max (v + (n:Int)) 0 else min v (n:Int))=((iJ n d (some v):Nat):Int):=by
 show (if v<0 then max (v + (n:Int)) 0 else min v (n:Int))=(((if v<0 then (v + (n:Int)).toNat else min v.toNat n):Nat):Int)
 by_cases hv:v<0
 ·simp only [if_pos hv];omega
 ·simp only [if_neg hv];omega
theorem Gj (lo hi:Option Int) (n:Nat):kI lo hi 1 (n:Int)=(((iJ n 0 lo:Nat):Int),((iJ n n hi:Nat):Int)):=by
 have h1:¬ ((1:Int)<0):=by omega
 unfold kI
 simp only [h1,if_false]
 refine Prod.ext ?_ ?_
 ·cases lo with
  | none=>rfl
  | some v=>exact H_ v n 0
 ·cases hi with
  | none=>rfl
  | some v=>exact H_ v n n
theorem Gk (i j:Nat):hU (i:Int) (j:Int) 1=j - i:=by
 unfold hU
 have h1:(1:Int) > 0:=by omega
 simp only [h1,if_true,Int.ediv_one]
 split<;>omega
theorem xP {v:a9}{o:Option Int}{Q:Option Int->af->Prop} (p:vo v o) (h:Q o s):aq (aF prog w) A (Builtin.Slice.slicePartIndex v) Q E s:=by
 cases p with
 | none=>exact slicePart_none h
 | int i t=>exact slicePart_int h
theorem nV {sl:ah}{vl vu:a9}{lo hi:Option Int}{n:Nat}{Q:Int×Int×Nat->af->Prop} (hs:s.heap.IsSliceOf sl vl vu .none) (pl:vo vl lo) (pu:vo vu hi)
  (h:Q (((iJ n 0 lo:Nat):Int),1,iJ n n hi - iJ n 0 lo) s):aq (aF prog w) A (uf (.ref sl) (pure (n:Int))) Q E s:=by
 obtain ⟨os,hos,hcs,hds⟩:=id hs
 unfold uf Builtin.Slice.sliceFields
 refine a7 (a7 (dL hos hds (x:=vl) rfl (a7 (dL hos hds (x:=vu) rfl (a7 (dL hos hds (x:=.none) rfl (ac ?_)))))))
 refine a7 (slicePart_none ?_)
 show aq _ _ (if ((1:Int) == 0)=true then _ else _) _ _ s
 rw [if_neg (by decide)]
 refine a7 (xP pl (a7 (xP pu (a7 (ac ?_)))))
 show aq _ _ (match kI lo hi 1 (n:Int) with | (lo,hi)=>pure (lo,(1:Int),hU lo hi 1)) _ _ s
 rw [Gj lo hi n]
 show aq _ _ (pure (((iJ n 0 lo:Nat):Int),(1:Int),hU ((iJ n 0 lo:Nat):Int) ((iJ n n hi:Nat):Int) 1)) _ _ s
 rw [Gk]
 exact ac h
theorem L_ (xs:Array a9) (i k:Nat):((bw k).filterMap fun (m:Nat)=>xs[((i:Int) + (m:Int) * 1).toNat]?).toArray=((xs.toList.drop i).take k).toArray:=by
 have e:(fun (m:Nat)=>xs[((i:Int) + (m:Int) * 1).toNat]?)=fun m=>xs[i + m]?:=by
  funext m
  have:((i:Int) + (m:Int) * 1).toNat=i + m:=by omega
  rw [this]
 rw [e]
 have:=pick_run xs i k
 rw [mr] at this
 have e2:((fun x=>xs[x]?)∘fun x=>i + x)=fun m=>xs[i + m]?:=rfl
 rw [e2] at this
 rw [this]
theorem uq {t sl:ah}{items:Array a9}{vl vu:a9}{lo hi:Option Int}{Q:a9->af->Prop} (ht:FH s.heap t items) (hs:s.heap.IsSliceOf sl vl vu .none) (pl:vo vl lo) (pu:vo vu hi)
  (hw:¬ (iJ items.size 0 lo=0/\iJ items.size items.size hi=items.size))
  (h:Q (.ref s.heap.objs.size) { s with heap:=s.heap.push { cls:=.type "tuple",data:=.seq ((items.toList.drop (iJ items.size 0 lo)).take (iJ items.size items.size hi - iJ items.size 0 lo)).toArray } })
  (hsz:items.size<=sizeLine):aq (aF prog w) A (q8 (.ref t) (.ref sl)) Q E s:=by
 have htake:sizeOk (.seq ((items.toList.drop (iJ items.size 0 lo)).take (iJ items.size items.size hi - iJ items.size 0 lo)).toArray):=by
  show ((items.toList.drop (iJ items.size 0 lo)).take (iJ items.size items.size hi - iJ items.size 0 lo)).toArray.size<=sizeLine
  rw [aJ,xh,xi,ar]
  omega
 have hj:iJ items.size items.size hi<=items.size:=SO _ _ (au _) hi
 obtain ⟨os,hos,hcs,hds⟩:=id hs
 have hTs:s.TypeIs (.ref sl) "slice":=⟨os,hos,hcs⟩
 unfold q8
 try with_reducible refine cp ?_
 first | refine a7 (ac ?_) | skip
 refine a7 (wpAny_sequenceKey ht.typeIs (by decide) ?_)
 refine a7 (cm (name:=gy "__getitem__") ht.typeIs fP
  (bZ fP ht.typeIs entry_tuple_getitem ?_ (args_tuple_getitem _ _)))
 show aq _ _ (ug (.ref t) >>= _) _ _ s
 refine a7 (tupleItemsOf_ ht ?_)
 refine a7 (kJ hTs ?_)
 rw [if_pos (by decide)]
 refine a7 (nV hs pl pu ?_)
 have hno:¬ ((((iJ items.size 0 lo:Nat):Int) == 0 && (1:Int) == 1 && (iJ items.size items.size hi - iJ items.size 0 lo) == items.size)=true):=by
  intro q
  rw [aW,aW] at q
  have q1:((iJ items.size 0 lo:Nat):Int)=0:=eq_of_beq q.1.1
  have q2:iJ items.size items.size hi - iJ items.size 0 lo=items.size:=eq_of_beq q.2
  exact hw ⟨by omega,by omega⟩
 show aq _ _ (if (((iJ items.size 0 lo:Nat):Int) == 0 && (1:Int) == 1 && (iJ items.size items.size hi - iJ items.size 0 lo) == items.size)=true then _ else _) _ _ s
 rw [if_neg hno,L_]
 first
  | exact a7 (m:=i9 _) (bU (ac ⟨_,rfl,ac h⟩) htake)
  | exact a7 (m:=i9 _) (bU (a7 (ac (ac ⟨_,rfl,ac h⟩))) htake)
  | exact a7 (a7 (m:=i9 _) (bU (ac (ac ⟨_,rfl,ac h⟩)) htake))
  | exact a7 (a7 (m:=i9 _) (bU (ac ⟨_,rfl,ac h⟩) htake))
end
end HT
namespace L2
open PySem PySem.Spec PyProof.Rows
abbrev TO:=St->Hp->(Option Int->Hp->Prop)->Prop
def PO (X:Cx) (e:Option b9) (t:TO):Prop :=
 ∀ (pins:List (ah×Obj)) (s:af) (σ:St) (H:Hp) (Q:Option Int->Hp->Prop),bF X pins σ H s->t σ H Q ->
  aq (aF X.prog X.w) X.A (evalPart e X.env) (fun u s'=>∃ o H',bF X pins σ H' s'/\vo u o/\Q o H') X.xe s
def Pu:TO:=fun _ H Q=>Q none H
def Uy (t:TE):TO:=fun σ H Q=>t σ H fun x H1=>∃ i,x=.int i/\Q (some i) H1
section
variable {X:Cx}{e:b9}{te:TE}{lo hi:Option b9}{tl th:TO}{pos p2:Pos}
theorem Pw:PO X none Pu:=by
 intro pins s σ H Q I h
 rw [evalPart_none]
 exact ac ⟨none,H,I,.none,h⟩
theorem Px (h:PE X e te):PO X (some e) (Uy te):=by
 intro pins s σ H Q I hw
 rw [evalPart_some]
 refine fD (h pins s σ H _ I hw) fun u s1 h_29=>?_
 obtain ⟨x,H1,I1,r1,q1⟩:=h_29
 obtain ⟨i,rfl,q⟩:=q1
 obtain ⟨t,rfl⟩:=r1
 exact ⟨some i,H1,I1,.int i t,q⟩
def Uz (X:Cx) (r:V->Option Int->Option Int->Hp->VK->Prop):Prop :=
 ∀ (pins:List (ah×Obj)) (s:af) (σ:St) (H:Hp) (x:V) (v vl vu:a9) (lo hi:Option Int) (sl:ah) (Q:VK),bF X pins σ H s->dm x v->s.heap.IsSliceOf sl vl vu .none->vo vl lo->vo vu hi->r x lo hi H Q ->
  ∃ T id,xF (.type T) "__getitem__"=pure (some (.builtin id))/\s.TypeIs v T/\aq (aF X.prog X.w) X.A (q8 v (.ref sl)) (EP X pins σ Q) X.xe s
def Y0 (r:V->Option Int->Option Int->Hp->VK->Prop) (te:TE) (tl th:TO):TE:=fun σ H Q=>te σ H fun x H1=>tl σ H1 fun l H2=>th σ H2 fun u H3=>r x l u H3 Q
theorem M0 {r:V->Option Int->Option Int->Hp->VK->Prop} (hr:Uz X r) (he:PE X e te) (hl:PO X lo tl) (hu:PO X hi th):PE X (.Subscript e (.Slice lo hi none p2) pos) (Y0 r te tl th):=by
 intro pins s σ H Q I h
 refine Subscript_ (fD (he pins s σ H _ I h) fun v s1 ⟨x,H1,I1,r1,q1⟩=>?_)
 refine wpAny_Slice (fD (hl pins s1 σ H1 _ I1 q1) fun vl s2 ⟨l,H2,I2,pl,q2⟩=>fD (hu pins s2 σ H2 _ I2 q2) fun vu s3 ⟨u,H3,I3,pu,q3⟩=>?_)
 rw [evalPart_none]
 refine ac ?_
 have I4:bF X pins σ H3 { s3 with heap:=s3.heap.push { cls:=.type "slice",data:=.fields #[vl,vu,.none] } }:=I3.kept (t':=s3.toks) fun b ob q=>ag _ q
 obtain ⟨T,id,hT,ht,hg⟩:=hr pins { s3 with heap:=s3.heap.push { cls:=.type "slice",data:=.fields #[vl,vu,.none] } } σ H3 x v vl vu l u s3.heap.objs.size Q I4 r1 (Heap.IsSliceOf.new ..) pl pu q3
 show aq (aF X.prog X.w) X.A (Jq e (.Slice lo hi none p2) v (.ref s3.heap.objs.size)) (EP X pins σ Q) X.xe { s3 with heap:=s3.heap.push { cls:=.type "slice",data:=.fields #[vl,vu,.none] } }
 exact tail_any (ops:=[.ref s3.heap.objs.size,v]) ht hT hg (by with_unfolding_all rfl)
def Dx (xs:List V) (lo hi:Option Int):List V:=(xs.drop (HT.iJ xs.length 0 lo)).take (HT.iJ xs.length xs.length hi - HT.iJ xs.length 0 lo)
theorem wq (xs:List V) (lo hi:Option Int):(Dx xs lo hi).length<=xs.length:=by
 unfold Dx
 rw [xh,xi]
 omega
def WF (K:a8):V->Option Int->Option Int->Hp->VK->Prop:=fun x lo hi H Q=>∃ a xs,x=.ref a/\kn K H a xs /\
 ¬ (HT.iJ xs.length 0 lo=0/\HT.iJ xs.length xs.length hi=xs.length)/\∀ p,H p=none->Q (.ref p) (upd H p (.tup (Dx xs lo hi)))
theorem SQ:Uz X (WF X.K):=by
 intro pins s σ H x v vl vu lo hi sl Q I rx hs pl pu h
 obtain ⟨a,xs,rfl,hx,hw,q⟩:=h
 cases rx
 obtain ⟨its,r,ht,hz⟩:=I.tuple hx
 have hlen:its.toArray.size=xs.length:=by rw [aJ];exact r.length.symm
 refine ⟨"tuple",_,PyProof.Rows.slot_tuple_getitem.lookup,ht.typeIs,?_⟩
 refine HT.uq ht hs pl pu (by rw [hlen];exact hw) ?_ (by rw [hlen];exact hz)
 rw [hlen]
 refine ⟨.ref s.heap.objs.size,_,I.laid (t':=s.toks) (o:=.tup (Dx xs lo hi)) (fun b ob q=>ag _ q) (au _) ?_,rfl,q _ (I.hok.fresh (au _))⟩
 exact ⟨bE (wq xs lo hi) hz,_,(r.drop (HT.iJ xs.length 0 lo)).take (HT.iJ xs.length xs.length hi - HT.iJ xs.length 0 lo),wJ _ _⟩
inductive M1 (K:a8) (x:V) (y:V) (H:Hp) (Q:VK):Prop
 | mk (a b xs ys:_) (h0:x=.ref a) (h1:y=.ref b) (h2:kn K H a xs) (h3:kn K H b ys) (h4:xs≠[]) (h5:xs.length + ys.length<=sizeLine) (h6:(ys=[]->Q (.ref a) H)) (h7:(ys≠[]->∀ p,H p=none->Q (.ref p) (upd H p (.tup (xs++ys))))):M1 K x y H Q
def UA (K:a8):R2:=M1 K
theorem dn.nil_iff {xs:List V}{us:List a9} (r:dn xs us):us=[]↔xs=[]:=by
 cases r with
 | nil=>simp
 | cons _ _=>simp
theorem Py:pZ X (fZ .Add) (UA X.K):=by
 intro pins s σ H x y v u Q I rx ry h
 obtain ⟨a,b,xs,ys,rfl,rfl,ha,hb,hx,hz,q1,q2⟩:=h
 cases rx
 cases ry
 obtain ⟨its,r1,p1,_⟩:=I.tuple ha
 obtain ⟨its2,r2,p2,_⟩:=I.tuple hb
 refine HT.Pt p1 p2 (fun z=>hx (r1.nil_iff.mp z)) (fun z=>⟨.ref a,H,I,rfl,q1 (r2.nil_iff.mp z)⟩) (fun z=>?_) (by rw [<- r1.length,<- r2.length];exact hz)
 refine ⟨.ref s.heap.objs.size,_,I.laid (t':=s.toks) (o:=.tup (xs++ys)) (fun b ob q=>ag _ q) (au _) ?_,rfl,q2 (fun w=>z (r2.nil_iff.mpr w)) _ (I.hok.fresh (au _))⟩
 exact ⟨by rw [aO];exact hz,_,r1.append r2,wJ _ _⟩
end
end L2
namespace L2
open PySem PySem.Spec PyProof.Rows
def Rf (n:Nat) (i:Int):Option Nat:=if 0<=i then (if i<n then some i.toNat else none) else if -(n:Int)<=i then some (i + n).toNat else none
def Dy {α:Type} (xs:List α) (i:Int):Option α:=(Rf xs.length i).bind fun j=>xs[j]?
theorem Pz {n:Nat}{i:Int}{j:Nat} (h:Rf n i=some j):seqIndex? i n=some j/\j<n/\-(n:Int)<=i/\i<n:=by
 unfold Rf at h
 by_cases h0:0<=i
 ·rw [if_pos h0] at h
  by_cases h1:i<n
  ·rw [if_pos h1] at h
   have e:i.toNat=j:=bJ h
   exact ⟨by rw [seqIndex_of h0 h1,e],by omega,by omega,h1⟩
  ·rw [if_neg h1] at h;cases h
 ·rw [if_neg h0] at h
  by_cases h1:-(n:Int)<=i
  ·rw [if_pos h1] at h
   have e:(i + n).toNat=j:=bJ h
   exact ⟨by rw [seqIndex_neg (by omega) h1,e],by omega,h1,by omega⟩
  ·rw [if_neg h1] at h;cases h
theorem BP {α:Type}{xs:List α}{i:Int}{v:α} (h:Dy xs i=some v):∃ j,seqIndex? i xs.length=some j/\xs[j]?=some v/\j<xs.length/\-(xs.length:Int)<=i/\i<xs.length:=by
 unfold Dy at h
 cases e:Rf xs.length i with
 | none=>rw [e] at h;cases h
 | some j =>
  rw [e] at h
  obtain ⟨h1,h2,h3,h4⟩:=Pz e
  exact ⟨j,h1,h,h2,h3,h4⟩
theorem ur {α:Type}{xs:List α}{j:Nat}{v:α} (h:xs[j]?=some v):Dy xs (j:Int)=some v:=by
 have hj:j<xs.length:=(List.getElem?_eq_some_iff.mp h).1
 have e:Rf xs.length (j:Int)=some j:=by
  unfold Rf
  rw [if_pos (by omega),if_pos (by omega)];simp
 unfold Dy;rw [e];exact h
def ut (b:b9):Prop:=∀ o i,Df b false o i=operate [o,i] (q8 o i)
def UB (X:Cx) (r:R2):Prop :=
 ∀ (value slice:b9) (pins:List (ah×Obj)) (s:af) (σ:St) (H:Hp) (x y:V) (v u:a9) (Q:VK),bF X pins σ H s->dm x v->dm y u->r x y H Q ->
  Df slice false v u=operate [v,u] (q8 v u)->aq (aF X.prog X.w) X.A (Jq value slice v u) (EP X pins σ Q) X.xe s
def WG (X:Cx) (id:String) (r:V->List V->Hp->VK->Prop):Prop :=
 ∀ (pins:List (ah×Obj)) (s:af) (σ:St) (H:Hp) (x:V) (xs:List V) (v:a9) (us:List a9) (Q:VK),bF X pins σ H s->dm x v->dn xs us->r x xs H Q ->
  aq (aF X.prog X.w) X.A (call (.builtin id) (v::us)) (EP X pins σ Q) X.xe s
section
variable {X:Cx}{a b:b9}{ta tb:TE}{pos:Pos}
theorem Rg {r:R2} (hr:UB X r) (ha:PE X a ta) (hb:PE X b tb) (hs:ut b):PE X (.Subscript a b pos) (Uq r ta tb):=by
 intro pins s σ H Q I h
 exact Subscript_ (SB ha hb I h fun v u s2 x y H2 I2 rx ry q=>hr a b pins s2 σ H2 x y v u Q I2 rx ry q (hs _ _))
inductive Rh (K:a8) (x:V) (y:V) (H:Hp) (Q:VK):Prop
 | mk (p xs i v:_) (h0:x=.ref p) (h1:y=.int i) (h2:lF K H p xs) (h3:Dy xs i=some v) (h4:Q v H):Rh K x y H Q
def WH (K:a8):R2:=Rh K
inductive Ri (K:a8) (x:V) (y:V) (H:Hp) (Q:VK):Prop
 | mk (p xs i v:_) (h0:x=.ref p) (h1:y=.int i) (h2:kn K H p xs) (h3:Dy xs i=some v) (h4:Q v H):Ri K x y H Q
def WI (K:a8):R2:=Ri K
inductive Rj (x:V) (y:V) (H:Hp) (Q:VK):Prop
 | mk (z i c:_) (h0:x=.str z) (h1:y=.int i) (h2:z.length<=sizeLine) (h3:Dy z.cps.toList i=some c) (h4:Q (.str ⟨#[c]⟩) H):Rj  x y H Q
def WJ:R2:=Rj
theorem oz:UB X (WH X.K):=by
 intro value slice pins s σ H x y v u Q I rx ry h hs
 obtain ⟨p,xs,i,z,rfl,rfl,hq,he,q⟩:=h
 cases rx
 obtain ⟨t,rfl⟩:=ry
 obtain ⟨its,r,pl,hz⟩:=I.list hq
 obtain ⟨j,h1,h2,h3,h4,h5⟩:=BP he
 obtain ⟨w,ew,rw'⟩:=r.get h2
 have hl:=r.length
 have hn:=vB
 have fin:EP X pins σ Q w s:=⟨z,H,I,rw',q⟩
 by_cases h0:0<=i
 ·have hj:i.toNat=j:=by
   rw [seqIndex_of h0 h5] at h1
   exact bJ h1
  exact item_listR pl.isList h0 (by omega) (by rw [hj];simpa using ew) fin hs
 ·have hj:(i + (its.toArray.size:Int)).toNat=j:=by
   rw [seqIndex_neg (by omega) h4] at h1
   rw [aJ,<- hl]
   exact bJ h1
  exact Lm (x:=w) pl.isList.typeIs slot_list_getitem.lookup
   (wpAny_getItem_list_neg (Q:=fun r s'=>r=w/\EP X pins σ Q r s') pl.isList (by omega) (by rw [aJ]<;>omega) (by omega) (by rw [hj];simpa using ew) ⟨rfl,fin⟩) hs
theorem SS:UB X (WI X.K):=by
 intro value slice pins s σ H x y v u Q I rx ry h hs
 obtain ⟨p,xs,i,z,rfl,rfl,hq,he,q⟩:=h
 cases rx
 obtain ⟨t,rfl⟩:=ry
 obtain ⟨its,r,pl,hz⟩:=I.tuple hq
 obtain ⟨j,h1,h2,h3,h4,h5⟩:=BP he
 obtain ⟨w,ew,rw'⟩:=r.get h2
 have hl:=r.length
 have hn:=vB
 have fin:EP X pins σ Q w s:=⟨z,H,I,rw',q⟩
 exact Lm (x:=w) pl.typeIs slot_tuple_getitem.lookup
  (getItem_tuple (j:=j) (Q:=fun r s'=>r=w/\EP X pins σ Q r s') pl (by omega) (by omega) (by rw [aJ,<- hl];exact h1) (by simpa using ew) ⟨rfl,fin⟩) hs
theorem SU:UB X WJ:=by
 intro value slice pins s σ H x y v u Q I rx ry h hs
 obtain ⟨z,i,c,rfl,rfl,hz,he,q⟩:=h
 obtain ⟨t,rfl⟩:=rx
 obtain ⟨t',rfl⟩:=ry
 obtain ⟨j,h1,h2,h3,h4,h5⟩:=BP he
 have hl:z.cps.toList.length=z.length:=by simp [Str.length]
 rw [hl] at h1 h4 h5
 have hn:=vB
 exact tail_any (typeIs_str s z t) slot_str_getitem.lookup (getItem_str (c:=c) (by
  have e1:decide (i < -(2 ^ 63:Int))=false:=decide_eq_false (by omega)
  have e2:decide (i ≥ 2 ^ 63)=false:=decide_eq_false (by omega)
  rw [e1,e2,Bool.or_false]) (by rw [h1];simpa using h2) ⟨.str ⟨#[c]⟩,H,I.tok _,⟨_,rfl⟩,q⟩) hs
theorem BQ (lo hi:Option Int) (n:Nat):(ml lo hi none n).1=((HT.iJ n 0 lo:Nat):Int)/\(ml lo hi none n).2.1=((HT.iJ n n hi:Nat):Int)/\(ml lo hi none n).2.2=1:=by
 refine ⟨?_,?_,rfl⟩
 ·cases lo with
  | none=>simp [ml,HT.iJ]
  | some i =>
   simp only [ml,HT.iJ,gF,show (1:Int) > 0 by decide,if_true]
   by_cases h:i<0
   ·simp only [h,if_true]<;>omega
   ·simp only [h,if_false]<;>omega
 ·cases hi with
  | none=>simp [ml,HT.iJ]
  | some i =>
   simp only [ml,HT.iJ,gF,show (1:Int) > 0 by decide,if_true]
   by_cases h:i<0
   ·simp only [h,if_true]<;>omega
   ·simp only [h,if_false]<;>omega
theorem A1 (its:List a9) (lo hi:Option Int):slicePick its.toArray lo hi none=((its.drop (HT.iJ its.length 0 lo)).take (HT.iJ its.length its.length hi - HT.iJ its.length 0 lo)).toArray:=by
 obtain ⟨h1,h2,h3⟩:=BQ lo hi its.toArray.size
 unfold slicePick
 rw [h1,h2,h3]
 simp only [sliceRange_one,pick_run,aJ]<;>rfl
def WK (K:a8):V->Option Int->Option Int->Hp->VK->Prop:=fun x lo hi H Q=>∃ a xs,x=.ref a/\lF K H a xs/\∀ p,H p=none->Q (.ref p) (upd H p (.lst (Dx xs lo hi)))
theorem PB:Uz X (WK X.K):=by
 intro pins s σ H x v vl vu lo hi sl Q I rx hs pl pu h
 obtain ⟨a,xs,rfl,hx,q⟩:=h
 cases rx
 obtain ⟨its,r,ht,hz⟩:=I.list hx
 have hlen:=r.length
 refine ⟨"list",_,slot_list_getitem.lookup,ht.isList.typeIs,?_⟩
 refine wpAny_getItem_list_slice ht.isList hs pl pu .none (by simp) ?_ (by rw [aJ]<;>omega)
 rw [A1,<- hlen]
 refine ⟨.ref s.heap.objs.size,_,I.laid (t':=s.toks) (o:=.lst (Dx xs lo hi)) (fun b ob q=>ag _ q) (au _) ?_,rfl,q _ (I.hok.fresh (au _))⟩
 exact ⟨bE (wq xs lo hi) hz,_,0,(r.drop (HT.iJ xs.length 0 lo)).take (HT.iJ xs.length xs.length hi - HT.iJ xs.length 0 lo),ay _ rfl⟩
def qr:V->Bool
 | .non=>true
 | .bl _=>true
 | .int _=>true
 | .str _=>true
 | _=>false
def PD:V->V->Bool
 | .non,.non=>true
 | .bl a,.bl b=>a == b
 | .bl a,.int b=>(if a then 1 else 0) == b
 | .int a,.bl b=>a == (if b then 1 else 0)
 | .int a,.int b=>a == b
 | .str a,.str b=>a == b
 | _,_=>false
theorem SW {A:bg}{s:af}{y x:V}{u v:a9} (ry:dm y u) (rx:dm x v) (fy:qr y=true) (fx:qr x=true):Jr A s u v (PD y x):=by
 cases y with
 | non =>
  cases ry
  cases x with
  | non=>cases rx;exact SeqAt.EqAt.same _
  | bl b=>cases rx;exact SeqAt.EqAt.none_bool b
  | int b=>obtain ⟨t,rfl⟩:=rx;exact SeqAt.EqAt.none_int b t
  | str b=>obtain ⟨t,rfl⟩:=rx;exact SeqAt.EqAt.none_str b t
  | _=>exact absurd (show false=true from fx) aS
 | bl a =>
  cases ry
  cases x with
  | non=>cases rx;exact SeqAt.EqAt.bool_none a
  | bl b=>cases rx;exact AA a b
  | int b=>obtain ⟨t,rfl⟩:=rx;exact SeqAt.EqAt.bool_int a b t
  | str b=>obtain ⟨t,rfl⟩:=rx;exact SeqAt.EqAt.bool_str a b t
  | _=>exact absurd (show false=true from fx) aS
 | int a =>
  obtain ⟨t',rfl⟩:=ry
  cases x with
  | non=>cases rx;exact SeqAt.EqAt.int_none a t'
  | bl b=>cases rx;exact SeqAt.EqAt.int_bool a t' b
  | int b=>obtain ⟨t,rfl⟩:=rx;exact SeqAt.EqAt.int_int a t' b t
  | str b=>obtain ⟨t,rfl⟩:=rx;exact Db a t' b t
  | _=>exact absurd (show false=true from fx) aS
 | str a =>
  obtain ⟨t',rfl⟩:=ry
  cases x with
  | non=>cases rx;exact SeqAt.EqAt.str_none a t'
  | bl b=>cases rx;exact SeqAt.EqAt.str_bool a t' b
  | int b=>obtain ⟨t,rfl⟩:=rx;exact Dc a t' b t
  | str b=>obtain ⟨t,rfl⟩:=rx;exact SeqAt.EqAt.str_str a t' b t
  | _=>exact absurd (show false=true from fx) aS
 | _=>exact absurd (show false=true from fy) aS
def Gm (x:V) (u:a9):Bool:=match u with
 | .none=>PD .non x
 | .bool b=>PD (.bl b) x
 | .int i _=>PD (.int i) x
 | .str z _=>PD (.str z) x
 | _=>false
theorem M2 {x y:V}{u:a9} (r:dm y u) (f:qr y=true):Gm x u=PD y x:=by
 cases y with
 | non=>cases r;rfl
 | bl b=>cases r;rfl
 | int i=>obtain ⟨t,rfl⟩:=r;rfl
 | str z=>obtain ⟨t,rfl⟩:=r;rfl
 | _=>exact absurd (show false=true from f) aS
theorem uu {x:V}:∀ {xs:List V}{us:List a9},dn xs us->xs.all qr=true->us.any (Gm x)=xs.any fun y=>PD y x
 | _,_,.nil,_=>rfl
 | y::xs,u::us,.cons r t,f=>by
  rw [uh,aW] at f
  rw [e6,e6,M2 r f.1,uu t f.2]
theorem qt {A:bg}{s:af}{x:V}{v:a9} (rx:dm x v) (fx:qr x=true):∀ {xs:List V}{us:List a9},dn xs us->xs.all qr=true->∀ u∈us,Jr A s u v (Gm x u)
 | _,_,.nil,_=>fun u hu=>by cases hu
 | y::xs,u::us,.cons r t,f=>fun u' hu=>by
  rw [uh,aW] at f
  rcases List.mem_cons.mp hu with rfl | hu
  ·rw [M2 r f.1];exact SW r rx f.1 fx
  ·exact qt rx fx t f.2 u' hu
def VX (x:V) (xs:List V):Bool:=xs.any fun y=>PD y x
inductive UC (K:a8) (neg:Bool) (x:V) (y:V) (H:Hp) (Q:VK):Prop
 | mk (p xs:_) (h0:y=.ref p) (h1:(lF K H p xs\/kn K H p xs)) (h2:qr x=true) (h3:xs.all qr=true) (h4:Q (.bl (if neg then !VX x xs else VX x xs)) H):UC K neg x y H Q
def WL (K:a8) (neg:Bool):R2:=UC K neg
theorem JQ:pZ X (bG .In) (WL X.K false):=by
 intro pins s σ H x y v u Q I rx ry h
 obtain ⟨p,xs,rfl,hq,fx,fs,q⟩:=h
 cases ry
 rcases hq with hq | hq
 ·obtain ⟨its,r,pl,hz⟩:=I.list hq
  refine SeqAt.in_listAt (Gm x) pl.isList (fun w hw=>qt rx fx r fs w (by simpa using hw)) ⟨.bl _,H,I,rfl,?_⟩
  rw [show its.toArray.any (Gm x)=its.any (Gm x) by simp,uu r fs]
  exact q
 ·obtain ⟨its,r,pl,hz⟩:=I.tuple hq
  refine SeqAt.in_tupleAt (Gm x) pl (fun w hw=>qt rx fx r fs w (by simpa using hw)) ⟨.bl _,H,I,rfl,?_⟩
  rw [show its.toArray.any (Gm x)=its.any (Gm x) by simp,uu r fs]
  exact q
theorem BR:pZ X (bG .NotIn) (WL X.K true):=by
 intro pins s σ H x y v u Q I rx ry h
 obtain ⟨p,xs,rfl,hq,fx,fs,q⟩:=h
 cases ry
 rcases hq with hq | hq
 ·obtain ⟨its,r,pl,hz⟩:=I.list hq
  refine SeqAt.notIn_listAt (Gm x) pl.isList (fun w hw=>qt rx fx r fs w (by simpa using hw)) ⟨.bl _,H,I,rfl,?_⟩
  rw [show its.toArray.any (Gm x)=its.any (Gm x) by simp,uu r fs]
  exact q
 ·obtain ⟨its,r,pl,hz⟩:=I.tuple hq
  refine SeqAt.notIn_tupleAt (Gm x) pl (fun w hw=>qt rx fx r fs w (by simpa using hw)) ⟨.bl _,H,I,rfl,?_⟩
  rw [show its.toArray.any (Gm x)=its.any (Gm x) by simp,uu r fs]
  exact q
theorem uv:j5 X (.builtin "len") (fun xs H Q=>∃ p ys,xs=[.ref p]/\(lF X.K H p ys\/kn X.K H p ys)/\Q (.int ys.length) H):=by
 intro pins s σ H xs us Q I r h
 obtain ⟨p,ys,rfl,hq,q⟩:=h
 obtain ⟨u,rfl,rx⟩:=ko r
 cases rx
 have hn:=vB
 rcases hq with hq | hq
 ·obtain ⟨its,r',pl,hz⟩:=I.list hq
  have hlen:=r'.length
  exact Calls.call_len_list pl.isList (by simp only [aJ]<;>omega) ⟨.int ys.length,H,I.tok _,⟨s.toks + 1,by rw [aJ,hlen]⟩,q⟩
 ·obtain ⟨its,r',pl,hz⟩:=I.tuple hq
  have hlen:=r'.length
  exact len_tuple pl (by simp only [aJ]<;>omega) ⟨.int ys.length,H,I.tok _,⟨s.toks + 1,by rw [aJ,hlen]⟩,q⟩
theorem BS:j5 X (.builtin "len") (fun xs H Q=>∃ z,xs=[.str z]/\z.length<=sizeLine/\Q (.int z.length) H):=by
 intro pins s σ H xs us Q I r h
 obtain ⟨z,rfl,hz,q⟩:=h
 obtain ⟨u,rfl,t,rfl⟩:=ko r
 have hn:=vB
 exact len_str (by omega) ⟨.int z.length,H,I.tok _,⟨_,rfl⟩,q⟩
theorem uw:j5 X (.type "list") (fun xs H Q=>∃ p ys,xs=[.ref p]/\(lF X.K H p ys\/kn X.K H p ys)/\∀ l,H l=none->Q (.ref l) (upd H l (.lst ys))):=by
 intro pins s σ H xs us Q I r h
 obtain ⟨p,ys,rfl,hq,q⟩:=h
 obtain ⟨u,rfl,rx⟩:=ko r
 cases rx
 have fin:∀ (its:List a9),dn ys its->ys.length<=sizeLine->∀ (h':br) (c':Nat),(∀ b o',s.heap.get? b=some o'->h'.get? b=some o') ->
   h'.get? s.heap.objs.size=some { cls:=.type "list",dict:=none,data:=.seq its.toArray c',slots:=#[] }->EP X pins σ Q (.ref s.heap.objs.size) { s with heap:=h' }:=fun its r' hz h' c' kp e =>
  ⟨.ref s.heap.objs.size,_,I.laid (t':=s.toks) kp (au _) (show cY X.prog X.w _ h' _ (.lst ys) from ⟨hz,its,c',r',e⟩),rfl,q _ (I.hok.fresh (au _))⟩
 rcases hq with hq | hq
 ·obtain ⟨its,r',pl,hz⟩:=I.list hq
  have hlen:=r'.length
  obtain ⟨o,ho,hc,n,hd⟩:=pl.isList
  exact call_list_seq p (.inl rfl) ho hc hd (fun h' c' kp e=>fin its r' hz h' c' kp e) (by simp only [aJ]<;>omega)
 ·obtain ⟨its,r',pl,hz⟩:=I.tuple hq
  have hlen:=r'.length
  obtain ⟨o,ho,hc,n,hd⟩:=pl
  exact call_list_seq p (.inr rfl) ho hc hd (fun h' c' kp e=>fin its r' hz h' c' kp e) (by simp only [aJ]<;>omega)
theorem sD:j5 X (.type "tuple") (fun xs H Q=>∃ p ys,xs=[.ref p]/\((lF X.K H p ys/\∀ l,H l=none->Q (.ref l) (upd H l (.tup ys)))\/(kn X.K H p ys/\Q (.ref p) H))):=by
 intro pins s σ H xs us Q I r h
 obtain ⟨p,ys,rfl,h⟩:=h
 obtain ⟨u,rfl,rx⟩:=ko r
 cases rx
 rcases h with ⟨hq,q⟩ | ⟨hq,q⟩
 ·obtain ⟨its,r',pl,hz⟩:=I.list hq
  have hlen:=r'.length
  refine call_tuple_list pl.isList (fun h' kp=>?_) (by simp only [aJ]<;>omega)
  have I1:bF X pins σ H { s with heap:=h' }:=I.kept (t':=s.toks) kp
  have I2:bF X pins σ (upd H h'.objs.size (.tup ys)) { s with heap:=h'.push { cls:=.type "tuple",data:=.seq its.toArray } } :=
   I1.laid (t':=s.toks) (fun b o e=>ag _ e) (au _) (show cY X.prog X.w _ _ _ (.tup ys) from ⟨hz,its,r',wJ _ _⟩)
  exact ⟨.ref h'.objs.size,_,I2,rfl,q _ (I1.hok.fresh (au _))⟩
 ·obtain ⟨its,r',pl,hz⟩:=I.tuple hq
  exact call_tuple_same pl ⟨.ref p,H,I,rfl,q⟩
def Xs (K:a8) (T:String) (x:V) (H:Hp):Prop:=match x with
 | .str _=>T="str"
 | .int _=>T="int"
 | .ref p=>(T="list"/\∃ xs,lF K H p xs)\/(T="tuple"/\∃ o,K.lookup p=some o/\o.cls=.type "tuple"/\o.dict=none) \/
   (T="dict"/\((∃ kvs,H p=some (.dK kvs))\/∃ kvs,H p=some (.dT kvs)))\/(T="set"/\∃ S n,H p=some (.set S n))
 | _=>False
theorem SX {pins:List (ah×Obj)}{σ:St}{H:Hp}{s:af}{T:String}{x:V}{v:a9} (I:bF X pins σ H s) (r:dm x v) (ty:Xs X.K T x H) :
  s.TypeIs v T/\∀ a,v=.ref a->∃ ob,s.heap.get? a=some ob/\ob.dict=none:=by
 cases x with
 | str z =>
  obtain ⟨t,rfl⟩:=r
  cases (show T="str" from ty)
  exact ⟨typeIs_str s z t,fun _ e=>nomatch e⟩
 | int i =>
  obtain ⟨t,rfl⟩:=r
  cases (show T="int" from ty)
  exact ⟨typeIs_int s i t,fun _ e=>nomatch e⟩
 | ref p =>
  cases r
  rcases ty with ⟨rfl,xs,hq⟩ | ⟨rfl,o,hk,hc,hd⟩ | ⟨rfl,hk⟩ | ⟨rfl,S,n,hk⟩
  ·obtain ⟨its,_,pl,_⟩:=I.list hq
   refine ⟨pl.isList.typeIs,fun a e=>?_⟩
   cases e
   obtain ⟨o,n,e,c,hd,_⟩:=pl
   exact ⟨o,e,hd⟩
  ·refine ⟨⟨o,I.kIn p o hk,hc⟩,fun a e=>?_⟩
   cases e
   exact ⟨o,I.kIn _ o hk,hd⟩
  ·have z:∃ o,s.heap.get? p=some o/\o.ExactDict:=by
    rcases hk with ⟨kvs,hk⟩ | ⟨kvs,hk⟩
    ·obtain ⟨_,_,_,_,o,_,_,e,ex,_⟩:=I.hok p _ hk
     exact ⟨o,e,ex⟩
    ·obtain ⟨_,_,_,_,o,_,_,e,ex,_⟩:=I.hok p _ hk
     exact ⟨o,e,ex⟩
   obtain ⟨o,e,ex⟩:=z
   refine ⟨⟨o,e,ex.1⟩,fun a e2=>?_⟩
   cases e2
   exact ⟨o,e,ex.2.1⟩
  ·obtain ⟨o,_,_,_,e,ex,_⟩:=I.hok p _ hk
   refine ⟨⟨o,e,ex.1⟩,fun a e2=>?_⟩
   cases e2
   exact ⟨o,e,ex.2.1⟩
 | _=>exact eC ty
def Y1 (K:a8) (T:String) (r:V->List V->Hp->VK->Prop) (to:TE) (t:TA):TE:=fun σ H Q=>to σ H fun x H1=>Xs K T x H1/\t σ H1 fun xs H2=>r x xs H2 Q
variable {o e:b9}{es:List b9}{to:TE}{t:TA}{name:Str}{apos cpos:Pos}{T id:String}{r:V->List V->Hp->VK->Prop}
theorem AL (pa:PlainAttrs T) (slot:Slot T name id) (hty:typeOf (.builtin id)=pure (.type "method_descriptor")) (hm:WG X id r) (ho:PE X o to) (ha:PA X (e::es) t)
  (hbase:Js o name X.env (dz o X.env)=dz o X.env:=by rfl)
  (hfew:((fO cpos (az (e::es) X.env)).all (fun x=>!x.1) && (backToKw cpos (OY [] X.env)).all (fun x=>x.1.isSome)
   && decide ((e::es).length + ([] : List zO).length + (if ([] : List zO).isEmpty then 0 else 1)<30))=true:=by rfl)
  (hline:(apos.endLine == cpos.line)=true:=by rfl) (hs:az (e::es) X.env=(false,dz e X.env)::az es X.env:=by rfl) (hplain:(fO cpos (az es X.env)).any (·.1)=false:=by rfl) :
  PE X (.Call (.Attribute o name apos) (e::es) [] cpos) (Y1 X.K T r to t):=by
 intro pins s σ H Q I h
 refine wpAny_Call_method_late hbase hfew hline rfl (fD (ho pins s σ H _ I h) fun v s1 ⟨x,H1,I1,r1,ty,q1⟩=>?_)
 obtain ⟨h1,h2⟩:=SX I1 r1 ty
 refine ⟨T,id,pa,slot,hty,h1,h2,?_⟩
 have hA:=ha cpos pins s1 σ H1 _ I1 q1
 rw [hs] at hA ⊢
 refine Calls.callWith_builtin (by show (false || (fO cpos (az es X.env)).any (·.1))=false;rw [hplain]<;>rfl) (FS ?_)
 exact fD hA fun us s2 h_30=>by obtain ⟨vs,H2,I2,r2,q2⟩:=h_30;exact hm pins s2 σ H2 x vs v us Q I2 r1 r2 q2
end
end L2
namespace L2
open PySem PySem.Spec PyProof.Rows
def Xt (X:Cx) (id:String) (r:V->List V->Hp->VK->Prop):Prop :=
 ∀ (pins:List (ah×Obj)) (s:af) (σ:St) (H:Hp) (x:V) (xs:List V) (v:a9) (us:List a9) (Q:VK),bF X pins σ H s->dm x v->dn xs us->r x xs H Q ->
  aq (aF X.prog X.w) X.A (call (.builtin id) (v::us)) (EP X pins σ Q) X.xe s
theorem dn.one {x:V}{us:List a9} (h:dn [x] us):∃ u,us=[u]/\dm x u:=by
 cases h with | cons r t=>cases t;exact ⟨_,rfl,r⟩
section
variable {X:Cx}{pins:List (ah×Obj)}{σ:St}{H:Hp}{s:af}{l b:ah}{xs ys zs:List V}
theorem bF.lset {its its':List a9}{n:Nat}{f:Array a9->Array a9}{t':Nat} (I:bF X pins σ H s) (hH:H l=some (.lst xs))
  (e:s.heap.get? l=some { cls:=.type "list",data:=.seq its.toArray n }) (hf:f its.toArray=its'.toArray) (hv:dn ys its') (hz:ys.length<=sizeLine) :
  bF X pins σ (upd H l (.lst ys)) { s with heap:=s.heap.update l (kK f),toks:=t' }:=by
 have q:=PySem.IsL.update e f
 rw [hf] at q
 refine I.write (x:=l) (e:=l) (by rw [hH];exact trivial) (.inl rfl) (fun b' u hb hu=>(q9 s.heap (kK f) (cZ hb)).trans hu) ⟨_,q⟩ ?_
 exact ⟨hz,its',_,hv,q⟩
theorem bF.lnew {its:List a9}{t':Nat} (I:bF X pins σ H s) (hv:dn ys its) (hz:ys.length<=sizeLine) :
  bF X pins σ (upd H s.heap.objs.size (.lst ys)) { s with heap:=s.heap.push { cls:=.type "list",data:=.seq its.toArray },toks:=t' } :=
 I.laid (fun _ _ q=>ag _ q) (au _) ⟨hz,its,0,hv,ay _ rfl⟩
theorem bF.fresh (I:bF X pins σ H s):H s.heap.objs.size=none:=I.hok.fresh (au _)
theorem bF.lstM (I:bF X pins σ H s) (hH:H l=some (.lst xs)):Xp s.heap l xs:=by
 obtain ⟨z,its,n,r,e⟩:=I.hok l _ hH
 exact ⟨z,its,n,r,r.length,e⟩
theorem M3 {n:Nat} (h:n<=sizeLine):lv n=false:=by
 unfold lv
 exact decide_eq_false (by omega)
end
section
variable {X:Cx}
inductive Dz (x:V) (vs:List V) (H:Hp) (Q:VK):Prop
 | mk (l xs y:_) (h0:x=.ref l) (h1:vs=[y]) (h2:H l=some (.lst xs)) (h3:xs.length<sizeLine) (h4:Q .non (upd H l (.lst (xs++[y])))):Dz  x vs H Q
def PF:V->List V->Hp->VK->Prop:=Dz
theorem AM:Xt X "list.append" PF:=by
 intro pins s σ H x vs v us Q I rx rv h
 obtain ⟨l,xs,y,rfl,rfl,hH,hz,q⟩:=h
 cases rx
 obtain ⟨u,rfl,ru⟩:=rv.one
 obtain ⟨z,its,n,r,hl,e⟩:=I.lstM hH
 refine xG F.slot_list_append ⟨_,e,rfl⟩ F.entry_list_append (F.args_list_append_2 _ _) (PySem.list_append l its.toArray n u (by rw [aJ];omega)) ⟨e,?_⟩
 refine ⟨.non,_,I.lset (its':=its++[u]) hH e (by simp) (r.append (.cons ru .nil)) ?_,rfl,q⟩
 rw [aO,cV]
 omega
inductive DA (x:V) (vs:List V) (H:Hp) (Q:VK):Prop
 | mk (l b xs zs:_) (h0:x=.ref l) (h1:vs=[.ref b]) (h2:H l=some (.lst xs)) (h3:H b=some (.lst zs)) (h4:xs.length + zs.length<=sizeLine) (h5:Q .non (upd H l (.lst (xs++zs)))):DA  x vs H Q
def PH:V->List V->Hp->VK->Prop:=DA
theorem AN:Xt X "list.extend" PH:=by
 intro pins s σ H x vs v us Q I rx rv h
 obtain ⟨l,b,xs,zs,rfl,rfl,hH,hB,hz,q⟩:=h
 cases rx
 obtain ⟨u,rfl,ru⟩:=rv.one
 cases ru
 obtain ⟨z,its,n,r,hl,e⟩:=I.lstM hH
 obtain ⟨z2,its2,n2,r2,hl2,e2⟩:=I.lstM hB
 have hsz:its.toArray.size + its2.toArray.size<=sizeLine:=by rw [aJ,aJ];omega
 have hlong:¬ (!its.toArray.isEmpty && lv (its.toArray.size + its2.toArray.size))=true:=by
  rw [M3 hsz,mx]
  exact aS
 refine xG F.slot_list_extend ⟨_,e,rfl⟩ F.entry_list_extend (F.args_list_extend_2 _ _)
  (AutoSeq1.list_extend_list_list_0 l its.toArray n b its2.toArray n2 hlong (by rw [aJ];omega) (by omega)) ⟨e,e2,?_⟩
 refine ⟨.non,_,I.lset (its':=its++its2) hH e (by simp) (r.append r2) ?_,rfl,q⟩
 rw [aO]
 omega
end
section
variable {prog:aI}{w:bc}{A:bg}{E:a9->af->Prop}{s:af}
end
section
variable {X:Cx}
end
end L2
namespace Att
open PySem PySem.W PySem.Calls PyProof.Rows
theorem wQ {P:Params}{h:br}:∀ (ns:List Int) (vs:List a9),WellAll P h vs (ns.map WData.int)->Ln vs ns:=by
 intro ns
 induction ns with
 | nil =>
  intro vs w
  rw [eQ] at w
  cases w
  exact .nil
 | cons n ns ih =>
  intro vs w
  rw [aG] at w
  cases w with
  | cons a b =>
   cases a
   exact .cons _ _ (ih _ b)
theorem JR {l:OpenLaw}{n:Nat} (hn:l.most=some n) {P:Params}{h:br}{args:List WData}{vals:List a9}
  (hpre:l.row.toRowW.claim.pre args=true) (hwl:WellAll P h vals args) :
  ∃ a vs ns,vals=[bK a]/\args=[WData.list (ns.map WData.int)]/\h.get? a=some { cls:=.type "list",data:=.seq vs.toArray }/\Ln vs ns/\ns.length<=n:=by
 have hsh:WShape.hasAll [] args [.list .int]=true:=(pre_splitW hpre).1
 have hc:l.pre.holds [] { args:=args }=true:=(pre_splitW hpre).2
 obtain ⟨d,r,rfl,h1,h2⟩:=hasAllW_cons hsh
 obtain rfl:=hasAllW_nil h2
 obtain ⟨xs,rfl,h3⟩:=hasW_list h1
 obtain ⟨ns,rfl⟩:=items_int h3
 have hlen:ns.length<=n:=by
  unfold OpenLaw.pre at hc
  have h4:(WTm.not (.lt (.lit (.int (n:Int))) (.len (.arg 0)))).holds [] { args:=[.list (ns.map .int)] }=true:=by
   have h4:=(holds_andW hc).1
   rw [hn] at h4
   exact h4
  have h5:=condW_of h4 (w_not (w_lt w_lit (w_len_list (w_arg rfl))))
  rw [al] at h5
  refine OZ fun q=>?_
  have q':(n:Int)<((ns.length:Nat):Int):=by omega
  first
   | (rw [decide_eq_true q'] at h5;exact absurd h5 (by decide))
   | (simp at h5;omega)
 cases hwl with
 | cons w1 w2 =>
  cases w2
  cases w1 with
  | list ho hall=>exact ⟨_,_,ns,rfl,rfl,ho,wQ ns _ hall,hlen⟩
theorem JU (l:OpenLaw) (args:List WData):l.row.toRowW.claim.post args (.bool true) args=true :=
 postW_of (r:=l.row.toRowW) (X:=(true == true))
  (show WShape.has [] (.bool true) .bool=true by first | rfl | decide | simp [WShape.has,WShape.arms,WShape.armsAll])
  (show (WTm.eq .res (.lit (.bool true))).value [] { args:=args,res:=some (.bool true),after:=args }=some (.bool (true == true)) from w_eq_bool (w_res rfl) w_lit) rfl
theorem attach_call {l:OpenLaw}{n:Nat}{q:aI}{loose:List Str}{XP:(Str->Option a9)->br->Prop}{YP:bc->br->Prop}{d:DefRec}
  (hn:l.most=some n) (hdf:d.params.defaults=[])
  (call:∀ (w:bc) (s₀ s₁:af) (mg mb:Str->Option a9) (fa:ah) (o:Obj) (pm cd doc:a9) (a:ah) (vs:List a9) (ns:List Int),
   Ground q loose [] XP w s₀ mg mb s₁.heap->YP w s₁.heap ->
   s₁.heap.get? fa=some o->o.data=.func (docDef d.name d.params d.body d.scope pm cd doc)->s₁.heap.CodeRec cd d.name->mg d.name=some (.ref fa) ->
   s₁.heap.get? a=some { cls:=.type "list",data:=.seq vs.toArray }->Ln vs ns->ns.length<=n->s₁.gens=#[] ->
   gW (aF l.prog w) wk (.call (.ref fa) ⟨[.ref a],[]⟩) (fun r s'=>r=.ok (.ret (.bool true))/\OldK s₁.heap s'.heap/\s'.os=s₁.os/\q0 s'.gens) s₁) :
  WalkO q loose XP YP l.row.toRowW d [] (fun f vs=>Jt f vs):=by
 intro w s₀ s₁ mg mb G Y fa o pm cd doc dV kV ho hd hcd hD hmg hg args vals as hpre hlay hrd hwl hlo
 obtain rfl:dV=.none:=Dflts.none hD hdf
 obtain rfl:kV=.none:=Dflts.noKw hD
 obtain ⟨a,vs,ns,rfl,rfl,hobj,hints,hlen⟩:=JR hn hpre hwl
 refine enter_call (nP (call w s₀ s₁ mg mb fa o pm cd doc a vs ns G Y ho (fd_plain hd) hcd hmg hobj hints hlen hg) fun r s' hq=>?_)
 obtain ⟨rfl,h2,h3,h4⟩:=hq
 exact ⟨.inl ⟨.bool true,.bool true,[],rfl,fun _=>rfl,.bool true,JU l _,fun _=>⟨List.Pairwise.nil,fun _ hm=>(nomatch hm)⟩⟩,h2,h3,h4⟩
section
variable {prog:aI}{w:bc}{A:bg}{E:a9->af->Prop}{s:af}{K:Frag}
def WM (h:br) (L d:ah):List (ah×Obj):=(bw h.objs.size).filterMap fun a=>if a=L\/a=d then none else (h.get? a).map fun o=>(a,o)
end
end Att
namespace L2
open PySem PySem.Spec PyProof.Rows
theorem JV {vs:List a9}{ns:List Int} (h:Ln vs ns):dn (ns.map V.int) vs:=by
 induction h with
 | nil=>exact .nil
 | cons n t h ih=>exact .cons ⟨t,rfl⟩ ih
def SY (H:Hp):Prop:=∀ b,H b=none\/∃ o xs,H b=some (.frz o (.lst xs))
theorem M4 {P:aI}{w:bc}{K:a8}{mg mb:Str->Option a9}{CX:HW}{k:Nat}{fa a:ah}{fd:dE}{x:Str}{sp:Sp}{s₁:af}{vs:List a9}{ns:List Int}
  (KX:K.In s₁.heap) (hns:s₁.heap.Ns bN mg) (hb:s₁.heap.Ns builtinsNs mb) (hbb:∀ x:Str,x≠"__name__"->mb x=i7 x) (hlim:s₁.heap.NoLimit) (hg:s₁.gens=#[])
  (ha:s₁.heap.get? a=some { cls:=.type "list",data:=.seq vs.toArray }) (hi:Ln vs ns) (hl:ns.length<=sizeLine) (hr:jn k wk)
  (F:∀ base:br,K.In base->base.Ns bN mg->sg P w K mg base CX k fa fd [x] sp) (hbind:∀ (s:af) (u:a9),zN s fd ⟨[u],[]⟩ [(x,u)])
  (hsp:∀ H:Hp,SY H->lF K H a (ns.map V.int)->sp [.ref a] H (fun v _=>v=.bl true) fun _ _ _=>False)
  (hCX:∀ H e s',CX [] H s₁ (fun _ _ _=>False) e s'->False) :
  gW (aF P w) wk (.call (.ref fa) ⟨[.ref a],[]⟩) (fun r s'=>r=.ok (.ret (.bool true))/\OldK s₁.heap s'.heap/\s'.os=s₁.os/\q0 s'.gens) s₁:=by
 have rv:=JV hi
 have lenV:=hi.length
 have core:∀ H:Hp,SY H->lF K H a (ns.map V.int)->pQ P w H s₁.heap->(∀ b,H b≠none->b=a)->(H a≠none->K.lookup a=none) ->
   gW (aF P w) wk (.call (.ref fa) ⟨[.ref a],[]⟩) (fun r s'=>r=.ok (.ret (.bool true))/\OldK s₁.heap s'.heap/\s'.os=s₁.os/\q0 s'.gens) s₁:=by
  intro H hO hS hok hA hK
  have base_of:∀ {b:ah}{o:Obj},s₁.heap.get? b=some o->H b=none->(BK s₁.heap H).get? b=some o:=fun e n=>Lz e n
  have noA:∀ {b:ah}{o:Obj}{es:Array BE}{ep:Nat},s₁.heap.get? b=some o->o.data=.dict es ep->H b=none:=fun {b o es ep} e d=>by
   cases q:H b with
   | none=>rfl
   | some u =>
    have e':b=a:=hA b (by rw [q];simp)
    subst e'
    rw [ha] at e;cases e
    have d':Data.seq vs.toArray _=Data.dict es ep:=d
    cases d'
  have nsK:∀ {b:ah}{m:Str->Option a9},s₁.heap.Ns b m->(BK s₁.heap H).Ns b m:=fun {b m} ⟨o,es,ep,e,d,r⟩=>⟨o,es,ep,base_of e (noA e d),d,r⟩
  have hKb:K.In (BK s₁.heap H):=fun b o e=>base_of (KX b o e) (by
   cases q:H b with
   | none=>rfl
   | some u =>
    have e':b=a:=hA b (by rw [q];simp)
    subst e'
    rw [hK (by rw [q];simp)] at e;cases e)
  have hM:Mod K mg (BK s₁.heap H):=⟨hKb,nsK hns,⟨mb,nsK hb,hbb⟩,let ⟨mc,h1,h2⟩:=hlim;⟨mc,nsK h1,h2⟩⟩
  have e0:Gi P w K mg (BK s₁.heap H) wk [] s₁ H:=⟨rfl,hM,fun b o e=>Pj e,Nat.le_of_eq (JF _ _),trivial,fun b hb=>absurd (show b∈([] : List ah) from hb) (by simp),hok,.of_eq hg⟩
  refine nP ((F _ hKb (nsK hns)).run wk [] s₁ H ⟨[.ref a],[]⟩ [.ref a] [.ref a] _ _ hr e0 (hbind s₁ (.ref a)) (.cons rfl .nil) (hsp H hO hS)) fun r s' h=>?_
  cases r with
  | error e=>exact (hCX H e s' h).elim
  | ok fl =>
   cases fl with
   | next=>exact eC h
   | brk=>exact eC h
   | cont=>exact eC h
   | ret u =>
    obtain ⟨v,H',os,bare,un,hok',r',q⟩:=h
    have q':v=.bl true:=q
    subst q'
    obtain rfl:u=ip true:=r'
    refine ⟨rfl,OldK.of_keep fun b o e=>?_,os,bare⟩
    cases q:H b with
    | none=>exact un.keep b o e q (by intro z;exact absurd (show b∈([] : List ah) from z) (by simp)) (by simp)
    | some u =>
     rcases hO b with z | ⟨ob,xs,z⟩
     ·rw [q] at z;cases z
     ·have z2:=un.frzs b ob _ z
      obtain ⟨e1,_⟩:=hok b _ z
      obtain ⟨e2,_⟩:=hok' b _ z2
      rw [e] at e1;cases e1
      exact e2
 cases hk:K.lookup a with
 | some o =>
  have e:=KX a o hk
  rw [ha] at e
  cases e
  refine core (fun _=>none) (fun _=>.inl rfl) (.inr ⟨_,vs.toArray,_,hk,rfl,rfl,rfl,by rw [aJ,lenV];exact hl,by simpa using rv⟩) (fun b u z=>by have z':(none:Option HO)=some u:=z;cases z') (fun b z=>absurd rfl z) fun z=>absurd rfl z
 | none =>
  refine core (fun b=>if b=a then some (.frz { cls:=.type "list",data:=.seq vs.toArray } (.lst (ns.map V.int))) else none) (fun b=>?_) (.inl (.inr ⟨{ cls:=.type "list",data:=.seq vs.toArray },if_pos rfl⟩)) (fun b u z=>?_) (fun b z=>?_) fun _=>hk
  ·by_cases hb:b=a
   ·exact .inr ⟨_,_,if_pos hb⟩
   ·exact .inl (if_neg hb)
  ·by_cases hb:b=a
   ·have z':=(if_pos hb).symm.trans z
    cases z'
    subst hb
    exact ⟨ha,by rw [al];exact hl,vs,_,rv,ha⟩
   ·have z':=(if_neg hb).symm.trans z
    cases z'
  ·by_cases hb:b=a
   ·exact hb
   ·exact absurd (if_neg hb) z
end L2
namespace L2
open PySem PySem.Spec PyProof.Rows
abbrev Y9 {K:a8}{h:br} (_:K.In h):a8:=K
theorem PJ {l:wL}{n k:Nat}{q:aI}{loose:List Str}{XP:(Str->Option a9)->br->Prop}{YP:bc->br->Prop}{d:DefRec}{K:Params->a8}{CX:bc->HW}{sp:bc->Sp}{x:Str}
  (hn:l.most=some n) (hn2:n<=sizeLine) (hdf:d.params.defaults=[]) (hr:jn k wk)
  (hY:∀ (w:bc) (h:br),YP w h->(K w.params).In h)
  (F:∀ (w:bc) (mg:Str->Option a9) (fa:ah) (h:br),(K w.params).In h->h.Ns bN mg->mg d.name=some (.ref fa) ->
   ∃ fd:dE,(∀ (s:af) (u:a9),zN s fd ⟨[u],[]⟩ [(x,u)]) /\
    ∀ base:br,(K w.params).In base->base.Ns bN mg->sg l.prog w (K w.params) mg base (CX w) k fa fd [x] (sp w))
  (hsp:∀ (w:bc) (H:Hp) (a:ah) (ns:List Int),ns.length<=n->SY H->lF (K w.params) H a (ns.map V.int)->sp w [.ref a] H (fun v _=>v=.bl true) fun _ _ _=>False)
  (hCX:∀ (w:bc) (H:Hp) (s:af) (e:a9) (s':af),CX w [] H s (fun _ _ _=>False) e s'->False) :
  ON q loose XP YP l.row.toRowW d [] (fun f vs=>Jt f vs):=by
 refine Att.attach_call hn hdf fun w s₀ s₁ mg mb fa o pm cd doc a vs ns G Y ho hd hcd hmg hobj hints hlen hg=>?_
 have KX:=hY w _ Y
 obtain ⟨fd,hb,hF⟩:=F w mg fa _ KX G.T.g hmg
 exact M4 KX G.T.g G.T.b G.T.builtins G.T.nolimit hg hobj hints (bE hlen hn2) hr hF hb (fun H hO hS=>hsp w H a ns hlen hO hS) fun H e s'=>hCX w H s₁ e s'
end L2
namespace L2
open PySem PySem.Spec PyProof.Rows
def mF (s:cr):Arguments:=match s with
 | .FunctionDef _ a _ _ _ _ _ _ _ _=>a
 | _=>{ posonlyargs:=[],args:=[],vararg:=none,kwonlyargs:=[],kw_defaults:=[],kwarg:=none,defaults:=[] }
def iu (s:cr):List cr:=match s with
 | .FunctionDef _ _ b _ _ _ _ _ _ _=>b
 | _=>[]
def aw (s:cr):eT:=match s with
 | .FunctionDef _ _ _ _ _ _ sc _ _ _=>sc
 | _=>{ kind:=.function,names:=[],isGenerator:=false,isCoroutine:=false }
abbrev Xu:HW:=fun _ _ _ _ _ _=>False
abbrev E0:XK:=fun _ _ _=>False
structure DB (K:a8) (x qual:Str) (st:cr) (f:ah) (fd:dE):Prop where
 ex:∃ (oc:a9) (od:Option ah) (kV doc pm:a9) (an:Option ah) (cdv ct:a9) (osl:Array (Option a9)),
  fd=eE x qual (mF st) (iu st) (aw st) .none kV doc pm an cdv ct/\K.lookup f=some ⟨oc,od,.func fd,osl⟩/\js K cdv qual=true
 kp:dW K (.ref f)=true
section
variable {P:aI}{w:bc}{K:a8}{mg:Str->Option a9}{base:br}
theorem DB.binds {x qual:Str}{st:cr}{f:ah}{fd:dE}{ps:List Str} (F:DB K x qual st f fd)
  (h:∀ (kV doc pm:a9) (an:Option ah) (cdv ct:a9) (us:List a9),us.length=ps.length->bindArgs (eE x qual (mF st) (iu st) (aw st) .none kV doc pm an cdv ct) ⟨us,[]⟩=pure (ps.zip us)):jv K fd ps []:=by
 obtain ⟨oc,od,kV,doc,pm,an,cdv,ct,osl,rfl,lk,hcd⟩:=F.ex
 exact .all (h kV doc pm an cdv ct)
theorem M5 {x qual:Str}{st:cr}{f:ah}{oc:a9}{od an:Option ah}{osl:Array (Option a9)}{kV doc pm cdv ct:a9} (l:K.lookup f=some ⟨oc,od,.func (eE x qual (mF st) (iu st) (aw st) .none kV doc pm an cdv ct),osl⟩)
  (c:js K cdv qual=true) (k:dW K (.ref f)=true):DB K x qual st f (eE x qual (mF st) (iu st) (aw st) .none kV doc pm an cdv ct):=⟨⟨oc,od,kV,doc,pm,an,cdv,ct,osl,rfl,l,c⟩,k⟩
end
theorem gJ {A:bg}{k:Nat} (hr:jn k A):A.units + 1<k7:=vp (Nat.add_le_add_left (by decide:1<=64) _) hr.units
theorem cz {n:Nat} (h:n<=1000):n<sizeLine:=vp h (by decide)
section
variable {X:Cx}
theorem pv (i:Nat) {x:Str}{pos:Pos} (hN:X.N[i]?=some x:=by rfl) (hv:Lf X.env.scope x:=by first | exact gx rfl | exact d_ (gx rfl) | exact d_ (d_ rfl)) (hd:(x == ("__debug__" : Str))=false:=by decide)
  (hcd:(x == ("__classdict__" : Str))=false:=by decide):PE X (.Name x pos) (JH i):=nl hN hv hd hcd
end
theorem xQ {A B:Prop} (h:B):if false=true then A else B:=by
 rw [if_neg aS]
 exact h
theorem BU {A B:Prop} (h:A):if true=true then A else B:=by
 rw [if_pos rfl]
 exact h
def du (H H':Hp):Prop:=∀ b o,H b=some o->H' b=some o
theorem du.refl (H:Hp):du H H:=fun _ _ h=>h
theorem du.trans {H H1 H2:Hp} (a:du H H1) (b:du H1 H2):du H H2:=fun c o h=>b c o (a c o h)
theorem du.free {H H':Hp} (e:du H H') {l:ah} (h:H' l=Option.none):H l=Option.none:=by
 cases q:H l with
 | none=>rfl
 | some o =>
  rw [e l o q] at h
  cases h
theorem du.seq {K:a8}{H H':Hp}{a:ah}{xs:List V} (e:du H H') (h:lF K H a xs):lF K H' a xs:=by
 rcases h with (h | ⟨o,h⟩) | h
 ·exact .inl (.inl (e _ _ h))
 ·exact .inl (.inr ⟨o,e _ _ h⟩)
 ·exact .inr h
end L2
end
section
namespace L2
open PySem PySem.Spec PyProof.Rows
section
variable {κ:Type} [DecidableEq κ]
def nW (kvs:List (κ×V)) (k:κ):Option V:=(kvs.find? fun kv=>decide (kv.1=k)).map (·.2)
def kq (kvs:List (κ×V)) (k:κ) (v:V):List (κ×V) :=
 if (kvs.any fun kv=>decide (kv.1=k))=true then kvs.map (fun kv=>if kv.1=k then (kv.1,v) else kv) else kvs++[(k,v)]
def M6 (kvs:List (κ×V)) (k:κ):List (κ×V):=kvs.filter fun kv=>decide (kv.1≠k)
theorem xR {p:κ×V}{r:List (κ×V)}{k:κ} (e:p.1=k):nW (p::r) k=some p.2:=by simp [nW,c9,e]
theorem xS {p:κ×V}{r:List (κ×V)}{k:κ} (e:¬ p.1=k):nW (p::r) k=nW r k:=by simp [nW,c9,e]
theorem DC (k:κ):∀ kvs:List (κ×V),(kvs.any fun kv=>decide (kv.1=k))=(nW kvs k).isSome
 | []=>rfl
 | p::r=>by
  rw [e6]
  by_cases e:p.1=k
  ·simp only [xR e,decide_eq_true e,Bool.true_or,HL]
  ·rw [xS e,decide_eq_false e,Dg];exact DC k r
theorem mG (kvs:List (κ×V)) (k:κ) (v:V):(kq kvs k v).length<=kvs.length + 1:=by
 unfold kq
 split
 ·rw [al];omega
 ·rw [aO,aX,bQ];omega
theorem xM.isSome_eq {o:Option V}{u:Option a9} (r:xM o u):o.isSome=u.isSome:=by
 cases o with
 | none=>cases u with
  | none=>rfl
  | some _=>exact (show False from r).elim
 | some _=>cases u with
  | none=>exact (show False from r).elim
  | some _=>rfl
theorem KV.val {kvs:List (κ×V)}{vs:List (κ×a9)} (r:KV kvs vs) (k:κ):xM (nW kvs k) (zQ vs k):=by
 unfold KV at r
 induction r with
 | nil=>exact iG
 | @cons p q ps qs h t ih =>
  obtain ⟨h1,h2⟩:=h
  by_cases e:p.1=k
  ·have e':q.1=k:=h1.symm.trans e
   have b:zQ (q::qs) k=some q.2:=by simp [zQ,c9,e']
   rw [xR e,b];exact h2
  ·have e':¬ q.1=k:=fun z=>e (h1.trans z)
   have b:zQ (q::qs) k=zQ qs k:=by simp [zQ,c9,e']
   rw [xS e,b];exact ih
theorem KV.any {kvs:List (κ×V)}{vs:List (κ×a9)} (r:KV kvs vs) (k:κ):(kvs.any fun kv=>decide (kv.1=k))=vs.any fun kv=>decide (kv.1=k):=by
 unfold KV at r
 induction r with
 | nil=>rfl
 | cons h t ih=>rw [e6,e6,ih,h.1]
theorem KV.repl {kvs:List (κ×V)}{vs:List (κ×a9)} (r:KV kvs vs) (k:κ) {y:V}{u:a9} (ry:dm y u) :
  KV (kvs.map fun kv=>if kv.1=k then (kv.1,y) else kv) (vs.map fun kv=>if kv.1=k then (kv.1,u) else kv):=by
 unfold KV at r ⊢
 induction r with
 | nil=>exact .nil
 | @cons p q ps qs h t ih =>
  rw [aG,aG]
  refine .cons ?_ ih
  obtain ⟨h1,h2⟩:=h
  by_cases e:p.1=k
  ·rw [if_pos e,if_pos (h1.symm.trans e)];exact ⟨h1,ry⟩
  ·rw [if_neg e,if_neg (fun z=>e (h1.trans z))];exact ⟨h1,h2⟩
theorem KV.put {kvs:List (κ×V)}{vs:List (κ×a9)} (r:KV kvs vs) (k:κ) {y:V}{u:a9} (ry:dm y u):KV (kq kvs k y) (FU vs k u):=by
 unfold kq FU
 rw [r.any k]
 by_cases e:(vs.any fun kv=>decide (kv.1=k))=true
 ·rw [if_pos e,if_pos e];exact r.repl k ry
 ·rw [if_neg e,if_neg e];exact Paired.snoc r ⟨rfl,ry⟩
theorem KV.length {kvs:List (κ×V)}{vs:List (κ×a9)} (r:KV kvs vs):kvs.length=vs.length:=iT r
end
theorem AO {P:aI}{w:bc}{k:cO}{u:a9} (r:dm (kV k) u):(dh P w).is k u=true:=by
 cases k with
 | inl i=>obtain ⟨t,e⟩:=(show ∃ t,u=m9 i t from r);subst e;exact Dr P w i t
 | inr x=>obtain ⟨t,e⟩:=(show ∃ t,u=jp x t from r);subst e;exact Ds P w x t
theorem AQ {P:aI}{w:bc}:∀ {ks:List cO}{us:List a9},dn (ks.map kV) us->ItemsAre (dh P w) ks us
 | [],_,r=>by rw [eQ] at r;cases r;exact .nil
 | k::ks,_,r=>by
  rw [aG] at r
  cases r with
  | cons h t=>exact .cons (AO h) (AQ t)
abbrev KT (H:Hp):List (List cO×V)->List (List cO×ah×a9)->Prop:=FG fun p q=>p.1=q.1/\H q.2.1=some (.tup (p.1.map kV))/\dm p.2 q.2.2
theorem KT.val {H:Hp}{kvs:List (List cO×V)}{xs:List (List cO×ah×a9)} (r:KT H kvs xs) (k:List cO):xM (nW kvs k) ((FV xs k).map (·.2)):=by
 induction r with
 | nil=>exact iG
 | @cons p q ps qs h t ih =>
  obtain ⟨h1,_,h2⟩:=h
  by_cases e:p.1=k
  ·have e':q.1=k:=h1.symm.trans e
   have b:FV (q::qs) k=some q.2:=by simp [FV,c9,e']
   rw [xR e,b];exact h2
  ·have e':¬ q.1=k:=fun z=>e (h1.trans z)
   have b:FV (q::qs) k=FV qs k:=by simp [FV,c9,e']
   rw [xS e,b];exact ih
theorem KT.repl {H:Hp}{kvs:List (List cO×V)}{xs:List (List cO×ah×a9)} (r:KT H kvs xs) (k:List cO) {y:V}{u:a9} (ry:dm y u) :
  KT H (kvs.map fun kv=>if kv.1=k then (kv.1,y) else kv) (xs.map (putAt k u)):=by
 induction r with
 | nil=>exact .nil
 | @cons p q ps qs h t ih =>
  rw [aG,aG]
  refine .cons ?_ ih
  obtain ⟨h1,h2,h3⟩:=h
  unfold putAt
  by_cases e:p.1=k
  ·rw [if_pos e,if_pos (h1.symm.trans e)];exact ⟨h1,h2,ry⟩
  ·rw [if_neg e,if_neg (fun z=>e (h1.trans z))];exact ⟨h1,h2,h3⟩
theorem KT.put {H:Hp}{kvs:List (List cO×V)}{xs:List (List cO×ah×a9)} (r:KT H kvs xs) (k:List cO) {b:ah}{y:V}{u:a9} (hb:H b=some (.tup (k.map kV))) (ry:dm y u) :
  KT H (kq kvs k y) (storedH xs k b u):=by
 have e:(kvs.any fun kv=>decide (kv.1=k))=(FV xs k).isSome:=by
  rw [DC,(r.val k).isSome_eq,vg]
 unfold kq storedH
 rw [e]
 by_cases q:(FV xs k).isSome=true
 ·rw [if_pos q,if_pos q];exact r.repl k ry
 ·rw [if_neg q,if_neg q];exact Paired.snoc r ⟨rfl,hb,ry⟩
theorem KT.keeps {H H':Hp}{kvs:List (List cO×V)}{xs:List (List cO×ah×a9)} (r:KT H kvs xs) (ht:∀ b ys,H b=some (.tup ys)->H' b=some (.tup ys)):KT H' kvs xs :=
 Paired.mapP r fun _ _ z=>⟨z.1,ht _ _ z.2.1,z.2.2⟩
section
variable {P:aI}{w:bc}{H:Hp}{h:br}{a:ah}
theorem Rk {u:HO} (ok:pQ P w H h) (e:Rd H a u):cY P w H h a u:=e.ok ok
theorem DD {kvs:List (cO×V)} (ok:pQ P w H h) (e:Rd H a (.dK kvs)):kvs.length<=sizeLine/\(a == fW)=false/\∃ vs,KV kvs vs/\h.DictOf (dh P w) a vs :=
 show cY P w H h a (.dK kvs) from Rk ok e
theorem UD {kvs:List (cO×V)} (ok:pQ P w H h) (e:H a=some (.dK kvs)):kvs.length<=sizeLine/\(a == fW)=false/\∃ vs,KV kvs vs/\h.DictOf (dh P w) a vs:=DD ok (.inl e)
theorem vE {ks:List cO} (ok:pQ P w H h) (e:H a=some (.tup (ks.map kV))):(rZ (dh P w)).is h ks a:=by
 obtain ⟨_,its,r,o,h1,h2,n,h3⟩:=(show cY P w H h a (.tup (ks.map kV)) from ok a _ e)
 exact ⟨o,its.toArray,n,h1,h2,h3,by simpa using AQ r⟩
theorem DE {kvs:List (List cO×V)} (ok:pQ P w H h) (e:Rd H a (.dT kvs)):kvs.length<=sizeLine/\(a == fW)=false /\
  ∃ xs,KT H kvs xs/\h.DictOfH (rZ (dh P w)) a xs:=by
 obtain ⟨z,y,xs,r,o,es,ep,h1,h2,h3,h4,h5⟩:=(show cY P w H h a (.dT kvs) from Rk ok e)
 refine ⟨z,y,xs,r,o,es,ep,h1,h2,h3,h4,fun x hx=>?_,h5⟩
 have all:∀ {l:List (List cO×V)}{m:List (List cO×ah×a9)},KT H l m->∀ x∈m,(rZ (dh P w)).is h x.1 x.2.1:=by
  intro l m q
  induction q with
  | nil=>intro x hx;exact nomatch hx
  | @cons p q ps qs hq t ih =>
   intro x hx
   rcases List.mem_cons.mp hx with e | hx
   ·subst e
    exact vE ok (by rw [<- hq.1];exact hq.2.1)
   ·exact ih x hx
 exact all r x hx
theorem Rl {kvs:List (List cO×V)} (ok:pQ P w H h) (e:H a=some (.dT kvs)):kvs.length<=sizeLine/\(a == fW)=false /\
  ∃ xs,KT H kvs xs/\h.DictOfH (rZ (dh P w)) a xs:=DE ok (.inl e)
end
def wR (H:Hp) (a:ah) (y:V) (r:Option V):Prop :=
 (∃ kvs k,Rd H a (.dK kvs)/\y=kV k/\r=nW kvs k)\/∃ kvs k b,Rd H a (.dT kvs)/\y=.ref b/\H b=some (.tup (k.map kV))/\r=nW kvs k
def DF (H:Hp) (a:ah) (y v:V) (H':Hp):Prop :=
 (∃ kvs k,H a=some (.dK kvs)/\y=kV k/\kvs.length<sizeLine/\H'=upd H a (.dK (kq kvs k v))) \/
 ∃ kvs k b,H a=some (.dT kvs)/\y=.ref b/\H b=some (.tup (k.map kV))/\kvs.length<sizeLine/\H'=upd H a (.dT (kq kvs k v))
theorem wR.k {H:Hp}{a:ah}{kvs:List (cO×V)}{k:cO} (e:H a=some (.dK kvs)):wR H a (kV k) (nW kvs k):=.inl ⟨kvs,k,.inl e,rfl,rfl⟩
theorem wR.t {H:Hp}{a b:ah}{kvs:List (List cO×V)}{k:List cO} (e:H a=some (.dT kvs)) (eb:H b=some (.tup (k.map kV))):wR H a (.ref b) (nW kvs k):=.inr ⟨kvs,k,b,.inl e,rfl,eb,rfl⟩
theorem DF.k {H:Hp}{a:ah}{kvs:List (cO×V)}{k:cO}{v:V} (e:H a=some (.dK kvs)) (hl:kvs.length<sizeLine):DF H a (kV k) v (upd H a (.dK (kq kvs k v))):=.inl ⟨kvs,k,e,rfl,hl,rfl⟩
theorem DF.t {H:Hp}{a b:ah}{kvs:List (List cO×V)}{k:List cO}{v:V} (e:H a=some (.dT kvs)) (eb:H b=some (.tup (k.map kV))) (hl:kvs.length<sizeLine) :
  DF H a (.ref b) v (upd H a (.dT (kq kvs k v))):=.inr ⟨kvs,k,b,e,rfl,eb,hl,rfl⟩
section
variable {X:Cx}{pins:List (ah×Obj)}{σ:St}{H:Hp}{s:af}{a:ah}{y v:V}{u r:a9}{o:Option V}{A:bg}{E:a9->af->Prop}
theorem bF.big (I:bF X pins σ H s):fW<s.heap.objs.size:=by
 have h:bN<s.heap.objs.size:=(I.mod.glob.keeps I.bk).lt
 exact FW (by decide) h
theorem JX {Q:a9->af->Prop} (hu:A.units + 1<k7) (I:bF X pins σ H s) (g:wR H a y (some v)) (ry:dm y u) (h:∀ w' s',bF X pins σ H s'->dm v w'->Q w' s') :
  aq (aF X.prog X.w) A (q8 (.ref a) u) Q E s:=by
 rcases g with ⟨kvs,k,e,ey,l⟩ | ⟨kvs,k,b,e,ey,eb,l⟩
 ·subst ey
  obtain ⟨z,hd,vs,rel,dd⟩:=DD I.hok e
  obtain ⟨w',hw,rw'⟩:=xM.some_of (v:=v) (o:=zQ vs k) (by rw [l];exact rel.val k)
  exact wpAny_getItem_of (AO ry) dd.mapOf hw (h w' _ (I.tok _) rw')
 ·subst ey
  cases (show u=bK b from ry)
  obtain ⟨z,hd,xs,rel,dd⟩:=DE I.hok e
  obtain ⟨w',hw,rw'⟩:=xM.some_of (v:=v) (o:=(FV xs k).map (·.2)) (by rw [l];exact rel.val k)
  obtain ⟨p,hp,hp2⟩:=Option.map_eq_some_iff.mp hw
  refine wpAny_getItem_heap (oy hu) (vE I.hok eb) dd hp ?_
  rw [hp2]
  exact h w' _ (I.tok _) rw'
theorem d_in {Q:a9->af->Prop} (hu:A.units + 1<k7) (I:bF X pins σ H s) (g:wR H a y o) (ry:dm y u) (h:∀ s',bF X pins σ H s'->Q (.bool o.isSome) s') :
  aq (aF X.prog X.w) A (bG .In u (.ref a)) Q E s:=by
 rcases g with ⟨kvs,k,e,ey,l⟩ | ⟨kvs,k,b,e,ey,eb,l⟩
 ·subst ey
  obtain ⟨z,hd,vs,rel,dd⟩:=DD I.hok e
  refine wpAny_in_of (AO ry) hd dd.mapOf ?_
  rw [<- (rel.val k).isSome_eq,<- l]
  exact h _ (I.tok _)
 ·subst ey
  cases (show u=bK b from ry)
  obtain ⟨z,hd,xs,rel,dd⟩:=DE I.hok e
  refine wpAny_in_heap (oy hu) (vE I.hok eb) hd dd ?_
  have q:=(rel.val k).isSome_eq
  rw [vg] at q
  rw [<- q,<- l]
  exact h _ (I.tok _)
theorem PK {Q:a9->af->Prop} (hu:A.units + 1<k7) (I:bF X pins σ H s) (g:wR H a y o) (ry:dm y u) (h:∀ s',bF X pins σ H s'->Q (.bool (!o.isSome)) s') :
  aq (aF X.prog X.w) A (bG .NotIn u (.ref a)) Q E s:=by
 rcases g with ⟨kvs,k,e,ey,l⟩ | ⟨kvs,k,b,e,ey,eb,l⟩
 ·subst ey
  obtain ⟨z,hd,vs,rel,dd⟩:=DD I.hok e
  refine wpAny_notIn_of (AO ry) hd dd.mapOf ?_
  rw [<- (rel.val k).isSome_eq,<- l]
  exact h _ (I.tok _)
 ·subst ey
  cases (show u=bK b from ry)
  obtain ⟨z,hd,xs,rel,dd⟩:=DE I.hok e
  refine wpAny_notIn_heap (oy hu) (vE I.hok eb) hd dd ?_
  have q:=(rel.val k).isSome_eq
  rw [vg] at q
  rw [<- q,<- l]
  exact h _ (I.tok _)
theorem BV {h':br}{t':Nat}{ob:HO} (I:bF X pins σ H s) (mu:Ug (H a)) (hs:bD a s.heap h') (he:∃ q,h'.get? a=some q) (new:cY X.prog X.w (upd H a ob) h' a ob) :
  bF X pins σ (upd H a ob) { s with heap:=h',toks:=t' } :=
 I.write (x:=a) (e:=a) mu (.inl rfl) (fun b q hb z=>(hs.2 b hb).trans z) he new
theorem M7 {P:aI}{w:bc}{H':Hp}{h':br}{kvs:List (cO×V)}{vs:List (cO×a9)} (z:kvs.length<=sizeLine) (hd:(a == fW)=false) (rel:KV kvs vs) (dd:h'.DictOf (dh P w) a vs) :
  cY P w H' h' a (.dK kvs):=⟨z,hd,vs,rel,dd⟩
theorem JY {H':Hp}{Q:Unit->af->Prop} (hu:A.units + 1<k7) (I:bF X pins σ H s) (g:DF H a y v H') (ry:dm y u) (rv:dm v r) (h:∀ s',bF X pins σ H' s'->Q () s') :
  aq (aF X.prog X.w) A (setItem (.ref a) u r) Q E s:=by
 rcases g with ⟨kvs,k,e,ey,l,eH⟩ | ⟨kvs,k,b,e,ey,eb,l,eH⟩
 ·subst ey eH
  obtain ⟨z,hd,vs,rel,dd⟩:=UD I.hok e
  have hz:vs.length<=sizeLine:=by rw [<- rel.length];exact z
  have hl:(kq kvs k v).length<=sizeLine:=by have:=mG kvs k v;omega
  refine wpAny_setItem_pairs (hsz:=hz) (AO ry) dd fun h' dd' hs=>h _ ?_
  have he:∃ q,h'.get? a=some q:=let ⟨q,_,_,hq,_⟩:=dd';⟨q,hq⟩
  exact BV I (by rw [e];exact iG) hs he (M7 hl hd (rel.put k rv) dd')
 ·subst ey eH
  cases (show u=bK b from ry)
  obtain ⟨z,hd,xs,rel,dd⟩:=Rl I.hok e
  have hz:xs.length<=sizeLine:=by rw [<- iT rel];exact z
  have hl:(kq kvs k v).length<=sizeLine:=by have:=mG kvs k v;omega
  refine wpAny_setItem_heap (hsz:=hz) (oy hu) (vE I.hok eb) dd fun h' dd' hs=>h _ ?_
  obtain ⟨q,es,ep,hq,h2,h3,h4,_,h5⟩:=dd'
  refine BV I (by rw [e];exact iG) hs ⟨q,hq⟩ ⟨hl,hd,_,(rel.put k eb rv).keeps fun c ys ec=>?_,q,es,ep,hq,h2,h3,h4,h5⟩
  rw [aT (Ly ec e (fun z=>nomatch z))]
  exact ec
end
section
variable {X:Cx}{pins:List (ah×Obj)}{σ:St}{H:Hp}{s:af}{a:ah}{kvs:List (cO×V)}{k:cO}{u:a9}{A:bg}{E:a9->af->Prop}
end
def UE (i:b9):Prop:=∀ ov iv,Df i false ov iv=operate [ov,iv] (q8 ov iv)
theorem PL {prog:aI}{w:bc}{A:bg}{E:a9->af->Prop}{s:af}{env:Env}{value slice:b9}{pos:Pos}{T id:String}{Q:a9->af->Prop}
  (hl:xF (.type T) "__getitem__"=pure (some (.builtin id))) (hs:UE slice)
  (h:aq (aF prog w) A (dz value env) (fun o s₁=>aq (aF prog w) A (dz slice env) (fun i s₂=>s₂.TypeIs o T/\aq (aF prog w) A (q8 o i) Q E s₂) E s₁) E s) :
  aq (aF prog w) A (dz (.Subscript value slice pos) env) Q E s:=by
 refine Subscript_ (bC h (fun o s₁ h₁=>bC h₁ (fun i s₂ h₂=>?_) fun _ _ x=>x) fun _ _ x=>x)
 obtain ⟨hT,h₂⟩:=h₂
 unfold Jq
 refine a7 ?_
 rw [getitemInPython_of_ne hT.not_modules]
 refine a7 (wpAny_specialOf hT hl ?_)
 have fin:aq (aF prog w) A (Df slice false o i) (fun r s₃=>aq (aF prog w) A (letTemporaryGo value o r >>= fun _=>pure r) Q E s₃) E s₂:=by
  rw [hs o i]
  exact wpAny_operating (bC h₂ (fun r s₃ h₃=>a7 (wpAny_letTemporaryGo (ac h₃))) fun _ _ x=>x)
 first
  | exact ac (a7 fin)
  | exact a7 (ac (a7 fin))
  | exact a7 fin
theorem DG {X:Cx}{pins:List (ah×Obj)}{σ:St}{H:Hp}{s:af}{a:ah}{y:V}{o:Option V} (I:bF X pins σ H s) (g:wR H a y o):s.TypeIs (.ref a) "dict":=by
 rcases g with ⟨kvs,k,e,_,_⟩ | ⟨kvs,k,b,e,_,_,_⟩
 ·obtain ⟨_,_,vs,_,dd⟩:=DD I.hok e
  exact dd.typeIs
 ·obtain ⟨_,_,xs,_,dd⟩:=DE I.hok e
  exact dd.typeIs
def UF (td ty:TE):TE:=fun σ H Q=>td σ H fun x H1=>ty σ H1 fun y H2=>∃ a v,x=.ref a/\wR H2 a y (some v)/\Q v H2
def Rm (td ty tv:TE):TS:=fun D σ H=>tv σ H fun v H1=>td σ H1 fun x H2=>ty σ H2 fun y H3=>∃ a H4,x=.ref a/\DF H3 a y v H4/\D.nx σ H4
section
variable {X:Cx}{o i e value:b9}{pos pos' tpos:Pos}{td ty tv:TE}
theorem Ic (hu:X.A.units + 1<k7) (ho:PE X o td) (hi:PE X i ty) (hs:UE i):PE X (.Subscript o i pos) (UF td ty):=by
 intro pins s σ H Q I h
 refine PL PySem.F.slot_dict_getitem.lookup hs (fD (ho pins s σ H _ I h) fun u s1 ⟨x,H1,I1,rx,q1⟩=>fD (hi pins s1 σ H1 _ I1 q1) fun iv s2 ⟨y,H2,I2,ry,a,v,ex,g,q2⟩=>?_)
 subst ex
 obtain rfl:u=bK a:=rx
 exact ⟨DG I2 g,JX hu I2 g ry fun w' s3 I3 rw'=>⟨v,H2,I3,rw',q2⟩⟩
theorem Ie (hu:X.A.units + 1<k7) (ho:PE X o td) (hi:PE X i ty) (hv:PE X value tv) (hs:gZ value (some (.Subscript o i pos')) pos.line X.env=pure false) :
  PS X (.Assign [.Subscript o i pos'] value pos) (Rm td ty tv):=by
 intro pins s σ H D I h
 refine wpAny_Assign_Subscript (fD (hv pins s σ H _ I h) fun r s1 ⟨v,H1,I1,rv,q1⟩=>fD (ho pins s1 σ H1 _ I1 q1) fun u s2 ⟨x,H2,I2,rx,q2⟩=>fD (hi pins s2 σ H2 _ I2 q2) fun iv s3 ⟨y,H3,I3,ry,a,H4,ex,g,q3⟩=>?_) hs
 subst ex
 obtain rfl:u=bK a:=rx
 exact JY hu I3 g ry rv fun s4 I4=>⟨σ,H4,I4,q3⟩
end
theorem M8 {P:aI}{w:bc}{H:Hp} (h:br) (hb:fW<h.objs.size):cY P w H (h.push { cls:=.type "dict",data:=.dict #[] }) h.objs.size (.dK []) :=
 ⟨cW _,beq_eq_false_iff_ne.mpr (cZ (aB hb)),[],.nil,Fx h⟩
theorem M9 {P:aI}{w:bc}{H:Hp} (h:br) (hb:fW<h.objs.size):cY P w H (h.push { cls:=.type "dict",data:=.dict #[] }) h.objs.size (.dT []) :=
 ⟨cW _,beq_eq_false_iff_ne.mpr (cZ (aB hb)),[],.nil,_,#[],0,ay _ rfl,⟨rfl,rfl,rfl⟩,rfl,rfl,gG⟩
def SZ:TE:=fun _ H Q=>∀ p,H p=none->Q (.ref p) (upd H p (.dK []))
section
variable {X:Cx}{pos:Pos}
theorem Ma:PE X (.Dict [] [] pos) SZ:=fun pins s σ H Q I h =>
 wpAny_Dict_empty ⟨.ref s.heap.objs.size,_,I.laid (a:=s.heap.objs.size) (o:=.dK []) (t':=s.toks) (fun _ _ q=>ag _ q) (au _) (M8 s.heap I.big),rfl,h _ (I.hok.fresh (au _))⟩
end
def xT (kvs more:List (cO×V)):List (cO×V):=more.foldl (fun acc kv=>kq acc kv.1 kv.2) kvs
theorem KV.merge:∀ {more:List (cO×V)}{rs:List (cO×a9)}{kvs:List (cO×V)}{vs:List (cO×a9)},KV more rs->KV kvs vs->KV (xT kvs more) (merged vs rs):=by
 intro more rs kvs vs r
 unfold KV at r
 induction r generalizing kvs vs with
 | nil=>intro q;exact q
 | @cons p q ps qs h t ih =>
  intro r0
  have e:KV (kq kvs p.1 p.2) (FU vs q.1 q.2):=by
   have:=r0.put p.1 h.2
   rw [<- h.1];exact this
  exact ih e
theorem sF:∀ (more kvs:List (cO×V)),(xT kvs more).length<=kvs.length + more.length
 | [],kvs=>by show kvs.length<=kvs.length + 0;omega
 | p::r,kvs=>by
  have h1:=sF r (kq kvs p.1 p.2)
  have h2:=mG kvs p.1 p.2
  show (xT (kq kvs p.1 p.2) r).length<=_
  rw [aX];omega
section
variable {X:Cx}{pins:List (ah×Obj)}{σ:St}{H:Hp}{s:af}{a:ah}{y d:V}{u r:a9}{o:Option V}{A:bg}{E:a9->af->Prop}
end
section
variable {X:Cx}{o e f:b9}{apos cpos:Pos}{td ty tx:TE}
end
section
variable {X:Cx}{pins:List (ah×Obj)}{σ:St}{H:Hp}{s:af}{a:ah}{kvs:List (cO×V)}{A:bg}{E:a9->af->Prop}
end
section
variable {X:Cx}{pins:List (ah×Obj)}{σ:St}{H:Hp}{s:af}{a:ah}{y:V}{u:a9}{A:bg}{E:a9->af->Prop}
end
end L2
namespace L2
open PySem PySem.Spec PyProof.Rows
section
variable {X:Cx}
end
section
variable {κ:Type} [DecidableEq κ]
theorem xn:∀ {l:List κ}{k:κ},l.Nodup->¬ k∈l->(l++[k]).Nodup
 | [],k,_,_=>by simp
 | a::r,k,h,hk=>by
  obtain ⟨h1,h2⟩:=List.nodup_cons.mp h
  show (a::(r++[k])).Nodup
  refine List.nodup_cons.mpr ⟨fun m=>?_,xn h2 fun m=>hk (List.mem_cons.mpr (d_ m))⟩
  rcases List.mem_append.mp m with q | q
  ·exact h1 q
  ·exact hk (List.mem_cons.mpr (gx (List.mem_singleton.mp q).symm))
end
end L2
end
section
namespace L2
open PySem PySem.Spec PyProof.Rows
section
variable {prog:aI}{w:bc}{A:bg}{R:vn->af->Prop}{s:af}
theorem BW {elt target iter:b9}{ifs:List b9}{scope:eT}{pos:Pos}{it acc:a9}{env:Env} (I:Nat->af->Prop)
  (turn:∀ n s,I n s->aq (aF prog w) A (jr it) (fun r s₁=>match r with
   | none=>R (.ok .next) s₁
   | some v=>aq (aF prog w) A (gE target it v) (fun _ s₁'=>aq (aF prog w) A (qh target env v) (fun _ s₂ =>
     aq (aF prog w) A (forIn ifs true fun c r=>if r=true then do let ok <- vm c env (dz c env);pure (fN ok) else pure (fN r)) (fun ok s₃ =>
      if ok=true then aq (aF prog w) A (dz elt env) (fun x s₄ =>
       aq (aF prog w) A (call (.builtin "list.append") [acc,x]) (fun _ s₅=>∃ m,m<n/\I m s₅) (fun _ _=>False) s₄) (fun _ _=>False) s₃
      else ∃ m,m<n/\I m s₃) (fun _ _=>False) s₂) (fun _ _=>False) s₁') (fun _ _=>False) s₁) (fun _ _=>False) s)
  (n:Nat) (h:I n s) :
  gW (aF prog w) A (.compLoop (.ListComp elt [⟨target,iter,ifs,0⟩] scope pos) 0 it acc env) R s:=by
 refine codeAny_loop rfl I (fun n s hI=>?_) n h
 show aq _ A ((compTurn (.ListComp elt [⟨target,iter,ifs,0⟩] scope pos) 0 it acc env).onRaise (fun x=>do BF x env;theTreesLotGoes x)) _ _ s
 refine wpAny_noted ?_
 rw [compTurn_list]
 have nf:∀ {α:Type}{t:Sem α}{Q:α->af->Prop}{E':a9->af->Prop}{s:af},aq (aF prog w) A t Q (fun _ _=>False) s->aq (aF prog w) A t Q E' s :=
  fun h=>bC h (fun _ _ q=>q) fun _ _ f=>f.elim
 refine a7 (iF (a7 (nf (bC (turn n s hI) (fun r s₁ h₁=>?_) fun _ _ h'=>h'))))
 cases r with
 | none=>exact ac h₁
 | some v =>
  refine a7 (nf (bC h₁ (fun _ s₁' h₁'=>?_) fun _ _ h'=>h'))
  refine a7 (nf (bC h₁' (fun _ s₂ h₂=>a7 (nf (bC h₂ (fun ok s₃ h₃=>?_) fun _ _ h'=>h'))) fun _ _ h'=>h'))
  cases ok with
  | false=>exact ac ⟨rfl,h₃⟩
  | true =>
   exact a7 (a7 (nf (bC h₃ (fun x s₄ h₄=>a7 (nf (bC h₄ (fun _ s₅ h₅=>ac (ac ⟨rfl,h₅⟩)) fun _ _ h'=>h'))) fun _ _ h'=>h')))
end
theorem Gn {env : Env} (names : List (Str × r_)) : ∀ (cs : List (Str × ah)), (∀ y ∈ names, y.2 = .free -> ∃ c, env.cells.lookup y.1 = some c) ->
    (∀ x c, cs.lookup x = some c -> env.cells.lookup x = some c) ->
    ∃ cl, (forIn names cs fun (x : Str × r_) (cs : List (Str × ah)) => match x with
        | (name, kind) => if (kind == cu) = true then do let a <- cellOf env name; pure (fN ((name, a) :: cs)) else pure (fN cs) : Sem (List (Str × ah))) = pure cl /\
      (∀ x c, cl.lookup x = some c -> env.cells.lookup x = some c) /\ (∀ y ∈ names, y.2 = .free -> ∃ c, cl.lookup y.1 = some c) /\ (∀ x c, cs.lookup x = some c -> ∃ c', cl.lookup x = some c') := by
  induction names with
  | nil => intro cs _ h2; exact ⟨cs, rfl, h2, fun _ h => absurd h (by simp), fun x c h => ⟨c, h⟩⟩
  | cons nk r ih =>
    obtain ⟨n, k⟩ := nk
    intro cs h1 h2
    by_cases hk : k = .free
    · subst hk
      obtain ⟨a, ha⟩ := h1 (n, .free) ap rfl
      have h2' : ∀ x c, ((n, a) :: cs).lookup x = some c -> env.cells.lookup x = some c := fun x c h => by
        rw [cR] at h
        cases e : x == n with
        | true => rw [e] at h; have : x = n := by simpa using e
                  subst this; cases h; exact ha
        | false => rw [e] at h; exact h2 x c h
      obtain ⟨cl, e1, e2, e3, e4⟩ := ih ((n, a) :: cs) (fun y hy => h1 y (am _ hy)) h2'
      refine ⟨cl, ?_, e2, fun y hy hf => ?_, fun x c h => ?_⟩
      · rw [jj]
        have hc : cellOf env n = pure a := by unfold cellOf; rw [ha]
        simp only [beq_self_eq_true, if_true, hc]
        exact e1
      · rcases List.mem_cons.mp hy with rfl | hy
        · exact e4 n a (by simp)
        · exact e3 y hy hf
      · cases e : x == n with
        | true => exact e4 x a (by rw [cR, e])
        | false => exact e4 x c (by rw [cR, e]; exact h)
    · obtain ⟨cl, e1, e2, e3, e4⟩ := ih cs (fun y hy => h1 y (am _ hy)) h2
      refine ⟨cl, ?_, e2, fun y hy hf => ?_, e4⟩
      · rw [jj]
        have hk' : (k == cu) = false := by simpa using hk
        simp only [hk', bY, if_false]
        exact e1
      · rcases List.mem_cons.mp hy with rfl | hy
        · exact absurd hf hk
        · exact e3 y hy hf
theorem sZ {scope:eT}{env:Env} (h:∀ y∈scope.names,y.2=.free->∃ c,env.cells.lookup y.1=some c):∃ cl,closureFor scope env=pure cl /\
  (∀ x c,cl.lookup x=some c->env.cells.lookup x=some c)/\(∀ y∈scope.names,y.2=.free->∃ c,cl.lookup y.1=some c):=by
 obtain ⟨cl,e1,e2,e3,_⟩:=Gn (env:=env) scope.names [] h (fun x c h=>by simp at h)
 refine ⟨cl,?_,e2,e3⟩
 simp only [closureFor]
 rw [show (forIn scope.names ([] : List (Str×ah)) fun x r=>_)=(pure cl:Sem (List (Str×ah))) from e1]
 rfl
end L2
end
section
namespace L2
open PySem PySem.Spec PyProof.Rows
def cP (X:Cx) (N':List Str) (scope:eT) (cl:List (Str×ah)) (C:ah) (s₀:af) (H₀:Hp) (ex:List ah) (pn:List (ah×Obj)):Cx :=
 { X with N:=N',s₀:=s₀,H₀:=H₀,env:=compEnvC scope cl C X.env,outer:=X.stack,stack:=X.stack,ex:=ex,fn:=fun _=>false,pn:=pn,xe:=fun _ _=>False }
def OW (X:Cx) (ifs:List b9) (t:TT):Prop :=
 ∀ (pins:List (ah×Obj)) (s:af) (σ:St) (H:Hp) (Q:Bool->Hp->Prop),bF X pins σ H s->t σ H Q ->
  aq (aF X.prog X.w) X.A (forIn ifs true fun c r=>if r=true then do let ok <- vm c X.env (dz c X.env);pure (fN ok) else pure (fN r)) (TP X pins σ Q) X.xe s
def WN:TT:=fun _ H Q=>Q true H
theorem PM {X:Cx}:OW X [] WN:=fun pins s σ H Q I h=>wpAny_tests_nil ⟨H,I,h⟩
theorem PN {X:Cx}{c:b9}{t:TT} (h:PT X c t):OW X [c] t:=fun pins s σ H Q I hw=>wpAny_tests_one (h pins s σ H Q I hw)
structure nr (X:Cx) (scope:eT) (N':List Str) (nt:Nat) (ix:List Nat):Prop where
 kind:scope.kind=.function
 nocell:∀ y∈scope.names,y.2≠.cell
 loc:∀ y∈scope.names,y.2=.local->scope.names.lookup y.1=some .local
 free:∀ y∈scope.names,y.2=.free->X.env.scope.names.lookup y.1=some .cell\/X.env.scope.names.lookup y.1=some .free
 cap:∀ k i,ix[k]?=some i->∃ x,X.N[i]?=some x/\N'[nt + k]?=some x/\scope.names.lookup x=some .free
 len:N'.length=nt + ix.length
def jo (nt:Nat) (ix:List Nat) (σ:St):St:=mq nt none++ix.map fun i=>(σ[i]?).join
theorem si {env:Env}{x:Str}{names:List (Str×r_)}:names.lookup x=some .free ->
  (names.map fun (n,k)=>if (k == cu && env.scope.kind == .function && env.kindOf n == some .cell) then (n,fg) else (n,k)).lookup x=some .free \/
  (names.map fun (n,k)=>if (k == cu && env.scope.kind == .function && env.kindOf n == some .cell) then (n,fg) else (n,k)).lookup x=some .cell:=by
 induction names with
 | nil=>intro h;simp at h
 | cons nk r ih =>
  obtain ⟨n,k⟩:=nk
  intro h
  show xH x ((if (k == cu && env.scope.kind == .function && env.kindOf n == some .cell)=true then (n,fg) else (n,k))::_)=_ \/
   xH x ((if (k == cu && env.scope.kind == .function && env.kindOf n == some .cell)=true then (n,fg) else (n,k))::_)=_
  cases hx:x == n with
  | true =>
   simp only [cR,hx] at h
   cases h
   by_cases hc:(cu == cu && env.scope.kind == .function && env.kindOf n == some .cell)=true
   ·rw [if_pos hc];right;simp [cR,hx]
   ·rw [if_neg hc];left;simp [cR,hx]
  | false =>
   simp only [cR,hx] at h
   by_cases hc:(k == cu && env.scope.kind == .function && env.kindOf n == some .cell)=true
   ·rw [if_pos hc];simp only [cR,hx];exact ih h
   ·rw [if_neg hc];simp only [cR,hx];exact ih h
theorem ux {env:Env}{x:Str}{names:List (Str×r_)} :
  ((names.map fun (n,k)=>if (k == cu && env.scope.kind == .function && env.kindOf n == some .cell) then (n,fg) else (n,k)).lookup x=some .free \/
  (names.map fun (n,k)=>if (k == cu && env.scope.kind == .function && env.kindOf n == some .cell) then (n,fg) else (n,k)).lookup x=some .cell) ->
  (x,cu)∈names\/(x,fg)∈names:=by
 induction names with
 | nil=>intro h;simp at h
 | cons nk r ih =>
  obtain ⟨n,k⟩:=nk
  intro h
  have h:xH x ((if (k == cu && env.scope.kind == .function && env.kindOf n == some .cell)=true then (n,fg) else (n,k))::_)=_ \/
   xH x ((if (k == cu && env.scope.kind == .function && env.kindOf n == some .cell)=true then (n,fg) else (n,k))::_)=_:=h
  cases hx:x == n with
  | true =>
   have e:x=n:=by simpa using hx
   subst e
   by_cases hc:(k == cu && env.scope.kind == .function && env.kindOf x == some .cell)=true
   ·have:k=.free:=by simp at hc;exact hc.1.1
    subst this;left;exact ap
   ·rw [if_neg hc] at h;simp only [cR,hx] at h
    rcases h with h | h
    ·cases h;left;exact ap
    ·cases h;right;exact ap
  | false =>
   have h':=ih (by
    by_cases hc:(k == cu && env.scope.kind == .function && env.kindOf n == some .cell)=true
    ·rw [if_pos hc] at h;simp only [cR,hx] at h;exact h
    ·rw [if_neg hc] at h;simp only [cR,hx] at h;exact h)
   rcases h' with h' | h'
   ·left;exact am _ h'
   ·right;exact am _ h'
inductive Rn (nt:Nat) (ix:List Nat) (g:TG) (tt:TT) (te:TE) (σ:St) (Q:VK) (J:It) (H1:Hp):Prop
 | mk (W:Nat->Nat->List V->Hp->Prop) (w0:∃ m,W 0 m [] H1) (turn:∀ i m acc H,W i m acc H ->
 (J.stop i H/\∀ p,H p=none->Q (.ref p) (upd H p (.lst acc))) \/
 (J.go i H/\acc.length<sizeLine/\∀ x H',J.yld i H x H'->g x (jo nt ix σ) H' fun σ2 H2=>tt σ2 H2 fun b H3 =>
  if b=true then te σ2 H3 fun y H4=>∃ m',m'<m/\W (i + 1) m' (acc++[y]) H4 else ∃ m',m'<m/\W (i + 1) m' acc H3)):Rn nt ix g tt te σ Q J H1
def Mb (nt:Nat) (ix:List Nat) (wi:TI) (g:TG) (tt:TT) (te:TE):TE:=fun σ H Q=>wi σ H (Rn nt ix g tt te σ Q)
section
variable {X:Cx}{pins:List (ah×Obj)}{σ:St}{H:Hp}{s:af}
theorem DH {scope:eT}{N':List Str}{nt:Nat}{ix:List Nat}{cl:List (Str×ah)}{C:ah}{fp:List ah}{h₁:br}{t':Nat}{m:Str->Option a9}
  (S:nr X scope N' nt ix) (I:bF X pins σ H s) (c1:∀ x c,cl.lookup x=some c->X.env.cells.lookup x=some c) (c2:∀ y∈scope.names,y.2=.free->∃ c,cl.lookup y.1=some c)
  (hf:∀ b∈fp,qq X pins H b) (ff:∀ b∈fp,b<s.heap.objs.size) (hC:s.heap.objs.size<=C) (hns:h₁.Ns C m) (old:∀ b o,s.heap.get? b=some o->h₁.get? b=some o) :
  bF (cP X N' scope cl C s H fp (X.pn++pins)) [] (jo nt ix σ) H { s with heap:=h₁,toks:=t' }:=by
 have cellOld:∀ {c v},s.heap.IsCell c v->h₁.IsCell c v:=fun {c v} ⟨o,ho,hd⟩=>⟨o,old _ _ ho,hd⟩
 refine ⟨⟨I.ok.mod,S.kind,I.ok.glob,I.ok.blt,hC,fun x y c h1 h2=>I.ok.inj x y c (c1 x c h1) (c1 y c h2),fun x hx=>?_,fun x c h=>absurd h (by simp [cP]),I.ok.hd,I.ok.frames,.inl rfl,fun b hb=>⟨?_,fun x c h=>?_⟩,I.bs,bE I.ok.bsz I.sz,fun b o h hb=>?_,fun b hb z=>?_,I.stack,I.stkFree⟩,
  rfl,I.bare,Un.kept old,⟨m,hns,fun i x v h1 h2 h3=>?_⟩,fun x c h=>?_,I.hok.fresh hC,fun x c h=>I.freeC x c (c1 x c h),fun p hp=>?_,I.hok.kept old,?_⟩
 ·have hx':(x,cu)∈scope.names\/(x,fg)∈scope.names:=ux (env:=X.env) (hx.elim .inr .inl)
  rcases hx' with z | z
  ·exact c2 _ z rfl
  ·exact absurd rfl (S.nocell _ z)
 ·exact aB (aK (ff b hb) hC)
 ·exact (hf b hb).f4 x c (c1 x c h)
 ·rcases (hf b hb).f3 with z | z
  ·exact I.ok.noex b o h z
  ·exact absurd (aK (ao h) (bE I.ok.bsz z)) (cj _)
 ·rcases List.mem_cons.mp (I.stkSub b z) with e | e
  ·exact (hf b hb).f1 e
  ·exact (hf b hb).f2 e
 ·have hnt:nt<=i:=by
   refine OZ fun hlt=>?_
   have h2':(jo nt ix σ)[i]?=some (some v):=h2
   unfold jo at h2'
   rw [bv (by simpa using hlt),bR,if_pos hlt] at h2'
   cases h2'
  have h2':(jo nt ix σ)[i]?=some (some v):=h2
  unfold jo at h2'
  rw [bn (by simpa using hnt),cU,aN] at h2'
  cases e:ix[i - nt]? with
  | none=>rw [e] at h2';cases h2'
  | some j =>
   rw [e] at h2'
   have hj:σ[j]?=some (some v):=by
    have q:(σ[j]?).join=some v:=bJ h2'
    cases e3:σ[j]? with
    | none=>rw [e3] at q;cases q
    | some o=>rw [e3] at q;cases o with
     | none=>cases q
     | some v'=>cases q;rfl
   obtain ⟨x',n1,n2,fr⟩:=S.cap _ _ e
   rw [Nat.add_sub_cancel' hnt] at n2
   have h1':N'[i]?=some x:=h1
   rw [h1'] at n2
   cases n2
   obtain ⟨mm,hn,hl⟩:=I.loc
   have hfree:=S.free (x,.free) (fe fr) rfl
   obtain ⟨u,r,l⟩:=hl j x v n1 hj (hfree.elim (fun z=>.inr (.inl z)) fun z=>.inr (.inr z))
   refine ⟨u,r,?_⟩
   rcases l with ⟨k,_⟩ | ⟨k,c,hc,hcell⟩
   ·have k:X.env.scope.names.lookup x=some .local:=k
    rcases hfree with z | z<;>(rw [z] at k;cases k)
   ·obtain ⟨c',hc'⟩:=c2 _ (fe fr) rfl
    have:=c1 x c' hc'
    rw [hc] at this
    cases this
    refine .inr ⟨?_,c,hc',cellOld hcell⟩
    rcases si (env:=X.env) fr with z | z
    ·exact .inr z
    ·exact .inl z
 ·obtain ⟨v,q⟩:=I.cell x c (c1 x c h)
  exact ⟨v,cellOld q⟩
 ·have hp:p∈X.pn++pins:=(List.mem_append.mp hp).elim id fun z=>absurd z (by simp)
  obtain ⟨e,n,ne,nf,d⟩:=I.pin p hp
  refine ⟨old _ _ e,n,aB (aK (ao e) hC),fun z=>?_,d⟩
  rcases List.mem_cons.mp (I.stkSub p.1 z) with e | e
  ·exact ne e
  ·exact nf e
 ·show (jo nt ix σ).length=N'.length
  rw [S.len];simp [jo]
end
end L2
end
section
namespace L2
open PySem PySem.Spec PyProof.Rows
theorem Un.grow {fs ex:List ah}{H H1:Hp}{h h1 h2:br} (u:Un fs ex H H1 h h1) {C D:ah}{o:HO} (sb:bD C h1 h2) (hC:h.objs.size<=C) (hD:h.objs.size<=D) (hn:H1 D=none):Un fs ex H (upd H1 D o) h h2 where
 keep:=fun b ob q n hb hx=>(sb.2 b (aB (aK (ao q) hC))).trans (u.keep b ob q n hb hx)
 slot:=fun b ob q n hb hx=>by
  obtain ⟨sl,e⟩:=u.slot b ob q n hb hx
  exact ⟨sl,(sb.2 b (aB (aK (ao q) hC))).trans e⟩
 free:=fun b ob q n hx=>by rw [aT (aB (aK (ao q) hD))];exact u.free b ob q n hx
 there:=fun b ob q hx=>by
  obtain ⟨o',e⟩:=u.there b ob q hx
  exact ⟨o',(sb.2 b (aB (aK (ao q) hC))).trans e⟩
 tups:=fun b xs q=>by have z:=u.tups b xs q;rw [aT (bi z hn)];exact z
 frzs:=fun b ob xs q=>by have z:=u.frzs b ob xs q;rw [aT (bi z hn)];exact z
 tbls:=fun b ps q=>by
  obtain ⟨m,z⟩:=u.tbls b ps q
  exact ⟨m,by rw [aT (bi z hn)];exact z⟩
theorem xU {P:aI}{w:bc}{H:Hp}{h h':br}{C:ah} (k:pQ P w H h) (hC:H C=none) (sb:bD C h h'):pQ P w H h':=fun b ob e=>by
 refine (k b ob e).stay (fun c w' hc q=>(sb.2 c ?_).trans q) (fun _ q=>q) fun _ _ q=>q
 rintro rfl
 rcases hc with rfl | hc
 ·rw [hC] at e;cases e
 ·rw [hC] at hc;cases hc
theorem re {P:aI}{w:bc}{H:Hp}{h:br}{D:ah}{o:HO} (k:pQ P w H h) (hD:H D=none) (new:cY P w (upd H D o) h D o):pQ P w (upd H D o) h:=fun b ob e=>by
 by_cases hb:b=D
 ·subst hb;rw [aV] at e;cases e;exact new
 ·rw [aT hb] at e
  exact (k b ob e).stay (fun c w' hc q=>q) (fun c q=>by rw [aT (bi q hD)];exact q) fun c x q=>by rw [aT (bi q hD)];exact q
theorem nf {M:FJ}{A:bg}{α:Type}{t:Sem α}{Q:α->af->Prop}{E':a9->af->Prop}{s:af} (h:aq M A t Q (fun _ _=>False) s):aq M A t Q E' s :=
 bC h (fun _ _ q=>q) fun _ _ f=>f.elim
theorem bF.pin1 {X:Cx}{σ:St}{H:Hp}{s:af}{D:ah}{o:Obj} (I:bF X [] σ H s) (e:s.heap.get? D=some o) (n:H D=none) (ne:D≠X.env.locals) (nf:D∉X.fs) (d:∀ v,o.data≠.cell v):bF X [(D,o)] σ H s :=
 I.pins_of fun p hp=>by
  have:p=(D,o):=by simpa using hp
  subst this
  exact ⟨e,n,ne,nf,d⟩
def Ro (nt:Nat) (g:TG):Prop:=∀ x σ0 H (Q:St->Hp->Prop),g x σ0 H Q->g x σ0 H (fun σ2 H2=>Q σ2 H2/\σ2.length=σ0.length/\∀ j,nt<=j->σ2[j]?=σ0[j]?)
theorem Mc {nt i:Nat} (h:i<nt):Ro nt (wp i):=fun x σ0 H Q q=>⟨q,by simp,fun j hj=>ak (by omega)⟩
theorem PP {nt i k n:Nat}{K:a8} (h:i<nt) (h':k<nt):Ro nt (Sx K n (ae (wp i) (ae (wp k) aE))):=by
 rintro x σ0 H Q ⟨a,xs,rfl,sq,hl,v,r,rfl,v',r',rfl,rfl,q⟩
 exact ⟨a,_,rfl,sq,hl,v,_,rfl,v',_,rfl,rfl,q,by simp,fun j hj=>by rw [ak (by omega),ak (by omega)]⟩
inductive Xv (X:Cx) (pins:List (ah×Obj)) (N':List Str) (scope:eT) (cl:List (Str×ah)) (C:ah) (s2:af) (H2:Hp) (fp:List ah) (nt:Nat) (ix:List Nat) (σ:St) (tn:Nat->br->Prop) (W:Nat->Nat->List V->Hp->Prop) (n:Nat) (s':af):Prop
 | mk (i:Nat) (acc:List V) (its:List a9) (nn:Nat) (H':Hp) (I:bF (cP X N' scope cl C s2 H2 fp (X.pn++pins)) [(s2.heap.objs.size,{ cls:=.type "list",data:=.seq its.toArray nn })] (jo nt ix σ) H' s') (v:dn acc its) (l:acc.length<=sizeLine) (t:tn i s'.heap) (f:∀ b∈fp,H' b=none) (w:W i n acc H'):Xv X pins N' scope cl C s2 H2 fp nt ix σ tn W n s'
theorem xV {X:Cx}{elt tg iter:b9}{ifs:List b9}{scope:eT}{pos:Pos}{g:TG}{tt:TT}{te:TE}{N':List Str}{nt:Nat}{ix:List Nat}
  (hc:X.calm=true) (S:nr X scope N' nt ix) (lo:Ro nt g)
  (hb:∀ cl C s₀ H₀ ex pn,PG (cP X N' scope cl C s₀ H₀ ex pn) tg g/\OW (cP X N' scope cl C s₀ H₀ ex pn) ifs tt/\PE (cP X N' scope cl C s₀ H₀ ex pn) elt te)
  {cl:List (Str×ah)} (c1:∀ x c,cl.lookup x=some c->X.env.cells.lookup x=some c) (c2:∀ y∈scope.names,y.2=.free->∃ c,cl.lookup y.1=some c)
  {pins:List (ah×Obj)}{σ:St}{H2:Hp}{s2:af}{it:ah}{fp:List ah}{tn:Nat->br->Prop}{J:It}{Q:VK}{E:a9->af->Prop}
  (I2:bF X pins σ H2 s2) (T:xN X.prog X.w X.K tg J fp it tn) (st2:tn 0 s2.heap) (f2:∀ b∈fp,qq X pins H2 b)
  {W:Nat->Nat->List V->Hp->Prop} (w0:∃ m,W 0 m [] H2)
  (turn:∀ i m acc H,W i m acc H->(J.stop i H/\∀ p,H p=none->Q (.ref p) (upd H p (.lst acc))) \/
   (J.go i H/\acc.length<sizeLine/\∀ x H',J.yld i H x H'->g x (jo nt ix σ) H' fun σ2 H2=>tt σ2 H2 fun b H3 =>
    if b=true then te σ2 H3 fun y H4=>∃ m',m'<m/\W (i + 1) m' (acc++[y]) H4 else ∃ m',m'<m/\W (i + 1) m' acc H3))
  {RR:a9->ah->vn->af->Prop}
  (hRR:∀ D C m s' (acc:List V) H',H' D=none->qq X pins (upd H' D (.lst acc)) C->Q (.ref D) (upd H' D (.lst acc))->s'.heap.Ns C m->(∀ h',bD C s'.heap h'->bF X pins σ (upd H' D (.lst acc)) { s' with heap:=h' })->RR (.ref D) C (.ok .next) s') :
  aq (aF X.prog X.w) X.A (newList []) (fun acc s₃=>aq (aF X.prog X.w) X.A (newFunctionEnv scope X.env.globals cl [] X.env.qual none .none (some X.env)) (fun cenv s₄ =>
   gW (aF X.prog X.w) X.A (.compStart (.ListComp elt [⟨tg,iter,ifs,0⟩] scope pos) 0 (.ref it) acc { cenv with scope:=relabel scope X.env }) (RR acc cenv.locals) s₄) E s₃) E s2:=by
 refine bU (O_ S.nocell (by intro y hy;simp at hy) (fun h₁ hns₁ hsb₁=>?_) S.kind)
 dsimp only at hns₁ hsb₁ ⊢
 generalize hG2:s2.heap.push { cls:=.type "list",dict:=none,data:=.seq ([] : List a9).toArray }=G2 at hns₁ hsb₁ ⊢
 have hC:G2.objs.size=s2.heap.objs.size + 1:=by rw [<- hG2,db]
 have hDC:s2.heap.objs.size≠G2.objs.size:=by rw [hC];exact aB (dU _)
 have hCle:s2.heap.objs.size<=G2.objs.size:=by rw [hC];exact iK _
 have below:∀ b,b<s2.heap.objs.size->b≠G2.objs.size:=fun b hb=>by rw [hC];exact aB (fc hb)
 have old:∀ b o,s2.heap.get? b=some o->h₁.get? b=some o:=fun b o e=>hsb₁.extBut b o (below b (ao e)) (ag _ (hG2 ▸ ag _ e))
 have hacc:h₁.get? s2.heap.objs.size=some { cls:=.type "list",dict:=none,data:=.seq ([] : List a9).toArray }:=hsb₁.extBut _ _ hDC (ag _ (hG2 ▸ ay _ rfl))
 have ff:∀ b∈fp,b<s2.heap.objs.size:=fun b hb=>by
  obtain ⟨o,e,_⟩:=T.obj _ _ st2 b hb
  exact ao e
 have I3:bF (cP X N' scope cl G2.objs.size s2 H2 fp (X.pn++pins)) [] (jo nt ix σ) H2 { s2 with heap:=h₁,toks:=s2.toks + ([] : List (Str×a9)).length }:=DH S I2 c1 c2 f2 ff hCle hns₁ old
 obtain ⟨pg,pt,pe⟩:=hb cl G2.objs.size s2 H2 fp (X.pn++pins)
 have hDfs:s2.heap.objs.size∉r9 X.stack:=fun z=>by
  rcases List.mem_cons.mp (I2.stkSub _ z) with e | e
  ·exact absurd I2.lt (by rw [<- e];exact cj _)
  ·exact I2.nofs (au _) e
 have nod:∀ (its:List a9) (n:Nat) v,({ cls:=.type "list",data:=.seq its.toArray n }:Obj).data≠.cell v:=fun _ _ _ z=>nomatch z
 have st1:tn 0 h₁:=T.keep _ _ _ st2 fun b _ o e=>old b o e
 have hDf:s2.heap.objs.size∉fp:=fun z=>absurd (ff _ z) (cj _)
 have stat:∀ {H':Hp}{pl:List (ah×Obj)},(∀ p∈pl,p.1∉fp)->(∀ b∈fp,H' b=none)->∀ b∈fp,qq (cP X N' scope cl G2.objs.size s2 H2 fp (X.pn++pins)) pl H' b:=fun hpl hn b hb=>by
  obtain ⟨f0,f1,f2',f3,f4,f5⟩:=f2 b hb
  refine ⟨hn b hb,below b (ff b hb),fun z=>?_,.inl hb,fun x c e=>f4 x c (c1 x c e),fun p hp z=>?_⟩
  ·rcases List.mem_cons.mp (I2.stkSub _ z) with e | e
   ·exact f1 e
   ·exact f2' e
  ·rcases List.mem_append.mp hp with q | q
   ·exact f5 p q z
   ·exact hpl p q (z ▸ hb)
 obtain ⟨m0,w0⟩:=w0
 have loop:gW (aF X.prog X.w) X.A (.compLoop (.ListComp elt [⟨tg,iter,ifs,0⟩] scope pos) 0 (.ref it) (.ref s2.heap.objs.size) (compEnvC scope cl G2.objs.size X.env))
    (RR (.ref s2.heap.objs.size) G2.objs.size) { s2 with heap:=h₁,toks:=s2.toks + ([] : List (Str×a9)).length }:=by
  refine BW (Xv X pins N' scope cl G2.objs.size s2 H2 fp nt ix σ tn W) ?_ m0
   ⟨0,[],[],0,H2,I3.pin1 hacc (I2.hok.fresh (au _)) hDC hDfs (nod _ _),.nil,cW _,st1,fun b hb=>(f2 b hb).1,w0⟩
  rintro n s3 ⟨i,acc,its,nn,H3,J3,rv,hz,st3,fr3,w3⟩
  have plD:∀ p∈[(s2.heap.objs.size,({ cls:=.type "list",data:=.seq its.toArray nn }:Obj))],p.1∉fp:=fun p hp=>by
   have:p=(s2.heap.objs.size,({ cls:=.type "list",data:=.seq its.toArray nn }:Obj)):=by simpa using hp
   rw [this];exact hDf
  rcases turn i n acc H3 w3 with ⟨stop,qn⟩ | ⟨go,hlt,step⟩
  ·refine fD (T.done (cP X N' scope cl G2.objs.size s2 H2 fp (X.pn++pins)) rfl rfl rfl hc i _ s3 _ H3 _ J3 (stat plD fr3) st3 stop) fun r s4 h_0=>?_
   obtain ⟨hr,I4⟩:=h_0
   subst hr
   obtain ⟨pD,pN,_⟩:=I4.pin (s2.heap.objs.size,_) (aM _ (List.mem_singleton.mpr rfl))
   obtain ⟨mm,hn,_⟩:=I4.loc
   have hCn:H3 G2.objs.size=none:=I4.free
   refine hRR _ _ mm s4 acc H3 pN (I2.fpOk hCle (by rw [aT (cZ hDC)];exact hCn)) (qn _ pN) hn fun h' sb=>?_
   have hu:Un (r9 X.stack) fp H2 (upd H3 s2.heap.objs.size (.lst acc)) s2.heap h':=Un.grow I4.base sb hCle (au _) pN
   refine I2.call' (s':={ s4 with heap:=h' }) (ch:=fp) I4.os hu ?_ I4.bare fun b hb=>?_
   ·refine re (xU I4.hok hCn sb) pN ⟨hz,its,nn,rv,(sb.2 _ hDC).trans pD⟩
   ·obtain ⟨_,f1,_,f3,f4,f5⟩:=f2 b hb
    exact ⟨f3,f1,f4,f5⟩
  ·refine fD (T.item (cP X N' scope cl G2.objs.size s2 H2 fp (X.pn++pins)) rfl rfl rfl hc i _ s3 _ H3 _ J3 (stat plD fr3) st3 go) fun r s4 h_1=>?_
   obtain ⟨u,hr,h4⟩:=h_1
   subst hr
   refine fD h4 fun _ s5 h_2=>?_
   obtain ⟨x,H5,I5,r5,y5,st5,fr5⟩:=h_2
   have I5':=I5.pinned (stat plD fr5) (T.obj _ _ st5)
   refine fD (pg _ s5 _ H5 x u _ I5' r5 (lo _ _ _ _ (step x H5 y5))) fun _ s6 h_3=>?_
   obtain ⟨σ6,H6,I6,q6,l6,k6⟩:=h_3
   have hw:∀ (j:Nat) v,(jo nt ix σ)[j]?=some (some v)->σ6[j]?=some (some v):=fun j v e=>by
    by_cases hj:nt<=j
    ·rw [k6 j hj];exact e
    ·unfold jo at e
     rw [bv (by simpa using hj),bR,if_pos (by omega)] at e
     cases e
   refine fD (pt _ s6 σ6 H6 _ I6 q6) fun b s7 h_4=>?_
   obtain ⟨H7,I7,q7⟩:=h_4
   have fpk:∀ {s8:af}{σ8:St}{H8:Hp},bF (cP X N' scope cl G2.objs.size s2 H2 fp (X.pn++pins)) ([(s2.heap.objs.size,{ cls:=.type "list",data:=.seq its.toArray nn })]++vA fp s5.heap) σ8 H8 s8 ->
     tn (i + 1) s8.heap/\∀ b∈fp,H8 b=none:=fun {s8 σ8 H8} I8=>by
    refine ⟨T.keep _ _ _ st5 fun b hb o e=>(I8.pin (b,o) (aM _ (aM _ (jQ hb e)))).1,fun b hb=>?_⟩
    obtain ⟨o,e,d⟩:=T.obj _ _ st5 b hb
    exact (I8.pin (b,o) (aM _ (aM _ (jQ hb e)))).2.1
   cases b with
   | false =>
    simp only [bY,if_false] at q7 ⊢
    obtain ⟨m',hm,w7⟩:=q7
    obtain ⟨t7,f7⟩:=fpk I7
    exact ⟨m',hm,i + 1,acc,its,nn,H7,(I7.weak l6.symm hw).unpinned,rv,hz,t7,f7,w7⟩
   | true =>
    simp only [if_true] at q7 ⊢
    refine fD (pe _ s7 σ6 H7 _ I7 q7) fun u8 s8 h_5=>?_
    obtain ⟨y,H8,I8,r8,m',hm,w8⟩:=h_5
    obtain ⟨t8,f8⟩:=fpk I8
    obtain ⟨pD,pN,_⟩:=I8.pin (s2.heap.objs.size,_) (aM _ (bP _ (List.mem_singleton.mpr rfl)))
    have hl:=rv.length
    refine wpAny_list_append_plain ⟨nn,pD⟩ (hsz:=by rw [aJ];omega) ?_
    intro h9 pl9 sb9
    obtain ⟨n9,e9⟩:=pl9
    have e9':h9.get? s2.heap.objs.size=some { cls:=.type "list",data:=.seq (its++[u8]).toArray n9 }:=by rw [e9];simp
    refine ⟨m',hm,i + 1,acc++[y],its++[u8],n9,H8,?_,rv.append (.cons r8 .nil),by rw [aO,cV];omega,T.keep _ _ _ t8 fun b hb o e=>sb9.extBut b o (fun z=>hDf (z ▸ hb)) e,f8,w8⟩
    have I8':bF (cP X N' scope cl G2.objs.size s2 H2 fp (X.pn++pins)) [] (jo nt ix σ) H8 s8:=(I8.weak l6.symm hw).pins_of fun p hp=>absurd hp (by simp)
    have I9:bF (cP X N' scope cl G2.objs.size s2 H2 fp (X.pn++pins)) [] (jo nt ix σ) H8 { s8 with heap:=h9,toks:=s8.toks } :=
     I8'.turned (it:=s2.heap.objs.size) (fun b o hb e=>sb9.extBut b o hb e) pN hDC (.inr (au _)) (fun x c e z=>by
      obtain ⟨v,q⟩:=I2.cell x c (c1 x c e)
      exact absurd q.lt (by rw [z];exact cj _)) fun p hp z=>by
      have hp:p∈X.pn++pins:=(List.mem_append.mp hp).elim id fun z=>absurd z (by simp)
      exact absurd (ao (I2.pin p hp).1) (by rw [z];exact cj _)
    exact I9.pin1 e9' pN hDC hDfs (nod _ _)
 exact codeAny_compStart_list loop (T.self _ 0 _ _ _ st1 loop)
end L2
end
section
namespace L2
open PySem PySem.Spec PyProof.Rows
theorem DI {X:Cx}{elt tg iter:b9}{ifs:List b9}{scope:eT}{pos:Pos}{wi:TI}{g:TG}{tt:TT}{te:TE}{N':List Str}{nt:Nat}{ix:List Nat}
  (hc:X.calm=true) (S:nr X scope N' nt ix) (lo:Ro nt g) (hi:PI X tg iter wi)
  (hb:∀ cl C s₀ H₀ ex pn,PG (cP X N' scope cl C s₀ H₀ ex pn) tg g/\OW (cP X N' scope cl C s₀ H₀ ex pn) ifs tt/\PE (cP X N' scope cl C s₀ H₀ ex pn) elt te)
  (hs:∀ x,eg iter X.env x=pure x:=by intro _;rfl):PE X (.ListComp elt [⟨tg,iter,ifs,0⟩] scope pos) (Mb nt ix wi g tt te):=by
 intro pins s σ H Q I h
 obtain ⟨cl,hcl,c1,c2⟩:=sZ (scope:=scope) (env:=X.env) fun y hy hf=>I.ok.has y.1 (S.free y hy hf)
 rw [eval_ListComp]
 refine qj (use:=none) rfl hs hcl S.kind S.loc (fD (hi pins s σ H _ I h) fun v s1 h1=>fD h1 fun itv s2 h2=>?_)
 obtain ⟨it,fp,tn,J,H2,e,I2,T,st2,f2,W,w0,turn⟩:=h2
 subst e
 refine xV (RR:=fun acc C=>compPost (aF X.prog X.w) X.A X.xe none (EP X pins σ Q) acc C) hc S lo hb c1 c2 I2 T st2 f2 w0 turn ?_
 intro D C m s' acc H' hD _ q hn hI
 exact ⟨m,hn,fun h' sb=>⟨.ref D,_,hI h' sb,rfl,q⟩⟩
def UG (i:Nat) (te:TE):TS:=fun D σ H=>te σ H fun x H1=>D.nx (σ.set i (some x)) H1
theorem Go {X:Cx}{elt tg iter:b9}{ifs:List b9}{scope:eT}{pos spos py:Pos}{wi:TI}{g:TG}{tt:TT}{te:TE}{N':List Str}{nt:Nat}{ix:List Nat}{i:Nat}{y:Str}
  (hN:X.N.Nodup) (hiN:X.N[i]?=some y) (hy:X.env.scope.names.lookup y=some .local)
  (hc:X.calm=true) (S:nr X scope N' nt ix) (lo:Ro nt g) (hi:PI X tg iter wi)
  (hb:∀ cl C s₀ H₀ ex pn,PG (cP X N' scope cl C s₀ H₀ ex pn) tg g/\OW (cP X N' scope cl C s₀ H₀ ex pn) ifs tt/\PE (cP X N' scope cl C s₀ H₀ ex pn) elt te)
  (hsw:gZ (.ListComp elt [⟨tg,iter,ifs,0⟩] scope pos) (some (.Name y py)) spos.line X.env=pure true:=by rfl)
  (hs:∀ x,eg iter X.env x=pure x:=by intro _;rfl):PS X (.Assign [.Name y py] (.ListComp elt [⟨tg,iter,ifs,0⟩] scope pos) spos) (UG i (Mb nt ix wi g tt te)):=by
 intro pins s σ H D I h
 obtain ⟨cl,hcl,c1,c2⟩:=sZ (scope:=scope) (env:=X.env) fun y hy hf=>I.ok.has y.1 (S.free y hy hf)
 rw [exec_Assign_Name_used _ _ _ _ hsw]
 refine a7 (iF (a7 ?_))
 show aq _ X.A (do let _ <- comprehension (.ListComp elt [⟨tg,iter,ifs,0⟩] scope pos) scope X.env _ (newList []) false (dz iter X.env) (some (qh (.Name y py) X.env))) _ _ s
 refine a7 (bC (qj (use:=some (qh (.Name y py) X.env)) (Q:=fun _ s'=>SP X pins D .next s') rfl hs hcl S.kind S.loc
  (fD (hi pins s σ H _ I h) fun v s1 h1=>fD h1 fun itv s2 h2=>?_)) (fun _ s' hq=>ac (ac hq)) fun _ _ e=>e)
 obtain ⟨it,fp,tn,J,H2,e,I2,T,st2,f2,W,w0,turn⟩:=h2
 subst e
 refine xV (Q:=fun x H1=>D.nx (σ.set i (some x)) H1) (RR:=fun acc C=>compPost (aF X.prog X.w) X.A X.xe (some (qh (.Name y py) X.env)) (fun _ s'=>SP X pins D .next s') acc C) hc S lo hb c1 c2 I2 T st2 f2 w0 turn ?_
 intro L C m s' acc H' hD fC q hn hI
 show aq _ X.A (qh (.Name y py) X.env (.ref L)) _ _ _
 have I3:bF X pins σ (upd H' L (.lst acc)) s':=hI s'.heap (.refl ..)
 refine wpAny_assign_Name (AF I3 hN hiN (.inl hy) (v:=.ref L) rfl (fun s4 I4 ⟨a,sb,ha⟩=>?_) (.inr hy))
 obtain ⟨g0,g1,g2,g3,g4,g5⟩:=fC
 have hCa:C≠a:=by
  rcases ha with z | z
  ·rw [z];exact g1
  ·exact fun e=>g4 y a z e.symm
 refine ⟨m,hn.sameBut sb hCa,fun h5 sb5=>?_⟩
 exact ⟨_,_,I4.turned (t':=s4.toks) (fun b o hb e=>(sb5.2 b hb).trans e) g0 g1 g3 g4 g5,q⟩
end L2
end
section
namespace L2
open PySem PySem.Spec PyProof.Rows
def jK (e:Int×a9):Str:=match e.2 with
 | .str x _=>x
 | _=>⟨#[]⟩
def s_ (w:bc) (e:Int×a9):Prop:=∃ x tk,e=(hashStr w x,jp x tk)
structure cT (w:bc) (h:br) (a:ah) (es:Array (Int×a9)) (ep:Nat) (t:ej):Prop where
 at_:h.get? a=some { cls:=.type "set",dict:=none,data:=.set es ep t }
 txt:∀ e∈es.toList,s_ w e
 nd:(es.toList.map jK).Nodup
 few:es.size<iH
 fits:t.fits es.size=true
 led:t.led=!w.params.followText "set-order"
 pl:es.size=0\/t.plain=false
inductive kM (w:bc) (h:br) (a:ah) (ss:List Str):Prop
 | mk (es ep t:_) (h0:cT w h a es ep t) (h1:(es.toList.map jK).Perm ss):kM w h a ss
theorem Gp (t:ej) (es:Array (Int×a9)) (h:Int) (x:a9):(layNew t es h x).2.1.led=t.led:=by
 unfold layNew
 cases t.freeSlot h with
 | none=>rfl
 | some p =>
  obtain ⟨slot,d⟩:=p
  show ((t.put slot).1.orStandIn _).led=_
  unfold Fz
  split<;>rfl
theorem BX (t:ej) (es:Array (Int×a9)) (h:Int) (x:a9):t.plain=false->(layNew t es h x).2.1.plain=false:=by
 intro hp
 unfold layNew
 cases t.freeSlot h with
 | none=>rfl
 | some p =>
  obtain ⟨slot,d⟩:=p
  show ((t.put slot).1.orStandIn _).plain=_
  unfold Fz
  split
  ·exact hp
  ·rfl
theorem DJ {t t':ej}{hs:Array Int}{n:Nat}{o:Array Nat} (h:t.relaid hs n=some (t',o)):t'.led=t.led/\t'.plain=t.plain:=by
 unfold Ju zJ at h
 cases e:u7 (cw n - 1) hs with
 | none=>rw [e] at h;cases h
 | some ow =>
  rw [e] at h
  have h:=bJ h
  have h1:=congrArg Prod.fst h
  subst h1
  exact ⟨rfl,rfl⟩
theorem JZ (t:ej) (es:Array (Int×a9)) (n:Nat):(vq t es n).2.1.led=t.led/\(t.plain=false->(vq t es n).2.1.plain=false):=by
 unfold vq
 cases e:t.relaid (es.map (·.1)) n with
 | none=>exact ⟨rfl,fun _=>rfl⟩
 | some p =>
  obtain ⟨t',o⟩:=p
  obtain ⟨h1,h2⟩:=DJ e
  dsimp only
  split
  ·exact ⟨h1,fun h=>h2.trans h⟩
  ·exact ⟨rfl,fun _=>rfl⟩
theorem Md {w:bc}{P:aI}{l:List (Int×a9)} (h:∀ e∈l,s_ w e):ElemsOf (strKind P w) l:=fun e he=>by
 obtain ⟨x,tk,rfl⟩:=h e he
 exact ⟨⟨x,by simp [PySem.strKind,u5],rfl⟩,rfl⟩
theorem VY (P:aI) (w:bc) (x:Str) (tk:Tok):(strKind P w).is x (.str x tk)=true:=by simp [PySem.strKind,u5]
theorem Ig {P:aI}{w:bc}{e:Int×a9} (h:s_ w e) (x:Str):(strKind P w).is x e.2=true↔jK e=x:=by
 obtain ⟨y,tk,rfl⟩:=h
 constructor
 ·intro q
  have:=(strKind P w).inj _ _ _ q (VY P w y tk)
  rw [this];rfl
 ·rintro rfl
  exact VY P w _ tk
section
variable {P:aI}{w:bc}{A:bg}{E:a9->af->Prop}{s:af}
theorem rf {h:br}{a:ah}{es es':Array (Int×a9)}{ep:Nat}{t t':ej} (I:cT w h a es ep t):(h.update a (qk es' t')).get? a=some { cls:=.type "set",dict:=none,data:=.set es' (ep + 1) t' }:=by
 have q:=fQ (qk es' t') I.at_ rfl
 exact q
theorem AR {a:ah}{ss:List Str}{x:Str}{tk:Tok}{Q:Bool->af->Prop} (hS:kM w s.heap a ss) (hr:ss.length + 1<iH)
  (h:∀ h' tk',bD a s.heap h'->kM w h' a (if x∈ss then ss else ss++[x])->Q (!decide (x∈ss)) { s with heap:=h',toks:=tk' }) :
  aq (aF P w) A (setAddHashed a (.str x tk) ((strKind P w).hash x)) Q E s:=by
 obtain ⟨es,ep,t,I,pm⟩:=hS
 have hlen:es.size=ss.length:=by rw [<- pm.length_eq,al,ar]
 have hel:ElemsOf (strKind P w) es.toList:=Md I.txt
 unfold setAddHashed setAddHashedIn
 refine cp (a7 (bA (s:=s) I.at_ rfl I.fits ?_))
 dsimp only
 rw [byScan_of rfl I.few hel]
 rw [if_pos rfl]
 unfold setAddByScan
 refine a7 (a7 (fX (a7 (wpAny_setScan_of (s:=s) (VY P w x tk) I.at_ rfl I.fits hel ?_))))
 have inmem:x∈ss↔∃ e∈es.toList,(strKind P w).is x e.2=true:=by
  rw [<- pm.mem_iff,List.mem_map]
  constructor
  ·rintro ⟨e,he,q⟩;exact ⟨e,he,(Ig (I.txt e he) x).mpr q⟩
  ·rintro ⟨e,he,q⟩;exact ⟨e,he,(Ig (I.txt e he) x).mp q⟩
 cases hf:List.findIdx? (fun e=>(strKind P w).is x e.2) es.toList with
 | some j =>
  obtain ⟨hj,hp,_⟩:=List.findIdx?_eq_some_iff_getElem.mp hf
  have hin:x∈ss:=inmem.mpr ⟨_,gH hj,hp⟩
  have q:=h s.heap s.toks (.refl ..) (by rw [if_pos hin];exact ⟨es,ep,t,I,pm⟩)
  rw [decide_eq_true hin] at q
  exact ac (ac q)
 | none =>
  have hout:x∉ss:=fun z=>by
   obtain ⟨e,he,q⟩:=inmem.mp z
   rw [List.findIdx?_eq_none_iff.mp hf e he] at q
   cases q
  have h:=fun h' tk' sb=>h h' tk' sb
  rw [decide_eq_false hout,if_neg hout] at h
  have p1:=layNew_perm t es ((strKind P w).hash x) (.str x tk)
  have f1:=layNew_fits t es ((strKind P w).hash x) (.str x tk)
  have l1:=Gp t es ((strKind P w).hash x) (.str x tk)
  have q1:=BX t es ((strKind P w).hash x) (.str x tk)
  generalize layNew t es ((strKind P w).hash x) (.str x tk)=L at p1 f1 l1 q1 ⊢
  obtain ⟨es1,t1,wd,gv⟩:=L
  dsimp only at p1 f1 l1 q1 ⊢
  rw [L9] at p1
  have tx1:∀ e∈es1.toList,s_ w e:=fun e he=>by
   rcases List.mem_append.mp (p1.mem_iff.mp he) with z | z
   ·exact I.txt e z
   ·rw [dQ] at z;exact ⟨x,tk,z⟩
  have km:(es1.toList.map jK).Perm (ss++[x]):=(p1.map jK).trans (by rw [ba];exact pm.append_right _)
  have nd1:(ss++[x]).Nodup:=by
   rw [Lo]
   exact ⟨pm.nodup_iff.mp I.nd,by simp,fun y hy z hz e=>hout (by rw [dQ] at hz;rw [<- hz,<- e];exact hy)⟩
  have sz1:es1.size=es.size + 1:=by rw [<- ar,p1.length_eq,aO,ar];rfl
  have few1:es1.size<iH:=by omega
  have gw:∀ (b:Bool) {s₁:af}{Q':Unit->af->Prop},Q' () s₁->aq (aF P w) A (match b with | true=>rule "set.scan.the-table-gave-way" | false=>pure ()) Q' E s₁ :=
   fun b _ _ z=>by cases b<;>first | exact ac z | exact fX z
  have tail:∀ t2:ej,t2.fits es1.size=true->t2.led=t.led->t2.plain=false->aq (aF P w) A (do
    storeSet a es1 t2
    if (!wd && t2.tooFull)=true then do
      (match (vq t2 es1 (h_ es1.size)).2.2 with | true=>rule "set.scan.the-table-gave-way" | false=>pure ())
      storeSet a (vq t2 es1 (h_ es1.size)).1 (vq t2 es1 (h_ es1.size)).2.1
      pure (some true)
     else pure (some true)) (fun r s'=>r=some true/\Q true s') E s:=fun t2 f2 l2 n2=>by
   refine a7 (iN (s:=s) I.at_ rfl ?_ (fE few1))
   have at1:=rf (es':=es1) (t':=t2) I
   have sb1:=bI s.heap a (qk es1 t2)
   have I1:cT w (s.heap.update a (qk es1 t2)) a es1 (ep + 1) t2:=⟨at1,tx1,km.nodup_iff.mpr nd1,few1,f2,l2.trans I.led,.inr n2⟩
   split
   ·have p2:=relayAll_perm t2 es1 (h_ es1.size)
    have f3:=relayAll_fits t2 es1 (h_ es1.size)
    have l3:=JZ t2 es1 (h_ es1.size)
    generalize vq t2 es1 (h_ es1.size)=R3 at p2 f3 l3 ⊢
    obtain ⟨es2,t3,gv2⟩:=R3
    dsimp only at p2 f3 l3 ⊢
    have few2:es2.size<iH:=by rw [<- ar,p2.length_eq,ar];exact few1
    have km2:=(p2.map jK).trans km
    refine a7 (gw _ (a7 (iN (s:={ s with heap:=s.heap.update a (qk es1 t2) }) I1.at_ rfl ?_ (fE few2))))
    refine ac ⟨rfl,h _ _ (sb1.trans (bI _ a _)) ⟨es2,ep + 1 + 1,t3,⟨rf I1,fun e he=>tx1 e (p2.mem_iff.mp he),km2.nodup_iff.mpr nd1,few2,f3,l3.1.trans (l2.trans I.led),.inr (l3.2 n2)⟩,km2⟩⟩
   ·exact ac ⟨rfl,h _ _ sb1 ⟨es1,ep + 1,t2,I1,km⟩⟩
  refine a7 (gw gv ?_)
  cases hp:t1.plain with
  | true =>
   simp only [if_true]
   rw [hashByValue_scannable 8 (x:=.str x tk) rfl]
   refine a7 (ac ?_)
   refine bC (tail { t1 with plain:=false } (by cases t1;exact f1) l1 rfl) (fun r s' z=>?_) fun _ _ z=>z
   obtain ⟨rfl,z⟩:=z
   exact ac z
  | false =>
   simp only [bY,if_false]
   refine a7 (ac ?_)
   refine bC (tail t1 f1 l1 hp) (fun r s' z=>?_) fun _ _ z=>z
   obtain ⟨rfl,z⟩:=z
   exact ac z
theorem DK {a:ah}{ss:List Str}{x:Str}{tk:Tok}{Q:Bool->af->Prop} (hS:kM w s.heap a ss) (hr:ss.length + 1<iH)
  (h:∀ h' tk',bD a s.heap h'->kM w h' a (if x∈ss then ss else ss++[x])->Q (!decide (x∈ss)) { s with heap:=h',toks:=tk' }) :
  aq (aF P w) A (setAdd a (.str x tk)) Q E s:=by
 unfold setAdd
 refine cp (a7 ((strKind P w).pyHash (k:=x) (VY P w x tk) ?_))
 exact AR (s:={ s with toks:=s.toks + 1 }) hS hr h
end
end L2
end
section
namespace L2
open PySem PySem.Spec PyProof.Rows
abbrev fh (w:bc):Obj:={ cls:=.type "set",dict:=none,data:=.set #[] 0 (.fresh 0 0 (!w.params.followText "set-order")) }
theorem AS (w:bc) {h:br}{a:ah} (e:h.get? a=some (fh w)):kM w h a [] :=
 ⟨#[],0,_,⟨e,fun e he=>by simp at he,by simp,by decide,rfl,rfl,.inl rfl⟩,by simp⟩
def dq:List Str->List Str->List Str
 | acc,[]=>acc
 | acc,x::r=>dq (if x∈acc then acc else acc++[x]) r
theorem iw:∀ (l acc:List Str) (x:Str),x∈dq acc l↔x∈acc\/x∈l
 | [],acc,x=>by simp [dq]
 | y::r,acc,x=>by
  rw [dq,iw r]
  by_cases h:y∈acc
  ·rw [if_pos h];simp only [bf]
   constructor
   ·exact fun z=>z.elim .inl fun z=>.inr (.inr z)
   ·rintro (z | z | z)
    ·exact .inl z
    ·exact .inl (z ▸ h)
    ·exact .inr z
  ·rw [if_neg h];simp [zK,or_assoc]
theorem ig:∀ (l acc:List Str),acc.Nodup->(dq acc l).Nodup
 | [],acc,h=>h
 | y::r,acc,h=>by
  rw [dq]
  refine ig r _ ?_
  by_cases hy:y∈acc
  ·rw [if_pos hy];exact h
  ·rw [if_neg hy,Lo]
   exact ⟨h,by simp,fun a ha b hb e=>hy (by rw [dQ] at hb;rw [<- hb,<- e];exact ha)⟩
theorem fU:∀ (l acc:List Str),(dq acc l).length<=acc.length + l.length
 | [],acc=>by simp [dq]
 | y::r,acc=>by
  rw [dq]
  have:=fU r (if y∈acc then acc else acc++[y])
  by_cases hy:y∈acc
  ·rw [if_pos hy] at this ⊢;simp only [aX];omega
  ·rw [if_neg hy] at this ⊢;simp only [aX,aO,cV,bQ] at this ⊢;omega
section
variable {prog:aI}{w:bc}{A:bg}{E:a9->af->Prop}{s:af}{R:vn->af->Prop}
theorem kM.keep {h h':br}{a:ah}{ss:List Str} (x:kM w h a ss) (k:∀ o,h.get? a=some o->h'.get? a=some o):kM w h' a ss :=
 let ⟨es,ep,t,I,p⟩:=x;⟨es,ep,t,⟨k _ I.at_,I.txt,I.nd,I.few,I.fits,I.led,I.pl⟩,p⟩
theorem A2 {I:ah}{fp wr:List ah}{n:Nat}{Pv:Nat->a9->Prop}{St:Nat->br->Prop} (W:La prog w A.in1 I fp wr n Pv St) (D:ah) (hD:D∉fp) (xs:List Str) (hx:xs.length=n)
  (hv:∀ i v,Pv i v->∃ x t,xs[i]?=some x/\v=.str x t) (hb:n + 1<iH) :
  ∀ (k i:Nat) (s:af) (acc:List Str),n - i=k->i<=n->acc.length<=i->St i s.heap->kM w s.heap D acc ->
   (∀ h' tk,(∀ b o,b∉D::wr->s.heap.get? b=some o->h'.get? b=some o)->kM w h' D (dq acc (xs.drop i))->R (.ok (.ret .none)) { s with heap:=h',toks:=tk }) ->
   gW (aF prog w) A (.builtin "set.update.loop" ⟨[.ref D,.ref I],[]⟩) R s:=by
 have hDw:D∉wr:=fun z=>hD (W.sub _ z)
 intro k
 induction k with
 | zero =>
  intro i s acc hk hi hl st hS hR
  obtain rfl:i=n:=by omega
  refine fF og ?_
  rw [eR hV _]
  show aq _ A.in1 (jr (.ref I) >>= _) _ _ s
  refine a7 (W.done s _ _ st fun h' tk kp=>?_)
  refine ac (hR h' tk (fun b o hb e=>kp b o (fun z=>hb (am _ z)) e) ?_)
  rw [FA (by omega)]
  exact hS.keep fun o e=>kp D o hDw e
 | succ k ih =>
  intro i s acc hk hi hl st hS hR
  have hlt:i<n:=by omega
  refine fF og ?_
  rw [eR hV _]
  show aq _ A.in1 (jr (.ref I) >>= _) _ _ s
  refine a7 (W.item i s _ _ hlt st fun v h' tk hP st' kp=>?_)
  obtain ⟨x,t,hxi,rfl⟩:=hv i v hP
  have hS':kM w h' D acc:=hS.keep fun o e=>kp D o hDw e
  refine a7 (cp (DK (s:={ s with heap:=h',toks:=tk }) hS' (by omega) fun h2 tk2 sb hS2=>?_))
  refine ac ⟨md hV _,ih (i + 1) _ (if x∈acc then acc else acc++[x]) (by omega) hlt ?_ (W.frame _ _ _ st' fun b hb o e=>?_) hS2 fun h3 tk3 k3 hS3=>?_⟩
  ·by_cases z:x∈acc
   ·rw [if_pos z];omega
   ·rw [if_neg z,aO,cV];omega
  ·rw [sb.2 b fun z=>hD (z ▸ hb)];exact e
  ·refine hR h3 tk3 (fun b o hb e=>k3 b o hb ?_) ?_
   ·rw [sb.2 b fun z=>hb (by rw [z];exact ap)]
    exact kp b o (fun z=>hb (am _ z)) e
   ·have hd:xs.drop i=x::xs.drop (i + 1):=by
     obtain ⟨h1,h2⟩:=List.getElem?_eq_some_iff.mp hxi
     rw [BG h1,h2]
    rw [hd,dq];exact hS3
theorem Me (a:a9) {Q₁:a9->af->Prop} (h:Q₁ (.ref s.heap.objs.size) { s with heap:=s.heap.push (fh w) }) :
  gW (aF prog w) A (.call (.builtin "set.__new__") ⟨[.type "set",a],[]⟩) (wants Q₁ E) s:=by
 refine Dm ?_
 show aq _ A.in1 (do checkBuiltinCall "set.__new__" ⟨[.type "set",a],[]⟩;again (.builtin "set.__new__" ⟨[.type "set",a],[]⟩)) _ _ s
 refine a7 (e7 (F.newCall_set_1 a) (ac ⟨md F.plain_set_new _,fF F.entry_set_new ?_⟩))
 rw [eR F.plain_set_new _]
 unfold ia.«set.__new__» P0
 have hsub:=Lp
 obtain ⟨hp,g,d,tk,os⟩:=s
 dsimp only
 wp_walk
 refine g_ (ac ?_)
 dsimp only
 simp only [newObj]
 refine a7 (wpAny_alloc (ac ?_))
 exact ac h
structure S_ (prog:aI) (w:bc) (A:bg) (T:String) (l:ah) (o:Obj) (items:Array a9):Prop where
 ty:o.cls=.type T
 s1:isSubtype (.type T) (.type "set")=pure false
 s2:isSubtype (.type T) (.type "frozenset")=pure false
 nd:(iq T == iq "dict")=false
 iter:∀ (s:af) (Q:a9->af->Prop) (E:a9->af->Prop),s.heap.get? l=some o ->
  (∀ ob St,La prog w A.in1 s.heap.objs.size [s.heap.objs.size,l] [s.heap.objs.size] items.size (fun i v=>items[i]?=some v) St->St 0 (s.heap.push ob)->Q (.ref s.heap.objs.size) { s with heap:=s.heap.push ob })->aq (aF prog w) A (xC (.ref l)) Q E s
theorem uy {T:String}{l:ah}{ol:Obj}{items:Array a9}{xs:List Str}{Q:a9->af->Prop}
  (src:S_ prog w A.in1.in1 T l ol items) (hol:s.heap.get? l=some ol) (hi:∀ (i:Nat) (v:a9),items[i]?=some v->∃ x t,xs[i]?=some x/\v=jp x t) (hx:xs.length=items.size) (hb:items.size + 1<iH)
  (h:∀ (h':br) (tk:Nat),kM w h' s.heap.objs.size (dq [] xs)->(∀ b o,s.heap.get? b=some o->h'.get? b=some o)->Q (.ref s.heap.objs.size) { s with heap:=h',toks:=tk }) :
  aq (aF prog w) A (call (.type "set") [.ref l]) Q E s:=by
 obtain ⟨c,tl,hmro⟩:=F.called_set.mro
 have hmade:=F.called_set.made
 have hsub:=F.called_set.sub
 refine xE (Dm ?_)
 show aq _ _ (callAny (.type "set") _) _ _ _
 refine ac ⟨Lb _ (by decide +kernel),fF F.entry_type_call ?_⟩
 rw [Around.under_plain (weight_type_call_type "set" [.ref l] []) rfl]
 have h1:=F.called_set.notType
 have h2:=F.called_set.canCreate
 have hct:=F.typeCall_set_1 (.ref l)
 repeat (any_goals (first | assumption | wp_step))
 refine nP (Me (.ref l) (E:=E) (Q₁:=fun obj s₁=>obj=.ref s.heap.objs.size/\s₁={ s with heap:=s.heap.push (fh w) }) ⟨rfl,rfl⟩) fun r s₁ hr=>?_
 cases r with
 | error e=>exact hr
 | ok fl =>
  cases fl with
  | ret obj =>
   obtain ⟨rfl,rfl⟩:=hr
   have hS:(s.heap.push (fh w)).get? s.heap.objs.size=some (fh w):=ay _ rfl
   have hT:P1 { s with heap:=s.heap.push (fh w) } (.ref s.heap.objs.size) "set":=⟨_,hS,rfl⟩
   have hli:=F.called_set.init.lookup
   have hbi:=F.called_set.init.bind (.ref s.heap.objs.size)
   repeat (any_goals (first | assumption | wp_step))
   refine nP (vt (R:=wants (fun r s₂=>r=.none/\∃ h' tk,s₂={ s with heap:=h',toks:=tk }/\kM w h' s.heap.objs.size (dq [] xs) /\
     (∀ b o,s.heap.get? b=some o->h'.get? b=some o)) E) F.called_set.init.plain F.entry_set_init (check_set_init_1 hT ?_)) fun r₂ s₂ hr₂=>?_
   ·obtain ⟨oc,od,odt,os'⟩:=ol
    obtain ⟨ty,s1,s2,nd,iter⟩:=src
    have ty:oc=.type T:=ty
    subst ty
    have hol':(s.heap.push (fh w)).get? l=some { cls:=.type T,dict:=od,data:=odt,slots:=os' }:=ag _ hol
    unfold ia.«set.__init__» noKeywords jk
    generalize hPI:xC=PI
    wp_walk
    subst hPI
    refine iter { s with heap:=s.heap.push (fh w) } _ _ hol' fun ob St W st=>?_
    have hlS:l<s.heap.objs.size:=ao hol
    refine a7 (wpAny_runValue ?_)
    have szp:(s.heap.push (fh w)).objs.size=s.heap.objs.size + 1:=db ..
    refine A2 (A:=A.in1.in1) W s.heap.objs.size (by rw [szp];simp only [bf,aU,or_false,not_or];exact ⟨aB (dU _),eU hlS⟩) xs hx hi hb items.size 0 _ [] (by omega) (cW _) (au _) st (AS w (ag _ hS)) fun h' tk kp hS'=>?_
    show aq _ _ _ _ _ _
    refine ac ?_
    show aq _ _ (ret dN) _ _ _
    refine ac ⟨rfl,h',tk,rfl,hS',fun b o e=>kp b o ?_ (ag _ (ag _ e))⟩
    have:=ao e
    rw [szp]
    simp only [bf,aU,or_false,not_or]
    exact ⟨aB this,aB (fc this)⟩
   ·cases r₂ with
    | error e=>exact hr₂
    | ok fl₂ =>
     cases fl₂ with
     | ret r =>
      obtain ⟨rfl,h',tk,rfl,hS',hk'⟩:=hr₂
      repeat (any_goals (first | assumption | wp_step))
      exact h _ _ hS' hk'
     | next=>exact hr₂.elim
     | brk=>exact hr₂.elim
     | cont=>exact hr₂.elim
  | next=>exact hr.elim
  | brk=>exact hr.elim
  | cont=>exact hr.elim
theorem Mf {l:ah}{o:Obj}{its:List a9} (hh:A.handled=none) (e0:o.cls=.type "list") (e1:∃ n,o.data=.seq its.toArray n):S_ prog w A "list" l o its.toArray :=
 ⟨e0,F.sub_list_set,F.sub_list_frozenset,by decide,fun s Q E e h=>iM ⟨_,e,e0,e1⟩
  (h _ _ (ui (by simpa using hh) _ l (aB (ao e)) its.toArray) ⟨⟨_,ay _ rfl,rfl,rfl⟩,⟨_,ag _ e,e0,e1⟩⟩)⟩
theorem PQ {l:ah}{o:Obj}{its:List a9} (hh:A.handled=none) (e0:o.cls=.type "tuple") (e1:∃ n,o.data=.seq its.toArray n):S_ prog w A "tuple" l o its.toArray :=
 ⟨e0,F.sub_tuple_set,F.sub_tuple_frozenset,by decide,fun s Q E e h=>fY ⟨_,e,e0,e1⟩
  (h _ _ (Walks.tuple (by simpa using hh) _ l (aB (ao e)) its.toArray) ⟨⟨_,ay _ rfl,rfl,rfl⟩,⟨_,ag _ e,e0,e1⟩⟩)⟩
end
end L2
end
section
namespace L2
open PySem PySem.Spec PyProof.Rows
namespace SI
theorem entry_iter:FX table "set.__iter__"=some ia.«frozenset.__iter__» :=
 FY (id':="frozenset.__iter__") (by kernel_rfl) rfl (by decide +kernel) (by kernel_rfl)
theorem slot_next:Slot "set_iterator" "__next__" "set_iterator.__next__":=by
 refine .of (owner:="set_iterator") (n:="__next__") ?_ ?_ ?_ ?_ ?_ ?_
 ·rw [Dn,uj];kernel_rfl
 ·decide +kernel
 ·decide +kernel
 ·decide +kernel
 ·first
   | exact .inl (by decide +kernel)
   | exact .inr (by decide +kernel)
 ·rw [FZ];kernel_rfl
theorem entry_next:FX table "set_iterator.__next__"=some ia.«set_iterator.__next__» :=
 entryFor_of_tree (by kernel_rfl)
theorem DL:Manifest.owners.lookup (String.ofList ['r','o','t','a','r','e','t','i','_','t','e','s'].reverse)=some Manifest.sig_set_iterator:=by kernel_rfl
theorem args_next (a:a9):argsOk "set_iterator.__next__" ⟨[a],[]⟩:=by
 unfold argsOk
 rw [signature?_of (id:="set_iterator.__next__") (n:=['_','_','t','x','e','n','_','_']) (o:=['r','o','t','a','r','e','t','i','_','t','e','s']) (by kernel_rfl) DL]
 kernel_rfl
theorem args_iter (a:a9):argsOk "set_iterator.__iter__" ⟨[a],[]⟩:=by
 unfold argsOk
 rw [signature?_of (id:="set_iterator.__iter__") (n:=['_','_','r','e','t','i','_','_']) (o:=['r','o','t','a','r','e','t','i','_','t','e','s']) (by kernel_rfl) DL]
 kernel_rfl
theorem entry_self:FX table "set_iterator.__iter__"=some ia.«dict_keyiterator.__iter__» :=
 FY (id':="dict_keyiterator.__iter__") (by kernel_rfl) rfl (by decide +kernel) (by kernel_rfl)
theorem slot_iter:Slot "set_iterator" "__iter__" "set_iterator.__iter__":=by
 refine .of (owner:="set_iterator") (n:="__iter__") ?_ ?_ ?_ ?_ ?_ ?_
 ·rw [Dn,uj];kernel_rfl
 ·decide +kernel
 ·decide +kernel
 ·decide +kernel
 ·first
   | exact .inl (by decide +kernel)
   | exact .inr (by decide +kernel)
 ·rw [FZ];kernel_rfl
end SI
end L2
end
section
namespace L2
open PySem PySem.Spec PyProof.Rows
theorem t4 {α:Type}:∀ {l:List α}{i:Nat} (h:i<l.length),(l[i]::l.eraseIdx i).Perm l
 | x::r,0,_=>.refl _
 | x::r,i + 1,h=>by
  have q:=t4 (l:=r) (i:=i) (by simpa using h)
  rw [List.getElem_cons_succ,List.eraseIdx_cons_succ]
  exact (List.Perm.swap _ _ _).trans (q.cons x)
section
variable {M:FJ}{A:bg}{E:a9->af->Prop}{s:af}
theorem J_ {src:Source}{n:Nat}{Q:Nat->af->Prop} (hn:n≠0) (h:∀ i d,i<n->Q i { s with drawn:=d }):aq M A (choose src n) Q E s :=
 fun _ _ _=>⟨hn,h _ _ (BH _ (Nat.pos_of_ne_zero hn))⟩
theorem uz {α:Type}:∀ (n:Nat) (xs:List α) (s:af) (Q:List α->af->Prop),n=xs.length->(∀ ys d,ys.Perm xs->Q ys { s with drawn:=d })->aq M A (drawOrder n xs) Q E s
 | 0,xs,s,Q,hn,h=>by
  obtain rfl:xs=[]:=List.length_eq_zero_iff.mp hn.symm
  exact ac (h [] s.drawn .nil)
 | n + 1,[],s,Q,hn,h=>by cases hn
 | n + 1,x::r,s,Q,hn,h=>by
  show aq M A (choose .order (x::r).length >>= _) Q E s
  refine a7 (J_ (by simp) fun i d hi=>?_)
  rw [aQ hi]
  refine a7 (uz n _ _ _ (by rw [AB hi];omega) fun ys d' p=>ac ?_)
  exact h _ _ ((p.cons _).trans (t4 hi))
end
theorem Ih {α:Type} (next:Nat->Nat):∀ (n k:Nat) (left:List α) (out:Array α),n=left.length->(zR next n k left out).toList.Perm (out.toList++left)
 | 0,k,left,out,hn=>by
  obtain rfl:left=[]:=List.length_eq_zero_iff.mp hn.symm
  rw [zR,bT]
 | n + 1,k,left,out,hn=>by
  have hl:next k % left.length<left.length:=BH _ (by omega)
  rw [zR,aQ hl]
  refine (Ih next n (k + 1) _ _ (by rw [AB hl];omega)).trans ?_
  rw [L9,ib]
  exact (t4 hl).append_left _
theorem vF {α:Type} (next:Nat->Nat) (xs:Array α):(oh next xs).toList.Perm xs.toList:=by
 have:=Ih next xs.size 0 xs.toList #[] (by simp)
 simpa [oh] using this
def BY (h:br) (I S:ah) (first:a9) (i n ep:Nat):Prop:=h.get? I=some { cls:=.type "set_iterator",data:=.fields #[first,.int i 0,.ref S,.int n 0,.int ep 0] }
section
variable {prog:aI}{w:bc}{A:bg}{E:a9->af->Prop}{s:af}{I S:ah}{es:Array (Int×a9)}{ep:Nat}{t:ej}{i n:Nat}{first:a9}
theorem BY.put {f f':a9}{j j':Nat}{k:Nat}{x:a9}{h:br} (hit:BY h I S f j n ep) (e:(#[f,.int j 0,.ref S,.int n 0,.int ep 0] : Array a9).setIfInBounds k x=#[f',.int j' 0,.ref S,.int n 0,.int ep 0]) :
  BY (h.update I (ed (·.setIfInBounds k x))) I S f' j' n ep:=by
 have q:=fQ (ed (·.setIfInBounds k x)) hit rfl
 unfold BY
 rw [q]
 show some ({ cls:=.type "set_iterator",data:=.fields ((#[f,.int j 0,.ref S,.int n 0,.int ep 0] : Array a9).setIfInBounds k x) }:Obj)=_
 rw [e]
theorem rg {Q:Option a9->af->Prop} (hit:BY s.heap I S first i n ep) (hS:cT w s.heap S es ep t) (hn:n=es.size)
  (h:aq (aF prog w) A.in1 (do
   if let .int slot _:=first then
    match <- Lq S slot.toNat i ep with
    | some (x,next) =>
     hG (.ref I) 0 (cf next)
     hG (.ref I) 1 (cf (i + 1))
     ret x
    | none=>hG (.ref I) 2 .none;s9 (<- sS (.type "StopIteration") [])
   else
    let some places <- seqItems? first | P2 "internal:set_iterator"
    match places[i]? with
    | some (.int place _) =>
     let x <- setNextDrawn S place.toNat ep
     hG (.ref I) 1 (cf (i + 1))
     ret x
    | some _=>P2 "internal:set_iterator"
    | none=>hG (.ref I) 0 (cf 0);hG (.ref I) 2 .none;s9 (<- sS (.type "StopIteration") []))
   (fun fin s'=>∃ v,fin=.done (.ret v)/\Q (some v) s') (fun e s'=>aq (aF prog w) A (F_ e (.type "StopIteration")) (fun b s''=>b=true/\Q none s'') E s') s) :
  aq (aF prog w) A (jr (.ref I)) Q E s:=by
 unfold jr
 refine a7 (iI ?_)
 refine cm (name:=gy "__next__") ⟨_,hit,rfl⟩ SI.slot_next ?_
 refine bZ SI.slot_next ⟨_,hit,rfl⟩ SI.entry_next ?_ (SI.args_next _)
 show aq _ _ (fieldsOf (.ref I) >>= _) _ _ s
 refine a7 (G0 hit rfl ?_)
 show aq _ _ (setEntries S >>= _) _ _ s
 refine a7 (wpAny_setEntries_of hS.at_ rfl hS.fits ?_)
 rw [if_neg (by rw [hn];simp)]
 refine bC h (fun fin s' z=>?_) fun e s' z=>?_
 ·obtain ⟨v,rfl,q⟩:=z
  exact ⟨v,rfl,ac q⟩
 ·refine a7 (bC z (fun b s'' ⟨hb,q⟩=>?_) fun _ _ z=>z)
  subst hb
  exact ac q
theorem BZ {B:bg}{Q:Option a9->af->Prop}{Q':Fin->af->Prop}{o:Obj}{vs:Array a9} (hh:B.handled=none) (ho:s.heap.get? I=some o) (hd:o.data=.fields vs) (hz:2<vs.size)
  (h:∀ h',HM I s.heap h'->Q none { s with heap:=h' }) :
  aq (aF prog w) B (do hG (.ref I) 2 .none;s9 (<- sS (.type "StopIteration") []))
   Q' (fun e s'=>aq (aF prog w) A (F_ e (.type "StopIteration")) (fun b s''=>b=true/\Q none s'') E s') s:=by
 refine a7 (f_ ho hd hz ?_)
 show aq _ _ (sS (.type "StopIteration") [] >>= _) _ _ _
 refine a7 ?_
 simp only [sS,P3]
 refine a7 (bU ?_ (by size_fits))
 refine a7 (m:=kL _ _) (e7 (a:=dN) ?_ ?_)
 ·first
   | rfl
   | (simp only [kL];rfl)
 refine bU ?_ (by size_fits)
 simp only [s9]
 refine a7 (Jv ?_)
 rw [hh]
 refine a7 (ac (P4 ?_))
 refine hJ (T:="StopIteration") (b:=true) ⟨_,ay _ rfl,rfl⟩ vv ⟨rfl,?_⟩
 exact h _ (((bI ..).extBut.push _).push _)
end
end L2
end
section
namespace L2
open PySem PySem.Spec PyProof.Rows
section
variable {prog:aI}{w:bc}{A:bg}{E:a9->af->Prop}{s:af}{I S:ah}{es:Array (Int×a9)}{ep:Nat}{t:ej}{i n:Nat}{first:a9}
theorem cT.keep {h h':br} (x:cT w h S es ep t) (k:∀ o,h.get? S=some o->h'.get? S=some o):cT w h' S es ep t:=⟨k _ x.at_,x.txt,x.nd,x.few,x.fits,x.led,x.pl⟩
theorem B_ {Q:a9->af->Prop} (hit:BY s.heap I S first i n ep) (h:Q (.ref I) s):aq (aF prog w) A (xC (.ref I)) Q E s:=by
 refine zS ⟨_,hit,rfl⟩ SI.slot_iter (bZ SI.slot_iter ⟨_,hit,rfl⟩ SI.entry_self ?_ (SI.args_iter _))
 show aq _ _ (ret (.ref I)) _ _ s
 exact ac ⟨_,rfl,"set_iterator",_,⟨_,hit,rfl⟩,SI.slot_next.lookup,h⟩
theorem fq {Q:Bool->af->Prop}{B:bg} (h:Q (w.params.followText "set-order") s):aq (aF prog w) B setsByText Q E s:=by
 unfold setsByText
 exact a7 (g_ (ac h))
theorem Mg {B:bg}{Q':Fin->af->Prop}{x:a9}{nx:Nat}{E':a9->af->Prop} (hit:BY s.heap I S first i n ep)
  (h:∀ h',BY h' I S (.int nx 0) (i + 1) n ep->bD I s.heap h'->Q' (.done (.ret x)) { s with heap:=h' }) :
  aq (aF prog w) B (do hG (.ref I) 0 (cf nx);hG (.ref I) 1 (cf (i + 1));ret x) Q' E' s:=by
 refine a7 (f_ hit rfl (by simp) ?_)
 have h1:BY (s.heap.update I (ed (·.setIfInBounds 0 (cf nx)))) I S (.int nx 0) i n ep:=hit.put (by simp [cf])
 refine a7 (f_ h1 rfl (by simp) ?_)
 have h2:BY ((s.heap.update I (ed (·.setIfInBounds 0 (cf nx)))).update I (ed (·.setIfInBounds 1 (cf (i + 1))))) I S (.int nx 0) (i + 1) n ep:=h1.put (by simp [cf])
 exact ac (h _ h2 ((bI ..).trans (bI ..)))
theorem vG (f:Nat->Nat) (es:Array (Int×a9)):(oh f es).size=es.size:=by
 rw [<- ar,(vF f es).length_eq,ar]
theorem Gq (hh:A.handled=none) (hw:w.params.followText "set-order"=true) (hne:S≠I) :
  La prog w A I [I,S] [I] es.size (fun i v=>((oh (w.params.setOrder S ep) es).toList.map (·.2))[i]?=some v) (fun i h=>BY h I S (.int 0 0) i es.size ep/\cT w h S es ep t) where
 sub:=fun b hb=>by simp at hb;simp [hb]
 frame:=fun i h h' st k=>⟨k I (by simp) _ st.1,st.2.keep fun o e=>k S (by simp) o e⟩
 item:=fun i s Q E hi st hQ=>by
  obtain ⟨hit,hS⟩:=st
  refine rg hit hS rfl ?_
  dsimp only
  unfold Lq setWalk
  refine a7 (a7 (bA hS.at_ rfl hS.fits (a7 (fq ?_))))
  rw [hw]
  simp only [if_true,bne_self_eq_false,bY,if_false]
  refine a7 (a7 (bA hS.at_ rfl hS.fits (a7 (fq ?_))))
  rw [hw]
  simp only [if_true]
  refine a7 (g_ (ac (ac ?_)))
  have hi':i<(oh (w.params.setOrder S ep) es).size:=by rw [vG];exact hi
  show aq _ _ (match ((oh (w.params.setOrder S ep) es)[i]?).map fun e=>(e.2,(0:Int).toNat) with
   | some (x,next)=>do hG (.ref I) 0 (cf next);hG (.ref I) 1 (cf (i + 1));ret x
   | none=>do hG (.ref I) 2 .none;s9 (<- sS (.type "StopIteration") [])) _ _ s
  rw [getElem?_pos _ i hi']
  refine Mg (nx:=0) hit fun h' h1 sb=>⟨_,rfl,hQ _ h' s.toks ?_ ⟨h1,hS.keep fun o e=>(sb.2 S hne).trans e⟩ fun b o hb e=>(sb.2 b fun z=>hb (by simp [z])).trans e⟩
  simp [hi']
 done:=fun s Q E st hQ=>by
  obtain ⟨hit,hS⟩:=st
  refine rg hit hS rfl ?_
  dsimp only
  unfold Lq setWalk
  refine a7 (a7 (bA hS.at_ rfl hS.fits (a7 (fq ?_))))
  rw [hw]
  simp only [if_true,bne_self_eq_false,bY,if_false]
  refine a7 (a7 (bA hS.at_ rfl hS.fits (a7 (fq ?_))))
  rw [hw]
  simp only [if_true]
  refine a7 (g_ (ac (ac ?_)))
  show aq _ _ (match ((oh (w.params.setOrder S ep) es)[es.size]?).map fun e=>(e.2,(0:Int).toNat) with
   | some (x,next)=>do hG (.ref I) 0 (cf next);hG (.ref I) 1 (cf (es.size + 1));ret x
   | none=>do hG (.ref I) 2 .none;s9 (<- sS (.type "StopIteration") [])) _ _ s
  rw [getElem?_neg _ es.size (by rw [vG];exact cj _)]
  exact BZ (by simpa using hh) hit rfl (by simp) fun h' eb=>hQ h' s.toks fun b o hb e=>eb b o (fun z=>hb (by simp [z])) e
 self:=fun i s Q E st h=>B_ st.1 h
inductive WO (h:br) (T:ah) (ps:List Nat):Prop
 | mk (o k:_) (h0:h.get? T=some o) (h1:o.data=.seq (ps.map fun (p:Nat)=>m9 (p:Int) 0).toArray k):WO h T ps
theorem DM (hh:A.handled=none) {T:ah}{ps:List Nat} (hne:S≠I) (hT:T≠I) (hp:∀ p∈ps,p<es.size) (hn:ps.length=es.size) :
  La prog w A I [I,S,T] [I] es.size (fun i v=>(ps.map fun p=>(es.getD p (0,.none)).2)[i]?=some v) (fun i h=>BY h I S (.ref T) i es.size ep/\cT w h S es ep t/\WO h T ps) where
 sub:=fun b hb=>by simp at hb;simp [hb]
 frame:=fun i h h' st k=>⟨k I (by simp) _ st.1,st.2.1.keep fun o e=>k S (by simp) o e,let ⟨o,q,e,d⟩:=st.2.2;⟨o,q,k T (by simp) o e,d⟩⟩
 item:=fun i s Q E hi st hQ=>by
  obtain ⟨hit,hS,o,q,e,d⟩:=st
  refine rg hit hS rfl ?_
  dsimp only
  refine a7 (el e d ?_)
  have hi':i<ps.length:=by omega
  dsimp only
  rw [show ((ps.map fun (p:Nat)=>m9 (p:Int) 0).toArray)[i]?=some (.int (ps[i] : Nat) 0) by simp [hi']]
  dsimp only
  unfold setNextDrawn
  refine a7 (a7 (bA hS.at_ rfl hS.fits ?_))
  have hlt:=hp ps[i] (gH hi')
  simp only [bne_self_eq_false,bY,if_false,jO]
  rw [getElem?_pos es ps[i] hlt]
  refine ac ?_
  refine a7 (f_ hit rfl (by simp) ?_)
  have h1:BY (s.heap.update I (ed (·.setIfInBounds 1 (cf (i + 1))))) I S (.ref T) (i + 1) es.size ep:=hit.put (by simp [cf])
  have sb:bD I s.heap (s.heap.update I (ed (·.setIfInBounds 1 (cf (i + 1))))):=bI ..
  refine ac ⟨_,rfl,hQ _ _ s.toks ?_ ⟨h1,hS.keep fun o e=>(sb.2 S hne).trans e,o,q,(sb.2 T hT).trans e,d⟩ fun b o hb e=>(sb.2 b fun z=>hb (by simp [z])).trans e⟩
  simp [hi',hlt]
 done:=fun s Q E st hQ=>by
  obtain ⟨hit,hS,o,q,e,d⟩:=st
  refine rg hit hS rfl ?_
  dsimp only
  refine a7 (el e d ?_)
  dsimp only
  rw [show ((ps.map fun (p:Nat)=>m9 (p:Int) 0).toArray)[es.size]?=none by simp [<- hn]]
  dsimp only
  refine a7 (f_ hit rfl (by simp) ?_)
  have h1:BY (s.heap.update I (ed (·.setIfInBounds 0 (cf 0)))) I S (.int 0 0) es.size es.size ep:=hit.put (by simp [cf])
  have sb:bD I s.heap (s.heap.update I (ed (·.setIfInBounds 0 (cf 0)))):=bI ..
  exact BZ (s:={ s with heap:=s.heap.update I (ed (·.setIfInBounds 0 (cf 0))) }) (by simpa using hh) h1 rfl (by simp) fun h' eb=>hQ h' s.toks fun b o hb e=>eb b o (fun z=>hb (by simp [z])) ((sb.2 b fun z=>hb (by simp [z])).trans e)
 self:=fun i s Q E st h=>B_ st.1 h
theorem Mh {p:Array Nat}{j:Nat} (h:p=#[j]):i0 p 0=0:=by subst h;simp [i0,zT]
theorem Mi {p:Array Nat}{j:Nat} (h:p=#[j]):i0 p (j + 1)=1:=by subst h;simp [i0,zT]
theorem K0 {t : ej} (h : t.fits 1 = true) : ∃ j, t.place = #[j] := by
  have h1 : t.place.size = 1 := by
    simp only [my, aW, beq_iff_eq] at h; exact h.1
  exact ⟨t.place[0], by apply Array.ext; · simp [h1]
                        · intro i h2 h3; have : i = 0 := by omega
                          subst this; simp⟩
theorem T2 {B:bg}{k:Unit->Sem (Option (a9×Nat))}{Q:Option (a9×Nat)->af->Prop} (hl:t.led=true) (h:aq (aF prog w) B (k ()) Q E s) :
  aq (aF prog w) B ((if (!t.led && !es.isEmpty)=true then P2 "set:maker-not-led" else pure ()) >>= k) Q E s:=by
 rw [if_neg (by rw [hl];simp)]
 exact a7 (ac h)
theorem uA {B:bg}{slot g:Nat}{Q:Option (a9×Nat)->af->Prop} (hw:w.params.followText "set-order"=false) (hS:cT w s.heap S es ep t) (h1:es.size<=1)
  (h:Q (match es[i0 t.place slot]?,t.place[i0 t.place slot]? with | some (_,x),some j=>some (x,j + 1) | _,_=>none) s):aq (aF prog w) B (Lq S slot g ep) Q E s:=by
 unfold Lq
 refine a7 (bA hS.at_ rfl hS.fits (a7 (fq ?_)))
 rw [hw]
 simp only [bY,if_false]
 split
 ·rename_i z
  exact absurd (show (!t.plain && decide (es.size > 1))=true from z) (by simp;omega)
 ·have hl:t.led=true:=by rw [hS.led,hw];rfl
  exact T2 hl (ac h)
theorem K1 (hh:A.handled=none) (hw:w.params.followText "set-order"=false) (hne:S≠I) (h1:es.size<=1) :
  La prog w A I [I,S] [I] es.size (fun i v=>(es.toList.map (·.2))[i]?=some v)
   (fun i h=>∃ k,BY h I S (.int (k:Nat) 0) i es.size ep/\cT w h S es ep t/\(i=0->k=0)/\(i=1->es.size=1->∃ j,t.place=#[j]/\k=j + 1)) where
 sub:=fun b hb=>by simp at hb;simp [hb]
 frame:=fun i h h' st k=>let ⟨c,a1,a2,a3⟩:=st;⟨c,k I (by simp) _ a1,a2.keep fun o e=>k S (by simp) o e,a3⟩
 item:=fun i s Q E hi st hQ=>by
  obtain ⟨c,hit,hS,c0,c1⟩:=st
  have hi0:i=0:=by omega
  subst hi0
  obtain rfl:c=0:=c0 rfl
  have e1:es.size=1:=by omega
  obtain ⟨j,hj⟩:=K0 (t:=t) (by rw [<- e1];exact hS.fits)
  refine rg hit hS rfl ?_
  dsimp only
  refine a7 (uA hw hS h1 ?_)
  rw [show (((0:Nat):Int).toNat)=0 from rfl,Mh hj,getElem?_pos es 0 (by omega),hj]
  refine Mg (nx:=j + 1) hit fun h' h1 sb=>⟨_,rfl,hQ _ h' s.toks ?_ ⟨j + 1,h1,hS.keep fun o e=>(sb.2 S hne).trans e,by simp,fun _ _=>⟨j,hj,rfl⟩⟩ fun b o hb e=>(sb.2 b fun z=>hb (by simp [z])).trans e⟩
  simp [e1]
 done:=fun s Q E st hQ=>by
  obtain ⟨c,hit,hS,c0,c1⟩:=st
  refine rg hit hS rfl ?_
  dsimp only
  refine a7 (uA hw hS h1 ?_)
  have hz:es[i0 t.place ((c:Nat):Int).toNat]?=none:=by
   rcases Nat.eq_zero_or_pos es.size with z | z
   ·rw [getElem?_neg];omega
   ·have e1:es.size=1:=by omega
    obtain ⟨j,hj,hc⟩:=c1 e1 e1
    rw [hc,show (((j + 1:Nat):Int).toNat)=j + 1 from rfl,Mi hj,getElem?_neg];omega
  rw [hz]
  exact BZ (by simpa using hh) hit rfl (by simp) fun h' eb=>hQ h' s.toks fun b o hb e=>eb b o (fun z=>hb (by simp [z])) e
 self:=fun i s Q E st h=>let ⟨_,a1,_⟩:=st;B_ a1 h
theorem Gr {Q:a9->af->Prop} (hh:A.handled=none) (hS:cT w s.heap S es ep t)
  (h:∀ (I:ah) (fp:List ah) (ord:List a9) (St:Nat->br->Prop) (h':br) (d:Drawn),s.heap.objs.size<=I->(∀ b∈fp,b=S\/s.heap.objs.size<=b)->(∀ b∈fp,b<h'.objs.size)->ord.Perm (es.toList.map (·.2))->(∀ B:bg,B.handled=none->La prog w B I fp [I] ord.length (fun i v=>ord[i]?=some v) St)->St 0 h' ->
   (∀ b o,s.heap.get? b=some o->h'.get? b=some o)->P1 { s with heap:=h',drawn:=d } (.ref I) "set_iterator"->Q (.ref I) { s with heap:=h',drawn:=d }):aq (aF prog w) A (xC (.ref S)) Q E s:=by
 have hT:s.TypeIs (.ref S) "set":=⟨_,hS.at_,rfl⟩
 have hlt:=ao hS.at_
 refine zS hT F.slot_set_iter (bZ F.slot_set_iter hT SI.entry_iter ?_ (F.args_set_iter_1 _))
 show aq _ _ (sU S >>= _) _ _ s
 unfold sU
 refine a7 (a7 (wpAny_setEntries_of hS.at_ rfl hS.fits (ac ?_)))
 show aq _ _ (setDrawn S >>= _) _ _ s
 unfold setDrawn
 refine a7 (a7 (bA hS.at_ rfl hS.fits (a7 (fq (ac ?_)))))
 have fin:∀ (first:a9) (fp:List ah) (ord:List a9) (St:Nat->br->Prop) (h':br) (d:Drawn),(∀ b o,s.heap.get? b=some o->h'.get? b=some o)->s.heap.objs.size<=h'.objs.size ->
   (∀ b∈fp,b=S\/b=h'.objs.size\/(s.heap.objs.size<=b/\b<h'.objs.size))->ord.Perm (es.toList.map (·.2))->(∀ B:bg,B.handled=none->La prog w B h'.objs.size fp [h'.objs.size] ord.length (fun i v=>ord[i]?=some v) St) ->
   (∀ h'':br,(∀ b o,h'.get? b=some o->h''.get? b=some o)->BY h'' h'.objs.size S first 0 es.size ep->St 0 h'') ->
   aq (aF prog w) A.in1 (setEpoch S >>= fun e=>newFields "set_iterator" [first,cf 0,.ref S,cf es.size,cf e] >>= fun x=>ret x) (fun fin s'=>∃ v,fin=.done (.ret v)/\∃ T' r,s'.TypeIs v T'/\xF (.type T') "__next__"=pure (some r)/\Q v s') E { s with heap:=h',drawn:=d }:=by
  intro first fp ord St h' d kp hsz hfp pm W st
  have hS':cT w h' S es ep t:=hS.keep fun o e=>kp S o e
  refine a7 (wpAny_setEpoch_of (s:={ s with heap:=h',drawn:=d }) hS'.at_ rfl hS'.fits ?_)
  refine a7 (bU ?_ (by size_fits))
  have gp:∀ b o,h'.get? b=some o->(h'.push { cls:=.type "set_iterator",dict:=none,data:=.fields #[first,cf 0,.ref S,cf es.size,cf ep] }).get? b=some o:=fun b o e=>ag _ e
  have it:(h'.push { cls:=.type "set_iterator",dict:=none,data:=.fields #[first,cf 0,.ref S,cf es.size,cf ep] }).get? h'.objs.size=some { cls:=.type "set_iterator",dict:=none,data:=.fields #[first,cf 0,.ref S,cf es.size,cf ep] }:=ay _ rfl
  refine ac ⟨_,rfl,"set_iterator",_,⟨_,it,rfl⟩,SI.slot_next.lookup,h h'.objs.size fp ord St _ d hsz (fun b hb=>?_) (fun b hb=>?_) pm W (st _ gp it) (fun b o e=>gp b o (kp b o e)) ⟨_,it,rfl⟩⟩
  ·rcases hfp b hb with z | z | z
   ·exact .inl z
   ·exact .inr (by rw [z];exact hsz)
   ·exact .inr z.1
  ·rw [db]
   rcases hfp b hb with z | z | z
   ·rw [z];exact fc (aK hlt hsz)
   ·rw [z];exact dU _
   ·exact fc z.2
 dsimp only
 split
 ·rename_i z
  have z:(!w.params.followText "set-order" && (!t.plain && decide (es.size > 1)))=true:=z
  refine a7 (uz _ _ _ _ (by simp) fun ys d pm=>?_)
  simp only [P3]
  have hyl:ys.length=es.size:=by have:=pm.length_eq;rwa [f9] at this
  have zl:=fE hS.few
  refine a7 (bU ?_ (by show (ys.map fun (i:Nat)=>cf i).toArray.size<=sizeLine;simp;omega))
  have tp:∀ ob:Obj,(s.heap.push ob).objs.size=s.heap.objs.size + 1:=fun ob=>db ..
  refine fin (.ref s.heap.objs.size) [s.heap.objs.size + 1,S,s.heap.objs.size] (ys.map fun p=>(es.getD p (0,.none)).2)
   (fun i h=>BY h (s.heap.objs.size + 1) S (.ref s.heap.objs.size) i es.size ep/\cT w h S es ep t/\WO h s.heap.objs.size ys) (s.heap.push _) d
   (fun b o e=>ag _ e) (by rw [tp];exact iK _) (fun b hb=>?_) ?_ (fun B hB=>?_) (fun h'' k it=>⟨by rw [tp] at it;exact it,hS.keep fun o e=>k S o (ag _ e),_,_,k _ _ (ay _ rfl),rfl⟩)
  ·simp only [bf,aU,or_false] at hb
   rcases hb with y | y | y
   ·exact .inr (.inl (by rw [tp];exact y))
   ·exact .inl y
   ·exact .inr (.inr ⟨by rw [y];exact au _,by rw [tp,y];exact dU _⟩)
  ·refine (pm.map _).trans (.of_eq ?_)
   apply xj
   ·simp
   ·intro k h1 h2
    have:k<es.size:=by simpa using h1
    simp [this]
  ·rw [al,hyl,tp]
   exact DM hB (aB (fc hlt)) (aB (dU _)) (fun p hp=>List.mem_range.mp (pm.mem_iff.mp hp)) hyl
 ·rename_i z
  have z:¬ (!w.params.followText "set-order" && (!t.plain && decide (es.size > 1)))=true:=z
  refine a7 (ac ?_)
  have hne:S≠s.heap.objs.size:=aB hlt
  cases hw:w.params.followText "set-order" with
  | true =>
   refine fin (cf 0) [s.heap.objs.size,S] ((oh (w.params.setOrder S ep) es).toList.map (·.2)) (fun i h=>BY h s.heap.objs.size S (.int 0 0) i es.size ep/\cT w h S es ep t) s.heap s.drawn (fun _ _ e=>e) (au _) (fun b hb=>?_) ((vF _ es).map _) (fun B hB=>?_) (fun h'' k it=>⟨it,hS.keep fun o e=>k S o e⟩)
   ·simp only [bf,aU,or_false] at hb
    exact hb.elim (fun z=>.inr (.inl z)) .inl
   ·rw [al,ar,vG]
    exact Gq hB hw hne
  | false =>
   have h1:es.size<=1:=by
    rw [hw] at z
    rcases hS.pl with y | y
    ·omega
    ·rw [y] at z;simpa using z
   refine fin (cf 0) [s.heap.objs.size,S] (es.toList.map (·.2)) (fun i h=>∃ k,BY h s.heap.objs.size S (.int (k:Nat) 0) i es.size ep/\cT w h S es ep t/\(i=0->k=0)/\(i=1->es.size=1->∃ j,t.place=#[j]/\k=j + 1)) s.heap s.drawn (fun _ _ e=>e) (au _) (fun b hb=>?_) (.refl _) (fun B hB=>?_) (fun h'' k it=>⟨0,it,hS.keep fun o e=>k S o e,fun _=>rfl,fun y=>by cases y⟩)
   ·simp only [bf,aU,or_false] at hb
    exact hb.elim (fun z=>.inr (.inl z)) .inl
   ·rw [al,ar]
    exact K1 hB hw hne h1
end
end L2
end
section
namespace L2
open PySem PySem.Spec PyProof.Rows
section
variable {prog:aI}{w:bc}{A:bg}{E:a9->af->Prop}{s:af}{S:ah}{es:Array (Int×a9)}{ep:Nat}{t:ej}
theorem DN {Q:List a9->af->Prop} (hh:A.handled=none) (hS:cT w s.heap S es ep t)
  (h:∀ (ord:List a9) (h':br) (d:Drawn) (tk:Nat),ord.Perm (es.toList.map (·.2))->(∀ b o,s.heap.get? b=some o->h'.get? b=some o)->s.heap.objs.size<=h'.objs.size->Q ord { s with heap:=h',drawn:=d,toks:=tk }) :
  aq (aF prog w) A (collect (.ref S)) Q E s:=by
 have hlt:=ao hS.at_
 unfold collect
 refine a7 (wpAny_runValue (fF F.entry_proto_collect ?_))
 rw [eR F.plain_proto_collect _]
 show aq _ A.in1 (newList [] >>= fun l=>again (.builtin "list.__iadd__" ⟨[l,.ref S],[]⟩)) _ _ s
 refine a7 (bU ?_)
 refine ac ⟨md F.plain_list_iadd _,fF F.entry_list_iadd ?_⟩
 rw [eR F.plain_list_iadd _]
 let s1:af:={ s with heap:=s.heap.push { cls:=.type "list",data:=.seq ([] : List a9).toArray } }
 have sz1:s1.heap.objs.size=s.heap.objs.size + 1:=db ..
 have at1:s1.heap.get? s.heap.objs.size=some { cls:=.type "list",data:=.seq ([] : List a9).toArray }:=ay _ rfl
 have hS1:cT w s1.heap S es ep t:=hS.keep fun o e=>ag _ e
 show aq _ A.in1 (uk (.ref s.heap.objs.size) (.ref S) (.ref s.heap.objs.size)) _ _ s1
 have hT1:s1.TypeIs (.ref S) "set":=⟨_,hS1.at_,rfl⟩
 unfold uk
 refine a7 (kJ hT1 ?_)
 have e1:wl (.ref s.heap.objs.size) (.ref S)=false:=by simp [wl,eU hlt]
 have e2:(iq "set" == iq "list")=false:=by decide
 have e3:(iq "set" == iq "tuple")=false:=by decide
 simp only [e1,e2,e3,Bool.or_false,bY,if_false]
 refine a7 (Gr (A:=A.in1) (by simpa using hh) hS1 fun I fp ord St h' d hI hfp hfl pm W st kp tI=>?_)
 let s2:af:={ s1 with heap:=h',drawn:=d }
 have hS2:cT w s2.heap S es ep t:=hS1.keep fun o e=>kp S o e
 have hT2:s2.TypeIs (.ref S) "set":=⟨_,hS2.at_,rfl⟩
 refine a7 (cp ?_)
 unfold Builtin.List.listLengthHint
 refine a7 (wpAny_specialOf (s:=s2) hT2 F.slot_set_len.lookup ?_)
 dsimp only
 rw [show splitId "set.__len__"=some ("set","__len__") from by decide +kernel]
 dsimp only
 refine a7 (hJ (b:=true) (s:=s2) hT2 (by rw [FZ];kernel_rfl) ?_)
 rw [if_neg (by decide),if_pos (by decide)]
 refine a7 (kJ (s:=s2) hT2 (ac ?_))
 rw [if_pos (by decide)]
 refine a7 (fX ?_)
 have nS:s.heap.objs.size∉fp:=fun z=>by
  rcases hfp _ z with q | q
  ·exact absurd hlt (by rw [<- q];exact cj _)
  ·rw [sz1] at q;exact absurd q (Nat.not_succ_le_self _)
 have at2:s2.heap.get? s.heap.objs.size=some { cls:=.type "list",data:=.seq ([] : List a9).toArray }:=kp _ _ at1
 refine a7 ?_
 show aq _ A.in1 (updateSeq s.heap.objs.size (·.push .none) >>= fun _=>updateSeq s.heap.objs.size (·.pop)) _ _ s2
 refine a7 (wpAny_updateSeq at2 rfl ?_)
 have at3:=fQ (kK (·.push dN)) at2 rfl
 refine wpAny_updateSeq at3 rfl ?_
 have at4:=fQ (kK (·.pop)) at3 rfl
 have oth:∀ b o,b≠s.heap.objs.size->s2.heap.get? b=some o->((s2.heap.update s.heap.objs.size (kK (·.push dN))).update s.heap.objs.size (kK (·.pop))).get? b=some o :=
  fun b o hb e=>(q9 _ _ (cZ hb)).trans ((q9 _ _ (cZ hb)).trans e)
 have zl:ord.length<=sizeLine:=by rw [pm.length_eq,al,ar];exact fE hS.few
 have W1:=W A.in1 (by simpa using hh)
 refine ac ⟨md F.plain_extend_loop _,codeAny_extend_loopS (A:=A) W1.toS zl _ nS _ ord.length 0 { s2 with heap:=(s2.heap.update s.heap.objs.size (kK (·.push dN))).update s.heap.objs.size (kK (·.pop)) } _ _ rfl (cW _) (W1.frame 0 _ _ st fun b hb o e=>oth b o (fun z=>nS (z ▸ hb)) e) at4 (ItemsOf.nil _) fun s' acc' c' hm hS' hacc=>?_⟩
 show aq _ A (load s.heap.objs.size >>= _) _ _ s'
 refine a7 (wpAny_load hS' (ac ?_))
 have hacc':acc'.toList=ord:=by
  apply List.ext_getElem?
  intro j
  rw [dC]
  by_cases hj:j<acc'.size
  ·have:=hacc.2 j acc'[j] (by simp [hj])
   rw [this];simp [hj]
  ·rw [getElem?_neg acc' j hj,cD (by rw [<- hacc.1];omega)]
 rw [hacc']
 obtain ⟨h3,g3,d3,t3,o3⟩:=s'
 obtain rfl:g3=s.gens:=hm.gens
 obtain rfl:d3=d:=hm.drawn
 obtain rfl:o3=s.os:=hm.os
 have old:∀ b o,s.heap.get? b=some o->h3.get? b=some o:=fun b o e=>by
  have hb:=ao e
  refine hm.heap b o ?_ (oth b o (aB hb) (kp b o (ag _ e)))
  simp only [bf,aU,or_false,not_or]
  exact ⟨aB hb,aB (aK hb (by have q:=hI;rw [sz1] at q;exact Nat.le_of_succ_le q))⟩
 refine h ord h3 _ t3 pm old ?_
 have:=ao (show h3.get? s.heap.objs.size=some _ from hS')
 exact bL this
theorem DO {x:a9}{Q:a9->af->Prop} (hc:aq (aF prog w) A.in1 (collect x) (fun vs s1=>∃ ss,sV vs ss/\vs.length<64 /\
   ∀ (h':br) (vs':List a9) (ss':List Str) (e:Nat),(∀ b o,s1.heap.get? b=some o->h'.get? b=some o)->h'.get? s1.heap.objs.size=some (seqObj "list" vs'.toArray e)->sV vs' ss'->ss'.Perm ss->sortedS ss'=true ->
    Q (.ref s1.heap.objs.size) { s1 with heap:=h' }) E s):aq (aF prog w) A (call (.builtin "sorted") [x]) Q E s:=by
 refine AC kind_sorted plain_sorted entry_sorted (args_sorted1 _) ?_
 unfold ia.«sorted»
 refine a7 (m:=checkCount "sorted" 1 1 _) (ac ?_)
 refine a7 (bC hc (fun vs s1 z=>?_) fun _ _ z=>z)
 obtain ⟨ss,hss,h64,hq⟩:=z
 refine a7 (wpAny_newList ?_)
 have at1:(s1.heap.push (seqObj "list" vs.toArray 0)).get? s1.heap.objs.size=some (seqObj "list" vs.toArray 0):=ay _ rfl
 show aq _ _ _ _ _ { s1 with heap:=s1.heap.push (seqObj "list" vs.toArray 0) }
 refine a7 (cp (bZ slot_list_sort ⟨_,at1,rfl⟩ entry_list_sort (list_sort_treeK strKind_oneLt at1 hss.keysOf (fun v₁ v₂ bW e=>keyKind_strs (by rw [<- e];exact hss)) h64 fun st' a1 a2=>⟨_,rfl,?_⟩) (args_list_sort _)))
 obtain ⟨ss',p1,p2,p3⟩:=sorted_out_str hss a1 a2
 obtain ⟨e,at2⟩:=sortedHeap_at (out:=(arrOf st').map (·.2)) at1
 refine ac ⟨_,rfl,hq _ _ ss' e (fun b o q=>?_) at2 p1 p2 p3⟩
 have hb:=ao q
 rw [sortedHeap_old (aB hb) (by rw [db];exact fc hb)]
 exact ag _ q
end
end L2
end
section
namespace L2
open PySem PySem.Spec PyProof.Rows
def pR (x y:Str):Bool:=decide (x.cps.toList<y.cps.toList)
def Gs (x:Str):List Str->List Str
 | []=>[x]
 | y::r=>if pR y x then y::Gs x r else x::y::r
def jx:List Str->List Str
 | []=>[]
 | x::r=>Gs x (jx r)
theorem vH (x:Str):∀ l,(Gs x l).Perm (x::l)
 | []=>.refl _
 | y::r=>by
  rw [Gs]
  split
  ·exact ((vH x r).cons y).trans (.swap ..)
  ·exact .refl _
theorem gP:∀ l,(jx l).Perm l
 | []=>.refl _
 | x::r=>(vH x _).trans ((gP r).cons x)
theorem t5 (x:Str):pR x x=false:=decide_eq_false (List.lt_irrefl _)
theorem rh {x y z:Str} (h1:pR x y=true) (h2:pR y z=true):pR x z=true :=
 decide_eq_true (List.lt_trans (of_decide_eq_true h1) (of_decide_eq_true h2))
theorem xo {x y:Str} (h1:pR x y=false) (h2:pR y x=false):x=y:=by
 have h1:¬ x.cps.toList<y.cps.toList:=of_decide_eq_false h1
 have h2:¬ y.cps.toList<x.cps.toList:=of_decide_eq_false h2
 have:x.cps.toList=y.cps.toList:=List.le_antisymm (List.not_lt.mp h2) (List.not_lt.mp h1)
 cases x;cases y
 exact congrArg Str.mk (Array.toList_inj.mp this)
abbrev OX (l:List Str):Prop:=l.Pairwise fun a b=>pR b a=false
theorem Mj (x:Str):∀ l,OX l->OX (Gs x l)
 | [],_=>by simp [Gs,OX]
 | y::r,h=>by
  obtain ⟨h1,h2⟩:=List.pairwise_cons.mp h
  rw [Gs]
  split
  ·rename_i hy
   refine List.pairwise_cons.mpr ⟨fun z hz=>?_,Mj x r h2⟩
   rcases List.mem_cons.mp ((vH x r).mem_iff.mp hz) with e | e
   ·subst e
    cases q:pR z y with
    | false=>rfl
    | true=>exact absurd (rh q hy) (by rw [t5];decide)
   ·exact h1 z e
  ·rename_i hy
   have hy:pR y x=false:=by simpa using hy
   refine List.pairwise_cons.mpr ⟨fun z hz=>?_,h⟩
   rcases List.mem_cons.mp hz with e | e
   ·subst e;exact hy
   ·cases q:pR z x with
    | false=>rfl
    | true =>
     have hzy:=h1 z e
     cases q2:pR x y with
     | true=>rw [rh q q2] at hzy;cases hzy
     | false=>rw [<- xo hy q2,hzy] at q;cases q
theorem qu:∀ l,OX (jx l)
 | []=>.nil
 | x::r=>Mj x _ (qu r)
theorem uB:∀ (p:Str) (l:List Str),risingS p l=true->OX (p::l)
 | p,[],_=>by simp [OX]
 | p,x::r,h=>by
  rw [risingS,aW] at h
  obtain ⟨h1,h2⟩:=h
  have h1:pR x p=false:=by
   rw [ltCps_eq] at h1
   simpa [pR] using h1
  have ih:=uB x r h2
  refine List.pairwise_cons.mpr ⟨fun z hz=>?_,ih⟩
  rcases List.mem_cons.mp hz with e | e
  ·rw [e];exact h1
  ·have hzx:=(List.pairwise_cons.mp ih).1 z e
   cases q:pR z p with
   | false=>rfl
   | true =>
    cases q2:pR p x with
    | true=>rw [rh q q2] at hzx;cases hzx
    | false=>rw [xo q2 h1,hzx] at q;cases q
theorem C0:∀ (l:List Str),sortedS l=true->OX l
 | [],_=>.nil
 | x::r,h=>uB x r h
theorem AT:∀ {l l':List Str},l.Perm l'->OX l->OX l'->l=l'
 | [],l',p,_,_=>by rw [List.nil_perm.mp p]
 | x::r,[],p,_,_=>by have:=p.length_eq;simp at this
 | x::r,y::r',p,h,h'=>by
  obtain ⟨a1,a2⟩:=List.pairwise_cons.mp h
  obtain ⟨b1,b2⟩:=List.pairwise_cons.mp h'
  have e:x=y:=by
   have hx:x∈y::r':=p.mem_iff.mp ap
   have hy:y∈x::r:=p.mem_iff.mpr ap
   rcases List.mem_cons.mp hx with e | e
   ·exact e
   ·rcases List.mem_cons.mp hy with e' | e'
    ·exact e'.symm
    ·exact xo (b1 x e) (a1 y e')
  subst e
  rw [AT (List.Perm.cons_inv p) a2 b2]
theorem DP {l l':List Str} (p:l'.Perm l) (h:sortedS l'=true):l'=jx l:=AT (p.trans (gP l).symm) (C0 _ h) (qu l)
theorem vI {l:List Str} (h:OX l) (nd:l.Nodup):l.Pairwise fun a b=>pR a b=true:=by
 induction l with
 | nil=>exact .nil
 | cons x r ih =>
  obtain ⟨a1,a2⟩:=List.pairwise_cons.mp h
  obtain ⟨n1,n2⟩:=List.nodup_cons.mp nd
  refine List.pairwise_cons.mpr ⟨fun y hy=>?_,ih a2 n2⟩
  cases q:pR x y with
  | true=>rfl
  | false=>exact absurd (xo q (a1 y hy) ▸ hy) n1
theorem kT:∀ {ss:List Str}{us:List a9},dn (ss.map V.str) us->sV us ss
 | [],_,.nil=>.nil
 | x::r,_,.cons h t=>by obtain ⟨tk,rfl⟩:=h;exact .cons x tk (kT t)
theorem oA:∀ {ss:List Str}{us:List a9},sV us ss->dn (ss.map V.str) us
 | _,_,.nil=>.nil
 | _,_,.cons x t h=>.cons ⟨t,rfl⟩ (oA h)
theorem fH:∀ {ss:List Str}{us:List a9},sV us ss->us.length=ss.length
 | _,_,.nil=>rfl
 | _,_,.cons x t h=>by simp [fH h]
theorem xW {ss:List Str}{us:List a9} (h:sV us ss) (i:Nat) (v:a9) (e:us[i]?=some v):∃ x t,ss[i]?=some x/\v=jp x t:=by
 induction h generalizing i with
 | nil=>simp at e
 | cons y t _ ih =>
  cases i with
  | zero=>simp at e;exact ⟨y,t,by simp,e.symm⟩
  | succ i=>simp at e;simpa using ih i e
theorem uC {w:bc}:∀ {l:List (Int×a9)},(∀ e∈l,s_ w e)->sV (l.map (·.2)) (l.map jK)
 | [],_=>.nil
 | e::r,h=>by
  obtain ⟨x,tk,rfl⟩:=h e ap
  exact .cons x tk (uC fun e he=>h e (am _ he))
theorem C1 {us us':List a9}{ss:List Str} (h:sV us ss) (p:us'.Perm us):∃ ss',sV us' ss'/\ss'.Perm ss:=by
 refine ⟨us'.map strOf,strsAre_map _ fun v hv=>h.all v (p.mem_iff.mp hv),?_⟩
 rw [<- h.strs]
 exact p.map _
def kU (w:bc) (a:ah) (ss:List Str):HO:=.ext fun h=>kM w h a ss
theorem C2 {P:aI}{w:bc}{H:Hp}{h:br}{a:ah}{ss:List Str} (x:kM w h a ss):cY P w H h a (kU w a ss) :=
 ⟨x,let ⟨_,_,_,I,_⟩:=x;⟨_,I.at_⟩,fun _ _ y k=>y.keep k⟩
section
variable {X:Cx}
theorem DQ (hc:X.calm=true):j5 X (.type "set") (fun xs H Q=>∃ p ss,xs=[.ref p]/\(lF X.K H p (ss.map V.str)\/kn X.K H p (ss.map V.str))/\ss.length + 1<iH/\∀ a,H a=none->Q (.ref a) (upd H a (kU X.w a (dq [] ss)))):=by
 intro pins s σ H xs us Q I r h
 obtain ⟨p,ss,rfl,hq,hz,q⟩:=h
 obtain ⟨u,rfl,rx⟩:=ko r
 cases rx
 have hh:=I.ok.hd hc
 have fin:∀ (h':br) (tk:Nat),kM X.w h' s.heap.objs.size (dq [] ss)->(∀ b o,s.heap.get? b=some o->h'.get? b=some o)->EP X pins σ Q (.ref s.heap.objs.size) { s with heap:=h',toks:=tk }:=fun h' tk hS kp =>
  ⟨.ref s.heap.objs.size,_,I.laid (t':=tk) kp (au _) (C2 hS),rfl,q _ (I.hok.fresh (au _))⟩
 rcases hq with hq | hq
 ·obtain ⟨its,r',⟨o,n,ho,h1,h2,h3⟩,_⟩:=I.list hq
  have sa:=kT r'
  exact uy (Mf (by simpa using hh) h1 ⟨n,h3⟩) ho (fun i v e=>xW sa i v (by simpa using e)) (by simp [fH sa]) (by simp [fH sa];exact hz) fin
 ·obtain ⟨its,r',⟨o,ho,h1,n,h3⟩,_⟩:=I.tuple hq
  have sa:=kT r'
  exact uy (PQ (by simpa using hh) h1 ⟨n,h3⟩) ho (fun i v e=>xW sa i v (by simpa using e)) (by simp [fH sa]) (by simp [fH sa];exact hz) fin
theorem vJ:j5 X (.builtin "sorted") (fun xs H Q=>∃ p ss,xs=[.ref p]/\lF X.K H p (ss.map V.str)/\ss.length<64/\∀ l,H l=none->Q (.ref l) (upd H l (.lst ((jx ss).map V.str)))):=by
 intro pins s σ H xs us Q I r h
 obtain ⟨p,ss,rfl,hq,hz,q⟩:=h
 obtain ⟨u,rfl,rx⟩:=ko r
 cases rx
 obtain ⟨its,r',pl,hl⟩:=I.list hq
 have sa:=kT r'
 refine sorted_strs pl.isList sa (by rw [fH sa];exact hz) fun out ss' a1 a2 a3=>?_
 obtain ⟨e,he⟩:=sortedAll_at s.heap its out
 have kp:∀ b o,s.heap.get? b=some o->(sortedAll s.heap its out).get? b=some o:=fun b o=>sortedAll_old
 obtain rfl:=DP a2 a3
 refine ⟨.ref (s.heap.objs.size + 1),upd H (s.heap.objs.size + 1) (.lst ((jx ss).map V.str)),I.laid (t':=s.toks) kp (iK _) (show cY X.prog X.w _ _ _ (.lst _) from ⟨?_,out.toList,e,oA a1,by simpa [seqObj] using he⟩),rfl,q _ (I.hok.fresh (iK _))⟩
 rw [al,(gP ss).length_eq]
 have:=hl
 rw [al] at this
 exact this
theorem wS (hc:X.calm=true):j5 X (.builtin "sorted") (fun xs H Q=>∃ p ss,xs=[.ref p]/\H p=some (kU X.w p ss)/\ss.length<64/\∀ l,H l=none->Q (.ref l) (upd H l (.lst ((jx ss).map V.str)))):=by
 intro pins s σ H xs us Q I r h
 obtain ⟨p,ss,rfl,hq,hz,q⟩:=h
 obtain ⟨u,rfl,rx⟩:=ko r
 cases rx
 have hh:=I.ok.hd hc
 obtain ⟨⟨es,ep,t,S,pm⟩,_⟩:=(show cY X.prog X.w H s.heap p (kU X.w p ss) from I.hok p _ hq)
 refine DO (DN (by simpa using hh) S fun ord h' d tk po kp sz=>?_)
 obtain ⟨ss1,sa,p1⟩:=C1 (uC S.txt) po
 have ln:ss1.length=ss.length:=(p1.trans pm).length_eq
 refine ⟨ss1,sa,by rw [fH sa,ln];exact hz,fun h2 vs' ss' e kp2 at2 sa2 p2 s2=>?_⟩
 have kk:∀ b o,s.heap.get? b=some o->h2.get? b=some o:=fun b o e=>kp2 b o (kp b o e)
 have es':ss'=jx ss:=DP (p2.trans (p1.trans pm)) s2
 subst es'
 have fr:=I.hok.fresh sz
 have ok2:cY X.prog X.w (upd H h'.objs.size (.lst ((jx ss).map V.str))) h2 h'.objs.size (.lst ((jx ss).map V.str)) :=
  ⟨by rw [al,(gP ss).length_eq];exact bE (bL hz) (by rw [De];decide),vs',e,oA sa2,at2⟩
 exact ⟨.ref h'.objs.size,_,I.call' (s':={ s with heap:=h2,drawn:=d,toks:=tk }) (ch:=[]) rfl (Un.laid kk sz fr) (I.hok.laid kk sz ok2) I.bare (fun b z=>absurd z (by simp)),rfl,q _ fr⟩
end
end L2
end
section
namespace L2
open PySem PySem.Spec PyProof.Rows
section
variable {X:Cx}
theorem wt {prog:aI}{w:bc}{B:bg}{bs:List Bool}{its:List a9} (r:dn (bs.map V.bl) its):TruthOf prog w B (fun i v=>its.toArray[i]?=some v) (fun i=>bs.getD i false):=by
 intro i v s Q E hv hq
 have hv:its[i]?=some v:=by simpa using hv
 have hl:=r.length
 rw [al] at hl
 obtain ⟨hi,_⟩:=List.getElem?_eq_some_iff.mp hv
 have hb:bs[i]?=some bs[i]:=aQ (by omega)
 obtain ⟨u,hu,ru⟩:=r.get (i:=i) (x:=.bl bs[i]) (by rw [aN,hb];rfl)
 rw [hv] at hu;cases hu
 cases ru
 have hq:Q (bs.getD i false) s:=hq
 rw [de,hb] at hq
 exact dJ hq
theorem Mk (bs:List Bool):(bw bs.length).all (fun i=>bs.getD i false)=bs.all id:=by
 rw [ef,cq,cq]
 constructor
 ·intro h b hb
  obtain ⟨i,hi,rfl⟩:=fm hb
  have:=h i (List.mem_range.mpr hi)
  simpa [de,hi] using this
 ·intro h i hi
  have hi:=List.mem_range.mp hi
  have:=h bs[i] (gH hi)
  simpa [de,hi] using this
theorem Ml (bs:List Bool):(bw bs.length).any (fun i=>bs.getD i false)=bs.any id:=by
 rw [ef,gI,gI]
 constructor
 ·rintro ⟨i,hi,h⟩
  have hi:=List.mem_range.mp hi
  exact ⟨bs[i],gH hi,by simpa [de,hi] using h⟩
 ·rintro ⟨b,hb,h⟩
  obtain ⟨i,hi,rfl⟩:=fm hb
  exact ⟨i,List.mem_range.mpr hi,by simpa [de,hi] using h⟩
theorem xX (hc:X.calm=true):j5 X (.builtin "all") (fun xs H Q=>∃ p,∃ bs:List Bool,xs=[.ref p]/\lF X.K H p (bs.map V.bl)/\Q (.bl (bs.all id)) H):=by
 intro pins s σ H xs us Q I r h
 obtain ⟨p,bs,rfl,hq,q⟩:=h
 obtain ⟨u,rfl,rx⟩:=ko r
 cases rx
 obtain ⟨its,r',pl,hl⟩:=I.list hq
 have ln:its.toArray.size=bs.length:=by have:=r'.length;simp at this ⊢;omega
 obtain ⟨o,ho,hk⟩:=pl.isList
 refine call_all_walk (iM pl.isList ⟨_,_,_,_,_,_,_,rfl,ui (by simpa using I.ok.hd hc) _ p (aB (ao ho)) its.toArray,⟨⟨_,ay _ rfl,rfl,rfl⟩,pl.isList.push _⟩,wt r',fun h' tk kp=>?_⟩)
 rw [ln,Mk]
 refine ⟨.bl _,H,I.kept (t':=tk) fun b o e=>kp b o ?_ (ag _ e),rfl,q⟩
 simp only [dQ]
 exact aB (ao e)
theorem xY (hc:X.calm=true):j5 X (.builtin "any") (fun xs H Q=>∃ p,∃ bs:List Bool,xs=[.ref p]/\lF X.K H p (bs.map V.bl)/\Q (.bl (bs.any id)) H):=by
 intro pins s σ H xs us Q I r h
 obtain ⟨p,bs,rfl,hq,q⟩:=h
 obtain ⟨u,rfl,rx⟩:=ko r
 cases rx
 obtain ⟨its,r',pl,hl⟩:=I.list hq
 have ln:its.toArray.size=bs.length:=by have:=r'.length;simp at this ⊢;omega
 obtain ⟨o,ho,hk⟩:=pl.isList
 refine call_any_walk (iM pl.isList ⟨_,_,_,_,_,_,_,rfl,ui (by simpa using I.ok.hd hc) _ p (aB (ao ho)) its.toArray,⟨⟨_,ay _ rfl,rfl,rfl⟩,pl.isList.push _⟩,wt r',fun h' tk kp=>?_⟩)
 rw [ln,Ml]
 refine ⟨.bl _,H,I.kept (t':=tk) fun b o e=>kp b o ?_ (ag _ e),rfl,q⟩
 simp only [dQ]
 exact aB (ao e)
theorem K2:pZ X (bG .LtE) (fun x y H Q=>∃ i j,x=.str i/\y=.str j/\Q (.bl (!decide (j.cps.toList<i.cps.toList))) H):=by
 intro pins s σ H x y v u Q I rx ry h
 obtain ⟨i,j,rfl,rfl,q⟩:=h
 obtain ⟨t,rfl⟩:=rx
 obtain ⟨t',rfl⟩:=ry
 exact PySem.P.le_str (gO I q rfl)
end
end L2
end
section
namespace L2
open PySem PySem.Spec PyProof.Rows
def UH (x:Str):It:=⟨fun i _=>i<x.cps.size,fun i H v H'=>H'=H/\∃ c,x.cps[i]?=some c/\v=.str ⟨#[c]⟩,fun i _=>x.cps.size<=i⟩
theorem Mm {P:aI}{w:bc}{K:a8}{tg:b9} (x:Str) (t:Tok) (it:ah):xN P w K tg (UH x) [it] it (fun i h=>h.IsStrIter it (i3 x) x t i) where
 mem:=by simp
 obj:=fun i h st b hb=>by
  obtain rfl:b=it:=by simpa using hb
  obtain ⟨o,e,c,d⟩:=st
  exact ⟨o,e,fun v z=>by rw [d] at z;cases z⟩
 keep:=fun i h h' st k=>let ⟨o,e,r⟩:=st;⟨o,k it (by simp) o e,r⟩
 item:=by
  intro X hP hw hK hc i pins s σ H E I hf st hg
  subst hP hw hK
  have hg:i<x.cps.size:=hg
  obtain ⟨f0,f1,f2,f3,f4,f5⟩:=hf it (by simp)
  have hx:x.cps[i]?=some x.cps[i]:=getElem?_pos _ i hg
  have go:∀ (h':br) (tk tk':Nat),h'.IsStrIter it (i3 x) x t (i + 1)->bD it s.heap h'->∃ u,some (jp ⟨#[x.cps[i]]⟩ tk)=some u /\
    aq (aF X.prog X.w) X.A (gE tg (.ref it) u) (fun _ s2=>∃ v H',bF X pins σ H' s2/\dm v u/\(UH x).yld i H v H'/\s2.heap.IsStrIter it (i3 x) x t (i + 1)/\∀ b∈[it],H' b=none) E { s with heap:=h',toks:=tk' }:=fun h' tk tk' st' sb=>by
   have I1:bF X pins σ H { s with heap:=h',toks:=tk' }:=I.turned (fun b o hb e=>(sb.2 b hb).trans e) f0 f1 f3 f4 f5
   refine ⟨_,rfl,?_⟩
   have q:∃ v H',bF X pins σ H' { s with heap:=h',toks:=tk' }/\dm v (jp ⟨#[x.cps[i]]⟩ tk)/\(UH x).yld i H v H'/\h'.IsStrIter it (i3 x) x t (i + 1)/\∀ b∈[it],H' b=none :=
    ⟨.str ⟨#[x.cps[i]]⟩,H,I1,⟨tk,rfl⟩,⟨rfl,_,hx,rfl⟩,st',fun b hb=>(hf b hb).1⟩
   unfold gE
   cases tg<;>exact ac q
  cases ha:x.cps.all (·<128)
  ·have ty:i3 x="str_iterator":=by unfold i3;rw [ha];rfl
   rw [ty] at st
   exact wpAny_pyNext_wide_item st hx fun h' st' sb=>go h' _ _ (by rw [ty];exact st') sb
  ·have ty:i3 x="str_ascii_iterator":=by unfold i3;rw [ha];rfl
   rw [ty] at st
   exact wpAny_pyNext_ascii_item st hx fun h' st' sb=>go h' _ _ (by rw [ty];exact st') sb
 done:=by
  intro X hP hw hK hc i pins s σ H E I hf st hg
  subst hP hw hK
  have hg:x.cps.size<=i:=hg
  obtain ⟨f0,f1,f2,f3,f4,f5⟩:=hf it (by simp)
  have hx:x.cps[i]?=none:=getElem?_neg _ i (Nat.not_lt.mpr hg)
  unfold i3 at st
  cases ha:x.cps.all (·<128)
  ·rw [ha] at st
   exact wpAny_pyNext_wide_end (I.ok.hd hc) st hx fun h' eb=>⟨rfl,I.turned (t':=s.toks) (fun b o hb e=>eb b o hb e) f0 f1 f3 f4 f5⟩
  ·rw [ha] at st
   exact wpAny_pyNext_ascii_end (I.ok.hd hc) st hx fun h' eb=>⟨rfl,I.turned (t':=s.toks) (fun b o hb e=>eb b o hb e) f0 f1 f3 f4 f5⟩
 self:=fun _ _ _ _ _ st h=>by
  unfold i3 at st
  cases ha:x.cps.all (·<128)
  ·rw [ha] at st;exact wpAny_pyIter_striter_wide st h
  ·rw [ha] at st;exact wpAny_pyIter_striter_ascii st h
def WP (tl:TE):TI:=fun σ H R=>tl σ H fun v H1=>∃ x,v=.str x/\R (UH x) H1
theorem Mn {X:Cx}{tg l:b9}{tl:TE} (hl:PE X l tl):PI X tg l (WP tl):=by
 intro pins s σ H R I h
 refine fD (hl pins s σ H _ I h) fun v s1 h_0=>?_
 obtain ⟨y,H1,I1,r1,q1⟩:=h_0
 obtain ⟨x,rfl,q⟩:=q1
 obtain ⟨t,rfl⟩:=r1
 refine wpAny_pyIter_strU ?_
 refine ⟨s1.heap.objs.size,[s1.heap.objs.size],_,_,H1,rfl,I1.kept (t':=s1.toks) fun b o e=>ag _ e,Mm x t _,⟨_,ay _ rfl,rfl,rfl⟩,fun b hb=>?_,q⟩
 obtain rfl:b=s1.heap.objs.size:=by simpa using hb
 exact I1.fpOk (au _) (I1.hok.fresh (au _))
end L2
end
section
namespace L2
open PySem PySem.Spec PyProof.Rows
section
variable {X:Cx}{pins:List (ah×Obj)}{σ:St}{H H':Hp}{s:af}{h':br}
theorem bF.turnedL {t':Nat}{ch:List ah} (I:bF X pins σ H s) (k:∀ b o,b∉ch->s.heap.get? b=some o->h'.get? b=some o) (hf:∀ b∈ch,qq X pins H b):bF X pins σ H { s with heap:=h',toks:=t' }:=by
 have nt:∀ b u,H b=some u->b∉ch:=fun b u e z=>by rw [(hf b z).1] at e;cases e
 refine I.step (g':=s.gens) (d':=s.drawn) (ch:=ch) (fun b hb=>?_) (fun b o _ _ hc e _=>k b o hc e) (fun b o _ _ hc e _=>⟨o.slots,k b o hc e⟩) (fun _ _ _ _ n=>n)
  (fun b o hc e=>⟨o,k b o hc e⟩) (fun _ _ e=>e) (fun _ _ _ e=>e) (fun b ps e=>⟨#[],by rw [e];simp⟩) (fun m hm=>?_) (fun b u e=>?_) I.bare
 ·obtain ⟨f0,f1,f2,f3,f4,f5⟩:=hf b hb
  exact ⟨f3,f1,f4,f5⟩
 ·obtain ⟨o,es,ep,ho,r⟩:=hm
  exact ⟨o,es,ep,k _ o (fun z=>(hf _ z).f1 rfl) ho,r⟩
 ·refine (I.hok b u e).stay (fun c v hc q=>k c v ?_ q) (fun _ q=>q) fun _ _ q=>q
  rcases hc with z | z
  ·rw [z];exact nt b u e
  ·exact nt c _ z
theorem bF.track {D:ah}{ho:HO} (I:bF X pins σ H s) (hf:qq X pins H D) (new:cY X.prog X.w (upd H D ho) s.heap D ho):bF X pins σ (upd H D ho) s:=by
 obtain ⟨f0,f1,f2,f3,f4,f5⟩:=hf
 have I':bF X pins σ (upd H D ho) { s with heap:=s.heap,gens:=s.gens,drawn:=s.drawn,toks:=s.toks }:=I.step (ch:=[D]) (fun b hb=>by
   obtain rfl:b=D:=by simpa using hb
   exact ⟨f3,f1,f4,f5⟩) (fun b o _ _ _ e _=>e) (fun b o _ _ _ e _=>⟨o.slots,e⟩) (fun b o hc e n=>by rw [aT (fun z=>hc (by simp [z]))];exact n) (fun b o _ e=>⟨o,e⟩)
  (fun b xs e=>by rw [aT (bi e f0)];exact e) (fun b o xs e=>by rw [aT (bi e f0)];exact e) (fun b ps e=>⟨#[],by rw [aT (bi e f0),e];simp⟩) (fun m hm=>hm) (re I.hok f0 new) I.bare
 exact I'
end
section
variable {prog:aI}{w:bc}{A:bg}{E:a9->af->Prop}{s:af}{it l:ah}{i:Nat}{items:Array a9}
theorem uD {x:a9}{Q:a9->af->Prop} (ti:s.heap.IsTupleIter it l i) (tl:s.heap.IsTuple l items) (hx:items[i]?=some x)
  (q:∀ h',h'.IsTupleIter it l (i + 1)->bD it s.heap h'->Q x { s with heap:=h' }):aq (aF prog w) A (cA (.ref it)) Q E s:=by
 obtain ⟨oi,ei,ci,di⟩:=id ti
 obtain ⟨ot,et,_,nt,dt⟩:=tl
 unfold cA
 refine a7 (cm (name:=gy "__next__") ti.typeIs iP ?_)
 refine bZ iP ti.typeIs Dh ?_ (BI _)
 show aq _ _ (G1 (.ref it) 0 >>= _) _ _ s
 refine a7 (dL ei di (x:=.ref l) rfl ?_)
 show aq _ _ (if (bK l == dN)=true then _ else _) _ _ s
 rw [if_neg (fun z:(bK l == dN)=true=>aS z)]
 show aq _ _ (G1 (.ref it) 1 >>= _) _ _ s
 refine a7 (dL ei di (x:=.int i 0) rfl ?_)
 show aq _ _ (seqItems? (.ref l) >>= _) _ _ s
 refine a7 (el et dt ?_)
 simp only [jO,hx]
 refine a7 (f_ ei di (by simp) (ac ⟨x,rfl,ac (q _ ?_ (bI ..))⟩))
 refine ⟨_,fQ _ ei (Obj.isFreed_of_fields (Lr di _)),(Obj.cls_mapFields ..).trans ci,?_⟩
 rw [Lr di];simp [cf]
theorem uE {Q:a9->af->Prop} (hh:A.handled=none) (ti:s.heap.IsTupleIter it l i) (tl:s.heap.IsTuple l items) (hx:items[i]?=none)
  (q:∀ h' e,HM it s.heap h'->(∃ o,h'.get? e=some o/\o.cls=.type "StopIteration")->E (.ref e) { s with heap:=h' }):aq (aF prog w) A (cA (.ref it)) Q E s:=by
 obtain ⟨oi,ei,ci,di⟩:=id ti
 obtain ⟨ot,et,_,nt,dt⟩:=tl
 unfold cA
 refine a7 (cm (name:=gy "__next__") ti.typeIs iP ?_)
 refine bZ iP ti.typeIs Dh ?_ (BI _)
 show aq _ _ (G1 (.ref it) 0 >>= _) _ _ s
 refine a7 (dL ei di (x:=.ref l) rfl ?_)
 show aq _ _ (if (bK l == dN)=true then _ else _) _ _ s
 rw [if_neg (fun z:(bK l == dN)=true=>aS z)]
 show aq _ _ (G1 (.ref it) 1 >>= _) _ _ s
 refine a7 (dL ei di (x:=.int i 0) rfl ?_)
 show aq _ _ (seqItems? (.ref l) >>= _) _ _ s
 refine a7 (el et dt ?_)
 simp only [jO,hx]
 refine a7 (fX (a7 (f_ ei di (by simp) ?_)))
 show aq _ _ (sS (.type "StopIteration") [] >>= _) _ _ _
 refine a7 ?_
 simp only [sS,P3]
 refine a7 (bU ?_ (by size_fits))
 refine a7 (m:=kL _ _) (e7 (a:=dN) ?_ ?_)
 ·first
   | rfl
   | (simp only [kL];rfl)
 refine bU ?_ (by size_fits)
 simp only [s9]
 refine a7 (Jv ?_)
 rw [show A.in1.handled=none from hh]
 refine a7 (ac (P4 ?_))
 exact q _ _ (((bI ..).extBut.push _).push _) ⟨_,ay _ rfl,rfl⟩
theorem K3 (hh:A.handled=none) (it l:ah) (hne:l≠it) (items:Array a9) :
  Draws prog w A it [it,l] items.size (fun i v=>items[i]?=some v) (fun i h=>h.IsTupleIter it l i/\h.IsTuple l items) where
 live:=fun i h st=>let ⟨o,e,_⟩:=st.1;⟨o,e⟩
 frame:=fun i h h' st k=>⟨let ⟨o,e,r⟩:=st.1;⟨o,k it (by simp) o e,r⟩,let ⟨o,e,r⟩:=st.2;⟨o,k l (by simp) o e,r⟩⟩
 item:=fun i s Q E hi st q=>uD st.1 st.2 (x:=items[i]) (by simp [hi]) fun h' t' sb=>q _ h' s.toks (by simp [hi]) ⟨t',st.2.extBut sb.extBut hne⟩ sb
 done:=fun s Q E st q=>uE hh st.1 st.2 (by simp) q
end
theorem xZ (l:ah) (items:Array a9) (n:Nat) (dct:Option ah) (sl:Array (Option a9)) :
  Meets (ia.«enumerate.__new__» ⟨[.type "enumerate",.ref l],[]⟩) (fun _ R s=>s.heap.get? l=some { cls:=.type "tuple",dict:=dct,data:=.seq items n,slots:=sl } /\
   R (.ok (.ret (.ref (s.heap.push { cls:=.type "tuple_iterator",data:=.fields #[.ref l,.int 0 0] }).objs.size)))
    { s with heap:=(s.heap.push { cls:=.type "tuple_iterator",data:=.fields #[.ref l,.int 0 0] }).push { cls:=.type "enumerate",data:=.fields #[.none,.bool false,.ref s.heap.objs.size,cf 0,.none,.none] } }) :=
 .of_wp fun prog w A R s h=>by
  obtain ⟨hp,g,d,tk,os⟩:=s
  obtain ⟨hl,h⟩:=h
  have hsub:=PySem.sub_enumerate
  have hL:FC (FD ⟨hp,g,d,tk,os⟩) l items:=⟨_,hl,rfl,n,rfl⟩
  wp_walk using fS hl
  refine wpAny_stack_any fun st=>ac ?_
  split
  ·rename_i c _ _ _ _ _
   cases (c == iq "enumerate")
   ·wp_walk using fS hl,fY hL
    exact ⟨_,rfl,h⟩
   ·wp_walk using fS hl,fY hL
    exact ⟨_,rfl,h⟩
  ·wp_walk using fS hl,fY hL
   exact ⟨_,rfl,h⟩
end L2
end
section
namespace L2
open PySem PySem.Spec PyProof.Rows
section
variable {prog:aI}{w:bc}{A:bg}{E:a9->af->Prop}{s:af}
theorem A3 {l:ah}{items:Array a9}{Q:a9->af->Prop} (hL:s.heap.IsTuple l items)
  (h:∀ h',IsEnum h' (s.heap.objs.size + 1) s.heap.objs.size 0 .none->h'.IsTupleIter s.heap.objs.size l 0->(∀ b o,s.heap.get? b=some o->h'.get? b=some o)->h'.objs.size=s.heap.objs.size + 2 ->
   Q (.ref (s.heap.objs.size + 1)) { s with heap:=h' }):aq (aF prog w) A (call (.type "enumerate") [.ref l]) Q E s:=by
 obtain ⟨⟨c,dc,dt,sl⟩,hl,hc,n,hd⟩:=hL
 obtain rfl:c=.type "tuple":=hc
 obtain rfl:dt=.seq items n:=hd
 refine callType_new F.called_enumerate (by decide) (F.typeCall_enumerate_1 _) (F.newCall_enumerate_1 _) (fun obj=>F.args_object_init_2 obj _) F.entry_enumerate_new (xZ l items n dc sl) ⟨hl,?_⟩
 have z1:(s.heap.push { cls:=.type "tuple_iterator",data:=.fields #[.ref l,.int 0 0] }).objs.size=s.heap.objs.size + 1:=db ..
 show _/\_
 rw [z1]
 have he:IsEnum ((s.heap.push { cls:=.type "tuple_iterator",data:=.fields #[.ref l,.int 0 0] }).push { cls:=.type "enumerate",data:=.fields #[.none,.bool false,.ref s.heap.objs.size,cf 0,.none,.none] }) (s.heap.objs.size + 1) s.heap.objs.size 0 .none:=by
  have q:=ay (s.heap.push { cls:=.type "tuple_iterator",data:=.fields #[.ref l,.int 0 0] }) (o:={ cls:=.type "enumerate",data:=.fields #[.none,.bool false,.ref s.heap.objs.size,cf 0,.none,.none] }) rfl
  rw [z1] at q
  exact q
 exact ⟨⟨_,he,rfl⟩,h _ he ⟨_,ag _ (ay _ rfl),rfl,rfl⟩ (fun b o e=>ag _ (ag _ e)) (by rw [db,z1])⟩
end
def WQ (K:a8) (a:ah):It :=
 ⟨fun i H=>∃ xs x,kn K H a xs/\xs[i]?=some x,fun i H v H'=>∃ p,H p=none/\v=.ref p/\∀ xs,kn K H a xs->∃ x,xs[i]?=some x/\H'=upd H p (.tup [.int i,x]),fun i H=>∃ xs,kn K H a xs/\xs.length<=i⟩
theorem K4 {P:aI}{w:bc}{K:a8}{elts:List b9}{x1}{pos:Pos} (a e it:ah) (hei:e≠it):xN P w K (.Tuple elts x1 pos) (WQ K a) [e,it] e (fun i h=>(∃ old,IsEnum h e it i old)/\h.IsTupleIter it a i) where
 mem:=by simp
 obj:=fun i h st b hb=>by
  simp only [bf,aU,or_false] at hb
  rcases hb with rfl | rfl
  ·obtain ⟨⟨old,q⟩,_⟩:=st
   exact ⟨_,q,fun v z=>by cases z⟩
  ·obtain ⟨_,o,q,_,d⟩:=st
   exact ⟨o,q,fun v z=>by rw [d] at z;cases z⟩
 keep:=fun i h h' st k=>⟨let ⟨old,q⟩:=st.1;⟨old,k e (by simp) _ q⟩,let ⟨o,q,r⟩:=st.2;⟨o,k it (by simp) o q,r⟩⟩
 item:=by
  intro X hP hw hK hc i pins s σ H E I hf st hg
  subst hP hw hK
  obtain ⟨xs,x,hq,hx⟩:=hg
  obtain ⟨its,rv,p,hz⟩:=I.tuple hq
  obtain ⟨u,hu,ru⟩:=rv.get hx
  obtain ⟨⟨old,he⟩,hit⟩:=st
  have hit0:=hit
  obtain ⟨oi,ei,_⟩:=hit0
  have hai:a≠it:=fun z=>by
   obtain ⟨o1,e1,c1,_⟩:=p
   obtain ⟨o2,e2,c2,_⟩:=hit
   rw [z,e2] at e1;cases e1;rw [c2] at c1;exact absurd (HN c1) (by decide)
  have hae:a≠e:=fun z=>by
   obtain ⟨o1,e1,c1,_⟩:=p
   rw [z,he] at e1;cases e1;exact absurd (HN (show iq "enumerate"=iq "tuple" from c1)) (by decide)
  have hlt:i<its.toArray.size:=by simp;exact (List.getElem?_eq_some_iff.mp hu).1
  have he0:=ao he
  refine wpAny_pyNext_enum_itemD (K3 (by simpa using I.ok.hd hc) it a hai its.toArray) he ⟨hit,p⟩ hlt hei (by simp [hei,cZ hae]) ?_
  intro x' h1 tk hx' eo st1 tup sz k1
  have hx'':its[i]?=some x':=by simpa using hx'
  rw [hu] at hx'';cases hx''
  refine ⟨_,rfl,G3 eo fun h2 e2 sb2=>?_⟩
  have szn:s.heap.objs.size≠e:=eU he0
  have I2:bF X pins σ H { s with heap:=h2,toks:=tk + 1 }:=I.turnedL (ch:=[e,it]) (fun b o hb q=>by
   simp only [bf,aU,or_false,not_or] at hb
   exact (sb2.2 b hb.1).trans (k1 b o hb.1 hb.2 q)) hf
  have fT:=I.fpOk (H':=H) (au _) (I.hok.fresh (au _))
  have tup2:h2.get? s.heap.objs.size=some { cls:=.type "tuple",data:=.seq #[.int i tk,u] }:=(sb2.2 _ szn).trans tup
  have I3:=I2.track (ho:=.tup [.int i,x]) fT ⟨by show 2<=sizeLine;decide,[.int i tk,u],.cons ⟨tk,rfl⟩ (.cons ru .nil),⟨_,tup2,rfl,0,rfl⟩⟩
  refine ⟨.ref s.heap.objs.size,_,I3,rfl,⟨_,fT.1,rfl,fun ys hy=>?_⟩,⟨⟨u,?_⟩,?_⟩,fun b hb=>?_⟩
  ·rw [I.tuple_inj hy hq];exact ⟨x,hx,rfl⟩
  ·have:(((i + 1:Nat):Int))=(i:Int) + 1:=by omega
   rw [this];exact e2
  ·obtain ⟨o,q,r⟩:=st1.1
   exact ⟨o,(sb2.2 it (cZ hei)).trans q,r⟩
  ·rw [aT]
   ·exact (hf b hb).1
   ·simp only [bf,aU,or_false] at hb
    rcases hb with z | z
    ·rw [z];exact aB he0
    ·rw [z];exact aB (ao ei)
 done:=by
  intro X hP hw hK hc i pins s σ H E I hf st hg
  subst hP hw hK
  obtain ⟨xs,hq,hx⟩:=hg
  obtain ⟨its,rv,p,hz⟩:=I.tuple hq
  obtain ⟨⟨old,he⟩,hit⟩:=st
  have hl:=rv.length
  have hT:s.TypeIs (.ref e) "enumerate":=⟨_,he,rfl⟩
  unfold jr
  refine a7 (iI (cm (name:=gy "__next__") hT Lc ?_))
  refine bZ Lc hT F.entry_enumerate_next ?_ (F.args_enumerate_next_1 _)
  show aq _ _ (G1 (.ref e) 2 >>= _) _ _ _
  refine a7 (dL he rfl (x:=.ref it) rfl ?_)
  refine a7 (uE (by simpa using I.ok.hd hc) hit (show s.heap.IsTuple a its.toArray from p) (by simp;omega) fun h' z eb hz'=>?_)
  obtain ⟨o,ho,hcl⟩:=hz'
  refine a7 (hJ (T:="StopIteration") (b:=true) ⟨o,ho,hcl⟩ vv ?_)
  exact ac ⟨rfl,I.turnedL (t':=s.toks) (ch:=[e,it]) (fun b o hb q=>eb b o (by
   simp only [bf,aU,or_false,not_or] at hb;exact hb.2) q) hf⟩
 self:=fun _ _ _ _ _ st h=>let ⟨⟨_,q⟩,_⟩:=st;qc q h
def UI (K:a8) (ta:TA):TI:=fun σ H R=>ta σ H fun vs H1=>∃ a xs,vs=[.ref a]/\kn K H1 a xs/\R (WQ K a) H1
theorem PR {X:Cx}{elts:List b9}{x1}{tpos p pos:Pos}{a:b9}{ta:TA} (hg:Gl X "enumerate") (hm:X.mg "enumerate"=none) (ha:PA X [a] ta) (hs:az [a] X.env=[(false,dz a X.env)]:=by rfl) :
  PI X (.Tuple elts x1 tpos) (.Call (.Name "enumerate" p) [a] [] pos) (UI X.K ta):=by
 intro pins s σ H R I h
 refine Call_ (sY I hg hm boot_enumerate (eW (fD (ha pos pins s σ H _ I h) fun us s1 ⟨vs,H1,I1,r1,q1⟩=>?_) hs rfl))
 obtain ⟨ad,xs,rfl,hq,q⟩:=q1
 obtain ⟨u,rfl,rx⟩:=ko r1
 cases rx
 obtain ⟨its,rv,tp,hz⟩:=I1.tuple hq
 refine A3 (show s1.heap.IsTuple ad its.toArray from tp) fun h' e1 t1 kp sz=>?_
 refine qc e1 ?_
 have I2:bF X pins σ H1 { s1 with heap:=h' }:=I1.kept (t':=s1.toks) kp
 refine ⟨s1.heap.objs.size + 1,[s1.heap.objs.size + 1,s1.heap.objs.size],_,_,H1,rfl,I2,K4 ad _ _ (eU (dU _)),⟨⟨.none,e1⟩,t1⟩,fun b hb=>?_,q⟩
 simp only [bf,aU,or_false] at hb
 rcases hb with z | z
 ·rw [z];exact I1.fpOk (iK _) (I1.hok.fresh (iK _))
 ·rw [z];exact I1.fpOk (au _) (I1.hok.fresh (au _))
end L2
end
section
namespace L2
open PySem PySem.Spec PyProof.Rows
section
variable {prog:aI}{w:bc}{A:bg}{E:a9->af->Prop}{s:af}{z TI TO i1 i2 l1 l2:ah}{k1 k2:Nat}{xs ys:Array a9}{x y a b:a9}
theorem iW {h h':br}{it l:ah}{k:Nat}{c:ah} (t:h.IsTupleIter it l k) (sb:bD c h h') (ne:it≠c):h'.IsTupleIter it l k:=t.extBut sb.extBut ne
theorem oB {h h':br}{l:ah}{xs:Array a9}{c:ah} (t:h.IsTuple l xs) (sb:bD c h h') (ne:l≠c):h'.IsTuple l xs:=t.extBut sb.extBut ne
theorem Mo {Q:a9->af->Prop} (D:P5 z TI TO i1 i2 l1 l2) (za:vw s.heap z TI TO .none) (pa:jP s.heap TI (.ref i1) (.ref i2)) (pb:jP s.heap TO a b)
  (u1:s.heap.IsTupleIter i1 l1 k1) (u2:s.heap.IsTupleIter i2 l2 k2) (v1:s.heap.IsTuple l1 xs) (v2:s.heap.IsTuple l2 ys) (hx:xs[k1]?=some x) (hy:ys[k2]?=some y)
  (q:∀ h',vw h' z TI TO (cf s.heap.objs.size)->jP h' TO x y->h'.IsTupleIter i1 l1 (k1 + 1)->h'.IsTupleIter i2 l2 (k2 + 1)->jP h' s.heap.objs.size x y ->
   (∀ c o,c≠z->c≠TO->c≠i1->c≠i2->s.heap.get? c=some o->h'.get? c=some o)->Q (.ref s.heap.objs.size) { s with heap:=h' }) :
  aq (aF prog w) A (ia.«zip.__next__» ⟨[.ref z],[]⟩) (fun fin s'=>∃ v,fin=.done (.ret v)/\Q v s') E s:=by
 show aq _ _ (G1 (.ref z) 2 >>= _) _ _ _
 refine a7 (dL za rfl (x:=.bool false) rfl ?_)
 show aq _ _ (G1 (.ref z) 3 >>= _) _ _ _
 refine a7 (dL za rfl (x:=.ref TI) rfl ?_)
 refine a7 (el pa rfl ?_)
 show aq _ _ (eF (.ref z) >>= _) _ _ _
 refine a7 ?_
 unfold eF
 refine a7 (dL za rfl (x:=.none) rfl (ac ?_))
 simp only [if_true]
 refine a7 (fX ?_)
 refine a7 (dL za rfl (x:=.ref TO) rfl ?_)
 refine a7 (ic za (by simp) fun g1 z1 b1=>?_)
 replace z1:vw g1 z TI TO .ellipsis:=z1
 refine a7 ?_
 simp only [OO,P6,jj,sy]
 refine a7 (a7 (xk ?_))
 show aq _ _ (cA (.ref i1) >>= _) _ _ _
 refine a7 (uD (iW u1 b1 D.i1z) (oB v1 b1 D.l1z) hx fun g2 w1 b2=>ac ?_)
 have p2:jP g2 TO a b:=b2.extBut _ _ D.TOi1 (b1.extBut _ _ D.TOz pb)
 refine a7 (el p2 rfl (a7 (vx p2 fun g3 p3 b3=>?_)))
 replace p3:jP g3 TO x b:=p3
 refine a7 (P7 (ac (a7 (a7 (xk ?_)))))
 show aq _ _ (cA (.ref i2) >>= _) _ _ _
 refine a7 (uD (iW (iW (iW u2 b1 D.i2z) b2 D.i12.symm) b3 D.TOi2.symm) (oB (oB (oB v2 b1 D.l2z) b2 D.l2i1) b3 D.l2TO) hy fun g4 w2 b4=>ac ?_)
 have p4:jP g4 TO x b:=b4.extBut _ _ D.TOi2 p3
 refine a7 (el p4 rfl (a7 (vx p4 fun g5 p5 b5=>?_)))
 replace p5:jP g5 TO x y:=p5
 refine a7 (P7 (ac (ac ?_)))
 refine a7 (el p5 rfl (a7 (wpAny_newTuple ?_)))
 have sz:g5.objs.size=s.heap.objs.size:=by rw [b5.1,b4.1,b3.1,b2.1,b1.1]
 have z5:vw g5 z TI TO .ellipsis:=b5.extBut _ _ D.TOz.symm (b4.extBut _ _ D.i2z.symm (b3.extBut _ _ D.TOz.symm (b2.extBut _ _ D.i1z.symm z1)))
 have k5:∀ c o,c≠z->c≠TO->c≠i1->c≠i2->s.heap.get? c=some o->g5.get? c=some o:=fun c o n1 n2 n3 n4 e =>
  b5.extBut _ _ n2 (b4.extBut _ _ n4 (b3.extBut _ _ n2 (b2.extBut _ _ n3 (b1.extBut _ _ n1 e))))
 have y1:g5.IsTupleIter i1 l1 (k1 + 1):=iW (iW (iW w1 b3 D.TOi1.symm) b4 D.i12) b5 D.TOi1.symm
 have y2:g5.IsTupleIter i2 l2 (k2 + 1):=iW w2 b5 D.TOi2.symm
 have zl:z<g5.objs.size:=ao z5
 show aq _ _ (mz (.ref z) (.ref g5.objs.size) >>= _) _ _ _
 refine a7 ?_
 unfold mz
 have z6:vw (g5.push { cls:=.type "tuple",data:=.seq #[x,y] }) z TI TO .ellipsis:=ag _ z5
 refine a7 (ic z6 (by simp) fun g7 z7 b7=>?_)
 replace z7:vw g7 z TI TO (cf g5.objs.size):=z7
 refine ic z7 (by simp) fun g8 z8 b8=>?_
 replace z8:vw g8 z TI TO (cf g5.objs.size):=z8
 have up:∀ c o,c≠z->g5.get? c=some o->g8.get? c=some o:=fun c o n1 e=>b8.extBut _ _ n1 (b7.extBut _ _ n1 (ag _ e))
 have p8:jP g8 g5.objs.size x y:=b8.extBut _ _ (eU zl) (b7.extBut _ _ (eU zl) (ay _ rfl))
 rw [sz] at z8 p8
 refine ac ⟨_,rfl,?_⟩
 show Q (.ref g5.objs.size) _
 rw [sz]
 exact q g8 z8 (up _ _ D.TOz p5) (let ⟨o,e,r⟩:=y1;⟨o,up _ o D.i1z e,r⟩) (let ⟨o,e,r⟩:=y2;⟨o,up _ o D.i2z e,r⟩) p8 fun c o n1 n2 n3 n4 e=>up c o n1 (k5 c o n1 n2 n3 n4 e)
theorem Mp {Q:Fin->af->Prop} (hh:A.handled=none) (D:P5 z TI TO i1 i2 l1 l2) (za:vw s.heap z TI TO .none) (pa:jP s.heap TI (.ref i1) (.ref i2)) (pb:jP s.heap TO a b)
  (u1:s.heap.IsTupleIter i1 l1 k1) (u2:s.heap.IsTupleIter i2 l2 k2) (v1:s.heap.IsTuple l1 xs) (v2:s.heap.IsTuple l2 ys) (hend:xs[k1]?=none\/ys[k2]?=none)
  (q:∀ h' e,(∀ c o,c≠z->c≠TO->c≠i1->c≠i2->s.heap.get? c=some o->h'.get? c=some o)->(∃ o,h'.get? e=some o/\o.cls=.type "StopIteration")->E (.ref e) { s with heap:=h' }) :
  aq (aF prog w) A (ia.«zip.__next__» ⟨[.ref z],[]⟩) Q E s:=by
 show aq _ _ (G1 (.ref z) 2 >>= _) _ _ _
 refine a7 (dL za rfl (x:=.bool false) rfl ?_)
 show aq _ _ (G1 (.ref z) 3 >>= _) _ _ _
 refine a7 (dL za rfl (x:=.ref TI) rfl ?_)
 refine a7 (el pa rfl ?_)
 show aq _ _ (eF (.ref z) >>= _) _ _ _
 refine a7 ?_
 unfold eF
 refine a7 (dL za rfl (x:=.none) rfl (ac ?_))
 simp only [if_true]
 refine a7 (fX ?_)
 refine a7 (dL za rfl (x:=.ref TO) rfl ?_)
 refine a7 (ic za (by simp) fun g1 z1 b1=>?_)
 replace z1:vw g1 z TI TO .ellipsis:=z1
 refine a7 ?_
 simp only [OO,P6,jj,sy]
 refine a7 (a7 (xk ?_))
 show aq _ _ (cA (.ref i1) >>= _) _ _ _
 cases hx:xs[k1]? with
 | none =>
  refine a7 (uE hh (iW u1 b1 D.i1z) (oB v1 b1 D.l1z) hx fun g2 e b2 he=>?_)
  obtain ⟨oe,ee,ce⟩:=he
  have z2:vw g2 z TI TO .ellipsis:=b2 _ _ D.i1z.symm z1
  have ez:e≠z:=fun n=>by subst n;rw [z2] at ee;cases ee;simp at ce
  refine ic z2 (by simp) fun g3 _ b3=>q g3 e (fun c o n1 _ n3 _ m=>b3.extBut _ _ n1 (b2 _ _ n3 (b1.extBut _ _ n1 m))) ⟨oe,b3.extBut _ _ ez ee,ce⟩
 | some x =>
  have hy:ys[k2]?=none:=hend.resolve_left fun n=>by rw [hx] at n;cases n
  refine a7 (uD (iW u1 b1 D.i1z) (oB v1 b1 D.l1z) hx fun g2 w1 b2=>ac ?_)
  have p2:jP g2 TO a b:=b2.extBut _ _ D.TOi1 (b1.extBut _ _ D.TOz pb)
  refine a7 (el p2 rfl (a7 (vx p2 fun g3 p3 b3=>?_)))
  refine a7 (P7 (ac (a7 (a7 (xk ?_)))))
  show aq _ _ (cA (.ref i2) >>= _) _ _ _
  refine a7 (uE hh (iW (iW (iW u2 b1 D.i2z) b2 D.i12.symm) b3 D.TOi2.symm) (oB (oB (oB v2 b1 D.l2z) b2 D.l2i1) b3 D.l2TO) hy fun g4 e b4 he=>?_)
  obtain ⟨oe,ee,ce⟩:=he
  have z4:vw g4 z TI TO .ellipsis:=b4 _ _ D.i2z.symm (b3.extBut _ _ D.TOz.symm (b2.extBut _ _ D.i1z.symm z1))
  have ez:e≠z:=fun n=>by subst n;rw [z4] at ee;cases ee;simp at ce
  refine ic z4 (by simp) fun g5 _ b5=>q g5 e (fun c o n1 n2 n3 n4 m=>b5.extBut _ _ n1 (b4 _ _ n4 (b3.extBut _ _ n2 (b2.extBut _ _ n3 (b1.extBut _ _ n1 m))))) ⟨oe,b5.extBut _ _ ez ee,ce⟩
end
abbrev VZ (h:br) (l1:ah):br:=h.push { cls:=.type "tuple_iterator",data:=.fields #[.ref l1,.int 0 0] }
abbrev V_ (h:br) (l1 l2:ah):br:=(VZ h l1).push { cls:=.type "tuple_iterator",data:=.fields #[.ref l2,.int 0 0] }
abbrev W0 (h:br) (l1 l2:ah):br:=(V_ h l1 l2).push { cls:=.type "tuple",data:=.seq #[.ref h.objs.size,.ref (VZ h l1).objs.size] }
abbrev W2 (h:br) (l1 l2:ah):br:=(W0 h l1 l2).push { cls:=.type "tuple",data:=.seq #[.none,.none] }
abbrev Ub (h:br) (l1 l2:ah):br:=(W2 h l1 l2).push { cls:=.type "zip",data:=.fields #[.none,.bool false,.bool false,.ref (V_ h l1 l2).objs.size,.ref (W0 h l1 l2).objs.size] }
theorem A4 (l1 l2:ah) (xs ys:Array a9) :
  Meets (ia.«zip.__new__» ⟨[.type "zip",.ref l1,.ref l2],[]⟩) (fun _ R s=>s.heap.IsTuple l1 xs/\s.heap.IsTuple l2 ys/\R (.ok (.ret (.ref (W2 s.heap l1 l2).objs.size))) { s with heap:=Ub s.heap l1 l2 }) :=
 .of_wp fun prog w A R s h=>by
  obtain ⟨hp,g,d,tk,os⟩:=s
  obtain ⟨v1,v2,h⟩:=h
  have hsub:=PySem.sub_zip
  have L1:FC (FD ⟨hp,g,d,tk,os⟩) l1 xs:=v1
  have L2:FC (FD ⟨hp.push { cls:=.type "tuple_iterator",data:=.fields #[.ref l1,.int 0 0] },g,d,tk,os⟩) l2 ys:=Heap.IsTuple.push v2 _
  wp_walk using fY L1,fY L2
  exact ⟨_,rfl,h⟩
section
variable {prog:aI}{w:bc}{A:bg}{E:a9->af->Prop}{s:af}
theorem C3 {l1 l2:ah}{xs ys:Array a9}{Q:a9->af->Prop} (v1:s.heap.IsTuple l1 xs) (v2:s.heap.IsTuple l2 ys)
  (h:∀ h',vw h' (s.heap.objs.size + 4) (s.heap.objs.size + 2) (s.heap.objs.size + 3) .none->jP h' (s.heap.objs.size + 2) (.ref s.heap.objs.size) (.ref (s.heap.objs.size + 1)) ->
   jP h' (s.heap.objs.size + 3) .none .none->h'.IsTupleIter s.heap.objs.size l1 0->h'.IsTupleIter (s.heap.objs.size + 1) l2 0 ->
   (∀ c o,s.heap.get? c=some o->h'.get? c=some o)->Q (.ref (s.heap.objs.size + 4)) { s with heap:=h' }):aq (aF prog w) A (call (.type "zip") [.ref l1,.ref l2]) Q E s:=by
 refine callType_new F.called_zip (by decide) (F.typeCall_zip_2 _ _) (F.newCall_zip_2 _ _) (fun obj=>F.args_object_init_3 obj _ _) F.entry_zip_new (A4 l1 l2 xs ys) ⟨v1,v2,?_⟩
 have n1:(VZ s.heap l1).objs.size=s.heap.objs.size + 1:=db ..
 have n2:(V_ s.heap l1 l2).objs.size=s.heap.objs.size + 2:=by rw [db,n1]
 have n3:(W0 s.heap l1 l2).objs.size=s.heap.objs.size + 3:=by rw [db,n2]
 have n4:(W2 s.heap l1 l2).objs.size=s.heap.objs.size + 4:=by rw [db,n3]
 have c5:(Ub s.heap l1 l2).get? (W2 s.heap l1 l2).objs.size=some _:=ay _ rfl
 have c4:(Ub s.heap l1 l2).get? (W0 s.heap l1 l2).objs.size=some _:=ag _ (ay _ rfl)
 have c3:(Ub s.heap l1 l2).get? (V_ s.heap l1 l2).objs.size=some _:=ag _ (ag _ (ay _ rfl))
 have c2:(Ub s.heap l1 l2).get? (VZ s.heap l1).objs.size=some _:=ag _ (ag _ (ag _ (ay _ rfl)))
 have c1:(Ub s.heap l1 l2).get? s.heap.objs.size=some _:=ag _ (ag _ (ag _ (ag _ (ay _ rfl))))
 show _/\_
 rw [n2,n3,n4] at c5
 rw [n1,n2] at c3
 rw [n3] at c4
 rw [n1] at c2
 rw [n4]
 exact ⟨⟨_,c5,rfl⟩,h _ c5 c3 c4 ⟨_,c1,rfl,rfl⟩ ⟨_,c2,rfl,rfl⟩ fun c o e=>ag _ (ag _ (ag _ (ag _ (ag _ e))))⟩
end
theorem kn.ne_fp {X:Cx}{pins:List (ah×Obj)}{σ:St}{H:Hp}{s:af}{a b:ah}{xs:List V} (I:bF X pins σ H s) (hq:kn X.K H a xs) (hf:qq X pins H b):a≠b:=by
 rintro rfl
 rcases hq with (h | ⟨o,h⟩) | ⟨o,its,n,hk,_⟩
 ·rw [hf.1] at h;cases h
 ·rw [hf.1] at h;cases h
 ·have e:X.base.get? a=some o:=I.mod.kin a o hk
  rcases hf.f3 with z | z
  ·exact I.ok.noex a o e z
  ·exact absurd (aK (ao e) (bE I.ok.bsz z)) (cj _)
def WR (K:a8) (a b:ah):It :=
 ⟨fun i H=>∃ xs ys x y,kn K H a xs/\kn K H b ys/\xs[i]?=some x/\ys[i]?=some y,
  fun i H v H'=>∃ p,H p=none/\v=.ref p/\∀ xs ys,kn K H a xs->kn K H b ys->∃ x y,xs[i]?=some x/\ys[i]?=some y/\H'=upd H p (.tup [x,y]),
  fun i H=>∃ xs ys,kn K H a xs/\kn K H b ys/\(xs.length<=i\/ys.length<=i)⟩
structure WS (z TI TO i1 i2:ah):Prop where
 d1:TI≠z
 d2:TO≠z
 d3:i1≠z
 d4:i2≠z
 d5:TI≠TO
 d6:TI≠i1
 d7:TI≠i2
 d8:TO≠i1
 d9:TO≠i2
 d0:i1≠i2
theorem Mq {P:aI}{w:bc}{K:a8}{elts:List b9}{x1}{pos:Pos} (l1 l2 z TI TO i1 i2:ah) (Z:WS z TI TO i1 i2) :
  xN P w K (.Tuple elts x1 pos) (WR K l1 l2) [z,TI,TO,i1,i2] z (fun i h=>vw h z TI TO .none/\jP h TI (.ref i1) (.ref i2)/\(∃ a b,jP h TO a b)/\h.IsTupleIter i1 l1 i/\h.IsTupleIter i2 l2 i) where
 mem:=by simp
 obj:=fun i h st b hb=>by
  obtain ⟨s1,s2,⟨_,_,s3⟩,⟨o4,e4,_,f4⟩,⟨o5,e5,_,f5⟩⟩:=st
  simp only [bf,aU,or_false] at hb
  rcases hb with rfl | rfl | rfl | rfl | rfl
  ·exact ⟨_,s1,fun v q=>by cases q⟩
  ·exact ⟨_,s2,fun v q=>by cases q⟩
  ·exact ⟨_,s3,fun v q=>by cases q⟩
  ·exact ⟨o4,e4,fun v q=>by rw [f4] at q;cases q⟩
  ·exact ⟨o5,e5,fun v q=>by rw [f5] at q;cases q⟩
 keep:=fun i h h' st k=>by
  obtain ⟨s1,s2,⟨u,v,s3⟩,⟨o4,e4,r4⟩,⟨o5,e5,r5⟩⟩:=st
  exact ⟨k z (by simp) _ s1,k TI (by simp) _ s2,⟨u,v,k TO (by simp) _ s3⟩,⟨o4,k i1 (by simp) _ e4,r4⟩,⟨o5,k i2 (by simp) _ e5,r5⟩⟩
 item:=by
  intro X hP hw hK hc i pins s σ H E I hf st hg
  subst hP hw hK
  obtain ⟨xs,ys,x,y,hq1,hq2,hx,hy⟩:=hg
  obtain ⟨its1,rv1,p1,_⟩:=I.tuple hq1
  obtain ⟨its2,rv2,p2,_⟩:=I.tuple hq2
  obtain ⟨u,hu,ru⟩:=rv1.get hx
  obtain ⟨v,hv,rv⟩:=rv2.get hy
  obtain ⟨s1,s2,⟨a,b,s3⟩,s4,s5⟩:=st
  have ne1:∀ b∈[z,TI,TO,i1,i2],l1≠b:=fun b hb=>hq1.ne_fp I (hf b hb)
  have ne2:∀ b∈[z,TI,TO,i1,i2],l2≠b:=fun b hb=>hq2.ne_fp I (hf b hb)
  have D:P5 z TI TO i1 i2 l1 l2:=⟨Z.d1,Z.d2,Z.d3,Z.d4,Z.d5,Z.d6,Z.d7,Z.d8,Z.d9,Z.d0,ne1 z (by simp),ne1 TO (by simp),ne1 i1 (by simp),ne1 i2 (by simp),ne2 z (by simp),ne2 TO (by simp),ne2 i1 (by simp),ne2 i2 (by simp)⟩
  have zl:=ao s1
  have hT:s.TypeIs (.ref z) "zip":=⟨_,s1,rfl⟩
  unfold jr
  refine a7 (iI (cm (name:=gy "__next__") hT sA ?_))
  refine bZ sA hT F.entry_zip_next (Mo D s1 s2 s3 s4 s5 p1 p2 (by simpa using hu) (by simpa using hv) fun h1 z1 t1 y1 y2 pr k1=>?_) (F.args_zip_next_1 _)
  refine ac ⟨_,rfl,wpAny_letOwnedTupleGo_zip z1 fun h2 z2 b2=>?_⟩
  have szn:s.heap.objs.size≠z:=eU zl
  have TIk:jP h1 TI (.ref i1) (.ref i2):=k1 TI _ Z.d1 Z.d5 Z.d6 Z.d7 s2
  have I2:bF X pins σ H { s with heap:=h2 }:=I.turnedL (t':=s.toks) (ch:=[z,TI,TO,i1,i2]) (fun b o hb q=>by
   simp only [bf,aU,or_false,not_or] at hb
   exact (b2.2 b hb.1).trans (k1 b o hb.1 hb.2.2.1 hb.2.2.2.1 hb.2.2.2.2 q)) hf
  have fT:=I.fpOk (H':=H) (au _) (I.hok.fresh (au _))
  have pr2:h2.get? s.heap.objs.size=some { cls:=.type "tuple",data:=.seq #[u,v] }:=(b2.2 _ szn).trans pr
  have I3:=I2.track (ho:=.tup [x,y]) fT ⟨by show 2<=sizeLine;decide,[u,v],.cons ru (.cons rv .nil),⟨_,pr2,rfl,0,rfl⟩⟩
  refine ⟨.ref s.heap.objs.size,_,I3,rfl,⟨_,fT.1,rfl,fun xs' ys' h1 h2=>?_⟩,⟨z2,(b2.2 TI Z.d1).trans TIk,⟨u,v,(b2.2 TO Z.d2).trans t1⟩,iW y1 b2 Z.d3,iW y2 b2 Z.d4⟩,fun b hb=>?_⟩
  ·rw [I.tuple_inj h1 hq1,I.tuple_inj h2 hq2];exact ⟨x,y,hx,hy,rfl⟩
  ·have bl:b<s.heap.objs.size:=by
    simp only [bf,aU,or_false] at hb
    rcases hb with q | q | q | q | q
    ·rw [q];exact zl
    ·rw [q];exact ao s2
    ·rw [q];exact ao s3
    ·obtain ⟨_,e,_⟩:=s4;rw [q];exact ao e
    ·obtain ⟨_,e,_⟩:=s5;rw [q];exact ao e
   rw [aT (aB bl)];exact (hf b hb).1
 done:=by
  intro X hP hw hK hc i pins s σ H E I hf st hg
  subst hP hw hK
  obtain ⟨xs,ys,hq1,hq2,hend⟩:=hg
  obtain ⟨its1,rv1,p1,_⟩:=I.tuple hq1
  obtain ⟨its2,rv2,p2,_⟩:=I.tuple hq2
  obtain ⟨s1,s2,⟨a,b,s3⟩,s4,s5⟩:=st
  have ne1:∀ b∈[z,TI,TO,i1,i2],l1≠b:=fun b hb=>hq1.ne_fp I (hf b hb)
  have ne2:∀ b∈[z,TI,TO,i1,i2],l2≠b:=fun b hb=>hq2.ne_fp I (hf b hb)
  have D:P5 z TI TO i1 i2 l1 l2:=⟨Z.d1,Z.d2,Z.d3,Z.d4,Z.d5,Z.d6,Z.d7,Z.d8,Z.d9,Z.d0,ne1 z (by simp),ne1 TO (by simp),ne1 i1 (by simp),ne1 i2 (by simp),ne2 z (by simp),ne2 TO (by simp),ne2 i1 (by simp),ne2 i2 (by simp)⟩
  have hT:s.TypeIs (.ref z) "zip":=⟨_,s1,rfl⟩
  have n1:=rv1.length
  have n2:=rv2.length
  unfold jr
  refine a7 (iI (cm (name:=gy "__next__") hT sA ?_))
  refine bZ sA hT F.entry_zip_next (Mp (by simpa using I.ok.hd hc) D s1 s2 s3 s4 s5 p1 p2 (hend.elim (fun q=>.inl (by simp;omega)) fun q=>.inr (by simp;omega)) fun h' e kp he=>?_) (F.args_zip_next_1 _)
  obtain ⟨o,eo,co⟩:=he
  refine a7 (hJ (T:="StopIteration") (b:=true) ⟨o,eo,co⟩ vv ?_)
  exact ac ⟨rfl,I.turnedL (t':=s.toks) (ch:=[z,TI,TO,i1,i2]) (fun b o hb q=>by
   simp only [bf,aU,or_false,not_or] at hb
   exact kp b o hb.1 hb.2.2.1 hb.2.2.2.1 hb.2.2.2.2 q) hf⟩
 self:=fun _ _ _ _ _ st h=>wpAny_pyIter_zip st.1 h
def WT (K:a8) (ta:TA):TI:=fun σ H R=>ta σ H fun vs H1=>∃ a b xs ys,vs=[.ref a,.ref b]/\kn K H1 a xs/\kn K H1 b ys/\R (WR K a b) H1
theorem T3 {X:Cx}{elts:List b9}{x1}{tpos p pos:Pos}{a b:b9}{ta:TA} (hg:Gl X "zip") (hm:X.mg "zip"=none) (ha:PA X [a,b] ta) (hs:az [a,b] X.env=[(false,dz a X.env),(false,dz b X.env)]:=by rfl)
  (hs2:az [b] X.env=[(false,dz b X.env)]:=by rfl):PI X (.Tuple elts x1 tpos) (.Call (.Name "zip" p) [a,b] [] pos) (WT X.K ta):=by
 intro pins s σ H R I h
 refine Call_ (sY I hg hm boot_zip (eW (fD (ha pos pins s σ H _ I h) fun us s1 ⟨vs,H1,I1,r1,q1⟩=>?_) (by rw [hs,hs2]) (by rw [hs2];rfl)))
 obtain ⟨a1,a2,xs,ys,rfl,hq1,hq2,q⟩:=q1
 obtain ⟨u1,u2,rfl,rx1,rx2⟩:=LV r1
 cases rx1
 cases rx2
 obtain ⟨its1,rv1,p1,_⟩:=I1.tuple hq1
 obtain ⟨its2,rv2,p2,_⟩:=I1.tuple hq2
 refine C3 (show s1.heap.IsTuple a1 its1.toArray from p1) (show s1.heap.IsTuple a2 its2.toArray from p2) fun h' c1 c2 c3 c4 c5 kp=>?_
 refine wpAny_pyIter_zip c1 ?_
 have I2:bF X pins σ H1 { s1 with heap:=h' }:=I1.kept (t':=s1.toks) kp
 have ad:∀ k j:Nat,k≠j->s1.heap.objs.size + k≠s1.heap.objs.size + j:=fun k j n e=>n (Nat.add_left_cancel e)
 refine ⟨s1.heap.objs.size + 4,[s1.heap.objs.size + 4,s1.heap.objs.size + 2,s1.heap.objs.size + 3,s1.heap.objs.size + 0,s1.heap.objs.size + 1],_,_,H1,rfl,I2,
  Mq a1 a2 _ _ _ _ _ ⟨ad _ _ (by decide),ad _ _ (by decide),ad _ _ (by decide),ad _ _ (by decide),ad _ _ (by decide),ad _ _ (by decide),ad _ _ (by decide),ad _ _ (by decide),ad _ _ (by decide),ad _ _ (by decide)⟩,
  ⟨c1,c2,⟨_,_,c3⟩,c4,c5⟩,fun b hb=>?_,q⟩
 have:∀ k:Nat,qq X pins H1 (s1.heap.objs.size + k):=fun k=>I1.fpOk (P8 _ _) (I1.hok.fresh (P8 _ _))
 simp only [bf,aU,or_false] at hb
 rcases hb with q | q | q | q | q<;>(rw [q];exact this _)
end L2
end
section
namespace L2
open PySem PySem.Spec PyProof.Rows
mutual
inductive Gu (K:a8) (H:Hp):V->ql->Prop
 | none:Gu K H .non .none
 | bool (b:Bool):Gu K H (.bl b) (.bool b)
 | int (i:Int):Gu K H (.int i) (.int i)
 | str (x:Str):Gu K H (.str x) (.str x)
 | list {a:ah}{xs:List V}{ds:List ql}:lF K H a xs->Reps K H xs ds->Gu K H (.ref a) (.list ds)
 | tuple {a:ah}{xs:List V}{ds:List ql}:kn K H a xs->Reps K H xs ds->Gu K H (.ref a) (.tuple ds)
inductive Reps (K:a8) (H:Hp):List V->List ql->Prop
 | nil:Reps K H [] []
 | cons {x:V}{xs:List V}{d:ql}{ds:List ql}:Gu K H x d->Reps K H xs ds->Reps K H (x::xs) (d::ds)
end
theorem du.tup {K:a8}{H H':Hp}{a:ah}{xs:List V} (e:du H H') (h:kn K H a xs):kn K H' a xs:=by
 rcases h with (h | ⟨o,h⟩) | h
 ·exact .inl (.inl (e _ _ h))
 ·exact .inl (.inr ⟨o,e _ _ h⟩)
 ·exact .inr h
section
variable {X:Cx}{pins:List (ah×Obj)}{σ:St}{H:Hp}{s:af}
theorem PU (I:bF X pins σ H s) {a:ah}{xs:List V}{ds:List ql}{u:a9} (h:lF X.K H a xs) (ih:∀ {us:List a9},dn xs us->∃ as,ReadsAll s.heap us ds as) (r:dm (.ref a) u):∃ as,Reads s.heap u (.list ds) as:=by
 cases r
 obtain ⟨its,rv,⟨o,n,e,c,_,d⟩,_⟩:=I.list h
 obtain ⟨as,ra⟩:=ih rv
 exact ⟨_,.list e c d (by simpa using ra)⟩
theorem Mr (I:bF X pins σ H s) {a:ah}{xs:List V}{ds:List ql}{u:a9} (h:kn X.K H a xs) (ih:∀ {us:List a9},dn xs us->∃ as,ReadsAll s.heap us ds as) (r:dm (.ref a) u):∃ as,Reads s.heap u (.tuple ds) as:=by
 cases r
 obtain ⟨its,rv,⟨o,e,c,n,d⟩,_⟩:=I.tuple h
 obtain ⟨as,ra⟩:=ih rv
 exact ⟨_,.tuple e c d (by simpa using ra)⟩
theorem rj (I:bF X pins σ H s) {v:V}{d:ql} (h:Gu X.K H v d):∀ {u:a9},dm v u->∃ as,Reads s.heap u d as :=
 Gu.rec (motive_1:=fun v d _=>∀ {u:a9},dm v u->∃ as,Reads s.heap u d as) (motive_2:=fun vs ds _=>∀ {us:List a9},dn vs us->∃ as,ReadsAll s.heap us ds as)
  (fun r=>by cases r;exact ⟨_,.none⟩) (fun b _ r=>by cases r;exact ⟨_,.bool b⟩) (fun i _ r=>by obtain ⟨t,rfl⟩:=r;exact ⟨_,.int i t⟩) (fun x _ r=>by obtain ⟨t,rfl⟩:=r;exact ⟨_,.str x t⟩)
  (fun h _ ih _ r=>PU I h ih r) (fun h _ ih _ r=>Mr I h ih r) (fun r=>by cases r;exact ⟨_,.nil⟩) (fun _ _ a b _ r=>by
   cases r with
   | cons r rs =>
    obtain ⟨as,ra⟩:=a r
    obtain ⟨bs,rb⟩:=b rs
    exact ⟨_,.cons ra rb⟩) h
end
section
variable {X:Cx}
inductive Rp (K:a8) (neg:Bool) (x:V) (y:V) (H:Hp) (Q:VK):Prop
 | mk (dx dy:_) (h0:Gu K H x dx) (h1:Gu K H y dy) (h2:dx.canLay0=true) (h3:dy.canLay0=true) (h4:min dx.depth dy.depth<=60) (h5:Q (.bl (if neg then !aZ dx dy else aZ dx dy)) H):Rp K neg x y H Q
def T4 (K:a8) (neg:Bool):R2:=Rp K neg
theorem T5 (hu:X.A.units + 64<k7):pZ X (bG .Eq) (T4 X.K false):=by
 intro pins s σ H x y v u Q I rx ry h
 obtain ⟨dx,dy,hx,hy,lx,ly,dp,q⟩:=h
 obtain ⟨as,ra⟩:=rj I hx rx
 obtain ⟨bs,rb⟩:=rj I hy ry
 exact PySem.SeqAt.compareEq_reads ra rb lx ly (by omega) ⟨.bl _,H,I,rfl,q⟩
theorem T6 (hu:X.A.units + 64<k7):pZ X (bG .NotEq) (T4 X.K true):=by
 intro pins s σ H x y v u Q I rx ry h
 obtain ⟨dx,dy,hx,hy,lx,ly,dp,q⟩:=h
 obtain ⟨as,ra⟩:=rj I hx rx
 obtain ⟨bs,rb⟩:=rj I hy ry
 exact PySem.SeqAt.compareNe_reads ra rb lx ly (by omega) ⟨.bl _,H,I,rfl,q⟩
end
end L2
end
section
namespace L2
open PySem PySem.Spec PyProof.Rows
structure Rq (P:aI) (w:bc) (l:List Env) (H H':Hp) (h h' B:br) (ea C t:ah):Prop where
 fly:Heap.FlyingW B l ea (.ref C) (.ref t) h'
 cov:∀ b u,H' b=some u->∃ o,B.get? b=some o
 old:∀ b o,h.get? b=some o->H b=none->b∉r9 l->B.get? b=some o
 all:∀ b o,h.get? b=some o->b∉r9 l->∃ o',B.get? b=some o'
 un:Un (r9 l) [] H H' h h'
 hok:pQ P w H' h'
inductive UJ (P:aI) (w:bc) (outer:List Env) (H:Hp) (s:af) (E:XK) (e:a9) (s':af):Prop
 | mk (ea C t H' B:_) (h0:e=.ref ea) (h1:s'.os=s.os) (h2:q0 s'.gens) (h3:Rq P w outer H H' s.heap s'.heap B ea C t) (h4:E (.ref C) none H'):UJ P w outer H s E e s'
def mh (P:aI) (w:bc):HW:=UJ P w
theorem Ms {P:aI}{w:bc}{H:Hp}{h:br}{b:ah}{u:HO} (x:pQ P w H h) (e:H b=some u):∃ o,h.get? b=some o:=by
 have y:=x b u e
 cases u with
 | lst xs=>obtain ⟨_,_,_,_,k⟩:=y;exact ⟨_,k⟩
 | tup xs=>obtain ⟨_,_,_,o,k,_⟩:=y;exact ⟨o,k⟩
 | dK kvs=>obtain ⟨_,_,_,_,o,_,_,k,_⟩:=y;exact ⟨o,k⟩
 | dT kvs=>obtain ⟨_,_,_,_,o,_,_,k,_⟩:=y;exact ⟨o,k⟩
 | set S n=>obtain ⟨o,_,_,_,k,_⟩:=y;exact ⟨o,k⟩
 | ins C dx fs=>obtain ⟨_,_,_,k,_⟩:=y;exact ⟨_,k⟩
 | own y'=>exact y
 | xd fs=>obtain ⟨_,⟨o,_,_,k,_⟩,_⟩:=y;exact ⟨o,k⟩
 | rng lo hi=>obtain ⟨_,_,_,k⟩:=y;exact ⟨_,k⟩
 | frz o u=>exact ⟨o,y.1⟩
 | tbl ps=>exact ⟨_,y⟩
 | met f y'=>exact ⟨_,y⟩
 | ext φ=>exact y.2.1
theorem Ii {l:List Env}{env:Env}{b:ah} (he:env∈l) (hf:env.frame=some b):b∈r9 l:=List.mem_filterMap.mpr ⟨env,he,hf⟩
section
variable {P:aI}{w:bc}{l:List Env}{H H':Hp}{h h' h'' B:br}{ea C t:ah}
theorem Rq.kp (x:Rq P w l H H' h h' B ea C t) (st:B.StaysIn h'') (b:ah) (u:HO) (o:Obj) (e:H' b=some u) (q:h'.get? b=some o):h''.get? b=some o:=by
 obtain ⟨o',e1⟩:=x.cov b u e
 have:=x.fly.1 b o' e1
 rw [q] at this;cases this
 exact st b o e1
theorem Rq.on (x:Rq P w l H H' h h' B ea C t) (fl:Heap.FlyingW B l ea (.ref C) (.ref t) h'') (up:h'.UpToSlots h''):Rq P w l H H' h h'' B ea C t:=by
 have st:=fl.1
 refine ⟨fl,x.cov,x.old,x.all,⟨fun b o q n hb hx=>st b o (x.old b o q n hb),fun b o q n hb hx=>?_,x.un.free,fun b o q hx=>?_,x.un.tups,x.un.frzs,x.un.tbls⟩,fun b u e=>?_⟩
 ·obtain ⟨sl,e1⟩:=x.un.slot b o q n hb hx
  obtain ⟨_,o',k1,k2⟩:=f6 x.fly.2.2.1 hb
  rw [e1] at k1;cases k1
  obtain ⟨sl',e2⟩:=up b _ e1 k2
  exact ⟨sl',e2⟩
 ·by_cases hb:b∈r9 l
  ·obtain ⟨_,o',k1,_⟩:=f6 fl.2.2.1 hb
   exact ⟨o',k1⟩
  ·obtain ⟨o',k⟩:=x.all b o q hb
   exact ⟨o',st b o' k⟩
 ·exact (x.hok b u e).stay (fun c o hc q=>by
   rcases hc with z | z
   ·rw [z] at q ⊢;exact x.kp st b u o e q
   ·exact x.kp st c _ o z q) (fun _ q=>q) fun _ _ q=>q
end
section
variable {P:aI}{w:bc}{K:a8}{mg:Str->Option a9}{base:br}{N:List Str}{qual:Str}{scope:eT}{f:ah}{cd:a9}{A:bg}{outer:List Env}{s:af}{H:Hp}{E:XK}
theorem C4 {pins:List (ah×Obj)}{σ:St}{H1:Hp}{s1:af}{h':br}{ea C:ah}{vs:List a9} (I:bF (iV (mh P w) P w K mg base N qual scope f cd A outer s H E) pins σ H1 s1)
  (hx:Heap.MadeExcOf s1.heap h' ea (.ref C) vs) (q:E (.ref C) none H1):(iV (mh P w) P w K mg base N qual scope f cd A outer s H E).xe (.ref ea) { s1 with heap:=h' }:=by
 let X:=iV (mh P w) P w K mg base N qual scope f cd A outer s H E
 let B:=L7 s1.heap (r9 X.stack)
 have hin:∀ env∈X.stack,∀ a,env.frame=some a->a∈r9 X.stack:=fun env he a hf=>Ii he hf
 have stB:B.StaysIn s1.heap:=fun b o e=>FI _ e
 have nS:∀ b,b∉r9 X.stack->∀ o,s1.heap.get? b=some o->B.get? b=some o:=fun b n o e=>Ft _ e n
 show aq _ X.A (leaving X.env (.ref ea)) _ _ _
 refine wpAny_leaves_madeW (s:={ s1 with heap:=h' }) (base:=B) (outer:=outer) (L:=X.env.locals) I.ok.frames rfl stB (PySem.W.funFrames_hide I.stack hin) hx fun h2 t fl tup tn up=>?_
 have st2:=fl.1
 have bl:∀ b o,s.heap.get? b=some o->b∉r9 outer->b∉r9 X.stack:=fun b o e n z=>by
  rcases List.mem_cons.mp (I.stkSub b z) with y | y
  ·exact absurd (ao e) (by rw [y];exact Nat.not_lt.mpr I.ok.above)
  ·exact n y
 have noex:∀ b:ah,b∉X.ex:=fun b z=>absurd (show b∈([] : List ah) from z) (by simp)
 have cov:∀ b u,H1 b=some u->∃ o,B.get? b=some o:=fun b u e=>by
  have hb:b∉r9 X.stack:=fun z=>by have:=I.stkFree b z;rw [e] at this;cases this
  obtain ⟨o,k⟩:=Ms I.hok e
  exact ⟨o,nS b hb o k⟩
 refine ⟨ea,C,t,H1,B,rfl,I.os,I.bare,⟨fl,cov,fun b o e n hb=>?_,fun b o e hb=>?_,⟨fun b o e n hb hx'=>?_,fun b o e n hb hx'=>?_,fun b o e n _=>I.base.free b o e n (noex b),fun b o e _=>?_,I.base.tups,I.base.frzs,I.base.tbls⟩,fun b u e=>?_⟩,q⟩
 ·exact nS b (bl b o e hb) o (I.base.keep b o e n hb (noex b))
 ·obtain ⟨o',k⟩:=I.base.there b o e (noex b)
  exact ⟨o',nS b (bl b o e hb) o' k⟩
 ·exact st2 b o (nS b (bl b o e hb) o (I.base.keep b o e n hb (noex b)))
 ·obtain ⟨sl,k⟩:=I.base.slot b o e n hb (noex b)
  obtain ⟨_,o',k1,k2⟩:=f6 I.funs hb
  rw [k] at k1;cases k1
  obtain ⟨sl',k3⟩:=up b _ (hx.keeps _ _ k) k2
  exact ⟨sl',k3⟩
 ·obtain ⟨o',k⟩:=I.base.there b o e (noex b)
  by_cases hb:b∈r9 outer
  ·obtain ⟨_,o2,k1,_⟩:=f6 fl.2.2.1 hb
   exact ⟨o2,k1⟩
  ·exact ⟨o',st2 b o' (nS b (bl b o e hb) o' k)⟩
 ·refine (I.hok b u e).stay (fun c o hc k=>?_) (fun _ q=>q) fun _ _ q=>q
  have hcs:c∉r9 X.stack:=fun z=>by
   have:=I.stkFree c z
   rcases hc with y | y
   ·rw [y,e] at this;cases this
   ·rw [y] at this;cases this
  exact st2 c o (nS c hcs o k)
theorem DR {E':XK} (hE:∀ c H',E' c none H'->E c none H'):jw (mh P w) (iV (mh P w) P w K mg base N qual scope f cd A outer s H E) E':=by
 intro pins σ H1 s1 e s' I h
 obtain ⟨ea,C,t,H',B,rfl,os,bare,x,q⟩:=h
 let X:=iV (mh P w) P w K mg base N qual scope f cd A outer s H E
 have noex:∀ b:ah,b∉X.ex:=fun b z=>absurd (show b∈([] : List ah) from z) (by simp)
 have bl:∀ b o,s.heap.get? b=some o->b∉r9 outer->b∉r9 X.stack:=fun b o e n z=>by
  rcases List.mem_cons.mp (I.stkSub b z) with y | y
  ·exact absurd (ao e) (by rw [y];exact Nat.not_lt.mpr I.ok.above)
  ·exact n y
 have sub:∀ b∈r9 outer,b∈r9 X.stack:=fun b hb=>by
  obtain ⟨env,he,hf⟩:=List.mem_filterMap.mp hb
  exact Ii (am _ he) hf
 show aq _ X.A (leaving X.env (.ref ea)) _ _ _
 refine wpAny_leaves_onW (base:=B) (outer:=outer) (L:=X.env.locals) I.ok.frames rfl x.fly fun h2 fl up=>?_
 have st2:=fl.1
 refine ⟨ea,C,t,H',B,rfl,os.trans I.os,bare,⟨fl,x.cov,fun b o e n hb=>?_,fun b o e hb=>?_,⟨fun b o e n hb hx'=>?_,fun b o e n hb hx'=>?_,fun b o e n _=>?_,fun b o e _=>?_,fun b xs e=>x.un.tups b xs (I.base.tups b xs e),fun b o xs e=>x.un.frzs b o xs (I.base.frzs b o xs e),fun b ps e=>?_⟩,fun b u e=>?_⟩,hE _ _ q⟩
 ·exact x.old b o (I.base.keep b o e n hb (noex b)) (I.base.free b o e n (noex b)) (bl b o e hb)
 ·obtain ⟨o',k⟩:=I.base.there b o e (noex b)
  exact x.all b o' k (bl b o e hb)
 ·exact st2 b o (x.old b o (I.base.keep b o e n hb (noex b)) (I.base.free b o e n (noex b)) (bl b o e hb))
 ·obtain ⟨sl,k⟩:=I.base.slot b o e n hb (noex b)
  obtain ⟨sl1,k1⟩:=x.un.slot b _ k (I.base.free b o e n (noex b)) (sub b hb) (by simp)
  obtain ⟨_,o',k2,k3⟩:=f6 x.fly.2.2.1 (sub b hb)
  rw [k1] at k2;cases k2
  obtain ⟨sl2,k4⟩:=up b _ k1 k3
  exact ⟨sl2,k4⟩
 ·obtain ⟨o',k⟩:=I.base.there b o e (noex b)
  exact x.un.free b o' k (I.base.free b o e n (noex b)) (by simp)
 ·obtain ⟨o',k⟩:=I.base.there b o e (noex b)
  by_cases hb:b∈r9 outer
  ·obtain ⟨_,o2,k1,_⟩:=f6 fl.2.2.1 hb
   exact ⟨o2,k1⟩
  ·obtain ⟨o2,k2⟩:=x.all b o' k (bl b o e hb)
   exact ⟨o2,st2 b o2 k2⟩
 ·obtain ⟨m1,e1⟩:=I.base.tbls b ps e
  obtain ⟨m2,e2⟩:=x.un.tbls b _ e1
  exact ⟨m1++m2,by rw [e2,Jm]⟩
 ·exact (x.hok b u e).stay (fun c o hc k=>by
   rcases hc with z | z
   ·rw [z] at k ⊢;exact x.kp st2 b u o e k
   ·exact x.kp st2 c _ o z k) (fun _ q=>q) fun _ _ q=>q
end
end L2
end
section
namespace L2
open PySem PySem.Spec PyProof.Rows
section
variable {P:aI}{w:bc}{K:a8}{mg:Str->Option a9}{base:br}{N:List Str}{qual:Str}{scope:eT}{f:ah}{cd:a9}{A:bg}{outer:List Env}{s:af}{H:Hp}{E:XK}
theorem Mt {x:Str}{np cpos pos:Pos}{e0:b9}{bW:List b9}{C:ah}{bmB:List a9}{newId initId Bn:String}{ta:TA} (O:OwnCls x C bmB newId mg base) (FB:ExcBaseFacts Bn newId initId bmB)
  (hg:Gl (iV (mh P w) P w K mg base N qual scope f cd A outer s H E) x) (ha:PA (iV (mh P w) P w K mg base N qual scope f cd A outer s H E) (e0::bW) ta)
  (he:az (e0::bW) (iV (mh P w) P w K mg base N qual scope f cd A outer s H E).env=(false,dz e0 (iV (mh P w) P w K mg base N qual scope f cd A outer s H E).env)::az bW (iV (mh P w) P w K mg base N qual scope f cd A outer s H E).env:=by rfl)
  (hdb:(x == ("__debug__" : Str))=false:=by decide) (hpl:(fO cpos (az bW (iV (mh P w) P w K mg base N qual scope f cd A outer s H E).env)).any (·.1)=false:=by rfl) :
  PS (iV (mh P w) P w K mg base N qual scope f cd A outer s H E) (.Raise (some (.Call (.Name x np) (e0::bW) [] cpos)) none pos) (fun D σ H1=>ta σ H1 fun vs H2=>vs.length<=sizeLine/\E (.ref C) none H2):=by
 intro pins s1 σ H1 D I h
 obtain ⟨tl,Nn,nm,q,bs,hdct,sn,sub,ab,col,dd,k0,k1,k2,k3,k5,mN,hC,hN,hni,T⟩:=O.obj
 refine wpAny_Raise_call_subT (C:=C) (nm:=nm) (q:=q) (N:=Nn) (bs:=bs) (bm:=tl) (hdct:=hdct) (sn:=sn) (sub:=sub) (ab:=ab) (col:=col) (dd:=dd) (k0:=k0) (k1:=k1) (k2:=k2) (k3:=k3) (k5:=k5)
  FB (mN:=mN) (T.hasType FB.hasBase) (I.ok.hd rfl) ?_ hni (xm I hg O.bound ⟨rfl,?_⟩ hdb)
 ·rw [he]
  show (false || _)=false
  rw [Dg];exact hpl
 ·have hx:=ha cpos pins s1 σ H1 _ I h
  rw [he] at hx ⊢
  refine FS (fD hx fun us s2 ⟨vs,H2,I2,r2,z,qE⟩=>?_)
  have kb:∀ b o,base.get? b=some o->s2.heap.get? b=some o:=I2.bk
  exact ⟨rfl,by show us.length<=sizeLine;rw [<- r2.length];exact z,kb _ _ hC,hN.keeps kb,T.keeps kb,fun h' ea hm=>C4 I2 hm qE⟩
end
structure Gv (base:br) (C:ah) (bm:List a9):Prop where
 obj:∃ nm q N bs hdct sn sub ab col dd k0 k1 k2 k3 k5 newId,base.get? C=some (excClassObj nm q C N bs bm hdct sn sub ab col dd k0 k1 k2 k3 k5 newId)
 exc:bm.contains (.type "BaseException")=true
theorem x_ {M:FJ}{A:bg}{E:a9->af->Prop}{s:af}{base:br}{ea C Cp:ah}{bm bp:List a9}{oe:Obj}{Q:Bool->af->Prop} (kb:∀ b o,base.get? b=some o->s.heap.get? b=some o) (x:Gv base C bm) (y:Gv base Cp bp)
  (hm:bm.contains (.ref Cp)=true) (he:s.heap.get? ea=some oe) (hcls:oe.cls=.ref C) (h:Q true s):aq M A (excMatches (.ref ea) (.ref Cp)) Q E s:=by
 obtain ⟨⟨nm,q,Nn,bs,hdct,sn,sub,ab,col,dd,k0,k1,k2,k3,k5,newId,o1⟩,x2⟩:=x
 obtain ⟨⟨nm',q',Nn',bs',hdct',sn',sub',ab',col',dd',k0',k1',k2',k3',k5',newId',o2⟩,y2⟩:=y
 have hC:=kb _ _ o1
 have hP:=kb _ _ o2
 have c1:(bK C::bm).contains (.ref Cp)=true:=by rw [vh,hm,Bool.or_true]
 have c2:(bK Cp::bp).contains (.type "BaseException")=true:=by rw [vh,y2,Bool.or_true]
 have f:=tc_notTuple
 obtain ⟨hp,g,d,tk,os⟩:=s
 unfold excMatches
 repeat (first
  | (with_reducible refine wpAny_loadPart_at he ?_;rw [hcls])
  | with_reducible refine wpAny_loadPart_at hP ?_
  | (with_reducible refine wpAny_isSubtype_exc hC ?_;rw [c1])
  | (with_reducible refine wpAny_isSubtype_exc hP ?_;rw [c2])
  | wp_step)
 exact h
def y0 (ea C:ah):HO:=.ext fun h=>∃ o,h.get? ea=some o/\o.cls=.ref C
theorem PV {P:aI}{w:bc}{H:Hp}{h:br}{ea C:ah}{o:Obj} (e:h.get? ea=some o) (c:o.cls=.ref C):cY P w H h ea (y0 ea C) :=
 ⟨⟨o,e,c⟩,⟨o,e⟩,fun h1 h2 ⟨o,e,c⟩ k=>⟨o,k o e,c⟩⟩
def Uc (X:Cx) (ea:ah):Cx:={ X with A:=X.A.mark (some (.ref ea)),calm:=false,xe:=fun _ _=>False }
theorem bF.inH {X:Cx}{pins:List (ah×Obj)}{σ:St}{H:Hp}{s:af} (I:bF X pins σ H s) (ea:ah):bF (Uc X ea) pins σ H s :=
 ⟨⟨I.ok.mod,I.ok.kind,I.ok.glob,I.ok.blt,I.ok.above,I.ok.inj,I.ok.has,I.ok.cab,(fun z=>kH z),I.ok.frames,I.ok.stk,I.ok.exf,I.ok.bs,I.ok.bsz,I.ok.noex,I.ok.exfs,I.ok.funs,I.ok.frf⟩,I.os,I.bare,I.base,I.loc,I.cell,I.free,I.freeC,I.pin,I.hok,I.len⟩
theorem bF.outH {X:Cx}{pins:List (ah×Obj)}{σ:St}{H:Hp}{s:af}{ea:ah} (ok:X.Ok) (I:bF (Uc X ea) pins σ H s):bF X pins σ H s :=
 ⟨ok,I.os,I.bare,I.base,I.loc,I.cell,I.free,I.freeC,I.pin,I.hok,I.len⟩
def y8 (X:Cx):St:=mq X.N.length none
theorem bF.forget {X:Cx}{pins:List (ah×Obj)}{σ:St}{H:Hp}{s:af}{h':br}{t':Nat}{m':Str->Option a9} (I:bF X pins σ H s) (hn:h'.Ns X.env.locals m') (sb:bD X.env.locals s.heap h'):bF X pins (y8 X) H { s with heap:=h',toks:=t' }:=by
 have ne0:∀ b o,X.s₀.heap.get? b=some o->b≠X.env.locals:=fun b o e=>aB (aK (ao e) I.ok.above)
 refine ⟨I.ok,I.os,I.bare,⟨fun b o e n hb hx=>(sb.2 b (ne0 b o e)).trans (I.base.keep b o e n hb hx),fun b o e n hb hx=>?_,I.base.free,fun b o e hx=>?_,I.base.tups,I.base.frzs,I.base.tbls⟩,⟨m',hn,fun i x v h1 h2 h3=>?_⟩,fun x c e=>?_,I.free,I.freeC,fun p hp=>?_,xU I.hok I.free sb,by simp [y8]⟩
 ·obtain ⟨sl,k⟩:=I.base.slot b o e n hb hx
  exact ⟨sl,(sb.2 b (ne0 b o e)).trans k⟩
 ·obtain ⟨o',k⟩:=I.base.there b o e hx
  exact ⟨o',(sb.2 b (ne0 b o e)).trans k⟩
 ·have h2:(y8 X)[i]?=some (some v):=h2
  unfold y8 at h2
  rw [bR] at h2
  split at h2<;>cases h2
 ·obtain ⟨v,z⟩:=I.cell x c e
  exact ⟨v,z.sameBut sb (I.cne x c e)⟩
 ·obtain ⟨e,n,ne,nf,d⟩:=I.pin p hp
  exact ⟨(sb.2 p.1 ne).trans e,n,ne,nf,d⟩
def Rr (X:Cx) (Cp:ah) (i:Nat) (ts:TS) (D:sX):XK:=fun c _ H'=>∃ C bm,c=.ref C/\Gv X.base C bm/\bm.contains (.ref Cp)=true /\
 ∀ ea,H' ea=none->ts { nx:=fun _ H=>D.nx (y8 X) H,rt:=D.rt } ((y8 X).set i (some (.ref ea))) (upd H' ea (y0 ea C))
def WU (X:Cx) (Cp:ah) (i:Nat) (tb:XK->TS) (ts:TS):TS:=fun D σ H=>tb (Rr X Cp i ts D) D σ H
theorem Mu {X:Cx}{A:bg}{E:a9->af->Prop}{pins:List (ah×Obj)}{s:af}{σ:St}{H:Hp}{x:Str}{u:a9}{pos:Pos}{Q:a9->af->Prop} (I:bF X pins σ H s) (hg:Gl X x) (hm:X.mg x=some u) (h:Q u s)
  (hd:(x == ("__debug__" : Str))=false:=by decide):aq (aF X.prog X.w) A (dz (.Name x pos) X.env) Q E s :=
 mj I.ok.kind hg (Dd (by rw [I.ok.glob];exact I.mod.glob.keeps I.bk) hm h) hd
def Rs (X:Cx) (xe:a9->af->Prop) (pn:List (ah×Obj)):Cx:={ X with xe:=xe,pn:=pn }
theorem bF.inT {X:Cx}{pins:List (ah×Obj)}{σ:St}{H:Hp}{s:af} (I:bF X pins σ H s) (xe:a9->af->Prop):bF (Rs X xe (X.pn++pins)) [] σ H s :=
 ⟨⟨I.ok.mod,I.ok.kind,I.ok.glob,I.ok.blt,I.ok.above,I.ok.inj,I.ok.has,I.ok.cab,I.ok.hd,I.ok.frames,I.ok.stk,I.ok.exf,I.ok.bs,I.ok.bsz,I.ok.noex,I.ok.exfs,I.ok.funs,I.ok.frf⟩,I.os,I.bare,I.base,I.loc,I.cell,I.free,I.freeC,
  fun p hp=>I.pin p ((List.mem_append.mp hp).elim id fun z=>absurd z (by simp)),I.hok,I.len⟩
theorem bF.outT {X:Cx}{pins pins':List (ah×Obj)}{σ:St}{H:Hp}{s:af}{xe:a9->af->Prop} (ok:X.Ok) (I:bF (Rs X xe (X.pn++pins)) pins' σ H s):bF X pins σ H s :=
 ⟨ok,I.os,I.bare,I.base,I.loc,I.cell,I.free,I.freeC,fun p hp=>I.pin p (bP _ hp),I.hok,I.len⟩
theorem bF.track0 {X:Cx}{pins:List (ah×Obj)}{σ:St}{H:Hp}{s:af}{D:ah}{ho:HO} (I:bF X pins σ H s) (h0:X.s₀.heap.get? D=none) (f0:H D=none) (f1:D≠X.env.locals) (f4:∀ x c,X.env.cells.lookup x=some c->c≠D) (f5:∀ p∈X.pn++pins,p.1≠D)
  (new:cY X.prog X.w (upd H D ho) s.heap D ho):bF X pins σ (upd H D ho) s :=
 ⟨I.ok,I.os,I.bare,⟨I.base.keep,I.base.slot,fun b o e n hx=>by rw [aT (fun z=>by rw [z,h0] at e;cases e)];exact I.base.free b o e n hx,I.base.there,fun b xs e=>by have q:=I.base.tups b xs e;rw [aT (bi q f0)];exact q,
  fun b o xs e=>by have q:=I.base.frzs b o xs e;rw [aT (bi q f0)];exact q,fun b ps e=>by obtain ⟨m,q⟩:=I.base.tbls b ps e;exact ⟨m,by rw [aT (bi q f0)];exact q⟩⟩,I.loc,I.cell,
  by rw [aT (cZ f1)];exact I.free,fun x c e=>by rw [aT (f4 x c e)];exact I.freeC x c e,fun p hp=>by
  obtain ⟨e,n,r⟩:=I.pin p hp
  exact ⟨e,by rw [aT (f5 p hp)];exact n,r⟩,re I.hok f0 new,I.len⟩
theorem T7 {X:Cx}{body suite:List cr}{b0:cr}{x n:Str}{np hpos pos:Pos}{Cp:ah}{bp:List a9}{i:Nat}{tb:XK->TS}{ts:TS} (hg:Gl X x) (hm:X.mg x=some (.ref Cp)) (y:Gv X.base Cp bp)
  (hN:X.N.Nodup) (hi:X.N[i]?=some n) (hn:X.env.scope.names.lookup n=some .local) (hst:∃ l,X.stack=X.env::l/\X.env.frame=some X.env.locals) (hex:X.ex=[])
  (hb:∀ (E:XK) (xe:a9->af->Prop) (pn:List (ah×Obj)),jw (mh X.prog X.w) (Rs X xe pn) E->z_ (Rs X xe pn) body (tb E)) (hs:∀ ea,z_ (Uc X ea) (b0::suite) ts) (hdb:(x == ("__debug__" : Str))=false:=by decide) :
  PS X (.Try body [.ExceptHandler (some (.Name x np)) (some n) (b0::suite) hpos] [] [] pos) (WU X Cp i tb ts):=by
 intro pins s σ H D I h
 obtain ⟨l,hl,hfr⟩:=hst
 have ok:=I.ok
 refine wpAny_Try_except ?_
 let xe:a9->af->Prop:=fun e s₁=>aq (aF X.prog X.w) X.A (BF e X.env) (fun _ s₂=>aq (aF X.prog X.w) X.A (setFlight e none) (fun _ s₃ =>
  aq (aF X.prog X.w) X.A (handleBy e X.env [.ExceptHandler (some (.Name x np)) (some n) (b0::suite) hpos]) (SP X pins D) X.xe s₃) X.xe s₂) X.xe s₁
 have hp:jw (mh X.prog X.w) (Rs X xe (X.pn++pins)) (Rr X Cp i ts D):=by
  intro pins' σ' H1 s1 e s' I' hx
  have I1:bF X pins σ' H1 s1:=I'.outT ok
  obtain ⟨ea,C,t,H',B,rfl,os,bare,air,C',bm,hCe,ox,hcp,hts⟩:=hx
  cases hCe
  have air:Rq X.prog X.w X.stack H1 H' s1.heap s'.heap B ea C t:=air
  have land:∀ h2,Rq X.prog X.w X.stack H1 H' s1.heap h2 B ea C t->bF X pins σ' H' { s' with heap:=h2 }:=fun h2 a =>
   I1.call' (s':={ s' with heap:=h2 }) (ch:=[]) os a.un a.hok bare (fun b z=>absurd z (by simp))
  have fly:=air.fly
  rw [hl] at fly
  show aq _ X.A (BF (.ref ea) X.env) _ _ s'
  refine wpAny_looks_onW (base:=B) (outer:=l) (L:=X.env.locals) (by rw [ok.frames,hl]) hfr fly fun h2 hd2 up2=>?_
  refine wpAny_landsW hd2 fun h3 fl3 up3=>?_
  have up3':=up2.trans up3
  have a3:=air.on (by rw [hl];exact fl3) up3'
  have I3:=land h3 a3
  obtain ⟨oe,he,hcl⟩:=fl3.there
  refine wpAny_handleBy_cons (codeAny_handlers_test (Mu I3 hg hm ?_ hdb)) (by intro q;cases q)
  refine x_ (base:=X.base) (s:={ s' with heap:=h3 }) I3.bk ox y hcp he hcl (codeAny_handlers_suite_as ?_)
  refine lands_againW (s:={ s' with heap:=h3 }) fl3 fun h4 fl4 up4=>?_
  have a4:=air.on (by rw [hl];exact fl4) (up3'.trans up4)
  have I4:=land h4 a4
  obtain ⟨oe4,ws,he4,hcl4,hd4,_⟩:=fl4.first
  have nB:B.get? ea=none:=fl4.2.1
  have nfr:ea∉r9 X.stack:=fun z=>by
   obtain ⟨_,o',k1,k2⟩:=f6 fl4.2.2.1 (by rw [<- hl];exact z)
   rw [he4] at k1;cases k1
   exact k2 _ hd4
  have n1:s1.heap.get? ea=none:=by
   cases q:s1.heap.get? ea with
   | none=>rfl
   | some o =>
    obtain ⟨o',k⟩:=air.all ea o q nfr
    rw [nB] at k;cases k
  have nH:H' ea=none:=by
   cases q:H' ea with
   | none=>rfl
   | some u =>
    obtain ⟨o',k⟩:=air.cov ea u q
    rw [nB] at k;cases k
  have nloc:ea≠X.env.locals:=fun z=>by
   obtain ⟨m,⟨o,_,_,k,_⟩,_⟩:=I1.loc
   rw [<- z,n1] at k;cases k
  have ncell:∀ x c,X.env.cells.lookup x=some c->c≠ea:=fun x c e z=>by
   obtain ⟨v,o,k,_⟩:=I1.cell x c e
   rw [z,n1] at k;cases k
  have npin:∀ p∈X.pn++pins,p.1≠ea:=fun p hp z=>by
   have k:=(I1.pin p hp).1
   rw [z,n1] at k;cases k
  have n0:X.s₀.heap.get? ea=none:=by
   cases q:X.s₀.heap.get? ea with
   | none=>rfl
   | some o =>
    by_cases hx:ea∈X.ex
    ·rw [hex] at hx;cases hx
    ·obtain ⟨o',k⟩:=I1.base.there ea o q hx
     rw [n1] at k;cases k
  have I5:=(I4.weak (σ':=y8 X) (by rw [I4.len];simp [y8]) (fun j v z=>by
   unfold y8 at z
   rw [bR] at z
   split at z<;>cases z)).track0 (ho:=y0 ea C) n0 nH nloc ncell npin (PV he4 hcl4)
  refine qo I5 hN hi (.inl hn) (v:=.ref ea) rfl (fun s6 I6=>?_) (.inr hn)
  refine bC (hs ea pins s6 _ _ _ (I6.inH ea) (hts ea nH)) (fun f s7 q7=>?_) fun _ _ z=>z.elim
  have fin:∀ {σ7:St}{H7:Hp}{Q':St->Hp->Prop},bF (Uc X ea) pins σ7 H7 s7->(∀ s8,bF X pins (y8 X) H7 s8->SP X pins D f s8)->aq (aF X.prog X.w) X.A (do FK X.env n .none;unbindBehindTheSuite X.env n hpos) (fun _ s8=>SP X pins D f s8) X.xe s7:=fun {σ7 H7 Q'} J k=>by
   have J:=J.outH ok
   obtain ⟨m,hm7,_⟩:=J.loc
   exact wpAny_nameGoes hn hm7 (by rw [ok.kind];rfl) fun h8 m8 hn8 sb8=>k _ (J.forget hn8 sb8)
  cases f with
  | next=>obtain ⟨σ7,H7,J,q⟩:=q7;exact fin (Q':=fun _ _=>True) J fun s8 I8=>⟨_,_,I8,q⟩
  | brk=>obtain ⟨σ7,H7,J,q⟩:=q7;exact q.elim
  | cont=>obtain ⟨σ7,H7,J,q⟩:=q7;exact q.elim
  | ret v=>obtain ⟨z,σ7,H7,J,r,q⟩:=q7;exact fin (Q':=fun _ _=>True) J fun s8 I8=>⟨z,_,_,I8,r,q⟩
 refine bC (hb _ xe (X.pn++pins) hp [] s σ H D (I.inT xe) h) (fun f s1 q=>?_) fun e s1 q=>q
 have q:SP X pins D f s1:=by
  cases f with
  | next=>obtain ⟨σ',H',J,q⟩:=q;exact ⟨σ',H',J.outT ok,q⟩
  | brk=>obtain ⟨σ',H',J,q⟩:=q;exact ⟨σ',H',J.outT ok,q⟩
  | cont=>obtain ⟨σ',H',J,q⟩:=q;exact ⟨σ',H',J.outT ok,q⟩
  | ret v=>obtain ⟨z,σ',H',J,r,q⟩:=q;exact ⟨z,σ',H',J.outT ok,r,q⟩
 cases f with
 | next=>exact ng q
 | brk=>exact q
 | cont=>exact q
 | ret v=>exact q
end L2
end
section
namespace L2
open PySem PySem.Spec PyProof.Rows
structure Mv (K:a8) (C:ah):Prop where
 ga:gz K (.ref C) "__getattribute__"=some (some (.builtin "BaseException.__getattribute__"))
 gn:gz K (.ref C) "__getattr__"=some none
 ca:gz K (.ref C) "__class__"=some (some (.builtin "object.__class__"))
 gg:ud K (.builtin "object.__class__") "__get__"=some (some (.builtin "getset_descriptor.__get__"))
 tk:wK K (.builtin "object.__class__")=some true
 mo:eB K C (.type "object")=some true
 be:eB K C (.type "BaseException")=some true
 cl:(gX K C).isSome=true
def AU (x C:ah) (h:br):Prop:=∃ o,h.get? x=some o/\o.cls=.ref C
theorem AU.type {M:FJ}{x C:ah}{h:br} (p:AU x C h):OP M h (typeOf (.ref x)) (.ref C):=by
 obtain ⟨o,e,c⟩:=p
 exact c ▸ (PySem.W.Looks.ld e).andThen .now
section
variable {prog:aI}{w:bc}{A:bg}{E:a9->af->Prop}{s:af}{K:a8}{x C:ah}{R:vn->af->Prop}
open PySem.W Builtin Builtin.ObjectAttr Builtin.Getset_descriptor in
theorem PX {tp:a9} (Z:Mv K C) (X:K.In s.heap) (p:AU x C s.heap) (q:R (.ok (.ret (.ref C))) s):gW (aF prog w) A (.call (.builtin "getset_descriptor.__get__") ⟨[.builtin "object.__class__",.ref x,tp],[]⟩) R s:=by
 obtain ⟨hp,gs,dr,tt,os⟩:=s
 have T0:=p.type (M:=aF prog w)
 have T1:=looks_mroIn (M:=aF prog w) X Z.mo
 refine vt KF.slot_gs.plain KF.entry_gs ?_
 refine KF.slot_gs.check _ _ _ _ _ _ _ _ KF.type_class (KF.args_gs _ _ _) ?_
 unfold ia.«getset_descriptor.__get__» descrGet
 rw [dga_obj]
 refine a7 (ac ?_)
 unfold descrGetter descrCheckInstance descrNameAndClass F_
 simp only [KF.owner_class]
 repeat lk
 refine ⟨Lb _ (by decide +kernel),fF KF.entry_class ?_⟩
 unfold ia.«object.__class__» shownTypeOf
 repeat lk
 exact q
theorem K5 {Q:Option a9->af->Prop} (Z:Mv K C) (X:K.In s.heap) (p:AU x C s.heap) (h:Q (some (.ref C)) { s with toks:=s.toks + 1 }):aq (aF prog w) A (P9 (.ref x) "__class__") Q E s:=by
 obtain ⟨hh,g,d,t,os⟩:=s
 have L0:=p.type (M:=aF prog w)
 have L1:=qm (M:=aF prog w) X Z.ga
 have L2:=qm (M:=aF prog w) X Z.gn
 have F1:=qm (M:=aF prog w) X Z.ca
 have F2:=PySem.W.looks_specialIn (M:=aF prog w) X Z.gg
 have F3:=PySem.W.looks_takesIn (M:=aF prog w) X Z.tk
 have L4:=PySem.W.looks_mroIn (M:=aF prog w) X Z.be
 unfold P9 getAttrBy? getAttrBy
 refine a7 (wpAny_mkText (a7 (iI (cp (a7 (L0.at (a7 (L1.at ?_))))))))
 show aq _ _ (getAttrByItsOwn (.ref x) (.str "__class__" t) (.ref C) (.builtin "BaseException.__getattribute__") false false) _ _ _
 unfold getAttrByItsOwn
 show aq _ _ (xF (.ref C) "__getattr__" >>= _) _ _ _
 refine a7 (L2.at (a7 (iI (cp ?_))))
 show aq _ _ (boundAndCalled (.builtin "BaseException.__getattribute__") (.ref x) (.str "__class__" t)) _ _ _
 unfold boundAndCalled
 refine a7 (e7 (F.excAttr_ValueError.ga.bind (.ref x)) ?_)
 show aq _ _ (call (.builtin "BaseException.__getattribute__") [.ref x,.str "__class__" t]) _ _ _
 refine xE (vt F.excAttr_ValueError.ga.plain F.entry_bexc_ga ?_)
 have hk:builtinKind "BaseException.__getattribute__"=some .slot:=by decide +kernel
 have hsp:splitId "BaseException.__getattribute__"=some ("BaseException","__getattribute__"):=by decide +kernel
 have hao:=F.args_bexc_ga (.ref x) (.str "__class__" t)
 simp only [checkBuiltinCall,hk,hsp]
 have LI:OP (aF prog w) hh (F_ (.ref x) (.type "BaseException")) true:=L0.andThen L4
 refine a7 (LI.at ?_)
 rw [if_neg (by decide)]
 refine e7 (a:=()) (by unfold argsOk at hao;exact hao) ?_
 unfold ia.«object.__getattribute__»
 refine a7 (m:=slotArgs "__getattribute__" 1 _) (ac ?_)
 refine a7 (m:=OQ _) (ac ?_)
 refine a7 (L0.at (a7 ?_))
 unfold OR
 refine a7 (F1.at (a7 (F2.at (a7 ?_))))
 refine a7 (F3.at ?_)
 refine ac (a7 (fX (ac ?_)))
 show aq _ _ (Fv [.builtin "object.__class__"] (call (.builtin "getset_descriptor.__get__") [.builtin "object.__class__",.ref x,.ref C]) >>= fun v=>ret v) _ _ _
 refine a7 (cp (xE (PX (s:=⟨hh,g,d,t + 1,os⟩) Z X p ?_)))
 exact ac (PySem.W.handed_on rfl (ac h))
theorem Mw (Z:Mv K C):PySem.W.KitX K (.ref x) (.ref C) (AU x C) where
 ty:=fun _ _ _ p=>p.type
 it:=fun M h X _=>by
  obtain ⟨cd,hc⟩:=Option.isSome_iff_exists.mp Z.cl
  unfold gX at hc
  split at hc
  ·rename_i c' d' cd' sl' ho
   intro A' Q' E' s' k q
   unfold isType loadHead
   exact a7 (wpAny_loadPart (k _ _ (X _ _ ho)) (ac q))
  ·cases hc
 ne:=fun h tp dd its n sl X htp=>by
  refine Bool.eq_false_iff.mpr fun q=>?_
  obtain rfl:C=tp:=Value.ref.inj (beq_iff_eq.mp q)
  obtain ⟨cd,hc⟩:=Option.isSome_iff_exists.mp Z.cl
  unfold gX at hc
  split at hc
  ·rename_i c' d' cd' sl' ho
   have z:=(X _ _ ho).symm.trans htp
   cases z
  ·cases hc
 ca:=fun X p k=>K5 Z X p k
end
section
variable {X:Cx}
theorem wu:j5 X (.builtin "isinstance") (fun xs H Q=>∃ x c cv b,xs=[x,c]/\((∃ n,c=.ty n/\cv=.type n)\/∃ C',c=.ref C'/\cv=.ref C')/\((∃ t,vC X.K H x t/\dA X.K t cv=some b) \/
  ∃ ea C,x=.ref ea/\H ea=some (y0 ea C)/\Mv X.K C/\dA X.K (.ref C) cv=some b)/\Q (.bl b) H):=by
 intro pins s σ H xs us Q I r h
 obtain ⟨x,c,cv,b,rfl,rc,h,q⟩:=h
 obtain ⟨u,v,rfl,ru,rv⟩:=LV r
 obtain rfl:v=cv:=by
  rcases rc with ⟨n,rfl,rfl⟩ | ⟨C',rfl,rfl⟩
  ·exact rv
  ·exact rv
 rcases h with ⟨t,ty,e⟩ | ⟨ea,C,rfl,hH,Z,e⟩
 ·exact nT I ru ty e fun tk=>⟨.bl b,H,I.tok tk,rfl,q⟩
 ·cases ru
  have p:AU ea C s.heap:=(show cY X.prog X.w H s.heap ea (y0 ea C) from I.hok ea _ hH).1
  exact cB (Mw Z) I.kIn p e (fun z=>nomatch z) fun tk=>⟨.bl b,H,I.tok tk,rfl,q⟩
end
end L2
end
section
namespace L2
open PySem PySem.Spec PyProof.Rows
structure lG (k:Nat) (A:bg):Prop where
 dp:A.depth + 3 * k + 5<FM
 un:A.units + 16 * k + 200<k7
theorem jn.h {k:Nat}{A:bg} (r:jn k A):lG k A:=⟨r.dp,r.un⟩
theorem lG.mark {k:Nat}{A:bg} (r:lG k A) (v:Option a9):lG k (A.mark v):=⟨r.dp,r.un⟩
theorem lG.deeper {k:Nat}{A:bg} (r:lG (k + 1) A) (env:Env):lG k (A.deeper env):=⟨by have:=r.dp;show A.depth + 1 + 3 * k + 5<_;omega,by have:=r.un;show A.units + 3 + 16 * k + 200<_;omega⟩
structure DS (P:aI) (w:bc) (K:a8) (mg:Str->Option a9) (base:br) (k:Nat) (f:ah) (fd:dE) (ps:List Str) (sp:Sp):Prop where
 len:∀ vs H Q E,sp vs H Q E->vs.length=ps.length
 run:∀ (A:bg) (outer:List Env) (s:af) (H:Hp) (args:Args) (us:List a9) (vs:List V) (Q:VK) (E:XK),lG k A->Gi P w K mg base A outer s H->zN s fd args (ps.zip us)->dn vs us->sp vs H Q E ->
  gW (aF P w) A (.call (.ref f) args) (CR Xu outer P w H s Q E) s
def UK (P:aI) (w:bc) (K:a8) (mg:Str->Option a9) (base:br) (N:List Str) (qual:Str) (scope:eT) (f:ah) (cd:a9) (A:bg) (outer:List Env) (s:af) (H:Hp):Cx where
 prog:=P
 w:=w
 K:=K
 mg:=mg
 base:=base
 A:=A.deeper (iU qual scope s.heap.objs.size f cd)
 N:=N
 s₀:=s
 H₀:=H
 env:=iU qual scope s.heap.objs.size f cd
 outer:=outer
 stack:=iU qual scope s.heap.objs.size f cd::outer
 ex:=[]
 calm:=false
 fn:=fun _=>true
 pn:=[]
 xe:=fun _ _=>False
section
variable {P:aI}{w:bc}{K:a8}{mg:Str->Option a9}{base:br}
theorem Gw {N ps:List Str}{qual:Str}{scope:eT}{f:ah}{cd:a9}{A:bg}{outer:List Env}{s s1:af}{H:Hp}{us:List a9}{vs:List V}
  (S:bu N ps scope) (e0:Gi P w K mg base A outer s H) (hl:vs.length=ps.length) (r:dn vs us)
  (x:InCallC s s.heap.objs.size (FO (iU qual scope s.heap.objs.size f cd).kindOf (ps.zip us) fun _=>none) (BC (s.heap.objs.size + 1) scope.names []) (FP (iU qual scope s.heap.objs.size f cd).kindOf (ps.zip us) fun _=>none) s1) :
  bF (UK P w K mg base N qual scope f cd A outer s H) [] (start N vs) H s1:=by
 have e1:Gi P w K mg base { A with handled:=none } outer s H:=⟨e0.frames,e0.mod,e0.bs,e0.bsz,e0.funs,e0.frf,e0.hok,e0.bare⟩
 have I:=AK (CX:=Xu) (E:=E0) S (A:={ A with handled:=none }) rfl e1 hl r x
 exact ⟨⟨I.ok.mod,I.ok.kind,I.ok.glob,I.ok.blt,I.ok.above,I.ok.inj,I.ok.has,I.ok.cab,(fun z=>kH z),I.ok.frames,I.ok.stk,I.ok.exf,I.ok.bs,I.ok.bsz,I.ok.noex,I.ok.exfs,I.ok.funs,I.ok.frf⟩,I.os,I.bare,I.base,I.loc,I.cell,I.free,I.freeC,I.pin,I.hok,I.len⟩
theorem T8 {k:Nat}{f:ah}{name qual:Str}{params:Arguments}{body:List cr}{scope:eT}{dV kV doc pm cdv ct oc:a9}{an od:Option ah}
  {osl:Array (Option a9)}{N ps:List Str}{sp:Sp} (lk:K.lookup f=some ⟨oc,od,.func (eE name qual params body scope dV kV doc pm an cdv ct),osl⟩) (hcd:js K cdv qual=true) (S:bu N ps scope)
  (len:∀ vs H Q E,sp vs H Q E->vs.length=ps.length)
  (hbody:∀ (A:bg) (outer:List Env) (s:af) (H:Hp) (vs:List V) (Q:VK) (E:XK),lG k (A.deeper (iU qual scope s.heap.objs.size f cdv))->sp vs H Q E ->
   ∃ t,z_ (UK P w K mg base N qual scope f cdv A outer s H) body t/\t { nx:=fun _ H'=>Q .non H',rt:=Q } (start N vs) H) :
  DS P w K mg base (k + 1) f (eE name qual params body scope dV kV doc pm an cdv ct) ps sp:=by
 refine ⟨len,fun A outer s H args us vs Q E hr e0 hb r hsp=>?_⟩
 have hl:=len _ _ _ _ hsp
 have KX:K.In s.heap:=e0.mod.kin.keeps fun b o e=>(e0.bs b o e).1
 have lim:s.heap.NoLimit:=e0.mod.nolimit.keeps fun b o e=>(e0.bs b o e).1
 have hkind:∀ y∈ps.zip us,scope.names.lookup y.1=some .local\/(scope.names.lookup y.1=some .cell/\((BC (s.heap.objs.size + 1) scope.names []).lookup y.1).isSome=true):=fun ⟨n,v⟩ hy=>by
  rcases S.par n (qi hy).1 with q | q
  ·exact .inl q
  ·exact .inr ⟨q,oq _ _ _ (.inl q)⟩
 refine OM (by have:=hr.dp;omega) (KX _ _ lk) rfl S.co S.gen rfl (FQ KX hcd) (hb _ _ _ _ ?_)
 refine FR S.kind hkind fun env he s1 x=>?_
 subst he
 refine ⟨lim.keeps x.toInCall.keep,codeAny_func ?_⟩
 obtain ⟨t,ht,hq⟩:=hbody A outer s H vs Q E (hr.deeper _) hsp
 have I:bF (UK P w K mg base N qual scope f cdv A outer s H) [] (start N vs) H s1:=Gw S e0 hl r x
 refine bC (ht [] s1 (start N vs) H _ I hq) (fun fl s' hs=>?_) fun e s' hs=>(show False from hs).elim
 have fin:∀ {σ':St}{H':Hp}{v:V}{u:a9},bF (UK P w K mg base N qual scope f cdv A outer s H) [] σ' H' s'->dm v u->Q v H'->CE outer P w H s Q u s' :=
  fun {σ' H' v u} J rv q=>⟨v,H',J.os,J.bare,J.base,J.hok,rv,q⟩
 cases fl with
 | ret u =>
  obtain ⟨v,σ',H',J,rv,q⟩:=hs
  exact fin J rv q
 | next =>
  obtain ⟨σ',H',J,q⟩:=hs
  exact fin (v:=V.non) (u:=dN) J rfl q
 | brk =>
  obtain ⟨_,_,_,q⟩:=hs
  exact eC q
 | cont =>
  obtain ⟨_,_,_,q⟩:=hs
  exact eC q
theorem DB.okH {x qual:Str}{st:cr}{f:ah}{fd:dE}{N ps:List Str}{k:Nat}{sp:Sp} (F:DB K x qual st f fd) (S:bu N ps (aw st)) (len:∀ vs H Q E,sp vs H Q E->vs.length=ps.length)
  (hbody:∀ (cdv:a9) (A:bg) (outer:List Env) (s:af) (H:Hp) (vs:List V) (Q:VK) (E:XK),lG k (A.deeper (iU qual (aw st) s.heap.objs.size f cdv))->sp vs H Q E ->
   ∃ t,z_ (UK P w K mg base N qual (aw st) f cdv A outer s H) (iu st) t/\t { nx:=fun _ H'=>Q .non H',rt:=Q } (start N vs) H):DS P w K mg base (k + 1) f fd ps sp:=by
 obtain ⟨oc,od,kV,doc,pm,an,cdv,ct,osl,rfl,lk,hcd⟩:=F.ex
 exact T8 lk hcd S len fun A outer s H vs Q E hr hsp=>hbody cdv A outer s H vs Q E hr hsp
end
section
variable {X:Cx}{k:Nat}{f:ah}{fd:dE}{ps:List Str}{sp:Sp}{x:Str}{p pos:Pos}{e:b9}{es:List b9}{t:TA}
theorem Mx (F:DS X.prog X.w X.K X.mg X.base k f fd ps sp) (hr:lG k X.A) (hg:Gl X x) (hm:X.mg x=some (.ref f)) (hk:dW X.K (.ref f)=true) (hb:jv X.K fd ps [])
  (ha:PA X (e::es) t) (hdb:(x == ("__debug__" : Str))=false:=by decide) (he:az (e::es) X.env=(false,dz e X.env)::az es X.env:=by rfl) (hpl:(fO pos (az es X.env)).any (·.1)=false:=by rfl) :
  PE X (.Call (.Name x p) (e::es) [] pos) (HX sp [] E0 t):=by
 intro pins s σ H Q I h
 refine jN (xm I hg hm ?_ hdb)
 refine sR (h₀:=X.base) I.ok.mod.kin hk (fD (ha pos pins s σ H _ I h) fun us s1 ⟨vs,H1,I1,r,q⟩=>⟨I1.kIn,?_⟩) he hpl
 have q:sp (vs++[]) H1 Q E0:=q
 rw [bT] at q
 have hl:us.length=ps.length:=by rw [<- r.length];exact F.len _ _ _ _ q
 have hb':=hb s1 us I1.kIn (by rw [bT];exact hl)
 rw [bT] at hb'
 refine xE (nP (F.run X.A X.stack s1 H1 ⟨us,[]⟩ us vs Q E0 hr I1.env0 hb' r q) fun r s' hq=>?_)
 cases r with
 | error e=>exact (show False from hq).elim
 | ok fl =>
  cases fl with
  | ret u=>exact I1.after hq
  | next=>exact eC hq
  | brk=>exact eC hq
  | cont=>exact eC hq
end
end L2
end
section
namespace L2
open PySem PySem.Spec PyProof.Rows
section
variable {X:Cx}
def WV:ql->String
 | .none=>"NoneType" | .bool _=>"bool" | .int _=>"int" | .str _=>"str" | .list _=>"list" | .tuple _=>"tuple" | .dict _=>"dict"
theorem Gx {pins:List (ah×Obj)}{σ:St}{H:Hp}{s:af}{A:bg}{E:a9->af->Prop}{Q:a9->af->Prop}{c:a9}{b:Bool}{x:V}{d:ql}{u:a9} (I:bF X pins σ H s) (rx:dm x u) (r:Gu X.K H x d) (e:dA X.K (.type (WV d)) c=some b) (h:∀ tk,Q (.bool b) { s with toks:=tk }) :
  aq (aF X.prog X.w) A (call (.builtin "isinstance") [u,c]) Q E s:=by
 cases r with
 | none=>exact nT I rx .non e h
 | bool y=>exact nT I rx (.bl y) e h
 | int i=>exact nT I rx (.int i) e h
 | str y=>exact nT I rx (.str y) e h
 | list hq _ =>
  cases rx
  obtain ⟨its,rv,⟨o,n,ho,c,_,dd⟩,_⟩:=I.list hq
  exact cB ue I.kIn ⟨o,ho,c⟩ e (fun z=>nomatch z) h
 | tuple hq _ =>
  cases rx
  obtain ⟨its,rv,⟨o,ho,c,n,dd⟩,_⟩:=I.tuple hq
  exact cB FL I.kIn ⟨o,ho,c⟩ e (fun z=>nomatch z) h
theorem My:j5 X (.builtin "isinstance") (fun xs H Q=>∃ x d T b,xs=[x,.ty T]/\Gu X.K H x d/\dA X.K (.type (WV d)) (.type T)=some b/\Q (.bl b) H):=by
 intro pins s σ H xs us Q I r h
 obtain ⟨x,d,T,b,rfl,rp,e,q⟩:=h
 obtain ⟨u,v,rfl,ru,rv⟩:=LV r
 obtain rfl:v=.type T:=rv
 exact Gx I ru rp e fun tk=>⟨.bl b,H,I.tok tk,rfl,q⟩
end
end L2
end
section
namespace HT
open PySem PyProof.Rows
section
variable {prog:aI}{w:bc}{A:bg}{E:a9->af->Prop}{s:af}
theorem DT {t sl:ah}{items:Array a9}{vl vu:a9}{lo hi:Option Int}{Q:a9->af->Prop} (ht:FH s.heap t items) (hs:s.heap.IsSliceOf sl vl vu .none) (pl:vo vl lo) (pu:vo vu hi)
  (hw:iJ items.size 0 lo=0/\iJ items.size items.size hi=items.size) (h:Q (.ref t) s):aq (aF prog w) A (q8 (.ref t) (.ref sl)) Q E s:=by
 obtain ⟨os,hos,hcs,hds⟩:=id hs
 have hTs:s.TypeIs (.ref sl) "slice":=⟨os,hos,hcs⟩
 unfold q8
 try with_reducible refine cp ?_
 first | refine a7 (ac ?_) | skip
 refine a7 (wpAny_sequenceKey ht.typeIs (by decide) ?_)
 refine a7 (cm (name:=gy "__getitem__") ht.typeIs fP
  (bZ fP ht.typeIs entry_tuple_getitem ?_ (args_tuple_getitem _ _)))
 show aq _ _ (ug (.ref t) >>= _) _ _ s
 refine a7 (tupleItemsOf_ ht ?_)
 refine a7 (kJ hTs ?_)
 rw [if_pos (by decide)]
 refine a7 (nV hs pl pu ?_)
 have hyes:((((iJ items.size 0 lo:Nat):Int) == 0 && (1:Int) == 1 && (iJ items.size items.size hi - iJ items.size 0 lo) == items.size)=true):=by
  rw [hw.1,hw.2];simp
 show aq _ _ (if (((iJ items.size 0 lo:Nat):Int) == 0 && (1:Int) == 1 && (iJ items.size items.size hi - iJ items.size 0 lo) == items.size)=true then _ else _) _ _ s
 rw [if_pos hyes]
 refine a7 ?_
 unfold Builtin.Tuple.tupleIsExact
 refine a7 (kJ ht.typeIs (ac ?_))
 rw [if_pos (by decide)]
 refine a7 (fX ?_)
 first
  | exact ac (ac ⟨_,rfl,h⟩)
  | exact ac ⟨_,rfl,ac h⟩
  | exact a7 (ac (ac ⟨_,rfl,ac h⟩))
  | exact a7 (ac (ac ⟨_,rfl,h⟩))
end
end HT
namespace L2
open PySem PySem.Spec PyProof.Rows
section
variable {X:Cx}
inductive Mz (K:a8) (x:V) (lo:Option Int) (hi:Option Int) (H:Hp) (Q:VK):Prop
 | mk (a xs:_) (h0:x=.ref a) (h1:kn K H a xs) (h2:(HT.iJ xs.length 0 lo=0/\HT.iJ xs.length xs.length hi=xs.length)) (h3:Q (.ref a) H):Mz K x lo hi H Q
def UL (K:a8):V->Option Int->Option Int->Hp->VK->Prop:=Mz K
theorem PY:Uz X (UL X.K):=by
 intro pins s σ H x v vl vu lo hi sl Q I rx hs pl pu h
 obtain ⟨a,xs,rfl,hx,hw,q⟩:=h
 cases rx
 obtain ⟨its,r,ht,hz⟩:=I.tuple hx
 have hlen:its.toArray.size=xs.length:=by rw [aJ];exact r.length.symm
 exact ⟨"tuple",_,PyProof.Rows.slot_tuple_getitem.lookup,ht.typeIs,HT.DT ht hs pl pu (by rw [hlen];exact hw) ⟨.ref a,H,I,rfl,q⟩⟩
theorem iQ {H:Hp}{p:ah}{o:HO} (h:H p=none):du H (upd H p o):=fun b u e=>by rw [aT (bi e h)];exact e
theorem t6:∀ {bs:List Bool}{us:List a9},dn (bs.map V.bl) us->us=bs.map ip
 | [],_,.nil=>rfl
 | b::r,_,.cons h t=>by cases h;rw [t6 t];rfl
theorem yb {A:bg}{s:af}{bs:List Bool}:∀ y,y∈(bs.map ip).toArray->Jr A s y (.bool true) (vy true y):=fun y hy=>by
 have hy:y∈bs.map ip:=by simpa using hy
 obtain ⟨b,_,rfl⟩:=List.mem_map.mp hy
 exact AA b true
def PZ (K:a8):V->List V->Hp->VK->Prop:=fun x vs H Q=>∃ l,∃ bs:List Bool,x=.ref l/\vs=[.bl true]/\lF K H l (bs.map V.bl)/\Q (.int (bs.countP id:Nat)) H
theorem K6:WG X "list.count" (PZ X.K):=by
 intro pins s σ H x vs v us Q I rx rv h
 obtain ⟨l,bs,rfl,rfl,hq,q⟩:=h
 cases rx
 obtain ⟨u,rfl,ru⟩:=rv.one
 cases ru
 obtain ⟨its,r,⟨o,n,ho,c,hd,dt⟩,hz⟩:=I.list hq
 rw [t6 r] at dt
 obtain ⟨cls,dd,data,sl⟩:=o
 simp only at c dt
 subst c dt
 refine xG AD ⟨_,ho,rfl⟩ PySem.F.entry_list_count (PySem.F.args_list_count_2 _ _) (SeqAt.list_countAt l (bs.map ip).toArray n dd sl (.bool true) (vy true)) ⟨ho,fun y hy=>yb y hy,?_⟩
 refine ⟨.int _,H,I.tok _,⟨_,rfl⟩,?_⟩
 have e:(bs.map ip).toArray.toList.countP (vy true)=bs.countP id:=by
  show (bs.map ip).countP (vy true)=_
  rw [List.countP_map]
  congr 1
  funext b
  cases b<;>rfl
 rw [e]
 exact q
def P_ (K:a8):V->List V->Hp->VK->Prop:=fun x vs H Q=>∃ l,∃ bs:List Bool,∃ j:Nat,x=.ref l/\vs=[.bl true]/\lF K H l (bs.map V.bl)/\bs[j]?=some true/\(∀ m,m<j->bs[m]?=some false)/\j<=1000/\Q (.int (j:Nat)) H
theorem K7:WG X "list.index" (P_ X.K):=by
 intro pins s σ H x vs v us Q I rx rv h
 obtain ⟨l,bs,j,rfl,rfl,hq,hj,hno,hsm,q⟩:=h
 cases rx
 obtain ⟨u,rfl,ru⟩:=rv.one
 cases ru
 obtain ⟨its,r,⟨o,n,ho,c,hd,dt⟩,hz⟩:=I.list hq
 rw [t6 r] at dt
 obtain ⟨cls,dd,data,sl⟩:=o
 simp only at c dt
 subst c dt
 obtain ⟨hjl,hjv⟩:=List.getElem?_eq_some_iff.mp hj
 refine xG AE ⟨_,ho,rfl⟩ PySem.F.entry_list_index (PySem.F.args_list_index_2 _ _) (SeqAt.list_indexAt l (bs.map ip).toArray n dd sl (.bool true) (vy true) j (by simpa using hjl) (by omega) ?_ ?_) ⟨ho,fun y hy=>yb y hy,?_⟩
 ·simp [vy,hjv]
 ·intro m hm hlt
  have:=hno m hlt
  obtain ⟨_,hv⟩:=List.getElem?_eq_some_iff.mp this
  simp [vy,hv]
 ·exact ⟨.int _,H,I.tok _,⟨_,rfl⟩,q⟩
theorem yc (hc:X.calm=true):j5 X (.type "list") (fun xs H Q=>∃ a kvs,xs=[.ref a]/\H a=some (.dK kvs)/\∀ l,H l=none->Q (.ref l) (upd H l (.lst (kvs.map fun p=>kV p.1)))):=by
 intro pins s σ H xs us Q I r h
 obtain ⟨a,kvs,rfl,hH,q⟩:=h
 obtain ⟨u,rfl,rx⟩:=ko r
 cases rx
 obtain ⟨hz,hs,vs,rk,hd⟩:=(show cY X.prog X.w H s.heap a (.dK kvs) from I.hok a _ hH)
 obtain ⟨ep,hat⟩:∃ ep,s.heap.DictAt (dh X.prog X.w) a vs ep:=by
  obtain ⟨o,es,ep,h1,h2,h3,h4⟩:=hd
  exact ⟨ep,o,es,h1,h2,h3,h4⟩
 have hlen:kvs.length=vs.length:=iT rk
 refine PySem.W.kdl_call (PySem.W.kdl_dict hs) (I.ok.hd hc) hat (by omega) fun h' tk acc' c' kp e hacc=>?_
 have rv:dn (kvs.map fun p=>kV p.1) acc'.toList:=by
  have key:∀ {kvs:List (cO×V)}{vs:List (cO×a9)} (acc:List a9),KV kvs vs->acc.length=vs.length->(∀ (j:Nat) (v:a9),acc[j]?=some v->∃ k x,vs[j]?=some (k,x)/\xL k v=true)->dn (kvs.map fun p=>kV p.1) acc:=by
   intro kvs
   induction kvs with
   | nil=>intro vs acc rk hl _;cases rk;cases acc with
    | nil=>exact .nil
    | cons _ _=>simp at hl
   | cons p kvs ih =>
    intro vs acc rk hl hv
    cases rk with
    | cons h1 t1 =>
     cases acc with
     | nil=>simp at hl
     | cons v acc =>
      refine .cons ?_ (ih acc t1 (by simpa using hl) fun j v hj=>by simpa using hv (j + 1) v (by simpa using hj))
      obtain ⟨k,x,e1,e2⟩:=hv 0 v rfl
      simp only [Do,Di] at e1
      subst e1
      have hk:p.1=k:=h1.1
      rcases fo e2 with ⟨i,t,e,rfl⟩ | ⟨i,t,e,rfl⟩
      ·show dm (kV p.1) _;rw [hk,e];exact ⟨t,rfl⟩
      ·show dm (kV p.1) _;rw [hk,e];exact ⟨t,rfl⟩
  exact key acc'.toList rk (by rw [ar];exact hacc.1) fun j v hj=>hacc.2 j v (by rw [<- dC];exact hj)
 exact ⟨.ref s.heap.objs.size,_,I.laid (t':=tk) kp (au _) (show cY X.prog X.w _ h' _ (.lst _) from ⟨by simpa using hz,acc'.toList,c',rv,by rw [G4];exact e⟩),rfl,q _ (I.hok.fresh (au _))⟩
def yd (x:Str):List V:=x.cps.toList.map fun c=>V.str ⟨#[c]⟩
theorem wT (hc:X.calm=true):j5 X (.type "tuple") (fun xs H Q=>∃ x,xs=[.str x]/\x.cps.size<=sizeLine/\∀ l,H l=none->Q (.ref l) (upd H l (.tup (yd x)))):=by
 intro pins s σ H xs us Q I r h
 obtain ⟨x,rfl,hz,q⟩:=h
 obtain ⟨u,rfl,rx⟩:=ko r
 obtain ⟨t,rfl⟩:=rx
 refine call_tuple_str (I.ok.hd hc) x t (fun h' tk acc kp hacc=>?_) hz
 have I1:bF X pins σ H { s with heap:=h',toks:=tk }:=I.kept (t':=tk) kp
 have rv:dn (yd x) acc.toList:=by
  have key:∀ (cs:List Nat) (acc:List a9),acc.length=cs.length->(∀ (j:Nat) (v:a9),acc[j]?=some v->∃ c u,cs[j]?=some c/\v=.str ⟨#[c]⟩ u)->dn (cs.map fun c=>V.str ⟨#[c]⟩) acc:=by
   intro cs
   induction cs with
   | nil=>intro acc hl _;cases acc with
    | nil=>exact .nil
    | cons _ _=>simp at hl
   | cons c cs ih =>
    intro acc hl hv
    cases acc with
    | nil=>simp at hl
    | cons v acc =>
     obtain ⟨c',u,e1,rfl⟩:=hv 0 v rfl
     simp only [Do,Di] at e1
     subst e1
     exact .cons ⟨u,rfl⟩ (ih acc (by simpa using hl) fun j v hj=>by simpa using hv (j + 1) v (by simpa using hj))
  refine key x.cps.toList acc.toList (by rw [ar,ar];exact hacc.1) fun j v hj=>?_
  obtain ⟨c,u,e1,e2⟩:=hacc.2 j v (by rw [<- dC];exact hj)
  exact ⟨c,u,by rw [dC];exact e1,e2⟩
 have I2:bF X pins σ (upd H h'.objs.size (.tup (yd x))) { s with heap:=h'.push { cls:=.type "tuple",data:=.seq acc },toks:=tk } :=
  I1.laid (t':=tk) (fun b o e=>ag _ e) (au _) (show cY X.prog X.w _ _ _ (.tup (yd x)) from ⟨by unfold yd;simpa using hz,acc.toList,rv,by rw [G4];exact wJ _ _⟩)
 exact ⟨.ref h'.objs.size,_,I2,rfl,q _ (I1.hok.fresh (au _))⟩
end
end L2
end
section
namespace L2
open PySem PySem.Spec PyProof.Rows
theorem C5 (elt target iter:b9) (ifs:List b9) (scope:eT) (pos:Pos) (it acc:a9) (env:Env) :
  compTurn (.SetComp elt [⟨target,iter,ifs,0⟩] scope pos) 0 it acc env=(do
   wj iter.pos
   let r <- jr it
   match r with
   | none=>pure (.done .next)
   | some v =>
    gE target it v
    qh target env v
    let mut ok:=true
    for c in ifs do
     if ok then ok <- vm c env (dz c env)
    if ok then
     (do let v <- dz elt env;wj elt.pos;let _ <- call (.builtin "set.add") [acc,v])
    again (.compLoop (.SetComp elt [⟨target,iter,ifs,0⟩] scope pos) 0 it acc env)):=by rfl
section
variable {prog:aI}{w:bc}{A:bg}{E:a9->af->Prop}{R:vn->af->Prop}{s:af}
theorem p_ {elt target iter ifs bW scope pos it acc env}
  (h0:gW (aF prog w) A (.compLoop (.SetComp elt (⟨target,iter,ifs,0⟩::bW) scope pos) 0 it acc env) R s)
  (h:aq (aF prog w) A (xC it) (fun it' s'=>gW (aF prog w) A (.compLoop (.SetComp elt (⟨target,iter,ifs,0⟩::bW) scope pos) 0 it' acc env) R s')
   (notedBy (aF prog w) A env fun x s'=>R (.error x) s') s) :
  gW (aF prog w) A (.compStart (.SetComp elt (⟨target,iter,ifs,0⟩::bW) scope pos) 0 it acc env) R s:=by
 refine Dm ?_
 show aq _ _ ((compStart (.SetComp elt (⟨target,iter,ifs,0⟩::bW) scope pos) 0 it acc env).onRaise (fun x=>do BF x env;wj theWindowsPlace)) _ _ s
 refine wpAny_notedAt ?_
 unfold compStart
 show aq _ _ (ask >>= _) _ _ s
 refine a7 (g_ (wpAny_ite ?_))
 split
 ·first
   | exact a7 (ac (ac (u9 rfl h0)))
   | exact ac (u9 rfl h0)
 ·first
   | exact a7 (fX (a7 (iF (a7 (bC h (fun it' s' hq=>ac (u9 rfl hq)) fun _ _ x=>x)))))
   | (refine a7 (fX ?_);show aq _ _ (wj iter.pos >>= _) _ _ s;exact a7 (iF (a7 (bC h (fun it' s' hq=>ac (u9 rfl hq)) fun _ _ x=>x))))
theorem sG {Q:a9->af->Prop} (h:Q (.ref s.heap.objs.size) { s with heap:=s.heap.push (fh w) }):aq (aF prog w) A (newSet (.type "set")) Q E s:=by
 unfold newSet setsByText
 refine a7 (a7 (g_ (ac ?_)))
 dsimp only
 simp only [newObj]
 exact a7 (wpAny_alloc (ac h))
theorem A5 {a:ah}{ss:List Str}{x:Str}{tk:Tok}{Q:a9->af->Prop} (hS:kM w s.heap a ss) (hr:ss.length + 1<iH)
  (h:∀ h' tk',bD a s.heap h'->kM w h' a (if x∈ss then ss else ss++[x])->Q .none { s with heap:=h',toks:=tk' }) :
  aq (aF prog w) A (call (.builtin "set.add") [.ref a,.str x tk]) Q E s:=by
 have hT:s.TypeIs (.ref a) "set":=by obtain ⟨es,ep,t,I,_⟩:=id hS;exact ⟨_,I.at_,rfl⟩
 refine bZ F.slot_set_add hT F.entry_set_add ?_ (F.args_set_add_2 _ _)
 unfold ia.«set.add» Pa
 simp only [List.isEmpty_nil,bind_assoc]
 unfold Pb
 refine a7 (ac ?_)
 try dsimp only
 refine a7 (ac ?_)
 try dsimp only
 refine a7 ?_
 refine DK hS hr fun h' tk' sb hS'=>?_
 exact ac ⟨_,rfl,h h' tk' sb hS'⟩
end
section
variable {prog:aI}{w:bc}{A:bg}{R:vn->af->Prop}{s:af}
theorem DU {elt target iter:b9}{ifs:List b9}{scope:eT}{pos:Pos}{it acc:a9}{env:Env} (I:Nat->af->Prop)
  (turn:∀ n s,I n s->aq (aF prog w) A (jr it) (fun r s₁=>match r with
   | none=>R (.ok .next) s₁
   | some v=>aq (aF prog w) A (gE target it v) (fun _ s₁'=>aq (aF prog w) A (qh target env v) (fun _ s₂ =>
     aq (aF prog w) A (forIn ifs true fun c r=>if r=true then do let ok <- vm c env (dz c env);pure (fN ok) else pure (fN r)) (fun ok s₃ =>
      if ok=true then aq (aF prog w) A (dz elt env) (fun x s₄ =>
       aq (aF prog w) A (call (.builtin "set.add") [acc,x]) (fun _ s₅=>∃ m,m<n/\I m s₅) (fun _ _=>False) s₄) (fun _ _=>False) s₃
      else ∃ m,m<n/\I m s₃) (fun _ _=>False) s₂) (fun _ _=>False) s₁') (fun _ _=>False) s₁) (fun _ _=>False) s)
  (n:Nat) (h:I n s) :
  gW (aF prog w) A (.compLoop (.SetComp elt [⟨target,iter,ifs,0⟩] scope pos) 0 it acc env) R s:=by
 refine codeAny_loop rfl I (fun n s hI=>?_) n h
 show aq _ A ((compTurn (.SetComp elt [⟨target,iter,ifs,0⟩] scope pos) 0 it acc env).onRaise (fun x=>do BF x env;theTreesLotGoes x)) _ _ s
 refine wpAny_noted ?_
 rw [C5]
 have nf:∀ {α:Type}{t:Sem α}{Q:α->af->Prop}{E':a9->af->Prop}{s:af},aq (aF prog w) A t Q (fun _ _=>False) s->aq (aF prog w) A t Q E' s :=
  fun h=>bC h (fun _ _ q=>q) fun _ _ f=>f.elim
 refine a7 (iF (a7 (nf (bC (turn n s hI) (fun r s₁ h₁=>?_) fun _ _ h'=>h'))))
 cases r with
 | none=>exact ac h₁
 | some v =>
  refine a7 (nf (bC h₁ (fun _ s₁' h₁'=>?_) fun _ _ h'=>h'))
  refine a7 (nf (bC h₁' (fun _ s₂ h₂=>a7 (nf (bC h₂ (fun ok s₃ h₃=>?_) fun _ _ h'=>h'))) fun _ _ h'=>h'))
  cases ok with
  | false=>exact ac ⟨rfl,h₃⟩
  | true =>
   exact a7 (a7 (nf (bC h₃ (fun x s₄ h₄=>a7 (iF (a7 (nf (bC h₄ (fun _ s₅ h₅=>ac (ac ⟨rfl,h₅⟩)) fun _ _ h'=>h'))))) fun _ _ h'=>h')))
end
inductive Xw (X:Cx) (pins:List (ah×Obj)) (N':List Str) (scope:eT) (cl:List (Str×ah)) (C:ah) (s2:af) (H2:Hp) (fp:List ah) (nt:Nat) (ix:List Nat) (σ:St) (tn:Nat->br->Prop) (W:Nat->Nat->List Str->Hp->Prop) (n:Nat) (s':af):Prop
 | mk (i:Nat) (acc:List Str) (oD:Obj) (H':Hp) (I:bF (cP X N' scope cl C s2 H2 fp (X.pn++pins)) [(s2.heap.objs.size,oD)] (jo nt ix σ) H' s') (S:kM X.w s'.heap s2.heap.objs.size acc) (t:tn i s'.heap) (f:∀ b∈fp,H' b=none) (w:W i n acc H'):Xw X pins N' scope cl C s2 H2 fp nt ix σ tn W n s'
theorem K8 {X:Cx}{elt tg iter:b9}{ifs:List b9}{scope:eT}{pos:Pos}{g:TG}{tt:TT}{te:TE}{N':List Str}{nt:Nat}{ix:List Nat}
  (hc:X.calm=true) (S:nr X scope N' nt ix) (lo:Ro nt g)
  (hb:∀ cl C s₀ H₀ ex pn,PG (cP X N' scope cl C s₀ H₀ ex pn) tg g/\OW (cP X N' scope cl C s₀ H₀ ex pn) ifs tt/\PE (cP X N' scope cl C s₀ H₀ ex pn) elt te)
  {cl:List (Str×ah)} (c1:∀ x c,cl.lookup x=some c->X.env.cells.lookup x=some c) (c2:∀ y∈scope.names,y.2=.free->∃ c,cl.lookup y.1=some c)
  {pins:List (ah×Obj)}{σ:St}{H2:Hp}{s2:af}{it:ah}{fp:List ah}{tn:Nat->br->Prop}{J:It}{Q:VK}{E:a9->af->Prop}
  (I2:bF X pins σ H2 s2) (T:xN X.prog X.w X.K tg J fp it tn) (st2:tn 0 s2.heap) (f2:∀ b∈fp,qq X pins H2 b)
  {W:Nat->Nat->List Str->Hp->Prop} (w0:∃ m,W 0 m [] H2)
  (turn:∀ i m acc H,W i m acc H->(J.stop i H/\∀ p,H p=none->Q (.ref p) (upd H p (kU X.w p acc))) \/
   (J.go i H/\acc.length + 1<iH/\∀ x H',J.yld i H x H'->g x (jo nt ix σ) H' fun σ2 H2=>tt σ2 H2 fun b H3 =>
    if b=true then te σ2 H3 fun y H4=>∃ z m',y=.str z/\m'<m/\W (i + 1) m' (if z∈acc then acc else acc++[z]) H4 else ∃ m',m'<m/\W (i + 1) m' acc H3))
  {RR:a9->ah->vn->af->Prop}
  (hRR:∀ D C m s' (acc:List Str) H',H' D=none->qq X pins (upd H' D (kU X.w D acc)) C->Q (.ref D) (upd H' D (kU X.w D acc))->s'.heap.Ns C m->(∀ h',bD C s'.heap h'->bF X pins σ (upd H' D (kU X.w D acc)) { s' with heap:=h' })->RR (.ref D) C (.ok .next) s') :
  aq (aF X.prog X.w) X.A (newSet (.type "set")) (fun acc s₃=>aq (aF X.prog X.w) X.A (newFunctionEnv scope X.env.globals cl [] X.env.qual none .none (some X.env)) (fun cenv s₄ =>
   gW (aF X.prog X.w) X.A (.compStart (.SetComp elt [⟨tg,iter,ifs,0⟩] scope pos) 0 (.ref it) acc { cenv with scope:=relabel scope X.env }) (RR acc cenv.locals) s₄) E s₃) E s2:=by
 refine sG (O_ S.nocell (by intro y hy;simp at hy) (fun h₁ hns₁ hsb₁=>?_) S.kind)
 dsimp only at hns₁ hsb₁ ⊢
 generalize hG2:s2.heap.push (fh X.w)=G2 at hns₁ hsb₁ ⊢
 have hC:G2.objs.size=s2.heap.objs.size + 1:=by rw [<- hG2,db]
 have hDC:s2.heap.objs.size≠G2.objs.size:=by rw [hC];exact aB (dU _)
 have hCle:s2.heap.objs.size<=G2.objs.size:=by rw [hC];exact iK _
 have below:∀ b,b<s2.heap.objs.size->b≠G2.objs.size:=fun b hb=>by rw [hC];exact aB (fc hb)
 have old:∀ b o,s2.heap.get? b=some o->h₁.get? b=some o:=fun b o e=>hsb₁.extBut b o (below b (ao e)) (ag _ (hG2 ▸ ag _ e))
 have hacc:h₁.get? s2.heap.objs.size=some (fh X.w):=hsb₁.extBut _ _ hDC (ag _ (hG2 ▸ ay _ rfl))
 have ff:∀ b∈fp,b<s2.heap.objs.size:=fun b hb=>by
  obtain ⟨o,e,_⟩:=T.obj _ _ st2 b hb
  exact ao e
 have I3:bF (cP X N' scope cl G2.objs.size s2 H2 fp (X.pn++pins)) [] (jo nt ix σ) H2 { s2 with heap:=h₁,toks:=s2.toks + ([] : List (Str×a9)).length }:=DH S I2 c1 c2 f2 ff hCle hns₁ old
 obtain ⟨pg,pt,pe⟩:=hb cl G2.objs.size s2 H2 fp (X.pn++pins)
 have hDfs:s2.heap.objs.size∉r9 X.stack:=fun z=>by
  rcases List.mem_cons.mp (I2.stkSub _ z) with e | e
  ·exact absurd I2.lt (by rw [<- e];exact cj _)
  ·exact I2.nofs (au _) e
 have st1:tn 0 h₁:=T.keep _ _ _ st2 fun b _ o e=>old b o e
 have hDf:s2.heap.objs.size∉fp:=fun z=>absurd (ff _ z) (cj _)
 have stat:∀ {H':Hp}{pl:List (ah×Obj)},(∀ p∈pl,p.1∉fp)->(∀ b∈fp,H' b=none)->∀ b∈fp,qq (cP X N' scope cl G2.objs.size s2 H2 fp (X.pn++pins)) pl H' b:=fun hpl hn b hb=>by
  obtain ⟨f0,f1,f2',f3,f4,f5⟩:=f2 b hb
  refine ⟨hn b hb,below b (ff b hb),fun z=>?_,.inl hb,fun x c e=>f4 x c (c1 x c e),fun p hp z=>?_⟩
  ·rcases List.mem_cons.mp (I2.stkSub _ z) with e | e
   ·exact f1 e
   ·exact f2' e
  ·rcases List.mem_append.mp hp with q | q
   ·exact f5 p q z
   ·exact hpl p q (z ▸ hb)
 obtain ⟨m0,w0⟩:=w0
 have loop:gW (aF X.prog X.w) X.A (.compLoop (.SetComp elt [⟨tg,iter,ifs,0⟩] scope pos) 0 (.ref it) (.ref s2.heap.objs.size) (compEnvC scope cl G2.objs.size X.env))
    (RR (.ref s2.heap.objs.size) G2.objs.size) { s2 with heap:=h₁,toks:=s2.toks + ([] : List (Str×a9)).length }:=by
  refine DU (Xw X pins N' scope cl G2.objs.size s2 H2 fp nt ix σ tn W) ?_ m0
   ⟨0,[],_,H2,I3.pin1 hacc (I2.hok.fresh (au _)) hDC hDfs (fun v z=>nomatch z),AS X.w hacc,st1,fun b hb=>(f2 b hb).1,w0⟩
  rintro n s3 ⟨i,acc,oD,H3,J3,hS3,st3,fr3,w3⟩
  have plD:∀ p∈[(s2.heap.objs.size,oD)],p.1∉fp:=fun p hp=>by
   have:p=(s2.heap.objs.size,oD):=by simpa using hp
   rw [this];exact hDf
  have stS:∀ {s8:af},s8.heap.get? s2.heap.objs.size=some oD->kM X.w s8.heap s2.heap.objs.size acc:=fun {s8} e=>hS3.keep fun o eo=>by
   have q:=(J3.pin (s2.heap.objs.size,oD) (aM _ (List.mem_singleton.mpr rfl))).1
   rw [q] at eo;cases eo;exact e
  rcases turn i n acc H3 w3 with ⟨stop,qn⟩ | ⟨go,hlt,step⟩
  ·refine fD (T.done (cP X N' scope cl G2.objs.size s2 H2 fp (X.pn++pins)) rfl rfl rfl hc i _ s3 _ H3 _ J3 (stat plD fr3) st3 stop) fun r s4 h_0=>?_
   obtain ⟨hr,I4⟩:=h_0
   subst hr
   obtain ⟨pD,pN,_⟩:=I4.pin (s2.heap.objs.size,_) (aM _ (List.mem_singleton.mpr rfl))
   obtain ⟨mm,hn,_⟩:=I4.loc
   have hCn:H3 G2.objs.size=none:=I4.free
   refine hRR _ _ mm s4 acc H3 pN (I2.fpOk hCle (by rw [aT (cZ hDC)];exact hCn)) (qn _ pN) hn fun h' sb=>?_
   have hu:Un (r9 X.stack) fp H2 (upd H3 s2.heap.objs.size (kU X.w s2.heap.objs.size acc)) s2.heap h':=Un.grow I4.base sb hCle (au _) pN
   refine I2.call' (s':={ s4 with heap:=h' }) (ch:=fp) I4.os hu ?_ I4.bare fun b hb=>?_
   ·exact re (xU I4.hok hCn sb) pN (C2 ((stS pD).keep fun o e=>(sb.2 _ hDC).trans e))
   ·obtain ⟨_,f1,_,f3,f4,f5⟩:=f2 b hb
    exact ⟨f3,f1,f4,f5⟩
  ·refine fD (T.item (cP X N' scope cl G2.objs.size s2 H2 fp (X.pn++pins)) rfl rfl rfl hc i _ s3 _ H3 _ J3 (stat plD fr3) st3 go) fun r s4 h_1=>?_
   obtain ⟨u,hr,h4⟩:=h_1
   subst hr
   refine fD h4 fun _ s5 h_2=>?_
   obtain ⟨x,H5,I5,r5,y5,st5,fr5⟩:=h_2
   have I5':=I5.pinned (stat plD fr5) (T.obj _ _ st5)
   refine fD (pg _ s5 _ H5 x u _ I5' r5 (lo _ _ _ _ (step x H5 y5))) fun _ s6 h_3=>?_
   obtain ⟨σ6,H6,I6,q6,l6,k6⟩:=h_3
   have hw:∀ (j:Nat) v,(jo nt ix σ)[j]?=some (some v)->σ6[j]?=some (some v):=fun j v e=>by
    by_cases hj:nt<=j
    ·rw [k6 j hj];exact e
    ·unfold jo at e
     rw [bv (by simpa using hj),bR,if_pos (by omega)] at e
     cases e
   refine fD (pt _ s6 σ6 H6 _ I6 q6) fun b s7 h_4=>?_
   obtain ⟨H7,I7,q7⟩:=h_4
   have fpk:∀ {s8:af}{σ8:St}{H8:Hp},bF (cP X N' scope cl G2.objs.size s2 H2 fp (X.pn++pins)) ([(s2.heap.objs.size,oD)]++vA fp s5.heap) σ8 H8 s8 ->
     tn (i + 1) s8.heap/\∀ b∈fp,H8 b=none:=fun {s8 σ8 H8} I8=>by
    refine ⟨T.keep _ _ _ st5 fun b hb o e=>(I8.pin (b,o) (aM _ (aM _ (jQ hb e)))).1,fun b hb=>?_⟩
    obtain ⟨o,e,d⟩:=T.obj _ _ st5 b hb
    exact (I8.pin (b,o) (aM _ (aM _ (jQ hb e)))).2.1
   cases b with
   | false =>
    simp only [bY,if_false] at q7 ⊢
    obtain ⟨m',hm,w7⟩:=q7
    obtain ⟨t7,f7⟩:=fpk I7
    obtain ⟨pD,_⟩:=I7.pin (s2.heap.objs.size,oD) (aM _ (bP _ (List.mem_singleton.mpr rfl)))
    exact ⟨m',hm,i + 1,acc,oD,H7,(I7.weak l6.symm hw).unpinned,stS pD,t7,f7,w7⟩
   | true =>
    simp only [if_true] at q7 ⊢
    refine fD (pe _ s7 σ6 H7 _ I7 q7) fun u8 s8 h_5=>?_
    obtain ⟨y,H8,I8,r8,z,m',hy,hm,w8⟩:=h_5
    obtain ⟨t8,f8⟩:=fpk I8
    obtain ⟨pD,pN,_⟩:=I8.pin (s2.heap.objs.size,_) (aM _ (bP _ (List.mem_singleton.mpr rfl)))
    subst hy
    obtain ⟨tz,rfl⟩:=r8
    refine A5 (stS pD) hlt fun h9 tk9 sb9 hS9=>?_
    obtain ⟨es9,ep9,t9,is9,pm9⟩:=id hS9
    have e9':=is9.at_
    refine ⟨m',hm,i + 1,_,{ cls:=.type "set",dict:=none,data:=.set es9 ep9 t9 },H8,?_,hS9,T.keep _ _ _ t8 fun b hb o e=>sb9.extBut b o (fun z=>hDf (z ▸ hb)) e,f8,w8⟩
    have I8':bF (cP X N' scope cl G2.objs.size s2 H2 fp (X.pn++pins)) [] (jo nt ix σ) H8 s8:=(I8.weak l6.symm hw).pins_of fun p hp=>absurd hp (by simp)
    have I9:bF (cP X N' scope cl G2.objs.size s2 H2 fp (X.pn++pins)) [] (jo nt ix σ) H8 { s8 with heap:=h9,toks:=tk9 } :=
     I8'.turned (it:=s2.heap.objs.size) (fun b o hb e=>sb9.extBut b o hb e) pN hDC (.inr (au _)) (fun x c e z=>by
      obtain ⟨v,q⟩:=I2.cell x c (c1 x c e)
      exact absurd q.lt (by rw [z];exact cj _)) fun p hp z=>by
      have hp:p∈X.pn++pins:=(List.mem_append.mp hp).elim id fun z=>absurd z (by simp)
      exact absurd (ao (I2.pin p hp).1) (by rw [z];exact cj _)
    exact I9.pin1 e9' pN hDC hDfs (fun v z=>nomatch z)
 exact p_ loop (T.self _ 0 _ _ _ st1 loop)
inductive Rt (w:bc) (nt:Nat) (ix:List Nat) (g:TG) (tt:TT) (te:TE) (σ:St) (Q:VK) (J:It) (H1:Hp):Prop
 | mk (W:Nat->Nat->List Str->Hp->Prop) (w0:∃ m,W 0 m [] H1) (turn:∀ i m acc H,W i m acc H ->
 (J.stop i H/\∀ p,H p=none->Q (.ref p) (upd H p (kU w p acc))) \/
 (J.go i H/\acc.length + 1<iH/\∀ x H',J.yld i H x H'->g x (jo nt ix σ) H' fun σ2 H2=>tt σ2 H2 fun b H3 =>
  if b=true then te σ2 H3 fun y H4=>∃ z m',y=.str z/\m'<m/\W (i + 1) m' (if z∈acc then acc else acc++[z]) H4 else ∃ m',m'<m/\W (i + 1) m' acc H3)):Rt w nt ix g tt te σ Q J H1
def MA (w:bc) (nt:Nat) (ix:List Nat) (wi:TI) (g:TG) (tt:TT) (te:TE):TE:=fun σ H Q=>wi σ H (Rt w nt ix g tt te σ Q)
theorem Gy {X:Cx}{elt tg iter:b9}{ifs:List b9}{scope:eT}{pos:Pos}{wi:TI}{g:TG}{tt:TT}{te:TE}{N':List Str}{nt:Nat}{ix:List Nat}
  (hc:X.calm=true) (S:nr X scope N' nt ix) (lo:Ro nt g) (hi:PI X tg iter wi)
  (hb:∀ cl C s₀ H₀ ex pn,PG (cP X N' scope cl C s₀ H₀ ex pn) tg g/\OW (cP X N' scope cl C s₀ H₀ ex pn) ifs tt/\PE (cP X N' scope cl C s₀ H₀ ex pn) elt te)
  (hs:∀ x,eg iter X.env x=pure x:=by intro _;rfl):PE X (.SetComp elt [⟨tg,iter,ifs,0⟩] scope pos) (MA X.w nt ix wi g tt te):=by
 intro pins s σ H Q I h
 obtain ⟨cl,hcl,c1,c2⟩:=sZ (scope:=scope) (env:=X.env) fun y hy hf=>I.ok.has y.1 (S.free y hy hf)
 show aq _ _ (comprehension (.SetComp elt [⟨tg,iter,ifs,0⟩] scope pos) scope X.env (firstIterPos [⟨tg,iter,ifs,0⟩] pos) (newSet (.type "set")) (firstAsync [⟨tg,iter,ifs,0⟩]) (firstIter [⟨tg,iter,ifs,0⟩] X.env)) _ _ _
 refine qj (use:=none) rfl hs hcl S.kind S.loc (fD (hi pins s σ H _ I h) fun v s1 h1=>fD h1 fun itv s2 h2=>?_)
 obtain ⟨it,fp,tn,J,H2,e,I2,T,st2,f2,W,w0,turn⟩:=h2
 subst e
 refine K8 (RR:=fun acc C=>compPost (aF X.prog X.w) X.A X.xe none (EP X pins σ Q) acc C) hc S lo hb c1 c2 I2 T st2 f2 w0 turn ?_
 intro D C m s' acc H' hD _ q hn hI
 exact ⟨m,hn,fun h' sb=>⟨.ref D,_,hI h' sb,rfl,q⟩⟩
section
variable {X:Cx}
theorem A6:j5 X (.builtin "len") (fun xs H Q=>∃ p ss,xs=[.ref p]/\H p=some (kU X.w p ss)/\Q (.int ss.length) H):=by
 intro pins s σ H xs us Q I r h
 obtain ⟨p,ss,rfl,hq,q⟩:=h
 obtain ⟨u,rfl,rx⟩:=ko r
 cases rx
 obtain ⟨es,ep,t,is,pm⟩:=(show cY X.prog X.w H s.heap p (kU X.w p ss) from I.hok p _ hq).1
 have hlen:es.size=ss.length:=by rw [<- pm.length_eq,al,ar]
 have hsm:(es.size:Int)<2 ^ 63:=by
  have h1:=is.few
  have h2:iH<=2 ^ 62:=by decide
  omega
 refine AC kind_len plain_len entry_len (args_len1 _) (wpAny_len_body_set is.at_ ⟨rfl,rfl,rfl⟩ rfl is.fits hsm ?_)
 refine ⟨.int _,H,I.tok _,⟨_,rfl⟩,?_⟩
 rw [hlen];exact q
end
end L2
end
section
namespace L2
open PySem PySem.Spec PyProof.Rows
section
variable {K:a8}{nt:Nat}{ix:List Nat}{te:TE}{σ:St}{H1:Hp}{Q:VK}{a:ah}{xs:List V}{i:Nat}
end
end L2
namespace L2
open PySem PySem.Spec PyProof.Rows
def Ij (so:eT) (N:List Str) (scope:eT) (N':List Str) (nt:Nat) (ix:List Nat):Bool :=
 (scope.kind == .function) && (scope.names.all fun y=>y.2 != .cell) && (scope.names.all fun y=>y.2 != .local || scope.names.lookup y.1 == some .local) &&
 (scope.names.all fun y=>y.2 != .free || so.names.lookup y.1 == some .cell || so.names.lookup y.1 == some .free) &&
 ((bw ix.length).all fun k=>match ix[k]? with
  | none=>false
  | some i=>match N[i]? with
   | none=>false
   | some x=>N'[nt + k]? == some x && scope.names.lookup x == some .free) && (N'.length == nt + ix.length)
theorem bS {X:Cx}{so:eT}{N:List Str}{scope:eT}{N':List Str}{nt:Nat}{ix:List Nat} (h:Ij so N scope N' nt ix=true) (h1:X.env.scope=so:=by rfl) (h2:X.N=N:=by rfl):nr X scope N' nt ix:=by
 unfold Ij at h
 simp only [aW,cq] at h
 obtain ⟨⟨⟨⟨⟨a,b⟩,c⟩,d⟩,e⟩,l⟩:=h
 refine ⟨by simpa using a,fun y hy z=>?_,fun y hy z=>?_,fun y hy z=>?_,fun k i hk=>?_,by simpa using l⟩
 ·have:=b y hy;simp [z] at this
 ·have:=c y hy;simpa [z] using this
 ·have:=d y hy
  rw [h1]
  simpa [z] using this
 ·have hl:k<ix.length:=(List.getElem?_eq_some_iff.mp hk).1
  have:=e k (List.mem_range.mpr hl)
  rw [hk] at this
  rw [h2]
  simp only at this
  split at this
  ·cases this
  ·rename_i x hx
   simp only [aW] at this
   exact ⟨x,hx,by simpa using this.1,by simpa using this.2⟩
end L2
end
section
namespace L2
open PySem PySem.Spec PyProof.Rows
section
variable {K:a8}{nt:Nat}{ix:List Nat}{te:TE}{σ:St}{H1:Hp}{Q:VK}{a b:ah}{xs ys:List V}{i k:Nat}
end
end L2
end
section
namespace J
open PySem L2
abbrev D:=ql
inductive R (α:Type) where
 | ok (a:α)
 | ex (c:Str) (n:Option D)
 | no
def R.bind {α β:Type}:R α->(α->R β)->R β
 | .ok a,f=>f a
 | .ex c n,_=>.ex c n
 | .no,_=>.no
@[simp] theorem bind_ok {α β:Type} (a:α) (f:α->R β):(R.ok a).bind f=f a:=rfl
@[simp] theorem bind_ex {α β:Type} (c:Str) (n:Option D) (f:α->R β):(R.ex c n).bind f=.ex c n:=rfl
@[simp] theorem bind_no {α β:Type} (f:α->R β):(R.no:R α).bind f=.no:=rfl
def kD:cO->D
 | .inl i=>.int i
 | .inr x=>.str x
def tD (ks:List cO):D:=.tuple (ks.map kD)
mutual
inductive RD (K:a8) (H:Hp):V->D->Prop
 | none:RD K H .non .none
 | bool (b:Bool):RD K H (.bl b) (.bool b)
 | int (i:Int):RD K H (.int i) (.int i)
 | str (x:Str):RD K H (.str x) (.str x)
 | list {a:ah}{xs:List V}{ds:List D}:lF K H a xs->RDs K H xs ds->RD K H (.ref a) (.list ds)
 | tuple {a:ah}{xs:List V}{ds:List D}:H a=some (.tup xs)->RDs K H xs ds->RD K H (.ref a) (.tuple ds)
 | dictK {a:ah}{kvs:List (cO×V)}{ds:List (D×D)}:H a=some (.dK kvs)->RDk K H kvs ds->RD K H (.ref a) (.dict ds)
 | dictT {a:ah}{kvs:List (List cO×V)}{ds:List (D×D)}:H a=some (.dT kvs)->kvs≠[]->RDt K H kvs ds->RD K H (.ref a) (.dict ds)
 | dictF {a:ah}{o:Obj}{kvs:List (List cO×V)}{ds:List (D×D)}:H a=some (.frz o (.dT kvs))->kvs≠[]->RDt K H kvs ds->RD K H (.ref a) (.dict ((.none,.none)::ds))
inductive RDs (K:a8) (H:Hp):List V->List D->Prop
 | nil:RDs K H [] []
 | cons {x:V}{xs:List V}{d:D}{ds:List D}:RD K H x d->RDs K H xs ds->RDs K H (x::xs) (d::ds)
inductive RDk (K:a8) (H:Hp):List (cO×V)->List (D×D)->Prop
 | nil:RDk K H [] []
 | cons {k:cO}{x:V}{xs:List (cO×V)}{d:D}{ds:List (D×D)}:RD K H x d->RDk K H xs ds->RDk K H ((k,x)::xs) ((kD k,d)::ds)
inductive RDt (K:a8) (H:Hp):List (List cO×V)->List (D×D)->Prop
 | nil:RDt K H [] []
 | cons {k:List cO}{x:V}{xs:List (List cO×V)}{d:D}{ds:List (D×D)}:RD K H x d->RDt K H xs ds->RDt K H ((k,x)::xs) ((tD k,d)::ds)
end
section
variable {K:a8}{H H':Hp}
theorem RD.same (e:du H H') {v:V}{d:D} (h:RD K H v d):RD K H' v d:=RD.rec (motive_1:=fun v d _=>RD K H' v d) (motive_2:=fun v d _=>RDs K H' v d) (motive_3:=fun v d _=>RDk K H' v d) (motive_4:=fun v d _=>RDt K H' v d) .none .bool .int .str (fun h _ r=>.list (e.seq h) r) (fun h _ r=>.tuple (e _ _ h) r) (fun h _ r=>.dictK (e _ _ h) r) (fun h n _ r=>.dictT (e _ _ h) n r) (fun h n _ r=>.dictF (e _ _ h) n r) .nil (fun _ _ a b=>.cons a b) .nil (fun _ _ a b=>.cons a b) .nil (fun _ _ a b=>.cons a b) h
theorem RDs.same (e:du H H') {v:List V}{d:List D} (h:RDs K H v d):RDs K H' v d:=RDs.rec (motive_1:=fun v d _=>RD K H' v d) (motive_2:=fun v d _=>RDs K H' v d) (motive_3:=fun v d _=>RDk K H' v d) (motive_4:=fun v d _=>RDt K H' v d) .none .bool .int .str (fun h _ r=>.list (e.seq h) r) (fun h _ r=>.tuple (e _ _ h) r) (fun h _ r=>.dictK (e _ _ h) r) (fun h n _ r=>.dictT (e _ _ h) n r) (fun h n _ r=>.dictF (e _ _ h) n r) .nil (fun _ _ a b=>.cons a b) .nil (fun _ _ a b=>.cons a b) .nil (fun _ _ a b=>.cons a b) h
theorem RDk.same (e:du H H') {v:List (cO×V)}{d:List (D×D)} (h:RDk K H v d):RDk K H' v d:=RDk.rec (motive_1:=fun v d _=>RD K H' v d) (motive_2:=fun v d _=>RDs K H' v d) (motive_3:=fun v d _=>RDk K H' v d) (motive_4:=fun v d _=>RDt K H' v d) .none .bool .int .str (fun h _ r=>.list (e.seq h) r) (fun h _ r=>.tuple (e _ _ h) r) (fun h _ r=>.dictK (e _ _ h) r) (fun h n _ r=>.dictT (e _ _ h) n r) (fun h n _ r=>.dictF (e _ _ h) n r) .nil (fun _ _ a b=>.cons a b) .nil (fun _ _ a b=>.cons a b) .nil (fun _ _ a b=>.cons a b) h
theorem RDt.same (e:du H H') {v:List (List cO×V)}{d:List (D×D)} (h:RDt K H v d):RDt K H' v d:=RDt.rec (motive_1:=fun v d _=>RD K H' v d) (motive_2:=fun v d _=>RDs K H' v d) (motive_3:=fun v d _=>RDk K H' v d) (motive_4:=fun v d _=>RDt K H' v d) .none .bool .int .str (fun h _ r=>.list (e.seq h) r) (fun h _ r=>.tuple (e _ _ h) r) (fun h _ r=>.dictK (e _ _ h) r) (fun h n _ r=>.dictT (e _ _ h) n r) (fun h n _ r=>.dictF (e _ _ h) n r) .nil (fun _ _ a b=>.cons a b) .nil (fun _ _ a b=>.cons a b) .nil (fun _ _ a b=>.cons a b) h
mutual
def qf:D->Bool
 | .dict _=>false
 | .list xs=>noDs xs
 | .tuple xs=>noDs xs
 | _=>true
def noDs:List D->Bool
 | []=>true
 | x::r=>qf x && noDs r
end
theorem UM {a b:Bool} (h:(a && b)=true):a=true:=(Bool.and_eq_true_iff.mp h).1
theorem UN {a b:Bool} (h:(a && b)=true):b=true:=(Bool.and_eq_true_iff.mp h).2
theorem RD.rep {v:V}{d:D} (h:RD K H v d):qf d=true->Gu K H v d:=RD.rec (motive_1:=fun v d _=>qf d=true->Gu K H v d) (motive_2:=fun v d _=>noDs d=true->Reps K H v d) (motive_3:=fun _ _ _=>True) (motive_4:=fun _ _ _=>True) (fun _=>.none) (fun b _=>.bool b) (fun i _=>.int i) (fun x _=>.str x) (fun h _ r e=>.list h (r e)) (fun h _ r e=>.tuple (.of h) (r e)) (fun _ _ _ e=>kH e) (fun _ _ _ _ e=>kH e) (fun _ _ _ _ e=>kH e) (fun _=>.nil) (fun _ _ a b e=>.cons (a (UM e)) (b (UN e))) trivial (fun _ _ _ _=>trivial) trivial (fun _ _ _ _=>trivial) h
theorem RDs.length {vs:List V}:∀ {ds:List D},RDs K H vs ds->vs.length=ds.length:=by
 induction vs with
 | nil=>intro ds h;cases h;rfl
 | cons x r ih=>intro ds h;cases h with | cons a b=>exact congrArg (· + 1) (ih b)
theorem RDs.get {vs:List V}:∀ {ds:List D}{i:Nat}{v:V},RDs K H vs ds->vs[i]?=some v->∃ d,ds[i]?=some d/\RD K H v d:=by
 induction vs with
 | nil=>intro ds i v _ e;cases e
 | cons x r ih =>
  intro ds i v h e
  cases h with
  | cons a b =>
   cases i with
   | zero=>cases e;exact ⟨_,rfl,a⟩
   | succ i=>have q:=ih (i:=i) b e;exact q
theorem RDs.get' {vs:List V}:∀ {ds:List D}{i:Nat}{d:D},RDs K H vs ds->ds[i]?=some d->∃ v,vs[i]?=some v/\RD K H v d:=by
 induction vs with
 | nil=>intro ds i v h e;cases h;cases e
 | cons x r ih =>
  intro ds i v h e
  cases h with
  | cons a b =>
   cases i with
   | zero=>cases e;exact ⟨_,rfl,a⟩
   | succ i=>have q:=ih (i:=i) b e;exact q
theorem RDs.append {vs ws:List V}{es:List D}:∀ {ds:List D},RDs K H vs ds->RDs K H ws es->RDs K H (vs++ws) (ds++es):=by
 induction vs with
 | nil=>intro ds h s;cases h;exact s
 | cons x r ih=>intro ds h s;cases h with | cons a b=>exact .cons a (ih b s)
theorem RDs.drop {vs:List V}:∀ {ds:List D} (n:Nat),RDs K H vs ds->RDs K H (vs.drop n) (ds.drop n):=by
 induction vs with
 | nil=>intro ds n h;cases h;cases n<;>exact .nil
 | cons x r ih =>
  intro ds n h
  cases n with
  | zero=>exact h
  | succ n=>cases h with | cons a b=>exact ih n b
theorem RDs.take {vs:List V}:∀ {ds:List D} (n:Nat),RDs K H vs ds->RDs K H (vs.take n) (ds.take n):=by
 induction vs with
 | nil=>intro ds n h;cases h;cases n<;>exact .nil
 | cons x r ih =>
  intro ds n h
  cases n with
  | zero=>exact .nil
  | succ n=>cases h with | cons a b=>exact .cons a (ih n b)
theorem ye:∀ (ss:List Str),RDs K H (ss.map V.str) (ss.map aP)
 | []=>.nil
 | x::r=>.cons (.str x) (ye r)
theorem RD.str_inv {v:V}{x:Str} (h:RD K H v (.str x)):v=.str x:=by cases h;rfl
theorem RD.bool_inv {v:V}{x:Bool} (h:RD K H v (.bool x)):v=.bl x:=by cases h;rfl
theorem RD.int_inv {v:V}{x:Int} (h:RD K H v (.int x)):v=.int x:=by cases h;rfl
theorem xp {α:Type}{c:α->D}{k:α->V} (hc:∀ {v x},RD K H v (c x)->v=k x) {ss:List α}:∀ {vs:List V},RDs K H vs (ss.map c)->vs=ss.map k:=by
 induction ss with
 | nil=>intro vs h;cases h;rfl
 | cons x r ih=>intro vs h;cases h with | cons a b=>rw [hc a,ih b];rfl
theorem oC {ss:List Str}{vs:List V}:RDs K H vs (ss.map aP)->vs=ss.map V.str:=xp RD.str_inv
theorem A7 {ss:List Bool}{vs:List V}:RDs K H vs (ss.map cH)->vs=ss.map V.bl:=xp RD.bool_inv
theorem C6 {ss:List Int}{vs:List V}:RDs K H vs (ss.map ck)->vs=ss.map V.int:=xp RD.int_inv
end
def nt:HO->Bool
 | .tup _=>false
 | _=>true
structure cQ (H Hs H' Hs':Hp):Prop where
 all:du H H'
 sh:du Hs Hs'
 sub:du Hs' H'
 out:∀ a o,H a=some o->nt o=true->Hs a=none->Hs' a=none
theorem cQ.refl {H Hs:Hp} (h:du Hs H):cQ H Hs H Hs:=⟨.refl _,.refl _,h,fun _ _ _ _ e=>e⟩
theorem cQ.trans {H Hs H1 Hs1 H2 Hs2:Hp} (a:cQ H Hs H1 Hs1) (b:cQ H1 Hs1 H2 Hs2):cQ H Hs H2 Hs2 :=
 ⟨a.all.trans b.all,a.sh.trans b.sh,b.sub,fun c o e t n=>b.out c o (a.all c o e) t (a.out c o e t n)⟩
theorem cQ.new {H Hs:Hp}{p:ah}{o:HO} (h:du Hs H) (n:H p=none):cQ H Hs (upd H p o) (upd Hs p o):=by
 have n':Hs p=none:=h.free n
 refine ⟨iQ n,iQ n',fun b u e=>?_,fun a u e t z=>?_⟩
 ·by_cases hb:b=p
  ·subst hb;rw [aV] at e ⊢;exact e
  ·rw [aT hb] at e ⊢;exact h b u e
 ·rw [aT (bi e n)];exact z
theorem cQ.mine {H Hs:Hp}{p:ah}{o:HO} (h:du Hs H) (n:H p=none):cQ H Hs (upd H p o) Hs:=by
 refine ⟨iQ n,.refl _,fun b u e=>?_,fun a u e t z=>z⟩
 have e':=h b u e
 rw [aT (bi e' n)];exact e'
inductive mn (K:a8) (Hs:Hp):HO->D->Prop
 | lst {vs:List V}{ds:List D}:RDs K Hs vs ds->mn K Hs (.lst vs) (.list ds)
 | dK {kvs:List (cO×V)}{ds:List (D×D)}:RDk K Hs kvs ds->mn K Hs (.dK kvs) (.dict ds)
 | dT {kvs:List (List cO×V)}{ds:List (D×D)}:kvs≠[]->RDt K Hs kvs ds->mn K Hs (.dT kvs) (.dict ds)
 | dF {o:Obj}{kvs:List (List cO×V)}{ds:List (D×D)}:kvs≠[]->RDt K Hs kvs ds->mn K Hs (.frz o (.dT kvs)) (.dict ((.none,.none)::ds))
theorem mn.same {K:a8}{Hs Hs':Hp}{o:HO}{d:D} (e:du Hs Hs') (h:mn K Hs o d):mn K Hs' o d:=by
 cases h with
 | lst r=>exact .lst (r.same e)
 | dK r=>exact .dK (r.same e)
 | dT n r=>exact .dT n (r.same e)
 | dF n r=>exact .dF n (r.same e)
theorem mn.nt {K:a8}{Hs:Hp}{o:HO}{d:D} (h:mn K Hs o d):J.nt o=true:=by cases h<;>rfl
theorem mn.share {K:a8}{Hs:Hp}{o:HO}{d:D}{a:ah} (n:Hs a=none) (h:mn K Hs o d):RD K (upd Hs a o) (.ref a) d:=by
 have e:du Hs (upd Hs a o):=iQ n
 cases h with
 | lst r=>exact .list (.of aV) (r.same e)
 | dK r=>exact .dictK aV (r.same e)
 | dT n r=>exact .dictT aV n (r.same e)
 | dF n r=>exact .dictF aV n (r.same e)
inductive Sl where
 | no
 | shr (d:D)
 | own (d:D)
 | lck (d:D)
 | ow2 (dss:List (List D))
abbrev av:=List Sl
inductive AV (K:a8) (H Hs:Hp):List ah->List (List D)->Prop
 | nil:AV K H Hs [] []
 | cons {a:ah}{as:List ah}{vs:List V}{ds:List D}{dss:List (List D)}:H a=some (.lst vs)->RDs K Hs vs ds->AV K H Hs as dss->AV K H Hs (a::as) (ds::dss)
theorem AV.step {K:a8}{H Hs H' Hs':Hp} (e:du H H') (e':du Hs Hs') {as:List ah}{dss:List (List D)} (h:AV K H Hs as dss):AV K H' Hs' as dss:=by
 induction h with
 | nil=>exact .nil
 | cons h r t ih=>exact .cons (e _ _ h) (r.same e') ih
theorem AV.upd {K:a8}{H Hs:Hp}{b:ah}{o:HO}{as:List ah}{dss:List (List D)} (n:b∉as) (h:AV K H Hs as dss):AV K (upd H b o) Hs as dss:=by
 induction h with
 | nil=>exact .nil
 | cons h r t ih=>exact .cons (by rw [aT (fun z=>n (by rw [<- z];exact ap))];exact h) r (ih fun z=>n (am _ z))
theorem AV.there {K:a8}{H Hs:Hp}{b:ah}{as:List ah}{dss:List (List D)} (h:AV K H Hs as dss) (hb:b∈as):∃ o,H b=some o/\nt o=true:=by
 induction h with
 | nil=>cases hb
 | cons h r t ih =>
  rcases List.mem_cons.mp hb with e | hb
  ·exact ⟨_,e ▸ h,rfl⟩
  ·exact ih hb
structure O2 (K:a8) (H0 H Hs:Hp) (ρ:av) (σ:St) (i:Nat) (dss:List (List D)) (a:ah) (as:List ah):Prop where
 at_:σ[i]?=some (some (V.ref a))
 ob:H a=some (.lst (as.map V.ref))
 nd:(a::as).Nodup
 out:∀ b∈a::as,Hs b=none/\H0 b=none
 dj:∀ b∈a::as,∀ (j:Nat) (e:D),ρ[j]?=some (Sl.own e)->σ[j]?≠some (some (V.ref b))
 inn:AV K H Hs as dss
structure Fr (K:a8) (H0 Hs0:Hp) (la:Nat->Option ah) (ρ:av) (σ:St) (H Hs:Hp):Prop where
 st:cQ H0 Hs0 H Hs
 len:ρ.length=σ.length
 sh:∀ (i:Nat) (d:D),ρ[i]?=some (Sl.shr d)->∃ v,σ[i]?=some (some v)/\RD K Hs v d
 ow:∀ (i:Nat) (d:D),ρ[i]?=some (Sl.own d)->∃ a o,σ[i]?=some (some (V.ref a))/\H a=some o/\Hs a=none/\H0 a=none/\mn K Hs o d
 lk:∀ (i:Nat) (d:D),ρ[i]?=some (Sl.lck d)->∃ a o,σ[i]?=some (some (V.ref a))/\la i=some a/\H a=some o/\Hs a=none/\H0 a=some o/\mn K Hs o d
 dj:∀ (i j:Nat) (d e:D) (a:ah),ρ[i]?=some (Sl.own d)->ρ[j]?=some (Sl.own e)->σ[i]?=some (some (V.ref a))->σ[j]?=some (some (V.ref a))->i=j
 lh:∀ (i:Nat) (a:ah),la i=some a->∃ o,H0 a=some o
 o2:∀ (i:Nat) (dss:List (List D)),ρ[i]?=some (Sl.ow2 dss)->∃ a as,O2 K H0 H Hs ρ σ i dss a as
 u2:∀ (i j:Nat) (d e:List (List D)),ρ[i]?=some (Sl.ow2 d)->ρ[j]?=some (Sl.ow2 e)->i=j
theorem Fr.step {K:a8}{H0 Hs0 H Hs H' Hs':Hp}{la:Nat->Option ah}{ρ:av}{σ:St} (f:Fr K H0 Hs0 la ρ σ H Hs) (s:cQ H Hs H' Hs'):Fr K H0 Hs0 la ρ σ H' Hs':=by
 refine ⟨f.st.trans s,f.len,fun i d e=>?_,fun i d e=>?_,fun i d e=>?_,f.dj,f.lh,fun i dss e=>?_,f.u2⟩
 ·obtain ⟨v,h1,h2⟩:=f.sh i d e
  exact ⟨v,h1,h2.same s.sh⟩
 ·obtain ⟨a,o,h1,h2,h3,h4,h5⟩:=f.ow i d e
  exact ⟨a,o,h1,s.all _ _ h2,s.out _ _ h2 h5.nt h3,h4,h5.same s.sh⟩
 ·obtain ⟨a,o,h1,h2,h3,h4,h5,h6⟩:=f.lk i d e
  exact ⟨a,o,h1,h2,s.all _ _ h3,s.out _ _ h3 h6.nt h4,h5,h6.same s.sh⟩
 ·obtain ⟨a,as,h⟩:=f.o2 i dss e
  refine ⟨a,as,h.at_,s.all _ _ h.ob,h.nd,fun b hb=>⟨?_,(h.out b hb).2⟩,h.dj,h.inn.step s.all s.sh⟩
  have there:∃ o,H b=some o/\nt o=true:=by
   rcases List.mem_cons.mp hb with rfl | hb
   ·exact ⟨_,h.ob,rfl⟩
   ·exact h.inn.there hb
  obtain ⟨o,ho,hn⟩:=there
  exact s.out b o ho hn (h.out b (by assumption)).1
inductive UO (K:a8) (H Hs:Hp) (v:V) (d:D):Prop
 | mk (a:ah) (o:HO) (h0:v=.ref a) (h1:H a=some o) (h2:Hs a=none) (h3:mn K Hs o d):UO K H Hs v d
def RB (K:a8) (H Hs:Hp) (v:V) (d:D):Prop:=RD K Hs v d\/UO K H Hs v d
theorem RB.step {K:a8}{H Hs H' Hs':Hp}{v:V}{d:D} (h:RB K H Hs v d) (s:cQ H Hs H' Hs'):RB K H' Hs' v d:=by
 rcases h with h | ⟨a,o,h1,h2,h3,h4⟩
 ·exact .inl (h.same s.sh)
 ·exact .inr ⟨a,o,h1,s.all _ _ h2,s.out _ _ h2 h4.nt h3,h4.same s.sh⟩
theorem RB.full {K:a8}{H Hs:Hp}{v:V}{d:D} (sub:du Hs H) (h:RB K H Hs v d):RD K H v d:=by
 rcases h with h | ⟨a,o,rfl,h2,h3,h4⟩
 ·exact h.same sub
 ·have e:du (upd Hs a o) H:=fun b u q=>by
   by_cases hb:b=a
   ·subst hb;rw [aV] at q;cases q;exact h2
   ·rw [aT hb] at q;exact sub b u q
  exact (h4.share h3).same e
theorem RB.list {K:a8}{H Hs:Hp}{v:V}{ds:List D} (sub:du Hs H) (h:RB K H Hs v (.list ds)):∃ a vs,v=.ref a/\lF K H a vs/\RDs K Hs vs ds:=by
 rcases h with h | ⟨a,o,rfl,h2,h3,h4⟩
 ·cases h with | list q r=>exact ⟨_,_,rfl,sub.seq q,r⟩
 ·cases h4 with | lst r=>exact ⟨a,_,rfl,.of h2,r⟩
theorem RB.tuple {K:a8}{H Hs:Hp}{v:V}{ds:List D} (sub:du Hs H) (h:RB K H Hs v (.tuple ds)):∃ a vs,v=.ref a/\kn K H a vs/\RDs K Hs vs ds/\Hs a=some (.tup vs):=by
 rcases h with h | ⟨a,o,rfl,h2,h3,h4⟩
 ·cases h with | tuple q r=>exact ⟨_,_,rfl,.of (sub _ _ q),r,q⟩
 ·cases h4
theorem RB.str {K:a8}{H Hs:Hp}{v:V}{x:Str} (h:RB K H Hs v (.str x)):v=.str x:=by
 rcases h with h | ⟨a,o,rfl,h2,h3,h4⟩
 ·exact h.str_inv
 ·cases h4
theorem RB.int {K:a8}{H Hs:Hp}{v:V}{i:Int} (h:RB K H Hs v (.int i)):v=.int i:=by
 rcases h with h | ⟨a,o,rfl,h2,h3,h4⟩
 ·exact h.int_inv
 ·cases h4
theorem RB.non {K:a8}{H Hs:Hp}{v:V} (h:RB K H Hs v .none):v=.non:=by
 rcases h with h | ⟨a,o,rfl,h2,h3,h4⟩
 ·cases h;rfl
 ·cases h4
def XW (K:a8) (cls:Str->ah) (E:XK) (c:Str) (n:Option D) (H Hs:Hp):Prop:=match n with
 | none=>E (.ref (cls c)) none H
 | some d=>∀ dx v,H dx=some (.xd [("number",v)])->RD K Hs v d->E (.ref (cls c)) (some dx) H
def Fin {α:Type} (K:a8) (cls:Str->ah) (E:XK) (H Hs:Hp) (r:R α) (q:α->Prop):Prop:=match r with
 | .ok d=>q d
 | .ex c n=>∀ H' Hs',cQ H Hs H' Hs'->XW K cls E c n H' Hs'
 | .no=>False
inductive Xx (K:a8) (cls:Str->ah) (E:XK) (ρ:av) (r:R D) (σ:St) (H:Hp) (Q:VK):Prop
 | mk (H0 Hs0:Hp) (la:Nat->Option ah) (Hs:Hp) (f:Fr K H0 Hs0 la ρ σ H Hs) (q:Fin K cls E H Hs r fun d=>∀ v H' Hs',cQ H Hs H' Hs'->RD K Hs' v d->Q v H'):Xx K cls E ρ r σ H Q
def TR (K:a8) (cls:Str->ah) (E:XK) (ρ:av) (r:R D):TE:=Xx K cls E ρ r
inductive Xy (K:a8) (cls:Str->ah) (E:XK) (ρ:av) (r:R D) (σ:St) (H:Hp) (Q:VK):Prop
 | mk (H0 Hs0:Hp) (la:Nat->Option ah) (Hs:Hp) (f:Fr K H0 Hs0 la ρ σ H Hs) (q:Fin K cls E H Hs r fun d=>∀ v H' Hs',cQ H Hs H' Hs'->RB K H' Hs' v d->Q v H'):Xy K cls E ρ r σ H Q
def TB (K:a8) (cls:Str->ah) (E:XK) (ρ:av) (r:R D):TE:=Xy K cls E ρ r
inductive UP (K:a8) (cls:Str->ah) (E:XK) (ρ:av) (r:R Bool) (σ:St) (H:Hp) (Q:Bool->Hp->Prop):Prop
 | mk (H0 Hs0:Hp) (la:Nat->Option ah) (Hs:Hp) (f:Fr K H0 Hs0 la ρ σ H Hs) (q:Fin K cls E H Hs r fun b=>∀ H' Hs',cQ H Hs H' Hs'->Q b H'):UP K cls E ρ r σ H Q
def K9 (K:a8) (cls:Str->ah) (E:XK) (ρ:av) (r:R Bool):TT:=UP K cls E ρ r
inductive Ru (K:a8) (H Hs:Hp):List V->List D->Prop
 | nil:Ru K H Hs [] []
 | cons {x:V}{xs:List V}{d:D}{ds:List D}:RB K H Hs x d->Ru K H Hs xs ds->Ru K H Hs (x::xs) (d::ds)
inductive UQ (K:a8) (cls:Str->ah) (E:XK) (ρ:av) (r:R (List D)) (σ:St) (H:Hp) (Q:List V->Hp->Prop):Prop
 | mk (H0 Hs0:Hp) (la:Nat->Option ah) (Hs:Hp) (f:Fr K H0 Hs0 la ρ σ H Hs) (q:Fin K cls E H Hs r fun d=>∀ v H' Hs',cQ H Hs H' Hs'->RDs K Hs' v d->Q v H'):UQ K cls E ρ r σ H Q
def UR (K:a8) (cls:Str->ah) (E:XK) (ρ:av) (r:R (List D)):TA:=UQ K cls E ρ r
inductive US (K:a8) (cls:Str->ah) (E:XK) (ρ:av) (r:R (List D)) (σ:St) (H:Hp) (Q:List V->Hp->Prop):Prop
 | mk (H0 Hs0:Hp) (la:Nat->Option ah) (Hs:Hp) (f:Fr K H0 Hs0 la ρ σ H Hs) (q:Fin K cls E H Hs r fun d=>∀ v H' Hs',cQ H Hs H' Hs'->Ru K H' Hs' v d->Q v H'):US K cls E ρ r σ H Q
def W3 (K:a8) (cls:Str->ah) (E:XK) (ρ:av) (r:R (List D)):TA:=US K cls E ρ r
structure C where
 X:Cx
 cls:Str->ah
 E:XK
structure JE (c:C) (e:b9) (g:av->R D):Prop where of ::
 run:∀ ρ,PE c.X e (TR c.X.K c.cls c.E ρ (g ρ))
instance {c:C}{e:b9}{g:av->R D}:CoeFun (JE c e g) (fun _=>∀ ρ,PE c.X e (TR c.X.K c.cls c.E ρ (g ρ))):=⟨JE.run⟩
structure JB (c:C) (e:b9) (g:av->R D):Prop where of ::
 run:∀ ρ,PE c.X e (TB c.X.K c.cls c.E ρ (g ρ))
instance {c:C}{e:b9}{g:av->R D}:CoeFun (JB c e g) (fun _=>∀ ρ,PE c.X e (TB c.X.K c.cls c.E ρ (g ρ))):=⟨JB.run⟩
structure JT (c:C) (e:b9) (g:av->R Bool):Prop where of ::
 run:∀ ρ,PT c.X e (K9 c.X.K c.cls c.E ρ (g ρ))
instance {c:C}{e:b9}{g:av->R Bool}:CoeFun (JT c e g) (fun _=>∀ ρ,PT c.X e (K9 c.X.K c.cls c.E ρ (g ρ))):=⟨JT.run⟩
structure JW (c:C) (e:b9) (g:av->R Bool):Prop where of ::
 run:∀ ρ,PW c.X e (K9 c.X.K c.cls c.E ρ (g ρ))
instance {c:C}{e:b9}{g:av->R Bool}:CoeFun (JW c e g) (fun _=>∀ ρ,PW c.X e (K9 c.X.K c.cls c.E ρ (g ρ))):=⟨JW.run⟩
structure Dk (c:C) (es:List b9) (g:av->R (List D)):Prop where of ::
 run:∀ ρ,PA c.X es (UR c.X.K c.cls c.E ρ (g ρ))
instance {c:C}{es:List b9}{g:av->R (List D)}:CoeFun (Dk c es g) (fun _=>∀ ρ,PA c.X es (UR c.X.K c.cls c.E ρ (g ρ))):=⟨Dk.run⟩
structure Rv (c:C) (es:List b9) (g:av->R (List D)):Prop where of ::
 run:∀ ρ,PA c.X es (W3 c.X.K c.cls c.E ρ (g ρ))
instance {c:C}{es:List b9}{g:av->R (List D)}:CoeFun (Rv c es g) (fun _=>∀ ρ,PA c.X es (W3 c.X.K c.cls c.E ρ (g ρ))):=⟨Rv.run⟩
section
variable {c:C}{e a b:b9}{g ga gb:av->R D}{pos:Pos}
theorem qg {X:Cx}{e:b9}{t t':TE} (h:PE X e t) (m:∀ σ H Q,t' σ H Q->t σ H Q):PE X e t':=fun pins s σ H Q I q=>h pins s σ H Q I (m σ H Q q)
theorem UT {X:Cx}{e:b9}{t t':TT} (h:PT X e t) (m:∀ σ H Q,t' σ H Q->t σ H Q):PT X e t':=fun pins s σ H Q I q=>h pins s σ H Q I (m σ H Q q)
theorem Xz {X:Cx}{e:b9}{t t':TT} (h:PW X e t) (m:∀ σ H Q,t' σ H Q->t σ H Q):PW X e t':=fun wh pins s σ H Q I q=>h wh pins s σ H Q I (m σ H Q q)
theorem W4 {X:Cx}{e:List b9}{t t':TA} (h:PA X e t) (m:∀ σ H Q,t' σ H Q->t σ H Q):PA X e t':=fun pos pins s σ H Q I q=>h pos pins s σ H Q I (m σ H Q q)
theorem yf {X:Cx}{e:cr}{t t':TS} (h:PS X e t) (m:∀ D σ H,t' D σ H->t D σ H):PS X e t':=fun pins s σ H Q I q=>h pins s σ H Q I (m Q σ H q)
theorem WW {X:Cx}{e:List cr}{t t':TS} (h:z_ X e t) (m:∀ D σ H,t' D σ H->t D σ H):z_ X e t':=fun pins s σ H Q I q=>h pins s σ H Q I (m Q σ H q)
theorem JE.bor (h:JE c e g):JB c e g:=.of fun ρ=>qg (h ρ) fun σ H Q ⟨H0,Hs0,la,Hs,f,q⟩=>⟨H0,Hs0,la,Hs,f,by
 cases hr:g ρ with
 | ok d=>rw [hr] at q;exact fun v H' Hs' s r=>q v H' Hs' s (.inl r)
 | ex c n=>rw [hr] at q;exact q
 | no=>rw [hr] at q;exact q⟩
theorem one {K:a8}{cls:Str->ah}{E:XK}{ρ:av}{r:R D}{β:Type}{k:D->R β}{σ:St}{H:Hp}{H0 Hs0 Hs:Hp}{la:Nat->Option ah}{Q:V->Hp->Prop}{q:β->Prop} (f:Fr K H0 Hs0 la ρ σ H Hs)
  (h:Fin K cls E H Hs (r.bind k) q) (m:∀ d v H' Hs',r=.ok d->cQ H Hs H' Hs'->Fr K H0 Hs0 la ρ σ H' Hs'->RB K H' Hs' v d->Q v H'):TB K cls E ρ r σ H Q:=by
 refine ⟨H0,Hs0,la,Hs,f,?_⟩
 cases r with
 | ok d=>exact fun v H' Hs' s r=>m d v H' Hs' rfl s (f.step s) r
 | ex c n=>exact h
 | no=>exact h
theorem yg {K:a8}{cls:Str->ah}{E:XK}{ρ:av}{r:R D}{β:Type}{k:D->R β}{σ:St}{H:Hp}{H0 Hs0 Hs:Hp}{la:Nat->Option ah}{Q:V->Hp->Prop}{q:β->Prop} (f:Fr K H0 Hs0 la ρ σ H Hs)
  (h:Fin K cls E H Hs (r.bind k) q) (m:∀ d v H' Hs',r=.ok d->cQ H Hs H' Hs'->Fr K H0 Hs0 la ρ σ H' Hs'->RD K Hs' v d->Q v H'):TR K cls E ρ r σ H Q:=by
 refine ⟨H0,Hs0,la,Hs,f,?_⟩
 cases r with
 | ok d=>exact fun v H' Hs' s r=>m d v H' Hs' rfl s (f.step s) r
 | ex c n=>exact h
 | no=>exact h
theorem Ka {K:a8}{cls:Str->ah}{E:XK}{ρ:av}{r:R Bool}{β:Type}{k:Bool->R β}{σ:St}{H:Hp}{H0 Hs0 Hs:Hp}{la:Nat->Option ah}{Q:Bool->Hp->Prop}{q:β->Prop} (f:Fr K H0 Hs0 la ρ σ H Hs)
  (h:Fin K cls E H Hs (r.bind k) q) (m:∀ d H' Hs',r=.ok d->cQ H Hs H' Hs'->Fr K H0 Hs0 la ρ σ H' Hs'->Q d H'):K9 K cls E ρ r σ H Q:=by
 refine ⟨H0,Hs0,la,Hs,f,?_⟩
 cases r with
 | ok d=>exact fun H' Hs' s=>m d H' Hs' rfl s (f.step s)
 | ex c n=>exact h
 | no=>exact h
theorem A8 {K:a8}{cls:Str->ah}{E:XK}{ρ:av}{r:R (List D)}{β:Type}{k:List D->R β}{σ:St}{H:Hp}{H0 Hs0 Hs:Hp}{la:Nat->Option ah}{Q:List V->Hp->Prop}{q:β->Prop} (f:Fr K H0 Hs0 la ρ σ H Hs)
  (h:Fin K cls E H Hs (r.bind k) q) (m:∀ d v H' Hs',r=.ok d->cQ H Hs H' Hs'->Fr K H0 Hs0 la ρ σ H' Hs'->RDs K Hs' v d->Q v H'):UR K cls E ρ r σ H Q:=by
 refine ⟨H0,Hs0,la,Hs,f,?_⟩
 cases r with
 | ok d=>exact fun v H' Hs' s r=>m d v H' Hs' rfl s (f.step s) r
 | ex c n=>exact h
 | no=>exact h
theorem MB {K:a8}{cls:Str->ah}{E:XK}{ρ:av}{r:R (List D)}{β:Type}{k:List D->R β}{σ:St}{H:Hp}{H0 Hs0 Hs:Hp}{la:Nat->Option ah}{Q:List V->Hp->Prop}{q:β->Prop} (f:Fr K H0 Hs0 la ρ σ H Hs)
  (h:Fin K cls E H Hs (r.bind k) q) (m:∀ d v H' Hs',r=.ok d->cQ H Hs H' Hs'->Fr K H0 Hs0 la ρ σ H' Hs'->Ru K H' Hs' v d->Q v H'):W3 K cls E ρ r σ H Q:=by
 refine ⟨H0,Hs0,la,Hs,f,?_⟩
 cases r with
 | ok d=>exact fun v H' Hs' s r=>m d v H' Hs' rfl s (f.step s) r
 | ex c n=>exact h
 | no=>exact h
theorem Fin.on {α:Type}{K:a8}{cls:Str->ah}{E:XK}{H Hs H' Hs':Hp}{r:R α}{q q':α->Prop} (h:Fin K cls E H Hs r q) (s:cQ H Hs H' Hs') (m:∀ a,q a->q' a):Fin K cls E H' Hs' r q':=by
 cases r with
 | ok a=>exact m a h
 | ex c n=>exact fun H2 Hs2 s2=>h H2 Hs2 (s.trans s2)
 | no=>exact h
end
end J
end
section
namespace J
open PySem L2
def bj (ρ:av) (i:Nat):R D:=match ρ[i]? with
 | some (Sl.shr d)=>.ok d
 | _=>.no
def bh (ρ:av) (i:Nat):R D:=match ρ[i]? with
 | some (Sl.shr d)=>.ok d
 | some (Sl.own d)=>.ok d
 | some (Sl.lck d)=>.ok d
 | _=>.no
section
variable {c:C}{e a b:b9}{g ga gb:av->R D}{pos:Pos}
theorem ai (i:Nat) {x:Str} (hN:c.X.N[i]?=some x:=by rfl) (hv:Lf c.X.env.scope x:=by first | exact gx rfl | exact d_ (gx rfl) | exact d_ (d_ rfl)) (hd:(x == ("__debug__" : Str))=false:=by decide)
  (hcd:(x == ("__classdict__" : Str))=false:=by decide):JE c (.Name x pos) (fun ρ=>bj ρ i):=.of fun ρ=>qg (nl hN hv hd hcd) fun σ H Q h_0=>by
 obtain ⟨H0,Hs0,la,Hs,f,q⟩:=h_0
 cases hr:ρ[i]? with
 | none=>simp only [bj,hr] at q;exact q.elim
 | some s =>
  cases s with
  | shr d =>
   obtain ⟨v,h1,h2⟩:=f.sh i d hr
   simp only [bj,hr] at q
   exact ⟨v,h1,q v H Hs (.refl f.st.sub) h2⟩
  | no=>simp only [bj,hr] at q;exact q.elim
  | own d=>simp only [bj,hr] at q;exact q.elim
  | lck d=>simp only [bj,hr] at q;exact q.elim
  | ow2 d=>simp only [bj,hr] at q;exact q.elim
theorem aj (i:Nat) {x:Str} (hN:c.X.N[i]?=some x:=by rfl) (hv:Lf c.X.env.scope x:=by first | exact gx rfl | exact d_ (gx rfl) | exact d_ (d_ rfl)) (hd:(x == ("__debug__" : Str))=false:=by decide)
  (hcd:(x == ("__classdict__" : Str))=false:=by decide):JB c (.Name x pos) (fun ρ=>bh ρ i):=.of fun ρ=>qg (nl hN hv hd hcd) fun σ H Q h_1=>by
 obtain ⟨H0,Hs0,la,Hs,f,q⟩:=h_1
 cases hr:ρ[i]? with
 | none=>simp only [bh,hr] at q;exact q.elim
 | some s =>
  cases s with
  | shr d =>
   obtain ⟨v,h1,h2⟩:=f.sh i d hr
   simp only [bh,hr] at q
   exact ⟨v,h1,q v H Hs (.refl f.st.sub) (.inl h2)⟩
  | no=>simp only [bh,hr] at q;exact q.elim
  | own d =>
   obtain ⟨a,o,h1,h2,h3,h4,h5⟩:=f.ow i d hr
   simp only [bh,hr] at q
   exact ⟨_,h1,q _ H Hs (.refl f.st.sub) (.inr ⟨a,o,rfl,h2,h3,h5⟩)⟩
  | lck d =>
   obtain ⟨a,o,h1,h2,h3,h4,h5,h6⟩:=f.lk i d hr
   simp only [bh,hr] at q
   exact ⟨_,h1,q _ H Hs (.refl f.st.sub) (.inr ⟨a,o,rfl,h3,h4,h6⟩)⟩
  | ow2 d=>simp only [bh,hr] at q;exact q.elim
theorem qv {v:V}{d:D} (h:PE c.X e (tC v)) (r:∀ Hs,RD c.X.K Hs v d):JE c e (fun _=>.ok d):=.of fun ρ=>qg h fun σ H Q h_2=>by obtain ⟨H0,Hs0,la,Hs,f,q⟩:=h_2;exact q v H Hs (.refl f.st.sub) (r Hs)
theorem aC {i:Int}{j:Nat}:JE c (.Constant (.int i) j pos) (fun _=>.ok (.int i)):=qv LA fun _=>.int i
theorem lH {i:Bool}{j:Nat}:JE c (.Constant (.bool i) j pos) (fun _=>.ok (.bool i)):=qv LB fun _=>.bool i
theorem qw {j:Nat}:JE c (.Constant .none j pos) (fun _=>.ok .none):=qv Sq fun _=>.none
theorem oE {i:Str}{j:Nat}:JE c (.Constant (.str i) j pos) (fun _=>.ok (.str i)):=qv LC fun _=>.str i
theorem uF {x:Str}{i:Int} (hg:Gl c.X x) (hm:∃ t,c.X.mg x=some (.int i t)) (hd:(x == ("__debug__" : Str))=false:=by decide):JE c (.Name x pos) (fun _=>.ok (.int i)):=by
 obtain ⟨t,hm⟩:=hm
 exact qv (BL hg hm (v:=.int i) ⟨t,rfl⟩ hd) fun _=>.int i
inductive XA (K:a8) (h:D->D->R D) (x:V) (y:V) (H:Hp) (Q:VK):Prop
 | mk (Hs dx dy:_) (h0:du Hs H) (h1:RB K H Hs x dx) (h2:RB K H Hs y dy) (h3:∃ d,h dx dy=.ok d/\∀ v H' Hs',cQ H Hs H' Hs'->RD K Hs' v d->Q v H'):XA K h x y H Q
def rD (K:a8) (h:D->D->R D):R2:=XA K h
def wU (X:Cx) (f:a9->a9->Sem a9) (h:D->D->R D):Prop:=pZ X f (rD X.K h)/\∀ x y c n,h x y≠.ex c n
def g2 (ga gb:av->R D) (h:D->D->R D):av->R D:=fun ρ=>(ga ρ).bind fun x=>(gb ρ).bind fun y=>h x y
theorem two {K:a8}{cls:Str->ah}{E:XK}{h:D->D->R D}{ρ:av}{σ:St}{H:Hp}{Q:VK} (hx:∀ x y c n,h x y≠.ex c n) (q:TR K cls E ρ (g2 ga gb h ρ) σ H Q):Uq (rD K h) (TB K cls E ρ (ga ρ)) (TB K cls E ρ (gb ρ)) σ H Q:=by
 obtain ⟨H0,Hs0,la,Hs,f,q⟩:=q
 refine one f q fun x v H1 Hs1 e1 s1 f1 r1=>?_
 unfold g2 at q
 rw [e1,bind_ok] at q
 refine one f1 (q.on s1 (q':=fun _=>True) fun _ _=>trivial) fun y u H2 Hs2 e2 s2 f2 r2=>?_
 rw [e2,bind_ok] at q
 cases hr:h x y with
 | ok d =>
  rw [hr] at q
  exact ⟨Hs2,x,y,f2.st.sub,r1.step s2,r2,d,hr,fun w H3 Hs3 s3 r3=>q w H3 Hs3 (s1.trans (s2.trans s3)) r3⟩
 | ex c n=>exact (hx x y c n hr).elim
 | no=>rw [hr] at q;exact q.elim
theorem bV {op:Operator}{h:D->D->R D} (ho:wU c.X (fZ op) h) (ha:JB c a ga) (hb:JB c b gb):JE c (.BinOp a op b pos) (g2 ga gb h):=.of fun ρ=>qg (Rb ho.1 (ha ρ) (hb ρ)) fun σ H Q q=>two ho.2 q
theorem nu {op:xb}{h:D->D->R D} (ho:wU c.X (bG op) h) (ha:JB c a ga) (hb:JB c b gb) (hm:gM op b=false:=by first | exact Ge _ | rfl):JE c (.Compare a [op] [b] pos) (g2 ga gb h):=.of fun ρ=>qg (Pr ho.1 (ha ρ) (hb ρ) hm) fun σ H Q q=>two ho.2 q
def eZ (g:av->R D):av->R Bool:=fun ρ=>(g ρ).bind fun d=>match d with
 | .bool b=>.ok b
 | _=>.no
theorem UU {K:a8}{cls:Str->ah}{E:XK}{ρ:av}{σ:St}{H:Hp}{Q:Bool->Hp->Prop} (q:K9 K cls E ρ (eZ g ρ) σ H Q):TR K cls E ρ (g ρ) σ H fun x H'=>∃ k,x=.bl k/\Q k H':=by
 obtain ⟨H0,Hs0,la,Hs,f,q⟩:=q
 refine yg f q fun d v H1 Hs1 e1 s1 f1 r1=>?_
 unfold eZ at q
 rw [e1,bind_ok] at q
 cases r1 with
 | bool b=>exact ⟨b,rfl,q H1 Hs1 s1⟩
 | _=>exact q.elim
theorem dk {op:xb}{h:D->D->R D} (ho:wU c.X (bG op) h) (ha:JB c a ga) (hb:JB c b gb) (hm:gM op b=false:=by first | exact Ge _ | rfl):JT c (.Compare a [op] [b] pos) (eZ (g2 ga gb h)):=.of fun ρ=>UT (HV ho.1 (ha ρ) (hb ρ) hm) fun σ H Q q=>two ho.2 (UU q)
theorem eL (h:JE c e g) (he:∀ whole,vm e c.X.env whole=(do let v <- whole;wj e.pos;Fv [v] (truthy v)):=by intro _;rfl):JT c e (eZ g):=.of fun ρ=>UT (LF (h ρ) he) fun σ H Q q=>UU q
def kr (g:av->R Bool):av->R Bool:=fun ρ=>(g ρ).bind fun b=>.ok (!b)
def yh (g h:av->R Bool):av->R Bool:=fun ρ=>(g ρ).bind fun b=>if b then h ρ else .ok false
def Ik (g h:av->R Bool):av->R Bool:=fun ρ=>(g ρ).bind fun b=>if b then .ok true else h ρ
variable {gt gu:av->R Bool}{bW:List b9}
theorem g6 (h:JT c e gt):JT c (.UnaryOp .Not e pos) (kr gt):=.of fun ρ=>UT (LH (h ρ)) fun σ H Q q=>by
 obtain ⟨H0,Hs0,la,Hs,f,q⟩:=q
 refine Ka f q fun d H1 Hs1 e1 s1 f1=>?_
 unfold kr at q
 rw [e1,bind_ok] at q
 exact q H1 Hs1 s1
theorem uG (h:JT c a gt):JW c (.BoolOp .And [a] pos) gt:=.of fun ρ=>Pl (h ρ)
theorem nw (h:JT c a gt):JW c (.BoolOp .Or [a] pos) gt:=.of fun ρ=>LG (h ρ)
theorem yi (h:JT c a gt) (h2:JW c (.BoolOp .And (b::bW) pos) gu):JW c (.BoolOp .And (a::b::bW) pos) (yh gt gu):=.of fun ρ=>Xz (Sr (h ρ) (h2 ρ)) fun σ H Q q=>by
 obtain ⟨H0,Hs0,la,Hs,f,q⟩:=q
 refine Ka f q fun d H1 Hs1 e1 s1 f1=>?_
 unfold yh at q
 rw [e1,bind_ok] at q
 cases d with
 | true=>exact BU ⟨H0,Hs0,la,Hs1,f1,q.on s1 fun b k H2 Hs2 s2=>k H2 Hs2 (s1.trans s2)⟩
 | false=>exact xQ (q H1 Hs1 s1)
theorem sH (h:JT c a gt) (h2:JW c (.BoolOp .Or (b::bW) pos) gu):JW c (.BoolOp .Or (a::b::bW) pos) (Ik gt gu):=.of fun ρ=>Xz (R7 (h ρ) (h2 ρ)) fun σ H Q q=>by
 obtain ⟨H0,Hs0,la,Hs,f,q⟩:=q
 refine Ka f q fun d H1 Hs1 e1 s1 f1=>?_
 unfold Ik at q
 rw [e1,bind_ok] at q
 cases d with
 | false=>exact xQ ⟨H0,Hs0,la,Hs1,f1,q.on s1 fun b k H2 Hs2 s2=>k H2 Hs2 (s1.trans s2)⟩
 | true=>exact BU (q H1 Hs1 s1)
theorem JW.t (h:JW c e gt):JT c e gt:=.of fun ρ=>(h ρ).pt
def yj (g:av->R D):av->R D:=fun ρ=>(eZ g ρ).bind fun b=>.ok (.bool (!b))
theorem C7 (h:JE c e g):JE c (.UnaryOp .Not e pos) (yj g):=.of fun ρ=>qg (Sv (h ρ)) fun σ H Q q=>by
 refine UU ?_
 obtain ⟨H0,Hs0,la,Hs,f,q⟩:=q
 refine Ka f q fun d H1 Hs1 e1 s1 f1=>?_
 unfold yj at q
 rw [e1,bind_ok] at q
 exact q _ H1 Hs1 s1 (.bool _)
def sI (g h:av->R D):av->R D:=fun ρ=>(eZ g ρ).bind fun b=>if b then h ρ else .ok (.bool false)
theorem vK {op:BoolOp} (h:JE c a g):JE c (.BoolOp op [a] pos) g:=.of fun ρ=>Ss (h ρ)
theorem tf (h:JE c a ga) (h2:JE c (.BoolOp .And (b::bW) pos) gb):JE c (.BoolOp .And (a::b::bW) pos) (sI ga gb):=.of fun ρ=>qg (Su (h ρ) (h2 ρ)) fun σ H Q q=>by
 refine UU ?_
 obtain ⟨H0,Hs0,la,Hs,f,q⟩:=q
 refine Ka f q fun d H1 Hs1 e1 s1 f1=>?_
 unfold sI at q
 rw [e1,bind_ok] at q
 cases d with
 | true=>exact BU ⟨H0,Hs0,la,Hs1,f1,q.on s1 fun b k v H2 Hs2 s2 r2=>k v H2 Hs2 (s1.trans s2) r2⟩
 | false=>exact xQ (q _ H1 Hs1 s1 (.bool _))
def W5 (t:av->R Bool) (g h:av->R D):av->R D:=fun ρ=>(t ρ).bind fun b=>if b then g ρ else h ρ
theorem UV {t:b9} (ht:JT c t gt) (ha:JE c a ga) (hb:JE c b gb):JE c (.IfExp t a b pos) (W5 gt ga gb):=.of fun ρ=>qg (LJ (ht ρ) (ha ρ) (hb ρ)) fun σ H Q q=>by
 obtain ⟨H0,Hs0,la,Hs,f,q⟩:=q
 refine Ka f q fun d H1 Hs1 e1 s1 f1=>?_
 unfold W5 at q
 rw [e1,bind_ok] at q
 cases d with
 | true=>exact BU ⟨H0,Hs0,la,Hs1,f1,q.on s1 fun b k v H2 Hs2 s2 r2=>k v H2 Hs2 (s1.trans s2) r2⟩
 | false=>exact xQ ⟨H0,Hs0,la,Hs1,f1,q.on s1 fun b k v H2 Hs2 s2 r2=>k v H2 Hs2 (s1.trans s2) r2⟩
def qx (ga gb gc:av->R D) (h h':D->D->R D):av->R D:=fun ρ=>(ga ρ).bind fun x=>(gb ρ).bind fun y=>(h x y).bind fun z=>match z with
 | .bool true=>(gc ρ).bind fun w=>h' y w
 | .bool false=>.ok (.bool false)
 | _=>.no
variable {es:List b9}{gs:av->R (List D)}
def ae (g:av->R D) (gs:av->R (List D)):av->R (List D):=fun ρ=>(g ρ).bind fun d=>(gs ρ).bind fun ds=>.ok (d::ds)
def aE:av->R (List D):=fun _=>.ok []
theorem aD:Dk c [] aE:=.of fun ρ=>W4 eY fun σ H Q h_3=>by obtain ⟨H0,Hs0,la,Hs,f,q⟩:=h_3;exact q [] H Hs (.refl f.st.sub) .nil
theorem bX:Rv c [] aE:=.of fun ρ=>W4 eY fun σ H Q h_4=>by obtain ⟨H0,Hs0,la,Hs,f,q⟩:=h_4;exact q [] H Hs (.refl f.st.sub) .nil
theorem aa (h:JE c e g) (hr:Dk c es gs) (hs:az (e::es) c.X.env=(false,dz e c.X.env)::az es c.X.env:=by rfl):Dk c (e::es) (ae g gs):=.of fun ρ=>W4 (cb (h ρ) (hr ρ) hs) fun σ H Q h_5=>by
 obtain ⟨H0,Hs0,la,Hs,f,q⟩:=h_5
 refine yg f q fun d v H1 Hs1 e1 s1 f1 r1=>?_
 unfold ae at q
 rw [e1,bind_ok] at q
 refine A8 f1 (q.on s1 (q':=fun _=>True) fun _ _=>trivial) fun ds vs H2 Hs2 e2 s2 f2 r2=>?_
 rw [e2,bind_ok] at q
 exact q _ H2 Hs2 (s1.trans s2) (.cons (r1.same s2.sh) r2)
theorem bx (h:JB c e g) (hr:Rv c es gs) (hs:az (e::es) c.X.env=(false,dz e c.X.env)::az es c.X.env:=by rfl):Rv c (e::es) (ae g gs):=.of fun ρ=>W4 (cb (h ρ) (hr ρ) hs) fun σ H Q h_6=>by
 obtain ⟨H0,Hs0,la,Hs,f,q⟩:=h_6
 refine one f q fun d v H1 Hs1 e1 s1 f1 r1=>?_
 unfold ae at q
 rw [e1,bind_ok] at q
 refine MB f1 (q.on s1 (q':=fun _=>True) fun _ _=>trivial) fun ds vs H2 Hs2 e2 s2 f2 r2=>?_
 rw [e2,bind_ok] at q
 exact q _ H2 Hs2 (s1.trans s2) (.cons (r1.step s2) r2)
def e8 (gs:av->R (List D)) (k:List D->D):av->R D:=fun ρ=>(gs ρ).bind fun ds=>if ds.length<=1000 then .ok (k ds) else .no
theorem jy {x1} (h:Dk c es gs):JE c (.Tuple es x1 pos) (e8 gs .tuple):=.of fun ρ=>qg (LX (h ρ)) fun σ H Q h_7=>by
 obtain ⟨H0,Hs0,la,Hs,f,q⟩:=h_7
 refine A8 f q fun ds vs H1 Hs1 e1 s1 f1 r1=>?_
 unfold e8 at q
 rw [e1,bind_ok] at q
 by_cases hl:ds.length<=1000
 ·rw [if_pos hl] at q
  refine ⟨bL (cz (by rw [r1.length];exact hl)),fun p hp=>q _ _ _ (s1.trans (.new f1.st.sub hp)) (.tuple aV (r1.same (cQ.new f1.st.sub hp).sh))⟩
 ·rw [if_neg hl] at q;exact q.elim
theorem jR (h:Dk c es gs):JE c (.List es pos) (e8 gs .list):=.of fun ρ=>qg (nq (h ρ)) fun σ H Q h_8=>by
 obtain ⟨H0,Hs0,la,Hs,f,q⟩:=h_8
 refine A8 f q fun ds vs H1 Hs1 e1 s1 f1 r1=>?_
 unfold e8 at q
 rw [e1,bind_ok] at q
 by_cases hl:ds.length<=1000
 ·rw [if_pos hl] at q
  refine ⟨bL (cz (by rw [r1.length];exact hl)),fun p hp=>q _ _ _ (s1.trans (.new f1.st.sub hp)) (.list (.of aV) (r1.same (cQ.new f1.st.sub hp).sh))⟩
 ·rw [if_neg hl] at q;exact q.elim
end
end J
end
section
namespace J
open PySem PySem.Spec PyProof.Rows L2
section
variable {X:Cx}
def dO:D->D->R D
 | .int i,.int j=>.ok (.int (i + j))
 | .str x,.str y=>if x.length + y.length<=1000 then .ok (.str (x++y)) else .no
 | .tuple xs,.tuple ys=>if xs.length + ys.length<=1000 then .ok (.tuple (xs++ys)) else .no
 | .list xs,.list ys=>if xs.length + ys.length<=1000 then .ok (.list (xs++ys)) else .no
 | _,_=>.no
inductive MC (K:a8) (x:V) (y:V) (H:Hp) (Q:VK):Prop
 | mk (l b xs zs:_) (h0:x=.ref l) (h1:y=.ref b) (h2:lF K H l xs) (h3:lF K H b zs) (h4:xs.length + zs.length<=sizeLine) (h5:∀ p,H p=none->Q (.ref p) (upd H p (.lst (xs++zs)))):MC K x y H Q
def UW (K:a8):R2:=MC K
theorem Q0:pZ X (fZ .Add) (UW X.K):=by
 intro pins s σ H x y v u Q I rx ry h
 obtain ⟨l,b,xs,zs,rfl,rfl,h1,h2,hz,q⟩:=h
 cases rx;cases ry
 obtain ⟨its,r,⟨o,n,e,c1,c2,c3⟩,z⟩:=I.list h1
 obtain ⟨its2,r2,⟨o2,n2,e2,d1,d2,d3⟩,z2⟩:=I.list h2
 obtain ⟨k1,k2,k3,k4⟩:=o
 obtain ⟨m1,m2,m3,m4⟩:=o2
 simp only at c1 c2 c3 d1 d2 d3
 subst c1 c2 c3 d1 d2 d3
 refine zP ⟨_,e,rfl⟩ ⟨_,e2,rfl⟩ noFill_list_add seq_list_add PySem.F.slot_list_add PySem.F.entry_list_add (PySem.F.args_list_add_2 _ _) (PyProof.Rows.list_addW l b _ _ n n2 _ _ k4 m4 (by rw [aJ,aJ,<- r.length,<- r2.length];exact hz)) ⟨e,e2,?_⟩
 have ea:its.toArray++its2.toArray=(its++its2).toArray:=by simp
 rw [ea]
 exact ⟨.ref _,_,I.lnew (t':=s.toks) (r.append r2) (by rw [aO];omega),rfl,q _ I.fresh⟩
inductive MD (K:a8) (x:V) (y:V) (H:Hp) (Q:VK):Prop
 | mk (a b ys:_) (h0:x=.ref a) (h1:y=.ref b) (h2:kn K H a []) (h3:kn K H b ys) (h4:Q (.ref b) H):MD K x y H Q
def UX (K:a8):R2:=MD K
theorem Q1:pZ X (fZ .Add) (UX X.K):=by
 intro pins s σ H x y v u Q I rx ry h
 obtain ⟨a,b,ys,rfl,rfl,h1,h2,q⟩:=h
 cases rx;cases ry
 obtain ⟨its,r,⟨⟨k1,k2,k3,k4⟩,e,c1,n,c3⟩,z⟩:=I.tuple h1
 obtain ⟨its2,r2,⟨⟨m1,m2,m3,m4⟩,e2,d1,n2,d3⟩,z2⟩:=I.tuple h2
 simp only at c1 c3 d1 d3
 subst c1 c3 d1 d3
 cases r
 exact zP ⟨_,e,rfl⟩ ⟨_,e2,rfl⟩ BD Jp ou nQ (nh _ _)
  (PyProof.Rows.tuple_addW0 a b _ _ n n2 _ _ k4 m4 rfl) ⟨e,e2,⟨.ref b,H,I,rfl,q⟩⟩
theorem cJ:wU X (fZ .Add) dO:=by
 refine ⟨fun pins s σ H x y v u Q I rv ru ⟨Hs,dx,dy,sub,rx,ry,d,hd,q⟩=>?_,fun x y c n=>?_⟩
 ·unfold dO at hd
  split at hd
  ·cases hd
   exact SE pins s σ H x y v u Q I rv ru ⟨_,_,rx.int,ry.int,q _ H Hs (.refl sub) (.int _)⟩
  ·split at hd
   ·rename_i hz
    cases hd
    exact Gh pins s σ H x y v u Q I rv ru ⟨_,_,rx.str,ry.str,bL (cz hz),q _ H Hs (.refl sub) (.str _)⟩
   ·cases hd
  ·split at hd
   ·rename_i xs ys hz
    cases hd
    obtain ⟨a,vs,rfl,qa,ra,_⟩:=rx.tuple sub
    obtain ⟨b,ws,rfl,qb,rb,_⟩:=ry.tuple sub
    have hz':vs.length + ws.length<=sizeLine:=by rw [ra.length,rb.length];exact bL (cz hz)
    have big:∀ p,H p=none->Q (.ref p) (upd H p (.tup (vs++ws))):=fun p hp=>q _ _ _ (.new sub hp) (.tuple aV ((ra.append rb).same (cQ.new sub hp).sh))
    cases vs with
    | nil =>
     cases ra
     refine Q1 pins s σ H _ _ v u Q I rv ru ⟨a,b,ws,rfl,rfl,qa,qb,?_⟩
     rcases ry with ry | ⟨_,_,_,_,_,ow⟩
     ·exact q _ H Hs (.refl sub) (by simpa using ry)
     ·cases ow
    | cons v0 vr =>
     refine Py pins s σ H _ _ v u Q I rv ru ⟨a,b,_,ws,rfl,rfl,qa,qb,by simp,hz',fun e=>?_,fun _=>big⟩
     subst e
     cases rb
     rcases rx with rx | ⟨_,_,_,_,_,ow⟩
     ·exact q _ H Hs (.refl sub) (by simpa using rx)
     ·cases ow
   ·cases hd
  ·split at hd
   ·rename_i xs ys hz
    cases hd
    obtain ⟨a,vs,rfl,qa,ra⟩:=rx.list sub
    obtain ⟨b,ws,rfl,qb,rb⟩:=ry.list sub
    have hz':vs.length + ws.length<=sizeLine:=by rw [ra.length,rb.length];exact bL (cz hz)
    exact Q0 pins s σ H _ _ v u Q I rv ru ⟨a,b,vs,ws,rfl,rfl,qa,qb,hz',fun p hp=>q _ _ _ (.new sub hp) (.list (.of aV) ((ra.append rb).same (cQ.new sub hp).sh))⟩
   ·cases hd
  ·cases hd
 ·unfold dO
  split<;>(try split)<;>exact fun h=>by cases h
def Gz (C:Int->Int->Bool) (k:Int->Int->D):D->D->R D
 | .int i,.int j=>if C i j then .ok (k i j) else .no
 | _,_=>.no
theorem GA {f:a9->a9->Sem a9}{C:Int->Int->Bool}{P:Int->Int->Prop}{k:Int->Int->D}{kv:Int->Int->V} (h:pZ X f (rI P kv)) (hC:∀ i j,C i j=true->P i j) (hk:∀ Hs i j,RD X.K Hs (kv i j) (k i j)):wU X f (Gz C k):=by
 refine ⟨fun pins s σ H x y v u Q I rv ru ⟨Hs,dx,dy,sub,rx,ry,d,hd,q⟩=>?_,fun x y c n=>?_⟩
 ·unfold Gz at hd
  split at hd
  ·split at hd
   ·rename_i hc
    cases hd
    exact h pins s σ H x y v u Q I rv ru ⟨_,_,rx.int,ry.int,hC _ _ hc,q _ H Hs (.refl sub) (hk _ _ _)⟩
   ·cases hd
  ·cases hd
 ·unfold Gz
  split<;>(try split)<;>exact fun h=>by cases h
def AW (i j:Int):Bool:=(decide (-(2 ^ 64)<i) && decide (i<2 ^ 64)) || (decide (-(2 ^ 64)<j) && decide (j<2 ^ 64))
def uH:=Gz AW fun i j=>.int (i * j)
def Kb:=Gz (fun _ j=>decide (0<j)) fun i j=>.int (i % j)
def ME:=Gz (fun _ j=>decide (0<j) && decide (j<1073741824)) fun i j=>.int (i / j)
theorem oF:wU X (fZ .Mult) uH:=GA SF (fun i j h=>by
 unfold AW at h
 simp only [jl,aW,decide_eq_true_eq] at h
 exact h) fun _ _ _=>.int _
theorem C8:wU X (fZ .Mod) Kb:=GA SG (fun i j h=>of_decide_eq_true h) fun _ _ _=>.int _
theorem Q2:wU X (fZ .FloorDiv) ME:=GA Pm (fun i j h=>by
 simp only [aW,decide_eq_true_eq] at h
 exact h) fun _ _ _=>.int _
def lI (neg:Bool) (x y:D):R D:=if x.canLay0 && y.canLay0 && decide (min x.depth y.depth<=60) then .ok (.bool (if neg then !aZ x y else aZ x y)) else .no
mutual
theorem C9:∀ d:D,d.canLay0=true->qf d=true
 | .none,_=>rfl
 | .bool _,_=>rfl
 | .int _,_=>rfl
 | .str _,_=>rfl
 | .list xs,h=>by
  simp only [eS] at h
  simp only [qf]
  exact lays_noD xs h
 | .tuple xs,h=>by
  simp only [eS] at h
  simp only [qf]
  exact lays_noD xs h
 | .dict _,h=>by simp [eS] at h
theorem lays_noD:∀ d:List D,c8 d=true->noDs d=true
 | [],_=>rfl
 | x::r,h=>by
  simp only [c8,aW] at h
  simp only [noDs,aW]
  exact ⟨C9 x h.1,lays_noD r h.2⟩
end
theorem MF {neg:Bool}{f:a9->a9->Sem a9} (h:pZ X f (T4 X.K neg)):wU X f (lI neg):=by
 refine ⟨fun pins s σ H x y v u Q I rv ru ⟨Hs,dx,dy,sub,rx,ry,d,hd,q⟩=>?_,fun x y c n=>?_⟩
 ·unfold lI at hd
  split at hd
  ·rename_i hc
   simp only [aW,decide_eq_true_eq] at hc
   cases hd
   exact h pins s σ H x y v u Q I rv ru ⟨dx,dy,(rx.full sub).rep (C9 _ hc.1.1),(ry.full sub).rep (C9 _ hc.1.2),hc.1.1,hc.1.2,hc.2,q _ H Hs (.refl sub) (.bool _)⟩
  ·cases hd
 ·unfold lI
  split<;>exact fun h=>by cases h
theorem sJ (hu:X.A.units + 64<k7):wU X (bG .Eq) (lI false):=MF (T5 hu)
theorem wv (hu:X.A.units + 64<k7):wU X (bG .NotEq) (lI true):=MF (T6 hu)
def Kc (k:Int->Int->Bool) (t:Str->Str->Bool):D->D->R D
 | .int i,.int j=>.ok (.bool (k i j))
 | .str x,.str y=>.ok (.bool (t x y))
 | _,_=>.no
theorem MG {f:a9->a9->Sem a9}{k:Int->Int->Bool}{t:Str->Str->Bool} (h1:pZ X f (SA fun i j=>.bl (k i j))) (h2:pZ X f (fun x y H Q=>∃ i j,x=.str i/\y=.str j/\Q (.bl (t i j)) H)):wU X f (Kc k t):=by
 refine ⟨fun pins s σ H x y v u Q I rv ru ⟨Hs,dx,dy,sub,rx,ry,d,hd,q⟩=>?_,fun x y c n=>?_⟩
 ·unfold Kc at hd
  split at hd
  ·cases hd
   exact h1 pins s σ H x y v u Q I rv ru ⟨_,_,rx.int,ry.int,q _ H Hs (.refl sub) (.bool _)⟩
  ·cases hd
   exact h2 pins s σ H x y v u Q I rv ru ⟨_,_,rx.str,ry.str,q _ H Hs (.refl sub) (.bool _)⟩
  ·cases hd
 ·unfold Kc
  split<;>exact fun h=>by cases h
def A9:=Kc (fun i j=>decide (i<j)) pR
def Rw:=Kc (fun i j=>decide (i<=j)) fun x y=>!pR y x
def Ud:D->D->R D
 | .int i,.int j=>.ok (.bool (decide (j<i)))
 | _,_=>.no
theorem yk:wU X (bG .Lt) A9:=MG Uu JM
theorem AX:wU X (bG .LtE) Rw:=MG Uv K2
theorem Rx:wU X (bG .Gt) Ud:=by
 refine ⟨fun pins s σ H x y v u Q I rv ru ⟨Hs,dx,dy,sub,rx,ry,d,hd,q⟩=>?_,fun x y c n=>?_⟩
 ·unfold Ud at hd
  split at hd
  ·cases hd
   exact Uw pins s σ H x y v u Q I rv ru ⟨_,_,rx.int,ry.int,q _ H Hs (.refl sub) (.bool _)⟩
  ·cases hd
 ·unfold Ud
  split<;>exact fun h=>by cases h
def GB:D->Bool
 | .none=>true
 | _=>false
def ym (neg:Bool):D->D->R D
 | x,.none=>.ok (.bool (if neg then !GB x else GB x))
 | _,_=>.no
theorem Il {K:a8}{H Hs:Hp}{v:V}{d:D} (h:RB K H Hs v d):decide (v=.non)=GB d:=by
 rcases h with h | ⟨a,o,rfl,_,_,h⟩
 ·cases h<;>rfl
 ·cases h<;>rfl
theorem MH:wU X (bG .Is) (ym false):=by
 refine ⟨fun pins s σ H x y v u Q I rv ru ⟨Hs,dx,dy,sub,rx,ry,d,hd,q⟩=>?_,fun x y c n=>?_⟩
 ·unfold ym at hd
  split at hd
  ·cases hd
   exact SK pins s σ H x y v u Q I rv ru ⟨ry.non,by rw [Il rx];exact q _ H Hs (.refl sub) (.bool _)⟩
  ·cases hd
 ·unfold ym
  split<;>exact fun h=>by cases h
theorem DV:wU X (bG .IsNot) (ym true):=by
 refine ⟨fun pins s σ H x y v u Q I rv ru ⟨Hs,dx,dy,sub,rx,ry,d,hd,q⟩=>?_,fun x y c n=>?_⟩
 ·unfold ym at hd
  split at hd
  ·cases hd
   exact Pq pins s σ H x y v u Q I rv ru ⟨ry.non,by rw [Il rx];exact q _ H Hs (.refl sub) (.bool _)⟩
  ·cases hd
 ·unfold ym
  split<;>exact fun h=>by cases h
def kP:D->Bool
 | .none=>true
 | .bool _=>true
 | .int _=>true
 | .str _=>true
 | _=>false
def Aa (neg:Bool):D->D->R D
 | x,.list ys=>if kP x && ys.all kP then .ok (.bool (if neg then !(ys.any fun y=>aZ y x) else ys.any fun y=>aZ y x)) else .no
 | x,.tuple ys=>if kP x && ys.all kP then .ok (.bool (if neg then !(ys.any fun y=>aZ y x) else ys.any fun y=>aZ y x)) else .no
 | _,_=>.no
theorem Im {K:a8}{H:Hp}{v:V}{d:D} (h:RD K H v d) (f:kP d=true):qr v=true:=by
 cases h<;>first | rfl | cases f
theorem DW {K:a8}{H Hs:Hp}{v:V}{d:D} (h:RB K H Hs v d) (f:kP d=true):qr v=true:=by
 rcases h with h | ⟨a,o,rfl,_,_,h⟩
 ·exact Im h f
 ·cases h<;>cases f
theorem DX {K:a8}{H:Hp}{vs:List V}:∀ {ds:List D},RDs K H vs ds->ds.all kP=true->vs.all qr=true:=by
 induction vs with
 | nil=>intro ds _ _;rfl
 | cons x r ih =>
  intro ds h f
  cases h with
  | cons h t =>
   rw [uh,aW] at f ⊢
   exact ⟨Im h f.1,ih t f.2⟩
theorem T9 {K:a8}{H H2 Hs:Hp}{v u:V}{d e:D} (h:RD K H v d) (h2:RB K H2 Hs u e) (f:kP d=true) (f2:kP e=true):PD v u=aZ d e:=by
 have h2':RD K Hs u e:=by
  rcases h2 with h2 | ⟨a,o,rfl,_,_,h2⟩
  ·exact h2
  ·cases h2<;>cases f2
 cases h with
 | list _ _=>cases f
 | tuple _ _=>cases f
 | dictK _ _=>cases f
 | dictT _ _ _=>cases f
 | dictF _ _ _=>cases f
 | none=>cases h2'<;>first | rfl | cases f2
 | bool b=>cases h2'<;>first | rfl | cases f2
 | int i=>cases h2'<;>first | rfl | cases f2
 | str x=>cases h2'<;>first | rfl | cases f2
theorem GC {K:a8}{H H2 Hs:Hp}{u:V}{e:D} (h2:RB K H2 Hs u e) (f2:kP e=true):∀ {vs:List V}{ds:List D},RDs K H vs ds->ds.all kP=true->VX u vs=ds.any fun y=>aZ y e
 | _,_,.nil,_=>rfl
 | _,_,.cons h t,f=>by
  rw [uh,aW] at f
  have:=GC h2 f2 t f.2
  unfold VX at this ⊢
  rw [e6,e6,this,T9 h h2 f.1 f2]
theorem MI {neg:Bool}{f:a9->a9->Sem a9} (h:pZ X f (WL X.K neg)):wU X f (Aa neg):=by
 refine ⟨fun pins s σ H x y v u Q I rv ru ⟨Hs,dx,dy,sub,rx,ry,d,hd,q⟩=>?_,fun x y c n=>?_⟩
 ·unfold Aa at hd
  split at hd
  ·split at hd
   ·rename_i hc
    simp only [aW] at hc
    cases hd
    obtain ⟨b,ws,rfl,qb,rb⟩:=ry.list sub
    refine h pins s σ H _ _ v u Q I rv ru ⟨b,ws,rfl,.inl qb,DW rx hc.1,DX rb hc.2,?_⟩
    rw [GC rx hc.1 rb hc.2]
    exact q _ H Hs (.refl sub) (.bool _)
   ·cases hd
  ·split at hd
   ·rename_i hc
    simp only [aW] at hc
    cases hd
    obtain ⟨b,ws,rfl,qb,rb,_⟩:=ry.tuple sub
    refine h pins s σ H _ _ v u Q I rv ru ⟨b,ws,rfl,.inr qb,DW rx hc.1,DX rb hc.2,?_⟩
    rw [GC rx hc.1 rb hc.2]
    exact q _ H Hs (.refl sub) (.bool _)
   ·cases hd
  ·cases hd
 ·unfold Aa
  split<;>(try split)<;>exact fun h=>by cases h
theorem yn:wU X (bG .In) (Aa false):=MI JQ
theorem yo:wU X (bG .NotIn) (Aa true):=MI BR
end
end J
end
section
namespace J
open PySem L2
section
variable {c:C}{e a b:b9}{g ga gb:av->R D}{pos:Pos}
def DY:D->D->R D
 | .list xs,.int i=>match Dy xs i with
  | some d=>.ok d
  | none=>.no
 | .tuple xs,.int i=>match Dy xs i with
  | some d=>.ok d
  | none=>.no
 | .str x,.int i=>if x.length<=1000 then (match Dy x.cps.toList i with
  | some k=>.ok (.str ⟨#[k]⟩)
  | none=>.no) else .no
 | _,_=>.no
theorem Io {K:a8}{H:Hp}{vs:List V}{ds:List D} (h:RDs K H vs ds) {i:Int}{d:D} (e:Dy ds i=some d):∃ v,Dy vs i=some v/\RD K H v d:=by
 unfold Dy at e ⊢
 rw [h.length]
 cases hx:Rf ds.length i with
 | none=>rw [hx] at e;cases e
 | some j =>
  rw [hx] at e
  exact h.get' e
theorem WX {X:Cx}:UB X (rD X.K DY):=by
 intro va sl pins s σ H x y v u Q I rv ru h
 obtain ⟨Hs,dx,dy,sub,rx,ry,d,hd,q⟩:=h
 unfold DY at hd
 split at hd
 ·split at hd
  ·rename_i d' he
   cases hd
   obtain ⟨p,vs,rfl,qa,ra⟩:=rx.list sub
   obtain ⟨w,hw,rw'⟩:=Io ra he
   exact oz va sl pins s σ H _ _ v u Q I rv ru ⟨p,vs,_,w,rfl,ry.int,qa,hw,q _ H Hs (.refl sub) rw'⟩
  ·cases hd
 ·split at hd
  ·rename_i d' he
   cases hd
   obtain ⟨p,vs,rfl,qa,ra,_⟩:=rx.tuple sub
   obtain ⟨w,hw,rw'⟩:=Io ra he
   exact SS va sl pins s σ H _ _ v u Q I rv ru ⟨p,vs,_,w,rfl,ry.int,qa,hw,q _ H Hs (.refl sub) rw'⟩
  ·cases hd
 ·split at hd
  ·rename_i hz
   split at hd
   ·rename_i k he
    cases hd
    exact SU va sl pins s σ H _ _ v u Q I rv ru ⟨_,_,k,rx.str,ry.int,bL (cz hz),he,q _ H Hs (.refl sub) (.str _)⟩
   ·cases hd
  ·cases hd
 ·cases hd
theorem Ta (x y:D) (c:Str) (n:Option D):DY x y≠.ex c n:=by
 unfold DY
 split<;>(try split)<;>(try split)<;>exact fun h=>by cases h
theorem UY (ha:JB c a ga) (hb:JB c b gb) (hs:ut b:=by exact fun _ _=>rfl):JE c (.Subscript a b pos) (g2 ga gb DY):=.of fun ρ=>qg (Rg WX (ha ρ) (hb ρ) hs) fun σ H Q q=>two Ta q
def Ab (ds:List D) (lo hi:Option Int):List D:=(ds.drop (HT.iJ ds.length 0 lo)).take (HT.iJ ds.length ds.length hi - HT.iJ ds.length 0 lo)
theorem Ip {K:a8}{H:Hp}{vs:List V}{ds:List D} (h:RDs K H vs ds) (lo hi:Option Int):RDs K H (Dx vs lo hi) (Ab ds lo hi):=by
 unfold Dx Ab
 rw [h.length]
 exact (h.drop _).take _
def Iq:D->Option Int->Option Int->R D
 | .list xs,lo,hi=>.ok (.list (Ab xs lo hi))
 | .tuple xs,lo,hi=>.ok (.tuple (Ab xs lo hi))
 | _,_,_=>.no
inductive Ry (K:a8) (x:V) (lo:Option Int) (hi:Option Int) (H:Hp) (Q:VK):Prop
 | mk (Hs dx:_) (h0:du Hs H) (h1:RB K H Hs x dx) (h2:∃ d,Iq dx lo hi=.ok d/\∀ v H' Hs',cQ H Hs H' Hs'->RD K Hs' v d->Q v H'):Ry K x lo hi H Q
def WY (K:a8):V->Option Int->Option Int->Hp->VK->Prop:=Ry K
theorem WZ {X:Cx}:Uz X (WY X.K):=by
 intro pins s σ H x v vl vu lo hi sl Q I rx hs pl pu h
 obtain ⟨Hs,dx,sub,rb,d,hd,q⟩:=h
 unfold Iq at hd
 split at hd
 ·cases hd
  obtain ⟨p,vs,rfl,qa,ra⟩:=rb.list sub
  exact PB pins s σ H _ v vl vu lo hi sl Q I rx hs pl pu ⟨p,vs,rfl,qa,fun l hl=>q _ _ _ (.new sub hl) (.list (.of aV) ((Ip ra lo hi).same (cQ.new sub hl).sh))⟩
 ·cases hd
  obtain ⟨p,vs,rfl,qa,ra,_⟩:=rb.tuple sub
  by_cases hw:HT.iJ vs.length 0 lo=0/\HT.iJ vs.length vs.length hi=vs.length
  ·refine PY pins s σ H _ v vl vu lo hi sl Q I rx hs pl pu ⟨p,vs,rfl,qa,hw,?_⟩
   rcases rb with rb | ⟨_,_,_,_,_,ow⟩
   ·refine q _ H Hs (.refl sub) ?_
    unfold Ab
    rw [<- ra.length,hw.1,hw.2,ra.length]
    simpa using rb
   ·cases ow
  ·exact SQ pins s σ H _ v vl vu lo hi sl Q I rx hs pl pu ⟨p,vs,rfl,qa,hw,fun l hl=>q _ _ _ (.new sub hl) (.tuple aV ((Ip ra lo hi).same (cQ.new sub hl).sh))⟩
 ·cases hd
inductive UZ (K:a8) (cls:Str->ah) (E:XK) (ρ:av) (r:R (Option Int)) (σ:St) (H:Hp) (Q:Option Int->Hp->Prop):Prop
 | mk (H0 Hs0:Hp) (la:Nat->Option ah) (Hs:Hp) (f:Fr K H0 Hs0 la ρ σ H Hs) (q:Fin K cls E H Hs r fun d=>∀ H' Hs',cQ H Hs H' Hs'->Q d H'):UZ K cls E ρ r σ H Q
def W_ (K:a8) (cls:Str->ah) (E:XK) (ρ:av) (r:R (Option Int)):TO:=UZ K cls E ρ r
structure JO (c:C) (e:Option b9) (g:av->R (Option Int)):Prop where of ::
 run:∀ ρ,PO c.X e (W_ c.X.K c.cls c.E ρ (g ρ))
instance {c:C}{e:Option b9}{g:av->R (Option Int)}:CoeFun (JO c e g) (fun _=>∀ ρ,PO c.X e (W_ c.X.K c.cls c.E ρ (g ρ))):=⟨JO.run⟩
theorem XB {X:Cx}{e:Option b9}{t t':TO} (h:PO X e t) (m:∀ σ H Q,t' σ H Q->t σ H Q):PO X e t':=fun pins s σ H Q I q=>h pins s σ H Q I (m σ H Q q)
def Ue:av->R (Option Int):=fun _=>.ok none
def Q3 (g:av->R D):av->R (Option Int):=fun ρ=>(g ρ).bind fun d=>match d with
 | .int i=>.ok (some i)
 | _=>.no
theorem xq:JO c none Ue:=.of fun ρ=>XB Pw fun σ H Q h_0=>by obtain ⟨H0,Hs0,la,Hs,f,q⟩:=h_0;exact q H Hs (.refl f.st.sub)
theorem rm (h:JE c e g):JO c (some e) (Q3 g):=.of fun ρ=>XB (Px (h ρ)) fun σ H Q h_1=>by
 obtain ⟨H0,Hs0,la,Hs,f,q⟩:=h_1
 refine yg f q fun d v H1 Hs1 e1 s1 f1 r1=>?_
 unfold Q3 at q
 rw [e1,bind_ok] at q
 cases r1 with
 | int i=>exact ⟨i,rfl,q H1 Hs1 s1⟩
 | _=>exact q.elim
theorem U_ {K:a8}{cls:Str->ah}{E:XK}{ρ:av}{r:R (Option Int)}{β:Type}{k:Option Int->R β}{σ:St}{H:Hp}{H0 Hs0 Hs:Hp}{la:Nat->Option ah}{Q:Option Int->Hp->Prop}{q:β->Prop} (f:Fr K H0 Hs0 la ρ σ H Hs)
  (h:Fin K cls E H Hs (r.bind k) q) (m:∀ d H' Hs',r=.ok d->cQ H Hs H' Hs'->Fr K H0 Hs0 la ρ σ H' Hs'->Q d H'):W_ K cls E ρ r σ H Q:=by
 refine ⟨H0,Hs0,la,Hs,f,?_⟩
 cases r with
 | ok d=>exact fun H' Hs' s=>m d H' Hs' rfl s (f.step s)
 | ex c n=>exact h
 | no=>exact h
def Rz (g:av->R D) (gl gh:av->R (Option Int)):av->R D:=fun ρ=>(g ρ).bind fun x=>(gl ρ).bind fun l=>(gh ρ).bind fun h=>Iq x l h
theorem qy {lo hi:Option b9}{gl gh:av->R (Option Int)}{p2:Pos} (he:JB c e g) (hl:JO c lo gl) (hh:JO c hi gh):JE c (.Subscript e (.Slice lo hi none p2) pos) (Rz g gl gh):=.of fun ρ=>qg (M0 WZ (he ρ) (hl ρ) (hh ρ)) fun σ H Q h_2=>by
 obtain ⟨H0,Hs0,la,Hs,f,q⟩:=h_2
 refine one f q fun d v H1 Hs1 e1 s1 f1 r1=>?_
 unfold Rz at q
 rw [e1,bind_ok] at q
 refine U_ f1 (q.on s1 (q':=fun _=>True) fun _ _=>trivial) fun l H2 Hs2 e2 s2 f2=>?_
 rw [e2,bind_ok] at q
 refine U_ f2 (q.on (s1.trans s2) (q':=fun _=>True) fun _ _=>trivial) fun h H3 Hs3 e3 s3 f3=>?_
 rw [e3,bind_ok] at q
 cases hr:Iq d l h with
 | ok z=>rw [hr] at q;exact ⟨Hs3,d,f3.st.sub,(r1.step s2).step s3,z,hr,fun w H4 Hs4 s4 r4=>q w H4 Hs4 (s1.trans (s2.trans (s3.trans s4))) r4⟩
 | ex c n=>unfold Iq at hr;split at hr<;>cases hr
 | no=>rw [hr] at q;exact q.elim
inductive XC (K:a8) (h:List D->R D) (xs:List V) (H:Hp) (Q:VK):Prop
 | mk (Hs ds:_) (h0:du Hs H) (h1:Ru K H Hs xs ds) (h2:∃ d,h ds=.ok d/\∀ v H' Hs',cQ H Hs H' Hs'->RD K Hs' v d->Q v H'):XC K h xs H Q
def rC (K:a8) (h:List D->R D):List V->Hp->VK->Prop:=XC K h
def Lg (X:Cx) (f:a9) (h:List D->R D):Prop:=j5 X f (rC X.K h)/\∀ x c n,h x≠.ex c n
def c7 (gs:av->R (List D)) (h:List D->R D):av->R D:=fun ρ=>(gs ρ).bind h
theorem RA {K:a8}{cls:Str->ah}{E:XK}{h:List D->R D}{gs:av->R (List D)}{ρ:av}{σ:St}{H:Hp}{Q:VK} (hx:∀ x c n,h x≠.ex c n) (q:TR K cls E ρ (c7 gs h ρ) σ H Q):Ua (rC K h) (W3 K cls E ρ (gs ρ)) σ H Q:=by
 obtain ⟨H0,Hs0,la,Hs,f,q⟩:=q
 refine MB f q fun ds vs H1 Hs1 e1 s1 f1 r1=>?_
 unfold c7 at q
 rw [e1,bind_ok] at q
 cases hr:h ds with
 | ok d =>
  rw [hr] at q
  exact ⟨Hs1,ds,f1.st.sub,r1,d,hr,fun w H3 Hs3 s3 r3=>q w H3 Hs3 (s1.trans s3) r3⟩
 | ex c n=>exact (hx ds c n hr).elim
 | no=>rw [hr] at q;exact q.elim
variable {es:List b9}{gs:av->R (List D)}{x:Str}{p:Pos}{id T:String}{h:List D->R D}
theorem c6 (hc:Lg c.X (.builtin id) h) (hg:Gl c.X x) (hm:c.X.mg x=none) (hv:i7 x=some (.builtin id)) (ha:Rv c (e::es) gs) (hn:x≠"__name__":=by decide) (hdb:(x == ("__debug__" : Str))=false:=by decide)
  (he:az (e::es) c.X.env=(false,dz e c.X.env)::az es c.X.env:=by rfl) (hpl:(fO pos (az es c.X.env)).any (·.1)=false:=by rfl):JE c (.Call (.Name x p) (e::es) [] pos) (c7 gs h):=.of fun ρ=>qg (nU hc.1 hg hm hv (ha ρ) hn hdb he hpl) fun σ H Q q=>RA hc.2 q
theorem eu (hc:Lg c.X (.type T) h) (hg:Gl c.X x) (hm:c.X.mg x=none) (hv:i7 x=some (.type T)) (ha:Rv c (e::es) gs) (hn:x≠"__name__":=by decide) (hdb:(x == ("__debug__" : Str))=false:=by decide)
  (he:az (e::es) c.X.env=(false,dz e c.X.env)::az es c.X.env:=by rfl) (hpl:(fO pos (az es c.X.env)).any (·.1)=false:=by rfl):JE c (.Call (.Name x p) (e::es) [] pos) (c7 gs h):=.of fun ρ=>qg (vD hc.1 hg hm hv (ha ρ) hn hdb he hpl) fun σ H Q q=>RA hc.2 q
end
end J
end
section
namespace J
open PySem L2
section
variable {X:Cx}
theorem Ru.one {K:a8}{H Hs:Hp}{xs:List V}{d:D} (h:Ru K H Hs xs [d]):∃ x,xs=[x]/\RB K H Hs x d:=by
 cases h with | cons a t=>cases t;exact ⟨_,rfl,a⟩
def i6 (h:D->R D):List D->R D
 | [d]=>h d
 | _=>.no
theorem tj {f:a9}{h:D->R D} (hx:∀ d c n,h d≠.ex c n)
  (hr:∀ pins s σ H x u Q Hs d d',bF X pins σ H s->dm x u->du Hs H->RB X.K H Hs x d->h d=.ok d'->(∀ v H' Hs',cQ H Hs H' Hs'->RD X.K Hs' v d'->Q v H')->aq (aF X.prog X.w) X.A (call f [u]) (EP X pins σ Q) X.xe s):Lg X f (i6 h):=by
 refine ⟨fun pins s σ H xs us Q I r ⟨Hs,ds,sub,rb,d,hd,q⟩=>?_,fun x c n=>?_⟩
 ·unfold i6 at hd
  split at hd
  ·obtain ⟨x,rfl,rx⟩:=rb.one
   obtain ⟨u,rfl,ru⟩:=ko r
   exact hr pins s σ H x u Q Hs _ _ I ru sub rx hd q
  ·cases hd
 ·unfold i6
  split
  ·exact hx _ _ _
  ·exact fun h=>by cases h
def jS:D->R D
 | .list xs=>.ok (.int xs.length)
 | .tuple xs=>.ok (.int xs.length)
 | .str x=>if x.length<=1000 then .ok (.int x.length) else .no
 | _=>.no
theorem RDk.length {K:a8}{H:Hp}{vs:List (cO×V)}:∀ {ds:List (D×D)},RDk K H vs ds->vs.length=ds.length:=by
 induction vs with
 | nil=>intro ds h;cases h;rfl
 | cons x r ih=>intro ds h;cases h with | cons a b=>exact congrArg (· + 1) (ih b)
theorem RDt.length {K:a8}{H:Hp}:∀ {vs:List (List cO×V)}{ds:List (D×D)},RDt K H vs ds->vs.length=ds.length
 | _,_,.nil=>rfl
 | _,_,.cons _ t=>by simp [RDt.length t]
theorem RB.dict {K:a8}{H Hs:Hp}{v:V}{ds:List (D×D)} (sub:du Hs H) (h:RB K H Hs v (.dict ds)):∃ a,v=.ref a/\((∃ kvs,H a=some (.dK kvs)/\RDk K Hs kvs ds)\/(∃ kvs,H a=some (.dT kvs)/\kvs≠[]/\RDt K Hs kvs ds)\/∃ o kvs es,ds=(.none,.none)::es/\H a=some (.frz o (.dT kvs))/\kvs≠[]/\RDt K Hs kvs es):=by
 rcases h with h | ⟨a,o,rfl,h2,h3,h4⟩
 ·cases h with
  | dictK q r=>exact ⟨_,rfl,.inl ⟨_,sub _ _ q,r⟩⟩
  | dictT q n r=>exact ⟨_,rfl,.inr (.inl ⟨_,sub _ _ q,n,r⟩)⟩
  | dictF q n r=>exact ⟨_,rfl,.inr (.inr ⟨_,_,_,rfl,sub _ _ q,n,r⟩)⟩
 ·cases h4 with
  | dK r=>exact ⟨a,rfl,.inl ⟨_,h2,r⟩⟩
  | dT n r=>exact ⟨a,rfl,.inr (.inl ⟨_,h2,n,r⟩)⟩
  | dF n r=>exact ⟨a,rfl,.inr (.inr ⟨_,_,_,rfl,h2,n,r⟩)⟩
theorem ii:Lg X (.builtin "len") (i6 jS):=by
 refine tj (fun d c n=>?_) fun pins s σ H x u Q Hs d d' I ru sub rx hd q=>?_
 ·unfold jS
  split<;>(try split)<;>exact fun h=>by cases h
 ·unfold jS at hd
  split at hd
  ·cases hd
   obtain ⟨a,vs,rfl,qa,ra⟩:=rx.list sub
   refine uv pins s σ H _ _ Q I (.cons ru .nil) ⟨a,vs,rfl,.inl qa,?_⟩
   rw [ra.length]
   exact q _ H Hs (.refl sub) (.int _)
  ·cases hd
   obtain ⟨a,vs,rfl,qa,ra,_⟩:=rx.tuple sub
   refine uv pins s σ H _ _ Q I (.cons ru .nil) ⟨a,vs,rfl,.inr qa,?_⟩
   rw [ra.length]
   exact q _ H Hs (.refl sub) (.int _)
  ·split at hd
   ·rename_i hz
    cases hd
    exact BS pins s σ H _ _ Q I (.cons ru .nil) ⟨_,by rw [rx.str],bL (cz hz),q _ H Hs (.refl sub) (.int _)⟩
   ·cases hd
  ·cases hd
def Ac (T:String) (d:D):Bool:=match T,d with
 | "str",.str _=>true
 | "int",.int _=>true
 | "int",.bool _=>true
 | "bool",.bool _=>true
 | "list",.list _=>true
 | "tuple",.tuple _=>true
 | _,_=>false
def wV (g:av->R D) (T:String):av->R D:=fun ρ=>(g ρ).bind fun d=>if qf d then .ok (.bool (Ac T d)) else .no
theorem Q4 {K:a8}{d:D} (T:String) (hT:T="str"\/T="int"\/T="bool"\/T="list"\/T="tuple") (h:qf d=true):dA K (.type (WV d)) (.type T)=some (Ac T d):=by
 rcases hT with rfl | rfl | rfl | rfl | rfl<;>cases d<;>first | rfl | simp [qf] at h
theorem oG {c:C}{e:b9}{g:av->R D}{p p2 pos:Pos}{T:Str}{Ts:String} (h:JB c e g) (hgi:Gl c.X "isinstance") (hi:c.X.mg "isinstance"=none) (hgT:Gl c.X T) (hT:c.X.mg T=none) (hv:i7 T=some (.type Ts))
  (hTs:Ts="str"\/Ts="int"\/Ts="bool"\/Ts="list"\/Ts="tuple")
  (hn:T≠"__name__":=by decide) (hdb:(T == ("__debug__" : Str))=false:=by decide)
  (he:az [e,.Name T p2] c.X.env=(false,dz e c.X.env)::az [.Name T p2] c.X.env:=by rfl) (hpl:(fO pos (az [.Name T p2] c.X.env)).any (·.1)=false:=by rfl) :
  JE c (.Call (.Name "isinstance" p) [e,.Name T p2] [] pos) (wV g Ts):=.of fun ρ=>by
 refine qg (nU My hgi hi jL (cb (h ρ) (cb (HR hgT hT hv (v:=.ty Ts) rfl hn hdb) eY) he) (by decide) (by decide) he hpl) fun σ H Q h_0=>?_
 obtain ⟨H0,Hs0,la,Hs,f,q⟩:=h_0
 refine one f q fun d v H1 Hs1 e1 s1 f1 r1=>?_
 unfold wV at q
 rw [e1,bind_ok] at q
 by_cases hd:qf d=true
 ·rw [if_pos hd] at q
  exact ⟨v,d,Ts,_,rfl,(r1.full f1.st.sub).rep hd,Q4 Ts hTs hd,q _ H1 Hs1 s1 (.bool _)⟩
 ·rw [if_neg hd] at q;exact q.elim
def mH:List D->Option (List Bool)
 | []=>some []
 | .bool b::r=>(mH r).map (b::·)
 | _::_=>none
theorem Ca {ds:List D}:∀ {bs:List Bool},mH ds=some bs->ds=bs.map cH:=by
 induction ds with
 | nil=>intro bs h;cases h;rfl
 | cons d r ih =>
  intro bs h
  cases d with
  | bool b =>
   have h:(mH r).map (b::·)=some bs:=h
   cases hr:mH r with
   | none=>rw [hr] at h;cases h
   | some z=>rw [hr] at h;cases h;rw [ih hr];rfl
  | _=>cases h
def fI (k:List Bool->Bool):D->R D
 | .list ds=>match mH ds with
  | some bs=>.ok (.bool (k bs))
  | none=>.no
 | _=>.no
theorem DZ {id:String}{k:List Bool->Bool} (h:j5 X (.builtin id) (fun xs H Q=>∃ p,∃ bs:List Bool,xs=[.ref p]/\lF X.K H p (bs.map V.bl)/\Q (.bl (k bs)) H)):Lg X (.builtin id) (i6 (fI k)):=by
 refine tj (fun d c n=>?_) fun pins s σ H x u Q Hs d d' I ru sub rx hd q=>?_
 ·unfold fI
  split<;>(try split)<;>exact fun h=>by cases h
 ·unfold fI at hd
  split at hd
  ·split at hd
   ·rename_i bs hb
    cases hd
    obtain ⟨a,vs,rfl,qa,ra⟩:=rx.list sub
    rw [Ca hb] at ra
    rw [A7 ra] at qa
    exact h pins s σ H _ _ Q I (.cons ru .nil) ⟨a,bs,rfl,qa,q _ H Hs (.refl sub) (.bool _)⟩
   ·cases hd
  ·cases hd
theorem ny (hc:X.calm=true):Lg X (.builtin "all") (i6 (fI fun bs=>bs.all id)):=DZ (xX hc)
theorem GD (hc:X.calm=true):Lg X (.builtin "any") (i6 (fI fun bs=>bs.any id)):=DZ (xY hc)
def nz (x:Str):List D:=x.cps.toList.map fun c=>aP ⟨#[c]⟩
theorem Kd {K:a8}{H:Hp} (x:Str):RDs K H (yd x) (nz x):=by
 unfold yd nz
 induction x.cps.toList with
 | nil=>exact .nil
 | cons a r ih=>exact .cons (.str _) ih
def g9:D->R D
 | .list xs=>.ok (.tuple xs)
 | .tuple xs=>.ok (.tuple xs)
 | .str x=>if x.cps.size<=1000 then .ok (.tuple (nz x)) else .no
 | _=>.no
theorem gT (hc:X.calm=true):Lg X (.type "tuple") (i6 g9):=by
 refine tj (fun d c n=>?_) fun pins s σ H x u Q Hs d d' I ru sub rx hd q=>?_
 ·unfold g9
  split<;>(try split)<;>exact fun h=>by cases h
 ·unfold g9 at hd
  split at hd
  ·cases hd
   obtain ⟨a,vs,rfl,qa,ra⟩:=rx.list sub
   exact sD pins s σ H _ _ Q I (.cons ru .nil) ⟨a,vs,rfl,.inl ⟨qa,fun l hl=>q _ _ _ (.new sub hl) (.tuple aV (ra.same (cQ.new sub hl).sh))⟩⟩
  ·cases hd
   obtain ⟨a,vs,rfl,qa,ra,_⟩:=rx.tuple sub
   refine sD pins s σ H _ _ Q I (.cons ru .nil) ⟨a,vs,rfl,.inr ⟨qa,?_⟩⟩
   rcases rx with rx | ⟨_,_,_,_,_,ow⟩
   ·exact q _ H Hs (.refl sub) rx
   ·cases ow
  ·split at hd
   ·rename_i hz
    cases hd
    exact wT hc pins s σ H _ _ Q I (.cons ru .nil) ⟨_,by rw [rx.str],bL (cz hz),fun l hl=>q _ _ _ (.new sub hl) (.tuple aV (Kd _))⟩
   ·cases hd
  ·cases hd
def AY:D->R D
 | .list xs=>.ok (.list xs)
 | .tuple xs=>.ok (.list xs)
 | _=>.no
theorem Q5:Lg X (.type "list") (i6 AY):=by
 refine tj (fun d c n=>?_) fun pins s σ H x u Q Hs d d' I ru sub rx hd q=>?_
 ·unfold AY
  split<;>exact fun h=>by cases h
 ·unfold AY at hd
  split at hd
  ·cases hd
   obtain ⟨a,vs,rfl,qa,ra⟩:=rx.list sub
   exact uw pins s σ H _ _ Q I (.cons ru .nil) ⟨a,vs,rfl,.inl qa,fun l hl=>q _ _ _ (.new sub hl) (.list (.of aV) (ra.same (cQ.new sub hl).sh))⟩
  ·cases hd
   obtain ⟨a,vs,rfl,qa,ra,_⟩:=rx.tuple sub
   exact uw pins s σ H _ _ Q I (.cons ru .nil) ⟨a,vs,rfl,.inr qa,fun l hl=>q _ _ _ (.new sub hl) (.list (.of aV) (ra.same (cQ.new sub hl).sh))⟩
  ·cases hd
def gd:List D->Option (List Str)
 | []=>some []
 | .str b::r=>(gd r).map (b::·)
 | _::_=>none
theorem qz {ds:List D}:∀ {bs:List Str},gd ds=some bs->ds=bs.map aP:=by
 induction ds with
 | nil=>intro bs h;cases h;rfl
 | cons d r ih =>
  intro bs h
  cases d with
  | str b =>
   have h:(gd r).map (b::·)=some bs:=h
   cases hr:gd r with
   | none=>rw [hr] at h;cases h
   | some z=>rw [hr] at h;cases h;rw [ih hr];rfl
  | _=>cases h
@[simp] theorem strsOf_map:∀ bs:List Str,gd (bs.map aP)=some bs
 | []=>rfl
 | b::r=>by show (gd (r.map aP)).map (b::·)=_;rw [strsOf_map r];rfl
def rn:D->R D
 | .list ds=>match gd ds with
  | some ss=>if ss.length<64 then .ok (.list ((jx ss).map .str)) else .no
  | none=>.no
 | _=>.no
theorem Ke:Lg X (.builtin "sorted") (i6 rn):=by
 refine tj (fun d c n=>?_) fun pins s σ H x u Q Hs d d' I ru sub rx hd q=>?_
 ·unfold rn
  split<;>(try split)<;>(try split)<;>exact fun h=>by cases h
 ·unfold rn at hd
  split at hd
  ·split at hd
   ·split at hd
    ·rename_i ss hs hz
     cases hd
     obtain ⟨a,vs,rfl,qa,ra⟩:=rx.list sub
     rw [qz hs] at ra
     rw [oC ra] at qa
     exact vJ pins s σ H _ _ Q I (.cons ru .nil) ⟨a,ss,rfl,qa,hz,fun l hl=>q _ _ _ (.new sub hl) (.list (.of aV) (ye _))⟩
    ·cases hd
   ·cases hd
  ·cases hd
end
end J
end
section
namespace J
open PySem L2
inductive V0 (K:a8) (cls:Str->ah) (n:Nat) (F:List D->R D) (vs:List V) (H:Hp) (Q:VK) (E:XK):Prop
 | mk (Hs ds:_) (h0:du Hs H) (h1:ds.length=n) (h2:RDs K Hs vs ds) (h3:Fin K cls E H Hs (F ds) fun d=>∀ v H' Hs',cQ H Hs H' Hs'->RD K Hs' v d->Q v H'):V0 K cls n F vs H Q E
def RC (K:a8) (cls:Str->ah) (n:Nat) (F:List D->R D):Sp:=V0 K cls n F
structure Fn (P:aI) (w:bc) (K:a8) (mg:Str->Option a9) (base:br) (cls:Str->ah) (x:Str) (k n:Nat) (F:List D->R D):Prop where
 ex:∃ f fd ps,sg P w K mg base (mh P w) k f fd ps (RC K cls n F)/\mg x=some (.ref f)/\dW K (.ref f)=true/\jv K fd ps []
section
variable {c:C}{e a b:b9}{g ga gb:av->R D}{pos:Pos}{es:List b9}{gs:av->R (List D)}{x:Str}{p:Pos}
def dR (n:Nat) (F:List D->R D) (gs:av->R (List D)):av->R D:=fun ρ=>(gs ρ).bind fun ds=>if ds.length=n then F ds else .no
theorem Q6 {k n:Nat}{F:List D->R D} (G:Fn c.X.prog c.X.w c.X.K c.X.mg c.X.base c.cls x k n F) (hr:jn k c.X.A) (hg:Gl c.X x) (hx:jw (mh c.X.prog c.X.w) c.X c.E) (ha:Dk c (e::es) gs)
  (hdb:(x == ("__debug__" : Str))=false:=by decide) (he:az (e::es) c.X.env=(false,dz e c.X.env)::az es c.X.env:=by rfl) (hpl:(fO pos (az es c.X.env)).any (·.1)=false:=by rfl) :
  JE c (.Call (.Name x p) (e::es) [] pos) (dR n F gs):=.of fun ρ=>by
 obtain ⟨f,fd,ps,hf,hm,hk,hb⟩:=G.ex
 refine qg (HY (E:=c.E) hf hr hg hm hk hb .nil hx (ha ρ) hdb he hpl) fun σ H Q h_0=>?_
 obtain ⟨H0,Hs0,la,Hs,fr,q⟩:=h_0
 refine A8 fr q fun ds vs H1 Hs1 e1 s1 f1 r1=>?_
 unfold dR at q
 rw [e1,bind_ok] at q
 by_cases hn:ds.length=n
 ·rw [if_pos hn] at q
  show RC _ _ _ _ (vs++[]) _ _ _
  rw [bT]
  exact ⟨Hs1,ds,f1.st.sub,hn,r1,q.on s1 fun d k v H2 Hs2 s2 r2=>k v H2 Hs2 (s1.trans s2) r2⟩
 ·rw [if_neg hn] at q;exact q.elim
end
inductive Fl where
 | nx (ρ:av)
 | rt (d:D)
 | bk (ρ:av)
 | ct (ρ:av)
def nX (K:a8) (cls:Str->ah) (E:XK) (H0 Hs0:Hp) (la:Nat->Option ah) (D:sX) (r:R Fl):Prop:=match r with
 | .ok (.nx ρ')=>∀ σ' H' Hs',Fr K H0 Hs0 la ρ' σ' H' Hs'->D.nx σ' H'
 | .ok (.bk ρ')=>∀ σ' H' Hs',Fr K H0 Hs0 la ρ' σ' H' Hs'->D.bk σ' H'
 | .ok (.ct ρ')=>∀ σ' H' Hs',Fr K H0 Hs0 la ρ' σ' H' Hs'->D.ct σ' H'
 | .ok (.rt d)=>∀ v H' Hs',cQ H0 Hs0 H' Hs'->RD K Hs' v d->D.rt v H'
 | .ex c n=>∀ H' Hs',cQ H0 Hs0 H' Hs'->XW K cls E c n H' Hs'
 | .no=>False
inductive XD (K:a8) (cls:Str->ah) (E:XK) (ρ:av) (r:R Fl) (D:sX) (σ:St) (H:Hp):Prop
 | mk (H0 Hs0:Hp) (la:Nat->Option ah) (Hs:Hp) (f:Fr K H0 Hs0 la ρ σ H Hs) (q:nX K cls E H0 Hs0 la D r):XD K cls E ρ r D σ H
def SR (K:a8) (cls:Str->ah) (E:XK) (ρ:av) (r:R Fl):TS:=XD K cls E ρ r
structure JS (c:C) (s:cr) (g:av->R Fl):Prop where of ::
 run:∀ ρ,PS c.X s (SR c.X.K c.cls c.E ρ (g ρ))
instance {c:C}{s:cr}{g:av->R Fl}:CoeFun (JS c s g) (fun _=>∀ ρ,PS c.X s (SR c.X.K c.cls c.E ρ (g ρ))):=⟨JS.run⟩
structure Ir (c:C) (s:List cr) (g:av->R Fl):Prop where of ::
 run:∀ ρ,z_ c.X s (SR c.X.K c.cls c.E ρ (g ρ))
instance {c:C}{s:List cr}{g:av->R Fl}:CoeFun (Ir c s g) (fun _=>∀ ρ,z_ c.X s (SR c.X.K c.cls c.E ρ (g ρ))):=⟨Ir.run⟩
theorem Fr.set {K:a8}{H0 Hs0 H Hs:Hp}{la:Nat->Option ah}{ρ:av}{σ:St} (f:Fr K H0 Hs0 la ρ σ H Hs) (i:Nat) {v:V}{d:D} (r:RD K Hs v d):Fr K H0 Hs0 la (ρ.set i (.shr d)) (σ.set i (some v)) H Hs:=by
 have hl:=f.len
 have nx:∀ {j:Nat}{s:Sl},(∀ d,s≠.shr d)->(ρ.set i (.shr d))[j]?=some s->ρ[j]?=some s/\i≠j:=fun {j s} hs e=>by
  by_cases hj:i=j
  ·subst hj
   by_cases hi:i<ρ.length
   ·rw [aH hi] at e;exact absurd (bJ e).symm (hs d)
   ·rw [cD (by simpa using hi)] at e;cases e
  ·rw [ak hj] at e;exact ⟨e,hj⟩
 refine ⟨f.st,by simp [hl],fun j e h=>?_,fun j e h=>?_,fun j e h=>?_,fun j k d1 d2 a h1 h2 h3 h4=>?_,f.lh,fun j e h=>?_,fun j k d1 d2 h1 h2=>?_⟩
 ·by_cases hj:i=j
  ·subst hj
   by_cases hi:i<ρ.length
   ·rw [aH hi] at h
    cases h
    exact ⟨v,aH (by omega),r⟩
   ·rw [cD (by simpa using hi)] at h;cases h
  ·rw [ak hj] at h ⊢
   exact f.sh j e h
 ·obtain ⟨h,hj⟩:=nx (fun _ z=>by cases z) h
  rw [ak hj]
  exact f.ow j e h
 ·obtain ⟨h,hj⟩:=nx (fun _ z=>by cases z) h
  rw [ak hj]
  exact f.lk j e h
 ·obtain ⟨h1,n1⟩:=nx (fun _ z=>by cases z) h1
  obtain ⟨h2,n2⟩:=nx (fun _ z=>by cases z) h2
  rw [ak n1] at h3
  rw [ak n2] at h4
  exact f.dj j k d1 d2 a h1 h2 h3 h4
 ·obtain ⟨h,hj⟩:=nx (fun _ z=>by cases z) h
  obtain ⟨a,as,O⟩:=f.o2 j e h
  refine ⟨a,as,by rw [ak hj];exact O.at_,O.ob,O.nd,O.out,fun b hb k e' hk=>?_,O.inn⟩
  obtain ⟨hk,nk⟩:=nx (fun _ z=>by cases z) hk
  rw [ak nk]
  exact O.dj b hb k e' hk
 ·exact f.u2 j k d1 d2 (nx (fun _ z=>by cases z) h1).1 (nx (fun _ z=>by cases z) h2).1
theorem Fr.setO {K:a8}{H0 Hs0 H Hs:Hp}{la:Nat->Option ah}{ρ:av}{σ:St} (f:Fr K H0 Hs0 la ρ σ H Hs) (i:Nat) {a:ah}{o:HO}{d:D} (n:H a=none) (r:mn K Hs o d):Fr K H0 Hs0 la (ρ.set i (.own d)) (σ.set i (some (.ref a))) (upd H a o) Hs:=by
 have f':=f.step (cQ.mine (o:=o) f.st.sub n)
 have hl:=f.len
 have n0:H0 a=none:=f.st.all.free n
 have ns:Hs a=none:=f.st.sub.free n
 have nx:∀ {j:Nat}{s:Sl},(∀ d,s≠.own d)->(ρ.set i (.own d))[j]?=some s->ρ[j]?=some s/\i≠j:=fun {j s} hs e=>by
  by_cases hj:i=j
  ·subst hj
   by_cases hi:i<ρ.length
   ·rw [aH hi] at e;exact absurd (bJ e).symm (hs d)
   ·rw [cD (by simpa using hi)] at e;cases e
  ·rw [ak hj] at e;exact ⟨e,hj⟩
 have ne:∀ j e,ρ[j]?=some (Sl.own e)->σ[j]?≠some (some (V.ref a)):=fun j e h z=>by
  obtain ⟨b,o',h1,h2,_⟩:=f.ow j e h
  rw [z] at h1
  cases h1
  rw [n] at h2;cases h2
 refine ⟨f'.st,by simp [hl],fun j e h=>?_,fun j e h=>?_,fun j e h=>?_,fun j k d1 d2 b h1 h2 h3 h4=>?_,f.lh,fun j e h=>?_,fun j k d1 d2 h1 h2=>?_⟩
 ·obtain ⟨h,hj⟩:=nx (fun _ z=>by cases z) h
  rw [ak hj]
  exact f'.sh j e h
 ·by_cases hj:i=j
  ·subst hj
   by_cases hi:i<ρ.length
   ·rw [aH hi] at h
    cases h
    exact ⟨a,o,aH (by omega),aV,ns,n0,r⟩
   ·rw [cD (by simpa using hi)] at h;cases h
  ·rw [ak hj] at h ⊢
   exact f'.ow j e h
 ·obtain ⟨h,hj⟩:=nx (fun _ z=>by cases z) h
  rw [ak hj]
  exact f'.lk j e h
 ·by_cases hj:i=j
  ·by_cases hk:i=k
   ·exact hj.symm.trans hk
   ·rw [ak hk] at h2 h4
    subst hj
    by_cases hi:i<ρ.length
    ·rw [aH (by omega)] at h3
     cases h3
     exact (ne k d2 h2 h4).elim
    ·rw [cD (by simpa using hi)] at h1;cases h1
  ·rw [ak hj] at h1 h3
   by_cases hk:i=k
   ·subst hk
    by_cases hi:i<ρ.length
    ·rw [aH (by omega)] at h4
     cases h4
     exact (ne j d1 h1 h3).elim
    ·rw [cD (by simpa using hi)] at h2;cases h2
   ·rw [ak hk] at h2 h4
    exact f.dj j k d1 d2 b h1 h2 h3 h4
 ·obtain ⟨h,hj⟩:=nx (fun _ z=>by cases z) h
  obtain ⟨b,as,O⟩:=f.o2 j e h
  have nb:∀ c∈b::as,c≠a:=fun c hc z=>by
   subst z
   rcases List.mem_cons.mp hc with z | z
   ·have:=O.ob;rw [<- z,n] at this;cases this
   ·obtain ⟨o,ho,_⟩:=O.inn.there z;rw [n] at ho;cases ho
  refine ⟨b,as,by rw [ak hj];exact O.at_,by rw [aT (nb b ap)];exact O.ob,O.nd,O.out,fun c hc k e' hk=>?_,O.inn.upd fun z=>nb a (am _ z) rfl⟩
  by_cases nk:i=k
  ·subst nk
   intro z
   by_cases hi:i<ρ.length
   ·rw [aH (by omega)] at z
    cases z
    exact nb _ hc rfl
   ·rw [cD (by simp;omega)] at hk;cases hk
  ·rw [ak nk] at hk ⊢
   exact O.dj c hc k e' hk
 ·exact f.u2 j k d1 d2 (nx (fun _ z=>by cases z) h1).1 (nx (fun _ z=>by cases z) h2).1
theorem Fr.write {K:a8}{H0 Hs0 H Hs:Hp}{la:Nat->Option ah}{ρ:av}{σ:St} (f:Fr K H0 Hs0 la ρ σ H Hs) (i:Nat) {a:ah}{o:HO}{d d':D} (hi:ρ[i]?=some (Sl.own d)) (hs:σ[i]?=some (some (V.ref a))) (r:mn K Hs o d'):Fr K H0 Hs0 la (ρ.set i (.own d')) σ (upd H a o) Hs:=by
 obtain ⟨a',o',h1,h2,h3,h4,h5⟩:=f.ow i d hi
 rw [hs] at h1
 cases h1
 have hl:=f.len
 have hil:i<ρ.length:=(List.getElem?_eq_some_iff.mp hi).1
 have nx:∀ {j:Nat}{s:Sl},(∀ d,s≠.own d)->(ρ.set i (.own d'))[j]?=some s->ρ[j]?=some s/\i≠j:=fun {j s} hs e=>by
  by_cases hj:i=j
  ·subst hj
   rw [aH hil] at e;exact absurd (bJ e).symm (hs d')
  ·rw [ak hj] at e;exact ⟨e,hj⟩
 refine ⟨⟨fun b u e=>?_,f.st.sh,fun b u e=>?_,f.st.out⟩,by simp [hl],fun j e h=>?_,fun j e h=>?_,fun j e h=>?_,fun j k d1 d2 b h1 h2 h3 h4=>?_,f.lh,fun j e h=>?_,fun j k d1 d2 h1 h2=>?_⟩
 ·rw [aT (bi e h4)];exact f.st.all b u e
 ·rw [aT (bi e h3)];exact f.st.sub b u e
 ·obtain ⟨h,hj⟩:=nx (fun _ z=>by cases z) h
  exact f.sh j e h
 ·by_cases hj:i=j
  ·subst hj
   rw [aH hil] at h
   cases h
   exact ⟨a,o,hs,aV,h3,h4,r⟩
  ·rw [ak hj] at h
   obtain ⟨b,u,k1,k2,k3,k4,k5⟩:=f.ow j e h
   refine ⟨b,u,k1,?_,k3,k4,k5⟩
   rw [aT (fun z=>hj ?_)]
   ·exact k2
   ·subst z
    exact f.dj i j d e b hi h hs k1
 ·obtain ⟨h,hj⟩:=nx (fun _ z=>by cases z) h
  obtain ⟨b,u,k1,k2,k3,k4,k5,k6⟩:=f.lk j e h
  refine ⟨b,u,k1,k2,?_,k4,k5,k6⟩
  rw [aT (bi k5 h4)]
  exact k3
 ·have own:∀ {j:Nat}{e:D},(ρ.set i (.own d'))[j]?=some (Sl.own e)->∃ e',ρ[j]?=some (Sl.own e'):=fun {j e} h=>by
   by_cases hj:i=j
   ·subst hj;exact ⟨d,hi⟩
   ·rw [ak hj] at h;exact ⟨e,h⟩
  obtain ⟨e1,h1⟩:=own h1
  obtain ⟨e2,h2⟩:=own h2
  exact f.dj j k e1 e2 b h1 h2 h3 h4
 ·obtain ⟨h,hj⟩:=nx (fun _ z=>by cases z) h
  obtain ⟨b,as,O⟩:=f.o2 j e h
  have nb:∀ c∈b::as,c≠a:=fun c hc z=>by
   subst z
   exact O.dj c hc i d hi hs
  refine ⟨b,as,O.at_,by rw [aT (nb b ap)];exact O.ob,O.nd,O.out,fun c hc k e' hk=>?_,O.inn.upd fun z=>nb a (am _ z) rfl⟩
  by_cases nk:i=k
  ·subst nk
   exact O.dj c hc i d hi
  ·rw [ak nk] at hk
   exact O.dj c hc k e' hk
 ·exact f.u2 j k d1 d2 (nx (fun _ z=>by cases z) h1).1 (nx (fun _ z=>by cases z) h2).1
def dB (ρ:av):av:=ρ.map fun s=>match s with
 | .own d=>.shr d
 | .ow2 dss=>.shr (.list (dss.map .list))
 | s=>s
open Classical in
theorem Fr.share {K:a8}{H0 Hs0 H Hs:Hp}{la:Nat->Option ah}{ρ:av}{σ:St} (f:Fr K H0 Hs0 la ρ σ H Hs):∃ Hs',Fr K H0 Hs0 la (dB ρ) σ H Hs'/\cQ H Hs H Hs'\/Fr K H0 Hs0 la (dB ρ) σ H Hs':=by
 let P:ah->Prop:=fun b=>(∃ (i:Nat) (d:D),ρ[i]?=some (Sl.own d)/\σ[i]?=some (some (V.ref b)))\/∃ (i:Nat) (dss:List (List D)) (a:ah) (as:List ah),ρ[i]?=some (Sl.ow2 dss)/\O2 K H0 H Hs ρ σ i dss a as/\b∈a::as
 let Hs':Hp:=fun b=>if P b then H b else Hs b
 have pos:∀ b,P b->Hs' b=H b:=fun b h=>if_pos h
 have neg:∀ b,¬ P b->Hs' b=Hs b:=fun b h=>if_neg h
 have up:du Hs Hs':=fun b o e=>by
  by_cases h:P b
  ·rw [pos b h];exact f.st.sub b o e
  ·rw [neg b h];exact e
 have none0:∀ b o,H0 b=some o->¬ P b:=fun b o e hP=>by
  rcases hP with ⟨i,d,h1,h2⟩ | ⟨i,dss,a,as,h1,O,hb⟩
  ·obtain ⟨a,o',k1,_,_,k4,_⟩:=f.ow i d h1
   rw [h2] at k1;cases k1
   rw [e] at k4;cases k4
  ·have:=(O.out b hb).2
   rw [e] at this;cases this
 have un:∀ {j:Nat}{s:Sl},(dB ρ)[j]?=some s->(∃ d,s=.shr d/\ρ[j]?=some (Sl.own d))\/(∃ dss:List (List D),s=.shr (.list (dss.map .list))/\ρ[j]?=some (Sl.ow2 dss))\/((∀ d,s≠.own d)/\(∀ d,s≠.ow2 d)/\ρ[j]?=some s):=fun {j s} e=>by
  unfold dB at e
  rw [aN] at e
  cases h:ρ[j]? with
  | none=>rw [h] at e;cases e
  | some t =>
   rw [h] at e
   cases t with
   | own d=>cases e;exact .inl ⟨d,rfl,rfl⟩
   | no=>cases e;exact .inr (.inr ⟨fun _ z=>(by cases z),fun _ z=>(by cases z),rfl⟩)
   | shr d=>cases e;exact .inr (.inr ⟨fun _ z=>(by cases z),fun _ z=>(by cases z),rfl⟩)
   | lck d=>cases e;exact .inr (.inr ⟨fun _ z=>(by cases z),fun _ z=>(by cases z),rfl⟩)
   | ow2 d=>cases e;exact .inr (.inl ⟨d,rfl,rfl⟩)
 refine ⟨Hs',.inr ⟨⟨f.st.all,f.st.sh.trans up,fun b o e=>?_,fun a o e t z=>?_⟩,by simp [dB,f.len],fun j d h=>?_,fun j d h=>?_,fun j d h=>?_,fun j k d1 d2 a h1 h2 _ _=>?_,f.lh,fun j d h=>?_,fun j k d1 d2 h1 h2=>?_⟩⟩
 ·by_cases h:P b
  ·rw [pos b h] at e;exact e
  ·rw [neg b h] at e;exact f.st.sub b o e
 ·rw [neg a (none0 a o e)];exact f.st.out a o e t z
 ·rcases un h with ⟨d',e,h'⟩ | ⟨dss,e,h'⟩ | ⟨_,_,h'⟩
  ·cases e
   obtain ⟨a,o,k1,k2,k3,k4,k5⟩:=f.ow j d h'
   refine ⟨_,k1,?_⟩
   have hp:Hs' a=some o:=by rw [pos a (.inl ⟨j,d,h',k1⟩)];exact k2
   have e:du (upd Hs a o) Hs':=fun b u q=>by
    by_cases hb:b=a
    ·subst hb;rw [aV] at q;cases q;exact hp
    ·rw [aT hb] at q;exact up b u q
   exact (k5.share k3).same e
  ·cases e
   obtain ⟨a,as,O⟩:=f.o2 j dss h'
   refine ⟨_,O.at_,?_⟩
   have hp:∀ b∈a::as,∀ o,H b=some o->Hs' b=some o:=fun b hb o ho=>by rw [pos b (.inr ⟨j,dss,a,as,h',O,hb⟩)];exact ho
   refine .list (.of (hp a ap _ O.ob)) ?_
   have go:∀ {as':List ah}{dss':List (List D)},(∀ b∈as',b∈a::as)->AV K H Hs as' dss'->RDs K Hs' (as'.map V.ref) (dss'.map .list):=fun {as' dss'} hs hi=>by
    induction hi with
    | nil=>exact .nil
    | cons h1 h2 _ ih=>exact .cons (.list (.of (hp _ (hs _ ap) _ h1)) (h2.same up)) (ih fun b hb=>hs b (am _ hb))
   exact go (fun b hb=>am _ hb) O.inn
  ·obtain ⟨v,k1,k2⟩:=f.sh j d h'
   exact ⟨v,k1,k2.same up⟩
 ·rcases un h with ⟨d',e,h'⟩ | ⟨d',e,h'⟩ | ⟨n,_,h'⟩
  ·cases e
  ·cases e
  ·exact (n d rfl).elim
 ·rcases un h with ⟨d',e,h'⟩ | ⟨d',e,h'⟩ | ⟨_,_,h'⟩
  ·cases e
  ·cases e
  ·obtain ⟨a,o,k1,k2,k3,k4,k5,k6⟩:=f.lk j d h'
   exact ⟨a,o,k1,k2,k3,by rw [neg a (none0 a o k5)];exact k4,k5,k6.same up⟩
 ·rcases un h1 with ⟨d',e,h'⟩ | ⟨d',e,h'⟩ | ⟨n,_,h'⟩
  ·cases e
  ·cases e
  ·exact (n d1 rfl).elim
 ·rcases un h with ⟨d',e,h'⟩ | ⟨d',e,h'⟩ | ⟨_,n,h'⟩
  ·cases e
  ·cases e
  ·exact (n d rfl).elim
 ·rcases un h1 with ⟨d',e,h'⟩ | ⟨d',e,h'⟩ | ⟨_,n,h'⟩
  ·cases e
  ·cases e
  ·exact (n d1 rfl).elim
theorem Fr.shared {K:a8}{H0 Hs0 H Hs:Hp}{la:Nat->Option ah}{ρ:av}{σ:St} (f:Fr K H0 Hs0 la ρ σ H Hs):∃ Hs',Fr K H0 Hs0 la (dB ρ) σ H Hs':=by
 obtain ⟨Hs',h | h⟩:=f.share
 ·exact ⟨Hs',h.1⟩
 ·exact ⟨Hs',h⟩
section
variable {c:C}{e a b:b9}{g ga gb:av->R D}{pos:Pos}{x:Str}{st:cr}{bW:List cr}{gs gr:av->R Fl}
def aR (g h:av->R Fl):av->R Fl:=fun ρ=>(g ρ).bind fun fl=>match fl with
 | .nx ρ'=>h ρ'
 | fl=>.ok fl
theorem cK:Ir c [] (fun ρ=>.ok (.nx ρ)):=.of fun ρ=>WW HS fun D σ H h_1=>by obtain ⟨H0,Hs0,la,Hs,f,q⟩:=h_1;exact q σ H Hs f
theorem aL (h:JS c st gs):Ir c [st] gs:=.of fun ρ=>ul (h ρ)
theorem ax (h:JS c st gs) (hr:Ir c bW gr):Ir c (st::bW) (aR gs gr):=.of fun ρ pins s σ H D I h_2=>by
 obtain ⟨H0,Hs0,la,Hs,f,q⟩:=h_2
 unfold aR at q
 cases hg:gs ρ with
 | no=>rw [hg] at q;exact q.elim
 | ex x n =>
  rw [hg] at q
  refine ju (h ρ) (nR (X:=c.X) (sts:=bW)) pins s σ H D I ⟨H0,Hs0,la,Hs,f,?_⟩
  rw [hg]
  exact q
 | ok fl =>
  rw [hg,bind_ok] at q
  cases fl with
  | nx ρ' =>
   refine ju (h ρ) (hr ρ') pins s σ H D I ⟨H0,Hs0,la,Hs,f,?_⟩
   rw [hg]
   exact fun σ' H' Hs' f'=>⟨H0,Hs0,la,Hs',f',q⟩
  | rt d =>
   refine ju (h ρ) (nR (X:=c.X) (sts:=bW)) pins s σ H D I ⟨H0,Hs0,la,Hs,f,?_⟩
   rw [hg]
   exact q
  | bk ρ' =>
   refine ju (h ρ) (nR (X:=c.X) (sts:=bW)) pins s σ H D I ⟨H0,Hs0,la,Hs,f,?_⟩
   rw [hg]
   exact q
  | ct ρ' =>
   refine ju (h ρ) (nR (X:=c.X) (sts:=bW)) pins s σ H D I ⟨H0,Hs0,la,Hs,f,?_⟩
   rw [hg]
   exact q
theorem sE {K:a8}{cls:Str->ah}{E:XK}{ρ:av}{r:R D}{k:D->R Fl}{σ:St}{H:Hp}{H0 Hs0 Hs:Hp}{la:Nat->Option ah}{D':sX}{Q:V->Hp->Prop} (f:Fr K H0 Hs0 la ρ σ H Hs)
  (h:nX K cls E H0 Hs0 la D' (r.bind k)) (m:∀ d v H' Hs',r=.ok d->cQ H Hs H' Hs'->Fr K H0 Hs0 la ρ σ H' Hs'->RD K Hs' v d->Q v H'):TR K cls E ρ r σ H Q:=by
 refine ⟨H0,Hs0,la,Hs,f,?_⟩
 cases r with
 | ok d=>exact fun v H' Hs' s r=>m d v H' Hs' rfl s (f.step s) r
 | ex c n=>exact fun H' Hs' s=>h H' Hs' (f.st.trans s)
 | no=>exact h
theorem sT {K:a8}{cls:Str->ah}{E:XK}{ρ:av}{r:R Bool}{k:Bool->R Fl}{σ:St}{H:Hp}{H0 Hs0 Hs:Hp}{la:Nat->Option ah}{D':sX}{Q:Bool->Hp->Prop} (f:Fr K H0 Hs0 la ρ σ H Hs)
  (h:nX K cls E H0 Hs0 la D' (r.bind k)) (m:∀ d H' Hs',r=.ok d->cQ H Hs H' Hs'->Fr K H0 Hs0 la ρ σ H' Hs'->Q d H'):K9 K cls E ρ r σ H Q:=by
 refine ⟨H0,Hs0,la,Hs,f,?_⟩
 cases r with
 | ok d=>exact fun H' Hs' s=>m d H' Hs' rfl s (f.step s)
 | ex c n=>exact fun H' Hs' s=>h H' Hs' (f.st.trans s)
 | no=>exact h
def cG (g:av->R D):av->R Fl:=fun ρ=>(g (dB ρ)).bind fun d=>.ok (.rt d)
theorem bH (h:JE c e g):JS c (.Return (some e) pos) (cG g):=.of fun ρ=>yf (BM (h (dB ρ))) fun D σ H h_3=>by
 obtain ⟨H0,Hs0,la,Hs,f,q⟩:=h_3
 obtain ⟨Hs',f'⟩:=f.shared
 refine sE f' q fun d v H1 Hs1 e1 s1 f1 r1=>?_
 unfold cG at q
 rw [e1,bind_ok] at q
 exact q v H1 Hs1 f1.st r1
def eM (t:av->R Bool) (g h:av->R Fl):av->R Fl:=fun ρ=>(t ρ).bind fun b=>if b then g ρ else h ρ
theorem ft {t:b9}{gt:av->R Bool}{A B:List cr}{gA gB:av->R Fl} (ht:JT c t gt) (hA:Ir c A gA) (hB:Ir c B gB):JS c (.If t A B pos) (eM gt gA gB):=.of fun ρ=>yf (R8 (ht ρ) (hA ρ) (hB ρ)) fun D σ H h_5=>by
 obtain ⟨H0,Hs0,la,Hs,f,q⟩:=h_5
 refine sT f q fun d H1 Hs1 e1 s1 f1=>?_
 unfold eM at q
 rw [e1,bind_ok] at q
 cases d with
 | true=>exact BU ⟨H0,Hs0,la,Hs1,f1,q⟩
 | false=>exact xQ ⟨H0,Hs0,la,Hs1,f1,q⟩
def eV (i:Nat) (g:av->R D):av->R Fl:=fun ρ=>(g ρ).bind fun d=>.ok (.nx (ρ.set i (.shr d)))
theorem dI (i:Nat) {pos':Pos} (h:JE c e g) (hN:c.X.N.Nodup) (hi:c.X.N[i]?=some x:=by rfl) (hx:R5 c.X.env.scope x:=by first | exact gx rfl | exact d_ rfl) (hs:gZ e (some (.Name x pos')) pos.line c.X.env=pure false:=by rfl)
  (hf:c.X.fn x=true\/c.X.env.scope.names.lookup x=some .local:=by first | exact .inl rfl | exact .inr rfl | assumption):JS c (.Assign [.Name x pos'] e pos) (eV i g):=.of fun ρ=>yf (BO hN hi hx (h ρ) hs hf) fun D σ H h_6=>by
 obtain ⟨H0,Hs0,la,Hs,f,q⟩:=h_6
 refine sE f q fun d v H1 Hs1 e1 s1 f1 r1=>?_
 unfold eV at q
 rw [e1,bind_ok] at q
 exact q _ H1 Hs1 (f1.set i r1)
def sK (g:av->R D):av->R Fl:=fun ρ=>(g ρ).bind fun _=>.ok (.nx ρ)
theorem oH (h:JE c e g) (hs:gZ e none pos.line c.X.env=pure false:=by rfl):JS c (.Expr e pos) (sK g):=.of fun ρ=>yf (um (h ρ) hs) fun D σ H h_7=>by
 obtain ⟨H0,Hs0,la,Hs,f,q⟩:=h_7
 refine sE f q fun d v H1 Hs1 e1 s1 f1 r1=>?_
 unfold sK at q
 rw [e1,bind_ok] at q
 exact q _ H1 Hs1 f1
def XE (K:a8) (H0 Hs0:Hp) (la:Nat->Option ah) (H Hs:Hp) (Q:St->Hp->Prop) (r:R av):Prop:=match r with
 | .ok ρ'=>∀ σ',Fr K H0 Hs0 la ρ' σ' H Hs->Q σ' H
 | _=>False
inductive V1 (K:a8) (ρ:av) (d:D) (r:R av) (v:V) (σ:St) (H:Hp) (Q:St->Hp->Prop):Prop
 | mk (H0 Hs0:Hp) (la:Nat->Option ah) (Hs:Hp) (f:Fr K H0 Hs0 la ρ σ H Hs) (rd:RD K Hs v d) (q:XE K H0 Hs0 la H Hs Q r):V1 K ρ d r v σ H Q
def Tb (K:a8) (ρ:av) (d:D) (r:R av):TG:=V1 K ρ d r
inductive RE (K:a8) (ρ:av) (ds:List D) (r:R av) (vs:List V) (σ:St) (H:Hp) (Q:St->Hp->Prop):Prop
 | mk (H0 Hs0:Hp) (la:Nat->Option ah) (Hs:Hp) (f:Fr K H0 Hs0 la ρ σ H Hs) (rd:RDs K Hs vs ds) (q:XE K H0 Hs0 la H Hs Q r):RE K ρ ds r vs σ H Q
def V2 (K:a8) (ρ:av) (ds:List D) (r:R av):LK:=RE K ρ ds r
structure JG (c:C) (t:b9) (k:D->av->R av):Prop where of ::
 run:∀ ρ d,PG c.X t (Tb c.X.K ρ d (k d ρ))
instance {c:C}{t:b9}{k:D->av->R av}:CoeFun (JG c t k) (fun _=>∀ ρ d,PG c.X t (Tb c.X.K ρ d (k d ρ))):=⟨JG.run⟩
structure Uf (c:C) (t:List b9) (k:List D->av->R av):Prop where of ::
 run:∀ ρ d,R9 c.X t (V2 c.X.K ρ d (k d ρ))
instance {c:C}{t:List b9}{k:List D->av->R av}:CoeFun (Uf c t k) (fun _=>∀ ρ d,R9 c.X t (V2 c.X.K ρ d (k d ρ))):=⟨Uf.run⟩
theorem XF {X:Cx}{e:b9}{t t':TG} (h:PG X e t) (m:∀ v σ H Q,t' v σ H Q->t v σ H Q):PG X e t':=fun pins s σ H v u Q I r q=>h pins s σ H v u Q I r (m v σ H Q q)
theorem X1 {X:Cx}{e:List b9}{t t':LK} (h:R9 X e t) (m:∀ v σ H Q,t' v σ H Q->t v σ H Q):R9 X e t':=fun pins s σ H v u Q I r q=>h pins s σ H v u Q I r (m v σ H Q q)
def bO (i:Nat):D->av->R av:=fun d ρ=>.ok (ρ.set i (.shr d))
theorem cL (i:Nat) (hN:c.X.N.Nodup) (hi:c.X.N[i]?=some x:=by rfl) (hx:R5 c.X.env.scope x:=by first | exact gx rfl | exact d_ rfl) (hf:c.X.fn x=true\/c.X.env.scope.names.lookup x=some .local:=by first | exact .inl rfl | exact .inr rfl | assumption) :
  JG c (.Name x pos) (bO i):=.of fun ρ d=>XF (cy hN hi hx hf) fun v σ H Q h_11=>by obtain ⟨H0,Hs0,la,Hs,f,r,q⟩:=h_11;exact q _ (f.set i r)
variable {kt:D->av->R av}{kts:List D->av->R av}{t:b9}{ts:List b9}
def kW:List D->av->R av:=fun ds ρ=>match ds with
 | []=>.ok ρ
 | _=>.no
def cn (k:D->av->R av) (ks:List D->av->R av):List D->av->R av:=fun ds ρ=>match ds with
 | d::r=>(k d ρ).bind fun ρ'=>ks r ρ'
 | _=>.no
theorem kX:Uf c [] kW:=.of fun ρ ds=>X1 BN fun vs σ H Q h_12=>by
 obtain ⟨H0,Hs0,la,Hs,f,r,q⟩:=h_12
 cases r with
 | nil=>exact ⟨rfl,q σ f⟩
 | cons _ _=>exact q.elim
theorem c_ (h:JG c t kt) (hr:Uf c ts kts) (hs:(i8 (t::ts) c.X.env).map (·.2)=qh t c.X.env::(i8 ts c.X.env).map (·.2):=by rfl):Uf c (t::ts) (cn kt kts):=.of fun ρ ds pins s σ H vs us Q I rv h_13=>by
 obtain ⟨H0,Hs0,la,Hs,f,r,q⟩:=h_13
 cases r with
 | nil=>exact q.elim
 | @cons v vr d dr r1 r2 =>
  unfold cn at q
  cases hk:kt d ρ with
  | ok ρ' =>
   simp only [hk,bind_ok] at q
   refine qp (h ρ d) (hr ρ' dr) hs pins s σ H _ us Q I rv ⟨v,vr,rfl,H0,Hs0,la,Hs,f,r1,?_⟩
   rw [hk]
   exact fun σ' f'=>⟨H0,Hs0,la,Hs,f',r2,q⟩
  | ex x n=>simp only [hk,bind_ex] at q;exact q.elim
  | no=>simp only [hk,bind_no] at q;exact q.elim
def ku (n:Nat) (ks:List D->av->R av):D->av->R av:=fun d ρ=>match d with
 | .tuple ds=>if ds.length=n then ks ds ρ else .no
 | _=>.no
theorem oI {k n:Nat} (hc:c.X.calm=true) (h:Uf c ts kts) (hn:(i8 ts c.X.env).length=n:=by rfl) (hst:(i8 ts c.X.env).findIdx? (·.1)=none:=by rfl):JG c (.Tuple ts k pos) (ku n kts):=.of fun ρ d=>by
 cases d with
 | tuple ds =>
  refine XF (Gb hc (h ρ ds) hn hst) fun v σ H Q h_14=>?_
  obtain ⟨H0,Hs0,la,Hs,f,r,q⟩:=h_14
  cases r with
  | @tuple p xs _ hq rs =>
   unfold ku at q
   by_cases hl:ds.length=n
   ·simp only [if_pos hl] at q
    exact ⟨p,xs,rfl,(kn.of (f.st.sub _ _ hq)),by rw [rs.length];exact hl,H0,Hs0,la,Hs,f,rs,q⟩
   ·simp only [if_neg hl] at q;exact q.elim
 | _=>exact fun pins s σ H v u Q I rv h_15=>by obtain ⟨H0,Hs0,la,Hs,f,r,q⟩:=h_15;exact q.elim
def yp (g:av->R D) (k:D->av->R av):av->R Fl:=fun ρ=>(g ρ).bind fun d=>match k d ρ with
 | .ok ρ'=>.ok (.nx ρ')
 | _=>.no
theorem yq (h:JE c e g) (hg:JG c t kt) (hs:xc [t] e pos.line c.X.env=pure false:=by rfl) (hw:xg [t] e c.X.env=pure none:=by rfl) (h1:(i8 [t] c.X.env).map (·.2)=[qh t c.X.env]:=by rfl) :
  JS c (.Assign [t] e pos) (yp g kt):=.of fun ρ=>by
 cases hr:g ρ with
 | ok d =>
  refine yf (LM (h ρ) (hg ρ d) hs hw h1) fun D σ H h_16=>?_
  obtain ⟨H0,Hs0,la,Hs,f,q⟩:=h_16
  refine sE (k:=fun d=>match kt d ρ with | .ok ρ'=>.ok (.nx ρ') | _=>.no) f q fun d' v H1 Hs1 e1 s1 f1 r1=>?_
  rw [hr] at e1
  cases e1
  unfold yp at q
  rw [hr,bind_ok] at q
  refine ⟨H0,Hs0,la,Hs1,f1,r1,?_⟩
  cases hk:kt d ρ with
  | ok ρ'=>rw [hk] at q;exact fun σ' f'=>q σ' H1 Hs1 f'
  | ex x n=>rw [hk] at q;exact q.elim
  | no=>rw [hk] at q;exact q.elim
 | ex x n =>
  refine yf (LM (h ρ) (hg ρ .none) hs hw h1) fun D σ H h_17=>?_
  obtain ⟨H0,Hs0,la,Hs,f,q⟩:=h_17
  refine sE (k:=fun _=>.no) (D':=D) f (by unfold yp at q;rw [hr] at q ⊢;exact q) fun d' v H1 Hs1 e1 s1 f1 r1=>?_
  rw [hr] at e1;cases e1
 | no =>
  refine fun pins s σ H D I h_18=>?_
  obtain ⟨H0,Hs0,la,Hs,f,q⟩:=h_18
  unfold yp at q
  rw [hr] at q
  exact q.elim
end
end J
end
section
namespace J
open PySem L2
def MJ (K:a8) (J:It) (ds:List D) (Hn Hs:Hp):Prop:=∀ H2 Hs2,du Hn H2->du Hs Hs2->du Hs2 H2 ->
 (∀ i,i<ds.length->J.go i H2)/\(∀ i,ds.length<=i->J.stop i H2)/\∀ i x H3,i<ds.length->J.yld i H2 x H3->∃ d Hs3,ds[i]?=some d/\cQ H2 Hs2 H3 Hs3/\RD K Hs3 x d
theorem Cb {K:a8}{Hn Hs:Hp}{a:ah}{vs:List V}{ds:List D} (h:lF K Hn a vs) (r:RDs K Hs vs ds):MJ K (Wp K a) ds Hn Hs:=fun H2 Hs2 e1 e2 e3=>by
 have q:=e1.seq h
 refine ⟨fun i hi=>?_,fun i hi=>⟨vs,q,by rw [r.length];exact hi⟩,fun i x H3 hi y=>?_⟩
 ·have hi':i<vs.length:=by rw [r.length];exact hi
  exact ⟨vs,vs[i],q,aQ hi'⟩
 ·obtain ⟨rfl,y⟩:=y
  obtain ⟨d,k1,k2⟩:=r.get (y vs q)
  exact ⟨d,Hs2,k1,.refl e3,k2.same e2⟩
theorem MK {K:a8}{Hn Hs:Hp}{a:ah}{vs:List V}{ds:List D} (h:kn K Hn a vs) (r:RDs K Hs vs ds):MJ K (Wq K a) ds Hn Hs:=fun H2 Hs2 e1 e2 e3=>by
 have q:=e1.tup h
 refine ⟨fun i hi=>?_,fun i hi=>⟨vs,q,by rw [r.length];exact hi⟩,fun i x H3 hi y=>?_⟩
 ·have hi':i<vs.length:=by rw [r.length];exact hi
  exact ⟨vs,vs[i],q,aQ hi'⟩
 ·obtain ⟨rfl,y⟩:=y
  obtain ⟨d,k1,k2⟩:=r.get (y vs q)
  exact ⟨d,Hs2,k1,.refl e3,k2.same e2⟩
theorem ML {K:a8}{Hn Hs:Hp} (x:Str):MJ K (UH x) (nz x) Hn Hs:=fun H2 Hs2 e1 e2 e3=>by
 have hl:(nz x).length=x.cps.size:=by simp [nz]
 refine ⟨fun i hi=>by rw [hl] at hi;exact hi,fun i hi=>by rw [hl] at hi;exact hi,fun i v H3 hi y=>?_⟩
 obtain ⟨rfl,c,k1,rfl⟩:=y
 refine ⟨.str ⟨#[c]⟩,Hs2,?_,.refl e3,.str _⟩
 unfold nz
 rw [aN,dC,k1]
 rfl
def qA (lo:Int) (n:Nat):List D:=(bw n).map fun (k:Nat)=>ck (lo + k)
theorem MM {K:a8}{Hn Hs:Hp} (lo:Int) (n:Nat):MJ K (VW lo n) (qA lo n) Hn Hs:=fun H2 Hs2 e1 e2 e3=>by
 have hl:(qA lo n).length=n:=by simp [qA]
 refine ⟨fun i hi=>by rw [hl] at hi;exact hi,fun i hi=>by rw [hl] at hi;exact hi,fun i v H3 hi y=>?_⟩
 obtain ⟨rfl,rfl⟩:=y
 refine ⟨.int (lo + i),Hs2,?_,.refl e3,.int _⟩
 rw [hl] at hi
 unfold qA
 rw [aN,Jw hi]
 rfl
def iR (n:Nat):List D->List D
 | []=>[]
 | d::r=>.tuple [.int n,d]::iR (n + 1) r
theorem vL:∀ (ds:List D) (n i:Nat),(iR n ds)[i]?=(ds[i]?).map fun d=>cC [.int ((n + i:Nat):Int),d]
 | [],_,_=>by simp [iR]
 | d::r,n,0=>by simp [iR]
 | d::r,n,i + 1=>by
  simp only [iR,jt]
  rw [vL r (n + 1) i,show n + 1 + i=n + (i + 1) by omega]
theorem vM:∀ (ds:List D) (n:Nat),(iR n ds).length=ds.length
 | [],_=>rfl
 | d::r,n=>by simp [iR,vM r]
theorem Q7 {K:a8}{Hn Hs:Hp}{a:ah}{vs:List V}{ds:List D} (h:kn K Hn a vs) (r:RDs K Hs vs ds):MJ K (WQ K a) (iR 0 ds) Hn Hs:=fun H2 Hs2 e1 e2 e3=>by
 have q:=e1.tup h
 have hl:=vM ds 0
 refine ⟨fun i hi=>?_,fun i hi=>⟨vs,q,by rw [r.length];omega⟩,fun i x H3 hi y=>?_⟩
 ·have hi':i<vs.length:=by rw [r.length];omega
  exact ⟨vs,vs[i],q,aQ hi'⟩
 ·obtain ⟨p,hp,rfl,y⟩:=y
  obtain ⟨x,k0,rfl⟩:=y vs q
  obtain ⟨d,k1,k2⟩:=r.get k0
  have st:=cQ.new (o:=.tup [.int i,x]) e3 hp
  refine ⟨.tuple [.int i,d],_,?_,st,.tuple aV (.cons (.int _) (.cons ((k2.same e2).same st.sh) .nil))⟩
  rw [vL,k1]
  simp
def wW:List D->List D->List D
 | x::xs,y::ys=>.tuple [x,y]::wW xs ys
 | _,_=>[]
theorem D_:∀ (xs ys:List D) (i:Nat) (x y:D),xs[i]?=some x->ys[i]?=some y->(wW xs ys)[i]?=some (.tuple [x,y])
 | x::xs,y::ys,0,_,_,h1,h2=>by simp at h1 h2;subst h1 h2;rfl
 | _::xs,_::ys,i + 1,x,y,h1,h2=>by
  simp only [jt] at h1 h2
  simp only [wW,jt]
  exact D_ xs ys i x y h1 h2
 | [],_,_,_,_,h1,_=>by simp at h1
 | _::_,[],_,_,_,_,h2=>by simp at h2
theorem E2:∀ (xs ys:List D),(wW xs ys).length=min xs.length ys.length
 | x::xs,y::ys=>by simp [wW,E2 xs ys]
 | [],_=>by simp [wW]
 | _::_,[]=>by simp [wW]
theorem Tc {K:a8}{Hn Hs:Hp}{a b:ah}{vs ws:List V}{ds es:List D} (h:kn K Hn a vs) (r:RDs K Hs vs ds) (h':kn K Hn b ws) (r':RDs K Hs ws es):MJ K (WR K a b) (wW ds es) Hn Hs:=fun H2 Hs2 e1 e2 e3=>by
 have q:=e1.tup h
 have q':=e1.tup h'
 have hl:=E2 ds es
 refine ⟨fun i hi=>?_,fun i hi=>⟨vs,ws,q,q',by rw [r.length,r'.length];omega⟩,fun i x H3 hi y=>?_⟩
 ·have h1:i<vs.length:=by rw [r.length];omega
  have h2:i<ws.length:=by rw [r'.length];omega
  exact ⟨vs,ws,vs[i],ws[i],q,q',aQ h1,aQ h2⟩
 ·obtain ⟨p,hp,rfl,y⟩:=y
  obtain ⟨x,z,k0,k0',rfl⟩:=y vs ws q q'
  obtain ⟨d,k1,k2⟩:=r.get k0
  obtain ⟨d',k1',k2'⟩:=r'.get k0'
  have st:=cQ.new (o:=.tup [x,z]) e3 hp
  exact ⟨.tuple [d,d'],_,D_ ds es i d d' k1 k1',st,.tuple aV (.cons ((k2.same e2).same st.sh) (.cons ((k2'.same e2).same st.sh) .nil))⟩
inductive V3 (K:a8) (cls:Str->ah) (E:XK) (ρ:av) (r:R (List D)) (σ:St) (H:Hp) (Q:It->Hp->Prop):Prop
 | mk (H0 Hs0:Hp) (la:Nat->Option ah) (Hs:Hp) (f:Fr K H0 Hs0 la ρ σ H Hs) (q:Fin K cls E H Hs r fun ds=>∀ J H' Hs' Hn,cQ H Hs H' Hs'->du Hn H'->MJ K J ds Hn Hs'->Q J H'):V3 K cls E ρ r σ H Q
def W6 (K:a8) (cls:Str->ah) (E:XK) (ρ:av) (r:R (List D)):TI:=V3 K cls E ρ r
inductive V4 (K:a8) (cls:Str->ah) (E:XK) (ρ:av) (r:R (List D)) (σ:St) (H:Hp) (Q:It->Hp->Prop):Prop
 | mk (H0 Hs0:Hp) (la:Nat->Option ah) (Hs:Hp) (f:Fr K H0 Hs0 la ρ σ H Hs) (q:Fin K cls E H Hs r fun ds=>∀ J H' Hs',cQ H Hs H' Hs'->MJ K J ds Hs' Hs'->Q J H'):V4 K cls E ρ r σ H Q
def XG (K:a8) (cls:Str->ah) (E:XK) (ρ:av) (r:R (List D)):TI:=V4 K cls E ρ r
structure JI (c:C) (tg it:b9) (g:av->R (List D)):Prop where of ::
 run:∀ ρ,PI c.X tg it (W6 c.X.K c.cls c.E ρ (g ρ))
instance {c:C}{tg it:b9}{g:av->R (List D)}:CoeFun (JI c tg it g) (fun _=>∀ ρ,PI c.X tg it (W6 c.X.K c.cls c.E ρ (g ρ))):=⟨JI.run⟩
structure Lh (c:C) (tg it:b9) (g:av->R (List D)):Prop where of ::
 run:∀ ρ,PI c.X tg it (XG c.X.K c.cls c.E ρ (g ρ))
instance {c:C}{tg it:b9}{g:av->R (List D)}:CoeFun (Lh c tg it g) (fun _=>∀ ρ,PI c.X tg it (XG c.X.K c.cls c.E ρ (g ρ))):=⟨Lh.run⟩
theorem Iu {X:Cx}{tg e:b9}{t t':TI} (h:PI X tg e t) (m:∀ σ H Q,t' σ H Q->t σ H Q):PI X tg e t':=fun pins s σ H Q I q=>h pins s σ H Q I (m σ H Q q)
section
variable {c:C}{e a b l tg:b9}{g ga gb:av->R D}{pos p:Pos}{gs:av->R (List D)}
def yr:D->R (List D)
 | .list ds=>.ok ds
 | .tuple ds=>.ok ds
 | .str x=>.ok (nz x)
 | _=>.no
def jq (g:av->R D):av->R (List D):=fun ρ=>(g ρ).bind yr
theorem eN (h:JB c l g):JI c tg l (jq g):=.of fun ρ=>by
 cases hr:g ρ with
 | no=>exact fun pins s σ H Q I h_0=>by obtain ⟨H0,Hs0,la,Hs,f,q⟩:=h_0;exact by unfold jq at q;rw [hr] at q;exact q.elim
 | ex x n =>
  refine Iu (uo (h ρ)) fun σ H Q h_1=>?_
  obtain ⟨H0,Hs0,la,Hs,f,q⟩:=h_1
  refine one f q fun d v H1 Hs1 e1 s1 f1 r1=>?_
  rw [hr] at e1;cases e1
 | ok d =>
  cases d with
  | list ds =>
   refine Iu (uo (h ρ)) fun σ H Q h_2=>?_
   obtain ⟨H0,Hs0,la,Hs,f,q⟩:=h_2
   refine one f q fun d v H1 Hs1 e1 s1 f1 r1=>?_
   rw [hr] at e1;cases e1
   unfold jq at q
   rw [hr,bind_ok] at q
   obtain ⟨a,vs,rfl,qa,ra⟩:=r1.list f1.st.sub
   exact ⟨a,rfl,⟨vs,qa⟩,q _ H1 Hs1 H1 s1 (.refl _) (Cb qa ra)⟩
  | tuple ds =>
   refine Iu (LO (h ρ)) fun σ H Q h_3=>?_
   obtain ⟨H0,Hs0,la,Hs,f,q⟩:=h_3
   refine one f q fun d v H1 Hs1 e1 s1 f1 r1=>?_
   rw [hr] at e1;cases e1
   unfold jq at q
   rw [hr,bind_ok] at q
   obtain ⟨a,vs,rfl,qa,ra,_⟩:=r1.tuple f1.st.sub
   exact ⟨a,rfl,⟨vs,qa⟩,q _ H1 Hs1 H1 s1 (.refl _) (MK qa ra)⟩
  | str x =>
   refine Iu (Mn (h ρ)) fun σ H Q h_4=>?_
   obtain ⟨H0,Hs0,la,Hs,f,q⟩:=h_4
   refine one f q fun d v H1 Hs1 e1 s1 f1 r1=>?_
   rw [hr] at e1;cases e1
   unfold jq at q
   rw [hr,bind_ok] at q
   exact ⟨x,r1.str,q _ H1 Hs1 H1 s1 (.refl _) (ML x)⟩
  | none=>exact fun pins s σ H Q I h_5=>by obtain ⟨H0,Hs0,la,Hs,f,q⟩:=h_5;exact by unfold jq at q;rw [hr] at q;exact q.elim
  | bool _=>exact fun pins s σ H Q I h_6=>by obtain ⟨H0,Hs0,la,Hs,f,q⟩:=h_6;exact by unfold jq at q;rw [hr] at q;exact q.elim
  | int _=>exact fun pins s σ H Q I h_7=>by obtain ⟨H0,Hs0,la,Hs,f,q⟩:=h_7;exact by unfold jq at q;rw [hr] at q;exact q.elim
  | dict _=>exact fun pins s σ H Q I h_8=>by obtain ⟨H0,Hs0,la,Hs,f,q⟩:=h_8;exact by unfold jq at q;rw [hr] at q;exact q.elim
theorem xr (h:JE c l g):Lh c tg l (jq g):=.of fun ρ=>by
 cases hr:g ρ with
 | no=>exact fun pins s σ H Q I h_9=>by obtain ⟨H0,Hs0,la,Hs,f,q⟩:=h_9;exact by unfold jq at q;rw [hr] at q;exact q.elim
 | ex x n =>
  refine Iu (uo (h ρ)) fun σ H Q h_10=>?_
  obtain ⟨H0,Hs0,la,Hs,f,q⟩:=h_10
  refine yg f q fun d v H1 Hs1 e1 s1 f1 r1=>?_
  rw [hr] at e1;cases e1
 | ok d =>
  cases d with
  | list ds =>
   refine Iu (uo (h ρ)) fun σ H Q h_11=>?_
   obtain ⟨H0,Hs0,la,Hs,f,q⟩:=h_11
   refine yg f q fun d v H1 Hs1 e1 s1 f1 r1=>?_
   rw [hr] at e1;cases e1
   unfold jq at q
   rw [hr,bind_ok] at q
   cases r1 with
   | list qa ra=>exact ⟨_,rfl,⟨_,f1.st.sub.seq qa⟩,q _ H1 Hs1 s1 (Cb qa ra)⟩
  | tuple ds =>
   refine Iu (LO (h ρ)) fun σ H Q h_12=>?_
   obtain ⟨H0,Hs0,la,Hs,f,q⟩:=h_12
   refine yg f q fun d v H1 Hs1 e1 s1 f1 r1=>?_
   rw [hr] at e1;cases e1
   unfold jq at q
   rw [hr,bind_ok] at q
   cases r1 with
   | tuple qa ra=>exact ⟨_,rfl,⟨_,(kn.of (f1.st.sub _ _ qa))⟩,q _ H1 Hs1 s1 (MK (.of qa) ra)⟩
  | str x =>
   refine Iu (Mn (h ρ)) fun σ H Q h_13=>?_
   obtain ⟨H0,Hs0,la,Hs,f,q⟩:=h_13
   refine yg f q fun d v H1 Hs1 e1 s1 f1 r1=>?_
   rw [hr] at e1;cases e1
   unfold jq at q
   rw [hr,bind_ok] at q
   cases r1 with
   | str _=>exact ⟨x,rfl,q _ H1 Hs1 s1 (ML x)⟩
  | none=>exact fun pins s σ H Q I h_14=>by obtain ⟨H0,Hs0,la,Hs,f,q⟩:=h_14;exact by unfold jq at q;rw [hr] at q;exact q.elim
  | bool _=>exact fun pins s σ H Q I h_15=>by obtain ⟨H0,Hs0,la,Hs,f,q⟩:=h_15;exact by unfold jq at q;rw [hr] at q;exact q.elim
  | int _=>exact fun pins s σ H Q I h_16=>by obtain ⟨H0,Hs0,la,Hs,f,q⟩:=h_16;exact by unfold jq at q;rw [hr] at q;exact q.elim
  | dict _=>exact fun pins s σ H Q I h_17=>by obtain ⟨H0,Hs0,la,Hs,f,q⟩:=h_17;exact by unfold jq at q;rw [hr] at q;exact q.elim
theorem Lh.i (h:Lh c tg l gs):JI c tg l gs:=.of fun ρ=>Iu (h ρ) fun σ H Q ⟨H0,Hs0,la,Hs,f,q⟩=>⟨H0,Hs0,la,Hs,f,by
 cases hr:gs ρ with
 | ok ds=>rw [hr] at q;exact fun J H' Hs' s i=>q J H' Hs' Hs' s s.sub i
 | ex x n=>rw [hr] at q;exact q
 | no=>rw [hr] at q;exact q⟩
def GE:List D->R (List D)
 | [.int j]=>if -(2 ^ 62)<=j/\j<2 ^ 62 then .ok (qA 0 j.toNat) else .no
 | _=>.no
def uI (gs:av->R (List D)):av->R (List D):=fun ρ=>(gs ρ).bind GE
theorem lJ (hg:Gl c.X "range") (hm:c.X.mg "range"=none) (ha:Rv c [a] gs) (hs:az [a] c.X.env=[(false,dz a c.X.env)]:=by rfl):Lh c tg (.Call (.Name "range" p) [a] [] pos) (uI gs):=.of fun ρ=>Iu (JK hg hm (ha ρ) hs) fun σ H Q h_18=>by
 obtain ⟨H0,Hs0,la,Hs,f,q⟩:=h_18
 refine MB f q fun ds vs H1 Hs1 e1 s1 f1 r1=>?_
 unfold uI at q
 rw [e1,bind_ok] at q
 unfold GE at q
 split at q
 ·rename_i j
  by_cases hj:-(2 ^ 62)<=j/\j<2 ^ 62
  ·rw [if_pos hj] at q
   obtain ⟨x,rfl,rx⟩:=r1.one
   exact ⟨j,by rw [rx.int],hj.1,hj.2,q _ H1 Hs1 s1 (MM 0 _)⟩
  ·rw [if_neg hj] at q;exact q.elim
 ·exact q.elim
def W7:List D->R (List D)
 | [.tuple ds]=>.ok (iR 0 ds)
 | _=>.no
def GF (gs:av->R (List D)):av->R (List D):=fun ρ=>(gs ρ).bind W7
theorem RDs.one {K:a8}{H:Hp}{xs:List V}{d:D} (h:RDs K H xs [d]):∃ x,xs=[x]/\RD K H x d:=by
 cases h with | cons a t=>cases t;exact ⟨_,rfl,a⟩
theorem RDs.two {K:a8}{H:Hp}{xs:List V}{d e:D} (h:RDs K H xs [d,e]):∃ x y,xs=[x,y]/\RD K H x d/\RD K H y e:=by
 cases h with | cons a t=>cases t with | cons b t=>cases t;exact ⟨_,_,rfl,a,b⟩
theorem yt {elts:List b9}{x1}{tpos:Pos} (hg:Gl c.X "enumerate") (hm:c.X.mg "enumerate"=none) (ha:Dk c [a] gs) (hs:az [a] c.X.env=[(false,dz a c.X.env)]:=by rfl):Lh c (.Tuple elts x1 tpos) (.Call (.Name "enumerate" p) [a] [] pos) (GF gs):=.of fun ρ=>Iu (PR hg hm (ha ρ) hs) fun σ H Q h_20=>by
 obtain ⟨H0,Hs0,la,Hs,f,q⟩:=h_20
 refine A8 f q fun ds vs H1 Hs1 e1 s1 f1 r1=>?_
 unfold GF at q
 rw [e1,bind_ok] at q
 unfold W7 at q
 split at q
 ·obtain ⟨x,rfl,rx⟩:=r1.one
  cases rx with
  | tuple qa ra=>exact ⟨_,_,rfl,(kn.of (f1.st.sub _ _ qa)),q _ H1 Hs1 s1 (Q7 (.of qa) ra)⟩
 ·exact q.elim
def zp:List D->R (List D)
 | [.tuple ds,.tuple es]=>.ok (wW ds es)
 | _=>.no
def Q8 (gs:av->R (List D)):av->R (List D):=fun ρ=>(gs ρ).bind zp
theorem Q9 {elts:List b9}{x1}{tpos:Pos} (hg:Gl c.X "zip") (hm:c.X.mg "zip"=none) (ha:Dk c [a,b] gs) (hs:az [a,b] c.X.env=[(false,dz a c.X.env),(false,dz b c.X.env)]:=by rfl) (hs2:az [b] c.X.env=[(false,dz b c.X.env)]:=by rfl) :
  Lh c (.Tuple elts x1 tpos) (.Call (.Name "zip" p) [a,b] [] pos) (Q8 gs):=.of fun ρ=>Iu (T3 hg hm (ha ρ) hs hs2) fun σ H Q h_21=>by
 obtain ⟨H0,Hs0,la,Hs,f,q⟩:=h_21
 refine A8 f q fun ds vs H1 Hs1 e1 s1 f1 r1=>?_
 unfold Q8 at q
 rw [e1,bind_ok] at q
 unfold zp at q
 split at q
 ·obtain ⟨x,y,rfl,rx,ry⟩:=r1.two
  cases rx with
  | tuple qa ra =>
   cases ry with
   | tuple qb rb=>exact ⟨_,_,_,_,rfl,(kn.of (f1.st.sub _ _ qa)),(kn.of (f1.st.sub _ _ qb)),q _ H1 Hs1 s1 (Tc (.of qa) ra (.of qb) rb)⟩
 ·exact q.elim
end
end J
end
section
namespace J
open PySem L2
inductive XH (K:a8) (cls:Str->ah) (E:XK) (ρ:av) (r:R D) (σ:St) (H:Hp) (Q:VK):Prop
 | mk (H0 Hs0:Hp) (la:Nat->Option ah) (Hs:Hp) (f:Fr K H0 Hs0 la ρ σ H Hs) (q:Fin K cls E H Hs r fun d=>∀ a o H' Hs',cQ H Hs H' Hs'->H' a=none->mn K Hs' o d->Q (.ref a) (upd H' a o)):XH K cls E ρ r σ H Q
def TN (K:a8) (cls:Str->ah) (E:XK) (ρ:av) (r:R D):TE:=XH K cls E ρ r
structure JN (c:C) (e:b9) (g:av->R D):Prop where of ::
 run:∀ ρ,PE c.X e (TN c.X.K c.cls c.E ρ (g ρ))
instance {c:C}{e:b9}{g:av->R D}:CoeFun (JN c e g) (fun _=>∀ ρ,PE c.X e (TN c.X.K c.cls c.E ρ (g ρ))):=⟨JN.run⟩
section
variable {c:C}{e a b l tg:b9}{g ga gb:av->R D}{pos p:Pos}{gs:av->R (List D)}{es:List b9}{x:Str}
theorem X2 {K:a8}{cls:Str->ah}{E:XK}{ρ:av}{r:R D}{σ:St}{H:Hp}{Q:VK} (q:TR K cls E ρ r σ H Q):TN K cls E ρ r σ H Q:=by
 obtain ⟨H0,Hs0,la,Hs,f,q⟩:=q
 refine ⟨H0,Hs0,la,Hs,f,?_⟩
 cases r with
 | ok d=>exact fun a o H' Hs' s n r=>q _ _ _ (s.trans (.new s.sub n)) (r.share (s.sub.free n))
 | ex x n=>exact q
 | no=>exact q
theorem JN.je (h:JN c e g):JE c e g:=.of fun ρ=>qg (h ρ) fun σ H Q q=>X2 q
theorem qB (h:Dk c es gs):JN c (.List es pos) (e8 gs .list):=.of fun ρ=>qg (nq (h ρ)) fun σ H Q h_0=>by
 obtain ⟨H0,Hs0,la,Hs,f,q⟩:=h_0
 refine A8 f q fun ds vs H1 Hs1 e1 s1 f1 r1=>?_
 unfold e8 at q
 rw [e1,bind_ok] at q
 by_cases hl:ds.length<=1000
 ·rw [if_pos hl] at q
  exact ⟨bL (cz (by rw [r1.length];exact hl)),fun p hp=>q p _ H1 Hs1 s1 hp (.lst r1)⟩
 ·rw [if_neg hl] at q;exact q.elim
theorem Iv:JN c (.Dict [] [] pos) (fun _=>.ok (.dict [])):=.of fun ρ=>qg Ma fun σ H Q h_1=>by obtain ⟨H0,Hs0,la,Hs,f,q⟩:=h_1;exact fun p hp=>q p _ H Hs (.refl f.st.sub) hp (.dK .nil)
def eO (i:Nat) (g:av->R D):av->R Fl:=fun ρ=>(g ρ).bind fun d=>.ok (.nx (ρ.set i (.own d)))
theorem sN {K:a8}{cls:Str->ah}{E:XK}{ρ:av}{r:R D}{k:D->R Fl}{σ:St}{H:Hp}{H0 Hs0 Hs:Hp}{la:Nat->Option ah}{D':sX}{Q:V->Hp->Prop} (f:Fr K H0 Hs0 la ρ σ H Hs)
  (h:nX K cls E H0 Hs0 la D' (r.bind k)) (m:∀ d a o H' Hs',r=.ok d->Fr K H0 Hs0 la ρ σ H' Hs'->H' a=none->mn K Hs' o d->Q (.ref a) (upd H' a o)):TN K cls E ρ r σ H Q:=by
 refine ⟨H0,Hs0,la,Hs,f,?_⟩
 cases r with
 | ok d=>exact fun a o H' Hs' s n r=>m d a o H' Hs' rfl (f.step s) n r
 | ex c n=>exact fun H' Hs' s=>h H' Hs' (f.st.trans s)
 | no=>exact h
theorem hW (i:Nat) {pos':Pos} (h:JN c e g) (hN:c.X.N.Nodup) (hi:c.X.N[i]?=some x:=by rfl) (hx:R5 c.X.env.scope x:=by first | exact gx rfl | exact d_ rfl) (hs:gZ e (some (.Name x pos')) pos.line c.X.env=pure false:=by rfl)
  (hf:c.X.fn x=true\/c.X.env.scope.names.lookup x=some .local:=by first | exact .inl rfl | exact .inr rfl | assumption):JS c (.Assign [.Name x pos'] e pos) (eO i g):=.of fun ρ=>yf (BO hN hi hx (h ρ) hs hf) fun D σ H h_2=>by
 obtain ⟨H0,Hs0,la,Hs,f,q⟩:=h_2
 refine sN f q fun d a o H1 Hs1 e1 f1 n1 r1=>?_
 unfold eO at q
 rw [e1,bind_ok] at q
 exact q _ _ Hs1 (f1.setO i n1 r1)
def Kf {α:Type}:R α->R α
 | .ex _ _=>.no
 | r=>r
theorem Iw {α:Type}{r:R α}{a:α} (h:Kf r=.ok a):r=.ok a:=by
 cases r<;>first | exact h | cases h
def gK (f:D->R (Option D)):List D->R (List D)
 | []=>.ok []
 | d::r=>(f d).bind fun o=>(gK f r).bind fun ys=>.ok (match o with
  | some y=>y::ys
  | none=>ys)
theorem yu {f:D->R (Option D)}{d:D}{r ys:List D} (h:gK f (d::r)=.ok ys):∃ o zs,f d=.ok o/\gK f r=.ok zs/\ys=o.toList++zs:=by
 unfold gK at h
 cases hf:f d with
 | ok o =>
  rw [hf,bind_ok] at h
  cases hm:gK f r with
  | ok zs =>
   rw [hm,bind_ok] at h
   cases h
   cases o<;>exact ⟨_,zs,rfl,rfl,rfl⟩
  | ex x n=>rw [hm] at h;cases h
  | no=>rw [hm] at h;cases h
 | ex x n=>rw [hf] at h;cases h
 | no=>rw [hf] at h;cases h
def Qa:Sl->Sl
 | .own d=>.lck d
 | .ow2 _=>.no
 | s=>s
def nY (nt:Nat) (ix:List Nat) (ρ:av):av:=mq nt Sl.no++ix.map fun i=>Qa ((ρ[i]?).getD .no)
def V5 (nt:Nat):D->av->R av:=match nt with
 | 1=>bO 0
 | 2=>ku 2 (cn (bO 0) (cn (bO 1) kW))
 | _=>fun _ _=>.no
def ij (nt:Nat) (ρ:av) (gt:av->R Bool) (ge:av->R D):D->R (Option D):=fun d=>Kf ((V5 nt d ρ).bind fun ρ'=>(gt ρ').bind fun b=>if b then (ge ρ').bind fun y=>.ok (some y) else .ok none)
def dS (nt:Nat) (ix:List Nat) (gi:av->R (List D)) (gt:av->R Bool) (ge:av->R D):av->R D:=fun ρ=>(gi ρ).bind fun ds=>if ds.length<=1000 then (gK (ij nt (nY nt ix ρ) gt ge) ds).bind fun ys=>.ok (.list ys) else .no
structure V6 (c:C) (ifs:List b9) (g:av->R Bool):Prop where of ::
 run:∀ ρ,OW c.X ifs (K9 c.X.K c.cls c.E ρ (g ρ))
instance {c:C}{ifs:List b9}{g:av->R Bool}:CoeFun (V6 c ifs g) (fun _=>∀ ρ,OW c.X ifs (K9 c.X.K c.cls c.E ρ (g ρ))):=⟨V6.run⟩
theorem fL:V6 c [] (fun _=>.ok true):=.of fun ρ pins s σ H Q I h_3=>by obtain ⟨H0,Hs0,la,Hs,f,q⟩:=h_3;exact PM pins s σ H Q I (q H Hs (.refl f.st.sub))
theorem iy {gt:av->R Bool} (h:JT c e gt):V6 c [e] gt:=.of fun ρ=>PN (h ρ)
def Kg (K:a8) (nt:Nat):TG:=match nt with
 | 1=>wp 0
 | _=>Sx K 2 (L2.ae (wp 0) (L2.ae (wp 1) L2.aE))
theorem Cc {K:a8}{nt:Nat} (h:nt=1\/nt=2):Ro nt (Kg K nt):=by
 rcases h with rfl | rfl
 ·exact Mc (by decide)
 ·exact PP (by decide) (by decide)
theorem E3 {K:a8}{nt:Nat}{H0 Hs0 H Hs:Hp}{la:Nat->Option ah}{ρ ρ':av}{σ:St}{v:V}{d:D}{Q:St->Hp->Prop} (hnt:nt=1\/nt=2) (f:Fr K H0 Hs0 la ρ σ H Hs) (r:RD K Hs v d) (hb:V5 nt d ρ=.ok ρ')
  (q:∀ σ',Fr K H0 Hs0 la ρ' σ' H Hs->Q σ' H):Kg K nt v σ H Q:=by
 rcases hnt with rfl | rfl
 ·cases hb
  exact q _ (f.set 0 r)
 ·unfold V5 ku at hb
  simp only at hb
  cases r with
  | @tuple p xs ds hq rs =>
   simp only at hb
   split at hb
   ·rename_i hl
    cases rs with
    | nil=>cases hl
    | cons r1 rs =>
     cases rs with
     | nil=>cases hl
     | cons r2 rs =>
      cases rs with
      | nil =>
       cases hb
       exact ⟨p,_,rfl,(kn.of (f.st.sub _ _ hq)),rfl,_,_,rfl,_,_,rfl,rfl,q _ ((f.set 0 r1).set 1 r2)⟩
      | cons _ _=>simp at hl
   ·cases hb
  | none=>cases hb
  | bool _=>cases hb
  | int _=>cases hb
  | str _=>cases hb
  | list _ _=>cases hb
  | dictK _ _=>cases hb
  | dictT _ _ _=>cases hb
  | dictF _ _ _=>cases hb
theorem Fr.block {K:a8}{H0 Hs0 H Hs:Hp}{la:Nat->Option ah}{ρ:av}{σ:St} (f:Fr K H0 Hs0 la ρ σ H Hs) (nt:Nat) (ix:List Nat):∃ la',Fr K H Hs la' (nY nt ix ρ) (L2.jo nt ix σ) H Hs:=by
 have lk:∀ (j:Nat) (d:D),(nY nt ix ρ)[j]?=some (Sl.lck d)->∃ a o,(L2.jo nt ix σ)[j]?=some (some (V.ref a))/\H a=some o/\Hs a=none/\mn K Hs o d:=fun j d h=>by
  unfold nY at h
  by_cases hj:j<nt
  ·rw [bv (by simpa using hj),bR,if_pos hj] at h;cases h
  ·have hj:nt<=j:=by omega
   rw [bn (by simpa using hj),cU,aN] at h
   cases hi:ix[j - nt]? with
   | none=>rw [hi] at h;cases h
   | some i =>
    rw [hi] at h
    have at_:∀ v,σ[i]?=some (some v)->(L2.jo nt ix σ)[j]?=some (some v):=fun v k1=>by
     unfold L2.jo
     rw [bn (by simpa using hj),cU,aN,hi]
     simp [k1]
    cases hr:ρ[i]? with
    | none=>simp only [da,hr,gF,Qa] at h;cases h
    | some s =>
     simp only [da,hr,k8] at h
     cases s with
     | own d' =>
      cases h
      obtain ⟨a,o,k1,k2,k3,k4,k5⟩:=f.ow i d hr
      exact ⟨a,o,at_ _ k1,k2,k3,k5⟩
     | lck d' =>
      cases h
      obtain ⟨a,o,k1,k2,k3,k4,k5,k6⟩:=f.lk i d hr
      exact ⟨a,o,at_ _ k1,k3,k4,k6⟩
     | no=>cases h
     | shr _=>cases h
     | ow2 _=>cases h
 have no2:∀ (j:Nat) (d:List (List D)),¬ (nY nt ix ρ)[j]?=some (Sl.ow2 d):=fun j d h=>by
  unfold nY at h
  by_cases hj:j<nt
  ·rw [bv (by simpa using hj),bR,if_pos hj] at h;cases h
  ·have hj:nt<=j:=by omega
   rw [bn (by simpa using hj),cU,aN] at h
   cases hi:ix[j - nt]? with
   | none=>rw [hi] at h;cases h
   | some i =>
    rw [hi] at h
    cases hr:ρ[i]? with
    | none=>simp only [da,hr,gF,Qa] at h;cases h
    | some s =>
     simp only [da,hr,k8] at h
     cases s<;>cases h
 refine ⟨fun j=>match (nY nt ix ρ)[j]?,(L2.jo nt ix σ)[j]? with
  | some (Sl.lck _),some (some (V.ref a))=>some a
  | _,_=>none,.refl f.st.sub,by simp [nY,L2.jo],fun j d h=>?_,fun j d h=>?_,fun j d h=>?_,fun j k d1 d2 a h1 h2 _ _=>?_,fun j a h=>?_,fun j d h=>(no2 j d h).elim,fun j k d1 d2 h1 _=>(no2 j d1 h1).elim⟩
 case refine_3 =>
  obtain ⟨a,o,k1,k2,k3,k4⟩:=lk j d h
  exact ⟨a,o,k1,by rw [h,k1],k2,k3,k2,k4⟩
 case refine_5 =>
  split at h
  ·rename_i d a' h1 h2
   cases h
   obtain ⟨a',o,k1,k2,_⟩:=lk j d h1
   rw [h2] at k1
   cases k1
   exact ⟨o,k2⟩
  ·cases h
 all_goals
  unfold nY at *
 ·have h:=h
  by_cases hj:j<nt
  ·rw [bv (by simpa using hj),bR,if_pos hj] at h;cases h
  ·have hj:nt<=j:=by omega
   rw [bn (by simpa using hj),cU,aN] at h
   cases hi:ix[j - nt]? with
   | none=>rw [hi] at h;cases h
   | some i =>
    rw [hi] at h
    cases hr:ρ[i]? with
    | none=>simp only [da,hr,gF,Qa] at h;cases h
    | some s =>
     simp only [da,hr,k8] at h
     cases s with
     | shr d' =>
      cases h
      obtain ⟨v,k1,k2⟩:=f.sh i d hr
      refine ⟨v,?_,k2⟩
      unfold L2.jo
      rw [bn (by simpa using hj),cU,aN,hi]
      simp [k1]
     | no=>cases h
     | own _=>cases h
     | lck _=>cases h
     | ow2 _=>cases h
 ·have h:=h
  by_cases hj:j<nt
  ·rw [bv (by simpa using hj),bR,if_pos hj] at h;cases h
  ·have hj:nt<=j:=by omega
   rw [bn (by simpa using hj),cU,aN] at h
   cases hi:ix[j - nt]? with
   | none=>rw [hi] at h;cases h
   | some i =>
    rw [hi] at h
    cases hr:ρ[i]? with
    | none=>simp only [da,hr,gF,Qa] at h;cases h
    | some s =>
     simp only [da,hr,k8] at h
     cases s<;>cases h
 ·have h1:=h1
  by_cases hj:j<nt
  ·rw [bv (by simpa using hj),bR,if_pos hj] at h1;cases h1
  ·have hj:nt<=j:=by omega
   rw [bn (by simpa using hj),cU,aN] at h1
   cases hi:ix[j - nt]? with
   | none=>rw [hi] at h1;cases h1
   | some i =>
    rw [hi] at h1
    cases hr:ρ[i]? with
    | none=>simp only [da,hr,gF,Qa] at h1;cases h1
    | some s =>
     simp only [da,hr,k8] at h1
     cases s<;>cases h1
theorem yv {f:D->R (Option D)} (h:∀ d c n,f d≠.ex c n):∀ (ds:List D) (c:Str) (n:Option D),gK f ds≠.ex c n
 | [],c,n=>fun e=>by cases e
 | d::r,c,n=>fun e=>by
  unfold gK at e
  cases hf:f d with
  | ok o =>
   rw [hf,bind_ok] at e
   cases hm:gK f r with
   | ok zs=>rw [hm,bind_ok] at e;cases e
   | ex x k=>exact yv h r x k hm
   | no=>rw [hm] at e;cases e
  | ex x k=>exact h d x k hf
  | no=>rw [hf] at e;cases e
theorem E4 (nt:Nat) (ρ:av) (gt:av->R Bool) (ge:av->R D) (d:D) (c:Str) (n:Option D):ij nt ρ gt ge d≠.ex c n:=by
 unfold ij Kf
 split<;>first | exact fun e=>by cases e | skip
 rename_i h
 exact fun e=>h c n e
inductive XI (K:a8) (f:D->R (Option D)) (ds ys:List D) (H1 Hs1:Hp) (i m:Nat) (acc:List V) (H':Hp):Prop
 | mk (done bW zs ya Hs':_) (h0:ds=done++bW) (h1:done.length=i) (h2:bW.length=m) (h3:cQ H1 Hs1 H' Hs') (h4:RDs K Hs' acc ya) (h5:ya.length<=i) (h6:gK f bW=.ok zs) (h7:ys=ya++zs):XI K f ds ys H1 Hs1 i m acc H'
theorem Ix {K:a8}{cls:Str->ah}{E:XK}{nt:Nat}{ix:List Nat}{gi:av->R (List D)}{gt:av->R Bool}{ge:av->R D}{ρ:av}{σ:St}{H:Hp}{Q:VK} (hnt:nt=1\/nt=2)
  (q:TN K cls E ρ (dS nt ix gi gt ge ρ) σ H Q) :
  Mb nt ix (W6 K cls E ρ (gi ρ)) (Kg K nt) (fun σ H Q=>∃ ρ',K9 K cls E0 ρ' (gt ρ') σ H Q) (fun σ H Q=>∃ ρ',TR K cls E0 ρ' (ge ρ') σ H Q) σ H Q:=by
 obtain ⟨H0,Hs0,la,Hs,f,q⟩:=q
 refine ⟨H0,Hs0,la,Hs,f,?_⟩
 unfold dS at q
 cases hi:gi ρ with
 | no=>rw [hi] at q;exact q
 | ex x n=>rw [hi] at q;exact q
 | ok ds =>
  rw [hi,bind_ok] at q
  intro J H1 Hs1 Hn s1 sn it
  by_cases hl:ds.length<=1000
  ·rw [if_pos hl] at q
   cases hm:gK (ij nt (nY nt ix ρ) gt ge) ds with
   | no=>rw [hm] at q;exact q.elim
   | ex x n=>exact (yv (E4 _ _ _ _) _ _ _ hm).elim
   | ok ys =>
    rw [hm,bind_ok] at q
    obtain ⟨lb,fb⟩:=(f.step s1).block nt ix
    refine ⟨XI K (ij nt (nY nt ix ρ) gt ge) ds ys H1 Hs1,
     ⟨ds.length,[],ds,ys,[],Hs1,rfl,rfl,rfl,.refl s1.sub,.nil,cW _,hm,rfl⟩,?_⟩
    rintro i m acc H' ⟨done,bW,zs,ya,Hs',hds,hdl,hrl,st,ra,yl,hz,hy⟩
    obtain ⟨igo,istop,iyld⟩:=it H' Hs' (sn.trans st.all) st.sh st.sub
    cases bW with
    | nil =>
     left
     cases hz
     rw [bT] at hds hy
     subst hy hds
     exact ⟨istop i (by omega),fun p hp=>q p _ H' Hs' (s1.trans st) hp (.lst ra)⟩
    | cons d bW =>
     right
     have hil:i<ds.length:=by rw [hds,aO,aX];omega
     refine ⟨igo i hil,cz (by rw [ra.length];omega),fun x H2 hyl=>?_⟩
     obtain ⟨d',Hs2,hd,s2,r2⟩:=iyld i x H2 hil hyl
     have hdd:d'=d:=by
      rw [hds,bn (by omega)] at hd
      simp [hdl] at hd
      exact hd.symm
     subst hdd
     obtain ⟨o,zs',hf,hz',rfl⟩:=yu hz
     have hf:=Iw hf
     cases hb:V5 nt d' (nY nt ix ρ) with
     | no=>rw [hb] at hf;cases hf
     | ex x n=>rw [hb] at hf;cases hf
     | ok ρ' =>
      rw [hb,bind_ok] at hf
      refine E3 hnt ((fb.step st).step s2) r2 hb fun σ2 f2=>⟨ρ',?_⟩
      refine ⟨_,_,_,Hs2,f2,?_⟩
      cases ht:gt ρ' with
      | no=>rw [ht] at hf;cases hf
      | ex x n=>rw [ht] at hf;cases hf
      | ok b =>
       rw [ht,bind_ok] at hf
       intro H3 Hs3 s3
       cases b with
       | false =>
        rw [if_neg aS] at hf
        cases hf
        refine xQ ⟨bW.length,by rw [<- hrl];simp,done++[d'],bW,zs',ya,Hs3,by rw [hds];simp,by simp [hdl],rfl,(st.trans s2).trans s3,ra.same (s2.trans s3).sh,by omega,hz',by simpa using hy⟩
       | true =>
        rw [if_pos rfl] at hf
        refine BU ⟨ρ',_,_,_,Hs3,f2.step s3,?_⟩
        cases he:ge ρ' with
        | no=>rw [he] at hf;cases hf
        | ex x n=>rw [he] at hf;cases hf
        | ok y =>
         rw [he,bind_ok] at hf
         cases hf
         intro v H4 Hs4 s4 r4
         exact ⟨bW.length,by rw [<- hrl];simp,done++[d'],bW,zs',ya++[y],Hs4,by rw [hds];simp,by simp [hdl],rfl,((st.trans s2).trans s3).trans s4,(ra.same ((s2.trans s3).trans s4).sh).append (.cons r4 .nil),by simp;omega,hz',by rw [hy];simp⟩
  ·rw [if_neg hl] at q;exact q.elim
def C.comp (c:C) (N':List Str) (scope:eT) (cl:List (Str×ah)) (A:ah) (s₀:af) (H₀:Hp) (ex:List ah) (pn:List (ah×Obj)):C:=⟨cP c.X N' scope cl A s₀ H₀ ex pn,c.cls,E0⟩
variable {elt iter:b9}{ifs:List b9}{scope:eT}{N':List Str}{nt:Nat}{ix:List Nat}{gi:av->R (List D)}{gt:av->R Bool}{ge:av->R D}
def uJ (c:C) (N':List Str) (scope:eT) (nt:Nat) (tg:b9) (ifs:List b9) (elt:b9) (gt:av->R Bool) (ge:av->R D):Prop :=
 ∀ cl A s₀ H₀ ex pn,PG (c.comp N' scope cl A s₀ H₀ ex pn).X tg (Kg c.X.K nt)/\V6 (c.comp N' scope cl A s₀ H₀ ex pn) ifs gt/\JE (c.comp N' scope cl A s₀ H₀ ex pn) elt ge
theorem uJ.at (h:uJ c N' scope nt tg ifs elt gt ge):∀ cl A s₀ H₀ ex pn,PG (cP c.X N' scope cl A s₀ H₀ ex pn) tg (Kg c.X.K nt)/\OW (cP c.X N' scope cl A s₀ H₀ ex pn) ifs (fun σ H Q=>∃ ρ',K9 c.X.K c.cls E0 ρ' (gt ρ') σ H Q) /\
  PE (cP c.X N' scope cl A s₀ H₀ ex pn) elt (fun σ H Q=>∃ ρ',TR c.X.K c.cls E0 ρ' (ge ρ') σ H Q):=fun cl A s₀ H₀ ex pn=>by
 obtain ⟨h1,h2,h3⟩:=h cl A s₀ H₀ ex pn
 exact ⟨h1,fun pins s σ H Q I h_4=>by obtain ⟨ρ',q⟩:=h_4;exact h2 ρ' pins s σ H Q I q,fun pins s σ H Q I h_5=>by obtain ⟨ρ',q⟩:=h_5;exact h3 ρ' pins s σ H Q I q⟩
theorem dX (nt:Nat) (hnt:nt=1\/nt=2) (hc:c.X.calm=true) (S:nr c.X scope N' nt ix) (hi:JI c tg iter gi) (hb:uJ c N' scope nt tg ifs elt gt ge) (hs:∀ x,eg iter c.X.env x=pure x:=by intro _;rfl) :
  JN c (.ListComp elt [⟨tg,iter,ifs,0⟩] scope pos) (dS nt ix gi gt ge):=.of fun ρ=>qg (DI hc S (Cc hnt) (hi ρ) hb.at hs) fun σ H Q q=>Ix hnt q
theorem iX (i:Nat) {spos py:Pos} (nt:Nat) (hnt:nt=1\/nt=2) (hN:c.X.N.Nodup) (hc:c.X.calm=true) (S:nr c.X scope N' nt ix) (hi:JI c tg iter gi) (hb:uJ c N' scope nt tg ifs elt gt ge)
  (hiN:c.X.N[i]?=some x:=by rfl) (hy:c.X.env.scope.names.lookup x=some .local:=by rfl)
  (hsw:gZ (.ListComp elt [⟨tg,iter,ifs,0⟩] scope pos) (some (.Name x py)) spos.line c.X.env=pure true:=by rfl)
  (hs:∀ x,eg iter c.X.env x=pure x:=by intro _;rfl):JS c (.Assign [.Name x py] (.ListComp elt [⟨tg,iter,ifs,0⟩] scope pos) spos) (eO i (dS nt ix gi gt ge)):=.of fun ρ=>yf (Go hN hiN hy hc S (Cc hnt) (hi ρ) hb.at hsw hs) fun D σ H h_6=>by
 obtain ⟨H0,Hs0,la,Hs,f,q⟩:=h_6
 refine Ix (Q:=fun x H1=>D.nx (σ.set i (some x)) H1) hnt (sN f q fun d a o H1 Hs1 e1 f1 n1 r1=>?_)
 unfold eO at q
 rw [e1,bind_ok] at q
 exact q _ _ Hs1 (f1.setO i n1 r1)
end
end J
end
section
namespace J
open PySem L2
theorem MN {X:Cx}{st:cr}{t:TS} (h:PS X.nox st t):PS X st t:=fun pins s σ H D I hw =>
 bC (h pins s σ H D (I.wish _) hw) (fun _ _ q=>q.unwish) fun _ _ z=>eC z
def C.nox (c:C):C:=⟨c.X.nox,c.cls,E0⟩
def iY (k:D->av->R av) (b:av->R Fl):List D->av->R Fl
 | [],ρ=>.ok (.nx ρ)
 | d::r,ρ=>match k d ρ with
  | .ok ρ1=>match b ρ1 with
   | .ok (.nx ρ')=>iY k b r ρ'
   | .ok (.ct ρ')=>iY k b r ρ'
   | .ok (.bk ρ')=>.ok (.nx ρ')
   | .ok (.rt d)=>.ok (.rt d)
   | _=>.no
  | _=>.no
def Cd (i:Nat) (ρ:av):av:=match ρ[i]? with
 | some (Sl.own d)=>ρ.set i (.lck d)
 | _=>ρ
def yw (i:Nat) (ρ0 ρ:av):av:=match ρ0[i]?,ρ[i]? with
 | some (Sl.own _),some (Sl.lck d)=>ρ.set i (.own d)
 | _,_=>ρ
def XJ (i:Nat) (ρ0:av):R Fl->R Fl
 | .ok (.nx ρ)=>.ok (.nx (yw i ρ0 ρ))
 | .ok (.bk ρ)=>.no
 | .ok (.ct ρ)=>.no
 | r=>r
section
variable {K:a8}{cls:Str->ah}{E:XK}
inductive XM (K:a8) (cls:Str->ah) (E:XK) (H0 Hs0:Hp) (la:Nat->Option ah) (D':sX) (kt:D->av->R av) (gb:av->R Fl) (ds:List D) (i m:Nat) (σ:St) (H:Hp):Prop
 | mk (done bW ρ Hs:_) (h0:ds=done++bW) (h1:done.length=i) (h2:bW.length=m) (h3:Fr K H0 Hs0 la ρ σ H Hs) (h4:nX K cls E H0 Hs0 la D' (iY kt gb bW ρ)):XM K cls E H0 Hs0 la D' kt gb ds i m σ H
theorem MO {J:It}{Hn H0 Hs0:Hp}{la:Nat->Option ah}{ds:List D}{kt:D->av->R av}{gb:av->R Fl}{ρ:av}{σ:St}{H Hs:Hp}{D':sX}{tg:TG}{tb:TS}
  (it:MJ K J ds Hn Hs0) (hn:du Hn H0) (f:Fr K H0 Hs0 la ρ σ H Hs)
  (htg:∀ ρ d v σ H Q,Tb K ρ d (kt d ρ) v σ H Q->tg v σ H Q) (htb:∀ ρ D σ H,SR K cls E0 ρ (gb ρ) D σ H->tb D σ H)
  (q:nX K cls E H0 Hs0 la D' (iY kt gb ds ρ)) :
  Wt tg tb D' σ J H:=by
 refine ⟨XM K cls E H0 Hs0 la D' kt gb ds,⟨ds.length,[],ds,ρ,Hs,rfl,rfl,rfl,f,q⟩,?_⟩
 rintro i m σ H ⟨done,bW,ρ,Hs,hds,hdl,hrl,f,q⟩
 obtain ⟨igo,istop,iyld⟩:=it H Hs (hn.trans f.st.all) f.st.sh f.st.sub
 cases bW with
 | nil =>
  rw [bT] at hds
  subst hds
  exact .inl ⟨istop i (by omega),q σ H Hs f⟩
 | cons d bW =>
  have hil:i<ds.length:=by rw [hds,aO,aX];omega
  refine .inr ⟨igo i hil,fun σ' H'=>∃ ρ' Hs',Fr K H0 Hs0 la ρ' σ' H' Hs'/\nX K cls E H0 Hs0 la D' (iY kt gb bW ρ'),fun σ' H' ⟨ρ',Hs',f',q'⟩=>⟨bW.length,by rw [<- hrl];simp,done++[d],bW,ρ',Hs',by rw [hds];simp,by simp [hdl],rfl,f',q'⟩,fun x H2 hyl=>?_⟩
  obtain ⟨d',Hs2,hd,s2,r2⟩:=iyld i x H2 hil hyl
  have hdd:d'=d:=by
   rw [hds,bn (by omega)] at hd
   simp [hdl] at hd
   exact hd.symm
  subst hdd
  unfold iY at q
  refine htg ρ d' x σ H2 _ ⟨H0,Hs0,la,Hs2,f.step s2,r2,?_⟩
  cases hk:kt d' ρ with
  | ex c n=>rw [hk] at q;exact q
  | no=>rw [hk] at q;exact q
  | ok ρ1 =>
   rw [hk] at q
   intro σ2 f2
   refine htb ρ1 _ σ2 H2 ⟨H0,Hs0,la,Hs2,f2,?_⟩
   cases hg:gb ρ1 with
   | no=>simp only [hg] at q;exact q.elim
   | ex c n=>simp only [hg] at q;exact q.elim
   | ok fl =>
    simp only [hg] at q
    cases fl with
    | nx ρ'=>exact fun σ' H' Hs' f'=>⟨ρ',Hs',f',q⟩
    | ct ρ'=>exact fun σ' H' Hs' f'=>⟨ρ',Hs',f',q⟩
    | bk ρ'=>exact fun σ' H' Hs' f'=>q σ' H' Hs' f'
    | rt d=>exact q
def sj (A B:Hp):Hp:=fun b=>match A b with
 | some o=>some o
 | none=>B b
theorem jz {A B:Hp}:du A (sj A B):=fun b o e=>by unfold sj;rw [e]
theorem j6 {A B:Hp}{b:ah} (h:A b=none):sj A B b=B b:=by unfold sj;rw [h]
theorem E5 {A B H:Hp} (h1:du A H) (h2:du B H):du (sj A B) H:=fun b o e=>by
 cases h:A b with
 | some u=>unfold sj at e;rw [h] at e;cases e;exact h1 b o h
 | none=>rw [j6 h] at e;exact h2 b o e
theorem MP {A B H:Hp} (h1:du A H) (h2:du B H):du B (sj A B):=fun b o e=>by
 cases h:A b with
 | some u =>
  unfold sj
  rw [h]
  have:=h1 b u h
  rw [h2 b o e] at this
  exact this.symm
 | none=>rw [j6 h];exact e
theorem Fr.into {H0 Hs0 H Hs:Hp}{la:Nat->Option ah}{ρ:av}{σ:St} (f:Fr K H0 Hs0 la ρ σ H Hs):Fr K (sj H0 Hs) Hs la ρ σ H Hs:=by
 have sub:=E5 f.st.all f.st.sub
 refine ⟨⟨sub,.refl _,f.st.sub,fun a o e _ z=>z⟩,f.len,f.sh,fun i d h=>?_,fun i d h=>?_,f.dj,fun i a e=>let ⟨o,k⟩:=f.lh i a e;⟨o,jz _ _ k⟩,fun i d h=>?_,f.u2⟩
 ·obtain ⟨a,o,h1,h2,h3,h4,h5⟩:=f.ow i d h
  exact ⟨a,o,h1,h2,h3,by rw [j6 h4];exact h3,h5⟩
 ·obtain ⟨a,o,h1,h2,h3,h4,h5,h6⟩:=f.lk i d h
  exact ⟨a,o,h1,h2,h3,h4,jz _ _ h5,h6⟩
 ·obtain ⟨a,as,O⟩:=f.o2 i d h
  exact ⟨a,as,O.at_,O.ob,O.nd,fun b hb=>⟨(O.out b hb).1,by rw [j6 (O.out b hb).2];exact (O.out b hb).1⟩,O.dj,O.inn⟩
theorem cQ.outof {H0 Hs0 H1 Hs1 H' Hs':Hp} (s:cQ H0 Hs0 H1 Hs1) (t:cQ (sj H0 Hs1) Hs1 H' Hs'):cQ H0 Hs0 H' Hs' :=
 ⟨jz.trans t.all,s.sh.trans t.sh,t.sub,fun a o e n z=>t.out a o (jz _ _ e) n (s.out a o e n z)⟩
theorem Fr.outof {H0 Hs0 H1 Hs1 H' Hs':Hp}{la:Nat->Option ah}{ρ1 ρ:av}{σ1 σ:St} (f1:Fr K H0 Hs0 la ρ1 σ1 H1 Hs1) (f:Fr K (sj H0 Hs1) Hs1 la ρ σ H' Hs'):Fr K H0 Hs0 la ρ σ H' Hs':=by
 refine ⟨f1.st.outof f.st,f.len,f.sh,fun i d h=>?_,fun i d h=>?_,f.dj,f1.lh,fun i d h=>?_,f.u2⟩
 ·obtain ⟨a,o,h1,h2,h3,h4,h5⟩:=f.ow i d h
  exact ⟨a,o,h1,h2,h3,jz.free h4,h5⟩
 ·obtain ⟨a,o,h1,h2,h3,h4,h5,h6⟩:=f.lk i d h
  obtain ⟨o',e⟩:=f1.lh i a h2
  have e':=jz (B:=Hs1) _ _ e
  rw [h5] at e'
  cases e'
  exact ⟨a,o,h1,h2,h3,h4,e,h6⟩
 ·obtain ⟨a,as,O⟩:=f.o2 i d h
  exact ⟨a,as,O.at_,O.ob,O.nd,fun b hb=>⟨(O.out b hb).1,jz.free (O.out b hb).2⟩,O.dj,O.inn⟩
end
end J
end
section
namespace J
open PySem L2
section
variable {K:a8}{cls:Str->ah}{E:XK}
theorem nX.into {H0 Hs0 H1 Hs1:Hp}{la:Nat->Option ah}{ρ1:av}{σ1:St}{D':sX}{r:R Fl} (f1:Fr K H0 Hs0 la ρ1 σ1 H1 Hs1) (q:nX K cls E H0 Hs0 la D' r):nX K cls E (sj H0 Hs1) Hs1 la D' r:=by
 cases r with
 | no=>exact q
 | ex c n=>exact fun H' Hs' s=>q H' Hs' (f1.st.outof s)
 | ok fl =>
  cases fl with
  | nx ρ=>exact fun σ' H' Hs' f=>q σ' H' Hs' (f1.outof f)
  | bk ρ=>exact fun σ' H' Hs' f=>q σ' H' Hs' (f1.outof f)
  | ct ρ=>exact fun σ' H' Hs' f=>q σ' H' Hs' (f1.outof f)
  | rt d=>exact fun v H' Hs' s r=>q v H' Hs' (f1.st.outof s) r
theorem Fr.lock {H0 Hs0 H Hs:Hp}{la:Nat->Option ah}{ρ:av}{σ:St} (f:Fr K H0 Hs0 la ρ σ H Hs) {i:Nat}{d:D}{a:ah}{o:HO} (hi:ρ[i]?=some (Sl.own d)) (k1:σ[i]?=some (some (V.ref a))) (k2:H a=some o) (k3:Hs a=none) (k4:H0 a=none) (k5:mn K Hs o d) :
  Fr K (sj H0 (upd Hs a o)) Hs (fun j=>if j=i then some a else la j) (ρ.set i (.lck d)) σ H Hs:=by
 have hil:i<ρ.length:=(List.getElem?_eq_some_iff.mp hi).1
 have sub:du (upd Hs a o) H:=fun b u q=>by
  by_cases hb:b=a
  ·subst hb;rw [aV] at q;cases q;exact k2
  ·rw [aT hb] at q;exact f.st.sub b u q
 have nx:∀ {j:Nat}{s:Sl},(∀ d,s≠.lck d)->(ρ.set i (.lck d))[j]?=some s->ρ[j]?=some s/\i≠j:=fun {j s} hs e=>by
  by_cases hj:i=j
  ·subst hj
   rw [aH hil] at e;exact absurd (bJ e).symm (hs d)
  ·rw [ak hj] at e;exact ⟨e,hj⟩
 refine ⟨⟨E5 f.st.all sub,.refl _,f.st.sub,fun a o e _ z=>z⟩,by simp [f.len],fun j e h=>?_,fun j e h=>?_,fun j e h=>?_,fun j k d1 d2 b h1 h2 h3 h4=>?_,fun j b h=>?_,fun j e h=>?_,fun j k d1 d2 h1 h2=>?_⟩
 ·obtain ⟨h,_⟩:=nx (fun _ z=>by cases z) h
  exact f.sh j e h
 ·obtain ⟨h,hj⟩:=nx (fun _ z=>by cases z) h
  obtain ⟨b,u,q1,q2,q3,q4,q5⟩:=f.ow j e h
  refine ⟨b,u,q1,q2,q3,?_,q5⟩
  rw [j6 q4,aT (fun z=>hj ?_)]
  ·exact q3
  ·subst z
   exact f.dj i j d e b hi h k1 q1
 ·by_cases hj:i=j
  ·subst hj
   rw [aH hil] at h
   cases h
   exact ⟨a,o,k1,if_pos rfl,k2,k3,by rw [j6 k4,aV],k5⟩
  ·rw [ak hj] at h
   obtain ⟨b,u,q1,q2,q3,q4,q5,q6⟩:=f.lk j e h
   exact ⟨b,u,q1,by rw [if_neg (cZ hj)];exact q2,q3,q4,jz _ _ q5,q6⟩
 ·obtain ⟨h1,_⟩:=nx (fun _ z=>by cases z) h1
  obtain ⟨h2,_⟩:=nx (fun _ z=>by cases z) h2
  exact f.dj j k d1 d2 b h1 h2 h3 h4
 ·by_cases hj:j=i
  ·simp only [if_pos hj] at h
   cases h
   exact ⟨o,by rw [j6 k4,aV]⟩
  ·simp only [if_neg hj] at h
   obtain ⟨u,e⟩:=f.lh j b h
   exact ⟨u,jz _ _ e⟩
 ·obtain ⟨h,hj⟩:=nx (fun _ z=>by cases z) h
  obtain ⟨b,as,O⟩:=f.o2 j e h
  refine ⟨b,as,O.at_,O.ob,O.nd,fun c hc=>⟨(O.out c hc).1,?_⟩,fun c hc k e' hk=>O.dj c hc k e' (nx (fun _ z=>by cases z) hk).1,O.inn⟩
  rw [j6 (O.out c hc).2,aT (fun z=>?_)]
  ·exact (O.out c hc).1
  ·subst z
   exact O.dj c hc i d hi k1
 ·exact f.u2 j k d1 d2 (nx (fun _ z=>by cases z) h1).1 (nx (fun _ z=>by cases z) h2).1
theorem cQ.unlock {H0 Hs0 H Hs H' Hs':Hp}{a:ah}{o:HO} (s:cQ H0 Hs0 H Hs) (t:cQ (sj H0 (upd Hs a o)) Hs H' Hs'):cQ H0 Hs0 H' Hs' :=
 ⟨jz.trans t.all,s.sh.trans t.sh,t.sub,fun b u e n z=>t.out b u (jz _ _ e) n (s.out b u e n z)⟩
theorem Fr.unlock {H0 Hs0 H Hs H' Hs':Hp}{la:Nat->Option ah}{ρ ρ':av}{σ σ':St} (f:Fr K H0 Hs0 la ρ σ H Hs) {i:Nat}{d:D}{a:ah}{o:HO} (hi:ρ[i]?=some (Sl.own d)) (k4:H0 a=none)
  (f':Fr K (sj H0 (upd Hs a o)) Hs (fun j=>if j=i then some a else la j) ρ' σ' H' Hs'):Fr K H0 Hs0 la (yw i ρ ρ') σ' H' Hs':=by
 have st:=f.st.unlock f'.st
 have own:∀ (j:Nat) (e:D),ρ'[j]?=some (Sl.own e)->∃ b u,σ'[j]?=some (some (V.ref b))/\H' b=some u/\Hs' b=none/\H0 b=none/\mn K Hs' u e/\(sj H0 (upd Hs a o)) b=none:=fun j e h=>by
  obtain ⟨b,u,q1,q2,q3,q4,q5⟩:=f'.ow j e h
  exact ⟨b,u,q1,q2,q3,jz.free q4,q5,q4⟩
 have lck:∀ (j:Nat) (e:D),j≠i->ρ'[j]?=some (Sl.lck e)->∃ b u,σ'[j]?=some (some (V.ref b))/\la j=some b/\H' b=some u/\Hs' b=none/\H0 b=some u/\mn K Hs' u e:=fun j e hj h=>by
  obtain ⟨b,u,q1,q2,q3,q4,q5,q6⟩:=f'.lk j e h
  simp only [if_neg hj] at q2
  obtain ⟨u',e'⟩:=f.lh j b q2
  have:=jz (B:=upd Hs a o) _ _ e'
  rw [q5] at this
  cases this
  exact ⟨b,u,q1,q2,q3,q4,e',q6⟩
 have two:∀ (j:Nat) (e:List (List D)),ρ'[j]?=some (Sl.ow2 e)->∃ b as,O2 K H0 H' Hs' ρ' σ' j e b as:=fun j e h=>by
  obtain ⟨b,as,O⟩:=f'.o2 j e h
  exact ⟨b,as,O.at_,O.ob,O.nd,fun c hc=>⟨(O.out c hc).1,jz.free (O.out c hc).2⟩,O.dj,O.inn⟩
 unfold yw
 cases hl:ρ'[i]? with
 | none =>
  simp only [hi]
  refine ⟨st,f'.len,f'.sh,fun j e h=>let ⟨b,u,q1,q2,q3,q4,q5,_⟩:=own j e h;⟨b,u,q1,q2,q3,q4,q5⟩,fun j e h=>lck j e (fun z=>by rw [z,hl] at h;cases h) h,f'.dj,f.lh,two,f'.u2⟩
 | some s =>
  cases s with
  | no=>simp only [hi];exact ⟨st,f'.len,f'.sh,fun j e h=>let ⟨b,u,q1,q2,q3,q4,q5,_⟩:=own j e h;⟨b,u,q1,q2,q3,q4,q5⟩,fun j e h=>lck j e (fun z=>by rw [z,hl] at h;cases h) h,f'.dj,f.lh,two,f'.u2⟩
  | shr _=>simp only [hi];exact ⟨st,f'.len,f'.sh,fun j e h=>let ⟨b,u,q1,q2,q3,q4,q5,_⟩:=own j e h;⟨b,u,q1,q2,q3,q4,q5⟩,fun j e h=>lck j e (fun z=>by rw [z,hl] at h;cases h) h,f'.dj,f.lh,two,f'.u2⟩
  | own _=>simp only [hi];exact ⟨st,f'.len,f'.sh,fun j e h=>let ⟨b,u,q1,q2,q3,q4,q5,_⟩:=own j e h;⟨b,u,q1,q2,q3,q4,q5⟩,fun j e h=>lck j e (fun z=>by rw [z,hl] at h;cases h) h,f'.dj,f.lh,two,f'.u2⟩
  | ow2 _=>simp only [hi];exact ⟨st,f'.len,f'.sh,fun j e h=>let ⟨b,u,q1,q2,q3,q4,q5,_⟩:=own j e h;⟨b,u,q1,q2,q3,q4,q5⟩,fun j e h=>lck j e (fun z=>by rw [z,hl] at h;cases h) h,f'.dj,f.lh,two,f'.u2⟩
  | lck d' =>
   simp only [hi]
   have hil:i<ρ'.length:=(List.getElem?_eq_some_iff.mp hl).1
   have nx:∀ {j:Nat}{s:Sl},(∀ d,s≠.own d)->(ρ'.set i (.own d'))[j]?=some s->ρ'[j]?=some s/\i≠j:=fun {j s} hs e=>by
    by_cases hj:i=j
    ·subst hj
     rw [aH hil] at e;exact absurd (bJ e).symm (hs d')
    ·rw [ak hj] at e;exact ⟨e,hj⟩
   obtain ⟨b,u,q1,q2,q3,q4,q5,q6⟩:=f'.lk i d' hl
   simp only [if_pos rfl] at q2
   cases q2
   have ne:∀ (j:Nat) (e:D),ρ'[j]?=some (Sl.own e)->σ'[j]?≠some (some (V.ref a)):=fun j e h z=>by
    obtain ⟨b,u,p1,_,_,_,_,p6⟩:=own j e h
    rw [z] at p1
    cases p1
    rw [q5] at p6;cases p6
   refine ⟨st,by simp [f'.len],fun j e h=>?_,fun j e h=>?_,fun j e h=>?_,fun j k d1 d2 c h1 h2 h3 h4=>?_,f.lh,fun j e h=>?_,fun j k d1 d2 h1 h2=>?_⟩
   ·obtain ⟨h,_⟩:=nx (fun _ z=>by cases z) h
    exact f'.sh j e h
   ·by_cases hj:i=j
    ·subst hj
     rw [aH hil] at h
     cases h
     exact ⟨a,u,q1,q3,q4,k4,q6⟩
    ·rw [ak hj] at h
     obtain ⟨b,u,p1,p2,p3,p4,p5,_⟩:=own j e h
     exact ⟨b,u,p1,p2,p3,p4,p5⟩
   ·obtain ⟨h,hj⟩:=nx (fun _ z=>by cases z) h
    exact lck j e (cZ hj) h
   ·by_cases hj:i=j
    ·by_cases hk:i=k
     ·exact hj.symm.trans hk
     ·rw [ak hk] at h2
      subst hj
      rw [q1] at h3
      cases h3
      exact (ne k d2 h2 h4).elim
    ·rw [ak hj] at h1
     by_cases hk:i=k
     ·subst hk
      rw [q1] at h4
      cases h4
      exact (ne j d1 h1 h3).elim
     ·rw [ak hk] at h2
      exact f'.dj j k d1 d2 c h1 h2 h3 h4
   ·obtain ⟨h,hj⟩:=nx (fun _ z=>by cases z) h
    obtain ⟨b,as,O⟩:=two j e h
    refine ⟨b,as,O.at_,O.ob,O.nd,O.out,fun c hc k e' hk=>?_,O.inn⟩
    by_cases nk:i=k
    ·subst nk
     intro z
     rw [q1] at z
     cases z
     obtain ⟨b',as',O'⟩:=f'.o2 j e h
     have hh:=O.at_
     rw [O'.at_] at hh
     cases hh
     have hs:as'=as:=by
      have h1:=O.ob
      rw [O'.ob] at h1
      injection h1 with h1
      injection h1 with h1
      exact Ld (fun x y z=>by cases z;rfl) |>.mp h1
     subst hs
     have:=(O'.out _ hc).2
     rw [q5] at this;cases this
    ·rw [ak nk] at hk
     exact O.dj c hc k e' hk
   ·exact f'.u2 j k d1 d2 (nx (fun _ z=>by cases z) h1).1 (nx (fun _ z=>by cases z) h2).1
end
section
variable {c:C}{e a b iter tg:b9}{g ga gb:av->R D}{pos p:Pos}{gi:av->R (List D)}{body:List cr}{x:Str}{kt:D->av->R av}{gbd:av->R Fl}
def lK (gi:av->R (List D)) (kt:D->av->R av) (gb:av->R Fl):av->R Fl:=fun ρ=>match gi ρ with
 | .ok ds=>iY kt gb ds ρ
 | _=>.no
theorem kN (hc:c.X.calm=true) (hi:Lh c.nox tg iter gi) (hg:JG c.nox tg kt) (hb:Ir c.nox body gbd) (hs:∀ x,eg iter c.X.env x=pure x:=by intro _;rfl):JS c (.For tg iter body [] pos) (lK gi kt gbd):=.of fun ρ=>by
 refine MN (yf (LQ vz hc (hi ρ) (g:=fun v σ H Q=>∃ ρ d,Tb c.X.K ρ d (kt d ρ) v σ H Q) (tb:=fun D σ H=>∃ ρ,SR c.X.K c.cls E0 ρ (gbd ρ) D σ H) ?_ ?_ hs) fun D σ H ⟨H0,Hs0,la,Hs,f,q⟩=>?_)
 ·exact fun pins s σ H v u Q I r h_0=>by obtain ⟨ρ,d,q⟩:=h_0;exact hg ρ d pins s σ H v u Q I r q
 ·exact fun pins s σ H D I h_1=>by obtain ⟨ρ,q⟩:=h_1;exact hb ρ pins s σ H D I q
 ·refine ⟨H0,Hs0,la,Hs,f,?_⟩
  unfold lK at q
  cases hr:gi ρ with
  | no=>rw [hr] at q;exact q
  | ex x n=>rw [hr] at q;exact q.elim
  | ok ds =>
   rw [hr] at q
   intro J H1 Hs1 s1 it
   have f1:=f.step s1
   exact MO (E:=c.E) (cls:=c.cls) (kt:=kt) (gb:=gbd) (tg:=fun v σ H Q=>∃ ρ d,Tb c.X.K ρ d (kt d ρ) v σ H Q) (tb:=fun D σ H=>∃ ρ,SR c.X.K c.cls E0 ρ (gbd ρ) D σ H) it (MP f1.st.all f1.st.sub) f1.into (fun ρ d v σ H Q h=>⟨ρ,d,h⟩) (fun ρ D σ H h=>⟨ρ,h⟩) (nX.into f1 q)
def uK (i:Nat) (kt:D->av->R av) (gb:av->R Fl):av->R Fl:=fun ρ=>match ρ[i]? with
 | some (Sl.own (.list ds))=>XJ i ρ (iY kt gb ds (Cd i ρ))
 | _=>lK (jq fun ρ=>bj ρ i) kt gb ρ
theorem yx {kt:D->av->R av}{gb:av->R Fl}:∀ (ds:List D) (ρ:av) (fl:Fl),iY kt gb ds ρ=.ok fl->(∃ ρ',fl=.nx ρ')\/∃ d,fl=.rt d
 | [],ρ,fl,h=>by cases h;exact .inl ⟨_,rfl⟩
 | d::r,ρ,fl,h=>by
  unfold iY at h
  split at h
  ·split at h
   ·exact yx r _ _ h
   ·exact yx r _ _ h
   ·cases h;exact .inl ⟨_,rfl⟩
   ·cases h;exact .inr ⟨_,rfl⟩
   ·cases h
  ·cases h
theorem Ce {kt:D->av->R av}{gb:av->R Fl}:∀ (ds:List D) (ρ:av) (c:Str) (n:Option D),iY kt gb ds ρ≠.ex c n
 | [],ρ,c,n,h=>by cases h
 | d::r,ρ,c,n,h=>by
  unfold iY at h
  split at h
  ·split at h
   ·exact Ce r _ _ _ h
   ·exact Ce r _ _ _ h
   ·cases h
   ·cases h
   ·cases h
  ·cases h
theorem Qb (i:Nat) (hc:c.X.calm=true) (hg:JG c.nox tg kt) (hb:Ir c.nox body gbd) (hN:c.X.N[i]?=some x:=by rfl) (hv:Lf c.X.env.scope x:=by first | exact gx rfl | exact d_ (gx rfl) | exact d_ (d_ rfl)) (hd:(x == ("__debug__" : Str))=false:=by decide)
  (hcd:(x == ("__classdict__" : Str))=false:=by decide) (hs:∀ y,eg (.Name x p) c.X.env y=pure y:=by intro _;rfl):JS c (.For tg (.Name x p) body [] pos) (uK i kt gbd):=.of fun ρ=>by
 by_cases ho:∃ ds,ρ[i]?=some (Sl.own (.list ds))
 ·obtain ⟨ds,ho⟩:=ho
  refine MN (yf (LQ (tg:=tg) vz hc (uo (X:=c.nox.X) (nl hN hv hd hcd)) (g:=fun v σ H Q=>∃ ρ d,Tb c.X.K ρ d (kt d ρ) v σ H Q) (tb:=fun D σ H=>∃ ρ,SR c.X.K c.cls E0 ρ (gbd ρ) D σ H) ?_ ?_ hs) fun D σ H ⟨H0,Hs0,la,Hs,f,q⟩=>?_)
  ·exact fun pins s σ H v u Q I r h_2=>by obtain ⟨ρ,d,q⟩:=h_2;exact hg ρ d pins s σ H v u Q I r q
  ·exact fun pins s σ H D I h_3=>by obtain ⟨ρ,q⟩:=h_3;exact hb ρ pins s σ H D I q
  ·obtain ⟨a,o,k1,k2,k3,k4,k5⟩:=f.ow i _ ho
   cases k5 with
   | @lst vs _ r =>
    refine ⟨_,k1,a,rfl,⟨_,.of k2⟩,?_⟩
    have hn:lF c.X.K (upd Hs a (.lst vs)) a vs:=.of aV
    unfold uK at q
    simp only [ho] at q
    have fl:=f.lock ho k1 k2 k3 k4 (.lst r)
    have sub:du (upd Hs a (.lst vs)) H:=fun b u q=>by
     by_cases hb:b=a
     ·subst hb;rw [aV] at q;cases q;exact k2
     ·rw [aT hb] at q;exact f.st.sub b u q
    refine MO (E:=c.E) (cls:=c.cls) (kt:=kt) (gb:=gbd) (ρ:=Cd i ρ) (Hs:=Hs) (la:=fun i'=>if i'=i then some a else la i') (tg:=fun v σ H Q=>∃ ρ d,Tb c.X.K ρ d (kt d ρ) v σ H Q) (tb:=fun D σ H=>∃ ρ,SR c.X.K c.cls E0 ρ (gbd ρ) D σ H) (Cb hn r) (MP f.st.all sub) ?_ (fun ρ d v σ H Q h=>⟨ρ,d,h⟩) (fun ρ D σ H h=>⟨ρ,h⟩) ?_
    ·unfold Cd
     rw [ho]
     exact fl
    ·cases hr:iY kt gbd ds (Cd i ρ) with
     | no=>rw [hr] at q;exact q
     | ex c n=>exact (Ce _ _ _ _ hr).elim
     | ok fl =>
      rw [hr] at q
      rcases yx _ _ _ hr with ⟨ρ',rfl⟩ | ⟨d,rfl⟩
      ·exact fun σ' H' Hs' f'=>q σ' H' Hs' (f.unlock ho k4 f')
      ·exact fun v H' Hs' s r=>q v H' Hs' (f.st.unlock s) r
 ·have e:uK i kt gbd ρ=lK (jq fun ρ=>bj ρ i) kt gbd ρ:=by
   unfold uK
   split
   ·rename_i ds h;exact (ho ⟨ds,h⟩).elim
   ·rfl
  rw [e]
  exact kN hc (xr (c:=c.nox) (ai (c:=c.nox) i hN hv hd hcd)) hg hb hs ρ
def iL (t:av->R Bool) (b:av->R Fl):Nat->av->R Fl
 | 0,_=>.no
 | n + 1,ρ=>match t ρ with
  | .ok true=>match b ρ with
   | .ok (.nx ρ')=>iL t b n ρ'
   | .ok (.ct ρ')=>iL t b n ρ'
   | .ok (.bk ρ')=>.ok (.nx ρ')
   | .ok (.rt d)=>.ok (.rt d)
   | _=>.no
  | .ok false=>.ok (.nx ρ)
  | _=>.no
theorem E6 (n:Nat) {t:b9}{gt:av->R Bool} (ht:JT c.nox t gt) (hb:Ir c.nox body gbd):JS c (.While t body [] pos) (iL gt gbd n):=.of fun ρ=>by
 refine MN (yf (LN vz (tc:=fun σ H Q=>∃ ρ,K9 c.X.K c.cls E0 ρ (gt ρ) σ H Q) (tb:=fun D σ H=>∃ ρ,SR c.X.K c.cls E0 ρ (gbd ρ) D σ H) ?_ ?_) fun D σ H ⟨H0,Hs0,la,Hs,f,q⟩=>?_)
 ·exact fun pins s σ H Q I h_4=>by obtain ⟨ρ,q⟩:=h_4;exact ht ρ pins s σ H Q I q
 ·exact fun pins s σ H D I h_5=>by obtain ⟨ρ,q⟩:=h_5;exact hb ρ pins s σ H D I q
 ·refine ⟨fun m σ H=>∃ ρ Hs,Fr c.X.K H0 Hs0 la ρ σ H Hs/\nX c.X.K c.cls c.E H0 Hs0 la D (iL gt gbd m ρ),⟨n,ρ,Hs,f,q⟩,?_⟩
  rintro m σ H ⟨ρ,Hs,f,q⟩
  cases m with
  | zero=>exact q.elim
  | succ m =>
   unfold iL at q
   refine ⟨ρ,H0,Hs0,la,Hs,f,?_⟩
   cases hg:gt ρ with
   | no=>rw [hg] at q;exact q
   | ex x n=>rw [hg] at q;exact q.elim
   | ok b =>
    rw [hg] at q
    intro H1 Hs1 s1
    cases b with
    | false=>exact xQ (q σ H1 Hs1 (f.step s1))
    | true =>
     refine BU ⟨fun σ' H'=>∃ ρ' Hs',Fr c.X.K H0 Hs0 la ρ' σ' H' Hs'/\nX c.X.K c.cls c.E H0 Hs0 la D (iL gt gbd m ρ'),fun σ' H' h=>⟨m,dU _,h⟩,ρ,H0,Hs0,la,Hs1,f.step s1,?_⟩
     cases hb':gbd ρ with
     | no=>simp only [hb'] at q;exact q
     | ex x n=>simp only [hb'] at q;exact q.elim
     | ok fl =>
      simp only [hb'] at q
      cases fl with
      | nx ρ'=>exact fun σ' H' Hs' f'=>⟨ρ',Hs',f',q⟩
      | ct ρ'=>exact fun σ' H' Hs' f'=>⟨ρ',Hs',f',q⟩
      | bk ρ'=>exact fun σ' H' Hs' f'=>q σ' H' Hs' f'
      | rt d=>exact q
end
end J
end
section
namespace J
open PySem L2
section
variable {c:C}{e k:b9}{g gk:av->R D}{pos p apos cpos:Pos}{x:Str}
def nA (i:Nat) (g:av->R D):av->R Fl:=fun ρ=>match ρ[i]? with
 | some (Sl.own (.list ds))=>(g ρ).bind fun d=>if ds.length<1000 then .ok (.nx (ρ.set i (.own (.list (ds++[d]))))) else .no
 | _=>.no
theorem jT (i:Nat) (h:JE c e g) (hN:c.X.N[i]?=some x:=by rfl) (hv:Lf c.X.env.scope x:=by first | exact gx rfl | exact d_ (gx rfl) | exact d_ (d_ rfl)) (hd:(x == ("__debug__" : Str))=false:=by decide)
  (hcd:(x == ("__classdict__" : Str))=false:=by decide)
  (hbase:Js (.Name x p) "append" c.X.env (dz (.Name x p) c.X.env)=dz (.Name x p) c.X.env:=by rfl)
  (hfew:((fO cpos (az [e] c.X.env)).all (fun x=>!x.1) && (backToKw cpos (OY [] c.X.env)).all (fun x=>x.1.isSome)
   && decide ([e].length + ([] : List zO).length + (if ([] : List zO).isEmpty then 0 else 1)<30))=true:=by rfl)
  (hline:(apos.endLine == cpos.line)=true:=by rfl) (hst:az [e] c.X.env=(false,dz e c.X.env)::az [] c.X.env:=by rfl) (hplain:(fO cpos (az [] c.X.env)).any (·.1)=false:=by rfl)
  (hs:gZ (.Call (.Attribute (.Name x p) "append" apos) [e] [] cpos) none pos.line c.X.env=pure false:=by rfl) :
  JS c (.Expr (.Call (.Attribute (.Name x p) "append" apos) [e] [] cpos) pos) (nA i g):=.of fun ρ=>by
 refine yf (um (AL eX zU zV AM (nl hN hv hd hcd) (cb (h ρ) eY hst) hbase hfew hline hst hplain) hs) fun D σ H h_0=>?_
 obtain ⟨H0,Hs0,la,Hs,f,q⟩:=h_0
 replace q:nX c.X.K c.cls c.E H0 Hs0 la D (nA i g ρ):=q
 unfold nA at q
 split at q
 ·rename_i ds ho
  obtain ⟨a,o,k1,k2,k3,k4,k5⟩:=f.ow i _ ho
  cases k5 with
  | @lst vs _ r =>
   refine ⟨_,k1,.inl ⟨rfl,_,.of k2⟩,?_⟩
   refine sE f q fun d v H1 Hs1 e1 s1 f1 r1=>?_
   rw [e1,bind_ok] at q
   by_cases hl:ds.length<1000
   ·rw [if_pos hl] at q
    have r':=r.same s1.sh
    exact ⟨a,vs,v,rfl,rfl,s1.all _ _ k2,cz (by rw [r.length];omega),q _ _ Hs1 (f1.write i ho k1 (.lst (r'.append (.cons r1 .nil))))⟩
   ·rw [if_neg hl] at q;exact q.elim
 ·exact q.elim
def nZ:D->Option cO
 | .int i=>some (.inl i)
 | .str x=>some (.inr x)
 | _=>none
theorem uL {d:D}{y:cO} (h:nZ d=some y):d=kD y:=by
 cases d<;>cases h<;>rfl
@[simp] theorem keyOf_of (y:cO):nZ (kD y)=some y:=by cases y<;>rfl
def sk (kvs:List (D×D)) (k d:D):List (D×D):=if kvs.any (fun kv=>aZ kv.1 k) then kvs.map (fun kv=>if aZ kv.1 k then (kv.1,d) else kv) else kvs++[(k,d)]
theorem Cf (a b:cO):aZ (kD a) (kD b)=decide (a=b):=by
 cases a<;>cases b<;>simp [kD,aZ,qZ]
theorem RDk.any {K:a8}{H:Hp}{kvs:List (cO×V)} (y:cO):∀ {ds:List (D×D)},RDk K H kvs ds->(ds.any fun kv=>aZ kv.1 (kD y))=kvs.any fun kv=>decide (kv.1=y):=by
 induction kvs with
 | nil=>intro ds h;cases h;rfl
 | cons x r ih=>intro ds h;cases h with | cons h t=>rw [e6,e6,ih t,Cf]
theorem RDk.repl {K:a8}{H:Hp} (y:cO) {v:V}{d:D} (rv:RD K H v d):∀ {kvs:List (cO×V)}{ds:List (D×D)},RDk K H kvs ds ->
  RDk K H (kvs.map fun kv=>if kv.1=y then (kv.1,v) else kv) (ds.map fun kv=>if aZ kv.1 (kD y) then (kv.1,d) else kv)
 | _,_,.nil=>.nil
 | _,_,.cons (k:=k) h t=>by
  rw [aG,aG]
  have e:=Cf k y
  by_cases hk:k=y
  ·subst hk
   rw [show (if k=k then (k,v) else (k,_))=(k,v) from if_pos rfl,show (if aZ (kD k) (kD k)=true then (kD k,d) else (kD k,_))=(kD k,d) from if_pos (by rw [e];simp)]
   exact .cons rv (RDk.repl k rv t)
  ·simp only [e,hk,if_neg,decide_false,bY,not_false_eq_true]
   exact .cons h (RDk.repl y rv t)
theorem RDk.snoc {K:a8}{H:Hp} (y:cO) {v:V}{d:D} (rv:RD K H v d):∀ {kvs:List (cO×V)}{ds:List (D×D)},RDk K H kvs ds->RDk K H (kvs++[(y,v)]) (ds++[(kD y,d)])
 | _,_,.nil=>.cons rv .nil
 | _,_,.cons h t=>.cons h (RDk.snoc y rv t)
theorem RDk.put {K:a8}{H:Hp}{kvs:List (cO×V)}{ds:List (D×D)} (r:RDk K H kvs ds) (y:cO) {v:V}{d:D} (rv:RD K H v d):RDk K H (kq kvs y v) (sk ds (kD y) d):=by
 unfold kq sk
 rw [r.any y]
 split
 ·exact r.repl y rv
 ·exact r.snoc y rv
def gU (kvs:List (D×D)):Bool:=kvs.all fun kv=>(nZ kv.1).isSome
def Cg (i:Nat) (gk g:av->R D):av->R Fl:=fun ρ=>match ρ[i]? with
 | some (Sl.own (.dict kvs))=>(g ρ).bind fun d=>(gk ρ).bind fun k=>match nZ k with
  | some _=>if kvs.length<1000/\gU kvs=true then .ok (.nx (ρ.set i (.own (.dict (sk kvs k d))))) else .no
  | none=>.no
 | _=>.no
theorem Ch {K:a8}{H:Hp}{v:V}{y:cO} (h:RD K H v (kD y)):v=kV y:=by
 cases y<;>cases h<;>rfl
theorem RDt.flat {K:a8}{H:Hp}{kvs:List (List cO×V)}{ds:List (D×D)} (h:RDt K H kvs ds) (f:gU ds=true):kvs=[]/\ds=[]:=by
 cases h with
 | nil=>exact ⟨rfl,rfl⟩
 | cons h t=>simp [gU,tD,nZ] at f
theorem Iy (i:Nat) (h:JE c e g) (hk:JE c k gk) (hu:c.X.A.units + 1<k7) (hN:c.X.N[i]?=some x:=by rfl) (hv:Lf c.X.env.scope x:=by first | exact gx rfl | exact d_ (gx rfl) | exact d_ (d_ rfl)) (hd:(x == ("__debug__" : Str))=false:=by decide)
  (hcd:(x == ("__classdict__" : Str))=false:=by decide) (hs:gZ e (some (.Subscript (.Name x p) k apos)) pos.line c.X.env=pure false:=by rfl):JS c (.Assign [.Subscript (.Name x p) k apos] e pos) (Cg i gk g):=.of fun ρ=>by
 refine yf (Ie hu (nl hN hv hd hcd) (hk ρ) (h ρ) hs) fun D σ H h_1=>?_
 obtain ⟨H0,Hs0,la,Hs,f,q⟩:=h_1
 replace q:nX c.X.K c.cls c.E H0 Hs0 la D (Cg i gk g ρ):=q
 unfold Cg at q
 split at q
 ·rename_i kvs ho
  obtain ⟨a,o,k1,k2,k3,k4,k5⟩:=f.ow i _ ho
  have main:∀ {H:Hp}{vs:List (cO×V)},Fr c.X.K H0 Hs0 la ρ σ H Hs->H a=some (.dK vs)->RDk c.X.K Hs vs kvs->Rm (JH i) (TR c.X.K c.cls c.E ρ (gk ρ)) (TR c.X.K c.cls c.E ρ (g ρ)) D σ H:=fun {H vs} f k2 r=>by
   refine sE f q fun d v H1 Hs1 e1 s1 f1 r1=>?_
   rw [e1,bind_ok] at q
   refine ⟨_,k1,sE f1 q fun y w H2 Hs2 e2 s2 f2 r2=>?_⟩
   rw [e2,bind_ok] at q
   split at q
   ·rename_i ky hy
    obtain rfl:=uL hy
    by_cases hl:kvs.length<1000/\gU kvs=true
    ·rw [if_pos hl] at q
     have ha:=s2.all _ _ (s1.all _ _ k2)
     have r':=(r.same s1.sh).same s2.sh
     rw [Ch r2]
     exact ⟨a,_,rfl,DF.k ha (cz (by rw [r.length];omega)),q _ _ Hs2 (f2.write i ho k1 (.dK (r'.put ky (r1.same s2.sh))))⟩
    ·rw [if_neg hl] at q;exact q.elim
   ·exact q.elim
  cases k5 with
  | dK r=>exact main f k2 r
  | dT n r =>
   refine sE f q fun d v H1 Hs1 e1 s1 f1 r1=>?_
   rw [e1,bind_ok] at q
   refine ⟨_,k1,sE f1 q fun y w H2 Hs2 e2 s2 f2 r2=>?_⟩
   rw [e2,bind_ok] at q
   split at q
   ·rw [if_neg (fun z=>n (r.flat z.2).1)] at q;exact q.elim
   ·exact q.elim
  | dF n r =>
   refine sE f q fun d v H1 Hs1 e1 s1 f1 r1=>?_
   rw [e1,bind_ok] at q
   refine ⟨_,k1,sE f1 q fun y w H2 Hs2 e2 s2 f2 r2=>?_⟩
   rw [e2,bind_ok] at q
   split at q
   ·rw [if_neg (fun z=>by cases z.2)] at q;exact q.elim
   ·exact q.elim
 ·exact q.elim
def kQ (kvs:List (D×D)) (k:D):Option D:=(kvs.find? fun kv=>aZ kv.1 k).map (·.2)
theorem RDk.val {K:a8}{H:Hp}:∀ {kvs:List (cO×V)}{ds:List (D×D)},RDk K H kvs ds->∀ (y:cO),(nW kvs y=none/\kQ ds (kD y)=none)\/∃ v d,nW kvs y=some v/\kQ ds (kD y)=some d/\RD K H v d
 | _,_,.nil,y=>.inl ⟨rfl,rfl⟩
 | _,_,.cons (k:=k) h t,y=>by
  unfold nW kQ
  rw [c9,c9,Cf]
  by_cases hk:k=y
  ·simp only [hk,decide_true,da]
   exact .inr ⟨_,_,rfl,rfl,h⟩
  ·simp only [hk,decide_false]
   exact RDk.val t y
def a_:D->D->R D
 | .dict kvs,k=>match nZ k with
  | some _=>if gU kvs=true then (match kQ kvs k with
   | some d=>.ok d
   | none=>.no) else .no
  | none=>.no
 | x,k=>DY x k
variable {a b:b9}{ga gb:av->R D}
theorem bM (hu:c.X.A.units + 1<k7) (ha:JB c a ga) (hb:JB c b gb) (hs:ut b:=by exact fun _ _=>rfl):JE c (.Subscript a b pos) (g2 ga gb a_):=.of fun ρ=>by
 by_cases hx:∃ kvs,ga ρ=.ok (.dict kvs)
 ·obtain ⟨kvs,hx⟩:=hx
  refine qg (Ic hu (ha ρ) (hb ρ) hs) fun σ H Q h_2=>?_
  obtain ⟨H0,Hs0,la,Hs,f,q⟩:=h_2
  refine one f q fun d v H1 Hs1 e1 s1 f1 r1=>?_
  rw [hx] at e1
  cases e1
  unfold g2 at q
  rw [hx,bind_ok] at q
  refine one f1 (q.on s1 (q':=fun _=>True) fun _ _=>trivial) fun y w H2 Hs2 e2 s2 f2 r2=>?_
  rw [e2,bind_ok] at q
  unfold a_ at q
  simp only at q
  split at q
  ·rename_i ky hy
   obtain rfl:=uL hy
   by_cases hf:gU kvs=true
   ·rw [if_pos hf] at q
    obtain ⟨p,rfl,h⟩:=(r1.step s2).dict f2.st.sub
    have rk:w=kV ky:=by
     rcases r2 with r2 | ⟨_,o,rfl,_,_,ow⟩
     ·exact Ch r2
     ·cases ky<;>cases ow
    subst rk
    rcases h with ⟨vs,h1,h2⟩ | ⟨vs,h1,hn,h2⟩ | ⟨o,vs,es,rfl,h1,hn,h2⟩
    ·rcases h2.val ky with ⟨_,h3⟩ | ⟨u,d,h3,h4,h5⟩
     ·rw [h3] at q;exact q.elim
     ·rw [h4] at q
      exact ⟨p,u,rfl,by rw [<- h3];exact wR.k h1,q _ H2 Hs2 (s1.trans s2) h5⟩
    ·exact (hn (h2.flat hf).1).elim
    ·cases hf
   ·rw [if_neg hf] at q;exact q.elim
  ·exact q.elim
 ·refine qg (UY ha hb hs ρ) fun σ H Q q=>?_
  have e:g2 ga gb a_ ρ=g2 ga gb DY ρ:=by
   unfold g2
   cases hr:ga ρ with
   | ok d =>
    cases d with
    | dict kvs=>exact (hx ⟨kvs,hr⟩).elim
    | _=>rfl
   | _=>rfl
  rw [e] at q
  exact q
def ka:D->R D
 | .dict kvs=>if gU kvs=true then .ok (.list (kvs.map (·.1))) else .no
 | x=>AY x
theorem E7 {K:a8}{H:Hp}:∀ {kvs:List (cO×V)}{ds:List (D×D)},RDk K H kvs ds->RDs K H (kvs.map fun p=>kV p.1) (ds.map (·.1))
 | _,_,.nil=>.nil
 | _,_,.cons (k:=k) h t=>.cons (by cases k<;>constructor) (E7 t)
theorem yy {X:Cx} (hc:X.calm=true):Lg X (.type "list") (i6 ka):=by
 refine tj (fun d c n=>?_) fun pins s σ H x u Q Hs d d' I ru sub rx hd q=>?_
 ·unfold ka AY
  split<;>(try split)<;>(try split)<;>exact fun h=>by cases h
 ·by_cases hx:∃ kvs,d=.dict kvs
  ·obtain ⟨kvs,rfl⟩:=hx
   unfold ka at hd
   simp only at hd
   split at hd
   ·rename_i hf
    cases hd
    obtain ⟨a,rfl,⟨vs,h1,h2⟩ | ⟨vs,h1,n,h2⟩ | ⟨o,vs,es,rfl,h1,n,h2⟩⟩:=rx.dict sub
    ·exact yc hc pins s σ H _ _ Q I (.cons ru .nil) ⟨a,vs,rfl,h1,fun l hl=>q _ _ _ (.new sub hl) (.list (.of aV) ((E7 h2).same (cQ.new sub hl).sh))⟩
    ·exact (n (h2.flat hf).1).elim
    ·cases hf
   ·cases hd
  ·have e:ka d=AY d:=by
    cases d with
    | dict kvs=>exact (hx ⟨kvs,rfl⟩).elim
    | _=>rfl
   rw [e] at hd
   exact (Q5 (X:=X)).1 pins s σ H [x] [u] Q I (.cons ru .nil) ⟨Hs,[d],sub,.cons rx .nil,d',hd,q⟩
end
end J
end
section
namespace J
open PySem L2
open PyProof.Rows (envOfC)
section
variable {c:C}{e a b d:b9}{g ga gb gc:av->R D}{pos p cpos:Pos}{x:Str}
theorem MQ {K:a8}{cls:Str->ah}{E:XK}{h h':D->D->R D}{ρ:av}{σ:St}{H:Hp}{Q:VK} (hx:∀ x y c n,h x y≠.ex c n) (hx':∀ x y c n,h' x y≠.ex c n) (q:TR K cls E ρ (qx ga gb gc h h' ρ) σ H Q) :
  Gf (rD K h) (rD K h') (TB K cls E ρ (ga ρ)) (TB K cls E ρ (gb ρ)) (TB K cls E ρ (gc ρ)) σ H Q:=by
 obtain ⟨H0,Hs0,la,Hs,f,q⟩:=q
 refine one f q fun x v H1 Hs1 e1 s1 f1 r1=>?_
 unfold qx at q
 rw [e1,bind_ok] at q
 refine one f1 (q.on s1 (q':=fun _=>True) fun _ _=>trivial) fun y u H2 Hs2 e2 s2 f2 r2=>?_
 rw [e2,bind_ok] at q
 cases hr:h x y with
 | ex c n=>exact (hx x y c n hr).elim
 | no=>rw [hr] at q;exact q.elim
 | ok z =>
  rw [hr,bind_ok] at q
  refine ⟨Hs2,x,y,f2.st.sub,r1.step s2,r2,z,hr,fun w H3 Hs3 s3 r3=>?_⟩
  cases r3 with
  | bool k =>
   refine ⟨k,rfl,?_⟩
   have f3:=f2.step s3
   cases k with
   | false=>exact xQ (q _ H3 Hs3 (s1.trans (s2.trans s3)) (.bool _))
   | true =>
    refine BU (one f3 (q.on (s1.trans (s2.trans s3)) (q':=fun _=>True) fun _ _=>trivial) fun t u' H4 Hs4 e4 s4 f4 r4=>?_)
    simp only [e4,bind_ok] at q
    cases hr':h' y t with
    | ex c n=>exact (hx' y t c n hr').elim
    | no=>rw [hr'] at q;exact q.elim
    | ok z' =>
     rw [hr'] at q
     exact ⟨Hs4,y,t,f4.st.sub,(r2.step s3).step s4,r4,z',hr',fun w H5 Hs5 s5 r5=>q w H5 Hs5 (s1.trans (s2.trans (s3.trans (s4.trans s5)))) r5⟩
  | none=>exact q.elim
  | int _=>exact q.elim
  | str _=>exact q.elim
  | list _ _=>exact q.elim
  | tuple _ _=>exact q.elim
  | dictK _ _=>exact q.elim
  | dictT _ _ _=>exact q.elim
  | dictF _ _ _=>exact q.elim
theorem E8 {op op':xb}{h h':D->D->R D} (ho:wU c.X (bG op) h) (ho':wU c.X (bG op') h') (ha:JB c a ga) (hb:JB c b gb) (hc:JB c d gc) (hm:L8 [op,op'] [b,d]=false:=by with_unfolding_all rfl):JE c (.Compare a [op,op'] [b,d] pos) (qx ga gb gc h h') :=
 .of fun ρ=>qg (LR ho.1 ho'.1 (ha ρ) (hb ρ) (hc ρ) hm) fun σ H Q q=>MQ ho.2 ho'.2 q
theorem MR {op op':xb}{h h':D->D->R D} (ho:wU c.X (bG op) h) (ho':wU c.X (bG op') h') (ha:JB c a ga) (hb:JB c b gb) (hc:JB c d gc) (hm:L8 [op,op'] [b,d]=false:=by with_unfolding_all rfl):JT c (.Compare a [op,op'] [b,d] pos) (eZ (qx ga gb gc h h')) :=
 .of fun ρ=>UT (LS ho.1 ho'.1 (ha ρ) (hb ρ) (hc ρ) hm) fun σ H Q q=>MQ ho.2 ho'.2 (UU q)
def Td:D->R D
 | .int i=>.ok (.int (-i))
 | _=>.no
def E9 (g:av->R D):av->R D:=fun ρ=>(g ρ).bind Td
theorem MS (h:JE c e g):JE c (.UnaryOp .USub e pos) (E9 g):=.of fun ρ=>qg (Us SH (h ρ)) fun σ H Q h_0=>by
 obtain ⟨H0,Hs0,la,Hs,f,q⟩:=h_0
 refine yg f q fun d v H1 Hs1 e1 s1 f1 r1=>?_
 unfold E9 at q
 rw [e1,bind_ok] at q
 cases r1 with
 | int i=>exact ⟨i,rfl,q _ H1 Hs1 s1 (.int _)⟩
 | _=>exact q.elim
inductive V7 (K:a8) (w:bc) (cls:Str->ah) (E:XK) (ρ:av) (r:R (List Str)) (σ:St) (H:Hp) (Q:VK):Prop
 | mk (H0 Hs0:Hp) (la:Nat->Option ah) (Hs:Hp) (f:Fr K H0 Hs0 la ρ σ H Hs) (q:Fin K cls E H Hs r fun ss=>∀ p H' Hs',cQ H Hs H' Hs'->H' p=none->Q (.ref p) (upd H' p (kU w p ss))):V7 K w cls E ρ r σ H Q
def W8 (K:a8) (w:bc) (cls:Str->ah) (E:XK) (ρ:av) (r:R (List Str)):TE:=V7 K w cls E ρ r
structure Qc (c:C) (e:b9) (g:av->R (List Str)):Prop where of ::
 run:∀ ρ,PE c.X e (W8 c.X.K c.X.w c.cls c.E ρ (g ρ))
instance {c:C}{e:b9}{g:av->R (List Str)}:CoeFun (Qc c e g) (fun _=>∀ ρ,PE c.X e (W8 c.X.K c.X.w c.cls c.E ρ (g ρ))):=⟨Qc.run⟩
theorem Iz {K:a8}{w:bc}{cls:Str->ah}{E:XK}{ρ:av}{r:R (List Str)}{β:Type}{k:List Str->R β}{σ:St}{H:Hp}{H0 Hs0 Hs:Hp}{la:Nat->Option ah}{Q:V->Hp->Prop}{q:β->Prop} (f:Fr K H0 Hs0 la ρ σ H Hs)
  (h:Fin K cls E H Hs (r.bind k) q) (m:∀ ss p H' Hs',r=.ok ss->cQ H Hs H' Hs'->Fr K H0 Hs0 la ρ σ H' Hs'->H' p=none->Q (.ref p) (upd H' p (kU w p ss))):W8 K w cls E ρ r σ H Q:=by
 refine ⟨H0,Hs0,la,Hs,f,?_⟩
 cases r with
 | ok d=>exact fun p H' Hs' s n=>m d p H' Hs' rfl s (f.step s) n
 | ex c n=>exact h
 | no=>exact h
variable {gset:av->R (List Str)}
def tm:D->R (List Str)
 | .list ds=>match gd ds with
  | some ss=>if ss.length<60 then .ok (dq [] ss) else .no
  | none=>.no
 | .tuple ds=>match gd ds with
  | some ss=>if ss.length<60 then .ok (dq [] ss) else .no
  | none=>.no
 | _=>.no
def oJ (g:av->R D):av->R (List Str):=fun ρ=>(g ρ).bind tm
theorem Ci (hc:c.X.calm=true) (h:JB c e g) (hg2:Gl c.X "set") (hm2:c.X.mg "set"=none) (he:az [e] c.X.env=(false,dz e c.X.env)::az [] c.X.env:=by rfl) :
  Qc c (.Call (.Name "set" p) [e] [] cpos) (oJ g):=.of fun ρ=>by
 refine qg (vD (DQ hc) hg2 hm2 PyProof.Rows.boot_set (cb (h ρ) eY he) (he:=he)) fun σ H Q h_1=>?_
 obtain ⟨H0,Hs0,la,Hs,f,q⟩:=h_1
 refine one f q fun d v H1 Hs1 e1 s1 f1 r1=>?_
 unfold oJ at q
 rw [e1,bind_ok] at q
 unfold tm at q
 split at q
 ·split at q
  ·rename_i ss hs
   by_cases hz:ss.length<60
   ·rw [if_pos hz] at q
    obtain ⟨a,vs,rfl,qa,ra⟩:=r1.list f1.st.sub
    rw [qz hs] at ra
    rw [oC ra] at qa
    exact ⟨a,ss,rfl,.inl qa,aK (Jx hz 1) (by decide),fun p hp=>q p H1 Hs1 s1 hp⟩
   ·rw [if_neg hz] at q;exact q.elim
  ·exact q.elim
 ·split at q
  ·rename_i ss hs
   by_cases hz:ss.length<60
   ·rw [if_pos hz] at q
    obtain ⟨a,vs,rfl,qa,ra,_⟩:=r1.tuple f1.st.sub
    rw [qz hs] at ra
    rw [oC ra] at qa
    exact ⟨a,ss,rfl,.inr qa,aK (Jx hz 1) (by decide),fun p hp=>q p H1 Hs1 s1 hp⟩
   ·rw [if_neg hz] at q;exact q.elim
  ·exact q.elim
 ·exact q.elim
def kw (g:av->R (List Str)):av->R D:=fun ρ=>(g ρ).bind fun ss=>if ss.length<64 then .ok (.list ((jx ss).map .str)) else .no
theorem tq (hc:c.X.calm=true) (h:Qc c e gset) (hg:Gl c.X "sorted") (hm:c.X.mg "sorted"=none) (he:az [e] c.X.env=(false,dz e c.X.env)::az [] c.X.env:=by rfl) :
  JE c (.Call (.Name "sorted" p) [e] [] cpos) (kw gset):=.of fun ρ=>by
 refine qg (nU (wS hc) hg hm wn (cb (h ρ) eY he) (he:=he)) fun σ H Q h_2=>?_
 obtain ⟨H0,Hs0,la,Hs,f,q⟩:=h_2
 dsimp only [L2.Ua,L2.Du,L2.LW]
 refine Iz (w:=c.X.w) f q fun ss p H1 Hs1 e1 s1 f1 n1=>?_
 unfold kw at q
 rw [e1,bind_ok] at q
 by_cases hz:ss.length<64
 ·rw [if_pos hz] at q
  have st1:cQ H1 Hs1 (upd H1 p (kU c.X.w p ss)) Hs1:=.mine f1.st.sub n1
  exact ⟨p,ss,rfl,aV,hz,fun l hl=>q _ _ _ (s1.trans (st1.trans (.new st1.sub hl))) (.list (.of aV) (ye _))⟩
 ·rw [if_neg hz] at q;exact q.elim
def uM (g:av->R (List Str)):av->R D:=fun ρ=>(g ρ).bind fun ss=>.ok (.int ss.length)
theorem Kh (h:Qc c e gset) (hg:Gl c.X "len") (hm:c.X.mg "len"=none) (he:az [e] c.X.env=(false,dz e c.X.env)::az [] c.X.env:=by rfl) :
  JE c (.Call (.Name "len" p) [e] [] cpos) (uM gset):=.of fun ρ=>by
 refine qg (nU A6 hg hm b_ (cb (h ρ) eY he) (he:=he)) fun σ H Q h_3=>?_
 obtain ⟨H0,Hs0,la,Hs,f,q⟩:=h_3
 dsimp only [L2.Ua,L2.Du,L2.LW]
 refine Iz (w:=c.X.w) f q fun ss p H1 Hs1 e1 s1 f1 n1=>?_
 unfold uM at q
 rw [e1,bind_ok] at q
 have st1:cQ H1 Hs1 (upd H1 p (kU c.X.w p ss)) Hs1:=.mine f1.st.sub n1
 exact ⟨p,ss,rfl,aV,q _ _ _ (s1.trans st1) (.int _)⟩
variable {elt iter tg:b9}{ifs:List b9}{scope:eT}{N':List Str}{nt:Nat}{ix:List Nat}{gi:av->R (List D)}{gt:av->R Bool}{ge:av->R D}
def vN (nt:Nat) (ix:List Nat) (gi:av->R (List D)) (gt:av->R Bool) (ge:av->R D):av->R (List Str):=fun ρ=>(gi ρ).bind fun ds=>if ds.length<=60 then (gK (ij nt (nY nt ix ρ) gt ge) ds).bind fun ys=>match gd ys with
 | some ss=>.ok (dq [] ss)
 | none=>.no else .no
theorem Ad {ys:List D}{xs:List D}:∀ {ss:List Str},gd (xs++ys)=some ss->∃ s1 s2,gd xs=some s1/\gd ys=some s2/\ss=s1++s2:=by
 induction xs with
 | nil=>intro ss h;exact ⟨[],ss,rfl,h,rfl⟩
 | cons d r ih =>
  intro ss h
  cases d with
  | str b =>
   have h:(gd (r++ys)).map (b::·)=some ss:=h
   cases hr:gd (r++ys) with
   | none=>rw [hr] at h;cases h
   | some z =>
    rw [hr] at h
    cases h
    obtain ⟨s1,s2,h1,h2,rfl⟩:=ih hr
    exact ⟨b::s1,s2,by show (gd r).map (b::·)=_;rw [h1];rfl,h2,rfl⟩
  | _=>cases h
theorem yz (z:Str):∀ (l acc:List Str),dq acc (l++[z])=if z∈dq acc l then dq acc l else dq acc l++[z]
 | [],acc=>rfl
 | x::l,acc=>by
  show dq _ (l++[z])=_
  rw [yz z l]
  rfl
inductive XN (f:D->R (Option D)) (ds:List D) (ss:List Str) (H1 Hs1:Hp) (i m:Nat) (acc:List Str) (H':Hp):Prop
 | mk (done bW zs sa sz Hs':_) (h0:ds=done++bW) (h1:done.length=i) (h2:bW.length=m) (h3:cQ H1 Hs1 H' Hs') (h4:acc=dq [] sa) (h5:sa.length<=i) (h6:gK f bW=.ok zs) (h7:gd zs=some sz) (h8:ss=sa++sz):XN f ds ss H1 Hs1 i m acc H'
theorem Qd {K:a8}{w:bc}{cls:Str->ah}{E:XK}{ρ:av}{σ:St}{H:Hp}{Q:VK} (hnt:nt=1\/nt=2)
  (q:W8 K w cls E ρ (vN nt ix gi gt ge ρ) σ H Q) :
  MA w nt ix (W6 K cls E ρ (gi ρ)) (Kg K nt) (fun σ H Q=>∃ ρ',K9 K cls E0 ρ' (gt ρ') σ H Q) (fun σ H Q=>∃ ρ',TR K cls E0 ρ' (ge ρ') σ H Q) σ H Q:=by
 obtain ⟨H0,Hs0,la,Hs,f,q⟩:=q
 refine ⟨H0,Hs0,la,Hs,f,?_⟩
 unfold vN at q
 cases hi:gi ρ with
 | no=>rw [hi] at q;exact q
 | ex x n=>rw [hi] at q;exact q
 | ok ds =>
  rw [hi,bind_ok] at q
  intro J H1 Hs1 Hn s1 sn it
  by_cases hl:ds.length<=60
  ·rw [if_pos hl] at q
   cases hm:gK (ij nt (nY nt ix ρ) gt ge) ds with
   | no=>rw [hm] at q;exact q.elim
   | ex x n=>exact (yv (E4 _ _ _ _) _ _ _ hm).elim
   | ok ys =>
    rw [hm,bind_ok] at q
    cases hs:gd ys with
    | none=>rw [hs] at q;exact q.elim
    | some ss =>
     rw [hs] at q
     obtain ⟨lb,fb⟩:=(f.step s1).block nt ix
     refine ⟨XN (ij nt (nY nt ix ρ) gt ge) ds ss H1 Hs1,
      ⟨ds.length,[],ds,ys,[],ss,Hs1,rfl,rfl,rfl,.refl s1.sub,rfl,cW _,hm,hs,rfl⟩,?_⟩
     rintro i m acc H' ⟨done,bW,zs,sa,sz,Hs',hds,hdl,hrl,st,rfl,yl,hz,hzs,hy⟩
     obtain ⟨igo,istop,iyld⟩:=it H' Hs' (sn.trans st.all) st.sh st.sub
     cases bW with
     | nil =>
      left
      cases hz
      cases hzs
      rw [bT] at hds hy
      subst hy hds
      exact ⟨istop i (by omega),fun p hp=>q p H' Hs' (s1.trans st) hp⟩
     | cons d bW =>
      right
      have hil:i<ds.length:=by rw [hds,aO,aX];omega
      have hol:=fU sa []
      simp at hol
      refine ⟨igo i hil,vp (show (dq [] sa).length + 1<=61 by omega) (by decide),fun x H2 hyl=>?_⟩
      obtain ⟨d',Hs2,hd,s2,r2⟩:=iyld i x H2 hil hyl
      have hdd:d'=d:=by
       rw [hds,bn (by omega)] at hd
       simp [hdl] at hd
       exact hd.symm
      subst hdd
      obtain ⟨o,zs',hf,hz',rfl⟩:=yu hz
      have hf:=Iw hf
      obtain ⟨so,sz',hso,hsz,rfl⟩:=Ad hzs
      cases hb:V5 nt d' (nY nt ix ρ) with
      | no=>rw [hb] at hf;cases hf
      | ex x n=>rw [hb] at hf;cases hf
      | ok ρ' =>
       rw [hb,bind_ok] at hf
       refine E3 hnt ((fb.step st).step s2) r2 hb fun σ2 f2=>⟨ρ',?_⟩
       refine ⟨_,_,_,Hs2,f2,?_⟩
       cases ht:gt ρ' with
       | no=>rw [ht] at hf;cases hf
       | ex x n=>rw [ht] at hf;cases hf
       | ok b =>
        rw [ht,bind_ok] at hf
        intro H3 Hs3 s3
        cases b with
        | false =>
         rw [if_neg aS] at hf
         cases hf
         cases hso
         refine xQ ⟨bW.length,by rw [<- hrl];simp,done++[d'],bW,zs',sa,sz',Hs3,by rw [hds];simp,by simp [hdl],rfl,(st.trans s2).trans s3,rfl,by omega,hz',hsz,by simpa using hy⟩
        | true =>
         rw [if_pos rfl] at hf
         refine BU ⟨ρ',_,_,_,Hs3,f2.step s3,?_⟩
         cases he:ge ρ' with
         | no=>rw [he] at hf;cases hf
         | ex x n=>rw [he] at hf;cases hf
         | ok y =>
          rw [he,bind_ok] at hf
          cases hf
          intro v H4 Hs4 s4 r4
          cases r4 with
          | str z =>
           cases hso
           exact ⟨z,bW.length,rfl,by rw [<- hrl];simp,done++[d'],bW,zs',sa++[z],sz',Hs4,by rw [hds];simp,by simp [hdl],rfl,((st.trans s2).trans s3).trans s4,(yz z sa []).symm,by simp;omega,hz',hsz,by rw [hy];simp⟩
          | none=>cases hso
          | bool _=>cases hso
          | int _=>cases hso
          | list _ _=>cases hso
          | tuple _ _=>cases hso
          | dictK _ _=>cases hso
          | dictT _ _ _=>cases hso
          | dictF _ _ _=>cases hso
  ·rw [if_neg hl] at q;exact q.elim
theorem MT (nt:Nat) (hnt:nt=1\/nt=2) (hc:c.X.calm=true) (S:nr c.X scope N' nt ix) (hi:JI c tg iter gi) (hb:uJ c N' scope nt tg ifs elt gt ge) (hs:∀ x,eg iter c.X.env x=pure x:=by intro _;rfl) :
  Qc c (.SetComp elt [⟨tg,iter,ifs,0⟩] scope pos) (vN nt ix gi gt ge):=.of fun ρ=>qg (Gy hc S (Cc hnt) (hi ρ) hb.at hs) fun σ H Q q=>Qd hnt q
end
def bB (n:Nat) (ds:List D):av:=ds.map Sl.shr++mq (n - ds.length) Sl.no
def eI (n:Nat) (g:av->R Fl):List D->R D:=fun ds=>match g (bB n ds) with
 | .ok (.nx _)=>.ok .none
 | .ok (.rt d)=>.ok d
 | .ex c m=>.ex c m
 | _=>.no
theorem yA {n:Nat}{ds:List D}{i:Nat}{s:Sl} (h:(bB n ds)[i]?=some s):(∃ d,ds[i]?=some d/\s=.shr d)\/s=.no:=by
 unfold bB at h
 by_cases hi:i<ds.length
 ·rw [bv (by simpa using hi),aN] at h
  cases hd:ds[i]? with
  | none=>rw [hd] at h;cases h
  | some z=>rw [hd] at h;cases h;exact .inl ⟨z,rfl,rfl⟩
 ·rw [bn (by simp;omega),bR] at h
  split at h<;>cases h
  exact .inr rfl
theorem Ki {N:List Str}{vs:List V}{i:Nat}{v:V} (h:vs[i]?=some v):(L2.start N vs)[i]?=some (some v):=by
 unfold L2.start
 have hi:i<vs.length:=(List.getElem?_eq_some_iff.mp h).1
 rw [bv (by simpa using hi),aN,h]
 rfl
theorem Fr.start {K : a8} {H Hs : Hp} {N : List Str} {vs : List V} {ds : List D} (sub : du Hs H) (r : RDs K Hs vs ds) : Fr K H Hs (fun _ => none) (bB N.length ds) (L2.start N vs) H Hs := by
  have hl := r.length
  refine ⟨.refl sub, by simp [bB, L2.start, hl], fun i d h => ?_, fun i d h => ?_, fun i d h => ?_, fun i j d e a h _ _ _ => ?_, fun i a h => (nomatch h), fun i d h => ?_, fun i j d e h _ => ?_⟩
  · rcases yA h with ⟨z, hz, e⟩ | e
    · cases e
      obtain ⟨v, k1, k2⟩ := r.get' hz
      exact ⟨v, Ki k1, k2⟩
    · cases e
  all_goals (rcases yA h with ⟨z, _, e⟩ | e <;> cases e)
theorem RF {P:aI}{w:bc}{K:a8}{mg:Str->Option a9}{base:br}{cls:Str->ah}{x qual:Str}{st:cr}{f:ah}{fd:dE}{N ps:List Str}{k:Nat}{g:av->R Fl} (F:DB K x qual st f fd) (S:bu N ps (aw st))
  (h:∀ (cdv:a9) (A:bg) (outer:List Env) (s:af) (H:Hp) (E:XK),jn k (A.deeper (iU qual (aw st) s.heap.objs.size f cdv))->Ir ⟨iV (mh P w) P w K mg base N qual (aw st) f cdv A outer s H E,cls,E⟩ (iu st) g) :
  sg P w K mg base (mh P w) (k + 1) f fd ps (RC K cls ps.length (eI N.length g)):=by
 obtain ⟨oc,od,kV,doc,pm,an,cdv,ct,osl,rfl,lk,hcd⟩:=F.ex
 refine Re lk hcd S (fun vs H Q E h_4=>by obtain ⟨Hs,ds,sub,hn,r,q⟩:=h_4;exact by rw [r.length];exact hn) fun A outer s H vs Q E hr hsp=>?_
 obtain ⟨Hs,ds,sub,hn,r,q⟩:=hsp
 refine ⟨_,h cdv A outer s H E hr (bB N.length ds),H,Hs,_,Hs,Fr.start sub r,?_⟩
 unfold eI at q
 cases hg:g (bB N.length ds) with
 | no=>rw [hg] at q;exact q
 | ex c n=>rw [hg] at q;exact q
 | ok fl =>
  rw [hg] at q
  cases fl with
  | nx ρ'=>exact fun σ' H' Hs' f'=>q .non H' Hs' f'.st .none
  | rt d=>exact fun v H' Hs' s r=>q v H' Hs' s r
  | bk ρ'=>exact q.elim
  | ct ρ'=>exact q.elim
theorem V8 {P:aI}{w:bc}{K:a8}{mg:Str->Option a9}{base:br}{cls:Str->ah}{x qual:Str}{st:cr}{f:ah}{fd:dE}{N ps:List Str}{k:Nat}{g:av->R Fl} (F:DB K x qual st f fd) (S:bu N ps (aw st)) (hm:mg x=some (.ref f)) (hb:jv K fd ps [])
  (h:∀ (cdv:a9) (A:bg) (outer:List Env) (s:af) (H:Hp) (E:XK),jn k (A.deeper (iU qual (aw st) s.heap.objs.size f cdv))->Ir ⟨iV (mh P w) P w K mg base N qual (aw st) f cdv A outer s H E,cls,E⟩ (iu st) g) :
  Fn P w K mg base cls x (k + 1) ps.length (eI N.length g):=⟨f,fd,ps,RF F S h,hm,F.kp,hb⟩
theorem dv {X:Cx}:jw (mh X.prog X.w) X E0:=fun _ _ _ _ _ _ _ h=>by
 obtain ⟨_,_,_,_,_,_,_,_,_,q⟩:=h
 exact q.elim
end J
end
section
namespace J
open PySem L2
def clear2 (ρ:av):av:=ρ.map fun s=>match s with
 | .ow2 _=>.no
 | s=>s
section
variable {K:a8}
theorem Fr.clear2 {H0 Hs0 H Hs:Hp}{la:Nat->Option ah}{ρ:av}{σ:St} (f:Fr K H0 Hs0 la ρ σ H Hs):Fr K H0 Hs0 la (clear2 ρ) σ H Hs/\∀ (j:Nat) (d:List (List D)),¬ (J.clear2 ρ)[j]?=some (Sl.ow2 d):=by
 have un:∀ {j:Nat}{s:Sl},(J.clear2 ρ)[j]?=some s->(∀ d,s≠.ow2 d)/\(ρ[j]?=some s\/s=.no):=fun {j s} e=>by
  unfold J.clear2 at e
  rw [aN] at e
  cases h:ρ[j]? with
  | none=>rw [h] at e;cases e
  | some t =>
   rw [h] at e
   cases t with
   | ow2 d=>cases e;exact ⟨fun _ z=>(by cases z),.inr rfl⟩
   | no=>cases e;exact ⟨fun _ z=>(by cases z),.inl rfl⟩
   | shr d=>cases e;exact ⟨fun _ z=>(by cases z),.inl rfl⟩
   | lck d=>cases e;exact ⟨fun _ z=>(by cases z),.inl rfl⟩
   | own d=>cases e;exact ⟨fun _ z=>(by cases z),.inl rfl⟩
 have is:∀ {j:Nat}{s:Sl},s≠.no->(J.clear2 ρ)[j]?=some s->ρ[j]?=some s:=fun {j s} n e=>(un e).2.resolve_right n
 have no2:∀ (j:Nat) (d:List (List D)),¬ (J.clear2 ρ)[j]?=some (Sl.ow2 d):=fun j d e=>(un e).1 d rfl
 exact ⟨⟨f.st,by simp [J.clear2,f.len],fun j d h=>f.sh j d (is (fun z=>by cases z) h),fun j d h=>f.ow j d (is (fun z=>by cases z) h),fun j d h=>f.lk j d (is (fun z=>by cases z) h),fun j k d e a h1 h2=>f.dj j k d e a (is (fun z=>by cases z) h1) (is (fun z=>by cases z) h2),f.lh,fun j d h=>(no2 j d h).elim,fun j k d e h _=>(no2 j d h).elim⟩,no2⟩
end
def qC:List ah->Hp->Hp
 | [],H=>H
 | a::as,H=>qC as (upd H a (.lst []))
section
variable {c:C}{e:b9}{g gi:av->R D}{pos p apos cpos spos:Pos}{x:Str}
theorem yB:∀ (as:List ah) (H:Hp),(∀ a∈as,H a=none)->as.Nodup->du H (qC as H)
 | [],H,_,_=>.refl H
 | a::as,H,h,nd=>by
  obtain ⟨n1,n2⟩:=List.nodup_cons.mp nd
  refine (iQ (h a ap)).trans (yB as _ (fun b hb=>?_) n2)
  rw [aT (fun (z:b=a)=>n1 (z ▸ hb))]
  exact h b (am _ hb)
theorem Ea:∀ (as:List ah) (H:Hp),as.Nodup->∀ a∈as,qC as H a=some (.lst [])
 | a::as,H,nd,b,hb=>by
  obtain ⟨n1,n2⟩:=List.nodup_cons.mp nd
  show qC as (upd H a (.lst [])) b=_
  by_cases hm:b∈as
  ·exact Ea as _ n2 b hm
  ·have e:b=a:=(List.mem_cons.mp hb).resolve_right hm
   subst e
   have:∀ (as:List ah) (H:Hp),b∉as->qC as H b=H b:=by
    intro as
    induction as with
    | nil=>intro H _;rfl
    | cons c as ih =>
     intro H h
     show qC as (upd H c (.lst [])) b=_
     rw [ih _ (fun z=>h (am _ z)),aT (fun (z:b=c)=>h (by rw [z];exact ap))]
   rw [this as _ hm,aV]
theorem lL:∀ (as:List ah) (H:Hp) (b:ah),qC as H b=none->H b=none/\b∉as
 | [],H,b,h=>⟨h,by simp⟩
 | a::as,H,b,h=>by
  obtain ⟨h1,h2⟩:=lL as (upd H a (.lst [])) b h
  by_cases hb:b=a
  ·subst hb;rw [aV] at h1;cases h1
  ·rw [aT hb] at h1
   exact ⟨h1,fun z=>(List.mem_cons.mp z).elim hb h2⟩
def Qe (i:Nat):av->R Fl:=fun ρ=>.ok (.nx ((clear2 ρ).set i (.ow2 [[],[],[],[]])))
theorem Te (i:Nat) {p1 p2 p3 p4:Pos}{pos':Pos} (hN:c.X.N.Nodup) (hi:c.X.N[i]?=some x:=by rfl) (hx:R5 c.X.env.scope x:=by first | exact gx rfl | exact d_ rfl)
  (hs:gZ (.List [.List [] p1,.List [] p2,.List [] p3,.List [] p4] p) (some (.Name x pos')) spos.line c.X.env=pure false:=by rfl)
  (hf:c.X.fn x=true\/c.X.env.scope.names.lookup x=some .local:=by first | exact .inl rfl | exact .inr rfl | assumption)
  (h1:az [.List [] p1,.List [] p2,.List [] p3,.List [] p4] c.X.env=(false,dz (.List [] p1) c.X.env)::az [.List [] p2,.List [] p3,.List [] p4] c.X.env:=by rfl)
  (h2:az [.List [] p2,.List [] p3,.List [] p4] c.X.env=(false,dz (.List [] p2) c.X.env)::az [.List [] p3,.List [] p4] c.X.env:=by rfl)
  (h3:az [.List [] p3,.List [] p4] c.X.env=(false,dz (.List [] p3) c.X.env)::az [.List [] p4] c.X.env:=by rfl)
  (h4:az [.List [] p4] c.X.env=(false,dz (.List [] p4) c.X.env)::az [] c.X.env:=by rfl) :
  JS c (.Assign [.Name x pos'] (.List [.List [] p1,.List [] p2,.List [] p3,.List [] p4] p) spos) (Qe i):=.of fun ρ=>by
 refine yf (BO hN hi hx (nq (cb (nq eY) (cb (nq eY) (cb (nq eY) (cb (nq eY) eY h4) h3) h2) h1)) hs hf) fun D σ H h_0=>?_
 obtain ⟨H0,Hs0,la,Hs,f,q⟩:=h_0
 replace q:nX c.X.K c.cls c.E H0 Hs0 la D (Qe i ρ):=q
 obtain ⟨f,no2⟩:=f.clear2
 refine ⟨cW _,fun a1 n1=>⟨cW _,fun a2 n2=>⟨cW _,fun a3 n3=>⟨cW _,fun a4 n4=>⟨bL (cz (show 4<=1000 by decide)),fun a n=>?_⟩⟩⟩⟩⟩
 have N:=lL [a1,a2,a3,a4] H a n
 have N4:=lL [a1,a2,a3] H a4 n4
 have N3:=lL [a1,a2] H a3 n3
 have N2:=lL [a1] H a2 n2
 simp only [bf,aU,or_false,not_or] at N N4 N3 N2
 have nd:[a1,a2,a3,a4].Nodup:=by
  simp only [List.nodup_cons,bf,aU,or_false,not_or,gG,and_true,not_false_eq_true]
  exact ⟨⟨cZ N2.2,cZ N3.2.1,cZ N4.2.1⟩,⟨cZ N3.2.2,cZ N4.2.2.1⟩,cZ N4.2.2.2⟩
 have free:∀ b∈[a1,a2,a3,a4],H b=none:=fun b hb=>by
  simp only [bf,aU,or_false] at hb
  rcases hb with rfl | rfl | rfl | rfl
  ·exact n1
  ·exact N2.1
  ·exact N3.1
  ·exact N4.1
 have nd5:(a::[a1,a2,a3,a4]).Nodup:=List.nodup_cons.mpr ⟨by simp only [bf,aU,or_false,not_or];exact N.2,nd⟩
 have sm:du H (qC [a1,a2,a3,a4] H):=yB _ _ free nd
 have all:du H (upd (qC [a1,a2,a3,a4] H) a (.lst [.ref a1,.ref a2,.ref a3,.ref a4])):=sm.trans (iQ n)
 have free5:∀ b∈a::[a1,a2,a3,a4],H b=none:=fun b hb=>(List.mem_cons.mp hb).elim (fun z=>z ▸ N.1) (free b)
 have st:cQ H Hs (upd (qC [a1,a2,a3,a4] H) a (.lst [.ref a1,.ref a2,.ref a3,.ref a4])) Hs:=⟨all,.refl _,f.st.sub.trans all,fun _ _ _ _ z=>z⟩
 have f':=f.step st
 have hl:i<σ.length\/¬ i<σ.length:=Decidable.em _
 have nx:∀ {j:Nat}{s:Sl},(∀ d,s≠.ow2 d)->((clear2 ρ).set i (.ow2 [[],[],[],[]]))[j]?=some s->(clear2 ρ)[j]?=some s/\i≠j:=fun {j s} hs e=>by
  by_cases hj:i=j
  ·subst hj
   by_cases hi:i<(clear2 ρ).length
   ·rw [aH hi] at e;exact absurd (bJ e).symm (hs _)
   ·rw [cD (by simpa using hi)] at e;cases e
  ·rw [ak hj] at e;exact ⟨e,hj⟩
 refine q _ _ Hs ⟨f'.st,by simp [f'.len],fun j d h=>?_,fun j d h=>?_,fun j d h=>?_,fun j k d d' b h1 h2 h3 h4=>?_,f'.lh,fun j d h=>?_,fun j k d d' h1 h2=>?_⟩
 ·obtain ⟨h,hj⟩:=nx (fun _ z=>by cases z) h
  rw [ak hj];exact f'.sh j d h
 ·obtain ⟨h,hj⟩:=nx (fun _ z=>by cases z) h
  rw [ak hj];exact f'.ow j d h
 ·obtain ⟨h,hj⟩:=nx (fun _ z=>by cases z) h
  rw [ak hj];exact f'.lk j d h
 ·obtain ⟨h1,hj⟩:=nx (fun _ z=>by cases z) h1
  obtain ⟨h2,hk⟩:=nx (fun _ z=>by cases z) h2
  rw [ak hj] at h3
  rw [ak hk] at h4
  exact f'.dj j k d d' b h1 h2 h3 h4
 ·by_cases hj:i=j
  ·subst hj
   by_cases hi:i<(clear2 ρ).length
   ·rw [aH hi] at h
    cases h
    have at4:=Ea [a1,a2,a3,a4] H nd
    have ne:∀ b∈[a1,a2,a3,a4],b≠a:=fun b hb z=>(List.nodup_cons.mp nd5).1 (z ▸ hb)
    have go:∀ b∈[a1,a2,a3,a4],upd (qC [a1,a2,a3,a4] H) a (.lst [.ref a1,.ref a2,.ref a3,.ref a4]) b=some (.lst []):=fun b hb=>by rw [aT (ne b hb)];exact at4 b hb
    refine ⟨a,[a1,a2,a3,a4],aH (by rw [<- f'.len];exact hi),aV,nd5,fun b hb=>⟨f.st.sub.free (free5 b hb),f.st.all.free (free5 b hb)⟩,fun b hb k e hk=>?_,.cons (go _ (by simp)) .nil (.cons (go _ (by simp)) .nil (.cons (go _ (by simp)) .nil (.cons (go _ (by simp)) .nil .nil)))⟩
    obtain ⟨hk,nk⟩:=nx (fun _ z=>by cases z) hk
    rw [ak nk]
    intro z
    obtain ⟨b',o,k1,k2,_⟩:=f.ow k e hk
    rw [z] at k1
    cases k1
    rw [free5 b hb] at k2;cases k2
   ·rw [cD (by simpa using hi)] at h;cases h
  ·rw [ak hj] at h;exact (no2 j d h).elim
 ·by_cases hj:i=j
  ·by_cases hk:i=k
   ·exact hj.symm.trans hk
   ·rw [ak hk] at h2;exact (no2 k d' h2).elim
  ·rw [ak hj] at h1;exact (no2 j d h1).elim
theorem MU {st:cr}{gs:av->R Fl} (h:JS c st gs):JS c st (fun ρ=>gs (dB ρ)):=.of fun ρ=>yf (h (dB ρ)) fun D σ H h_1=>by
 obtain ⟨H0,Hs0,la,Hs,f,q⟩:=h_1
 obtain ⟨Hs',f'⟩:=f.shared
 exact ⟨H0,Hs0,la,Hs',f',q⟩
def shareAt (i:Nat) (ρ:av):av:=match ρ[i]? with
 | some (Sl.own d)=>ρ.set i (.shr d)
 | _=>ρ
theorem Fr.shareAt {K:a8}{H0 Hs0 H Hs:Hp}{la:Nat->Option ah}{ρ:av}{σ:St} (f:Fr K H0 Hs0 la ρ σ H Hs) (i:Nat):∃ Hs',Fr K H0 Hs0 la (J.shareAt i ρ) σ H Hs':=by
 unfold J.shareAt
 split
 ·rename_i d ho
  obtain ⟨a,o,k1,k2,k3,k4,k5⟩:=f.ow i d ho
  have hil:i<ρ.length:=(List.getElem?_eq_some_iff.mp ho).1
  have up:du Hs (upd Hs a o):=iQ k3
  have nx:∀ {j:Nat}{s:Sl},(∀ d,s≠.shr d)->(ρ.set i (.shr d))[j]?=some s->ρ[j]?=some s/\i≠j:=fun {j s} hs e=>by
   by_cases hj:i=j
   ·subst hj
    rw [aH hil] at e;exact absurd (bJ e).symm (hs d)
   ·rw [ak hj] at e;exact ⟨e,hj⟩
  have ne:∀ (j:Nat) (e:D) (b:ah),i≠j->ρ[j]?=some (Sl.own e)->σ[j]?=some (some (V.ref b))->b≠a:=fun j e b hj h hb z=>by
   subst z
   exact hj (f.dj i j d e b ho h k1 hb)
  refine ⟨upd Hs a o,⟨f.st.all,f.st.sh.trans up,fun b u e=>?_,fun b u e t z=>?_⟩,by simp [f.len],fun j e h=>?_,fun j e h=>?_,fun j e h=>?_,fun j k d1 d2 b h1 h2 h3 h4=>?_,f.lh,fun j e h=>?_,fun j k d1 d2 h1 h2=>?_⟩
  ·by_cases hb:b=a
   ·subst hb;rw [aV] at e;cases e;exact k2
   ·rw [aT hb] at e;exact f.st.sub b u e
  ·rw [aT (bi e k4)];exact f.st.out b u e t z
  ·by_cases hj:i=j
   ·subst hj
    rw [aH hil] at h
    cases h
    exact ⟨_,k1,k5.share k3⟩
   ·rw [ak hj] at h
    obtain ⟨v,q1,q2⟩:=f.sh j e h
    exact ⟨v,q1,q2.same up⟩
  ·obtain ⟨h,hj⟩:=nx (fun _ z=>by cases z) h
   obtain ⟨b,u,q1,q2,q3,q4,q5⟩:=f.ow j e h
   exact ⟨b,u,q1,q2,by rw [aT (ne j e b hj h q1)];exact q3,q4,q5.same up⟩
  ·obtain ⟨h,hj⟩:=nx (fun _ z=>by cases z) h
   obtain ⟨b,u,q1,q2,q3,q4,q5,q6⟩:=f.lk j e h
   exact ⟨b,u,q1,q2,q3,by rw [aT (bi q5 k4)];exact q4,q5,q6.same up⟩
  ·exact f.dj j k d1 d2 b (nx (fun _ z=>by cases z) h1).1 (nx (fun _ z=>by cases z) h2).1 h3 h4
  ·obtain ⟨h,hj⟩:=nx (fun _ z=>by cases z) h
   obtain ⟨b,as,O⟩:=f.o2 j e h
   refine ⟨b,as,O.at_,O.ob,O.nd,fun c hc=>⟨?_,(O.out c hc).2⟩,fun c hc k e' hk=>O.dj c hc k e' (nx (fun _ z=>by cases z) hk).1,O.inn.step (.refl _) up⟩
   rw [aT (fun z=>O.dj c hc i d ho (by rw [z];exact k1))]
   exact (O.out c hc).1
  ·exact f.u2 j k d1 d2 (nx (fun _ z=>by cases z) h1).1 (nx (fun _ z=>by cases z) h2).1
 ·exact ⟨Hs,f⟩
theorem GG (i:Nat) {st:cr}{gs:av->R Fl} (h:JS c st gs):JS c st (fun ρ=>gs (shareAt i ρ)):=.of fun ρ=>yf (h (shareAt i ρ)) fun D σ H h_2=>by
 obtain ⟨H0,Hs0,la,Hs,f,q⟩:=h_2
 obtain ⟨Hs',f'⟩:=f.shareAt i
 exact ⟨H0,Hs0,la,Hs',f',q⟩
theorem AV.get {K:a8}{H Hs:Hp}{as:List ah}{dss:List (List D)} (h:AV K H Hs as dss):∀ {j:Nat}{ds:List D},dss[j]?=some ds->∃ b vs,as[j]?=some b/\H b=some (.lst vs)/\RDs K Hs vs ds:=by
 induction h with
 | nil=>intro j ds e;cases e
 | cons h r t ih =>
  intro j ds e
  cases j with
  | zero=>cases e;exact ⟨_,_,rfl,h,r⟩
  | succ j=>have q:=ih (j:=j) e;exact q
theorem AV.set {K:a8}{H Hs:Hp}{vs':List V}{ds':List D} (r':RDs K Hs vs' ds'):∀ {as:List ah}{dss:List (List D)}{j:Nat}{b:ah},AV K H Hs as dss->as[j]?=some b->as.Nodup->AV K (L2.upd H b (.lst vs')) Hs as (dss.set j ds')
 | _,_,_,_,.nil,h,_=>by simp at h
 | _,_,0,b,.cons h r t,e,nd=>by
  simp at e
  subst e
  exact .cons aV r' (t.upd (List.nodup_cons.mp nd).1)
 | _,_,j + 1,b,.cons (a:=a) h r t,e,nd=>by
  have e':_:=e
  simp only [jt] at e'
  obtain ⟨n1,n2⟩:=List.nodup_cons.mp nd
  have hb:b∈_:=cM e'
  exact .cons (by rw [aT (fun z=>n1 (by rw [z];exact hb))];exact h) r (AV.set r' t e' n2)
def n_ (i:Nat) (gi g:av->R D):av->R Fl:=fun ρ=>match ρ[i]? with
 | some (Sl.ow2 dss)=>(gi ρ).bind fun k=>match k with
  | .int j=>if 0<=j then (match dss[j.toNat]? with
   | some ds=>(g ρ).bind fun d=>if ds.length<1000 then .ok (.nx (ρ.set i (.ow2 (dss.set j.toNat (ds++[d]))))) else .no
   | none=>.no) else .no
  | _=>.no
 | _=>.no
variable {ie:b9}
theorem yC (i:Nat) (hie:JE c ie gi) (h:JE c e g) (hN:c.X.N[i]?=some x:=by rfl) (hv:Lf c.X.env.scope x:=by first | exact gx rfl | exact d_ (gx rfl) | exact d_ (d_ rfl)) (hd:(x == ("__debug__" : Str))=false:=by decide)
  (hcd:(x == ("__classdict__" : Str))=false:=by decide) {p3:Pos} (hpx:ut ie:=by exact fun _ _=>rfl)
  (hbase:Js (.Subscript (.Name x p) ie p3) "append" c.X.env (dz (.Subscript (.Name x p) ie p3) c.X.env)=dz (.Subscript (.Name x p) ie p3) c.X.env:=by rfl)
  (hfew:((fO cpos (az [e] c.X.env)).all (fun x=>!x.1) && (backToKw cpos (OY [] c.X.env)).all (fun x=>x.1.isSome)
   && decide ([e].length + ([] : List zO).length + (if ([] : List zO).isEmpty then 0 else 1)<30))=true:=by rfl)
  (hline:(apos.endLine == cpos.line)=true:=by rfl) (hst:az [e] c.X.env=(false,dz e c.X.env)::az [] c.X.env:=by rfl) (hplain:(fO cpos (az [] c.X.env)).any (·.1)=false:=by rfl)
  (hs:gZ (.Call (.Attribute (.Subscript (.Name x p) ie p3) "append" apos) [e] [] cpos) none pos.line c.X.env=pure false:=by rfl) :
  JS c (.Expr (.Call (.Attribute (.Subscript (.Name x p) ie p3) "append" apos) [e] [] cpos) pos) (n_ i gi g):=.of fun ρ=>by
 refine yf (um (AL eX zU zV AM (Rg oz (nl hN hv hd hcd) (hie ρ) hpx) (cb (h ρ) eY hst) hbase hfew hline hst hplain) hs) fun D σ H h_3=>?_
 obtain ⟨H0,Hs0,la,Hs,f,q⟩:=h_3
 replace q:nX c.X.K c.cls c.E H0 Hs0 la D (n_ i gi g ρ):=q
 unfold n_ at q
 split at q
 ·rename_i dss ho
  obtain ⟨a,as,O⟩:=f.o2 i dss ho
  refine ⟨_,O.at_,?_⟩
  refine sE f q fun k v H1 Hs1 e1 s1 f1 r1=>?_
  rw [e1,bind_ok] at q
  cases r1 with
  | int j =>
   simp only at q
   by_cases hj:0<=j
   ·rw [if_pos hj] at q
    split at q
    ·rename_i ds hds
     obtain ⟨b,vs,hb,hH,rv⟩:=O.inn.get hds
     have hix:Dy (as.map V.ref) j=some (.ref b):=by
      have:=ur (xs:=as.map V.ref) (j:=j.toNat) (v:=V.ref b) (by rw [aN,hb];rfl)
      rwa [fA hj] at this
     refine ⟨a,_,j,_,rfl,rfl,.of (s1.all _ _ O.ob),hix,.inl ⟨rfl,_,.of (s1.all _ _ hH)⟩,?_⟩
     refine sE f1 q fun d w H2 Hs2 e2 s2 f2 r2=>?_
     rw [e2,bind_ok] at q
     by_cases hl:ds.length<1000
     ·rw [if_pos hl] at q
      have st:=s1.trans s2
      refine ⟨b,vs,w,rfl,rfl,st.all _ _ hH,cz (by rw [rv.length];omega),?_⟩
      have hil:i<ρ.length:=(List.getElem?_eq_some_iff.mp ho).1
      obtain ⟨a',as',O2'⟩:=f2.o2 i dss ho
      have ea:a'=a:=by
       have:=O2'.at_
       rw [O.at_] at this
       cases this;rfl
      subst ea
      have eas:as'=as:=by
       have h1:=O2'.ob
       rw [st.all _ _ O.ob] at h1
       injection h1 with h1
       injection h1 with h1
       exact (Ld (fun x y z=>by cases z;rfl) |>.mp h1).symm
      subst eas
      have hbm:b∈a'::as':=am _ (cM hb)
      have nb:b≠a':=fun z=>(List.nodup_cons.mp O.nd).1 (z ▸ cM hb)
      obtain ⟨bs,b0⟩:=O2'.out b hbm
      have nx:∀ {j':Nat}{s:Sl},(∀ d,s≠.ow2 d)->(ρ.set i (.ow2 (dss.set j.toNat (ds++[d]))))[j']?=some s->ρ[j']?=some s/\i≠j':=fun {j' s} hs e=>by
       by_cases hj:i=j'
       ·subst hj
        rw [aH hil] at e;exact absurd (bJ e).symm (hs _)
       ·rw [ak hj] at e;exact ⟨e,hj⟩
      refine q _ _ Hs2 ⟨⟨fun c u e=>?_,f2.st.sh,fun c u e=>?_,f2.st.out⟩,by simp [f2.len],fun j' d' h=>f2.sh j' d' (nx (fun _ z=>by cases z) h).1,fun j' d' h=>?_,fun j' d' h=>?_,fun j' k' d' e' a h1 h2=>f2.dj j' k' d' e' a (nx (fun _ z=>by cases z) h1).1 (nx (fun _ z=>by cases z) h2).1,f2.lh,fun j' d' h=>?_,fun j' k' d' e' h1 h2=>?_⟩
      ·rw [aT (bi e b0)];exact f2.st.all c u e
      ·rw [aT (bi e bs)];exact f2.st.sub c u e
      ·obtain ⟨h,_⟩:=nx (fun _ z=>by cases z) h
       obtain ⟨c',u,k1,k2,k3,k4,k5⟩:=f2.ow j' d' h
       refine ⟨c',u,k1,?_,k3,k4,k5⟩
       rw [aT (fun z=>O2'.dj b hbm j' d' h (by rw [<- z];exact k1))]
       exact k2
      ·obtain ⟨h,_⟩:=nx (fun _ z=>by cases z) h
       obtain ⟨c',u,k1,k2,k3,k4,k5,k6⟩:=f2.lk j' d' h
       refine ⟨c',u,k1,k2,?_,k4,k5,k6⟩
       rw [aT (bi k5 b0)]
       exact k3
      ·by_cases hj':i=j'
       ·subst hj'
        rw [aH hil] at h
        cases h
        refine ⟨a',as',O2'.at_,by rw [aT (cZ nb)];exact O2'.ob,O2'.nd,O2'.out,fun c hc k e' hk=>O2'.dj c hc k e' (nx (fun _ z=>by cases z) hk).1,?_⟩
        exact AV.set ((rv.same st.sh).append (.cons r2 .nil)) O2'.inn hb (List.nodup_cons.mp O2'.nd).2
       ·rw [ak hj'] at h
        exact (hj' (f2.u2 i j' _ _ ho h)).elim
      ·by_cases hj':i=j'
       ·by_cases hk':i=k'
        ·exact hj'.symm.trans hk'
        ·rw [ak hk'] at h2
         exact (hk' (f2.u2 i k' _ _ ho h2)).elim
       ·rw [ak hj'] at h1
        exact (hj' (f2.u2 i j' _ _ ho h1)).elim
     ·rw [if_neg hl] at q;exact q.elim
    ·exact q.elim
   ·rw [if_neg hj] at q;exact q.elim
  | none=>exact q.elim
  | bool _=>exact q.elim
  | str _=>exact q.elim
  | list _ _=>exact q.elim
  | tuple _ _=>exact q.elim
  | dictK _ _=>exact q.elim
  | dictT _ _ _=>exact q.elim
  | dictF _ _ _=>exact q.elim
 ·exact q.elim
end
end J
end
section
namespace J
open PySem L2
open PyProof.Rows (OwnCls)
section
variable {X:Cx}
end
section
variable {c:C}{e:b9}{g:av->R D}{pos p apos cpos:Pos}{x:Str}
end
structure Er (mg:Str->Option a9) (base:br) (cls:Str->ah) (x:Str):Prop where
 ex:∃ bmB newId initId Bn,OwnCls x (cls x) bmB newId mg base/\ExcBaseFacts Bn newId initId bmB
def oK (x:Str) (gs:av->R (List D)):av->R Fl:=fun ρ=>(gs ρ).bind fun ds=>if ds.length<=1000 then .ex x none else .no
section
variable {P:aI}{w:bc}{K:a8}{mg:Str->Option a9}{base:br}{N:List Str}{qual:Str}{scope:eT}{f:ah}{cd:a9}{A:bg}{outer:List Env}{s:af}{H:Hp}{E:XK}{cls:Str->ah}
theorem uN {x:Str}{np cpos pos:Pos}{e0:b9}{bW:List b9}{gs:av->R (List D)} (R0:Er mg base cls x)
  (hg:Gl (iV (mh P w) P w K mg base N qual scope f cd A outer s H E) x) (ha:Dk ⟨iV (mh P w) P w K mg base N qual scope f cd A outer s H E,cls,E⟩ (e0::bW) gs)
  (he:az (e0::bW) (iV (mh P w) P w K mg base N qual scope f cd A outer s H E).env=(false,dz e0 (iV (mh P w) P w K mg base N qual scope f cd A outer s H E).env)::az bW (iV (mh P w) P w K mg base N qual scope f cd A outer s H E).env:=by rfl)
  (hdb:(x == ("__debug__" : Str))=false:=by decide) (hpl:(fO cpos (az bW (iV (mh P w) P w K mg base N qual scope f cd A outer s H E).env)).any (·.1)=false:=by rfl) :
  JS ⟨iV (mh P w) P w K mg base N qual scope f cd A outer s H E,cls,E⟩ (.Raise (some (.Call (.Name x np) (e0::bW) [] cpos)) none pos) (oK x gs):=.of fun ρ=>by
 obtain ⟨bmB,newId,initId,Bn,O,FB⟩:=R0.ex
 refine yf (Mt O FB hg (ha ρ) he hdb hpl) fun D σ H1 h_1=>?_
 obtain ⟨H0,Hs0,la,Hs,f,q⟩:=h_1
 replace q:nX K cls E H0 Hs0 la D (oK x gs ρ):=q
 refine ⟨H0,Hs0,la,Hs,f,?_⟩
 unfold oK at q
 cases hr:gs ρ with
 | no=>rw [hr] at q;exact q
 | ex y n=>rw [hr] at q;exact fun H' Hs' s=>q H' Hs' (f.st.trans s)
 | ok ds =>
  rw [hr,bind_ok] at q
  intro vs H2 Hs2 s2 r2
  by_cases hl:ds.length<=1000
  ·rw [if_pos hl] at q
   exact ⟨bL (cz (by rw [r2.length];exact hl)),q H2 Hs2 (f.st.trans s2)⟩
  ·rw [if_neg hl] at q;exact q.elim
end
end J
end
section
namespace J
open PySem L2
structure Bi (mg:Str->Option a9):Prop where
 len:mg "len"=none
 isinstance:mg "isinstance"=none
 all:mg "all"=none
 any:mg "any"=none
 zip:mg "zip"=none
 tuple:mg "tuple"=none
 list:mg "list"=none
 sorted:mg "sorted"=none
 set:mg "set"=none
 range:mg "range"=none
 enumerate:mg "enumerate"=none
 dict:mg "dict"=none
 sum:mg "sum"=none
 max:mg "max"=none
 min:mg "min"=none
 reversed:mg "reversed"=none
 str:mg "str"=none
 int:mg "int"=none
 bool:mg "bool"=none
end J
end
section
namespace J
open PySem L2
structure Xf (K:a8) (base:br) (cls:Str->ah) (names:List Str) (C:ah) (j:Nat):Prop where
 ek:Mv K C
 is:∀ i n,names[i]?=some n->dA K (.ref C) (.ref (cls n))=some (decide (i=j))
 ve:dA K (.ref C) (.type "ValueError")=some true
 ox:∃ bm,Gv base C bm/\bm.contains (.ref (cls "PlanError"))=true
 lt:j<11
inductive RG (K:a8) (base:br) (cls:Str->ah) (names:List Str) (vs:List V) (H:Hp) (Q:VK) (z_3:XK):Prop
 | mk (ea C j:_) (h0:vs=[.ref ea]) (h1:H ea=some (y0 ea C)) (h2:Xf K base cls names C j) (h3:∀ t H',du H H'->H t=none->H' t=some (.tup [.str "refused",.int (j:Nat)])->Q (.ref t) H'):RG K base cls names vs H Q z_3
def Tf (K:a8) (base:br) (cls:Str->ah) (names:List Str):Sp:=RG K base cls names
def bits (j:Nat):List Bool:=[decide (0=j),decide (1=j),decide (2=j),decide (3=j),decide (4=j),decide (5=j),decide (6=j),decide (7=j),decide (8=j),decide (9=j),decide (10=j)]
theorem GH:∀ j,j<11->(bits j).countP id=1:=by
 intro j h
 have:∀ k:_root_.Fin 11,(bits k.val).countP id=1:=by decide
 exact this ⟨j,h⟩
theorem Qf:∀ j,j<11->(bits j)[j]?=some true/\∀ m,m<j->(bits j)[m]?=some false:=by
 intro j h
 have:∀ k:_root_.Fin 11,(bits k.val)[k.val]?=some true/\∀ m:_root_.Fin 11,m.val<k.val->(bits k.val)[m.val]?=some false:=by decide
 exact ⟨(this ⟨j,h⟩).1,fun m hm=>(this ⟨j,h⟩).2 ⟨m,by omega⟩ hm⟩
section
variable {X:Cx}{cls:Str->ah}{names:List Str}{base:br}
theorem lM {e0:b9}{n:Str}{p p2 pos:Pos} (h0:PE X e0 (JH 0)) (hg:Gl X "isinstance") (hm:X.mg "isinstance"=none) (hgn:Gl X n) (hmn:X.mg n=some (.ref (cls n))) (hdb:(n == ("__debug__" : Str))=false:=by decide)
  (he:az [e0,.Name n p2] X.env=(false,dz e0 X.env)::az [.Name n p2] X.env:=by rfl) (hpl:(fO pos (az [.Name n p2] X.env)).any (·.1)=false:=by rfl) :
  PE X (.Call (.Name "isinstance" p) [e0,.Name n p2] [] pos) (fun σ H Q=>∃ ea C j i,σ[0]?=some (some (V.ref ea))/\H ea=some (y0 ea C)/\Xf X.K base cls names C j/\names[i]?=some n/\Q (.bl (decide (i=j))) H) :=
 qg (nU wu hg hm jL (cb h0 (cb (BL hgn hmn (v:=.ref (cls n)) rfl hdb) eY) he) (by decide) (by decide) he hpl) fun σ H Q ⟨ea,C,j,i,h1,h2,x,h3,q⟩ =>
  ⟨_,h1,.ref ea,.ref (cls n),.ref (cls n),_,rfl,.inr ⟨_,rfl,rfl⟩,.inr ⟨ea,C,rfl,h2,x.ek,x.is i n h3⟩,q⟩
theorem Qg {e0:b9}{p p2 pos:Pos} (h0:PE X e0 (JH 0)) (hg:Gl X "isinstance") (hm:X.mg "isinstance"=none) (hgn:Gl X "ValueError") (hmn:X.mg "ValueError"=none)
  (he:az [e0,.Name "ValueError" p2] X.env=(false,dz e0 X.env)::az [.Name "ValueError" p2] X.env:=by rfl) (hpl:(fO pos (az [.Name "ValueError" p2] X.env)).any (·.1)=false:=by rfl) :
  PE X (.Call (.Name "isinstance" p) [e0,.Name "ValueError" p2] [] pos) (fun σ H Q=>∃ ea C j,σ[0]?=some (some (V.ref ea))/\H ea=some (y0 ea C)/\Xf X.K base cls names C j/\Q (.bl true) H) :=
 qg (nU wu hg hm jL (cb h0 (cb (HR hgn hmn (u:=.type "ValueError") (v:=.ty "ValueError") rfl rfl) eY) he) (by decide) (by decide) he hpl) fun σ H Q ⟨ea,C,j,h1,h2,x,q⟩ =>
  ⟨_,h1,.ref ea,.ty "ValueError",.type "ValueError",_,rfl,.inl ⟨_,rfl,rfl⟩,.inr ⟨ea,C,rfl,h2,x.ek,x.ve⟩,q⟩
end
end J
end
section
namespace J
open PySem L2
def Kj (wh:Str->Option Nat) (gb:av->R Fl):av->R Fl:=fun ρ=>match gb ρ with
 | .ok fl=>.ok fl
 | .ex y none=>match wh y with
  | some j=>.ok (.rt (.tuple [.str "refused",.int (j:Nat)]))
  | none=>.no
 | _=>.no
structure Wh (P:aI) (w:bc) (K:a8) (mg:Str->Option a9) (base:br) (cls:Str->ah) (x:Str) (names:List Str) (wh:Str->Option Nat):Prop where
 fn:∃ f fd ps,DS P w K mg base 1 f fd ps (Tf K base cls names)/\mg x=some (.ref f)/\dW K (.ref f)=true/\jv K fd ps []
 pe:mg "PlanError"=some (.ref (cls "PlanError"))
 ox:∃ bp,Gv base (cls "PlanError") bp
 xf:∀ y j,wh y=some j->Xf K base cls names (cls y) j
section
variable {c:C}{body:List cr}{x n:Str}{np np2 np3 hpos cpos rpos pos:Pos}{gb:av->R Fl}{names:List Str}{wh:Str->Option Nat}
end
end J
namespace L2
open PySem
theorem lG.mono1 {k:Nat}{A:bg} (r:lG k A) (h:1<=k:=by decide):lG 1 A:=⟨by have:=r.dp;omega,by have:=r.un;omega⟩
end L2
end
section
namespace J
open PySem L2
open PyProof.Rows (OwnCls)
abbrev Qh:List a9:=[.type "ValueError",.type "Exception",.type "BaseException",.type "object"]
theorem GI {K:a8}{h:br}{mg:Str->Option a9}{x:Str}{C:ah}{bmB:List a9}{newId:String} (X:K.In h) (G:h.Ns bN mg) (e:gN K bN x=some (some (.ref C))) (q:zW K C bmB newId=true) (m1:eB K C (.type "BaseException")=some true) :
  OwnCls x C bmB newId mg h/\∃ bm,Gv h C bm/\∀ v,(v == bK C)=false->eB K C v=some true->bm.contains v=true:=by
 have hmg:=k9 X G e
 unfold zW at q
 split at q
 ·rename_i dd cd sl look
  split at q
  ·rename_i C' bm k0 k1 k2 k3 n k5 hmro hslots
   simp only [aW,beq_iff_eq,wo] at q
   obtain ⟨⟨⟨⟨⟨rfl,rfl⟩,nodel⟩,tl⟩,nsok⟩,noinit⟩:=q
   have slots:sl=#[k0,k1,k2,k3,some (.builtin n),k5]:=by
    cases sl with | mk l=>simp only at hslots;rw [hslots]
   have inMro:∀ v,eB K C' v=some true->cd.mro.contains v=true:=fun v hv=>by
    unfold eB gX at hv
    rw [look] at hv
    simp only [oj] at hv
    split at hv
    ·cases hv
    ·exact bJ hv
   have bW:∀ v,(v == bK C')=false->eB K C' v=some true->bm.contains v=true:=fun v nv hv=>by
    have:=inMro v hv
    rw [hmro,vh,nv,Dg] at this
    exact this
   obtain ⟨nm,bs,mro,ns,qn,hd,sn,sub,ab,col,del⟩:=cd
   dsimp only at hmro nodel nsok noinit
   subst hmro nodel slots
   have at_:=X _ _ look
   exact ⟨⟨hmg,bm,ns,nm,qn,bs,hd,sn,sub,ab,col,dd,k0,k1,k2,k3,k5,_,at_,.of_isNs (PySem.W.isNs_of_in X nsok),PySem.W.nsMap_none_of_in X nsok noinit,PySem.W.tail_of_in X tl⟩,
    bm,⟨⟨nm,qn,ns,bs,hd,sn,sub,ab,col,dd,k0,k1,k2,k3,k5,n,at_⟩,bW _ rfl m1⟩,bW⟩
  ·cases q
 ·cases q
structure TopC (K:a8) (x:Str) (C:ah):Prop where
 ns:gN K bN x=some (some (.ref C))
 ex:zW K C Qh "ValueError.__new__"=true
 mb:eB K C (.type "BaseException")=some true
theorem TopC.er {K:a8}{h:br}{mg:Str->Option a9}{cls:Str->ah}{x:Str}{C:ah} (T:TopC K x C) (X:K.In h) (G:h.Ns bN mg) (hc:cls x=C):Er mg h cls x:=by
 subst hc
 exact ⟨_,_,_,_,(GI X G T.ns T.ex T.mb).1,PySem.F.excBase_ValueError⟩
theorem Qi {K:a8}{t C:ah}{cd:ClassData}{b:Bool} (h1:gX K C=some cd) (h2:xI K (.ref C)=some (.type "type")) (h3:ni K (.ref t) (.ref C)=some b) (hn:b=false->t≠C):dA K (.ref t) (.ref C)=some b:=by
 unfold dA
 split
 ·rename_i he
  have e:t=C:=by have:=eq_of_beq he;cases this;rfl
  cases b with
  | true=>rfl
  | false=>exact (hn rfl e).elim
 ·unfold Ls
  simp only [h1,h2,HL,beq_self_eq_true,j3,if_true]
  exact h3
theorem Tg {K:a8}{t:ah} (h3:ni K (.ref t) (.type "ValueError")=some true):dA K (.ref t) (.type "ValueError")=some true:=by
 unfold dA
 split
 ·rename_i he
  cases (eq_of_beq he)
 ·unfold Ls
  show (if PySem.W.kitMeta "ValueError"=true then _ else none)=some true
  rw [if_pos (by decide +kernel)]
  exact h3
inductive V9 (K:a8) (F:List D->R D) (vs:List V) (H:Hp) (Q:VK) (z_3:XK):Prop
 | mk (Hs ds d:_) (h0:du Hs H) (h1:ds.length=1) (h2:RDs K Hs vs ds) (h3:F ds=.ok d) (h4:∀ v H' Hs',cQ H Hs H' Hs'->RD K Hs' v d->Q v H'):V9 K F vs H Q z_3
def Va (K:a8) (F:List D->R D):Sp:=V9 K F
theorem Th {K:a8}{cls:Str->ah}{F:List D->R D}:∀ vs H Q E,Va K F vs H Q E->RC K cls 1 F vs H Q E:=fun vs H Q E ⟨Hs,ds,d,s,l,r,e,q⟩=>⟨Hs,ds,s,l,r,by rw [e];exact q⟩
def Vb (l:List (Str×ah)):Str->ah:=fun x=>(l.lookup x).getD 0
theorem Ti {K:a8}{F:List D->R D}{H:Hp}{a:ah}{ns:List Int} (hF:F [.list (ns.map .int)]=.ok (.bool true)) (h:lF K H a (ns.map V.int)):Va K F [.ref a] H (fun v _=>v=.bl true) fun _ _ _=>False:=by
 have ri:∀ ns:List Int,RDs K H (ns.map V.int) (ns.map .int):=fun ns=>by
  induction ns with
  | nil=>exact .nil
  | cons x r ih=>exact .cons (.int x) ih
 refine ⟨H,[.list (ns.map .int)],.bool true,.refl H,rfl,.cons (.list h (ri ns)) .nil,hF,?_⟩
 intro v H' Hs' _ r
 cases r
 rfl
theorem Tj {P:aI}{w:bc}{H:Hp}{s:af}{e:a9}{s':af} (h:mh P w [] H s (fun _ _ _=>False) e s'):False:=by
 obtain ⟨_,_,_,_,_,_,_,_,_,q⟩:=h
 exact q
theorem walkF {l:wL}{k:Nat}{q:aI}{loose:List Str}{XP:(Str->Option a9)->br->Prop}{YP:bc->br->Prop}{d:DefRec}{K:Params->a8}{x:Str}{F0:List D->R D}
  (hn:l.most=some 63) (hdf:d.params.defaults=[]) (hr:jn k wk) (hY:∀ (w:bc) (h:br),YP w h->(K w.params).In h)
  (F:∀ (w:bc) (mg:Str->Option a9) (fa:ah) (h:br),(K w.params).In h->h.Ns bN mg->mg d.name=some (.ref fa) ->
   ∃ fd:dE,(∀ (s:af) (u:a9),zN s fd ⟨[u],[]⟩ [(x,u)])/\∀ base:br,(K w.params).In base->base.Ns bN mg->sg l.prog w (K w.params) mg base (mh l.prog w) k fa fd [x] (Va (K w.params) F0))
  (hF:∀ ns:List Int,ns.length<=63->F0 [.list (ns.map .int)]=.ok (.bool true)) :
  ON q loose XP YP l.row.toRowW d [] (fun f vs=>Jt f vs) :=
 L2.PJ (n:=63) (k:=k) (x:=x) (CX:=fun w=>mh l.prog w) (sp:=fun w=>Va (K w.params) F0) hn (by decide) hdf hr hY F (fun w H a ns hl _ hS=>Ti (hF ns hl) hS) fun _ _ _ _ _ h=>Tj h
def RH (i:Nat) (g:av->R Fl):av->R Fl:=fun ρ=>g (shareAt i ρ)
theorem GJ {c:C} (i:Nat) {st:cr}{gs:av->R Fl} (h:JS c st gs):JS c st (RH i gs):=GG i h
end J
end
section
namespace J
open PySem L2
section
variable {s:Sl}{ρ:av}{d x y:D}{ds:List D}
theorem yD {α β:Type} (a:α) (f:α->R β):(R.ok a).bind f=f a:=id rfl
theorem Vc {α β:Type} (c:Str) (n:Option D) (f:α->R β):(R.ex c n:R α).bind f=.ex c n:=id rfl
def Kk (h:av->R Fl):Fl->R Fl:=fun fl=>match fl with
 | .nx ρ'=>h ρ'
 | fl=>.ok fl
theorem yE (g h:av->R Fl):aR g h (s::ρ)=(g (s::ρ)).bind (Kk h):=id rfl
theorem uO (h:av->R Fl) (ρ:av):Kk h (.nx ρ)=h ρ:=id rfl
theorem Eb (h:av->R Fl) (d:D):Kk h (.rt d)=.ok (.rt d):=id rfl
def X3 (g h:av->R Fl) (ρ:av):Bool->R Fl:=fun b=>bif b then g ρ else h ρ
theorem Vd (t:av->R Bool) (g h:av->R Fl):eM t g h (s::ρ)=(t (s::ρ)).bind (X3 g h (s::ρ)):=by
 show (t (s::ρ)).bind _=_
 congr 1
 funext b
 cases b<;>rfl
theorem MV (g h:av->R Fl) (ρ:av):X3 g h ρ false=h ρ:=id rfl
theorem MW (g h:av->R Fl) (ρ:av) (b:Bool):X3 g h ρ b=bif b then g ρ else h ρ:=id rfl
def X4:D->R Fl:=fun d=>.ok (.rt d)
theorem RI (g:av->R D):cG g (s::ρ)=(g (dB (s::ρ))).bind X4:=id rfl
theorem Ve (d:D):X4 d=.ok (.rt d):=id rfl
def yF:Sl->Sl
 | .own d=>.shr d
 | .ow2 dss=>.shr (.list (dss.map .list))
 | s=>s
theorem IA:dB (s::ρ)=yF s::dB ρ:=by cases s<;>rfl
theorem Ec:dB []=[]:=id rfl
theorem IB:yF .no=.no:=id rfl
theorem Ed (d:D):yF (.shr d)=.shr d:=id rfl
theorem Ee (d:D):yF (.own d)=.shr d:=id rfl
theorem Ef (d:List (List D)):yF (.ow2 d)=.shr (.list (d.map .list)):=id rfl
def Vf (i:Nat) (ρ:av):D->R Fl:=fun d=>.ok (.nx (ρ.set i (.shr d)))
theorem MX (i:Nat) (g:av->R D):eV i g (s::ρ)=(g (s::ρ)).bind (Vf i (s::ρ)):=id rfl
theorem MY (i:Nat) (ρ:av) (d:D):Vf i ρ d=.ok (.nx (ρ.set i (.shr d))):=id rfl
def RJ (i:Nat) (ρ:av):D->R Fl:=fun d=>.ok (.nx (ρ.set i (.own d)))
theorem MZ (i:Nat) (g:av->R D):eO i g (s::ρ)=(g (s::ρ)).bind (RJ i (s::ρ)):=id rfl
theorem IC (i:Nat) (ρ:av) (d:D):RJ i ρ d=.ok (.nx (ρ.set i (.own d))):=id rfl
def M6 (ρ:av):D->R Fl:=fun _=>.ok (.nx ρ)
theorem M_ (g:av->R D):sK g (s::ρ)=(g (s::ρ)).bind (J.M6 (s::ρ)):=id rfl
theorem ID (ρ:av) (d:D):J.M6 ρ d=.ok (.nx ρ):=id rfl
def XO (gb:av->R D) (h:D->D->R D) (ρ:av):D->R D:=fun x=>(gb ρ).bind (h x)
theorem Vg (ga gb:av->R D) (h:D->D->R D):g2 ga gb h (s::ρ)=(ga (s::ρ)).bind (XO gb h (s::ρ)):=id rfl
theorem RK (gb:av->R D) (h:D->D->R D) (ρ:av) (x:D):XO gb h ρ x=(gb ρ).bind (h x):=id rfl
def Qj:D->R Bool:=fun d=>match d with
 | .bool b=>.ok b
 | _=>.no
theorem RL (g:av->R D):eZ g (s::ρ)=(g (s::ρ)).bind Qj:=id rfl
theorem N0 (b:Bool):Qj (.bool b)=.ok b:=id rfl
def Vh:Bool->R Bool:=fun b=>.ok (!b)
theorem RM (g:av->R Bool):kr g (s::ρ)=(g (s::ρ)).bind Vh:=id rfl
theorem N1 (b:Bool):Vh b=.ok (!b):=id rfl
def Vi (h:av->R Bool) (ρ:av):Bool->R Bool:=fun b=>bif b then h ρ else .ok false
def XQ (h:av->R Bool) (ρ:av):Bool->R Bool:=fun b=>bif b then .ok true else h ρ
theorem RN (g h:av->R Bool):yh g h (s::ρ)=(g (s::ρ)).bind (Vi h (s::ρ)):=by
 show (g (s::ρ)).bind _=_
 congr 1;funext b;cases b<;>rfl
theorem Vj (g h:av->R Bool):Ik g h (s::ρ)=(g (s::ρ)).bind (XQ h (s::ρ)):=by
 show (g (s::ρ)).bind _=_
 congr 1;funext b;cases b<;>rfl
theorem N5 (h:av->R Bool) (ρ:av) (b:Bool):Vi h ρ b=bif b then h ρ else .ok false:=id rfl
theorem RO (h:av->R Bool) (ρ:av) (b:Bool):XQ h ρ b=bif b then .ok true else h ρ:=id rfl
def RP:Bool->R D:=fun b=>.ok (.bool (!b))
theorem N6 (g:av->R D):yj g (s::ρ)=((g (s::ρ)).bind Qj).bind RP:=id rfl
theorem IE (b:Bool):RP b=.ok (.bool (!b)):=id rfl
def RQ (h:av->R D) (ρ:av):Bool->R D:=fun b=>bif b then h ρ else .ok (.bool false)
theorem N7 (g h:av->R D):sI g h (s::ρ)=((g (s::ρ)).bind Qj).bind (RQ h (s::ρ)):=by
 show (eZ g (s::ρ)).bind _=(eZ g (s::ρ)).bind _
 congr 1;funext b;cases b<;>rfl
theorem IF (h:av->R D) (ρ:av) (b:Bool):RQ h ρ b=bif b then h ρ else .ok (.bool false):=id rfl
def Vk (g h:av->R D) (ρ:av):Bool->R D:=fun b=>bif b then g ρ else h ρ
theorem RS (t:av->R Bool) (g h:av->R D):W5 t g h (s::ρ)=(t (s::ρ)).bind (Vk g h (s::ρ)):=by
 show (t (s::ρ)).bind _=_
 congr 1;funext b;cases b<;>rfl
theorem N8 (g h:av->R D) (ρ:av) (b:Bool):Vk g h ρ b=bif b then g ρ else h ρ:=id rfl
def Vl (gb gc:av->R D) (h h':D->D->R D) (ρ:av):D->R D:=fun x=>(gb ρ).bind fun y=>(h x y).bind fun z=>match z with
 | .bool true=>(gc ρ).bind fun w=>h' y w
 | .bool false=>.ok (.bool false)
 | _=>.no
def Vm (gc:av->R D) (h h':D->D->R D) (ρ:av) (x:D):D->R D:=fun y=>(h x y).bind fun z=>match z with
 | .bool true=>(gc ρ).bind fun w=>h' y w
 | .bool false=>.ok (.bool false)
 | _=>.no
def Vn (gc:av->R D) (h':D->D->R D) (ρ:av) (y:D):D->R D:=fun z=>match z with
 | .bool true=>(gc ρ).bind (h' y)
 | .bool false=>.ok (.bool false)
 | _=>.no
theorem IG (ga gb gc:av->R D) (h h':D->D->R D):qx ga gb gc h h' (s::ρ)=(ga (s::ρ)).bind (Vl gb gc h h' (s::ρ)):=id rfl
theorem N9 (gb gc:av->R D) (h h':D->D->R D) (ρ:av) (x:D):Vl gb gc h h' ρ x=(gb ρ).bind (Vm gc h h' ρ x):=id rfl
theorem Na (gc:av->R D) (h h':D->D->R D) (ρ:av) (x y:D):Vm gc h h' ρ x y=(h x y).bind (Vn gc h' ρ y):=id rfl
theorem Nb (gc:av->R D) (h':D->D->R D) (ρ:av) (y:D) (b:Bool):Vn gc h' ρ y (.bool b)=bif b then (gc ρ).bind (h' y) else .ok (.bool false):=by cases b<;>rfl
def Nc (gs:av->R (List D)) (ρ:av):D->R (List D):=fun d=>(gs ρ).bind fun ds=>.ok (d::ds)
def Nd (d:D):List D->R (List D):=fun ds=>.ok (d::ds)
theorem Nf (g:av->R D) (gs:av->R (List D)):J.ae g gs (s::ρ)=(g (s::ρ)).bind (Nc gs (s::ρ)):=id rfl
theorem Eg (gs:av->R (List D)) (ρ:av) (d:D):Nc gs ρ d=(gs ρ).bind (Nd d):=id rfl
theorem Eh (d:D) (ds:List D):Nd d ds=.ok (d::ds):=id rfl
theorem RT (ρ:av):J.aE ρ=.ok []:=id rfl
def RU (k:List D->D):List D->R D:=fun ds=>if ds.length<=1000 then .ok (k ds) else .no
theorem Ng (gs:av->R (List D)) (k:List D->D):e8 gs k (s::ρ)=(gs (s::ρ)).bind (RU k):=id rfl
theorem IH (k:List D->D) (ds:List D):RU k ds=if ds.length<=1000 then .ok (k ds) else .no:=id rfl
theorem Nh (gs:av->R (List D)) (h:List D->R D):c7 gs h (s::ρ)=(gs (s::ρ)).bind h:=id rfl
def XR (n:Nat) (F:List D->R D):List D->R D:=fun ds=>if ds.length=n then F ds else .no
theorem Vo (n:Nat) (F:List D->R D) (gs:av->R (List D)):dR n F gs (s::ρ)=(gs (s::ρ)).bind (XR n F):=id rfl
theorem RV (n:Nat) (F:List D->R D) (ds:List D):XR n F ds=if ds.length=n then F ds else .no:=id rfl
theorem RW (h:D->R D) (d:D):i6 h [d]=h d:=id rfl
theorem Ni (d:D) (ρ:av):bj (.shr d::ρ) 0=.ok d:=id rfl
theorem RX (s:Sl) (ρ:av) (n:Nat):bj (s::ρ) (n + 1)=bj ρ n:=by simp [bj]
theorem Nj (d:D) (ρ:av):bh (.shr d::ρ) 0=.ok d:=id rfl
theorem Nk (d:D) (ρ:av):bh (.own d::ρ) 0=.ok d:=id rfl
theorem RY (s:Sl) (ρ:av) (n:Nat):bh (s::ρ) (n + 1)=bh ρ n:=by simp [bh]
def Vp (T:String):D->R D:=fun d=>if qf d then .ok (.bool (Ac T d)) else .no
theorem RZ (g:av->R D) (T:String):wV g T (s::ρ)=(g (s::ρ)).bind (Vp T):=id rfl
theorem Nl (T:String) (d:D):Vp T d=if qf d then .ok (.bool (Ac T d)) else .no:=id rfl
def Vq (gl gh:av->R (Option Int)) (ρ:av):D->R D:=fun x=>(gl ρ).bind fun l=>(gh ρ).bind fun h=>Iq x l h
def Vr (gh:av->R (Option Int)) (ρ:av) (x:D):Option Int->R D:=fun l=>(gh ρ).bind fun h=>Iq x l h
theorem Vs (g:av->R D) (gl gh:av->R (Option Int)):Rz g gl gh (s::ρ)=(g (s::ρ)).bind (Vq gl gh (s::ρ)):=id rfl
theorem Nm (gl gh:av->R (Option Int)) (ρ:av) (x:D):Vq gl gh ρ x=(gl ρ).bind (Vr gh ρ x):=id rfl
theorem No (gh:av->R (Option Int)) (ρ:av) (x:D) (l:Option Int):Vr gh ρ x l=(gh ρ).bind (Iq x l):=id rfl
theorem R_ (ρ:av):Ue ρ=.ok none:=id rfl
def Vt:D->R (Option Int):=fun d=>match d with
 | .int i=>.ok (some i)
 | _=>.no
theorem S0 (g:av->R D):Q3 g (s::ρ)=(g (s::ρ)).bind Vt:=id rfl
theorem Np (i:Int):Vt (.int i)=.ok (some i):=id rfl
theorem Tk (g:av->R D):jq g (s::ρ)=(g (s::ρ)).bind yr:=id rfl
theorem Nq (gs:av->R (List D)):uI gs (s::ρ)=(gs (s::ρ)).bind GE:=id rfl
theorem S1 (gs:av->R (List D)):GF gs (s::ρ)=(gs (s::ρ)).bind W7:=id rfl
theorem S2 (gs:av->R (List D)):Q8 gs (s::ρ)=(gs (s::ρ)).bind zp:=id rfl
def S3 (nt:Nat) (ix:List Nat) (gt:av->R Bool) (ge:av->R D) (ρ:av):List D->R D:=fun ds=>if ds.length<=1000 then (gK (ij nt (nY nt ix ρ) gt ge) ds).bind fun ys=>.ok (.list ys) else .no
def S4:List D->R D:=fun ys=>.ok (.list ys)
theorem Nr (nt:Nat) (ix:List Nat) (gi:av->R (List D)) (gt:av->R Bool) (ge:av->R D):dS nt ix gi gt ge (s::ρ)=(gi (s::ρ)).bind (S3 nt ix gt ge (s::ρ)):=id rfl
theorem II (nt:Nat) (ix:List Nat) (gt:av->R Bool) (ge:av->R D) (ρ:av) (ds:List D):S3 nt ix gt ge ρ ds=if ds.length<=1000 then (gK (ij nt (nY nt ix ρ) gt ge) ds).bind S4 else .no:=id rfl
theorem IJ (ys:List D):S4 ys=.ok (.list ys):=id rfl
theorem pS (gi:av->R (List D)) (kt:D->av->R av) (gb:av->R Fl) (ds:List D) (h:gi (s::ρ)=.ok ds):lK gi kt gb (s::ρ)=iY kt gb ds (s::ρ):=by unfold lK;rw [h]
def Nt (k:D->av->R av) (ρ:av):D->R Fl:=fun d=>match k d ρ with
 | .ok ρ'=>.ok (.nx ρ')
 | _=>.no
theorem S5 (g:av->R D) (k:D->av->R av):yp g k (s::ρ)=(g (s::ρ)).bind (Nt k (s::ρ)):=id rfl
theorem AZ (ds:List D):yr (.list ds)=.ok ds:=id rfl
theorem A_ (ds:List D):yr (.tuple ds)=.ok ds:=id rfl
theorem B0 (x:Str):yr (.str x)=.ok (nz x):=id rfl
theorem Nu (ds:List D):W7 [.tuple ds]=.ok (iR 0 ds):=id rfl
theorem Vu (ds es:List D):zp [.tuple ds,.tuple es]=.ok (wW ds es):=id rfl
def B1 (ρ:av) (i:Nat):Sl:=Qa ((ρ[i]?).getD .no)
def Nv (ix:List Nat) (ρ:av):av:=ix.map (B1 ρ)
theorem Nw (ix:List Nat) (ρ:av):nY 1 ix ρ=.no::Nv ix ρ:=id rfl
theorem Nx (ix:List Nat) (ρ:av):nY 2 ix ρ=.no::.no::Nv ix ρ:=id rfl
theorem Ny (ρ:av):Nv [] ρ=[]:=id rfl
theorem Nz (i:Nat) (ix:List Nat) (ρ:av):Nv (i::ix) ρ=B1 ρ i::Nv ix ρ:=id rfl
theorem NA (s:Sl) (ρ:av):B1 (s::ρ) 0=Qa s:=id rfl
theorem NB (s:Sl) (ρ:av) (n:Nat):B1 (s::ρ) (n + 1)=B1 ρ n:=by simp [B1]
theorem B2 (d:D):Qa (.shr d)=.shr d:=id rfl
theorem Cj {i:Nat}{ρ:av}{d:D} (h:ρ[i]?=some (Sl.own d)):shareAt i ρ=ρ.set i (.shr d):=by unfold shareAt;rw [h]
theorem dP {α:Type} (f:D->R (Option D)) (c:α->D) (h:α->D):∀ (xs:List α),(∀ x∈xs,f (c x)=.ok (some (h x)))->gK f (xs.map c)=.ok (xs.map h)
 | [],_=>rfl
 | x::r,e=>by
  rw [aG,aG]
  unfold gK
  rw [e x ap,bind_ok,dP f c h r fun y hy=>e y (am _ hy),bind_ok]
theorem dH {α:Type} (f:D->R (Option D)) (c:α->D) (h:α->D) (p:α->Bool):∀ (xs:List α),(∀ x∈xs,f (c x)=.ok (if p x then some (h x) else none))->gK f (xs.map c)=.ok ((xs.filter p).map h)
 | [],_=>rfl
 | x::r,e=>by
  rw [aG]
  unfold gK
  rw [e x ap,bind_ok,dH f c h p r fun y hy=>e y (am _ hy),bind_ok]
  cases hp:p x<;>simp [hp]
theorem S6 {ρ:av}{gt:av->R Bool}{ge:av->R D}{d:D}:ij 1 ρ gt ge d=Kf (((gt (ρ.set 0 (.shr d)))).bind fun b=>if b then (ge (ρ.set 0 (.shr d))).bind fun y=>.ok (some y) else .ok none):=id rfl
theorem fM {ρ:av}{gt:av->R Bool}{ge:av->R D}{d y:D} (h1:gt (ρ.set 0 (.shr d))=.ok true) (h2:ge (ρ.set 0 (.shr d))=.ok y):ij 1 ρ gt ge d=.ok (some y):=by
 rw [S6,h1,bind_ok,if_pos rfl,h2];rfl
theorem jA {ρ:av}{gt:av->R Bool}{ge:av->R D}{d y:D}{b:Bool} (h1:gt (ρ.set 0 (.shr d))=.ok b) (h2:b=true->ge (ρ.set 0 (.shr d))=.ok y):ij 1 ρ gt ge d=.ok (if b then some y else none):=by
 rw [S6,h1,bind_ok]
 cases b with
 | true=>rw [if_pos rfl,h2 rfl];rfl
 | false=>rfl
theorem Qk {j:Int} (h1:-(2 ^ 62)<=j) (h2:j<2 ^ 62):GE [.int j]=.ok (qA 0 j.toNat):=by
 have h:-(2 ^ 62)<=j/\j<2 ^ 62:=⟨h1,h2⟩
 unfold GE
 split
 ·rename_i j' e
  have e':j=j':=by injection e with e;injection e
  subst e'
  rw [if_pos h]
 ·rename_i hn
  exact (hn j rfl).elim
end
end J
end
section
namespace L2
open PySem PySem.Spec PyProof.Rows
theorem NC {X:Cx}{CX:HW}{k i:Nat}{f:ah}{fd:dE}{ps:List Str}{sp:Sp}{x:Str}{p pos:Pos}{e:b9}{es:List b9}{t:TA}{E:XK}{ds:List a9}{dvs:List V}
  (F:sg X.prog X.w X.K X.mg X.base CX k f fd ps sp) (hr:jn k X.A) (hN:X.N[i]?=some x) (hv:Lf X.env.scope x) (hk:dW X.K (.ref f)=true) (hb:jv X.K fd ps ds) (hd:dn dvs ds) (hx:jw CX X E)
  (ha:PA X (e::es) t) (hdb:(x == ("__debug__" : Str))=false:=by decide) (hcd:(x == ("__classdict__" : Str))=false:=by decide) (he:az (e::es) X.env=(false,dz e X.env)::az es X.env:=by rfl) (hpl:(fO pos (az es X.env)).any (·.1)=false:=by rfl) :
  PE X (.Call (.Name x p) (e::es) [] pos) (fun σ H Q=>σ[i]?=some (some (V.ref f))/\HX sp dvs E t σ H Q):=by
 intro pins s σ H Q I ⟨hi,h⟩
 refine jN (fD (nl hN hv hdb hcd pins s σ H (fun v H'=>v=V.ref f/\H'=H) I ⟨.ref f,hi,rfl,rfl⟩) fun u s0 ⟨v,H0,I0,r0,ev,eh⟩=>?_)
 subst ev eh
 cases r0
 refine sR (h₀:=X.base) I0.ok.mod.kin hk (fD (ha pos pins s0 σ H0 _ I0 h) fun us s1 ⟨vs,H1,I1,r,q⟩=>⟨I1.kIn,?_⟩) he hpl
 exact LY F hr hb hd hx I1 r q
end L2
namespace J
open PySem L2
open PyProof.Rows (envOfC)
def B3 (wh:Str->Option Nat):R D->R D
 | .ok d=>.ok d
 | .ex y none=>match wh y with
  | some j=>.ok (.tuple [.str "refused",.int (j:Nat)])
  | none=>.no
 | _=>.no
def yG (wh:Str->Option Nat) (F:List D->R D):List D->R D:=fun ds=>B3 wh (F ds)
def XS (K:a8) (cls:Str->ah) (n:Nat) (a:ah) (F:List D->R D):Sp:=fun vs H Q E=>∃ vs',vs=V.ref a::vs'/\RC K cls n F vs' H Q E
structure W9 (P:aI) (w:bc) (K:a8) (mg:Str->Option a9) (base:br) (cls:Str->ah) (x y:Str) (k n:Nat) (F:List D->R D):Prop where
 ex:∃ f fd ps a,sg P w K mg base (mh P w) k f fd ps (XS K cls n a F)/\mg x=some (.ref f)/\dW K (.ref f)=true/\jv K fd ps []/\mg y=some (.ref a)
section
variable {c:C}{e a b:b9}{g ga gb:av->R D}{pos rpos:Pos}{es:List b9}{gs:av->R (List D)}{x y:Str}{p q:Pos}
theorem Ql {k n:Nat}{F:List D->R D} (G:W9 c.X.prog c.X.w c.X.K c.X.mg c.X.base c.cls x y k n F) (hr:jn k c.X.A) (hg:Gl c.X x) (hgy:Gl c.X y) (hx:jw (mh c.X.prog c.X.w) c.X c.E) (ha:Dk c es gs)
  (hdb:(x == ("__debug__" : Str))=false:=by decide) (hdy:(y == ("__debug__" : Str))=false:=by decide) (he:az (.Name y q::es) c.X.env=(false,dz (.Name y q) c.X.env)::az es c.X.env:=by rfl) (hpl:(fO pos (az es c.X.env)).any (·.1)=false:=by rfl) :
  JE c (.Call (.Name x p) (.Name y q::es) [] pos) (dR n F gs):=.of fun ρ=>by
 obtain ⟨f,fd,ps,a,hf,hm,hk,hb,hy⟩:=G.ex
 refine qg (HY (E:=c.E) hf hr hg hm hk hb .nil hx (cb (BL (v:=.ref a) hgy hy rfl hdy) (ha ρ) he) hdb he hpl) fun σ H Q h_0=>?_
 obtain ⟨H0,Hs0,la,Hs,fr,q⟩:=h_0
 show UR c.X.K c.cls c.E ρ (gs ρ) σ H fun xs H2=>XS c.X.K c.cls n a F (V.ref a::xs++[]) H2 Q c.E
 refine A8 fr q fun ds vs H1 Hs1 e1 s1 f1 r1=>?_
 unfold dR at q
 rw [e1,bind_ok] at q
 by_cases hn:ds.length=n
 ·rw [if_pos hn] at q
  rw [bT]
  exact ⟨vs,rfl,Hs1,ds,f1.st.sub,hn,r1,q.on s1 fun d k v H2 Hs2 s2 r2=>k v H2 Hs2 (s1.trans s2) r2⟩
 ·rw [if_neg hn] at q;exact q.elim
theorem Tl {i k n:Nat}{F:List D->R D}{f:ah}{fd:dE}{ps:List Str} (hf:sg c.X.prog c.X.w c.X.K c.X.mg c.X.base (mh c.X.prog c.X.w) k f fd ps (RC c.X.K c.cls n F)) (hk:dW c.X.K (.ref f)=true) (hb:jv c.X.K fd ps []) (hr:jn k c.X.A) (hx:jw (mh c.X.prog c.X.w) c.X c.E) (ha:Dk c (e::es) gs)
  (hN:c.X.N[i]?=some x:=by rfl) (hv:Lf c.X.env.scope x:=by first | exact gx rfl | exact d_ (gx rfl) | exact d_ (d_ rfl)) (hdb:(x == ("__debug__" : Str))=false:=by decide) (hcd:(x == ("__classdict__" : Str))=false:=by decide) (he:az (e::es) c.X.env=(false,dz e c.X.env)::az es c.X.env:=by rfl) (hpl:(fO pos (az es c.X.env)).any (·.1)=false:=by rfl) (ρ:av) :
  PS c.X (.Return (some (.Call (.Name x p) (e::es) [] pos)) rpos) (fun D σ H=>σ[i]?=some (some (V.ref f))/\SR c.X.K c.cls c.E ρ (cG (dR n F gs) ρ) D σ H):=by
 refine yf (BM (NC (E:=c.E) hf hr hN hv hk hb .nil hx (ha (dB ρ)) hdb hcd he hpl)) fun D σ H ⟨hi,H0,Hs0,la,Hs,fr,q⟩=>⟨hi,?_⟩
 obtain ⟨Hs',f'⟩:=fr.shared
 have t:TR c.X.K c.cls c.E (dB ρ) (dR n F gs (dB ρ)) σ H D.rt:=sE f' q fun d v H1 Hs1 e1 s1 f1 r1=>by
  unfold cG at q
  rw [e1,bind_ok] at q
  exact q v H1 Hs1 f1.st r1
 clear q f' fr
 obtain ⟨H0,Hs0,la,Hs,fr,q⟩:=t
 show UR c.X.K c.cls c.E (dB ρ) (gs (dB ρ)) σ H fun xs H2=>RC c.X.K c.cls n F (xs++[]) H2 D.rt c.E
 refine A8 fr q fun ds vs H1 Hs1 e1 s1 f1 r1=>?_
 unfold dR at q
 rw [e1,bind_ok] at q
 by_cases hn:ds.length=n
 ·rw [if_pos hn] at q
  rw [bT]
  exact ⟨Hs1,ds,f1.st.sub,hn,r1,q.on s1 fun d k v H2 Hs2 s2 r2=>k v H2 Hs2 (s1.trans s2) r2⟩
 ·rw [if_neg hn] at q;exact q.elim
end
section
variable {c:C}{body:List cr}{x n:Str}{np np2 np3 hpos cpos rpos pos:Pos}{gb:av->R Fl}{names:List Str}{wh:Str->Option Nat}
theorem Tn (i j:Nat) {a:ah}{ρ:av} (W:Wh c.X.prog c.X.w c.X.K c.X.mg c.X.base c.cls x names wh) (hb:∀ (E:XK) (xe:a9->af->Prop) (pn:List (ah×Obj)),jw (mh c.X.prog c.X.w) (Rs c.X xe pn) E->z_ (Rs c.X xe pn) body (fun D σ H=>σ[j]?=some (some (V.ref a))/\SR c.X.K c.cls E ρ (gb ρ) D σ H))
  (hr:lG 1 c.X.A) (hgx:Gl c.X x) (hg:Gl c.X "PlanError") (hN:c.X.N.Nodup) (hi:c.X.N[i]?=some n:=by rfl) (hn:c.X.env.scope.names.lookup n=some .local:=by rfl)
  (hst:∃ l,c.X.stack=c.X.env::l/\c.X.env.frame=some c.X.env.locals:=by exact ⟨_,rfl,rfl⟩) (hex:c.X.ex=[]:=by rfl) (hdb:(x == ("__debug__" : Str))=false:=by decide) (hd:(n == ("__debug__" : Str))=false:=by decide) (hcd:(n == ("__classdict__" : Str))=false:=by decide) :
  PS c.X (.Try body [.ExceptHandler (some (.Name "PlanError" np)) (some n) [.Return (some (.Call (.Name x np2) [.Name n np3] [] cpos)) rpos] hpos] [] [] pos) (fun D σ H=>σ[j]?=some (some (V.ref a))/\SR c.X.K c.cls c.E ρ (Kj wh gb ρ) D σ H):=by
 obtain ⟨f,fd,ps,F,hm,hk,hbn⟩:=W.fn
 obtain ⟨bp,y⟩:=W.ox
 have hs:∀ ea,z_ (Uc c.X ea) [.Return (some (.Call (.Name x np2) [.Name n np3] [] cpos)) rpos] (Ul (HX (Tf c.X.K c.X.base c.cls names) [] E0 (Du (JH i) LW))):=fun ea =>
  ul (BM (Mx (X:=Uc c.X ea) F (hr.mark _) hgx hm hk hbn (cb (nl hi (.inl hn) hd hcd) eY) hdb))
 refine yf (T7 hg W.pe y hN hi hn hst hex (tb:=fun E D σ H=>σ[j]?=some (some (V.ref a))/\SR c.X.K c.cls E ρ (gb ρ) D σ H) (fun E xe pn hp=>hb E xe pn hp) hs) fun D σ H h_1=>?_
 obtain ⟨hj,H0,Hs0,la,Hs,fr,q⟩:=h_1
 replace q:nX c.X.K c.cls c.E H0 Hs0 la D (Kj wh gb ρ):=q
 refine ⟨hj,H0,Hs0,la,Hs,fr,?_⟩
 unfold Kj at q
 cases hr':gb ρ with
 | no=>rw [hr'] at q;exact q
 | ok fl =>
  rw [hr'] at q
  cases fl<;>exact q
 | ex z m =>
  rw [hr'] at q
  cases m with
  | some d=>exact q.elim
  | none =>
   simp only at q
   cases hw:wh z with
   | none=>rw [hw] at q;exact q.elim
   | some j =>
    rw [hw] at q
    have X0:=W.xf z j hw
    intro H' Hs' st
    obtain ⟨bm,o1,o2⟩:=X0.ox
    refine ⟨c.cls z,bm,rfl,o1,o2,fun ea hea=>?_⟩
    have hl:i<c.X.N.length:=(List.getElem?_eq_some_iff.mp hi).1
    refine ⟨.ref ea,aH (by simpa [y8] using hl),ea,c.cls z,j,rfl,aV,X0,fun t H2 sm ht hT=>?_⟩
    have s1:du H' (upd H' ea (y0 ea (c.cls z))):=iQ hea
    have ht':H' t=none:=s1.free ht
    refine q (.ref t) H2 (upd Hs' t (.tup [.str "refused",.int (j:Nat)])) ?_ (.tuple aV (.cons (.str _) (.cons (.int _) .nil)))
    refine st.trans ⟨s1.trans sm,iQ (st.sub.free ht'),fun b u e=>?_,fun a o e _ z=>by rw [aT (bi e ht')];exact z⟩
    by_cases hb':b=t
    ·subst hb';rw [aV] at e;cases e;exact hT
    ·rw [aT hb'] at e;exact sm b u (s1 b u (st.sub b u e))
end
theorem Fr.consNo {K:a8}{H0 Hs0 H Hs:Hp}{ρ:av}{σ:St}{v:V} (f:Fr K H0 Hs0 (fun _=>none) ρ σ H Hs):Fr K H0 Hs0 (fun _=>none) (.no::ρ) (some v::σ) H Hs:=by
 refine ⟨f.st,congrArg (· + 1) f.len,fun i d h=>?_,fun i d h=>?_,fun i d h=>?_,fun i j d e a h1 h2 h3 h4=>?_,fun i a h=>(nomatch h),fun i d h=>?_,fun i j d e h1 h2=>?_⟩
 ·cases i with
  | zero=>cases h
  | succ i=>exact f.sh i d h
 ·cases i with
  | zero=>cases h
  | succ i=>exact f.ow i d h
 ·cases i with
  | zero=>cases h
  | succ i=>exact f.lk i d h
 ·cases i with
  | zero=>cases h1
  | succ i =>
   cases j with
   | zero=>cases h2
   | succ j=>exact congrArg (· + 1) (f.dj i j d e a h1 h2 h3 h4)
 ·cases i with
  | zero=>cases h
  | succ i =>
   obtain ⟨a,as,o⟩:=f.o2 i d h
   refine ⟨a,as,o.at_,o.ob,o.nd,o.out,fun b hb j e h1=>?_,o.inn⟩
   cases j with
   | zero=>cases h1
   | succ j=>exact o.dj b hb j e h1
 ·cases i with
  | zero=>cases h1
  | succ i =>
   cases j with
   | zero=>cases h2
   | succ j=>exact congrArg (· + 1) (f.u2 i j d e h1 h2)
def Qm (n:Nat) (g:av->R Fl):List D->R D:=fun ds=>match g (.no::bB n ds) with
 | .ok (.nx _)=>.ok .none
 | .ok (.rt d)=>.ok d
 | .ex c m=>.ex c m
 | _=>.no
theorem Qn {P:aI}{w:bc}{K:a8}{mg:Str->Option a9}{base:br}{cls:Str->ah}{x y x0 qual:Str}{st:cr}{f a:ah}{fd:dE}{N ps:List Str}{k n:Nat}{g:av->R Fl}{F:List D->R D} (Fu:DB K x qual st f fd) (S:bu (x0::N) ps (aw st)) (hm:mg x=some (.ref f)) (hb:jv K fd ps []) (hy:mg y=some (.ref a)) (hps:ps.length=n + 1)
  (h:∀ (cdv:a9) (A:bg) (outer:List Env) (s:af) (H:Hp) (E:XK),jn k (A.deeper (iU qual (aw st) s.heap.objs.size f cdv))->∀ ρ,z_ (iV (mh P w) P w K mg base (x0::N) qual (aw st) f cdv A outer s H E) (iu st) (fun D σ H=>σ[0]?=some (some (V.ref a))/\SR K cls E ρ (g ρ) D σ H))
  (hF:∀ ds,ds.length=n->Qm N.length g ds=F ds):W9 P w K mg base cls x y (k + 1) n F:=by
 refine ⟨f,fd,ps,a,?_,hm,Fu.kp,hb,hy⟩
 obtain ⟨oc,od,kV,doc,pm,an,cdv,ct,osl,rfl,lk,hcd⟩:=Fu.ex
 refine Re lk hcd S (fun vs H Q E h_2=>by obtain ⟨vs',e,Hs,ds,sub,hn,r,q⟩:=h_2;exact by rw [e,aX,r.length,hn,hps]) fun A outer s H vs Q E hr hsp=>?_
 obtain ⟨vs',rfl,Hs,ds,sub,hn,r,q⟩:=hsp
 have fs:Fr K H Hs (fun _=>none) (.no::bB N.length ds) (L2.start (x0::N) (V.ref a::vs')) H Hs:=by
  have:=(Fr.start (N:=N) sub r).consNo (v:=V.ref a)
  have e:L2.start (x0::N) (V.ref a::vs')=some (V.ref a)::L2.start N vs':=by
   unfold L2.start
   rw [aG,aX,aX,Nat.add_sub_add_right]
   rfl
  rw [e]
  exact this
 refine ⟨_,h cdv A outer s H E hr (.no::bB N.length ds),rfl,H,Hs,_,Hs,fs,?_⟩
 rw [<- hF ds hn] at q
 unfold Qm at q
 cases hg:g (.no::bB N.length ds) with
 | no=>rw [hg] at q;exact q
 | ex c n=>rw [hg] at q;exact q
 | ok fl =>
  rw [hg] at q
  cases fl with
  | nx ρ'=>exact fun σ' H' Hs' f'=>q .non H' Hs' f'.st .none
  | rt d=>exact fun v H' Hs' s r=>q v H' Hs' s r
  | bk ρ'=>exact q.elim
  | ct ρ'=>exact q.elim
theorem ND {wh:Str->Option Nat}{n:Nat}{F:List D->R D}{gs:av->R (List D)}{m:Nat}{ds:List D} (h:gs (dB (.no::bB m ds))=.ok ds) (hl:ds.length=n):Qm m (Kj wh (cG (dR n F gs))) ds=yG wh F ds:=by
 unfold Qm Kj cG dR yG B3
 rw [h,bind_ok,if_pos hl]
 cases F ds with
 | ok d=>rfl
 | no=>rfl
 | ex z o =>
  cases o with
  | some d=>rfl
  | none =>
   show (match (match wh z with
    | some j=>R.ok (Fl.rt (.tuple [.str "refused",.int (j:Nat)]))
    | none=>R.no:R Fl) with
    | .ok (.nx _)=>R.ok PyData.none
    | .ok (.rt d)=>.ok d
    | .ex c m=>.ex c m
    | _=>.no)=_
   cases hw:wh z<;>simp only [hw]
theorem Y2 {α:Type}{us:List α} (h:us.length=1):∃ a,us=[a]:=by
 rcases us with _ | ⟨a0,_ | ⟨z,r⟩⟩
 ·simp at h
 ·exact ⟨_,rfl⟩
 ·simp at h
theorem Y3 {α:Type}{us:List α} (h:us.length=2):∃ a b,us=[a,b]:=by
 rcases us with _ | ⟨a0,_ | ⟨a0,_ | ⟨z,r⟩⟩⟩
 ·simp at h
 ·simp at h
 ·exact ⟨_,_,rfl⟩
 ·simp at h
theorem Y4 {α:Type}{us:List α} (h:us.length=3):∃ a b c,us=[a,b,c]:=by
 rcases us with _ | ⟨a0,_ | ⟨a0,_ | ⟨a0,_ | ⟨z,r⟩⟩⟩⟩
 ·simp at h
 ·simp at h
 ·simp at h
 ·exact ⟨_,_,_,rfl⟩
 ·simp at h
theorem Y5 {α:Type}{us:List α} (h:us.length=4):∃ a b c d,us=[a,b,c,d]:=by
 rcases us with _ | ⟨a0,_ | ⟨a0,_ | ⟨a0,_ | ⟨a0,_ | ⟨z,r⟩⟩⟩⟩⟩
 ·simp at h
 ·simp at h
 ·simp at h
 ·simp at h
 ·exact ⟨_,_,_,_,rfl⟩
 ·simp at h
theorem Y6 {α:Type}{us:List α} (h:us.length=5):∃ a b c d e,us=[a,b,c,d,e]:=by
 rcases us with _ | ⟨a0,_ | ⟨a0,_ | ⟨a0,_ | ⟨a0,_ | ⟨a0,_ | ⟨z,r⟩⟩⟩⟩⟩⟩
 ·simp at h
 ·simp at h
 ·simp at h
 ·simp at h
 ·simp at h
 ·exact ⟨_,_,_,_,_,rfl⟩
 ·simp at h
end J
end
section
namespace J
open PySem L2
section
variable {c:C}{e a b l tg:b9}{g ga gb:av->R D}{pos p:Pos}{gs:av->R (List D)}{es:List b9}{x:Str}
end
end J
end
section
namespace HT
open PySem PyProof.Rows
section
open PySem.SeqAt
open PySem.AutoSeq1 (wpAny_loadPart')
open PySem.MeetsSeq PySem.MeetsSeq2 PySem.MeetsSeq3
variable {prog:aI}{w:bc}{A:bg}{E:a9->af->Prop}{s:af}
end
end HT
namespace L2
open PySem PySem.Spec PyProof.Rows
section
variable {X:Cx}{e st:b9}{te ts:TE}{pos p2:Pos}
end
end L2
namespace J
open PySem L2
section
variable {c:C}{e:b9}{g:av->R D}{pos p2 p3 p4:Pos}
end
end J
end
section
namespace L2
open PySem
def Li (mask:Nat):Nat->Nat×Nat->Nat×Nat
 | 0,x=>x
 | n + 1,x=>Li mask n (SetTable.leap mask x.1 x.2)
theorem IK (mask:Nat):∀ (n m:Nat) (x:Nat×Nat),Li mask (n + m) x=Li mask m (Li mask n x)
 | 0,m,x=>by rw [G5];rfl
 | n + 1,m,x=>by
  rw [Nat.succ_add]
  exact IK mask n m _
theorem IL (mask:Nat):∀ (n:Nat) (x:Nat×Nat),(Li mask n x).2=x.2 / 32 ^ n
 | 0,x=>by simp [Li]
 | n + 1,x=>by
  show (Li mask n _).2=_
  rw [IL mask n]
  show x.2 / 32 / 32 ^ n=_
  rw [Nat.div_div_eq_div_mul,Nat.pow_succ,G6]
theorem IM (mask:Nat):∀ (n:Nat) (x:Nat×Nat),x.1<=mask->(Li mask n x).1<=mask
 | 0,x,h=>h
 | n + 1,x,h=>IM mask n _ (by
  show (x.1 * 5 + 1 + x.2 / 32) % (mask + 1)<=mask
  exact wM (BH _ (G7 _)))
theorem B4 {mask:Nat}{owner:Array (Option Nat)}:∀ (fuel i p:Nat),dG mask owner fuel i p=none->∀ n,n<fuel->(owner.getD (Li mask n (i,p)).1 (some 0)).isSome=true
 | 0,_,_,_,n,h=>absurd h (q_ n)
 | fuel + 1,i,p,e,n,h=>by
  unfold dG at e
  split at e
  ·cases e
  ·rename_i hf
   cases n with
   | zero =>
    have h0:=List.find?_eq_none.mp hf 0 (List.mem_range.mpr (by unfold SetTable.runEnd;split<;>omega))
    simp only [wN] at h0
    show (owner.getD i (some 0)).isSome=true
    cases q:owner.getD i (some 0) with
    | none=>rw [q] at h0;exact absurd rfl h0
    | some _=>rfl
   | succ n=>exact B4 fuel _ _ e n (G8 h)
theorem B5 {mask:Nat}{owner:Array (Option Nat)}:∀ (fuel i p k:Nat),dG mask owner fuel i p=some k->owner.getD k (some 0)=none
 | 0,_,_,_,e=>nomatch e
 | fuel + 1,i,p,k,e=>by
  unfold dG at e
  split at e
  ·rename_i k' hf
   cases e
   have:=List.find?_some hf
   cases q:owner.getD (i + k') (some 0) with
   | none=>rfl
   | some _=>rw [q] at this;cases this
  ·exact B5 fuel _ _ k e
def Lj (mask:Nat):Prop:=mask=7\/mask=15\/mask=31
def Vv (mask:Nat):Bool:=(bw (mask + 1)).all fun i=>(bw (mask + 1)).all fun j=>(bw (mask + 1)).any fun n=>decide ((Li mask n (i,0)).1=j)
theorem Qo {mask:Nat} (h:Lj mask):Vv mask=true:=by
 rcases h with h | h | h<;>subst h<;>decide +kernel
theorem getD_none {owner:Array (Option Nat)}{k:Nat} (h:owner.getD k (some 0)=none):owner.toList[k]?=some none:=by
 by_cases hk:k<owner.size
 ·rw [i4,iO hk] at h
  rw [dC,iO hk]
  simpa using h
 ·rw [i4,Array.getElem?_eq_none (by omega)] at h
  cases h
theorem Kl {mask:Nat} (hm:Lj mask) {owner:Array (Option Nat)}{j:Nat} (hj:j<=mask) (hn:owner.toList[j]?=some none) {i p:Nat} (hi:i<=mask) (hp:p<2 ^ 64) :
  ∃ k,dG mask owner (qd mask) i p=some k/\owner.toList[k]?=some none:=by
 cases e:dG mask owner (qd mask) i p with
 | some k=>exact ⟨k,rfl,getD_none (B5 _ _ _ _ e)⟩
 | none =>
  exfalso
  have hz:(Li mask 13 (i,p)).2=0:=by
   rw [IL]
   exact Nat.div_eq_of_lt (aK hp (by decide))
  have h1:=IM mask 13 (i,p) hi
  have g:=Qo hm
  unfold Vv at g
  rw [cq] at g
  have g:=g _ (List.mem_range.mpr (OS h1))
  rw [cq] at g
  have g:=g j (List.mem_range.mpr (OS hj))
  rw [gI] at g
  obtain ⟨n,hn1,hn2⟩:=g
  have hn1:=List.mem_range.mp hn1
  have hn2:=of_decide_eq_true hn2
  have hs:(Li mask (13 + n) (i,p)).1=j:=by
   rw [IK,<- hn2,<- hz]
  have:=B4 _ _ _ e (13 + n) (by unfold qd;omega)
  rw [hs] at this
  have hq:owner.getD j (some 0)=none:=by
   rw [dC] at hn
   rw [i4,hn]
   rfl
  rw [hq] at this
  cases this
theorem Qp (h:Int):mB h<2 ^ 64:=by
 unfold mB
 have:=nj h (show (0:Int)<2 ^ 64 by decide)
 have:=r6 h (show (2 ^ 64:Int)≠0 by decide)
 omega
theorem Ei {k:Nat}:∀ {l:List (Option Nat)}{j:Nat},l[j]?=some none->((l.set j (some k)).filterMap id).Perm (k::l.filterMap id)
 | [],_,h=>nomatch h
 | x::r,0,h=>by
  cases h
  exact .refl _
 | x::r,j + 1,h=>by
  have ih:=Ei (k:=k) (l:=r) (j:=j) h
  cases x with
  | none=>exact ih
  | some y=>exact (ih.cons y).trans (.swap k y _)
theorem Ej:∀ {l:List (Option Nat)},(l.filterMap id).length<l.length->∃ j,j<l.length/\l[j]?=some none
 | [],h=>absurd h (cj 0)
 | none::r,_=>⟨0,G7 _,rfl⟩
 | some y::r,h=>by
  obtain ⟨j,h1,h2⟩:=Ej (l:=r) (G8 h)
  exact ⟨j + 1,Nat.succ_lt_succ h1,h2⟩
def IN (mask:Nat) (acc:Option (Array (Option Nat)×Nat)) (h:Int):Option (Array (Option Nat)×Nat):=acc.bind fun x=>(dG mask x.1 (qd mask) (mB h % (mask + 1)) (mB h)).bind fun j=>some (x.1.setIfInBounds j (some x.2),x.2 + 1)
theorem Ek (mask:Nat) (hs:Array Int):u7 mask hs=(hs.toList.foldl (IN mask) (some (xJ (mask + 1) none,0))).map (·.1):=by
 rw [Array.foldl_toList]
 rfl
theorem IP {mask:Nat} (hm:Lj mask):∀ (l:List Int) (owner:Array (Option Nat)) (k:Nat),owner.size=mask + 1->(owner.toList.filterMap id).Perm (bw k)->k + l.length<=mask ->
  ∃ o',l.foldl (IN mask) (some (owner,k))=some (o',k + l.length)/\o'.size=mask + 1/\(o'.toList.filterMap id).Perm (bw (k + l.length))
 | [],owner,k,h1,h2,_=>⟨owner,rfl,h1,h2⟩
 | h::r,owner,k,h1,h2,h3=>by
  simp only [aX] at h3 ⊢
  obtain ⟨j,j1,j2⟩:=Ej (l:=owner.toList) (by rw [h2.length_eq,f9,ar,h1];omega)
  rw [ar,h1] at j1
  obtain ⟨m,m1,m2⟩:=Kl hm (wM j1) j2 (i:=mB h % (mask + 1)) (wM (BH _ (G7 _))) (Qp h)
  have e:IN mask (some (owner,k)) h=some (owner.setIfInBounds m (some k),k + 1):=by
   unfold IN
   simp only [oj,m1]
  rw [dM,e]
  obtain ⟨o',a1,a2,a3⟩:=IP hm r (owner.setIfInBounds m (some k)) (k + 1) (by rw [Array.size_setIfInBounds];exact h1) (by
   rw [Array.toList_setIfInBounds]
   refine (Ei m2).trans ?_
   rw [List.range_succ]
   exact ((h2.cons k).trans (List.perm_append_singleton k _).symm)) (by omega)
  rw [show k + 1 + r.length=k + (r.length + 1) by omega] at a1 a3
  exact ⟨o',a1,a2,a3⟩
theorem IQ {n:Nat}{o:Array (Option Nat)} (h:o.size=n):(bw n).filterMap (fun j=>o.getD j none)=o.toList.filterMap id:=by
 have e:(bw n).map (fun j=>o.getD j none)=o.toList:=by
  refine xj (by simp [h]) fun i h1 h2=>?_
  simp only [al,f9] at h1
  rw [pP,Le,i4,iO (by omega)]
  simp
 rw [<- e,mr]
 rfl
theorem IR {mask finger moves:Nat}{led plain:Bool}{hs:Array Int} (hm:Lj mask) (hl:hs.size<=mask):∃ place order,zJ mask finger moves led plain hs=some ({ mask,place,dummies:=#[],finger,led,moves,plain },order)/\place.size=hs.size/\order.toList.Perm (bw hs.size):=by
 obtain ⟨o,h1,h2,h3⟩:=IP hm hs.toList (xJ (mask + 1) none) 0 (by simp) (by
  have:(xJ (mask + 1) (none:Option Nat)).toList.filterMap id=[]:=by
   rw [Array.toList_replicate,List.filterMap_eq_nil_iff]
   intro x hx
   rw [(List.mem_replicate.mp hx).2]
   rfl
  rw [this]
  exact .refl _) (by rw [ar];omega)
 have hc:u7 mask hs=some o:=by
  rw [Ek,h1]
  rfl
 rw [G5,ar] at h3
 refine ⟨_,_,by unfold zJ;rw [hc];rfl,?_,?_⟩
 ·have e:=congrArg sx (IQ h2)
  rw [h3.length_eq,f9] at e
  rw [aJ,al,<- e]
  rw [wO,wO]
  congr 1
  funext j
  cases o.getD j none<;>rfl
 ·rw [List.map_filterMap]
  refine .trans (.of_eq ?_) h3
  rw [<- IQ h2]
  show List.filterMap _ _=List.filterMap _ _
  congr 1
  funext j
  cases o.getD j none<;>rfl
end L2
namespace L2
open PySem
section
variable {P:aI}{w:bc}{A:bg}{E:a9->af->Prop}{s:af}
theorem NE:∀ n:_root_.Fin 31,n.val<cw n.val/\(cw n.val=8\/cw n.val=16\/cw n.val=32):=by decide +kernel
theorem NF {n:Nat} (h:n<=30):n<=cw n - 1/\Lj (cw n - 1)/\cw n<=32:=by
 obtain ⟨h1,h2⟩:=NE ⟨n,by omega⟩
 simp only at h1 h2
 unfold Lj
 omega
theorem yH {es:Array (Int×a9)}{order:Array Nat} (h:order.toList.Perm (bw es.size)):(order.filterMap (es[·]?)).toList.Perm es.toList:=by
 rw [Array.toList_filterMap]
 refine (h.filterMap _).trans (.of_eq ?_)
 have e:(bw es.size).map (fun i=>es[i]?)=es.toList.map some:=by
  refine xj (by simp) fun i h1 h2=>?_
  simp only [al,f9] at h1
  rw [pP,Le,pP,Array.getElem_toList]
  exact iO h1
 have e2:(bw es.size).filterMap (fun i=>es[i]?)=((bw es.size).map (fun i=>es[i]?)).filterMap id:=by rw [mr];rfl
 rw [e2,e,mr]
 simp
theorem cT.of {h:br}{a:ah}{es es':Array (Int×a9)}{ep:Nat}{t t':ej} (I:cT w h a es ep t) (p:es'.toList.Perm es.toList) (f:t'.fits es'.size=true) (l:t'.led=t.led) (pl:t'.plain=t.plain):cT w (h.update a (qk es' t')) a es' (ep + 1) t':=by
 have sz:es'.size=es.size:=by rw [<- ar,p.length_eq,ar]
 refine ⟨rf I,fun e he=>I.txt e (p.mem_iff.mp he),(p.map jK).nodup_iff.mpr I.nd,by rw [sz];exact I.few,f,l.trans I.led,?_⟩
 rw [sz,pl]
 exact I.pl
theorem yI {t:ej}{n:Nat} (h:t.fits n=true):t.place.size=n/\t.fill<=t.mask:=by
 unfold my at h
 rw [aW] at h
 exact ⟨eq_of_beq h.1,of_decide_eq_true h.2⟩
theorem IS {mask finger moves:Nat}{led plain:Bool}{place:Array Nat}{n:Nat} (h:place.size=n) (hm:n<=mask):my { mask,place,dummies:=#[],finger,led,moves,plain } n=true:=by
 unfold my Lu
 subst h
 simp only [beq_self_eq_true,om,decide_eq_true_eq]
 exact hm
theorem GK {a:ah}{es:Array (Int×a9)}{ep:Nat}{t:ej}{wanted:Nat}{Q:Unit->af->Prop} (I:cT w s.heap a es ep t) (hw:wanted<=30) (hz:es.size<=wanted)
  (h:∀ h' es' ep' t',bD a s.heap h'->cT w h' a es' ep' t'->es'.toList.Perm es.toList->Lj t'.mask->wanted<=t'.mask->Q () { s with heap:=h' }):aq (aF P w) A (setRelay a wanted) Q E s:=by
 obtain ⟨w1,w2,w3⟩:=NF hw
 obtain ⟨place,order,e,hp,ho⟩:=IR (finger:=t.finger) (moves:=t.movedTo (cw wanted - 1)) (led:=t.led) (plain:=t.plain) (hs:=es.map (·.1)) w2 (by rw [sd];omega)
 rw [sd] at hp ho
 have pm:=yH ho
 have sz:(order.filterMap (es[·]?)).size=es.size:=by rw [<- ar,pm.length_eq,ar]
 unfold setRelay
 refine a7 (bA I.at_ rfl I.fits ?_)
 show aq _ _ (if cw wanted > sizeLine then _ else _) _ _ s
 have h32:(32:Nat)<=sizeLine:=by decide
 rw [if_neg (by omega)]
 refine a7 ?_
 unfold Ju
 rw [e]
 show aq _ _ (if ((order.filterMap (es[·]?)).size != es.size)=true then _ else pure (order.filterMap (es[·]?),_)) _ _ s
 rw [if_neg (by rw [sz];simp)]
 refine ac ?_
 have fit:my { mask:=cw wanted - 1,place,dummies:=#[],finger:=t.finger,led:=t.led,moves:=t.movedTo (cw wanted - 1),plain:=t.plain } (order.filterMap (es[·]?)).size=true:=IS (by rw [sz];exact hp) (by rw [sz];omega)
 refine iN I.at_ rfl ?_ (by rw [sz];exact fE I.few)
 exact h _ _ _ _ (bI s.heap a _) (I.of pm fit rfl rfl) pm w2 w1
theorem Ck {a:ah}{es:Array (Int×a9)}{ep:Nat}{t:ej}{more:Nat}{Q:Unit->af->Prop} (I:cT w s.heap a es ep t) (hz:es.size + more<=15) (hm:es.size≠0\/Lj t.mask)
  (h:∀ h' es' ep' t',bD a s.heap h'->cT w h' a es' ep' t'->es'.toList.Perm es.toList->(es.size≠0\/Lj t'.mask)->more<=t'.mask->Q () { s with heap:=h' }):aq (aF P w) A (setRoomFor a more) Q E s:=by
 obtain ⟨f1,f2⟩:=yI I.fits
 unfold setRoomFor
 refine a7 (bA I.at_ rfl I.fits ?_)
 dsimp only
 unfold SetTable.roomFor
 by_cases hc:(t.fill + more) * 5 ≥ t.mask * 3
 ·rw [if_pos hc]
  refine GK I (by rw [f1];omega) (by rw [f1];omega) fun h' es' ep' t' a1 a2 a3 a4 a5=>?_
  exact h h' es' ep' t' a1 a2 a3 (.inr a4) (by rw [f1] at a5;omega)
 ·rw [if_neg hc]
  exact ac (h s.heap es ep t (.refl ..) I (.refl _) hm (by omega))
end
end L2
namespace L2
open PySem
theorem xt {α σ:Type}{M:FJ}{A:bg}{E:a9->af->Prop}{Q:σ->af->Prop}{f:α->σ->Sem (ForInStep σ)}{b:σ} (I:List α->af->Prop)
  (step:∀ x r s,I (x::r) s->aq M A (f x b) (fun st s'=>st=.yield b/\I r s') E s) (fin:∀ s,I [] s->Q b s):∀ (l:List α) (s:af),I l s->aq M A (forIn l b f) Q E s
 | [],s,h=>by rw [sy];exact ac (fin s h)
 | x::r,s,h=>by
  rw [jj]
  refine a7 (bC (step x r s h) (fun st s' q=>?_) fun _ _ e=>e)
  obtain ⟨rfl,q⟩:=q
  exact xt I step fin r s' q
section
variable {P:aI}{w:bc}{A:bg}{E:a9->af->Prop}{s:af}
theorem El {l:List ah}{Q:Bool->af->Prop} (h:∀ a∈l,∃ es ep t,cT w s.heap a es ep t) (q:Q true s):aq (aF P w) A (setsQuiet l) Q E s:=by
 unfold setsQuiet
 refine a7 (xt (fun r s'=>s'=s/\∀ a∈r,∃ es ep t,cT w s.heap a es ep t) (fun a r s' hI=>?_) (fun s' hI=>?_) l s ⟨rfl,h⟩)
 ·obtain ⟨rfl,hI⟩:=hI
  obtain ⟨es,ep,t,I⟩:=hI a ap
  unfold setEntries
  refine a7 (a7 (bA I.at_ rfl I.fits (ac ?_)))
  dsimp only
  rw [<- Jy]
  refine a7 (xt (fun r2 s2=>s2=s'/\∀ e∈r2,s_ w e) (fun e r2 s2 h2=>?_) (fun s2 h2=>?_) es.toList s' ⟨rfl,I.txt⟩)
  ·obtain ⟨rfl,h2⟩:=h2
   obtain ⟨x,tk,rfl⟩:=h2 e ap
   exact ac ⟨rfl,rfl,fun e he=>h2 e (am _ he)⟩
  ·obtain ⟨rfl,_⟩:=h2
   exact ac ⟨rfl,rfl,fun b hb=>hI b (am _ hb)⟩
 ·obtain ⟨rfl,_⟩:=hI
  exact ac q
theorem Km {o:ah}{es:Array (Int×a9)}{ep:Nat}{t:ej}{Q:Array (Int×a9)->af->Prop} (I:cT w s.heap o es ep t) (hb:w.params.followText "set-order"=true\/t.plain=true\/es.size<=1)
  (q:∀ es',es'.toList.Perm es.toList->Q es' s):aq (aF P w) A (setWalk o) Q E s:=by
 unfold setWalk
 refine a7 (bA I.at_ rfl I.fits (a7 (fq ?_)))
 cases hw:w.params.followText "set-order" with
 | true =>
  simp only [if_true]
  exact a7 (g_ (ac (q _ (vF _ _))))
 | false =>
  simp only [bY,if_false]
  have hd:(!t.plain && decide (es.size > 1))=false:=by
   rcases hb with h | h | h
   ·rw [hw] at h;cases h
   ·rw [h];rfl
   ·rw [decide_eq_false (by omega),mx]
  have hl:t.led=true:=by rw [I.led,hw];rfl
  show aq _ _ (if (!t.plain && decide (es.size > 1))=true then _ else _) _ _ s
  rw [hd,if_neg aS]
  refine a7 ?_
  show aq _ _ (if (!t.led && decide (es.size > 1))=true then _ else pure ()) _ _ s
  rw [hl,if_neg (by simp)]
  exact ac (ac (q _ (.refl _)))
theorem wX {o a:ah}{eo es:Array (Int×a9)}{epo ep:Nat}{to t:ej}{Q:Array (Int×a9)->af->Prop} (I:cT w s.heap o eo epo to) (J:cT w s.heap a es ep t)
  (q:∀ h' es' ep' t',bD a s.heap h'->cT w h' a es ep' t'->es'.toList.Perm eo.toList->Q es' { s with heap:=h' }):aq (aF P w) A (setWalkUnseen o [a] (some a)) Q E s:=by
 unfold setWalkUnseen
 refine a7 (bA I.at_ rfl I.fits (a7 (fq ?_)))
 cases hc:(w.params.followText "set-order" || to.led && to.plain || decide (eo.size<=1)) with
 | true =>
  rw [if_pos rfl]
  refine Km I ?_ fun es' p=>q s.heap es' ep t (.refl ..) J p
  rw [jl,jl,aW,decide_eq_true_eq] at hc
  rcases hc with (h | h) | h
  ·exact .inl h
  ·exact .inr (.inl h.2)
  ·exact .inr (.inr h)
 | false =>
  rw [if_neg aS]
  rw [HP,HP,decide_eq_false_iff_not] at hc
  obtain ⟨⟨c1,_⟩,c3⟩:=hc
  refine a7 (El (fun b hb=>?_) ?_)
  ·rcases List.mem_cons.mp hb with h | h
   ·rw [h];exact ⟨_,_,_,I⟩
   ·rw [List.mem_singleton.mp h];exact ⟨_,_,_,J⟩
  rw [if_neg (by simp)]
  refine a7 (fX ?_)
  dsimp only
  refine a7 (bA J.at_ rfl J.fits ?_)
  dsimp only
  have hpl:to.plain=false:=I.pl.resolve_left (by omega)
  have hled:(t.led && to.led)=t.led:=by rw [I.led,J.led,j3]
  split
  ·refine a7 (iN J.at_ rfl ?_ (fE J.few))
   refine ac (q _ _ _ _ (bI s.heap a _) (⟨rf J,J.txt,J.nd,J.few,?_,?_,?_⟩:cT w _ a es (ep + 1) _) (.refl _))
   ·exact J.fits
   ·exact hled.trans J.led
   ·exact .inr (by show (t.plain && to.plain)=false;rw [hpl,mx])
  ·exact ac (q s.heap eo ep t (.refl ..) J (.refl _))
end
end L2
namespace L2
open PySem
section
variable {P:aI}{w:bc}{A:bg}{E:a9->af->Prop}{s:af}
theorem cT.but {h h':br}{a o:ah}{eo:Array (Int×a9)}{epo:Nat}{to:ej} (I:cT w h o eo epo to) (ne:a≠o) (sb:bD a h h'):cT w h' o eo epo to:=I.keep fun _ e=>(sb.2 o (cZ ne)).trans e
theorem yJ {a o:ah}{es eo:Array (Int×a9)}{ep epo:Nat}{t to:ej}{each:Sem Unit}{Q:Unit->af->Prop} (ne:a≠o) (J:cT w s.heap a es ep t) (I:cT w s.heap o eo epo to)
  (hz:es.size + eo.size<=15) (hm:es.size≠0\/Lj t.mask) (he:∀ (s':af) (Q':Unit->af->Prop),cT w s'.heap o eo epo to->Q' () s'->aq (aF P w) A each Q' E s')
  (q:∀ h' tk' es' ep' t',bD a s.heap h'->cT w h' a es' ep' t'->(∀ x,x∈es'.toList.map jK↔x∈es.toList.map jK\/x∈eo.toList.map jK)->(es'.size≠0\/Lj t'.mask)->Q () { s with heap:=h',toks:=tk' }) :
  aq (aF P w) A (setMerge a o each) Q E s:=by
 unfold setMerge
 rw [if_neg (by simpa using ne)]
 refine a7 (bA I.at_ rfl I.fits ?_)
 dsimp only
 by_cases h0:eo.size=0
 ·rw [if_pos (by simpa [Array.isEmpty] using h0)]
  have e0:eo=#[]:=kj h0
  exact ac (q s.heap s.toks es ep t (.refl ..) J (fun x=>by rw [e0];simp) hm)
 rw [if_neg (by simpa [Array.isEmpty] using h0)]
 refine a7 (Ck J hz hm fun h1 es1 ep1 t1 sb1 J1 p1 m1 r1=>?_)
 have I1:=I.but ne sb1
 have sz1:es1.size=es.size:=by rw [<- ar,p1.length_eq,ar]
 refine a7 (bA (s:={ s with heap:=h1 }) J1.at_ rfl J1.fits ?_)
 dsimp only
 obtain ⟨f1,f2⟩:=yI J1.fits
 have hpl:to.plain=false:=I.pl.resolve_left h0
 have hled:(t1.led && to.led)=t1.led:=by rw [I.led,J1.led,j3]
 have kp:∀ x,x∈es1.toList.map jK↔x∈es.toList.map jK:=fun x=>(p1.map jK).mem_iff
 by_cases hf:t1.fill=0
 ·have e1:es.size=0:=by
   unfold Lu at hf
   omega
  have mk:Lj t1.mask:=m1.resolve_left (by omega)
  have ee:es=#[]:=kj e1
  unfold Lv
  rw [if_neg (by rw [hf];decide)]
  split
  ·refine iN (s:={ s with heap:=h1 }) J1.at_ rfl ?_ (fE I.few)
   refine q _ s.toks _ _ _ (sb1.trans (bI h1 a _)) (⟨rf J1,I.txt,I.nd,I.few,?_,?_,?_⟩:cT w _ a eo (ep1 + 1) _) (fun x=>by rw [ee];simp) (.inl h0)
   ·exact I.fits
   ·exact hled.trans J1.led
   ·exact .inr (by show (t1.plain && to.plain)=false;rw [hpl,mx])
  ·obtain ⟨place,order,e,hp,ho⟩:=IR (finger:=t1.finger) (moves:=t1.moves) (led:=t1.led && to.led) (plain:=t1.plain && to.plain) (hs:=eo.map (·.1)) mk (by rw [sd];exact r1)
   rw [sd] at hp ho
   have pm:=yH ho
   have sz:(order.filterMap (eo[·]?)).size=eo.size:=by rw [<- ar,pm.length_eq,ar]
   refine a7 ?_
   rw [e]
   show aq _ _ (if ((order.filterMap (eo[·]?)).size != eo.size)=true then _ else pure (order.filterMap (eo[·]?),_)) _ _ _
   rw [if_neg (by rw [sz];simp)]
   refine ac ?_
   refine iN (s:={ s with heap:=h1 }) J1.at_ rfl ?_ (by rw [sz];exact fE I.few)
   refine q _ s.toks _ _ _ (sb1.trans (bI h1 a _)) (⟨rf J1,fun x hx=>I.txt x (pm.mem_iff.mp hx),(pm.map jK).nodup_iff.mpr I.nd,by rw [sz];exact I.few,IS (by rw [sz];exact hp) (by rw [sz];exact r1),hled.trans J1.led,.inr ?_⟩:cT w _ a (order.filterMap (eo[·]?)) (ep1 + 1) _) (fun x=>?_) (.inl (by rw [sz];exact h0))
   ·show (t1.plain && to.plain)=false;rw [hpl,mx]
   ·rw [(pm.map jK).mem_iff,ee];simp
  ·rename_i hq
   split at hq<;>cases hq
 ·unfold Lv
  rw [if_pos (by simpa using hf)]
  dsimp only
  refine a7 (wX (s:={ s with heap:=h1 }) I1 J1 fun h2 es2 ep2 t2 sb2 J2 p2=>?_)
  rw [<- Jy]
  have hl:es2.toList.length=eo.size:=by rw [p2.length_eq,ar]
  refine a7 (xt (fun r s'=>∃ h' tk' e' p' t',s'={ s with heap:=h',toks:=tk' }/\bD a s.heap h'/\cT w h' a e' p' t'/\e'.size + r.length<=15/\(∀ e∈r,s_ w e)/\∀ x,(x∈e'.toList.map jK\/x∈r.map jK)↔x∈es.toList.map jK\/x∈eo.toList.map jK) ?_ ?_ es2.toList _ ⟨h2,s.toks,es1,ep2,t2,rfl,sb1.trans sb2,J2,by omega,fun e he=>I.txt e (p2.mem_iff.mp he),fun x=>by rw [kp,(p2.map jK).mem_iff]⟩)
  ·rintro e r s' ⟨h',tk',e',p',t',rfl,sb',J',z',tx',k'⟩
   obtain ⟨x,tk,rfl⟩:=tx' e ap
   simp only [aX] at z'
   dsimp only
   refine a7 (cp (AR (s:={ s with heap:=h',toks:=tk' }) (⟨e',p',t',J',.refl _⟩:kM w h' a (e'.toList.map jK)) (by rw [al,ar];exact aK (show e'.size + 1<100 by omega) (by decide)) fun h'' tk'' sb'' S''=>?_))
   obtain ⟨e'',p'',t'',J'',pm''⟩:=S''
   have sb3:=sb'.trans sb''
   have I3:=I.but ne sb3
   refine a7 (he _ _ I3 ?_)
   refine a7 (bA (s:={ s with heap:=h'',toks:=tk'' }) I3.at_ rfl I3.fits ?_)
   dsimp only
   rw [if_neg (by simp)]
   refine ac ⟨rfl,h'',tk'',e'',p'',t'',rfl,sb3,J'',?_,fun e he=>tx' e (am _ he),fun y=>?_⟩
   ·have:=pm''.length_eq
    rw [al,ar] at this
    have l2:(if x∈e'.toList.map jK then e'.toList.map jK else e'.toList.map jK++[x]).length<=e'.size + 1:=by
     split<;>simp
    omega
   ·rw [<- k' y,pm''.mem_iff]
    have ek:jK (hashStr w x,jp x tk)=x:=rfl
    rw [aG,bf,ek]
    split
    ·rename_i hx
     constructor
     ·rintro (h | h)
      ·exact .inl h
      ·exact .inr (.inr h)
     ·rintro (h | h | h)
      ·exact .inl h
      ·rw [h];exact .inl hx
      ·exact .inr h
    ·rw [zK,dQ]
     constructor
     ·rintro ((h | h) | h)
      ·exact .inl h
      ·exact .inr (.inl h)
      ·exact .inr (.inr h)
     ·rintro (h | h | h)
      ·exact .inl (.inl h)
      ·exact .inl (.inr h)
      ·exact .inr h
  ·rintro s' ⟨h',tk',e',p',t',rfl,sb',J',z',tx',k'⟩
   refine ac (q h' tk' e' p' t' sb' J' (fun x=>?_) (.inl ?_))
   ·rw [<- k' x];simp
   ·intro e0
    obtain ⟨e,hh⟩:∃ e,e∈eo.toList:=by
     cases hq:eo.toList with
     | nil=>rw [<- ar,hq] at h0;exact absurd rfl h0
     | cons e r=>exact ⟨e,ap⟩
    have:=(k' (jK e)).mpr (.inr (bt hh))
    rw [kj e0] at this
    simp at this
end
end L2
namespace L2
open PySem PyProof.Rows
theorem Cm:FX table "set.__or__"=some ia.«frozenset.__or__»:=FY (id':="frozenset.__or__") (by kernel_rfl) rfl (by decide +kernel) (by kernel_rfl)
section
variable {P:aI}{w:bc}{A:bg}{E:a9->af->Prop}{s:af}
theorem cT.ty {a:ah}{es:Array (Int×a9)}{ep:Nat}{t:ej} (I:cT w s.heap a es ep t):s.TypeIs (.ref a) "set":=⟨_,I.at_,rfl⟩
theorem tu {a:ah}{es:Array (Int×a9)}{ep:Nat}{t:ej}{Q:Bool->af->Prop} (I:cT w s.heap a es ep t) (q:Q true s):aq (aF P w) A (se (.ref a)) Q E s:=by
 unfold se
 refine a7 (hJ I.ty Lp ?_)
 exact ac q
theorem NG {h:br}{a:ah} (e:h.get? a=some (fh w)):cT w h a #[] 0 (.fresh 0 0 (!w.params.followText "set-order")) :=
 ⟨e,(fun _ h=>nomatch h),gG,by decide,rfl,rfl,.inl rfl⟩
theorem Qq {a b:ah}{xs ys:List Str}{Q:a9->af->Prop} (ha:kM w s.heap a xs) (hb:kM w s.heap b ys) (ne:a≠b) (hz:xs.length + ys.length<=15)
  (q:∀ h' tk',bD s.heap.objs.size (s.heap.push (fh w)) h'->kM w h' s.heap.objs.size (dq xs ys)->Q (.ref s.heap.objs.size) { s with heap:=h',toks:=tk' }) :
  aq (aF P w) A (fZ .BitOr (.ref a) (.ref b)) Q E s:=by
 obtain ⟨ea,pa,ta,Ia,ma⟩:=ha
 obtain ⟨eb,pb,tb,Ib,mb⟩:=hb
 have sa:ea.size=xs.length:=by rw [<- ma.length_eq,al,ar]
 have sb:eb.size=ys.length:=by rw [<- mb.length_eq,al,ar]
 refine wpAny_binaryOp_same Ia.ty Ib.ty F.fills_set_or F.slot_set_or (bZ F.slot_set_or Ia.ty Cm ?_ (F.args_set_or_2 _ _))
 have lt1:a<s.heap.objs.size:=ao Ia.at_
 have lt2:b<s.heap.objs.size:=ao Ib.at_
 show aq _ _ (Pc "__or__" ⟨[.ref a,.ref b],[]⟩ >>= _) _ _ s
 refine a7 (a7 (ac (ac ?_)))
 dsimp only
 refine a7 (a7 (tu Ia (tu Ib ?_)))
 rw [if_neg (by simp)]
 refine a7 (ac (a7 ?_))
 show aq _ _ (sW a >>= _) _ _ s
 refine a7 ?_
 unfold sW Pd
 refine a7 (a7 (hJ Ia.ty Lp (ac ?_)))
 rw [if_pos rfl]
 refine a7 (sG ?_)
 have g0:(s.heap.push (fh w)).get? s.heap.objs.size=some (fh w):=ay _ rfl
 have J0:=NG g0
 have Ia1:cT w (s.heap.push (fh w)) a ea pa ta:=Ia.keep fun _ e=>ag _ e
 have Ib1:cT w (s.heap.push (fh w)) b eb pb tb:=Ib.keep fun _ e=>ag _ e
 have na:s.heap.objs.size≠a:=cZ (aB lt1)
 have nb:s.heap.objs.size≠b:=cZ (aB lt2)
 refine a7 (ac (a7 (yJ (s:={ s with heap:=s.heap.push (fh w) }) na J0 Ia1 (by show 0 + ea.size<=15;omega) (.inr (.inl rfl)) (fun _ _ _ q=>ac q) fun h1 tk1 e1 p1 t1 sb1 J1 k1 m1=>ac ?_)))
 have Ib2:=Ib1.but nb sb1
 have n1:(e1.toList.map jK).length<=ea.size:=by
  have:=(mC J1.nd Ia.nd).mpr fun x=>by rw [k1];simp
  rw [this.length_eq,al,ar]
  exact au _
 rw [al,ar] at n1
 show aq _ _ (if (bK b != bK a)=true then _ else _) _ _ _
 rw [if_pos (by simp;exact cZ ne)]
 refine a7 (ac (a7 (cp ?_)))
 show aq _ _ (jk _ s.heap.objs.size (bK b)) _ _ _
 unfold jk
 refine a7 (tu (s:={ s with heap:=h1,toks:=tk1 }) Ib2 ?_)
 rw [if_pos rfl]
 refine a7 (ac ?_)
 unfold Pe setEpoch
 refine a7 (a7 (bA (s:={ s with heap:=h1,toks:=tk1 }) Ib2.at_ rfl Ib2.fits (ac ?_)))
 refine yJ (s:={ s with heap:=h1,toks:=tk1 }) nb J1 Ib2 (by omega) m1 (fun s' Q' I' q'=>?_) fun h2 tk2 e2 p2 t2 sb2 J2 k2 m2=>?_
 ·unfold Pf setEpoch
  refine a7 (a7 (bA I'.at_ rfl I'.fits (ac ?_)))
  dsimp only
  rw [if_neg (by simp)]
  exact ac q'
 ·refine ac (ac ⟨_,rfl,(fun z=>nomatch z),q h2 tk2 (sb1.trans sb2) ⟨e2,p2,t2,J2,?_⟩⟩)
  refine (mC J2.nd (ig _ _ (ma.nodup_iff.mp Ia.nd))).mpr fun x=>?_
  rw [k2,iw,k1,ma.mem_iff,mb.mem_iff]
  simp
end
end L2
namespace L2
open PySem PyProof.Rows
theorem To {X:Cx}:pZ X (fZ .BitOr) (fun x y H Q=>∃ a b xs ys,x=.ref a/\y=.ref b/\a≠b/\H a=some (kU X.w a xs)/\H b=some (kU X.w b ys)/\xs.length + ys.length<=15/\∀ p,H p=none->Q (.ref p) (upd H p (kU X.w p (dq xs ys)))):=by
 intro pins s σ H x y v u Q I rx ry h
 obtain ⟨a,b,xs,ys,rfl,rfl,ne,ha,hb,hz,q⟩:=h
 cases rx
 cases ry
 have Sa:=(show cY X.prog X.w H s.heap a (kU X.w a xs) from I.hok a _ ha).1
 have Sb:=(show cY X.prog X.w H s.heap b (kU X.w b ys) from I.hok b _ hb).1
 refine Qq Sa Sb ne hz fun h' tk' sb S=>?_
 refine ⟨.ref s.heap.objs.size,_,I.laid (t':=tk') (fun b o e=>?_) (au _) (C2 S),rfl,q _ (I.hok.fresh (au _))⟩
 exact (sb.2 b (aB (ao e))).trans (ag _ e)
end L2
namespace J
open PySem L2
section
variable {c:C}{a b:b9}{ga gb:av->R (List Str)}{pos:Pos}
def Tp (xs ys:List Str):R (List Str):=if xs.length + ys.length<=15 then .ok (dq xs ys) else .no
def NH (ga gb:av->R (List Str)):av->R (List Str):=fun ρ=>(ga ρ).bind fun xs=>(gb ρ).bind (J.Tp xs)
theorem Tq (ha:Qc c a ga) (hb:Qc c b gb):Qc c (.BinOp a .BitOr b pos) (NH ga gb):=.of fun ρ=>qg (Rb To (ha ρ) (hb ρ)) fun σ H Q h_0=>by
 obtain ⟨H0,Hs0,la,Hs,f,q⟩:=h_0
 refine Iz (w:=c.X.w) f q fun xs p H1 Hs1 e1 s1 f1 n1=>?_
 unfold NH at q
 rw [e1,bind_ok] at q
 have s2:cQ H1 Hs1 (upd H1 p (kU c.X.w p xs)) Hs1:=.mine f1.st.sub n1
 refine Iz (w:=c.X.w) (f1.step s2) (q.on (s1.trans s2) (q':=fun _=>True) fun _ _=>trivial) fun ys p2 H2 Hs2 e2 s3 f2 n2=>?_
 rw [e2,bind_ok] at q
 unfold J.Tp at q
 by_cases hz:xs.length + ys.length<=15
 ·rw [if_pos hz] at q
  have k1:H2 p=some (kU c.X.w p xs):=s3.all p _ aV
  have ne:p≠p2:=fun z=>by rw [z,n2] at k1;cases k1
  have s4:cQ H2 Hs2 (upd H2 p2 (kU c.X.w p2 ys)) Hs2:=.mine f2.st.sub n2
  exact ⟨p,p2,xs,ys,rfl,rfl,ne,by rw [aT ne];exact k1,aV,hz,fun l hl=>q l _ _ (s1.trans (s2.trans (s3.trans s4))) hl⟩
 ·rw [if_neg hz] at q;exact q.elim
end
end J
namespace J
open PySem L2
section
variable {c:C}{a b:b9}{gs:av->R (List D)}{pos px py pt pt2:Pos}{x y:Str}
def X5 (i j:Nat) (ρ:av):List D->R Fl
 | [d,e]=>.ok (.nx ((ρ.set i (.shr d)).set j (.shr e)))
 | _=>.no
def NI (i j:Nat) (gs:av->R (List D)):av->R Fl:=fun ρ=>(gs ρ).bind (X5 i j ρ)
theorem Tr (i j:Nat) {kt k2:_} (hc:c.X.calm=true) (hN:c.X.N.Nodup) (ha:Dk c [a,b] gs) (hi:c.X.N[i]?=some x:=by rfl) (hj:c.X.N[j]?=some y:=by rfl) (hij:i≠j:=by decide)
  (hx:c.X.env.scope.names.lookup x=some .local:=by rfl) (hy:c.X.env.scope.names.lookup y=some .local:=by rfl) (hw:xg [.Tuple [.Name x px,.Name y py] kt pt] (.Tuple [a,b] k2 pt2) c.X.env=pure (some [x,y]):=by rfl)
  (hs:xc [.Tuple [.Name x px,.Name y py] kt pt] (.Tuple [a,b] k2 pt2) pos.line c.X.env=pure false:=by rfl):JS c (.Assign [.Tuple [.Name x px,.Name y py] kt pt] (.Tuple [a,b] k2 pt2) pos) (NI i j gs):=.of fun ρ=>yf (Sy hc hN hi hj hij hx hy (ha ρ) hw hs) fun D σ H h_0=>by
 obtain ⟨H0,Hs0,la,Hs,f,q⟩:=h_0
 refine ⟨H0,Hs0,la,Hs,f,?_⟩
 unfold NI at q
 cases hr:gs ρ with
 | ok ds =>
  rw [hr,bind_ok] at q
  intro vs H' Hs' s r
  match ds,r,q with
  | [],_,q=>exact q.elim
  | [_],_,q=>exact q.elim
  | [d,e],.cons r1 (.cons r2 .nil),q=>exact ⟨_,_,rfl,q _ _ Hs' (((f.step s).set i r1).set j r2)⟩
  | _::_::_::_,_,q=>exact q.elim
 | ex z n =>
  rw [hr] at q
  exact fun H' Hs' s=>q H' Hs' (f.st.trans s)
 | no=>rw [hr] at q;exact q.elim
end
end J
namespace J
open PySem L2
end J
end
section
namespace L2
open PySem PySem.Spec PyProof.Rows
theorem Co:xF (.type "list") "keys"=pure none:=by rw [Dn,uj];kernel_rfl
theorem B6:FX table "dict.update.loop"=some ia.«dict.update.loop»:=entryFor_of_tree (by kernel_rfl)
theorem ro:plainId "dict.update.loop"=true:=by decide +kernel
section
variable {prog:aI}{w:bc}{A:bg}{E:a9->af->Prop}{s:af}{R:vn->af->Prop}
theorem yK {a:ah}{o:Obj}{xs:Array a9}{k:Nat}{Q:Option a9->af->Prop}
  (hx:s.heap.get? a=some o) (hc:o.cls=.type "list") (hdat:o.data=.seq xs k) (hd:o.dict=none) (hA:A.handled=none)
  (h:∀ h' tk,(∀ b o,s.heap.get? b=some o->h'.get? b=some o)->Q none { s with heap:=h',toks:=tk }) :
  aq (aF prog w) A (P9 (.ref a) "keys") Q E s:=by
 obtain ⟨c,dct,dat,sl⟩:=o
 simp only at hc hdat hd
 subst hc hdat hd
 obtain ⟨hp,g,d,tk,os⟩:=s
 have hT:∀ tk',(⟨hp,g,d,tk',os⟩:af).TypeIs (.ref a) "list":=fun _=>⟨_,hx,rfl⟩
 have f1:=sub_AttributeError
 have f3:=F.slot_list_getattribute.lookup
 have f4:=F.slot_list_getattribute.bind (.ref a)
 have f5:=am_list_getattr_none
 have hname:(["__module__","__name__","__qualname__","__doc__","__annotations__"] : List Str).contains "keys"=false:=by decide +kernel
 unfold P9 getAttrBy? getAttrBy
 repeat (any_goals (first | assumption | exact hT _ | ((with_reducible show aq _ _ (call (Value.builtin "list.__getattribute__") _ _) _ _ _);refine xG F.slot_list_getattribute (hT _) am_entry_list_getattribute (F.args_list_getattribute_2 _ _) (meets_getattribute_miss_list a xs k sl "keys" _ Co hname (by size_fits)) ⟨hx,hA,fun h' tk' e hx'=>?_⟩) | wp_step))
 have ha:=hx'.of
 obtain ⟨ob,vs,he,hc,_⟩:=ha.there
 have hTe:(⟨h',g,d,tk',os⟩:af).TypeIs (.ref e) "AttributeError":=⟨_,he,hc⟩
 show aq _ _ (getattributeRaised _ _ _ _ _ _ _) _ _ _
 unfold getattributeRaised
 repeat (any_goals (first | assumption | wp_step))
 exact h _ _ ha.keeps
end
end L2
namespace L2
open PySem PySem.Spec PyProof.Rows
def IT (acc:List (cO×a9)) (l:List (cO×a9×a9)):List (cO×a9):=l.foldl (fun a t=>FU a t.1 t.2.2) acc
theorem GL (kvs:List (cO×a9)) (k:cO) (v:a9):(FU kvs k v).length<=kvs.length + 1:=by
 unfold FU
 split<;>simp
section
variable {prog:aI}{w:bc}{A:bg}{E:a9->af->Prop}{s:af}{R:vn->af->Prop}
theorem Ae {I:ah}{fp wr:List ah}{n:Nat}{Pv:Nat->a9->Prop}{St:Nat->br->Prop} (W:La prog w A.in1 I fp wr n Pv St) (D:ah) (hD:D∉fp) (xs:List (cO×a9×a9)) (pa:List ah) (hx:xs.length=n)
  (hv:∀ i v,Pv i v->∃ p x,pa[i]?=some p/\xs[i]?=some x/\v=.ref p) (hk:∀ x∈xs,(dh prog w).is x.1 x.2.1=true) (hp:∀ p∈pa,p∉D::wr) (hb:n<=1000) :
  ∀ (k i:Nat) (s:af) (acc:List (cO×a9)) (j:Int),n - i=k->i<=n->acc.length<=i->St i s.heap->s.heap.DictOf (dh prog w) D acc->(∀ (i:Nat) (p:ah) (x:cO×a9×a9),pa[i]?=some p->xs[i]?=some x->FH s.heap p #[x.2.1,x.2.2]) ->
   (∀ h' tk,(∀ b o,b∉D::wr->s.heap.get? b=some o->h'.get? b=some o)->h'.DictOf (dh prog w) D (IT acc (xs.drop i))->R (.ok (.ret .none)) { s with heap:=h',toks:=tk }) ->
   gW (aF prog w) A (.builtin "dict.update.loop" ⟨[.ref D,.ref I,cf j,.none],[]⟩) R s:=by
 have hDw:D∉wr:=fun z=>hD (W.sub _ z)
 intro k
 induction k with
 | zero =>
  intro i s acc j hk' hi hl st hS hT hR
  obtain rfl:i=n:=by omega
  refine fF B6 ?_
  rw [eR ro _]
  show aq _ A.in1 (jr (.ref I) >>= _) _ _ s
  refine a7 (W.done s _ _ st fun h' tk kp=>?_)
  show aq _ _ (Builtin.Dict.addKeywords D [] >>= _) _ _ _
  refine a7 (ac (ac (hR h' tk (fun b o hb e=>kp b o (fun z=>hb (am _ z)) e) ?_)))
  rw [FA (by omega)]
  obtain ⟨o,es,ep,e,r⟩:=hS
  exact ⟨o,es,ep,kp D o hDw e,r⟩
 | succ k ih =>
  intro i s acc j hk' hi hl st hS hT hR
  have hlt:i<n:=by omega
  refine fF B6 ?_
  rw [eR ro _]
  show aq _ A.in1 (jr (.ref I) >>= _) _ _ s
  refine a7 (W.item i s _ _ hlt st fun v h' tk hP st' kp=>?_)
  obtain ⟨p,x,hpi,hxi,rfl⟩:=hv i v hP
  have hpm:=hp p (cM hpi)
  have hS':h'.DictOf (dh prog w) D acc:=by
   obtain ⟨o,es,ep,e,r⟩:=hS
   exact ⟨o,es,ep,kp D o hDw e,r⟩
  obtain ⟨ot,et,ct,nt,dt⟩:=hT i p x hpi hxi
  have et':h'.get? p=some ot:=kp p ot (fun z=>hpm (am _ z)) et
  have hkx:=hk x (cM hxi)
  refine a7 (cp (a7 (wpAny_tryCatch ?_)))
  unfold Builtin.Dict.pairItems
  refine a7 (kJ (T:="tuple") (s:={ s with heap:=h',toks:=tk }) ⟨_,et',ct⟩ ?_)
  rw [if_pos (by decide)]
  refine a7 (el (s:={ s with heap:=h',toks:=tk }) et' dt (ac ?_))
  show aq _ _ (Fv [x.2.1,x.2.2] (dictSet D x.2.1 x.2.2)) _ _ _
  refine cp ?_
  unfold dictSet
  refine cp (a7 ((dh prog w).pyHash (k:=x.1) hkx ?_))
  refine wpAny_dictSetHashed_pairs (s:={ s with heap:=h',toks:=tk + 1 }) hkx hS' (fun h2 hS2 sb=>?_) (bE hl (bE hi (bE hb (bL (cz (au _))))))
  refine ac ⟨md ro _,ih (i + 1) _ (FU acc x.1 x.2.2) _ (by omega) hlt ?_ (W.frame _ _ _ st' fun b hb o e=>?_) hS2 (fun i2 p2 x2 e1 e2=>?_) fun h3 tk3 k3 hS3=>?_⟩
  ·have:=GL acc x.1 x.2.2
   omega
  ·rw [sb.2 b fun z=>hD (z ▸ hb)];exact e
  ·obtain ⟨o2,g2,r2⟩:=hT i2 p2 x2 e1 e2
   have hm:=hp p2 (cM e1)
   exact ⟨o2,(sb.2 p2 fun z=>hm (by rw [z];exact ap)).trans (kp p2 o2 (fun z=>hm (am _ z)) g2),r2⟩
  ·refine hR h3 tk3 (fun b o hb e=>k3 b o hb ?_) ?_
   ·show h2.get? b=_
    rw [sb.2 b fun z=>hb (by rw [z];exact ap)]
    exact kp b o (fun z=>hb (am _ z)) e
   ·have hd:xs.drop i=x::xs.drop (i + 1):=by
     obtain ⟨h1,h2⟩:=List.getElem?_eq_some_iff.mp hxi
     rw [BG h1,h2]
    rw [hd];exact hS3
theorem Af {l:ah}{ol:Obj}{its:List a9}{n:Nat}{xs:List (cO×a9×a9)}{pa:List ah}{Q:a9->af->Prop} (hh:A.handled=none)
  (hol:s.heap.get? l=some ol) (hc:ol.cls=.type "list") (hdd:ol.dict=none) (hdt:ol.data=.seq its.toArray n) (hi:∀ (i:Nat) (v:a9),its[i]?=some v->∃ p x,pa[i]?=some p/\xs[i]?=some x/\v=.ref p) (hx:xs.length=its.length) (hk:∀ x∈xs,(dh prog w).is x.1 x.2.1=true) (hb:its.length<=1000)
  (hT:∀ (i:Nat) (p:ah) (x:cO×a9×a9),pa[i]?=some p->xs[i]?=some x->FH s.heap p #[x.2.1,x.2.2]) (hpa:∀ p∈pa,p<s.heap.objs.size)
  (h:∀ (h':br) (tk:Nat),h'.DictOf (dh prog w) s.heap.objs.size (IT [] xs)->(∀ b o,s.heap.get? b=some o->h'.get? b=some o)->Q (.ref s.heap.objs.size) { s with heap:=h',toks:=tk }) :
  aq (aF prog w) A (call (.type "dict") [.ref l]) Q E s:=by
 refine callType_codes (Q₁:=fun obj s₁=>obj=.ref s.heap.objs.size/\s₁={ s with heap:=s.heap.push { cls:=.type "dict",data:=.dict #[] } }) F.kt_called_dict (F.kt_typeCall_dict_1 _) F.entry_dict_init (kt_code_dict_new _ ⟨rfl,rfl⟩) ?_
 rintro obj s₁ ⟨rfl,rfl⟩
 have hnew:(s.heap.push { cls:=.type "dict",data:=.dict #[] }).DictOf (dh prog w) s.heap.objs.size []:=Fx s.heap
 have hol':(s.heap.push { cls:=.type "dict",data:=.dict #[] }).get? l=some ol:=ag _ hol
 have hlS:l<s.heap.objs.size:=ao hol
 refine ⟨hnew.typeIs,F.args_dict_init_2 _ _,?_⟩
 unfold ia.«dict.__init__»
 refine a7 ?_
 unfold Builtin.Dict.selfAndRest
 refine a7 (OT hnew.typeIs ?_)
 show aq _ _ (pure (s.heap.objs.size,[bK l])) _ _ _
 refine ac ?_
 show aq _ _ (wP "dict.__init__" s.heap.objs.size (.ref l) [] .none) _ _ _
 unfold wP
 refine a7 (kJ (T:="list") ⟨_,hol',hc⟩ ?_)
 rw [if_pos (by decide)]
 refine a7 (yK (s:={ s with heap:=s.heap.push { cls:=.type "dict",data:=.dict #[] } }) hol' hc hdt hdd (by simpa using hh) fun h1 tk1 k1=>?_)
 rw [if_pos (by rfl)]
 refine a7 (fX ?_)
 have hol1:=k1 l ol hol'
 refine a7 (iM (s:={ s with heap:=h1,toks:=tk1 }) ⟨_,hol1,hc,⟨_,hdt⟩⟩ ?_)
 have hD1:∃ o,h1.get? s.heap.objs.size=some o:=by
  obtain ⟨o,es,ep,e,_⟩:=hnew
  exact ⟨o,k1 _ _ e⟩
 obtain ⟨oD,eD⟩:=hD1
 have lD:=ao eD
 have W:=ui (prog:=prog) (w:=w) (A:=A.in1.in1) (by simpa using hh) h1.objs.size l (aB (ao hol1)) its.toArray
 have k2:∀ b o,h1.get? b=some o->(h1.push { cls:=.type "list_iterator",data:=.fields #[.ref l,.int 0 0] }).get? b=some o:=fun b o e=>ag _ e
 have hD2:(h1.push { cls:=.type "list_iterator",data:=.fields #[.ref l,.int 0 0] }).DictOf (dh prog w) s.heap.objs.size []:=by
  obtain ⟨o,es,ep,e,r⟩:=hnew
  exact ⟨o,es,ep,k2 _ _ (k1 _ _ e),r⟩
 refine ac ⟨md ro _,Ae (A:=A.in1) W s.heap.objs.size ?_ xs pa (by rw [hx,aJ]) (fun i v e=>hi i v (by simpa using e)) hk (fun p hp=>?_) (by rw [aJ];exact hb) its.length 0 _ [] 0 (by rw [aJ];omega) (cW _) (au _) ⟨⟨_,ay _ rfl,rfl,rfl⟩,⟨_,k2 _ _ hol1,hc,⟨_,hdt⟩⟩⟩ hD2 (fun i p x e1 e2=>?_) fun h' tk kp hS'=>?_⟩
 ·simp only [bf,aU,or_false,not_or]
  exact ⟨aB lD,eU hlS⟩
 ·have:=hpa p hp
  simp only [bf,aU,or_false,not_or]
  exact ⟨aB this,aB (FW this lD)⟩
 ·obtain ⟨o,g,r⟩:=hT i p x e1 e2
  exact ⟨o,k2 _ _ (k1 _ _ (ag _ g)),r⟩
 ·refine ⟨rfl,h h' tk hS' fun b o e=>kp b o ?_ (k2 _ _ (k1 _ _ (ag _ e)))⟩
  have:=ao e
  simp only [bf,aU,or_false,not_or]
  exact ⟨aB this,aB (FW this lD)⟩
end
end L2
namespace L2
open PySem PySem.Spec PyProof.Rows
theorem Em {P:aI}{w:bc}{H:Hp}{h:br} (ok:pQ P w H h):∀ (pa:List ah) (kvs:List (cO×V)),kvs.length=pa.length->(∀ (i:Nat) (a:ah) (kv:cO×V),pa[i]?=some a->kvs[i]?=some kv->H a=some (.tup [kV kv.1,kv.2])) ->
  ∃ xs:List (cO×a9×a9),xs.length=pa.length/\(∀ (i:Nat) (p:ah) (x:cO×a9×a9),pa[i]?=some p->xs[i]?=some x->FH h p #[x.2.1,x.2.2])/\(∀ x∈xs,(dh P w).is x.1 x.2.1=true)/\KV kvs (xs.map fun x=>(x.1,x.2.2))
 | [],[],_,_=>⟨[],rfl,fun i p x e=>by simp at e,fun _ e=>by simp at e,.nil⟩
 | a::pa,kv::kvs,hl,hH=>by
  obtain ⟨xs,h1,h2,h3,h4⟩:=Em ok pa kvs (Nat.succ.inj hl) fun i b x e1 e2=>hH (i + 1) b x e1 e2
  have h0:=hH 0 a kv rfl rfl
  obtain ⟨_,its,r,it⟩:=(show cY P w H h a (.tup [kV kv.1,kv.2]) from ok a _ h0)
  cases r with
  | cons r1 r2 =>
   cases r2 with
   | cons r3 r4 =>
    cases r4
    rename_i u1 u2
    refine ⟨(kv.1,u1,u2)::xs,by simp [h1],fun i p x e1 e2=>?_,fun x hx=>?_,.cons ⟨rfl,r3⟩ h4⟩
    ·cases i with
     | zero=>cases e1;cases e2;exact it
     | succ i=>exact h2 i p x e1 e2
    ·rcases List.mem_cons.mp hx with z | z
     ·rw [z];exact AO r1
     ·exact h3 x z
 | [],_::_,hl,_=>by simp at hl
 | _::_,[],hl,_=>by simp at hl
theorem B7:∀ {pa:List ah}{us:List a9},dn (pa.map V.ref) us->us=pa.map bK
 | [],us,h=>by cases h;rfl
 | a::pa,us,h=>by
  cases h with
  | cons r t=>rw [B7 t,show _=bK a from r];rfl
theorem Cq {X:Cx} (hc:X.calm=true):j5 X (.type "dict") (fun xs H Q=>∃ (l:ah) (pa:List ah) (kvs:List (cO×V)),xs=[.ref l]/\lF X.K H l (pa.map V.ref)/\kvs.length=pa.length/\pa.length<=1000/\(∀ (i:Nat) (a:ah) (kv:cO×V),pa[i]?=some a->kvs[i]?=some kv->H a=some (.tup [kV kv.1,kv.2]))/\∀ d,H d=none->Q (.ref d) (upd H d (.dK (xT [] kvs)))):=by
 intro pins s σ H xs us Q I r h
 obtain ⟨l,pa,kvs,rfl,hq,hl,hz,hH,q⟩:=h
 obtain ⟨u,rfl,rx⟩:=ko r
 cases rx
 have hh:=I.ok.hd hc
 obtain ⟨its,r',⟨o,n,ho,h1,h2,h3⟩,_⟩:=I.list hq
 obtain rfl:=B7 r'
 obtain ⟨ys,y1,y2,y3,y4⟩:=Em I.hok pa kvs hl hH
 refine Af (by simpa using hh) ho h1 h2 h3 (xs:=ys) (pa:=pa) (fun i v e=>?_) (by rw [y1,al]) y3 (by rw [al];exact hz) y2 (fun p hp=>?_) fun h' tk dd kp=>?_
 ·rw [aN] at e
  cases hp:pa[i]? with
  | none=>rw [hp] at e;cases e
  | some p =>
   rw [hp] at e
   cases e
   have hi:i<ys.length:=by rw [y1];exact (List.getElem?_eq_some_iff.mp hp).1
   exact ⟨p,ys[i],rfl,aQ hi,rfl⟩
 ·obtain ⟨i,hi,e⟩:=fm hp
  have hk:i<kvs.length:=by rw [hl];exact hi
  have:=hH i p kvs[i] (by rw [<- e];exact aQ hi) (aQ hk)
  obtain ⟨_,_,_,_,g,_⟩:=(show cY X.prog X.w H s.heap p (.tup _) from I.hok p _ this)
  exact ao g
 ·have e:IT [] ys=merged [] (ys.map fun x=>(x.1,x.2.2)):=by unfold IT merged;rw [sB]
  rw [e] at dd
  have rel:=KV.merge y4 (Paired.nil:KV (κ:=cO) [] [])
  have ln:=sF kvs []
  simp only [bQ] at ln
  refine ⟨.ref s.heap.objs.size,_,I.laid (t':=tk) kp (au _) (M7 (bE ln (by rw [G5,hl];exact bL (cz hz))) ?_ rel dd),rfl,q _ (I.hok.fresh (au _))⟩
  have:=I.big
  exact beq_false_of_ne (eU this)
end L2
namespace J
open PySem L2
def mI:List D->Option (List (cO×D))
 | []=>some []
 | .tuple [k,v]::r=>(nZ k).bind fun y=>(mI r).map ((y,v)::·)
 | _::_=>none
def uP:D->R D
 | .list ds=>if ds.length<=1000 then (match mI ds with
  | some ps=>.ok (.dict (ps.foldl (fun a p=>sk a (kD p.1) p.2) []))
  | none=>.no) else .no
 | _=>.no
theorem B8 {K:a8}{H:Hp}:∀ {ds:List D}{vs:List V}{ps:List (cO×D)},RDs K H vs ds->mI ds=some ps ->
  ∃ (pa:List ah) (kvs:List (cO×V)),vs=pa.map V.ref/\kvs.length=pa.length/\(∀ (i:Nat) (a:ah) (kv:cO×V),pa[i]?=some a->kvs[i]?=some kv->H a=some (.tup [kV kv.1,kv.2]))/\RDk K H kvs (ps.map fun p=>(kD p.1,p.2))
 | [],vs,ps,r,e=>by
  cases r
  cases e
  exact ⟨[],[],rfl,rfl,fun i a kv e=>by simp at e,.nil⟩
 | d::ds,vs,ps,r,e=>by
  unfold mI at e
  split at e
  ·rename_i h;cases h
  ·rename_i k v r0 h
   cases h
   cases r with
   | cons r1 r2 =>
    rename_i x0 xs0
    cases hk:nZ k with
    | none=>rw [hk] at e;cases e
    | some y =>
     rw [hk] at e
     cases hr:mI ds with
     | none=>rw [hr] at e;cases e
     | some qs =>
      rw [hr] at e
      cases e
      obtain ⟨pa,kvs,h1,h2,h3,h4⟩:=B8 r2 hr
      obtain ⟨a,vs0,rfl,ha,ra⟩:∃ a vs0,x0=V.ref a/\H a=some (.tup vs0)/\RDs K H vs0 [k,v]:=by
       cases r1 with
       | tuple ha ra=>exact ⟨_,_,rfl,ha,ra⟩
      ·obtain ⟨x1,x2,rfl,q1,q2⟩:=ra.two
       have ek:=uL hk
       subst ek
       have:=Ch q1
       subst this
       refine ⟨a::pa,(y,x2)::kvs,by rw [h1];rfl,by simp [h2],fun i b kv e1 e2=>?_,.cons q2 h4⟩
       cases i with
       | zero=>cases e1;cases e2;exact ha
       | succ i=>exact h3 i b kv e1 e2
  ·cases e
theorem Eo {K:a8}{H:Hp}:∀ {kvs:List (cO×V)}{es:List (D×D)}{acc:List (cO×V)}{ds:List (D×D)},RDk K H kvs es->RDk K H acc ds->RDk K H (xT acc kvs) (es.foldl (fun a p=>sk a p.1 p.2) ds)
 | [],es,acc,ds,r,r0=>by
  cases r
  exact r0
 | kv::kvs,es,acc,ds,r,r0=>by
  cases r with
  | cons h t =>
   rename_i k0 x0 d0 ds0
   have:=Eo (kvs:=kvs) t (r0.put k0 h)
   exact this
section
variable {c:C}{e:b9}{g:av->R D}{p cpos:Pos}
def xu (g:av->R D):av->R D:=fun ρ=>(g ρ).bind uP
theorem Kn (hc:c.X.calm=true) (h:JE c e g) (hg2:Gl c.X "dict") (hm2:c.X.mg "dict"=none) (he:az [e] c.X.env=(false,dz e c.X.env)::az [] c.X.env:=by rfl) :
  JN c (.Call (.Name "dict" p) [e] [] cpos) (xu g):=.of fun ρ=>by
 refine qg (vD (Cq hc) hg2 hm2 PyProof.Rows.boot_dict (cb (h ρ) eY he) (he:=he)) fun σ H Q h_1=>?_
 obtain ⟨H0,Hs0,la,Hs,f,q⟩:=h_1
 dsimp only [L2.Ua,L2.Du,L2.LW]
 refine yg f q fun d v H1 Hs1 e1 s1 f1 r1=>?_
 unfold xu at q
 rw [e1,bind_ok] at q
 unfold uP at q
 split at q
 ·rename_i ds
  by_cases hz:ds.length<=1000
  ·rw [if_pos hz] at q
   split at q
   ·rename_i ps hs
    obtain ⟨a,vs0,rfl,qa,ra⟩:∃ a vs0,v=V.ref a/\lF c.X.K Hs1 a vs0/\RDs c.X.K Hs1 vs0 ds:=by
     cases r1 with
     | list qa ra=>exact ⟨_,_,rfl,qa,ra⟩
    ·obtain ⟨pa,kvs,rfl,h2,h3,h4⟩:=B8 ra hs
     have h5:=Eo h4 (RDk.nil (K:=c.X.K) (H:=Hs1))
     rw [sB] at h5
     refine ⟨a,pa,kvs,rfl,?_,h2,?_,fun i b kv e1 e2=>f1.st.sub _ _ (h3 i b kv e1 e2),fun l hl=>q l _ H1 Hs1 s1 hl (.dK h5)⟩
     ·exact du.seq f1.st.sub qa
     ·have:=ra.length
      rw [al] at this
      omega
   ·exact q.elim
  ·rw [if_neg hz] at q;exact q.elim
 ·exact q.elim
end
end J
namespace L2
open PySem PySem.Spec PyProof.Rows
def Tt (K:a8) (a:ah):It :=
 ⟨fun i H=>∃ xs x,lF K H a xs/\xs[i]?=some x,fun i H v H'=>∃ p,H p=none/\v=.ref p/\∀ xs,lF K H a xs->∃ x,xs[i]?=some x/\H'=upd H p (.tup [.int i,x]),fun i H=>∃ xs,lF K H a xs/\xs.length<=i⟩
theorem GM {P:aI}{w:bc}{K:a8}{elts:List b9}{x1}{pos:Pos} (a e it:ah) (hei:e≠it):xN P w K (.Tuple elts x1 pos) (Tt K a) [e,it] e (fun i h=>(∃ old,IsEnum h e it i old)/\h.IsListIter it a i) where
 mem:=by simp
 obj:=fun i h st b hb=>by
  simp only [bf,aU,or_false] at hb
  rcases hb with rfl | rfl
  ·obtain ⟨⟨old,q⟩,_⟩:=st
   exact ⟨_,q,fun v z=>by cases z⟩
  ·obtain ⟨_,o,q,_,d⟩:=st
   exact ⟨o,q,fun v z=>by rw [d] at z;cases z⟩
 keep:=fun i h h' st k=>⟨let ⟨old,q⟩:=st.1;⟨old,k e (by simp) _ q⟩,let ⟨o,q,r⟩:=st.2;⟨o,k it (by simp) o q,r⟩⟩
 item:=by
  intro X hP hw hK hc i pins s σ H E I hf st hg
  subst hP hw hK
  obtain ⟨xs,x,hq,hx⟩:=hg
  obtain ⟨its,rv,p,hz⟩:=I.list hq
  obtain ⟨u,hu,ru⟩:=rv.get hx
  obtain ⟨⟨old,he⟩,hit⟩:=st
  have hit0:=hit
  obtain ⟨oi,ei,_⟩:=hit0
  have he0:=ao he
  refine wpAny_pyNext_enum_item he hit p.isList (by simpa using hu) hei ?_
  intro h1 eo st1 tup sz k1
  refine ⟨_,rfl,G3 eo fun h2 e2 sb2=>?_⟩
  have szn:s.heap.objs.size≠e:=eU he0
  have I2:bF X pins σ H { s with heap:=h2,toks:=s.toks + 1 }:=I.turnedL (ch:=[e,it]) (fun b o hb q=>by
   simp only [bf,aU,or_false,not_or] at hb
   exact (sb2.2 b hb.1).trans (k1 b o hb.1 hb.2 q)) hf
  have fT:=I.fpOk (H':=H) (au _) (I.hok.fresh (au _))
  have tup2:h2.get? s.heap.objs.size=some { cls:=.type "tuple",data:=.seq #[.int i s.toks,u] }:=(sb2.2 _ szn).trans tup
  have I3:=I2.track (ho:=.tup [.int i,x]) fT ⟨by show 2<=sizeLine;decide,[.int i s.toks,u],.cons ⟨s.toks,rfl⟩ (.cons ru .nil),⟨_,tup2,rfl,0,rfl⟩⟩
  refine ⟨.ref s.heap.objs.size,_,I3,rfl,⟨_,fT.1,rfl,fun ys hy=>?_⟩,⟨⟨u,?_⟩,?_⟩,fun b hb=>?_⟩
  ·rw [I.list_inj hy hq];exact ⟨x,hx,rfl⟩
  ·have:(((i + 1:Nat):Int))=(i:Int) + 1:=by omega
   rw [this];exact e2
  ·obtain ⟨o,q,r⟩:=st1
   exact ⟨o,(sb2.2 it (cZ hei)).trans q,r⟩
  ·rw [aT]
   ·exact (hf b hb).1
   ·simp only [bf,aU,or_false] at hb
    rcases hb with z | z
    ·rw [z];exact aB he0
    ·rw [z];exact aB (ao ei)
 done:=by
  intro X hP hw hK hc i pins s σ H E I hf st hg
  subst hP hw hK
  obtain ⟨xs,hq,hx⟩:=hg
  obtain ⟨its,rv,p,hz⟩:=I.list hq
  obtain ⟨⟨old,he⟩,hit⟩:=st
  have hl:=rv.length
  refine wpAny_pyNext_enum_end (by simpa using I.ok.hd hc) he hit p.isList (by simp;omega) fun h' eb=>?_
  exact ⟨rfl,I.turnedL (t':=s.toks) (ch:=[e,it]) (fun b o hb q=>eb b o (by
   simp only [bf,aU,or_false,not_or] at hb;exact hb.2) q) hf⟩
 self:=fun _ _ _ _ _ st h=>let ⟨⟨_,q⟩,_⟩:=st;qc q h
def Tu (K:a8) (ta:TA):TI:=fun σ H R=>ta σ H fun vs H1=>∃ a xs,vs=[.ref a]/\lF K H1 a xs/\R (Tt K a) H1
theorem NJ {X:Cx}{elts:List b9}{x1}{tpos p pos:Pos}{a:b9}{ta:TA} (hg:Gl X "enumerate") (hm:X.mg "enumerate"=none) (ha:PA X [a] ta) (hs:az [a] X.env=[(false,dz a X.env)]:=by rfl) :
  PI X (.Tuple elts x1 tpos) (.Call (.Name "enumerate" p) [a] [] pos) (Tu X.K ta):=by
 intro pins s σ H R I h
 refine Call_ (sY I hg hm boot_enumerate (eW (fD (ha pos pins s σ H _ I h) fun us s1 h1=>?_) hs rfl))
 obtain ⟨vs,H1,I1,r1,q1⟩:=h1
 obtain ⟨ad,xs,rfl,hq,q⟩:=q1
 obtain ⟨u,rfl,rx⟩:=ko r1
 cases rx
 obtain ⟨its,rv,tp,hz⟩:=I1.list hq
 refine call_enumerate_list tp.isList fun h' e1 t1 sz kp=>?_
 refine qc e1 ?_
 have I2:bF X pins σ H1 { s1 with heap:=h' }:=I1.kept (t':=s1.toks) kp
 refine ⟨s1.heap.objs.size + 1,[s1.heap.objs.size + 1,s1.heap.objs.size],_,_,H1,rfl,I2,GM ad _ _ (eU (dU _)),⟨⟨.none,e1⟩,t1⟩,fun b hb=>?_,q⟩
 simp only [bf,aU,or_false] at hb
 rcases hb with z | z
 ·rw [z];exact I1.fpOk (iK _) (I1.hok.fresh (iK _))
 ·rw [z];exact I1.fpOk (au _) (I1.hok.fresh (au _))
end L2
namespace J
open PySem L2
theorem NK {K:a8}{Hn Hs:Hp}{a:ah}{vs:List V}{ds:List D} (h:lF K Hn a vs) (r:RDs K Hs vs ds):MJ K (Tt K a) (iR 0 ds) Hn Hs:=fun H2 Hs2 e1 e2 e3=>by
 have q:=e1.seq h
 have hl:=vM ds 0
 refine ⟨fun i hi=>?_,fun i hi=>⟨vs,q,by rw [r.length];omega⟩,fun i x H3 hi y=>?_⟩
 ·have hi':i<vs.length:=by rw [r.length];omega
  exact ⟨vs,vs[i],q,aQ hi'⟩
 ·obtain ⟨p,hp,rfl,y⟩:=y
  obtain ⟨x,k0,rfl⟩:=y vs q
  obtain ⟨d,k1,k2⟩:=r.get k0
  have st:=cQ.new (o:=.tup [.int i,x]) e3 hp
  refine ⟨.tuple [.int i,d],_,?_,st,.tuple aV (.cons (.int _) (.cons ((k2.same e2).same st.sh) .nil))⟩
  rw [vL,k1]
  simp
section
variable {c:C}{a:b9}{gs:av->R (List D)}{p pos:Pos}
def Qr:List D->R (List D)
 | [.list ds]=>.ok (iR 0 ds)
 | _=>.no
def IU (gs:av->R (List D)):av->R (List D):=fun ρ=>(gs ρ).bind Qr
theorem Ko {elts:List b9}{x1}{tpos:Pos} (hg:Gl c.X "enumerate") (hm:c.X.mg "enumerate"=none) (ha:Dk c [a] gs) (hs:az [a] c.X.env=[(false,dz a c.X.env)]:=by rfl):Lh c (.Tuple elts x1 tpos) (.Call (.Name "enumerate" p) [a] [] pos) (IU gs):=.of fun ρ=>Iu (NJ hg hm (ha ρ) hs) fun σ H Q h_20=>by
 obtain ⟨H0,Hs0,la,Hs,f,q⟩:=h_20
 refine A8 f q fun ds vs H1 Hs1 e1 s1 f1 r1=>?_
 unfold IU at q
 rw [e1,bind_ok] at q
 unfold Qr at q
 split at q
 ·obtain ⟨x,rfl,rx⟩:=r1.one
  cases rx with
  | list qa ra=>exact ⟨_,_,rfl,du.seq f1.st.sub qa,q _ H1 Hs1 s1 (NK qa ra)⟩
 ·exact q.elim
end
end J
namespace L2
open PySem PySem.Spec PyProof.Rows
end L2
namespace J
open PySem L2
section
variable {c:C}{tg a:b9}{gs:av->R (List D)}{p pos:Pos}
end
end J
namespace J
open PySem L2
end J
end
section
namespace J
open PySem L2 PyProof.Rows
structure En where
 P:aI
 w:bc
 K:a8
 mg:Str->Option a9
 base:br
 cls:Str->ah
abbrev FN (e:En):=Fn e.P e.w e.K e.mg e.base e.cls
abbrev FT (e:En):=W9 e.P e.w e.K e.mg e.base e.cls
abbrev ER (e:En):=Er e.mg e.base e.cls
abbrev Cn (mg:Str->Option a9) (x:Str) (n:Int):Prop:=∃ t,mg x=some (.int n t)
structure fR (K:a8) (mg:Str->Option a9) (x:Str) (st:cr):Prop where
 ex:∃ f fd,DB K x x st f fd/\mg x=some (.ref f)
section
variable {K:a8}{h:br}{mg:Str->Option a9}{x:Str}
theorem d_in {st:cr}{A:ah}{od an:Option ah}{sl:Array (Option a9)}{oc kV dc pm cv ct:a9} (X:K.In h) (G:h.Ns bN mg) (a:gN K bN x=some (some (.ref A)))
  (l:K.lookup A=some ⟨oc,od,.func (eE x x (mF st) (iu st) (aw st) .none kV dc pm an cv ct),sl⟩) (c:js K cv x=true) (k:dW K (.ref A)=true):fR K mg x st :=
 ⟨_,_,M5 l c k,k9 X G a⟩
theorem cn_in {n:Int}{tk:Tok} (X:K.In h) (G:h.Ns bN mg) (t:gN K bN x=some (some (.int n tk))):Cn mg x n:=⟨_,k9 X G t⟩
inductive Zs (K:a8):List Str->Prop
 | nil:Zs K []
 | cons {x:Str}{r:List Str}:gN K bN x=some none->Zs K r->Zs K (x::r)
theorem Zs.get {r:List Str} (z:Zs K r):∀ x∈r,gN K bN x=some none:=by
 induction z with
 | nil=>exact fun _ h=>nomatch h
 | cons a _ ih =>
  intro y hy
  rcases List.mem_cons.mp hy with e | e
  ·rw [e];exact a
  ·exact ih y e
abbrev zn:List Str:=["len","isinstance","all","any","zip","tuple","list","sorted","set","range","enumerate","dict","sum","max","min","reversed","str","int","bool","ValueError"]
theorem Vw (X:K.In h) (G:h.Ns bN mg) (z:Zs K zn):Bi mg:=by
 have q:∀ x∈zn,mg x=none:=fun x hx=>G9 X G (z.get x hx)
 exact ⟨q _ (by decide),q _ (by decide),q _ (by decide),q _ (by decide),q _ (by decide),q _ (by decide),q _ (by decide),q _ (by decide),q _ (by decide),q _ (by decide),q _ (by decide),q _ (by decide),q _ (by decide),q _ (by decide),q _ (by decide),q _ (by decide),q _ (by decide),q _ (by decide),q _ (by decide)⟩
theorem Vx (X:K.In h) (G:h.Ns bN mg) (z:Zs K zn):mg "ValueError"=none:=G9 X G (z.get _ (by decide))
end
section
variable {P:aI}{w:bc}{K:a8}{mg:Str->Option a9}{base:br}{N:List Str}{qual:Str}{scope:eT}{f:ah}{cd:a9}{A:bg}{outer:List Env}{s:af}{H:Hp}{E:XK}
theorem px:jw (mh P w) (iV (mh P w) P w K mg base N qual scope f cd A outer s H E) E:=DR fun _ _ h=>h
end
section
variable {c:C}{x y:Str}{e:b9}{es:List b9}{gs:av->R (List D)}{p q pos:Pos}
theorem jc {k j n:Nat}{F:List D->R D} (G:Fn c.X.prog c.X.w c.X.K c.X.mg c.X.base c.cls x k n F) (hr:jn j c.X.A) (hx:jw (mh c.X.prog c.X.w) c.X c.E) (ha:Dk c (e::es) gs)
  (hk:k<=j:=by decide) (hg:Gl c.X x:=by exact rfl) (hdb:(x == ("__debug__" : Str))=false:=by decide) (he:az (e::es) c.X.env=(false,dz e c.X.env)::az es c.X.env:=by rfl) (hpl:(fO pos (az es c.X.env)).any (·.1)=false:=by rfl) :
  JE c (.Call (.Name x p) (e::es) [] pos) (dR n F gs):=Q6 G (hr.mono hk) hg hx ha hdb he hpl
theorem jd {k j n:Nat}{F:List D->R D} (G:W9 c.X.prog c.X.w c.X.K c.X.mg c.X.base c.cls x y k n F) (hr:jn j c.X.A) (hx:jw (mh c.X.prog c.X.w) c.X c.E) (ha:Dk c es gs)
  (hk:k<=j:=by decide) (hg:Gl c.X x:=by exact rfl) (hgy:Gl c.X y:=by exact rfl) (hdb:(x == ("__debug__" : Str))=false:=by decide) (hdy:(y == ("__debug__" : Str))=false:=by decide) (he:az (.Name y q::es) c.X.env=(false,dz (.Name y q) c.X.env)::az es c.X.env:=by rfl) (hpl:(fO pos (az es c.X.env)).any (·.1)=false:=by rfl) :
  JE c (.Call (.Name x p) (.Name y q::es) [] pos) (dR n F gs):=Ql G (hr.mono hk) hg hgy hx ha hdb hdy he hpl
end
abbrev Bq (x:Str) (st:cr) (us:List a9) (r:List (Str×a9)):Prop:=∀ (kV doc pm:a9) (an:Option ah) (cdv ct:a9),bindArgs (eE x x (mF st) (iu st) (aw st) .none kV doc pm an cdv ct) ⟨us,[]⟩=pure r
section
variable {K:a8}{x:Str}{st:cr}{f:ah}{fd:dE}
theorem b1 {a:Str} (F:DB K x x st f fd) (h:∀ u,Bq x st [u] [(a,u)]:=by exact fun _ _ _ _ _ _ _=>rfl):jv K fd [a] []:=F.binds fun _ _ _ _ _ _ us hl=>by obtain ⟨_,rfl⟩:=Y2 hl;exact h ..
theorem b2 {a b:Str} (F:DB K x x st f fd) (h:∀ u v,Bq x st [u,v] [(a,u),(b,v)]:=by exact fun _ _ _ _ _ _ _ _=>rfl):jv K fd [a,b] []:=F.binds fun _ _ _ _ _ _ us hl=>by obtain ⟨_,_,rfl⟩:=Y3 hl;exact h ..
theorem b3 {a b c:Str} (F:DB K x x st f fd) (h:∀ u v w,Bq x st [u,v,w] [(a,u),(b,v),(c,w)]:=by exact fun _ _ _ _ _ _ _ _ _=>rfl):jv K fd [a,b,c] []:=F.binds fun _ _ _ _ _ _ us hl=>by obtain ⟨_,_,_,rfl⟩:=Y4 hl;exact h ..
theorem b4 {a b c d:Str} (F:DB K x x st f fd) (h:∀ u v w z,Bq x st [u,v,w,z] [(a,u),(b,v),(c,w),(d,z)]:=by exact fun _ _ _ _ _ _ _ _ _ _=>rfl):jv K fd [a,b,c,d] []:=F.binds fun _ _ _ _ _ _ us hl=>by obtain ⟨_,_,_,_,rfl⟩:=Y5 hl;exact h ..
theorem b5 {a b c d e:Str} (F:DB K x x st f fd) (h:∀ u v w z y,Bq x st [u,v,w,z,y] [(a,u),(b,v),(c,w),(d,z),(e,y)]:=by exact fun _ _ _ _ _ _ _ _ _ _ _=>rfl):jv K fd [a,b,c,d,e] []:=F.binds fun _ _ _ _ _ _ us hl=>by obtain ⟨_,_,_,_,_,rfl⟩:=Y6 hl;exact h ..
end
theorem nC {e:En}{x:Str}{st:cr}{N ps:List Str}{k:Nat}{g:av->R Fl} (D:fR e.K e.mg x st) (S:bu N ps (aw st)) (b:∀ {f:ah}{fd:dE},DB e.K x x st f fd->jv e.K fd ps [])
  (h:∀ (f:ah) (cdv:a9) (A:bg) (outer:List Env) (s:af) (H:Hp) (E:XK),jn k (A.deeper (iU x (aw st) s.heap.objs.size f cdv))->Ir ⟨iV (mh e.P e.w) e.P e.w e.K e.mg e.base N x (aw st) f cdv A outer s H E,e.cls,E⟩ (iu st) g) :
  FN e x (k + 1) ps.length (eI N.length g):=by
 obtain ⟨f,fd,F,hm⟩:=D.ex
 exact V8 F S hm (b F) (h f)
def XT (N P:List Str) (sc:eT):Bool:=decide (sc.kind=.function) && !sc.isCoroutine && !sc.isGenerator && decide N.Nodup && decide (N.take P.length=P) && P.all (fun x=>decide (sc.names.lookup x=some .local) || decide (sc.names.lookup x=some .cell)) && sc.names.all fun y=>decide (y.2≠.free)
theorem df {N P:List Str}{sc:eT} (h:XT N P sc=true):bu N P sc:=by
 unfold XT at h
 simp only [aW,decide_eq_true_eq,wo,cq,jl] at h
 obtain ⟨⟨⟨⟨⟨⟨a,b⟩,c⟩,d⟩,e⟩,f⟩,g⟩:=h
 exact ⟨a,b,c,d,e,f,g⟩
structure Cw (K:a8) (x:Str) (C:ah):Prop where
 ns:gN K bN x=some (some (.ref C))
 cl:∃ cd,gX K C=some cd
 ty:xI K (.ref C)=some (.type "type")
theorem cw_in {K:a8}{x:Str}{C:ah}{cd:ClassData} (a:gN K bN x=some (some (.ref C))) (i:gX K C=some cd) (y:xI K (.ref C)=some (.type "type")):Cw K x C:=⟨a,⟨_,i⟩,y⟩
inductive S7 (K:a8):List Str->List ah->Prop
 | nil:S7 K [] []
 | cons {x:Str}{C:ah}{ns:List Str}{Cs:List ah}:Cw K x C->S7 K ns Cs->S7 K (x::ns) (C::Cs)
inductive Sb (K:a8) (C:ah):List (ah×Bool)->Prop
 | nil:Sb K C []
 | cons {D:ah}{b:Bool}{l:List (ah×Bool)}:ni K (.ref C) (.ref D)=some b->(b=false->C≠D)->Sb K C l->Sb K C ((D,b)::l)
structure Wy (K:a8) (C CP:ah) (l:List (ah×Bool)):Prop where
 x1:gz K (.ref C) "__getattribute__"=some (some (.builtin "BaseException.__getattribute__"))
 x2:gz K (.ref C) "__getattr__"=some none
 x3:gz K (.ref C) "__class__"=some (some (.builtin "object.__class__"))
 x4:ud K (.builtin "object.__class__") "__get__"=some (some (.builtin "getset_descriptor.__get__"))
 x5:wK K (.builtin "object.__class__")=some true
 x6:eB K C (.type "object")=some true
 x7:eB K C (.ref CP)=some true
 x8:ni K (.ref C) (.type "ValueError")=some true
 x9:(bK CP == bK C)=false
 sb:Sb K C l
theorem S7.at {K:a8}{ns:List Str}{Cs:List ah} (N:S7 K ns Cs):∀ (i:Nat) (n:Str),ns[i]?=some n->∃ C,Cs[i]?=some C/\Cw K n C:=by
 induction N with
 | nil=>intro i n h;simp at h
 | cons a _ ih =>
  intro i n h
  cases i with
  | zero=>cases h;exact ⟨_,rfl,a⟩
  | succ i=>exact ih i n h
theorem Sb.at {K:a8}{C:ah}{l:List (ah×Bool)} (N:Sb K C l):∀ (i:Nat) (D:ah) (b:Bool),l[i]?=some (D,b)->ni K (.ref C) (.ref D)=some b/\(b=false->C≠D):=by
 induction N with
 | nil=>intro i D b h;simp at h
 | cons a c _ ih =>
  intro i D b h
  cases i with
  | zero=>cases h;exact ⟨a,c⟩
  | succ i=>exact ih i D b h
theorem Vy {K:a8}{h:br}{mg:Str->Option a9}{cls:Str->ah}{ns:List Str}{Cs:List ah} (X:K.In h) (G:h.Ns bN mg) (N:S7 K ns Cs) (hn:ns.map cls=Cs):∀ n∈ns,mg n=some (.ref (cls n)):=by
 intro n hm
 obtain ⟨i,hi,e⟩:=fm hm
 have e1:ns[i]?=some n:=by rw [aQ hi,e]
 obtain ⟨C,h1,h2⟩:=N.at i n e1
 rw [<- hn,aN,e1] at h1
 cases h1
 exact k9 X G h2.ns
theorem IV {K:a8}{base:br}{mg:Str->Option a9}{cls:Str->ah}{x:Str}{C CP:ah}{ns:List Str}{Cs:List ah}{l:List (ah×Bool)}{j:Nat} (X:K.In base) (G:base.Ns bN mg) (T:TopC K x C) (W:Wy K C CP l) (N:S7 K ns Cs)
  (hc:cls x=C) (hp:cls "PlanError"=CP) (hn:ns.map cls=Cs) (hl:l.map (·.1)=Cs) (hb:l.map (·.2)=bits j) (hj:j<11) (hx:x∈ns):Xf K base cls ns (cls x) j:=by
 obtain ⟨bm,o,mm⟩:=(GI X G T.ns T.ex T.mb).2
 subst hc hp
 have hcl:(gX K (cls x)).isSome=true:=by
  obtain ⟨i,hi,e⟩:=fm hx
  have e1:ns[i]?=some x:=by rw [aQ hi,e]
  obtain ⟨C,h1,h2⟩:=N.at i x e1
  rw [<- hn,aN,e1] at h1
  cases h1
  obtain ⟨cd,h3⟩:=h2.cl
  rw [h3];rfl
 refine ⟨⟨W.x1,W.x2,W.x3,W.x4,W.x5,W.x6,T.mb,hcl⟩,fun i n e=>?_,Tg W.x8,⟨bm,o,mm _ W.x9 W.x7⟩,hj⟩
 obtain ⟨D,h1,h2⟩:=N.at i n e
 have h3:Cs[i]?=some (cls n):=by rw [<- hn,aN,e];rfl
 rw [h1] at h3
 cases h3
 obtain ⟨cd,h4⟩:=h2.cl
 have hi:l[i]?≠none:=fun z=>by
  rw [<- hl,aN,z] at h1
  cases h1
 cases hq:l[i]? with
 | none=>exact (hi hq).elim
 | some q =>
  obtain ⟨D,b⟩:=q
  have e1:D=cls n:=by rw [<- hl,aN,hq] at h1;cases h1;rfl
  have e2:(bits j)[i]?=some b:=by rw [<- hb,aN,hq];rfl
  subst e1
  obtain ⟨s1,s2⟩:=W.sb.at i _ b hq
  have e3:b=decide (i=j):=by
   unfold bits at e2
   match i,e2 with
   | 0,e | 1,e | 2,e | 3,e | 4,e | 5,e | 6,e | 7,e | 8,e | 9,e | 10,e=>simpa using e.symm
   | (i + 11),e=>simp at e
  rw [<- e3]
  exact Qi h4 h2.ty s1 s2
end J
end
section
namespace L2
open PySem PySem.Spec PyProof.Rows
section
variable {prog:aI}{w:bc}{A:bg}{E:a9->af->Prop}{s:af}{it d:ah}{i n ep:Nat}{o:Obj}{es:Array BE}
theorem Qs {Q:Option a9->af->Prop}{e:BE} (hit:s.heap.IsKeyIter it d i es.size ep) (hd:s.heap.get? d=some o) (ho:o.data=.dict es ep) (he:es[i]?=some e)
  (h:∀ h':br,h'.IsKeyIter it d (i + 1) es.size ep->bD it s.heap h'->Q (some e.key) { s with heap:=h' }) :
  aq (aF prog w) A (jr (.ref it)) Q E s:=by
 obtain ⟨⟨c0,d0,dt,sl⟩,q1,q2,q3⟩:=id hit
 simp only at q2 q3
 subst q2 q3
 unfold jr
 refine a7 (iI ?_)
 refine cm (name:=gy "__next__") hit.typeIs fG ?_
 refine bZ fG hit.typeIs sC ?_ (sf _)
 refine a7 (e7 (a:=.ref it) rfl ?_)
 refine a7 (a7 (a7 (i5 hit.typeIs (ac ?_))))
 refine a7 (G0 q1 rfl ?_)
 show aq _ _ (if (bK d == dN)=true then _ else _) _ _ s
 rw [if_neg (by simp)]
 refine a7 (e7 (a:=d) rfl ?_)
 refine a7 (zX hd ho ?_)
 show aq _ _ (if ((es.size:Int) != (es.size:Int))=true then _ else _) _ _ s
 rw [if_neg (by simp)]
 refine a7 (e7 (a:=d) rfl ?_)
 refine a7 (Dp hd ho ?_)
 show aq _ _ (if ((ep:Int) != (ep:Int))=true then _ else _) _ _ s
 rw [if_neg (by simp)]
 refine ac ?_
 have e0:(if (i:Int)<0 then none else es[(i:Int).toNat]?)=some e:=by
  rw [if_neg (by omega)]
  simpa using he
 simp only [e0]
 refine a7 (a7 (i5 hit.typeIs (ac ?_)))
 refine a7 (OU hit.typeIs ?_)
 refine a7 (f_ q1 rfl (by simp [lw]) ?_)
 have st:∀ k x,k=1->x=cf ((i:Int) + 1)->(s.heap.update it (ed (·.setIfInBounds k x))).IsKeyIter it d (i + 1) es.size ep:=fun k x hk hx=>by
  subst hk hx
  have q:=fQ (ed (·.setIfInBounds 1 (cf ((i:Int) + 1)))) q1 rfl
  refine ⟨_,q,rfl,?_⟩
  show Data.fields ((#[.ref d,.int i 0,.int es.size 0,.int ep 0] : Array a9).setIfInBounds 1 (cf ((i:Int) + 1)))=_
  simp [cf]
 have st1:=st _ _ rfl rfl
 refine a7 (cp (a7 (OU st1.typeIs ?_)))
 refine ac ?_
 exact ac ⟨_,rfl,ac (h _ st1 (bI ..))⟩
theorem Tv {Q:Option a9->af->Prop} (hh:A.handled=none) (hit:s.heap.IsKeyIter it d i es.size ep) (hd:s.heap.get? d=some o) (ho:o.data=.dict es ep) (he:es.size<=i)
  (h:∀ h':br,HM it s.heap h'->Q none { s with heap:=h' }) :
  aq (aF prog w) A (jr (.ref it)) Q E s:=by
 obtain ⟨⟨c0,d0,dt,sl⟩,q1,q2,q3⟩:=id hit
 simp only at q2 q3
 subst q2 q3
 unfold jr
 refine a7 (iI ?_)
 refine cm (name:=gy "__next__") hit.typeIs fG ?_
 refine bZ fG hit.typeIs sC ?_ (sf _)
 refine a7 (e7 (a:=.ref it) rfl ?_)
 refine a7 (a7 (a7 (i5 hit.typeIs (ac ?_))))
 refine a7 (G0 q1 rfl ?_)
 show aq _ _ (if (bK d == dN)=true then _ else _) _ _ s
 rw [if_neg (by simp)]
 refine a7 (e7 (a:=d) rfl ?_)
 refine a7 (zX hd ho ?_)
 show aq _ _ (if ((es.size:Int) != (es.size:Int))=true then _ else _) _ _ s
 rw [if_neg (by simp)]
 refine a7 (e7 (a:=d) rfl ?_)
 refine a7 (Dp hd ho ?_)
 show aq _ _ (if ((ep:Int) != (ep:Int))=true then _ else _) _ _ s
 rw [if_neg (by simp)]
 refine ac ?_
 have e0:(if (i:Int)<0 then none else es[(i:Int).toNat]?)=none:=by
  rw [if_neg (by omega)]
  simpa using he
 simp only [e0]
 refine a7 (a7 (i5 hit.typeIs (ac ?_)))
 refine a7 (f_ q1 rfl (by simp [lw]) ?_)
 show aq _ _ (sS (.type "StopIteration") [] >>= _) _ _ _
 refine a7 ?_
 simp only [sS,P3]
 refine a7 (bU ?_ (by size_fits))
 refine a7 (m:=kL _ _) (e7 (a:=dN) ?_ ?_)
 ·first
   | rfl
   | (simp only [kL];rfl)
 refine bU ?_ (by size_fits)
 simp only [s9]
 refine a7 (Jv ?_)
 rw [show A.in1.handled=none from hh]
 refine a7 (ac (P4 ?_))
 refine a7 (hJ (T:="StopIteration") (b:=true) ⟨_,ay _ rfl,rfl⟩ vv ?_)
 exact ac (h _ (((bI ..).extBut.push _).push _))
theorem Tw {Q:a9->af->Prop} (hs:(d == fW)=false) (hd:s.heap.get? d=some o) (hx:o.ExactDict) (ho:o.data=.dict es ep)
  (h:Q (.ref s.heap.objs.size) { s with heap:=s.heap.push { cls:=.type "dict_keyiterator",data:=.fields #[.ref d,.int 0 0,.int es.size 0,.int ep 0] } }) :
  aq (aF prog w) A (xC (.ref d)) Q E s:=by
 have ty:s.TypeIs (.ref d) "dict":=⟨o,hd,hx.1⟩
 refine zS ty BJ (bZ BJ ty PySem.F.entry_dict_iter ?_ (PySem.F.args_dict_iter_1 _))
 refine a7 (a7 (OT ty (a7 (e7 (a:=(bK d,[])) rfl (ac ?_)))))
 refine a7 (e7 (a:=d) rfl ?_)
 refine a7 (e7 (a:=()) (by unfold Builtin.Dict.showsAll;rw [hs];rfl) ?_)
 refine a7 (zX hd ho ?_)
 refine a7 (Dp hd ho ?_)
 refine a7 (bU ?_ (by size_fits))
 exact ac ⟨_,rfl,"dict_keyiterator",_,⟨_,ay _ rfl,rfl⟩,PySem.F.slot_dict_keyiterator_next.lookup,h⟩
end
def X6 (a:ah) (o:Obj) (kvs:List (List cO×V)):It :=
 ⟨fun i H=>H a=some (.frz o (.dT kvs))/\i<kvs.length,fun i H x H'=>H'=H/\∃ k v b,kvs[i]?=some (k,v)/\x=.ref b/\H b=some (.tup (k.map kV)),fun i H=>H a=some (.frz o (.dT kvs))/\kvs.length<=i⟩
theorem Kp {α β:Type}{F:α->β->Prop}{l:List α}{m:List β} (h:FG F l m):∀ {i:Nat}{x:α},l[i]?=some x->∃ y,m[i]?=some y/\F x y:=by
 induction h with
 | nil=>intro i x e;simp at e
 | cons a _ ih =>
  intro i x e
  cases i with
  | zero=>cases e;exact ⟨_,rfl,a⟩
  | succ i=>exact ih e
theorem yL {P:aI}{w:bc}{H:Hp}{h:br}{a:ah}{o:Obj}{kvs:List (List cO×V)} (ok:pQ P w H h) (e:H a=some (.frz o (.dT kvs))):(a == fW)=false/\h.get? a=some o/\o.ExactDict/\∃ es ep,o.data=.dict es ep/\es.size=kvs.length /\
  ∀ (i:Nat) (k:List cO) (v:V),kvs[i]?=some (k,v)->∃ (en:BE) (b:ah),es[i]?=some en/\en.key=bK b/\H b=some (.tup (k.map kV)):=by
 obtain ⟨h0,z,y,xs,r,o',es,ep,h1,h2,h3,h4,h5⟩:=(show cY P w H h a (.frz o (.dT kvs)) from ok a _ e)
 rw [h0] at h1
 cases h1
 refine ⟨y,h0,h2,es,ep,h3,?_,fun i k v hk=>?_⟩
 ·rw [<- ar,h4,al]
  exact (iT r).symm
 ·obtain ⟨q,q1,q2⟩:=Kp r hk
  refine ⟨entryOfKey (rZ (dh P w)) q,q.2.1,?_,?_,q2.2.1⟩
  ·rw [<- dC,h4,aN,q1]
   rfl
  ·rfl
theorem Kq {P:aI}{w:bc}{K:a8}{tg:b9}{a it:ah}{o:Obj}{kvs:List (List cO×V)}{es:Array BE}{ep:Nat} (hd:o.data=.dict es ep) (hn:es.size=kvs.length) :
  xN P w K tg (X6 a o kvs) [it] it (fun i h=>h.IsKeyIter it a i es.size ep) where
 mem:=by simp
 obj:=fun i h st b hb=>by
  have e:b=it:=by simpa using hb
  subst e
  obtain ⟨o,e,c,d⟩:=st
  exact ⟨o,e,fun v z=>by rw [d] at z;cases z⟩
 keep:=fun i h h' st k=>st.at fun o e=>k it (by simp) o e
 item:=by
  intro X hP hw hK hc i pins s σ H E I hf st hg
  subst hP hw hK
  obtain ⟨hq,hi⟩:=hg
  obtain ⟨_,g1,_,es',ep',g2,g3,g4⟩:=yL I.hok hq
  rw [hd] at g2
  cases g2
  obtain ⟨en,b,e1,e2,e3⟩:=g4 i _ _ (aQ hi)
  obtain ⟨f0,f1,f2,f3,f4,f5⟩:=hf it (by simp)
  refine Qs st g1 hd e1 fun h' st' sb=>?_
  have I1:bF X pins σ H { s with heap:=h' }:=I.turned (t':=s.toks) (fun b o hb e=>(sb.2 b hb).trans e) f0 f1 f3 f4 f5
  obtain ⟨o',e,c,d⟩:=id st'
  refine ⟨_,rfl,HU (s:={ s with heap:=h' }) e c d (by decide) ⟨.ref b,H,I1,?_,⟨rfl,_,_,b,aQ hi,rfl,e3⟩,st',fun b hb=>(hf b hb).1⟩⟩
  rw [e2]
  rfl
 done:=by
  intro X hP hw hK hc i pins s σ H E I hf st hg
  subst hP hw hK
  obtain ⟨hq,hi⟩:=hg
  obtain ⟨_,g1,_,es',ep',g2,g3,g4⟩:=yL I.hok hq
  obtain ⟨f0,f1,f2,f3,f4,f5⟩:=hf it (by simp)
  exact Tv (I.ok.hd hc) st g1 hd (by omega) fun h' eb=>⟨rfl,I.turned (t':=s.toks) (fun b o hb e=>eb b o hb e) f0 f1 f3 f4 f5⟩
 self:=fun _ _ _ _ _ st h=>wpAny_pyIter_keyiter st h
def Vz (tl:TE):TI:=fun σ H R=>tl σ H fun x H1=>∃ a o kvs,x=.ref a/\H1 a=some (.frz o (.dT kvs))/\R (X6 a o kvs) H1
theorem Qt {X:Cx}{tg l:b9}{tl:TE} (hl:PE X l tl):PI X tg l (Vz tl):=by
 intro pins s σ H R I h
 refine fD (hl pins s σ H _ I h) fun v s1 h1=>?_
 obtain ⟨x,H1,I1,r1,q1⟩:=h1
 obtain ⟨a,o,kvs,e,hq,q⟩:=q1
 subst e
 cases r1
 obtain ⟨y,g1,g0,es,ep,g2,g3,g4⟩:=yL I1.hok hq
 refine Tw y g1 g0 g2 ?_
 refine ⟨s1.heap.objs.size,[s1.heap.objs.size],_,_,H1,rfl,I1.kept (t':=s1.toks) fun b o e=>ag _ e,Kq g2 g3,⟨_,ay _ rfl,rfl,rfl⟩,fun b hb=>?_,q⟩
 rw [List.mem_singleton.mp hb]
 exact I1.fpOk (au _) (I1.hok.fresh (au _))
def Y7 (tk tv:TE):TE:=fun σ H Q=>∀ p,H p=none->tk σ (upd H p (.dT [])) fun y H1=>tv σ H1 fun v H2=>∃ kvs k b,H2 p=some (.dT kvs)/\y=.ref b/\H2 b=some (.tup (k.map kV))/\kvs.length<sizeLine/\Q (.ref p) (upd H2 p (.dT (kq kvs k v)))
theorem NL {X:Cx}{k v:b9}{pos:Pos}{tk tv:TE} (hu:X.A.units + 1<k7) (hk:PE X k tk) (hv:PE X v tv):PE X (.Dict [some k] [v] pos) (Y7 tk tv):=by
 intro pins s σ H Q I h
 refine wpAny_Dict_any rfl rfl (by simp) (by simp) ?_
 have I0:bF X pins σ (upd H s.heap.objs.size (.dT [])) { s with heap:=s.heap.push { cls:=.type "dict",data:=.dict #[] } }:=I.laid (a:=s.heap.objs.size) (o:=.dT []) (t':=s.toks) (fun _ _ q=>ag _ q) (au _) (M9 s.heap I.big)
 have h0:=h s.heap.objs.size (I.hok.fresh (au _))
 simp only [pairTrees,evalPairs]
 refine a7 (fD (hk pins _ σ _ _ I0 h0) fun u1 s1 h1=>?_)
 obtain ⟨y,H1,I1,r1,q1⟩:=h1
 refine a7 (cp (a7 (fD (hv pins s1 σ H1 _ I1 q1) fun u2 s2 h2=>?_)))
 obtain ⟨z,H2,I2,r2,q2⟩:=h2
 obtain ⟨kvs,ks,b,e1,e2,e3,e4,q⟩:=q2
 refine a7 (iF (ac ?_))
 refine a7 (cp (ac (ac ?_)))
 subst e2
 cases r1
 unfold storeAll
 simp only [jj,sy,bind_assoc]
 obtain ⟨z1,hd,xs,rel,dd⟩:=Rl I2.hok e1
 have hz:xs.length<=sizeLine:=by rw [<- iT rel];exact z1
 have hl:(kq kvs ks z).length<=sizeLine:=by have:=mG kvs ks z;omega
 refine a7 (wpAny_dictSet_heap (by show X.A.units<k7;omega) (vE I2.hok e3) dd (fun h' dd' hs=>?_) hz)
 obtain ⟨o',es,ep,hq,g2,g3,g4,_,g5⟩:=dd'
 have I3:=BV (t':=s2.toks + (rZ (dh X.prog X.w)).draws ks) I2 (by rw [e1];exact iG) hs ⟨o',hq⟩ (ob:=.dT (kq kvs ks z)) ⟨hl,hd,_,(rel.put ks e3 r2).keeps fun c ys ec=>(by rw [aT (Ly ec e1 (fun z=>nomatch z))];exact ec),o',es,ep,hq,g2,g3,g4,g5⟩
 exact ac ⟨.ref s.heap.objs.size,_,I3,rfl,q⟩
end L2
namespace J
open PySem L2
def keysOf:List D->Option (List cO)
 | []=>some []
 | d::r=>(nZ d).bind fun k=>(keysOf r).map (k::·)
def pT:D->Option (List cO)
 | .tuple ds=>keysOf ds
 | _=>none
theorem B9:∀ {ds:List D}{ks:List cO},keysOf ds=some ks->ds=ks.map kD
 | [],ks,h=>by cases h;rfl
 | d::r,ks,h=>by
  unfold keysOf at h
  cases hk:nZ d with
  | none=>rw [hk] at h;cases h
  | some y =>
   rw [hk,oj] at h
   cases hr:keysOf r with
   | none=>rw [hr] at h;cases h
   | some l =>
    rw [hr] at h
    cases h
    rw [aG,<- uL hk,<- B9 hr]
theorem uQ {d:D}{ks:List cO} (h:pT d=some ks):d=tD ks:=by
 cases d<;>first | (cases h;done) | skip
 rename_i ds
 unfold tD
 rw [<- B9 (show keysOf ds=some ks from h)]
theorem Ba:∀ ks:List cO,keysOf (ks.map kD)=some ks
 | []=>rfl
 | k::r=>by rw [aG,keysOf,keyOf_of,Ba r];rfl
theorem NM (ks:List cO):pT (tD ks)=some ks:=Ba ks
theorem IW:∀ a b:List cO,dD (a.map kD) (b.map kD)=decide (a=b)
 | [],[]=>by simp [dD]
 | [],_::_=>by simp [dD]
 | _::_,[]=>by simp [dD]
 | x::a,y::b=>by
  rw [aG,aG]
  simp only [dD]
  rw [Cf,IW a b]
  by_cases h:x=y<;>by_cases h2:a=b<;>simp [h,h2]
theorem Cr (a b:List cO):aZ (tD a) (tD b)=decide (a=b):=by
 unfold tD
 simp only [aZ]
 exact IW a b
theorem RDt.any {K:a8}{H:Hp}{kvs:List (List cO×V)} (y:List cO):∀ {ds:List (D×D)},RDt K H kvs ds->(ds.any fun kv=>aZ kv.1 (tD y))=kvs.any fun kv=>decide (kv.1=y):=by
 induction kvs with
 | nil=>intro ds h;cases h;rfl
 | cons x r ih=>intro ds h;cases h with | cons h t=>rw [e6,e6,ih t,Cr]
theorem RDt.repl {K:a8}{H:Hp} (y:List cO) {v:V}{d:D} (rv:RD K H v d) {kvs:List (List cO×V)}:∀ {ds:List (D×D)},RDt K H kvs ds ->
  RDt K H (kvs.map fun kv=>if kv.1=y then (kv.1,v) else kv) (ds.map fun kv=>if aZ kv.1 (tD y) then (kv.1,d) else kv):=by
 induction kvs with
 | nil=>intro ds h;cases h;exact .nil
 | cons x r ih =>
  intro ds h
  cases h with
  | @cons k _ _ _ _ h t =>
   rw [aG,aG]
   have e:=Cr k y
   by_cases hk:k=y
   ·subst hk
    rw [show (if k=k then (k,v) else (k,_))=(k,v) from if_pos rfl,show (if aZ (tD k) (tD k)=true then (tD k,d) else (tD k,_))=(tD k,d) from if_pos (by rw [e];simp)]
    exact .cons rv (ih t)
   ·simp only [e,hk,if_neg,decide_false,bY,not_false_eq_true]
    exact .cons h (ih t)
theorem RDt.snoc {K:a8}{H:Hp} (y:List cO) {v:V}{d:D} (rv:RD K H v d) {kvs:List (List cO×V)}:∀ {ds:List (D×D)},RDt K H kvs ds->RDt K H (kvs++[(y,v)]) (ds++[(tD y,d)]):=by
 induction kvs with
 | nil=>intro ds h;cases h;exact .cons rv .nil
 | cons x r ih=>intro ds h;cases h with | cons h t=>exact .cons h (ih t)
theorem RDt.put {K:a8}{H:Hp}{kvs:List (List cO×V)}{ds:List (D×D)} (r:RDt K H kvs ds) (y:List cO) {v:V}{d:D} (rv:RD K H v d):RDt K H (kq kvs y v) (sk ds (tD y) d):=by
 unfold kq sk
 rw [r.any y]
 split
 ·exact r.repl y rv
 ·exact r.snoc y rv
theorem Tx {κ:Type} [DecidableEq κ] {kvs:List (κ×V)}{y:κ}{v:V}:kq kvs y v≠[]:=by
 unfold kq
 split
 ·rename_i h
  intro z
  have:=List.map_eq_nil_iff.mp z
  subst this
  cases h
 ·simp
theorem RDt.val {K:a8}{H:Hp}{kvs:List (List cO×V)} (y:List cO):∀ {ds:List (D×D)},RDt K H kvs ds->(nW kvs y=none/\kQ ds (tD y)=none)\/∃ v d,nW kvs y=some v/\kQ ds (tD y)=some d/\RD K H v d:=by
 induction kvs with
 | nil=>intro ds h;cases h;exact .inl ⟨rfl,rfl⟩
 | cons x r ih =>
  intro ds h
  cases h with
  | @cons k _ _ _ _ h t =>
   unfold nW kQ
   rw [c9,c9,Cr]
   by_cases hk:k=y
   ·simp only [hk,decide_true,da]
    exact .inr ⟨_,_,rfl,rfl,h⟩
   ·simp only [hk,decide_false]
    exact ih t
def IX:List (D×D)->List (D×D)
 | (.none,_)::r=>r
 | l=>l
def jB (ds:List (D×D)):Bool:=!ds.isEmpty && ds.all fun kv=>(pT kv.1).isSome
theorem RDk.notT {K:a8}{H:Hp}{kvs:List (cO×V)}{ds:List (D×D)} (h:RDk K H kvs ds) (e:jB (IX ds)=true):False:=by
 cases h with
 | nil=>cases e
 | @cons k _ _ _ _ h t =>
  cases k<;>simp [IX,jB,kD,pT] at e
theorem RDt.un {K:a8}{H:Hp}{kvs:List (List cO×V)}{ds:List (D×D)} (h:RDt K H kvs ds):IX ds=ds:=by
 cases h<;>rfl
theorem xv {K:a8}{H Hs:Hp}{v:V}{ks:List cO} (sub:du Hs H) (h:RB K H Hs v (tD ks)):∃ b,v=.ref b/\H b=some (.tup (ks.map kV)):=by
 rcases h with h | ⟨_,o,rfl,_,_,ow⟩
 ·cases h with
  | tuple q r =>
   have:=xp (c:=kD) (k:=kV) (fun h=>Ch h) r
   subst this
   exact ⟨_,rfl,sub _ _ q⟩
 ·cases ow
theorem IY {K:a8}{H Hs:Hp}{v:V}{ds:List (D×D)} (sub:du Hs H) (h:RB K H Hs v (.dict ds)) (e:jB (IX ds)=true):∃ a kvs,v=.ref a/\RDt K Hs kvs (IX ds)/\∀ (b:ah) (k:List cO),H b=some (.tup (k.map kV))->wR H a (.ref b) (nW kvs k):=by
 obtain ⟨a,ea,hh⟩:=h.dict sub
 clear h
 subst ea
 rcases hh with ⟨kvs,h1,h2⟩ | ⟨kvs,h1,hn,h2⟩ | ⟨o,kvs,es,rfl,h1,hn,h2⟩
 ·exact (h2.notT e).elim
 ·exact ⟨a,kvs,rfl,by rw [h2.un];exact h2,fun b k hb=>wR.t h1 hb⟩
 ·exact ⟨a,kvs,rfl,h2,fun b k hb=>.inr ⟨kvs,k,b,.inr ⟨o,h1⟩,rfl,hb,rfl⟩⟩
def Ct:D->D->R D
 | .dict ds,k=>match pT k with
  | some _=>if jB (IX ds)=true then (match kQ (IX ds) k with
   | some d=>.ok d
   | none=>.no) else .no
  | none=>.no
 | _,_=>.no
section
variable {c:C}{a b e k:b9}{ga gb g gk:av->R D}{pos p apos:Pos}{x:Str}
theorem vO (hu:c.X.A.units + 1<k7) (ha:JB c a ga) (hb:JB c b gb) (hs:ut b:=by exact fun _ _=>rfl):JE c (.Subscript a b pos) (g2 ga gb Ct):=.of fun ρ=>by
 refine qg (Ic hu (ha ρ) (hb ρ) hs) fun σ H Q h_2=>?_
 obtain ⟨H0,Hs0,la,Hs,f,q⟩:=h_2
 refine one f q fun d v H1 Hs1 e1 s1 f1 r1=>?_
 unfold g2 at q
 rw [e1,bind_ok] at q
 refine one f1 (q.on s1 (q':=fun _=>True) fun _ _=>trivial) fun y w H2 Hs2 e2 s2 f2 r2=>?_
 rw [e2,bind_ok] at q
 unfold Ct at q
 split at q
 ·rename_i ds
  split at q
  ·rename_i ky hy
   obtain rfl:=uQ hy
   by_cases hf:jB (IX ds)=true
   ·rw [if_pos hf] at q
    obtain ⟨p,kvs,rfl,h2,h3⟩:=IY f2.st.sub (r1.step s2) hf
    obtain ⟨b,rfl,hb⟩:=xv f2.st.sub r2
    rcases h2.val ky with ⟨_,h4⟩ | ⟨u,d,h4,h5,h6⟩
    ·rw [h4] at q;exact q.elim
    ·rw [h5] at q
     exact ⟨p,u,rfl,by rw [<- h4];exact h3 b ky hb,q _ H2 Hs2 (s1.trans s2) h6⟩
   ·rw [if_neg hf] at q;exact q.elim
  ·exact q.elim
 ·exact q.elim
def inT (neg:Bool):D->D->R D
 | k,.dict ds=>match pT k with
  | some _=>if jB (IX ds)=true then .ok (.bool (if neg then !(kQ (IX ds) k).isSome else (kQ (IX ds) k).isSome)) else .no
  | none=>.no
 | _,_=>.no
theorem Bb (hu:c.X.A.units + 1<k7):wU c.X (bG .NotIn) (inT true):=by
 refine ⟨fun pins s σ H x y v u Q I rv ru h=>?_,fun x y c n=>?_⟩
 ·obtain ⟨Hs,dx,dy,sub,rx,ry,d,hd,q⟩:=h
  unfold inT at hd
  split at hd
  ·rename_i ds
   split at hd
   ·rename_i ky hy
    obtain rfl:=uQ hy
    split at hd
    ·rename_i hf
     cases hd
     obtain ⟨p,kvs,rfl,h2,h3⟩:=IY sub ry hf
     obtain ⟨b,rfl,hb⟩:=xv sub rx
     cases ru
     refine L2.PK hu I (h3 b ky hb) rv fun s' I'=>⟨.bl _,H,I',rfl,?_⟩
     have e:(nW kvs ky).isSome=(kQ (IX ds) (tD ky)).isSome:=by
      rcases h2.val ky with ⟨h4,h5⟩ | ⟨u,d,h4,h5,h6⟩<;>rw [h4,h5]<;>rfl
     rw [e]
     exact q _ H Hs (.refl sub) (.bool _)
    ·cases hd
   ·cases hd
  ·cases hd
 ·unfold inT
  split<;>(try split)<;>(try split)<;>exact fun h=>by cases h
def sL (i:Nat) (gk g:av->R D):av->R Fl:=fun ρ=>match ρ[i]? with
 | some (Sl.own (.dict kvs))=>(g ρ).bind fun d=>(gk ρ).bind fun k=>match pT k with
  | some _=>if kvs.length<1000/\jB kvs=true then .ok (.nx (ρ.set i (.own (.dict (sk kvs k d))))) else .no
  | none=>.no
 | _=>.no
theorem Ep (i:Nat) (h:JE c e g) (hk:JE c k gk) (hu:c.X.A.units + 1<k7) (hN:c.X.N[i]?=some x:=by rfl) (hv:Lf c.X.env.scope x:=by first | exact gx rfl | exact d_ (gx rfl) | exact d_ (d_ rfl)) (hd:(x == ("__debug__" : Str))=false:=by decide)
  (hcd:(x == ("__classdict__" : Str))=false:=by decide) (hs:gZ e (some (.Subscript (.Name x p) k apos)) pos.line c.X.env=pure false:=by rfl):JS c (.Assign [.Subscript (.Name x p) k apos] e pos) (sL i gk g):=.of fun ρ=>by
 refine yf (Ie hu (nl hN hv hd hcd) (hk ρ) (h ρ) hs) fun D σ H h_1=>?_
 obtain ⟨H0,Hs0,la,Hs,f,q⟩:=h_1
 replace q:nX c.X.K c.cls c.E H0 Hs0 la D (sL i gk g ρ):=q
 unfold sL at q
 split at q
 ·rename_i kvs ho
  obtain ⟨a,o,k1,k2,k3,k4,k5⟩:=f.ow i _ ho
  refine sE f q fun d v H1 Hs1 e1 s1 f1 r1=>?_
  rw [e1,bind_ok] at q
  refine ⟨_,k1,sE f1 q fun y w H2 Hs2 e2 s2 f2 r2=>?_⟩
  rw [e2,bind_ok] at q
  split at q
  ·rename_i ky hy
   obtain rfl:=uQ hy
   by_cases hl:kvs.length<1000/\jB kvs=true
   ·rw [if_pos hl] at q
    cases k5 with
    | dK r=>exact (r.notT (by cases r with | nil=>exact hl.2 | @cons k _ _ _ _ _ _=>cases k<;>exact hl.2)).elim
    | dF n r=>cases hl.2
    | dT n r =>
     have ha:=s2.all _ _ (s1.all _ _ k2)
     have r':=(r.same s1.sh).same s2.sh
     obtain ⟨b,rfl,hb⟩:=xv f2.st.sub (.inl r2)
     exact ⟨a,_,rfl,DF.t ha hb (cz (by rw [r.length];omega)),q _ _ Hs2 (f2.write i ho k1 (.dT Tx (r'.put ky (r1.same s2.sh))))⟩
   ·rw [if_neg hl] at q;exact q.elim
  ·exact q.elim
 ·exact q.elim
end
end J
namespace J
open PySem L2
def kx (i:Nat) (ρ:av):av:=match ρ[i]? with
 | some (Sl.own (.dict ((.tuple ks,v)::r)))=>ρ.set i (.own (.dict ((.none,.none)::(.tuple ks,v)::r)))
 | _=>ρ
theorem Qu {X:Cx}{pins:List (ah×Obj)}{σ:St}{H:Hp}{s:af}{a:ah}{kvs:List (List cO×V)} (I:bF X pins σ H s) (h:H a=some (.dT kvs)):∃ o,bF X pins σ (upd H a (.frz o (.dT kvs))) s:=by
 obtain ⟨z,y,xs,pr,o,es,ep,e1,e2,e3,e4,e5⟩:=(show cY X.prog X.w H s.heap a (.dT kvs) from I.hok a _ h)
 have new:cY X.prog X.w (upd H a (.frz o (.dT kvs))) s.heap a (.frz o (.dT kvs)) :=
  ⟨e1,z,y,xs,Paired.mapP pr fun p q w=>⟨w.1,by rw [aT (Ly w.2.1 h (fun z=>nomatch z))];exact w.2.1,w.2.2⟩,o,es,ep,e1,e2,e3,e4,e5⟩
 have:=I.write (x:=a) (e:=a) (h':=s.heap) (t':=s.toks) (by rw [h];trivial) (.inl rfl) (fun b u _ q=>q) ⟨o,e1⟩ new
 exact ⟨o,this⟩
theorem VA {X:Cx}{st:cr}{t:TS} (h:PS X st t):PS X st (fun D σ H=>t D σ H\/∃ a kvs,H a=some (.dT kvs)/\∀ o,t D σ (upd H a (.frz o (.dT kvs)))):=fun pins s σ H D I q=>by
 rcases q with q | ⟨a,kvs,ha,q⟩
 ·exact h pins s σ H D I q
 ·obtain ⟨o,I'⟩:=Qu I ha
  exact h pins s σ _ D I' (q o)
theorem Tz {c:C} (i:Nat) {st:cr}{gs:av->R Fl} (h:JS c st gs):JS c st (fun ρ=>gs (kx i ρ)):=.of fun ρ=>yf (VA (h (kx i ρ))) fun D' σ H hh=>by
 obtain ⟨H0,Hs0,la,Hs,f,q⟩:=hh
 by_cases hx:∃ ks v r,ρ[i]?=some (Sl.own (.dict ((.tuple ks,v)::r)))
 ·obtain ⟨ks,v,r,ho⟩:=hx
  have e:kx i ρ=ρ.set i (.own (.dict ((.none,.none)::(.tuple ks,v)::r))):=by unfold kx;rw [ho]
  obtain ⟨a,o,k1,k2,k3,k4,k5⟩:=f.ow i _ ho
  generalize hd:FE ((.tuple ks,v)::r)=d0 at k5
  cases k5 with
  | lst r=>cases hd
  | dK rk =>
   cases hd
   generalize hd:((.tuple ks,v)::r:List (D×D))=d1 at rk
   cases rk with
   | nil=>cases hd
   | @cons k _ _ _ _ _ _=>cases k<;>cases hd
  | dF n r=>cases hd
  | dT n r =>
   cases hd
   exact .inr ⟨a,_,k2,fun o=>⟨H0,Hs0,la,Hs,by rw [e];exact f.write i ho k1 (.dF n r),q⟩⟩
 ·have e:kx i ρ=ρ:=by
   unfold kx
   split
   ·rename_i ks v r ho;exact (hx ⟨ks,v,r,ho⟩).elim
   ·rfl
  refine .inl ⟨H0,Hs0,la,Hs,by rw [e];exact f,q⟩
def Cu:D->R (List D)
 | .dict ((.none,.none)::ds)=>.ok (ds.map (·.1))
 | _=>.no
def Kr (g:av->R D):av->R (List D):=fun ρ=>(g ρ).bind Cu
theorem RDt.get {K:a8}{H:Hp}{kvs:List (List cO×V)}:∀ {ds:List (D×D)}{i:Nat}{k:List cO}{v:V},RDt K H kvs ds->kvs[i]?=some (k,v)->∃ d,ds[i]?=some (tD k,d):=by
 induction kvs with
 | nil=>intro ds i k v h e;simp at e
 | cons x r ih =>
  intro ds i k v h e
  cases h with
  | cons h t =>
   cases i with
   | zero=>cases e;exact ⟨_,rfl⟩
   | succ i=>have q:=ih (i:=i) t e;exact q
theorem NN {K:a8}{H:Hp}:∀ ks:List cO,RDs K H (ks.map kV) (ks.map kD)
 | []=>.nil
 | k::r=>.cons (by cases k<;>constructor) (NN r)
theorem Qv {K:a8}{Hn Hs:Hp}{a:ah}{o:Obj}{kvs:List (List cO×V)}{ds:List (D×D)} (h:Hn a=some (.frz o (.dT kvs))) (r:RDt K Hs kvs ds):MJ K (X6 a o kvs) (ds.map (·.1)) Hn Hs:=fun H2 Hs2 e1 e2 e3=>by
 have q:=e1 _ _ h
 have hl:=r.length
 refine ⟨fun i hi=>⟨q,?_⟩,fun i hi=>⟨q,?_⟩,fun i x H3 hi y=>?_⟩
 ·rw [al] at hi;omega
 ·rw [al] at hi;omega
 ·obtain ⟨rfl,k,v,b,y1,rfl,y3⟩:=y
  obtain ⟨d,y4⟩:=r.get y1
  have same:du Hs2 (upd Hs2 b (.tup (k.map kV))):=fun c u e=>by
   by_cases hc:c=b
   ·subst hc
    have:=e3 _ _ e
    rw [y3] at this
    cases this
    exact aV
   ·rw [aT hc];exact e
  refine ⟨tD k,upd Hs2 b (.tup (k.map kV)),by rw [aN,y4];rfl,⟨.refl _,same,fun c u e=>?_,fun c u e t z=>?_⟩,.tuple aV (NN k)⟩
  ·by_cases hc:c=b
   ·subst hc;rw [aV] at e;cases e;exact y3
   ·rw [aT hc] at e;exact e3 _ _ e
  ·by_cases hc:c=b
   ·subst hc;rw [y3] at e;cases e;cases t
   ·rw [aT hc];exact z
section
variable {c:C}{tg l k v e:b9}{g gk gv:av->R D}{pos:Pos}
theorem Cv (h:JB c l g):JI c tg l (Kr g):=.of fun ρ=>by
 refine Iu (Qt (h ρ)) fun σ H Q hh=>?_
 obtain ⟨H0,Hs0,la,Hs,f,q⟩:=hh
 refine one f q fun d v H1 Hs1 e1 s1 f1 r1=>?_
 unfold Kr at q
 rw [e1,bind_ok] at q
 unfold Cu at q
 split at q
 ·obtain ⟨a,ea,hh⟩:=r1.dict f1.st.sub
  rcases hh with ⟨kvs,h1,h2⟩ | ⟨kvs,h1,hn,h2⟩ | ⟨o,kvs,es,he,h1,hn,h2⟩
  ·generalize hd:((.none,.none)::_:List (D×D))=d0 at h2
   cases h2 with
   | nil=>cases hd
   | @cons k _ _ _ _ _ _=>cases k<;>cases hd
  ·generalize hd:((.none,.none)::_:List (D×D))=d0 at h2
   cases h2<;>cases hd
  ·cases he
   exact ⟨a,o,kvs,ea,h1,q _ H1 Hs1 H1 s1 (.refl _) (Qv h1 h2)⟩
 ·exact q.elim
def S8 (gk gv:av->R D):av->R D:=fun ρ=>(gk ρ).bind fun k=>(gv ρ).bind fun v=>match pT k with
 | some _=>.ok (.dict [(k,v)])
 | none=>.no
theorem Es (hu:c.X.A.units + 1<k7) (hk:JE c k gk) (hv:JE c v gv):JN c (.Dict [some k] [v] pos) (S8 gk gv):=.of fun ρ=>by
 refine qg (NL hu (hk ρ) (hv ρ)) fun σ H Q hh=>?_
 obtain ⟨H0,Hs0,la,Hs,f,q⟩:=hh
 intro p hp
 have sm:cQ H Hs (upd H p (.dT [])) Hs:=.mine f.st.sub hp
 have np:Hs p=none:=f.st.sub.free hp
 unfold S8 at q
 refine yg (f.step sm) (q.on sm (q':=fun _=>True) fun _ _=>trivial) fun y w H1 Hs1 e1 s1 f1 r1=>?_
 rw [e1,bind_ok] at q
 refine yg f1 (q.on (sm.trans s1) (q':=fun _=>True) fun _ _=>trivial) fun z u H2 Hs2 e2 s2 f2 r2=>?_
 rw [e2,bind_ok] at q
 split at q
 ·rename_i ky hy
  obtain rfl:=uQ hy
  obtain ⟨b,rfl,hb⟩:=xv f1.st.sub (.inl r1)
  have s12:=s1.trans s2
  have hp2:H2 p=some (.dT []):=s12.all _ _ aV
  have hn2:Hs2 p=none:=s12.out _ _ aV rfl np
  let H3:Hp:=fun x=>if x=p then none else H2 x
  have h3:∀ x,x≠p->H3 x=H2 x:=fun x hx=>if_neg hx
  have st:cQ H Hs H3 Hs2:=by
   refine ⟨fun x o e=>?_,s12.sh,fun x o e=>?_,fun x o e t n=>?_⟩
   ·have hx:=bi e hp
    rw [h3 x hx]
    exact s12.all _ _ (by rw [aT hx];exact e)
   ·have hx:x≠p:=fun z=>by rw [z,hn2] at e;cases e
    rw [h3 x hx]
    exact f2.st.sub _ _ e
   ·have hx:=bi e hp
    exact s12.out _ _ (by rw [aT hx];exact e) t n
  have:=q p (.dT [(ky,u)]) H3 Hs2 st (if_pos rfl) (.dT (by simp) (.cons r2 .nil))
  have e3:upd H3 p (.dT [(ky,u)])=upd H2 p (.dT (kq [] ky u)):=by
   funext x
   by_cases hx:x=p
   ·subst hx;rw [aV,aV];rfl
   ·rw [aT hx,aT hx,h3 x hx]
  rw [e3] at this
  exact ⟨[],ky,b,hp2,rfl,s2.all _ _ hb,by rw [De];decide,this⟩
 ·exact q.elim
def Ag (g:av->R D):av->R Bool:=fun ρ=>(g ρ).bind fun d=>match d with
 | .list ds=>.ok (!ds.isEmpty)
 | _=>.no
theorem NO (h:JB c e g) (he:∀ whole,vm e c.X.env whole=(do let v <- whole;wj e.pos;Fv [v] (truthy v)):=by intro _;rfl):JT c e (Ag g):=.of fun ρ=>UT (LU (h ρ) he) fun σ H Q hh=>by
 obtain ⟨H0,Hs0,la,Hs,f,q⟩:=hh
 refine one f q fun d v H1 Hs1 e1 s1 f1 r1=>?_
 unfold Ag at q
 rw [e1,bind_ok] at q
 split at q
 ·obtain ⟨a,vs,rfl,qa,ra⟩:=r1.list f1.st.sub
  refine ⟨_,.inl ⟨vs,qa,rfl⟩,?_⟩
  cases ra with
  | nil=>exact q H1 Hs1 s1
  | cons _ _=>exact q H1 Hs1 s1
 ·exact q.elim
end
end J
namespace L2
open PySem PySem.Spec PyProof.Rows
theorem Et {ns:List Int}:∀ {its:List a9},dn (ns.map V.int) its->∀ {i:Nat}{v:a9},its[i]?=some v->∃ n t,ns[i]?=some n/\v=.int n t:=by
 induction ns with
 | nil=>intro its r i v e;cases r;simp at e
 | cons x r ih =>
  intro its rr i v e
  cases rr with
  | cons a b =>
   cases i with
   | zero=>cases e;obtain ⟨t,rfl⟩:=a;exact ⟨x,t,rfl,rfl⟩
   | succ i=>have q:=ih b (i:=i) e;exact q
theorem Ah {X:Cx} (hc:X.calm=true):j5 X (.builtin "min") (fun xs H Q=>∃ p,∃ ns:List Int,xs=[.ref p]/\lF X.K H p (ns.map V.int)/\0<ns.length/\∀ m,m∈ns->(∀ a∈ns,m<=a)->Q (.int m) H):=by
 intro pins s σ H xs us Q I r h
 obtain ⟨p,ns,rfl,hq,hz,q⟩:=h
 obtain ⟨u,rfl,rx⟩:=ko r
 cases rx
 obtain ⟨its,r',pl,hl⟩:=I.list hq
 have ln:its.toArray.size=ns.length:=by have:=r'.length;simp at this ⊢;omega
 obtain ⟨o,ho,hk⟩:=pl.isList
 refine call_min_walk (iM pl.isList ⟨_,_,_,_,_,_,fun i j=>decide (ns.getD i 0<ns.getD j 0),rfl,ui (by simpa using I.ok.hd hc) _ p (aB (ao ho)) its.toArray,⟨⟨_,ay _ rfl,rfl,rfl⟩,pl.isList.push _⟩,?_,?_,?_,fun v h' tk hv kp=>?_⟩)
 ·intro b hb
  simp only [bf,aU,or_false] at hb
  have hp:=ao ho
  have hs:(s.heap.push { cls:=.type "list_iterator",data:=.fields #[bK p,m9 0 0] }).objs.size=s.heap.objs.size + 1:=Array.size_push ..
  rcases hb with rfl | rfl
  ·exact Lw (dU _) hs.symm
  ·exact Lw (fc hp) hs.symm
 ·omega
 ·refine CmpOf.ints_lt (fun i=>ns.getD i 0) fun i v hi=>?_
  obtain ⟨n,t,e1,rfl⟩:=Et r' (i:=i) (by simpa using hi)
  exact ⟨t,by simp [de,e1]⟩
 ·rw [ln] at hv
  obtain ⟨b1,b2⟩:=argBest_lt (fun i=>ns.getD i 0) (ns.length - 1)
  obtain ⟨n,t,e1,rfl⟩:=Et r' (by simpa using hv)
  refine ⟨.int n,H,I.kept (t':=tk) fun b o e=>kp b o ?_ (ag _ e),⟨t,rfl⟩,q n (cM e1) fun a ha=>?_⟩
  ·simp only [dQ]
   exact aB (ao e)
  ·obtain ⟨j,hj,e⟩:=fm ha
   have:=b2 j (by omega)
   simpa [de,e1,hj,e] using this
end L2
namespace J
open PySem L2
def tw:List D->Option (List Int)
 | []=>some []
 | .int b::r=>(tw r).map (b::·)
 | _::_=>none
theorem Eu {ds:List D}:∀ {bs:List Int},tw ds=some bs->ds=bs.map ck:=by
 induction ds with
 | nil=>intro bs h;cases h;rfl
 | cons d r ih =>
  intro bs h
  cases d with
  | int b =>
   have h:(tw r).map (b::·)=some bs:=h
   cases hr:tw r with
   | none=>rw [hr] at h;cases h
   | some z=>rw [hr] at h;cases h;rw [ih hr];rfl
  | _=>cases h
theorem yM:∀ bs:List Int,tw (bs.map ck)=some bs
 | []=>rfl
 | b::r=>by show (tw (r.map ck)).map (b::·)=_;rw [yM r];rfl
def Qw:List Int->Int
 | []=>0
 | x::r=>r.foldl min x
theorem Ev:∀ (r:List Int) (x:Int),(r.foldl min x∈x::r)/\∀ a∈x::r,r.foldl min x<=a
 | [],x=>⟨by simp,fun a ha=>by simp at ha;subst ha;exact Int.le_refl _⟩
 | y::r,x=>by
  obtain ⟨h1,h2⟩:=Ev r (min x y)
  rw [dM]
  refine ⟨?_,fun a ha=>?_⟩
  ·rcases List.mem_cons.mp h1 with h | h
   ·rw [h]
    by_cases hxy:x<=y
    ·rw [Int.min_eq_left hxy];simp
    ·rw [Int.min_eq_right (by omega)];simp
   ·exact am _ (am _ h)
  ·have h0:=h2 (min x y) ap
   rcases List.mem_cons.mp ha with h | h
   ·subst h
    exact Int.le_trans h0 (Int.min_le_left _ _)
   ·rcases List.mem_cons.mp h with h | h
    ·subst h
     exact Int.le_trans h0 (Int.min_le_right _ _)
    ·exact h2 a (am _ h)
theorem TC {ns:List Int}{m:Int} (h1:m∈ns) (h2:∀ a∈ns,m<=a):m=Qw ns:=by
 cases ns with
 | nil=>cases h1
 | cons x r =>
  obtain ⟨k1,k2⟩:=Ev r x
  exact Int.le_antisymm (h2 _ k1) (k2 _ h1)
def GN:D->R D
 | .list ds=>match tw ds with
  | some ns=>if 0<ns.length then .ok (.int (Qw ns)) else .no
  | none=>.no
 | _=>.no
theorem TD {X:Cx} (hc:X.calm=true):Lg X (.builtin "min") (i6 GN):=by
 refine tj (fun d c n=>?_) fun pins s σ H x u Q Hs d d' I ru sub rx hd q=>?_
 ·unfold GN
  split<;>(try split)<;>(try split)<;>exact fun h=>by cases h
 ·unfold GN at hd
  split at hd
  ·split at hd
   ·split at hd
    ·rename_i ns hs hz
     cases hd
     obtain ⟨a,vs,rfl,qa,ra⟩:=rx.list sub
     rw [Eu hs] at ra
     rw [C6 ra] at qa
     exact Ah hc pins s σ H _ _ Q I (.cons ru .nil) ⟨a,ns,rfl,qa,hz,fun m h1 h2=>by rw [TC h1 h2];exact q _ H Hs (.refl sub) (.int _)⟩
    ·cases hd
   ·cases hd
  ·cases hd
end J
namespace J
open PySem L2
def TF (i:Nat) (g:av->R Fl):av->R Fl:=fun ρ=>g (kx i ρ)
theorem NP {c:C} (i:Nat) {st:cr}{gs:av->R Fl} (h:JS c st gs):JS c st (TF i gs):=Tz i h
end J
namespace J
open PySem L2
end J
end
section
namespace Z
open PySem L2 J
def Qx (y:Str):Option Nat:=if y="NoState" then some 1 else if y="NoWant" then some 2 else if y="NoBook" then some 0 else if y="NoWay" then some 5 else none
def jC:av->R Fl:=(cG (yj (c7 (ae (dS 1 [1] (jq (fun ρ=>bh ρ 0)) (fun _=>.ok true) (g2 (fun ρ=>bh ρ 0) (fun ρ=>bh ρ 1) (Aa false))) aE) (i6 (fI fun bs=>bs.any id)))))
def eJ:List D->R D:=eI 2 jC
def rq:av->R Fl:=(cG (c7 (ae (dS 1 [1] (jq (fun ρ=>bh ρ 0)) (eZ (g2 (fun ρ=>bh ρ 0) (fun ρ=>bh ρ 1) (Aa true))) (fun ρ=>bj ρ 0)) aE) (i6 g9)))
def rz:List D->R D:=eI 2 rq
def uR:av->R Fl:=(cG (c7 (ae (kw (NH (oJ (fun ρ=>bh ρ 0)) (oJ (fun ρ=>bh ρ 1)))) aE) (i6 g9)))
def uS:List D->R D:=eI 2 uR
def rA:av->R Fl:=(aR (eM (Ik (kr (eZ (wV (fun ρ=>bh ρ 0) "str"))) (kr (eZ (qx (fun _=>.ok (.int 1)) (c7 (ae (fun ρ=>bh ρ 0) aE) (i6 jS)) (fun _=>.ok (.int 6)) Rw Rw)))) (cG (fun _=>.ok (.bool false))) (fun ρ=>.ok (.nx ρ))) (cG (c7 (ae (dS 1 [] (jq (fun ρ=>bh ρ 0)) (fun _=>.ok true) (qx (fun _=>.ok (.str "a")) (fun ρ=>bh ρ 0) (fun _=>.ok (.str "z")) Rw Rw)) aE) (i6 (fI fun bs=>bs.all id)))))
def o0:List D->R D:=eI 1 rA
def gQ:av->R Fl:=(aR (eM (Ik (kr (eZ (wV (fun ρ=>bh ρ 0) "tuple"))) (kr (eZ (c7 (ae (dS 1 [] (jq (fun ρ=>bh ρ 0)) (fun _=>.ok true) (dR 1 o0 (ae (fun ρ=>bj ρ 0) aE))) aE) (i6 (fI fun bs=>bs.all id)))))) (cG (fun _=>.ok (.bool false))) (fun ρ=>.ok (.nx ρ))) (cG (c7 (ae (dS 2 [] (Q8 (ae (fun ρ=>bj ρ 0) (ae (Rz (fun ρ=>bh ρ 0) (Q3 (fun _=>.ok (.int 1))) Ue) aE))) (fun _=>.ok true) (g2 (fun ρ=>bh ρ 0) (fun ρ=>bh ρ 1) A9)) aE) (i6 (fI fun bs=>bs.all id)))))
def fJ:List D->R D:=eI 1 gQ
def mJ:av->R Fl:=(cG (sI (dR 1 fJ (ae (fun ρ=>bj ρ 1) aE)) (c7 (ae (dS 1 [0] (jq (fun ρ=>bh ρ 1)) (fun _=>.ok true) (g2 (fun ρ=>bh ρ 0) (fun ρ=>bh ρ 1) (Aa false))) aE) (i6 (fI fun bs=>bs.all id)))))
def fu:List D->R D:=eI 2 mJ
def oM:av->R Fl:=(aR (eM (Ik (kr (eZ (wV (fun ρ=>bh ρ 0) "int"))) (eZ (wV (fun ρ=>bh ρ 0) "bool"))) (cG (fun _=>.ok (.bool false))) (fun ρ=>.ok (.nx ρ))) (cG (qx (fun ρ=>bh ρ 1) (fun ρ=>bh ρ 0) (fun ρ=>bh ρ 2) Rw Rw)))
def oN:List D->R D:=eI 3 oM
def mK:av->R Fl:=(aR (eM (Ik (kr (eZ (wV (fun ρ=>bh ρ 1) "tuple"))) (eZ (g2 (c7 (ae (fun ρ=>bh ρ 1) aE) (i6 jS)) (fun _=>.ok (.int 6)) (lI true)))) (cG (fun _=>.ok (.bool false))) (fun ρ=>.ok (.nx ρ))) (aR (yp (fun ρ=>bj ρ 1) (ku 6 (cn (bO 2) (cn (bO 3) (cn (bO 4) (cn (bO 5) (cn (bO 6) (cn (bO 7) kW)))))))) (aR (eM (Ik (kr (eZ (dR 1 o0 (ae (fun ρ=>bj ρ 2) aE)))) (kr (eZ (dR 3 oN (ae (fun ρ=>bj ρ 7) (ae (fun _=>.ok (.int 0)) (ae (fun _=>.ok (.int 9)) aE))))))) (cG (fun _=>.ok (.bool false))) (fun ρ=>.ok (.nx ρ))) (aR (eM (kr (eZ (c7 (ae (dS 1 [0] (jq (e8 (ae (fun ρ=>bj ρ 3) (ae (fun ρ=>bj ρ 4) (ae (fun ρ=>bj ρ 5) (ae (fun ρ=>bj ρ 6) aE)))) .tuple)) (fun _=>.ok true) (dR 2 fu (ae (fun ρ=>bj ρ 1) (ae (fun ρ=>bj ρ 0) aE)))) aE) (i6 (fI fun bs=>bs.all id))))) (cG (fun _=>.ok (.bool false))) (fun ρ=>.ok (.nx ρ))) (cG (sI (dR 2 eJ (ae (fun ρ=>bj ρ 3) (ae (fun ρ=>bj ρ 4) aE))) (dR 2 eJ (ae (fun ρ=>bj ρ 5) (ae (fun ρ=>bj ρ 6) aE)))))))))
def mL:List D->R D:=eI 8 mK
def rB:av->R Fl:=(aR (eM (Ik (kr (eZ (wV (fun ρ=>bh ρ 0) "tuple"))) (eZ (g2 (c7 (ae (fun ρ=>bh ρ 0) aE) (i6 jS)) (fun _=>.ok (.int 2)) (lI true)))) (cG (fun _=>.ok (.bool false))) (fun ρ=>.ok (.nx ρ))) (aR (yp (fun ρ=>bj ρ 0) (ku 2 (cn (bO 1) (cn (bO 2) kW)))) (aR (eM (Ik (kr (eZ (dR 1 fJ (ae (fun ρ=>bj ρ 1) aE)))) (eZ (g2 (c7 (ae (fun ρ=>bh ρ 1) aE) (i6 jS)) (fun _=>.ok (.int 6)) Ud))) (cG (fun _=>.ok (.bool false))) (fun ρ=>.ok (.nx ρ))) (aR (eM (Ik (kr (eZ (wV (fun ρ=>bh ρ 2) "tuple"))) (eZ (g2 (c7 (ae (fun ρ=>bh ρ 2) aE) (i6 jS)) (fun _=>.ok (.int 6)) Ud))) (cG (fun _=>.ok (.bool false))) (fun ρ=>.ok (.nx ρ))) (aR (eM (kr (eZ (c7 (ae (dS 1 [1] (jq (fun ρ=>bh ρ 2)) (fun _=>.ok true) (dR 2 mL (ae (fun ρ=>bj ρ 1) (ae (fun ρ=>bj ρ 0) aE)))) aE) (i6 (fI fun bs=>bs.all id))))) (cG (fun _=>.ok (.bool false))) (fun ρ=>.ok (.nx ρ))) (cG (g2 (uM (vN 1 [] (jq (fun ρ=>bh ρ 2)) (fun _=>.ok true) (g2 (fun ρ=>bh ρ 0) (fun _=>.ok (.int 0)) a_))) (c7 (ae (fun ρ=>bh ρ 2) aE) (i6 jS)) (lI false))))))))
def rE:List D->R D:=eI 3 rB
def rF:av->R Fl:=(aR (eM (Ik (kr (eZ (wV (fun ρ=>bh ρ 1) "tuple"))) (eZ (g2 (c7 (ae (fun ρ=>bh ρ 1) aE) (i6 jS)) (fun _=>.ok (.int 2)) (lI true)))) (cG (fun _=>.ok (.bool false))) (fun ρ=>.ok (.nx ρ))) (aR (yp (fun ρ=>bj ρ 1) (ku 2 (cn (bO 2) (cn (bO 3) kW)))) (cG (sI (dR 2 fu (ae (g2 (fun ρ=>bh ρ 0) (fun _=>.ok (.int 0)) a_) (ae (fun ρ=>bj ρ 2) aE))) (sI (dR 2 fu (ae (g2 (fun ρ=>bh ρ 0) (fun _=>.ok (.int 0)) a_) (ae (fun ρ=>bj ρ 3) aE))) (dR 2 eJ (ae (fun ρ=>bj ρ 2) (ae (fun ρ=>bj ρ 3) aE))))))))
def rG:List D->R D:=eI 4 rF
def kc:av->R Fl:=(eM (kr (eZ (dR 2 fu (ae (g2 (fun ρ=>bh ρ 0) (fun _=>.ok (.int 0)) a_) (ae (fun ρ=>bj ρ 1) aE))))) (oK "NoState" (ae (fun _=>.ok (.str "a state is a rising tuple of the book's facts, none twice")) aE)) (fun ρ=>.ok (.nx ρ)))
def kd:List D->R D:=eI 2 kc
def kY:av->R Fl:=(eM (kr (eZ (dR 2 rG (ae (fun ρ=>bj ρ 0) (ae (fun ρ=>bj ρ 1) aE))))) (oK "NoWant" (ae (fun _=>.ok (.str "a want is a tuple of two states with nothing in common")) aE)) (fun ρ=>.ok (.nx ρ)))
def kZ:List D->R D:=eI 2 kY
def rH:av->R Fl:=(aR (yp (fun ρ=>bj ρ 1) (ku 2 (cn (bO 2) (cn (bO 3) kW)))) (cG (sI (c7 (ae (dS 1 [0] (jq (fun ρ=>bh ρ 2)) (fun _=>.ok true) (g2 (fun ρ=>bh ρ 0) (fun ρ=>bh ρ 1) (Aa false))) aE) (i6 (fI fun bs=>bs.all id))) (dR 2 eJ (ae (fun ρ=>bj ρ 3) (ae (fun ρ=>bj ρ 0) aE))))))
def lz:List D->R D:=eI 4 rH
def mM:av->R Fl:=(cG (dR 2 lz (ae (fun ρ=>bj ρ 1) (ae (e8 (ae (g2 (fun ρ=>bh ρ 0) (fun _=>.ok (.int 1)) a_) (ae (g2 (fun ρ=>bh ρ 0) (fun _=>.ok (.int 2)) a_) aE)) .tuple) aE))))
def mO:List D->R D:=eI 2 mM
def jD:av->R Fl:=(aR (NI 2 3 (ae (g2 (fun ρ=>bh ρ 0) (fun _=>.ok (.int 3)) a_) (ae (g2 (fun ρ=>bh ρ 0) (fun _=>.ok (.int 4)) a_) aE))) (cG (dR 2 uS (ae (dR 2 rz (ae (fun ρ=>bj ρ 1) (ae (fun ρ=>bj ρ 3) aE))) (ae (fun ρ=>bj ρ 2) aE)))))
def jE:List D->R D:=eI 4 jD
def rJ:av->R Fl:=(aR (eM (kr (eZ (dR 1 rE (ae (fun ρ=>bj ρ 0) aE)))) (oK "NoBook" (ae (fun _=>.ok (.str "a book is a tuple of facts and errands, each as the document tells")) aE)) (fun ρ=>.ok (.nx ρ))) (cG (fun ρ=>bj ρ 0)))
def rK:List D->R D:=eI 1 rJ
def ke:av->R Fl:=(aR (sK (dR 1 rK (ae (fun ρ=>bj ρ 0) aE))) (sK (dR 2 kd (ae (fun ρ=>bj ρ 0) (ae (fun ρ=>bj ρ 1) aE)))))
def kg:List D->R D:=eI 2 ke
def mP:av->R Fl:=(aR (sK (dR 2 kg (ae (fun ρ=>bj ρ 0) (ae (fun ρ=>bj ρ 1) aE)))) (sK (dR 2 kZ (ae (fun ρ=>bj ρ 0) (ae (fun ρ=>bj ρ 2) aE)))))
def kz:List D->R D:=eI 3 mP
def k_:av->R Fl:=(cG (dS 1 [1] (jq (g2 (fun ρ=>bh ρ 0) (fun _=>.ok (.int 1)) a_)) (eZ (dR 2 mO (ae (fun ρ=>bj ρ 0) (ae (fun ρ=>bj ρ 1) aE)))) (e8 (ae (fun ρ=>bj ρ 0) (ae (dR 2 jE (ae (fun ρ=>bj ρ 0) (ae (fun ρ=>bj ρ 1) aE))) aE)) .tuple)))
def jF:List D->R D:=eI 2 k_
def l5:av->R Fl:=(aR (eO 2 (S8 (fun ρ=>bj ρ 1) (e8 aE .list))) (aR (eO 3 (e8 (ae (fun ρ=>bj ρ 1) aE) .list)) (aR (iL (Ag (fun ρ=>bh ρ 3)) (aR (eO 4 (e8 aE .list)) (aR (uK 3 (bO 5) (lK (jq (dR 2 jF (ae (fun ρ=>bj ρ 0) (ae (fun ρ=>bj ρ 5) aE)))) (ku 2 (cn (bO 6) (cn (bO 7) kW))) (eM (eZ (g2 (fun ρ=>bh ρ 7) (fun ρ=>bh ρ 2) (inT true))) (aR (sL 2 (fun ρ=>bj ρ 7) (g2 (g2 (fun ρ=>bh ρ 2) (fun ρ=>bh ρ 5) Ct) (e8 (ae (g2 (fun ρ=>bh ρ 6) (fun _=>.ok (.int 0)) a_) aE) .list) dO)) (nA 4 (fun ρ=>bj ρ 7))) (fun ρ=>.ok (.nx ρ))))) (RH 4 (eV 3 (fun ρ=>bj ρ 4))))) 100000) (TF 2 (cG (fun ρ=>bj ρ 2))))))
def jG:List D->R D:=eI 8 l5
def rL:av->R Fl:=(aR (eO 2 (dS 1 [1] (Kr (fun ρ=>bh ρ 0)) (eZ (dR 2 lz (ae (fun ρ=>bj ρ 0) (ae (fun ρ=>bj ρ 1) aE)))) (fun ρ=>bj ρ 0))) (cG (dS 1 [0,2] (jq (fun ρ=>bh ρ 2)) (eZ (g2 (c7 (ae (g2 (fun ρ=>bh ρ 1) (fun ρ=>bh ρ 0) Ct) aE) (i6 jS)) (c7 (ae (g2 (fun ρ=>bh ρ 1) (g2 (fun ρ=>bh ρ 2) (fun _=>.ok (.int 0)) a_) Ct) aE) (i6 jS)) (lI false))) (fun ρ=>bj ρ 0))))
def rM:List D->R D:=eI 3 rL
def oO:av->R Fl:=(aR (sK (dR 3 kz (ae (fun ρ=>bj ρ 0) (ae (fun ρ=>bj ρ 1) (ae (fun ρ=>bj ρ 2) aE))))) (aR (eV 3 (dR 2 jG (ae (fun ρ=>bj ρ 0) (ae (fun ρ=>bj ρ 1) aE)))) (aR (eV 4 (dR 2 rM (ae (fun ρ=>bj ρ 3) (ae (fun ρ=>bj ρ 2) aE)))) (cG (W5 (Ag (fun ρ=>bh ρ 4)) (g2 (fun ρ=>bh ρ 3) (g2 (fun ρ=>bh ρ 4) (fun _=>.ok (.int 0)) a_) Ct) (fun _=>.ok .none))))))
def lN:List D->R D:=eI 5 oO
def mQ:av->R Fl:=(cG (c7 (ae (dS 1 [2] (Kr (dR 2 jG (ae (fun ρ=>bj ρ 0) (ae (fun ρ=>bj ρ 1) aE)))) (fun _=>.ok true) (dR 2 lz (ae (fun ρ=>bj ρ 0) (ae (fun ρ=>bj ρ 1) aE)))) aE) (i6 (fI fun bs=>bs.any id))))
def kA:List D->R D:=eI 3 mQ
def ik:av->R Fl:=(aR (sK (dR 3 kz (ae (fun ρ=>bj ρ 0) (ae (fun ρ=>bj ρ 1) (ae (fun ρ=>bj ρ 2) aE))))) (eM (kr (eZ (dR 3 kA (ae (fun ρ=>bj ρ 0) (ae (fun ρ=>bj ρ 1) (ae (fun ρ=>bj ρ 2) aE)))))) (oK "NoWay" (ae (fun _=>.ok (.str "no row serves the want")) aE)) (fun ρ=>.ok (.nx ρ))))
def gC:List D->R D:=eI 3 ik
def jH:av->R Fl:=(aR (eV 4 (c7 (ae (dS 1 [3] (jq (g2 (fun ρ=>bh ρ 0) (fun _=>.ok (.int 1)) a_)) (eZ (g2 (g2 (fun ρ=>bh ρ 0) (fun _=>.ok (.int 0)) a_) (fun ρ=>bh ρ 1) (lI true))) (fun ρ=>bj ρ 0)) aE) (i6 g9))) (cG (yj (dR 3 kA (ae (e8 (ae (g2 (fun ρ=>bh ρ 0) (fun _=>.ok (.int 0)) a_) (ae (fun ρ=>bj ρ 4) aE)) .tuple) (ae (fun ρ=>bj ρ 1) (ae (fun ρ=>bj ρ 2) aE)))))))
def jI:List D->R D:=eI 5 jH
def o6:av->R Fl:=(aR (sK (dR 3 gC (ae (fun ρ=>bj ρ 0) (ae (fun ρ=>bj ρ 1) (ae (fun ρ=>bj ρ 2) aE))))) (cG (dS 1 [0,1,2] (jq (g2 (fun ρ=>bh ρ 0) (fun _=>.ok (.int 1)) a_)) (eZ (dR 4 jI (ae (fun ρ=>bj ρ 1) (ae (fun ρ=>bj ρ 2) (ae (fun ρ=>bj ρ 3) (ae (g2 (fun ρ=>bh ρ 0) (fun _=>.ok (.int 0)) a_) aE)))))) (g2 (fun ρ=>bh ρ 0) (fun _=>.ok (.int 0)) a_))))
def j7:List D->R D:=eI 3 o6
def kh:av->R Fl:=(aR (eM (eZ (g2 (fun ρ=>bh ρ 1) (c7 (ae (fun ρ=>bh ρ 0) aE) (i6 jS)) A9)) (cG (g2 (fun ρ=>bh ρ 0) (fun ρ=>bh ρ 1) a_)) (fun ρ=>.ok (.nx ρ))) (aR (eM (eZ (g2 (fun ρ=>bh ρ 0) (e8 aE .list) (lI false))) (cG (fun _=>.ok (.int 0))) (fun ρ=>.ok (.nx ρ))) (cG (g2 (g2 (g2 (fun ρ=>bh ρ 0) (g2 (fun ρ=>bh ρ 1) (c7 (ae (fun ρ=>bh ρ 0) aE) (i6 jS)) Kb) a_) (fun _=>.ok (.int 31)) uH) (fun ρ=>bh ρ 1) dO))))
def ki:List D->R D:=eI 2 kh
def mR:av->R Fl:=(aR (eV 3 (g2 (g2 (g2 (g2 (dR 2 ki (ae (fun ρ=>bj ρ 0) (ae (fun ρ=>bj ρ 1) aE))) (g2 (fun _=>.ok (.int 7919)) (fun ρ=>bh ρ 1) uH) dO) (fun _=>.ok (.int 1)) dO) (fun _=>.ok (.int 48271)) uH) (fun _=>.ok (.int 2147483647)) Kb)) (cG (g2 (g2 (g2 (g2 (g2 (fun ρ=>bh ρ 3) (fun ρ=>bh ρ 3) uH) (g2 (fun _=>.ok (.int 7)) (fun ρ=>bh ρ 3) uH) dO) (fun ρ=>bh ρ 1) dO) (fun _=>.ok (.int 2147483629)) Kb) (fun ρ=>bh ρ 2) Kb)))
def bq:List D->R D:=eI 4 mR
def oP:av->R Fl:=(aR (eV 2 (fun _=>.ok (.str ""))) (aR (lK (uI (ae (g2 (e8 (ae (fun _=>.ok (.int 1)) (ae (fun _=>.ok (.int 2)) (ae (fun _=>.ok (.int 3)) (ae (fun _=>.ok (.int 6)) (ae (fun _=>.ok (.int 1)) (ae (fun _=>.ok (.int 4)) aE)))))) .list) (dR 3 bq (ae (fun ρ=>bj ρ 0) (ae (fun ρ=>bj ρ 1) (ae (fun _=>.ok (.int 6)) aE)))) a_) aE)) (bO 3) (eV 2 (g2 (fun ρ=>bh ρ 2) (g2 (fun _=>.ok (.str "abcdefghijklmnopqrstuvwxyz")) (dR 3 bq (ae (fun ρ=>bj ρ 0) (ae (g2 (g2 (fun ρ=>bh ρ 1) (fun _=>.ok (.int 1)) dO) (fun ρ=>bh ρ 3) dO) (ae (fun _=>.ok (.int 26)) aE)))) a_) dO))) (cG (fun ρ=>bj ρ 2))))
def jU:List D->R D:=eI 4 oP
def mS:av->R Fl:=(aR (eO 3 (fun _=>.ok (.dict []))) (aR (lK (uI (ae (dR 3 bq (ae (fun ρ=>bj ρ 0) (ae (fun ρ=>bj ρ 1) (ae (g2 (fun ρ=>bh ρ 2) (fun _=>.ok (.int 1)) dO) aE)))) aE)) (bO 4) (Cg 3 (dR 2 jU (ae (fun ρ=>bj ρ 0) (ae (g2 (g2 (fun ρ=>bh ρ 1) (fun _=>.ok (.int 1)) dO) (g2 (fun _=>.ok (.int 8)) (fun ρ=>bh ρ 4) uH) dO) aE))) (fun _=>.ok (.bool true)))) (cG (c7 (ae (c7 (ae (c7 (ae (fun ρ=>bh ρ 3) aE) (i6 ka)) aE) (i6 rn)) aE) (i6 g9)))))
def mT:List D->R D:=eI 5 mS
def oQ:av->R Fl:=(cG (c7 (ae (dS 2 [0,1,3] (GF (ae (fun ρ=>bj ρ 2) aE)) (eZ (g2 (dR 3 bq (ae (fun ρ=>bj ρ 2) (ae (g2 (fun ρ=>bh ρ 3) (fun ρ=>bh ρ 0) dO) (ae (fun _=>.ok (.int 12)) aE)))) (fun ρ=>bh ρ 4) A9)) (fun ρ=>bj ρ 1)) aE) (i6 g9)))
def oR:List D->R D:=eI 4 oQ
def oS:av->R Fl:=(aR (eV 4 (g2 (fun ρ=>bh ρ 2) (dR 3 bq (ae (fun ρ=>bj ρ 0) (ae (g2 (fun ρ=>bh ρ 1) (fun _=>.ok (.int 10)) dO) (ae (c7 (ae (fun ρ=>bh ρ 2) aE) (i6 jS)) aE)))) a_)) (aR (eV 5 (g2 (fun ρ=>bh ρ 2) (dR 3 bq (ae (fun ρ=>bj ρ 0) (ae (g2 (fun ρ=>bh ρ 1) (fun _=>.ok (.int 11)) dO) (ae (c7 (ae (fun ρ=>bh ρ 2) aE) (i6 jS)) aE)))) a_)) (aR (eV 6 (g2 (fun ρ=>bh ρ 2) (dR 3 bq (ae (fun ρ=>bj ρ 0) (ae (g2 (fun ρ=>bh ρ 1) (fun _=>.ok (.int 12)) dO) (ae (c7 (ae (fun ρ=>bh ρ 2) aE) (i6 jS)) aE)))) a_)) (aR (eV 7 (Rz (e8 (ae (fun ρ=>bj ρ 4) (ae (fun ρ=>bj ρ 5) aE)) .list) Ue (Q3 (g2 (fun _=>.ok (.int 1)) (g2 (dR 3 bq (ae (fun ρ=>bj ρ 0) (ae (g2 (fun ρ=>bh ρ 1) (fun _=>.ok (.int 13)) dO) (ae (fun _=>.ok (.int 3)) aE)))) (fun _=>.ok (.int 2)) ME) dO)))) (aR (eO 8 (dS 1 [7,0,1] (jq (e8 (ae (fun ρ=>bj ρ 6) aE) .list)) (yh (eZ (g2 (fun ρ=>bh ρ 0) (fun ρ=>bh ρ 1) (Aa true))) (eZ (g2 (dR 3 bq (ae (fun ρ=>bj ρ 2) (ae (g2 (fun ρ=>bh ρ 3) (fun _=>.ok (.int 14)) dO) (ae (fun _=>.ok (.int 4)) aE)))) (fun _=>.ok (.int 0)) (lI false)))) (fun ρ=>bj ρ 0))) (aR (eO 9 (dS 1 [6,0,1] (jq (e8 (ae (fun ρ=>bj ρ 4) aE) .list)) (yh (eZ (g2 (fun ρ=>bh ρ 0) (fun ρ=>bh ρ 1) (lI true))) (eZ (g2 (dR 3 bq (ae (fun ρ=>bj ρ 2) (ae (g2 (fun ρ=>bh ρ 3) (fun _=>.ok (.int 15)) dO) (ae (fun _=>.ok (.int 3)) aE)))) (fun _=>.ok (.int 0)) (lI false)))) (fun ρ=>bj ρ 0))) (aR (RH 8 (RH 9 (eO 10 (dS 1 [] (jq (e8 (ae (fun ρ=>bj ρ 7) (ae (fun ρ=>bj ρ 8) (ae (e8 (ae (fun ρ=>bj ρ 6) aE) .list) (ae (fun ρ=>bj ρ 9) aE)))) .tuple)) (fun _=>.ok true) (c7 (ae (kw (oJ (fun ρ=>bh ρ 0))) aE) (i6 g9)))))) (cG (e8 (ae (fun ρ=>bj ρ 3) (ae (g2 (fun ρ=>bh ρ 10) (fun _=>.ok (.int 0)) a_) (ae (g2 (fun ρ=>bh ρ 10) (fun _=>.ok (.int 1)) a_) (ae (g2 (fun ρ=>bh ρ 10) (fun _=>.ok (.int 2)) a_) (ae (g2 (fun ρ=>bh ρ 10) (fun _=>.ok (.int 3)) a_) (ae (dR 3 bq (ae (fun ρ=>bj ρ 0) (ae (fun ρ=>bj ρ 1) (ae (fun _=>.ok (.int 5)) aE)))) aE)))))) .tuple)))))))))
def oT:List D->R D:=eI 11 oS
def iz:av->R Fl:=(aR (eM (yh (eZ (g2 (fun ρ=>bh ρ 2) (e8 aE .tuple) (lI true))) (eZ (g2 (dR 3 bq (ae (fun ρ=>bj ρ 0) (ae (fun _=>.ok (.int 97)) (ae (fun _=>.ok (.int 2)) aE)))) (fun _=>.ok (.int 0)) (lI false)))) (cG (dR 4 oT (ae (fun ρ=>bj ρ 0) (ae (fun ρ=>bj ρ 1) (ae (fun ρ=>bj ρ 2) (ae (fun ρ=>bj ρ 3) aE)))))) (fun ρ=>.ok (.nx ρ))) (aR (Qe 4) (aR (lK (GF (ae (fun ρ=>bj ρ 2) aE)) (ku 2 (cn (bO 5) (cn (bO 6) kW))) (aR (eV 7 (dR 3 bq (ae (fun ρ=>bj ρ 0) (ae (g2 (g2 (fun ρ=>bh ρ 1) (fun _=>.ok (.int 10)) dO) (fun ρ=>bh ρ 5) dO) (ae (fun _=>.ok (.int 8)) aE))))) (aR (eM (eZ (g2 (fun ρ=>bh ρ 7) (fun _=>.ok (.int 3)) A9)) (n_ 4 (g2 (e8 (ae (fun _=>.ok (.int 0)) (ae (fun _=>.ok (.int 0)) (ae (fun _=>.ok (.int 1)) aE))) .list) (fun ρ=>bh ρ 7) a_) (fun ρ=>bj ρ 6)) (fun ρ=>.ok (.nx ρ))) (aR (eV 7 (dR 3 bq (ae (fun ρ=>bj ρ 0) (ae (g2 (g2 (fun ρ=>bh ρ 1) (fun _=>.ok (.int 20)) dO) (fun ρ=>bh ρ 5) dO) (ae (fun _=>.ok (.int 8)) aE))))) (eM (eZ (g2 (fun ρ=>bh ρ 7) (fun _=>.ok (.int 4)) A9)) (n_ 4 (g2 (e8 (ae (fun _=>.ok (.int 2)) (ae (fun _=>.ok (.int 2)) (ae (fun _=>.ok (.int 3)) (ae (fun _=>.ok (.int 3)) aE)))) .list) (fun ρ=>bh ρ 7) a_) (fun ρ=>bj ρ 6)) (fun ρ=>.ok (.nx ρ))))))) (aR (fun ρ=>(eO 8 (dS 1 [] (jq (fun ρ=>bh ρ 4)) (fun _=>.ok true) (c7 (ae (fun ρ=>bh ρ 0) aE) (i6 g9)))) (dB ρ)) (cG (e8 (ae (fun ρ=>bj ρ 3) (ae (g2 (fun ρ=>bh ρ 8) (fun _=>.ok (.int 0)) a_) (ae (g2 (fun ρ=>bh ρ 8) (fun _=>.ok (.int 1)) a_) (ae (g2 (fun ρ=>bh ρ 8) (fun _=>.ok (.int 2)) a_) (ae (g2 (fun ρ=>bh ρ 8) (fun _=>.ok (.int 3)) a_) (ae (dR 3 bq (ae (fun ρ=>bj ρ 0) (ae (fun ρ=>bj ρ 1) (ae (fun _=>.ok (.int 5)) aE)))) aE)))))) .tuple))))))
def iA:List D->R D:=eI 9 iz
def lO:av->R Fl:=(aR (eV 4 (dR 3 mT (ae (fun ρ=>bj ρ 0) (ae (fun ρ=>bj ρ 1) (ae (fun ρ=>bj ρ 2) aE))))) (aR (eO 5 (fun _=>.ok (.dict []))) (aR (lK (uI (ae (dR 3 bq (ae (fun ρ=>bj ρ 0) (ae (g2 (fun ρ=>bh ρ 1) (fun _=>.ok (.int 60)) dO) (ae (g2 (fun ρ=>bh ρ 3) (fun _=>.ok (.int 1)) dO) aE)))) aE)) (bO 6) (aR (eV 7 (dR 2 jU (ae (fun ρ=>bj ρ 0) (ae (g2 (g2 (fun ρ=>bh ρ 1) (fun _=>.ok (.int 70)) dO) (g2 (fun _=>.ok (.int 40)) (fun ρ=>bh ρ 6) uH) dO) aE)))) (Cg 5 (fun ρ=>bj ρ 7) (dR 4 iA (ae (fun ρ=>bj ρ 0) (ae (g2 (g2 (fun ρ=>bh ρ 1) (fun _=>.ok (.int 80)) dO) (g2 (fun _=>.ok (.int 40)) (fun ρ=>bh ρ 6) uH) dO) (ae (fun ρ=>bj ρ 4) (ae (fun ρ=>bj ρ 7) aE)))))))) (aR (eV 8 (c7 (ae (fun ρ=>bh ρ 5) aE) (i6 ka))) (aR (eV 9 (dR 3 bq (ae (fun ρ=>bj ρ 0) (ae (g2 (fun ρ=>bh ρ 1) (fun _=>.ok (.int 61)) dO) (ae (g2 (c7 (ae (fun ρ=>bh ρ 8) aE) (i6 jS)) (fun _=>.ok (.int 1)) dO) aE))))) (cG (e8 (ae (fun ρ=>bj ρ 4) (ae (c7 (ae (dS 1 [5] (jq (g2 (Rz (fun ρ=>bh ρ 8) (Q3 (fun ρ=>bj ρ 9)) Ue) (Rz (fun ρ=>bh ρ 8) Ue (Q3 (fun ρ=>bj ρ 9))) dO)) (fun _=>.ok true) (g2 (fun ρ=>bh ρ 1) (fun ρ=>bh ρ 0) a_)) aE) (i6 g9)) aE)) .tuple)))))))
def lP:List D->R D:=eI 10 lO
def lQ:av->R Fl:=(aR (eO 3 (e8 aE .list)) (aR (eO 4 (e8 aE .list)) (aR (lK (GF (ae (fun ρ=>bj ρ 2) aE)) (ku 2 (cn (bO 5) (cn (bO 6) kW))) (aR (eV 7 (dR 3 bq (ae (fun ρ=>bj ρ 0) (ae (g2 (fun ρ=>bh ρ 1) (fun ρ=>bh ρ 5) dO) (ae (fun _=>.ok (.int 8)) aE))))) (eM (eZ (g2 (fun ρ=>bh ρ 7) (fun _=>.ok (.int 2)) A9)) (nA 3 (fun ρ=>bj ρ 6)) (eM (eZ (g2 (fun ρ=>bh ρ 7) (fun _=>.ok (.int 2)) (lI false))) (nA 4 (fun ρ=>bj ρ 6)) (fun ρ=>.ok (.nx ρ)))))) (cG (e8 (ae (c7 (ae (fun ρ=>bh ρ 3) aE) (i6 g9)) (ae (c7 (ae (fun ρ=>bh ρ 4) aE) (i6 g9)) aE)) .tuple)))))
def tE:List D->R D:=eI 8 lQ
def oU:av->R Fl:=(aR (eV 3 (dR 4 lP (ae (fun ρ=>bj ρ 0) (ae (fun _=>.ok (.int 100)) (ae (fun ρ=>bj ρ 1) (ae (fun ρ=>bj ρ 2) aE)))))) (aR (eV 4 (dR 4 oR (ae (fun ρ=>bj ρ 0) (ae (fun _=>.ok (.int 20)) (ae (g2 (fun ρ=>bh ρ 3) (fun _=>.ok (.int 0)) a_) (ae (g2 (e8 (ae (fun _=>.ok (.int 2)) (ae (fun _=>.ok (.int 4)) aE)) .list) (dR 3 bq (ae (fun ρ=>bj ρ 0) (ae (fun _=>.ok (.int 97)) (ae (fun _=>.ok (.int 2)) aE)))) a_) aE)))))) (cG (e8 (ae (fun ρ=>bj ρ 3) (ae (fun ρ=>bj ρ 4) (ae (dR 3 tE (ae (fun ρ=>bj ρ 0) (ae (fun _=>.ok (.int 30)) (ae (g2 (fun ρ=>bh ρ 3) (fun _=>.ok (.int 0)) a_) aE)))) aE))) .tuple))))
def lR:List D->R D:=eI 5 oU
def oV:av->R Fl:=(cG (sI (c7 (ae (dS 1 [0] (jq (g2 (fun ρ=>bh ρ 1) (fun _=>.ok (.int 0)) a_)) (fun _=>.ok true) (g2 (fun ρ=>bh ρ 0) (fun ρ=>bh ρ 1) (Aa false))) aE) (i6 (fI fun bs=>bs.all id))) (yj (c7 (ae (dS 1 [0] (jq (g2 (fun ρ=>bh ρ 1) (fun _=>.ok (.int 1)) a_)) (fun _=>.ok true) (g2 (fun ρ=>bh ρ 0) (fun ρ=>bh ρ 1) (Aa false))) aE) (i6 (fI fun bs=>bs.any id))))))
def il:List D->R D:=eI 2 oV
def oW:av->R Fl:=(aR (eM (kr (eZ (dR 2 il (ae (fun ρ=>bj ρ 1) (ae (Rz (fun ρ=>bh ρ 0) (Q3 (fun _=>.ok (.int 1))) (Q3 (fun _=>.ok (.int 3)))) aE))))) (cG (fun _=>.ok .none)) (fun ρ=>.ok (.nx ρ))) (aR (eO 2 (dS 1 [0] (jq (fun ρ=>bh ρ 1)) (eZ (g2 (fun ρ=>bh ρ 0) (g2 (fun ρ=>bh ρ 1) (fun _=>.ok (.int 4)) a_) (Aa true))) (fun ρ=>bj ρ 0))) (cG (c7 (ae (kw (oJ (g2 (fun ρ=>bh ρ 2) (c7 (ae (g2 (fun ρ=>bh ρ 0) (fun _=>.ok (.int 3)) a_) aE) (i6 ka)) dO))) aE) (i6 g9)))))
def dY:List D->R D:=eI 3 oW
def l7:av->R Fl:=(aR (eO 2 (S8 (fun ρ=>bj ρ 1) (fun _=>.ok (.int 0)))) (aR (eO 3 (e8 (ae (fun ρ=>bj ρ 1) aE) .list)) (aR (eV 4 (fun _=>.ok (.int 0))) (aR (iL (eZ (g2 (fun ρ=>bh ρ 4) (c7 (ae (fun ρ=>bh ρ 3) aE) (i6 jS)) A9)) (aR (lK (jq (g2 (fun ρ=>bh ρ 0) (fun _=>.ok (.int 1)) a_)) (bO 5) (aR (eV 6 (dR 2 dY (ae (fun ρ=>bj ρ 5) (ae (g2 (fun ρ=>bh ρ 3) (fun ρ=>bh ρ 4) a_) aE)))) (eM (yh (eZ (g2 (fun ρ=>bh ρ 6) (fun _=>.ok .none) (ym true))) (eZ (g2 (fun ρ=>bh ρ 6) (fun ρ=>bh ρ 2) (inT true)))) (aR (sL 2 (fun ρ=>bj ρ 6) (g2 (g2 (fun ρ=>bh ρ 2) (g2 (fun ρ=>bh ρ 3) (fun ρ=>bh ρ 4) a_) Ct) (fun _=>.ok (.int 1)) dO)) (nA 3 (fun ρ=>bj ρ 6))) (fun ρ=>.ok (.nx ρ))))) (eV 4 (g2 (fun ρ=>bh ρ 4) (fun _=>.ok (.int 1)) dO))) 100000) (TF 2 (cG (fun ρ=>bj ρ 2)))))))
def l8:List D->R D:=eI 7 l7
def rN:av->R Fl:=(aR (eV 3 (dR 2 l8 (ae (fun ρ=>bj ρ 0) (ae (fun ρ=>bj ρ 1) aE)))) (aR (eO 4 (dS 1 [2,3] (Kr (fun ρ=>bh ρ 3)) (eZ (dR 2 il (ae (fun ρ=>bj ρ 0) (ae (fun ρ=>bj ρ 1) aE)))) (g2 (fun ρ=>bh ρ 2) (fun ρ=>bh ρ 0) Ct))) (aR (eM (eZ (g2 (fun ρ=>bh ρ 4) (e8 aE .list) (lI false))) (cG (fun _=>.ok .none)) (fun ρ=>.ok (.nx ρ))) (cG (c7 (ae (fun ρ=>bh ρ 4) aE) (i6 GN))))))
def j8:List D->R D:=eI 5 rN
def oX:av->R Fl:=(aR (eO 5 (e8 aE .list)) (aR (lK (uI (ae (fun ρ=>bh ρ 4) aE)) (bO 6) (aR (eO 7 (dS 1 [3] (jq (g2 (fun ρ=>bh ρ 2) (fun _=>.ok (.int 1)) a_)) (eZ (g2 (dR 2 dY (ae (fun ρ=>bj ρ 0) (ae (fun ρ=>bj ρ 1) aE))) (fun _=>.ok .none) (ym true))) (fun ρ=>bj ρ 0))) (aR (eM (eZ (g2 (fun ρ=>bh ρ 7) (e8 aE .list) (lI false))) (cG (fun ρ=>bj ρ 5)) (fun ρ=>.ok (.nx ρ))) (aR (eV 8 (g2 (fun ρ=>bh ρ 7) (dR 3 bq (ae (fun ρ=>bj ρ 0) (ae (g2 (fun ρ=>bh ρ 1) (fun ρ=>bh ρ 6) dO) (ae (c7 (ae (fun ρ=>bh ρ 7) aE) (i6 jS)) aE)))) a_)) (aR (nA 5 (g2 (fun ρ=>bh ρ 8) (fun _=>.ok (.int 0)) a_)) (eV 3 (dR 2 dY (ae (fun ρ=>bj ρ 8) (ae (fun ρ=>bj ρ 3) aE))))))))) (cG (fun ρ=>bj ρ 5))))
def lS:List D->R D:=eI 9 oX
def l9:av->R Fl:=(aR (eO 3 (xu (dS 1 [] (jq (g2 (fun ρ=>bh ρ 0) (fun _=>.ok (.int 1)) a_)) (fun _=>.ok true) (e8 (ae (g2 (fun ρ=>bh ρ 0) (fun _=>.ok (.int 0)) a_) (ae (fun ρ=>bj ρ 0) aE)) .tuple)))) (aR (eO 4 (e8 (ae (fun ρ=>bj ρ 1) aE) .list)) (aR (lK (IU (ae (fun ρ=>bj ρ 2) aE)) (ku 2 (cn (bO 5) (cn (bO 6) kW))) (aR (eV 7 (dR 2 dY (ae (g2 (fun ρ=>bh ρ 3) (fun ρ=>bh ρ 6) a_) (ae (g2 (fun ρ=>bh ρ 4) (E9 (fun _=>.ok (.int 1))) a_) aE)))) (aR (eM (eZ (g2 (fun ρ=>bh ρ 7) (fun _=>.ok .none) (ym false))) (cG (fun ρ=>bj ρ 5)) (fun ρ=>.ok (.nx ρ))) (nA 4 (fun ρ=>bj ρ 7))))) (cG (fun ρ=>bj ρ 4)))))
def iB:List D->R D:=eI 8 l9
def oY:av->R Fl:=(aR (eV 4 (dR 3 iB (ae (fun ρ=>bj ρ 0) (ae (fun ρ=>bj ρ 1) (ae (fun ρ=>bj ρ 3) aE))))) (cG (sI (yj (wV (fun ρ=>bh ρ 4) "int")) (dR 2 il (ae (g2 (fun ρ=>bh ρ 4) (E9 (fun _=>.ok (.int 1))) a_) (ae (fun ρ=>bj ρ 2) aE))))))
def lT:List D->R D:=eI 5 oY
def IZ:av->R Fl:=(aR (yp (dR 3 lR (ae (fun ρ=>bj ρ 0) (ae (fun _=>.ok (.int 5)) (ae (fun _=>.ok (.int 6)) aE)))) (ku 3 (cn (bO 1) (cn (bO 2) (cn (bO 3) kW))))) (aR (eV 4 (dR 3 (yG Qx j7) (ae (fun ρ=>bj ρ 1) (ae (fun ρ=>bj ρ 2) (ae (fun ρ=>bj ρ 3) aE))))) (aR (eM (eZ (g2 (dR 3 j8 (ae (fun ρ=>bj ρ 1) (ae (fun ρ=>bj ρ 2) (ae (fun ρ=>bj ρ 3) aE)))) (fun _=>.ok .none) (ym false))) (cG (g2 (fun ρ=>bh ρ 4) (e8 (ae (fun _=>.ok (.str "refused")) (ae (fun _=>.ok (.int 5)) aE)) .tuple) (lI false))) (fun ρ=>.ok (.nx ρ))) (aR (eO 5 (e8 aE .list)) (aR (lK (jq (g2 (fun ρ=>bh ρ 1) (fun _=>.ok (.int 1)) a_)) (bO 6) (aR (eV 7 (e8 (ae (g2 (fun ρ=>bh ρ 1) (fun _=>.ok (.int 0)) a_) (ae (c7 (ae (dS 1 [6] (jq (g2 (fun ρ=>bh ρ 1) (fun _=>.ok (.int 1)) a_)) (eZ (g2 (fun ρ=>bh ρ 0) (fun ρ=>bh ρ 1) (lI true))) (fun ρ=>bj ρ 0)) aE) (i6 g9)) aE)) .tuple)) (eM (eZ (g2 (dR 3 j8 (ae (fun ρ=>bj ρ 7) (ae (fun ρ=>bj ρ 2) (ae (fun ρ=>bj ρ 3) aE)))) (fun _=>.ok .none) (ym false))) (nA 5 (g2 (fun ρ=>bh ρ 6) (fun _=>.ok (.int 0)) a_)) (fun ρ=>.ok (.nx ρ))))) (aR (eM (Ik (eZ (g2 (fun ρ=>bh ρ 4) (fun ρ=>bh ρ 5) (lI true))) (kr (eZ (c7 (ae (dS 1 [1,2,3] (jq (fun ρ=>bh ρ 4)) (fun _=>.ok true) (g2 (fun ρ=>bh ρ 0) (dR 3 lN (ae (fun ρ=>bj ρ 1) (ae (fun ρ=>bj ρ 2) (ae (fun ρ=>bj ρ 3) aE)))) (Aa false))) aE) (i6 (fI fun bs=>bs.all id)))))) (cG (fun _=>.ok (.bool false))) (fun ρ=>.ok (.nx ρ))) (aR (lK (uI (ae (fun _=>.ok (.int 3)) aE)) (bO 8) (aR (eV 9 (dR 5 lS (ae (fun ρ=>bj ρ 0) (ae (g2 (fun _=>.ok (.int 300)) (g2 (fun _=>.ok (.int 40)) (fun ρ=>bh ρ 8) uH) dO) (ae (fun ρ=>bj ρ 1) (ae (fun ρ=>bj ρ 2) (ae (dR 3 bq (ae (fun ρ=>bj ρ 0) (ae (fun ρ=>bj ρ 8) (ae (fun _=>.ok (.int 8)) aE)))) aE))))))) (eM (yh (eZ (dR 4 lT (ae (fun ρ=>bj ρ 1) (ae (fun ρ=>bj ρ 2) (ae (fun ρ=>bj ρ 3) (ae (fun ρ=>bj ρ 9) aE)))))) (kr (eZ (c7 (ae (dS 1 [9] (jq (fun ρ=>bh ρ 4)) (fun _=>.ok true) (g2 (fun ρ=>bh ρ 0) (fun ρ=>bh ρ 1) (Aa false))) aE) (i6 (fI fun bs=>bs.all id)))))) (cG (fun _=>.ok (.bool false))) (fun ρ=>.ok (.nx ρ))))) (cG (fun _=>.ok (.bool true))))))))))
def F_law:List D->R D:=eI 10 IZ
end Z
end
section
set_option hygiene false
namespace Z
open PySem L2 J
local macro_rules | `(tactic| walk_at "zz") => `(tactic| simp only [yE, uO, Eb, Vd, MV, MW, RI, Ve, IA, Ec, IB, Ed, Ee, Ef, MX, MY, MZ, IC, M_, ID, Vg, RK, RL, N0, RM, N1, RN, Vj, N5, RO, N6, IE, N7, IF, RS, N8, IG, N9, Na, Nb, Nf, Eg, Eh, RT, Ng, IH, Nh, Vo, RV, RW, Ni, RX, Nj, Nk, RY, RZ, Nl, Vs, Nm, No, R_, S0, Np, Tk, Nq, S1, S2, Nr, II, IJ, S5, AZ, A_, B0, Nu, Vu, Nw, Nx, Ny, Nz, NA, NB, B2, yD, Vc, dO, uH, Kb, ME, Gz, A9, Rw, Ud, Kc, jS, aG, eQ, aX, bQ, al, OV, jm, Jz, JA, vi, vj, Nat.reduceSub, Nat.reduceAdd, Pg, Ph, Nat.sub_self, if_true, if_false, ite_true, ite_false, bY, decide_true, decide_false, cond_true, cond_false, oo, jM, au, cW, Ga, Int.reduceLE, Int.reduceAdd, Int.reduceMul, Nat.reduceLT, Int.reduceNeg, reduceIte])
local macro_rules | `(tactic| walk_at "yy") => `(tactic| simp only [yE, uO, Eb, RI, Ve, IA, Ec, IB, Ed, Ee, Ef, MX, MY, MZ, IC, M_, ID, Vg, RK, RL, N0, RM, N1, RN, Vj, N5, RO, N6, IE, N7, IF, RS, N8, IG, N9, Na, Nb, Nf, Eg, Eh, RT, Ng, IH, Nh, Vo, RV, RW, Ni, RX, Nj, Nk, RY, RZ, Nl, Vs, Nm, No, R_, S0, Np, Tk, Nq, S1, S2, Nr, II, IJ, S5, AZ, A_, B0, Nu, Vu, Nw, Nx, Ny, Nz, NA, NB, B2, yD, Vc, dO, jS, aG, eQ, aX, bQ, al, OV, jm, Jz, JA, vi, vj, Nat.reduceSub, Nat.reduceAdd, Pg, Ph, Nat.sub_self, if_true, if_false, ite_true, ite_false, bY, decide_true, decide_false, cond_true, cond_false, oo, jM, au, cW, Ga, Int.reduceLE, Int.reduceAdd, Int.reduceMul, Nat.reduceLT, Int.reduceNeg, reduceIte])
theorem cE {n:Nat}{g:av->R Fl}{ds:List D}{d:D} (h:g (bB n ds)=.ok (.rt d)):eI n g ds=.ok d:=by unfold eI;rw [h]
theorem NQ {n:Nat}{g:av->R Fl}{ds:List D}{c:Str}{m:Option D} (h:g (bB n ds)=.ex c m):eI n g ds=.ex c m:=by unfold eI;rw [h]
def I_ (ns:List Int) (k:Int):Int:=if k<ns.length then ns.getD k.toNat 0 else if ns=[] then 0 else ns.getD (k % ns.length).toNat 0 * 31 + k
theorem NR (ns:List Int):c8 (ns.map .int)=true:=by
 induction ns with
 | nil=>rfl
 | cons x r ih=>simp [c8,eS,ih]
theorem Qy (ns:List Int):aZ (.list (ns.map .int)) (.list [])=decide (ns=[]):=by
 cases ns with
 | nil=>rfl
 | cons x r=>simp [aZ,dD]
theorem TH (ns:List Int):lI false (.list (ns.map .int)) (.list [])=.ok (.bool (decide (ns=[]))):=by
 unfold lI
 have h1:(fB (ns.map .int)).canLay0=true:=by simp only [eS];exact NR ns
 have h2:(fB []).canLay0=true:=rfl
 have h3:min (fB (ns.map .int)).depth (fB []).depth<=60:=bE (pW _ _) (by decide)
 rw [h1,h2,decide_eq_true h3,Qy]
 rfl
theorem TJ (ns:List Int) (k:Int) (h0:0<=k) (h1:k<ns.length):Dy (ns.map ck) k=some (.int (ns.getD k.toNat 0)):=by
 have hk:k.toNat<ns.length:=by omega
 have:=ur (xs:=ns.map ck) (j:=k.toNat) (v:=.int (ns.getD k.toNat 0)) (by rw [aN,aQ hk];simp [hk])
 rwa [fA h0] at this
theorem NS (ns:List Int) (k:Int) (h0:0<=k) (h1:k<ns.length):a_ (.list (ns.map .int)) (.int k)=.ok (.int (ns.getD k.toNat 0)):=by
 have e:∀ xs k,a_ (.list xs) k=DY (.list xs) k:=fun _ _=>rfl
 rw [e]
 unfold DY
 simp only [TJ ns k h0 h1]
theorem J4 {i j:Int} (h1:-(2 ^ 64)<j) (h2:j<2 ^ 64):AW i j=true:=by
 unfold AW
 simp only [jl,aW,decide_eq_true_eq]
 exact .inr ⟨h1,h2⟩
theorem oZ {i j:Int} (h1:-(2 ^ 64)<i) (h2:i<2 ^ 64):AW i j=true:=by
 unfold AW
 simp only [jl,aW,decide_eq_true_eq]
 exact .inl ⟨h1,h2⟩
theorem Qz (ns:List Int) (k:Int) (hk:0<=k):ki [.list (ns.map .int),.int k]=.ok (.int (I_ ns k)):=by
 unfold ki
 refine cE ?_
 unfold kh bB I_
 walk_at "zz"
 by_cases h:k<ns.length
 ·simp only [h,decide_true,cond_true,if_true,NS ns k hk h,bind_ok]
  walk_at "zz"
 ·simp only [h,decide_false,cond_false,if_false]
  walk_at "zz"
  rw [TH]
  walk_at "zz"
  by_cases h2:ns=[]
  ·simp only [h2,decide_true,cond_true,if_true]
   walk_at "zz"
  ·have hl:(0:Int)<ns.length:=by have:0<ns.length:=List.length_pos_iff.mpr h2;omega
   simp only [h2,decide_false,cond_false,if_false,hl,decide_true]
   walk_at "zz"
   simp only [h2,decide_false,cond_false,if_false,hl,decide_true,if_true]
   walk_at "zz"
   rw [NS ns _ (r6 _ (by omega)) (nj _ hl)]
   walk_at "zz"
   rw [J4 (by decide) (by decide)]
   walk_at "zz"
def yN (ns:List Int) (k:Int):Int:=(I_ ns k + 7919 * k + 1) * 48271 % 2147483647
def fi (ns:List Int) (k m:Int):Int:=(yN ns k * yN ns k + 7 * yN ns k + k) % 2147483629 % m
theorem fj (ns:List Int) (k m:Int) (h:0<m):0<=fi ns k m:=r6 _ (by omega)
theorem fV (ns:List Int) (k m:Int) (h:0<m):fi ns k m<m:=nj _ h
theorem fk (ns:List Int) (k m:Int) (hk:0<=k) (hm:0<m):bq [.list (ns.map .int),.int k,.int m]=.ok (.int (fi ns k m)):=by
 have d0:0<=yN ns k:=r6 _ (by decide)
 have d1:yN ns k<2147483647:=nj _ (by decide)
 unfold bq
 refine cE ?_
 unfold mR bB
 walk_at "zz"
 rw [Qz ns k hk]
 walk_at "zz"
 rw [oZ (by decide) (by decide)]
 walk_at "zz"
 rw [J4 (by decide) (by decide)]
 walk_at "zz"
 rw [show (I_ ns k + 7919 * k + 1) * 48271 % 2147483647=yN ns k from rfl,oZ (i:=yN ns k) (by omega) (by omega)]
 walk_at "zz"
 rw [oZ (i:=7) (by decide) (by decide)]
 walk_at "zz"
 rw [decide_eq_true hm]
 walk_at "zz"
 rfl
theorem qD {α β:Type}{kt:D->av->R av}{gb:av->R Fl} (c:α->D) (f:β->α->β) (P:List α->β->av->Prop) (h:∀ x bW b ρ,P (x::bW) b ρ->∃ ρ1 ρ',kt (c x) ρ=.ok ρ1/\gb ρ1=.ok (.nx ρ')/\P bW (f b x) ρ') :
  ∀ (xs:List α) (b:β) (ρ:av),P xs b ρ->∃ ρ',iY kt gb (xs.map c) ρ=.ok (.nx ρ')/\P [] (xs.foldl f b) ρ'
 | [],b,ρ,p=>⟨ρ,rfl,p⟩
 | x::r,b,ρ,p=>by
  obtain ⟨ρ1,ρ2,h1,h2,h3⟩:=h x r b ρ p
  obtain ⟨ρ3,h4,h5⟩:=qD c f P h r (f b x) ρ2 h3
  refine ⟨ρ3,?_,h5⟩
  rw [aG]
  unfold iY
  rw [h1]
  simp only [h2]
  exact h4
theorem xw {α β:Type}{kt:D->av->R av}{gb hh:av->R Fl}{r:R Fl} (c:α->D) (f:β->α->β) (P:List α->β->av->Prop) {xs:List α} (b:β) {ρ:av}
  (h:∀ x bW b ρ,P (x::bW) b ρ->∃ ρ1 ρ',kt (c x) ρ=.ok ρ1/\gb ρ1=.ok (.nx ρ')/\P bW (f b x) ρ') (p0:P xs b ρ) (k:∀ ρ',P [] (xs.foldl f b) ρ'->hh ρ'=r):(iY kt gb (xs.map c) ρ).bind (Kk hh)=r:=by
 obtain ⟨ρ',e,p⟩:=qD c f P h xs b ρ p0
 rw [e,bind_ok,uO]
 exact k ρ' p
theorem uT (n:Nat) (h:n<=1000):GE [.int (n:Int)]=.ok ((bw n).map fun (i:Nat)=>ck (i:Int)):=by
 have e:GE [.int (n:Int)]=.ok (qA 0 (n:Int).toNat):=Qk (by omega) (by omega)
 rw [e]
 unfold qA
 rw [jO]
 exact congrArg R.ok (ua fun a _=>congrArg ck (Int.zero_add _))
def zM (x:Str):Bool:=decide (1<=x.cps.size) && decide (x.cps.size<=6/\x.cps.size≠5) && x.cps.toList.all fun c=>decide (97<=c) && decide (c<=122)
def sM (ns:List Int) (k:Int):Nat:=[1,2,3,6,1,4].getD (fi ns k 6).toNat 0
def Cy (ns:List Int) (k:Int) (i:Nat):Nat:=97 + (fi ns (k + 1 + i) 26).toNat
def kB (ns:List Int) (k:Int):Str:=⟨((bw (sM ns k)).map (Cy ns k)).toArray⟩
theorem J5 (ns:List Int) (k:Int):1<=sM ns k/\(sM ns k<=6/\sM ns k≠5):=by
 have h0:=fj ns k 6 (by decide)
 have h1:=fV ns k 6 (by decide)
 unfold sM
 have:∀ j:_root_.Fin 6,1<=[1,2,3,6,1,4].getD j.val 0/\([1,2,3,6,1,4].getD j.val 0<=6/\[1,2,3,6,1,4].getD j.val 0≠5):=by decide
 exact this ⟨(fi ns k 6).toNat,by omega⟩
theorem QA (ns:List Int) (k:Int) (i:Nat):97<=Cy ns k i/\Cy ns k i<=122:=by
 have h0:=fj ns (k + 1 + i) 26 (by decide)
 have h1:=fV ns (k + 1 + i) 26 (by decide)
 unfold Cy
 omega
theorem Ew (ns:List Int) (k:Int):zM (kB ns k)=true:=by
 have ⟨h1,h2⟩:=J5 ns k
 unfold zM kB
 simp only [aJ,al,f9,aW,decide_eq_true_eq,cq]
 refine ⟨⟨h1,h2⟩,fun c hc=>?_⟩
 obtain ⟨i,_,rfl⟩:=List.mem_map.mp hc
 exact QA ns k i
theorem NT (j:Int) (h0:0<=j) (h1:j<26):a_ (.str "abcdefghijklmnopqrstuvwxyz") (.int j)=.ok (.str ⟨#[97 + j.toNat]⟩):=by
 have e:∀ x k,a_ (.str x) k=DY (.str x) k:=fun _ _=>rfl
 rw [e]
 unfold DY
 have hc:("abcdefghijklmnopqrstuvwxyz" : Str).cps.toList=(bw 26).map (97 + ·):=by decide +kernel
 have hl:("abcdefghijklmnopqrstuvwxyz" : Str).length<=1000:=by decide +kernel
 have hj:j.toNat<26:=by omega
 have hx:=ur (xs:=(bw 26).map (97 + ·)) (j:=j.toNat) (v:=97 + j.toNat) (by rw [aN,Jw hj];rfl)
 rw [fA h0] at hx
 simp only [hl,if_true,hc,hx]
theorem QB (j:Int) (h0:0<=j) (h1:j<6):a_ (.list [.int 1,.int 2,.int 3,.int 6,.int 1,.int 4]) (.int j)=.ok (.int (([1,2,3,6,1,4].getD j.toNat 0:Nat):Int)):=by
 obtain ⟨n,rfl⟩:=pX h0
 have hn:n<6:=by omega
 match n,hn with
 | 0,_=>rfl
 | 1,_=>rfl
 | 2,_=>rfl
 | 3,_=>rfl
 | 4,_=>rfl
 | 5,_=>rfl
theorem Cz (l:List Nat):∀ (acc:Str),l.foldl (fun (a:Str) c=>a++⟨#[c]⟩) acc=⟨(acc.cps.toList++l).toArray⟩:=by
 induction l with
 | nil=>intro acc;simp
 | cons c r ih =>
  intro acc
  rw [dM,ih]
  show (⟨((acc.cps++#[c]).toList++r).toArray⟩:Str)=_
  simp
theorem Ks:("" : Str).cps.toList=[]:=by decide +kernel
theorem J6 (ns:List Int) (k:Int) (hk:0<=k):jU [.list (ns.map .int),.int k]=.ok (.str (kB ns k)):=by
 have h0:=fj ns k 6 (by decide)
 have h1:=fV ns k 6 (by decide)
 have ⟨w1,w2⟩:=J5 ns k
 unfold jU
 refine cE ?_
 unfold oP bB
 walk_at "zz"
 rw [pS (ds:=(bw (sM ns k)).map fun (i:Nat)=>ck i)]
 ·refine xw (fun (i:Nat)=>ck i) (fun (a:Str) i=>a++⟨#[Cy ns k i]⟩) (fun bW a ρ=>a.length + bW.length<=900/\∃ z,ρ=[.shr (.list (ns.map .int)),.shr (.int k),.shr (.str a),z]) "" ?_ ⟨by rw [f9,show ("" : Str).length=0 by decide];omega,_,rfl⟩ ?_
  ·rintro i bW a ρ ⟨hl,z,rfl⟩
   simp only [aX] at hl
   refine ⟨_,[.shr (.list (ns.map .int)),.shr (.int k),.shr (.str (a++⟨#[Cy ns k i]⟩)),.shr (.int i)],rfl,?_,?_,_,rfl⟩
   ·walk_at "zz"
    rw [fk ns _ 26 (by omega) (by decide)]
    walk_at "zz"
    rw [NT _ (fj _ _ _ (by decide)) (fV _ _ _ (by decide))]
    walk_at "zz"
    have hz:a.length + (⟨#[97 + (fi ns (k + 1 + i) 26).toNat]⟩:Str).length<=1000:=by
     show a.length + 1<=1000
     omega
    rw [if_pos hz]
    walk_at "zz"
    rw [show 97 + (fi ns (k + 1 + i) 26).toNat=Cy ns k i from rfl]
   ·show (a.cps++#[_]).size + bW.length<=900
    rw [Array.size_append]
    show a.cps.size + 1 + bW.length<=900
    have:a.length=a.cps.size:=rfl
    omega
  ·rintro ρ' ⟨_,z,rfl⟩
   walk_at "zz"
   have:(bw (sM ns k)).foldl (fun (a:Str) i=>a++⟨#[Cy ns k i]⟩) ""=kB ns k:=by
    have:=Cz ((bw (sM ns k)).map (Cy ns k)) ""
    rw [sB] at this
    rw [this,Ks]
    unfold kB
    rw [jm]
   rw [this]
 ·walk_at "zz"
  rw [fk ns k 6 hk (by decide)]
  walk_at "zz"
  have et:=QB (fi ns k 6) h0 h1
  have ew:[1,2,3,6,1,4].getD (fi ns k 6).toNat 0=sM ns k:=rfl
  rw [ew] at et
  rw [et]
  walk_at "zz"
  rw [uT (sM ns k) (by omega)]
def hX (l:List (Str×D)):List (D×D):=l.map fun p=>(.str p.1,p.2)
def sr (l:List (Str×D)) (x:Str) (d:D):List (Str×D):=if l.any (fun p=>decide (p.1=x)) then l.map (fun p=>if p.1=x then (p.1,d) else p) else l++[(x,d)]
theorem mU (x y:Str):aZ (.str x) (.str y)=decide (x=y):=by
 show (x == y)=_
 rw [qZ]
theorem J7 (l:List (Str×D)) (x:Str) (d:D):sk (hX l) (.str x) d=hX (sr l x d):=by
 unfold sk sr hX
 rw [qe]
 have e:((fun kv:D×D=>aZ kv.1 (.str x))∘fun p:Str×D=>(aP p.1,p.2))=fun p=>decide (p.1=x):=by
  funext p
  exact mU p.1 x
 rw [e]
 split
 ·rw [cF,cF]
  apply ua
  intro p _
  simp only [Function.comp,mU]
  by_cases h:p.1=x
  ·simp [h]
  ·simp [h]
 ·simp
theorem yO (l:List (Str×D)):gU (hX l)=true:=by
 unfold gU hX
 rw [mf,cq]
 intro p _
 rfl
theorem Ex (l:List (Str×D)) (x:Str) (d:D):(sr l x d).length<=l.length + 1:=by
 unfold sr
 split<;>simp
theorem Bc (l:List (Str×D)) (x:Str) (d:D):(sr l x d).map (·.1)=if x∈l.map (·.1) then l.map (·.1) else l.map (·.1)++[x]:=by
 unfold sr
 have e:(l.any fun p=>decide (p.1=x))=decide (x∈l.map (·.1)):=by
  rw [ef]
  simp only [gI,decide_eq_true_eq,List.mem_map]
 rw [e]
 by_cases h:x∈l.map (·.1)
 ·rw [decide_eq_true h,if_pos rfl,if_pos h,cF]
  apply ua
  intro p _
  by_cases hp:p.1=x<;>simp [hp]
 ·rw [decide_eq_false h,if_neg aS,if_neg h,ba]
  rfl
theorem NU {Q:Str->D->Prop}{l:List (Str×D)}{x:Str}{d:D} (h:∀ p∈l,Q p.1 p.2) (hx:Q x d):∀ p∈sr l x d,Q p.1 p.2:=by
 unfold sr
 split
 ·intro p hp
  obtain ⟨p',hp',rfl⟩:=List.mem_map.mp hp
  by_cases e:p'.1=x
  ·rw [if_pos e];rw [e];exact hx
  ·rw [if_neg e];exact h p' hp'
 ·intro p hp
  rcases List.mem_append.mp hp with hp | hp
  ·exact h p hp
  ·rw [List.mem_singleton.mp hp];exact hx
theorem Kt {l:List Str}{x:Str} (h:l.Nodup):(if x∈l then l else l++[x]).Nodup:=by
 by_cases hx:x∈l
 ·rw [if_pos hx];exact h
 ·rw [if_neg hx];exact xn h hx
theorem S9 {i:Nat}{gk g:av->R D}{ρ:av}{l:List (Str×D)}{x:Str}{d:D} (hi:ρ[i]?=some (Sl.own (.dict (hX l)))) (hg:g ρ=.ok d) (hk:gk ρ=.ok (.str x)) (hl:l.length<1000):Cg i gk g ρ=.ok (.nx (ρ.set i (.own (.dict (hX (sr l x d)))))):=by
 have hl':(hX l).length<1000:=by unfold hX;rw [al];exact hl
 have e:Cg i gk g ρ=(g ρ).bind fun d=>(gk ρ).bind fun k=>match nZ k with
  | some _=>if (hX l).length<1000/\gU (hX l)=true then .ok (.nx (ρ.set i (.own (.dict (sk (hX l) k d))))) else .no
  | none=>.no:=by
  unfold Cg
  simp only [hi]
  try rfl
 rw [e,hg,yD,hk,yD]
 simp only [nZ,if_pos (u9 hl' (yO l)),J7]
theorem Ey (l:List (Str×D)):ka (.dict (hX l))=.ok (.list ((l.map (·.1)).map .str)):=by
 have e:∀ kvs,ka (.dict kvs)=if gU kvs=true then .ok (.list (kvs.map (·.1))) else .no:=fun _=>rfl
 rw [e,if_pos (yO l)]
 unfold hX
 rw [cF,cF]
 rfl
theorem sorted_strs (ss:List Str) (h:ss.length<64):rn (.list (ss.map .str))=.ok (.list ((jx ss).map .str)):=by
 have e:∀ ds,rn (.list ds)=match gd ds with
  | some ss=>if ss.length<64 then .ok (.list ((jx ss).map .str)) else .no
  | none=>.no:=fun _=>rfl
 rw [e,strsOf_map]
 simp only [if_pos h]
theorem e_ (ds:List D):g9 (.list ds)=.ok (.tuple ds):=id rfl
def CA (ns:List Int) (k:Int) (n:Nat):List Str:=(bw n).map fun (i:Nat)=>kB ns (k + 1 + 8 * (i:Int))
def CB (ns:List Int) (k m:Int):List Str:=jx (dq [] (CA ns k (fi ns k (m + 1)).toNat))
structure NV (fs:List Str) (n:Nat):Prop where
 ok:∀ x∈fs,zM x=true
 up:fs.Pairwise fun a b=>pR a b=true
 len:fs.length<=n
theorem NW {α:Type}{a b:List α} (h:a.Perm b):a.length=b.length:=h.length_eq
theorem GO (ns:List Int) (k m:Int) (hm:0<=m):NV (CB ns k m) m.toNat:=by
 have h0:=fj ns k (m + 1) (by omega)
 have h1:=fV ns k (m + 1) (by omega)
 have hp:=gP (dq [] (CA ns k (fi ns k (m + 1)).toNat))
 refine ⟨fun x hx=>?_,?_,?_⟩
 ·have hx:=hp.mem_iff.mp hx
  rw [iw] at hx
  rcases hx with hx | hx
  ·cases hx
  ·obtain ⟨i,_,rfl⟩:=List.mem_map.mp hx
   exact Ew _ _
 ·exact vI (qu _) (hp.nodup_iff.mpr (ig _ [] gG))
 ·unfold CB
  rw [NW hp]
  have:=fU (CA ns k (fi ns k (m + 1)).toNat) []
  unfold CA at this ⊢
  simp at this
  omega
theorem Ku (f:Nat->Str) (l:List Nat):∀ acc:List (Str×D),((l.foldl (fun (a:List (Str×D)) i=>sr a (f i) (.bool true)) acc).map (·.1))=dq (acc.map (·.1)) (l.map f):=by
 induction l with
 | nil=>intro acc;rfl
 | cons i r ih =>
  intro acc
  rw [dM,ih,aG,Bc]
  rfl
theorem NX (ns:List Int) (k m:Int) (hk:0<=k) (hm:0<=m) (hm2:m<=20):mT [.list (ns.map .int),.int k,.int m]=.ok (.tuple ((CB ns k m).map .str)):=by
 have h0:=fj ns k (m + 1) (by omega)
 have h1:=fV ns k (m + 1) (by omega)
 unfold mT
 refine cE ?_
 unfold mS bB
 walk_at "zz"
 rw [pS (ds:=(bw (fi ns k (m + 1)).toNat).map fun (i:Nat)=>ck i)]
 ·refine xw (fun (i:Nat)=>ck i) (fun (a:List (Str×D)) i=>sr a (kB ns (k + 1 + 8 * (i:Int))) (.bool true)) (fun bW a ρ=>a.length + bW.length<=60/\∃ z,ρ=[.shr (.list (ns.map .int)),.shr (.int k),.shr (.int m),.own (.dict (hX a)),z]) [] ?_ ⟨by simp;omega,_,rfl⟩ ?_
  ·rintro i bW a ρ ⟨hl,z,rfl⟩
   simp only [aX] at hl
   refine ⟨_,[.shr (.list (ns.map .int)),.shr (.int k),.shr (.int m),.own (.dict (hX (sr a (kB ns (k + 1 + 8 * (i:Int))) (.bool true)))),.shr (.int i)],rfl,?_,?_,_,rfl⟩
   ·refine (S9 (l:=a) (x:=kB ns (k + 1 + 8 * (i:Int))) (d:=.bool true) rfl rfl ?_ (by omega)).trans rfl
    walk_at "zz"
    rw [oZ (by decide) (by decide)]
    walk_at "zz"
    rw [J6 ns _ (by omega)]
   ·have:=Ex a (kB ns (k + 1 + 8 * (i:Int))) (.bool true)
    omega
  ·rintro ρ' ⟨hl,z,rfl⟩
   simp only [bQ] at hl
   walk_at "zz"
   rw [Ey]
   walk_at "zz"
   have ek:=Ku (fun i=>kB ns (k + 1 + 8 * (i:Int))) (bw (fi ns k (m + 1)).toNat) []
   rw [ek,sorted_strs]
   ·walk_at "zz"
    rw [e_]
    walk_at "zz"
    rfl
   ·rw [<- ek,al];omega
 ·walk_at "zz"
  rw [fk ns k (m + 1) hk (by omega)]
  walk_at "zz"
  have:=uT (fi ns k (m + 1)).toNat (by omega)
  rw [fA h0] at this
  exact this
structure cS where
 name:Str
 needs:List Str
 bars:List Str
 makes:List Str
 ends:List Str
 price:Int
abbrev aA (xs:List Str):D:=.tuple (xs.map .str)
def cc (e:cS):D:=.tuple [.str e.name,aA e.needs,aA e.bars,aA e.makes,aA e.ends,.int e.price]
structure nD (fs xs:List Str):Prop where
 up:xs.Pairwise fun a b=>pR a b=true
 mem:∀ x∈xs,x∈fs
structure qF (fs:List Str) (e:cS):Prop where
 name:zM e.name=true
 needs:nD fs e.needs
 bars:nD fs e.bars
 makes:nD fs e.makes
 ends:nD fs e.ends
 nb:∀ x∈e.needs,x∉e.bars
 me:∀ x∈e.makes,x∉e.ends
 p0:0<=e.price
 p9:e.price<=9
def Dl (xs:List Str):List Str:=jx (dq [] xs)
theorem mV {xs:List Str}{x:Str}:x∈Dl xs↔x∈xs:=by
 unfold Dl
 rw [(gP _).mem_iff,iw]
 simp
theorem GP (xs:List Str):(Dl xs).Pairwise fun a b=>pR a b=true:=vI (qu _) ((gP _).nodup_iff.mpr (ig _ [] gG))
theorem xx {fs xs:List Str} (h:∀ x∈xs,x∈fs):nD fs (Dl xs):=⟨GP xs,fun x hx=>h x (mV.mp hx)⟩
theorem CC (fs:List Str) (j:Int) (h0:0<=j) (h1:j<fs.length):∃ x,x∈fs/\a_ (aA fs) (.int j)=.ok (.str x):=by
 have hj:j.toNat<fs.length:=by omega
 refine ⟨fs[j.toNat],gH hj,?_⟩
 have e:∀ xs k,a_ (.tuple xs) k=DY (.tuple xs) k:=fun _ _=>rfl
 rw [e]
 have hx:=ur (xs:=fs.map aP) (j:=j.toNat) (v:=.str fs[j.toNat]) (by rw [aN,aQ hj];rfl)
 rw [fA h0] at hx
 unfold DY
 simp only [hx]
theorem yP (x:Str):∀ ys:List Str,((ys.map aP).any fun y=>aZ y (.str x))=decide (x∈ys)
 | []=>rfl
 | y::r=>by
  rw [aG,e6,yP x r,mU]
  by_cases h:y=x
  ·subst h;simp
  ·simp [h,cZ h]
theorem yQ (ys:List Str):(ys.map aP).all kP=true:=by
 rw [mf,cq];intro _ _;rfl
theorem CD (neg:Bool) (x:Str) (ys:List Str):Aa neg (.str x) (.list (ys.map .str))=.ok (.bool (if neg then !decide (x∈ys) else decide (x∈ys))):=by
 have e:Aa neg (.str x) (.list (ys.map .str))=if kP (.str x) && (ys.map aP).all kP then .ok (.bool (if neg then !((ys.map aP).any fun y=>aZ y (.str x)) else (ys.map aP).any fun y=>aZ y (.str x))) else .no:=rfl
 rw [e,yQ,yP]
 rfl
theorem qG (neg:Bool) (x:Str) (ys:List Str):Aa neg (.str x) (aA ys)=.ok (.bool (if neg then !decide (x∈ys) else decide (x∈ys))):=by
 have e:Aa neg (.str x) (aA ys)=if kP (.str x) && (ys.map aP).all kP then .ok (.bool (if neg then !((ys.map aP).any fun y=>aZ y (.str x)) else (ys.map aP).any fun y=>aZ y (.str x))) else .no:=rfl
 rw [e,yQ,yP]
 rfl
theorem lU (neg:Bool) (a b:Int):lI neg (.int a) (.int b)=.ok (.bool (if neg then !decide (a=b) else decide (a=b))):=by
 have e:lI neg (.int a) (.int b)=.ok (.bool (if neg then !(a == b) else (a == b))):=rfl
 rw [e,qZ]
theorem xy {x:Str} (h:zM x=true):(aP x).canLay0=true:=by
 unfold zM at h
 simp only [aW,cq,decide_eq_true_eq] at h
 show PyData.strOk x=true
 unfold PyData.strOk
 rw [<- Array.all_toList,cq]
 intro c hc
 have:=h.2 c hc
 exact decide_eq_true (by omega)
theorem J8 (neg:Bool) {x y:Str} (hx:zM x=true) (hy:zM y=true):lI neg (.str x) (.str y)=.ok (.bool (if neg then !decide (x=y) else decide (x=y))):=by
 unfold lI
 rw [xy hx,xy hy,mU]
 rfl
theorem yR (ss:List Str) (h:ss.length<60):tm (.list (ss.map .str))=.ok (dq [] ss):=by
 have e:∀ ds,tm (.list ds)=match gd ds with
  | some ss=>if ss.length<60 then .ok (dq [] ss) else .no
  | none=>.no:=fun _=>rfl
 rw [e,strsOf_map]
 simp only [if_pos h]
theorem J9 (g:av->R D) (s:Sl) (ρ:av):oJ g (s::ρ)=(g (s::ρ)).bind tm:=id rfl
def Sc:List Str->R D:=fun ss=>if ss.length<64 then .ok (.list ((jx ss).map .str)) else .no
theorem vP (g:av->R (List Str)) (s:Sl) (ρ:av):kw g (s::ρ)=(g (s::ρ)).bind Sc:=id rfl
theorem yS (ss:List Str) (h:ss.length<64):Sc ss=.ok (.list ((jx ss).map .str)):=if_pos h
theorem Kv (ss:List Str) (h:ss.length<60) (ρ:av):(c7 (J.ae (kw (oJ fun ρ=>bh ρ 0)) J.aE) (i6 g9)) (.shr (.list (ss.map .str))::ρ)=.ok (aA (Dl ss)):=by
 walk_at "zz"
 rw [vP,J9]
 walk_at "zz"
 rw [yR ss h]
 walk_at "zz"
 rw [yS _ (by have:=fU ss [];simp at this;omega)]
 walk_at "zz"
 rw [e_]
 rfl
theorem Ez {ρ:av}{gt:av->R Bool}{x:Str}{b:Bool}{s:Sl}{r:av} (hρ:ρ=s::r) (h:gt (.shr (.str x)::r)=.ok b):gK (ij 1 ρ gt (fun ρ=>bj ρ 0)) [.str x]=.ok ((if b then [x] else []).map .str):=by
 subst hρ
 have e:=jA (ρ:=s::r) (gt:=gt) (ge:=fun ρ=>bj ρ 0) (d:=.str x) (y:=.str x) (b:=b) h fun _=>rfl
 unfold gK
 rw [e,yD]
 unfold gK
 rw [yD]
 cases b<;>rfl
theorem TK (p q r t:List Str) (hp:p.length<60) (hq:q.length<60) (hr:r.length<60) (ht:t.length<60):gK (ij 1 [Sl.no] (fun _=>.ok true) (c7 (J.ae (kw (oJ fun ρ=>bh ρ 0)) J.aE) (i6 g9))) [.list (p.map .str),.list (q.map .str),.list (r.map .str),.list (t.map .str)]=.ok [aA (Dl p),aA (Dl q),aA (Dl r),aA (Dl t)] :=
 dP _ (fun ss:List Str=>fB (ss.map .str)) (fun ss=>aA (Dl ss)) [p,q,r,t] fun ss hs=>fM rfl (Kv ss (by simp at hs;rcases hs with h | h | h | h<;>(rw [h];assumption)) _)
theorem Sd (a b c d:D):a_ (.list [a,b,c,d]) (.int 0)=.ok a:=id rfl
theorem Se (a b c d:D):a_ (.list [a,b,c,d]) (.int 1)=.ok b:=id rfl
theorem Sf (a b c d:D):a_ (.list [a,b,c,d]) (.int 2)=.ok c:=id rfl
theorem Sg (a b c d:D):a_ (.list [a,b,c,d]) (.int 3)=.ok d:=id rfl
theorem QC (ns:List Int) (k:Int) (hk:0<=k) (fs:List Str) (hf:∀ x∈fs,zM x=true) (h0:0<fs.length) (nm:Str) (hn:zM nm=true) :
  ∃ e,oT [.list (ns.map .int),.int k,aA fs,.str nm]=.ok (cc e)/\qF fs e/\e.name=nm:=by
 have hl:(0:Int)<(fs.length:Int):=by omega
 obtain ⟨a,ha,ea⟩:=CC fs (fi ns (k + 10) fs.length) (fj _ _ _ hl) (fV _ _ _ hl)
 obtain ⟨b,hb,eb⟩:=CC fs (fi ns (k + 11) fs.length) (fj _ _ _ hl) (fV _ _ _ hl)
 obtain ⟨c,hc,ec⟩:=CC fs (fi ns (k + 12) fs.length) (fj _ _ _ hl) (fV _ _ _ hl)
 have m13a:=fj ns (k + 13) 3 (by decide)
 have m13b:=fV ns (k + 13) 3 (by decide)
 obtain ⟨nd,hnd,hnl,end_⟩:∃ nd:List Str,(∀ x∈nd,x∈fs)/\nd.length<60/\Iq (.list [.str a,.str b]) none (some (1 + fi ns (k + 13) 3 / 2))=.ok (.list (nd.map .str)):=by
  by_cases h2:fi ns (k + 13) 3=2
  ·exact ⟨[a,b],by simp [ha,hb],by simp,by rw [h2];rfl⟩
  ·have:fi ns (k + 13) 3 / 2=0:=by omega
   exact ⟨[a],by simp [ha],by simp,by rw [this];rfl⟩
 let bb:Bool:=!decide (c∈nd) && decide (fi ns (k + 14) 4=0)
 let be:Bool:=!decide (a=c) && decide (fi ns (k + 15) 3=0)
 have p0:=fj ns k 5 (by decide)
 have p1:=fV ns k 5 (by decide)
 refine ⟨⟨nm,Dl nd,Dl (if bb then [c] else []),Dl [c],Dl (if be then [a] else []),fi ns k 5⟩,?_,⟨hn,xx hnd,xx ?_,xx (by simp [hc]),xx ?_,fun x h1 h2=>?_,fun x h1 h2=>?_,p0,by show fi ns k 5<=9;omega⟩,rfl⟩
 ·unfold oT
  refine cE ?_
  unfold oS bB
  walk_at "zz"
  rw [fk ns _ _ (by omega) hl]
  walk_at "zz"
  rw [ea]
  walk_at "zz"
  rw [fk ns (k + 11) _ (by omega) hl]
  walk_at "zz"
  rw [eb]
  walk_at "zz"
  rw [fk ns (k + 12) _ (by omega) hl]
  walk_at "zz"
  rw [ec]
  walk_at "zz"
  rw [fk ns (k + 13) 3 (by omega) (by decide)]
  walk_at "zz"
  simp only [Ga,decide_true,j3,if_true]
  walk_at "zz"
  rw [end_]
  walk_at "zz"
  rw [Ez (b:=bb) rfl]
  ·walk_at "zz"
   rw [Ez (b:=be) rfl]
   ·walk_at "zz"
    simp only [RH]
    rw [Cj rfl,Cj rfl]
    walk_at "zz"
    have pk:=TK nd (if bb then [c] else []) [c] (if be then [a] else []) hnl (by cases bb<;>simp) (by simp) (by cases be<;>simp)
    rw [show ([c].map aP)=[aP c] from rfl] at pk
    rw [pk]
    walk_at "zz"
    rw [Sd]
    walk_at "zz"
    rw [Se]
    walk_at "zz"
    rw [Sf]
    walk_at "zz"
    rw [Sg]
    walk_at "zz"
    rw [fk ns k 5 hk (by decide)]
    walk_at "zz"
    rfl
   ·walk_at "zz"
    rw [J8 true (hf a ha) (hf c hc)]
    walk_at "zz"
    by_cases hac:a=c
    ·simp only [be,hac,decide_true,oo,Az,if_true,cond_false]
    ·simp only [be,hac,decide_false,jM,om,if_true,cond_true]
     rw [fk ns (k + 15) 3 (by omega) (by decide)]
     walk_at "zz"
     rw [lU]
     walk_at "zz"
  ·walk_at "zz"
   rw [CD]
   walk_at "zz"
   by_cases hcn:c∈nd
   ·simp only [bb,hcn,decide_true,oo,Az,if_true,cond_false]
   ·simp only [bb,hcn,decide_false,jM,om,if_true,cond_true]
    rw [fk ns (k + 14) 4 (by omega) (by decide)]
    walk_at "zz"
    rw [lU]
    walk_at "zz"
 ·intro x hx
  cases hbb:bb
  ·simp [hbb] at hx
  ·simp [hbb] at hx;rw [hx];exact hc
 ·intro x hx
  cases hbe:be
  ·simp [hbe] at hx
  ·simp [hbe] at hx;rw [hx];exact ha
 ·have h2:x∈(if bb then [c] else []):=mV.mp h2
  cases hbb:bb
  ·simp [hbb] at h2
  ·simp [hbb] at h2
   subst h2
   have:(!decide (x∈nd))=true:=by
    have:(!decide (x∈nd) && decide (fi ns (k + 14) 4=0))=true:=hbb
    simp only [aW] at this
    exact this.1
   simp at this
   exact this (mV.mp h1)
 ·cases hbe:be
  ·have h2:x∈(if be then [a] else []):=mV.mp h2
   simp [hbe] at h2
  ·skip
   have h4:x∈[c]:=mV.mp h1
   have h5:x∈(if be then [a] else []):=mV.mp h2
   simp only [dQ] at h4
   simp only [hbe,if_true,dQ] at h5
   have:(!decide (a=c) && decide (fi ns (k + 15) 3=0))=true:=hbe
   simp only [aW] at this
   have h3:=this.1
   simp at h3
   exact h3 (h5.symm.trans h4)
theorem CF {i:Nat}{gi g:av->R D}{ρ:av}{dss:List (List D)}{ds:List D}{d:D}{j:Int} (hi:ρ[i]?=some (Sl.ow2 dss)) (hj:gi ρ=.ok (.int j)) (h0:0<=j) (hd:dss[j.toNat]?=some ds) (hg:g ρ=.ok d) (hl:ds.length<1000):n_ i gi g ρ=.ok (.nx (ρ.set i (.ow2 (dss.set j.toNat (ds++[d]))))):=by
 unfold n_
 simp only [hi,hj,bind_ok,if_pos h0,hd,hg,if_pos hl]
def mW (n:Nat):List Str->List (Nat×Str)
 | []=>[]
 | x::r=>(n,x)::mW (n + 1) r
abbrev cI (p:Nat×Str):D:=.tuple [.int (p.1:Nat),.str p.2]
theorem xz:∀ (xs:List Str) (n:Nat),iR n (xs.map .str)=(mW n xs).map cI
 | [],_=>rfl
 | x::r,n=>by
  show cC [.int n,.str x]::iR (n + 1) (r.map .str)=cI (n,x)::(mW (n + 1) r).map cI
  rw [xz r (n + 1)]
theorem rO:∀ (xs:List Str) (n:Nat),(mW n xs).map (·.2)=xs
 | [],_=>rfl
 | x::r,n=>by
  show x::(mW (n + 1) r).map (·.2)=x::r
  rw [rO r]
theorem uU:∀ (fs:List Str),(∀ x∈fs,zM x=true)->c8 (fs.map .str)=true
 | [],_=>rfl
 | x::r,h=>by
  have h1:=xy (h x ap)
  have h2:=uU r fun y hy=>h y (am _ hy)
  simp only [aG,c8,h1,h2,j3]
theorem Ja (fs:List Str) (hf:∀ x∈fs,zM x=true):lI true (aA fs) (.tuple [])=.ok (.bool (!decide (fs=[]))):=by
 unfold lI
 have h1:(aA fs).canLay0=true:=by simp only [eS];exact uU fs hf
 have h2:(cC []).canLay0=true:=rfl
 have h3:min (aA fs).depth (cC []).depth<=60:=bE (pW _ _) (by decide)
 have h4:aZ (aA fs) (.tuple [])=decide (fs=[]):=by
  cases fs with
  | nil=>rfl
  | cons x r=>simp [aZ,dD]
 rw [h1,h2,decide_eq_true h3,h4]
 rfl
structure nE (pre p q:List Str):Prop where
 sp:p.Sublist pre
 sq:q.Sublist pre
 d:∀ x∈p,x∉q
theorem nE.skip {pre p q:List Str} (h:nE pre p q) (x:Str):nE (pre++[x]) p q:=⟨h.sp.trans (j4 _ _),h.sq.trans (j4 _ _),h.d⟩
theorem nE.left {pre p q:List Str} (h:nE pre p q) (x:Str) (hx:x∉pre):nE (pre++[x]) (p++[x]) q:=⟨h.sp.append (eG _),h.sq.trans (j4 _ _),fun y hy hq=>by
 rcases List.mem_append.mp hy with h1 | h1
 ·exact h.d y h1 hq
 ·rw [List.mem_singleton.mp h1] at hq
  exact hx (h.sq.subset hq)⟩
theorem nE.right {pre p q:List Str} (h:nE pre p q) (x:Str) (hx:x∉pre):nE (pre++[x]) p (q++[x]):=⟨h.sp.trans (j4 _ _),h.sq.append (eG _),fun y hy hq=>by
 rcases List.mem_append.mp hq with h1 | h1
 ·exact h.d y hy h1
 ·rw [List.mem_singleton.mp h1] at hy
  exact hx (h.sp.subset hy)⟩
abbrev o4 (p q r t:List Str):Sl:=.ow2 [p.map .str,q.map .str,r.map .str,t.map .str]
theorem VB (j:Int) (h0:0<=j) (h1:j<3):∃ b:Bool,a_ (.list [.int 0,.int 0,.int 1]) (.int j)=.ok (.int (if b then 0 else 1)):=by
 have:j=0\/j=1\/j=2:=by omega
 rcases this with h | h | h<;>subst h
 ·exact ⟨true,rfl⟩
 ·exact ⟨true,rfl⟩
 ·exact ⟨false,rfl⟩
theorem VC (j:Int) (h0:0<=j) (h1:j<4):∃ b:Bool,a_ (.list [.int 2,.int 2,.int 3,.int 3]) (.int j)=.ok (.int (if b then 2 else 3)):=by
 have:j=0\/j=1\/j=2\/j=3:=by omega
 rcases this with h | h | h | h<;>subst h
 ·exact ⟨true,rfl⟩
 ·exact ⟨true,rfl⟩
 ·exact ⟨false,rfl⟩
 ·exact ⟨false,rfl⟩
theorem uV (p:List Str) (x:Str):(p++[x]).map aP=p.map .str++[.str x]:=by simp
theorem NY {a b c d e f:Sl}{pre p q r t:List Str}{x:Str}{j:Int} (hp:nE pre p q) (hx:x∉pre) (hl:pre.length<900) (h0:0<=j) :
  ∃ p' q',nE (pre++[x]) p' q'/\eM (eZ (g2 (fun ρ=>bh ρ 7) (fun _=>.ok (.int 3)) A9)) (n_ 4 (g2 (e8 (J.ae (fun _=>.ok (.int 0)) (J.ae (fun _=>.ok (.int 0)) (J.ae (fun _=>.ok (.int 1)) J.aE))) .list) (fun ρ=>bh ρ 7) a_) (fun ρ=>bj ρ 6)) (fun ρ=>.ok (.nx ρ)) [a,b,c,d,o4 p q r t,e,.shr (.str x),.shr (.int j),f]=.ok (.nx [a,b,c,d,o4 p' q' r t,e,.shr (.str x),.shr (.int j),f]):=by
 by_cases h3:j<3
 ·obtain ⟨bo,e3⟩:=VB j h0 h3
  have lp:p.length<1000:=by have:=hp.sp.length_le;omega
  have lq:q.length<1000:=by have:=hp.sq.length_le;omega
  cases bo
  ·refine ⟨p,q++[x],hp.right x hx,?_⟩
   walk_at "zz"
   rw [decide_eq_true h3]
   walk_at "zz"
   simp only [o4,uV]
   refine (CF (j:=1) (ds:=q.map .str) (d:=.str x) rfl ?_ (by decide) rfl rfl (by rw [al];exact lq)).trans rfl
   walk_at "zz"
   rw [e3]
   rfl
  ·refine ⟨p++[x],q,hp.left x hx,?_⟩
   walk_at "zz"
   rw [decide_eq_true h3]
   walk_at "zz"
   simp only [o4,uV]
   refine (CF (j:=0) (ds:=p.map .str) (d:=.str x) rfl ?_ (by decide) rfl rfl (by rw [al];exact lp)).trans rfl
   walk_at "zz"
   rw [e3]
   rfl
 ·refine ⟨p,q,hp.skip x,?_⟩
  walk_at "zz"
  rw [decide_eq_false h3]
  walk_at "zz"
theorem N_ {a b c d e f:Sl}{pre p q r t:List Str}{x:Str}{j:Int} (hp:nE pre r t) (hx:x∉pre) (hl:pre.length<900) (h0:0<=j) :
  ∃ r' t',nE (pre++[x]) r' t'/\eM (eZ (g2 (fun ρ=>bh ρ 7) (fun _=>.ok (.int 4)) A9)) (n_ 4 (g2 (e8 (J.ae (fun _=>.ok (.int 2)) (J.ae (fun _=>.ok (.int 2)) (J.ae (fun _=>.ok (.int 3)) (J.ae (fun _=>.ok (.int 3)) J.aE)))) .list) (fun ρ=>bh ρ 7) a_) (fun ρ=>bj ρ 6)) (fun ρ=>.ok (.nx ρ)) [a,b,c,d,o4 p q r t,e,.shr (.str x),.shr (.int j),f]=.ok (.nx [a,b,c,d,o4 p q r' t',e,.shr (.str x),.shr (.int j),f]):=by
 by_cases h3:j<4
 ·obtain ⟨bo,e3⟩:=VC j h0 h3
  have lp:r.length<1000:=by have:=hp.sp.length_le;omega
  have lq:t.length<1000:=by have:=hp.sq.length_le;omega
  cases bo
  ·refine ⟨r,t++[x],hp.right x hx,?_⟩
   walk_at "zz"
   rw [decide_eq_true h3]
   walk_at "zz"
   simp only [o4,uV]
   refine (CF (j:=3) (ds:=t.map .str) (d:=.str x) rfl ?_ (by decide) rfl rfl (by rw [al];exact lq)).trans rfl
   walk_at "zz"
   rw [e3]
   rfl
  ·refine ⟨r++[x],t,hp.left x hx,?_⟩
   walk_at "zz"
   rw [decide_eq_true h3]
   walk_at "zz"
   simp only [o4,uV]
   refine (CF (j:=2) (ds:=r.map .str) (d:=.str x) rfl ?_ (by decide) rfl rfl (by rw [al];exact lp)).trans rfl
   walk_at "zz"
   rw [e3]
   rfl
 ·refine ⟨r,t,hp.skip x,?_⟩
  walk_at "zz"
  rw [decide_eq_false h3]
  walk_at "zz"
theorem VD (i:Nat) (ρ:av):Qe i ρ=.ok (.nx ((clear2 ρ).set i (.ow2 [[],[],[],[]]))):=id rfl
theorem nE.sub {fs p q:List Str} (up:fs.Pairwise fun a b=>pR a b=true) (h:nE fs p q):nD fs p/\nD fs q:=⟨⟨up.sublist h.sp,fun x hx=>h.sp.subset hx⟩,⟨up.sublist h.sq,fun x hx=>h.sq.subset hx⟩⟩
theorem O0 (p:List Str) (ρ:av):(c7 (J.ae (fun ρ=>bh ρ 0) J.aE) (i6 g9)) (.shr (.list (p.map .str))::ρ)=.ok (aA p):=by
 walk_at "zz"
 rw [e_]
theorem VE (p q r t:List Str):gK (ij 1 [Sl.no] (fun _=>.ok true) (c7 (J.ae (fun ρ=>bh ρ 0) J.aE) (i6 g9))) [.list (p.map .str),.list (q.map .str),.list (r.map .str),.list (t.map .str)]=.ok [aA p,aA q,aA r,aA t] :=
 dP _ (fun ss:List Str=>fB (ss.map .str)) (fun ss=>aA ss) [p,q,r,t] fun ss hs=>fM rfl (O0 ss _)
theorem Kw (ns:List Int) (k:Int) (hk:0<=k) (fs:List Str) (hf:∀ x∈fs,zM x=true) (up:fs.Pairwise fun a b=>pR a b=true) (nd:fs.Nodup) (hl:fs.length<=6) (nm:Str) (hn:zM nm=true) :
  ∃ e,iA [.list (ns.map .int),.int k,aA fs,.str nm]=.ok (cc e)/\qF fs e/\e.name=nm:=by
 have p0:=fj ns k 5 (by decide)
 have p1:=fV ns k 5 (by decide)
 have go:∀ ρ:av,ρ=[.shr (.list (ns.map .int)),.shr (.int k),.shr (aA fs),.shr (.str nm),.no,.no,.no,.no,.no]->(!decide (fs=[]) && decide (fi ns 97 2=0))=false->∃ e,iz ρ=.ok (.rt (cc e))/\qF fs e/\e.name=nm:=by
  rintro ρ rfl hc
  obtain ⟨ρ',h1,p,q,r,t,h2,h3,h4⟩:∃ ρ',(lK (GF (J.ae (fun ρ=>bj ρ 2) J.aE)) (ku 2 (cn (bO 5) (cn (bO 6) kW))) (aR (eV 7 (dR 3 bq (J.ae (fun ρ=>bj ρ 0) (J.ae (g2 (g2 (fun ρ=>bh ρ 1) (fun _=>.ok (.int 10)) dO) (fun ρ=>bh ρ 5) dO) (J.ae (fun _=>.ok (.int 8)) J.aE))))) (aR (eM (eZ (g2 (fun ρ=>bh ρ 7) (fun _=>.ok (.int 3)) A9)) (n_ 4 (g2 (e8 (J.ae (fun _=>.ok (.int 0)) (J.ae (fun _=>.ok (.int 0)) (J.ae (fun _=>.ok (.int 1)) J.aE))) .list) (fun ρ=>bh ρ 7) a_) (fun ρ=>bj ρ 6)) (fun ρ=>.ok (.nx ρ))) (aR (eV 7 (dR 3 bq (J.ae (fun ρ=>bj ρ 0) (J.ae (g2 (g2 (fun ρ=>bh ρ 1) (fun _=>.ok (.int 20)) dO) (fun ρ=>bh ρ 5) dO) (J.ae (fun _=>.ok (.int 8)) J.aE))))) (eM (eZ (g2 (fun ρ=>bh ρ 7) (fun _=>.ok (.int 4)) A9)) (n_ 4 (g2 (e8 (J.ae (fun _=>.ok (.int 2)) (J.ae (fun _=>.ok (.int 2)) (J.ae (fun _=>.ok (.int 3)) (J.ae (fun _=>.ok (.int 3)) J.aE)))) .list) (fun ρ=>bh ρ 7) a_) (fun ρ=>bj ρ 6)) (fun ρ=>.ok (.nx ρ))))))) [.shr (.list (ns.map .int)),.shr (.int k),.shr (aA fs),.shr (.str nm),o4 [] [] [] [],.no,.no,.no,.no]=.ok (.nx ρ')/\∃ p q r t,nE fs p q/\nE fs r t/\∃ z5 z6 z7,ρ'=[.shr (.list (ns.map .int)),.shr (.int k),.shr (aA fs),.shr (.str nm),o4 p q r t,z5,z6,z7,.no]:=by
   rw [pS (ds:=(mW 0 fs).map cI)]
   ·have H:=qD cI (fun (a:Unit) (_:Nat×Str)=>a) (fun bW _ ρ=>∃ pre,pre++bW.map (·.2)=fs/\∃ p q r t,nE pre p q/\nE pre r t/\∃ z5 z6 z7,ρ=[.shr (.list (ns.map .int)),.shr (.int k),.shr (aA fs),.shr (.str nm),o4 p q r t,z5,z6,z7,.no]) (kt:=ku 2 (cn (bO 5) (cn (bO 6) kW))) (gb:=(aR (eV 7 (dR 3 bq (J.ae (fun ρ=>bj ρ 0) (J.ae (g2 (g2 (fun ρ=>bh ρ 1) (fun _=>.ok (.int 10)) dO) (fun ρ=>bh ρ 5) dO) (J.ae (fun _=>.ok (.int 8)) J.aE))))) (aR (eM (eZ (g2 (fun ρ=>bh ρ 7) (fun _=>.ok (.int 3)) A9)) (n_ 4 (g2 (e8 (J.ae (fun _=>.ok (.int 0)) (J.ae (fun _=>.ok (.int 0)) (J.ae (fun _=>.ok (.int 1)) J.aE))) .list) (fun ρ=>bh ρ 7) a_) (fun ρ=>bj ρ 6)) (fun ρ=>.ok (.nx ρ))) (aR (eV 7 (dR 3 bq (J.ae (fun ρ=>bj ρ 0) (J.ae (g2 (g2 (fun ρ=>bh ρ 1) (fun _=>.ok (.int 20)) dO) (fun ρ=>bh ρ 5) dO) (J.ae (fun _=>.ok (.int 8)) J.aE))))) (eM (eZ (g2 (fun ρ=>bh ρ 7) (fun _=>.ok (.int 4)) A9)) (n_ 4 (g2 (e8 (J.ae (fun _=>.ok (.int 2)) (J.ae (fun _=>.ok (.int 2)) (J.ae (fun _=>.ok (.int 3)) (J.ae (fun _=>.ok (.int 3)) J.aE)))) .list) (fun ρ=>bh ρ 7) a_) (fun ρ=>bj ρ 6)) (fun ρ=>.ok (.nx ρ)))))))
    obtain ⟨ρ',h1,pre,h2,p,q,r,t,h3,h4,h5⟩:=H (by
     rintro ⟨i,x⟩ bW _ ρ ⟨pre,h2,p,q,r,t,h3,h4,z5,z6,z7,rfl⟩
     have hx:x∉pre:=by
      rw [<- h2,aG] at nd
      have:=(List.nodup_append.mp nd).2.2
      intro hx
      exact this x hx x ap rfl
     have hpl:pre.length<900:=by
      have:=congrArg sx h2
      rw [aO] at this
      omega
     obtain ⟨p',q',k1,k2⟩:=NY (a:=.shr (.list (ns.map .int))) (b:=.shr (.int k)) (c:=.shr (aA fs)) (d:=.shr (.str nm)) (e:=.shr (.int (i:Nat))) (f:=.no) (r:=r) (t:=t) (j:=fi ns (k + 10 + i) 8) h3 hx hpl (fj _ _ _ (by decide))
     obtain ⟨r',t',k3,k4⟩:=N_ (a:=.shr (.list (ns.map .int))) (b:=.shr (.int k)) (c:=.shr (aA fs)) (d:=.shr (.str nm)) (e:=.shr (.int (i:Nat))) (f:=.no) (p:=p') (q:=q') (j:=fi ns (k + 20 + i) 8) h4 hx hpl (fj _ _ _ (by decide))
     refine ⟨[.shr (.list (ns.map .int)),.shr (.int k),.shr (aA fs),.shr (.str nm),o4 p q r t,.shr (.int (i:Nat)),.shr (.str x),z7,.no],[.shr (.list (ns.map .int)),.shr (.int k),.shr (aA fs),.shr (.str nm),o4 p' q' r' t',.shr (.int (i:Nat)),.shr (.str x),.shr (.int (fi ns (k + 20 + i) 8)),.no],rfl,?_,pre++[x],?_,p',q',r',t',k1,k3,_,_,_,rfl⟩
     ·rw [yE,MX]
      walk_at "yy"
      rw [fk ns _ 8 (by omega) (by decide)]
      walk_at "yy"
      rw [k2]
      walk_at "yy"
      rw [fk ns _ 8 (by omega) (by decide)]
      walk_at "yy"
      rw [k4]
     ·rw [<- h2];simp) (mW 0 fs) () [.shr (.list (ns.map .int)),.shr (.int k),.shr (aA fs),.shr (.str nm),o4 [] [] [] [],.no,.no,.no,.no] ⟨[],by rw [rO];rfl,[],[],[],[],⟨eG _,eG _,fun _ h=>nomatch h⟩,⟨eG _,eG _,fun _ h=>nomatch h⟩,_,_,_,rfl⟩
    refine ⟨ρ',h1,p,q,r,t,?_,?_,h5⟩
    ·simp only [eQ,bT] at h2
     rw [<- h2];exact h3
    ·simp only [eQ,bT] at h2
     rw [<- h2];exact h4
   ·walk_at "zz"
    rw [xz]
  obtain ⟨s1,s2⟩:=h2.sub up
  obtain ⟨s3,s4⟩:=h3.sub up
  obtain ⟨z5,z6,z7,rfl⟩:=h4
  refine ⟨⟨nm,p,q,r,t,fi ns k 5⟩,?_,⟨hn,s1,s2,s3,s4,h2.d,h3.d,p0,by show fi ns k 5<=9;omega⟩,rfl⟩
  unfold iz
  have hand:yh (eZ (g2 (fun ρ=>bh ρ 2) (e8 J.aE .tuple) (lI true))) (eZ (g2 (dR 3 bq (J.ae (fun ρ=>bj ρ 0) (J.ae (fun _=>.ok (.int 97)) (J.ae (fun _=>.ok (.int 2)) J.aE)))) (fun _=>.ok (.int 0)) (lI false))) [.shr (.list (ns.map .int)),.shr (.int k),.shr (aA fs),.shr (.str nm),.no,.no,.no,.no,.no]=.ok false:=by
   walk_at "zz"
   rw [Ja fs hf]
   walk_at "zz"
   by_cases h:fs=[]
   ·simp only [h,decide_true,oo,cond_false]
   ·simp only [h,decide_false,jM,cond_true,om] at hc ⊢
    rw [fk ns 97 2 (by decide) (by decide)]
    walk_at "zz"
    rw [lU]
    walk_at "zz"
    rw [hc]
  rw [yE,Vd,hand]
  simp only [yD,MV,VD,clear2,aG,eQ,vj,vi,yD,uO,yE]
  rw [show Sl.ow2 [[],[],[],[]]=o4 [] [] [] [] from rfl,h1]
  walk_at "zz"
  rw [VE]
  walk_at "zz"
  rw [Sd]
  walk_at "zz"
  rw [Se]
  walk_at "zz"
  rw [Sf]
  walk_at "zz"
  rw [Sg]
  walk_at "zz"
  rw [fk ns k 5 hk (by decide)]
  walk_at "zz"
  rfl
 by_cases hc:(!decide (fs=[]) && decide (fi ns 97 2=0))=true
 ·have h0:0<fs.length:=by
   rcases fs with _ | ⟨x,r⟩
   ·simp at hc
   ·simp
  obtain ⟨e,h1,h2⟩:=QC ns k hk fs hf h0 nm hn
  refine ⟨e,?_,h2⟩
  unfold iA
  refine cE ?_
  unfold iz bB
  walk_at "zz"
  rw [Ja fs hf]
  walk_at "zz"
  simp only [aW] at hc
  rw [hc.1]
  walk_at "zz"
  rw [fk ns 97 2 (by decide) (by decide)]
  walk_at "zz"
  rw [lU]
  walk_at "zz"
  rw [hc.2]
  walk_at "zz"
  rw [h1]
  walk_at "zz"
 ·obtain ⟨e,h1,h2⟩:=go _ rfl (Bool.eq_false_iff.mpr hc)
  exact ⟨e,by unfold iA;exact cE h1,h2⟩
theorem O1 (ds:List D) (t:Nat) (h:t<=ds.length):Ab ds (some (t:Int)) none=ds.drop t:=by
 unfold Ab
 rw [HT.HZ,HT.Dw,Nat.min_eq_left h,List.take_of_length_le (by rw [xi];exact au _)]
theorem TL (ds:List D) (t:Nat) (h:t<=ds.length):Ab ds none (some (t:Int))=ds.take t:=by
 unfold Ab
 rw [HT.HZ,HT.Dw,Nat.min_eq_left h,List.drop_zero,Nat.sub_zero]
theorem VF (ds:List D) (t:Nat) (h:t<=ds.length):Iq (.list ds) (some (t:Int)) none=.ok (.list (ds.drop t)):=by
 rw [<- O1 ds t h];rfl
theorem VG (ds:List D) (t:Nat) (h:t<=ds.length):Iq (.list ds) none (some (t:Int))=.ok (.list (ds.take t)):=by
 rw [<- TL ds t h];rfl
theorem O3 {l:List (Str×D)} (nd:(l.map (·.1)).Nodup) {p:Str×D} (hp:p∈l):a_ (.dict (hX l)) (.str p.1)=.ok p.2:=by
 have e:∀ kvs x,a_ (.dict kvs) (.str x)=if gU kvs=true then (match kQ kvs (.str x) with
   | some d=>.ok d
   | none=>.no) else .no:=fun _ _=>rfl
 rw [e,if_pos (yO l)]
 have:kQ (hX l) (.str p.1)=some p.2:=by
  unfold kQ hX
  clear e
  induction l with
  | nil=>cases hp
  | cons q r ih =>
   rw [aG] at nd
   obtain ⟨n1,n2⟩:=List.nodup_cons.mp nd
   rw [aG,c9,mU]
   rcases List.mem_cons.mp hp with h | h
   ·subst h;simp
   ·have:q.1≠p.1:=fun z=>n1 (z ▸ bt h)
    rw [decide_eq_false this]
    exact ih n2 h
 rw [this]
structure dg (fs:List Str) (es:List cS):Prop where
 rise:NV fs 6
 len:es.length<=6
 nd:(es.map (·.name)).Nodup
 ok:∀ e∈es,qF fs e
def cN (fs:List Str) (es:List cS):D:=.tuple [aA fs,.tuple (es.map cc)]
theorem VH (fs:List Str):∀ (l:List (Str×D)),(∀ p∈l,∃ e,p.2=cc e/\qF fs e/\e.name=p.1)->∃ es:List cS,l.map (·.2)=es.map cc/\es.map (·.name)=l.map (·.1)/\∀ e∈es,qF fs e
 | [],_=>⟨[],rfl,rfl,fun _ h=>nomatch h⟩
 | p::r,h=>by
  obtain ⟨e,h1,h2,h3⟩:=h p ap
  obtain ⟨es,k1,k2,k3⟩:=VH fs r fun q hq=>h q (am _ hq)
  refine ⟨e::es,by rw [aG,aG,h1,k1],by rw [aG,aG,h3,k2],fun x hx=>?_⟩
  rcases List.mem_cons.mp hx with z | z
  ·rw [z];exact h2
  ·exact k3 x z
theorem Kx {α:Type} (l:List α) (t:Nat):(l.drop t++l.take t).Perm l:=by
 refine List.perm_append_comm.trans ?_
 rw [List.take_append_drop]
theorem kC {l:List Str} (h:l.Pairwise fun a b=>pR a b=true):l.Nodup:=h.imp fun hab z=>by
 rw [z,t5] at hab
 cases hab
theorem QD (ns:List Int) (k:Int) (hk:0<=k) (m n:Int) (hm0:0<=m) (hm:m<=6) (hn0:0<=n) (hn:n<=6):∃ fs es,lP [.list (ns.map .int),.int k,.int m,.int n]=.ok (cN fs es)/\dg fs es:=by
 have hr:=GO ns k m hm0
 generalize hfs:CB ns k m=fs at hr
 have hr:NV fs 6:=⟨hr.ok,hr.up,by have:=hr.len;omega⟩
 have nd:=kC hr.up
 have m0:=fj ns (k + 60) (n + 1) (by omega)
 have m1:=fV ns (k + 60) (n + 1) (by omega)
 suffices H:∃ es,lP [.list (ns.map .int),.int k,.int m,.int n]=.ok (cN fs es)/\dg fs es from H.elim fun es h=>⟨fs,es,h⟩
 unfold lP
 suffices H:∃ es,lO (bB 10 [.list (ns.map .int),.int k,.int m,.int n])=.ok (.rt (cN fs es))/\dg fs es from H.elim fun es h=>⟨es,cE h.1,h.2⟩
 have H:=qD (fun (i:Nat)=>ck i) (fun (a:Unit) (_:Nat)=>a) (fun bW _ ρ=>∃ l,l.length + bW.length<=6/\(l.map (·.1)).Nodup/\(∀ p∈l,∃ e,p.2=cc e/\qF fs e/\e.name=p.1)/\∃ z6 z7,ρ=[.shr (.list (ns.map .int)),.shr (.int k),.shr (.int m),.shr (.int n),.shr (aA fs),.own (.dict (hX l)),z6,z7,.no,.no]) (kt:=bO 6) (gb:=aR (eV 7 (dR 2 jU (J.ae (fun ρ=>bj ρ 0) (J.ae (g2 (g2 (fun ρ=>bh ρ 1) (fun _=>.ok (.int 70)) dO) (g2 (fun _=>.ok (.int 40)) (fun ρ=>bh ρ 6) uH) dO) J.aE)))) (Cg 5 (fun ρ=>bj ρ 7) (dR 4 iA (J.ae (fun ρ=>bj ρ 0) (J.ae (g2 (g2 (fun ρ=>bh ρ 1) (fun _=>.ok (.int 80)) dO) (g2 (fun _=>.ok (.int 40)) (fun ρ=>bh ρ 6) uH) dO) (J.ae (fun ρ=>bj ρ 4) (J.ae (fun ρ=>bj ρ 7) J.aE)))))))
 obtain ⟨ρ',h1,l,h2,h3,h4,z6,z7,h5⟩:=H (by
  rintro i bW _ ρ ⟨l,h2,h3,h4,z6,z7,rfl⟩
  simp only [aX] at h2
  have hw:=Ew ns (k + 70 + 40 * (i:Int))
  obtain ⟨e,e1,e2,e3⟩:=Kw ns (k + 80 + 40 * (i:Int)) (by omega) fs hr.ok hr.up nd hr.len (kB ns (k + 70 + 40 * (i:Int))) hw
  have pl:=Ex l (kB ns (k + 70 + 40 * (i:Int))) (cc e)
  refine ⟨[.shr (.list (ns.map .int)),.shr (.int k),.shr (.int m),.shr (.int n),.shr (aA fs),.own (.dict (hX l)),.shr (.int i),z7,.no,.no],[.shr (.list (ns.map .int)),.shr (.int k),.shr (.int m),.shr (.int n),.shr (aA fs),.own (.dict (hX (sr l (kB ns (k + 70 + 40 * (i:Int))) (cc e)))),.shr (.int i),.shr (.str (kB ns (k + 70 + 40 * (i:Int)))),.no,.no],rfl,?_,sr l (kB ns (k + 70 + 40 * (i:Int))) (cc e),by omega,?_,?_,_,_,rfl⟩
  ·walk_at "zz"
   rw [oZ (by decide) (by decide)]
   walk_at "zz"
   rw [J6 ns _ (by omega)]
   walk_at "zz"
   refine (S9 (l:=l) (x:=kB ns (k + 70 + 40 * (i:Int))) (d:=cc e) rfl ?_ rfl (by omega)).trans rfl
   walk_at "zz"
   rw [oZ (by decide) (by decide)]
   walk_at "zz"
   exact e1
  ·rw [Bc];exact Kt h3
  ·exact NU (Q:=fun x d=>∃ e,d=cc e/\qF fs e/\e.name=x) h4 ⟨e,rfl,e2,e3⟩) (bw (fi ns (k + 60) (n + 1)).toNat) () [.shr (.list (ns.map .int)),.shr (.int k),.shr (.int m),.shr (.int n),.shr (aA fs),.own (.dict (hX [])),.no,.no,.no,.no] ⟨[],by rw [f9];simp only [bQ];omega,gG,fun _ h=>(nomatch h),_,_,rfl⟩
 simp only [bQ,wN] at h2
 have t0:=fj ns (k + 61) ((l.length:Int) + 1) (by omega)
 have t1:=fV ns (k + 61) ((l.length:Int) + 1) (by omega)
 obtain ⟨t,ht⟩:∃ t:Nat,fi ns (k + 61) ((l.length:Int) + 1)=t:=⟨_,(fA t0).symm⟩
 have tl:t<=l.length:=by omega
 have pm:=Kx l t
 obtain ⟨es,k1,k2,k3⟩:=VH fs (l.drop t++l.take t) fun p hp=>h4 p (pm.mem_iff.mp hp)
 have kl:es.length=l.length:=by
  have:=congrArg sx k1
  rw [al,al,pm.length_eq] at this
  exact this.symm
 refine ⟨es,?_,hr,by omega,?_,k3⟩
 ·unfold lO bB
  walk_at "yy"
  rw [NX ns k m hk hm0 (by omega),hfs]
  walk_at "yy"
  rw [pS (ds:=(bw (fi ns (k + 60) (n + 1)).toNat).map fun (i:Nat)=>ck i)]
  ·rw [show FE []=FE (hX []) from rfl,h1,h5]
   walk_at "yy"
   rw [Ey]
   walk_at "yy"
   rw [fk ns _ _ (by omega) (by omega),ht]
   walk_at "yy"
   clear H h1
   rw [VF _ t (by simpa using tl)]
   walk_at "yy"
   rw [VG _ t (by simpa using tl)]
   walk_at "yy"
   have e1:(List.drop t (mD aP (mD (fun x=>x.fst) l))++List.take t (mD aP (mD (fun x=>x.fst) l)))=(l.drop t++l.take t).map fun p=>aP p.1:=by
    rw [ba,List.map_drop,List.map_take,cF];rfl
   rw [e1,if_pos (by rw [<- aO,e1,al,pm.length_eq];omega)]
   have pl:=pm.length_eq
   have px:∀ p∈l.drop t++l.take t,p∈l:=fun p hp=>pm.mem_iff.mp hp
   clear e1 pm k2
   generalize l.drop t++l.take t=L at pl px k1 ⊢
   walk_at "yy"
   rw [if_pos (by omega)]
   rw [dP _ (fun p:Str×D=>aP p.1) (fun p=>p.2) L fun p hp=>fM rfl (by
    walk_at "yy"
    exact O3 h3 (px p hp))]
   walk_at "yy"
   rw [e_]
   walk_at "yy"
   rw [k1]
   rfl
  ·walk_at "yy"
   rw [fk ns (k + 60) (n + 1) (by omega) (by omega)]
   walk_at "yy"
   have:=uT (fi ns (k + 60) (n + 1)).toNat (by omega)
   rw [fA m0] at this
   exact this
 ·rw [k2]
  exact ((pm.map _).nodup_iff).mpr h3
theorem Bd {α:Type} (b:α->Bool):∀ xs:List α,mH (xs.map fun x=>cH (b x))=some (xs.map b)
 | []=>rfl
 | x::r=>by
  show (mH (r.map fun x=>cH (b x))).map (b x::·)=_
  rw [Bd b r]
  rfl
theorem iC {α:Type} (k:List Bool->Bool) (b:α->Bool) (xs:List α):fI k (.list (xs.map fun x=>cH (b x)))=.ok (.bool (k (xs.map b))):=by
 have e:∀ ds,fI k (.list ds)=match mH ds with
  | some bs=>.ok (.bool (k bs))
  | none=>.no:=fun _=>rfl
 rw [e,Bd]
theorem O4 {s s':Sl}{ρ:av}{gt:av->R Bool}{ge:av->R D}{d d' y:D} (h1:gt (.shr d::.shr d'::ρ)=.ok true) (h2:ge (.shr d::.shr d'::ρ)=.ok y):ij 2 (s::s'::ρ) gt ge (.tuple [d,d'])=.ok (some y):=by
 have e:ij 2 (s::s'::ρ) gt ge (.tuple [d,d'])=Kf ((gt (.shr d::.shr d'::ρ)).bind fun b=>if b then (ge (.shr d::.shr d'::ρ)).bind fun y=>.ok (some y) else .ok none):=id rfl
 rw [e,h1,bind_ok,if_pos rfl,h2];rfl
theorem TM (x:Str):qf (.str x)=true:=id rfl
theorem O5 (i:Int):qf (.int i)=true:=id rfl
theorem xA {α:Type} (c:α->D) (h:∀ x,qf (c x)=true):∀ xs:List α,noDs (xs.map c)=true
 | []=>rfl
 | x::r=>by
  show (qf (c x) && noDs (r.map c))=true
  rw [h x,xA c h r];rfl
theorem O6 (xs:List D):qf (.tuple xs)=noDs xs:=id rfl
theorem lc (xs:List Str):qf (aA xs)=true:=by
 rw [O6]
 exact xA _ (fun _=>rfl) xs
theorem Jb (e:cS):qf (cc e)=true:=by
 have:qf (cc e)=(true && (qf (aA e.needs) && (qf (aA e.bars) && (qf (aA e.makes) && (qf (aA e.ends) && (true && true)))))):=rfl
 rw [this,lc,lc,lc,lc];rfl
theorem Sh (es:List cS):qf (.tuple (es.map cc))=true:=by
 rw [O6]
 exact xA _ Jb es
theorem QE (fs:List Str) (es:List cS):qf (cN fs es)=true:=by
 have:qf (cN fs es)=(qf (aA fs) && (qf (.tuple (es.map cc)) && true)):=rfl
 rw [this,lc,Sh];rfl
theorem TQ (x:Str):Ac "str" (.str x)=true:=id rfl
theorem yT (x:List D):Ac "tuple" (.tuple x)=true:=id rfl
theorem TU (x:Int):Ac "int" (.int x)=true:=id rfl
theorem TV (x:Int):Ac "bool" (.int x)=false:=id rfl
theorem QF:∀ c:_root_.Fin 123,97<=c.val->(!pR ⟨#[c.val]⟩ "a")=true/\(!pR "z" ⟨#[c.val]⟩)=true:=by decide +kernel
theorem Be {x:Str} (h:zM x=true):o0 [.str x]=.ok (.bool true):=by
 have hw:=h
 unfold zM at h
 simp only [aW,decide_eq_true_eq,cq] at h
 obtain ⟨⟨h1,h2⟩,h3⟩:=h
 have hl:x.length=x.cps.size:=rfl
 unfold o0
 refine cE ?_
 unfold rA bB
 walk_at "zz"
 rw [TM,TQ]
 walk_at "zz"
 rw [if_pos (by omega)]
 walk_at "zz"
 rw [decide_eq_true (by omega)]
 walk_at "zz"
 rw [decide_eq_true (by omega)]
 walk_at "zz"
 unfold nz
 walk_at "zz"
 rw [if_pos (by rw [ar];omega)]
 rw [dP _ (fun c:Nat=>aP ⟨#[c]⟩) (fun _=>cH true) x.cps.toList fun c hc=>fM rfl (by
  obtain ⟨a1,a2⟩:=h3 c hc
  obtain ⟨b1,b2⟩:=QF ⟨c,by omega⟩ a1
  walk_at "zz"
  simp only at b1 b2
  rw [b1]
  walk_at "zz"
  rw [b2])]
 walk_at "zz"
 rw [iC _ (fun _=>true)]
 walk_at "zz"
 simp
theorem EA:∀ (xs ys:List Str),wW (xs.map .str) (ys.map .str)=(xs.zip ys).map fun p=>cC [.str p.1,.str p.2]
 | [],_=>rfl
 | _::_,[]=>rfl
 | x::r,y::r'=>by
  show cC [.str x,.str y]::wW (r.map .str) (r'.map .str)=_
  rw [EA r r']
  rfl
theorem O7:∀ {l:List Str},(l.Pairwise fun a b=>pR a b=true)->∀ p∈l.zip (l.drop 1),pR p.1 p.2=true
 | [],_,p,hp=>by cases hp
 | [_],_,p,hp=>by cases hp
 | a::b::r,h,p,hp=>by
  obtain ⟨h1,h2⟩:=List.pairwise_cons.mp h
  rcases List.mem_cons.mp hp with z | z
  ·rw [z];exact h1 b ap
  ·exact O7 h2 p z
theorem QG (xs:List Str):Iq (aA xs) (some 1) none=.ok (aA (xs.drop 1)):=by
 have e:Iq (aA xs) (some 1) none=.ok (.tuple (Ab (xs.map .str) (some 1) none)):=rfl
 rw [e]
 cases xs with
 | nil=>rfl
 | cons x r =>
  rw [show (1:Int)=((1:Nat):Int) from rfl,O1 _ 1 (by simp)]
  rfl
theorem ww {xs:List Str} (hw:∀ x∈xs,zM x=true) (up:xs.Pairwise fun a b=>pR a b=true) (hl:xs.length<=6):fJ [aA xs]=.ok (.bool true):=by
 unfold fJ
 refine cE ?_
 unfold gQ bB
 walk_at "zz"
 rw [lc,yT]
 walk_at "zz"
 rw [if_pos (by omega)]
 rw [dP _ (fun x:Str=>aP x) (fun _=>cH true) xs fun x hx=>fM rfl (by
  walk_at "zz"
  rw [Be (hw x hx)])]
 walk_at "zz"
 rw [iC _ (fun _=>true)]
 walk_at "zz"
 rw [show ((xs.map fun _=>true).all id)=true by simp]
 walk_at "zz"
 rw [QG]
 walk_at "zz"
 rw [EA]
 walk_at "zz"
 rw [if_pos (by simp;omega)]
 rw [dP _ (fun p:Str×Str=>cC [.str p.1,.str p.2]) (fun _=>cH true) (xs.zip (xs.drop 1)) fun p hp=>O4 rfl (by
  walk_at "zz"
  rw [O7 up p hp])]
 walk_at "zz"
 rw [iC _ (fun _=>true)]
 walk_at "zz"
 simp
theorem iZ {fs xs:List Str} (hw:∀ x∈fs,zM x=true) (h:nD fs xs) (hl:xs.length<=6):fu [aA fs,aA xs]=.ok (.bool true):=by
 unfold fu
 refine cE ?_
 unfold mJ bB
 walk_at "zz"
 rw [ww (fun x hx=>hw x (h.mem x hx)) h.up hl]
 walk_at "zz"
 rw [if_pos (by omega)]
 rw [dP _ (fun x:Str=>aP x) (fun _=>cH true) xs fun x hx=>fM rfl (by
  walk_at "zz"
  rw [qG,decide_eq_true (h.mem x hx)]
  rfl)]
 walk_at "zz"
 rw [iC _ (fun _=>true)]
 walk_at "zz"
 simp
theorem vQ {xs ys:List Str} (h:∀ x∈xs,x∉ys) (hl:xs.length<=6):eJ [aA xs,aA ys]=.ok (.bool true):=by
 unfold eJ
 refine cE ?_
 unfold jC bB
 walk_at "zz"
 rw [if_pos (by omega)]
 rw [dP _ (fun x:Str=>aP x) (fun _=>cH false) xs fun x hx=>fM rfl (by
  walk_at "zz"
  rw [qG,decide_eq_false (h x hx)]
  rfl)]
 walk_at "zz"
 rw [iC _ (fun _=>false)]
 walk_at "zz"
 simp
theorem GQ {l i m:Int} (h0:l<=i) (h1:i<=m):oN [.int i,.int l,.int m]=.ok (.bool true):=by
 unfold oN
 refine cE ?_
 unfold oM bB
 walk_at "zz"
 rw [O5,TU]
 walk_at "zz"
 rw [O5,TV]
 walk_at "zz"
 rw [decide_eq_true h0]
 walk_at "zz"
 rw [decide_eq_true h1]
theorem CG:∀ (xs fs:List Str),xs.Nodup->(∀ x∈xs,x∈fs)->xs.length<=fs.length
 | [],_,_,_=>cW _
 | x::r,fs,nd,h=>by
  obtain ⟨n1,n2⟩:=List.nodup_cons.mp nd
  have hx:=h x ap
  have:=CG r (fs.erase x) n2 fun y hy=>(HQ fun (z:y=x)=>n1 (z ▸ hy)).mpr (h y (am _ hy))
  rw [Dj hx] at this
  have:0<fs.length:=FF hx
  rw [aX]
  omega
theorem dZ {fs xs:List Str} (h:nD fs xs) (hl:fs.length<=6):xs.length<=6:=by
 exact bE (CG xs fs (kC h.up) h.mem) hl
theorem X7 (a b c d e f g:D):Nt (ku 6 (cn (bO 2) (cn (bO 3) (cn (bO 4) (cn (bO 5) (cn (bO 6) (cn (bO 7) kW))))))) [Sl.shr a,Sl.shr (.tuple [b,c,d,e,f,g]),.no,.no,.no,.no,.no,.no] (.tuple [b,c,d,e,f,g])=.ok (.nx [Sl.shr a,Sl.shr (.tuple [b,c,d,e,f,g]),.shr b,.shr c,.shr d,.shr e,.shr f,.shr g]):=id rfl
theorem EB {fs:List Str} (hr:NV fs 6) {e:cS} (g:qF fs e):mL [aA fs,cc e]=.ok (.bool true):=by
 have l1:=dZ g.needs hr.len
 have l2:=dZ g.bars hr.len
 have l3:=dZ g.makes hr.len
 have l4:=dZ g.ends hr.len
 unfold mL
 refine cE ?_
 unfold mK bB
 walk_at "zz"
 rw [Jb]
 unfold cc
 walk_at "zz"
 rw [yT]
 walk_at "zz"
 rw [lU]
 walk_at "zz"
 rw [show decide (((6:Nat):Int)=6)=true from rfl]
 walk_at "zz"
 rw [X7]
 ·walk_at "zz"
  rw [Be g.name]
  walk_at "zz"
  rw [GQ g.p0 g.p9]
  walk_at "zz"
  have pk:=dP (ij 1 [Sl.no,Sl.shr (aA fs)] (fun x=>R.ok true) (dR 2 fu (J.ae (fun ρ=>bj ρ 1) (J.ae (fun ρ=>bj ρ 0) J.aE)))) (fun x:List Str=>aA x) (fun _=>cH true) [e.needs,e.bars,e.makes,e.ends] fun x hx=>fM rfl (by
   walk_at "zz"
   simp only [bf,aU,or_false] at hx
   rcases hx with z | z | z | z<;>rw [z]
   ·rw [iZ hr.ok g.needs l1]
   ·rw [iZ hr.ok g.bars l2]
   ·rw [iZ hr.ok g.makes l3]
   ·rw [iZ hr.ok g.ends l4])
  simp only [aG,eQ] at pk
  rw [pk]
  walk_at "zz"
  rw [show fI (fun bs=>bs.all id) (.list [.bool true,.bool true,.bool true,.bool true])=.ok (.bool true) from rfl]
  walk_at "zz"
  rw [vQ g.nb l1]
  walk_at "zz"
  rw [vQ g.me l3]
  walk_at "zz"
theorem O8 (l:List Str) (nd:l.Nodup):(dq [] l).length=l.length:=by
 have h1:=CG (dq [] l) l (ig l [] gG) fun x hx=>((iw l [] x).mp hx).elim (fun h=>nomatch h) id
 have h2:=CG l (dq [] l) nd fun x hx=>(iw l [] x).mpr (.inr hx)
 omega
theorem Ky (es:List cS) (hl:es.length<=6) (nd:(es.map (·.name)).Nodup) (s:Sl) (ρ:av) (h:(s::ρ)[2]?=some (.shr (.tuple (es.map cc)))):uM (vN 1 [] (jq (fun ρ=>bh ρ 2)) (fun _=>.ok true) (g2 (fun ρ=>bh ρ 0) (fun _=>.ok (.int 0)) a_)) (s::ρ)=.ok (.int (es.length:Nat)):=by
 have hr:bh (s::ρ) 2=.ok (.tuple (es.map cc)):=by unfold bh;rw [h]
 unfold uM vN
 rw [Tk,hr]
 walk_at "zz"
 rw [if_pos (by omega)]
 rw [dP _ cc (fun e=>aP e.name) es fun e he=>fM rfl (by
  walk_at "zz"
  rfl)]
 walk_at "zz"
 have:(es.map fun e=>aP e.name)=(es.map (·.name)).map .str:=by rw [cF];rfl
 rw [this,strsOf_map]
 simp only [yD,O8 _ nd,al]
theorem X8 (b c:D):Nt (ku 2 (cn (bO 1) (cn (bO 2) kW))) [Sl.shr (.tuple [b,c]),.no,.no] (.tuple [b,c])=.ok (.nx [Sl.shr (.tuple [b,c]),.shr b,.shr c]):=id rfl
theorem Kz {fs:List Str}{es:List cS} (g:dg fs es):rE [cN fs es]=.ok (.bool true):=by
 have l1:=g.rise.len
 have l2:=g.len
 unfold rE
 refine cE ?_
 unfold rB bB
 walk_at "zz"
 rw [QE]
 unfold cN
 walk_at "zz"
 rw [yT]
 walk_at "zz"
 rw [lU]
 walk_at "zz"
 rw [show decide (((2:Nat):Int)=2)=true from rfl]
 walk_at "zz"
 rw [X8]
 walk_at "zz"
 rw [ww g.rise.ok g.rise.up l1]
 walk_at "zz"
 rw [decide_eq_false (by omega)]
 walk_at "zz"
 rw [Sh,yT]
 walk_at "zz"
 rw [decide_eq_false (by omega)]
 walk_at "zz"
 rw [if_pos (by omega)]
 rw [dP _ cc (fun _=>cH true) es fun e he=>fM rfl (by
  walk_at "zz"
  rw [EB g.rise (g.ok e he)])]
 walk_at "zz"
 rw [iC _ (fun _=>true)]
 walk_at "zz"
 rw [show ((es.map fun _=>true).all id)=true by simp]
 walk_at "zz"
 rw [Ky es l2 g.nd _ _ rfl]
 walk_at "zz"
 rw [lU,decide_eq_true rfl]
 rfl
theorem GR {fs:List Str}{es:List cS} (g:dg fs es):rK [cN fs es]=.ok (cN fs es):=by
 unfold rK
 refine cE ?_
 unfold rJ bB
 walk_at "zz"
 rw [Kz g]
 walk_at "zz"
theorem vR {α:Type} (c:α->D) (h:∀ x,aZ (c x) (c x)=true):∀ xs:List α,dD (xs.map c) (xs.map c)=true
 | []=>by simp [dD]
 | x::r=>by simp [dD,h x,vR c h r]
theorem O9 (xs:List Str):aZ (aA xs) (aA xs)=true:=by
 simp only [aZ]
 exact vR _ (fun x=>by rw [mU];simp) xs
theorem Oa (e:cS):aZ (cc e) (cc e)=true:=by
 unfold cc
 simp only [aZ,dD,mU,decide_true,om,beq_self_eq_true,Bool.and_true]
 have h:=fun xs=>vR aP (fun x=>by rw [mU];simp) xs
 simp only [h,j3]
theorem yU {α:Type} (c:α->D):∀ xs:List α,(∀ x∈xs,(c x).canLay0=true)->c8 (xs.map c)=true
 | [],_=>rfl
 | x::r,h=>by
  have h1:=h x ap
  have h2:=yU c r fun y hy=>h y (am _ hy)
  simp only [aG,c8,h1,h2,j3]
theorem vS {α:Type} (c:α->D) (n:Nat) (h:∀ x,(c x).depth<=n):∀ xs:List α,pY (xs.map c)<=n
 | []=>by simp [pY]
 | x::r=>by
  simp only [aG,pY]
  exact Nat.max_le.mpr ⟨h x,vS c n h r⟩
theorem uW {fs xs:List Str} (hf:∀ x∈fs,zM x=true) (h:nD fs xs):c8 (xs.map .str)=true:=uU xs fun x hx=>hf x (h.mem x hx)
theorem yV {fs:List Str} (hf:∀ x∈fs,zM x=true) {e:cS} (g:qF fs e):(cc e).canLay0=true:=by
 unfold cc
 simp only [eS,c8]
 have:=xy g.name
 simp only [eS] at this
 rw [uW hf g.needs,uW hf g.bars,uW hf g.makes,uW hf g.ends,this]
 rfl
theorem KA (e:cS):(cc e).depth<=2:=by
 have h:=fun xs=>vS aP 0 (fun x=>by simp [vk]) xs
 have h1:=h e.needs
 have h2:=h e.bars
 have h3:=h e.makes
 have h4:=h e.ends
 unfold cc
 simp only [vk,pY]
 omega
theorem yW {i:Nat}{g:av->R D}{ρ:av}{ds:List D}{d:D} (hi:ρ[i]?=some (Sl.own (.list ds))) (hg:g ρ=.ok d) (hl:ds.length<1000):nA i g ρ=.ok (.nx (ρ.set i (.own (.list (ds++[d]))))):=by
 unfold nA
 simp only [hi,hg,bind_ok,if_pos hl]
theorem Ob {s s':Sl}{ρ:av}{gt:av->R Bool}{ge:av->R D}{d d' y:D}{b:Bool} (h1:gt (.shr d::.shr d'::ρ)=.ok b) (h2:b=true->ge (.shr d::.shr d'::ρ)=.ok y):ij 2 (s::s'::ρ) gt ge (.tuple [d,d'])=.ok (if b then some y else none):=by
 have e:ij 2 (s::s'::ρ) gt ge (.tuple [d,d'])=Kf ((gt (.shr d::.shr d'::ρ)).bind fun b=>if b then (ge (.shr d::.shr d'::ρ)).bind fun y=>.ok (some y) else .ok none):=id rfl
 rw [e,h1,bind_ok]
 cases b with
 | true=>rw [if_pos rfl,h2 rfl];rfl
 | false=>rfl
theorem Bf:∀ (xs:List Str) (n:Nat),(mW n xs).length=xs.length
 | [],_=>rfl
 | x::r,n=>by
  show (mW (n + 1) r).length + 1=r.length + 1
  rw [Bf r]
theorem QH (ns:List Int) (k:Int) (hk:0<=k) (fs:List Str) (hl:fs.length<=6) (m:Int):∃ ss:List Str,oR [.list (ns.map .int),.int k,aA fs,.int m]=.ok (aA ss)/\ss.Sublist fs:=by
 refine ⟨((mW 0 fs).filter fun q=>decide (fi ns (k + (q.1:Int)) 12<m)).map (·.2),?_,?_⟩
 ·unfold oR
  refine cE ?_
  unfold oQ bB
  walk_at "zz"
  rw [xz]
  walk_at "zz"
  rw [if_pos (by rw [Bf];omega)]
  rw [dH _ cI (fun q=>aP q.2) (fun q=>decide (fi ns (k + (q.1:Int)) 12<m)) (mW 0 fs) fun q hq=>Ob (by
   walk_at "zz"
   rw [fk ns _ 12 (by omega) (by decide)]
   walk_at "zz") fun _=>rfl]
  walk_at "zz"
  rw [e_]
  walk_at "zz"
  unfold aA
  rw [cF]
  rfl
 ·have:=(ub (l:=mW 0 fs) (p:=fun q=>decide (fi ns (k + (q.1:Int)) 12<m))).map (·.2)
  rw [rO] at this
  exact this
theorem GS {fs xs:List Str} (up:fs.Pairwise fun a b=>pR a b=true) (h:xs.Sublist fs):nD fs xs:=⟨up.sublist h,fun x hx=>h.subset hx⟩
structure kR (fs m b:List Str):Prop where
 must:nD fs m
 bars:nD fs b
 mb:∀ x∈m,x∉b
abbrev hZ (m b:List Str):D:=.tuple [aA m,aA b]
theorem Jc (p:List Str) (x:Str):p.map aP++[aP x]=(p++[x]).map .str:=by simp
theorem QI (ns:List Int) (k:Int) (hk:0<=k) (fs:List Str) (up:fs.Pairwise fun a b=>pR a b=true) (hl:fs.length<=6):∃ m b,tE [.list (ns.map .int),.int k,aA fs]=.ok (hZ m b)/\kR fs m b:=by
 have nd:=kC up
 suffices H:∃ p q,lQ (bB 8 [.list (ns.map .int),.int k,aA fs])=.ok (.rt (hZ p q))/\nE fs p q by
  obtain ⟨p,q,h1,h2⟩:=H
  exact ⟨p,q,cE h1,GS up h2.sp,GS up h2.sq,h2.d⟩
 unfold lQ bB
 walk_at "yy"
 rw [pS (ds:=(mW 0 fs).map cI)]
 ·have H:=qD cI (fun (a:Unit) (_:Nat×Str)=>a) (fun bW _ ρ=>∃ pre,pre++bW.map (·.2)=fs/\∃ p q,nE pre p q/\∃ z5 z6 z7,ρ=[.shr (.list (ns.map .int)),.shr (.int k),.shr (aA fs),.own (.list (p.map .str)),.own (.list (q.map .str)),z5,z6,z7]) (kt:=ku 2 (cn (bO 5) (cn (bO 6) kW))) (gb:=aR (eV 7 (dR 3 bq (J.ae (fun ρ=>bj ρ 0) (J.ae (g2 (fun ρ=>bh ρ 1) (fun ρ=>bh ρ 5) dO) (J.ae (fun _=>.ok (.int 8)) J.aE))))) (eM (eZ (g2 (fun ρ=>bh ρ 7) (fun _=>.ok (.int 2)) A9)) (nA 3 (fun ρ=>bj ρ 6)) (eM (eZ (g2 (fun ρ=>bh ρ 7) (fun _=>.ok (.int 2)) (lI false))) (nA 4 (fun ρ=>bj ρ 6)) (fun ρ=>.ok (.nx ρ)))))
  obtain ⟨ρ',h1,pre,h2,p,q,h3,z5,z6,z7,h4⟩:=H (by
   rintro ⟨i,x⟩ bW _ ρ ⟨pre,h2,p,q,h3,z5,z6,z7,rfl⟩
   have hx:x∉pre:=by
    rw [<- h2,aG] at nd
    have:=(List.nodup_append.mp nd).2.2
    intro hx
    exact this x hx x ap rfl
   have hpl:pre.length<900:=by
    have:=congrArg sx h2
    rw [aO] at this
    omega
   have lp:=h3.sp.length_le
   have lq:=h3.sq.length_le
   refine ⟨[.shr (.list (ns.map .int)),.shr (.int k),.shr (aA fs),.own (.list (p.map .str)),.own (.list (q.map .str)),.shr (.int (i:Nat)),.shr (.str x),z7],?_⟩
   by_cases c1:fi ns (k + (i:Nat)) 8<2
   ·refine ⟨[.shr (.list (ns.map .int)),.shr (.int k),.shr (aA fs),.own (.list ((p++[x]).map .str)),.own (.list (q.map .str)),.shr (.int (i:Nat)),.shr (.str x),.shr (.int (fi ns (k + (i:Nat)) 8))],rfl,?_,pre++[x],by rw [<- h2];simp,_,_,h3.left x hx,_,_,_,rfl⟩
    walk_at "zz"
    rw [fk ns _ 8 (by omega) (by decide)]
    walk_at "zz"
    rw [decide_eq_true c1]
    walk_at "zz"
    rw [<- Jc]
    exact yW (ds:=p.map .str) rfl rfl (by rw [al];omega)
   ·by_cases c2:fi ns (k + (i:Nat)) 8=2
    ·refine ⟨[.shr (.list (ns.map .int)),.shr (.int k),.shr (aA fs),.own (.list (p.map .str)),.own (.list ((q++[x]).map .str)),.shr (.int (i:Nat)),.shr (.str x),.shr (.int (fi ns (k + (i:Nat)) 8))],rfl,?_,pre++[x],by rw [<- h2];simp,_,_,h3.right x hx,_,_,_,rfl⟩
     walk_at "zz"
     rw [fk ns _ 8 (by omega) (by decide)]
     walk_at "zz"
     rw [decide_eq_false c1]
     walk_at "zz"
     rw [lU]
     walk_at "zz"
     rw [decide_eq_true c2]
     walk_at "zz"
     rw [<- Jc]
     exact yW (ds:=q.map .str) rfl rfl (by rw [al];omega)
    ·refine ⟨[.shr (.list (ns.map .int)),.shr (.int k),.shr (aA fs),.own (.list (p.map .str)),.own (.list (q.map .str)),.shr (.int (i:Nat)),.shr (.str x),.shr (.int (fi ns (k + (i:Nat)) 8))],rfl,?_,pre++[x],by rw [<- h2];simp,_,_,h3.skip x,_,_,_,rfl⟩
     walk_at "zz"
     rw [fk ns _ 8 (by omega) (by decide)]
     walk_at "zz"
     rw [decide_eq_false c1]
     walk_at "zz"
     rw [lU]
     walk_at "zz"
     rw [decide_eq_false c2]
     walk_at "zz") (mW 0 fs) () [.shr (.list (ns.map .int)),.shr (.int k),.shr (aA fs),.own (.list []),.own (.list []),.no,.no,.no] ⟨[],by rw [rO];rfl,[],[],⟨eG _,eG _,fun _ h=>nomatch h⟩,_,_,_,rfl⟩
  refine ⟨p,q,?_,?_⟩
  ·rw [h1,h4]
   walk_at "zz"
   rw [e_]
   walk_at "zz"
   rw [e_]
   walk_at "zz"
  ·simp only [eQ,bT] at h2
   rw [<- h2];exact h3
 ·walk_at "zz"
  rw [xz]
theorem TW (j:Int) (h0:0<=j) (h1:j<2):∃ m:Int,a_ (.list [.int 2,.int 4]) (.int j)=.ok (.int m):=by
 have:j=0\/j=1:=by omega
 rcases this with h | h<;>subst h
 ·exact ⟨2,rfl⟩
 ·exact ⟨4,rfl⟩
theorem GT (fs:List Str) (es:List cS):a_ (cN fs es) (.int 0)=.ok (aA fs):=id rfl
theorem EC (fs:List Str) (es:List cS):a_ (cN fs es) (.int 1)=.ok (.tuple (es.map cc)):=id rfl
theorem QJ (ns:List Int) (m n:Int) (hm0:0<=m) (hm:m<=6) (hn0:0<=n) (hn:n<=6):∃ fs es ss wm wb,lR [.list (ns.map .int),.int m,.int n]=.ok (.tuple [cN fs es,aA ss,hZ wm wb])/\dg fs es/\nD fs ss/\kR fs wm wb:=by
 obtain ⟨fs,es,hb,gb⟩:=QD ns 100 (by decide) m n hm0 hm hn0 hn
 obtain ⟨pt,hp⟩:=TW (fi ns 97 2) (fj _ _ _ (by decide)) (fV _ _ _ (by decide))
 obtain ⟨ss,hs,gs⟩:=QH ns 20 (by decide) fs gb.rise.len pt
 obtain ⟨wm,wb,hw,gw⟩:=QI ns 30 (by decide) fs gb.rise.up gb.rise.len
 refine ⟨fs,es,ss,wm,wb,?_,gb,GS gb.rise.up gs,gw⟩
 unfold lR
 refine cE ?_
 unfold oU bB
 walk_at "zz"
 rw [hb]
 walk_at "zz"
 rw [GT]
 walk_at "zz"
 rw [fk ns 97 2 (by decide) (by decide)]
 walk_at "zz"
 rw [hp]
 walk_at "zz"
 rw [hs]
 walk_at "zz"
 rw [GT]
 walk_at "zz"
 rw [hw]
 walk_at "zz"
theorem Oc {xs ys:List Str} (hl:xs.length<=60):eJ [aA xs,aA ys]=.ok (.bool (!xs.any fun x=>decide (x∈ys))):=by
 unfold eJ
 refine cE ?_
 unfold jC bB
 walk_at "zz"
 rw [if_pos (by omega)]
 rw [dP _ (fun x:Str=>aP x) (fun x=>cH (decide (x∈ys))) xs fun x hx=>fM rfl (by
  walk_at "zz"
  rw [qG]
  rfl)]
 walk_at "zz"
 rw [iC _ (fun x=>decide (x∈ys))]
 walk_at "zz"
 rw [qe]
 rfl
theorem Si (neg:Bool) (xs:List Str):ym neg (aA xs) .none=.ok (.bool neg):=by cases neg<;>rfl
theorem Od (neg:Bool):ym neg .none .none=.ok (.bool (!neg)):=by cases neg<;>rfl
theorem GU (e:cS):a_ (cc e) (.int 0)=.ok (.str e.name):=id rfl
theorem X9 (e:cS):a_ (cc e) (.int 3)=.ok (aA e.makes):=id rfl
theorem Xa (e:cS):a_ (cc e) (.int 4)=.ok (aA e.ends):=id rfl
theorem VI (e:cS):Iq (cc e) (some 1) (some 3)=.ok (hZ e.needs e.bars):=id rfl
theorem QK (x:Str) (gs:av->R (List D)) (s:Sl) (ρ:av) {ds:List D} (h:gs (s::ρ)=.ok ds) (hl:ds.length<=1000):oK x gs (s::ρ)=.ex x none:=by unfold oK;rw [h,bind_ok,if_pos hl]
theorem Oe (wh:Str->Option Nat) (F:List D->R D) (ds:List D):yG wh F ds=B3 wh (F ds):=id rfl
theorem QL (wh:Str->Option Nat) (d:D):B3 wh (.ok d)=.ok d:=id rfl
theorem QM {wh:Str->Option Nat}{y:Str}{j:Nat} (h:wh y=some j):B3 wh (.ex y none)=.ok (.tuple [.str "refused",.int (j:Nat)]):=by simp only [B3,h]
theorem oz {xs:List D}{j:Nat}{v:D} (h:xs[j]?=some v):a_ (.list xs) (.int (j:Nat))=.ok v:=by
 have e:a_ (.list xs) (.int (j:Nat))=DY (.list xs) (.int (j:Nat)):=rfl
 rw [e]
 unfold DY
 simp only [ur h]
def VJ:R D->Bool
 | .ok (.bool b)=>b
 | _=>false
theorem QN {r:R D} (h:VJ r=true):r=.ok (.bool true):=by
 unfold VJ at h
 split at h
 ·rw [h]
 ·cases h
theorem Xb (a x y z:D) (r:av):Nt (ku 3 (cn (bO 1) (cn (bO 2) (cn (bO 3) kW)))) (Sl.shr a::.no::.no::.no::r) (.tuple [x,y,z])=.ok (.nx (.shr a::.shr x::.shr y::.shr z::r)):=id rfl
def cg (st a b:List Str):Bool:=(a.all fun x=>decide (x∈st)) && !b.any fun x=>decide (x∈st)
theorem Xc (m b:List Str):a_ (hZ m b) (.int 0)=.ok (aA m):=id rfl
theorem Xd (m b:List Str):a_ (hZ m b) (.int 1)=.ok (aA b):=id rfl
theorem CH {st a b:List Str} (ha:a.length<=60) (hb:b.length<=60):il [aA st,hZ a b]=.ok (.bool (cg st a b)):=by
 unfold il
 refine cE ?_
 unfold oV bB
 walk_at "zz"
 rw [Xc]
 walk_at "zz"
 rw [if_pos (by omega)]
 rw [dP _ (fun x:Str=>aP x) (fun x=>cH (decide (x∈st))) a fun x hx=>fM rfl (by
  walk_at "zz"
  rw [qG]
  rfl)]
 walk_at "zz"
 rw [iC _ (fun x=>decide (x∈st))]
 walk_at "zz"
 rw [Xd]
 walk_at "zz"
 rw [if_pos (by omega)]
 rw [dP _ (fun x:Str=>aP x) (fun x=>cH (decide (x∈st))) b fun x hx=>fM rfl (by
  walk_at "zz"
  rw [qG]
  rfl)]
 walk_at "zz"
 rw [iC _ (fun x=>decide (x∈st))]
 walk_at "zz"
 unfold cg
 rw [mf,qe]
 have e:(id∘fun x=>decide (x∈st))=fun x=>decide (x∈st):=rfl
 rw [e]
 cases (a.all fun x=>decide (x∈st))<;>rfl
theorem yX {n:Nat}{g:av->R Fl}{ds:List D}{ρ:av} (h:g (bB n ds)=.ok (.nx ρ)):eI n g ds=.ok .none:=by unfold eI;rw [h]
theorem VL (a x y:D):Nt (ku 2 (cn (bO 2) (cn (bO 3) kW))) [Sl.shr a,.shr (.tuple [x,y]),.no,.no] (.tuple [x,y])=.ok (.nx [.shr a,.shr (.tuple [x,y]),.shr x,.shr y]):=id rfl
theorem tF {st a b:List Str} (ha:a.length<=60) (hb:b.length<=60):lz [aA st,hZ a b]=.ok (.bool (cg st a b)):=by
 unfold lz
 refine cE ?_
 unfold rH bB hZ
 walk_at "zz"
 rw [VL]
 walk_at "zz"
 rw [if_pos (by omega)]
 rw [dP _ (fun x:Str=>aP x) (fun x=>cH (decide (x∈st))) a fun x hx=>fM rfl (by
  walk_at "zz"
  rw [qG]
  rfl)]
 walk_at "zz"
 rw [iC _ (fun x=>decide (x∈st))]
 walk_at "zz"
 rw [Oc (by omega)]
 unfold cg
 rw [mf]
 have e:(id∘fun x=>decide (x∈st))=fun x=>decide (x∈st):=rfl
 rw [e]
 cases (a.all fun x=>decide (x∈st))<;>rfl
theorem KB {fs ss:List Str}{es:List cS} (g:dg fs es) (h:nD fs ss):kd [cN fs es,aA ss]=.ok .none:=by
 unfold kd
 refine yX (ρ:=[.shr (cN fs es),.shr (aA ss)]) ?_
 unfold kc bB
 walk_at "zz"
 rw [GT]
 walk_at "zz"
 rw [iZ g.rise.ok h (dZ h g.rise.len)]
 walk_at "zz"
theorem Of {fs ss:List Str}{es:List cS} (g:dg fs es) (h:nD fs ss):kg [cN fs es,aA ss]=.ok .none:=by
 unfold kg
 refine yX (ρ:=[.shr (cN fs es),.shr (aA ss)]) ?_
 unfold ke bB
 walk_at "zz"
 rw [GR g]
 walk_at "zz"
 rw [KB g h]
 walk_at "zz"
theorem Og {fs:List Str}{es:List cS}{x y:D}{p q r:Bool} (n:qf (.tuple [x,y])=true) (hx:fu [aA fs,x]=.ok (.bool p)) (hy:p=true->fu [aA fs,y]=.ok (.bool q)) (hs:p=true->q=true->eJ [x,y]=.ok (.bool r)):rG [cN fs es,.tuple [x,y]]=.ok (.bool (p && (q && r))):=by
 unfold rG
 refine cE ?_
 unfold rF bB
 walk_at "zz"
 rw [n,yT]
 walk_at "zz"
 rw [lU]
 walk_at "zz"
 rw [show decide (((2:Nat):Int)=2)=true from rfl]
 walk_at "zz"
 rw [VL]
 walk_at "zz"
 rw [GT]
 walk_at "zz"
 rw [hx]
 cases p with
 | false=>rfl
 | true =>
  walk_at "zz"
  rw [GT]
  walk_at "zz"
  rw [hy rfl]
  cases q with
  | false=>rfl
  | true =>
   walk_at "zz"
   rw [hs rfl rfl]
   cases r<;>rfl
theorem Oh {fs m b:List Str}{es:List cS} (g:dg fs es) (h:kR fs m b):kZ [cN fs es,hZ m b]=.ok .none:=by
 have n:qf (hZ m b)=true:=by
  have:qf (hZ m b)=(qf (aA m) && (qf (aA b) && true)):=rfl
  rw [this,lc,lc];rfl
 have l1:=dZ h.must g.rise.len
 have l2:=dZ h.bars g.rise.len
 unfold kZ
 refine yX (ρ:=[.shr (cN fs es),.shr (hZ m b)]) ?_
 unfold kY bB
 walk_at "zz"
 rw [Og n (iZ g.rise.ok h.must l1) (fun _=>iZ g.rise.ok h.bars l2) (fun _ _=>vQ h.mb l1)]
 walk_at "zz"
 rfl
theorem GV {fs ss m b:List Str}{es:List cS} (g:dg fs es) (h:nD fs ss) (w:kR fs m b):kz [cN fs es,aA ss,hZ m b]=.ok .none:=by
 unfold kz
 refine yX (ρ:=[.shr (cN fs es),.shr (aA ss),.shr (hZ m b)]) ?_
 unfold mP bB
 walk_at "zz"
 rw [Of g h]
 walk_at "zz"
 rw [Oh g w]
 walk_at "zz"
theorem Oi (xs:List D):ka (.tuple xs)=.ok (.list xs):=id rfl
structure Jd (e:cS):Prop where
 needs:e.needs.length<=6
 bars:e.bars.length<=6
 makes:e.makes.length<=6
 ends:e.ends.length<=6
theorem o7 {fs:List Str}{es:List cS} (g:dg fs es) {e:cS} (he:e∈es):Jd e :=
 ⟨dZ (g.ok e he).needs g.rise.len,dZ (g.ok e he).bars g.rise.len,dZ (g.ok e he).makes g.rise.len,dZ (g.ok e he).ends g.rise.len⟩
theorem Xe (e:cS):a_ (cc e) (.int 1)=.ok (aA e.needs):=id rfl
theorem Xg (e:cS):a_ (cc e) (.int 2)=.ok (aA e.bars):=id rfl
def Bg (e:cS) (st:List Str):Option (List Str):=if cg st e.needs e.bars then some (Dl ((st.filter fun x=>!decide (x∈e.ends))++e.makes)) else none
def Oj:Option (List Str)->D
 | none=>.none
 | some s=>aA s
theorem uX {e:cS} (he:Jd e) {st:List Str} (hs:st.length<=30):dY [cc e,aA st]=.ok (Oj (Bg e st)):=by
 have:=he.needs
 have:=he.bars
 have:=he.makes
 unfold dY
 refine cE ?_
 unfold oW bB
 walk_at "zz"
 rw [VI]
 walk_at "zz"
 rw [CH (by omega) (by omega)]
 walk_at "zz"
 unfold Bg
 cases hg:cg st e.needs e.bars with
 | false =>
  walk_at "zz"
  rfl
 | true =>
  walk_at "zz"
  rw [if_pos (by omega)]
  rw [dH _ (fun x:Str=>aP x) (fun x=>aP x) (fun x=>!decide (x∈e.ends)) st fun x hx=>jA (by
   walk_at "zz"
   rw [Xa]
   walk_at "zz"
   rw [qG]
   rfl) fun _=>rfl]
  have hf:(st.filter fun x=>!decide (x∈e.ends)).length<=st.length:=cX _ _
  walk_at "zz"
  rw [vP,J9]
  walk_at "zz"
  rw [X9]
  walk_at "zz"
  rw [Oi]
  walk_at "zz"
  rw [if_pos (by omega)]
  walk_at "zz"
  rw [<- ba,yR _ (by rw [aO];omega)]
  walk_at "zz"
  rw [yS _ (by have:=fU ((st.filter fun x=>!decide (x∈e.ends))++e.makes) [];simp only [bQ,aO] at this;omega)]
  walk_at "zz"
  rw [e_]
  rfl
theorem Ol:∀ {a b:List Str},(a.Pairwise fun x y=>pR x y=true)->(b.Pairwise fun x y=>pR x y=true)->(∀ x,x∈a↔x∈b)->a=b:=by
 intro a b ha hb h
 have na:=kC ha
 have nb:=kC hb
 have p:a.Perm b:=(mC na nb).mpr h
 exact p.eq_of_pairwise (fun x y _ _ h1 h2=>by
  have:=rh h1 h2
  rw [t5] at this
  cases this) ha hb
def bz (e:cS) (st:List Str):List Str:=Dl ((st.filter fun x=>!decide (x∈e.ends))++e.makes)
theorem GW {e:cS}{st:List Str}{x:Str}:x∈bz e st↔(x∈st/\x∉e.ends)\/x∈e.makes:=by
 unfold bz
 rw [mV]
 simp [Pi]
theorem rP (e:cS) (st:List Str):Bg e st=if cg st e.needs e.bars then some (bz e st) else none:=rfl
theorem Bh (s:List Str):Oj (some s)=aA s:=rfl
theorem Bj:Oj none=.none:=rfl
theorem VM (ga gb:av->R (List Str)) (s:Sl) (ρ:av) {xs ys:List Str} (h1:ga (s::ρ)=.ok xs) (h2:gb (s::ρ)=.ok ys) (hl:xs.length + ys.length<=15):NH ga gb (s::ρ)=.ok (dq xs ys):=by
 unfold NH J.Tp
 rw [h1,bind_ok,h2,bind_ok,if_pos hl]
theorem Bk (ss:List Str) (h:ss.length<60):tm (aA ss)=.ok (dq [] ss):=by
 have e:∀ ds,tm (.tuple ds)=match gd ds with
  | some ss=>if ss.length<60 then .ok (dq [] ss) else .no
  | none=>.no:=fun _=>rfl
 rw [e,strsOf_map]
 simp only [if_pos h]
theorem TX (xs ys:List Str):jx (dq (dq [] xs) (dq [] ys))=Dl (xs++ys):=by
 refine Ol (vI (qu _) ((gP _).nodup_iff.mpr (ig _ _ (ig _ [] gG)))) (GP _) fun x=>?_
 rw [(gP _).mem_iff,iw,iw,iw,mV,zK]
 simp
theorem KC {xs ys:List Str} (h:xs.length + ys.length<=12):uS [aA xs,aA ys]=.ok (aA (Dl (xs++ys))):=by
 have l1:=fU xs []
 have l2:=fU ys []
 simp only [bQ] at l1 l2
 have l3:=fU (dq [] ys) (dq [] xs)
 unfold uS
 refine cE ?_
 unfold uR bB
 walk_at "zz"
 rw [vP,VM _ _ _ _ (Bk xs (by omega)) (Bk ys (by omega)) (by omega)]
 walk_at "zz"
 rw [yS _ (by omega),TX]
 walk_at "zz"
 rw [e_]
 walk_at "zz"
theorem GX {xs ys:List Str} (h:xs.length<=60):rz [aA xs,aA ys]=.ok (aA (xs.filter fun x=>!decide (x∈ys))):=by
 unfold rz
 refine cE ?_
 unfold rq bB
 walk_at "zz"
 rw [if_pos (by omega)]
 rw [dH _ (fun x:Str=>aP x) (fun x=>aP x) (fun x=>!decide (x∈ys)) xs fun x hx=>jA (by
  walk_at "zz"
  rw [qG]
  rfl) fun _=>rfl]
 walk_at "zz"
 rw [e_]
 walk_at "zz"
theorem VN {i j:Nat}{gs:av->R (List D)}{s:Sl}{ρ:av}{d e:D} (h:gs (s::ρ)=.ok [d,e]):NI i j gs (s::ρ)=.ok (.nx (((s::ρ).set i (.shr d)).set j (.shr e))):=by
 unfold NI
 rw [h]
 rfl
theorem KD {e:cS} (he:Jd e) {st:List Str} (hs:st.length<=6):jE [cc e,aA st]=.ok (aA (bz e st)):=by
 have:=he.makes
 have hf:(st.filter fun x=>!decide (x∈e.ends)).length<=st.length:=cX _ _
 unfold jE
 refine cE ?_
 unfold jD bB
 walk_at "zz"
 rw [VN (d:=aA e.makes) (e:=aA e.ends) rfl]
 walk_at "zz"
 rw [GX (by omega)]
 walk_at "zz"
 rw [KC (by omega)]
 rfl
theorem KG {e:cS} (he:Jd e) {st:List Str}:mO [cc e,aA st]=.ok (.bool (cg st e.needs e.bars)):=by
 have:=he.needs
 have:=he.bars
 unfold mO
 refine cE ?_
 unfold mM bB
 walk_at "zz"
 rw [Xe]
 walk_at "zz"
 rw [Xg]
 walk_at "zz"
 rw [tF (by omega) (by omega)]
 walk_at "zz"
structure Wa (es rs:List cS):Prop where
 mem:∀ e∈rs,e∈es
 len:rs.length<=20
abbrev gf (rs:List cS):D:=.list (rs.map fun e=>aP e.name)
theorem CI:Td (.int 1)=.ok (.int (-1)):=rfl
theorem Om (g:av->R D) (s:Sl) (ρ:av):E9 g (s::ρ)=(g (s::ρ)).bind Td:=id rfl
theorem uY {kt:D->av->R av}{gb:av->R Fl}{d:D}{r:List D}{ρ ρ1 ρ2:av} (h1:kt d ρ=.ok ρ1) (h2:gb ρ1=.ok (.nx ρ2)):iY kt gb (d::r) ρ=iY kt gb r ρ2:=by
 rw [iY,h1]
 simp only [h2]
theorem Je {kt:D->av->R av}{gb:av->R Fl}{d x:D}{r:List D}{ρ ρ1:av} (h1:kt d ρ=.ok ρ1) (h2:gb ρ1=.ok (.rt x)):iY kt gb (d::r) ρ=.ok (.rt x):=by
 rw [iY,h1]
 simp only [h2]
def TY (fs:List Str):List (List Str):=fs.foldl (fun acc f=>acc++acc.map (·++[f])) [[]]
theorem TZ {i:Nat}{kt:D->av->R av}{gb:av->R Fl}{ρ:av}{d:D} (h:ρ[i]?=some (Sl.shr d)):uK i kt gb ρ=lK (jq fun ρ=>bj ρ i) kt gb ρ:=by
 unfold uK
 rw [h]
theorem CJ {xs:List Str} (h:∀ x∈xs,zM x=true) (neg:Bool):lI neg (.list (xs.map .str)) (.list (xs.map .str))=.ok (.bool (!neg)):=by
 have e:∀ ds es:List D,aZ (.list ds) (.list es)=aZ (.tuple ds) (.tuple es):=fun _ _=>rfl
 have h1:(fB (xs.map .str)).canLay0=true:=by simp only [eS];exact uU xs h
 have h2:(fB (xs.map .str)).depth<=60:=by
  have:=vS aP 0 (fun x=>by simp [vk]) xs
  simp only [vk]
  omega
 unfold lI
 rw [h1,e,O9,decide_eq_true (bE (Nat.min_le_left _ _) h2)]
 cases neg<;>rfl
theorem CK:∀ (fs:List Str) (acc:List (List Str)) (t u:List Str),t∈acc->u.Sublist fs->t++u∈fs.foldl (fun acc f=>acc++acc.map (·++[f])) acc
 | [],acc,t,u,ht,hu=>by
  cases hu
  rw [bT]
  exact ht
 | f::r,acc,t,u,ht,hu=>by
  rw [dM]
  cases hu with
  | cons _ h=>exact CK r _ t u (bP _ ht) h
  | cons_cons _ h =>
   rename_i u'
   have:=CK r (acc++acc.map (·++[f])) (t++[f]) u' (aM _ (bt ht)) h
   rwa [ib] at this
theorem On {fs xs:List Str} (hf:fs.Pairwise fun a b=>pR a b=true) (h:nD fs xs):xs.Sublist fs:=by
 have e:xs=fs.filter fun x=>decide (x∈xs):=Ol h.up (hf.sublist ub) fun x=>by
  rw [Pi,decide_eq_true_eq]
  exact ⟨fun z=>⟨h.mem x z,z⟩,fun z=>z.2⟩
 rw [e]
 exact ub
theorem Oo {fs xs:List Str} (hf:fs.Pairwise fun a b=>pR a b=true) (h:nD fs xs):xs∈TY fs:=CK fs [[]] [] xs (List.mem_singleton.mpr rfl) (On hf h)
def o_:List cS->List Str->Option (List Str)
 | [],st=>some st
 | e::r,st=>if cg st e.needs e.bars then o_ r (bz e st) else none
def qH:List cS->List Str->List (List Str)
 | [],st=>[st]
 | e::r,st=>if cg st e.needs e.bars then st::qH r (bz e st) else [st]
def p7 (st m b:List Str) (rs:List cS):Bool:=match o_ rs st with
 | some s=>cg s m b
 | none=>false
theorem pc {fs st:List Str}{e:cS} (hf:fs.Pairwise fun a b=>pR a b=true) (g:qF fs e) (h:nD fs st):nD fs (bz e st):=by
 refine ⟨GP _,fun x hx=>?_⟩
 rcases GW.mp hx with z | z
 ·exact h.mem x z.1
 ·exact g.makes.mem x z
theorem yY:∀ (rs:List cS) (st s:List Str),o_ rs st=some s->∃ pre,qH rs st=pre++[s]
 | [],st,s,h=>by cases h;exact ⟨[],rfl⟩
 | e::r,st,s,h=>by
  unfold o_ at h
  unfold qH
  cases hg:cg st e.needs e.bars with
  | true =>
   rw [hg,if_pos rfl] at h
   rw [if_pos rfl]
   obtain ⟨pre,hp⟩:=yY r _ _ h
   exact ⟨st::pre,by rw [hp];rfl⟩
  | false=>rw [hg] at h;cases h
theorem Jf (xs:List D) (x:D):a_ (.list (xs++[x])) (.int (-1))=.ok x:=by
 have e:a_ (.list (xs++[x])) (.int (-1))=DY (.list (xs++[x])) (.int (-1)):=rfl
 rw [e]
 unfold DY
 have:Dy (xs++[x]) (-1)=some x:=by
  unfold Dy Rf
  rw [if_neg (by decide),if_pos (by simp only [aO,aX,bQ];omega)]
  have hj:(-1 + ((xs++[x]).length:Int)).toNat=xs.length:=by simp only [aO,aX,bQ];omega
  simp only [oj,hj]
  rw [bn (au _)]
  simp
 simp only [this]
theorem QO (neg:Bool) (ds:List D) (h:c8 ds=true):lI neg (.list ds) (.list [])=.ok (.bool (neg != decide (ds=[]))):=by
 unfold lI
 have h1:(fB ds).canLay0=true:=by simp only [eS];exact h
 have h3:min (fB ds).depth (fB []).depth<=60:=bE (pW _ _) (by decide)
 have h4:aZ (.list ds) (.list [])=decide (ds=[]):=by
  cases ds with
  | nil=>rfl
  | cons x r=>simp [aZ,dD]
 rw [h1,show (fB []).canLay0=true from rfl,decide_eq_true h3,h4]
 cases neg<;>cases decide (ds=[])<;>rfl
theorem CL (ds:List D) (h:c8 ds=true):lI false (.list ds) (.list [])=.ok (.bool (decide (ds=[]))):=by rw [QO false ds h,Bool.false_bne]
theorem Op (neg:Bool) (o:Option (List Str)):ym neg (Oj o) .none=.ok (.bool (neg == o.isSome)):=by cases o<;>cases neg<;>rfl
theorem QP {L:List cS}{j:Int} (h0:0<=j) (h1:j<(L.length:Nat)):∃ e∈L,a_ (.list (L.map cc)) (.int j)=.ok (cc e):=by
 obtain ⟨n,rfl⟩:=pX h0
 have hn:n<L.length:=by omega
 refine ⟨L[n],gH hn,oz ?_⟩
 rw [aN,aQ hn]
 rfl
theorem GY (e:cS) (st:List Str):(Bg e st).isSome=cg st e.needs e.bars:=by
 unfold Bg
 cases cg st e.needs e.bars<;>rfl
theorem Bl {fs:List Str}{es:List cS} (g:dg fs es) (ns:List Int) (at0:Int) (h0:0<=at0) (M:D):∀ (ks:List Nat) (rs:List cS) (st:List Str) (z7 z8 z9:Sl),(∀ e∈rs,e∈es)->nD fs st->rs.length + ks.length<=20 ->
  ∃ rs',Wa es rs'/\(iY (bO 6) (aR (eO 7 (dS 1 [3] (jq (g2 (fun ρ=>bh ρ 2) (fun _=>.ok (.int 1)) a_)) (eZ (g2 (dR 2 dY (J.ae (fun ρ=>bj ρ 0) (J.ae (fun ρ=>bj ρ 1) J.aE))) (fun _=>.ok .none) (ym true))) (fun ρ=>bj ρ 0))) (aR (eM (eZ (g2 (fun ρ=>bh ρ 7) (e8 J.aE .list) (lI false))) (cG (fun ρ=>bj ρ 5)) (fun ρ=>.ok (.nx ρ))) (aR (eV 8 (g2 (fun ρ=>bh ρ 7) (dR 3 bq (J.ae (fun ρ=>bj ρ 0) (J.ae (g2 (fun ρ=>bh ρ 1) (fun ρ=>bh ρ 6) dO) (J.ae (c7 (J.ae (fun ρ=>bh ρ 7) J.aE) (i6 jS)) J.aE)))) a_)) (aR (nA 5 (g2 (fun ρ=>bh ρ 8) (fun _=>.ok (.int 0)) a_)) (eV 3 (dR 2 dY (J.ae (fun ρ=>bj ρ 8) (J.ae (fun ρ=>bj ρ 3) J.aE)))))))) (ks.map fun (i:Nat)=>ck (i:Int)) [.shr (.list (ns.map .int)),.shr (.int at0),.shr (cN fs es),.shr (aA st),.shr M,.own (gf rs),z7,z8,z9]).bind (Kk (cG fun ρ=>bj ρ 5))=.ok (.rt (gf rs'))
 | [],rs,st,z7,z8,z9,hm,hs,hl=>by
  refine ⟨rs,⟨hm,by simpa using hl⟩,?_⟩
  rw [eQ,iY]
  walk_at "zz"
 | k::ks,rs,st,z7,z8,z9,hm,hs,hl=>by
  have ls:=dZ hs g.rise.len
  have lg:=g.len
  simp only [aX] at hl
  let L:=es.filter fun e=>cg st e.needs e.bars
  have hL:∀ e∈L,e∈es/\cg st e.needs e.bars=true:=fun e he=>List.mem_filter.mp he
  have hc:∀ (z:Sl),dS 1 [3] (jq (g2 (fun ρ=>bh ρ 2) (fun _=>.ok (.int 1)) a_)) (eZ (g2 (dR 2 dY (J.ae (fun ρ=>bj ρ 0) (J.ae (fun ρ=>bj ρ 1) J.aE))) (fun _=>.ok .none) (ym true))) (fun ρ=>bj ρ 0) [.shr (.list (ns.map .int)),.shr (.int at0),.shr (cN fs es),.shr (aA st),.shr M,.own (gf rs),.shr (.int (k:Int)),z8,z]=.ok (.list (L.map cc)):=by
   intro z
   walk_at "zz"
   rw [EC]
   walk_at "zz"
   rw [if_pos (by omega)]
   rw [dH _ cc cc (fun e=>cg st e.needs e.bars) es fun e he=>jA (by
    walk_at "zz"
    rw [uX (o7 g he) (by omega)]
    walk_at "zz"
    rw [Op,GY]
    walk_at "zz"
    rw [Bool.true_beq]) fun _=>rfl]
   walk_at "zz"
   rfl
  have lay:c8 (L.map cc)=true:=yU cc L fun e he=>yV g.rise.ok (g.ok e (hL e he).1)
  rw [aG]
  by_cases hn:L=[]
  ·refine ⟨rs,⟨hm,by omega⟩,?_⟩
   rw [Je (x:=gf rs) (ρ1:=[.shr (.list (ns.map .int)),.shr (.int at0),.shr (cN fs es),.shr (aA st),.shr M,.own (gf rs),.shr (.int (k:Int)),z8,z9]) rfl ?_]
   ·walk_at "zz"
   ·rw [yE]
    unfold eO
    rw [hc]
    walk_at "zz"
    rw [CL _ lay,hn]
    walk_at "zz"
  ·have hp:0<L.length:=List.length_pos_iff.mpr hn
   have hk:((L.length:Nat):Int) > 0:=by omega
   obtain ⟨e,he,hix⟩:=QP (L:=L) (fj ns (at0 + k) (L.length:Nat) (by omega)) (fV ns (at0 + k) (L.length:Nat) (by omega))
   obtain ⟨he1,he2⟩:=hL e he
   obtain ⟨rs',r1,r2⟩:=Bl g ns at0 h0 M ks (rs++[e]) (bz e st) (.shr (.int (k:Int))) (.own (.list (L.map cc))) (.shr (cc e)) (fun x hx=>by
    rcases List.mem_append.mp hx with h | h
    ·exact hm x h
    ·rw [List.mem_singleton.mp h];exact he1) (pc g.rise.up (g.ok e he1) hs) (by rw [aO,cV];omega)
   refine ⟨rs',r1,?_⟩
   rw [uY (ρ1:=[.shr (.list (ns.map .int)),.shr (.int at0),.shr (cN fs es),.shr (aA st),.shr M,.own (gf rs),.shr (.int (k:Int)),z8,z9]) (ρ2:=[.shr (.list (ns.map .int)),.shr (.int at0),.shr (cN fs es),.shr (aA (bz e st)),.shr M,.own (gf (rs++[e])),.shr (.int (k:Int)),.own (.list (L.map cc)),.shr (cc e)]) rfl ?_]
   ·exact r2
   ·rw [yE]
    unfold eO
    rw [hc]
    walk_at "zz"
    rw [CL _ lay,decide_eq_false (by simpa using hn)]
    walk_at "zz"
    rw [fk ns (at0 + k) (L.length:Nat) (by omega) (by omega)]
    walk_at "zz"
    rw [hix]
    walk_at "zz"
    rw [yW (ds:=rs.map fun e=>aP e.name) (d:=.str e.name) rfl (by
     walk_at "zz"
     rw [GU]) (by rw [al];omega)]
    walk_at "zz"
    rw [uX (o7 g he1) (by omega),rP,he2]
    walk_at "zz"
    simp only [gf,ba]
    rfl
theorem QQ {fs st:List Str}{es:List cS} (g:dg fs es) (ns:List Int) (k n:Int) (h0:0<=k) (hn:0<=n) (h20:n<=20) (hs:nD fs st):∃ rs,Wa es rs/\lS [.list (ns.map .int),.int k,cN fs es,aA st,.int n]=.ok (gf rs):=by
 obtain ⟨j,rfl⟩:=pX hn
 obtain ⟨rs,h1,h2⟩:=Bl g ns k h0 (.int (j:Int)) (bw j) [] st .no .no .no (fun _ h=>nomatch h) hs (by simp;omega)
 refine ⟨rs,h1,?_⟩
 unfold lS
 refine cE ?_
 unfold oX bB
 walk_at "zz"
 rw [pS (ds:=(bw j).map fun (i:Nat)=>ck (i:Int))]
 ·exact h2
 ·walk_at "zz"
  exact uT j (by omega)
def GZ (es:List cS):List (Str×D):=es.map fun e=>(e.name,cc e)
theorem ED:∀ es:List cS,J.mI (es.map fun e=>cC [.str e.name,cc e])=some (es.map fun e=>(kO e.name,cc e))
 | []=>rfl
 | e::r=>by
  show (nZ (.str e.name)).bind (fun y=>(J.mI (r.map fun e=>cC [.str e.name,cc e])).map ((y,cc e)::·))=_
  rw [ED r]
  rfl
theorem EE:∀ (l acc:List (Str×D)),((acc++l).map (·.1)).Nodup->l.foldl (fun a p=>sk a (.str p.1) p.2) (hX acc)=hX (acc++l)
 | [],acc,_=>by rw [bT];rfl
 | p::r,acc,nd=>by
  have hx:p.1∉acc.map (·.1):=by
   rw [ba,aG] at nd
   intro h
   exact (List.nodup_append.mp nd).2.2 _ h _ ap rfl
  have hp:sr acc p.1 p.2=acc++[p]:=by
   unfold sr
   rw [if_neg]
   rw [gI]
   rintro ⟨q,hq,e⟩
   exact hx (List.mem_map.mpr ⟨q,hq,of_decide_eq_true e⟩)
  rw [dM,J7,hp]
  have:=EE r (acc++[p]) (by rwa [ib])
  rwa [ib] at this
theorem QR {es:List cS} (nd:(es.map (·.name)).Nodup) (hl:es.length<=6):J.uP (.list (es.map fun e=>cC [.str e.name,cc e]))=.ok (.dict (hX (GZ es))):=by
 have e:J.uP (.list (es.map fun e=>cC [.str e.name,cc e]))=if (es.map fun e=>cC [.str e.name,cc e]).length<=1000 then (match J.mI (es.map fun e=>cC [.str e.name,cc e]) with
  | some ps=>.ok (.dict (ps.foldl (fun a p=>sk a (kD p.1) p.2) []))
  | none=>.no) else .no:=rfl
 rw [e,if_pos (by rw [al];omega),ED]
 have:=EE (GZ es) [] (by rw [jm];unfold GZ;rw [cF];exact nd)
 rw [jm] at this
 rw [<- this]
 unfold GZ
 simp only [sB]
 rfl
theorem T_ {es:List cS} (nd:(es.map (·.name)).Nodup) {e:cS} (he:e∈es):a_ (.dict (hX (GZ es))) (.str e.name)=.ok (cc e) :=
 O3 (l:=GZ es) (by unfold GZ;rw [cF];exact nd) (p:=(e.name,cc e)) (bt (f:=fun e=>(e.name,cc e)) he)
theorem uZ {fs:List Str}{es:List cS} (g:dg fs es) (A B C:D):∀ (rs:List cS) (n:Nat) (pre:List (List Str)) (st:List Str) (x y z:Sl),(∀ e∈rs,e∈es)->nD fs st->pre.length + rs.length<=100 ->
  match o_ rs st with
  | some _=>∃ x' y' z',iY (ku 2 (cn (bO 5) (cn (bO 6) kW))) (aR (eV 7 (dR 2 dY (J.ae (g2 (fun ρ=>bh ρ 3) (fun ρ=>bh ρ 6) a_) (J.ae (g2 (fun ρ=>bh ρ 4) (E9 (fun _=>.ok (.int 1))) a_) J.aE)))) (aR (eM (eZ (g2 (fun ρ=>bh ρ 7) (fun _=>.ok .none) (ym false))) (cG (fun ρ=>bj ρ 5)) (fun ρ=>.ok (.nx ρ))) (nA 4 (fun ρ=>bj ρ 7)))) (iR n (rs.map fun e=>aP e.name)) [.shr A,.shr B,.shr C,.own (.dict (hX (GZ es))),.own (.list ((pre++[st]).map aA)),x,y,z]=.ok (.nx [.shr A,.shr B,.shr C,.own (.dict (hX (GZ es))),.own (.list ((pre++qH rs st).map aA)),x',y',z'])
  | none=>∃ k,iY (ku 2 (cn (bO 5) (cn (bO 6) kW))) (aR (eV 7 (dR 2 dY (J.ae (g2 (fun ρ=>bh ρ 3) (fun ρ=>bh ρ 6) a_) (J.ae (g2 (fun ρ=>bh ρ 4) (E9 (fun _=>.ok (.int 1))) a_) J.aE)))) (aR (eM (eZ (g2 (fun ρ=>bh ρ 7) (fun _=>.ok .none) (ym false))) (cG (fun ρ=>bj ρ 5)) (fun ρ=>.ok (.nx ρ))) (nA 4 (fun ρ=>bj ρ 7)))) (iR n (rs.map fun e=>aP e.name)) [.shr A,.shr B,.shr C,.own (.dict (hX (GZ es))),.own (.list ((pre++[st]).map aA)),x,y,z]=.ok (.rt (.int k))
 | [],n,pre,st,x,y,z,_,_,_=>⟨x,y,z,rfl⟩
 | e::r,n,pre,st,x,y,z,hm,hs,hl=>by
  have he:=hm e ap
  have sh:=o7 g he
  have ls:=dZ hs g.rise.len
  simp only [aX] at hl
  have hix:a_ (.list ((pre++[st]).map aA)) (.int (-1))=.ok (aA st):=by
   rw [ba]
   exact Jf _ _
  have hk:a_ (.dict (hX (GZ es))) (.str e.name)=.ok (cc e):=T_ g.nd he
  have en:iR n ((e::r).map fun e=>aP e.name)=.tuple [.int (n:Nat),.str e.name]::iR (n + 1) (r.map fun e=>aP e.name):=rfl
  rw [en]
  unfold qH o_
  cases hg:cg st e.needs e.bars with
  | true =>
   rw [if_pos rfl,if_pos rfl]
   have e2:pre++st::qH r (bz e st)=(pre++[st])++qH r (bz e st):=by simp
   rw [e2]
   have ih:=uZ g A B C r (n + 1) (pre++[st]) (bz e st) (.shr (.int (n:Nat))) (.shr (.str e.name)) (.shr (aA (bz e st))) (fun x hx=>hm x (am _ hx)) (pc g.rise.up (g.ok e he) hs) (by rw [aO];simp only [aX,bQ];omega)
   rw [uY (ρ1:=[.shr A,.shr B,.shr C,.own (.dict (hX (GZ es))),.own (.list ((pre++[st]).map aA)),.shr (.int (n:Nat)),.shr (.str e.name),z]) (ρ2:=[.shr A,.shr B,.shr C,.own (.dict (hX (GZ es))),.own (.list ((pre++[st]++[bz e st]).map aA)),.shr (.int (n:Nat)),.shr (.str e.name),.shr (aA (bz e st))]) rfl ?_]
   ·exact ih
   ·walk_at "zz"
    rw [hk]
    walk_at "zz"
    rw [Om]
    walk_at "zz"
    rw [CI]
    walk_at "zz"
    rw [hix]
    walk_at "zz"
    rw [uX sh (by omega),rP,hg]
    walk_at "zz"
    rw [Bh,Si]
    walk_at "zz"
    rw [ba (l₁:=pre++[st])]
    exact yW (ds:=(pre++[st]).map aA) (d:=aA (bz e st)) rfl (by rfl) (by rw [al,aO];simp only [aX,bQ];omega)
  | false =>
   rw [if_neg aS]
   refine ⟨(n:Int),?_⟩
   rw [Je (x:=.int (n:Nat)) (ρ1:=[.shr A,.shr B,.shr C,.own (.dict (hX (GZ es))),.own (.list ((pre++[st]).map aA)),.shr (.int (n:Nat)),.shr (.str e.name),z]) rfl ?_]
   walk_at "zz"
   rw [hk]
   walk_at "zz"
   rw [Om]
   walk_at "zz"
   rw [CI]
   walk_at "zz"
   rw [hix]
   walk_at "zz"
   rw [uX sh (by omega),rP,hg]
   walk_at "zz"
   rw [Bj,Od]
   walk_at "zz"
theorem U0 (gs:av->R (List D)) (s:Sl) (ρ:av):J.IU gs (s::ρ)=(gs (s::ρ)).bind J.Qr:=id rfl
theorem Oq (g:av->R D) (s:Sl) (ρ:av):J.xu g (s::ρ)=(g (s::ρ)).bind J.uP:=id rfl
theorem QS (ds:List D):J.Qr [.list ds]=.ok (iR 0 ds):=rfl
theorem G_ {fs st:List Str}{es rs:List cS} (g:dg fs es) (h:Wa es rs) (hs:nD fs st):match o_ rs st with
  | some _=>iB [cN fs es,aA st,gf rs]=.ok (.list ((qH rs st).map aA))
  | none=>∃ k,iB [cN fs es,aA st,gf rs]=.ok (.int k):=by
 have hl:=h.len
 have lg:=g.len
 have L:=uZ g (cN fs es) (aA st) (gf rs) rs 0 [] st .no .no .no h.mem hs (by simp only [bQ];omega)
 have K:∀ {x:D},(iY (ku 2 (cn (bO 5) (cn (bO 6) kW))) (aR (eV 7 (dR 2 dY (J.ae (g2 (fun ρ=>bh ρ 3) (fun ρ=>bh ρ 6) a_) (J.ae (g2 (fun ρ=>bh ρ 4) (E9 (fun _=>.ok (.int 1))) a_) J.aE)))) (aR (eM (eZ (g2 (fun ρ=>bh ρ 7) (fun _=>.ok .none) (ym false))) (cG (fun ρ=>bj ρ 5)) (fun ρ=>.ok (.nx ρ))) (nA 4 (fun ρ=>bj ρ 7)))) (iR 0 (rs.map fun e=>aP e.name)) [.shr (cN fs es),.shr (aA st),.shr (gf rs),.own (.dict (hX (GZ es))),.own (.list (([]++[st]).map aA)),.no,.no,.no]).bind (Kk (cG fun ρ=>bj ρ 4))=.ok (.rt x)->iB [cN fs es,aA st,gf rs]=.ok x:=by
  intro x hx
  unfold iB
  refine cE ?_
  unfold l9 bB
  walk_at "zz"
  rw [Oq]
  walk_at "zz"
  rw [EC]
  walk_at "zz"
  rw [if_pos (by omega)]
  rw [dP _ cc (fun e=>cC [.str e.name,cc e]) es fun e he=>fM rfl (by
   walk_at "zz"
   rw [GU]
   walk_at "zz")]
  walk_at "zz"
  rw [QR g.nd lg]
  walk_at "zz"
  rw [pS (ds:=iR 0 (rs.map fun e=>aP e.name))]
  ·exact hx
  ·rw [U0]
   walk_at "zz"
   rw [QS]
 cases hr:o_ rs st with
 | none =>
  rw [hr] at L
  obtain ⟨k,L⟩:=L
  refine ⟨k,K ?_⟩
  rw [L]
  walk_at "zz"
 | some s =>
  rw [hr] at L
  obtain ⟨x,y,z,L⟩:=L
  refine K ?_
  rw [L]
  walk_at "zz"
theorem QT {fs st m b:List Str}{es rs:List cS} (g:dg fs es) (h:Wa es rs) (hs:nD fs st) (hw:kR fs m b):lT [cN fs es,aA st,hZ m b,gf rs]=.ok (.bool (p7 st m b rs)):=by
 have l1:=dZ hw.must g.rise.len
 have l2:=dZ hw.bars g.rise.len
 have L:=G_ g h hs
 unfold lT
 refine cE ?_
 unfold oY bB
 walk_at "zz"
 unfold p7
 cases hr:o_ rs st with
 | none =>
  rw [hr] at L
  obtain ⟨k,L⟩:=L
  rw [L]
  walk_at "zz"
  rw [show qf (.int k)=true from rfl,show Ac "int" (.int k)=true from rfl]
  walk_at "zz"
 | some s =>
  rw [hr] at L
  simp only at L
  rw [L]
  obtain ⟨pre,hp⟩:=yY rs st s hr
  rw [hp]
  walk_at "zz"
  rw [show qf (.list ((pre++[s]).map aA))=true from xA _ lc _,show Ac "int" (.list ((pre++[s]).map aA))=false from rfl]
  walk_at "zz"
  rw [Om]
  walk_at "zz"
  rw [CI]
  walk_at "zz"
  rw [ba,show mD aA [s]=[aA s] from rfl]
  rw [Jf]
  walk_at "zz"
  rw [CH (by omega) (by omega)]
  walk_at "zz"
def dw (l:List (List Str×D)):List (D×D):=l.map fun p=>(aA p.1,p.2)
abbrev kS (l:List (List Str×D)):List (List Str):=l.map (·.1)
theorem H9 (x:List Str):aA x=tD (x.map kO):=by
 unfold aA tD
 rw [cF]
 rfl
theorem lV (x:List Str):pT (aA x)=some (x.map kO):=by rw [H9,NM]
theorem QU {a b:List Str} (h:a.map (kO:Str->cO)=b.map kO):a=b:=by
 induction a generalizing b with
 | nil=>cases b with | nil=>rfl | cons _ _=>cases h
 | cons x r ih =>
  cases b with
  | nil=>cases h
  | cons y t =>
   simp only [aG,List.cons.injEq] at h
   rw [ih h.2,Sum.inr.inj h.1]
theorem Os (x y:List Str):aZ (aA x) (aA y)=decide (x=y):=by
 rw [H9,H9,Cr]
 by_cases h:x=y
 ·rw [h];simp
 ·rw [decide_eq_false h,decide_eq_false fun z=>h (QU z)]
theorem EF (l:List (List Str×D)):IX (dw l)=dw l:=by cases l<;>rfl
theorem pd {l:List (List Str×D)} (h:l≠[]):jB (dw l)=true:=by
 have h2:((dw l).all fun kv=>(pT kv.1).isSome)=true:=by
  unfold dw
  rw [mf,cq]
  intro p _
  show (pT (aA p.1)).isSome=true
  rw [lV]
  rfl
 unfold jB
 rw [h2]
 cases l with
 | nil=>exact (h rfl).elim
 | cons _ _=>rfl
theorem vT (x:List Str):∀ l:List (List Str×D),kQ (dw l) (aA x)=(l.find? fun p=>decide (p.1=x)).map (·.2)
 | []=>rfl
 | p::r=>by
  have ih:=vT x r
  unfold kQ dw at ih ⊢
  rw [aG,c9,c9,Os]
  by_cases h:p.1=x
  ·rw [decide_eq_true h];rfl
  ·rw [decide_eq_false h];exact ih
theorem Ot {l:List (List Str×D)} (nd:(kS l).Nodup) {p:List Str×D} (hp:p∈l):(l.find? fun q=>decide (q.1=p.1))=some p:=by
 induction l with
 | nil=>cases hp
 | cons q r ih =>
  obtain ⟨n1,n2⟩:=List.nodup_cons.mp nd
  rw [c9]
  rcases List.mem_cons.mp hp with h | h
  ·subst h;simp
  ·have:q.1≠p.1:=fun z=>n1 (by show q.1∈_;rw [z];exact bt h)
   rw [decide_eq_false this]
   exact ih n2 h
theorem KH {α:Type}{l:List α}{x:α} (h:x∈l):l≠[]:=fun z=>by rw [z] at h;cases h
theorem Ou {l:List (List Str×D)}{ds:List (D×D)} (hu:IX ds=dw l) (nd:(kS l).Nodup) {p:List Str×D} (hp:p∈l):Ct (.dict ds) (aA p.1)=.ok p.2:=by
 unfold Ct
 simp only [lV,hu]
 rw [if_pos (pd (KH hp)),vT,Ot nd hp]
 rfl
theorem Jg {l:List (List Str×D)} (nd:(kS l).Nodup) {p:List Str×D} (hp:p∈l):Ct (.dict (dw l)) (aA p.1)=.ok p.2:=Ou (EF l) nd hp
theorem Ov {l:List (List Str×D)} (nd:(kS l).Nodup) {p:List Str×D} (hp:p∈l):Ct (.dict ((.none,.none)::dw l)) (aA p.1)=.ok p.2:=Ou rfl nd hp
theorem Bm (x:List Str):∀ l:List (List Str×D),((l.find? fun p=>decide (p.1=x)).map (·.2)).isSome=decide (x∈kS l)
 | []=>by simp
 | p::r=>by
  rw [c9]
  by_cases h:p.1=x
  ·rw [decide_eq_true h]
   simp [h]
  ·rw [decide_eq_false h]
   simp only
   rw [Bm x r]
   simp [cZ h]
theorem Jh {l:List (List Str×D)} (h:l≠[]) (x:List Str):inT true (aA x) (.dict (dw l))=.ok (.bool (!decide (x∈kS l))):=by
 unfold inT
 simp only [lV,EF]
 rw [if_pos (pd h),vT,Bm]
 rfl
theorem yZ (l:List (List Str×D)):Cu (.dict ((.none,.none)::dw l))=.ok ((kS l).map aA):=by
 show R.ok ((dw l).map (·.1))=_
 unfold dw kS
 rw [cF,cF]
 rfl
theorem QV {l:List (List Str×D)}{x:List Str} (h:x∉kS l) (d:D):sk (dw l) (aA x) d=dw (l++[(x,d)]):=by
 have e:((dw l).any fun kv=>aZ kv.1 (aA x))=false:=by
  unfold dw
  rw [qe,Ll]
  intro p hp
  show ¬aZ (aA p.1) (aA x)=true
  rw [Os,decide_eq_true_eq]
  exact fun z=>h (by rw [<- z];exact bt hp)
 unfold sk
 rw [e,if_neg aS]
 unfold dw
 rw [ba]
 rfl
theorem Ow {i:Nat}{gk g:av->R D}{ρ:av}{l:List (List Str×D)}{x:List Str}{d:D} (hi:ρ[i]?=some (Sl.own (.dict (dw l)))) (hg:g ρ=.ok d) (hk:gk ρ=.ok (aA x)) (hn:l≠[]) (hl:l.length<1000) (hx:x∉kS l):sL i gk g ρ=.ok (.nx (ρ.set i (.own (.dict (dw (l++[(x,d)])))))):=by
 have hl':(dw l).length<1000:=by unfold dw;rw [al];exact hl
 have e:sL i gk g ρ=(g ρ).bind fun d=>(gk ρ).bind fun k=>match pT k with
  | some _=>if (dw l).length<1000/\jB (dw l)=true then .ok (.nx (ρ.set i (.own (.dict (sk (dw l) k d))))) else .no
  | none=>.no:=by
  unfold sL
  simp only [hi]
  try rfl
 rw [e,hg,yD,hk,yD]
 simp only [lV,if_pos (u9 hl' (pd hn)),QV hx]
theorem VO {i:Nat}{g:av->R Fl}{ρ:av}{l:List (List Str×D)} (hn:l≠[]) (h:ρ[i]?=some (Sl.own (.dict (dw l)))):TF i g ρ=g (ρ.set i (.own (.dict ((.none,.none)::dw l)))):=by
 unfold TF
 congr 1
 unfold kx
 rw [h]
 cases l with
 | nil=>exact (hn rfl).elim
 | cons p r=>rfl
theorem VP {gk gv:av->R D}{s:Sl}{ρ:av}{x:List Str}{d:D} (h1:gk (s::ρ)=.ok (aA x)) (h2:gv (s::ρ)=.ok d):S8 gk gv (s::ρ)=.ok (.dict (dw [(x,d)])):=by
 unfold S8
 rw [h1,bind_ok,h2,bind_ok]
 simp only [lV]
 rfl
theorem Sj {g:av->R D}{s:Sl}{ρ:av}{ds:List D} (h:g (s::ρ)=.ok (.list ds)):Ag g (s::ρ)=.ok (!ds.isEmpty):=by
 unfold Ag
 rw [h,bind_ok]
theorem Ox (g:av->R D) (s:Sl) (ρ:av):Kr g (s::ρ)=(g (s::ρ)).bind Cu:=id rfl
theorem EG {α:Type} [DecidableEq α] : ∀ {l m:List α},l.Nodup->(∀ x∈l,x∈m)->l.length<=m.length
 | [],_,_,_=>cW _
 | x::r,m,nd,h=>by
  obtain ⟨n1,n2⟩:=List.nodup_cons.mp nd
  have hx:=h x ap
  have:=EG (l:=r) (m:=m.erase x) n2 fun y hy=>(HQ fun z=>n1 (by rw [<- z];exact hy)).mpr (h y (am _ hy))
  rw [Dj hx] at this
  have:=FF hx
  simp only [aX]
  omega
theorem EH:∀ (fs:List Str) (acc:List (List Str)),(fs.foldl (fun acc f=>acc++acc.map (·++[f])) acc).length=acc.length * 2 ^ fs.length
 | [],acc=>by simp
 | f::r,acc=>by
  rw [dM,EH r,aO,al,aX,Nat.pow_succ,<- Nat.two_mul,G6 2,Nat.mul_assoc,G6 2]
theorem QW {fs:List Str} (h:fs.length<=6):(TY fs).length<=64:=by
 unfold TY
 rw [EH]
 have:2 ^ fs.length<=2 ^ 6:=Nat.pow_le_pow_right (by decide) h
 simp only [aX,bQ]
 omega
theorem EI {fs:List Str} (hf:NV fs 6) {l:List (List Str×D)} (nd:(kS l).Nodup) (h:∀ x∈kS l,nD fs x):l.length<=64:=by
 have:=EG nd fun x hx=>Oo hf.up (h x hx)
 rw [al] at this
 exact bE this (QW hf.len)
def VQ (es:List cS) (st x:List Str):Prop:=∃ rs:List cS,(∀ e∈rs,e∈es)/\o_ rs st=some x
theorem y_ (e:cS):∀ (rs:List cS) (st x:List Str),o_ rs st=some x->cg x e.needs e.bars=true->o_ (rs++[e]) st=some (bz e x)
 | [],st,x,h,g=>by cases h;show (if cg st e.needs e.bars then o_ [] (bz e st) else none)=_;rw [g];rfl
 | a::r,st,x,h,g=>by
  show (if cg st a.needs a.bars then o_ (r++[e]) (bz a st) else none)=_
  have h':(if cg st a.needs a.bars then o_ r (bz a st) else none)=some x:=h
  split at h'
  ·rename_i hg
   rw [if_pos hg]
   exact y_ e r _ _ h' g
  ·cases h'
theorem tG {es:List cS}{M:List Str->Prop} (hc:∀ x,M x->∀ e∈es,cg x e.needs e.bars=true->M (bz e x)):∀ (rs:List cS) (st x:List Str),M st->(∀ e∈rs,e∈es)->o_ rs st=some x->M x
 | [],st,x,hm,_,h=>by cases h;exact hm
 | a::r,st,x,hm,he,h=>by
  have h':(if cg st a.needs a.bars then o_ r (bz a st) else none)=some x:=h
  split at h'
  ·rename_i hg
   exact tG hc r _ _ (hc st hm a (he a ap) hg) (fun e h=>he e (am _ h)) h'
  ·cases h'
theorem Oy {fs st:List Str}{es:List cS} (g:dg fs es) (hs:nD fs st):jF [cN fs es,aA st]=.ok (.list ((es.filter fun e=>cg st e.needs e.bars).map fun e=>cC [cc e,aA (bz e st)])):=by
 have ls:=dZ hs g.rise.len
 have lg:=g.len
 unfold jF
 refine cE ?_
 unfold k_ bB
 walk_at "zz"
 rw [EC]
 walk_at "zz"
 rw [if_pos (by omega)]
 rw [dH _ cc (fun e=>cC [cc e,aA (bz e st)]) (fun e=>cg st e.needs e.bars) es fun e he=>jA (by
  walk_at "zz"
  rw [KG (o7 g he)]
  walk_at "zz") fun _=>(by
  walk_at "zz"
  rw [KD (o7 g he) ls]
  walk_at "zz")]
 walk_at "zz"
abbrev LZ:=List (List Str×List cS)
def im (l:LZ):List (List Str×D):=l.map fun p=>(p.1,gf p.2)
structure pf (fs st:List Str) (es:List cS) (l:LZ):Prop where
 nd:(l.map (·.1)).Nodup
 beg:(st,[])∈l
 sub:∀ p∈l,nD fs p.1
 row:∀ p∈l,(∀ e∈p.2,e∈es)/\o_ p.2 st=some p.1/\p.2.length<l.length
theorem j9 (l:LZ):kS (im l)=l.map (·.1):=by
 unfold kS im
 rw [cF]
 rfl
theorem pf.ne {fs st:List Str}{es:List cS}{l:LZ} (h:pf fs st es l):im l≠[]:=by
 intro z
 have:=List.map_eq_nil_iff.mp z
 have h1:=h.beg
 rw [this] at h1
 cases h1
theorem pf.few {fs st:List Str}{es:List cS}{l:LZ} (g:dg fs es) (h:pf fs st es l):l.length<=64:=by
 have:=EI g.rise (l:=im l) (by rw [j9];exact h.nd) fun x hx=>by
  rw [j9] at hx
  obtain ⟨p,hp,rfl⟩:=List.mem_map.mp hx
  exact h.sub p hp
 unfold im at this
 rw [al] at this
 exact this
def iS (at0:List Str) (row:List cS) (b:LZ×List (List Str)) (e:cS):LZ×List (List Str) :=
 if bz e at0∈b.1.map (·.1) then b else (b.1++[(bz e at0,row++[e])],b.2++[bz e at0])
theorem U1 {fs st at0:List Str}{es:List cS}{row:List cS}{b:LZ×List (List Str)}{e:cS} (g:dg fs es) (h:pf fs st es b.1) (hr:(at0,row)∈b.1) (he:e∈es) (hg:cg at0 e.needs e.bars=true):pf fs st es (iS at0 row b e).1:=by
 unfold iS
 split
 ·exact h
 ·rename_i hn
  obtain ⟨r1,r2,r3⟩:=h.row _ hr
  refine ⟨?_,bP _ h.beg,fun p hp=>?_,fun p hp=>?_⟩
  ·rw [ba]
   exact xn h.nd hn
  ·rcases List.mem_append.mp hp with z | z
   ·exact h.sub p z
   ·rw [List.mem_singleton.mp z]
    exact pc g.rise.up (g.ok e he) (h.sub _ hr)
  ·rw [aO,cV]
   rcases List.mem_append.mp hp with z | z
   ·obtain ⟨k1,k2,k3⟩:=h.row p z
    exact ⟨k1,k2,by omega⟩
   ·rw [List.mem_singleton.mp z]
    refine ⟨fun x hx=>?_,y_ e _ _ _ r2 hg,?_⟩
    ·rcases List.mem_append.mp hx with y | y
     ·exact r1 x y
     ·rw [List.mem_singleton.mp y];exact he
    ·show (row++[e]).length<b.1.length + 1
     rw [aO,cV]
     have:row.length<b.1.length:=r3
     omega
theorem EJ (at0:List Str) (row:List cS) (b:LZ×List (List Str)) (e:cS):(∀ p∈b.1,p∈(iS at0 row b e).1)/\bz e at0∈(iS at0 row b e).1.map (·.1)/\(∀ x∈(iS at0 row b e).1.map (·.1),x∈b.1.map (·.1)\/x∈(iS at0 row b e).2)/\(∀ x∈b.2,x∈(iS at0 row b e).2)/\(∀ x∈(iS at0 row b e).2,x∈b.2\/x∈(iS at0 row b e).1.map (·.1))/\b.1.length + (iS at0 row b e).2.length=(iS at0 row b e).1.length + b.2.length:=by
 unfold iS
 split
 ·rename_i h
  exact ⟨fun _ h=>h,h,fun _ h=>.inl h,fun _ h=>h,fun _ h=>.inl h,rfl⟩
 ·refine ⟨fun p hp=>bP _ hp,?_,fun x hx=>?_,fun x hx=>bP _ hx,fun x hx=>?_,?_⟩
  ·rw [ba];exact aM _ ap
  ·rw [ba] at hx
   rcases List.mem_append.mp hx with z | z
   ·exact .inl z
   ·exact .inr (aM _ z)
  ·rcases List.mem_append.mp hx with z | z
   ·exact .inl z
   ·rw [ba];exact .inr (aM _ z)
  ·simp only [aO,cV]
   omega
def Wb:av->R Fl:=(eM (eZ (g2 (fun ρ=>bh ρ 7) (fun ρ=>bh ρ 2) (inT true))) (aR (sL 2 (fun ρ=>bj ρ 7) (g2 (g2 (fun ρ=>bh ρ 2) (fun ρ=>bh ρ 5) Ct) (e8 (J.ae (g2 (fun ρ=>bh ρ 6) (fun _=>.ok (.int 0)) a_) J.aE) .list) dO)) (nA 4 (fun ρ=>bj ρ 7))) (fun ρ=>.ok (.nx ρ)))
def KI:av->R Fl:=lK (jq (dR 2 jF (J.ae (fun ρ=>bj ρ 0) (J.ae (fun ρ=>bj ρ 5) J.aE)))) (ku 2 (cn (bO 6) (cn (bO 7) kW))) Wb
def VR:av->R Fl:=aR (eO 4 (e8 J.aE .list)) (aR (uK 3 (bO 5) KI) (RH 4 (eV 3 (fun ρ=>bj ρ 4))))
theorem Oz:l5=aR (eO 2 (S8 (fun ρ=>bj ρ 1) (e8 J.aE .list))) (aR (eO 3 (e8 (J.ae (fun ρ=>bj ρ 1) J.aE) .list)) (aR (iL (Ag (fun ρ=>bh ρ 3)) VR 100000) (TF 2 (cG (fun ρ=>bj ρ 2))))):=rfl
theorem EK {l:LZ}{p:List Str×List cS} (h:p∈l):(p.1,gf p.2)∈im l:=bt (f:=fun p:List Str×List cS=>(p.1,gf p.2)) h
theorem U2 {fs st:List Str}{es:List cS}{l:LZ} (h:pf fs st es l) {at0:List Str}{row:List cS} (hr:(at0,row)∈l):Ct (.dict (dw (im l))) (aA at0)=.ok (gf row):=by
 have:=Jg (l:=im l) (by rw [j9];exact h.nd) (EK hr)
 exact this
theorem OA (l:LZ) (x:List Str) (r:List cS):im (l++[(x,r)])=im l++[(x,gf r)]:=by
 unfold im
 rw [ba]
 rfl
theorem QX {fs st at0:List Str}{es:List cS}{row:List cS} (g:dg fs es) (B S:D) (o3 z6 z7:Sl) {b:LZ×List (List Str)}{e:cS} (h:pf fs st es b.1) (hr:(at0,row)∈b.1) (hl:b.2.length<=b.1.length) :
  Wb [.shr B,.shr S,.own (.dict (dw (im b.1))),o3,.own (.list (b.2.map aA)),.shr (aA at0),.shr (cc e),.shr (aA (bz e at0))]=.ok (.nx [.shr B,.shr S,.own (.dict (dw (im (iS at0 row b e).1))),o3,.own (.list ((iS at0 row b e).2.map aA)),.shr (aA at0),.shr (cc e),.shr (aA (bz e at0))]):=by
 have few:=h.few g
 have rl:=(h.row _ hr).2.2
 have k64:row.length<b.1.length:=rl
 unfold Wb
 walk_at "zz"
 rw [Jh h.ne,j9]
 unfold iS
 by_cases hm:bz e at0∈b.1.map (·.1)
 ·rw [if_pos hm,decide_eq_true hm]
  walk_at "zz"
 ·rw [if_neg hm,decide_eq_false hm]
  walk_at "zz"
  rw [Ow (l:=im b.1) (x:=bz e at0) (d:=gf (row++[e])) rfl ?_ rfl h.ne (by unfold im;rw [al];omega) (by rw [j9];exact hm)]
  ·walk_at "zz"
   rw [yW (ds:=b.2.map aA) (d:=aA (bz e at0)) rfl rfl (by rw [al];omega),OA,ba]
   rfl
  ·walk_at "zz"
   rw [U2 h hr]
   walk_at "zz"
   rw [GU]
   walk_at "zz"
   rw [if_pos (by omega)]
   simp only [gf,ba]
   rfl
theorem EL {fs st at0:List Str}{es:List cS}{row:List cS}:∀ (xs:List cS) (b:LZ×List (List Str)),(∀ p∈b.1,p∈(xs.foldl (iS at0 row) b).1)/\(∀ e∈xs,bz e at0∈(xs.foldl (iS at0 row) b).1.map (·.1))/\(∀ x∈(xs.foldl (iS at0 row) b).1.map (·.1),x∈b.1.map (·.1)\/x∈(xs.foldl (iS at0 row) b).2)/\(∀ x∈b.2,x∈(xs.foldl (iS at0 row) b).2)/\(∀ x∈(xs.foldl (iS at0 row) b).2,x∈b.2\/x∈(xs.foldl (iS at0 row) b).1.map (·.1))/\b.1.length + (xs.foldl (iS at0 row) b).2.length=(xs.foldl (iS at0 row) b).1.length + b.2.length
 | [],b=>⟨fun _ h=>h,fun _ h=>(nomatch h),fun _ h=>.inl h,fun _ h=>h,fun _ h=>.inl h,rfl⟩
 | e::r,b=>by
  obtain ⟨a1,a2,a3,a4,a5,a6⟩:=EJ at0 row b e
  obtain ⟨b1,b2,b3,b4,b5,b6⟩:=EL (fs:=fs) (st:=st) (es:=es) r (iS at0 row b e)
  rw [dM]
  have km:∀ x∈(iS at0 row b e).1.map (·.1),x∈(r.foldl (iS at0 row) (iS at0 row b e)).1.map (·.1):=fun x hx=>by
   obtain ⟨p,hp,rfl⟩:=List.mem_map.mp hx
   exact bt (b1 p hp)
  refine ⟨fun p hp=>b1 p (a1 p hp),fun x hx=>?_,fun x hx=>?_,fun x hx=>b4 x (a4 x hx),fun x hx=>?_,by omega⟩
  ·rcases List.mem_cons.mp hx with z | z
   ·rw [z];exact km _ a2
   ·exact b2 x z
  ·rcases b3 x hx with z | z
   ·rcases a3 x z with y | y
    ·exact .inl y
    ·exact .inr (b4 x y)
   ·exact .inr z
  ·rcases b5 x hx with z | z
   ·rcases a5 x z with y | y
    ·exact .inl y
    ·exact .inr (km x y)
   ·exact .inr z
theorem U3 {fs st at0:List Str}{es:List cS}{row:List cS} (g:dg fs es) (B S:D) (o3 z6 z7:Sl) {b:LZ×List (List Str)} (h:pf fs st es b.1) (hr:(at0,row)∈b.1) (hl:b.2.length<=b.1.length) (xs:List cS) (hx:∀ e∈xs,e∈es/\cg at0 e.needs e.bars=true) :
  pf fs st es (xs.foldl (iS at0 row) b).1/\∃ y6 y7,iY (ku 2 (cn (bO 6) (cn (bO 7) kW))) Wb (xs.map fun e=>cC [cc e,aA (bz e at0)]) [.shr B,.shr S,.own (.dict (dw (im b.1))),o3,.own (.list (b.2.map aA)),.shr (aA at0),z6,z7]=.ok (.nx [.shr B,.shr S,.own (.dict (dw (im (xs.foldl (iS at0 row) b).1))),o3,.own (.list ((xs.foldl (iS at0 row) b).2.map aA)),.shr (aA at0),y6,y7]):=by
 induction xs generalizing b z6 z7 with
 | nil=>exact ⟨h,z6,z7,rfl⟩
 | cons e r ih =>
  obtain ⟨he,hg⟩:=hx e ap
  obtain ⟨a1,a2,a3,a4,a5,a6⟩:=EJ at0 row b e
  have h':=U1 g h hr he hg
  obtain ⟨q1,y6,y7,q2⟩:=ih (.shr (cc e)) (.shr (aA (bz e at0))) h' (a1 _ hr) (by omega) fun x z=>hx x (am _ z)
  refine ⟨q1,y6,y7,?_⟩
  rw [aG,uY (ρ1:=[.shr B,.shr S,.own (.dict (dw (im b.1))),o3,.own (.list (b.2.map aA)),.shr (aA at0),.shr (cc e),.shr (aA (bz e at0))]) rfl (QX g B S o3 z6 z7 h hr hl)]
  exact q2
def z0 (l:LZ) (x:List Str):List cS:=((l.find? fun p=>decide (p.1=x)).map (·.2)).getD []
theorem z3 {l:LZ}{x:List Str} (h:x∈l.map (·.1)):(x,z0 l x)∈l:=by
 unfold z0
 induction l with
 | nil=>cases h
 | cons p r ih =>
  rw [c9]
  by_cases hp:p.1=x
  ·rw [decide_eq_true hp]
   subst hp
   exact ap
  ·rw [decide_eq_false hp]
   rcases List.mem_cons.mp h with z | z
   ·exact (hp z.symm).elim
   ·exact am _ (ih z)
def ph (es:List cS) (b:LZ×List (List Str)) (x:List Str):LZ×List (List Str):=(es.filter fun e=>cg x e.needs e.bars).foldl (iS x (z0 b.1 x)) b
theorem OB {fs st at0:List Str}{es:List cS} (g:dg fs es) (S:D) (o3 z6 z7:Sl) {b:LZ×List (List Str)} (h:pf fs st es b.1) (hr:at0∈b.1.map (·.1)) (hl:b.2.length<=b.1.length) :
  pf fs st es (ph es b at0).1/\∃ y6 y7,KI [.shr (cN fs es),.shr S,.own (.dict (dw (im b.1))),o3,.own (.list (b.2.map aA)),.shr (aA at0),z6,z7]=.ok (.nx [.shr (cN fs es),.shr S,.own (.dict (dw (im (ph es b at0).1))),o3,.own (.list ((ph es b at0).2.map aA)),.shr (aA at0),y6,y7]):=by
 have hm:=z3 hr
 obtain ⟨q1,y6,y7,q2⟩:=U3 g (cN fs es) S o3 z6 z7 h hm hl (es.filter fun e=>cg at0 e.needs e.bars) fun e he=>List.mem_filter.mp he
 refine ⟨q1,y6,y7,?_⟩
 unfold KI
 rw [pS (ds:=(es.filter fun e=>cg at0 e.needs e.bars).map fun e=>cC [cc e,aA (bz e at0)])]
 ·exact q2
 ·walk_at "zz"
  rw [Oy g (h.sub _ hm)]
  walk_at "zz"
theorem Ji (es:List cS) (b:LZ×List (List Str)) (x:List Str):(∀ p∈b.1,p∈(ph es b x).1)/\(∀ e∈es,cg x e.needs e.bars=true->bz e x∈(ph es b x).1.map (·.1))/\(∀ y∈(ph es b x).1.map (·.1),y∈b.1.map (·.1)\/y∈(ph es b x).2)/\(∀ y∈b.2,y∈(ph es b x).2)/\(∀ y∈(ph es b x).2,y∈b.2\/y∈(ph es b x).1.map (·.1))/\b.1.length + (ph es b x).2.length=(ph es b x).1.length + b.2.length:=by
 obtain ⟨b1,b2,b3,b4,b5,b6⟩:=EL (fs:=[]) (st:=[]) (es:=es) (at0:=x) (row:=z0 b.1 x) (es.filter fun e=>cg x e.needs e.bars) b
 exact ⟨b1,fun e he hg=>b2 e (List.mem_filter.mpr ⟨he,hg⟩),b3,b4,b5,b6⟩
theorem Bo (es:List cS):∀ (ring:List (List Str)) (b:LZ×List (List Str)),(∀ p∈b.1,p∈(ring.foldl (ph es) b).1)/\(∀ x∈ring,∀ e∈es,cg x e.needs e.bars=true->bz e x∈(ring.foldl (ph es) b).1.map (·.1))/\(∀ y∈(ring.foldl (ph es) b).1.map (·.1),y∈b.1.map (·.1)\/y∈(ring.foldl (ph es) b).2)/\(∀ y∈b.2,y∈(ring.foldl (ph es) b).2)/\(∀ y∈(ring.foldl (ph es) b).2,y∈b.2\/y∈(ring.foldl (ph es) b).1.map (·.1))/\b.1.length + (ring.foldl (ph es) b).2.length=(ring.foldl (ph es) b).1.length + b.2.length
 | [],b=>⟨fun _ h=>h,fun _ h=>(nomatch h),fun _ h=>.inl h,fun _ h=>h,fun _ h=>.inl h,rfl⟩
 | x::r,b=>by
  obtain ⟨a1,a2,a3,a4,a5,a6⟩:=Ji es b x
  obtain ⟨b1,b2,b3,b4,b5,b6⟩:=Bo es r (ph es b x)
  rw [dM]
  have km:∀ y∈(ph es b x).1.map (·.1),y∈(r.foldl (ph es) (ph es b x)).1.map (·.1):=fun y hy=>by
   obtain ⟨p,hp,rfl⟩:=List.mem_map.mp hy
   exact bt (b1 p hp)
  refine ⟨fun p hp=>b1 p (a1 p hp),fun y hy e he hg=>?_,fun y hy=>?_,fun y hy=>b4 y (a4 y hy),fun y hy=>?_,by omega⟩
  ·rcases List.mem_cons.mp hy with z | z
   ·subst z;exact km _ (a2 e he hg)
   ·exact b2 y z e he hg
  ·rcases b3 y hy with z | z
   ·rcases a3 y z with w | w
    ·exact .inl w
    ·exact .inr (b4 y w)
   ·exact .inr z
  ·rcases b5 y hy with z | z
   ·rcases a5 y z with w | w
    ·exact .inl w
    ·exact .inr (km y w)
   ·exact .inr z
theorem OC {fs st:List Str}{es:List cS} (g:dg fs es) (S:D) (o3 z5 z6 z7:Sl) {b:LZ×List (List Str)} (h:pf fs st es b.1) (hl:b.2.length<=b.1.length) (ring:List (List Str)) (hx:∀ x∈ring,x∈b.1.map (·.1)) :
  pf fs st es (ring.foldl (ph es) b).1/\∃ y5 y6 y7,iY (bO 5) KI (ring.map aA) [.shr (cN fs es),.shr S,.own (.dict (dw (im b.1))),o3,.own (.list (b.2.map aA)),z5,z6,z7]=.ok (.nx [.shr (cN fs es),.shr S,.own (.dict (dw (im (ring.foldl (ph es) b).1))),o3,.own (.list ((ring.foldl (ph es) b).2.map aA)),y5,y6,y7]):=by
 induction ring generalizing b z5 z6 z7 with
 | nil=>exact ⟨h,z5,z6,z7,rfl⟩
 | cons x r ih =>
  obtain ⟨a1,a2,a3,a4,a5,a6⟩:=Ji es b x
  obtain ⟨h',y6,y7,q⟩:=OB g S o3 z6 z7 h (hx x ap) hl
  obtain ⟨q1,w5,w6,w7,q2⟩:=ih (.shr (aA x)) y6 y7 h' (by omega) fun y hy=>by
   obtain ⟨p,hp,e⟩:=List.mem_map.mp (hx y (am _ hy))
   rw [<- e]
   exact bt (a1 p hp)
  refine ⟨q1,w5,w6,w7,?_⟩
  rw [aG,uY (ρ1:=[.shr (cN fs es),.shr S,.own (.dict (dw (im b.1))),o3,.own (.list (b.2.map aA)),.shr (aA x),z6,z7]) rfl q]
  exact q2
theorem QY {fs st:List Str}{es:List cS} (g:dg fs es) (S:D) (o3 z4 z5 z6 z7:Sl) {l:LZ} (h:pf fs st es l) (ring:List (List Str)) (hx:∀ x∈ring,x∈l.map (·.1)) (ho:o3=.own (.list (ring.map aA))\/o3=.shr (.list (ring.map aA))) :
  pf fs st es (ring.foldl (ph es) (l,[])).1/\∃ y4 y5 y6 y7,VR [.shr (cN fs es),.shr S,.own (.dict (dw (im l))),o3,z4,z5,z6,z7]=.ok (.nx [.shr (cN fs es),.shr S,.own (.dict (dw (im (ring.foldl (ph es) (l,[])).1))),.shr (.list ((ring.foldl (ph es) (l,[])).2.map aA)),y4,y5,y6,y7]):=by
 have L:=fun o=>OC g S o z5 z6 z7 (b:=(l,[])) h (cW _) ring hx
 unfold VR
 walk_at "zz"
 rcases ho with ho | ho
 ·subst ho
  obtain ⟨q1,y5,y6,y7,q2⟩:=L (.lck (.list (ring.map aA)))
  refine ⟨q1,.shr (.list ((ring.foldl (ph es) (l,[])).2.map aA)),y5,y6,y7,?_⟩
  have e:uK 3 (bO 5) KI [.shr (cN fs es),.shr S,.own (.dict (dw (im l))),.own (.list (ring.map aA)),.own (.list []),z5,z6,z7]=.ok (.nx [.shr (cN fs es),.shr S,.own (.dict (dw (im (ring.foldl (ph es) (l,[])).1))),.own (.list (ring.map aA)),.own (.list ((ring.foldl (ph es) (l,[])).2.map aA)),y5,y6,y7]):=by
   show XJ 3 _ (iY (bO 5) KI (ring.map aA) [.shr (cN fs es),.shr S,.own (.dict (dw (im l))),.lck (.list (ring.map aA)),.own (.list []),z5,z6,z7])=_
   have q2':=q2
   rw [eQ] at q2'
   rw [q2']
   rfl
  rw [e]
  walk_at "zz"
  simp only [RH]
  rw [Cj rfl]
  walk_at "zz"
 ·subst ho
  obtain ⟨q1,y5,y6,y7,q2⟩:=L (.shr (.list (ring.map aA)))
  refine ⟨q1,.shr (.list ((ring.foldl (ph es) (l,[])).2.map aA)),y5,y6,y7,?_⟩
  rw [TZ (d:=.list (ring.map aA)) rfl,pS (ds:=ring.map aA)]
  ·have q2':=q2
   rw [eQ] at q2'
   rw [q2']
   walk_at "zz"
   simp only [RH]
   rw [Cj rfl]
   walk_at "zz"
  ·walk_at "zz"
structure QZ (fs st:List Str) (es:List cS) (l:LZ):Prop where
 ok:pf fs st es l
 all:∀ x∈l.map (·.1),∀ e∈es,cg x e.needs e.bars=true->bz e x∈l.map (·.1)
theorem EM {fs st:List Str}{es:List cS} (g:dg fs es) (S:D):∀ (k fuel:Nat) (o3 z4 z5 z6 z7:Sl) (l:LZ) (ring:List (List Str)),pf fs st es l->(∀ x∈ring,x∈l.map (·.1))->(∀ x∈l.map (·.1),x∉ring->∀ e∈es,cg x e.needs e.bars=true->bz e x∈l.map (·.1)) ->
  (o3=.own (.list (ring.map aA))\/o3=.shr (.list (ring.map aA)))->65 - l.length + (if ring=[] then 0 else 1)<=k->k<fuel ->
  ∃ l' y3 y4 y5 y6 y7,QZ fs st es l'/\iL (Ag (fun ρ=>bh ρ 3)) VR fuel [.shr (cN fs es),.shr S,.own (.dict (dw (im l))),o3,z4,z5,z6,z7]=.ok (.nx [.shr (cN fs es),.shr S,.own (.dict (dw (im l'))),y3,y4,y5,y6,y7])
 | _,0,_,_,_,_,_,_,_,_,_,_,_,_,hf=>absurd hf (q_ _)
 | k,fuel + 1,o3,z4,z5,z6,z7,l,ring,h,hx,hc,ho,hk,hf=>by
  have ht:Ag (fun ρ=>bh ρ 3) [.shr (cN fs es),.shr S,.own (.dict (dw (im l))),o3,z4,z5,z6,z7]=.ok (!(ring.map aA).isEmpty):=Sj (by rcases ho with z | z<;>subst z<;>rfl)
  rw [iL,ht]
  cases ring with
  | nil=>exact ⟨l,o3,z4,z5,z6,z7,⟨h,fun x hx=>hc x hx (fun z=>nomatch z)⟩,rfl⟩
  | cons x r =>
   obtain ⟨h',y4,y5,y6,y7,q⟩:=QY g S o3 z4 z5 z6 z7 h (x::r) hx ho
   obtain ⟨a1,a2,a3,a4,a5,a6⟩:=Bo es (x::r) (l,[])
   have few:=h'.few g
   have few0:=h.few g
   simp only [bQ,wN] at a6
   rw [if_neg (by simp)] at hk
   have hk':65 - ((x::r).foldl (ph es) (l,[])).1.length + (if ((x::r).foldl (ph es) (l,[])).2=[] then 0 else 1)<=k - 1:=by
    by_cases hz:((x::r).foldl (ph es) (l,[])).2=[]
    ·rw [if_pos hz]
     rw [hz] at a6
     simp only [bQ,wN] at a6
     omega
    ·rw [if_neg hz]
     have:=List.length_pos_iff.mpr hz
     omega
   obtain ⟨l',w3,w4,w5,w6,w7,e1,e2⟩:=EM g S (k - 1) fuel (.shr (.list (((x::r).foldl (ph es) (l,[])).2.map aA))) y4 y5 y6 y7 _ _ h' (fun y hy=>by
    rcases a5 y hy with z | z
    ·cases z
    ·exact z) (fun y hy hn e he hg=>by
    rcases a3 y hy with z | z
    ·by_cases hm:y∈x::r
     ·exact a2 y hm e he hg
     ·obtain ⟨p,hp,e'⟩:=List.mem_map.mp (hc y z hm e he hg)
      rw [<- e']
      exact bt (a1 p hp)
    ·exact (hn z).elim) (.inr rfl) hk' (by omega)
   refine ⟨l',w3,w4,w5,w6,w7,e1,?_⟩
   simp only [aG,Lx,jM]
   rw [q]
   exact e2
theorem EN {fs st:List Str}{es:List cS} (g:dg fs es) (hs:nD fs st):∃ l,QZ fs st es l/\jG [cN fs es,aA st]=.ok (.dict ((.none,.none)::dw (im l))):=by
 have h0:pf fs st es [(st,[])]:=⟨by simp,List.mem_singleton.mpr rfl,fun p hp=>by rw [List.mem_singleton.mp hp];exact hs,fun p hp=>by rw [List.mem_singleton.mp hp];exact ⟨fun _ h=>(nomatch h),rfl,by simp⟩⟩
 obtain ⟨l,y3,y4,y5,y6,y7,e1,e2⟩:=EM g (aA st) 65 100000 (.own (.list ([st].map aA))) .no .no .no .no [(st,[])] [st] h0 (fun x hx=>hx) (fun x hx hn=>(hn hx).elim) (.inl rfl) (by simp) (by decide)
 refine ⟨l,e1,?_⟩
 unfold jG
 refine cE ?_
 rw [Oz]
 unfold bB
 walk_at "zz"
 rw [VP (x:=st) (d:=.list []) rfl rfl]
 walk_at "zz"
 have e2':iL (Ag fun ρ=>bh ρ 3) VR 100000 [.shr (cN fs es),.shr (aA st),.own (.dict (dw [(st,.list [])])),.own (.list [aA st]),.no,.no,.no,.no]=_:=e2
 rw [e2']
 walk_at "zz"
 rw [VO e1.ok.ne rfl]
 walk_at "zz"
def XU (es:List cS) (st m b:List Str):Prop:=∃ x,VQ es st x/\cg x m b=true
noncomputable def nF (es:List cS) (st m b:List Str):Bool:=@decide (XU es st m b) (zL _)
theorem EO {es:List cS}{st m b:List Str}:nF es st m b=true↔XU es st m b:=by
 unfold nF
 exact @decide_eq_true_iff _ (zL _)
theorem QZ.keys {fs st:List Str}{es:List cS}{l:LZ} (h:QZ fs st es l) (x:List Str):x∈l.map (·.1)↔VQ es st x:=by
 constructor
 ·intro hx
  obtain ⟨p,hp,rfl⟩:=List.mem_map.mp hx
  obtain ⟨r1,r2,_⟩:=h.ok.row p hp
  exact ⟨p.2,r1,r2⟩
 ·rintro ⟨rs,r1,r2⟩
  exact tG (M:=fun x=>x∈l.map (·.1)) h.all rs st x (bt (f:=(·.1)) h.ok.beg) r1 r2
theorem CM {fs st m b:List Str}{es:List cS}{ks:List (List Str)} (h:∀ x,x∈ks↔VQ es st x):(ks.any fun x=>cg x m b)=nF es st m b:=by
 rw [ef,EO,gI]
 constructor
 ·rintro ⟨x,h1,h2⟩;exact ⟨x,(h x).mp h1,h2⟩
 ·rintro ⟨x,h1,h2⟩;exact ⟨x,(h x).mpr h1,h2⟩
theorem vU {fs st m b:List Str}{es:List cS} (g:dg fs es) (hs:nD fs st) (hw:kR fs m b):kA [cN fs es,aA st,hZ m b]=.ok (.bool (nF es st m b)):=by
 have l1:=dZ hw.must g.rise.len
 have l2:=dZ hw.bars g.rise.len
 obtain ⟨l,hb,e⟩:=EN g hs
 have few:=hb.ok.few g
 unfold kA
 refine cE ?_
 unfold mQ bB
 walk_at "zz"
 rw [Ox]
 walk_at "zz"
 rw [e]
 walk_at "zz"
 rw [yZ,j9]
 walk_at "zz"
 rw [if_pos (by omega)]
 rw [dP _ (fun x:List Str=>aA x) (fun x=>cH (cg x m b)) (l.map (·.1)) fun x hx=>fM rfl (by
  walk_at "zz"
  rw [tF (by omega) (by omega)])]
 walk_at "zz"
 rw [iC _ (fun x=>cg x m b)]
 walk_at "zz"
 rw [qe,show (id∘fun x=>cg x m b)=fun x=>cg x m b from rfl,CM (fs:=fs) hb.keys]
theorem wx {fs:List Str}{es:List cS} (g:dg fs es) (p:cS->Bool):dg fs (es.filter p) :=
 ⟨g.rise,bE (cX _ _) g.len,(List.filter_sublist.map _).nodup g.nd,fun e he=>g.ok e (List.mem_filter.mp he).1⟩
theorem KJ {fs st m b:List Str}{es:List cS} (g:dg fs es) (hs:nD fs st) (hw:kR fs m b) {nm:Str} (hn:zM nm=true):jI [cN fs es,aA st,hZ m b,.str nm]=.ok (.bool (!nF (es.filter fun e=>!decide (e.name=nm)) st m b)):=by
 have lg:=g.len
 have lf:=cX (fun e:cS=>!decide (e.name=nm)) es
 unfold jI
 refine cE ?_
 unfold jH bB
 walk_at "zz"
 rw [EC]
 walk_at "zz"
 rw [if_pos (by omega)]
 rw [dH _ cc cc (fun e=>!decide (e.name=nm)) es fun e he=>jA (by
  walk_at "zz"
  rw [GU]
  walk_at "zz"
  rw [J8 true (g.ok e he).name hn]
  rfl) fun _=>rfl]
 walk_at "zz"
 rw [e_]
 walk_at "zz"
 rw [GT]
 walk_at "zz"
 have e:=vU (wx g fun e=>!decide (e.name=nm)) hs hw
 unfold cN at e
 rw [e]
 walk_at "zz"
theorem Ha {fs st m b:List Str}{es:List cS} (g:dg fs es) (hs:nD fs st) (hw:kR fs m b) (h:nF es st m b=true):gC [cN fs es,aA st,hZ m b]=.ok .none:=by
 unfold gC
 refine yX (ρ:=[.shr (cN fs es),.shr (aA st),.shr (hZ m b)]) ?_
 unfold ik bB
 walk_at "zz"
 rw [GV g hs hw]
 walk_at "zz"
 rw [vU g hs hw,h]
 walk_at "zz"
theorem Hb {fs st m b:List Str}{es:List cS} (g:dg fs es) (hs:nD fs st) (hw:kR fs m b) (h:nF es st m b=false):gC [cN fs es,aA st,hZ m b]=.ex "NoWay" none:=by
 unfold gC
 refine NQ ?_
 unfold ik bB
 walk_at "zz"
 rw [GV g hs hw]
 walk_at "zz"
 rw [vU g hs hw,h]
 walk_at "zz"
 rw [QK (ds:=[.str "no row serves the want"]) _ _ _ _ rfl (by decide)]
noncomputable def kE (es:List cS) (st m b:List Str):List cS:=es.filter fun e=>!nF (es.filter fun x=>!decide (x.name=e.name)) st m b
theorem Q_ {fs st m b:List Str}{es:List cS} (g:dg fs es) (hs:nD fs st) (hw:kR fs m b) (h:nF es st m b=true):j7 [cN fs es,aA st,hZ m b]=.ok (gf (kE es st m b)):=by
 have lg:=g.len
 unfold j7
 refine cE ?_
 unfold o6 bB
 walk_at "zz"
 rw [Ha g hs hw h]
 walk_at "zz"
 rw [EC]
 walk_at "zz"
 rw [if_pos (by omega)]
 rw [dH _ cc (fun e=>aP e.name) (fun e=>!nF (es.filter fun x=>!decide (x.name=e.name)) st m b) es fun e he=>jA (by
  walk_at "zz"
  rw [GU]
  walk_at "zz"
  rw [KJ g hs hw (g.ok e he).name]
  walk_at "zz") fun _=>(by
  walk_at "zz"
  rw [GU])]
 walk_at "zz"
 rfl
theorem R1 {fs st m b:List Str}{es:List cS} (g:dg fs es) (hs:nD fs st) (hw:kR fs m b) (h:nF es st m b=false):j7 [cN fs es,aA st,hZ m b]=.ex "NoWay" none:=by
 unfold j7
 refine NQ ?_
 unfold o6 bB
 walk_at "zz"
 rw [Hb g hs hw h]
 walk_at "zz"
theorem OD {fs st m b:List Str}{es:List cS} (g:dg fs es) (hs:nD fs st) (hw:kR fs m b) (h:nF es st m b=true):∃ rs,(∀ e∈rs,e∈es)/\p7 st m b rs=true/\lN [cN fs es,aA st,hZ m b]=.ok (gf rs):=by
 have l1:=dZ hw.must g.rise.len
 have l2:=dZ hw.bars g.rise.len
 obtain ⟨l,hb,e⟩:=EN g hs
 have few:=hb.ok.few g
 have hf:((l.map (·.1)).any fun x=>cg x m b)=true:=by rw [CM (fs:=fs) hb.keys];exact h
 have lf:=cX (fun x=>cg x m b) (l.map (·.1))
 rw [al] at lf
 cases hF:(l.map (·.1)).filter (fun x=>cg x m b) with
 | nil =>
  obtain ⟨x,h1,h2⟩:=List.any_eq_true.mp hf
  have:x∈(l.map (·.1)).filter (fun x=>cg x m b):=List.mem_filter.mpr ⟨h1,h2⟩
  rw [hF] at this
  cases this
 | cons x0 r0 =>
  have hx0:x0∈(l.map (·.1)).filter (fun x=>cg x m b):=by rw [hF];exact ap
  obtain ⟨k1,k2⟩:=List.mem_filter.mp hx0
  have km:=z3 k1
  obtain ⟨r1,r2,r3⟩:=hb.ok.row _ km
  refine ⟨z0 l x0,r1,by unfold p7;rw [show o_ (z0 l x0) st=some x0 from r2];exact k2,?_⟩
  have ixr:∀ x∈l.map (·.1),Ct (.dict ((.none,.none)::dw (im l))) (aA x)=.ok (gf (z0 l x)):=fun x hx=>by
   have:=Ov (l:=im l) (by rw [j9];exact hb.ok.nd) (EK (z3 hx))
   exact this
  have ix0:a_ (.list ((x0::r0).map aA)) (.int 0)=.ok (aA x0):=oz (j:=0) rfl
  have near:∃ r1,rM [.dict ((.none,.none)::dw (im l)),hZ m b]=.ok (.list ((x0::r1).map aA)):=by
   refine ⟨r0.filter fun x=>decide (((z0 l x).length:Int)=(z0 l x0).length),?_⟩
   unfold rM
   refine cE ?_
   unfold rL bB
   walk_at "zz"
   rw [Ox]
   walk_at "zz"
   rw [yZ,j9]
   walk_at "zz"
   rw [if_pos (by omega)]
   rw [dH _ (fun x:List Str=>aA x) (fun x=>aA x) (fun x=>cg x m b) (l.map (·.1)) fun x hx=>jA (by
    walk_at "zz"
    rw [tF (by omega) (by omega)]
    walk_at "zz") fun _=>rfl]
   rw [hF] at lf ⊢
   walk_at "zz"
   simp only [aX] at lf
   rw [if_pos (by omega)]
   rw [show (aA x0::mD (fun x=>aA x) r0)=(x0::r0).map (fun x=>aA x) from rfl]
   rw [dH _ (fun x:List Str=>aA x) (fun x=>aA x) (fun x=>decide (((z0 l x).length:Int)=(z0 l x0).length)) (x0::r0) fun x hx=>jA (by
    have hx':x∈l.map (·.1):=(List.mem_filter.mp (by rw [hF];exact hx)).1
    walk_at "zz"
    rw [ixr x hx']
    walk_at "zz"
    rw [show (aA x0::mD (fun x=>aA x) r0)=(x0::r0).map aA from rfl,ix0]
    walk_at "zz"
    rw [ixr x0 k1]
    walk_at "zz"
    rw [lU]
    walk_at "zz") fun _=>rfl]
   rw [Dq (by simp)]
   walk_at "zz"
  obtain ⟨r1',hn⟩:=near
  have ix1:a_ (.list ((x0::r1').map aA)) (.int 0)=.ok (aA x0):=oz (j:=0) rfl
  unfold lN
  refine cE ?_
  unfold oO bB
  walk_at "zz"
  rw [GV g hs hw]
  walk_at "zz"
  rw [e]
  walk_at "zz"
  rw [hn]
  walk_at "zz"
  rw [Sj (ds:=(x0::r1').map aA) rfl]
  walk_at "zz"
  rw [Lx]
  walk_at "zz"
  rw [show (aA x0::mD aA r1')=(x0::r1').map aA from rfl,ix1]
  walk_at "zz"
  rw [ixr x0 k1]
  walk_at "zz"
def Wc:av->R Fl:=(aR (eV 6 (dR 2 dY (J.ae (fun ρ=>bj ρ 5) (J.ae (g2 (fun ρ=>bh ρ 3) (fun ρ=>bh ρ 4) a_) J.aE)))) (eM (yh (eZ (g2 (fun ρ=>bh ρ 6) (fun _=>.ok .none) (ym true))) (eZ (g2 (fun ρ=>bh ρ 6) (fun ρ=>bh ρ 2) (inT true)))) (aR (sL 2 (fun ρ=>bj ρ 6) (g2 (g2 (fun ρ=>bh ρ 2) (g2 (fun ρ=>bh ρ 3) (fun ρ=>bh ρ 4) a_) Ct) (fun _=>.ok (.int 1)) dO)) (nA 3 (fun ρ=>bj ρ 6))) (fun ρ=>.ok (.nx ρ))))
def VS:av->R Fl:=aR (lK (jq (g2 (fun ρ=>bh ρ 0) (fun _=>.ok (.int 1)) a_)) (bO 5) Wc) (eV 4 (g2 (fun ρ=>bh ρ 4) (fun _=>.ok (.int 1)) dO))
theorem OE:l7=aR (eO 2 (S8 (fun ρ=>bj ρ 1) (fun _=>.ok (.int 0)))) (aR (eO 3 (e8 (J.ae (fun ρ=>bj ρ 1) J.aE) .list)) (aR (eV 4 (fun _=>.ok (.int 0))) (aR (iL (eZ (g2 (fun ρ=>bh ρ 4) (c7 (J.ae (fun ρ=>bh ρ 3) J.aE) (i6 jS)) A9)) VS 100000) (TF 2 (cG (fun ρ=>bj ρ 2)))))):=rfl
abbrev NZ:=List (List Str×Int)
def le (l:NZ):List (List Str×D):=l.map fun p=>(p.1,.int p.2)
theorem jV (l:NZ):kS (le l)=l.map (·.1):=by
 unfold kS le
 rw [cF]
 rfl
structure Lk (fs st:List Str) (es:List cS) (l:NZ):Prop where
 nd:(l.map (·.1)).Nodup
 beg:st∈l.map (·.1)
 sub:∀ x∈l.map (·.1),nD fs x
 rch:∀ x∈l.map (·.1),VQ es st x
theorem Lk.ne {fs st:List Str}{es:List cS}{l:NZ} (h:Lk fs st es l):le l≠[]:=by
 intro z
 have:=List.map_eq_nil_iff.mp z
 have h1:=h.beg
 rw [this] at h1
 cases h1
theorem Lk.few {fs st:List Str}{es:List cS}{l:NZ} (g:dg fs es) (h:Lk fs st es l):l.length<=64:=by
 have:=EI g.rise (l:=le l) (by rw [jV];exact h.nd) fun x hx=>by
  rw [jV] at hx
  exact h.sub x hx
 unfold le at this
 rw [al] at this
 exact this
def su (x:List Str) (n:Int) (l:NZ) (e:cS):NZ :=
 if cg x e.needs e.bars=true/\bz e x∉l.map (·.1) then l++[(bz e x,n + 1)] else l
theorem R4 {fs st x:List Str}{es:List cS}{n:Int}{l:NZ}{e:cS} (g:dg fs es) (h:Lk fs st es l) (hx:x∈l.map (·.1)) (he:e∈es):Lk fs st es (su x n l e)/\(∀ p∈l,p∈su x n l e)/\(∃ t,su x n l e=l++t)/\(cg x e.needs e.bars=true->bz e x∈(su x n l e).map (·.1)):=by
 unfold su
 by_cases hc:cg x e.needs e.bars=true/\bz e x∉l.map (·.1)
 ·rw [if_pos hc]
  obtain ⟨rs,r1,r2⟩:=h.rch x hx
  refine ⟨⟨?_,?_,fun y hy=>?_,fun y hy=>?_⟩,fun p hp=>bP _ hp,⟨_,rfl⟩,fun _=>?_⟩
  ·rw [ba];exact xn h.nd hc.2
  ·rw [ba];exact bP _ h.beg
  ·rw [ba] at hy
   rcases List.mem_append.mp hy with z | z
   ·exact h.sub y z
   ·rw [List.mem_singleton.mp z];exact pc g.rise.up (g.ok e he) (h.sub x hx)
  ·rw [ba] at hy
   rcases List.mem_append.mp hy with z | z
   ·exact h.rch y z
   ·rw [List.mem_singleton.mp z]
    refine ⟨rs++[e],fun a ha=>?_,y_ e _ _ _ r2 hc.1⟩
    rcases List.mem_append.mp ha with w | w
    ·exact r1 a w
    ·rw [List.mem_singleton.mp w];exact he
  ·rw [ba];exact aM _ ap
 ·rw [if_neg hc]
  exact ⟨h,fun _ h=>h,⟨[],(bT _).symm⟩,fun hg=>xl fun z=>hc ⟨hg,z⟩⟩
theorem U4 {l:NZ}{j:Nat}{x:List Str} (h:(l.map (·.1))[j]?=some x):a_ (.list ((l.map (·.1)).map aA)) (.int (j:Nat))=.ok (aA x):=oz (by rw [aN,h];rfl)
theorem VT {fs st x:List Str}{es:List cS}{n:Int} (g:dg fs es) (B S:D) (j:Nat) (z6:Sl) {l:NZ}{e:cS} (h:Lk fs st es l) (hj:(l.map (·.1))[j]?=some x) (hn:(x,n)∈l) (he:e∈es) :
  ∃ y6,Wc [.shr B,.shr S,.own (.dict (dw (le l))),.own (.list ((l.map (·.1)).map aA)),.shr (.int (j:Nat)),.shr (cc e),z6]=.ok (.nx [.shr B,.shr S,.own (.dict (dw (le (su x n l e)))),.own (.list (((su x n l e).map (·.1)).map aA)),.shr (.int (j:Nat)),.shr (cc e),y6]):=by
 have few:=h.few g
 have hx:x∈l.map (·.1):=cM hj
 have ls:=dZ (h.sub x hx) g.rise.len
 have ixk:=U4 hj
 have ixn:Ct (.dict (dw (le l))) (aA x)=.ok (.int n):=Jg (l:=le l) (by rw [jV];exact h.nd) (bt (f:=fun p:List Str×Int=>(p.1,ck p.2)) hn)
 refine ⟨.shr (Oj (Bg e x)),?_⟩
 unfold Wc
 walk_at "zz"
 rw [ixk]
 walk_at "zz"
 rw [uX (o7 g he) (by omega)]
 walk_at "zz"
 rw [rP]
 unfold su
 by_cases hg:cg x e.needs e.bars=true
 ·rw [if_pos hg,Bh]
  rw [Si]
  walk_at "zz"
  rw [Jh h.ne,jV]
  by_cases hm:bz e x∈l.map (·.1)
  ·rw [decide_eq_true hm,if_neg (fun z=>z.2 hm)]
   walk_at "zz"
  ·rw [decide_eq_false hm,if_pos ⟨hg,hm⟩]
   walk_at "zz"
   rw [Ow (l:=le l) (x:=bz e x) (d:=.int (n + 1)) rfl ?_ rfl h.ne (by unfold le;rw [al];omega) (by rw [jV];exact hm)]
   ·walk_at "zz"
    rw [yW (ds:=(l.map (·.1)).map aA) (d:=aA (bz e x)) rfl rfl (by rw [al,al];omega)]
    unfold le
    simp only [ba]
    rfl
   ·walk_at "zz"
    rw [ixk]
    walk_at "zz"
    rw [ixn]
    walk_at "zz"
 ·rw [if_neg hg,Bj,if_neg (fun z=>hg z.1)]
  rw [Od]
  walk_at "zz"
theorem U5 {fs st x:List Str}{es:List cS}{n:Int} (g:dg fs es) (B S:D) (j:Nat) (z5 z6:Sl) {l:NZ} (h:Lk fs st es l) (hj:(l.map (·.1))[j]?=some x) (hn:(x,n)∈l) (xs:List cS) (hx:∀ e∈xs,e∈es) :
  Lk fs st es (xs.foldl (su x n) l)/\(∃ t,xs.foldl (su x n) l=l++t)/\(∀ e∈xs,cg x e.needs e.bars=true->bz e x∈(xs.foldl (su x n) l).map (·.1))/\∃ y5 y6,iY (bO 5) Wc (xs.map cc) [.shr B,.shr S,.own (.dict (dw (le l))),.own (.list ((l.map (·.1)).map aA)),.shr (.int (j:Nat)),z5,z6]=.ok (.nx [.shr B,.shr S,.own (.dict (dw (le (xs.foldl (su x n) l)))),.own (.list (((xs.foldl (su x n) l).map (·.1)).map aA)),.shr (.int (j:Nat)),y5,y6]):=by
 induction xs generalizing l z5 z6 with
 | nil=>exact ⟨h,⟨[],(bT _).symm⟩,fun _ h=>(nomatch h),z5,z6,rfl⟩
 | cons e r ih =>
  have he:=hx e ap
  have hxm:x∈l.map (·.1):=cM hj
  obtain ⟨a1,a2,⟨t,a3⟩,a4⟩:=R4 (n:=n) g h hxm he
  obtain ⟨y6,q⟩:=VT g B S j z6 h hj hn he
  have hj':((su x n l e).map (·.1))[j]?=some x:=by
   rw [a3,ba,bv (List.getElem?_eq_some_iff.mp hj).1]
   exact hj
  obtain ⟨b1,⟨t2,b2⟩,b3,w5,w6,b4⟩:=ih (.shr (cc e)) y6 a1 hj' (a2 _ hn) fun a ha=>hx a (am _ ha)
  rw [dM]
  refine ⟨b1,⟨t++t2,by rw [b2,a3,ib]⟩,fun a ha hg=>?_,w5,w6,?_⟩
  ·rcases List.mem_cons.mp ha with z | z
   ·subst z
    have:=a4 hg
    rw [b2,ba]
    exact bP _ this
   ·exact b3 a z hg
  ·rw [aG,uY (ρ1:=[.shr B,.shr S,.own (.dict (dw (le l))),.own (.list ((l.map (·.1)).map aA)),.shr (.int (j:Nat)),.shr (cc e),z6]) rfl q]
   exact b4
theorem EQ {fs st:List Str}{es:List cS} (g:dg fs es) (S:D):∀ (k fuel j:Nat) (z5 z6:Sl) (l:NZ),Lk fs st es l->j<=l.length->(∀ i x,i<j->(l.map (·.1))[i]?=some x->∀ e∈es,cg x e.needs e.bars=true->bz e x∈l.map (·.1))->65 - j<=k->k<fuel ->
  ∃ (l':NZ) (y3 y4 y5 y6:Sl),Lk fs st es l'/\(∀ x∈l'.map (·.1),∀ e∈es,cg x e.needs e.bars=true->bz e x∈l'.map (·.1))/\iL (eZ (g2 (fun ρ=>bh ρ 4) (c7 (J.ae (fun ρ=>bh ρ 3) J.aE) (i6 jS)) A9)) VS fuel [.shr (cN fs es),.shr S,.own (.dict (dw (le l))),.own (.list ((l.map (·.1)).map aA)),.shr (.int (j:Nat)),z5,z6]=.ok (.nx [.shr (cN fs es),.shr S,.own (.dict (dw (le l'))),y3,y4,y5,y6])
 | _,0,_,_,_,_,_,_,_,_,hf=>absurd hf (q_ _)
 | k,fuel + 1,j,z5,z6,l,h,hj,hc,hk,hf=>by
  have few:=h.few g
  have ht:eZ (g2 (fun ρ=>bh ρ 4) (c7 (J.ae (fun ρ=>bh ρ 3) J.aE) (i6 jS)) A9) [.shr (cN fs es),.shr S,.own (.dict (dw (le l))),.own (.list ((l.map (·.1)).map aA)),.shr (.int (j:Nat)),z5,z6]=.ok (decide (j<l.length)):=by
   walk_at "zz"
   simp only [Int.ofNat_lt]
  rw [iL,ht]
  by_cases hl:j<l.length
  ·rw [decide_eq_true hl]
   simp only
   have hlm:j<(l.map (·.1)).length:=by rw [al];exact hl
   have hx:(l.map (·.1))[j]?=some (l.map (·.1))[j]:=aQ hlm
   have hn:((l.map (·.1))[j],l[j].2)∈l:=by
    have:((l.map (·.1))[j],l[j].2)=l[j]:=by rw [pP]
    rw [this]
    exact gH hl
   obtain ⟨b1,⟨t,b2⟩,b3,y5,y6,b4⟩:=U5 g (cN fs es) S j z5 z6 h hx hn es fun _ h=>h
   have hb:VS [.shr (cN fs es),.shr S,.own (.dict (dw (le l))),.own (.list ((l.map (·.1)).map aA)),.shr (.int (j:Nat)),z5,z6]=.ok (.nx [.shr (cN fs es),.shr S,.own (.dict (dw (le (es.foldl (su (l.map (·.1))[j] l[j].2) l)))),.own (.list (((es.foldl (su (l.map (·.1))[j] l[j].2) l).map (·.1)).map aA)),.shr (.int ((j + 1:Nat):Int)),y5,y6]):=by
    unfold VS
    walk_at "zz"
    rw [pS (ds:=es.map cc)]
    ·rw [b4]
     walk_at "zz"
     rfl
    ·walk_at "zz"
     rw [EC]
     walk_at "zz"
   rw [hb]
   obtain ⟨l',w3,w4,w5,w6,e1,e2,e3⟩:=EQ g S (k - 1) fuel (j + 1) y5 y6 _ b1 (by rw [b2,aO];omega) (fun i x hi hix e he hg=>by
    rw [b2,ba] at hix
    have hi':i<(l.map (·.1)).length:=by rw [al];omega
    rw [bv hi'] at hix
    by_cases hij:i=j
    ·subst hij
     rw [hx] at hix
     cases hix
     exact b3 e he hg
    ·have:=hc i x (by omega) hix e he hg
     rw [b2,ba]
     exact bP _ this) (by omega) (by omega)
   exact ⟨l',w3,w4,w5,w6,e1,e2,e3⟩
  ·rw [decide_eq_false hl]
   simp only
   refine ⟨l,_,_,z5,z6,h,fun x hx=>?_,rfl⟩
   obtain ⟨i,hi,e⟩:=fm hx
   rw [al] at hi
   exact hc i x (by omega) (by rw [aQ (by rw [al];exact hi),e])
theorem KL {fs st:List Str}{es:List cS} (g:dg fs es) (hs:nD fs st):∃ l:NZ,(l.map (·.1)).Nodup/\l.length<=64/\(∀ x,x∈l.map (·.1)↔VQ es st x)/\l8 [cN fs es,aA st]=.ok (.dict ((.none,.none)::dw (le l))):=by
 have h0:Lk fs st es [(st,0)]:=⟨by simp,List.mem_singleton.mpr rfl,fun p hp=>by rw [List.mem_singleton.mp hp];exact hs,fun p hp=>by rw [List.mem_singleton.mp hp];exact ⟨[],fun _ h=>(nomatch h),rfl⟩⟩
 obtain ⟨l,y3,y4,y5,y6,e1,e2,e3⟩:=EQ g (aA st) 65 100000 0 .no .no [(st,0)] h0 (cW _) (fun i x hi=>absurd hi (q_ _)) (by simp) (by decide)
 refine ⟨l,e1.nd,e1.few g,fun x=>⟨e1.rch x,?_⟩,?_⟩
 ·rintro ⟨rs,r1,r2⟩
  exact tG (M:=fun x=>x∈l.map (·.1)) e2 rs st x e1.beg r1 r2
 ·unfold l8
  refine cE ?_
  rw [OE]
  unfold bB
  walk_at "zz"
  rw [VP (x:=st) (d:=.int 0) rfl rfl]
  walk_at "zz"
  have e3':iL (eZ (g2 (fun ρ=>bh ρ 4) (c7 (J.ae (fun ρ=>bh ρ 3) J.aE) (i6 jS)) A9)) VS 100000 [.shr (cN fs es),.shr (aA st),.own (.dict (dw [(st,.int 0)])),.own (.list [aA st]),.shr (.int 0),.no,.no]=_:=e3
  unfold A9 at e3'
  rw [e3']
  walk_at "zz"
  rw [VO e1.ne rfl]
  walk_at "zz"
theorem OF {fs st m b:List Str}{es:List cS} (g:dg fs es) (hs:nD fs st) (hw:kR fs m b):∃ d,j8 [cN fs es,aA st,hZ m b]=.ok d/\ym false d .none=.ok (.bool (!nF es st m b)):=by
 have l1:=dZ hw.must g.rise.len
 have l2:=dZ hw.bars g.rise.len
 obtain ⟨l,nd,few,hk,e⟩:=KL g hs
 let ls:=(l.filter fun p=>cg p.1 m b).map (·.2)
 have hl:ls.length<=l.length:=by
  show ((l.filter fun p=>cg p.1 m b).map (·.2)).length<=_
  rw [al]
  exact cX _ _
 have hsv:nF es st m b=!decide (ls=[]):=by
  rw [<- CM (fs:=fs) hk,ef,gI]
  simp only [wo,decide_eq_false_iff_not]
  constructor
  ·rintro ⟨x,h1,h2⟩ hz
   obtain ⟨p,hp,rfl⟩:=List.mem_map.mp h1
   have:p∈l.filter fun p=>cg p.1 m b:=List.mem_filter.mpr ⟨hp,h2⟩
   rw [List.map_eq_nil_iff.mp hz] at this
   cases this
  ·intro hz
   obtain ⟨p,hp⟩:=List.exists_mem_of_ne_nil _ (fun z=>hz (by show mD _ _=[];rw [z];rfl):(l.filter fun p=>cg p.1 m b)≠[])
   obtain ⟨h1,h2⟩:=List.mem_filter.mp hp
   exact ⟨p.1,bt (f:=(·.1)) h1,h2⟩
 have hm:gK (ij 1 [.no,.shr (hZ m b),.shr (.dict ((.none,.none)::dw (le l)))] (eZ (dR 2 il (J.ae (fun ρ=>bj ρ 0) (J.ae (fun ρ=>bj ρ 1) J.aE)))) (g2 (fun ρ=>bh ρ 2) (fun ρ=>bh ρ 0) Ct)) ((l.map (·.1)).map aA)=.ok (ls.map .int):=by
  rw [cF]
  have:=dH (ij 1 [.no,.shr (hZ m b),.shr (.dict ((.none,.none)::dw (le l)))] (eZ (dR 2 il (J.ae (fun ρ=>bj ρ 0) (J.ae (fun ρ=>bj ρ 1) J.aE)))) (g2 (fun ρ=>bh ρ 2) (fun ρ=>bh ρ 0) Ct)) (fun p:List Str×Int=>aA p.1) (fun p=>ck p.2) (fun p=>cg p.1 m b) l fun p hp=>jA (by
   walk_at "zz"
   rw [CH (by omega) (by omega)]
   walk_at "zz") fun _=>(by
   walk_at "zz"
   exact Ov (l:=le l) (by rw [jV];exact nd) (bt (f:=fun p:List Str×Int=>(p.1,ck p.2)) hp))
  refine Eq.trans this ?_
  show _=R.ok (((l.filter fun p=>cg p.1 m b).map (·.2)).map ck)
  rw [cF]
  rfl
 have lay:c8 (ls.map .int)=true:=yU _ ls fun _ _=>rfl
 have key:∀ {d:D},(bif decide (ls=[]) then R.ok (Fl.rt .none) else (GN (.list (ls.map .int))).bind X4)=.ok (.rt d)->j8 [cN fs es,aA st,hZ m b]=.ok d:=fun {d} h=>by
  unfold j8
  refine cE ?_
  unfold rN bB
  walk_at "zz"
  rw [e]
  walk_at "zz"
  rw [Ox]
  walk_at "zz"
  rw [yZ,jV]
  walk_at "zz"
  rw [if_pos (by omega),hm]
  walk_at "zz"
  rw [CL _ lay]
  have e0:decide (ls.map ck=[])=decide (ls=[]):=by
   rw [ef]
   simp
  rw [e0]
  cases hz:decide (ls=[]) with
  | true =>
   rw [hz] at h
   walk_at "zz"
   exact h
  | false =>
   rw [hz] at h
   walk_at "zz"
   exact h
 rw [hsv]
 by_cases hz:ls=[]
 ·exact ⟨.none,key (by rw [decide_eq_true hz];rfl),by rw [decide_eq_true hz,Od];rfl⟩
 ·refine ⟨.int (Qw ls),key ?_,by rw [decide_eq_false hz];rfl⟩
  rw [decide_eq_false hz]
  have hp:0<ls.length:=List.length_pos_iff.mpr hz
  have hmin:GN (.list (ls.map .int))=.ok (.int (Qw ls)):=by
   unfold GN
   simp only [yM,if_pos hp]
  rw [hmin]
  rfl
def Xh:av->R Fl:=(aR (eV 9 (dR 5 lS (J.ae (fun ρ=>bj ρ 0) (J.ae (g2 (fun _=>.ok (.int 300)) (g2 (fun _=>.ok (.int 40)) (fun ρ=>bh ρ 8) uH) dO) (J.ae (fun ρ=>bj ρ 1) (J.ae (fun ρ=>bj ρ 2) (J.ae (dR 3 bq (J.ae (fun ρ=>bj ρ 0) (J.ae (fun ρ=>bj ρ 8) (J.ae (fun _=>.ok (.int 8)) J.aE)))) J.aE))))))) (eM (yh (eZ (dR 4 lT (J.ae (fun ρ=>bj ρ 1) (J.ae (fun ρ=>bj ρ 2) (J.ae (fun ρ=>bj ρ 3) (J.ae (fun ρ=>bj ρ 9) J.aE)))))) (kr (eZ (c7 (J.ae (dS 1 [9] (jq (fun ρ=>bh ρ 4)) (fun _=>.ok true) (g2 (fun ρ=>bh ρ 0) (fun ρ=>bh ρ 1) (Aa false))) J.aE) (i6 (fI fun bs=>bs.all id)))))) (cG (fun _=>.ok (.bool false))) (fun ρ=>.ok (.nx ρ))))
def Xi:av->R Fl:=(aR (eV 7 (e8 (J.ae (g2 (fun ρ=>bh ρ 1) (fun _=>.ok (.int 0)) a_) (J.ae (c7 (J.ae (dS 1 [6] (jq (g2 (fun ρ=>bh ρ 1) (fun _=>.ok (.int 1)) a_)) (eZ (g2 (fun ρ=>bh ρ 0) (fun ρ=>bh ρ 1) (lI true))) (fun ρ=>bj ρ 0)) J.aE) (i6 g9)) J.aE)) .tuple)) (eM (eZ (g2 (dR 3 j8 (J.ae (fun ρ=>bj ρ 7) (J.ae (fun ρ=>bj ρ 2) (J.ae (fun ρ=>bj ρ 3) J.aE)))) (fun _=>.ok .none) (ym false))) (nA 5 (g2 (fun ρ=>bh ρ 6) (fun _=>.ok (.int 0)) a_)) (fun ρ=>.ok (.nx ρ))))
def Xj:av->R Fl:=aR (eM (Ik (eZ (g2 (fun ρ=>bh ρ 4) (fun ρ=>bh ρ 5) (lI true))) (kr (eZ (c7 (J.ae (dS 1 [1,2,3] (jq (fun ρ=>bh ρ 4)) (fun _=>.ok true) (g2 (fun ρ=>bh ρ 0) (dR 3 lN (J.ae (fun ρ=>bj ρ 1) (J.ae (fun ρ=>bj ρ 2) (J.ae (fun ρ=>bj ρ 3) J.aE)))) (Aa false))) J.aE) (i6 (fI fun bs=>bs.all id)))))) (cG (fun _=>.ok (.bool false))) (fun ρ=>.ok (.nx ρ))) (aR (lK (uI (J.ae (fun _=>.ok (.int 3)) J.aE)) (bO 8) Xh) (cG (fun _=>.ok (.bool true))))
theorem OG:IZ=aR (yp (dR 3 lR (J.ae (fun ρ=>bj ρ 0) (J.ae (fun _=>.ok (.int 5)) (J.ae (fun _=>.ok (.int 6)) J.aE)))) (ku 3 (cn (bO 1) (cn (bO 2) (cn (bO 3) kW))))) (aR (eV 4 (dR 3 (yG Qx j7) (J.ae (fun ρ=>bj ρ 1) (J.ae (fun ρ=>bj ρ 2) (J.ae (fun ρ=>bj ρ 3) J.aE))))) (aR (eM (eZ (g2 (dR 3 j8 (J.ae (fun ρ=>bj ρ 1) (J.ae (fun ρ=>bj ρ 2) (J.ae (fun ρ=>bj ρ 3) J.aE)))) (fun _=>.ok .none) (ym false))) (cG (g2 (fun ρ=>bh ρ 4) (e8 (J.ae (fun _=>.ok (.str "refused")) (J.ae (fun _=>.ok (.int 5)) J.aE)) .tuple) (lI false))) (fun ρ=>.ok (.nx ρ))) (aR (eO 5 (e8 J.aE .list)) (aR (lK (jq (g2 (fun ρ=>bh ρ 1) (fun _=>.ok (.int 1)) a_)) (bO 6) Xi) Xj)))):=rfl
theorem OH {es:List cS} (nd:(es.map (·.name)).Nodup) {a e:cS} (ha:a∈es) (he:e∈es) (h:a.name=e.name):a=e:=by
 induction es with
 | nil=>cases ha
 | cons x r ih =>
  obtain ⟨n1,n2⟩:=List.nodup_cons.mp nd
  rcases List.mem_cons.mp ha with z | z<;>rcases List.mem_cons.mp he with w | w
  ·rw [z,w]
  ·exact (n1 (by show x.name∈_;rw [<- z,h];exact bt w)).elim
  ·exact (n1 (by show x.name∈_;rw [<- w,<- h];exact bt z)).elim
  ·exact ih n2 z w
theorem Xk {fs:List Str}{es:List cS} (g:dg fs es) {a e:cS} (ha:a∈es) (he:e∈es):lI true (cc a) (cc e)=.ok (.bool (!decide (a.name=e.name))):=by
 have h4:aZ (cc a) (cc e)=decide (a.name=e.name):=by
  by_cases h:a.name=e.name
  ·have:=OH g.nd ha he h
   subst this
   rw [Oa]
   simp
  ·rw [decide_eq_false h]
   unfold cc
   simp only [aZ,dD]
   simp [h]
 unfold lI
 rw [yV g.rise.ok (g.ok a ha),yV g.rise.ok (g.ok e he),decide_eq_true (bE (Nat.min_le_left _ _) (bE (KA a) (by decide))),h4]
 rfl
theorem wy {α:Type} (p:α->Bool):∀ (xs b:List α),xs.foldl (fun b e=>if p e then b++[e] else b) b=b++xs.filter p
 | [],b=>by simp
 | x::r,b=>by
  rw [dM,wy p r]
  cases hp:p x with
  | true=>rw [if_pos rfl,Dq hp,ib];rfl
  | false=>rw [if_neg aS,List.filter_cons_of_neg (by rw [hp];exact aS)]
theorem Jj {es rs:List cS}{st m b:List Str} (hr:∀ e∈rs,e∈es) (hs:p7 st m b rs=true):∀ e∈kE es st m b,e.name∈rs.map (·.name):=by
 intro e he
 obtain ⟨h1,h2⟩:=List.mem_filter.mp he
 refine xl fun hn=>?_
 have:nF (es.filter fun x=>!decide (x.name=e.name)) st m b=true:=by
  rw [EO]
  unfold p7 at hs
  split at hs
  ·rename_i s hrun
   refine ⟨s,⟨rs,fun x hx=>List.mem_filter.mpr ⟨hr x hx,?_⟩,hrun⟩,hs⟩
   rw [decide_eq_false fun z=>hn (by rw [<- z];exact bt hx)]
   rfl
  ·cases hs
 rw [this] at h2
 cases h2
theorem zb (rs:List cS):gf rs=.list ((rs.map (·.name)).map .str):=by
 unfold gf
 rw [cF]
 rfl
theorem U6 {fs st m b:List Str}{es:List cS} (g:dg fs es) (hs:nD fs st) (hw:kR fs m b) (S T:D) (z7 z8 z9:Sl) {due:List cS}{e:cS} (he:e∈es) (hl:due.length<100):∃ y7,Xi [.shr S,.shr (cN fs es),.shr (aA st),.shr (hZ m b),.shr T,.own (gf due),.shr (cc e),z7,z8,z9]=.ok (.nx [.shr S,.shr (cN fs es),.shr (aA st),.shr (hZ m b),.shr T,.own (gf (if !nF (es.filter fun x=>!decide (x.name=e.name)) st m b then due++[e] else due)),.shr (cc e),y7,z8,z9]):=by
 have lg:=g.len
 have lf:=cX (fun x:cS=>!decide (x.name=e.name)) es
 obtain ⟨d,f1,f2⟩:=OF (wx g fun x=>!decide (x.name=e.name)) hs hw
 unfold cN at f1
 refine ⟨.shr (cN fs (es.filter fun x=>!decide (x.name=e.name))),?_⟩
 unfold Xi
 walk_at "zz"
 rw [GT]
 walk_at "zz"
 rw [EC]
 walk_at "zz"
 rw [if_pos (by omega)]
 rw [dH _ cc cc (fun x=>!decide (x.name=e.name)) es fun x hx=>jA (by
  walk_at "zz"
  rw [Xk g hx he]
  walk_at "zz") fun _=>rfl]
 walk_at "zz"
 rw [e_]
 walk_at "zz"
 rw [f1]
 walk_at "zz"
 rw [f2]
 cases hq:nF (es.filter fun x=>!decide (x.name=e.name)) st m b with
 | true =>
  walk_at "zz"
  rfl
 | false =>
  walk_at "zz"
  rw [yW (ds:=due.map fun e=>aP e.name) (d:=.str e.name) rfl (by
   walk_at "zz"
   rw [GU]) (by rw [al];omega)]
  simp only [gf,ba]
  rfl
theorem OI {ms rs:List cS} (h:∀ e∈ms,e.name∈rs.map (·.name)):((ms.map fun e=>decide (e.name∈rs.map (·.name))).all id)=true:=by
 rw [mf,cq]
 intro e he
 show decide (e.name∈rs.map (·.name))=true
 exact decide_eq_true (h e he)
theorem U7 {fs st m b:List Str}{es:List cS} (g:dg fs es) (hs:nD fs st) (hw:kR fs m b) (ns:List Int) (o5 z6 z7 z9:Sl) (k:Nat):∃ y9,Xh [.shr (.list (ns.map .int)),.shr (cN fs es),.shr (aA st),.shr (hZ m b),.shr (gf (kE es st m b)),o5,z6,z7,.shr (.int (k:Nat)),z9]=.ok (.nx [.shr (.list (ns.map .int)),.shr (cN fs es),.shr (aA st),.shr (hZ m b),.shr (gf (kE es st m b)),o5,z6,z7,.shr (.int (k:Nat)),y9]):=by
 have lg:=g.len
 have lm:(kE es st m b).length<=es.length:=cX _ _
 have m0:=fj ns (k:Nat) 8 (by decide)
 have m1:=fV ns (k:Nat) 8 (by decide)
 obtain ⟨rs,r1,r2⟩:=QQ g ns (300 + 40 * (k:Nat)) (fi ns (k:Nat) 8) (by omega) m0 (by omega) hs
 refine ⟨.shr (gf rs),?_⟩
 unfold Xh
 walk_at "zz"
 rw [oZ (by decide) (by decide)]
 walk_at "zz"
 rw [fk ns (k:Nat) 8 (by omega) (by decide)]
 walk_at "zz"
 rw [r2]
 walk_at "zz"
 rw [QT g r1 hs hw]
 walk_at "zz"
 cases hv:p7 st m b rs with
 | false =>
  walk_at "zz"
 | true =>
  walk_at "zz"
  rw [if_pos (by omega)]
  rw [dP _ (fun e:cS=>aP e.name) (fun e=>cH (decide (e.name∈rs.map (·.name)))) (kE es st m b) fun e he=>fM rfl (by
   walk_at "zz"
   rw [zb,CD]
   rfl)]
  walk_at "zz"
  rw [iC _ (fun e:cS=>decide (e.name∈rs.map (·.name)))]
  rw [OI (Jj r1.mem hv)]
  walk_at "zz"
theorem U8 {fs st m b:List Str}{es:List cS} (g:dg fs es) (hs:nD fs st) (hw:kR fs m b) (hv:nF es st m b=true) (ns:List Int) (z6 z7:Sl):Xj [.shr (.list (ns.map .int)),.shr (cN fs es),.shr (aA st),.shr (hZ m b),.shr (gf (kE es st m b)),.own (gf (kE es st m b)),z6,z7,.no,.no]=.ok (.rt (.bool true)):=by
 have lg:=g.len
 have lm:(kE es st m b).length<=es.length:=cX _ _
 obtain ⟨rs,r1,r2,r3⟩:=OD g hs hw hv
 have eqs:lI true (gf (kE es st m b)) (gf (kE es st m b))=.ok (.bool false):=by
  rw [zb]
  exact CJ (fun x hx=>by
   obtain ⟨e,he,rfl⟩:=List.mem_map.mp hx
   exact (g.ok e (List.mem_filter.mp he).1).name) true
 unfold Xj
 walk_at "zz"
 rw [eqs]
 walk_at "zz"
 rw [if_pos (by omega)]
 rw [dP _ (fun e:cS=>aP e.name) (fun e=>cH (decide (e.name∈rs.map (·.name)))) (kE es st m b) fun e he=>fM rfl (by
  walk_at "zz"
  rw [r3]
  walk_at "zz"
  rw [zb,CD]
  rfl)]
 walk_at "zz"
 rw [iC _ (fun e:cS=>decide (e.name∈rs.map (·.name)))]
 rw [OI (Jj r1 r2)]
 walk_at "zz"
 rw [pS (ds:=(bw 3).map fun (i:Nat)=>ck (i:Int))]
 ·refine xw (fun (i:Nat)=>ck (i:Int)) (fun (_:Unit) _=>()) (fun _ _ ρ=>∃ z8 z9,ρ=[.shr (.list (ns.map .int)),.shr (cN fs es),.shr (aA st),.shr (hZ m b),.shr (gf (kE es st m b)),.own (gf (kE es st m b)),z6,z7,z8,z9]) () ?_ ⟨_,_,rfl⟩ ?_
  ·rintro k bW _ ρ ⟨z8,z9,rfl⟩
   obtain ⟨y9,q⟩:=U7 g hs hw ns (.own (gf (kE es st m b))) z6 z7 z9 k
   exact ⟨_,_,rfl,q,_,_,rfl⟩
  ·rintro ρ' ⟨z8,z9,rfl⟩
   walk_at "zz"
 ·walk_at "zz"
  exact uT 3 (by decide)
theorem Y8:Qx "NoWay"=some 5:=by decide +kernel
theorem VU:lI false (.tuple [.str "refused",.int 5]) (.tuple [.str "refused",.int 5])=.ok (.bool true):=QN (by decide +kernel)
theorem law_true (ns:List Int):F_law [.list (ns.map .int)]=.ok (.bool true):=by
 obtain ⟨fs,es,ss,wm,wb,hc,gb,gs,gw⟩:=QJ ns 5 6 (by decide) (by decide) (by decide) (by decide)
 have lg:=gb.len
 obtain ⟨d,f1,f2⟩:=OF gb gs gw
 unfold F_law
 refine cE ?_
 rw [OG]
 unfold bB
 walk_at "zz"
 rw [hc]
 walk_at "zz"
 rw [Xb]
 walk_at "zz"
 cases hv:nF es ss wm wb with
 | false =>
  rw [hv] at f2
  rw [Oe,R1 gb gs gw hv,QM Y8]
  walk_at "zz"
  rw [f1]
  walk_at "zz"
  rw [f2]
  walk_at "zz"
  rw [show ((5:Nat):Int)=5 from rfl,VU]
  walk_at "zz"
 | true =>
  rw [hv] at f2
  rw [Oe,Q_ gb gs gw hv,QL]
  walk_at "zz"
  rw [f1]
  walk_at "zz"
  rw [f2]
  walk_at "zz"
  rw [pS (ds:=es.map cc)]
  ·refine xw cc (fun (b:List cS) e=>if !nF (es.filter fun x=>!decide (x.name=e.name)) ss wm wb then b++[e] else b) (fun bW b ρ=>(∀ e∈bW,e∈es)/\b.length + bW.length<=6/\∃ z6 z7,ρ=[.shr (.list (ns.map .int)),.shr (cN fs es),.shr (aA ss),.shr (hZ wm wb),.shr (gf (kE es ss wm wb)),.own (gf b),z6,z7,.no,.no]) [] ?_ ⟨fun _ h=>h,by simp only [bQ];omega,_,_,rfl⟩ ?_
   ·rintro e bW b ρ ⟨h1,h2,z6,z7,rfl⟩
    simp only [aX] at h2
    obtain ⟨y7,q⟩:=U6 gb gs gw (.list (ns.map .int)) (gf (kE es ss wm wb)) z7 .no .no (due:=b) (h1 e ap) (by omega)
    refine ⟨_,_,rfl,q,fun a ha=>h1 a (am _ ha),?_,_,_,rfl⟩
    split
    ·rw [aO,cV];omega
    ·omega
   ·rintro ρ' ⟨_,_,z6,z7,rfl⟩
    rw [wy (fun e:cS=>!nF (es.filter fun x=>!decide (x.name=e.name)) ss wm wb),jm]
    exact U8 gb gs gw hv ns z6 z7
  ·walk_at "zz"
   rw [EC]
   walk_at "zz"
end Z
end
section
namespace Z
open PySem L2 J
def mi (i:Nat):cr:=PySem.Challenge.pw_errands_k17_whole_must_do.main.body.getD i (.Pass ⟨0,0,0,0⟩)
section
variable {e:En}
abbrev qI:cr:=mi 64
def ES:List Str:=["NoBook","NoState","NoWant","NoErrand","NoRow","NoWay","NoPaper","NoFacts","NoNumber","Nothing","NoText"]
theorem u_:bu ["_law_e","_law_own"] ["_law_e"] (aw qI):=df (by decide +kernel)
theorem Ai {f:ah}{fd:dE} (F:DB e.K "_law_which" "_law_which" qI f fd) (B:Bi e.mg) (mv:e.mg "ValueError"=none) (mc:∀ n∈ES,e.mg n=some (.ref (e.cls n))):DS e.P e.w e.K e.mg e.base 1 f fd ["_law_e"] (Tf e.K e.base e.cls ES):=by
 refine F.okH u_ (fun vs H Q E h=>?_) (fun cdv A outer s H vs Q E hr h=>?_)
 ·obtain ⟨_,_,_,rfl,_⟩:=h;rfl
 obtain ⟨ea,C,j,rfl,hH,x,q⟩:=h
 refine ⟨_,ju (BO (i:=1) u_.nd rfl (gx rfl) (nq (cb (lM (names:=ES) (cls:=e.cls) (base:=e.base) (pv 0) rfl B.isinstance rfl (mc "NoBook" (by decide +kernel))) (cb (lM (names:=ES) (cls:=e.cls) (base:=e.base) (pv 0) rfl B.isinstance rfl (mc "NoState" (by decide +kernel))) (cb (lM (names:=ES) (cls:=e.cls) (base:=e.base) (pv 0) rfl B.isinstance rfl (mc "NoWant" (by decide +kernel))) (cb (lM (names:=ES) (cls:=e.cls) (base:=e.base) (pv 0) rfl B.isinstance rfl (mc "NoErrand" (by decide +kernel))) eY))))))
  (ju (um (AL eX zY zZ AN (pv 1) (cb (nq (cb (lM (names:=ES) (cls:=e.cls) (base:=e.base) (pv 0) rfl B.isinstance rfl (mc "NoRow" (by decide +kernel))) (cb (lM (names:=ES) (cls:=e.cls) (base:=e.base) (pv 0) rfl B.isinstance rfl (mc "NoWay" (by decide +kernel))) (cb (lM (names:=ES) (cls:=e.cls) (base:=e.base) (pv 0) rfl B.isinstance rfl (mc "NoPaper" (by decide +kernel))) (cb (lM (names:=ES) (cls:=e.cls) (base:=e.base) (pv 0) rfl B.isinstance rfl (mc "NoFacts" (by decide +kernel))) eY))))) eY)))
  (ju (um (AL eX zY zZ AN (pv 1) (cb (nq (cb (lM (names:=ES) (cls:=e.cls) (base:=e.base) (pv 0) rfl B.isinstance rfl (mc "NoNumber" (by decide +kernel))) (cb (lM (names:=ES) (cls:=e.cls) (base:=e.base) (pv 0) rfl B.isinstance rfl (mc "Nothing" (by decide +kernel))) (cb (lM (names:=ES) (cls:=e.cls) (base:=e.base) (pv 0) rfl B.isinstance rfl (mc "NoText" (by decide +kernel))) eY)))) eY)))
  (ju (R8 (PW.pt (R7 (HV Ut (AL eX AD PySem.F.type_list_count K6 (pv 1) (cb LB eY)) LA (Ge _)) (LG (LH (LF (Qg (names:=ES) (cls:=e.cls) (base:=e.base) (pv 0) rfl B.isinstance rfl mv)))))) nR HS)
  (ul (BM (LX (cb LC (cb (AL eX AE PySem.F.type_list_index K7 (pv 1) (cb LB eY)) eY)))))))),?_⟩
 refine ⟨ea,C,j,0,rfl,hH,x,rfl,ea,C,j,1,rfl,hH,x,rfl,ea,C,j,2,rfl,hH,x,rfl,ea,C,j,3,rfl,hH,x,rfl,bL (cz (show 4<=1000 by decide)),fun p hp=>?_⟩
 have np:ea≠p:=bi hH hp
 have hH1:∀ o,upd H p o ea=some (y0 ea C):=fun o=>by rw [aT np];exact hH
 refine ⟨_,rfl,.inl ⟨rfl,_,.of aV⟩,?_⟩
 refine ⟨ea,C,j,4,rfl,hH1 _,x,rfl,ea,C,j,5,rfl,hH1 _,x,rfl,ea,C,j,6,rfl,hH1 _,x,rfl,ea,C,j,7,rfl,hH1 _,x,rfl,bL (cz (show 4<=1000 by decide)),fun p2 hp2=>?_⟩
 have np2:p≠p2:=bi aV hp2
 have ne2:ea≠p2:=bi (hH1 _) hp2
 refine ⟨p,p2,([decide (0=j),decide (1=j),decide (2=j),decide (3=j)].map V.bl),_,rfl,rfl,by rw [aT np2];exact aV,aV,bL (cz (show 8<=1000 by decide)),?_⟩
 have hH2:∀ o u,upd (upd (upd H p o) p2 u) p (.lst (([decide (0=j),decide (1=j),decide (2=j),decide (3=j)]++[decide (4=j),decide (5=j),decide (6=j),decide (7=j)]).map V.bl)) ea=some (y0 ea C):=fun o u=>by rw [aT np,aT ne2];exact hH1 _
 refine ⟨_,rfl,.inl ⟨rfl,_,.of aV⟩,?_⟩
 refine ⟨ea,C,j,8,rfl,hH2 _ _,x,rfl,ea,C,j,9,rfl,hH2 _ _,x,rfl,ea,C,j,10,rfl,hH2 _ _,x,rfl,bL (cz (show 3<=1000 by decide)),fun p3 hp3=>?_⟩
 have np3:p≠p3:=bi aV hp3
 have ne3:ea≠p3:=bi (hH2 _ _) hp3
 refine ⟨p,p3,(([decide (0=j),decide (1=j),decide (2=j),decide (3=j)]++[decide (4=j),decide (5=j),decide (6=j),decide (7=j)]).map V.bl),_,rfl,rfl,by rw [aT np3];exact aV,aV,bL (cz (show 11<=1000 by decide)),?_⟩
 refine ⟨_,rfl,.inl ⟨rfl,_,.of aV⟩,p,bits j,rfl,rfl,.of aV,?_⟩
 rw [GH j x.lt]
 refine ⟨rfl,_,rfl,xQ ⟨ea,C,j,rfl,?_,x,_,rfl,xQ ?_⟩⟩
 ·rw [aT np,aT ne3];exact hH2 _ _
 obtain ⟨b1,b2⟩:=Qf j x.lt
 refine ⟨_,rfl,.inl ⟨rfl,_,.of aV⟩,p,bits j,j,rfl,rfl,.of aV,b1,b2,bL (aK x.lt (by decide)),bL (cz (show 2<=1000 by decide)),fun t ht=>?_⟩
 have s1:du H _:=iQ (o:=.lst ([decide (0=j),decide (1=j),decide (2=j),decide (3=j)].map V.bl)) hp
 have hpn:∀ b o,H b=some o->b≠p:=fun b o e=>bi e hp
 have hp2n:∀ b o,H b=some o->b≠p2:=fun b o e=>bi (s1 b o e) hp2
 have hp3n:∀ b o,H b=some o->b≠p3:=fun b o e=>bi (by rw [aT (hpn b o e),aT (hp2n b o e)];exact s1 b o e) hp3
 have old:∀ b o,H b=some o->b≠t:=fun b o e=>bi (by rw [aT (hpn b o e),aT (hp3n b o e),aT (hpn b o e),aT (hp2n b o e)];exact s1 b o e) ht
 refine q t _ (fun b o e=>?_) ?_ aV
 ·rw [aT (old b o e),aT (hpn b o e),aT (hp3n b o e),aT (hpn b o e),aT (hp2n b o e)];exact s1 b o e
 ·cases z:H t with
  | none=>rfl
  | some o=>exact (old t o z rfl).elim
abbrev gD:cr:=mi 65
abbrev jW:List Str:=["_law_ask","_law_one","_law_other","_law_third","_law_e"]
theorem mX:bu jW ["_law_ask","_law_one","_law_other","_law_third"] (aw gD):=df (by decide +kernel)
theorem v3 {y:Str}{kf k:Nat}{Fy:List D->R D} (D:fR e.K e.mg "_law_told_three" gD) (W:Wh e.P e.w e.K e.mg e.base e.cls "_law_which" ES Qx) (G:FN e y kf 3 Fy) (hk:kf<=k) (h1:1<=k):FT e "_law_told_three" y (k + 1) 3 (yG Qx Fy):=by
 obtain ⟨f,fd,F,hm⟩:=D.ex
 obtain ⟨a,fda,psa,hf,hma,hka,hba⟩:=G.ex
 refine Qn (k:=k) (g:=Kj Qx (cG (dR 3 Fy (ae (fun ρ=>bj ρ 1) (ae (fun ρ=>bj ρ 2) (ae (fun ρ=>bj ρ 3) aE)))))) F mX hm (b4 F) hma rfl (fun cdv A outer s H E hr ρ=>?_) fun ds hl=>?_
 ·exact ul (Tn (c:=⟨iV (mh e.P e.w) e.P e.w e.K e.mg e.base jW "_law_told_three" (aw gD) f cdv A outer s H E,e.cls,E⟩) 4 0 W (fun E1 xe1 pn1 hp=>ul (Tl (c:=⟨Rs (iV (mh e.P e.w) e.P e.w e.K e.mg e.base jW "_law_told_three" (aw gD) f cdv A outer s H E) xe1 pn1,e.cls,E1⟩) hf hka hba (hr.mono hk) hp (aa (ai 1) (aa (ai 2) (aa (ai 3) aD))) (ρ:=ρ))) (hr.h.mono1 h1) rfl rfl mX.nd)
 ·match ds,hl with
  | [_,_,_],_=>exact ND rfl rfl
abbrev li:cr:=mi 18
abbrev v4:List Str:=["one","other"]
theorem Aj:bu v4 ["one","other"] (aw li):=df (by decide +kernel)
abbrev lj (e:En):=FN e "share_none" 1 2 eJ
theorem Ak (D:fR e.K e.mg "share_none" li) (B:Bi e.mg):lj e:=nC (k:=0) (g:=jC) D Aj b2 fun _ _ _ _ _ _ _ hr=>by unfold jC;exact (aL (bH (C7 (c6 (GD rfl) rfl B.any nO (bx (JE.bor (JN.je (dX (N':=["fact","other"]) (ix:=[1]) 1 (by decide) rfl (bS (so:=aw li) (N:=v4) (by decide +kernel)) (eN (aj 0)) (fun cl A0 s0 H0 ex pn=>⟨cy (i:=0) (by show (["fact","other"] : List Str).Nodup;decide +kernel) rfl (.inl rfl),fL,(nu (yn) (aj 0) (aj 1))⟩)))) bX)))))
abbrev rQ:cr:=mi 19
abbrev Bp:List Str:=["facts","others"]
theorem Hc:bu Bp ["facts","others"] (aw rQ):=df (by decide +kernel)
abbrev Br (e:En):=FN e "without" 1 2 rz
theorem Hd (D:fR e.K e.mg "without" rQ) (B:Bi e.mg):Br e:=nC (k:=0) (g:=rq) D Hc b2 fun _ _ _ _ _ _ _ hr=>by unfold rq;exact (aL (bH (eu (gT rfl) rfl B.tuple bd (bx (JE.bor (JN.je (dX (N':=["fact","others"]) (ix:=[1]) 1 (by decide) rfl (bS (so:=aw rQ) (N:=Bp) (by decide +kernel)) (eN (aj 0)) (fun cl A0 s0 H0 ex pn=>⟨cy (i:=0) (by show (["fact","others"] : List Str).Nodup;decide +kernel) rfl (.inl rfl),(iy (dk (yo) (aj 0) (aj 1))),(ai 0)⟩)))) bX))))
abbrev zc:cr:=mi 20
abbrev OJ:List Str:=["one","other"]
theorem KM:bu OJ ["one","other"] (aw zc):=df (by decide +kernel)
abbrev ET (e:En):=FN e "joined" 1 2 uS
theorem KN (D:fR e.K e.mg "joined" zc) (B:Bi e.mg):ET e:=nC (k:=0) (g:=uR) D KM b2 fun _ _ _ _ _ _ _ hr=>by unfold uR;exact (aL (bH (eu (gT rfl) rfl B.tuple bd (bx (JE.bor (tq rfl (Tq (Ci rfl (aj 0) rfl B.set) (Ci rfl (aj 1) rfl B.set)) rfl B.sorted)) bX))))
abbrev rR:cr:=mi 21
abbrev Bs:List Str:=["thing"]
theorem He:bu Bs ["thing"] (aw rR):=df (by decide +kernel)
abbrev vV (e:En):=FN e "is_word" 1 1 o0
theorem Hf (D:fR e.K e.mg "is_word" rR) (B:Bi e.mg) (lW:Cn e.mg "MOST_LETTERS" 6):vV e:=nC (k:=0) (g:=rA) D He b1 fun _ _ _ _ _ _ _ hr=>by unfold rA;exact (ax (ft (JW.t (sH (g6 (eL (oG (aj 0) rfl B.isinstance rfl B.str PyProof.Rows.boot_str (by decide)))) (nw (g6 (MR (AX) (AX) (JE.bor aC) (JE.bor (c6 ii rfl B.len b_ (bx (aj 0) bX))) (JE.bor (uF rfl lW))))))) (aL (bH lH)) cK) (aL (bH (c6 (ny rfl) rfl B.all cx (bx (JE.bor (JN.je (dX (N':=["sign"]) (ix:=[]) 1 (by decide) rfl (bS (so:=aw rR) (N:=Bs) (by decide +kernel)) (eN (aj 0)) (fun cl A0 s0 H0 ex pn=>⟨cy (i:=0) (by show (["sign"] : List Str).Nodup;decide +kernel) rfl (.inl rfl),fL,(E8 (AX) (AX) (JE.bor oE) (aj 0) (JE.bor oE))⟩)))) bX)))))
abbrev fK:cr:=mi 22
abbrev i_:List Str:=["thing"]
theorem sv:bu i_ ["thing"] (aw fK):=df (by decide +kernel)
abbrev j0 (e:En):=FN e "are_rising_words" 2 1 fJ
theorem sw (D:fR e.K e.mg "are_rising_words" fK) (B:Bi e.mg) (lA:vV e):j0 e:=nC (k:=1) (g:=gQ) D sv b1 fun _ _ _ _ _ _ _ hr=>by unfold gQ;exact (ax (ft (JW.t (sH (g6 (eL (oG (aj 0) rfl B.isinstance rfl B.tuple bd (by decide)))) (nw (g6 (eL (c6 (ny rfl) rfl B.all cx (bx (JE.bor (JN.je (dX (N':=["word"]) (ix:=[]) 1 (by decide) rfl (bS (so:=aw fK) (N:=i_) (by decide +kernel)) (eN (aj 0)) (fun cl A0 s0 H0 ex pn=>⟨cy (i:=0) (by show (["word"] : List Str).Nodup;decide +kernel) rfl (.inl rfl),fL,(jc lA hr dv (aa (ai 0) aD))⟩)))) bX))))))) (aL (bH lH)) cK) (aL (bH (c6 (ny rfl) rfl B.all cx (bx (JE.bor (JN.je (dX (N':=["low","high"]) (ix:=[]) 2 (by decide) rfl (bS (so:=aw fK) (N:=i_) (by decide +kernel)) (Lh.i (Q9 rfl B.zip (aa (ai 0) (aa (qy (aj 0) (rm aC) xq) aD)))) (fun cl A0 s0 H0 ex pn=>⟨Gb rfl (qp (cy (i:=0) (by show (["low","high"] : List Str).Nodup;decide +kernel) rfl (.inl rfl)) (qp (cy (i:=1) (by show (["low","high"] : List Str).Nodup;decide +kernel) rfl (.inl rfl)) BN)),fL,(nu (yk) (aj 0) (aj 1))⟩)))) bX)))))
abbrev mY:cr:=mi 23
abbrev wz:List Str:=["book_facts","thing"]
theorem CN:bu wz ["book_facts","thing"] (aw mY):=df (by decide +kernel)
abbrev mZ (e:En):=FN e "are_facts" 3 2 fu
theorem CO (D:fR e.K e.mg "are_facts" mY) (B:Bi e.mg) (eA:j0 e):mZ e:=nC (k:=2) (g:=mJ) D CN b2 fun _ _ _ _ _ _ _ hr=>by unfold mJ;exact (aL (bH (tf (jc eA hr px (aa (ai 1) aD)) (vK (c6 (ny rfl) rfl B.all cx (bx (JE.bor (JN.je (dX (N':=["fact","book_facts"]) (ix:=[0]) 1 (by decide) rfl (bS (so:=aw mY) (N:=wz) (by decide +kernel)) (eN (aj 1)) (fun cl A0 s0 H0 ex pn=>⟨cy (i:=0) (by show (["fact","book_facts"] : List Str).Nodup;decide +kernel) rfl (.inl rfl),fL,(nu (yn) (aj 0) (aj 1))⟩)))) bX))))))
abbrev tH:cr:=mi 24
abbrev Hg:List Str:=["thing","least","most"]
theorem EU:bu Hg ["thing","least","most"] (aw tH):=df (by decide +kernel)
abbrev zd (e:En):=FN e "is_whole" 1 3 oN
theorem EV (D:fR e.K e.mg "is_whole" tH) (B:Bi e.mg):zd e:=nC (k:=0) (g:=oM) D EU b3 fun _ _ _ _ _ _ _ hr=>by unfold oM;exact (ax (ft (JW.t (sH (g6 (eL (oG (aj 0) rfl B.isinstance rfl B.int xK (by decide)))) (nw (eL (oG (aj 0) rfl B.isinstance rfl B.bool PyProof.Rows.boot_bool (by decide)))))) (aL (bH lH)) cK) (aL (bH (E8 (AX) (AX) (aj 1) (aj 0) (aj 2)))))
abbrev m_:cr:=mi 25
abbrev wA:List Str:=["book_facts","thing","name","needs","bars","makes","ends","price"]
theorem gR:bu wA ["book_facts","thing"] (aw m_):=df (by decide +kernel)
abbrev wB (e:En):=FN e "is_errand" 4 2 mL
theorem CQ (D:fR e.K e.mg "is_errand" m_) (B:Bi e.mg) (lA:vV e) (tJ:zd e) (fv:mZ e) (eK:lj e) (pi:Cn e.mg "MOST_PRICE" 9):wB e:=nC (k:=3) (g:=mK) D gR b2 fun _ _ _ _ _ _ _ hr=>by have hu64:=hr.units;unfold mK;exact (ax (ft (JW.t (sH (g6 (eL (oG (aj 1) rfl B.isinstance rfl B.tuple bd (by decide)))) (nw (dk (wv hu64) (JE.bor (c6 ii rfl B.len b_ (bx (aj 1) bX))) (JE.bor aC))))) (aL (bH lH)) cK) (ax (yq (ai 1) (oI rfl (c_ (cL 2 gR.nd) (c_ (cL 3 gR.nd) (c_ (cL 4 gR.nd) (c_ (cL 5 gR.nd) (c_ (cL 6 gR.nd) (c_ (cL 7 gR.nd) kX)))))))) (ax (ft (JW.t (sH (g6 (eL (jc lA hr px (aa (ai 2) aD)))) (nw (g6 (eL (jc tJ hr px (aa (ai 7) (aa aC (aa (uF rfl pi) aD))))))))) (aL (bH lH)) cK) (ax (ft (g6 (eL (c6 (ny rfl) rfl B.all cx (bx (JE.bor (JN.je (dX (N':=["facts","book_facts"]) (ix:=[0]) 1 (by decide) rfl (bS (so:=aw m_) (N:=wA) (by decide +kernel)) (eN (JE.bor (jy (aa (ai 3) (aa (ai 4) (aa (ai 5) (aa (ai 6) aD))))))) (fun cl A0 s0 H0 ex pn=>⟨cy (i:=0) (by show (["facts","book_facts"] : List Str).Nodup;decide +kernel) rfl (.inl rfl),fL,(jc fv hr dv (aa (ai 1) (aa (ai 0) aD)))⟩)))) bX)))) (aL (bH lH)) cK) (aL (bH (tf (jc eK hr px (aa (ai 3) (aa (ai 4) aD))) (vK (jc eK hr px (aa (ai 5) (aa (ai 6) aD)))))))))))
abbrev o8:cr:=mi 26
abbrev vW:List Str:=["thing","facts","errands"]
theorem tK:bu vW ["thing"] (aw o8):=df (by decide +kernel)
abbrev Bt (e:En):=FN e "is_book" 5 1 rE
theorem Hh (D:fR e.K e.mg "is_book" o8) (B:Bi e.mg) (eA:j0 e) (qJ:wB e) (pj:Cn e.mg "MOST_FACTS" 6) (lX:Cn e.mg "MOST_ERRANDS" 6):Bt e:=nC (k:=4) (g:=rB) D tK b1 fun _ _ _ _ _ _ _ hr=>by have hu1:=gJ hr;have hu64:=hr.units;unfold rB;exact (ax (ft (JW.t (sH (g6 (eL (oG (aj 0) rfl B.isinstance rfl B.tuple bd (by decide)))) (nw (dk (wv hu64) (JE.bor (c6 ii rfl B.len b_ (bx (aj 0) bX))) (JE.bor aC))))) (aL (bH lH)) cK) (ax (yq (ai 0) (oI rfl (c_ (cL 1 tK.nd) (c_ (cL 2 tK.nd) kX)))) (ax (ft (JW.t (sH (g6 (eL (jc eA hr px (aa (ai 1) aD)))) (nw (dk (Rx) (JE.bor (c6 ii rfl B.len b_ (bx (aj 1) bX))) (JE.bor (uF rfl pj)))))) (aL (bH lH)) cK) (ax (ft (JW.t (sH (g6 (eL (oG (aj 2) rfl B.isinstance rfl B.tuple bd (by decide)))) (nw (dk (Rx) (JE.bor (c6 ii rfl B.len b_ (bx (aj 2) bX))) (JE.bor (uF rfl lX)))))) (aL (bH lH)) cK) (ax (ft (g6 (eL (c6 (ny rfl) rfl B.all cx (bx (JE.bor (JN.je (dX (N':=["errand","facts"]) (ix:=[1]) 1 (by decide) rfl (bS (so:=aw o8) (N:=vW) (by decide +kernel)) (eN (aj 2)) (fun cl A0 s0 H0 ex pn=>⟨cy (i:=0) (by show (["errand","facts"] : List Str).Nodup;decide +kernel) rfl (.inl rfl),fL,(jc qJ hr dv (aa (ai 1) (aa (ai 0) aD)))⟩)))) bX)))) (aL (bH lH)) cK) (aL (bH (nu (sJ hu64) (JE.bor (Kh (MT (N':=["errand"]) (ix:=[]) 1 (by decide) rfl (bS (so:=aw o8) (N:=vW) (by decide +kernel)) (eN (aj 2)) (fun cl A0 s0 H0 ex pn=>⟨cy (i:=0) (by show (["errand"] : List Str).Nodup;decide +kernel) rfl (.inl rfl),fL,(bM hu1 (aj 0) (JE.bor aC))⟩)) rfl B.len)) (JE.bor (c6 ii rfl B.len b_ (bx (aj 2) bX)))))))))))
abbrev vX:cr:=mi 27
abbrev KO:List Str:=["book","thing","must","bars"]
theorem tL:bu KO ["book","thing"] (aw vX):=df (by decide +kernel)
abbrev Bu (e:En):=FN e "is_want" 4 2 rG
theorem Hi (D:fR e.K e.mg "is_want" vX) (B:Bi e.mg) (fv:mZ e) (eK:lj e):Bu e:=nC (k:=3) (g:=rF) D tL b2 fun _ _ _ _ _ _ _ hr=>by have hu1:=gJ hr;have hu64:=hr.units;unfold rF;exact (ax (ft (JW.t (sH (g6 (eL (oG (aj 1) rfl B.isinstance rfl B.tuple bd (by decide)))) (nw (dk (wv hu64) (JE.bor (c6 ii rfl B.len b_ (bx (aj 1) bX))) (JE.bor aC))))) (aL (bH lH)) cK) (ax (yq (ai 1) (oI rfl (c_ (cL 2 tL.nd) (c_ (cL 3 tL.nd) kX)))) (aL (bH (tf (jc fv hr px (aa (bM hu1 (aj 0) (JE.bor aC)) (aa (ai 2) aD))) (tf (jc fv hr px (aa (bM hu1 (aj 0) (JE.bor aC)) (aa (ai 3) aD))) (vK (jc eK hr px (aa (ai 2) (aa (ai 3) aD))))))))))
abbrev nG:cr:=mi 28
abbrev Al:List Str:=["book","state"]
theorem ze:bu Al ["book","state"] (aw nG):=df (by decide +kernel)
abbrev sO (e:En):=FN e "check_state" 4 2 kd
theorem zf (D:fR e.K e.mg "check_state" nG) (fv:mZ e) (vY:ER e "NoState"):sO e:=nC (k:=3) (g:=kc) D ze b2 fun _ _ _ _ _ _ _ hr=>by have hu1:=gJ hr;unfold kc;exact (aL (ft (g6 (eL (jc fv hr px (aa (bM hu1 (aj 0) (JE.bor aC)) (aa (ai 1) aD))))) (aL (uN vY rfl (aa oE aD))) cK))
abbrev pp:cr:=mi 29
abbrev CS:List Str:=["book","want"]
theorem Am:bu CS ["book","want"] (aw pp):=df (by decide +kernel)
abbrev v5 (e:En):=FN e "check_want" 5 2 kZ
theorem An (D:fR e.K e.mg "check_want" pp) (vZ:Bu e) (zg:ER e "NoWant"):v5 e:=nC (k:=4) (g:=kY) D Am b2 fun _ _ _ _ _ _ _ hr=>by unfold kY;exact (aL (ft (g6 (eL (jc vZ hr px (aa (ai 0) (aa (ai 1) aD))))) (aL (uN zg rfl (aa oE aD))) cK))
abbrev rS:cr:=mi 30
abbrev Bv:List Str:=["state","want","must","bars"]
theorem tM:bu Bv ["state","want"] (aw rS):=df (by decide +kernel)
abbrev rT (e:En):=FN e "fulfils" 2 2 lz
theorem Hj (D:fR e.K e.mg "fulfils" rS) (B:Bi e.mg) (eK:lj e):rT e:=nC (k:=1) (g:=rH) D tM b2 fun _ _ _ _ _ _ _ hr=>by unfold rH;exact (ax (yq (ai 1) (oI rfl (c_ (cL 2 tM.nd) (c_ (cL 3 tM.nd) kX)))) (aL (bH (tf (c6 (ny rfl) rfl B.all cx (bx (JE.bor (JN.je (dX (N':=["fact","state"]) (ix:=[0]) 1 (by decide) rfl (bS (so:=aw rS) (N:=Bv) (by decide +kernel)) (eN (aj 2)) (fun cl A0 s0 H0 ex pn=>⟨cy (i:=0) (by show (["fact","state"] : List Str).Nodup;decide +kernel) rfl (.inl rfl),fL,(nu (yn) (aj 0) (aj 1))⟩)))) bX)) (vK (jc eK hr px (aa (ai 3) (aa (ai 0) aD))))))))
abbrev qK:cr:=mi 31
abbrev EW:List Str:=["errand","state"]
theorem CT:bu EW ["errand","state"] (aw qK):=df (by decide +kernel)
abbrev wC (e:En):=FN e "is_doable" 3 2 mO
theorem CU (D:fR e.K e.mg "is_doable" qK) (iD:rT e):wC e:=nC (k:=2) (g:=mM) D CT b2 fun _ _ _ _ _ _ _ hr=>by have hu1:=gJ hr;unfold mM;exact (aL (bH (jc iD hr px (aa (ai 1) (aa (jy (aa (bM hu1 (aj 0) (JE.bor aC)) (aa (bM hu1 (aj 0) (JE.bor aC)) aD))) aD)))))
abbrev lY:cr:=mi 32
abbrev zh:List Str:=["errand","state","makes","ends"]
theorem pU:bu zh ["errand","state"] (aw lY):=df (by decide +kernel)
abbrev qL (e:En):=FN e "state_behind" 2 2 jE
theorem wY (D:fR e.K e.mg "state_behind" lY) (v_:Br e) (zi:ET e):qL e:=nC (k:=1) (g:=jD) D pU b2 fun _ _ _ _ _ _ _ hr=>by have hu1:=gJ hr;unfold jD;exact (ax (Tr 2 3 rfl pU.nd (aa (bM hu1 (aj 0) (JE.bor aC)) (aa (bM hu1 (aj 0) (JE.bor aC)) aD))) (aL (bH (jc zi hr px (aa (jc v_ hr px (aa (ai 1) (aa (ai 3) aD))) (aa (ai 2) aD))))))
abbrev w9:cr:=mi 33
abbrev KP:List Str:=["book"]
theorem Hk:bu KP ["book"] (aw w9):=df (by decide +kernel)
abbrev Bw (e:En):=FN e "checked" 6 1 rK
theorem Hl (D:fR e.K e.mg "checked" w9) (wa:Bt e) (zj:ER e "NoBook"):Bw e:=nC (k:=5) (g:=rJ) D Hk b1 fun _ _ _ _ _ _ _ hr=>by unfold rJ;exact (ax (ft (g6 (eL (jc wa hr px (aa (ai 0) aD)))) (aL (uN zj rfl (aa oE aD))) cK) (aL (bH (ai 0))))
abbrev nI:cr:=mi 34
abbrev Ao:List Str:=["book","state"]
theorem zk:bu Ao ["book","state"] (aw nI):=df (by decide +kernel)
abbrev sP (e:En):=FN e "check_place" 7 2 kg
theorem zm (D:fR e.K e.mg "check_place" nI) (wc:Bw e) (nJ:sO e):sP e:=nC (k:=6) (g:=ke) D zk b2 fun _ _ _ _ _ _ _ hr=>by unfold ke;exact (ax (oH (jc wc hr px (aa (ai 0) aD))) (aL (oH (jc nJ hr px (aa (ai 0) (aa (ai 1) aD))))))
abbrev qM:cr:=mi 35
abbrev EX:List Str:=["book","state","want"]
theorem CV:bu EX ["book","state","want"] (aw qM):=df (by decide +kernel)
abbrev qN (e:En):=FN e "check_aim" 8 3 kz
theorem CW (D:fR e.K e.mg "check_aim" qM) (nK:sP e) (pq:v5 e):qN e:=nC (k:=7) (g:=mP) D CV b3 fun _ _ _ _ _ _ _ hr=>by unfold mP;exact (ax (oH (jc nK hr px (aa (ai 0) (aa (ai 1) aD)))) (aL (oH (jc pq hr px (aa (ai 0) (aa (ai 2) aD))))))
abbrev ll:cr:=mi 37
abbrev v6:List Str:=["book","state"]
theorem Ap:bu v6 ["book","state"] (aw ll):=df (by decide +kernel)
abbrev v7 (e:En):=FN e "steps_from" 4 2 jF
theorem Aq (D:fR e.K e.mg "steps_from" ll) (qO:wC e) (lZ:qL e):v7 e:=nC (k:=3) (g:=k_) D Ap b2 fun _ _ _ _ _ _ _ hr=>by have hu1:=gJ hr;unfold k_;exact (aL (bH (JN.je (dX (N':=["errand","state"]) (ix:=[1]) 1 (by decide) rfl (bS (so:=aw ll) (N:=v6) (by decide +kernel)) (eN (JE.bor (bM hu1 (aj 0) (JE.bor aC)))) (fun cl A0 s0 H0 ex pn=>⟨cy (i:=0) (by show (["errand","state"] : List Str).Nodup;decide +kernel) rfl (.inl rfl),(iy (eL (jc qO hr dv (aa (ai 0) (aa (ai 1) aD))))),(jy (aa (ai 0) (aa (jc lZ hr dv (aa (ai 0) (aa (ai 1) aD))) aD)))⟩)))))
abbrev pw:cr:=mi 38
abbrev CY:List Str:=["book","state","rows","ring","next_ring","at","errand","behind"]
theorem fz:bu CY ["book","state"] (aw pw):=df (by decide +kernel)
abbrev pz (e:En):=FN e "first_rows" 5 2 jG
theorem Ar (D:fR e.K e.mg "first_rows" pw) (pA:v7 e):pz e:=nC (k:=4) (g:=l5) D fz b2 fun _ _ _ _ _ _ _ hr=>by have hu1:=gJ hr;unfold l5;exact (ax (hW 2 (Es hu1 (ai 1) (jR aD)) fz.nd) (ax (hW 3 (qB (aa (ai 1) aD)) fz.nd) (ax (E6 100000 (NO (aj 3)) (ax (hW 4 (qB aD) fz.nd) (ax (Qb 3 rfl (cL 5 fz.nd) (aL (kN rfl (xr (jc pA hr dv (aa (ai 0) (aa (ai 5) aD)))) (oI rfl (c_ (cL 6 fz.nd) (c_ (cL 7 fz.nd) kX))) (aL (ft (dk (Bb hu1) (aj 7) (aj 2)) (ax (Ep 2 (bV cJ (JE.bor (vO hu1 (aj 2) (aj 5))) (JE.bor (jR (aa (bM hu1 (aj 6) (JE.bor aC)) aD)))) (ai 7) hu1) (aL (jT 4 (ai 7)))) cK))))) (aL (GJ 4 (dI 3 (ai 4) fz.nd)))))) (aL (NP 2 (bH (ai 2)))))))
abbrev o9:cr:=mi 39
abbrev we:List Str:=["rows","want","fitting"]
theorem zo:bu we ["rows","want"] (aw o9):=df (by decide +kernel)
abbrev Bx (e:En):=FN e "nearest" 3 2 rM
theorem Hm (D:fR e.K e.mg "nearest" o9) (B:Bi e.mg) (iD:rT e):Bx e:=nC (k:=2) (g:=rL) D zo b2 fun _ _ _ _ _ _ _ hr=>by have hu1:=gJ hr;have hu64:=hr.units;unfold rL;exact (ax (hW 2 (dX (N':=["at","want"]) (ix:=[1]) 1 (by decide) rfl (bS (so:=aw o9) (N:=we) (by decide +kernel)) (Cv (aj 0)) (fun cl A0 s0 H0 ex pn=>⟨cy (i:=0) (by show (["at","want"] : List Str).Nodup;decide +kernel) rfl (.inl rfl),(iy (eL (jc iD hr dv (aa (ai 0) (aa (ai 1) aD))))),(ai 0)⟩)) zo.nd) (aL (bH (JN.je (dX (N':=["at","rows","fitting"]) (ix:=[0,2]) 1 (by decide) rfl (bS (so:=aw o9) (N:=we) (by decide +kernel)) (eN (aj 2)) (fun cl A0 s0 H0 ex pn=>⟨cy (i:=0) (by show (["at","rows","fitting"] : List Str).Nodup;decide +kernel) rfl (.inl rfl),(iy (dk (sJ hu64) (JE.bor (c6 ii rfl B.len b_ (bx (JE.bor (vO hu1 (aj 1) (aj 0))) bX))) (JE.bor (c6 ii rfl B.len b_ (bx (JE.bor (vO hu1 (aj 1) (JE.bor (bM hu1 (aj 2) (JE.bor aC))))) bX))))),(ai 0)⟩))))))
abbrev tN:cr:=mi 40
abbrev Ho:List Str:=["book","state","want","rows","goals"]
theorem qP:bu Ho ["book","state","want"] (aw tN):=df (by decide +kernel)
abbrev zq (e:En):=FN e "shortest" 9 3 lN
theorem EY (D:fR e.K e.mg "shortest" tN) (ja:qN e) (iE:pz e) (wf:Bx e):zq e:=nC (k:=8) (g:=oO) D qP b3 fun _ _ _ _ _ _ _ hr=>by have hu1:=gJ hr;unfold oO;exact (ax (oH (jc ja hr px (aa (ai 0) (aa (ai 1) (aa (ai 2) aD))))) (ax (dI 3 (jc iE hr px (aa (ai 0) (aa (ai 1) aD))) qP.nd) (ax (dI 4 (jc wf hr px (aa (ai 3) (aa (ai 2) aD))) qP.nd) (aL (bH (UV (NO (aj 4)) (vO hu1 (aj 3) (JE.bor (bM hu1 (aj 4) (JE.bor aC)))) qw))))))
abbrev n5:cr:=mi 42
abbrev wD:List Str:=["book","state","want"]
theorem CZ:bu wD ["book","state","want"] (aw n5):=df (by decide +kernel)
abbrev qQ (e:En):=FN e "is_served" 6 3 kA
theorem C_ (D:fR e.K e.mg "is_served" n5) (B:Bi e.mg) (iE:pz e) (iD:rT e):qQ e:=nC (k:=5) (g:=mQ) D CZ b3 fun _ _ _ _ _ _ _ hr=>by unfold mQ;exact (aL (bH (c6 (GD rfl) rfl B.any nO (bx (JE.bor (JN.je (dX (N':=["at","want"]) (ix:=[2]) 1 (by decide) rfl (bS (so:=aw n5) (N:=wD) (by decide +kernel)) (Cv (JE.bor (jc iE hr px (aa (ai 0) (aa (ai 1) aD))))) (fun cl A0 s0 H0 ex pn=>⟨cy (i:=0) (by show (["at","want"] : List Str).Nodup;decide +kernel) rfl (.inl rfl),fL,(jc iD hr dv (aa (ai 0) (aa (ai 1) aD)))⟩)))) bX))))
abbrev l_:cr:=mi 43
abbrev zr:List Str:=["book","state","want"]
theorem wZ:bu zr ["book","state","want"] (aw l_):=df (by decide +kernel)
abbrev qR (e:En):=FN e "check_served" 9 3 gC
theorem w_ (D:fR e.K e.mg "check_served" l_) (ja:qN e) (jb:qQ e) (D0:ER e "NoWay"):qR e:=nC (k:=8) (g:=ik) D wZ b3 fun _ _ _ _ _ _ _ hr=>by unfold ik;exact (ax (oH (jc ja hr px (aa (ai 0) (aa (ai 1) (aa (ai 2) aD))))) (aL (ft (g6 (eL (jc jb hr px (aa (ai 0) (aa (ai 1) (aa (ai 2) aD)))))) (aL (uN D0 rfl (aa oE aD))) cK)))
abbrev jJ:cr:=mi 44
abbrev qS:List Str:=["book","state","want","name","others"]
theorem pV:bu qS ["book","state","want","name"] (aw jJ):=df (by decide +kernel)
abbrev qT (e:En):=FN e "must_be_done" 7 4 jI
theorem xa (D:fR e.K e.mg "must_be_done" jJ) (B:Bi e.mg) (jb:qQ e):qT e:=nC (k:=6) (g:=jH) D pV b4 fun _ _ _ _ _ _ _ hr=>by have hu1:=gJ hr;have hu64:=hr.units;unfold jH;exact (ax (dI 4 (eu (gT rfl) rfl B.tuple bd (bx (JE.bor (JN.je (dX (N':=["errand","name"]) (ix:=[3]) 1 (by decide) rfl (bS (so:=aw jJ) (N:=qS) (by decide +kernel)) (eN (JE.bor (bM hu1 (aj 0) (JE.bor aC)))) (fun cl A0 s0 H0 ex pn=>⟨cy (i:=0) (by show (["errand","name"] : List Str).Nodup;decide +kernel) rfl (.inl rfl),(iy (dk (wv hu64) (JE.bor (bM hu1 (aj 0) (JE.bor aC))) (aj 1))),(ai 0)⟩)))) bX)) pV.nd) (aL (bH (C7 (jc jb hr px (aa (jy (aa (bM hu1 (aj 0) (JE.bor aC)) (aa (ai 4) aD))) (aa (ai 1) (aa (ai 2) aD))))))))
abbrev rV:cr:=mi 45
abbrev By:List Str:=["book","state","want"]
theorem Hq:bu By ["book","state","want"] (aw rV):=df (by decide +kernel)
abbrev KQ (e:En):=FN e "must_do" 10 3 j7
theorem Hr (D:fR e.K e.mg "must_do" rV) (m5:qR e) (m6:qT e):KQ e:=nC (k:=9) (g:=o6) D Hq b3 fun _ _ _ _ _ _ _ hr=>by have hu1:=gJ hr;unfold o6;exact (ax (oH (jc m5 hr px (aa (ai 0) (aa (ai 1) (aa (ai 2) aD))))) (aL (bH (JN.je (dX (N':=["errand","book","state","want"]) (ix:=[0,1,2]) 1 (by decide) rfl (bS (so:=aw rV) (N:=By) (by decide +kernel)) (eN (JE.bor (bM hu1 (aj 0) (JE.bor aC)))) (fun cl A0 s0 H0 ex pn=>⟨cy (i:=0) (by show (["errand","book","state","want"] : List Str).Nodup;decide +kernel) rfl (.inl rfl),(iy (eL (jc m6 hr dv (aa (ai 1) (aa (ai 2) (aa (ai 3) (aa (bM hu1 (aj 0) (JE.bor aC)) aD))))))),(bM hu1 (aj 0) (JE.bor aC))⟩))))))
abbrev nL:cr:=mi 47
abbrev As:List Str:=["_law_script","_law_k"]
theorem zt:bu As ["_law_script","_law_k"] (aw nL):=df (by decide +kernel)
abbrev sQ (e:En):=FN e "_law_cell_at" 1 2 ki
theorem zu (D:fR e.K e.mg "_law_cell_at" nL) (B:Bi e.mg):sQ e:=nC (k:=0) (g:=kh) D zt b2 fun _ _ _ _ _ _ _ hr=>by have hu1:=gJ hr;have hu64:=hr.units;unfold kh;exact (ax (ft (dk (yk) (aj 1) (JE.bor (c6 ii rfl B.len b_ (bx (aj 0) bX)))) (aL (bH (bM hu1 (aj 0) (aj 1)))) cK) (ax (ft (dk (sJ hu64) (aj 0) (JE.bor (jR aD))) (aL (bH aC)) cK) (aL (bH (bV cJ (JE.bor (bV oF (JE.bor (bM hu1 (aj 0) (JE.bor (bV C8 (aj 1) (JE.bor (c6 ii rfl B.len b_ (bx (aj 0) bX))))))) (JE.bor aC))) (aj 1))))))
abbrev qU:cr:=mi 48
abbrev EZ:List Str:=["_law_script","_law_k","_law_many","_law_drawn"]
theorem v8:bu EZ ["_law_script","_law_k","_law_many"] (aw qU):=df (by decide +kernel)
abbrev eP (e:En):=FN e "_law_mixed" 2 3 bq
theorem D1 (D:fR e.K e.mg "_law_mixed" qU) (nM:sQ e):eP e:=nC (k:=1) (g:=mR) D v8 b3 fun _ _ _ _ _ _ _ hr=>by unfold mR;exact (ax (dI 3 (bV C8 (JE.bor (bV oF (JE.bor (bV cJ (JE.bor (bV cJ (JE.bor (jc nM hr px (aa (ai 0) (aa (ai 1) aD)))) (JE.bor (bV oF (JE.bor aC) (aj 1))))) (JE.bor aC))) (JE.bor aC))) (JE.bor aC)) v8.nd) (aL (bH (bV C8 (JE.bor (bV C8 (JE.bor (bV cJ (JE.bor (bV cJ (JE.bor (bV oF (aj 3) (aj 3))) (JE.bor (bV oF (JE.bor aC) (aj 3))))) (aj 1))) (JE.bor aC))) (aj 2)))))
abbrev tO:cr:=mi 49
abbrev Ht:List Str:=["_law_script","_law_at","_law_made","_law_k"]
theorem n6:bu Ht ["_law_script","_law_at"] (aw tO):=df (by decide +kernel)
abbrev tP (e:En):=FN e "_law_word" 3 2 jU
theorem E_ (D:fR e.K e.mg "_law_word" tO) (B:Bi e.mg) (aY:eP e):tP e:=nC (k:=2) (g:=oP) D n6 b2 fun _ _ _ _ _ _ _ hr=>by have hu1:=gJ hr;unfold oP;exact (ax (dI 2 oE n6.nd) (ax (kN rfl (lJ rfl B.range (bx (JE.bor (bM hu1 (JE.bor (jR (aa aC (aa aC (aa aC (aa aC (aa aC (aa aC aD)))))))) (JE.bor (jc aY hr dv (aa (ai 0) (aa (ai 1) (aa aC aD))))))) bX)) (cL 3 n6.nd) (aL (dI 2 (bV cJ (aj 2) (JE.bor (bM hu1 (JE.bor oE) (JE.bor (jc aY hr dv (aa (ai 0) (aa (bV cJ (JE.bor (bV cJ (aj 1) (JE.bor aC))) (aj 3)) (aa aC aD)))))))) n6.nd))) (aL (bH (ai 2)))))
abbrev qV:cr:=mi 50
abbrev F4:List Str:=["_law_script","_law_at","_law_most","_law_found","_law_k"]
theorem pB:bu F4 ["_law_script","_law_at","_law_most"] (aw qV):=df (by decide +kernel)
abbrev wE (e:En):=FN e "_law_facts" 4 3 mT
theorem D2 (D:fR e.K e.mg "_law_facts" qV) (B:Bi e.mg) (jX:tP e) (aY:eP e):wE e:=nC (k:=3) (g:=mS) D pB b3 fun _ _ _ _ _ _ _ hr=>by have hu1:=gJ hr;unfold mS;exact (ax (hW 3 Iv pB.nd) (ax (kN rfl (lJ rfl B.range (bx (JE.bor (jc aY hr dv (aa (ai 0) (aa (ai 1) (aa (bV cJ (aj 2) (JE.bor aC)) aD))))) bX)) (cL 4 pB.nd) (aL (Iy 3 lH (jc jX hr dv (aa (ai 0) (aa (bV cJ (JE.bor (bV cJ (aj 1) (JE.bor aC))) (JE.bor (bV oF (JE.bor aC) (aj 4)))) aD))) hu1))) (aL (bH (eu (gT rfl) rfl B.tuple bd (bx (JE.bor (c6 Ke rfl B.sorted wn (bx (JE.bor (eu (yy rfl) rfl B.list mE (bx (aj 3) bX))) bX))) bX))))))
abbrev pC:cr:=mi 51
abbrev zv:List Str:=["_law_script","_law_at","_law_facts_here","_law_part"]
theorem F5:bu zv ["_law_script","_law_at","_law_facts_here","_law_part"] (aw pC):=df (by decide +kernel)
abbrev zw (e:En):=FN e "_law_some" 3 4 oR
theorem F6 (D:fR e.K e.mg "_law_some" pC) (B:Bi e.mg) (aY:eP e):zw e:=nC (k:=2) (g:=oQ) D F5 b4 fun _ _ _ _ _ _ _ hr=>by unfold oQ;exact (aL (bH (eu (gT rfl) rfl B.tuple bd (bx (JE.bor (JN.je (dX (N':=["_law_k","_law_fact","_law_script","_law_at","_law_part"]) (ix:=[0,1,3]) 2 (by decide) rfl (bS (so:=aw pC) (N:=zv) (by decide +kernel)) (Lh.i (yt rfl B.enumerate (aa (ai 2) aD))) (fun cl A0 s0 H0 ex pn=>⟨Gb rfl (qp (cy (i:=0) (by show (["_law_k","_law_fact","_law_script","_law_at","_law_part"] : List Str).Nodup;decide +kernel) rfl (.inl rfl)) (qp (cy (i:=1) (by show (["_law_k","_law_fact","_law_script","_law_at","_law_part"] : List Str).Nodup;decide +kernel) rfl (.inl rfl)) BN)),(iy (dk (yk) (JE.bor (jc aY hr dv (aa (ai 2) (aa (bV cJ (aj 3) (aj 0)) (aa aC aD))))) (aj 4))),(ai 1)⟩)))) bX))))
abbrev jY:cr:=mi 52
abbrev pE:List Str:=["_law_script","_law_at","_law_facts_here","_law_name","_law_one","_law_two","_law_goal","_law_needs","_law_bars","_law_ends","_law_parts"]
theorem gL:bu pE ["_law_script","_law_at","_law_facts_here","_law_name"] (aw jY):=df (by decide +kernel)
abbrev zx (e:En):=FN e "_law_thin" 3 4 oT
theorem F7 (D:fR e.K e.mg "_law_thin" jY) (B:Bi e.mg) (aY:eP e):zx e:=nC (k:=2) (g:=oS) D gL b4 fun _ _ _ _ _ _ _ hr=>by have hu1:=gJ hr;have hu64:=hr.units;unfold oS;exact (ax (dI 4 (bM hu1 (aj 2) (JE.bor (jc aY hr px (aa (ai 0) (aa (bV cJ (aj 1) (JE.bor aC)) (aa (c6 ii rfl B.len b_ (bx (aj 2) bX)) aD)))))) gL.nd) (ax (dI 5 (bM hu1 (aj 2) (JE.bor (jc aY hr px (aa (ai 0) (aa (bV cJ (aj 1) (JE.bor aC)) (aa (c6 ii rfl B.len b_ (bx (aj 2) bX)) aD)))))) gL.nd) (ax (dI 6 (bM hu1 (aj 2) (JE.bor (jc aY hr px (aa (ai 0) (aa (bV cJ (aj 1) (JE.bor aC)) (aa (c6 ii rfl B.len b_ (bx (aj 2) bX)) aD)))))) gL.nd) (ax (dI 7 (qy (JE.bor (jR (aa (ai 4) (aa (ai 5) aD)))) xq (rm (bV cJ (JE.bor aC) (JE.bor (bV Q2 (JE.bor (jc aY hr px (aa (ai 0) (aa (bV cJ (aj 1) (JE.bor aC)) (aa aC aD))))) (JE.bor aC)))))) gL.nd) (ax (iX 8 (N':=["_law_fact","_law_needs","_law_script","_law_at"]) (ix:=[7,0,1]) 1 (by decide) gL.nd rfl (bS (so:=aw jY) (N:=pE) (by decide +kernel)) (eN (JE.bor (jR (aa (ai 6) aD)))) (fun cl A0 s0 H0 ex pn=>⟨cy (i:=0) (by show (["_law_fact","_law_needs","_law_script","_law_at"] : List Str).Nodup;decide +kernel) rfl (.inl rfl),(iy (JW.t (yi (dk (yo) (aj 0) (aj 1)) (uG (dk (sJ hu64) (JE.bor (jc aY hr dv (aa (ai 2) (aa (bV cJ (aj 3) (JE.bor aC)) (aa aC aD))))) (JE.bor aC)))))),(ai 0)⟩)) (ax (iX 9 (N':=["_law_fact","_law_goal","_law_script","_law_at"]) (ix:=[6,0,1]) 1 (by decide) gL.nd rfl (bS (so:=aw jY) (N:=pE) (by decide +kernel)) (eN (JE.bor (jR (aa (ai 4) aD)))) (fun cl A0 s0 H0 ex pn=>⟨cy (i:=0) (by show (["_law_fact","_law_goal","_law_script","_law_at"] : List Str).Nodup;decide +kernel) rfl (.inl rfl),(iy (JW.t (yi (dk (wv hu64) (aj 0) (aj 1)) (uG (dk (sJ hu64) (JE.bor (jc aY hr dv (aa (ai 2) (aa (bV cJ (aj 3) (JE.bor aC)) (aa aC aD))))) (JE.bor aC)))))),(ai 0)⟩)) (ax (GJ 8 (GJ 9 (iX 10 (N':=["_law_part"]) (ix:=[]) 1 (by decide) gL.nd rfl (bS (so:=aw jY) (N:=pE) (by decide +kernel)) (eN (JE.bor (jy (aa (ai 7) (aa (ai 8) (aa (jR (aa (ai 6) aD)) (aa (ai 9) aD))))))) (fun cl A0 s0 H0 ex pn=>⟨cy (i:=0) (by show (["_law_part"] : List Str).Nodup;decide +kernel) rfl (.inl rfl),fL,(eu (gT rfl) rfl B.tuple bd (bx (JE.bor (tq rfl (Ci rfl (aj 0) rfl B.set) rfl B.sorted)) bX))⟩)))) (aL (bH (jy (aa (ai 3) (aa (bM hu1 (aj 10) (JE.bor aC)) (aa (bM hu1 (aj 10) (JE.bor aC)) (aa (bM hu1 (aj 10) (JE.bor aC)) (aa (bM hu1 (aj 10) (JE.bor aC)) (aa (jc aY hr px (aa (ai 0) (aa (ai 1) (aa aC aD)))) aD))))))))))))))))
abbrev lr:cr:=mi 53
abbrev v9:List Str:=["_law_script","_law_at","_law_facts_here","_law_name","_law_parts","_law_k","_law_fact","_law_way","_law_some_here"]
theorem gj:bu v9 ["_law_script","_law_at","_law_facts_here","_law_name"] (aw lr):=df (by decide +kernel)
abbrev vb (e:En):=FN e "_law_errand" 4 4 iA
theorem At (D:fR e.K e.mg "_law_errand" lr) (B:Bi e.mg) (aY:eP e) (tQ:zx e):vb e:=nC (k:=3) (g:=iz) D gj b4 fun _ _ _ _ _ _ _ hr=>by have hu1:=gJ hr;have hu64:=hr.units;unfold iz;exact (ax (ft (JW.t (yi (dk (wv hu64) (aj 2) (JE.bor (jy aD))) (uG (dk (sJ hu64) (JE.bor (jc aY hr px (aa (ai 0) (aa aC (aa aC aD))))) (JE.bor aC))))) (aL (bH (jc tQ hr px (aa (ai 0) (aa (ai 1) (aa (ai 2) (aa (ai 3) aD))))))) cK) (ax (Te 4 gj.nd) (ax (kN rfl (yt rfl B.enumerate (aa (ai 2) aD)) (oI rfl (c_ (cL 5 gj.nd) (c_ (cL 6 gj.nd) kX))) (ax (dI 7 (jc aY hr dv (aa (ai 0) (aa (bV cJ (JE.bor (bV cJ (aj 1) (JE.bor aC))) (aj 5)) (aa aC aD)))) gj.nd) (ax (ft (dk (yk) (aj 7) (JE.bor aC)) (aL (yC 4 (bM hu1 (JE.bor (jR (aa aC (aa aC (aa aC aD))))) (aj 7)) (ai 6))) cK) (ax (dI 7 (jc aY hr dv (aa (ai 0) (aa (bV cJ (JE.bor (bV cJ (aj 1) (JE.bor aC))) (aj 5)) (aa aC aD)))) gj.nd) (aL (ft (dk (yk) (aj 7) (JE.bor aC)) (aL (yC 4 (bM hu1 (JE.bor (jR (aa aC (aa aC (aa aC (aa aC aD)))))) (aj 7)) (ai 6))) cK)))))) (ax (MU (iX 8 (N':=["_law_part"]) (ix:=[]) 1 (by decide) gj.nd rfl (bS (so:=aw lr) (N:=v9) (by decide +kernel)) (eN (aj 4)) (fun cl A0 s0 H0 ex pn=>⟨cy (i:=0) (by show (["_law_part"] : List Str).Nodup;decide +kernel) rfl (.inl rfl),fL,(eu (gT rfl) rfl B.tuple bd (bx (aj 0) bX))⟩))) (aL (bH (jy (aa (ai 3) (aa (bM hu1 (aj 8) (JE.bor aC)) (aa (bM hu1 (aj 8) (JE.bor aC)) (aa (bM hu1 (aj 8) (JE.bor aC)) (aa (bM hu1 (aj 8) (JE.bor aC)) (aa (jc aY hr px (aa (ai 0) (aa (ai 1) (aa aC aD)))) aD)))))))))))))
abbrev pF:cr:=mi 54
abbrev zy:List Str:=["_law_script","_law_at","_law_most","_law_many","_law_facts_here","_law_made","_law_k","_law_name","_law_names","_law_turn"]
theorem io:bu zy ["_law_script","_law_at","_law_most","_law_many"] (aw pF):=df (by decide +kernel)
abbrev zz (e:En):=FN e "_law_book" 5 4 lP
theorem F8 (D:fR e.K e.mg "_law_book" pF) (B:Bi e.mg) (qW:wE e) (jX:tP e) (pG:vb e) (aY:eP e):zz e:=nC (k:=4) (g:=lO) D io b4 fun _ _ _ _ _ _ _ hr=>by have hu1:=gJ hr;unfold lO;exact (ax (dI 4 (jc qW hr px (aa (ai 0) (aa (ai 1) (aa (ai 2) aD)))) io.nd) (ax (hW 5 Iv io.nd) (ax (kN rfl (lJ rfl B.range (bx (JE.bor (jc aY hr dv (aa (ai 0) (aa (bV cJ (aj 1) (JE.bor aC)) (aa (bV cJ (aj 3) (JE.bor aC)) aD))))) bX)) (cL 6 io.nd) (ax (dI 7 (jc jX hr dv (aa (ai 0) (aa (bV cJ (JE.bor (bV cJ (aj 1) (JE.bor aC))) (JE.bor (bV oF (JE.bor aC) (aj 6)))) aD))) io.nd) (aL (Iy 5 (jc pG hr dv (aa (ai 0) (aa (bV cJ (JE.bor (bV cJ (aj 1) (JE.bor aC))) (JE.bor (bV oF (JE.bor aC) (aj 6)))) (aa (ai 4) (aa (ai 7) aD))))) (ai 7) hu1)))) (ax (dI 8 (eu (yy rfl) rfl B.list mE (bx (aj 5) bX)) io.nd) (ax (dI 9 (jc aY hr px (aa (ai 0) (aa (bV cJ (aj 1) (JE.bor aC)) (aa (bV cJ (JE.bor (c6 ii rfl B.len b_ (bx (aj 8) bX))) (JE.bor aC)) aD)))) io.nd) (aL (bH (jy (aa (ai 4) (aa (eu (gT rfl) rfl B.tuple bd (bx (JE.bor (JN.je (dX (N':=["_law_name","_law_made"]) (ix:=[5]) 1 (by decide) rfl (bS (so:=aw pF) (N:=zy) (by decide +kernel)) (eN (JE.bor (bV cJ (JE.bor (qy (aj 8) (rm (ai 9)) xq)) (JE.bor (qy (aj 8) xq (rm (ai 9))))))) (fun cl A0 s0 H0 ex pn=>⟨cy (i:=0) (by show (["_law_name","_law_made"] : List Str).Nodup;decide +kernel) rfl (.inl rfl),fL,(bM hu1 (aj 1) (aj 0))⟩)))) bX)) aD))))))))))
abbrev tR:cr:=mi 55
abbrev Hu:List Str:=["_law_script","_law_at","_law_facts_here","_law_must","_law_bars","_law_k","_law_fact","_law_way"]
theorem jf:bu Hu ["_law_script","_law_at","_law_facts_here"] (aw tR):=df (by decide +kernel)
abbrev zA (e:En):=FN e "_law_want" 3 3 tE
theorem F9 (D:fR e.K e.mg "_law_want" tR) (B:Bi e.mg) (aY:eP e):zA e:=nC (k:=2) (g:=lQ) D jf b3 fun _ _ _ _ _ _ _ hr=>by have hu64:=hr.units;unfold lQ;exact (ax (hW 3 (qB aD) jf.nd) (ax (hW 4 (qB aD) jf.nd) (ax (kN rfl (yt rfl B.enumerate (aa (ai 2) aD)) (oI rfl (c_ (cL 5 jf.nd) (c_ (cL 6 jf.nd) kX))) (ax (dI 7 (jc aY hr dv (aa (ai 0) (aa (bV cJ (aj 1) (aj 5)) (aa aC aD)))) jf.nd) (aL (ft (dk (yk) (aj 7) (JE.bor aC)) (aL (jT 3 (ai 6))) (aL (ft (dk (sJ hu64) (aj 7) (JE.bor aC)) (aL (jT 4 (ai 6))) cK)))))) (aL (bH (jy (aa (eu (gT rfl) rfl B.tuple bd (bx (aj 3) bX)) (aa (eu (gT rfl) rfl B.tuple bd (bx (aj 4) bX)) aD))))))))
abbrev tS:cr:=mi 56
abbrev Hv:List Str:=["_law_script","_law_most","_law_many","_law_book_here","_law_state"]
theorem qX:bu Hv ["_law_script","_law_most","_law_many"] (aw tS):=df (by decide +kernel)
abbrev zB (e:En):=FN e "_law_case" 6 3 lR
theorem Fa (D:fR e.K e.mg "_law_case" tS) (tT:zz e) (aY:eP e) (tU:zw e) (tV:zA e):zB e:=nC (k:=5) (g:=oU) D qX b3 fun _ _ _ _ _ _ _ hr=>by have hu1:=gJ hr;unfold oU;exact (ax (dI 3 (jc tT hr px (aa (ai 0) (aa aC (aa (ai 1) (aa (ai 2) aD))))) qX.nd) (ax (dI 4 (jc tU hr px (aa (ai 0) (aa aC (aa (bM hu1 (aj 3) (JE.bor aC)) (aa (bM hu1 (JE.bor (jR (aa aC (aa aC aD)))) (JE.bor (jc aY hr px (aa (ai 0) (aa aC (aa aC aD)))))) aD))))) qX.nd) (aL (bH (jy (aa (ai 3) (aa (ai 4) (aa (jc tV hr px (aa (ai 0) (aa aC (aa (bM hu1 (aj 3) (JE.bor aC)) aD)))) aD))))))))
abbrev m7:cr:=mi 57
abbrev tW:List Str:=["_law_state","_law_want_here"]
theorem Fb:bu tW ["_law_state","_law_want_here"] (aw m7):=df (by decide +kernel)
abbrev pH (e:En):=FN e "_law_good" 1 2 il
theorem Fc (D:fR e.K e.mg "_law_good" m7) (B:Bi e.mg):pH e:=nC (k:=0) (g:=oV) D Fb b2 fun _ _ _ _ _ _ _ hr=>by have hu1:=gJ hr;unfold oV;exact (aL (bH (tf (c6 (ny rfl) rfl B.all cx (bx (JE.bor (JN.je (dX (N':=["_law_fact","_law_state"]) (ix:=[0]) 1 (by decide) rfl (bS (so:=aw m7) (N:=tW) (by decide +kernel)) (eN (JE.bor (bM hu1 (aj 1) (JE.bor aC)))) (fun cl A0 s0 H0 ex pn=>⟨cy (i:=0) (by show (["_law_fact","_law_state"] : List Str).Nodup;decide +kernel) rfl (.inl rfl),fL,(nu (yn) (aj 0) (aj 1))⟩)))) bX)) (vK (C7 (c6 (GD rfl) rfl B.any nO (bx (JE.bor (JN.je (dX (N':=["_law_fact","_law_state"]) (ix:=[0]) 1 (by decide) rfl (bS (so:=aw m7) (N:=tW) (by decide +kernel)) (eN (JE.bor (bM hu1 (aj 1) (JE.bor aC)))) (fun cl A0 s0 H0 ex pn=>⟨cy (i:=0) (by show (["_law_fact","_law_state"] : List Str).Nodup;decide +kernel) rfl (.inl rfl),fL,(nu (yn) (aj 0) (aj 1))⟩)))) bX)))))))
abbrev pI:cr:=mi 58
abbrev zC:List Str:=["_law_errand_here","_law_state","_law_left"]
theorem wF:bu zC ["_law_errand_here","_law_state"] (aw pI):=df (by decide +kernel)
abbrev pJ (e:En):=FN e "_law_step" 2 2 dY
theorem Fd (D:fR e.K e.mg "_law_step" pI) (B:Bi e.mg) (gS:pH e):pJ e:=nC (k:=1) (g:=oW) D wF b2 fun _ _ _ _ _ _ _ hr=>by have hu1:=gJ hr;unfold oW;exact (ax (ft (g6 (eL (jc gS hr px (aa (ai 1) (aa (qy (aj 0) (rm aC) (rm aC)) aD))))) (aL (bH qw)) cK) (ax (iX 2 (N':=["_law_fact","_law_errand_here"]) (ix:=[0]) 1 (by decide) wF.nd rfl (bS (so:=aw pI) (N:=zC) (by decide +kernel)) (eN (aj 1)) (fun cl A0 s0 H0 ex pn=>⟨cy (i:=0) (by show (["_law_fact","_law_errand_here"] : List Str).Nodup;decide +kernel) rfl (.inl rfl),(iy (dk (yo) (aj 0) (JE.bor (bM hu1 (aj 1) (JE.bor aC))))),(ai 0)⟩)) (aL (bH (eu (gT rfl) rfl B.tuple bd (bx (JE.bor (tq rfl (Ci rfl (JE.bor (bV cJ (aj 2) (JE.bor (eu (yy rfl) rfl B.list mE (bx (JE.bor (bM hu1 (aj 0) (JE.bor aC))) bX))))) rfl B.set) rfl B.sorted)) bX))))))
abbrev pK:cr:=mi 59
abbrev D3:List Str:=["_law_book_here","_law_state","_law_met","_law_row","_law_at","_law_errand_here","_law_other"]
theorem gm:bu D3 ["_law_book_here","_law_state"] (aw pK):=df (by decide +kernel)
abbrev vc (e:En):=FN e "_law_levels" 3 2 l8
theorem Au (D:fR e.K e.mg "_law_levels" pK) (B:Bi e.mg) (gq:pJ e):vc e:=nC (k:=2) (g:=l7) D gm b2 fun _ _ _ _ _ _ _ hr=>by have hu1:=gJ hr;unfold l7;exact (ax (hW 2 (Es hu1 (ai 1) aC) gm.nd) (ax (hW 3 (qB (aa (ai 1) aD)) gm.nd) (ax (dI 4 aC gm.nd) (ax (E6 100000 (dk (yk) (aj 4) (JE.bor (c6 ii rfl B.len b_ (bx (aj 3) bX)))) (ax (kN rfl (xr (bM hu1 (aj 0) (JE.bor aC))) (cL 5 gm.nd) (ax (dI 6 (jc gq hr dv (aa (ai 5) (aa (bM hu1 (aj 3) (aj 4)) aD))) gm.nd) (aL (ft (JW.t (yi (dk (DV) (aj 6) (JE.bor qw)) (uG (dk (Bb hu1) (aj 6) (aj 2))))) (ax (Ep 2 (bV cJ (JE.bor (vO hu1 (aj 2) (JE.bor (bM hu1 (aj 3) (aj 4))))) (JE.bor aC)) (ai 6) hu1) (aL (jT 3 (ai 6)))) cK)))) (aL (dI 4 (bV cJ (aj 4) (JE.bor aC)) gm.nd)))) (aL (NP 2 (bH (ai 2))))))))
abbrev rW:cr:=mi 60
abbrev Bz:List Str:=["_law_book_here","_law_state","_law_want_here","_law_met","_law_some_here"]
theorem tX:bu Bz ["_law_book_here","_law_state","_law_want_here"] (aw rW):=df (by decide +kernel)
abbrev BA (e:En):=FN e "_law_far" 4 3 j8
theorem Hw (D:fR e.K e.mg "_law_far" rW) (B:Bi e.mg) (pL:vc e) (gS:pH e):BA e:=nC (k:=3) (g:=rN) D tX b3 fun _ _ _ _ _ _ _ hr=>by have hu1:=gJ hr;have hu64:=hr.units;unfold rN;exact (ax (dI 3 (jc pL hr px (aa (ai 0) (aa (ai 1) aD))) tX.nd) (ax (iX 4 (N':=["_law_one","_law_want_here","_law_met"]) (ix:=[2,3]) 1 (by decide) tX.nd rfl (bS (so:=aw rW) (N:=Bz) (by decide +kernel)) (Cv (aj 3)) (fun cl A0 s0 H0 ex pn=>⟨cy (i:=0) (by show (["_law_one","_law_want_here","_law_met"] : List Str).Nodup;decide +kernel) rfl (.inl rfl),(iy (eL (jc gS hr dv (aa (ai 0) (aa (ai 1) aD))))),(vO hu1 (aj 2) (aj 0))⟩)) (ax (ft (dk (sJ hu64) (aj 4) (JE.bor (jR aD))) (aL (bH qw)) cK) (aL (bH (c6 (TD rfl) rfl B.min PyProof.Rows.boot_min (bx (aj 4) bX)))))))
abbrev pM:cr:=mi 61
abbrev zD:List Str:=["_law_script","_law_at","_law_book_here","_law_state","_law_many","_law_row","_law_k","_law_some_here","_law_errand_here"]
theorem jg:bu zD ["_law_script","_law_at","_law_book_here","_law_state","_law_many"] (aw pM):=df (by decide +kernel)
abbrev zE (e:En):=FN e "_law_walk" 3 5 lS
theorem Fe (D:fR e.K e.mg "_law_walk" pM) (B:Bi e.mg) (gq:pJ e) (aY:eP e):zE e:=nC (k:=2) (g:=oX) D jg b5 fun _ _ _ _ _ _ _ hr=>by have hu1:=gJ hr;have hu64:=hr.units;unfold oX;exact (ax (hW 5 (qB aD) jg.nd) (ax (kN rfl (lJ rfl B.range (bx (aj 4) bX)) (cL 6 jg.nd) (ax (iX 7 (N':=["_law_errand_here","_law_state"]) (ix:=[3]) 1 (by decide) jg.nd rfl (bS (so:=aw pM) (N:=zD) (by decide +kernel)) (eN (JE.bor (bM hu1 (aj 2) (JE.bor aC)))) (fun cl A0 s0 H0 ex pn=>⟨cy (i:=0) (by show (["_law_errand_here","_law_state"] : List Str).Nodup;decide +kernel) rfl (.inl rfl),(iy (dk (DV) (JE.bor (jc gq hr dv (aa (ai 0) (aa (ai 1) aD)))) (JE.bor qw))),(ai 0)⟩)) (ax (ft (dk (sJ hu64) (aj 7) (JE.bor (jR aD))) (aL (bH (ai 5))) cK) (ax (dI 8 (bM hu1 (aj 7) (JE.bor (jc aY hr dv (aa (ai 0) (aa (bV cJ (aj 1) (aj 6)) (aa (c6 ii rfl B.len b_ (bx (aj 7) bX)) aD)))))) jg.nd) (ax (jT 5 (bM hu1 (aj 8) (JE.bor aC))) (aL (dI 3 (jc gq hr dv (aa (ai 8) (aa (ai 3) aD))) jg.nd))))))) (aL (bH (ai 5)))))
abbrev lu:cr:=mi 62
abbrev vd:List Str:=["_law_book_here","_law_state","_law_row","_law_named","_law_found","_law_number","_law_name","_law_other"]
theorem gY:bu vd ["_law_book_here","_law_state","_law_row"] (aw lu):=df (by decide +kernel)
abbrev vf (e:En):=FN e "_law_states" 3 3 iB
theorem Av (D:fR e.K e.mg "_law_states" lu) (B:Bi e.mg) (gq:pJ e):vf e:=nC (k:=2) (g:=l9) D gY b3 fun _ _ _ _ _ _ _ hr=>by have hu1:=gJ hr;unfold l9;exact (ax (hW 3 (Kn rfl (JN.je (dX (N':=["_law_errand_here"]) (ix:=[]) 1 (by decide) rfl (bS (so:=aw lu) (N:=vd) (by decide +kernel)) (eN (JE.bor (bM hu1 (aj 0) (JE.bor aC)))) (fun cl A0 s0 H0 ex pn=>⟨cy (i:=0) (by show (["_law_errand_here"] : List Str).Nodup;decide +kernel) rfl (.inl rfl),fL,(jy (aa (bM hu1 (aj 0) (JE.bor aC)) (aa (ai 0) aD)))⟩))) rfl B.dict) gY.nd) (ax (hW 4 (qB (aa (ai 1) aD)) gY.nd) (ax (kN rfl (Ko rfl B.enumerate (aa (ai 2) aD)) (oI rfl (c_ (cL 5 gY.nd) (c_ (cL 6 gY.nd) kX))) (ax (dI 7 (jc gq hr dv (aa (bM hu1 (aj 3) (aj 6)) (aa (bM hu1 (aj 4) (JE.bor (MS aC))) aD))) gY.nd) (ax (ft (dk (MH) (aj 7) (JE.bor qw)) (aL (bH (ai 5))) cK) (aL (jT 4 (ai 7)))))) (aL (bH (ai 4))))))
abbrev tY:cr:=mi 63
abbrev Hx:List Str:=["_law_book_here","_law_state","_law_want_here","_law_row","_law_found"]
theorem wG:bu Hx ["_law_book_here","_law_state","_law_want_here","_law_row"] (aw tY):=df (by decide +kernel)
abbrev zF (e:En):=FN e "_law_does" 4 4 lT
theorem Ff (D:fR e.K e.mg "_law_does" tY) (B:Bi e.mg) (pO:vf e) (gS:pH e):zF e:=nC (k:=3) (g:=oY) D wG b4 fun _ _ _ _ _ _ _ hr=>by have hu1:=gJ hr;unfold oY;exact (ax (dI 4 (jc pO hr px (aa (ai 0) (aa (ai 1) (aa (ai 3) aD)))) wG.nd) (aL (bH (tf (C7 (oG (aj 4) rfl B.isinstance rfl B.int xK (by decide))) (vK (jc gS hr px (aa (bM hu1 (aj 4) (JE.bor (MS aC))) (aa (ai 2) aD))))))))
abbrev qY:cr:=mi 66
abbrev Jk:List Str:=["_law_script","_law_book_here","_law_state","_law_want_here","_law_told","_law_due","_law_errand_here","_law_rest","_law_k","_law_row"]
theorem nN:bu Jk ["_law_script"] (aw qY):=df (by decide +kernel)
theorem U9 {f:ah}{fd:dE} (F:DB e.K "law" "law" qY f fd) (B:Bi e.mg) (tZ:zB e) (rX:BA e) (t_:zq e) (aY:eP e) (u0:zE e) (u3:zF e) (T_law_told_three_must_do:FT e "_law_told_three" "must_do" 11 3 (yG Qx j7)):sg e.P e.w e.K e.mg e.base (mh e.P e.w) 12 f fd ["_law_script"] (RC e.K e.cls 1 F_law):=by
 refine RF (k:=11) (g:=IZ) F nN fun cdv A outer s H E hr=>?_
 have hu1:=gJ hr
 have hu64:=hr.units
 unfold IZ
 exact (ax (yq (jc tZ hr px (aa (ai 0) (aa aC (aa aC aD)))) (oI rfl (c_ (cL 1 nN.nd) (c_ (cL 2 nN.nd) (c_ (cL 3 nN.nd) kX))))) (ax (dI 4 (jd T_law_told_three_must_do hr px (aa (ai 1) (aa (ai 2) (aa (ai 3) aD)))) nN.nd) (ax (ft (dk (MH) (JE.bor (jc rX hr px (aa (ai 1) (aa (ai 2) (aa (ai 3) aD))))) (JE.bor qw)) (aL (bH (nu (sJ hu64) (aj 4) (JE.bor (jy (aa oE (aa aC aD))))))) cK) (ax (hW 5 (qB aD) nN.nd) (ax (kN rfl (xr (bM hu1 (aj 1) (JE.bor aC))) (cL 6 nN.nd) (ax (dI 7 (jy (aa (bM hu1 (aj 1) (JE.bor aC)) (aa (eu (gT rfl) rfl B.tuple bd (bx (JE.bor (JN.je (dX (N':=["_law_one","_law_errand_here"]) (ix:=[6]) 1 (by decide) rfl (bS (so:=aw qY) (N:=Jk) (by decide +kernel)) (eN (JE.bor (bM hu1 (aj 1) (JE.bor aC)))) (fun cl A0 s0 H0 ex pn=>⟨cy (i:=0) (by show (["_law_one","_law_errand_here"] : List Str).Nodup;decide +kernel) rfl (.inl rfl),(iy (dk (wv hu64) (aj 0) (aj 1))),(ai 0)⟩)))) bX)) aD))) nN.nd) (aL (ft (dk (MH) (JE.bor (jc rX hr dv (aa (ai 7) (aa (ai 2) (aa (ai 3) aD))))) (JE.bor qw)) (aL (jT 5 (bM hu1 (aj 6) (JE.bor aC)))) cK)))) (ax (ft (JW.t (sH (dk (wv hu64) (aj 4) (aj 5)) (nw (g6 (eL (c6 (ny rfl) rfl B.all cx (bx (JE.bor (JN.je (dX (N':=["_law_name","_law_book_here","_law_state","_law_want_here"]) (ix:=[1,2,3]) 1 (by decide) rfl (bS (so:=aw qY) (N:=Jk) (by decide +kernel)) (eN (aj 4)) (fun cl A0 s0 H0 ex pn=>⟨cy (i:=0) (by show (["_law_name","_law_book_here","_law_state","_law_want_here"] : List Str).Nodup;decide +kernel) rfl (.inl rfl),fL,(nu (yn) (aj 0) (JE.bor (jc t_ hr dv (aa (ai 1) (aa (ai 2) (aa (ai 3) aD))))))⟩)))) bX))))))) (aL (bH lH)) cK) (ax (kN rfl (lJ rfl B.range (bx (JE.bor aC) bX)) (cL 8 nN.nd) (ax (dI 9 (jc u0 hr dv (aa (ai 0) (aa (bV cJ (JE.bor aC) (JE.bor (bV oF (JE.bor aC) (aj 8)))) (aa (ai 1) (aa (ai 2) (aa (jc aY hr dv (aa (ai 0) (aa (ai 8) (aa aC aD)))) aD)))))) nN.nd) (aL (ft (JW.t (yi (eL (jc u3 hr dv (aa (ai 1) (aa (ai 2) (aa (ai 3) (aa (ai 9) aD)))))) (uG (g6 (eL (c6 (ny rfl) rfl B.all cx (bx (JE.bor (JN.je (dX (N':=["_law_name","_law_row"]) (ix:=[9]) 1 (by decide) rfl (bS (so:=aw qY) (N:=Jk) (by decide +kernel)) (eN (aj 4)) (fun cl A0 s0 H0 ex pn=>⟨cy (i:=0) (by show (["_law_name","_law_row"] : List Str).Nodup;decide +kernel) rfl (.inl rfl),fL,(nu (yn) (aj 0) (aj 1))⟩)))) bX))))))) (aL (bH lH)) cK)))) (aL (bH lH)))))))))
end
end Z
end
section
namespace Z
open PySem L2 J
theorem all_mk {l:wL}{w:bc}{K:a8}{h:br}{mg:Str->Option a9}{fa A:ah}{kF:ah}{jh:ah}{kG:ah}{jZ:ah}{rY:ah}{n8:ah}{lB:ah}{lC:ah}{j_:ah}{lE:ah}{oa:ah}{ji:ah}{od an:Option ah}{sl:Array (Option a9)}{oc kV dc pm cv ct:a9} (X:K.In h) (G:h.Ns bN mg) (hfa:mg "law"=some (.ref fa))
  (Zz:Zs K zn)
  (lW:Cn mg "MOST_LETTERS" 6)
  (pi:Cn mg "MOST_PRICE" 9)
  (pj:Cn mg "MOST_FACTS" 6)
  (lX:Cn mg "MOST_ERRANDS" 6)
  (Ws:S7 K ES [kF,jh,kG,jZ,rY,n8,lB,lC,j_,lE,oa])
  (BB:TopC K "NoState" jh)
  (Fg:TopC K "NoWant" kG)
  (Fh:TopC K "NoBook" kF)
  (Jl:TopC K "NoWay" n8)
  (nc:TopC K "PlanError" ji)
  (w_NoState:Wy K jh ji [(kF,false),(jh,true),(kG,false),(jZ,false),(rY,false),(n8,false),(lB,false),(lC,false),(j_,false),(lE,false),(oa,false)])
  (w_NoWant:Wy K kG ji [(kF,false),(jh,false),(kG,true),(jZ,false),(rY,false),(n8,false),(lB,false),(lC,false),(j_,false),(lE,false),(oa,false)])
  (w_NoBook:Wy K kF ji [(kF,true),(jh,false),(kG,false),(jZ,false),(rY,false),(n8,false),(lB,false),(lC,false),(j_,false),(lE,false),(oa,false)])
  (w_NoWay:Wy K n8 ji [(kF,false),(jh,false),(kG,false),(jZ,false),(rY,false),(n8,true),(lB,false),(lC,false),(j_,false),(lE,false),(oa,false)])
  (Fi:fR K mg "_law_which" qI)
  (wg:fR K mg "_law_told_three" gD)
  (D4:fR K mg "share_none" li)
  (KR:fR K mg "without" rQ)
  (OK:fR K mg "joined" zc)
  (KS:fR K mg "is_word" rR)
  (u4:fR K mg "are_rising_words" fK)
  (Fj:fR K mg "are_facts" mY)
  (Hy:fR K mg "is_whole" tH)
  (Fk:fR K mg "is_errand" m_)
  (KU:fR K mg "is_book" o8)
  (KW:fR K mg "is_want" vX)
  (Aw:fR K mg "check_state" nG)
  (D5:fR K mg "check_want" pp)
  (KY:fR K mg "fulfils" rS)
  (Fm:fR K mg "is_doable" qK)
  (zG:fR K mg "state_behind" lY)
  (KZ:fR K mg "checked" w9)
  (Ax:fR K mg "check_place" nI)
  (Fo:fR K mg "check_aim" qM)
  (D6:fR K mg "steps_from" ll)
  (D7:fR K mg "first_rows" pw)
  (K_:fR K mg "nearest" o9)
  (Hz:fR K mg "shortest" tN)
  (Fp:fR K mg "is_served" n5)
  (zH:fR K mg "check_served" l_)
  (zI:fR K mg "must_be_done" jJ)
  (L3:fR K mg "must_do" rV)
  (Ay:fR K mg "_law_cell_at" nL)
  (Fq:fR K mg "_law_mixed" qU)
  (HA:fR K mg "_law_word" tO)
  (Fs:fR K mg "_law_facts" qV)
  (HB:fR K mg "_law_some" pC)
  (HC:fR K mg "_law_thin" jY)
  (D8:fR K mg "_law_errand" lr)
  (HD:fR K mg "_law_book" pF)
  (HE:fR K mg "_law_want" tR)
  (HF:fR K mg "_law_case" tS)
  (HG:fR K mg "_law_good" m7)
  (HH:fR K mg "_law_step" pI)
  (D9:fR K mg "_law_levels" pK)
  (L5:fR K mg "_law_far" rW)
  (HI:fR K mg "_law_walk" pM)
  (Da:fR K mg "_law_states" lu)
  (HJ:fR K mg "_law_does" tY)
  (l0:gN K bN "law"=some (some (.ref A)))
  (l1:K.lookup A=some ⟨oc,od,.func (eE "law" "law" (mF qY) (iu qY) (aw qY) .none kV dc pm an cv ct),sl⟩)
  (l2:js K cv "law"=true)
  (l3:dW K (.ref A)=true)
  : ∃ fd:dE,(∀ (s:af) (v:a9),zN s fd ⟨[v],[]⟩ [("_law_script",v)])/\∀ base:br,K.In base->base.Ns bN mg->sg l.prog w K mg base (mh l.prog w) 12 fa fd ["_law_script"] (Va K F_law):=by
 have q:=hfa.symm.trans (k9 X G l0)
 cases q
 refine ⟨eE "law" "law" (mF qY) (iu qY) (aw qY) .none kV dc pm an cv ct,fun s v=>.of_eq rfl,fun base X G=>?_⟩
 let e:En:=⟨l.prog,w,K,mg,base,Vb [("NoBook",kF),("NoState",jh),("NoWant",kG),("NoErrand",jZ),("NoRow",rY),("NoWay",n8),("NoPaper",lB),("NoFacts",lC),("NoNumber",j_),("Nothing",lE),("NoText",oa),("PlanError",ji)]⟩
 have B:Bi e.mg:=Vw X G Zz
 have vY:ER e "NoState":=BB.er X G rfl
 have zg:ER e "NoWant":=Fg.er X G rfl
 have zj:ER e "NoBook":=Fh.er X G rfl
 have D0:ER e "NoWay":=Jl.er X G rfl
 obtain ⟨fw,fdw,Fw,mw⟩:=Fi.ex
 have W:Wh e.P e.w e.K e.mg e.base e.cls "_law_which" ES Qx:=by
  refine ⟨⟨_,_,_,Ai (e:=e) Fw B (Vx X G Zz) (Vy X G Ws rfl),mw,Fw.kp,b1 Fw⟩,k9 X G nc.ns,?_,fun y j h=>?_⟩
  ·obtain ⟨bm,o,_⟩:=(GI X G nc.ns nc.ex nc.mb).2
   exact ⟨bm,o⟩
  unfold Qx at h
  by_cases hy:y="NoState"
  ·subst hy
   simp at h
   subst h
   exact IV X G BB w_NoState Ws rfl rfl rfl rfl rfl (by decide) (by decide)
  rw [if_neg hy] at h
  by_cases hy:y="NoWant"
  ·subst hy
   simp at h
   subst h
   exact IV X G Fg w_NoWant Ws rfl rfl rfl rfl rfl (by decide) (by decide)
  rw [if_neg hy] at h
  by_cases hy:y="NoBook"
  ·subst hy
   simp at h
   subst h
   exact IV X G Fh w_NoBook Ws rfl rfl rfl rfl rfl (by decide) (by decide)
  rw [if_neg hy] at h
  by_cases hy:y="NoWay"
  ·subst hy
   simp at h
   subst h
   exact IV X G Jl w_NoWay Ws rfl rfl rfl rfl rfl (by decide) (by decide)
  rw [if_neg hy] at h
  cases h
 have eK:=Ak (e:=e) D4 B
 have v_:=Hd (e:=e) KR B
 have zi:=KN (e:=e) OK B
 have lA:=Hf (e:=e) KS B lW
 have eA:=sw (e:=e) u4 B lA
 have fv:=CO (e:=e) Fj B eA
 have tJ:=EV (e:=e) Hy B
 have qJ:=CQ (e:=e) Fk B lA tJ fv eK pi
 have wa:=Hh (e:=e) KU B eA qJ pj lX
 have vZ:=Hi (e:=e) KW B fv eK
 have nJ:=zf (e:=e) Aw fv vY
 have pq:=An (e:=e) D5 vZ zg
 have iD:=Hj (e:=e) KY B eK
 have qO:=CU (e:=e) Fm iD
 have lZ:=wY (e:=e) zG v_ zi
 have wc:=Hl (e:=e) KZ wa zj
 have nK:=zm (e:=e) Ax wc nJ
 have ja:=CW (e:=e) Fo nK pq
 have pA:=Aq (e:=e) D6 qO lZ
 have iE:=Ar (e:=e) D7 pA
 have wf:=Hm (e:=e) K_ B iD
 have t_:=EY (e:=e) Hz ja iE wf
 have jb:=C_ (e:=e) Fp B iE iD
 have m5:=w_ (e:=e) zH ja jb D0
 have m6:=xa (e:=e) zI B jb
 have L6:=Hr (e:=e) L3 m5 m6
 have nM:=zu (e:=e) Ay B
 have aY:=D1 (e:=e) Fq nM
 have jX:=E_ (e:=e) HA B aY
 have qW:=D2 (e:=e) Fs B jX aY
 have tU:=F6 (e:=e) HB B aY
 have tQ:=F7 (e:=e) HC B aY
 have pG:=At (e:=e) D8 B aY tQ
 have tT:=F8 (e:=e) HD B qW jX pG aY
 have tV:=F9 (e:=e) HE B aY
 have tZ:=Fa (e:=e) HF tT aY tU tV
 have gS:=Fc (e:=e) HG B
 have gq:=Fd (e:=e) HH B gS
 have pL:=Au (e:=e) D9 B gq
 have rX:=Hw (e:=e) L5 B pL gS
 have u0:=Fe (e:=e) HI B gq aY
 have pO:=Av (e:=e) Da B gq
 have u3:=Ff (e:=e) HJ B pO gS
 have T_law_told_three_must_do:=v3 (e:=e) (k:=10) wg W L6 (by decide) (by decide)
 exact (U9 (e:=e) (M5 l1 l2 l3) B tZ rX t_ aY u0 u3 T_law_told_three_must_do).imp Th
end Z
end
section
open PySem PySem.W PyProof.Rows
def PySem.W.Fast.tw8847914343925642036:Nat:=0
def PySem.W.Fast.tw14870160242676256472:Nat:=0
def PySem.W.Fast.tw10831055284605046850:Nat:=0
def PySem.W.Fast.tw4719321807996220166:Nat:=0
def PySem.W.Fast.tw10213740235971689073:Nat:=0
def PySem.W.Fast.tw12102005089121226109:Nat:=0
def PySem.W.Fast.tw15322451034555515169:Nat:=0
def PySem.W.Fast.tw9144899420188907154:Nat:=0
def PySem.W.Fast.tw668361144952889316:Nat:=0
def PySem.W.Fast.tw8615735522312777762:Nat:=0
def PySem.W.Fast.tw11022996108674491200:Nat:=0
def PySem.W.Fast.tw1269971303919799431:Nat:=0
def PySem.W.Fast.tw16457187248750368701:Nat:=0
def PySem.W.Fast.tw11451807712177371263:Nat:=0
def PySem.W.Fast.tw12157105038563551845:Nat:=0
def PySem.W.Fast.tw14890762235805672091:Nat:=0
def PySem.W.Fast.tw57377211769557098:Nat:=0
def PySem.W.Fast.tw854503633081762538:Nat:=0
def PySem.W.Fast.tw13488313360546786185:Nat:=0
def PySem.W.Fast.tw9592937332420070957:Nat:=0
def PySem.W.Fast.tw15458232824984226412:Nat:=0
def PySem.W.Fast.tw10710887606093121820:Nat:=0
def PySem.W.Fast.tw15237402989487602741:Nat:=0
def PySem.W.Fast.tw1806083583672304660:Nat:=0
def PySem.W.Fast.tw4168837267853842802:Nat:=0
def PySem.W.Fast.tw11284385047538315269:Nat:=0
def PySem.W.Fast.tw7019949648826235446:Nat:=0
def PySem.W.Fast.tw11131748781812986725:Nat:=0
def PySem.W.Fast.tw18421545624498065005:Nat:=0
def PySem.W.Fast.tw7553327344001268250:Nat:=0
def PySem.W.Fast.tw5801280371615853920:Nat:=0
def PySem.W.Fast.tw11399657992760023164:Nat:=0
def PySem.W.Fast.tw13091224394081517886:Nat:=0
def PySem.W.Fast.tw7556705197164436737:Nat:=0
def PySem.W.Fast.tw14092871240126936068:Nat:=0
def PySem.W.Fast.tw10935696113506749436:Nat:=0
def PySem.W.Fast.tw17539413030293738495:Nat:=0
def PySem.W.Fast.tw6780787184617458413:Nat:=0
def PySem.W.Fast.tw15060988184816922840:Nat:=0
def PySem.W.Fast.tw12796713396001330299:Nat:=0
def PySem.W.Fast.tw5932581729567819718:Nat:=0
def PySem.W.Fast.tw12249151411979766477:Nat:=0
def PySem.W.Fast.tw16844795898973836737:Nat:=0
def PySem.W.Fast.tw1457284225628830395:Nat:=0
def PySem.W.Fast.tw5877503821367400060:Nat:=0
def PySem.W.Fast.tw2594154375892198336:Nat:=0
def PySem.W.Fast.tw16109797259878211951:Nat:=0
def PySem.W.Fast.tw18339208982181261970:Nat:=0
def PySem.W.Fast.tw5227091698310130908:Nat:=0
def PySem.W.Fast.tw8475617322508422797:Nat:=0
def PySem.W.Fast.tw2310346477909412662:Nat:=0
def PySem.W.Fast.tw11320266071698737229:Nat:=0
theorem PySem.Challenge.cw_errands_k17_whole_must_do_holds : PySem.Challenge.rw_errands_k17_whole_must_do.Holds := by
 w_on;o_law;k_head;(case hw=>w_witness2)
 k_fill
 refine J.walkF (l:=PySem.Challenge.rw_errands_k17_whole_must_do) (k:=12) (x:="_law_script") (F0:=Z.F_law) rfl rfl ⟨rfl,by decide,by decide⟩ (fun w h Y=>PySem.W.kIn_of Y) ?F (fun ns _=>Z.law_true ns)
 case F =>
  intro w mg fa h KX G hmg
  refine' Z.all_mk KX G hmg ?_ ?_ ?_ ?_ ?_ ?_ ?_ ?_ ?_ ?_ ?_ ?_ ?_ ?_ ?_ ?_ ?_ ?_ ?_ ?_ ?_ ?_ ?_ ?_ ?_ ?_ ?_ ?_ ?_ ?_ ?_ ?_ ?_ ?_ ?_ ?_ ?_ ?_ ?_ ?_ ?_ ?_ ?_ ?_ ?_ ?_ ?_ ?_ ?_ ?_ ?_ ?_ ?_ ?_ ?_ ?_ ?_ ?_ ?_ ?_ ?_ ?_ ?_ ?_
  all_goals first
   | (refine' J.d_in KX G ?_ ?_ ?_ ?_<;>try k_is)
   | (refine' J.cn_in KX G ?_<;>try k_is)
   | k_is
   | (refine' J.TopC.mk ?_ ?_ ?_<;>try (first | k_is | k_exc))
   | ((refine' J.Wy.mk ?_ ?_ ?_ ?_ ?_ ?_ ?_ ?_ ?_ ?_)<;>try (first | k_is | decide | ((repeat' (first | exact .nil | refine' .cons ?_ ?_ ?_))<;>try (first | k_is | decide))))
   | ((repeat' (first | exact .nil | refine' .cons ?_ ?_))<;>try (first | (refine' J.cw_in ?_ ?_ ?_<;>try k_is) | k_is))
   | skip
end
