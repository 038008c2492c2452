import PyProof.Rows.All
import Wide.All
import OpenK.AllK
import Wide.FinOn
import Lean
import PyProof.EqAt
import PyProof.EqKinds
import PyProof.TupleCall
import KE.KDictOf
import PyProof.AttrMissHeap
import KE.KRevIter
import PyProof.DictWalks
import PyProof.MinMaxWalk
import PyProof.SeqI3
import PyProof.WalkInts
import PyProof.ExcInit
import PyProof.InstStoreFacts
import PyProof.DictCompW
import PySem.Challenge.RW_errands_k22_rounds
set_option Elab.async false
set_option linter.all false
set_option maxRecDepth 100000
set_option maxHeartbeats 0
open PySem.W renaming Frag->a5,mroIn->c8,kia_one->cg,kitOne->da,keepIn->dH,fnOf->e7,nsMap_none_of_in->ed,cellsFrom_some->eL,nsIn->fD,clsIn->fK,findIn->fV,mg_of->im,codeIn->iU,isNs_of_in->kn,subIn->lX,looks_findIn->ou,hideAll_get->pZ,of_hideAll->qD,callWith_K->qG,codeRec_of->qH,methodObj->rK,specialIn->rL,kitx_list->rM,instObj->uP,hideAll->uQ,takesIn->uR,OpenLaw->uS,lookIn->vy,typeIn->vE,excIn->xn,funFrames_hide->ze,kitx_tuple->CQ,mg_none_of->D3,kitx_dict->Et,plainGet->FL,kitCls->HM,nsOkIn->HP,WalkO->Lg,Looks->Li
open PySem renaming wpAny_bind->a6,Value->a7,Shared->a9,Addr->aa,wpAny_pure->af,starEach->ak,wpAny->ao,Program->aB,model->aE,Expr->aO,Around->aP,World->aT,Heap->a_,wpAny_mono->b6,cellsFrom->bc,mainGlobals->br,compareOp->bI,boot_len->bO,rawInt->cb,eval->cp,wpAny_holding->cq,wpAny_newObj_type->cr,Stmt->cw,wpAny_call_entry->cH,wpAny_callSpecial?_slot->cU,FuncData->cX,mem_of_lookup->c_,foldedSetIterable->dm,wpAny_field->dn,wpAny_loadPart_at->du,backTo->dz,wpAny_standAt->dA,Scope->dG,wpAny_truthy_bool->dS,wpAny_seqItems->dU,wpAny_setState_of->eS,codeAny_builtin->eU,excClassObj->fv,swapsWith->fB,wpAny_pyIter_tuple->fH,Builtin->fN,letOwnedTupleGo->gd,bootBuiltins->gj,binaryOp->gq,behindInMarks->gC,typeLookup->gD,codeAny->gK,setField->gM,strIterType->gY,assignEach->gZ,wpAny_rule->hJ,wpAny_setField_rec->hU,scanBound->i8,wpAny_pyIter_list->ii,recursionLimit->iB,wpAny_setField->iD,wpAny_typeOf->iP,wpAny_askSetting->iR,wpAny_isSubtype_exc->iW,NameKind->j6,sysModules->jf,wpAny_Call_Name_kw->jg,IsPair->jh,SetTable->jM,builtinLookup_eq_fast->ke,call_meets->ki,plainId_quiet->kW,wpAny_attempt->kX,sliceBounds->kZ,codeAny_call_builtin->k_,wpAny_execs_nil->lO,pyNext->lP,wpAny_passesOwn->lQ,codeAny_mono->mn,Keyword->mq,pickOrder->mQ,wpAny_call->mS,getItem->n_,fits_of_scanBound->o6,wpAny_pyIter_enum->o7,assign->oa,attributeBase->oj,wpAny_comprehension_free->oo,PyData->oq,cLine->p_,checkBuiltinCall->q8,wpAny_isInstance->q9,Result->qF,isInstance->qI,ExcBaseFacts->qL,pushCells_keeps->rF,codeAny_of_tree->rG,typeLookup_type->rH,wpAny_loadName_local->tG,IsPart->tH,keywordEach->tJ,newFunctionEnv->tK,relayAll->tL,wpAny_of_eq->tN,raiseNew->tO,firstArgMember->tP,IsZip->tQ,wpAny_updateSeq_pair->tR,BindsTo->uq,callerA->ur,Model->vd,CmpOp->vf,wpAny_onRaise->vi,wpAny_Name->vw,tupleKind_room_in1->vz,newExc->vB,concat_meets->xj,valueAt->xk,wpAny_Call_ofName->xo,tupleKind->yX,isTrue->yY,wpAny_execs_cons->yZ,pyIter->y_,noFill_tuple_add->z0,noteFrame->zb,sizeLine_eq->Ay,subscripted->AA,wpAny_updateSeq->AH,standAt->CD,GenState->CO,bindL->CS,bindC->CT,wpAny_newFunctionEnv_cells->CU,backToKw->CV,stored->CW,atKey->CY,isSubtype_type->CZ,isSubtype_stop->C_,field->D0,wpAny_letOwnedTupleGo_enum->D1,StoreFacts->D4,seq_tuple_add->FM,call->FQ,Drawn->Hm,lastMarks->Ho,Walks->Hv,seqItems?->Hw,Paired->HC,leaving->HD,argsOk->HI,setNext->HJ,wpAny_isTrue_Compare1->Ld,codeAny_call_function->Le,bindArgs->Lr,wpAny_alloc->Lv,entryFor->Lz,unsupported->LA,ZipApart->LB,wpAny_letGo->LD,getAttr?->LG,lookupAlong->LK
open PySem.Heap renaming get?_push_of_some->a8,lt_size->aj,get?_push_size->ax,size_push->c7,SameBut->cj,get?_update_self->ft,get?_update_other->o0,get?_none_of_le->qk,MadeExcOf->qo,IsTuple->CI,FlyingW->CK,get?_update_ne->FU,get?_push_at->HN
open List renaming getElem?_set_ne->ag,mem_cons_of_mem->ai,mem_cons_self->al,length_map->au,getElem?_set_self->aw,getElem?_map->ay,getElem?_eq_getElem->aC,size_toArray->aF,not_mem_nil->aJ,map_cons->aK,mem_append_right->aM,length_append->aR,mem_cons->aV,getElem?_append_right->aY,replicate->bd,length_cons->bg,getElem?_eq_none->bj,getElem?_append_left->bn,range->bt,getElem?_replicate->bD,append_nil->bH,map_map->bL,map_append->bR,getD_eq_getElem?_getD->bT,mem_of_getElem?->b_,lookup_cons->cA,replicate_succ->cB,length_replicate->cE,find?_cons->dq,mem_append_left->dC,all_eq_true->dD,map_nil->dL,length_nil->dR,length_singleton->dY,mem_singleton->ej,append_assoc->eJ,any_cons->eT,contains_cons->fk,nil_append->fJ,flatten_cons->fM,length_range->fO,getElem_of_mem->gx,getElem_mem->ij,mem_map_of_mem->iy,sublist_append_left->iL,foldl_cons->iQ,getElem?_cons_succ->iX,getElem?_range->kj,nodup_nil->l9,set_cons_zero->lc,set_cons_succ->le,ext_getElem?->ms,any_eq_true->nP,map->nQ,of_mem_zip->oh,forIn_cons->om,length->ql,foldl_map->qp,filterMap_cons->rA,map_congr_left->rJ,all_cons->rP,all_map->uw,length_take->vg,length_drop->vh,lookup->vA,range'->vF,length_set->xh,forIn_nil->xX,length_eraseIdx_of_lt->xY,drop_eq_getElem_cons->zc,getElem?_cons_zero->AI,drop_of_length_le->CH,any_map->CM,range_eq_range'->Ew,replicate_zero->FV,foldl->Hq,lookup_append->Ht,nodup_append->HH,all_eq_false->HR,zipIdx_cons->Lh,cons_append->Ll,zipIdx_nil->LC
open PySem.PyData renaming str->ap,int->aZ,eqv->bq,list->bM,canLayAll0->cF,bool->cP,tuple->dg,canLay0->e_,eqvAll->jz,depthAll->nV,depth->AE
open Nat renaming le_refl->ar,ne_of_lt->az,lt_of_lt_of_le->aD,le_of_lt->bi,le_trans->bE,lt_irrefl->bQ,zero_le->ck,ne_of_gt->dO,lt_succ_self->el,lt_succ_of_lt->eK,le_succ->fR,lt_of_le_of_lt->lS,min_le_right->nU,lt_trans->uT,lt_succ_of_le->uU,lt_asymm->uV,sub_self->D5,add_lt_add_right->FS,add_le_add_left->Hr,lt_of_lt_of_eq->HQ,le_of_not_lt->Lu,le_add_right->LF,reduceLeDiff->LL,reduceEqDiff->LM
open Bool renaming false_ne_true->aL,and_eq_true->aS,false_eq_true->c9,eq_iff_iff->gP,not_false->j9,noConfusion->jK,not_true->mR,or_eq_true->oy,beq_eq_decide_eq->pq,false_or->rQ,and_self->rV,or_true->uu,false_and->xU,true_and->AD,not_eq_true'->HL
open Array renaming length_toList->bh,getElem?_toList->fj,all_toList->uX,getD_eq_getD_getElem?->xg,getElem?_eq_getElem->y6,toArray_toList->D2,append_assoc->FJ,find?_toList->FK,toList_push->Hu,size_append->Hy
open Option.some renaming inj->bw,injEq->AC
open PyProof.Rows renaming boot_tuple->bx,boot_all->cV,callWith_type1->eB,slot_tuple_getitem->fo,boot_list->iz,envOfC->iC,boot_isinstance->j8,AllBare->nZ,StrsAre->qK,isBoolOf->tS,boot_sorted->uv,boot_any->vG,boot_str->vH,boot_max->vI,IsTup->CN,subscriptTail->FO,subscriptTail_builtinR->HE,IntsAre->HG
open PySem.Value renaming ref->bC,none->d_,bool->h_,type->i0,str->jy,int->kU,isStrOf->rq
open PySem.NameKind renaming free->c6,cell->dE,«local»->o8
open PySem.Builtin.SmallTypes renaming nextOf->cc,ownedTupleIsFree->e8,ownedTupleHandOut->l8
open PySem.F renaming plainAttrs_list->cG,slot_tuple_iterator_next->il,args_tuple_add_2->lR,slot_list_append->lT,type_list_append->lU,slot_list_extend->lV,type_list_extend->lW,entry_tuple_add->mr,slot_tuple_add->mT,slot_zip_next->qm,excBase_ValueError->vD,slot_list_count->x_,slot_list_index->y0,args_tuple_iterator_next_1->zd,entry_tuple_iterator_next->AB,slot_enumerate_next->Hx,args_list_extend_2->HF,entry_list_extend->Lf,slot_list_extend->Ls
open PySem.Heap.SameBut renaming update->cQ
open Or renaming inr->cY,inl->eP
open PySem.Heap.FunFrames renaming mem->cZ
open Option renaming map_some->dh,getD_none->gf,getD_some->jq,isSome_some->rE,isSome_map->FR
open Int renaming toNat_of_nonneg->dQ,toNat_natCast->fQ,emod_lt_of_pos->tT,emod_nonneg->xp,eq_ofNat_of_zero_le->CL,reduceLT->D6
open False renaming elim->e6
open List.Sublist renaming refl->ef
open PySem.Around renaming under_plainId->eu
open Ne renaming symm->eA
open PySem.Obj renaming mapFields->eZ,mapSeq->iV,putSet->tM,data_mapFields->HK
open PySem.Builtin.List renaming listTooLong->fh,listExtendWith->rT,listSameRef->ut
open ForInStep renaming yield->fi
open PySem.AutoSeq1 renaming wpAny_loadPart'->fu
open PySem.Builtin.Slice renaming slicePlaces->gQ,sliceAdjust->jL,sliceApplied->rN
open PyProof.Rows.F renaming plain_set_update_loop->gR,entry_set_update_loop->mP
open PySem.SetTable renaming grown->gW,below->gX,orStandIn->CG
open PySem.Builtin.Tuple renaming tupleExact->g_,tupleItemsOf->rO
open PySem.Str renaming ofString->ik
open True renaming intro->iT
open PySem.Calls renaming Name_function_global->kY,evalArgs_plain->q0,call_function_entry->xZ,loadGlobal_global->Ax
open PySem.Code renaming quiet_builtin->l7,weight->Ev
open Classical renaming choose->lY,choose_spec->y7
open PySem.Paired renaming length->qC
open PySem.Builtin.Frozenset renaming sizeOf->qJ,newClass->Lw,updateFrom->Ly,oneOther->LH,addrOf->LJ
open Sum renaming inr->rz,inl->uO
open PySem.Walks renaming list->rR
open PySem.Builtin.Dict renaming updateFrom->uW
open And renaming intro->vC
open PySem.pickOrder renaming go->xl
open PySem.SetTable.below renaming go->xm
open PySem.SeqAt.EqAt renaming bool_bool->xV,int_str->Av,str_int->Aw
open List.Pairwise renaming nil->xW
open PyProof.Rows.IsTup renaming new->Az
open PySem.Heap.DictOf renaming new->CF
open PySem.Shared renaming heap->CJ,TypeIs->Lx
open PySem.Value.type renaming inj->Eu
open PySem.SeqAt renaming EqAt->FP
open PySem.Builtin.ObjectAttr renaming attrName->Lj,find->Lk
section
namespace L2
open PySem PySem.Spec PyProof.Rows
abbrev dJ:=Sum Int Str
def vJ:dJ->a7->Bool
 | .inl k,v=>Value.isInt k v
 | .inr x,v=>rq x v
def Si (w:aT):dJ->Int
 | .inl k=>hashInt k
 | .inr x=>hashStr w x
theorem eQ:∀ {k:dJ}{v:a7},vJ k v=true->(∃ i t,k=uO i/\v=kU i t)\/(∃ x t,k=rz x/\v=jy x t)
 | .inl i,v,h=>by
  obtain ⟨t,e⟩:=Value.isInt_shape (k:=i) (v:=v) h
  exact .inl ⟨i,t,rfl,e⟩
 | .inr x,v,h=>by
  obtain ⟨t,e⟩:=Value.isStrOf_shape (x:=x) (v:=v) h
  exact .inr ⟨x,t,rfl,e⟩
theorem FW (i:Int) (t:Tok):vJ (.inl i) (.int i t)=true:=by simp [vJ,Value.isInt]
theorem FX (x:Str) (t:Tok):vJ (.inr x) (.str x t)=true:=by simp [vJ,rq]
theorem OF (a b:Int):decide ((uO a:dJ)=uO b)=(a == b):=by
 by_cases e:a=b
 ·subst e;simp
 ·have h:¬ (uO a:dJ)=uO b:=fun q=>e (Sum.inl.inj q)
  rw [decide_eq_false h]
  exact (beq_eq_false_iff_ne.mpr e).symm
theorem OG (a b:Str):decide ((rz a:dJ)=rz b)=decide (a=b):=by
 by_cases e:a=b
 ·subst e;simp
 ·have h:¬ (rz a:dJ)=rz b:=fun q=>e (Sum.inr.inj q)
  rw [decide_eq_false h,decide_eq_false e]
theorem OH (a:Int) (b:Str):decide ((uO a:dJ)=rz b)=false:=decide_eq_false (fun q=>nomatch q)
theorem OI (a:Str) (b:Int):decide ((rz a:dJ)=uO b)=false:=decide_eq_false (fun q=>nomatch q)
def dw (prog:aB) (w:aT):PySem.KeyKind prog w dJ where
 is:=vJ
 hash:=Si w
 inj:=fun v a b ha hb=>by
  rcases eQ ha with ⟨i,t,rfl,rfl⟩ | ⟨x,t,rfl,rfl⟩
  ·rcases eQ hb with ⟨j,u,rfl,e⟩ | ⟨y,u,rfl,e⟩
   ·injection e with e1 _;rw [e1]
   ·exact nomatch e
  ·rcases eQ hb with ⟨j,u,rfl,e⟩ | ⟨y,u,rfl,e⟩
   ·exact nomatch e
   ·injection e with e1 _;rw [e1]
 byValue:=fun k v h=>by
  rcases eQ h with ⟨i,t,rfl,rfl⟩ | ⟨x,t,rfl,rfl⟩<;>rfl
 pyHash:=fun hv h=>by
  rcases eQ hv with ⟨i,t,rfl,rfl⟩ | ⟨x,t,rfl,rfl⟩
  ·exact wpAny_pyHash_int h
  ·exact wpAny_pyHash_str h
 eqBool:=fun hu hv h=>by
  rcases eQ hu with ⟨i,t,rfl,rfl⟩ | ⟨x,t,rfl,rfl⟩
  ·rcases eQ hv with ⟨j,u,rfl,rfl⟩ | ⟨y,u,rfl,rfl⟩
   ·rw [OF] at h;exact wpAny_eqBool_int h
   ·rw [OH] at h;exact Av i t y u _ _ _ _ h
  ·rcases eQ hv with ⟨j,u,rfl,rfl⟩ | ⟨y,u,rfl,rfl⟩
   ·rw [OI] at h;exact Aw x t j u _ _ _ _ h
   ·rw [OG] at h;exact wpAny_eqBool_str h
 «strs»:=fun k x t v h=>by
  rcases eQ h with ⟨i,u,rfl,e⟩ | ⟨y,u,rfl,e⟩
  ·exact nomatch e
  ·injection e with e1 _
   subst e1
   cases v<;>rfl
theorem AJ (prog:aB) (w:aT) (i:Int) (t:Tok):(dw prog w).is (.inl i) (.int i t)=true:=FW i t
theorem AK (prog:aB) (w:aT) (x:Str) (t:Tok):(dw prog w).is (.inr x) (.str x t)=true:=FX x t
end L2
namespace L2
open PySem PySem.Spec PyProof.Rows
inductive V where
 | non | bl (b:Bool) | int (i:Int) | str (x:Str) | byt (b:Array UInt8) | flt (b:UInt64) | ref (a:aa) | ty (n:String)
 deriving DecidableEq
def df:V->a7->Prop
 | .non,u=>u=d_
 | .bl b,u=>u=h_ b
 | .int i,u=>∃ t,u=kU i t
 | .str x,u=>∃ t,u=jy x t
 | .byt b,u=>∃ t,u=Value.bytes b t
 | .flt b,u=>∃ t,u=Value.float b t
 | .ref a,u=>u=bC a
 | .ty n,u=>u=i0 n
abbrev cJ:List V->List a7->Prop:=HC df
theorem cJ.length {xs:List V}{us:List a7} (r:cJ xs us):xs.length=us.length:=qC r
theorem cJ.get {xs:List V}{us:List a7} (h:cJ xs us):∀ {i:Nat}{x:V},xs[i]?=some x->∃ u,us[i]?=some u/\df x u:=by
 induction h with
 | nil=>intro i x e;cases e
 | cons r t ih =>
  intro i x e
  cases i with
  | zero=>cases e;exact ⟨_,rfl,r⟩
  | succ i=>have q:=ih (i:=i) e;exact q
theorem cJ.append {xs ys:List V}{us ws:List a7} (h:cJ xs us) (s:cJ ys ws):cJ (xs++ys) (us++ws):=by
 induction h with
 | nil=>exact s
 | cons r t ih=>exact .cons r ih
theorem cJ.take:∀ {xs:List V}{us:List a7} (n:Nat),cJ xs us->cJ (xs.take n) (us.take n)
 | _,_,0,_=>.nil
 | _,_,_ + 1,.nil=>.nil
 | _,_,n + 1,.cons r t=>.cons r (cJ.take n t)
theorem cJ.drop:∀ {xs:List V}{us:List a7} (n:Nat),cJ xs us->cJ (xs.drop n) (us.drop n)
 | _,_,0,r=>r
 | _,_,_ + 1,.nil=>.nil
 | _,_,n + 1,.cons _ t=>cJ.drop n t
def vK:Option V->Option a7->Prop
 | some v,some u=>df v u
 | none,none=>True
 | _,_=>False
def KV {κ:Type}:List (κ×V)->List (κ×a7)->Prop:=HC fun (p:κ×V) (q:κ×a7)=>p.1=q.1/\df p.2 q.2
def kV:dJ->V
 | .inl i=>.int i
 | .inr x=>.str x
inductive HO where
 | lst (xs:List V)
 | tup (xs:List V)
 | dK (kvs:List (dJ×V)) | dT (kvs:List (List dJ×V))
 | set (S:Int->Bool) (n:Nat)
 | ins (C dx:aa) (fs:List (Str×V))
 | own (x:aa)
 | xd (fs:List (Str×V))
 | met (f x:aa)
 | rng (lo hi:Int)
 | frz (o:Obj) (u:HO)
 | tbl (ps:Array a7)
 | ext (φ:a_->Prop)
abbrev Hp:=aa->Option HO
def upd (H:Hp) (a:aa) (o:HO):Hp:=fun b=>if b=a then some o else H b
theorem aX {H:Hp}{a:aa}{o:HO}:upd H a o a=some o:=by unfold upd;rw [if_pos rfl]
theorem aQ {H:Hp}{a b:aa}{o:HO} (h:b≠a):upd H a o b=H b:=by unfold upd;rw [if_neg h]
theorem Qe {H:Hp}{a b:aa}{o u:HO} (h:H a=some o) (h':H b=some u) (d:o≠u):a≠b:=by
 intro e;subst e;rw [h] at h';exact d (bw h')
theorem aW {H:Hp}{a b:aa}{o:HO} (h:H a=some o) (h':H b=none):a≠b:=by
 intro e;subst e;rw [h] at h';cases h'
section
variable (P:aB) (w:aT)
def dk (H:Hp) (h:a_) (a:aa):HO->Prop
 | .lst xs=>xs.length<=sizeLine/\∃ (its:List a7) (n:Nat),cJ xs its/\h.get? a=some { cls:=.type "list",data:=.seq its.toArray n }
 | .tup xs=>xs.length<=sizeLine/\∃ its:List a7,cJ xs its/\CN h a its.toArray
 | .dK kvs=>kvs.length<=sizeLine/\(a == jf)=false/\∃ vs,KV kvs vs/\h.DictOf (dw P w) a vs
 | .dT kvs=>kvs.length<=sizeLine/\(a == jf)=false/\∃ xs:List (List dJ×aa×a7),
   HC (fun (p:List dJ×V) (q:List dJ×aa×a7)=>p.1=q.1/\H q.2.1=some (.tup (p.1.map kV))/\df p.2 q.2.2) kvs xs /\
   ∃ o es ep,h.get? a=some o/\o.ExactDict/\o.data=.dict es ep/\es.toList=xs.map (entryOfKey (yX (dw P w)))/\(xs.map (·.1)).Nodup
 | .set S n=>h.SetOf (intKind P w) a S n
 | .ins C dx fs=>H dx=some (.own a)/\fs.length<=1000/\dx≠a/\h.get? a=some (uP C dx) /\
   ∃ mA,h.Ns1 dx mA/\(∀ f,vK (fs.lookup f) (mA f))/\PySem.Within mA (fs.map (·.1))
 | .own _=>∃ o,h.get? a=some o
 | .xd fs=>∃ mA,h.Ns1 a mA/\∀ f,vK (fs.lookup f) (mA f)
 | .rng lo hi=>∃ t u v,h.get? a=some { cls:=.type "range",data:=.fields #[.int lo t,.int hi u,.int 1 v] }
 | .frz o u=>h.get? a=some o/\dk H h a u
 | .tbl ps=>h.get? a=some { cls:=.none,data:=.fields ps }
 | .met f x=>h.get? a=some (rK (.ref f) (.ref x))
 | .ext φ=>φ h/\(∃ o,h.get? a=some o)/\∀ h1 h2:a_,φ h1->(∀ o,h1.get? a=some o->h2.get? a=some o)->φ h2
def nW (H:Hp) (h:a_):Prop:=∀ a o,H a=some o->dk P w H h a o
end
section
variable {P:aB}{w:aT}{H H':Hp}{h h':a_}{a:aa}{o:HO}
theorem dk.lt (x:dk P w H h a o):a<h.objs.size:=by
 cases o with
 | lst xs=>obtain ⟨_,_,_,_,e⟩:=x;exact aj e
 | tup xs=>obtain ⟨_,_,_,p⟩:=x;exact p.lt
 | dK kvs=>obtain ⟨_,_,_,_,o,_,_,e,_⟩:=x;exact aj e
 | dT kvs=>obtain ⟨_,_,_,_,o,_,_,e,_⟩:=x;exact aj e
 | set S n=>obtain ⟨o,_,_,_,e,_⟩:=x;exact aj e
 | ins C dx fs=>obtain ⟨_,_,_,e,_⟩:=x;exact aj e
 | own y=>obtain ⟨_,e⟩:=x;exact aj e
 | xd fs=>obtain ⟨_,⟨_,_,_,e,_⟩,_⟩:=x;exact aj e
 | rng lo hi=>obtain ⟨_,_,_,e⟩:=x;exact aj e
 | frz ob u=>obtain ⟨e,_⟩:=x;exact aj e
 | tbl ps=>exact aj (show h.get? a=some _ from x)
 | met f y=>exact aj (show h.get? a=some _ from x)
 | ext φ=>obtain ⟨_,⟨_,e⟩,_⟩:=x;exact aj e
theorem Paired.mapP {α β:Type}{F G:α->β->Prop}{l₁:List α}{l₂:List β} (h:HC F l₁ l₂) (f:∀ a b,F a b->G a b):HC G l₁ l₂:=by
 induction h with
 | nil=>exact .nil
 | cons r t ih=>exact .cons (f _ _ r) ih
theorem dk.stay (x:dk P w H h a o) (k:∀ b u,(b=a\/H b=some (.own a))->h.get? b=some u->h'.get? b=some u)
  (ho:∀ b,H b=some (.own a)->H' b=some (.own a)) (ht:∀ b xs,H b=some (.tup xs)->H' b=some (.tup xs)):dk P w H' h' a o:=by
 induction o with
 | lst xs=>obtain ⟨z,its,n,r,e⟩:=x;exact ⟨z,its,n,r,k _ _ (.inl rfl) e⟩
 | tup xs=>obtain ⟨z,its,r,ob,e,c⟩:=x;exact ⟨z,its,r,ob,k _ _ (.inl rfl) e,c⟩
 | dK kvs=>obtain ⟨z,y,vs,r,ob,es,ep,e,c⟩:=x;exact ⟨z,y,vs,r,ob,es,ep,k _ _ (.inl rfl) e,c⟩
 | dT kvs =>
  obtain ⟨z,y,xs,r,ob,es,ep,e,c⟩:=x
  exact ⟨z,y,xs,Paired.mapP r fun p q z=>⟨z.1,ht _ _ z.2.1,z.2.2⟩,ob,es,ep,k _ _ (.inl rfl) e,c⟩
 | set S n=>obtain ⟨ob,es,ep,t,e,c⟩:=x;exact ⟨ob,es,ep,t,k _ _ (.inl rfl) e,c⟩
 | ins C dx fs =>
  obtain ⟨d,z,ne,e,mA,⟨od,es,ep,e2,c⟩,r⟩:=x
  exact ⟨ho _ d,z,ne,k _ _ (.inl rfl) e,mA,⟨od,es,ep,k _ _ (.inr d) e2,c⟩,r⟩
 | own y=>obtain ⟨ob,e⟩:=x;exact ⟨ob,k _ _ (.inl rfl) e⟩
 | xd fs=>obtain ⟨mA,⟨od,es,ep,e,c⟩,r⟩:=x;exact ⟨mA,⟨od,es,ep,k _ _ (.inl rfl) e,c⟩,r⟩
 | rng lo hi=>obtain ⟨t,u,v,e⟩:=x;exact ⟨t,u,v,k _ _ (.inl rfl) e⟩
 | frz ob u ih=>obtain ⟨e,q⟩:=x;exact ⟨k _ _ (.inl rfl) e,ih q⟩
 | tbl ps =>
  have e:h.get? a=some { cls:=.none,data:=.fields ps }:=x
  show h'.get? a=some { cls:=.none,data:=.fields ps }
  exact k a _ (.inl rfl) e
 | met f y =>
  have e:h.get? a=some (rK (.ref f) (.ref y)):=x
  show h'.get? a=some (rK (.ref f) (.ref y))
  exact k a _ (.inl rfl) e
 | ext φ=>obtain ⟨p,⟨o,e⟩,st⟩:=x;exact ⟨st _ _ p fun o q=>k _ _ (.inl rfl) q,⟨o,k _ _ (.inl rfl) e⟩,st⟩
theorem nW.lt (x:nW P w H h) (e:H a=some o):a<h.objs.size:=(x a o e).lt
theorem nW.fresh (x:nW P w H h) (e:h.objs.size<=a):H a=none:=by
 cases q:H a with
 | none=>rfl
 | some u=>exact absurd (aD (x.lt q) e) (bQ _)
theorem nW.kept (x:nW P w H h) (k:∀ b u,h.get? b=some u->h'.get? b=some u):nW P w H h':=fun a o e =>
 (x a o e).stay (fun b u _ q=>k b u q) (fun _ q=>q) fun _ _ q=>q
theorem nW.laid (x:nW P w H h) (k:∀ b u,h.get? b=some u->h'.get? b=some u) (hp:h.objs.size<=a) (new:dk P w (upd H a o) h' a o):nW P w (upd H a o) h':=fun b u e=>by
 have hn:=x.fresh hp
 by_cases hb:b=a
 ·subst hb;rw [aX] at e;cases e;exact new
 ·rw [aQ hb] at e
  exact (x b u e).stay (fun c v _ q=>k c v q) (fun c q=>by rw [aQ (aW q hn)];exact q) fun c xs q=>by rw [aQ (aW q hn)];exact q
end
def Rd (H:Hp) (a:aa) (u:HO):Prop:=H a=some u\/∃ o,H a=some (.frz o u)
theorem Rd.ok {P:aB}{w:aT}{H:Hp}{h:a_}{a:aa}{u:HO} (r:Rd H a u) (x:nW P w H h):dk P w H h a u:=by
 rcases r with r | ⟨o,r⟩
 ·exact x a u r
 ·obtain ⟨_,q⟩:=x a _ r
  exact q
def Qf:Option HO->Prop
 | some (.lst _)=>True
 | some (.dK _)=>True
 | some (.dT _)=>True
 | some (.set _ _)=>True
 | some (.ins _ _ _)=>True
 | some (.ext _)=>True
 | _=>False
section
variable {P:aB}{w:aT}{H:Hp}{h h':a_}{x e:aa}{o':HO}
theorem nW.write (ok:nW P w H h) (mu:Qf (H x)) (he:e=x\/H e=some (.own x)) (k:∀ b u,b≠e->h.get? b=some u->h'.get? b=some u) (heo:∃ u,h'.get? e=some u)
  (new:dk P w (upd H x o') h' x o'):nW P w (upd H x o') h':=fun b u q=>by
 have nown:∀ c y,H c=some (.own y)->c≠x:=fun c y r z=>by subst z;rw [r] at mu;exact mu
 have ntup:∀ c xs,H c=some (.tup xs)->c≠x:=fun c xs r z=>by subst z;rw [r] at mu;exact mu
 by_cases hb:b=x
 ·subst hb;rw [aX] at q;cases q;exact new
 ·rw [aQ hb] at q
  by_cases hbe:b=e
  ·have q':H b=some (.own x):=by
    rcases he with z | z
    ·exact absurd (hbe.trans z) hb
    ·rw [hbe];exact z
   rw [q] at q';cases q'
   obtain ⟨v,hv⟩:=heo
   exact ⟨v,by rw [hbe];exact hv⟩
  ·refine (ok b u q).stay (fun c v hc r=>k c v ?_ r) (fun c r=>by rw [aQ (nown c b r)];exact r) fun c xs r=>by rw [aQ (ntup c xs r)];exact r
   rcases hc with rfl | hc
   ·exact hbe
   ·rintro rfl
    rcases he with z | z
    ·exact nown c b hc z
    ·rw [hc] at z;cases z;exact hb rfl
end
structure Un (fs ex:List aa) (H H':Hp) (h h':a_):Prop where
 keep:∀ b o,h.get? b=some o->H b=none->b∉fs->b∉ex->h'.get? b=some o
 slot:∀ b o,h.get? b=some o->H b=none->b∈fs->b∉ex->∃ sl,h'.get? b=some { o with slots:=sl }
 free:∀ b o,h.get? b=some o->H b=none->b∉ex->H' b=none
 there:∀ b o,h.get? b=some o->b∉ex->∃ o',h'.get? b=some o'
 tups:∀ b xs,H b=some (.tup xs)->H' b=some (.tup xs)
 frzs:∀ b o u,H b=some (.frz o u)->H' b=some (.frz o u)
 tbls:∀ b ps,H b=some (.tbl ps)->∃ more,H' b=some (.tbl (ps++more))
section
variable {fs fs' ex ex':List aa}{H H1 H2:Hp}{h h1 h2 h':a_}{a x e:aa}{o:HO}
theorem Un.any (u:Un fs ex H H1 h h1) {b:aa}{ob:Obj} (q:h.get? b=some ob) (n:H b=none) (hx:b∉ex):∃ sl,h1.get? b=some { ob with slots:=sl }:=by
 by_cases hb:b∈fs
 ·exact u.slot b ob q n hb hx
 ·exact ⟨ob.slots,u.keep b ob q n hb hx⟩
theorem Un.kept (k:∀ b u,h.get? b=some u->h'.get? b=some u):Un fs ex H H h h' :=
 ⟨fun b ob q _ _ _=>k b ob q,fun b ob q _ _ _=>⟨ob.slots,k b ob q⟩,fun _ _ _ n _=>n,fun b ob q _=>⟨ob,k b ob q⟩,fun _ _ q=>q,fun _ _ _ q=>q,fun _ ps q=>⟨#[],by rw [q];simp⟩⟩
theorem Un.refl:Un fs ex H H h h:=Un.kept fun _ _ q=>q
theorem Un.laid (k:∀ b u,h.get? b=some u->h'.get? b=some u) (hp:h.objs.size<=a) (hn:H a=none):Un fs ex H (upd H a o) h h' where
 keep:=fun b u q _ _ _=>k b u q
 slot:=fun b u q _ _ _=>⟨u.slots,k b u q⟩
 free:=fun b u q n _=>by rw [aQ (az (aD (aj q) hp))];exact n
 there:=fun b u q _=>⟨u,k b u q⟩
 tups:=fun b xs q=>by rw [aQ (aW q hn)];exact q
 frzs:=fun b u xs q=>by rw [aQ (aW q hn)];exact q
 tbls:=fun b ps q=>⟨#[],by rw [aQ (aW q hn),q];simp⟩
theorem Un.write (mu:Qf (H x)) (he:e=x\/H e=some (.own x)) (k:∀ b u,b≠e->h.get? b=some u->h'.get? b=some u) (heo:∃ u,h'.get? e=some u):Un fs ex H (upd H x o) h h':=by
 have hx:∀ b,H b=none->b≠x:=fun b n z=>by subst z;rw [n] at mu;exact mu
 have hb:∀ b,H b=none->b≠e:=fun b n z=>by
  subst z
  rcases he with r | r
  ·exact hx b n r
  ·rw [n] at r;cases r
 have hm:∀ b u,H b=some u->¬ Qf (some u)->b≠x:=fun b u q nm z=>by subst z;rw [q] at mu;exact nm mu
 refine ⟨fun b u q n _ _=>k b u (hb b n) q,fun b u q n _ _=>⟨u.slots,k b u (hb b n) q⟩,fun b u q n _=>by rw [aQ (hx b n)];exact n,fun b u q _=>?_,
  fun b xs q=>by rw [aQ (hm b _ q fun z=>z)];exact q,fun b u xs q=>by rw [aQ (hm b _ q fun z=>z)];exact q,fun b ps q=>⟨#[],by rw [aQ (hm b _ q fun z=>z),q];simp⟩⟩
 by_cases hbe:b=e
 ·subst hbe;exact heo
 ·exact ⟨u,k b u hbe q⟩
end
def S1 (h:a_) (H:Hp):List aa:=(bt h.objs.size).filter fun a=>(H a).isSome
def zf (h:a_) (H:Hp):a_:=uQ h (S1 h H)
theorem FY (h:a_) (H:Hp):(zf h H).objs.size=h.objs.size:=PySem.W.hideAll_size _ _
theorem HS {h:a_}{H:Hp}{b:aa}{o:Obj} (e:h.get? b=some o) (n:H b=none):(zf h H).get? b=some o :=
 pZ _ e fun hm=>by
  have q:(H b).isSome=true:=(List.mem_filter.mp hm).2
  rw [n] at q;simp at q
theorem LN {h:a_}{H:Hp}{b:aa}{o:Obj} (e:(zf h H).get? b=some o):h.get? b=some o/\H b=none:=by
 have e':h.get? b=some o:=qD (S1 h H) e
 refine ⟨e',?_⟩
 cases q:H b with
 | none=>rfl
 | some x =>
  have hm:b∈S1 h H:=List.mem_filter.mpr ⟨List.mem_range.mpr (aj e'),by simp [q]⟩
  have z:(zf h H).get? b=none:=PySem.W.hideAll_none (S1 h H) hm
  rw [z] at e;cases e
def LO (g h:a_) (L:aa):List (aa×Obj):=(bt h.objs.size).filterMap fun a=>if a=L\/(g.get? a).isSome=true then none else (h.get? a).map fun o=>(a,o)
def bA (g h:a_) (L d:aa):List (aa×Obj):=(LO g h L).filter fun p=>decide (p.1≠d)
end L2
namespace L2
open PySem PySem.Spec PyProof.Rows
structure Mod (K:a5) (mg:Str->Option a7) (base:a_):Prop where
 kin:K.In base
 glob:base.Ns br mg
 blt:∃ mb,base.Ns builtinsNs mb/\∀ x:Str,x≠"__name__"->mb x=gj x
 nolimit:base.NoLimit
structure Cx where
 prog:aB
 w:aT
 K:a5
 mg:Str->Option a7
 base:a_
 A:aP
 N:List Str
 s₀:a9
 H₀:Hp
 env:Env
 outer:List Env
 stack:List Env
 ex:List aa
 fn:Str->Bool
 calm:Bool
 pn:List (aa×Obj)
 xe:a7->a9->Prop
def ml (l:List Env):List aa:=l.filterMap (·.frame)
abbrev Cx.fs (X:Cx):List aa:=ml X.outer
def FZ (sc:dG) (x:Str):Prop:=sc.names.lookup x=some .local\/sc.names.lookup x=some .cell\/sc.names.lookup x=some .free
def LP (sc:dG) (x:Str):Prop:=sc.names.lookup x=some .local\/sc.names.lookup x=some .cell
def Sj (env:Env) (h:a_) (m:Str->Option a7) (x:Str) (u:a7):Prop :=
 (env.kindOf x=some .local/\m x=some u)\/((env.kindOf x=some .cell\/env.kindOf x=some .free)/\∃ c,env.cells.lookup x=some c/\h.IsCell c (some u))
structure Cx.Ok (X:Cx):Prop where
 mod:Mod X.K X.mg X.base
 kind:X.env.scope.kind=.function
 glob:X.env.globals=br
 blt:X.env.builtins=builtinsNs
 above:X.s₀.heap.objs.size<=X.env.locals
 inj:∀ x y c,X.env.cells.lookup x=some c->X.env.cells.lookup y=some c->x=y
 has:∀ x,(X.env.kindOf x=some .cell\/X.env.kindOf x=some .free)->∃ c,X.env.cells.lookup x=some c
 cab:∀ x c,X.fn x=true->X.env.cells.lookup x=some c->X.s₀.heap.objs.size<=c
 hd:X.calm=true->X.A.handled=none
 frames:X.A.frames=some X.stack
 stk:X.stack=X.outer\/(X.stack=X.env::X.outer/\X.env.frame=some X.env.locals)
 exf:∀ b∈X.ex,b≠X.env.locals/\∀ x c,X.env.cells.lookup x=some c->c≠b
 bs:∀ b o,X.base.get? b=some o->X.s₀.heap.get? b=some o/\X.H₀ b=none
 bsz:X.base.objs.size<=X.s₀.heap.objs.size
 noex:∀ b o,X.base.get? b=some o->b∉X.ex
 exfs:∀ b∈X.ex,b∉X.fs
 funs:X.s₀.heap.FunFrames X.base X.outer
 frf:∀ b∈X.fs,X.H₀ b=none
structure bu (X:Cx) (pins:List (aa×Obj)) (σ:List (Option V)) (H:Hp) (s:a9):Prop where
 ok:X.Ok
 os:s.os=X.s₀.os
 bare:nZ s.gens
 base:Un X.fs X.ex X.H₀ H X.s₀.heap s.heap
 loc:∃ m,s.heap.Ns X.env.locals m/\∀ (i:Nat) (x:Str) (v:V),X.N[i]?=some x->σ[i]?=some (some v)->FZ X.env.scope x->∃ u,df v u/\Sj X.env s.heap m x u
 cell:∀ x c,X.env.cells.lookup x=some c->∃ v,s.heap.IsCell c v
 free:H X.env.locals=none
 freeC:∀ x c,X.env.cells.lookup x=some c->H c=none
 pin:∀ p∈X.pn++pins,s.heap.get? p.1=some p.2/\H p.1=none/\p.1≠X.env.locals/\p.1∉X.fs/\∀ v,p.2.data≠.cell v
 hok:nW X.prog X.w H s.heap
 len:σ.length=X.N.length
section
variable {X:Cx}{pins:List (aa×Obj)}{σ:List (Option V)}{H H':Hp}{s:a9}{h':a_}
theorem Cx.Ok.nofr (ok:X.Ok) {b:aa}{o:Obj} (e:X.base.get? b=some o):b∉X.fs:=fun hb=>by
 have:=(ok.funs.mem hb).1
 rw [e] at this;cases this
theorem bu.bs (I:bu X pins σ H s):∀ b o,X.base.get? b=some o->s.heap.get? b=some o/\H b=none:=fun b o e =>
 ⟨I.base.keep b o (I.ok.bs b o e).1 (I.ok.bs b o e).2 (I.ok.nofr e) (I.ok.noex b o e),I.base.free b o (I.ok.bs b o e).1 (I.ok.bs b o e).2 (I.ok.noex b o e)⟩
theorem bu.bk (I:bu X pins σ H s):∀ b o,X.base.get? b=some o->s.heap.get? b=some o:=fun b o e=>(I.bs b o e).1
theorem bu.mod (I:bu X pins σ H s):Mod X.K X.mg X.base:=I.ok.mod
theorem bu.kIn (I:bu X pins σ H s):X.K.In s.heap:=I.ok.mod.kin.keeps I.bk
theorem bu.nolimit (I:bu X pins σ H s):s.heap.NoLimit:=I.ok.mod.nolimit.keeps I.bk
theorem bu.fr (I:bu X pins σ H s):∃ m,Fr X.base X.env.locals s.heap m :=
 let ⟨m,hn,_⟩:=I.loc
 ⟨m,hn,I.bk,bE I.ok.bsz I.ok.above⟩
theorem bu.lt (I:bu X pins σ H s):X.env.locals<s.heap.objs.size:=let ⟨_,hn,_⟩:=I.loc;hn.lt
theorem bu.sz (I:bu X pins σ H s):X.s₀.heap.objs.size<=s.heap.objs.size:=bE I.ok.above (bi I.lt)
theorem bu.nofs (I:bu X pins σ H s) {a:aa} (h:s.heap.objs.size<=a):a∉X.fs:=fun hb=>by
 obtain ⟨_,o,ho,_⟩:=I.ok.funs.mem hb
 exact absurd (aD (aj ho) (bE I.sz h)) (bQ _)
theorem bu.cne (I:bu X pins σ H s):∀ x c,X.env.cells.lookup x=some c->c≠X.env.locals:=fun x c e z=>by
 obtain ⟨v,o,ho,hd⟩:=I.cell x c e
 obtain ⟨m,⟨o',es,ep,ho',hd',_⟩,_⟩:=I.loc
 rw [z,ho'] at ho;cases ho;rw [hd'] at hd;cases hd
theorem bu.funs (I:bu X pins σ H s):s.heap.FunFrames X.base X.outer:=by
 have all:∀ (l:List Env),(∀ b∈ml l,b∈X.fs)->X.s₀.heap.FunFrames X.base l->s.heap.FunFrames X.base l:=by
  intro l
  induction l with
  | nil=>intro _ _;trivial
  | cons env r ih =>
   intro hs hl
   obtain ⟨hk,⟨L,o,hf,hn,ho,hd⟩,hr⟩:=hl
   have hL:L∈X.fs:=hs L (by unfold ml;rw [rA,hf];exact al)
   obtain ⟨sl,e⟩:=I.base.slot L o ho (I.ok.frf L hL) hL fun z=>I.ok.exfs L z hL
   exact ⟨hk,⟨L,_,hf,hn,e,hd⟩,ih (fun b hb=>hs b (by unfold ml;rw [rA,hf];exact ai _ hb)) hr⟩
 exact all X.outer (fun _ hb=>hb) I.ok.funs
theorem bu.stack (I:bu X pins σ H s):s.heap.FunFrames X.base X.stack:=by
 rcases I.ok.stk with e | ⟨e,hf⟩
 ·rw [e];exact I.funs
 ·rw [e]
  obtain ⟨m,hn,_⟩:=I.loc
  refine .cons (by rw [I.ok.kind];decide) hf hn ?_ I.funs
  exact qk (bE I.ok.bsz I.ok.above)
theorem bu.stkSub (I:bu X pins σ H s):∀ b∈ml X.stack,b∈X.env.locals::X.fs:=fun b hb=>by
 rcases I.ok.stk with e | ⟨e,hf⟩
 ·rw [e] at hb;exact ai _ hb
 ·rw [e] at hb
  unfold ml at hb
  rw [rA,hf] at hb
  exact hb
theorem bu.stkFree (I:bu X pins σ H s):∀ b∈ml X.stack,H b=none:=fun b hb=>by
 rcases List.mem_cons.mp (I.stkSub b hb) with e | hb
 ·rw [e];exact I.free
 ·obtain ⟨_,o,ho,_⟩:=I.ok.funs.mem hb
  exact I.base.free b o ho (I.ok.frf b hb) fun z=>I.ok.exfs b z hb
theorem bu.step {g':Array CO}{t':Nat}{d':Hm}{ch:List aa} (I:bu X pins σ H s)
  (hch:∀ b∈ch,(b∈X.ex\/X.s₀.heap.objs.size<=b)/\b≠X.env.locals/\(∀ x c,X.env.cells.lookup x=some c->c≠b)/\∀ p∈X.pn++pins,p.1≠b)
  (keep:∀ b o,b≠X.env.locals->b∉X.fs->b∉ch->s.heap.get? b=some o->H b=none->h'.get? b=some o)
  (slot:∀ b o,b≠X.env.locals->b∈X.fs->b∉ch->s.heap.get? b=some o->H b=none->∃ sl,h'.get? b=some { o with slots:=sl }) (free:∀ b o,b∉ch->s.heap.get? b=some o->H b=none->H' b=none)
  (there:∀ b o,b∉ch->s.heap.get? b=some o->∃ o',h'.get? b=some o')
  (tups:∀ b xs,H b=some (.tup xs)->H' b=some (.tup xs)) (frzs:∀ b o u,H b=some (.frz o u)->H' b=some (.frz o u)) (tbls:∀ b ps,H b=some (.tbl ps)->∃ more,H' b=some (.tbl (ps++more)))
  (ns:∀ m,s.heap.Ns X.env.locals m->h'.Ns X.env.locals m) (hok:nW X.prog X.w H' h') (hg:nZ g') :
  bu X pins σ H' { s with heap:=h',gens:=g',drawn:=d',toks:=t' }:=by
 have neL:∀ b o,X.s₀.heap.get? b=some o->b≠X.env.locals:=fun b o e=>az (aD (aj e) I.ok.above)
 have neC:∀ b o,X.s₀.heap.get? b=some o->b∉X.ex->b∉ch:=fun b o e hx hb=>by
  rcases (hch b hb).1 with z | z
  ·exact hx z
  ·exact absurd (aD (aj e) z) (bQ _)
 have cellK:∀ x c,X.env.cells.lookup x=some c->∀ v,s.heap.IsCell c v->h'.IsCell c v:=fun x c e v h_0=>by
  obtain ⟨o,ho,hd⟩:=h_0
  have nch:c∉ch:=fun z=>(hch c z).2.2.1 x c e rfl
  by_cases hc:c∈X.fs
  ·obtain ⟨sl,q⟩:=slot c o (I.cne x c e) hc nch ho (I.freeC x c e)
   exact ⟨_,q,hd⟩
  ·exact ⟨o,keep c o (I.cne x c e) hc nch ho (I.freeC x c e),hd⟩
 refine ⟨I.ok,I.os,hg,⟨fun b o e n hb hx=>?_,fun b o e n hb hx=>?_,fun b o e n hx=>?_,fun b o e hx=>?_,fun b xs e=>tups b xs (I.base.tups b xs e),fun b o xs e=>frzs b o xs (I.base.frzs b o xs e),fun b ps e=>?_⟩,?_,fun x c e=>?_,?_,fun x c e=>?_,fun p hp=>?_,hok,I.len⟩
 ·exact keep b o (neL b o e) hb (neC b o e hx) (I.base.keep b o e n hb hx) (I.base.free b o e n hx)
 ·obtain ⟨sl,e1⟩:=I.base.slot b o e n hb hx
  obtain ⟨sl',e2⟩:=slot b _ (neL b o e) hb (neC b o e hx) e1 (I.base.free b o e n hx)
  exact ⟨sl',e2⟩
 ·obtain ⟨o',e1⟩:=I.base.there b o e hx
  exact free b o' (neC b o e hx) e1 (I.base.free b o e n hx)
 ·obtain ⟨o',e1⟩:=I.base.there b o e hx
  exact there b o' (neC b o e hx) e1
 ·obtain ⟨m1,e1⟩:=I.base.tbls b ps e
  obtain ⟨m2,e2⟩:=tbls b _ e1
  exact ⟨m1++m2,by rw [e2,FJ]⟩
 ·obtain ⟨m,hn,hl⟩:=I.loc
  refine ⟨m,ns m hn,fun i x v e1 e2 e3=>?_⟩
  obtain ⟨u,r,l⟩:=hl i x v e1 e2 e3
  refine ⟨u,r,?_⟩
  rcases l with l | ⟨k,c,e,z⟩
  ·exact .inl l
  ·exact .inr ⟨k,c,e,cellK x c e _ z⟩
 ·obtain ⟨v,z⟩:=I.cell x c e
  exact ⟨v,cellK x c e v z⟩
 ·obtain ⟨m,⟨o,_,_,ho,_⟩,_⟩:=I.loc
  exact free _ o (fun z=>(hch _ z).2.1 rfl) ho I.free
 ·obtain ⟨v,o,ho,hd⟩:=I.cell x c e
  exact free c o (fun z=>(hch c z).2.2.1 x c e rfl) ho (I.freeC x c e)
 ·obtain ⟨e,n,ne,nf,d⟩:=I.pin p hp
  have nch:p.1∉ch:=fun z=>(hch p.1 z).2.2.2 p hp rfl
  exact ⟨keep p.1 p.2 ne nf nch e n,free p.1 p.2 nch e n,ne,nf,d⟩
theorem bu.un {t':Nat} (I:bu X pins σ H s) (u:Un X.fs [] H H' s.heap h') (hok:nW X.prog X.w H' h'):bu X pins σ H' { s with heap:=h',toks:=t' }:=by
 obtain ⟨m,⟨o,es,ep,ho,r⟩,_⟩:=id I.loc
 obtain ⟨sl,hL⟩:=u.any ho I.free (by simp)
 exact I.step (g':=s.gens) (d':=s.drawn) (ch:=[]) (fun _ z=>nomatch z) (fun b o _ hb _ e n=>u.keep b o e n hb (by simp)) (fun b o _ hb _ e n=>u.slot b o e n hb (by simp)) (fun b o _ e n=>u.free b o e n (by simp)) (fun b o _ e=>u.there b o e (by simp)) u.tups u.frzs u.tbls (fun m' hm=>by
  obtain ⟨o',es',ep',ho',r'⟩:=hm
  rw [ho] at ho';cases ho'
  exact ⟨_,es',ep',hL,r'⟩) hok I.bare
theorem bu.call {g':Array CO}{t':Nat}{d':Hm}{ch:List aa} (I:bu X pins σ H s) (u:Un (ml X.stack) ch H H' s.heap h') (hok:nW X.prog X.w H' h') (hg:nZ g')
  (hch:∀ b∈ch,(b∈X.ex\/X.s₀.heap.objs.size<=b)/\b≠X.env.locals/\(∀ x c,X.env.cells.lookup x=some c->c≠b)/\∀ p∈X.pn++pins,p.1≠b) :
  bu X pins σ H' { s with heap:=h',gens:=g',drawn:=d',toks:=t' }:=by
 obtain ⟨m,⟨o,es,ep,ho,r⟩,_⟩:=id I.loc
 obtain ⟨sl,hL⟩:=u.any ho I.free fun z=>(hch _ z).2.1 rfl
 exact I.step (ch:=ch) hch (fun b o hL hb hc e n=>u.keep b o e n (fun z=>(List.mem_cons.mp (I.stkSub b z)).elim hL hb) hc) (fun b o _ _ hc e n=>u.any e n hc) (fun b o hc e n=>u.free b o e n hc) (fun b o hc e=>u.there b o e hc) u.tups u.frzs u.tbls (fun m' hm=>by
  obtain ⟨o',es',ep',ho',r'⟩:=hm
  rw [ho] at ho';cases ho'
  exact ⟨_,es',ep',hL,r'⟩) hok hg
theorem bu.turned {t':Nat}{it:aa} (I:bu X pins σ H s) (k:∀ b o,b≠it->s.heap.get? b=some o->h'.get? b=some o) (hn:H it=none) (hL:it≠X.env.locals)
  (h1:it∈X.ex\/X.s₀.heap.objs.size<=it) (h2:∀ x c,X.env.cells.lookup x=some c->c≠it) (h3:∀ p∈X.pn++pins,p.1≠it):bu X pins σ H { s with heap:=h',toks:=t' }:=by
 have nit:∀ b u,H b=some u->b≠it:=fun b u e z=>by rw [z,hn] at e;cases e
 refine I.step (g':=s.gens) (d':=s.drawn) (ch:=[it]) (fun b hb=>?_) (fun b o _ _ hc e _=>k b o (fun z=>hc (by simp [z])) e) (fun b o _ _ hc e _=>⟨o.slots,k b o (fun z=>hc (by simp [z])) e⟩) (fun _ _ _ _ n=>n)
  (fun b o hc e=>⟨o,k b o (fun z=>hc (by simp [z])) e⟩) (fun _ _ e=>e) (fun _ _ _ e=>e) (fun b ps e=>⟨#[],by rw [e];simp⟩) (fun m hm=>?_) (fun b u e=>?_) I.bare
 ·have e:b=it:=by simpa using hb
  subst e
  exact ⟨h1,hL,h2,h3⟩
 ·obtain ⟨o,es,ep,ho,r⟩:=hm
  exact ⟨o,es,ep,k _ o (eA hL) ho,r⟩
 ·refine (I.hok b u e).stay (fun c v hc q=>k c v ?_ q) (fun _ q=>q) fun _ _ q=>q
  rcases hc with z | z
  ·rw [z];exact nit b u e
  ·exact nit c _ z
theorem bu.tok (I:bu X pins σ H s) (t:Nat):bu X pins σ H { s with toks:=t }:=I.un (h':=s.heap) (t':=t) Un.refl I.hok
theorem bu.kept {t':Nat} (I:bu X pins σ H s) (k:∀ b u,s.heap.get? b=some u->h'.get? b=some u):bu X pins σ H { s with heap:=h',toks:=t' }:=I.un (Un.kept k) (I.hok.kept k)
theorem bu.laid {a:aa}{o:HO}{t':Nat} (I:bu X pins σ H s) (k:∀ b u,s.heap.get? b=some u->h'.get? b=some u) (hp:s.heap.objs.size<=a) (new:dk X.prog X.w (upd H a o) h' a o) :
  bu X pins σ (upd H a o) { s with heap:=h',toks:=t' }:=I.un (Un.laid k hp (I.hok.fresh hp)) (I.hok.laid k hp new)
theorem bu.write {x e:aa}{o:HO}{t':Nat} (I:bu X pins σ H s) (mu:Qf (H x)) (he:e=x\/H e=some (.own x)) (k:∀ b u,b≠e->s.heap.get? b=some u->h'.get? b=some u) (heo:∃ u,h'.get? e=some u)
  (new:dk X.prog X.w (upd H x o) h' x o):bu X pins σ (upd H x o) { s with heap:=h',toks:=t' }:=I.un (Un.write mu he k heo) (I.hok.write mu he k heo new)
theorem bu.weak {σ':List (Option V)} (I:bu X pins σ H s) (hl:σ'.length=σ.length) (w:∀ (i:Nat) v,σ'[i]?=some (some v)->σ[i]?=some (some v)):bu X pins σ' H s :=
 ⟨I.ok,I.os,I.bare,I.base,let ⟨m,hn,hl'⟩:=I.loc;⟨m,hn,fun i x v e1 e2 e3=>hl' i x v e1 (w i v e2) e3⟩,I.cell,I.free,I.freeC,I.pin,I.hok,hl.trans I.len⟩
theorem bu.pins_of {pins':List (aa×Obj)} (I:bu X pins σ H s) (h:∀ p∈pins',s.heap.get? p.1=some p.2/\H p.1=none/\p.1≠X.env.locals/\p.1∉X.fs/\∀ v,p.2.data≠.cell v):bu X pins' σ H s :=
 ⟨I.ok,I.os,I.bare,I.base,I.loc,I.cell,I.free,I.freeC,fun p hp=>(List.mem_append.mp hp).elim (fun z=>I.pin p (dC _ z)) (h p),I.hok,I.len⟩
theorem AL {N:List Str} (hN:N.Nodup) {i j:Nat}{x:Str} (a:N[i]?=some x) (b:N[j]?=some x):i=j:=by
 obtain ⟨h1,e1⟩:=List.getElem?_eq_some_iff.mp a
 obtain ⟨h2,e2⟩:=List.getElem?_eq_some_iff.mp b
 exact (List.getElem_inj hN).mp (e1.trans e2.symm)
theorem yb {M:vd}{A:aP}{E:a7->a9->Prop}{i:Nat}{x:Str}{v:V}{u:a7}{Q:Unit->a9->Prop} (I:bu X pins σ H s) (hN:X.N.Nodup) (hi:X.N[i]?=some x) (hx:LP X.env.scope x) (r:df v u)
  (h:∀ s',bu X pins (σ.set i (some v)) H s'->(∃ a,cj a s.heap s'.heap/\(a=X.env.locals\/X.env.cells.lookup x=some a))->Q () s') (hf:X.fn x=true\/X.env.scope.names.lookup x=some .local:=by first | exact .inl rfl | exact .inr rfl | assumption):ao M A (storeName X.env x u) Q E s:=by
 obtain ⟨m,hn,hl⟩:=id I.loc
 have hcls:(X.env.scope.kind == .class || (X.env.scope.kind == .module && X.env.locals != X.env.globals))=false:=by rw [I.ok.kind];rfl
 have hiσ:i<σ.length:=by rw [I.len];exact (List.getElem?_eq_some_iff.mp hi).1
 have cne:=I.cne
 have tracked:∀ {a:aa}{h':a_},(∃ o,s.heap.get? a=some o/\H a=none)->cj a s.heap h'->nW X.prog X.w H h':=fun {a h'} ha hs b ob e=>by
  obtain ⟨_,_,hfree⟩:=ha
  refine (I.hok b ob e).stay (fun c w' hc q=>(hs.2 c ?_).trans q) (fun _ q=>q) fun _ _ q=>q
  rintro rfl
  rcases hc with rfl | hc
  ·rw [hfree] at e;cases e
  ·rw [hfree] at hc;cases hc
 rcases hx with hk | hk
 ·refine wpAny_storeName_local hk hn (fun h' hn' hs=>?_) hcls
  obtain ⟨oL,_,_,hoL,_⟩:=id hn
  refine h _ ⟨I.ok,I.os,I.bare,⟨fun b o e n hb hx=>?_,fun b o e n hb hx=>?_,I.base.free,fun b o e hx=>?_,I.base.tups,I.base.frzs,I.base.tbls⟩,⟨_,hn',fun j y v' e1 e2 e3=>?_⟩,fun y c e=>?_,I.free,I.freeC,fun p hp=>?_,tracked ⟨oL,hoL,I.free⟩ hs,by simpa using I.len⟩ ⟨_,hs,.inl rfl⟩
  ·exact (hs.2 b (az (aD (aj e) I.ok.above))).trans (I.base.keep b o e n hb hx)
  ·obtain ⟨sl,e1⟩:=I.base.slot b o e n hb hx
   exact ⟨sl,(hs.2 b (az (aD (aj e) I.ok.above))).trans e1⟩
  ·obtain ⟨o',e1⟩:=I.base.there b o e hx
   exact ⟨o',(hs.2 b (az (aD (aj e) I.ok.above))).trans e1⟩
  ·by_cases hj:j=i
   ·subst hj
    rw [hi] at e1;cases e1
    rw [aw hiσ] at e2
    cases e2
    exact ⟨u,r,.inl ⟨hk,by simp⟩⟩
   ·rw [ag (eA hj)] at e2
    obtain ⟨u',r',q⟩:=hl j y v' e1 e2 e3
    refine ⟨u',r',?_⟩
    rcases q with ⟨k,e⟩ | ⟨k,c,e,z⟩
    ·refine .inl ⟨k,?_⟩
     have:y≠x:=fun e=>hj (AL hN e1 (e ▸ hi))
     simp [this,e]
    ·exact .inr ⟨k,c,e,z.sameBut hs (cne y c e)⟩
  ·obtain ⟨w',z⟩:=I.cell y c e
   exact ⟨w',z.sameBut hs (cne y c e)⟩
  ·obtain ⟨e,n,ne,nf,d⟩:=I.pin p hp
   exact ⟨(hs.2 p.1 ne).trans e,n,ne,nf,d⟩
 ·have hfn:X.fn x=true:=by
   rcases hf with z | z
   ·exact z
   ·rw [z] at hk;cases hk
  obtain ⟨c,hc⟩:=I.ok.has x (.inl hk)
  obtain ⟨w',z⟩:=I.cell x c hc
  refine wpAny_storeName_cell I.ok.kind hk hc z (fun h' hc' hs=>?_)
  obtain ⟨oc,hoc,hocd⟩:=id z
  refine h { s with heap:=h' } ⟨I.ok,I.os,I.bare,⟨fun b o e n hb hx=>?_,fun b o e n hb hx=>?_,I.base.free,fun b o e hx=>?_,I.base.tups,I.base.frzs,I.base.tbls⟩,⟨m,hn.sameBut hs (eA (cne x c hc)),fun j y v' e1 e2 e3=>?_⟩,fun y c' e=>?_,I.free,I.freeC,fun p hp=>?_,tracked ⟨oc,hoc,I.freeC x c hc⟩ hs,by simpa using I.len⟩ ⟨c,hs,.inr hc⟩
  ·exact (hs.2 b (az (aD (aj e) (I.ok.cab x c hfn hc)))).trans (I.base.keep b o e n hb hx)
  ·obtain ⟨sl,e1⟩:=I.base.slot b o e n hb hx
   exact ⟨sl,(hs.2 b (az (aD (aj e) (I.ok.cab x c hfn hc)))).trans e1⟩
  ·obtain ⟨o',e1⟩:=I.base.there b o e hx
   exact ⟨o',(hs.2 b (az (aD (aj e) (I.ok.cab x c hfn hc)))).trans e1⟩
  ·by_cases hj:j=i
   ·subst hj
    rw [hi] at e1;cases e1
    rw [aw hiσ] at e2
    cases e2
    exact ⟨u,r,.inr ⟨.inl hk,c,hc,hc'⟩⟩
   ·rw [ag (eA hj)] at e2
    obtain ⟨u',r',q⟩:=hl j y v' e1 e2 e3
    refine ⟨u',r',?_⟩
    rcases q with q | ⟨k,c',e,z'⟩
    ·exact .inl q
    ·refine .inr ⟨k,c',e,z'.sameBut hs ?_⟩
     rintro rfl
     exact hj (AL hN e1 (I.ok.inj _ _ _ e hc ▸ hi))
  ·by_cases hcc:c'=c
   ·subst hcc;exact ⟨_,hc'⟩
   ·obtain ⟨w2,z2⟩:=I.cell y c' e
    exact ⟨w2,z2.sameBut hs hcc⟩
  ·obtain ⟨e,n,ne,nf,d⟩:=I.pin p hp
   refine ⟨(hs.2 p.1 ?_).trans e,n,ne,nf,d⟩
   intro q
   rw [q,hoc] at e
   have q':oc=p.2:=bw e
   exact d w' (by rw [<- q'];exact hocd)
theorem vL {M:vd}{A:aP}{E:a7->a9->Prop}{i:Nat}{x:Str}{v:V}{u:a7}{Q:Unit->a9->Prop} (I:bu X pins σ H s) (hN:X.N.Nodup) (hi:X.N[i]?=some x) (hx:LP X.env.scope x) (r:df v u)
  (h:∀ s',bu X pins (σ.set i (some v)) H s'->Q () s') (hf:X.fn x=true\/X.env.scope.names.lookup x=some .local:=by first | exact .inl rfl | exact .inr rfl | assumption):ao M A (storeName X.env x u) Q E s :=
 yb I hN hi hx r (fun s' I' _=>h s' I') hf
theorem bu.call' {s':a9}{ch:List aa} (I:bu X pins σ H s) (ho:s'.os=s.os) (u:Un (ml X.stack) ch H H' s.heap s'.heap) (hok:nW X.prog X.w H' s'.heap) (hg:nZ s'.gens)
  (hch:∀ b∈ch,(b∈X.ex\/X.s₀.heap.objs.size<=b)/\b≠X.env.locals/\(∀ x c,X.env.cells.lookup x=some c->c≠b)/\∀ p∈X.pn++pins,p.1≠b):bu X pins σ H' s':=by
 obtain ⟨h',g',d',t',o'⟩:=s'
 have e:o'=s.os:=ho
 subst e
 exact I.call (g':=g') (t':=t') (d':=d') u hok hg hch
end
abbrev XK:=a7->Option aa->Hp->Prop
abbrev St:=List (Option V)
abbrev VK:=V->Hp->Prop
abbrev TE:=St->Hp->VK->Prop
abbrev TT:=St->Hp->(Bool->Hp->Prop)->Prop
abbrev TA:=St->Hp->(List V->Hp->Prop)->Prop
structure qM where
 nx:St->Hp->Prop
 rt:VK
 bk:St->Hp->Prop:=fun _ _=>False
 ct:St->Hp->Prop:=fun _ _=>False
abbrev TS:=qM->St->Hp->Prop
inductive EP (X:Cx) (pins:List (aa×Obj)) (σ:St) (Q:VK) (u:a7) (s':a9):Prop
 | mk (v H':_) (h0:bu X pins σ H' s') (h1:df v u) (h2:Q v H'):EP X pins σ Q u s'
inductive TP (X:Cx) (pins:List (aa×Obj)) (σ:St) (Q:Bool->Hp->Prop) (b:Bool) (s':a9):Prop
 | mk (H':_) (h0:bu X pins σ H' s') (h1:Q b H'):TP X pins σ Q b s'
inductive AP (X:Cx) (pins:List (aa×Obj)) (σ:St) (Q:List V->Hp->Prop) (us:List a7) (s':a9):Prop
 | mk (vs H':_) (h0:bu X pins σ H' s') (h1:cJ vs us) (h2:Q vs H'):AP X pins σ Q us s'
inductive SN (X:Cx) (pins:List (aa×Obj)) (k:St->Hp->Prop) (s':a9):Prop
 | mk (σ':St) (H':Hp) (I:bu X pins σ' H' s') (q:k σ' H'):SN X pins k s'
inductive SV (X:Cx) (pins:List (aa×Obj)) (k:V->Hp->Prop) (u:a7) (s':a9):Prop
 | mk (v:V) (σ':St) (H':Hp) (I:bu X pins σ' H' s') (r:df v u) (q:k v H'):SV X pins k u s'
def SP (X:Cx) (pins:List (aa×Obj)) (D:qM) (f:Flow) (s':a9):Prop :=
 match f with
 | .next=>SN X pins D.nx s'
 | .brk=>SN X pins D.bk s'
 | .cont=>SN X pins D.ct s'
 | .ret u=>SV X pins D.rt u s'
def PE (X:Cx) (e:aO) (t:TE):Prop :=
 ∀ (pins:List (aa×Obj)) (s:a9) (σ:St) (H:Hp) (Q:VK),bu X pins σ H s->t σ H Q->ao (aE X.prog X.w) X.A (cp e X.env) (EP X pins σ Q) X.xe s
def PT (X:Cx) (e:aO) (t:TT):Prop :=
 ∀ (pins:List (aa×Obj)) (s:a9) (σ:St) (H:Hp) (Q:Bool->Hp->Prop),bu X pins σ H s->t σ H Q->ao (aE X.prog X.w) X.A (yY e X.env (cp e X.env)) (TP X pins σ Q) X.xe s
def PW (X:Cx) (e:aO) (t:TT):Prop :=
 ∀ (whole:Sem a7) (pins:List (aa×Obj)) (s:a9) (σ:St) (H:Hp) (Q:Bool->Hp->Prop),bu X pins σ H s->t σ H Q->ao (aE X.prog X.w) X.A (yY e X.env whole) (TP X pins σ Q) X.xe s
theorem PW.pt {X:Cx}{e:aO}{t:TT} (h:PW X e t):PT X e t:=h _
def PA (X:Cx) (es:List aO) (t:TA):Prop :=
 ∀ (pos:Pos) (pins:List (aa×Obj)) (s:a9) (σ:St) (H:Hp) (Q:List V->Hp->Prop),bu X pins σ H s->t σ H Q->ao (aE X.prog X.w) X.A (spliced (dz pos (ak es X.env))) (AP X pins σ Q) X.xe s
def PS (X:Cx) (st:cw) (t:TS):Prop :=
 ∀ (pins:List (aa×Obj)) (s:a9) (σ:St) (H:Hp) (D:qM),bu X pins σ H s->t D σ H->ao (aE X.prog X.w) X.A (exec st X.env) (SP X pins D) X.xe s
def yc (X:Cx) (st:List cw) (t:TS):Prop :=
 ∀ (pins:List (aa×Obj)) (s:a9) (σ:St) (H:Hp) (D:qM),bu X pins σ H s->t D σ H->ao (aE X.prog X.w) X.A (execs st X.env) (SP X pins D) X.xe s
theorem fm {α:Type}{t:Sem α}{Q Q':α->a9->Prop}{M:vd}{A:aP}{E:a7->a9->Prop}{s:a9} (h:ao M A t Q E s) (hQ:∀ a s,Q a s->Q' a s):ao M A t Q' E s:=b6 h hQ fun _ _ x=>x
end L2
namespace L2
open PySem PySem.Spec PyProof.Rows
section
variable {X:Cx}
inductive Ny (i:Nat) (σ:St) (H:Hp) (Q:VK):Prop
 | mk (v:_) (h0:σ[i]?=some (some v)) (h1:Q v H):Ny i σ H Q
def F_ (i:Nat):TE:=Ny i
def tC (v:V):TE:=fun _ H Q=>Q v H
theorem ko {i:Nat}{x:Str}{pos:Pos} (hN:X.N[i]?=some x) (hv:FZ X.env.scope x) (hd:(x == ("__debug__" : Str))=false:=by decide) (hcd:(x == ("__classdict__" : Str))=false:=by decide):PE X (.Name x pos) (F_ i):=by
 intro pins s σ H Q I h
 obtain ⟨v,e,h⟩:=h
 obtain ⟨m,hn,hl⟩:=I.loc
 obtain ⟨u,r,l⟩:=hl i x v hN e hv
 have fin:EP X pins σ Q u s:=⟨v,H,I,r,h⟩
 rcases l with ⟨hk,hm⟩ | ⟨hk,c,hc,hcell⟩
 ·exact vw (tG I.ok.kind hk hn hm fin) hd
 ·rcases hk with hk | hk
  ·exact vw (wpAny_loadName_cell I.ok.kind hk hc hcell fin) hd
  ·exact vw (wpAny_loadName_free I.ok.kind hk hc hcell fin hcd) hd
theorem D7 {i j pos}:PE X (.Constant (.int i) j pos) (tC (.int i)):=fun _ _ _ H _ I h=>wpAny_Constant_int ⟨.int i,H,I.tok _,⟨_,rfl⟩,h⟩
theorem HU {b j pos}:PE X (.Constant (.bool b) j pos) (tC (.bl b)):=fun _ _ _ H _ I h=>Constant_bool ⟨.bl b,H,I,rfl,h⟩
theorem OJ {j pos}:PE X (.Constant .none j pos) (tC .non):=fun _ _ _ H _ I h=>Constant_none ⟨.non,H,I,rfl,h⟩
theorem HV {x j pos}:PE X (.Constant (.str x) j pos) (tC (.str x)):=fun _ _ _ H _ I h=>Calls.Constant_str ⟨.str x,H,I.tok _,⟨_,rfl⟩,h⟩
def Gl (X:Cx) (x:Str):Prop:=X.env.kindOf x=some .globalImplicit
theorem rW {E:a7->a9->Prop}{pins:List (aa×Obj)}{s:a9}{σ:St}{H:Hp}{x:Str}{u:a7}{pos:Pos}{Q:a7->a9->Prop} (I:bu X pins σ H s) (hg:Gl X x) (hm:X.mg x=some u) (h:Q u s)
  (hd:(x == ("__debug__" : Str))=false:=by decide):ao (aE X.prog X.w) X.A (cp (.Name x pos) X.env) Q E s :=
 kY I.ok.kind hg (Ax (by rw [I.ok.glob];exact I.mod.glob.keeps I.bk) hm h) hd
theorem qN {E:a7->a9->Prop}{pins:List (aa×Obj)}{s:a9}{σ:St}{H:Hp}{x:Str}{u:a7}{pos:Pos}{Q:a7->a9->Prop} (I:bu X pins σ H s) (hg:Gl X x) (hm:X.mg x=none) (hv:gj x=some u) (h:Q u s)
  (hn:x≠"__name__":=by decide) (hd:(x == ("__debug__" : Str))=false:=by decide):ao (aE X.prog X.w) X.A (cp (.Name x pos) X.env) Q E s:=by
 obtain ⟨mb,h1,h2⟩:=I.mod.blt
 exact kY I.ok.kind hg (Calls.loadGlobal_builtin (by rw [I.ok.glob];exact I.mod.glob.keeps I.bk) hm (by rw [I.ok.blt];exact h1.keeps I.bk) ((h2 x hn).trans hv) h) hd
theorem zg {x:Str}{v:V}{u:a7}{pos:Pos} (hg:Gl X x) (hm:X.mg x=some u) (r:df v u) (hd:(x == ("__debug__" : Str))=false:=by decide):PE X (.Name x pos) (tC v) :=
 fun _ _ _ H _ I h=>rW I hg hm ⟨v,H,I,r,h⟩ hd
theorem Ex {x:Str}{v:V}{u:a7}{pos:Pos} (hg:Gl X x) (hm:X.mg x=none) (hv:gj x=some u) (r:df v u) (hn:x≠"__name__":=by decide) (hd:(x == ("__debug__" : Str))=false:=by decide):PE X (.Name x pos) (tC v) :=
 fun _ _ _ H _ I h=>qN I hg hm hv ⟨v,H,I,r,h⟩ hn hd
variable {a b:aO}{ta tb:TE}{pos:Pos}
def PC (X:Cx) (op:vf) (a b:aO) (t:TE):Prop :=
 ∀ (pins:List (aa×Obj)) (s:a9) (σ:St) (H:Hp) (Q:VK),bu X pins σ H s->t σ H Q ->
  ao (aE X.prog X.w) X.A (cp a X.env) (fun v s₁=>ao (aE X.prog X.w) X.A (cp b X.env) (fun u s₂=>ao (aE X.prog X.w) X.A (bI op v u) (EP X pins σ Q) X.xe s₂) X.xe s₁) X.xe s
theorem HW (b:aO) {op:vf} (h:op≠.In) (h2:op≠.NotIn):gC op b=false:=by
 have e1:(op == CmpOp.In)=false:=by cases op<;>first | rfl | exact absurd rfl h
 have e2:(op == CmpOp.NotIn)=false:=by cases op<;>first | rfl | exact absurd rfl h2
 cases b<;>simp [gC,e1,e2]
def tB (t:TE):TT:=fun σ H Q=>t σ H fun x H1=>∃ c,x=.bl c/\Q c H1
theorem Sk {op:vf}{t:TE} (h:PC X op a b t) (h1:gC op b=false:=by first | exact HW _ (by decide) (by decide) | rfl):PT X (.Compare a [op] [b] pos) (tB t):=by
 intro pins s σ H Q I hw
 refine Ld (fm (h pins s σ H _ I hw) fun v s1 h1=>fm h1 fun u s2 h2=>fm h2 fun c s3 ⟨x,H1,I1,r1,q1⟩=>?_) h1
 obtain ⟨d,rfl,q⟩:=q1
 cases r1
 exact dS ⟨H1,I1,q⟩
theorem HX {e:aO}{t:TE} (h:PE X e t) (he:∀ whole,yY e X.env whole=(do let v <- whole;CD e.pos;holding [v] (truthy v)):=by intro _;rfl):PT X e (tB t):=by
 intro pins s σ H Q I hw
 refine isTrue_plain (fm (h pins s σ H _ I hw) fun v s1 ⟨x,H1,I1,r1,q1⟩=>?_) (he _)
 obtain ⟨d,rfl,q⟩:=q1
 cases r1
 exact dS ⟨H1,I1,q⟩
variable {tA tB':TT}{bA:List aO}
def Sm (t u:TT):TT:=fun σ H Q=>t σ H fun c H1=>if c=true then u σ H1 Q else Q false H1
def Ub (t u:TT):TT:=fun σ H Q=>t σ H fun c H1=>if c=true then Q true H1 else u σ H1 Q
def Sn (t:TT):TT:=fun σ H Q=>t σ H fun c H1=>Q (!c) H1
theorem LQ (ha:PT X a tA):PW X (.BoolOp .And [a] pos) tA:=by
 intro wh pins s σ H Q I h
 refine isTrue_and (fm (ha pins s σ H Q I h) fun c s1 e=>?_)
 cases c with
 | true=>exact isTrue_and_nil e
 | false=>exact e
theorem HY (ha:PT X a tA):PW X (.BoolOp .Or [a] pos) tA:=by
 intro wh pins s σ H Q I h
 refine isTrue_or (fm (ha pins s σ H Q I h) fun c s1 e=>?_)
 cases c with
 | false=>exact isTrue_or_nil e
 | true=>exact e
theorem OK (ha:PT X a tA) (hb:PW X (.BoolOp .And (b::bA) pos) tB'):PW X (.BoolOp .And (a::b::bA) pos) (Sm tA tB'):=by
 intro wh pins s σ H Q I h
 refine isTrue_and (fm (ha pins s σ H _ I h) fun c s1 ⟨H1,I1,q1⟩=>?_)
 cases c with
 | true=>exact hb wh pins s1 σ H1 Q I1 q1
 | false=>exact ⟨H1,I1,q1⟩
theorem Nz (ha:PT X a tA) (hb:PW X (.BoolOp .Or (b::bA) pos) tB'):PW X (.BoolOp .Or (a::b::bA) pos) (Ub tA tB'):=by
 intro wh pins s σ H Q I h
 refine isTrue_or (fm (ha pins s σ H _ I h) fun c s1 ⟨H1,I1,q1⟩=>?_)
 cases c with
 | true=>exact ⟨H1,I1,q1⟩
 | false=>exact hb wh pins s1 σ H1 Q I1 q1
theorem HZ (ha:PT X a tA):PT X (.UnaryOp .Not a pos) (Sn tA):=by
 intro pins s σ H Q I h
 exact isTrue_not (fm (ha pins s σ H (fun c H1=>Q (!c) H1) I h) fun _ _ x=>by obtain ⟨a,b,c⟩:=x;exact ⟨a,b,c⟩)
def Qg (ta tb:TE):TE:=fun σ H Q=>ta σ H fun x H1=>∃ c,x=.bl c/\if c=true then tb σ H1 Q else Q (.bl false) H1
def Qh (ta:TE):TE:=fun σ H Q=>ta σ H fun x H1=>∃ c,x=.bl c/\Q (.bl (!c)) H1
theorem OL {op}{t:TE} (h:PE X a t):PE X (.BoolOp op [a] pos) t:=fun pins s σ H Q I hw=>BoolOp_one (h pins s σ H Q I hw)
theorem OM (ha:PE X a ta) (hb:PE X (.BoolOp .And (b::bA) pos) tb):PE X (.BoolOp .And (a::b::bA) pos) (Qg ta tb):=by
 intro pins s σ H Q I h
 refine BoolOp_and (fm (ha pins s σ H _ I h) fun v s1 ⟨x,H1,I1,r1,q1⟩=>?_)
 obtain ⟨c,rfl,q1⟩:=q1
 cases r1
 refine dS ?_
 cases c with
 | true=>exact hb pins s1 σ H1 Q I1 q1
 | false=>exact ⟨.bl false,H1,I1,rfl,q1⟩
theorem ON (ha:PE X a ta):PE X (.UnaryOp .Not a pos) (Qh ta):=by
 intro pins s σ H Q I h
 refine UnaryOp_ (fm (ha pins s σ H _ I h) fun v s1 ⟨x,H1,I1,r1,q1⟩=>?_)
 obtain ⟨c,rfl,q1⟩:=q1
 cases r1
 exact not_of (dS ⟨.bl (!c),H1,I1,rfl,q1⟩)
end
end L2
namespace L2
open PySem PySem.Spec PyProof.Rows
inductive Tt (K:a5) (a:aa) (xs:List V):Prop
 | mk (o:Obj) (its:Array a7) (n:Nat) (h0:K.lookup a=some o) (h1:o.cls=.type "list") (h2:o.dict=none) (h3:o.data=.seq its n) (h4:its.size<=sizeLine) (h5:cJ xs its.toList):Tt K a xs
def l5 (K:a5) (H:Hp) (a:aa) (xs:List V):Prop :=
 Rd H a (.lst xs)\/Tt K a xs
inductive Tu (K:a5) (a:aa) (xs:List V):Prop
 | mk (o:Obj) (its:Array a7) (n:Nat) (h0:K.lookup a=some o) (h1:o.cls=.type "tuple") (h3:o.data=.seq its n) (h4:its.size<=sizeLine) (h5:cJ xs its.toList):Tu K a xs
def jN (K:a5) (H:Hp) (a:aa) (xs:List V):Prop :=
 Rd H a (.tup xs)\/Tu K a xs
def So:a7->Option V
 | .none=>some .non
 | .bool b=>some (.bl b)
 | .int i _=>some (.int i)
 | .str x _=>some (.str x)
 | .bytes b _=>some (.byt b)
 | .float b _=>some (.flt b)
 | .ref a=>some (.ref a)
 | .type n=>some (.ty n)
 | _=>none
theorem df.abs {x:V}{u:a7} (r:df x u):So u=some x:=by
 cases x with
 | non=>cases r;rfl
 | bl _=>cases r;rfl
 | int _=>obtain ⟨t,rfl⟩:=r;rfl
 | str _=>obtain ⟨t,rfl⟩:=r;rfl
 | byt _=>obtain ⟨t,rfl⟩:=r;rfl
 | flt _=>obtain ⟨t,rfl⟩:=r;rfl
 | ref _=>cases r;rfl
 | ty _=>cases r;rfl
theorem df.inj {x y:V}{u:a7} (r:df x u) (q:df y u):x=y:=bw (r.abs.symm.trans q.abs)
theorem cJ.inj {xs:List V}{us:List a7} (h:cJ xs us):∀ {ys:List V},cJ ys us->xs=ys:=by
 induction h with
 | nil=>intro ys k;cases k;rfl
 | cons r t ih=>intro ys k;cases k with | cons r' t'=>rw [r.inj r',ih t']
section
variable {X:Cx}{pins:List (aa×Obj)}{σ:St}{H:Hp}{s:a9}{a:aa}{xs ys:List V}
theorem l5.of {K:a5} (h:H a=some (.lst xs)):l5 K H a xs:=.inl (.inl h)
theorem jN.of {K:a5} (h:H a=some (.tup xs)):jN K H a xs:=.inl (.inl h)
inductive Tv (h:a_) (a:aa) (xs:List V):Prop
 | mk (its:List a7) (r:cJ xs its) (p:PlainL h a its.toArray) (z:xs.length<=sizeLine):Tv h a xs
inductive Tw (h:a_) (a:aa) (xs:List V):Prop
 | mk (its:List a7) (r:cJ xs its) (p:CN h a its.toArray) (z:xs.length<=sizeLine):Tw h a xs
inductive Tx (h:a_) (l:aa) (xs:List V):Prop
 | mk (z:xs.length<=sizeLine) (its:List a7) (n:Nat) (r:cJ xs its) (hl:xs.length=its.length) (e:h.get? l=some { cls:=.type "list",data:=.seq its.toArray n }):Tx h l xs
theorem bu.list (I:bu X pins σ H s) (h:l5 X.K H a xs):Tv s.heap a xs:=by
 rcases h with h | ⟨o,its,n,hk,hc,hd,hs,hz,r⟩
 ·obtain ⟨z,its,n,r,e⟩:=h.ok I.hok
  exact ⟨its,r,⟨_,n,e,rfl,rfl,rfl⟩,z⟩
 ·refine ⟨its.toList,r,⟨o,n,I.kIn a o hk,hc,hd,by simpa using hs⟩,?_⟩
  have e:=r.length
  simp only [bh] at e
  omega
theorem bu.tuple (I:bu X pins σ H s) (h:jN X.K H a xs):Tw s.heap a xs:=by
 rcases h with h | ⟨o,its,n,hk,hc,hs,hz,r⟩
 ·obtain ⟨z,its,r,p⟩:=h.ok I.hok
  exact ⟨its,r,p,z⟩
 ·refine ⟨its.toList,r,⟨o,I.kIn a o hk,hc,n,by simpa using hs⟩,?_⟩
  have e:=r.length
  simp only [bh] at e
  omega
theorem bu.list_inj (I:bu X pins σ H s) (h:l5 X.K H a xs) (h':l5 X.K H a ys):xs=ys:=by
 obtain ⟨its,r,⟨o,n,e,_,_,d⟩,_⟩:=I.list h
 obtain ⟨its',r',⟨o',n',e',_,_,d'⟩,_⟩:=I.list h'
 rw [e] at e';cases e'
 rw [d] at d'
 injection d' with d1 _
 have:its=its':=by simpa using congrArg Array.toList d1
 subst this
 exact r.inj r'
theorem bu.tuple_inj (I:bu X pins σ H s) (h:jN X.K H a xs) (h':jN X.K H a ys):xs=ys:=by
 obtain ⟨its,r,⟨o,e,_,n,d⟩,_⟩:=I.tuple h
 obtain ⟨its',r',⟨o',e',_,n',d'⟩,_⟩:=I.tuple h'
 rw [e] at e';cases e'
 rw [d] at d'
 injection d' with d1 _
 have:its=its':=by simpa using congrArg Array.toList d1
 subst this
 exact r.inj r'
end
abbrev Cx.wish (X:Cx) (E:a7->a9->Prop):Cx:={ X with xe:=E }
abbrev Cx.nox (X:Cx):Cx:=X.wish fun _ _=>False
theorem Cx.Ok.wish {X:Cx} (ok:X.Ok) (E:a7->a9->Prop):(X.wish E).Ok :=
 ⟨ok.mod,ok.kind,ok.glob,ok.blt,ok.above,ok.inj,ok.has,ok.cab,ok.hd,ok.frames,ok.stk,ok.exf,ok.bs,ok.bsz,ok.noex,ok.exfs,ok.funs,ok.frf⟩
theorem Cx.Ok.unwish {X:Cx}{E:a7->a9->Prop} (ok:(X.wish E).Ok):X.Ok :=
 ⟨ok.mod,ok.kind,ok.glob,ok.blt,ok.above,ok.inj,ok.has,ok.cab,ok.hd,ok.frames,ok.stk,ok.exf,ok.bs,ok.bsz,ok.noex,ok.exfs,ok.funs,ok.frf⟩
section
variable {X:Cx}{pins:List (aa×Obj)}{σ:St}{H:Hp}{s:a9}{E:a7->a9->Prop}
theorem bu.wish (I:bu X pins σ H s) (E:a7->a9->Prop):bu (X.wish E) pins σ H s:=⟨I.ok.wish E,I.os,I.bare,I.base,I.loc,I.cell,I.free,I.freeC,I.pin,I.hok,I.len⟩
theorem bu.unwish (I:bu (X.wish E) pins σ H s):bu X pins σ H s:=⟨I.ok.unwish,I.os,I.bare,I.base,I.loc,I.cell,I.free,I.freeC,I.pin,I.hok,I.len⟩
theorem SP.unwish {D:qM}{f:Flow}{s':a9} (h:SP (X.wish E) pins D f s'):SP X pins D f s':=by
 cases f with
 | next=>obtain ⟨σ',H',I,q⟩:=h;exact ⟨σ',H',I.unwish,q⟩
 | brk=>obtain ⟨σ',H',I,q⟩:=h;exact ⟨σ',H',I.unwish,q⟩
 | cont=>obtain ⟨σ',H',I,q⟩:=h;exact ⟨σ',H',I.unwish,q⟩
 | ret u=>obtain ⟨v,σ',H',I,r,q⟩:=h;exact ⟨v,σ',H',I.unwish,r,q⟩
end
section
variable {X:Cx}{st:cw}{bA:List cw}{t u:TS}{e:aO}{te:TE}{pos:Pos}
def Qi:TS:=fun D σ H=>D.nx σ H
def Sq (t u:TS):TS:=fun D σ H=>t { D with nx:=u D } σ H
theorem Ey:yc X [] Qi:=fun _ _ σ H _ I h=>lO ⟨σ,H,I,h⟩
theorem iY (h1:PS X st t) (h2:yc X bA u):yc X (st::bA) (Sq t u):=by
 intro pins s σ H D I h
 refine yZ (fm (h1 pins s σ H { D with nx:=u D } I h) fun f s1 q=>?_)
 cases f with
 | next =>
  obtain ⟨σ',H',I',q⟩:=q
  exact h2 pins s1 σ' H' D I' q
 | ret v=>exact q
 | brk=>exact q
 | cont=>exact q
theorem rX (h1:PS X st t):yc X [st] t:=by
 intro pins s σ H D I h
 refine yZ (fm (h1 pins s σ H D I h) fun f s1 q=>?_)
 cases f with
 | next=>exact lO q
 | ret v=>exact q
 | brk=>exact q
 | cont=>exact q
theorem bu.quiet {pins:List (aa×Obj)}{σ:St}{H:Hp}{s:a9} (I:bu X pins σ H s):interactive X.env=false:=by simp [interactive,I.ok.kind]
def Qj (te:TE):TS:=fun D σ H=>te σ H fun _ H1=>D.nx σ H1
theorem mU (he:PE X e te) (hs:fB e none pos.line X.env=pure false:=by rfl):PS X (.Expr e pos) (Qj te):=by
 intro pins s σ H D I h
 exact wpAny_Expr_any (fm (he pins s σ H _ I h) fun v s1 h_7=>by obtain ⟨x,H1,I1,r1,q1⟩:=h_7;exact ⟨σ,H1,I1,q1⟩) I.quiet hs
def Qk (te:TE):TS:=fun D σ H=>te σ H D.rt
theorem zh (he:PE X e te):PS X (.Return (some e) pos) (Qk te):=by
 intro pins s σ H D I h
 exact wpAny_Return_some (fm (he pins s σ H _ I h) fun v s1 h_8=>by obtain ⟨x,H1,I1,r1,q1⟩:=h_8;exact ⟨x,σ,H1,I1,r1,q1⟩)
def Sr (c:TT) (t u:TS):TS:=fun D σ H=>c σ H fun b H1=>if b=true then t D σ H1 else u D σ H1
theorem NA {c:aO}{a b:List cw}{tc:TT} (hc:PT X c tc) (ha:yc X a t) (hb:yc X b u):PS X (.If c a b pos) (Sr tc t u):=by
 intro pins s σ H D I h
 refine wpAny_If (fm (hc pins s σ H _ I h) fun d s1 ⟨H1,I1,q1⟩=>?_)
 cases d with
 | true=>exact ha pins s1 σ H1 D I1 q1
 | false=>exact hb pins s1 σ H1 D I1 q1
def OO:TS:=fun _ _ _=>False
theorem mx {sts:List cw}:yc X sts OO:=fun _ _ _ _ _ _ h=>h.elim
end
abbrev TG:=V->St->Hp->(St->Hp->Prop)->Prop
abbrev H_:=List V->St->Hp->(St->Hp->Prop)->Prop
def PG (X:Cx) (target:aO) (t:TG):Prop :=
 ∀ (pins:List (aa×Obj)) (s:a9) (σ:St) (H:Hp) (v:V) (u:a7) (Q:St->Hp->Prop),bu X pins σ H s->df v u->t v σ H Q ->
  ao (aE X.prog X.w) X.A (oa target X.env u) (fun _ s'=>SN X pins Q s') X.xe s
def NB (X:Cx) (ts:List aO) (t:H_):Prop :=
 ∀ (pins:List (aa×Obj)) (s:a9) (σ:St) (H:Hp) (vs:List V) (us:List a7) (Q:St->Hp->Prop),bu X pins σ H s->cJ vs us->t vs σ H Q ->
  ao (aE X.prog X.w) X.A (assignInOrder ((gZ ts X.env).map (·.2)) us) (fun _ s'=>SN X pins Q s') X.xe s
section
variable {X:Cx}{pos:Pos}
def ux (i:Nat):TG:=fun v σ H Q=>Q (σ.set i (some v)) H
theorem cK {i:Nat}{x:Str} (hN:X.N.Nodup) (hi:X.N[i]?=some x) (hx:LP X.env.scope x) (hf:X.fn x=true\/X.env.scope.names.lookup x=some .local:=by first | exact .inl rfl | exact .inr rfl | assumption):PG X (.Name x pos) (ux i):=by
 intro pins s σ H v u Q I r h
 exact wpAny_assign_Name (vL I hN hi hx r (fun s' I'=>⟨_,H,I',h⟩) hf)
def aH:H_:=fun vs σ H Q=>vs=[]/\Q σ H
inductive Ia (t:TG) (u:H_) (vs:List V) (σ:St) (H:Hp) (Q:St->Hp->Prop):Prop
 | mk (v r:_) (h0:vs=v::r) (h1:t v σ H fun σ' H'=>u r σ' H' Q):Ia t u vs σ H Q
def ac (t:TG) (u:H_):H_:=Ia t u
theorem zi:NB X [] aH:=by
 intro pins s σ H vs us Q I r h
 obtain ⟨e,h⟩:=h
 subst e
 cases r
 exact assignInOrder_nil ⟨σ,H,I,h⟩
theorem oz {e:aO}{es:List aO}{t:TG}{u:H_} (h1:PG X e t) (h2:NB X es u)
  (hs:(gZ (e::es) X.env).map (·.2)=oa e X.env::(gZ es X.env).map (·.2):=by rfl):NB X (e::es) (ac t u):=by
 intro pins s σ H vs us Q I r h
 obtain ⟨v,vr,e1,h⟩:=h
 subst e1
 cases r with
 | cons r rr =>
  rw [hs]
  refine assignInOrder_cons (fm (h1 pins s σ H _ _ _ I r h) fun _ s1 ⟨σ1,H1,I1,q1⟩=>?_)
  exact h2 pins s1 σ1 H1 _ _ Q I1 rr q1
inductive NC (K:a5) (n:Nat) (t:H_) (v:V) (σ:St) (H:Hp) (Q:St->Hp->Prop):Prop
 | mk (a xs:_) (h0:v=.ref a) (h1:jN K H a xs) (h2:xs.length=n) (h3:t xs σ H Q):NC K n t v σ H Q
def OP (K:a5) (n:Nat) (t:H_):TG:=NC K n t
theorem D8 {es:List aO}{k:Nat}{t:H_}{n:Nat} (hc:X.calm=true) (h:NB X es t)
  (hn:(gZ es X.env).length=n:=by rfl) (hst:(gZ es X.env).findIdx? (·.1)=none:=by rfl):PG X (.Tuple es k pos) (OP X.K n t):=by
 intro pins s σ H v u Q I r hw
 obtain ⟨a,xs,e1,hq,hl,hw⟩:=hw
 subst e1
 cases r
 obtain ⟨its,rv,ht,hz⟩:=I.tuple hq
 refine assign_Tuple_tuple (I.ok.hd hc) ht (by simp [hn,<- hl,rv.length]) hst fun h' hx=>?_
 have I1:bu X pins σ H { s with heap:=h' }:=I.kept (t':=s.toks) fun b o e=>hx b o (az (aj e)) e
 exact h pins _ σ H xs _ Q I1 (by simpa using rv) hw
def Ql (te:TE) (g:TG):TS:=fun D σ H=>te σ H fun x H1=>g x σ H1 D.nx
theorem Ib {tg e:aO}{te:TE}{g:TG} (he:PE X e te) (hg:PG X tg g) (hs:swapsWithSole [tg] e pos.line X.env=pure false:=by rfl) (hw:swappedStores [tg] e X.env=pure none:=by rfl)
  (h1:(gZ [tg] X.env).map (·.2)=[oa tg X.env]:=by rfl):PS X (.Assign [tg] e pos) (Ql te g):=by
 intro pins s σ H D I h
 refine wpAny_Assign_stores (fm (he pins s σ H _ I h) fun v s1 ⟨x,H1,I1,r1,q1⟩=>?_) hs hw
 rw [h1]
 exact fm (hg pins s1 σ H1 x v _ I1 r1 q1) fun _ s2 q=>q
theorem vM {i:Nat}{x:Str}{e:aO}{te:TE}{pos':Pos} (hN:X.N.Nodup) (hi:X.N[i]?=some x) (hx:LP X.env.scope x) (he:PE X e te) (hs:fB e (some (.Name x pos')) pos.line X.env=pure false:=by rfl) (hf:X.fn x=true\/X.env.scope.names.lookup x=some .local:=by first | exact .inl rfl | exact .inr rfl | assumption) :
  PS X (.Assign [.Name x pos'] e pos) (Ql te (ux i)):=by
 intro pins s σ H D I h
 refine wpAny_Assign_Name (fm (he pins s σ H _ I h) fun v s1 ⟨y,H1,I1,r1,q1⟩=>?_) hs
 exact vL I1 hN hi hx r1 (fun s2 I2=>⟨_,H1,I2,q1⟩) hf
end
section
variable {X:Cx}{pos:Pos}
end
structure It where
 go:Nat->Hp->Prop
 yld:Nat->Hp->V->Hp->Prop
 stop:Nat->Hp->Prop
structure oA (X:Cx) (pins:List (aa×Obj)) (H:Hp) (b:aa):Prop where
 f0:H b=none
 f1:b≠X.env.locals
 f2:b∉X.fs
 f3:b∈X.ex\/X.s₀.heap.objs.size<=b
 f4:∀ x c,X.env.cells.lookup x=some c->c≠b
 f5:∀ p∈X.pn++pins,p.1≠b
theorem bu.fpOk {X:Cx}{pins:List (aa×Obj)}{σ:St}{H H':Hp}{s:a9}{b:aa} (I:bu X pins σ H s) (hb:s.heap.objs.size<=b) (hn:H' b=none):oA X pins H' b:=by
 refine ⟨hn,dO (aD I.lt hb),I.nofs hb,.inr (bE I.sz hb),fun x c e z=>?_,fun p hp z=>?_⟩
 ·obtain ⟨v,q⟩:=I.cell x c e
  exact absurd (aD q.lt (by rw [z];exact hb)) (bQ _)
 ·exact absurd (aD (aj (I.pin p hp).1) (by rw [z];exact hb)) (bQ _)
structure xq (P:aB) (w:aT) (K:a5) (tg:aO) (J:It) (fp:List aa) (it:aa) (tn:Nat->a_->Prop):Prop where
 mem:it∈fp
 obj:∀ i h,tn i h->∀ b∈fp,∃ o,h.get? b=some o/\∀ v,o.data≠.cell v
 keep:∀ i h h',tn i h->(∀ b∈fp,∀ o,h.get? b=some o->h'.get? b=some o)->tn i h'
 item:∀ (X:Cx),X.prog=P->X.w=w->X.K=K->X.calm=true->∀ (i:Nat) (pins:List (aa×Obj)) (s:a9) (σ:St) (H:Hp) (E:a7->a9->Prop),bu X pins σ H s->(∀ b∈fp,oA X pins H b)->tn i s.heap->J.go i H ->
  ao (aE P w) X.A (lP (.ref it)) (fun r s1=>∃ u,r=some u /\
   ao (aE P w) X.A (gd tg (.ref it) u) (fun _ s2=>∃ x H',bu X pins σ H' s2/\df x u/\J.yld i H x H'/\tn (i + 1) s2.heap/\∀ b∈fp,H' b=none) E s1) E s
 done:∀ (X:Cx),X.prog=P->X.w=w->X.K=K->X.calm=true->∀ (i:Nat) (pins:List (aa×Obj)) (s:a9) (σ:St) (H:Hp) (E:a7->a9->Prop),bu X pins σ H s->(∀ b∈fp,oA X pins H b)->tn i s.heap->J.stop i H ->
  ao (aE P w) X.A (lP (.ref it)) (fun r s1=>r=none/\bu X pins σ H s1) E s
 self:∀ (A:aP) (i:Nat) (s:a9) (Q:a7->a9->Prop) (E:a7->a9->Prop),tn i s.heap->Q (.ref it) s->ao (aE P w) A (y_ (.ref it)) Q E s
abbrev TI:=St->Hp->(It->Hp->Prop)->Prop
inductive Ss (X:Cx) (pins:List (aa×Obj)) (σ:St) (tg:aO) (R:It->Hp->Prop) (itv:a7) (s2:a9):Prop
 | mk (it:aa) (fp:List aa) (tn:Nat->a_->Prop) (J:It) (H':Hp) (h0:itv=.ref it) (I:bu X pins σ H' s2) (T:xq X.prog X.w X.K tg J fp it tn) (t0:tn 0 s2.heap) (f:∀ b∈fp,oA X pins H' b) (q:R J H'):Ss X pins σ tg R itv s2
inductive Su (X:Cx) (pins:List (aa×Obj)) (tn:Nat->a_->Prop) (fp:List aa) (W:Nat->Nat->St->Hp->Prop) (n:Nat) (s':a9):Prop
 | mk (i:Nat) (σ':St) (H':Hp) (I:bu X pins σ' H' s') (t:tn i s'.heap) (f:∀ b∈fp,H' b=none) (q:W i n σ' H'):Su X pins tn fp W n s'
def PI (X:Cx) (tg iter:aO) (wi:TI):Prop :=
 ∀ (pins:List (aa×Obj)) (s:a9) (σ:St) (H:Hp) (R:It->Hp->Prop),bu X pins σ H s->wi σ H R ->
  ao (aE X.prog X.w) X.A (cp iter X.env) (fun v s1=>ao (aE X.prog X.w) X.A (y_ v) (Ss X pins σ tg R) X.xe s1) X.xe s
theorem Ic {M : vd} {A : aP} {E : a7 -> a9 -> Prop} {s : a9} {tg : aO} {it : aa} {u : a7} {o : Obj} {n : String} {vs : Array a7} {Q : Unit -> a9 -> Prop} (ho : s.heap.get? it = some o) (hc : o.cls = .type n) (hd : o.data = .fields vs)
    (hn : ["enumerate", "zip", "dict_itemiterator", "dict_reverseitemiterator", "odict_iterator", "itertools.zip_longest", "itertools.pairwise"].contains n = false) (hQ : Q () s) : ao M A (gd tg (.ref it) u) Q E s := by
  unfold gd
  cases tg <;> first
    | exact af hQ
    | (cases u <;> first
        | exact af hQ
        | (refine a6 (wpAny_load ho ?_)
           rw [hc, hd]
           show ao M A (if (["enumerate", "zip", "dict_itemiterator", "dict_reverseitemiterator", "odict_iterator", "itertools.zip_longest", "itertools.pairwise"].contains n && vs[0]? == some (cb _)) = true then _ else _) Q E s
           rw [if_neg (by intro h; rw [hn, xU] at h; cases h)]
           exact af hQ))
def Sv (K:a5) (a:aa):It :=
 ⟨fun i H=>∃ xs x,l5 K H a xs/\xs[i]?=some x,fun i H x H'=>H'=H/\∀ xs,l5 K H a xs->xs[i]?=some x,fun i H=>∃ xs,l5 K H a xs/\xs.length<=i⟩
def Sw (K:a5) (a:aa):It :=
 ⟨fun i H=>∃ xs x,jN K H a xs/\xs[i]?=some x,fun i H x H'=>H'=H/\∀ xs,jN K H a xs->xs[i]?=some x,fun i H=>∃ xs,jN K H a xs/\xs.length<=i⟩
def S2 (lo:Int) (n:Nat):It:=⟨fun i _=>i<n,fun i H x H'=>H'=H/\x=.int (lo + i),fun i _=>n<=i⟩
theorem G0 {P:aB}{w:aT}{K:a5}{tg:aO} (a it:aa):xq P w K tg (Sv K a) [it] it (fun i h=>h.IsListIter it a i) where
 mem:=by simp
 obj:=fun i h st b hb=>by
  have e:b=it:=by simpa using hb
  subst e
  obtain ⟨o,e,c,d⟩:=st
  exact ⟨o,e,fun v z=>by rw [d] at z;cases z⟩
 keep:=fun i h h' st k=>st.at fun o e=>k it (by simp) o e
 item:=by
  intro X hP hw hK hc i pins s σ H E I hf st hg
  subst hP hw hK
  obtain ⟨xs,x,hq,hx⟩:=hg
  obtain ⟨its,rv,p,hz⟩:=I.list hq
  obtain ⟨u,hu,ru⟩:=rv.get hx
  obtain ⟨f0,f1,f2,f3,f4,f5⟩:=hf it (by simp)
  refine wpAny_pyNext_list_item st p.isList (x:=u) (by simpa using hu) fun h' st' sb=>?_
  have I1:bu X pins σ H { s with heap:=h' }:=I.turned (t':=s.toks) (fun b o hb e=>(sb.2 b hb).trans e) f0 f1 f3 f4 f5
  obtain ⟨o,e,c,d⟩:=id st'
  exact ⟨u,rfl,Ic (s:={ s with heap:=h' }) e c d (by decide) ⟨x,H,I1,ru,⟨rfl,fun ys hy=>by rw [I.list_inj hy hq];exact hx⟩,st',fun b hb=>(hf b hb).1⟩⟩
 done:=by
  intro X hP hw hK hc i pins s σ H E I hf st hg
  subst hP hw hK
  obtain ⟨xs,hq,hx⟩:=hg
  obtain ⟨its,rv,p,hz⟩:=I.list hq
  obtain ⟨f0,f1,f2,f3,f4,f5⟩:=hf it (by simp)
  have hl:=rv.length
  exact wpAny_pyNext_list_end (I.ok.hd hc) st p.isList (by simp;omega) fun h' eb=>⟨rfl,I.turned (t':=s.toks) (fun b o hb e=>eb b o hb e) f0 f1 f3 f4 f5⟩
 self:=fun _ _ _ _ _ st h=>wpAny_pyIter_listiter st h
theorem D9 {P:aB}{w:aT}{K:a5}{tg:aO} (a it:aa):xq P w K tg (Sw K a) [it] it (fun i h=>h.IsTupleIter it a i) where
 mem:=by simp
 obj:=fun i h st b hb=>by
  have e:b=it:=by simpa using hb
  subst e
  obtain ⟨o,e,c,d⟩:=st
  exact ⟨o,e,fun v z=>by rw [d] at z;cases z⟩
 keep:=fun i h h' st k=>st.at fun o e=>k it (by simp) o e
 item:=by
  intro X hP hw hK hc i pins s σ H E I hf st hg
  subst hP hw hK
  obtain ⟨xs,x,hq,hx⟩:=hg
  obtain ⟨its,rv,p,hz⟩:=I.tuple hq
  obtain ⟨u,hu,ru⟩:=rv.get hx
  obtain ⟨f0,f1,f2,f3,f4,f5⟩:=hf it (by simp)
  refine wpAny_pyNext_tuple_item st (show s.heap.IsTuple a its.toArray from p) (x:=u) (by simpa using hu) fun h' st' sb=>?_
  have I1:bu X pins σ H { s with heap:=h' }:=I.turned (t':=s.toks) (fun b o hb e=>(sb.2 b hb).trans e) f0 f1 f3 f4 f5
  obtain ⟨o,e,c,d⟩:=id st'
  exact ⟨u,rfl,Ic (s:={ s with heap:=h' }) e c d (by decide) ⟨x,H,I1,ru,⟨rfl,fun ys hy=>by rw [I.tuple_inj hy hq];exact hx⟩,st',fun b hb=>(hf b hb).1⟩⟩
 done:=by
  intro X hP hw hK hc i pins s σ H E I hf st hg
  subst hP hw hK
  obtain ⟨xs,hq,hx⟩:=hg
  obtain ⟨its,rv,p,hz⟩:=I.tuple hq
  obtain ⟨f0,f1,f2,f3,f4,f5⟩:=hf it (by simp)
  have hl:=rv.length
  exact wpAny_pyNext_tuple_end (I.ok.hd hc) st (show s.heap.IsTuple a its.toArray from p) (by simp;omega) fun h' eb=>⟨rfl,I.turned (t':=s.toks) (fun b o hb e=>eb b o hb e) f0 f1 f3 f4 f5⟩
 self:=fun _ _ _ _ _ st h=>wpAny_pyIter_tupleiter st h
theorem Da {P:aB}{w:aT}{K:a5}{tg:aO} (it:aa) (lo:Int) (n:Nat):xq P w K tg (S2 lo n) [it] it (fun i h=>IsRangeIter h it (lo + (i:Nat) * 1) ((n:Int) - (i:Nat)) 1) where
 mem:=by simp
 obj:=fun i h st b hb=>by
  have e:b=it:=by simpa using hb
  subst e
  exact ⟨_,st,fun v z=>by
   have z':Data.fields _=Data.cell v:=z
   cases z'⟩
 keep:=fun i h h' st k=>k it (by simp) _ st
 item:=by
  intro X hP hw hK hc i pins s σ H E I hf st hg
  subst hP hw hK
  obtain ⟨f0,f1,f2,f3,f4,f5⟩:=hf it (by simp)
  have W:=Walks.range (prog:=X.prog) (w:=X.w) (I.ok.hd hc) it lo 1 n
  refine W.item i s _ _ hg st fun v h' tk hv st' kk=>?_
  obtain ⟨t,rfl⟩:=hv
  have I1:bu X pins σ H { s with heap:=h',toks:=tk }:=I.turned (fun b o hb e=>kk b o (by simpa using hb) e) f0 f1 f3 f4 f5
  refine ⟨_,rfl,Ic (s:={ s with heap:=h',toks:=tk }) (n:="range_iterator") st' rfl rfl (by decide) ⟨.int (lo + i),H,I1,⟨t,?_⟩,⟨rfl,rfl⟩,st',fun b hb=>(hf b hb).1⟩⟩
  rw [Int.mul_one]
 done:=by
  intro X hP hw hK hc i pins s σ H E I hf st hg
  subst hP hw hK
  obtain ⟨f0,f1,f2,f3,f4,f5⟩:=hf it (by simp)
  exact wpAny_pyNext_range_end (I.ok.hd hc) st (by have:n<=i:=hg;omega) fun h' eb=>⟨rfl,I.turned (t':=s.toks) (fun b o hb e=>eb b o hb e) f0 f1 f3 f4 f5⟩
 self:=fun _ _ _ _ _ st h=>wpAny_pyIter_rangeiter st h
end L2
namespace L2
open PySem PySem.Spec PyProof.Rows
section
variable {X:Cx}{tg:aO}
def Qm (K:a5) (tl:TE):TI:=fun σ H R=>tl σ H fun x H1=>∃ a,x=.ref a/\(∃ xs,l5 K H1 a xs)/\R (Sv K a) H1
def Sx (K:a5) (tl:TE):TI:=fun σ H R=>tl σ H fun x H1=>∃ a,x=.ref a/\(∃ xs,jN K H1 a xs)/\R (Sw K a) H1
theorem vj {l:aO}{tl:TE} (hl:PE X l tl):PI X tg l (Qm X.K tl):=by
 intro pins s σ H R I h
 refine fm (hl pins s σ H _ I h) fun v s1 h_16=>?_
 obtain ⟨x,H1,I1,r1,q1⟩:=h_16
 obtain ⟨a,e,⟨xs,hq⟩,q⟩:=q1
 subst e
 cases r1
 obtain ⟨its,rv,p,hz⟩:=I1.list hq
 refine ii p.isList ?_
 refine ⟨s1.heap.objs.size,[s1.heap.objs.size],_,_,H1,rfl,I1.kept (t':=s1.toks) fun b o e=>a8 _ e,G0 a _,⟨_,ax _ rfl,rfl,rfl⟩,fun b hb=>?_,q⟩
 have e:b=s1.heap.objs.size:=by simpa using hb
 subst e
 exact I1.fpOk (ar _) (I1.hok.fresh (ar _))
theorem Ie {l:aO}{tl:TE} (hl:PE X l tl):PI X tg l (Sx X.K tl):=by
 intro pins s σ H R I h
 refine fm (hl pins s σ H _ I h) fun v s1 h_17=>?_
 obtain ⟨x,H1,I1,r1,q1⟩:=h_17
 obtain ⟨a,e,⟨xs,hq⟩,q⟩:=q1
 subst e
 cases r1
 obtain ⟨its,rv,p,hz⟩:=I1.tuple hq
 refine fH (show s1.heap.IsTuple a its.toArray from p) ?_
 refine ⟨s1.heap.objs.size,[s1.heap.objs.size],_,_,H1,rfl,I1.kept (t':=s1.toks) fun b o e=>a8 _ e,D9 a _,⟨_,ax _ rfl,rfl,rfl⟩,fun b hb=>?_,q⟩
 have e:b=s1.heap.objs.size:=by simpa using hb
 subst e
 exact I1.fpOk (ar _) (I1.hok.fresh (ar _))
theorem Ig {pins:List (aa×Obj)}{σ:St}{H:Hp}{s:a9}{R:It->Hp->Prop}{E:a7->a9->Prop}{lo hi:Int}{t u v:Tok}{tk:Nat} (I:bu X pins σ H s) (h1:-(2 ^ 62)<=lo) (h2:lo<2 ^ 62) (h3:-(2 ^ 62)<=hi) (h4:hi<2 ^ 62)
  (q:R (S2 lo (hi - lo).toNat) H):ao (aE X.prog X.w) X.A (y_ (.ref s.heap.objs.size)) (Ss X pins σ tg R) E { s with heap:=s.heap.push { cls:=.type "range",data:=.fields #[.int lo t,.int hi u,.int 1 v] },toks:=tk }:=by
 refine wpAny_pyIter_range (IsRange.new ..) (small_one h1 h2 h3 h4) ?_
 have I1:bu X pins σ H { s with heap:=s.heap.push { cls:=.type "range",data:=.fields #[.int lo t,.int hi u,.int 1 v] },toks:=tk }:=I.kept fun b o e=>a8 _ e
 refine ⟨(s.heap.push { cls:=.type "range",data:=.fields #[.int lo t,.int hi u,.int 1 v] }).objs.size,[(s.heap.push { cls:=.type "range",data:=.fields #[.int lo t,.int hi u,.int 1 v] }).objs.size],_,_,H,rfl,
  I1.kept (t':=tk) fun b o e=>a8 _ e,Da _ lo (hi - lo).toNat,?_,fun b hb=>?_,q⟩
 ·have e1:lo + ((0:Nat):Int) * 1=lo:=by simp
  have e2:(((hi - lo).toNat:Nat):Int) - ((0:Nat):Int)=Builtin.Range.rangeSize lo hi 1:=by rw [rangeSize_one];split<;>omega
  show IsRangeIter _ _ (lo + ((0:Nat):Int) * 1) ((((hi - lo).toNat:Nat):Int) - ((0:Nat):Int)) 1
  rw [e1,e2]
  exact ax _ rfl
 ·have e:b=(s.heap.push { cls:=.type "range",data:=.fields #[.int lo t,.int hi u,.int 1 v] }).objs.size:=by simpa using hb
  subst e
  exact I1.fpOk (ar _) (I1.hok.fresh (ar _))
def Qn (ta:TA):TI:=fun σ H R=>ta σ H fun vs H1=>∃ j:Int,vs=[.int j]/\-(2 ^ 62)<=j/\j<2 ^ 62/\R (S2 0 j.toNat) H1
theorem G1 {a:aO}{ta:TA}{p pos:Pos} (hg:Gl X "range") (hm:X.mg "range"=none) (ha:PA X [a] ta) (hs:ak [a] X.env=[(false,cp a X.env)]:=by rfl):PI X tg (.Call (.Name "range" p) [a] [] pos) (Qn ta):=by
 intro pins s σ H R I h
 refine Call_ (qN I hg hm boot_range (eB (fm (ha pos pins s σ H _ I h) fun us s1 ⟨vs,H1,I1,r1,q1⟩=>?_) hs rfl))
 obtain ⟨j,e,q1,q2,q⟩:=q1
 subst e
 cases r1 with
 | cons r rr =>
  cases rr
  obtain ⟨t,rfl⟩:=r
  exact call_range_1 (Ig I1 (by omega) (by omega) q1 q2 (by simpa using q))
inductive Sy (g:TG) (tb:TS) (D:qM) (σ:St) (J:It) (H1:Hp):Prop
 | mk (W:Nat->Nat->St->Hp->Prop) (w0:∃ m,W 0 m σ H1) (turn:∀ i m σ H,W i m σ H ->
 (J.stop i H/\D.nx σ H)\/(J.go i H/\∃ N:St->Hp->Prop,(∀ σ' H',N σ' H'->∃ m',m'<m/\W (i + 1) m' σ' H')/\∀ x H',J.yld i H x H'->g x σ H' fun σ2 H2=>tb { D with nx:=N,ct:=N,bk:=D.nx } σ2 H2)):Sy g tb D σ J H1
def Sz (wi:TI) (g:TG) (tb:TS):TS:=fun D σ H=>wi σ H (Sy g tb D σ)
def tU (fp:List aa) (h:a_):List (aa×Obj):=fp.filterMap fun b=>(h.get? b).map fun o=>(b,o)
theorem ji {fp:List aa}{h:a_}{b:aa}{o:Obj} (hb:b∈fp) (e:h.get? b=some o):(b,o)∈tU fp h:=List.mem_filterMap.mpr ⟨b,hb,by rw [e];rfl⟩
theorem G3 {fp:List aa}{h:a_}{p:aa×Obj} (hp:p∈tU fp h):p.1∈fp/\h.get? p.1=some p.2:=by
 obtain ⟨b,hb,e⟩:=List.mem_filterMap.mp hp
 cases q:h.get? b with
 | none=>rw [q] at e;cases e
 | some o =>
  rw [q] at e
  have e':(b,o)=p:=bw e
  subst e'
  exact ⟨hb,q⟩
theorem bu.pinned {pins:List (aa×Obj)}{σ:St}{H:Hp}{s:a9}{fp:List aa} (I:bu X pins σ H s) (hf:∀ b∈fp,oA X pins H b) (ho:∀ b∈fp,∃ o,s.heap.get? b=some o/\∀ v,o.data≠.cell v):bu X (pins++tU fp s.heap) σ H s :=
 I.pins_of fun p hp=>(List.mem_append.mp hp).elim (fun z=>I.pin p (aM _ z)) fun z=>by
  obtain ⟨hb,e⟩:=G3 z
  obtain ⟨f0,f1,f2,_⟩:=hf p.1 hb
  obtain ⟨o,e',d⟩:=ho p.1 hb
  rw [e] at e';cases e'
  exact ⟨e,f0,f1,f2,d⟩
theorem bu.unpinned {pins pl:List (aa×Obj)}{σ:St}{H:Hp}{s:a9} (I:bu X (pins++pl) σ H s):bu X pins σ H s:=I.pins_of fun p hp=>I.pin p (aM _ (dC _ hp))
theorem OQ {iter:aO}{body:List cw}{wi:TI}{g:TG}{tb:TS}{pos:Pos} (hp:PassesOwn (aE X.prog X.w) X.A X.env X.xe) (hc:X.calm=true) (hi:PI X tg iter wi) (hg:PG X tg g) (hb:yc X body tb)
  (hs:∀ x,dm iter X.env x=pure x:=by intro _;rfl):PS X (.For tg iter body [] pos) (Sz wi g tb):=by
 intro pins s σ H D I h
 refine wpAny_For (fm (hi pins s σ H _ I h) fun v s1 h1=>fm h1 fun itv s2 h2=>?_) hs
 obtain ⟨it,fp,tn,J,H2,e,I2,T,st2,f2,W,⟨m0,w0⟩,turn⟩:=h2
 subst e
 have stat:∀ {H':Hp},(∀ b∈fp,H' b=none)->∀ b∈fp,oA X pins H' b:=fun hn b hb=>⟨hn b hb,(f2 b hb).f1,(f2 b hb).f2,(f2 b hb).f3,(f2 b hb).f4,(f2 b hb).f5⟩
 refine codeAny_forLoop_any (Su X pins tn fp W) ?_ m0 ⟨0,σ,H2,I2,st2,fun b hb=>(f2 b hb).1,w0⟩
 rintro n s3 ⟨i,σ3,H3,I3,st3,fr3,w3⟩
 rcases turn i n σ3 H3 w3 with ⟨stop,qn⟩ | ⟨go,N,hN,step⟩
 ·refine lQ hp (fm (T.done X rfl rfl rfl hc i pins s3 σ3 H3 X.xe I3 (stat fr3) st3 stop) fun r s4 ⟨hr,I4⟩=>?_)
  subst hr
  exact lO ⟨σ3,H3,I4,qn⟩
 ·refine lQ hp (fm (T.item X rfl rfl rfl hc i pins s3 σ3 H3 X.xe I3 (stat fr3) st3 go) fun r s4 ⟨u,hr,h4⟩=>?_)
  subst hr
  refine lQ hp (fm h4 fun _ s5 ⟨x,H5,I5,r5,y5,st5,fr5⟩=>?_)
  have I5':=I5.pinned (stat fr5) (T.obj _ _ st5)
  refine lQ hp (fm (hg _ s5 σ3 H5 x u _ I5' r5 (step x H5 y5)) fun _ s6 ⟨σ6,H6,I6,q6⟩=>?_)
  refine lQ hp (fm (hb _ s6 σ6 H6 _ I6 q6) fun f s7 q7=>?_)
  have again:∀ {σ7:St}{H7:Hp},bu X (pins++tU fp s5.heap) σ7 H7 s7->N σ7 H7->∃ m,m<n/\Su X pins tn fp W m s7:=fun {σ7 H7} I7 n7=>by
   obtain ⟨m',hm,w7⟩:=hN σ7 H7 n7
   refine ⟨m',hm,i + 1,σ7,H7,I7.unpinned,T.keep _ _ _ st5 fun b hb o e=>(I7.pin (b,o) (aM _ (aM _ (ji hb e)))).1,fun b hb=>?_,w7⟩
   obtain ⟨o,e,d⟩:=T.obj _ _ st5 b hb
   exact (I7.pin (b,o) (aM _ (aM _ (ji hb e)))).2.1
  cases f with
  | next=>obtain ⟨σ7,H7,I7,n7⟩:=q7;exact again I7 n7
  | cont=>obtain ⟨σ7,H7,I7,n7⟩:=q7;exact again I7 n7
  | brk=>obtain ⟨σ7,H7,I7,q7⟩:=q7;exact ⟨σ7,H7,I7.unpinned,q7⟩
  | ret v=>obtain ⟨x7,σ7,H7,I7,r7,q7⟩:=q7;exact ⟨x7,σ7,H7,I7.unpinned,r7,q7⟩
end
end L2
namespace L2
open PySem PySem.Spec PyProof.Rows
abbrev R2:=V->V->Hp->VK->Prop
def o9 (X:Cx) (f:a7->a7->Sem a7) (r:R2):Prop :=
 ∀ (pins:List (aa×Obj)) (s:a9) (σ:St) (H:Hp) (x y:V) (v u:a7) (Q:VK),bu X pins σ H s->df x v->df y u->r x y H Q ->
  ao (aE X.prog X.w) X.A (f v u) (EP X pins σ Q) X.xe s
def SA (X:Cx) (f:a7->Sem a7) (r:V->Hp->VK->Prop):Prop :=
 ∀ (pins:List (aa×Obj)) (s:a9) (σ:St) (H:Hp) (x:V) (v:a7) (Q:VK),bu X pins σ H s->df x v->r x H Q ->
  ao (aE X.prog X.w) X.A (f v) (EP X pins σ Q) X.xe s
def iM (X:Cx) (f:a7) (r:List V->Hp->VK->Prop):Prop :=
 ∀ (pins:List (aa×Obj)) (s:a9) (σ:St) (H:Hp) (xs:List V) (us:List a7) (Q:VK),bu X pins σ H s->cJ xs us->r xs H Q ->
  ao (aE X.prog X.w) X.A (call f us) (EP X pins σ Q) X.xe s
def Qo (r:R2) (ta tb:TE):TE:=fun σ H Q=>ta σ H fun x H1=>tb σ H1 fun y H2=>r x y H2 Q
def Uc (r:V->Hp->VK->Prop) (ta:TE):TE:=fun σ H Q=>ta σ H fun x H1=>r x H1 Q
inductive Tz (C:Int->Int->Prop) (g:Int->Int->V) (x:V) (y:V) (H:Hp) (Q:VK):Prop
 | mk (i j:_) (h0:x=.int i) (h1:y=.int j) (h2:C i j) (h3:Q (g i j) H):Tz C g x y H Q
def rI (C:Int->Int->Prop) (g:Int->Int->V):R2:=Tz C g
inductive Qp (g:Int->Int->V) (x:V) (y:V) (H:Hp) (Q:VK):Prop
 | mk (i j:_) (h0:x=.int i) (h1:y=.int j) (h2:Q (g i j) H):Qp g x y H Q
def OR (g:Int->Int->V):R2:=Qp g
inductive TC (g:Int->V) (x:V) (H:Hp) (Q:VK):Prop
 | mk (i:_) (h0:x=.int i) (h1:Q (g i) H):TC g x H Q
def rU (g:Int->V):V->Hp->VK->Prop:=TC g
section
variable {X:Cx}{a b c:aO}{ta tb tc:TE}{pos:Pos}
theorem OS (ha:PE X a ta) (hb:PE X b tb) {pins:List (aa×Obj)}{s:a9}{σ:St}{H:Hp}{R:V->V->Hp->Prop} (I:bu X pins σ H s)
  (h:ta σ H fun x H1=>tb σ H1 fun y H2=>R x y H2) {Q:a7->a9->Prop}{f:a7->a7->Sem a7}
  (hf:∀ v u s2 x y H2,bu X pins σ H2 s2->df x v->df y u->R x y H2->ao (aE X.prog X.w) X.A (f v u) Q X.xe s2) :
  ao (aE X.prog X.w) X.A (cp a X.env) (fun v s₁=>ao (aE X.prog X.w) X.A (cp b X.env) (fun u s₂=>ao (aE X.prog X.w) X.A (f v u) Q X.xe s₂) X.xe s₁) X.xe s:=by
 refine fm (ha pins s σ H _ I h) fun v s1 h_19=>?_
 obtain ⟨x,H1,I1,r1,q1⟩:=h_19
 refine fm (hb pins s1 σ H1 _ I1 q1) fun u s2 h_20=>?_
 obtain ⟨y,H2,I2,r2,q2⟩:=h_20
 exact hf v u s2 x y H2 I2 r1 r2 q2
theorem ND {op:Operator}{r:R2} (ho:o9 X (gq op) r) (ha:PE X a ta) (hb:PE X b tb):PE X (.BinOp a op b pos) (Qo r ta tb):=by
 intro pins s σ H Q I h
 exact wpAny_BinOp (OS ha hb I h fun v u s2 x y H2 I2 rx ry q=>ho pins s2 σ H2 x y v u Q I2 rx ry q)
theorem Qq {op:UnaryOp}{r:V->Hp->VK->Prop} (ho:SA X (unaryOp op) r) (ha:PE X a ta):PE X (.UnaryOp op a pos) (Uc r ta):=by
 intro pins s σ H Q I h
 exact UnaryOp_ (fm (ha pins s σ H _ I h) fun v s1 h_21=>by obtain ⟨x,H1,I1,r1,q1⟩:=h_21;exact ho pins s1 σ H1 x v Q I1 r1 q1)
theorem SB {f:a7->a7->Sem a7}{C:Int->Int->Prop}{g:Int->Int->Int}
  (rule:∀ (i j:Int) (t u:Tok) (s:a9) (Q:a7->a9->Prop) (E:a7->a9->Prop),C i j->Q (.int (g i j) s.toks) { s with toks:=s.toks + 1 }->ao (aE X.prog X.w) X.A (f (.int i t) (.int j u)) Q E s) :
  o9 X f (rI C fun i j=>.int (g i j)):=by
 intro pins s σ H x y v u Q I rx ry h
 obtain ⟨i,j,rfl,rfl,hc,q⟩:=h
 obtain ⟨t,rfl⟩:=rx
 obtain ⟨t',rfl⟩:=ry
 exact rule i j t t' s _ _ hc ⟨.int (g i j),H,I.tok _,⟨_,rfl⟩,q⟩
theorem SC {f:a7->a7->Sem a7}{g:Int->Int->Int}
  (rule:∀ (i j:Int) (t u:Tok) (s:a9) (Q:a7->a9->Prop) (E:a7->a9->Prop),Q (.int (g i j) s.toks) { s with toks:=s.toks + 1 }->ao (aE X.prog X.w) X.A (f (.int i t) (.int j u)) Q E s) :
  o9 X f (OR fun i j=>.int (g i j)):=by
 intro pins s σ H x y v u Q I rx ry h
 obtain ⟨i,j,rfl,rfl,q⟩:=h
 obtain ⟨t,rfl⟩:=rx
 obtain ⟨t',rfl⟩:=ry
 exact rule i j t t' s _ _ ⟨.int (g i j),H,I.tok _,⟨_,rfl⟩,q⟩
theorem OT {f:a7->a7->Sem a7}{g:Int->Int->Bool}
  (rule:∀ (i j:Int) (t u:Tok) (s:a9) (Q:a7->a9->Prop) (E:a7->a9->Prop),Q (.bool (g i j)) s->ao (aE X.prog X.w) X.A (f (.int i t) (.int j u)) Q E s) :
  o9 X f (OR fun i j=>.bl (g i j)):=by
 intro pins s σ H x y v u Q I rx ry h
 obtain ⟨i,j,rfl,rfl,q⟩:=h
 obtain ⟨t,rfl⟩:=rx
 obtain ⟨t',rfl⟩:=ry
 exact rule i j t t' s _ _ ⟨.bl (g i j),H,I,rfl,q⟩
def SD (i j:Int):Prop:=0<j/\j<1073741824
def OU (i j:Int):Prop:=(-(2 ^ 64)<i/\i<2 ^ 64)\/(-(2 ^ 64)<j/\j<2 ^ 64)
theorem OU.ok {i j:Int} (h:OU i j):IntMulOk i j:=by
 rcases h with ⟨h1,h2⟩ | ⟨h1,h2⟩
 ·exact .of_left (intBits_le_64 h1 h2)
 ·exact .of_right (intBits_le_64 h1 h2)
theorem OV:o9 X (gq .Add) (OR fun i j=>.int (i + j)):=SC fun _ _ _ _ _ _ _ q=>add_int q
theorem OW:o9 X (gq .Mult) (rI OU fun i j=>.int (i * j)):=SB fun _ _ _ _ _ _ _ hc q=>mul_int q hc.ok
theorem LR:o9 X (gq .FloorDiv) (rI SD fun i j=>.int (i / j)):=SB fun i j _ _ _ _ _ hc q=>by
 have h1:(0:Int)<j:=hc.1
 have h2:j<1073741824:=hc.2
 exact floordiv_int (by omega) (by rw [Int.fdiv_eq_ediv_of_nonneg i (by omega)];exact q) (.inl (PyProof.noPylong_small (by omega)))
theorem OX:o9 X (gq .Mod) (rI (fun _ j=>0<j) fun i j=>.int (i % j)):=SB fun i j _ _ _ _ _ hc q=>by
 have h1:(0:Int)<j:=hc
 exact mod_int' (by omega) (by rw [Int.fmod_eq_emod_of_nonneg i (by omega)];exact q)
theorem Ud {f:a7->Sem a7}{g:Int->Int}
  (rule:∀ (i:Int) (t:Tok) (s:a9) (Q:a7->a9->Prop) (E:a7->a9->Prop),Q (.int (g i) s.toks) { s with toks:=s.toks + 1 }->ao (aE X.prog X.w) X.A (f (.int i t)) Q E s) :
  SA X f (rU fun i=>.int (g i)):=by
 intro pins s σ H x v Q I rx h
 obtain ⟨i,rfl,q⟩:=h
 obtain ⟨t,rfl⟩:=rx
 exact rule i t s _ _ ⟨.int (g i),H,I.tok _,⟨_,rfl⟩,q⟩
theorem OY:SA X (unaryOp .USub) (rU fun i=>.int (-i)):=Ud fun _ _ _ _ _ q=>neg_int q
end
def SE:V->V->Bool
 | .non,.non=>true | .non,.int _=>true | .int _,.non=>true | .non,.bl _=>true | .bl _,.non=>true | .non,.str _=>true | .str _,.non=>true
 | .int _,.int _=>true | .bl _,.bl _=>true | .str _,.str _=>true | .byt _,.byt _=>true
 | .int _,.str _=>true | .str _,.int _=>true | .bl _,.str _=>true | .str _,.bl _=>true
 | _,_=>false
def Ue:R2:=fun x y H Q=>SE x y=true/\Q (.bl (!decide (x=y))) H
theorem LS {i j:Int}:decide (V.int i=V.int j)=(i == j):=by
 rw [gP]
 simp
theorem OZ {i j:Bool}:decide (V.bl i=V.bl j)=(i == j):=by
 rw [gP]
 simp
theorem LU {i j:Str}:decide (V.str i=V.str j)=(i == j):=by
 rw [gP]
 simp
theorem LV {i j:Array UInt8}:decide (V.byt i=V.byt j)=(i.toList == j.toList):=by
 rw [gP]
 cases i
 cases j
 simp
section
variable {X:Cx}{a b c:aO}{ta tb tc:TE}{pos:Pos}
theorem gN {pins:List (aa×Obj)}{σ:St}{H:Hp}{s:a9}{Q:VK}{k k':Bool} (I:bu X pins σ H s) (q:Q (.bl k) H) (e:k=k'):EP X pins σ Q (.bool k') s:=by
 subst e
 exact ⟨.bl k,H,I,rfl,q⟩
theorem Qr:o9 X (bI .NotEq) Ue:=by
 intro pins s σ H x y v u Q I rx ry h
 obtain ⟨hs,q⟩:=h
 cases x with
 | non =>
  cases rx
  cases y with
  | non=>cases ry;exact PySem.EqNone.ne_none_none (gN I q (by simp))
  | bl j=>cases ry;exact PySem.EqNone.ne_none_bool (gN I q (by simp))
  | int j=>obtain ⟨t',rfl⟩:=ry;exact PySem.EqNone.ne_none_int (gN I q (by simp))
  | str j=>obtain ⟨t',rfl⟩:=ry;exact PySem.EqNone.ne_none_str (gN I q (by simp))
  | _=>exact absurd (show false=true from hs) aL
 | bl i =>
  cases rx
  cases y with
  | non=>cases ry;exact PySem.EqNone.ne_bool_none (gN I q (by simp))
  | bl j=>cases ry;exact ne_bool (gN I q (congrArg not OZ))
  | str j=>obtain ⟨t',rfl⟩:=ry;exact PySem.EqMixed.ne_bool_str (gN I q (by simp))
  | _=>exact absurd (show false=true from hs) aL
 | int i =>
  obtain ⟨t,rfl⟩:=rx
  cases y with
  | non=>cases ry;exact PySem.EqNone.ne_int_none (gN I q (by simp))
  | int j=>obtain ⟨t',rfl⟩:=ry;exact ne_int (gN I q (congrArg not LS))
  | str j=>obtain ⟨t',rfl⟩:=ry;exact PySem.EqMixed.ne_int_str (gN I q (by simp))
  | _=>exact absurd (show false=true from hs) aL
 | str i =>
  obtain ⟨t,rfl⟩:=rx
  cases y with
  | non=>cases ry;exact PySem.EqNone.ne_str_none (gN I q (by simp))
  | bl j=>cases ry;exact PySem.EqMixed.ne_str_bool (gN I q (by simp))
  | int j=>obtain ⟨t',rfl⟩:=ry;exact PySem.EqMixed.ne_str_int (gN I q (by simp))
  | str j=>obtain ⟨t',rfl⟩:=ry;exact ne_str (gN I q (congrArg not LU))
  | _=>exact absurd (show false=true from hs) aL
 | byt i =>
  obtain ⟨t,rfl⟩:=rx
  cases y with
  | byt j=>obtain ⟨t',rfl⟩:=ry;exact PySem.W.ne_bytes (gN I q (congrArg not LV))
  | _=>exact absurd (show false=true from hs) aL
 | _=>cases y<;>exact absurd (show false=true from hs) aL
theorem Qs:o9 X (bI .Lt) (OR fun i j=>.bl (decide (i<j))):=OT fun _ _ _ _ _ _ _ q=>lt_int q
theorem Qt:o9 X (bI .LtE) (OR fun i j=>.bl (decide (i<=j))):=OT fun _ _ _ _ _ _ _ q=>le_int q
theorem Qu:o9 X (bI .Gt) (OR fun i j=>.bl (decide (j<i))):=OT fun _ _ _ _ _ _ _ q=>gt_int q
theorem G4:o9 X (bI .Lt) (fun x y H Q=>∃ i j,x=.str i/\y=.str j/\Q (.bl (decide (i.cps.toList<j.cps.toList))) H):=by
 intro pins s σ H x y v u Q I rx ry h
 obtain ⟨i,j,rfl,rfl,q⟩:=h
 obtain ⟨t,rfl⟩:=rx
 obtain ⟨t',rfl⟩:=ry
 exact lt_str (gN I q rfl)
theorem LW:o9 X (bI .IsNot) (fun x y H Q=>y=.non/\Q (.bl (!decide (x=.non))) H):=by
 intro pins s σ H x y v u Q I rx ry h
 obtain ⟨rfl,q⟩:=h
 cases ry
 refine isnot_none_gen (gN I q ?_)
 cases x<;>first
  | (cases rx;rfl)
  | (obtain ⟨t,rfl⟩:=rx;rfl)
theorem Db (b:aO) {op:vf} (h:op≠.In:=by decide) (h2:op≠.NotIn:=by decide):gC op b=false:=by
 have e1:(op == CmpOp.In)=false:=by cases op<;>first | rfl | exact absurd rfl h
 have e2:(op == CmpOp.NotIn)=false:=by cases op<;>first | rfl | exact absurd rfl h2
 cases b<;>simp [gC,e1,e2]
theorem LX {op:vf}{r:R2} (ho:o9 X (bI op) r) (ha:PE X a ta) (hb:PE X b tb) (hm:gC op b=false):PE X (.Compare a [op] [b] pos) (Qo r ta tb):=by
 intro pins s σ H Q I h
 exact wpAny_Compare1 (OS ha hb I h fun v u s2 x y H2 I2 rx ry q=>ho pins s2 σ H2 x y v u Q I2 rx ry q) hm
def NE (t:TE):TT:=fun σ H Q=>t σ H fun x H'=>∃ k,x=.bl k/\Q k H'
theorem Ez {op:vf}{r:R2} (ho:o9 X (bI op) r) (ha:PE X a ta) (hb:PE X b tb) (hm:gC op b=false):PT X (.Compare a [op] [b] pos) (NE (Qo r ta tb)):=by
 intro pins s σ H Q I h
 refine Ld (fm (ha pins s σ H _ I h) fun v s1 ⟨x,H1,I1,r1,q1⟩=>fm (hb pins s1 σ H1 _ I1 q1) fun u s2 ⟨y,H2,I2,r2,q2⟩ =>
  fm (ho pins s2 σ H2 x y v u _ I2 r1 r2 q2) fun c s3 ⟨z,H3,I3,r3,k,e,q3⟩=>?_) hm
 subst e
 cases r3
 exact dS ⟨H3,I3,q3⟩
def Dc (r r':R2) (ta tb tc:TE):TE:=fun σ H Q=>ta σ H fun x H1=>tb σ H1 fun y H2=>r x y H2 fun z H3=>∃ k,z=.bl k /\
 (if k=true then tc σ H3 fun w' H4=>r' y w' H4 Q else Q (.bl false) H3)
theorem Ih {op op':vf}{r r':R2} (ho:o9 X (bI op) r) (ho':o9 X (bI op') r') (ha:PE X a ta) (hb:PE X b tb) (hc:PE X c tc)
  (hm:Ho [op,op'] [b,c]=false:=by with_unfolding_all rfl):PE X (.Compare a [op,op'] [b,c] pos) (Dc r r' ta tb tc):=by
 intro pins s σ H Q I h
 refine Compare_chain (fm (ha pins s σ H _ I h) fun v s1 ⟨x,H1,I1,r1,q1⟩=>chain_link (fm (hb pins s1 σ H1 _ I1 q1) fun u s2 ⟨y,H2,I2,r2,q2⟩ =>
  fm (ho pins s2 σ H2 x y v u _ I2 r1 r2 q2) fun d s3 ⟨z,H3,I3,r3,k,e,q3⟩=>?_)) hm
 subst e
 cases r3
 refine dS ?_
 cases k with
 | false=>exact ite_ff ⟨.bl false,H3,I3,rfl,q3⟩
 | true=>exact ite_tt (chain_last (fm (hc pins s3 σ H3 _ I3 q3) fun w' s4 h_22=>by obtain ⟨z',H4,I4,r4,q4⟩:=h_22;exact ho' pins s4 σ H4 y z' u w' Q I4 r2 r4 q4))
theorem Ii {op op':vf}{r r':R2} (ho:o9 X (bI op) r) (ho':o9 X (bI op') r') (ha:PE X a ta) (hb:PE X b tb) (hc:PE X c tc)
  (hm:Ho [op,op'] [b,c]=false:=by with_unfolding_all rfl):PT X (.Compare a [op,op'] [b,c] pos) (NE (Dc r r' ta tb tc)):=by
 intro pins s σ H Q I h
 refine isTrue_chain (fm (ha pins s σ H _ I h) fun v s1 ⟨x,H1,I1,r1,q1⟩=>test_link (fm (hb pins s1 σ H1 _ I1 q1) fun u s2 ⟨y,H2,I2,r2,q2⟩ =>
  fm (ho pins s2 σ H2 x y v u _ I2 r1 r2 q2) fun d s3 ⟨z,H3,I3,r3,k,e,q3⟩=>?_)) hm
 subst e
 cases r3
 refine dS ?_
 cases k with
 | false =>
  obtain ⟨k',e',q'⟩:=q3
  cases e'
  exact ite_ff ⟨H3,I3,q'⟩
 | true =>
  refine ite_tt (test_last (fm (hc pins s3 σ H3 _ I3 q3) fun w' s4 ⟨z',H4,I4,r4,q4⟩=>fm (ho' pins s4 σ H4 y z' u w' _ I4 r2 r4 q4) fun d' s5 ⟨z2,H5,I5,r5,k2,e2,q5⟩=>?_))
  subst e2
  cases r5
  exact dS ⟨H5,I5,q5⟩
theorem vN:(sizeLine:Nat)<2 ^ 63:=by rw [Ay];decide
theorem Dd:o9 X (gq .Add) (fun x y H Q=>∃ i j,x=.str i/\y=.str j/\i.length + j.length<=sizeLine/\Q (.str (i++j)) H):=by
 intro pins s σ H x y v u Q I rx ry h
 obtain ⟨i,j,rfl,rfl,hz,q⟩:=h
 obtain ⟨t,rfl⟩:=rx
 obtain ⟨t',rfl⟩:=ry
 exact add_str (fun t' tk=>⟨.str (i++j),H,I.tok _,⟨_,rfl⟩,q⟩) hz
theorem jA {x:V}{us:List a7} (r:cJ [x] us):∃ u,us=[u]/\df x u:=by
 cases r with
 | cons r1 r2=>cases r2;exact ⟨_,rfl,r1⟩
theorem Ij {x y:V}{us:List a7} (r:cJ [x,y] us):∃ u w',us=[u,w']/\df x u/\df y w':=by
 cases r with
 | cons r1 r2 =>
  cases r2 with
  | cons r3 r4=>cases r4;exact ⟨_,_,rfl,r1,r3⟩
end
end L2
namespace L2
open PySem PySem.Spec PyProof.Rows
structure O_ (h:a_) (x dx C:aa) (mA:Str->Option a7):Prop where
 obj:h.get? x=some (uP C dx)
 ns:h.Ns1 dx mA
 ne:dx≠x
theorem G5 {h:a_}{dx:aa}{mA:Str->Option a7} (n:h.Ns1 dx mA):∃ od,h.get? dx=some od/\∀ name,vy name od=some (mA name):=by
 obtain ⟨o,es,ep,ho,hd,hk,_,hm⟩:=n
 refine ⟨o,ho,fun name=>?_⟩
 have e:=hm name
 unfold nsFind findBy at e
 rw [<- FK] at e
 unfold vy
 rw [hd]
 dsimp only
 split
 ·rename_i y q
  rw [q] at e
  exact congrArg some e
 ·rename_i q
  rw [q] at e
  have a:es.toList.any (·.refKey)=false:=by
   rw [List.any_eq_false]
   intro y hy
   obtain ⟨z,t,hkey⟩:=hk y (Array.mem_toList_iff.mp hy)
   simp [DictEntry.refKey,hkey]
  have a':¬ es.toList.any (·.refKey)=true:=by rw [a];exact aL
  rw [if_neg a']
  exact congrArg some e
theorem O_.look {h:a_}{x dx C:aa}{mA:Str->Option a7} (I:O_ h x dx C mA):∃ od,PySem.W.InstAt h x (uP C dx) C (some od)/\∀ name,vy name od=some (mA name) :=
 let ⟨od,ho,hl⟩:=G5 I.ns
 ⟨od,⟨I.obj,rfl,rfl,ho⟩,hl⟩
section
variable {prog:aB}{w:aT}{A:aP}{E:a7->a9->Prop}{s:a9}{K:a5}{x dx C f:aa}{mA:Str->Option a7}{name:Str}{v:a7}
end
theorem vK.some_of {v:V}{o:Option a7} (r:vK (some v) o):∃ u,o=some u/\df v u:=by
 cases o with
 | none=>exact (show False from r).elim
 | some u=>exact ⟨u,rfl,r⟩
section
variable {P:aB}{w:aT}{H H':Hp}{h h':a_}{a C dx:aa}{fs fs':List (Str×V)}
theorem LY (hok:nW P w H h) (e:H a=some (.ins C dx fs)):∃ mA,O_ h a dx C mA/\(∀ f,vK (fs.lookup f) (mA f))/\PySem.Within mA (fs.map (·.1))/\fs.length<=1000/\H dx=some (.own a):=by
 obtain ⟨d,z,ne,ob,mA,n,r,q⟩:=(show dk P w H h a (.ins C dx fs) from hok a _ e)
 exact ⟨mA,⟨ob,n,ne⟩,r,q,z,d⟩
end
structure SG (K:a5) (C:aa):Prop where
 pg:FL K C Str.empty=true
 hd:PySem.W.hasDictIn K C=true
 po:PySem.W.plainOver K C=true
 sa:fV K (.ref C) "__setattr__"=some (some (.builtin "object.__setattr__"))
theorem SG.get {K:a5}{C:aa} (c:SG K C) (f:Str):FL K C f=true:=c.pg
section
variable {X:Cx}{pins:List (aa×Obj)}{σ:St}{H:Hp}{s:a9}{a C dx:aa}{fs:List (Str×V)}{f:Str}{v:V}{A:aP}{E:a7->a9->Prop}
end
section
variable {X:Cx}{o e value:aO}{f:Str}{pos pos' tpos:Pos}{ta tv:TE}
end
section
variable {X:Cx}{pins:List (aa×Obj)}{σ:St}{H:Hp}{s:a9}{A:aP}{E:a7->a9->Prop}{Q:a7->a9->Prop}{c:a7}{b:Bool}
inductive tV (K:a5) (H:Hp):V->a7->Prop where
 | non:tV K H .non (.type "NoneType")
 | bl (x:Bool):tV K H (.bl x) (.type "bool")
 | int (i:Int):tV K H (.int i) (.type "int")
 | str (x:Str):tV K H (.str x) (.type "str")
 | flt (x:UInt64):tV K H (.flt x) (.type "float")
 | lst {a:aa}{xs:List V} (e:H a=some (.lst xs)):tV K H (.ref a) (.type "list")
 | frz {a:aa}{o:Obj}{xs:List V} (e:H a=some (.frz o (.lst xs))):tV K H (.ref a) (.type "list")
 | tup {a:aa}{xs:List V} (e:H a=some (.tup xs)):tV K H (.ref a) (.type "tuple")
 | dK {a:aa}{kvs:List (dJ×V)} (e:H a=some (.dK kvs)):tV K H (.ref a) (.type "dict")
 | dT {a:aa}{kvs:List (List dJ×V)} (e:H a=some (.dT kvs)):tV K H (.ref a) (.type "dict")
 | ins {a C dx:aa}{fs:List (Str×V)} (e:H a=some (.ins C dx fs)) (cl:SG K C) (ha:fV K (.ref C) "__class__"=some (some (.builtin "object.__class__")))
   (hn:rL K (.builtin "object.__class__") "__get__"=some (some (.builtin "getset_descriptor.__get__"))) (htk:uR K (.builtin "object.__class__")=some true)
   (hm:c8 K C (.type "object")=some true):tV K H (.ref a) (.ref C)
theorem my {x:V}{u t:a7} (I:bu X pins σ H s) (rx:df x u) (ty:tV X.K H x t) (e:da X.K t c=some b) (h:∀ tk,Q (.bool b) { s with toks:=tk }) :
  ao (aE X.prog X.w) A (call (.builtin "isinstance") [u,c]) Q E s:=by
 cases ty with
 | non=>cases (show u=d_ from rx);exact cg PySem.W.kitx_none I.kIn iT e (fun z=>nomatch z) h
 | bl y=>cases (show u=h_ y from rx);exact cg PySem.W.kitx_bool I.kIn iT e (fun z=>nomatch z) h
 | int i=>obtain ⟨t,q⟩:=(show ∃ t,u=kU i t from rx);cases q;exact cg PySem.W.kitx_int I.kIn iT e (fun z=>nomatch z) h
 | str y=>obtain ⟨t,q⟩:=(show ∃ t,u=jy y t from rx);cases q;exact cg PySem.W.kitx_str I.kIn iT e (fun z=>nomatch z) h
 | flt y=>obtain ⟨t,q⟩:=(show ∃ t,u=Value.float y t from rx);cases q;exact cg PySem.W.kitx_float I.kIn iT e (fun z=>nomatch z) h
 | @lst a xs ea =>
  cases (show u=bC a from rx)
  obtain ⟨_,_,n,_,h1⟩:=(show dk X.prog X.w H s.heap a (.lst xs) from I.hok a _ ea)
  exact cg rM I.kIn ⟨_,h1,rfl⟩ e (fun z=>nomatch z) h
 | @frz a ob xs ea =>
  cases (show u=bC a from rx)
  obtain ⟨_,_,_,n,_,h1⟩:=(show dk X.prog X.w H s.heap a (.frz ob (.lst xs)) from I.hok a _ ea)
  exact cg rM I.kIn ⟨_,h1,rfl⟩ e (fun z=>nomatch z) h
 | @tup a xs ea =>
  cases (show u=bC a from rx)
  obtain ⟨_,_,_,p⟩:=(show dk X.prog X.w H s.heap a (.tup xs) from I.hok a _ ea)
  obtain ⟨o,h1,h2,_⟩:=p
  exact cg CQ I.kIn ⟨o,h1,h2⟩ e (fun z=>nomatch z) h
 | @dK a kvs ea =>
  cases (show u=bC a from rx)
  obtain ⟨_,_,vs,_,p⟩:=(show dk X.prog X.w H s.heap a (.dK kvs) from I.hok a _ ea)
  obtain ⟨o,es,ep,h1,h2,_⟩:=p
  exact cg Et I.kIn ⟨o,h1,h2.1⟩ e (fun z=>nomatch z) h
 | @dT a kvs ea =>
  cases (show u=bC a from rx)
  obtain ⟨_,_,xs,_,o,es,ep,h1,h2,_⟩:=(show dk X.prog X.w H s.heap a (.dT kvs) from I.hok a _ ea)
  exact cg Et I.kIn ⟨o,h1,h2.1⟩ e (fun z=>nomatch z) h
 | @ins a C dx fs ea cl ha hn htk hm =>
  cases (show u=bC a from rx)
  obtain ⟨mA,O,_⟩:=LY I.hok ea
  obtain ⟨od,J,_⟩:=O.look
  exact cg (PySem.W.kitx_own (cl.get _) cl.hd ha hn htk hm) I.kIn J e (fun z=>nomatch z) h
end
end L2
namespace L2
open PySem PySem.Spec PyProof.Rows
structure io (k:Nat) (A:aP):Prop where
 hd:A.handled=none
 dp:A.depth + 3 * k + 5<iB
 un:A.units + 16 * k + 200<p_
theorem io.mono {j k:Nat}{A:aP} (r:io k A) (h:j<=k):io j A:=⟨r.hd,by have:=r.dp;omega,by have:=r.un;omega⟩
theorem io.deeper {k:Nat}{A:aP} (r:io (k + 1) A) (env:Env):io k (A.deeper env) :=
 ⟨r.hd,by have:=r.dp;show A.depth + 1 + 3 * k + 5<_;omega,by have:=r.un;show A.units + 3 + 16 * k + 200<_;omega⟩
theorem io.depth {k:Nat}{A:aP} (r:io k A):A.depth<iB:=by have:=r.dp;omega
theorem io.units {k:Nat}{A:aP} (r:io k A):A.units + 64<p_:=by have:=r.un;omega
def Ik:TA:=fun _ H Q=>Q [] H
def AM (ta:TE) (tr:TA):TA:=fun σ H Q=>ta σ H fun x H1=>tr σ H1 fun xs H2=>Q (x::xs) H2
section
variable {X:Cx}{e:aO}{es:List aO}{te:TE}{t:TA}{pos:Pos}
theorem dB:PA X [] Ik:=fun _ _ _ _ H Q I h=>Calls.spliced_nil ⟨[],H,I,.nil,h⟩
theorem bK (ha:PE X e te) (hr:PA X es t) (hs:ak (e::es) X.env=(false,cp e X.env)::ak es X.env:=by rfl):PA X (e::es) (AM te t):=by
 intro pos pins s σ H Q I h
 rw [hs]
 show ao _ _ (spliced ((false,cp e X.env)::dz pos (ak es X.env))) _ _ s
 refine Calls.spliced_cons (fm (ha pins s σ H _ I h) fun u s1 ⟨x,H1,I1,r1,q1⟩=>?_)
 exact fm (hr pos pins s1 σ H1 _ I1 q1) fun us s2 h_25=>by obtain ⟨xs,H2,I2,r2,q2⟩:=h_25;exact ⟨x::xs,H2,I2,.cons r1 r2,q2⟩
def SH (t:TA):TE:=fun σ H Q=>t σ H fun xs H1=>xs.length<=sizeLine/\∀ p,H1 p=none->Q (.ref p) (upd H1 p (.tup xs))
def SJ (t:TA):TE:=fun σ H Q=>t σ H fun xs H1=>xs.length<=sizeLine/\∀ p,H1 p=none->Q (.ref p) (upd H1 p (.lst xs))
theorem Il {x1} (h:PA X es t):PE X (.Tuple es x1 pos) (SH t):=by
 intro pins s σ H Q I hq
 refine wpAny_Tuple_spliced (fm (h pos pins s σ H _ I hq) fun us s1 ⟨xs,H1,I1,r,z,q⟩=>⟨by rw [<- r.length];exact z,?_⟩)
 have hf:H1 s1.heap.objs.size=none:=I1.hok.fresh (ar _)
 refine ⟨.ref s1.heap.objs.size,upd H1 s1.heap.objs.size (.tup xs),I1.laid (t':=s1.toks) (fun b u e=>a8 _ e) (ar _) ?_,rfl,q _ hf⟩
 exact ⟨z,us,r,⟨_,ax _ rfl,rfl,_,rfl⟩⟩
theorem jO (h:PA X es t):PE X (.List es pos) (SJ t):=by
 intro pins s σ H Q I hq
 refine wpAny_List_spliced (fm (h pos pins s σ H _ I hq) fun us s1 ⟨xs,H1,I1,r,z,q⟩=>⟨by rw [<- r.length];exact z,?_⟩)
 have hf:H1 s1.heap.objs.size=none:=I1.hok.fresh (ar _)
 refine ⟨.ref s1.heap.objs.size,upd H1 s1.heap.objs.size (.lst xs),I1.laid (t':=s1.toks) (fun b u e=>a8 _ e) (ar _) ?_,rfl,q _ hf⟩
 exact ⟨z,us,0,r,ax _ rfl⟩
end
abbrev Sp:=List V->Hp->VK->XK->Prop
abbrev EA:=List Env->Hp->a9->XK->a7->a9->Prop
structure De (P:aB) (w:aT) (K:a5) (mg:Str->Option a7) (base:a_) (A:aP) (outer:List Env) (s:a9) (H:Hp):Prop where
 frames:A.frames=some outer
 mod:Mod K mg base
 bs:∀ b o,base.get? b=some o->s.heap.get? b=some o/\H b=none
 bsz:base.objs.size<=s.heap.objs.size
 funs:s.heap.FunFrames base outer
 frf:∀ b∈ml outer,H b=none
 hok:nW P w H s.heap
 bare:nZ s.gens
inductive CE (outer:List Env) (P:aB) (w:aT) (H:Hp) (s:a9) (Q:VK) (u:a7) (s':a9):Prop
 | mk (v H':_) (h0:s'.os=s.os) (h1:nZ s'.gens) (h2:Un (ml outer) [] H H' s.heap s'.heap) (h3:nW P w H' s'.heap) (h4:df v u) (h5:Q v H'):CE outer P w H s Q u s'
def CR (CX:EA) (outer:List Env) (P:aB) (w:aT) (H:Hp) (s:a9) (Q:VK) (E:XK) (r:qF) (s':a9):Prop :=
 match r with
 | .ok (.ret u)=>CE outer P w H s Q u s'
 | .ok _=>False
 | .error e=>CX outer H s E e s'
structure qc (P:aB) (w:aT) (K:a5) (mg:Str->Option a7) (base:a_) (CX:EA) (k:Nat) (f:aa) (fd:cX) (ps:List Str) (sp:Sp):Prop where
 len:∀ vs H Q E,sp vs H Q E->vs.length=ps.length
 run:∀ (A:aP) (outer:List Env) (s:a9) (H:Hp) (args:Args) (us:List a7) (vs:List V) (Q:VK) (E:XK),io k A->De P w K mg base A outer s H->uq s fd args (ps.zip us)->cJ vs us->sp vs H Q E ->
  gK (aE P w) A (.call (.ref f) args) (CR CX outer P w H s Q E) s
theorem qc.imp {P:aB}{w:aT}{K:a5}{mg:Str->Option a7}{base:a_}{CX:EA}{k:Nat}{f:aa}{fd:cX}{ps:List Str}{sp sp':Sp} (F:qc P w K mg base CX k f fd ps sp)
  (h:∀ vs H Q E,sp' vs H Q E->sp vs H Q E):qc P w K mg base CX k f fd ps sp' :=
 ⟨fun vs H Q E q=>F.len vs H Q E (h _ _ _ _ q),fun A outer s H args us vs Q E hr he hb hv hs=>F.run A outer s H args us vs Q E hr he hb hv (h _ _ _ _ hs)⟩
section
variable {X:Cx}{pins:List (aa×Obj)}{σ:St}{H:Hp}{s s':a9}
theorem bu.env0 (I:bu X pins σ H s):De X.prog X.w X.K X.mg X.base X.A X.stack s H :=
 ⟨I.ok.frames,I.ok.mod,I.bs,bE I.ok.bsz I.sz,I.stack,I.stkFree,I.hok,I.bare⟩
theorem bu.after {Q:VK}{u:a7} (I:bu X pins σ H s) (h:CE X.stack X.prog X.w H s Q u s'):EP X pins σ Q u s':=by
 obtain ⟨v,H',os,bare,un,hok,r,q⟩:=h
 obtain ⟨hh,g,d,t,os'⟩:=s'
 obtain rfl:os'=s.os:=os
 exact ⟨v,H',I.call (h':=hh) (g':=g) (d':=d) (t':=t) (ch:=[]) un hok bare (fun b z=>absurd z (by simp)),r,q⟩
end
def EB (sp:Sp) (dvs:List V) (E:XK) (t:TA):TE:=fun σ H Q=>t σ H fun vs H1=>sp (vs++dvs) H1 Q E
def iZ (K:a5) (fd:cX) (ps:List Str) (ds:List a7):Prop :=
 ∀ (s:a9) (us:List a7),K.In s.heap->(us++ds).length=ps.length->uq s fd ⟨us,[]⟩ (ps.zip (us++ds))
theorem iZ.all {K:a5}{fd:cX}{ps:List Str} (h:∀ us:List a7,us.length=ps.length->Lr fd ⟨us,[]⟩=pure (ps.zip us)):iZ K fd ps []:=fun s us _ hl=>by
 rw [bH] at hl ⊢
 exact .of_eq (h us hl)
def iE (CX:EA) (X:Cx) (E:XK):Prop:=∀ (pins:List (aa×Obj)) (σ:St) (H:Hp) (s:a9) (e:a7) (s':a9),bu X pins σ H s->CX X.stack H s E e s'->X.xe e s'
section
variable {X:Cx}{CX:EA}{k:Nat}{f C:aa}{fd:cX}{ps:List Str}{sp:Sp}{dvs:List V}{ds:List a7}{E:XK}{x m:Str}{p pos apos:Pos}{e o:aO}{es:List aO}{ta:TE}{t:TA}
theorem Im {pins:List (aa×Obj)}{σ:St}{H:Hp}{s:a9}{Q:VK}{us:List a7}{vs:List V} (F:qc X.prog X.w X.K X.mg X.base CX k f fd ps sp) (hr:io k X.A) (hb:iZ X.K fd ps ds) (hd:cJ dvs ds) (hx:iE CX X E)
  (I:bu X pins σ H s) (r:cJ vs us) (h:sp (vs++dvs) H Q E):ao (aE X.prog X.w) X.A (call (.ref f) us) (EP X pins σ Q) X.xe s:=by
 have r2:cJ (vs++dvs) (us++ds):=r.append hd
 have hl:(us++ds).length=ps.length:=by rw [<- r2.length];exact F.len _ _ _ _ h
 refine mS (mn (F.run X.A X.stack s H ⟨us,[]⟩ (us++ds) (vs++dvs) Q E hr I.env0 (hb s us I.kIn hl) r2 h) fun r s' hq=>?_)
 cases r with
 | error e=>exact hx pins σ H s e s' I hq
 | ok fl =>
  cases fl with
  | ret u=>exact I.after hq
  | next=>exact e6 hq
  | brk=>exact e6 hq
  | cont=>exact e6 hq
theorem zj (F:qc X.prog X.w X.K X.mg X.base CX k f fd ps sp) (hr:io k X.A) (hg:Gl X x) (hm:X.mg x=some (.ref f)) (hk:dH X.K (.ref f)=true) (hb:iZ X.K fd ps ds) (hd:cJ dvs ds) (hx:iE CX X E)
  (ha:PA X (e::es) t) (hdb:(x == ("__debug__" : Str))=false:=by decide) (he:ak (e::es) X.env=(false,cp e X.env)::ak es X.env:=by rfl) (hpl:(dz pos (ak es X.env)).any (·.1)=false:=by rfl) :
  PE X (.Call (.Name x p) (e::es) [] pos) (EB sp dvs E t):=by
 intro pins s σ H Q I h
 refine jg (rW I hg hm ?_ hdb)
 refine qG (h₀:=X.base) I.ok.mod.kin hk (fm (ha pos pins s σ H _ I h) fun us s1 ⟨vs,H1,I1,r,q⟩=>⟨I1.kIn,?_⟩) he hpl
 exact Im F hr hb hd hx I1 r q
end
section
variable {X:Cx}{CX:EA}{k:Nat}{f C:aa}{fd:cX}{ps ks:List Str}{sp:Sp}{E:XK}{x m:Str}{p pos apos kpos:Pos}{e o:aO}{es:List aO}{kws:List mq}{te ta:TE}{t tk:TA}{nm:Option Str}
variable {g:List a7->List a7->List a7}{gV:List V->List V->List V}
end
structure bJ (N P:List Str) (sc:dG):Prop where
 kind:sc.kind=.function
 co:sc.isCoroutine=false
 gen:sc.isGenerator=false
 nd:N.Nodup
 pre:N.take P.length=P
 par:∀ x∈P,sc.names.lookup x=some .local\/sc.names.lookup x=some .cell
 nofree:∀ y∈sc.names,y.2≠.free
theorem yd {kindOf:Str->Option j6}{x:Str}:∀ {binds:List (Str×a7)}{m:Str->Option a7},(∀ v,(x,v)∉binds)->CS kindOf binds m x=m x
 | [],_,_=>rfl
 | (n,v)::r,m,h=>by
  unfold CS
  rw [yd fun w hw=>h w (ai _ hw)]
  split
  ·have:x≠n:=by rintro rfl;exact h v al
   simp [this]
  ·rfl
theorem ye {kindOf:Str->Option j6}{x:Str}:∀ {binds:List (Str×a7)}{m:Str->Option a7},(∀ v,(x,v)∉binds)->CT kindOf binds m x=m x
 | [],_,_=>rfl
 | (n,v)::r,m,h=>by
  unfold CT
  rw [ye fun w hw=>h w (ai _ hw)]
  split
  ·rfl
  ·have:x≠n:=by rintro rfl;exact h v al
   simp [this]
theorem yf {kindOf:Str->Option j6}{x:Str}{v:a7}:∀ {P:List Str}{vs:List a7}{i:Nat}{m:Str->Option a7},P.Nodup->P[i]?=some x->vs[i]?=some v->kindOf x=some .local ->
  CS kindOf (P.zip vs) m x=some v
 | [],_,_,_,_,h,_,_=>by simp at h
 | _::_,[],_,_,_,_,h,_=>by simp at h
 | p::P,w::vs,0,m,nd,h1,h2,hk=>by
  simp at h1 h2;subst h1;subst h2
  show CS kindOf ((p,w)::P.zip vs) m p=_
  unfold CS
  rw [yd fun v hv=>(List.nodup_cons.mp nd).1 (oh hv).1,if_pos hk]
  simp
 | p::P,w::vs,i + 1,m,nd,h1,h2,hk=>by
  show CS kindOf ((p,w)::P.zip vs) m x=_
  unfold CS
  exact yf (i:=i) (List.nodup_cons.mp nd).2 (by simpa using h1) (by simpa using h2) hk
theorem yg {kindOf:Str->Option j6}{x:Str}{v:a7}:∀ {P:List Str}{vs:List a7}{i:Nat}{m:Str->Option a7},P.Nodup->P[i]?=some x->vs[i]?=some v->kindOf x≠some .local ->
  CT kindOf (P.zip vs) m x=some v
 | [],_,_,_,_,h,_,_=>by simp at h
 | _::_,[],_,_,_,_,h,_=>by simp at h
 | p::P,w::vs,0,m,nd,h1,h2,hk=>by
  simp at h1 h2;subst h1;subst h2
  show CT kindOf ((p,w)::P.zip vs) m p=_
  unfold CT
  rw [ye fun v hv=>(List.nodup_cons.mp nd).1 (oh hv).1,if_neg hk]
  simp
 | p::P,w::vs,i + 1,m,nd,h1,h2,hk=>by
  show CT kindOf ((p,w)::P.zip vs) m x=_
  unfold CT
  exact yg (i:=i) (List.nodup_cons.mp nd).2 (by simpa using h1) (by simpa using h2) hk
def start (N:List Str) (vs:List V):St:=vs.map some++bd (N.length - vs.length) none
def fg (CX:EA) (P:aB) (w:aT) (K:a5) (mg:Str->Option a7) (base:a_) (N:List Str) (qual:Str) (scope:dG) (f:aa) (cd:a7) (A:aP) (outer:List Env) (s:a9) (H:Hp) (E:XK):Cx where
 prog:=P
 w:=w
 K:=K
 mg:=mg
 base:=base
 A:=A.deeper (iC qual scope s.heap.objs.size f cd)
 N:=N
 s₀:=s
 H₀:=H
 env:=iC qual scope s.heap.objs.size f cd
 outer:=outer
 stack:=iC qual scope s.heap.objs.size f cd::outer
 ex:=[]
 calm:=true
 fn:=fun _=>true
 pn:=[]
 xe:=fun e s'=>ao (aE P w) (A.deeper (iC qual scope s.heap.objs.size f cd)) (HD (iC qual scope s.heap.objs.size f cd) e) (fun _ s''=>CX outer H s E e s'') (fun e' s''=>CX outer H s E e' s'') s'
theorem AN {sc:dG}{n:Nat}{x:Str} (h:sc.names.lookup x=some .cell):∃ c,(bc n sc.names []).lookup x=some c:=by
 have q:=eL sc.names n [] (.inl h)
 exact Option.isSome_iff_exists.mp q
theorem yh {CX:EA}{P:aB}{w:aT}{K:a5}{mg:Str->Option a7}{base:a_}{N ps:List Str}{qual:Str}{scope:dG}{f:aa}{cd:a7}{A:aP}{outer:List Env}{s s1:a9}{H:Hp}{E:XK}{us:List a7}{vs:List V}
  (S:bJ N ps scope) (hd:A.handled=none) (e0:De P w K mg base A outer s H) (hl:vs.length=ps.length) (r:cJ vs us)
  (x:InCallC s s.heap.objs.size (CS (iC qual scope s.heap.objs.size f cd).kindOf (ps.zip us) fun _=>none) (bc (s.heap.objs.size + 1) scope.names []) (CT (iC qual scope s.heap.objs.size f cd).kindOf (ps.zip us) fun _=>none) s1) :
  bu (fg CX P w K mg base N qual scope f cd A outer s H E) [] (start N vs) H s1:=by
 have hpl:ps.length<=N.length:=by have:=congrArg ql S.pre;rw [vg] at this;omega
 obtain ⟨h1,tk,rfl,hk⟩:=x.done
 have noA:∀ b:aa,b∉(fg CX P w K mg base N qual scope f cd A outer s H E).ex:=fun b z=>absurd (show b∈([] : List aa) from z) (by simp)
 refine ⟨⟨e0.mod,S.kind,rfl,rfl,ar _,fun y z c h1 h2=>?_,fun y hy=>?_,fun y c _ h=>?_,fun _=>hd,Around.frames_deeper e0.frames,.inr ⟨rfl,rfl⟩,fun b z=>absurd z (noA b),e0.bs,e0.bsz,fun b _ _=>noA b,fun b z=>absurd z (noA b),e0.funs,e0.frf⟩,
  rfl,e0.bare,Un.kept hk,⟨_,x.toInCall.ns,fun i y v h1 h2 h3=>?_⟩,fun y c h=>⟨_,x.cell y c h⟩,e0.hok.fresh (ar _),fun y c h=>?_,fun p hp=>absurd (show p∈([] : List (aa×Obj)) from hp) (by simp),e0.hok.kept hk,?_⟩
 ·exact name_of_addr x.apart (c_ h1) (c_ h2)
 ·have hy:scope.names.lookup y=some .cell\/scope.names.lookup y=some .free:=hy
  rcases hy with hy | hy
  ·exact AN hy
  ·exact absurd rfl (S.nofree _ (c_ hy))
 ·exact bi (x.above y c (c_ h))
 ·have hi:i<vs.length:=by
   unfold start at h2
   by_cases hi:i<vs.length
   ·exact hi
   ·rw [aY (by simpa using hi)] at h2
    rw [bD] at h2
    split at h2<;>cases h2
  have ha:vs[i]?=some v:=by
   unfold start at h2
   rw [bn (by simpa using hi),ay] at h2
   cases e:vs[i]? with
   | none=>rw [e] at h2;cases h2
   | some a=>rw [e] at h2;cases h2;rfl
  obtain ⟨u,hu,rv⟩:=r.get ha
  have hp:ps[i]?=some y:=by
   rw [<- S.pre,List.getElem?_take_of_lt (by omega)];exact h1
  have ndP:ps.Nodup:=by rw [<- S.pre];exact S.nd.sublist (List.take_sublist _ _)
  refine ⟨u,rv,?_⟩
  rcases S.par y (b_ hp) with k | k
  ·exact .inl ⟨k,yf ndP hp hu k⟩
  ·obtain ⟨c,e⟩:=AN (n:=s.heap.objs.size + 1) k
   refine .inr ⟨.inl k,c,e,?_⟩
   have q:=x.cell y c e
   rw [yg ndP hp hu (by show scope.names.lookup y≠_;rw [k];decide)] at q
   exact q
 ·exact e0.hok.fresh (bi (x.above y c (c_ h)))
 ·unfold start
  show _=N.length
  rw [aR,au,cE]
  omega
theorem NF {CX:EA}{P:aB}{w:aT}{K:a5}{mg:Str->Option a7}{base:a_}{k:Nat}{f:aa}{name qual:Str}{params:Arguments}{body:List cw}{scope:dG}{dV kV doc pm cdv ct oc:a7}{an od:Option aa}
  {osl:Array (Option a7)}{N ps:List Str}{sp:Sp} (lk:K.lookup f=some ⟨oc,od,.func (e7 name qual params body scope dV kV doc pm an cdv ct),osl⟩) (hcd:iU K cdv qual=true) (S:bJ N ps scope)
  (len:∀ vs H Q E,sp vs H Q E->vs.length=ps.length)
  (hbody:∀ (A:aP) (outer:List Env) (s:a9) (H:Hp) (vs:List V) (Q:VK) (E:XK),io k (A.deeper (iC qual scope s.heap.objs.size f cdv))->sp vs H Q E ->
   ∃ t,yc (fg CX P w K mg base N qual scope f cdv A outer s H E) body t/\t { nx:=fun _ H'=>Q .non H',rt:=Q } (start N vs) H) :
  qc P w K mg base CX (k + 1) f (e7 name qual params body scope dV kV doc pm an cdv ct) ps sp:=by
 refine ⟨len,fun A outer s H args us vs Q E hr e0 hb r hsp=>?_⟩
 have hl:=len _ _ _ _ hsp
 have KX:K.In s.heap:=e0.mod.kin.keeps fun b o e=>(e0.bs b o e).1
 have lim:s.heap.NoLimit:=e0.mod.nolimit.keeps fun b o e=>(e0.bs b o e).1
 have hkind:∀ y∈ps.zip us,scope.names.lookup y.1=some .local\/(scope.names.lookup y.1=some .cell/\((bc (s.heap.objs.size + 1) scope.names []).lookup y.1).isSome=true):=fun ⟨n,v⟩ hy=>by
  rcases S.par n (oh hy).1 with q | q
  ·exact .inl q
  ·exact .inr ⟨q,eL _ _ _ (.inl q)⟩
 refine Le hr.depth (KX _ _ lk) rfl S.co S.gen rfl (qH KX hcd) (hb _ _ _ _ ?_)
 refine CU S.kind hkind fun env he s1 x=>?_
 subst he
 refine ⟨lim.keeps x.toInCall.keep,codeAny_func ?_⟩
 obtain ⟨t,ht,hq⟩:=hbody A outer s H vs Q E (hr.deeper _) hsp
 have I:bu (fg CX P w K mg base N qual scope f cdv A outer s H E) [] (start N vs) H s1:=yh S hr.hd e0 hl r x
 refine b6 (ht [] s1 (start N vs) H _ I hq) (fun fl s' hs=>?_) fun e s' hs=>hs
 have fin:∀ {σ':St}{H':Hp}{v:V}{u:a7},bu (fg CX P w K mg base N qual scope f cdv A outer s H E) [] σ' H' s'->df v u->Q v H'->CE outer P w H s Q u s' :=
  fun {σ' H' v u} J rv q=>⟨v,H',J.os,J.bare,J.base,J.hok,rv,q⟩
 cases fl with
 | ret u =>
  obtain ⟨v,σ',H',J,rv,q⟩:=hs
  exact fin J rv q
 | next =>
  obtain ⟨σ',H',J,q⟩:=hs
  exact fin (v:=V.non) (u:=d_) J rfl q
 | brk =>
  obtain ⟨_,_,_,q⟩:=hs
  exact e6 q
 | cont =>
  obtain ⟨_,_,_,q⟩:=hs
  exact e6 q
end L2
namespace L2
open PySem PySem.Spec PyProof.Rows
section
variable {X:Cx}{x:Str}{p pos:Pos}{e:aO}{es:List aO}{t:TA}{id T:String}{r:List V->Hp->VK->Prop}
def Q9 (r:List V->Hp->VK->Prop) (t:TA):TE:=fun σ H Q=>t σ H fun vs H1=>r vs H1 Q
theorem kq (hc:iM X (.builtin id) r) (hg:Gl X x) (hm:X.mg x=none) (hv:gj x=some (.builtin id)) (ha:PA X (e::es) t) (hn:x≠"__name__":=by decide) (hdb:(x == ("__debug__" : Str))=false:=by decide)
  (he:ak (e::es) X.env=(false,cp e X.env)::ak es X.env:=by rfl) (hpl:(dz pos (ak es X.env)).any (·.1)=false:=by rfl):PE X (.Call (.Name x p) (e::es) [] pos) (Q9 r t):=by
 intro pins s σ H Q I h
 refine jg (qN I hg hm hv ?_ hn hdb)
 exact PyProof.Rows.callWith_builtin1 (fm (ha pos pins s σ H _ I h) fun us s1 h_27=>by obtain ⟨vs,H1,I1,r1,q1⟩:=h_27;exact hc pins s1 σ H1 vs us Q I1 r1 q1) he hpl
theorem tW (hc:iM X (.type T) r) (hg:Gl X x) (hm:X.mg x=none) (hv:gj x=some (.type T)) (ha:PA X (e::es) t) (hn:x≠"__name__":=by decide) (hdb:(x == ("__debug__" : Str))=false:=by decide)
  (he:ak (e::es) X.env=(false,cp e X.env)::ak es X.env:=by rfl) (hpl:(dz pos (ak es X.env)).any (·.1)=false:=by rfl):PE X (.Call (.Name x p) (e::es) [] pos) (Q9 r t):=by
 intro pins s σ H Q I h
 refine jg (qN I hg hm hv ?_ hn hdb)
 exact eB (fm (ha pos pins s σ H _ I h) fun us s1 h_28=>by obtain ⟨vs,H1,I1,r1,q1⟩:=h_28;exact hc pins s1 σ H1 vs us Q I1 r1 q1) he hpl
end
end L2
namespace HT
open PySem PyProof.Rows
section
open PySem.SeqAt
open PySem.AutoSeq1 (wpAny_loadPart')
open PySem.MeetsSeq PySem.MeetsSeq2 PySem.MeetsSeq3
end
section
variable {prog:aB}{w:aT}{A:aP}{E:a7->a9->Prop}{s:a9}
theorem LZ {t b:aa}{vs ws:List a7}{Q:a7->a9->Prop} (ht:CN s.heap t vs.toArray) (hb:CN s.heap b ws.toArray) (hv:vs≠[])
  (h1:ws=[]->Q (.ref t) s) (h2:ws≠[]->Q (.ref s.heap.objs.size) { s with heap:=s.heap.push { cls:=.type "tuple",data:=.seq (vs++ws).toArray } })
  (hsz:vs.length + ws.length<=sizeLine):ao (aE prog w) A (gq .Add (.ref t) (.ref b)) Q E s:=by
 obtain ⟨⟨cls,dd,data,sl⟩,ho,hc,n,hd⟩:=id ht
 obtain ⟨⟨cls2,dd2,data2,sl2⟩,ho2,hc2,n2,hd2⟩:=id hb
 simp only at hc hd hc2 hd2
 subst hc hd hc2 hd2
 have e:vs.toArray++ws.toArray=(vs++ws).toArray:=by simp
 by_cases hw:ws=[]
 ·exact xj ⟨_,ho,rfl⟩ ⟨_,ho2,rfl⟩ z0 FM mT mr (lR _ _)
   (tuple_addW1 t b vs.toArray ws.toArray n n2 dd dd2 sl sl2 (by simpa using hv) (by simp [hw])) ⟨ho,ho2,h1 hw⟩
 ·refine xj ⟨_,ho,rfl⟩ ⟨_,ho2,rfl⟩ z0 FM mT mr (lR _ _)
   (tuple_addW2 t b vs.toArray ws.toArray n n2 dd dd2 sl sl2 (by simpa using hv) (by simpa using hw) (by rw [aF,aF];exact hsz)) ⟨ho,ho2,?_⟩
  rw [e]
  exact h2 hw
def i9 (n d:Nat):Option Int->Nat
 | none=>d
 | some v=>if v<0 then (v + (n:Int)).toNat else min v.toNat n
theorem AO (n d:Nat):i9 n d none=d:=rfl
theorem EC (n d k:Nat):i9 n d (some (k:Int))=min k n:=by
 show (if (k:Int)<0 then ((k:Int) + (n:Int)).toNat else min (k:Int).toNat n)=min k n
 rw [if_neg (by omega),fQ]
theorem P0 (n d:Nat) (hd:d<=n) (o:Option Int):i9 n d o<=n:=by
 cases o with
 | none=>exact hd
 | some v =>
  show (if v<0 then (v + (n:Int)).toNat else min v.toNat n)<=n
  by_cases hv:v<0
  ·rw [if_pos hv];omega
  ·rw [if_neg hv];exact nU _ _
theorem ED (v:Int) (n d:Nat):(if v<0 then max (v + (n:Int)) 0 else min v (n:Int))=((i9 n d (some v):Nat):Int):=by
 show (if v<0 then max (v + (n:Int)) 0 else min v (n:Int))=(((if v<0 then (v + (n:Int)).toNat else min v.toNat n):Nat):Int)
 by_cases hv:v<0
 ·simp only [if_pos hv];omega
 ·simp only [if_neg hv];omega
theorem Df (lo hi:Option Int) (n:Nat):jL lo hi 1 (n:Int)=(((i9 n 0 lo:Nat):Int),((i9 n n hi:Nat):Int)):=by
 have h1:¬ ((1:Int)<0):=by omega
 unfold jL
 simp only [h1,if_false]
 refine Prod.ext ?_ ?_
 ·cases lo with
  | none=>rfl
  | some v=>exact ED v n 0
 ·cases hi with
  | none=>rfl
  | some v=>exact ED v n n
theorem Dg (i j:Nat):gQ (i:Int) (j:Int) 1=j - i:=by
 unfold gQ
 have h1:(1:Int) > 0:=by omega
 simp only [h1,if_true,Int.ediv_one]
 split<;>omega
theorem vO {v:a7}{o:Option Int}{Q:Option Int->a9->Prop} (p:tH v o) (h:Q o s):ao (aE prog w) A (Builtin.Slice.slicePartIndex v) Q E s:=by
 cases p with
 | none=>exact slicePart_none h
 | int i t=>exact slicePart_int h
theorem mz {sl:aa}{vl vu:a7}{lo hi:Option Int}{n:Nat}{Q:Int×Int×Nat->a9->Prop} (hs:s.heap.IsSliceOf sl vl vu .none) (pl:tH vl lo) (pu:tH vu hi)
  (h:Q (((i9 n 0 lo:Nat):Int),1,i9 n n hi - i9 n 0 lo) s):ao (aE prog w) A (rN (.ref sl) (pure (n:Int))) Q E s:=by
 obtain ⟨os,hos,hcs,hds⟩:=id hs
 unfold rN Builtin.Slice.sliceFields
 refine a6 (a6 (dn hos hds (x:=vl) rfl (a6 (dn hos hds (x:=vu) rfl (a6 (dn hos hds (x:=.none) rfl (af ?_)))))))
 refine a6 (slicePart_none ?_)
 show ao _ _ (if ((1:Int) == 0)=true then _ else _) _ _ s
 rw [if_neg (by decide)]
 refine a6 (vO pl (a6 (vO pu (a6 (af ?_)))))
 show ao _ _ (match jL lo hi 1 (n:Int) with | (lo,hi)=>pure (lo,(1:Int),gQ lo hi 1)) _ _ s
 rw [Df lo hi n]
 show ao _ _ (pure (((i9 n 0 lo:Nat):Int),(1:Int),gQ ((i9 n 0 lo:Nat):Int) ((i9 n n hi:Nat):Int) 1)) _ _ s
 rw [Dg]
 exact af h
theorem Io (xs:Array a7) (i k:Nat):((bt k).filterMap fun (m:Nat)=>xs[((i:Int) + (m:Int) * 1).toNat]?).toArray=((xs.toList.drop i).take k).toArray:=by
 have e:(fun (m:Nat)=>xs[((i:Int) + (m:Int) * 1).toNat]?)=fun m=>xs[i + m]?:=by
  funext m
  have:((i:Int) + (m:Int) * 1).toNat=i + m:=by omega
  rw [this]
 rw [e]
 have:=pick_run xs i k
 rw [List.filterMap_map] at this
 have e2:((fun x=>xs[x]?)∘fun x=>i + x)=fun m=>xs[i + m]?:=rfl
 rw [e2] at this
 rw [this]
theorem rY {t sl:aa}{items:Array a7}{vl vu:a7}{lo hi:Option Int}{Q:a7->a9->Prop} (ht:CN s.heap t items) (hs:s.heap.IsSliceOf sl vl vu .none) (pl:tH vl lo) (pu:tH vu hi)
  (hw:¬ (i9 items.size 0 lo=0/\i9 items.size items.size hi=items.size))
  (h:Q (.ref s.heap.objs.size) { s with heap:=s.heap.push { cls:=.type "tuple",data:=.seq ((items.toList.drop (i9 items.size 0 lo)).take (i9 items.size items.size hi - i9 items.size 0 lo)).toArray } })
  (hsz:items.size<=sizeLine):ao (aE prog w) A (n_ (.ref t) (.ref sl)) Q E s:=by
 have htake:sizeOk (.seq ((items.toList.drop (i9 items.size 0 lo)).take (i9 items.size items.size hi - i9 items.size 0 lo)).toArray):=by
  show ((items.toList.drop (i9 items.size 0 lo)).take (i9 items.size items.size hi - i9 items.size 0 lo)).toArray.size<=sizeLine
  rw [aF,vg,vh,bh]
  omega
 have hj:i9 items.size items.size hi<=items.size:=P0 _ _ (ar _) hi
 obtain ⟨os,hos,hcs,hds⟩:=id hs
 have hTs:s.TypeIs (.ref sl) "slice":=⟨os,hos,hcs⟩
 unfold n_
 try with_reducible refine cq ?_
 first | refine a6 (af ?_) | skip
 refine a6 (wpAny_sequenceKey ht.typeIs (by decide) ?_)
 refine a6 (cU (name:=ik "__getitem__") ht.typeIs fo
  (cH fo ht.typeIs entry_tuple_getitem ?_ (args_tuple_getitem _ _)))
 show ao _ _ (rO (.ref t) >>= _) _ _ s
 refine a6 (tupleItemsOf_ ht ?_)
 refine a6 (iP hTs ?_)
 rw [if_pos (by decide)]
 refine a6 (mz hs pl pu ?_)
 have hno:¬ ((((i9 items.size 0 lo:Nat):Int) == 0 && (1:Int) == 1 && (i9 items.size items.size hi - i9 items.size 0 lo) == items.size)=true):=by
  intro q
  rw [aS,aS] at q
  have q1:((i9 items.size 0 lo:Nat):Int)=0:=eq_of_beq q.1.1
  have q2:i9 items.size items.size hi - i9 items.size 0 lo=items.size:=eq_of_beq q.2
  exact hw ⟨by omega,by omega⟩
 show ao _ _ (if (((i9 items.size 0 lo:Nat):Int) == 0 && (1:Int) == 1 && (i9 items.size items.size hi - i9 items.size 0 lo) == items.size)=true then _ else _) _ _ s
 rw [if_neg hno,Io]
 first
  | exact a6 (m:=g_ _) (cr (af ⟨_,rfl,af h⟩) htake)
  | exact a6 (m:=g_ _) (cr (a6 (af (af ⟨_,rfl,af h⟩))) htake)
  | exact a6 (a6 (m:=g_ _) (cr (af (af ⟨_,rfl,af h⟩)) htake))
  | exact a6 (a6 (m:=g_ _) (cr (af ⟨_,rfl,af h⟩) htake))
end
end HT
namespace L2
open PySem PySem.Spec PyProof.Rows
abbrev TO:=St->Hp->(Option Int->Hp->Prop)->Prop
def PO (X:Cx) (e:Option aO) (t:TO):Prop :=
 ∀ (pins:List (aa×Obj)) (s:a9) (σ:St) (H:Hp) (Q:Option Int->Hp->Prop),bu X pins σ H s->t σ H Q ->
  ao (aE X.prog X.w) X.A (evalPart e X.env) (fun u s'=>∃ o H',bu X pins σ H' s'/\tH u o/\Q o H') X.xe s
def L_:TO:=fun _ H Q=>Q none H
def Qv (t:TE):TO:=fun σ H Q=>t σ H fun x H1=>∃ i,x=.int i/\Q (some i) H1
section
variable {X:Cx}{e:aO}{te:TE}{lo hi:Option aO}{tl th:TO}{pos p2:Pos}
theorem M0:PO X none L_:=by
 intro pins s σ H Q I h
 rw [evalPart_none]
 exact af ⟨none,H,I,.none,h⟩
theorem M1 (h:PE X e te):PO X (some e) (Qv te):=by
 intro pins s σ H Q I hw
 rw [evalPart_some]
 refine fm (h pins s σ H _ I hw) fun u s1 h_29=>?_
 obtain ⟨x,H1,I1,r1,q1⟩:=h_29
 obtain ⟨i,rfl,q⟩:=q1
 obtain ⟨t,rfl⟩:=r1
 exact ⟨some i,H1,I1,.int i t,q⟩
def Qw (X:Cx) (r:V->Option Int->Option Int->Hp->VK->Prop):Prop :=
 ∀ (pins:List (aa×Obj)) (s:a9) (σ:St) (H:Hp) (x:V) (v vl vu:a7) (lo hi:Option Int) (sl:aa) (Q:VK),bu X pins σ H s->df x v->s.heap.IsSliceOf sl vl vu .none->tH vl lo->tH vu hi->r x lo hi H Q ->
  ∃ T id,gD (.type T) "__getitem__"=pure (some (.builtin id))/\s.TypeIs v T/\ao (aE X.prog X.w) X.A (n_ v (.ref sl)) (EP X pins σ Q) X.xe s
def Uf (r:V->Option Int->Option Int->Hp->VK->Prop) (te:TE) (tl th:TO):TE:=fun σ H Q=>te σ H fun x H1=>tl σ H1 fun l H2=>th σ H2 fun u H3=>r x l u H3 Q
theorem AQ {r:V->Option Int->Option Int->Hp->VK->Prop} (hr:Qw X r) (he:PE X e te) (hl:PO X lo tl) (hu:PO X hi th):PE X (.Subscript e (.Slice lo hi none p2) pos) (Uf r te tl th):=by
 intro pins s σ H Q I h
 refine Subscript_ (fm (he pins s σ H _ I h) fun v s1 ⟨x,H1,I1,r1,q1⟩=>?_)
 refine wpAny_Slice (fm (hl pins s1 σ H1 _ I1 q1) fun vl s2 ⟨l,H2,I2,pl,q2⟩=>fm (hu pins s2 σ H2 _ I2 q2) fun vu s3 ⟨u,H3,I3,pu,q3⟩=>?_)
 rw [evalPart_none]
 refine af ?_
 have I4:bu X pins σ H3 { s3 with heap:=s3.heap.push { cls:=.type "slice",data:=.fields #[vl,vu,.none] } }:=I3.kept (t':=s3.toks) fun b ob q=>a8 _ q
 obtain ⟨T,id,hT,ht,hg⟩:=hr pins { s3 with heap:=s3.heap.push { cls:=.type "slice",data:=.fields #[vl,vu,.none] } } σ H3 x v vl vu l u s3.heap.objs.size Q I4 r1 (Heap.IsSliceOf.new ..) pl pu q3
 show ao (aE X.prog X.w) X.A (FO e (.Slice lo hi none p2) v (.ref s3.heap.objs.size)) (EP X pins σ Q) X.xe { s3 with heap:=s3.heap.push { cls:=.type "slice",data:=.fields #[vl,vu,.none] } }
 exact tail_any (ops:=[.ref s3.heap.objs.size,v]) ht hT hg (by with_unfolding_all rfl)
def uY (xs:List V) (lo hi:Option Int):List V:=(xs.drop (HT.i9 xs.length 0 lo)).take (HT.i9 xs.length xs.length hi - HT.i9 xs.length 0 lo)
theorem uy (xs:List V) (lo hi:Option Int):(uY xs lo hi).length<=xs.length:=by
 unfold uY
 rw [vg,vh]
 omega
def SK (K:a5):V->Option Int->Option Int->Hp->VK->Prop:=fun x lo hi H Q=>∃ a xs,x=.ref a/\jN K H a xs /\
 ¬ (HT.i9 xs.length 0 lo=0/\HT.i9 xs.length xs.length hi=xs.length)/\∀ p,H p=none->Q (.ref p) (upd H p (.tup (uY xs lo hi)))
theorem P1:Qw X (SK X.K):=by
 intro pins s σ H x v vl vu lo hi sl Q I rx hs pl pu h
 obtain ⟨a,xs,rfl,hx,hw,q⟩:=h
 cases rx
 obtain ⟨its,r,ht,hz⟩:=I.tuple hx
 have hlen:its.toArray.size=xs.length:=by rw [aF];exact r.length.symm
 refine ⟨"tuple",_,PyProof.Rows.slot_tuple_getitem.lookup,ht.typeIs,?_⟩
 refine HT.rY ht hs pl pu (by rw [hlen];exact hw) ?_ (by rw [hlen];exact hz)
 rw [hlen]
 refine ⟨.ref s.heap.objs.size,_,I.laid (t':=s.toks) (o:=.tup (uY xs lo hi)) (fun b ob q=>a8 _ q) (ar _) ?_,rfl,q _ (I.hok.fresh (ar _))⟩
 exact ⟨bE (uy xs lo hi) hz,_,(r.drop (HT.i9 xs.length 0 lo)).take (HT.i9 xs.length xs.length hi - HT.i9 xs.length 0 lo),Az _ _⟩
inductive Ip (K:a5) (x:V) (y:V) (H:Hp) (Q:VK):Prop
 | mk (a b xs ys:_) (h0:x=.ref a) (h1:y=.ref b) (h2:jN K H a xs) (h3:jN K H b ys) (h4:xs≠[]) (h5:xs.length + ys.length<=sizeLine) (h6:(ys=[]->Q (.ref a) H)) (h7:(ys≠[]->∀ p,H p=none->Q (.ref p) (upd H p (.tup (xs++ys))))):Ip K x y H Q
def Qx (K:a5):R2:=Ip K
theorem cJ.nil_iff {xs:List V}{us:List a7} (r:cJ xs us):us=[]↔xs=[]:=by
 cases r with
 | nil=>simp
 | cons _ _=>simp
theorem M2:o9 X (gq .Add) (Qx X.K):=by
 intro pins s σ H x y v u Q I rx ry h
 obtain ⟨a,b,xs,ys,rfl,rfl,ha,hb,hx,hz,q1,q2⟩:=h
 cases rx
 cases ry
 obtain ⟨its,r1,p1,_⟩:=I.tuple ha
 obtain ⟨its2,r2,p2,_⟩:=I.tuple hb
 refine HT.LZ p1 p2 (fun z=>hx (r1.nil_iff.mp z)) (fun z=>⟨.ref a,H,I,rfl,q1 (r2.nil_iff.mp z)⟩) (fun z=>?_) (by rw [<- r1.length,<- r2.length];exact hz)
 refine ⟨.ref s.heap.objs.size,_,I.laid (t':=s.toks) (o:=.tup (xs++ys)) (fun b ob q=>a8 _ q) (ar _) ?_,rfl,q2 (fun w=>z (r2.nil_iff.mpr w)) _ (I.hok.fresh (ar _))⟩
 exact ⟨by rw [aR];exact hz,_,r1.append r2,Az _ _⟩
end
end L2
namespace L2
open PySem PySem.Spec PyProof.Rows
def P2 (n:Nat) (i:Int):Option Nat:=if 0<=i then (if i<n then some i.toNat else none) else if -(n:Int)<=i then some (i + n).toNat else none
def Dh {α:Type} (xs:List α) (i:Int):Option α:=(P2 xs.length i).bind fun j=>xs[j]?
theorem M3 {n:Nat}{i:Int}{j:Nat} (h:P2 n i=some j):seqIndex? i n=some j/\j<n/\-(n:Int)<=i/\i<n:=by
 unfold P2 at h
 by_cases h0:0<=i
 ·rw [if_pos h0] at h
  by_cases h1:i<n
  ·rw [if_pos h1] at h
   have e:i.toNat=j:=bw h
   exact ⟨by rw [seqIndex_of h0 h1,e],by omega,by omega,h1⟩
  ·rw [if_neg h1] at h;cases h
 ·rw [if_neg h0] at h
  by_cases h1:-(n:Int)<=i
  ·rw [if_pos h1] at h
   have e:(i + n).toNat=j:=bw h
   exact ⟨by rw [seqIndex_neg (by omega) h1,e],by omega,h1,by omega⟩
  ·rw [if_neg h1] at h;cases h
theorem zk {α:Type}{xs:List α}{i:Int}{v:α} (h:Dh xs i=some v):∃ j,seqIndex? i xs.length=some j/\xs[j]?=some v/\j<xs.length/\-(xs.length:Int)<=i/\i<xs.length:=by
 unfold Dh at h
 cases e:P2 xs.length i with
 | none=>rw [e] at h;cases h
 | some j =>
  rw [e] at h
  obtain ⟨h1,h2,h3,h4⟩:=M3 e
  exact ⟨j,h1,h,h2,h3,h4⟩
theorem rZ {α:Type}{xs:List α}{j:Nat}{v:α} (h:xs[j]?=some v):Dh xs (j:Int)=some v:=by
 have hj:j<xs.length:=(List.getElem?_eq_some_iff.mp h).1
 have e:P2 xs.length (j:Int)=some j:=by
  unfold P2
  rw [if_pos (by omega),if_pos (by omega)];simp
 unfold Dh;rw [e];exact h
def vk (b:aO):Prop:=∀ o i,AA b false o i=operate [o,i] (n_ o i)
def Qy (X:Cx) (r:R2):Prop :=
 ∀ (value slice:aO) (pins:List (aa×Obj)) (s:a9) (σ:St) (H:Hp) (x y:V) (v u:a7) (Q:VK),bu X pins σ H s->df x v->df y u->r x y H Q ->
  AA slice false v u=operate [v,u] (n_ v u)->ao (aE X.prog X.w) X.A (FO value slice v u) (EP X pins σ Q) X.xe s
def SL (X:Cx) (id:String) (r:V->List V->Hp->VK->Prop):Prop :=
 ∀ (pins:List (aa×Obj)) (s:a9) (σ:St) (H:Hp) (x:V) (xs:List V) (v:a7) (us:List a7) (Q:VK),bu X pins σ H s->df x v->cJ xs us->r x xs H Q ->
  ao (aE X.prog X.w) X.A (call (.builtin id) (v::us)) (EP X pins σ Q) X.xe s
section
variable {X:Cx}{a b:aO}{ta tb:TE}{pos:Pos}
theorem NG {r:R2} (hr:Qy X r) (ha:PE X a ta) (hb:PE X b tb) (hs:vk b):PE X (.Subscript a b pos) (Qo r ta tb):=by
 intro pins s σ H Q I h
 exact Subscript_ (OS ha hb I h fun v u s2 x y H2 I2 rx ry q=>hr a b pins s2 σ H2 x y v u Q I2 rx ry q (hs _ _))
inductive NH (K:a5) (x:V) (y:V) (H:Hp) (Q:VK):Prop
 | mk (p xs i v:_) (h0:x=.ref p) (h1:y=.int i) (h2:l5 K H p xs) (h3:Dh xs i=some v) (h4:Q v H):NH K x y H Q
def SM (K:a5):R2:=NH K
inductive NI (K:a5) (x:V) (y:V) (H:Hp) (Q:VK):Prop
 | mk (p xs i v:_) (h0:x=.ref p) (h1:y=.int i) (h2:jN K H p xs) (h3:Dh xs i=some v) (h4:Q v H):NI K x y H Q
def SO (K:a5):R2:=NI K
inductive NJ (x:V) (y:V) (H:Hp) (Q:VK):Prop
 | mk (z i c:_) (h0:x=.str z) (h1:y=.int i) (h2:z.length<=sizeLine) (h3:Dh z.cps.toList i=some c) (h4:Q (.str ⟨#[c]⟩) H):NJ  x y H Q
def SQ:R2:=NJ
theorem jT:Qy X (SM X.K):=by
 intro value slice pins s σ H x y v u Q I rx ry h hs
 obtain ⟨p,xs,i,z,rfl,rfl,hq,he,q⟩:=h
 cases rx
 obtain ⟨t,rfl⟩:=ry
 obtain ⟨its,r,pl,hz⟩:=I.list hq
 obtain ⟨j,h1,h2,h3,h4,h5⟩:=zk he
 obtain ⟨w,ew,rw'⟩:=r.get h2
 have hl:=r.length
 have hn:=vN
 have fin:EP X pins σ Q w s:=⟨z,H,I,rw',q⟩
 by_cases h0:0<=i
 ·have hj:i.toNat=j:=by
   rw [seqIndex_of h0 h5] at h1
   exact bw h1
  exact item_listR pl.isList h0 (by omega) (by rw [hj];simpa using ew) fin hs
 ·have hj:(i + (its.toArray.size:Int)).toNat=j:=by
   rw [seqIndex_neg (by omega) h4] at h1
   rw [aF,<- hl]
   exact bw h1
  exact HE (x:=w) pl.isList.typeIs slot_list_getitem.lookup
   (wpAny_getItem_list_neg (Q:=fun r s'=>r=w/\EP X pins σ Q r s') pl.isList (by omega) (by rw [aF]<;>omega) (by omega) (by rw [hj];simpa using ew) ⟨rfl,fin⟩) hs
theorem P3:Qy X (SO X.K):=by
 intro value slice pins s σ H x y v u Q I rx ry h hs
 obtain ⟨p,xs,i,z,rfl,rfl,hq,he,q⟩:=h
 cases rx
 obtain ⟨t,rfl⟩:=ry
 obtain ⟨its,r,pl,hz⟩:=I.tuple hq
 obtain ⟨j,h1,h2,h3,h4,h5⟩:=zk he
 obtain ⟨w,ew,rw'⟩:=r.get h2
 have hl:=r.length
 have hn:=vN
 have fin:EP X pins σ Q w s:=⟨z,H,I,rw',q⟩
 exact HE (x:=w) pl.typeIs slot_tuple_getitem.lookup
  (getItem_tuple (j:=j) (Q:=fun r s'=>r=w/\EP X pins σ Q r s') pl (by omega) (by omega) (by rw [aF,<- hl];exact h1) (by simpa using ew) ⟨rfl,fin⟩) hs
theorem P4:Qy X SQ:=by
 intro value slice pins s σ H x y v u Q I rx ry h hs
 obtain ⟨z,i,c,rfl,rfl,hz,he,q⟩:=h
 obtain ⟨t,rfl⟩:=rx
 obtain ⟨t',rfl⟩:=ry
 obtain ⟨j,h1,h2,h3,h4,h5⟩:=zk he
 have hl:z.cps.toList.length=z.length:=by simp [Str.length]
 rw [hl] at h1 h4 h5
 have hn:=vN
 exact tail_any (typeIs_str s z t) slot_str_getitem.lookup (getItem_str (c:=c) (by
  have e1:decide (i < -(2 ^ 63:Int))=false:=decide_eq_false (by omega)
  have e2:decide (i ≥ 2 ^ 63)=false:=decide_eq_false (by omega)
  rw [e1,e2,Bool.or_false]) (by rw [h1];simpa using h2) ⟨.str ⟨#[c]⟩,H,I.tok _,⟨_,rfl⟩,q⟩) hs
theorem zm (lo hi:Option Int) (n:Nat):(kZ lo hi none n).1=((HT.i9 n 0 lo:Nat):Int)/\(kZ lo hi none n).2.1=((HT.i9 n n hi:Nat):Int)/\(kZ lo hi none n).2.2=1:=by
 refine ⟨?_,?_,rfl⟩
 ·cases lo with
  | none=>simp [kZ,HT.i9]
  | some i =>
   simp only [kZ,HT.i9,gf,show (1:Int) > 0 by decide,if_true]
   by_cases h:i<0
   ·simp only [h,if_true]<;>omega
   ·simp only [h,if_false]<;>omega
 ·cases hi with
  | none=>simp [kZ,HT.i9]
  | some i =>
   simp only [kZ,HT.i9,gf,show (1:Int) > 0 by decide,if_true]
   by_cases h:i<0
   ·simp only [h,if_true]<;>omega
   ·simp only [h,if_false]<;>omega
theorem xr (its:List a7) (lo hi:Option Int):slicePick its.toArray lo hi none=((its.drop (HT.i9 its.length 0 lo)).take (HT.i9 its.length its.length hi - HT.i9 its.length 0 lo)).toArray:=by
 obtain ⟨h1,h2,h3⟩:=zm lo hi its.toArray.size
 unfold slicePick
 rw [h1,h2,h3]
 simp only [sliceRange_one,pick_run,aF]<;>rfl
def SS (K:a5):V->Option Int->Option Int->Hp->VK->Prop:=fun x lo hi H Q=>∃ a xs,x=.ref a/\l5 K H a xs/\∀ p,H p=none->Q (.ref p) (upd H p (.lst (uY xs lo hi)))
theorem EE:Qw X (SS X.K):=by
 intro pins s σ H x v vl vu lo hi sl Q I rx hs pl pu h
 obtain ⟨a,xs,rfl,hx,q⟩:=h
 cases rx
 obtain ⟨its,r,ht,hz⟩:=I.list hx
 have hlen:=r.length
 refine ⟨"list",_,slot_list_getitem.lookup,ht.isList.typeIs,?_⟩
 refine wpAny_getItem_list_slice ht.isList hs pl pu .none (by simp) ?_ (by rw [aF]<;>omega)
 rw [xr,<- hlen]
 refine ⟨.ref s.heap.objs.size,_,I.laid (t':=s.toks) (o:=.lst (uY xs lo hi)) (fun b ob q=>a8 _ q) (ar _) ?_,rfl,q _ (I.hok.fresh (ar _))⟩
 exact ⟨bE (uy xs lo hi) hz,_,0,(r.drop (HT.i9 xs.length 0 lo)).take (HT.i9 xs.length xs.length hi - HT.i9 xs.length 0 lo),ax _ rfl⟩
def oB:V->Bool
 | .non=>true
 | .bl _=>true
 | .int _=>true
 | .str _=>true
 | _=>false
def M4:V->V->Bool
 | .non,.non=>true
 | .bl a,.bl b=>a == b
 | .bl a,.int b=>(if a then 1 else 0) == b
 | .int a,.bl b=>a == (if b then 1 else 0)
 | .int a,.int b=>a == b
 | .str a,.str b=>a == b
 | _,_=>false
theorem P5 {A:aP}{s:a9}{y x:V}{u v:a7} (ry:df y u) (rx:df x v) (fy:oB y=true) (fx:oB x=true):FP A s u v (M4 y x):=by
 cases y with
 | non =>
  cases ry
  cases x with
  | non=>cases rx;exact SeqAt.EqAt.same _
  | bl b=>cases rx;exact SeqAt.EqAt.none_bool b
  | int b=>obtain ⟨t,rfl⟩:=rx;exact SeqAt.EqAt.none_int b t
  | str b=>obtain ⟨t,rfl⟩:=rx;exact SeqAt.EqAt.none_str b t
  | _=>exact absurd (show false=true from fx) aL
 | bl a =>
  cases ry
  cases x with
  | non=>cases rx;exact SeqAt.EqAt.bool_none a
  | bl b=>cases rx;exact xV a b
  | int b=>obtain ⟨t,rfl⟩:=rx;exact SeqAt.EqAt.bool_int a b t
  | str b=>obtain ⟨t,rfl⟩:=rx;exact SeqAt.EqAt.bool_str a b t
  | _=>exact absurd (show false=true from fx) aL
 | int a =>
  obtain ⟨t',rfl⟩:=ry
  cases x with
  | non=>cases rx;exact SeqAt.EqAt.int_none a t'
  | bl b=>cases rx;exact SeqAt.EqAt.int_bool a t' b
  | int b=>obtain ⟨t,rfl⟩:=rx;exact SeqAt.EqAt.int_int a t' b t
  | str b=>obtain ⟨t,rfl⟩:=rx;exact Av a t' b t
  | _=>exact absurd (show false=true from fx) aL
 | str a =>
  obtain ⟨t',rfl⟩:=ry
  cases x with
  | non=>cases rx;exact SeqAt.EqAt.str_none a t'
  | bl b=>cases rx;exact SeqAt.EqAt.str_bool a t' b
  | int b=>obtain ⟨t,rfl⟩:=rx;exact Aw a t' b t
  | str b=>obtain ⟨t,rfl⟩:=rx;exact SeqAt.EqAt.str_str a t' b t
  | _=>exact absurd (show false=true from fx) aL
 | _=>exact absurd (show false=true from fy) aL
def Di (x:V) (u:a7):Bool:=match u with
 | .none=>M4 .non x
 | .bool b=>M4 (.bl b) x
 | .int i _=>M4 (.int i) x
 | .str z _=>M4 (.str z) x
 | _=>false
theorem Iq {x y:V}{u:a7} (r:df y u) (f:oB y=true):Di x u=M4 y x:=by
 cases y with
 | non=>cases r;rfl
 | bl b=>cases r;rfl
 | int i=>obtain ⟨t,rfl⟩:=r;rfl
 | str z=>obtain ⟨t,rfl⟩:=r;rfl
 | _=>exact absurd (show false=true from f) aL
theorem r_ {x:V}:∀ {xs:List V}{us:List a7},cJ xs us->xs.all oB=true->us.any (Di x)=xs.any fun y=>M4 y x
 | _,_,.nil,_=>rfl
 | y::xs,u::us,.cons r t,f=>by
  rw [rP,aS] at f
  rw [eT,eT,Iq r f.1,r_ t f.2]
theorem oC {A:aP}{s:a9}{x:V}{v:a7} (rx:df x v) (fx:oB x=true):∀ {xs:List V}{us:List a7},cJ xs us->xs.all oB=true->∀ u∈us,FP A s u v (Di x u)
 | _,_,.nil,_=>fun u hu=>by cases hu
 | y::xs,u::us,.cons r t,f=>fun u' hu=>by
  rw [rP,aS] at f
  rcases List.mem_cons.mp hu with rfl | hu
  ·rw [Iq r f.1];exact P5 r rx f.1 fx
  ·exact oC rx fx t f.2 u' hu
def S3 (x:V) (xs:List V):Bool:=xs.any fun y=>M4 y x
inductive Qz (K:a5) (neg:Bool) (x:V) (y:V) (H:Hp) (Q:VK):Prop
 | mk (p xs:_) (h0:y=.ref p) (h1:(l5 K H p xs\/jN K H p xs)) (h2:oB x=true) (h3:xs.all oB=true) (h4:Q (.bl (if neg then !S3 x xs else S3 x xs)) H):Qz K neg x y H Q
def SU (K:a5) (neg:Bool):R2:=Qz K neg
theorem G6:o9 X (bI .In) (SU X.K false):=by
 intro pins s σ H x y v u Q I rx ry h
 obtain ⟨p,xs,rfl,hq,fx,fs,q⟩:=h
 cases ry
 rcases hq with hq | hq
 ·obtain ⟨its,r,pl,hz⟩:=I.list hq
  refine SeqAt.in_listAt (Di x) pl.isList (fun w hw=>oC rx fx r fs w (by simpa using hw)) ⟨.bl _,H,I,rfl,?_⟩
  rw [show its.toArray.any (Di x)=its.any (Di x) by simp,r_ r fs]
  exact q
 ·obtain ⟨its,r,pl,hz⟩:=I.tuple hq
  refine SeqAt.in_tupleAt (Di x) pl (fun w hw=>oC rx fx r fs w (by simpa using hw)) ⟨.bl _,H,I,rfl,?_⟩
  rw [show its.toArray.any (Di x)=its.any (Di x) by simp,r_ r fs]
  exact q
theorem zo:o9 X (bI .NotIn) (SU X.K true):=by
 intro pins s σ H x y v u Q I rx ry h
 obtain ⟨p,xs,rfl,hq,fx,fs,q⟩:=h
 cases ry
 rcases hq with hq | hq
 ·obtain ⟨its,r,pl,hz⟩:=I.list hq
  refine SeqAt.notIn_listAt (Di x) pl.isList (fun w hw=>oC rx fx r fs w (by simpa using hw)) ⟨.bl _,H,I,rfl,?_⟩
  rw [show its.toArray.any (Di x)=its.any (Di x) by simp,r_ r fs]
  exact q
 ·obtain ⟨its,r,pl,hz⟩:=I.tuple hq
  refine SeqAt.notIn_tupleAt (Di x) pl (fun w hw=>oC rx fx r fs w (by simpa using hw)) ⟨.bl _,H,I,rfl,?_⟩
  rw [show its.toArray.any (Di x)=its.any (Di x) by simp,r_ r fs]
  exact q
theorem s9:iM X (.builtin "len") (fun xs H Q=>∃ p ys,xs=[.ref p]/\(l5 X.K H p ys\/jN X.K H p ys)/\Q (.int ys.length) H):=by
 intro pins s σ H xs us Q I r h
 obtain ⟨p,ys,rfl,hq,q⟩:=h
 obtain ⟨u,rfl,rx⟩:=jA r
 cases rx
 have hn:=vN
 rcases hq with hq | hq
 ·obtain ⟨its,r',pl,hz⟩:=I.list hq
  have hlen:=r'.length
  exact Calls.call_len_list pl.isList (by simp only [aF]<;>omega) ⟨.int ys.length,H,I.tok _,⟨s.toks + 1,by rw [aF,hlen]⟩,q⟩
 ·obtain ⟨its,r',pl,hz⟩:=I.tuple hq
  have hlen:=r'.length
  exact len_tuple pl (by simp only [aF]<;>omega) ⟨.int ys.length,H,I.tok _,⟨s.toks + 1,by rw [aF,hlen]⟩,q⟩
theorem zq:iM X (.builtin "len") (fun xs H Q=>∃ z,xs=[.str z]/\z.length<=sizeLine/\Q (.int z.length) H):=by
 intro pins s σ H xs us Q I r h
 obtain ⟨z,rfl,hz,q⟩:=h
 obtain ⟨u,rfl,t,rfl⟩:=jA r
 have hn:=vN
 exact len_str (by omega) ⟨.int z.length,H,I.tok _,⟨_,rfl⟩,q⟩
theorem sd:iM X (.type "list") (fun xs H Q=>∃ p ys,xs=[.ref p]/\(l5 X.K H p ys\/jN X.K H p ys)/\∀ l,H l=none->Q (.ref l) (upd H l (.lst ys))):=by
 intro pins s σ H xs us Q I r h
 obtain ⟨p,ys,rfl,hq,q⟩:=h
 obtain ⟨u,rfl,rx⟩:=jA r
 cases rx
 have fin:∀ (its:List a7),cJ ys its->ys.length<=sizeLine->∀ (h':a_) (c':Nat),(∀ b o',s.heap.get? b=some o'->h'.get? b=some o') ->
   h'.get? s.heap.objs.size=some { cls:=.type "list",dict:=none,data:=.seq its.toArray c',slots:=#[] }->EP X pins σ Q (.ref s.heap.objs.size) { s with heap:=h' }:=fun its r' hz h' c' kp e =>
  ⟨.ref s.heap.objs.size,_,I.laid (t':=s.toks) kp (ar _) (show dk X.prog X.w _ h' _ (.lst ys) from ⟨hz,its,c',r',e⟩),rfl,q _ (I.hok.fresh (ar _))⟩
 rcases hq with hq | hq
 ·obtain ⟨its,r',pl,hz⟩:=I.list hq
  have hlen:=r'.length
  obtain ⟨o,ho,hc,n,hd⟩:=pl.isList
  exact call_list_seq p (.inl rfl) ho hc hd (fun h' c' kp e=>fin its r' hz h' c' kp e) (by simp only [aF]<;>omega)
 ·obtain ⟨its,r',pl,hz⟩:=I.tuple hq
  have hlen:=r'.length
  obtain ⟨o,ho,hc,n,hd⟩:=pl
  exact call_list_seq p (.inr rfl) ho hc hd (fun h' c' kp e=>fin its r' hz h' c' kp e) (by simp only [aF]<;>omega)
theorem qr:iM X (.type "tuple") (fun xs H Q=>∃ p ys,xs=[.ref p]/\((l5 X.K H p ys/\∀ l,H l=none->Q (.ref l) (upd H l (.tup ys)))\/(jN X.K H p ys/\Q (.ref p) H))):=by
 intro pins s σ H xs us Q I r h
 obtain ⟨p,ys,rfl,h⟩:=h
 obtain ⟨u,rfl,rx⟩:=jA r
 cases rx
 rcases h with ⟨hq,q⟩ | ⟨hq,q⟩
 ·obtain ⟨its,r',pl,hz⟩:=I.list hq
  have hlen:=r'.length
  refine call_tuple_list pl.isList (fun h' kp=>?_) (by simp only [aF]<;>omega)
  have I1:bu X pins σ H { s with heap:=h' }:=I.kept (t':=s.toks) kp
  have I2:bu X pins σ (upd H h'.objs.size (.tup ys)) { s with heap:=h'.push { cls:=.type "tuple",data:=.seq its.toArray } } :=
   I1.laid (t':=s.toks) (fun b o e=>a8 _ e) (ar _) (show dk X.prog X.w _ _ _ (.tup ys) from ⟨hz,its,r',Az _ _⟩)
  exact ⟨.ref h'.objs.size,_,I2,rfl,q _ (I1.hok.fresh (ar _))⟩
 ·obtain ⟨its,r',pl,hz⟩:=I.tuple hq
  exact call_tuple_same pl ⟨.ref p,H,I,rfl,q⟩
def TD (K:a5) (T:String) (x:V) (H:Hp):Prop:=match x with
 | .str _=>T="str"
 | .int _=>T="int"
 | .ref p=>(T="list"/\∃ xs,l5 K H p xs)\/(T="tuple"/\∃ o,K.lookup p=some o/\o.cls=.type "tuple"/\o.dict=none) \/
   (T="dict"/\((∃ kvs,H p=some (.dK kvs))\/∃ kvs,H p=some (.dT kvs)))\/(T="set"/\∃ S n,H p=some (.set S n))
 | _=>False
theorem P6 {pins:List (aa×Obj)}{σ:St}{H:Hp}{s:a9}{T:String}{x:V}{v:a7} (I:bu X pins σ H s) (r:df x v) (ty:TD X.K T x H) :
  s.TypeIs v T/\∀ a,v=.ref a->∃ ob,s.heap.get? a=some ob/\ob.dict=none:=by
 cases x with
 | str z =>
  obtain ⟨t,rfl⟩:=r
  cases (show T="str" from ty)
  exact ⟨typeIs_str s z t,fun _ e=>nomatch e⟩
 | int i =>
  obtain ⟨t,rfl⟩:=r
  cases (show T="int" from ty)
  exact ⟨typeIs_int s i t,fun _ e=>nomatch e⟩
 | ref p =>
  cases r
  rcases ty with ⟨rfl,xs,hq⟩ | ⟨rfl,o,hk,hc,hd⟩ | ⟨rfl,hk⟩ | ⟨rfl,S,n,hk⟩
  ·obtain ⟨its,_,pl,_⟩:=I.list hq
   refine ⟨pl.isList.typeIs,fun a e=>?_⟩
   cases e
   obtain ⟨o,n,e,c,hd,_⟩:=pl
   exact ⟨o,e,hd⟩
  ·refine ⟨⟨o,I.kIn p o hk,hc⟩,fun a e=>?_⟩
   cases e
   exact ⟨o,I.kIn _ o hk,hd⟩
  ·have z:∃ o,s.heap.get? p=some o/\o.ExactDict:=by
    rcases hk with ⟨kvs,hk⟩ | ⟨kvs,hk⟩
    ·obtain ⟨_,_,_,_,o,_,_,e,ex,_⟩:=I.hok p _ hk
     exact ⟨o,e,ex⟩
    ·obtain ⟨_,_,_,_,o,_,_,e,ex,_⟩:=I.hok p _ hk
     exact ⟨o,e,ex⟩
   obtain ⟨o,e,ex⟩:=z
   refine ⟨⟨o,e,ex.1⟩,fun a e2=>?_⟩
   cases e2
   exact ⟨o,e,ex.2.1⟩
  ·obtain ⟨o,_,_,_,e,ex,_⟩:=I.hok p _ hk
   refine ⟨⟨o,e,ex.1⟩,fun a e2=>?_⟩
   cases e2
   exact ⟨o,e,ex.2.1⟩
 | _=>exact e6 ty
def Ug (K:a5) (T:String) (r:V->List V->Hp->VK->Prop) (to:TE) (t:TA):TE:=fun σ H Q=>to σ H fun x H1=>TD K T x H1/\t σ H1 fun xs H2=>r x xs H2 Q
variable {o e:aO}{es:List aO}{to:TE}{t:TA}{name:Str}{apos cpos:Pos}{T id:String}{r:V->List V->Hp->VK->Prop}
theorem uz (pa:PlainAttrs T) (slot:Slot T name id) (hty:typeOf (.builtin id)=pure (.type "method_descriptor")) (hm:SL X id r) (ho:PE X o to) (ha:PA X (e::es) t)
  (hbase:oj o name X.env (cp o X.env)=cp o X.env:=by rfl)
  (hfew:((dz cpos (ak (e::es) X.env)).all (fun x=>!x.1) && (CV cpos (tJ [] X.env)).all (fun x=>x.1.isSome)
   && decide ((e::es).length + ([] : List mq).length + (if ([] : List mq).isEmpty then 0 else 1)<30))=true:=by rfl)
  (hline:(apos.endLine == cpos.line)=true:=by rfl) (hs:ak (e::es) X.env=(false,cp e X.env)::ak es X.env:=by rfl) (hplain:(dz cpos (ak es X.env)).any (·.1)=false:=by rfl) :
  PE X (.Call (.Attribute o name apos) (e::es) [] cpos) (Ug X.K T r to t):=by
 intro pins s σ H Q I h
 refine wpAny_Call_method_late hbase hfew hline rfl (fm (ho pins s σ H _ I h) fun v s1 ⟨x,H1,I1,r1,ty,q1⟩=>?_)
 obtain ⟨h1,h2⟩:=P6 I1 r1 ty
 refine ⟨T,id,pa,slot,hty,h1,h2,?_⟩
 have hA:=ha cpos pins s1 σ H1 _ I1 q1
 rw [hs] at hA ⊢
 refine Calls.callWith_builtin (by show (false || (dz cpos (ak es X.env)).any (·.1))=false;rw [hplain]<;>rfl) (q0 ?_)
 exact fm hA fun us s2 h_30=>by obtain ⟨vs,H2,I2,r2,q2⟩:=h_30;exact hm pins s2 σ H2 x vs v us Q I2 r1 r2 q2
end
end L2
namespace L2
open PySem PySem.Spec PyProof.Rows
def SW (X:Cx) (id:String) (r:V->List V->Hp->VK->Prop):Prop :=
 ∀ (pins:List (aa×Obj)) (s:a9) (σ:St) (H:Hp) (x:V) (xs:List V) (v:a7) (us:List a7) (Q:VK),bu X pins σ H s->df x v->cJ xs us->r x xs H Q ->
  ao (aE X.prog X.w) X.A (call (.builtin id) (v::us)) (EP X pins σ Q) X.xe s
theorem cJ.one {x:V}{us:List a7} (h:cJ [x] us):∃ u,us=[u]/\df x u:=by
 cases h with | cons r t=>cases t;exact ⟨_,rfl,r⟩
theorem cJ.rep {xs:List V}{us:List a7} (h:cJ xs us):∀ k:Nat,cJ (bd k xs).flatten (bd k us).flatten
 | 0=>.nil
 | k + 1=>by
  rw [cB,cB,fM,fM]
  exact cJ.append h (cJ.rep h k)
theorem yi (its:List a7):∀ (k:Nat) (acc:List a7),
  Hq (fun x1 x2=>x1++x2) acc.toArray (bd k its.toArray)=(acc++(bd k its).flatten).toArray
 | 0,acc=>by simp
 | k + 1,acc=>by
  have e:acc.toArray++its.toArray=(acc++its).toArray:=by simp
  have e2:(acc++its)++(bd k its).flatten=acc++(bd (k + 1) its).flatten:=by
   rw [cB,fM,eJ]
  rw [<- e2,<- yi its k (acc++its),<- e,cB,iQ]
section
variable {X:Cx}{pins:List (aa×Obj)}{σ:St}{H:Hp}{s:a9}{l b:aa}{xs ys zs:List V}
theorem bu.lset {its its':List a7}{n:Nat}{f:Array a7->Array a7}{t':Nat} (I:bu X pins σ H s) (hH:H l=some (.lst xs))
  (e:s.heap.get? l=some { cls:=.type "list",data:=.seq its.toArray n }) (hf:f its.toArray=its'.toArray) (hv:cJ ys its') (hz:ys.length<=sizeLine) :
  bu X pins σ (upd H l (.lst ys)) { s with heap:=s.heap.update l (iV f),toks:=t' }:=by
 have q:=PySem.IsL.update e f
 rw [hf] at q
 refine I.write (x:=l) (e:=l) (by rw [hH];exact trivial) (.inl rfl) (fun b' u hb hu=>(o0 s.heap (iV f) (eA hb)).trans hu) ⟨_,q⟩ ?_
 exact ⟨hz,its',_,hv,q⟩
theorem bu.lnew {its:List a7}{t':Nat} (I:bu X pins σ H s) (hv:cJ ys its) (hz:ys.length<=sizeLine) :
  bu X pins σ (upd H s.heap.objs.size (.lst ys)) { s with heap:=s.heap.push { cls:=.type "list",data:=.seq its.toArray },toks:=t' } :=
 I.laid (fun _ _ q=>a8 _ q) (ar _) ⟨hz,its,0,hv,ax _ rfl⟩
theorem bu.fresh (I:bu X pins σ H s):H s.heap.objs.size=none:=I.hok.fresh (ar _)
theorem bu.lstM (I:bu X pins σ H s) (hH:H l=some (.lst xs)):Tx s.heap l xs:=by
 obtain ⟨z,its,n,r,e⟩:=I.hok l _ hH
 exact ⟨z,its,n,r,r.length,e⟩
theorem vP {n:Nat} (h:n<=sizeLine):fh n=false:=by
 unfold fh
 exact decide_eq_false (by omega)
end
section
variable {X:Cx}
inductive AR (x:V) (vs:List V) (H:Hp) (Q:VK):Prop
 | mk (l xs y:_) (h0:x=.ref l) (h1:vs=[y]) (h2:H l=some (.lst xs)) (h3:xs.length<sizeLine) (h4:Q .non (upd H l (.lst (xs++[y])))):AR  x vs H Q
def M5:V->List V->Hp->VK->Prop:=AR
theorem tX:SW X "list.append" M5:=by
 intro pins s σ H x vs v us Q I rx rv h
 obtain ⟨l,xs,y,rfl,rfl,hH,hz,q⟩:=h
 cases rx
 obtain ⟨u,rfl,ru⟩:=rv.one
 obtain ⟨z,its,n,r,hl,e⟩:=I.lstM hH
 refine ki F.slot_list_append ⟨_,e,rfl⟩ F.entry_list_append (F.args_list_append_2 _ _) (PySem.list_append l its.toArray n u (by rw [aF];omega)) ⟨e,?_⟩
 refine ⟨.non,_,I.lset (its':=its++[u]) hH e (by simp) (r.append (.cons ru .nil)) ?_,rfl,q⟩
 rw [aR,dY]
 omega
inductive AS (x:V) (vs:List V) (H:Hp) (Q:VK):Prop
 | mk (l b xs zs:_) (h0:x=.ref l) (h1:vs=[.ref b]) (h2:H l=some (.lst xs)) (h3:H b=some (.lst zs)) (h4:xs.length + zs.length<=sizeLine) (h5:Q .non (upd H l (.lst (xs++zs)))):AS  x vs H Q
def M6:V->List V->Hp->VK->Prop:=AS
theorem yj:SW X "list.extend" M6:=by
 intro pins s σ H x vs v us Q I rx rv h
 obtain ⟨l,b,xs,zs,rfl,rfl,hH,hB,hz,q⟩:=h
 cases rx
 obtain ⟨u,rfl,ru⟩:=rv.one
 cases ru
 obtain ⟨z,its,n,r,hl,e⟩:=I.lstM hH
 obtain ⟨z2,its2,n2,r2,hl2,e2⟩:=I.lstM hB
 have hsz:its.toArray.size + its2.toArray.size<=sizeLine:=by rw [aF,aF];omega
 have hlong:¬ (!its.toArray.isEmpty && fh (its.toArray.size + its2.toArray.size))=true:=by
  rw [vP hsz,Bool.and_false]
  exact aL
 refine ki Ls ⟨_,e,rfl⟩ Lf (HF _ _)
  (AutoSeq1.list_extend_list_list_0 l its.toArray n b its2.toArray n2 hlong (by rw [aF];omega) (by omega)) ⟨e,e2,?_⟩
 refine ⟨.non,_,I.lset (its':=its++its2) hH e (by simp) (r.append r2) ?_,rfl,q⟩
 rw [aR]
 omega
def SX:R2:=fun x y H Q=>∃ l k xs,x=.ref l/\y=.int k/\H l=some (.lst xs)/\-(2 ^ 63)<=k/\k<2 ^ 63/\xs.length * k.toNat<=sizeLine /\
 ∀ p,H p=none->Q (.ref p) (upd H p (.lst (bd k.toNat xs).flatten))
theorem M7 {α:Type} (xs:List α) (k:Nat):(bd k xs).flatten.length=k * xs.length:=by
 induction k with
 | zero=>simp
 | succ k ih=>rw [cB,fM,aR,ih,Nat.succ_mul,Nat.add_comm]
theorem P7:o9 X (gq .Mult) SX:=by
 intro pins s σ H x y v u Q I rx ry h
 obtain ⟨l,k,xs,rfl,rfl,hH,h1,h2,hz,q⟩:=h
 cases rx
 obtain ⟨t,rfl⟩:=ry
 obtain ⟨z,its,n,r,hl,e⟩:=I.lstM hH
 have hlen:its.toArray.size * k.toNat<=sizeLine:=by rw [aF,<- hl];exact hz
 have hcap:¬ its.toArray.size * k.toNat > (2 ^ 63 - 1) / 8:=by
  have:(sizeLine:Nat)<=(2 ^ 63 - 1) / 8:=by decide
  omega
 have hfit:¬ (!Builtin.List.listFitsIndex k)=true:=by
  rw [fitsIndex_both h1 h2]
  exact aL
 have hlong:¬ fh (its.toArray.size * k.toNat)=true:=by
  rw [vP hlen]
  exact aL
 have hnew:Hq (fun x1 x2=>x1++x2) #[] (bd (if its.toArray.isEmpty=true then 0 else k.toNat) its.toArray)=(bd k.toNat its).flatten.toArray:=by
  have f0:∀ m:Nat,Hq (fun x1 x2=>x1++x2) #[] (bd m its.toArray)=(bd m its).flatten.toArray:=fun m=>by
   have:=yi its m []
   rw [fJ] at this
   exact this
  rw [f0]
  cases its with
  | nil=>simp
  | cons a r'=>rw [if_neg (by simp)]
 refine wpAny_binaryOp_repeat_ref (T:="list") (U:="int") (by decide) ⟨_,e,rfl⟩ (fun s'=>typeIs_int s' k t) noFill_list_mul F.fills_int_mul F.slot_int_rmul repeat_list F.slot_int_index.lookup
  (ki F.slot_int_rmul (typeIs_int s k t) F.entry_int_rmul (F.args_int_rmul_2 _ _) (int___rmul___int_list k t l its.toArray n)
   ⟨e,rfl,⟨_,e,rfl⟩,ki F.slot_list_mul ⟨_,e,rfl⟩ F.entry_list_mul (F.args_list_mul_2 _ _) (AutoListH.list___mul___list_int_3 l its.toArray n k t hfit hcap hlong) ⟨e,?_⟩⟩)
 rw [hnew]
 exact ⟨.ref _,_,I.lnew (t':=s.toks) (r.rep k.toNat) (by rw [M7,Nat.mul_comm];exact hz),rfl,q _ I.fresh⟩
end
section
variable {prog:aB}{w:aT}{A:aP}{E:a7->a9->Prop}{s:a9}
end
section
variable {X:Cx}
end
end L2
namespace Att
open PySem PySem.W PySem.Calls PyProof.Rows
theorem uZ {P:Params}{h:a_}:∀ (ns:List Int) (vs:List a7),WellAll P h vs (ns.map WData.int)->HG vs ns:=by
 intro ns
 induction ns with
 | nil =>
  intro vs w
  rw [dL] at w
  cases w
  exact .nil
 | cons n ns ih =>
  intro vs w
  rw [aK] at w
  cases w with
  | cons a b =>
   cases a
   exact .cons _ _ (ih _ b)
theorem G7 {l:OpenLaw}{n:Nat} (hn:l.most=some n) {P:Params}{h:a_}{args:List WData}{vals:List a7}
  (hpre:l.row.toRowW.claim.pre args=true) (hwl:WellAll P h vals args) :
  ∃ a vs ns,vals=[bC a]/\args=[WData.list (ns.map WData.int)]/\h.get? a=some { cls:=.type "list",data:=.seq vs.toArray }/\HG vs ns/\ns.length<=n:=by
 have hsh:WShape.hasAll [] args [.list .int]=true:=(pre_splitW hpre).1
 have hc:l.pre.holds [] { args:=args }=true:=(pre_splitW hpre).2
 obtain ⟨d,r,rfl,h1,h2⟩:=hasAllW_cons hsh
 obtain rfl:=hasAllW_nil h2
 obtain ⟨xs,rfl,h3⟩:=hasW_list h1
 obtain ⟨ns,rfl⟩:=items_int h3
 have hlen:ns.length<=n:=by
  unfold OpenLaw.pre at hc
  have h4:(WTm.not (.lt (.lit (.int (n:Int))) (.len (.arg 0)))).holds [] { args:=[.list (ns.map .int)] }=true:=by
   have h4:=(holds_andW hc).1
   rw [hn] at h4
   exact h4
  have h5:=condW_of h4 (w_not (w_lt w_lit (w_len_list (w_arg rfl))))
  rw [au] at h5
  refine Lu fun q=>?_
  have q':(n:Int)<((ns.length:Nat):Int):=by omega
  first
   | (rw [decide_eq_true q'] at h5;exact absurd h5 (by decide))
   | (simp at h5;omega)
 cases hwl with
 | cons w1 w2 =>
  cases w2
  cases w1 with
  | list ho hall=>exact ⟨_,_,ns,rfl,rfl,ho,uZ ns _ hall,hlen⟩
theorem G8 (l:OpenLaw) (args:List WData):l.row.toRowW.claim.post args (.bool true) args=true :=
 postW_of (r:=l.row.toRowW) (X:=(true == true))
  (show WShape.has [] (.bool true) .bool=true by first | rfl | decide | simp [WShape.has,WShape.arms,WShape.armsAll])
  (show (WTm.eq .res (.lit (.bool true))).value [] { args:=args,res:=some (.bool true),after:=args }=some (.bool (true == true)) from w_eq_bool (w_res rfl) w_lit) rfl
theorem attach_call {l:OpenLaw}{n:Nat}{q:aB}{loose:List Str}{XP:(Str->Option a7)->a_->Prop}{YP:aT->a_->Prop}{d:DefRec}
  (hn:l.most=some n) (hdf:d.params.defaults=[])
  (call:∀ (w:aT) (s₀ s₁:a9) (mg mb:Str->Option a7) (fa:aa) (o:Obj) (pm cd doc:a7) (a:aa) (vs:List a7) (ns:List Int),
   Ground q loose [] XP w s₀ mg mb s₁.heap->YP w s₁.heap ->
   s₁.heap.get? fa=some o->o.data=.func (docDef d.name d.params d.body d.scope pm cd doc)->s₁.heap.CodeRec cd d.name->mg d.name=some (.ref fa) ->
   s₁.heap.get? a=some { cls:=.type "list",data:=.seq vs.toArray }->HG vs ns->ns.length<=n->s₁.gens=#[] ->
   gK (aE l.prog w) ur (.call (.ref fa) ⟨[.ref a],[]⟩) (fun r s'=>r=.ok (.ret (.bool true))/\OldK s₁.heap s'.heap/\s'.os=s₁.os/\nZ s'.gens) s₁) :
  WalkO q loose XP YP l.row.toRowW d [] (fun f vs=>FQ f vs):=by
 intro w s₀ s₁ mg mb G Y fa o pm cd doc dV kV ho hd hcd hD hmg hg args vals as hpre hlay hrd hwl hlo
 obtain rfl:dV=.none:=Dflts.none hD hdf
 obtain rfl:kV=.none:=Dflts.noKw hD
 obtain ⟨a,vs,ns,rfl,rfl,hobj,hints,hlen⟩:=G7 hn hpre hwl
 refine enter_call (mn (call w s₀ s₁ mg mb fa o pm cd doc a vs ns G Y ho (fd_plain hd) hcd hmg hobj hints hlen hg) fun r s' hq=>?_)
 obtain ⟨rfl,h2,h3,h4⟩:=hq
 exact ⟨.inl ⟨.bool true,.bool true,[],rfl,fun _=>rfl,.bool true,G8 l _,fun _=>⟨xW,fun _ hm=>(nomatch hm)⟩⟩,h2,h3,h4⟩
section
variable {prog:aB}{w:aT}{A:aP}{E:a7->a9->Prop}{s:a9}{K:Frag}
def SY (h:a_) (L d:aa):List (aa×Obj):=(bt h.objs.size).filterMap fun a=>if a=L\/a=d then none else (h.get? a).map fun o=>(a,o)
end
end Att
namespace L2
open PySem PySem.Spec PyProof.Rows
theorem G9 {vs:List a7}{ns:List Int} (h:HG vs ns):cJ (ns.map V.int) vs:=by
 induction h with
 | nil=>exact .nil
 | cons n t h ih=>exact .cons ⟨t,rfl⟩ ih
def P8 (H:Hp):Prop:=∀ b,H b=none\/∃ o xs,H b=some (.frz o (.lst xs))
theorem Ir {P:aB}{w:aT}{K:a5}{mg mb:Str->Option a7}{CX:EA}{k:Nat}{fa a:aa}{fd:cX}{x:Str}{sp:Sp}{s₁:a9}{vs:List a7}{ns:List Int}
  (KX:K.In s₁.heap) (hns:s₁.heap.Ns br mg) (hb:s₁.heap.Ns builtinsNs mb) (hbb:∀ x:Str,x≠"__name__"->mb x=gj x) (hlim:s₁.heap.NoLimit) (hg:s₁.gens=#[])
  (ha:s₁.heap.get? a=some { cls:=.type "list",data:=.seq vs.toArray }) (hi:HG vs ns) (hl:ns.length<=sizeLine) (hr:io k ur)
  (F:∀ base:a_,K.In base->base.Ns br mg->qc P w K mg base CX k fa fd [x] sp) (hbind:∀ (s:a9) (u:a7),uq s fd ⟨[u],[]⟩ [(x,u)])
  (hsp:∀ H:Hp,P8 H->l5 K H a (ns.map V.int)->sp [.ref a] H (fun v _=>v=.bl true) fun _ _ _=>False)
  (hCX:∀ H e s',CX [] H s₁ (fun _ _ _=>False) e s'->False) :
  gK (aE P w) ur (.call (.ref fa) ⟨[.ref a],[]⟩) (fun r s'=>r=.ok (.ret (.bool true))/\OldK s₁.heap s'.heap/\s'.os=s₁.os/\nZ s'.gens) s₁:=by
 have rv:=G9 hi
 have lenV:=hi.length
 have core:∀ H:Hp,P8 H->l5 K H a (ns.map V.int)->nW P w H s₁.heap->(∀ b,H b≠none->b=a)->(H a≠none->K.lookup a=none) ->
   gK (aE P w) ur (.call (.ref fa) ⟨[.ref a],[]⟩) (fun r s'=>r=.ok (.ret (.bool true))/\OldK s₁.heap s'.heap/\s'.os=s₁.os/\nZ s'.gens) s₁:=by
  intro H hO hS hok hA hK
  have base_of:∀ {b:aa}{o:Obj},s₁.heap.get? b=some o->H b=none->(zf s₁.heap H).get? b=some o:=fun e n=>HS e n
  have noA:∀ {b:aa}{o:Obj}{es:Array DictEntry}{ep:Nat},s₁.heap.get? b=some o->o.data=.dict es ep->H b=none:=fun {b o es ep} e d=>by
   cases q:H b with
   | none=>rfl
   | some u =>
    have e':b=a:=hA b (by rw [q];simp)
    subst e'
    rw [ha] at e;cases e
    have d':Data.seq vs.toArray _=Data.dict es ep:=d
    cases d'
  have nsK:∀ {b:aa}{m:Str->Option a7},s₁.heap.Ns b m->(zf s₁.heap H).Ns b m:=fun {b m} ⟨o,es,ep,e,d,r⟩=>⟨o,es,ep,base_of e (noA e d),d,r⟩
  have hKb:K.In (zf s₁.heap H):=fun b o e=>base_of (KX b o e) (by
   cases q:H b with
   | none=>rfl
   | some u =>
    have e':b=a:=hA b (by rw [q];simp)
    subst e'
    rw [hK (by rw [q];simp)] at e;cases e)
  have hM:Mod K mg (zf s₁.heap H):=⟨hKb,nsK hns,⟨mb,nsK hb,hbb⟩,let ⟨mc,h1,h2⟩:=hlim;⟨mc,nsK h1,h2⟩⟩
  have e0:De P w K mg (zf s₁.heap H) ur [] s₁ H:=⟨rfl,hM,fun b o e=>LN e,Nat.le_of_eq (FY _ _),trivial,fun b hb=>absurd (show b∈([] : List aa) from hb) (by simp),hok,.of_eq hg⟩
  refine mn ((F _ hKb (nsK hns)).run ur [] s₁ H ⟨[.ref a],[]⟩ [.ref a] [.ref a] _ _ hr e0 (hbind s₁ (.ref a)) (.cons rfl .nil) (hsp H hO hS)) fun r s' h=>?_
  cases r with
  | error e=>exact (hCX H e s' h).elim
  | ok fl =>
   cases fl with
   | next=>exact e6 h
   | brk=>exact e6 h
   | cont=>exact e6 h
   | ret u =>
    obtain ⟨v,H',os,bare,un,hok',r',q⟩:=h
    have q':v=.bl true:=q
    subst q'
    obtain rfl:u=h_ true:=r'
    refine ⟨rfl,OldK.of_keep fun b o e=>?_,os,bare⟩
    cases q:H b with
    | none=>exact un.keep b o e q (by intro z;exact absurd (show b∈([] : List aa) from z) (by simp)) (by simp)
    | some u =>
     rcases hO b with z | ⟨ob,xs,z⟩
     ·rw [q] at z;cases z
     ·have z2:=un.frzs b ob _ z
      obtain ⟨e1,_⟩:=hok b _ z
      obtain ⟨e2,_⟩:=hok' b _ z2
      rw [e] at e1;cases e1
      exact e2
 cases hk:K.lookup a with
 | some o =>
  have e:=KX a o hk
  rw [ha] at e
  cases e
  refine core (fun _=>none) (fun _=>.inl rfl) (.inr ⟨_,vs.toArray,_,hk,rfl,rfl,rfl,by rw [aF,lenV];exact hl,by simpa using rv⟩) (fun b u z=>by have z':(none:Option HO)=some u:=z;cases z') (fun b z=>absurd rfl z) fun z=>absurd rfl z
 | none =>
  refine core (fun b=>if b=a then some (.frz { cls:=.type "list",data:=.seq vs.toArray } (.lst (ns.map V.int))) else none) (fun b=>?_) (.inl (.inr ⟨{ cls:=.type "list",data:=.seq vs.toArray },if_pos rfl⟩)) (fun b u z=>?_) (fun b z=>?_) fun _=>hk
  ·by_cases hb:b=a
   ·exact .inr ⟨_,_,if_pos hb⟩
   ·exact .inl (if_neg hb)
  ·by_cases hb:b=a
   ·have z':=(if_pos hb).symm.trans z
    cases z'
    subst hb
    exact ⟨ha,by rw [au];exact hl,vs,_,rv,ha⟩
   ·have z':=(if_neg hb).symm.trans z
    cases z'
  ·by_cases hb:b=a
   ·exact hb
   ·exact absurd (if_neg hb) z
end L2
namespace L2
open PySem PySem.Spec PyProof.Rows
abbrev Uu {K:a5}{h:a_} (_:K.In h):a5:=K
theorem M8 {l:uS}{n k:Nat}{q:aB}{loose:List Str}{XP:(Str->Option a7)->a_->Prop}{YP:aT->a_->Prop}{d:DefRec}{K:Params->a5}{CX:aT->EA}{sp:aT->Sp}{x:Str}
  (hn:l.most=some n) (hn2:n<=sizeLine) (hdf:d.params.defaults=[]) (hr:io k ur)
  (hY:∀ (w:aT) (h:a_),YP w h->(K w.params).In h)
  (F:∀ (w:aT) (mg:Str->Option a7) (fa:aa) (h:a_),(K w.params).In h->h.Ns br mg->mg d.name=some (.ref fa) ->
   ∃ fd:cX,(∀ (s:a9) (u:a7),uq s fd ⟨[u],[]⟩ [(x,u)]) /\
    ∀ base:a_,(K w.params).In base->base.Ns br mg->qc l.prog w (K w.params) mg base (CX w) k fa fd [x] (sp w))
  (hsp:∀ (w:aT) (H:Hp) (a:aa) (ns:List Int),ns.length<=n->P8 H->l5 (K w.params) H a (ns.map V.int)->sp w [.ref a] H (fun v _=>v=.bl true) fun _ _ _=>False)
  (hCX:∀ (w:aT) (H:Hp) (s:a9) (e:a7) (s':a9),CX w [] H s (fun _ _ _=>False) e s'->False) :
  Lg q loose XP YP l.row.toRowW d [] (fun f vs=>FQ f vs):=by
 refine Att.attach_call hn hdf fun w s₀ s₁ mg mb fa o pm cd doc a vs ns G Y ho hd hcd hmg hobj hints hlen hg=>?_
 have KX:=hY w _ Y
 obtain ⟨fd,hb,hF⟩:=F w mg fa _ KX G.T.g hmg
 exact Ir KX G.T.g G.T.b G.T.builtins G.T.nolimit hg hobj hints (bE hlen hn2) hr hF hb (fun H hO hS=>hsp w H a ns hlen hO hS) fun H e s'=>hCX w H s₁ e s'
end L2
namespace L2
open PySem PySem.Spec PyProof.Rows
def jr (s:cw):Arguments:=match s with
 | .FunctionDef _ a _ _ _ _ _ _ _ _=>a
 | _=>{ posonlyargs:=[],args:=[],vararg:=none,kwonlyargs:=[],kw_defaults:=[],kwarg:=none,defaults:=[] }
def fU (s:cw):List cw:=match s with
 | .FunctionDef _ _ b _ _ _ _ _ _ _=>b
 | _=>[]
def av (s:cw):dG:=match s with
 | .FunctionDef _ _ _ _ _ _ sc _ _ _=>sc
 | _=>{ kind:=.function,names:=[],isGenerator:=false,isCoroutine:=false }
abbrev TF:EA:=fun _ _ _ _ _ _=>False
abbrev E0:XK:=fun _ _ _=>False
structure AT (K:a5) (x qual:Str) (st:cw) (f:aa) (fd:cX):Prop where
 ex:∃ (oc:a7) (od:Option aa) (kV doc pm:a7) (an:Option aa) (cdv ct:a7) (osl:Array (Option a7)),
  fd=e7 x qual (jr st) (fU st) (av st) .none kV doc pm an cdv ct/\K.lookup f=some ⟨oc,od,.func fd,osl⟩/\iU K cdv qual=true
 kp:dH K (.ref f)=true
section
variable {P:aB}{w:aT}{K:a5}{mg:Str->Option a7}{base:a_}
theorem AT.binds {x qual:Str}{st:cw}{f:aa}{fd:cX}{ps:List Str} (F:AT K x qual st f fd)
  (h:∀ (kV doc pm:a7) (an:Option aa) (cdv ct:a7) (us:List a7),us.length=ps.length->Lr (e7 x qual (jr st) (fU st) (av st) .none kV doc pm an cdv ct) ⟨us,[]⟩=pure (ps.zip us)):iZ K fd ps []:=by
 obtain ⟨oc,od,kV,doc,pm,an,cdv,ct,osl,rfl,lk,hcd⟩:=F.ex
 exact .all (h kV doc pm an cdv ct)
theorem Is {x qual:Str}{st:cw}{f:aa}{oc:a7}{od an:Option aa}{osl:Array (Option a7)}{kV doc pm cdv ct:a7} (l:K.lookup f=some ⟨oc,od,.func (e7 x qual (jr st) (fU st) (av st) .none kV doc pm an cdv ct),osl⟩)
  (c:iU K cdv qual=true) (k:dH K (.ref f)=true):AT K x qual st f (e7 x qual (jr st) (fU st) (av st) .none kV doc pm an cdv ct):=⟨⟨oc,od,kV,doc,pm,an,cdv,ct,osl,rfl,l,c⟩,k⟩
end
theorem lf {A:aP}{k:Nat} (hr:io k A):A.units + 1<p_:=lS (Hr (by decide:1<=64) _) hr.units
theorem bU {n:Nat} (h:n<=1000):n<sizeLine:=lS h (by decide)
section
variable {X:Cx}
theorem pv (i:Nat) {x:Str}{pos:Pos} (hN:X.N[i]?=some x:=by rfl) (hv:FZ X.env.scope x:=by first | exact eP rfl | exact cY (eP rfl) | exact cY (cY rfl)) (hd:(x == ("__debug__" : Str))=false:=by decide)
  (hcd:(x == ("__classdict__" : Str))=false:=by decide):PE X (.Name x pos) (F_ i):=ko hN hv hd hcd
end
theorem zr {A B:Prop} (h:B):if false=true then A else B:=by
 rw [if_neg aL]
 exact h
theorem Dj {A B:Prop} (h:A):if true=true then A else B:=by
 rw [if_pos rfl]
 exact h
def cW (H H':Hp):Prop:=∀ b o,H b=some o->H' b=some o
theorem cW.refl (H:Hp):cW H H:=fun _ _ h=>h
theorem cW.trans {H H1 H2:Hp} (a:cW H H1) (b:cW H1 H2):cW H H2:=fun c o h=>b c o (a c o h)
theorem cW.free {H H':Hp} (e:cW H H') {l:aa} (h:H' l=Option.none):H l=Option.none:=by
 cases q:H l with
 | none=>rfl
 | some o =>
  rw [e l o q] at h
  cases h
theorem cW.seq {K:a5}{H H':Hp}{a:aa}{xs:List V} (e:cW H H') (h:l5 K H a xs):l5 K H' a xs:=by
 rcases h with (h | ⟨o,h⟩) | h
 ·exact .inl (.inl (e _ _ h))
 ·exact .inl (.inr ⟨o,e _ _ h⟩)
 ·exact .inr h
end L2
end
section
namespace L2
open PySem PySem.Spec PyProof.Rows
section
variable {κ:Type} [DecidableEq κ]
def se (kvs:List (κ×V)) (k:κ):Option V:=(kvs.find? fun kv=>decide (kv.1=k)).map (·.2)
def oE (kvs:List (κ×V)) (k:κ) (v:V):List (κ×V) :=
 if (kvs.any fun kv=>decide (kv.1=k))=true then kvs.map (fun kv=>if kv.1=k then (kv.1,v) else kv) else kvs++[(k,v)]
def Iu (kvs:List (κ×V)) (k:κ):List (κ×V):=kvs.filter fun kv=>decide (kv.1≠k)
theorem vQ {p:κ×V}{r:List (κ×V)}{k:κ} (e:p.1=k):se (p::r) k=some p.2:=by simp [se,dq,e]
theorem vR {p:κ×V}{r:List (κ×V)}{k:κ} (e:¬ p.1=k):se (p::r) k=se r k:=by simp [se,dq,e]
theorem AU (k:κ):∀ kvs:List (κ×V),(kvs.any fun kv=>decide (kv.1=k))=(se kvs k).isSome
 | []=>rfl
 | p::r=>by
  rw [eT]
  by_cases e:p.1=k
  ·simp only [vQ e,decide_eq_true e,Bool.true_or,rE]
  ·rw [vR e,decide_eq_false e,rQ];exact AU k r
theorem oF (kvs:List (κ×V)) (k:κ) (v:V):(oE kvs k v).length<=kvs.length + 1:=by
 unfold oE
 split
 ·rw [au];omega
 ·rw [aR,bg,dR];omega
theorem vK.isSome_eq {o:Option V}{u:Option a7} (r:vK o u):o.isSome=u.isSome:=by
 cases o with
 | none=>cases u with
  | none=>rfl
  | some _=>exact (show False from r).elim
 | some _=>cases u with
  | none=>exact (show False from r).elim
  | some _=>rfl
theorem KV.val {kvs:List (κ×V)}{vs:List (κ×a7)} (r:KV kvs vs) (k:κ):vK (se kvs k) (xk vs k):=by
 unfold KV at r
 induction r with
 | nil=>exact iT
 | @cons p q ps qs h t ih =>
  obtain ⟨h1,h2⟩:=h
  by_cases e:p.1=k
  ·have e':q.1=k:=h1.symm.trans e
   have b:xk (q::qs) k=some q.2:=by simp [xk,dq,e']
   rw [vQ e,b];exact h2
  ·have e':¬ q.1=k:=fun z=>e (h1.trans z)
   have b:xk (q::qs) k=xk qs k:=by simp [xk,dq,e']
   rw [vR e,b];exact ih
theorem KV.any {kvs:List (κ×V)}{vs:List (κ×a7)} (r:KV kvs vs) (k:κ):(kvs.any fun kv=>decide (kv.1=k))=vs.any fun kv=>decide (kv.1=k):=by
 unfold KV at r
 induction r with
 | nil=>rfl
 | cons h t ih=>rw [eT,eT,ih,h.1]
theorem KV.repl {kvs:List (κ×V)}{vs:List (κ×a7)} (r:KV kvs vs) (k:κ) {y:V}{u:a7} (ry:df y u) :
  KV (kvs.map fun kv=>if kv.1=k then (kv.1,y) else kv) (vs.map fun kv=>if kv.1=k then (kv.1,u) else kv):=by
 unfold KV at r ⊢
 induction r with
 | nil=>exact .nil
 | @cons p q ps qs h t ih =>
  rw [aK,aK]
  refine .cons ?_ ih
  obtain ⟨h1,h2⟩:=h
  by_cases e:p.1=k
  ·rw [if_pos e,if_pos (h1.symm.trans e)];exact ⟨h1,ry⟩
  ·rw [if_neg e,if_neg (fun z=>e (h1.trans z))];exact ⟨h1,h2⟩
theorem KV.put {kvs:List (κ×V)}{vs:List (κ×a7)} (r:KV kvs vs) (k:κ) {y:V}{u:a7} (ry:df y u):KV (oE kvs k y) (CW vs k u):=by
 unfold oE CW
 rw [r.any k]
 by_cases e:(vs.any fun kv=>decide (kv.1=k))=true
 ·rw [if_pos e,if_pos e];exact r.repl k ry
 ·rw [if_neg e,if_neg e];exact Paired.snoc r ⟨rfl,ry⟩
theorem KV.length {kvs:List (κ×V)}{vs:List (κ×a7)} (r:KV kvs vs):kvs.length=vs.length:=qC r
end
theorem AV {P:aB}{w:aT}{k:dJ}{u:a7} (r:df (kV k) u):(dw P w).is k u=true:=by
 cases k with
 | inl i=>obtain ⟨t,e⟩:=(show ∃ t,u=kU i t from r);subst e;exact AJ P w i t
 | inr x=>obtain ⟨t,e⟩:=(show ∃ t,u=jy x t from r);subst e;exact AK P w x t
theorem yk {P:aB}{w:aT}:∀ {ks:List dJ}{us:List a7},cJ (ks.map kV) us->ItemsAre (dw P w) ks us
 | [],_,r=>by rw [dL] at r;cases r;exact .nil
 | k::ks,_,r=>by
  rw [aK] at r
  cases r with
  | cons h t=>exact .cons (AV h) (yk t)
abbrev KT (H:Hp):List (List dJ×V)->List (List dJ×aa×a7)->Prop:=HC fun p q=>p.1=q.1/\H q.2.1=some (.tup (p.1.map kV))/\df p.2 q.2.2
theorem KT.val {H:Hp}{kvs:List (List dJ×V)}{xs:List (List dJ×aa×a7)} (r:KT H kvs xs) (k:List dJ):vK (se kvs k) ((CY xs k).map (·.2)):=by
 induction r with
 | nil=>exact iT
 | @cons p q ps qs h t ih =>
  obtain ⟨h1,_,h2⟩:=h
  by_cases e:p.1=k
  ·have e':q.1=k:=h1.symm.trans e
   have b:CY (q::qs) k=some q.2:=by simp [CY,dq,e']
   rw [vQ e,b];exact h2
  ·have e':¬ q.1=k:=fun z=>e (h1.trans z)
   have b:CY (q::qs) k=CY qs k:=by simp [CY,dq,e']
   rw [vR e,b];exact ih
theorem KT.repl {H:Hp}{kvs:List (List dJ×V)}{xs:List (List dJ×aa×a7)} (r:KT H kvs xs) (k:List dJ) {y:V}{u:a7} (ry:df y u) :
  KT H (kvs.map fun kv=>if kv.1=k then (kv.1,y) else kv) (xs.map (putAt k u)):=by
 induction r with
 | nil=>exact .nil
 | @cons p q ps qs h t ih =>
  rw [aK,aK]
  refine .cons ?_ ih
  obtain ⟨h1,h2,h3⟩:=h
  unfold putAt
  by_cases e:p.1=k
  ·rw [if_pos e,if_pos (h1.symm.trans e)];exact ⟨h1,h2,ry⟩
  ·rw [if_neg e,if_neg (fun z=>e (h1.trans z))];exact ⟨h1,h2,h3⟩
theorem KT.put {H:Hp}{kvs:List (List dJ×V)}{xs:List (List dJ×aa×a7)} (r:KT H kvs xs) (k:List dJ) {b:aa}{y:V}{u:a7} (hb:H b=some (.tup (k.map kV))) (ry:df y u) :
  KT H (oE kvs k y) (storedH xs k b u):=by
 have e:(kvs.any fun kv=>decide (kv.1=k))=(CY xs k).isSome:=by
  rw [AU,(r.val k).isSome_eq,FR]
 unfold oE storedH
 rw [e]
 by_cases q:(CY xs k).isSome=true
 ·rw [if_pos q,if_pos q];exact r.repl k ry
 ·rw [if_neg q,if_neg q];exact Paired.snoc r ⟨rfl,hb,ry⟩
theorem KT.keeps {H H':Hp}{kvs:List (List dJ×V)}{xs:List (List dJ×aa×a7)} (r:KT H kvs xs) (ht:∀ b ys,H b=some (.tup ys)->H' b=some (.tup ys)):KT H' kvs xs :=
 Paired.mapP r fun _ _ z=>⟨z.1,ht _ _ z.2.1,z.2.2⟩
section
variable {P:aB}{w:aT}{H:Hp}{h:a_}{a:aa}
theorem NK {u:HO} (ok:nW P w H h) (e:Rd H a u):dk P w H h a u:=e.ok ok
theorem EF {kvs:List (dJ×V)} (ok:nW P w H h) (e:Rd H a (.dK kvs)):kvs.length<=sizeLine/\(a == jf)=false/\∃ vs,KV kvs vs/\h.DictOf (dw P w) a vs :=
 show dk P w H h a (.dK kvs) from NK ok e
theorem QA {kvs:List (dJ×V)} (ok:nW P w H h) (e:H a=some (.dK kvs)):kvs.length<=sizeLine/\(a == jf)=false/\∃ vs,KV kvs vs/\h.DictOf (dw P w) a vs:=EF ok (.inl e)
theorem zt {ks:List dJ} (ok:nW P w H h) (e:H a=some (.tup (ks.map kV))):(yX (dw P w)).is h ks a:=by
 obtain ⟨_,its,r,o,h1,h2,n,h3⟩:=(show dk P w H h a (.tup (ks.map kV)) from ok a _ e)
 exact ⟨o,its.toArray,n,h1,h2,h3,by simpa using yk r⟩
theorem EG {kvs:List (List dJ×V)} (ok:nW P w H h) (e:Rd H a (.dT kvs)):kvs.length<=sizeLine/\(a == jf)=false /\
  ∃ xs,KT H kvs xs/\h.DictOfH (yX (dw P w)) a xs:=by
 obtain ⟨z,y,xs,r,o,es,ep,h1,h2,h3,h4,h5⟩:=(show dk P w H h a (.dT kvs) from NK ok e)
 refine ⟨z,y,xs,r,o,es,ep,h1,h2,h3,h4,fun x hx=>?_,h5⟩
 have all:∀ {l:List (List dJ×V)}{m:List (List dJ×aa×a7)},KT H l m->∀ x∈m,(yX (dw P w)).is h x.1 x.2.1:=by
  intro l m q
  induction q with
  | nil=>intro x hx;exact nomatch hx
  | @cons p q ps qs hq t ih =>
   intro x hx
   rcases List.mem_cons.mp hx with e | hx
   ·subst e
    exact zt ok (by rw [<- hq.1];exact hq.2.1)
   ·exact ih x hx
 exact all r x hx
theorem QB {kvs:List (List dJ×V)} (ok:nW P w H h) (e:H a=some (.dT kvs)):kvs.length<=sizeLine/\(a == jf)=false /\
  ∃ xs,KT H kvs xs/\h.DictOfH (yX (dw P w)) a xs:=EG ok (.inl e)
end
def Dk (H:Hp) (a:aa) (y:V) (r:Option V):Prop :=
 (∃ kvs k,Rd H a (.dK kvs)/\y=kV k/\r=se kvs k)\/∃ kvs k b,Rd H a (.dT kvs)/\y=.ref b/\H b=some (.tup (k.map kV))/\r=se kvs k
def Iv (H:Hp) (a:aa) (y v:V) (H':Hp):Prop :=
 (∃ kvs k,H a=some (.dK kvs)/\y=kV k/\kvs.length<sizeLine/\H'=upd H a (.dK (oE kvs k v))) \/
 ∃ kvs k b,H a=some (.dT kvs)/\y=.ref b/\H b=some (.tup (k.map kV))/\kvs.length<sizeLine/\H'=upd H a (.dT (oE kvs k v))
theorem Dk.k {H:Hp}{a:aa}{kvs:List (dJ×V)}{k:dJ} (e:H a=some (.dK kvs)):Dk H a (kV k) (se kvs k):=.inl ⟨kvs,k,.inl e,rfl,rfl⟩
theorem Iv.k {H:Hp}{a:aa}{kvs:List (dJ×V)}{k:dJ}{v:V} (e:H a=some (.dK kvs)) (hl:kvs.length<sizeLine):Iv H a (kV k) v (upd H a (.dK (oE kvs k v))):=.inl ⟨kvs,k,e,rfl,hl,rfl⟩
section
variable {X:Cx}{pins:List (aa×Obj)}{σ:St}{H:Hp}{s:a9}{a:aa}{y v:V}{u r:a7}{o:Option V}{A:aP}{E:a7->a9->Prop}
theorem bu.big (I:bu X pins σ H s):jf<s.heap.objs.size:=by
 have h:br<s.heap.objs.size:=(I.mod.glob.keeps I.bk).lt
 exact uT (by decide) h
theorem Ga {Q:a7->a9->Prop} (hu:A.units + 1<p_) (I:bu X pins σ H s) (g:Dk H a y (some v)) (ry:df y u) (h:∀ w' s',bu X pins σ H s'->df v w'->Q w' s') :
  ao (aE X.prog X.w) A (n_ (.ref a) u) Q E s:=by
 rcases g with ⟨kvs,k,e,ey,l⟩ | ⟨kvs,k,b,e,ey,eb,l⟩
 ·subst ey
  obtain ⟨z,hd,vs,rel,dd⟩:=EF I.hok e
  obtain ⟨w',hw,rw'⟩:=vK.some_of (v:=v) (o:=xk vs k) (by rw [l];exact rel.val k)
  exact wpAny_getItem_of (AV ry) dd.mapOf hw (h w' _ (I.tok _) rw')
 ·subst ey
  cases (show u=bC b from ry)
  obtain ⟨z,hd,xs,rel,dd⟩:=EG I.hok e
  obtain ⟨w',hw,rw'⟩:=vK.some_of (v:=v) (o:=(CY xs k).map (·.2)) (by rw [l];exact rel.val k)
  obtain ⟨p,hp,hp2⟩:=Option.map_eq_some_iff.mp hw
  refine wpAny_getItem_heap (vz hu) (zt I.hok eb) dd hp ?_
  rw [hp2]
  exact h w' _ (I.tok _) rw'
theorem d_in {Q:a7->a9->Prop} (hu:A.units + 1<p_) (I:bu X pins σ H s) (g:Dk H a y o) (ry:df y u) (h:∀ s',bu X pins σ H s'->Q (.bool o.isSome) s') :
  ao (aE X.prog X.w) A (bI .In u (.ref a)) Q E s:=by
 rcases g with ⟨kvs,k,e,ey,l⟩ | ⟨kvs,k,b,e,ey,eb,l⟩
 ·subst ey
  obtain ⟨z,hd,vs,rel,dd⟩:=EF I.hok e
  refine wpAny_in_of (AV ry) hd dd.mapOf ?_
  rw [<- (rel.val k).isSome_eq,<- l]
  exact h _ (I.tok _)
 ·subst ey
  cases (show u=bC b from ry)
  obtain ⟨z,hd,xs,rel,dd⟩:=EG I.hok e
  refine wpAny_in_heap (vz hu) (zt I.hok eb) hd dd ?_
  have q:=(rel.val k).isSome_eq
  rw [FR] at q
  rw [<- q,<- l]
  exact h _ (I.tok _)
theorem EH {h':a_}{t':Nat}{ob:HO} (I:bu X pins σ H s) (mu:Qf (H a)) (hs:cj a s.heap h') (he:∃ q,h'.get? a=some q) (new:dk X.prog X.w (upd H a ob) h' a ob) :
  bu X pins σ (upd H a ob) { s with heap:=h',toks:=t' } :=
 I.write (x:=a) (e:=a) mu (.inl rfl) (fun b q hb z=>(hs.2 b hb).trans z) he new
theorem Iw {P:aB}{w:aT}{H':Hp}{h':a_}{kvs:List (dJ×V)}{vs:List (dJ×a7)} (z:kvs.length<=sizeLine) (hd:(a == jf)=false) (rel:KV kvs vs) (dd:h'.DictOf (dw P w) a vs) :
  dk P w H' h' a (.dK kvs):=⟨z,hd,vs,rel,dd⟩
theorem Gb {H':Hp}{Q:Unit->a9->Prop} (hu:A.units + 1<p_) (I:bu X pins σ H s) (g:Iv H a y v H') (ry:df y u) (rv:df v r) (h:∀ s',bu X pins σ H' s'->Q () s') :
  ao (aE X.prog X.w) A (setItem (.ref a) u r) Q E s:=by
 rcases g with ⟨kvs,k,e,ey,l,eH⟩ | ⟨kvs,k,b,e,ey,eb,l,eH⟩
 ·subst ey eH
  obtain ⟨z,hd,vs,rel,dd⟩:=QA I.hok e
  have hz:vs.length<=sizeLine:=by rw [<- rel.length];exact z
  have hl:(oE kvs k v).length<=sizeLine:=by have:=oF kvs k v;omega
  refine wpAny_setItem_pairs (hsz:=hz) (AV ry) dd fun h' dd' hs=>h _ ?_
  have he:∃ q,h'.get? a=some q:=let ⟨q,_,_,hq,_⟩:=dd';⟨q,hq⟩
  exact EH I (by rw [e];exact iT) hs he (Iw hl hd (rel.put k rv) dd')
 ·subst ey eH
  cases (show u=bC b from ry)
  obtain ⟨z,hd,xs,rel,dd⟩:=QB I.hok e
  have hz:xs.length<=sizeLine:=by rw [<- qC rel];exact z
  have hl:(oE kvs k v).length<=sizeLine:=by have:=oF kvs k v;omega
  refine wpAny_setItem_heap (hsz:=hz) (vz hu) (zt I.hok eb) dd fun h' dd' hs=>h _ ?_
  obtain ⟨q,es,ep,hq,h2,h3,h4,_,h5⟩:=dd'
  refine EH I (by rw [e];exact iT) hs ⟨q,hq⟩ ⟨hl,hd,_,(rel.put k eb rv).keeps fun c ys ec=>?_,q,es,ep,hq,h2,h3,h4,h5⟩
  rw [aQ (Qe ec e (fun z=>nomatch z))]
  exact ec
end
section
variable {X:Cx}{pins:List (aa×Obj)}{σ:St}{H:Hp}{s:a9}{a:aa}{kvs:List (dJ×V)}{k:dJ}{u:a7}{A:aP}{E:a7->a9->Prop}
end
def QC (i:aO):Prop:=∀ ov iv,AA i false ov iv=operate [ov,iv] (n_ ov iv)
theorem M9 {prog:aB}{w:aT}{A:aP}{E:a7->a9->Prop}{s:a9}{env:Env}{value slice:aO}{pos:Pos}{T id:String}{Q:a7->a9->Prop}
  (hl:gD (.type T) "__getitem__"=pure (some (.builtin id))) (hs:QC slice)
  (h:ao (aE prog w) A (cp value env) (fun o s₁=>ao (aE prog w) A (cp slice env) (fun i s₂=>s₂.TypeIs o T/\ao (aE prog w) A (n_ o i) Q E s₂) E s₁) E s) :
  ao (aE prog w) A (cp (.Subscript value slice pos) env) Q E s:=by
 refine Subscript_ (b6 h (fun o s₁ h₁=>b6 h₁ (fun i s₂ h₂=>?_) fun _ _ x=>x) fun _ _ x=>x)
 obtain ⟨hT,h₂⟩:=h₂
 unfold FO
 refine a6 ?_
 rw [getitemInPython_of_ne hT.not_modules]
 refine a6 (wpAny_specialOf hT hl ?_)
 have fin:ao (aE prog w) A (AA slice false o i) (fun r s₃=>ao (aE prog w) A (letTemporaryGo value o r >>= fun _=>pure r) Q E s₃) E s₂:=by
  rw [hs o i]
  exact wpAny_operating (b6 h₂ (fun r s₃ h₃=>a6 (wpAny_letTemporaryGo (af h₃))) fun _ _ x=>x)
 first
  | exact af (a6 fin)
  | exact a6 (af (a6 fin))
  | exact a6 fin
theorem AW {X:Cx}{pins:List (aa×Obj)}{σ:St}{H:Hp}{s:a9}{a:aa}{y:V}{o:Option V} (I:bu X pins σ H s) (g:Dk H a y o):s.TypeIs (.ref a) "dict":=by
 rcases g with ⟨kvs,k,e,_,_⟩ | ⟨kvs,k,b,e,_,_,_⟩
 ·obtain ⟨_,_,vs,_,dd⟩:=EF I.hok e
  exact dd.typeIs
 ·obtain ⟨_,_,xs,_,dd⟩:=EG I.hok e
  exact dd.typeIs
def QD (td ty:TE):TE:=fun σ H Q=>td σ H fun x H1=>ty σ H1 fun y H2=>∃ a v,x=.ref a/\Dk H2 a y (some v)/\Q v H2
def NL (td ty tv:TE):TS:=fun D σ H=>tv σ H fun v H1=>td σ H1 fun x H2=>ty σ H2 fun y H3=>∃ a H4,x=.ref a/\Iv H3 a y v H4/\D.nx σ H4
section
variable {X:Cx}{o i e value:aO}{pos pos' tpos:Pos}{td ty tv:TE}
theorem Ma (hu:X.A.units + 1<p_) (ho:PE X o td) (hi:PE X i ty) (hs:QC i):PE X (.Subscript o i pos) (QD td ty):=by
 intro pins s σ H Q I h
 refine M9 PySem.F.slot_dict_getitem.lookup hs (fm (ho pins s σ H _ I h) fun u s1 ⟨x,H1,I1,rx,q1⟩=>fm (hi pins s1 σ H1 _ I1 q1) fun iv s2 ⟨y,H2,I2,ry,a,v,ex,g,q2⟩=>?_)
 subst ex
 obtain rfl:u=bC a:=rx
 exact ⟨AW I2 g,Ga hu I2 g ry fun w' s3 I3 rw'=>⟨v,H2,I3,rw',q2⟩⟩
theorem Mb (hu:X.A.units + 1<p_) (ho:PE X o td) (hi:PE X i ty) (hv:PE X value tv) (hs:fB value (some (.Subscript o i pos')) pos.line X.env=pure false) :
  PS X (.Assign [.Subscript o i pos'] value pos) (NL td ty tv):=by
 intro pins s σ H D I h
 refine wpAny_Assign_Subscript (fm (hv pins s σ H _ I h) fun r s1 ⟨v,H1,I1,rv,q1⟩=>fm (ho pins s1 σ H1 _ I1 q1) fun u s2 ⟨x,H2,I2,rx,q2⟩=>fm (hi pins s2 σ H2 _ I2 q2) fun iv s3 ⟨y,H3,I3,ry,a,H4,ex,g,q3⟩=>?_) hs
 subst ex
 obtain rfl:u=bC a:=rx
 exact Gb hu I3 g ry rv fun s4 I4=>⟨σ,H4,I4,q3⟩
end
theorem Ix {P:aB}{w:aT}{H:Hp} (h:a_) (hb:jf<h.objs.size):dk P w H (h.push { cls:=.type "dict",data:=.dict #[] }) h.objs.size (.dK []) :=
 ⟨ck _,beq_eq_false_iff_ne.mpr (eA (az hb)),[],.nil,CF h⟩
def P9:TE:=fun _ H Q=>∀ p,H p=none->Q (.ref p) (upd H p (.dK []))
section
variable {X:Cx}{pos:Pos}
theorem Iy:PE X (.Dict [] [] pos) P9:=fun pins s σ H Q I h =>
 wpAny_Dict_empty ⟨.ref s.heap.objs.size,_,I.laid (a:=s.heap.objs.size) (o:=.dK []) (t':=s.toks) (fun _ _ q=>a8 _ q) (ar _) (Ix s.heap I.big),rfl,h _ (I.hok.fresh (ar _))⟩
end
def vS (kvs more:List (dJ×V)):List (dJ×V):=more.foldl (fun acc kv=>oE acc kv.1 kv.2) kvs
theorem KV.merge:∀ {more:List (dJ×V)}{rs:List (dJ×a7)}{kvs:List (dJ×V)}{vs:List (dJ×a7)},KV more rs->KV kvs vs->KV (vS kvs more) (merged vs rs):=by
 intro more rs kvs vs r
 unfold KV at r
 induction r generalizing kvs vs with
 | nil=>intro q;exact q
 | @cons p q ps qs h t ih =>
  intro r0
  have e:KV (oE kvs p.1 p.2) (CW vs q.1 q.2):=by
   have:=r0.put p.1 h.2
   rw [<- h.1];exact this
  exact ih e
theorem qt:∀ (more kvs:List (dJ×V)),(vS kvs more).length<=kvs.length + more.length
 | [],kvs=>by show kvs.length<=kvs.length + 0;omega
 | p::r,kvs=>by
  have h1:=qt r (oE kvs p.1 p.2)
  have h2:=oF kvs p.1 p.2
  show (vS (oE kvs p.1 p.2) r).length<=_
  rw [bg];omega
section
variable {X:Cx}{pins:List (aa×Obj)}{σ:St}{H:Hp}{s:a9}{a:aa}{y d:V}{u r:a7}{o:Option V}{A:aP}{E:a7->a9->Prop}
end
section
variable {X:Cx}{o e f:aO}{apos cpos:Pos}{td ty tx:TE}
end
section
variable {X:Cx}{pins:List (aa×Obj)}{σ:St}{H:Hp}{s:a9}{a:aa}{kvs:List (dJ×V)}{A:aP}{E:a7->a9->Prop}
end
section
variable {X:Cx}{pins:List (aa×Obj)}{σ:St}{H:Hp}{s:a9}{a:aa}{y:V}{u:a7}{A:aP}{E:a7->a9->Prop}
end
end L2
namespace L2
open PySem PySem.Spec PyProof.Rows
section
variable {X:Cx}
end
section
variable {κ:Type} [DecidableEq κ]
theorem EI:∀ {l:List κ}{k:κ},l.Nodup->¬ k∈l->(l++[k]).Nodup
 | [],k,_,_=>by simp
 | a::r,k,h,hk=>by
  obtain ⟨h1,h2⟩:=List.nodup_cons.mp h
  show (a::(r++[k])).Nodup
  refine List.nodup_cons.mpr ⟨fun m=>?_,EI h2 fun m=>hk (List.mem_cons.mpr (cY m))⟩
  rcases List.mem_append.mp m with q | q
  ·exact h1 q
  ·exact hk (List.mem_cons.mpr (eP (List.mem_singleton.mp q).symm))
end
end L2
end
namespace L2
open PySem PySem.Spec PyProof.Rows
section
section
variable {prog:aB}{w:aT}{A:aP}{R:qF->a9->Prop}{s:a9}
theorem zu {elt target iter:aO}{ifs:List aO}{scope:dG}{pos:Pos}{it acc:a7}{env:Env} (I:Nat->a9->Prop)
  (turn:∀ n s,I n s->ao (aE prog w) A (lP it) (fun r s₁=>match r with
   | none=>R (.ok .next) s₁
   | some v=>ao (aE prog w) A (gd target it v) (fun _ s₁'=>ao (aE prog w) A (oa target env v) (fun _ s₂ =>
     ao (aE prog w) A (forIn ifs true fun c r=>if r=true then do let ok <- yY c env (cp c env);pure (fi ok) else pure (fi r)) (fun ok s₃ =>
      if ok=true then ao (aE prog w) A (cp elt env) (fun x s₄ =>
       ao (aE prog w) A (call (.builtin "list.append") [acc,x]) (fun _ s₅=>∃ m,m<n/\I m s₅) (fun _ _=>False) s₄) (fun _ _=>False) s₃
      else ∃ m,m<n/\I m s₃) (fun _ _=>False) s₂) (fun _ _=>False) s₁') (fun _ _=>False) s₁) (fun _ _=>False) s)
  (n:Nat) (h:I n s) :
  gK (aE prog w) A (.compLoop (.ListComp elt [⟨target,iter,ifs,0⟩] scope pos) 0 it acc env) R s:=by
 refine codeAny_loop rfl I (fun n s hI=>?_) n h
 show ao _ A ((compTurn (.ListComp elt [⟨target,iter,ifs,0⟩] scope pos) 0 it acc env).onRaise (fun x=>do zb x env;theTreesLotGoes x)) _ _ s
 refine wpAny_noted ?_
 rw [compTurn_list]
 have nf:∀ {α:Type}{t:Sem α}{Q:α->a9->Prop}{E':a7->a9->Prop}{s:a9},ao (aE prog w) A t Q (fun _ _=>False) s->ao (aE prog w) A t Q E' s :=
  fun h=>b6 h (fun _ _ q=>q) fun _ _ f=>f.elim
 refine a6 (dA (a6 (nf (b6 (turn n s hI) (fun r s₁ h₁=>?_) fun _ _ h'=>h'))))
 cases r with
 | none=>exact af h₁
 | some v =>
  refine a6 (nf (b6 h₁ (fun _ s₁' h₁'=>?_) fun _ _ h'=>h'))
  refine a6 (nf (b6 h₁' (fun _ s₂ h₂=>a6 (nf (b6 h₂ (fun ok s₃ h₃=>?_) fun _ _ h'=>h'))) fun _ _ h'=>h'))
  cases ok with
  | false=>exact af ⟨rfl,h₃⟩
  | true =>
   exact a6 (a6 (nf (b6 h₃ (fun x s₄ h₄=>a6 (nf (b6 h₄ (fun _ s₅ h₅=>af (af ⟨rfl,h₅⟩)) fun _ _ h'=>h'))) fun _ _ h'=>h')))
end
theorem Dl {env : Env} (names : List (Str × j6)) : ∀ (cs : List (Str × aa)), (∀ y ∈ names, y.2 = .free -> ∃ c, env.cells.lookup y.1 = some c) ->
    (∀ x c, cs.lookup x = some c -> env.cells.lookup x = some c) ->
    ∃ cl, (forIn names cs fun (x : Str × j6) (cs : List (Str × aa)) => match x with
        | (name, kind) => if (kind == c6) = true then do let a <- cellOf env name; pure (fi ((name, a) :: cs)) else pure (fi cs) : Sem (List (Str × aa))) = pure cl /\
      (∀ x c, cl.lookup x = some c -> env.cells.lookup x = some c) /\ (∀ y ∈ names, y.2 = .free -> ∃ c, cl.lookup y.1 = some c) /\ (∀ x c, cs.lookup x = some c -> ∃ c', cl.lookup x = some c') := by
  induction names with
  | nil => intro cs _ h2; exact ⟨cs, rfl, h2, fun _ h => absurd h (by simp), fun x c h => ⟨c, h⟩⟩
  | cons nk r ih =>
    obtain ⟨n, k⟩ := nk
    intro cs h1 h2
    by_cases hk : k = .free
    · subst hk
      obtain ⟨a, ha⟩ := h1 (n, .free) al rfl
      have h2' : ∀ x c, ((n, a) :: cs).lookup x = some c -> env.cells.lookup x = some c := fun x c h => by
        rw [cA] at h
        cases e : x == n with
        | true => rw [e] at h; have : x = n := by simpa using e
                  subst this; cases h; exact ha
        | false => rw [e] at h; exact h2 x c h
      obtain ⟨cl, e1, e2, e3, e4⟩ := ih ((n, a) :: cs) (fun y hy => h1 y (ai _ hy)) h2'
      refine ⟨cl, ?_, e2, fun y hy hf => ?_, fun x c h => ?_⟩
      · rw [om]
        have hc : cellOf env n = pure a := by unfold cellOf; rw [ha]
        simp only [beq_self_eq_true, if_true, hc]
        exact e1
      · rcases List.mem_cons.mp hy with rfl | hy
        · exact e4 n a (by simp)
        · exact e3 y hy hf
      · cases e : x == n with
        | true => exact e4 x a (by rw [cA, e])
        | false => exact e4 x c (by rw [cA, e]; exact h)
    · obtain ⟨cl, e1, e2, e3, e4⟩ := ih cs (fun y hy => h1 y (ai _ hy)) h2
      refine ⟨cl, ?_, e2, fun y hy hf => ?_, e4⟩
      · rw [om]
        have hk' : (k == c6) = false := by simpa using hk
        simp only [hk', c9, if_false]
        exact e1
      · rcases List.mem_cons.mp hy with rfl | hy
        · exact absurd hf hk
        · exact e3 y hy hf
theorem qO {scope:dG}{env:Env} (h:∀ y∈scope.names,y.2=.free->∃ c,env.cells.lookup y.1=some c):∃ cl,closureFor scope env=pure cl /\
  (∀ x c,cl.lookup x=some c->env.cells.lookup x=some c)/\(∀ y∈scope.names,y.2=.free->∃ c,cl.lookup y.1=some c):=by
 obtain ⟨cl,e1,e2,e3,_⟩:=Dl (env:=env) scope.names [] h (fun x c h=>by simp at h)
 refine ⟨cl,?_,e2,e3⟩
 simp only [closureFor]
 rw [show (forIn scope.names ([] : List (Str×aa)) fun x r=>_)=(pure cl:Sem (List (Str×aa))) from e1]
 rfl
end
section
def cy (X:Cx) (N':List Str) (scope:dG) (cl:List (Str×aa)) (C:aa) (s₀:a9) (H₀:Hp) (ex:List aa) (pn:List (aa×Obj)):Cx :=
 { X with N:=N',s₀:=s₀,H₀:=H₀,env:=compEnvC scope cl C X.env,outer:=X.stack,stack:=X.stack,ex:=ex,fn:=fun y=>scope.names.lookup y == some .cell,pn:=pn,xe:=fun _ _=>False }
def Lm (X:Cx) (ifs:List aO) (t:TT):Prop :=
 ∀ (pins:List (aa×Obj)) (s:a9) (σ:St) (H:Hp) (Q:Bool->Hp->Prop),bu X pins σ H s->t σ H Q ->
  ao (aE X.prog X.w) X.A (forIn ifs true fun c r=>if r=true then do let ok <- yY c X.env (cp c X.env);pure (fi ok) else pure (fi r)) (TP X pins σ Q) X.xe s
def SZ:TT:=fun _ H Q=>Q true H
theorem Mc {X:Cx}:Lm X [] SZ:=fun pins s σ H Q I h=>wpAny_tests_nil ⟨H,I,h⟩
theorem Md {X:Cx}{c:aO}{t:TT} (h:PT X c t):Lm X [c] t:=fun pins s σ H Q I hw=>wpAny_tests_one (h pins s σ H Q I hw)
structure lZ (X:Cx) (scope:dG) (N':List Str) (nt:Nat) (ix:List Nat):Prop where
 kind:scope.kind=.function
 cel:∀ y∈scope.names,y.2=.cell->scope.names.lookup y.1=some .cell
 loc:∀ y∈scope.names,y.2=.local->scope.names.lookup y.1=some .local
 free:∀ y∈scope.names,y.2=.free->X.env.scope.names.lookup y.1=some .cell\/X.env.scope.names.lookup y.1=some .free
 cap:∀ k i,ix[k]?=some i->∃ x,X.N[i]?=some x/\N'[nt + k]?=some x/\scope.names.lookup x=some .free
 len:N'.length=nt + ix.length
def iS (nt:Nat) (ix:List Nat) (σ:St):St:=bd nt none++ix.map fun i=>(σ[i]?).join
theorem qd {env:Env}{x:Str}{names:List (Str×j6)}:names.lookup x=some .free ->
  (names.map fun (n,k)=>if (k == c6 && env.scope.kind == .function && env.kindOf n == some .cell) then (n,dE) else (n,k)).lookup x=some .free \/
  (names.map fun (n,k)=>if (k == c6 && env.scope.kind == .function && env.kindOf n == some .cell) then (n,dE) else (n,k)).lookup x=some .cell:=by
 induction names with
 | nil=>intro h;simp at h
 | cons nk r ih =>
  obtain ⟨n,k⟩:=nk
  intro h
  show vA x ((if (k == c6 && env.scope.kind == .function && env.kindOf n == some .cell)=true then (n,dE) else (n,k))::_)=_ \/
   vA x ((if (k == c6 && env.scope.kind == .function && env.kindOf n == some .cell)=true then (n,dE) else (n,k))::_)=_
  cases hx:x == n with
  | true =>
   simp only [cA,hx] at h
   cases h
   by_cases hc:(c6 == c6 && env.scope.kind == .function && env.kindOf n == some .cell)=true
   ·rw [if_pos hc];right;simp [cA,hx]
   ·rw [if_neg hc];left;simp [cA,hx]
  | false =>
   simp only [cA,hx] at h
   by_cases hc:(k == c6 && env.scope.kind == .function && env.kindOf n == some .cell)=true
   ·rw [if_pos hc];simp only [cA,hx];exact ih h
   ·rw [if_neg hc];simp only [cA,hx];exact ih h
theorem sf {env:Env}{x:Str}{names:List (Str×j6)} :
  ((names.map fun (n,k)=>if (k == c6 && env.scope.kind == .function && env.kindOf n == some .cell) then (n,dE) else (n,k)).lookup x=some .free \/
  (names.map fun (n,k)=>if (k == c6 && env.scope.kind == .function && env.kindOf n == some .cell) then (n,dE) else (n,k)).lookup x=some .cell) ->
  (x,c6)∈names\/(x,dE)∈names:=by
 induction names with
 | nil=>intro h;simp at h
 | cons nk r ih =>
  obtain ⟨n,k⟩:=nk
  intro h
  have h:vA x ((if (k == c6 && env.scope.kind == .function && env.kindOf n == some .cell)=true then (n,dE) else (n,k))::_)=_ \/
   vA x ((if (k == c6 && env.scope.kind == .function && env.kindOf n == some .cell)=true then (n,dE) else (n,k))::_)=_:=h
  cases hx:x == n with
  | true =>
   have e:x=n:=by simpa using hx
   subst e
   by_cases hc:(k == c6 && env.scope.kind == .function && env.kindOf x == some .cell)=true
   ·have:k=.free:=by simp at hc;exact hc.1.1
    subst this;left;exact al
   ·rw [if_neg hc] at h;simp only [cA,hx] at h
    rcases h with h | h
    ·cases h;left;exact al
    ·cases h;right;exact al
  | false =>
   have h':=ih (by
    by_cases hc:(k == c6 && env.scope.kind == .function && env.kindOf n == some .cell)=true
    ·rw [if_pos hc] at h;simp only [cA,hx] at h;exact h
    ·rw [if_neg hc] at h;simp only [cA,hx] at h;exact h)
   rcases h' with h' | h'
   ·left;exact ai _ h'
   ·right;exact ai _ h'
inductive NM (nt:Nat) (ix:List Nat) (g:TG) (tt:TT) (te:TE) (σ:St) (Q:VK) (J:It) (H1:Hp):Prop
 | mk (W:Nat->Nat->List V->Hp->Prop) (w0:∃ m,W 0 m [] H1) (turn:∀ i m acc H,W i m acc H ->
 (J.stop i H/\∀ p,H p=none->Q (.ref p) (upd H p (.lst acc))) \/
 (J.go i H/\acc.length<sizeLine/\∀ x H',J.yld i H x H'->g x (iS nt ix σ) H' fun σ2 H2=>tt σ2 H2 fun b H3 =>
  if b=true then te σ2 H3 fun y H4=>∃ m',m'<m/\W (i + 1) m' (acc++[y]) H4 else ∃ m',m'<m/\W (i + 1) m' acc H3)):NM nt ix g tt te σ Q J H1
def Iz (nt:Nat) (ix:List Nat) (wi:TI) (g:TG) (tt:TT) (te:TE):TE:=fun σ H Q=>wi σ H (NM nt ix g tt te σ Q)
theorem ip:∀ (names:List (Str×j6)) (n:Nat) (acc:List (Str×aa)),bc n names acc=bc n names []++acc
 | [],_,_=>rfl
 | (y,k)::r,n,acc=>by
  unfold bc
  split
  ·rw [ip r (n + 1) ((y,n)::acc),ip r (n + 1) [(y,n)],eJ];rfl
  ·exact ip r n acc
theorem l_ {x:Str}{c:aa}:∀ (names:List (Str×j6)) (n:Nat) (acc:List (Str×aa)),(x,c)∈bc n names acc->(x,dE)∈names\/(x,c)∈acc
 | [],_,_,h=>.inr h
 | (y,k)::r,n,acc,h=>by
  unfold bc at h
  split at h
  ·rename_i hk
   have hk:k=.cell:=by simpa using hk
   rcases l_ r _ _ h with z | z
   ·exact .inl (ai _ z)
   ·rcases List.mem_cons.mp z with z | z
    ·cases z;subst hk;exact .inl al
    ·exact .inr z
  ·exact (l_ r _ _ h).imp (ai _) id
theorem jB {names:List (Str×j6)}{n:Nat}{cl:List (Str×aa)}{x:Str}{c:aa} (h:(bc n names cl).lookup x=some c) :
  (x,c)∈bc n names []\/((bc n names []).lookup x=none/\cl.lookup x=some c):=by
 rw [ip,Ht] at h
 cases e:(bc n names []).lookup x with
 | some d=>rw [e] at h;cases h;exact .inl (c_ e)
 | none=>rw [e] at h;exact .inr ⟨rfl,h⟩
theorem EJ {M:vd}{A:aP}{E:a7->a9->Prop}{s:a9}{scope:dG}{globals:aa}{cl:List (Str×aa)}{qual:Str}{func:Option aa}{code:a7}{outer:Env}{builtins:aa}{Q:Env->a9->Prop}
  (hQ:∀ h₁,h₁=pushCells (s.heap.push { cls:=.type "dict",data:=.dict #[] }) scope.names->Q (newEnv scope s.heap.objs.size globals (bc (s.heap.objs.size + 1) scope.names cl) qual func code (some outer) builtins) { s with heap:=h₁ }) :
  ao M A (tK scope globals cl [] qual func code (some outer) builtins) Q E s:=by
 simp only [tK,rE,if_true]
 refine a6 (Lv ?_)
 refine a6 (wpAny_layCells _ (fun name kind cells=>by cases hkc:kind == dE<;>simp [hkc]) _ _ _ _ ?_)
 rw [show ({ s with heap:=s.heap.push { cls:=.type "dict",data:=.dict #[] } }:a9).heap.objs.size=s.heap.objs.size + 1 from c7 ..]
 refine a6 ?_
 rw [xX]
 exact af (af (hQ _ rfl))
theorem ym (h:a_) (names:List (Str×j6)):CellsOk (pushCells (h.push { cls:=.type "dict",data:=.dict #[] }) names) (h.objs.size + 1) (bc (h.objs.size + 1) names []):=by
 have ok:=cellsFrom_ok names (h.push { cls:=.type "dict",data:=.dict #[] }) (h.objs.size + 1) [] ⟨fun _ _ hm=>(nomatch hm),xW⟩ (by rw [c7];exact ar _)
 rw [c7] at ok
 exact ok
section
variable {X:Cx}{pins:List (aa×Obj)}{σ:St}{H:Hp}{s:a9}
theorem AX {scope:dG}{N':List Str}{nt:Nat}{ix:List Nat}{cl:List (Str×aa)}{C:aa}{fp:List aa}{h₁:a_}{t':Nat}{m:Str->Option a7}
  (S:lZ X scope N' nt ix) (I:bu X pins σ H s) (c1:∀ x c,cl.lookup x=some c->X.env.cells.lookup x=some c) (c2:∀ y∈scope.names,y.2=.free->∃ c,cl.lookup y.1=some c)
  (hf:∀ b∈fp,oA X pins H b) (ff:∀ b∈fp,b<s.heap.objs.size) (hC:s.heap.objs.size<=C) (hns:h₁.Ns C m) (old:∀ b o,s.heap.get? b=some o->h₁.get? b=some o) (ok:CellsOk h₁ (C + 1) (bc (C + 1) scope.names [])) :
  bu (cy X N' scope (bc (C + 1) scope.names cl) C s H fp (X.pn++pins)) [] (iS nt ix σ) H { s with heap:=h₁,toks:=t' }:=by
 have cellOld:∀ {c v},s.heap.IsCell c v->h₁.IsCell c v:=fun {c v} ⟨o,ho,hd⟩=>⟨o,old _ _ ho,hd⟩
 have up:∀ {x c},(x,c)∈bc (C + 1) scope.names []->s.heap.objs.size<c:=fun {x c} h=>aD (uU hC) (ok.empty x c h).2
 have low:∀ {x c},cl.lookup x=some c->c<s.heap.objs.size:=fun {x c} h=>by
  obtain ⟨v,q⟩:=I.cell x c (c1 x c h)
  exact q.lt
 refine ⟨⟨I.ok.mod,S.kind,I.ok.glob,I.ok.blt,hC,fun x y c h1 h2=>?_,fun x hx=>?_,fun x c h h2=>?_,I.ok.hd,I.ok.frames,.inl rfl,fun b hb=>⟨?_,fun x c h=>?_⟩,I.bs,bE I.ok.bsz I.sz,fun b o h hb=>?_,fun b hb z=>?_,I.stack,I.stkFree⟩,
  rfl,I.bare,Un.kept old,⟨m,hns,fun i x v h1 h2 h3=>?_⟩,fun x c h=>?_,I.hok.fresh hC,fun x c h=>?_,fun p hp=>?_,I.hok.kept old,?_⟩
 ·rcases jB h1 with a | ⟨_,a⟩<;>rcases jB h2 with b | ⟨_,b⟩
  ·exact name_of_addr ok.apart a b
  ·exact absurd (up a) (uV (low b))
  ·exact absurd (up b) (uV (low a))
  ·exact I.ok.inj x y c (c1 x c a) (c1 y c b)
 ·have hx':(x,c6)∈scope.names\/(x,dE)∈scope.names:=sf (env:=X.env) (hx.elim .inr .inl)
  have hs:((bc (C + 1) scope.names cl).lookup x).isSome=true:=by
   rcases hx' with z | z
   ·obtain ⟨c,e⟩:=c2 _ z rfl
    exact eL _ _ _ (.inr (by rw [e];rfl))
   ·exact eL _ _ _ (.inl (S.cel _ z rfl))
  exact Option.isSome_iff_exists.mp hs
 ·rcases jB h2 with a | ⟨a,_⟩
  ·exact bi (up a)
  ·have:=eL (x:=x) scope.names (C + 1) [] (.inl (by simpa [cy] using h))
   rw [a] at this;cases this
 ·exact az (aD (ff b hb) hC)
 ·rcases jB h with a | ⟨_,a⟩
  ·exact dO (uT (ff b hb) (up a))
  ·exact (hf b hb).f4 x c (c1 x c a)
 ·rcases (hf b hb).f3 with z | z
  ·exact I.ok.noex b o h z
  ·exact absurd (aD (aj h) (bE I.ok.bsz z)) (bQ _)
 ·rcases List.mem_cons.mp (I.stkSub b z) with e | e
  ·exact (hf b hb).f1 e
  ·exact (hf b hb).f2 e
 ·have hnt:nt<=i:=by
   refine Lu fun hlt=>?_
   have h2':(iS nt ix σ)[i]?=some (some v):=h2
   unfold iS at h2'
   rw [bn (by simpa using hlt),bD,if_pos hlt] at h2'
   cases h2'
  have h2':(iS nt ix σ)[i]?=some (some v):=h2
  unfold iS at h2'
  rw [aY (by simpa using hnt),cE,ay] at h2'
  cases e:ix[i - nt]? with
  | none=>rw [e] at h2';cases h2'
  | some j =>
   rw [e] at h2'
   have hj:σ[j]?=some (some v):=by
    have q:(σ[j]?).join=some v:=bw h2'
    cases e3:σ[j]? with
    | none=>rw [e3] at q;cases q
    | some o=>rw [e3] at q;cases o with
     | none=>cases q
     | some v'=>cases q;rfl
   obtain ⟨x',n1,n2,fr⟩:=S.cap _ _ e
   rw [Nat.add_sub_cancel' hnt] at n2
   have h1':N'[i]?=some x:=h1
   rw [h1'] at n2
   cases n2
   obtain ⟨mm,hn,hl⟩:=I.loc
   have hfree:=S.free (x,.free) (c_ fr) rfl
   obtain ⟨u,r,l⟩:=hl j x v n1 hj (hfree.elim (fun z=>.inr (.inl z)) fun z=>.inr (.inr z))
   refine ⟨u,r,?_⟩
   rcases l with ⟨k,_⟩ | ⟨k,c,hc,hcell⟩
   ·have k:X.env.scope.names.lookup x=some .local:=k
    rcases hfree with z | z<;>(rw [z] at k;cases k)
   ·obtain ⟨c',hc'⟩:=c2 _ (c_ fr) rfl
    have:=c1 x c' hc'
    rw [hc] at this
    cases this
    have hno:(bc (C + 1) scope.names []).lookup x=none:=by
     cases e:(bc (C + 1) scope.names []).lookup x with
     | none=>rfl
     | some d =>
      rcases l_ _ _ _ (c_ e) with z | z
      ·have q:=S.cel _ z rfl
       rw [fr] at q;cases q
      ·cases z
    refine .inr ⟨?_,c,by show (bc (C + 1) scope.names cl).lookup x=some c;rw [ip,Ht,hno];exact hc',cellOld hcell⟩
    rcases qd (env:=X.env) fr with z | z
    ·exact .inr z
    ·exact .inl z
 ·rcases jB h with a | ⟨_,a⟩
  ·exact ⟨none,(ok.empty x c a).1⟩
  ·obtain ⟨v,q⟩:=I.cell x c (c1 x c a)
   exact ⟨v,cellOld q⟩
 ·rcases jB h with a | ⟨_,a⟩
  ·exact I.hok.fresh (bi (up a))
  ·exact I.freeC x c (c1 x c a)
 ·have hp:p∈X.pn++pins:=(List.mem_append.mp hp).elim id fun z=>absurd z (by simp)
  obtain ⟨e,n,ne,nf,d⟩:=I.pin p hp
  refine ⟨old _ _ e,n,az (aD (aj e) hC),fun z=>?_,d⟩
  rcases List.mem_cons.mp (I.stkSub p.1 z) with e | e
  ·exact ne e
  ·exact nf e
 ·show (iS nt ix σ).length=N'.length
  rw [S.len];simp [iS]
end
end
section
theorem Un.grow {fs ex:List aa}{H H1:Hp}{h h1 h2:a_} (u:Un fs ex H H1 h h1) {C D:aa}{o:HO} (sb:cj C h1 h2) (hC:h.objs.size<=C) (hD:h.objs.size<=D) (hn:H1 D=none):Un fs ex H (upd H1 D o) h h2 where
 keep:=fun b ob q n hb hx=>(sb.2 b (az (aD (aj q) hC))).trans (u.keep b ob q n hb hx)
 slot:=fun b ob q n hb hx=>by
  obtain ⟨sl,e⟩:=u.slot b ob q n hb hx
  exact ⟨sl,(sb.2 b (az (aD (aj q) hC))).trans e⟩
 free:=fun b ob q n hx=>by rw [aQ (az (aD (aj q) hD))];exact u.free b ob q n hx
 there:=fun b ob q hx=>by
  obtain ⟨o',e⟩:=u.there b ob q hx
  exact ⟨o',(sb.2 b (az (aD (aj q) hC))).trans e⟩
 tups:=fun b xs q=>by have z:=u.tups b xs q;rw [aQ (aW z hn)];exact z
 frzs:=fun b ob xs q=>by have z:=u.frzs b ob xs q;rw [aQ (aW z hn)];exact z
 tbls:=fun b ps q=>by
  obtain ⟨m,z⟩:=u.tbls b ps q
  exact ⟨m,by rw [aQ (aW z hn)];exact z⟩
theorem vT {P:aB}{w:aT}{H:Hp}{h h':a_}{C:aa} (k:nW P w H h) (hC:H C=none) (sb:cj C h h'):nW P w H h':=fun b ob e=>by
 refine (k b ob e).stay (fun c w' hc q=>(sb.2 c ?_).trans q) (fun _ q=>q) fun _ _ q=>q
 rintro rfl
 rcases hc with rfl | hc
 ·rw [hC] at e;cases e
 ·rw [hC] at hc;cases hc
theorem pw {P:aB}{w:aT}{H:Hp}{h:a_}{D:aa}{o:HO} (k:nW P w H h) (hD:H D=none) (new:dk P w (upd H D o) h D o):nW P w (upd H D o) h:=fun b ob e=>by
 by_cases hb:b=D
 ·subst hb;rw [aX] at e;cases e;exact new
 ·rw [aQ hb] at e
  exact (k b ob e).stay (fun c w' hc q=>q) (fun c q=>by rw [aQ (aW q hD)];exact q) fun c x q=>by rw [aQ (aW q hD)];exact q
theorem nf {M:vd}{A:aP}{α:Type}{t:Sem α}{Q:α->a9->Prop}{E':a7->a9->Prop}{s:a9} (h:ao M A t Q (fun _ _=>False) s):ao M A t Q E' s :=
 b6 h (fun _ _ q=>q) fun _ _ f=>f.elim
theorem bu.pin1 {X:Cx}{σ:St}{H:Hp}{s:a9}{D:aa}{o:Obj} (I:bu X [] σ H s) (e:s.heap.get? D=some o) (n:H D=none) (ne:D≠X.env.locals) (nf:D∉X.fs) (d:∀ v,o.data≠.cell v):bu X [(D,o)] σ H s :=
 I.pins_of fun p hp=>by
  have:p=(D,o):=by simpa using hp
  subst this
  exact ⟨e,n,ne,nf,d⟩
def NN (nt:Nat) (g:TG):Prop:=∀ x σ0 H (Q:St->Hp->Prop),g x σ0 H Q->g x σ0 H (fun σ2 H2=>Q σ2 H2/\σ2.length=σ0.length/\∀ j,nt<=j->σ2[j]?=σ0[j]?)
theorem IA {nt i:Nat} (h:i<nt):NN nt (ux i):=fun x σ0 H Q q=>⟨q,by simp,fun j hj=>ag (by omega)⟩
theorem Me {nt i k n:Nat}{K:a5} (h:i<nt) (h':k<nt):NN nt (OP K n (ac (ux i) (ac (ux k) aH))):=by
 rintro x σ0 H Q ⟨a,xs,rfl,sq,hl,v,r,rfl,v',r',rfl,rfl,q⟩
 exact ⟨a,_,rfl,sq,hl,v,_,rfl,v',_,rfl,rfl,q,by simp,fun j hj=>by rw [ag (by omega),ag (by omega)]⟩
inductive TH (X:Cx) (pins:List (aa×Obj)) (N':List Str) (scope:dG) (cl:List (Str×aa)) (C:aa) (s2:a9) (H2:Hp) (fp:List aa) (nt:Nat) (ix:List Nat) (σ:St) (tn:Nat->a_->Prop) (W:Nat->Nat->List V->Hp->Prop) (n:Nat) (s':a9):Prop
 | mk (i:Nat) (acc:List V) (its:List a7) (nn:Nat) (H':Hp) (I:bu (cy X N' scope cl C s2 H2 fp (X.pn++pins)) [(s2.heap.objs.size,{ cls:=.type "list",data:=.seq its.toArray nn })] (iS nt ix σ) H' s') (v:cJ acc its) (l:acc.length<=sizeLine) (t:tn i s'.heap) (f:∀ b∈fp,H' b=none) (w:W i n acc H'):TH X pins N' scope cl C s2 H2 fp nt ix σ tn W n s'
theorem vU {X:Cx}{elt tg iter:aO}{ifs:List aO}{scope:dG}{pos:Pos}{g:TG}{tt:TT}{te:TE}{N':List Str}{nt:Nat}{ix:List Nat}
  (hc:X.calm=true) (S:lZ X scope N' nt ix) (lo:NN nt g)
  (hb:∀ cl C s₀ H₀ ex pn,PG (cy X N' scope cl C s₀ H₀ ex pn) tg g/\Lm (cy X N' scope cl C s₀ H₀ ex pn) ifs tt/\PE (cy X N' scope cl C s₀ H₀ ex pn) elt te)
  {cl:List (Str×aa)} (c1:∀ x c,cl.lookup x=some c->X.env.cells.lookup x=some c) (c2:∀ y∈scope.names,y.2=.free->∃ c,cl.lookup y.1=some c)
  {pins:List (aa×Obj)}{σ:St}{H2:Hp}{s2:a9}{it:aa}{fp:List aa}{tn:Nat->a_->Prop}{J:It}{Q:VK}{E:a7->a9->Prop}
  (I2:bu X pins σ H2 s2) (T:xq X.prog X.w X.K tg J fp it tn) (st2:tn 0 s2.heap) (f2:∀ b∈fp,oA X pins H2 b)
  {W:Nat->Nat->List V->Hp->Prop} (w0:∃ m,W 0 m [] H2)
  (turn:∀ i m acc H,W i m acc H->(J.stop i H/\∀ p,H p=none->Q (.ref p) (upd H p (.lst acc))) \/
   (J.go i H/\acc.length<sizeLine/\∀ x H',J.yld i H x H'->g x (iS nt ix σ) H' fun σ2 H2=>tt σ2 H2 fun b H3 =>
    if b=true then te σ2 H3 fun y H4=>∃ m',m'<m/\W (i + 1) m' (acc++[y]) H4 else ∃ m',m'<m/\W (i + 1) m' acc H3))
  {RR:a7->aa->qF->a9->Prop}
  (hRR:∀ D C m s' (acc:List V) H',H' D=none->oA X pins (upd H' D (.lst acc)) C->Q (.ref D) (upd H' D (.lst acc))->s'.heap.Ns C m->(∀ h',cj C s'.heap h'->bu X pins σ (upd H' D (.lst acc)) { s' with heap:=h' })->RR (.ref D) C (.ok .next) s') :
  ao (aE X.prog X.w) X.A (newList []) (fun acc s₃=>ao (aE X.prog X.w) X.A (tK scope X.env.globals cl [] X.env.qual none .none (some X.env)) (fun cenv s₄ =>
   gK (aE X.prog X.w) X.A (.compStart (.ListComp elt [⟨tg,iter,ifs,0⟩] scope pos) 0 (.ref it) acc { cenv with scope:=relabel scope X.env }) (RR acc cenv.locals) s₄) E s₃) E s2:=by
 refine cr (EJ fun h₁ hh₁=>?_)
 dsimp only at hh₁ ⊢
 generalize hG2:s2.heap.push { cls:=.type "list",dict:=none,data:=.seq ([] : List a7).toArray }=G2 at hh₁ ⊢
 have hC:G2.objs.size=s2.heap.objs.size + 1:=by rw [<- hG2,c7]
 have hDC:s2.heap.objs.size≠G2.objs.size:=by rw [hC];exact az (el _)
 have hCle:s2.heap.objs.size<=G2.objs.size:=by rw [hC];exact fR _
 have below:∀ b,b<s2.heap.objs.size->b≠G2.objs.size:=fun b hb=>by rw [hC];exact az (eK hb)
 have kp:∀ b o,G2.get? b=some o->h₁.get? b=some o:=fun b o e=>by rw [hh₁];exact rF _ _ b o (a8 _ e)
 have hns₁:h₁.Ns G2.objs.size (fun _=>none):=by rw [hh₁];exact (Heap.Ns.new G2 (.type "dict")).keeps (rF _ _)
 have ok₁:CellsOk h₁ (G2.objs.size + 1) (bc (G2.objs.size + 1) scope.names []):=by rw [hh₁];exact ym G2 scope.names
 have cne:∀ x c,(bc (G2.objs.size + 1) scope.names cl).lookup x=some c->X.env.cells.lookup x=some c\/s2.heap.objs.size<c:=fun x c e=>by
  rcases jB e with a | ⟨_,a⟩
  ·exact .inr (aD (uU hCle) (ok₁.empty x c a).2)
  ·exact .inl (c1 x c a)
 have old:∀ b o,s2.heap.get? b=some o->h₁.get? b=some o:=fun b o e=>kp b o (hG2 ▸ a8 _ e)
 have hacc:h₁.get? s2.heap.objs.size=some { cls:=.type "list",dict:=none,data:=.seq ([] : List a7).toArray }:=kp _ _ (hG2 ▸ ax _ rfl)
 have ff:∀ b∈fp,b<s2.heap.objs.size:=fun b hb=>by
  obtain ⟨o,e,_⟩:=T.obj _ _ st2 b hb
  exact aj e
 have I3:bu (cy X N' scope (bc (G2.objs.size + 1) scope.names cl) G2.objs.size s2 H2 fp (X.pn++pins)) [] (iS nt ix σ) H2 { s2 with heap:=h₁,toks:=s2.toks }:=AX S I2 c1 c2 f2 ff hCle hns₁ old ok₁
 obtain ⟨pg,pt,pe⟩:=hb (bc (G2.objs.size + 1) scope.names cl) G2.objs.size s2 H2 fp (X.pn++pins)
 have hDfs:s2.heap.objs.size∉ml X.stack:=fun z=>by
  rcases List.mem_cons.mp (I2.stkSub _ z) with e | e
  ·exact absurd I2.lt (by rw [<- e];exact bQ _)
  ·exact I2.nofs (ar _) e
 have nod:∀ (its:List a7) (n:Nat) v,({ cls:=.type "list",data:=.seq its.toArray n }:Obj).data≠.cell v:=fun _ _ _ z=>nomatch z
 have st1:tn 0 h₁:=T.keep _ _ _ st2 fun b _ o e=>old b o e
 have hDf:s2.heap.objs.size∉fp:=fun z=>absurd (ff _ z) (bQ _)
 have stat:∀ {H':Hp}{pl:List (aa×Obj)},(∀ p∈pl,p.1∉fp)->(∀ b∈fp,H' b=none)->∀ b∈fp,oA (cy X N' scope (bc (G2.objs.size + 1) scope.names cl) G2.objs.size s2 H2 fp (X.pn++pins)) pl H' b:=fun hpl hn b hb=>by
  obtain ⟨f0,f1,f2',f3,f4,f5⟩:=f2 b hb
  refine ⟨hn b hb,below b (ff b hb),fun z=>?_,.inl hb,fun x c e=>(cne x c e).elim (f4 x c) fun q z=>uV q (by rw [z];exact ff b hb),fun p hp z=>?_⟩
  ·rcases List.mem_cons.mp (I2.stkSub _ z) with e | e
   ·exact f1 e
   ·exact f2' e
  ·rcases List.mem_append.mp hp with q | q
   ·exact f5 p q z
   ·exact hpl p q (z ▸ hb)
 obtain ⟨m0,w0⟩:=w0
 have loop:gK (aE X.prog X.w) X.A (.compLoop (.ListComp elt [⟨tg,iter,ifs,0⟩] scope pos) 0 (.ref it) (.ref s2.heap.objs.size) (compEnvC scope (bc (G2.objs.size + 1) scope.names cl) G2.objs.size X.env))
    (RR (.ref s2.heap.objs.size) G2.objs.size) { s2 with heap:=h₁,toks:=s2.toks }:=by
  refine zu (TH X pins N' scope (bc (G2.objs.size + 1) scope.names cl) G2.objs.size s2 H2 fp nt ix σ tn W) ?_ m0
   ⟨0,[],[],0,H2,I3.pin1 hacc (I2.hok.fresh (ar _)) hDC hDfs (nod _ _),.nil,ck _,st1,fun b hb=>(f2 b hb).1,w0⟩
  rintro n s3 ⟨i,acc,its,nn,H3,J3,rv,hz,st3,fr3,w3⟩
  have plD:∀ p∈[(s2.heap.objs.size,({ cls:=.type "list",data:=.seq its.toArray nn }:Obj))],p.1∉fp:=fun p hp=>by
   have:p=(s2.heap.objs.size,({ cls:=.type "list",data:=.seq its.toArray nn }:Obj)):=by simpa using hp
   rw [this];exact hDf
  rcases turn i n acc H3 w3 with ⟨stop,qn⟩ | ⟨go,hlt,step⟩
  ·refine fm (T.done (cy X N' scope (bc (G2.objs.size + 1) scope.names cl) G2.objs.size s2 H2 fp (X.pn++pins)) rfl rfl rfl hc i _ s3 _ H3 _ J3 (stat plD fr3) st3 stop) fun r s4 h_0=>?_
   obtain ⟨hr,I4⟩:=h_0
   subst hr
   obtain ⟨pD,pN,_⟩:=I4.pin (s2.heap.objs.size,_) (aM _ (List.mem_singleton.mpr rfl))
   obtain ⟨mm,hn,_⟩:=I4.loc
   have hCn:H3 G2.objs.size=none:=I4.free
   refine hRR _ _ mm s4 acc H3 pN (I2.fpOk hCle (by rw [aQ (eA hDC)];exact hCn)) (qn _ pN) hn fun h' sb=>?_
   have hu:Un (ml X.stack) fp H2 (upd H3 s2.heap.objs.size (.lst acc)) s2.heap h':=Un.grow I4.base sb hCle (ar _) pN
   refine I2.call' (s':={ s4 with heap:=h' }) (ch:=fp) I4.os hu ?_ I4.bare fun b hb=>?_
   ·refine pw (vT I4.hok hCn sb) pN ⟨hz,its,nn,rv,(sb.2 _ hDC).trans pD⟩
   ·obtain ⟨_,f1,_,f3,f4,f5⟩:=f2 b hb
    exact ⟨f3,f1,f4,f5⟩
  ·refine fm (T.item (cy X N' scope (bc (G2.objs.size + 1) scope.names cl) G2.objs.size s2 H2 fp (X.pn++pins)) rfl rfl rfl hc i _ s3 _ H3 _ J3 (stat plD fr3) st3 go) fun r s4 h_1=>?_
   obtain ⟨u,hr,h4⟩:=h_1
   subst hr
   refine fm h4 fun _ s5 h_2=>?_
   obtain ⟨x,H5,I5,r5,y5,st5,fr5⟩:=h_2
   have I5':=I5.pinned (stat plD fr5) (T.obj _ _ st5)
   refine fm (pg _ s5 _ H5 x u _ I5' r5 (lo _ _ _ _ (step x H5 y5))) fun _ s6 h_3=>?_
   obtain ⟨σ6,H6,I6,q6,l6,k6⟩:=h_3
   have hw:∀ (j:Nat) v,(iS nt ix σ)[j]?=some (some v)->σ6[j]?=some (some v):=fun j v e=>by
    by_cases hj:nt<=j
    ·rw [k6 j hj];exact e
    ·unfold iS at e
     rw [bn (by simpa using hj),bD,if_pos (by omega)] at e
     cases e
   refine fm (pt _ s6 σ6 H6 _ I6 q6) fun b s7 h_4=>?_
   obtain ⟨H7,I7,q7⟩:=h_4
   have fpk:∀ {s8:a9}{σ8:St}{H8:Hp},bu (cy X N' scope (bc (G2.objs.size + 1) scope.names cl) G2.objs.size s2 H2 fp (X.pn++pins)) ([(s2.heap.objs.size,{ cls:=.type "list",data:=.seq its.toArray nn })]++tU fp s5.heap) σ8 H8 s8 ->
     tn (i + 1) s8.heap/\∀ b∈fp,H8 b=none:=fun {s8 σ8 H8} I8=>by
    refine ⟨T.keep _ _ _ st5 fun b hb o e=>(I8.pin (b,o) (aM _ (aM _ (ji hb e)))).1,fun b hb=>?_⟩
    obtain ⟨o,e,d⟩:=T.obj _ _ st5 b hb
    exact (I8.pin (b,o) (aM _ (aM _ (ji hb e)))).2.1
   cases b with
   | false =>
    simp only [c9,if_false] at q7 ⊢
    obtain ⟨m',hm,w7⟩:=q7
    obtain ⟨t7,f7⟩:=fpk I7
    exact ⟨m',hm,i + 1,acc,its,nn,H7,(I7.weak l6.symm hw).unpinned,rv,hz,t7,f7,w7⟩
   | true =>
    simp only [if_true] at q7 ⊢
    refine fm (pe _ s7 σ6 H7 _ I7 q7) fun u8 s8 h_5=>?_
    obtain ⟨y,H8,I8,r8,m',hm,w8⟩:=h_5
    obtain ⟨t8,f8⟩:=fpk I8
    obtain ⟨pD,pN,_⟩:=I8.pin (s2.heap.objs.size,_) (aM _ (dC _ (List.mem_singleton.mpr rfl)))
    have hl:=rv.length
    refine wpAny_list_append_plain ⟨nn,pD⟩ (hsz:=by rw [aF];omega) ?_
    intro h9 pl9 sb9
    obtain ⟨n9,e9⟩:=pl9
    have e9':h9.get? s2.heap.objs.size=some { cls:=.type "list",data:=.seq (its++[u8]).toArray n9 }:=by rw [e9];simp
    refine ⟨m',hm,i + 1,acc++[y],its++[u8],n9,H8,?_,rv.append (.cons r8 .nil),by rw [aR,dY];omega,T.keep _ _ _ t8 fun b hb o e=>sb9.extBut b o (fun z=>hDf (z ▸ hb)) e,f8,w8⟩
    have I8':bu (cy X N' scope (bc (G2.objs.size + 1) scope.names cl) G2.objs.size s2 H2 fp (X.pn++pins)) [] (iS nt ix σ) H8 s8:=(I8.weak l6.symm hw).pins_of fun p hp=>absurd hp (by simp)
    have I9:bu (cy X N' scope (bc (G2.objs.size + 1) scope.names cl) G2.objs.size s2 H2 fp (X.pn++pins)) [] (iS nt ix σ) H8 { s8 with heap:=h9,toks:=s8.toks } :=
     I8'.turned (it:=s2.heap.objs.size) (fun b o hb e=>sb9.extBut b o hb e) pN hDC (.inr (ar _)) (fun x c e z=>by
      rcases cne x c e with e | e
      ·obtain ⟨v,q⟩:=I2.cell x c e
       exact absurd q.lt (by rw [z];exact bQ _)
      ·exact absurd e (by rw [z];exact bQ _)) fun p hp z=>by
      have hp:p∈X.pn++pins:=(List.mem_append.mp hp).elim id fun z=>absurd z (by simp)
      exact absurd (aj (I2.pin p hp).1) (by rw [z];exact bQ _)
    exact I9.pin1 e9' pN hDC hDfs (nod _ _)
 exact codeAny_compStart_list loop (T.self _ 0 _ _ _ st1 loop)
end
section
theorem AY {X:Cx}{elt tg iter:aO}{ifs:List aO}{scope:dG}{pos:Pos}{wi:TI}{g:TG}{tt:TT}{te:TE}{N':List Str}{nt:Nat}{ix:List Nat}
  (hc:X.calm=true) (S:lZ X scope N' nt ix) (lo:NN nt g) (hi:PI X tg iter wi)
  (hb:∀ cl C s₀ H₀ ex pn,PG (cy X N' scope cl C s₀ H₀ ex pn) tg g/\Lm (cy X N' scope cl C s₀ H₀ ex pn) ifs tt/\PE (cy X N' scope cl C s₀ H₀ ex pn) elt te)
  (hs:∀ x,dm iter X.env x=pure x:=by intro _;rfl):PE X (.ListComp elt [⟨tg,iter,ifs,0⟩] scope pos) (Iz nt ix wi g tt te):=by
 intro pins s σ H Q I h
 obtain ⟨cl,hcl,c1,c2⟩:=qO (scope:=scope) (env:=X.env) fun y hy hf=>I.ok.has y.1 (S.free y hy hf)
 rw [eval_ListComp]
 refine oo (use:=none) rfl hs hcl S.kind S.loc (fm (hi pins s σ H _ I h) fun v s1 h1=>fm h1 fun itv s2 h2=>?_)
 obtain ⟨it,fp,tn,J,H2,e,I2,T,st2,f2,W,w0,turn⟩:=h2
 subst e
 refine vU (RR:=fun acc C=>compPost (aE X.prog X.w) X.A X.xe none (EP X pins σ Q) acc C) hc S lo hb c1 c2 I2 T st2 f2 w0 turn ?_
 intro D C m s' acc H' hD _ q hn hI
 exact ⟨m,hn,fun h' sb=>⟨.ref D,_,hI h' sb,rfl,q⟩⟩
def QE (i:Nat) (te:TE):TS:=fun D σ H=>te σ H fun x H1=>D.nx (σ.set i (some x)) H1
theorem Dm {X:Cx}{elt tg iter:aO}{ifs:List aO}{scope:dG}{pos spos py:Pos}{wi:TI}{g:TG}{tt:TT}{te:TE}{N':List Str}{nt:Nat}{ix:List Nat}{i:Nat}{y:Str}
  (hN:X.N.Nodup) (hiN:X.N[i]?=some y) (hy:X.env.scope.names.lookup y=some .local)
  (hc:X.calm=true) (S:lZ X scope N' nt ix) (lo:NN nt g) (hi:PI X tg iter wi)
  (hb:∀ cl C s₀ H₀ ex pn,PG (cy X N' scope cl C s₀ H₀ ex pn) tg g/\Lm (cy X N' scope cl C s₀ H₀ ex pn) ifs tt/\PE (cy X N' scope cl C s₀ H₀ ex pn) elt te)
  (hsw:fB (.ListComp elt [⟨tg,iter,ifs,0⟩] scope pos) (some (.Name y py)) spos.line X.env=pure true:=by rfl)
  (hs:∀ x,dm iter X.env x=pure x:=by intro _;rfl):PS X (.Assign [.Name y py] (.ListComp elt [⟨tg,iter,ifs,0⟩] scope pos) spos) (QE i (Iz nt ix wi g tt te)):=by
 intro pins s σ H D I h
 obtain ⟨cl,hcl,c1,c2⟩:=qO (scope:=scope) (env:=X.env) fun y hy hf=>I.ok.has y.1 (S.free y hy hf)
 rw [exec_Assign_Name_used _ _ _ _ hsw]
 refine a6 (dA (a6 ?_))
 show ao _ X.A (do let _ <- comprehension (.ListComp elt [⟨tg,iter,ifs,0⟩] scope pos) scope X.env _ (newList []) false (cp iter X.env) (some (oa (.Name y py) X.env))) _ _ s
 refine a6 (b6 (oo (use:=some (oa (.Name y py) X.env)) (Q:=fun _ s'=>SP X pins D .next s') rfl hs hcl S.kind S.loc
  (fm (hi pins s σ H _ I h) fun v s1 h1=>fm h1 fun itv s2 h2=>?_)) (fun _ s' hq=>af (af hq)) fun _ _ e=>e)
 obtain ⟨it,fp,tn,J,H2,e,I2,T,st2,f2,W,w0,turn⟩:=h2
 subst e
 refine vU (Q:=fun x H1=>D.nx (σ.set i (some x)) H1) (RR:=fun acc C=>compPost (aE X.prog X.w) X.A X.xe (some (oa (.Name y py) X.env)) (fun _ s'=>SP X pins D .next s') acc C) hc S lo hb c1 c2 I2 T st2 f2 w0 turn ?_
 intro L C m s' acc H' hD fC q hn hI
 show ao _ X.A (oa (.Name y py) X.env (.ref L)) _ _ _
 have I3:bu X pins σ (upd H' L (.lst acc)) s':=hI s'.heap (.refl ..)
 refine wpAny_assign_Name (yb I3 hN hiN (.inl hy) (v:=.ref L) rfl (fun s4 I4 ⟨a,sb,ha⟩=>?_) (.inr hy))
 obtain ⟨g0,g1,g2,g3,g4,g5⟩:=fC
 have hCa:C≠a:=by
  rcases ha with z | z
  ·rw [z];exact g1
  ·exact fun e=>g4 y a z e.symm
 refine ⟨m,hn.sameBut sb hCa,fun h5 sb5=>?_⟩
 exact ⟨_,_,I4.turned (t':=s4.toks) (fun b o hb e=>(sb5.2 b hb).trans e) g0 g1 g3 g4 g5,q⟩
end
section
def Dn (e:Int×a7):Str:=match e.2 with
 | .str x _=>x
 | _=>⟨#[]⟩
def vV (w:aT) (e:Int×a7):Prop:=∃ x tk,e=(hashStr w x,jy x tk)
structure i_ (w:aT) (h:a_) (a:aa) (es:Array (Int×a7)) (ep:Nat) (t:jM):Prop where
 at_:h.get? a=some { cls:=.type "set",dict:=none,data:=.set es ep t }
 txt:∀ e∈es.toList,vV w e
 nd:(es.toList.map Dn).Nodup
 few:es.size<i8
 fits:t.fits es.size=true
 led:t.led=!w.params.followText "set-order"
 pl:es.size=0\/t.plain=false
inductive m5 (w:aT) (h:a_) (a:aa) (ss:List Str):Prop
 | mk (es ep t:_) (h0:i_ w h a es ep t) (h1:(es.toList.map Dn).Perm ss):m5 w h a ss
theorem Do (t:jM) (es:Array (Int×a7)) (h:Int) (x:a7):(layNew t es h x).2.1.led=t.led:=by
 unfold layNew
 cases t.freeSlot h with
 | none=>rfl
 | some p =>
  obtain ⟨slot,d⟩:=p
  show ((t.put slot).1.orStandIn _).led=_
  unfold CG
  split<;>rfl
theorem zv (t:jM) (es:Array (Int×a7)) (h:Int) (x:a7):t.plain=false->(layNew t es h x).2.1.plain=false:=by
 intro hp
 unfold layNew
 cases t.freeSlot h with
 | none=>rfl
 | some p =>
  obtain ⟨slot,d⟩:=p
  show ((t.put slot).1.orStandIn _).plain=_
  unfold CG
  split
  ·exact hp
  ·rfl
theorem AZ {t t':jM}{hs:Array Int}{n:Nat}{o:Array Nat} (h:t.relaid hs n=some (t',o)):t'.led=t.led/\t'.plain=t.plain:=by
 unfold SetTable.relaid SetTable.laid at h
 cases e:SetTable.layClean (SetTable.sizeAbove n - 1) hs with
 | none=>rw [e] at h;cases h
 | some ow =>
  rw [e] at h
  have h:=bw h
  have h1:=congrArg Prod.fst h
  subst h1
  exact ⟨rfl,rfl⟩
theorem Gc (t:jM) (es:Array (Int×a7)) (n:Nat):(tL t es n).2.1.led=t.led/\(t.plain=false->(tL t es n).2.1.plain=false):=by
 unfold tL
 cases e:t.relaid (es.map (·.1)) n with
 | none=>exact ⟨rfl,fun _=>rfl⟩
 | some p =>
  obtain ⟨t',o⟩:=p
  obtain ⟨h1,h2⟩:=AZ e
  dsimp only
  split
  ·exact ⟨h1,fun h=>h2.trans h⟩
  ·exact ⟨rfl,fun _=>rfl⟩
theorem IB {w:aT}{P:aB}{l:List (Int×a7)} (h:∀ e∈l,vV w e):ElemsOf (strKind P w) l:=fun e he=>by
 obtain ⟨x,tk,rfl⟩:=h e he
 exact ⟨⟨x,by simp [PySem.strKind,rq],rfl⟩,rfl⟩
theorem S4 (P:aB) (w:aT) (x:Str) (tk:Tok):(strKind P w).is x (.str x tk)=true:=by simp [PySem.strKind,rq]
theorem EK {P:aB}{w:aT}{e:Int×a7} (h:vV w e) (x:Str):(strKind P w).is x e.2=true↔Dn e=x:=by
 obtain ⟨y,tk,rfl⟩:=h
 constructor
 ·intro q
  have:=(strKind P w).inj _ _ _ q (S4 P w y tk)
  rw [this];rfl
 ·rintro rfl
  exact S4 P w _ tk
section
variable {P:aB}{w:aT}{A:aP}{E:a7->a9->Prop}{s:a9}
theorem EL {h:a_}{a:aa}{es es':Array (Int×a7)}{ep:Nat}{t t':jM} (I:i_ w h a es ep t):(h.update a (tM es' t')).get? a=some { cls:=.type "set",dict:=none,data:=.set es' (ep + 1) t' }:=by
 have q:=ft (tM es' t') I.at_ rfl
 exact q
theorem Gd {a:aa}{ss:List Str}{x:Str}{tk:Tok}{Q:Bool->a9->Prop} (hS:m5 w s.heap a ss) (hr:ss.length + 1<i8)
  (h:∀ h' tk',cj a s.heap h'->m5 w h' a (if x∈ss then ss else ss++[x])->Q (!decide (x∈ss)) { s with heap:=h',toks:=tk' }) :
  ao (aE P w) A (setAddHashed a (.str x tk) ((strKind P w).hash x)) Q E s:=by
 obtain ⟨es,ep,t,I,pm⟩:=hS
 have hlen:es.size=ss.length:=by rw [<- pm.length_eq,au,bh]
 have hel:ElemsOf (strKind P w) es.toList:=IB I.txt
 unfold setAddHashed setAddHashedIn
 refine cq (a6 (eS (s:=s) I.at_ rfl I.fits ?_))
 dsimp only
 rw [byScan_of rfl I.few hel]
 rw [if_pos rfl]
 unfold setAddByScan
 refine a6 (a6 (hJ (a6 (wpAny_setScan_of (s:=s) (S4 P w x tk) I.at_ rfl I.fits hel ?_))))
 have inmem:x∈ss↔∃ e∈es.toList,(strKind P w).is x e.2=true:=by
  rw [<- pm.mem_iff,List.mem_map]
  constructor
  ·rintro ⟨e,he,q⟩;exact ⟨e,he,(EK (I.txt e he) x).mpr q⟩
  ·rintro ⟨e,he,q⟩;exact ⟨e,he,(EK (I.txt e he) x).mp q⟩
 cases hf:List.findIdx? (fun e=>(strKind P w).is x e.2) es.toList with
 | some j =>
  obtain ⟨hj,hp,_⟩:=List.findIdx?_eq_some_iff_getElem.mp hf
  have hin:x∈ss:=inmem.mpr ⟨_,ij hj,hp⟩
  have q:=h s.heap s.toks (.refl ..) (by rw [if_pos hin];exact ⟨es,ep,t,I,pm⟩)
  rw [decide_eq_true hin] at q
  exact af (af q)
 | none =>
  have hout:x∉ss:=fun z=>by
   obtain ⟨e,he,q⟩:=inmem.mp z
   rw [List.findIdx?_eq_none_iff.mp hf e he] at q
   cases q
  have h:=fun h' tk' sb=>h h' tk' sb
  rw [decide_eq_false hout,if_neg hout] at h
  have p1:=layNew_perm t es ((strKind P w).hash x) (.str x tk)
  have f1:=layNew_fits t es ((strKind P w).hash x) (.str x tk)
  have l1:=Do t es ((strKind P w).hash x) (.str x tk)
  have q1:=zv t es ((strKind P w).hash x) (.str x tk)
  generalize layNew t es ((strKind P w).hash x) (.str x tk)=L at p1 f1 l1 q1 ⊢
  obtain ⟨es1,t1,wd,gv⟩:=L
  dsimp only at p1 f1 l1 q1 ⊢
  rw [Hu] at p1
  have tx1:∀ e∈es1.toList,vV w e:=fun e he=>by
   rcases List.mem_append.mp (p1.mem_iff.mp he) with z | z
   ·exact I.txt e z
   ·rw [ej] at z;exact ⟨x,tk,z⟩
  have km:(es1.toList.map Dn).Perm (ss++[x]):=(p1.map Dn).trans (by rw [bR];exact pm.append_right _)
  have nd1:(ss++[x]).Nodup:=by
   rw [HH]
   exact ⟨pm.nodup_iff.mp I.nd,by simp,fun y hy z hz e=>hout (by rw [ej] at hz;rw [<- hz,<- e];exact hy)⟩
  have sz1:es1.size=es.size + 1:=by rw [<- bh,p1.length_eq,aR,bh];rfl
  have few1:es1.size<i8:=by omega
  have gw:∀ (b:Bool) {s₁:a9}{Q':Unit->a9->Prop},Q' () s₁->ao (aE P w) A (match b with | true=>rule "set.scan.the-table-gave-way" | false=>pure ()) Q' E s₁ :=
   fun b _ _ z=>by cases b<;>first | exact af z | exact hJ z
  have tail:∀ t2:jM,t2.fits es1.size=true->t2.led=t.led->t2.plain=false->ao (aE P w) A (do
    storeSet a es1 t2
    if (!wd && t2.tooFull)=true then do
      (match (tL t2 es1 (gW es1.size)).2.2 with | true=>rule "set.scan.the-table-gave-way" | false=>pure ())
      storeSet a (tL t2 es1 (gW es1.size)).1 (tL t2 es1 (gW es1.size)).2.1
      pure (some true)
     else pure (some true)) (fun r s'=>r=some true/\Q true s') E s:=fun t2 f2 l2 n2=>by
   refine a6 (wpAny_storeSet_of (s:=s) I.at_ rfl ?_ (o6 few1))
   have at1:=EL (es':=es1) (t':=t2) I
   have sb1:=cQ s.heap a (tM es1 t2)
   have I1:i_ w (s.heap.update a (tM es1 t2)) a es1 (ep + 1) t2:=⟨at1,tx1,km.nodup_iff.mpr nd1,few1,f2,l2.trans I.led,.inr n2⟩
   split
   ·have p2:=relayAll_perm t2 es1 (gW es1.size)
    have f3:=relayAll_fits t2 es1 (gW es1.size)
    have l3:=Gc t2 es1 (gW es1.size)
    generalize tL t2 es1 (gW es1.size)=R3 at p2 f3 l3 ⊢
    obtain ⟨es2,t3,gv2⟩:=R3
    dsimp only at p2 f3 l3 ⊢
    have few2:es2.size<i8:=by rw [<- bh,p2.length_eq,bh];exact few1
    have km2:=(p2.map Dn).trans km
    refine a6 (gw _ (a6 (wpAny_storeSet_of (s:={ s with heap:=s.heap.update a (tM es1 t2) }) I1.at_ rfl ?_ (o6 few2))))
    refine af ⟨rfl,h _ _ (sb1.trans (cQ _ a _)) ⟨es2,ep + 1 + 1,t3,⟨EL I1,fun e he=>tx1 e (p2.mem_iff.mp he),km2.nodup_iff.mpr nd1,few2,f3,l3.1.trans (l2.trans I.led),.inr (l3.2 n2)⟩,km2⟩⟩
   ·exact af ⟨rfl,h _ _ sb1 ⟨es1,ep + 1,t2,I1,km⟩⟩
  refine a6 (gw gv ?_)
  cases hp:t1.plain with
  | true =>
   simp only [if_true]
   rw [hashByValue_scannable 8 (x:=.str x tk) rfl]
   refine a6 (af ?_)
   refine b6 (tail { t1 with plain:=false } (by cases t1;exact f1) l1 rfl) (fun r s' z=>?_) fun _ _ z=>z
   obtain ⟨rfl,z⟩:=z
   exact af z
  | false =>
   simp only [c9,if_false]
   refine a6 (af ?_)
   refine b6 (tail t1 f1 l1 hp) (fun r s' z=>?_) fun _ _ z=>z
   obtain ⟨rfl,z⟩:=z
   exact af z
theorem A_ {a:aa}{ss:List Str}{x:Str}{tk:Tok}{Q:Bool->a9->Prop} (hS:m5 w s.heap a ss) (hr:ss.length + 1<i8)
  (h:∀ h' tk',cj a s.heap h'->m5 w h' a (if x∈ss then ss else ss++[x])->Q (!decide (x∈ss)) { s with heap:=h',toks:=tk' }) :
  ao (aE P w) A (setAdd a (.str x tk)) Q E s:=by
 unfold setAdd
 refine cq (a6 ((strKind P w).pyHash (k:=x) (S4 P w x tk) ?_))
 exact Gd (s:={ s with toks:=s.toks + 1 }) hS hr h
end
end
section
abbrev iA (w:aT):Obj:={ cls:=.type "set",dict:=none,data:=.set #[] 0 (.fresh 0 0 (!w.params.followText "set-order")) }
theorem yn (w:aT) {h:a_}{a:aa} (e:h.get? a=some (iA w)):m5 w h a [] :=
 ⟨#[],0,_,⟨e,fun e he=>by simp at he,by simp,by decide,rfl,rfl,.inl rfl⟩,by simp⟩
def eC:List Str->List Str->List Str
 | acc,[]=>acc
 | acc,x::r=>eC (if x∈acc then acc else acc++[x]) r
theorem mB:∀ (l acc:List Str) (x:Str),x∈eC acc l↔x∈acc\/x∈l
 | [],acc,x=>by simp [eC]
 | y::r,acc,x=>by
  rw [eC,mB r]
  by_cases h:y∈acc
  ·rw [if_pos h];simp only [aV]
   constructor
   ·exact fun z=>z.elim .inl fun z=>.inr (.inr z)
   ·rintro (z | z | z)
    ·exact .inl z
    ·exact .inl (z ▸ h)
    ·exact .inr z
  ·rw [if_neg h];simp [List.mem_append,or_assoc]
theorem li:∀ (l acc:List Str),acc.Nodup->(eC acc l).Nodup
 | [],acc,h=>h
 | y::r,acc,h=>by
  rw [eC]
  refine li r _ ?_
  by_cases hy:y∈acc
  ·rw [if_pos hy];exact h
  ·rw [if_neg hy,HH]
   exact ⟨h,by simp,fun a ha b hb e=>hy (by rw [ej] at hb;rw [<- hb,<- e];exact ha)⟩
theorem jU:∀ (l acc:List Str),(eC acc l).length<=acc.length + l.length
 | [],acc=>by simp [eC]
 | y::r,acc=>by
  rw [eC]
  have:=jU r (if y∈acc then acc else acc++[y])
  by_cases hy:y∈acc
  ·rw [if_pos hy] at this ⊢;simp only [bg];omega
  ·rw [if_neg hy] at this ⊢;simp only [bg,aR,dY,dR] at this ⊢;omega
section
variable {prog:aB}{w:aT}{A:aP}{E:a7->a9->Prop}{s:a9}{R:qF->a9->Prop}
theorem m5.keep {h h':a_}{a:aa}{ss:List Str} (x:m5 w h a ss) (k:∀ o,h.get? a=some o->h'.get? a=some o):m5 w h' a ss :=
 let ⟨es,ep,t,I,p⟩:=x;⟨es,ep,t,⟨k _ I.at_,I.txt,I.nd,I.few,I.fits,I.led,I.pl⟩,p⟩
theorem xt {I:aa}{fp wr:List aa}{n:Nat}{Pv:Nat->a7->Prop}{St:Nat->a_->Prop} (W:Hv prog w A.in1 I fp wr n Pv St) (D:aa) (hD:D∉fp) (xs:List Str) (hx:xs.length=n)
  (hv:∀ i v,Pv i v->∃ x t,xs[i]?=some x/\v=.str x t) (hb:n + 1<i8) :
  ∀ (k i:Nat) (s:a9) (acc:List Str),n - i=k->i<=n->acc.length<=i->St i s.heap->m5 w s.heap D acc ->
   (∀ h' tk,(∀ b o,b∉D::wr->s.heap.get? b=some o->h'.get? b=some o)->m5 w h' D (eC acc (xs.drop i))->R (.ok (.ret .none)) { s with heap:=h',toks:=tk }) ->
   gK (aE prog w) A (.builtin "set.update.loop" ⟨[.ref D,.ref I],[]⟩) R s:=by
 have hDw:D∉wr:=fun z=>hD (W.sub _ z)
 intro k
 induction k with
 | zero =>
  intro i s acc hk hi hl st hS hR
  obtain rfl:i=n:=by omega
  refine eU mP ?_
  rw [eu gR _]
  show ao _ A.in1 (lP (.ref I) >>= _) _ _ s
  refine a6 (W.done s _ _ st fun h' tk kp=>?_)
  refine af (hR h' tk (fun b o hb e=>kp b o (fun z=>hb (ai _ z)) e) ?_)
  rw [CH (by omega)]
  exact hS.keep fun o e=>kp D o hDw e
 | succ k ih =>
  intro i s acc hk hi hl st hS hR
  have hlt:i<n:=by omega
  refine eU mP ?_
  rw [eu gR _]
  show ao _ A.in1 (lP (.ref I) >>= _) _ _ s
  refine a6 (W.item i s _ _ hlt st fun v h' tk hP st' kp=>?_)
  obtain ⟨x,t,hxi,rfl⟩:=hv i v hP
  have hS':m5 w h' D acc:=hS.keep fun o e=>kp D o hDw e
  refine a6 (cq (A_ (s:={ s with heap:=h',toks:=tk }) hS' (by omega) fun h2 tk2 sb hS2=>?_))
  refine af ⟨kW gR _,ih (i + 1) _ (if x∈acc then acc else acc++[x]) (by omega) hlt ?_ (W.frame _ _ _ st' fun b hb o e=>?_) hS2 fun h3 tk3 k3 hS3=>?_⟩
  ·by_cases z:x∈acc
   ·rw [if_pos z];omega
   ·rw [if_neg z,aR,dY];omega
  ·rw [sb.2 b fun z=>hD (z ▸ hb)];exact e
  ·refine hR h3 tk3 (fun b o hb e=>k3 b o hb ?_) ?_
   ·rw [sb.2 b fun z=>hb (by rw [z];exact al)]
    exact kp b o (fun z=>hb (ai _ z)) e
   ·have hd:xs.drop i=x::xs.drop (i + 1):=by
     obtain ⟨h1,h2⟩:=List.getElem?_eq_some_iff.mp hxi
     rw [zc h1,h2]
    rw [hd,eC];exact hS3
theorem IC (a:a7) {Q₁:a7->a9->Prop} (h:Q₁ (.ref s.heap.objs.size) { s with heap:=s.heap.push (iA w) }) :
  gK (aE prog w) A (.call (.builtin "set.__new__") ⟨[.type "set",a],[]⟩) (wants Q₁ E) s:=by
 refine rG ?_
 show ao _ A.in1 (do q8 "set.__new__" ⟨[.type "set",a],[]⟩;again (.builtin "set.__new__" ⟨[.type "set",a],[]⟩)) _ _ s
 refine a6 (tN (F.newCall_set_1 a) (af ⟨kW F.plain_set_new _,eU F.entry_set_new ?_⟩))
 rw [eu F.plain_set_new _]
 unfold fN.«set.__new__» Lw
 have hsub:=sub_set_self
 obtain ⟨hp,g,d,tk,os⟩:=s
 dsimp only
 wp_walk
 refine iR (af ?_)
 dsimp only
 simp only [newObj]
 refine a6 (Lv (af ?_))
 exact af h
structure Pa (prog:aB) (w:aT) (A:aP) (T:String) (l:aa) (o:Obj) (items:Array a7):Prop where
 ty:o.cls=.type T
 s1:isSubtype (.type T) (.type "set")=pure false
 s2:isSubtype (.type T) (.type "frozenset")=pure false
 nd:(i0 T == i0 "dict")=false
 iter:∀ (s:a9) (Q:a7->a9->Prop) (E:a7->a9->Prop),s.heap.get? l=some o ->
  (∀ ob St,Hv prog w A.in1 s.heap.objs.size [s.heap.objs.size,l] [s.heap.objs.size] items.size (fun i v=>items[i]?=some v) St->St 0 (s.heap.push ob)->Q (.ref s.heap.objs.size) { s with heap:=s.heap.push ob })->ao (aE prog w) A (y_ (.ref l)) Q E s
theorem sg {T:String}{l:aa}{ol:Obj}{items:Array a7}{xs:List Str}{Q:a7->a9->Prop}
  (src:Pa prog w A.in1.in1 T l ol items) (hol:s.heap.get? l=some ol) (hi:∀ (i:Nat) (v:a7),items[i]?=some v->∃ x t,xs[i]?=some x/\v=jy x t) (hx:xs.length=items.size) (hb:items.size + 1<i8)
  (h:∀ (h':a_) (tk:Nat),m5 w h' s.heap.objs.size (eC [] xs)->(∀ b o,s.heap.get? b=some o->h'.get? b=some o)->Q (.ref s.heap.objs.size) { s with heap:=h',toks:=tk }) :
  ao (aE prog w) A (call (.type "set") [.ref l]) Q E s:=by
 obtain ⟨c,tl,hmro⟩:=F.called_set.mro
 have hmade:=F.called_set.made
 have hsub:=F.called_set.sub
 refine mS (rG ?_)
 show ao _ _ (callAny (.type "set") _) _ _ _
 refine af ⟨l7 _ (by decide +kernel),eU F.entry_type_call ?_⟩
 rw [Around.under_plain (weight_type_call_type "set" [.ref l] []) rfl]
 have h1:=F.called_set.notType
 have h2:=F.called_set.canCreate
 have hct:=F.typeCall_set_1 (.ref l)
 repeat (any_goals (first | assumption | wp_step))
 refine mn (IC (.ref l) (E:=E) (Q₁:=fun obj s₁=>obj=.ref s.heap.objs.size/\s₁={ s with heap:=s.heap.push (iA w) }) ⟨rfl,rfl⟩) fun r s₁ hr=>?_
 cases r with
 | error e=>exact hr
 | ok fl =>
  cases fl with
  | ret obj =>
   obtain ⟨rfl,rfl⟩:=hr
   have hS:(s.heap.push (iA w)).get? s.heap.objs.size=some (iA w):=ax _ rfl
   have hT:Lx { s with heap:=s.heap.push (iA w) } (.ref s.heap.objs.size) "set":=⟨_,hS,rfl⟩
   have hli:=F.called_set.init.lookup
   have hbi:=F.called_set.init.bind (.ref s.heap.objs.size)
   repeat (any_goals (first | assumption | wp_step))
   refine mn (k_ (R:=wants (fun r s₂=>r=.none/\∃ h' tk,s₂={ s with heap:=h',toks:=tk }/\m5 w h' s.heap.objs.size (eC [] xs) /\
     (∀ b o,s.heap.get? b=some o->h'.get? b=some o)) E) F.called_set.init.plain F.entry_set_init (check_set_init_1 hT ?_)) fun r₂ s₂ hr₂=>?_
   ·obtain ⟨oc,od,odt,os'⟩:=ol
    obtain ⟨ty,s1,s2,nd,iter⟩:=src
    have ty:oc=.type T:=ty
    subst ty
    have hol':(s.heap.push (iA w)).get? l=some { cls:=.type T,dict:=od,data:=odt,slots:=os' }:=a8 _ hol
    unfold fN.«set.__init__» noKeywords Ly
    generalize hPI:y_=PI
    wp_walk
    subst hPI
    refine iter { s with heap:=s.heap.push (iA w) } _ _ hol' fun ob St W st=>?_
    have hlS:l<s.heap.objs.size:=aj hol
    refine a6 (wpAny_runValue ?_)
    have szp:(s.heap.push (iA w)).objs.size=s.heap.objs.size + 1:=c7 ..
    refine xt (A:=A.in1.in1) W s.heap.objs.size (by rw [szp];simp only [aV,aJ,or_false,not_or];exact ⟨az (el _),dO hlS⟩) xs hx hi hb items.size 0 _ [] (by omega) (ck _) (ar _) st (yn w (a8 _ hS)) fun h' tk kp hS'=>?_
    show ao _ _ _ _ _ _
    refine af ?_
    show ao _ _ (ret d_) _ _ _
    refine af ⟨rfl,h',tk,rfl,hS',fun b o e=>kp b o ?_ (a8 _ (a8 _ e))⟩
    have:=aj e
    rw [szp]
    simp only [aV,aJ,or_false,not_or]
    exact ⟨az this,az (eK this)⟩
   ·cases r₂ with
    | error e=>exact hr₂
    | ok fl₂ =>
     cases fl₂ with
     | ret r =>
      obtain ⟨rfl,h',tk,rfl,hS',hk'⟩:=hr₂
      repeat (any_goals (first | assumption | wp_step))
      exact h _ _ hS' hk'
     | next=>exact hr₂.elim
     | brk=>exact hr₂.elim
     | cont=>exact hr₂.elim
  | next=>exact hr.elim
  | brk=>exact hr.elim
  | cont=>exact hr.elim
theorem ID {l:aa}{o:Obj}{its:List a7} (hh:A.handled=none) (e0:o.cls=.type "list") (e1:∃ n,o.data=.seq its.toArray n):Pa prog w A "list" l o its.toArray :=
 ⟨e0,F.sub_list_set,F.sub_list_frozenset,by decide,fun s Q E e h=>ii ⟨_,e,e0,e1⟩
  (h _ _ (rR (by simpa using hh) _ l (az (aj e)) its.toArray) ⟨⟨_,ax _ rfl,rfl,rfl⟩,⟨_,a8 _ e,e0,e1⟩⟩)⟩
theorem Mf {l:aa}{o:Obj}{its:List a7} (hh:A.handled=none) (e0:o.cls=.type "tuple") (e1:∃ n,o.data=.seq its.toArray n):Pa prog w A "tuple" l o its.toArray :=
 ⟨e0,F.sub_tuple_set,F.sub_tuple_frozenset,by decide,fun s Q E e h=>fH ⟨_,e,e0,e1⟩
  (h _ _ (Walks.tuple (by simpa using hh) _ l (az (aj e)) its.toArray) ⟨⟨_,ax _ rfl,rfl,rfl⟩,⟨_,a8 _ e,e0,e1⟩⟩)⟩
end
end
end L2
section
namespace L2
open PySem PySem.Spec PyProof.Rows
namespace SI
theorem entry_iter:Lz table "set.__iter__"=some fN.«frozenset.__iter__» :=
 entryFor_alias (id':="frozenset.__iter__") (by kernel_rfl) rfl (by decide +kernel) (by kernel_rfl)
theorem slot_next:Slot "set_iterator" "__next__" "set_iterator.__next__":=by
 refine .of (owner:="set_iterator") (n:="__next__") ?_ ?_ ?_ ?_ ?_ ?_
 ·rw [rH,ke];kernel_rfl
 ·decide +kernel
 ·decide +kernel
 ·decide +kernel
 ·first
   | exact .inl (by decide +kernel)
   | exact .inr (by decide +kernel)
 ·rw [CZ];kernel_rfl
theorem entry_next:Lz table "set_iterator.__next__"=some fN.«set_iterator.__next__» :=
 entryFor_of_tree (by kernel_rfl)
theorem B0:Manifest.owners.lookup (String.ofList ['r','o','t','a','r','e','t','i','_','t','e','s'].reverse)=some Manifest.sig_set_iterator:=by kernel_rfl
theorem args_next (a:a7):HI "set_iterator.__next__" ⟨[a],[]⟩:=by
 unfold HI
 rw [signature?_of (id:="set_iterator.__next__") (n:=['_','_','t','x','e','n','_','_']) (o:=['r','o','t','a','r','e','t','i','_','t','e','s']) (by kernel_rfl) B0]
 kernel_rfl
theorem args_iter (a:a7):HI "set_iterator.__iter__" ⟨[a],[]⟩:=by
 unfold HI
 rw [signature?_of (id:="set_iterator.__iter__") (n:=['_','_','r','e','t','i','_','_']) (o:=['r','o','t','a','r','e','t','i','_','t','e','s']) (by kernel_rfl) B0]
 kernel_rfl
theorem entry_self:Lz table "set_iterator.__iter__"=some fN.«dict_keyiterator.__iter__» :=
 entryFor_alias (id':="dict_keyiterator.__iter__") (by kernel_rfl) rfl (by decide +kernel) (by kernel_rfl)
theorem slot_iter:Slot "set_iterator" "__iter__" "set_iterator.__iter__":=by
 refine .of (owner:="set_iterator") (n:="__iter__") ?_ ?_ ?_ ?_ ?_ ?_
 ·rw [rH,ke];kernel_rfl
 ·decide +kernel
 ·decide +kernel
 ·decide +kernel
 ·first
   | exact .inl (by decide +kernel)
   | exact .inr (by decide +kernel)
 ·rw [CZ];kernel_rfl
end SI
end L2
end
namespace L2
open PySem PySem.Spec PyProof.Rows
section
theorem qP {α:Type}:∀ {l:List α}{i:Nat} (h:i<l.length),(l[i]::l.eraseIdx i).Perm l
 | x::r,0,_=>.refl _
 | x::r,i + 1,h=>by
  have q:=qP (l:=r) (i:=i) (by simpa using h)
  rw [List.getElem_cons_succ,List.eraseIdx_cons_succ]
  exact (List.Perm.swap _ _ _).trans (q.cons x)
section
variable {M:vd}{A:aP}{E:a7->a9->Prop}{s:a9}
theorem Ge {src:Source}{n:Nat}{Q:Nat->a9->Prop} (hn:n≠0) (h:∀ i d,i<n->Q i { s with drawn:=d }):ao M A (choose src n) Q E s :=
 fun _ _ _=>⟨hn,h _ _ (Nat.mod_lt _ (Nat.pos_of_ne_zero hn))⟩
theorem si {α:Type}:∀ (n:Nat) (xs:List α) (s:a9) (Q:List α->a9->Prop),n=xs.length->(∀ ys d,ys.Perm xs->Q ys { s with drawn:=d })->ao M A (drawOrder n xs) Q E s
 | 0,xs,s,Q,hn,h=>by
  obtain rfl:xs=[]:=List.length_eq_zero_iff.mp hn.symm
  exact af (h [] s.drawn .nil)
 | n + 1,[],s,Q,hn,h=>by cases hn
 | n + 1,x::r,s,Q,hn,h=>by
  show ao M A (choose .order (x::r).length >>= _) Q E s
  refine a6 (Ge (by simp) fun i d hi=>?_)
  rw [aC hi]
  refine a6 (si n _ _ _ (by rw [xY hi];omega) fun ys d' p=>af ?_)
  exact h _ _ ((p.cons _).trans (qP hi))
end
theorem EM {α:Type} (next:Nat->Nat):∀ (n k:Nat) (left:List α) (out:Array α),n=left.length->(xl next n k left out).toList.Perm (out.toList++left)
 | 0,k,left,out,hn=>by
  obtain rfl:left=[]:=List.length_eq_zero_iff.mp hn.symm
  rw [xl,bH]
 | n + 1,k,left,out,hn=>by
  have hl:next k % left.length<left.length:=Nat.mod_lt _ (by omega)
  rw [xl,aC hl]
  refine (EM next n (k + 1) _ _ (by rw [xY hl];omega)).trans ?_
  rw [Hu,eJ]
  exact (qP hl).append_left _
theorem yo {α:Type} (next:Nat->Nat) (xs:Array α):(mQ next xs).toList.Perm xs.toList:=by
 have:=EM next xs.size 0 xs.toList #[] (by simp)
 simpa [mQ] using this
def zw (h:a_) (I S:aa) (first:a7) (i n ep:Nat):Prop:=h.get? I=some { cls:=.type "set_iterator",data:=.fields #[first,.int i 0,.ref S,.int n 0,.int ep 0] }
section
variable {prog:aB}{w:aT}{A:aP}{E:a7->a9->Prop}{s:a9}{I S:aa}{es:Array (Int×a7)}{ep:Nat}{t:jM}{i n:Nat}{first:a7}
theorem zw.put {f f':a7}{j j':Nat}{k:Nat}{x:a7}{h:a_} (hit:zw h I S f j n ep) (e:(#[f,.int j 0,.ref S,.int n 0,.int ep 0] : Array a7).setIfInBounds k x=#[f',.int j' 0,.ref S,.int n 0,.int ep 0]) :
  zw (h.update I (eZ (·.setIfInBounds k x))) I S f' j' n ep:=by
 have q:=ft (eZ (·.setIfInBounds k x)) hit rfl
 unfold zw
 rw [q]
 show some ({ cls:=.type "set_iterator",data:=.fields ((#[f,.int j 0,.ref S,.int n 0,.int ep 0] : Array a7).setIfInBounds k x) }:Obj)=_
 rw [e]
theorem pz {Q:Option a7->a9->Prop} (hit:zw s.heap I S first i n ep) (hS:i_ w s.heap S es ep t) (hn:n=es.size)
  (h:ao (aE prog w) A.in1 (do
   if let .int slot _:=first then
    match <- HJ S slot.toNat i ep with
    | some (x,next) =>
     gM (.ref I) 0 (cb next)
     gM (.ref I) 1 (cb (i + 1))
     ret x
    | none=>gM (.ref I) 2 .none;tO (<- vB (.type "StopIteration") [])
   else
    let some places <- Hw first | LA "internal:set_iterator"
    match places[i]? with
    | some (.int place _) =>
     let x <- setNextDrawn S place.toNat ep
     gM (.ref I) 1 (cb (i + 1))
     ret x
    | some _=>LA "internal:set_iterator"
    | none=>gM (.ref I) 0 (cb 0);gM (.ref I) 2 .none;tO (<- vB (.type "StopIteration") []))
   (fun fin s'=>∃ v,fin=.done (.ret v)/\Q (some v) s') (fun e s'=>ao (aE prog w) A (qI e (.type "StopIteration")) (fun b s''=>b=true/\Q none s'') E s') s) :
  ao (aE prog w) A (lP (.ref I)) Q E s:=by
 unfold lP
 refine a6 (kX ?_)
 refine cU (name:=ik "__next__") ⟨_,hit,rfl⟩ SI.slot_next ?_
 refine cH SI.slot_next ⟨_,hit,rfl⟩ SI.entry_next ?_ (SI.args_next _)
 show ao _ _ (fieldsOf (.ref I) >>= _) _ _ s
 refine a6 (wpAny_fieldsOf hit rfl ?_)
 show ao _ _ (setEntries S >>= _) _ _ s
 refine a6 (wpAny_setEntries_of hS.at_ rfl hS.fits ?_)
 rw [if_neg (by rw [hn];simp)]
 refine b6 h (fun fin s' z=>?_) fun e s' z=>?_
 ·obtain ⟨v,rfl,q⟩:=z
  exact ⟨v,rfl,af q⟩
 ·refine a6 (b6 z (fun b s'' ⟨hb,q⟩=>?_) fun _ _ z=>z)
  subst hb
  exact af q
theorem zx {B:aP}{Q:Option a7->a9->Prop}{Q':Fin->a9->Prop}{o:Obj}{vs:Array a7} (hh:B.handled=none) (ho:s.heap.get? I=some o) (hd:o.data=.fields vs) (hz:2<vs.size)
  (h:∀ h',Heap.ExtBut I s.heap h'->Q none { s with heap:=h' }) :
  ao (aE prog w) B (do gM (.ref I) 2 .none;tO (<- vB (.type "StopIteration") []))
   Q' (fun e s'=>ao (aE prog w) A (qI e (.type "StopIteration")) (fun b s''=>b=true/\Q none s'') E s') s:=by
 refine a6 (iD ho hd hz ?_)
 show ao _ _ (vB (.type "StopIteration") [] >>= _) _ _ _
 refine a6 ?_
 simp only [vB,newTuple]
 refine a6 (cr ?_ (by size_fits))
 refine a6 (m:=tP _ _) (tN (a:=d_) ?_ ?_)
 ·first
   | rfl
   | (simp only [tP];rfl)
 refine cr ?_ (by size_fits)
 simp only [tO]
 refine a6 (wpAny_handled ?_)
 rw [hh]
 refine a6 (af (wpAny_throw ?_))
 refine q9 (T:="StopIteration") (b:=true) ⟨_,ax _ rfl,rfl⟩ C_ ⟨rfl,?_⟩
 exact h _ (((cQ ..).extBut.push _).push _)
end
end
section
section
variable {prog:aB}{w:aT}{A:aP}{E:a7->a9->Prop}{s:a9}{I S:aa}{es:Array (Int×a7)}{ep:Nat}{t:jM}{i n:Nat}{first:a7}
theorem i_.keep {h h':a_} (x:i_ w h S es ep t) (k:∀ o,h.get? S=some o->h'.get? S=some o):i_ w h' S es ep t:=⟨k _ x.at_,x.txt,x.nd,x.few,x.fits,x.led,x.pl⟩
theorem zy {Q:a7->a9->Prop} (hit:zw s.heap I S first i n ep) (h:Q (.ref I) s):ao (aE prog w) A (y_ (.ref I)) Q E s:=by
 refine wpAny_pyIter_slot ⟨_,hit,rfl⟩ SI.slot_iter (cH SI.slot_iter ⟨_,hit,rfl⟩ SI.entry_self ?_ (SI.args_iter _))
 show ao _ _ (ret (.ref I)) _ _ s
 exact af ⟨_,rfl,"set_iterator",_,⟨_,hit,rfl⟩,SI.slot_next.lookup,h⟩
theorem gL {Q:Bool->a9->Prop}{B:aP} (h:Q (w.params.followText "set-order") s):ao (aE prog w) B setsByText Q E s:=by
 unfold setsByText
 exact a6 (iR (af h))
theorem IE {B:aP}{Q':Fin->a9->Prop}{x:a7}{nx:Nat}{E':a7->a9->Prop} (hit:zw s.heap I S first i n ep)
  (h:∀ h',zw h' I S (.int nx 0) (i + 1) n ep->cj I s.heap h'->Q' (.done (.ret x)) { s with heap:=h' }) :
  ao (aE prog w) B (do gM (.ref I) 0 (cb nx);gM (.ref I) 1 (cb (i + 1));ret x) Q' E' s:=by
 refine a6 (iD hit rfl (by simp) ?_)
 have h1:zw (s.heap.update I (eZ (·.setIfInBounds 0 (cb nx)))) I S (.int nx 0) i n ep:=hit.put (by simp [cb])
 refine a6 (iD h1 rfl (by simp) ?_)
 have h2:zw ((s.heap.update I (eZ (·.setIfInBounds 0 (cb nx)))).update I (eZ (·.setIfInBounds 1 (cb (i + 1))))) I S (.int nx 0) (i + 1) n ep:=h1.put (by simp [cb])
 exact af (h _ h2 ((cQ ..).trans (cQ ..)))
theorem tY (f:Nat->Nat) (es:Array (Int×a7)):(mQ f es).size=es.size:=by
 rw [<- bh,(yo f es).length_eq,bh]
theorem Dp (hh:A.handled=none) (hw:w.params.followText "set-order"=true) (hne:S≠I) :
  Hv prog w A I [I,S] [I] es.size (fun i v=>((mQ (w.params.setOrder S ep) es).toList.map (·.2))[i]?=some v) (fun i h=>zw h I S (.int 0 0) i es.size ep/\i_ w h S es ep t) where
 sub:=fun b hb=>by simp at hb;simp [hb]
 frame:=fun i h h' st k=>⟨k I (by simp) _ st.1,st.2.keep fun o e=>k S (by simp) o e⟩
 item:=fun i s Q E hi st hQ=>by
  obtain ⟨hit,hS⟩:=st
  refine pz hit hS rfl ?_
  dsimp only
  unfold HJ setWalk
  refine a6 (a6 (eS hS.at_ rfl hS.fits (a6 (gL ?_))))
  rw [hw]
  simp only [if_true,bne_self_eq_false,c9,if_false]
  refine a6 (a6 (eS hS.at_ rfl hS.fits (a6 (gL ?_))))
  rw [hw]
  simp only [if_true]
  refine a6 (iR (af (af ?_)))
  have hi':i<(mQ (w.params.setOrder S ep) es).size:=by rw [tY];exact hi
  show ao _ _ (match ((mQ (w.params.setOrder S ep) es)[i]?).map fun e=>(e.2,(0:Int).toNat) with
   | some (x,next)=>do gM (.ref I) 0 (cb next);gM (.ref I) 1 (cb (i + 1));ret x
   | none=>do gM (.ref I) 2 .none;tO (<- vB (.type "StopIteration") [])) _ _ s
  rw [getElem?_pos _ i hi']
  refine IE (nx:=0) hit fun h' h1 sb=>⟨_,rfl,hQ _ h' s.toks ?_ ⟨h1,hS.keep fun o e=>(sb.2 S hne).trans e⟩ fun b o hb e=>(sb.2 b fun z=>hb (by simp [z])).trans e⟩
  simp [hi']
 done:=fun s Q E st hQ=>by
  obtain ⟨hit,hS⟩:=st
  refine pz hit hS rfl ?_
  dsimp only
  unfold HJ setWalk
  refine a6 (a6 (eS hS.at_ rfl hS.fits (a6 (gL ?_))))
  rw [hw]
  simp only [if_true,bne_self_eq_false,c9,if_false]
  refine a6 (a6 (eS hS.at_ rfl hS.fits (a6 (gL ?_))))
  rw [hw]
  simp only [if_true]
  refine a6 (iR (af (af ?_)))
  show ao _ _ (match ((mQ (w.params.setOrder S ep) es)[es.size]?).map fun e=>(e.2,(0:Int).toNat) with
   | some (x,next)=>do gM (.ref I) 0 (cb next);gM (.ref I) 1 (cb (es.size + 1));ret x
   | none=>do gM (.ref I) 2 .none;tO (<- vB (.type "StopIteration") [])) _ _ s
  rw [getElem?_neg _ es.size (by rw [tY];exact bQ _)]
  exact zx (by simpa using hh) hit rfl (by simp) fun h' eb=>hQ h' s.toks fun b o hb e=>eb b o (fun z=>hb (by simp [z])) e
 self:=fun i s Q E st h=>zy st.1 h
inductive S_ (h:a_) (T:aa) (ps:List Nat):Prop
 | mk (o k:_) (h0:h.get? T=some o) (h1:o.data=.seq (ps.map fun (p:Nat)=>kU (p:Int) 0).toArray k):S_ h T ps
theorem B1 (hh:A.handled=none) {T:aa}{ps:List Nat} (hne:S≠I) (hT:T≠I) (hp:∀ p∈ps,p<es.size) (hn:ps.length=es.size) :
  Hv prog w A I [I,S,T] [I] es.size (fun i v=>(ps.map fun p=>(es.getD p (0,.none)).2)[i]?=some v) (fun i h=>zw h I S (.ref T) i es.size ep/\i_ w h S es ep t/\S_ h T ps) where
 sub:=fun b hb=>by simp at hb;simp [hb]
 frame:=fun i h h' st k=>⟨k I (by simp) _ st.1,st.2.1.keep fun o e=>k S (by simp) o e,let ⟨o,q,e,d⟩:=st.2.2;⟨o,q,k T (by simp) o e,d⟩⟩
 item:=fun i s Q E hi st hQ=>by
  obtain ⟨hit,hS,o,q,e,d⟩:=st
  refine pz hit hS rfl ?_
  dsimp only
  refine a6 (dU e d ?_)
  have hi':i<ps.length:=by omega
  dsimp only
  rw [show ((ps.map fun (p:Nat)=>kU (p:Int) 0).toArray)[i]?=some (.int (ps[i] : Nat) 0) by simp [hi']]
  dsimp only
  unfold setNextDrawn
  refine a6 (a6 (eS hS.at_ rfl hS.fits ?_))
  have hlt:=hp ps[i] (ij hi')
  simp only [bne_self_eq_false,c9,if_false,fQ]
  rw [getElem?_pos es ps[i] hlt]
  refine af ?_
  refine a6 (iD hit rfl (by simp) ?_)
  have h1:zw (s.heap.update I (eZ (·.setIfInBounds 1 (cb (i + 1))))) I S (.ref T) (i + 1) es.size ep:=hit.put (by simp [cb])
  have sb:cj I s.heap (s.heap.update I (eZ (·.setIfInBounds 1 (cb (i + 1))))):=cQ ..
  refine af ⟨_,rfl,hQ _ _ s.toks ?_ ⟨h1,hS.keep fun o e=>(sb.2 S hne).trans e,o,q,(sb.2 T hT).trans e,d⟩ fun b o hb e=>(sb.2 b fun z=>hb (by simp [z])).trans e⟩
  simp [hi',hlt]
 done:=fun s Q E st hQ=>by
  obtain ⟨hit,hS,o,q,e,d⟩:=st
  refine pz hit hS rfl ?_
  dsimp only
  refine a6 (dU e d ?_)
  dsimp only
  rw [show ((ps.map fun (p:Nat)=>kU (p:Int) 0).toArray)[es.size]?=none by simp [<- hn]]
  dsimp only
  refine a6 (iD hit rfl (by simp) ?_)
  have h1:zw (s.heap.update I (eZ (·.setIfInBounds 0 (cb 0)))) I S (.int 0 0) es.size es.size ep:=hit.put (by simp [cb])
  have sb:cj I s.heap (s.heap.update I (eZ (·.setIfInBounds 0 (cb 0)))):=cQ ..
  exact zx (s:={ s with heap:=s.heap.update I (eZ (·.setIfInBounds 0 (cb 0))) }) (by simpa using hh) h1 rfl (by simp) fun h' eb=>hQ h' s.toks fun b o hb e=>eb b o (fun z=>hb (by simp [z])) ((sb.2 b fun z=>hb (by simp [z])).trans e)
 self:=fun i s Q E st h=>zy st.1 h
theorem IG {p:Array Nat}{j:Nat} (h:p=#[j]):gX p 0=0:=by subst h;simp [gX,xm]
theorem IH {p:Array Nat}{j:Nat} (h:p=#[j]):gX p (j + 1)=1:=by subst h;simp [gX,xm]
theorem Gf {t : jM} (h : t.fits 1 = true) : ∃ j, t.place = #[j] := by
  have h1 : t.place.size = 1 := by
    simp only [SetTable.fits, aS, beq_iff_eq] at h; exact h.1
  exact ⟨t.place[0], by apply Array.ext; · simp [h1]
                        · intro i h2 h3; have : i = 0 := by omega
                          subst this; simp⟩
theorem Pb {B:aP}{k:Unit->Sem (Option (a7×Nat))}{Q:Option (a7×Nat)->a9->Prop} (hl:t.led=true) (h:ao (aE prog w) B (k ()) Q E s) :
  ao (aE prog w) B ((if (!t.led && !es.isEmpty)=true then LA "set:maker-not-led" else pure ()) >>= k) Q E s:=by
 rw [if_neg (by rw [hl];simp)]
 exact a6 (af h)
theorem sj {B:aP}{slot g:Nat}{Q:Option (a7×Nat)->a9->Prop} (hw:w.params.followText "set-order"=false) (hS:i_ w s.heap S es ep t) (h1:es.size<=1)
  (h:Q (match es[gX t.place slot]?,t.place[gX t.place slot]? with | some (_,x),some j=>some (x,j + 1) | _,_=>none) s):ao (aE prog w) B (HJ S slot g ep) Q E s:=by
 unfold HJ
 refine a6 (eS hS.at_ rfl hS.fits (a6 (gL ?_)))
 rw [hw]
 simp only [c9,if_false]
 split
 ·rename_i z
  exact absurd (show (!t.plain && decide (es.size > 1))=true from z) (by simp;omega)
 ·have hl:t.led=true:=by rw [hS.led,hw];rfl
  exact Pb hl (af h)
theorem Gg (hh:A.handled=none) (hw:w.params.followText "set-order"=false) (hne:S≠I) (h1:es.size<=1) :
  Hv prog w A I [I,S] [I] es.size (fun i v=>(es.toList.map (·.2))[i]?=some v)
   (fun i h=>∃ k,zw h I S (.int (k:Nat) 0) i es.size ep/\i_ w h S es ep t/\(i=0->k=0)/\(i=1->es.size=1->∃ j,t.place=#[j]/\k=j + 1)) where
 sub:=fun b hb=>by simp at hb;simp [hb]
 frame:=fun i h h' st k=>let ⟨c,a1,a2,a3⟩:=st;⟨c,k I (by simp) _ a1,a2.keep fun o e=>k S (by simp) o e,a3⟩
 item:=fun i s Q E hi st hQ=>by
  obtain ⟨c,hit,hS,c0,c1⟩:=st
  have hi0:i=0:=by omega
  subst hi0
  obtain rfl:c=0:=c0 rfl
  have e1:es.size=1:=by omega
  obtain ⟨j,hj⟩:=Gf (t:=t) (by rw [<- e1];exact hS.fits)
  refine pz hit hS rfl ?_
  dsimp only
  refine a6 (sj hw hS h1 ?_)
  rw [show (((0:Nat):Int).toNat)=0 from rfl,IG hj,getElem?_pos es 0 (by omega),hj]
  refine IE (nx:=j + 1) hit fun h' h1 sb=>⟨_,rfl,hQ _ h' s.toks ?_ ⟨j + 1,h1,hS.keep fun o e=>(sb.2 S hne).trans e,by simp,fun _ _=>⟨j,hj,rfl⟩⟩ fun b o hb e=>(sb.2 b fun z=>hb (by simp [z])).trans e⟩
  simp [e1]
 done:=fun s Q E st hQ=>by
  obtain ⟨c,hit,hS,c0,c1⟩:=st
  refine pz hit hS rfl ?_
  dsimp only
  refine a6 (sj hw hS h1 ?_)
  have hz:es[gX t.place ((c:Nat):Int).toNat]?=none:=by
   rcases Nat.eq_zero_or_pos es.size with z | z
   ·rw [getElem?_neg];omega
   ·have e1:es.size=1:=by omega
    obtain ⟨j,hj,hc⟩:=c1 e1 e1
    rw [hc,show (((j + 1:Nat):Int).toNat)=j + 1 from rfl,IH hj,getElem?_neg];omega
  rw [hz]
  exact zx (by simpa using hh) hit rfl (by simp) fun h' eb=>hQ h' s.toks fun b o hb e=>eb b o (fun z=>hb (by simp [z])) e
 self:=fun i s Q E st h=>let ⟨_,a1,_⟩:=st;zy a1 h
theorem Dq {Q:a7->a9->Prop} (hh:A.handled=none) (hS:i_ w s.heap S es ep t)
  (h:∀ (I:aa) (fp:List aa) (ord:List a7) (St:Nat->a_->Prop) (h':a_) (d:Hm),s.heap.objs.size<=I->(∀ b∈fp,b=S\/s.heap.objs.size<=b)->(∀ b∈fp,b<h'.objs.size)->ord.Perm (es.toList.map (·.2))->(∀ B:aP,B.handled=none->Hv prog w B I fp [I] ord.length (fun i v=>ord[i]?=some v) St)->St 0 h' ->
   (∀ b o,s.heap.get? b=some o->h'.get? b=some o)->Lx { s with heap:=h',drawn:=d } (.ref I) "set_iterator"->Q (.ref I) { s with heap:=h',drawn:=d }):ao (aE prog w) A (y_ (.ref S)) Q E s:=by
 have hT:s.TypeIs (.ref S) "set":=⟨_,hS.at_,rfl⟩
 have hlt:=aj hS.at_
 refine wpAny_pyIter_slot hT F.slot_set_iter (cH F.slot_set_iter hT SI.entry_iter ?_ (F.args_set_iter_1 _))
 show ao _ _ (qJ S >>= _) _ _ s
 unfold qJ
 refine a6 (a6 (wpAny_setEntries_of hS.at_ rfl hS.fits (af ?_)))
 show ao _ _ (setDrawn S >>= _) _ _ s
 unfold setDrawn
 refine a6 (a6 (eS hS.at_ rfl hS.fits (a6 (gL (af ?_)))))
 have fin:∀ (first:a7) (fp:List aa) (ord:List a7) (St:Nat->a_->Prop) (h':a_) (d:Hm),(∀ b o,s.heap.get? b=some o->h'.get? b=some o)->s.heap.objs.size<=h'.objs.size ->
   (∀ b∈fp,b=S\/b=h'.objs.size\/(s.heap.objs.size<=b/\b<h'.objs.size))->ord.Perm (es.toList.map (·.2))->(∀ B:aP,B.handled=none->Hv prog w B h'.objs.size fp [h'.objs.size] ord.length (fun i v=>ord[i]?=some v) St) ->
   (∀ h'':a_,(∀ b o,h'.get? b=some o->h''.get? b=some o)->zw h'' h'.objs.size S first 0 es.size ep->St 0 h'') ->
   ao (aE prog w) A.in1 (setEpoch S >>= fun e=>newFields "set_iterator" [first,cb 0,.ref S,cb es.size,cb e] >>= fun x=>ret x) (fun fin s'=>∃ v,fin=.done (.ret v)/\∃ T' r,s'.TypeIs v T'/\gD (.type T') "__next__"=pure (some r)/\Q v s') E { s with heap:=h',drawn:=d }:=by
  intro first fp ord St h' d kp hsz hfp pm W st
  have hS':i_ w h' S es ep t:=hS.keep fun o e=>kp S o e
  refine a6 (wpAny_setEpoch_of (s:={ s with heap:=h',drawn:=d }) hS'.at_ rfl hS'.fits ?_)
  refine a6 (cr ?_ (by size_fits))
  have gp:∀ b o,h'.get? b=some o->(h'.push { cls:=.type "set_iterator",dict:=none,data:=.fields #[first,cb 0,.ref S,cb es.size,cb ep] }).get? b=some o:=fun b o e=>a8 _ e
  have it:(h'.push { cls:=.type "set_iterator",dict:=none,data:=.fields #[first,cb 0,.ref S,cb es.size,cb ep] }).get? h'.objs.size=some { cls:=.type "set_iterator",dict:=none,data:=.fields #[first,cb 0,.ref S,cb es.size,cb ep] }:=ax _ rfl
  refine af ⟨_,rfl,"set_iterator",_,⟨_,it,rfl⟩,SI.slot_next.lookup,h h'.objs.size fp ord St _ d hsz (fun b hb=>?_) (fun b hb=>?_) pm W (st _ gp it) (fun b o e=>gp b o (kp b o e)) ⟨_,it,rfl⟩⟩
  ·rcases hfp b hb with z | z | z
   ·exact .inl z
   ·exact .inr (by rw [z];exact hsz)
   ·exact .inr z.1
  ·rw [c7]
   rcases hfp b hb with z | z | z
   ·rw [z];exact eK (aD hlt hsz)
   ·rw [z];exact el _
   ·exact eK z.2
 dsimp only
 split
 ·rename_i z
  have z:(!w.params.followText "set-order" && (!t.plain && decide (es.size > 1)))=true:=z
  refine a6 (si _ _ _ _ (by simp) fun ys d pm=>?_)
  simp only [newTuple]
  have hyl:ys.length=es.size:=by have:=pm.length_eq;rwa [fO] at this
  have zl:=o6 hS.few
  refine a6 (cr ?_ (by show (ys.map fun (i:Nat)=>cb i).toArray.size<=sizeLine;simp;omega))
  have tp:∀ ob:Obj,(s.heap.push ob).objs.size=s.heap.objs.size + 1:=fun ob=>c7 ..
  refine fin (.ref s.heap.objs.size) [s.heap.objs.size + 1,S,s.heap.objs.size] (ys.map fun p=>(es.getD p (0,.none)).2)
   (fun i h=>zw h (s.heap.objs.size + 1) S (.ref s.heap.objs.size) i es.size ep/\i_ w h S es ep t/\S_ h s.heap.objs.size ys) (s.heap.push _) d
   (fun b o e=>a8 _ e) (by rw [tp];exact fR _) (fun b hb=>?_) ?_ (fun B hB=>?_) (fun h'' k it=>⟨by rw [tp] at it;exact it,hS.keep fun o e=>k S o (a8 _ e),_,_,k _ _ (ax _ rfl),rfl⟩)
  ·simp only [aV,aJ,or_false] at hb
   rcases hb with y | y | y
   ·exact .inr (.inl (by rw [tp];exact y))
   ·exact .inl y
   ·exact .inr (.inr ⟨by rw [y];exact ar _,by rw [tp,y];exact el _⟩)
  ·refine (pm.map _).trans (.of_eq ?_)
   apply List.ext_getElem
   ·simp
   ·intro k h1 h2
    have:k<es.size:=by simpa using h1
    simp [this]
  ·rw [au,hyl,tp]
   exact B1 hB (az (eK hlt)) (az (el _)) (fun p hp=>List.mem_range.mp (pm.mem_iff.mp hp)) hyl
 ·rename_i z
  have z:¬ (!w.params.followText "set-order" && (!t.plain && decide (es.size > 1)))=true:=z
  refine a6 (af ?_)
  have hne:S≠s.heap.objs.size:=az hlt
  cases hw:w.params.followText "set-order" with
  | true =>
   refine fin (cb 0) [s.heap.objs.size,S] ((mQ (w.params.setOrder S ep) es).toList.map (·.2)) (fun i h=>zw h s.heap.objs.size S (.int 0 0) i es.size ep/\i_ w h S es ep t) s.heap s.drawn (fun _ _ e=>e) (ar _) (fun b hb=>?_) ((yo _ es).map _) (fun B hB=>?_) (fun h'' k it=>⟨it,hS.keep fun o e=>k S o e⟩)
   ·simp only [aV,aJ,or_false] at hb
    exact hb.elim (fun z=>.inr (.inl z)) .inl
   ·rw [au,bh,tY]
    exact Dp hB hw hne
  | false =>
   have h1:es.size<=1:=by
    rw [hw] at z
    rcases hS.pl with y | y
    ·omega
    ·rw [y] at z;simpa using z
   refine fin (cb 0) [s.heap.objs.size,S] (es.toList.map (·.2)) (fun i h=>∃ k,zw h s.heap.objs.size S (.int (k:Nat) 0) i es.size ep/\i_ w h S es ep t/\(i=0->k=0)/\(i=1->es.size=1->∃ j,t.place=#[j]/\k=j + 1)) s.heap s.drawn (fun _ _ e=>e) (ar _) (fun b hb=>?_) (.refl _) (fun B hB=>?_) (fun h'' k it=>⟨0,it,hS.keep fun o e=>k S o e,fun _=>rfl,fun y=>by cases y⟩)
   ·simp only [aV,aJ,or_false] at hb
    exact hb.elim (fun z=>.inr (.inl z)) .inl
   ·rw [au,bh]
    exact Gg hB hw hne h1
end
end
section
section
variable {prog:aB}{w:aT}{A:aP}{E:a7->a9->Prop}{s:a9}{S:aa}{es:Array (Int×a7)}{ep:Nat}{t:jM}
theorem B2 {Q:List a7->a9->Prop} (hh:A.handled=none) (hS:i_ w s.heap S es ep t)
  (h:∀ (ord:List a7) (h':a_) (d:Hm) (tk:Nat),ord.Perm (es.toList.map (·.2))->(∀ b o,s.heap.get? b=some o->h'.get? b=some o)->s.heap.objs.size<=h'.objs.size->Q ord { s with heap:=h',drawn:=d,toks:=tk }) :
  ao (aE prog w) A (collect (.ref S)) Q E s:=by
 have hlt:=aj hS.at_
 unfold collect
 refine a6 (wpAny_runValue (eU F.entry_proto_collect ?_))
 rw [eu F.plain_proto_collect _]
 show ao _ A.in1 (newList [] >>= fun l=>again (.builtin "list.__iadd__" ⟨[l,.ref S],[]⟩)) _ _ s
 refine a6 (cr ?_)
 refine af ⟨kW F.plain_list_iadd _,eU F.entry_list_iadd ?_⟩
 rw [eu F.plain_list_iadd _]
 let s1:a9:={ s with heap:=s.heap.push { cls:=.type "list",data:=.seq ([] : List a7).toArray } }
 have sz1:s1.heap.objs.size=s.heap.objs.size + 1:=c7 ..
 have at1:s1.heap.get? s.heap.objs.size=some { cls:=.type "list",data:=.seq ([] : List a7).toArray }:=ax _ rfl
 have hS1:i_ w s1.heap S es ep t:=hS.keep fun o e=>a8 _ e
 show ao _ A.in1 (rT (.ref s.heap.objs.size) (.ref S) (.ref s.heap.objs.size)) _ _ s1
 have hT1:s1.TypeIs (.ref S) "set":=⟨_,hS1.at_,rfl⟩
 unfold rT
 refine a6 (iP hT1 ?_)
 have e1:ut (.ref s.heap.objs.size) (.ref S)=false:=by simp [ut,dO hlt]
 have e2:(i0 "set" == i0 "list")=false:=by decide
 have e3:(i0 "set" == i0 "tuple")=false:=by decide
 simp only [e1,e2,e3,Bool.or_false,c9,if_false]
 refine a6 (Dq (A:=A.in1) (by simpa using hh) hS1 fun I fp ord St h' d hI hfp hfl pm W st kp tI=>?_)
 let s2:a9:={ s1 with heap:=h',drawn:=d }
 have hS2:i_ w s2.heap S es ep t:=hS1.keep fun o e=>kp S o e
 have hT2:s2.TypeIs (.ref S) "set":=⟨_,hS2.at_,rfl⟩
 refine a6 (cq ?_)
 unfold Builtin.List.listLengthHint
 refine a6 (wpAny_specialOf (s:=s2) hT2 F.slot_set_len.lookup ?_)
 dsimp only
 rw [show splitId "set.__len__"=some ("set","__len__") from by decide +kernel]
 dsimp only
 refine a6 (q9 (b:=true) (s:=s2) hT2 (by rw [CZ];kernel_rfl) ?_)
 rw [if_neg (by decide),if_pos (by decide)]
 refine a6 (iP (s:=s2) hT2 (af ?_))
 rw [if_pos (by decide)]
 refine a6 (hJ ?_)
 have nS:s.heap.objs.size∉fp:=fun z=>by
  rcases hfp _ z with q | q
  ·exact absurd hlt (by rw [<- q];exact bQ _)
  ·rw [sz1] at q;exact absurd q (Nat.not_succ_le_self _)
 have at2:s2.heap.get? s.heap.objs.size=some { cls:=.type "list",data:=.seq ([] : List a7).toArray }:=kp _ _ at1
 refine a6 ?_
 show ao _ A.in1 (updateSeq s.heap.objs.size (·.push .none) >>= fun _=>updateSeq s.heap.objs.size (·.pop)) _ _ s2
 refine a6 (AH at2 rfl ?_)
 have at3:=ft (iV (·.push d_)) at2 rfl
 refine AH at3 rfl ?_
 have at4:=ft (iV (·.pop)) at3 rfl
 have oth:∀ b o,b≠s.heap.objs.size->s2.heap.get? b=some o->((s2.heap.update s.heap.objs.size (iV (·.push d_))).update s.heap.objs.size (iV (·.pop))).get? b=some o :=
  fun b o hb e=>(o0 _ _ (eA hb)).trans ((o0 _ _ (eA hb)).trans e)
 have zl:ord.length<=sizeLine:=by rw [pm.length_eq,au,bh];exact o6 hS.few
 have W1:=W A.in1 (by simpa using hh)
 refine af ⟨kW F.plain_extend_loop _,codeAny_extend_loopS (A:=A) W1.toS zl _ nS _ ord.length 0 { s2 with heap:=(s2.heap.update s.heap.objs.size (iV (·.push d_))).update s.heap.objs.size (iV (·.pop)) } _ _ rfl (ck _) (W1.frame 0 _ _ st fun b hb o e=>oth b o (fun z=>nS (z ▸ hb)) e) at4 (ItemsOf.nil _) fun s' acc' c' hm hS' hacc=>?_⟩
 show ao _ A (load s.heap.objs.size >>= _) _ _ s'
 refine a6 (wpAny_load hS' (af ?_))
 have hacc':acc'.toList=ord:=by
  apply ms
  intro j
  rw [fj]
  by_cases hj:j<acc'.size
  ·have:=hacc.2 j acc'[j] (by simp [hj])
   rw [this];simp [hj]
  ·rw [getElem?_neg acc' j hj,bj (by rw [<- hacc.1];omega)]
 rw [hacc']
 obtain ⟨h3,g3,d3,t3,o3⟩:=s'
 obtain rfl:g3=s.gens:=hm.gens
 obtain rfl:d3=d:=hm.drawn
 obtain rfl:o3=s.os:=hm.os
 have old:∀ b o,s.heap.get? b=some o->h3.get? b=some o:=fun b o e=>by
  have hb:=aj e
  refine hm.heap b o ?_ (oth b o (az hb) (kp b o (a8 _ e)))
  simp only [aV,aJ,or_false,not_or]
  exact ⟨az hb,az (aD hb (by have q:=hI;rw [sz1] at q;exact Nat.le_of_succ_le q))⟩
 refine h ord h3 _ t3 pm old ?_
 have:=aj (show h3.get? s.heap.objs.size=some _ from hS')
 exact bi this
theorem B3 {x:a7}{Q:a7->a9->Prop} (hc:ao (aE prog w) A.in1 (collect x) (fun vs s1=>∃ ss,qK vs ss/\vs.length<64 /\
   ∀ (h':a_) (vs':List a7) (ss':List Str) (e:Nat),(∀ b o,s1.heap.get? b=some o->h'.get? b=some o)->h'.get? s1.heap.objs.size=some (seqObj "list" vs'.toArray e)->qK vs' ss'->ss'.Perm ss->sortedS ss'=true ->
    Q (.ref s1.heap.objs.size) { s1 with heap:=h' }) E s):ao (aE prog w) A (call (.builtin "sorted") [x]) Q E s:=by
 refine xZ kind_sorted plain_sorted entry_sorted (args_sorted1 _) ?_
 unfold fN.«sorted»
 refine a6 (m:=checkCount "sorted" 1 1 _) (af ?_)
 refine a6 (b6 hc (fun vs s1 z=>?_) fun _ _ z=>z)
 obtain ⟨ss,hss,h64,hq⟩:=z
 refine a6 (wpAny_newList ?_)
 have at1:(s1.heap.push (seqObj "list" vs.toArray 0)).get? s1.heap.objs.size=some (seqObj "list" vs.toArray 0):=ax _ rfl
 show ao _ _ _ _ _ { s1 with heap:=s1.heap.push (seqObj "list" vs.toArray 0) }
 refine a6 (cq (cH slot_list_sort ⟨_,at1,rfl⟩ entry_list_sort (list_sort_treeK strKind_oneLt at1 hss.keysOf (fun v₁ v₂ bA e=>keyKind_strs (by rw [<- e];exact hss)) h64 fun st' a1 a2=>⟨_,rfl,?_⟩) (args_list_sort _)))
 obtain ⟨ss',p1,p2,p3⟩:=sorted_out_str hss a1 a2
 obtain ⟨e,at2⟩:=sortedHeap_at (out:=(arrOf st').map (·.2)) at1
 refine af ⟨_,rfl,hq _ _ ss' e (fun b o q=>?_) at2 p1 p2 p3⟩
 have hb:=aj q
 rw [sortedHeap_old (az hb) (by rw [c7];exact eK hb)]
 exact a8 _ q
end
end
section
def qe (x y:Str):Bool:=decide (x.cps.toList<y.cps.toList)
def Dr (x:Str):List Str->List Str
 | []=>[x]
 | y::r=>if qe y x then y::Dr x r else x::y::r
def ja:List Str->List Str
 | []=>[]
 | x::r=>Dr x (ja r)
theorem tZ (x:Str):∀ l,(Dr x l).Perm (x::l)
 | []=>.refl _
 | y::r=>by
  rw [Dr]
  split
  ·exact ((tZ x r).cons y).trans (.swap ..)
  ·exact .refl _
theorem iF:∀ l,(ja l).Perm l
 | []=>.refl _
 | x::r=>(tZ x _).trans ((iF r).cons x)
theorem vW (x:Str):qe x x=false:=decide_eq_false (List.lt_irrefl _)
theorem t_ {x y z:Str} (h1:qe x y=true) (h2:qe y z=true):qe x z=true :=
 decide_eq_true (List.lt_trans (of_decide_eq_true h1) (of_decide_eq_true h2))
theorem vm {x y:Str} (h1:qe x y=false) (h2:qe y x=false):x=y:=by
 have h1:¬ x.cps.toList<y.cps.toList:=of_decide_eq_false h1
 have h2:¬ y.cps.toList<x.cps.toList:=of_decide_eq_false h2
 have:x.cps.toList=y.cps.toList:=List.le_antisymm (List.not_lt.mp h2) (List.not_lt.mp h1)
 cases x;cases y
 exact congrArg Str.mk (Array.toList_inj.mp this)
abbrev Ln (l:List Str):Prop:=l.Pairwise fun a b=>qe b a=false
theorem II (x:Str):∀ l,Ln l->Ln (Dr x l)
 | [],_=>by simp [Dr,Ln]
 | y::r,h=>by
  obtain ⟨h1,h2⟩:=List.pairwise_cons.mp h
  rw [Dr]
  split
  ·rename_i hy
   refine List.pairwise_cons.mpr ⟨fun z hz=>?_,II x r h2⟩
   rcases List.mem_cons.mp ((tZ x r).mem_iff.mp hz) with e | e
   ·subst e
    cases q:qe z y with
    | false=>rfl
    | true=>exact absurd (t_ q hy) (by rw [vW];decide)
   ·exact h1 z e
  ·rename_i hy
   have hy:qe y x=false:=by simpa using hy
   refine List.pairwise_cons.mpr ⟨fun z hz=>?_,h⟩
   rcases List.mem_cons.mp hz with e | e
   ·subst e;exact hy
   ·cases q:qe z x with
    | false=>rfl
    | true =>
     have hzy:=h1 z e
     cases q2:qe x y with
     | true=>rw [t_ q q2] at hzy;cases hzy
     | false=>rw [<- vm hy q2,hzy] at q;cases q
theorem sk:∀ l,Ln (ja l)
 | []=>.nil
 | x::r=>II x _ (sk r)
theorem sr:∀ (p:Str) (l:List Str),risingS p l=true->Ln (p::l)
 | p,[],_=>by simp [Ln]
 | p,x::r,h=>by
  rw [risingS,aS] at h
  obtain ⟨h1,h2⟩:=h
  have h1:qe x p=false:=by
   rw [ltCps_eq] at h1
   simpa [qe] using h1
  have ih:=sr x r h2
  refine List.pairwise_cons.mpr ⟨fun z hz=>?_,ih⟩
  rcases List.mem_cons.mp hz with e | e
  ·rw [e];exact h1
  ·have hzx:=(List.pairwise_cons.mp ih).1 z e
   cases q:qe z p with
   | false=>rfl
   | true =>
    cases q2:qe p x with
    | true=>rw [t_ q q2] at hzx;cases hzx
    | false=>rw [vm q2 h1,hzx] at q;cases q
theorem zz:∀ (l:List Str),sortedS l=true->Ln l
 | [],_=>.nil
 | x::r,h=>sr x r h
theorem yp:∀ {l l':List Str},l.Perm l'->Ln l->Ln l'->l=l'
 | [],l',p,_,_=>by rw [List.nil_perm.mp p]
 | x::r,[],p,_,_=>by have:=p.length_eq;simp at this
 | x::r,y::r',p,h,h'=>by
  obtain ⟨a1,a2⟩:=List.pairwise_cons.mp h
  obtain ⟨b1,b2⟩:=List.pairwise_cons.mp h'
  have e:x=y:=by
   have hx:x∈y::r':=p.mem_iff.mp al
   have hy:y∈x::r:=p.mem_iff.mpr al
   rcases List.mem_cons.mp hx with e | e
   ·exact e
   ·rcases List.mem_cons.mp hy with e' | e'
    ·exact e'.symm
    ·exact vm (b1 x e) (a1 y e')
  subst e
  rw [yp (List.Perm.cons_inv p) a2 b2]
theorem B4 {l l':List Str} (p:l'.Perm l) (h:sortedS l'=true):l'=ja l:=yp (p.trans (iF l).symm) (zz _ h) (sk l)
theorem yq {l:List Str} (h:Ln l) (nd:l.Nodup):l.Pairwise fun a b=>qe a b=true:=by
 induction l with
 | nil=>exact .nil
 | cons x r ih =>
  obtain ⟨a1,a2⟩:=List.pairwise_cons.mp h
  obtain ⟨n1,n2⟩:=List.nodup_cons.mp nd
  refine List.pairwise_cons.mpr ⟨fun y hy=>?_,ih a2 n2⟩
  cases q:qe x y with
  | true=>rfl
  | false=>exact absurd (vm q (a1 y hy) ▸ hy) n1
theorem jV:∀ {ss:List Str}{us:List a7},cJ (ss.map V.str) us->qK us ss
 | [],_,.nil=>.nil
 | x::r,_,.cons h t=>by obtain ⟨tk,rfl⟩:=h;exact .cons x tk (jV t)
theorem mV:∀ {ss:List Str}{us:List a7},qK us ss->cJ (ss.map V.str) us
 | _,_,.nil=>.nil
 | _,_,.cons x t h=>.cons ⟨t,rfl⟩ (mV h)
theorem eV:∀ {ss:List Str}{us:List a7},qK us ss->us.length=ss.length
 | _,_,.nil=>rfl
 | _,_,.cons x t h=>by simp [eV h]
theorem vX {ss:List Str}{us:List a7} (h:qK us ss) (i:Nat) (v:a7) (e:us[i]?=some v):∃ x t,ss[i]?=some x/\v=jy x t:=by
 induction h generalizing i with
 | nil=>simp at e
 | cons y t _ ih =>
  cases i with
  | zero=>simp at e;exact ⟨y,t,by simp,e.symm⟩
  | succ i=>simp at e;simpa using ih i e
theorem su {w:aT}:∀ {l:List (Int×a7)},(∀ e∈l,vV w e)->qK (l.map (·.2)) (l.map Dn)
 | [],_=>.nil
 | e::r,h=>by
  obtain ⟨x,tk,rfl⟩:=h e al
  exact .cons x tk (su fun e he=>h e (ai _ he))
theorem zA {us us':List a7}{ss:List Str} (h:qK us ss) (p:us'.Perm us):∃ ss',qK us' ss'/\ss'.Perm ss:=by
 refine ⟨us'.map strOf,strsAre_map _ fun v hv=>h.all v (p.mem_iff.mp hv),?_⟩
 rw [<- h.strs]
 exact p.map _
def qf (w:aT) (a:aa) (ss:List Str):HO:=.ext fun h=>m5 w h a ss
theorem EN {P:aB}{w:aT}{H:Hp}{h:a_}{a:aa}{ss:List Str} (x:m5 w h a ss):dk P w H h a (qf w a ss) :=
 ⟨x,let ⟨_,_,_,I,_⟩:=x;⟨_,I.at_⟩,fun _ _ y k=>y.keep k⟩
section
variable {X:Cx}
theorem B5 (hc:X.calm=true):iM X (.type "set") (fun xs H Q=>∃ p ss,xs=[.ref p]/\(l5 X.K H p (ss.map V.str)\/jN X.K H p (ss.map V.str))/\ss.length + 1<i8/\∀ a,H a=none->Q (.ref a) (upd H a (qf X.w a (eC [] ss)))):=by
 intro pins s σ H xs us Q I r h
 obtain ⟨p,ss,rfl,hq,hz,q⟩:=h
 obtain ⟨u,rfl,rx⟩:=jA r
 cases rx
 have hh:=I.ok.hd hc
 have fin:∀ (h':a_) (tk:Nat),m5 X.w h' s.heap.objs.size (eC [] ss)->(∀ b o,s.heap.get? b=some o->h'.get? b=some o)->EP X pins σ Q (.ref s.heap.objs.size) { s with heap:=h',toks:=tk }:=fun h' tk hS kp =>
  ⟨.ref s.heap.objs.size,_,I.laid (t':=tk) kp (ar _) (EN hS),rfl,q _ (I.hok.fresh (ar _))⟩
 rcases hq with hq | hq
 ·obtain ⟨its,r',⟨o,n,ho,h1,h2,h3⟩,_⟩:=I.list hq
  have sa:=jV r'
  exact sg (ID (by simpa using hh) h1 ⟨n,h3⟩) ho (fun i v e=>vX sa i v (by simpa using e)) (by simp [eV sa]) (by simp [eV sa];exact hz) fin
 ·obtain ⟨its,r',⟨o,ho,h1,n,h3⟩,_⟩:=I.tuple hq
  have sa:=jV r'
  exact sg (Mf (by simpa using hh) h1 ⟨n,h3⟩) ho (fun i v e=>vX sa i v (by simpa using e)) (by simp [eV sa]) (by simp [eV sa];exact hz) fin
theorem u0:iM X (.builtin "sorted") (fun xs H Q=>∃ p ss,xs=[.ref p]/\l5 X.K H p (ss.map V.str)/\ss.length<64/\∀ l,H l=none->Q (.ref l) (upd H l (.lst ((ja ss).map V.str)))):=by
 intro pins s σ H xs us Q I r h
 obtain ⟨p,ss,rfl,hq,hz,q⟩:=h
 obtain ⟨u,rfl,rx⟩:=jA r
 cases rx
 obtain ⟨its,r',pl,hl⟩:=I.list hq
 have sa:=jV r'
 refine sorted_strs pl.isList sa (by rw [eV sa];exact hz) fun out ss' a1 a2 a3=>?_
 obtain ⟨e,he⟩:=sortedAll_at s.heap its out
 have kp:∀ b o,s.heap.get? b=some o->(sortedAll s.heap its out).get? b=some o:=fun b o=>sortedAll_old
 obtain rfl:=B4 a2 a3
 refine ⟨.ref (s.heap.objs.size + 1),upd H (s.heap.objs.size + 1) (.lst ((ja ss).map V.str)),I.laid (t':=s.toks) kp (fR _) (show dk X.prog X.w _ _ _ (.lst _) from ⟨?_,out.toList,e,mV a1,by simpa [seqObj] using he⟩),rfl,q _ (I.hok.fresh (fR _))⟩
 rw [au,(iF ss).length_eq]
 have:=hl
 rw [au] at this
 exact this
theorem u_ (hc:X.calm=true):iM X (.builtin "sorted") (fun xs H Q=>∃ p ss,xs=[.ref p]/\H p=some (qf X.w p ss)/\ss.length<64/\∀ l,H l=none->Q (.ref l) (upd H l (.lst ((ja ss).map V.str)))):=by
 intro pins s σ H xs us Q I r h
 obtain ⟨p,ss,rfl,hq,hz,q⟩:=h
 obtain ⟨u,rfl,rx⟩:=jA r
 cases rx
 have hh:=I.ok.hd hc
 obtain ⟨⟨es,ep,t,S,pm⟩,_⟩:=(show dk X.prog X.w H s.heap p (qf X.w p ss) from I.hok p _ hq)
 refine B3 (B2 (by simpa using hh) S fun ord h' d tk po kp sz=>?_)
 obtain ⟨ss1,sa,p1⟩:=zA (su S.txt) po
 have ln:ss1.length=ss.length:=(p1.trans pm).length_eq
 refine ⟨ss1,sa,by rw [eV sa,ln];exact hz,fun h2 vs' ss' e kp2 at2 sa2 p2 s2=>?_⟩
 have kk:∀ b o,s.heap.get? b=some o->h2.get? b=some o:=fun b o e=>kp2 b o (kp b o e)
 have es':ss'=ja ss:=B4 (p2.trans (p1.trans pm)) s2
 subst es'
 have fr:=I.hok.fresh sz
 have ok2:dk X.prog X.w (upd H h'.objs.size (.lst ((ja ss).map V.str))) h2 h'.objs.size (.lst ((ja ss).map V.str)) :=
  ⟨by rw [au,(iF ss).length_eq];exact bE (bi hz) (by rw [Ay];decide),vs',e,mV sa2,at2⟩
 exact ⟨.ref h'.objs.size,_,I.call' (s':={ s with heap:=h2,drawn:=d,toks:=tk }) (ch:=[]) rfl (Un.laid kk sz fr) (I.hok.laid kk sz ok2) I.bare (fun b z=>absurd z (by simp)),rfl,q _ fr⟩
end
end
section
section
variable {X:Cx}
theorem uA {prog:aB}{w:aT}{B:aP}{bs:List Bool}{its:List a7} (r:cJ (bs.map V.bl) its):TruthOf prog w B (fun i v=>its.toArray[i]?=some v) (fun i=>bs.getD i false):=by
 intro i v s Q E hv hq
 have hv:its[i]?=some v:=by simpa using hv
 have hl:=r.length
 rw [au] at hl
 obtain ⟨hi,_⟩:=List.getElem?_eq_some_iff.mp hv
 have hb:bs[i]?=some bs[i]:=aC (by omega)
 obtain ⟨u,hu,ru⟩:=r.get (i:=i) (x:=.bl bs[i]) (by rw [ay,hb];rfl)
 rw [hv] at hu;cases hu
 cases ru
 have hq:Q (bs.getD i false) s:=hq
 rw [bT,hb] at hq
 exact dS hq
theorem IJ (bs:List Bool):(bt bs.length).all (fun i=>bs.getD i false)=bs.all id:=by
 rw [gP,dD,dD]
 constructor
 ·intro h b hb
  obtain ⟨i,hi,rfl⟩:=gx hb
  have:=h i (List.mem_range.mpr hi)
  simpa [bT,hi] using this
 ·intro h i hi
  have hi:=List.mem_range.mp hi
  have:=h bs[i] (ij hi)
  simpa [bT,hi] using this
theorem IK (bs:List Bool):(bt bs.length).any (fun i=>bs.getD i false)=bs.any id:=by
 rw [gP,nP,nP]
 constructor
 ·rintro ⟨i,hi,h⟩
  have hi:=List.mem_range.mp hi
  exact ⟨bs[i],ij hi,by simpa [bT,hi] using h⟩
 ·rintro ⟨b,hb,h⟩
  obtain ⟨i,hi,rfl⟩:=gx hb
  exact ⟨i,List.mem_range.mpr hi,by simpa [bT,hi] using h⟩
theorem vY (hc:X.calm=true):iM X (.builtin "all") (fun xs H Q=>∃ p,∃ bs:List Bool,xs=[.ref p]/\l5 X.K H p (bs.map V.bl)/\Q (.bl (bs.all id)) H):=by
 intro pins s σ H xs us Q I r h
 obtain ⟨p,bs,rfl,hq,q⟩:=h
 obtain ⟨u,rfl,rx⟩:=jA r
 cases rx
 obtain ⟨its,r',pl,hl⟩:=I.list hq
 have ln:its.toArray.size=bs.length:=by have:=r'.length;simp at this ⊢;omega
 obtain ⟨o,ho,hk⟩:=pl.isList
 refine call_all_walk (ii pl.isList ⟨_,_,_,_,_,_,_,rfl,rR (by simpa using I.ok.hd hc) _ p (az (aj ho)) its.toArray,⟨⟨_,ax _ rfl,rfl,rfl⟩,pl.isList.push _⟩,uA r',fun h' tk kp=>?_⟩)
 rw [ln,IJ]
 refine ⟨.bl _,H,I.kept (t':=tk) fun b o e=>kp b o ?_ (a8 _ e),rfl,q⟩
 simp only [ej]
 exact az (aj e)
theorem vZ (hc:X.calm=true):iM X (.builtin "any") (fun xs H Q=>∃ p,∃ bs:List Bool,xs=[.ref p]/\l5 X.K H p (bs.map V.bl)/\Q (.bl (bs.any id)) H):=by
 intro pins s σ H xs us Q I r h
 obtain ⟨p,bs,rfl,hq,q⟩:=h
 obtain ⟨u,rfl,rx⟩:=jA r
 cases rx
 obtain ⟨its,r',pl,hl⟩:=I.list hq
 have ln:its.toArray.size=bs.length:=by have:=r'.length;simp at this ⊢;omega
 obtain ⟨o,ho,hk⟩:=pl.isList
 refine call_any_walk (ii pl.isList ⟨_,_,_,_,_,_,_,rfl,rR (by simpa using I.ok.hd hc) _ p (az (aj ho)) its.toArray,⟨⟨_,ax _ rfl,rfl,rfl⟩,pl.isList.push _⟩,uA r',fun h' tk kp=>?_⟩)
 rw [ln,IK]
 refine ⟨.bl _,H,I.kept (t':=tk) fun b o e=>kp b o ?_ (a8 _ e),rfl,q⟩
 simp only [ej]
 exact az (aj e)
theorem Gh:o9 X (bI .LtE) (fun x y H Q=>∃ i j,x=.str i/\y=.str j/\Q (.bl (!decide (j.cps.toList<i.cps.toList))) H):=by
 intro pins s σ H x y v u Q I rx ry h
 obtain ⟨i,j,rfl,rfl,q⟩:=h
 obtain ⟨t,rfl⟩:=rx
 obtain ⟨t',rfl⟩:=ry
 exact PySem.P.le_str (gN I q rfl)
end
end
section
def QF (x:Str):It:=⟨fun i _=>i<x.cps.size,fun i H v H'=>H'=H/\∃ c,x.cps[i]?=some c/\v=.str ⟨#[c]⟩,fun i _=>x.cps.size<=i⟩
theorem IL {P:aB}{w:aT}{K:a5}{tg:aO} (x:Str) (t:Tok) (it:aa):xq P w K tg (QF x) [it] it (fun i h=>h.IsStrIter it (gY x) x t i) where
 mem:=by simp
 obj:=fun i h st b hb=>by
  obtain rfl:b=it:=by simpa using hb
  obtain ⟨o,e,c,d⟩:=st
  exact ⟨o,e,fun v z=>by rw [d] at z;cases z⟩
 keep:=fun i h h' st k=>let ⟨o,e,r⟩:=st;⟨o,k it (by simp) o e,r⟩
 item:=by
  intro X hP hw hK hc i pins s σ H E I hf st hg
  subst hP hw hK
  have hg:i<x.cps.size:=hg
  obtain ⟨f0,f1,f2,f3,f4,f5⟩:=hf it (by simp)
  have hx:x.cps[i]?=some x.cps[i]:=getElem?_pos _ i hg
  have go:∀ (h':a_) (tk tk':Nat),h'.IsStrIter it (gY x) x t (i + 1)->cj it s.heap h'->∃ u,some (jy ⟨#[x.cps[i]]⟩ tk)=some u /\
    ao (aE X.prog X.w) X.A (gd tg (.ref it) u) (fun _ s2=>∃ v H',bu X pins σ H' s2/\df v u/\(QF x).yld i H v H'/\s2.heap.IsStrIter it (gY x) x t (i + 1)/\∀ b∈[it],H' b=none) E { s with heap:=h',toks:=tk' }:=fun h' tk tk' st' sb=>by
   have I1:bu X pins σ H { s with heap:=h',toks:=tk' }:=I.turned (fun b o hb e=>(sb.2 b hb).trans e) f0 f1 f3 f4 f5
   refine ⟨_,rfl,?_⟩
   have q:∃ v H',bu X pins σ H' { s with heap:=h',toks:=tk' }/\df v (jy ⟨#[x.cps[i]]⟩ tk)/\(QF x).yld i H v H'/\h'.IsStrIter it (gY x) x t (i + 1)/\∀ b∈[it],H' b=none :=
    ⟨.str ⟨#[x.cps[i]]⟩,H,I1,⟨tk,rfl⟩,⟨rfl,_,hx,rfl⟩,st',fun b hb=>(hf b hb).1⟩
   unfold gd
   cases tg<;>exact af q
  cases ha:x.cps.all (·<128)
  ·have ty:gY x="str_iterator":=by unfold gY;rw [ha];rfl
   rw [ty] at st
   exact wpAny_pyNext_wide_item st hx fun h' st' sb=>go h' _ _ (by rw [ty];exact st') sb
  ·have ty:gY x="str_ascii_iterator":=by unfold gY;rw [ha];rfl
   rw [ty] at st
   exact wpAny_pyNext_ascii_item st hx fun h' st' sb=>go h' _ _ (by rw [ty];exact st') sb
 done:=by
  intro X hP hw hK hc i pins s σ H E I hf st hg
  subst hP hw hK
  have hg:x.cps.size<=i:=hg
  obtain ⟨f0,f1,f2,f3,f4,f5⟩:=hf it (by simp)
  have hx:x.cps[i]?=none:=getElem?_neg _ i (Nat.not_lt.mpr hg)
  unfold gY at st
  cases ha:x.cps.all (·<128)
  ·rw [ha] at st
   exact wpAny_pyNext_wide_end (I.ok.hd hc) st hx fun h' eb=>⟨rfl,I.turned (t':=s.toks) (fun b o hb e=>eb b o hb e) f0 f1 f3 f4 f5⟩
  ·rw [ha] at st
   exact wpAny_pyNext_ascii_end (I.ok.hd hc) st hx fun h' eb=>⟨rfl,I.turned (t':=s.toks) (fun b o hb e=>eb b o hb e) f0 f1 f3 f4 f5⟩
 self:=fun _ _ _ _ _ st h=>by
  unfold gY at st
  cases ha:x.cps.all (·<128)
  ·rw [ha] at st;exact wpAny_pyIter_striter_wide st h
  ·rw [ha] at st;exact wpAny_pyIter_striter_ascii st h
def T2 (tl:TE):TI:=fun σ H R=>tl σ H fun v H1=>∃ x,v=.str x/\R (QF x) H1
theorem IM {X:Cx}{tg l:aO}{tl:TE} (hl:PE X l tl):PI X tg l (T2 tl):=by
 intro pins s σ H R I h
 refine fm (hl pins s σ H _ I h) fun v s1 h_0=>?_
 obtain ⟨y,H1,I1,r1,q1⟩:=h_0
 obtain ⟨x,rfl,q⟩:=q1
 obtain ⟨t,rfl⟩:=r1
 refine wpAny_pyIter_strU ?_
 refine ⟨s1.heap.objs.size,[s1.heap.objs.size],_,_,H1,rfl,I1.kept (t':=s1.toks) fun b o e=>a8 _ e,IL x t _,⟨_,ax _ rfl,rfl,rfl⟩,fun b hb=>?_,q⟩
 obtain rfl:b=s1.heap.objs.size:=by simpa using hb
 exact I1.fpOk (ar _) (I1.hok.fresh (ar _))
end
section
section
variable {X:Cx}{pins:List (aa×Obj)}{σ:St}{H H':Hp}{s:a9}{h':a_}
theorem bu.turnedL {t':Nat}{ch:List aa} (I:bu X pins σ H s) (k:∀ b o,b∉ch->s.heap.get? b=some o->h'.get? b=some o) (hf:∀ b∈ch,oA X pins H b):bu X pins σ H { s with heap:=h',toks:=t' }:=by
 have nt:∀ b u,H b=some u->b∉ch:=fun b u e z=>by rw [(hf b z).1] at e;cases e
 refine I.step (g':=s.gens) (d':=s.drawn) (ch:=ch) (fun b hb=>?_) (fun b o _ _ hc e _=>k b o hc e) (fun b o _ _ hc e _=>⟨o.slots,k b o hc e⟩) (fun _ _ _ _ n=>n)
  (fun b o hc e=>⟨o,k b o hc e⟩) (fun _ _ e=>e) (fun _ _ _ e=>e) (fun b ps e=>⟨#[],by rw [e];simp⟩) (fun m hm=>?_) (fun b u e=>?_) I.bare
 ·obtain ⟨f0,f1,f2,f3,f4,f5⟩:=hf b hb
  exact ⟨f3,f1,f4,f5⟩
 ·obtain ⟨o,es,ep,ho,r⟩:=hm
  exact ⟨o,es,ep,k _ o (fun z=>(hf _ z).f1 rfl) ho,r⟩
 ·refine (I.hok b u e).stay (fun c v hc q=>k c v ?_ q) (fun _ q=>q) fun _ _ q=>q
  rcases hc with z | z
  ·rw [z];exact nt b u e
  ·exact nt c _ z
theorem bu.track {D:aa}{ho:HO} (I:bu X pins σ H s) (hf:oA X pins H D) (new:dk X.prog X.w (upd H D ho) s.heap D ho):bu X pins σ (upd H D ho) s:=by
 obtain ⟨f0,f1,f2,f3,f4,f5⟩:=hf
 have I':bu X pins σ (upd H D ho) { s with heap:=s.heap,gens:=s.gens,drawn:=s.drawn,toks:=s.toks }:=I.step (ch:=[D]) (fun b hb=>by
   obtain rfl:b=D:=by simpa using hb
   exact ⟨f3,f1,f4,f5⟩) (fun b o _ _ _ e _=>e) (fun b o _ _ _ e _=>⟨o.slots,e⟩) (fun b o hc e n=>by rw [aQ (fun z=>hc (by simp [z]))];exact n) (fun b o _ e=>⟨o,e⟩)
  (fun b xs e=>by rw [aQ (aW e f0)];exact e) (fun b o xs e=>by rw [aQ (aW e f0)];exact e) (fun b ps e=>⟨#[],by rw [aQ (aW e f0),e];simp⟩) (fun m hm=>hm) (pw I.hok f0 new) I.bare
 exact I'
end
section
variable {prog:aB}{w:aT}{A:aP}{E:a7->a9->Prop}{s:a9}{it l:aa}{i:Nat}{items:Array a7}
theorem sv {x:a7}{Q:a7->a9->Prop} (ti:s.heap.IsTupleIter it l i) (tl:s.heap.IsTuple l items) (hx:items[i]?=some x)
  (q:∀ h',h'.IsTupleIter it l (i + 1)->cj it s.heap h'->Q x { s with heap:=h' }):ao (aE prog w) A (cc (.ref it)) Q E s:=by
 obtain ⟨oi,ei,ci,di⟩:=id ti
 obtain ⟨ot,et,_,nt,dt⟩:=tl
 unfold cc
 refine a6 (cU (name:=ik "__next__") ti.typeIs il ?_)
 refine cH il ti.typeIs AB ?_ (zd _)
 show ao _ _ (D0 (.ref it) 0 >>= _) _ _ s
 refine a6 (dn ei di (x:=.ref l) rfl ?_)
 show ao _ _ (if (bC l == d_)=true then _ else _) _ _ s
 rw [if_neg (fun z:(bC l == d_)=true=>aL z)]
 show ao _ _ (D0 (.ref it) 1 >>= _) _ _ s
 refine a6 (dn ei di (x:=.int i 0) rfl ?_)
 show ao _ _ (Hw (.ref l) >>= _) _ _ s
 refine a6 (dU et dt ?_)
 simp only [fQ,hx]
 refine a6 (iD ei di (by simp) (af ⟨x,rfl,af (q _ ?_ (cQ ..))⟩))
 refine ⟨_,ft _ ei (Obj.isFreed_of_fields (HK di _)),(Obj.cls_mapFields ..).trans ci,?_⟩
 rw [HK di];simp [cb]
theorem sw {Q:a7->a9->Prop} (hh:A.handled=none) (ti:s.heap.IsTupleIter it l i) (tl:s.heap.IsTuple l items) (hx:items[i]?=none)
  (q:∀ h' e,Heap.ExtBut it s.heap h'->(∃ o,h'.get? e=some o/\o.cls=.type "StopIteration")->E (.ref e) { s with heap:=h' }):ao (aE prog w) A (cc (.ref it)) Q E s:=by
 obtain ⟨oi,ei,ci,di⟩:=id ti
 obtain ⟨ot,et,_,nt,dt⟩:=tl
 unfold cc
 refine a6 (cU (name:=ik "__next__") ti.typeIs il ?_)
 refine cH il ti.typeIs AB ?_ (zd _)
 show ao _ _ (D0 (.ref it) 0 >>= _) _ _ s
 refine a6 (dn ei di (x:=.ref l) rfl ?_)
 show ao _ _ (if (bC l == d_)=true then _ else _) _ _ s
 rw [if_neg (fun z:(bC l == d_)=true=>aL z)]
 show ao _ _ (D0 (.ref it) 1 >>= _) _ _ s
 refine a6 (dn ei di (x:=.int i 0) rfl ?_)
 show ao _ _ (Hw (.ref l) >>= _) _ _ s
 refine a6 (dU et dt ?_)
 simp only [fQ,hx]
 refine a6 (hJ (a6 (iD ei di (by simp) ?_)))
 show ao _ _ (vB (.type "StopIteration") [] >>= _) _ _ _
 refine a6 ?_
 simp only [vB,newTuple]
 refine a6 (cr ?_ (by size_fits))
 refine a6 (m:=tP _ _) (tN (a:=d_) ?_ ?_)
 ·first
   | rfl
   | (simp only [tP];rfl)
 refine cr ?_ (by size_fits)
 simp only [tO]
 refine a6 (wpAny_handled ?_)
 rw [show A.in1.handled=none from hh]
 refine a6 (af (wpAny_throw ?_))
 exact q _ _ (((cQ ..).extBut.push _).push _) ⟨_,ax _ rfl,rfl⟩
theorem Gi (hh:A.handled=none) (it l:aa) (hne:l≠it) (items:Array a7) :
  Draws prog w A it [it,l] items.size (fun i v=>items[i]?=some v) (fun i h=>h.IsTupleIter it l i/\h.IsTuple l items) where
 live:=fun i h st=>let ⟨o,e,_⟩:=st.1;⟨o,e⟩
 frame:=fun i h h' st k=>⟨let ⟨o,e,r⟩:=st.1;⟨o,k it (by simp) o e,r⟩,let ⟨o,e,r⟩:=st.2;⟨o,k l (by simp) o e,r⟩⟩
 item:=fun i s Q E hi st q=>sv st.1 st.2 (x:=items[i]) (by simp [hi]) fun h' t' sb=>q _ h' s.toks (by simp [hi]) ⟨t',st.2.extBut sb.extBut hne⟩ sb
 done:=fun s Q E st q=>sw hh st.1 st.2 (by simp) q
end
theorem v_ (l:aa) (items:Array a7) (n:Nat) (dct:Option aa) (sl:Array (Option a7)) :
  Meets (fN.«enumerate.__new__» ⟨[.type "enumerate",.ref l],[]⟩) (fun _ R s=>s.heap.get? l=some { cls:=.type "tuple",dict:=dct,data:=.seq items n,slots:=sl } /\
   R (.ok (.ret (.ref (s.heap.push { cls:=.type "tuple_iterator",data:=.fields #[.ref l,.int 0 0] }).objs.size)))
    { s with heap:=(s.heap.push { cls:=.type "tuple_iterator",data:=.fields #[.ref l,.int 0 0] }).push { cls:=.type "enumerate",data:=.fields #[.none,.bool false,.ref s.heap.objs.size,cb 0,.none,.none] } }) :=
 .of_wp fun prog w A R s h=>by
  obtain ⟨hp,g,d,tk,os⟩:=s
  obtain ⟨hl,h⟩:=h
  have hsub:=PySem.sub_enumerate
  have hL:CI (CJ ⟨hp,g,d,tk,os⟩) l items:=⟨_,hl,rfl,n,rfl⟩
  wp_walk using fu hl
  refine wpAny_stack_any fun st=>af ?_
  split
  ·rename_i c _ _ _ _ _
   cases (c == i0 "enumerate")
   ·wp_walk using fu hl,fH hL
    exact ⟨_,rfl,h⟩
   ·wp_walk using fu hl,fH hL
    exact ⟨_,rfl,h⟩
  ·wp_walk using fu hl,fH hL
   exact ⟨_,rfl,h⟩
end
section
section
variable {prog:aB}{w:aT}{A:aP}{E:a7->a9->Prop}{s:a9}
theorem xu {l:aa}{items:Array a7}{Q:a7->a9->Prop} (hL:s.heap.IsTuple l items)
  (h:∀ h',IsEnum h' (s.heap.objs.size + 1) s.heap.objs.size 0 .none->h'.IsTupleIter s.heap.objs.size l 0->(∀ b o,s.heap.get? b=some o->h'.get? b=some o)->h'.objs.size=s.heap.objs.size + 2 ->
   Q (.ref (s.heap.objs.size + 1)) { s with heap:=h' }):ao (aE prog w) A (call (.type "enumerate") [.ref l]) Q E s:=by
 obtain ⟨⟨c,dc,dt,sl⟩,hl,hc,n,hd⟩:=hL
 obtain rfl:c=.type "tuple":=hc
 obtain rfl:dt=.seq items n:=hd
 refine callType_new F.called_enumerate (by decide) (F.typeCall_enumerate_1 _) (F.newCall_enumerate_1 _) (fun obj=>F.args_object_init_2 obj _) F.entry_enumerate_new (v_ l items n dc sl) ⟨hl,?_⟩
 have z1:(s.heap.push { cls:=.type "tuple_iterator",data:=.fields #[.ref l,.int 0 0] }).objs.size=s.heap.objs.size + 1:=c7 ..
 show _/\_
 rw [z1]
 have he:IsEnum ((s.heap.push { cls:=.type "tuple_iterator",data:=.fields #[.ref l,.int 0 0] }).push { cls:=.type "enumerate",data:=.fields #[.none,.bool false,.ref s.heap.objs.size,cb 0,.none,.none] }) (s.heap.objs.size + 1) s.heap.objs.size 0 .none:=by
  have q:=ax (s.heap.push { cls:=.type "tuple_iterator",data:=.fields #[.ref l,.int 0 0] }) (o:={ cls:=.type "enumerate",data:=.fields #[.none,.bool false,.ref s.heap.objs.size,cb 0,.none,.none] }) rfl
  rw [z1] at q
  exact q
 exact ⟨⟨_,he,rfl⟩,h _ he ⟨_,a8 _ (ax _ rfl),rfl,rfl⟩ (fun b o e=>a8 _ (a8 _ e)) (by rw [c7,z1])⟩
end
def T3 (K:a5) (a:aa):It :=
 ⟨fun i H=>∃ xs x,jN K H a xs/\xs[i]?=some x,fun i H v H'=>∃ p,H p=none/\v=.ref p/\∀ xs,jN K H a xs->∃ x,xs[i]?=some x/\H'=upd H p (.tup [.int i,x]),fun i H=>∃ xs,jN K H a xs/\xs.length<=i⟩
theorem Gj {P:aB}{w:aT}{K:a5}{elts:List aO}{x1}{pos:Pos} (a e it:aa) (hei:e≠it):xq P w K (.Tuple elts x1 pos) (T3 K a) [e,it] e (fun i h=>(∃ old,IsEnum h e it i old)/\h.IsTupleIter it a i) where
 mem:=by simp
 obj:=fun i h st b hb=>by
  simp only [aV,aJ,or_false] at hb
  rcases hb with rfl | rfl
  ·obtain ⟨⟨old,q⟩,_⟩:=st
   exact ⟨_,q,fun v z=>by cases z⟩
  ·obtain ⟨_,o,q,_,d⟩:=st
   exact ⟨o,q,fun v z=>by rw [d] at z;cases z⟩
 keep:=fun i h h' st k=>⟨let ⟨old,q⟩:=st.1;⟨old,k e (by simp) _ q⟩,let ⟨o,q,r⟩:=st.2;⟨o,k it (by simp) o q,r⟩⟩
 item:=by
  intro X hP hw hK hc i pins s σ H E I hf st hg
  subst hP hw hK
  obtain ⟨xs,x,hq,hx⟩:=hg
  obtain ⟨its,rv,p,hz⟩:=I.tuple hq
  obtain ⟨u,hu,ru⟩:=rv.get hx
  obtain ⟨⟨old,he⟩,hit⟩:=st
  have hit0:=hit
  obtain ⟨oi,ei,_⟩:=hit0
  have hai:a≠it:=fun z=>by
   obtain ⟨o1,e1,c1,_⟩:=p
   obtain ⟨o2,e2,c2,_⟩:=hit
   rw [z,e2] at e1;cases e1;rw [c2] at c1;exact absurd (Eu c1) (by decide)
  have hae:a≠e:=fun z=>by
   obtain ⟨o1,e1,c1,_⟩:=p
   rw [z,he] at e1;cases e1;exact absurd (Eu (show i0 "enumerate"=i0 "tuple" from c1)) (by decide)
  have hlt:i<its.toArray.size:=by simp;exact (List.getElem?_eq_some_iff.mp hu).1
  have he0:=aj he
  refine wpAny_pyNext_enum_itemD (Gi (by simpa using I.ok.hd hc) it a hai its.toArray) he ⟨hit,p⟩ hlt hei (by simp [hei,eA hae]) ?_
  intro x' h1 tk hx' eo st1 tup sz k1
  have hx'':its[i]?=some x':=by simpa using hx'
  rw [hu] at hx'';cases hx''
  refine ⟨_,rfl,D1 eo fun h2 e2 sb2=>?_⟩
  have szn:s.heap.objs.size≠e:=dO he0
  have I2:bu X pins σ H { s with heap:=h2,toks:=tk + 1 }:=I.turnedL (ch:=[e,it]) (fun b o hb q=>by
   simp only [aV,aJ,or_false,not_or] at hb
   exact (sb2.2 b hb.1).trans (k1 b o hb.1 hb.2 q)) hf
  have fT:=I.fpOk (H':=H) (ar _) (I.hok.fresh (ar _))
  have tup2:h2.get? s.heap.objs.size=some { cls:=.type "tuple",data:=.seq #[.int i tk,u] }:=(sb2.2 _ szn).trans tup
  have I3:=I2.track (ho:=.tup [.int i,x]) fT ⟨by show 2<=sizeLine;decide,[.int i tk,u],.cons ⟨tk,rfl⟩ (.cons ru .nil),⟨_,tup2,rfl,0,rfl⟩⟩
  refine ⟨.ref s.heap.objs.size,_,I3,rfl,⟨_,fT.1,rfl,fun ys hy=>?_⟩,⟨⟨u,?_⟩,?_⟩,fun b hb=>?_⟩
  ·rw [I.tuple_inj hy hq];exact ⟨x,hx,rfl⟩
  ·have:(((i + 1:Nat):Int))=(i:Int) + 1:=by omega
   rw [this];exact e2
  ·obtain ⟨o,q,r⟩:=st1.1
   exact ⟨o,(sb2.2 it (eA hei)).trans q,r⟩
  ·rw [aQ]
   ·exact (hf b hb).1
   ·simp only [aV,aJ,or_false] at hb
    rcases hb with z | z
    ·rw [z];exact az he0
    ·rw [z];exact az (aj ei)
 done:=by
  intro X hP hw hK hc i pins s σ H E I hf st hg
  subst hP hw hK
  obtain ⟨xs,hq,hx⟩:=hg
  obtain ⟨its,rv,p,hz⟩:=I.tuple hq
  obtain ⟨⟨old,he⟩,hit⟩:=st
  have hl:=rv.length
  have hT:s.TypeIs (.ref e) "enumerate":=⟨_,he,rfl⟩
  unfold lP
  refine a6 (kX (cU (name:=ik "__next__") hT Hx ?_))
  refine cH Hx hT F.entry_enumerate_next ?_ (F.args_enumerate_next_1 _)
  show ao _ _ (D0 (.ref e) 2 >>= _) _ _ _
  refine a6 (dn he rfl (x:=.ref it) rfl ?_)
  refine a6 (sw (by simpa using I.ok.hd hc) hit (show s.heap.IsTuple a its.toArray from p) (by simp;omega) fun h' z eb hz'=>?_)
  obtain ⟨o,ho,hcl⟩:=hz'
  refine a6 (q9 (T:="StopIteration") (b:=true) ⟨o,ho,hcl⟩ C_ ?_)
  exact af ⟨rfl,I.turnedL (t':=s.toks) (ch:=[e,it]) (fun b o hb q=>eb b o (by
   simp only [aV,aJ,or_false,not_or] at hb;exact hb.2) q) hf⟩
 self:=fun _ _ _ _ _ st h=>let ⟨⟨_,q⟩,_⟩:=st;o7 q h
def QG (K:a5) (ta:TA):TI:=fun σ H R=>ta σ H fun vs H1=>∃ a xs,vs=[.ref a]/\jN K H1 a xs/\R (T3 K a) H1
theorem Mg {X:Cx}{elts:List aO}{x1}{tpos p pos:Pos}{a:aO}{ta:TA} (hg:Gl X "enumerate") (hm:X.mg "enumerate"=none) (ha:PA X [a] ta) (hs:ak [a] X.env=[(false,cp a X.env)]:=by rfl) :
  PI X (.Tuple elts x1 tpos) (.Call (.Name "enumerate" p) [a] [] pos) (QG X.K ta):=by
 intro pins s σ H R I h
 refine Call_ (qN I hg hm boot_enumerate (eB (fm (ha pos pins s σ H _ I h) fun us s1 ⟨vs,H1,I1,r1,q1⟩=>?_) hs rfl))
 obtain ⟨ad,xs,rfl,hq,q⟩:=q1
 obtain ⟨u,rfl,rx⟩:=jA r1
 cases rx
 obtain ⟨its,rv,tp,hz⟩:=I1.tuple hq
 refine xu (show s1.heap.IsTuple ad its.toArray from tp) fun h' e1 t1 kp sz=>?_
 refine o7 e1 ?_
 have I2:bu X pins σ H1 { s1 with heap:=h' }:=I1.kept (t':=s1.toks) kp
 refine ⟨s1.heap.objs.size + 1,[s1.heap.objs.size + 1,s1.heap.objs.size],_,_,H1,rfl,I2,Gj ad _ _ (dO (el _)),⟨⟨.none,e1⟩,t1⟩,fun b hb=>?_,q⟩
 simp only [aV,aJ,or_false] at hb
 rcases hb with z | z
 ·rw [z];exact I1.fpOk (fR _) (I1.hok.fresh (fR _))
 ·rw [z];exact I1.fpOk (ar _) (I1.hok.fresh (ar _))
end
section
section
variable {prog:aB}{w:aT}{A:aP}{E:a7->a9->Prop}{s:a9}{z TI TO i1 i2 l1 l2:aa}{k1 k2:Nat}{xs ys:Array a7}{x y a b:a7}
theorem iG {h h':a_}{it l:aa}{k:Nat}{c:aa} (t:h.IsTupleIter it l k) (sb:cj c h h') (ne:it≠c):h'.IsTupleIter it l k:=t.extBut sb.extBut ne
theorem mW {h h':a_}{l:aa}{xs:Array a7}{c:aa} (t:h.IsTuple l xs) (sb:cj c h h') (ne:l≠c):h'.IsTuple l xs:=t.extBut sb.extBut ne
theorem IN {Q:a7->a9->Prop} (D:LB z TI TO i1 i2 l1 l2) (za:tQ s.heap z TI TO .none) (pa:jh s.heap TI (.ref i1) (.ref i2)) (pb:jh s.heap TO a b)
  (u1:s.heap.IsTupleIter i1 l1 k1) (u2:s.heap.IsTupleIter i2 l2 k2) (v1:s.heap.IsTuple l1 xs) (v2:s.heap.IsTuple l2 ys) (hx:xs[k1]?=some x) (hy:ys[k2]?=some y)
  (q:∀ h',tQ h' z TI TO (cb s.heap.objs.size)->jh h' TO x y->h'.IsTupleIter i1 l1 (k1 + 1)->h'.IsTupleIter i2 l2 (k2 + 1)->jh h' s.heap.objs.size x y ->
   (∀ c o,c≠z->c≠TO->c≠i1->c≠i2->s.heap.get? c=some o->h'.get? c=some o)->Q (.ref s.heap.objs.size) { s with heap:=h' }) :
  ao (aE prog w) A (fN.«zip.__next__» ⟨[.ref z],[]⟩) (fun fin s'=>∃ v,fin=.done (.ret v)/\Q v s') E s:=by
 show ao _ _ (D0 (.ref z) 2 >>= _) _ _ _
 refine a6 (dn za rfl (x:=.bool false) rfl ?_)
 show ao _ _ (D0 (.ref z) 3 >>= _) _ _ _
 refine a6 (dn za rfl (x:=.ref TI) rfl ?_)
 refine a6 (dU pa rfl ?_)
 show ao _ _ (e8 (.ref z) >>= _) _ _ _
 refine a6 ?_
 unfold e8
 refine a6 (dn za rfl (x:=.none) rfl (af ?_))
 simp only [if_true]
 refine a6 (hJ ?_)
 refine a6 (dn za rfl (x:=.ref TO) rfl ?_)
 refine a6 (hU za (by simp) fun g1 z1 b1=>?_)
 replace z1:tQ g1 z TI TO .ellipsis:=z1
 refine a6 ?_
 simp only [Lh,LC,om,xX]
 refine a6 (a6 (vi ?_))
 show ao _ _ (cc (.ref i1) >>= _) _ _ _
 refine a6 (sv (iG u1 b1 D.i1z) (mW v1 b1 D.l1z) hx fun g2 w1 b2=>af ?_)
 have p2:jh g2 TO a b:=b2.extBut _ _ D.TOi1 (b1.extBut _ _ D.TOz pb)
 refine a6 (dU p2 rfl (a6 (tR p2 fun g3 p3 b3=>?_)))
 replace p3:jh g3 TO x b:=p3
 refine a6 (LD (af (a6 (a6 (vi ?_)))))
 show ao _ _ (cc (.ref i2) >>= _) _ _ _
 refine a6 (sv (iG (iG (iG u2 b1 D.i2z) b2 D.i12.symm) b3 D.TOi2.symm) (mW (mW (mW v2 b1 D.l2z) b2 D.l2i1) b3 D.l2TO) hy fun g4 w2 b4=>af ?_)
 have p4:jh g4 TO x b:=b4.extBut _ _ D.TOi2 p3
 refine a6 (dU p4 rfl (a6 (tR p4 fun g5 p5 b5=>?_)))
 replace p5:jh g5 TO x y:=p5
 refine a6 (LD (af (af ?_)))
 refine a6 (dU p5 rfl (a6 (wpAny_newTuple ?_)))
 have sz:g5.objs.size=s.heap.objs.size:=by rw [b5.1,b4.1,b3.1,b2.1,b1.1]
 have z5:tQ g5 z TI TO .ellipsis:=b5.extBut _ _ D.TOz.symm (b4.extBut _ _ D.i2z.symm (b3.extBut _ _ D.TOz.symm (b2.extBut _ _ D.i1z.symm z1)))
 have k5:∀ c o,c≠z->c≠TO->c≠i1->c≠i2->s.heap.get? c=some o->g5.get? c=some o:=fun c o n1 n2 n3 n4 e =>
  b5.extBut _ _ n2 (b4.extBut _ _ n4 (b3.extBut _ _ n2 (b2.extBut _ _ n3 (b1.extBut _ _ n1 e))))
 have y1:g5.IsTupleIter i1 l1 (k1 + 1):=iG (iG (iG w1 b3 D.TOi1.symm) b4 D.i12) b5 D.TOi1.symm
 have y2:g5.IsTupleIter i2 l2 (k2 + 1):=iG w2 b5 D.TOi2.symm
 have zl:z<g5.objs.size:=aj z5
 show ao _ _ (l8 (.ref z) (.ref g5.objs.size) >>= _) _ _ _
 refine a6 ?_
 unfold l8
 have z6:tQ (g5.push { cls:=.type "tuple",data:=.seq #[x,y] }) z TI TO .ellipsis:=a8 _ z5
 refine a6 (hU z6 (by simp) fun g7 z7 b7=>?_)
 replace z7:tQ g7 z TI TO (cb g5.objs.size):=z7
 refine hU z7 (by simp) fun g8 z8 b8=>?_
 replace z8:tQ g8 z TI TO (cb g5.objs.size):=z8
 have up:∀ c o,c≠z->g5.get? c=some o->g8.get? c=some o:=fun c o n1 e=>b8.extBut _ _ n1 (b7.extBut _ _ n1 (a8 _ e))
 have p8:jh g8 g5.objs.size x y:=b8.extBut _ _ (dO zl) (b7.extBut _ _ (dO zl) (ax _ rfl))
 rw [sz] at z8 p8
 refine af ⟨_,rfl,?_⟩
 show Q (.ref g5.objs.size) _
 rw [sz]
 exact q g8 z8 (up _ _ D.TOz p5) (let ⟨o,e,r⟩:=y1;⟨o,up _ o D.i1z e,r⟩) (let ⟨o,e,r⟩:=y2;⟨o,up _ o D.i2z e,r⟩) p8 fun c o n1 n2 n3 n4 e=>up c o n1 (k5 c o n1 n2 n3 n4 e)
theorem IP {Q:Fin->a9->Prop} (hh:A.handled=none) (D:LB z TI TO i1 i2 l1 l2) (za:tQ s.heap z TI TO .none) (pa:jh s.heap TI (.ref i1) (.ref i2)) (pb:jh s.heap TO a b)
  (u1:s.heap.IsTupleIter i1 l1 k1) (u2:s.heap.IsTupleIter i2 l2 k2) (v1:s.heap.IsTuple l1 xs) (v2:s.heap.IsTuple l2 ys) (hend:xs[k1]?=none\/ys[k2]?=none)
  (q:∀ h' e,(∀ c o,c≠z->c≠TO->c≠i1->c≠i2->s.heap.get? c=some o->h'.get? c=some o)->(∃ o,h'.get? e=some o/\o.cls=.type "StopIteration")->E (.ref e) { s with heap:=h' }) :
  ao (aE prog w) A (fN.«zip.__next__» ⟨[.ref z],[]⟩) Q E s:=by
 show ao _ _ (D0 (.ref z) 2 >>= _) _ _ _
 refine a6 (dn za rfl (x:=.bool false) rfl ?_)
 show ao _ _ (D0 (.ref z) 3 >>= _) _ _ _
 refine a6 (dn za rfl (x:=.ref TI) rfl ?_)
 refine a6 (dU pa rfl ?_)
 show ao _ _ (e8 (.ref z) >>= _) _ _ _
 refine a6 ?_
 unfold e8
 refine a6 (dn za rfl (x:=.none) rfl (af ?_))
 simp only [if_true]
 refine a6 (hJ ?_)
 refine a6 (dn za rfl (x:=.ref TO) rfl ?_)
 refine a6 (hU za (by simp) fun g1 z1 b1=>?_)
 replace z1:tQ g1 z TI TO .ellipsis:=z1
 refine a6 ?_
 simp only [Lh,LC,om,xX]
 refine a6 (a6 (vi ?_))
 show ao _ _ (cc (.ref i1) >>= _) _ _ _
 cases hx:xs[k1]? with
 | none =>
  refine a6 (sw hh (iG u1 b1 D.i1z) (mW v1 b1 D.l1z) hx fun g2 e b2 he=>?_)
  obtain ⟨oe,ee,ce⟩:=he
  have z2:tQ g2 z TI TO .ellipsis:=b2 _ _ D.i1z.symm z1
  have ez:e≠z:=fun n=>by subst n;rw [z2] at ee;cases ee;simp at ce
  refine hU z2 (by simp) fun g3 _ b3=>q g3 e (fun c o n1 _ n3 _ m=>b3.extBut _ _ n1 (b2 _ _ n3 (b1.extBut _ _ n1 m))) ⟨oe,b3.extBut _ _ ez ee,ce⟩
 | some x =>
  have hy:ys[k2]?=none:=hend.resolve_left fun n=>by rw [hx] at n;cases n
  refine a6 (sv (iG u1 b1 D.i1z) (mW v1 b1 D.l1z) hx fun g2 w1 b2=>af ?_)
  have p2:jh g2 TO a b:=b2.extBut _ _ D.TOi1 (b1.extBut _ _ D.TOz pb)
  refine a6 (dU p2 rfl (a6 (tR p2 fun g3 p3 b3=>?_)))
  refine a6 (LD (af (a6 (a6 (vi ?_)))))
  show ao _ _ (cc (.ref i2) >>= _) _ _ _
  refine a6 (sw hh (iG (iG (iG u2 b1 D.i2z) b2 D.i12.symm) b3 D.TOi2.symm) (mW (mW (mW v2 b1 D.l2z) b2 D.l2i1) b3 D.l2TO) hy fun g4 e b4 he=>?_)
  obtain ⟨oe,ee,ce⟩:=he
  have z4:tQ g4 z TI TO .ellipsis:=b4 _ _ D.i2z.symm (b3.extBut _ _ D.TOz.symm (b2.extBut _ _ D.i1z.symm z1))
  have ez:e≠z:=fun n=>by subst n;rw [z4] at ee;cases ee;simp at ce
  refine hU z4 (by simp) fun g5 _ b5=>q g5 e (fun c o n1 n2 n3 n4 m=>b5.extBut _ _ n1 (b4 _ _ n4 (b3.extBut _ _ n2 (b2.extBut _ _ n3 (b1.extBut _ _ n1 m))))) ⟨oe,b5.extBut _ _ ez ee,ce⟩
end
abbrev S5 (h:a_) (l1:aa):a_:=h.push { cls:=.type "tuple_iterator",data:=.fields #[.ref l1,.int 0 0] }
abbrev S6 (h:a_) (l1 l2:aa):a_:=(S5 h l1).push { cls:=.type "tuple_iterator",data:=.fields #[.ref l2,.int 0 0] }
abbrev S7 (h:a_) (l1 l2:aa):a_:=(S6 h l1 l2).push { cls:=.type "tuple",data:=.seq #[.ref h.objs.size,.ref (S5 h l1).objs.size] }
abbrev S8 (h:a_) (l1 l2:aa):a_:=(S7 h l1 l2).push { cls:=.type "tuple",data:=.seq #[.none,.none] }
abbrev Qa (h:a_) (l1 l2:aa):a_:=(S8 h l1 l2).push { cls:=.type "zip",data:=.fields #[.none,.bool false,.bool false,.ref (S6 h l1 l2).objs.size,.ref (S7 h l1 l2).objs.size] }
theorem xv (l1 l2:aa) (xs ys:Array a7) :
  Meets (fN.«zip.__new__» ⟨[.type "zip",.ref l1,.ref l2],[]⟩) (fun _ R s=>s.heap.IsTuple l1 xs/\s.heap.IsTuple l2 ys/\R (.ok (.ret (.ref (S8 s.heap l1 l2).objs.size))) { s with heap:=Qa s.heap l1 l2 }) :=
 .of_wp fun prog w A R s h=>by
  obtain ⟨hp,g,d,tk,os⟩:=s
  obtain ⟨v1,v2,h⟩:=h
  have hsub:=PySem.sub_zip
  have L1:CI (CJ ⟨hp,g,d,tk,os⟩) l1 xs:=v1
  have L2:CI (CJ ⟨hp.push { cls:=.type "tuple_iterator",data:=.fields #[.ref l1,.int 0 0] },g,d,tk,os⟩) l2 ys:=Heap.IsTuple.push v2 _
  wp_walk using fH L1,fH L2
  exact ⟨_,rfl,h⟩
section
variable {prog:aB}{w:aT}{A:aP}{E:a7->a9->Prop}{s:a9}
theorem zB {l1 l2:aa}{xs ys:Array a7}{Q:a7->a9->Prop} (v1:s.heap.IsTuple l1 xs) (v2:s.heap.IsTuple l2 ys)
  (h:∀ h',tQ h' (s.heap.objs.size + 4) (s.heap.objs.size + 2) (s.heap.objs.size + 3) .none->jh h' (s.heap.objs.size + 2) (.ref s.heap.objs.size) (.ref (s.heap.objs.size + 1)) ->
   jh h' (s.heap.objs.size + 3) .none .none->h'.IsTupleIter s.heap.objs.size l1 0->h'.IsTupleIter (s.heap.objs.size + 1) l2 0 ->
   (∀ c o,s.heap.get? c=some o->h'.get? c=some o)->Q (.ref (s.heap.objs.size + 4)) { s with heap:=h' }):ao (aE prog w) A (call (.type "zip") [.ref l1,.ref l2]) Q E s:=by
 refine callType_new F.called_zip (by decide) (F.typeCall_zip_2 _ _) (F.newCall_zip_2 _ _) (fun obj=>F.args_object_init_3 obj _ _) F.entry_zip_new (xv l1 l2 xs ys) ⟨v1,v2,?_⟩
 have n1:(S5 s.heap l1).objs.size=s.heap.objs.size + 1:=c7 ..
 have n2:(S6 s.heap l1 l2).objs.size=s.heap.objs.size + 2:=by rw [c7,n1]
 have n3:(S7 s.heap l1 l2).objs.size=s.heap.objs.size + 3:=by rw [c7,n2]
 have n4:(S8 s.heap l1 l2).objs.size=s.heap.objs.size + 4:=by rw [c7,n3]
 have c5:(Qa s.heap l1 l2).get? (S8 s.heap l1 l2).objs.size=some _:=ax _ rfl
 have c4:(Qa s.heap l1 l2).get? (S7 s.heap l1 l2).objs.size=some _:=a8 _ (ax _ rfl)
 have c3:(Qa s.heap l1 l2).get? (S6 s.heap l1 l2).objs.size=some _:=a8 _ (a8 _ (ax _ rfl))
 have c2:(Qa s.heap l1 l2).get? (S5 s.heap l1).objs.size=some _:=a8 _ (a8 _ (a8 _ (ax _ rfl)))
 have c1:(Qa s.heap l1 l2).get? s.heap.objs.size=some _:=a8 _ (a8 _ (a8 _ (a8 _ (ax _ rfl))))
 show _/\_
 rw [n2,n3,n4] at c5
 rw [n1,n2] at c3
 rw [n3] at c4
 rw [n1] at c2
 rw [n4]
 exact ⟨⟨_,c5,rfl⟩,h _ c5 c3 c4 ⟨_,c1,rfl,rfl⟩ ⟨_,c2,rfl,rfl⟩ fun c o e=>a8 _ (a8 _ (a8 _ (a8 _ (a8 _ e))))⟩
end
theorem jN.ne_fp {X:Cx}{pins:List (aa×Obj)}{σ:St}{H:Hp}{s:a9}{a b:aa}{xs:List V} (I:bu X pins σ H s) (hq:jN X.K H a xs) (hf:oA X pins H b):a≠b:=by
 rintro rfl
 rcases hq with (h | ⟨o,h⟩) | ⟨o,its,n,hk,_⟩
 ·rw [hf.1] at h;cases h
 ·rw [hf.1] at h;cases h
 ·have e:X.base.get? a=some o:=I.mod.kin a o hk
  rcases hf.f3 with z | z
  ·exact I.ok.noex a o e z
  ·exact absurd (aD (aj e) (bE I.ok.bsz z)) (bQ _)
def T4 (K:a5) (a b:aa):It :=
 ⟨fun i H=>∃ xs ys x y,jN K H a xs/\jN K H b ys/\xs[i]?=some x/\ys[i]?=some y,
  fun i H v H'=>∃ p,H p=none/\v=.ref p/\∀ xs ys,jN K H a xs->jN K H b ys->∃ x y,xs[i]?=some x/\ys[i]?=some y/\H'=upd H p (.tup [x,y]),
  fun i H=>∃ xs ys,jN K H a xs/\jN K H b ys/\(xs.length<=i\/ys.length<=i)⟩
structure T5 (z TI TO i1 i2:aa):Prop where
 d1:TI≠z
 d2:TO≠z
 d3:i1≠z
 d4:i2≠z
 d5:TI≠TO
 d6:TI≠i1
 d7:TI≠i2
 d8:TO≠i1
 d9:TO≠i2
 d0:i1≠i2
theorem IQ {P:aB}{w:aT}{K:a5}{elts:List aO}{x1}{pos:Pos} (l1 l2 z TI TO i1 i2:aa) (Z:T5 z TI TO i1 i2) :
  xq P w K (.Tuple elts x1 pos) (T4 K l1 l2) [z,TI,TO,i1,i2] z (fun i h=>tQ h z TI TO .none/\jh h TI (.ref i1) (.ref i2)/\(∃ a b,jh h TO a b)/\h.IsTupleIter i1 l1 i/\h.IsTupleIter i2 l2 i) where
 mem:=by simp
 obj:=fun i h st b hb=>by
  obtain ⟨s1,s2,⟨_,_,s3⟩,⟨o4,e4,_,f4⟩,⟨o5,e5,_,f5⟩⟩:=st
  simp only [aV,aJ,or_false] at hb
  rcases hb with rfl | rfl | rfl | rfl | rfl
  ·exact ⟨_,s1,fun v q=>by cases q⟩
  ·exact ⟨_,s2,fun v q=>by cases q⟩
  ·exact ⟨_,s3,fun v q=>by cases q⟩
  ·exact ⟨o4,e4,fun v q=>by rw [f4] at q;cases q⟩
  ·exact ⟨o5,e5,fun v q=>by rw [f5] at q;cases q⟩
 keep:=fun i h h' st k=>by
  obtain ⟨s1,s2,⟨u,v,s3⟩,⟨o4,e4,r4⟩,⟨o5,e5,r5⟩⟩:=st
  exact ⟨k z (by simp) _ s1,k TI (by simp) _ s2,⟨u,v,k TO (by simp) _ s3⟩,⟨o4,k i1 (by simp) _ e4,r4⟩,⟨o5,k i2 (by simp) _ e5,r5⟩⟩
 item:=by
  intro X hP hw hK hc i pins s σ H E I hf st hg
  subst hP hw hK
  obtain ⟨xs,ys,x,y,hq1,hq2,hx,hy⟩:=hg
  obtain ⟨its1,rv1,p1,_⟩:=I.tuple hq1
  obtain ⟨its2,rv2,p2,_⟩:=I.tuple hq2
  obtain ⟨u,hu,ru⟩:=rv1.get hx
  obtain ⟨v,hv,rv⟩:=rv2.get hy
  obtain ⟨s1,s2,⟨a,b,s3⟩,s4,s5⟩:=st
  have ne1:∀ b∈[z,TI,TO,i1,i2],l1≠b:=fun b hb=>hq1.ne_fp I (hf b hb)
  have ne2:∀ b∈[z,TI,TO,i1,i2],l2≠b:=fun b hb=>hq2.ne_fp I (hf b hb)
  have D:LB z TI TO i1 i2 l1 l2:=⟨Z.d1,Z.d2,Z.d3,Z.d4,Z.d5,Z.d6,Z.d7,Z.d8,Z.d9,Z.d0,ne1 z (by simp),ne1 TO (by simp),ne1 i1 (by simp),ne1 i2 (by simp),ne2 z (by simp),ne2 TO (by simp),ne2 i1 (by simp),ne2 i2 (by simp)⟩
  have zl:=aj s1
  have hT:s.TypeIs (.ref z) "zip":=⟨_,s1,rfl⟩
  unfold lP
  refine a6 (kX (cU (name:=ik "__next__") hT qm ?_))
  refine cH qm hT F.entry_zip_next (IN D s1 s2 s3 s4 s5 p1 p2 (by simpa using hu) (by simpa using hv) fun h1 z1 t1 y1 y2 pr k1=>?_) (F.args_zip_next_1 _)
  refine af ⟨_,rfl,wpAny_letOwnedTupleGo_zip z1 fun h2 z2 b2=>?_⟩
  have szn:s.heap.objs.size≠z:=dO zl
  have TIk:jh h1 TI (.ref i1) (.ref i2):=k1 TI _ Z.d1 Z.d5 Z.d6 Z.d7 s2
  have I2:bu X pins σ H { s with heap:=h2 }:=I.turnedL (t':=s.toks) (ch:=[z,TI,TO,i1,i2]) (fun b o hb q=>by
   simp only [aV,aJ,or_false,not_or] at hb
   exact (b2.2 b hb.1).trans (k1 b o hb.1 hb.2.2.1 hb.2.2.2.1 hb.2.2.2.2 q)) hf
  have fT:=I.fpOk (H':=H) (ar _) (I.hok.fresh (ar _))
  have pr2:h2.get? s.heap.objs.size=some { cls:=.type "tuple",data:=.seq #[u,v] }:=(b2.2 _ szn).trans pr
  have I3:=I2.track (ho:=.tup [x,y]) fT ⟨by show 2<=sizeLine;decide,[u,v],.cons ru (.cons rv .nil),⟨_,pr2,rfl,0,rfl⟩⟩
  refine ⟨.ref s.heap.objs.size,_,I3,rfl,⟨_,fT.1,rfl,fun xs' ys' h1 h2=>?_⟩,⟨z2,(b2.2 TI Z.d1).trans TIk,⟨u,v,(b2.2 TO Z.d2).trans t1⟩,iG y1 b2 Z.d3,iG y2 b2 Z.d4⟩,fun b hb=>?_⟩
  ·rw [I.tuple_inj h1 hq1,I.tuple_inj h2 hq2];exact ⟨x,y,hx,hy,rfl⟩
  ·have bl:b<s.heap.objs.size:=by
    simp only [aV,aJ,or_false] at hb
    rcases hb with q | q | q | q | q
    ·rw [q];exact zl
    ·rw [q];exact aj s2
    ·rw [q];exact aj s3
    ·obtain ⟨_,e,_⟩:=s4;rw [q];exact aj e
    ·obtain ⟨_,e,_⟩:=s5;rw [q];exact aj e
   rw [aQ (az bl)];exact (hf b hb).1
 done:=by
  intro X hP hw hK hc i pins s σ H E I hf st hg
  subst hP hw hK
  obtain ⟨xs,ys,hq1,hq2,hend⟩:=hg
  obtain ⟨its1,rv1,p1,_⟩:=I.tuple hq1
  obtain ⟨its2,rv2,p2,_⟩:=I.tuple hq2
  obtain ⟨s1,s2,⟨a,b,s3⟩,s4,s5⟩:=st
  have ne1:∀ b∈[z,TI,TO,i1,i2],l1≠b:=fun b hb=>hq1.ne_fp I (hf b hb)
  have ne2:∀ b∈[z,TI,TO,i1,i2],l2≠b:=fun b hb=>hq2.ne_fp I (hf b hb)
  have D:LB z TI TO i1 i2 l1 l2:=⟨Z.d1,Z.d2,Z.d3,Z.d4,Z.d5,Z.d6,Z.d7,Z.d8,Z.d9,Z.d0,ne1 z (by simp),ne1 TO (by simp),ne1 i1 (by simp),ne1 i2 (by simp),ne2 z (by simp),ne2 TO (by simp),ne2 i1 (by simp),ne2 i2 (by simp)⟩
  have hT:s.TypeIs (.ref z) "zip":=⟨_,s1,rfl⟩
  have n1:=rv1.length
  have n2:=rv2.length
  unfold lP
  refine a6 (kX (cU (name:=ik "__next__") hT qm ?_))
  refine cH qm hT F.entry_zip_next (IP (by simpa using I.ok.hd hc) D s1 s2 s3 s4 s5 p1 p2 (hend.elim (fun q=>.inl (by simp;omega)) fun q=>.inr (by simp;omega)) fun h' e kp he=>?_) (F.args_zip_next_1 _)
  obtain ⟨o,eo,co⟩:=he
  refine a6 (q9 (T:="StopIteration") (b:=true) ⟨o,eo,co⟩ C_ ?_)
  exact af ⟨rfl,I.turnedL (t':=s.toks) (ch:=[z,TI,TO,i1,i2]) (fun b o hb q=>by
   simp only [aV,aJ,or_false,not_or] at hb
   exact kp b o hb.1 hb.2.2.1 hb.2.2.2.1 hb.2.2.2.2 q) hf⟩
 self:=fun _ _ _ _ _ st h=>wpAny_pyIter_zip st.1 h
def T6 (K:a5) (ta:TA):TI:=fun σ H R=>ta σ H fun vs H1=>∃ a b xs ys,vs=[.ref a,.ref b]/\jN K H1 a xs/\jN K H1 b ys/\R (T4 K a b) H1
theorem Pc {X:Cx}{elts:List aO}{x1}{tpos p pos:Pos}{a b:aO}{ta:TA} (hg:Gl X "zip") (hm:X.mg "zip"=none) (ha:PA X [a,b] ta) (hs:ak [a,b] X.env=[(false,cp a X.env),(false,cp b X.env)]:=by rfl)
  (hs2:ak [b] X.env=[(false,cp b X.env)]:=by rfl):PI X (.Tuple elts x1 tpos) (.Call (.Name "zip" p) [a,b] [] pos) (T6 X.K ta):=by
 intro pins s σ H R I h
 refine Call_ (qN I hg hm boot_zip (eB (fm (ha pos pins s σ H _ I h) fun us s1 ⟨vs,H1,I1,r1,q1⟩=>?_) (by rw [hs,hs2]) (by rw [hs2];rfl)))
 obtain ⟨a1,a2,xs,ys,rfl,hq1,hq2,q⟩:=q1
 obtain ⟨u1,u2,rfl,rx1,rx2⟩:=Ij r1
 cases rx1
 cases rx2
 obtain ⟨its1,rv1,p1,_⟩:=I1.tuple hq1
 obtain ⟨its2,rv2,p2,_⟩:=I1.tuple hq2
 refine zB (show s1.heap.IsTuple a1 its1.toArray from p1) (show s1.heap.IsTuple a2 its2.toArray from p2) fun h' c1 c2 c3 c4 c5 kp=>?_
 refine wpAny_pyIter_zip c1 ?_
 have I2:bu X pins σ H1 { s1 with heap:=h' }:=I1.kept (t':=s1.toks) kp
 have ad:∀ k j:Nat,k≠j->s1.heap.objs.size + k≠s1.heap.objs.size + j:=fun k j n e=>n (Nat.add_left_cancel e)
 refine ⟨s1.heap.objs.size + 4,[s1.heap.objs.size + 4,s1.heap.objs.size + 2,s1.heap.objs.size + 3,s1.heap.objs.size + 0,s1.heap.objs.size + 1],_,_,H1,rfl,I2,
  IQ a1 a2 _ _ _ _ _ ⟨ad _ _ (by decide),ad _ _ (by decide),ad _ _ (by decide),ad _ _ (by decide),ad _ _ (by decide),ad _ _ (by decide),ad _ _ (by decide),ad _ _ (by decide),ad _ _ (by decide),ad _ _ (by decide)⟩,
  ⟨c1,c2,⟨_,_,c3⟩,c4,c5⟩,fun b hb=>?_,q⟩
 have:∀ k:Nat,oA X pins H1 (s1.heap.objs.size + k):=fun k=>I1.fpOk (LF _ _) (I1.hok.fresh (LF _ _))
 simp only [aV,aJ,or_false] at hb
 rcases hb with q | q | q | q | q<;>(rw [q];exact this _)
end
section
mutual
inductive Ds (K:a5) (H:Hp):V->oq->Prop
 | none:Ds K H .non .none
 | bool (b:Bool):Ds K H (.bl b) (.bool b)
 | int (i:Int):Ds K H (.int i) (.int i)
 | str (x:Str):Ds K H (.str x) (.str x)
 | list {a:aa}{xs:List V}{ds:List oq}:l5 K H a xs->Reps K H xs ds->Ds K H (.ref a) (.list ds)
 | tuple {a:aa}{xs:List V}{ds:List oq}:jN K H a xs->Reps K H xs ds->Ds K H (.ref a) (.tuple ds)
inductive Reps (K:a5) (H:Hp):List V->List oq->Prop
 | nil:Reps K H [] []
 | cons {x:V}{xs:List V}{d:oq}{ds:List oq}:Ds K H x d->Reps K H xs ds->Reps K H (x::xs) (d::ds)
end
theorem cW.tup {K:a5}{H H':Hp}{a:aa}{xs:List V} (e:cW H H') (h:jN K H a xs):jN K H' a xs:=by
 rcases h with (h | ⟨o,h⟩) | h
 ·exact .inl (.inl (e _ _ h))
 ·exact .inl (.inr ⟨o,e _ _ h⟩)
 ·exact .inr h
section
variable {X:Cx}{pins:List (aa×Obj)}{σ:St}{H:Hp}{s:a9}
theorem Mh (I:bu X pins σ H s) {a:aa}{xs:List V}{ds:List oq}{u:a7} (h:l5 X.K H a xs) (ih:∀ {us:List a7},cJ xs us->∃ as,ReadsAll s.heap us ds as) (r:df (.ref a) u):∃ as,Reads s.heap u (.list ds) as:=by
 cases r
 obtain ⟨its,rv,⟨o,n,e,c,_,d⟩,_⟩:=I.list h
 obtain ⟨as,ra⟩:=ih rv
 exact ⟨_,.list e c d (by simpa using ra)⟩
theorem IR (I:bu X pins σ H s) {a:aa}{xs:List V}{ds:List oq}{u:a7} (h:jN X.K H a xs) (ih:∀ {us:List a7},cJ xs us->∃ as,ReadsAll s.heap us ds as) (r:df (.ref a) u):∃ as,Reads s.heap u (.tuple ds) as:=by
 cases r
 obtain ⟨its,rv,⟨o,e,c,n,d⟩,_⟩:=I.tuple h
 obtain ⟨as,ra⟩:=ih rv
 exact ⟨_,.tuple e c d (by simpa using ra)⟩
theorem pA (I:bu X pins σ H s) {v:V}{d:oq} (h:Ds X.K H v d):∀ {u:a7},df v u->∃ as,Reads s.heap u d as :=
 Ds.rec (motive_1:=fun v d _=>∀ {u:a7},df v u->∃ as,Reads s.heap u d as) (motive_2:=fun vs ds _=>∀ {us:List a7},cJ vs us->∃ as,ReadsAll s.heap us ds as)
  (fun r=>by cases r;exact ⟨_,.none⟩) (fun b _ r=>by cases r;exact ⟨_,.bool b⟩) (fun i _ r=>by obtain ⟨t,rfl⟩:=r;exact ⟨_,.int i t⟩) (fun x _ r=>by obtain ⟨t,rfl⟩:=r;exact ⟨_,.str x t⟩)
  (fun h _ ih _ r=>Mh I h ih r) (fun h _ ih _ r=>IR I h ih r) (fun r=>by cases r;exact ⟨_,.nil⟩) (fun _ _ a b _ r=>by
   cases r with
   | cons r rs =>
    obtain ⟨as,ra⟩:=a r
    obtain ⟨bs,rb⟩:=b rs
    exact ⟨_,.cons ra rb⟩) h
end
section
variable {X:Cx}
inductive NO (K:a5) (neg:Bool) (x:V) (y:V) (H:Hp) (Q:VK):Prop
 | mk (dx dy:_) (h0:Ds K H x dx) (h1:Ds K H y dy) (h2:dx.canLay0=true) (h3:dy.canLay0=true) (h4:min dx.depth dy.depth<=60) (h5:Q (.bl (if neg then !bq dx dy else bq dx dy)) H):NO K neg x y H Q
def Pd (K:a5) (neg:Bool):R2:=NO K neg
theorem Pe (hu:X.A.units + 64<p_):o9 X (bI .Eq) (Pd X.K false):=by
 intro pins s σ H x y v u Q I rx ry h
 obtain ⟨dx,dy,hx,hy,lx,ly,dp,q⟩:=h
 obtain ⟨as,ra⟩:=pA I hx rx
 obtain ⟨bs,rb⟩:=pA I hy ry
 exact PySem.SeqAt.compareEq_reads ra rb lx ly (by omega) ⟨.bl _,H,I,rfl,q⟩
theorem Pf (hu:X.A.units + 64<p_):o9 X (bI .NotEq) (Pd X.K true):=by
 intro pins s σ H x y v u Q I rx ry h
 obtain ⟨dx,dy,hx,hy,lx,ly,dp,q⟩:=h
 obtain ⟨as,ra⟩:=pA I hx rx
 obtain ⟨bs,rb⟩:=pA I hy ry
 exact PySem.SeqAt.compareNe_reads ra rb lx ly (by omega) ⟨.bl _,H,I,rfl,q⟩
end
end
section
structure NQ (P:aB) (w:aT) (l:List Env) (H H':Hp) (h h' B:a_) (ea C t:aa):Prop where
 fly:CK B l ea (.ref C) (.ref t) h'
 cov:∀ b u,H' b=some u->∃ o,B.get? b=some o
 old:∀ b o,h.get? b=some o->H b=none->b∉ml l->B.get? b=some o
 all:∀ b o,h.get? b=some o->b∉ml l->∃ o',B.get? b=some o'
 un:Un (ml l) [] H H' h h'
 hok:nW P w H' h'
inductive QH (P:aB) (w:aT) (outer:List Env) (H:Hp) (s:a9) (E:XK) (e:a7) (s':a9):Prop
 | mk (ea C t H' B:_) (h0:e=.ref ea) (h1:s'.os=s.os) (h2:nZ s'.gens) (h3:NQ P w outer H H' s.heap s'.heap B ea C t) (h4:E (.ref C) none H'):QH P w outer H s E e s'
def iN (P:aB) (w:aT):EA:=QH P w
theorem B6 {P:aB}{w:aT}{H:Hp}{h:a_}{b:aa}{u:HO} (x:nW P w H h) (e:H b=some u):∃ o,h.get? b=some o:=by
 have y:=x b u e
 cases u with
 | lst xs=>obtain ⟨_,_,_,_,k⟩:=y;exact ⟨_,k⟩
 | tup xs=>obtain ⟨_,_,_,o,k,_⟩:=y;exact ⟨o,k⟩
 | dK kvs=>obtain ⟨_,_,_,_,o,_,_,k,_⟩:=y;exact ⟨o,k⟩
 | dT kvs=>obtain ⟨_,_,_,_,o,_,_,k,_⟩:=y;exact ⟨o,k⟩
 | set S n=>obtain ⟨o,_,_,_,k,_⟩:=y;exact ⟨o,k⟩
 | ins C dx fs=>obtain ⟨_,_,_,k,_⟩:=y;exact ⟨_,k⟩
 | own y'=>exact y
 | xd fs=>obtain ⟨_,⟨o,_,_,k,_⟩,_⟩:=y;exact ⟨o,k⟩
 | rng lo hi=>obtain ⟨_,_,_,k⟩:=y;exact ⟨_,k⟩
 | frz o u=>exact ⟨o,y.1⟩
 | tbl ps=>exact ⟨_,y⟩
 | met f y'=>exact ⟨_,y⟩
 | ext φ=>exact y.2.1
theorem zC {l:List Env}{env:Env}{b:aa} (he:env∈l) (hf:env.frame=some b):b∈ml l:=List.mem_filterMap.mpr ⟨env,he,hf⟩
section
variable {P:aB}{w:aT}{l:List Env}{H H':Hp}{h h' h'' B:a_}{ea C t:aa}
theorem NQ.kp (x:NQ P w l H H' h h' B ea C t) (st:B.StaysIn h'') (b:aa) (u:HO) (o:Obj) (e:H' b=some u) (q:h'.get? b=some o):h''.get? b=some o:=by
 obtain ⟨o',e1⟩:=x.cov b u e
 have:=x.fly.1 b o' e1
 rw [q] at this;cases this
 exact st b o e1
theorem NQ.on (x:NQ P w l H H' h h' B ea C t) (fl:CK B l ea (.ref C) (.ref t) h'') (up:h'.UpToSlots h''):NQ P w l H H' h h'' B ea C t:=by
 have st:=fl.1
 refine ⟨fl,x.cov,x.old,x.all,⟨fun b o q n hb hx=>st b o (x.old b o q n hb),fun b o q n hb hx=>?_,x.un.free,fun b o q hx=>?_,x.un.tups,x.un.frzs,x.un.tbls⟩,fun b u e=>?_⟩
 ·obtain ⟨sl,e1⟩:=x.un.slot b o q n hb hx
  obtain ⟨_,o',k1,k2⟩:=cZ x.fly.2.2.1 hb
  rw [e1] at k1;cases k1
  obtain ⟨sl',e2⟩:=up b _ e1 k2
  exact ⟨sl',e2⟩
 ·by_cases hb:b∈ml l
  ·obtain ⟨_,o',k1,_⟩:=cZ fl.2.2.1 hb
   exact ⟨o',k1⟩
  ·obtain ⟨o',k⟩:=x.all b o q hb
   exact ⟨o',st b o' k⟩
 ·exact (x.hok b u e).stay (fun c o hc q=>by
   rcases hc with z | z
   ·rw [z] at q ⊢;exact x.kp st b u o e q
   ·exact x.kp st c _ o z q) (fun _ q=>q) fun _ _ q=>q
end
section
variable {P:aB}{w:aT}{K:a5}{mg:Str->Option a7}{base:a_}{N:List Str}{qual:Str}{scope:dG}{f:aa}{cd:a7}{A:aP}{outer:List Env}{s:a9}{H:Hp}{E:XK}
theorem zD {pins:List (aa×Obj)}{σ:St}{H1:Hp}{s1:a9}{h':a_}{ea C:aa}{vs:List a7} (I:bu (fg (iN P w) P w K mg base N qual scope f cd A outer s H E) pins σ H1 s1)
  (hx:qo s1.heap h' ea (.ref C) vs) (q:E (.ref C) none H1):(fg (iN P w) P w K mg base N qual scope f cd A outer s H E).xe (.ref ea) { s1 with heap:=h' }:=by
 let X:=fg (iN P w) P w K mg base N qual scope f cd A outer s H E
 let B:=uQ s1.heap (ml X.stack)
 have hin:∀ env∈X.stack,∀ a,env.frame=some a->a∈ml X.stack:=fun env he a hf=>zC he hf
 have stB:B.StaysIn s1.heap:=fun b o e=>qD _ e
 have nS:∀ b,b∉ml X.stack->∀ o,s1.heap.get? b=some o->B.get? b=some o:=fun b n o e=>pZ _ e n
 show ao _ X.A (HD X.env (.ref ea)) _ _ _
 refine wpAny_leaves_madeW (s:={ s1 with heap:=h' }) (base:=B) (outer:=outer) (L:=X.env.locals) I.ok.frames rfl stB (ze I.stack hin) hx fun h2 t fl tup tn up=>?_
 have st2:=fl.1
 have bl:∀ b o,s.heap.get? b=some o->b∉ml outer->b∉ml X.stack:=fun b o e n z=>by
  rcases List.mem_cons.mp (I.stkSub b z) with y | y
  ·exact absurd (aj e) (by rw [y];exact Nat.not_lt.mpr I.ok.above)
  ·exact n y
 have noex:∀ b:aa,b∉X.ex:=fun b z=>absurd (show b∈([] : List aa) from z) (by simp)
 have cov:∀ b u,H1 b=some u->∃ o,B.get? b=some o:=fun b u e=>by
  have hb:b∉ml X.stack:=fun z=>by have:=I.stkFree b z;rw [e] at this;cases this
  obtain ⟨o,k⟩:=B6 I.hok e
  exact ⟨o,nS b hb o k⟩
 refine ⟨ea,C,t,H1,B,rfl,I.os,I.bare,⟨fl,cov,fun b o e n hb=>?_,fun b o e hb=>?_,⟨fun b o e n hb hx'=>?_,fun b o e n hb hx'=>?_,fun b o e n _=>I.base.free b o e n (noex b),fun b o e _=>?_,I.base.tups,I.base.frzs,I.base.tbls⟩,fun b u e=>?_⟩,q⟩
 ·exact nS b (bl b o e hb) o (I.base.keep b o e n hb (noex b))
 ·obtain ⟨o',k⟩:=I.base.there b o e (noex b)
  exact ⟨o',nS b (bl b o e hb) o' k⟩
 ·exact st2 b o (nS b (bl b o e hb) o (I.base.keep b o e n hb (noex b)))
 ·obtain ⟨sl,k⟩:=I.base.slot b o e n hb (noex b)
  obtain ⟨_,o',k1,k2⟩:=cZ I.funs hb
  rw [k] at k1;cases k1
  obtain ⟨sl',k3⟩:=up b _ (hx.keeps _ _ k) k2
  exact ⟨sl',k3⟩
 ·obtain ⟨o',k⟩:=I.base.there b o e (noex b)
  by_cases hb:b∈ml outer
  ·obtain ⟨_,o2,k1,_⟩:=cZ fl.2.2.1 hb
   exact ⟨o2,k1⟩
  ·exact ⟨o',st2 b o' (nS b (bl b o e hb) o' k)⟩
 ·refine (I.hok b u e).stay (fun c o hc k=>?_) (fun _ q=>q) fun _ _ q=>q
  have hcs:c∉ml X.stack:=fun z=>by
   have:=I.stkFree c z
   rcases hc with y | y
   ·rw [y,e] at this;cases this
   ·rw [y] at this;cases this
  exact st2 c o (nS c hcs o k)
theorem B7 {E':XK} (hE:∀ c H',E' c none H'->E c none H'):iE (iN P w) (fg (iN P w) P w K mg base N qual scope f cd A outer s H E) E':=by
 intro pins σ H1 s1 e s' I h
 obtain ⟨ea,C,t,H',B,rfl,os,bare,x,q⟩:=h
 let X:=fg (iN P w) P w K mg base N qual scope f cd A outer s H E
 have noex:∀ b:aa,b∉X.ex:=fun b z=>absurd (show b∈([] : List aa) from z) (by simp)
 have bl:∀ b o,s.heap.get? b=some o->b∉ml outer->b∉ml X.stack:=fun b o e n z=>by
  rcases List.mem_cons.mp (I.stkSub b z) with y | y
  ·exact absurd (aj e) (by rw [y];exact Nat.not_lt.mpr I.ok.above)
  ·exact n y
 have sub:∀ b∈ml outer,b∈ml X.stack:=fun b hb=>by
  obtain ⟨env,he,hf⟩:=List.mem_filterMap.mp hb
  exact zC (ai _ he) hf
 show ao _ X.A (HD X.env (.ref ea)) _ _ _
 refine wpAny_leaves_onW (base:=B) (outer:=outer) (L:=X.env.locals) I.ok.frames rfl x.fly fun h2 fl up=>?_
 have st2:=fl.1
 refine ⟨ea,C,t,H',B,rfl,os.trans I.os,bare,⟨fl,x.cov,fun b o e n hb=>?_,fun b o e hb=>?_,⟨fun b o e n hb hx'=>?_,fun b o e n hb hx'=>?_,fun b o e n _=>?_,fun b o e _=>?_,fun b xs e=>x.un.tups b xs (I.base.tups b xs e),fun b o xs e=>x.un.frzs b o xs (I.base.frzs b o xs e),fun b ps e=>?_⟩,fun b u e=>?_⟩,hE _ _ q⟩
 ·exact x.old b o (I.base.keep b o e n hb (noex b)) (I.base.free b o e n (noex b)) (bl b o e hb)
 ·obtain ⟨o',k⟩:=I.base.there b o e (noex b)
  exact x.all b o' k (bl b o e hb)
 ·exact st2 b o (x.old b o (I.base.keep b o e n hb (noex b)) (I.base.free b o e n (noex b)) (bl b o e hb))
 ·obtain ⟨sl,k⟩:=I.base.slot b o e n hb (noex b)
  obtain ⟨sl1,k1⟩:=x.un.slot b _ k (I.base.free b o e n (noex b)) (sub b hb) (by simp)
  obtain ⟨_,o',k2,k3⟩:=cZ x.fly.2.2.1 (sub b hb)
  rw [k1] at k2;cases k2
  obtain ⟨sl2,k4⟩:=up b _ k1 k3
  exact ⟨sl2,k4⟩
 ·obtain ⟨o',k⟩:=I.base.there b o e (noex b)
  exact x.un.free b o' k (I.base.free b o e n (noex b)) (by simp)
 ·obtain ⟨o',k⟩:=I.base.there b o e (noex b)
  by_cases hb:b∈ml outer
  ·obtain ⟨_,o2,k1,_⟩:=cZ fl.2.2.1 hb
   exact ⟨o2,k1⟩
  ·obtain ⟨o2,k2⟩:=x.all b o' k (bl b o e hb)
   exact ⟨o2,st2 b o2 k2⟩
 ·obtain ⟨m1,e1⟩:=I.base.tbls b ps e
  obtain ⟨m2,e2⟩:=x.un.tbls b _ e1
  exact ⟨m1++m2,by rw [e2,FJ]⟩
 ·exact (x.hok b u e).stay (fun c o hc k=>by
   rcases hc with z | z
   ·rw [z] at k ⊢;exact x.kp st2 b u o e k
   ·exact x.kp st2 c _ o z k) (fun _ q=>q) fun _ _ q=>q
end
end
section
section
variable {P:aB}{w:aT}{K:a5}{mg:Str->Option a7}{base:a_}{N:List Str}{qual:Str}{scope:dG}{f:aa}{cd:a7}{A:aP}{outer:List Env}{s:a9}{H:Hp}{E:XK}
theorem IS {x:Str}{np cpos pos:Pos}{e0:aO}{bA:List aO}{C:aa}{bmB:List a7}{newId initId Bn:String}{ta:TA} (O:OwnCls x C bmB newId mg base) (FB:qL Bn newId initId bmB)
  (hg:Gl (fg (iN P w) P w K mg base N qual scope f cd A outer s H E) x) (ha:PA (fg (iN P w) P w K mg base N qual scope f cd A outer s H E) (e0::bA) ta)
  (he:ak (e0::bA) (fg (iN P w) P w K mg base N qual scope f cd A outer s H E).env=(false,cp e0 (fg (iN P w) P w K mg base N qual scope f cd A outer s H E).env)::ak bA (fg (iN P w) P w K mg base N qual scope f cd A outer s H E).env:=by rfl)
  (hdb:(x == ("__debug__" : Str))=false:=by decide) (hpl:(dz cpos (ak bA (fg (iN P w) P w K mg base N qual scope f cd A outer s H E).env)).any (·.1)=false:=by rfl) :
  PS (fg (iN P w) P w K mg base N qual scope f cd A outer s H E) (.Raise (some (.Call (.Name x np) (e0::bA) [] cpos)) none pos) (fun D σ H1=>ta σ H1 fun vs H2=>vs.length<=sizeLine/\E (.ref C) none H2):=by
 intro pins s1 σ H1 D I h
 obtain ⟨tl,Nn,nm,q,bs,hdct,sn,sub,ab,col,dd,k0,k1,k2,k3,k5,mN,hC,hN,hni,T⟩:=O.obj
 refine wpAny_Raise_call_subT (C:=C) (nm:=nm) (q:=q) (N:=Nn) (bs:=bs) (bm:=tl) (hdct:=hdct) (sn:=sn) (sub:=sub) (ab:=ab) (col:=col) (dd:=dd) (k0:=k0) (k1:=k1) (k2:=k2) (k3:=k3) (k5:=k5)
  FB (mN:=mN) (T.hasType FB.hasBase) (I.ok.hd rfl) ?_ hni (rW I hg O.bound ⟨rfl,?_⟩ hdb)
 ·rw [he]
  show (false || _)=false
  rw [rQ];exact hpl
 ·have hx:=ha cpos pins s1 σ H1 _ I h
  rw [he] at hx ⊢
  refine q0 (fm hx fun us s2 ⟨vs,H2,I2,r2,z,qE⟩=>?_)
  have kb:∀ b o,base.get? b=some o->s2.heap.get? b=some o:=I2.bk
  exact ⟨rfl,by show us.length<=sizeLine;rw [<- r2.length];exact z,kb _ _ hC,hN.keeps kb,T.keeps kb,fun h' ea hm=>zD I2 hm qE⟩
end
structure zE (base:a_) (C:aa) (bm:List a7):Prop where
 obj:∃ nm q N bs hdct sn sub ab col dd k0 k1 k2 k3 k5 newId,base.get? C=some (fv nm q C N bs bm hdct sn sub ab col dd k0 k1 k2 k3 k5 newId)
 exc:bm.contains (.type "BaseException")=true
theorem w4 {M:vd}{A:aP}{E:a7->a9->Prop}{s:a9}{base:a_}{ea C Cp:aa}{bm bp:List a7}{oe:Obj}{Q:Bool->a9->Prop} (kb:∀ b o,base.get? b=some o->s.heap.get? b=some o) (x:zE base C bm) (y:zE base Cp bp)
  (hm:bm.contains (.ref Cp)=true) (he:s.heap.get? ea=some oe) (hcls:oe.cls=.ref C) (h:Q true s):ao M A (excMatches (.ref ea) (.ref Cp)) Q E s:=by
 obtain ⟨⟨nm,q,Nn,bs,hdct,sn,sub,ab,col,dd,k0,k1,k2,k3,k5,newId,o1⟩,x2⟩:=x
 obtain ⟨⟨nm',q',Nn',bs',hdct',sn',sub',ab',col',dd',k0',k1',k2',k3',k5',newId',o2⟩,y2⟩:=y
 have hC:=kb _ _ o1
 have hP:=kb _ _ o2
 have c1:(bC C::bm).contains (.ref Cp)=true:=by rw [fk,hm,uu]
 have c2:(bC Cp::bp).contains (.type "BaseException")=true:=by rw [fk,y2,uu]
 have f:=tc_notTuple
 obtain ⟨hp,g,d,tk,os⟩:=s
 unfold excMatches
 repeat (first
  | (with_reducible refine du he ?_;rw [hcls])
  | with_reducible refine du hP ?_
  | (with_reducible refine iW hC ?_;rw [c1])
  | (with_reducible refine iW hP ?_;rw [c2])
  | wp_step)
 exact h
def w5 (ea C:aa):HO:=.ext fun h=>∃ o,h.get? ea=some o/\o.cls=.ref C
theorem Mi {P:aB}{w:aT}{H:Hp}{h:a_}{ea C:aa}{o:Obj} (e:h.get? ea=some o) (c:o.cls=.ref C):dk P w H h ea (w5 ea C) :=
 ⟨⟨o,e,c⟩,⟨o,e⟩,fun h1 h2 ⟨o,e,c⟩ k=>⟨o,k o e,c⟩⟩
def Qb (X:Cx) (ea:aa):Cx:={ X with A:=X.A.mark (some (.ref ea)),calm:=false,xe:=fun _ _=>False }
theorem bu.inH {X:Cx}{pins:List (aa×Obj)}{σ:St}{H:Hp}{s:a9} (I:bu X pins σ H s) (ea:aa):bu (Qb X ea) pins σ H s :=
 ⟨⟨I.ok.mod,I.ok.kind,I.ok.glob,I.ok.blt,I.ok.above,I.ok.inj,I.ok.has,I.ok.cab,(fun z=>jK z),I.ok.frames,I.ok.stk,I.ok.exf,I.ok.bs,I.ok.bsz,I.ok.noex,I.ok.exfs,I.ok.funs,I.ok.frf⟩,I.os,I.bare,I.base,I.loc,I.cell,I.free,I.freeC,I.pin,I.hok,I.len⟩
theorem bu.outH {X:Cx}{pins:List (aa×Obj)}{σ:St}{H:Hp}{s:a9}{ea:aa} (ok:X.Ok) (I:bu (Qb X ea) pins σ H s):bu X pins σ H s :=
 ⟨ok,I.os,I.bare,I.base,I.loc,I.cell,I.free,I.freeC,I.pin,I.hok,I.len⟩
def w6 (X:Cx):St:=bd X.N.length none
theorem bu.forget {X:Cx}{pins:List (aa×Obj)}{σ:St}{H:Hp}{s:a9}{h':a_}{t':Nat}{m':Str->Option a7} (I:bu X pins σ H s) (hn:h'.Ns X.env.locals m') (sb:cj X.env.locals s.heap h'):bu X pins (w6 X) H { s with heap:=h',toks:=t' }:=by
 have ne0:∀ b o,X.s₀.heap.get? b=some o->b≠X.env.locals:=fun b o e=>az (aD (aj e) I.ok.above)
 refine ⟨I.ok,I.os,I.bare,⟨fun b o e n hb hx=>(sb.2 b (ne0 b o e)).trans (I.base.keep b o e n hb hx),fun b o e n hb hx=>?_,I.base.free,fun b o e hx=>?_,I.base.tups,I.base.frzs,I.base.tbls⟩,⟨m',hn,fun i x v h1 h2 h3=>?_⟩,fun x c e=>?_,I.free,I.freeC,fun p hp=>?_,vT I.hok I.free sb,by simp [w6]⟩
 ·obtain ⟨sl,k⟩:=I.base.slot b o e n hb hx
  exact ⟨sl,(sb.2 b (ne0 b o e)).trans k⟩
 ·obtain ⟨o',k⟩:=I.base.there b o e hx
  exact ⟨o',(sb.2 b (ne0 b o e)).trans k⟩
 ·have h2:(w6 X)[i]?=some (some v):=h2
  unfold w6 at h2
  rw [bD] at h2
  split at h2<;>cases h2
 ·obtain ⟨v,z⟩:=I.cell x c e
  exact ⟨v,z.sameBut sb (I.cne x c e)⟩
 ·obtain ⟨e,n,ne,nf,d⟩:=I.pin p hp
  exact ⟨(sb.2 p.1 ne).trans e,n,ne,nf,d⟩
def NR (X:Cx) (Cp:aa) (i:Nat) (ts:TS) (D:qM):XK:=fun c _ H'=>∃ C bm,c=.ref C/\zE X.base C bm/\bm.contains (.ref Cp)=true /\
 ∀ ea,H' ea=none->ts { nx:=fun _ H=>D.nx (w6 X) H,rt:=D.rt } ((w6 X).set i (some (.ref ea))) (upd H' ea (w5 ea C))
def T7 (X:Cx) (Cp:aa) (i:Nat) (tb:XK->TS) (ts:TS):TS:=fun D σ H=>tb (NR X Cp i ts D) D σ H
theorem IT {X:Cx}{A:aP}{E:a7->a9->Prop}{pins:List (aa×Obj)}{s:a9}{σ:St}{H:Hp}{x:Str}{u:a7}{pos:Pos}{Q:a7->a9->Prop} (I:bu X pins σ H s) (hg:Gl X x) (hm:X.mg x=some u) (h:Q u s)
  (hd:(x == ("__debug__" : Str))=false:=by decide):ao (aE X.prog X.w) A (cp (.Name x pos) X.env) Q E s :=
 kY I.ok.kind hg (Ax (by rw [I.ok.glob];exact I.mod.glob.keeps I.bk) hm h) hd
def NS (X:Cx) (xe:a7->a9->Prop) (pn:List (aa×Obj)):Cx:={ X with xe:=xe,pn:=pn }
theorem bu.inT {X:Cx}{pins:List (aa×Obj)}{σ:St}{H:Hp}{s:a9} (I:bu X pins σ H s) (xe:a7->a9->Prop):bu (NS X xe (X.pn++pins)) [] σ H s :=
 ⟨⟨I.ok.mod,I.ok.kind,I.ok.glob,I.ok.blt,I.ok.above,I.ok.inj,I.ok.has,I.ok.cab,I.ok.hd,I.ok.frames,I.ok.stk,I.ok.exf,I.ok.bs,I.ok.bsz,I.ok.noex,I.ok.exfs,I.ok.funs,I.ok.frf⟩,I.os,I.bare,I.base,I.loc,I.cell,I.free,I.freeC,
  fun p hp=>I.pin p ((List.mem_append.mp hp).elim id fun z=>absurd z (by simp)),I.hok,I.len⟩
theorem bu.outT {X:Cx}{pins pins':List (aa×Obj)}{σ:St}{H:Hp}{s:a9}{xe:a7->a9->Prop} (ok:X.Ok) (I:bu (NS X xe (X.pn++pins)) pins' σ H s):bu X pins σ H s :=
 ⟨ok,I.os,I.bare,I.base,I.loc,I.cell,I.free,I.freeC,fun p hp=>I.pin p (dC _ hp),I.hok,I.len⟩
theorem bu.track0 {X:Cx}{pins:List (aa×Obj)}{σ:St}{H:Hp}{s:a9}{D:aa}{ho:HO} (I:bu X pins σ H s) (h0:X.s₀.heap.get? D=none) (f0:H D=none) (f1:D≠X.env.locals) (f4:∀ x c,X.env.cells.lookup x=some c->c≠D) (f5:∀ p∈X.pn++pins,p.1≠D)
  (new:dk X.prog X.w (upd H D ho) s.heap D ho):bu X pins σ (upd H D ho) s :=
 ⟨I.ok,I.os,I.bare,⟨I.base.keep,I.base.slot,fun b o e n hx=>by rw [aQ (fun z=>by rw [z,h0] at e;cases e)];exact I.base.free b o e n hx,I.base.there,fun b xs e=>by have q:=I.base.tups b xs e;rw [aQ (aW q f0)];exact q,
  fun b o xs e=>by have q:=I.base.frzs b o xs e;rw [aQ (aW q f0)];exact q,fun b ps e=>by obtain ⟨m,q⟩:=I.base.tbls b ps e;exact ⟨m,by rw [aQ (aW q f0)];exact q⟩⟩,I.loc,I.cell,
  by rw [aQ (eA f1)];exact I.free,fun x c e=>by rw [aQ (f4 x c e)];exact I.freeC x c e,fun p hp=>by
  obtain ⟨e,n,r⟩:=I.pin p hp
  exact ⟨e,by rw [aQ (f5 p hp)];exact n,r⟩,pw I.hok f0 new,I.len⟩
theorem Pg {X:Cx}{body suite:List cw}{b0:cw}{x n:Str}{np hpos pos:Pos}{Cp:aa}{bp:List a7}{i:Nat}{tb:XK->TS}{ts:TS} (hg:Gl X x) (hm:X.mg x=some (.ref Cp)) (y:zE X.base Cp bp)
  (hN:X.N.Nodup) (hi:X.N[i]?=some n) (hn:X.env.scope.names.lookup n=some .local) (hst:∃ l,X.stack=X.env::l/\X.env.frame=some X.env.locals) (hex:X.ex=[])
  (hb:∀ (E:XK) (xe:a7->a9->Prop) (pn:List (aa×Obj)),iE (iN X.prog X.w) (NS X xe pn) E->yc (NS X xe pn) body (tb E)) (hs:∀ ea,yc (Qb X ea) (b0::suite) ts) (hdb:(x == ("__debug__" : Str))=false:=by decide) :
  PS X (.Try body [.ExceptHandler (some (.Name x np)) (some n) (b0::suite) hpos] [] [] pos) (T7 X Cp i tb ts):=by
 intro pins s σ H D I h
 obtain ⟨l,hl,hfr⟩:=hst
 have ok:=I.ok
 refine wpAny_Try_except ?_
 let xe:a7->a9->Prop:=fun e s₁=>ao (aE X.prog X.w) X.A (zb e X.env) (fun _ s₂=>ao (aE X.prog X.w) X.A (setFlight e none) (fun _ s₃ =>
  ao (aE X.prog X.w) X.A (handleBy e X.env [.ExceptHandler (some (.Name x np)) (some n) (b0::suite) hpos]) (SP X pins D) X.xe s₃) X.xe s₂) X.xe s₁
 have hp:iE (iN X.prog X.w) (NS X xe (X.pn++pins)) (NR X Cp i ts D):=by
  intro pins' σ' H1 s1 e s' I' hx
  have I1:bu X pins σ' H1 s1:=I'.outT ok
  obtain ⟨ea,C,t,H',B,rfl,os,bare,air,C',bm,hCe,ox,hcp,hts⟩:=hx
  cases hCe
  have air:NQ X.prog X.w X.stack H1 H' s1.heap s'.heap B ea C t:=air
  have land:∀ h2,NQ X.prog X.w X.stack H1 H' s1.heap h2 B ea C t->bu X pins σ' H' { s' with heap:=h2 }:=fun h2 a =>
   I1.call' (s':={ s' with heap:=h2 }) (ch:=[]) os a.un a.hok bare (fun b z=>absurd z (by simp))
  have fly:=air.fly
  rw [hl] at fly
  show ao _ X.A (zb (.ref ea) X.env) _ _ s'
  refine wpAny_looks_onW (base:=B) (outer:=l) (L:=X.env.locals) (by rw [ok.frames,hl]) hfr fly fun h2 hd2 up2=>?_
  refine wpAny_landsW hd2 fun h3 fl3 up3=>?_
  have up3':=up2.trans up3
  have a3:=air.on (by rw [hl];exact fl3) up3'
  have I3:=land h3 a3
  obtain ⟨oe,he,hcl⟩:=fl3.there
  refine wpAny_handleBy_cons (codeAny_handlers_test (IT I3 hg hm ?_ hdb)) (by intro q;cases q)
  refine w4 (base:=X.base) (s:={ s' with heap:=h3 }) I3.bk ox y hcp he hcl (codeAny_handlers_suite_as ?_)
  refine lands_againW (s:={ s' with heap:=h3 }) fl3 fun h4 fl4 up4=>?_
  have a4:=air.on (by rw [hl];exact fl4) (up3'.trans up4)
  have I4:=land h4 a4
  obtain ⟨oe4,ws,he4,hcl4,hd4,_⟩:=fl4.first
  have nB:B.get? ea=none:=fl4.2.1
  have nfr:ea∉ml X.stack:=fun z=>by
   obtain ⟨_,o',k1,k2⟩:=cZ fl4.2.2.1 (by rw [<- hl];exact z)
   rw [he4] at k1;cases k1
   exact k2 _ hd4
  have n1:s1.heap.get? ea=none:=by
   cases q:s1.heap.get? ea with
   | none=>rfl
   | some o =>
    obtain ⟨o',k⟩:=air.all ea o q nfr
    rw [nB] at k;cases k
  have nH:H' ea=none:=by
   cases q:H' ea with
   | none=>rfl
   | some u =>
    obtain ⟨o',k⟩:=air.cov ea u q
    rw [nB] at k;cases k
  have nloc:ea≠X.env.locals:=fun z=>by
   obtain ⟨m,⟨o,_,_,k,_⟩,_⟩:=I1.loc
   rw [<- z,n1] at k;cases k
  have ncell:∀ x c,X.env.cells.lookup x=some c->c≠ea:=fun x c e z=>by
   obtain ⟨v,o,k,_⟩:=I1.cell x c e
   rw [z,n1] at k;cases k
  have npin:∀ p∈X.pn++pins,p.1≠ea:=fun p hp z=>by
   have k:=(I1.pin p hp).1
   rw [z,n1] at k;cases k
  have n0:X.s₀.heap.get? ea=none:=by
   cases q:X.s₀.heap.get? ea with
   | none=>rfl
   | some o =>
    by_cases hx:ea∈X.ex
    ·rw [hex] at hx;cases hx
    ·obtain ⟨o',k⟩:=I1.base.there ea o q hx
     rw [n1] at k;cases k
  have I5:=(I4.weak (σ':=w6 X) (by rw [I4.len];simp [w6]) (fun j v z=>by
   unfold w6 at z
   rw [bD] at z
   split at z<;>cases z)).track0 (ho:=w5 ea C) n0 nH nloc ncell npin (Mi he4 hcl4)
  refine vL I5 hN hi (.inl hn) (v:=.ref ea) rfl (fun s6 I6=>?_) (.inr hn)
  refine b6 (hs ea pins s6 _ _ _ (I6.inH ea) (hts ea nH)) (fun f s7 q7=>?_) fun _ _ z=>z.elim
  have fin:∀ {σ7:St}{H7:Hp}{Q':St->Hp->Prop},bu (Qb X ea) pins σ7 H7 s7->(∀ s8,bu X pins (w6 X) H7 s8->SP X pins D f s8)->ao (aE X.prog X.w) X.A (do bindName X.env n .none;unbindBehindTheSuite X.env n hpos) (fun _ s8=>SP X pins D f s8) X.xe s7:=fun {σ7 H7 Q'} J k=>by
   have J:=J.outH ok
   obtain ⟨m,hm7,_⟩:=J.loc
   exact wpAny_nameGoes hn hm7 (by rw [ok.kind];rfl) fun h8 m8 hn8 sb8=>k _ (J.forget hn8 sb8)
  cases f with
  | next=>obtain ⟨σ7,H7,J,q⟩:=q7;exact fin (Q':=fun _ _=>True) J fun s8 I8=>⟨_,_,I8,q⟩
  | brk=>obtain ⟨σ7,H7,J,q⟩:=q7;exact q.elim
  | cont=>obtain ⟨σ7,H7,J,q⟩:=q7;exact q.elim
  | ret v=>obtain ⟨z,σ7,H7,J,r,q⟩:=q7;exact fin (Q':=fun _ _=>True) J fun s8 I8=>⟨z,_,_,I8,r,q⟩
 refine b6 (hb _ xe (X.pn++pins) hp [] s σ H D (I.inT xe) h) (fun f s1 q=>?_) fun e s1 q=>q
 have q:SP X pins D f s1:=by
  cases f with
  | next=>obtain ⟨σ',H',J,q⟩:=q;exact ⟨σ',H',J.outT ok,q⟩
  | brk=>obtain ⟨σ',H',J,q⟩:=q;exact ⟨σ',H',J.outT ok,q⟩
  | cont=>obtain ⟨σ',H',J,q⟩:=q;exact ⟨σ',H',J.outT ok,q⟩
  | ret v=>obtain ⟨z,σ',H',J,r,q⟩:=q;exact ⟨z,σ',H',J.outT ok,r,q⟩
 cases f with
 | next=>exact lO q
 | brk=>exact q
 | cont=>exact q
 | ret v=>exact q
end
section
structure IU (K:a5) (C:aa):Prop where
 ga:fV K (.ref C) "__getattribute__"=some (some (.builtin "BaseException.__getattribute__"))
 gn:fV K (.ref C) "__getattr__"=some none
 ca:fV K (.ref C) "__class__"=some (some (.builtin "object.__class__"))
 gg:rL K (.builtin "object.__class__") "__get__"=some (some (.builtin "getset_descriptor.__get__"))
 tk:uR K (.builtin "object.__class__")=some true
 mo:c8 K C (.type "object")=some true
 be:c8 K C (.type "BaseException")=some true
 cl:(fK K C).isSome=true
def yr (x C:aa) (h:a_):Prop:=∃ o,h.get? x=some o/\o.cls=.ref C
theorem yr.type {M:vd}{x C:aa}{h:a_} (p:yr x C h):Li M h (typeOf (.ref x)) (.ref C):=by
 obtain ⟨o,e,c⟩:=p
 exact c ▸ (PySem.W.Looks.ld e).andThen .now
section
variable {prog:aB}{w:aT}{A:aP}{E:a7->a9->Prop}{s:a9}{K:a5}{x C:aa}{R:qF->a9->Prop}
open PySem.W Builtin Builtin.ObjectAttr Builtin.Getset_descriptor in
theorem Mj {tp:a7} (Z:IU K C) (X:K.In s.heap) (p:yr x C s.heap) (q:R (.ok (.ret (.ref C))) s):gK (aE prog w) A (.call (.builtin "getset_descriptor.__get__") ⟨[.builtin "object.__class__",.ref x,tp],[]⟩) R s:=by
 obtain ⟨hp,gs,dr,tt,os⟩:=s
 have T0:=p.type (M:=aE prog w)
 have T1:=looks_mroIn (M:=aE prog w) X Z.mo
 refine k_ KF.slot_gs.plain KF.entry_gs ?_
 refine KF.slot_gs.check _ _ _ _ _ _ _ _ KF.type_class (KF.args_gs _ _ _) ?_
 unfold fN.«getset_descriptor.__get__» descrGet
 rw [dga_obj]
 refine a6 (af ?_)
 unfold descrGetter descrCheckInstance descrNameAndClass qI
 simp only [KF.owner_class]
 repeat lk
 refine ⟨l7 _ (by decide +kernel),eU KF.entry_class ?_⟩
 unfold fN.«object.__class__» shownTypeOf
 repeat lk
 exact q
theorem Gk {Q:Option a7->a9->Prop} (Z:IU K C) (X:K.In s.heap) (p:yr x C s.heap) (h:Q (some (.ref C)) { s with toks:=s.toks + 1 }):ao (aE prog w) A (LG (.ref x) "__class__") Q E s:=by
 obtain ⟨hh,g,d,t,os⟩:=s
 have L0:=p.type (M:=aE prog w)
 have L1:=ou (M:=aE prog w) X Z.ga
 have L2:=ou (M:=aE prog w) X Z.gn
 have F1:=ou (M:=aE prog w) X Z.ca
 have F2:=PySem.W.looks_specialIn (M:=aE prog w) X Z.gg
 have F3:=PySem.W.looks_takesIn (M:=aE prog w) X Z.tk
 have L4:=PySem.W.looks_mroIn (M:=aE prog w) X Z.be
 unfold LG getAttrBy? getAttrBy
 refine a6 (wpAny_mkText (a6 (kX (cq (a6 (L0.at (a6 (L1.at ?_))))))))
 show ao _ _ (getAttrByItsOwn (.ref x) (.str "__class__" t) (.ref C) (.builtin "BaseException.__getattribute__") false false) _ _ _
 unfold getAttrByItsOwn
 show ao _ _ (gD (.ref C) "__getattr__" >>= _) _ _ _
 refine a6 (L2.at (a6 (kX (cq ?_))))
 show ao _ _ (boundAndCalled (.builtin "BaseException.__getattribute__") (.ref x) (.str "__class__" t)) _ _ _
 unfold boundAndCalled
 refine a6 (tN (F.excAttr_ValueError.ga.bind (.ref x)) ?_)
 show ao _ _ (call (.builtin "BaseException.__getattribute__") [.ref x,.str "__class__" t]) _ _ _
 refine mS (k_ F.excAttr_ValueError.ga.plain F.entry_bexc_ga ?_)
 have hk:builtinKind "BaseException.__getattribute__"=some .slot:=by decide +kernel
 have hsp:splitId "BaseException.__getattribute__"=some ("BaseException","__getattribute__"):=by decide +kernel
 have hao:=F.args_bexc_ga (.ref x) (.str "__class__" t)
 simp only [q8,hk,hsp]
 have LI:Li (aE prog w) hh (qI (.ref x) (.type "BaseException")) true:=L0.andThen L4
 refine a6 (LI.at ?_)
 rw [if_neg (by decide)]
 refine tN (a:=()) (by unfold HI at hao;exact hao) ?_
 unfold fN.«object.__getattribute__»
 refine a6 (m:=slotArgs "__getattribute__" 1 _) (af ?_)
 refine a6 (m:=Lj _) (af ?_)
 refine a6 (L0.at (a6 ?_))
 unfold Lk
 refine a6 (F1.at (a6 (F2.at (a6 ?_))))
 refine a6 (F3.at ?_)
 refine af (a6 (hJ (af ?_)))
 show ao _ _ (holding [.builtin "object.__class__"] (call (.builtin "getset_descriptor.__get__") [.builtin "object.__class__",.ref x,.ref C]) >>= fun v=>ret v) _ _ _
 refine a6 (cq (mS (Mj (s:=⟨hh,g,d,t + 1,os⟩) Z X p ?_)))
 exact af (PySem.W.handed_on rfl (af h))
theorem IV (Z:IU K C):PySem.W.KitX K (.ref x) (.ref C) (yr x C) where
 ty:=fun _ _ _ p=>p.type
 it:=fun M h X _=>by
  obtain ⟨cd,hc⟩:=Option.isSome_iff_exists.mp Z.cl
  unfold fK at hc
  split at hc
  ·rename_i c' d' cd' sl' ho
   intro A' Q' E' s' k q
   unfold isType loadHead
   exact a6 (wpAny_loadPart (k _ _ (X _ _ ho)) (af q))
  ·cases hc
 ne:=fun h tp dd its n sl X htp=>by
  refine Bool.eq_false_iff.mpr fun q=>?_
  obtain rfl:C=tp:=Value.ref.inj (beq_iff_eq.mp q)
  obtain ⟨cd,hc⟩:=Option.isSome_iff_exists.mp Z.cl
  unfold fK at hc
  split at hc
  ·rename_i c' d' cd' sl' ho
   have z:=(X _ _ ho).symm.trans htp
   cases z
  ·cases hc
 ca:=fun X p k=>Gk Z X p k
end
section
variable {X:Cx}
theorem uB:iM X (.builtin "isinstance") (fun xs H Q=>∃ x c cv b,xs=[x,c]/\((∃ n,c=.ty n/\cv=.type n)\/∃ C',c=.ref C'/\cv=.ref C')/\((∃ t,tV X.K H x t/\da X.K t cv=some b) \/
  ∃ ea C,x=.ref ea/\H ea=some (w5 ea C)/\IU X.K C/\da X.K (.ref C) cv=some b)/\Q (.bl b) H):=by
 intro pins s σ H xs us Q I r h
 obtain ⟨x,c,cv,b,rfl,rc,h,q⟩:=h
 obtain ⟨u,v,rfl,ru,rv⟩:=Ij r
 obtain rfl:v=cv:=by
  rcases rc with ⟨n,rfl,rfl⟩ | ⟨C',rfl,rfl⟩
  ·exact rv
  ·exact rv
 rcases h with ⟨t,ty,e⟩ | ⟨ea,C,rfl,hH,Z,e⟩
 ·exact my I ru ty e fun tk=>⟨.bl b,H,I.tok tk,rfl,q⟩
 ·cases ru
  have p:yr ea C s.heap:=(show dk X.prog X.w H s.heap ea (w5 ea C) from I.hok ea _ hH).1
  exact cg (IV Z) I.kIn p e (fun z=>nomatch z) fun tk=>⟨.bl b,H,I.tok tk,rfl,q⟩
end
end
section
structure kr (k:Nat) (A:aP):Prop where
 dp:A.depth + 3 * k + 5<iB
 un:A.units + 16 * k + 200<p_
theorem io.h {k:Nat}{A:aP} (r:io k A):kr k A:=⟨r.dp,r.un⟩
theorem kr.mark {k:Nat}{A:aP} (r:kr k A) (v:Option a7):kr k (A.mark v):=⟨r.dp,r.un⟩
theorem kr.deeper {k:Nat}{A:aP} (r:kr (k + 1) A) (env:Env):kr k (A.deeper env):=⟨by have:=r.dp;show A.depth + 1 + 3 * k + 5<_;omega,by have:=r.un;show A.units + 3 + 16 * k + 200<_;omega⟩
structure B8 (P:aB) (w:aT) (K:a5) (mg:Str->Option a7) (base:a_) (k:Nat) (f:aa) (fd:cX) (ps:List Str) (sp:Sp):Prop where
 len:∀ vs H Q E,sp vs H Q E->vs.length=ps.length
 run:∀ (A:aP) (outer:List Env) (s:a9) (H:Hp) (args:Args) (us:List a7) (vs:List V) (Q:VK) (E:XK),kr k A->De P w K mg base A outer s H->uq s fd args (ps.zip us)->cJ vs us->sp vs H Q E ->
  gK (aE P w) A (.call (.ref f) args) (CR TF outer P w H s Q E) s
def QI (P:aB) (w:aT) (K:a5) (mg:Str->Option a7) (base:a_) (N:List Str) (qual:Str) (scope:dG) (f:aa) (cd:a7) (A:aP) (outer:List Env) (s:a9) (H:Hp):Cx where
 prog:=P
 w:=w
 K:=K
 mg:=mg
 base:=base
 A:=A.deeper (iC qual scope s.heap.objs.size f cd)
 N:=N
 s₀:=s
 H₀:=H
 env:=iC qual scope s.heap.objs.size f cd
 outer:=outer
 stack:=iC qual scope s.heap.objs.size f cd::outer
 ex:=[]
 calm:=false
 fn:=fun _=>true
 pn:=[]
 xe:=fun _ _=>False
section
variable {P:aB}{w:aT}{K:a5}{mg:Str->Option a7}{base:a_}
theorem Dt {N ps:List Str}{qual:Str}{scope:dG}{f:aa}{cd:a7}{A:aP}{outer:List Env}{s s1:a9}{H:Hp}{us:List a7}{vs:List V}
  (S:bJ N ps scope) (e0:De P w K mg base A outer s H) (hl:vs.length=ps.length) (r:cJ vs us)
  (x:InCallC s s.heap.objs.size (CS (iC qual scope s.heap.objs.size f cd).kindOf (ps.zip us) fun _=>none) (bc (s.heap.objs.size + 1) scope.names []) (CT (iC qual scope s.heap.objs.size f cd).kindOf (ps.zip us) fun _=>none) s1) :
  bu (QI P w K mg base N qual scope f cd A outer s H) [] (start N vs) H s1:=by
 have e1:De P w K mg base { A with handled:=none } outer s H:=⟨e0.frames,e0.mod,e0.bs,e0.bsz,e0.funs,e0.frf,e0.hok,e0.bare⟩
 have I:=yh (CX:=TF) (E:=E0) S (A:={ A with handled:=none }) rfl e1 hl r x
 exact ⟨⟨I.ok.mod,I.ok.kind,I.ok.glob,I.ok.blt,I.ok.above,I.ok.inj,I.ok.has,I.ok.cab,(fun z=>jK z),I.ok.frames,I.ok.stk,I.ok.exf,I.ok.bs,I.ok.bsz,I.ok.noex,I.ok.exfs,I.ok.funs,I.ok.frf⟩,I.os,I.bare,I.base,I.loc,I.cell,I.free,I.freeC,I.pin,I.hok,I.len⟩
theorem Ph {k:Nat}{f:aa}{name qual:Str}{params:Arguments}{body:List cw}{scope:dG}{dV kV doc pm cdv ct oc:a7}{an od:Option aa}
  {osl:Array (Option a7)}{N ps:List Str}{sp:Sp} (lk:K.lookup f=some ⟨oc,od,.func (e7 name qual params body scope dV kV doc pm an cdv ct),osl⟩) (hcd:iU K cdv qual=true) (S:bJ N ps scope)
  (len:∀ vs H Q E,sp vs H Q E->vs.length=ps.length)
  (hbody:∀ (A:aP) (outer:List Env) (s:a9) (H:Hp) (vs:List V) (Q:VK) (E:XK),kr k (A.deeper (iC qual scope s.heap.objs.size f cdv))->sp vs H Q E ->
   ∃ t,yc (QI P w K mg base N qual scope f cdv A outer s H) body t/\t { nx:=fun _ H'=>Q .non H',rt:=Q } (start N vs) H) :
  B8 P w K mg base (k + 1) f (e7 name qual params body scope dV kV doc pm an cdv ct) ps sp:=by
 refine ⟨len,fun A outer s H args us vs Q E hr e0 hb r hsp=>?_⟩
 have hl:=len _ _ _ _ hsp
 have KX:K.In s.heap:=e0.mod.kin.keeps fun b o e=>(e0.bs b o e).1
 have lim:s.heap.NoLimit:=e0.mod.nolimit.keeps fun b o e=>(e0.bs b o e).1
 have hkind:∀ y∈ps.zip us,scope.names.lookup y.1=some .local\/(scope.names.lookup y.1=some .cell/\((bc (s.heap.objs.size + 1) scope.names []).lookup y.1).isSome=true):=fun ⟨n,v⟩ hy=>by
  rcases S.par n (oh hy).1 with q | q
  ·exact .inl q
  ·exact .inr ⟨q,eL _ _ _ (.inl q)⟩
 refine Le (by have:=hr.dp;omega) (KX _ _ lk) rfl S.co S.gen rfl (qH KX hcd) (hb _ _ _ _ ?_)
 refine CU S.kind hkind fun env he s1 x=>?_
 subst he
 refine ⟨lim.keeps x.toInCall.keep,codeAny_func ?_⟩
 obtain ⟨t,ht,hq⟩:=hbody A outer s H vs Q E (hr.deeper _) hsp
 have I:bu (QI P w K mg base N qual scope f cdv A outer s H) [] (start N vs) H s1:=Dt S e0 hl r x
 refine b6 (ht [] s1 (start N vs) H _ I hq) (fun fl s' hs=>?_) fun e s' hs=>(show False from hs).elim
 have fin:∀ {σ':St}{H':Hp}{v:V}{u:a7},bu (QI P w K mg base N qual scope f cdv A outer s H) [] σ' H' s'->df v u->Q v H'->CE outer P w H s Q u s' :=
  fun {σ' H' v u} J rv q=>⟨v,H',J.os,J.bare,J.base,J.hok,rv,q⟩
 cases fl with
 | ret u =>
  obtain ⟨v,σ',H',J,rv,q⟩:=hs
  exact fin J rv q
 | next =>
  obtain ⟨σ',H',J,q⟩:=hs
  exact fin (v:=V.non) (u:=d_) J rfl q
 | brk =>
  obtain ⟨_,_,_,q⟩:=hs
  exact e6 q
 | cont =>
  obtain ⟨_,_,_,q⟩:=hs
  exact e6 q
theorem AT.okH {x qual:Str}{st:cw}{f:aa}{fd:cX}{N ps:List Str}{k:Nat}{sp:Sp} (F:AT K x qual st f fd) (S:bJ N ps (av st)) (len:∀ vs H Q E,sp vs H Q E->vs.length=ps.length)
  (hbody:∀ (cdv:a7) (A:aP) (outer:List Env) (s:a9) (H:Hp) (vs:List V) (Q:VK) (E:XK),kr k (A.deeper (iC qual (av st) s.heap.objs.size f cdv))->sp vs H Q E ->
   ∃ t,yc (QI P w K mg base N qual (av st) f cdv A outer s H) (fU st) t/\t { nx:=fun _ H'=>Q .non H',rt:=Q } (start N vs) H):B8 P w K mg base (k + 1) f fd ps sp:=by
 obtain ⟨oc,od,kV,doc,pm,an,cdv,ct,osl,rfl,lk,hcd⟩:=F.ex
 exact Ph lk hcd S len fun A outer s H vs Q E hr hsp=>hbody cdv A outer s H vs Q E hr hsp
end
section
variable {X:Cx}{k:Nat}{f:aa}{fd:cX}{ps:List Str}{sp:Sp}{x:Str}{p pos:Pos}{e:aO}{es:List aO}{t:TA}
theorem IW (F:B8 X.prog X.w X.K X.mg X.base k f fd ps sp) (hr:kr k X.A) (hg:Gl X x) (hm:X.mg x=some (.ref f)) (hk:dH X.K (.ref f)=true) (hb:iZ X.K fd ps [])
  (ha:PA X (e::es) t) (hdb:(x == ("__debug__" : Str))=false:=by decide) (he:ak (e::es) X.env=(false,cp e X.env)::ak es X.env:=by rfl) (hpl:(dz pos (ak es X.env)).any (·.1)=false:=by rfl) :
  PE X (.Call (.Name x p) (e::es) [] pos) (EB sp [] E0 t):=by
 intro pins s σ H Q I h
 refine jg (rW I hg hm ?_ hdb)
 refine qG (h₀:=X.base) I.ok.mod.kin hk (fm (ha pos pins s σ H _ I h) fun us s1 ⟨vs,H1,I1,r,q⟩=>⟨I1.kIn,?_⟩) he hpl
 have q:sp (vs++[]) H1 Q E0:=q
 rw [bH] at q
 have hl:us.length=ps.length:=by rw [<- r.length];exact F.len _ _ _ _ q
 have hb':=hb s1 us I1.kIn (by rw [bH];exact hl)
 rw [bH] at hb'
 refine mS (mn (F.run X.A X.stack s1 H1 ⟨us,[]⟩ us vs Q E0 hr I1.env0 hb' r q) fun r s' hq=>?_)
 cases r with
 | error e=>exact (show False from hq).elim
 | ok fl =>
  cases fl with
  | ret u=>exact I1.after hq
  | next=>exact e6 hq
  | brk=>exact e6 hq
  | cont=>exact e6 hq
end
end
section
section
variable {X:Cx}
def T8:oq->String
 | .none=>"NoneType" | .bool _=>"bool" | .int _=>"int" | .str _=>"str" | .list _=>"list" | .tuple _=>"tuple" | .dict _=>"dict"
theorem Du {pins:List (aa×Obj)}{σ:St}{H:Hp}{s:a9}{A:aP}{E:a7->a9->Prop}{Q:a7->a9->Prop}{c:a7}{b:Bool}{x:V}{d:oq}{u:a7} (I:bu X pins σ H s) (rx:df x u) (r:Ds X.K H x d) (e:da X.K (.type (T8 d)) c=some b) (h:∀ tk,Q (.bool b) { s with toks:=tk }) :
  ao (aE X.prog X.w) A (call (.builtin "isinstance") [u,c]) Q E s:=by
 cases r with
 | none=>exact my I rx .non e h
 | bool y=>exact my I rx (.bl y) e h
 | int i=>exact my I rx (.int i) e h
 | str y=>exact my I rx (.str y) e h
 | list hq _ =>
  cases rx
  obtain ⟨its,rv,⟨o,n,ho,c,_,dd⟩,_⟩:=I.list hq
  exact cg rM I.kIn ⟨o,ho,c⟩ e (fun z=>nomatch z) h
 | tuple hq _ =>
  cases rx
  obtain ⟨its,rv,⟨o,ho,c,n,dd⟩,_⟩:=I.tuple hq
  exact cg CQ I.kIn ⟨o,ho,c⟩ e (fun z=>nomatch z) h
theorem IX:iM X (.builtin "isinstance") (fun xs H Q=>∃ x d T b,xs=[x,.ty T]/\Ds X.K H x d/\da X.K (.type (T8 d)) (.type T)=some b/\Q (.bl b) H):=by
 intro pins s σ H xs us Q I r h
 obtain ⟨x,d,T,b,rfl,rp,e,q⟩:=h
 obtain ⟨u,v,rfl,ru,rv⟩:=Ij r
 obtain rfl:v=.type T:=rv
 exact Du I ru rp e fun tk=>⟨.bl b,H,I.tok tk,rfl,q⟩
end
end
end L2
section
namespace HT
open PySem PyProof.Rows
section
variable {prog:aB}{w:aT}{A:aP}{E:a7->a9->Prop}{s:a9}
theorem B9 {t sl:aa}{items:Array a7}{vl vu:a7}{lo hi:Option Int}{Q:a7->a9->Prop} (ht:CN s.heap t items) (hs:s.heap.IsSliceOf sl vl vu .none) (pl:tH vl lo) (pu:tH vu hi)
  (hw:i9 items.size 0 lo=0/\i9 items.size items.size hi=items.size) (h:Q (.ref t) s):ao (aE prog w) A (n_ (.ref t) (.ref sl)) Q E s:=by
 obtain ⟨os,hos,hcs,hds⟩:=id hs
 have hTs:s.TypeIs (.ref sl) "slice":=⟨os,hos,hcs⟩
 unfold n_
 try with_reducible refine cq ?_
 first | refine a6 (af ?_) | skip
 refine a6 (wpAny_sequenceKey ht.typeIs (by decide) ?_)
 refine a6 (cU (name:=ik "__getitem__") ht.typeIs fo
  (cH fo ht.typeIs entry_tuple_getitem ?_ (args_tuple_getitem _ _)))
 show ao _ _ (rO (.ref t) >>= _) _ _ s
 refine a6 (tupleItemsOf_ ht ?_)
 refine a6 (iP hTs ?_)
 rw [if_pos (by decide)]
 refine a6 (mz hs pl pu ?_)
 have hyes:((((i9 items.size 0 lo:Nat):Int) == 0 && (1:Int) == 1 && (i9 items.size items.size hi - i9 items.size 0 lo) == items.size)=true):=by
  rw [hw.1,hw.2];simp
 show ao _ _ (if (((i9 items.size 0 lo:Nat):Int) == 0 && (1:Int) == 1 && (i9 items.size items.size hi - i9 items.size 0 lo) == items.size)=true then _ else _) _ _ s
 rw [if_pos hyes]
 refine a6 ?_
 unfold Builtin.Tuple.tupleIsExact
 refine a6 (iP ht.typeIs (af ?_))
 rw [if_pos (by decide)]
 refine a6 (hJ ?_)
 first
  | exact af (af ⟨_,rfl,h⟩)
  | exact af ⟨_,rfl,af h⟩
  | exact a6 (af (af ⟨_,rfl,af h⟩))
  | exact a6 (af (af ⟨_,rfl,h⟩))
end
end HT
namespace L2
open PySem PySem.Spec PyProof.Rows
section
variable {X:Cx}
inductive IY (K:a5) (x:V) (lo:Option Int) (hi:Option Int) (H:Hp) (Q:VK):Prop
 | mk (a xs:_) (h0:x=.ref a) (h1:jN K H a xs) (h2:(HT.i9 xs.length 0 lo=0/\HT.i9 xs.length xs.length hi=xs.length)) (h3:Q (.ref a) H):IY K x lo hi H Q
def QJ (K:a5):V->Option Int->Option Int->Hp->VK->Prop:=IY K
theorem Mk:Qw X (QJ X.K):=by
 intro pins s σ H x v vl vu lo hi sl Q I rx hs pl pu h
 obtain ⟨a,xs,rfl,hx,hw,q⟩:=h
 cases rx
 obtain ⟨its,r,ht,hz⟩:=I.tuple hx
 have hlen:its.toArray.size=xs.length:=by rw [aF];exact r.length.symm
 exact ⟨"tuple",_,PyProof.Rows.slot_tuple_getitem.lookup,ht.typeIs,HT.B9 ht hs pl pu (by rw [hlen];exact hw) ⟨.ref a,H,I,rfl,q⟩⟩
theorem iq {H:Hp}{p:aa}{o:HO} (h:H p=none):cW H (upd H p o):=fun b u e=>by rw [aQ (aW e h)];exact e
theorem qQ:∀ {bs:List Bool}{us:List a7},cJ (bs.map V.bl) us->us=bs.map h_
 | [],_,.nil=>rfl
 | b::r,_,.cons h t=>by cases h;rw [qQ t];rfl
theorem w9 {A:aP}{s:a9}{bs:List Bool}:∀ y,y∈(bs.map h_).toArray->FP A s y (.bool true) (tS true y):=fun y hy=>by
 have hy:y∈bs.map h_:=by simpa using hy
 obtain ⟨b,_,rfl⟩:=List.mem_map.mp hy
 exact xV b true
def Ml (K:a5):V->List V->Hp->VK->Prop:=fun x vs H Q=>∃ l,∃ bs:List Bool,x=.ref l/\vs=[.bl true]/\l5 K H l (bs.map V.bl)/\Q (.int (bs.countP id:Nat)) H
theorem Gm:SL X "list.count" (Ml X.K):=by
 intro pins s σ H x vs v us Q I rx rv h
 obtain ⟨l,bs,rfl,rfl,hq,q⟩:=h
 cases rx
 obtain ⟨u,rfl,ru⟩:=rv.one
 cases ru
 obtain ⟨its,r,⟨o,n,ho,c,hd,dt⟩,hz⟩:=I.list hq
 rw [qQ r] at dt
 obtain ⟨cls,dd,data,sl⟩:=o
 simp only at c dt
 subst c dt
 refine ki x_ ⟨_,ho,rfl⟩ PySem.F.entry_list_count (PySem.F.args_list_count_2 _ _) (SeqAt.list_countAt l (bs.map h_).toArray n dd sl (.bool true) (tS true)) ⟨ho,fun y hy=>w9 y hy,?_⟩
 refine ⟨.int _,H,I.tok _,⟨_,rfl⟩,?_⟩
 have e:(bs.map h_).toArray.toList.countP (tS true)=bs.countP id:=by
  show (bs.map h_).countP (tS true)=_
  rw [List.countP_map]
  congr 1
  funext b
  cases b<;>rfl
 rw [e]
 exact q
def Mm (K:a5):V->List V->Hp->VK->Prop:=fun x vs H Q=>∃ l,∃ bs:List Bool,∃ j:Nat,x=.ref l/\vs=[.bl true]/\l5 K H l (bs.map V.bl)/\bs[j]?=some true/\(∀ m,m<j->bs[m]?=some false)/\j<=1000/\Q (.int (j:Nat)) H
theorem Gn:SL X "list.index" (Mm X.K):=by
 intro pins s σ H x vs v us Q I rx rv h
 obtain ⟨l,bs,j,rfl,rfl,hq,hj,hno,hsm,q⟩:=h
 cases rx
 obtain ⟨u,rfl,ru⟩:=rv.one
 cases ru
 obtain ⟨its,r,⟨o,n,ho,c,hd,dt⟩,hz⟩:=I.list hq
 rw [qQ r] at dt
 obtain ⟨cls,dd,data,sl⟩:=o
 simp only at c dt
 subst c dt
 obtain ⟨hjl,hjv⟩:=List.getElem?_eq_some_iff.mp hj
 refine ki y0 ⟨_,ho,rfl⟩ PySem.F.entry_list_index (PySem.F.args_list_index_2 _ _) (SeqAt.list_indexAt l (bs.map h_).toArray n dd sl (.bool true) (tS true) j (by simpa using hjl) (by omega) ?_ ?_) ⟨ho,fun y hy=>w9 y hy,?_⟩
 ·simp [tS,hjv]
 ·intro m hm hlt
  have:=hno m hlt
  obtain ⟨_,hv⟩:=List.getElem?_eq_some_iff.mp this
  simp [tS,hv]
 ·exact ⟨.int _,H,I.tok _,⟨_,rfl⟩,q⟩
theorem wa (hc:X.calm=true):iM X (.type "list") (fun xs H Q=>∃ a kvs,xs=[.ref a]/\H a=some (.dK kvs)/\∀ l,H l=none->Q (.ref l) (upd H l (.lst (kvs.map fun p=>kV p.1)))):=by
 intro pins s σ H xs us Q I r h
 obtain ⟨a,kvs,rfl,hH,q⟩:=h
 obtain ⟨u,rfl,rx⟩:=jA r
 cases rx
 obtain ⟨hz,hs,vs,rk,hd⟩:=(show dk X.prog X.w H s.heap a (.dK kvs) from I.hok a _ hH)
 obtain ⟨ep,hat⟩:∃ ep,s.heap.DictAt (dw X.prog X.w) a vs ep:=by
  obtain ⟨o,es,ep,h1,h2,h3,h4⟩:=hd
  exact ⟨ep,o,es,h1,h2,h3,h4⟩
 have hlen:kvs.length=vs.length:=qC rk
 refine PySem.W.kdl_call (PySem.W.kdl_dict hs) (I.ok.hd hc) hat (by omega) fun h' tk acc' c' kp e hacc=>?_
 have rv:cJ (kvs.map fun p=>kV p.1) acc'.toList:=by
  have key:∀ {kvs:List (dJ×V)}{vs:List (dJ×a7)} (acc:List a7),KV kvs vs->acc.length=vs.length->(∀ (j:Nat) (v:a7),acc[j]?=some v->∃ k x,vs[j]?=some (k,x)/\vJ k v=true)->cJ (kvs.map fun p=>kV p.1) acc:=by
   intro kvs
   induction kvs with
   | nil=>intro vs acc rk hl _;cases rk;cases acc with
    | nil=>exact .nil
    | cons _ _=>simp at hl
   | cons p kvs ih =>
    intro vs acc rk hl hv
    cases rk with
    | cons h1 t1 =>
     cases acc with
     | nil=>simp at hl
     | cons v acc =>
      refine .cons ?_ (ih acc t1 (by simpa using hl) fun j v hj=>by simpa using hv (j + 1) v (by simpa using hj))
      obtain ⟨k,x,e1,e2⟩:=hv 0 v rfl
      simp only [AI,AC] at e1
      subst e1
      have hk:p.1=k:=h1.1
      rcases eQ e2 with ⟨i,t,e,rfl⟩ | ⟨i,t,e,rfl⟩
      ·show df (kV p.1) _;rw [hk,e];exact ⟨t,rfl⟩
      ·show df (kV p.1) _;rw [hk,e];exact ⟨t,rfl⟩
  exact key acc'.toList rk (by rw [bh];exact hacc.1) fun j v hj=>hacc.2 j v (by rw [<- fj];exact hj)
 exact ⟨.ref s.heap.objs.size,_,I.laid (t':=tk) kp (ar _) (show dk X.prog X.w _ h' _ (.lst _) from ⟨by simpa using hz,acc'.toList,c',rv,by rw [D2];exact e⟩),rfl,q _ (I.hok.fresh (ar _))⟩
def wc (x:Str):List V:=x.cps.toList.map fun c=>V.str ⟨#[c]⟩
theorem v3 (hc:X.calm=true):iM X (.type "tuple") (fun xs H Q=>∃ x,xs=[.str x]/\x.cps.size<=sizeLine/\∀ l,H l=none->Q (.ref l) (upd H l (.tup (wc x)))):=by
 intro pins s σ H xs us Q I r h
 obtain ⟨x,rfl,hz,q⟩:=h
 obtain ⟨u,rfl,rx⟩:=jA r
 obtain ⟨t,rfl⟩:=rx
 refine call_tuple_str (I.ok.hd hc) x t (fun h' tk acc kp hacc=>?_) hz
 have I1:bu X pins σ H { s with heap:=h',toks:=tk }:=I.kept (t':=tk) kp
 have rv:cJ (wc x) acc.toList:=by
  have key:∀ (cs:List Nat) (acc:List a7),acc.length=cs.length->(∀ (j:Nat) (v:a7),acc[j]?=some v->∃ c u,cs[j]?=some c/\v=.str ⟨#[c]⟩ u)->cJ (cs.map fun c=>V.str ⟨#[c]⟩) acc:=by
   intro cs
   induction cs with
   | nil=>intro acc hl _;cases acc with
    | nil=>exact .nil
    | cons _ _=>simp at hl
   | cons c cs ih =>
    intro acc hl hv
    cases acc with
    | nil=>simp at hl
    | cons v acc =>
     obtain ⟨c',u,e1,rfl⟩:=hv 0 v rfl
     simp only [AI,AC] at e1
     subst e1
     exact .cons ⟨u,rfl⟩ (ih acc (by simpa using hl) fun j v hj=>by simpa using hv (j + 1) v (by simpa using hj))
  refine key x.cps.toList acc.toList (by rw [bh,bh];exact hacc.1) fun j v hj=>?_
  obtain ⟨c,u,e1,e2⟩:=hacc.2 j v (by rw [<- fj];exact hj)
  exact ⟨c,u,by rw [fj];exact e1,e2⟩
 have I2:bu X pins σ (upd H h'.objs.size (.tup (wc x))) { s with heap:=h'.push { cls:=.type "tuple",data:=.seq acc },toks:=tk } :=
  I1.laid (t':=tk) (fun b o e=>a8 _ e) (ar _) (show dk X.prog X.w _ _ _ (.tup (wc x)) from ⟨by unfold wc;simpa using hz,acc.toList,rv,by rw [D2];exact Az _ _⟩)
 exact ⟨.ref h'.objs.size,_,I2,rfl,q _ (I1.hok.fresh (ar _))⟩
end
end L2
end
namespace L2
open PySem PySem.Spec PyProof.Rows
section
theorem zF (elt target iter:aO) (ifs:List aO) (scope:dG) (pos:Pos) (it acc:a7) (env:Env) :
  compTurn (.SetComp elt [⟨target,iter,ifs,0⟩] scope pos) 0 it acc env=(do
   CD iter.pos
   let r <- lP it
   match r with
   | none=>pure (.done .next)
   | some v =>
    gd target it v
    oa target env v
    let mut ok:=true
    for c in ifs do
     if ok then ok <- yY c env (cp c env)
    if ok then
     (do let v <- cp elt env;CD elt.pos;let _ <- call (.builtin "set.add") [acc,v])
    again (.compLoop (.SetComp elt [⟨target,iter,ifs,0⟩] scope pos) 0 it acc env)):=by rfl
section
variable {prog:aB}{w:aT}{A:aP}{E:a7->a9->Prop}{R:qF->a9->Prop}{s:a9}
theorem nX {elt target iter ifs bA scope pos it acc env}
  (h0:gK (aE prog w) A (.compLoop (.SetComp elt (⟨target,iter,ifs,0⟩::bA) scope pos) 0 it acc env) R s)
  (h:ao (aE prog w) A (y_ it) (fun it' s'=>gK (aE prog w) A (.compLoop (.SetComp elt (⟨target,iter,ifs,0⟩::bA) scope pos) 0 it' acc env) R s')
   (notedBy (aE prog w) A env fun x s'=>R (.error x) s') s) :
  gK (aE prog w) A (.compStart (.SetComp elt (⟨target,iter,ifs,0⟩::bA) scope pos) 0 it acc env) R s:=by
 refine rG ?_
 show ao _ _ ((compStart (.SetComp elt (⟨target,iter,ifs,0⟩::bA) scope pos) 0 it acc env).onRaise (fun x=>do zb x env;CD theWindowsPlace)) _ _ s
 refine wpAny_notedAt ?_
 unfold compStart
 show ao _ _ (ask >>= _) _ _ s
 refine a6 (iR (wpAny_ite ?_))
 split
 ·first
   | exact a6 (af (af (vC rfl h0)))
   | exact af (vC rfl h0)
 ·first
   | exact a6 (hJ (a6 (dA (a6 (b6 h (fun it' s' hq=>af (vC rfl hq)) fun _ _ x=>x)))))
   | (refine a6 (hJ ?_);show ao _ _ (CD iter.pos >>= _) _ _ s;exact a6 (dA (a6 (b6 h (fun it' s' hq=>af (vC rfl hq)) fun _ _ x=>x))))
theorem xw {Q:a7->a9->Prop} (h:Q (.ref s.heap.objs.size) { s with heap:=s.heap.push (iA w) }):ao (aE prog w) A (newSet (.type "set")) Q E s:=by
 unfold newSet setsByText
 refine a6 (a6 (iR (af ?_)))
 dsimp only
 simp only [newObj]
 exact a6 (Lv (af h))
theorem xx {a:aa}{ss:List Str}{x:Str}{tk:Tok}{Q:a7->a9->Prop} (hS:m5 w s.heap a ss) (hr:ss.length + 1<i8)
  (h:∀ h' tk',cj a s.heap h'->m5 w h' a (if x∈ss then ss else ss++[x])->Q .none { s with heap:=h',toks:=tk' }) :
  ao (aE prog w) A (call (.builtin "set.add") [.ref a,.str x tk]) Q E s:=by
 have hT:s.TypeIs (.ref a) "set":=by obtain ⟨es,ep,t,I,_⟩:=id hS;exact ⟨_,I.at_,rfl⟩
 refine cH F.slot_set_add hT F.entry_set_add ?_ (F.args_set_add_2 _ _)
 unfold fN.«set.add» LH
 simp only [List.isEmpty_nil,bind_assoc]
 unfold LJ
 refine a6 (af ?_)
 try dsimp only
 refine a6 (af ?_)
 try dsimp only
 refine a6 ?_
 refine A_ hS hr fun h' tk' sb hS'=>?_
 exact af ⟨_,rfl,h h' tk' sb hS'⟩
end
section
variable {prog:aB}{w:aT}{A:aP}{R:qF->a9->Prop}{s:a9}
theorem Ba {elt target iter:aO}{ifs:List aO}{scope:dG}{pos:Pos}{it acc:a7}{env:Env} (I:Nat->a9->Prop)
  (turn:∀ n s,I n s->ao (aE prog w) A (lP it) (fun r s₁=>match r with
   | none=>R (.ok .next) s₁
   | some v=>ao (aE prog w) A (gd target it v) (fun _ s₁'=>ao (aE prog w) A (oa target env v) (fun _ s₂ =>
     ao (aE prog w) A (forIn ifs true fun c r=>if r=true then do let ok <- yY c env (cp c env);pure (fi ok) else pure (fi r)) (fun ok s₃ =>
      if ok=true then ao (aE prog w) A (cp elt env) (fun x s₄ =>
       ao (aE prog w) A (call (.builtin "set.add") [acc,x]) (fun _ s₅=>∃ m,m<n/\I m s₅) (fun _ _=>False) s₄) (fun _ _=>False) s₃
      else ∃ m,m<n/\I m s₃) (fun _ _=>False) s₂) (fun _ _=>False) s₁') (fun _ _=>False) s₁) (fun _ _=>False) s)
  (n:Nat) (h:I n s) :
  gK (aE prog w) A (.compLoop (.SetComp elt [⟨target,iter,ifs,0⟩] scope pos) 0 it acc env) R s:=by
 refine codeAny_loop rfl I (fun n s hI=>?_) n h
 show ao _ A ((compTurn (.SetComp elt [⟨target,iter,ifs,0⟩] scope pos) 0 it acc env).onRaise (fun x=>do zb x env;theTreesLotGoes x)) _ _ s
 refine wpAny_noted ?_
 rw [zF]
 have nf:∀ {α:Type}{t:Sem α}{Q:α->a9->Prop}{E':a7->a9->Prop}{s:a9},ao (aE prog w) A t Q (fun _ _=>False) s->ao (aE prog w) A t Q E' s :=
  fun h=>b6 h (fun _ _ q=>q) fun _ _ f=>f.elim
 refine a6 (dA (a6 (nf (b6 (turn n s hI) (fun r s₁ h₁=>?_) fun _ _ h'=>h'))))
 cases r with
 | none=>exact af h₁
 | some v =>
  refine a6 (nf (b6 h₁ (fun _ s₁' h₁'=>?_) fun _ _ h'=>h'))
  refine a6 (nf (b6 h₁' (fun _ s₂ h₂=>a6 (nf (b6 h₂ (fun ok s₃ h₃=>?_) fun _ _ h'=>h'))) fun _ _ h'=>h'))
  cases ok with
  | false=>exact af ⟨rfl,h₃⟩
  | true =>
   exact a6 (a6 (nf (b6 h₃ (fun x s₄ h₄=>a6 (dA (a6 (nf (b6 h₄ (fun _ s₅ h₅=>af (af ⟨rfl,h₅⟩)) fun _ _ h'=>h'))))) fun _ _ h'=>h')))
end
inductive TJ (X:Cx) (pins:List (aa×Obj)) (N':List Str) (scope:dG) (cl:List (Str×aa)) (C:aa) (s2:a9) (H2:Hp) (fp:List aa) (nt:Nat) (ix:List Nat) (σ:St) (tn:Nat->a_->Prop) (W:Nat->Nat->List Str->Hp->Prop) (n:Nat) (s':a9):Prop
 | mk (i:Nat) (acc:List Str) (oD:Obj) (H':Hp) (I:bu (cy X N' scope cl C s2 H2 fp (X.pn++pins)) [(s2.heap.objs.size,oD)] (iS nt ix σ) H' s') (S:m5 X.w s'.heap s2.heap.objs.size acc) (t:tn i s'.heap) (f:∀ b∈fp,H' b=none) (w:W i n acc H'):TJ X pins N' scope cl C s2 H2 fp nt ix σ tn W n s'
theorem Go {X:Cx}{elt tg iter:aO}{ifs:List aO}{scope:dG}{pos:Pos}{g:TG}{tt:TT}{te:TE}{N':List Str}{nt:Nat}{ix:List Nat}
  (hc:X.calm=true) (S:lZ X scope N' nt ix) (lo:NN nt g)
  (hb:∀ cl C s₀ H₀ ex pn,PG (cy X N' scope cl C s₀ H₀ ex pn) tg g/\Lm (cy X N' scope cl C s₀ H₀ ex pn) ifs tt/\PE (cy X N' scope cl C s₀ H₀ ex pn) elt te)
  {cl:List (Str×aa)} (c1:∀ x c,cl.lookup x=some c->X.env.cells.lookup x=some c) (c2:∀ y∈scope.names,y.2=.free->∃ c,cl.lookup y.1=some c)
  {pins:List (aa×Obj)}{σ:St}{H2:Hp}{s2:a9}{it:aa}{fp:List aa}{tn:Nat->a_->Prop}{J:It}{Q:VK}{E:a7->a9->Prop}
  (I2:bu X pins σ H2 s2) (T:xq X.prog X.w X.K tg J fp it tn) (st2:tn 0 s2.heap) (f2:∀ b∈fp,oA X pins H2 b)
  {W:Nat->Nat->List Str->Hp->Prop} (w0:∃ m,W 0 m [] H2)
  (turn:∀ i m acc H,W i m acc H->(J.stop i H/\∀ p,H p=none->Q (.ref p) (upd H p (qf X.w p acc))) \/
   (J.go i H/\acc.length + 1<i8/\∀ x H',J.yld i H x H'->g x (iS nt ix σ) H' fun σ2 H2=>tt σ2 H2 fun b H3 =>
    if b=true then te σ2 H3 fun y H4=>∃ z m',y=.str z/\m'<m/\W (i + 1) m' (if z∈acc then acc else acc++[z]) H4 else ∃ m',m'<m/\W (i + 1) m' acc H3))
  {RR:a7->aa->qF->a9->Prop}
  (hRR:∀ D C m s' (acc:List Str) H',H' D=none->oA X pins (upd H' D (qf X.w D acc)) C->Q (.ref D) (upd H' D (qf X.w D acc))->s'.heap.Ns C m->(∀ h',cj C s'.heap h'->bu X pins σ (upd H' D (qf X.w D acc)) { s' with heap:=h' })->RR (.ref D) C (.ok .next) s') :
  ao (aE X.prog X.w) X.A (newSet (.type "set")) (fun acc s₃=>ao (aE X.prog X.w) X.A (tK scope X.env.globals cl [] X.env.qual none .none (some X.env)) (fun cenv s₄ =>
   gK (aE X.prog X.w) X.A (.compStart (.SetComp elt [⟨tg,iter,ifs,0⟩] scope pos) 0 (.ref it) acc { cenv with scope:=relabel scope X.env }) (RR acc cenv.locals) s₄) E s₃) E s2:=by
 refine xw (EJ fun h₁ hh₁=>?_)
 dsimp only at hh₁ ⊢
 generalize hG2:s2.heap.push (iA X.w)=G2 at hh₁ ⊢
 have hC:G2.objs.size=s2.heap.objs.size + 1:=by rw [<- hG2,c7]
 have hDC:s2.heap.objs.size≠G2.objs.size:=by rw [hC];exact az (el _)
 have hCle:s2.heap.objs.size<=G2.objs.size:=by rw [hC];exact fR _
 have below:∀ b,b<s2.heap.objs.size->b≠G2.objs.size:=fun b hb=>by rw [hC];exact az (eK hb)
 have kp:∀ b o,G2.get? b=some o->h₁.get? b=some o:=fun b o e=>by rw [hh₁];exact rF _ _ b o (a8 _ e)
 have hns₁:h₁.Ns G2.objs.size (fun _=>none):=by rw [hh₁];exact (Heap.Ns.new G2 (.type "dict")).keeps (rF _ _)
 have ok₁:CellsOk h₁ (G2.objs.size + 1) (bc (G2.objs.size + 1) scope.names []):=by rw [hh₁];exact ym G2 scope.names
 have cne:∀ x c,(bc (G2.objs.size + 1) scope.names cl).lookup x=some c->X.env.cells.lookup x=some c\/s2.heap.objs.size<c:=fun x c e=>by
  rcases jB e with a | ⟨_,a⟩
  ·exact .inr (aD (uU hCle) (ok₁.empty x c a).2)
  ·exact .inl (c1 x c a)
 have old:∀ b o,s2.heap.get? b=some o->h₁.get? b=some o:=fun b o e=>kp b o (hG2 ▸ a8 _ e)
 have hacc:h₁.get? s2.heap.objs.size=some (iA X.w):=kp _ _ (hG2 ▸ ax _ rfl)
 have ff:∀ b∈fp,b<s2.heap.objs.size:=fun b hb=>by
  obtain ⟨o,e,_⟩:=T.obj _ _ st2 b hb
  exact aj e
 have I3:bu (cy X N' scope (bc (G2.objs.size + 1) scope.names cl) G2.objs.size s2 H2 fp (X.pn++pins)) [] (iS nt ix σ) H2 { s2 with heap:=h₁,toks:=s2.toks }:=AX S I2 c1 c2 f2 ff hCle hns₁ old ok₁
 obtain ⟨pg,pt,pe⟩:=hb (bc (G2.objs.size + 1) scope.names cl) G2.objs.size s2 H2 fp (X.pn++pins)
 have hDfs:s2.heap.objs.size∉ml X.stack:=fun z=>by
  rcases List.mem_cons.mp (I2.stkSub _ z) with e | e
  ·exact absurd I2.lt (by rw [<- e];exact bQ _)
  ·exact I2.nofs (ar _) e
 have st1:tn 0 h₁:=T.keep _ _ _ st2 fun b _ o e=>old b o e
 have hDf:s2.heap.objs.size∉fp:=fun z=>absurd (ff _ z) (bQ _)
 have stat:∀ {H':Hp}{pl:List (aa×Obj)},(∀ p∈pl,p.1∉fp)->(∀ b∈fp,H' b=none)->∀ b∈fp,oA (cy X N' scope (bc (G2.objs.size + 1) scope.names cl) G2.objs.size s2 H2 fp (X.pn++pins)) pl H' b:=fun hpl hn b hb=>by
  obtain ⟨f0,f1,f2',f3,f4,f5⟩:=f2 b hb
  refine ⟨hn b hb,below b (ff b hb),fun z=>?_,.inl hb,fun x c e=>(cne x c e).elim (f4 x c) fun q z=>uV q (by rw [z];exact ff b hb),fun p hp z=>?_⟩
  ·rcases List.mem_cons.mp (I2.stkSub _ z) with e | e
   ·exact f1 e
   ·exact f2' e
  ·rcases List.mem_append.mp hp with q | q
   ·exact f5 p q z
   ·exact hpl p q (z ▸ hb)
 obtain ⟨m0,w0⟩:=w0
 have loop:gK (aE X.prog X.w) X.A (.compLoop (.SetComp elt [⟨tg,iter,ifs,0⟩] scope pos) 0 (.ref it) (.ref s2.heap.objs.size) (compEnvC scope (bc (G2.objs.size + 1) scope.names cl) G2.objs.size X.env))
    (RR (.ref s2.heap.objs.size) G2.objs.size) { s2 with heap:=h₁,toks:=s2.toks }:=by
  refine Ba (TJ X pins N' scope (bc (G2.objs.size + 1) scope.names cl) G2.objs.size s2 H2 fp nt ix σ tn W) ?_ m0
   ⟨0,[],_,H2,I3.pin1 hacc (I2.hok.fresh (ar _)) hDC hDfs (fun v z=>nomatch z),yn X.w hacc,st1,fun b hb=>(f2 b hb).1,w0⟩
  rintro n s3 ⟨i,acc,oD,H3,J3,hS3,st3,fr3,w3⟩
  have plD:∀ p∈[(s2.heap.objs.size,oD)],p.1∉fp:=fun p hp=>by
   have:p=(s2.heap.objs.size,oD):=by simpa using hp
   rw [this];exact hDf
  have stS:∀ {s8:a9},s8.heap.get? s2.heap.objs.size=some oD->m5 X.w s8.heap s2.heap.objs.size acc:=fun {s8} e=>hS3.keep fun o eo=>by
   have q:=(J3.pin (s2.heap.objs.size,oD) (aM _ (List.mem_singleton.mpr rfl))).1
   rw [q] at eo;cases eo;exact e
  rcases turn i n acc H3 w3 with ⟨stop,qn⟩ | ⟨go,hlt,step⟩
  ·refine fm (T.done (cy X N' scope (bc (G2.objs.size + 1) scope.names cl) G2.objs.size s2 H2 fp (X.pn++pins)) rfl rfl rfl hc i _ s3 _ H3 _ J3 (stat plD fr3) st3 stop) fun r s4 h_0=>?_
   obtain ⟨hr,I4⟩:=h_0
   subst hr
   obtain ⟨pD,pN,_⟩:=I4.pin (s2.heap.objs.size,_) (aM _ (List.mem_singleton.mpr rfl))
   obtain ⟨mm,hn,_⟩:=I4.loc
   have hCn:H3 G2.objs.size=none:=I4.free
   refine hRR _ _ mm s4 acc H3 pN (I2.fpOk hCle (by rw [aQ (eA hDC)];exact hCn)) (qn _ pN) hn fun h' sb=>?_
   have hu:Un (ml X.stack) fp H2 (upd H3 s2.heap.objs.size (qf X.w s2.heap.objs.size acc)) s2.heap h':=Un.grow I4.base sb hCle (ar _) pN
   refine I2.call' (s':={ s4 with heap:=h' }) (ch:=fp) I4.os hu ?_ I4.bare fun b hb=>?_
   ·exact pw (vT I4.hok hCn sb) pN (EN ((stS pD).keep fun o e=>(sb.2 _ hDC).trans e))
   ·obtain ⟨_,f1,_,f3,f4,f5⟩:=f2 b hb
    exact ⟨f3,f1,f4,f5⟩
  ·refine fm (T.item (cy X N' scope (bc (G2.objs.size + 1) scope.names cl) G2.objs.size s2 H2 fp (X.pn++pins)) rfl rfl rfl hc i _ s3 _ H3 _ J3 (stat plD fr3) st3 go) fun r s4 h_1=>?_
   obtain ⟨u,hr,h4⟩:=h_1
   subst hr
   refine fm h4 fun _ s5 h_2=>?_
   obtain ⟨x,H5,I5,r5,y5,st5,fr5⟩:=h_2
   have I5':=I5.pinned (stat plD fr5) (T.obj _ _ st5)
   refine fm (pg _ s5 _ H5 x u _ I5' r5 (lo _ _ _ _ (step x H5 y5))) fun _ s6 h_3=>?_
   obtain ⟨σ6,H6,I6,q6,l6,k6⟩:=h_3
   have hw:∀ (j:Nat) v,(iS nt ix σ)[j]?=some (some v)->σ6[j]?=some (some v):=fun j v e=>by
    by_cases hj:nt<=j
    ·rw [k6 j hj];exact e
    ·unfold iS at e
     rw [bn (by simpa using hj),bD,if_pos (by omega)] at e
     cases e
   refine fm (pt _ s6 σ6 H6 _ I6 q6) fun b s7 h_4=>?_
   obtain ⟨H7,I7,q7⟩:=h_4
   have fpk:∀ {s8:a9}{σ8:St}{H8:Hp},bu (cy X N' scope (bc (G2.objs.size + 1) scope.names cl) G2.objs.size s2 H2 fp (X.pn++pins)) ([(s2.heap.objs.size,oD)]++tU fp s5.heap) σ8 H8 s8 ->
     tn (i + 1) s8.heap/\∀ b∈fp,H8 b=none:=fun {s8 σ8 H8} I8=>by
    refine ⟨T.keep _ _ _ st5 fun b hb o e=>(I8.pin (b,o) (aM _ (aM _ (ji hb e)))).1,fun b hb=>?_⟩
    obtain ⟨o,e,d⟩:=T.obj _ _ st5 b hb
    exact (I8.pin (b,o) (aM _ (aM _ (ji hb e)))).2.1
   cases b with
   | false =>
    simp only [c9,if_false] at q7 ⊢
    obtain ⟨m',hm,w7⟩:=q7
    obtain ⟨t7,f7⟩:=fpk I7
    obtain ⟨pD,_⟩:=I7.pin (s2.heap.objs.size,oD) (aM _ (dC _ (List.mem_singleton.mpr rfl)))
    exact ⟨m',hm,i + 1,acc,oD,H7,(I7.weak l6.symm hw).unpinned,stS pD,t7,f7,w7⟩
   | true =>
    simp only [if_true] at q7 ⊢
    refine fm (pe _ s7 σ6 H7 _ I7 q7) fun u8 s8 h_5=>?_
    obtain ⟨y,H8,I8,r8,z,m',hy,hm,w8⟩:=h_5
    obtain ⟨t8,f8⟩:=fpk I8
    obtain ⟨pD,pN,_⟩:=I8.pin (s2.heap.objs.size,_) (aM _ (dC _ (List.mem_singleton.mpr rfl)))
    subst hy
    obtain ⟨tz,rfl⟩:=r8
    refine xx (stS pD) hlt fun h9 tk9 sb9 hS9=>?_
    obtain ⟨es9,ep9,t9,is9,pm9⟩:=id hS9
    have e9':=is9.at_
    refine ⟨m',hm,i + 1,_,{ cls:=.type "set",dict:=none,data:=.set es9 ep9 t9 },H8,?_,hS9,T.keep _ _ _ t8 fun b hb o e=>sb9.extBut b o (fun z=>hDf (z ▸ hb)) e,f8,w8⟩
    have I8':bu (cy X N' scope (bc (G2.objs.size + 1) scope.names cl) G2.objs.size s2 H2 fp (X.pn++pins)) [] (iS nt ix σ) H8 s8:=(I8.weak l6.symm hw).pins_of fun p hp=>absurd hp (by simp)
    have I9:bu (cy X N' scope (bc (G2.objs.size + 1) scope.names cl) G2.objs.size s2 H2 fp (X.pn++pins)) [] (iS nt ix σ) H8 { s8 with heap:=h9,toks:=tk9 } :=
     I8'.turned (it:=s2.heap.objs.size) (fun b o hb e=>sb9.extBut b o hb e) pN hDC (.inr (ar _)) (fun x c e z=>by
      rcases cne x c e with e | e
      ·obtain ⟨v,q⟩:=I2.cell x c e
       exact absurd q.lt (by rw [z];exact bQ _)
      ·exact absurd e (by rw [z];exact bQ _)) fun p hp z=>by
      have hp:p∈X.pn++pins:=(List.mem_append.mp hp).elim id fun z=>absurd z (by simp)
      exact absurd (aj (I2.pin p hp).1) (by rw [z];exact bQ _)
    exact I9.pin1 e9' pN hDC hDfs (fun v z=>nomatch z)
 exact nX loop (T.self _ 0 _ _ _ st1 loop)
inductive NT (w:aT) (nt:Nat) (ix:List Nat) (g:TG) (tt:TT) (te:TE) (σ:St) (Q:VK) (J:It) (H1:Hp):Prop
 | mk (W:Nat->Nat->List Str->Hp->Prop) (w0:∃ m,W 0 m [] H1) (turn:∀ i m acc H,W i m acc H ->
 (J.stop i H/\∀ p,H p=none->Q (.ref p) (upd H p (qf w p acc))) \/
 (J.go i H/\acc.length + 1<i8/\∀ x H',J.yld i H x H'->g x (iS nt ix σ) H' fun σ2 H2=>tt σ2 H2 fun b H3 =>
  if b=true then te σ2 H3 fun y H4=>∃ z m',y=.str z/\m'<m/\W (i + 1) m' (if z∈acc then acc else acc++[z]) H4 else ∃ m',m'<m/\W (i + 1) m' acc H3)):NT w nt ix g tt te σ Q J H1
def IZ (w:aT) (nt:Nat) (ix:List Nat) (wi:TI) (g:TG) (tt:TT) (te:TE):TE:=fun σ H Q=>wi σ H (NT w nt ix g tt te σ Q)
theorem Dv {X:Cx}{elt tg iter:aO}{ifs:List aO}{scope:dG}{pos:Pos}{wi:TI}{g:TG}{tt:TT}{te:TE}{N':List Str}{nt:Nat}{ix:List Nat}
  (hc:X.calm=true) (S:lZ X scope N' nt ix) (lo:NN nt g) (hi:PI X tg iter wi)
  (hb:∀ cl C s₀ H₀ ex pn,PG (cy X N' scope cl C s₀ H₀ ex pn) tg g/\Lm (cy X N' scope cl C s₀ H₀ ex pn) ifs tt/\PE (cy X N' scope cl C s₀ H₀ ex pn) elt te)
  (hs:∀ x,dm iter X.env x=pure x:=by intro _;rfl):PE X (.SetComp elt [⟨tg,iter,ifs,0⟩] scope pos) (IZ X.w nt ix wi g tt te):=by
 intro pins s σ H Q I h
 obtain ⟨cl,hcl,c1,c2⟩:=qO (scope:=scope) (env:=X.env) fun y hy hf=>I.ok.has y.1 (S.free y hy hf)
 show ao _ _ (comprehension (.SetComp elt [⟨tg,iter,ifs,0⟩] scope pos) scope X.env (firstIterPos [⟨tg,iter,ifs,0⟩] pos) (newSet (.type "set")) (firstAsync [⟨tg,iter,ifs,0⟩]) (firstIter [⟨tg,iter,ifs,0⟩] X.env)) _ _ _
 refine oo (use:=none) rfl hs hcl S.kind S.loc (fm (hi pins s σ H _ I h) fun v s1 h1=>fm h1 fun itv s2 h2=>?_)
 obtain ⟨it,fp,tn,J,H2,e,I2,T,st2,f2,W,w0,turn⟩:=h2
 subst e
 refine Go (RR:=fun acc C=>compPost (aE X.prog X.w) X.A X.xe none (EP X pins σ Q) acc C) hc S lo hb c1 c2 I2 T st2 f2 w0 turn ?_
 intro D C m s' acc H' hD _ q hn hI
 exact ⟨m,hn,fun h' sb=>⟨.ref D,_,hI h' sb,rfl,q⟩⟩
section
variable {X:Cx}
theorem xy:iM X (.builtin "len") (fun xs H Q=>∃ p ss,xs=[.ref p]/\H p=some (qf X.w p ss)/\Q (.int ss.length) H):=by
 intro pins s σ H xs us Q I r h
 obtain ⟨p,ss,rfl,hq,q⟩:=h
 obtain ⟨u,rfl,rx⟩:=jA r
 cases rx
 obtain ⟨es,ep,t,is,pm⟩:=(show dk X.prog X.w H s.heap p (qf X.w p ss) from I.hok p _ hq).1
 have hlen:es.size=ss.length:=by rw [<- pm.length_eq,au,bh]
 have hsm:(es.size:Int)<2 ^ 63:=by
  have h1:=is.few
  have h2:i8<=2 ^ 62:=by decide
  omega
 refine xZ kind_len plain_len entry_len (args_len1 _) (wpAny_len_body_set is.at_ ⟨rfl,rfl,rfl⟩ rfl is.fits hsm ?_)
 refine ⟨.int _,H,I.tok _,⟨_,rfl⟩,?_⟩
 rw [hlen];exact q
end
end
end L2
section
namespace L2
open PySem PySem.Spec PyProof.Rows
section
variable {K:a5}{nt:Nat}{ix:List Nat}{te:TE}{σ:St}{H1:Hp}{Q:VK}{a:aa}{xs:List V}{i:Nat}
end
end L2
namespace L2
open PySem PySem.Spec PyProof.Rows
def EO (so:dG) (N:List Str) (scope:dG) (N':List Str) (nt:Nat) (ix:List Nat):Bool :=
 (scope.kind == .function) && (scope.names.all fun y=>y.2 != .cell || scope.names.lookup y.1 == some .cell) && (scope.names.all fun y=>y.2 != .local || scope.names.lookup y.1 == some .local) &&
 (scope.names.all fun y=>y.2 != .free || so.names.lookup y.1 == some .cell || so.names.lookup y.1 == some .free) &&
 ((bt ix.length).all fun k=>match ix[k]? with
  | none=>false
  | some i=>match N[i]? with
   | none=>false
   | some x=>N'[nt + k]? == some x && scope.names.lookup x == some .free) && (N'.length == nt + ix.length)
theorem bW {X:Cx}{so:dG}{N:List Str}{scope:dG}{N':List Str}{nt:Nat}{ix:List Nat} (h:EO so N scope N' nt ix=true) (h1:X.env.scope=so:=by rfl) (h2:X.N=N:=by rfl):lZ X scope N' nt ix:=by
 unfold EO at h
 simp only [aS,dD] at h
 obtain ⟨⟨⟨⟨⟨a,b⟩,c⟩,d⟩,e⟩,l⟩:=h
 refine ⟨by simpa using a,fun y hy z=>?_,fun y hy z=>?_,fun y hy z=>?_,fun k i hk=>?_,by simpa using l⟩
 ·have:=b y hy;simpa [z] using this
 ·have:=c y hy;simpa [z] using this
 ·have:=d y hy
  rw [h1]
  simpa [z] using this
 ·have hl:k<ix.length:=(List.getElem?_eq_some_iff.mp hk).1
  have:=e k (List.mem_range.mpr hl)
  rw [hk] at this
  rw [h2]
  simp only at this
  split at this
  ·cases this
  ·rename_i x hx
   simp only [aS] at this
   exact ⟨x,hx,by simpa using this.1,by simpa using this.2⟩
end L2
end
namespace L2
open PySem PySem.Spec PyProof.Rows
section
section
variable {K:a5}{nt:Nat}{ix:List Nat}{te:TE}{σ:St}{H1:Hp}{Q:VK}{a b:aa}{xs ys:List V}{i k:Nat}
end
end
end L2
namespace J
open PySem L2
section
abbrev D:=oq
inductive R (α:Type) where
 | ok (a:α)
 | ex (c:Str) (n:Option D)
 | no
def R.bind {α β:Type}:R α->(α->R β)->R β
 | .ok a,f=>f a
 | .ex c n,_=>.ex c n
 | .no,_=>.no
@[simp] theorem bind_ok {α β:Type} (a:α) (f:α->R β):(R.ok a).bind f=f a:=rfl
@[simp] theorem bind_ex {α β:Type} (c:Str) (n:Option D) (f:α->R β):(R.ex c n).bind f=.ex c n:=rfl
@[simp] theorem bind_no {α β:Type} (f:α->R β):(R.no:R α).bind f=.no:=rfl
def kD:dJ->D
 | .inl i=>.int i
 | .inr x=>.str x
def tD (ks:List dJ):D:=.tuple (ks.map kD)
mutual
inductive RD (K:a5) (H:Hp):V->D->Prop
 | none:RD K H .non .none
 | bool (b:Bool):RD K H (.bl b) (.bool b)
 | int (i:Int):RD K H (.int i) (.int i)
 | str (x:Str):RD K H (.str x) (.str x)
 | list {a:aa}{xs:List V}{ds:List D}:l5 K H a xs->RDs K H xs ds->RD K H (.ref a) (.list ds)
 | tuple {a:aa}{xs:List V}{ds:List D}:H a=some (.tup xs)->RDs K H xs ds->RD K H (.ref a) (.tuple ds)
 | dictK {a:aa}{kvs:List (dJ×V)}{ds:List (D×D)}:H a=some (.dK kvs)->RDk K H kvs ds->RD K H (.ref a) (.dict ds)
 | dictT {a:aa}{kvs:List (List dJ×V)}{ds:List (D×D)}:H a=some (.dT kvs)->kvs≠[]->RDt K H kvs ds->RD K H (.ref a) (.dict ds)
 | dictF {a:aa}{o:Obj}{kvs:List (List dJ×V)}{ds:List (D×D)}:H a=some (.frz o (.dT kvs))->kvs≠[]->RDt K H kvs ds->RD K H (.ref a) (.dict ((.none,.none)::ds))
inductive RDs (K:a5) (H:Hp):List V->List D->Prop
 | nil:RDs K H [] []
 | cons {x:V}{xs:List V}{d:D}{ds:List D}:RD K H x d->RDs K H xs ds->RDs K H (x::xs) (d::ds)
inductive RDk (K:a5) (H:Hp):List (dJ×V)->List (D×D)->Prop
 | nil:RDk K H [] []
 | cons {k:dJ}{x:V}{xs:List (dJ×V)}{d:D}{ds:List (D×D)}:RD K H x d->RDk K H xs ds->RDk K H ((k,x)::xs) ((kD k,d)::ds)
inductive RDt (K:a5) (H:Hp):List (List dJ×V)->List (D×D)->Prop
 | nil:RDt K H [] []
 | cons {k:List dJ}{x:V}{xs:List (List dJ×V)}{d:D}{ds:List (D×D)}:RD K H x d->RDt K H xs ds->RDt K H ((k,x)::xs) ((tD k,d)::ds)
end
section
variable {K:a5}{H H':Hp}
theorem RD.same (e:cW H H') {v:V}{d:D} (h:RD K H v d):RD K H' v d:=RD.rec (motive_1:=fun v d _=>RD K H' v d) (motive_2:=fun v d _=>RDs K H' v d) (motive_3:=fun v d _=>RDk K H' v d) (motive_4:=fun v d _=>RDt K H' v d) .none .bool .int .str (fun h _ r=>.list (e.seq h) r) (fun h _ r=>.tuple (e _ _ h) r) (fun h _ r=>.dictK (e _ _ h) r) (fun h n _ r=>.dictT (e _ _ h) n r) (fun h n _ r=>.dictF (e _ _ h) n r) .nil (fun _ _ a b=>.cons a b) .nil (fun _ _ a b=>.cons a b) .nil (fun _ _ a b=>.cons a b) h
theorem RDs.same (e:cW H H') {v:List V}{d:List D} (h:RDs K H v d):RDs K H' v d:=RDs.rec (motive_1:=fun v d _=>RD K H' v d) (motive_2:=fun v d _=>RDs K H' v d) (motive_3:=fun v d _=>RDk K H' v d) (motive_4:=fun v d _=>RDt K H' v d) .none .bool .int .str (fun h _ r=>.list (e.seq h) r) (fun h _ r=>.tuple (e _ _ h) r) (fun h _ r=>.dictK (e _ _ h) r) (fun h n _ r=>.dictT (e _ _ h) n r) (fun h n _ r=>.dictF (e _ _ h) n r) .nil (fun _ _ a b=>.cons a b) .nil (fun _ _ a b=>.cons a b) .nil (fun _ _ a b=>.cons a b) h
theorem RDk.same (e:cW H H') {v:List (dJ×V)}{d:List (D×D)} (h:RDk K H v d):RDk K H' v d:=RDk.rec (motive_1:=fun v d _=>RD K H' v d) (motive_2:=fun v d _=>RDs K H' v d) (motive_3:=fun v d _=>RDk K H' v d) (motive_4:=fun v d _=>RDt K H' v d) .none .bool .int .str (fun h _ r=>.list (e.seq h) r) (fun h _ r=>.tuple (e _ _ h) r) (fun h _ r=>.dictK (e _ _ h) r) (fun h n _ r=>.dictT (e _ _ h) n r) (fun h n _ r=>.dictF (e _ _ h) n r) .nil (fun _ _ a b=>.cons a b) .nil (fun _ _ a b=>.cons a b) .nil (fun _ _ a b=>.cons a b) h
theorem RDt.same (e:cW H H') {v:List (List dJ×V)}{d:List (D×D)} (h:RDt K H v d):RDt K H' v d:=RDt.rec (motive_1:=fun v d _=>RD K H' v d) (motive_2:=fun v d _=>RDs K H' v d) (motive_3:=fun v d _=>RDk K H' v d) (motive_4:=fun v d _=>RDt K H' v d) .none .bool .int .str (fun h _ r=>.list (e.seq h) r) (fun h _ r=>.tuple (e _ _ h) r) (fun h _ r=>.dictK (e _ _ h) r) (fun h n _ r=>.dictT (e _ _ h) n r) (fun h n _ r=>.dictF (e _ _ h) n r) .nil (fun _ _ a b=>.cons a b) .nil (fun _ _ a b=>.cons a b) .nil (fun _ _ a b=>.cons a b) h
mutual
def pB:D->Bool
 | .dict _=>false
 | .list xs=>noDs xs
 | .tuple xs=>noDs xs
 | _=>true
def noDs:List D->Bool
 | []=>true
 | x::r=>pB x && noDs r
end
theorem QK {a b:Bool} (h:(a && b)=true):a=true:=(Bool.and_eq_true_iff.mp h).1
theorem QL {a b:Bool} (h:(a && b)=true):b=true:=(Bool.and_eq_true_iff.mp h).2
theorem RD.rep {v:V}{d:D} (h:RD K H v d):pB d=true->Ds K H v d:=RD.rec (motive_1:=fun v d _=>pB d=true->Ds K H v d) (motive_2:=fun v d _=>noDs d=true->Reps K H v d) (motive_3:=fun _ _ _=>True) (motive_4:=fun _ _ _=>True) (fun _=>.none) (fun b _=>.bool b) (fun i _=>.int i) (fun x _=>.str x) (fun h _ r e=>.list h (r e)) (fun h _ r e=>.tuple (.of h) (r e)) (fun _ _ _ e=>jK e) (fun _ _ _ _ e=>jK e) (fun _ _ _ _ e=>jK e) (fun _=>.nil) (fun _ _ a b e=>.cons (a (QK e)) (b (QL e))) trivial (fun _ _ _ _=>trivial) trivial (fun _ _ _ _=>trivial) h
theorem RDs.length {vs:List V}:∀ {ds:List D},RDs K H vs ds->vs.length=ds.length:=by
 induction vs with
 | nil=>intro ds h;cases h;rfl
 | cons x r ih=>intro ds h;cases h with | cons a b=>exact congrArg (· + 1) (ih b)
theorem RDs.get {vs:List V}:∀ {ds:List D}{i:Nat}{v:V},RDs K H vs ds->vs[i]?=some v->∃ d,ds[i]?=some d/\RD K H v d:=by
 induction vs with
 | nil=>intro ds i v _ e;cases e
 | cons x r ih =>
  intro ds i v h e
  cases h with
  | cons a b =>
   cases i with
   | zero=>cases e;exact ⟨_,rfl,a⟩
   | succ i=>have q:=ih (i:=i) b e;exact q
theorem RDs.get' {vs:List V}:∀ {ds:List D}{i:Nat}{d:D},RDs K H vs ds->ds[i]?=some d->∃ v,vs[i]?=some v/\RD K H v d:=by
 induction vs with
 | nil=>intro ds i v h e;cases h;cases e
 | cons x r ih =>
  intro ds i v h e
  cases h with
  | cons a b =>
   cases i with
   | zero=>cases e;exact ⟨_,rfl,a⟩
   | succ i=>have q:=ih (i:=i) b e;exact q
theorem RDs.append {vs ws:List V}{es:List D}:∀ {ds:List D},RDs K H vs ds->RDs K H ws es->RDs K H (vs++ws) (ds++es):=by
 induction vs with
 | nil=>intro ds h s;cases h;exact s
 | cons x r ih=>intro ds h s;cases h with | cons a b=>exact .cons a (ih b s)
theorem RDs.drop {vs:List V}:∀ {ds:List D} (n:Nat),RDs K H vs ds->RDs K H (vs.drop n) (ds.drop n):=by
 induction vs with
 | nil=>intro ds n h;cases h;cases n<;>exact .nil
 | cons x r ih =>
  intro ds n h
  cases n with
  | zero=>exact h
  | succ n=>cases h with | cons a b=>exact ih n b
theorem RDs.take {vs:List V}:∀ {ds:List D} (n:Nat),RDs K H vs ds->RDs K H (vs.take n) (ds.take n):=by
 induction vs with
 | nil=>intro ds n h;cases h;cases n<;>exact .nil
 | cons x r ih =>
  intro ds n h
  cases n with
  | zero=>exact .nil
  | succ n=>cases h with | cons a b=>exact .cons a (ih n b)
theorem we:∀ (ss:List Str),RDs K H (ss.map V.str) (ss.map ap)
 | []=>.nil
 | x::r=>.cons (.str x) (we r)
theorem RD.str_inv {v:V}{x:Str} (h:RD K H v (.str x)):v=.str x:=by cases h;rfl
theorem RD.bool_inv {v:V}{x:Bool} (h:RD K H v (.bool x)):v=.bl x:=by cases h;rfl
theorem RD.int_inv {v:V}{x:Int} (h:RD K H v (.int x)):v=.int x:=by cases h;rfl
theorem zG {α:Type}{c:α->D}{k:α->V} (hc:∀ {v x},RD K H v (c x)->v=k x) {ss:List α}:∀ {vs:List V},RDs K H vs (ss.map c)->vs=ss.map k:=by
 induction ss with
 | nil=>intro vs h;cases h;rfl
 | cons x r ih=>intro vs h;cases h with | cons a b=>rw [hc a,ih b];rfl
theorem mX {ss:List Str}{vs:List V}:RDs K H vs (ss.map ap)->vs=ss.map V.str:=zG RD.str_inv
theorem xz {ss:List Bool}{vs:List V}:RDs K H vs (ss.map cP)->vs=ss.map V.bl:=zG RD.bool_inv
theorem zH {ss:List Int}{vs:List V}:RDs K H vs (ss.map aZ)->vs=ss.map V.int:=zG RD.int_inv
end
def nt:HO->Bool
 | .tup _=>false
 | _=>true
structure cx (H Hs H' Hs':Hp):Prop where
 all:cW H H'
 sh:cW Hs Hs'
 sub:cW Hs' H'
 out:∀ a o,H a=some o->nt o=true->Hs a=none->Hs' a=none
theorem cx.refl {H Hs:Hp} (h:cW Hs H):cx H Hs H Hs:=⟨.refl _,.refl _,h,fun _ _ _ _ e=>e⟩
theorem cx.trans {H Hs H1 Hs1 H2 Hs2:Hp} (a:cx H Hs H1 Hs1) (b:cx H1 Hs1 H2 Hs2):cx H Hs H2 Hs2 :=
 ⟨a.all.trans b.all,a.sh.trans b.sh,b.sub,fun c o e t n=>b.out c o (a.all c o e) t (a.out c o e t n)⟩
theorem cx.new {H Hs:Hp}{p:aa}{o:HO} (h:cW Hs H) (n:H p=none):cx H Hs (upd H p o) (upd Hs p o):=by
 have n':Hs p=none:=h.free n
 refine ⟨iq n,iq n',fun b u e=>?_,fun a u e t z=>?_⟩
 ·by_cases hb:b=p
  ·subst hb;rw [aX] at e ⊢;exact e
  ·rw [aQ hb] at e ⊢;exact h b u e
 ·rw [aQ (aW e n)];exact z
theorem cx.mine {H Hs:Hp}{p:aa}{o:HO} (h:cW Hs H) (n:H p=none):cx H Hs (upd H p o) Hs:=by
 refine ⟨iq n,.refl _,fun b u e=>?_,fun a u e t z=>z⟩
 have e':=h b u e
 rw [aQ (aW e' n)];exact e'
inductive mY (K:a5) (Hs:Hp):HO->D->Prop
 | lst {vs:List V}{ds:List D}:RDs K Hs vs ds->mY K Hs (.lst vs) (.list ds)
 | dK {kvs:List (dJ×V)}{ds:List (D×D)}:RDk K Hs kvs ds->mY K Hs (.dK kvs) (.dict ds)
 | dT {kvs:List (List dJ×V)}{ds:List (D×D)}:kvs≠[]->RDt K Hs kvs ds->mY K Hs (.dT kvs) (.dict ds)
 | dF {o:Obj}{kvs:List (List dJ×V)}{ds:List (D×D)}:kvs≠[]->RDt K Hs kvs ds->mY K Hs (.frz o (.dT kvs)) (.dict ((.none,.none)::ds))
theorem mY.same {K:a5}{Hs Hs':Hp}{o:HO}{d:D} (e:cW Hs Hs') (h:mY K Hs o d):mY K Hs' o d:=by
 cases h with
 | lst r=>exact .lst (r.same e)
 | dK r=>exact .dK (r.same e)
 | dT n r=>exact .dT n (r.same e)
 | dF n r=>exact .dF n (r.same e)
theorem mY.nt {K:a5}{Hs:Hp}{o:HO}{d:D} (h:mY K Hs o d):J.nt o=true:=by cases h<;>rfl
theorem mY.share {K:a5}{Hs:Hp}{o:HO}{d:D}{a:aa} (n:Hs a=none) (h:mY K Hs o d):RD K (upd Hs a o) (.ref a) d:=by
 have e:cW Hs (upd Hs a o):=iq n
 cases h with
 | lst r=>exact .list (.of aX) (r.same e)
 | dK r=>exact .dictK aX (r.same e)
 | dT n r=>exact .dictT aX n (r.same e)
 | dF n r=>exact .dictF aX n (r.same e)
inductive Sl where
 | no
 | shr (d:D)
 | own (d:D)
 | lck (d:D)
 | ow2 (dss:List (List D))
abbrev aq:=List Sl
inductive u3 (K:a5) (H Hs:Hp):List aa->List (List D)->Prop
 | nil:u3 K H Hs [] []
 | cons {a:aa}{as:List aa}{vs:List V}{ds:List D}{dss:List (List D)}:H a=some (.lst vs)->RDs K Hs vs ds->u3 K H Hs as dss->u3 K H Hs (a::as) (ds::dss)
theorem u3.step {K:a5}{H Hs H' Hs':Hp} (e:cW H H') (e':cW Hs Hs') {as:List aa}{dss:List (List D)} (h:u3 K H Hs as dss):u3 K H' Hs' as dss:=by
 induction h with
 | nil=>exact .nil
 | cons h r t ih=>exact .cons (e _ _ h) (r.same e') ih
theorem u3.upd {K:a5}{H Hs:Hp}{b:aa}{o:HO}{as:List aa}{dss:List (List D)} (n:b∉as) (h:u3 K H Hs as dss):u3 K (upd H b o) Hs as dss:=by
 induction h with
 | nil=>exact .nil
 | cons h r t ih=>exact .cons (by rw [aQ (fun z=>n (by rw [<- z];exact al))];exact h) r (ih fun z=>n (ai _ z))
theorem u3.there {K:a5}{H Hs:Hp}{b:aa}{as:List aa}{dss:List (List D)} (h:u3 K H Hs as dss) (hb:b∈as):∃ o,H b=some o/\nt o=true:=by
 induction h with
 | nil=>cases hb
 | cons h r t ih =>
  rcases List.mem_cons.mp hb with e | hb
  ·exact ⟨_,e ▸ h,rfl⟩
  ·exact ih hb
structure O2 (K:a5) (H0 H Hs:Hp) (ρ:aq) (σ:St) (i:Nat) (dss:List (List D)) (a:aa) (as:List aa):Prop where
 at_:σ[i]?=some (some (V.ref a))
 ob:H a=some (.lst (as.map V.ref))
 nd:(a::as).Nodup
 out:∀ b∈a::as,Hs b=none/\H0 b=none
 dj:∀ b∈a::as,∀ (j:Nat) (e:D),ρ[j]?=some (Sl.own e)->σ[j]?≠some (some (V.ref b))
 inn:u3 K H Hs as dss
structure Fr (K:a5) (H0 Hs0:Hp) (la:Nat->Option aa) (ρ:aq) (σ:St) (H Hs:Hp):Prop where
 st:cx H0 Hs0 H Hs
 len:ρ.length=σ.length
 sh:∀ (i:Nat) (d:D),ρ[i]?=some (Sl.shr d)->∃ v,σ[i]?=some (some v)/\RD K Hs v d
 ow:∀ (i:Nat) (d:D),ρ[i]?=some (Sl.own d)->∃ a o,σ[i]?=some (some (V.ref a))/\H a=some o/\Hs a=none/\H0 a=none/\mY K Hs o d
 lk:∀ (i:Nat) (d:D),ρ[i]?=some (Sl.lck d)->∃ a o,σ[i]?=some (some (V.ref a))/\la i=some a/\H a=some o/\Hs a=none/\H0 a=some o/\mY K Hs o d
 dj:∀ (i j:Nat) (d e:D) (a:aa),ρ[i]?=some (Sl.own d)->ρ[j]?=some (Sl.own e)->σ[i]?=some (some (V.ref a))->σ[j]?=some (some (V.ref a))->i=j
 lh:∀ (i:Nat) (a:aa),la i=some a->∃ o,H0 a=some o
 o2:∀ (i:Nat) (dss:List (List D)),ρ[i]?=some (Sl.ow2 dss)->∃ a as,O2 K H0 H Hs ρ σ i dss a as
 u2:∀ (i j:Nat) (d e:List (List D)),ρ[i]?=some (Sl.ow2 d)->ρ[j]?=some (Sl.ow2 e)->i=j
theorem Fr.step {K:a5}{H0 Hs0 H Hs H' Hs':Hp}{la:Nat->Option aa}{ρ:aq}{σ:St} (f:Fr K H0 Hs0 la ρ σ H Hs) (s:cx H Hs H' Hs'):Fr K H0 Hs0 la ρ σ H' Hs':=by
 refine ⟨f.st.trans s,f.len,fun i d e=>?_,fun i d e=>?_,fun i d e=>?_,f.dj,f.lh,fun i dss e=>?_,f.u2⟩
 ·obtain ⟨v,h1,h2⟩:=f.sh i d e
  exact ⟨v,h1,h2.same s.sh⟩
 ·obtain ⟨a,o,h1,h2,h3,h4,h5⟩:=f.ow i d e
  exact ⟨a,o,h1,s.all _ _ h2,s.out _ _ h2 h5.nt h3,h4,h5.same s.sh⟩
 ·obtain ⟨a,o,h1,h2,h3,h4,h5,h6⟩:=f.lk i d e
  exact ⟨a,o,h1,h2,s.all _ _ h3,s.out _ _ h3 h6.nt h4,h5,h6.same s.sh⟩
 ·obtain ⟨a,as,h⟩:=f.o2 i dss e
  refine ⟨a,as,h.at_,s.all _ _ h.ob,h.nd,fun b hb=>⟨?_,(h.out b hb).2⟩,h.dj,h.inn.step s.all s.sh⟩
  have there:∃ o,H b=some o/\nt o=true:=by
   rcases List.mem_cons.mp hb with rfl | hb
   ·exact ⟨_,h.ob,rfl⟩
   ·exact h.inn.there hb
  obtain ⟨o,ho,hn⟩:=there
  exact s.out b o ho hn (h.out b (by assumption)).1
inductive QM (K:a5) (H Hs:Hp) (v:V) (d:D):Prop
 | mk (a:aa) (o:HO) (h0:v=.ref a) (h1:H a=some o) (h2:Hs a=none) (h3:mY K Hs o d):QM K H Hs v d
def RB (K:a5) (H Hs:Hp) (v:V) (d:D):Prop:=RD K Hs v d\/QM K H Hs v d
theorem RB.step {K:a5}{H Hs H' Hs':Hp}{v:V}{d:D} (h:RB K H Hs v d) (s:cx H Hs H' Hs'):RB K H' Hs' v d:=by
 rcases h with h | ⟨a,o,h1,h2,h3,h4⟩
 ·exact .inl (h.same s.sh)
 ·exact .inr ⟨a,o,h1,s.all _ _ h2,s.out _ _ h2 h4.nt h3,h4.same s.sh⟩
theorem RB.full {K:a5}{H Hs:Hp}{v:V}{d:D} (sub:cW Hs H) (h:RB K H Hs v d):RD K H v d:=by
 rcases h with h | ⟨a,o,rfl,h2,h3,h4⟩
 ·exact h.same sub
 ·have e:cW (upd Hs a o) H:=fun b u q=>by
   by_cases hb:b=a
   ·subst hb;rw [aX] at q;cases q;exact h2
   ·rw [aQ hb] at q;exact sub b u q
  exact (h4.share h3).same e
theorem RB.list {K:a5}{H Hs:Hp}{v:V}{ds:List D} (sub:cW Hs H) (h:RB K H Hs v (.list ds)):∃ a vs,v=.ref a/\l5 K H a vs/\RDs K Hs vs ds:=by
 rcases h with h | ⟨a,o,rfl,h2,h3,h4⟩
 ·cases h with | list q r=>exact ⟨_,_,rfl,sub.seq q,r⟩
 ·cases h4 with | lst r=>exact ⟨a,_,rfl,.of h2,r⟩
theorem RB.tuple {K:a5}{H Hs:Hp}{v:V}{ds:List D} (sub:cW Hs H) (h:RB K H Hs v (.tuple ds)):∃ a vs,v=.ref a/\jN K H a vs/\RDs K Hs vs ds/\Hs a=some (.tup vs):=by
 rcases h with h | ⟨a,o,rfl,h2,h3,h4⟩
 ·cases h with | tuple q r=>exact ⟨_,_,rfl,.of (sub _ _ q),r,q⟩
 ·cases h4
theorem RB.str {K:a5}{H Hs:Hp}{v:V}{x:Str} (h:RB K H Hs v (.str x)):v=.str x:=by
 rcases h with h | ⟨a,o,rfl,h2,h3,h4⟩
 ·exact h.str_inv
 ·cases h4
theorem RB.int {K:a5}{H Hs:Hp}{v:V}{i:Int} (h:RB K H Hs v (.int i)):v=.int i:=by
 rcases h with h | ⟨a,o,rfl,h2,h3,h4⟩
 ·exact h.int_inv
 ·cases h4
theorem RB.non {K:a5}{H Hs:Hp}{v:V} (h:RB K H Hs v .none):v=.non:=by
 rcases h with h | ⟨a,o,rfl,h2,h3,h4⟩
 ·cases h;rfl
 ·cases h4
def XW (K:a5) (cls:Str->aa) (E:XK) (c:Str) (n:Option D) (H Hs:Hp):Prop:=match n with
 | none=>E (.ref (cls c)) none H
 | some d=>∀ dx v,H dx=some (.xd [("number",v)])->RD K Hs v d->E (.ref (cls c)) (some dx) H
def Fin {α:Type} (K:a5) (cls:Str->aa) (E:XK) (H Hs:Hp) (r:R α) (q:α->Prop):Prop:=match r with
 | .ok d=>q d
 | .ex c n=>∀ H' Hs',cx H Hs H' Hs'->XW K cls E c n H' Hs'
 | .no=>False
inductive TK (K:a5) (cls:Str->aa) (E:XK) (ρ:aq) (r:R D) (σ:St) (H:Hp) (Q:VK):Prop
 | mk (H0 Hs0:Hp) (la:Nat->Option aa) (Hs:Hp) (f:Fr K H0 Hs0 la ρ σ H Hs) (q:Fin K cls E H Hs r fun d=>∀ v H' Hs',cx H Hs H' Hs'->RD K Hs' v d->Q v H'):TK K cls E ρ r σ H Q
def TR (K:a5) (cls:Str->aa) (E:XK) (ρ:aq) (r:R D):TE:=TK K cls E ρ r
inductive TL (K:a5) (cls:Str->aa) (E:XK) (ρ:aq) (r:R D) (σ:St) (H:Hp) (Q:VK):Prop
 | mk (H0 Hs0:Hp) (la:Nat->Option aa) (Hs:Hp) (f:Fr K H0 Hs0 la ρ σ H Hs) (q:Fin K cls E H Hs r fun d=>∀ v H' Hs',cx H Hs H' Hs'->RB K H' Hs' v d->Q v H'):TL K cls E ρ r σ H Q
def TB (K:a5) (cls:Str->aa) (E:XK) (ρ:aq) (r:R D):TE:=TL K cls E ρ r
inductive QN (K:a5) (cls:Str->aa) (E:XK) (ρ:aq) (r:R Bool) (σ:St) (H:Hp) (Q:Bool->Hp->Prop):Prop
 | mk (H0 Hs0:Hp) (la:Nat->Option aa) (Hs:Hp) (f:Fr K H0 Hs0 la ρ σ H Hs) (q:Fin K cls E H Hs r fun b=>∀ H' Hs',cx H Hs H' Hs'->Q b H'):QN K cls E ρ r σ H Q
def Hz (K:a5) (cls:Str->aa) (E:XK) (ρ:aq) (r:R Bool):TT:=QN K cls E ρ r
inductive Mn (K:a5) (H Hs:Hp):List V->List D->Prop
 | nil:Mn K H Hs [] []
 | cons {x:V}{xs:List V}{d:D}{ds:List D}:RB K H Hs x d->Mn K H Hs xs ds->Mn K H Hs (x::xs) (d::ds)
inductive QO (K:a5) (cls:Str->aa) (E:XK) (ρ:aq) (r:R (List D)) (σ:St) (H:Hp) (Q:List V->Hp->Prop):Prop
 | mk (H0 Hs0:Hp) (la:Nat->Option aa) (Hs:Hp) (f:Fr K H0 Hs0 la ρ σ H Hs) (q:Fin K cls E H Hs r fun d=>∀ v H' Hs',cx H Hs H' Hs'->RDs K Hs' v d->Q v H'):QO K cls E ρ r σ H Q
def QP (K:a5) (cls:Str->aa) (E:XK) (ρ:aq) (r:R (List D)):TA:=QO K cls E ρ r
inductive QQ (K:a5) (cls:Str->aa) (E:XK) (ρ:aq) (r:R (List D)) (σ:St) (H:Hp) (Q:List V->Hp->Prop):Prop
 | mk (H0 Hs0:Hp) (la:Nat->Option aa) (Hs:Hp) (f:Fr K H0 Hs0 la ρ σ H Hs) (q:Fin K cls E H Hs r fun d=>∀ v H' Hs',cx H Hs H' Hs'->Mn K H' Hs' v d->Q v H'):QQ K cls E ρ r σ H Q
def S9 (K:a5) (cls:Str->aa) (E:XK) (ρ:aq) (r:R (List D)):TA:=QQ K cls E ρ r
structure C where
 X:Cx
 cls:Str->aa
 E:XK
structure JE (c:C) (e:aO) (g:aq->R D):Prop where of ::
 run:∀ ρ,PE c.X e (TR c.X.K c.cls c.E ρ (g ρ))
instance {c:C}{e:aO}{g:aq->R D}:CoeFun (JE c e g) (fun _=>∀ ρ,PE c.X e (TR c.X.K c.cls c.E ρ (g ρ))):=⟨JE.run⟩
structure JB (c:C) (e:aO) (g:aq->R D):Prop where of ::
 run:∀ ρ,PE c.X e (TB c.X.K c.cls c.E ρ (g ρ))
instance {c:C}{e:aO}{g:aq->R D}:CoeFun (JB c e g) (fun _=>∀ ρ,PE c.X e (TB c.X.K c.cls c.E ρ (g ρ))):=⟨JB.run⟩
structure JT (c:C) (e:aO) (g:aq->R Bool):Prop where of ::
 run:∀ ρ,PT c.X e (Hz c.X.K c.cls c.E ρ (g ρ))
instance {c:C}{e:aO}{g:aq->R Bool}:CoeFun (JT c e g) (fun _=>∀ ρ,PT c.X e (Hz c.X.K c.cls c.E ρ (g ρ))):=⟨JT.run⟩
structure JW (c:C) (e:aO) (g:aq->R Bool):Prop where of ::
 run:∀ ρ,PW c.X e (Hz c.X.K c.cls c.E ρ (g ρ))
instance {c:C}{e:aO}{g:aq->R Bool}:CoeFun (JW c e g) (fun _=>∀ ρ,PW c.X e (Hz c.X.K c.cls c.E ρ (g ρ))):=⟨JW.run⟩
structure AF (c:C) (es:List aO) (g:aq->R (List D)):Prop where of ::
 run:∀ ρ,PA c.X es (QP c.X.K c.cls c.E ρ (g ρ))
instance {c:C}{es:List aO}{g:aq->R (List D)}:CoeFun (AF c es g) (fun _=>∀ ρ,PA c.X es (QP c.X.K c.cls c.E ρ (g ρ))):=⟨AF.run⟩
structure NU (c:C) (es:List aO) (g:aq->R (List D)):Prop where of ::
 run:∀ ρ,PA c.X es (S9 c.X.K c.cls c.E ρ (g ρ))
instance {c:C}{es:List aO}{g:aq->R (List D)}:CoeFun (NU c es g) (fun _=>∀ ρ,PA c.X es (S9 c.X.K c.cls c.E ρ (g ρ))):=⟨NU.run⟩
section
variable {c:C}{e a b:aO}{g ga gb:aq->R D}{pos:Pos}
theorem oG {X:Cx}{e:aO}{t t':TE} (h:PE X e t) (m:∀ σ H Q,t' σ H Q->t σ H Q):PE X e t':=fun pins s σ H Q I q=>h pins s σ H Q I (m σ H Q q)
theorem Sa {X:Cx}{e:aO}{t t':TT} (h:PT X e t) (m:∀ σ H Q,t' σ H Q->t σ H Q):PT X e t':=fun pins s σ H Q I q=>h pins s σ H Q I (m σ H Q q)
theorem TM {X:Cx}{e:aO}{t t':TT} (h:PW X e t) (m:∀ σ H Q,t' σ H Q->t σ H Q):PW X e t':=fun wh pins s σ H Q I q=>h wh pins s σ H Q I (m σ H Q q)
theorem Pi {X:Cx}{e:List aO}{t t':TA} (h:PA X e t) (m:∀ σ H Q,t' σ H Q->t σ H Q):PA X e t':=fun pos pins s σ H Q I q=>h pos pins s σ H Q I (m σ H Q q)
theorem v4 {X:Cx}{e:cw}{t t':TS} (h:PS X e t) (m:∀ D σ H,t' D σ H->t D σ H):PS X e t':=fun pins s σ H Q I q=>h pins s σ H Q I (m Q σ H q)
theorem T9 {X:Cx}{e:List cw}{t t':TS} (h:yc X e t) (m:∀ D σ H,t' D σ H->t D σ H):yc X e t':=fun pins s σ H Q I q=>h pins s σ H Q I (m Q σ H q)
theorem JE.bor (h:JE c e g):JB c e g:=.of fun ρ=>oG (h ρ) fun σ H Q ⟨H0,Hs0,la,Hs,f,q⟩=>⟨H0,Hs0,la,Hs,f,by
 cases hr:g ρ with
 | ok d=>rw [hr] at q;exact fun v H' Hs' s r=>q v H' Hs' s (.inl r)
 | ex c n=>rw [hr] at q;exact q
 | no=>rw [hr] at q;exact q⟩
theorem one {K:a5}{cls:Str->aa}{E:XK}{ρ:aq}{r:R D}{β:Type}{k:D->R β}{σ:St}{H:Hp}{H0 Hs0 Hs:Hp}{la:Nat->Option aa}{Q:V->Hp->Prop}{q:β->Prop} (f:Fr K H0 Hs0 la ρ σ H Hs)
  (h:Fin K cls E H Hs (r.bind k) q) (m:∀ d v H' Hs',r=.ok d->cx H Hs H' Hs'->Fr K H0 Hs0 la ρ σ H' Hs'->RB K H' Hs' v d->Q v H'):TB K cls E ρ r σ H Q:=by
 refine ⟨H0,Hs0,la,Hs,f,?_⟩
 cases r with
 | ok d=>exact fun v H' Hs' s r=>m d v H' Hs' rfl s (f.step s) r
 | ex c n=>exact h
 | no=>exact h
theorem xA {K:a5}{cls:Str->aa}{E:XK}{ρ:aq}{r:R D}{β:Type}{k:D->R β}{σ:St}{H:Hp}{H0 Hs0 Hs:Hp}{la:Nat->Option aa}{Q:V->Hp->Prop}{q:β->Prop} (f:Fr K H0 Hs0 la ρ σ H Hs)
  (h:Fin K cls E H Hs (r.bind k) q) (m:∀ d v H' Hs',r=.ok d->cx H Hs H' Hs'->Fr K H0 Hs0 la ρ σ H' Hs'->RD K Hs' v d->Q v H'):TR K cls E ρ r σ H Q:=by
 refine ⟨H0,Hs0,la,Hs,f,?_⟩
 cases r with
 | ok d=>exact fun v H' Hs' s r=>m d v H' Hs' rfl s (f.step s) r
 | ex c n=>exact h
 | no=>exact h
theorem I_ {K:a5}{cls:Str->aa}{E:XK}{ρ:aq}{r:R Bool}{β:Type}{k:Bool->R β}{σ:St}{H:Hp}{H0 Hs0 Hs:Hp}{la:Nat->Option aa}{Q:Bool->Hp->Prop}{q:β->Prop} (f:Fr K H0 Hs0 la ρ σ H Hs)
  (h:Fin K cls E H Hs (r.bind k) q) (m:∀ d H' Hs',r=.ok d->cx H Hs H' Hs'->Fr K H0 Hs0 la ρ σ H' Hs'->Q d H'):Hz K cls E ρ r σ H Q:=by
 refine ⟨H0,Hs0,la,Hs,f,?_⟩
 cases r with
 | ok d=>exact fun H' Hs' s=>m d H' Hs' rfl s (f.step s)
 | ex c n=>exact h
 | no=>exact h
theorem xB {K:a5}{cls:Str->aa}{E:XK}{ρ:aq}{r:R (List D)}{β:Type}{k:List D->R β}{σ:St}{H:Hp}{H0 Hs0 Hs:Hp}{la:Nat->Option aa}{Q:List V->Hp->Prop}{q:β->Prop} (f:Fr K H0 Hs0 la ρ σ H Hs)
  (h:Fin K cls E H Hs (r.bind k) q) (m:∀ d v H' Hs',r=.ok d->cx H Hs H' Hs'->Fr K H0 Hs0 la ρ σ H' Hs'->RDs K Hs' v d->Q v H'):QP K cls E ρ r σ H Q:=by
 refine ⟨H0,Hs0,la,Hs,f,?_⟩
 cases r with
 | ok d=>exact fun v H' Hs' s r=>m d v H' Hs' rfl s (f.step s) r
 | ex c n=>exact h
 | no=>exact h
theorem J0 {K:a5}{cls:Str->aa}{E:XK}{ρ:aq}{r:R (List D)}{β:Type}{k:List D->R β}{σ:St}{H:Hp}{H0 Hs0 Hs:Hp}{la:Nat->Option aa}{Q:List V->Hp->Prop}{q:β->Prop} (f:Fr K H0 Hs0 la ρ σ H Hs)
  (h:Fin K cls E H Hs (r.bind k) q) (m:∀ d v H' Hs',r=.ok d->cx H Hs H' Hs'->Fr K H0 Hs0 la ρ σ H' Hs'->Mn K H' Hs' v d->Q v H'):S9 K cls E ρ r σ H Q:=by
 refine ⟨H0,Hs0,la,Hs,f,?_⟩
 cases r with
 | ok d=>exact fun v H' Hs' s r=>m d v H' Hs' rfl s (f.step s) r
 | ex c n=>exact h
 | no=>exact h
theorem Fin.on {α:Type}{K:a5}{cls:Str->aa}{E:XK}{H Hs H' Hs':Hp}{r:R α}{q q':α->Prop} (h:Fin K cls E H Hs r q) (s:cx H Hs H' Hs') (m:∀ a,q a->q' a):Fin K cls E H' Hs' r q':=by
 cases r with
 | ok a=>exact m a h
 | ex c n=>exact fun H2 Hs2 s2=>h H2 Hs2 (s.trans s2)
 | no=>exact h
end
end
section
def Gp (ρ:aq) (i:Nat):R D:=match ρ[i]? with
 | some (Sl.shr d)=>.ok d
 | _=>.no
def Bb (ρ:aq) (i:Nat):R D:=match ρ[i]? with
 | some (Sl.shr d)=>.ok d
 | some (Sl.own d)=>.ok d
 | some (Sl.lck d)=>.ok d
 | _=>.no
section
variable {c:C}{e a b:aO}{g ga gb:aq->R D}{pos:Pos}
theorem am (i:Nat) {x:Str} (hN:c.X.N[i]?=some x:=by rfl) (hv:FZ c.X.env.scope x:=by first | exact eP rfl | exact cY (eP rfl) | exact cY (cY rfl)) (hd:(x == ("__debug__" : Str))=false:=by decide)
  (hcd:(x == ("__classdict__" : Str))=false:=by decide):JE c (.Name x pos) (fun ρ=>Gp ρ i):=.of fun ρ=>oG (ko hN hv hd hcd) fun σ H Q h_0=>by
 obtain ⟨H0,Hs0,la,Hs,f,q⟩:=h_0
 cases hr:ρ[i]? with
 | none=>simp only [Gp,hr] at q;exact q.elim
 | some s =>
  cases s with
  | shr d =>
   obtain ⟨v,h1,h2⟩:=f.sh i d hr
   simp only [Gp,hr] at q
   exact ⟨v,h1,q v H Hs (.refl f.st.sub) h2⟩
  | no=>simp only [Gp,hr] at q;exact q.elim
  | own d=>simp only [Gp,hr] at q;exact q.elim
  | lck d=>simp only [Gp,hr] at q;exact q.elim
  | ow2 d=>simp only [Gp,hr] at q;exact q.elim
theorem ah (i:Nat) {x:Str} (hN:c.X.N[i]?=some x:=by rfl) (hv:FZ c.X.env.scope x:=by first | exact eP rfl | exact cY (eP rfl) | exact cY (cY rfl)) (hd:(x == ("__debug__" : Str))=false:=by decide)
  (hcd:(x == ("__classdict__" : Str))=false:=by decide):JB c (.Name x pos) (fun ρ=>Bb ρ i):=.of fun ρ=>oG (ko hN hv hd hcd) fun σ H Q h_1=>by
 obtain ⟨H0,Hs0,la,Hs,f,q⟩:=h_1
 cases hr:ρ[i]? with
 | none=>simp only [Bb,hr] at q;exact q.elim
 | some s =>
  cases s with
  | shr d =>
   obtain ⟨v,h1,h2⟩:=f.sh i d hr
   simp only [Bb,hr] at q
   exact ⟨v,h1,q v H Hs (.refl f.st.sub) (.inl h2)⟩
  | no=>simp only [Bb,hr] at q;exact q.elim
  | own d =>
   obtain ⟨a,o,h1,h2,h3,h4,h5⟩:=f.ow i d hr
   simp only [Bb,hr] at q
   exact ⟨_,h1,q _ H Hs (.refl f.st.sub) (.inr ⟨a,o,rfl,h2,h3,h5⟩)⟩
  | lck d =>
   obtain ⟨a,o,h1,h2,h3,h4,h5,h6⟩:=f.lk i d hr
   simp only [Bb,hr] at q
   exact ⟨_,h1,q _ H Hs (.refl f.st.sub) (.inr ⟨a,o,rfl,h3,h4,h6⟩)⟩
  | ow2 d=>simp only [Bb,hr] at q;exact q.elim
theorem oH {v:V}{d:D} (h:PE c.X e (tC v)) (r:∀ Hs,RD c.X.K Hs v d):JE c e (fun _=>.ok d):=.of fun ρ=>oG h fun σ H Q h_2=>by obtain ⟨H0,Hs0,la,Hs,f,q⟩:=h_2;exact q v H Hs (.refl f.st.sub) (r Hs)
theorem aA {i:Int}{j:Nat}:JE c (.Constant (.int i) j pos) (fun _=>.ok (.int i)):=oH D7 fun _=>.int i
theorem lj {i:Bool}{j:Nat}:JE c (.Constant (.bool i) j pos) (fun _=>.ok (.bool i)):=oH HU fun _=>.bool i
theorem u4 {j:Nat}:JE c (.Constant .none j pos) (fun _=>.ok .none):=oH OJ fun _=>.none
theorem m6 {i:Str}{j:Nat}:JE c (.Constant (.str i) j pos) (fun _=>.ok (.str i)):=oH HV fun _=>.str i
theorem oJ {x:Str}{i:Int} (hg:Gl c.X x) (hm:∃ t,c.X.mg x=some (.int i t)) (hd:(x == ("__debug__" : Str))=false:=by decide):JE c (.Name x pos) (fun _=>.ok (.int i)):=by
 obtain ⟨t,hm⟩:=hm
 exact oH (zg hg hm (v:=.int i) ⟨t,rfl⟩ hd) fun _=>.int i
inductive TQ (K:a5) (h:D->D->R D) (x:V) (y:V) (H:Hp) (Q:VK):Prop
 | mk (Hs dx dy:_) (h0:cW Hs H) (h1:RB K H Hs x dx) (h2:RB K H Hs y dy) (h3:∃ d,h dx dy=.ok d/\∀ v H' Hs',cx H Hs H' Hs'->RD K Hs' v d->Q v H'):TQ K h x y H Q
def rD (K:a5) (h:D->D->R D):R2:=TQ K h
def wf (X:Cx) (f:a7->a7->Sem a7) (h:D->D->R D):Prop:=o9 X f (rD X.K h)/\∀ x y c n,h x y≠.ex c n
def g2 (ga gb:aq->R D) (h:D->D->R D):aq->R D:=fun ρ=>(ga ρ).bind fun x=>(gb ρ).bind fun y=>h x y
theorem two {K:a5}{cls:Str->aa}{E:XK}{h:D->D->R D}{ρ:aq}{σ:St}{H:Hp}{Q:VK} (hx:∀ x y c n,h x y≠.ex c n) (q:TR K cls E ρ (g2 ga gb h ρ) σ H Q):Qo (rD K h) (TB K cls E ρ (ga ρ)) (TB K cls E ρ (gb ρ)) σ H Q:=by
 obtain ⟨H0,Hs0,la,Hs,f,q⟩:=q
 refine one f q fun x v H1 Hs1 e1 s1 f1 r1=>?_
 unfold g2 at q
 rw [e1,bind_ok] at q
 refine one f1 (q.on s1 (q':=fun _=>True) fun _ _=>trivial) fun y u H2 Hs2 e2 s2 f2 r2=>?_
 rw [e2,bind_ok] at q
 cases hr:h x y with
 | ok d =>
  rw [hr] at q
  exact ⟨Hs2,x,y,f2.st.sub,r1.step s2,r2,d,hr,fun w H3 Hs3 s3 r3=>q w H3 Hs3 (s1.trans (s2.trans s3)) r3⟩
 | ex c n=>exact (hx x y c n hr).elim
 | no=>rw [hr] at q;exact q.elim
theorem bB {op:Operator}{h:D->D->R D} (ho:wf c.X (gq op) h) (ha:JB c a ga) (hb:JB c b gb):JE c (.BinOp a op b pos) (g2 ga gb h):=.of fun ρ=>oG (ND ho.1 (ha ρ) (hb ρ)) fun σ H Q q=>two ho.2 q
theorem qR {op:vf}{h:D->D->R D} (ho:wf c.X (bI op) h) (ha:JB c a ga) (hb:JB c b gb) (hm:gC op b=false:=by first | exact Db _ | rfl):JE c (.Compare a [op] [b] pos) (g2 ga gb h):=.of fun ρ=>oG (LX ho.1 (ha ρ) (hb ρ) hm) fun σ H Q q=>two ho.2 q
def gU (g:aq->R D):aq->R Bool:=fun ρ=>(g ρ).bind fun d=>match d with
 | .bool b=>.ok b
 | _=>.no
theorem QR {K:a5}{cls:Str->aa}{E:XK}{ρ:aq}{σ:St}{H:Hp}{Q:Bool->Hp->Prop} (q:Hz K cls E ρ (gU g ρ) σ H Q):TR K cls E ρ (g ρ) σ H fun x H'=>∃ k,x=.bl k/\Q k H':=by
 obtain ⟨H0,Hs0,la,Hs,f,q⟩:=q
 refine xA f q fun d v H1 Hs1 e1 s1 f1 r1=>?_
 unfold gU at q
 rw [e1,bind_ok] at q
 cases r1 with
 | bool b=>exact ⟨b,rfl,q H1 Hs1 s1⟩
 | _=>exact q.elim
theorem eM {op:vf}{h:D->D->R D} (ho:wf c.X (bI op) h) (ha:JB c a ga) (hb:JB c b gb) (hm:gC op b=false:=by first | exact Db _ | rfl):JT c (.Compare a [op] [b] pos) (gU (g2 ga gb h)):=.of fun ρ=>Sa (Ez ho.1 (ha ρ) (hb ρ) hm) fun σ H Q q=>two ho.2 (QR q)
theorem fW (h:JE c e g) (he:∀ whole,yY e c.X.env whole=(do let v <- whole;CD e.pos;holding [v] (truthy v)):=by intro _;rfl):JT c e (gU g):=.of fun ρ=>Sa (HX (h ρ) he) fun σ H Q q=>QR q
def jP (g:aq->R Bool):aq->R Bool:=fun ρ=>(g ρ).bind fun b=>.ok (!b)
def Dw (g h:aq->R Bool):aq->R Bool:=fun ρ=>(g ρ).bind fun b=>if b then h ρ else .ok false
def HA (g h:aq->R Bool):aq->R Bool:=fun ρ=>(g ρ).bind fun b=>if b then .ok true else h ρ
variable {gt gu:aq->R Bool}{bA:List aO}
theorem gE (h:JT c e gt):JT c (.UnaryOp .Not e pos) (jP gt):=.of fun ρ=>Sa (HZ (h ρ)) fun σ H Q q=>by
 obtain ⟨H0,Hs0,la,Hs,f,q⟩:=q
 refine I_ f q fun d H1 Hs1 e1 s1 f1=>?_
 unfold jP at q
 rw [e1,bind_ok] at q
 exact q H1 Hs1 s1
theorem zI (h:JT c a gt):JW c (.BoolOp .And [a] pos) gt:=.of fun ρ=>LQ (h ρ)
theorem mZ (h:JT c a gt):JW c (.BoolOp .Or [a] pos) gt:=.of fun ρ=>HY (h ρ)
theorem Dy (h:JT c a gt) (h2:JW c (.BoolOp .And (b::bA) pos) gu):JW c (.BoolOp .And (a::b::bA) pos) (Dw gt gu):=.of fun ρ=>TM (OK (h ρ) (h2 ρ)) fun σ H Q q=>by
 obtain ⟨H0,Hs0,la,Hs,f,q⟩:=q
 refine I_ f q fun d H1 Hs1 e1 s1 f1=>?_
 unfold Dw at q
 rw [e1,bind_ok] at q
 cases d with
 | true=>exact Dj ⟨H0,Hs0,la,Hs1,f1,q.on s1 fun b k H2 Hs2 s2=>k H2 Hs2 (s1.trans s2)⟩
 | false=>exact zr (q H1 Hs1 s1)
theorem sx (h:JT c a gt) (h2:JW c (.BoolOp .Or (b::bA) pos) gu):JW c (.BoolOp .Or (a::b::bA) pos) (HA gt gu):=.of fun ρ=>TM (Nz (h ρ) (h2 ρ)) fun σ H Q q=>by
 obtain ⟨H0,Hs0,la,Hs,f,q⟩:=q
 refine I_ f q fun d H1 Hs1 e1 s1 f1=>?_
 unfold HA at q
 rw [e1,bind_ok] at q
 cases d with
 | false=>exact zr ⟨H0,Hs0,la,Hs1,f1,q.on s1 fun b k H2 Hs2 s2=>k H2 Hs2 (s1.trans s2)⟩
 | true=>exact Dj (q H1 Hs1 s1)
theorem JW.t (h:JW c e gt):JT c e gt:=.of fun ρ=>(h ρ).pt
def yt (g:aq->R D):aq->R D:=fun ρ=>(gU g ρ).bind fun b=>.ok (.bool (!b))
theorem Dz (h:JE c e g):JE c (.UnaryOp .Not e pos) (yt g):=.of fun ρ=>oG (ON (h ρ)) fun σ H Q q=>by
 refine QR ?_
 obtain ⟨H0,Hs0,la,Hs,f,q⟩:=q
 refine I_ f q fun d H1 Hs1 e1 s1 f1=>?_
 unfold yt at q
 rw [e1,bind_ok] at q
 exact q _ H1 Hs1 s1 (.bool _)
def uC (g h:aq->R D):aq->R D:=fun ρ=>(gU g ρ).bind fun b=>if b then h ρ else .ok (.bool false)
theorem wg {op:BoolOp} (h:JE c a g):JE c (.BoolOp op [a] pos) g:=.of fun ρ=>OL (h ρ)
theorem wj (h:JE c a ga) (h2:JE c (.BoolOp .And (b::bA) pos) gb):JE c (.BoolOp .And (a::b::bA) pos) (uC ga gb):=.of fun ρ=>oG (OM (h ρ) (h2 ρ)) fun σ H Q q=>by
 refine QR ?_
 obtain ⟨H0,Hs0,la,Hs,f,q⟩:=q
 refine I_ f q fun d H1 Hs1 e1 s1 f1=>?_
 unfold uC at q
 rw [e1,bind_ok] at q
 cases d with
 | true=>exact Dj ⟨H0,Hs0,la,Hs1,f1,q.on s1 fun b k v H2 Hs2 s2 r2=>k v H2 Hs2 (s1.trans s2) r2⟩
 | false=>exact zr (q _ H1 Hs1 s1 (.bool _))
def oK (ga gb gc:aq->R D) (h h':D->D->R D):aq->R D:=fun ρ=>(ga ρ).bind fun x=>(gb ρ).bind fun y=>(h x y).bind fun z=>match z with
 | .bool true=>(gc ρ).bind fun w=>h' y w
 | .bool false=>.ok (.bool false)
 | _=>.no
variable {es:List aO}{gs:aq->R (List D)}
def ac (g:aq->R D) (gs:aq->R (List D)):aq->R (List D):=fun ρ=>(g ρ).bind fun d=>(gs ρ).bind fun ds=>.ok (d::ds)
def aH:aq->R (List D):=fun _=>.ok []
theorem aI:AF c [] aH:=.of fun ρ=>Pi dB fun σ H Q h_3=>by obtain ⟨H0,Hs0,la,Hs,f,q⟩:=h_3;exact q [] H Hs (.refl f.st.sub) .nil
theorem bS:NU c [] aH:=.of fun ρ=>Pi dB fun σ H Q h_4=>by obtain ⟨H0,Hs0,la,Hs,f,q⟩:=h_4;exact q [] H Hs (.refl f.st.sub) .nil
theorem ae (h:JE c e g) (hr:AF c es gs) (hs:ak (e::es) c.X.env=(false,cp e c.X.env)::ak es c.X.env:=by rfl):AF c (e::es) (ac g gs):=.of fun ρ=>Pi (bK (h ρ) (hr ρ) hs) fun σ H Q h_5=>by
 obtain ⟨H0,Hs0,la,Hs,f,q⟩:=h_5
 refine xA f q fun d v H1 Hs1 e1 s1 f1 r1=>?_
 unfold ac at q
 rw [e1,bind_ok] at q
 refine xB f1 (q.on s1 (q':=fun _=>True) fun _ _=>trivial) fun ds vs H2 Hs2 e2 s2 f2 r2=>?_
 rw [e2,bind_ok] at q
 exact q _ H2 Hs2 (s1.trans s2) (.cons (r1.same s2.sh) r2)
theorem bv (h:JB c e g) (hr:NU c es gs) (hs:ak (e::es) c.X.env=(false,cp e c.X.env)::ak es c.X.env:=by rfl):NU c (e::es) (ac g gs):=.of fun ρ=>Pi (bK (h ρ) (hr ρ) hs) fun σ H Q h_6=>by
 obtain ⟨H0,Hs0,la,Hs,f,q⟩:=h_6
 refine one f q fun d v H1 Hs1 e1 s1 f1 r1=>?_
 unfold ac at q
 rw [e1,bind_ok] at q
 refine J0 f1 (q.on s1 (q':=fun _=>True) fun _ _=>trivial) fun ds vs H2 Hs2 e2 s2 f2 r2=>?_
 rw [e2,bind_ok] at q
 exact q _ H2 Hs2 (s1.trans s2) (.cons (r1.step s2) r2)
def dI (gs:aq->R (List D)) (k:List D->D):aq->R D:=fun ρ=>(gs ρ).bind fun ds=>if ds.length<=1000 then .ok (k ds) else .no
theorem ku {x1} (h:AF c es gs):JE c (.Tuple es x1 pos) (dI gs .tuple):=.of fun ρ=>oG (Il (h ρ)) fun σ H Q h_7=>by
 obtain ⟨H0,Hs0,la,Hs,f,q⟩:=h_7
 refine xB f q fun ds vs H1 Hs1 e1 s1 f1 r1=>?_
 unfold dI at q
 rw [e1,bind_ok] at q
 by_cases hl:ds.length<=1000
 ·rw [if_pos hl] at q
  refine ⟨bi (bU (by rw [r1.length];exact hl)),fun p hp=>q _ _ _ (s1.trans (.new f1.st.sub hp)) (.tuple aX (r1.same (cx.new f1.st.sub hp).sh))⟩
 ·rw [if_neg hl] at q;exact q.elim
theorem fX (h:AF c es gs):JE c (.List es pos) (dI gs .list):=.of fun ρ=>oG (jO (h ρ)) fun σ H Q h_8=>by
 obtain ⟨H0,Hs0,la,Hs,f,q⟩:=h_8
 refine xB f q fun ds vs H1 Hs1 e1 s1 f1 r1=>?_
 unfold dI at q
 rw [e1,bind_ok] at q
 by_cases hl:ds.length<=1000
 ·rw [if_pos hl] at q
  refine ⟨bi (bU (by rw [r1.length];exact hl)),fun p hp=>q _ _ _ (s1.trans (.new f1.st.sub hp)) (.list (.of aX) (r1.same (cx.new f1.st.sub hp).sh))⟩
 ·rw [if_neg hl] at q;exact q.elim
end
end
end J
namespace J
open PySem PySem.Spec PyProof.Rows L2
section
section
variable {X:Cx}
def cR:D->D->R D
 | .int i,.int j=>.ok (.int (i + j))
 | .str x,.str y=>if x.length + y.length<=1000 then .ok (.str (x++y)) else .no
 | .tuple xs,.tuple ys=>if xs.length + ys.length<=1000 then .ok (.tuple (xs++ys)) else .no
 | .list xs,.list ys=>if xs.length + ys.length<=1000 then .ok (.list (xs++ys)) else .no
 | _,_=>.no
inductive J1 (K:a5) (x:V) (y:V) (H:Hp) (Q:VK):Prop
 | mk (l b xs zs:_) (h0:x=.ref l) (h1:y=.ref b) (h2:l5 K H l xs) (h3:l5 K H b zs) (h4:xs.length + zs.length<=sizeLine) (h5:∀ p,H p=none->Q (.ref p) (upd H p (.lst (xs++zs)))):J1 K x y H Q
def QS (K:a5):R2:=J1 K
theorem Mo:o9 X (gq .Add) (QS X.K):=by
 intro pins s σ H x y v u Q I rx ry h
 obtain ⟨l,b,xs,zs,rfl,rfl,h1,h2,hz,q⟩:=h
 cases rx;cases ry
 obtain ⟨its,r,⟨o,n,e,c1,c2,c3⟩,z⟩:=I.list h1
 obtain ⟨its2,r2,⟨o2,n2,e2,d1,d2,d3⟩,z2⟩:=I.list h2
 obtain ⟨k1,k2,k3,k4⟩:=o
 obtain ⟨m1,m2,m3,m4⟩:=o2
 simp only at c1 c2 c3 d1 d2 d3
 subst c1 c2 c3 d1 d2 d3
 refine xj ⟨_,e,rfl⟩ ⟨_,e2,rfl⟩ noFill_list_add seq_list_add PySem.F.slot_list_add PySem.F.entry_list_add (PySem.F.args_list_add_2 _ _) (PyProof.Rows.list_addW l b _ _ n n2 _ _ k4 m4 (by rw [aF,aF,<- r.length,<- r2.length];exact hz)) ⟨e,e2,?_⟩
 have ea:its.toArray++its2.toArray=(its++its2).toArray:=by simp
 rw [ea]
 exact ⟨.ref _,_,I.lnew (t':=s.toks) (r.append r2) (by rw [aR];omega),rfl,q _ I.fresh⟩
inductive J2 (K:a5) (x:V) (y:V) (H:Hp) (Q:VK):Prop
 | mk (a b ys:_) (h0:x=.ref a) (h1:y=.ref b) (h2:jN K H a []) (h3:jN K H b ys) (h4:Q (.ref b) H):J2 K x y H Q
def QT (K:a5):R2:=J2 K
theorem Mp:o9 X (gq .Add) (QT X.K):=by
 intro pins s σ H x y v u Q I rx ry h
 obtain ⟨a,b,ys,rfl,rfl,h1,h2,q⟩:=h
 cases rx;cases ry
 obtain ⟨its,r,⟨⟨k1,k2,k3,k4⟩,e,c1,n,c3⟩,z⟩:=I.tuple h1
 obtain ⟨its2,r2,⟨⟨m1,m2,m3,m4⟩,e2,d1,n2,d3⟩,z2⟩:=I.tuple h2
 simp only at c1 c3 d1 d3
 subst c1 c3 d1 d3
 cases r
 exact xj ⟨_,e,rfl⟩ ⟨_,e2,rfl⟩ z0 FM mT mr (lR _ _)
  (PyProof.Rows.tuple_addW0 a b _ _ n n2 _ _ k4 m4 rfl) ⟨e,e2,⟨.ref b,H,I,rfl,q⟩⟩
theorem bX:wf X (gq .Add) cR:=by
 refine ⟨fun pins s σ H x y v u Q I rv ru ⟨Hs,dx,dy,sub,rx,ry,d,hd,q⟩=>?_,fun x y c n=>?_⟩
 ·unfold cR at hd
  split at hd
  ·cases hd
   exact OV pins s σ H x y v u Q I rv ru ⟨_,_,rx.int,ry.int,q _ H Hs (.refl sub) (.int _)⟩
  ·split at hd
   ·rename_i hz
    cases hd
    exact Dd pins s σ H x y v u Q I rv ru ⟨_,_,rx.str,ry.str,bi (bU hz),q _ H Hs (.refl sub) (.str _)⟩
   ·cases hd
  ·split at hd
   ·rename_i xs ys hz
    cases hd
    obtain ⟨a,vs,rfl,qa,ra,_⟩:=rx.tuple sub
    obtain ⟨b,ws,rfl,qb,rb,_⟩:=ry.tuple sub
    have hz':vs.length + ws.length<=sizeLine:=by rw [ra.length,rb.length];exact bi (bU hz)
    have big:∀ p,H p=none->Q (.ref p) (upd H p (.tup (vs++ws))):=fun p hp=>q _ _ _ (.new sub hp) (.tuple aX ((ra.append rb).same (cx.new sub hp).sh))
    cases vs with
    | nil =>
     cases ra
     refine Mp pins s σ H _ _ v u Q I rv ru ⟨a,b,ws,rfl,rfl,qa,qb,?_⟩
     rcases ry with ry | ⟨_,_,_,_,_,ow⟩
     ·exact q _ H Hs (.refl sub) (by simpa using ry)
     ·cases ow
    | cons v0 vr =>
     refine M2 pins s σ H _ _ v u Q I rv ru ⟨a,b,_,ws,rfl,rfl,qa,qb,by simp,hz',fun e=>?_,fun _=>big⟩
     subst e
     cases rb
     rcases rx with rx | ⟨_,_,_,_,_,ow⟩
     ·exact q _ H Hs (.refl sub) (by simpa using rx)
     ·cases ow
   ·cases hd
  ·split at hd
   ·rename_i xs ys hz
    cases hd
    obtain ⟨a,vs,rfl,qa,ra⟩:=rx.list sub
    obtain ⟨b,ws,rfl,qb,rb⟩:=ry.list sub
    have hz':vs.length + ws.length<=sizeLine:=by rw [ra.length,rb.length];exact bi (bU hz)
    exact Mo pins s σ H _ _ v u Q I rv ru ⟨a,b,vs,ws,rfl,rfl,qa,qb,hz',fun p hp=>q _ _ _ (.new sub hp) (.list (.of aX) ((ra.append rb).same (cx.new sub hp).sh))⟩
   ·cases hd
  ·cases hd
 ·unfold cR
  split<;>(try split)<;>exact fun h=>by cases h
def DA (C:Int->Int->Bool) (k:Int->Int->D):D->D->R D
 | .int i,.int j=>if C i j then .ok (k i j) else .no
 | _,_=>.no
theorem DB {f:a7->a7->Sem a7}{C:Int->Int->Bool}{P:Int->Int->Prop}{k:Int->Int->D}{kv:Int->Int->V} (h:o9 X f (rI P kv)) (hC:∀ i j,C i j=true->P i j) (hk:∀ Hs i j,RD X.K Hs (kv i j) (k i j)):wf X f (DA C k):=by
 refine ⟨fun pins s σ H x y v u Q I rv ru ⟨Hs,dx,dy,sub,rx,ry,d,hd,q⟩=>?_,fun x y c n=>?_⟩
 ·unfold DA at hd
  split at hd
  ·split at hd
   ·rename_i hc
    cases hd
    exact h pins s σ H x y v u Q I rv ru ⟨_,_,rx.int,ry.int,hC _ _ hc,q _ H Hs (.refl sub) (hk _ _ _)⟩
   ·cases hd
  ·cases hd
 ·unfold DA
  split<;>(try split)<;>exact fun h=>by cases h
def yu (i j:Int):Bool:=(decide (-(2 ^ 64)<i) && decide (i<2 ^ 64)) || (decide (-(2 ^ 64)<j) && decide (j<2 ^ 64))
def v5:=DA yu fun i j=>.int (i * j)
def Gq:=DA (fun _ j=>decide (0<j)) fun i j=>.int (i % j)
def J4:=DA (fun _ j=>decide (0<j) && decide (j<1073741824)) fun i j=>.int (i / j)
theorem oM:wf X (gq .Mult) v5:=DB OW (fun i j h=>by
 unfold yu at h
 simp only [oy,aS,decide_eq_true_eq] at h
 exact h) fun _ _ _=>.int _
theorem zJ:wf X (gq .Mod) Gq:=DB OX (fun i j h=>of_decide_eq_true h) fun _ _ _=>.int _
theorem Mq:wf X (gq .FloorDiv) J4:=DB LR (fun i j h=>by
 simp only [aS,decide_eq_true_eq] at h
 exact h) fun _ _ _=>.int _
def kz (neg:Bool) (x y:D):R D:=if x.canLay0 && y.canLay0 && decide (min x.depth y.depth<=60) then .ok (.bool (if neg then !bq x y else bq x y)) else .no
mutual
theorem zK:∀ d:D,d.canLay0=true->pB d=true
 | .none,_=>rfl
 | .bool _,_=>rfl
 | .int _,_=>rfl
 | .str _,_=>rfl
 | .list xs,h=>by
  simp only [e_] at h
  simp only [pB]
  exact lays_noD xs h
 | .tuple xs,h=>by
  simp only [e_] at h
  simp only [pB]
  exact lays_noD xs h
 | .dict _,h=>by simp [e_] at h
theorem lays_noD:∀ d:List D,cF d=true->noDs d=true
 | [],_=>rfl
 | x::r,h=>by
  simp only [cF,aS] at h
  simp only [noDs,aS]
  exact ⟨zK x h.1,lays_noD r h.2⟩
end
theorem J5 {neg:Bool}{f:a7->a7->Sem a7} (h:o9 X f (Pd X.K neg)):wf X f (kz neg):=by
 refine ⟨fun pins s σ H x y v u Q I rv ru ⟨Hs,dx,dy,sub,rx,ry,d,hd,q⟩=>?_,fun x y c n=>?_⟩
 ·unfold kz at hd
  split at hd
  ·rename_i hc
   simp only [aS,decide_eq_true_eq] at hc
   cases hd
   exact h pins s σ H x y v u Q I rv ru ⟨dx,dy,(rx.full sub).rep (zK _ hc.1.1),(ry.full sub).rep (zK _ hc.1.2),hc.1.1,hc.1.2,hc.2,q _ H Hs (.refl sub) (.bool _)⟩
  ·cases hd
 ·unfold kz
  split<;>exact fun h=>by cases h
theorem qu (hu:X.A.units + 64<p_):wf X (bI .Eq) (kz false):=J5 (Pe hu)
theorem wk (hu:X.A.units + 64<p_):wf X (bI .NotEq) (kz true):=J5 (Pf hu)
def Gr (k:Int->Int->Bool) (t:Str->Str->Bool):D->D->R D
 | .int i,.int j=>.ok (.bool (k i j))
 | .str x,.str y=>.ok (.bool (t x y))
 | _,_=>.no
theorem J6 {f:a7->a7->Sem a7}{k:Int->Int->Bool}{t:Str->Str->Bool} (h1:o9 X f (OR fun i j=>.bl (k i j))) (h2:o9 X f (fun x y H Q=>∃ i j,x=.str i/\y=.str j/\Q (.bl (t i j)) H)):wf X f (Gr k t):=by
 refine ⟨fun pins s σ H x y v u Q I rv ru ⟨Hs,dx,dy,sub,rx,ry,d,hd,q⟩=>?_,fun x y c n=>?_⟩
 ·unfold Gr at hd
  split at hd
  ·cases hd
   exact h1 pins s σ H x y v u Q I rv ru ⟨_,_,rx.int,ry.int,q _ H Hs (.refl sub) (.bool _)⟩
  ·cases hd
   exact h2 pins s σ H x y v u Q I rv ru ⟨_,_,rx.str,ry.str,q _ H Hs (.refl sub) (.bool _)⟩
  ·cases hd
 ·unfold Gr
  split<;>exact fun h=>by cases h
def DC:=Gr (fun i j=>decide (i<j)) qe
def NV:=Gr (fun i j=>decide (i<=j)) fun x y=>!qe y x
def Pj:D->D->R D
 | .int i,.int j=>.ok (.bool (decide (j<i)))
 | _,_=>.no
theorem yv:wf X (bI .Lt) DC:=J6 Qs G4
theorem yw:wf X (bI .LtE) NV:=J6 Qt Gh
theorem J7:wf X (bI .Gt) Pj:=by
 refine ⟨fun pins s σ H x y v u Q I rv ru ⟨Hs,dx,dy,sub,rx,ry,d,hd,q⟩=>?_,fun x y c n=>?_⟩
 ·unfold Pj at hd
  split at hd
  ·cases hd
   exact Qu pins s σ H x y v u Q I rv ru ⟨_,_,rx.int,ry.int,q _ H Hs (.refl sub) (.bool _)⟩
  ·cases hd
 ·unfold Pj
  split<;>exact fun h=>by cases h
def DD:D->Bool
 | .none=>true
 | _=>false
def Pk (neg:Bool):D->D->R D
 | x,.none=>.ok (.bool (if neg then !DD x else DD x))
 | _,_=>.no
theorem Mr {K:a5}{H Hs:Hp}{v:V}{d:D} (h:RB K H Hs v d):decide (v=.non)=DD d:=by
 rcases h with h | ⟨a,o,rfl,_,_,h⟩
 ·cases h<;>rfl
 ·cases h<;>rfl
theorem J8:wf X (bI .IsNot) (Pk true):=by
 refine ⟨fun pins s σ H x y v u Q I rv ru ⟨Hs,dx,dy,sub,rx,ry,d,hd,q⟩=>?_,fun x y c n=>?_⟩
 ·unfold Pk at hd
  split at hd
  ·cases hd
   exact LW pins s σ H x y v u Q I rv ru ⟨ry.non,by rw [Mr rx];exact q _ H Hs (.refl sub) (.bool _)⟩
  ·cases hd
 ·unfold Pk
  split<;>exact fun h=>by cases h
def jS:D->Bool
 | .none=>true
 | .bool _=>true
 | .int _=>true
 | .str _=>true
 | _=>false
def Gs (neg:Bool):D->D->R D
 | x,.list ys=>if jS x && ys.all jS then .ok (.bool (if neg then !(ys.any fun y=>bq y x) else ys.any fun y=>bq y x)) else .no
 | x,.tuple ys=>if jS x && ys.all jS then .ok (.bool (if neg then !(ys.any fun y=>bq y x) else ys.any fun y=>bq y x)) else .no
 | _,_=>.no
theorem EQ {K:a5}{H:Hp}{v:V}{d:D} (h:RD K H v d) (f:jS d=true):oB v=true:=by
 cases h<;>first | rfl | cases f
theorem Bc {K:a5}{H Hs:Hp}{v:V}{d:D} (h:RB K H Hs v d) (f:jS d=true):oB v=true:=by
 rcases h with h | ⟨a,o,rfl,_,_,h⟩
 ·exact EQ h f
 ·cases h<;>cases f
theorem Bd {K:a5}{H:Hp}{vs:List V}:∀ {ds:List D},RDs K H vs ds->ds.all jS=true->vs.all oB=true:=by
 induction vs with
 | nil=>intro ds _ _;rfl
 | cons x r ih =>
  intro ds h f
  cases h with
  | cons h t =>
   rw [rP,aS] at f ⊢
   exact ⟨EQ h f.1,ih t f.2⟩
theorem Pl {K:a5}{H H2 Hs:Hp}{v u:V}{d e:D} (h:RD K H v d) (h2:RB K H2 Hs u e) (f:jS d=true) (f2:jS e=true):M4 v u=bq d e:=by
 have h2':RD K Hs u e:=by
  rcases h2 with h2 | ⟨a,o,rfl,_,_,h2⟩
  ·exact h2
  ·cases h2<;>cases f2
 cases h with
 | list _ _=>cases f
 | tuple _ _=>cases f
 | dictK _ _=>cases f
 | dictT _ _ _=>cases f
 | dictF _ _ _=>cases f
 | none=>cases h2'<;>first | rfl | cases f2
 | bool b=>cases h2'<;>first | rfl | cases f2
 | int i=>cases h2'<;>first | rfl | cases f2
 | str x=>cases h2'<;>first | rfl | cases f2
theorem DE {K:a5}{H H2 Hs:Hp}{u:V}{e:D} (h2:RB K H2 Hs u e) (f2:jS e=true):∀ {vs:List V}{ds:List D},RDs K H vs ds->ds.all jS=true->S3 u vs=ds.any fun y=>bq y e
 | _,_,.nil,_=>rfl
 | _,_,.cons h t,f=>by
  rw [rP,aS] at f
  have:=DE h2 f2 t f.2
  unfold S3 at this ⊢
  rw [eT,eT,this,Pl h h2 f.1 f2]
theorem J9 {neg:Bool}{f:a7->a7->Sem a7} (h:o9 X f (SU X.K neg)):wf X f (Gs neg):=by
 refine ⟨fun pins s σ H x y v u Q I rv ru ⟨Hs,dx,dy,sub,rx,ry,d,hd,q⟩=>?_,fun x y c n=>?_⟩
 ·unfold Gs at hd
  split at hd
  ·split at hd
   ·rename_i hc
    simp only [aS] at hc
    cases hd
    obtain ⟨b,ws,rfl,qb,rb⟩:=ry.list sub
    refine h pins s σ H _ _ v u Q I rv ru ⟨b,ws,rfl,.inl qb,Bc rx hc.1,Bd rb hc.2,?_⟩
    rw [DE rx hc.1 rb hc.2]
    exact q _ H Hs (.refl sub) (.bool _)
   ·cases hd
  ·split at hd
   ·rename_i hc
    simp only [aS] at hc
    cases hd
    obtain ⟨b,ws,rfl,qb,rb,_⟩:=ry.tuple sub
    refine h pins s σ H _ _ v u Q I rv ru ⟨b,ws,rfl,.inr qb,Bc rx hc.1,Bd rb hc.2,?_⟩
    rw [DE rx hc.1 rb hc.2]
    exact q _ H Hs (.refl sub) (.bool _)
   ·cases hd
  ·cases hd
 ·unfold Gs
  split<;>(try split)<;>exact fun h=>by cases h
theorem Ja:wf X (bI .In) (Gs false):=J9 G6
theorem Jb:wf X (bI .NotIn) (Gs true):=J9 zo
end
end
end J
namespace J
open PySem L2
section
section
variable {c:C}{e a b:aO}{g ga gb:aq->R D}{pos:Pos}
def DF:D->D->R D
 | .list xs,.int i=>match Dh xs i with
  | some d=>.ok d
  | none=>.no
 | .tuple xs,.int i=>match Dh xs i with
  | some d=>.ok d
  | none=>.no
 | .str x,.int i=>if x.length<=1000 then (match Dh x.cps.toList i with
  | some k=>.ok (.str ⟨#[k]⟩)
  | none=>.no) else .no
 | _,_=>.no
theorem ES {K:a5}{H:Hp}{vs:List V}{ds:List D} (h:RDs K H vs ds) {i:Int}{d:D} (e:Dh ds i=some d):∃ v,Dh vs i=some v/\RD K H v d:=by
 unfold Dh at e ⊢
 rw [h.length]
 cases hx:P2 ds.length i with
 | none=>rw [hx] at e;cases e
 | some j =>
  rw [hx] at e
  exact h.get' e
theorem Ta {X:Cx}:Qy X (rD X.K DF):=by
 intro va sl pins s σ H x y v u Q I rv ru h
 obtain ⟨Hs,dx,dy,sub,rx,ry,d,hd,q⟩:=h
 unfold DF at hd
 split at hd
 ·split at hd
  ·rename_i d' he
   cases hd
   obtain ⟨p,vs,rfl,qa,ra⟩:=rx.list sub
   obtain ⟨w,hw,rw'⟩:=ES ra he
   exact jT va sl pins s σ H _ _ v u Q I rv ru ⟨p,vs,_,w,rfl,ry.int,qa,hw,q _ H Hs (.refl sub) rw'⟩
  ·cases hd
 ·split at hd
  ·rename_i d' he
   cases hd
   obtain ⟨p,vs,rfl,qa,ra,_⟩:=rx.tuple sub
   obtain ⟨w,hw,rw'⟩:=ES ra he
   exact P3 va sl pins s σ H _ _ v u Q I rv ru ⟨p,vs,_,w,rfl,ry.int,qa,hw,q _ H Hs (.refl sub) rw'⟩
  ·cases hd
 ·split at hd
  ·rename_i hz
   split at hd
   ·rename_i k he
    cases hd
    exact P4 va sl pins s σ H _ _ v u Q I rv ru ⟨_,_,k,rx.str,ry.int,bi (bU hz),he,q _ H Hs (.refl sub) (.str _)⟩
   ·cases hd
  ·cases hd
 ·cases hd
theorem Pm (x y:D) (c:Str) (n:Option D):DF x y≠.ex c n:=by
 unfold DF
 split<;>(try split)<;>(try split)<;>exact fun h=>by cases h
theorem QU (ha:JB c a ga) (hb:JB c b gb) (hs:vk b:=by exact fun _ _=>rfl):JE c (.Subscript a b pos) (g2 ga gb DF):=.of fun ρ=>oG (NG Ta (ha ρ) (hb ρ) hs) fun σ H Q q=>two Pm q
def qg (ds:List D) (lo hi:Option Int):List D:=(ds.drop (HT.i9 ds.length 0 lo)).take (HT.i9 ds.length ds.length hi - HT.i9 ds.length 0 lo)
theorem zL {K:a5}{H:Hp}{vs:List V}{ds:List D} (h:RDs K H vs ds) (lo hi:Option Int):RDs K H (uY vs lo hi) (qg ds lo hi):=by
 unfold uY qg
 rw [h.length]
 exact (h.drop _).take _
def yx:D->Option Int->Option Int->R D
 | .list xs,lo,hi=>.ok (.list (qg xs lo hi))
 | .tuple xs,lo,hi=>.ok (.tuple (qg xs lo hi))
 | _,_,_=>.no
inductive NW (K:a5) (x:V) (lo:Option Int) (hi:Option Int) (H:Hp) (Q:VK):Prop
 | mk (Hs dx:_) (h0:cW Hs H) (h1:RB K H Hs x dx) (h2:∃ d,yx dx lo hi=.ok d/\∀ v H' Hs',cx H Hs H' Hs'->RD K Hs' v d->Q v H'):NW K x lo hi H Q
def Tb (K:a5):V->Option Int->Option Int->Hp->VK->Prop:=NW K
theorem Tc {X:Cx}:Qw X (Tb X.K):=by
 intro pins s σ H x v vl vu lo hi sl Q I rx hs pl pu h
 obtain ⟨Hs,dx,sub,rb,d,hd,q⟩:=h
 unfold yx at hd
 split at hd
 ·cases hd
  obtain ⟨p,vs,rfl,qa,ra⟩:=rb.list sub
  exact EE pins s σ H _ v vl vu lo hi sl Q I rx hs pl pu ⟨p,vs,rfl,qa,fun l hl=>q _ _ _ (.new sub hl) (.list (.of aX) ((zL ra lo hi).same (cx.new sub hl).sh))⟩
 ·cases hd
  obtain ⟨p,vs,rfl,qa,ra,_⟩:=rb.tuple sub
  by_cases hw:HT.i9 vs.length 0 lo=0/\HT.i9 vs.length vs.length hi=vs.length
  ·refine Mk pins s σ H _ v vl vu lo hi sl Q I rx hs pl pu ⟨p,vs,rfl,qa,hw,?_⟩
   rcases rb with rb | ⟨_,_,_,_,_,ow⟩
   ·refine q _ H Hs (.refl sub) ?_
    unfold qg
    rw [<- ra.length,hw.1,hw.2,ra.length]
    simpa using rb
   ·cases ow
  ·exact P1 pins s σ H _ v vl vu lo hi sl Q I rx hs pl pu ⟨p,vs,rfl,qa,hw,fun l hl=>q _ _ _ (.new sub hl) (.tuple aX ((zL ra lo hi).same (cx.new sub hl).sh))⟩
 ·cases hd
inductive QV (K:a5) (cls:Str->aa) (E:XK) (ρ:aq) (r:R (Option Int)) (σ:St) (H:Hp) (Q:Option Int->Hp->Prop):Prop
 | mk (H0 Hs0:Hp) (la:Nat->Option aa) (Hs:Hp) (f:Fr K H0 Hs0 la ρ σ H Hs) (q:Fin K cls E H Hs r fun d=>∀ H' Hs',cx H Hs H' Hs'->Q d H'):QV K cls E ρ r σ H Q
def Td (K:a5) (cls:Str->aa) (E:XK) (ρ:aq) (r:R (Option Int)):TO:=QV K cls E ρ r
structure JO (c:C) (e:Option aO) (g:aq->R (Option Int)):Prop where of ::
 run:∀ ρ,PO c.X e (Td c.X.K c.cls c.E ρ (g ρ))
instance {c:C}{e:Option aO}{g:aq->R (Option Int)}:CoeFun (JO c e g) (fun _=>∀ ρ,PO c.X e (Td c.X.K c.cls c.E ρ (g ρ))):=⟨JO.run⟩
theorem TU {X:Cx}{e:Option aO}{t t':TO} (h:PO X e t) (m:∀ σ H Q,t' σ H Q->t σ H Q):PO X e t':=fun pins s σ H Q I q=>h pins s σ H Q I (m σ H Q q)
def Pn:aq->R (Option Int):=fun _=>.ok none
def HB (g:aq->R D):aq->R (Option Int):=fun ρ=>(g ρ).bind fun d=>match d with
 | .int i=>.ok (some i)
 | _=>.no
theorem sy:JO c none Pn:=.of fun ρ=>TU M0 fun σ H Q h_0=>by obtain ⟨H0,Hs0,la,Hs,f,q⟩:=h_0;exact q H Hs (.refl f.st.sub)
theorem jW (h:JE c e g):JO c (some e) (HB g):=.of fun ρ=>TU (M1 (h ρ)) fun σ H Q h_1=>by
 obtain ⟨H0,Hs0,la,Hs,f,q⟩:=h_1
 refine xA f q fun d v H1 Hs1 e1 s1 f1 r1=>?_
 unfold HB at q
 rw [e1,bind_ok] at q
 cases r1 with
 | int i=>exact ⟨i,rfl,q H1 Hs1 s1⟩
 | _=>exact q.elim
theorem Ms {K:a5}{cls:Str->aa}{E:XK}{ρ:aq}{r:R (Option Int)}{β:Type}{k:Option Int->R β}{σ:St}{H:Hp}{H0 Hs0 Hs:Hp}{la:Nat->Option aa}{Q:Option Int->Hp->Prop}{q:β->Prop} (f:Fr K H0 Hs0 la ρ σ H Hs)
  (h:Fin K cls E H Hs (r.bind k) q) (m:∀ d H' Hs',r=.ok d->cx H Hs H' Hs'->Fr K H0 Hs0 la ρ σ H' Hs'->Q d H'):Td K cls E ρ r σ H Q:=by
 refine ⟨H0,Hs0,la,Hs,f,?_⟩
 cases r with
 | ok d=>exact fun H' Hs' s=>m d H' Hs' rfl s (f.step s)
 | ex c n=>exact h
 | no=>exact h
def Mt (g:aq->R D) (gl gh:aq->R (Option Int)):aq->R D:=fun ρ=>(g ρ).bind fun x=>(gl ρ).bind fun l=>(gh ρ).bind fun h=>yx x l h
theorem mC {lo hi:Option aO}{gl gh:aq->R (Option Int)}{p2:Pos} (he:JB c e g) (hl:JO c lo gl) (hh:JO c hi gh):JE c (.Subscript e (.Slice lo hi none p2) pos) (Mt g gl gh):=.of fun ρ=>oG (AQ Tc (he ρ) (hl ρ) (hh ρ)) fun σ H Q h_2=>by
 obtain ⟨H0,Hs0,la,Hs,f,q⟩:=h_2
 refine one f q fun d v H1 Hs1 e1 s1 f1 r1=>?_
 unfold Mt at q
 rw [e1,bind_ok] at q
 refine Ms f1 (q.on s1 (q':=fun _=>True) fun _ _=>trivial) fun l H2 Hs2 e2 s2 f2=>?_
 rw [e2,bind_ok] at q
 refine Ms f2 (q.on (s1.trans s2) (q':=fun _=>True) fun _ _=>trivial) fun h H3 Hs3 e3 s3 f3=>?_
 rw [e3,bind_ok] at q
 cases hr:yx d l h with
 | ok z=>rw [hr] at q;exact ⟨Hs3,d,f3.st.sub,(r1.step s2).step s3,z,hr,fun w H4 Hs4 s4 r4=>q w H4 Hs4 (s1.trans (s2.trans (s3.trans s4))) r4⟩
 | ex c n=>unfold yx at hr;split at hr<;>cases hr
 | no=>rw [hr] at q;exact q.elim
inductive TV (K:a5) (h:List D->R D) (xs:List V) (H:Hp) (Q:VK):Prop
 | mk (Hs ds:_) (h0:cW Hs H) (h1:Mn K H Hs xs ds) (h2:∃ d,h ds=.ok d/\∀ v H' Hs',cx H Hs H' Hs'->RD K Hs' v d->Q v H'):TV K h xs H Q
def rC (K:a5) (h:List D->R D):List V->Hp->VK->Prop:=TV K h
def Gu (X:Cx) (f:a7) (h:List D->R D):Prop:=iM X f (rC X.K h)/\∀ x c n,h x≠.ex c n
def cf (gs:aq->R (List D)) (h:List D->R D):aq->R D:=fun ρ=>(gs ρ).bind h
theorem NX {K:a5}{cls:Str->aa}{E:XK}{h:List D->R D}{gs:aq->R (List D)}{ρ:aq}{σ:St}{H:Hp}{Q:VK} (hx:∀ x c n,h x≠.ex c n) (q:TR K cls E ρ (cf gs h ρ) σ H Q):Q9 (rC K h) (S9 K cls E ρ (gs ρ)) σ H Q:=by
 obtain ⟨H0,Hs0,la,Hs,f,q⟩:=q
 refine J0 f q fun ds vs H1 Hs1 e1 s1 f1 r1=>?_
 unfold cf at q
 rw [e1,bind_ok] at q
 cases hr:h ds with
 | ok d =>
  rw [hr] at q
  exact ⟨Hs1,ds,f1.st.sub,r1,d,hr,fun w H3 Hs3 s3 r3=>q w H3 Hs3 (s1.trans s3) r3⟩
 | ex c n=>exact (hx ds c n hr).elim
 | no=>rw [hr] at q;exact q.elim
variable {es:List aO}{gs:aq->R (List D)}{x:Str}{p:Pos}{id T:String}{h:List D->R D}
theorem bY (hc:Gu c.X (.builtin id) h) (hg:Gl c.X x) (hm:c.X.mg x=none) (hv:gj x=some (.builtin id)) (ha:NU c (e::es) gs) (hn:x≠"__name__":=by decide) (hdb:(x == ("__debug__" : Str))=false:=by decide)
  (he:ak (e::es) c.X.env=(false,cp e c.X.env)::ak es c.X.env:=by rfl) (hpl:(dz pos (ak es c.X.env)).any (·.1)=false:=by rfl):JE c (.Call (.Name x p) (e::es) [] pos) (cf gs h):=.of fun ρ=>oG (kq hc.1 hg hm hv (ha ρ) hn hdb he hpl) fun σ H Q q=>NX hc.2 q
theorem fY (hc:Gu c.X (.type T) h) (hg:Gl c.X x) (hm:c.X.mg x=none) (hv:gj x=some (.type T)) (ha:NU c (e::es) gs) (hn:x≠"__name__":=by decide) (hdb:(x == ("__debug__" : Str))=false:=by decide)
  (he:ak (e::es) c.X.env=(false,cp e c.X.env)::ak es c.X.env:=by rfl) (hpl:(dz pos (ak es c.X.env)).any (·.1)=false:=by rfl):JE c (.Call (.Name x p) (e::es) [] pos) (cf gs h):=.of fun ρ=>oG (tW hc.1 hg hm hv (ha ρ) hn hdb he hpl) fun σ H Q q=>NX hc.2 q
end
end
section
section
variable {X:Cx}
theorem Mn.one {K:a5}{H Hs:Hp}{xs:List V}{d:D} (h:Mn K H Hs xs [d]):∃ x,xs=[x]/\RB K H Hs x d:=by
 cases h with | cons a t=>cases t;exact ⟨_,rfl,a⟩
def ia (h:D->R D):List D->R D
 | [d]=>h d
 | _=>.no
theorem qS {f:a7}{h:D->R D} (hx:∀ d c n,h d≠.ex c n)
  (hr:∀ pins s σ H x u Q Hs d d',bu X pins σ H s->df x u->cW Hs H->RB X.K H Hs x d->h d=.ok d'->(∀ v H' Hs',cx H Hs H' Hs'->RD X.K Hs' v d'->Q v H')->ao (aE X.prog X.w) X.A (call f [u]) (EP X pins σ Q) X.xe s):Gu X f (ia h):=by
 refine ⟨fun pins s σ H xs us Q I r ⟨Hs,ds,sub,rb,d,hd,q⟩=>?_,fun x c n=>?_⟩
 ·unfold ia at hd
  split at hd
  ·obtain ⟨x,rfl,rx⟩:=rb.one
   obtain ⟨u,rfl,ru⟩:=jA r
   exact hr pins s σ H x u Q Hs _ _ I ru sub rx hd q
  ·cases hd
 ·unfold ia
  split
  ·exact hx _ _ _
  ·exact fun h=>by cases h
def j7:D->R D
 | .list xs=>.ok (.int xs.length)
 | .tuple xs=>.ok (.int xs.length)
 | .str x=>if x.length<=1000 then .ok (.int x.length) else .no
 | _=>.no
theorem RDk.length {K:a5}{H:Hp}{vs:List (dJ×V)}:∀ {ds:List (D×D)},RDk K H vs ds->vs.length=ds.length:=by
 induction vs with
 | nil=>intro ds h;cases h;rfl
 | cons x r ih=>intro ds h;cases h with | cons a b=>exact congrArg (· + 1) (ih b)
theorem RB.dict {K:a5}{H Hs:Hp}{v:V}{ds:List (D×D)} (sub:cW Hs H) (h:RB K H Hs v (.dict ds)):∃ a,v=.ref a/\((∃ kvs,H a=some (.dK kvs)/\RDk K Hs kvs ds)\/(∃ kvs,H a=some (.dT kvs)/\kvs≠[]/\RDt K Hs kvs ds)\/∃ o kvs es,ds=(.none,.none)::es/\H a=some (.frz o (.dT kvs))/\kvs≠[]/\RDt K Hs kvs es):=by
 rcases h with h | ⟨a,o,rfl,h2,h3,h4⟩
 ·cases h with
  | dictK q r=>exact ⟨_,rfl,.inl ⟨_,sub _ _ q,r⟩⟩
  | dictT q n r=>exact ⟨_,rfl,.inr (.inl ⟨_,sub _ _ q,n,r⟩)⟩
  | dictF q n r=>exact ⟨_,rfl,.inr (.inr ⟨_,_,_,rfl,sub _ _ q,n,r⟩)⟩
 ·cases h4 with
  | dK r=>exact ⟨a,rfl,.inl ⟨_,h2,r⟩⟩
  | dT n r=>exact ⟨a,rfl,.inr (.inl ⟨_,h2,n,r⟩)⟩
  | dF n r=>exact ⟨a,rfl,.inr (.inr ⟨_,_,_,rfl,h2,n,r⟩)⟩
theorem hV:Gu X (.builtin "len") (ia j7):=by
 refine qS (fun d c n=>?_) fun pins s σ H x u Q Hs d d' I ru sub rx hd q=>?_
 ·unfold j7
  split<;>(try split)<;>exact fun h=>by cases h
 ·unfold j7 at hd
  split at hd
  ·cases hd
   obtain ⟨a,vs,rfl,qa,ra⟩:=rx.list sub
   refine s9 pins s σ H _ _ Q I (.cons ru .nil) ⟨a,vs,rfl,.inl qa,?_⟩
   rw [ra.length]
   exact q _ H Hs (.refl sub) (.int _)
  ·cases hd
   obtain ⟨a,vs,rfl,qa,ra,_⟩:=rx.tuple sub
   refine s9 pins s σ H _ _ Q I (.cons ru .nil) ⟨a,vs,rfl,.inr qa,?_⟩
   rw [ra.length]
   exact q _ H Hs (.refl sub) (.int _)
  ·split at hd
   ·rename_i hz
    cases hd
    exact zq pins s σ H _ _ Q I (.cons ru .nil) ⟨_,by rw [rx.str],bi (bU hz),q _ H Hs (.refl sub) (.int _)⟩
   ·cases hd
  ·cases hd
def u5 (T:String) (d:D):Bool:=match T,d with
 | "str",.str _=>true
 | "int",.int _=>true
 | "int",.bool _=>true
 | "bool",.bool _=>true
 | "list",.list _=>true
 | "tuple",.tuple _=>true
 | _,_=>false
def v6 (g:aq->R D) (T:String):aq->R D:=fun ρ=>(g ρ).bind fun d=>if pB d then .ok (.bool (u5 T d)) else .no
theorem Mu {K:a5}{d:D} (T:String) (hT:T="str"\/T="int"\/T="bool"\/T="list"\/T="tuple") (h:pB d=true):da K (.type (T8 d)) (.type T)=some (u5 T d):=by
 rcases hT with rfl | rfl | rfl | rfl | rfl<;>cases d<;>first | rfl | simp [pB] at h
theorem m_ {c:C}{e:aO}{g:aq->R D}{p p2 pos:Pos}{T:Str}{Ts:String} (h:JB c e g) (hgi:Gl c.X "isinstance") (hi:c.X.mg "isinstance"=none) (hgT:Gl c.X T) (hT:c.X.mg T=none) (hv:gj T=some (.type Ts))
  (hTs:Ts="str"\/Ts="int"\/Ts="bool"\/Ts="list"\/Ts="tuple")
  (hn:T≠"__name__":=by decide) (hdb:(T == ("__debug__" : Str))=false:=by decide)
  (he:ak [e,.Name T p2] c.X.env=(false,cp e c.X.env)::ak [.Name T p2] c.X.env:=by rfl) (hpl:(dz pos (ak [.Name T p2] c.X.env)).any (·.1)=false:=by rfl) :
  JE c (.Call (.Name "isinstance" p) [e,.Name T p2] [] pos) (v6 g Ts):=.of fun ρ=>by
 refine oG (kq IX hgi hi j8 (bK (h ρ) (bK (Ex hgT hT hv (v:=.ty Ts) rfl hn hdb) dB) he) (by decide) (by decide) he hpl) fun σ H Q h_0=>?_
 obtain ⟨H0,Hs0,la,Hs,f,q⟩:=h_0
 refine one f q fun d v H1 Hs1 e1 s1 f1 r1=>?_
 unfold v6 at q
 rw [e1,bind_ok] at q
 by_cases hd:pB d=true
 ·rw [if_pos hd] at q
  exact ⟨v,d,Ts,_,rfl,(r1.full f1.st.sub).rep hd,Mu Ts hTs hd,q _ H1 Hs1 s1 (.bool _)⟩
 ·rw [if_neg hd] at q;exact q.elim
def ll:List D->Option (List Bool)
 | []=>some []
 | .bool b::r=>(ll r).map (b::·)
 | _::_=>none
theorem zM {ds:List D}:∀ {bs:List Bool},ll ds=some bs->ds=bs.map cP:=by
 induction ds with
 | nil=>intro bs h;cases h;rfl
 | cons d r ih =>
  intro bs h
  cases d with
  | bool b =>
   have h:(ll r).map (b::·)=some bs:=h
   cases hr:ll r with
   | none=>rw [hr] at h;cases h
   | some z=>rw [hr] at h;cases h;rw [ih hr];rfl
  | _=>cases h
def gF (k:List Bool->Bool):D->R D
 | .list ds=>match ll ds with
  | some bs=>.ok (.bool (k bs))
  | none=>.no
 | _=>.no
theorem Be {id:String}{k:List Bool->Bool} (h:iM X (.builtin id) (fun xs H Q=>∃ p,∃ bs:List Bool,xs=[.ref p]/\l5 X.K H p (bs.map V.bl)/\Q (.bl (k bs)) H)):Gu X (.builtin id) (ia (gF k)):=by
 refine qS (fun d c n=>?_) fun pins s σ H x u Q Hs d d' I ru sub rx hd q=>?_
 ·unfold gF
  split<;>(try split)<;>exact fun h=>by cases h
 ·unfold gF at hd
  split at hd
  ·split at hd
   ·rename_i bs hb
    cases hd
    obtain ⟨a,vs,rfl,qa,ra⟩:=rx.list sub
    rw [zM hb] at ra
    rw [xz ra] at qa
    exact h pins s σ H _ _ Q I (.cons ru .nil) ⟨a,bs,rfl,qa,q _ H Hs (.refl sub) (.bool _)⟩
   ·cases hd
  ·cases hd
theorem oN (hc:X.calm=true):Gu X (.builtin "all") (ia (gF fun bs=>bs.all id)):=Be (vY hc)
theorem Jc (hc:X.calm=true):Gu X (.builtin "any") (ia (gF fun bs=>bs.any id)):=Be (vZ hc)
def m7 (x:Str):List D:=x.cps.toList.map fun c=>ap ⟨#[c]⟩
theorem Gv {K:a5}{H:Hp} (x:Str):RDs K H (wc x) (m7 x):=by
 unfold wc m7
 induction x.cps.toList with
 | nil=>exact .nil
 | cons a r ih=>exact .cons (.str _) ih
def ig:D->R D
 | .list xs=>.ok (.tuple xs)
 | .tuple xs=>.ok (.tuple xs)
 | .str x=>if x.cps.size<=1000 then .ok (.tuple (m7 x)) else .no
 | _=>.no
theorem jC (hc:X.calm=true):Gu X (.type "tuple") (ia ig):=by
 refine qS (fun d c n=>?_) fun pins s σ H x u Q Hs d d' I ru sub rx hd q=>?_
 ·unfold ig
  split<;>(try split)<;>exact fun h=>by cases h
 ·unfold ig at hd
  split at hd
  ·cases hd
   obtain ⟨a,vs,rfl,qa,ra⟩:=rx.list sub
   exact qr pins s σ H _ _ Q I (.cons ru .nil) ⟨a,vs,rfl,.inl ⟨qa,fun l hl=>q _ _ _ (.new sub hl) (.tuple aX (ra.same (cx.new sub hl).sh))⟩⟩
  ·cases hd
   obtain ⟨a,vs,rfl,qa,ra,_⟩:=rx.tuple sub
   refine qr pins s σ H _ _ Q I (.cons ru .nil) ⟨a,vs,rfl,.inr ⟨qa,?_⟩⟩
   rcases rx with rx | ⟨_,_,_,_,_,ow⟩
   ·exact q _ H Hs (.refl sub) rx
   ·cases ow
  ·split at hd
   ·rename_i hz
    cases hd
    exact v3 hc pins s σ H _ _ Q I (.cons ru .nil) ⟨_,by rw [rx.str],bi (bU hz),fun l hl=>q _ _ _ (.new sub hl) (.tuple aX (Gv _))⟩
   ·cases hd
  ·cases hd
def yy:D->R D
 | .list xs=>.ok (.list xs)
 | .tuple xs=>.ok (.list xs)
 | _=>.no
theorem Mv:Gu X (.type "list") (ia yy):=by
 refine qS (fun d c n=>?_) fun pins s σ H x u Q Hs d d' I ru sub rx hd q=>?_
 ·unfold yy
  split<;>exact fun h=>by cases h
 ·unfold yy at hd
  split at hd
  ·cases hd
   obtain ⟨a,vs,rfl,qa,ra⟩:=rx.list sub
   exact sd pins s σ H _ _ Q I (.cons ru .nil) ⟨a,vs,rfl,.inl qa,fun l hl=>q _ _ _ (.new sub hl) (.list (.of aX) (ra.same (cx.new sub hl).sh))⟩
  ·cases hd
   obtain ⟨a,vs,rfl,qa,ra,_⟩:=rx.tuple sub
   exact sd pins s σ H _ _ Q I (.cons ru .nil) ⟨a,vs,rfl,.inr qa,fun l hl=>q _ _ _ (.new sub hl) (.list (.of aX) (ra.same (cx.new sub hl).sh))⟩
  ·cases hd
def fZ:List D->Option (List Str)
 | []=>some []
 | .str b::r=>(fZ r).map (b::·)
 | _::_=>none
theorem oO {ds:List D}:∀ {bs:List Str},fZ ds=some bs->ds=bs.map ap:=by
 induction ds with
 | nil=>intro bs h;cases h;rfl
 | cons d r ih =>
  intro bs h
  cases d with
  | str b =>
   have h:(fZ r).map (b::·)=some bs:=h
   cases hr:fZ r with
   | none=>rw [hr] at h;cases h
   | some z=>rw [hr] at h;cases h;rw [ih hr];rfl
  | _=>cases h
@[simp] theorem strsOf_map:∀ bs:List Str,fZ (bs.map ap)=some bs
 | []=>rfl
 | b::r=>by show (fZ (r.map ap)).map (b::·)=_;rw [strsOf_map r];rfl
def pC:D->R D
 | .list ds=>match fZ ds with
  | some ss=>if ss.length<64 then .ok (.list ((ja ss).map .str)) else .no
  | none=>.no
 | _=>.no
theorem Gw:Gu X (.builtin "sorted") (ia pC):=by
 refine qS (fun d c n=>?_) fun pins s σ H x u Q Hs d d' I ru sub rx hd q=>?_
 ·unfold pC
  split<;>(try split)<;>(try split)<;>exact fun h=>by cases h
 ·unfold pC at hd
  split at hd
  ·split at hd
   ·split at hd
    ·rename_i ss hs hz
     cases hd
     obtain ⟨a,vs,rfl,qa,ra⟩:=rx.list sub
     rw [oO hs] at ra
     rw [mX ra] at qa
     exact u0 pins s σ H _ _ Q I (.cons ru .nil) ⟨a,ss,rfl,qa,hz,fun l hl=>q _ _ _ (.new sub hl) (.list (.of aX) (we _))⟩
    ·cases hd
   ·cases hd
  ·cases hd
end
end
section
inductive QW (K:a5) (cls:Str->aa) (n:Nat) (F:List D->R D) (vs:List V) (H:Hp) (Q:VK) (E:XK):Prop
 | mk (Hs ds:_) (h0:cW Hs H) (h1:ds.length=n) (h2:RDs K Hs vs ds) (h3:Fin K cls E H Hs (F ds) fun d=>∀ v H' Hs',cx H Hs H' Hs'->RD K Hs' v d->Q v H'):QW K cls n F vs H Q E
def Mw (K:a5) (cls:Str->aa) (n:Nat) (F:List D->R D):Sp:=QW K cls n F
structure Fn (P:aB) (w:aT) (K:a5) (mg:Str->Option a7) (base:a_) (cls:Str->aa) (x:Str) (k n:Nat) (F:List D->R D):Prop where
 ex:∃ f fd ps,qc P w K mg base (iN P w) k f fd ps (Mw K cls n F)/\mg x=some (.ref f)/\dH K (.ref f)=true/\iZ K fd ps []
section
variable {c:C}{e a b:aO}{g ga gb:aq->R D}{pos:Pos}{es:List aO}{gs:aq->R (List D)}{x:Str}{p:Pos}
def f9 (n:Nat) (F:List D->R D) (gs:aq->R (List D)):aq->R D:=fun ρ=>(gs ρ).bind fun ds=>if ds.length=n then F ds else .no
theorem Mx {k n:Nat}{F:List D->R D} (G:Fn c.X.prog c.X.w c.X.K c.X.mg c.X.base c.cls x k n F) (hr:io k c.X.A) (hg:Gl c.X x) (hx:iE (iN c.X.prog c.X.w) c.X c.E) (ha:AF c (e::es) gs)
  (hdb:(x == ("__debug__" : Str))=false:=by decide) (he:ak (e::es) c.X.env=(false,cp e c.X.env)::ak es c.X.env:=by rfl) (hpl:(dz pos (ak es c.X.env)).any (·.1)=false:=by rfl) :
  JE c (.Call (.Name x p) (e::es) [] pos) (f9 n F gs):=.of fun ρ=>by
 obtain ⟨f,fd,ps,hf,hm,hk,hb⟩:=G.ex
 refine oG (zj (E:=c.E) hf hr hg hm hk hb .nil hx (ha ρ) hdb he hpl) fun σ H Q h_0=>?_
 obtain ⟨H0,Hs0,la,Hs,fr,q⟩:=h_0
 refine xB fr q fun ds vs H1 Hs1 e1 s1 f1 r1=>?_
 unfold f9 at q
 rw [e1,bind_ok] at q
 by_cases hn:ds.length=n
 ·rw [if_pos hn] at q
  show Mw _ _ _ _ (vs++[]) _ _ _
  rw [bH]
  exact ⟨Hs1,ds,f1.st.sub,hn,r1,q.on s1 fun d k v H2 Hs2 s2 r2=>k v H2 Hs2 (s1.trans s2) r2⟩
 ·rw [if_neg hn] at q;exact q.elim
end
inductive Fl where
 | nx (ρ:aq)
 | rt (d:D)
 | bk (ρ:aq)
 | ct (ρ:aq)
def m9 (K:a5) (cls:Str->aa) (E:XK) (H0 Hs0:Hp) (la:Nat->Option aa) (D:qM) (r:R Fl):Prop:=match r with
 | .ok (.nx ρ')=>∀ σ' H' Hs',Fr K H0 Hs0 la ρ' σ' H' Hs'->D.nx σ' H'
 | .ok (.bk ρ')=>∀ σ' H' Hs',Fr K H0 Hs0 la ρ' σ' H' Hs'->D.bk σ' H'
 | .ok (.ct ρ')=>∀ σ' H' Hs',Fr K H0 Hs0 la ρ' σ' H' Hs'->D.ct σ' H'
 | .ok (.rt d)=>∀ v H' Hs',cx H0 Hs0 H' Hs'->RD K Hs' v d->D.rt v H'
 | .ex c n=>∀ H' Hs',cx H0 Hs0 H' Hs'->XW K cls E c n H' Hs'
 | .no=>False
inductive TW (K:a5) (cls:Str->aa) (E:XK) (ρ:aq) (r:R Fl) (D:qM) (σ:St) (H:Hp):Prop
 | mk (H0 Hs0:Hp) (la:Nat->Option aa) (Hs:Hp) (f:Fr K H0 Hs0 la ρ σ H Hs) (q:m9 K cls E H0 Hs0 la D r):TW K cls E ρ r D σ H
def SR (K:a5) (cls:Str->aa) (E:XK) (ρ:aq) (r:R Fl):TS:=TW K cls E ρ r
structure JS (c:C) (s:cw) (g:aq->R Fl):Prop where of ::
 run:∀ ρ,PS c.X s (SR c.X.K c.cls c.E ρ (g ρ))
instance {c:C}{s:cw}{g:aq->R Fl}:CoeFun (JS c s g) (fun _=>∀ ρ,PS c.X s (SR c.X.K c.cls c.E ρ (g ρ))):=⟨JS.run⟩
structure Gx (c:C) (s:List cw) (g:aq->R Fl):Prop where of ::
 run:∀ ρ,yc c.X s (SR c.X.K c.cls c.E ρ (g ρ))
instance {c:C}{s:List cw}{g:aq->R Fl}:CoeFun (Gx c s g) (fun _=>∀ ρ,yc c.X s (SR c.X.K c.cls c.E ρ (g ρ))):=⟨Gx.run⟩
theorem Fr.set {K:a5}{H0 Hs0 H Hs:Hp}{la:Nat->Option aa}{ρ:aq}{σ:St} (f:Fr K H0 Hs0 la ρ σ H Hs) (i:Nat) {v:V}{d:D} (r:RD K Hs v d):Fr K H0 Hs0 la (ρ.set i (.shr d)) (σ.set i (some v)) H Hs:=by
 have hl:=f.len
 have nx:∀ {j:Nat}{s:Sl},(∀ d,s≠.shr d)->(ρ.set i (.shr d))[j]?=some s->ρ[j]?=some s/\i≠j:=fun {j s} hs e=>by
  by_cases hj:i=j
  ·subst hj
   by_cases hi:i<ρ.length
   ·rw [aw hi] at e;exact absurd (bw e).symm (hs d)
   ·rw [bj (by simpa using hi)] at e;cases e
  ·rw [ag hj] at e;exact ⟨e,hj⟩
 refine ⟨f.st,by simp [hl],fun j e h=>?_,fun j e h=>?_,fun j e h=>?_,fun j k d1 d2 a h1 h2 h3 h4=>?_,f.lh,fun j e h=>?_,fun j k d1 d2 h1 h2=>?_⟩
 ·by_cases hj:i=j
  ·subst hj
   by_cases hi:i<ρ.length
   ·rw [aw hi] at h
    cases h
    exact ⟨v,aw (by omega),r⟩
   ·rw [bj (by simpa using hi)] at h;cases h
  ·rw [ag hj] at h ⊢
   exact f.sh j e h
 ·obtain ⟨h,hj⟩:=nx (fun _ z=>by cases z) h
  rw [ag hj]
  exact f.ow j e h
 ·obtain ⟨h,hj⟩:=nx (fun _ z=>by cases z) h
  rw [ag hj]
  exact f.lk j e h
 ·obtain ⟨h1,n1⟩:=nx (fun _ z=>by cases z) h1
  obtain ⟨h2,n2⟩:=nx (fun _ z=>by cases z) h2
  rw [ag n1] at h3
  rw [ag n2] at h4
  exact f.dj j k d1 d2 a h1 h2 h3 h4
 ·obtain ⟨h,hj⟩:=nx (fun _ z=>by cases z) h
  obtain ⟨a,as,O⟩:=f.o2 j e h
  refine ⟨a,as,by rw [ag hj];exact O.at_,O.ob,O.nd,O.out,fun b hb k e' hk=>?_,O.inn⟩
  obtain ⟨hk,nk⟩:=nx (fun _ z=>by cases z) hk
  rw [ag nk]
  exact O.dj b hb k e' hk
 ·exact f.u2 j k d1 d2 (nx (fun _ z=>by cases z) h1).1 (nx (fun _ z=>by cases z) h2).1
theorem Fr.setO {K:a5}{H0 Hs0 H Hs:Hp}{la:Nat->Option aa}{ρ:aq}{σ:St} (f:Fr K H0 Hs0 la ρ σ H Hs) (i:Nat) {a:aa}{o:HO}{d:D} (n:H a=none) (r:mY K Hs o d):Fr K H0 Hs0 la (ρ.set i (.own d)) (σ.set i (some (.ref a))) (upd H a o) Hs:=by
 have f':=f.step (cx.mine (o:=o) f.st.sub n)
 have hl:=f.len
 have n0:H0 a=none:=f.st.all.free n
 have ns:Hs a=none:=f.st.sub.free n
 have nx:∀ {j:Nat}{s:Sl},(∀ d,s≠.own d)->(ρ.set i (.own d))[j]?=some s->ρ[j]?=some s/\i≠j:=fun {j s} hs e=>by
  by_cases hj:i=j
  ·subst hj
   by_cases hi:i<ρ.length
   ·rw [aw hi] at e;exact absurd (bw e).symm (hs d)
   ·rw [bj (by simpa using hi)] at e;cases e
  ·rw [ag hj] at e;exact ⟨e,hj⟩
 have ne:∀ j e,ρ[j]?=some (Sl.own e)->σ[j]?≠some (some (V.ref a)):=fun j e h z=>by
  obtain ⟨b,o',h1,h2,_⟩:=f.ow j e h
  rw [z] at h1
  cases h1
  rw [n] at h2;cases h2
 refine ⟨f'.st,by simp [hl],fun j e h=>?_,fun j e h=>?_,fun j e h=>?_,fun j k d1 d2 b h1 h2 h3 h4=>?_,f.lh,fun j e h=>?_,fun j k d1 d2 h1 h2=>?_⟩
 ·obtain ⟨h,hj⟩:=nx (fun _ z=>by cases z) h
  rw [ag hj]
  exact f'.sh j e h
 ·by_cases hj:i=j
  ·subst hj
   by_cases hi:i<ρ.length
   ·rw [aw hi] at h
    cases h
    exact ⟨a,o,aw (by omega),aX,ns,n0,r⟩
   ·rw [bj (by simpa using hi)] at h;cases h
  ·rw [ag hj] at h ⊢
   exact f'.ow j e h
 ·obtain ⟨h,hj⟩:=nx (fun _ z=>by cases z) h
  rw [ag hj]
  exact f'.lk j e h
 ·by_cases hj:i=j
  ·by_cases hk:i=k
   ·exact hj.symm.trans hk
   ·rw [ag hk] at h2 h4
    subst hj
    by_cases hi:i<ρ.length
    ·rw [aw (by omega)] at h3
     cases h3
     exact (ne k d2 h2 h4).elim
    ·rw [bj (by simpa using hi)] at h1;cases h1
  ·rw [ag hj] at h1 h3
   by_cases hk:i=k
   ·subst hk
    by_cases hi:i<ρ.length
    ·rw [aw (by omega)] at h4
     cases h4
     exact (ne j d1 h1 h3).elim
    ·rw [bj (by simpa using hi)] at h2;cases h2
   ·rw [ag hk] at h2 h4
    exact f.dj j k d1 d2 b h1 h2 h3 h4
 ·obtain ⟨h,hj⟩:=nx (fun _ z=>by cases z) h
  obtain ⟨b,as,O⟩:=f.o2 j e h
  have nb:∀ c∈b::as,c≠a:=fun c hc z=>by
   subst z
   rcases List.mem_cons.mp hc with z | z
   ·have:=O.ob;rw [<- z,n] at this;cases this
   ·obtain ⟨o,ho,_⟩:=O.inn.there z;rw [n] at ho;cases ho
  refine ⟨b,as,by rw [ag hj];exact O.at_,by rw [aQ (nb b al)];exact O.ob,O.nd,O.out,fun c hc k e' hk=>?_,O.inn.upd fun z=>nb a (ai _ z) rfl⟩
  by_cases nk:i=k
  ·subst nk
   intro z
   by_cases hi:i<ρ.length
   ·rw [aw (by omega)] at z
    cases z
    exact nb _ hc rfl
   ·rw [bj (by simp;omega)] at hk;cases hk
  ·rw [ag nk] at hk ⊢
   exact O.dj c hc k e' hk
 ·exact f.u2 j k d1 d2 (nx (fun _ z=>by cases z) h1).1 (nx (fun _ z=>by cases z) h2).1
theorem Fr.write {K:a5}{H0 Hs0 H Hs:Hp}{la:Nat->Option aa}{ρ:aq}{σ:St} (f:Fr K H0 Hs0 la ρ σ H Hs) (i:Nat) {a:aa}{o:HO}{d d':D} (hi:ρ[i]?=some (Sl.own d)) (hs:σ[i]?=some (some (V.ref a))) (r:mY K Hs o d'):Fr K H0 Hs0 la (ρ.set i (.own d')) σ (upd H a o) Hs:=by
 obtain ⟨a',o',h1,h2,h3,h4,h5⟩:=f.ow i d hi
 rw [hs] at h1
 cases h1
 have hl:=f.len
 have hil:i<ρ.length:=(List.getElem?_eq_some_iff.mp hi).1
 have nx:∀ {j:Nat}{s:Sl},(∀ d,s≠.own d)->(ρ.set i (.own d'))[j]?=some s->ρ[j]?=some s/\i≠j:=fun {j s} hs e=>by
  by_cases hj:i=j
  ·subst hj
   rw [aw hil] at e;exact absurd (bw e).symm (hs d')
  ·rw [ag hj] at e;exact ⟨e,hj⟩
 refine ⟨⟨fun b u e=>?_,f.st.sh,fun b u e=>?_,f.st.out⟩,by simp [hl],fun j e h=>?_,fun j e h=>?_,fun j e h=>?_,fun j k d1 d2 b h1 h2 h3 h4=>?_,f.lh,fun j e h=>?_,fun j k d1 d2 h1 h2=>?_⟩
 ·rw [aQ (aW e h4)];exact f.st.all b u e
 ·rw [aQ (aW e h3)];exact f.st.sub b u e
 ·obtain ⟨h,hj⟩:=nx (fun _ z=>by cases z) h
  exact f.sh j e h
 ·by_cases hj:i=j
  ·subst hj
   rw [aw hil] at h
   cases h
   exact ⟨a,o,hs,aX,h3,h4,r⟩
  ·rw [ag hj] at h
   obtain ⟨b,u,k1,k2,k3,k4,k5⟩:=f.ow j e h
   refine ⟨b,u,k1,?_,k3,k4,k5⟩
   rw [aQ (fun z=>hj ?_)]
   ·exact k2
   ·subst z
    exact f.dj i j d e b hi h hs k1
 ·obtain ⟨h,hj⟩:=nx (fun _ z=>by cases z) h
  obtain ⟨b,u,k1,k2,k3,k4,k5,k6⟩:=f.lk j e h
  refine ⟨b,u,k1,k2,?_,k4,k5,k6⟩
  rw [aQ (aW k5 h4)]
  exact k3
 ·have own:∀ {j:Nat}{e:D},(ρ.set i (.own d'))[j]?=some (Sl.own e)->∃ e',ρ[j]?=some (Sl.own e'):=fun {j e} h=>by
   by_cases hj:i=j
   ·subst hj;exact ⟨d,hi⟩
   ·rw [ag hj] at h;exact ⟨e,h⟩
  obtain ⟨e1,h1⟩:=own h1
  obtain ⟨e2,h2⟩:=own h2
  exact f.dj j k e1 e2 b h1 h2 h3 h4
 ·obtain ⟨h,hj⟩:=nx (fun _ z=>by cases z) h
  obtain ⟨b,as,O⟩:=f.o2 j e h
  have nb:∀ c∈b::as,c≠a:=fun c hc z=>by
   subst z
   exact O.dj c hc i d hi hs
  refine ⟨b,as,O.at_,by rw [aQ (nb b al)];exact O.ob,O.nd,O.out,fun c hc k e' hk=>?_,O.inn.upd fun z=>nb a (ai _ z) rfl⟩
  by_cases nk:i=k
  ·subst nk
   exact O.dj c hc i d hi
  ·rw [ag nk] at hk
   exact O.dj c hc k e' hk
 ·exact f.u2 j k d1 d2 (nx (fun _ z=>by cases z) h1).1 (nx (fun _ z=>by cases z) h2).1
def db (ρ:aq):aq:=ρ.map fun s=>match s with
 | .own d=>.shr d
 | .ow2 dss=>.shr (.list (dss.map .list))
 | s=>s
open Classical in
theorem Fr.share {K:a5}{H0 Hs0 H Hs:Hp}{la:Nat->Option aa}{ρ:aq}{σ:St} (f:Fr K H0 Hs0 la ρ σ H Hs):∃ Hs',Fr K H0 Hs0 la (db ρ) σ H Hs'/\cx H Hs H Hs'\/Fr K H0 Hs0 la (db ρ) σ H Hs':=by
 let P:aa->Prop:=fun b=>(∃ (i:Nat) (d:D),ρ[i]?=some (Sl.own d)/\σ[i]?=some (some (V.ref b)))\/∃ (i:Nat) (dss:List (List D)) (a:aa) (as:List aa),ρ[i]?=some (Sl.ow2 dss)/\O2 K H0 H Hs ρ σ i dss a as/\b∈a::as
 let Hs':Hp:=fun b=>if P b then H b else Hs b
 have pos:∀ b,P b->Hs' b=H b:=fun b h=>if_pos h
 have neg:∀ b,¬ P b->Hs' b=Hs b:=fun b h=>if_neg h
 have up:cW Hs Hs':=fun b o e=>by
  by_cases h:P b
  ·rw [pos b h];exact f.st.sub b o e
  ·rw [neg b h];exact e
 have none0:∀ b o,H0 b=some o->¬ P b:=fun b o e hP=>by
  rcases hP with ⟨i,d,h1,h2⟩ | ⟨i,dss,a,as,h1,O,hb⟩
  ·obtain ⟨a,o',k1,_,_,k4,_⟩:=f.ow i d h1
   rw [h2] at k1;cases k1
   rw [e] at k4;cases k4
  ·have:=(O.out b hb).2
   rw [e] at this;cases this
 have un:∀ {j:Nat}{s:Sl},(db ρ)[j]?=some s->(∃ d,s=.shr d/\ρ[j]?=some (Sl.own d))\/(∃ dss:List (List D),s=.shr (.list (dss.map .list))/\ρ[j]?=some (Sl.ow2 dss))\/((∀ d,s≠.own d)/\(∀ d,s≠.ow2 d)/\ρ[j]?=some s):=fun {j s} e=>by
  unfold db at e
  rw [ay] at e
  cases h:ρ[j]? with
  | none=>rw [h] at e;cases e
  | some t =>
   rw [h] at e
   cases t with
   | own d=>cases e;exact .inl ⟨d,rfl,rfl⟩
   | no=>cases e;exact .inr (.inr ⟨fun _ z=>(by cases z),fun _ z=>(by cases z),rfl⟩)
   | shr d=>cases e;exact .inr (.inr ⟨fun _ z=>(by cases z),fun _ z=>(by cases z),rfl⟩)
   | lck d=>cases e;exact .inr (.inr ⟨fun _ z=>(by cases z),fun _ z=>(by cases z),rfl⟩)
   | ow2 d=>cases e;exact .inr (.inl ⟨d,rfl,rfl⟩)
 refine ⟨Hs',.inr ⟨⟨f.st.all,f.st.sh.trans up,fun b o e=>?_,fun a o e t z=>?_⟩,by simp [db,f.len],fun j d h=>?_,fun j d h=>?_,fun j d h=>?_,fun j k d1 d2 a h1 h2 _ _=>?_,f.lh,fun j d h=>?_,fun j k d1 d2 h1 h2=>?_⟩⟩
 ·by_cases h:P b
  ·rw [pos b h] at e;exact e
  ·rw [neg b h] at e;exact f.st.sub b o e
 ·rw [neg a (none0 a o e)];exact f.st.out a o e t z
 ·rcases un h with ⟨d',e,h'⟩ | ⟨dss,e,h'⟩ | ⟨_,_,h'⟩
  ·cases e
   obtain ⟨a,o,k1,k2,k3,k4,k5⟩:=f.ow j d h'
   refine ⟨_,k1,?_⟩
   have hp:Hs' a=some o:=by rw [pos a (.inl ⟨j,d,h',k1⟩)];exact k2
   have e:cW (upd Hs a o) Hs':=fun b u q=>by
    by_cases hb:b=a
    ·subst hb;rw [aX] at q;cases q;exact hp
    ·rw [aQ hb] at q;exact up b u q
   exact (k5.share k3).same e
  ·cases e
   obtain ⟨a,as,O⟩:=f.o2 j dss h'
   refine ⟨_,O.at_,?_⟩
   have hp:∀ b∈a::as,∀ o,H b=some o->Hs' b=some o:=fun b hb o ho=>by rw [pos b (.inr ⟨j,dss,a,as,h',O,hb⟩)];exact ho
   refine .list (.of (hp a al _ O.ob)) ?_
   have go:∀ {as':List aa}{dss':List (List D)},(∀ b∈as',b∈a::as)->u3 K H Hs as' dss'->RDs K Hs' (as'.map V.ref) (dss'.map .list):=fun {as' dss'} hs hi=>by
    induction hi with
    | nil=>exact .nil
    | cons h1 h2 _ ih=>exact .cons (.list (.of (hp _ (hs _ al) _ h1)) (h2.same up)) (ih fun b hb=>hs b (ai _ hb))
   exact go (fun b hb=>ai _ hb) O.inn
  ·obtain ⟨v,k1,k2⟩:=f.sh j d h'
   exact ⟨v,k1,k2.same up⟩
 ·rcases un h with ⟨d',e,h'⟩ | ⟨d',e,h'⟩ | ⟨n,_,h'⟩
  ·cases e
  ·cases e
  ·exact (n d rfl).elim
 ·rcases un h with ⟨d',e,h'⟩ | ⟨d',e,h'⟩ | ⟨_,_,h'⟩
  ·cases e
  ·cases e
  ·obtain ⟨a,o,k1,k2,k3,k4,k5,k6⟩:=f.lk j d h'
   exact ⟨a,o,k1,k2,k3,by rw [neg a (none0 a o k5)];exact k4,k5,k6.same up⟩
 ·rcases un h1 with ⟨d',e,h'⟩ | ⟨d',e,h'⟩ | ⟨n,_,h'⟩
  ·cases e
  ·cases e
  ·exact (n d1 rfl).elim
 ·rcases un h with ⟨d',e,h'⟩ | ⟨d',e,h'⟩ | ⟨_,n,h'⟩
  ·cases e
  ·cases e
  ·exact (n d rfl).elim
 ·rcases un h1 with ⟨d',e,h'⟩ | ⟨d',e,h'⟩ | ⟨_,n,h'⟩
  ·cases e
  ·cases e
  ·exact (n d1 rfl).elim
theorem Fr.shared {K:a5}{H0 Hs0 H Hs:Hp}{la:Nat->Option aa}{ρ:aq}{σ:St} (f:Fr K H0 Hs0 la ρ σ H Hs):∃ Hs',Fr K H0 Hs0 la (db ρ) σ H Hs':=by
 obtain ⟨Hs',h | h⟩:=f.share
 ·exact ⟨Hs',h.1⟩
 ·exact ⟨Hs',h⟩
section
variable {c:C}{e a b:aO}{g ga gb:aq->R D}{pos:Pos}{x:Str}{st:cw}{bA:List cw}{gs gr:aq->R Fl}
def bf (g h:aq->R Fl):aq->R Fl:=fun ρ=>(g ρ).bind fun fl=>match fl with
 | .nx ρ'=>h ρ'
 | fl=>.ok fl
theorem cS:Gx c [] (fun ρ=>.ok (.nx ρ)):=.of fun ρ=>T9 Ey fun D σ H h_1=>by obtain ⟨H0,Hs0,la,Hs,f,q⟩:=h_1;exact q σ H Hs f
theorem aU (h:JS c st gs):Gx c [st] gs:=.of fun ρ=>rX (h ρ)
theorem aG (h:JS c st gs) (hr:Gx c bA gr):Gx c (st::bA) (bf gs gr):=.of fun ρ pins s σ H D I h_2=>by
 obtain ⟨H0,Hs0,la,Hs,f,q⟩:=h_2
 unfold bf at q
 cases hg:gs ρ with
 | no=>rw [hg] at q;exact q.elim
 | ex x n =>
  rw [hg] at q
  refine iY (h ρ) (mx (X:=c.X) (sts:=bA)) pins s σ H D I ⟨H0,Hs0,la,Hs,f,?_⟩
  rw [hg]
  exact q
 | ok fl =>
  rw [hg,bind_ok] at q
  cases fl with
  | nx ρ' =>
   refine iY (h ρ) (hr ρ') pins s σ H D I ⟨H0,Hs0,la,Hs,f,?_⟩
   rw [hg]
   exact fun σ' H' Hs' f'=>⟨H0,Hs0,la,Hs',f',q⟩
  | rt d =>
   refine iY (h ρ) (mx (X:=c.X) (sts:=bA)) pins s σ H D I ⟨H0,Hs0,la,Hs,f,?_⟩
   rw [hg]
   exact q
  | bk ρ' =>
   refine iY (h ρ) (mx (X:=c.X) (sts:=bA)) pins s σ H D I ⟨H0,Hs0,la,Hs,f,?_⟩
   rw [hg]
   exact q
  | ct ρ' =>
   refine iY (h ρ) (mx (X:=c.X) (sts:=bA)) pins s σ H D I ⟨H0,Hs0,la,Hs,f,?_⟩
   rw [hg]
   exact q
theorem sE {K:a5}{cls:Str->aa}{E:XK}{ρ:aq}{r:R D}{k:D->R Fl}{σ:St}{H:Hp}{H0 Hs0 Hs:Hp}{la:Nat->Option aa}{D':qM}{Q:V->Hp->Prop} (f:Fr K H0 Hs0 la ρ σ H Hs)
  (h:m9 K cls E H0 Hs0 la D' (r.bind k)) (m:∀ d v H' Hs',r=.ok d->cx H Hs H' Hs'->Fr K H0 Hs0 la ρ σ H' Hs'->RD K Hs' v d->Q v H'):TR K cls E ρ r σ H Q:=by
 refine ⟨H0,Hs0,la,Hs,f,?_⟩
 cases r with
 | ok d=>exact fun v H' Hs' s r=>m d v H' Hs' rfl s (f.step s) r
 | ex c n=>exact fun H' Hs' s=>h H' Hs' (f.st.trans s)
 | no=>exact h
theorem sT {K:a5}{cls:Str->aa}{E:XK}{ρ:aq}{r:R Bool}{k:Bool->R Fl}{σ:St}{H:Hp}{H0 Hs0 Hs:Hp}{la:Nat->Option aa}{D':qM}{Q:Bool->Hp->Prop} (f:Fr K H0 Hs0 la ρ σ H Hs)
  (h:m9 K cls E H0 Hs0 la D' (r.bind k)) (m:∀ d H' Hs',r=.ok d->cx H Hs H' Hs'->Fr K H0 Hs0 la ρ σ H' Hs'->Q d H'):Hz K cls E ρ r σ H Q:=by
 refine ⟨H0,Hs0,la,Hs,f,?_⟩
 cases r with
 | ok d=>exact fun H' Hs' s=>m d H' Hs' rfl s (f.step s)
 | ex c n=>exact fun H' Hs' s=>h H' Hs' (f.st.trans s)
 | no=>exact h
def dv (g:aq->R D):aq->R Fl:=fun ρ=>(g (db ρ)).bind fun d=>.ok (.rt d)
theorem bP (h:JE c e g):JS c (.Return (some e) pos) (dv g):=.of fun ρ=>v4 (zh (h (db ρ))) fun D σ H h_3=>by
 obtain ⟨H0,Hs0,la,Hs,f,q⟩:=h_3
 obtain ⟨Hs',f'⟩:=f.shared
 refine sE f' q fun d v H1 Hs1 e1 s1 f1 r1=>?_
 unfold dv at q
 rw [e1,bind_ok] at q
 exact q v H1 Hs1 f1.st r1
def fE (t:aq->R Bool) (g h:aq->R Fl):aq->R Fl:=fun ρ=>(t ρ).bind fun b=>if b then g ρ else h ρ
theorem fP {t:aO}{gt:aq->R Bool}{A B:List cw}{gA gB:aq->R Fl} (ht:JT c t gt) (hA:Gx c A gA) (hB:Gx c B gB):JS c (.If t A B pos) (fE gt gA gB):=.of fun ρ=>v4 (NA (ht ρ) (hA ρ) (hB ρ)) fun D σ H h_5=>by
 obtain ⟨H0,Hs0,la,Hs,f,q⟩:=h_5
 refine sT f q fun d H1 Hs1 e1 s1 f1=>?_
 unfold fE at q
 rw [e1,bind_ok] at q
 cases d with
 | true=>exact Dj ⟨H0,Hs0,la,Hs1,f1,q⟩
 | false=>exact zr ⟨H0,Hs0,la,Hs1,f1,q⟩
def ir (i:Nat) (g:aq->R D):aq->R Fl:=fun ρ=>(g ρ).bind fun d=>.ok (.nx (ρ.set i (.shr d)))
theorem f_ (i:Nat) {pos':Pos} (h:JE c e g) (hN:c.X.N.Nodup) (hi:c.X.N[i]?=some x:=by rfl) (hx:LP c.X.env.scope x:=by first | exact eP rfl | exact cY rfl) (hs:fB e (some (.Name x pos')) pos.line c.X.env=pure false:=by rfl)
  (hf:c.X.fn x=true\/c.X.env.scope.names.lookup x=some .local:=by first | exact .inl rfl | exact .inr rfl | assumption):JS c (.Assign [.Name x pos'] e pos) (ir i g):=.of fun ρ=>v4 (vM hN hi hx (h ρ) hs hf) fun D σ H h_6=>by
 obtain ⟨H0,Hs0,la,Hs,f,q⟩:=h_6
 refine sE f q fun d v H1 Hs1 e1 s1 f1 r1=>?_
 unfold ir at q
 rw [e1,bind_ok] at q
 exact q _ H1 Hs1 (f1.set i r1)
def Bf (g:aq->R D):aq->R Fl:=fun ρ=>(g ρ).bind fun _=>.ok (.nx ρ)
theorem My (h:JE c e g) (hs:fB e none pos.line c.X.env=pure false:=by rfl):JS c (.Expr e pos) (Bf g):=.of fun ρ=>v4 (mU (h ρ) hs) fun D σ H h_7=>by
 obtain ⟨H0,Hs0,la,Hs,f,q⟩:=h_7
 refine sE f q fun d v H1 Hs1 e1 s1 f1 r1=>?_
 unfold Bf at q
 rw [e1,bind_ok] at q
 exact q _ H1 Hs1 f1
def TX (K:a5) (H0 Hs0:Hp) (la:Nat->Option aa) (H Hs:Hp) (Q:St->Hp->Prop) (r:R aq):Prop:=match r with
 | .ok ρ'=>∀ σ',Fr K H0 Hs0 la ρ' σ' H Hs->Q σ' H
 | _=>False
inductive QX (K:a5) (ρ:aq) (d:D) (r:R aq) (v:V) (σ:St) (H:Hp) (Q:St->Hp->Prop):Prop
 | mk (H0 Hs0:Hp) (la:Nat->Option aa) (Hs:Hp) (f:Fr K H0 Hs0 la ρ σ H Hs) (rd:RD K Hs v d) (q:TX K H0 Hs0 la H Hs Q r):QX K ρ d r v σ H Q
def QY (K:a5) (ρ:aq) (d:D) (r:R aq):TG:=QX K ρ d r
inductive NY (K:a5) (ρ:aq) (ds:List D) (r:R aq) (vs:List V) (σ:St) (H:Hp) (Q:St->Hp->Prop):Prop
 | mk (H0 Hs0:Hp) (la:Nat->Option aa) (Hs:Hp) (f:Fr K H0 Hs0 la ρ σ H Hs) (rd:RDs K Hs vs ds) (q:TX K H0 Hs0 la H Hs Q r):NY K ρ ds r vs σ H Q
def QZ (K:a5) (ρ:aq) (ds:List D) (r:R aq):H_:=NY K ρ ds r
structure JG (c:C) (t:aO) (k:D->aq->R aq):Prop where of ::
 run:∀ ρ d,PG c.X t (QY c.X.K ρ d (k d ρ))
instance {c:C}{t:aO}{k:D->aq->R aq}:CoeFun (JG c t k) (fun _=>∀ ρ d,PG c.X t (QY c.X.K ρ d (k d ρ))):=⟨JG.run⟩
structure Qc (c:C) (t:List aO) (k:List D->aq->R aq):Prop where of ::
 run:∀ ρ d,NB c.X t (QZ c.X.K ρ d (k d ρ))
instance {c:C}{t:List aO}{k:List D->aq->R aq}:CoeFun (Qc c t k) (fun _=>∀ ρ d,NB c.X t (QZ c.X.K ρ d (k d ρ))):=⟨Qc.run⟩
theorem TY {X:Cx}{e:aO}{t t':TG} (h:PG X e t) (m:∀ v σ H Q,t' v σ H Q->t v σ H Q):PG X e t':=fun pins s σ H v u Q I r q=>h pins s σ H v u Q I r (m v σ H Q q)
theorem Te {X:Cx}{e:List aO}{t t':H_} (h:NB X e t) (m:∀ v σ H Q,t' v σ H Q->t v σ H Q):NB X e t':=fun pins s σ H v u Q I r q=>h pins s σ H v u Q I r (m v σ H Q q)
def bF (i:Nat):D->aq->R aq:=fun d ρ=>.ok (ρ.set i (.shr d))
theorem cC (i:Nat) (hN:c.X.N.Nodup) (hi:c.X.N[i]?=some x:=by rfl) (hx:LP c.X.env.scope x:=by first | exact eP rfl | exact cY rfl) (hf:c.X.fn x=true\/c.X.env.scope.names.lookup x=some .local:=by first | exact .inl rfl | exact .inr rfl | assumption) :
  JG c (.Name x pos) (bF i):=.of fun ρ d=>TY (cK hN hi hx hf) fun v σ H Q h_11=>by obtain ⟨H0,Hs0,la,Hs,f,r,q⟩:=h_11;exact q _ (f.set i r)
variable {kt:D->aq->R aq}{kts:List D->aq->R aq}{t:aO}{ts:List aO}
def jX:List D->aq->R aq:=fun ds ρ=>match ds with
 | []=>.ok ρ
 | _=>.no
def bZ (k:D->aq->R aq) (ks:List D->aq->R aq):List D->aq->R aq:=fun ds ρ=>match ds with
 | d::r=>(k d ρ).bind fun ρ'=>ks r ρ'
 | _=>.no
theorem jY:Qc c [] jX:=.of fun ρ ds=>Te zi fun vs σ H Q h_12=>by
 obtain ⟨H0,Hs0,la,Hs,f,r,q⟩:=h_12
 cases r with
 | nil=>exact ⟨rfl,q σ f⟩
 | cons _ _=>exact q.elim
theorem cL (h:JG c t kt) (hr:Qc c ts kts) (hs:(gZ (t::ts) c.X.env).map (·.2)=oa t c.X.env::(gZ ts c.X.env).map (·.2):=by rfl):Qc c (t::ts) (bZ kt kts):=.of fun ρ ds pins s σ H vs us Q I rv h_13=>by
 obtain ⟨H0,Hs0,la,Hs,f,r,q⟩:=h_13
 cases r with
 | nil=>exact q.elim
 | @cons v vr d dr r1 r2 =>
  unfold bZ at q
  cases hk:kt d ρ with
  | ok ρ' =>
   simp only [hk,bind_ok] at q
   refine oz (h ρ d) (hr ρ' dr) hs pins s σ H _ us Q I rv ⟨v,vr,rfl,H0,Hs0,la,Hs,f,r1,?_⟩
   rw [hk]
   exact fun σ' f'=>⟨H0,Hs0,la,Hs,f',r2,q⟩
  | ex x n=>simp only [hk,bind_ex] at q;exact q.elim
  | no=>simp only [hk,bind_no] at q;exact q.elim
def jD (n:Nat) (ks:List D->aq->R aq):D->aq->R aq:=fun d ρ=>match d with
 | .tuple ds=>if ds.length=n then ks ds ρ else .no
 | _=>.no
theorem n5 {k n:Nat} (hc:c.X.calm=true) (h:Qc c ts kts) (hn:(gZ ts c.X.env).length=n:=by rfl) (hst:(gZ ts c.X.env).findIdx? (·.1)=none:=by rfl):JG c (.Tuple ts k pos) (jD n kts):=.of fun ρ d=>by
 cases d with
 | tuple ds =>
  refine TY (D8 hc (h ρ ds) hn hst) fun v σ H Q h_14=>?_
  obtain ⟨H0,Hs0,la,Hs,f,r,q⟩:=h_14
  cases r with
  | @tuple p xs _ hq rs =>
   unfold jD at q
   by_cases hl:ds.length=n
   ·simp only [if_pos hl] at q
    exact ⟨p,xs,rfl,(jN.of (f.st.sub _ _ hq)),by rw [rs.length];exact hl,H0,Hs0,la,Hs,f,rs,q⟩
   ·simp only [if_neg hl] at q;exact q.elim
 | _=>exact fun pins s σ H v u Q I rv h_15=>by obtain ⟨H0,Hs0,la,Hs,f,r,q⟩:=h_15;exact q.elim
def wl (g:aq->R D) (k:D->aq->R aq):aq->R Fl:=fun ρ=>(g ρ).bind fun d=>match k d ρ with
 | .ok ρ'=>.ok (.nx ρ')
 | _=>.no
theorem wn (h:JE c e g) (hg:JG c t kt) (hs:swapsWithSole [t] e pos.line c.X.env=pure false:=by rfl) (hw:swappedStores [t] e c.X.env=pure none:=by rfl) (h1:(gZ [t] c.X.env).map (·.2)=[oa t c.X.env]:=by rfl) :
  JS c (.Assign [t] e pos) (wl g kt):=.of fun ρ=>by
 cases hr:g ρ with
 | ok d =>
  refine v4 (Ib (h ρ) (hg ρ d) hs hw h1) fun D σ H h_16=>?_
  obtain ⟨H0,Hs0,la,Hs,f,q⟩:=h_16
  refine sE (k:=fun d=>match kt d ρ with | .ok ρ'=>.ok (.nx ρ') | _=>.no) f q fun d' v H1 Hs1 e1 s1 f1 r1=>?_
  rw [hr] at e1
  cases e1
  unfold wl at q
  rw [hr,bind_ok] at q
  refine ⟨H0,Hs0,la,Hs1,f1,r1,?_⟩
  cases hk:kt d ρ with
  | ok ρ'=>rw [hk] at q;exact fun σ' f'=>q σ' H1 Hs1 f'
  | ex x n=>rw [hk] at q;exact q.elim
  | no=>rw [hk] at q;exact q.elim
 | ex x n =>
  refine v4 (Ib (h ρ) (hg ρ .none) hs hw h1) fun D σ H h_17=>?_
  obtain ⟨H0,Hs0,la,Hs,f,q⟩:=h_17
  refine sE (k:=fun _=>.no) (D':=D) f (by unfold wl at q;rw [hr] at q ⊢;exact q) fun d' v H1 Hs1 e1 s1 f1 r1=>?_
  rw [hr] at e1;cases e1
 | no =>
  refine fun pins s σ H D I h_18=>?_
  obtain ⟨H0,Hs0,la,Hs,f,q⟩:=h_18
  unfold wl at q
  rw [hr] at q
  exact q.elim
end
end
section
def Lo (K:a5) (J:It) (ds:List D) (Hn Hs:Hp):Prop:=∀ H2 Hs2,cW Hn H2->cW Hs Hs2->cW Hs2 H2 ->
 (∀ i,i<ds.length->J.go i H2)/\(∀ i,ds.length<=i->J.stop i H2)/\∀ i x H3,i<ds.length->J.yld i H2 x H3->∃ d Hs3,ds[i]?=some d/\cx H2 Hs2 H3 Hs3/\RD K Hs3 x d
theorem ET {K:a5}{Hn Hs:Hp}{a:aa}{vs:List V}{ds:List D} (h:l5 K Hn a vs) (r:RDs K Hs vs ds):Lo K (Sv K a) ds Hn Hs:=fun H2 Hs2 e1 e2 e3=>by
 have q:=e1.seq h
 refine ⟨fun i hi=>?_,fun i hi=>⟨vs,q,by rw [r.length];exact hi⟩,fun i x H3 hi y=>?_⟩
 ·have hi':i<vs.length:=by rw [r.length];exact hi
  exact ⟨vs,vs[i],q,aC hi'⟩
 ·obtain ⟨rfl,y⟩:=y
  obtain ⟨d,k1,k2⟩:=r.get (y vs q)
  exact ⟨d,Hs2,k1,.refl e3,k2.same e2⟩
theorem Jd {K:a5}{Hn Hs:Hp}{a:aa}{vs:List V}{ds:List D} (h:jN K Hn a vs) (r:RDs K Hs vs ds):Lo K (Sw K a) ds Hn Hs:=fun H2 Hs2 e1 e2 e3=>by
 have q:=e1.tup h
 refine ⟨fun i hi=>?_,fun i hi=>⟨vs,q,by rw [r.length];exact hi⟩,fun i x H3 hi y=>?_⟩
 ·have hi':i<vs.length:=by rw [r.length];exact hi
  exact ⟨vs,vs[i],q,aC hi'⟩
 ·obtain ⟨rfl,y⟩:=y
  obtain ⟨d,k1,k2⟩:=r.get (y vs q)
  exact ⟨d,Hs2,k1,.refl e3,k2.same e2⟩
theorem Je {K:a5}{Hn Hs:Hp} (x:Str):Lo K (QF x) (m7 x) Hn Hs:=fun H2 Hs2 e1 e2 e3=>by
 have hl:(m7 x).length=x.cps.size:=by simp [m7]
 refine ⟨fun i hi=>by rw [hl] at hi;exact hi,fun i hi=>by rw [hl] at hi;exact hi,fun i v H3 hi y=>?_⟩
 obtain ⟨rfl,c,k1,rfl⟩:=y
 refine ⟨.str ⟨#[c]⟩,Hs2,?_,.refl e3,.str _⟩
 unfold m7
 rw [ay,fj,k1]
 rfl
def oP (lo:Int) (n:Nat):List D:=(bt n).map fun (k:Nat)=>aZ (lo + k)
theorem Jf {K:a5}{Hn Hs:Hp} (lo:Int) (n:Nat):Lo K (S2 lo n) (oP lo n) Hn Hs:=fun H2 Hs2 e1 e2 e3=>by
 have hl:(oP lo n).length=n:=by simp [oP]
 refine ⟨fun i hi=>by rw [hl] at hi;exact hi,fun i hi=>by rw [hl] at hi;exact hi,fun i v H3 hi y=>?_⟩
 obtain ⟨rfl,rfl⟩:=y
 refine ⟨.int (lo + i),Hs2,?_,.refl e3,.int _⟩
 rw [hl] at hi
 unfold oP
 rw [ay,kj hi]
 rfl
def gS (n:Nat):List D->List D
 | []=>[]
 | d::r=>.tuple [.int n,d]::gS (n + 1) r
theorem u6:∀ (ds:List D) (n i:Nat),(gS n ds)[i]?=(ds[i]?).map fun d=>dg [.int ((n + i:Nat):Int),d]
 | [],_,_=>by simp [gS]
 | d::r,n,0=>by simp [gS]
 | d::r,n,i + 1=>by
  simp only [gS,iX]
  rw [u6 r (n + 1) i,show n + 1 + i=n + (i + 1) by omega]
theorem u7:∀ (ds:List D) (n:Nat),(gS n ds).length=ds.length
 | [],_=>rfl
 | d::r,n=>by simp [gS,u7 r]
theorem Mz {K:a5}{Hn Hs:Hp}{a:aa}{vs:List V}{ds:List D} (h:jN K Hn a vs) (r:RDs K Hs vs ds):Lo K (T3 K a) (gS 0 ds) Hn Hs:=fun H2 Hs2 e1 e2 e3=>by
 have q:=e1.tup h
 have hl:=u7 ds 0
 refine ⟨fun i hi=>?_,fun i hi=>⟨vs,q,by rw [r.length];omega⟩,fun i x H3 hi y=>?_⟩
 ·have hi':i<vs.length:=by rw [r.length];omega
  exact ⟨vs,vs[i],q,aC hi'⟩
 ·obtain ⟨p,hp,rfl,y⟩:=y
  obtain ⟨x,k0,rfl⟩:=y vs q
  obtain ⟨d,k1,k2⟩:=r.get k0
  have st:=cx.new (o:=.tup [.int i,x]) e3 hp
  refine ⟨.tuple [.int i,d],_,?_,st,.tuple aX (.cons (.int _) (.cons ((k2.same e2).same st.sh) .nil))⟩
  rw [u6,k1]
  simp
def v7:List D->List D->List D
 | x::xs,y::ys=>.tuple [x,y]::v7 xs ys
 | _,_=>[]
theorem Bg:∀ (xs ys:List D) (i:Nat) (x y:D),xs[i]?=some x->ys[i]?=some y->(v7 xs ys)[i]?=some (.tuple [x,y])
 | x::xs,y::ys,0,_,_,h1,h2=>by simp at h1 h2;subst h1 h2;rfl
 | _::xs,_::ys,i + 1,x,y,h1,h2=>by
  simp only [iX] at h1 h2
  simp only [v7,iX]
  exact Bg xs ys i x y h1 h2
 | [],_,_,_,_,h1,_=>by simp at h1
 | _::_,[],_,_,_,_,h2=>by simp at h2
theorem Bh:∀ (xs ys:List D),(v7 xs ys).length=min xs.length ys.length
 | x::xs,y::ys=>by simp [v7,Bh xs ys]
 | [],_=>by simp [v7]
 | _::_,[]=>by simp [v7]
theorem Po {K:a5}{Hn Hs:Hp}{a b:aa}{vs ws:List V}{ds es:List D} (h:jN K Hn a vs) (r:RDs K Hs vs ds) (h':jN K Hn b ws) (r':RDs K Hs ws es):Lo K (T4 K a b) (v7 ds es) Hn Hs:=fun H2 Hs2 e1 e2 e3=>by
 have q:=e1.tup h
 have q':=e1.tup h'
 have hl:=Bh ds es
 refine ⟨fun i hi=>?_,fun i hi=>⟨vs,ws,q,q',by rw [r.length,r'.length];omega⟩,fun i x H3 hi y=>?_⟩
 ·have h1:i<vs.length:=by rw [r.length];omega
  have h2:i<ws.length:=by rw [r'.length];omega
  exact ⟨vs,ws,vs[i],ws[i],q,q',aC h1,aC h2⟩
 ·obtain ⟨p,hp,rfl,y⟩:=y
  obtain ⟨x,z,k0,k0',rfl⟩:=y vs ws q q'
  obtain ⟨d,k1,k2⟩:=r.get k0
  obtain ⟨d',k1',k2'⟩:=r'.get k0'
  have st:=cx.new (o:=.tup [x,z]) e3 hp
  exact ⟨.tuple [d,d'],_,Bg ds es i d d' k1 k1',st,.tuple aX (.cons ((k2.same e2).same st.sh) (.cons ((k2'.same e2).same st.sh) .nil))⟩
inductive Q_ (K:a5) (cls:Str->aa) (E:XK) (ρ:aq) (r:R (List D)) (σ:St) (H:Hp) (Q:It->Hp->Prop):Prop
 | mk (H0 Hs0:Hp) (la:Nat->Option aa) (Hs:Hp) (f:Fr K H0 Hs0 la ρ σ H Hs) (q:Fin K cls E H Hs r fun ds=>∀ J H' Hs' Hn,cx H Hs H' Hs'->cW Hn H'->Lo K J ds Hn Hs'->Q J H'):Q_ K cls E ρ r σ H Q
def Sc (K:a5) (cls:Str->aa) (E:XK) (ρ:aq) (r:R (List D)):TI:=Q_ K cls E ρ r
inductive R1 (K:a5) (cls:Str->aa) (E:XK) (ρ:aq) (r:R (List D)) (σ:St) (H:Hp) (Q:It->Hp->Prop):Prop
 | mk (H0 Hs0:Hp) (la:Nat->Option aa) (Hs:Hp) (f:Fr K H0 Hs0 la ρ σ H Hs) (q:Fin K cls E H Hs r fun ds=>∀ J H' Hs',cx H Hs H' Hs'->Lo K J ds Hs' Hs'->Q J H'):R1 K cls E ρ r σ H Q
def TZ (K:a5) (cls:Str->aa) (E:XK) (ρ:aq) (r:R (List D)):TI:=R1 K cls E ρ r
structure JI (c:C) (tg it:aO) (g:aq->R (List D)):Prop where of ::
 run:∀ ρ,PI c.X tg it (Sc c.X.K c.cls c.E ρ (g ρ))
instance {c:C}{tg it:aO}{g:aq->R (List D)}:CoeFun (JI c tg it g) (fun _=>∀ ρ,PI c.X tg it (Sc c.X.K c.cls c.E ρ (g ρ))):=⟨JI.run⟩
structure Bj (c:C) (tg it:aO) (g:aq->R (List D)):Prop where of ::
 run:∀ ρ,PI c.X tg it (TZ c.X.K c.cls c.E ρ (g ρ))
instance {c:C}{tg it:aO}{g:aq->R (List D)}:CoeFun (Bj c tg it g) (fun _=>∀ ρ,PI c.X tg it (TZ c.X.K c.cls c.E ρ (g ρ))):=⟨Bj.run⟩
theorem Gy {X:Cx}{tg e:aO}{t t':TI} (h:PI X tg e t) (m:∀ σ H Q,t' σ H Q->t σ H Q):PI X tg e t':=fun pins s σ H Q I q=>h pins s σ H Q I (m σ H Q q)
section
variable {c:C}{e a b l tg:aO}{g ga gb:aq->R D}{pos p:Pos}{gs:aq->R (List D)}
def qT:D->R (List D)
 | .list ds=>.ok ds
 | .tuple ds=>.ok ds
 | .str x=>.ok (m7 x)
 | _=>.no
def kA (g:aq->R D):aq->R (List D):=fun ρ=>(g ρ).bind qT
theorem g6 (h:JB c l g):JI c tg l (kA g):=.of fun ρ=>by
 cases hr:g ρ with
 | no=>exact fun pins s σ H Q I h_0=>by obtain ⟨H0,Hs0,la,Hs,f,q⟩:=h_0;exact by unfold kA at q;rw [hr] at q;exact q.elim
 | ex x n =>
  refine Gy (vj (h ρ)) fun σ H Q h_1=>?_
  obtain ⟨H0,Hs0,la,Hs,f,q⟩:=h_1
  refine one f q fun d v H1 Hs1 e1 s1 f1 r1=>?_
  rw [hr] at e1;cases e1
 | ok d =>
  cases d with
  | list ds =>
   refine Gy (vj (h ρ)) fun σ H Q h_2=>?_
   obtain ⟨H0,Hs0,la,Hs,f,q⟩:=h_2
   refine one f q fun d v H1 Hs1 e1 s1 f1 r1=>?_
   rw [hr] at e1;cases e1
   unfold kA at q
   rw [hr,bind_ok] at q
   obtain ⟨a,vs,rfl,qa,ra⟩:=r1.list f1.st.sub
   exact ⟨a,rfl,⟨vs,qa⟩,q _ H1 Hs1 H1 s1 (.refl _) (ET qa ra)⟩
  | tuple ds =>
   refine Gy (Ie (h ρ)) fun σ H Q h_3=>?_
   obtain ⟨H0,Hs0,la,Hs,f,q⟩:=h_3
   refine one f q fun d v H1 Hs1 e1 s1 f1 r1=>?_
   rw [hr] at e1;cases e1
   unfold kA at q
   rw [hr,bind_ok] at q
   obtain ⟨a,vs,rfl,qa,ra,_⟩:=r1.tuple f1.st.sub
   exact ⟨a,rfl,⟨vs,qa⟩,q _ H1 Hs1 H1 s1 (.refl _) (Jd qa ra)⟩
  | str x =>
   refine Gy (IM (h ρ)) fun σ H Q h_4=>?_
   obtain ⟨H0,Hs0,la,Hs,f,q⟩:=h_4
   refine one f q fun d v H1 Hs1 e1 s1 f1 r1=>?_
   rw [hr] at e1;cases e1
   unfold kA at q
   rw [hr,bind_ok] at q
   exact ⟨x,r1.str,q _ H1 Hs1 H1 s1 (.refl _) (Je x)⟩
  | none=>exact fun pins s σ H Q I h_5=>by obtain ⟨H0,Hs0,la,Hs,f,q⟩:=h_5;exact by unfold kA at q;rw [hr] at q;exact q.elim
  | bool _=>exact fun pins s σ H Q I h_6=>by obtain ⟨H0,Hs0,la,Hs,f,q⟩:=h_6;exact by unfold kA at q;rw [hr] at q;exact q.elim
  | int _=>exact fun pins s σ H Q I h_7=>by obtain ⟨H0,Hs0,la,Hs,f,q⟩:=h_7;exact by unfold kA at q;rw [hr] at q;exact q.elim
  | dict _=>exact fun pins s σ H Q I h_8=>by obtain ⟨H0,Hs0,la,Hs,f,q⟩:=h_8;exact by unfold kA at q;rw [hr] at q;exact q.elim
theorem zN (h:JE c l g):Bj c tg l (kA g):=.of fun ρ=>by
 cases hr:g ρ with
 | no=>exact fun pins s σ H Q I h_9=>by obtain ⟨H0,Hs0,la,Hs,f,q⟩:=h_9;exact by unfold kA at q;rw [hr] at q;exact q.elim
 | ex x n =>
  refine Gy (vj (h ρ)) fun σ H Q h_10=>?_
  obtain ⟨H0,Hs0,la,Hs,f,q⟩:=h_10
  refine xA f q fun d v H1 Hs1 e1 s1 f1 r1=>?_
  rw [hr] at e1;cases e1
 | ok d =>
  cases d with
  | list ds =>
   refine Gy (vj (h ρ)) fun σ H Q h_11=>?_
   obtain ⟨H0,Hs0,la,Hs,f,q⟩:=h_11
   refine xA f q fun d v H1 Hs1 e1 s1 f1 r1=>?_
   rw [hr] at e1;cases e1
   unfold kA at q
   rw [hr,bind_ok] at q
   cases r1 with
   | list qa ra=>exact ⟨_,rfl,⟨_,f1.st.sub.seq qa⟩,q _ H1 Hs1 s1 (ET qa ra)⟩
  | tuple ds =>
   refine Gy (Ie (h ρ)) fun σ H Q h_12=>?_
   obtain ⟨H0,Hs0,la,Hs,f,q⟩:=h_12
   refine xA f q fun d v H1 Hs1 e1 s1 f1 r1=>?_
   rw [hr] at e1;cases e1
   unfold kA at q
   rw [hr,bind_ok] at q
   cases r1 with
   | tuple qa ra=>exact ⟨_,rfl,⟨_,(jN.of (f1.st.sub _ _ qa))⟩,q _ H1 Hs1 s1 (Jd (.of qa) ra)⟩
  | str x =>
   refine Gy (IM (h ρ)) fun σ H Q h_13=>?_
   obtain ⟨H0,Hs0,la,Hs,f,q⟩:=h_13
   refine xA f q fun d v H1 Hs1 e1 s1 f1 r1=>?_
   rw [hr] at e1;cases e1
   unfold kA at q
   rw [hr,bind_ok] at q
   cases r1 with
   | str _=>exact ⟨x,rfl,q _ H1 Hs1 s1 (Je x)⟩
  | none=>exact fun pins s σ H Q I h_14=>by obtain ⟨H0,Hs0,la,Hs,f,q⟩:=h_14;exact by unfold kA at q;rw [hr] at q;exact q.elim
  | bool _=>exact fun pins s σ H Q I h_15=>by obtain ⟨H0,Hs0,la,Hs,f,q⟩:=h_15;exact by unfold kA at q;rw [hr] at q;exact q.elim
  | int _=>exact fun pins s σ H Q I h_16=>by obtain ⟨H0,Hs0,la,Hs,f,q⟩:=h_16;exact by unfold kA at q;rw [hr] at q;exact q.elim
  | dict _=>exact fun pins s σ H Q I h_17=>by obtain ⟨H0,Hs0,la,Hs,f,q⟩:=h_17;exact by unfold kA at q;rw [hr] at q;exact q.elim
theorem Bj.i (h:Bj c tg l gs):JI c tg l gs:=.of fun ρ=>Gy (h ρ) fun σ H Q ⟨H0,Hs0,la,Hs,f,q⟩=>⟨H0,Hs0,la,Hs,f,by
 cases hr:gs ρ with
 | ok ds=>rw [hr] at q;exact fun J H' Hs' s i=>q J H' Hs' Hs' s s.sub i
 | ex x n=>rw [hr] at q;exact q
 | no=>rw [hr] at q;exact q⟩
def DG:List D->R (List D)
 | [.int j]=>if -(2 ^ 62)<=j/\j<2 ^ 62 then .ok (oP 0 j.toNat) else .no
 | _=>.no
def lm (gs:aq->R (List D)):aq->R (List D):=fun ρ=>(gs ρ).bind DG
theorem iH (hg:Gl c.X "range") (hm:c.X.mg "range"=none) (ha:NU c [a] gs) (hs:ak [a] c.X.env=[(false,cp a c.X.env)]:=by rfl):Bj c tg (.Call (.Name "range" p) [a] [] pos) (lm gs):=.of fun ρ=>Gy (G1 hg hm (ha ρ) hs) fun σ H Q h_18=>by
 obtain ⟨H0,Hs0,la,Hs,f,q⟩:=h_18
 refine J0 f q fun ds vs H1 Hs1 e1 s1 f1 r1=>?_
 unfold lm at q
 rw [e1,bind_ok] at q
 unfold DG at q
 split at q
 ·rename_i j
  by_cases hj:-(2 ^ 62)<=j/\j<2 ^ 62
  ·rw [if_pos hj] at q
   obtain ⟨x,rfl,rx⟩:=r1.one
   exact ⟨j,by rw [rx.int],hj.1,hj.2,q _ H1 Hs1 s1 (Jf 0 _)⟩
  ·rw [if_neg hj] at q;exact q.elim
 ·exact q.elim
def Sd:List D->R (List D)
 | [.tuple ds]=>.ok (gS 0 ds)
 | _=>.no
def DH (gs:aq->R (List D)):aq->R (List D):=fun ρ=>(gs ρ).bind Sd
theorem RDs.one {K:a5}{H:Hp}{xs:List V}{d:D} (h:RDs K H xs [d]):∃ x,xs=[x]/\RD K H x d:=by
 cases h with | cons a t=>cases t;exact ⟨_,rfl,a⟩
theorem RDs.two {K:a5}{H:Hp}{xs:List V}{d e:D} (h:RDs K H xs [d,e]):∃ x y,xs=[x,y]/\RD K H x d/\RD K H y e:=by
 cases h with | cons a t=>cases t with | cons b t=>cases t;exact ⟨_,_,rfl,a,b⟩
theorem wo {elts:List aO}{x1}{tpos:Pos} (hg:Gl c.X "enumerate") (hm:c.X.mg "enumerate"=none) (ha:AF c [a] gs) (hs:ak [a] c.X.env=[(false,cp a c.X.env)]:=by rfl):Bj c (.Tuple elts x1 tpos) (.Call (.Name "enumerate" p) [a] [] pos) (DH gs):=.of fun ρ=>Gy (Mg hg hm (ha ρ) hs) fun σ H Q h_20=>by
 obtain ⟨H0,Hs0,la,Hs,f,q⟩:=h_20
 refine xB f q fun ds vs H1 Hs1 e1 s1 f1 r1=>?_
 unfold DH at q
 rw [e1,bind_ok] at q
 unfold Sd at q
 split at q
 ·obtain ⟨x,rfl,rx⟩:=r1.one
  cases rx with
  | tuple qa ra=>exact ⟨_,_,rfl,(jN.of (f1.st.sub _ _ qa)),q _ H1 Hs1 s1 (Mz (.of qa) ra)⟩
 ·exact q.elim
def zp:List D->R (List D)
 | [.tuple ds,.tuple es]=>.ok (v7 ds es)
 | _=>.no
def MA (gs:aq->R (List D)):aq->R (List D):=fun ρ=>(gs ρ).bind zp
theorem MB {elts:List aO}{x1}{tpos:Pos} (hg:Gl c.X "zip") (hm:c.X.mg "zip"=none) (ha:AF c [a,b] gs) (hs:ak [a,b] c.X.env=[(false,cp a c.X.env),(false,cp b c.X.env)]:=by rfl) (hs2:ak [b] c.X.env=[(false,cp b c.X.env)]:=by rfl) :
  Bj c (.Tuple elts x1 tpos) (.Call (.Name "zip" p) [a,b] [] pos) (MA gs):=.of fun ρ=>Gy (Pc hg hm (ha ρ) hs hs2) fun σ H Q h_21=>by
 obtain ⟨H0,Hs0,la,Hs,f,q⟩:=h_21
 refine xB f q fun ds vs H1 Hs1 e1 s1 f1 r1=>?_
 unfold MA at q
 rw [e1,bind_ok] at q
 unfold zp at q
 split at q
 ·obtain ⟨x,y,rfl,rx,ry⟩:=r1.two
  cases rx with
  | tuple qa ra =>
   cases ry with
   | tuple qb rb=>exact ⟨_,_,_,_,rfl,(jN.of (f1.st.sub _ _ qa)),(jN.of (f1.st.sub _ _ qb)),q _ H1 Hs1 s1 (Po (.of qa) ra (.of qb) rb)⟩
 ·exact q.elim
end
end
section
inductive T_ (K:a5) (cls:Str->aa) (E:XK) (ρ:aq) (r:R D) (σ:St) (H:Hp) (Q:VK):Prop
 | mk (H0 Hs0:Hp) (la:Nat->Option aa) (Hs:Hp) (f:Fr K H0 Hs0 la ρ σ H Hs) (q:Fin K cls E H Hs r fun d=>∀ a o H' Hs',cx H Hs H' Hs'->H' a=none->mY K Hs' o d->Q (.ref a) (upd H' a o)):T_ K cls E ρ r σ H Q
def TN (K:a5) (cls:Str->aa) (E:XK) (ρ:aq) (r:R D):TE:=T_ K cls E ρ r
structure JN (c:C) (e:aO) (g:aq->R D):Prop where of ::
 run:∀ ρ,PE c.X e (TN c.X.K c.cls c.E ρ (g ρ))
instance {c:C}{e:aO}{g:aq->R D}:CoeFun (JN c e g) (fun _=>∀ ρ,PE c.X e (TN c.X.K c.cls c.E ρ (g ρ))):=⟨JN.run⟩
section
variable {c:C}{e a b l tg:aO}{g ga gb:aq->R D}{pos p:Pos}{gs:aq->R (List D)}{es:List aO}{x:Str}
theorem Tf {K:a5}{cls:Str->aa}{E:XK}{ρ:aq}{r:R D}{σ:St}{H:Hp}{Q:VK} (q:TR K cls E ρ r σ H Q):TN K cls E ρ r σ H Q:=by
 obtain ⟨H0,Hs0,la,Hs,f,q⟩:=q
 refine ⟨H0,Hs0,la,Hs,f,?_⟩
 cases r with
 | ok d=>exact fun a o H' Hs' s n r=>q _ _ _ (s.trans (.new s.sub n)) (r.share (s.sub.free n))
 | ex x n=>exact q
 | no=>exact q
theorem JN.je (h:JN c e g):JE c e g:=.of fun ρ=>oG (h ρ) fun σ H Q q=>Tf q
theorem u9 (h:AF c es gs):JN c (.List es pos) (dI gs .list):=.of fun ρ=>oG (jO (h ρ)) fun σ H Q h_0=>by
 obtain ⟨H0,Hs0,la,Hs,f,q⟩:=h_0
 refine xB f q fun ds vs H1 Hs1 e1 s1 f1 r1=>?_
 unfold dI at q
 rw [e1,bind_ok] at q
 by_cases hl:ds.length<=1000
 ·rw [if_pos hl] at q
  exact ⟨bi (bU (by rw [r1.length];exact hl)),fun p hp=>q p _ H1 Hs1 s1 hp (.lst r1)⟩
 ·rw [if_neg hl] at q;exact q.elim
theorem EU:JN c (.Dict [] [] pos) (fun _=>.ok (.dict [])):=.of fun ρ=>oG Iy fun σ H Q h_1=>by obtain ⟨H0,Hs0,la,Hs,f,q⟩:=h_1;exact fun p hp=>q p _ H Hs (.refl f.st.sub) hp (.dK .nil)
def g9 (i:Nat) (g:aq->R D):aq->R Fl:=fun ρ=>(g ρ).bind fun d=>.ok (.nx (ρ.set i (.own d)))
theorem sN {K:a5}{cls:Str->aa}{E:XK}{ρ:aq}{r:R D}{k:D->R Fl}{σ:St}{H:Hp}{H0 Hs0 Hs:Hp}{la:Nat->Option aa}{D':qM}{Q:V->Hp->Prop} (f:Fr K H0 Hs0 la ρ σ H Hs)
  (h:m9 K cls E H0 Hs0 la D' (r.bind k)) (m:∀ d a o H' Hs',r=.ok d->Fr K H0 Hs0 la ρ σ H' Hs'->H' a=none->mY K Hs' o d->Q (.ref a) (upd H' a o)):TN K cls E ρ r σ H Q:=by
 refine ⟨H0,Hs0,la,Hs,f,?_⟩
 cases r with
 | ok d=>exact fun a o H' Hs' s n r=>m d a o H' Hs' rfl (f.step s) n r
 | ex c n=>exact fun H' Hs' s=>h H' Hs' (f.st.trans s)
 | no=>exact h
theorem js (i:Nat) {pos':Pos} (h:JN c e g) (hN:c.X.N.Nodup) (hi:c.X.N[i]?=some x:=by rfl) (hx:LP c.X.env.scope x:=by first | exact eP rfl | exact cY rfl) (hs:fB e (some (.Name x pos')) pos.line c.X.env=pure false:=by rfl)
  (hf:c.X.fn x=true\/c.X.env.scope.names.lookup x=some .local:=by first | exact .inl rfl | exact .inr rfl | assumption):JS c (.Assign [.Name x pos'] e pos) (g9 i g):=.of fun ρ=>v4 (vM hN hi hx (h ρ) hs hf) fun D σ H h_2=>by
 obtain ⟨H0,Hs0,la,Hs,f,q⟩:=h_2
 refine sN f q fun d a o H1 Hs1 e1 f1 n1 r1=>?_
 unfold g9 at q
 rw [e1,bind_ok] at q
 exact q _ _ Hs1 (f1.setO i n1 r1)
def Gz {α:Type}:R α->R α
 | .ex _ _=>.no
 | r=>r
theorem EV {α:Type}{r:R α}{a:α} (h:Gz r=.ok a):r=.ok a:=by
 cases r<;>first | exact h | cases h
def gy (f:D->R (Option D)):List D->R (List D)
 | []=>.ok []
 | d::r=>(f d).bind fun o=>(gy f r).bind fun ys=>.ok (match o with
  | some y=>y::ys
  | none=>ys)
theorem wp {f:D->R (Option D)}{d:D}{r ys:List D} (h:gy f (d::r)=.ok ys):∃ o zs,f d=.ok o/\gy f r=.ok zs/\ys=o.toList++zs:=by
 unfold gy at h
 cases hf:f d with
 | ok o =>
  rw [hf,bind_ok] at h
  cases hm:gy f r with
  | ok zs =>
   rw [hm,bind_ok] at h
   cases h
   cases o<;>exact ⟨_,zs,rfl,rfl,rfl⟩
  | ex x n=>rw [hm] at h;cases h
  | no=>rw [hm] at h;cases h
 | ex x n=>rw [hf] at h;cases h
 | no=>rw [hf] at h;cases h
def Lp:Sl->Sl
 | .own d=>.lck d
 | .ow2 _=>.no
 | s=>s
def mD (nt:Nat) (ix:List Nat) (ρ:aq):aq:=bd nt Sl.no++ix.map fun i=>Lp ((ρ[i]?).getD .no)
def R4 (nt:Nat):D->aq->R aq:=match nt with
 | 1=>bF 0
 | 2=>jD 2 (bZ (bF 0) (bZ (bF 1) jX))
 | _=>fun _ _=>.no
def ib (nt:Nat) (ρ:aq) (gt:aq->R Bool) (ge:aq->R D):D->R (Option D):=fun d=>Gz ((R4 nt d ρ).bind fun ρ'=>(gt ρ').bind fun b=>if b then (ge ρ').bind fun y=>.ok (some y) else .ok none)
def dZ (nt:Nat) (ix:List Nat) (gi:aq->R (List D)) (gt:aq->R Bool) (ge:aq->R D):aq->R D:=fun ρ=>(gi ρ).bind fun ds=>if ds.length<=1000 then (gy (ib nt (mD nt ix ρ) gt ge) ds).bind fun ys=>.ok (.list ys) else .no
structure R5 (c:C) (ifs:List aO) (g:aq->R Bool):Prop where of ::
 run:∀ ρ,Lm c.X ifs (Hz c.X.K c.cls c.E ρ (g ρ))
instance {c:C}{ifs:List aO}{g:aq->R Bool}:CoeFun (R5 c ifs g) (fun _=>∀ ρ,Lm c.X ifs (Hz c.X.K c.cls c.E ρ (g ρ))):=⟨R5.run⟩
theorem eE:R5 c [] (fun _=>.ok true):=.of fun ρ pins s σ H Q I h_3=>by obtain ⟨H0,Hs0,la,Hs,f,q⟩:=h_3;exact Mc pins s σ H Q I (q H Hs (.refl f.st.sub))
theorem sA {gt:aq->R Bool} (h:JT c e gt):R5 c [e] gt:=.of fun ρ=>Md (h ρ)
def GA (K:a5) (nt:Nat):TG:=match nt with
 | 1=>ux 0
 | _=>OP K 2 (L2.ac (ux 0) (L2.ac (ux 1) L2.aH))
theorem zO {K:a5}{nt:Nat} (h:nt=1\/nt=2):NN nt (GA K nt):=by
 rcases h with rfl | rfl
 ·exact IA (by decide)
 ·exact Me (by decide) (by decide)
theorem Bk {K:a5}{nt:Nat}{H0 Hs0 H Hs:Hp}{la:Nat->Option aa}{ρ ρ':aq}{σ:St}{v:V}{d:D}{Q:St->Hp->Prop} (hnt:nt=1\/nt=2) (f:Fr K H0 Hs0 la ρ σ H Hs) (r:RD K Hs v d) (hb:R4 nt d ρ=.ok ρ')
  (q:∀ σ',Fr K H0 Hs0 la ρ' σ' H Hs->Q σ' H):GA K nt v σ H Q:=by
 rcases hnt with rfl | rfl
 ·cases hb
  exact q _ (f.set 0 r)
 ·unfold R4 jD at hb
  simp only at hb
  cases r with
  | @tuple p xs ds hq rs =>
   simp only at hb
   split at hb
   ·rename_i hl
    cases rs with
    | nil=>cases hl
    | cons r1 rs =>
     cases rs with
     | nil=>cases hl
     | cons r2 rs =>
      cases rs with
      | nil =>
       cases hb
       exact ⟨p,_,rfl,(jN.of (f.st.sub _ _ hq)),rfl,_,_,rfl,_,_,rfl,rfl,q _ ((f.set 0 r1).set 1 r2)⟩
      | cons _ _=>simp at hl
   ·cases hb
  | none=>cases hb
  | bool _=>cases hb
  | int _=>cases hb
  | str _=>cases hb
  | list _ _=>cases hb
  | dictK _ _=>cases hb
  | dictT _ _ _=>cases hb
  | dictF _ _ _=>cases hb
theorem Fr.block {K:a5}{H0 Hs0 H Hs:Hp}{la:Nat->Option aa}{ρ:aq}{σ:St} (f:Fr K H0 Hs0 la ρ σ H Hs) (nt:Nat) (ix:List Nat):∃ la',Fr K H Hs la' (mD nt ix ρ) (L2.iS nt ix σ) H Hs:=by
 have lk:∀ (j:Nat) (d:D),(mD nt ix ρ)[j]?=some (Sl.lck d)->∃ a o,(L2.iS nt ix σ)[j]?=some (some (V.ref a))/\H a=some o/\Hs a=none/\mY K Hs o d:=fun j d h=>by
  unfold mD at h
  by_cases hj:j<nt
  ·rw [bn (by simpa using hj),bD,if_pos hj] at h;cases h
  ·have hj:nt<=j:=by omega
   rw [aY (by simpa using hj),cE,ay] at h
   cases hi:ix[j - nt]? with
   | none=>rw [hi] at h;cases h
   | some i =>
    rw [hi] at h
    have at_:∀ v,σ[i]?=some (some v)->(L2.iS nt ix σ)[j]?=some (some v):=fun v k1=>by
     unfold L2.iS
     rw [aY (by simpa using hj),cE,ay,hi]
     simp [k1]
    cases hr:ρ[i]? with
    | none=>simp only [dh,hr,gf,Lp] at h;cases h
    | some s =>
     simp only [dh,hr,jq] at h
     cases s with
     | own d' =>
      cases h
      obtain ⟨a,o,k1,k2,k3,k4,k5⟩:=f.ow i d hr
      exact ⟨a,o,at_ _ k1,k2,k3,k5⟩
     | lck d' =>
      cases h
      obtain ⟨a,o,k1,k2,k3,k4,k5,k6⟩:=f.lk i d hr
      exact ⟨a,o,at_ _ k1,k3,k4,k6⟩
     | no=>cases h
     | shr _=>cases h
     | ow2 _=>cases h
 have no2:∀ (j:Nat) (d:List (List D)),¬ (mD nt ix ρ)[j]?=some (Sl.ow2 d):=fun j d h=>by
  unfold mD at h
  by_cases hj:j<nt
  ·rw [bn (by simpa using hj),bD,if_pos hj] at h;cases h
  ·have hj:nt<=j:=by omega
   rw [aY (by simpa using hj),cE,ay] at h
   cases hi:ix[j - nt]? with
   | none=>rw [hi] at h;cases h
   | some i =>
    rw [hi] at h
    cases hr:ρ[i]? with
    | none=>simp only [dh,hr,gf,Lp] at h;cases h
    | some s =>
     simp only [dh,hr,jq] at h
     cases s<;>cases h
 refine ⟨fun j=>match (mD nt ix ρ)[j]?,(L2.iS nt ix σ)[j]? with
  | some (Sl.lck _),some (some (V.ref a))=>some a
  | _,_=>none,.refl f.st.sub,by simp [mD,L2.iS],fun j d h=>?_,fun j d h=>?_,fun j d h=>?_,fun j k d1 d2 a h1 h2 _ _=>?_,fun j a h=>?_,fun j d h=>(no2 j d h).elim,fun j k d1 d2 h1 _=>(no2 j d1 h1).elim⟩
 case refine_3 =>
  obtain ⟨a,o,k1,k2,k3,k4⟩:=lk j d h
  exact ⟨a,o,k1,by rw [h,k1],k2,k3,k2,k4⟩
 case refine_5 =>
  split at h
  ·rename_i d a' h1 h2
   cases h
   obtain ⟨a',o,k1,k2,_⟩:=lk j d h1
   rw [h2] at k1
   cases k1
   exact ⟨o,k2⟩
  ·cases h
 all_goals
  unfold mD at *
 ·have h:=h
  by_cases hj:j<nt
  ·rw [bn (by simpa using hj),bD,if_pos hj] at h;cases h
  ·have hj:nt<=j:=by omega
   rw [aY (by simpa using hj),cE,ay] at h
   cases hi:ix[j - nt]? with
   | none=>rw [hi] at h;cases h
   | some i =>
    rw [hi] at h
    cases hr:ρ[i]? with
    | none=>simp only [dh,hr,gf,Lp] at h;cases h
    | some s =>
     simp only [dh,hr,jq] at h
     cases s with
     | shr d' =>
      cases h
      obtain ⟨v,k1,k2⟩:=f.sh i d hr
      refine ⟨v,?_,k2⟩
      unfold L2.iS
      rw [aY (by simpa using hj),cE,ay,hi]
      simp [k1]
     | no=>cases h
     | own _=>cases h
     | lck _=>cases h
     | ow2 _=>cases h
 ·have h:=h
  by_cases hj:j<nt
  ·rw [bn (by simpa using hj),bD,if_pos hj] at h;cases h
  ·have hj:nt<=j:=by omega
   rw [aY (by simpa using hj),cE,ay] at h
   cases hi:ix[j - nt]? with
   | none=>rw [hi] at h;cases h
   | some i =>
    rw [hi] at h
    cases hr:ρ[i]? with
    | none=>simp only [dh,hr,gf,Lp] at h;cases h
    | some s =>
     simp only [dh,hr,jq] at h
     cases s<;>cases h
 ·have h1:=h1
  by_cases hj:j<nt
  ·rw [bn (by simpa using hj),bD,if_pos hj] at h1;cases h1
  ·have hj:nt<=j:=by omega
   rw [aY (by simpa using hj),cE,ay] at h1
   cases hi:ix[j - nt]? with
   | none=>rw [hi] at h1;cases h1
   | some i =>
    rw [hi] at h1
    cases hr:ρ[i]? with
    | none=>simp only [dh,hr,gf,Lp] at h1;cases h1
    | some s =>
     simp only [dh,hr,jq] at h1
     cases s<;>cases h1
theorem wq {f:D->R (Option D)} (h:∀ d c n,f d≠.ex c n):∀ (ds:List D) (c:Str) (n:Option D),gy f ds≠.ex c n
 | [],c,n=>fun e=>by cases e
 | d::r,c,n=>fun e=>by
  unfold gy at e
  cases hf:f d with
  | ok o =>
   rw [hf,bind_ok] at e
   cases hm:gy f r with
   | ok zs=>rw [hm,bind_ok] at e;cases e
   | ex x k=>exact wq h r x k hm
   | no=>rw [hm] at e;cases e
  | ex x k=>exact h d x k hf
  | no=>rw [hf] at e;cases e
theorem Bl (nt:Nat) (ρ:aq) (gt:aq->R Bool) (ge:aq->R D) (d:D) (c:Str) (n:Option D):ib nt ρ gt ge d≠.ex c n:=by
 unfold ib Gz
 split<;>first | exact fun e=>by cases e | skip
 rename_i h
 exact fun e=>h c n e
inductive U0 (K:a5) (f:D->R (Option D)) (ds ys:List D) (H1 Hs1:Hp) (i m:Nat) (acc:List V) (H':Hp):Prop
 | mk (done bA zs ya Hs':_) (h0:ds=done++bA) (h1:done.length=i) (h2:bA.length=m) (h3:cx H1 Hs1 H' Hs') (h4:RDs K Hs' acc ya) (h5:ya.length<=i) (h6:gy f bA=.ok zs) (h7:ys=ya++zs):U0 K f ds ys H1 Hs1 i m acc H'
theorem EW {K:a5}{cls:Str->aa}{E:XK}{nt:Nat}{ix:List Nat}{gi:aq->R (List D)}{gt:aq->R Bool}{ge:aq->R D}{ρ:aq}{σ:St}{H:Hp}{Q:VK} (hnt:nt=1\/nt=2)
  (q:TN K cls E ρ (dZ nt ix gi gt ge ρ) σ H Q) :
  Iz nt ix (Sc K cls E ρ (gi ρ)) (GA K nt) (fun σ H Q=>∃ ρ',Hz K cls E0 ρ' (gt ρ') σ H Q) (fun σ H Q=>∃ ρ',TR K cls E0 ρ' (ge ρ') σ H Q) σ H Q:=by
 obtain ⟨H0,Hs0,la,Hs,f,q⟩:=q
 refine ⟨H0,Hs0,la,Hs,f,?_⟩
 unfold dZ at q
 cases hi:gi ρ with
 | no=>rw [hi] at q;exact q
 | ex x n=>rw [hi] at q;exact q
 | ok ds =>
  rw [hi,bind_ok] at q
  intro J H1 Hs1 Hn s1 sn it
  by_cases hl:ds.length<=1000
  ·rw [if_pos hl] at q
   cases hm:gy (ib nt (mD nt ix ρ) gt ge) ds with
   | no=>rw [hm] at q;exact q.elim
   | ex x n=>exact (wq (Bl _ _ _ _) _ _ _ hm).elim
   | ok ys =>
    rw [hm,bind_ok] at q
    obtain ⟨lb,fb⟩:=(f.step s1).block nt ix
    refine ⟨U0 K (ib nt (mD nt ix ρ) gt ge) ds ys H1 Hs1,
     ⟨ds.length,[],ds,ys,[],Hs1,rfl,rfl,rfl,.refl s1.sub,.nil,ck _,hm,rfl⟩,?_⟩
    rintro i m acc H' ⟨done,bA,zs,ya,Hs',hds,hdl,hrl,st,ra,yl,hz,hy⟩
    obtain ⟨igo,istop,iyld⟩:=it H' Hs' (sn.trans st.all) st.sh st.sub
    cases bA with
    | nil =>
     left
     cases hz
     rw [bH] at hds hy
     subst hy hds
     exact ⟨istop i (by omega),fun p hp=>q p _ H' Hs' (s1.trans st) hp (.lst ra)⟩
    | cons d bA =>
     right
     have hil:i<ds.length:=by rw [hds,aR,bg];omega
     refine ⟨igo i hil,bU (by rw [ra.length];omega),fun x H2 hyl=>?_⟩
     obtain ⟨d',Hs2,hd,s2,r2⟩:=iyld i x H2 hil hyl
     have hdd:d'=d:=by
      rw [hds,aY (by omega)] at hd
      simp [hdl] at hd
      exact hd.symm
     subst hdd
     obtain ⟨o,zs',hf,hz',rfl⟩:=wp hz
     have hf:=EV hf
     cases hb:R4 nt d' (mD nt ix ρ) with
     | no=>rw [hb] at hf;cases hf
     | ex x n=>rw [hb] at hf;cases hf
     | ok ρ' =>
      rw [hb,bind_ok] at hf
      refine Bk hnt ((fb.step st).step s2) r2 hb fun σ2 f2=>⟨ρ',?_⟩
      refine ⟨_,_,_,Hs2,f2,?_⟩
      cases ht:gt ρ' with
      | no=>rw [ht] at hf;cases hf
      | ex x n=>rw [ht] at hf;cases hf
      | ok b =>
       rw [ht,bind_ok] at hf
       intro H3 Hs3 s3
       cases b with
       | false =>
        rw [if_neg aL] at hf
        cases hf
        refine zr ⟨bA.length,by rw [<- hrl];simp,done++[d'],bA,zs',ya,Hs3,by rw [hds];simp,by simp [hdl],rfl,(st.trans s2).trans s3,ra.same (s2.trans s3).sh,by omega,hz',by simpa using hy⟩
       | true =>
        rw [if_pos rfl] at hf
        refine Dj ⟨ρ',_,_,_,Hs3,f2.step s3,?_⟩
        cases he:ge ρ' with
        | no=>rw [he] at hf;cases hf
        | ex x n=>rw [he] at hf;cases hf
        | ok y =>
         rw [he,bind_ok] at hf
         cases hf
         intro v H4 Hs4 s4 r4
         exact ⟨bA.length,by rw [<- hrl];simp,done++[d'],bA,zs',ya++[y],Hs4,by rw [hds];simp,by simp [hdl],rfl,((st.trans s2).trans s3).trans s4,(ra.same ((s2.trans s3).trans s4).sh).append (.cons r4 .nil),by simp;omega,hz',by rw [hy];simp⟩
  ·rw [if_neg hl] at q;exact q.elim
def C.comp (c:C) (N':List Str) (scope:dG) (cl:List (Str×aa)) (A:aa) (s₀:a9) (H₀:Hp) (ex:List aa) (pn:List (aa×Obj)):C:=⟨cy c.X N' scope cl A s₀ H₀ ex pn,c.cls,E0⟩
variable {elt iter:aO}{ifs:List aO}{scope:dG}{N':List Str}{nt:Nat}{ix:List Nat}{gi:aq->R (List D)}{gt:aq->R Bool}{ge:aq->R D}
def sB (c:C) (N':List Str) (scope:dG) (nt:Nat) (tg:aO) (ifs:List aO) (elt:aO) (gt:aq->R Bool) (ge:aq->R D):Prop :=
 ∀ cl A s₀ H₀ ex pn,PG (c.comp N' scope cl A s₀ H₀ ex pn).X tg (GA c.X.K nt)/\R5 (c.comp N' scope cl A s₀ H₀ ex pn) ifs gt/\JE (c.comp N' scope cl A s₀ H₀ ex pn) elt ge
theorem sB.at (h:sB c N' scope nt tg ifs elt gt ge):∀ cl A s₀ H₀ ex pn,PG (cy c.X N' scope cl A s₀ H₀ ex pn) tg (GA c.X.K nt)/\Lm (cy c.X N' scope cl A s₀ H₀ ex pn) ifs (fun σ H Q=>∃ ρ',Hz c.X.K c.cls E0 ρ' (gt ρ') σ H Q) /\
  PE (cy c.X N' scope cl A s₀ H₀ ex pn) elt (fun σ H Q=>∃ ρ',TR c.X.K c.cls E0 ρ' (ge ρ') σ H Q):=fun cl A s₀ H₀ ex pn=>by
 obtain ⟨h1,h2,h3⟩:=h cl A s₀ H₀ ex pn
 exact ⟨h1,fun pins s σ H Q I h_4=>by obtain ⟨ρ',q⟩:=h_4;exact h2 ρ' pins s σ H Q I q,fun pins s σ H Q I h_5=>by obtain ⟨ρ',q⟩:=h_5;exact h3 ρ' pins s σ H Q I q⟩
theorem fc (nt:Nat) (hnt:nt=1\/nt=2) (hc:c.X.calm=true) (S:lZ c.X scope N' nt ix) (hi:JI c tg iter gi) (hb:sB c N' scope nt tg ifs elt gt ge) (hs:∀ x,dm iter c.X.env x=pure x:=by intro _;rfl) :
  JN c (.ListComp elt [⟨tg,iter,ifs,0⟩] scope pos) (dZ nt ix gi gt ge):=.of fun ρ=>oG (AY hc S (zO hnt) (hi ρ) hb.at hs) fun σ H Q q=>EW hnt q
theorem jj (i:Nat) {spos py:Pos} (nt:Nat) (hnt:nt=1\/nt=2) (hN:c.X.N.Nodup) (hc:c.X.calm=true) (S:lZ c.X scope N' nt ix) (hi:JI c tg iter gi) (hb:sB c N' scope nt tg ifs elt gt ge)
  (hiN:c.X.N[i]?=some x:=by rfl) (hy:c.X.env.scope.names.lookup x=some .local:=by rfl)
  (hsw:fB (.ListComp elt [⟨tg,iter,ifs,0⟩] scope pos) (some (.Name x py)) spos.line c.X.env=pure true:=by rfl)
  (hs:∀ x,dm iter c.X.env x=pure x:=by intro _;rfl):JS c (.Assign [.Name x py] (.ListComp elt [⟨tg,iter,ifs,0⟩] scope pos) spos) (g9 i (dZ nt ix gi gt ge)):=.of fun ρ=>v4 (Dm hN hiN hy hc S (zO hnt) (hi ρ) hb.at hsw hs) fun D σ H h_6=>by
 obtain ⟨H0,Hs0,la,Hs,f,q⟩:=h_6
 refine EW (Q:=fun x H1=>D.nx (σ.set i (some x)) H1) hnt (sN f q fun d a o H1 Hs1 e1 f1 n1 r1=>?_)
 unfold g9 at q
 rw [e1,bind_ok] at q
 exact q _ _ Hs1 (f1.setO i n1 r1)
end
end
section
theorem R6 {X:Cx}{st:cw}{t:TS} (h:PS X.nox st t):PS X st t:=fun pins s σ H D I hw =>
 b6 (h pins s σ H D (I.wish _) hw) (fun _ _ q=>q.unwish) fun _ _ z=>e6 z
def C.nox (c:C):C:=⟨c.X.nox,c.cls,E0⟩
def jk (k:D->aq->R aq) (b:aq->R Fl):List D->aq->R Fl
 | [],ρ=>.ok (.nx ρ)
 | d::r,ρ=>match k d ρ with
  | .ok ρ1=>match b ρ1 with
   | .ok (.nx ρ')=>jk k b r ρ'
   | .ok (.ct ρ')=>jk k b r ρ'
   | .ok (.bk ρ')=>.ok (.nx ρ')
   | .ok (.rt d)=>.ok (.rt d)
   | _=>.no
  | _=>.no
section
variable {K:a5}{cls:Str->aa}{E:XK}
inductive U1 (K:a5) (cls:Str->aa) (E:XK) (H0 Hs0:Hp) (la:Nat->Option aa) (D':qM) (kt:D->aq->R aq) (gb:aq->R Fl) (ds:List D) (i m:Nat) (σ:St) (H:Hp):Prop
 | mk (done bA ρ Hs:_) (h0:ds=done++bA) (h1:done.length=i) (h2:bA.length=m) (h3:Fr K H0 Hs0 la ρ σ H Hs) (h4:m9 K cls E H0 Hs0 la D' (jk kt gb bA ρ)):U1 K cls E H0 Hs0 la D' kt gb ds i m σ H
theorem Pp {J:It}{Hn H0 Hs0:Hp}{la:Nat->Option aa}{ds:List D}{kt:D->aq->R aq}{gb:aq->R Fl}{ρ:aq}{σ:St}{H Hs:Hp}{D':qM}{tg:TG}{tb:TS}
  (it:Lo K J ds Hn Hs0) (hn:cW Hn H0) (f:Fr K H0 Hs0 la ρ σ H Hs)
  (htg:∀ ρ d v σ H Q,QY K ρ d (kt d ρ) v σ H Q->tg v σ H Q) (htb:∀ ρ D σ H,SR K cls E0 ρ (gb ρ) D σ H->tb D σ H)
  (q:m9 K cls E H0 Hs0 la D' (jk kt gb ds ρ)) :
  Sy tg tb D' σ J H:=by
 refine ⟨U1 K cls E H0 Hs0 la D' kt gb ds,⟨ds.length,[],ds,ρ,Hs,rfl,rfl,rfl,f,q⟩,?_⟩
 rintro i m σ H ⟨done,bA,ρ,Hs,hds,hdl,hrl,f,q⟩
 obtain ⟨igo,istop,iyld⟩:=it H Hs (hn.trans f.st.all) f.st.sh f.st.sub
 cases bA with
 | nil =>
  rw [bH] at hds
  subst hds
  exact .inl ⟨istop i (by omega),q σ H Hs f⟩
 | cons d bA =>
  have hil:i<ds.length:=by rw [hds,aR,bg];omega
  refine .inr ⟨igo i hil,fun σ' H'=>∃ ρ' Hs',Fr K H0 Hs0 la ρ' σ' H' Hs'/\m9 K cls E H0 Hs0 la D' (jk kt gb bA ρ'),fun σ' H' ⟨ρ',Hs',f',q'⟩=>⟨bA.length,by rw [<- hrl];simp,done++[d],bA,ρ',Hs',by rw [hds];simp,by simp [hdl],rfl,f',q'⟩,fun x H2 hyl=>?_⟩
  obtain ⟨d',Hs2,hd,s2,r2⟩:=iyld i x H2 hil hyl
  have hdd:d'=d:=by
   rw [hds,aY (by omega)] at hd
   simp [hdl] at hd
   exact hd.symm
  subst hdd
  unfold jk at q
  refine htg ρ d' x σ H2 _ ⟨H0,Hs0,la,Hs2,f.step s2,r2,?_⟩
  cases hk:kt d' ρ with
  | ex c n=>rw [hk] at q;exact q
  | no=>rw [hk] at q;exact q
  | ok ρ1 =>
   rw [hk] at q
   intro σ2 f2
   refine htb ρ1 _ σ2 H2 ⟨H0,Hs0,la,Hs2,f2,?_⟩
   cases hg:gb ρ1 with
   | no=>simp only [hg] at q;exact q.elim
   | ex c n=>simp only [hg] at q;exact q.elim
   | ok fl =>
    simp only [hg] at q
    cases fl with
    | nx ρ'=>exact fun σ' H' Hs' f'=>⟨ρ',Hs',f',q⟩
    | ct ρ'=>exact fun σ' H' Hs' f'=>⟨ρ',Hs',f',q⟩
    | bk ρ'=>exact fun σ' H' Hs' f'=>q σ' H' Hs' f'
    | rt d=>exact q
def sC (A B:Hp):Hp:=fun b=>match A b with
 | some o=>some o
 | none=>B b
theorem qU {A B:Hp}:cW A (sC A B):=fun b o e=>by unfold sC;rw [e]
theorem pE {A B:Hp}{b:aa} (h:A b=none):sC A B b=B b:=by unfold sC;rw [h]
theorem Jg {A B H:Hp} (h1:cW A H) (h2:cW B H):cW (sC A B) H:=fun b o e=>by
 cases h:A b with
 | some u=>unfold sC at e;rw [h] at e;cases e;exact h1 b o h
 | none=>rw [pE h] at e;exact h2 b o e
theorem Pq {A B H:Hp} (h1:cW A H) (h2:cW B H):cW B (sC A B):=fun b o e=>by
 cases h:A b with
 | some u =>
  unfold sC
  rw [h]
  have:=h1 b u h
  rw [h2 b o e] at this
  exact this.symm
 | none=>rw [pE h];exact e
theorem Fr.into {H0 Hs0 H Hs:Hp}{la:Nat->Option aa}{ρ:aq}{σ:St} (f:Fr K H0 Hs0 la ρ σ H Hs):Fr K (sC H0 Hs) Hs la ρ σ H Hs:=by
 have sub:=Jg f.st.all f.st.sub
 refine ⟨⟨sub,.refl _,f.st.sub,fun a o e _ z=>z⟩,f.len,f.sh,fun i d h=>?_,fun i d h=>?_,f.dj,fun i a e=>let ⟨o,k⟩:=f.lh i a e;⟨o,qU _ _ k⟩,fun i d h=>?_,f.u2⟩
 ·obtain ⟨a,o,h1,h2,h3,h4,h5⟩:=f.ow i d h
  exact ⟨a,o,h1,h2,h3,by rw [pE h4];exact h3,h5⟩
 ·obtain ⟨a,o,h1,h2,h3,h4,h5,h6⟩:=f.lk i d h
  exact ⟨a,o,h1,h2,h3,h4,qU _ _ h5,h6⟩
 ·obtain ⟨a,as,O⟩:=f.o2 i d h
  exact ⟨a,as,O.at_,O.ob,O.nd,fun b hb=>⟨(O.out b hb).1,by rw [pE (O.out b hb).2];exact (O.out b hb).1⟩,O.dj,O.inn⟩
theorem cx.outof {H0 Hs0 H1 Hs1 H' Hs':Hp} (s:cx H0 Hs0 H1 Hs1) (t:cx (sC H0 Hs1) Hs1 H' Hs'):cx H0 Hs0 H' Hs' :=
 ⟨qU.trans t.all,s.sh.trans t.sh,t.sub,fun a o e n z=>t.out a o (qU _ _ e) n (s.out a o e n z)⟩
theorem Fr.outof {H0 Hs0 H1 Hs1 H' Hs':Hp}{la:Nat->Option aa}{ρ1 ρ:aq}{σ1 σ:St} (f1:Fr K H0 Hs0 la ρ1 σ1 H1 Hs1) (f:Fr K (sC H0 Hs1) Hs1 la ρ σ H' Hs'):Fr K H0 Hs0 la ρ σ H' Hs':=by
 refine ⟨f1.st.outof f.st,f.len,f.sh,fun i d h=>?_,fun i d h=>?_,f.dj,f1.lh,fun i d h=>?_,f.u2⟩
 ·obtain ⟨a,o,h1,h2,h3,h4,h5⟩:=f.ow i d h
  exact ⟨a,o,h1,h2,h3,qU.free h4,h5⟩
 ·obtain ⟨a,o,h1,h2,h3,h4,h5,h6⟩:=f.lk i d h
  obtain ⟨o',e⟩:=f1.lh i a h2
  have e':=qU (B:=Hs1) _ _ e
  rw [h5] at e'
  cases e'
  exact ⟨a,o,h1,h2,h3,h4,e,h6⟩
 ·obtain ⟨a,as,O⟩:=f.o2 i d h
  exact ⟨a,as,O.at_,O.ob,O.nd,fun b hb=>⟨(O.out b hb).1,qU.free (O.out b hb).2⟩,O.dj,O.inn⟩
end
end
section
section
variable {K:a5}{cls:Str->aa}{E:XK}
theorem m9.into {H0 Hs0 H1 Hs1:Hp}{la:Nat->Option aa}{ρ1:aq}{σ1:St}{D':qM}{r:R Fl} (f1:Fr K H0 Hs0 la ρ1 σ1 H1 Hs1) (q:m9 K cls E H0 Hs0 la D' r):m9 K cls E (sC H0 Hs1) Hs1 la D' r:=by
 cases r with
 | no=>exact q
 | ex c n=>exact fun H' Hs' s=>q H' Hs' (f1.st.outof s)
 | ok fl =>
  cases fl with
  | nx ρ=>exact fun σ' H' Hs' f=>q σ' H' Hs' (f1.outof f)
  | bk ρ=>exact fun σ' H' Hs' f=>q σ' H' Hs' (f1.outof f)
  | ct ρ=>exact fun σ' H' Hs' f=>q σ' H' Hs' (f1.outof f)
  | rt d=>exact fun v H' Hs' s r=>q v H' Hs' (f1.st.outof s) r
end
section
variable {c:C}{e a b iter tg:aO}{g ga gb:aq->R D}{pos p:Pos}{gi:aq->R (List D)}{body:List cw}{x:Str}{kt:D->aq->R aq}{gbd:aq->R Fl}
def nY (gi:aq->R (List D)) (kt:D->aq->R aq) (gb:aq->R Fl):aq->R Fl:=fun ρ=>match gi ρ with
 | .ok ds=>jk kt gb ds ρ
 | _=>.no
theorem kC (hc:c.X.calm=true) (hi:Bj c.nox tg iter gi) (hg:JG c.nox tg kt) (hb:Gx c.nox body gbd) (hs:∀ x,dm iter c.X.env x=pure x:=by intro _;rfl):JS c (.For tg iter body [] pos) (nY gi kt gbd):=.of fun ρ=>by
 refine R6 (v4 (OQ PassesOwn.never hc (hi ρ) (g:=fun v σ H Q=>∃ ρ d,QY c.X.K ρ d (kt d ρ) v σ H Q) (tb:=fun D σ H=>∃ ρ,SR c.X.K c.cls E0 ρ (gbd ρ) D σ H) ?_ ?_ hs) fun D σ H ⟨H0,Hs0,la,Hs,f,q⟩=>?_)
 ·exact fun pins s σ H v u Q I r h_0=>by obtain ⟨ρ,d,q⟩:=h_0;exact hg ρ d pins s σ H v u Q I r q
 ·exact fun pins s σ H D I h_1=>by obtain ⟨ρ,q⟩:=h_1;exact hb ρ pins s σ H D I q
 ·refine ⟨H0,Hs0,la,Hs,f,?_⟩
  unfold nY at q
  cases hr:gi ρ with
  | no=>rw [hr] at q;exact q
  | ex x n=>rw [hr] at q;exact q.elim
  | ok ds =>
   rw [hr] at q
   intro J H1 Hs1 s1 it
   have f1:=f.step s1
   exact Pp (E:=c.E) (cls:=c.cls) (kt:=kt) (gb:=gbd) (tg:=fun v σ H Q=>∃ ρ d,QY c.X.K ρ d (kt d ρ) v σ H Q) (tb:=fun D σ H=>∃ ρ,SR c.X.K c.cls E0 ρ (gbd ρ) D σ H) it (Pq f1.st.all f1.st.sub) f1.into (fun ρ d v σ H Q h=>⟨ρ,d,h⟩) (fun ρ D σ H h=>⟨ρ,h⟩) (m9.into f1 q)
end
end
section
section
variable {c:C}{e k:aO}{g gk:aq->R D}{pos p apos cpos:Pos}{x:Str}
def ua (i:Nat) (g:aq->R D):aq->R Fl:=fun ρ=>match ρ[i]? with
 | some (Sl.own (.list ds))=>(g ρ).bind fun d=>if ds.length<1000 then .ok (.nx (ρ.set i (.own (.list (ds++[d]))))) else .no
 | _=>.no
theorem pF (i:Nat) (h:JE c e g) (hN:c.X.N[i]?=some x:=by rfl) (hv:FZ c.X.env.scope x:=by first | exact eP rfl | exact cY (eP rfl) | exact cY (cY rfl)) (hd:(x == ("__debug__" : Str))=false:=by decide)
  (hcd:(x == ("__classdict__" : Str))=false:=by decide)
  (hbase:oj (.Name x p) "append" c.X.env (cp (.Name x p) c.X.env)=cp (.Name x p) c.X.env:=by rfl)
  (hfew:((dz cpos (ak [e] c.X.env)).all (fun x=>!x.1) && (CV cpos (tJ [] c.X.env)).all (fun x=>x.1.isSome)
   && decide ([e].length + ([] : List mq).length + (if ([] : List mq).isEmpty then 0 else 1)<30))=true:=by rfl)
  (hline:(apos.endLine == cpos.line)=true:=by rfl) (hst:ak [e] c.X.env=(false,cp e c.X.env)::ak [] c.X.env:=by rfl) (hplain:(dz cpos (ak [] c.X.env)).any (·.1)=false:=by rfl)
  (hs:fB (.Call (.Attribute (.Name x p) "append" apos) [e] [] cpos) none pos.line c.X.env=pure false:=by rfl) :
  JS c (.Expr (.Call (.Attribute (.Name x p) "append" apos) [e] [] cpos) pos) (ua i g):=.of fun ρ=>by
 refine v4 (mU (uz cG lT lU tX (ko hN hv hd hcd) (bK (h ρ) dB hst) hbase hfew hline hst hplain) hs) fun D σ H h_0=>?_
 obtain ⟨H0,Hs0,la,Hs,f,q⟩:=h_0
 replace q:m9 c.X.K c.cls c.E H0 Hs0 la D (ua i g ρ):=q
 unfold ua at q
 split at q
 ·rename_i ds ho
  obtain ⟨a,o,k1,k2,k3,k4,k5⟩:=f.ow i _ ho
  cases k5 with
  | @lst vs _ r =>
   refine ⟨_,k1,.inl ⟨rfl,_,.of k2⟩,?_⟩
   refine sE f q fun d v H1 Hs1 e1 s1 f1 r1=>?_
   rw [e1,bind_ok] at q
   by_cases hl:ds.length<1000
   ·rw [if_pos hl] at q
    have r':=r.same s1.sh
    exact ⟨a,vs,v,rfl,rfl,s1.all _ _ k2,bU (by rw [r.length];omega),q _ _ Hs1 (f1.write i ho k1 (.lst (r'.append (.cons r1 .nil))))⟩
   ·rw [if_neg hl] at q;exact q.elim
 ·exact q.elim
def oQ:D->Option dJ
 | .int i=>some (.inl i)
 | .str x=>some (.inr x)
 | _=>none
theorem wt {d:D}{y:dJ} (h:oQ d=some y):d=kD y:=by
 cases d<;>cases h<;>rfl
def xC (kvs:List (D×D)) (k d:D):List (D×D):=if kvs.any (fun kv=>bq kv.1 k) then kvs.map (fun kv=>if bq kv.1 k then (kv.1,d) else kv) else kvs++[(k,d)]
theorem DI (a b:dJ):bq (kD a) (kD b)=decide (a=b):=by
 cases a<;>cases b<;>simp [kD,bq,pq]
theorem RDk.any {K:a5}{H:Hp}{kvs:List (dJ×V)} (y:dJ):∀ {ds:List (D×D)},RDk K H kvs ds->(ds.any fun kv=>bq kv.1 (kD y))=kvs.any fun kv=>decide (kv.1=y):=by
 induction kvs with
 | nil=>intro ds h;cases h;rfl
 | cons x r ih=>intro ds h;cases h with | cons h t=>rw [eT,eT,ih t,DI]
theorem RDk.repl {K:a5}{H:Hp} (y:dJ) {v:V}{d:D} (rv:RD K H v d):∀ {kvs:List (dJ×V)}{ds:List (D×D)},RDk K H kvs ds ->
  RDk K H (kvs.map fun kv=>if kv.1=y then (kv.1,v) else kv) (ds.map fun kv=>if bq kv.1 (kD y) then (kv.1,d) else kv)
 | _,_,.nil=>.nil
 | _,_,.cons (k:=k) h t=>by
  rw [aK,aK]
  have e:=DI k y
  by_cases hk:k=y
  ·subst hk
   rw [show (if k=k then (k,v) else (k,_))=(k,v) from if_pos rfl,show (if bq (kD k) (kD k)=true then (kD k,d) else (kD k,_))=(kD k,d) from if_pos (by rw [e];simp)]
   exact .cons rv (RDk.repl k rv t)
  ·simp only [e,hk,if_neg,decide_false,c9,not_false_eq_true]
   exact .cons h (RDk.repl y rv t)
theorem RDk.snoc {K:a5}{H:Hp} (y:dJ) {v:V}{d:D} (rv:RD K H v d):∀ {kvs:List (dJ×V)}{ds:List (D×D)},RDk K H kvs ds->RDk K H (kvs++[(y,v)]) (ds++[(kD y,d)])
 | _,_,.nil=>.cons rv .nil
 | _,_,.cons h t=>.cons h (RDk.snoc y rv t)
theorem RDk.put {K:a5}{H:Hp}{kvs:List (dJ×V)}{ds:List (D×D)} (r:RDk K H kvs ds) (y:dJ) {v:V}{d:D} (rv:RD K H v d):RDk K H (oE kvs y v) (xC ds (kD y) d):=by
 unfold oE xC
 rw [r.any y]
 split
 ·exact r.repl y rv
 ·exact r.snoc y rv
def gI (kvs:List (D×D)):Bool:=kvs.all fun kv=>(oQ kv.1).isSome
def zP (i:Nat) (gk g:aq->R D):aq->R Fl:=fun ρ=>match ρ[i]? with
 | some (Sl.own (.dict kvs))=>(g ρ).bind fun d=>(gk ρ).bind fun k=>match oQ k with
  | some _=>if kvs.length<1000/\gI kvs=true then .ok (.nx (ρ.set i (.own (.dict (xC kvs k d))))) else .no
  | none=>.no
 | _=>.no
theorem DJ {K:a5}{H:Hp}{v:V}{y:dJ} (h:RD K H v (kD y)):v=kV y:=by
 cases y<;>cases h<;>rfl
theorem RDt.flat {K:a5}{H:Hp}{kvs:List (List dJ×V)}{ds:List (D×D)} (h:RDt K H kvs ds) (f:gI ds=true):kvs=[]/\ds=[]:=by
 cases h with
 | nil=>exact ⟨rfl,rfl⟩
 | cons h t=>simp [gI,tD,oQ] at f
theorem EX (i:Nat) (h:JE c e g) (hk:JE c k gk) (hu:c.X.A.units + 1<p_) (hN:c.X.N[i]?=some x:=by rfl) (hv:FZ c.X.env.scope x:=by first | exact eP rfl | exact cY (eP rfl) | exact cY (cY rfl)) (hd:(x == ("__debug__" : Str))=false:=by decide)
  (hcd:(x == ("__classdict__" : Str))=false:=by decide) (hs:fB e (some (.Subscript (.Name x p) k apos)) pos.line c.X.env=pure false:=by rfl):JS c (.Assign [.Subscript (.Name x p) k apos] e pos) (zP i gk g):=.of fun ρ=>by
 refine v4 (Mb hu (ko hN hv hd hcd) (hk ρ) (h ρ) hs) fun D σ H h_1=>?_
 obtain ⟨H0,Hs0,la,Hs,f,q⟩:=h_1
 replace q:m9 c.X.K c.cls c.E H0 Hs0 la D (zP i gk g ρ):=q
 unfold zP at q
 split at q
 ·rename_i kvs ho
  obtain ⟨a,o,k1,k2,k3,k4,k5⟩:=f.ow i _ ho
  have main:∀ {H:Hp}{vs:List (dJ×V)},Fr c.X.K H0 Hs0 la ρ σ H Hs->H a=some (.dK vs)->RDk c.X.K Hs vs kvs->NL (F_ i) (TR c.X.K c.cls c.E ρ (gk ρ)) (TR c.X.K c.cls c.E ρ (g ρ)) D σ H:=fun {H vs} f k2 r=>by
   refine sE f q fun d v H1 Hs1 e1 s1 f1 r1=>?_
   rw [e1,bind_ok] at q
   refine ⟨_,k1,sE f1 q fun y w H2 Hs2 e2 s2 f2 r2=>?_⟩
   rw [e2,bind_ok] at q
   split at q
   ·rename_i ky hy
    obtain rfl:=wt hy
    by_cases hl:kvs.length<1000/\gI kvs=true
    ·rw [if_pos hl] at q
     have ha:=s2.all _ _ (s1.all _ _ k2)
     have r':=(r.same s1.sh).same s2.sh
     rw [DJ r2]
     exact ⟨a,_,rfl,Iv.k ha (bU (by rw [r.length];omega)),q _ _ Hs2 (f2.write i ho k1 (.dK (r'.put ky (r1.same s2.sh))))⟩
    ·rw [if_neg hl] at q;exact q.elim
   ·exact q.elim
  cases k5 with
  | dK r=>exact main f k2 r
  | dT n r =>
   refine sE f q fun d v H1 Hs1 e1 s1 f1 r1=>?_
   rw [e1,bind_ok] at q
   refine ⟨_,k1,sE f1 q fun y w H2 Hs2 e2 s2 f2 r2=>?_⟩
   rw [e2,bind_ok] at q
   split at q
   ·rw [if_neg (fun z=>n (r.flat z.2).1)] at q;exact q.elim
   ·exact q.elim
  | dF n r =>
   refine sE f q fun d v H1 Hs1 e1 s1 f1 r1=>?_
   rw [e1,bind_ok] at q
   refine ⟨_,k1,sE f1 q fun y w H2 Hs2 e2 s2 f2 r2=>?_⟩
   rw [e2,bind_ok] at q
   split at q
   ·rw [if_neg (fun z=>by cases z.2)] at q;exact q.elim
   ·exact q.elim
 ·exact q.elim
def sD (kvs:List (D×D)) (k:D):Option D:=(kvs.find? fun kv=>bq kv.1 k).map (·.2)
theorem RDk.val {K:a5}{H:Hp}:∀ {kvs:List (dJ×V)}{ds:List (D×D)},RDk K H kvs ds->∀ (y:dJ),(se kvs y=none/\sD ds (kD y)=none)\/∃ v d,se kvs y=some v/\sD ds (kD y)=some d/\RD K H v d
 | _,_,.nil,y=>.inl ⟨rfl,rfl⟩
 | _,_,.cons (k:=k) h t,y=>by
  unfold se sD
  rw [dq,dq,DI]
  by_cases hk:k=y
  ·simp only [hk,decide_true,dh]
   exact .inr ⟨_,_,rfl,rfl,h⟩
  ·simp only [hk,decide_false]
   exact RDk.val t y
def b9:D->D->R D
 | .dict kvs,k=>match oQ k with
  | some _=>if gI kvs=true then (match sD kvs k with
   | some d=>.ok d
   | none=>.no) else .no
  | none=>.no
 | x,k=>DF x k
variable {a b:aO}{ga gb:aq->R D}
theorem bV (hu:c.X.A.units + 1<p_) (ha:JB c a ga) (hb:JB c b gb) (hs:vk b:=by exact fun _ _=>rfl):JE c (.Subscript a b pos) (g2 ga gb b9):=.of fun ρ=>by
 by_cases hx:∃ kvs,ga ρ=.ok (.dict kvs)
 ·obtain ⟨kvs,hx⟩:=hx
  refine oG (Ma hu (ha ρ) (hb ρ) hs) fun σ H Q h_2=>?_
  obtain ⟨H0,Hs0,la,Hs,f,q⟩:=h_2
  refine one f q fun d v H1 Hs1 e1 s1 f1 r1=>?_
  rw [hx] at e1
  cases e1
  unfold g2 at q
  rw [hx,bind_ok] at q
  refine one f1 (q.on s1 (q':=fun _=>True) fun _ _=>trivial) fun y w H2 Hs2 e2 s2 f2 r2=>?_
  rw [e2,bind_ok] at q
  unfold b9 at q
  simp only at q
  split at q
  ·rename_i ky hy
   obtain rfl:=wt hy
   by_cases hf:gI kvs=true
   ·rw [if_pos hf] at q
    obtain ⟨p,rfl,h⟩:=(r1.step s2).dict f2.st.sub
    have rk:w=kV ky:=by
     rcases r2 with r2 | ⟨_,o,rfl,_,_,ow⟩
     ·exact DJ r2
     ·cases ky<;>cases ow
    subst rk
    rcases h with ⟨vs,h1,h2⟩ | ⟨vs,h1,hn,h2⟩ | ⟨o,vs,es,rfl,h1,hn,h2⟩
    ·rcases h2.val ky with ⟨_,h3⟩ | ⟨u,d,h3,h4,h5⟩
     ·rw [h3] at q;exact q.elim
     ·rw [h4] at q
      exact ⟨p,u,rfl,by rw [<- h3];exact Dk.k h1,q _ H2 Hs2 (s1.trans s2) h5⟩
    ·exact (hn (h2.flat hf).1).elim
    ·cases hf
   ·rw [if_neg hf] at q;exact q.elim
  ·exact q.elim
 ·refine oG (QU ha hb hs ρ) fun σ H Q q=>?_
  have e:g2 ga gb b9 ρ=g2 ga gb DF ρ:=by
   unfold g2
   cases hr:ga ρ with
   | ok d =>
    cases d with
    | dict kvs=>exact (hx ⟨kvs,hr⟩).elim
    | _=>rfl
   | _=>rfl
  rw [e] at q
  exact q
def jt:D->R D
 | .dict kvs=>if gI kvs=true then .ok (.list (kvs.map (·.1))) else .no
 | x=>yy x
theorem Bm {K:a5}{H:Hp}:∀ {kvs:List (dJ×V)}{ds:List (D×D)},RDk K H kvs ds->RDs K H (kvs.map fun p=>kV p.1) (ds.map (·.1))
 | _,_,.nil=>.nil
 | _,_,.cons (k:=k) h t=>.cons (by cases k<;>constructor) (Bm t)
theorem wu {X:Cx} (hc:X.calm=true):Gu X (.type "list") (ia jt):=by
 refine qS (fun d c n=>?_) fun pins s σ H x u Q Hs d d' I ru sub rx hd q=>?_
 ·unfold jt yy
  split<;>(try split)<;>(try split)<;>exact fun h=>by cases h
 ·by_cases hx:∃ kvs,d=.dict kvs
  ·obtain ⟨kvs,rfl⟩:=hx
   unfold jt at hd
   simp only at hd
   split at hd
   ·rename_i hf
    cases hd
    obtain ⟨a,rfl,⟨vs,h1,h2⟩ | ⟨vs,h1,n,h2⟩ | ⟨o,vs,es,rfl,h1,n,h2⟩⟩:=rx.dict sub
    ·exact wa hc pins s σ H _ _ Q I (.cons ru .nil) ⟨a,vs,rfl,h1,fun l hl=>q _ _ _ (.new sub hl) (.list (.of aX) ((Bm h2).same (cx.new sub hl).sh))⟩
    ·exact (n (h2.flat hf).1).elim
    ·cases hf
   ·cases hd
  ·have e:jt d=yy d:=by
    cases d with
    | dict kvs=>exact (hx ⟨kvs,rfl⟩).elim
    | _=>rfl
   rw [e] at hd
   exact (Mv (X:=X)).1 pins s σ H [x] [u] Q I (.cons ru .nil) ⟨Hs,[d],sub,.cons rx .nil,d',hd,q⟩
end
end
section
open PyProof.Rows (envOfC)
section
variable {c:C}{e a b d:aO}{g ga gb gc:aq->R D}{pos p cpos:Pos}{x:Str}
theorem Jh {K:a5}{cls:Str->aa}{E:XK}{h h':D->D->R D}{ρ:aq}{σ:St}{H:Hp}{Q:VK} (hx:∀ x y c n,h x y≠.ex c n) (hx':∀ x y c n,h' x y≠.ex c n) (q:TR K cls E ρ (oK ga gb gc h h' ρ) σ H Q) :
  Dc (rD K h) (rD K h') (TB K cls E ρ (ga ρ)) (TB K cls E ρ (gb ρ)) (TB K cls E ρ (gc ρ)) σ H Q:=by
 obtain ⟨H0,Hs0,la,Hs,f,q⟩:=q
 refine one f q fun x v H1 Hs1 e1 s1 f1 r1=>?_
 unfold oK at q
 rw [e1,bind_ok] at q
 refine one f1 (q.on s1 (q':=fun _=>True) fun _ _=>trivial) fun y u H2 Hs2 e2 s2 f2 r2=>?_
 rw [e2,bind_ok] at q
 cases hr:h x y with
 | ex c n=>exact (hx x y c n hr).elim
 | no=>rw [hr] at q;exact q.elim
 | ok z =>
  rw [hr,bind_ok] at q
  refine ⟨Hs2,x,y,f2.st.sub,r1.step s2,r2,z,hr,fun w H3 Hs3 s3 r3=>?_⟩
  cases r3 with
  | bool k =>
   refine ⟨k,rfl,?_⟩
   have f3:=f2.step s3
   cases k with
   | false=>exact zr (q _ H3 Hs3 (s1.trans (s2.trans s3)) (.bool _))
   | true =>
    refine Dj (one f3 (q.on (s1.trans (s2.trans s3)) (q':=fun _=>True) fun _ _=>trivial) fun t u' H4 Hs4 e4 s4 f4 r4=>?_)
    simp only [e4,bind_ok] at q
    cases hr':h' y t with
    | ex c n=>exact (hx' y t c n hr').elim
    | no=>rw [hr'] at q;exact q.elim
    | ok z' =>
     rw [hr'] at q
     exact ⟨Hs4,y,t,f4.st.sub,(r2.step s3).step s4,r4,z',hr',fun w H5 Hs5 s5 r5=>q w H5 Hs5 (s1.trans (s2.trans (s3.trans (s4.trans s5)))) r5⟩
  | none=>exact q.elim
  | int _=>exact q.elim
  | str _=>exact q.elim
  | list _ _=>exact q.elim
  | tuple _ _=>exact q.elim
  | dictK _ _=>exact q.elim
  | dictT _ _ _=>exact q.elim
  | dictF _ _ _=>exact q.elim
theorem Bo {op op':vf}{h h':D->D->R D} (ho:wf c.X (bI op) h) (ho':wf c.X (bI op') h') (ha:JB c a ga) (hb:JB c b gb) (hc:JB c d gc) (hm:Ho [op,op'] [b,d]=false:=by with_unfolding_all rfl):JE c (.Compare a [op,op'] [b,d] pos) (oK ga gb gc h h') :=
 .of fun ρ=>oG (Ih ho.1 ho'.1 (ha ρ) (hb ρ) (hc ρ) hm) fun σ H Q q=>Jh ho.2 ho'.2 q
theorem Ji {op op':vf}{h h':D->D->R D} (ho:wf c.X (bI op) h) (ho':wf c.X (bI op') h') (ha:JB c a ga) (hb:JB c b gb) (hc:JB c d gc) (hm:Ho [op,op'] [b,d]=false:=by with_unfolding_all rfl):JT c (.Compare a [op,op'] [b,d] pos) (gU (oK ga gb gc h h')) :=
 .of fun ρ=>Sa (Ii ho.1 ho'.1 (ha ρ) (hb ρ) (hc ρ) hm) fun σ H Q q=>Jh ho.2 ho'.2 (QR q)
def Pr:D->R D
 | .int i=>.ok (.int (-i))
 | _=>.no
def Jj (g:aq->R D):aq->R D:=fun ρ=>(g ρ).bind Pr
theorem Ps (h:JE c e g):JE c (.UnaryOp .USub e pos) (Jj g):=.of fun ρ=>oG (Qq OY (h ρ)) fun σ H Q h_0=>by
 obtain ⟨H0,Hs0,la,Hs,f,q⟩:=h_0
 refine xA f q fun d v H1 Hs1 e1 s1 f1 r1=>?_
 unfold Jj at q
 rw [e1,bind_ok] at q
 cases r1 with
 | int i=>exact ⟨i,rfl,q _ H1 Hs1 s1 (.int _)⟩
 | _=>exact q.elim
inductive R7 (K:a5) (w:aT) (cls:Str->aa) (E:XK) (ρ:aq) (r:R (List Str)) (σ:St) (H:Hp) (Q:VK):Prop
 | mk (H0 Hs0:Hp) (la:Nat->Option aa) (Hs:Hp) (f:Fr K H0 Hs0 la ρ σ H Hs) (q:Fin K cls E H Hs r fun ss=>∀ p H' Hs',cx H Hs H' Hs'->H' p=none->Q (.ref p) (upd H' p (qf w p ss))):R7 K w cls E ρ r σ H Q
def Se (K:a5) (w:aT) (cls:Str->aa) (E:XK) (ρ:aq) (r:R (List Str)):TE:=R7 K w cls E ρ r
structure Qd (c:C) (e:aO) (g:aq->R (List Str)):Prop where of ::
 run:∀ ρ,PE c.X e (Se c.X.K c.X.w c.cls c.E ρ (g ρ))
instance {c:C}{e:aO}{g:aq->R (List Str)}:CoeFun (Qd c e g) (fun _=>∀ ρ,PE c.X e (Se c.X.K c.X.w c.cls c.E ρ (g ρ))):=⟨Qd.run⟩
theorem NZ {K:a5}{w:aT}{cls:Str->aa}{E:XK}{ρ:aq}{r:R (List Str)}{β:Type}{k:List Str->R β}{σ:St}{H:Hp}{H0 Hs0 Hs:Hp}{la:Nat->Option aa}{Q:V->Hp->Prop}{q:β->Prop} (f:Fr K H0 Hs0 la ρ σ H Hs)
  (h:Fin K cls E H Hs (r.bind k) q) (m:∀ ss p H' Hs',r=.ok ss->cx H Hs H' Hs'->Fr K H0 Hs0 la ρ σ H' Hs'->H' p=none->Q (.ref p) (upd H' p (qf w p ss))):Se K w cls E ρ r σ H Q:=by
 refine ⟨H0,Hs0,la,Hs,f,?_⟩
 cases r with
 | ok d=>exact fun p H' Hs' s n=>m d p H' Hs' rfl s (f.step s) n
 | ex c n=>exact h
 | no=>exact h
variable {gset:aq->R (List Str)}
def wv:D->R (List Str)
 | .list ds=>match fZ ds with
  | some ss=>if ss.length<60 then .ok (eC [] ss) else .no
  | none=>.no
 | .tuple ds=>match fZ ds with
  | some ss=>if ss.length<60 then .ok (eC [] ss) else .no
  | none=>.no
 | _=>.no
def ub (g:aq->R D):aq->R (List Str):=fun ρ=>(g ρ).bind wv
theorem Pt (hc:c.X.calm=true) (h:JB c e g) (hg2:Gl c.X "set") (hm2:c.X.mg "set"=none) (he:ak [e] c.X.env=(false,cp e c.X.env)::ak [] c.X.env:=by rfl) :
  Qd c (.Call (.Name "set" p) [e] [] cpos) (ub g):=.of fun ρ=>by
 refine oG (tW (B5 hc) hg2 hm2 PyProof.Rows.boot_set (bK (h ρ) dB he) (he:=he)) fun σ H Q h_1=>?_
 obtain ⟨H0,Hs0,la,Hs,f,q⟩:=h_1
 refine one f q fun d v H1 Hs1 e1 s1 f1 r1=>?_
 unfold ub at q
 rw [e1,bind_ok] at q
 unfold wv at q
 split at q
 ·split at q
  ·rename_i ss hs
   by_cases hz:ss.length<60
   ·rw [if_pos hz] at q
    obtain ⟨a,vs,rfl,qa,ra⟩:=r1.list f1.st.sub
    rw [oO hs] at ra
    rw [mX ra] at qa
    exact ⟨a,ss,rfl,.inl qa,aD (FS hz 1) (by decide),fun p hp=>q p H1 Hs1 s1 hp⟩
   ·rw [if_neg hz] at q;exact q.elim
  ·exact q.elim
 ·split at q
  ·rename_i ss hs
   by_cases hz:ss.length<60
   ·rw [if_pos hz] at q
    obtain ⟨a,vs,rfl,qa,ra,_⟩:=r1.tuple f1.st.sub
    rw [oO hs] at ra
    rw [mX ra] at qa
    exact ⟨a,ss,rfl,.inr qa,aD (FS hz 1) (by decide),fun p hp=>q p H1 Hs1 s1 hp⟩
   ·rw [if_neg hz] at q;exact q.elim
  ·exact q.elim
 ·exact q.elim
def mE (g:aq->R (List Str)):aq->R D:=fun ρ=>(g ρ).bind fun ss=>if ss.length<64 then .ok (.list ((ja ss).map .str)) else .no
theorem DK (hc:c.X.calm=true) (h:Qd c e gset) (hg:Gl c.X "sorted") (hm:c.X.mg "sorted"=none) (he:ak [e] c.X.env=(false,cp e c.X.env)::ak [] c.X.env:=by rfl) :
  JE c (.Call (.Name "sorted" p) [e] [] cpos) (mE gset):=.of fun ρ=>by
 refine oG (kq (u_ hc) hg hm uv (bK (h ρ) dB he) (he:=he)) fun σ H Q h_2=>?_
 obtain ⟨H0,Hs0,la,Hs,f,q⟩:=h_2
 dsimp only [L2.Q9,L2.AM,L2.Ik]
 refine NZ (w:=c.X.w) f q fun ss p H1 Hs1 e1 s1 f1 n1=>?_
 unfold mE at q
 rw [e1,bind_ok] at q
 by_cases hz:ss.length<64
 ·rw [if_pos hz] at q
  have st1:cx H1 Hs1 (upd H1 p (qf c.X.w p ss)) Hs1:=.mine f1.st.sub n1
  exact ⟨p,ss,rfl,aX,hz,fun l hl=>q _ _ _ (s1.trans (st1.trans (.new st1.sub hl))) (.list (.of aX) (we _))⟩
 ·rw [if_neg hz] at q;exact q.elim
def sF (g:aq->R (List Str)):aq->R D:=fun ρ=>(g ρ).bind fun ss=>.ok (.int ss.length)
theorem GB (h:Qd c e gset) (hg:Gl c.X "len") (hm:c.X.mg "len"=none) (he:ak [e] c.X.env=(false,cp e c.X.env)::ak [] c.X.env:=by rfl) :
  JE c (.Call (.Name "len" p) [e] [] cpos) (sF gset):=.of fun ρ=>by
 refine oG (kq xy hg hm bO (bK (h ρ) dB he) (he:=he)) fun σ H Q h_3=>?_
 obtain ⟨H0,Hs0,la,Hs,f,q⟩:=h_3
 dsimp only [L2.Q9,L2.AM,L2.Ik]
 refine NZ (w:=c.X.w) f q fun ss p H1 Hs1 e1 s1 f1 n1=>?_
 unfold sF at q
 rw [e1,bind_ok] at q
 have st1:cx H1 Hs1 (upd H1 p (qf c.X.w p ss)) Hs1:=.mine f1.st.sub n1
 exact ⟨p,ss,rfl,aX,q _ _ _ (s1.trans st1) (.int _)⟩
variable {elt iter tg:aO}{ifs:List aO}{scope:dG}{N':List Str}{nt:Nat}{ix:List Nat}{gi:aq->R (List D)}{gt:aq->R Bool}{ge:aq->R D}
def uc (nt:Nat) (ix:List Nat) (gi:aq->R (List D)) (gt:aq->R Bool) (ge:aq->R D):aq->R (List Str):=fun ρ=>(gi ρ).bind fun ds=>if ds.length<=60 then (gy (ib nt (mD nt ix ρ) gt ge) ds).bind fun ys=>match fZ ys with
 | some ss=>.ok (eC [] ss)
 | none=>.no else .no
theorem xD {ys:List D}{xs:List D}:∀ {ss:List Str},fZ (xs++ys)=some ss->∃ s1 s2,fZ xs=some s1/\fZ ys=some s2/\ss=s1++s2:=by
 induction xs with
 | nil=>intro ss h;exact ⟨[],ss,rfl,h,rfl⟩
 | cons d r ih =>
  intro ss h
  cases d with
  | str b =>
   have h:(fZ (r++ys)).map (b::·)=some ss:=h
   cases hr:fZ (r++ys) with
   | none=>rw [hr] at h;cases h
   | some z =>
    rw [hr] at h
    cases h
    obtain ⟨s1,s2,h1,h2,rfl⟩:=ih hr
    exact ⟨b::s1,s2,by show (fZ r).map (b::·)=_;rw [h1];rfl,h2,rfl⟩
  | _=>cases h
theorem ww (z:Str):∀ (l acc:List Str),eC acc (l++[z])=if z∈eC acc l then eC acc l else eC acc l++[z]
 | [],acc=>rfl
 | x::l,acc=>by
  show eC _ (l++[z])=_
  rw [ww z l]
  rfl
inductive U2 (f:D->R (Option D)) (ds:List D) (ss:List Str) (H1 Hs1:Hp) (i m:Nat) (acc:List Str) (H':Hp):Prop
 | mk (done bA zs sa sz Hs':_) (h0:ds=done++bA) (h1:done.length=i) (h2:bA.length=m) (h3:cx H1 Hs1 H' Hs') (h4:acc=eC [] sa) (h5:sa.length<=i) (h6:gy f bA=.ok zs) (h7:fZ zs=some sz) (h8:ss=sa++sz):U2 f ds ss H1 Hs1 i m acc H'
theorem MC {K:a5}{w:aT}{cls:Str->aa}{E:XK}{ρ:aq}{σ:St}{H:Hp}{Q:VK} (hnt:nt=1\/nt=2)
  (q:Se K w cls E ρ (uc nt ix gi gt ge ρ) σ H Q) :
  IZ w nt ix (Sc K cls E ρ (gi ρ)) (GA K nt) (fun σ H Q=>∃ ρ',Hz K cls E0 ρ' (gt ρ') σ H Q) (fun σ H Q=>∃ ρ',TR K cls E0 ρ' (ge ρ') σ H Q) σ H Q:=by
 obtain ⟨H0,Hs0,la,Hs,f,q⟩:=q
 refine ⟨H0,Hs0,la,Hs,f,?_⟩
 unfold uc at q
 cases hi:gi ρ with
 | no=>rw [hi] at q;exact q
 | ex x n=>rw [hi] at q;exact q
 | ok ds =>
  rw [hi,bind_ok] at q
  intro J H1 Hs1 Hn s1 sn it
  by_cases hl:ds.length<=60
  ·rw [if_pos hl] at q
   cases hm:gy (ib nt (mD nt ix ρ) gt ge) ds with
   | no=>rw [hm] at q;exact q.elim
   | ex x n=>exact (wq (Bl _ _ _ _) _ _ _ hm).elim
   | ok ys =>
    rw [hm,bind_ok] at q
    cases hs:fZ ys with
    | none=>rw [hs] at q;exact q.elim
    | some ss =>
     rw [hs] at q
     obtain ⟨lb,fb⟩:=(f.step s1).block nt ix
     refine ⟨U2 (ib nt (mD nt ix ρ) gt ge) ds ss H1 Hs1,
      ⟨ds.length,[],ds,ys,[],ss,Hs1,rfl,rfl,rfl,.refl s1.sub,rfl,ck _,hm,hs,rfl⟩,?_⟩
     rintro i m acc H' ⟨done,bA,zs,sa,sz,Hs',hds,hdl,hrl,st,rfl,yl,hz,hzs,hy⟩
     obtain ⟨igo,istop,iyld⟩:=it H' Hs' (sn.trans st.all) st.sh st.sub
     cases bA with
     | nil =>
      left
      cases hz
      cases hzs
      rw [bH] at hds hy
      subst hy hds
      exact ⟨istop i (by omega),fun p hp=>q p H' Hs' (s1.trans st) hp⟩
     | cons d bA =>
      right
      have hil:i<ds.length:=by rw [hds,aR,bg];omega
      have hol:=jU sa []
      simp at hol
      refine ⟨igo i hil,lS (show (eC [] sa).length + 1<=61 by omega) (by decide),fun x H2 hyl=>?_⟩
      obtain ⟨d',Hs2,hd,s2,r2⟩:=iyld i x H2 hil hyl
      have hdd:d'=d:=by
       rw [hds,aY (by omega)] at hd
       simp [hdl] at hd
       exact hd.symm
      subst hdd
      obtain ⟨o,zs',hf,hz',rfl⟩:=wp hz
      have hf:=EV hf
      obtain ⟨so,sz',hso,hsz,rfl⟩:=xD hzs
      cases hb:R4 nt d' (mD nt ix ρ) with
      | no=>rw [hb] at hf;cases hf
      | ex x n=>rw [hb] at hf;cases hf
      | ok ρ' =>
       rw [hb,bind_ok] at hf
       refine Bk hnt ((fb.step st).step s2) r2 hb fun σ2 f2=>⟨ρ',?_⟩
       refine ⟨_,_,_,Hs2,f2,?_⟩
       cases ht:gt ρ' with
       | no=>rw [ht] at hf;cases hf
       | ex x n=>rw [ht] at hf;cases hf
       | ok b =>
        rw [ht,bind_ok] at hf
        intro H3 Hs3 s3
        cases b with
        | false =>
         rw [if_neg aL] at hf
         cases hf
         cases hso
         refine zr ⟨bA.length,by rw [<- hrl];simp,done++[d'],bA,zs',sa,sz',Hs3,by rw [hds];simp,by simp [hdl],rfl,(st.trans s2).trans s3,rfl,by omega,hz',hsz,by simpa using hy⟩
        | true =>
         rw [if_pos rfl] at hf
         refine Dj ⟨ρ',_,_,_,Hs3,f2.step s3,?_⟩
         cases he:ge ρ' with
         | no=>rw [he] at hf;cases hf
         | ex x n=>rw [he] at hf;cases hf
         | ok y =>
          rw [he,bind_ok] at hf
          cases hf
          intro v H4 Hs4 s4 r4
          cases r4 with
          | str z =>
           cases hso
           exact ⟨z,bA.length,rfl,by rw [<- hrl];simp,done++[d'],bA,zs',sa++[z],sz',Hs4,by rw [hds];simp,by simp [hdl],rfl,((st.trans s2).trans s3).trans s4,(ww z sa []).symm,by simp;omega,hz',hsz,by rw [hy];simp⟩
          | none=>cases hso
          | bool _=>cases hso
          | int _=>cases hso
          | list _ _=>cases hso
          | tuple _ _=>cases hso
          | dictK _ _=>cases hso
          | dictT _ _ _=>cases hso
          | dictF _ _ _=>cases hso
  ·rw [if_neg hl] at q;exact q.elim
theorem Jk (nt:Nat) (hnt:nt=1\/nt=2) (hc:c.X.calm=true) (S:lZ c.X scope N' nt ix) (hi:JI c tg iter gi) (hb:sB c N' scope nt tg ifs elt gt ge) (hs:∀ x,dm iter c.X.env x=pure x:=by intro _;rfl) :
  Qd c (.SetComp elt [⟨tg,iter,ifs,0⟩] scope pos) (uc nt ix gi gt ge):=.of fun ρ=>oG (Dv hc S (zO hnt) (hi ρ) hb.at hs) fun σ H Q q=>MC hnt q
end
def bG (n:Nat) (ds:List D):aq:=ds.map Sl.shr++bd (n - ds.length) Sl.no
def gJ (n:Nat) (g:aq->R Fl):List D->R D:=fun ds=>match g (bG n ds) with
 | .ok (.nx _)=>.ok .none
 | .ok (.rt d)=>.ok d
 | .ex c m=>.ex c m
 | _=>.no
theorem wx {n:Nat}{ds:List D}{i:Nat}{s:Sl} (h:(bG n ds)[i]?=some s):(∃ d,ds[i]?=some d/\s=.shr d)\/s=.no:=by
 unfold bG at h
 by_cases hi:i<ds.length
 ·rw [bn (by simpa using hi),ay] at h
  cases hd:ds[i]? with
  | none=>rw [hd] at h;cases h
  | some z=>rw [hd] at h;cases h;exact .inl ⟨z,rfl,rfl⟩
 ·rw [aY (by simp;omega),bD] at h
  split at h<;>cases h
  exact .inr rfl
theorem GC {N:List Str}{vs:List V}{i:Nat}{v:V} (h:vs[i]?=some v):(L2.start N vs)[i]?=some (some v):=by
 unfold L2.start
 have hi:i<vs.length:=(List.getElem?_eq_some_iff.mp h).1
 rw [bn (by simpa using hi),ay,h]
 rfl
theorem Fr.start {K : a5} {H Hs : Hp} {N : List Str} {vs : List V} {ds : List D} (sub : cW Hs H) (r : RDs K Hs vs ds) : Fr K H Hs (fun _ => none) (bG N.length ds) (L2.start N vs) H Hs := by
  have hl := r.length
  refine ⟨.refl sub, by simp [bG, L2.start, hl], fun i d h => ?_, fun i d h => ?_, fun i d h => ?_, fun i j d e a h _ _ _ => ?_, fun i a h => (nomatch h), fun i d h => ?_, fun i j d e h _ => ?_⟩
  · rcases wx h with ⟨z, hz, e⟩ | e
    · cases e
      obtain ⟨v, k1, k2⟩ := r.get' hz
      exact ⟨v, GC k1, k2⟩
    · cases e
  all_goals (rcases wx h with ⟨z, _, e⟩ | e <;> cases e)
theorem N_ {P:aB}{w:aT}{K:a5}{mg:Str->Option a7}{base:a_}{cls:Str->aa}{x qual:Str}{st:cw}{f:aa}{fd:cX}{N ps:List Str}{k:Nat}{g:aq->R Fl} (F:AT K x qual st f fd) (S:bJ N ps (av st))
  (h:∀ (cdv:a7) (A:aP) (outer:List Env) (s:a9) (H:Hp) (E:XK),io k (A.deeper (iC qual (av st) s.heap.objs.size f cdv))->Gx ⟨fg (iN P w) P w K mg base N qual (av st) f cdv A outer s H E,cls,E⟩ (fU st) g) :
  qc P w K mg base (iN P w) (k + 1) f fd ps (Mw K cls ps.length (gJ N.length g)):=by
 obtain ⟨oc,od,kV,doc,pm,an,cdv,ct,osl,rfl,lk,hcd⟩:=F.ex
 refine NF lk hcd S (fun vs H Q E h_4=>by obtain ⟨Hs,ds,sub,hn,r,q⟩:=h_4;exact by rw [r.length];exact hn) fun A outer s H vs Q E hr hsp=>?_
 obtain ⟨Hs,ds,sub,hn,r,q⟩:=hsp
 refine ⟨_,h cdv A outer s H E hr (bG N.length ds),H,Hs,_,Hs,Fr.start sub r,?_⟩
 unfold gJ at q
 cases hg:g (bG N.length ds) with
 | no=>rw [hg] at q;exact q
 | ex c n=>rw [hg] at q;exact q
 | ok fl =>
  rw [hg] at q
  cases fl with
  | nx ρ'=>exact fun σ' H' Hs' f'=>q .non H' Hs' f'.st .none
  | rt d=>exact fun v H' Hs' s r=>q v H' Hs' s r
  | bk ρ'=>exact q.elim
  | ct ρ'=>exact q.elim
theorem R8 {P:aB}{w:aT}{K:a5}{mg:Str->Option a7}{base:a_}{cls:Str->aa}{x qual:Str}{st:cw}{f:aa}{fd:cX}{N ps:List Str}{k:Nat}{g:aq->R Fl} (F:AT K x qual st f fd) (S:bJ N ps (av st)) (hm:mg x=some (.ref f)) (hb:iZ K fd ps [])
  (h:∀ (cdv:a7) (A:aP) (outer:List Env) (s:a9) (H:Hp) (E:XK),io k (A.deeper (iC qual (av st) s.heap.objs.size f cdv))->Gx ⟨fg (iN P w) P w K mg base N qual (av st) f cdv A outer s H E,cls,E⟩ (fU st) g) :
  Fn P w K mg base cls x (k + 1) ps.length (gJ N.length g):=⟨f,fd,ps,N_ F S h,hm,F.kp,hb⟩
theorem eW {X:Cx}:iE (iN X.prog X.w) X E0:=fun _ _ _ _ _ _ _ h=>by
 obtain ⟨_,_,_,_,_,_,_,_,_,q⟩:=h
 exact q.elim
end
section
def clear2 (ρ:aq):aq:=ρ.map fun s=>match s with
 | .ow2 _=>.no
 | s=>s
section
variable {K:a5}
theorem Fr.clear2 {H0 Hs0 H Hs:Hp}{la:Nat->Option aa}{ρ:aq}{σ:St} (f:Fr K H0 Hs0 la ρ σ H Hs):Fr K H0 Hs0 la (clear2 ρ) σ H Hs/\∀ (j:Nat) (d:List (List D)),¬ (J.clear2 ρ)[j]?=some (Sl.ow2 d):=by
 have un:∀ {j:Nat}{s:Sl},(J.clear2 ρ)[j]?=some s->(∀ d,s≠.ow2 d)/\(ρ[j]?=some s\/s=.no):=fun {j s} e=>by
  unfold J.clear2 at e
  rw [ay] at e
  cases h:ρ[j]? with
  | none=>rw [h] at e;cases e
  | some t =>
   rw [h] at e
   cases t with
   | ow2 d=>cases e;exact ⟨fun _ z=>(by cases z),.inr rfl⟩
   | no=>cases e;exact ⟨fun _ z=>(by cases z),.inl rfl⟩
   | shr d=>cases e;exact ⟨fun _ z=>(by cases z),.inl rfl⟩
   | lck d=>cases e;exact ⟨fun _ z=>(by cases z),.inl rfl⟩
   | own d=>cases e;exact ⟨fun _ z=>(by cases z),.inl rfl⟩
 have is:∀ {j:Nat}{s:Sl},s≠.no->(J.clear2 ρ)[j]?=some s->ρ[j]?=some s:=fun {j s} n e=>(un e).2.resolve_right n
 have no2:∀ (j:Nat) (d:List (List D)),¬ (J.clear2 ρ)[j]?=some (Sl.ow2 d):=fun j d e=>(un e).1 d rfl
 exact ⟨⟨f.st,by simp [J.clear2,f.len],fun j d h=>f.sh j d (is (fun z=>by cases z) h),fun j d h=>f.ow j d (is (fun z=>by cases z) h),fun j d h=>f.lk j d (is (fun z=>by cases z) h),fun j k d e a h1 h2=>f.dj j k d e a (is (fun z=>by cases z) h1) (is (fun z=>by cases z) h2),f.lh,fun j d h=>(no2 j d h).elim,fun j k d e h _=>(no2 j d h).elim⟩,no2⟩
end
def oR:List aa->Hp->Hp
 | [],H=>H
 | a::as,H=>oR as (upd H a (.lst []))
section
variable {c:C}{e:aO}{g gi:aq->R D}{pos p apos cpos spos:Pos}{x:Str}
theorem wy:∀ (as:List aa) (H:Hp),(∀ a∈as,H a=none)->as.Nodup->cW H (oR as H)
 | [],H,_,_=>.refl H
 | a::as,H,h,nd=>by
  obtain ⟨n1,n2⟩:=List.nodup_cons.mp nd
  refine (iq (h a al)).trans (wy as _ (fun b hb=>?_) n2)
  rw [aQ (fun (z:b=a)=>n1 (z ▸ hb))]
  exact h b (ai _ hb)
theorem Bp:∀ (as:List aa) (H:Hp),as.Nodup->∀ a∈as,oR as H a=some (.lst [])
 | a::as,H,nd,b,hb=>by
  obtain ⟨n1,n2⟩:=List.nodup_cons.mp nd
  show oR as (upd H a (.lst [])) b=_
  by_cases hm:b∈as
  ·exact Bp as _ n2 b hm
  ·have e:b=a:=(List.mem_cons.mp hb).resolve_right hm
   subst e
   have:∀ (as:List aa) (H:Hp),b∉as->oR as H b=H b:=by
    intro as
    induction as with
    | nil=>intro H _;rfl
    | cons c as ih =>
     intro H h
     show oR as (upd H c (.lst [])) b=_
     rw [ih _ (fun z=>h (ai _ z)),aQ (fun (z:b=c)=>h (by rw [z];exact al))]
   rw [this as _ hm,aX]
theorem kE:∀ (as:List aa) (H:Hp) (b:aa),oR as H b=none->H b=none/\b∉as
 | [],H,b,h=>⟨h,by simp⟩
 | a::as,H,b,h=>by
  obtain ⟨h1,h2⟩:=kE as (upd H a (.lst [])) b h
  by_cases hb:b=a
  ·subst hb;rw [aX] at h1;cases h1
  ·rw [aQ hb] at h1
   exact ⟨h1,fun z=>(List.mem_cons.mp z).elim hb h2⟩
def MD (i:Nat):aq->R Fl:=fun ρ=>.ok (.nx ((clear2 ρ).set i (.ow2 [[],[],[],[]])))
theorem Pu (i:Nat) {p1 p2 p3 p4:Pos}{pos':Pos} (hN:c.X.N.Nodup) (hi:c.X.N[i]?=some x:=by rfl) (hx:LP c.X.env.scope x:=by first | exact eP rfl | exact cY rfl)
  (hs:fB (.List [.List [] p1,.List [] p2,.List [] p3,.List [] p4] p) (some (.Name x pos')) spos.line c.X.env=pure false:=by rfl)
  (hf:c.X.fn x=true\/c.X.env.scope.names.lookup x=some .local:=by first | exact .inl rfl | exact .inr rfl | assumption)
  (h1:ak [.List [] p1,.List [] p2,.List [] p3,.List [] p4] c.X.env=(false,cp (.List [] p1) c.X.env)::ak [.List [] p2,.List [] p3,.List [] p4] c.X.env:=by rfl)
  (h2:ak [.List [] p2,.List [] p3,.List [] p4] c.X.env=(false,cp (.List [] p2) c.X.env)::ak [.List [] p3,.List [] p4] c.X.env:=by rfl)
  (h3:ak [.List [] p3,.List [] p4] c.X.env=(false,cp (.List [] p3) c.X.env)::ak [.List [] p4] c.X.env:=by rfl)
  (h4:ak [.List [] p4] c.X.env=(false,cp (.List [] p4) c.X.env)::ak [] c.X.env:=by rfl) :
  JS c (.Assign [.Name x pos'] (.List [.List [] p1,.List [] p2,.List [] p3,.List [] p4] p) spos) (MD i):=.of fun ρ=>by
 refine v4 (vM hN hi hx (jO (bK (jO dB) (bK (jO dB) (bK (jO dB) (bK (jO dB) dB h4) h3) h2) h1)) hs hf) fun D σ H h_0=>?_
 obtain ⟨H0,Hs0,la,Hs,f,q⟩:=h_0
 replace q:m9 c.X.K c.cls c.E H0 Hs0 la D (MD i ρ):=q
 obtain ⟨f,no2⟩:=f.clear2
 refine ⟨ck _,fun a1 n1=>⟨ck _,fun a2 n2=>⟨ck _,fun a3 n3=>⟨ck _,fun a4 n4=>⟨bi (bU (show 4<=1000 by decide)),fun a n=>?_⟩⟩⟩⟩⟩
 have N:=kE [a1,a2,a3,a4] H a n
 have N4:=kE [a1,a2,a3] H a4 n4
 have N3:=kE [a1,a2] H a3 n3
 have N2:=kE [a1] H a2 n2
 simp only [aV,aJ,or_false,not_or] at N N4 N3 N2
 have nd:[a1,a2,a3,a4].Nodup:=by
  simp only [List.nodup_cons,aV,aJ,or_false,not_or,l9,and_true,not_false_eq_true]
  exact ⟨⟨eA N2.2,eA N3.2.1,eA N4.2.1⟩,⟨eA N3.2.2,eA N4.2.2.1⟩,eA N4.2.2.2⟩
 have free:∀ b∈[a1,a2,a3,a4],H b=none:=fun b hb=>by
  simp only [aV,aJ,or_false] at hb
  rcases hb with rfl | rfl | rfl | rfl
  ·exact n1
  ·exact N2.1
  ·exact N3.1
  ·exact N4.1
 have nd5:(a::[a1,a2,a3,a4]).Nodup:=List.nodup_cons.mpr ⟨by simp only [aV,aJ,or_false,not_or];exact N.2,nd⟩
 have sm:cW H (oR [a1,a2,a3,a4] H):=wy _ _ free nd
 have all:cW H (upd (oR [a1,a2,a3,a4] H) a (.lst [.ref a1,.ref a2,.ref a3,.ref a4])):=sm.trans (iq n)
 have free5:∀ b∈a::[a1,a2,a3,a4],H b=none:=fun b hb=>(List.mem_cons.mp hb).elim (fun z=>z ▸ N.1) (free b)
 have st:cx H Hs (upd (oR [a1,a2,a3,a4] H) a (.lst [.ref a1,.ref a2,.ref a3,.ref a4])) Hs:=⟨all,.refl _,f.st.sub.trans all,fun _ _ _ _ z=>z⟩
 have f':=f.step st
 have hl:i<σ.length\/¬ i<σ.length:=Decidable.em _
 have nx:∀ {j:Nat}{s:Sl},(∀ d,s≠.ow2 d)->((clear2 ρ).set i (.ow2 [[],[],[],[]]))[j]?=some s->(clear2 ρ)[j]?=some s/\i≠j:=fun {j s} hs e=>by
  by_cases hj:i=j
  ·subst hj
   by_cases hi:i<(clear2 ρ).length
   ·rw [aw hi] at e;exact absurd (bw e).symm (hs _)
   ·rw [bj (by simpa using hi)] at e;cases e
  ·rw [ag hj] at e;exact ⟨e,hj⟩
 refine q _ _ Hs ⟨f'.st,by simp [f'.len],fun j d h=>?_,fun j d h=>?_,fun j d h=>?_,fun j k d d' b h1 h2 h3 h4=>?_,f'.lh,fun j d h=>?_,fun j k d d' h1 h2=>?_⟩
 ·obtain ⟨h,hj⟩:=nx (fun _ z=>by cases z) h
  rw [ag hj];exact f'.sh j d h
 ·obtain ⟨h,hj⟩:=nx (fun _ z=>by cases z) h
  rw [ag hj];exact f'.ow j d h
 ·obtain ⟨h,hj⟩:=nx (fun _ z=>by cases z) h
  rw [ag hj];exact f'.lk j d h
 ·obtain ⟨h1,hj⟩:=nx (fun _ z=>by cases z) h1
  obtain ⟨h2,hk⟩:=nx (fun _ z=>by cases z) h2
  rw [ag hj] at h3
  rw [ag hk] at h4
  exact f'.dj j k d d' b h1 h2 h3 h4
 ·by_cases hj:i=j
  ·subst hj
   by_cases hi:i<(clear2 ρ).length
   ·rw [aw hi] at h
    cases h
    have at4:=Bp [a1,a2,a3,a4] H nd
    have ne:∀ b∈[a1,a2,a3,a4],b≠a:=fun b hb z=>(List.nodup_cons.mp nd5).1 (z ▸ hb)
    have go:∀ b∈[a1,a2,a3,a4],upd (oR [a1,a2,a3,a4] H) a (.lst [.ref a1,.ref a2,.ref a3,.ref a4]) b=some (.lst []):=fun b hb=>by rw [aQ (ne b hb)];exact at4 b hb
    refine ⟨a,[a1,a2,a3,a4],aw (by rw [<- f'.len];exact hi),aX,nd5,fun b hb=>⟨f.st.sub.free (free5 b hb),f.st.all.free (free5 b hb)⟩,fun b hb k e hk=>?_,.cons (go _ (by simp)) .nil (.cons (go _ (by simp)) .nil (.cons (go _ (by simp)) .nil (.cons (go _ (by simp)) .nil .nil)))⟩
    obtain ⟨hk,nk⟩:=nx (fun _ z=>by cases z) hk
    rw [ag nk]
    intro z
    obtain ⟨b',o,k1,k2,_⟩:=f.ow k e hk
    rw [z] at k1
    cases k1
    rw [free5 b hb] at k2;cases k2
   ·rw [bj (by simpa using hi)] at h;cases h
  ·rw [ag hj] at h;exact (no2 j d h).elim
 ·by_cases hj:i=j
  ·by_cases hk:i=k
   ·exact hj.symm.trans hk
   ·rw [ag hk] at h2;exact (no2 k d' h2).elim
  ·rw [ag hj] at h1;exact (no2 j d h1).elim
theorem Jl {st:cw}{gs:aq->R Fl} (h:JS c st gs):JS c st (fun ρ=>gs (db ρ)):=.of fun ρ=>v4 (h (db ρ)) fun D σ H h_1=>by
 obtain ⟨H0,Hs0,la,Hs,f,q⟩:=h_1
 obtain ⟨Hs',f'⟩:=f.shared
 exact ⟨H0,Hs0,la,Hs',f',q⟩
def shareAt (i:Nat) (ρ:aq):aq:=match ρ[i]? with
 | some (Sl.own d)=>ρ.set i (.shr d)
 | _=>ρ
theorem Fr.shareAt {K:a5}{H0 Hs0 H Hs:Hp}{la:Nat->Option aa}{ρ:aq}{σ:St} (f:Fr K H0 Hs0 la ρ σ H Hs) (i:Nat):∃ Hs',Fr K H0 Hs0 la (J.shareAt i ρ) σ H Hs':=by
 unfold J.shareAt
 split
 ·rename_i d ho
  obtain ⟨a,o,k1,k2,k3,k4,k5⟩:=f.ow i d ho
  have hil:i<ρ.length:=(List.getElem?_eq_some_iff.mp ho).1
  have up:cW Hs (upd Hs a o):=iq k3
  have nx:∀ {j:Nat}{s:Sl},(∀ d,s≠.shr d)->(ρ.set i (.shr d))[j]?=some s->ρ[j]?=some s/\i≠j:=fun {j s} hs e=>by
   by_cases hj:i=j
   ·subst hj
    rw [aw hil] at e;exact absurd (bw e).symm (hs d)
   ·rw [ag hj] at e;exact ⟨e,hj⟩
  have ne:∀ (j:Nat) (e:D) (b:aa),i≠j->ρ[j]?=some (Sl.own e)->σ[j]?=some (some (V.ref b))->b≠a:=fun j e b hj h hb z=>by
   subst z
   exact hj (f.dj i j d e b ho h k1 hb)
  refine ⟨upd Hs a o,⟨f.st.all,f.st.sh.trans up,fun b u e=>?_,fun b u e t z=>?_⟩,by simp [f.len],fun j e h=>?_,fun j e h=>?_,fun j e h=>?_,fun j k d1 d2 b h1 h2 h3 h4=>?_,f.lh,fun j e h=>?_,fun j k d1 d2 h1 h2=>?_⟩
  ·by_cases hb:b=a
   ·subst hb;rw [aX] at e;cases e;exact k2
   ·rw [aQ hb] at e;exact f.st.sub b u e
  ·rw [aQ (aW e k4)];exact f.st.out b u e t z
  ·by_cases hj:i=j
   ·subst hj
    rw [aw hil] at h
    cases h
    exact ⟨_,k1,k5.share k3⟩
   ·rw [ag hj] at h
    obtain ⟨v,q1,q2⟩:=f.sh j e h
    exact ⟨v,q1,q2.same up⟩
  ·obtain ⟨h,hj⟩:=nx (fun _ z=>by cases z) h
   obtain ⟨b,u,q1,q2,q3,q4,q5⟩:=f.ow j e h
   exact ⟨b,u,q1,q2,by rw [aQ (ne j e b hj h q1)];exact q3,q4,q5.same up⟩
  ·obtain ⟨h,hj⟩:=nx (fun _ z=>by cases z) h
   obtain ⟨b,u,q1,q2,q3,q4,q5,q6⟩:=f.lk j e h
   exact ⟨b,u,q1,q2,q3,by rw [aQ (aW q5 k4)];exact q4,q5,q6.same up⟩
  ·exact f.dj j k d1 d2 b (nx (fun _ z=>by cases z) h1).1 (nx (fun _ z=>by cases z) h2).1 h3 h4
  ·obtain ⟨h,hj⟩:=nx (fun _ z=>by cases z) h
   obtain ⟨b,as,O⟩:=f.o2 j e h
   refine ⟨b,as,O.at_,O.ob,O.nd,fun c hc=>⟨?_,(O.out c hc).2⟩,fun c hc k e' hk=>O.dj c hc k e' (nx (fun _ z=>by cases z) hk).1,O.inn.step (.refl _) up⟩
   rw [aQ (fun z=>O.dj c hc i d ho (by rw [z];exact k1))]
   exact (O.out c hc).1
  ·exact f.u2 j k d1 d2 (nx (fun _ z=>by cases z) h1).1 (nx (fun _ z=>by cases z) h2).1
 ·exact ⟨Hs,f⟩
theorem DL (i:Nat) {st:cw}{gs:aq->R Fl} (h:JS c st gs):JS c st (fun ρ=>gs (shareAt i ρ)):=.of fun ρ=>v4 (h (shareAt i ρ)) fun D σ H h_2=>by
 obtain ⟨H0,Hs0,la,Hs,f,q⟩:=h_2
 obtain ⟨Hs',f'⟩:=f.shareAt i
 exact ⟨H0,Hs0,la,Hs',f',q⟩
theorem u3.get {K:a5}{H Hs:Hp}{as:List aa}{dss:List (List D)} (h:u3 K H Hs as dss):∀ {j:Nat}{ds:List D},dss[j]?=some ds->∃ b vs,as[j]?=some b/\H b=some (.lst vs)/\RDs K Hs vs ds:=by
 induction h with
 | nil=>intro j ds e;cases e
 | cons h r t ih =>
  intro j ds e
  cases j with
  | zero=>cases e;exact ⟨_,_,rfl,h,r⟩
  | succ j=>have q:=ih (j:=j) e;exact q
theorem u3.length {K:a5}{H Hs:Hp}{as:List aa}{dss:List (List D)} (h:u3 K H Hs as dss):as.length=dss.length:=by
 induction h with
 | nil=>rfl
 | cons _ _ _ ih=>exact congrArg (· + 1) ih
theorem u3.set {K:a5}{H Hs:Hp}{vs':List V}{ds':List D} (r':RDs K Hs vs' ds'):∀ {as:List aa}{dss:List (List D)}{j:Nat}{b:aa},u3 K H Hs as dss->as[j]?=some b->as.Nodup->u3 K (L2.upd H b (.lst vs')) Hs as (dss.set j ds')
 | _,_,_,_,.nil,h,_=>by simp at h
 | _,_,0,b,.cons h r t,e,nd=>by
  simp at e
  subst e
  exact .cons aX r' (t.upd (List.nodup_cons.mp nd).1)
 | _,_,j + 1,b,.cons (a:=a) h r t,e,nd=>by
  have e':_:=e
  simp only [iX] at e'
  obtain ⟨n1,n2⟩:=List.nodup_cons.mp nd
  have hb:b∈_:=b_ e'
  exact .cons (by rw [aQ (fun z=>n1 (by rw [z];exact hb))];exact h) r (u3.set r' t e' n2)
def jb (i:Nat) (gi g:aq->R D):aq->R Fl:=fun ρ=>match ρ[i]? with
 | some (Sl.ow2 dss)=>(gi ρ).bind fun k=>match k with
  | .int j=>if 0<=j then (match dss[j.toNat]? with
   | some ds=>(g ρ).bind fun d=>if ds.length<1000 then .ok (.nx (ρ.set i (.ow2 (dss.set j.toNat (ds++[d]))))) else .no
   | none=>.no) else .no
  | _=>.no
 | _=>.no
variable {ie:aO}
theorem qV (i:Nat) (hie:JE c ie gi) (h:JE c e g) (hN:c.X.N[i]?=some x:=by rfl) (hv:FZ c.X.env.scope x:=by first | exact eP rfl | exact cY (eP rfl) | exact cY (cY rfl)) (hd:(x == ("__debug__" : Str))=false:=by decide)
  (hcd:(x == ("__classdict__" : Str))=false:=by decide) {p3:Pos} (hpx:vk ie:=by exact fun _ _=>rfl)
  (hbase:oj (.Subscript (.Name x p) ie p3) "append" c.X.env (cp (.Subscript (.Name x p) ie p3) c.X.env)=cp (.Subscript (.Name x p) ie p3) c.X.env:=by rfl)
  (hfew:((dz cpos (ak [e] c.X.env)).all (fun x=>!x.1) && (CV cpos (tJ [] c.X.env)).all (fun x=>x.1.isSome)
   && decide ([e].length + ([] : List mq).length + (if ([] : List mq).isEmpty then 0 else 1)<30))=true:=by rfl)
  (hline:(apos.endLine == cpos.line)=true:=by rfl) (hst:ak [e] c.X.env=(false,cp e c.X.env)::ak [] c.X.env:=by rfl) (hplain:(dz cpos (ak [] c.X.env)).any (·.1)=false:=by rfl)
  (hs:fB (.Call (.Attribute (.Subscript (.Name x p) ie p3) "append" apos) [e] [] cpos) none pos.line c.X.env=pure false:=by rfl) :
  JS c (.Expr (.Call (.Attribute (.Subscript (.Name x p) ie p3) "append" apos) [e] [] cpos) pos) (jb i gi g):=.of fun ρ=>by
 refine v4 (mU (uz cG lT lU tX (NG jT (ko hN hv hd hcd) (hie ρ) hpx) (bK (h ρ) dB hst) hbase hfew hline hst hplain) hs) fun D σ H h_3=>?_
 obtain ⟨H0,Hs0,la,Hs,f,q⟩:=h_3
 replace q:m9 c.X.K c.cls c.E H0 Hs0 la D (jb i gi g ρ):=q
 unfold jb at q
 split at q
 ·rename_i dss ho
  obtain ⟨a,as,O⟩:=f.o2 i dss ho
  refine ⟨_,O.at_,?_⟩
  refine sE f q fun k v H1 Hs1 e1 s1 f1 r1=>?_
  rw [e1,bind_ok] at q
  cases r1 with
  | int j =>
   simp only at q
   by_cases hj:0<=j
   ·rw [if_pos hj] at q
    split at q
    ·rename_i ds hds
     obtain ⟨b,vs,hb,hH,rv⟩:=O.inn.get hds
     have hix:Dh (as.map V.ref) j=some (.ref b):=by
      have:=rZ (xs:=as.map V.ref) (j:=j.toNat) (v:=V.ref b) (by rw [ay,hb];rfl)
      rwa [dQ hj] at this
     refine ⟨a,_,j,_,rfl,rfl,.of (s1.all _ _ O.ob),hix,.inl ⟨rfl,_,.of (s1.all _ _ hH)⟩,?_⟩
     refine sE f1 q fun d w H2 Hs2 e2 s2 f2 r2=>?_
     rw [e2,bind_ok] at q
     by_cases hl:ds.length<1000
     ·rw [if_pos hl] at q
      have st:=s1.trans s2
      refine ⟨b,vs,w,rfl,rfl,st.all _ _ hH,bU (by rw [rv.length];omega),?_⟩
      have hil:i<ρ.length:=(List.getElem?_eq_some_iff.mp ho).1
      obtain ⟨a',as',O2'⟩:=f2.o2 i dss ho
      have ea:a'=a:=by
       have:=O2'.at_
       rw [O.at_] at this
       cases this;rfl
      subst ea
      have eas:as'=as:=by
       have h1:=O2'.ob
       rw [st.all _ _ O.ob] at h1
       injection h1 with h1
       injection h1 with h1
       exact (List.map_inj_right (fun x y z=>by cases z;rfl) |>.mp h1).symm
      subst eas
      have hbm:b∈a'::as':=ai _ (b_ hb)
      have nb:b≠a':=fun z=>(List.nodup_cons.mp O.nd).1 (z ▸ b_ hb)
      obtain ⟨bs,b0⟩:=O2'.out b hbm
      have nx:∀ {j':Nat}{s:Sl},(∀ d,s≠.ow2 d)->(ρ.set i (.ow2 (dss.set j.toNat (ds++[d]))))[j']?=some s->ρ[j']?=some s/\i≠j':=fun {j' s} hs e=>by
       by_cases hj:i=j'
       ·subst hj
        rw [aw hil] at e;exact absurd (bw e).symm (hs _)
       ·rw [ag hj] at e;exact ⟨e,hj⟩
      refine q _ _ Hs2 ⟨⟨fun c u e=>?_,f2.st.sh,fun c u e=>?_,f2.st.out⟩,by simp [f2.len],fun j' d' h=>f2.sh j' d' (nx (fun _ z=>by cases z) h).1,fun j' d' h=>?_,fun j' d' h=>?_,fun j' k' d' e' a h1 h2=>f2.dj j' k' d' e' a (nx (fun _ z=>by cases z) h1).1 (nx (fun _ z=>by cases z) h2).1,f2.lh,fun j' d' h=>?_,fun j' k' d' e' h1 h2=>?_⟩
      ·rw [aQ (aW e b0)];exact f2.st.all c u e
      ·rw [aQ (aW e bs)];exact f2.st.sub c u e
      ·obtain ⟨h,_⟩:=nx (fun _ z=>by cases z) h
       obtain ⟨c',u,k1,k2,k3,k4,k5⟩:=f2.ow j' d' h
       refine ⟨c',u,k1,?_,k3,k4,k5⟩
       rw [aQ (fun z=>O2'.dj b hbm j' d' h (by rw [<- z];exact k1))]
       exact k2
      ·obtain ⟨h,_⟩:=nx (fun _ z=>by cases z) h
       obtain ⟨c',u,k1,k2,k3,k4,k5,k6⟩:=f2.lk j' d' h
       refine ⟨c',u,k1,k2,?_,k4,k5,k6⟩
       rw [aQ (aW k5 b0)]
       exact k3
      ·by_cases hj':i=j'
       ·subst hj'
        rw [aw hil] at h
        cases h
        refine ⟨a',as',O2'.at_,by rw [aQ (eA nb)];exact O2'.ob,O2'.nd,O2'.out,fun c hc k e' hk=>O2'.dj c hc k e' (nx (fun _ z=>by cases z) hk).1,?_⟩
        exact u3.set ((rv.same st.sh).append (.cons r2 .nil)) O2'.inn hb (List.nodup_cons.mp O2'.nd).2
       ·rw [ag hj'] at h
        exact (hj' (f2.u2 i j' _ _ ho h)).elim
      ·by_cases hj':i=j'
       ·by_cases hk':i=k'
        ·exact hj'.symm.trans hk'
        ·rw [ag hk'] at h2
         exact (hk' (f2.u2 i k' _ _ ho h2)).elim
       ·rw [ag hj'] at h1
        exact (hj' (f2.u2 i j' _ _ ho h1)).elim
     ·rw [if_neg hl] at q;exact q.elim
    ·exact q.elim
   ·rw [if_neg hj] at q;exact q.elim
  | none=>exact q.elim
  | bool _=>exact q.elim
  | str _=>exact q.elim
  | list _ _=>exact q.elim
  | tuple _ _=>exact q.elim
  | dictK _ _=>exact q.elim
  | dictT _ _ _=>exact q.elim
  | dictF _ _ _=>exact q.elim
 ·exact q.elim
end
end
section
open PyProof.Rows (OwnCls)
theorem ME (l:aa) (items:Array a7) (n:Nat) (b:aa) (dd:Option aa) (items2:Array a7) (n2:Nat) (sl:Array (Option a7)) (door:¬(!items.isEmpty && fh (items.size + items2.size))=true) (z1:items.size<=sizeLine) (z2:items.size + items2.size<=sizeLine + 1) :
  Meets (fN.«list.extend» ⟨[.ref l,.ref b],[]⟩) (fun _ R s=>s.heap.get? l=some { cls:=.type "list",data:=.seq items n }/\s.heap.get? b=some { cls:=.type "list",dict:=dd,data:=.seq items2 n2,slots:=sl } /\
   R (.ok (.ret d_)) { s with heap:=s.heap.update l (iV fun xs=>xs++items2),toks:=s.toks }) :=
 .of_wp fun prog w A R s h=>by
  obtain ⟨hp,gg,dr,tk,os⟩:=s
  obtain ⟨hl,hb,h⟩:=h
  have f1:=AutoSeq1.idx_int
  have f2:=AutoSeq1.sub_tuple_tuple
  have f3:=AutoSeq1.sub_list_list
  have f4:=AutoSeq1.sub_tuple_list
  have f5:=AutoSeq1.sub_list_tuple
  have sC:(items++items2).size<=sizeLine + 1:=by rw [Hy];exact z2
  wp_walk using (AH hl rfl (hz:=z1) (_hz':=sC)),wpAny_loadPart' hl,wpAny_loadPart' hb
  exact ⟨_,rfl,h⟩
section
variable {X:Cx}
inductive O0 (K:a5) (x:V) (vs:List V) (H:Hp) (Q:VK):Prop
 | mk (l b xs zs:_) (h0:x=.ref l) (h1:vs=[.ref b]) (h2:H l=some (.lst xs)) (h3:l5 K H b zs) (h4:xs.length + zs.length<=sizeLine) (h5:Q .non (upd H l (.lst (xs++zs)))):O0 K x vs H Q
def Tg (K:a5):V->List V->Hp->VK->Prop:=O0 K
theorem Pw:SW X "list.extend" (Tg X.K):=by
 intro pins s σ H x vs v us Q I rx rv h
 obtain ⟨l,b,xs,zs,rfl,rfl,hH,hB,hz,q⟩:=h
 cases rx
 obtain ⟨u,rfl,ru⟩:=rv.one
 cases ru
 obtain ⟨z,its,n,r,hl,e⟩:=I.lstM hH
 obtain ⟨its2,r2,⟨⟨m1,m2,m3,m4⟩,n2,e2,d1,d2,d3⟩,z2⟩:=I.list hB
 simp only at d1 d2 d3
 subst d1 d2 d3
 have len2:=r2.length
 have fit:its.toArray.size + its2.toArray.size<=sizeLine:=by rw [aF,aF];omega
 refine ki Ls ⟨_,e,rfl⟩ Lf (HF _ _) (ME l its.toArray n b _ its2.toArray n2 m4 ?_ (by omega) (by omega)) ⟨e,e2,?_⟩
 ·rw [vP fit,Bool.and_false]
  exact aL
 ·refine ⟨.non,_,I.lset (its':=its++its2) hH e (by simp) (r.append r2) ?_,rfl,q⟩
  rw [aR]
  omega
end
section
variable {c:C}{e:aO}{g:aq->R D}{pos p apos cpos:Pos}{x:Str}
def GD (i:Nat) (g:aq->R D):aq->R Fl:=fun ρ=>match ρ[i]? with
 | some (Sl.own (.list ds))=>(g ρ).bind fun d=>match d with
  | .list es=>if ds.length + es.length<=1000 then .ok (.nx (ρ.set i (.own (.list (ds++es))))) else .no
  | _=>.no
 | _=>.no
theorem GE (i:Nat) (h:JE c e g) (hN:c.X.N[i]?=some x:=by rfl) (hv:FZ c.X.env.scope x:=by first | exact eP rfl | exact cY (eP rfl) | exact cY (cY rfl)) (hd:(x == ("__debug__" : Str))=false:=by decide)
  (hcd:(x == ("__classdict__" : Str))=false:=by decide)
  (hbase:oj (.Name x p) "extend" c.X.env (cp (.Name x p) c.X.env)=cp (.Name x p) c.X.env:=by rfl)
  (hfew:((dz cpos (ak [e] c.X.env)).all (fun x=>!x.1) && (CV cpos (tJ [] c.X.env)).all (fun x=>x.1.isSome)
   && decide ([e].length + ([] : List mq).length + (if ([] : List mq).isEmpty then 0 else 1)<30))=true:=by rfl)
  (hline:(apos.endLine == cpos.line)=true:=by rfl) (hst:ak [e] c.X.env=(false,cp e c.X.env)::ak [] c.X.env:=by rfl) (hplain:(dz cpos (ak [] c.X.env)).any (·.1)=false:=by rfl)
  (hs:fB (.Call (.Attribute (.Name x p) "extend" apos) [e] [] cpos) none pos.line c.X.env=pure false:=by rfl) :
  JS c (.Expr (.Call (.Attribute (.Name x p) "extend" apos) [e] [] cpos) pos) (GD i g):=.of fun ρ=>by
 refine v4 (mU (uz cG lV lW Pw (ko hN hv hd hcd) (bK (h ρ) dB hst) hbase hfew hline hst hplain) hs) fun D σ H h_0=>?_
 obtain ⟨H0,Hs0,la,Hs,f,q⟩:=h_0
 replace q:m9 c.X.K c.cls c.E H0 Hs0 la D (GD i g ρ):=q
 unfold GD at q
 split at q
 ·rename_i ds ho
  obtain ⟨a,o,k1,k2,k3,k4,k5⟩:=f.ow i _ ho
  cases k5 with
  | @lst vs _ r =>
   refine ⟨_,k1,.inl ⟨rfl,_,.of k2⟩,?_⟩
   refine sE f q fun d v H1 Hs1 e1 s1 f1 r1=>?_
   rw [e1,bind_ok] at q
   cases r1 with
   | @list b zs es sq rs =>
    simp only at q
    by_cases hl:ds.length + es.length<=1000
    ·rw [if_pos hl] at q
     have r':=r.same s1.sh
     exact ⟨a,b,vs,zs,rfl,rfl,s1.all _ _ k2,f1.st.sub.seq sq,bi (bU (by rw [r.length,rs.length];exact hl)),q _ _ Hs1 (f1.write i ho k1 (.lst (r'.append rs)))⟩
    ·rw [if_neg hl] at q;exact q.elim
   | none=>exact q.elim
   | bool _=>exact q.elim
   | int _=>exact q.elim
   | str _=>exact q.elim
   | tuple _ _=>exact q.elim
   | dictK _ _=>exact q.elim
   | dictT _ _ _=>exact q.elim
   | dictF _ _ _=>exact q.elim
 ·exact q.elim
end
structure Er (mg:Str->Option a7) (base:a_) (cls:Str->aa) (x:Str):Prop where
 ex:∃ bmB newId initId Bn,OwnCls x (cls x) bmB newId mg base/\qL Bn newId initId bmB
def zQ (x:Str) (gs:aq->R (List D)):aq->R Fl:=fun ρ=>(gs ρ).bind fun ds=>if ds.length<=1000 then .ex x none else .no
section
variable {P:aB}{w:aT}{K:a5}{mg:Str->Option a7}{base:a_}{N:List Str}{qual:Str}{scope:dG}{f:aa}{cd:a7}{A:aP}{outer:List Env}{s:a9}{H:Hp}{E:XK}{cls:Str->aa}
theorem Jm {x:Str}{np cpos pos:Pos}{e0:aO}{bA:List aO}{gs:aq->R (List D)} (R0:Er mg base cls x)
  (hg:Gl (fg (iN P w) P w K mg base N qual scope f cd A outer s H E) x) (ha:AF ⟨fg (iN P w) P w K mg base N qual scope f cd A outer s H E,cls,E⟩ (e0::bA) gs)
  (he:ak (e0::bA) (fg (iN P w) P w K mg base N qual scope f cd A outer s H E).env=(false,cp e0 (fg (iN P w) P w K mg base N qual scope f cd A outer s H E).env)::ak bA (fg (iN P w) P w K mg base N qual scope f cd A outer s H E).env:=by rfl)
  (hdb:(x == ("__debug__" : Str))=false:=by decide) (hpl:(dz cpos (ak bA (fg (iN P w) P w K mg base N qual scope f cd A outer s H E).env)).any (·.1)=false:=by rfl) :
  JS ⟨fg (iN P w) P w K mg base N qual scope f cd A outer s H E,cls,E⟩ (.Raise (some (.Call (.Name x np) (e0::bA) [] cpos)) none pos) (zQ x gs):=.of fun ρ=>by
 obtain ⟨bmB,newId,initId,Bn,O,FB⟩:=R0.ex
 refine v4 (IS O FB hg (ha ρ) he hdb hpl) fun D σ H1 h_1=>?_
 obtain ⟨H0,Hs0,la,Hs,f,q⟩:=h_1
 replace q:m9 K cls E H0 Hs0 la D (zQ x gs ρ):=q
 refine ⟨H0,Hs0,la,Hs,f,?_⟩
 unfold zQ at q
 cases hr:gs ρ with
 | no=>rw [hr] at q;exact q
 | ex y n=>rw [hr] at q;exact fun H' Hs' s=>q H' Hs' (f.st.trans s)
 | ok ds =>
  rw [hr,bind_ok] at q
  intro vs H2 Hs2 s2 r2
  by_cases hl:ds.length<=1000
  ·rw [if_pos hl] at q
   exact ⟨bi (bU (by rw [r2.length];exact hl)),q H2 Hs2 (f.st.trans s2)⟩
  ·rw [if_neg hl] at q;exact q.elim
end
end
section
structure Bi (mg:Str->Option a7):Prop where
 len:mg "len"=none
 isinstance:mg "isinstance"=none
 all:mg "all"=none
 any:mg "any"=none
 zip:mg "zip"=none
 tuple:mg "tuple"=none
 list:mg "list"=none
 sorted:mg "sorted"=none
 set:mg "set"=none
 range:mg "range"=none
 enumerate:mg "enumerate"=none
 dict:mg "dict"=none
 sum:mg "sum"=none
 max:mg "max"=none
 min:mg "min"=none
 reversed:mg "reversed"=none
 str:mg "str"=none
 int:mg "int"=none
 bool:mg "bool"=none
end
section
structure Xf (K:a5) (base:a_) (cls:Str->aa) (names:List Str) (C:aa) (j:Nat):Prop where
 ek:IU K C
 is:∀ i n,names[i]?=some n->da K (.ref C) (.ref (cls n))=some (decide (i=j))
 ve:da K (.ref C) (.type "ValueError")=some true
 ox:∃ bm,zE base C bm/\bm.contains (.ref (cls "PlanError"))=true
 lt:j<11
inductive O1 (K:a5) (base:a_) (cls:Str->aa) (names:List Str) (vs:List V) (H:Hp) (Q:VK) (z_3:XK):Prop
 | mk (ea C j:_) (h0:vs=[.ref ea]) (h1:H ea=some (w5 ea C)) (h2:Xf K base cls names C j) (h3:∀ t H',cW H H'->H t=none->H' t=some (.tup [.str "refused",.int (j:Nat)])->Q (.ref t) H'):O1 K base cls names vs H Q z_3
def Px (K:a5) (base:a_) (cls:Str->aa) (names:List Str):Sp:=O1 K base cls names
def v8 (j:Nat):List Bool:=[decide (0=j),decide (1=j),decide (2=j),decide (3=j),decide (4=j),decide (5=j),decide (6=j),decide (7=j),decide (8=j),decide (9=j),decide (10=j)]
theorem DM:∀ j,j<11->(v8 j).countP id=1:=by
 intro j h
 have:∀ k:_root_.Fin 11,(v8 k.val).countP id=1:=by decide
 exact this ⟨j,h⟩
theorem MF:∀ j,j<11->(v8 j)[j]?=some true/\∀ m,m<j->(v8 j)[m]?=some false:=by
 intro j h
 have:∀ k:_root_.Fin 11,(v8 k.val)[k.val]?=some true/\∀ m:_root_.Fin 11,m.val<k.val->(v8 k.val)[m.val]?=some false:=by decide
 exact ⟨(this ⟨j,h⟩).1,fun m hm=>(this ⟨j,h⟩).2 ⟨m,by omega⟩ hm⟩
section
variable {X:Cx}{cls:Str->aa}{names:List Str}{base:a_}
theorem kF {e0:aO}{n:Str}{p p2 pos:Pos} (h0:PE X e0 (F_ 0)) (hg:Gl X "isinstance") (hm:X.mg "isinstance"=none) (hgn:Gl X n) (hmn:X.mg n=some (.ref (cls n))) (hdb:(n == ("__debug__" : Str))=false:=by decide)
  (he:ak [e0,.Name n p2] X.env=(false,cp e0 X.env)::ak [.Name n p2] X.env:=by rfl) (hpl:(dz pos (ak [.Name n p2] X.env)).any (·.1)=false:=by rfl) :
  PE X (.Call (.Name "isinstance" p) [e0,.Name n p2] [] pos) (fun σ H Q=>∃ ea C j i,σ[0]?=some (some (V.ref ea))/\H ea=some (w5 ea C)/\Xf X.K base cls names C j/\names[i]?=some n/\Q (.bl (decide (i=j))) H) :=
 oG (kq uB hg hm j8 (bK h0 (bK (zg hgn hmn (v:=.ref (cls n)) rfl hdb) dB) he) (by decide) (by decide) he hpl) fun σ H Q ⟨ea,C,j,i,h1,h2,x,h3,q⟩ =>
  ⟨_,h1,.ref ea,.ref (cls n),.ref (cls n),_,rfl,.inr ⟨_,rfl,rfl⟩,.inr ⟨ea,C,rfl,h2,x.ek,x.is i n h3⟩,q⟩
theorem MG {e0:aO}{p p2 pos:Pos} (h0:PE X e0 (F_ 0)) (hg:Gl X "isinstance") (hm:X.mg "isinstance"=none) (hgn:Gl X "ValueError") (hmn:X.mg "ValueError"=none)
  (he:ak [e0,.Name "ValueError" p2] X.env=(false,cp e0 X.env)::ak [.Name "ValueError" p2] X.env:=by rfl) (hpl:(dz pos (ak [.Name "ValueError" p2] X.env)).any (·.1)=false:=by rfl) :
  PE X (.Call (.Name "isinstance" p) [e0,.Name "ValueError" p2] [] pos) (fun σ H Q=>∃ ea C j,σ[0]?=some (some (V.ref ea))/\H ea=some (w5 ea C)/\Xf X.K base cls names C j/\Q (.bl true) H) :=
 oG (kq uB hg hm j8 (bK h0 (bK (Ex hgn hmn (u:=.type "ValueError") (v:=.ty "ValueError") rfl rfl) dB) he) (by decide) (by decide) he hpl) fun σ H Q ⟨ea,C,j,h1,h2,x,q⟩ =>
  ⟨_,h1,.ref ea,.ty "ValueError",.type "ValueError",_,rfl,.inl ⟨_,rfl,rfl⟩,.inr ⟨ea,C,rfl,h2,x.ek,x.ve⟩,q⟩
end
end
end J
section
namespace J
open PySem L2
def GF (wh:Str->Option Nat) (gb:aq->R Fl):aq->R Fl:=fun ρ=>match gb ρ with
 | .ok fl=>.ok fl
 | .ex y none=>match wh y with
  | some j=>.ok (.rt (.tuple [.str "refused",.int (j:Nat)]))
  | none=>.no
 | _=>.no
structure Wh (P:aB) (w:aT) (K:a5) (mg:Str->Option a7) (base:a_) (cls:Str->aa) (x:Str) (names:List Str) (wh:Str->Option Nat):Prop where
 fn:∃ f fd ps,B8 P w K mg base 1 f fd ps (Px K base cls names)/\mg x=some (.ref f)/\dH K (.ref f)=true/\iZ K fd ps []
 pe:mg "PlanError"=some (.ref (cls "PlanError"))
 ox:∃ bp,zE base (cls "PlanError") bp
 xf:∀ y j,wh y=some j->Xf K base cls names (cls y) j
section
variable {c:C}{body:List cw}{x n:Str}{np np2 np3 hpos cpos rpos pos:Pos}{gb:aq->R Fl}{names:List Str}{wh:Str->Option Nat}
end
end J
namespace L2
open PySem
theorem kr.mono1 {k:Nat}{A:aP} (r:kr k A) (h:1<=k:=by decide):kr 1 A:=⟨by have:=r.dp;omega,by have:=r.un;omega⟩
end L2
end
namespace J
open PySem L2
section
open PyProof.Rows (OwnCls)
abbrev MH:List a7:=[.type "ValueError",.type "Exception",.type "BaseException",.type "object"]
theorem DN {K:a5}{h:a_}{mg:Str->Option a7}{x:Str}{C:aa}{bmB:List a7}{newId:String} (X:K.In h) (G:h.Ns br mg) (e:fD K br x=some (some (.ref C))) (q:xn K C bmB newId=true) (m1:c8 K C (.type "BaseException")=some true) :
  OwnCls x C bmB newId mg h/\∃ bm,zE h C bm/\∀ v,(v == bC C)=false->c8 K C v=some true->bm.contains v=true:=by
 have hmg:=im X G e
 unfold xn at q
 split at q
 ·rename_i dd cd sl look
  split at q
  ·rename_i C' bm k0 k1 k2 k3 n k5 hmro hslots
   simp only [aS,beq_iff_eq,HL] at q
   obtain ⟨⟨⟨⟨⟨rfl,rfl⟩,nodel⟩,tl⟩,nsok⟩,noinit⟩:=q
   have slots:sl=#[k0,k1,k2,k3,some (.builtin n),k5]:=by
    cases sl with | mk l=>simp only at hslots;rw [hslots]
   have inMro:∀ v,c8 K C' v=some true->cd.mro.contains v=true:=fun v hv=>by
    unfold c8 fK at hv
    rw [look] at hv
    simp only [Option.bind_some] at hv
    split at hv
    ·cases hv
    ·exact bw hv
   have bA:∀ v,(v == bC C')=false->c8 K C' v=some true->bm.contains v=true:=fun v nv hv=>by
    have:=inMro v hv
    rw [hmro,fk,nv,rQ] at this
    exact this
   obtain ⟨nm,bs,mro,ns,qn,hd,sn,sub,ab,col,del⟩:=cd
   dsimp only at hmro nodel nsok noinit
   subst hmro nodel slots
   have at_:=X _ _ look
   exact ⟨⟨hmg,bm,ns,nm,qn,bs,hd,sn,sub,ab,col,dd,k0,k1,k2,k3,k5,_,at_,.of_isNs (kn X nsok),ed X nsok noinit,PySem.W.tail_of_in X tl⟩,
    bm,⟨⟨nm,qn,ns,bs,hd,sn,sub,ab,col,dd,k0,k1,k2,k3,k5,n,at_⟩,bA _ rfl m1⟩,bA⟩
  ·cases q
 ·cases q
structure TopC (K:a5) (x:Str) (C:aa):Prop where
 ns:fD K br x=some (some (.ref C))
 ex:xn K C MH "ValueError.__new__"=true
 mb:c8 K C (.type "BaseException")=some true
theorem TopC.er {K:a5}{h:a_}{mg:Str->Option a7}{cls:Str->aa}{x:Str}{C:aa} (T:TopC K x C) (X:K.In h) (G:h.Ns br mg) (hc:cls x=C):Er mg h cls x:=by
 subst hc
 exact ⟨_,_,_,_,(DN X G T.ns T.ex T.mb).1,vD⟩
theorem MI {K:a5}{t C:aa}{cd:ClassData}{b:Bool} (h1:fK K C=some cd) (h2:vE K (.ref C)=some (.type "type")) (h3:lX K (.ref t) (.ref C)=some b) (hn:b=false->t≠C):da K (.ref t) (.ref C)=some b:=by
 unfold da
 split
 ·rename_i he
  have e:t=C:=by have:=eq_of_beq he;cases this;rfl
  cases b with
  | true=>rfl
  | false=>exact (hn rfl e).elim
 ·unfold HM
  simp only [h1,h2,rE,beq_self_eq_true,rV,if_true]
  exact h3
theorem Py {K:a5}{t:aa} (h3:lX K (.ref t) (.type "ValueError")=some true):da K (.ref t) (.type "ValueError")=some true:=by
 unfold da
 split
 ·rename_i he
  cases (eq_of_beq he)
 ·unfold HM
  show (if PySem.W.kitMeta "ValueError"=true then _ else none)=some true
  rw [if_pos (by decide +kernel)]
  exact h3
inductive R9 (K:a5) (F:List D->R D) (vs:List V) (H:Hp) (Q:VK) (z_3:XK):Prop
 | mk (Hs ds d:_) (h0:cW Hs H) (h1:ds.length=1) (h2:RDs K Hs vs ds) (h3:F ds=.ok d) (h4:∀ v H' Hs',cx H Hs H' Hs'->RD K Hs' v d->Q v H'):R9 K F vs H Q z_3
def Ra (K:a5) (F:List D->R D):Sp:=R9 K F
theorem Pz {K:a5}{cls:Str->aa}{F:List D->R D}:∀ vs H Q E,Ra K F vs H Q E->Mw K cls 1 F vs H Q E:=fun vs H Q E ⟨Hs,ds,d,s,l,r,e,q⟩=>⟨Hs,ds,s,l,r,by rw [e];exact q⟩
def Rb (l:List (Str×aa)):Str->aa:=fun x=>(l.lookup x).getD 0
theorem PB {K:a5}{F:List D->R D}{H:Hp}{a:aa}{ns:List Int} (hF:F [.list (ns.map .int)]=.ok (.bool true)) (h:l5 K H a (ns.map V.int)):Ra K F [.ref a] H (fun v _=>v=.bl true) fun _ _ _=>False:=by
 have ri:∀ ns:List Int,RDs K H (ns.map V.int) (ns.map .int):=fun ns=>by
  induction ns with
  | nil=>exact .nil
  | cons x r ih=>exact .cons (.int x) ih
 refine ⟨H,[.list (ns.map .int)],.bool true,.refl H,rfl,.cons (.list h (ri ns)) .nil,hF,?_⟩
 intro v H' Hs' _ r
 cases r
 rfl
theorem PD {P:aB}{w:aT}{H:Hp}{s:a9}{e:a7}{s':a9} (h:iN P w [] H s (fun _ _ _=>False) e s'):False:=by
 obtain ⟨_,_,_,_,_,_,_,_,_,q⟩:=h
 exact q
theorem walkF {l:uS}{k:Nat}{q:aB}{loose:List Str}{XP:(Str->Option a7)->a_->Prop}{YP:aT->a_->Prop}{d:DefRec}{K:Params->a5}{x:Str}{F0:List D->R D}
  (hn:l.most=some 63) (hdf:d.params.defaults=[]) (hr:io k ur) (hY:∀ (w:aT) (h:a_),YP w h->(K w.params).In h)
  (F:∀ (w:aT) (mg:Str->Option a7) (fa:aa) (h:a_),(K w.params).In h->h.Ns br mg->mg d.name=some (.ref fa) ->
   ∃ fd:cX,(∀ (s:a9) (u:a7),uq s fd ⟨[u],[]⟩ [(x,u)])/\∀ base:a_,(K w.params).In base->base.Ns br mg->qc l.prog w (K w.params) mg base (iN l.prog w) k fa fd [x] (Ra (K w.params) F0))
  (hF:∀ ns:List Int,ns.length<=63->F0 [.list (ns.map .int)]=.ok (.bool true)) :
  Lg q loose XP YP l.row.toRowW d [] (fun f vs=>FQ f vs) :=
 L2.M8 (n:=63) (k:=k) (x:=x) (CX:=fun w=>iN l.prog w) (sp:=fun w=>Ra (K w.params) F0) hn (by decide) hdf hr hY F (fun w H a ns hl _ hS=>PB (hF ns hl) hS) fun _ _ _ _ _ h=>PD h
def PF (i:Nat) (g:aq->R Fl):aq->R Fl:=fun ρ=>g (shareAt i ρ)
theorem DO {c:C} (i:Nat) {st:cw}{gs:aq->R Fl} (h:JS c st gs):JS c st (PF i gs):=DL i h
end
section
section
variable {s:Sl}{ρ:aq}{d x y:D}{ds:List D}
theorem zR {α β:Type} (a:α) (f:α->R β):(R.ok a).bind f=f a:=id rfl
theorem Rc {α β:Type} (c:Str) (n:Option D) (f:α->R β):(R.ex c n:R α).bind f=.ex c n:=id rfl
def Jn (h:aq->R Fl):Fl->R Fl:=fun fl=>match fl with
 | .nx ρ'=>h ρ'
 | fl=>.ok fl
theorem Br (g h:aq->R Fl):bf g h (s::ρ)=(g (s::ρ)).bind (Jn h):=id rfl
theorem oS (h:aq->R Fl) (ρ:aq):Jn h (.nx ρ)=h ρ:=id rfl
theorem Bs (h:aq->R Fl) (d:D):Jn h (.rt d)=.ok (.rt d):=id rfl
def Th (g h:aq->R Fl) (ρ:aq):Bool->R Fl:=fun b=>bif b then g ρ else h ρ
theorem Re (t:aq->R Bool) (g h:aq->R Fl):fE t g h (s::ρ)=(t (s::ρ)).bind (Th g h (s::ρ)):=by
 show (t (s::ρ)).bind _=_
 congr 1
 funext b
 cases b<;>rfl
theorem Jo (g h:aq->R Fl) (ρ:aq):Th g h ρ false=h ρ:=id rfl
theorem Jp (g h:aq->R Fl) (ρ:aq) (b:Bool):Th g h ρ b=bif b then g ρ else h ρ:=id rfl
def U3:D->R Fl:=fun d=>.ok (.rt d)
theorem O3 (g:aq->R D):dv g (s::ρ)=(g (db (s::ρ))).bind U3:=id rfl
theorem Rf (d:D):U3 d=.ok (.rt d):=id rfl
def wz:Sl->Sl
 | .own d=>.shr d
 | .ow2 dss=>.shr (.list (dss.map .list))
 | s=>s
theorem EY:db (s::ρ)=wz s::db ρ:=by cases s<;>rfl
theorem Bt:db []=[]:=id rfl
theorem EZ:wz .no=.no:=id rfl
theorem Bu (d:D):wz (.shr d)=.shr d:=id rfl
theorem Bv (d:D):wz (.own d)=.shr d:=id rfl
theorem Bw (d:List (List D)):wz (.ow2 d)=.shr (.list (d.map .list)):=id rfl
def Rg (i:Nat) (ρ:aq):D->R Fl:=fun d=>.ok (.nx (ρ.set i (.shr d)))
theorem Jq (i:Nat) (g:aq->R D):ir i g (s::ρ)=(g (s::ρ)).bind (Rg i (s::ρ)):=id rfl
theorem Jr (i:Nat) (ρ:aq) (d:D):Rg i ρ d=.ok (.nx (ρ.set i (.shr d))):=id rfl
def O4 (i:Nat) (ρ:aq):D->R Fl:=fun d=>.ok (.nx (ρ.set i (.own d)))
theorem Js (i:Nat) (g:aq->R D):g9 i g (s::ρ)=(g (s::ρ)).bind (O4 i (s::ρ)):=id rfl
theorem E_ (i:Nat) (ρ:aq) (d:D):O4 i ρ d=.ok (.nx (ρ.set i (.own d))):=id rfl
def Iu (ρ:aq):D->R Fl:=fun _=>.ok (.nx ρ)
theorem Jt (g:aq->R D):Bf g (s::ρ)=(g (s::ρ)).bind (J.Iu (s::ρ)):=id rfl
theorem F4 (ρ:aq) (d:D):J.Iu ρ d=.ok (.nx ρ):=id rfl
def U4 (gb:aq->R D) (h:D->D->R D) (ρ:aq):D->R D:=fun x=>(gb ρ).bind (h x)
theorem Rh (ga gb:aq->R D) (h:D->D->R D):g2 ga gb h (s::ρ)=(ga (s::ρ)).bind (U4 gb h (s::ρ)):=id rfl
theorem O5 (gb:aq->R D) (h:D->D->R D) (ρ:aq) (x:D):U4 gb h ρ x=(gb ρ).bind (h x):=id rfl
def MJ:D->R Bool:=fun d=>match d with
 | .bool b=>.ok b
 | _=>.no
theorem O6 (g:aq->R D):gU g (s::ρ)=(g (s::ρ)).bind MJ:=id rfl
theorem Ju (b:Bool):MJ (.bool b)=.ok b:=id rfl
def Ri:Bool->R Bool:=fun b=>.ok (!b)
theorem O7 (g:aq->R Bool):jP g (s::ρ)=(g (s::ρ)).bind Ri:=id rfl
theorem Jv (b:Bool):Ri b=.ok (!b):=id rfl
def Rj (h:aq->R Bool) (ρ:aq):Bool->R Bool:=fun b=>bif b then h ρ else .ok false
def U5 (h:aq->R Bool) (ρ:aq):Bool->R Bool:=fun b=>bif b then .ok true else h ρ
theorem O8 (g h:aq->R Bool):Dw g h (s::ρ)=(g (s::ρ)).bind (Rj h (s::ρ)):=by
 show (g (s::ρ)).bind _=_
 congr 1;funext b;cases b<;>rfl
theorem Rk (g h:aq->R Bool):HA g h (s::ρ)=(g (s::ρ)).bind (U5 h (s::ρ)):=by
 show (g (s::ρ)).bind _=_
 congr 1;funext b;cases b<;>rfl
theorem Jw (h:aq->R Bool) (ρ:aq) (b:Bool):Rj h ρ b=bif b then h ρ else .ok false:=id rfl
theorem O9 (h:aq->R Bool) (ρ:aq) (b:Bool):U5 h ρ b=bif b then .ok true else h ρ:=id rfl
def Oa:Bool->R D:=fun b=>.ok (.bool (!b))
theorem Jx (g:aq->R D):yt g (s::ρ)=((g (s::ρ)).bind MJ).bind Oa:=id rfl
theorem F5 (b:Bool):Oa b=.ok (.bool (!b)):=id rfl
def Ob (h:aq->R D) (ρ:aq):Bool->R D:=fun b=>bif b then h ρ else .ok (.bool false)
theorem Jy (g h:aq->R D):uC g h (s::ρ)=((g (s::ρ)).bind MJ).bind (Ob h (s::ρ)):=by
 show (gU g (s::ρ)).bind _=(gU g (s::ρ)).bind _
 congr 1;funext b;cases b<;>rfl
theorem F6 (h:aq->R D) (ρ:aq) (b:Bool):Ob h ρ b=bif b then h ρ else .ok (.bool false):=id rfl
def Rl (gb gc:aq->R D) (h h':D->D->R D) (ρ:aq):D->R D:=fun x=>(gb ρ).bind fun y=>(h x y).bind fun z=>match z with
 | .bool true=>(gc ρ).bind fun w=>h' y w
 | .bool false=>.ok (.bool false)
 | _=>.no
def Rm (gc:aq->R D) (h h':D->D->R D) (ρ:aq) (x:D):D->R D:=fun y=>(h x y).bind fun z=>match z with
 | .bool true=>(gc ρ).bind fun w=>h' y w
 | .bool false=>.ok (.bool false)
 | _=>.no
def Rn (gc:aq->R D) (h':D->D->R D) (ρ:aq) (y:D):D->R D:=fun z=>match z with
 | .bool true=>(gc ρ).bind (h' y)
 | .bool false=>.ok (.bool false)
 | _=>.no
theorem F7 (ga gb gc:aq->R D) (h h':D->D->R D):oK ga gb gc h h' (s::ρ)=(ga (s::ρ)).bind (Rl gb gc h h' (s::ρ)):=id rfl
theorem Jz (gb gc:aq->R D) (h h':D->D->R D) (ρ:aq) (x:D):Rl gb gc h h' ρ x=(gb ρ).bind (Rm gc h h' ρ x):=id rfl
theorem JA (gc:aq->R D) (h h':D->D->R D) (ρ:aq) (x y:D):Rm gc h h' ρ x y=(h x y).bind (Rn gc h' ρ y):=id rfl
theorem JC (gc:aq->R D) (h':D->D->R D) (ρ:aq) (y:D) (b:Bool):Rn gc h' ρ y (.bool b)=bif b then (gc ρ).bind (h' y) else .ok (.bool false):=by cases b<;>rfl
def JD (gs:aq->R (List D)) (ρ:aq):D->R (List D):=fun d=>(gs ρ).bind fun ds=>.ok (d::ds)
def JF (d:D):List D->R (List D):=fun ds=>.ok (d::ds)
theorem JH (g:aq->R D) (gs:aq->R (List D)):J.ac g gs (s::ρ)=(g (s::ρ)).bind (JD gs (s::ρ)):=id rfl
theorem Bx (gs:aq->R (List D)) (ρ:aq) (d:D):JD gs ρ d=(gs ρ).bind (JF d):=id rfl
theorem By (d:D) (ds:List D):JF d ds=.ok (d::ds):=id rfl
theorem Oc (ρ:aq):J.aH ρ=.ok []:=id rfl
def Od (k:List D->D):List D->R D:=fun ds=>if ds.length<=1000 then .ok (k ds) else .no
theorem JJ (gs:aq->R (List D)) (k:List D->D):dI gs k (s::ρ)=(gs (s::ρ)).bind (Od k):=id rfl
theorem F8 (k:List D->D) (ds:List D):Od k ds=if ds.length<=1000 then .ok (k ds) else .no:=id rfl
theorem JK (gs:aq->R (List D)) (h:List D->R D):cf gs h (s::ρ)=(gs (s::ρ)).bind h:=id rfl
def U6 (n:Nat) (F:List D->R D):List D->R D:=fun ds=>if ds.length=n then F ds else .no
theorem Ro (n:Nat) (F:List D->R D) (gs:aq->R (List D)):f9 n F gs (s::ρ)=(gs (s::ρ)).bind (U6 n F):=id rfl
theorem Oe (n:Nat) (F:List D->R D) (ds:List D):U6 n F ds=if ds.length=n then F ds else .no:=id rfl
theorem Of (h:D->R D) (d:D):ia h [d]=h d:=id rfl
theorem JM (d:D) (ρ:aq):Gp (.shr d::ρ) 0=.ok d:=id rfl
theorem Og (s:Sl) (ρ:aq) (n:Nat):Gp (s::ρ) (n + 1)=Gp ρ n:=by simp [Gp]
theorem JP (d:D) (ρ:aq):Bb (.shr d::ρ) 0=.ok d:=id rfl
theorem JQ (d:D) (ρ:aq):Bb (.own d::ρ) 0=.ok d:=id rfl
theorem JR (d:D) (ρ:aq):Bb (.lck d::ρ) 0=.ok d:=id rfl
theorem Oh (s:Sl) (ρ:aq) (n:Nat):Bb (s::ρ) (n + 1)=Bb ρ n:=by simp [Bb]
def Rp (T:String):D->R D:=fun d=>if pB d then .ok (.bool (u5 T d)) else .no
theorem Oi (g:aq->R D) (T:String):v6 g T (s::ρ)=(g (s::ρ)).bind (Rp T):=id rfl
theorem JU (T:String) (d:D):Rp T d=if pB d then .ok (.bool (u5 T d)) else .no:=id rfl
def Rq (gl gh:aq->R (Option Int)) (ρ:aq):D->R D:=fun x=>(gl ρ).bind fun l=>(gh ρ).bind fun h=>yx x l h
def Rr (gh:aq->R (Option Int)) (ρ:aq) (x:D):Option Int->R D:=fun l=>(gh ρ).bind fun h=>yx x l h
theorem Rs (g:aq->R D) (gl gh:aq->R (Option Int)):Mt g gl gh (s::ρ)=(g (s::ρ)).bind (Rq gl gh (s::ρ)):=id rfl
theorem JV (gl gh:aq->R (Option Int)) (ρ:aq) (x:D):Rq gl gh ρ x=(gl ρ).bind (Rr gh ρ x):=id rfl
theorem JX (gh:aq->R (Option Int)) (ρ:aq) (x:D) (l:Option Int):Rr gh ρ x l=(gh ρ).bind (yx x l):=id rfl
theorem Oj (ρ:aq):Pn ρ=.ok none:=id rfl
def Rt:D->R (Option Int):=fun d=>match d with
 | .int i=>.ok (some i)
 | _=>.no
theorem Ol (g:aq->R D):HB g (s::ρ)=(g (s::ρ)).bind Rt:=id rfl
theorem JY (i:Int):Rt (.int i)=.ok (some i):=id rfl
theorem PH (g:aq->R D):kA g (s::ρ)=(g (s::ρ)).bind qT:=id rfl
theorem JZ (gs:aq->R (List D)):lm gs (s::ρ)=(gs (s::ρ)).bind DG:=id rfl
theorem Om (gs:aq->R (List D)):DH gs (s::ρ)=(gs (s::ρ)).bind Sd:=id rfl
theorem On (gs:aq->R (List D)):MA gs (s::ρ)=(gs (s::ρ)).bind zp:=id rfl
def Oo (nt:Nat) (ix:List Nat) (gt:aq->R Bool) (ge:aq->R D) (ρ:aq):List D->R D:=fun ds=>if ds.length<=1000 then (gy (ib nt (mD nt ix ρ) gt ge) ds).bind fun ys=>.ok (.list ys) else .no
def Op:List D->R D:=fun ys=>.ok (.list ys)
theorem J_ (nt:Nat) (ix:List Nat) (gi:aq->R (List D)) (gt:aq->R Bool) (ge:aq->R D):dZ nt ix gi gt ge (s::ρ)=(gi (s::ρ)).bind (Oo nt ix gt ge (s::ρ)):=id rfl
theorem F9 (nt:Nat) (ix:List Nat) (gt:aq->R Bool) (ge:aq->R D) (ρ:aq) (ds:List D):Oo nt ix gt ge ρ ds=if ds.length<=1000 then (gy (ib nt (mD nt ix ρ) gt ge) ds).bind Op else .no:=id rfl
theorem Fa (ys:List D):Op ys=.ok (.list ys):=id rfl
theorem qv (gi:aq->R (List D)) (kt:D->aq->R aq) (gb:aq->R Fl) (ds:List D) (h:gi (s::ρ)=.ok ds):nY gi kt gb (s::ρ)=jk kt gb ds (s::ρ):=by unfold nY;rw [h]
def GG (k:D->aq->R aq) (ρ:aq):D->R Fl:=fun d=>match k d ρ with
 | .ok ρ'=>.ok (.nx ρ')
 | _=>.no
theorem Oq (g:aq->R D) (k:D->aq->R aq):wl g k (s::ρ)=(g (s::ρ)).bind (GG k (s::ρ)):=id rfl
theorem yz (ds:List D):qT (.list ds)=.ok ds:=id rfl
theorem yA (ds:List D):qT (.tuple ds)=.ok ds:=id rfl
theorem yB (x:Str):qT (.str x)=.ok (m7 x):=id rfl
theorem K0 (ds:List D):Sd [.tuple ds]=.ok (gS 0 ds):=id rfl
theorem Ru (ds es:List D):zp [.tuple ds,.tuple es]=.ok (v7 ds es):=id rfl
def yC (ρ:aq) (i:Nat):Sl:=Lp ((ρ[i]?).getD .no)
def K1 (ix:List Nat) (ρ:aq):aq:=ix.map (yC ρ)
theorem K2 (ix:List Nat) (ρ:aq):mD 1 ix ρ=.no::K1 ix ρ:=id rfl
theorem K3 (ix:List Nat) (ρ:aq):mD 2 ix ρ=.no::.no::K1 ix ρ:=id rfl
theorem K4 (ρ:aq):K1 [] ρ=[]:=id rfl
theorem K5 (i:Nat) (ix:List Nat) (ρ:aq):K1 (i::ix) ρ=yC ρ i::K1 ix ρ:=id rfl
theorem K6 (s:Sl) (ρ:aq):yC (s::ρ) 0=Lp s:=id rfl
theorem K7 (s:Sl) (ρ:aq) (n:Nat):yC (s::ρ) (n + 1)=yC ρ n:=by simp [yC]
theorem yD (d:D):Lp (.shr d)=.shr d:=id rfl
theorem yE (d:D):Lp (.own d)=.lck d:=id rfl
theorem DP {i:Nat}{ρ:aq}{d:D} (h:ρ[i]?=some (Sl.own d)):shareAt i ρ=ρ.set i (.shr d):=by unfold shareAt;rw [h]
theorem cO {α:Type} (f:D->R (Option D)) (c:α->D) (h:α->D):∀ (xs:List α),(∀ x∈xs,f (c x)=.ok (some (h x)))->gy f (xs.map c)=.ok (xs.map h)
 | [],_=>rfl
 | x::r,e=>by
  rw [aK,aK]
  unfold gy
  rw [e x al,bind_ok,cO f c h r fun y hy=>e y (ai _ hy),bind_ok]
theorem jZ {α:Type} (f:D->R (Option D)) (c:α->D) (h:α->D) (p:α->Bool):∀ (xs:List α),(∀ x∈xs,f (c x)=.ok (if p x then some (h x) else none))->gy f (xs.map c)=.ok ((xs.filter p).map h)
 | [],_=>rfl
 | x::r,e=>by
  rw [aK]
  unfold gy
  rw [e x al,bind_ok,jZ f c h p r fun y hy=>e y (ai _ hy),bind_ok]
  cases hp:p x<;>simp [hp]
theorem Os {ρ:aq}{gt:aq->R Bool}{ge:aq->R D}{d:D}:ib 1 ρ gt ge d=Gz (((gt (ρ.set 0 (.shr d)))).bind fun b=>if b then (ge (ρ.set 0 (.shr d))).bind fun y=>.ok (some y) else .ok none):=id rfl
theorem eg {ρ:aq}{gt:aq->R Bool}{ge:aq->R D}{d y:D} (h1:gt (ρ.set 0 (.shr d))=.ok true) (h2:ge (ρ.set 0 (.shr d))=.ok y):ib 1 ρ gt ge d=.ok (some y):=by
 rw [Os,h1,bind_ok,if_pos rfl,h2];rfl
theorem zS {ρ:aq}{gt:aq->R Bool}{ge:aq->R D}{d y:D}{b:Bool} (h1:gt (ρ.set 0 (.shr d))=.ok b) (h2:b=true->ge (ρ.set 0 (.shr d))=.ok y):ib 1 ρ gt ge d=.ok (if b then some y else none):=by
 rw [Os,h1,bind_ok]
 cases b with
 | true=>rw [if_pos rfl,h2 rfl];rfl
 | false=>rfl
theorem MK {j:Int} (h1:-(2 ^ 62)<=j) (h2:j<2 ^ 62):DG [.int j]=.ok (oP 0 j.toNat):=by
 have h:-(2 ^ 62)<=j/\j<2 ^ 62:=⟨h1,h2⟩
 unfold DG
 split
 ·rename_i j' e
  have e':j=j':=by injection e with e;injection e
  subst e'
  rw [if_pos h]
 ·rename_i hn
  exact (hn j rfl).elim
end
end
end J
section
namespace L2
open PySem PySem.Spec PyProof.Rows
theorem K8 {X:Cx}{CX:EA}{k i:Nat}{f:aa}{fd:cX}{ps:List Str}{sp:Sp}{x:Str}{p pos:Pos}{e:aO}{es:List aO}{t:TA}{E:XK}{ds:List a7}{dvs:List V}
  (F:qc X.prog X.w X.K X.mg X.base CX k f fd ps sp) (hr:io k X.A) (hN:X.N[i]?=some x) (hv:FZ X.env.scope x) (hk:dH X.K (.ref f)=true) (hb:iZ X.K fd ps ds) (hd:cJ dvs ds) (hx:iE CX X E)
  (ha:PA X (e::es) t) (hdb:(x == ("__debug__" : Str))=false:=by decide) (hcd:(x == ("__classdict__" : Str))=false:=by decide) (he:ak (e::es) X.env=(false,cp e X.env)::ak es X.env:=by rfl) (hpl:(dz pos (ak es X.env)).any (·.1)=false:=by rfl) :
  PE X (.Call (.Name x p) (e::es) [] pos) (fun σ H Q=>σ[i]?=some (some (V.ref f))/\EB sp dvs E t σ H Q):=by
 intro pins s σ H Q I ⟨hi,h⟩
 refine jg (fm (ko hN hv hdb hcd pins s σ H (fun v H'=>v=V.ref f/\H'=H) I ⟨.ref f,hi,rfl,rfl⟩) fun u s0 ⟨v,H0,I0,r0,ev,eh⟩=>?_)
 subst ev eh
 cases r0
 refine qG (h₀:=X.base) I0.ok.mod.kin hk (fm (ha pos pins s0 σ H0 _ I0 h) fun us s1 ⟨vs,H1,I1,r,q⟩=>⟨I1.kIn,?_⟩) he hpl
 exact Im F hr hb hd hx I1 r q
end L2
namespace J
open PySem L2
open PyProof.Rows (envOfC)
def yF (wh:Str->Option Nat):R D->R D
 | .ok d=>.ok d
 | .ex y none=>match wh y with
  | some j=>.ok (.tuple [.str "refused",.int (j:Nat)])
  | none=>.no
 | _=>.no
def sG (wh:Str->Option Nat) (F:List D->R D):List D->R D:=fun ds=>yF wh (F ds)
def U7 (K:a5) (cls:Str->aa) (n:Nat) (a:aa) (F:List D->R D):Sp:=fun vs H Q E=>∃ vs',vs=V.ref a::vs'/\Mw K cls n F vs' H Q E
structure Sf (P:aB) (w:aT) (K:a5) (mg:Str->Option a7) (base:a_) (cls:Str->aa) (x y:Str) (k n:Nat) (F:List D->R D):Prop where
 ex:∃ f fd ps a,qc P w K mg base (iN P w) k f fd ps (U7 K cls n a F)/\mg x=some (.ref f)/\dH K (.ref f)=true/\iZ K fd ps []/\mg y=some (.ref a)
section
variable {c:C}{e a b:aO}{g ga gb:aq->R D}{pos rpos:Pos}{es:List aO}{gs:aq->R (List D)}{x y:Str}{p q:Pos}
theorem ML {k n:Nat}{F:List D->R D} (G:Sf c.X.prog c.X.w c.X.K c.X.mg c.X.base c.cls x y k n F) (hr:io k c.X.A) (hg:Gl c.X x) (hgy:Gl c.X y) (hx:iE (iN c.X.prog c.X.w) c.X c.E) (ha:AF c es gs)
  (hdb:(x == ("__debug__" : Str))=false:=by decide) (hdy:(y == ("__debug__" : Str))=false:=by decide) (he:ak (.Name y q::es) c.X.env=(false,cp (.Name y q) c.X.env)::ak es c.X.env:=by rfl) (hpl:(dz pos (ak es c.X.env)).any (·.1)=false:=by rfl) :
  JE c (.Call (.Name x p) (.Name y q::es) [] pos) (f9 n F gs):=.of fun ρ=>by
 obtain ⟨f,fd,ps,a,hf,hm,hk,hb,hy⟩:=G.ex
 refine oG (zj (E:=c.E) hf hr hg hm hk hb .nil hx (bK (zg (v:=.ref a) hgy hy rfl hdy) (ha ρ) he) hdb he hpl) fun σ H Q h_0=>?_
 obtain ⟨H0,Hs0,la,Hs,fr,q⟩:=h_0
 show QP c.X.K c.cls c.E ρ (gs ρ) σ H fun xs H2=>U7 c.X.K c.cls n a F (V.ref a::xs++[]) H2 Q c.E
 refine xB fr q fun ds vs H1 Hs1 e1 s1 f1 r1=>?_
 unfold f9 at q
 rw [e1,bind_ok] at q
 by_cases hn:ds.length=n
 ·rw [if_pos hn] at q
  rw [bH]
  exact ⟨vs,rfl,Hs1,ds,f1.st.sub,hn,r1,q.on s1 fun d k v H2 Hs2 s2 r2=>k v H2 Hs2 (s1.trans s2) r2⟩
 ·rw [if_neg hn] at q;exact q.elim
theorem PJ {i k n:Nat}{F:List D->R D}{f:aa}{fd:cX}{ps:List Str} (hf:qc c.X.prog c.X.w c.X.K c.X.mg c.X.base (iN c.X.prog c.X.w) k f fd ps (Mw c.X.K c.cls n F)) (hk:dH c.X.K (.ref f)=true) (hb:iZ c.X.K fd ps []) (hr:io k c.X.A) (hx:iE (iN c.X.prog c.X.w) c.X c.E) (ha:AF c (e::es) gs)
  (hN:c.X.N[i]?=some x:=by rfl) (hv:FZ c.X.env.scope x:=by first | exact eP rfl | exact cY (eP rfl) | exact cY (cY rfl)) (hdb:(x == ("__debug__" : Str))=false:=by decide) (hcd:(x == ("__classdict__" : Str))=false:=by decide) (he:ak (e::es) c.X.env=(false,cp e c.X.env)::ak es c.X.env:=by rfl) (hpl:(dz pos (ak es c.X.env)).any (·.1)=false:=by rfl) (ρ:aq) :
  PS c.X (.Return (some (.Call (.Name x p) (e::es) [] pos)) rpos) (fun D σ H=>σ[i]?=some (some (V.ref f))/\SR c.X.K c.cls c.E ρ (dv (f9 n F gs) ρ) D σ H):=by
 refine v4 (zh (K8 (E:=c.E) hf hr hN hv hk hb .nil hx (ha (db ρ)) hdb hcd he hpl)) fun D σ H ⟨hi,H0,Hs0,la,Hs,fr,q⟩=>⟨hi,?_⟩
 obtain ⟨Hs',f'⟩:=fr.shared
 have t:TR c.X.K c.cls c.E (db ρ) (f9 n F gs (db ρ)) σ H D.rt:=sE f' q fun d v H1 Hs1 e1 s1 f1 r1=>by
  unfold dv at q
  rw [e1,bind_ok] at q
  exact q v H1 Hs1 f1.st r1
 clear q f' fr
 obtain ⟨H0,Hs0,la,Hs,fr,q⟩:=t
 show QP c.X.K c.cls c.E (db ρ) (gs (db ρ)) σ H fun xs H2=>Mw c.X.K c.cls n F (xs++[]) H2 D.rt c.E
 refine xB fr q fun ds vs H1 Hs1 e1 s1 f1 r1=>?_
 unfold f9 at q
 rw [e1,bind_ok] at q
 by_cases hn:ds.length=n
 ·rw [if_pos hn] at q
  rw [bH]
  exact ⟨Hs1,ds,f1.st.sub,hn,r1,q.on s1 fun d k v H2 Hs2 s2 r2=>k v H2 Hs2 (s1.trans s2) r2⟩
 ·rw [if_neg hn] at q;exact q.elim
end
section
variable {c:C}{body:List cw}{x n:Str}{np np2 np3 hpos cpos rpos pos:Pos}{gb:aq->R Fl}{names:List Str}{wh:Str->Option Nat}
theorem PK (i j:Nat) {a:aa}{ρ:aq} (W:Wh c.X.prog c.X.w c.X.K c.X.mg c.X.base c.cls x names wh) (hb:∀ (E:XK) (xe:a7->a9->Prop) (pn:List (aa×Obj)),iE (iN c.X.prog c.X.w) (NS c.X xe pn) E->yc (NS c.X xe pn) body (fun D σ H=>σ[j]?=some (some (V.ref a))/\SR c.X.K c.cls E ρ (gb ρ) D σ H))
  (hr:kr 1 c.X.A) (hgx:Gl c.X x) (hg:Gl c.X "PlanError") (hN:c.X.N.Nodup) (hi:c.X.N[i]?=some n:=by rfl) (hn:c.X.env.scope.names.lookup n=some .local:=by rfl)
  (hst:∃ l,c.X.stack=c.X.env::l/\c.X.env.frame=some c.X.env.locals:=by exact ⟨_,rfl,rfl⟩) (hex:c.X.ex=[]:=by rfl) (hdb:(x == ("__debug__" : Str))=false:=by decide) (hd:(n == ("__debug__" : Str))=false:=by decide) (hcd:(n == ("__classdict__" : Str))=false:=by decide) :
  PS c.X (.Try body [.ExceptHandler (some (.Name "PlanError" np)) (some n) [.Return (some (.Call (.Name x np2) [.Name n np3] [] cpos)) rpos] hpos] [] [] pos) (fun D σ H=>σ[j]?=some (some (V.ref a))/\SR c.X.K c.cls c.E ρ (GF wh gb ρ) D σ H):=by
 obtain ⟨f,fd,ps,F,hm,hk,hbn⟩:=W.fn
 obtain ⟨bp,y⟩:=W.ox
 have hs:∀ ea,yc (Qb c.X ea) [.Return (some (.Call (.Name x np2) [.Name n np3] [] cpos)) rpos] (Qk (EB (Px c.X.K c.X.base c.cls names) [] E0 (AM (F_ i) Ik))):=fun ea =>
  rX (zh (IW (X:=Qb c.X ea) F (hr.mark _) hgx hm hk hbn (bK (ko hi (.inl hn) hd hcd) dB) hdb))
 refine v4 (Pg hg W.pe y hN hi hn hst hex (tb:=fun E D σ H=>σ[j]?=some (some (V.ref a))/\SR c.X.K c.cls E ρ (gb ρ) D σ H) (fun E xe pn hp=>hb E xe pn hp) hs) fun D σ H h_1=>?_
 obtain ⟨hj,H0,Hs0,la,Hs,fr,q⟩:=h_1
 replace q:m9 c.X.K c.cls c.E H0 Hs0 la D (GF wh gb ρ):=q
 refine ⟨hj,H0,Hs0,la,Hs,fr,?_⟩
 unfold GF at q
 cases hr':gb ρ with
 | no=>rw [hr'] at q;exact q
 | ok fl =>
  rw [hr'] at q
  cases fl<;>exact q
 | ex z m =>
  rw [hr'] at q
  cases m with
  | some d=>exact q.elim
  | none =>
   simp only at q
   cases hw:wh z with
   | none=>rw [hw] at q;exact q.elim
   | some j =>
    rw [hw] at q
    have X0:=W.xf z j hw
    intro H' Hs' st
    obtain ⟨bm,o1,o2⟩:=X0.ox
    refine ⟨c.cls z,bm,rfl,o1,o2,fun ea hea=>?_⟩
    have hl:i<c.X.N.length:=(List.getElem?_eq_some_iff.mp hi).1
    refine ⟨.ref ea,aw (by simpa [w6] using hl),ea,c.cls z,j,rfl,aX,X0,fun t H2 sm ht hT=>?_⟩
    have s1:cW H' (upd H' ea (w5 ea (c.cls z))):=iq hea
    have ht':H' t=none:=s1.free ht
    refine q (.ref t) H2 (upd Hs' t (.tup [.str "refused",.int (j:Nat)])) ?_ (.tuple aX (.cons (.str _) (.cons (.int _) .nil)))
    refine st.trans ⟨s1.trans sm,iq (st.sub.free ht'),fun b u e=>?_,fun a o e _ z=>by rw [aQ (aW e ht')];exact z⟩
    by_cases hb':b=t
    ·subst hb';rw [aX] at e;cases e;exact hT
    ·rw [aQ hb'] at e;exact sm b u (s1 b u (st.sub b u e))
end
theorem Fr.consNo {K:a5}{H0 Hs0 H Hs:Hp}{ρ:aq}{σ:St}{v:V} (f:Fr K H0 Hs0 (fun _=>none) ρ σ H Hs):Fr K H0 Hs0 (fun _=>none) (.no::ρ) (some v::σ) H Hs:=by
 refine ⟨f.st,congrArg (· + 1) f.len,fun i d h=>?_,fun i d h=>?_,fun i d h=>?_,fun i j d e a h1 h2 h3 h4=>?_,fun i a h=>(nomatch h),fun i d h=>?_,fun i j d e h1 h2=>?_⟩
 ·cases i with
  | zero=>cases h
  | succ i=>exact f.sh i d h
 ·cases i with
  | zero=>cases h
  | succ i=>exact f.ow i d h
 ·cases i with
  | zero=>cases h
  | succ i=>exact f.lk i d h
 ·cases i with
  | zero=>cases h1
  | succ i =>
   cases j with
   | zero=>cases h2
   | succ j=>exact congrArg (· + 1) (f.dj i j d e a h1 h2 h3 h4)
 ·cases i with
  | zero=>cases h
  | succ i =>
   obtain ⟨a,as,o⟩:=f.o2 i d h
   refine ⟨a,as,o.at_,o.ob,o.nd,o.out,fun b hb j e h1=>?_,o.inn⟩
   cases j with
   | zero=>cases h1
   | succ j=>exact o.dj b hb j e h1
 ·cases i with
  | zero=>cases h1
  | succ i =>
   cases j with
   | zero=>cases h2
   | succ j=>exact congrArg (· + 1) (f.u2 i j d e h1 h2)
def MM (n:Nat) (g:aq->R Fl):List D->R D:=fun ds=>match g (.no::bG n ds) with
 | .ok (.nx _)=>.ok .none
 | .ok (.rt d)=>.ok d
 | .ex c m=>.ex c m
 | _=>.no
theorem MN {P:aB}{w:aT}{K:a5}{mg:Str->Option a7}{base:a_}{cls:Str->aa}{x y x0 qual:Str}{st:cw}{f a:aa}{fd:cX}{N ps:List Str}{k n:Nat}{g:aq->R Fl}{F:List D->R D} (Fu:AT K x qual st f fd) (S:bJ (x0::N) ps (av st)) (hm:mg x=some (.ref f)) (hb:iZ K fd ps []) (hy:mg y=some (.ref a)) (hps:ps.length=n + 1)
  (h:∀ (cdv:a7) (A:aP) (outer:List Env) (s:a9) (H:Hp) (E:XK),io k (A.deeper (iC qual (av st) s.heap.objs.size f cdv))->∀ ρ,yc (fg (iN P w) P w K mg base (x0::N) qual (av st) f cdv A outer s H E) (fU st) (fun D σ H=>σ[0]?=some (some (V.ref a))/\SR K cls E ρ (g ρ) D σ H))
  (hF:∀ ds,ds.length=n->MM N.length g ds=F ds):Sf P w K mg base cls x y (k + 1) n F:=by
 refine ⟨f,fd,ps,a,?_,hm,Fu.kp,hb,hy⟩
 obtain ⟨oc,od,kV,doc,pm,an,cdv,ct,osl,rfl,lk,hcd⟩:=Fu.ex
 refine NF lk hcd S (fun vs H Q E h_2=>by obtain ⟨vs',e,Hs,ds,sub,hn,r,q⟩:=h_2;exact by rw [e,bg,r.length,hn,hps]) fun A outer s H vs Q E hr hsp=>?_
 obtain ⟨vs',rfl,Hs,ds,sub,hn,r,q⟩:=hsp
 have fs:Fr K H Hs (fun _=>none) (.no::bG N.length ds) (L2.start (x0::N) (V.ref a::vs')) H Hs:=by
  have:=(Fr.start (N:=N) sub r).consNo (v:=V.ref a)
  have e:L2.start (x0::N) (V.ref a::vs')=some (V.ref a)::L2.start N vs':=by
   unfold L2.start
   rw [aK,bg,bg,Nat.add_sub_add_right]
   rfl
  rw [e]
  exact this
 refine ⟨_,h cdv A outer s H E hr (.no::bG N.length ds),rfl,H,Hs,_,Hs,fs,?_⟩
 rw [<- hF ds hn] at q
 unfold MM at q
 cases hg:g (.no::bG N.length ds) with
 | no=>rw [hg] at q;exact q
 | ex c n=>rw [hg] at q;exact q
 | ok fl =>
  rw [hg] at q
  cases fl with
  | nx ρ'=>exact fun σ' H' Hs' f'=>q .non H' Hs' f'.st .none
  | rt d=>exact fun v H' Hs' s r=>q v H' Hs' s r
  | bk ρ'=>exact q.elim
  | ct ρ'=>exact q.elim
theorem K9 {wh:Str->Option Nat}{n:Nat}{F:List D->R D}{gs:aq->R (List D)}{m:Nat}{ds:List D} (h:gs (db (.no::bG m ds))=.ok ds) (hl:ds.length=n):MM m (GF wh (dv (f9 n F gs))) ds=sG wh F ds:=by
 unfold MM GF dv f9 sG yF
 rw [h,bind_ok,if_pos hl]
 cases F ds with
 | ok d=>rfl
 | no=>rfl
 | ex z o =>
  cases o with
  | some d=>rfl
  | none =>
   show (match (match wh z with
    | some j=>R.ok (Fl.rt (.tuple [.str "refused",.int (j:Nat)]))
    | none=>R.no:R Fl) with
    | .ok (.nx _)=>R.ok PyData.none
    | .ok (.rt d)=>.ok d
    | .ex c m=>.ex c m
    | _=>.no)=_
   cases hw:wh z<;>simp only [hw]
theorem Uh {α:Type}{us:List α} (h:us.length=1):∃ a,us=[a]:=by
 rcases us with _ | ⟨a0,_ | ⟨z,r⟩⟩
 ·simp at h
 ·exact ⟨_,rfl⟩
 ·simp at h
theorem Ui {α:Type}{us:List α} (h:us.length=2):∃ a b,us=[a,b]:=by
 rcases us with _ | ⟨a0,_ | ⟨a0,_ | ⟨z,r⟩⟩⟩
 ·simp at h
 ·simp at h
 ·exact ⟨_,_,rfl⟩
 ·simp at h
theorem Uj {α:Type}{us:List α} (h:us.length=3):∃ a b c,us=[a,b,c]:=by
 rcases us with _ | ⟨a0,_ | ⟨a0,_ | ⟨a0,_ | ⟨z,r⟩⟩⟩⟩
 ·simp at h
 ·simp at h
 ·simp at h
 ·exact ⟨_,_,_,rfl⟩
 ·simp at h
theorem Uk {α:Type}{us:List α} (h:us.length=4):∃ a b c d,us=[a,b,c,d]:=by
 rcases us with _ | ⟨a0,_ | ⟨a0,_ | ⟨a0,_ | ⟨a0,_ | ⟨z,r⟩⟩⟩⟩⟩
 ·simp at h
 ·simp at h
 ·simp at h
 ·simp at h
 ·exact ⟨_,_,_,_,rfl⟩
 ·simp at h
theorem Ul {α:Type}{us:List α} (h:us.length=5):∃ a b c d e,us=[a,b,c,d,e]:=by
 rcases us with _ | ⟨a0,_ | ⟨a0,_ | ⟨a0,_ | ⟨a0,_ | ⟨a0,_ | ⟨z,r⟩⟩⟩⟩⟩⟩
 ·simp at h
 ·simp at h
 ·simp at h
 ·simp at h
 ·simp at h
 ·exact ⟨_,_,_,_,_,rfl⟩
 ·simp at h
end J
end
namespace J
open PySem L2
section
section
variable {c:C}{e a b l tg:aO}{g ga gb:aq->R D}{pos p:Pos}{gs:aq->R (List D)}{es:List aO}{x:Str}
theorem RDs.rep {K:a5}{H:Hp}{vs:List V}{ds:List D} (h:RDs K H vs ds) (k:Nat):RDs K H (bd k vs).flatten (bd k ds).flatten:=by
 induction k with
 | zero=>exact .nil
 | succ k ih=>rw [cB,cB,fM,fM];exact h.append ih
def Ti (k:Nat) (ds:List D):R D:=if ds.length<=10 then .ok (.list (bd k ds).flatten) else .no
end
end
end J
section
namespace HT
open PySem PyProof.Rows
section
open PySem.SeqAt
open PySem.AutoSeq1 (wpAny_loadPart')
open PySem.MeetsSeq PySem.MeetsSeq2 PySem.MeetsSeq3
variable {prog:aB}{w:aT}{A:aP}{E:a7->a9->Prop}{s:a9}
end
end HT
namespace L2
open PySem PySem.Spec PyProof.Rows
section
variable {X:Cx}{e st:aO}{te ts:TE}{pos p2:Pos}
end
end L2
namespace J
open PySem L2
section
variable {c:C}{e:aO}{g:aq->R D}{pos p2 p3 p4:Pos}
end
end J
end
section
namespace L2
open PySem
def U8 (mask:Nat):Nat->Nat×Nat->Nat×Nat
 | 0,x=>x
 | n + 1,x=>U8 mask n (SetTable.leap mask x.1 x.2)
def Um (mask:Nat):Bool:=(bt (mask + 1)).all fun i=>(bt (mask + 1)).all fun j=>(bt (mask + 1)).any fun n=>decide ((U8 mask n (i,0)).1=j)
theorem getD_none {owner:Array (Option Nat)}{k:Nat} (h:owner.getD k (some 0)=none):owner.toList[k]?=some none:=by
 by_cases hk:k<owner.size
 ·rw [xg,y6 hk] at h
  rw [fj,y6 hk]
  simpa using h
 ·rw [xg,Array.getElem?_eq_none (by omega)] at h
  cases h
end L2
namespace L2
open PySem
section
variable {P:aB}{w:aT}{A:aP}{E:a7->a9->Prop}{s:a9}
end
end L2
namespace L2
open PySem
section
variable {P:aB}{w:aT}{A:aP}{E:a7->a9->Prop}{s:a9}
end
end L2
namespace L2
open PySem
section
variable {P:aB}{w:aT}{A:aP}{E:a7->a9->Prop}{s:a9}
end
end L2
namespace L2
open PySem PyProof.Rows
section
variable {P:aB}{w:aT}{A:aP}{E:a7->a9->Prop}{s:a9}
end
end L2
namespace L2
open PySem PyProof.Rows
end L2
namespace J
open PySem L2
section
variable {c:C}{a b:aO}{ga gb:aq->R (List Str)}{pos:Pos}
end
end J
namespace J
open PySem L2
section
variable {c:C}{a b:aO}{gs:aq->R (List D)}{pos px py pt pt2:Pos}{x y:Str}
end
end J
namespace J
open PySem L2
end J
end
section
namespace L2
open PySem PySem.Spec PyProof.Rows
theorem zT:gD (.type "list") "keys"=pure none:=by rw [rH,ke];kernel_rfl
theorem yG:Lz table "dict.update.loop"=some fN.«dict.update.loop»:=entryFor_of_tree (by kernel_rfl)
theorem pG:plainId "dict.update.loop"=true:=by decide +kernel
section
variable {prog:aB}{w:aT}{A:aP}{E:a7->a9->Prop}{s:a9}{R:qF->a9->Prop}
theorem wA {a:aa}{o:Obj}{xs:Array a7}{k:Nat}{Q:Option a7->a9->Prop}
  (hx:s.heap.get? a=some o) (hc:o.cls=.type "list") (hdat:o.data=.seq xs k) (hd:o.dict=none) (hA:A.handled=none)
  (h:∀ h' tk,(∀ b o,s.heap.get? b=some o->h'.get? b=some o)->Q none { s with heap:=h',toks:=tk }) :
  ao (aE prog w) A (LG (.ref a) "keys") Q E s:=by
 obtain ⟨c,dct,dat,sl⟩:=o
 simp only at hc hdat hd
 subst hc hdat hd
 obtain ⟨hp,g,d,tk,os⟩:=s
 have hT:∀ tk',(⟨hp,g,d,tk',os⟩:a9).TypeIs (.ref a) "list":=fun _=>⟨_,hx,rfl⟩
 have f1:=sub_AttributeError
 have f3:=F.slot_list_getattribute.lookup
 have f4:=F.slot_list_getattribute.bind (.ref a)
 have f5:=am_list_getattr_none
 have hname:(["__module__","__name__","__qualname__","__doc__","__annotations__"] : List Str).contains "keys"=false:=by decide +kernel
 unfold LG getAttrBy? getAttrBy
 repeat (any_goals (first | assumption | exact hT _ | ((with_reducible show ao _ _ (call (Value.builtin "list.__getattribute__") _ _) _ _ _);refine ki F.slot_list_getattribute (hT _) am_entry_list_getattribute (F.args_list_getattribute_2 _ _) (meets_getattribute_miss_list a xs k sl "keys" _ zT hname (by size_fits)) ⟨hx,hA,fun h' tk' e hx'=>?_⟩) | wp_step))
 have ha:=hx'.of
 obtain ⟨ob,vs,he,hc,_⟩:=ha.there
 have hTe:(⟨h',g,d,tk',os⟩:a9).TypeIs (.ref e) "AttributeError":=⟨_,he,hc⟩
 show ao _ _ (getattributeRaised _ _ _ _ _ _ _) _ _ _
 unfold getattributeRaised
 repeat (any_goals (first | assumption | wp_step))
 exact h _ _ ha.keeps
end
end L2
namespace L2
open PySem PySem.Spec PyProof.Rows
def Fb (acc:List (dJ×a7)) (l:List (dJ×a7×a7)):List (dJ×a7):=l.foldl (fun a t=>CW a t.1 t.2.2) acc
theorem DQ (kvs:List (dJ×a7)) (k:dJ) (v:a7):(CW kvs k v).length<=kvs.length + 1:=by
 unfold CW
 split<;>simp
section
variable {prog:aB}{w:aT}{A:aP}{E:a7->a9->Prop}{s:a9}{R:qF->a9->Prop}
theorem xE {I:aa}{fp wr:List aa}{n:Nat}{Pv:Nat->a7->Prop}{St:Nat->a_->Prop} (W:Hv prog w A.in1 I fp wr n Pv St) (D:aa) (hD:D∉fp) (xs:List (dJ×a7×a7)) (pa:List aa) (hx:xs.length=n)
  (hv:∀ i v,Pv i v->∃ p x,pa[i]?=some p/\xs[i]?=some x/\v=.ref p) (hk:∀ x∈xs,(dw prog w).is x.1 x.2.1=true) (hp:∀ p∈pa,p∉D::wr) (hb:n<=1000) :
  ∀ (k i:Nat) (s:a9) (acc:List (dJ×a7)) (j:Int),n - i=k->i<=n->acc.length<=i->St i s.heap->s.heap.DictOf (dw prog w) D acc->(∀ (i:Nat) (p:aa) (x:dJ×a7×a7),pa[i]?=some p->xs[i]?=some x->CN s.heap p #[x.2.1,x.2.2]) ->
   (∀ h' tk,(∀ b o,b∉D::wr->s.heap.get? b=some o->h'.get? b=some o)->h'.DictOf (dw prog w) D (Fb acc (xs.drop i))->R (.ok (.ret .none)) { s with heap:=h',toks:=tk }) ->
   gK (aE prog w) A (.builtin "dict.update.loop" ⟨[.ref D,.ref I,cb j,.none],[]⟩) R s:=by
 have hDw:D∉wr:=fun z=>hD (W.sub _ z)
 intro k
 induction k with
 | zero =>
  intro i s acc j hk' hi hl st hS hT hR
  obtain rfl:i=n:=by omega
  refine eU yG ?_
  rw [eu pG _]
  show ao _ A.in1 (lP (.ref I) >>= _) _ _ s
  refine a6 (W.done s _ _ st fun h' tk kp=>?_)
  show ao _ _ (Builtin.Dict.addKeywords D [] >>= _) _ _ _
  refine a6 (af (af (hR h' tk (fun b o hb e=>kp b o (fun z=>hb (ai _ z)) e) ?_)))
  rw [CH (by omega)]
  obtain ⟨o,es,ep,e,r⟩:=hS
  exact ⟨o,es,ep,kp D o hDw e,r⟩
 | succ k ih =>
  intro i s acc j hk' hi hl st hS hT hR
  have hlt:i<n:=by omega
  refine eU yG ?_
  rw [eu pG _]
  show ao _ A.in1 (lP (.ref I) >>= _) _ _ s
  refine a6 (W.item i s _ _ hlt st fun v h' tk hP st' kp=>?_)
  obtain ⟨p,x,hpi,hxi,rfl⟩:=hv i v hP
  have hpm:=hp p (b_ hpi)
  have hS':h'.DictOf (dw prog w) D acc:=by
   obtain ⟨o,es,ep,e,r⟩:=hS
   exact ⟨o,es,ep,kp D o hDw e,r⟩
  obtain ⟨ot,et,ct,nt,dt⟩:=hT i p x hpi hxi
  have et':h'.get? p=some ot:=kp p ot (fun z=>hpm (ai _ z)) et
  have hkx:=hk x (b_ hxi)
  refine a6 (cq (a6 (wpAny_tryCatch ?_)))
  unfold Builtin.Dict.pairItems
  refine a6 (iP (T:="tuple") (s:={ s with heap:=h',toks:=tk }) ⟨_,et',ct⟩ ?_)
  rw [if_pos (by decide)]
  refine a6 (dU (s:={ s with heap:=h',toks:=tk }) et' dt (af ?_))
  show ao _ _ (holding [x.2.1,x.2.2] (dictSet D x.2.1 x.2.2)) _ _ _
  refine cq ?_
  unfold dictSet
  refine cq (a6 ((dw prog w).pyHash (k:=x.1) hkx ?_))
  refine wpAny_dictSetHashed_pairs (s:={ s with heap:=h',toks:=tk + 1 }) hkx hS' (fun h2 hS2 sb=>?_) (bE hl (bE hi (bE hb (bi (bU (ar _))))))
  refine af ⟨kW pG _,ih (i + 1) _ (CW acc x.1 x.2.2) _ (by omega) hlt ?_ (W.frame _ _ _ st' fun b hb o e=>?_) hS2 (fun i2 p2 x2 e1 e2=>?_) fun h3 tk3 k3 hS3=>?_⟩
  ·have:=DQ acc x.1 x.2.2
   omega
  ·rw [sb.2 b fun z=>hD (z ▸ hb)];exact e
  ·obtain ⟨o2,g2,r2⟩:=hT i2 p2 x2 e1 e2
   have hm:=hp p2 (b_ e1)
   exact ⟨o2,(sb.2 p2 fun z=>hm (by rw [z];exact al)).trans (kp p2 o2 (fun z=>hm (ai _ z)) g2),r2⟩
  ·refine hR h3 tk3 (fun b o hb e=>k3 b o hb ?_) ?_
   ·show h2.get? b=_
    rw [sb.2 b fun z=>hb (by rw [z];exact al)]
    exact kp b o (fun z=>hb (ai _ z)) e
   ·have hd:xs.drop i=x::xs.drop (i + 1):=by
     obtain ⟨h1,h2⟩:=List.getElem?_eq_some_iff.mp hxi
     rw [zc h1,h2]
    rw [hd];exact hS3
theorem xF {l:aa}{ol:Obj}{its:List a7}{n:Nat}{xs:List (dJ×a7×a7)}{pa:List aa}{Q:a7->a9->Prop} (hh:A.handled=none)
  (hol:s.heap.get? l=some ol) (hc:ol.cls=.type "list") (hdd:ol.dict=none) (hdt:ol.data=.seq its.toArray n) (hi:∀ (i:Nat) (v:a7),its[i]?=some v->∃ p x,pa[i]?=some p/\xs[i]?=some x/\v=.ref p) (hx:xs.length=its.length) (hk:∀ x∈xs,(dw prog w).is x.1 x.2.1=true) (hb:its.length<=1000)
  (hT:∀ (i:Nat) (p:aa) (x:dJ×a7×a7),pa[i]?=some p->xs[i]?=some x->CN s.heap p #[x.2.1,x.2.2]) (hpa:∀ p∈pa,p<s.heap.objs.size)
  (h:∀ (h':a_) (tk:Nat),h'.DictOf (dw prog w) s.heap.objs.size (Fb [] xs)->(∀ b o,s.heap.get? b=some o->h'.get? b=some o)->Q (.ref s.heap.objs.size) { s with heap:=h',toks:=tk }) :
  ao (aE prog w) A (call (.type "dict") [.ref l]) Q E s:=by
 refine callType_codes (Q₁:=fun obj s₁=>obj=.ref s.heap.objs.size/\s₁={ s with heap:=s.heap.push { cls:=.type "dict",data:=.dict #[] } }) F.kt_called_dict (F.kt_typeCall_dict_1 _) F.entry_dict_init (kt_code_dict_new _ ⟨rfl,rfl⟩) ?_
 rintro obj s₁ ⟨rfl,rfl⟩
 have hnew:(s.heap.push { cls:=.type "dict",data:=.dict #[] }).DictOf (dw prog w) s.heap.objs.size []:=CF s.heap
 have hol':(s.heap.push { cls:=.type "dict",data:=.dict #[] }).get? l=some ol:=a8 _ hol
 have hlS:l<s.heap.objs.size:=aj hol
 refine ⟨hnew.typeIs,F.args_dict_init_2 _ _,?_⟩
 unfold fN.«dict.__init__»
 refine a6 ?_
 unfold Builtin.Dict.selfAndRest
 refine a6 (wpAny_notOrdered_dict hnew.typeIs ?_)
 show ao _ _ (pure (s.heap.objs.size,[bC l])) _ _ _
 refine af ?_
 show ao _ _ (uW "dict.__init__" s.heap.objs.size (.ref l) [] .none) _ _ _
 unfold uW
 refine a6 (iP (T:="list") ⟨_,hol',hc⟩ ?_)
 rw [if_pos (by decide)]
 refine a6 (wA (s:={ s with heap:=s.heap.push { cls:=.type "dict",data:=.dict #[] } }) hol' hc hdt hdd (by simpa using hh) fun h1 tk1 k1=>?_)
 rw [if_pos (by rfl)]
 refine a6 (hJ ?_)
 have hol1:=k1 l ol hol'
 refine a6 (ii (s:={ s with heap:=h1,toks:=tk1 }) ⟨_,hol1,hc,⟨_,hdt⟩⟩ ?_)
 have hD1:∃ o,h1.get? s.heap.objs.size=some o:=by
  obtain ⟨o,es,ep,e,_⟩:=hnew
  exact ⟨o,k1 _ _ e⟩
 obtain ⟨oD,eD⟩:=hD1
 have lD:=aj eD
 have W:=rR (prog:=prog) (w:=w) (A:=A.in1.in1) (by simpa using hh) h1.objs.size l (az (aj hol1)) its.toArray
 have k2:∀ b o,h1.get? b=some o->(h1.push { cls:=.type "list_iterator",data:=.fields #[.ref l,.int 0 0] }).get? b=some o:=fun b o e=>a8 _ e
 have hD2:(h1.push { cls:=.type "list_iterator",data:=.fields #[.ref l,.int 0 0] }).DictOf (dw prog w) s.heap.objs.size []:=by
  obtain ⟨o,es,ep,e,r⟩:=hnew
  exact ⟨o,es,ep,k2 _ _ (k1 _ _ e),r⟩
 refine af ⟨kW pG _,xE (A:=A.in1) W s.heap.objs.size ?_ xs pa (by rw [hx,aF]) (fun i v e=>hi i v (by simpa using e)) hk (fun p hp=>?_) (by rw [aF];exact hb) its.length 0 _ [] 0 (by rw [aF];omega) (ck _) (ar _) ⟨⟨_,ax _ rfl,rfl,rfl⟩,⟨_,k2 _ _ hol1,hc,⟨_,hdt⟩⟩⟩ hD2 (fun i p x e1 e2=>?_) fun h' tk kp hS'=>?_⟩
 ·simp only [aV,aJ,or_false,not_or]
  exact ⟨az lD,dO hlS⟩
 ·have:=hpa p hp
  simp only [aV,aJ,or_false,not_or]
  exact ⟨az this,az (uT this lD)⟩
 ·obtain ⟨o,g,r⟩:=hT i p x e1 e2
  exact ⟨o,k2 _ _ (k1 _ _ (a8 _ g)),r⟩
 ·refine ⟨rfl,h h' tk hS' fun b o e=>kp b o ?_ (k2 _ _ (k1 _ _ (a8 _ e)))⟩
  have:=aj e
  simp only [aV,aJ,or_false,not_or]
  exact ⟨az this,az (uT this lD)⟩
end
end L2
namespace L2
open PySem PySem.Spec PyProof.Rows
theorem Bz {P:aB}{w:aT}{H:Hp}{h:a_} (ok:nW P w H h):∀ (pa:List aa) (kvs:List (dJ×V)),kvs.length=pa.length->(∀ (i:Nat) (a:aa) (kv:dJ×V),pa[i]?=some a->kvs[i]?=some kv->H a=some (.tup [kV kv.1,kv.2])) ->
  ∃ xs:List (dJ×a7×a7),xs.length=pa.length/\(∀ (i:Nat) (p:aa) (x:dJ×a7×a7),pa[i]?=some p->xs[i]?=some x->CN h p #[x.2.1,x.2.2])/\(∀ x∈xs,(dw P w).is x.1 x.2.1=true)/\KV kvs (xs.map fun x=>(x.1,x.2.2))
 | [],[],_,_=>⟨[],rfl,fun i p x e=>by simp at e,fun _ e=>by simp at e,.nil⟩
 | a::pa,kv::kvs,hl,hH=>by
  obtain ⟨xs,h1,h2,h3,h4⟩:=Bz ok pa kvs (Nat.succ.inj hl) fun i b x e1 e2=>hH (i + 1) b x e1 e2
  have h0:=hH 0 a kv rfl rfl
  obtain ⟨_,its,r,it⟩:=(show dk P w H h a (.tup [kV kv.1,kv.2]) from ok a _ h0)
  cases r with
  | cons r1 r2 =>
   cases r2 with
   | cons r3 r4 =>
    cases r4
    rename_i u1 u2
    refine ⟨(kv.1,u1,u2)::xs,by simp [h1],fun i p x e1 e2=>?_,fun x hx=>?_,.cons ⟨rfl,r3⟩ h4⟩
    ·cases i with
     | zero=>cases e1;cases e2;exact it
     | succ i=>exact h2 i p x e1 e2
    ·rcases List.mem_cons.mp hx with z | z
     ·rw [z];exact AV r1
     ·exact h3 x z
 | [],_::_,hl,_=>by simp at hl
 | _::_,[],hl,_=>by simp at hl
theorem yH:∀ {pa:List aa}{us:List a7},cJ (pa.map V.ref) us->us=pa.map bC
 | [],us,h=>by cases h;rfl
 | a::pa,us,h=>by
  cases h with
  | cons r t=>rw [yH t,show _=bC a from r];rfl
theorem zU {X:Cx} (hc:X.calm=true):iM X (.type "dict") (fun xs H Q=>∃ (l:aa) (pa:List aa) (kvs:List (dJ×V)),xs=[.ref l]/\l5 X.K H l (pa.map V.ref)/\kvs.length=pa.length/\pa.length<=1000/\(∀ (i:Nat) (a:aa) (kv:dJ×V),pa[i]?=some a->kvs[i]?=some kv->H a=some (.tup [kV kv.1,kv.2]))/\∀ d,H d=none->Q (.ref d) (upd H d (.dK (vS [] kvs)))):=by
 intro pins s σ H xs us Q I r h
 obtain ⟨l,pa,kvs,rfl,hq,hl,hz,hH,q⟩:=h
 obtain ⟨u,rfl,rx⟩:=jA r
 cases rx
 have hh:=I.ok.hd hc
 obtain ⟨its,r',⟨o,n,ho,h1,h2,h3⟩,_⟩:=I.list hq
 obtain rfl:=yH r'
 obtain ⟨ys,y1,y2,y3,y4⟩:=Bz I.hok pa kvs hl hH
 refine xF (by simpa using hh) ho h1 h2 h3 (xs:=ys) (pa:=pa) (fun i v e=>?_) (by rw [y1,au]) y3 (by rw [au];exact hz) y2 (fun p hp=>?_) fun h' tk dd kp=>?_
 ·rw [ay] at e
  cases hp:pa[i]? with
  | none=>rw [hp] at e;cases e
  | some p =>
   rw [hp] at e
   cases e
   have hi:i<ys.length:=by rw [y1];exact (List.getElem?_eq_some_iff.mp hp).1
   exact ⟨p,ys[i],rfl,aC hi,rfl⟩
 ·obtain ⟨i,hi,e⟩:=gx hp
  have hk:i<kvs.length:=by rw [hl];exact hi
  have:=hH i p kvs[i] (by rw [<- e];exact aC hi) (aC hk)
  obtain ⟨_,_,_,_,g,_⟩:=(show dk X.prog X.w H s.heap p (.tup _) from I.hok p _ this)
  exact aj g
 ·have e:Fb [] ys=merged [] (ys.map fun x=>(x.1,x.2.2)):=by unfold Fb merged;rw [qp]
  rw [e] at dd
  have rel:=KV.merge y4 (Paired.nil:KV (κ:=dJ) [] [])
  have ln:=qt kvs []
  simp only [dR] at ln
  refine ⟨.ref s.heap.objs.size,_,I.laid (t':=tk) kp (ar _) (Iw (bE ln (by rw [Nat.zero_add,hl];exact bi (bU hz))) ?_ rel dd),rfl,q _ (I.hok.fresh (ar _))⟩
  have:=I.big
  exact beq_false_of_ne (dO this)
end L2
namespace J
open PySem L2
def lr:List D->Option (List (dJ×D))
 | []=>some []
 | .tuple [k,v]::r=>(oQ k).bind fun y=>(lr r).map ((y,v)::·)
 | _::_=>none
def sH:D->R D
 | .list ds=>if ds.length<=1000 then (match lr ds with
  | some ps=>.ok (.dict (ps.foldl (fun a p=>xC a (kD p.1) p.2) []))
  | none=>.no) else .no
 | _=>.no
theorem yI {K:a5}{H:Hp}:∀ {ds:List D}{vs:List V}{ps:List (dJ×D)},RDs K H vs ds->lr ds=some ps ->
  ∃ (pa:List aa) (kvs:List (dJ×V)),vs=pa.map V.ref/\kvs.length=pa.length/\(∀ (i:Nat) (a:aa) (kv:dJ×V),pa[i]?=some a->kvs[i]?=some kv->H a=some (.tup [kV kv.1,kv.2]))/\RDk K H kvs (ps.map fun p=>(kD p.1,p.2))
 | [],vs,ps,r,e=>by
  cases r
  cases e
  exact ⟨[],[],rfl,rfl,fun i a kv e=>by simp at e,.nil⟩
 | d::ds,vs,ps,r,e=>by
  unfold lr at e
  split at e
  ·rename_i h;cases h
  ·rename_i k v r0 h
   cases h
   cases r with
   | cons r1 r2 =>
    rename_i x0 xs0
    cases hk:oQ k with
    | none=>rw [hk] at e;cases e
    | some y =>
     rw [hk] at e
     cases hr:lr ds with
     | none=>rw [hr] at e;cases e
     | some qs =>
      rw [hr] at e
      cases e
      obtain ⟨pa,kvs,h1,h2,h3,h4⟩:=yI r2 hr
      obtain ⟨a,vs0,rfl,ha,ra⟩:∃ a vs0,x0=V.ref a/\H a=some (.tup vs0)/\RDs K H vs0 [k,v]:=by
       cases r1 with
       | tuple ha ra=>exact ⟨_,_,rfl,ha,ra⟩
      ·obtain ⟨x1,x2,rfl,q1,q2⟩:=ra.two
       have ek:=wt hk
       subst ek
       have:=DJ q1
       subst this
       refine ⟨a::pa,(y,x2)::kvs,by rw [h1];rfl,by simp [h2],fun i b kv e1 e2=>?_,.cons q2 h4⟩
       cases i with
       | zero=>cases e1;cases e2;exact ha
       | succ i=>exact h3 i b kv e1 e2
  ·cases e
theorem BA {K:a5}{H:Hp}:∀ {kvs:List (dJ×V)}{es:List (D×D)}{acc:List (dJ×V)}{ds:List (D×D)},RDk K H kvs es->RDk K H acc ds->RDk K H (vS acc kvs) (es.foldl (fun a p=>xC a p.1 p.2) ds)
 | [],es,acc,ds,r,r0=>by
  cases r
  exact r0
 | kv::kvs,es,acc,ds,r,r0=>by
  cases r with
  | cons h t =>
   rename_i k0 x0 d0 ds0
   have:=BA (kvs:=kvs) t (r0.put k0 h)
   exact this
section
variable {c:C}{e:aO}{g:aq->R D}{p cpos:Pos}
def sI (g:aq->R D):aq->R D:=fun ρ=>(g ρ).bind sH
theorem GH (hc:c.X.calm=true) (h:JE c e g) (hg2:Gl c.X "dict") (hm2:c.X.mg "dict"=none) (he:ak [e] c.X.env=(false,cp e c.X.env)::ak [] c.X.env:=by rfl) :
  JN c (.Call (.Name "dict" p) [e] [] cpos) (sI g):=.of fun ρ=>by
 refine oG (tW (zU hc) hg2 hm2 PyProof.Rows.boot_dict (bK (h ρ) dB he) (he:=he)) fun σ H Q h_1=>?_
 obtain ⟨H0,Hs0,la,Hs,f,q⟩:=h_1
 dsimp only [L2.Q9,L2.AM,L2.Ik]
 refine xA f q fun d v H1 Hs1 e1 s1 f1 r1=>?_
 unfold sI at q
 rw [e1,bind_ok] at q
 unfold sH at q
 split at q
 ·rename_i ds
  by_cases hz:ds.length<=1000
  ·rw [if_pos hz] at q
   split at q
   ·rename_i ps hs
    obtain ⟨a,vs0,rfl,qa,ra⟩:∃ a vs0,v=V.ref a/\l5 c.X.K Hs1 a vs0/\RDs c.X.K Hs1 vs0 ds:=by
     cases r1 with
     | list qa ra=>exact ⟨_,_,rfl,qa,ra⟩
    ·obtain ⟨pa,kvs,rfl,h2,h3,h4⟩:=yI ra hs
     have h5:=BA h4 (RDk.nil (K:=c.X.K) (H:=Hs1))
     rw [qp] at h5
     refine ⟨a,pa,kvs,rfl,?_,h2,?_,fun i b kv e1 e2=>f1.st.sub _ _ (h3 i b kv e1 e2),fun l hl=>q l _ H1 Hs1 s1 hl (.dK h5)⟩
     ·exact cW.seq f1.st.sub qa
     ·have:=ra.length
      rw [au] at this
      omega
   ·exact q.elim
  ·rw [if_neg hz] at q;exact q.elim
 ·exact q.elim
end
end J
namespace L2
open PySem PySem.Spec PyProof.Rows
def PL (K:a5) (a:aa):It :=
 ⟨fun i H=>∃ xs x,l5 K H a xs/\xs[i]?=some x,fun i H v H'=>∃ p,H p=none/\v=.ref p/\∀ xs,l5 K H a xs->∃ x,xs[i]?=some x/\H'=upd H p (.tup [.int i,x]),fun i H=>∃ xs,l5 K H a xs/\xs.length<=i⟩
theorem DR {P:aB}{w:aT}{K:a5}{elts:List aO}{x1}{pos:Pos} (a e it:aa) (hei:e≠it):xq P w K (.Tuple elts x1 pos) (PL K a) [e,it] e (fun i h=>(∃ old,IsEnum h e it i old)/\h.IsListIter it a i) where
 mem:=by simp
 obj:=fun i h st b hb=>by
  simp only [aV,aJ,or_false] at hb
  rcases hb with rfl | rfl
  ·obtain ⟨⟨old,q⟩,_⟩:=st
   exact ⟨_,q,fun v z=>by cases z⟩
  ·obtain ⟨_,o,q,_,d⟩:=st
   exact ⟨o,q,fun v z=>by rw [d] at z;cases z⟩
 keep:=fun i h h' st k=>⟨let ⟨old,q⟩:=st.1;⟨old,k e (by simp) _ q⟩,let ⟨o,q,r⟩:=st.2;⟨o,k it (by simp) o q,r⟩⟩
 item:=by
  intro X hP hw hK hc i pins s σ H E I hf st hg
  subst hP hw hK
  obtain ⟨xs,x,hq,hx⟩:=hg
  obtain ⟨its,rv,p,hz⟩:=I.list hq
  obtain ⟨u,hu,ru⟩:=rv.get hx
  obtain ⟨⟨old,he⟩,hit⟩:=st
  have hit0:=hit
  obtain ⟨oi,ei,_⟩:=hit0
  have he0:=aj he
  refine wpAny_pyNext_enum_item he hit p.isList (by simpa using hu) hei ?_
  intro h1 eo st1 tup sz k1
  refine ⟨_,rfl,D1 eo fun h2 e2 sb2=>?_⟩
  have szn:s.heap.objs.size≠e:=dO he0
  have I2:bu X pins σ H { s with heap:=h2,toks:=s.toks + 1 }:=I.turnedL (ch:=[e,it]) (fun b o hb q=>by
   simp only [aV,aJ,or_false,not_or] at hb
   exact (sb2.2 b hb.1).trans (k1 b o hb.1 hb.2 q)) hf
  have fT:=I.fpOk (H':=H) (ar _) (I.hok.fresh (ar _))
  have tup2:h2.get? s.heap.objs.size=some { cls:=.type "tuple",data:=.seq #[.int i s.toks,u] }:=(sb2.2 _ szn).trans tup
  have I3:=I2.track (ho:=.tup [.int i,x]) fT ⟨by show 2<=sizeLine;decide,[.int i s.toks,u],.cons ⟨s.toks,rfl⟩ (.cons ru .nil),⟨_,tup2,rfl,0,rfl⟩⟩
  refine ⟨.ref s.heap.objs.size,_,I3,rfl,⟨_,fT.1,rfl,fun ys hy=>?_⟩,⟨⟨u,?_⟩,?_⟩,fun b hb=>?_⟩
  ·rw [I.list_inj hy hq];exact ⟨x,hx,rfl⟩
  ·have:(((i + 1:Nat):Int))=(i:Int) + 1:=by omega
   rw [this];exact e2
  ·obtain ⟨o,q,r⟩:=st1
   exact ⟨o,(sb2.2 it (eA hei)).trans q,r⟩
  ·rw [aQ]
   ·exact (hf b hb).1
   ·simp only [aV,aJ,or_false] at hb
    rcases hb with z | z
    ·rw [z];exact az he0
    ·rw [z];exact az (aj ei)
 done:=by
  intro X hP hw hK hc i pins s σ H E I hf st hg
  subst hP hw hK
  obtain ⟨xs,hq,hx⟩:=hg
  obtain ⟨its,rv,p,hz⟩:=I.list hq
  obtain ⟨⟨old,he⟩,hit⟩:=st
  have hl:=rv.length
  refine wpAny_pyNext_enum_end (by simpa using I.ok.hd hc) he hit p.isList (by simp;omega) fun h' eb=>?_
  exact ⟨rfl,I.turnedL (t':=s.toks) (ch:=[e,it]) (fun b o hb q=>eb b o (by
   simp only [aV,aJ,or_false,not_or] at hb;exact hb.2) q) hf⟩
 self:=fun _ _ _ _ _ st h=>let ⟨⟨_,q⟩,_⟩:=st;o7 q h
def PM (K:a5) (ta:TA):TI:=fun σ H R=>ta σ H fun vs H1=>∃ a xs,vs=[.ref a]/\l5 K H1 a xs/\R (PL K a) H1
theorem Ka {X:Cx}{elts:List aO}{x1}{tpos p pos:Pos}{a:aO}{ta:TA} (hg:Gl X "enumerate") (hm:X.mg "enumerate"=none) (ha:PA X [a] ta) (hs:ak [a] X.env=[(false,cp a X.env)]:=by rfl) :
  PI X (.Tuple elts x1 tpos) (.Call (.Name "enumerate" p) [a] [] pos) (PM X.K ta):=by
 intro pins s σ H R I h
 refine Call_ (qN I hg hm boot_enumerate (eB (fm (ha pos pins s σ H _ I h) fun us s1 h1=>?_) hs rfl))
 obtain ⟨vs,H1,I1,r1,q1⟩:=h1
 obtain ⟨ad,xs,rfl,hq,q⟩:=q1
 obtain ⟨u,rfl,rx⟩:=jA r1
 cases rx
 obtain ⟨its,rv,tp,hz⟩:=I1.list hq
 refine call_enumerate_list tp.isList fun h' e1 t1 sz kp=>?_
 refine o7 e1 ?_
 have I2:bu X pins σ H1 { s1 with heap:=h' }:=I1.kept (t':=s1.toks) kp
 refine ⟨s1.heap.objs.size + 1,[s1.heap.objs.size + 1,s1.heap.objs.size],_,_,H1,rfl,I2,DR ad _ _ (dO (el _)),⟨⟨.none,e1⟩,t1⟩,fun b hb=>?_,q⟩
 simp only [aV,aJ,or_false] at hb
 rcases hb with z | z
 ·rw [z];exact I1.fpOk (fR _) (I1.hok.fresh (fR _))
 ·rw [z];exact I1.fpOk (ar _) (I1.hok.fresh (ar _))
end L2
namespace J
open PySem L2
theorem Kb {K:a5}{Hn Hs:Hp}{a:aa}{vs:List V}{ds:List D} (h:l5 K Hn a vs) (r:RDs K Hs vs ds):Lo K (PL K a) (gS 0 ds) Hn Hs:=fun H2 Hs2 e1 e2 e3=>by
 have q:=e1.seq h
 have hl:=u7 ds 0
 refine ⟨fun i hi=>?_,fun i hi=>⟨vs,q,by rw [r.length];omega⟩,fun i x H3 hi y=>?_⟩
 ·have hi':i<vs.length:=by rw [r.length];omega
  exact ⟨vs,vs[i],q,aC hi'⟩
 ·obtain ⟨p,hp,rfl,y⟩:=y
  obtain ⟨x,k0,rfl⟩:=y vs q
  obtain ⟨d,k1,k2⟩:=r.get k0
  have st:=cx.new (o:=.tup [.int i,x]) e3 hp
  refine ⟨.tuple [.int i,d],_,?_,st,.tuple aX (.cons (.int _) (.cons ((k2.same e2).same st.sh) .nil))⟩
  rw [u6,k1]
  simp
section
variable {c:C}{a:aO}{gs:aq->R (List D)}{p pos:Pos}
def MO:List D->R (List D)
 | [.list ds]=>.ok (gS 0 ds)
 | _=>.no
def yJ (gs:aq->R (List D)):aq->R (List D):=fun ρ=>(gs ρ).bind MO
theorem yK {elts:List aO}{x1}{tpos:Pos} (hg:Gl c.X "enumerate") (hm:c.X.mg "enumerate"=none) (ha:AF c [a] gs) (hs:ak [a] c.X.env=[(false,cp a c.X.env)]:=by rfl):Bj c (.Tuple elts x1 tpos) (.Call (.Name "enumerate" p) [a] [] pos) (yJ gs):=.of fun ρ=>Gy (Ka hg hm (ha ρ) hs) fun σ H Q h_20=>by
 obtain ⟨H0,Hs0,la,Hs,f,q⟩:=h_20
 refine xB f q fun ds vs H1 Hs1 e1 s1 f1 r1=>?_
 unfold yJ at q
 rw [e1,bind_ok] at q
 unfold MO at q
 split at q
 ·obtain ⟨x,rfl,rx⟩:=r1.one
  cases rx with
  | list qa ra=>exact ⟨_,_,rfl,cW.seq f1.st.sub qa,q _ H1 Hs1 s1 (Kb qa ra)⟩
 ·exact q.elim
end
end J
namespace L2
open PySem PySem.Spec PyProof.Rows
end L2
namespace J
open PySem L2
section
variable {c:C}{tg a:aO}{gs:aq->R (List D)}{p pos:Pos}
end
end J
namespace J
open PySem L2
end J
end
namespace J
open PySem L2 PyProof.Rows
section
structure En where
 P:aB
 w:aT
 K:a5
 mg:Str->Option a7
 base:a_
 cls:Str->aa
abbrev FN (e:En):=Fn e.P e.w e.K e.mg e.base e.cls
abbrev FT (e:En):=Sf e.P e.w e.K e.mg e.base e.cls
abbrev ER (e:En):=Er e.mg e.base e.cls
abbrev Cn (mg:Str->Option a7) (x:Str) (n:Int):Prop:=∃ t,mg x=some (.int n t)
structure iI (K:a5) (mg:Str->Option a7) (x:Str) (st:cw):Prop where
 ex:∃ f fd,AT K x x st f fd/\mg x=some (.ref f)
section
variable {K:a5}{h:a_}{mg:Str->Option a7}{x:Str}
theorem d_in {st:cw}{A:aa}{od an:Option aa}{sl:Array (Option a7)}{oc kV dc pm cv ct:a7} (X:K.In h) (G:h.Ns br mg) (a:fD K br x=some (some (.ref A)))
  (l:K.lookup A=some ⟨oc,od,.func (e7 x x (jr st) (fU st) (av st) .none kV dc pm an cv ct),sl⟩) (c:iU K cv x=true) (k:dH K (.ref A)=true):iI K mg x st :=
 ⟨_,_,Is l c k,im X G a⟩
theorem cn_in {n:Int}{tk:Tok} (X:K.In h) (G:h.Ns br mg) (t:fD K br x=some (some (.int n tk))):Cn mg x n:=⟨_,im X G t⟩
inductive Zs (K:a5):List Str->Prop
 | nil:Zs K []
 | cons {x:Str}{r:List Str}:fD K br x=some none->Zs K r->Zs K (x::r)
theorem Zs.get {r:List Str} (z:Zs K r):∀ x∈r,fD K br x=some none:=by
 induction z with
 | nil=>exact fun _ h=>nomatch h
 | cons a _ ih =>
  intro y hy
  rcases List.mem_cons.mp hy with e | e
  ·rw [e];exact a
  ·exact ih y e
abbrev zn:List Str:=["len","isinstance","all","any","zip","tuple","list","sorted","set","range","enumerate","dict","sum","max","min","reversed","str","int","bool","ValueError"]
theorem Rv (X:K.In h) (G:h.Ns br mg) (z:Zs K zn):Bi mg:=by
 have q:∀ x∈zn,mg x=none:=fun x hx=>D3 X G (z.get x hx)
 exact ⟨q _ (by decide),q _ (by decide),q _ (by decide),q _ (by decide),q _ (by decide),q _ (by decide),q _ (by decide),q _ (by decide),q _ (by decide),q _ (by decide),q _ (by decide),q _ (by decide),q _ (by decide),q _ (by decide),q _ (by decide),q _ (by decide),q _ (by decide),q _ (by decide),q _ (by decide)⟩
theorem Rw (X:K.In h) (G:h.Ns br mg) (z:Zs K zn):mg "ValueError"=none:=D3 X G (z.get _ (by decide))
end
section
variable {P:aB}{w:aT}{K:a5}{mg:Str->Option a7}{base:a_}{N:List Str}{qual:Str}{scope:dG}{f:aa}{cd:a7}{A:aP}{outer:List Env}{s:a9}{H:Hp}{E:XK}
theorem px:iE (iN P w) (fg (iN P w) P w K mg base N qual scope f cd A outer s H E) E:=B7 fun _ _ h=>h
end
section
variable {c:C}{x y:Str}{e:aO}{es:List aO}{gs:aq->R (List D)}{p q pos:Pos}
theorem jc {k j n:Nat}{F:List D->R D} (G:Fn c.X.prog c.X.w c.X.K c.X.mg c.X.base c.cls x k n F) (hr:io j c.X.A) (hx:iE (iN c.X.prog c.X.w) c.X c.E) (ha:AF c (e::es) gs)
  (hk:k<=j:=by decide) (hg:Gl c.X x:=by exact rfl) (hdb:(x == ("__debug__" : Str))=false:=by decide) (he:ak (e::es) c.X.env=(false,cp e c.X.env)::ak es c.X.env:=by rfl) (hpl:(dz pos (ak es c.X.env)).any (·.1)=false:=by rfl) :
  JE c (.Call (.Name x p) (e::es) [] pos) (f9 n F gs):=Mx G (hr.mono hk) hg hx ha hdb he hpl
theorem jd {k j n:Nat}{F:List D->R D} (G:Sf c.X.prog c.X.w c.X.K c.X.mg c.X.base c.cls x y k n F) (hr:io j c.X.A) (hx:iE (iN c.X.prog c.X.w) c.X c.E) (ha:AF c es gs)
  (hk:k<=j:=by decide) (hg:Gl c.X x:=by exact rfl) (hgy:Gl c.X y:=by exact rfl) (hdb:(x == ("__debug__" : Str))=false:=by decide) (hdy:(y == ("__debug__" : Str))=false:=by decide) (he:ak (.Name y q::es) c.X.env=(false,cp (.Name y q) c.X.env)::ak es c.X.env:=by rfl) (hpl:(dz pos (ak es c.X.env)).any (·.1)=false:=by rfl) :
  JE c (.Call (.Name x p) (.Name y q::es) [] pos) (f9 n F gs):=ML G (hr.mono hk) hg hgy hx ha hdb hdy he hpl
end
abbrev Bq (x:Str) (st:cw) (us:List a7) (r:List (Str×a7)):Prop:=∀ (kV doc pm:a7) (an:Option aa) (cdv ct:a7),Lr (e7 x x (jr st) (fU st) (av st) .none kV doc pm an cdv ct) ⟨us,[]⟩=pure r
section
variable {K:a5}{x:Str}{st:cw}{f:aa}{fd:cX}
theorem b1 {a:Str} (F:AT K x x st f fd) (h:∀ u,Bq x st [u] [(a,u)]:=by exact fun _ _ _ _ _ _ _=>rfl):iZ K fd [a] []:=F.binds fun _ _ _ _ _ _ us hl=>by obtain ⟨_,rfl⟩:=Uh hl;exact h ..
theorem b2 {a b:Str} (F:AT K x x st f fd) (h:∀ u v,Bq x st [u,v] [(a,u),(b,v)]:=by exact fun _ _ _ _ _ _ _ _=>rfl):iZ K fd [a,b] []:=F.binds fun _ _ _ _ _ _ us hl=>by obtain ⟨_,_,rfl⟩:=Ui hl;exact h ..
theorem b3 {a b c:Str} (F:AT K x x st f fd) (h:∀ u v w,Bq x st [u,v,w] [(a,u),(b,v),(c,w)]:=by exact fun _ _ _ _ _ _ _ _ _=>rfl):iZ K fd [a,b,c] []:=F.binds fun _ _ _ _ _ _ us hl=>by obtain ⟨_,_,_,rfl⟩:=Uj hl;exact h ..
theorem b4 {a b c d:Str} (F:AT K x x st f fd) (h:∀ u v w z,Bq x st [u,v,w,z] [(a,u),(b,v),(c,w),(d,z)]:=by exact fun _ _ _ _ _ _ _ _ _ _=>rfl):iZ K fd [a,b,c,d] []:=F.binds fun _ _ _ _ _ _ us hl=>by obtain ⟨_,_,_,_,rfl⟩:=Uk hl;exact h ..
theorem b5 {a b c d e:Str} (F:AT K x x st f fd) (h:∀ u v w z y,Bq x st [u,v,w,z,y] [(a,u),(b,v),(c,w),(d,z),(e,y)]:=by exact fun _ _ _ _ _ _ _ _ _ _ _=>rfl):iZ K fd [a,b,c,d,e] []:=F.binds fun _ _ _ _ _ _ us hl=>by obtain ⟨_,_,_,_,_,rfl⟩:=Ul hl;exact h ..
end
theorem sJ {e:En}{x:Str}{st:cw}{N ps:List Str}{k:Nat}{g:aq->R Fl} (D:iI e.K e.mg x st) (S:bJ N ps (av st)) (b:∀ {f:aa}{fd:cX},AT e.K x x st f fd->iZ e.K fd ps [])
  (h:∀ (f:aa) (cdv:a7) (A:aP) (outer:List Env) (s:a9) (H:Hp) (E:XK),io k (A.deeper (iC x (av st) s.heap.objs.size f cdv))->Gx ⟨fg (iN e.P e.w) e.P e.w e.K e.mg e.base N x (av st) f cdv A outer s H E,e.cls,E⟩ (fU st) g) :
  FN e x (k + 1) ps.length (gJ N.length g):=by
 obtain ⟨f,fd,F,hm⟩:=D.ex
 exact R8 F S hm (b F) (h f)
def U9 (N P:List Str) (sc:dG):Bool:=decide (sc.kind=.function) && !sc.isCoroutine && !sc.isGenerator && decide N.Nodup && decide (N.take P.length=P) && P.all (fun x=>decide (sc.names.lookup x=some .local) || decide (sc.names.lookup x=some .cell)) && sc.names.all fun y=>decide (y.2≠.free)
theorem eR {N P:List Str}{sc:dG} (h:U9 N P sc=true):bJ N P sc:=by
 unfold U9 at h
 simp only [aS,decide_eq_true_eq,HL,dD,oy] at h
 obtain ⟨⟨⟨⟨⟨⟨a,b⟩,c⟩,d⟩,e⟩,f⟩,g⟩:=h
 exact ⟨a,b,c,d,e,f,g⟩
structure Cw (K:a5) (x:Str) (C:aa):Prop where
 ns:fD K br x=some (some (.ref C))
 cl:∃ cd,fK K C=some cd
 ty:vE K (.ref C)=some (.type "type")
theorem cw_in {K:a5}{x:Str}{C:aa}{cd:ClassData} (a:fD K br x=some (some (.ref C))) (i:fK K C=some cd) (y:vE K (.ref C)=some (.type "type")):Cw K x C:=⟨a,⟨_,i⟩,y⟩
inductive MP (K:a5):List Str->List aa->Prop
 | nil:MP K [] []
 | cons {x:Str}{C:aa}{ns:List Str}{Cs:List aa}:Cw K x C->MP K ns Cs->MP K (x::ns) (C::Cs)
inductive Sb (K:a5) (C:aa):List (aa×Bool)->Prop
 | nil:Sb K C []
 | cons {D:aa}{b:Bool}{l:List (aa×Bool)}:lX K (.ref C) (.ref D)=some b->(b=false->C≠D)->Sb K C l->Sb K C ((D,b)::l)
structure Wy (K:a5) (C CP:aa) (l:List (aa×Bool)):Prop where
 x1:fV K (.ref C) "__getattribute__"=some (some (.builtin "BaseException.__getattribute__"))
 x2:fV K (.ref C) "__getattr__"=some none
 x3:fV K (.ref C) "__class__"=some (some (.builtin "object.__class__"))
 x4:rL K (.builtin "object.__class__") "__get__"=some (some (.builtin "getset_descriptor.__get__"))
 x5:uR K (.builtin "object.__class__")=some true
 x6:c8 K C (.type "object")=some true
 x7:c8 K C (.ref CP)=some true
 x8:lX K (.ref C) (.type "ValueError")=some true
 x9:(bC CP == bC C)=false
 sb:Sb K C l
theorem MP.at {K:a5}{ns:List Str}{Cs:List aa} (N:MP K ns Cs):∀ (i:Nat) (n:Str),ns[i]?=some n->∃ C,Cs[i]?=some C/\Cw K n C:=by
 induction N with
 | nil=>intro i n h;simp at h
 | cons a _ ih =>
  intro i n h
  cases i with
  | zero=>cases h;exact ⟨_,rfl,a⟩
  | succ i=>exact ih i n h
theorem Sb.at {K:a5}{C:aa}{l:List (aa×Bool)} (N:Sb K C l):∀ (i:Nat) (D:aa) (b:Bool),l[i]?=some (D,b)->lX K (.ref C) (.ref D)=some b/\(b=false->C≠D):=by
 induction N with
 | nil=>intro i D b h;simp at h
 | cons a c _ ih =>
  intro i D b h
  cases i with
  | zero=>cases h;exact ⟨a,c⟩
  | succ i=>exact ih i D b h
theorem Rx {K:a5}{h:a_}{mg:Str->Option a7}{cls:Str->aa}{ns:List Str}{Cs:List aa} (X:K.In h) (G:h.Ns br mg) (N:MP K ns Cs) (hn:ns.map cls=Cs):∀ n∈ns,mg n=some (.ref (cls n)):=by
 intro n hm
 obtain ⟨i,hi,e⟩:=gx hm
 have e1:ns[i]?=some n:=by rw [aC hi,e]
 obtain ⟨C,h1,h2⟩:=N.at i n e1
 rw [<- hn,ay,e1] at h1
 cases h1
 exact im X G h2.ns
theorem Fc {K:a5}{base:a_}{cls:Str->aa}{x:Str}{C CP:aa}{ns:List Str}{Cs:List aa}{l:List (aa×Bool)}{j:Nat} (mb:c8 K C (.type "BaseException")=some true) (Q:∃ bm,zE base C bm/\∀ v,(v == bC C)=false->c8 K C v=some true->bm.contains v=true) (W:Wy K C CP l) (N:MP K ns Cs)
  (hc:cls x=C) (hp:cls "PlanError"=CP) (hn:ns.map cls=Cs) (hl:l.map (·.1)=Cs) (hb:l.map (·.2)=v8 j) (hj:j<11) (hx:x∈ns):Xf K base cls ns (cls x) j:=by
 obtain ⟨bm,o,mm⟩:=Q
 subst hc hp
 have hcl:(fK K (cls x)).isSome=true:=by
  obtain ⟨i,hi,e⟩:=gx hx
  have e1:ns[i]?=some x:=by rw [aC hi,e]
  obtain ⟨C,h1,h2⟩:=N.at i x e1
  rw [<- hn,ay,e1] at h1
  cases h1
  obtain ⟨cd,h3⟩:=h2.cl
  rw [h3];rfl
 refine ⟨⟨W.x1,W.x2,W.x3,W.x4,W.x5,W.x6,mb,hcl⟩,fun i n e=>?_,Py W.x8,⟨bm,o,mm _ W.x9 W.x7⟩,hj⟩
 obtain ⟨D,h1,h2⟩:=N.at i n e
 have h3:Cs[i]?=some (cls n):=by rw [<- hn,ay,e];rfl
 rw [h1] at h3
 cases h3
 obtain ⟨cd,h4⟩:=h2.cl
 have hi:l[i]?≠none:=fun z=>by
  rw [<- hl,ay,z] at h1
  cases h1
 cases hq:l[i]? with
 | none=>exact (hi hq).elim
 | some q =>
  obtain ⟨D,b⟩:=q
  have e1:D=cls n:=by rw [<- hl,ay,hq] at h1;cases h1;rfl
  have e2:(v8 j)[i]?=some b:=by rw [<- hb,ay,hq];rfl
  subst e1
  obtain ⟨s1,s2⟩:=W.sb.at i _ b hq
  have e3:b=decide (i=j):=by
   unfold v8 at e2
   match i,e2 with
   | 0,e | 1,e | 2,e | 3,e | 4,e | 5,e | 6,e | 7,e | 8,e | 9,e | 10,e=>simpa using e.symm
   | (i + 11),e=>simp at e
  rw [<- e3]
  exact MI h4 h2.ty s1 s2
theorem Ry {K:a5}{base:a_}{mg:Str->Option a7}{cls:Str->aa}{x:Str}{C CP:aa}{ns:List Str}{Cs:List aa}{l:List (aa×Bool)}{j:Nat} (X:K.In base) (G:base.Ns br mg) (T:TopC K x C) (W:Wy K C CP l) (N:MP K ns Cs)
  (hc:cls x=C) (hp:cls "PlanError"=CP) (hn:ns.map cls=Cs) (hl:l.map (·.1)=Cs) (hb:l.map (·.2)=v8 j) (hj:j<11) (hx:x∈ns):Xf K base cls ns (cls x) j:=Fc T.mb (DN X G T.ns T.ex T.mb).2 W N hc hp hn hl hb hj hx
end
end J
section
namespace L2
open PySem PySem.Spec PyProof.Rows
section
variable {prog:aB}{w:aT}{A:aP}{E:a7->a9->Prop}{s:a9}{it d:aa}{i n ep:Nat}{o:Obj}{es:Array DictEntry}
end
end L2
namespace J
open PySem L2
def keysOf:List D->Option (List dJ)
 | []=>some []
 | d::r=>(oQ d).bind fun k=>(keysOf r).map (k::·)
def Ot:D->Option (List dJ)
 | .tuple ds=>keysOf ds
 | _=>none
def Tj:List (D×D)->List (D×D)
 | (.none,_)::r=>r
 | l=>l
def MQ (ds:List (D×D)):Bool:=!ds.isEmpty && ds.all fun kv=>(Ot kv.1).isSome
section
variable {c:C}{a b e k:aO}{ga gb g gk:aq->R D}{pos p apos:Pos}{x:Str}
def inT (neg:Bool):D->D->R D
 | k,.dict ds=>match Ot k with
  | some _=>if MQ (Tj ds)=true then .ok (.bool (if neg then !(sD (Tj ds) k).isSome else (sD (Tj ds) k).isSome)) else .no
  | none=>.no
 | _,_=>.no
end
end J
namespace J
open PySem L2
section
variable {c:C}{tg l k v e:aO}{g gk gv:aq->R D}{pos:Pos}
end
end J
namespace L2
open PySem PySem.Spec PyProof.Rows
theorem BB {ns:List Int}:∀ {its:List a7},cJ (ns.map V.int) its->∀ {i:Nat}{v:a7},its[i]?=some v->∃ n t,ns[i]?=some n/\v=.int n t:=by
 induction ns with
 | nil=>intro its r i v e;cases r;simp at e
 | cons x r ih =>
  intro its rr i v e
  cases rr with
  | cons a b =>
   cases i with
   | zero=>cases e;obtain ⟨t,rfl⟩:=a;exact ⟨x,t,rfl,rfl⟩
   | succ i=>have q:=ih b (i:=i) e;exact q
end L2
namespace J
open PySem L2
def oT:List D->Option (List Int)
 | []=>some []
 | .int b::r=>(oT r).map (b::·)
 | _::_=>none
theorem BC {ds:List D}:∀ {bs:List Int},oT ds=some bs->ds=bs.map aZ:=by
 induction ds with
 | nil=>intro bs h;cases h;rfl
 | cons d r ih =>
  intro bs h
  cases d with
  | int b =>
   have h:(oT r).map (b::·)=some bs:=h
   cases hr:oT r with
   | none=>rw [hr] at h;cases h
   | some z=>rw [hr] at h;cases h;rw [ih hr];rfl
  | _=>cases h
theorem wB:∀ bs:List Int,oT (bs.map aZ)=some bs
 | []=>rfl
 | b::r=>by show (oT (r.map aZ)).map (b::·)=_;rw [wB r];rfl
end J
namespace J
open PySem L2
end J
namespace J
open PySem L2
end J
namespace J
open PySem L2
def rS (i:Nat) (ρ:aq):R D:=Gp ρ i
def rB (i:Nat) (ρ:aq):R D:=Bb ρ i
def kI (n:Int) (_:aq):R D:=.ok (.int n)
def kB (b:Bool) (_:aq):R D:=.ok (.bool b)
def kN (_:aq):R D:=.ok .none
def kT (_:aq):R Bool:=.ok true
theorem Rz (i:Nat) (ρ:aq):rS i ρ=Gp ρ i:=id rfl
theorem PN (i:Nat) (ρ:aq):rB i ρ=Bb ρ i:=id rfl
theorem RA (n:Int) (ρ:aq):kI n ρ=.ok (.int n):=id rfl
theorem RC (b:Bool) (ρ:aq):kB b ρ=.ok (.bool b):=id rfl
theorem RE (ρ:aq):kN ρ=.ok .none:=id rfl
end J
end
section
namespace L2
open PySem PySem.Spec PyProof.Rows
section
variable {X:Cx}{tg:aO}
end
end L2
namespace J
open PySem L2
section
variable {c:C}{tg a b d:aO}{p pos:Pos}{gs:aq->R (List D)}
end
end J
end
namespace L2
open PySem PySem.Spec PyProof.Rows
section
open Builtin Builtin.ObjectAttr
inductive j0 (h:a_) (bmB:List a7) (nms:List Str):List a7->Prop
 | base:j0 h bmB nms bmB
 | own {A:aa}{c0:a7}{dd:Option aa}{cd:ClassData}{sl:Array (Option a7)}{mA:Str->Option a7}{tl:List a7} :
   h.get? A=some { cls:=c0,dict:=dd,data:=.cls cd,slots:=sl }->h.Ns cd.ns mA->(∀ n∈nms,mA n=none)->j0 h bmB nms tl->j0 h bmB nms (.ref A::tl)
theorem j0.ownTail {h:a_}{bmB tl:List a7}{nms:List Str} (hi:("__init__" : Str)∈nms) (T:j0 h bmB nms tl):OwnTail h bmB tl:=by
 induction T with
 | base=>exact .base
 | own a b c _ ih=>exact .own a b (c _ hi) ih
theorem j0.keeps {h h':a_}{bmB tl:List a7}{nms:List Str} (T:j0 h bmB nms tl) (hk:∀ b o,h.get? b=some o->h'.get? b=some o):j0 h' bmB nms tl:=by
 induction T with
 | base=>exact .base
 | own a b c _ ih=>exact .own (hk _ _ a) (b.keeps hk) c ih
theorem j0.hasType {h:a_}{bmB tl:List a7}{nms:List Str} (T:j0 h bmB nms tl) {X:String}{b:Bool} (hb:bmB.contains (.type X)=b):tl.contains (.type X)=b:=by
 induction T with
 | base=>exact hb
 | own _ _ _ _ ih=>rw [fk,ih];rfl
theorem j0.refuse {h:a_}{bmB tl:List a7}{nms:List Str}{self:a7}{what:Str} (T:j0 h bmB nms tl) (hp:refuseLoop self what bmB=pure ()):refuseLoop self what tl=pure ():=by
 induction T with
 | base=>exact hp
 | own _ _ _ _ ih=>rw [refuseLoop_ref];exact ih
section
variable {M:vd}{A:aP}{E:a7->a9->Prop}{h:a_}{g:Array CO}{d:Hm}{t:Nat}{os:OsState}
theorem sK {bmB tl:List a7}{nms:List Str}{name:Str}{y:Option a7}{Q:Option a7->a9->Prop} (hm:name∈nms) (T:j0 h bmB nms tl) (hrest:LK bmB name=pure y) (hq:Q y ⟨h,g,d,t,os⟩) :
  ao M A (LK tl name) Q E ⟨h,g,d,t,os⟩:=by
 induction T with
 | base=>rw [hrest];exact af hq
 | own hA hN hni _ ih =>
  rw [lookupAlong_cons]
  refine a6 (wpAny_classOwn_cls hA hN ?_)
  rw [hni _ hm]
  exact ih
variable {nm q:Str}{C N x:aa}{bs bm bmB:List a7}{hdct:Bool}{sn:List Str}{sub:List a7}{ab:Bool}{col:Option Bool}{dd:Option aa}{k0 k1 k2 k3 k5:Option a7}{B newId initId sa owner:String}{nms:List Str}{name:Str}{v:a7}{mN:Str->Option a7}
theorem mF {y:Option a7}{Q:Option a7->a9->Prop}
  (hC:h.get? C=some (fv nm q C N bs bm hdct sn sub ab col dd k0 k1 k2 k3 k5 newId)) (hn:h.Ns N mN) (hm:name∈nms) (T:j0 h bmB nms bm) (hbm:mroOf (.type B)=pure bmB) (hB:gD (.type B) name=pure y)
  (hq:Q (match mN name with | some v=>some v | none=>y) ⟨h,g,d,t,os⟩):ao M A (gD (.ref C) name) Q E ⟨h,g,d,t,os⟩:=by
 have hrest:LK bmB name=pure y:=by rw [typeLookup_eq,hbm] at hB;exact hB
 rw [typeLookup_eq]
 refine a6 (wpAny_mroOf_exc hC ?_)
 rw [lookupAlong_cons]
 refine a6 (wpAny_classOwn_exc hC hn ?_)
 cases hv:mN name with
 | some v=>rw [hv] at hq;exact af hq
 | none=>rw [hv] at hq;exact sK hm T hrest hq
theorem GI {o:Obj}{nameV:a7}{Q:Unit->a9->Prop} (SF:D4 B bmB sa owner) (T:j0 h bmB nms bm)
  (hC:h.get? C=some (fv nm q C N bs bm hdct sn sub ab col dd k0 k1 k2 k3 k5 newId)) (hx:h.get? x=some o) (hc:o.cls=.ref C) (hq:Q () ⟨h,g,d,t,os⟩) :
  ao M A (q8 sa ⟨[.ref x,nameV,v],[]⟩) Q E ⟨h,g,d,t,os⟩:=by
 have hcB:(bC C::bm).contains (.type owner)=true:=by rw [fk,T.hasType SF.hasOwner,uu]
 have ha:=SF.args (.ref x) nameV v
 simp only [q8,SF.kind,SF.split]
 refine a6 ?_
 ·unfold qI
  repeat (first | (with_reducible refine du hx ?_;rw [hc]) | (with_reducible refine iW hC ?_;rw [hcB]) | wp_step)
  cases hsig:Manifest.signature? sa with
  | none=>exact af hq
  | some sig =>
   simp only [HI,hsig] at ha
   have h2:Bind.checkArgs sa sig ⟨[.ref x,nameV,v],[]⟩=pure ():=ha
   show ao M A (Bind.checkArgs sa sig ⟨[.ref x,nameV,v],[]⟩) Q E _
   rw [h2];exact af hq
end
section
variable {prog:aB}{w:aT}{A:aP}{E:a7->a9->Prop}{h:a_}{g:Array CO}{d:Hm}{t:Nat}{os:OsState}
variable {nm q:Str}{C N x:aa}{bs bm bmB:List a7}{sn:List Str}{sub:List a7}{ab:Bool}{col:Option Bool}{dd:Option aa}{k0 k1 k2 k3 k5:Option a7}{B newId initId sa owner:String}{nms:List Str}{name:Str}{v:a7}{mN:Str->Option a7}
theorem zV {tk:Tok}{o:Obj}{Q:Fin->a9->Prop} (SF:D4 B bmB sa owner) (T:j0 h bmB nms bm)
  (hC:h.get? C=some (fv nm q C N bs bm true sn sub ab col dd k0 k1 k2 k3 k5 newId)) (hn:h.Ns N mN) (hm:name∈nms) (hna:mN name=none)
  (hB:gD (.type B) name=pure none) (hx:h.get? x=some o) (hc:o.cls=.ref C) (hnc:∀ c,o.data≠.cls c) (hdn:o.dict=none)
  (hq:∀ h' tk',h'.get? x=some { cls:=o.cls,dict:=some h.objs.size,data:=o.data,slots:=o.slots }->(∀ b ob,b≠x->h.get? b=some ob->h'.get? b=some ob)->h'.Ns1 h.objs.size (fun y=>if y=name then some v else none)->Q (.done (.ret .none)) ⟨h',g,d,tk',os⟩) :
  ao (aE prog w) A (fN.«object.__setattr__» ⟨[.ref x,.str name tk,v],[]⟩) Q E ⟨h,g,d,t,os⟩:=by
 have hpass:=T.refuse (SF.passes (.ref x))
 unfold fN.«object.__setattr__»
 repeat (first | rw [refuse_eq] | (rw [refuseLoop_ref,hpass]) | (with_reducible refine du hx ?_;rw [hc]) | with_reducible refine wpAny_mroOf_exc hC ?_ | (with_reducible refine mF hC hn hm T SF.mro hB ?_;rw [hna]) | wp_step)
 rw [hdn,if_neg (by simp [typeHasDict])]
 split
 ·rename_i hcd
  cases hcd
 split
 ·rename_i c hcd
  exact absurd hcd (hnc c)
 ·have hx₁:(h.push { cls:=.type "dict",data:=.dict #[] }).get? x=some o:=a8 _ hx
  have hxs:x≠h.objs.size:=az (aj hx)
  refine a6 (wpAny_alloc' ?_)
  refine a6 (wpAny_update' hx₁ ?_)
  refine af ?_
  have hgd:((h.push { cls:=.type "dict",data:=.dict #[] }).update x fun o=>{ cls:=o.cls,dict:=some h.objs.size,data:=o.data,slots:=o.slots }).get? h.objs.size
    = some { cls:=.type "dict",data:=.dict #[] } :=
   (FU _ _ _ _ hxs.symm).trans (HN rfl rfl)
  have hnd:((h.push { cls:=.type "dict",data:=.dict #[] }).update x fun o=>{ cls:=o.cls,dict:=some h.objs.size,data:=o.data,slots:=o.slots }).Ns h.objs.size (fun _=>none) :=
   ⟨_,#[],_,hgd,rfl,fun e he=>absurd he (by simp),fun _=>rfl⟩
  show ao _ _ (storeInDict h.objs.size (.str name tk) name v) _ _ _
  unfold storeInDict newKeyGuard
  refine a6 (af (a6 (wpAny_nsSet1 (Heap.Ns1.of_empty hnd) fun h' hn' hs=>?_)))
  obtain ⟨oD,esD,epD,hoD,hdD,hcD⟩:=hn'.count (Within.cons name v Within.nil)
  refine a6 (wpAny_lookBehind hoD (by rw [hdD];exact pastItsLine_dict (bE hcD (by rw [bg,dR,Ay];omega))) ?_)
  wp_walk
  refine hq h' _ ?_ (fun b ob hbx hb=>?_) hn'
  ·refine (hs.2 x hxs).trans (ft _ hx₁ ?_)
   have hfr:=(Heap.get?_some_iff.mp hx).2
   obtain ⟨oc,od,odt,osl⟩:=o
   cases odt<;>first | rfl | exact hfr
  ·exact (hs.2 b (az (aj hb))).trans ((FU _ _ _ _ hbx).trans (a8 _ hb))
theorem BD {o:Obj}{Q:Unit->a9->Prop} (SF:D4 B bmB sa owner) (T:j0 h bmB nms bm)
  (hC:h.get? C=some (fv nm q C N bs bm true sn sub ab col dd k0 k1 k2 k3 k5 newId)) (hn:h.Ns N mN) (hs:("__setattr__" : Str)∈nms) (hns:mN "__setattr__"=none) (hm:name∈nms) (hna:mN name=none)
  (hB:gD (.type B) name=pure none) (hx:h.get? x=some o) (hc:o.cls=.ref C) (hnc:∀ c,o.data≠.cls c) (hdn:o.dict=none)
  (hq:∀ h' tk',h'.get? x=some { cls:=o.cls,dict:=some h.objs.size,data:=o.data,slots:=o.slots }->(∀ b ob,b≠x->h.get? b=some ob->h'.get? b=some ob)->h'.Ns1 h.objs.size (fun y=>if y=name then some v else none)->Q () ⟨h',g,d,tk',os⟩) :
  ao (aE prog w) A (setAttr (.ref x) name v) Q E ⟨h,g,d,t,os⟩:=by
 have f3:=SF.slot.bind (.ref x)
 unfold setAttr callSpecial? specialOf
 repeat (any_goals (first | assumption | (with_reducible refine du hx ?_;rw [hc]) | (with_reducible refine mF hC hn hs T SF.mro SF.slot.lookup ?_;rw [hns]) | wp_step))
 refine k_ SF.slot.plain SF.entry (GI SF T hC hx hc (zV SF T hC hn hm hna hB hx hc hnc hdn fun h' tk' a1 a2 a3=>?_))
 repeat (any_goals (first | assumption | wp_step))
 exact hq h' tk' a1 a2 a3
end
end
section
section
variable {prog:aB}{w:aT}{A:aP}{E:a7->a9->Prop}{h:a_}{g:Array CO}{d:Hm}{t:Nat}{os:OsState}
variable {nm q:Str}{C N:aa}{bs bm bmB:List a7}{hdct:Bool}{sn:List Str}{sub:List a7}{ab:Bool}{col:Option Bool}{dd:Option aa}{k0 k1 k2 k3 k5:Option a7}{B newId initId:String}
theorem v9 (F:qL B newId initId bmB) (T:OwnTail h bmB bm) {mN:Str->Option a7}{bA:List a7}{fI:aa}{oI:Obj}{Q:Fin->a9->Prop}
  (hC:h.get? C=some (fv nm q C N bs bm hdct sn sub ab col dd k0 k1 k2 k3 k5 newId)) (hn:h.Ns N mN) (hi:mN "__init__"=some (.ref fI))
  (hfI:h.get? fI=some oI) (hfc:oI.cls=.type "function")
  (hq:∀ h' e,qo h h' e (.ref C) bA ->
   ao (aE prog w) A (call (.ref fI) (.ref e::bA)) (fun r s'=>r=.none/\Q (.done (.ret (.ref e))) s') E ⟨h',g,d,t,os⟩) (hrest:bA.length<=sizeLine:=by size_fits) :
  ao (aE prog w) A (fN.«type.__call__» ⟨.ref C::bA,[]⟩) Q E ⟨h,g,d,t,os⟩:=by
 repeat (first | with_reducible refine du hC ?_ | with_reducible refine wpAny_madeBy_exc hC ?_ | wp_step)
 refine codeAny_call_builtin_code (l7 _ F.quiet) (wpAny_check_new_subT F T hC ?_)
 refine codeAny_exc_new_subT F T hC ?_ hrest
 show ao _ _ _ _ _ _
 have hC₁:=a8 { cls:=.ref C,data:=.fields #[.ref h.objs.size,.none,.none,.none,.bool false,.none] }
  (a8 { cls:=.type "tuple",data:=.seq bA.toArray } hC)
 have hfI₁:=a8 { cls:=.ref C,data:=.fields #[.ref h.objs.size,.none,.none,.none,.bool false,.none] }
  (a8 { cls:=.type "tuple",data:=.seq bA.toArray } hfI)
 have hn₁:((h.push { cls:=.type "tuple",data:=.seq bA.toArray }).push { cls:=.ref C,data:=.fields #[.ref h.objs.size,.none,.none,.none,.bool false,.none] }).Ns N mN :=
  let ⟨o,es,ep,e,r⟩:=hn;⟨o,es,ep,a8 _ (a8 _ e),r⟩
 have hget:((h.push { cls:=.type "tuple",data:=.seq bA.toArray }).push
   { cls:=.ref C,data:=.fields #[.ref h.objs.size,.none,.none,.none,.bool false,.none] }).get? (h.objs.size + 1)=some
   { cls:=.ref C,data:=.fields #[.ref h.objs.size,.none,.none,.none,.bool false,.none] }:=by heap_get
 have hcC:(bC C::bm).contains (.ref C)=true:=by simp
 have T₁:=T.keeps (h':=(h.push { cls:=.type "tuple",data:=.seq bA.toArray }).push { cls:=.ref C,data:=.fields #[.ref h.objs.size,.none,.none,.none,.bool false,.none] })
  fun b o e=>a8 _ (a8 _ e)
 unfold qI
 repeat (first | with_reducible refine du hget ?_ | (with_reducible refine iW hC₁ ?_;rw [hcC]) | wp_step)
 show ao _ _ (gD (.ref C) _) _ _ _
 refine wpAny_typeLookup_tail hC₁ hn₁ T₁ F.mroIs F.init.lookup ?_
 rw [hi]
 refine cq (a6 ?_)
 unfold bindSpecial
 refine a6 (iP (T:="function") ⟨_,hfI₁,hfc⟩ ?_)
 rw [if_pos (by decide)]
 refine af (a6 (b6 (hq _ (h.objs.size + 1) ⟨fun b o hb=>a8 _ (a8 _ hb),qk (fR _),h.objs.size,hget,qk (ar _),?_⟩) (fun r s' hr=>?_) fun _ _ x=>x))
 ·exact a8 _ (HN rfl rfl)
 ·obtain ⟨rfl,hQ⟩:=hr
  wp_walk
  exact hQ
theorem DS (F:qL B newId initId bmB) (T:OwnTail h bmB bm) {mN:Str->Option a7}{bA:List a7}{fI:aa}{oI:Obj}{Q:a7->a9->Prop}
  (hC:h.get? C=some (fv nm q C N bs bm hdct sn sub ab col dd k0 k1 k2 k3 k5 newId)) (hn:h.Ns N mN) (hi:mN "__init__"=some (.ref fI))
  (hfI:h.get? fI=some oI) (hfc:oI.cls=.type "function")
  (hq:∀ h' e,qo h h' e (.ref C) bA ->
   ao (aE prog w) (A.under (.builtin "type.__call__" ⟨.ref C::bA,[]⟩)) (call (.ref fI) (.ref e::bA)) (fun r s'=>r=.none/\Q (.ref e) s') E ⟨h',g,d,t,os⟩) (hrest:bA.length<=sizeLine:=by size_fits) :
  ao (aE prog w) A (call (.ref C) bA) Q E ⟨h,g,d,t,os⟩:=by
 have f1:=tc_lookup
 have f2:=tc_bind (.ref C)
 have hT:(⟨h,g,d,t,os⟩:a9).TypeIs (.ref C) "type":=⟨_,hC,rfl⟩
 refine mS (rG ?_)
 show ao _ _ (callAny (.ref C) _) _ _ _
 repeat (any_goals (first | assumption | with_reducible refine du hC ?_ | wp_step))
 refine ⟨rfl,?_⟩
 refine codeAny_call_builtin_at (l7 _ (by decide +kernel)) entry_typeCall (wpAny_check_type_call_sub hC (v9 (hrest:=hrest) F T hC hn hi hfI hfc fun h' e hm=>?_))
 exact hq h' e hm
end
section
variable {M:vd}{A:aP}{E:a7->a9->Prop}{env:Env}
variable {nm q:Str}{C N:aa}{bs bm:List a7}{hdct:Bool}{sn:List Str}{sub:List a7}{ab:Bool}{col:Option Bool}{dd:Option aa}{k0 k1 k2 k3 k5:Option a7}{newId:String}
theorem ma {s:a9}{x:Sem a7}{Q:Flow->a9->Prop} (hbase:bm.contains (.type "BaseException")=true) (hh:A.handled=none)
  (h:ao M A x (fun v s₁=>∃ e dx tt sl,v=.ref e/\s₁.heap.get? C=some (fv nm q C N bs bm hdct sn sub ab col dd k0 k1 k2 k3 k5 newId) /\
   s₁.heap.get? e=some { cls:=.ref C,dict:=dx,data:=.fields #[.ref tt,.none,.none,.none,.bool false,.none],slots:=sl }/\E (.ref e) s₁) E s) :
  ao M A (raiseStmt env (some x) none) Q E s:=by
 have hcB:(bC C::bm).contains (.type "BaseException")=true:=by rw [fk,hbase,uu]
 unfold raiseStmt
 refine a6 (b6 h (fun v s₁ h₁=>?_) fun _ _ x=>x)
 obtain ⟨e,dx,vs,sl,rfl,hC,he,hE⟩:=h₁
 obtain ⟨hp,g,d,tk,os⟩:=s₁
 repeat (first | with_reducible refine du he ?_ | with_reducible refine du hC ?_ | (with_reducible refine iW hC ?_;rw [hcB]) | wp_step)
 exact wpAny_raiseNew_none hh hE
end
section
variable {prog:aB}{w:aT}{A:aP}{E:a7->a9->Prop}{s:a9}{env:Env}
variable {nm q:Str}{C N:aa}{bs bm bmB:List a7}{hdct:Bool}{sn:List Str}{sub:List a7}{ab:Bool}{col:Option Bool}{dd:Option aa}{k0 k1 k2 k3 k5:Option a7}{B newId initId:String}
theorem BE (F:qL B newId initId bmB) {mN:Str->Option a7}{x:Str}{np cpos pos:Pos}{args:List aO}{fI:aa}{oI:Obj}{Q:Flow->a9->Prop}
  (hbase:bm.contains (.type "BaseException")=true) (hh:A.handled=none) (hplain:(dz cpos (ak args env)).any (·.1)=false) (hi:mN "__init__"=some (.ref fI)) (hfc:oI.cls=.type "function")
  (h:ao (aE prog w) A (cp (.Name x np) env) (fun f s₁=>f=.ref C/\ao (aE prog w) A (evalArgs (.ref C) true (dz cpos (ak args env)) [])
   (fun a s₂=>a.kw=[]/\a.pos.length<=sizeLine/\s₂.heap.get? C=some (fv nm q C N bs bm hdct sn sub ab col dd k0 k1 k2 k3 k5 newId)/\s₂.heap.Ns N mN/\OwnTail s₂.heap bmB bm/\s₂.heap.get? fI=some oI /\
    ∀ h' e,qo s₂.heap h' e (.ref C) a.pos->ao (aE prog w) (A.under (.builtin "type.__call__" ⟨.ref C::a.pos,[]⟩)) (call (.ref fI) (.ref e::a.pos)) (fun r s'=>r=.none/\s'.heap.get? C=some (fv nm q C N bs bm hdct sn sub ab col dd k0 k1 k2 k3 k5 newId)/\(∃ dx tt sl,s'.heap.get? e=some { cls:=.ref C,dict:=dx,data:=.fields #[.ref tt,.none,.none,.none,.bool false,.none],slots:=sl })/\E (.ref e) s') E { s₂ with heap:=h' }) E s₁) E s) :
  ao (aE prog w) A (exec (.Raise (some (.Call (.Name x np) args [] cpos)) none pos) env) Q E s:=by
 rw [arm_exec_Raise]
 first
  | refine a6 (dA (ma (C:=C) (nm:=nm) (q:=q) (N:=N) (bs:=bs) (bm:=bm) (hdct:=hdct) (sn:=sn) (sub:=sub) (ab:=ab) (col:=col) (dd:=dd) (k0:=k0) (k1:=k1) (k2:=k2) (k3:=k3) (k5:=k5) (newId:=newId) hbase hh (a6 (b6 (xo (b6 h (fun f s₁ h₁=>?_) fun _ _ x=>x)) (fun v s₃ h₃=>a6 (dA (af h₃))) fun _ _ x=>x))))
  | (simp only [evalOpt,Option.map];refine a6 (dA (ma (C:=C) (nm:=nm) (q:=q) (N:=N) (bs:=bs) (bm:=bm) (hdct:=hdct) (sn:=sn) (sub:=sub) (ab:=ab) (col:=col) (dd:=dd) (k0:=k0) (k1:=k1) (k2:=k2) (k3:=k3) (k5:=k5) (newId:=newId) hbase hh (a6 (b6 (xo (b6 h (fun f s₁ h₁=>?_) fun _ _ x=>x)) (fun v s₃ h₃=>a6 (dA (af h₃))) fun _ _ x=>x)))))
  | (refine a6 (dA (ma (C:=C) (nm:=nm) (q:=q) (N:=N) (bs:=bs) (bm:=bm) (hdct:=hdct) (sn:=sn) (sub:=sub) (ab:=ab) (col:=col) (dd:=dd) (k0:=k0) (k1:=k1) (k2:=k2) (k3:=k3) (k5:=k5) (newId:=newId) hbase hh ?_));refine a6 (b6 (xo (b6 h (fun f s₁ h₁=>?_) fun _ _ x=>x)) (fun v s₃ h₃=>a6 (dA (af h₃))) fun _ _ x=>x))
 obtain ⟨rfl,h₁⟩:=h₁
 unfold callWith
 refine a6 (cq (b6 h₁ (fun a s₂ h₂=>a6 (dA ?_)) fun _ _ x=>x))
 obtain ⟨apos,akw⟩:=a
 obtain ⟨hkw,hlen,hC,hn,T,hfI,h₂⟩:=h₂
 obtain rfl:akw=[]:=hkw
 obtain ⟨hp,g,d,tk,os⟩:=s₂
 simp only [hplain]
 refine a6 (wpAny_keeperOf_exc hC ?_)
 refine a6 (DS (hrest:=hlen) F T hC hn hi hfI hfc fun h' e hm=>b6 (h₂ h' e hm) (fun r s' hr=>?_) fun _ _ x=>x)
 obtain ⟨rfl,hC',⟨dx,vs,sl,he⟩,hE⟩:=hr
 refine ⟨rfl,a6 (cq (wpAny_point (af ?_)))⟩
 exact ⟨e,dx,vs,sl,rfl,hC',he,hE⟩
end
end
section
structure Kc (h:a_) (fI:aa):Prop where
 ex:∃ (oI:Obj) (fd:cX) (p1 p2 p3 p4:Pos),h.get? fI=some oI/\oI.cls=.type "function"/\oI.data=.func fd/\h.CodeRec fd.code fd.qualname/\fd.scope.isCoroutine=false/\fd.scope.isGenerator=false/\fd.scope.kind=.function /\
  fd.scope.names=[(("self" : Str),o8),(("number" : Str),o8)]/\fd.body=.stmts [.Assign [.Attribute (.Name "self" p1) "number" p2] (.Name "number" p3) p4]/\∀ (s:a9) (e v:a7),(∀ b o,h.get? b=some o->s.heap.get? b=some o)->uq s fd ⟨[e,v],[]⟩ [("self",e),("number",v)]
section
variable {prog:aB}{w:aT}{A:aP}{E:a7->a9->Prop}{s:a9}
variable {nm q:Str}{C N e fI:aa}{bs bm bmB:List a7}{sn:List Str}{sub:List a7}{ab:Bool}{col:Option Bool}{dd:Option aa}{k0 k1 k2 k3 k5:Option a7}{B newId initId sa owner:String}{nms:List Str}{v:a7}{mN:Str->Option a7}
theorem GJ {oe:Obj}{base:a_}{Q:a7->a9->Prop} (I:Kc base fI) (kb:∀ b o,base.get? b=some o->s.heap.get? b=some o) (hroom:A.depth<iB) (hlim:s.heap.NoLimit) (SF:D4 B bmB sa owner) (T:j0 s.heap bmB nms bm)
  (hC:s.heap.get? C=some (fv nm q C N bs bm true sn sub ab col dd k0 k1 k2 k3 k5 newId)) (hn:s.heap.Ns N mN) (hs:("__setattr__" : Str)∈nms) (hns:mN "__setattr__"=none) (hm:("number" : Str)∈nms) (hna:mN "number"=none)
  (hB:gD (.type B) "number"=pure none) (hx:s.heap.get? e=some oe) (hc:oe.cls=.ref C) (hnc:∀ c,oe.data≠.cls c) (hdn:oe.dict=none)
  (hq:∀ h' tk' D,h'.get? e=some { cls:=oe.cls,dict:=some D,data:=oe.data,slots:=oe.slots }->(∀ b ob,b≠e->s.heap.get? b=some ob->h'.get? b=some ob)->Q .none { s with heap:=h',toks:=tk' }) :
  ao (aE prog w) A (call (.ref fI) [.ref e,v]) Q E s:=by
 obtain ⟨oI,fd,p1,p2,p3,p4,ho,_,hd,hcd,hco,hgen,hk,hsc,hbody,hbind⟩:=I.ex
 have cd':s.heap.CodeRec fd.code fd.qualname:=by
  obtain ⟨c,oc,vs,tq,a1,a2,a3⟩:=hcd
  exact ⟨c,oc,vs,tq,a1,kb _ _ a2,a3⟩
 refine mS (codeAny_call_def hroom (kb _ _ ho) hd hlim cd' hbody (hbind s (.ref e) v kb) (by rw [hsc];decide) (by
  intro y hy
  rw [hsc]
  rcases List.mem_cons.mp hy with z | z
  ·rw [z];rfl
  ·rw [List.mem_singleton.mp z];rfl) (fun h₀ hns₀ keep=>?_) hco hgen hk)
 have l1:(callEnv fd s.heap.objs.size fI).kindOf "number"=some .local:=show fd.scope.names.lookup ("number" : Str)=_ by rw [hsc];rfl
 have l2:(callEnv fd s.heap.objs.size fI).kindOf "self"=some .local:=show fd.scope.names.lookup ("self" : Str)=_ by rw [hsc];rfl
 refine yZ (plainObj_wpAny_Assign_Attribute (vw (tG hk l1 hns₀ (v:=v) rfl (vw (tG hk l2 hns₀ (v:=.ref e) rfl ?_)))))
 refine BD SF (T.keeps keep) (keep _ _ hC) (hn.keeps keep) hs hns hm hna hB (keep _ _ hx) hc hnc hdn fun h' tk' a1 a2 _=>?_
 exact lO (hq h' tk' _ a1 fun b ob hb eb=>a2 b ob hb (keep b ob eb))
end
section
variable {M:vd}{A:aP}{E:a7->a9->Prop}{s:a9}
theorem DT {base h:a_}{env:Env}{outer:List Env}{L e t:aa}{C:a7}{dx:Option aa}{sl:Array (Option a7)}{Q:Unit->a9->Prop}
  (hfr:A.frames=some (env::outer)) (hf:env.frame=some L) (hkb:base.StaysIn h) (hl:h.FunFrames base (env::outer)) (kp:∀ b o,h.get? b=some o->s.heap.get? b=some o) (new:h.get? e=none) (he:s.heap.get? e=some { cls:=C,dict:=dx,data:=.fields #[.ref t,.none,.none,.none,.bool false,.none],slots:=sl })
  (hQ:∀ h',CK base outer e C (.ref t) h'->s.heap.UpToSlots h'->Q () { s with heap:=h' }):ao M A (HD env (.ref e)) Q E s:=by
 have fresh:∀ b,h.get? b=none->base.get? b=none:=fun b hb=>by
  cases hq:base.get? b with
  | none=>rfl
  | some o'=>have:=hkb b o' hq;rw [hb] at this;cases this
 refine wpAny_leaving_firstW (a0:=.ref t) hfr (hl.of_keeps fun b o hb _=>⟨o,kp b o hb,rfl⟩) hf he (fun b o hb=>kp b o (hkb b o hb)) (fresh e new) rfl rfl rfl fun h' hL=>?_
 obtain ⟨k1,⟨_,_,k2⟩,k3,k4⟩:=hL
 exact hQ h' ⟨k1,fresh e new,k2,k3⟩ k4
end
end
section
structure Kd (x:Str) (C:aa) (mg:Str->Option a7) (base:a_):Prop where
 bound:mg x=some (.ref C)
 obj:∃ nm q N bs bm sn sub ab col dd k0 k1 k2 k3 k5 mN fI,base.get? C=some (fv nm q C N bs bm true sn sub ab col dd k0 k1 k2 k3 k5 "ValueError.__new__")/\base.Ns N mN/\mN "__init__"=some (.ref fI)/\mN "__setattr__"=none/\mN "number"=none /\
  j0 base [.type "ValueError",.type "Exception",.type "BaseException",.type "object"] ["__init__","__setattr__","number"] bm/\Kc base fI
section
variable {P:aB}{w:aT}{K:a5}{mg:Str->Option a7}{base:a_}{N:List Str}{qual:Str}{scope:dG}{f:aa}{cd:a7}{A:aP}{outer:List Env}{s:a9}{H:Hp}{E:XK}
theorem xG {pins:List (aa×Obj)}{σ:St}{H1:Hp}{s1:a9}{h':a_}{tk':Nat}{ea C t:aa}{dx:Option aa}{sl:Array (Option a7)} (I:bu (fg (iN P w) P w K mg base N qual scope f cd A outer s H E) pins σ H1 s1)
  (kp:∀ b o,s1.heap.get? b=some o->h'.get? b=some o) (new:s1.heap.get? ea=none) (he:h'.get? ea=some { cls:=.ref C,dict:=dx,data:=.fields #[.ref t,.none,.none,.none,.bool false,.none],slots:=sl }) (q:E (.ref C) none H1):(fg (iN P w) P w K mg base N qual scope f cd A outer s H E).xe (.ref ea) { s1 with heap:=h',toks:=tk' }:=by
 let X:=fg (iN P w) P w K mg base N qual scope f cd A outer s H E
 let B:=uQ s1.heap (ml X.stack)
 have hin:∀ env∈X.stack,∀ a,env.frame=some a->a∈ml X.stack:=fun env he a hf=>zC he hf
 have stB:B.StaysIn s1.heap:=fun b o e=>qD _ e
 have nS:∀ b,b∉ml X.stack->∀ o,s1.heap.get? b=some o->B.get? b=some o:=fun b n o e=>pZ _ e n
 show ao _ X.A (HD X.env (.ref ea)) _ _ _
 refine DT (s:={ s1 with heap:=h',toks:=tk' }) (base:=B) (outer:=outer) (L:=X.env.locals) I.ok.frames rfl stB (ze I.stack hin) kp new he fun h2 fl up=>?_
 have st2:=fl.1
 have bl:∀ b o,s.heap.get? b=some o->b∉ml outer->b∉ml X.stack:=fun b o e n z=>by
  rcases List.mem_cons.mp (I.stkSub b z) with y | y
  ·exact absurd (aj e) (by rw [y];exact Nat.not_lt.mpr I.ok.above)
  ·exact n y
 have noex:∀ b:aa,b∉X.ex:=fun b z=>absurd (show b∈([] : List aa) from z) (by simp)
 have cov:∀ b u,H1 b=some u->∃ o,B.get? b=some o:=fun b u e=>by
  have hb:b∉ml X.stack:=fun z=>by have:=I.stkFree b z;rw [e] at this;cases this
  obtain ⟨o,k⟩:=B6 I.hok e
  exact ⟨o,nS b hb o k⟩
 refine ⟨ea,C,t,H1,B,rfl,I.os,I.bare,⟨fl,cov,fun b o e n hb=>?_,fun b o e hb=>?_,⟨fun b o e n hb hx'=>?_,fun b o e n hb hx'=>?_,fun b o e n _=>I.base.free b o e n (noex b),fun b o e _=>?_,I.base.tups,I.base.frzs,I.base.tbls⟩,fun b u e=>?_⟩,q⟩
 ·exact nS b (bl b o e hb) o (I.base.keep b o e n hb (noex b))
 ·obtain ⟨o',k⟩:=I.base.there b o e (noex b)
  exact ⟨o',nS b (bl b o e hb) o' k⟩
 ·exact st2 b o (nS b (bl b o e hb) o (I.base.keep b o e n hb (noex b)))
 ·obtain ⟨sl,k⟩:=I.base.slot b o e n hb (noex b)
  obtain ⟨_,o',k1,k2⟩:=cZ I.funs hb
  rw [k] at k1;cases k1
  obtain ⟨sl',k3⟩:=up b _ (kp _ _ k) k2
  exact ⟨sl',k3⟩
 ·obtain ⟨o',k⟩:=I.base.there b o e (noex b)
  by_cases hb:b∈ml outer
  ·obtain ⟨_,o2,k1,_⟩:=cZ fl.2.2.1 hb
   exact ⟨o2,k1⟩
  ·exact ⟨o',st2 b o' (nS b (bl b o e hb) o' k)⟩
 ·refine (I.hok b u e).stay (fun c o hc k=>?_) (fun _ q=>q) fun _ _ q=>q
  have hcs:c∉ml X.stack:=fun z=>by
   have:=I.stkFree c z
   rcases hc with y | y
   ·rw [y,e] at this;cases this
   ·rw [y] at this;cases this
  exact st2 c o (nS c hcs o k)
theorem GK:gD (.type "ValueError") "number"=pure none:=by rw [rH,ke];kernel_rfl
theorem GL {x:Str}{np cpos pos:Pos}{e0:aO}{C:aa}{ta:TA} (O:Kd x C mg base) (hr:(fg (iN P w) P w K mg base N qual scope f cd A outer s H E).A.depth + 5<iB)
  (hg:Gl (fg (iN P w) P w K mg base N qual scope f cd A outer s H E) x) (ha:PA (fg (iN P w) P w K mg base N qual scope f cd A outer s H E) [e0] ta)
  (he:ak [e0] (fg (iN P w) P w K mg base N qual scope f cd A outer s H E).env=[(false,cp e0 (fg (iN P w) P w K mg base N qual scope f cd A outer s H E).env)]:=by rfl)
  (hdb:(x == ("__debug__" : Str))=false:=by decide) :
  PS (fg (iN P w) P w K mg base N qual scope f cd A outer s H E) (.Raise (some (.Call (.Name x np) [e0] [] cpos)) none pos) (fun D σ H1=>ta σ H1 fun vs H2=>vs.length=1/\E (.ref C) none H2):=by
 intro pins s1 σ H1 D I h
 obtain ⟨nm,q,Nn,bs,bm,sn,sub,ab,col,dd,k0,k1,k2,k3,k5,mN,fI,hC,hN,hi,hsa,hnu,T,IF⟩:=O.obj
 obtain ⟨oI,_,_,_,_,_,hoI,hfc,_⟩:=id IF.ex
 refine BE (C:=C) (nm:=nm) (q:=q) (N:=Nn) (bs:=bs) (bm:=bm) (hdct:=true) (sn:=sn) (sub:=sub) (ab:=ab) (col:=col) (dd:=dd) (k0:=k0) (k1:=k1) (k2:=k2) (k3:=k3) (k5:=k5) (fI:=fI) (oI:=oI)
  vD (mN:=mN) (T.hasType PySem.F.excBase_ValueError.hasBase) (I.ok.hd rfl) (by rw [he];rfl) hi hfc (rW I hg O.bound ⟨rfl,?_⟩ hdb)
 have hx:=ha cpos pins s1 σ H1 _ I h
 rw [he] at hx ⊢
 refine q0 (fm hx fun us s2 ⟨vs,H2,I2,r2,z,qE⟩=>?_)
 have kb:∀ b o,base.get? b=some o->s2.heap.get? b=some o:=I2.bk
 have hl:=r2.length
 rw [z] at hl
 match us,hl with
 | [u],_ =>
  refine ⟨rfl,by show 1<=sizeLine;rw [Ay];omega,kb _ _ hC,hN.keeps kb,(T.ownTail (by simp)).keeps kb,kb _ _ hoI,fun h' ea hm=>?_⟩
  obtain ⟨t,ht,_,_⟩:=hm.there
  have kh:∀ b o,base.get? b=some o->h'.get? b=some o:=fun b o e=>hm.keeps b o (kb b o e)
  refine GJ (s:={ s2 with heap:=h' }) IF kh ?_ (I2.nolimit.keeps hm.keeps) PySem.F.store_ValueError (T.keeps kh) (kh _ _ hC) (hN.keeps kh) (by simp) hsa (by simp) hnu GK ht rfl (fun c z=>nomatch z) rfl fun h2 tk2 Dx e1 e2=>?_
  ·have hw:∀ r,Ev (.builtin "type.__call__" ⟨.ref C::r,[]⟩)<=5:=fun r=>by
    have e:Ev (.builtin "type.__call__" ⟨.ref C::r,[]⟩)=Ev (.builtin "type.__call__" ⟨[.ref 0],[]⟩):=rfl
    rw [e]
    decide +kernel
   exact lS (Hr (hw [u]) _) hr
  ·have kp:∀ b o,s2.heap.get? b=some o->h2.get? b=some o:=fun b o e=>e2 b o (fun z=>by rw [z,hm.new] at e;cases e) (hm.keeps b o e)
   exact ⟨rfl,kp _ _ (kb _ _ hC),⟨some Dx,t,#[],e1⟩,xG (s1:=s2) (tk':=tk2) I2 kp hm.new e1 qE⟩
end
end
end L2
namespace J
open PySem L2
section
open PySem.W (nsIn nsOkIn codeIn fnOf)
def RF:cw->Nat->cw
 | .ClassDef (body:=b) ..,j=>b.getD j (.Pass ⟨0,0,0,0⟩)
 | _,_=>.Pass ⟨0,0,0,0⟩
theorem RG {K:a5}{h:a_}{N:aa}{mg:Str->Option a7}{n:Str}{v:a7} (X:K.In h) (G:h.Ns N mg) (e:nsIn K N n=some (some v)):mg n=some v:=by
 obtain ⟨o,es,ep,ho,hd,_,hf⟩:=G
 unfold fD at e
 split at e
 ·rename_i c d es' n' sl q
  have:=X _ _ q
  rw [ho] at this
  cases this
  cases hd
  split at e
  ·rename_i he
   rw [<- hf]
   unfold nsFind findBy
   rw [<- FK,he]
   cases e
   rfl
  ·split at e<;>cases e
 ·cases e
structure RH (K:a5) (x:Str) (C:aa) (st:cw):Prop where
 ns:nsIn K br x=some (some (.ref C))
 own:∀ {h:a_}{mg:Str->Option a7},K.In h->h.Ns br mg->Kd x C mg h
 mb:c8 K C (.type "BaseException")=some true
 ox:∀ {h:a_},K.In h->∃ bm,zE h C bm/\∀ v,(v == bC C)=false->c8 K C v=some true->bm.contains v=true
theorem topN {K:a5}{x:Str}{C CP fI T0 Nn NP:aa}{st:cw}{nm qn nmP qnP fq:Str}{bs bsP mroP subP sub:List a7}{sn snP:List Str}{ab abP hdP delP:Bool}{col colP:Option Bool}{dd dP od dT an:Option aa}{k0 k1 k2 k3 k5:Option a7}{c0 kV doc pm cdv ct cT:a7}{slP slF slT:Array (Option a7)}{nT:Nat}{p1 p2 p3 p4:Pos}{cN cM:a7}{dN dM:Option aa}{esN esM:Array DictEntry}{epN epM:Nat}{slN slM:Array (Option a7)}
  (a1:nsIn K br x=some (some (.ref C))) (a4:c8 K C (.type "BaseException")=some true)
  (a2:K.lookup C=some ⟨.type "type",dd,.cls ⟨nm,bs,[.ref C,.ref CP,.type "ValueError",.type "Exception",.type "BaseException",.type "object"],Nn,qn,true,sn,sub,ab,col,false⟩,#[k0,k1,k2,k3,some (.builtin "ValueError.__new__"),k5]⟩)
  (a3:K.lookup CP=some ⟨c0,dP,.cls ⟨nmP,bsP,mroP,NP,qnP,hdP,snP,subP,abP,colP,delP⟩,slP⟩)
  (b1:nsIn K Nn "__init__"=some (some (.ref fI))) (b2:nsIn K Nn "__setattr__"=some none) (b3:nsIn K Nn "number"=some none)
  (c1:nsIn K NP "__init__"=some none) (c2:nsIn K NP "__setattr__"=some none) (c3:nsIn K NP "number"=some none)
  (d1:K.lookup fI=some ⟨.type "function",od,.func (fnOf "__init__" fq (jr st) (fU st) (av st) (.ref T0) kV doc pm an cdv ct),slF⟩)
  (d2:K.lookup T0=some ⟨cT,dT,.seq #[.none] nT,slT⟩) (d3:codeIn K cdv fq=true)
  (g1:K.lookup Nn=some ⟨cN,dN,.dict esN epN,slN⟩) (g2:K.lookup NP=some ⟨cM,dM,.dict esM epM,slM⟩) (g3:(esN.toList.all fun e=>match e.key with | .str _ _=>true | _=>false)=true) (g4:(esM.toList.all fun e=>match e.key with | .str _ _=>true | _=>false)=true)
  (f1:fU st=[.Assign [.Attribute (.Name "self" p1) "number" p2] (.Name "number" p3) p4]) (f2:(av st).names=[(("self" : Str),o8),(("number" : Str),o8)])
  (f3:(av st).isCoroutine=false) (f4:(av st).isGenerator=false) (f5:(av st).kind=.function)
  (f6:∀ e v,∃ k,Lr (fnOf "__init__" fq (jr st) (fU st) (av st) (.ref T0) kV doc pm an cdv ct) ⟨[e,v],[]⟩=Hw (.ref T0) >>= k/\k (some #[.none])=pure [(("self" : Str),e),(("number" : Str),v)]):RH K x C st:=by
 have e1:nsOkIn K Nn=true:=by unfold HP;rw [g1];show esN.all _=true;rw [<- uX];exact g3
 have e2:nsOkIn K NP=true:=by unfold HP;rw [g2];show esM.all _=true;rw [<- uX];exact g4
 refine ⟨a1,fun {h mg} X G=>⟨im X G a1,nm,qn,Nn,bs,_,sn,sub,ab,col,dd,k0,k1,k2,k3,k5,h.nsMap Nn,fI,X _ _ a2,.of_isNs (kn X e1),?_,ed X e1 b2,ed X e1 b3,?_,⟨_,_,p1,p2,p3,p4,X _ _ d1,rfl,rfl,qH X d3,f3,f4,f5,f2,congrArg FuncBody.stmts f1,fun s e v kb=>?_⟩⟩,a4,fun {h} X=>⟨_,⟨⟨nm,qn,Nn,bs,true,sn,sub,ab,col,dd,k0,k1,k2,k3,k5,_,X _ _ a2⟩,rfl⟩,fun v nv hv=>?_⟩⟩
 ·exact RG X (.of_isNs (kn X e1)) b1
 ·refine .own (X _ _ a3) (.of_isNs (kn X e2)) (fun n hn=>?_) .base
  rcases List.mem_cons.mp hn with z | hn
  ·rw [z];exact ed X e2 c1
  rcases List.mem_cons.mp hn with z | hn
  ·rw [z];exact ed X e2 c2
  ·rw [List.mem_singleton.mp hn];exact ed X e2 c3
 ·obtain ⟨k,k1,k2⟩:=f6 e v
  exact BindsTo.of_defaults rfl (kb _ _ (X _ _ d2)) rfl k1 k2
 ·unfold c8 fK at hv
  rw [a2] at hv
  have:(bC C::[bC CP,.type "ValueError",.type "Exception",.type "BaseException",.type "object"]).contains v=true:=by simpa using hv
  rw [fk,nv,rQ] at this
  exact this
def pH (x:Str) (gs:aq->R (List D)):aq->R Fl:=fun ρ=>(gs ρ).bind fun ds=>if ds.length=1 then .ex x none else .no
theorem Uo {k:Nat}{A:aP} (hr:io k A):A.depth + 5<iB:=by have:=hr.dp;omega
section
variable {P:aB}{w:aT}{K:a5}{mg:Str->Option a7}{base:a_}{N:List Str}{qual:Str}{scope:dG}{f:aa}{cd:a7}{A:aP}{outer:List Env}{s:a9}{H:Hp}{E:XK}{cls:Str->aa}
theorem GM {x:Str}{np cpos pos:Pos}{e0:aO}{gs:aq->R (List D)} (R0:Kd x (cls x) mg base) (hr:(fg (iN P w) P w K mg base N qual scope f cd A outer s H E).A.depth + 5<iB)
  (hg:Gl (fg (iN P w) P w K mg base N qual scope f cd A outer s H E) x) (ha:AF ⟨fg (iN P w) P w K mg base N qual scope f cd A outer s H E,cls,E⟩ [e0] gs)
  (he:ak [e0] (fg (iN P w) P w K mg base N qual scope f cd A outer s H E).env=[(false,cp e0 (fg (iN P w) P w K mg base N qual scope f cd A outer s H E).env)]:=by rfl)
  (hdb:(x == ("__debug__" : Str))=false:=by decide) :
  JS ⟨fg (iN P w) P w K mg base N qual scope f cd A outer s H E,cls,E⟩ (.Raise (some (.Call (.Name x np) [e0] [] cpos)) none pos) (pH x gs):=.of fun ρ=>by
 refine v4 (GL R0 hr hg (ha ρ) he hdb) fun D σ H1 h_1=>?_
 obtain ⟨H0,Hs0,la,Hs,f,q⟩:=h_1
 replace q:m9 K cls E H0 Hs0 la D (pH x gs ρ):=q
 refine ⟨H0,Hs0,la,Hs,f,?_⟩
 unfold pH at q
 cases hr:gs ρ with
 | no=>rw [hr] at q;exact q
 | ex y n=>rw [hr] at q;exact fun H' Hs' s=>q H' Hs' (f.st.trans s)
 | ok ds =>
  rw [hr,bind_ok] at q
  intro vs H2 Hs2 s2 r2
  by_cases hl:ds.length=1
  ·rw [if_pos hl] at q
   exact ⟨by rw [r2.length];exact hl,q H2 Hs2 (f.st.trans s2)⟩
  ·rw [if_neg hl] at q;exact q.elim
end
end
section
section
variable {c:C}{e:aO}{g:aq->R D}{pos p:Pos}
def MR (k:Nat):D->R D
 | .list ds=>Ti k ds
 | _=>.no
def wC (k:Nat) (g:aq->R D) (gl gh:aq->R (Option Int)):aq->R D:=fun ρ=>(g ρ).bind fun x=>(gl ρ).bind fun l=>(gh ρ).bind fun h=>(yx x l h).bind (MR k)
theorem Ke (k:Nat) {j:Nat}{lo hi:Option aO}{gl gh:aq->R (Option Int)}{p2 p3:Pos} (hk:k<=100) (he:JB c e g) (hl:JO c lo gl) (hh:JO c hi gh):JE c (.BinOp (.Subscript e (.Slice lo hi none p2) p) .Mult (.Constant (.int k) j p3) pos) (wC k g gl gh):=.of fun ρ=>oG (ND P7 (AQ EE (he ρ) (hl ρ) (hh ρ)) D7) fun σ H Q h_2=>by
 obtain ⟨H0,Hs0,la,Hs,f,q⟩:=h_2
 refine one f q fun d v H1 Hs1 e1 s1 f1 r1=>?_
 unfold wC at q
 rw [e1,bind_ok] at q
 refine Ms f1 (q.on s1 (q':=fun _=>True) fun _ _=>trivial) fun l H2 Hs2 e2 s2 f2=>?_
 rw [e2,bind_ok] at q
 refine Ms f2 (q.on (s1.trans s2) (q':=fun _=>True) fun _ _=>trivial) fun h H3 Hs3 e3 s3 f3=>?_
 rw [e3,bind_ok] at q
 have r3:=(r1.step s2).step s3
 cases d with
 | list ds =>
  obtain ⟨a,vs,rfl,qa,ra⟩:=r3.list f3.st.sub
  rw [show yx (.list ds) l h=.ok (.list (qg ds l h)) from rfl,bind_ok] at q
  rw [show MR k (.list (qg ds l h))=if (qg ds l h).length<=10 then .ok (.list (bd k (qg ds l h)).flatten) else .no from rfl] at q
  by_cases hlen:(qg ds l h).length<=10
  ·rw [if_pos hlen] at q
   have rc:=zL ra l h
   have hv:(uY vs l h).length<=10:=by rw [rc.length];exact hlen
   refine ⟨a,vs,rfl,qa,fun p hp=>?_⟩
   have s4:cx H3 Hs3 (upd H3 p (.lst (uY vs l h))) Hs3:=.mine f3.st.sub hp
   refine ⟨p,k,uY vs l h,rfl,rfl,aX,by omega,by omega,?_,fun p2 hp2=>?_⟩
   ·have:(uY vs l h).length * k<=10 * 100:=Nat.mul_le_mul hv hk
    exact bi (bU (bE this (by decide)))
   ·refine q _ _ _ (s1.trans (s2.trans (s3.trans (s4.trans (.new s4.sub hp2))))) (.list (.of aX) ?_)
    exact (rc.rep k).same (cx.new s4.sub hp2).sh
  ·rw [if_neg hlen] at q;exact q.elim
 | tuple ds=>exact q.elim
 | none=>exact q.elim
 | bool _=>exact q.elim
 | int _=>exact q.elim
 | str _=>exact q.elim
 | dict _=>exact q.elim
end
end
end J
section
namespace L2
open PySem PySem.Spec PyProof.Rows
end L2
namespace L2
open PySem PySem.Spec PyProof.Rows
theorem xH {X:Cx} (hc:X.calm=true):iM X (.builtin "max") (fun xs H Q=>∃ p,∃ ns:List Int,xs=[.ref p]/\l5 X.K H p (ns.map V.int)/\0<ns.length/\∀ m,m∈ns->(∀ a∈ns,a<=m)->Q (.int m) H):=by
 intro pins s σ H xs us Q I r h
 obtain ⟨p,ns,rfl,hq,hz,q⟩:=h
 obtain ⟨u,rfl,rx⟩:=jA r
 cases rx
 obtain ⟨its,r',pl,hl⟩:=I.list hq
 have ln:its.toArray.size=ns.length:=by have:=r'.length;simp at this ⊢;omega
 obtain ⟨o,ho,hk⟩:=pl.isList
 refine call_max_walk (ii pl.isList ⟨_,_,_,_,_,_,fun i j=>decide (ns.getD i 0 > ns.getD j 0),rfl,rR (by simpa using I.ok.hd hc) _ p (az (aj ho)) its.toArray,⟨⟨_,ax _ rfl,rfl,rfl⟩,pl.isList.push _⟩,?_,?_,?_,fun v h' tk hv kp=>?_⟩)
 ·intro b hb
  simp only [aV,aJ,or_false] at hb
  have hp:=aj ho
  have hs:(s.heap.push { cls:=.type "list_iterator",data:=.fields #[bC p,kU 0 0] }).objs.size=s.heap.objs.size + 1:=Array.size_push ..
  rcases hb with rfl | rfl
  ·exact HQ (el _) hs.symm
  ·exact HQ (eK hp) hs.symm
 ·omega
 ·refine CmpOf.ints_gt (fun i=>ns.getD i 0) fun i v hi=>?_
  obtain ⟨n,t,e1,rfl⟩:=BB r' (i:=i) (by simpa using hi)
  exact ⟨t,by simp [bT,e1]⟩
 ·rw [ln] at hv
  obtain ⟨b1,b2⟩:=argBest_gt (fun i=>ns.getD i 0) (ns.length - 1)
  obtain ⟨n,t,e1,rfl⟩:=BB r' (by simpa using hv)
  refine ⟨.int n,H,I.kept (t':=tk) fun b o e=>kp b o ?_ (a8 _ e),⟨t,rfl⟩,q n (b_ e1) fun a ha=>?_⟩
  ·simp only [ej]
   exact az (aj e)
  ·obtain ⟨j,hj,e⟩:=gx ha
   have:=b2 j (by omega)
   simpa [bT,e1,hj,e] using this
end L2
namespace J
open PySem L2
def Up:D->R D
 | .list ds=>match oT ds with
  | some ns=>.ok (.int ns.sum)
  | none=>.no
 | _=>.no
def yL:List Int->Int
 | []=>0
 | x::r=>r.foldl max x
theorem BF:∀ (r:List Int) (x:Int),(r.foldl max x∈x::r)/\∀ a∈x::r,a<=r.foldl max x
 | [],x=>⟨by simp,fun a ha=>by simp at ha;subst ha;exact Int.le_refl _⟩
 | y::r,x=>by
  obtain ⟨h1,h2⟩:=BF r (max x y)
  rw [iQ]
  refine ⟨?_,fun a ha=>?_⟩
  ·rcases List.mem_cons.mp h1 with h | h
   ·rw [h]
    by_cases hxy:x<=y
    ·rw [Int.max_eq_right hxy];simp
    ·rw [Int.max_eq_left (by omega)];simp
   ·exact ai _ (ai _ h)
  ·have h0:=h2 (max x y) al
   rcases List.mem_cons.mp ha with h | h
   ·subst h
    exact Int.le_trans (Int.le_max_left _ _) h0
   ·rcases List.mem_cons.mp h with h | h
    ·subst h
     exact Int.le_trans (Int.le_max_right _ _) h0
    ·exact h2 a (ai _ h)
theorem zW {ns:List Int}{m:Int} (h1:m∈ns) (h2:∀ a∈ns,a<=m):m=yL ns:=by
 cases ns with
 | nil=>cases h1
 | cons x r =>
  obtain ⟨k1,k2⟩:=BF r x
  exact Int.le_antisymm (k2 _ h1) (h2 _ k1)
def xI:D->R D
 | .list ds=>match oT ds with
  | some ns=>if 0<ns.length then .ok (.int (yL ns)) else .no
  | none=>.no
 | _=>.no
theorem Kf {X:Cx} (hc:X.calm=true):Gu X (.builtin "max") (ia xI):=by
 refine qS (fun d c n=>?_) fun pins s σ H x u Q Hs d d' I ru sub rx hd q=>?_
 ·unfold xI
  split<;>(try split)<;>(try split)<;>exact fun h=>by cases h
 ·unfold xI at hd
  split at hd
  ·split at hd
   ·split at hd
    ·rename_i ns hs hz
     cases hd
     obtain ⟨a,vs,rfl,qa,ra⟩:=rx.list sub
     rw [BC hs] at ra
     rw [zH ra] at qa
     exact xH hc pins s σ H _ _ Q I (.cons ru .nil) ⟨a,ns,rfl,qa,hz,fun m h1 h2=>by rw [zW h1 h2];exact q _ H Hs (.refl sub) (.int _)⟩
    ·cases hd
   ·cases hd
  ·cases hd
end J
end
namespace J
open PySem L2
section
end
end J
namespace L2
open PySem PySem.Spec PyProof.Rows
section
section
variable {prog:aB}{w:aT}{A:aP}{R:qF->a9->Prop}{s:a9}
end
end
end L2
namespace J
open PySem L2
section
section
variable {c:C}{pos:Pos}{x:Str}{kx vx iter tg:aO}{ifs:List aO}{scope:dG}{N':List Str}{nt:Nat}{ix:List Nat}{gi:aq->R (List D)}{gt:aq->R Bool}{gk gv:aq->R D}
end
end
end J
section
namespace L2
open PySem PySem.Spec PyProof.Rows
end L2
namespace J
open PySem L2
section
variable {c:C}{pos:Pos}{x:Str}{kx vx iter tg:aO}{ifs:List aO}{scope:dG}{N':List Str}{nt:Nat}{ix:List Nat}{gi:aq->R (List D)}{gt:aq->R Bool}{gk gv:aq->R D}
end
end J
end
namespace J
open PySem L2
section
end
section
end
section
def oU (p:HO->Bool) (H Hs:Hp):Hp:=fun b=>match Hs b,H b with
 | some o,_=>some o
 | none,some o=>if p o then some o else none
 | none,none=>none
def zX (p:HO->Bool) (H Hs Hs1:Hp):Hp:=fun b=>match Hs b,H b with
 | none,some o=>if p o then none else Hs1 b
 | _,_=>Hs1 b
section
variable {p:HO->Bool}{H Hs H' Hs' Hs1:Hp}{K:a5}
theorem mG:cW Hs (oU p H Hs):=fun b o e=>by
 unfold oU
 rw [e]
theorem wD {b:aa}{o:HO} (h:H b=some o) (n:Hs b=none) (hp:p o=true):oU p H Hs b=some o:=by
 unfold oU
 rw [n,h]
 exact if_pos hp
theorem wE {b:aa}{o:HO} (h:oU p H Hs b=some o):Hs b=some o\/(Hs b=none/\H b=some o/\p o=true):=by
 unfold oU at h
 split at h
 ·rename_i e;exact .inl (e.trans h)
 ·rename_i u n e
  split at h
  ·rename_i hp;cases h;exact .inr ⟨n,e,hp⟩
  ·cases h
 ·cases h
theorem BG (s:cW Hs H):cW (oU p H Hs) H:=fun b o e=>by
 rcases wE e with h | ⟨_,h,_⟩
 ·exact s b o h
 ·exact h
theorem MS (s:cx H Hs H' Hs'):cW (oU p H Hs) (oU p H' Hs'):=fun b o e=>by
 rcases wE e with h | ⟨n,h,hp⟩
 ·exact mG b o (s.sh b o h)
 ·have h':=s.all b o h
  cases n':Hs' b with
  | none=>exact wD h' n' hp
  | some u =>
   have:=s.sub b u n'
   rw [h'] at this
   cases this
   exact mG b o n'
theorem MT {b:aa}{o:HO} (n:Hs b=none) (h:H b=some o) (hp:p o=true):zX p H Hs Hs1 b=none:=by
 unfold zX
 rw [n,h]
 exact if_pos hp
theorem Fd {b:aa} (h:∀ o,Hs b=none->H b=some o->p o=false):zX p H Hs Hs1 b=Hs1 b:=by
 unfold zX
 split
 ·rename_i o n e
  rw [h o n e]
  rfl
 ·rfl
theorem Kg:cW (zX p H Hs Hs1) Hs1:=fun b o e=>by
 unfold zX at e
 split at e
 ·split at e
  ·cases e
  ·exact e
 ·exact e
theorem ud (sub:cW Hs H) (s:cx H (oU p H Hs) H' Hs1):cx H Hs H' (zX p H Hs Hs1):=by
 refine ⟨s.all,fun b o e=>?_,Kg.trans s.sub,fun a o e t n=>?_⟩
 ·rw [Fd fun o' n _=>by rw [e] at n;cases n]
  exact s.sh b o (mG b o e)
 ·cases hp:p o with
  | true=>exact MT n e hp
  | false =>
   rw [Fd fun o' _ e'=>by rw [e] at e';cases e';exact hp]
   refine s.out a o e t ?_
   unfold oU
   rw [n,e]
   simp only [hp]
   rfl
end
structure PP (p:HO->Bool) (ok:D->Bool):Prop where
 rd:∀ {K:a5}{H Hs H' Hs1:Hp},cx H (oU p H Hs) H' Hs1->∀ {v d},ok d=true->RD K Hs1 v d->RD K (zX p H Hs Hs1) v d
def qw:D->Bool
 | .int _=>true
 | .bool _=>true
 | .none=>true
 | .str _=>true
 | _=>false
theorem BH:PP (fun _=>true) qw:=.mk fun {K H Hs H' Hs1} s {v d} hd r=>by
 cases r with
 | none=>exact .none
 | bool b=>exact .bool b
 | int b=>exact .int b
 | str b=>exact .str b
 | list _ _=>cases hd
 | tuple _ _=>cases hd
 | dictK _ _=>cases hd
 | dictT _ _ _=>cases hd
 | dictF _ _ _=>cases hd
inductive PQ (p:HO->Bool) (K:a5) (cls:Str->aa) (E:XK) (ρ:aq) (r:R (List D)) (σ:St) (H:Hp) (Q:List V->Hp->Prop):Prop
 | mk (H0 Hs0:Hp) (la:Nat->Option aa) (Hs:Hp) (f:Fr K H0 Hs0 la ρ σ H Hs) (q:Fin K cls E H Hs r fun d=>∀ v H' Hs',cx H Hs H' Hs'->RDs K (oU p H' Hs') v d->Q v H'):PQ p K cls E ρ r σ H Q
structure JL (p:HO->Bool) (c:C) (es:List aO) (g:aq->R (List D)):Prop where of ::
 run:∀ ρ,PA c.X es (PQ p c.X.K c.cls c.E ρ (g ρ))
section
variable {p:HO->Bool}{c:C}{e:aO}{es:List aO}{g:aq->R D}{gs:aq->R (List D)}{pos:Pos}
theorem MU {K:a5}{cls:Str->aa}{E:XK}{ρ:aq}{r:R (List D)}{β:Type}{k:List D->R β}{σ:St}{H:Hp}{H0 Hs0 Hs:Hp}{la:Nat->Option aa}{Q:List V->Hp->Prop}{q:β->Prop} (f:Fr K H0 Hs0 la ρ σ H Hs)
  (h:Fin K cls E H Hs (r.bind k) q) (m:∀ d v H' Hs',r=.ok d->cx H Hs H' Hs'->Fr K H0 Hs0 la ρ σ H' Hs'->RDs K (oU p H' Hs') v d->Q v H'):PQ p K cls E ρ r σ H Q:=by
 refine ⟨H0,Hs0,la,Hs,f,?_⟩
 cases r with
 | ok d=>exact fun v H' Hs' s r=>m d v H' Hs' rfl s (f.step s) r
 | ex c n=>exact h
 | no=>exact h
theorem Kh:JL p c [] aH:=.of fun ρ=>Pi dB fun σ H Q h=>by obtain ⟨H0,Hs0,la,Hs,f,q⟩:=h;exact q [] H Hs (.refl f.st.sub) .nil
theorem MV (h:JE c e g) (hr:JL p c es gs) (hs:ak (e::es) c.X.env=(false,cp e c.X.env)::ak es c.X.env:=by rfl):JL p c (e::es) (ac g gs):=.of fun ρ=>Pi (bK (h ρ) (hr.run ρ) hs) fun σ H Q h=>by
 obtain ⟨H0,Hs0,la,Hs,f,q⟩:=h
 refine xA f q fun d v H1 Hs1 e1 s1 f1 r1=>?_
 unfold ac at q
 rw [e1,bind_ok] at q
 refine MU f1 (q.on s1 (q':=fun _=>True) fun _ _=>trivial) fun ds vs H2 Hs2 e2 s2 f2 r2=>?_
 rw [e2,bind_ok] at q
 exact q _ H2 Hs2 (s1.trans s2) (.cons ((r1.same s2.sh).same mG) r2)
def Lq (i:Nat) (ρ:aq):R D:=match ρ[i]? with
 | some (Sl.ow2 dss)=>.ok (.list (dss.map .list))
 | _=>.no
theorem MW {K:a5}{H Hs:Hp}{as:List aa}{dss:List (List D)} (h:u3 K H Hs as dss) (n:∀ b∈as,Hs b=none):RDs K (oU (fun _=>true) H Hs) (as.map V.ref) (dss.map .list):=by
 induction h with
 | nil=>exact .nil
 | cons h r t ih=>exact .cons (.list (.of (wD h (n _ al) rfl)) (r.same mG)) (ih fun b hb=>n b (ai _ hb))
theorem Fe (i:Nat) {x:Str}{ps:Pos} (hr:JL (fun _=>true) c es gs) (hN:c.X.N[i]?=some x:=by rfl) (hv:FZ c.X.env.scope x:=by first | exact eP rfl | exact cY (eP rfl) | exact cY (cY rfl)) (hd:(x == ("__debug__" : Str))=false:=by decide)
  (hcd:(x == ("__classdict__" : Str))=false:=by decide) (hs:ak (.Name x ps::es) c.X.env=(false,cp (.Name x ps) c.X.env)::ak es c.X.env:=by rfl):JL (fun _=>true) c (.Name x ps::es) (ac (Lq i) gs):=.of fun ρ=>Pi (bK (ko hN hv hd hcd) (hr.run ρ) hs) fun σ H Q h=>by
 obtain ⟨H0,Hs0,la,Hs,f,q⟩:=h
 unfold ac Lq at q
 cases hr:ρ[i]? with
 | none=>simp only [hr] at q;exact q.elim
 | some s =>
  cases s with
  | ow2 dss =>
   obtain ⟨a,as,O⟩:=f.o2 i dss hr
   simp only [hr,bind_ok] at q
   refine ⟨_,O.at_,?_⟩
   refine MU f q fun ds vs H2 Hs2 e2 s2 f2 r2=>?_
   rw [e2,bind_ok] at q
   exact q _ H2 Hs2 s2 (.cons (RD.same (MS s2) (.list (.of (wD O.ob (O.out a al).1 rfl)) (MW O.inn fun b hb=>(O.out b (ai _ hb)).1))) r2)
  | shr d=>simp only [hr] at q;exact q.elim
  | no=>simp only [hr] at q;exact q.elim
  | lck d=>simp only [hr] at q;exact q.elim
  | own d=>simp only [hr] at q;exact q.elim
def PR (ok:D->Bool):R D->R D
 | .ok d=>if ok d then .ok d else .no
 | .ex c none=>.ex c none
 | _=>.no
def DU (ok:D->Bool) (n:Nat) (F:List D->R D) (gs:aq->R (List D)):aq->R D:=fun ρ=>(gs ρ).bind fun ds=>if ds.length=n then PR ok (F ds) else .no
theorem Uq {x:Str}{pn:Pos}{ok:D->Bool} (L:PP p ok) {k j n:Nat}{F:List D->R D} (G:Fn c.X.prog c.X.w c.X.K c.X.mg c.X.base c.cls x k n F) (hr:io j c.X.A) (hx:iE (iN c.X.prog c.X.w) c.X c.E) (ha:JL p c (e::es) gs)
  (hk:k<=j:=by decide) (hg:Gl c.X x:=by exact rfl) (hdb:(x == ("__debug__" : Str))=false:=by decide) (he:ak (e::es) c.X.env=(false,cp e c.X.env)::ak es c.X.env:=by rfl) (hpl:(dz pos (ak es c.X.env)).any (·.1)=false:=by rfl) :
  JE c (.Call (.Name x pn) (e::es) [] pos) (DU ok n F gs):=.of fun ρ=>by
 obtain ⟨f,fd,ps,hf,hm,hk',hb⟩:=G.ex
 refine oG (zj (E:=c.E) hf (hr.mono hk) hg hm hk' hb .nil hx (ha.run ρ) hdb he hpl) fun σ H Q h_0=>?_
 obtain ⟨H0,Hs0,la,Hs,fr,q⟩:=h_0
 refine MU fr q fun ds vs H1 Hs1 e1 s1 f1 r1=>?_
 unfold DU at q
 rw [e1,bind_ok] at q
 by_cases hn:ds.length=n
 ·rw [if_pos hn] at q
  show Mw _ _ _ _ (vs++[]) _ _ _
  rw [bH]
  refine ⟨oU p H1 Hs1,ds,BG f1.st.sub,hn,r1,?_⟩
  cases hF:F ds with
  | no=>rw [hF] at q;exact q.elim
  | ex y m =>
   rw [hF] at q
   cases m with
   | some d=>exact q.elim
   | none=>exact fun H2 Hs2 s2=>by have z:=q H2 (zX p H1 Hs1 Hs2) (s1.trans (ud f1.st.sub s2));exact z
  | ok d =>
   rw [hF] at q
   unfold PR at q
   simp only at q
   by_cases ho:ok d=true
   ·rw [if_pos ho] at q
    exact fun v H2 Hs2 s2 r2=>q v H2 _ (s1.trans (ud f1.st.sub s2)) (L.rd s2 ho r2)
   ·rw [if_neg ho] at q;exact q.elim
 ·rw [if_neg hn] at q;exact q.elim
end
end
section
section
variable {p:HO->Bool}{c:C}{e:aO}{es:List aO}{g:aq->R D}{gs:aq->R (List D)}{pos spos pn apos cpos:Pos}{x:Str}
theorem PU {K:a5}{H Hs:Hp}{vs:List V}{ds:List D} (h:RDs K Hs vs ds):Mn K H Hs vs ds:=by
 induction ds generalizing vs with
 | nil=>cases h;exact .nil
 | cons d r ih=>cases h with | cons a b=>exact .cons (.inl a) (ih b)
def qW (ok:D->Bool) (gs:aq->R (List D)) (h:List D->R D):aq->R D:=fun ρ=>(gs ρ).bind fun ds=>PR ok (h ds)
theorem Ki {id:String}{h:List D->R D}{ok:D->Bool} (L:PP p ok) (hc:Gu c.X (.builtin id) h) (hg:Gl c.X x) (hm:c.X.mg x=none) (hv:gj x=some (.builtin id)) (ha:JL p c (e::es) gs) (hn:x≠"__name__":=by decide) (hdb:(x == ("__debug__" : Str))=false:=by decide)
  (he:ak (e::es) c.X.env=(false,cp e c.X.env)::ak es c.X.env:=by rfl) (hpl:(dz pos (ak es c.X.env)).any (·.1)=false:=by rfl):JE c (.Call (.Name x pn) (e::es) [] pos) (qW ok gs h):=.of fun ρ=>oG (kq hc.1 hg hm hv (ha.run ρ) hn hdb he hpl) fun σ H Q q=>by
 obtain ⟨H0,Hs0,la,Hs,f,q⟩:=q
 refine MU f q fun ds vs H1 Hs1 e1 s1 f1 r1=>?_
 unfold qW at q
 rw [e1,bind_ok] at q
 cases hr:h ds with
 | ok d =>
  rw [hr] at q
  unfold PR at q
  simp only at q
  by_cases ho:ok d=true
  ·rw [if_pos ho] at q
   exact ⟨oU p H1 Hs1,ds,BG f1.st.sub,PU r1,d,hr,fun v H2 Hs2 s2 r2=>q v H2 _ (s1.trans (ud f1.st.sub s2)) (L.rd s2 ho r2)⟩
  ·rw [if_neg ho] at q;exact q.elim
 | ex c n=>exact (hc.2 ds c n hr).elim
 | no=>rw [hr] at q;exact q.elim
def Kj (i:Nat):aq->R Fl:=fun ρ=>.ok (.nx ((clear2 ρ).set i (.ow2 [])))
theorem PV (i:Nat) {pos':Pos} (hN:c.X.N.Nodup) (hi:c.X.N[i]?=some x:=by rfl) (hx:LP c.X.env.scope x:=by first | exact eP rfl | exact cY rfl)
  (hs:fB (.List [] pn) (some (.Name x pos')) spos.line c.X.env=pure false:=by rfl)
  (hf:c.X.fn x=true\/c.X.env.scope.names.lookup x=some .local:=by first | exact .inl rfl | exact .inr rfl | assumption) :
  JS c (.Assign [.Name x pos'] (.List [] pn) spos) (Kj i):=.of fun ρ=>by
 refine v4 (vM hN hi hx (jO dB) hs hf) fun D σ H h_0=>?_
 obtain ⟨H0,Hs0,la,Hs,f,q⟩:=h_0
 replace q:m9 c.X.K c.cls c.E H0 Hs0 la D (Kj i ρ):=q
 obtain ⟨f,no2⟩:=f.clear2
 refine ⟨ck _,fun a n=>?_⟩
 have st:cx H Hs (upd H a (.lst [])) Hs:=.mine f.st.sub n
 have f':=f.step st
 have nx:∀ {j:Nat}{s:Sl},(∀ d,s≠.ow2 d)->((clear2 ρ).set i (.ow2 []))[j]?=some s->(clear2 ρ)[j]?=some s/\i≠j:=fun {j s} hs e=>by
  by_cases hj:i=j
  ·subst hj
   by_cases hi:i<(clear2 ρ).length
   ·rw [aw hi] at e;exact absurd (bw e).symm (hs _)
   ·rw [bj (by simpa using hi)] at e;cases e
  ·rw [ag hj] at e;exact ⟨e,hj⟩
 refine q _ _ Hs ⟨f'.st,by simp [f'.len],fun j d h=>?_,fun j d h=>?_,fun j d h=>?_,fun j k d d' b h1 h2 h3 h4=>?_,f'.lh,fun j d h=>?_,fun j k d d' h1 h2=>?_⟩
 ·obtain ⟨h,hj⟩:=nx (fun _ z=>by cases z) h
  rw [ag hj];exact f'.sh j d h
 ·obtain ⟨h,hj⟩:=nx (fun _ z=>by cases z) h
  rw [ag hj];exact f'.ow j d h
 ·obtain ⟨h,hj⟩:=nx (fun _ z=>by cases z) h
  rw [ag hj];exact f'.lk j d h
 ·obtain ⟨h1,hj⟩:=nx (fun _ z=>by cases z) h1
  obtain ⟨h2,hk⟩:=nx (fun _ z=>by cases z) h2
  rw [ag hj] at h3
  rw [ag hk] at h4
  exact f'.dj j k d d' b h1 h2 h3 h4
 ·by_cases hj:i=j
  ·subst hj
   by_cases hi:i<(clear2 ρ).length
   ·rw [aw hi] at h
    cases h
    refine ⟨a,[],aw (by rw [<- f'.len];exact hi),aX,List.nodup_cons.mpr ⟨by simp,.nil⟩,fun b hb=>?_,fun b hb k e hk=>?_,.nil⟩
    ·rw [List.mem_singleton.mp hb]
     exact ⟨f.st.sub.free n,f.st.all.free n⟩
    ·obtain ⟨hk,nk⟩:=nx (fun _ z=>by cases z) hk
     rw [ag nk]
     intro z
     obtain ⟨b',o,k1,k2,_⟩:=f.ow k e hk
     rw [z] at k1
     cases k1
     rw [List.mem_singleton.mp hb,n] at k2;cases k2
   ·rw [bj (by simpa using hi)] at h;cases h
  ·rw [ag hj] at h;exact (no2 j d h).elim
 ·by_cases hj:i=j
  ·by_cases hk:i=k
   ·exact hj.symm.trans hk
   ·rw [ag hk] at h2;exact (no2 k d' h2).elim
  ·rw [ag hj] at h1;exact (no2 j d h1).elim
theorem u3.snoc {K:a5}{H Hs:Hp}{b:aa} (hb:H b=some (.lst [])) {as:List aa}{dss:List (List D)} (h:u3 K H Hs as dss):u3 K H Hs (as++[b]) (dss++[[]]):=by
 induction h with
 | nil=>exact .cons hb .nil .nil
 | cons h r t ih=>exact .cons h r ih
def wF (i:Nat):aq->R Fl:=fun ρ=>match ρ[i]? with
 | some (Sl.ow2 dss)=>if dss.length<1000 then .ok (.nx (ρ.set i (.ow2 (dss++[[]])))) else .no
 | _=>.no
theorem DV (i:Nat) {pp pl:Pos} (hN:c.X.N[i]?=some x:=by rfl) (hv:FZ c.X.env.scope x:=by first | exact eP rfl | exact cY (eP rfl) | exact cY (cY rfl)) (hd:(x == ("__debug__" : Str))=false:=by decide)
  (hcd:(x == ("__classdict__" : Str))=false:=by decide)
  (hbase:oj (.Name x pp) "append" c.X.env (cp (.Name x pp) c.X.env)=cp (.Name x pp) c.X.env:=by rfl)
  (hfew:((dz cpos (ak [.List [] pl] c.X.env)).all (fun x=>!x.1) && (CV cpos (tJ [] c.X.env)).all (fun x=>x.1.isSome)
   && decide ([Expr.List [] pl].length + ([] : List mq).length + (if ([] : List mq).isEmpty then 0 else 1)<30))=true:=by rfl)
  (hline:(apos.endLine == cpos.line)=true:=by rfl) (hst:ak [.List [] pl] c.X.env=(false,cp (.List [] pl) c.X.env)::ak [] c.X.env:=by rfl) (hplain:(dz cpos (ak [] c.X.env)).any (·.1)=false:=by rfl)
  (hs:fB (.Call (.Attribute (.Name x pp) "append" apos) [.List [] pl] [] cpos) none pos.line c.X.env=pure false:=by rfl) :
  JS c (.Expr (.Call (.Attribute (.Name x pp) "append" apos) [.List [] pl] [] cpos) pos) (wF i):=.of fun ρ=>by
 refine v4 (mU (uz cG lT lU tX (ko hN hv hd hcd) (bK (jO dB) dB hst) hbase hfew hline hst hplain) hs) fun D σ H h_0=>?_
 obtain ⟨H0,Hs0,la,Hs,f,q⟩:=h_0
 replace q:m9 c.X.K c.cls c.E H0 Hs0 la D (wF i ρ):=q
 unfold wF at q
 split at q
 ·rename_i dss ho
  by_cases hl:dss.length<1000
  ·rw [if_pos hl] at q
   obtain ⟨a,as,O⟩:=f.o2 i dss ho
   refine ⟨_,O.at_,.inl ⟨rfl,_,.of O.ob⟩,ck _,fun b nb=>?_⟩
   have hab:a≠b:=aW O.ob nb
   have ha1:upd H b (.lst []) a=some (.lst (as.map V.ref)):=by rw [aQ hab];exact O.ob
   have hlen:=O.inn.length
   refine ⟨a,as.map V.ref,.ref b,rfl,rfl,ha1,bU (by rw [au];omega),?_⟩
   have hil:i<ρ.length:=(List.getElem?_eq_some_iff.mp ho).1
   have f1:=f.step (.mine (o:=.lst []) f.st.sub nb)
   have o1:∀ b'∈a::as,upd H b (.lst []) b'=H b':=fun b' hb'=>by
    have:∃ o,H b'=some o:=by
     rcases List.mem_cons.mp hb' with rfl | h
     ·exact ⟨_,O.ob⟩
     ·obtain ⟨o,h1,_⟩:=O.inn.there h;exact ⟨o,h1⟩
    obtain ⟨o,h1⟩:=this
    rw [aQ (aW h1 nb)]
   have nbm:b∉a::as:=fun z=>by
    rcases List.mem_cons.mp z with h | h
    ·exact hab h.symm
    ·obtain ⟨o,h1,_⟩:=O.inn.there h
     rw [nb] at h1;cases h1
   obtain ⟨as0,a0⟩:=O.out a al
   have nx:∀ {j':Nat}{s:Sl},(∀ d,s≠.ow2 d)->(ρ.set i (.ow2 (dss++[[]])))[j']?=some s->ρ[j']?=some s/\i≠j':=fun {j' s} hs e=>by
    by_cases hj:i=j'
    ·subst hj
     rw [aw hil] at e;exact absurd (bw e).symm (hs _)
    ·rw [ag hj] at e;exact ⟨e,hj⟩
   refine q _ _ Hs ⟨⟨fun c u e=>?_,f1.st.sh,fun c u e=>?_,f1.st.out⟩,by simp [f1.len],fun j' d' h=>f1.sh j' d' (nx (fun _ z=>by cases z) h).1,fun j' d' h=>?_,fun j' d' h=>?_,fun j' k' d' e' a h1 h2=>f1.dj j' k' d' e' a (nx (fun _ z=>by cases z) h1).1 (nx (fun _ z=>by cases z) h2).1,f1.lh,fun j' d' h=>?_,fun j' k' d' e' h1 h2=>?_⟩
   ·rw [aQ (aW e a0)];exact f1.st.all c u e
   ·rw [aQ (aW e as0)];exact f1.st.sub c u e
   ·obtain ⟨h,_⟩:=nx (fun _ z=>by cases z) h
    obtain ⟨c',u,k1,k2,k3,k4,k5⟩:=f1.ow j' d' h
    refine ⟨c',u,k1,?_,k3,k4,k5⟩
    rw [aQ (fun z=>O.dj a al j' d' h (by rw [<- z];exact k1))]
    exact k2
   ·obtain ⟨h,_⟩:=nx (fun _ z=>by cases z) h
    obtain ⟨c',u,k1,k2,k3,k4,k5,k6⟩:=f1.lk j' d' h
    refine ⟨c',u,k1,k2,?_,k4,k5,k6⟩
    rw [aQ (aW k5 a0)]
    exact k3
   ·by_cases hj':i=j'
    ·subst hj'
     rw [aw hil] at h
     cases h
     refine ⟨a,as++[b],O.at_,by rw [aX];simp,?_,fun c hc=>?_,fun c hc k e' hk=>?_,?_⟩
     ·rw [show a::(as++[b])=(a::as)++[b] from rfl]
      refine List.nodup_append.mpr ⟨O.nd,by simp,fun u hu v hv z=>?_⟩
      rw [List.mem_singleton.mp hv] at z
      exact nbm (z ▸ hu)
     ·rw [show a::(as++[b])=(a::as)++[b] from rfl] at hc
      rcases List.mem_append.mp hc with z | z
      ·exact O.out c z
      ·rw [List.mem_singleton.mp z];exact ⟨f.st.sub.free nb,f.st.all.free nb⟩
     ·rw [show a::(as++[b])=(a::as)++[b] from rfl] at hc
      have hk:=(nx (fun _ z=>by cases z) hk).1
      rcases List.mem_append.mp hc with z | z
      ·exact O.dj c z k e' hk
      ·rw [List.mem_singleton.mp z]
       intro w
       obtain ⟨b',o,k1,k2,_⟩:=f.ow k e' hk
       rw [w] at k1
       cases k1
       rw [nb] at k2;cases k2
     ·refine u3.snoc (by rw [aQ (eA hab)];exact aX) ?_
      exact (O.inn.upd (o:=.lst []) fun z=>nbm (ai _ z)).upd (List.nodup_cons.mp O.nd).1
    ·rw [ag hj'] at h
     exact (hj' (f.u2 i j' _ _ ho h)).elim
   ·by_cases hj':i=j'
    ·by_cases hk':i=k'
     ·exact hj'.symm.trans hk'
     ·rw [ag hk'] at h2
      exact (hk' (f.u2 i k' _ _ ho h2)).elim
    ·rw [ag hj'] at h1
     exact (hj' (f.u2 i j' _ _ ho h1)).elim
  ·rw [if_neg hl] at q;exact q.elim
 ·exact q.elim
end
end
end J
section
namespace L2
open PySem PySem.Spec PyProof.Rows
theorem GN {X:Cx}{tg iter:aO}{body:List cw}{wi:TI}{pos:Pos} (hi:PI X tg iter wi) (hs:∀ x,dm iter X.env x=pure x:=by intro _;rfl):PS X (.For tg iter body [] pos) (fun _ σ H=>wi σ H fun _ _=>False):=by
 intro pins s σ H D I h
 refine wpAny_For (fm (hi pins s σ H _ I h) fun v s1 h1=>fm h1 fun itv s2 h2=>?_) hs
 obtain ⟨it,fp,tn,J,H2,e,I2,T,st2,f2,z⟩:=h2
 exact z.elim
end L2
namespace J
open PySem L2
def qx (gi:aq->R (List D)) (kt:D->aq->R aq) (gb:aq->R Fl):aq->R Fl:=fun ρ=>(gi ρ).bind fun ds=>jk kt gb ds ρ
theorem MX {c:C}{iter tg:aO}{pos:Pos}{gi:aq->R (List D)}{body:List cw}{kt:D->aq->R aq}{gbd:aq->R Fl} (hc:c.X.calm=true) (hi:Bj c tg iter gi) (hi':Bj c.nox tg iter gi) (hg:JG c.nox tg kt) (hb:Gx c.nox body gbd) (hs:∀ x,dm iter c.X.env x=pure x:=by intro _;rfl):JS c (.For tg iter body [] pos) (qx gi kt gbd):=.of fun ρ=>by
 cases hr:gi ρ with
 | ok ds =>
  refine v4 (kC hc hi' hg hb hs ρ) fun D σ H q=>?_
  unfold qx at q
  unfold nY
  rw [hr] at q ⊢
  exact q
 | no =>
  refine v4 (kC hc hi' hg hb hs ρ) fun D σ H q=>?_
  unfold qx at q
  unfold nY
  rw [hr] at q ⊢
  exact q
 | ex x n =>
  refine v4 (GN (hi ρ) hs) fun D σ H q=>?_
  obtain ⟨H0,Hs0,la,Hs,f,q⟩:=q
  unfold qx at q
  rw [hr] at q
  refine ⟨H0,Hs0,la,Hs,f,?_⟩
  rw [hr]
  exact fun H' Hs' s=>q H' Hs' (f.st.trans s)
end J
end
namespace Z
open PySem L2 J
section
def Kk (y:Str):Option Nat:=if y="NoBook" then some 0 else if y="NoRow" then some 4 else none
def j1:aq->R Fl:=(dv (yt (cf (ac (dZ 1 [1] (kA (rB 0)) kT (g2 (rB 0) (rB 1) (Gs false))) aH) (ia (gF fun bs=>bs.any id)))))
def eN:List D->R D:=gJ 2 j1
def pI:aq->R Fl:=(bf (fE (HA (jP (gU (v6 (rB 0) "str"))) (jP (gU (oK (kI 1) (cf (ac (rB 0) aH) (ia j7)) (kI 6) NV NV)))) (dv (kB false)) (fun ρ=>.ok (.nx ρ))) (dv (cf (ac (dZ 1 [] (kA (rB 0)) kT (oK (fun _=>.ok (.str "a")) (rB 0) (fun _=>.ok (.str "z")) NV NV)) aH) (ia (gF fun bs=>bs.all id)))))
def mH:List D->R D:=gJ 1 pI
def gG:aq->R Fl:=(bf (fE (HA (jP (gU (v6 (rB 0) "tuple"))) (jP (gU (cf (ac (dZ 1 [] (kA (rB 0)) kT (f9 1 mH (ac (rS 0) aH))) aH) (ia (gF fun bs=>bs.all id)))))) (dv (kB false)) (fun ρ=>.ok (.nx ρ))) (dv (cf (ac (dZ 2 [] (MA (ac (rS 0) (ac (Mt (rB 0) (HB (kI 1)) Pn) aH))) kT (g2 (rB 0) (rB 1) DC)) aH) (ia (gF fun bs=>bs.all id)))))
def eX:List D->R D:=gJ 1 gG
def ls:aq->R Fl:=(dv (uC (f9 1 eX (ac (rS 1) aH)) (cf (ac (dZ 1 [0] (kA (rB 1)) kT (g2 (rB 0) (rB 1) (Gs false))) aH) (ia (gF fun bs=>bs.all id)))))
def jE:List D->R D:=gJ 2 ls
def n6:aq->R Fl:=(bf (fE (HA (jP (gU (v6 (rB 0) "int"))) (gU (v6 (rB 0) "bool"))) (dv (kB false)) (fun ρ=>.ok (.nx ρ))) (dv (oK (rB 1) (rB 0) (rB 2) NV NV)))
def n8:List D->R D:=gJ 3 n6
def lu:aq->R Fl:=(bf (fE (HA (jP (gU (v6 (rB 1) "tuple"))) (gU (g2 (cf (ac (rB 1) aH) (ia j7)) (kI 6) (kz true)))) (dv (kB false)) (fun ρ=>.ok (.nx ρ))) (bf (wl (rS 1) (jD 6 (bZ (bF 2) (bZ (bF 3) (bZ (bF 4) (bZ (bF 5) (bZ (bF 6) (bZ (bF 7) jX)))))))) (bf (fE (HA (jP (gU (f9 1 mH (ac (rS 2) aH)))) (jP (gU (f9 3 n8 (ac (rS 7) (ac (kI 0) (ac (kI 9) aH))))))) (dv (kB false)) (fun ρ=>.ok (.nx ρ))) (bf (fE (jP (gU (cf (ac (dZ 1 [0] (kA (dI (ac (rS 3) (ac (rS 4) (ac (rS 5) (ac (rS 6) aH)))) .tuple)) kT (f9 2 jE (ac (rS 1) (ac (rS 0) aH)))) aH) (ia (gF fun bs=>bs.all id))))) (dv (kB false)) (fun ρ=>.ok (.nx ρ))) (dv (uC (f9 2 eN (ac (rS 3) (ac (rS 4) aH))) (f9 2 eN (ac (rS 5) (ac (rS 6) aH)))))))))
def lv:List D->R D:=gJ 8 lu
def pJ:aq->R Fl:=(bf (fE (HA (jP (gU (v6 (rB 0) "tuple"))) (gU (g2 (cf (ac (rB 0) aH) (ia j7)) (kI 2) (kz true)))) (dv (kB false)) (fun ρ=>.ok (.nx ρ))) (bf (wl (rS 0) (jD 2 (bZ (bF 1) (bZ (bF 2) jX)))) (bf (fE (HA (jP (gU (f9 1 eX (ac (rS 1) aH)))) (gU (g2 (cf (ac (rB 1) aH) (ia j7)) (kI 6) Pj))) (dv (kB false)) (fun ρ=>.ok (.nx ρ))) (bf (fE (HA (jP (gU (v6 (rB 2) "tuple"))) (gU (g2 (cf (ac (rB 2) aH) (ia j7)) (kI 6) Pj))) (dv (kB false)) (fun ρ=>.ok (.nx ρ))) (bf (fE (jP (gU (cf (ac (dZ 1 [1] (kA (rB 2)) kT (f9 2 lv (ac (rS 1) (ac (rS 0) aH)))) aH) (ia (gF fun bs=>bs.all id))))) (dv (kB false)) (fun ρ=>.ok (.nx ρ))) (dv (g2 (sF (uc 1 [] (kA (rB 2)) kT (g2 (rB 0) (kI 0) b9))) (cf (ac (rB 2) aH) (ia j7)) (kz false))))))))
def pK:List D->R D:=gJ 3 pJ
def fz:aq->R Fl:=(bf (fE (jP (gU (v6 (rB 1) "str"))) (dv kN) (fun ρ=>.ok (.nx ρ))) (bf (nY (kA (g2 (rB 0) (kI 1) b9)) (bF 2) (fE (gU (g2 (g2 (rB 2) (kI 0) b9) (rB 1) (kz false))) (dv (rS 2)) (fun ρ=>.ok (.nx ρ)))) (dv kN)))
def cu:List D->R D:=gJ 3 fz
def pL:aq->R Fl:=(bf (fE (jP (gU (f9 1 pK (ac (rS 0) aH)))) (zQ "NoBook" (ac (fun _=>.ok (.str "a book is a tuple of facts and errands, each as the document tells")) aH)) (fun ρ=>.ok (.nx ρ))) (dv (rS 0)))
def mI:List D->R D:=gJ 1 pL
def kG:aq->R Fl:=(bf (fE (HA (jP (gU (v6 (rB 1) "list"))) (gU (g2 (cf (ac (rB 1) aH) (ia j7)) (kI 64) Pj))) (dv (kB false)) (fun ρ=>.ok (.nx ρ))) (dv (cf (ac (dZ 1 [0] (kA (rB 1)) kT (g2 (f9 2 cu (ac (rS 1) (ac (rS 0) aH))) kN (Pk true))) aH) (ia (gF fun bs=>bs.all id)))))
def jF:List D->R D:=gJ 2 kG
def j2:aq->R Fl:=(bf (fE (jP (gU (f9 2 jF (ac (rS 0) (ac (rS 1) aH))))) (pH "NoRow" (ac kN aH)) (fun ρ=>.ok (.nx ρ))) (dv (dZ 1 [0] (kA (rB 1)) kT (f9 2 cu (ac (rS 1) (ac (rS 0) aH))))))
def eO:List D->R D:=gJ 2 j2
def lw:aq->R Fl:=(bf (wl (Mt (rB 0) (HB (kI 3)) (HB (kI 5))) (jD 2 (bZ (bF 2) (bZ (bF 3) jX)))) (bf (wl (Mt (rB 1) (HB (kI 1)) (HB (kI 3))) (jD 2 (bZ (bF 4) (bZ (bF 5) jX)))) (dv (uC (f9 2 eN (ac (g2 (rB 2) (rB 3) cR) (ac (g2 (rB 4) (rB 5) cR) aH))) (f9 2 eN (ac (rS 2) (ac (g2 (rB 1) (kI 4) b9) aH)))))))
def jG:List D->R D:=gJ 6 lw
def lz:aq->R Fl:=(dv (uC (f9 2 jG (ac (rS 0) (ac (rS 1) aH))) (f9 2 jG (ac (rS 1) (ac (rS 0) aH)))))
def jH:List D->R D:=gJ 2 lz
def i3:aq->R Fl:=(bf (ir 2 (kI 0)) (bf (nY (yJ (ac (rS 0) aH)) (jD 2 (bZ (bF 3) (bZ (bF 4) jX))) (fE (jP (gU (cf (ac (dZ 1 [1] (kA (rB 4)) kT (f9 2 jH (ac (rS 1) (ac (rS 0) aH)))) aH) (ia (gF fun bs=>bs.all id))))) (ir 2 (g2 (rB 3) (kI 1) cR)) (fun ρ=>.ok (.nx ρ)))) (dv (rS 2))))
def dW:List D->R D:=gJ 5 i3
def sL:aq->R Fl:=(bf (Bf (f9 1 mI (ac (rS 0) aH))) (bf (Kj 2) (bf (qx (kA (f9 2 eO (ac (rS 0) (ac (rS 1) aH)))) (bF 3) (bf (ir 4 (DU qw 2 dW (ac (Lq 2) (ac (rS 3) aH)))) (bf (fE (gU (g2 (rB 4) (qW qw (ac (Lq 2) aH) (ia j7)) (kz false))) (wF 2) (fun ρ=>.ok (.nx ρ))) (jb 2 (rS 4) (rS 3))))) (dv (dZ 1 [] (kA (rB 2)) kT (dZ 1 [] (kA (rB 0)) kT (g2 (rB 0) (kI 0) b9)))))))
def iu:List D->R D:=gJ 5 sL
def ju:aq->R Fl:=(bf (fE (gU (g2 (rB 1) (cf (ac (rB 0) aH) (ia j7)) DC)) (dv (g2 (rB 0) (rB 1) b9)) (fun ρ=>.ok (.nx ρ))) (bf (fE (gU (g2 (rB 0) (dI aH .list) (kz false))) (dv (kI 0)) (fun ρ=>.ok (.nx ρ))) (dv (g2 (g2 (g2 (rB 0) (g2 (rB 1) (cf (ac (rB 0) aH) (ia j7)) Gq) b9) (kI 31) v5) (rB 1) cR))))
def jv:List D->R D:=gJ 2 ju
def lA:aq->R Fl:=(bf (ir 3 (g2 (g2 (g2 (g2 (f9 2 jv (ac (rS 0) (ac (rS 1) aH))) (g2 (kI 7919) (rB 1) v5) cR) (kI 1) cR) (kI 48271) v5) (kI 2147483647) Gq)) (dv (g2 (g2 (g2 (g2 (g2 (rB 3) (rB 3) v5) (g2 (kI 7) (rB 3) v5) cR) (rB 1) cR) (kI 2147483629) Gq) (rB 2) Gq)))
def ba:List D->R D:=gJ 4 lA
def na:aq->R Fl:=(bf (ir 2 (fun _=>.ok (.str ""))) (bf (nY (lm (ac (g2 (dI (ac (kI 1) (ac (kI 2) (ac (kI 3) (ac (kI 6) (ac (kI 1) (ac (kI 4) aH)))))) .list) (f9 3 ba (ac (rS 0) (ac (rS 1) (ac (kI 6) aH)))) b9) aH)) (bF 3) (ir 2 (g2 (rB 2) (g2 (fun _=>.ok (.str "abcdefghijklmnopqrstuvwxyz")) (f9 3 ba (ac (rS 0) (ac (g2 (g2 (rB 1) (kI 1) cR) (rB 3) cR) (ac (kI 26) aH)))) b9) cR))) (dv (rS 2))))
def jl:List D->R D:=gJ 4 na
def lB:aq->R Fl:=(bf (g9 3 (fun _=>.ok (.dict []))) (bf (nY (lm (ac (f9 3 ba (ac (rS 0) (ac (rS 1) (ac (g2 (rB 2) (kI 1) cR) aH)))) aH)) (bF 4) (zP 3 (f9 2 jl (ac (rS 0) (ac (g2 (g2 (rB 1) (kI 1) cR) (g2 (kI 8) (rB 4) v5) cR) aH))) (kB true))) (dv (cf (ac (cf (ac (cf (ac (rB 3) aH) (ia jt)) aH) (ia pC)) aH) (ia ig)))))
def lC:List D->R D:=gJ 5 lB
def nc:aq->R Fl:=(dv (cf (ac (dZ 2 [0,1,3] (DH (ac (rS 2) aH)) (gU (g2 (f9 3 ba (ac (rS 2) (ac (g2 (rB 3) (rB 0) cR) (ac (kI 12) aH)))) (rB 4) DC)) (rS 1)) aH) (ia ig)))
def ng:List D->R D:=gJ 4 nc
def nh:aq->R Fl:=(bf (ir 4 (g2 (rB 2) (f9 3 ba (ac (rS 0) (ac (g2 (rB 1) (kI 10) cR) (ac (cf (ac (rB 2) aH) (ia j7)) aH)))) b9)) (bf (ir 5 (g2 (rB 2) (f9 3 ba (ac (rS 0) (ac (g2 (rB 1) (kI 11) cR) (ac (cf (ac (rB 2) aH) (ia j7)) aH)))) b9)) (bf (ir 6 (g2 (rB 2) (f9 3 ba (ac (rS 0) (ac (g2 (rB 1) (kI 12) cR) (ac (cf (ac (rB 2) aH) (ia j7)) aH)))) b9)) (bf (ir 7 (Mt (dI (ac (rS 4) (ac (rS 5) aH)) .list) Pn (HB (g2 (kI 1) (g2 (f9 3 ba (ac (rS 0) (ac (g2 (rB 1) (kI 13) cR) (ac (kI 3) aH)))) (kI 2) J4) cR)))) (bf (g9 8 (dZ 1 [7,0,1] (kA (dI (ac (rS 6) aH) .list)) (Dw (gU (g2 (rB 0) (rB 1) (Gs true))) (gU (g2 (f9 3 ba (ac (rS 2) (ac (g2 (rB 3) (kI 14) cR) (ac (kI 4) aH)))) (kI 0) (kz false)))) (rS 0))) (bf (g9 9 (dZ 1 [6,0,1] (kA (dI (ac (rS 4) aH) .list)) (Dw (gU (g2 (rB 0) (rB 1) (kz true))) (gU (g2 (f9 3 ba (ac (rS 2) (ac (g2 (rB 3) (kI 15) cR) (ac (kI 3) aH)))) (kI 0) (kz false)))) (rS 0))) (bf (PF 8 (PF 9 (g9 10 (dZ 1 [] (kA (dI (ac (rS 7) (ac (rS 8) (ac (dI (ac (rS 6) aH) .list) (ac (rS 9) aH)))) .tuple)) kT (cf (ac (mE (ub (rB 0))) aH) (ia ig)))))) (dv (dI (ac (rS 3) (ac (g2 (rB 10) (kI 0) b9) (ac (g2 (rB 10) (kI 1) b9) (ac (g2 (rB 10) (kI 2) b9) (ac (g2 (rB 10) (kI 3) b9) (ac (f9 3 ba (ac (rS 0) (ac (rS 1) (ac (kI 5) aH)))) aH)))))) .tuple)))))))))
def ni:List D->R D:=gJ 11 nh
def i4:aq->R Fl:=(bf (fE (Dw (gU (g2 (rB 2) (dI aH .tuple) (kz true))) (gU (g2 (f9 3 ba (ac (rS 0) (ac (kI 97) (ac (kI 2) aH)))) (kI 0) (kz false)))) (dv (f9 4 ni (ac (rS 0) (ac (rS 1) (ac (rS 2) (ac (rS 3) aH)))))) (fun ρ=>.ok (.nx ρ))) (bf (MD 4) (bf (nY (DH (ac (rS 2) aH)) (jD 2 (bZ (bF 5) (bZ (bF 6) jX))) (bf (ir 7 (f9 3 ba (ac (rS 0) (ac (g2 (g2 (rB 1) (kI 10) cR) (rB 5) cR) (ac (kI 8) aH))))) (bf (fE (gU (g2 (rB 7) (kI 3) DC)) (jb 4 (g2 (dI (ac (kI 0) (ac (kI 0) (ac (kI 1) aH))) .list) (rB 7) b9) (rS 6)) (fun ρ=>.ok (.nx ρ))) (bf (ir 7 (f9 3 ba (ac (rS 0) (ac (g2 (g2 (rB 1) (kI 20) cR) (rB 5) cR) (ac (kI 8) aH))))) (fE (gU (g2 (rB 7) (kI 4) DC)) (jb 4 (g2 (dI (ac (kI 2) (ac (kI 2) (ac (kI 3) (ac (kI 3) aH)))) .list) (rB 7) b9) (rS 6)) (fun ρ=>.ok (.nx ρ))))))) (bf (fun ρ=>(g9 8 (dZ 1 [] (kA (rB 4)) kT (cf (ac (rB 0) aH) (ia ig)))) (db ρ)) (dv (dI (ac (rS 3) (ac (g2 (rB 8) (kI 0) b9) (ac (g2 (rB 8) (kI 1) b9) (ac (g2 (rB 8) (kI 2) b9) (ac (g2 (rB 8) (kI 3) b9) (ac (f9 3 ba (ac (rS 0) (ac (rS 1) (ac (kI 5) aH)))) aH)))))) .tuple))))))
def i5:List D->R D:=gJ 9 i4
def kH:aq->R Fl:=(bf (ir 4 (f9 3 lC (ac (rS 0) (ac (rS 1) (ac (rS 2) aH))))) (bf (g9 5 (fun _=>.ok (.dict []))) (bf (nY (lm (ac (f9 3 ba (ac (rS 0) (ac (g2 (rB 1) (kI 60) cR) (ac (g2 (rB 3) (kI 1) cR) aH)))) aH)) (bF 6) (bf (ir 7 (f9 2 jl (ac (rS 0) (ac (g2 (g2 (rB 1) (kI 70) cR) (g2 (kI 40) (rB 6) v5) cR) aH)))) (zP 5 (rS 7) (f9 4 i5 (ac (rS 0) (ac (g2 (g2 (rB 1) (kI 80) cR) (g2 (kI 40) (rB 6) v5) cR) (ac (rS 4) (ac (rS 7) aH)))))))) (bf (ir 8 (cf (ac (rB 5) aH) (ia jt))) (bf (ir 9 (f9 3 ba (ac (rS 0) (ac (g2 (rB 1) (kI 61) cR) (ac (g2 (cf (ac (rB 8) aH) (ia j7)) (kI 1) cR) aH))))) (dv (dI (ac (rS 4) (ac (cf (ac (dZ 1 [5] (kA (g2 (Mt (rB 8) (HB (rS 9)) Pn) (Mt (rB 8) Pn (HB (rS 9))) cR)) kT (g2 (rB 1) (rB 0) b9)) aH) (ia ig)) aH)) .tuple)))))))
def kJ:List D->R D:=gJ 10 kH
def kK:aq->R Fl:=(bf (g9 3 (dI aH .list)) (bf (g9 4 (dI aH .list)) (bf (nY (DH (ac (rS 2) aH)) (jD 2 (bZ (bF 5) (bZ (bF 6) jX))) (bf (ir 7 (f9 3 ba (ac (rS 0) (ac (g2 (rB 1) (rB 5) cR) (ac (kI 8) aH))))) (fE (gU (g2 (rB 7) (kI 2) DC)) (ua 3 (rS 6)) (fE (gU (g2 (rB 7) (kI 2) (kz false))) (ua 4 (rS 6)) (fun ρ=>.ok (.nx ρ)))))) (dv (dI (ac (cf (ac (rB 3) aH) (ia ig)) (ac (cf (ac (rB 4) aH) (ia ig)) aH)) .tuple)))))
def qX:List D->R D:=gJ 8 kK
def nj:aq->R Fl:=(bf (ir 3 (f9 4 kJ (ac (rS 0) (ac (kI 100) (ac (rS 1) (ac (rS 2) aH)))))) (bf (ir 4 (f9 4 ng (ac (rS 0) (ac (kI 20) (ac (g2 (rB 3) (kI 0) b9) (ac (g2 (dI (ac (kI 2) (ac (kI 4) aH)) .list) (f9 3 ba (ac (rS 0) (ac (kI 97) (ac (kI 2) aH)))) b9) aH)))))) (dv (dI (ac (rS 3) (ac (rS 4) (ac (f9 3 qX (ac (rS 0) (ac (kI 30) (ac (g2 (rB 3) (kI 0) b9) aH)))) aH))) .tuple))))
def kL:List D->R D:=gJ 5 nj
def nl:aq->R Fl:=(dv (cf (ac (dZ 1 [1] (kA (rB 0)) kT (g2 (rB 0) (rB 1) (Gs false))) aH) (ia (gF fun bs=>bs.any id))))
def kM:List D->R D:=gJ 2 nl
def lE:aq->R Fl:=(bf (fE (gU (f9 2 kM (ac (g2 (g2 (rB 0) (kI 3) b9) (g2 (rB 0) (kI 4) b9) cR) (ac (g2 (g2 (rB 1) (kI 1) b9) (g2 (rB 1) (kI 2) b9) cR) aH)))) (dv (kB true)) (fun ρ=>.ok (.nx ρ))) (dv (f9 2 kM (ac (g2 (rB 0) (kI 3) b9) (ac (g2 (rB 1) (kI 4) b9) aH)))))
def jI:List D->R D:=gJ 2 lE
def j_:aq->R Fl:=(dv (uC (yt (f9 2 jI (ac (rS 0) (ac (rS 1) aH)))) (yt (f9 2 jI (ac (rS 1) (ac (rS 0) aH))))))
def i6:List D->R D:=gJ 2 j_
def iw:aq->R Fl:=(bf (g9 3 (dZ 1 [] (kA (g2 (rB 2) (kI 1) b9)) kT (g2 (rB 0) (kI 0) b9))) (bf (g9 4 (dI (ac kN (ac (cf (ac (rB 3) aH) (ia ig)) (ac (g2 (rB 3) (dI (ac (fun _=>.ok (.str "zzzzz")) aH) .list) cR) (ac (dI (ac (fun _=>.ok (.str "zzzzz")) aH) .list) (ac (dI (ac kN aH) .list) (ac (dI (ac (dI (ac (fun _=>.ok (.str "a")) aH) .list) aH) .list) (ac (fun _=>.ok (.str "a")) (ac (kI 0) (ac (dI (ac (kI 1) aH) .list) aH))))))))) .list)) (bf (fE (gU (g2 (rB 3) (dI aH .list) (kz true))) (GD 4 (dI (ac (wC 65 (rB 3) Pn (HB (kI 1))) (ac (dI (ac (g2 (rB 3) (kI 0) b9) aH) .tuple) aH)) .list)) (fun ρ=>.ok (.nx ρ))) (dv (g2 (rB 4) (f9 3 ba (ac (rS 0) (ac (rS 1) (ac (cf (ac (rB 4) aH) (ia j7)) aH)))) b9)))))
def jw:List D->R D:=gJ 5 iw
def Ff:aq->R Fl:=(bf (wl (f9 3 kL (ac (rS 0) (ac (kI 6) (ac (kI 6) aH)))) (jD 3 (bZ (bF 1) (bZ (bF 2) (bZ (bF 3) jX))))) (bf (g9 4 (sI (dZ 1 [] (kA (g2 (rB 1) (kI 1) b9)) kT (dI (ac (g2 (rB 0) (kI 0) b9) (ac (rS 0) aH)) .tuple)))) (bf (ir 5 (cf (ac (rB 4) aH) (ia jt))) (bf (g9 6 (dI aH .list)) (bf (fE (gU (g2 (rB 5) (dI aH .list) (kz true))) (g9 6 (dZ 1 [5,0] (lm (ac (f9 3 ba (ac (rS 0) (ac (kI 0) (ac (kI 11) aH)))) aH)) kT (g2 (rB 1) (f9 3 ba (ac (rS 2) (ac (g2 (kI 300) (rB 0) cR) (ac (cf (ac (rB 1) aH) (ia j7)) aH)))) b9))) (fun ρ=>.ok (.nx ρ))) (bf (g9 7 (dI aH .list)) (bf (PF 6 (nY (yJ (ac (rS 6) aH)) (jD 2 (bZ (bF 8) (bZ (bF 9) jX))) (bf (g9 10 (dZ 1 [4,6,9,7] (lm (ac (rB 8) aH)) (jP (gU (f9 2 i6 (ac (g2 (rB 1) (g2 (rB 2) (rB 0) b9) b9) (ac (g2 (rB 1) (rB 3) b9) aH))))) (g2 (g2 (rB 4) (rB 0) b9) (kI 1) cR))) (ua 7 (cf (ac (g2 (dI (ac (kI 0) aH) .list) (rB 10) cR) aH) (ia xI)))))) (bf (g9 11 (dI aH .list)) (bf (nY (lm (ac (g2 (cf (ac (g2 (dI (ac (Jj (kI 1)) aH) .list) (rB 7) cR) aH) (ia xI)) (kI 1) cR) aH)) (bF 12) (ua 11 (dZ 1 [7,12,6] (lm (ac (cf (ac (rB 6) aH) (ia j7)) aH)) (gU (g2 (g2 (rB 1) (rB 0) b9) (rB 2) (kz false))) (g2 (rB 3) (rB 0) b9)))) (bf (fE (gU (g2 (f9 2 (sG Kk iu) (ac (rS 1) (ac (rS 6) aH))) (rB 11) (kz true))) (dv (kB false)) (fun ρ=>.ok (.nx ρ))) (dv (g2 (f9 2 (sG Kk iu) (ac (rS 1) (ac (f9 3 jw (ac (rS 0) (ac (kI 1) (ac (rS 1) aH)))) aH))) (dI (ac (fun _=>.ok (.str "refused")) (ac (kI 4) aH)) .tuple) (kz false)))))))))))))
def F_law:List D->R D:=gJ 13 Ff
end
end Z
section
set_option hygiene false
namespace Z
open PySem L2 J
local macro_rules | `(tactic| walk_at "zz") => `(tactic| simp only [Rz, PN, RA, RC, RE, Br, oS, Bs, Re, Jo, Jp, O3, Rf, EY, Bt, EZ, Bu, Bv, Bw, Jq, Jr, Js, E_, Jt, F4, Rh, O5, O6, Ju, O7, Jv, O8, Rk, Jw, O9, Jx, F5, Jy, F6, F7, Jz, JA, JC, JH, Bx, By, Oc, JJ, F8, JK, Ro, Oe, Of, JM, Og, JP, JQ, JR, Oh, Oi, JU, Rs, JV, JX, Oj, Ol, JY, PH, JZ, Om, On, J_, F9, Fa, Oq, yz, yA, yB, K0, Ru, K2, K3, K4, K5, K6, K7, yD, yE, zR, Rc, cR, v5, Gq, J4, DA, DC, NV, Pj, Gr, j7, aK, dL, bg, dR, au, Ll, fJ, cB, FV, lc, le, Nat.reduceSub, Nat.reduceAdd, LL, LM, D5, if_true, if_false, ite_true, ite_false, c9, decide_true, decide_false, cond_true, cond_false, mR, j9, ar, ck, D6, Int.reduceLE, Int.reduceAdd, Int.reduceMul, Nat.reduceLT, Int.reduceNeg, reduceIte])
local macro_rules | `(tactic| walk_at "yy") => `(tactic| simp only [Rz, PN, RA, RC, RE, Br, oS, Bs, O3, Rf, EY, Bt, EZ, Bu, Bv, Bw, Jq, Jr, Js, E_, Jt, F4, Rh, O5, O6, Ju, O7, Jv, O8, Rk, Jw, O9, Jx, F5, Jy, F6, F7, Jz, JA, JC, JH, Bx, By, Oc, JJ, F8, JK, Ro, Oe, Of, JM, Og, JP, JQ, JR, Oh, Oi, JU, Rs, JV, JX, Oj, Ol, JY, PH, JZ, Om, On, J_, F9, Fa, Oq, yz, yA, yB, K0, Ru, K2, K3, K4, K5, K6, K7, yD, yE, zR, Rc, cR, j7, aK, dL, bg, dR, au, Ll, fJ, cB, FV, lc, le, Nat.reduceSub, Nat.reduceAdd, LL, LM, D5, if_true, if_false, ite_true, ite_false, c9, decide_true, decide_false, cond_true, cond_false, mR, j9, ar, ck, D6, Int.reduceLE, Int.reduceAdd, Int.reduceMul, Nat.reduceLT, Int.reduceNeg, reduceIte])
theorem cz {n:Nat}{g:aq->R Fl}{ds:List D}{d:D} (h:g (bG n ds)=.ok (.rt d)):gJ n g ds=.ok d:=by unfold gJ;rw [h]
theorem Kl {n:Nat}{g:aq->R Fl}{ds:List D}{c:Str}{m:Option D} (h:g (bG n ds)=.ex c m):gJ n g ds=.ex c m:=by unfold gJ;rw [h]
def Fg (ns:List Int) (k:Int):Int:=if k<ns.length then ns.getD k.toNat 0 else if ns=[] then 0 else ns.getD (k % ns.length).toNat 0 * 31 + k
theorem Km (ns:List Int):cF (ns.map .int)=true:=by
 induction ns with
 | nil=>rfl
 | cons x r ih=>simp [cF,e_,ih]
theorem MY (ns:List Int):bq (.list (ns.map .int)) (.list [])=decide (ns=[]):=by
 cases ns with
 | nil=>rfl
 | cons x r=>simp [bq,jz]
theorem PX (ns:List Int):kz false (.list (ns.map .int)) (.list [])=.ok (.bool (decide (ns=[]))):=by
 unfold kz
 have h1:(bM (ns.map .int)).canLay0=true:=by simp only [e_];exact Km ns
 have h2:(bM []).canLay0=true:=rfl
 have h3:min (bM (ns.map .int)).depth (bM []).depth<=60:=bE (nU _ _) (by decide)
 rw [h1,h2,decide_eq_true h3,MY]
 rfl
theorem PY (ns:List Int) (k:Int) (h0:0<=k) (h1:k<ns.length):Dh (ns.map aZ) k=some (.int (ns.getD k.toNat 0)):=by
 have hk:k.toNat<ns.length:=by omega
 have:=rZ (xs:=ns.map aZ) (j:=k.toNat) (v:=.int (ns.getD k.toNat 0)) (by rw [ay,aC hk];simp [hk])
 rwa [dQ h0] at this
theorem Kn (ns:List Int) (k:Int) (h0:0<=k) (h1:k<ns.length):b9 (.list (ns.map .int)) (.int k)=.ok (.int (ns.getD k.toNat 0)):=by
 have e:∀ xs k,b9 (.list xs) k=DF (.list xs) k:=fun _ _=>rfl
 rw [e]
 unfold DF
 simp only [PY ns k h0 h1]
theorem Fh {i j:Int} (h1:-(2 ^ 64)<j) (h2:j<2 ^ 64):yu i j=true:=by
 unfold yu
 simp only [oy,aS,decide_eq_true_eq]
 exact .inr ⟨h1,h2⟩
theorem pM {i j:Int} (h1:-(2 ^ 64)<i) (h2:i<2 ^ 64):yu i j=true:=by
 unfold yu
 simp only [oy,aS,decide_eq_true_eq]
 exact .inl ⟨h1,h2⟩
theorem MZ (ns:List Int) (k:Int) (hk:0<=k):jv [.list (ns.map .int),.int k]=.ok (.int (Fg ns k)):=by
 unfold jv
 refine cz ?_
 unfold ju bG Fg
 walk_at "zz"
 by_cases h:k<ns.length
 ·simp only [h,decide_true,cond_true,if_true,Kn ns k hk h,bind_ok]
  walk_at "zz"
 ·simp only [h,decide_false,cond_false,if_false]
  walk_at "zz"
  rw [PX]
  walk_at "zz"
  by_cases h2:ns=[]
  ·simp only [h2,decide_true,cond_true,if_true]
   walk_at "zz"
  ·have hl:(0:Int)<ns.length:=by have:0<ns.length:=List.length_pos_iff.mpr h2;omega
   simp only [h2,decide_false,cond_false,if_false,hl,decide_true]
   walk_at "zz"
   simp only [h2,decide_false,cond_false,if_false,hl,decide_true,if_true]
   walk_at "zz"
   rw [Kn ns _ (xp _ (by omega)) (tT _ hl)]
   walk_at "zz"
   rw [Fh (by decide) (by decide)]
   walk_at "zz"
def wG (ns:List Int) (k:Int):Int:=(Fg ns k + 7919 * k + 1) * 48271 % 2147483647
def eG (ns:List Int) (k m:Int):Int:=(wG ns k * wG ns k + 7 * wG ns k + k) % 2147483629 % m
theorem eF (ns:List Int) (k m:Int) (h:0<m):0<=eG ns k m:=xp _ (by omega)
theorem fe (ns:List Int) (k m:Int) (h:0<m):eG ns k m<m:=tT _ h
theorem eI (ns:List Int) (k m:Int) (hk:0<=k) (hm:0<m):ba [.list (ns.map .int),.int k,.int m]=.ok (.int (eG ns k m)):=by
 have d0:0<=wG ns k:=xp _ (by decide)
 have d1:wG ns k<2147483647:=tT _ (by decide)
 unfold ba
 refine cz ?_
 unfold lA bG
 walk_at "zz"
 rw [MZ ns k hk]
 walk_at "zz"
 rw [pM (by decide) (by decide)]
 walk_at "zz"
 rw [Fh (by decide) (by decide)]
 walk_at "zz"
 rw [show (Fg ns k + 7919 * k + 1) * 48271 % 2147483647=wG ns k from rfl,pM (i:=wG ns k) (by omega) (by omega)]
 walk_at "zz"
 rw [pM (i:=7) (by decide) (by decide)]
 walk_at "zz"
 rw [decide_eq_true hm]
 walk_at "zz"
 rfl
theorem oV {α β:Type}{kt:D->aq->R aq}{gb:aq->R Fl} (c:α->D) (f:β->α->β) (P:List α->β->aq->Prop) (h:∀ x bA b ρ,P (x::bA) b ρ->∃ ρ1 ρ',kt (c x) ρ=.ok ρ1/\gb ρ1=.ok (.nx ρ')/\P bA (f b x) ρ') :
  ∀ (xs:List α) (b:β) (ρ:aq),P xs b ρ->∃ ρ',jk kt gb (xs.map c) ρ=.ok (.nx ρ')/\P [] (xs.foldl f b) ρ'
 | [],b,ρ,p=>⟨ρ,rfl,p⟩
 | x::r,b,ρ,p=>by
  obtain ⟨ρ1,ρ2,h1,h2,h3⟩:=h x r b ρ p
  obtain ⟨ρ3,h4,h5⟩:=oV c f P h r (f b x) ρ2 h3
  refine ⟨ρ3,?_,h5⟩
  rw [aK]
  unfold jk
  rw [h1]
  simp only [h2]
  exact h4
theorem Fi {α β:Type}{kt:D->aq->R aq}{gb hh:aq->R Fl}{r:R Fl} (c:α->D) (f:β->α->β) (P:List α->β->aq->Prop) {xs:List α} (b:β) {ρ:aq}
  (h:∀ x bA b ρ,P (x::bA) b ρ->∃ ρ1 ρ',kt (c x) ρ=.ok ρ1/\gb ρ1=.ok (.nx ρ')/\P bA (f b x) ρ') (p0:P xs b ρ) (k:∀ ρ',P [] (xs.foldl f b) ρ'->hh ρ'=r):(jk kt gb (xs.map c) ρ).bind (Jn hh)=r:=by
 obtain ⟨ρ',e,p⟩:=oV c f P h xs b ρ p0
 rw [e,bind_ok,oS]
 exact k ρ' p
theorem nq (n:Nat) (h:n<=1000):DG [.int (n:Int)]=.ok ((bt n).map fun (i:Nat)=>aZ (i:Int)):=by
 have e:DG [.int (n:Int)]=.ok (oP 0 (n:Int).toNat):=MK (by omega) (by omega)
 rw [e]
 unfold oP
 rw [fQ]
 exact congrArg R.ok (rJ fun a _=>congrArg aZ (Int.zero_add _))
def xi (x:Str):Bool:=decide (1<=x.cps.size) && decide (x.cps.size<=6/\x.cps.size≠5) && x.cps.toList.all fun c=>decide (97<=c) && decide (c<=122)
def qy (ns:List Int) (k:Int):Nat:=[1,2,3,6,1,4].getD (eG ns k 6).toNat 0
def zY (ns:List Int) (k:Int) (i:Nat):Nat:=97 + (eG ns (k + 1 + i) 26).toNat
def jJ (ns:List Int) (k:Int):Str:=⟨((bt (qy ns k)).map (zY ns k)).toArray⟩
theorem Fj (ns:List Int) (k:Int):1<=qy ns k/\(qy ns k<=6/\qy ns k≠5):=by
 have h0:=eF ns k 6 (by decide)
 have h1:=fe ns k 6 (by decide)
 unfold qy
 have:∀ j:_root_.Fin 6,1<=[1,2,3,6,1,4].getD j.val 0/\([1,2,3,6,1,4].getD j.val 0<=6/\[1,2,3,6,1,4].getD j.val 0≠5):=by decide
 exact this ⟨(eG ns k 6).toNat,by omega⟩
theorem M_ (ns:List Int) (k:Int) (i:Nat):97<=zY ns k i/\zY ns k i<=122:=by
 have h0:=eF ns (k + 1 + i) 26 (by decide)
 have h1:=fe ns (k + 1 + i) 26 (by decide)
 unfold zY
 omega
theorem BI (ns:List Int) (k:Int):xi (jJ ns k)=true:=by
 have ⟨h1,h2⟩:=Fj ns k
 unfold xi jJ
 simp only [aF,au,fO,aS,decide_eq_true_eq,dD]
 refine ⟨⟨h1,h2⟩,fun c hc=>?_⟩
 obtain ⟨i,_,rfl⟩:=List.mem_map.mp hc
 exact M_ ns k i
theorem Ko (j:Int) (h0:0<=j) (h1:j<26):b9 (.str "abcdefghijklmnopqrstuvwxyz") (.int j)=.ok (.str ⟨#[97 + j.toNat]⟩):=by
 have e:∀ x k,b9 (.str x) k=DF (.str x) k:=fun _ _=>rfl
 rw [e]
 unfold DF
 have hc:("abcdefghijklmnopqrstuvwxyz" : Str).cps.toList=(bt 26).map (97 + ·):=by decide +kernel
 have hl:("abcdefghijklmnopqrstuvwxyz" : Str).length<=1000:=by decide +kernel
 have hj:j.toNat<26:=by omega
 have hx:=rZ (xs:=(bt 26).map (97 + ·)) (j:=j.toNat) (v:=97 + j.toNat) (by rw [ay,kj hj];rfl)
 rw [dQ h0] at hx
 simp only [hl,if_true,hc,hx]
theorem N0 (j:Int) (h0:0<=j) (h1:j<6):b9 (.list [.int 1,.int 2,.int 3,.int 6,.int 1,.int 4]) (.int j)=.ok (.int (([1,2,3,6,1,4].getD j.toNat 0:Nat):Int)):=by
 obtain ⟨n,rfl⟩:=CL h0
 have hn:n<6:=by omega
 match n,hn with
 | 0,_=>rfl
 | 1,_=>rfl
 | 2,_=>rfl
 | 3,_=>rfl
 | 4,_=>rfl
 | 5,_=>rfl
theorem zZ (l:List Nat):∀ (acc:Str),l.foldl (fun (a:Str) c=>a++⟨#[c]⟩) acc=⟨(acc.cps.toList++l).toArray⟩:=by
 induction l with
 | nil=>intro acc;simp
 | cons c r ih =>
  intro acc
  rw [iQ,ih]
  show (⟨((acc.cps++#[c]).toList++r).toArray⟩:Str)=_
  simp
theorem GO:("" : Str).cps.toList=[]:=by decide +kernel
theorem Fk (ns:List Int) (k:Int) (hk:0<=k):jl [.list (ns.map .int),.int k]=.ok (.str (jJ ns k)):=by
 have h0:=eF ns k 6 (by decide)
 have h1:=fe ns k 6 (by decide)
 have ⟨w1,w2⟩:=Fj ns k
 unfold jl
 refine cz ?_
 unfold na bG
 walk_at "zz"
 rw [qv (ds:=(bt (qy ns k)).map fun (i:Nat)=>aZ i)]
 ·refine Fi (fun (i:Nat)=>aZ i) (fun (a:Str) i=>a++⟨#[zY ns k i]⟩) (fun bA a ρ=>a.length + bA.length<=900/\∃ z,ρ=[.shr (.list (ns.map .int)),.shr (.int k),.shr (.str a),z]) "" ?_ ⟨by rw [fO,show ("" : Str).length=0 by decide];omega,_,rfl⟩ ?_
  ·rintro i bA a ρ ⟨hl,z,rfl⟩
   simp only [bg] at hl
   refine ⟨_,[.shr (.list (ns.map .int)),.shr (.int k),.shr (.str (a++⟨#[zY ns k i]⟩)),.shr (.int i)],rfl,?_,?_,_,rfl⟩
   ·walk_at "zz"
    rw [eI ns _ 26 (by omega) (by decide)]
    walk_at "zz"
    rw [Ko _ (eF _ _ _ (by decide)) (fe _ _ _ (by decide))]
    walk_at "zz"
    have hz:a.length + (⟨#[97 + (eG ns (k + 1 + i) 26).toNat]⟩:Str).length<=1000:=by
     show a.length + 1<=1000
     omega
    rw [if_pos hz]
    walk_at "zz"
    rw [show 97 + (eG ns (k + 1 + i) 26).toNat=zY ns k i from rfl]
   ·show (a.cps++#[_]).size + bA.length<=900
    rw [Hy]
    show a.cps.size + 1 + bA.length<=900
    have:a.length=a.cps.size:=rfl
    omega
  ·rintro ρ' ⟨_,z,rfl⟩
   walk_at "zz"
   have:(bt (qy ns k)).foldl (fun (a:Str) i=>a++⟨#[zY ns k i]⟩) ""=jJ ns k:=by
    have:=zZ ((bt (qy ns k)).map (zY ns k)) ""
    rw [qp] at this
    rw [this,GO]
    unfold jJ
    rw [fJ]
   rw [this]
 ·walk_at "zz"
  rw [eI ns k 6 hk (by decide)]
  walk_at "zz"
  have et:=N0 (eG ns k 6) h0 h1
  have ew:[1,2,3,6,1,4].getD (eG ns k 6).toNat 0=qy ns k:=rfl
  rw [ew] at et
  rw [et]
  walk_at "zz"
  rw [nq (qy ns k) (by omega)]
def gO (l:List (Str×D)):List (D×D):=l.map fun p=>(.str p.1,p.2)
def qh (l:List (Str×D)) (x:Str) (d:D):List (Str×D):=if l.any (fun p=>decide (p.1=x)) then l.map (fun p=>if p.1=x then (p.1,d) else p) else l++[(x,d)]
theorem nr (x y:Str):bq (.str x) (.str y)=decide (x=y):=by
 show (x == y)=_
 rw [pq]
theorem Fm (l:List (Str×D)) (x:Str) (d:D):xC (gO l) (.str x) d=gO (qh l x d):=by
 unfold xC qh gO
 rw [CM]
 have e:((fun kv:D×D=>bq kv.1 (.str x))∘fun p:Str×D=>(ap p.1,p.2))=fun p=>decide (p.1=x):=by
  funext p
  exact nr p.1 x
 rw [e]
 split
 ·rw [bL,bL]
  apply rJ
  intro p _
  simp only [Function.comp,nr]
  by_cases h:p.1=x
  ·simp [h]
  ·simp [h]
 ·simp
theorem wH (l:List (Str×D)):gI (gO l)=true:=by
 unfold gI gO
 rw [uw,dD]
 intro p _
 rfl
theorem BJ (l:List (Str×D)) (x:Str) (d:D):(qh l x d).length<=l.length + 1:=by
 unfold qh
 split<;>simp
theorem yM (l:List (Str×D)) (x:Str) (d:D):(qh l x d).map (·.1)=if x∈l.map (·.1) then l.map (·.1) else l.map (·.1)++[x]:=by
 unfold qh
 have e:(l.any fun p=>decide (p.1=x))=decide (x∈l.map (·.1)):=by
  rw [gP]
  simp only [nP,decide_eq_true_eq,List.mem_map]
 rw [e]
 by_cases h:x∈l.map (·.1)
 ·rw [decide_eq_true h,if_pos rfl,if_pos h,bL]
  apply rJ
  intro p _
  by_cases hp:p.1=x<;>simp [hp]
 ·rw [decide_eq_false h,if_neg aL,if_neg h,bR]
  rfl
theorem Kp {Q:Str->D->Prop}{l:List (Str×D)}{x:Str}{d:D} (h:∀ p∈l,Q p.1 p.2) (hx:Q x d):∀ p∈qh l x d,Q p.1 p.2:=by
 unfold qh
 split
 ·intro p hp
  obtain ⟨p',hp',rfl⟩:=List.mem_map.mp hp
  by_cases e:p'.1=x
  ·rw [if_pos e];rw [e];exact hx
  ·rw [if_neg e];exact h p' hp'
 ·intro p hp
  rcases List.mem_append.mp hp with hp | hp
  ·exact h p hp
  ·rw [List.mem_singleton.mp hp];exact hx
theorem GP {l:List Str}{x:Str} (h:l.Nodup):(if x∈l then l else l++[x]).Nodup:=by
 by_cases hx:x∈l
 ·rw [if_pos hx];exact h
 ·rw [if_neg hx];exact EI h hx
theorem Ou {i:Nat}{gk g:aq->R D}{ρ:aq}{l:List (Str×D)}{x:Str}{d:D} (hi:ρ[i]?=some (Sl.own (.dict (gO l)))) (hg:g ρ=.ok d) (hk:gk ρ=.ok (.str x)) (hl:l.length<1000):zP i gk g ρ=.ok (.nx (ρ.set i (.own (.dict (gO (qh l x d)))))):=by
 have hl':(gO l).length<1000:=by unfold gO;rw [au];exact hl
 have e:zP i gk g ρ=(g ρ).bind fun d=>(gk ρ).bind fun k=>match oQ k with
  | some _=>if (gO l).length<1000/\gI (gO l)=true then .ok (.nx (ρ.set i (.own (.dict (xC (gO l) k d))))) else .no
  | none=>.no:=by
  unfold zP
  simp only [hi]
  try rfl
 rw [e,hg,zR,hk,zR]
 simp only [oQ,if_pos (vC hl' (wH l)),Fm]
theorem wI (l:List (Str×D)):jt (.dict (gO l))=.ok (.list ((l.map (·.1)).map .str)):=by
 have e:∀ kvs,jt (.dict kvs)=if gI kvs=true then .ok (.list (kvs.map (·.1))) else .no:=fun _=>rfl
 rw [e,if_pos (wH l)]
 unfold gO
 rw [bL,bL]
 rfl
theorem sorted_strs (ss:List Str) (h:ss.length<64):pC (.list (ss.map .str))=.ok (.list ((ja ss).map .str)):=by
 have e:∀ ds,pC (.list ds)=match fZ ds with
  | some ss=>if ss.length<64 then .ok (.list ((ja ss).map .str)) else .no
  | none=>.no:=fun _=>rfl
 rw [e,strsOf_map]
 simp only [if_pos h]
theorem hW (ds:List D):ig (.list ds)=.ok (.tuple ds):=id rfl
def z_ (ns:List Int) (k:Int) (n:Nat):List Str:=(bt n).map fun (i:Nat)=>jJ ns (k + 1 + 8 * (i:Int))
def A6 (ns:List Int) (k m:Int):List Str:=ja (eC [] (z_ ns k (eG ns k (m + 1)).toNat))
structure N1 (fs:List Str) (n:Nat):Prop where
 ok:∀ x∈fs,xi x=true
 up:fs.Pairwise fun a b=>qe a b=true
 len:fs.length<=n
theorem Kq {α:Type}{a b:List α} (h:a.Perm b):a.length=b.length:=h.length_eq
theorem DW (ns:List Int) (k m:Int) (hm:0<=m):N1 (A6 ns k m) m.toNat:=by
 have h0:=eF ns k (m + 1) (by omega)
 have h1:=fe ns k (m + 1) (by omega)
 have hp:=iF (eC [] (z_ ns k (eG ns k (m + 1)).toNat))
 refine ⟨fun x hx=>?_,?_,?_⟩
 ·have hx:=hp.mem_iff.mp hx
  rw [mB] at hx
  rcases hx with hx | hx
  ·cases hx
  ·obtain ⟨i,_,rfl⟩:=List.mem_map.mp hx
   exact BI _ _
 ·exact yq (sk _) (hp.nodup_iff.mpr (li _ [] l9))
 ·unfold A6
  rw [Kq hp]
  have:=jU (z_ ns k (eG ns k (m + 1)).toNat) []
  unfold z_ at this ⊢
  simp at this
  omega
theorem GQ (f:Nat->Str) (l:List Nat):∀ acc:List (Str×D),((l.foldl (fun (a:List (Str×D)) i=>qh a (f i) (.bool true)) acc).map (·.1))=eC (acc.map (·.1)) (l.map f):=by
 induction l with
 | nil=>intro acc;rfl
 | cons i r ih =>
  intro acc
  rw [iQ,ih,aK,yM]
  rfl
theorem Kr (ns:List Int) (k m:Int) (hk:0<=k) (hm:0<=m) (hm2:m<=20):lC [.list (ns.map .int),.int k,.int m]=.ok (.tuple ((A6 ns k m).map .str)):=by
 have h0:=eF ns k (m + 1) (by omega)
 have h1:=fe ns k (m + 1) (by omega)
 unfold lC
 refine cz ?_
 unfold lB bG
 walk_at "zz"
 rw [qv (ds:=(bt (eG ns k (m + 1)).toNat).map fun (i:Nat)=>aZ i)]
 ·refine Fi (fun (i:Nat)=>aZ i) (fun (a:List (Str×D)) i=>qh a (jJ ns (k + 1 + 8 * (i:Int))) (.bool true)) (fun bA a ρ=>a.length + bA.length<=60/\∃ z,ρ=[.shr (.list (ns.map .int)),.shr (.int k),.shr (.int m),.own (.dict (gO a)),z]) [] ?_ ⟨by simp;omega,_,rfl⟩ ?_
  ·rintro i bA a ρ ⟨hl,z,rfl⟩
   simp only [bg] at hl
   refine ⟨_,[.shr (.list (ns.map .int)),.shr (.int k),.shr (.int m),.own (.dict (gO (qh a (jJ ns (k + 1 + 8 * (i:Int))) (.bool true)))),.shr (.int i)],rfl,?_,?_,_,rfl⟩
   ·refine (Ou (l:=a) (x:=jJ ns (k + 1 + 8 * (i:Int))) (d:=.bool true) rfl rfl ?_ (by omega)).trans rfl
    walk_at "zz"
    rw [pM (by decide) (by decide)]
    walk_at "zz"
    rw [Fk ns _ (by omega)]
   ·have:=BJ a (jJ ns (k + 1 + 8 * (i:Int))) (.bool true)
    omega
  ·rintro ρ' ⟨hl,z,rfl⟩
   simp only [dR] at hl
   walk_at "zz"
   rw [wI]
   walk_at "zz"
   have ek:=GQ (fun i=>jJ ns (k + 1 + 8 * (i:Int))) (bt (eG ns k (m + 1)).toNat) []
   rw [ek,sorted_strs]
   ·walk_at "zz"
    rw [hW]
    walk_at "zz"
    rfl
   ·rw [<- ek,au];omega
 ·walk_at "zz"
  rw [eI ns k (m + 1) hk (by omega)]
  walk_at "zz"
  have:=nq (eG ns k (m + 1)).toNat (by omega)
  rw [dQ h0] at this
  exact this
structure cn where
 name:Str
 needs:List Str
 bars:List Str
 makes:List Str
 ends:List Str
 price:Int
abbrev cm (xs:List Str):D:=.tuple (xs.map .str)
def bN (e:cn):D:=.tuple [.str e.name,cm e.needs,cm e.bars,cm e.makes,cm e.ends,.int e.price]
structure GR (fs xs:List Str):Prop where
 up:xs.Pairwise fun a b=>qe a b=true
 mem:∀ x∈xs,x∈fs
structure sM (fs:List Str) (e:cn):Prop where
 name:xi e.name=true
 needs:GR fs e.needs
 bars:GR fs e.bars
 makes:GR fs e.makes
 ends:GR fs e.ends
 nb:∀ x∈e.needs,x∉e.bars
 me:∀ x∈e.makes,x∉e.ends
 p0:0<=e.price
 p9:e.price<=9
def Fo (xs:List Str):List Str:=ja (eC [] xs)
theorem pO {xs:List Str}{x:Str}:x∈Fo xs↔x∈xs:=by
 unfold Fo
 rw [(iF _).mem_iff,mB]
 simp
theorem PZ (xs:List Str):(Fo xs).Pairwise fun a b=>qe a b=true:=yq (sk _) ((iF _).nodup_iff.mpr (li _ [] l9))
theorem vn {fs xs:List Str} (h:∀ x∈xs,x∈fs):GR fs (Fo xs):=⟨PZ xs,fun x hx=>h x (pO.mp hx)⟩
theorem A7 (fs:List Str) (j:Int) (h0:0<=j) (h1:j<fs.length):∃ x,x∈fs/\b9 (cm fs) (.int j)=.ok (.str x):=by
 have hj:j.toNat<fs.length:=by omega
 refine ⟨fs[j.toNat],ij hj,?_⟩
 have e:∀ xs k,b9 (.tuple xs) k=DF (.tuple xs) k:=fun _ _=>rfl
 rw [e]
 have hx:=rZ (xs:=fs.map ap) (j:=j.toNat) (v:=.str fs[j.toNat]) (by rw [ay,aC hj];rfl)
 rw [dQ h0] at hx
 unfold DF
 simp only [hx]
theorem wJ (x:Str):∀ ys:List Str,((ys.map ap).any fun y=>bq y (.str x))=decide (x∈ys)
 | []=>rfl
 | y::r=>by
  rw [aK,eT,wJ x r,nr]
  by_cases h:y=x
  ·subst h;simp
  ·simp [h,eA h]
theorem wK (ys:List Str):(ys.map ap).all jS=true:=by
 rw [uw,dD];intro _ _;rfl
theorem N5 (neg:Bool) (x:Str) (ys:List Str):Gs neg (.str x) (.list (ys.map .str))=.ok (.bool (if neg then !decide (x∈ys) else decide (x∈ys))):=by
 have e:Gs neg (.str x) (.list (ys.map .str))=if jS (.str x) && (ys.map ap).all jS then .ok (.bool (if neg then !((ys.map ap).any fun y=>bq y (.str x)) else (ys.map ap).any fun y=>bq y (.str x))) else .no:=rfl
 rw [e,wK,wJ]
 rfl
theorem A8 (neg:Bool) (x:Str) (ys:List Str):Gs neg (.str x) (cm ys)=.ok (.bool (if neg then !decide (x∈ys) else decide (x∈ys))):=by
 have e:Gs neg (.str x) (cm ys)=if jS (.str x) && (ys.map ap).all jS then .ok (.bool (if neg then !((ys.map ap).any fun y=>bq y (.str x)) else (ys.map ap).any fun y=>bq y (.str x))) else .no:=rfl
 rw [e,wK,wJ]
 rfl
theorem kO (neg:Bool) (a b:Int):kz neg (.int a) (.int b)=.ok (.bool (if neg then !decide (a=b) else decide (a=b))):=by
 have e:kz neg (.int a) (.int b)=.ok (.bool (if neg then !(a == b) else (a == b))):=rfl
 rw [e,pq]
theorem pP {x:Str} (h:xi x=true):(ap x).canLay0=true:=by
 unfold xi at h
 simp only [aS,dD,decide_eq_true_eq] at h
 show PyData.strOk x=true
 unfold PyData.strOk
 rw [<- uX,dD]
 intro c hc
 have:=h.2 c hc
 exact decide_eq_true (by omega)
theorem A9 (neg:Bool) {x y:Str} (hx:xi x=true) (hy:xi y=true):kz neg (.str x) (.str y)=.ok (.bool (if neg then !decide (x=y) else decide (x=y))):=by
 unfold kz
 rw [pP hx,pP hy,nr]
 rfl
theorem DX (ss:List Str) (h:ss.length<60):wv (.list (ss.map .str))=.ok (eC [] ss):=by
 have e:∀ ds,wv (.list ds)=match fZ ds with
  | some ss=>if ss.length<60 then .ok (eC [] ss) else .no
  | none=>.no:=fun _=>rfl
 rw [e,strsOf_map]
 simp only [if_pos h]
theorem N6 (g:aq->R D) (s:Sl) (ρ:aq):ub g (s::ρ)=(g (s::ρ)).bind wv:=id rfl
def Ov:List Str->R D:=fun ss=>if ss.length<64 then .ok (.list ((ja ss).map .str)) else .no
theorem GS (g:aq->R (List Str)) (s:Sl) (ρ:aq):mE g (s::ρ)=(g (s::ρ)).bind Ov:=id rfl
theorem Ks (ss:List Str) (h:ss.length<64):Ov ss=.ok (.list ((ja ss).map .str)):=if_pos h
theorem GT (ss:List Str) (h:ss.length<60) (ρ:aq):(cf (J.ac (mE (ub (rB 0))) J.aH) (ia ig)) (.shr (.list (ss.map .str))::ρ)=.ok (cm (Fo ss)):=by
 walk_at "zz"
 rw [GS,N6]
 walk_at "zz"
 rw [DX ss h]
 walk_at "zz"
 rw [Ks _ (by have:=jU ss [];simp at this;omega)]
 walk_at "zz"
 rw [hW]
 rfl
theorem BK {ρ:aq}{gt:aq->R Bool}{x:Str}{b:Bool}{s:Sl}{r:aq} (hρ:ρ=s::r) (h:gt (.shr (.str x)::r)=.ok b):gy (ib 1 ρ gt (rS 0)) [.str x]=.ok ((if b then [x] else []).map .str):=by
 subst hρ
 have e:=zS (ρ:=s::r) (gt:=gt) (ge:=(rS 0)) (d:=.str x) (y:=.str x) (b:=b) h fun _=>rfl
 unfold gy
 rw [e,zR]
 unfold gy
 rw [zR]
 cases b<;>rfl
theorem P_ (p q r t:List Str) (hp:p.length<60) (hq:q.length<60) (hr:r.length<60) (ht:t.length<60):gy (ib 1 [Sl.no] kT (cf (J.ac (mE (ub (rB 0))) J.aH) (ia ig))) [.list (p.map .str),.list (q.map .str),.list (r.map .str),.list (t.map .str)]=.ok [cm (Fo p),cm (Fo q),cm (Fo r),cm (Fo t)] :=
 cO _ (fun ss:List Str=>bM (ss.map .str)) (fun ss=>cm (Fo ss)) [p,q,r,t] fun ss hs=>eg rfl (GT ss (by simp at hs;rcases hs with h | h | h | h<;>(rw [h];assumption)) _)
theorem Ow (a b c d:D):b9 (.list [a,b,c,d]) (.int 0)=.ok a:=id rfl
theorem Ox (a b c d:D):b9 (.list [a,b,c,d]) (.int 1)=.ok b:=id rfl
theorem Oy (a b c d:D):b9 (.list [a,b,c,d]) (.int 2)=.ok c:=id rfl
theorem Oz (a b c d:D):b9 (.list [a,b,c,d]) (.int 3)=.ok d:=id rfl
theorem N7 (ns:List Int) (k:Int) (hk:0<=k) (fs:List Str) (hf:∀ x∈fs,xi x=true) (h0:0<fs.length) (nm:Str) (hn:xi nm=true) :
  ∃ e,ni [.list (ns.map .int),.int k,cm fs,.str nm]=.ok (bN e)/\sM fs e/\e.name=nm:=by
 have hl:(0:Int)<(fs.length:Int):=by omega
 obtain ⟨a,ha,ea⟩:=A7 fs (eG ns (k + 10) fs.length) (eF _ _ _ hl) (fe _ _ _ hl)
 obtain ⟨b,hb,eb⟩:=A7 fs (eG ns (k + 11) fs.length) (eF _ _ _ hl) (fe _ _ _ hl)
 obtain ⟨c,hc,ec⟩:=A7 fs (eG ns (k + 12) fs.length) (eF _ _ _ hl) (fe _ _ _ hl)
 have m13a:=eF ns (k + 13) 3 (by decide)
 have m13b:=fe ns (k + 13) 3 (by decide)
 obtain ⟨nd,hnd,hnl,end_⟩:∃ nd:List Str,(∀ x∈nd,x∈fs)/\nd.length<60/\yx (.list [.str a,.str b]) none (some (1 + eG ns (k + 13) 3 / 2))=.ok (.list (nd.map .str)):=by
  by_cases h2:eG ns (k + 13) 3=2
  ·exact ⟨[a,b],by simp [ha,hb],by simp,by rw [h2];rfl⟩
  ·have:eG ns (k + 13) 3 / 2=0:=by omega
   exact ⟨[a],by simp [ha],by simp,by rw [this];rfl⟩
 let bb:Bool:=!decide (c∈nd) && decide (eG ns (k + 14) 4=0)
 let be:Bool:=!decide (a=c) && decide (eG ns (k + 15) 3=0)
 have p0:=eF ns k 5 (by decide)
 have p1:=fe ns k 5 (by decide)
 refine ⟨⟨nm,Fo nd,Fo (if bb then [c] else []),Fo [c],Fo (if be then [a] else []),eG ns k 5⟩,?_,⟨hn,vn hnd,vn ?_,vn (by simp [hc]),vn ?_,fun x h1 h2=>?_,fun x h1 h2=>?_,p0,by show eG ns k 5<=9;omega⟩,rfl⟩
 ·unfold ni
  refine cz ?_
  unfold nh bG
  walk_at "zz"
  rw [eI ns _ _ (by omega) hl]
  walk_at "zz"
  rw [ea]
  walk_at "zz"
  rw [eI ns (k + 11) _ (by omega) hl]
  walk_at "zz"
  rw [eb]
  walk_at "zz"
  rw [eI ns (k + 12) _ (by omega) hl]
  walk_at "zz"
  rw [ec]
  walk_at "zz"
  rw [eI ns (k + 13) 3 (by omega) (by decide)]
  walk_at "zz"
  simp only [D6,decide_true,rV,if_true]
  walk_at "zz"
  rw [end_]
  walk_at "zz"
  rw [BK (b:=bb) rfl]
  ·walk_at "zz"
   rw [BK (b:=be) rfl]
   ·walk_at "zz"
    simp only [PF]
    rw [DP rfl,DP rfl]
    walk_at "zz"
    have pk:=P_ nd (if bb then [c] else []) [c] (if be then [a] else []) hnl (by cases bb<;>simp) (by simp) (by cases be<;>simp)
    rw [show ([c].map ap)=[ap c] from rfl] at pk
    rw [pk]
    walk_at "zz"
    rw [Ow]
    walk_at "zz"
    rw [Ox]
    walk_at "zz"
    rw [Oy]
    walk_at "zz"
    rw [Oz]
    walk_at "zz"
    rw [eI ns k 5 hk (by decide)]
    walk_at "zz"
    rfl
   ·walk_at "zz"
    rw [A9 true (hf a ha) (hf c hc)]
    walk_at "zz"
    by_cases hac:a=c
    ·simp only [be,hac,decide_true,mR,xU,if_true,cond_false]
    ·simp only [be,hac,decide_false,j9,AD,if_true,cond_true]
     rw [eI ns (k + 15) 3 (by omega) (by decide)]
     walk_at "zz"
     rw [kO]
     walk_at "zz"
  ·walk_at "zz"
   rw [N5]
   walk_at "zz"
   by_cases hcn:c∈nd
   ·simp only [bb,hcn,decide_true,mR,xU,if_true,cond_false]
   ·simp only [bb,hcn,decide_false,j9,AD,if_true,cond_true]
    rw [eI ns (k + 14) 4 (by omega) (by decide)]
    walk_at "zz"
    rw [kO]
    walk_at "zz"
 ·intro x hx
  cases hbb:bb
  ·simp [hbb] at hx
  ·simp [hbb] at hx;rw [hx];exact hc
 ·intro x hx
  cases hbe:be
  ·simp [hbe] at hx
  ·simp [hbe] at hx;rw [hx];exact ha
 ·have h2:x∈(if bb then [c] else []):=pO.mp h2
  cases hbb:bb
  ·simp [hbb] at h2
  ·simp [hbb] at h2
   subst h2
   have:(!decide (x∈nd))=true:=by
    have:(!decide (x∈nd) && decide (eG ns (k + 14) 4=0))=true:=hbb
    simp only [aS] at this
    exact this.1
   simp at this
   exact this (pO.mp h1)
 ·cases hbe:be
  ·have h2:x∈(if be then [a] else []):=pO.mp h2
   simp [hbe] at h2
  ·skip
   have h4:x∈[c]:=pO.mp h1
   have h5:x∈(if be then [a] else []):=pO.mp h2
   simp only [ej] at h4
   simp only [hbe,if_true,ej] at h5
   have:(!decide (a=c) && decide (eG ns (k + 15) 3=0))=true:=hbe
   simp only [aS] at this
   have h3:=this.1
   simp at h3
   exact h3 (h5.symm.trans h4)
theorem wL {i:Nat}{gi g:aq->R D}{ρ:aq}{dss:List (List D)}{ds:List D}{d:D}{j:Int} (hi:ρ[i]?=some (Sl.ow2 dss)) (hj:gi ρ=.ok (.int j)) (h0:0<=j) (hd:dss[j.toNat]?=some ds) (hg:g ρ=.ok d) (hl:ds.length<1000):jb i gi g ρ=.ok (.nx (ρ.set i (.ow2 (dss.set j.toNat (ds++[d]))))):=by
 unfold jb
 simp only [hi,hj,bind_ok,if_pos h0,hd,hg,if_pos hl]
def lF (n:Nat):List Str->List (Nat×Str)
 | []=>[]
 | x::r=>(n,x)::lF (n + 1) r
abbrev cI (p:Nat×Str):D:=.tuple [.int (p.1:Nat),.str p.2]
theorem vo:∀ (xs:List Str) (n:Nat),gS n (xs.map .str)=(lF n xs).map cI
 | [],_=>rfl
 | x::r,n=>by
  show dg [.int n,.str x]::gS (n + 1) (r.map .str)=cI (n,x)::(lF (n + 1) r).map cI
  rw [vo r (n + 1)]
theorem pQ:∀ (xs:List Str) (n:Nat),(lF n xs).map (·.2)=xs
 | [],_=>rfl
 | x::r,n=>by
  show x::(lF (n + 1) r).map (·.2)=x::r
  rw [pQ r]
theorem BL:∀ (fs:List Str),(∀ x∈fs,xi x=true)->cF (fs.map .str)=true
 | [],_=>rfl
 | x::r,h=>by
  have h1:=pP (h x al)
  have h2:=BL r fun y hy=>h y (ai _ hy)
  simp only [aK,cF,h1,h2,rV]
theorem Fp (fs:List Str) (hf:∀ x∈fs,xi x=true):kz true (cm fs) (.tuple [])=.ok (.bool (!decide (fs=[]))):=by
 unfold kz
 have h1:(cm fs).canLay0=true:=by simp only [e_];exact BL fs hf
 have h2:(dg []).canLay0=true:=rfl
 have h3:min (cm fs).depth (dg []).depth<=60:=bE (nU _ _) (by decide)
 have h4:bq (cm fs) (.tuple [])=decide (fs=[]):=by
  cases fs with
  | nil=>rfl
  | cons x r=>simp [bq,jz]
 rw [h1,h2,decide_eq_true h3,h4]
 rfl
structure md (pre p q:List Str):Prop where
 sp:p.Sublist pre
 sq:q.Sublist pre
 d:∀ x∈p,x∉q
theorem md.skip {pre p q:List Str} (h:md pre p q) (x:Str):md (pre++[x]) p q:=⟨h.sp.trans (iL _ _),h.sq.trans (iL _ _),h.d⟩
theorem md.left {pre p q:List Str} (h:md pre p q) (x:Str) (hx:x∉pre):md (pre++[x]) (p++[x]) q:=⟨h.sp.append (ef _),h.sq.trans (iL _ _),fun y hy hq=>by
 rcases List.mem_append.mp hy with h1 | h1
 ·exact h.d y h1 hq
 ·rw [List.mem_singleton.mp h1] at hq
  exact hx (h.sq.subset hq)⟩
theorem md.right {pre p q:List Str} (h:md pre p q) (x:Str) (hx:x∉pre):md (pre++[x]) p (q++[x]):=⟨h.sp.trans (iL _ _),h.sq.append (ef _),fun y hy hq=>by
 rcases List.mem_append.mp hq with h1 | h1
 ·exact h.d y hy h1
 ·rw [List.mem_singleton.mp h1] at hy
  exact hx (h.sp.subset hy)⟩
abbrev o4 (p q r t:List Str):Sl:=.ow2 [p.map .str,q.map .str,r.map .str,t.map .str]
theorem RI (j:Int) (h0:0<=j) (h1:j<3):∃ b:Bool,b9 (.list [.int 0,.int 0,.int 1]) (.int j)=.ok (.int (if b then 0 else 1)):=by
 have:j=0\/j=1\/j=2:=by omega
 rcases this with h | h | h<;>subst h
 ·exact ⟨true,rfl⟩
 ·exact ⟨true,rfl⟩
 ·exact ⟨false,rfl⟩
theorem RJ (j:Int) (h0:0<=j) (h1:j<4):∃ b:Bool,b9 (.list [.int 2,.int 2,.int 3,.int 3]) (.int j)=.ok (.int (if b then 2 else 3)):=by
 have:j=0\/j=1\/j=2\/j=3:=by omega
 rcases this with h | h | h | h<;>subst h
 ·exact ⟨true,rfl⟩
 ·exact ⟨true,rfl⟩
 ·exact ⟨false,rfl⟩
 ·exact ⟨false,rfl⟩
theorem sO (p:List Str) (x:Str):(p++[x]).map ap=p.map .str++[.str x]:=by simp
theorem Kt {a b c d e f:Sl}{pre p q r t:List Str}{x:Str}{j:Int} (hp:md pre p q) (hx:x∉pre) (hl:pre.length<900) (h0:0<=j) :
  ∃ p' q',md (pre++[x]) p' q'/\fE (gU (g2 (rB 7) (kI 3) DC)) (jb 4 (g2 (dI (J.ac (kI 0) (J.ac (kI 0) (J.ac (kI 1) J.aH))) .list) (rB 7) b9) (rS 6)) (fun ρ=>.ok (.nx ρ)) [a,b,c,d,o4 p q r t,e,.shr (.str x),.shr (.int j),f]=.ok (.nx [a,b,c,d,o4 p' q' r t,e,.shr (.str x),.shr (.int j),f]):=by
 by_cases h3:j<3
 ·obtain ⟨bo,e3⟩:=RI j h0 h3
  have lp:p.length<1000:=by have:=hp.sp.length_le;omega
  have lq:q.length<1000:=by have:=hp.sq.length_le;omega
  cases bo
  ·refine ⟨p,q++[x],hp.right x hx,?_⟩
   walk_at "zz"
   rw [decide_eq_true h3]
   walk_at "zz"
   simp only [o4,sO]
   refine (wL (j:=1) (ds:=q.map .str) (d:=.str x) rfl ?_ (by decide) rfl rfl (by rw [au];exact lq)).trans rfl
   walk_at "zz"
   rw [e3]
   rfl
  ·refine ⟨p++[x],q,hp.left x hx,?_⟩
   walk_at "zz"
   rw [decide_eq_true h3]
   walk_at "zz"
   simp only [o4,sO]
   refine (wL (j:=0) (ds:=p.map .str) (d:=.str x) rfl ?_ (by decide) rfl rfl (by rw [au];exact lp)).trans rfl
   walk_at "zz"
   rw [e3]
   rfl
 ·refine ⟨p,q,hp.skip x,?_⟩
  walk_at "zz"
  rw [decide_eq_false h3]
  walk_at "zz"
theorem Ku {a b c d e f:Sl}{pre p q r t:List Str}{x:Str}{j:Int} (hp:md pre r t) (hx:x∉pre) (hl:pre.length<900) (h0:0<=j) :
  ∃ r' t',md (pre++[x]) r' t'/\fE (gU (g2 (rB 7) (kI 4) DC)) (jb 4 (g2 (dI (J.ac (kI 2) (J.ac (kI 2) (J.ac (kI 3) (J.ac (kI 3) J.aH)))) .list) (rB 7) b9) (rS 6)) (fun ρ=>.ok (.nx ρ)) [a,b,c,d,o4 p q r t,e,.shr (.str x),.shr (.int j),f]=.ok (.nx [a,b,c,d,o4 p q r' t',e,.shr (.str x),.shr (.int j),f]):=by
 by_cases h3:j<4
 ·obtain ⟨bo,e3⟩:=RJ j h0 h3
  have lp:r.length<1000:=by have:=hp.sp.length_le;omega
  have lq:t.length<1000:=by have:=hp.sq.length_le;omega
  cases bo
  ·refine ⟨r,t++[x],hp.right x hx,?_⟩
   walk_at "zz"
   rw [decide_eq_true h3]
   walk_at "zz"
   simp only [o4,sO]
   refine (wL (j:=3) (ds:=t.map .str) (d:=.str x) rfl ?_ (by decide) rfl rfl (by rw [au];exact lq)).trans rfl
   walk_at "zz"
   rw [e3]
   rfl
  ·refine ⟨r++[x],t,hp.left x hx,?_⟩
   walk_at "zz"
   rw [decide_eq_true h3]
   walk_at "zz"
   simp only [o4,sO]
   refine (wL (j:=2) (ds:=r.map .str) (d:=.str x) rfl ?_ (by decide) rfl rfl (by rw [au];exact lp)).trans rfl
   walk_at "zz"
   rw [e3]
   rfl
 ·refine ⟨r,t,hp.skip x,?_⟩
  walk_at "zz"
  rw [decide_eq_false h3]
  walk_at "zz"
theorem RK (i:Nat) (ρ:aq):MD i ρ=.ok (.nx ((clear2 ρ).set i (.ow2 [[],[],[],[]]))):=id rfl
theorem md.sub {fs p q:List Str} (up:fs.Pairwise fun a b=>qe a b=true) (h:md fs p q):GR fs p/\GR fs q:=⟨⟨up.sublist h.sp,fun x hx=>h.sp.subset hx⟩,⟨up.sublist h.sq,fun x hx=>h.sq.subset hx⟩⟩
theorem Kv (p:List Str) (ρ:aq):(cf (J.ac (rB 0) J.aH) (ia ig)) (.shr (.list (p.map .str))::ρ)=.ok (cm p):=by
 walk_at "zz"
 rw [hW]
theorem RL (p q r t:List Str):gy (ib 1 [Sl.no] kT (cf (J.ac (rB 0) J.aH) (ia ig))) [.list (p.map .str),.list (q.map .str),.list (r.map .str),.list (t.map .str)]=.ok [cm p,cm q,cm r,cm t] :=
 cO _ (fun ss:List Str=>bM (ss.map .str)) (fun ss=>cm ss) [p,q,r,t] fun ss hs=>eg rfl (Kv ss _)
theorem GU (ns:List Int) (k:Int) (hk:0<=k) (fs:List Str) (hf:∀ x∈fs,xi x=true) (up:fs.Pairwise fun a b=>qe a b=true) (nd:fs.Nodup) (hl:fs.length<=6) (nm:Str) (hn:xi nm=true) :
  ∃ e,i5 [.list (ns.map .int),.int k,cm fs,.str nm]=.ok (bN e)/\sM fs e/\e.name=nm:=by
 have p0:=eF ns k 5 (by decide)
 have p1:=fe ns k 5 (by decide)
 have go:∀ ρ:aq,ρ=[.shr (.list (ns.map .int)),.shr (.int k),.shr (cm fs),.shr (.str nm),.no,.no,.no,.no,.no]->(!decide (fs=[]) && decide (eG ns 97 2=0))=false->∃ e,i4 ρ=.ok (.rt (bN e))/\sM fs e/\e.name=nm:=by
  rintro ρ rfl hc
  obtain ⟨ρ',h1,p,q,r,t,h2,h3,h4⟩:∃ ρ',(nY (DH (J.ac (rS 2) J.aH)) (jD 2 (bZ (bF 5) (bZ (bF 6) jX))) (bf (ir 7 (f9 3 ba (J.ac (rS 0) (J.ac (g2 (g2 (rB 1) (kI 10) cR) (rB 5) cR) (J.ac (kI 8) J.aH))))) (bf (fE (gU (g2 (rB 7) (kI 3) DC)) (jb 4 (g2 (dI (J.ac (kI 0) (J.ac (kI 0) (J.ac (kI 1) J.aH))) .list) (rB 7) b9) (rS 6)) (fun ρ=>.ok (.nx ρ))) (bf (ir 7 (f9 3 ba (J.ac (rS 0) (J.ac (g2 (g2 (rB 1) (kI 20) cR) (rB 5) cR) (J.ac (kI 8) J.aH))))) (fE (gU (g2 (rB 7) (kI 4) DC)) (jb 4 (g2 (dI (J.ac (kI 2) (J.ac (kI 2) (J.ac (kI 3) (J.ac (kI 3) J.aH)))) .list) (rB 7) b9) (rS 6)) (fun ρ=>.ok (.nx ρ))))))) [.shr (.list (ns.map .int)),.shr (.int k),.shr (cm fs),.shr (.str nm),o4 [] [] [] [],.no,.no,.no,.no]=.ok (.nx ρ')/\∃ p q r t,md fs p q/\md fs r t/\∃ z5 z6 z7,ρ'=[.shr (.list (ns.map .int)),.shr (.int k),.shr (cm fs),.shr (.str nm),o4 p q r t,z5,z6,z7,.no]:=by
   rw [qv (ds:=(lF 0 fs).map cI)]
   ·have H:=oV cI (fun (a:Unit) (_:Nat×Str)=>a) (fun bA _ ρ=>∃ pre,pre++bA.map (·.2)=fs/\∃ p q r t,md pre p q/\md pre r t/\∃ z5 z6 z7,ρ=[.shr (.list (ns.map .int)),.shr (.int k),.shr (cm fs),.shr (.str nm),o4 p q r t,z5,z6,z7,.no]) (kt:=jD 2 (bZ (bF 5) (bZ (bF 6) jX))) (gb:=(bf (ir 7 (f9 3 ba (J.ac (rS 0) (J.ac (g2 (g2 (rB 1) (kI 10) cR) (rB 5) cR) (J.ac (kI 8) J.aH))))) (bf (fE (gU (g2 (rB 7) (kI 3) DC)) (jb 4 (g2 (dI (J.ac (kI 0) (J.ac (kI 0) (J.ac (kI 1) J.aH))) .list) (rB 7) b9) (rS 6)) (fun ρ=>.ok (.nx ρ))) (bf (ir 7 (f9 3 ba (J.ac (rS 0) (J.ac (g2 (g2 (rB 1) (kI 20) cR) (rB 5) cR) (J.ac (kI 8) J.aH))))) (fE (gU (g2 (rB 7) (kI 4) DC)) (jb 4 (g2 (dI (J.ac (kI 2) (J.ac (kI 2) (J.ac (kI 3) (J.ac (kI 3) J.aH)))) .list) (rB 7) b9) (rS 6)) (fun ρ=>.ok (.nx ρ)))))))
    obtain ⟨ρ',h1,pre,h2,p,q,r,t,h3,h4,h5⟩:=H (by
     rintro ⟨i,x⟩ bA _ ρ ⟨pre,h2,p,q,r,t,h3,h4,z5,z6,z7,rfl⟩
     have hx:x∉pre:=by
      rw [<- h2,aK] at nd
      have:=(List.nodup_append.mp nd).2.2
      intro hx
      exact this x hx x al rfl
     have hpl:pre.length<900:=by
      have:=congrArg ql h2
      rw [aR] at this
      omega
     obtain ⟨p',q',k1,k2⟩:=Kt (a:=.shr (.list (ns.map .int))) (b:=.shr (.int k)) (c:=.shr (cm fs)) (d:=.shr (.str nm)) (e:=.shr (.int (i:Nat))) (f:=.no) (r:=r) (t:=t) (j:=eG ns (k + 10 + i) 8) h3 hx hpl (eF _ _ _ (by decide))
     obtain ⟨r',t',k3,k4⟩:=Ku (a:=.shr (.list (ns.map .int))) (b:=.shr (.int k)) (c:=.shr (cm fs)) (d:=.shr (.str nm)) (e:=.shr (.int (i:Nat))) (f:=.no) (p:=p') (q:=q') (j:=eG ns (k + 20 + i) 8) h4 hx hpl (eF _ _ _ (by decide))
     refine ⟨[.shr (.list (ns.map .int)),.shr (.int k),.shr (cm fs),.shr (.str nm),o4 p q r t,.shr (.int (i:Nat)),.shr (.str x),z7,.no],[.shr (.list (ns.map .int)),.shr (.int k),.shr (cm fs),.shr (.str nm),o4 p' q' r' t',.shr (.int (i:Nat)),.shr (.str x),.shr (.int (eG ns (k + 20 + i) 8)),.no],rfl,?_,pre++[x],?_,p',q',r',t',k1,k3,_,_,_,rfl⟩
     ·rw [Br,Jq]
      walk_at "yy"
      rw [eI ns _ 8 (by omega) (by decide)]
      walk_at "yy"
      rw [k2]
      walk_at "yy"
      rw [eI ns _ 8 (by omega) (by decide)]
      walk_at "yy"
      rw [k4]
     ·rw [<- h2];simp) (lF 0 fs) () [.shr (.list (ns.map .int)),.shr (.int k),.shr (cm fs),.shr (.str nm),o4 [] [] [] [],.no,.no,.no,.no] ⟨[],by rw [pQ];rfl,[],[],[],[],⟨ef _,ef _,fun _ h=>nomatch h⟩,⟨ef _,ef _,fun _ h=>nomatch h⟩,_,_,_,rfl⟩
    refine ⟨ρ',h1,p,q,r,t,?_,?_,h5⟩
    ·simp only [dL,bH] at h2
     rw [<- h2];exact h3
    ·simp only [dL,bH] at h2
     rw [<- h2];exact h4
   ·walk_at "zz"
    rw [vo]
  obtain ⟨s1,s2⟩:=h2.sub up
  obtain ⟨s3,s4⟩:=h3.sub up
  obtain ⟨z5,z6,z7,rfl⟩:=h4
  refine ⟨⟨nm,p,q,r,t,eG ns k 5⟩,?_,⟨hn,s1,s2,s3,s4,h2.d,h3.d,p0,by show eG ns k 5<=9;omega⟩,rfl⟩
  unfold i4
  have hand:Dw (gU (g2 (rB 2) (dI J.aH .tuple) (kz true))) (gU (g2 (f9 3 ba (J.ac (rS 0) (J.ac (kI 97) (J.ac (kI 2) J.aH)))) (kI 0) (kz false))) [.shr (.list (ns.map .int)),.shr (.int k),.shr (cm fs),.shr (.str nm),.no,.no,.no,.no,.no]=.ok false:=by
   walk_at "zz"
   rw [Fp fs hf]
   walk_at "zz"
   by_cases h:fs=[]
   ·simp only [h,decide_true,mR,cond_false]
   ·simp only [h,decide_false,j9,cond_true,AD] at hc ⊢
    rw [eI ns 97 2 (by decide) (by decide)]
    walk_at "zz"
    rw [kO]
    walk_at "zz"
    rw [hc]
  rw [Br,Re,hand]
  simp only [zR,Jo,RK,clear2,aK,dL,le,lc,zR,oS,Br]
  rw [show Sl.ow2 [[],[],[],[]]=o4 [] [] [] [] from rfl,h1]
  walk_at "zz"
  rw [RL]
  walk_at "zz"
  rw [Ow]
  walk_at "zz"
  rw [Ox]
  walk_at "zz"
  rw [Oy]
  walk_at "zz"
  rw [Oz]
  walk_at "zz"
  rw [eI ns k 5 hk (by decide)]
  walk_at "zz"
  rfl
 by_cases hc:(!decide (fs=[]) && decide (eG ns 97 2=0))=true
 ·have h0:0<fs.length:=by
   rcases fs with _ | ⟨x,r⟩
   ·simp at hc
   ·simp
  obtain ⟨e,h1,h2⟩:=N7 ns k hk fs hf h0 nm hn
  refine ⟨e,?_,h2⟩
  unfold i5
  refine cz ?_
  unfold i4 bG
  walk_at "zz"
  rw [Fp fs hf]
  walk_at "zz"
  simp only [aS] at hc
  rw [hc.1]
  walk_at "zz"
  rw [eI ns 97 2 (by decide) (by decide)]
  walk_at "zz"
  rw [kO]
  walk_at "zz"
  rw [hc.2]
  walk_at "zz"
  rw [h1]
  walk_at "zz"
 ·obtain ⟨e,h1,h2⟩:=go _ rfl (Bool.eq_false_iff.mpr hc)
  exact ⟨e,by unfold i5;exact cz h1,h2⟩
theorem Kw (ds:List D) (t:Nat) (h:t<=ds.length):qg ds (some (t:Int)) none=ds.drop t:=by
 unfold qg
 rw [HT.EC,HT.AO,Nat.min_eq_left h,List.take_of_length_le (by rw [vh];exact ar _)]
theorem Kx (ds:List D) (t:Nat) (h:t<=ds.length):qg ds none (some (t:Int))=ds.take t:=by
 unfold qg
 rw [HT.EC,HT.AO,Nat.min_eq_left h,List.drop_zero,Nat.sub_zero]
theorem RM (ds:List D) (t:Nat) (h:t<=ds.length):yx (.list ds) (some (t:Int)) none=.ok (.list (ds.drop t)):=by
 rw [<- Kw ds t h];rfl
theorem RN (ds:List D) (t:Nat) (h:t<=ds.length):yx (.list ds) none (some (t:Int))=.ok (.list (ds.take t)):=by
 rw [<- Kx ds t h];rfl
theorem Ky {l:List (Str×D)} (nd:(l.map (·.1)).Nodup) {p:Str×D} (hp:p∈l):b9 (.dict (gO l)) (.str p.1)=.ok p.2:=by
 have e:∀ kvs x,b9 (.dict kvs) (.str x)=if gI kvs=true then (match sD kvs (.str x) with
   | some d=>.ok d
   | none=>.no) else .no:=fun _ _=>rfl
 rw [e,if_pos (wH l)]
 have:sD (gO l) (.str p.1)=some p.2:=by
  unfold sD gO
  clear e
  induction l with
  | nil=>cases hp
  | cons q r ih =>
   rw [aK] at nd
   obtain ⟨n1,n2⟩:=List.nodup_cons.mp nd
   rw [aK,dq,nr]
   rcases List.mem_cons.mp hp with h | h
   ·subst h;simp
   ·have:q.1≠p.1:=fun z=>n1 (z ▸ iy h)
    rw [decide_eq_false this]
    exact ih n2 h
 rw [this]
structure gT (fs:List Str) (es:List cn):Prop where
 rise:N1 fs 6
 len:es.length<=6
 nd:(es.map (·.name)).Nodup
 ok:∀ e∈es,sM fs e
def fS (fs:List Str) (es:List cn):D:=.tuple [cm fs,.tuple (es.map bN)]
theorem RO (fs:List Str):∀ (l:List (Str×D)),(∀ p∈l,∃ e,p.2=bN e/\sM fs e/\e.name=p.1)->∃ es:List cn,l.map (·.2)=es.map bN/\es.map (·.name)=l.map (·.1)/\∀ e∈es,sM fs e
 | [],_=>⟨[],rfl,rfl,fun _ h=>nomatch h⟩
 | p::r,h=>by
  obtain ⟨e,h1,h2,h3⟩:=h p al
  obtain ⟨es,k1,k2,k3⟩:=RO fs r fun q hq=>h q (ai _ hq)
  refine ⟨e::es,by rw [aK,aK,h1,k1],by rw [aK,aK,h3,k2],fun x hx=>?_⟩
  rcases List.mem_cons.mp hx with z | z
  ·rw [z];exact h2
  ·exact k3 x z
theorem GV {α:Type} (l:List α) (t:Nat):(l.drop t++l.take t).Perm l:=by
 refine List.perm_append_comm.trans ?_
 rw [List.take_append_drop]
theorem oW {l:List Str} (h:l.Pairwise fun a b=>qe a b=true):l.Nodup:=h.imp fun hab z=>by
 rw [z,vW] at hab
 cases hab
theorem N8 (ns:List Int) (k:Int) (hk:0<=k) (m n:Int) (hm0:0<=m) (hm:m<=6) (hn0:0<=n) (hn:n<=6):∃ fs es,kJ [.list (ns.map .int),.int k,.int m,.int n]=.ok (fS fs es)/\gT fs es:=by
 have hr:=DW ns k m hm0
 generalize hfs:A6 ns k m=fs at hr
 have hr:N1 fs 6:=⟨hr.ok,hr.up,by have:=hr.len;omega⟩
 have nd:=oW hr.up
 have m0:=eF ns (k + 60) (n + 1) (by omega)
 have m1:=fe ns (k + 60) (n + 1) (by omega)
 suffices H:∃ es,kJ [.list (ns.map .int),.int k,.int m,.int n]=.ok (fS fs es)/\gT fs es from H.elim fun es h=>⟨fs,es,h⟩
 unfold kJ
 suffices H:∃ es,kH (bG 10 [.list (ns.map .int),.int k,.int m,.int n])=.ok (.rt (fS fs es))/\gT fs es from H.elim fun es h=>⟨es,cz h.1,h.2⟩
 have H:=oV (fun (i:Nat)=>aZ i) (fun (a:Unit) (_:Nat)=>a) (fun bA _ ρ=>∃ l,l.length + bA.length<=6/\(l.map (·.1)).Nodup/\(∀ p∈l,∃ e,p.2=bN e/\sM fs e/\e.name=p.1)/\∃ z6 z7,ρ=[.shr (.list (ns.map .int)),.shr (.int k),.shr (.int m),.shr (.int n),.shr (cm fs),.own (.dict (gO l)),z6,z7,.no,.no]) (kt:=bF 6) (gb:=bf (ir 7 (f9 2 jl (J.ac (rS 0) (J.ac (g2 (g2 (rB 1) (kI 70) cR) (g2 (kI 40) (rB 6) v5) cR) J.aH)))) (zP 5 (rS 7) (f9 4 i5 (J.ac (rS 0) (J.ac (g2 (g2 (rB 1) (kI 80) cR) (g2 (kI 40) (rB 6) v5) cR) (J.ac (rS 4) (J.ac (rS 7) J.aH)))))))
 obtain ⟨ρ',h1,l,h2,h3,h4,z6,z7,h5⟩:=H (by
  rintro i bA _ ρ ⟨l,h2,h3,h4,z6,z7,rfl⟩
  simp only [bg] at h2
  have hw:=BI ns (k + 70 + 40 * (i:Int))
  obtain ⟨e,e1,e2,e3⟩:=GU ns (k + 80 + 40 * (i:Int)) (by omega) fs hr.ok hr.up nd hr.len (jJ ns (k + 70 + 40 * (i:Int))) hw
  have pl:=BJ l (jJ ns (k + 70 + 40 * (i:Int))) (bN e)
  refine ⟨[.shr (.list (ns.map .int)),.shr (.int k),.shr (.int m),.shr (.int n),.shr (cm fs),.own (.dict (gO l)),.shr (.int i),z7,.no,.no],[.shr (.list (ns.map .int)),.shr (.int k),.shr (.int m),.shr (.int n),.shr (cm fs),.own (.dict (gO (qh l (jJ ns (k + 70 + 40 * (i:Int))) (bN e)))),.shr (.int i),.shr (.str (jJ ns (k + 70 + 40 * (i:Int)))),.no,.no],rfl,?_,qh l (jJ ns (k + 70 + 40 * (i:Int))) (bN e),by omega,?_,?_,_,_,rfl⟩
  ·walk_at "zz"
   rw [pM (by decide) (by decide)]
   walk_at "zz"
   rw [Fk ns _ (by omega)]
   walk_at "zz"
   refine (Ou (l:=l) (x:=jJ ns (k + 70 + 40 * (i:Int))) (d:=bN e) rfl ?_ rfl (by omega)).trans rfl
   walk_at "zz"
   rw [pM (by decide) (by decide)]
   walk_at "zz"
   exact e1
  ·rw [yM];exact GP h3
  ·exact Kp (Q:=fun x d=>∃ e,d=bN e/\sM fs e/\e.name=x) h4 ⟨e,rfl,e2,e3⟩) (bt (eG ns (k + 60) (n + 1)).toNat) () [.shr (.list (ns.map .int)),.shr (.int k),.shr (.int m),.shr (.int n),.shr (cm fs),.own (.dict (gO [])),.no,.no,.no,.no] ⟨[],by rw [fO];simp only [dR];omega,l9,fun _ h=>(nomatch h),_,_,rfl⟩
 simp only [dR,Nat.add_zero] at h2
 have t0:=eF ns (k + 61) ((l.length:Int) + 1) (by omega)
 have t1:=fe ns (k + 61) ((l.length:Int) + 1) (by omega)
 obtain ⟨t,ht⟩:∃ t:Nat,eG ns (k + 61) ((l.length:Int) + 1)=t:=⟨_,(dQ t0).symm⟩
 have tl:t<=l.length:=by omega
 have pm:=GV l t
 obtain ⟨es,k1,k2,k3⟩:=RO fs (l.drop t++l.take t) fun p hp=>h4 p (pm.mem_iff.mp hp)
 have kl:es.length=l.length:=by
  have:=congrArg ql k1
  rw [au,au,pm.length_eq] at this
  exact this.symm
 refine ⟨es,?_,hr,by omega,?_,k3⟩
 ·unfold kH bG
  walk_at "yy"
  rw [Kr ns k m hk hm0 (by omega),hfs]
  walk_at "yy"
  rw [qv (ds:=(bt (eG ns (k + 60) (n + 1)).toNat).map fun (i:Nat)=>aZ i)]
  ·rw [show PyData.dict []=PyData.dict (gO []) from rfl,h1,h5]
   walk_at "yy"
   rw [wI]
   walk_at "yy"
   rw [eI ns _ _ (by omega) (by omega),ht]
   walk_at "yy"
   clear H h1
   rw [RM _ t (by simpa using tl)]
   walk_at "yy"
   rw [RN _ t (by simpa using tl)]
   walk_at "yy"
   have e1:(List.drop t (nQ ap (nQ (fun x=>x.fst) l))++List.take t (nQ ap (nQ (fun x=>x.fst) l)))=(l.drop t++l.take t).map fun p=>ap p.1:=by
    rw [bR,List.map_drop,List.map_take,bL];rfl
   rw [e1,if_pos (by rw [<- aR,e1,au,pm.length_eq];omega)]
   have pl:=pm.length_eq
   have px:∀ p∈l.drop t++l.take t,p∈l:=fun p hp=>pm.mem_iff.mp hp
   clear e1 pm k2
   generalize l.drop t++l.take t=L at pl px k1 ⊢
   walk_at "yy"
   rw [if_pos (by omega)]
   rw [cO _ (fun p:Str×D=>ap p.1) (fun p=>p.2) L fun p hp=>eg rfl (by
    walk_at "yy"
    exact Ky h3 (px p hp))]
   walk_at "yy"
   rw [hW]
   walk_at "yy"
   rw [k1]
   rfl
  ·walk_at "yy"
   rw [eI ns (k + 60) (n + 1) (by omega) (by omega)]
   walk_at "yy"
   have:=nq (eG ns (k + 60) (n + 1)).toNat (by omega)
   rw [dQ m0] at this
   exact this
 ·rw [k2]
  exact ((pm.map _).nodup_iff).mpr h3
theorem yN {α:Type} (b:α->Bool):∀ xs:List α,ll (xs.map fun x=>cP (b x))=some (xs.map b)
 | []=>rfl
 | x::r=>by
  show (ll (r.map fun x=>cP (b x))).map (b x::·)=_
  rw [yN b r]
  rfl
theorem j3 {α:Type} (k:List Bool->Bool) (b:α->Bool) (xs:List α):gF k (.list (xs.map fun x=>cP (b x)))=.ok (.bool (k (xs.map b))):=by
 have e:∀ ds,gF k (.list ds)=match ll ds with
  | some bs=>.ok (.bool (k bs))
  | none=>.no:=fun _=>rfl
 rw [e,yN]
theorem Kz {s s':Sl}{ρ:aq}{gt:aq->R Bool}{ge:aq->R D}{d d' y:D} (h1:gt (.shr d::.shr d'::ρ)=.ok true) (h2:ge (.shr d::.shr d'::ρ)=.ok y):ib 2 (s::s'::ρ) gt ge (.tuple [d,d'])=.ok (some y):=by
 have e:ib 2 (s::s'::ρ) gt ge (.tuple [d,d'])=Gz ((gt (.shr d::.shr d'::ρ)).bind fun b=>if b then (ge (.shr d::.shr d'::ρ)).bind fun y=>.ok (some y) else .ok none):=id rfl
 rw [e,h1,bind_ok,if_pos rfl,h2];rfl
theorem DY (x:Str):pB (.str x)=true:=id rfl
theorem KA (i:Int):pB (.int i)=true:=id rfl
theorem pR {α:Type} (c:α->D) (h:∀ x,pB (c x)=true):∀ xs:List α,noDs (xs.map c)=true
 | []=>rfl
 | x::r=>by
  show (pB (c x) && noDs (r.map c))=true
  rw [h x,pR c h r];rfl
theorem KB (xs:List D):pB (.tuple xs)=noDs xs:=id rfl
theorem nu (xs:List Str):pB (cm xs)=true:=by
 rw [KB]
 exact pR _ (fun _=>rfl) xs
theorem Fq (e:cn):pB (bN e)=true:=by
 have:pB (bN e)=(true && (pB (cm e.needs) && (pB (cm e.bars) && (pB (cm e.makes) && (pB (cm e.ends) && (true && true)))))):=rfl
 rw [this,nu,nu,nu,nu];rfl
theorem OA (es:List cn):pB (.tuple (es.map bN))=true:=by
 rw [KB]
 exact pR _ Fq es
theorem N9 (fs:List Str) (es:List cn):pB (fS fs es)=true:=by
 have:pB (fS fs es)=(pB (cm fs) && (pB (.tuple (es.map bN)) && true)):=rfl
 rw [this,nu,OA];rfl
theorem DZ (x:Str):u5 "str" (.str x)=true:=id rfl
theorem Aa (x:List D):u5 "tuple" (.tuple x)=true:=id rfl
theorem Q0 (x:Int):u5 "int" (.int x)=true:=id rfl
theorem Q1 (x:Int):u5 "bool" (.int x)=false:=id rfl
theorem Na:∀ c:_root_.Fin 123,97<=c.val->(!qe ⟨#[c.val]⟩ "a")=true/\(!qe "z" ⟨#[c.val]⟩)=true:=by decide +kernel
theorem yO {x:Str} (h:xi x=true):mH [.str x]=.ok (.bool true):=by
 have hw:=h
 unfold xi at h
 simp only [aS,decide_eq_true_eq,dD] at h
 obtain ⟨⟨h1,h2⟩,h3⟩:=h
 have hl:x.length=x.cps.size:=rfl
 unfold mH
 refine cz ?_
 unfold pI bG
 walk_at "zz"
 rw [DY,DZ]
 walk_at "zz"
 rw [if_pos (by omega)]
 walk_at "zz"
 rw [decide_eq_true (by omega)]
 walk_at "zz"
 rw [decide_eq_true (by omega)]
 walk_at "zz"
 unfold m7
 walk_at "zz"
 rw [if_pos (by rw [bh];omega)]
 rw [cO _ (fun c:Nat=>ap ⟨#[c]⟩) (fun _=>cP true) x.cps.toList fun c hc=>eg rfl (by
  obtain ⟨a1,a2⟩:=h3 c hc
  obtain ⟨b1,b2⟩:=Na ⟨c,by omega⟩ a1
  walk_at "zz"
  simp only at b1 b2
  rw [b1]
  walk_at "zz"
  rw [b2])]
 walk_at "zz"
 rw [j3 _ (fun _=>true)]
 walk_at "zz"
 simp
theorem BM:∀ (xs ys:List Str),v7 (xs.map .str) (ys.map .str)=(xs.zip ys).map fun p=>dg [.str p.1,.str p.2]
 | [],_=>rfl
 | _::_,[]=>rfl
 | x::r,y::r'=>by
  show dg [.str x,.str y]::v7 (r.map .str) (r'.map .str)=_
  rw [BM r r']
  rfl
theorem KC:∀ {l:List Str},(l.Pairwise fun a b=>qe a b=true)->∀ p∈l.zip (l.drop 1),qe p.1 p.2=true
 | [],_,p,hp=>by cases hp
 | [_],_,p,hp=>by cases hp
 | a::b::r,h,p,hp=>by
  obtain ⟨h1,h2⟩:=List.pairwise_cons.mp h
  rcases List.mem_cons.mp hp with z | z
  ·rw [z];exact h1 b al
  ·exact KC h2 p z
theorem Nb (xs:List Str):yx (cm xs) (some 1) none=.ok (cm (xs.drop 1)):=by
 have e:yx (cm xs) (some 1) none=.ok (.tuple (qg (xs.map .str) (some 1) none)):=rfl
 rw [e]
 cases xs with
 | nil=>rfl
 | cons x r =>
  rw [show (1:Int)=((1:Nat):Int) from rfl,Kw _ 1 (by simp)]
  rfl
theorem uD {xs:List Str} (hw:∀ x∈xs,xi x=true) (up:xs.Pairwise fun a b=>qe a b=true) (hl:xs.length<=6):eX [cm xs]=.ok (.bool true):=by
 unfold eX
 refine cz ?_
 unfold gG bG
 walk_at "zz"
 rw [nu,Aa]
 walk_at "zz"
 rw [if_pos (by omega)]
 rw [cO _ (fun x:Str=>ap x) (fun _=>cP true) xs fun x hx=>eg rfl (by
  walk_at "zz"
  rw [yO (hw x hx)])]
 walk_at "zz"
 rw [j3 _ (fun _=>true)]
 walk_at "zz"
 rw [show ((xs.map fun _=>true).all id)=true by simp]
 walk_at "zz"
 rw [Nb]
 walk_at "zz"
 rw [BM]
 walk_at "zz"
 rw [if_pos (by simp;omega)]
 rw [cO _ (fun p:Str×Str=>dg [.str p.1,.str p.2]) (fun _=>cP true) (xs.zip (xs.drop 1)) fun p hp=>Kz rfl (by
  walk_at "zz"
  rw [KC up p hp])]
 walk_at "zz"
 rw [j3 _ (fun _=>true)]
 walk_at "zz"
 simp
theorem nw {fs xs:List Str} (hw:∀ x∈fs,xi x=true) (h:GR fs xs) (hl:xs.length<=6):jE [cm fs,cm xs]=.ok (.bool true):=by
 unfold jE
 refine cz ?_
 unfold ls bG
 walk_at "zz"
 rw [uD (fun x hx=>hw x (h.mem x hx)) h.up hl]
 walk_at "zz"
 rw [if_pos (by omega)]
 rw [cO _ (fun x:Str=>ap x) (fun _=>cP true) xs fun x hx=>eg rfl (by
  walk_at "zz"
  rw [A8,decide_eq_true (h.mem x hx)]
  rfl)]
 walk_at "zz"
 rw [j3 _ (fun _=>true)]
 walk_at "zz"
 simp
theorem yP {xs ys:List Str} (h:∀ x∈xs,x∉ys) (hl:xs.length<=6):eN [cm xs,cm ys]=.ok (.bool true):=by
 unfold eN
 refine cz ?_
 unfold j1 bG
 walk_at "zz"
 rw [if_pos (by omega)]
 rw [cO _ (fun x:Str=>ap x) (fun _=>cP false) xs fun x hx=>eg rfl (by
  walk_at "zz"
  rw [A8,decide_eq_false (h x hx)]
  rfl)]
 walk_at "zz"
 rw [j3 _ (fun _=>false)]
 walk_at "zz"
 simp
theorem D_ {l i m:Int} (h0:l<=i) (h1:i<=m):n8 [.int i,.int l,.int m]=.ok (.bool true):=by
 unfold n8
 refine cz ?_
 unfold n6 bG
 walk_at "zz"
 rw [KA,Q0]
 walk_at "zz"
 rw [KA,Q1]
 walk_at "zz"
 rw [decide_eq_true h0]
 walk_at "zz"
 rw [decide_eq_true h1]
theorem Ab:∀ (xs fs:List Str),xs.Nodup->(∀ x∈xs,x∈fs)->xs.length<=fs.length
 | [],_,_,_=>ck _
 | x::r,fs,nd,h=>by
  obtain ⟨n1,n2⟩:=List.nodup_cons.mp nd
  have hx:=h x al
  have:=Ab r (fs.erase x) n2 fun y hy=>(List.mem_erase_of_ne fun (z:y=x)=>n1 (z ▸ hy)).mpr (h y (ai _ hy))
  rw [List.length_erase_of_mem hx] at this
  have:0<fs.length:=List.length_pos_of_mem hx
  rw [bg]
  omega
theorem lG {fs xs:List Str} (h:GR fs xs) (hl:fs.length<=6):xs.length<=6:=by
 exact bE (Ab xs fs (oW h.up) h.mem) hl
theorem Tk (a b c d e f g:D):GG (jD 6 (bZ (bF 2) (bZ (bF 3) (bZ (bF 4) (bZ (bF 5) (bZ (bF 6) (bZ (bF 7) jX))))))) [Sl.shr a,Sl.shr (.tuple [b,c,d,e,f,g]),.no,.no,.no,.no,.no,.no] (.tuple [b,c,d,e,f,g])=.ok (.nx [Sl.shr a,Sl.shr (.tuple [b,c,d,e,f,g]),.shr b,.shr c,.shr d,.shr e,.shr f,.shr g]):=id rfl
theorem BN {fs:List Str} (hr:N1 fs 6) {e:cn} (g:sM fs e):lv [cm fs,bN e]=.ok (.bool true):=by
 have l1:=lG g.needs hr.len
 have l2:=lG g.bars hr.len
 have l3:=lG g.makes hr.len
 have l4:=lG g.ends hr.len
 unfold lv
 refine cz ?_
 unfold lu bG
 walk_at "zz"
 rw [Fq]
 unfold bN
 walk_at "zz"
 rw [Aa]
 walk_at "zz"
 rw [kO]
 walk_at "zz"
 rw [show decide (((6:Nat):Int)=6)=true from rfl]
 walk_at "zz"
 rw [Tk]
 ·walk_at "zz"
  rw [yO g.name]
  walk_at "zz"
  rw [D_ g.p0 g.p9]
  walk_at "zz"
  have pk:=cO (ib 1 [Sl.no,Sl.shr (cm fs)] kT (f9 2 jE (J.ac (rS 1) (J.ac (rS 0) J.aH)))) (fun x:List Str=>cm x) (fun _=>cP true) [e.needs,e.bars,e.makes,e.ends] fun x hx=>eg rfl (by
   walk_at "zz"
   simp only [aV,aJ,or_false] at hx
   rcases hx with z | z | z | z<;>rw [z]
   ·rw [nw hr.ok g.needs l1]
   ·rw [nw hr.ok g.bars l2]
   ·rw [nw hr.ok g.makes l3]
   ·rw [nw hr.ok g.ends l4])
  simp only [aK,dL] at pk
  rw [pk]
  walk_at "zz"
  rw [show gF (fun bs=>bs.all id) (.list [.bool true,.bool true,.bool true,.bool true])=.ok (.bool true) from rfl]
  walk_at "zz"
  rw [yP g.nb l1]
  walk_at "zz"
  rw [yP g.me l3]
  walk_at "zz"
theorem KD (l:List Str) (nd:l.Nodup):(eC [] l).length=l.length:=by
 have h1:=Ab (eC [] l) l (li l [] l9) fun x hx=>((mB l [] x).mp hx).elim (fun h=>nomatch h) id
 have h2:=Ab l (eC [] l) nd fun x hx=>(mB l [] x).mpr (.inr hx)
 omega
theorem GW (es:List cn) (hl:es.length<=6) (nd:(es.map (·.name)).Nodup) (s:Sl) (ρ:aq) (h:(s::ρ)[2]?=some (.shr (.tuple (es.map bN)))):sF (uc 1 [] (kA (rB 2)) kT (g2 (rB 0) (kI 0) b9)) (s::ρ)=.ok (.int (es.length:Nat)):=by
 have hr:Bb (s::ρ) 2=.ok (.tuple (es.map bN)):=by unfold Bb;rw [h]
 unfold sF uc
 rw [PH,PN,hr]
 walk_at "zz"
 rw [if_pos (by omega)]
 rw [cO _ bN (fun e=>ap e.name) es fun e he=>eg rfl (by
  walk_at "zz"
  rfl)]
 walk_at "zz"
 have:(es.map fun e=>ap e.name)=(es.map (·.name)).map .str:=by rw [bL];rfl
 rw [this,strsOf_map]
 simp only [zR,KD _ nd,au]
theorem Tl (b c:D):GG (jD 2 (bZ (bF 1) (bZ (bF 2) jX))) [Sl.shr (.tuple [b,c]),.no,.no] (.tuple [b,c])=.ok (.nx [Sl.shr (.tuple [b,c]),.shr b,.shr c]):=id rfl
theorem GX {fs:List Str}{es:List cn} (g:gT fs es):pK [fS fs es]=.ok (.bool true):=by
 have l1:=g.rise.len
 have l2:=g.len
 unfold pK
 refine cz ?_
 unfold pJ bG
 walk_at "zz"
 rw [N9]
 unfold fS
 walk_at "zz"
 rw [Aa]
 walk_at "zz"
 rw [kO]
 walk_at "zz"
 rw [show decide (((2:Nat):Int)=2)=true from rfl]
 walk_at "zz"
 rw [Tl]
 walk_at "zz"
 rw [uD g.rise.ok g.rise.up l1]
 walk_at "zz"
 rw [decide_eq_false (by omega)]
 walk_at "zz"
 rw [OA,Aa]
 walk_at "zz"
 rw [decide_eq_false (by omega)]
 walk_at "zz"
 rw [if_pos (by omega)]
 rw [cO _ bN (fun _=>cP true) es fun e he=>eg rfl (by
  walk_at "zz"
  rw [BN g.rise (g.ok e he)])]
 walk_at "zz"
 rw [j3 _ (fun _=>true)]
 walk_at "zz"
 rw [show ((es.map fun _=>true).all id)=true by simp]
 walk_at "zz"
 rw [GW es l2 g.nd _ _ rfl]
 walk_at "zz"
 rw [kO,decide_eq_true rfl]
 rfl
theorem wM {fs:List Str}{es:List cn} (g:gT fs es):mI [fS fs es]=.ok (fS fs es):=by
 unfold mI
 refine cz ?_
 unfold pL bG
 walk_at "zz"
 rw [GX g]
 walk_at "zz"
theorem ue {α:Type} (c:α->D) (h:∀ x,bq (c x) (c x)=true):∀ xs:List α,jz (xs.map c) (xs.map c)=true
 | []=>by simp [jz]
 | x::r=>by simp [jz,h x,ue c h r]
theorem sP {α:Type} (c:α->D):∀ xs:List α,(∀ x∈xs,(c x).canLay0=true)->cF (xs.map c)=true
 | [],_=>rfl
 | x::r,h=>by
  have h1:=h x al
  have h2:=sP c r fun y hy=>h y (ai _ hy)
  simp only [aK,cF,h1,h2,rV]
theorem uf {α:Type} (c:α->D) (n:Nat) (h:∀ x,(c x).depth<=n):∀ xs:List α,nV (xs.map c)<=n
 | []=>by simp [nV]
 | x::r=>by
  simp only [aK,nV]
  exact Nat.max_le.mpr ⟨h x,uf c n h r⟩
theorem Fs {i:Nat}{g:aq->R D}{ρ:aq}{ds:List D}{d:D} (hi:ρ[i]?=some (Sl.own (.list ds))) (hg:g ρ=.ok d) (hl:ds.length<1000):ua i g ρ=.ok (.nx (ρ.set i (.own (.list (ds++[d]))))):=by
 unfold ua
 simp only [hi,hg,bind_ok,if_pos hl]
theorem KG {s s':Sl}{ρ:aq}{gt:aq->R Bool}{ge:aq->R D}{d d' y:D}{b:Bool} (h1:gt (.shr d::.shr d'::ρ)=.ok b) (h2:b=true->ge (.shr d::.shr d'::ρ)=.ok y):ib 2 (s::s'::ρ) gt ge (.tuple [d,d'])=.ok (if b then some y else none):=by
 have e:ib 2 (s::s'::ρ) gt ge (.tuple [d,d'])=Gz ((gt (.shr d::.shr d'::ρ)).bind fun b=>if b then (ge (.shr d::.shr d'::ρ)).bind fun y=>.ok (some y) else .ok none):=id rfl
 rw [e,h1,bind_ok]
 cases b with
 | true=>rw [if_pos rfl,h2 rfl];rfl
 | false=>rfl
theorem yQ:∀ (xs:List Str) (n:Nat),(lF n xs).length=xs.length
 | [],_=>rfl
 | x::r,n=>by
  show (lF (n + 1) r).length + 1=r.length + 1
  rw [yQ r]
theorem Nc (ns:List Int) (k:Int) (hk:0<=k) (fs:List Str) (hl:fs.length<=6) (m:Int):∃ ss:List Str,ng [.list (ns.map .int),.int k,cm fs,.int m]=.ok (cm ss)/\ss.Sublist fs:=by
 refine ⟨((lF 0 fs).filter fun q=>decide (eG ns (k + (q.1:Int)) 12<m)).map (·.2),?_,?_⟩
 ·unfold ng
  refine cz ?_
  unfold nc bG
  walk_at "zz"
  rw [vo]
  walk_at "zz"
  rw [if_pos (by rw [yQ];omega)]
  rw [jZ _ cI (fun q=>ap q.2) (fun q=>decide (eG ns (k + (q.1:Int)) 12<m)) (lF 0 fs) fun q hq=>KG (by
   walk_at "zz"
   rw [eI ns _ 12 (by omega) (by decide)]
   walk_at "zz") fun _=>rfl]
  walk_at "zz"
  rw [hW]
  walk_at "zz"
  unfold cm
  rw [bL]
  rfl
 ·have:=(List.filter_sublist (l:=lF 0 fs) (p:=fun q=>decide (eG ns (k + (q.1:Int)) 12<m))).map (·.2)
  rw [pQ] at this
  exact this
theorem E2 {fs xs:List Str} (up:fs.Pairwise fun a b=>qe a b=true) (h:xs.Sublist fs):GR fs xs:=⟨up.sublist h,fun x hx=>h.subset hx⟩
def BO (P:aq->Prop) (r:R Fl):Prop:=∃ ρ',r=.ok (.nx ρ')/\P ρ'
theorem GY {P:aq->Prop}{r:R Fl}{hh:aq->R Fl}{o:R Fl} (h:BO P r) (k:∀ ρ,P ρ->hh ρ=o):r.bind (Jn hh)=o:=by
 obtain ⟨ρ',h1,p⟩:=h
 rw [h1,bind_ok,oS]
 exact k ρ' p
theorem yR {α:Type}{kt:D->aq->R aq}{gb:aq->R Fl} (c:α->D) (P:aq->Prop):∀ (xs:List α) (ρ:aq),(∀ x∈xs,∀ ρ,P ρ->∃ ρ1,kt (c x) ρ=.ok ρ1/\BO P (gb ρ1))->P ρ->BO P (jk kt gb (xs.map c) ρ)
 | [],ρ,_,p=>⟨ρ,rfl,p⟩
 | x::r,ρ,h,p=>by
  obtain ⟨ρ1,h1,ρ2,h2,h3⟩:=h x al ρ p
  rw [aK]
  unfold jk
  rw [h1]
  simp only [h2]
  exact yR c P r ρ2 (fun y hy=>h y (ai _ hy)) h3
theorem BP {α:Type}{kt:D->aq->R aq}{gb:aq->R Fl} (c:α->D) (p:α->Bool) (out:α->D) (P:aq->Prop):∀ (xs:List α) (ρ:aq),(∀ x∈xs,∀ ρ,P ρ->∃ ρ1,kt (c x) ρ=.ok ρ1/\(p x=true->gb ρ1=.ok (.rt (out x)))/\(p x=false->BO P (gb ρ1)))->P ρ ->
  (∀ x,xs.find? p=some x->jk kt gb (xs.map c) ρ=.ok (.rt (out x)))/\(xs.find? p=none->BO P (jk kt gb (xs.map c) ρ))
 | [],ρ,_,q=>⟨fun x h=>(nomatch h),fun _=>⟨ρ,rfl,q⟩⟩
 | x::r,ρ,h,q=>by
  obtain ⟨ρ1,h1,h2,h3⟩:=h x al ρ q
  rw [aK,dq]
  unfold jk
  rw [h1]
  cases hp:p x with
  | true =>
   refine ⟨fun y hy=>?_,fun hn=>nomatch hn⟩
   cases hy
   simp only [h2 hp]
  | false =>
   obtain ⟨ρ2,h4,h5⟩:=h3 hp
   simp only [h4]
   exact BP c p out P r ρ2 (fun y hy=>h y (ai _ hy)) h5
structure OB (fs m b:List Str):Prop where
 must:GR fs m
 bars:GR fs b
 mb:∀ x∈m,x∉b
abbrev E3 (m b:List Str):D:=.tuple [cm m,cm b]
theorem Ft (p:List Str) (x:Str):p.map ap++[ap x]=(p++[x]).map .str:=by simp
theorem Nd (ns:List Int) (k:Int) (hk:0<=k) (fs:List Str) (up:fs.Pairwise fun a b=>qe a b=true) (hl:fs.length<=6):∃ m b,qX [.list (ns.map .int),.int k,cm fs]=.ok (E3 m b)/\OB fs m b:=by
 have nd:=oW up
 suffices H:∃ p q,kK (bG 8 [.list (ns.map .int),.int k,cm fs])=.ok (.rt (E3 p q))/\md fs p q by
  obtain ⟨p,q,h1,h2⟩:=H
  exact ⟨p,q,cz h1,E2 up h2.sp,E2 up h2.sq,h2.d⟩
 unfold kK bG
 walk_at "yy"
 rw [qv (ds:=(lF 0 fs).map cI)]
 ·have H:=oV cI (fun (a:Unit) (_:Nat×Str)=>a) (fun bA _ ρ=>∃ pre,pre++bA.map (·.2)=fs/\∃ p q,md pre p q/\∃ z5 z6 z7,ρ=[.shr (.list (ns.map .int)),.shr (.int k),.shr (cm fs),.own (.list (p.map .str)),.own (.list (q.map .str)),z5,z6,z7]) (kt:=jD 2 (bZ (bF 5) (bZ (bF 6) jX))) (gb:=bf (ir 7 (f9 3 ba (J.ac (rS 0) (J.ac (g2 (rB 1) (rB 5) cR) (J.ac (kI 8) J.aH))))) (fE (gU (g2 (rB 7) (kI 2) DC)) (ua 3 (rS 6)) (fE (gU (g2 (rB 7) (kI 2) (kz false))) (ua 4 (rS 6)) (fun ρ=>.ok (.nx ρ)))))
  obtain ⟨ρ',h1,pre,h2,p,q,h3,z5,z6,z7,h4⟩:=H (by
   rintro ⟨i,x⟩ bA _ ρ ⟨pre,h2,p,q,h3,z5,z6,z7,rfl⟩
   have hx:x∉pre:=by
    rw [<- h2,aK] at nd
    have:=(List.nodup_append.mp nd).2.2
    intro hx
    exact this x hx x al rfl
   have hpl:pre.length<900:=by
    have:=congrArg ql h2
    rw [aR] at this
    omega
   have lp:=h3.sp.length_le
   have lq:=h3.sq.length_le
   refine ⟨[.shr (.list (ns.map .int)),.shr (.int k),.shr (cm fs),.own (.list (p.map .str)),.own (.list (q.map .str)),.shr (.int (i:Nat)),.shr (.str x),z7],?_⟩
   by_cases c1:eG ns (k + (i:Nat)) 8<2
   ·refine ⟨[.shr (.list (ns.map .int)),.shr (.int k),.shr (cm fs),.own (.list ((p++[x]).map .str)),.own (.list (q.map .str)),.shr (.int (i:Nat)),.shr (.str x),.shr (.int (eG ns (k + (i:Nat)) 8))],rfl,?_,pre++[x],by rw [<- h2];simp,_,_,h3.left x hx,_,_,_,rfl⟩
    walk_at "zz"
    rw [eI ns _ 8 (by omega) (by decide)]
    walk_at "zz"
    rw [decide_eq_true c1]
    walk_at "zz"
    rw [<- Ft]
    exact Fs (ds:=p.map .str) rfl rfl (by rw [au];omega)
   ·by_cases c2:eG ns (k + (i:Nat)) 8=2
    ·refine ⟨[.shr (.list (ns.map .int)),.shr (.int k),.shr (cm fs),.own (.list (p.map .str)),.own (.list ((q++[x]).map .str)),.shr (.int (i:Nat)),.shr (.str x),.shr (.int (eG ns (k + (i:Nat)) 8))],rfl,?_,pre++[x],by rw [<- h2];simp,_,_,h3.right x hx,_,_,_,rfl⟩
     walk_at "zz"
     rw [eI ns _ 8 (by omega) (by decide)]
     walk_at "zz"
     rw [decide_eq_false c1]
     walk_at "zz"
     rw [kO]
     walk_at "zz"
     rw [decide_eq_true c2]
     walk_at "zz"
     rw [<- Ft]
     exact Fs (ds:=q.map .str) rfl rfl (by rw [au];omega)
    ·refine ⟨[.shr (.list (ns.map .int)),.shr (.int k),.shr (cm fs),.own (.list (p.map .str)),.own (.list (q.map .str)),.shr (.int (i:Nat)),.shr (.str x),.shr (.int (eG ns (k + (i:Nat)) 8))],rfl,?_,pre++[x],by rw [<- h2];simp,_,_,h3.skip x,_,_,_,rfl⟩
     walk_at "zz"
     rw [eI ns _ 8 (by omega) (by decide)]
     walk_at "zz"
     rw [decide_eq_false c1]
     walk_at "zz"
     rw [kO]
     walk_at "zz"
     rw [decide_eq_false c2]
     walk_at "zz") (lF 0 fs) () [.shr (.list (ns.map .int)),.shr (.int k),.shr (cm fs),.own (.list []),.own (.list []),.no,.no,.no] ⟨[],by rw [pQ];rfl,[],[],⟨ef _,ef _,fun _ h=>nomatch h⟩,_,_,_,rfl⟩
  refine ⟨p,q,?_,?_⟩
  ·rw [h1,h4]
   walk_at "zz"
   rw [hW]
   walk_at "zz"
   rw [hW]
   walk_at "zz"
  ·simp only [dL,bH] at h2
   rw [<- h2];exact h3
 ·walk_at "zz"
  rw [vo]
theorem Q2 (j:Int) (h0:0<=j) (h1:j<2):∃ m:Int,b9 (.list [.int 2,.int 4]) (.int j)=.ok (.int m):=by
 have:j=0\/j=1:=by omega
 rcases this with h | h<;>subst h
 ·exact ⟨2,rfl⟩
 ·exact ⟨4,rfl⟩
theorem RP (fs:List Str) (es:List cn):b9 (fS fs es) (.int 0)=.ok (cm fs):=id rfl
theorem Nf (fs:List Str) (es:List cn):b9 (fS fs es) (.int 1)=.ok (.tuple (es.map bN)):=id rfl
theorem Ng (ns:List Int) (m n:Int) (hm0:0<=m) (hm:m<=6) (hn0:0<=n) (hn:n<=6):∃ fs es ss wm wb,kL [.list (ns.map .int),.int m,.int n]=.ok (.tuple [fS fs es,cm ss,E3 wm wb])/\gT fs es/\GR fs ss/\OB fs wm wb:=by
 obtain ⟨fs,es,hb,gb⟩:=N8 ns 100 (by decide) m n hm0 hm hn0 hn
 obtain ⟨pt,hp⟩:=Q2 (eG ns 97 2) (eF _ _ _ (by decide)) (fe _ _ _ (by decide))
 obtain ⟨ss,hs,gs⟩:=Nc ns 20 (by decide) fs gb.rise.len pt
 obtain ⟨wm,wb,hw,gw⟩:=Nd ns 30 (by decide) fs gb.rise.up gb.rise.len
 refine ⟨fs,es,ss,wm,wb,?_,gb,E2 gb.rise.up gs,gw⟩
 unfold kL
 refine cz ?_
 unfold nj bG
 walk_at "zz"
 rw [hb]
 walk_at "zz"
 rw [RP]
 walk_at "zz"
 rw [eI ns 97 2 (by decide) (by decide)]
 walk_at "zz"
 rw [hp]
 walk_at "zz"
 rw [hs]
 walk_at "zz"
 rw [RP]
 walk_at "zz"
 rw [hw]
 walk_at "zz"
theorem BQ {xs ys:List Str} (hl:xs.length<=60):eN [cm xs,cm ys]=.ok (.bool (!xs.any fun x=>decide (x∈ys))):=by
 unfold eN
 refine cz ?_
 unfold j1 bG
 walk_at "zz"
 rw [if_pos (by omega)]
 rw [cO _ (fun x:Str=>ap x) (fun x=>cP (decide (x∈ys))) xs fun x hx=>eg rfl (by
  walk_at "zz"
  rw [A8]
  rfl)]
 walk_at "zz"
 rw [j3 _ (fun x=>decide (x∈ys))]
 walk_at "zz"
 rw [CM]
 rfl
theorem OC (neg:Bool) (e:cn):Pk neg (bN e) .none=.ok (.bool neg):=by cases neg<;>rfl
theorem GZ (e:cn):b9 (bN e) (.int 0)=.ok (.str e.name):=id rfl
theorem RQ (e:cn):b9 (bN e) (.int 3)=.ok (cm e.makes):=id rfl
theorem Q3 (e:cn):b9 (bN e) (.int 4)=.ok (cm e.ends):=id rfl
theorem RS (e:cn):yx (bN e) (some 1) (some 3)=.ok (E3 e.needs e.bars):=id rfl
theorem RT (e:cn):yx (bN e) (some 3) (some 5)=.ok (E3 e.makes e.ends):=id rfl
theorem KH (wh:Str->Option Nat) (F:List D->R D) (ds:List D):sG wh F ds=yF wh (F ds):=id rfl
theorem Nh (wh:Str->Option Nat) (d:D):yF wh (.ok d)=.ok d:=id rfl
theorem Ni {wh:Str->Option Nat}{y:Str}{j:Nat} (h:wh y=some j):yF wh (.ex y none)=.ok (.tuple [.str "refused",.int (j:Nat)]):=by simp only [yF,h]
theorem KI {x:Str} (h:xi x=true):x≠"zzzzz":=by
 intro e
 rw [e] at h
 have:xi "zzzzz"=false:=by decide +kernel
 rw [this] at h
 cases h
theorem Tn {x:Str} (h:xi x=true):kz false (.str x) (.str "zzzzz")=.ok (.bool false):=by
 unfold kz
 rw [pP h,show (ap "zzzzz").canLay0=true by decide +kernel,nr,decide_eq_false (KI h)]
 rfl
theorem jT {xs:List D}{j:Nat}{v:D} (h:xs[j]?=some v):b9 (.list xs) (.int (j:Nat))=.ok v:=by
 have e:b9 (.list xs) (.int (j:Nat))=DF (.list xs) (.int (j:Nat)):=rfl
 rw [e]
 unfold DF
 simp only [rZ h]
def RU:R D->Bool
 | .ok (.bool b)=>b
 | _=>false
theorem Nj {r:R D} (h:RU r=true):r=.ok (.bool true):=by
 unfold RU at h
 split at h
 ·rw [h]
 ·cases h
theorem To (a x y z:D) (r:aq):GG (jD 3 (bZ (bF 1) (bZ (bF 2) (bZ (bF 3) jX)))) (Sl.shr a::.no::.no::.no::r) (.tuple [x,y,z])=.ok (.nx (.shr a::.shr x::.shr y::.shr z::r)):=id rfl
def sQ (es:List cn) (nm:Str):Option cn:=es.find? fun e=>decide (e.name=nm)
def Q4:Option cn->D
 | none=>.none
 | some e=>bN e
theorem ug {fs:List Str}{es:List cn} (g:gT fs es) {nm:Str} (hn:xi nm=true):cu [fS fs es,.str nm]=.ok (Q4 (sQ es nm)):=by
 unfold cu
 refine cz ?_
 unfold fz bG
 walk_at "zz"
 rw [DY,DZ]
 walk_at "zz"
 rw [qv (ds:=es.map bN)]
 ·obtain ⟨h1,h2⟩:=BP bN (fun e=>decide (e.name=nm)) bN (fun ρ=>∃ z,ρ=[Sl.shr (fS fs es),.shr (.str nm),z]) (kt:=bF 2) (gb:=fE (gU (g2 (g2 (rB 2) (kI 0) b9) (rB 1) (kz false))) (dv (rS 2)) (fun ρ=>.ok (.nx ρ))) es [Sl.shr (fS fs es),.shr (.str nm),.no] (by
   rintro e he ρ ⟨z,rfl⟩
   refine ⟨[.shr (fS fs es),.shr (.str nm),.shr (bN e)],rfl,fun hp=>?_,fun hp=>⟨[.shr (fS fs es),.shr (.str nm),.shr (bN e)],?_,_,rfl⟩⟩
   ·walk_at "zz"
    rw [GZ]
    walk_at "zz"
    rw [A9 false (g.ok e he).name hn]
    walk_at "zz"
    rw [hp]
    walk_at "zz"
   ·walk_at "zz"
    rw [GZ]
    walk_at "zz"
    rw [A9 false (g.ok e he).name hn]
    walk_at "zz"
    rw [hp]
    walk_at "zz") ⟨_,rfl⟩
  cases hf:es.find? (fun e=>decide (e.name=nm)) with
  | some e =>
   rw [h1 e hf]
   walk_at "zz"
   unfold sQ
   rw [hf]
   rfl
  | none =>
   obtain ⟨ρ',e1,z,rfl⟩:=h2 hf
   rw [e1]
   walk_at "zz"
   unfold sQ
   rw [hf]
   rfl
 ·walk_at "zz"
  rw [Nf]
  walk_at "zz"
theorem ny:∀ {es:List cn},(es.map (·.name)).Nodup->∀ {e:cn},e∈es->sQ es e.name=some e
 | x::r,nd,e,he=>by
  obtain ⟨n1,n2⟩:=List.nodup_cons.mp nd
  unfold sQ
  rw [dq]
  rcases List.mem_cons.mp he with h | h
  ·subst h;simp
  ·have:x.name≠e.name:=fun z=>n1 (by show x.name∈_;rw [z];exact iy h)
   rw [decide_eq_false this]
   exact ny n2 h
structure sR (e:cn):Prop where
 needs:e.needs.length<=6
 bars:e.bars.length<=6
 makes:e.makes.length<=6
 ends:e.ends.length<=6
theorem sS {fs:List Str}{es:List cn} (g:gT fs es) {e:cn} (he:e∈es):sR e :=
 ⟨lG (g.ok e he).needs g.rise.len,lG (g.ok e he).bars g.rise.len,lG (g.ok e he).makes g.rise.len,lG (g.ok e he).ends g.rise.len⟩
theorem KJ {fs:List Str}{es:List cn} (g:gT fs es):cu [fS fs es,.str "zzzzz"]=.ok .none:=by
 unfold cu
 refine cz ?_
 unfold fz bG
 walk_at "zz"
 rw [DY,DZ]
 walk_at "zz"
 rw [qv (ds:=es.map bN)]
 ·refine GY (P:=fun ρ=>∃ z,ρ=[Sl.shr (fS fs es),.shr (.str "zzzzz"),z]) (yR bN _ es _ ?_ ⟨_,rfl⟩) ?_
  ·rintro e he ρ ⟨z,rfl⟩
   refine ⟨[.shr (fS fs es),.shr (.str "zzzzz"),.shr (bN e)],rfl,[.shr (fS fs es),.shr (.str "zzzzz"),.shr (bN e)],?_,_,rfl⟩
   walk_at "zz"
   rw [GZ]
   walk_at "zz"
   rw [Tn (g.ok e he).name]
   walk_at "zz"
  ·rintro ρ ⟨z,rfl⟩
   walk_at "zz"
 ·walk_at "zz"
  rw [Nf]
  walk_at "zz"
theorem wN {fs:List Str}{es:List cn}{d:D} (h1:pB d=true) (h2:u5 "str" d=false):cu [fS fs es,d]=.ok .none:=by
 unfold cu
 refine cz ?_
 unfold fz bG
 walk_at "zz"
 rw [h1,h2]
 walk_at "zz"
theorem Tp (e:cn):b9 (bN e) (.int 1)=.ok (cm e.needs):=id rfl
theorem Tq (e:cn):b9 (bN e) (.int 2)=.ok (cm e.bars):=id rfl
def k7 (a b:cn):Bool:=(!(a.makes++a.ends).any fun x=>decide (x∈b.needs++b.bars)) && !a.makes.any fun x=>decide (x∈b.ends)
def cD (a b:cn):Bool:=k7 a b && k7 b a
theorem RV (a b x y:D):GG (jD 2 (bZ (bF 2) (bZ (bF 3) jX))) [Sl.shr a,.shr b,.no,.no,.no,.no] (.tuple [x,y])=.ok (.nx [.shr a,.shr b,.shr x,.shr y,.no,.no]):=id rfl
theorem RW (a b x y z w:D):GG (jD 2 (bZ (bF 4) (bZ (bF 5) jX))) [Sl.shr a,.shr b,.shr z,.shr w,.no,.no] (.tuple [x,y])=.ok (.nx [.shr a,.shr b,.shr z,.shr w,.shr x,.shr y]):=id rfl
theorem yS {a b:cn} (ha:sR a) (hb:sR b):jG [bN a,bN b]=.ok (.bool (k7 a b)):=by
 have:=ha.makes
 have:=ha.ends
 have:=hb.needs
 have:=hb.bars
 unfold jG
 refine cz ?_
 unfold lw bG
 walk_at "zz"
 rw [RT]
 walk_at "zz"
 rw [RV]
 walk_at "zz"
 rw [RS]
 walk_at "zz"
 rw [RW]
 walk_at "zz"
 rw [if_pos (by omega)]
 walk_at "zz"
 rw [if_pos (by omega)]
 walk_at "zz"
 rw [<- bR,<- bR,BQ (by rw [aR];omega)]
 walk_at "zz"
 rw [Q3]
 walk_at "zz"
 rw [BQ (by omega)]
 unfold k7
 cases ((a.makes++a.ends).any fun x=>decide (x∈b.needs++b.bars))<;>rfl
theorem BR {a b:cn} (ha:sR a) (hb:sR b):jH [bN a,bN b]=.ok (.bool (cD a b)):=by
 unfold jH
 refine cz ?_
 unfold lz bG
 walk_at "zz"
 rw [yS ha hb]
 walk_at "zz"
 rw [yS hb ha]
 unfold cD
 cases k7 a b<;>rfl
theorem Fv {xs ys:List Str} (hl:xs.length<=60):kM [cm xs,cm ys]=.ok (.bool (xs.any fun x=>decide (x∈ys))):=by
 unfold kM
 refine cz ?_
 unfold nl bG
 walk_at "zz"
 rw [if_pos (by omega)]
 rw [cO _ (fun x:Str=>ap x) (fun x=>cP (decide (x∈ys))) xs fun x hx=>eg rfl (by
  walk_at "zz"
  rw [A8]
  rfl)]
 walk_at "zz"
 rw [j3 _ (fun x=>decide (x∈ys))]
 walk_at "zz"
 rw [CM]
 rfl
theorem BS {a b:cn} (ha:sR a) (hb:sR b):jI [bN a,bN b]=.ok (.bool (!k7 a b)):=by
 have:=ha.makes
 have:=ha.ends
 have:=hb.needs
 have:=hb.bars
 unfold jI
 refine cz ?_
 unfold lE bG
 walk_at "zz"
 rw [RQ]
 walk_at "zz"
 rw [Q3]
 walk_at "zz"
 rw [if_pos (by omega)]
 walk_at "zz"
 rw [Tp]
 walk_at "zz"
 rw [Tq]
 walk_at "zz"
 rw [if_pos (by omega)]
 walk_at "zz"
 rw [<- bR,<- bR,Fv (by rw [aR];omega)]
 unfold k7
 cases ((a.makes++a.ends).any fun x=>decide (x∈b.needs++b.bars)) with
 | true=>walk_at "zz";rfl
 | false =>
  walk_at "zz"
  rw [RQ]
  walk_at "zz"
  rw [Q3]
  walk_at "zz"
  rw [Fv (by omega)]
  walk_at "zz"
  cases (a.makes.any fun x=>decide (x∈b.ends))<;>rfl
theorem E4 {a b:cn} (ha:sR a) (hb:sR b):i6 [bN a,bN b]=.ok (.bool (cD a b)):=by
 unfold i6
 refine cz ?_
 unfold j_ bG
 walk_at "zz"
 rw [BS ha hb]
 walk_at "zz"
 unfold cD
 cases k7 a b with
 | false=>rfl
 | true =>
  walk_at "zz"
  rw [BS hb ha]
  cases k7 b a<;>rfl
theorem KL {L:List D}{j:Int} (h0:0<=j) (h1:j<L.length):∃ d∈L,b9 (.list L) (.int j)=.ok d:=by
 obtain ⟨n,rfl⟩:=CL h0
 have hn:n<L.length:=by omega
 exact ⟨L[n],ij hn,jT (aC hn)⟩
theorem RX {i:Nat}{g:aq->R D}{ρ:aq}{ds es:List D} (hi:ρ[i]?=some (Sl.own (.list ds))) (hg:g ρ=.ok (.list es)) (hl:ds.length + es.length<=1000):GD i g ρ=.ok (.nx (ρ.set i (.own (.list (ds++es))))):=by
 unfold GD
 simp only [hi,hg,bind_ok,if_pos hl]
structure OD (es rs:List cn):Prop where
 mem:∀ e∈rs,e∈es
 len:rs.length<=20
abbrev jm (rs:List cn):D:=.list (rs.map fun e=>ap e.name)
theorem KM (rs:List cn):noDs (rs.map fun e=>ap e.name)=true:=pR _ (fun _=>rfl) rs
theorem KN {fs:List Str}{es rs:List cn} (g:gT fs es) (h:OD es rs):jF [fS fs es,jm rs]=.ok (.bool true):=by
 have hl:=h.len
 unfold jF
 refine cz ?_
 unfold kG bG
 walk_at "zz"
 rw [show pB (jm rs)=true from KM rs,show u5 "list" (jm rs)=true from rfl]
 walk_at "zz"
 rw [decide_eq_false (by omega)]
 walk_at "zz"
 rw [if_pos (by omega)]
 rw [cO _ (fun e:cn=>ap e.name) (fun _=>cP true) rs fun e he=>eg rfl (by
  walk_at "zz"
  rw [ug g (g.ok e (h.mem e he)).name,ny g.nd (h.mem e he)]
  simp only [Q4]
  walk_at "zz"
  rw [OC])]
 walk_at "zz"
 rw [j3 _ (fun _=>true)]
 walk_at "zz"
 simp
theorem E5 {fs:List Str}{es rs:List cn} (g:gT fs es) (h:OD es rs):eO [fS fs es,jm rs]=.ok (.list (rs.map bN)):=by
 have hl:=h.len
 unfold eO
 refine cz ?_
 unfold j2 bG
 walk_at "zz"
 rw [KN g h]
 walk_at "zz"
 rw [if_pos (by omega)]
 rw [cO _ (fun e:cn=>ap e.name) bN rs fun e he=>eg rfl (by
  walk_at "zz"
  rw [ug g (g.ok e (h.mem e he)).name,ny g.nd (h.mem e he)]
  rfl)]
 walk_at "zz"
theorem Nk:Pr (.int 1)=.ok (.int (-1)):=rfl
theorem RY (g:aq->R D) (s:Sl) (ρ:aq):Jj g (s::ρ)=(g (s::ρ)).bind Pr:=id rfl
theorem vp {kt:D->aq->R aq}{gb:aq->R Fl}{d:D}{r:List D}{ρ ρ1 ρ2:aq} (h1:kt d ρ=.ok ρ1) (h2:gb ρ1=.ok (.nx ρ2)):jk kt gb (d::r) ρ=jk kt gb r ρ2:=by
 rw [jk,h1]
 simp only [h2]
theorem Nl (neg:Bool) (ds:List D) (h:cF ds=true):kz neg (.list ds) (.list [])=.ok (.bool (neg != decide (ds=[]))):=by
 unfold kz
 have h1:(bM ds).canLay0=true:=by simp only [e_];exact h
 have h3:min (bM ds).depth (bM []).depth<=60:=bE (nU _ _) (by decide)
 have h4:bq (.list ds) (.list [])=decide (ds=[]):=by
  cases ds with
  | nil=>rfl
  | cons x r=>simp [bq,jz]
 rw [h1,show (bM []).canLay0=true from rfl,decide_eq_true h3,h4]
 cases neg<;>cases decide (ds=[])<;>rfl
theorem Fx (ds:List D) (h:cF ds=true):kz true (.list ds) (.list [])=.ok (.bool (!decide (ds=[]))):=by rw [Nl true ds h,Bool.true_bne]
def AG (es:List cn):List (Str×D):=es.map fun e=>(e.name,bN e)
theorem BU:∀ es:List cn,J.lr (es.map fun e=>dg [.str e.name,bN e])=some (es.map fun e=>(rz e.name,bN e))
 | []=>rfl
 | e::r=>by
  show (oQ (.str e.name)).bind (fun y=>(J.lr (r.map fun e=>dg [.str e.name,bN e])).map ((y,bN e)::·))=_
  rw [BU r]
  rfl
theorem BV:∀ (l acc:List (Str×D)),((acc++l).map (·.1)).Nodup->l.foldl (fun a p=>xC a (.str p.1) p.2) (gO acc)=gO (acc++l)
 | [],acc,_=>by rw [bH];rfl
 | p::r,acc,nd=>by
  have hx:p.1∉acc.map (·.1):=by
   rw [bR,aK] at nd
   intro h
   exact (List.nodup_append.mp nd).2.2 _ h _ al rfl
  have hp:qh acc p.1 p.2=acc++[p]:=by
   unfold qh
   rw [if_neg]
   rw [nP]
   rintro ⟨q,hq,e⟩
   exact hx (List.mem_map.mpr ⟨q,hq,of_decide_eq_true e⟩)
  rw [iQ,Fm,hp]
  have:=BV r (acc++[p]) (by rwa [eJ])
  rwa [eJ] at this
theorem Nm {es:List cn} (nd:(es.map (·.name)).Nodup) (hl:es.length<=6):J.sH (.list (es.map fun e=>dg [.str e.name,bN e]))=.ok (.dict (gO (AG es))):=by
 have e:J.sH (.list (es.map fun e=>dg [.str e.name,bN e]))=if (es.map fun e=>dg [.str e.name,bN e]).length<=1000 then (match J.lr (es.map fun e=>dg [.str e.name,bN e]) with
  | some ps=>.ok (.dict (ps.foldl (fun a p=>xC a (kD p.1) p.2) []))
  | none=>.no) else .no:=rfl
 rw [e,if_pos (by rw [au];omega),BU]
 have:=BV (AG es) [] (by rw [fJ];unfold AG;rw [bL];exact nd)
 rw [fJ] at this
 rw [<- this]
 unfold AG
 simp only [qp]
 rfl
theorem KO {es:List cn} (nd:(es.map (·.name)).Nodup) {e:cn} (he:e∈es):b9 (.dict (gO (AG es))) (.str e.name)=.ok (bN e) :=
 Ky (l:=AG es) (by unfold AG;rw [bL];exact nd) (p:=(e.name,bN e)) (iy (f:=fun e=>(e.name,bN e)) he)
theorem KP (g:aq->R D) (s:Sl) (ρ:aq):J.sI g (s::ρ)=(g (s::ρ)).bind J.sH:=id rfl
structure Ac (fs:List Str) (es:List cn) (d:D):Prop where
 no:jF [fS fs es,d]=.ok (.bool false)
theorem BW {fs:List Str}{es:List cn}{d:D} (h0:pB d=true) (h1:u5 "list" d=false):Ac fs es d:=by
 refine ⟨?_⟩
 unfold jF
 refine cz ?_
 unfold kG bG
 walk_at "zz"
 rw [h0,h1]
 walk_at "zz"
theorem No {fs:List Str}{es:List cn}{ds:List D} (h0:pB (.list ds)=true) (h1:64<ds.length):Ac fs es (.list ds):=by
 refine ⟨?_⟩
 unfold jF
 refine cz ?_
 unfold kG bG
 walk_at "zz"
 rw [h0,show u5 "list" (.list ds)=true from rfl]
 walk_at "zz"
 rw [decide_eq_true (by omega)]
 walk_at "zz"
theorem sU {fs:List Str}{es:List cn}{ds:List D} (h0:pB (.list ds)=true) (hl:ds.length<=64) (b:D->Bool) (hb:∀ d∈ds,∃ r,cu [fS fs es,d]=.ok r/\Pk true r .none=.ok (.bool (b d))) (hz:ds.all b=false):Ac fs es (.list ds):=by
 refine ⟨?_⟩
 unfold jF
 refine cz ?_
 unfold kG bG
 walk_at "zz"
 rw [h0,show u5 "list" (.list ds)=true from rfl]
 walk_at "zz"
 rw [decide_eq_false (by omega)]
 walk_at "zz"
 rw [if_pos (by omega)]
 rw [show ds=ds.map (fun d:D=>d) from (List.map_id _).symm]
 rw [cO _ (fun d:D=>d) (fun d=>cP (b d)) ds fun d hd=>eg rfl (by
  obtain ⟨r,r1,r2⟩:=hb d hd
  walk_at "zz"
  rw [r1]
  walk_at "zz"
  rw [r2])]
 walk_at "zz"
 rw [j3 _ b]
 walk_at "zz"
 rw [uw,show (id∘b)=b from rfl,hz]
def sV (ns:List Str):List D:=[.none,.tuple (ns.map .str),.list ((ns++[("zzzzz" : Str)]).map .str),.list [.str "zzzzz"],.list [.none],.list [.list [.str "a"]],.str "a",.int 0,.list [.int 1]]
def BX (x:Str):List D:=[.list (bd 65 [ap x]).flatten,.tuple [.str x]]
theorem Ur {fs:List Str}{es:List cn} (g:gT fs es):∀ d∈sV (es.map (·.name)),Ac fs es d:=by
 have lg:=g.len
 have bz:∀ d,(d=.str "zzzzz"\/∃ e∈es,d=.str e.name)->∃ r,cu [fS fs es,d]=.ok r/\Pk true r .none=.ok (.bool (match d with
   | .str x=>!decide (x="zzzzz")
   | _=>false)):=by
  rintro d (rfl | ⟨e,he,rfl⟩)
  ·exact ⟨_,KJ g,rfl⟩
  ·refine ⟨_,ug g (g.ok e he).name,?_⟩
   rw [ny g.nd he]
   simp only [Q4]
   rw [OC,decide_eq_false (KI (g.ok e he).name)]
   rfl
 intro d hd
 unfold sV at hd
 simp only [aV,aJ,or_false] at hd
 rcases hd with rfl | rfl | rfl | rfl | rfl | rfl | rfl | rfl | rfl
 ·exact BW rfl rfl
 ·exact BW (nu _) rfl
 ·refine sU (pR _ (fun _=>rfl) _) (by simp;omega) _ (fun d hd=>bz d ?_) ?_
  ·obtain ⟨x,hx,rfl⟩:=List.mem_map.mp hd
   rcases List.mem_append.mp hx with z | z
   ·obtain ⟨e,he,rfl⟩:=List.mem_map.mp z
    exact .inr ⟨e,he,rfl⟩
   ·rw [List.mem_singleton.mp z];exact .inl rfl
  ·simp
 ·refine sU rfl (by decide) _ (fun d hd=>bz d (.inl (List.mem_singleton.mp hd))) (by simp)
 ·exact sU rfl (by decide) (fun _=>false) (fun d hd=>by rw [List.mem_singleton.mp hd];exact ⟨_,wN rfl rfl,rfl⟩) rfl
 ·exact sU rfl (by decide) (fun _=>false) (fun d hd=>by rw [List.mem_singleton.mp hd];exact ⟨_,wN rfl rfl,rfl⟩) rfl
 ·exact BW rfl rfl
 ·exact BW rfl rfl
 ·exact sU rfl (by decide) (fun _=>false) (fun d hd=>by rw [List.mem_singleton.mp hd];exact ⟨_,wN rfl rfl,rfl⟩) rfl
theorem Fz (x:D):∀ n:Nat,(bd n [x]).flatten=bd n x
 | 0=>rfl
 | n + 1=>by rw [cB,fM,Fz x n];rfl
theorem Us {fs:List Str}{es:List cn} (x:Str):∀ d∈BX x,Ac fs es d:=by
 intro d hd
 unfold BX at hd
 simp only [aV,aJ,or_false] at hd
 rcases hd with rfl | rfl
 ·rw [Fz,show bd 65 (ap x)=(bd 65 x).map .str from (List.map_replicate ..).symm]
  exact No (pR _ (fun _=>rfl) _) (by simp)
 ·exact BW rfl rfl
theorem BY (ns:List Int) (k:Int) (hk:0<=k) {L:List D}{P:D->Prop} (hL:0<L.length) (h:∀ d∈L,P d) (F:D) (b:Sl):∃ d,dv (g2 (rB 4) (f9 3 ba (J.ac (rS 0) (J.ac (rS 1) (J.ac (cf (J.ac (rB 4) J.aH) (ia j7)) J.aH)))) b9) [.shr (.list (ns.map .int)),.shr (.int k),.shr F,b,.own (.list L)]=.ok (.rt d)/\P d:=by
 have hm:=eI ns k (L.length:Nat) hk (by omega)
 obtain ⟨d,hd,e⟩:=KL (L:=L) (eF ns k (L.length:Nat) (by omega)) (fe ns k (L.length:Nat) (by omega))
 refine ⟨d,?_,h d hd⟩
 walk_at "zz"
 rw [hm]
 walk_at "zz"
 rw [e]
 walk_at "zz"
theorem Np (k:Nat) (g:aq->R D) (gl gh:aq->R (Option Int)) (ρ:aq) {d:D}{l h:Option Int} (h1:g ρ=.ok d) (h2:gl ρ=.ok l) (h3:gh ρ=.ok h):J.wC k g gl gh ρ=(yx d l h).bind (J.MR k):=by
 unfold J.wC
 rw [h1,bind_ok,h2,bind_ok,h3,bind_ok]
theorem Q5 (x:D) (r:List D):yx (.list (x::r)) none (some 1)=.ok (.list [x]):=by
 have e:yx (.list (x::r)) none (some 1)=.ok (.list (qg (x::r) none (some 1))):=rfl
 rw [e,show (1:Int)=((1:Nat):Int) from rfl,Kx _ 1 (by simp)]
 rfl
theorem yT {fs:List Str}{es:List cn} (g:gT fs es):cF (es.map fun e=>ap e.name)=true:=sP _ es fun e he=>pP (g.ok e he).name
theorem Nq (ns:List Int) (k:Int) (hk:0<=k) {fs:List Str}{es:List cn} (g:gT fs es):∃ d,jw [.list (ns.map .int),.int k,fS fs es]=.ok d/\Ac fs es d:=by
 suffices H:∃ d,iw (bG 5 [.list (ns.map .int),.int k,fS fs es])=.ok (.rt d)/\Ac fs es d by
  obtain ⟨d,h1,h2⟩:=H
  exact ⟨d,cz h1,h2⟩
 have lg:=g.len
 have b0:=Ur g
 have e3:(es.map fun e=>ap e.name)++[ap "zzzzz"]=((es.map (·.name))++[("zzzzz" : Str)]).map .str:=by rw [bR,bL];rfl
 have e1:(es.map fun e=>ap e.name)=(es.map (·.name)).map .str:=by rw [bL];rfl
 unfold iw bG
 generalize hG:dv _=G
 walk_at "zz"
 rw [Nf]
 walk_at "zz"
 rw [if_pos (by omega)]
 rw [cO _ bN (fun e=>ap e.name) es fun e he=>eg rfl (by
  walk_at "zz"
  rw [GZ])]
 walk_at "zz"
 rw [hW]
 walk_at "zz"
 rw [if_pos (by omega)]
 walk_at "zz"
 rw [e3]
 rw [Fx _ (yT g)]
 cases es with
 | nil =>
  walk_at "zz"
  rw [<- hG]
  exact BY ns k hk (L:=sV []) (by simp [sV]) b0 _ _
 | cons a r =>
  rw [decide_eq_false (by simp)]
  simp only [j9]
  walk_at "zz"
  rw [RX (ds:=sV ((a::r).map (·.name))) (es:=BX a.name)]
  ·walk_at "zz"
   rw [<- hG]
   exact BY ns k hk (L:=sV ((a::r).map (·.name))++BX a.name) (by simp [sV]) (fun d hd=>(List.mem_append.mp hd).elim (b0 d) (Us a.name d)) _ _
  ·rw [sV,<- e1]
   rfl
  ·walk_at "zz"
   rw [Np (d:=.list (ap a.name::r.map fun e=>ap e.name)) (l:=none) (h:=some 1) _ _ _ _ _ rfl rfl rfl,Q5]
   walk_at "zz"
   rw [show J.MR 65 (.list [ap a.name])=.ok (.list (bd 65 [ap a.name]).flatten) from rfl]
   walk_at "zz"
   rw [show b9 (.list (ap a.name::nQ (fun e=>ap e.name) r)) (.int 0)=.ok (.str a.name) from jT (j:=0) rfl]
   walk_at "zz"
   rfl
  ·simp [sV,BX]
theorem KQ (x:Str) (gs:aq->R (List D)) (s:Sl) (ρ:aq) {d:D} (h:gs (s::ρ)=.ok [d]):J.pH x gs (s::ρ)=.ex x none:=by
 unfold J.pH
 rw [h,bind_ok]
 rfl
theorem E6 {fs:List Str}{es:List cn}{d:D} (h:Ac fs es d):eO [fS fs es,d]=.ex "NoRow" none:=by
 unfold eO
 refine Kl ?_
 unfold j2 bG
 walk_at "zz"
 rw [h.no]
 walk_at "zz"
 rw [KQ (d:=.none) _ _ _ _ rfl]
 walk_at "zz"
theorem KR (gs:aq->R (List D)) (s:Sl) (ρ:aq):J.yJ gs (s::ρ)=(gs (s::ρ)).bind J.MO:=id rfl
theorem FA (ds:List D):J.MO [.list ds]=.ok (gS 0 ds):=rfl
def G_ (e:cn):Nat->Nat->List (List cn)->Nat
 | _,pl,[]=>pl
 | n,pl,p::r=>G_ e (n + 1) (if p.all (cD e) then pl else n + 1) r
abbrev de (pp:List (List cn)) (e:cn):Nat:=G_ e 0 0 pp
abbrev oX (pp:List (List cn)):List D:=pp.map fun p=>.list (p.map bN)
theorem FC {fs:List Str}{es:List cn} (g:gT fs es) {e:cn} (he:e∈es) (A:D):∀ (pp:List (List cn)) (n pl:Nat) (z3 z4:Sl),(∀ p∈pp,p.length<=1000/\∀ a∈p,a∈es) ->
  ∃ y3 y4,jk (jD 2 (bZ (bF 3) (bZ (bF 4) jX))) (fE (jP (gU (cf (J.ac (dZ 1 [1] (kA (rB 4)) kT (f9 2 jH (J.ac (rS 1) (J.ac (rS 0) J.aH)))) J.aH) (ia (gF fun bs=>bs.all id))))) (ir 2 (g2 (rB 3) (kI 1) cR)) (fun ρ=>.ok (.nx ρ))) (gS n (oX pp)) [.shr A,.shr (bN e),.shr (.int (pl:Nat)),z3,z4]=.ok (.nx [.shr A,.shr (bN e),.shr (.int (G_ e n pl pp:Nat)),y3,y4])
 | [],n,pl,z3,z4,_=>⟨z3,z4,rfl⟩
 | p::r,n,pl,z3,z4,h=>by
  obtain ⟨h1,h2⟩:=h p al
  obtain ⟨y3,y4,q⟩:=FC g he A r (n + 1) (if p.all (cD e) then pl else n + 1) (.shr (.int (n:Nat))) (.shr (.list (p.map bN))) fun a ha=>h a (ai _ ha)
  refine ⟨y3,y4,?_⟩
  rw [show gS n (oX (p::r))=.tuple [.int (n:Nat),.list (p.map bN)]::gS (n + 1) (oX r) from rfl]
  rw [vp (ρ1:=[.shr A,.shr (bN e),.shr (.int (pl:Nat)),.shr (.int (n:Nat)),.shr (.list (p.map bN))]) (ρ2:=[.shr A,.shr (bN e),.shr (.int ((if p.all (cD e) then pl else n + 1:Nat))),.shr (.int (n:Nat)),.shr (.list (p.map bN))]) rfl]
  ·exact q
  ·walk_at "zz"
   rw [if_pos h1]
   rw [cO _ bN (fun a=>cP (cD e a)) p fun a ha=>eg rfl (by
    walk_at "zz"
    rw [BR (sS g he) (sS g (h2 a ha))])]
   walk_at "zz"
   rw [j3 _ (cD e)]
   walk_at "zz"
   rw [uw,show (id∘cD e)=cD e from rfl]
   cases p.all (cD e) with
   | true=>rfl
   | false=>rfl
theorem KS {fs:List Str}{es:List cn} (g:gT fs es) {e:cn} (he:e∈es) {pp:List (List cn)} (h:∀ p∈pp,p.length<=1000/\∀ a∈p,a∈es):dW [.list (oX pp),bN e]=.ok (.int (de pp e:Nat)):=by
 obtain ⟨y3,y4,q⟩:=FC g he (.list (oX pp)) pp 0 0 .no .no h
 unfold dW
 refine cz ?_
 unfold i3 bG
 walk_at "zz"
 rw [qv (ds:=gS 0 (oX pp))]
 ·have q':=q
  rw [show ((0:Nat):Int)=0 from rfl] at q'
  rw [q']
  walk_at "zz"
 ·rw [KR]
  walk_at "zz"
  rw [FA]
def hX (pp:List (List cn)) (e:cn):List (List cn):=if de pp e=pp.length then pp++[[]] else pp
def ic (pp:List (List cn)) (e:cn):List (List cn):=(hX pp e).modify (de pp e) (·++[e])
theorem KU (e:cn):∀ (pp:List (List cn)) (n pl:Nat),pl<=n->G_ e n pl pp<=n + pp.length
 | [],n,pl,h=>by simpa [G_] using h
 | p::r,n,pl,h=>by
  have:=KU e r (n + 1) (if p.all (cD e) then pl else n + 1) (by split<;>omega)
  rw [bg]
  unfold G_
  omega
theorem KW (pp:List (List cn)) (e:cn):de pp e<=pp.length:=by
 have:=KU e pp 0 0 (ar _)
 rw [Nat.zero_add] at this
 exact this
theorem vq (pp:List (List cn)) (e:cn):∃ p,(hX pp e)[de pp e]?=some p/\(hX pp e).length<=pp.length + 1:=by
 have h:=KW pp e
 unfold hX
 by_cases hk:de pp e=pp.length
 ·rw [if_pos hk,hk]
  exact ⟨[],by simp,by simp⟩
 ·rw [if_neg hk]
  have:de pp e<pp.length:=by omega
  exact ⟨_,aC this,fR _⟩
abbrev e2 (pp:List (List cn)):List (List D):=pp.map fun p=>p.map bN
theorem Q6 {i:Nat}{ρ:aq}{dss:List (List D)} (hi:ρ[i]?=some (Sl.ow2 dss)) (hl:dss.length<1000):wF i ρ=.ok (.nx (ρ.set i (.ow2 (dss++[[]])))):=by
 unfold wF
 simp only [hi,if_pos hl]
theorem sW {pp:List (List cn)}{e:cn}{p:List cn} (h:(hX pp e)[de pp e]?=some p):ic pp e=(hX pp e).set (de pp e) (p++[e]):=by
 unfold ic
 refine ms fun i=>?_
 rw [List.getElem?_modify,List.getElem?_set]
 by_cases hi:de pp e=i
 ·subst hi
  rw [if_pos rfl,h,if_pos (List.getElem?_eq_some_iff.mp h).1]
  simp
 ·rw [if_neg hi]
  simp only [if_neg hi]
  cases (hX pp e)[i]?<;>rfl
def H9:aq->R Fl:=bf (ir 4 (DU qw 2 dW (J.ac (Lq 2) (J.ac (rS 3) J.aH)))) (bf (fE (gU (g2 (rB 4) (qW qw (J.ac (Lq 2) J.aH) (ia j7)) (kz false))) (wF 2) (fun ρ=>.ok (.nx ρ))) (jb 2 (rS 4) (rS 3)))
theorem RZ (ok:D->Bool) (n:Nat) (F:List D->R D) (gs:aq->R (List D)) (ρ:aq) {ds:List D} (h:gs ρ=.ok ds) (hn:ds.length=n):DU ok n F gs ρ=PR ok (F ds):=by
 unfold DU
 rw [h,bind_ok,if_pos hn]
theorem Nr (ok:D->Bool) (h:List D->R D) (gs:aq->R (List D)) (ρ:aq) {ds:List D} (hg:gs ρ=.ok ds):qW ok gs h ρ=PR ok (h ds):=by
 unfold qW
 rw [hg,bind_ok]
theorem Ad (pp:List (List cn)):(e2 pp).map bM=oX pp:=by
 show nQ bM (nQ _ pp)=_
 rw [bL]
 rfl
theorem Nt {fs:List Str}{es:List cn} (g:gT fs es) {e:cn} (he:e∈es) {pp:List (List cn)} (h:∀ p∈pp,p.length<1000/\∀ a∈p,a∈es) (hl:pp.length<900) (A B:D) (z4:Sl) :
  H9 [.shr A,.shr B,.ow2 (e2 pp),.shr (bN e),z4]=.ok (.nx [.shr A,.shr B,.ow2 (e2 (ic pp e)),.shr (bN e),.shr (.int (de pp e:Nat))]):=by
 obtain ⟨p,o1,o2⟩:=vq pp e
 have hp:p.length<1000:=by
  unfold hX at o1
  split at o1
  ·rename_i hk
   rw [aY (by omega),hk,D5] at o1
   cases o1
   exact (by decide)
  ·exact (h p (b_ o1)).1
 have e1:DU qw 2 dW (J.ac (Lq 2) (J.ac (rS 3) J.aH)) [.shr A,.shr B,.ow2 (e2 pp),.shr (bN e),z4]=.ok (.int (de pp e:Nat)):=by
  rw [RZ (ds:=[.list (oX pp),bN e]) qw 2 dW (J.ac (Lq 2) (J.ac (rS 3) J.aH)) [.shr A,.shr B,.ow2 (e2 pp),.shr (bN e),z4] (by rw [<- Ad];rfl) rfl,KS g he fun p hp=>⟨bi (h p hp).1,(h p hp).2⟩]
  rfl
 have e3:qW qw (J.ac (Lq 2) J.aH) (ia j7) [.shr A,.shr B,.ow2 (e2 pp),.shr (bN e),.shr (.int (de pp e:Nat))]=.ok (.int (pp.length:Nat)):=by
  rw [Nr (ds:=[.list (oX pp)]) qw (ia j7) (J.ac (Lq 2) J.aH) [.shr A,.shr B,.ow2 (e2 pp),.shr (bN e),.shr (.int (de pp e:Nat))] (by rw [<- Ad];rfl)]
  show PR qw (.ok (.int ((oX pp).length:Nat)))=_
  rw [au]
  rfl
 have fin:∀ qq,qq=hX pp e->jb 2 (rS 4) (rS 3) [.shr A,.shr B,.ow2 (e2 qq),.shr (bN e),.shr (.int (de pp e:Nat))]=.ok (.nx [.shr A,.shr B,.ow2 (e2 (ic pp e)),.shr (bN e),.shr (.int (de pp e:Nat))]):=by
  rintro qq rfl
  rw [wL (dss:=e2 (hX pp e)) (ds:=p.map bN) (d:=bN e) (j:=(de pp e:Nat)) rfl rfl (Int.natCast_nonneg _) (by rw [fQ,ay,o1];rfl) rfl (by rw [au];exact hp)]
  rw [fQ,sW o1]
  show R.ok (Fl.nx [_,_,Sl.ow2 _,_,_])=_
  rw [show e2 ((hX pp e).set (de pp e) (p++[e]))=(e2 (hX pp e)).set (de pp e) (p.map bN++[bN e]) from by
   show nQ _ _=_
   rw [List.map_set,bR]
   rfl]
 unfold H9
 walk_at "zz"
 rw [e1]
 walk_at "zz"
 rw [e3]
 walk_at "zz"
 rw [kO]
 walk_at "zz"
 simp only [Int.natCast_inj]
 by_cases hk:de pp e=pp.length
 ·rw [decide_eq_true hk]
  walk_at "zz"
  rw [Q6 (dss:=e2 pp) rfl (by rw [au];omega)]
  walk_at "zz"
  exact fin (pp++[[]]) (by unfold hX;rw [if_pos hk]) ▸ (by
   show jb 2 _ _ [.shr A,.shr B,.ow2 (e2 pp++[[]]),.shr (bN e),.shr (.int (de pp e:Nat))]=jb 2 _ _ [.shr A,.shr B,.ow2 (e2 (pp++[[]])),.shr (bN e),.shr (.int (de pp e:Nat))]
   rw [show e2 (pp++[[]])=e2 pp++[[]] from bR ..])
 ·rw [decide_eq_false hk]
  walk_at "zz"
  exact fin pp (by unfold hX;rw [if_neg hk])
theorem Nu {es:List cn}{e:cn} (he:e∈es) {pp:List (List cn)}{m:Nat} (h:∀ p∈pp,p.length<=m/\∀ a∈p,a∈es):∀ p∈ic pp e,p.length<=m + 1/\∀ a∈p,a∈es:=by
 obtain ⟨q,o1,o2⟩:=vq pp e
 have ho:∀ p∈hX pp e,p.length<=m/\∀ a∈p,a∈es:=fun p hp=>by
  unfold hX at hp
  split at hp
  ·rcases List.mem_append.mp hp with z | z
   ·exact h p z
   ·rw [List.mem_singleton.mp z];exact ⟨ck _,fun _ h=>(nomatch h)⟩
  ·exact h p hp
 rw [sW o1]
 intro p hp
 rcases List.mem_or_eq_of_mem_set hp with z | z
 ·exact ⟨Nat.le_succ_of_le (ho p z).1,(ho p z).2⟩
 ·have:=ho q (b_ o1)
  rw [z,aR,dY]
  refine ⟨Nat.succ_le_succ this.1,fun a ha=>?_⟩
  rcases List.mem_append.mp ha with w | w
  ·exact this.2 a w
  ·rw [List.mem_singleton.mp w];exact he
theorem KY (pp:List (List cn)) (e:cn):(ic pp e).length<=pp.length + 1:=by
 obtain ⟨q,o1,o2⟩:=vq pp e
 rw [sW o1,xh]
 exact o2
theorem vt {fs:List Str}{es:List cn} (g:gT fs es) (A B:D):∀ (rs:List cn) (pp:List (List cn)) (m:Nat) (z3 z4:Sl),(∀ e∈rs,e∈es)->(∀ p∈pp,p.length<=m/\∀ a∈p,a∈es)->m + rs.length<=100->pp.length<=m ->
  ∃ y3 y4,(∀ p∈rs.foldl ic pp,p.length<=m + rs.length/\∀ a∈p,a∈es)/\(rs.foldl ic pp).length<=m + rs.length/\jk (bF 3) H9 (rs.map bN) [.shr A,.shr B,.ow2 (e2 pp),z3,z4]=.ok (.nx [.shr A,.shr B,.ow2 (e2 (rs.foldl ic pp)),y3,y4])
 | [],pp,m,z3,z4,_,h,_,hp=>⟨z3,z4,h,hp,rfl⟩
 | e::r,pp,m,z3,z4,he,h,hl,hp=>by
  rw [bg] at hl
  have hm:=he e al
  have sl:=KY pp e
  obtain ⟨y3,y4,a1,a2,q⟩:=vt g A B r (ic pp e) (m + 1) (.shr (bN e)) (.shr (.int (de pp e:Nat))) (fun a ha=>he a (ai _ ha)) (Nu hm h) (by omega) (by omega)
  refine ⟨y3,y4,fun p hp=>?_,?_,?_⟩
  ·have:=a1 p hp
   rw [bg]
   exact ⟨by omega,this.2⟩
  ·rw [bg,iQ];omega
  ·rw [aK,vp (ρ1:=[.shr A,.shr B,.ow2 (e2 pp),.shr (bN e),z4]) rfl (Nt g hm (fun p hp=>⟨by have:=(h p hp).1;omega,(h p hp).2⟩) (by omega) A B z4)]
   exact q
theorem BZ:sL=bf (Bf (f9 1 mI (J.ac (rS 0) J.aH))) (bf (Kj 2) (bf (qx (kA (f9 2 eO (J.ac (rS 0) (J.ac (rS 1) J.aH)))) (bF 3) H9) (dv (dZ 1 [] (kA (rB 2)) kT (dZ 1 [] (kA (rB 0)) kT (g2 (rB 0) (kI 0) b9)))))):=rfl
theorem Q7 (gi:aq->R (List D)) (kt:D->aq->R aq) (gb:aq->R Fl) (s:Sl) (ρ:aq) {ds:List D} (h:gi (s::ρ)=.ok ds):qx gi kt gb (s::ρ)=jk kt gb ds (s::ρ):=by unfold qx;rw [h,bind_ok]
theorem Nv (gi:aq->R (List D)) (kt:D->aq->R aq) (gb:aq->R Fl) (s:Sl) (ρ:aq) {x:Str}{n:Option D} (h:gi (s::ρ)=.ex x n):qx gi kt gb (s::ρ)=.ex x n:=by unfold qx;rw [h,bind_ex]
theorem OE (a b:D):Kj 2 [.shr a,.shr b,.no,.no,.no]=.ok (.nx [.shr a,.shr b,.ow2 [],.no,.no]):=rfl
abbrev k8 (pp:List (List cn)):List D:=pp.map fun p=>.list (p.map fun e=>ap e.name)
theorem Ha {fs:List Str}{es rs:List cn} (g:gT fs es) (h:OD es rs):iu [fS fs es,jm rs]=.ok (.list (k8 (rs.foldl ic []))):=by
 have hl:=h.len
 obtain ⟨y3,y4,a1,a2,q⟩:=vt g (fS fs es) (jm rs) rs [] 0 .no .no h.mem (fun _ h=>(nomatch h)) (by omega) (ck _)
 unfold iu
 refine cz ?_
 rw [BZ]
 unfold bG
 walk_at "zz"
 rw [wM g]
 walk_at "zz"
 rw [OE]
 walk_at "zz"
 rw [Q7 (ds:=rs.map bN)]
 ·have q':jk (bF 3) H9 (rs.map bN) [.shr (fS fs es),.shr (jm rs),.ow2 [],.no,.no]=_:=q
  show ((jk (bF 3) H9 (rs.map bN) [.shr (fS fs es),.shr (jm rs),.ow2 [],.no,.no]).bind _)=_
  rw [q']
  walk_at "zz"
  rw [show ((e2 (rs.foldl ic [])).map bM)=oX (rs.foldl ic []) from Ad _]
  rw [if_pos (by omega)]
  rw [cO _ (fun p:List cn=>bM (p.map bN)) (fun p=>.list (p.map fun e=>ap e.name)) (rs.foldl ic []) fun p hp=>eg rfl (by
   have:=(a1 p hp).1
   walk_at "zz"
   rw [if_pos (by omega)]
   rw [cO _ bN (fun e=>ap e.name) p fun e he=>eg rfl (by
    walk_at "zz"
    rw [GZ])]
   walk_at "zz")]
  walk_at "zz"
 ·walk_at "zz"
  show ((eO [fS fs es,jm rs]).bind qT)=_
  rw [E5 g h]
  rfl
theorem Hb {fs:List Str}{es:List cn}{d:D} (g:gT fs es) (h:Ac fs es d):iu [fS fs es,d]=.ex "NoRow" none:=by
 unfold iu
 refine Kl ?_
 rw [BZ]
 unfold bG
 walk_at "zz"
 rw [wM g]
 walk_at "zz"
 rw [OE]
 walk_at "zz"
 rw [Nv (x:="NoRow") (n:=none)]
 ·walk_at "zz"
 ·walk_at "zz"
  show ((eO [fS fs es,d]).bind qT)=_
  rw [E6 h]
  rfl
theorem uE (a b:cn):cD a b=cD b a:=Bool.and_comm ..
def R_ (acc:List (cn×Nat)) (e:cn) (n:Nat):Prop:=(n=0\/∃ q∈acc,cD q.1 e=false/\n=q.2 + 1)/\∀ q∈acc,cD q.1 e=false->q.2 + 1<=n
theorem FD (e:cn):∀ (pp:List (List cn)) (n pl:Nat),(G_ e n pl pp=pl\/∃ t p,pp[t]?=some p/\p.all (cD e)=false/\G_ e n pl pp=n + t + 1)/\∀ t p,pp[t]?=some p->p.all (cD e)=false->n + t + 1<=G_ e n pl pp
 | [],n,pl=>⟨.inl rfl,fun t p h=>by simp at h⟩
 | p::r,n,pl=>by
  obtain ⟨h1,h2⟩:=FD e r (n + 1) (if p.all (cD e) then pl else n + 1)
  have e0:G_ e n pl (p::r)=G_ e (n + 1) (if p.all (cD e) then pl else n + 1) r:=rfl
  rw [<- e0] at h1 h2
  refine ⟨?_,fun t q hq hb=>?_⟩
  ·rcases h1 with h | ⟨t,q,a,b,c⟩
   ·cases hp:p.all (cD e) with
    | true=>rw [hp,if_pos rfl] at h;exact .inl h
    | false=>rw [hp,if_neg aL] at h;exact .inr ⟨0,p,rfl,hp,h⟩
   ·exact .inr ⟨t + 1,q,a,b,by omega⟩
  ·cases t with
   | zero =>
    cases hq
    rw [hb,if_neg aL] at h1
    rcases h1 with h | ⟨t,q,a,b,c⟩<;>omega
   | succ t =>
    have:=h2 t q hq hb
    omega
structure KZ (pp:List (List cn)) (acc:List (cn×Nat)):Prop where
 at_:∀ t p,pp[t]?=some p->p=(acc.filter fun q=>decide (q.2=t)).map (·.1)
 lt:∀ q∈acc,q.2<pp.length
 top:pp.length=0\/∃ q∈acc,q.2 + 1=pp.length
theorem Hc {pp:List (List cn)}{acc:List (cn×Nat)} (G:KZ pp acc) (e:cn):R_ acc e (de pp e):=by
 obtain ⟨h1,h2⟩:=FD e pp 0 0
 constructor
 ·rcases h1 with h | ⟨t,p,a,b,c⟩
  ·exact .inl h
  ·right
   rw [HR] at b
   obtain ⟨x,hx,hb⟩:=b
   rw [G.at_ t p a] at hx
   obtain ⟨q,hq,rfl⟩:=List.mem_map.mp hx
   obtain ⟨q1,q2⟩:=List.mem_filter.mp hq
   have q2:=of_decide_eq_true q2
   exact ⟨q,q1,by rw [uE];exact Bool.eq_false_iff.mpr hb,by show G_ e 0 0 pp=_;omega⟩
 ·intro q hq hb
  have hl:=G.lt q hq
  have hp:=aC hl
  have:=h2 q.2 _ hp (by
   rw [HR]
   refine ⟨q.1,?_,by rw [uE,hb];exact aL⟩
   rw [G.at_ _ _ hp]
   exact iy (f:=(·.1)) (List.mem_filter (p:=fun s:cn×Nat=>decide (s.2=q.2)) |>.mpr ⟨hq,decide_eq_true rfl⟩))
  show q.2 + 1<=G_ e 0 0 pp
  omega
theorem K_ {pp:List (List cn)}{acc:List (cn×Nat)} (G:KZ pp acc) (e:cn):∀ t p,(hX pp e)[t]?=some p->p=(acc.filter fun q=>decide (q.2=t)).map (·.1):=by
 intro t p h
 unfold hX at h
 split at h
 ·by_cases ht:t<pp.length
  ·rw [bn ht] at h
   exact G.at_ t p h
  ·rw [aY (by omega)] at h
   have hp:p=[]:=by
    cases hk:t - pp.length with
    | zero=>rw [hk] at h;cases h;rfl
    | succ k=>rw [hk] at h;simp at h
   rw [hp,List.filter_eq_nil_iff.mpr fun q hq=>by
    have:=G.lt q hq
    simp
    omega]
   rfl
 ·exact G.at_ t p h
theorem B_ {pp:List (List cn)}{acc:List (cn×Nat)} (G:KZ pp acc) (e:cn):KZ (ic pp e) (acc++[(e,de pp e)]):=by
 obtain ⟨p,o1,o2⟩:=vq pp e
 have og:=K_ G e
 have hk:=(List.getElem?_eq_some_iff.mp o1).1
 have hle:pp.length<=(hX pp e).length:=by
  unfold hX
  split
  ·simp
  ·exact ar _
 rw [sW o1]
 refine ⟨fun t q h=>?_,fun q hq=>?_,?_⟩
 ·rw [List.filter_append,bR]
  by_cases ht:de pp e=t
  ·subst ht
   rw [aw hk] at h
   cases h
   rw [<- og _ _ o1,List.filter_cons_of_pos (by simp)]
   rfl
  ·rw [ag ht] at h
   rw [List.filter_cons_of_neg (by simpa using ht),<- og _ _ h]
   simp
 ·rw [xh]
  rcases List.mem_append.mp hq with z | z
  ·have:=G.lt q z
   omega
  ·rw [List.mem_singleton.mp z];exact hk
 ·right
  rw [xh]
  by_cases hp:de pp e=pp.length
  ·refine ⟨(e,de pp e),aM _ al,?_⟩
   unfold hX
   rw [if_pos hp]
   simp [hp]
  ·have h0:hX pp e=pp:=by unfold hX;rw [if_neg hp]
   rw [h0] at hk ⊢
   rcases G.top with z | ⟨q,q1,q2⟩
   ·omega
   ·exact ⟨q,dC _ q1,q2⟩
def E7:List cn->List (List cn)->List (cn×Nat)->List (cn×Nat)
 | [],_,acc=>acc
 | e::r,pp,acc=>E7 r (ic pp e) (acc++[(e,de pp e)])
theorem FE:∀ (rs:List cn) (pp:List (List cn)) (acc:List (cn×Nat)),KZ pp acc->KZ (rs.foldl ic pp) (E7 rs pp acc)
 | [],_,_,h=>h
 | e::r,pp,acc,h=>FE r (ic pp e) _ (B_ h e)
theorem FF:∀ (rs:List cn) (pp:List (List cn)) (acc:List (cn×Nat)),(E7 rs pp acc).map (·.1)=acc.map (·.1)++rs
 | [],_,acc=>(bH _).symm
 | e::r,pp,acc=>by
  unfold E7
  rw [FF r,bR,eJ]
  rfl
theorem FG:KZ [] []:=⟨fun t p h=>by simp at h,fun _ h=>(nomatch h),.inl rfl⟩
theorem Hd {α:Type} (d:α):∀ l:List α,(bt l.length).map (fun j=>l.getD j d)=l:=fun l=>by
 refine ms fun i=>?_
 rw [ay]
 by_cases hi:i<l.length
 ·rw [kj hi,aC hi]
  show some (l.getD i d)=_
  rw [bT,aC hi]
  rfl
 ·rw [bj (by simpa using hi),bj (by omega)]
  rfl
theorem L3 {acc:List (cn×Nat)}{e:cn}{n:Nat} (h:R_ acc e n):J.yL (0::(acc.filter fun q=>!cD q.1 e).map fun q=>((q.2:Int) + 1))=(n:Int):=by
 refine (zW (m:=(n:Int)) ?_ fun a ha=>?_).symm
 ·rcases h.1 with z | ⟨q,a,b,c⟩
  ·rw [z];exact al
  ·exact ai _ (List.mem_map.mpr ⟨q,List.mem_filter.mpr ⟨a,by rw [b];rfl⟩,by omega⟩)
 ·rcases List.mem_cons.mp ha with z | z
  ·omega
  ·obtain ⟨q,hq,rfl⟩:=List.mem_map.mp z
   obtain ⟨q1,q2⟩:=List.mem_filter.mp hq
   have:=h.2 q q1 (by simpa using q2)
   omega
theorem L5 {pp:List (List cn)}{acc:List (cn×Nat)} (G:KZ pp acc):J.yL (-1::acc.map fun q=>(q.2:Int)) + 1=(pp.length:Int):=by
 have:(pp.length:Int) - 1=J.yL (-1::acc.map fun q=>(q.2:Int)):=by
  refine zW ?_ fun a ha=>?_
  ·rcases G.top with z | ⟨q,q1,q2⟩
   ·rw [z];exact al
   ·exact ai _ (List.mem_map.mpr ⟨q,q1,by omega⟩)
  ·rcases List.mem_cons.mp ha with z | z
   ·omega
   ·obtain ⟨q,hq,rfl⟩:=List.mem_map.mp z
    have:=G.lt q hq
    omega
 omega
theorem He {pp:List (List cn)}{acc:List (cn×Nat)} (G:KZ pp acc):(bt pp.length).map (fun t=>bM ((acc.filter fun q=>decide (q.2=t)).map fun q=>ap q.1.name))=k8 pp:=by
 refine ms fun t=>?_
 rw [ay,ay]
 by_cases ht:t<pp.length
 ·rw [kj ht]
  have hp:=aC ht
  rw [hp]
  show some (bM ((acc.filter fun q=>decide (q.2=t)).map fun q=>ap q.1.name))=some (bM (pp[t].map fun e=>ap e.name))
  rw [G.at_ _ _ hp,bL]
  rfl
 ·rw [bj (by simpa using ht),bj (by omega)]
  rfl
def Sg:aq->R Fl:=bf (g9 10 (dZ 1 [4,6,9,7] (lm (J.ac (rB 8) J.aH)) (jP (gU (f9 2 i6 (J.ac (g2 (rB 1) (g2 (rB 2) (rB 0) b9) b9) (J.ac (g2 (rB 1) (rB 3) b9) J.aH))))) (g2 (g2 (rB 4) (rB 0) b9) (kI 1) cR))) (ua 7 (cf (J.ac (g2 (dI (J.ac (kI 0) J.aH) .list) (rB 10) cR) J.aH) (ia xI)))
def Sh:aq->R Fl:=ua 11 (dZ 1 [7,12,6] (lm (J.ac (cf (J.ac (rB 6) J.aH) (ia j7)) J.aH)) (gU (g2 (g2 (rB 1) (rB 0) b9) (rB 2) (kz false))) (g2 (rB 3) (rB 0) b9))
theorem C0 {ns:List Int} (h:ns≠[]):xI (.list (ns.map .int))=.ok (.int (J.yL ns)):=by
 unfold xI
 simp only [wB,if_pos (List.length_pos_iff.mpr h)]
def C1:cn×Nat:=(⟨"",[],[],[],[],0⟩,0)
theorem sX {α:Type}{l:List α}{j:Nat} (d:α) (h:j<l.length):l[j]?=some (l.getD j d):=by
 rw [bT,aC h]
 rfl
theorem wO {acc:List (cn×Nat)} (p:cn×Nat->Bool) (f:cn×Nat->D):((bt acc.length).filter fun j=>p (acc.getD j C1)).map (fun j=>f (acc.getD j C1))=(acc.filter p).map f:=by
 have h:=Hd C1 acc
 have e:=congrArg (fun l=>(l.filter p).map f) h
 rw [List.filter_map,bL] at e
 exact e
theorem Nw {fs:List Str}{es rs:List cn} (g:gT fs es) (hr:OD es rs) (A1 A0 A2 A3 A5:Sl) {acc:List (cn×Nat)}{e:cn}{r:List cn}{pp:List (List cn)} (G:KZ pp acc) (hs:rs=acc.map (·.1)++e::r) (z10 z11 z12:Sl) :
  ∃ y10,Sg [A0,A1,A2,A3,.own (.dict (gO (AG es))),A5,.shr (jm rs),.own (.list (acc.map fun q=>aZ (q.2:Nat))),.shr (.int (acc.length:Nat)),.shr (.str e.name),z10,z11,z12]=.ok (.nx [A0,A1,A2,A3,.own (.dict (gO (AG es))),A5,.shr (jm rs),.own (.list ((acc++[(e,de pp e)]).map fun q=>aZ (q.2:Nat))),.shr (.int (acc.length:Nat)),.shr (.str e.name),y10,z11,z12]):=by
 have hl:=hr.len
 have hlen:acc.length<rs.length:=by rw [hs,aR,au,bg];omega
 have hee:e∈es:=hr.mem e (by rw [hs];exact aM _ al)
 have hmem:∀ j,j<acc.length->(acc.getD j C1).1∈es:=fun j hj=>hr.mem _ (by
  rw [hs]
  exact dC _ (iy (f:=(·.1)) (b_ (sX C1 hj))))
 have hrow:∀ j,j<acc.length->b9 (jm rs) (.int (j:Nat))=.ok (.str (acc.getD j C1).1.name):=fun j hj=>jT (by
  rw [hs,bR,bL,bn (by rw [au];exact hj),ay,sX C1 hj]
  rfl)
 have hnum:∀ j,j<acc.length->b9 (.list (acc.map fun q=>aZ (q.2:Nat))) (.int (j:Nat))=.ok (.int ((acc.getD j C1).2:Nat)):=fun j hj=>jT (by
  rw [ay,sX C1 hj]
  rfl)
 have key:gy (ib 1 [.no,.lck (.dict (gO (AG es))),.shr (jm rs),.shr (.str e.name),.lck (.list (acc.map fun q=>aZ (q.2:Nat)))] (jP (gU (f9 2 i6 (J.ac (g2 (rB 1) (g2 (rB 2) (rB 0) b9) b9) (J.ac (g2 (rB 1) (rB 3) b9) J.aH))))) (g2 (g2 (rB 4) (rB 0) b9) (kI 1) cR)) ((bt acc.length).map fun (j:Nat)=>aZ (j:Int))=.ok (((acc.filter fun q=>!cD q.1 e).map fun q=>((q.2:Int) + 1)).map .int):=by
  rw [jZ _ (fun (j:Nat)=>aZ (j:Int)) (fun j=>aZ (((acc.getD j C1).2:Int) + 1)) (fun j=>!cD (acc.getD j C1).1 e) (bt acc.length) fun j hj=>zS (by
   have hj:=List.mem_range.mp hj
   walk_at "zz"
   rw [hrow j hj]
   walk_at "zz"
   rw [KO g.nd (hmem j hj)]
   walk_at "zz"
   rw [KO g.nd hee]
   walk_at "zz"
   rw [E4 (sS g (hmem j hj)) (sS g hee)]
   walk_at "zz") fun _=>(by
   have hj:=List.mem_range.mp hj
   walk_at "zz"
   rw [hnum j hj]
   walk_at "zz")]
  rw [wO (fun q=>!cD q.1 e) (fun q=>aZ ((q.2:Int) + 1)),bL]
  rfl
 have la:(acc.filter fun q=>!cD q.1 e).length<=acc.length:=List.length_filter_le _ _
 refine ⟨.own (.list (((acc.filter fun q=>!cD q.1 e).map fun q=>((q.2:Int) + 1)).map .int)),?_⟩
 unfold Sg
 walk_at "zz"
 rw [nq _ (by omega)]
 walk_at "zz"
 rw [fO,if_pos (by omega),key]
 walk_at "zz"
 rw [Fs (ds:=acc.map fun q=>aZ (q.2:Nat)) (d:=.int (de pp e:Nat)) rfl ?_ (by rw [au];omega)]
 ·rw [bR]
  rfl
 ·walk_at "zz"
  rw [if_pos (by omega)]
  walk_at "zz"
  show (xI (.list ((0::(acc.filter fun q=>!cD q.1 e).map fun q=>((q.2:Int) + 1)).map .int)))=_
  rw [C0 (by simp),L3 (Hc G e)]
theorem FH {fs:List Str}{es rs:List cn} (g:gT fs es) (hr:OD es rs) (A1 A0 A2 A3 A5:Sl):∀ (r:List cn) (acc:List (cn×Nat)) (pp:List (List cn)) (z8 z9 z10 z11 z12:Sl),KZ pp acc->rs=acc.map (·.1)++r ->
  ∃ y8 y9 y10,jk (jD 2 (bZ (bF 8) (bZ (bF 9) jX))) Sg (gS acc.length (r.map fun e=>ap e.name)) [A0,A1,A2,A3,.own (.dict (gO (AG es))),A5,.shr (jm rs),.own (.list (acc.map fun q=>aZ (q.2:Nat))),z8,z9,z10,z11,z12]=.ok (.nx [A0,A1,A2,A3,.own (.dict (gO (AG es))),A5,.shr (jm rs),.own (.list ((E7 r pp acc).map fun q=>aZ (q.2:Nat))),y8,y9,y10,z11,z12])
 | [],acc,pp,z8,z9,z10,z11,z12,_,_=>⟨z8,z9,z10,rfl⟩
 | e::r,acc,pp,z8,z9,z10,z11,z12,G,hs=>by
  obtain ⟨w10,q1⟩:=Nw g hr A1 A0 A2 A3 A5 G hs z10 z11 z12
  obtain ⟨y8,y9,y10,q⟩:=FH g hr A1 A0 A2 A3 A5 r (acc++[(e,de pp e)]) (ic pp e) (.shr (.int (acc.length:Nat))) (.shr (.str e.name)) w10 z11 z12 (B_ G e) (by rw [hs,bR,eJ];rfl)
  refine ⟨y8,y9,y10,?_⟩
  rw [aK,show gS acc.length (ap e.name::r.map fun e=>ap e.name)=.tuple [.int (acc.length:Nat),.str e.name]::gS (acc.length + 1) (r.map fun e=>ap e.name) from rfl]
  rw [aR,dY] at q
  have hk:jD 2 (bZ (bF 8) (bZ (bF 9) jX)) (.tuple [.int (acc.length:Nat),.str e.name]) [A0,A1,A2,A3,.own (.dict (gO (AG es))),A5,.shr (jm rs),.own (.list (acc.map fun q=>aZ (q.2:Nat))),z8,z9,z10,z11,z12]=.ok [A0,A1,A2,A3,.own (.dict (gO (AG es))),A5,.shr (jm rs),.own (.list (acc.map fun q=>aZ (q.2:Nat))),.shr (.int (acc.length:Nat)),.shr (.str e.name),z10,z11,z12]:=rfl
  have h2:=vp (r:=gS (acc.length + 1) (r.map fun e=>ap e.name)) hk q1
  exact h2.trans q
theorem Nx {es rs:List cn} (hr:OD es rs) (A1 A0 A2 A3 A4 A5:Sl) {acc:List (cn×Nat)} (hs:rs=acc.map (·.1)) (t:Nat) (due:List D) (hd:due.length<1000) (z8 z9 z10:Sl) :
  Sh [A0,A1,A2,A3,A4,A5,.shr (jm rs),.own (.list (acc.map fun q=>aZ (q.2:Nat))),z8,z9,z10,.own (.list due),.shr (.int (t:Nat))]=.ok (.nx [A0,A1,A2,A3,A4,A5,.shr (jm rs),.own (.list (acc.map fun q=>aZ (q.2:Nat))),z8,z9,z10,.own (.list (due++[bM ((acc.filter fun q=>decide (q.2=t)).map fun q=>ap q.1.name)])),.shr (.int (t:Nat))]):=by
 have hl:=hr.len
 have hlen:rs.length=acc.length:=by rw [hs,au]
 have hrow:∀ j,j<acc.length->b9 (jm rs) (.int (j:Nat))=.ok (.str (acc.getD j C1).1.name):=fun j hj=>jT (by
  rw [hs,bL,ay,sX C1 hj]
  rfl)
 have hnum:∀ j,j<acc.length->b9 (.list (acc.map fun q=>aZ (q.2:Nat))) (.int (j:Nat))=.ok (.int ((acc.getD j C1).2:Nat)):=fun j hj=>jT (by
  rw [ay,sX C1 hj]
  rfl)
 unfold Sh
 rw [Fs (ds:=due) (d:=bM ((acc.filter fun q=>decide (q.2=t)).map fun q=>ap q.1.name)) rfl ?_ hd]
 ·rfl
 ·walk_at "zz"
  rw [hlen,nq _ (by omega)]
  walk_at "zz"
  rw [fO,if_pos (by omega)]
  rw [jZ _ (fun (j:Nat)=>aZ (j:Int)) (fun j=>ap (acc.getD j C1).1.name) (fun j=>decide ((acc.getD j C1).2=t)) (bt acc.length) fun j hj=>zS (by
   have hj:=List.mem_range.mp hj
   walk_at "zz"
   rw [hnum j hj]
   walk_at "zz"
   rw [kO]
   walk_at "zz"
   simp only [Int.natCast_inj]) fun _=>(by
   have hj:=List.mem_range.mp hj
   walk_at "zz"
   rw [hrow j hj])]
  walk_at "zz"
  rw [wO (fun q=>decide (q.2=t)) (fun q=>ap q.1.name)]
theorem FI {es rs:List cn} (hr:OD es rs) (A1 A0 A2 A3 A4 A5:Sl) {acc:List (cn×Nat)} (hs:rs=acc.map (·.1)) (z8 z9 z10:Sl):∀ (n t:Nat) (due:List D) (z12:Sl),due.length + n<=900 ->
  ∃ y12,jk (bF 12) Sh ((vF t n).map fun (i:Nat)=>aZ (i:Int)) [A0,A1,A2,A3,A4,A5,.shr (jm rs),.own (.list (acc.map fun q=>aZ (q.2:Nat))),z8,z9,z10,.own (.list due),z12]=.ok (.nx [A0,A1,A2,A3,A4,A5,.shr (jm rs),.own (.list (acc.map fun q=>aZ (q.2:Nat))),z8,z9,z10,.own (.list (due++(vF t n).map fun t=>bM ((acc.filter fun q=>decide (q.2=t)).map fun q=>ap q.1.name))),y12])
 | 0,t,due,z12,_=>⟨z12,by rw [List.range'_zero,dL,dL,bH];rfl⟩
 | n + 1,t,due,z12,h=>by
  obtain ⟨y12,q⟩:=FI hr A1 A0 A2 A3 A4 A5 hs z8 z9 z10 n (t + 1) (due++[bM ((acc.filter fun q=>decide (q.2=t)).map fun q=>ap q.1.name)]) (.shr (.int (t:Nat))) (by rw [aR,dY];omega)
  refine ⟨y12,?_⟩
  rw [eJ] at q
  rw [List.range'_succ,aK,aK]
  have hk:bF 12 (.int (t:Nat)) [A0,A1,A2,A3,A4,A5,.shr (jm rs),.own (.list (acc.map fun q=>aZ (q.2:Nat))),z8,z9,z10,.own (.list due),z12]=.ok [A0,A1,A2,A3,A4,A5,.shr (jm rs),.own (.list (acc.map fun q=>aZ (q.2:Nat))),z8,z9,z10,.own (.list due),.shr (.int (t:Nat))]:=rfl
  have h2:=vp (r:=(vF (t + 1) n).map fun (i:Nat)=>aZ (i:Int)) hk (Nx hr A1 A0 A2 A3 A4 A5 hs t due (by omega) z8 z9 z10)
  exact h2.trans q
theorem L6 {fs:List Str}{es:List cn} (g:gT fs es) {pp:List (List cn)} (h:∀ p∈pp,∀ a∈p,a∈es):kz true (.list (k8 pp)) (.list (k8 pp))=.ok (.bool false):=by
 have h1:(bM (k8 pp)).canLay0=true:=by
  simp only [e_]
  refine sP _ pp fun p hp=>?_
  simp only [e_]
  exact sP _ p fun e he=>pP (g.ok e (h p hp e he)).name
 have h2:(bM (k8 pp)).depth<=60:=by
  have:=uf (fun p:List cn=>bM (p.map fun e=>ap e.name)) 1 (fun p=>by
   have:=uf (fun e:cn=>ap e.name) 0 (fun x=>by simp [AE]) p
   simp only [AE]
   omega) pp
  have:nV (k8 pp)<=1:=this
  simp only [AE]
  omega
 have h3:bq (.list (k8 pp)) (.list (k8 pp))=true:=by
  simp only [bq]
  refine ue _ (fun p=>?_) pp
  simp only [bq]
  exact ue _ (fun e=>by rw [nr];simp) p
 unfold kz
 rw [h1,h3,decide_eq_true (bE (Nat.min_le_left _ _) h2)]
 rfl
theorem Ut:Kk "NoRow"=some 4:=by decide +kernel
theorem S0:kz false (.tuple [.str "refused",.int 4]) (.tuple [.str "refused",.int 4])=.ok (.bool true):=Nj (by decide +kernel)
def Ua:aq->R Fl:=bf (fE (gU (g2 (f9 2 (sG Kk iu) (J.ac (rS 1) (J.ac (rS 6) J.aH))) (rB 11) (kz true))) (dv (kB false)) (fun ρ=>.ok (.nx ρ))) (dv (g2 (f9 2 (sG Kk iu) (J.ac (rS 1) (J.ac (f9 3 jw (J.ac (rS 0) (J.ac (kI 1) (J.ac (rS 1) J.aH)))) J.aH))) (dI (J.ac (fun _=>.ok (.str "refused")) (J.ac (kI 4) J.aH)) .tuple) (kz false)))
def Tr:aq->R Fl:=bf (g9 7 (dI J.aH .list)) (bf (PF 6 (nY (J.yJ (J.ac (rS 6) J.aH)) (jD 2 (bZ (bF 8) (bZ (bF 9) jX))) Sg)) (bf (g9 11 (dI J.aH .list)) (bf (nY (lm (J.ac (g2 (cf (J.ac (g2 (dI (J.ac (Jj (kI 1)) J.aH) .list) (rB 7) cR) J.aH) (ia xI)) (kI 1) cR) J.aH)) (bF 12) Sh) Ua)))
theorem L7:Ff=bf (wl (f9 3 kL (J.ac (rS 0) (J.ac (kI 6) (J.ac (kI 6) J.aH)))) (jD 3 (bZ (bF 1) (bZ (bF 2) (bZ (bF 3) jX))))) (bf (g9 4 (J.sI (dZ 1 [] (kA (g2 (rB 1) (kI 1) b9)) kT (dI (J.ac (g2 (rB 0) (kI 0) b9) (J.ac (rS 0) J.aH)) .tuple)))) (bf (ir 5 (cf (J.ac (rB 4) J.aH) (ia jt))) (bf (g9 6 (dI J.aH .list)) (bf (fE (gU (g2 (rB 5) (dI J.aH .list) (kz true))) (g9 6 (dZ 1 [5,0] (lm (J.ac (f9 3 ba (J.ac (rS 0) (J.ac (kI 0) (J.ac (kI 11) J.aH)))) J.aH)) kT (g2 (rB 1) (f9 3 ba (J.ac (rS 2) (J.ac (g2 (kI 300) (rB 0) cR) (J.ac (cf (J.ac (rB 1) J.aH) (ia j7)) J.aH)))) b9))) (fun ρ=>.ok (.nx ρ))) Tr)))):=rfl
theorem L8 {fs:List Str}{es rs:List cn} (g:gT fs es) (hr:OD es rs) (ns:List Int) (A2 A3 A5:D) :
  Tr [.shr (.list (ns.map .int)),.shr (fS fs es),.shr A2,.shr A3,.own (.dict (gO (AG es))),.shr A5,.own (jm rs),.no,.no,.no,.no,.no,.no]=.ok (.rt (.bool true)):=by
 have hl:=hr.len
 obtain ⟨y8,y9,y10,q1⟩:=FH g hr (.shr (fS fs es)) (.shr (.list (ns.map .int))) (.shr A2) (.shr A3) (.shr A5) rs [] [] .no .no .no .no .no FG rfl
 have G:=FE rs [] [] FG
 have hf:=FF rs [] []
 rw [dL,fJ] at hf
 have gm:∀ p∈rs.foldl ic [],∀ a∈p,a∈es:=by
  obtain ⟨_,_,a1,_⟩:=vt g (fS fs es) (jm rs) rs [] 0 .no .no hr.mem (fun _ h=>(nomatch h)) (by omega) (ck _)
  exact fun p hp=>(a1 p hp).2
 have pl:(rs.foldl ic []).length<=100:=by
  obtain ⟨_,_,_,a2,_⟩:=vt g (fS fs es) (jm rs) rs [] 0 .no .no hr.mem (fun _ h=>(nomatch h)) (by omega) (ck _)
  omega
 have hlen:(E7 rs [] []).length=rs.length:=by
  have:=congrArg ql hf
  rwa [au] at this
 obtain ⟨d,d1,d2⟩:=Nq ns 1 (by decide) g
 have gh:=L5 G
 have gn:=He G
 generalize hN:E7 rs [] []=acc at *
 generalize hP:rs.foldl ic []=pp at *
 obtain ⟨y12,q2⟩:=FI hr (.shr (fS fs es)) (.shr (.list (ns.map .int))) (.shr A2) (.shr A3) (.own (.dict (gO (AG es)))) (.shr A5) hf.symm y8 y9 y10 pp.length 0 [] .no (by simp;omega)
 unfold Tr
 walk_at "zz"
 simp only [PF]
 rw [DP rfl]
 simp only [le,lc]
 rw [qv (ds:=gS 0 (rs.map fun e=>ap e.name))]
 ·have q1':=q1
  rw [dL,dR] at q1'
  rw [q1']
  walk_at "zz"
  rw [qv (ds:=(vF 0 pp.length).map fun (i:Nat)=>aZ (i:Int))]
  ·rw [q2,fJ,<- Ew,gn]
   unfold Ua
   walk_at "zz"
   rw [KH,Ha g hr,Nh,hP]
   walk_at "zz"
   rw [L6 g gm]
   walk_at "zz"
   rw [d1]
   walk_at "zz"
   rw [KH,Hb g d2,Ni Ut]
   walk_at "zz"
   rw [show ((4:Nat):Int)=4 from rfl,S0]
   walk_at "zz"
  ·walk_at "zz"
   rw [RY]
   walk_at "zz"
   rw [Nk]
   walk_at "zz"
   rw [if_pos (by omega)]
   walk_at "zz"
   rw [show (aZ (-1)::acc.map fun q=>aZ (q.2:Nat))=(-1::acc.map fun q=>(q.2:Int)).map .int from by rw [aK,bL];rfl]
   rw [C0 (by simp)]
   walk_at "zz"
   rw [gh,nq _ (by omega),Ew]
 ·rw [KR]
  walk_at "zz"
  rw [FA]
theorem law_true (ns:List Int):F_law [.list (ns.map .int)]=.ok (.bool true):=by
 obtain ⟨fs,es,ss,wm,wb,hc,gb,gs,gw⟩:=Ng ns 6 6 (by decide) (by decide) (by decide) (by decide)
 have lg:=gb.len
 have m0:=eF ns 0 11 (by decide)
 have m1:=fe ns 0 11 (by decide)
 unfold F_law
 refine cz ?_
 rw [L7]
 unfold bG
 walk_at "zz"
 rw [hc]
 walk_at "zz"
 rw [To]
 walk_at "zz"
 rw [KP]
 walk_at "zz"
 rw [Nf]
 walk_at "zz"
 rw [if_pos (by omega)]
 rw [cO _ bN (fun e=>dg [.str e.name,bN e]) es fun e he=>eg rfl (by
  walk_at "zz"
  rw [GZ]
  walk_at "zz")]
 walk_at "zz"
 rw [Nm gb.nd gb.len]
 walk_at "zz"
 rw [wI]
 walk_at "zz"
 have e1:((AG es).map (·.1)).map ap=es.map fun e=>ap e.name:=by unfold AG;rw [bL,bL];rfl
 rw [e1,Fx _ (yT gb)]
 by_cases he:es=[]
 ·rw [decide_eq_true (by simpa using he)]
  walk_at "zz"
  exact L8 (rs:=[]) gb ⟨fun _ h=>(nomatch h),by simp⟩ ns (cm ss) (E3 wm wb) _
 ·rw [decide_eq_false (by simpa using he)]
  walk_at "zz"
  have hp:0<es.length:=List.length_pos_iff.mpr he
  have hx:∀ j:Nat,∃ e∈es,b9 (.list (es.map fun e=>ap e.name)) (.int (eG ns (300 + (j:Int)) (es.length:Nat)))=.ok (.str e.name):=fun j=>by
   obtain ⟨d,hd,hix⟩:=KL (L:=es.map fun e=>ap e.name) (j:=eG ns (300 + (j:Int)) (es.length:Nat)) (eF ns _ (es.length:Nat) (by omega)) (by rw [au];exact fe ns _ (es.length:Nat) (by omega))
   obtain ⟨e,he,rfl⟩:=List.mem_map.mp hd
   exact ⟨e,he,hix⟩
  rw [eI ns 0 11 (by decide) (by decide)]
  obtain ⟨n,hn⟩:∃ n:Nat,eG ns 0 11=n:=⟨_,(dQ m0).symm⟩
  rw [hn]
  walk_at "zz"
  rw [nq _ (by omega)]
  walk_at "zz"
  rw [fO,if_pos (by omega)]
  rw [cO _ (fun (j:Nat)=>aZ (j:Int)) (fun j=>ap (lY (hx j)).name) (bt n) fun j hj=>eg rfl (by
   walk_at "zz"
   rw [eI ns _ _ (by omega) (by omega)]
   walk_at "zz"
   exact (y7 (hx j)).2)]
  walk_at "zz"
  have e2:(bt n).map (fun j=>ap (lY (hx j)).name)=((bt n).map fun j=>lY (hx j)).map fun e=>ap e.name:=by rw [bL];rfl
  rw [e2]
  refine L8 (rs:=(bt n).map fun j=>lY (hx j)) gb ⟨fun e h=>?_,by simp;omega⟩ ns (cm ss) (E3 wm wb) _
  obtain ⟨j,_,rfl⟩:=List.mem_map.mp h
  exact (y7 (hx j)).1
end Z
end
namespace Z
open PySem L2 J
section
def top (i:Nat):cw:=PySem.Challenge.pw_errands_k22_rounds.main.body.getD i (.Pass ⟨0,0,0,0⟩)
section
variable {e:En}
abbrev oY:cw:=top 51
def C2:List Str:=["NoBook","NoState","NoWant","NoErrand","NoRow","NoWay","NoPaper","NoFacts","NoNumber","Nothing","NoText"]
theorem sY:bJ ["_law_e","_law_own"] ["_law_e"] (av oY):=eR (by decide +kernel)
theorem xJ {f:aa}{fd:cX} (F:AT e.K "_law_which" "_law_which" oY f fd) (B:Bi e.mg) (mv:e.mg "ValueError"=none) (mc:∀ n∈C2,e.mg n=some (.ref (e.cls n))):B8 e.P e.w e.K e.mg e.base 1 f fd ["_law_e"] (Px e.K e.base e.cls C2):=by
 refine F.okH sY (fun vs H Q E h=>?_) (fun cdv A outer s H vs Q E hr h=>?_)
 ·obtain ⟨_,_,_,rfl,_⟩:=h;rfl
 obtain ⟨ea,C,j,rfl,hH,x,q⟩:=h
 refine ⟨_,iY (vM (i:=1) sY.nd rfl (eP rfl) (jO (bK (kF (names:=C2) (cls:=e.cls) (base:=e.base) (pv 0) rfl B.isinstance rfl (mc "NoBook" (by decide +kernel))) (bK (kF (names:=C2) (cls:=e.cls) (base:=e.base) (pv 0) rfl B.isinstance rfl (mc "NoState" (by decide +kernel))) (bK (kF (names:=C2) (cls:=e.cls) (base:=e.base) (pv 0) rfl B.isinstance rfl (mc "NoWant" (by decide +kernel))) (bK (kF (names:=C2) (cls:=e.cls) (base:=e.base) (pv 0) rfl B.isinstance rfl (mc "NoErrand" (by decide +kernel))) dB))))))
  (iY (mU (uz cG lV lW yj (pv 1) (bK (jO (bK (kF (names:=C2) (cls:=e.cls) (base:=e.base) (pv 0) rfl B.isinstance rfl (mc "NoRow" (by decide +kernel))) (bK (kF (names:=C2) (cls:=e.cls) (base:=e.base) (pv 0) rfl B.isinstance rfl (mc "NoWay" (by decide +kernel))) (bK (kF (names:=C2) (cls:=e.cls) (base:=e.base) (pv 0) rfl B.isinstance rfl (mc "NoPaper" (by decide +kernel))) (bK (kF (names:=C2) (cls:=e.cls) (base:=e.base) (pv 0) rfl B.isinstance rfl (mc "NoFacts" (by decide +kernel))) dB))))) dB)))
  (iY (mU (uz cG lV lW yj (pv 1) (bK (jO (bK (kF (names:=C2) (cls:=e.cls) (base:=e.base) (pv 0) rfl B.isinstance rfl (mc "NoNumber" (by decide +kernel))) (bK (kF (names:=C2) (cls:=e.cls) (base:=e.base) (pv 0) rfl B.isinstance rfl (mc "Nothing" (by decide +kernel))) (bK (kF (names:=C2) (cls:=e.cls) (base:=e.base) (pv 0) rfl B.isinstance rfl (mc "NoText" (by decide +kernel))) dB)))) dB)))
  (iY (NA (PW.pt (Nz (Ez Qr (uz cG x_ PySem.F.type_list_count Gm (pv 1) (bK HU dB)) D7 (Db _)) (HY (HZ (HX (MG (names:=C2) (cls:=e.cls) (base:=e.base) (pv 0) rfl B.isinstance rfl mv)))))) mx Ey)
  (rX (zh (Il (bK HV (bK (uz cG y0 PySem.F.type_list_index Gn (pv 1) (bK HU dB)) dB)))))))),?_⟩
 refine ⟨ea,C,j,0,rfl,hH,x,rfl,ea,C,j,1,rfl,hH,x,rfl,ea,C,j,2,rfl,hH,x,rfl,ea,C,j,3,rfl,hH,x,rfl,bi (bU (show 4<=1000 by decide)),fun p hp=>?_⟩
 have np:ea≠p:=aW hH hp
 have hH1:∀ o,upd H p o ea=some (w5 ea C):=fun o=>by rw [aQ np];exact hH
 refine ⟨_,rfl,.inl ⟨rfl,_,.of aX⟩,?_⟩
 refine ⟨ea,C,j,4,rfl,hH1 _,x,rfl,ea,C,j,5,rfl,hH1 _,x,rfl,ea,C,j,6,rfl,hH1 _,x,rfl,ea,C,j,7,rfl,hH1 _,x,rfl,bi (bU (show 4<=1000 by decide)),fun p2 hp2=>?_⟩
 have np2:p≠p2:=aW aX hp2
 have ne2:ea≠p2:=aW (hH1 _) hp2
 refine ⟨p,p2,([decide (0=j),decide (1=j),decide (2=j),decide (3=j)].map V.bl),_,rfl,rfl,by rw [aQ np2];exact aX,aX,bi (bU (show 8<=1000 by decide)),?_⟩
 have hH2:∀ o u,upd (upd (upd H p o) p2 u) p (.lst (([decide (0=j),decide (1=j),decide (2=j),decide (3=j)]++[decide (4=j),decide (5=j),decide (6=j),decide (7=j)]).map V.bl)) ea=some (w5 ea C):=fun o u=>by rw [aQ np,aQ ne2];exact hH1 _
 refine ⟨_,rfl,.inl ⟨rfl,_,.of aX⟩,?_⟩
 refine ⟨ea,C,j,8,rfl,hH2 _ _,x,rfl,ea,C,j,9,rfl,hH2 _ _,x,rfl,ea,C,j,10,rfl,hH2 _ _,x,rfl,bi (bU (show 3<=1000 by decide)),fun p3 hp3=>?_⟩
 have np3:p≠p3:=aW aX hp3
 have ne3:ea≠p3:=aW (hH2 _ _) hp3
 refine ⟨p,p3,(([decide (0=j),decide (1=j),decide (2=j),decide (3=j)]++[decide (4=j),decide (5=j),decide (6=j),decide (7=j)]).map V.bl),_,rfl,rfl,by rw [aQ np3];exact aX,aX,bi (bU (show 11<=1000 by decide)),?_⟩
 refine ⟨_,rfl,.inl ⟨rfl,_,.of aX⟩,p,v8 j,rfl,rfl,.of aX,?_⟩
 rw [DM j x.lt]
 refine ⟨rfl,_,rfl,zr ⟨ea,C,j,rfl,?_,x,_,rfl,zr ?_⟩⟩
 ·rw [aQ np,aQ ne3];exact hH2 _ _
 obtain ⟨b1,b2⟩:=MF j x.lt
 refine ⟨_,rfl,.inl ⟨rfl,_,.of aX⟩,p,v8 j,j,rfl,rfl,.of aX,b1,b2,bi (aD x.lt (by decide)),bi (bU (show 2<=1000 by decide)),fun t ht=>?_⟩
 have s1:cW H _:=iq (o:=.lst ([decide (0=j),decide (1=j),decide (2=j),decide (3=j)].map V.bl)) hp
 have hpn:∀ b o,H b=some o->b≠p:=fun b o e=>aW e hp
 have hp2n:∀ b o,H b=some o->b≠p2:=fun b o e=>aW (s1 b o e) hp2
 have hp3n:∀ b o,H b=some o->b≠p3:=fun b o e=>aW (by rw [aQ (hpn b o e),aQ (hp2n b o e)];exact s1 b o e) hp3
 have old:∀ b o,H b=some o->b≠t:=fun b o e=>aW (by rw [aQ (hpn b o e),aQ (hp3n b o e),aQ (hpn b o e),aQ (hp2n b o e)];exact s1 b o e) ht
 refine q t _ (fun b o e=>?_) ?_ aX
 ·rw [aQ (old b o e),aQ (hpn b o e),aQ (hp3n b o e),aQ (hpn b o e),aQ (hp2n b o e)];exact s1 b o e
 ·cases z:H t with
  | none=>rfl
  | some o=>exact (old t o z rfl).elim
abbrev kP:cw:=top 52
abbrev qY:List Str:=["_law_ask","_law_one","_law_other","_law_e"]
theorem uF:bJ qY ["_law_ask","_law_one","_law_other"] (av kP):=eR (by decide +kernel)
theorem C3 {y:Str}{kf k:Nat}{Fy:List D->R D} (D:iI e.K e.mg "_law_told" kP) (W:Wh e.P e.w e.K e.mg e.base e.cls "_law_which" C2 Kk) (G:FN e y kf 2 Fy) (hk:kf<=k) (h1:1<=k):FT e "_law_told" y (k + 1) 2 (sG Kk Fy):=by
 obtain ⟨f,fd,F,hm⟩:=D.ex
 obtain ⟨a,fda,psa,hf,hma,hka,hba⟩:=G.ex
 refine MN (k:=k) (g:=GF Kk (dv (f9 2 Fy (ac (rS 1) (ac (rS 2) aH))))) F uF hm (b3 F) hma rfl (fun cdv A outer s H E hr ρ=>?_) fun ds hl=>?_
 ·exact rX (PK (c:=⟨fg (iN e.P e.w) e.P e.w e.K e.mg e.base qY "_law_told" (av kP) f cdv A outer s H E,e.cls,E⟩) 3 0 W (fun E1 xe1 pn1 hp=>rX (PJ (c:=⟨NS (fg (iN e.P e.w) e.P e.w e.K e.mg e.base qY "_law_told" (av kP) f cdv A outer s H E) xe1 pn1,e.cls,E1⟩) hf hka hba (hr.mono hk) hp (ae (am 1) (ae (am 2) aI)) (ρ:=ρ))) (hr.h.mono1 h1) rfl rfl uF.nd)
 ·match ds,hl with
  | [_,_],_=>exact K9 rfl rfl
abbrev k9:cw:=top 18
abbrev sZ:List Str:=["one","other"]
theorem xK:bJ sZ ["one","other"] (av k9):=eR (by decide +kernel)
abbrev nz (e:En):=FN e "share_none" 1 2 eN
theorem xL (D:iI e.K e.mg "share_none" k9) (B:Bi e.mg):nz e:=sJ (k:=0) (g:=j1) D xK b2 fun _ _ _ _ _ _ _ hr=>by unfold j1;exact (aU (bP (Dz (bY (Jc rfl) rfl B.any vG (bv (JE.bor (JN.je (fc (N':=["fact","other"]) (ix:=[1]) 1 (by decide) rfl (bW (so:=av k9) (N:=sZ) (by decide +kernel)) (g6 (ah 0)) (fun cl A0 s0 H0 ex pn=>⟨cK (i:=0) (by show (["fact","other"] : List Str).Nodup;decide +kernel) rfl (.inl rfl),eE,(qR (Ja) (ah 0) (ah 1))⟩)))) bS)))))
abbrev pS:cw:=top 19
abbrev yU:List Str:=["thing"]
theorem E8:bJ yU ["thing"] (av pS):=eR (by decide +kernel)
abbrev uh (e:En):=FN e "is_word" 1 1 mH
theorem E9 (D:iI e.K e.mg "is_word" pS) (B:Bi e.mg) (kQ:Cn e.mg "MOST_LETTERS" 6):uh e:=sJ (k:=0) (g:=pI) D E8 b1 fun _ _ _ _ _ _ _ hr=>by unfold pI;exact (aG (fP (JW.t (sx (gE (fW (m_ (ah 0) rfl B.isinstance rfl B.str vH (by decide)))) (mZ (gE (Ji (yw) (yw) (JE.bor aA) (JE.bor (bY hV rfl B.len bO (bv (ah 0) bS))) (JE.bor (oJ rfl kQ))))))) (aU (bP lj)) cS) (aU (bP (bY (oN rfl) rfl B.all cV (bv (JE.bor (JN.je (fc (N':=["sign"]) (ix:=[]) 1 (by decide) rfl (bW (so:=av pS) (N:=yU) (by decide +kernel)) (g6 (ah 0)) (fun cl A0 s0 H0 ex pn=>⟨cK (i:=0) (by show (["sign"] : List Str).Nodup;decide +kernel) rfl (.inl rfl),eE,(Bo (yw) (yw) (JE.bor m6) (ah 0) (JE.bor m6))⟩)))) bS)))))
abbrev eY:cw:=top 20
abbrev iJ:List Str:=["thing"]
theorem qi:bJ iJ ["thing"] (av eY):=eR (by decide +kernel)
abbrev iK (e:En):=FN e "are_rising_words" 2 1 eX
theorem qj (D:iI e.K e.mg "are_rising_words" eY) (B:Bi e.mg) (kg:uh e):iK e:=sJ (k:=1) (g:=gG) D qi b1 fun _ _ _ _ _ _ _ hr=>by unfold gG;exact (aG (fP (JW.t (sx (gE (fW (m_ (ah 0) rfl B.isinstance rfl B.tuple bx (by decide)))) (mZ (gE (fW (bY (oN rfl) rfl B.all cV (bv (JE.bor (JN.je (fc (N':=["word"]) (ix:=[]) 1 (by decide) rfl (bW (so:=av eY) (N:=iJ) (by decide +kernel)) (g6 (ah 0)) (fun cl A0 s0 H0 ex pn=>⟨cK (i:=0) (by show (["word"] : List Str).Nodup;decide +kernel) rfl (.inl rfl),eE,(jc kg hr eW (ae (am 0) aI))⟩)))) bS))))))) (aU (bP lj)) cS) (aU (bP (bY (oN rfl) rfl B.all cV (bv (JE.bor (JN.je (fc (N':=["low","high"]) (ix:=[]) 2 (by decide) rfl (bW (so:=av eY) (N:=iJ) (by decide +kernel)) (Bj.i (MB rfl B.zip (ae (am 0) (ae (mC (ah 0) (jW aA) sy) aI)))) (fun cl A0 s0 H0 ex pn=>⟨D8 rfl (oz (cK (i:=0) (by show (["low","high"] : List Str).Nodup;decide +kernel) rfl (.inl rfl)) (oz (cK (i:=1) (by show (["low","high"] : List Str).Nodup;decide +kernel) rfl (.inl rfl)) zi)),eE,(qR (yv) (ah 0) (ah 1))⟩)))) bS)))))
abbrev lH:cw:=top 21
abbrev uG:List Str:=["book_facts","thing"]
theorem Ae:bJ uG ["book_facts","thing"] (av lH):=eR (by decide +kernel)
abbrev uH (e:En):=FN e "are_facts" 3 2 jE
theorem Af (D:iI e.K e.mg "are_facts" lH) (B:Bi e.mg) (dX:iK e):uH e:=sJ (k:=2) (g:=ls) D Ae b2 fun _ _ _ _ _ _ _ hr=>by unfold ls;exact (aU (bP (wj (jc dX hr px (ae (am 1) aI)) (wg (bY (oN rfl) rfl B.all cV (bv (JE.bor (JN.je (fc (N':=["fact","book_facts"]) (ix:=[0]) 1 (by decide) rfl (bW (so:=av lH) (N:=uG) (by decide +kernel)) (g6 (ah 1)) (fun cl A0 s0 H0 ex pn=>⟨cK (i:=0) (by show (["fact","book_facts"] : List Str).Nodup;decide +kernel) rfl (.inl rfl),eE,(qR (Ja) (ah 0) (ah 1))⟩)))) bS))))))
abbrev qZ:cw:=top 22
abbrev Ea:List Str:=["thing","least","most"]
theorem C4:bJ Ea ["thing","least","most"] (av qZ):=eR (by decide +kernel)
abbrev wP (e:En):=FN e "is_whole" 1 3 n8
theorem C5 (D:iI e.K e.mg "is_whole" qZ) (B:Bi e.mg):wP e:=sJ (k:=0) (g:=n6) D C4 b3 fun _ _ _ _ _ _ _ hr=>by unfold n6;exact (aG (fP (JW.t (sx (gE (fW (m_ (ah 0) rfl B.isinstance rfl B.int PyProof.Rows.boot_int (by decide)))) (mZ (fW (m_ (ah 0) rfl B.isinstance rfl B.bool PyProof.Rows.boot_bool (by decide)))))) (aU (bP lj)) cS) (aU (bP (Bo (yw) (yw) (ah 1) (ah 0) (ah 2)))))
abbrev lI:cw:=top 23
abbrev uI:List Str:=["book_facts","thing","name","needs","bars","makes","ends","price"]
theorem gH:bJ uI ["book_facts","thing"] (av lI):=eR (by decide +kernel)
abbrev uJ (e:En):=FN e "is_errand" 4 2 lv
theorem Ag (D:iI e.K e.mg "is_errand" lI) (B:Bi e.mg) (kg:uh e) (q_:wP e) (oZ:uH e) (fF:nz e) (nA:Cn e.mg "MOST_PRICE" 9):uJ e:=sJ (k:=3) (g:=lu) D gH b2 fun _ _ _ _ _ _ _ hr=>by have hu64:=hr.units;unfold lu;exact (aG (fP (JW.t (sx (gE (fW (m_ (ah 1) rfl B.isinstance rfl B.tuple bx (by decide)))) (mZ (eM (wk hu64) (JE.bor (bY hV rfl B.len bO (bv (ah 1) bS))) (JE.bor aA))))) (aU (bP lj)) cS) (aG (wn (am 1) (n5 rfl (cL (cC 2 gH.nd) (cL (cC 3 gH.nd) (cL (cC 4 gH.nd) (cL (cC 5 gH.nd) (cL (cC 6 gH.nd) (cL (cC 7 gH.nd) jY)))))))) (aG (fP (JW.t (sx (gE (fW (jc kg hr px (ae (am 2) aI)))) (mZ (gE (fW (jc q_ hr px (ae (am 7) (ae aA (ae (oJ rfl nA) aI))))))))) (aU (bP lj)) cS) (aG (fP (gE (fW (bY (oN rfl) rfl B.all cV (bv (JE.bor (JN.je (fc (N':=["facts","book_facts"]) (ix:=[0]) 1 (by decide) rfl (bW (so:=av lI) (N:=uI) (by decide +kernel)) (g6 (JE.bor (ku (ae (am 3) (ae (am 4) (ae (am 5) (ae (am 6) aI))))))) (fun cl A0 s0 H0 ex pn=>⟨cK (i:=0) (by show (["facts","book_facts"] : List Str).Nodup;decide +kernel) rfl (.inl rfl),eE,(jc oZ hr eW (ae (am 1) (ae (am 0) aI)))⟩)))) bS)))) (aU (bP lj)) cS) (aU (bP (wj (jc fF hr px (ae (am 3) (ae (am 4) aI))) (wg (jc fF hr px (ae (am 5) (ae (am 6) aI)))))))))))
abbrev mJ:cw:=top 24
abbrev ui:List Str:=["thing","facts","errands"]
theorem r6:bJ ui ["thing"] (av mJ):=eR (by decide +kernel)
abbrev yV (e:En):=FN e "is_book" 5 1 pK
theorem Eb (D:iI e.K e.mg "is_book" mJ) (B:Bi e.mg) (dX:iK e) (o_:uJ e) (nC:Cn e.mg "MOST_FACTS" 6) (kR:Cn e.mg "MOST_ERRANDS" 6):yV e:=sJ (k:=4) (g:=pJ) D r6 b1 fun _ _ _ _ _ _ _ hr=>by have hu1:=lf hr;have hu64:=hr.units;unfold pJ;exact (aG (fP (JW.t (sx (gE (fW (m_ (ah 0) rfl B.isinstance rfl B.tuple bx (by decide)))) (mZ (eM (wk hu64) (JE.bor (bY hV rfl B.len bO (bv (ah 0) bS))) (JE.bor aA))))) (aU (bP lj)) cS) (aG (wn (am 0) (n5 rfl (cL (cC 1 r6.nd) (cL (cC 2 r6.nd) jY)))) (aG (fP (JW.t (sx (gE (fW (jc dX hr px (ae (am 1) aI)))) (mZ (eM (J7) (JE.bor (bY hV rfl B.len bO (bv (ah 1) bS))) (JE.bor (oJ rfl nC)))))) (aU (bP lj)) cS) (aG (fP (JW.t (sx (gE (fW (m_ (ah 2) rfl B.isinstance rfl B.tuple bx (by decide)))) (mZ (eM (J7) (JE.bor (bY hV rfl B.len bO (bv (ah 2) bS))) (JE.bor (oJ rfl kR)))))) (aU (bP lj)) cS) (aG (fP (gE (fW (bY (oN rfl) rfl B.all cV (bv (JE.bor (JN.je (fc (N':=["errand","facts"]) (ix:=[1]) 1 (by decide) rfl (bW (so:=av mJ) (N:=ui) (by decide +kernel)) (g6 (ah 2)) (fun cl A0 s0 H0 ex pn=>⟨cK (i:=0) (by show (["errand","facts"] : List Str).Nodup;decide +kernel) rfl (.inl rfl),eE,(jc o_ hr eW (ae (am 1) (ae (am 0) aI)))⟩)))) bS)))) (aU (bP lj)) cS) (aU (bP (qR (qu hu64) (JE.bor (GB (Jk (N':=["errand"]) (ix:=[]) 1 (by decide) rfl (bW (so:=av mJ) (N:=ui) (by decide +kernel)) (g6 (ah 2)) (fun cl A0 s0 H0 ex pn=>⟨cK (i:=0) (by show (["errand"] : List Str).Nodup;decide +kernel) rfl (.inl rfl),eE,(bV hu1 (ah 0) (JE.bor aA))⟩)) rfl B.len)) (JE.bor (bY hV rfl B.len bO (bv (ah 2) bS)))))))))))
abbrev jQ:cw:=top 25
abbrev vb:List Str:=["book","name","errand"]
theorem mK:bJ vb ["book","name"] (av jQ):=eR (by decide +kernel)
abbrev jR (e:En):=FN e "errand_called" 1 2 cu
theorem uj (D:iI e.K e.mg "errand_called" jQ) (B:Bi e.mg):jR e:=sJ (k:=0) (g:=fz) D mK b2 fun _ _ _ _ _ _ _ hr=>by have hu1:=lf hr;have hu64:=hr.units;unfold fz;exact (aG (fP (gE (fW (m_ (ah 1) rfl B.isinstance rfl B.str vH (by decide)))) (aU (bP u4)) cS) (aG (kC rfl (zN (bV hu1 (ah 0) (JE.bor aA))) (cC 2 mK.nd) (aU (fP (eM (qu hu64) (JE.bor (bV hu1 (ah 2) (JE.bor aA))) (ah 1)) (aU (bP (am 2))) cS))) (aU (bP u4))))
abbrev uk:cw:=top 26
abbrev Hf:List Str:=["book"]
theorem Ec:bJ Hf ["book"] (av uk):=eR (by decide +kernel)
abbrev yW (e:En):=FN e "checked" 6 1 mI
theorem Ed (D:iI e.K e.mg "checked" uk) (ul:yV e) (wQ:ER e "NoBook"):yW e:=sJ (k:=5) (g:=pL) D Ec b1 fun _ _ _ _ _ _ _ hr=>by unfold pL;exact (aG (fP (gE (fW (jc ul hr px (ae (am 0) aI)))) (aU (Jm wQ rfl (ae m6 aI))) cS) (aU (bP (am 0))))
abbrev s_:cw:=top 29
abbrev C6:List Str:=["book","thing"]
theorem Hg:bJ C6 ["book","thing"] (av s_):=eR (by decide +kernel)
abbrev C7 (e:En):=FN e "is_row" 2 2 jF
theorem Hh (D:iI e.K e.mg "is_row" s_) (B:Bi e.mg) (fA:jR e) (mf:Cn e.mg "MOST_IN_ROW" 64):C7 e:=sJ (k:=1) (g:=kG) D Hg b2 fun _ _ _ _ _ _ _ hr=>by unfold kG;exact (aG (fP (JW.t (sx (gE (fW (m_ (ah 1) rfl B.isinstance rfl B.list iz (by decide)))) (mZ (eM (J7) (JE.bor (bY hV rfl B.len bO (bv (ah 1) bS))) (JE.bor (oJ rfl mf)))))) (aU (bP lj)) cS) (aU (bP (bY (oN rfl) rfl B.all cV (bv (JE.bor (JN.je (fc (N':=["name","book"]) (ix:=[0]) 1 (by decide) rfl (bW (so:=av s_) (N:=C6) (by decide +kernel)) (g6 (ah 1)) (fun cl A0 s0 H0 ex pn=>⟨cK (i:=0) (by show (["name","book"] : List Str).Nodup;decide +kernel) rfl (.inl rfl),eE,(qR (J8) (JE.bor (jc fA hr eW (ae (am 1) (ae (am 0) aI)))) (JE.bor u4))⟩)))) bS)))))
abbrev ka:cw:=top 30
abbrev t4:List Str:=["book","row"]
theorem xM:bJ t4 ["book","row"] (av ka):=eR (by decide +kernel)
abbrev t5 (e:En):=FN e "errands_of" 3 2 eO
theorem xN (D:iI e.K e.mg "errands_of" ka) (wR:C7 e) (fA:jR e) (Ah:Kd "NoRow" (e.cls "NoRow") e.mg e.base):t5 e:=sJ (k:=2) (g:=j2) D xM b2 fun _ _ _ _ _ _ _ hr=>by unfold j2;exact (aG (fP (gE (fW (jc wR hr px (ae (am 0) (ae (am 1) aI))))) (aU (GM Ah (Uo hr) rfl (ae u4 aI))) cS) (aU (bP (JN.je (fc (N':=["name","book"]) (ix:=[0]) 1 (by decide) rfl (bW (so:=av ka) (N:=t4) (by decide +kernel)) (g6 (ah 1)) (fun cl A0 s0 H0 ex pn=>⟨cK (i:=0) (by show (["name","book"] : List Str).Nodup;decide +kernel) rfl (.inl rfl),eE,(jc fA hr eW (ae (am 1) (ae (am 0) aI)))⟩))))))
abbrev p6:cw:=top 32
abbrev C8:List Str:=["one","other","makes","ends","needs","bars"]
theorem j4:bJ C8 ["one","other"] (av p6):=eR (by decide +kernel)
abbrev uK (e:En):=FN e "leaves_be" 2 2 jG
theorem Ai (D:iI e.K e.mg "leaves_be" p6) (fF:nz e):uK e:=sJ (k:=1) (g:=lw) D j4 b2 fun _ _ _ _ _ _ _ hr=>by have hu1:=lf hr;unfold lw;exact (aG (wn (mC (ah 0) (jW aA) (jW aA)) (n5 rfl (cL (cC 2 j4.nd) (cL (cC 3 j4.nd) jY)))) (aG (wn (mC (ah 1) (jW aA) (jW aA)) (n5 rfl (cL (cC 4 j4.nd) (cL (cC 5 j4.nd) jY)))) (aU (bP (wj (jc fF hr px (ae (bB bX (ah 2) (ah 3)) (ae (bB bX (ah 4) (ah 5)) aI))) (wg (jc fF hr px (ae (am 2) (ae (bV hu1 (ah 1) (JE.bor aA)) aI)))))))))
abbrev p7:cw:=top 33
abbrev C9:List Str:=["one","other"]
theorem Aj:bJ C9 ["one","other"] (av p7):=eR (by decide +kernel)
abbrev uL (e:En):=FN e "go_beside" 3 2 jH
theorem Ak (D:iI e.K e.mg "go_beside" p7) (lJ:uK e):uL e:=sJ (k:=2) (g:=lz) D Aj b2 fun _ _ _ _ _ _ _ hr=>by unfold lz;exact (aU (bP (wj (jc lJ hr px (ae (am 0) (ae (am 1) aI))) (wg (jc lJ hr px (ae (am 1) (ae (am 0) aI)))))))
abbrev i7:cw:=top 34
abbrev mL:List Str:=["parts","errand","place","at","part"]
theorem fG:bJ mL ["parts","errand"] (av i7):=eR (by decide +kernel)
abbrev mM (e:En):=FN e "earliest_round" 4 2 dW
theorem t6 (D:iI e.K e.mg "earliest_round" i7) (B:Bi e.mg) (pc:uL e):mM e:=sJ (k:=3) (g:=i3) D fG b2 fun _ _ _ _ _ _ _ hr=>by unfold i3;exact (aG (f_ 2 aA fG.nd) (aG (kC rfl (yK rfl B.enumerate (ae (am 0) aI)) (n5 rfl (cL (cC 3 fG.nd) (cL (cC 4 fG.nd) jY))) (aU (fP (gE (fW (bY (oN rfl) rfl B.all cV (bv (JE.bor (JN.je (fc (N':=["other","errand"]) (ix:=[1]) 1 (by decide) rfl (bW (so:=av i7) (N:=mL) (by decide +kernel)) (g6 (ah 4)) (fun cl A0 s0 H0 ex pn=>⟨cK (i:=0) (by show (["other","errand"] : List Str).Nodup;decide +kernel) rfl (.inl rfl),eE,(jc pc hr eW (ae (am 1) (ae (am 0) aI)))⟩)))) bS)))) (aU (f_ 2 (bB bX (ah 3) (JE.bor aA)) fG.nd)) cS))) (aU (bP (am 2)))))
abbrev tf:cw:=top 35
abbrev Ca:List Str:=["book","row","parts","errand","place"]
theorem pT:bJ Ca ["book","row"] (av tf):=eR (by decide +kernel)
abbrev L9 (e:En):=FN e "rounds" 7 2 iu
theorem Hi (D:iI e.K e.mg "rounds" tf) (B:Bi e.mg) (um:yW e) (jn:mM e) (kc:t5 e):L9 e:=sJ (k:=6) (g:=sL) D pT b2 fun _ _ _ _ _ _ _ hr=>by have hu1:=lf hr;have hu64:=hr.units;unfold sL;exact (aG (My (jc um hr px (ae (am 0) aI))) (aG (PV 2 pT.nd) (aG (MX rfl (zN (jc kc hr px (ae (am 0) (ae (am 1) aI)))) (zN (jc kc hr eW (ae (am 0) (ae (am 1) aI)))) (cC 3 pT.nd) (aG (f_ 4 (Uq BH jn hr eW (Fe 2 (MV (am 3) Kh))) pT.nd) (aG (fP (eM (qu hu64) (ah 4) (JE.bor (Ki BH hV rfl B.len bO (Fe 2 Kh)))) (aU (DV 2)) cS) (aU (qV 2 (am 4) (am 3)))))) (aU (bP (JN.je (fc (N':=["part"]) (ix:=[]) 1 (by decide) rfl (bW (so:=av tf) (N:=Ca) (by decide +kernel)) (g6 (ah 2)) (fun cl A0 s0 H0 ex pn=>⟨cK (i:=0) (by show (["part"] : List Str).Nodup;decide +kernel) rfl (.inl rfl),eE,(JN.je (fc (N':=["errand"]) (ix:=[]) 1 (by decide) rfl (bW (N:=["part"]) (by kernel_rfl) rfl) (g6 (ah 0)) (fun cl A0 s0 H0 ex pn=>⟨cK (i:=0) (by show (["errand"] : List Str).Nodup;decide +kernel) rfl (.inl rfl),eE,(bV hu1 (ah 0) (JE.bor aA))⟩)))⟩))))))))
abbrev mh:cw:=top 37
abbrev xO:List Str:=["_law_script","_law_k"]
theorem wS:bJ xO ["_law_script","_law_k"] (av mh):=eR (by decide +kernel)
abbrev qz (e:En):=FN e "_law_cell_at" 1 2 jv
theorem wT (D:iI e.K e.mg "_law_cell_at" mh) (B:Bi e.mg):qz e:=sJ (k:=0) (g:=ju) D wS b2 fun _ _ _ _ _ _ _ hr=>by have hu1:=lf hr;have hu64:=hr.units;unfold ju;exact (aG (fP (eM (yv) (ah 1) (JE.bor (bY hV rfl B.len bO (bv (ah 0) bS)))) (aU (bP (bV hu1 (ah 0) (ah 1)))) cS) (aG (fP (eM (qu hu64) (ah 0) (JE.bor (fX aI))) (aU (bP aA)) cS) (aU (bP (bB bX (JE.bor (bB oM (JE.bor (bV hu1 (ah 0) (JE.bor (bB zJ (ah 1) (JE.bor (bY hV rfl B.len bO (bv (ah 0) bS))))))) (JE.bor aA))) (ah 1))))))
abbrev pd:cw:=top 38
abbrev Cb:List Str:=["_law_script","_law_k","_law_many","_law_drawn"]
theorem tj:bJ Cb ["_law_script","_law_k","_law_many"] (av pd):=eR (by decide +kernel)
abbrev en (e:En):=FN e "_law_mixed" 2 3 ba
theorem Al (D:iI e.K e.mg "_law_mixed" pd) (mi:qz e):en e:=sJ (k:=1) (g:=lA) D tj b3 fun _ _ _ _ _ _ _ hr=>by unfold lA;exact (aG (f_ 3 (bB zJ (JE.bor (bB oM (JE.bor (bB bX (JE.bor (bB bX (JE.bor (jc mi hr px (ae (am 0) (ae (am 1) aI)))) (JE.bor (bB oM (JE.bor aA) (ah 1))))) (JE.bor aA))) (JE.bor aA))) (JE.bor aA)) tj.nd) (aU (bP (bB zJ (JE.bor (bB zJ (JE.bor (bB bX (JE.bor (bB bX (JE.bor (bB oM (ah 3) (ah 3))) (JE.bor (bB oM (JE.bor aA) (ah 3))))) (ah 1))) (JE.bor aA))) (ah 2)))))
abbrev r9:cw:=top 39
abbrev Ee:List Str:=["_law_script","_law_at","_law_made","_law_k"]
theorem lK:bJ Ee ["_law_script","_law_at"] (av r9):=eR (by decide +kernel)
abbrev re (e:En):=FN e "_law_word" 3 2 jl
theorem Cc (D:iI e.K e.mg "_law_word" r9) (B:Bi e.mg) (aN:en e):re e:=sJ (k:=2) (g:=na) D lK b2 fun _ _ _ _ _ _ _ hr=>by have hu1:=lf hr;unfold na;exact (aG (f_ 2 m6 lK.nd) (aG (kC rfl (iH rfl B.range (bv (JE.bor (bV hu1 (JE.bor (fX (ae aA (ae aA (ae aA (ae aA (ae aA (ae aA aI)))))))) (JE.bor (jc aN hr eW (ae (am 0) (ae (am 1) (ae aA aI))))))) bS)) (cC 3 lK.nd) (aU (f_ 2 (bB bX (ah 2) (JE.bor (bV hu1 (JE.bor m6) (JE.bor (jc aN hr eW (ae (am 0) (ae (bB bX (JE.bor (bB bX (ah 1) (JE.bor aA))) (ah 3)) (ae aA aI)))))))) lK.nd))) (aU (bP (am 2)))))
abbrev pf:cw:=top 40
abbrev Cd:List Str:=["_law_script","_law_at","_law_most","_law_found","_law_k"]
theorem nD:bJ Cd ["_law_script","_law_at","_law_most"] (av pf):=eR (by decide +kernel)
abbrev uM (e:En):=FN e "_law_facts" 4 3 lC
theorem Am (D:iI e.K e.mg "_law_facts" pf) (B:Bi e.mg) (jo:re e) (aN:en e):uM e:=sJ (k:=3) (g:=lB) D nD b3 fun _ _ _ _ _ _ _ hr=>by have hu1:=lf hr;unfold lB;exact (aG (js 3 EU nD.nd) (aG (kC rfl (iH rfl B.range (bv (JE.bor (jc aN hr eW (ae (am 0) (ae (am 1) (ae (bB bX (ah 2) (JE.bor aA)) aI))))) bS)) (cC 4 nD.nd) (aU (EX 3 lj (jc jo hr eW (ae (am 0) (ae (bB bX (JE.bor (bB bX (ah 1) (JE.bor aA))) (JE.bor (bB oM (JE.bor aA) (ah 4)))) aI))) hu1))) (aU (bP (fY (jC rfl) rfl B.tuple bx (bv (JE.bor (bY Gw rfl B.sorted uv (bv (JE.bor (fY (wu rfl) rfl B.list iz (bv (ah 3) bS))) bS))) bS))))))
abbrev nE:cw:=top 41
abbrev wU:List Str:=["_law_script","_law_at","_law_facts_here","_law_part"]
theorem Ce:bJ wU ["_law_script","_law_at","_law_facts_here","_law_part"] (av nE):=eR (by decide +kernel)
abbrev wV (e:En):=FN e "_law_some" 3 4 ng
theorem Cf (D:iI e.K e.mg "_law_some" nE) (B:Bi e.mg) (aN:en e):wV e:=sJ (k:=2) (g:=nc) D Ce b4 fun _ _ _ _ _ _ _ hr=>by unfold nc;exact (aU (bP (fY (jC rfl) rfl B.tuple bx (bv (JE.bor (JN.je (fc (N':=["_law_k","_law_fact","_law_script","_law_at","_law_part"]) (ix:=[0,1,3]) 2 (by decide) rfl (bW (so:=av nE) (N:=wU) (by decide +kernel)) (Bj.i (wo rfl B.enumerate (ae (am 2) aI))) (fun cl A0 s0 H0 ex pn=>⟨D8 rfl (oz (cK (i:=0) (by show (["_law_k","_law_fact","_law_script","_law_at","_law_part"] : List Str).Nodup;decide +kernel) rfl (.inl rfl)) (oz (cK (i:=1) (by show (["_law_k","_law_fact","_law_script","_law_at","_law_part"] : List Str).Nodup;decide +kernel) rfl (.inl rfl)) zi)),(sA (eM (yv) (JE.bor (jc aN hr eW (ae (am 2) (ae (bB bX (ah 3) (ah 0)) (ae aA aI))))) (ah 4))),(am 1)⟩)))) bS))))
abbrev jp:cw:=top 42
abbrev nF:List Str:=["_law_script","_law_at","_law_facts_here","_law_name","_law_one","_law_two","_law_goal","_law_needs","_law_bars","_law_ends","_law_parts"]
theorem gz:bJ nF ["_law_script","_law_at","_law_facts_here","_law_name"] (av jp):=eR (by decide +kernel)
abbrev wW (e:En):=FN e "_law_thin" 3 4 ni
theorem Cg (D:iI e.K e.mg "_law_thin" jp) (B:Bi e.mg) (aN:en e):wW e:=sJ (k:=2) (g:=nh) D gz b4 fun _ _ _ _ _ _ _ hr=>by have hu1:=lf hr;have hu64:=hr.units;unfold nh;exact (aG (f_ 4 (bV hu1 (ah 2) (JE.bor (jc aN hr px (ae (am 0) (ae (bB bX (ah 1) (JE.bor aA)) (ae (bY hV rfl B.len bO (bv (ah 2) bS)) aI)))))) gz.nd) (aG (f_ 5 (bV hu1 (ah 2) (JE.bor (jc aN hr px (ae (am 0) (ae (bB bX (ah 1) (JE.bor aA)) (ae (bY hV rfl B.len bO (bv (ah 2) bS)) aI)))))) gz.nd) (aG (f_ 6 (bV hu1 (ah 2) (JE.bor (jc aN hr px (ae (am 0) (ae (bB bX (ah 1) (JE.bor aA)) (ae (bY hV rfl B.len bO (bv (ah 2) bS)) aI)))))) gz.nd) (aG (f_ 7 (mC (JE.bor (fX (ae (am 4) (ae (am 5) aI)))) sy (jW (bB bX (JE.bor aA) (JE.bor (bB Mq (JE.bor (jc aN hr px (ae (am 0) (ae (bB bX (ah 1) (JE.bor aA)) (ae aA aI))))) (JE.bor aA)))))) gz.nd) (aG (jj 8 (N':=["_law_fact","_law_needs","_law_script","_law_at"]) (ix:=[7,0,1]) 1 (by decide) gz.nd rfl (bW (so:=av jp) (N:=nF) (by decide +kernel)) (g6 (JE.bor (fX (ae (am 6) aI)))) (fun cl A0 s0 H0 ex pn=>⟨cK (i:=0) (by show (["_law_fact","_law_needs","_law_script","_law_at"] : List Str).Nodup;decide +kernel) rfl (.inl rfl),(sA (JW.t (Dy (eM (Jb) (ah 0) (ah 1)) (zI (eM (qu hu64) (JE.bor (jc aN hr eW (ae (am 2) (ae (bB bX (ah 3) (JE.bor aA)) (ae aA aI))))) (JE.bor aA)))))),(am 0)⟩)) (aG (jj 9 (N':=["_law_fact","_law_goal","_law_script","_law_at"]) (ix:=[6,0,1]) 1 (by decide) gz.nd rfl (bW (so:=av jp) (N:=nF) (by decide +kernel)) (g6 (JE.bor (fX (ae (am 4) aI)))) (fun cl A0 s0 H0 ex pn=>⟨cK (i:=0) (by show (["_law_fact","_law_goal","_law_script","_law_at"] : List Str).Nodup;decide +kernel) rfl (.inl rfl),(sA (JW.t (Dy (eM (wk hu64) (ah 0) (ah 1)) (zI (eM (qu hu64) (JE.bor (jc aN hr eW (ae (am 2) (ae (bB bX (ah 3) (JE.bor aA)) (ae aA aI))))) (JE.bor aA)))))),(am 0)⟩)) (aG (DO 8 (DO 9 (jj 10 (N':=["_law_part"]) (ix:=[]) 1 (by decide) gz.nd rfl (bW (so:=av jp) (N:=nF) (by decide +kernel)) (g6 (JE.bor (ku (ae (am 7) (ae (am 8) (ae (fX (ae (am 6) aI)) (ae (am 9) aI))))))) (fun cl A0 s0 H0 ex pn=>⟨cK (i:=0) (by show (["_law_part"] : List Str).Nodup;decide +kernel) rfl (.inl rfl),eE,(fY (jC rfl) rfl B.tuple bx (bv (JE.bor (DK rfl (Pt rfl (ah 0) rfl B.set) rfl B.sorted)) bS))⟩)))) (aU (bP (ku (ae (am 3) (ae (bV hu1 (ah 10) (JE.bor aA)) (ae (bV hu1 (ah 10) (JE.bor aA)) (ae (bV hu1 (ah 10) (JE.bor aA)) (ae (bV hu1 (ah 10) (JE.bor aA)) (ae (jc aN hr px (ae (am 0) (ae (am 1) (ae aA aI)))) aI))))))))))))))))
abbrev kd:cw:=top 43
abbrev tm:List Str:=["_law_script","_law_at","_law_facts_here","_law_name","_law_parts","_law_k","_law_fact","_law_way","_law_some_here"]
theorem fL:bJ tm ["_law_script","_law_at","_law_facts_here","_law_name"] (av kd):=eR (by decide +kernel)
abbrev tu (e:En):=FN e "_law_errand" 4 4 i5
theorem xP (D:iI e.K e.mg "_law_errand" kd) (B:Bi e.mg) (aN:en e) (rf:wW e):tu e:=sJ (k:=3) (g:=i4) D fL b4 fun _ _ _ _ _ _ _ hr=>by have hu1:=lf hr;have hu64:=hr.units;unfold i4;exact (aG (fP (JW.t (Dy (eM (wk hu64) (ah 2) (JE.bor (ku aI))) (zI (eM (qu hu64) (JE.bor (jc aN hr px (ae (am 0) (ae aA (ae aA aI))))) (JE.bor aA))))) (aU (bP (jc rf hr px (ae (am 0) (ae (am 1) (ae (am 2) (ae (am 3) aI))))))) cS) (aG (Pu 4 fL.nd) (aG (kC rfl (wo rfl B.enumerate (ae (am 2) aI)) (n5 rfl (cL (cC 5 fL.nd) (cL (cC 6 fL.nd) jY))) (aG (f_ 7 (jc aN hr eW (ae (am 0) (ae (bB bX (JE.bor (bB bX (ah 1) (JE.bor aA))) (ah 5)) (ae aA aI)))) fL.nd) (aG (fP (eM (yv) (ah 7) (JE.bor aA)) (aU (qV 4 (bV hu1 (JE.bor (fX (ae aA (ae aA (ae aA aI))))) (ah 7)) (am 6))) cS) (aG (f_ 7 (jc aN hr eW (ae (am 0) (ae (bB bX (JE.bor (bB bX (ah 1) (JE.bor aA))) (ah 5)) (ae aA aI)))) fL.nd) (aU (fP (eM (yv) (ah 7) (JE.bor aA)) (aU (qV 4 (bV hu1 (JE.bor (fX (ae aA (ae aA (ae aA (ae aA aI)))))) (ah 7)) (am 6))) cS)))))) (aG (Jl (jj 8 (N':=["_law_part"]) (ix:=[]) 1 (by decide) fL.nd rfl (bW (so:=av kd) (N:=tm) (by decide +kernel)) (g6 (ah 4)) (fun cl A0 s0 H0 ex pn=>⟨cK (i:=0) (by show (["_law_part"] : List Str).Nodup;decide +kernel) rfl (.inl rfl),eE,(fY (jC rfl) rfl B.tuple bx (bv (ah 0) bS))⟩))) (aU (bP (ku (ae (am 3) (ae (bV hu1 (ah 8) (JE.bor aA)) (ae (bV hu1 (ah 8) (JE.bor aA)) (ae (bV hu1 (ah 8) (JE.bor aA)) (ae (bV hu1 (ah 8) (JE.bor aA)) (ae (jc aN hr px (ae (am 0) (ae (am 1) (ae aA aI)))) aI)))))))))))))
abbrev nG:cw:=top 44
abbrev wX:List Str:=["_law_script","_law_at","_law_most","_law_many","_law_facts_here","_law_made","_law_k","_law_name","_law_names","_law_turn"]
theorem hZ:bJ wX ["_law_script","_law_at","_law_most","_law_many"] (av nG):=eR (by decide +kernel)
abbrev wY (e:En):=FN e "_law_book" 5 4 kJ
theorem Ch (D:iI e.K e.mg "_law_book" nG) (B:Bi e.mg) (ph:uM e) (jo:re e) (nI:tu e) (aN:en e):wY e:=sJ (k:=4) (g:=kH) D hZ b4 fun _ _ _ _ _ _ _ hr=>by have hu1:=lf hr;unfold kH;exact (aG (f_ 4 (jc ph hr px (ae (am 0) (ae (am 1) (ae (am 2) aI)))) hZ.nd) (aG (js 5 EU hZ.nd) (aG (kC rfl (iH rfl B.range (bv (JE.bor (jc aN hr eW (ae (am 0) (ae (bB bX (ah 1) (JE.bor aA)) (ae (bB bX (ah 3) (JE.bor aA)) aI))))) bS)) (cC 6 hZ.nd) (aG (f_ 7 (jc jo hr eW (ae (am 0) (ae (bB bX (JE.bor (bB bX (ah 1) (JE.bor aA))) (JE.bor (bB oM (JE.bor aA) (ah 6)))) aI))) hZ.nd) (aU (EX 5 (jc nI hr eW (ae (am 0) (ae (bB bX (JE.bor (bB bX (ah 1) (JE.bor aA))) (JE.bor (bB oM (JE.bor aA) (ah 6)))) (ae (am 4) (ae (am 7) aI))))) (am 7) hu1)))) (aG (f_ 8 (fY (wu rfl) rfl B.list iz (bv (ah 5) bS)) hZ.nd) (aG (f_ 9 (jc aN hr px (ae (am 0) (ae (bB bX (ah 1) (JE.bor aA)) (ae (bB bX (JE.bor (bY hV rfl B.len bO (bv (ah 8) bS))) (JE.bor aA)) aI)))) hZ.nd) (aU (bP (ku (ae (am 4) (ae (fY (jC rfl) rfl B.tuple bx (bv (JE.bor (JN.je (fc (N':=["_law_name","_law_made"]) (ix:=[5]) 1 (by decide) rfl (bW (so:=av nG) (N:=wX) (by decide +kernel)) (g6 (JE.bor (bB bX (JE.bor (mC (ah 8) (jW (am 9)) sy)) (JE.bor (mC (ah 8) sy (jW (am 9))))))) (fun cl A0 s0 H0 ex pn=>⟨cK (i:=0) (by show (["_law_name","_law_made"] : List Str).Nodup;decide +kernel) rfl (.inl rfl),eE,(bV hu1 (ah 1) (ah 0))⟩)))) bS)) aI))))))))))
abbrev rg:cw:=top 45
abbrev Ef:List Str:=["_law_script","_law_at","_law_facts_here","_law_must","_law_bars","_law_k","_law_fact","_law_way"]
theorem iO:bJ Ef ["_law_script","_law_at","_law_facts_here"] (av rg):=eR (by decide +kernel)
abbrev wZ (e:En):=FN e "_law_want" 3 3 qX
theorem Ci (D:iI e.K e.mg "_law_want" rg) (B:Bi e.mg) (aN:en e):wZ e:=sJ (k:=2) (g:=kK) D iO b3 fun _ _ _ _ _ _ _ hr=>by have hu64:=hr.units;unfold kK;exact (aG (js 3 (u9 aI) iO.nd) (aG (js 4 (u9 aI) iO.nd) (aG (kC rfl (wo rfl B.enumerate (ae (am 2) aI)) (n5 rfl (cL (cC 5 iO.nd) (cL (cC 6 iO.nd) jY))) (aG (f_ 7 (jc aN hr eW (ae (am 0) (ae (bB bX (ah 1) (ah 5)) (ae aA aI)))) iO.nd) (aU (fP (eM (yv) (ah 7) (JE.bor aA)) (aU (pF 3 (am 6))) (aU (fP (eM (qu hu64) (ah 7) (JE.bor aA)) (aU (pF 4 (am 6))) cS)))))) (aU (bP (ku (ae (fY (jC rfl) rfl B.tuple bx (bv (ah 3) bS)) (ae (fY (jC rfl) rfl B.tuple bx (bv (ah 4) bS)) aI))))))))
abbrev rh:cw:=top 46
abbrev Eg:List Str:=["_law_script","_law_most","_law_many","_law_book_here","_law_state"]
theorem pi:bJ Eg ["_law_script","_law_most","_law_many"] (av rh):=eR (by decide +kernel)
abbrev w_ (e:En):=FN e "_law_case" 6 3 kL
theorem Cj (D:iI e.K e.mg "_law_case" rh) (rj:wY e) (aN:en e) (rl:wV e) (rm:wZ e):w_ e:=sJ (k:=5) (g:=nj) D pi b3 fun _ _ _ _ _ _ _ hr=>by have hu1:=lf hr;unfold nj;exact (aG (f_ 3 (jc rj hr px (ae (am 0) (ae aA (ae (am 1) (ae (am 2) aI))))) pi.nd) (aG (f_ 4 (jc rl hr px (ae (am 0) (ae aA (ae (bV hu1 (ah 3) (JE.bor aA)) (ae (bV hu1 (JE.bor (fX (ae aA (ae aA aI)))) (JE.bor (jc aN hr px (ae (am 0) (ae aA (ae aA aI)))))) aI))))) pi.nd) (aU (bP (ku (ae (am 3) (ae (am 4) (ae (jc rm hr px (ae (am 0) (ae aA (ae (bV hu1 (ah 3) (JE.bor aA)) aI)))) aI))))))))
abbrev nJ:cw:=top 47
abbrev xa:List Str:=["_law_some_here","_law_more"]
theorem Ck:bJ xa ["_law_some_here","_law_more"] (av nJ):=eR (by decide +kernel)
abbrev xb (e:En):=FN e "_law_meet" 1 2 kM
theorem Cm (D:iI e.K e.mg "_law_meet" nJ) (B:Bi e.mg):xb e:=sJ (k:=0) (g:=nl) D Ck b2 fun _ _ _ _ _ _ _ hr=>by unfold nl;exact (aU (bP (bY (Jc rfl) rfl B.any vG (bv (JE.bor (JN.je (fc (N':=["_law_fact","_law_more"]) (ix:=[1]) 1 (by decide) rfl (bW (so:=av nJ) (N:=xa) (by decide +kernel)) (g6 (ah 0)) (fun cl A0 s0 H0 ex pn=>⟨cK (i:=0) (by show (["_law_fact","_law_more"] : List Str).Nodup;decide +kernel) rfl (.inl rfl),eE,(qR (Ja) (ah 0) (ah 1))⟩)))) bS))))
abbrev pj:cw:=top 48
abbrev Co:List Str:=["_law_one","_law_other"]
theorem An:bJ Co ["_law_one","_law_other"] (av pj):=eR (by decide +kernel)
abbrev uN (e:En):=FN e "_law_hurts" 2 2 jI
theorem Ao (D:iI e.K e.mg "_law_hurts" pj) (nK:xb e):uN e:=sJ (k:=1) (g:=lE) D An b2 fun _ _ _ _ _ _ _ hr=>by have hu1:=lf hr;unfold lE;exact (aG (fP (fW (jc nK hr px (ae (bB bX (JE.bor (bV hu1 (ah 0) (JE.bor aA))) (JE.bor (bV hu1 (ah 0) (JE.bor aA)))) (ae (bB bX (JE.bor (bV hu1 (ah 1) (JE.bor aA))) (JE.bor (bV hu1 (ah 1) (JE.bor aA)))) aI)))) (aU (bP lj)) cS) (aU (bP (jc nK hr px (ae (bV hu1 (ah 0) (JE.bor aA)) (ae (bV hu1 (ah 1) (JE.bor aA)) aI))))))
abbrev nL:cw:=top 49
abbrev Ap:List Str:=["_law_one","_law_other"]
theorem xQ:bJ Ap ["_law_one","_law_other"] (av nL):=eR (by decide +kernel)
abbrev tw (e:En):=FN e "_law_beside" 3 2 i6
theorem xR (D:iI e.K e.mg "_law_beside" nL) (lL:uN e):tw e:=sJ (k:=2) (g:=j_) D xQ b2 fun _ _ _ _ _ _ _ hr=>by unfold j_;exact (aU (bP (wj (Dz (jc lL hr px (ae (am 0) (ae (am 1) aI)))) (wg (Dz (jc lL hr px (ae (am 1) (ae (am 0) aI))))))))
abbrev jx:cw:=top 50
abbrev qA:List Str:=["_law_script","_law_at","_law_book_here","_law_names","_law_some_here"]
theorem kS:bJ qA ["_law_script","_law_at","_law_book_here"] (av jx):=eR (by decide +kernel)
abbrev qB (e:En):=FN e "_law_bad_row" 3 3 jw
theorem xc (D:iI e.K e.mg "_law_bad_row" jx) (B:Bi e.mg) (aN:en e):qB e:=sJ (k:=2) (g:=iw) D kS b3 fun _ _ _ _ _ _ _ hr=>by have hu1:=lf hr;have hu64:=hr.units;unfold iw;exact (aG (jj 3 (N':=["_law_errand_here"]) (ix:=[]) 1 (by decide) kS.nd rfl (bW (so:=av jx) (N:=qA) (by decide +kernel)) (g6 (JE.bor (bV hu1 (ah 2) (JE.bor aA)))) (fun cl A0 s0 H0 ex pn=>⟨cK (i:=0) (by show (["_law_errand_here"] : List Str).Nodup;decide +kernel) rfl (.inl rfl),eE,(bV hu1 (ah 0) (JE.bor aA))⟩)) (aG (js 4 (u9 (ae u4 (ae (fY (jC rfl) rfl B.tuple bx (bv (ah 3) bS)) (ae (bB bX (ah 3) (JE.bor (fX (ae m6 aI)))) (ae (fX (ae m6 aI)) (ae (fX (ae u4 aI)) (ae (fX (ae (fX (ae m6 aI)) aI)) (ae m6 (ae aA (ae (fX (ae aA aI)) aI)))))))))) kS.nd) (aG (fP (eM (wk hu64) (ah 3) (JE.bor (fX aI))) (aU (GE 4 (fX (ae (Ke 65 (by decide) (ah 3) sy (jW aA)) (ae (ku (ae (bV hu1 (ah 3) (JE.bor aA)) aI)) aI))))) cS) (aU (bP (bV hu1 (ah 4) (JE.bor (jc aN hr px (ae (am 0) (ae (am 1) (ae (bY hV rfl B.len bO (bv (ah 4) bS)) aI)))))))))))
abbrev nR:cw:=top 53
abbrev Cq:List Str:=["_law_script","_law_book_here","_law_state","_law_want_here","_law_named","_law_names","_law_row","_law_numbers","_law_k","_law_name","_law_late","_law_due","_law_turn"]
theorem j5:bJ Cq ["_law_script"] (av nR):=eR (by decide +kernel)
theorem Q8 {f:aa}{fd:cX} (F:AT e.K "law" "law" nR f fd) (B:Bi e.mg) (rn:w_ e) (aN:en e) (nM:tw e) (mj:qB e) (T_law_told_rounds:FT e "_law_told" "rounds" 8 2 (sG Kk iu)):qc e.P e.w e.K e.mg e.base (iN e.P e.w) 9 f fd ["_law_script"] (Mw e.K e.cls 1 F_law):=by
 refine N_ (k:=8) (g:=Ff) F j5 fun cdv A outer s H E hr=>?_
 have hu1:=lf hr
 have hu64:=hr.units
 unfold Ff
 exact (aG (wn (jc rn hr px (ae (am 0) (ae aA (ae aA aI)))) (n5 rfl (cL (cC 1 j5.nd) (cL (cC 2 j5.nd) (cL (cC 3 j5.nd) jY))))) (aG (js 4 (GH rfl (JN.je (fc (N':=["_law_errand_here"]) (ix:=[]) 1 (by decide) rfl (bW (so:=av nR) (N:=Cq) (by decide +kernel)) (g6 (JE.bor (bV hu1 (ah 1) (JE.bor aA)))) (fun cl A0 s0 H0 ex pn=>⟨cK (i:=0) (by show (["_law_errand_here"] : List Str).Nodup;decide +kernel) rfl (.inl rfl),eE,(ku (ae (bV hu1 (ah 0) (JE.bor aA)) (ae (am 0) aI)))⟩))) rfl B.dict) j5.nd) (aG (f_ 5 (fY (wu rfl) rfl B.list iz (bv (ah 4) bS)) j5.nd) (aG (js 6 (u9 aI) j5.nd) (aG (fP (eM (wk hu64) (ah 5) (JE.bor (fX aI))) (aU (js 6 (fc (N':=["_law_k","_law_names","_law_script"]) (ix:=[5,0]) 1 (by decide) rfl (bW (so:=av nR) (N:=Cq) (by decide +kernel)) (Bj.i (iH rfl B.range (bv (JE.bor (jc aN hr px (ae (am 0) (ae aA (ae aA aI))))) bS))) (fun cl A0 s0 H0 ex pn=>⟨cK (i:=0) (by show (["_law_k","_law_names","_law_script"] : List Str).Nodup;decide +kernel) rfl (.inl rfl),eE,(bV hu1 (ah 1) (JE.bor (jc aN hr eW (ae (am 2) (ae (bB bX (JE.bor aA) (ah 0)) (ae (bY hV rfl B.len bO (bv (ah 1) bS)) aI))))))⟩)) j5.nd)) cS) (aG (js 7 (u9 aI) j5.nd) (aG (DO 6 (kC rfl (yK rfl B.enumerate (ae (am 6) aI)) (n5 rfl (cL (cC 8 j5.nd) (cL (cC 9 j5.nd) jY))) (aG (jj 10 (N':=["_law_j","_law_named","_law_row","_law_name","_law_numbers"]) (ix:=[4,6,9,7]) 1 (by decide) j5.nd rfl (bW (so:=av nR) (N:=Cq) (by decide +kernel)) (Bj.i (iH rfl B.range (bv (ah 8) bS))) (fun cl A0 s0 H0 ex pn=>⟨cK (i:=0) (by show (["_law_j","_law_named","_law_row","_law_name","_law_numbers"] : List Str).Nodup;decide +kernel) rfl (.inl rfl),(sA (gE (fW (jc nM hr eW (ae (bV hu1 (ah 1) (JE.bor (bV hu1 (ah 2) (ah 0)))) (ae (bV hu1 (ah 1) (ah 3)) aI)))))),(bB bX (JE.bor (bV hu1 (ah 4) (ah 0))) (JE.bor aA))⟩)) (aU (pF 7 (bY (Kf rfl) rfl B.max vI (bv (JE.bor (bB bX (JE.bor (fX (ae aA aI))) (ah 10))) bS))))))) (aG (js 11 (u9 aI) j5.nd) (aG (kC rfl (iH rfl B.range (bv (JE.bor (bB bX (JE.bor (bY (Kf rfl) rfl B.max vI (bv (JE.bor (bB bX (JE.bor (fX (ae (Ps aA) aI))) (ah 7))) bS))) (JE.bor aA))) bS)) (cC 12 j5.nd) (aU (pF 11 (JN.je (fc (N':=["_law_k","_law_numbers","_law_turn","_law_row"]) (ix:=[7,12,6]) 1 (by decide) rfl (bW (so:=av nR) (N:=Cq) (by decide +kernel)) (Bj.i (iH rfl B.range (bv (JE.bor (bY hV rfl B.len bO (bv (ah 6) bS))) bS))) (fun cl A0 s0 H0 ex pn=>⟨cK (i:=0) (by show (["_law_k","_law_numbers","_law_turn","_law_row"] : List Str).Nodup;decide +kernel) rfl (.inl rfl),(sA (eM (qu hu64) (JE.bor (bV hu1 (ah 1) (ah 0))) (ah 2))),(bV hu1 (ah 3) (ah 0))⟩)))))) (aG (fP (eM (wk hu64) (JE.bor (jd T_law_told_rounds hr px (ae (am 1) (ae (am 6) aI)))) (ah 11)) (aU (bP lj)) cS) (aU (bP (qR (qu hu64) (JE.bor (jd T_law_told_rounds hr px (ae (am 1) (ae (jc mj hr px (ae (am 0) (ae aA (ae (am 1) aI)))) aI)))) (JE.bor (ku (ae m6 (ae aA aI)))))))))))))))))
end
end
section
theorem all_mk {l:uS}{w:aT}{K:a5}{h:a_}{mg:Str->Option a7}{fa A:aa}{mO:aa}{pU:aa}{tE:aa}{nN:aa}{pV:aa}{vv:aa}{pW:aa}{pX:aa}{nO:aa}{pY:aa}{tF:aa}{lM:aa}{od an:Option aa}{sl:Array (Option a7)}{oc kV dc pm cv ct:a7} (X:K.In h) (G:h.Ns br mg) (hfa:mg "law"=some (.ref fa))
  (Zz:Zs K zn)
  (kQ:Cn mg "MOST_LETTERS" 6)
  (nA:Cn mg "MOST_PRICE" 9)
  (nC:Cn mg "MOST_FACTS" 6)
  (kR:Cn mg "MOST_ERRANDS" 6)
  (mf:Cn mg "MOST_IN_ROW" 64)
  (Ws:MP K C2 [mO,pU,tE,nN,pV,vv,pW,pX,nO,pY,tF])
  (Cr:TopC K "NoBook" mO)
  (lN:TopC K "PlanError" lM)
  (Aq:RH K "NoRow" pV (RF (top 6) 0))
  (w_NoBook:Wy K mO lM [(mO,true),(pU,false),(tE,false),(nN,false),(pV,false),(vv,false),(pW,false),(pX,false),(nO,false),(pY,false),(tF,false)])
  (w_NoRow:Wy K pV lM [(mO,false),(pU,false),(tE,false),(nN,false),(pV,true),(vv,false),(pW,false),(pX,false),(nO,false),(pY,false),(tF,false)])
  (Ct:iI K mg "_law_which" oY)
  (Eh:iI K mg "_law_told" kP)
  (Ar:iI K mg "share_none" k9)
  (Hj:iI K mg "is_word" pS)
  (ro:iI K mg "are_rising_words" eY)
  (Cu:iI K mg "are_facts" lH)
  (Ei:iI K mg "is_whole" qZ)
  (Cv:iI K mg "is_errand" lI)
  (Hk:iI K mg "is_book" mJ)
  (vc:iI K mg "errand_called" jQ)
  (Hl:iI K mg "checked" uk)
  (La:iI K mg "is_row" s_)
  (As:iI K mg "errands_of" ka)
  (Cy:iI K mg "leaves_be" p6)
  (Cz:iI K mg "go_beside" p7)
  (uo:iI K mg "earliest_round" i7)
  (Lb:iI K mg "rounds" tf)
  (xS:iI K mg "_law_cell_at" mh)
  (CA:iI K mg "_law_mixed" pd)
  (Ej:iI K mg "_law_word" r9)
  (CB:iI K mg "_law_facts" pf)
  (Ek:iI K mg "_law_some" nE)
  (El:iI K mg "_law_thin" jp)
  (At:iI K mg "_law_errand" kd)
  (Em:iI K mg "_law_book" nG)
  (Eo:iI K mg "_law_want" rg)
  (Ep:iI K mg "_law_case" rh)
  (Es:iI K mg "_law_meet" nJ)
  (CC:iI K mg "_law_hurts" pj)
  (Au:iI K mg "_law_beside" nL)
  (xT:iI K mg "_law_bad_row" jx)
  (l0:fD K br "law"=some (some (.ref A)))
  (l1:K.lookup A=some ⟨oc,od,.func (e7 "law" "law" (jr nR) (fU nR) (av nR) .none kV dc pm an cv ct),sl⟩)
  (l2:iU K cv "law"=true)
  (l3:dH K (.ref A)=true)
  : ∃ fd:cX,(∀ (s:a9) (v:a7),uq s fd ⟨[v],[]⟩ [("_law_script",v)])/\∀ base:a_,K.In base->base.Ns br mg->qc l.prog w K mg base (iN l.prog w) 9 fa fd ["_law_script"] (Ra K F_law):=by
 have q:=hfa.symm.trans (im X G l0)
 cases q
 refine ⟨e7 "law" "law" (jr nR) (fU nR) (av nR) .none kV dc pm an cv ct,fun s v=>.of_eq rfl,fun base X G=>?_⟩
 let e:En:=⟨l.prog,w,K,mg,base,Rb [("NoBook",mO),("NoState",pU),("NoWant",tE),("NoErrand",nN),("NoRow",pV),("NoWay",vv),("NoPaper",pW),("NoFacts",pX),("NoNumber",nO),("Nothing",pY),("NoText",tF),("PlanError",lM)]⟩
 have B:Bi e.mg:=Rv X G Zz
 have wQ:ER e "NoBook":=Cr.er X G rfl
 have Ah:Kd "NoRow" (e.cls "NoRow") e.mg e.base:=Aq.own X G
 obtain ⟨fw,fdw,Fw,mw⟩:=Ct.ex
 have W:Wh e.P e.w e.K e.mg e.base e.cls "_law_which" C2 Kk:=by
  refine ⟨⟨_,_,_,xJ (e:=e) Fw B (Rw X G Zz) (Rx X G Ws rfl),mw,Fw.kp,b1 Fw⟩,im X G lN.ns,?_,fun y j h=>?_⟩
  ·obtain ⟨bm,o,_⟩:=(DN X G lN.ns lN.ex lN.mb).2
   exact ⟨bm,o⟩
  unfold Kk at h
  by_cases hy:y="NoBook"
  ·subst hy
   simp at h
   subst h
   exact Ry X G Cr w_NoBook Ws rfl rfl rfl rfl rfl (by decide) (by decide)
  rw [if_neg hy] at h
  by_cases hy:y="NoRow"
  ·subst hy
   simp at h
   subst h
   exact Fc Aq.mb (Aq.ox X) w_NoRow Ws rfl rfl rfl rfl rfl (by decide) (by decide)
  rw [if_neg hy] at h
  cases h
 have fF:=xL (e:=e) Ar B
 have kg:=E9 (e:=e) Hj B kQ
 have dX:=qj (e:=e) ro B kg
 have oZ:=Af (e:=e) Cu B dX
 have q_:=C5 (e:=e) Ei B
 have o_:=Ag (e:=e) Cv B kg q_ oZ fF nA
 have ul:=Eb (e:=e) Hk B dX o_ nC kR
 have fA:=uj (e:=e) vc B
 have um:=Ed (e:=e) Hl ul wQ
 have wR:=Hh (e:=e) La B fA mf
 have kc:=xN (e:=e) As wR fA Ah
 have lJ:=Ai (e:=e) Cy fF
 have pc:=Ak (e:=e) Cz lJ
 have jn:=t6 (e:=e) uo B pc
 have Lc:=Hi (e:=e) Lb B um jn kc
 have mi:=wT (e:=e) xS B
 have aN:=Al (e:=e) CA mi
 have jo:=Cc (e:=e) Ej B aN
 have ph:=Am (e:=e) CB B jo aN
 have rl:=Cf (e:=e) Ek B aN
 have rf:=Cg (e:=e) El B aN
 have nI:=xP (e:=e) At B aN rf
 have rj:=Ch (e:=e) Em B ph jo nI aN
 have rm:=Ci (e:=e) Eo B aN
 have rn:=Cj (e:=e) Ep rj aN rl rm
 have nK:=Cm (e:=e) Es B
 have lL:=Ao (e:=e) CC nK
 have nM:=xR (e:=e) Au lL
 have mj:=xc (e:=e) xT B aN
 have T_law_told_rounds:=C3 (e:=e) (k:=7) Eh W Lc (by decide) (by decide)
 exact (Q8 (e:=e) (Is l1 l2 l3) B rn aN nM mj T_law_told_rounds).imp Pz
end
end Z
section
open PySem PySem.W PyProof.Rows
def PySem.W.Fast.tw3093012430867055901:Nat:=0
def PySem.W.Fast.tw9993850381621149103:Nat:=0
def PySem.W.Fast.tw13374027669733685621:Nat:=0
def PySem.W.Fast.tw10912495974807125898:Nat:=0
def PySem.W.Fast.tw12774261532199186913:Nat:=0
def PySem.W.Fast.tw11088159803101237546:Nat:=0
def PySem.W.Fast.tw7314858016069184525:Nat:=0
def PySem.W.Fast.tw14966053403820337957:Nat:=0
def PySem.W.Fast.tw13128778130192066795:Nat:=0
def PySem.W.Fast.tw11744179916549012327:Nat:=0
def PySem.W.Fast.tw7682618986999860320:Nat:=0
def PySem.W.Fast.tw14940168867437897194:Nat:=0
def PySem.W.Fast.tw14878330259129883197:Nat:=0
def PySem.W.Fast.tw13326344045047596840:Nat:=0
def PySem.W.Fast.tw3702462059272878854:Nat:=0
def PySem.W.Fast.tw17653100335041926539:Nat:=0
def PySem.W.Fast.tw16396897001873392579:Nat:=0
def PySem.W.Fast.tw10406557503386951663:Nat:=0
def PySem.W.Fast.tw1630198312560355467:Nat:=0
def PySem.W.Fast.tw14967155316423110477:Nat:=0
def PySem.W.Fast.tw10987964191274487087:Nat:=0
def PySem.W.Fast.tw18325174284969073723:Nat:=0
def PySem.W.Fast.tw9832796516301996729:Nat:=0
def PySem.W.Fast.tw9411504033843025013:Nat:=0
def PySem.W.Fast.tw14574367741062433827:Nat:=0
def PySem.W.Fast.tw17064521527494514590:Nat:=0
def PySem.W.Fast.tw16064872214024058247:Nat:=0
def PySem.W.Fast.tw10462373531405138530:Nat:=0
def PySem.W.Fast.tw10377365035848876411:Nat:=0
def PySem.W.Fast.tw4041995034979118563:Nat:=0
def PySem.W.Fast.tw4864906428817589685:Nat:=0
def PySem.W.Fast.tw6405566599660352226:Nat:=0
def PySem.W.Fast.tw1894842716697821433:Nat:=0
def PySem.W.Fast.tw6779999776240212047:Nat:=0
def PySem.W.Fast.tw4496674387345325786:Nat:=0
def PySem.W.Fast.tw15337200840215022404:Nat:=0
def PySem.W.Fast.tw6762684185806701012:Nat:=0
def PySem.W.Fast.tw9417280666623584139:Nat:=0
def PySem.W.Fast.tw11100578854249221579:Nat:=0
def PySem.W.Fast.tw15022440326096867987:Nat:=0
def PySem.W.Fast.tw3612072732505454425:Nat:=0
def PySem.W.Fast.tw13180929251839176870:Nat:=0
def PySem.W.Fast.tw4656924605641483907:Nat:=0
def PySem.W.Fast.tw9299357526071563193:Nat:=0
def PySem.W.Fast.tw17788516219071378138:Nat:=0
theorem PySem.Challenge.cw_errands_k22_rounds_holds : PySem.Challenge.rw_errands_k22_rounds.Holds := by
 w_on;o_law;k_head;(case hw=>w_witness2)
 k_fill
 refine J.walkF (l:=PySem.Challenge.rw_errands_k22_rounds) (k:=9) (x:="_law_script") (F0:=Z.F_law) rfl rfl ⟨rfl,by decide,by decide⟩ (fun w h Y=>PySem.W.kIn_of Y) ?F (fun ns _=>Z.law_true ns)
 case F =>
  intro w mg fa h KX G hmg
  refine' Z.all_mk KX G hmg ?_ ?_ ?_ ?_ ?_ ?_ ?_ ?_ ?_ ?_ ?_ ?_ ?_ ?_ ?_ ?_ ?_ ?_ ?_ ?_ ?_ ?_ ?_ ?_ ?_ ?_ ?_ ?_ ?_ ?_ ?_ ?_ ?_ ?_ ?_ ?_ ?_ ?_ ?_ ?_ ?_ ?_ ?_ ?_ ?_ ?_ ?_
  all_goals first
   | (refine' J.d_in KX G ?_ ?_ ?_ ?_<;>try k_is)
   | (refine' J.cn_in KX G ?_<;>try k_is)
   | k_is
   | (refine' J.TopC.mk ?_ ?_ ?_<;>try (first | k_is | k_exc))
   | (refine' J.topN ?_ ?_ ?_ ?_ ?_ ?_ ?_ ?_ ?_ ?_ ?_ ?_ ?_ ?_ ?_ ?_ ?_ ?_ ?_ ?_ ?_ ?_ ?_<;>try (first | k_is | rfl | exact fun _ _=>⟨_,rfl,rfl⟩ | decide +kernel))
   | ((refine' J.Wy.mk ?_ ?_ ?_ ?_ ?_ ?_ ?_ ?_ ?_ ?_)<;>try (first | k_is | decide | ((repeat' (first | exact .nil | refine' .cons ?_ ?_ ?_))<;>try (first | k_is | decide))))
   | ((repeat' (first | exact .nil | refine' .cons ?_ ?_))<;>try (first | (refine' J.cw_in ?_ ?_ ?_<;>try k_is) | k_is))
   | skip
end
