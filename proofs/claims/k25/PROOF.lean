import PyProof.Rows.All
import Wide.All
import OpenK.AllK
import Wide.FinOn
import Lean
import PyProof.EqAt
import PyProof.EqKinds
import PyProof.TupleCall
import KE.KDictOf
import PyProof.AttrMissHeap
import KE.KRevIter
import PyProof.DictWalks
import PyProof.MinMaxWalk
import PyProof.SeqI3
import PyProof.WalkInts
import PySem.Challenge.RW_errands_k25_whole_mended
set_option Elab.async false
set_option linter.all false
set_option maxRecDepth 100000
set_option maxHeartbeats 0
open PySem renaming wpAny_bind->a7,Value->ac,wpAny_pure->ae,Shared->ag,Addr->aj,wpAny->au,starEach->aI,Program->aM,model->aO,Expr->aX,World->ba,boot_len->bd,cellsFrom->bj,Around->bv,Heap->bB,wpAny_setState_of->bC,compareOp->bI,wpAny_mono->bQ,wpAny_newObj_type->bS,mainGlobals->bY,wpAny_call_entry->c6,rawInt->cc,wpAny_callSpecial?_slot->cj,Stmt->cA,wpAny_holding->cX,mem_of_lookup->dz,eval->dE,wpAny_truthy_bool->dL,wpAny_field->dM,foldedSetIterable->e8,SetTable->ed,wpAny_seqItems->ef,Scope->eO,binaryOp->eP,wpAny_of_eq->eQ,fits_of_scanBound->fj,FuncData->fz,sysModules->fN,wpAny_pyIter_tuple->fO,wpAny_setField->fQ,letOwnedTupleGo->gn,codeAny_builtin->gx,behindInMarks->gF,wpAny_rule->gG,swapsWith->gW,wpAny_askSetting->gX,setField->gY,wpAny_isInstance->gZ,strIterType->i5,wpAny_typeNameOfWhole_keyiter->i7,bootBuiltins->i9,assignEach->ia,wpAny_setField_rec->ic,wpAny_passesOwn->im,wpAny_standAt->iC,scanBound->iF,wpAny_pyIter_list->iM,codeAny->iN,wpAny_storeSet_of->iQ,backTo->j4,pyNext->jr,NameKind->jM,Builtin->jP,IsPair->jU,cLine->kX,wpAny_typeOf->kZ,firstArgMember->l5,plainId_quiet->mB,wpAny_attempt->mC,sliceBounds->mE,pickOrder->oq,tupleKind_room_in1->oz,getItem->pT,wpAny_pyIter_enum->pV,assign->p_,wpAny_comprehension_free->q8,PyData->qc,tupleKind->rA,raiseNew->rE,codeAny_mono->sg,newExc->sj,wpAny_execs_nil->tO,pushCells_keeps->tQ,builtinLookup_eq_fast->u3,isTrue->v8,pyIter->v9,Result->vb,IsPart->vc,newFunctionEnv->ve,relayAll->vf,isSubtype_stop->vg,IsZip->vh,wpAny_updateSeq_pair->vi,standAt->wk,callerA->wn,CmpOp->xh,swapsWithSole->xi,swappedStores->xj,wpAny_onRaise->xm,wpAny_Call_Name_kw->xE,Keyword->zO,concat_meets->zP,valueAt->zQ,wpAny_pyIter_slot->zS,wpAny_dictEntries->zY,noFill_tuple_add->Bx,DictEntry->By,IsRangeIter->D6,sizeLine_eq->D7,subscripted->D8,codeAny_of_tree->Dd,typeLookup_type->De,wpAny_dictEpoch->Dg,BindsTo->Fu,Paired->FH,typeLookup->FK,atKey->FM,entryFor->FO,entryFor_alias->FP,isSubtype_type->FQ,wpAny_fieldsOf->FR,field->FT,wpAny_letOwnedTupleGo_enum->FU,assignInOrder->I_,seq_tuple_add->J5,attributeBase->J7,call->J8,wpAny_handled->Ja,Model->KJ,lastMarks->KL,bindL->KN,bindC->KO,Walks->KR,holding->L4,wpAny_pyNext_range_end->L5,wpAny_pyIter_rangeiter->L6,stored->L9,sub_set_self->Lb,setNext->Lc,wpAny_isTrue_Compare1->Oo,wpAny_notOrdered_dict->Ot,wpAny_isOneOf_keyiter->Ov,bindName->OD,keywordEach->OE,wpAny_alloc->OG,unsupported->OJ,newTuple->OK,wpAny_throw->OL,ZipApart->OM,wpAny_letGo->OO
open PySem.W renaming Frag->a8,kia_one->cL,fnOf->fJ,mroIn->fP,cellsFrom_some->gH,nsIn->gI,keepIn->js,findIn->lS,codeIn->lT,kitOne->q0,mg_of->rQ,methodObj->tW,kitx_list->tX,instObj->wL,OpenLaw->wN,lookIn->xD,excIn->zW,clsIn->zX,hideAll_get->Ft,of_hideAll->FI,kitx_tuple->FJ,specialIn->Hl,kitx_dict->Hm,plainGet->J4,hideAll->KI,takesIn->KM,typeIn->Lg,WalkO->Op,subIn->Ou
open PySem.Heap renaming get?_push_of_some->af,lt_size->aq,get?_push_size->ax,SameBut->bH,size_push->cp,get?_update_self->fE,get?_update_other->pU,IsTuple->Fy,ExtBut->Ho
open List renaming mem_cons_of_mem->ak,getElem?_set_ne->al,mem_cons_self->am,length_map->ao,map_cons->aB,length_append->aG,getElem?_set_self->aK,mem_append_right->aL,getElem?_eq_getElem->aN,size_toArray->aP,length_cons->aR,not_mem_nil->aS,map_append->aT,getElem?_map->aZ,mem_cons->b9,getElem?_append_left->bc,getElem?_append_right->bf,length_nil->br,mem_append_left->bu,range->bx,mem_map_of_mem->bz,find?_cons->bN,getElem?_replicate->cg,all_eq_true->ck,mem_of_getElem?->cm,length_singleton->cB,getElem?_eq_none->cC,map_map->cJ,lookup_cons->cQ,length_replicate->cV,getD_eq_getElem?_getD->da,append_nil->de,foldl_cons->df,map_nil->dn,mem_singleton->dO,any_cons->dX,length_range->eK,length_reverse->eZ,nil_append->fR,getElem_of_mem->gy,nodup_nil->gz,getElem_mem->gC,length_filter_le->i8,mem_of_mem_drop->iG,length_drop->iO,any_eq_true->iR,sublist_append_left->jb,forIn_cons->jl,getElem?_cons_succ->jt,getElem_map->kU,map->lm,map_congr_left->lV,filterMap_map->mI,forIn_nil->mJ,perm_ext_iff_of_nodup->mP,drop_eq_getElem_cons->nO,append_assoc->nQ,isEmpty_cons->nR,all_map->pX,drop_eq_nil_of_le->pY,replicate->rN,length->rO,filterMap_cons->tN,getElem?_range->tT,filter_sublist->tU,all_cons->t_,set_cons_zero->v6,set_cons_succ->v7,any_eq_false->wl,reverse_cons->wp,any_map->wu,pairwise_of_forall_mem_list->wv,length_filterMap_eq_countP->wS,length_take->xk,ext_getElem->xl,lookup->xF,of_mem_zip->zG,mem_append->zI,mem_filter->zK,length_eraseIdx_of_lt->AB,length_erase_of_mem->Dc,getElem?_cons_zero->Df,filter_cons_of_pos->Dh,drop_of_length_le->Fx,length_pos_of_mem->FC,mem_erase_of_ne->Ht,replicate_succ->Jd,replicate_zero->Je,lookup_append->KP,map_inj_right->KU,getElem_range->KW,nodup_append->La,zipIdx_cons->Oq,isEmpty_nil->Os,cons_append->Ow,map_reverse->Ox,zipIdx_nil->ON
open Nat renaming le_refl->ar,ne_of_lt->aF,lt_of_lt_of_le->aJ,le_trans->bZ,lt_irrefl->b_,le_of_lt->cr,zero_le->cE,lt_succ_self->dq,ne_of_gt->eJ,lt_succ_of_lt->eN,le_succ->iI,lt_succ_of_le->jT,not_lt_zero->lU,min_le_right->pM,lt_of_le_of_lt->vd,lt_trans->wO,lt_asymm->wP,le_of_lt_succ->wQ,add_zero->wR,mod_lt->Bz,zero_add->FW,mul_comm->FX,succ_pos->FY,lt_of_succ_lt_succ->FZ,add_lt_add_right->Jb,pow_le_pow_right->Jf,lt_of_lt_of_eq->Lh,sub_le->Li,le_succ_of_le->Oy,le_of_not_lt->OF,le_add_right->OP,reduceLeDiff->OW,reduceEqDiff->OX
open Array renaming length_toList->av,getElem?_toList->dD,getD_eq_getD_getElem?->i6,getElem?_eq_getElem->iS,eq_empty_of_size_eq_zero->kJ,size_map->rF,replicate->xG,toArray_toList->FV,append_assoc->IZ,forIn_toList->Jc,toList_push->KQ
open Bool renaming and_eq_true->aQ,false_ne_true->bi,false_eq_true->bJ,or_eq_true->hV,eq_iff_iff->jn,not_false->jQ,and_false->mO,and_self->ou,not_true->ox,beq_eq_decide_eq->qK,true_and->u5,not_eq_true'->wt,noConfusion->xn,false_and->Az,false_or->D9,or_eq_false_iff->Hr
open PySem.PyData renaming str->aW,eqv->a_,canLayAll0->bW,int->cx,bool->cZ,eqvAll->ev,canLay0->eI,tuple->eY,list->fh,none->qM,depthAll->xo,dict->FA
open PyProof.Rows renaming boot_tuple->bp,boot_all->cK,callWith_type1->cM,slot_tuple_getitem->fD,boot_list->g6,AllBare->pS,envOfC->si,StrsAre->sr,boot_sorted->wq,assignInOrder_cons->xC,boot_any->xH,boot_str->xI,boot_min->xJ,subscriptTail->J6,IsTup->KH,subscriptTail_builtinR->L7,IntsAre->L8
open PySem.Heap.SameBut renaming update->bF
open Option.some renaming inj->bG,injEq->Db
open PySem.Value renaming ref->bX,none->dW,type->il,str->jq,int->mz,isStrOf->tM,bool->IY
open PySem.NameKind renaming free->cn,cell->dQ
open PySem.SetTable renaming sizeAbove->cq,grown->i3,below->i4,fits->mK,bits->mM,turns->pW,layClean->tR,laid->zH,orStandIn->Fw,relaid->J9,fill->Le,road->Lf
open PySem.Builtin.SmallTypes renaming nextOf->cy,ownedTupleIsFree->el,ownedTupleHandOut->mL
open Option renaming map_some->c_,getD_none->gq,getD_some->kr,bind_some->ku,isSome_some->tP,isSome_map->v5
open Ne renaming symm->db
open PySem.SetTable.layClean renaming free->dG
open PySem.Obj renaming mapFields->dY,mapSeq->k_,putSet->q9,data_mapFields->Ld
open List.Sublist renaming refl->eu
open PySem.Around renaming under_plainId->eG
open Int renaming toNat_of_nonneg->fg,toNat_natCast->jS,emod_lt_of_pos->ny,eq_ofNat_of_zero_le->pO,emod_nonneg->qL,reduceLT->F_
open PySem.F renaming slot_dict_keyiterator_next->fm,slot_tuple_iterator_next->iT,args_tuple_add_2->nw,entry_tuple_add->nP,slot_tuple_add->oy,args_dict_keyiterator_next_1->rH,slot_zip_next->rP,entry_dict_keyiterator_next->rR,slot_list_append->zU,type_list_append->zV,plainAttrs_list->AD,args_tuple_iterator_next_1->BA,slot_dict_iter->BB,entry_tuple_iterator_next->Da,slot_enumerate_next->KS
open Or renaming inr->fv,inl->iP
open ForInStep renaming yield->fB
open PySem.AutoSeq1 renaming wpAny_loadPart'->fG
open PySem.Str renaming ofString->fZ
open PySem.Builtin.Slice renaming slicePlaces->hJ,sliceAdjust->kY,sliceApplied->tY
open PyProof.Rows.F renaming plain_set_update_loop->hU,entry_set_update_loop->oo
open PySem.Builtin.Tuple renaming tupleExact->ib,tupleItemsOf->tZ
open False renaming elim->io
open PySem.Builtin.Range renaming rangeSize->iD,small->zJ
open True renaming intro->iE
open PySem.Paired renaming length->iY
open PySem.Builtin.Frozenset renaming updateFrom->jm,isAnySet->rG,sizeOf->sk,copyOf->su,newClass->OH,oneOther->OQ,addrOf->OR,slot1->OS,baseOf->OT,merge->OU,unchanged->OV
open PySem.Heap.FunFrames renaming mem->kq
open PySem.Builtin.Dict_items renaming ownsTuple->lN
open Sum renaming inr->mD,inl->wK
open Classical renaming propDecidable->nz
open And renaming intro->tS
open PySem.Walks renaming list->u0
open PySem.Builtin.List renaming listExtendWith->u4,listSameRef->wo
open PySem.PassesOwn renaming never->vj
open PyProof.Rows.IsTup renaming new->wM
open PySem.Builtin.Dict renaming updateFrom->wT
open PySem.Calls renaming Name_function_global->zN,call_function_entry->AC,evalArgs_plain->FL
open PySem.pickOrder renaming go->zR
open PySem.SetTable.below renaming go->zT
open List.Pairwise renaming nil->AA
open PyProof renaming noPylong_small->Bw
open PySem.SeqAt.EqAt renaming int_str->D4,str_int->D5
open PySem.Heap.DictOf renaming new->Fv
open PySem.Shared renaming heap->Fz,TypeIs->OI
open PySem.Data renaming fields->Hk
open PySem.Value.type renaming inj->Hq
section
namespace L2
open PySem PySem.Spec PyProof.Rows
abbrev dv:=Sum Int Str
def xK:dv->ac->Bool
 | .inl k,v=>Value.isInt k v
 | .inr x,v=>tM x v
def VT (w:ba):dv->Int
 | .inl k=>hashInt k
 | .inr x=>hashStr w x
theorem e_:∀ {k:dv}{v:ac},xK k v=true->(∃ i t,k=wK i/\v=mz i t)\/(∃ x t,k=mD x/\v=jq x t)
 | .inl i,v,h=>by
  obtain ⟨t,e⟩:=Value.isInt_shape (k:=i) (v:=v) h
  exact .inl ⟨i,t,rfl,e⟩
 | .inr x,v,h=>by
  obtain ⟨t,e⟩:=Value.isStrOf_shape (x:=x) (v:=v) h
  exact .inr ⟨x,t,rfl,e⟩
theorem Jg (i:Int) (t:Tok):xK (.inl i) (.int i t)=true:=by simp [xK,Value.isInt]
theorem Jh (x:Str) (t:Tok):xK (.inr x) (.str x t)=true:=by simp [xK,tM]
theorem RO (a b:Int):decide ((wK a:dv)=wK b)=(a == b):=by
 by_cases e:a=b
 ·subst e;simp
 ·have h:¬ (wK a:dv)=wK b:=fun q=>e (Sum.inl.inj q)
  rw [decide_eq_false h]
  exact (beq_eq_false_iff_ne.mpr e).symm
theorem RP (a b:Str):decide ((mD a:dv)=mD b)=decide (a=b):=by
 by_cases e:a=b
 ·subst e;simp
 ·have h:¬ (mD a:dv)=mD b:=fun q=>e (Sum.inr.inj q)
  rw [decide_eq_false h,decide_eq_false e]
theorem RQ (a:Int) (b:Str):decide ((wK a:dv)=mD b)=false:=decide_eq_false (fun q=>nomatch q)
theorem RS (a:Str) (b:Int):decide ((mD a:dv)=wK b)=false:=decide_eq_false (fun q=>nomatch q)
def dw (prog:aM) (w:ba):PySem.KeyKind prog w dv where
 is:=xK
 hash:=VT w
 inj:=fun v a b ha hb=>by
  rcases e_ ha with ⟨i,t,rfl,rfl⟩ | ⟨x,t,rfl,rfl⟩
  ·rcases e_ hb with ⟨j,u,rfl,e⟩ | ⟨y,u,rfl,e⟩
   ·injection e with e1 _;rw [e1]
   ·exact nomatch e
  ·rcases e_ hb with ⟨j,u,rfl,e⟩ | ⟨y,u,rfl,e⟩
   ·exact nomatch e
   ·injection e with e1 _;rw [e1]
 byValue:=fun k v h=>by
  rcases e_ h with ⟨i,t,rfl,rfl⟩ | ⟨x,t,rfl,rfl⟩<;>rfl
 pyHash:=fun hv h=>by
  rcases e_ hv with ⟨i,t,rfl,rfl⟩ | ⟨x,t,rfl,rfl⟩
  ·exact wpAny_pyHash_int h
  ·exact wpAny_pyHash_str h
 eqBool:=fun hu hv h=>by
  rcases e_ hu with ⟨i,t,rfl,rfl⟩ | ⟨x,t,rfl,rfl⟩
  ·rcases e_ hv with ⟨j,u,rfl,rfl⟩ | ⟨y,u,rfl,rfl⟩
   ·rw [RO] at h;exact wpAny_eqBool_int h
   ·rw [RQ] at h;exact D4 i t y u _ _ _ _ h
  ·rcases e_ hv with ⟨j,u,rfl,rfl⟩ | ⟨y,u,rfl,rfl⟩
   ·rw [RS] at h;exact D5 x t j u _ _ _ _ h
   ·rw [RP] at h;exact wpAny_eqBool_str h
 «strs»:=fun k x t v h=>by
  rcases e_ h with ⟨i,u,rfl,e⟩ | ⟨y,u,rfl,e⟩
  ·exact nomatch e
  ·injection e with e1 _
   subst e1
   cases v<;>rfl
theorem Di (prog:aM) (w:ba) (i:Int) (t:Tok):(dw prog w).is (.inl i) (.int i t)=true:=Jg i t
theorem Dj (prog:aM) (w:ba) (x:Str) (t:Tok):(dw prog w).is (.inr x) (.str x t)=true:=Jh x t
end L2
namespace L2
open PySem PySem.Spec PyProof.Rows
inductive V where
 | non | bl (b:Bool) | int (i:Int) | str (x:Str) | byt (b:Array UInt8) | flt (b:UInt64) | ref (a:aj) | ty (n:String)
 deriving DecidableEq
def du:V->ac->Prop
 | .non,u=>u=dW
 | .bl b,u=>u=IY b
 | .int i,u=>∃ t,u=mz i t
 | .str x,u=>∃ t,u=jq x t
 | .byt b,u=>∃ t,u=Value.bytes b t
 | .flt b,u=>∃ t,u=Value.float b t
 | .ref a,u=>u=bX a
 | .ty n,u=>u=il n
abbrev dJ:List V->List ac->Prop:=FH du
theorem dJ.length {xs:List V}{us:List ac} (r:dJ xs us):xs.length=us.length:=iY r
theorem dJ.get {xs:List V}{us:List ac} (h:dJ xs us):∀ {i:Nat}{x:V},xs[i]?=some x->∃ u,us[i]?=some u/\du x u:=by
 induction h with
 | nil=>intro i x e;cases e
 | cons r t ih =>
  intro i x e
  cases i with
  | zero=>cases e;exact ⟨_,rfl,r⟩
  | succ i=>have q:=ih (i:=i) e;exact q
theorem dJ.append {xs ys:List V}{us ws:List ac} (h:dJ xs us) (s:dJ ys ws):dJ (xs++ys) (us++ws):=by
 induction h with
 | nil=>exact s
 | cons r t ih=>exact .cons r ih
theorem dJ.take:∀ {xs:List V}{us:List ac} (n:Nat),dJ xs us->dJ (xs.take n) (us.take n)
 | _,_,0,_=>.nil
 | _,_,_ + 1,.nil=>.nil
 | _,_,n + 1,.cons r t=>.cons r (dJ.take n t)
theorem dJ.drop:∀ {xs:List V}{us:List ac} (n:Nat),dJ xs us->dJ (xs.drop n) (us.drop n)
 | _,_,0,r=>r
 | _,_,_ + 1,.nil=>.nil
 | _,_,n + 1,.cons _ t=>dJ.drop n t
def xL:Option V->Option ac->Prop
 | some v,some u=>du v u
 | none,none=>True
 | _,_=>False
def KV {κ:Type}:List (κ×V)->List (κ×ac)->Prop:=FH fun (p:κ×V) (q:κ×ac)=>p.1=q.1/\du p.2 q.2
def kV:dv->V
 | .inl i=>.int i
 | .inr x=>.str x
inductive HO where
 | lst (xs:List V)
 | tup (xs:List V)
 | dK (kvs:List (dv×V)) | dT (kvs:List (List dv×V))
 | set (S:Int->Bool) (n:Nat)
 | ins (C dx:aj) (fs:List (Str×V))
 | own (x:aj)
 | xd (fs:List (Str×V))
 | met (f x:aj)
 | rng (lo hi:Int)
 | frz (o:Obj) (u:HO)
 | tbl (ps:Array ac)
 | ext (φ:bB->Prop)
abbrev Hp:=aj->Option HO
def upd (H:Hp) (a:aj) (o:HO):Hp:=fun b=>if b=a then some o else H b
theorem bn {H:Hp}{a:aj}{o:HO}:upd H a o a=some o:=by unfold upd;rw [if_pos rfl]
theorem bt {H:Hp}{a b:aj}{o:HO} (h:b≠a):upd H a o b=H b:=by unfold upd;rw [if_neg h]
theorem Lj {H:Hp}{a b:aj}{o u:HO} (h:H a=some o) (h':H b=some u) (d:o≠u):a≠b:=by
 intro e;subst e;rw [h] at h';exact d (bG h')
theorem bT {H:Hp}{a b:aj}{o:HO} (h:H a=some o) (h':H b=none):a≠b:=by
 intro e;subst e;rw [h] at h';cases h'
section
variable (P:aM) (w:ba)
def dA (H:Hp) (h:bB) (a:aj):HO->Prop
 | .lst xs=>xs.length<=sizeLine/\∃ (its:List ac) (n:Nat),dJ xs its/\h.get? a=some { cls:=.type "list",data:=.seq its.toArray n }
 | .tup xs=>xs.length<=sizeLine/\∃ its:List ac,dJ xs its/\KH h a its.toArray
 | .dK kvs=>kvs.length<=sizeLine/\(a == fN)=false/\∃ vs,KV kvs vs/\h.DictOf (dw P w) a vs
 | .dT kvs=>kvs.length<=sizeLine/\(a == fN)=false/\∃ xs:List (List dv×aj×ac),
   FH (fun (p:List dv×V) (q:List dv×aj×ac)=>p.1=q.1/\H q.2.1=some (.tup (p.1.map kV))/\du p.2 q.2.2) kvs xs /\
   ∃ o es ep,h.get? a=some o/\o.ExactDict/\o.data=.dict es ep/\es.toList=xs.map (entryOfKey (rA (dw P w)))/\(xs.map (·.1)).Nodup
 | .set S n=>h.SetOf (intKind P w) a S n
 | .ins C dx fs=>H dx=some (.own a)/\fs.length<=1000/\dx≠a/\h.get? a=some (wL C dx) /\
   ∃ mA,h.Ns1 dx mA/\(∀ f,xL (fs.lookup f) (mA f))/\PySem.Within mA (fs.map (·.1))
 | .own _=>∃ o,h.get? a=some o
 | .xd fs=>∃ mA,h.Ns1 a mA/\∀ f,xL (fs.lookup f) (mA f)
 | .rng lo hi=>∃ t u v,h.get? a=some { cls:=.type "range",data:=.fields #[.int lo t,.int hi u,.int 1 v] }
 | .frz o u=>h.get? a=some o/\dA H h a u
 | .tbl ps=>h.get? a=some { cls:=.none,data:=.fields ps }
 | .met f x=>h.get? a=some (tW (.ref f) (.ref x))
 | .ext φ=>φ h/\(∃ o,h.get? a=some o)/\∀ h1 h2:bB,φ h1->(∀ o,h1.get? a=some o->h2.get? a=some o)->φ h2
def pP (H:Hp) (h:bB):Prop:=∀ a o,H a=some o->dA P w H h a o
end
section
variable {P:aM}{w:ba}{H H':Hp}{h h':bB}{a:aj}{o:HO}
theorem dA.lt (x:dA P w H h a o):a<h.objs.size:=by
 cases o with
 | lst xs=>obtain ⟨_,_,_,_,e⟩:=x;exact aq e
 | tup xs=>obtain ⟨_,_,_,p⟩:=x;exact p.lt
 | dK kvs=>obtain ⟨_,_,_,_,o,_,_,e,_⟩:=x;exact aq e
 | dT kvs=>obtain ⟨_,_,_,_,o,_,_,e,_⟩:=x;exact aq e
 | set S n=>obtain ⟨o,_,_,_,e,_⟩:=x;exact aq e
 | ins C dx fs=>obtain ⟨_,_,_,e,_⟩:=x;exact aq e
 | own y=>obtain ⟨_,e⟩:=x;exact aq e
 | xd fs=>obtain ⟨_,⟨_,_,_,e,_⟩,_⟩:=x;exact aq e
 | rng lo hi=>obtain ⟨_,_,_,e⟩:=x;exact aq e
 | frz ob u=>obtain ⟨e,_⟩:=x;exact aq e
 | tbl ps=>exact aq (show h.get? a=some _ from x)
 | met f y=>exact aq (show h.get? a=some _ from x)
 | ext φ=>obtain ⟨_,⟨_,e⟩,_⟩:=x;exact aq e
theorem Paired.mapP {α β:Type}{F G:α->β->Prop}{l₁:List α}{l₂:List β} (h:FH F l₁ l₂) (f:∀ a b,F a b->G a b):FH G l₁ l₂:=by
 induction h with
 | nil=>exact .nil
 | cons r t ih=>exact .cons (f _ _ r) ih
theorem dA.stay (x:dA P w H h a o) (k:∀ b u,(b=a\/H b=some (.own a))->h.get? b=some u->h'.get? b=some u)
  (ho:∀ b,H b=some (.own a)->H' b=some (.own a)) (ht:∀ b xs,H b=some (.tup xs)->H' b=some (.tup xs)):dA P w H' h' a o:=by
 induction o with
 | lst xs=>obtain ⟨z,its,n,r,e⟩:=x;exact ⟨z,its,n,r,k _ _ (.inl rfl) e⟩
 | tup xs=>obtain ⟨z,its,r,ob,e,c⟩:=x;exact ⟨z,its,r,ob,k _ _ (.inl rfl) e,c⟩
 | dK kvs=>obtain ⟨z,y,vs,r,ob,es,ep,e,c⟩:=x;exact ⟨z,y,vs,r,ob,es,ep,k _ _ (.inl rfl) e,c⟩
 | dT kvs =>
  obtain ⟨z,y,xs,r,ob,es,ep,e,c⟩:=x
  exact ⟨z,y,xs,Paired.mapP r fun p q z=>⟨z.1,ht _ _ z.2.1,z.2.2⟩,ob,es,ep,k _ _ (.inl rfl) e,c⟩
 | set S n=>obtain ⟨ob,es,ep,t,e,c⟩:=x;exact ⟨ob,es,ep,t,k _ _ (.inl rfl) e,c⟩
 | ins C dx fs =>
  obtain ⟨d,z,ne,e,mA,⟨od,es,ep,e2,c⟩,r⟩:=x
  exact ⟨ho _ d,z,ne,k _ _ (.inl rfl) e,mA,⟨od,es,ep,k _ _ (.inr d) e2,c⟩,r⟩
 | own y=>obtain ⟨ob,e⟩:=x;exact ⟨ob,k _ _ (.inl rfl) e⟩
 | xd fs=>obtain ⟨mA,⟨od,es,ep,e,c⟩,r⟩:=x;exact ⟨mA,⟨od,es,ep,k _ _ (.inl rfl) e,c⟩,r⟩
 | rng lo hi=>obtain ⟨t,u,v,e⟩:=x;exact ⟨t,u,v,k _ _ (.inl rfl) e⟩
 | frz ob u ih=>obtain ⟨e,q⟩:=x;exact ⟨k _ _ (.inl rfl) e,ih q⟩
 | tbl ps =>
  have e:h.get? a=some { cls:=.none,data:=.fields ps }:=x
  show h'.get? a=some { cls:=.none,data:=.fields ps }
  exact k a _ (.inl rfl) e
 | met f y =>
  have e:h.get? a=some (tW (.ref f) (.ref y)):=x
  show h'.get? a=some (tW (.ref f) (.ref y))
  exact k a _ (.inl rfl) e
 | ext φ=>obtain ⟨p,⟨o,e⟩,st⟩:=x;exact ⟨st _ _ p fun o q=>k _ _ (.inl rfl) q,⟨o,k _ _ (.inl rfl) e⟩,st⟩
theorem pP.lt (x:pP P w H h) (e:H a=some o):a<h.objs.size:=(x a o e).lt
theorem pP.fresh (x:pP P w H h) (e:h.objs.size<=a):H a=none:=by
 cases q:H a with
 | none=>rfl
 | some u=>exact absurd (aJ (x.lt q) e) (b_ _)
theorem pP.kept (x:pP P w H h) (k:∀ b u,h.get? b=some u->h'.get? b=some u):pP P w H h':=fun a o e =>
 (x a o e).stay (fun b u _ q=>k b u q) (fun _ q=>q) fun _ _ q=>q
theorem pP.laid (x:pP P w H h) (k:∀ b u,h.get? b=some u->h'.get? b=some u) (hp:h.objs.size<=a) (new:dA P w (upd H a o) h' a o):pP P w (upd H a o) h':=fun b u e=>by
 have hn:=x.fresh hp
 by_cases hb:b=a
 ·subst hb;rw [bn] at e;cases e;exact new
 ·rw [bt hb] at e
  exact (x b u e).stay (fun c v _ q=>k c v q) (fun c q=>by rw [bt (bT q hn)];exact q) fun c xs q=>by rw [bt (bT q hn)];exact q
end
def Rd (H:Hp) (a:aj) (u:HO):Prop:=H a=some u\/∃ o,H a=some (.frz o u)
theorem Rd.ok {P:aM}{w:ba}{H:Hp}{h:bB}{a:aj}{u:HO} (r:Rd H a u) (x:pP P w H h):dA P w H h a u:=by
 rcases r with r | ⟨o,r⟩
 ·exact x a u r
 ·obtain ⟨_,q⟩:=x a _ r
  exact q
def TC:Option HO->Prop
 | some (.lst _)=>True
 | some (.dK _)=>True
 | some (.dT _)=>True
 | some (.set _ _)=>True
 | some (.ins _ _ _)=>True
 | some (.ext _)=>True
 | _=>False
section
variable {P:aM}{w:ba}{H:Hp}{h h':bB}{x e:aj}{o':HO}
theorem pP.write (ok:pP P w H h) (mu:TC (H x)) (he:e=x\/H e=some (.own x)) (k:∀ b u,b≠e->h.get? b=some u->h'.get? b=some u) (heo:∃ u,h'.get? e=some u)
  (new:dA P w (upd H x o') h' x o'):pP P w (upd H x o') h':=fun b u q=>by
 have nown:∀ c y,H c=some (.own y)->c≠x:=fun c y r z=>by subst z;rw [r] at mu;exact mu
 have ntup:∀ c xs,H c=some (.tup xs)->c≠x:=fun c xs r z=>by subst z;rw [r] at mu;exact mu
 by_cases hb:b=x
 ·subst hb;rw [bn] at q;cases q;exact new
 ·rw [bt hb] at q
  by_cases hbe:b=e
  ·have q':H b=some (.own x):=by
    rcases he with z | z
    ·exact absurd (hbe.trans z) hb
    ·rw [hbe];exact z
   rw [q] at q';cases q'
   obtain ⟨v,hv⟩:=heo
   exact ⟨v,by rw [hbe];exact hv⟩
  ·refine (ok b u q).stay (fun c v hc r=>k c v ?_ r) (fun c r=>by rw [bt (nown c b r)];exact r) fun c xs r=>by rw [bt (ntup c xs r)];exact r
   rcases hc with rfl | hc
   ·exact hbe
   ·rintro rfl
    rcases he with z | z
    ·exact nown c b hc z
    ·rw [hc] at z;cases z;exact hb rfl
end
structure Un (fs ex:List aj) (H H':Hp) (h h':bB):Prop where
 keep:∀ b o,h.get? b=some o->H b=none->b∉fs->b∉ex->h'.get? b=some o
 slot:∀ b o,h.get? b=some o->H b=none->b∈fs->b∉ex->∃ sl,h'.get? b=some { o with slots:=sl }
 free:∀ b o,h.get? b=some o->H b=none->b∉ex->H' b=none
 there:∀ b o,h.get? b=some o->b∉ex->∃ o',h'.get? b=some o'
 tups:∀ b xs,H b=some (.tup xs)->H' b=some (.tup xs)
 frzs:∀ b o u,H b=some (.frz o u)->H' b=some (.frz o u)
 tbls:∀ b ps,H b=some (.tbl ps)->∃ more,H' b=some (.tbl (ps++more))
section
variable {fs fs' ex ex':List aj}{H H1 H2:Hp}{h h1 h2 h':bB}{a x e:aj}{o:HO}
theorem Un.any (u:Un fs ex H H1 h h1) {b:aj}{ob:Obj} (q:h.get? b=some ob) (n:H b=none) (hx:b∉ex):∃ sl,h1.get? b=some { ob with slots:=sl }:=by
 by_cases hb:b∈fs
 ·exact u.slot b ob q n hb hx
 ·exact ⟨ob.slots,u.keep b ob q n hb hx⟩
theorem Un.kept (k:∀ b u,h.get? b=some u->h'.get? b=some u):Un fs ex H H h h' :=
 ⟨fun b ob q _ _ _=>k b ob q,fun b ob q _ _ _=>⟨ob.slots,k b ob q⟩,fun _ _ _ n _=>n,fun b ob q _=>⟨ob,k b ob q⟩,fun _ _ q=>q,fun _ _ _ q=>q,fun _ ps q=>⟨#[],by rw [q];simp⟩⟩
theorem Un.refl:Un fs ex H H h h:=Un.kept fun _ _ q=>q
theorem Un.laid (k:∀ b u,h.get? b=some u->h'.get? b=some u) (hp:h.objs.size<=a) (hn:H a=none):Un fs ex H (upd H a o) h h' where
 keep:=fun b u q _ _ _=>k b u q
 slot:=fun b u q _ _ _=>⟨u.slots,k b u q⟩
 free:=fun b u q n _=>by rw [bt (aF (aJ (aq q) hp))];exact n
 there:=fun b u q _=>⟨u,k b u q⟩
 tups:=fun b xs q=>by rw [bt (bT q hn)];exact q
 frzs:=fun b u xs q=>by rw [bt (bT q hn)];exact q
 tbls:=fun b ps q=>⟨#[],by rw [bt (bT q hn),q];simp⟩
theorem Un.write (mu:TC (H x)) (he:e=x\/H e=some (.own x)) (k:∀ b u,b≠e->h.get? b=some u->h'.get? b=some u) (heo:∃ u,h'.get? e=some u):Un fs ex H (upd H x o) h h':=by
 have hx:∀ b,H b=none->b≠x:=fun b n z=>by subst z;rw [n] at mu;exact mu
 have hb:∀ b,H b=none->b≠e:=fun b n z=>by
  subst z
  rcases he with r | r
  ·exact hx b n r
  ·rw [n] at r;cases r
 have hm:∀ b u,H b=some u->¬ TC (some u)->b≠x:=fun b u q nm z=>by subst z;rw [q] at mu;exact nm mu
 refine ⟨fun b u q n _ _=>k b u (hb b n) q,fun b u q n _ _=>⟨u.slots,k b u (hb b n) q⟩,fun b u q n _=>by rw [bt (hx b n)];exact n,fun b u q _=>?_,
  fun b xs q=>by rw [bt (hm b _ q fun z=>z)];exact q,fun b u xs q=>by rw [bt (hm b _ q fun z=>z)];exact q,fun b ps q=>⟨#[],by rw [bt (hm b _ q fun z=>z),q];simp⟩⟩
 by_cases hbe:b=e
 ·subst hbe;exact heo
 ·exact ⟨u,k b u hbe q⟩
end
def Vy (h:bB) (H:Hp):List aj:=(bx h.objs.size).filter fun a=>(H a).isSome
def BC (h:bB) (H:Hp):bB:=KI h (Vy h H)
theorem Ji (h:bB) (H:Hp):(BC h H).objs.size=h.objs.size:=PySem.W.hideAll_size _ _
theorem Lk {h:bB}{H:Hp}{b:aj}{o:Obj} (e:h.get? b=some o) (n:H b=none):(BC h H).get? b=some o :=
 Ft _ e fun hm=>by
  have q:(H b).isSome=true:=(List.mem_filter.mp hm).2
  rw [n] at q;simp at q
theorem OY {h:bB}{H:Hp}{b:aj}{o:Obj} (e:(BC h H).get? b=some o):h.get? b=some o/\H b=none:=by
 have e':h.get? b=some o:=FI (Vy h H) e
 refine ⟨e',?_⟩
 cases q:H b with
 | none=>rfl
 | some x =>
  have hm:b∈Vy h H:=List.mem_filter.mpr ⟨List.mem_range.mpr (aq e'),by simp [q]⟩
  have z:(BC h H).get? b=none:=PySem.W.hideAll_none (Vy h H) hm
  rw [z] at e;cases e
def OZ (g h:bB) (L:aj):List (aj×Obj):=(bx h.objs.size).filterMap fun a=>if a=L\/(g.get? a).isSome=true then none else (h.get? a).map fun o=>(a,o)
def c7 (g h:bB) (L d:aj):List (aj×Obj):=(OZ g h L).filter fun p=>decide (p.1≠d)
end L2
namespace L2
open PySem PySem.Spec PyProof.Rows
structure Mod (K:a8) (mg:Str->Option ac) (base:bB):Prop where
 kin:K.In base
 glob:base.Ns bY mg
 blt:∃ mb,base.Ns builtinsNs mb/\∀ x:Str,x≠"__name__"->mb x=i9 x
 nolimit:base.NoLimit
structure Cx where
 prog:aM
 w:ba
 K:a8
 mg:Str->Option ac
 base:bB
 A:bv
 N:List Str
 s₀:ag
 H₀:Hp
 env:Env
 outer:List Env
 stack:List Env
 ex:List aj
 fn:Str->Bool
 calm:Bool
 pn:List (aj×Obj)
 xe:ac->ag->Prop
def rT (l:List Env):List aj:=l.filterMap (·.frame)
abbrev Cx.fs (X:Cx):List aj:=rT X.outer
def O_ (sc:eO) (x:Str):Prop:=sc.names.lookup x=some .local\/sc.names.lookup x=some .cell\/sc.names.lookup x=some .free
def QF (sc:eO) (x:Str):Prop:=sc.names.lookup x=some .local\/sc.names.lookup x=some .cell
def VU (env:Env) (h:bB) (m:Str->Option ac) (x:Str) (u:ac):Prop :=
 (env.kindOf x=some .local/\m x=some u)\/((env.kindOf x=some .cell\/env.kindOf x=some .free)/\∃ c,env.cells.lookup x=some c/\h.IsCell c (some u))
structure Cx.Ok (X:Cx):Prop where
 mod:Mod X.K X.mg X.base
 kind:X.env.scope.kind=.function
 glob:X.env.globals=bY
 blt:X.env.builtins=builtinsNs
 above:X.s₀.heap.objs.size<=X.env.locals
 inj:∀ x y c,X.env.cells.lookup x=some c->X.env.cells.lookup y=some c->x=y
 has:∀ x,(X.env.kindOf x=some .cell\/X.env.kindOf x=some .free)->∃ c,X.env.cells.lookup x=some c
 cab:∀ x c,X.fn x=true->X.env.cells.lookup x=some c->X.s₀.heap.objs.size<=c
 hd:X.calm=true->X.A.handled=none
 frames:X.A.frames=some X.stack
 stk:X.stack=X.outer\/(X.stack=X.env::X.outer/\X.env.frame=some X.env.locals)
 exf:∀ b∈X.ex,b≠X.env.locals/\∀ x c,X.env.cells.lookup x=some c->c≠b
 bs:∀ b o,X.base.get? b=some o->X.s₀.heap.get? b=some o/\X.H₀ b=none
 bsz:X.base.objs.size<=X.s₀.heap.objs.size
 noex:∀ b o,X.base.get? b=some o->b∉X.ex
 exfs:∀ b∈X.ex,b∉X.fs
 funs:X.s₀.heap.FunFrames X.base X.outer
 frf:∀ b∈X.fs,X.H₀ b=none
structure bP (X:Cx) (pins:List (aj×Obj)) (σ:List (Option V)) (H:Hp) (s:ag):Prop where
 ok:X.Ok
 os:s.os=X.s₀.os
 bare:pS s.gens
 base:Un X.fs X.ex X.H₀ H X.s₀.heap s.heap
 loc:∃ m,s.heap.Ns X.env.locals m/\∀ (i:Nat) (x:Str) (v:V),X.N[i]?=some x->σ[i]?=some (some v)->O_ X.env.scope x->∃ u,du v u/\VU X.env s.heap m x u
 cell:∀ x c,X.env.cells.lookup x=some c->∃ v,s.heap.IsCell c v
 free:H X.env.locals=none
 freeC:∀ x c,X.env.cells.lookup x=some c->H c=none
 pin:∀ p∈X.pn++pins,s.heap.get? p.1=some p.2/\H p.1=none/\p.1≠X.env.locals/\p.1∉X.fs/\∀ v,p.2.data≠.cell v
 hok:pP X.prog X.w H s.heap
 len:σ.length=X.N.length
section
variable {X:Cx}{pins:List (aj×Obj)}{σ:List (Option V)}{H H':Hp}{s:ag}{h':bB}
theorem Cx.Ok.nofr (ok:X.Ok) {b:aj}{o:Obj} (e:X.base.get? b=some o):b∉X.fs:=fun hb=>by
 have:=(ok.funs.mem hb).1
 rw [e] at this;cases this
theorem bP.bs (I:bP X pins σ H s):∀ b o,X.base.get? b=some o->s.heap.get? b=some o/\H b=none:=fun b o e =>
 ⟨I.base.keep b o (I.ok.bs b o e).1 (I.ok.bs b o e).2 (I.ok.nofr e) (I.ok.noex b o e),I.base.free b o (I.ok.bs b o e).1 (I.ok.bs b o e).2 (I.ok.noex b o e)⟩
theorem bP.bk (I:bP X pins σ H s):∀ b o,X.base.get? b=some o->s.heap.get? b=some o:=fun b o e=>(I.bs b o e).1
theorem bP.mod (I:bP X pins σ H s):Mod X.K X.mg X.base:=I.ok.mod
theorem bP.kIn (I:bP X pins σ H s):X.K.In s.heap:=I.ok.mod.kin.keeps I.bk
theorem bP.fr (I:bP X pins σ H s):∃ m,Fr X.base X.env.locals s.heap m :=
 let ⟨m,hn,_⟩:=I.loc
 ⟨m,hn,I.bk,bZ I.ok.bsz I.ok.above⟩
theorem bP.lt (I:bP X pins σ H s):X.env.locals<s.heap.objs.size:=let ⟨_,hn,_⟩:=I.loc;hn.lt
theorem bP.sz (I:bP X pins σ H s):X.s₀.heap.objs.size<=s.heap.objs.size:=bZ I.ok.above (cr I.lt)
theorem bP.nofs (I:bP X pins σ H s) {a:aj} (h:s.heap.objs.size<=a):a∉X.fs:=fun hb=>by
 obtain ⟨_,o,ho,_⟩:=I.ok.funs.mem hb
 exact absurd (aJ (aq ho) (bZ I.sz h)) (b_ _)
theorem bP.cne (I:bP X pins σ H s):∀ x c,X.env.cells.lookup x=some c->c≠X.env.locals:=fun x c e z=>by
 obtain ⟨v,o,ho,hd⟩:=I.cell x c e
 obtain ⟨m,⟨o',es,ep,ho',hd',_⟩,_⟩:=I.loc
 rw [z,ho'] at ho;cases ho;rw [hd'] at hd;cases hd
theorem bP.funs (I:bP X pins σ H s):s.heap.FunFrames X.base X.outer:=by
 have all:∀ (l:List Env),(∀ b∈rT l,b∈X.fs)->X.s₀.heap.FunFrames X.base l->s.heap.FunFrames X.base l:=by
  intro l
  induction l with
  | nil=>intro _ _;trivial
  | cons env r ih =>
   intro hs hl
   obtain ⟨hk,⟨L,o,hf,hn,ho,hd⟩,hr⟩:=hl
   have hL:L∈X.fs:=hs L (by unfold rT;rw [tN,hf];exact am)
   obtain ⟨sl,e⟩:=I.base.slot L o ho (I.ok.frf L hL) hL fun z=>I.ok.exfs L z hL
   exact ⟨hk,⟨L,_,hf,hn,e,hd⟩,ih (fun b hb=>hs b (by unfold rT;rw [tN,hf];exact ak _ hb)) hr⟩
 exact all X.outer (fun _ hb=>hb) I.ok.funs
theorem bP.stack (I:bP X pins σ H s):s.heap.FunFrames X.base X.stack:=by
 rcases I.ok.stk with e | ⟨e,hf⟩
 ·rw [e];exact I.funs
 ·rw [e]
  obtain ⟨m,hn,_⟩:=I.loc
  refine .cons (by rw [I.ok.kind];decide) hf hn ?_ I.funs
  exact Heap.get?_none_of_le (bZ I.ok.bsz I.ok.above)
theorem bP.stkSub (I:bP X pins σ H s):∀ b∈rT X.stack,b∈X.env.locals::X.fs:=fun b hb=>by
 rcases I.ok.stk with e | ⟨e,hf⟩
 ·rw [e] at hb;exact ak _ hb
 ·rw [e] at hb
  unfold rT at hb
  rw [tN,hf] at hb
  exact hb
theorem bP.stkFree (I:bP X pins σ H s):∀ b∈rT X.stack,H b=none:=fun b hb=>by
 rcases List.mem_cons.mp (I.stkSub b hb) with e | hb
 ·rw [e];exact I.free
 ·obtain ⟨_,o,ho,_⟩:=I.ok.funs.mem hb
  exact I.base.free b o ho (I.ok.frf b hb) fun z=>I.ok.exfs b z hb
theorem bP.step {g':Array GenState}{t':Nat}{d':Drawn}{ch:List aj} (I:bP X pins σ H s)
  (hch:∀ b∈ch,(b∈X.ex\/X.s₀.heap.objs.size<=b)/\b≠X.env.locals/\(∀ x c,X.env.cells.lookup x=some c->c≠b)/\∀ p∈X.pn++pins,p.1≠b)
  (keep:∀ b o,b≠X.env.locals->b∉X.fs->b∉ch->s.heap.get? b=some o->H b=none->h'.get? b=some o)
  (slot:∀ b o,b≠X.env.locals->b∈X.fs->b∉ch->s.heap.get? b=some o->H b=none->∃ sl,h'.get? b=some { o with slots:=sl }) (free:∀ b o,b∉ch->s.heap.get? b=some o->H b=none->H' b=none)
  (there:∀ b o,b∉ch->s.heap.get? b=some o->∃ o',h'.get? b=some o')
  (tups:∀ b xs,H b=some (.tup xs)->H' b=some (.tup xs)) (frzs:∀ b o u,H b=some (.frz o u)->H' b=some (.frz o u)) (tbls:∀ b ps,H b=some (.tbl ps)->∃ more,H' b=some (.tbl (ps++more)))
  (ns:∀ m,s.heap.Ns X.env.locals m->h'.Ns X.env.locals m) (hok:pP X.prog X.w H' h') (hg:pS g') :
  bP X pins σ H' { s with heap:=h',gens:=g',drawn:=d',toks:=t' }:=by
 have neL:∀ b o,X.s₀.heap.get? b=some o->b≠X.env.locals:=fun b o e=>aF (aJ (aq e) I.ok.above)
 have neC:∀ b o,X.s₀.heap.get? b=some o->b∉X.ex->b∉ch:=fun b o e hx hb=>by
  rcases (hch b hb).1 with z | z
  ·exact hx z
  ·exact absurd (aJ (aq e) z) (b_ _)
 have cellK:∀ x c,X.env.cells.lookup x=some c->∀ v,s.heap.IsCell c v->h'.IsCell c v:=fun x c e v h_0=>by
  obtain ⟨o,ho,hd⟩:=h_0
  have nch:c∉ch:=fun z=>(hch c z).2.2.1 x c e rfl
  by_cases hc:c∈X.fs
  ·obtain ⟨sl,q⟩:=slot c o (I.cne x c e) hc nch ho (I.freeC x c e)
   exact ⟨_,q,hd⟩
  ·exact ⟨o,keep c o (I.cne x c e) hc nch ho (I.freeC x c e),hd⟩
 refine ⟨I.ok,I.os,hg,⟨fun b o e n hb hx=>?_,fun b o e n hb hx=>?_,fun b o e n hx=>?_,fun b o e hx=>?_,fun b xs e=>tups b xs (I.base.tups b xs e),fun b o xs e=>frzs b o xs (I.base.frzs b o xs e),fun b ps e=>?_⟩,?_,fun x c e=>?_,?_,fun x c e=>?_,fun p hp=>?_,hok,I.len⟩
 ·exact keep b o (neL b o e) hb (neC b o e hx) (I.base.keep b o e n hb hx) (I.base.free b o e n hx)
 ·obtain ⟨sl,e1⟩:=I.base.slot b o e n hb hx
  obtain ⟨sl',e2⟩:=slot b _ (neL b o e) hb (neC b o e hx) e1 (I.base.free b o e n hx)
  exact ⟨sl',e2⟩
 ·obtain ⟨o',e1⟩:=I.base.there b o e hx
  exact free b o' (neC b o e hx) e1 (I.base.free b o e n hx)
 ·obtain ⟨o',e1⟩:=I.base.there b o e hx
  exact there b o' (neC b o e hx) e1
 ·obtain ⟨m1,e1⟩:=I.base.tbls b ps e
  obtain ⟨m2,e2⟩:=tbls b _ e1
  exact ⟨m1++m2,by rw [e2,IZ]⟩
 ·obtain ⟨m,hn,hl⟩:=I.loc
  refine ⟨m,ns m hn,fun i x v e1 e2 e3=>?_⟩
  obtain ⟨u,r,l⟩:=hl i x v e1 e2 e3
  refine ⟨u,r,?_⟩
  rcases l with l | ⟨k,c,e,z⟩
  ·exact .inl l
  ·exact .inr ⟨k,c,e,cellK x c e _ z⟩
 ·obtain ⟨v,z⟩:=I.cell x c e
  exact ⟨v,cellK x c e v z⟩
 ·obtain ⟨m,⟨o,_,_,ho,_⟩,_⟩:=I.loc
  exact free _ o (fun z=>(hch _ z).2.1 rfl) ho I.free
 ·obtain ⟨v,o,ho,hd⟩:=I.cell x c e
  exact free c o (fun z=>(hch c z).2.2.1 x c e rfl) ho (I.freeC x c e)
 ·obtain ⟨e,n,ne,nf,d⟩:=I.pin p hp
  have nch:p.1∉ch:=fun z=>(hch p.1 z).2.2.2 p hp rfl
  exact ⟨keep p.1 p.2 ne nf nch e n,free p.1 p.2 nch e n,ne,nf,d⟩
theorem bP.un {t':Nat} (I:bP X pins σ H s) (u:Un X.fs [] H H' s.heap h') (hok:pP X.prog X.w H' h'):bP X pins σ H' { s with heap:=h',toks:=t' }:=by
 obtain ⟨m,⟨o,es,ep,ho,r⟩,_⟩:=id I.loc
 obtain ⟨sl,hL⟩:=u.any ho I.free (by simp)
 exact I.step (g':=s.gens) (d':=s.drawn) (ch:=[]) (fun _ z=>nomatch z) (fun b o _ hb _ e n=>u.keep b o e n hb (by simp)) (fun b o _ hb _ e n=>u.slot b o e n hb (by simp)) (fun b o _ e n=>u.free b o e n (by simp)) (fun b o _ e=>u.there b o e (by simp)) u.tups u.frzs u.tbls (fun m' hm=>by
  obtain ⟨o',es',ep',ho',r'⟩:=hm
  rw [ho] at ho';cases ho'
  exact ⟨_,es',ep',hL,r'⟩) hok I.bare
theorem bP.call {g':Array GenState}{t':Nat}{d':Drawn}{ch:List aj} (I:bP X pins σ H s) (u:Un (rT X.stack) ch H H' s.heap h') (hok:pP X.prog X.w H' h') (hg:pS g')
  (hch:∀ b∈ch,(b∈X.ex\/X.s₀.heap.objs.size<=b)/\b≠X.env.locals/\(∀ x c,X.env.cells.lookup x=some c->c≠b)/\∀ p∈X.pn++pins,p.1≠b) :
  bP X pins σ H' { s with heap:=h',gens:=g',drawn:=d',toks:=t' }:=by
 obtain ⟨m,⟨o,es,ep,ho,r⟩,_⟩:=id I.loc
 obtain ⟨sl,hL⟩:=u.any ho I.free fun z=>(hch _ z).2.1 rfl
 exact I.step (ch:=ch) hch (fun b o hL hb hc e n=>u.keep b o e n (fun z=>(List.mem_cons.mp (I.stkSub b z)).elim hL hb) hc) (fun b o _ _ hc e n=>u.any e n hc) (fun b o hc e n=>u.free b o e n hc) (fun b o hc e=>u.there b o e hc) u.tups u.frzs u.tbls (fun m' hm=>by
  obtain ⟨o',es',ep',ho',r'⟩:=hm
  rw [ho] at ho';cases ho'
  exact ⟨_,es',ep',hL,r'⟩) hok hg
theorem bP.turned {t':Nat}{it:aj} (I:bP X pins σ H s) (k:∀ b o,b≠it->s.heap.get? b=some o->h'.get? b=some o) (hn:H it=none) (hL:it≠X.env.locals)
  (h1:it∈X.ex\/X.s₀.heap.objs.size<=it) (h2:∀ x c,X.env.cells.lookup x=some c->c≠it) (h3:∀ p∈X.pn++pins,p.1≠it):bP X pins σ H { s with heap:=h',toks:=t' }:=by
 have nit:∀ b u,H b=some u->b≠it:=fun b u e z=>by rw [z,hn] at e;cases e
 refine I.step (g':=s.gens) (d':=s.drawn) (ch:=[it]) (fun b hb=>?_) (fun b o _ _ hc e _=>k b o (fun z=>hc (by simp [z])) e) (fun b o _ _ hc e _=>⟨o.slots,k b o (fun z=>hc (by simp [z])) e⟩) (fun _ _ _ _ n=>n)
  (fun b o hc e=>⟨o,k b o (fun z=>hc (by simp [z])) e⟩) (fun _ _ e=>e) (fun _ _ _ e=>e) (fun b ps e=>⟨#[],by rw [e];simp⟩) (fun m hm=>?_) (fun b u e=>?_) I.bare
 ·have e:b=it:=by simpa using hb
  subst e
  exact ⟨h1,hL,h2,h3⟩
 ·obtain ⟨o,es,ep,ho,r⟩:=hm
  exact ⟨o,es,ep,k _ o (db hL) ho,r⟩
 ·refine (I.hok b u e).stay (fun c v hc q=>k c v ?_ q) (fun _ q=>q) fun _ _ q=>q
  rcases hc with z | z
  ·rw [z];exact nit b u e
  ·exact nit c _ z
theorem bP.tok (I:bP X pins σ H s) (t:Nat):bP X pins σ H { s with toks:=t }:=I.un (h':=s.heap) (t':=t) Un.refl I.hok
theorem bP.kept {t':Nat} (I:bP X pins σ H s) (k:∀ b u,s.heap.get? b=some u->h'.get? b=some u):bP X pins σ H { s with heap:=h',toks:=t' }:=I.un (Un.kept k) (I.hok.kept k)
theorem bP.laid {a:aj}{o:HO}{t':Nat} (I:bP X pins σ H s) (k:∀ b u,s.heap.get? b=some u->h'.get? b=some u) (hp:s.heap.objs.size<=a) (new:dA X.prog X.w (upd H a o) h' a o) :
  bP X pins σ (upd H a o) { s with heap:=h',toks:=t' }:=I.un (Un.laid k hp (I.hok.fresh hp)) (I.hok.laid k hp new)
theorem bP.write {x e:aj}{o:HO}{t':Nat} (I:bP X pins σ H s) (mu:TC (H x)) (he:e=x\/H e=some (.own x)) (k:∀ b u,b≠e->s.heap.get? b=some u->h'.get? b=some u) (heo:∃ u,h'.get? e=some u)
  (new:dA X.prog X.w (upd H x o) h' x o):bP X pins σ (upd H x o) { s with heap:=h',toks:=t' }:=I.un (Un.write mu he k heo) (I.hok.write mu he k heo new)
theorem bP.weak {σ':List (Option V)} (I:bP X pins σ H s) (hl:σ'.length=σ.length) (w:∀ (i:Nat) v,σ'[i]?=some (some v)->σ[i]?=some (some v)):bP X pins σ' H s :=
 ⟨I.ok,I.os,I.bare,I.base,let ⟨m,hn,hl'⟩:=I.loc;⟨m,hn,fun i x v e1 e2 e3=>hl' i x v e1 (w i v e2) e3⟩,I.cell,I.free,I.freeC,I.pin,I.hok,hl.trans I.len⟩
theorem bP.pins_of {pins':List (aj×Obj)} (I:bP X pins σ H s) (h:∀ p∈pins',s.heap.get? p.1=some p.2/\H p.1=none/\p.1≠X.env.locals/\p.1∉X.fs/\∀ v,p.2.data≠.cell v):bP X pins' σ H s :=
 ⟨I.ok,I.os,I.bare,I.base,I.loc,I.cell,I.free,I.freeC,fun p hp=>(List.mem_append.mp hp).elim (fun z=>I.pin p (bu _ z)) (h p),I.hok,I.len⟩
theorem Dk {N:List Str} (hN:N.Nodup) {i j:Nat}{x:Str} (a:N[i]?=some x) (b:N[j]?=some x):i=j:=by
 obtain ⟨h1,e1⟩:=List.getElem?_eq_some_iff.mp a
 obtain ⟨h2,e2⟩:=List.getElem?_eq_some_iff.mp b
 exact (List.getElem_inj hN).mp (e1.trans e2.symm)
theorem AE {M:KJ}{A:bv}{E:ac->ag->Prop}{i:Nat}{x:Str}{v:V}{u:ac}{Q:Unit->ag->Prop} (I:bP X pins σ H s) (hN:X.N.Nodup) (hi:X.N[i]?=some x) (hx:QF X.env.scope x) (r:du v u)
  (h:∀ s',bP X pins (σ.set i (some v)) H s'->(∃ a,bH a s.heap s'.heap/\(a=X.env.locals\/X.env.cells.lookup x=some a))->Q () s') (hf:X.fn x=true\/X.env.scope.names.lookup x=some .local:=by first | exact .inl rfl | exact .inr rfl | assumption):au M A (storeName X.env x u) Q E s:=by
 obtain ⟨m,hn,hl⟩:=id I.loc
 have hcls:(X.env.scope.kind == .class || (X.env.scope.kind == .module && X.env.locals != X.env.globals))=false:=by rw [I.ok.kind];rfl
 have hiσ:i<σ.length:=by rw [I.len];exact (List.getElem?_eq_some_iff.mp hi).1
 have cne:=I.cne
 have tracked:∀ {a:aj}{h':bB},(∃ o,s.heap.get? a=some o/\H a=none)->bH a s.heap h'->pP X.prog X.w H h':=fun {a h'} ha hs b ob e=>by
  obtain ⟨_,_,hfree⟩:=ha
  refine (I.hok b ob e).stay (fun c w' hc q=>(hs.2 c ?_).trans q) (fun _ q=>q) fun _ _ q=>q
  rintro rfl
  rcases hc with rfl | hc
  ·rw [hfree] at e;cases e
  ·rw [hfree] at hc;cases hc
 rcases hx with hk | hk
 ·refine wpAny_storeName_local hk hn (fun h' hn' hs=>?_) hcls
  obtain ⟨oL,_,_,hoL,_⟩:=id hn
  refine h _ ⟨I.ok,I.os,I.bare,⟨fun b o e n hb hx=>?_,fun b o e n hb hx=>?_,I.base.free,fun b o e hx=>?_,I.base.tups,I.base.frzs,I.base.tbls⟩,⟨_,hn',fun j y v' e1 e2 e3=>?_⟩,fun y c e=>?_,I.free,I.freeC,fun p hp=>?_,tracked ⟨oL,hoL,I.free⟩ hs,by simpa using I.len⟩ ⟨_,hs,.inl rfl⟩
  ·exact (hs.2 b (aF (aJ (aq e) I.ok.above))).trans (I.base.keep b o e n hb hx)
  ·obtain ⟨sl,e1⟩:=I.base.slot b o e n hb hx
   exact ⟨sl,(hs.2 b (aF (aJ (aq e) I.ok.above))).trans e1⟩
  ·obtain ⟨o',e1⟩:=I.base.there b o e hx
   exact ⟨o',(hs.2 b (aF (aJ (aq e) I.ok.above))).trans e1⟩
  ·by_cases hj:j=i
   ·subst hj
    rw [hi] at e1;cases e1
    rw [aK hiσ] at e2
    cases e2
    exact ⟨u,r,.inl ⟨hk,by simp⟩⟩
   ·rw [al (db hj)] at e2
    obtain ⟨u',r',q⟩:=hl j y v' e1 e2 e3
    refine ⟨u',r',?_⟩
    rcases q with ⟨k,e⟩ | ⟨k,c,e,z⟩
    ·refine .inl ⟨k,?_⟩
     have:y≠x:=fun e=>hj (Dk hN e1 (e ▸ hi))
     simp [this,e]
    ·exact .inr ⟨k,c,e,z.sameBut hs (cne y c e)⟩
  ·obtain ⟨w',z⟩:=I.cell y c e
   exact ⟨w',z.sameBut hs (cne y c e)⟩
  ·obtain ⟨e,n,ne,nf,d⟩:=I.pin p hp
   exact ⟨(hs.2 p.1 ne).trans e,n,ne,nf,d⟩
 ·have hfn:X.fn x=true:=by
   rcases hf with z | z
   ·exact z
   ·rw [z] at hk;cases hk
  obtain ⟨c,hc⟩:=I.ok.has x (.inl hk)
  obtain ⟨w',z⟩:=I.cell x c hc
  refine wpAny_storeName_cell I.ok.kind hk hc z (fun h' hc' hs=>?_)
  obtain ⟨oc,hoc,hocd⟩:=id z
  refine h { s with heap:=h' } ⟨I.ok,I.os,I.bare,⟨fun b o e n hb hx=>?_,fun b o e n hb hx=>?_,I.base.free,fun b o e hx=>?_,I.base.tups,I.base.frzs,I.base.tbls⟩,⟨m,hn.sameBut hs (db (cne x c hc)),fun j y v' e1 e2 e3=>?_⟩,fun y c' e=>?_,I.free,I.freeC,fun p hp=>?_,tracked ⟨oc,hoc,I.freeC x c hc⟩ hs,by simpa using I.len⟩ ⟨c,hs,.inr hc⟩
  ·exact (hs.2 b (aF (aJ (aq e) (I.ok.cab x c hfn hc)))).trans (I.base.keep b o e n hb hx)
  ·obtain ⟨sl,e1⟩:=I.base.slot b o e n hb hx
   exact ⟨sl,(hs.2 b (aF (aJ (aq e) (I.ok.cab x c hfn hc)))).trans e1⟩
  ·obtain ⟨o',e1⟩:=I.base.there b o e hx
   exact ⟨o',(hs.2 b (aF (aJ (aq e) (I.ok.cab x c hfn hc)))).trans e1⟩
  ·by_cases hj:j=i
   ·subst hj
    rw [hi] at e1;cases e1
    rw [aK hiσ] at e2
    cases e2
    exact ⟨u,r,.inr ⟨.inl hk,c,hc,hc'⟩⟩
   ·rw [al (db hj)] at e2
    obtain ⟨u',r',q⟩:=hl j y v' e1 e2 e3
    refine ⟨u',r',?_⟩
    rcases q with q | ⟨k,c',e,z'⟩
    ·exact .inl q
    ·refine .inr ⟨k,c',e,z'.sameBut hs ?_⟩
     rintro rfl
     exact hj (Dk hN e1 (I.ok.inj _ _ _ e hc ▸ hi))
  ·by_cases hcc:c'=c
   ·subst hcc;exact ⟨_,hc'⟩
   ·obtain ⟨w2,z2⟩:=I.cell y c' e
    exact ⟨w2,z2.sameBut hs hcc⟩
  ·obtain ⟨e,n,ne,nf,d⟩:=I.pin p hp
   refine ⟨(hs.2 p.1 ?_).trans e,n,ne,nf,d⟩
   intro q
   rw [q,hoc] at e
   have q':oc=p.2:=bG e
   exact d w' (by rw [<- q'];exact hocd)
theorem u6 {M:KJ}{A:bv}{E:ac->ag->Prop}{i:Nat}{x:Str}{v:V}{u:ac}{Q:Unit->ag->Prop} (I:bP X pins σ H s) (hN:X.N.Nodup) (hi:X.N[i]?=some x) (hx:QF X.env.scope x) (r:du v u)
  (h:∀ s',bP X pins (σ.set i (some v)) H s'->Q () s') (hf:X.fn x=true\/X.env.scope.names.lookup x=some .local:=by first | exact .inl rfl | exact .inr rfl | assumption):au M A (storeName X.env x u) Q E s :=
 AE I hN hi hx r (fun s' I' _=>h s' I') hf
theorem bP.call' {s':ag}{ch:List aj} (I:bP X pins σ H s) (ho:s'.os=s.os) (u:Un (rT X.stack) ch H H' s.heap s'.heap) (hok:pP X.prog X.w H' s'.heap) (hg:pS s'.gens)
  (hch:∀ b∈ch,(b∈X.ex\/X.s₀.heap.objs.size<=b)/\b≠X.env.locals/\(∀ x c,X.env.cells.lookup x=some c->c≠b)/\∀ p∈X.pn++pins,p.1≠b):bP X pins σ H' s':=by
 obtain ⟨h',g',d',t',o'⟩:=s'
 have e:o'=s.os:=ho
 subst e
 exact I.call (g':=g') (t':=t') (d':=d') u hok hg hch
end
abbrev XK:=ac->Option aj->Hp->Prop
abbrev St:=List (Option V)
abbrev VK:=V->Hp->Prop
abbrev TE:=St->Hp->VK->Prop
abbrev TT:=St->Hp->(Bool->Hp->Prop)->Prop
abbrev TA:=St->Hp->(List V->Hp->Prop)->Prop
structure u7 where
 nx:St->Hp->Prop
 rt:VK
 bk:St->Hp->Prop:=fun _ _=>False
 ct:St->Hp->Prop:=fun _ _=>False
abbrev TS:=u7->St->Hp->Prop
inductive EP (X:Cx) (pins:List (aj×Obj)) (σ:St) (Q:VK) (u:ac) (s':ag):Prop
 | mk (v H':_) (h0:bP X pins σ H' s') (h1:du v u) (h2:Q v H'):EP X pins σ Q u s'
inductive TP (X:Cx) (pins:List (aj×Obj)) (σ:St) (Q:Bool->Hp->Prop) (b:Bool) (s':ag):Prop
 | mk (H':_) (h0:bP X pins σ H' s') (h1:Q b H'):TP X pins σ Q b s'
inductive AP (X:Cx) (pins:List (aj×Obj)) (σ:St) (Q:List V->Hp->Prop) (us:List ac) (s':ag):Prop
 | mk (vs H':_) (h0:bP X pins σ H' s') (h1:dJ vs us) (h2:Q vs H'):AP X pins σ Q us s'
inductive SN (X:Cx) (pins:List (aj×Obj)) (k:St->Hp->Prop) (s':ag):Prop
 | mk (σ':St) (H':Hp) (I:bP X pins σ' H' s') (q:k σ' H'):SN X pins k s'
inductive SV (X:Cx) (pins:List (aj×Obj)) (k:V->Hp->Prop) (u:ac) (s':ag):Prop
 | mk (v:V) (σ':St) (H':Hp) (I:bP X pins σ' H' s') (r:du v u) (q:k v H'):SV X pins k u s'
def SP (X:Cx) (pins:List (aj×Obj)) (D:u7) (f:Flow) (s':ag):Prop :=
 match f with
 | .next=>SN X pins D.nx s'
 | .brk=>SN X pins D.bk s'
 | .cont=>SN X pins D.ct s'
 | .ret u=>SV X pins D.rt u s'
def PE (X:Cx) (e:aX) (t:TE):Prop :=
 ∀ (pins:List (aj×Obj)) (s:ag) (σ:St) (H:Hp) (Q:VK),bP X pins σ H s->t σ H Q->au (aO X.prog X.w) X.A (dE e X.env) (EP X pins σ Q) X.xe s
def PT (X:Cx) (e:aX) (t:TT):Prop :=
 ∀ (pins:List (aj×Obj)) (s:ag) (σ:St) (H:Hp) (Q:Bool->Hp->Prop),bP X pins σ H s->t σ H Q->au (aO X.prog X.w) X.A (v8 e X.env (dE e X.env)) (TP X pins σ Q) X.xe s
def PW (X:Cx) (e:aX) (t:TT):Prop :=
 ∀ (whole:Sem ac) (pins:List (aj×Obj)) (s:ag) (σ:St) (H:Hp) (Q:Bool->Hp->Prop),bP X pins σ H s->t σ H Q->au (aO X.prog X.w) X.A (v8 e X.env whole) (TP X pins σ Q) X.xe s
theorem PW.pt {X:Cx}{e:aX}{t:TT} (h:PW X e t):PT X e t:=h _
def PA (X:Cx) (es:List aX) (t:TA):Prop :=
 ∀ (pos:Pos) (pins:List (aj×Obj)) (s:ag) (σ:St) (H:Hp) (Q:List V->Hp->Prop),bP X pins σ H s->t σ H Q->au (aO X.prog X.w) X.A (spliced (j4 pos (aI es X.env))) (AP X pins σ Q) X.xe s
def PS (X:Cx) (st:cA) (t:TS):Prop :=
 ∀ (pins:List (aj×Obj)) (s:ag) (σ:St) (H:Hp) (D:u7),bP X pins σ H s->t D σ H->au (aO X.prog X.w) X.A (exec st X.env) (SP X pins D) X.xe s
def Hu (X:Cx) (st:List cA) (t:TS):Prop :=
 ∀ (pins:List (aj×Obj)) (s:ag) (σ:St) (H:Hp) (D:u7),bP X pins σ H s->t D σ H->au (aO X.prog X.w) X.A (execs st X.env) (SP X pins D) X.xe s
theorem fk {α:Type}{t:Sem α}{Q Q':α->ag->Prop}{M:KJ}{A:bv}{E:ac->ag->Prop}{s:ag} (h:au M A t Q E s) (hQ:∀ a s,Q a s->Q' a s):au M A t Q' E s:=bQ h hQ fun _ _ x=>x
end L2
namespace L2
open PySem PySem.Spec PyProof.Rows
section
variable {X:Cx}
inductive QG (i:Nat) (σ:St) (H:Hp) (Q:VK):Prop
 | mk (v:_) (h0:σ[i]?=some (some v)) (h1:Q v H):QG i σ H Q
def TD (i:Nat):TE:=QG i
def tC (v:V):TE:=fun _ H Q=>Q v H
theorem sv {i:Nat}{x:Str}{pos:Pos} (hN:X.N[i]?=some x) (hv:O_ X.env.scope x) (hd:(x == ("__debug__" : Str))=false:=by decide) (hcd:(x == ("__classdict__" : Str))=false:=by decide):PE X (.Name x pos) (TD i):=by
 intro pins s σ H Q I h
 obtain ⟨v,e,h⟩:=h
 obtain ⟨m,hn,hl⟩:=I.loc
 obtain ⟨u,r,l⟩:=hl i x v hN e hv
 have fin:EP X pins σ Q u s:=⟨v,H,I,r,h⟩
 rcases l with ⟨hk,hm⟩ | ⟨hk,c,hc,hcell⟩
 ·exact wpAny_Name (wpAny_loadName_local I.ok.kind hk hn hm fin) hd
 ·rcases hk with hk | hk
  ·exact wpAny_Name (wpAny_loadName_cell I.ok.kind hk hc hcell fin) hd
  ·exact wpAny_Name (wpAny_loadName_free I.ok.kind hk hc hcell fin hcd) hd
theorem RT {i j pos}:PE X (.Constant (.int i) j pos) (tC (.int i)):=fun _ _ _ H _ I h=>wpAny_Constant_int ⟨.int i,H,I.tok _,⟨_,rfl⟩,h⟩
theorem TF {b j pos}:PE X (.Constant (.bool b) j pos) (tC (.bl b)):=fun _ _ _ H _ I h=>Constant_bool ⟨.bl b,H,I,rfl,h⟩
theorem RU {j pos}:PE X (.Constant .none j pos) (tC .non):=fun _ _ _ H _ I h=>Constant_none ⟨.non,H,I,rfl,h⟩
theorem RV {x j pos}:PE X (.Constant (.str x) j pos) (tC (.str x)):=fun _ _ _ H _ I h=>Calls.Constant_str ⟨.str x,H,I.tok _,⟨_,rfl⟩,h⟩
def Gl (X:Cx) (x:Str):Prop:=X.env.kindOf x=some .globalImplicit
theorem BD {E:ac->ag->Prop}{pins:List (aj×Obj)}{s:ag}{σ:St}{H:Hp}{x:Str}{u:ac}{pos:Pos}{Q:ac->ag->Prop} (I:bP X pins σ H s) (hg:Gl X x) (hm:X.mg x=some u) (h:Q u s)
  (hd:(x == ("__debug__" : Str))=false:=by decide):au (aO X.prog X.w) X.A (dE (.Name x pos) X.env) Q E s :=
 zN I.ok.kind hg (Calls.loadGlobal_global (by rw [I.ok.glob];exact I.mod.glob.keeps I.bk) hm h) hd
theorem oA {E:ac->ag->Prop}{pins:List (aj×Obj)}{s:ag}{σ:St}{H:Hp}{x:Str}{u:ac}{pos:Pos}{Q:ac->ag->Prop} (I:bP X pins σ H s) (hg:Gl X x) (hm:X.mg x=none) (hv:i9 x=some u) (h:Q u s)
  (hn:x≠"__name__":=by decide) (hd:(x == ("__debug__" : Str))=false:=by decide):au (aO X.prog X.w) X.A (dE (.Name x pos) X.env) Q E s:=by
 obtain ⟨mb,h1,h2⟩:=I.mod.blt
 exact zN I.ok.kind hg (Calls.loadGlobal_builtin (by rw [I.ok.glob];exact I.mod.glob.keeps I.bk) hm (by rw [I.ok.blt];exact h1.keeps I.bk) ((h2 x hn).trans hv) h) hd
theorem P0 {x:Str}{v:V}{u:ac}{pos:Pos} (hg:Gl X x) (hm:X.mg x=some u) (r:du v u) (hd:(x == ("__debug__" : Str))=false:=by decide):PE X (.Name x pos) (tC v) :=
 fun _ _ _ H _ I h=>BD I hg hm ⟨v,H,I,r,h⟩ hd
theorem P1 {x:Str}{v:V}{u:ac}{pos:Pos} (hg:Gl X x) (hm:X.mg x=none) (hv:i9 x=some u) (r:du v u) (hn:x≠"__name__":=by decide) (hd:(x == ("__debug__" : Str))=false:=by decide):PE X (.Name x pos) (tC v) :=
 fun _ _ _ H _ I h=>oA I hg hm hv ⟨v,H,I,r,h⟩ hn hd
variable {a b:aX}{ta tb:TE}{pos:Pos}
def PC (X:Cx) (op:xh) (a b:aX) (t:TE):Prop :=
 ∀ (pins:List (aj×Obj)) (s:ag) (σ:St) (H:Hp) (Q:VK),bP X pins σ H s->t σ H Q ->
  au (aO X.prog X.w) X.A (dE a X.env) (fun v s₁=>au (aO X.prog X.w) X.A (dE b X.env) (fun u s₂=>au (aO X.prog X.w) X.A (bI op v u) (EP X pins σ Q) X.xe s₂) X.xe s₁) X.xe s
theorem Ll (b:aX) {op:xh} (h:op≠.In) (h2:op≠.NotIn):gF op b=false:=by
 have e1:(op == CmpOp.In)=false:=by cases op<;>first | rfl | exact absurd rfl h
 have e2:(op == CmpOp.NotIn)=false:=by cases op<;>first | rfl | exact absurd rfl h2
 cases b<;>simp [gF,e1,e2]
def tB (t:TE):TT:=fun σ H Q=>t σ H fun x H1=>∃ c,x=.bl c/\Q c H1
theorem VV {op:xh}{t:TE} (h:PC X op a b t) (h1:gF op b=false:=by first | exact Ll _ (by decide) (by decide) | rfl):PT X (.Compare a [op] [b] pos) (tB t):=by
 intro pins s σ H Q I hw
 refine Oo (fk (h pins s σ H _ I hw) fun v s1 h1=>fk h1 fun u s2 h2=>fk h2 fun c s3 ⟨x,H1,I1,r1,q1⟩=>?_) h1
 obtain ⟨d,rfl,q⟩:=q1
 cases r1
 exact dL ⟨H1,I1,q⟩
theorem RW {e:aX}{t:TE} (h:PE X e t) (he:∀ whole,v8 e X.env whole=(do let v <- whole;wk e.pos;L4 [v] (truthy v)):=by intro _;rfl):PT X e (tB t):=by
 intro pins s σ H Q I hw
 refine isTrue_plain (fk (h pins s σ H _ I hw) fun v s1 ⟨x,H1,I1,r1,q1⟩=>?_) (he _)
 obtain ⟨d,rfl,q⟩:=q1
 cases r1
 exact dL ⟨H1,I1,q⟩
variable {tA tB':TT}{c7:List aX}
def VW (t u:TT):TT:=fun σ H Q=>t σ H fun c H1=>if c=true then u σ H1 Q else Q false H1
def Xt (t u:TT):TT:=fun σ H Q=>t σ H fun c H1=>if c=true then Q true H1 else u σ H1 Q
def VX (t:TT):TT:=fun σ H Q=>t σ H fun c H1=>Q (!c) H1
theorem P2 (ha:PT X a tA):PW X (.BoolOp .And [a] pos) tA:=by
 intro wh pins s σ H Q I h
 refine isTrue_and (fk (ha pins s σ H Q I h) fun c s1 e=>?_)
 cases c with
 | true=>exact isTrue_and_nil e
 | false=>exact e
theorem RX (ha:PT X a tA):PW X (.BoolOp .Or [a] pos) tA:=by
 intro wh pins s σ H Q I h
 refine isTrue_or (fk (ha pins s σ H Q I h) fun c s1 e=>?_)
 cases c with
 | false=>exact isTrue_or_nil e
 | true=>exact e
theorem RY (ha:PT X a tA) (hb:PW X (.BoolOp .And (b::c7) pos) tB'):PW X (.BoolOp .And (a::b::c7) pos) (VW tA tB'):=by
 intro wh pins s σ H Q I h
 refine isTrue_and (fk (ha pins s σ H _ I h) fun c s1 ⟨H1,I1,q1⟩=>?_)
 cases c with
 | true=>exact hb wh pins s1 σ H1 Q I1 q1
 | false=>exact ⟨H1,I1,q1⟩
theorem TH (ha:PT X a tA) (hb:PW X (.BoolOp .Or (b::c7) pos) tB'):PW X (.BoolOp .Or (a::b::c7) pos) (Xt tA tB'):=by
 intro wh pins s σ H Q I h
 refine isTrue_or (fk (ha pins s σ H _ I h) fun c s1 ⟨H1,I1,q1⟩=>?_)
 cases c with
 | true=>exact ⟨H1,I1,q1⟩
 | false=>exact hb wh pins s1 σ H1 Q I1 q1
theorem RZ (ha:PT X a tA):PT X (.UnaryOp .Not a pos) (VX tA):=by
 intro pins s σ H Q I h
 exact isTrue_not (fk (ha pins s σ H (fun c H1=>Q (!c) H1) I h) fun _ _ x=>by obtain ⟨a,b,c⟩:=x;exact ⟨a,b,c⟩)
def TJ (ta tb:TE):TE:=fun σ H Q=>ta σ H fun x H1=>∃ c,x=.bl c/\if c=true then tb σ H1 Q else Q (.bl false) H1
def TK (ta:TE):TE:=fun σ H Q=>ta σ H fun x H1=>∃ c,x=.bl c/\Q (.bl (!c)) H1
theorem R_ {op}{t:TE} (h:PE X a t):PE X (.BoolOp op [a] pos) t:=fun pins s σ H Q I hw=>BoolOp_one (h pins s σ H Q I hw)
theorem S0 (ha:PE X a ta) (hb:PE X (.BoolOp .And (b::c7) pos) tb):PE X (.BoolOp .And (a::b::c7) pos) (TJ ta tb):=by
 intro pins s σ H Q I h
 refine BoolOp_and (fk (ha pins s σ H _ I h) fun v s1 ⟨x,H1,I1,r1,q1⟩=>?_)
 obtain ⟨c,rfl,q1⟩:=q1
 cases r1
 refine dL ?_
 cases c with
 | true=>exact hb pins s1 σ H1 Q I1 q1
 | false=>exact ⟨.bl false,H1,I1,rfl,q1⟩
theorem S1 (ha:PE X a ta):PE X (.UnaryOp .Not a pos) (TK ta):=by
 intro pins s σ H Q I h
 refine UnaryOp_ (fk (ha pins s σ H _ I h) fun v s1 ⟨x,H1,I1,r1,q1⟩=>?_)
 obtain ⟨c,rfl,q1⟩:=q1
 cases r1
 exact not_of (dL ⟨.bl (!c),H1,I1,rfl,q1⟩)
def Xu (t:TT) (ta tb:TE):TE:=fun σ H Q=>t σ H fun c H1=>if c=true then ta σ H1 Q else tb σ H1 Q
theorem Lm {c:aX} (hc:PT X c tA) (ha:PE X a ta) (hb:PE X b tb):PE X (.IfExp c a b pos) (Xu tA ta tb):=by
 intro pins s σ H Q I h
 refine wpAny_IfExp (fk (hc pins s σ H _ I h) fun d s1 ⟨H1,I1,q1⟩=>?_)
 cases d with
 | true=>exact ha pins s1 σ H1 Q I1 q1
 | false=>exact hb pins s1 σ H1 Q I1 q1
end
end L2
namespace L2
open PySem PySem.Spec PyProof.Rows
inductive WX (K:a8) (a:aj) (xs:List V):Prop
 | mk (o:Obj) (its:Array ac) (n:Nat) (h0:K.lookup a=some o) (h1:o.cls=.type "list") (h2:o.dict=none) (h3:o.data=.seq its n) (h4:its.size<=sizeLine) (h5:dJ xs its.toList):WX K a xs
def lW (K:a8) (H:Hp) (a:aj) (xs:List V):Prop :=
 Rd H a (.lst xs)\/WX K a xs
inductive WY (K:a8) (a:aj) (xs:List V):Prop
 | mk (o:Obj) (its:Array ac) (n:Nat) (h0:K.lookup a=some o) (h1:o.cls=.type "tuple") (h3:o.data=.seq its n) (h4:its.size<=sizeLine) (h5:dJ xs its.toList):WY K a xs
def kK (K:a8) (H:Hp) (a:aj) (xs:List V):Prop :=
 Rd H a (.tup xs)\/WY K a xs
def VY:ac->Option V
 | .none=>some .non
 | .bool b=>some (.bl b)
 | .int i _=>some (.int i)
 | .str x _=>some (.str x)
 | .bytes b _=>some (.byt b)
 | .float b _=>some (.flt b)
 | .ref a=>some (.ref a)
 | .type n=>some (.ty n)
 | _=>none
theorem du.abs {x:V}{u:ac} (r:du x u):VY u=some x:=by
 cases x with
 | non=>cases r;rfl
 | bl _=>cases r;rfl
 | int _=>obtain ⟨t,rfl⟩:=r;rfl
 | str _=>obtain ⟨t,rfl⟩:=r;rfl
 | byt _=>obtain ⟨t,rfl⟩:=r;rfl
 | flt _=>obtain ⟨t,rfl⟩:=r;rfl
 | ref _=>cases r;rfl
 | ty _=>cases r;rfl
theorem du.inj {x y:V}{u:ac} (r:du x u) (q:du y u):x=y:=bG (r.abs.symm.trans q.abs)
theorem dJ.inj {xs:List V}{us:List ac} (h:dJ xs us):∀ {ys:List V},dJ ys us->xs=ys:=by
 induction h with
 | nil=>intro ys k;cases k;rfl
 | cons r t ih=>intro ys k;cases k with | cons r' t'=>rw [r.inj r',ih t']
section
variable {X:Cx}{pins:List (aj×Obj)}{σ:St}{H:Hp}{s:ag}{a:aj}{xs ys:List V}
theorem lW.of {K:a8} (h:H a=some (.lst xs)):lW K H a xs:=.inl (.inl h)
theorem kK.of {K:a8} (h:H a=some (.tup xs)):kK K H a xs:=.inl (.inl h)
inductive W_ (h:bB) (a:aj) (xs:List V):Prop
 | mk (its:List ac) (r:dJ xs its) (p:PlainL h a its.toArray) (z:xs.length<=sizeLine):W_ h a xs
inductive X0 (h:bB) (a:aj) (xs:List V):Prop
 | mk (its:List ac) (r:dJ xs its) (p:KH h a its.toArray) (z:xs.length<=sizeLine):X0 h a xs
inductive X1 (h:bB) (l:aj) (xs:List V):Prop
 | mk (z:xs.length<=sizeLine) (its:List ac) (n:Nat) (r:dJ xs its) (hl:xs.length=its.length) (e:h.get? l=some { cls:=.type "list",data:=.seq its.toArray n }):X1 h l xs
theorem bP.list (I:bP X pins σ H s) (h:lW X.K H a xs):W_ s.heap a xs:=by
 rcases h with h | ⟨o,its,n,hk,hc,hd,hs,hz,r⟩
 ·obtain ⟨z,its,n,r,e⟩:=h.ok I.hok
  exact ⟨its,r,⟨_,n,e,rfl,rfl,rfl⟩,z⟩
 ·refine ⟨its.toList,r,⟨o,n,I.kIn a o hk,hc,hd,by simpa using hs⟩,?_⟩
  have e:=r.length
  simp only [av] at e
  omega
theorem bP.tuple (I:bP X pins σ H s) (h:kK X.K H a xs):X0 s.heap a xs:=by
 rcases h with h | ⟨o,its,n,hk,hc,hs,hz,r⟩
 ·obtain ⟨z,its,r,p⟩:=h.ok I.hok
  exact ⟨its,r,p,z⟩
 ·refine ⟨its.toList,r,⟨o,I.kIn a o hk,hc,n,by simpa using hs⟩,?_⟩
  have e:=r.length
  simp only [av] at e
  omega
theorem bP.list_inj (I:bP X pins σ H s) (h:lW X.K H a xs) (h':lW X.K H a ys):xs=ys:=by
 obtain ⟨its,r,⟨o,n,e,_,_,d⟩,_⟩:=I.list h
 obtain ⟨its',r',⟨o',n',e',_,_,d'⟩,_⟩:=I.list h'
 rw [e] at e';cases e'
 rw [d] at d'
 injection d' with d1 _
 have:its=its':=by simpa using congrArg Array.toList d1
 subst this
 exact r.inj r'
theorem bP.tuple_inj (I:bP X pins σ H s) (h:kK X.K H a xs) (h':kK X.K H a ys):xs=ys:=by
 obtain ⟨its,r,⟨o,e,_,n,d⟩,_⟩:=I.tuple h
 obtain ⟨its',r',⟨o',e',_,n',d'⟩,_⟩:=I.tuple h'
 rw [e] at e';cases e'
 rw [d] at d'
 injection d' with d1 _
 have:its=its':=by simpa using congrArg Array.toList d1
 subst this
 exact r.inj r'
end
abbrev Cx.wish (X:Cx) (E:ac->ag->Prop):Cx:={ X with xe:=E }
abbrev Cx.nox (X:Cx):Cx:=X.wish fun _ _=>False
theorem Cx.Ok.wish {X:Cx} (ok:X.Ok) (E:ac->ag->Prop):(X.wish E).Ok :=
 ⟨ok.mod,ok.kind,ok.glob,ok.blt,ok.above,ok.inj,ok.has,ok.cab,ok.hd,ok.frames,ok.stk,ok.exf,ok.bs,ok.bsz,ok.noex,ok.exfs,ok.funs,ok.frf⟩
theorem Cx.Ok.unwish {X:Cx}{E:ac->ag->Prop} (ok:(X.wish E).Ok):X.Ok :=
 ⟨ok.mod,ok.kind,ok.glob,ok.blt,ok.above,ok.inj,ok.has,ok.cab,ok.hd,ok.frames,ok.stk,ok.exf,ok.bs,ok.bsz,ok.noex,ok.exfs,ok.funs,ok.frf⟩
section
variable {X:Cx}{pins:List (aj×Obj)}{σ:St}{H:Hp}{s:ag}{E:ac->ag->Prop}
theorem bP.wish (I:bP X pins σ H s) (E:ac->ag->Prop):bP (X.wish E) pins σ H s:=⟨I.ok.wish E,I.os,I.bare,I.base,I.loc,I.cell,I.free,I.freeC,I.pin,I.hok,I.len⟩
theorem bP.unwish (I:bP (X.wish E) pins σ H s):bP X pins σ H s:=⟨I.ok.unwish,I.os,I.bare,I.base,I.loc,I.cell,I.free,I.freeC,I.pin,I.hok,I.len⟩
theorem SP.unwish {D:u7}{f:Flow}{s':ag} (h:SP (X.wish E) pins D f s'):SP X pins D f s':=by
 cases f with
 | next=>obtain ⟨σ',H',I,q⟩:=h;exact ⟨σ',H',I.unwish,q⟩
 | brk=>obtain ⟨σ',H',I,q⟩:=h;exact ⟨σ',H',I.unwish,q⟩
 | cont=>obtain ⟨σ',H',I,q⟩:=h;exact ⟨σ',H',I.unwish,q⟩
 | ret u=>obtain ⟨v,σ',H',I,r,q⟩:=h;exact ⟨v,σ',H',I.unwish,r,q⟩
end
section
variable {X:Cx}{st:cA}{c7:List cA}{t u:TS}{e:aX}{te:TE}{pos:Pos}
def TL:TS:=fun D σ H=>D.nx σ H
def VZ (t u:TS):TS:=fun D σ H=>t { D with nx:=u D } σ H
theorem P3:Hu X [] TL:=fun _ _ σ H _ I h=>tO ⟨σ,H,I,h⟩
theorem qd (h1:PS X st t) (h2:Hu X c7 u):Hu X (st::c7) (VZ t u):=by
 intro pins s σ H D I h
 refine wpAny_execs_cons (fk (h1 pins s σ H { D with nx:=u D } I h) fun f s1 q=>?_)
 cases f with
 | next =>
  obtain ⟨σ',H',I',q⟩:=q
  exact h2 pins s1 σ' H' D I' q
 | ret v=>exact q
 | brk=>exact q
 | cont=>exact q
theorem P4 (h1:PS X st t):Hu X [st] t:=by
 intro pins s σ H D I h
 refine wpAny_execs_cons (fk (h1 pins s σ H D I h) fun f s1 q=>?_)
 cases f with
 | next=>exact tO q
 | ret v=>exact q
 | brk=>exact q
 | cont=>exact q
theorem bP.quiet {pins:List (aj×Obj)}{σ:St}{H:Hp}{s:ag} (I:bP X pins σ H s):interactive X.env=false:=by simp [interactive,I.ok.kind]
def TM (te:TE):TS:=fun D σ H=>te σ H fun _ H1=>D.nx σ H1
theorem BE (he:PE X e te) (hs:gW e none pos.line X.env=pure false:=by rfl):PS X (.Expr e pos) (TM te):=by
 intro pins s σ H D I h
 exact wpAny_Expr_any (fk (he pins s σ H _ I h) fun v s1 h_7=>by obtain ⟨x,H1,I1,r1,q1⟩:=h_7;exact ⟨σ,H1,I1,q1⟩) I.quiet hs
def V_ (te:TE):TS:=fun D σ H=>te σ H D.rt
theorem S2 (he:PE X e te):PS X (.Return (some e) pos) (V_ te):=by
 intro pins s σ H D I h
 exact wpAny_Return_some (fk (he pins s σ H _ I h) fun v s1 h_8=>by obtain ⟨x,H1,I1,r1,q1⟩:=h_8;exact ⟨x,σ,H1,I1,r1,q1⟩)
def W0 (c:TT) (t u:TS):TS:=fun D σ H=>c σ H fun b H1=>if b=true then t D σ H1 else u D σ H1
theorem TQ {c:aX}{a b:List cA}{tc:TT} (hc:PT X c tc) (ha:Hu X a t) (hb:Hu X b u):PS X (.If c a b pos) (W0 tc t u):=by
 intro pins s σ H D I h
 refine wpAny_If (fk (hc pins s σ H _ I h) fun d s1 ⟨H1,I1,q1⟩=>?_)
 cases d with
 | true=>exact ha pins s1 σ H1 D I1 q1
 | false=>exact hb pins s1 σ H1 D I1 q1
def S3:TS:=fun _ _ _=>False
theorem qN {sts:List cA}:Hu X sts S3:=fun _ _ _ _ _ _ h=>h.elim
end
abbrev TG:=V->St->Hp->(St->Hp->Prop)->Prop
abbrev Ln:=List V->St->Hp->(St->Hp->Prop)->Prop
def PG (X:Cx) (target:aX) (t:TG):Prop :=
 ∀ (pins:List (aj×Obj)) (s:ag) (σ:St) (H:Hp) (v:V) (u:ac) (Q:St->Hp->Prop),bP X pins σ H s->du v u->t v σ H Q ->
  au (aO X.prog X.w) X.A (p_ target X.env u) (fun _ s'=>SN X pins Q s') X.xe s
def QH (X:Cx) (ts:List aX) (t:Ln):Prop :=
 ∀ (pins:List (aj×Obj)) (s:ag) (σ:St) (H:Hp) (vs:List V) (us:List ac) (Q:St->Hp->Prop),bP X pins σ H s->dJ vs us->t vs σ H Q ->
  au (aO X.prog X.w) X.A (I_ ((ia ts X.env).map (·.2)) us) (fun _ s'=>SN X pins Q s') X.xe s
section
variable {X:Cx}{pos:Pos}
def ww (i:Nat):TG:=fun v σ H Q=>Q (σ.set i (some v)) H
theorem cR {i:Nat}{x:Str} (hN:X.N.Nodup) (hi:X.N[i]?=some x) (hx:QF X.env.scope x) (hf:X.fn x=true\/X.env.scope.names.lookup x=some .local:=by first | exact .inl rfl | exact .inr rfl | assumption):PG X (.Name x pos) (ww i):=by
 intro pins s σ H v u Q I r h
 exact wpAny_assign_Name (u6 I hN hi hx r (fun s' I'=>⟨_,H,I',h⟩) hf)
def ay:Ln:=fun vs σ H Q=>vs=[]/\Q σ H
inductive Lo (t:TG) (u:Ln) (vs:List V) (σ:St) (H:Hp) (Q:St->Hp->Prop):Prop
 | mk (v r:_) (h0:vs=v::r) (h1:t v σ H fun σ' H'=>u r σ' H' Q):Lo t u vs σ H Q
def a9 (t:TG) (u:Ln):Ln:=Lo t u
theorem BF:QH X [] ay:=by
 intro pins s σ H vs us Q I r h
 obtain ⟨e,h⟩:=h
 subst e
 cases r
 exact assignInOrder_nil ⟨σ,H,I,h⟩
theorem qe {e:aX}{es:List aX}{t:TG}{u:Ln} (h1:PG X e t) (h2:QH X es u)
  (hs:(ia (e::es) X.env).map (·.2)=p_ e X.env::(ia es X.env).map (·.2):=by rfl):QH X (e::es) (a9 t u):=by
 intro pins s σ H vs us Q I r h
 obtain ⟨v,vr,e1,h⟩:=h
 subst e1
 cases r with
 | cons r rr =>
  rw [hs]
  refine xC (fk (h1 pins s σ H _ _ _ I r h) fun _ s1 ⟨σ1,H1,I1,q1⟩=>?_)
  exact h2 pins s1 σ1 H1 _ _ Q I1 rr q1
inductive QI (K:a8) (n:Nat) (t:Ln) (v:V) (σ:St) (H:Hp) (Q:St->Hp->Prop):Prop
 | mk (a xs:_) (h0:v=.ref a) (h1:kK K H a xs) (h2:xs.length=n) (h3:t xs σ H Q):QI K n t v σ H Q
def S4 (K:a8) (n:Nat) (t:Ln):TG:=QI K n t
theorem G0 {es:List aX}{k:Nat}{t:Ln}{n:Nat} (hc:X.calm=true) (h:QH X es t)
  (hn:(ia es X.env).length=n:=by rfl) (hst:(ia es X.env).findIdx? (·.1)=none:=by rfl):PG X (.Tuple es k pos) (S4 X.K n t):=by
 intro pins s σ H v u Q I r hw
 obtain ⟨a,xs,e1,hq,hl,hw⟩:=hw
 subst e1
 cases r
 obtain ⟨its,rv,ht,hz⟩:=I.tuple hq
 refine assign_Tuple_tuple (I.ok.hd hc) ht (by simp [hn,<- hl,rv.length]) hst fun h' hx=>?_
 have I1:bP X pins σ H { s with heap:=h' }:=I.kept (t':=s.toks) fun b o e=>hx b o (aF (aq e)) e
 exact h pins _ σ H xs _ Q I1 (by simpa using rv) hw
def TU (te:TE) (g:TG):TS:=fun D σ H=>te σ H fun x H1=>g x σ H1 D.nx
theorem Lp {tg e:aX}{te:TE}{g:TG} (he:PE X e te) (hg:PG X tg g) (hs:xi [tg] e pos.line X.env=pure false:=by rfl) (hw:xj [tg] e X.env=pure none:=by rfl)
  (h1:(ia [tg] X.env).map (·.2)=[p_ tg X.env]:=by rfl):PS X (.Assign [tg] e pos) (TU te g):=by
 intro pins s σ H D I h
 refine wpAny_Assign_stores (fk (he pins s σ H _ I h) fun v s1 ⟨x,H1,I1,r1,q1⟩=>?_) hs hw
 rw [h1]
 exact fk (hg pins s1 σ H1 x v _ I1 r1 q1) fun _ s2 q=>q
theorem G1 {i:Nat}{x:Str}{e:aX}{te:TE}{pos':Pos} (hN:X.N.Nodup) (hi:X.N[i]?=some x) (hx:QF X.env.scope x) (he:PE X e te) (hs:gW e (some (.Name x pos')) pos.line X.env=pure false:=by rfl) (hf:X.fn x=true\/X.env.scope.names.lookup x=some .local:=by first | exact .inl rfl | exact .inr rfl | assumption) :
  PS X (.Assign [.Name x pos'] e pos) (TU te (ww i)):=by
 intro pins s σ H D I h
 refine wpAny_Assign_Name (fk (he pins s σ H _ I h) fun v s1 ⟨y,H1,I1,r1,q1⟩=>?_) hs
 exact u6 I1 hN hi hx r1 (fun s2 I2=>⟨_,H1,I2,q1⟩) hf
def W2 (i j:Nat) (ta:TA):TS:=fun D σ H=>ta σ H fun vs H1=>∃ v w,vs=[v,w]/\D.nx ((σ.set i (some v)).set j (some w)) H1
theorem S5 {i j:Nat}{x y:Str}{a b:aX}{ta:TA}{px py pt:Pos}{kt k2 pt2} (hc:X.calm=true) (hN:X.N.Nodup) (hi:X.N[i]?=some x) (hj:X.N[j]?=some y) (hij:i≠j)
  (hx:X.env.scope.names.lookup x=some .local) (hy:X.env.scope.names.lookup y=some .local) (ha:PA X [a,b] ta)
  (hw:xj [.Tuple [.Name x px,.Name y py] kt pt] (.Tuple [a,b] k2 pt2) X.env=pure (some [x,y]))
  (hs:xi [.Tuple [.Name x px,.Name y py] kt pt] (.Tuple [a,b] k2 pt2) pos.line X.env=pure false:=by rfl) :
  PS X (.Assign [.Tuple [.Name x px,.Name y py] kt pt] (.Tuple [a,b] k2 pt2) pos) (W2 i j ta):=by
 intro pins s σ H D I h
 rw [exec_Assign_arm]
 refine a7 (iC ?_)
 rw [hs]
 refine a7 (ae ?_)
 rw [if_neg (by decide)]
 refine a7 (Tuple_ (fk (ha _ pins s σ H _ I h) fun us s1 ⟨vs,H1,I1,r1,q1⟩=>?_))
 obtain ⟨v,w,e1,q1⟩:=q1
 subst e1
 obtain ⟨u1,u2,rfl,rv,rw'⟩:∃ u1 u2,us=[u1,u2]/\du v u1/\du w u2:=by
  cases r1 with
  | cons p q =>
   cases q with
   | cons p' q' =>
    cases q'
    exact ⟨_,_,rfl,p,p'⟩
 refine bS ?_ (by show 2<=sizeLine;decide)
 have I2:bP X pins σ H1 { s1 with heap:=s1.heap.push { cls:=.type "tuple",data:=.seq [u1,u2].toArray } }:=I1.kept (t':=s1.toks) fun b o e=>af _ e
 rw [hw]
 refine a7 (ae ?_)
 show au (aO X.prog X.w) X.A (do rule "assign.swapped-stores";let items <- unpackItems (.ref s1.heap.objs.size) 2 none;I_ [fun v=>OD X.env y v,fun v=>OD X.env x v] items.reverse;pure Flow.next) _ _ _
 refine a7 (gG (a7 (unpackItems_tuple (items:=#[u1,u2]) (I.ok.hd hc) (wM s1.heap _) fun h' hx'=>?_)))
 have I3:=I2.kept (h':=h') (t':=s1.toks) fun b o e=>hx' b o (aF (aq e)) e
 show au _ _ (I_ [fun v=>OD X.env y v,fun v=>OD X.env x v] [u2,u1] >>= fun _=>pure Flow.next) _ _ _
 refine a7 (xC (wpAny_bindName (u6 I3 hN hj (.inl hy) rw' (fun s2 I4=>?_) (.inr hy))))
 refine xC (wpAny_bindName (u6 I4 hN hi (.inl hx) rv (fun s3 I5=>assignInOrder_nil (ae ?_)) (.inr hx)))
 rw [List.set_comm _ _ (db hij)] at I5
 exact ⟨_,H1,I5,q1⟩
end
section
variable {X:Cx}{pos:Pos}
def S6 (c:TT) (tb:TS):TS:=fun D σ H=>∃ W:Nat->St->Hp->Prop,(∃ m,W m σ H)/\∀ m σ H,W m σ H ->
 c σ H fun b H1=>if b=true then ∃ N:St->Hp->Prop,(∀ σ' H',N σ' H'->∃ m',m'<m/\W m' σ' H')/\tb { D with nx:=N,ct:=N,bk:=D.nx } σ H1 else D.nx σ H1
theorem Lq {c:aX}{body:List cA}{tc:TT}{tb:TS} (hp:PassesOwn (aO X.prog X.w) X.A X.env X.xe) (hc:PT X c tc) (hb:Hu X body tb):PS X (.While c body [] pos) (S6 tc tb):=by
 intro pins s σ H D I h
 obtain ⟨W,⟨m0,w0⟩,turn⟩:=h
 refine wpAny_While (codeAny_whileLoop (fun n s'=>∃ σ' H',bP X pins σ' H' s'/\W n σ' H') ?_ m0 ⟨σ,H,I,w0⟩)
 rintro n s1 ⟨σ1,H1,I1,w1⟩
 refine im hp (fk (hc pins s1 σ1 H1 _ I1 (turn n σ1 H1 w1)) fun b s2 ⟨H2,I2,q2⟩=>?_)
 cases b with
 | true =>
  obtain ⟨N,hN,q2⟩:=q2
  rw [if_pos rfl]
  refine im hp (fk (hb pins s2 σ1 H2 _ I2 q2) fun f s3 q3=>?_)
  cases f with
  | next =>
   obtain ⟨σ3,H3,I3,n3⟩:=q3
   obtain ⟨m',hm,w3⟩:=hN σ3 H3 n3
   exact ⟨m',hm,σ3,H3,I3,w3⟩
  | cont =>
   obtain ⟨σ3,H3,I3,n3⟩:=q3
   obtain ⟨m',hm,w3⟩:=hN σ3 H3 n3
   exact ⟨m',hm,σ3,H3,I3,w3⟩
  | brk=>exact q3
  | ret v=>exact q3
 | false =>
  rw [if_neg bi]
  exact tO ⟨σ1,H2,I2,q2⟩
end
structure It where
 go:Nat->Hp->Prop
 yld:Nat->Hp->V->Hp->Prop
 stop:Nat->Hp->Prop
structure qf (X:Cx) (pins:List (aj×Obj)) (H:Hp) (b:aj):Prop where
 f0:H b=none
 f1:b≠X.env.locals
 f2:b∉X.fs
 f3:b∈X.ex\/X.s₀.heap.objs.size<=b
 f4:∀ x c,X.env.cells.lookup x=some c->c≠b
 f5:∀ p∈X.pn++pins,p.1≠b
theorem bP.fpOk {X:Cx}{pins:List (aj×Obj)}{σ:St}{H H':Hp}{s:ag}{b:aj} (I:bP X pins σ H s) (hb:s.heap.objs.size<=b) (hn:H' b=none):qf X pins H' b:=by
 refine ⟨hn,eJ (aJ I.lt hb),I.nofs hb,.inr (bZ I.sz hb),fun x c e z=>?_,fun p hp z=>?_⟩
 ·obtain ⟨v,q⟩:=I.cell x c e
  exact absurd (aJ q.lt (by rw [z];exact hb)) (b_ _)
 ·exact absurd (aJ (aq (I.pin p hp).1) (by rw [z];exact hb)) (b_ _)
structure vk (P:aM) (w:ba) (K:a8) (tg:aX) (J:It) (fp:List aj) (it:aj) (tn:Nat->bB->Prop):Prop where
 mem:it∈fp
 obj:∀ i h,tn i h->∀ b∈fp,∃ o,h.get? b=some o/\∀ v,o.data≠.cell v
 keep:∀ i h h',tn i h->(∀ b∈fp,∀ o,h.get? b=some o->h'.get? b=some o)->tn i h'
 item:∀ (X:Cx),X.prog=P->X.w=w->X.K=K->X.calm=true->∀ (i:Nat) (pins:List (aj×Obj)) (s:ag) (σ:St) (H:Hp) (E:ac->ag->Prop),bP X pins σ H s->(∀ b∈fp,qf X pins H b)->tn i s.heap->J.go i H ->
  au (aO P w) X.A (jr (.ref it)) (fun r s1=>∃ u,r=some u /\
   au (aO P w) X.A (gn tg (.ref it) u) (fun _ s2=>∃ x H',bP X pins σ H' s2/\du x u/\J.yld i H x H'/\tn (i + 1) s2.heap/\∀ b∈fp,H' b=none) E s1) E s
 done:∀ (X:Cx),X.prog=P->X.w=w->X.K=K->X.calm=true->∀ (i:Nat) (pins:List (aj×Obj)) (s:ag) (σ:St) (H:Hp) (E:ac->ag->Prop),bP X pins σ H s->(∀ b∈fp,qf X pins H b)->tn i s.heap->J.stop i H ->
  au (aO P w) X.A (jr (.ref it)) (fun r s1=>r=none/\bP X pins σ H s1) E s
 self:∀ (A:bv) (i:Nat) (s:ag) (Q:ac->ag->Prop) (E:ac->ag->Prop),tn i s.heap->Q (.ref it) s->au (aO P w) A (v9 (.ref it)) Q E s
abbrev TI:=St->Hp->(It->Hp->Prop)->Prop
inductive Vz (X:Cx) (pins:List (aj×Obj)) (σ:St) (tg:aX) (R:It->Hp->Prop) (itv:ac) (s2:ag):Prop
 | mk (it:aj) (fp:List aj) (tn:Nat->bB->Prop) (J:It) (H':Hp) (h0:itv=.ref it) (I:bP X pins σ H' s2) (T:vk X.prog X.w X.K tg J fp it tn) (t0:tn 0 s2.heap) (f:∀ b∈fp,qf X pins H' b) (q:R J H'):Vz X pins σ tg R itv s2
inductive W3 (X:Cx) (pins:List (aj×Obj)) (tn:Nat->bB->Prop) (fp:List aj) (W:Nat->Nat->St->Hp->Prop) (n:Nat) (s':ag):Prop
 | mk (i:Nat) (σ':St) (H':Hp) (I:bP X pins σ' H' s') (t:tn i s'.heap) (f:∀ b∈fp,H' b=none) (q:W i n σ' H'):W3 X pins tn fp W n s'
def PI (X:Cx) (tg iter:aX) (wi:TI):Prop :=
 ∀ (pins:List (aj×Obj)) (s:ag) (σ:St) (H:Hp) (R:It->Hp->Prop),bP X pins σ H s->wi σ H R ->
  au (aO X.prog X.w) X.A (dE iter X.env) (fun v s1=>au (aO X.prog X.w) X.A (v9 v) (Vz X pins σ tg R) X.xe s1) X.xe s
theorem AF {M : KJ} {A : bv} {E : ac -> ag -> Prop} {s : ag} {tg : aX} {it : aj} {u : ac} {o : Obj} {n : String} {vs : Array ac} {Q : Unit -> ag -> Prop} (ho : s.heap.get? it = some o) (hc : o.cls = .type n) (hd : o.data = .fields vs)
    (hn : ["enumerate", "zip", "dict_itemiterator", "dict_reverseitemiterator", "odict_iterator", "itertools.zip_longest", "itertools.pairwise"].contains n = false) (hQ : Q () s) : au M A (gn tg (.ref it) u) Q E s := by
  unfold gn
  cases tg <;> first
    | exact ae hQ
    | (cases u <;> first
        | exact ae hQ
        | (refine a7 (wpAny_load ho ?_)
           rw [hc, hd]
           show au M A (if (["enumerate", "zip", "dict_itemiterator", "dict_reverseitemiterator", "odict_iterator", "itertools.zip_longest", "itertools.pairwise"].contains n && vs[0]? == some (cc _)) = true then _ else _) Q E s
           rw [if_neg (by intro h; rw [hn, Az] at h; cases h)]
           exact ae hQ))
def W4 (K:a8) (a:aj):It :=
 ⟨fun i H=>∃ xs x,lW K H a xs/\xs[i]?=some x,fun i H x H'=>H'=H/\∀ xs,lW K H a xs->xs[i]?=some x,fun i H=>∃ xs,lW K H a xs/\xs.length<=i⟩
def W5 (K:a8) (a:aj):It :=
 ⟨fun i H=>∃ xs x,kK K H a xs/\xs[i]?=some x,fun i H x H'=>H'=H/\∀ xs,kK K H a xs->xs[i]?=some x,fun i H=>∃ xs,kK K H a xs/\xs.length<=i⟩
def VA (lo:Int) (n:Nat):It:=⟨fun i _=>i<n,fun i H x H'=>H'=H/\x=.int (lo + i),fun i _=>n<=i⟩
theorem Jj {P:aM}{w:ba}{K:a8}{tg:aX} (a it:aj):vk P w K tg (W4 K a) [it] it (fun i h=>h.IsListIter it a i) where
 mem:=by simp
 obj:=fun i h st b hb=>by
  have e:b=it:=by simpa using hb
  subst e
  obtain ⟨o,e,c,d⟩:=st
  exact ⟨o,e,fun v z=>by rw [d] at z;cases z⟩
 keep:=fun i h h' st k=>st.at fun o e=>k it (by simp) o e
 item:=by
  intro X hP hw hK hc i pins s σ H E I hf st hg
  subst hP hw hK
  obtain ⟨xs,x,hq,hx⟩:=hg
  obtain ⟨its,rv,p,hz⟩:=I.list hq
  obtain ⟨u,hu,ru⟩:=rv.get hx
  obtain ⟨f0,f1,f2,f3,f4,f5⟩:=hf it (by simp)
  refine wpAny_pyNext_list_item st p.isList (x:=u) (by simpa using hu) fun h' st' sb=>?_
  have I1:bP X pins σ H { s with heap:=h' }:=I.turned (t':=s.toks) (fun b o hb e=>(sb.2 b hb).trans e) f0 f1 f3 f4 f5
  obtain ⟨o,e,c,d⟩:=id st'
  exact ⟨u,rfl,AF (s:={ s with heap:=h' }) e c d (by decide) ⟨x,H,I1,ru,⟨rfl,fun ys hy=>by rw [I.list_inj hy hq];exact hx⟩,st',fun b hb=>(hf b hb).1⟩⟩
 done:=by
  intro X hP hw hK hc i pins s σ H E I hf st hg
  subst hP hw hK
  obtain ⟨xs,hq,hx⟩:=hg
  obtain ⟨its,rv,p,hz⟩:=I.list hq
  obtain ⟨f0,f1,f2,f3,f4,f5⟩:=hf it (by simp)
  have hl:=rv.length
  exact wpAny_pyNext_list_end (I.ok.hd hc) st p.isList (by simp;omega) fun h' eb=>⟨rfl,I.turned (t':=s.toks) (fun b o hb e=>eb b o hb e) f0 f1 f3 f4 f5⟩
 self:=fun _ _ _ _ _ st h=>wpAny_pyIter_listiter st h
theorem G3 {P:aM}{w:ba}{K:a8}{tg:aX} (a it:aj):vk P w K tg (W5 K a) [it] it (fun i h=>h.IsTupleIter it a i) where
 mem:=by simp
 obj:=fun i h st b hb=>by
  have e:b=it:=by simpa using hb
  subst e
  obtain ⟨o,e,c,d⟩:=st
  exact ⟨o,e,fun v z=>by rw [d] at z;cases z⟩
 keep:=fun i h h' st k=>st.at fun o e=>k it (by simp) o e
 item:=by
  intro X hP hw hK hc i pins s σ H E I hf st hg
  subst hP hw hK
  obtain ⟨xs,x,hq,hx⟩:=hg
  obtain ⟨its,rv,p,hz⟩:=I.tuple hq
  obtain ⟨u,hu,ru⟩:=rv.get hx
  obtain ⟨f0,f1,f2,f3,f4,f5⟩:=hf it (by simp)
  refine wpAny_pyNext_tuple_item st (show s.heap.IsTuple a its.toArray from p) (x:=u) (by simpa using hu) fun h' st' sb=>?_
  have I1:bP X pins σ H { s with heap:=h' }:=I.turned (t':=s.toks) (fun b o hb e=>(sb.2 b hb).trans e) f0 f1 f3 f4 f5
  obtain ⟨o,e,c,d⟩:=id st'
  exact ⟨u,rfl,AF (s:={ s with heap:=h' }) e c d (by decide) ⟨x,H,I1,ru,⟨rfl,fun ys hy=>by rw [I.tuple_inj hy hq];exact hx⟩,st',fun b hb=>(hf b hb).1⟩⟩
 done:=by
  intro X hP hw hK hc i pins s σ H E I hf st hg
  subst hP hw hK
  obtain ⟨xs,hq,hx⟩:=hg
  obtain ⟨its,rv,p,hz⟩:=I.tuple hq
  obtain ⟨f0,f1,f2,f3,f4,f5⟩:=hf it (by simp)
  have hl:=rv.length
  exact wpAny_pyNext_tuple_end (I.ok.hd hc) st (show s.heap.IsTuple a its.toArray from p) (by simp;omega) fun h' eb=>⟨rfl,I.turned (t':=s.toks) (fun b o hb e=>eb b o hb e) f0 f1 f3 f4 f5⟩
 self:=fun _ _ _ _ _ st h=>wpAny_pyIter_tupleiter st h
theorem G4 {P:aM}{w:ba}{K:a8}{tg:aX} (it:aj) (lo:Int) (n:Nat):vk P w K tg (VA lo n) [it] it (fun i h=>D6 h it (lo + (i:Nat) * 1) ((n:Int) - (i:Nat)) 1) where
 mem:=by simp
 obj:=fun i h st b hb=>by
  have e:b=it:=by simpa using hb
  subst e
  exact ⟨_,st,fun v z=>by
   have z':Hk _=Data.cell v:=z
   cases z'⟩
 keep:=fun i h h' st k=>k it (by simp) _ st
 item:=by
  intro X hP hw hK hc i pins s σ H E I hf st hg
  subst hP hw hK
  obtain ⟨f0,f1,f2,f3,f4,f5⟩:=hf it (by simp)
  have W:=Walks.range (prog:=X.prog) (w:=X.w) (I.ok.hd hc) it lo 1 n
  refine W.item i s _ _ hg st fun v h' tk hv st' kk=>?_
  obtain ⟨t,rfl⟩:=hv
  have I1:bP X pins σ H { s with heap:=h',toks:=tk }:=I.turned (fun b o hb e=>kk b o (by simpa using hb) e) f0 f1 f3 f4 f5
  refine ⟨_,rfl,AF (s:={ s with heap:=h',toks:=tk }) (n:="range_iterator") st' rfl rfl (by decide) ⟨.int (lo + i),H,I1,⟨t,?_⟩,⟨rfl,rfl⟩,st',fun b hb=>(hf b hb).1⟩⟩
  rw [Int.mul_one]
 done:=by
  intro X hP hw hK hc i pins s σ H E I hf st hg
  subst hP hw hK
  obtain ⟨f0,f1,f2,f3,f4,f5⟩:=hf it (by simp)
  exact L5 (I.ok.hd hc) st (by have:n<=i:=hg;omega) fun h' eb=>⟨rfl,I.turned (t':=s.toks) (fun b o hb e=>eb b o hb e) f0 f1 f3 f4 f5⟩
 self:=fun _ _ _ _ _ st h=>L6 st h
end L2
namespace L2
open PySem PySem.Spec PyProof.Rows
section
variable {X:Cx}{tg:aX}
def TV (K:a8) (tl:TE):TI:=fun σ H R=>tl σ H fun x H1=>∃ a,x=.ref a/\(∃ xs,lW K H1 a xs)/\R (W4 K a) H1
def W6 (K:a8) (tl:TE):TI:=fun σ H R=>tl σ H fun x H1=>∃ a,x=.ref a/\(∃ xs,kK K H1 a xs)/\R (W5 K a) H1
theorem u9 {l:aX}{tl:TE} (hl:PE X l tl):PI X tg l (TV X.K tl):=by
 intro pins s σ H R I h
 refine fk (hl pins s σ H _ I h) fun v s1 h_16=>?_
 obtain ⟨x,H1,I1,r1,q1⟩:=h_16
 obtain ⟨a,e,⟨xs,hq⟩,q⟩:=q1
 subst e
 cases r1
 obtain ⟨its,rv,p,hz⟩:=I1.list hq
 refine iM p.isList ?_
 refine ⟨s1.heap.objs.size,[s1.heap.objs.size],_,_,H1,rfl,I1.kept (t':=s1.toks) fun b o e=>af _ e,Jj a _,⟨_,ax _ rfl,rfl,rfl⟩,fun b hb=>?_,q⟩
 have e:b=s1.heap.objs.size:=by simpa using hb
 subst e
 exact I1.fpOk (ar _) (I1.hok.fresh (ar _))
theorem Lr {l:aX}{tl:TE} (hl:PE X l tl):PI X tg l (W6 X.K tl):=by
 intro pins s σ H R I h
 refine fk (hl pins s σ H _ I h) fun v s1 h_17=>?_
 obtain ⟨x,H1,I1,r1,q1⟩:=h_17
 obtain ⟨a,e,⟨xs,hq⟩,q⟩:=q1
 subst e
 cases r1
 obtain ⟨its,rv,p,hz⟩:=I1.tuple hq
 refine fO (show s1.heap.IsTuple a its.toArray from p) ?_
 refine ⟨s1.heap.objs.size,[s1.heap.objs.size],_,_,H1,rfl,I1.kept (t':=s1.toks) fun b o e=>af _ e,G3 a _,⟨_,ax _ rfl,rfl,rfl⟩,fun b hb=>?_,q⟩
 have e:b=s1.heap.objs.size:=by simpa using hb
 subst e
 exact I1.fpOk (ar _) (I1.hok.fresh (ar _))
theorem Ls {pins:List (aj×Obj)}{σ:St}{H:Hp}{s:ag}{R:It->Hp->Prop}{E:ac->ag->Prop}{lo hi:Int}{t u v:Tok}{tk:Nat} (I:bP X pins σ H s) (h1:-(2 ^ 62)<=lo) (h2:lo<2 ^ 62) (h3:-(2 ^ 62)<=hi) (h4:hi<2 ^ 62)
  (q:R (VA lo (hi - lo).toNat) H):au (aO X.prog X.w) X.A (v9 (.ref s.heap.objs.size)) (Vz X pins σ tg R) E { s with heap:=s.heap.push { cls:=.type "range",data:=.fields #[.int lo t,.int hi u,.int 1 v] },toks:=tk }:=by
 refine wpAny_pyIter_range (IsRange.new ..) (small_one h1 h2 h3 h4) ?_
 have I1:bP X pins σ H { s with heap:=s.heap.push { cls:=.type "range",data:=.fields #[.int lo t,.int hi u,.int 1 v] },toks:=tk }:=I.kept fun b o e=>af _ e
 refine ⟨(s.heap.push { cls:=.type "range",data:=.fields #[.int lo t,.int hi u,.int 1 v] }).objs.size,[(s.heap.push { cls:=.type "range",data:=.fields #[.int lo t,.int hi u,.int 1 v] }).objs.size],_,_,H,rfl,
  I1.kept (t':=tk) fun b o e=>af _ e,G4 _ lo (hi - lo).toNat,?_,fun b hb=>?_,q⟩
 ·have e1:lo + ((0:Nat):Int) * 1=lo:=by simp
  have e2:(((hi - lo).toNat:Nat):Int) - ((0:Nat):Int)=iD lo hi 1:=by rw [rangeSize_one];split<;>omega
  show D6 _ _ (lo + ((0:Nat):Int) * 1) ((((hi - lo).toNat:Nat):Int) - ((0:Nat):Int)) 1
  rw [e1,e2]
  exact ax _ rfl
 ·have e:b=(s.heap.push { cls:=.type "range",data:=.fields #[.int lo t,.int hi u,.int 1 v] }).objs.size:=by simpa using hb
  subst e
  exact I1.fpOk (ar _) (I1.hok.fresh (ar _))
def TW (ta:TA):TI:=fun σ H R=>ta σ H fun vs H1=>∃ j:Int,vs=[.int j]/\-(2 ^ 62)<=j/\j<2 ^ 62/\R (VA 0 j.toNat) H1
theorem Jk {a:aX}{ta:TA}{p pos:Pos} (hg:Gl X "range") (hm:X.mg "range"=none) (ha:PA X [a] ta) (hs:aI [a] X.env=[(false,dE a X.env)]:=by rfl):PI X tg (.Call (.Name "range" p) [a] [] pos) (TW ta):=by
 intro pins s σ H R I h
 refine Call_ (oA I hg hm boot_range (cM (fk (ha pos pins s σ H _ I h) fun us s1 ⟨vs,H1,I1,r1,q1⟩=>?_) hs rfl))
 obtain ⟨j,e,q1,q2,q⟩:=q1
 subst e
 cases r1 with
 | cons r rr =>
  cases rr
  obtain ⟨t,rfl⟩:=r
  exact call_range_1 (Ls I1 (by omega) (by omega) q1 q2 (by simpa using q))
inductive W7 (g:TG) (tb:TS) (D:u7) (σ:St) (J:It) (H1:Hp):Prop
 | mk (W:Nat->Nat->St->Hp->Prop) (w0:∃ m,W 0 m σ H1) (turn:∀ i m σ H,W i m σ H ->
 (J.stop i H/\D.nx σ H)\/(J.go i H/\∃ N:St->Hp->Prop,(∀ σ' H',N σ' H'->∃ m',m'<m/\W (i + 1) m' σ' H')/\∀ x H',J.yld i H x H'->g x σ H' fun σ2 H2=>tb { D with nx:=N,ct:=N,bk:=D.nx } σ2 H2)):W7 g tb D σ J H1
def W8 (wi:TI) (g:TG) (tb:TS):TS:=fun D σ H=>wi σ H (W7 g tb D σ)
def vm (fp:List aj) (h:bB):List (aj×Obj):=fp.filterMap fun b=>(h.get? b).map fun o=>(b,o)
theorem jV {fp:List aj}{h:bB}{b:aj}{o:Obj} (hb:b∈fp) (e:h.get? b=some o):(b,o)∈vm fp h:=List.mem_filterMap.mpr ⟨b,hb,by rw [e];rfl⟩
theorem Jl {fp:List aj}{h:bB}{p:aj×Obj} (hp:p∈vm fp h):p.1∈fp/\h.get? p.1=some p.2:=by
 obtain ⟨b,hb,e⟩:=List.mem_filterMap.mp hp
 cases q:h.get? b with
 | none=>rw [q] at e;cases e
 | some o =>
  rw [q] at e
  have e':(b,o)=p:=bG e
  subst e'
  exact ⟨hb,q⟩
theorem bP.pinned {pins:List (aj×Obj)}{σ:St}{H:Hp}{s:ag}{fp:List aj} (I:bP X pins σ H s) (hf:∀ b∈fp,qf X pins H b) (ho:∀ b∈fp,∃ o,s.heap.get? b=some o/\∀ v,o.data≠.cell v):bP X (pins++vm fp s.heap) σ H s :=
 I.pins_of fun p hp=>(List.mem_append.mp hp).elim (fun z=>I.pin p (aL _ z)) fun z=>by
  obtain ⟨hb,e⟩:=Jl z
  obtain ⟨f0,f1,f2,_⟩:=hf p.1 hb
  obtain ⟨o,e',d⟩:=ho p.1 hb
  rw [e] at e';cases e'
  exact ⟨e,f0,f1,f2,d⟩
theorem bP.unpinned {pins pl:List (aj×Obj)}{σ:St}{H:Hp}{s:ag} (I:bP X (pins++pl) σ H s):bP X pins σ H s:=I.pins_of fun p hp=>I.pin p (aL _ (bu _ hp))
theorem Lu {iter:aX}{body:List cA}{wi:TI}{g:TG}{tb:TS}{pos:Pos} (hp:PassesOwn (aO X.prog X.w) X.A X.env X.xe) (hc:X.calm=true) (hi:PI X tg iter wi) (hg:PG X tg g) (hb:Hu X body tb)
  (hs:∀ x,e8 iter X.env x=pure x:=by intro _;rfl):PS X (.For tg iter body [] pos) (W8 wi g tb):=by
 intro pins s σ H D I h
 refine wpAny_For (fk (hi pins s σ H _ I h) fun v s1 h1=>fk h1 fun itv s2 h2=>?_) hs
 obtain ⟨it,fp,tn,J,H2,e,I2,T,st2,f2,W,⟨m0,w0⟩,turn⟩:=h2
 subst e
 have stat:∀ {H':Hp},(∀ b∈fp,H' b=none)->∀ b∈fp,qf X pins H' b:=fun hn b hb=>⟨hn b hb,(f2 b hb).f1,(f2 b hb).f2,(f2 b hb).f3,(f2 b hb).f4,(f2 b hb).f5⟩
 refine codeAny_forLoop_any (W3 X pins tn fp W) ?_ m0 ⟨0,σ,H2,I2,st2,fun b hb=>(f2 b hb).1,w0⟩
 rintro n s3 ⟨i,σ3,H3,I3,st3,fr3,w3⟩
 rcases turn i n σ3 H3 w3 with ⟨stop,qn⟩ | ⟨go,N,hN,step⟩
 ·refine im hp (fk (T.done X rfl rfl rfl hc i pins s3 σ3 H3 X.xe I3 (stat fr3) st3 stop) fun r s4 ⟨hr,I4⟩=>?_)
  subst hr
  exact tO ⟨σ3,H3,I4,qn⟩
 ·refine im hp (fk (T.item X rfl rfl rfl hc i pins s3 σ3 H3 X.xe I3 (stat fr3) st3 go) fun r s4 ⟨u,hr,h4⟩=>?_)
  subst hr
  refine im hp (fk h4 fun _ s5 ⟨x,H5,I5,r5,y5,st5,fr5⟩=>?_)
  have I5':=I5.pinned (stat fr5) (T.obj _ _ st5)
  refine im hp (fk (hg _ s5 σ3 H5 x u _ I5' r5 (step x H5 y5)) fun _ s6 ⟨σ6,H6,I6,q6⟩=>?_)
  refine im hp (fk (hb _ s6 σ6 H6 _ I6 q6) fun f s7 q7=>?_)
  have again:∀ {σ7:St}{H7:Hp},bP X (pins++vm fp s5.heap) σ7 H7 s7->N σ7 H7->∃ m,m<n/\W3 X pins tn fp W m s7:=fun {σ7 H7} I7 n7=>by
   obtain ⟨m',hm,w7⟩:=hN σ7 H7 n7
   refine ⟨m',hm,i + 1,σ7,H7,I7.unpinned,T.keep _ _ _ st5 fun b hb o e=>(I7.pin (b,o) (aL _ (aL _ (jV hb e)))).1,fun b hb=>?_,w7⟩
   obtain ⟨o,e,d⟩:=T.obj _ _ st5 b hb
   exact (I7.pin (b,o) (aL _ (aL _ (jV hb e)))).2.1
  cases f with
  | next=>obtain ⟨σ7,H7,I7,n7⟩:=q7;exact again I7 n7
  | cont=>obtain ⟨σ7,H7,I7,n7⟩:=q7;exact again I7 n7
  | brk=>obtain ⟨σ7,H7,I7,q7⟩:=q7;exact ⟨σ7,H7,I7.unpinned,q7⟩
  | ret v=>obtain ⟨x7,σ7,H7,I7,r7,q7⟩:=q7;exact ⟨x7,σ7,H7,I7.unpinned,r7,q7⟩
end
end L2
namespace L2
open PySem PySem.Spec PyProof.Rows
abbrev R2:=V->V->Hp->VK->Prop
def oB (X:Cx) (f:ac->ac->Sem ac) (r:R2):Prop :=
 ∀ (pins:List (aj×Obj)) (s:ag) (σ:St) (H:Hp) (x y:V) (v u:ac) (Q:VK),bP X pins σ H s->du x v->du y u->r x y H Q ->
  au (aO X.prog X.w) X.A (f v u) (EP X pins σ Q) X.xe s
def W9 (X:Cx) (f:ac->Sem ac) (r:V->Hp->VK->Prop):Prop :=
 ∀ (pins:List (aj×Obj)) (s:ag) (σ:St) (H:Hp) (x:V) (v:ac) (Q:VK),bP X pins σ H s->du x v->r x H Q ->
  au (aO X.prog X.w) X.A (f v) (EP X pins σ Q) X.xe s
def jR (X:Cx) (f:ac) (r:List V->Hp->VK->Prop):Prop :=
 ∀ (pins:List (aj×Obj)) (s:ag) (σ:St) (H:Hp) (xs:List V) (us:List ac) (Q:VK),bP X pins σ H s->dJ xs us->r xs H Q ->
  au (aO X.prog X.w) X.A (call f us) (EP X pins σ Q) X.xe s
def Wa (X:Cx) (r:V->Hp->(Bool->Hp->Prop)->Prop):Prop :=
 ∀ (pins:List (aj×Obj)) (s:ag) (σ:St) (H:Hp) (x:V) (v:ac) (Q:Bool->Hp->Prop),bP X pins σ H s->du x v->r x H Q ->
  au (aO X.prog X.w) X.A (truthy v) (TP X pins σ Q) X.xe s
def TX (r:R2) (ta tb:TE):TE:=fun σ H Q=>ta σ H fun x H1=>tb σ H1 fun y H2=>r x y H2 Q
def Xv (r:V->Hp->VK->Prop) (ta:TE):TE:=fun σ H Q=>ta σ H fun x H1=>r x H1 Q
inductive X2 (C:Int->Int->Prop) (g:Int->Int->V) (x:V) (y:V) (H:Hp) (Q:VK):Prop
 | mk (i j:_) (h0:x=.int i) (h1:y=.int j) (h2:C i j) (h3:Q (g i j) H):X2 C g x y H Q
def rI (C:Int->Int->Prop) (g:Int->Int->V):R2:=X2 C g
inductive TY (g:Int->Int->V) (x:V) (y:V) (H:Hp) (Q:VK):Prop
 | mk (i j:_) (h0:x=.int i) (h1:y=.int j) (h2:Q (g i j) H):TY g x y H Q
def P5 (g:Int->Int->V):R2:=TY g
inductive X3 (g:Int->V) (x:V) (H:Hp) (Q:VK):Prop
 | mk (i:_) (h0:x=.int i) (h1:Q (g i) H):X3 g x H Q
def rU (g:Int->V):V->Hp->VK->Prop:=X3 g
section
variable {X:Cx}{a b c:aX}{ta tb tc:TE}{pos:Pos}
theorem S7 (ha:PE X a ta) (hb:PE X b tb) {pins:List (aj×Obj)}{s:ag}{σ:St}{H:Hp}{R:V->V->Hp->Prop} (I:bP X pins σ H s)
  (h:ta σ H fun x H1=>tb σ H1 fun y H2=>R x y H2) {Q:ac->ag->Prop}{f:ac->ac->Sem ac}
  (hf:∀ v u s2 x y H2,bP X pins σ H2 s2->du x v->du y u->R x y H2->au (aO X.prog X.w) X.A (f v u) Q X.xe s2) :
  au (aO X.prog X.w) X.A (dE a X.env) (fun v s₁=>au (aO X.prog X.w) X.A (dE b X.env) (fun u s₂=>au (aO X.prog X.w) X.A (f v u) Q X.xe s₂) X.xe s₁) X.xe s:=by
 refine fk (ha pins s σ H _ I h) fun v s1 h_19=>?_
 obtain ⟨x,H1,I1,r1,q1⟩:=h_19
 refine fk (hb pins s1 σ H1 _ I1 q1) fun u s2 h_20=>?_
 obtain ⟨y,H2,I2,r2,q2⟩:=h_20
 exact hf v u s2 x y H2 I2 r1 r2 q2
theorem QJ {op:Operator}{r:R2} (ho:oB X (eP op) r) (ha:PE X a ta) (hb:PE X b tb):PE X (.BinOp a op b pos) (TX r ta tb):=by
 intro pins s σ H Q I h
 exact wpAny_BinOp (S7 ha hb I h fun v u s2 x y H2 I2 rx ry q=>ho pins s2 σ H2 x y v u Q I2 rx ry q)
theorem TZ {op:UnaryOp}{r:V->Hp->VK->Prop} (ho:W9 X (unaryOp op) r) (ha:PE X a ta):PE X (.UnaryOp op a pos) (Xv r ta):=by
 intro pins s σ H Q I h
 exact UnaryOp_ (fk (ha pins s σ H _ I h) fun v s1 h_21=>by obtain ⟨x,H1,I1,r1,q1⟩:=h_21;exact ho pins s1 σ H1 x v Q I1 r1 q1)
theorem Wb {f:ac->ac->Sem ac}{C:Int->Int->Prop}{g:Int->Int->Int}
  (rule:∀ (i j:Int) (t u:Tok) (s:ag) (Q:ac->ag->Prop) (E:ac->ag->Prop),C i j->Q (.int (g i j) s.toks) { s with toks:=s.toks + 1 }->au (aO X.prog X.w) X.A (f (.int i t) (.int j u)) Q E s) :
  oB X f (rI C fun i j=>.int (g i j)):=by
 intro pins s σ H x y v u Q I rx ry h
 obtain ⟨i,j,rfl,rfl,hc,q⟩:=h
 obtain ⟨t,rfl⟩:=rx
 obtain ⟨t',rfl⟩:=ry
 exact rule i j t t' s _ _ hc ⟨.int (g i j),H,I.tok _,⟨_,rfl⟩,q⟩
theorem T_ {f:ac->ac->Sem ac}{g:Int->Int->Int}
  (rule:∀ (i j:Int) (t u:Tok) (s:ag) (Q:ac->ag->Prop) (E:ac->ag->Prop),Q (.int (g i j) s.toks) { s with toks:=s.toks + 1 }->au (aO X.prog X.w) X.A (f (.int i t) (.int j u)) Q E s) :
  oB X f (P5 fun i j=>.int (g i j)):=by
 intro pins s σ H x y v u Q I rx ry h
 obtain ⟨i,j,rfl,rfl,q⟩:=h
 obtain ⟨t,rfl⟩:=rx
 obtain ⟨t',rfl⟩:=ry
 exact rule i j t t' s _ _ ⟨.int (g i j),H,I.tok _,⟨_,rfl⟩,q⟩
theorem S8 {f:ac->ac->Sem ac}{g:Int->Int->Bool}
  (rule:∀ (i j:Int) (t u:Tok) (s:ag) (Q:ac->ag->Prop) (E:ac->ag->Prop),Q (.bool (g i j)) s->au (aO X.prog X.w) X.A (f (.int i t) (.int j u)) Q E s) :
  oB X f (P5 fun i j=>.bl (g i j)):=by
 intro pins s σ H x y v u Q I rx ry h
 obtain ⟨i,j,rfl,rfl,q⟩:=h
 obtain ⟨t,rfl⟩:=rx
 obtain ⟨t',rfl⟩:=ry
 exact rule i j t t' s _ _ ⟨.bl (g i j),H,I,rfl,q⟩
def Wc (i j:Int):Prop:=0<j/\j<1073741824
def S9 (i j:Int):Prop:=(-(2 ^ 64)<i/\i<2 ^ 64)\/(-(2 ^ 64)<j/\j<2 ^ 64)
theorem S9.ok {i j:Int} (h:S9 i j):IntMulOk i j:=by
 rcases h with ⟨h1,h2⟩ | ⟨h1,h2⟩
 ·exact .of_left (intBits_le_64 h1 h2)
 ·exact .of_right (intBits_le_64 h1 h2)
theorem Sc:oB X (eP .Add) (P5 fun i j=>.int (i + j)):=T_ fun _ _ _ _ _ _ _ q=>add_int q
theorem Sd:oB X (eP .Sub) (P5 fun i j=>.int (i - j)):=T_ fun _ _ _ _ _ _ _ q=>sub_int q
theorem Se:oB X (eP .Mult) (rI S9 fun i j=>.int (i * j)):=Wb fun _ _ _ _ _ _ _ hc q=>mul_int q hc.ok
theorem P6:oB X (eP .FloorDiv) (rI Wc fun i j=>.int (i / j)):=Wb fun i j _ _ _ _ _ hc q=>by
 have h1:(0:Int)<j:=hc.1
 have h2:j<1073741824:=hc.2
 exact floordiv_int (by omega) (by rw [Int.fdiv_eq_ediv_of_nonneg i (by omega)];exact q) (.inl (Bw (by omega)))
theorem Sf:oB X (eP .Mod) (rI (fun _ j=>0<j) fun i j=>.int (i % j)):=Wb fun i j _ _ _ _ _ hc q=>by
 have h1:(0:Int)<j:=hc
 exact mod_int' (by omega) (by rw [Int.fmod_eq_emod_of_nonneg i (by omega)];exact q)
theorem Xw {f:ac->Sem ac}{g:Int->Int}
  (rule:∀ (i:Int) (t:Tok) (s:ag) (Q:ac->ag->Prop) (E:ac->ag->Prop),Q (.int (g i) s.toks) { s with toks:=s.toks + 1 }->au (aO X.prog X.w) X.A (f (.int i t)) Q E s) :
  W9 X f (rU fun i=>.int (g i)):=by
 intro pins s σ H x v Q I rx h
 obtain ⟨i,rfl,q⟩:=h
 obtain ⟨t,rfl⟩:=rx
 exact rule i t s _ _ ⟨.int (g i),H,I.tok _,⟨_,rfl⟩,q⟩
theorem Sg:W9 X (unaryOp .USub) (rU fun i=>.int (-i)):=Xw fun _ _ _ _ _ q=>neg_int q
end
section
variable {X:Cx}{a b c:aX}{ta tb tc:TE}{pos:Pos}
theorem BG {pins:List (aj×Obj)}{σ:St}{H:Hp}{s:ag}{Q:VK}{k k':Bool} (I:bP X pins σ H s) (q:Q (.bl k) H) (e:k=k'):EP X pins σ Q (.bool k') s:=by
 subst e
 exact ⟨.bl k,H,I,rfl,q⟩
theorem U0:oB X (bI .Lt) (P5 fun i j=>.bl (decide (i<j))):=S8 fun _ _ _ _ _ _ _ q=>lt_int q
theorem U1:oB X (bI .LtE) (P5 fun i j=>.bl (decide (i<=j))):=S8 fun _ _ _ _ _ _ _ q=>le_int q
theorem U2:oB X (bI .Gt) (P5 fun i j=>.bl (decide (j<i))):=S8 fun _ _ _ _ _ _ _ q=>gt_int q
theorem Jm:oB X (bI .Lt) (fun x y H Q=>∃ i j,x=.str i/\y=.str j/\Q (.bl (decide (i.cps.toList<j.cps.toList))) H):=by
 intro pins s σ H x y v u Q I rx ry h
 obtain ⟨i,j,rfl,rfl,q⟩:=h
 obtain ⟨t,rfl⟩:=rx
 obtain ⟨t',rfl⟩:=ry
 exact lt_str (BG I q rfl)
theorem Sh:oB X (bI .Is) (fun x y H Q=>y=.non/\Q (.bl (decide (x=.non))) H):=by
 intro pins s σ H x y v u Q I rx ry h
 obtain ⟨rfl,q⟩:=h
 cases ry
 refine is_none_gen (BG I q ?_)
 cases x<;>first
  | (cases rx;rfl)
  | (obtain ⟨t,rfl⟩:=rx;rfl)
theorem P7:oB X (bI .IsNot) (fun x y H Q=>y=.non/\Q (.bl (!decide (x=.non))) H):=by
 intro pins s σ H x y v u Q I rx ry h
 obtain ⟨rfl,q⟩:=h
 cases ry
 refine isnot_none_gen (BG I q ?_)
 cases x<;>first
  | (cases rx;rfl)
  | (obtain ⟨t,rfl⟩:=rx;rfl)
theorem Lv (b:aX) {op:xh} (h:op≠.In:=by decide) (h2:op≠.NotIn:=by decide):gF op b=false:=by
 have e1:(op == CmpOp.In)=false:=by cases op<;>first | rfl | exact absurd rfl h
 have e2:(op == CmpOp.NotIn)=false:=by cases op<;>first | rfl | exact absurd rfl h2
 cases b<;>simp [gF,e1,e2]
theorem P8 {op:xh}{r:R2} (ho:oB X (bI op) r) (ha:PE X a ta) (hb:PE X b tb) (hm:gF op b=false):PE X (.Compare a [op] [b] pos) (TX r ta tb):=by
 intro pins s σ H Q I h
 exact wpAny_Compare1 (S7 ha hb I h fun v u s2 x y H2 I2 rx ry q=>ho pins s2 σ H2 x y v u Q I2 rx ry q) hm
def QK (t:TE):TT:=fun σ H Q=>t σ H fun x H'=>∃ k,x=.bl k/\Q k H'
theorem P9 {op:xh}{r:R2} (ho:oB X (bI op) r) (ha:PE X a ta) (hb:PE X b tb) (hm:gF op b=false):PT X (.Compare a [op] [b] pos) (QK (TX r ta tb)):=by
 intro pins s σ H Q I h
 refine Oo (fk (ha pins s σ H _ I h) fun v s1 ⟨x,H1,I1,r1,q1⟩=>fk (hb pins s1 σ H1 _ I1 q1) fun u s2 ⟨y,H2,I2,r2,q2⟩ =>
  fk (ho pins s2 σ H2 x y v u _ I2 r1 r2 q2) fun c s3 ⟨z,H3,I3,r3,k,e,q3⟩=>?_) hm
 subst e
 cases r3
 exact dL ⟨H3,I3,q3⟩
def G5 (r r':R2) (ta tb tc:TE):TE:=fun σ H Q=>ta σ H fun x H1=>tb σ H1 fun y H2=>r x y H2 fun z H3=>∃ k,z=.bl k /\
 (if k=true then tc σ H3 fun w' H4=>r' y w' H4 Q else Q (.bl false) H3)
theorem Lw {op op':xh}{r r':R2} (ho:oB X (bI op) r) (ho':oB X (bI op') r') (ha:PE X a ta) (hb:PE X b tb) (hc:PE X c tc)
  (hm:KL [op,op'] [b,c]=false:=by with_unfolding_all rfl):PE X (.Compare a [op,op'] [b,c] pos) (G5 r r' ta tb tc):=by
 intro pins s σ H Q I h
 refine Compare_chain (fk (ha pins s σ H _ I h) fun v s1 ⟨x,H1,I1,r1,q1⟩=>chain_link (fk (hb pins s1 σ H1 _ I1 q1) fun u s2 ⟨y,H2,I2,r2,q2⟩ =>
  fk (ho pins s2 σ H2 x y v u _ I2 r1 r2 q2) fun d s3 ⟨z,H3,I3,r3,k,e,q3⟩=>?_)) hm
 subst e
 cases r3
 refine dL ?_
 cases k with
 | false=>exact ite_ff ⟨.bl false,H3,I3,rfl,q3⟩
 | true=>exact ite_tt (chain_last (fk (hc pins s3 σ H3 _ I3 q3) fun w' s4 h_22=>by obtain ⟨z',H4,I4,r4,q4⟩:=h_22;exact ho' pins s4 σ H4 y z' u w' Q I4 r2 r4 q4))
theorem Lx {op op':xh}{r r':R2} (ho:oB X (bI op) r) (ho':oB X (bI op') r') (ha:PE X a ta) (hb:PE X b tb) (hc:PE X c tc)
  (hm:KL [op,op'] [b,c]=false:=by with_unfolding_all rfl):PT X (.Compare a [op,op'] [b,c] pos) (QK (G5 r r' ta tb tc)):=by
 intro pins s σ H Q I h
 refine isTrue_chain (fk (ha pins s σ H _ I h) fun v s1 ⟨x,H1,I1,r1,q1⟩=>test_link (fk (hb pins s1 σ H1 _ I1 q1) fun u s2 ⟨y,H2,I2,r2,q2⟩ =>
  fk (ho pins s2 σ H2 x y v u _ I2 r1 r2 q2) fun d s3 ⟨z,H3,I3,r3,k,e,q3⟩=>?_)) hm
 subst e
 cases r3
 refine dL ?_
 cases k with
 | false =>
  obtain ⟨k',e',q'⟩:=q3
  cases e'
  exact ite_ff ⟨H3,I3,q'⟩
 | true =>
  refine ite_tt (test_last (fk (hc pins s3 σ H3 _ I3 q3) fun w' s4 ⟨z',H4,I4,r4,q4⟩=>fk (ho' pins s4 σ H4 y z' u w' _ I4 r2 r4 q4) fun d' s5 ⟨z2,H5,I5,r5,k2,e2,q5⟩=>?_))
  subst e2
  cases r5
  exact dL ⟨H5,I5,q5⟩
def U3 (K:a8) (x:V) (H:Hp) (k:Bool):Prop :=
 match x with
 | .non=>k=false
 | .bl b=>k=b
 | .int i=>k=(i != 0)
 | .str y=>y.length<=sizeLine/\k=((y.length:Int) != 0)
 | .byt y=>y.size<=sizeLine/\k=((y.size:Int) != 0)
 | .ref p=>(∃ xs,lW K H p xs/\k=!xs.isEmpty)\/(∃ xs,kK K H p xs/\k=!xs.isEmpty)\/∃ kvs,H p=some (.dK kvs)/\k=!kvs.isEmpty
 | _=>False
theorem G6 {κ:Type}{kvs:List (κ×V)}{vs:List (κ×ac)} (r:KV kvs vs):(!vs.isEmpty)=!kvs.isEmpty:=by
 cases r<;>rfl
theorem xM {xs:List V}{its:List ac} (r:dJ xs its):(!its.toArray.isEmpty)=!xs.isEmpty:=by
 cases r<;>simp
theorem vn:(sizeLine:Nat)<2 ^ 63:=by rw [D7];decide
theorem Si:Wa X (fun x H Q=>∃ k,U3 X.K x H k/\Q k H):=by
 intro pins s σ H x v Q I rx h
 obtain ⟨k,e,q⟩:=h
 have hl:=vn
 have hs:sizeLine=16777216:=D7
 cases x with
 | non =>
  cases rx
  have e':k=false:=e
  subst e'
  exact truthy_none ⟨H,I,q⟩
 | bl b =>
  cases rx
  have e':k=b:=e
  subst e'
  exact dL ⟨H,I,q⟩
 | int i =>
  obtain ⟨t,rfl⟩:=rx
  have e':k=(i != 0):=e
  subst e'
  exact PySem.P.truthy_int ⟨H,I,q⟩
 | str y =>
  obtain ⟨t,rfl⟩:=rx
  obtain ⟨hy,e'⟩:y.length<=sizeLine/\k=((y.length:Int) != 0):=e
  subst e'
  exact PySem.P.truthy_str (by omega) ⟨H,I.tok _,q⟩
 | byt y =>
  obtain ⟨t,rfl⟩:=rx
  obtain ⟨hy,e'⟩:y.size<=sizeLine/\k=((y.size:Int) != 0):=e
  subst e'
  exact PySem.W.truthy_bytes (by omega) ⟨H,I.tok _,q⟩
 | ref p =>
  cases rx
  have e':(∃ xs,lW X.K H p xs/\k=!xs.isEmpty)\/(∃ xs,kK X.K H p xs/\k=!xs.isEmpty)\/∃ kvs,H p=some (.dK kvs)/\k=!kvs.isEmpty:=e
  rcases e' with ⟨xs,hx,e'⟩ | ⟨xs,hx,e'⟩ | ⟨kvs,hx,e'⟩
  ·subst e'
   obtain ⟨its,r,pl,hz⟩:=I.list hx
   have hlen:=r.length
   exact wpAny_truthy_list pl.isList (by simp only [aP];omega) ⟨H,I.tok _,by rw [xM r];exact q⟩
  ·subst e'
   obtain ⟨its,r,pl,hz⟩:=I.tuple hx
   have hlen:=r.length
   exact truthy_tuple pl (by simp only [aP];omega) ⟨H,I.tok _,by rw [xM r];exact q⟩
  ·subst e'
   obtain ⟨hz,hS,vs,r,m⟩:kvs.length<=sizeLine/\(p == fN)=false/\∃ vs,KV kvs vs/\s.heap.DictOf (dw X.prog X.w) p vs:=I.hok p _ hx
   have hlen:kvs.length=vs.length:=iY r
   exact wpAny_truthy_dict hS m (by omega) ⟨H,I.tok _,by rw [G6 r];exact q⟩
 | _=>exact (show False from e).elim
theorem Ly (ha:PE X a ta) (he:∀ whole,v8 a X.env whole=(do let v <- whole;wk a.pos;L4 [v] (truthy v))) :
  PT X a (fun σ H Q=>ta σ H fun x H'=>∃ k,U3 X.K x H' k/\Q k H'):=by
 intro pins s σ H Q I h
 exact isTrue_plain (fk (ha pins s σ H _ I h) fun v s1 h_23=>by obtain ⟨x,H1,I1,r1,q1⟩:=h_23;exact Si pins s1 σ H1 x v Q I1 r1 q1) (he _)
theorem G7:oB X (eP .Add) (fun x y H Q=>∃ i j,x=.str i/\y=.str j/\i.length + j.length<=sizeLine/\Q (.str (i++j)) H):=by
 intro pins s σ H x y v u Q I rx ry h
 obtain ⟨i,j,rfl,rfl,hz,q⟩:=h
 obtain ⟨t,rfl⟩:=rx
 obtain ⟨t',rfl⟩:=ry
 exact add_str (fun t' tk=>⟨.str (i++j),H,I.tok _,⟨_,rfl⟩,q⟩) hz
theorem kL {x:V}{us:List ac} (r:dJ [x] us):∃ u,us=[u]/\du x u:=by
 cases r with
 | cons r1 r2=>cases r2;exact ⟨_,rfl,r1⟩
theorem QL {x y:V}{us:List ac} (r:dJ [x,y] us):∃ u w',us=[u,w']/\du x u/\du y w':=by
 cases r with
 | cons r1 r2 =>
  cases r2 with
  | cons r3 r4=>cases r4;exact ⟨_,_,rfl,r1,r3⟩
end
end L2
namespace L2
open PySem PySem.Spec PyProof.Rows
structure Sj (h:bB) (x dx C:aj) (mA:Str->Option ac):Prop where
 obj:h.get? x=some (wL C dx)
 ns:h.Ns1 dx mA
 ne:dx≠x
theorem Jn {h:bB}{dx:aj}{mA:Str->Option ac} (n:h.Ns1 dx mA):∃ od,h.get? dx=some od/\∀ name,xD name od=some (mA name):=by
 obtain ⟨o,es,ep,ho,hd,hk,_,hm⟩:=n
 refine ⟨o,ho,fun name=>?_⟩
 have e:=hm name
 unfold nsFind findBy at e
 rw [<- Array.find?_toList] at e
 unfold xD
 rw [hd]
 dsimp only
 split
 ·rename_i y q
  rw [q] at e
  exact congrArg some e
 ·rename_i q
  rw [q] at e
  have a:es.toList.any (·.refKey)=false:=by
   rw [wl]
   intro y hy
   obtain ⟨z,t,hkey⟩:=hk y (Array.mem_toList_iff.mp hy)
   simp [DictEntry.refKey,hkey]
  have a':¬ es.toList.any (·.refKey)=true:=by rw [a];exact bi
  rw [if_neg a']
  exact congrArg some e
theorem Sj.look {h:bB}{x dx C:aj}{mA:Str->Option ac} (I:Sj h x dx C mA):∃ od,PySem.W.InstAt h x (wL C dx) C (some od)/\∀ name,xD name od=some (mA name) :=
 let ⟨od,ho,hl⟩:=Jn I.ns
 ⟨od,⟨I.obj,rfl,rfl,ho⟩,hl⟩
section
variable {prog:aM}{w:ba}{A:bv}{E:ac->ag->Prop}{s:ag}{K:a8}{x dx C f:aj}{mA:Str->Option ac}{name:Str}{v:ac}
end
theorem xL.some_of {v:V}{o:Option ac} (r:xL (some v) o):∃ u,o=some u/\du v u:=by
 cases o with
 | none=>exact (show False from r).elim
 | some u=>exact ⟨u,rfl,r⟩
section
variable {P:aM}{w:ba}{H H':Hp}{h h':bB}{a C dx:aj}{fs fs':List (Str×V)}
theorem Pa (hok:pP P w H h) (e:H a=some (.ins C dx fs)):∃ mA,Sj h a dx C mA/\(∀ f,xL (fs.lookup f) (mA f))/\PySem.Within mA (fs.map (·.1))/\fs.length<=1000/\H dx=some (.own a):=by
 obtain ⟨d,z,ne,ob,mA,n,r,q⟩:=(show dA P w H h a (.ins C dx fs) from hok a _ e)
 exact ⟨mA,⟨ob,n,ne⟩,r,q,z,d⟩
end
structure Wd (K:a8) (C:aj):Prop where
 pg:J4 K C Str.empty=true
 hd:PySem.W.hasDictIn K C=true
 po:PySem.W.plainOver K C=true
 sa:lS K (.ref C) "__setattr__"=some (some (.builtin "object.__setattr__"))
theorem Wd.get {K:a8}{C:aj} (c:Wd K C) (f:Str):J4 K C f=true:=c.pg
section
variable {X:Cx}{pins:List (aj×Obj)}{σ:St}{H:Hp}{s:ag}{a C dx:aj}{fs:List (Str×V)}{f:Str}{v:V}{A:bv}{E:ac->ag->Prop}
end
section
variable {X:Cx}{o e value:aX}{f:Str}{pos pos' tpos:Pos}{ta tv:TE}
end
section
variable {X:Cx}{pins:List (aj×Obj)}{σ:St}{H:Hp}{s:ag}{A:bv}{E:ac->ag->Prop}{Q:ac->ag->Prop}{c:ac}{b:Bool}
inductive wU (K:a8) (H:Hp):V->ac->Prop where
 | non:wU K H .non (.type "NoneType")
 | bl (x:Bool):wU K H (.bl x) (.type "bool")
 | int (i:Int):wU K H (.int i) (.type "int")
 | str (x:Str):wU K H (.str x) (.type "str")
 | flt (x:UInt64):wU K H (.flt x) (.type "float")
 | lst {a:aj}{xs:List V} (e:H a=some (.lst xs)):wU K H (.ref a) (.type "list")
 | frz {a:aj}{o:Obj}{xs:List V} (e:H a=some (.frz o (.lst xs))):wU K H (.ref a) (.type "list")
 | tup {a:aj}{xs:List V} (e:H a=some (.tup xs)):wU K H (.ref a) (.type "tuple")
 | dK {a:aj}{kvs:List (dv×V)} (e:H a=some (.dK kvs)):wU K H (.ref a) (.type "dict")
 | dT {a:aj}{kvs:List (List dv×V)} (e:H a=some (.dT kvs)):wU K H (.ref a) (.type "dict")
 | ins {a C dx:aj}{fs:List (Str×V)} (e:H a=some (.ins C dx fs)) (cl:Wd K C) (ha:lS K (.ref C) "__class__"=some (some (.builtin "object.__class__")))
   (hn:Hl K (.builtin "object.__class__") "__get__"=some (some (.builtin "getset_descriptor.__get__"))) (htk:KM K (.builtin "object.__class__")=some true)
   (hm:fP K C (.type "object")=some true):wU K H (.ref a) (.ref C)
theorem qO {x:V}{u t:ac} (I:bP X pins σ H s) (rx:du x u) (ty:wU X.K H x t) (e:q0 X.K t c=some b) (h:∀ tk,Q (.bool b) { s with toks:=tk }) :
  au (aO X.prog X.w) A (call (.builtin "isinstance") [u,c]) Q E s:=by
 cases ty with
 | non=>cases (show u=dW from rx);exact cL PySem.W.kitx_none I.kIn iE e (fun z=>nomatch z) h
 | bl y=>cases (show u=IY y from rx);exact cL PySem.W.kitx_bool I.kIn iE e (fun z=>nomatch z) h
 | int i=>obtain ⟨t,q⟩:=(show ∃ t,u=mz i t from rx);cases q;exact cL PySem.W.kitx_int I.kIn iE e (fun z=>nomatch z) h
 | str y=>obtain ⟨t,q⟩:=(show ∃ t,u=jq y t from rx);cases q;exact cL PySem.W.kitx_str I.kIn iE e (fun z=>nomatch z) h
 | flt y=>obtain ⟨t,q⟩:=(show ∃ t,u=Value.float y t from rx);cases q;exact cL PySem.W.kitx_float I.kIn iE e (fun z=>nomatch z) h
 | @lst a xs ea =>
  cases (show u=bX a from rx)
  obtain ⟨_,_,n,_,h1⟩:=(show dA X.prog X.w H s.heap a (.lst xs) from I.hok a _ ea)
  exact cL tX I.kIn ⟨_,h1,rfl⟩ e (fun z=>nomatch z) h
 | @frz a ob xs ea =>
  cases (show u=bX a from rx)
  obtain ⟨_,_,_,n,_,h1⟩:=(show dA X.prog X.w H s.heap a (.frz ob (.lst xs)) from I.hok a _ ea)
  exact cL tX I.kIn ⟨_,h1,rfl⟩ e (fun z=>nomatch z) h
 | @tup a xs ea =>
  cases (show u=bX a from rx)
  obtain ⟨_,_,_,p⟩:=(show dA X.prog X.w H s.heap a (.tup xs) from I.hok a _ ea)
  obtain ⟨o,h1,h2,_⟩:=p
  exact cL FJ I.kIn ⟨o,h1,h2⟩ e (fun z=>nomatch z) h
 | @dK a kvs ea =>
  cases (show u=bX a from rx)
  obtain ⟨_,_,vs,_,p⟩:=(show dA X.prog X.w H s.heap a (.dK kvs) from I.hok a _ ea)
  obtain ⟨o,es,ep,h1,h2,_⟩:=p
  exact cL Hm I.kIn ⟨o,h1,h2.1⟩ e (fun z=>nomatch z) h
 | @dT a kvs ea =>
  cases (show u=bX a from rx)
  obtain ⟨_,_,xs,_,o,es,ep,h1,h2,_⟩:=(show dA X.prog X.w H s.heap a (.dT kvs) from I.hok a _ ea)
  exact cL Hm I.kIn ⟨o,h1,h2.1⟩ e (fun z=>nomatch z) h
 | @ins a C dx fs ea cl ha hn htk hm =>
  cases (show u=bX a from rx)
  obtain ⟨mA,O,_⟩:=Pa I.hok ea
  obtain ⟨od,J,_⟩:=O.look
  exact cL (PySem.W.kitx_own (cl.get _) cl.hd ha hn htk hm) I.kIn J e (fun z=>nomatch z) h
end
end L2
namespace L2
open PySem PySem.Spec PyProof.Rows
structure lX (k:Nat) (A:bv):Prop where
 hd:A.handled=none
 dp:A.depth + 3 * k + 5<recursionLimit
 un:A.units + 16 * k + 200<kX
theorem lX.mono {j k:Nat}{A:bv} (r:lX k A) (h:j<=k):lX j A:=⟨r.hd,by have:=r.dp;omega,by have:=r.un;omega⟩
theorem lX.deeper {k:Nat}{A:bv} (r:lX (k + 1) A) (env:Env):lX k (A.deeper env) :=
 ⟨r.hd,by have:=r.dp;show A.depth + 1 + 3 * k + 5<_;omega,by have:=r.un;show A.units + 3 + 16 * k + 200<_;omega⟩
theorem lX.depth {k:Nat}{A:bv} (r:lX k A):A.depth<recursionLimit:=by have:=r.dp;omega
theorem lX.units {k:Nat}{A:bv} (r:lX k A):A.units + 64<kX:=by have:=r.un;omega
def Sk:TA:=fun _ H Q=>Q [] H
def Lz (ta:TE) (tr:TA):TA:=fun σ H Q=>ta σ H fun x H1=>tr σ H1 fun xs H2=>Q (x::xs) H2
section
variable {X:Cx}{e:aX}{es:List aX}{te:TE}{t:TA}{pos:Pos}
theorem jW:PA X [] Sk:=fun _ _ _ _ H Q I h=>Calls.spliced_nil ⟨[],H,I,.nil,h⟩
theorem ip (ha:PE X e te) (hr:PA X es t) (hs:aI (e::es) X.env=(false,dE e X.env)::aI es X.env:=by rfl):PA X (e::es) (Lz te t):=by
 intro pos pins s σ H Q I h
 rw [hs]
 show au _ _ (spliced ((false,dE e X.env)::j4 pos (aI es X.env))) _ _ s
 refine Calls.spliced_cons (fk (ha pins s σ H _ I h) fun u s1 ⟨x,H1,I1,r1,q1⟩=>?_)
 exact fk (hr pos pins s1 σ H1 _ I1 q1) fun us s2 h_25=>by obtain ⟨xs,H2,I2,r2,q2⟩:=h_25;exact ⟨x::xs,H2,I2,.cons r1 r2,q2⟩
def We (t:TA):TE:=fun σ H Q=>t σ H fun xs H1=>xs.length<=sizeLine/\∀ p,H1 p=none->Q (.ref p) (upd H1 p (.tup xs))
def Wf (t:TA):TE:=fun σ H Q=>t σ H fun xs H1=>xs.length<=sizeLine/\∀ p,H1 p=none->Q (.ref p) (upd H1 p (.lst xs))
theorem Sm {x1} (h:PA X es t):PE X (.Tuple es x1 pos) (We t):=by
 intro pins s σ H Q I hq
 refine wpAny_Tuple_spliced (fk (h pos pins s σ H _ I hq) fun us s1 ⟨xs,H1,I1,r,z,q⟩=>⟨by rw [<- r.length];exact z,?_⟩)
 have hf:H1 s1.heap.objs.size=none:=I1.hok.fresh (ar _)
 refine ⟨.ref s1.heap.objs.size,upd H1 s1.heap.objs.size (.tup xs),I1.laid (t':=s1.toks) (fun b u e=>af _ e) (ar _) ?_,rfl,q _ hf⟩
 exact ⟨z,us,r,⟨_,ax _ rfl,rfl,_,rfl⟩⟩
theorem sw (h:PA X es t):PE X (.List es pos) (Wf t):=by
 intro pins s σ H Q I hq
 refine wpAny_List_spliced (fk (h pos pins s σ H _ I hq) fun us s1 ⟨xs,H1,I1,r,z,q⟩=>⟨by rw [<- r.length];exact z,?_⟩)
 have hf:H1 s1.heap.objs.size=none:=I1.hok.fresh (ar _)
 refine ⟨.ref s1.heap.objs.size,upd H1 s1.heap.objs.size (.lst xs),I1.laid (t':=s1.toks) (fun b u e=>af _ e) (ar _) ?_,rfl,q _ hf⟩
 exact ⟨z,us,0,r,ax _ rfl⟩
end
abbrev Sp:=List V->Hp->VK->XK->Prop
abbrev KY:=List Env->Hp->ag->XK->ac->ag->Prop
structure Pb (P:aM) (w:ba) (K:a8) (mg:Str->Option ac) (base:bB) (A:bv) (outer:List Env) (s:ag) (H:Hp):Prop where
 frames:A.frames=some outer
 mod:Mod K mg base
 bs:∀ b o,base.get? b=some o->s.heap.get? b=some o/\H b=none
 bsz:base.objs.size<=s.heap.objs.size
 funs:s.heap.FunFrames base outer
 frf:∀ b∈rT outer,H b=none
 hok:pP P w H s.heap
 bare:pS s.gens
inductive CE (outer:List Env) (P:aM) (w:ba) (H:Hp) (s:ag) (Q:VK) (u:ac) (s':ag):Prop
 | mk (v H':_) (h0:s'.os=s.os) (h1:pS s'.gens) (h2:Un (rT outer) [] H H' s.heap s'.heap) (h3:pP P w H' s'.heap) (h4:du v u) (h5:Q v H'):CE outer P w H s Q u s'
def CR (CX:KY) (outer:List Env) (P:aM) (w:ba) (H:Hp) (s:ag) (Q:VK) (E:XK) (r:vb) (s':ag):Prop :=
 match r with
 | .ok (.ret u)=>CE outer P w H s Q u s'
 | .ok _=>False
 | .error e=>CX outer H s E e s'
structure vo (P:aM) (w:ba) (K:a8) (mg:Str->Option ac) (base:bB) (CX:KY) (k:Nat) (f:aj) (fd:fz) (ps:List Str) (sp:Sp):Prop where
 len:∀ vs H Q E,sp vs H Q E->vs.length=ps.length
 run:∀ (A:bv) (outer:List Env) (s:ag) (H:Hp) (args:Args) (us:List ac) (vs:List V) (Q:VK) (E:XK),lX k A->Pb P w K mg base A outer s H->Fu s fd args (ps.zip us)->dJ vs us->sp vs H Q E ->
  iN (aO P w) A (.call (.ref f) args) (CR CX outer P w H s Q E) s
theorem vo.imp {P:aM}{w:ba}{K:a8}{mg:Str->Option ac}{base:bB}{CX:KY}{k:Nat}{f:aj}{fd:fz}{ps:List Str}{sp sp':Sp} (F:vo P w K mg base CX k f fd ps sp)
  (h:∀ vs H Q E,sp' vs H Q E->sp vs H Q E):vo P w K mg base CX k f fd ps sp' :=
 ⟨fun vs H Q E q=>F.len vs H Q E (h _ _ _ _ q),fun A outer s H args us vs Q E hr he hb hv hs=>F.run A outer s H args us vs Q E hr he hb hv (h _ _ _ _ hs)⟩
section
variable {X:Cx}{pins:List (aj×Obj)}{σ:St}{H:Hp}{s s':ag}
theorem bP.env0 (I:bP X pins σ H s):Pb X.prog X.w X.K X.mg X.base X.A X.stack s H :=
 ⟨I.ok.frames,I.ok.mod,I.bs,bZ I.ok.bsz I.sz,I.stack,I.stkFree,I.hok,I.bare⟩
theorem bP.after {Q:VK}{u:ac} (I:bP X pins σ H s) (h:CE X.stack X.prog X.w H s Q u s'):EP X pins σ Q u s':=by
 obtain ⟨v,H',os,bare,un,hok,r,q⟩:=h
 obtain ⟨hh,g,d,t,os'⟩:=s'
 obtain rfl:os'=s.os:=os
 exact ⟨v,H',I.call (h':=hh) (g':=g) (d':=d) (t':=t) (ch:=[]) un hok bare (fun b z=>absurd z (by simp)),r,q⟩
end
def U4 (sp:Sp) (dvs:List V) (E:XK) (t:TA):TE:=fun σ H Q=>t σ H fun vs H1=>sp (vs++dvs) H1 Q E
def nT (K:a8) (fd:fz) (ps:List Str) (ds:List ac):Prop :=
 ∀ (s:ag) (us:List ac),K.In s.heap->(us++ds).length=ps.length->Fu s fd ⟨us,[]⟩ (ps.zip (us++ds))
theorem nT.all {K:a8}{fd:fz}{ps:List Str} (h:∀ us:List ac,us.length=ps.length->bindArgs fd ⟨us,[]⟩=pure (ps.zip us)):nT K fd ps []:=fun s us _ hl=>by
 rw [de] at hl ⊢
 exact .of_eq (h us hl)
def sx (CX:KY) (X:Cx) (E:XK):Prop:=∀ (pins:List (aj×Obj)) (σ:St) (H:Hp) (s:ag) (e:ac) (s':ag),bP X pins σ H s->CX X.stack H s E e s'->X.xe e s'
section
variable {X:Cx}{CX:KY}{k:Nat}{f C:aj}{fd:fz}{ps:List Str}{sp:Sp}{dvs:List V}{ds:List ac}{E:XK}{x m:Str}{p pos apos:Pos}{e o:aX}{es:List aX}{ta:TE}{t:TA}
theorem Sn {pins:List (aj×Obj)}{σ:St}{H:Hp}{s:ag}{Q:VK}{us:List ac}{vs:List V} (F:vo X.prog X.w X.K X.mg X.base CX k f fd ps sp) (hr:lX k X.A) (hb:nT X.K fd ps ds) (hd:dJ dvs ds) (hx:sx CX X E)
  (I:bP X pins σ H s) (r:dJ vs us) (h:sp (vs++dvs) H Q E):au (aO X.prog X.w) X.A (call (.ref f) us) (EP X pins σ Q) X.xe s:=by
 have r2:dJ (vs++dvs) (us++ds):=r.append hd
 have hl:(us++ds).length=ps.length:=by rw [<- r2.length];exact F.len _ _ _ _ h
 refine wpAny_call (sg (F.run X.A X.stack s H ⟨us,[]⟩ (us++ds) (vs++dvs) Q E hr I.env0 (hb s us I.kIn hl) r2 h) fun r s' hq=>?_)
 cases r with
 | error e=>exact hx pins σ H s e s' I hq
 | ok fl =>
  cases fl with
  | ret u=>exact I.after hq
  | next=>exact io hq
  | brk=>exact io hq
  | cont=>exact io hq
theorem Pc (F:vo X.prog X.w X.K X.mg X.base CX k f fd ps sp) (hr:lX k X.A) (hg:Gl X x) (hm:X.mg x=some (.ref f)) (hk:js X.K (.ref f)=true) (hb:nT X.K fd ps ds) (hd:dJ dvs ds) (hx:sx CX X E)
  (ha:PA X (e::es) t) (hdb:(x == ("__debug__" : Str))=false:=by decide) (he:aI (e::es) X.env=(false,dE e X.env)::aI es X.env:=by rfl) (hpl:(j4 pos (aI es X.env)).any (·.1)=false:=by rfl) :
  PE X (.Call (.Name x p) (e::es) [] pos) (U4 sp dvs E t):=by
 intro pins s σ H Q I h
 refine xE (BD I hg hm ?_ hdb)
 refine PySem.W.callWith_K (h₀:=X.base) I.ok.mod.kin hk (fk (ha pos pins s σ H _ I h) fun us s1 ⟨vs,H1,I1,r,q⟩=>⟨I1.kIn,?_⟩) he hpl
 exact Sn F hr hb hd hx I1 r q
end
section
variable {X:Cx}{CX:KY}{k:Nat}{f C:aj}{fd:fz}{ps ks:List Str}{sp:Sp}{E:XK}{x m:Str}{p pos apos kpos:Pos}{e o:aX}{es:List aX}{kws:List zO}{te ta:TE}{t tk:TA}{nm:Option Str}
variable {g:List ac->List ac->List ac}{gV:List V->List V->List V}
end
structure bD (N P:List Str) (sc:eO):Prop where
 kind:sc.kind=.function
 co:sc.isCoroutine=false
 gen:sc.isGenerator=false
 nd:N.Nodup
 pre:N.take P.length=P
 par:∀ x∈P,sc.names.lookup x=some .local\/sc.names.lookup x=some .cell
 nofree:∀ y∈sc.names,y.2≠.free
theorem AG {kindOf:Str->Option jM}{x:Str}:∀ {binds:List (Str×ac)}{m:Str->Option ac},(∀ v,(x,v)∉binds)->KN kindOf binds m x=m x
 | [],_,_=>rfl
 | (n,v)::r,m,h=>by
  unfold KN
  rw [AG fun w hw=>h w (ak _ hw)]
  split
  ·have:x≠n:=by rintro rfl;exact h v am
   simp [this]
  ·rfl
theorem AH {kindOf:Str->Option jM}{x:Str}:∀ {binds:List (Str×ac)}{m:Str->Option ac},(∀ v,(x,v)∉binds)->KO kindOf binds m x=m x
 | [],_,_=>rfl
 | (n,v)::r,m,h=>by
  unfold KO
  rw [AH fun w hw=>h w (ak _ hw)]
  split
  ·rfl
  ·have:x≠n:=by rintro rfl;exact h v am
   simp [this]
theorem AI {kindOf:Str->Option jM}{x:Str}{v:ac}:∀ {P:List Str}{vs:List ac}{i:Nat}{m:Str->Option ac},P.Nodup->P[i]?=some x->vs[i]?=some v->kindOf x=some .local ->
  KN kindOf (P.zip vs) m x=some v
 | [],_,_,_,_,h,_,_=>by simp at h
 | _::_,[],_,_,_,_,h,_=>by simp at h
 | p::P,w::vs,0,m,nd,h1,h2,hk=>by
  simp at h1 h2;subst h1;subst h2
  show KN kindOf ((p,w)::P.zip vs) m p=_
  unfold KN
  rw [AG fun v hv=>(List.nodup_cons.mp nd).1 (zG hv).1,if_pos hk]
  simp
 | p::P,w::vs,i + 1,m,nd,h1,h2,hk=>by
  show KN kindOf ((p,w)::P.zip vs) m x=_
  unfold KN
  exact AI (i:=i) (List.nodup_cons.mp nd).2 (by simpa using h1) (by simpa using h2) hk
theorem AJ {kindOf:Str->Option jM}{x:Str}{v:ac}:∀ {P:List Str}{vs:List ac}{i:Nat}{m:Str->Option ac},P.Nodup->P[i]?=some x->vs[i]?=some v->kindOf x≠some .local ->
  KO kindOf (P.zip vs) m x=some v
 | [],_,_,_,_,h,_,_=>by simp at h
 | _::_,[],_,_,_,_,h,_=>by simp at h
 | p::P,w::vs,0,m,nd,h1,h2,hk=>by
  simp at h1 h2;subst h1;subst h2
  show KO kindOf ((p,w)::P.zip vs) m p=_
  unfold KO
  rw [AH fun v hv=>(List.nodup_cons.mp nd).1 (zG hv).1,if_neg hk]
  simp
 | p::P,w::vs,i + 1,m,nd,h1,h2,hk=>by
  show KO kindOf ((p,w)::P.zip vs) m x=_
  unfold KO
  exact AJ (i:=i) (List.nodup_cons.mp nd).2 (by simpa using h1) (by simpa using h2) hk
def start (N:List Str) (vs:List V):St:=vs.map some++rN (N.length - vs.length) none
def jN (CX:KY) (P:aM) (w:ba) (K:a8) (mg:Str->Option ac) (base:bB) (N:List Str) (qual:Str) (scope:eO) (f:aj) (cd:ac) (A:bv) (outer:List Env) (s:ag) (H:Hp) (E:XK):Cx where
 prog:=P
 w:=w
 K:=K
 mg:=mg
 base:=base
 A:=A.deeper (si qual scope s.heap.objs.size f cd)
 N:=N
 s₀:=s
 H₀:=H
 env:=si qual scope s.heap.objs.size f cd
 outer:=outer
 stack:=si qual scope s.heap.objs.size f cd::outer
 ex:=[]
 calm:=true
 fn:=fun _=>true
 pn:=[]
 xe:=fun e s'=>au (aO P w) (A.deeper (si qual scope s.heap.objs.size f cd)) (leaving (si qual scope s.heap.objs.size f cd) e) (fun _ s''=>CX outer H s E e s'') (fun e' s''=>CX outer H s E e' s'') s'
theorem Dl {sc:eO}{n:Nat}{x:Str} (h:sc.names.lookup x=some .cell):∃ c,(bj n sc.names []).lookup x=some c:=by
 have q:=gH sc.names n [] (.inl h)
 exact Option.isSome_iff_exists.mp q
theorem Jo {CX:KY}{P:aM}{w:ba}{K:a8}{mg:Str->Option ac}{base:bB}{N ps:List Str}{qual:Str}{scope:eO}{f:aj}{cd:ac}{A:bv}{outer:List Env}{s s1:ag}{H:Hp}{E:XK}{us:List ac}{vs:List V}
  (S:bD N ps scope) (hd:A.handled=none) (e0:Pb P w K mg base A outer s H) (hl:vs.length=ps.length) (r:dJ vs us)
  (x:InCallC s s.heap.objs.size (KN (si qual scope s.heap.objs.size f cd).kindOf (ps.zip us) fun _=>none) (bj (s.heap.objs.size + 1) scope.names []) (KO (si qual scope s.heap.objs.size f cd).kindOf (ps.zip us) fun _=>none) s1) :
  bP (jN CX P w K mg base N qual scope f cd A outer s H E) [] (start N vs) H s1:=by
 have hpl:ps.length<=N.length:=by have:=congrArg rO S.pre;rw [xk] at this;omega
 obtain ⟨h1,tk,rfl,hk⟩:=x.done
 have noA:∀ b:aj,b∉(jN CX P w K mg base N qual scope f cd A outer s H E).ex:=fun b z=>absurd (show b∈([] : List aj) from z) (by simp)
 refine ⟨⟨e0.mod,S.kind,rfl,rfl,ar _,fun y z c h1 h2=>?_,fun y hy=>?_,fun y c _ h=>?_,fun _=>hd,Around.frames_deeper e0.frames,.inr ⟨rfl,rfl⟩,fun b z=>absurd z (noA b),e0.bs,e0.bsz,fun b _ _=>noA b,fun b z=>absurd z (noA b),e0.funs,e0.frf⟩,
  rfl,e0.bare,Un.kept hk,⟨_,x.toInCall.ns,fun i y v h1 h2 h3=>?_⟩,fun y c h=>⟨_,x.cell y c h⟩,e0.hok.fresh (ar _),fun y c h=>?_,fun p hp=>absurd (show p∈([] : List (aj×Obj)) from hp) (by simp),e0.hok.kept hk,?_⟩
 ·exact name_of_addr x.apart (dz h1) (dz h2)
 ·have hy:scope.names.lookup y=some .cell\/scope.names.lookup y=some .free:=hy
  rcases hy with hy | hy
  ·exact Dl hy
  ·exact absurd rfl (S.nofree _ (dz hy))
 ·exact cr (x.above y c (dz h))
 ·have hi:i<vs.length:=by
   unfold start at h2
   by_cases hi:i<vs.length
   ·exact hi
   ·rw [bf (by simpa using hi)] at h2
    rw [cg] at h2
    split at h2<;>cases h2
  have ha:vs[i]?=some v:=by
   unfold start at h2
   rw [bc (by simpa using hi),aZ] at h2
   cases e:vs[i]? with
   | none=>rw [e] at h2;cases h2
   | some a=>rw [e] at h2;cases h2;rfl
  obtain ⟨u,hu,rv⟩:=r.get ha
  have hp:ps[i]?=some y:=by
   rw [<- S.pre,List.getElem?_take_of_lt (by omega)];exact h1
  have ndP:ps.Nodup:=by rw [<- S.pre];exact S.nd.sublist (List.take_sublist _ _)
  refine ⟨u,rv,?_⟩
  rcases S.par y (cm hp) with k | k
  ·exact .inl ⟨k,AI ndP hp hu k⟩
  ·obtain ⟨c,e⟩:=Dl (n:=s.heap.objs.size + 1) k
   refine .inr ⟨.inl k,c,e,?_⟩
   have q:=x.cell y c e
   rw [AJ ndP hp hu (by show scope.names.lookup y≠_;rw [k];decide)] at q
   exact q
 ·exact e0.hok.fresh (cr (x.above y c (dz h)))
 ·unfold start
  show _=N.length
  rw [aG,ao,cV]
  omega
theorem U5 {CX:KY}{P:aM}{w:ba}{K:a8}{mg:Str->Option ac}{base:bB}{k:Nat}{f:aj}{name qual:Str}{params:Arguments}{body:List cA}{scope:eO}{dV kV doc pm cdv ct oc:ac}{an od:Option aj}
  {osl:Array (Option ac)}{N ps:List Str}{sp:Sp} (lk:K.lookup f=some ⟨oc,od,.func (fJ name qual params body scope dV kV doc pm an cdv ct),osl⟩) (hcd:lT K cdv qual=true) (S:bD N ps scope)
  (len:∀ vs H Q E,sp vs H Q E->vs.length=ps.length)
  (hbody:∀ (A:bv) (outer:List Env) (s:ag) (H:Hp) (vs:List V) (Q:VK) (E:XK),lX k (A.deeper (si qual scope s.heap.objs.size f cdv))->sp vs H Q E ->
   ∃ t,Hu (jN CX P w K mg base N qual scope f cdv A outer s H E) body t/\t { nx:=fun _ H'=>Q .non H',rt:=Q } (start N vs) H) :
  vo P w K mg base CX (k + 1) f (fJ name qual params body scope dV kV doc pm an cdv ct) ps sp:=by
 refine ⟨len,fun A outer s H args us vs Q E hr e0 hb r hsp=>?_⟩
 have hl:=len _ _ _ _ hsp
 have KX:K.In s.heap:=e0.mod.kin.keeps fun b o e=>(e0.bs b o e).1
 have lim:s.heap.NoLimit:=e0.mod.nolimit.keeps fun b o e=>(e0.bs b o e).1
 have hkind:∀ y∈ps.zip us,scope.names.lookup y.1=some .local\/(scope.names.lookup y.1=some .cell/\((bj (s.heap.objs.size + 1) scope.names []).lookup y.1).isSome=true):=fun ⟨n,v⟩ hy=>by
  rcases S.par n (zG hy).1 with q | q
  ·exact .inl q
  ·exact .inr ⟨q,gH _ _ _ (.inl q)⟩
 refine codeAny_call_function hr.depth (KX _ _ lk) rfl S.co S.gen rfl (PySem.W.codeRec_of KX hcd) (hb _ _ _ _ ?_)
 refine wpAny_newFunctionEnv_cells S.kind hkind fun env he s1 x=>?_
 subst he
 refine ⟨lim.keeps x.toInCall.keep,codeAny_func ?_⟩
 obtain ⟨t,ht,hq⟩:=hbody A outer s H vs Q E (hr.deeper _) hsp
 have I:bP (jN CX P w K mg base N qual scope f cdv A outer s H E) [] (start N vs) H s1:=Jo S hr.hd e0 hl r x
 refine bQ (ht [] s1 (start N vs) H _ I hq) (fun fl s' hs=>?_) fun e s' hs=>hs
 have fin:∀ {σ':St}{H':Hp}{v:V}{u:ac},bP (jN CX P w K mg base N qual scope f cdv A outer s H E) [] σ' H' s'->du v u->Q v H'->CE outer P w H s Q u s' :=
  fun {σ' H' v u} J rv q=>⟨v,H',J.os,J.bare,J.base,J.hok,rv,q⟩
 cases fl with
 | ret u =>
  obtain ⟨v,σ',H',J,rv,q⟩:=hs
  exact fin J rv q
 | next =>
  obtain ⟨σ',H',J,q⟩:=hs
  exact fin (v:=V.non) (u:=dW) J rfl q
 | brk =>
  obtain ⟨_,_,_,q⟩:=hs
  exact io q
 | cont =>
  obtain ⟨_,_,_,q⟩:=hs
  exact io q
end L2
namespace L2
open PySem PySem.Spec PyProof.Rows
section
variable {X:Cx}{x:Str}{p pos:Pos}{e:aX}{es:List aX}{t:TA}{id T:String}{r:List V->Hp->VK->Prop}
def U6 (r:List V->Hp->VK->Prop) (t:TA):TE:=fun σ H Q=>t σ H fun vs H1=>r vs H1 Q
theorem ua (hc:jR X (.builtin id) r) (hg:Gl X x) (hm:X.mg x=none) (hv:i9 x=some (.builtin id)) (ha:PA X (e::es) t) (hn:x≠"__name__":=by decide) (hdb:(x == ("__debug__" : Str))=false:=by decide)
  (he:aI (e::es) X.env=(false,dE e X.env)::aI es X.env:=by rfl) (hpl:(j4 pos (aI es X.env)).any (·.1)=false:=by rfl):PE X (.Call (.Name x p) (e::es) [] pos) (U6 r t):=by
 intro pins s σ H Q I h
 refine xE (oA I hg hm hv ?_ hn hdb)
 exact PyProof.Rows.callWith_builtin1 (fk (ha pos pins s σ H _ I h) fun us s1 h_27=>by obtain ⟨vs,H1,I1,r1,q1⟩:=h_27;exact hc pins s1 σ H1 vs us Q I1 r1 q1) he hpl
theorem AK (hc:jR X (.type T) r) (hg:Gl X x) (hm:X.mg x=none) (hv:i9 x=some (.type T)) (ha:PA X (e::es) t) (hn:x≠"__name__":=by decide) (hdb:(x == ("__debug__" : Str))=false:=by decide)
  (he:aI (e::es) X.env=(false,dE e X.env)::aI es X.env:=by rfl) (hpl:(j4 pos (aI es X.env)).any (·.1)=false:=by rfl):PE X (.Call (.Name x p) (e::es) [] pos) (U6 r t):=by
 intro pins s σ H Q I h
 refine xE (oA I hg hm hv ?_ hn hdb)
 exact cM (fk (ha pos pins s σ H _ I h) fun us s1 h_28=>by obtain ⟨vs,H1,I1,r1,q1⟩:=h_28;exact hc pins s1 σ H1 vs us Q I1 r1 q1) he hpl
end
end L2
namespace HT
open PySem PyProof.Rows
section
open PySem.SeqAt
open PySem.AutoSeq1 (wpAny_loadPart')
open PySem.MeetsSeq PySem.MeetsSeq2 PySem.MeetsSeq3
end
section
variable {prog:aM}{w:ba}{A:bv}{E:ac->ag->Prop}{s:ag}
theorem Pd {t b:aj}{vs ws:List ac}{Q:ac->ag->Prop} (ht:KH s.heap t vs.toArray) (hb:KH s.heap b ws.toArray) (hv:vs≠[])
  (h1:ws=[]->Q (.ref t) s) (h2:ws≠[]->Q (.ref s.heap.objs.size) { s with heap:=s.heap.push { cls:=.type "tuple",data:=.seq (vs++ws).toArray } })
  (hsz:vs.length + ws.length<=sizeLine):au (aO prog w) A (eP .Add (.ref t) (.ref b)) Q E s:=by
 obtain ⟨⟨cls,dd,data,sl⟩,ho,hc,n,hd⟩:=id ht
 obtain ⟨⟨cls2,dd2,data2,sl2⟩,ho2,hc2,n2,hd2⟩:=id hb
 simp only at hc hd hc2 hd2
 subst hc hd hc2 hd2
 have e:vs.toArray++ws.toArray=(vs++ws).toArray:=by simp
 by_cases hw:ws=[]
 ·exact zP ⟨_,ho,rfl⟩ ⟨_,ho2,rfl⟩ Bx J5 oy nP (nw _ _)
   (tuple_addW1 t b vs.toArray ws.toArray n n2 dd dd2 sl sl2 (by simpa using hv) (by simp [hw])) ⟨ho,ho2,h1 hw⟩
 ·refine zP ⟨_,ho,rfl⟩ ⟨_,ho2,rfl⟩ Bx J5 oy nP (nw _ _)
   (tuple_addW2 t b vs.toArray ws.toArray n n2 dd dd2 sl sl2 (by simpa using hv) (by simpa using hw) (by rw [aP,aP];exact hsz)) ⟨ho,ho2,?_⟩
  rw [e]
  exact h2 hw
def iH (n d:Nat):Option Int->Nat
 | none=>d
 | some v=>if v<0 then (v + (n:Int)).toNat else min v.toNat n
theorem Dm (n d:Nat):iH n d none=d:=rfl
theorem Hv (n d k:Nat):iH n d (some (k:Int))=min k n:=by
 show (if (k:Int)<0 then ((k:Int) + (n:Int)).toNat else min (k:Int).toNat n)=min k n
 rw [if_neg (by omega),jS]
theorem So (n d:Nat) (hd:d<=n) (o:Option Int):iH n d o<=n:=by
 cases o with
 | none=>exact hd
 | some v =>
  show (if v<0 then (v + (n:Int)).toNat else min v.toNat n)<=n
  by_cases hv:v<0
  ·rw [if_pos hv];omega
  ·rw [if_neg hv];exact pM _ _
theorem Hw (v:Int) (n d:Nat):(if v<0 then max (v + (n:Int)) 0 else min v (n:Int))=((iH n d (some v):Nat):Int):=by
 show (if v<0 then max (v + (n:Int)) 0 else min v (n:Int))=(((if v<0 then (v + (n:Int)).toNat else min v.toNat n):Nat):Int)
 by_cases hv:v<0
 ·simp only [if_pos hv];omega
 ·simp only [if_neg hv];omega
theorem G8 (lo hi:Option Int) (n:Nat):kY lo hi 1 (n:Int)=(((iH n 0 lo:Nat):Int),((iH n n hi:Nat):Int)):=by
 have h1:¬ ((1:Int)<0):=by omega
 unfold kY
 simp only [h1,if_false]
 refine Prod.ext ?_ ?_
 ·cases lo with
  | none=>rfl
  | some v=>exact Hw v n 0
 ·cases hi with
  | none=>rfl
  | some v=>exact Hw v n n
theorem G9 (i j:Nat):hJ (i:Int) (j:Int) 1=j - i:=by
 unfold hJ
 have h1:(1:Int) > 0:=by omega
 simp only [h1,if_true,Int.ediv_one]
 split<;>omega
theorem xN {v:ac}{o:Option Int}{Q:Option Int->ag->Prop} (p:vc v o) (h:Q o s):au (aO prog w) A (Builtin.Slice.slicePartIndex v) Q E s:=by
 cases p with
 | none=>exact slicePart_none h
 | int i t=>exact slicePart_int h
theorem nU {sl:aj}{vl vu:ac}{lo hi:Option Int}{n:Nat}{Q:Int×Int×Nat->ag->Prop} (hs:s.heap.IsSliceOf sl vl vu .none) (pl:vc vl lo) (pu:vc vu hi)
  (h:Q (((iH n 0 lo:Nat):Int),1,iH n n hi - iH n 0 lo) s):au (aO prog w) A (tY (.ref sl) (pure (n:Int))) Q E s:=by
 obtain ⟨os,hos,hcs,hds⟩:=id hs
 unfold tY Builtin.Slice.sliceFields
 refine a7 (a7 (dM hos hds (x:=vl) rfl (a7 (dM hos hds (x:=vu) rfl (a7 (dM hos hds (x:=.none) rfl (ae ?_)))))))
 refine a7 (slicePart_none ?_)
 show au _ _ (if ((1:Int) == 0)=true then _ else _) _ _ s
 rw [if_neg (by decide)]
 refine a7 (xN pl (a7 (xN pu (a7 (ae ?_)))))
 show au _ _ (match kY lo hi 1 (n:Int) with | (lo,hi)=>pure (lo,(1:Int),hJ lo hi 1)) _ _ s
 rw [G8 lo hi n]
 show au _ _ (pure (((iH n 0 lo:Nat):Int),(1:Int),hJ ((iH n 0 lo:Nat):Int) ((iH n n hi:Nat):Int) 1)) _ _ s
 rw [G9]
 exact ae h
theorem LA (xs:Array ac) (i k:Nat):((bx k).filterMap fun (m:Nat)=>xs[((i:Int) + (m:Int) * 1).toNat]?).toArray=((xs.toList.drop i).take k).toArray:=by
 have e:(fun (m:Nat)=>xs[((i:Int) + (m:Int) * 1).toNat]?)=fun m=>xs[i + m]?:=by
  funext m
  have:((i:Int) + (m:Int) * 1).toNat=i + m:=by omega
  rw [this]
 rw [e]
 have:=pick_run xs i k
 rw [mI] at this
 have e2:((fun x=>xs[x]?)∘fun x=>i + x)=fun m=>xs[i + m]?:=rfl
 rw [e2] at this
 rw [this]
theorem ub {t sl:aj}{items:Array ac}{vl vu:ac}{lo hi:Option Int}{Q:ac->ag->Prop} (ht:KH s.heap t items) (hs:s.heap.IsSliceOf sl vl vu .none) (pl:vc vl lo) (pu:vc vu hi)
  (hw:¬ (iH items.size 0 lo=0/\iH items.size items.size hi=items.size))
  (h:Q (.ref s.heap.objs.size) { s with heap:=s.heap.push { cls:=.type "tuple",data:=.seq ((items.toList.drop (iH items.size 0 lo)).take (iH items.size items.size hi - iH items.size 0 lo)).toArray } })
  (hsz:items.size<=sizeLine):au (aO prog w) A (pT (.ref t) (.ref sl)) Q E s:=by
 have htake:sizeOk (.seq ((items.toList.drop (iH items.size 0 lo)).take (iH items.size items.size hi - iH items.size 0 lo)).toArray):=by
  show ((items.toList.drop (iH items.size 0 lo)).take (iH items.size items.size hi - iH items.size 0 lo)).toArray.size<=sizeLine
  rw [aP,xk,iO,av]
  omega
 have hj:iH items.size items.size hi<=items.size:=So _ _ (ar _) hi
 obtain ⟨os,hos,hcs,hds⟩:=id hs
 have hTs:s.TypeIs (.ref sl) "slice":=⟨os,hos,hcs⟩
 unfold pT
 try with_reducible refine cX ?_
 first | refine a7 (ae ?_) | skip
 refine a7 (wpAny_sequenceKey ht.typeIs (by decide) ?_)
 refine a7 (cj (name:=fZ "__getitem__") ht.typeIs fD
  (c6 fD ht.typeIs entry_tuple_getitem ?_ (args_tuple_getitem _ _)))
 show au _ _ (tZ (.ref t) >>= _) _ _ s
 refine a7 (tupleItemsOf_ ht ?_)
 refine a7 (kZ hTs ?_)
 rw [if_pos (by decide)]
 refine a7 (nU hs pl pu ?_)
 have hno:¬ ((((iH items.size 0 lo:Nat):Int) == 0 && (1:Int) == 1 && (iH items.size items.size hi - iH items.size 0 lo) == items.size)=true):=by
  intro q
  rw [aQ,aQ] at q
  have q1:((iH items.size 0 lo:Nat):Int)=0:=eq_of_beq q.1.1
  have q2:iH items.size items.size hi - iH items.size 0 lo=items.size:=eq_of_beq q.2
  exact hw ⟨by omega,by omega⟩
 show au _ _ (if (((iH items.size 0 lo:Nat):Int) == 0 && (1:Int) == 1 && (iH items.size items.size hi - iH items.size 0 lo) == items.size)=true then _ else _) _ _ s
 rw [if_neg hno,LA]
 first
  | exact a7 (m:=ib _) (bS (ae ⟨_,rfl,ae h⟩) htake)
  | exact a7 (m:=ib _) (bS (a7 (ae (ae ⟨_,rfl,ae h⟩))) htake)
  | exact a7 (a7 (m:=ib _) (bS (ae (ae ⟨_,rfl,ae h⟩)) htake))
  | exact a7 (a7 (m:=ib _) (bS (ae ⟨_,rfl,ae h⟩) htake))
end
end HT
namespace L2
open PySem PySem.Spec PyProof.Rows
abbrev TO:=St->Hp->(Option Int->Hp->Prop)->Prop
def PO (X:Cx) (e:Option aX) (t:TO):Prop :=
 ∀ (pins:List (aj×Obj)) (s:ag) (σ:St) (H:Hp) (Q:Option Int->Hp->Prop),bP X pins σ H s->t σ H Q ->
  au (aO X.prog X.w) X.A (evalPart e X.env) (fun u s'=>∃ o H',bP X pins σ H' s'/\vc u o/\Q o H') X.xe s
def Pe:TO:=fun _ H Q=>Q none H
def U7 (t:TE):TO:=fun σ H Q=>t σ H fun x H1=>∃ i,x=.int i/\Q (some i) H1
section
variable {X:Cx}{e:aX}{te:TE}{lo hi:Option aX}{tl th:TO}{pos p2:Pos}
theorem Pf:PO X none Pe:=by
 intro pins s σ H Q I h
 rw [evalPart_none]
 exact ae ⟨none,H,I,.none,h⟩
theorem Pg (h:PE X e te):PO X (some e) (U7 te):=by
 intro pins s σ H Q I hw
 rw [evalPart_some]
 refine fk (h pins s σ H _ I hw) fun u s1 h_29=>?_
 obtain ⟨x,H1,I1,r1,q1⟩:=h_29
 obtain ⟨i,rfl,q⟩:=q1
 obtain ⟨t,rfl⟩:=r1
 exact ⟨some i,H1,I1,.int i t,q⟩
def U8 (X:Cx) (r:V->Option Int->Option Int->Hp->VK->Prop):Prop :=
 ∀ (pins:List (aj×Obj)) (s:ag) (σ:St) (H:Hp) (x:V) (v vl vu:ac) (lo hi:Option Int) (sl:aj) (Q:VK),bP X pins σ H s->du x v->s.heap.IsSliceOf sl vl vu .none->vc vl lo->vc vu hi->r x lo hi H Q ->
  ∃ T id,FK (.type T) "__getitem__"=pure (some (.builtin id))/\s.TypeIs v T/\au (aO X.prog X.w) X.A (pT v (.ref sl)) (EP X pins σ Q) X.xe s
def Xx (r:V->Option Int->Option Int->Hp->VK->Prop) (te:TE) (tl th:TO):TE:=fun σ H Q=>te σ H fun x H1=>tl σ H1 fun l H2=>th σ H2 fun u H3=>r x l u H3 Q
theorem LB {r:V->Option Int->Option Int->Hp->VK->Prop} (hr:U8 X r) (he:PE X e te) (hl:PO X lo tl) (hu:PO X hi th):PE X (.Subscript e (.Slice lo hi none p2) pos) (Xx r te tl th):=by
 intro pins s σ H Q I h
 refine Subscript_ (fk (he pins s σ H _ I h) fun v s1 ⟨x,H1,I1,r1,q1⟩=>?_)
 refine wpAny_Slice (fk (hl pins s1 σ H1 _ I1 q1) fun vl s2 ⟨l,H2,I2,pl,q2⟩=>fk (hu pins s2 σ H2 _ I2 q2) fun vu s3 ⟨u,H3,I3,pu,q3⟩=>?_)
 rw [evalPart_none]
 refine ae ?_
 have I4:bP X pins σ H3 { s3 with heap:=s3.heap.push { cls:=.type "slice",data:=.fields #[vl,vu,.none] } }:=I3.kept (t':=s3.toks) fun b ob q=>af _ q
 obtain ⟨T,id,hT,ht,hg⟩:=hr pins { s3 with heap:=s3.heap.push { cls:=.type "slice",data:=.fields #[vl,vu,.none] } } σ H3 x v vl vu l u s3.heap.objs.size Q I4 r1 (Heap.IsSliceOf.new ..) pl pu q3
 show au (aO X.prog X.w) X.A (J6 e (.Slice lo hi none p2) v (.ref s3.heap.objs.size)) (EP X pins σ Q) X.xe { s3 with heap:=s3.heap.push { cls:=.type "slice",data:=.fields #[vl,vu,.none] } }
 exact tail_any (ops:=[.ref s3.heap.objs.size,v]) ht hT hg (by with_unfolding_all rfl)
def Dn (xs:List V) (lo hi:Option Int):List V:=(xs.drop (HT.iH xs.length 0 lo)).take (HT.iH xs.length xs.length hi - HT.iH xs.length 0 lo)
theorem wx (xs:List V) (lo hi:Option Int):(Dn xs lo hi).length<=xs.length:=by
 unfold Dn
 rw [xk,iO]
 omega
def Wg (K:a8):V->Option Int->Option Int->Hp->VK->Prop:=fun x lo hi H Q=>∃ a xs,x=.ref a/\kK K H a xs /\
 ¬ (HT.iH xs.length 0 lo=0/\HT.iH xs.length xs.length hi=xs.length)/\∀ p,H p=none->Q (.ref p) (upd H p (.tup (Dn xs lo hi)))
theorem Sq:U8 X (Wg X.K):=by
 intro pins s σ H x v vl vu lo hi sl Q I rx hs pl pu h
 obtain ⟨a,xs,rfl,hx,hw,q⟩:=h
 cases rx
 obtain ⟨its,r,ht,hz⟩:=I.tuple hx
 have hlen:its.toArray.size=xs.length:=by rw [aP];exact r.length.symm
 refine ⟨"tuple",_,PyProof.Rows.slot_tuple_getitem.lookup,ht.typeIs,?_⟩
 refine HT.ub ht hs pl pu (by rw [hlen];exact hw) ?_ (by rw [hlen];exact hz)
 rw [hlen]
 refine ⟨.ref s.heap.objs.size,_,I.laid (t':=s.toks) (o:=.tup (Dn xs lo hi)) (fun b ob q=>af _ q) (ar _) ?_,rfl,q _ (I.hok.fresh (ar _))⟩
 exact ⟨bZ (wx xs lo hi) hz,_,(r.drop (HT.iH xs.length 0 lo)).take (HT.iH xs.length xs.length hi - HT.iH xs.length 0 lo),wM _ _⟩
inductive LC (K:a8) (x:V) (y:V) (H:Hp) (Q:VK):Prop
 | mk (a b xs ys:_) (h0:x=.ref a) (h1:y=.ref b) (h2:kK K H a xs) (h3:kK K H b ys) (h4:xs≠[]) (h5:xs.length + ys.length<=sizeLine) (h6:(ys=[]->Q (.ref a) H)) (h7:(ys≠[]->∀ p,H p=none->Q (.ref p) (upd H p (.tup (xs++ys))))):LC K x y H Q
def U9 (K:a8):R2:=LC K
theorem dJ.nil_iff {xs:List V}{us:List ac} (r:dJ xs us):us=[]↔xs=[]:=by
 cases r with
 | nil=>simp
 | cons _ _=>simp
theorem Ph:oB X (eP .Add) (U9 X.K):=by
 intro pins s σ H x y v u Q I rx ry h
 obtain ⟨a,b,xs,ys,rfl,rfl,ha,hb,hx,hz,q1,q2⟩:=h
 cases rx
 cases ry
 obtain ⟨its,r1,p1,_⟩:=I.tuple ha
 obtain ⟨its2,r2,p2,_⟩:=I.tuple hb
 refine HT.Pd p1 p2 (fun z=>hx (r1.nil_iff.mp z)) (fun z=>⟨.ref a,H,I,rfl,q1 (r2.nil_iff.mp z)⟩) (fun z=>?_) (by rw [<- r1.length,<- r2.length];exact hz)
 refine ⟨.ref s.heap.objs.size,_,I.laid (t':=s.toks) (o:=.tup (xs++ys)) (fun b ob q=>af _ q) (ar _) ?_,rfl,q2 (fun w=>z (r2.nil_iff.mpr w)) _ (I.hok.fresh (ar _))⟩
 exact ⟨by rw [aG];exact hz,_,r1.append r2,wM _ _⟩
end
end L2
namespace L2
open PySem PySem.Spec PyProof.Rows
def QM (n:Nat) (i:Int):Option Nat:=if 0<=i then (if i<n then some i.toNat else none) else if -(n:Int)<=i then some (i + n).toNat else none
def Do {α:Type} (xs:List α) (i:Int):Option α:=(QM xs.length i).bind fun j=>xs[j]?
theorem Pi {n:Nat}{i:Int}{j:Nat} (h:QM n i=some j):seqIndex? i n=some j/\j<n/\-(n:Int)<=i/\i<n:=by
 unfold QM at h
 by_cases h0:0<=i
 ·rw [if_pos h0] at h
  by_cases h1:i<n
  ·rw [if_pos h1] at h
   have e:i.toNat=j:=bG h
   exact ⟨by rw [seqIndex_of h0 h1,e],by omega,by omega,h1⟩
  ·rw [if_neg h1] at h;cases h
 ·rw [if_neg h0] at h
  by_cases h1:-(n:Int)<=i
  ·rw [if_pos h1] at h
   have e:(i + n).toNat=j:=bG h
   exact ⟨by rw [seqIndex_neg (by omega) h1,e],by omega,h1,by omega⟩
  ·rw [if_neg h1] at h;cases h
theorem BH {α:Type}{xs:List α}{i:Int}{v:α} (h:Do xs i=some v):∃ j,seqIndex? i xs.length=some j/\xs[j]?=some v/\j<xs.length/\-(xs.length:Int)<=i/\i<xs.length:=by
 unfold Do at h
 cases e:QM xs.length i with
 | none=>rw [e] at h;cases h
 | some j =>
  rw [e] at h
  obtain ⟨h1,h2,h3,h4⟩:=Pi e
  exact ⟨j,h1,h,h2,h3,h4⟩
theorem uc {α:Type}{xs:List α}{j:Nat}{v:α} (h:xs[j]?=some v):Do xs (j:Int)=some v:=by
 have hj:j<xs.length:=(List.getElem?_eq_some_iff.mp h).1
 have e:QM xs.length (j:Int)=some j:=by
  unfold QM
  rw [if_pos (by omega),if_pos (by omega)];simp
 unfold Do;rw [e];exact h
def ud (b:aX):Prop:=∀ o i,D8 b false o i=operate [o,i] (pT o i)
def Ua (X:Cx) (r:R2):Prop :=
 ∀ (value slice:aX) (pins:List (aj×Obj)) (s:ag) (σ:St) (H:Hp) (x y:V) (v u:ac) (Q:VK),bP X pins σ H s->du x v->du y u->r x y H Q ->
  D8 slice false v u=operate [v,u] (pT v u)->au (aO X.prog X.w) X.A (J6 value slice v u) (EP X pins σ Q) X.xe s
def Xy (X:Cx) (id:String) (r:V->List V->Hp->VK->Prop):Prop :=
 ∀ (pins:List (aj×Obj)) (s:ag) (σ:St) (H:Hp) (x:V) (xs:List V) (v:ac) (us:List ac) (Q:VK),bP X pins σ H s->du x v->dJ xs us->r x xs H Q ->
  au (aO X.prog X.w) X.A (call (.builtin id) (v::us)) (EP X pins σ Q) X.xe s
section
variable {X:Cx}{a b:aX}{ta tb:TE}{pos:Pos}
theorem QN {r:R2} (hr:Ua X r) (ha:PE X a ta) (hb:PE X b tb) (hs:ud b):PE X (.Subscript a b pos) (TX r ta tb):=by
 intro pins s σ H Q I h
 exact Subscript_ (S7 ha hb I h fun v u s2 x y H2 I2 rx ry q=>hr a b pins s2 σ H2 x y v u Q I2 rx ry q (hs _ _))
inductive QO (K:a8) (x:V) (y:V) (H:Hp) (Q:VK):Prop
 | mk (p xs i v:_) (h0:x=.ref p) (h1:y=.int i) (h2:lW K H p xs) (h3:Do xs i=some v) (h4:Q v H):QO K x y H Q
def Wh (K:a8):R2:=QO K
inductive QP (K:a8) (x:V) (y:V) (H:Hp) (Q:VK):Prop
 | mk (p xs i v:_) (h0:x=.ref p) (h1:y=.int i) (h2:kK K H p xs) (h3:Do xs i=some v) (h4:Q v H):QP K x y H Q
def Wi (K:a8):R2:=QP K
inductive QQ (x:V) (y:V) (H:Hp) (Q:VK):Prop
 | mk (z i c:_) (h0:x=.str z) (h1:y=.int i) (h2:z.length<=sizeLine) (h3:Do z.cps.toList i=some c) (h4:Q (.str ⟨#[c]⟩) H):QQ  x y H Q
def Wj:R2:=QQ
theorem oC:Ua X (Wh X.K):=by
 intro value slice pins s σ H x y v u Q I rx ry h hs
 obtain ⟨p,xs,i,z,rfl,rfl,hq,he,q⟩:=h
 cases rx
 obtain ⟨t,rfl⟩:=ry
 obtain ⟨its,r,pl,hz⟩:=I.list hq
 obtain ⟨j,h1,h2,h3,h4,h5⟩:=BH he
 obtain ⟨w,ew,rw'⟩:=r.get h2
 have hl:=r.length
 have hn:=vn
 have fin:EP X pins σ Q w s:=⟨z,H,I,rw',q⟩
 by_cases h0:0<=i
 ·have hj:i.toNat=j:=by
   rw [seqIndex_of h0 h5] at h1
   exact bG h1
  exact item_listR pl.isList h0 (by omega) (by rw [hj];simpa using ew) fin hs
 ·have hj:(i + (its.toArray.size:Int)).toNat=j:=by
   rw [seqIndex_neg (by omega) h4] at h1
   rw [aP,<- hl]
   exact bG h1
  exact L7 (x:=w) pl.isList.typeIs slot_list_getitem.lookup
   (wpAny_getItem_list_neg (Q:=fun r s'=>r=w/\EP X pins σ Q r s') pl.isList (by omega) (by rw [aP]<;>omega) (by omega) (by rw [hj];simpa using ew) ⟨rfl,fin⟩) hs
theorem Sr:Ua X (Wi X.K):=by
 intro value slice pins s σ H x y v u Q I rx ry h hs
 obtain ⟨p,xs,i,z,rfl,rfl,hq,he,q⟩:=h
 cases rx
 obtain ⟨t,rfl⟩:=ry
 obtain ⟨its,r,pl,hz⟩:=I.tuple hq
 obtain ⟨j,h1,h2,h3,h4,h5⟩:=BH he
 obtain ⟨w,ew,rw'⟩:=r.get h2
 have hl:=r.length
 have hn:=vn
 have fin:EP X pins σ Q w s:=⟨z,H,I,rw',q⟩
 exact L7 (x:=w) pl.typeIs slot_tuple_getitem.lookup
  (getItem_tuple (j:=j) (Q:=fun r s'=>r=w/\EP X pins σ Q r s') pl (by omega) (by omega) (by rw [aP,<- hl];exact h1) (by simpa using ew) ⟨rfl,fin⟩) hs
theorem Ss:Ua X Wj:=by
 intro value slice pins s σ H x y v u Q I rx ry h hs
 obtain ⟨z,i,c,rfl,rfl,hz,he,q⟩:=h
 obtain ⟨t,rfl⟩:=rx
 obtain ⟨t',rfl⟩:=ry
 obtain ⟨j,h1,h2,h3,h4,h5⟩:=BH he
 have hl:z.cps.toList.length=z.length:=by simp [Str.length]
 rw [hl] at h1 h4 h5
 have hn:=vn
 exact tail_any (typeIs_str s z t) slot_str_getitem.lookup (getItem_str (c:=c) (by
  have e1:decide (i < -(2 ^ 63:Int))=false:=decide_eq_false (by omega)
  have e2:decide (i ≥ 2 ^ 63)=false:=decide_eq_false (by omega)
  rw [e1,e2,Bool.or_false]) (by rw [h1];simpa using h2) ⟨.str ⟨#[c]⟩,H,I.tok _,⟨_,rfl⟩,q⟩) hs
theorem BI (lo hi:Option Int) (n:Nat):(mE lo hi none n).1=((HT.iH n 0 lo:Nat):Int)/\(mE lo hi none n).2.1=((HT.iH n n hi:Nat):Int)/\(mE lo hi none n).2.2=1:=by
 refine ⟨?_,?_,rfl⟩
 ·cases lo with
  | none=>simp [mE,HT.iH]
  | some i =>
   simp only [mE,HT.iH,gq,show (1:Int) > 0 by decide,if_true]
   by_cases h:i<0
   ·simp only [h,if_true]<;>omega
   ·simp only [h,if_false]<;>omega
 ·cases hi with
  | none=>simp [mE,HT.iH]
  | some i =>
   simp only [mE,HT.iH,gq,show (1:Int) > 0 by decide,if_true]
   by_cases h:i<0
   ·simp only [h,if_true]<;>omega
   ·simp only [h,if_false]<;>omega
theorem zZ (its:List ac) (lo hi:Option Int):slicePick its.toArray lo hi none=((its.drop (HT.iH its.length 0 lo)).take (HT.iH its.length its.length hi - HT.iH its.length 0 lo)).toArray:=by
 obtain ⟨h1,h2,h3⟩:=BI lo hi its.toArray.size
 unfold slicePick
 rw [h1,h2,h3]
 simp only [sliceRange_one,pick_run,aP]<;>rfl
def Wk (K:a8):V->Option Int->Option Int->Hp->VK->Prop:=fun x lo hi H Q=>∃ a xs,x=.ref a/\lW K H a xs/\∀ p,H p=none->Q (.ref p) (upd H p (.lst (Dn xs lo hi)))
theorem Pj:U8 X (Wk X.K):=by
 intro pins s σ H x v vl vu lo hi sl Q I rx hs pl pu h
 obtain ⟨a,xs,rfl,hx,q⟩:=h
 cases rx
 obtain ⟨its,r,ht,hz⟩:=I.list hx
 have hlen:=r.length
 refine ⟨"list",_,slot_list_getitem.lookup,ht.isList.typeIs,?_⟩
 refine wpAny_getItem_list_slice ht.isList hs pl pu .none (by simp) ?_ (by rw [aP]<;>omega)
 rw [zZ,<- hlen]
 refine ⟨.ref s.heap.objs.size,_,I.laid (t':=s.toks) (o:=.lst (Dn xs lo hi)) (fun b ob q=>af _ q) (ar _) ?_,rfl,q _ (I.hok.fresh (ar _))⟩
 exact ⟨bZ (wx xs lo hi) hz,_,0,(r.drop (HT.iH xs.length 0 lo)).take (HT.iH xs.length xs.length hi - HT.iH xs.length 0 lo),ax _ rfl⟩
def qg:V->Bool
 | .non=>true
 | .bl _=>true
 | .int _=>true
 | .str _=>true
 | _=>false
def Pk:V->V->Bool
 | .non,.non=>true
 | .bl a,.bl b=>a == b
 | .bl a,.int b=>(if a then 1 else 0) == b
 | .int a,.bl b=>a == (if b then 1 else 0)
 | .int a,.int b=>a == b
 | .str a,.str b=>a == b
 | _,_=>false
theorem Su {A:bv}{s:ag}{y x:V}{u v:ac} (ry:du y u) (rx:du x v) (fy:qg y=true) (fx:qg x=true):SeqAt.EqAt A s u v (Pk y x):=by
 cases y with
 | non =>
  cases ry
  cases x with
  | non=>cases rx;exact SeqAt.EqAt.same _
  | bl b=>cases rx;exact SeqAt.EqAt.none_bool b
  | int b=>obtain ⟨t,rfl⟩:=rx;exact SeqAt.EqAt.none_int b t
  | str b=>obtain ⟨t,rfl⟩:=rx;exact SeqAt.EqAt.none_str b t
  | _=>exact absurd (show false=true from fx) bi
 | bl a =>
  cases ry
  cases x with
  | non=>cases rx;exact SeqAt.EqAt.bool_none a
  | bl b=>cases rx;exact SeqAt.EqAt.bool_bool a b
  | int b=>obtain ⟨t,rfl⟩:=rx;exact SeqAt.EqAt.bool_int a b t
  | str b=>obtain ⟨t,rfl⟩:=rx;exact SeqAt.EqAt.bool_str a b t
  | _=>exact absurd (show false=true from fx) bi
 | int a =>
  obtain ⟨t',rfl⟩:=ry
  cases x with
  | non=>cases rx;exact SeqAt.EqAt.int_none a t'
  | bl b=>cases rx;exact SeqAt.EqAt.int_bool a t' b
  | int b=>obtain ⟨t,rfl⟩:=rx;exact SeqAt.EqAt.int_int a t' b t
  | str b=>obtain ⟨t,rfl⟩:=rx;exact D4 a t' b t
  | _=>exact absurd (show false=true from fx) bi
 | str a =>
  obtain ⟨t',rfl⟩:=ry
  cases x with
  | non=>cases rx;exact SeqAt.EqAt.str_none a t'
  | bl b=>cases rx;exact SeqAt.EqAt.str_bool a t' b
  | int b=>obtain ⟨t,rfl⟩:=rx;exact D5 a t' b t
  | str b=>obtain ⟨t,rfl⟩:=rx;exact SeqAt.EqAt.str_str a t' b t
  | _=>exact absurd (show false=true from fx) bi
 | _=>exact absurd (show false=true from fy) bi
def Ga (x:V) (u:ac):Bool:=match u with
 | .none=>Pk .non x
 | .bool b=>Pk (.bl b) x
 | .int i _=>Pk (.int i) x
 | .str z _=>Pk (.str z) x
 | _=>false
theorem LD {x y:V}{u:ac} (r:du y u) (f:qg y=true):Ga x u=Pk y x:=by
 cases y with
 | non=>cases r;rfl
 | bl b=>cases r;rfl
 | int i=>obtain ⟨t,rfl⟩:=r;rfl
 | str z=>obtain ⟨t,rfl⟩:=r;rfl
 | _=>exact absurd (show false=true from f) bi
theorem ue {x:V}:∀ {xs:List V}{us:List ac},dJ xs us->xs.all qg=true->us.any (Ga x)=xs.any fun y=>Pk y x
 | _,_,.nil,_=>rfl
 | y::xs,u::us,.cons r t,f=>by
  rw [t_,aQ] at f
  rw [dX,dX,LD r f.1,ue t f.2]
theorem qh {A:bv}{s:ag}{x:V}{v:ac} (rx:du x v) (fx:qg x=true):∀ {xs:List V}{us:List ac},dJ xs us->xs.all qg=true->∀ u∈us,SeqAt.EqAt A s u v (Ga x u)
 | _,_,.nil,_=>fun u hu=>by cases hu
 | y::xs,u::us,.cons r t,f=>fun u' hu=>by
  rw [t_,aQ] at f
  rcases List.mem_cons.mp hu with rfl | hu
  ·rw [LD r f.1];exact Su r rx f.1 fx
  ·exact qh rx fx t f.2 u' hu
def VB (x:V) (xs:List V):Bool:=xs.any fun y=>Pk y x
inductive Ub (K:a8) (neg:Bool) (x:V) (y:V) (H:Hp) (Q:VK):Prop
 | mk (p xs:_) (h0:y=.ref p) (h1:(lW K H p xs\/kK K H p xs)) (h2:qg x=true) (h3:xs.all qg=true) (h4:Q (.bl (if neg then !VB x xs else VB x xs)) H):Ub K neg x y H Q
def Wl (K:a8) (neg:Bool):R2:=Ub K neg
theorem Jp:oB X (bI .In) (Wl X.K false):=by
 intro pins s σ H x y v u Q I rx ry h
 obtain ⟨p,xs,rfl,hq,fx,fs,q⟩:=h
 cases ry
 rcases hq with hq | hq
 ·obtain ⟨its,r,pl,hz⟩:=I.list hq
  refine SeqAt.in_listAt (Ga x) pl.isList (fun w hw=>qh rx fx r fs w (by simpa using hw)) ⟨.bl _,H,I,rfl,?_⟩
  rw [show its.toArray.any (Ga x)=its.any (Ga x) by simp,ue r fs]
  exact q
 ·obtain ⟨its,r,pl,hz⟩:=I.tuple hq
  refine SeqAt.in_tupleAt (Ga x) pl (fun w hw=>qh rx fx r fs w (by simpa using hw)) ⟨.bl _,H,I,rfl,?_⟩
  rw [show its.toArray.any (Ga x)=its.any (Ga x) by simp,ue r fs]
  exact q
theorem BJ:oB X (bI .NotIn) (Wl X.K true):=by
 intro pins s σ H x y v u Q I rx ry h
 obtain ⟨p,xs,rfl,hq,fx,fs,q⟩:=h
 cases ry
 rcases hq with hq | hq
 ·obtain ⟨its,r,pl,hz⟩:=I.list hq
  refine SeqAt.notIn_listAt (Ga x) pl.isList (fun w hw=>qh rx fx r fs w (by simpa using hw)) ⟨.bl _,H,I,rfl,?_⟩
  rw [show its.toArray.any (Ga x)=its.any (Ga x) by simp,ue r fs]
  exact q
 ·obtain ⟨its,r,pl,hz⟩:=I.tuple hq
  refine SeqAt.notIn_tupleAt (Ga x) pl (fun w hw=>qh rx fx r fs w (by simpa using hw)) ⟨.bl _,H,I,rfl,?_⟩
  rw [show its.toArray.any (Ga x)=its.any (Ga x) by simp,ue r fs]
  exact q
theorem uf:jR X (.builtin "len") (fun xs H Q=>∃ p ys,xs=[.ref p]/\(lW X.K H p ys\/kK X.K H p ys)/\Q (.int ys.length) H):=by
 intro pins s σ H xs us Q I r h
 obtain ⟨p,ys,rfl,hq,q⟩:=h
 obtain ⟨u,rfl,rx⟩:=kL r
 cases rx
 have hn:=vn
 rcases hq with hq | hq
 ·obtain ⟨its,r',pl,hz⟩:=I.list hq
  have hlen:=r'.length
  exact Calls.call_len_list pl.isList (by simp only [aP]<;>omega) ⟨.int ys.length,H,I.tok _,⟨s.toks + 1,by rw [aP,hlen]⟩,q⟩
 ·obtain ⟨its,r',pl,hz⟩:=I.tuple hq
  have hlen:=r'.length
  exact len_tuple pl (by simp only [aP]<;>omega) ⟨.int ys.length,H,I.tok _,⟨s.toks + 1,by rw [aP,hlen]⟩,q⟩
theorem BK:jR X (.builtin "len") (fun xs H Q=>∃ z,xs=[.str z]/\z.length<=sizeLine/\Q (.int z.length) H):=by
 intro pins s σ H xs us Q I r h
 obtain ⟨z,rfl,hz,q⟩:=h
 obtain ⟨u,rfl,t,rfl⟩:=kL r
 have hn:=vn
 exact len_str (by omega) ⟨.int z.length,H,I.tok _,⟨_,rfl⟩,q⟩
theorem ug:jR X (.type "list") (fun xs H Q=>∃ p ys,xs=[.ref p]/\(lW X.K H p ys\/kK X.K H p ys)/\∀ l,H l=none->Q (.ref l) (upd H l (.lst ys))):=by
 intro pins s σ H xs us Q I r h
 obtain ⟨p,ys,rfl,hq,q⟩:=h
 obtain ⟨u,rfl,rx⟩:=kL r
 cases rx
 have fin:∀ (its:List ac),dJ ys its->ys.length<=sizeLine->∀ (h':bB) (c':Nat),(∀ b o',s.heap.get? b=some o'->h'.get? b=some o') ->
   h'.get? s.heap.objs.size=some { cls:=.type "list",dict:=none,data:=.seq its.toArray c',slots:=#[] }->EP X pins σ Q (.ref s.heap.objs.size) { s with heap:=h' }:=fun its r' hz h' c' kp e =>
  ⟨.ref s.heap.objs.size,_,I.laid (t':=s.toks) kp (ar _) (show dA X.prog X.w _ h' _ (.lst ys) from ⟨hz,its,c',r',e⟩),rfl,q _ (I.hok.fresh (ar _))⟩
 rcases hq with hq | hq
 ·obtain ⟨its,r',pl,hz⟩:=I.list hq
  have hlen:=r'.length
  obtain ⟨o,ho,hc,n,hd⟩:=pl.isList
  exact call_list_seq p (.inl rfl) ho hc hd (fun h' c' kp e=>fin its r' hz h' c' kp e) (by simp only [aP]<;>omega)
 ·obtain ⟨its,r',pl,hz⟩:=I.tuple hq
  have hlen:=r'.length
  obtain ⟨o,ho,hc,n,hd⟩:=pl
  exact call_list_seq p (.inr rfl) ho hc hd (fun h' c' kp e=>fin its r' hz h' c' kp e) (by simp only [aP]<;>omega)
theorem rV:jR X (.type "tuple") (fun xs H Q=>∃ p ys,xs=[.ref p]/\((lW X.K H p ys/\∀ l,H l=none->Q (.ref l) (upd H l (.tup ys)))\/(kK X.K H p ys/\Q (.ref p) H))):=by
 intro pins s σ H xs us Q I r h
 obtain ⟨p,ys,rfl,h⟩:=h
 obtain ⟨u,rfl,rx⟩:=kL r
 cases rx
 rcases h with ⟨hq,q⟩ | ⟨hq,q⟩
 ·obtain ⟨its,r',pl,hz⟩:=I.list hq
  have hlen:=r'.length
  refine call_tuple_list pl.isList (fun h' kp=>?_) (by simp only [aP]<;>omega)
  have I1:bP X pins σ H { s with heap:=h' }:=I.kept (t':=s.toks) kp
  have I2:bP X pins σ (upd H h'.objs.size (.tup ys)) { s with heap:=h'.push { cls:=.type "tuple",data:=.seq its.toArray } } :=
   I1.laid (t':=s.toks) (fun b o e=>af _ e) (ar _) (show dA X.prog X.w _ _ _ (.tup ys) from ⟨hz,its,r',wM _ _⟩)
  exact ⟨.ref h'.objs.size,_,I2,rfl,q _ (I1.hok.fresh (ar _))⟩
 ·obtain ⟨its,r',pl,hz⟩:=I.tuple hq
  exact call_tuple_same pl ⟨.ref p,H,I,rfl,q⟩
def X4 (K:a8) (T:String) (x:V) (H:Hp):Prop:=match x with
 | .str _=>T="str"
 | .int _=>T="int"
 | .ref p=>(T="list"/\∃ xs,lW K H p xs)\/(T="tuple"/\∃ o,K.lookup p=some o/\o.cls=.type "tuple"/\o.dict=none) \/
   (T="dict"/\((∃ kvs,H p=some (.dK kvs))\/∃ kvs,H p=some (.dT kvs)))\/(T="set"/\∃ S n,H p=some (.set S n))
 | _=>False
theorem Sv {pins:List (aj×Obj)}{σ:St}{H:Hp}{s:ag}{T:String}{x:V}{v:ac} (I:bP X pins σ H s) (r:du x v) (ty:X4 X.K T x H) :
  s.TypeIs v T/\∀ a,v=.ref a->∃ ob,s.heap.get? a=some ob/\ob.dict=none:=by
 cases x with
 | str z =>
  obtain ⟨t,rfl⟩:=r
  cases (show T="str" from ty)
  exact ⟨typeIs_str s z t,fun _ e=>nomatch e⟩
 | int i =>
  obtain ⟨t,rfl⟩:=r
  cases (show T="int" from ty)
  exact ⟨typeIs_int s i t,fun _ e=>nomatch e⟩
 | ref p =>
  cases r
  rcases ty with ⟨rfl,xs,hq⟩ | ⟨rfl,o,hk,hc,hd⟩ | ⟨rfl,hk⟩ | ⟨rfl,S,n,hk⟩
  ·obtain ⟨its,_,pl,_⟩:=I.list hq
   refine ⟨pl.isList.typeIs,fun a e=>?_⟩
   cases e
   obtain ⟨o,n,e,c,hd,_⟩:=pl
   exact ⟨o,e,hd⟩
  ·refine ⟨⟨o,I.kIn p o hk,hc⟩,fun a e=>?_⟩
   cases e
   exact ⟨o,I.kIn _ o hk,hd⟩
  ·have z:∃ o,s.heap.get? p=some o/\o.ExactDict:=by
    rcases hk with ⟨kvs,hk⟩ | ⟨kvs,hk⟩
    ·obtain ⟨_,_,_,_,o,_,_,e,ex,_⟩:=I.hok p _ hk
     exact ⟨o,e,ex⟩
    ·obtain ⟨_,_,_,_,o,_,_,e,ex,_⟩:=I.hok p _ hk
     exact ⟨o,e,ex⟩
   obtain ⟨o,e,ex⟩:=z
   refine ⟨⟨o,e,ex.1⟩,fun a e2=>?_⟩
   cases e2
   exact ⟨o,e,ex.2.1⟩
  ·obtain ⟨o,_,_,_,e,ex,_⟩:=I.hok p _ hk
   refine ⟨⟨o,e,ex.1⟩,fun a e2=>?_⟩
   cases e2
   exact ⟨o,e,ex.2.1⟩
 | _=>exact io ty
def Xz (K:a8) (T:String) (r:V->List V->Hp->VK->Prop) (to:TE) (t:TA):TE:=fun σ H Q=>to σ H fun x H1=>X4 K T x H1/\t σ H1 fun xs H2=>r x xs H2 Q
variable {o e:aX}{es:List aX}{to:TE}{t:TA}{name:Str}{apos cpos:Pos}{T id:String}{r:V->List V->Hp->VK->Prop}
theorem QR (pa:PlainAttrs T) (slot:Slot T name id) (hty:typeOf (.builtin id)=pure (.type "method_descriptor")) (hm:Xy X id r) (ho:PE X o to) (ha:PA X (e::es) t)
  (hbase:J7 o name X.env (dE o X.env)=dE o X.env:=by rfl)
  (hfew:((j4 cpos (aI (e::es) X.env)).all (fun x=>!x.1) && (backToKw cpos (OE [] X.env)).all (fun x=>x.1.isSome)
   && decide ((e::es).length + ([] : List zO).length + (if ([] : List zO).isEmpty then 0 else 1)<30))=true:=by rfl)
  (hline:(apos.endLine == cpos.line)=true:=by rfl) (hs:aI (e::es) X.env=(false,dE e X.env)::aI es X.env:=by rfl) (hplain:(j4 cpos (aI es X.env)).any (·.1)=false:=by rfl) :
  PE X (.Call (.Attribute o name apos) (e::es) [] cpos) (Xz X.K T r to t):=by
 intro pins s σ H Q I h
 refine wpAny_Call_method_late hbase hfew hline rfl (fk (ho pins s σ H _ I h) fun v s1 ⟨x,H1,I1,r1,ty,q1⟩=>?_)
 obtain ⟨h1,h2⟩:=Sv I1 r1 ty
 refine ⟨T,id,pa,slot,hty,h1,h2,?_⟩
 have hA:=ha cpos pins s1 σ H1 _ I1 q1
 rw [hs] at hA ⊢
 refine Calls.callWith_builtin (by show (false || (j4 cpos (aI es X.env)).any (·.1))=false;rw [hplain]<;>rfl) (FL ?_)
 exact fk hA fun us s2 h_30=>by obtain ⟨vs,H2,I2,r2,q2⟩:=h_30;exact hm pins s2 σ H2 x vs v us Q I2 r1 r2 q2
end
end L2
namespace L2
open PySem PySem.Spec PyProof.Rows
def XA (X:Cx) (id:String) (r:V->List V->Hp->VK->Prop):Prop :=
 ∀ (pins:List (aj×Obj)) (s:ag) (σ:St) (H:Hp) (x:V) (xs:List V) (v:ac) (us:List ac) (Q:VK),bP X pins σ H s->du x v->dJ xs us->r x xs H Q ->
  au (aO X.prog X.w) X.A (call (.builtin id) (v::us)) (EP X pins σ Q) X.xe s
theorem dJ.one {x:V}{us:List ac} (h:dJ [x] us):∃ u,us=[u]/\du x u:=by
 cases h with | cons r t=>cases t;exact ⟨_,rfl,r⟩
section
variable {X:Cx}{pins:List (aj×Obj)}{σ:St}{H:Hp}{s:ag}{l b:aj}{xs ys zs:List V}
theorem bP.lset {its its':List ac}{n:Nat}{f:Array ac->Array ac}{t':Nat} (I:bP X pins σ H s) (hH:H l=some (.lst xs))
  (e:s.heap.get? l=some { cls:=.type "list",data:=.seq its.toArray n }) (hf:f its.toArray=its'.toArray) (hv:dJ ys its') (hz:ys.length<=sizeLine) :
  bP X pins σ (upd H l (.lst ys)) { s with heap:=s.heap.update l (k_ f),toks:=t' }:=by
 have q:=PySem.IsL.update e f
 rw [hf] at q
 refine I.write (x:=l) (e:=l) (by rw [hH];exact trivial) (.inl rfl) (fun b' u hb hu=>(pU s.heap (k_ f) (db hb)).trans hu) ⟨_,q⟩ ?_
 exact ⟨hz,its',_,hv,q⟩
theorem bP.lnew {its:List ac}{t':Nat} (I:bP X pins σ H s) (hv:dJ ys its) (hz:ys.length<=sizeLine) :
  bP X pins σ (upd H s.heap.objs.size (.lst ys)) { s with heap:=s.heap.push { cls:=.type "list",data:=.seq its.toArray },toks:=t' } :=
 I.laid (fun _ _ q=>af _ q) (ar _) ⟨hz,its,0,hv,ax _ rfl⟩
theorem bP.fresh (I:bP X pins σ H s):H s.heap.objs.size=none:=I.hok.fresh (ar _)
theorem bP.lstM (I:bP X pins σ H s) (hH:H l=some (.lst xs)):X1 s.heap l xs:=by
 obtain ⟨z,its,n,r,e⟩:=I.hok l _ hH
 exact ⟨z,its,n,r,r.length,e⟩
end
section
variable {X:Cx}
inductive Dp (x:V) (vs:List V) (H:Hp) (Q:VK):Prop
 | mk (l xs y:_) (h0:x=.ref l) (h1:vs=[y]) (h2:H l=some (.lst xs)) (h3:xs.length<sizeLine) (h4:Q .non (upd H l (.lst (xs++[y])))):Dp  x vs H Q
def Pl:V->List V->Hp->VK->Prop:=Dp
theorem AL:XA X "list.append" Pl:=by
 intro pins s σ H x vs v us Q I rx rv h
 obtain ⟨l,xs,y,rfl,rfl,hH,hz,q⟩:=h
 cases rx
 obtain ⟨u,rfl,ru⟩:=rv.one
 obtain ⟨z,its,n,r,hl,e⟩:=I.lstM hH
 refine call_meets F.slot_list_append ⟨_,e,rfl⟩ F.entry_list_append (F.args_list_append_2 _ _) (PySem.list_append l its.toArray n u (by rw [aP];omega)) ⟨e,?_⟩
 refine ⟨.non,_,I.lset (its':=its++[u]) hH e (by simp) (r.append (.cons ru .nil)) ?_,rfl,q⟩
 rw [aG,cB]
 omega
end
section
variable {prog:aM}{w:ba}{A:bv}{E:ac->ag->Prop}{s:ag}
end
section
variable {X:Cx}
end
end L2
namespace Att
open PySem PySem.W PySem.Calls PyProof.Rows
theorem wV {P:Params}{h:bB}:∀ (ns:List Int) (vs:List ac),WellAll P h vs (ns.map WData.int)->L8 vs ns:=by
 intro ns
 induction ns with
 | nil =>
  intro vs w
  rw [dn] at w
  cases w
  exact .nil
 | cons n ns ih =>
  intro vs w
  rw [aB] at w
  cases w with
  | cons a b =>
   cases a
   exact .cons _ _ (ih _ b)
theorem Jq {l:OpenLaw}{n:Nat} (hn:l.most=some n) {P:Params}{h:bB}{args:List WData}{vals:List ac}
  (hpre:l.row.toRowW.claim.pre args=true) (hwl:WellAll P h vals args) :
  ∃ a vs ns,vals=[bX a]/\args=[WData.list (ns.map WData.int)]/\h.get? a=some { cls:=.type "list",data:=.seq vs.toArray }/\L8 vs ns/\ns.length<=n:=by
 have hsh:WShape.hasAll [] args [.list .int]=true:=(pre_splitW hpre).1
 have hc:l.pre.holds [] { args:=args }=true:=(pre_splitW hpre).2
 obtain ⟨d,r,rfl,h1,h2⟩:=hasAllW_cons hsh
 obtain rfl:=hasAllW_nil h2
 obtain ⟨xs,rfl,h3⟩:=hasW_list h1
 obtain ⟨ns,rfl⟩:=items_int h3
 have hlen:ns.length<=n:=by
  unfold OpenLaw.pre at hc
  have h4:(WTm.not (.lt (.lit (.int (n:Int))) (.len (.arg 0)))).holds [] { args:=[.list (ns.map .int)] }=true:=by
   have h4:=(holds_andW hc).1
   rw [hn] at h4
   exact h4
  have h5:=condW_of h4 (w_not (w_lt w_lit (w_len_list (w_arg rfl))))
  rw [ao] at h5
  refine OF fun q=>?_
  have q':(n:Int)<((ns.length:Nat):Int):=by omega
  first
   | (rw [decide_eq_true q'] at h5;exact absurd h5 (by decide))
   | (simp at h5;omega)
 cases hwl with
 | cons w1 w2 =>
  cases w2
  cases w1 with
  | list ho hall=>exact ⟨_,_,ns,rfl,rfl,ho,wV ns _ hall,hlen⟩
theorem Jr (l:OpenLaw) (args:List WData):l.row.toRowW.claim.post args (.bool true) args=true :=
 postW_of (r:=l.row.toRowW) (X:=(true == true))
  (show WShape.has [] (.bool true) .bool=true by first | rfl | decide | simp [WShape.has,WShape.arms,WShape.armsAll])
  (show (WTm.eq .res (.lit (.bool true))).value [] { args:=args,res:=some (.bool true),after:=args }=some (.bool (true == true)) from w_eq_bool (w_res rfl) w_lit) rfl
theorem attach_call {l:OpenLaw}{n:Nat}{q:aM}{loose:List Str}{XP:(Str->Option ac)->bB->Prop}{YP:ba->bB->Prop}{d:DefRec}
  (hn:l.most=some n) (hdf:d.params.defaults=[])
  (call:∀ (w:ba) (s₀ s₁:ag) (mg mb:Str->Option ac) (fa:aj) (o:Obj) (pm cd doc:ac) (a:aj) (vs:List ac) (ns:List Int),
   Ground q loose [] XP w s₀ mg mb s₁.heap->YP w s₁.heap ->
   s₁.heap.get? fa=some o->o.data=.func (docDef d.name d.params d.body d.scope pm cd doc)->s₁.heap.CodeRec cd d.name->mg d.name=some (.ref fa) ->
   s₁.heap.get? a=some { cls:=.type "list",data:=.seq vs.toArray }->L8 vs ns->ns.length<=n->s₁.gens=#[] ->
   iN (aO l.prog w) wn (.call (.ref fa) ⟨[.ref a],[]⟩) (fun r s'=>r=.ok (.ret (.bool true))/\OldK s₁.heap s'.heap/\s'.os=s₁.os/\pS s'.gens) s₁) :
  WalkO q loose XP YP l.row.toRowW d [] (fun f vs=>J8 f vs):=by
 intro w s₀ s₁ mg mb G Y fa o pm cd doc dV kV ho hd hcd hD hmg hg args vals as hpre hlay hrd hwl hlo
 obtain rfl:dV=.none:=Dflts.none hD hdf
 obtain rfl:kV=.none:=Dflts.noKw hD
 obtain ⟨a,vs,ns,rfl,rfl,hobj,hints,hlen⟩:=Jq hn hpre hwl
 refine enter_call (sg (call w s₀ s₁ mg mb fa o pm cd doc a vs ns G Y ho (fd_plain hd) hcd hmg hobj hints hlen hg) fun r s' hq=>?_)
 obtain ⟨rfl,h2,h3,h4⟩:=hq
 exact ⟨.inl ⟨.bool true,.bool true,[],rfl,fun _=>rfl,.bool true,Jr l _,fun _=>⟨AA,fun _ hm=>(nomatch hm)⟩⟩,h2,h3,h4⟩
section
variable {prog:aM}{w:ba}{A:bv}{E:ac->ag->Prop}{s:ag}{K:Frag}
def Wm (h:bB) (L d:aj):List (aj×Obj):=(bx h.objs.size).filterMap fun a=>if a=L\/a=d then none else (h.get? a).map fun o=>(a,o)
end
end Att
namespace L2
open PySem PySem.Spec PyProof.Rows
theorem Js {vs:List ac}{ns:List Int} (h:L8 vs ns):dJ (ns.map V.int) vs:=by
 induction h with
 | nil=>exact .nil
 | cons n t h ih=>exact .cons ⟨t,rfl⟩ ih
def Sw (H:Hp):Prop:=∀ b,H b=none\/∃ o xs,H b=some (.frz o (.lst xs))
theorem LF {P:aM}{w:ba}{K:a8}{mg mb:Str->Option ac}{CX:KY}{k:Nat}{fa a:aj}{fd:fz}{x:Str}{sp:Sp}{s₁:ag}{vs:List ac}{ns:List Int}
  (KX:K.In s₁.heap) (hns:s₁.heap.Ns bY mg) (hb:s₁.heap.Ns builtinsNs mb) (hbb:∀ x:Str,x≠"__name__"->mb x=i9 x) (hlim:s₁.heap.NoLimit) (hg:s₁.gens=#[])
  (ha:s₁.heap.get? a=some { cls:=.type "list",data:=.seq vs.toArray }) (hi:L8 vs ns) (hl:ns.length<=sizeLine) (hr:lX k wn)
  (F:∀ base:bB,K.In base->base.Ns bY mg->vo P w K mg base CX k fa fd [x] sp) (hbind:∀ (s:ag) (u:ac),Fu s fd ⟨[u],[]⟩ [(x,u)])
  (hsp:∀ H:Hp,Sw H->lW K H a (ns.map V.int)->sp [.ref a] H (fun v _=>v=.bl true) fun _ _ _=>False)
  (hCX:∀ H e s',CX [] H s₁ (fun _ _ _=>False) e s'->False) :
  iN (aO P w) wn (.call (.ref fa) ⟨[.ref a],[]⟩) (fun r s'=>r=.ok (.ret (.bool true))/\OldK s₁.heap s'.heap/\s'.os=s₁.os/\pS s'.gens) s₁:=by
 have rv:=Js hi
 have lenV:=hi.length
 have core:∀ H:Hp,Sw H->lW K H a (ns.map V.int)->pP P w H s₁.heap->(∀ b,H b≠none->b=a)->(H a≠none->K.lookup a=none) ->
   iN (aO P w) wn (.call (.ref fa) ⟨[.ref a],[]⟩) (fun r s'=>r=.ok (.ret (.bool true))/\OldK s₁.heap s'.heap/\s'.os=s₁.os/\pS s'.gens) s₁:=by
  intro H hO hS hok hA hK
  have base_of:∀ {b:aj}{o:Obj},s₁.heap.get? b=some o->H b=none->(BC s₁.heap H).get? b=some o:=fun e n=>Lk e n
  have noA:∀ {b:aj}{o:Obj}{es:Array By}{ep:Nat},s₁.heap.get? b=some o->o.data=.dict es ep->H b=none:=fun {b o es ep} e d=>by
   cases q:H b with
   | none=>rfl
   | some u =>
    have e':b=a:=hA b (by rw [q];simp)
    subst e'
    rw [ha] at e;cases e
    have d':Data.seq vs.toArray _=Data.dict es ep:=d
    cases d'
  have nsK:∀ {b:aj}{m:Str->Option ac},s₁.heap.Ns b m->(BC s₁.heap H).Ns b m:=fun {b m} ⟨o,es,ep,e,d,r⟩=>⟨o,es,ep,base_of e (noA e d),d,r⟩
  have hKb:K.In (BC s₁.heap H):=fun b o e=>base_of (KX b o e) (by
   cases q:H b with
   | none=>rfl
   | some u =>
    have e':b=a:=hA b (by rw [q];simp)
    subst e'
    rw [hK (by rw [q];simp)] at e;cases e)
  have hM:Mod K mg (BC s₁.heap H):=⟨hKb,nsK hns,⟨mb,nsK hb,hbb⟩,let ⟨mc,h1,h2⟩:=hlim;⟨mc,nsK h1,h2⟩⟩
  have e0:Pb P w K mg (BC s₁.heap H) wn [] s₁ H:=⟨rfl,hM,fun b o e=>OY e,Nat.le_of_eq (Ji _ _),trivial,fun b hb=>absurd (show b∈([] : List aj) from hb) (by simp),hok,.of_eq hg⟩
  refine sg ((F _ hKb (nsK hns)).run wn [] s₁ H ⟨[.ref a],[]⟩ [.ref a] [.ref a] _ _ hr e0 (hbind s₁ (.ref a)) (.cons rfl .nil) (hsp H hO hS)) fun r s' h=>?_
  cases r with
  | error e=>exact (hCX H e s' h).elim
  | ok fl =>
   cases fl with
   | next=>exact io h
   | brk=>exact io h
   | cont=>exact io h
   | ret u =>
    obtain ⟨v,H',os,bare,un,hok',r',q⟩:=h
    have q':v=.bl true:=q
    subst q'
    obtain rfl:u=IY true:=r'
    refine ⟨rfl,OldK.of_keep fun b o e=>?_,os,bare⟩
    cases q:H b with
    | none=>exact un.keep b o e q (by intro z;exact absurd (show b∈([] : List aj) from z) (by simp)) (by simp)
    | some u =>
     rcases hO b with z | ⟨ob,xs,z⟩
     ·rw [q] at z;cases z
     ·have z2:=un.frzs b ob _ z
      obtain ⟨e1,_⟩:=hok b _ z
      obtain ⟨e2,_⟩:=hok' b _ z2
      rw [e] at e1;cases e1
      exact e2
 cases hk:K.lookup a with
 | some o =>
  have e:=KX a o hk
  rw [ha] at e
  cases e
  refine core (fun _=>none) (fun _=>.inl rfl) (.inr ⟨_,vs.toArray,_,hk,rfl,rfl,rfl,by rw [aP,lenV];exact hl,by simpa using rv⟩) (fun b u z=>by have z':(none:Option HO)=some u:=z;cases z') (fun b z=>absurd rfl z) fun z=>absurd rfl z
 | none =>
  refine core (fun b=>if b=a then some (.frz { cls:=.type "list",data:=.seq vs.toArray } (.lst (ns.map V.int))) else none) (fun b=>?_) (.inl (.inr ⟨{ cls:=.type "list",data:=.seq vs.toArray },if_pos rfl⟩)) (fun b u z=>?_) (fun b z=>?_) fun _=>hk
  ·by_cases hb:b=a
   ·exact .inr ⟨_,_,if_pos hb⟩
   ·exact .inl (if_neg hb)
  ·by_cases hb:b=a
   ·have z':=(if_pos hb).symm.trans z
    cases z'
    subst hb
    exact ⟨ha,by rw [ao];exact hl,vs,_,rv,ha⟩
   ·have z':=(if_neg hb).symm.trans z
    cases z'
  ·by_cases hb:b=a
   ·exact hb
   ·exact absurd (if_neg hb) z
end L2
namespace L2
open PySem PySem.Spec PyProof.Rows
abbrev XH {K:a8}{h:bB} (_:K.In h):a8:=K
theorem Pm {l:wN}{n k:Nat}{q:aM}{loose:List Str}{XP:(Str->Option ac)->bB->Prop}{YP:ba->bB->Prop}{d:DefRec}{K:Params->a8}{CX:ba->KY}{sp:ba->Sp}{x:Str}
  (hn:l.most=some n) (hn2:n<=sizeLine) (hdf:d.params.defaults=[]) (hr:lX k wn)
  (hY:∀ (w:ba) (h:bB),YP w h->(K w.params).In h)
  (F:∀ (w:ba) (mg:Str->Option ac) (fa:aj) (h:bB),(K w.params).In h->h.Ns bY mg->mg d.name=some (.ref fa) ->
   ∃ fd:fz,(∀ (s:ag) (u:ac),Fu s fd ⟨[u],[]⟩ [(x,u)]) /\
    ∀ base:bB,(K w.params).In base->base.Ns bY mg->vo l.prog w (K w.params) mg base (CX w) k fa fd [x] (sp w))
  (hsp:∀ (w:ba) (H:Hp) (a:aj) (ns:List Int),ns.length<=n->Sw H->lW (K w.params) H a (ns.map V.int)->sp w [.ref a] H (fun v _=>v=.bl true) fun _ _ _=>False)
  (hCX:∀ (w:ba) (H:Hp) (s:ag) (e:ac) (s':ag),CX w [] H s (fun _ _ _=>False) e s'->False) :
  Op q loose XP YP l.row.toRowW d [] (fun f vs=>J8 f vs):=by
 refine Att.attach_call hn hdf fun w s₀ s₁ mg mb fa o pm cd doc a vs ns G Y ho hd hcd hmg hobj hints hlen hg=>?_
 have KX:=hY w _ Y
 obtain ⟨fd,hb,hF⟩:=F w mg fa _ KX G.T.g hmg
 exact LF KX G.T.g G.T.b G.T.builtins G.T.nolimit hg hobj hints (bZ hlen hn2) hr hF hb (fun H hO hS=>hsp w H a ns hlen hO hS) fun H e s'=>hCX w H s₁ e s'
end L2
namespace L2
open PySem PySem.Spec PyProof.Rows
def mQ (s:cA):Arguments:=match s with
 | .FunctionDef _ a _ _ _ _ _ _ _ _=>a
 | _=>{ posonlyargs:=[],args:=[],vararg:=none,kwonlyargs:=[],kw_defaults:=[],kwarg:=none,defaults:=[] }
def ju (s:cA):List cA:=match s with
 | .FunctionDef _ _ b _ _ _ _ _ _ _=>b
 | _=>[]
def aC (s:cA):eO:=match s with
 | .FunctionDef _ _ _ _ _ _ sc _ _ _=>sc
 | _=>{ kind:=.function,names:=[],isGenerator:=false,isCoroutine:=false }
abbrev E0:XK:=fun _ _ _=>False
structure Jt (K:a8) (x qual:Str) (st:cA) (f:aj) (fd:fz):Prop where
 ex:∃ (oc:ac) (od:Option aj) (kV doc pm:ac) (an:Option aj) (cdv ct:ac) (osl:Array (Option ac)),
  fd=fJ x qual (mQ st) (ju st) (aC st) .none kV doc pm an cdv ct/\K.lookup f=some ⟨oc,od,.func fd,osl⟩/\lT K cdv qual=true
 kp:js K (.ref f)=true
section
variable {P:aM}{w:ba}{K:a8}{mg:Str->Option ac}{base:bB}
theorem Jt.binds {x qual:Str}{st:cA}{f:aj}{fd:fz}{ps:List Str} (F:Jt K x qual st f fd)
  (h:∀ (kV doc pm:ac) (an:Option aj) (cdv ct:ac) (us:List ac),us.length=ps.length->bindArgs (fJ x qual (mQ st) (ju st) (aC st) .none kV doc pm an cdv ct) ⟨us,[]⟩=pure (ps.zip us)):nT K fd ps []:=by
 obtain ⟨oc,od,kV,doc,pm,an,cdv,ct,osl,rfl,lk,hcd⟩:=F.ex
 exact .all (h kV doc pm an cdv ct)
theorem LG {x qual:Str}{st:cA}{f:aj}{oc:ac}{od an:Option aj}{osl:Array (Option ac)}{kV doc pm cdv ct:ac} (l:K.lookup f=some ⟨oc,od,.func (fJ x qual (mQ st) (ju st) (aC st) .none kV doc pm an cdv ct),osl⟩)
  (c:lT K cdv qual=true) (k:js K (.ref f)=true):Jt K x qual st f (fJ x qual (mQ st) (ju st) (aC st) .none kV doc pm an cdv ct):=⟨⟨oc,od,kV,doc,pm,an,cdv,ct,osl,rfl,l,c⟩,k⟩
end
theorem gQ {A:bv}{k:Nat} (hr:lX k A):A.units + 1<kX:=vd (Nat.add_le_add_left (by decide:1<=64) _) hr.units
theorem dN {n:Nat} (h:n<=1000):n<sizeLine:=vd h (by decide)
section
variable {X:Cx}
end
theorem BL {A B:Prop} (h:B):if false=true then A else B:=by
 rw [if_neg bi]
 exact h
theorem BM {A B:Prop} (h:A):if true=true then A else B:=by
 rw [if_pos rfl]
 exact h
def dH (H H':Hp):Prop:=∀ b o,H b=some o->H' b=some o
theorem dH.refl (H:Hp):dH H H:=fun _ _ h=>h
theorem dH.trans {H H1 H2:Hp} (a:dH H H1) (b:dH H1 H2):dH H H2:=fun c o h=>b c o (a c o h)
theorem dH.free {H H':Hp} (e:dH H H') {l:aj} (h:H' l=Option.none):H l=Option.none:=by
 cases q:H l with
 | none=>rfl
 | some o =>
  rw [e l o q] at h
  cases h
theorem dH.seq {K:a8}{H H':Hp}{a:aj}{xs:List V} (e:dH H H') (h:lW K H a xs):lW K H' a xs:=by
 rcases h with (h | ⟨o,h⟩) | h
 ·exact .inl (.inl (e _ _ h))
 ·exact .inl (.inr ⟨o,e _ _ h⟩)
 ·exact .inr h
end L2
end
section
namespace L2
open PySem PySem.Spec PyProof.Rows
section
variable {κ:Type} [DecidableEq κ]
def nV (kvs:List (κ×V)) (k:κ):Option V:=(kvs.find? fun kv=>decide (kv.1=k)).map (·.2)
def mF (kvs:List (κ×V)) (k:κ) (v:V):List (κ×V) :=
 if (kvs.any fun kv=>decide (kv.1=k))=true then kvs.map (fun kv=>if kv.1=k then (kv.1,v) else kv) else kvs++[(k,v)]
def LH (kvs:List (κ×V)) (k:κ):List (κ×V):=kvs.filter fun kv=>decide (kv.1≠k)
theorem xO {p:κ×V}{r:List (κ×V)}{k:κ} (e:p.1=k):nV (p::r) k=some p.2:=by simp [nV,bN,e]
theorem xP {p:κ×V}{r:List (κ×V)}{k:κ} (e:¬ p.1=k):nV (p::r) k=nV r k:=by simp [nV,bN,e]
theorem Dq (k:κ):∀ kvs:List (κ×V),(kvs.any fun kv=>decide (kv.1=k))=(nV kvs k).isSome
 | []=>rfl
 | p::r=>by
  rw [dX]
  by_cases e:p.1=k
  ·simp only [xO e,decide_eq_true e,Bool.true_or,tP]
  ·rw [xP e,decide_eq_false e,D9];exact Dq k r
theorem qi (kvs:List (κ×V)) (k:κ) (v:V):(mF kvs k v).length<=kvs.length + 1:=by
 unfold mF
 split
 ·rw [ao];omega
 ·rw [aG,aR,br];omega
theorem xL.isSome_eq {o:Option V}{u:Option ac} (r:xL o u):o.isSome=u.isSome:=by
 cases o with
 | none=>cases u with
  | none=>rfl
  | some _=>exact (show False from r).elim
 | some _=>cases u with
  | none=>exact (show False from r).elim
  | some _=>rfl
theorem KV.val {kvs:List (κ×V)}{vs:List (κ×ac)} (r:KV kvs vs) (k:κ):xL (nV kvs k) (zQ vs k):=by
 unfold KV at r
 induction r with
 | nil=>exact iE
 | @cons p q ps qs h t ih =>
  obtain ⟨h1,h2⟩:=h
  by_cases e:p.1=k
  ·have e':q.1=k:=h1.symm.trans e
   have b:zQ (q::qs) k=some q.2:=by simp [zQ,bN,e']
   rw [xO e,b];exact h2
  ·have e':¬ q.1=k:=fun z=>e (h1.trans z)
   have b:zQ (q::qs) k=zQ qs k:=by simp [zQ,bN,e']
   rw [xP e,b];exact ih
theorem KV.any {kvs:List (κ×V)}{vs:List (κ×ac)} (r:KV kvs vs) (k:κ):(kvs.any fun kv=>decide (kv.1=k))=vs.any fun kv=>decide (kv.1=k):=by
 unfold KV at r
 induction r with
 | nil=>rfl
 | cons h t ih=>rw [dX,dX,ih,h.1]
theorem KV.repl {kvs:List (κ×V)}{vs:List (κ×ac)} (r:KV kvs vs) (k:κ) {y:V}{u:ac} (ry:du y u) :
  KV (kvs.map fun kv=>if kv.1=k then (kv.1,y) else kv) (vs.map fun kv=>if kv.1=k then (kv.1,u) else kv):=by
 unfold KV at r ⊢
 induction r with
 | nil=>exact .nil
 | @cons p q ps qs h t ih =>
  rw [aB,aB]
  refine .cons ?_ ih
  obtain ⟨h1,h2⟩:=h
  by_cases e:p.1=k
  ·rw [if_pos e,if_pos (h1.symm.trans e)];exact ⟨h1,ry⟩
  ·rw [if_neg e,if_neg (fun z=>e (h1.trans z))];exact ⟨h1,h2⟩
theorem KV.put {kvs:List (κ×V)}{vs:List (κ×ac)} (r:KV kvs vs) (k:κ) {y:V}{u:ac} (ry:du y u):KV (mF kvs k y) (L9 vs k u):=by
 unfold mF L9
 rw [r.any k]
 by_cases e:(vs.any fun kv=>decide (kv.1=k))=true
 ·rw [if_pos e,if_pos e];exact r.repl k ry
 ·rw [if_neg e,if_neg e];exact Paired.snoc r ⟨rfl,ry⟩
theorem KV.length {kvs:List (κ×V)}{vs:List (κ×ac)} (r:KV kvs vs):kvs.length=vs.length:=iY r
end
theorem Dr {P:aM}{w:ba}{k:dv}{u:ac} (r:du (kV k) u):(dw P w).is k u=true:=by
 cases k with
 | inl i=>obtain ⟨t,e⟩:=(show ∃ t,u=mz i t from r);subst e;exact Di P w i t
 | inr x=>obtain ⟨t,e⟩:=(show ∃ t,u=jq x t from r);subst e;exact Dj P w x t
theorem AM {P:aM}{w:ba}:∀ {ks:List dv}{us:List ac},dJ (ks.map kV) us->ItemsAre (dw P w) ks us
 | [],_,r=>by rw [dn] at r;cases r;exact .nil
 | k::ks,_,r=>by
  rw [aB] at r
  cases r with
  | cons h t=>exact .cons (Dr h) (AM t)
abbrev KT (H:Hp):List (List dv×V)->List (List dv×aj×ac)->Prop:=FH fun p q=>p.1=q.1/\H q.2.1=some (.tup (p.1.map kV))/\du p.2 q.2.2
theorem KT.val {H:Hp}{kvs:List (List dv×V)}{xs:List (List dv×aj×ac)} (r:KT H kvs xs) (k:List dv):xL (nV kvs k) ((FM xs k).map (·.2)):=by
 induction r with
 | nil=>exact iE
 | @cons p q ps qs h t ih =>
  obtain ⟨h1,_,h2⟩:=h
  by_cases e:p.1=k
  ·have e':q.1=k:=h1.symm.trans e
   have b:FM (q::qs) k=some q.2:=by simp [FM,bN,e']
   rw [xO e,b];exact h2
  ·have e':¬ q.1=k:=fun z=>e (h1.trans z)
   have b:FM (q::qs) k=FM qs k:=by simp [FM,bN,e']
   rw [xP e,b];exact ih
theorem KT.repl {H:Hp}{kvs:List (List dv×V)}{xs:List (List dv×aj×ac)} (r:KT H kvs xs) (k:List dv) {y:V}{u:ac} (ry:du y u) :
  KT H (kvs.map fun kv=>if kv.1=k then (kv.1,y) else kv) (xs.map (putAt k u)):=by
 induction r with
 | nil=>exact .nil
 | @cons p q ps qs h t ih =>
  rw [aB,aB]
  refine .cons ?_ ih
  obtain ⟨h1,h2,h3⟩:=h
  unfold putAt
  by_cases e:p.1=k
  ·rw [if_pos e,if_pos (h1.symm.trans e)];exact ⟨h1,h2,ry⟩
  ·rw [if_neg e,if_neg (fun z=>e (h1.trans z))];exact ⟨h1,h2,h3⟩
theorem KT.put {H:Hp}{kvs:List (List dv×V)}{xs:List (List dv×aj×ac)} (r:KT H kvs xs) (k:List dv) {b:aj}{y:V}{u:ac} (hb:H b=some (.tup (k.map kV))) (ry:du y u) :
  KT H (mF kvs k y) (storedH xs k b u):=by
 have e:(kvs.any fun kv=>decide (kv.1=k))=(FM xs k).isSome:=by
  rw [Dq,(r.val k).isSome_eq,v5]
 unfold mF storedH
 rw [e]
 by_cases q:(FM xs k).isSome=true
 ·rw [if_pos q,if_pos q];exact r.repl k ry
 ·rw [if_neg q,if_neg q];exact Paired.snoc r ⟨rfl,hb,ry⟩
theorem KT.keeps {H H':Hp}{kvs:List (List dv×V)}{xs:List (List dv×aj×ac)} (r:KT H kvs xs) (ht:∀ b ys,H b=some (.tup ys)->H' b=some (.tup ys)):KT H' kvs xs :=
 Paired.mapP r fun _ _ z=>⟨z.1,ht _ _ z.2.1,z.2.2⟩
section
variable {P:aM}{w:ba}{H:Hp}{h:bB}{a:aj}
theorem QS {u:HO} (ok:pP P w H h) (e:Rd H a u):dA P w H h a u:=e.ok ok
theorem Ds {kvs:List (dv×V)} (ok:pP P w H h) (e:Rd H a (.dK kvs)):kvs.length<=sizeLine/\(a == fN)=false/\∃ vs,KV kvs vs/\h.DictOf (dw P w) a vs :=
 show dA P w H h a (.dK kvs) from QS ok e
theorem Uc {kvs:List (dv×V)} (ok:pP P w H h) (e:H a=some (.dK kvs)):kvs.length<=sizeLine/\(a == fN)=false/\∃ vs,KV kvs vs/\h.DictOf (dw P w) a vs:=Ds ok (.inl e)
theorem vp {ks:List dv} (ok:pP P w H h) (e:H a=some (.tup (ks.map kV))):(rA (dw P w)).is h ks a:=by
 obtain ⟨_,its,r,o,h1,h2,n,h3⟩:=(show dA P w H h a (.tup (ks.map kV)) from ok a _ e)
 exact ⟨o,its.toArray,n,h1,h2,h3,by simpa using AM r⟩
theorem Dt {kvs:List (List dv×V)} (ok:pP P w H h) (e:Rd H a (.dT kvs)):kvs.length<=sizeLine/\(a == fN)=false /\
  ∃ xs,KT H kvs xs/\h.DictOfH (rA (dw P w)) a xs:=by
 obtain ⟨z,y,xs,r,o,es,ep,h1,h2,h3,h4,h5⟩:=(show dA P w H h a (.dT kvs) from QS ok e)
 refine ⟨z,y,xs,r,o,es,ep,h1,h2,h3,h4,fun x hx=>?_,h5⟩
 have all:∀ {l:List (List dv×V)}{m:List (List dv×aj×ac)},KT H l m->∀ x∈m,(rA (dw P w)).is h x.1 x.2.1:=by
  intro l m q
  induction q with
  | nil=>intro x hx;exact nomatch hx
  | @cons p q ps qs hq t ih =>
   intro x hx
   rcases List.mem_cons.mp hx with e | hx
   ·subst e
    exact vp ok (by rw [<- hq.1];exact hq.2.1)
   ·exact ih x hx
 exact all r x hx
theorem QT {kvs:List (List dv×V)} (ok:pP P w H h) (e:H a=some (.dT kvs)):kvs.length<=sizeLine/\(a == fN)=false /\
  ∃ xs,KT H kvs xs/\h.DictOfH (rA (dw P w)) a xs:=Dt ok (.inl e)
end
def wW (H:Hp) (a:aj) (y:V) (r:Option V):Prop :=
 (∃ kvs k,Rd H a (.dK kvs)/\y=kV k/\r=nV kvs k)\/∃ kvs k b,Rd H a (.dT kvs)/\y=.ref b/\H b=some (.tup (k.map kV))/\r=nV kvs k
def Du (H:Hp) (a:aj) (y v:V) (H':Hp):Prop :=
 (∃ kvs k,H a=some (.dK kvs)/\y=kV k/\kvs.length<sizeLine/\H'=upd H a (.dK (mF kvs k v))) \/
 ∃ kvs k b,H a=some (.dT kvs)/\y=.ref b/\H b=some (.tup (k.map kV))/\kvs.length<sizeLine/\H'=upd H a (.dT (mF kvs k v))
theorem wW.k {H:Hp}{a:aj}{kvs:List (dv×V)}{k:dv} (e:H a=some (.dK kvs)):wW H a (kV k) (nV kvs k):=.inl ⟨kvs,k,.inl e,rfl,rfl⟩
theorem wW.t {H:Hp}{a b:aj}{kvs:List (List dv×V)}{k:List dv} (e:H a=some (.dT kvs)) (eb:H b=some (.tup (k.map kV))):wW H a (.ref b) (nV kvs k):=.inr ⟨kvs,k,b,.inl e,rfl,eb,rfl⟩
theorem Du.k {H:Hp}{a:aj}{kvs:List (dv×V)}{k:dv}{v:V} (e:H a=some (.dK kvs)) (hl:kvs.length<sizeLine):Du H a (kV k) v (upd H a (.dK (mF kvs k v))):=.inl ⟨kvs,k,e,rfl,hl,rfl⟩
theorem Du.t {H:Hp}{a b:aj}{kvs:List (List dv×V)}{k:List dv}{v:V} (e:H a=some (.dT kvs)) (eb:H b=some (.tup (k.map kV))) (hl:kvs.length<sizeLine) :
  Du H a (.ref b) v (upd H a (.dT (mF kvs k v))):=.inr ⟨kvs,k,b,e,rfl,eb,hl,rfl⟩
section
variable {X:Cx}{pins:List (aj×Obj)}{σ:St}{H:Hp}{s:ag}{a:aj}{y v:V}{u r:ac}{o:Option V}{A:bv}{E:ac->ag->Prop}
theorem bP.big (I:bP X pins σ H s):fN<s.heap.objs.size:=by
 have h:bY<s.heap.objs.size:=(I.mod.glob.keeps I.bk).lt
 exact wO (by decide) h
theorem Ju {Q:ac->ag->Prop} (hu:A.units + 1<kX) (I:bP X pins σ H s) (g:wW H a y (some v)) (ry:du y u) (h:∀ w' s',bP X pins σ H s'->du v w'->Q w' s') :
  au (aO X.prog X.w) A (pT (.ref a) u) Q E s:=by
 rcases g with ⟨kvs,k,e,ey,l⟩ | ⟨kvs,k,b,e,ey,eb,l⟩
 ·subst ey
  obtain ⟨z,hd,vs,rel,dd⟩:=Ds I.hok e
  obtain ⟨w',hw,rw'⟩:=xL.some_of (v:=v) (o:=zQ vs k) (by rw [l];exact rel.val k)
  exact wpAny_getItem_of (Dr ry) dd.mapOf hw (h w' _ (I.tok _) rw')
 ·subst ey
  cases (show u=bX b from ry)
  obtain ⟨z,hd,xs,rel,dd⟩:=Dt I.hok e
  obtain ⟨w',hw,rw'⟩:=xL.some_of (v:=v) (o:=(FM xs k).map (·.2)) (by rw [l];exact rel.val k)
  obtain ⟨p,hp,hp2⟩:=Option.map_eq_some_iff.mp hw
  refine wpAny_getItem_heap (oz hu) (vp I.hok eb) dd hp ?_
  rw [hp2]
  exact h w' _ (I.tok _) rw'
theorem d_in {Q:ac->ag->Prop} (hu:A.units + 1<kX) (I:bP X pins σ H s) (g:wW H a y o) (ry:du y u) (h:∀ s',bP X pins σ H s'->Q (.bool o.isSome) s') :
  au (aO X.prog X.w) A (bI .In u (.ref a)) Q E s:=by
 rcases g with ⟨kvs,k,e,ey,l⟩ | ⟨kvs,k,b,e,ey,eb,l⟩
 ·subst ey
  obtain ⟨z,hd,vs,rel,dd⟩:=Ds I.hok e
  refine wpAny_in_of (Dr ry) hd dd.mapOf ?_
  rw [<- (rel.val k).isSome_eq,<- l]
  exact h _ (I.tok _)
 ·subst ey
  cases (show u=bX b from ry)
  obtain ⟨z,hd,xs,rel,dd⟩:=Dt I.hok e
  refine wpAny_in_heap (oz hu) (vp I.hok eb) hd dd ?_
  have q:=(rel.val k).isSome_eq
  rw [v5] at q
  rw [<- q,<- l]
  exact h _ (I.tok _)
theorem Pn {Q:ac->ag->Prop} (hu:A.units + 1<kX) (I:bP X pins σ H s) (g:wW H a y o) (ry:du y u) (h:∀ s',bP X pins σ H s'->Q (.bool (!o.isSome)) s') :
  au (aO X.prog X.w) A (bI .NotIn u (.ref a)) Q E s:=by
 rcases g with ⟨kvs,k,e,ey,l⟩ | ⟨kvs,k,b,e,ey,eb,l⟩
 ·subst ey
  obtain ⟨z,hd,vs,rel,dd⟩:=Ds I.hok e
  refine wpAny_notIn_of (Dr ry) hd dd.mapOf ?_
  rw [<- (rel.val k).isSome_eq,<- l]
  exact h _ (I.tok _)
 ·subst ey
  cases (show u=bX b from ry)
  obtain ⟨z,hd,xs,rel,dd⟩:=Dt I.hok e
  refine wpAny_notIn_heap (oz hu) (vp I.hok eb) hd dd ?_
  have q:=(rel.val k).isSome_eq
  rw [v5] at q
  rw [<- q,<- l]
  exact h _ (I.tok _)
theorem BN {h':bB}{t':Nat}{ob:HO} (I:bP X pins σ H s) (mu:TC (H a)) (hs:bH a s.heap h') (he:∃ q,h'.get? a=some q) (new:dA X.prog X.w (upd H a ob) h' a ob) :
  bP X pins σ (upd H a ob) { s with heap:=h',toks:=t' } :=
 I.write (x:=a) (e:=a) mu (.inl rfl) (fun b q hb z=>(hs.2 b hb).trans z) he new
theorem Sx {P:aM}{w:ba}{H':Hp}{h':bB}{kvs:List (dv×V)}{vs:List (dv×ac)} (z:kvs.length<=sizeLine) (hd:(a == fN)=false) (rel:KV kvs vs) (dd:h'.DictOf (dw P w) a vs) :
  dA P w H' h' a (.dK kvs):=⟨z,hd,vs,rel,dd⟩
theorem Jv {H':Hp}{Q:Unit->ag->Prop} (hu:A.units + 1<kX) (I:bP X pins σ H s) (g:Du H a y v H') (ry:du y u) (rv:du v r) (h:∀ s',bP X pins σ H' s'->Q () s') :
  au (aO X.prog X.w) A (setItem (.ref a) u r) Q E s:=by
 rcases g with ⟨kvs,k,e,ey,l,eH⟩ | ⟨kvs,k,b,e,ey,eb,l,eH⟩
 ·subst ey eH
  obtain ⟨z,hd,vs,rel,dd⟩:=Uc I.hok e
  have hz:vs.length<=sizeLine:=by rw [<- rel.length];exact z
  have hl:(mF kvs k v).length<=sizeLine:=by have:=qi kvs k v;omega
  refine wpAny_setItem_pairs (hsz:=hz) (Dr ry) dd fun h' dd' hs=>h _ ?_
  have he:∃ q,h'.get? a=some q:=let ⟨q,_,_,hq,_⟩:=dd';⟨q,hq⟩
  exact BN I (by rw [e];exact iE) hs he (Sx hl hd (rel.put k rv) dd')
 ·subst ey eH
  cases (show u=bX b from ry)
  obtain ⟨z,hd,xs,rel,dd⟩:=QT I.hok e
  have hz:xs.length<=sizeLine:=by rw [<- iY rel];exact z
  have hl:(mF kvs k v).length<=sizeLine:=by have:=qi kvs k v;omega
  refine wpAny_setItem_heap (hsz:=hz) (oz hu) (vp I.hok eb) dd fun h' dd' hs=>h _ ?_
  obtain ⟨q,es,ep,hq,h2,h3,h4,_,h5⟩:=dd'
  refine BN I (by rw [e];exact iE) hs ⟨q,hq⟩ ⟨hl,hd,_,(rel.put k eb rv).keeps fun c ys ec=>?_,q,es,ep,hq,h2,h3,h4,h5⟩
  rw [bt (Lj ec e (fun z=>nomatch z))]
  exact ec
end
section
variable {X:Cx}{pins:List (aj×Obj)}{σ:St}{H:Hp}{s:ag}{a:aj}{kvs:List (dv×V)}{k:dv}{u:ac}{A:bv}{E:ac->ag->Prop}
end
def Ud (i:aX):Prop:=∀ ov iv,D8 i false ov iv=operate [ov,iv] (pT ov iv)
theorem Po {prog:aM}{w:ba}{A:bv}{E:ac->ag->Prop}{s:ag}{env:Env}{value slice:aX}{pos:Pos}{T id:String}{Q:ac->ag->Prop}
  (hl:FK (.type T) "__getitem__"=pure (some (.builtin id))) (hs:Ud slice)
  (h:au (aO prog w) A (dE value env) (fun o s₁=>au (aO prog w) A (dE slice env) (fun i s₂=>s₂.TypeIs o T/\au (aO prog w) A (pT o i) Q E s₂) E s₁) E s) :
  au (aO prog w) A (dE (.Subscript value slice pos) env) Q E s:=by
 refine Subscript_ (bQ h (fun o s₁ h₁=>bQ h₁ (fun i s₂ h₂=>?_) fun _ _ x=>x) fun _ _ x=>x)
 obtain ⟨hT,h₂⟩:=h₂
 unfold J6
 refine a7 ?_
 rw [getitemInPython_of_ne hT.not_modules]
 refine a7 (wpAny_specialOf hT hl ?_)
 have fin:au (aO prog w) A (D8 slice false o i) (fun r s₃=>au (aO prog w) A (letTemporaryGo value o r >>= fun _=>pure r) Q E s₃) E s₂:=by
  rw [hs o i]
  exact wpAny_operating (bQ h₂ (fun r s₃ h₃=>a7 (wpAny_letTemporaryGo (ae h₃))) fun _ _ x=>x)
 first
  | exact ae (a7 fin)
  | exact a7 (ae (a7 fin))
  | exact a7 fin
theorem Dv {X:Cx}{pins:List (aj×Obj)}{σ:St}{H:Hp}{s:ag}{a:aj}{y:V}{o:Option V} (I:bP X pins σ H s) (g:wW H a y o):s.TypeIs (.ref a) "dict":=by
 rcases g with ⟨kvs,k,e,_,_⟩ | ⟨kvs,k,b,e,_,_,_⟩
 ·obtain ⟨_,_,vs,_,dd⟩:=Ds I.hok e
  exact dd.typeIs
 ·obtain ⟨_,_,xs,_,dd⟩:=Dt I.hok e
  exact dd.typeIs
def Ue (td ty:TE):TE:=fun σ H Q=>td σ H fun x H1=>ty σ H1 fun y H2=>∃ a v,x=.ref a/\wW H2 a y (some v)/\Q v H2
def QU (td ty tv:TE):TS:=fun D σ H=>tv σ H fun v H1=>td σ H1 fun x H2=>ty σ H2 fun y H3=>∃ a H4,x=.ref a/\Du H3 a y v H4/\D.nx σ H4
section
variable {X:Cx}{o i e value:aX}{pos pos' tpos:Pos}{td ty tv:TE}
theorem Hx (hu:X.A.units + 1<kX) (ho:PE X o td) (hi:PE X i ty) (hs:Ud i):PE X (.Subscript o i pos) (Ue td ty):=by
 intro pins s σ H Q I h
 refine Po PySem.F.slot_dict_getitem.lookup hs (fk (ho pins s σ H _ I h) fun u s1 ⟨x,H1,I1,rx,q1⟩=>fk (hi pins s1 σ H1 _ I1 q1) fun iv s2 ⟨y,H2,I2,ry,a,v,ex,g,q2⟩=>?_)
 subst ex
 obtain rfl:u=bX a:=rx
 exact ⟨Dv I2 g,Ju hu I2 g ry fun w' s3 I3 rw'=>⟨v,H2,I3,rw',q2⟩⟩
theorem Hy (hu:X.A.units + 1<kX) (ho:PE X o td) (hi:PE X i ty) (hv:PE X value tv) (hs:gW value (some (.Subscript o i pos')) pos.line X.env=pure false) :
  PS X (.Assign [.Subscript o i pos'] value pos) (QU td ty tv):=by
 intro pins s σ H D I h
 refine wpAny_Assign_Subscript (fk (hv pins s σ H _ I h) fun r s1 ⟨v,H1,I1,rv,q1⟩=>fk (ho pins s1 σ H1 _ I1 q1) fun u s2 ⟨x,H2,I2,rx,q2⟩=>fk (hi pins s2 σ H2 _ I2 q2) fun iv s3 ⟨y,H3,I3,ry,a,H4,ex,g,q3⟩=>?_) hs
 subst ex
 obtain rfl:u=bX a:=rx
 exact Jv hu I3 g ry rv fun s4 I4=>⟨σ,H4,I4,q3⟩
end
theorem LI {P:aM}{w:ba}{H:Hp} (h:bB) (hb:fN<h.objs.size):dA P w H (h.push { cls:=.type "dict",data:=.dict #[] }) h.objs.size (.dK []) :=
 ⟨cE _,beq_eq_false_iff_ne.mpr (db (aF hb)),[],.nil,Fv h⟩
theorem LJ {P:aM}{w:ba}{H:Hp} (h:bB) (hb:fN<h.objs.size):dA P w H (h.push { cls:=.type "dict",data:=.dict #[] }) h.objs.size (.dT []) :=
 ⟨cE _,beq_eq_false_iff_ne.mpr (db (aF hb)),[],.nil,_,#[],0,ax _ rfl,⟨rfl,rfl,rfl⟩,rfl,rfl,gz⟩
def Sy:TE:=fun _ H Q=>∀ p,H p=none->Q (.ref p) (upd H p (.dK []))
section
variable {X:Cx}{pos:Pos}
theorem LK:PE X (.Dict [] [] pos) Sy:=fun pins s σ H Q I h =>
 wpAny_Dict_empty ⟨.ref s.heap.objs.size,_,I.laid (a:=s.heap.objs.size) (o:=.dK []) (t':=s.toks) (fun _ _ q=>af _ q) (ar _) (LI s.heap I.big),rfl,h _ (I.hok.fresh (ar _))⟩
end
section
variable {X:Cx}{pins:List (aj×Obj)}{σ:St}{H:Hp}{s:ag}{a:aj}{y d:V}{u r:ac}{o:Option V}{A:bv}{E:ac->ag->Prop}
end
section
variable {X:Cx}{o e f:aX}{apos cpos:Pos}{td ty tx:TE}
end
section
variable {X:Cx}{pins:List (aj×Obj)}{σ:St}{H:Hp}{s:ag}{a:aj}{kvs:List (dv×V)}{A:bv}{E:ac->ag->Prop}
end
section
variable {X:Cx}{pins:List (aj×Obj)}{σ:St}{H:Hp}{s:ag}{a:aj}{y:V}{u:ac}{A:bv}{E:ac->ag->Prop}
end
end L2
namespace L2
open PySem PySem.Spec PyProof.Rows
section
variable {X:Cx}
end
section
variable {κ:Type} [DecidableEq κ]
theorem xp:∀ {l:List κ}{k:κ},l.Nodup->¬ k∈l->(l++[k]).Nodup
 | [],k,_,_=>by simp
 | a::r,k,h,hk=>by
  obtain ⟨h1,h2⟩:=List.nodup_cons.mp h
  show (a::(r++[k])).Nodup
  refine List.nodup_cons.mpr ⟨fun m=>?_,xp h2 fun m=>hk (List.mem_cons.mpr (fv m))⟩
  rcases List.mem_append.mp m with q | q
  ·exact h1 q
  ·exact hk (List.mem_cons.mpr (iP (List.mem_singleton.mp q).symm))
end
end L2
end
namespace L2
open PySem PySem.Spec PyProof.Rows
section
section
variable {prog:aM}{w:ba}{A:bv}{R:vb->ag->Prop}{s:ag}
theorem BO {elt target iter:aX}{ifs:List aX}{scope:eO}{pos:Pos}{it acc:ac}{env:Env} (I:Nat->ag->Prop)
  (turn:∀ n s,I n s->au (aO prog w) A (jr it) (fun r s₁=>match r with
   | none=>R (.ok .next) s₁
   | some v=>au (aO prog w) A (gn target it v) (fun _ s₁'=>au (aO prog w) A (p_ target env v) (fun _ s₂ =>
     au (aO prog w) A (forIn ifs true fun c r=>if r=true then do let ok <- v8 c env (dE c env);pure (fB ok) else pure (fB r)) (fun ok s₃ =>
      if ok=true then au (aO prog w) A (dE elt env) (fun x s₄ =>
       au (aO prog w) A (call (.builtin "list.append") [acc,x]) (fun _ s₅=>∃ m,m<n/\I m s₅) (fun _ _=>False) s₄) (fun _ _=>False) s₃
      else ∃ m,m<n/\I m s₃) (fun _ _=>False) s₂) (fun _ _=>False) s₁') (fun _ _=>False) s₁) (fun _ _=>False) s)
  (n:Nat) (h:I n s) :
  iN (aO prog w) A (.compLoop (.ListComp elt [⟨target,iter,ifs,0⟩] scope pos) 0 it acc env) R s:=by
 refine codeAny_loop rfl I (fun n s hI=>?_) n h
 show au _ A ((compTurn (.ListComp elt [⟨target,iter,ifs,0⟩] scope pos) 0 it acc env).onRaise (fun x=>do noteFrame x env;theTreesLotGoes x)) _ _ s
 refine wpAny_noted ?_
 rw [compTurn_list]
 have nf:∀ {α:Type}{t:Sem α}{Q:α->ag->Prop}{E':ac->ag->Prop}{s:ag},au (aO prog w) A t Q (fun _ _=>False) s->au (aO prog w) A t Q E' s :=
  fun h=>bQ h (fun _ _ q=>q) fun _ _ f=>f.elim
 refine a7 (iC (a7 (nf (bQ (turn n s hI) (fun r s₁ h₁=>?_) fun _ _ h'=>h'))))
 cases r with
 | none=>exact ae h₁
 | some v =>
  refine a7 (nf (bQ h₁ (fun _ s₁' h₁'=>?_) fun _ _ h'=>h'))
  refine a7 (nf (bQ h₁' (fun _ s₂ h₂=>a7 (nf (bQ h₂ (fun ok s₃ h₃=>?_) fun _ _ h'=>h'))) fun _ _ h'=>h'))
  cases ok with
  | false=>exact ae ⟨rfl,h₃⟩
  | true =>
   exact a7 (a7 (nf (bQ h₃ (fun x s₄ h₄=>a7 (nf (bQ h₄ (fun _ s₅ h₅=>ae (ae ⟨rfl,h₅⟩)) fun _ _ h'=>h'))) fun _ _ h'=>h')))
end
theorem Gb {env : Env} (names : List (Str × jM)) : ∀ (cs : List (Str × aj)), (∀ y ∈ names, y.2 = .free -> ∃ c, env.cells.lookup y.1 = some c) ->
    (∀ x c, cs.lookup x = some c -> env.cells.lookup x = some c) ->
    ∃ cl, (forIn names cs fun (x : Str × jM) (cs : List (Str × aj)) => match x with
        | (name, kind) => if (kind == cn) = true then do let a <- cellOf env name; pure (fB ((name, a) :: cs)) else pure (fB cs) : Sem (List (Str × aj))) = pure cl /\
      (∀ x c, cl.lookup x = some c -> env.cells.lookup x = some c) /\ (∀ y ∈ names, y.2 = .free -> ∃ c, cl.lookup y.1 = some c) /\ (∀ x c, cs.lookup x = some c -> ∃ c', cl.lookup x = some c') := by
  induction names with
  | nil => intro cs _ h2; exact ⟨cs, rfl, h2, fun _ h => absurd h (by simp), fun x c h => ⟨c, h⟩⟩
  | cons nk r ih =>
    obtain ⟨n, k⟩ := nk
    intro cs h1 h2
    by_cases hk : k = .free
    · subst hk
      obtain ⟨a, ha⟩ := h1 (n, .free) am rfl
      have h2' : ∀ x c, ((n, a) :: cs).lookup x = some c -> env.cells.lookup x = some c := fun x c h => by
        rw [cQ] at h
        cases e : x == n with
        | true => rw [e] at h; have : x = n := by simpa using e
                  subst this; cases h; exact ha
        | false => rw [e] at h; exact h2 x c h
      obtain ⟨cl, e1, e2, e3, e4⟩ := ih ((n, a) :: cs) (fun y hy => h1 y (ak _ hy)) h2'
      refine ⟨cl, ?_, e2, fun y hy hf => ?_, fun x c h => ?_⟩
      · rw [jl]
        have hc : cellOf env n = pure a := by unfold cellOf; rw [ha]
        simp only [beq_self_eq_true, if_true, hc]
        exact e1
      · rcases List.mem_cons.mp hy with rfl | hy
        · exact e4 n a (by simp)
        · exact e3 y hy hf
      · cases e : x == n with
        | true => exact e4 x a (by rw [cQ, e])
        | false => exact e4 x c (by rw [cQ, e]; exact h)
    · obtain ⟨cl, e1, e2, e3, e4⟩ := ih cs (fun y hy => h1 y (ak _ hy)) h2
      refine ⟨cl, ?_, e2, fun y hy hf => ?_, e4⟩
      · rw [jl]
        have hk' : (k == cn) = false := by simpa using hk
        simp only [hk', bJ, if_false]
        exact e1
      · rcases List.mem_cons.mp hy with rfl | hy
        · exact absurd hf hk
        · exact e3 y hy hf
theorem sy {scope:eO}{env:Env} (h:∀ y∈scope.names,y.2=.free->∃ c,env.cells.lookup y.1=some c):∃ cl,closureFor scope env=pure cl /\
  (∀ x c,cl.lookup x=some c->env.cells.lookup x=some c)/\(∀ y∈scope.names,y.2=.free->∃ c,cl.lookup y.1=some c):=by
 obtain ⟨cl,e1,e2,e3,_⟩:=Gb (env:=env) scope.names [] h (fun x c h=>by simp at h)
 refine ⟨cl,?_,e2,e3⟩
 simp only [closureFor]
 rw [show (forIn scope.names ([] : List (Str×aj)) fun x r=>_)=(pure cl:Sem (List (Str×aj))) from e1]
 rfl
end
section
def cO (X:Cx) (N':List Str) (scope:eO) (cl:List (Str×aj)) (C:aj) (s₀:ag) (H₀:Hp) (ex:List aj) (pn:List (aj×Obj)):Cx :=
 { X with N:=N',s₀:=s₀,H₀:=H₀,env:=compEnvC scope cl C X.env,outer:=X.stack,stack:=X.stack,ex:=ex,fn:=fun y=>scope.names.lookup y == some .cell,pn:=pn,xe:=fun _ _=>False }
def Oz (X:Cx) (ifs:List aX) (t:TT):Prop :=
 ∀ (pins:List (aj×Obj)) (s:ag) (σ:St) (H:Hp) (Q:Bool->Hp->Prop),bP X pins σ H s->t σ H Q ->
  au (aO X.prog X.w) X.A (forIn ifs true fun c r=>if r=true then do let ok <- v8 c X.env (dE c X.env);pure (fB ok) else pure (fB r)) (TP X pins σ Q) X.xe s
def Wn:TT:=fun _ H Q=>Q true H
theorem Pp {X:Cx}:Oz X [] Wn:=fun pins s σ H Q I h=>wpAny_tests_nil ⟨H,I,h⟩
theorem Pq {X:Cx}{c:aX}{t:TT} (h:PT X c t):Oz X [c] t:=fun pins s σ H Q I hw=>wpAny_tests_one (h pins s σ H Q I hw)
structure nA (X:Cx) (scope:eO) (N':List Str) (nt:Nat) (ix:List Nat):Prop where
 kind:scope.kind=.function
 cel:∀ y∈scope.names,y.2=.cell->scope.names.lookup y.1=some .cell
 loc:∀ y∈scope.names,y.2=.local->scope.names.lookup y.1=some .local
 free:∀ y∈scope.names,y.2=.free->X.env.scope.names.lookup y.1=some .cell\/X.env.scope.names.lookup y.1=some .free
 cap:∀ k i,ix[k]?=some i->∃ x,X.N[i]?=some x/\N'[nt + k]?=some x/\scope.names.lookup x=some .free
 len:N'.length=nt + ix.length
def jo (nt:Nat) (ix:List Nat) (σ:St):St:=rN nt none++ix.map fun i=>(σ[i]?).join
theorem rJ {env:Env}{x:Str}{names:List (Str×jM)}:names.lookup x=some .free ->
  (names.map fun (n,k)=>if (k == cn && env.scope.kind == .function && env.kindOf n == some .cell) then (n,dQ) else (n,k)).lookup x=some .free \/
  (names.map fun (n,k)=>if (k == cn && env.scope.kind == .function && env.kindOf n == some .cell) then (n,dQ) else (n,k)).lookup x=some .cell:=by
 induction names with
 | nil=>intro h;simp at h
 | cons nk r ih =>
  obtain ⟨n,k⟩:=nk
  intro h
  show xF x ((if (k == cn && env.scope.kind == .function && env.kindOf n == some .cell)=true then (n,dQ) else (n,k))::_)=_ \/
   xF x ((if (k == cn && env.scope.kind == .function && env.kindOf n == some .cell)=true then (n,dQ) else (n,k))::_)=_
  cases hx:x == n with
  | true =>
   simp only [cQ,hx] at h
   cases h
   by_cases hc:(cn == cn && env.scope.kind == .function && env.kindOf n == some .cell)=true
   ·rw [if_pos hc];right;simp [cQ,hx]
   ·rw [if_neg hc];left;simp [cQ,hx]
  | false =>
   simp only [cQ,hx] at h
   by_cases hc:(k == cn && env.scope.kind == .function && env.kindOf n == some .cell)=true
   ·rw [if_pos hc];simp only [cQ,hx];exact ih h
   ·rw [if_neg hc];simp only [cQ,hx];exact ih h
theorem uh {env:Env}{x:Str}{names:List (Str×jM)} :
  ((names.map fun (n,k)=>if (k == cn && env.scope.kind == .function && env.kindOf n == some .cell) then (n,dQ) else (n,k)).lookup x=some .free \/
  (names.map fun (n,k)=>if (k == cn && env.scope.kind == .function && env.kindOf n == some .cell) then (n,dQ) else (n,k)).lookup x=some .cell) ->
  (x,cn)∈names\/(x,dQ)∈names:=by
 induction names with
 | nil=>intro h;simp at h
 | cons nk r ih =>
  obtain ⟨n,k⟩:=nk
  intro h
  have h:xF x ((if (k == cn && env.scope.kind == .function && env.kindOf n == some .cell)=true then (n,dQ) else (n,k))::_)=_ \/
   xF x ((if (k == cn && env.scope.kind == .function && env.kindOf n == some .cell)=true then (n,dQ) else (n,k))::_)=_:=h
  cases hx:x == n with
  | true =>
   have e:x=n:=by simpa using hx
   subst e
   by_cases hc:(k == cn && env.scope.kind == .function && env.kindOf x == some .cell)=true
   ·have:k=.free:=by simp at hc;exact hc.1.1
    subst this;left;exact am
   ·rw [if_neg hc] at h;simp only [cQ,hx] at h
    rcases h with h | h
    ·cases h;left;exact am
    ·cases h;right;exact am
  | false =>
   have h':=ih (by
    by_cases hc:(k == cn && env.scope.kind == .function && env.kindOf n == some .cell)=true
    ·rw [if_pos hc] at h;simp only [cQ,hx] at h;exact h
    ·rw [if_neg hc] at h;simp only [cQ,hx] at h;exact h)
   rcases h' with h' | h'
   ·left;exact ak _ h'
   ·right;exact ak _ h'
inductive QV (nt:Nat) (ix:List Nat) (g:TG) (tt:TT) (te:TE) (σ:St) (Q:VK) (J:It) (H1:Hp):Prop
 | mk (W:Nat->Nat->List V->Hp->Prop) (w0:∃ m,W 0 m [] H1) (turn:∀ i m acc H,W i m acc H ->
 (J.stop i H/\∀ p,H p=none->Q (.ref p) (upd H p (.lst acc))) \/
 (J.go i H/\acc.length<sizeLine/\∀ x H',J.yld i H x H'->g x (jo nt ix σ) H' fun σ2 H2=>tt σ2 H2 fun b H3 =>
  if b=true then te σ2 H3 fun y H4=>∃ m',m'<m/\W (i + 1) m' (acc++[y]) H4 else ∃ m',m'<m/\W (i + 1) m' acc H3)):QV nt ix g tt te σ Q J H1
def LL (nt:Nat) (ix:List Nat) (wi:TI) (g:TG) (tt:TT) (te:TE):TE:=fun σ H Q=>wi σ H (QV nt ix g tt te σ Q)
theorem iU:∀ (names:List (Str×jM)) (n:Nat) (acc:List (Str×aj)),bj n names acc=bj n names []++acc
 | [],_,_=>rfl
 | (y,k)::r,n,acc=>by
  unfold bj
  split
  ·rw [iU r (n + 1) ((y,n)::acc),iU r (n + 1) [(y,n)],nQ];rfl
  ·exact iU r n acc
theorem nB {x:Str}{c:aj}:∀ (names:List (Str×jM)) (n:Nat) (acc:List (Str×aj)),(x,c)∈bj n names acc->(x,dQ)∈names\/(x,c)∈acc
 | [],_,_,h=>.inr h
 | (y,k)::r,n,acc,h=>by
  unfold bj at h
  split at h
  ·rename_i hk
   have hk:k=.cell:=by simpa using hk
   rcases nB r _ _ h with z | z
   ·exact .inl (ak _ z)
   ·rcases List.mem_cons.mp z with z | z
    ·cases z;subst hk;exact .inl am
    ·exact .inr z
  ·exact (nB r _ _ h).imp (ak _) id
theorem kM {names:List (Str×jM)}{n:Nat}{cl:List (Str×aj)}{x:Str}{c:aj} (h:(bj n names cl).lookup x=some c) :
  (x,c)∈bj n names []\/((bj n names []).lookup x=none/\cl.lookup x=some c):=by
 rw [iU,KP] at h
 cases e:(bj n names []).lookup x with
 | some d=>rw [e] at h;cases h;exact .inl (dz e)
 | none=>rw [e] at h;exact .inr ⟨rfl,h⟩
theorem Hz {M:KJ}{A:bv}{E:ac->ag->Prop}{s:ag}{scope:eO}{globals:aj}{cl:List (Str×aj)}{qual:Str}{func:Option aj}{code:ac}{outer:Env}{builtins:aj}{Q:Env->ag->Prop}
  (hQ:∀ h₁,h₁=pushCells (s.heap.push { cls:=.type "dict",data:=.dict #[] }) scope.names->Q (newEnv scope s.heap.objs.size globals (bj (s.heap.objs.size + 1) scope.names cl) qual func code (some outer) builtins) { s with heap:=h₁ }) :
  au M A (ve scope globals cl [] qual func code (some outer) builtins) Q E s:=by
 simp only [ve,tP,if_true]
 refine a7 (OG ?_)
 refine a7 (wpAny_layCells _ (fun name kind cells=>by cases hkc:kind == dQ<;>simp [hkc]) _ _ _ _ ?_)
 rw [show ({ s with heap:=s.heap.push { cls:=.type "dict",data:=.dict #[] } }:ag).heap.objs.size=s.heap.objs.size + 1 from cp ..]
 refine a7 ?_
 rw [mJ]
 exact ae (ae (hQ _ rfl))
theorem AN (h:bB) (names:List (Str×jM)):CellsOk (pushCells (h.push { cls:=.type "dict",data:=.dict #[] }) names) (h.objs.size + 1) (bj (h.objs.size + 1) names []):=by
 have ok:=cellsFrom_ok names (h.push { cls:=.type "dict",data:=.dict #[] }) (h.objs.size + 1) [] ⟨fun _ _ hm=>(nomatch hm),AA⟩ (by rw [cp];exact ar _)
 rw [cp] at ok
 exact ok
section
variable {X:Cx}{pins:List (aj×Obj)}{σ:St}{H:Hp}{s:ag}
theorem Dw {scope:eO}{N':List Str}{nt:Nat}{ix:List Nat}{cl:List (Str×aj)}{C:aj}{fp:List aj}{h₁:bB}{t':Nat}{m:Str->Option ac}
  (S:nA X scope N' nt ix) (I:bP X pins σ H s) (c1:∀ x c,cl.lookup x=some c->X.env.cells.lookup x=some c) (c2:∀ y∈scope.names,y.2=.free->∃ c,cl.lookup y.1=some c)
  (hf:∀ b∈fp,qf X pins H b) (ff:∀ b∈fp,b<s.heap.objs.size) (hC:s.heap.objs.size<=C) (hns:h₁.Ns C m) (old:∀ b o,s.heap.get? b=some o->h₁.get? b=some o) (ok:CellsOk h₁ (C + 1) (bj (C + 1) scope.names [])) :
  bP (cO X N' scope (bj (C + 1) scope.names cl) C s H fp (X.pn++pins)) [] (jo nt ix σ) H { s with heap:=h₁,toks:=t' }:=by
 have cellOld:∀ {c v},s.heap.IsCell c v->h₁.IsCell c v:=fun {c v} ⟨o,ho,hd⟩=>⟨o,old _ _ ho,hd⟩
 have up:∀ {x c},(x,c)∈bj (C + 1) scope.names []->s.heap.objs.size<c:=fun {x c} h=>aJ (jT hC) (ok.empty x c h).2
 have low:∀ {x c},cl.lookup x=some c->c<s.heap.objs.size:=fun {x c} h=>by
  obtain ⟨v,q⟩:=I.cell x c (c1 x c h)
  exact q.lt
 refine ⟨⟨I.ok.mod,S.kind,I.ok.glob,I.ok.blt,hC,fun x y c h1 h2=>?_,fun x hx=>?_,fun x c h h2=>?_,I.ok.hd,I.ok.frames,.inl rfl,fun b hb=>⟨?_,fun x c h=>?_⟩,I.bs,bZ I.ok.bsz I.sz,fun b o h hb=>?_,fun b hb z=>?_,I.stack,I.stkFree⟩,
  rfl,I.bare,Un.kept old,⟨m,hns,fun i x v h1 h2 h3=>?_⟩,fun x c h=>?_,I.hok.fresh hC,fun x c h=>?_,fun p hp=>?_,I.hok.kept old,?_⟩
 ·rcases kM h1 with a | ⟨_,a⟩<;>rcases kM h2 with b | ⟨_,b⟩
  ·exact name_of_addr ok.apart a b
  ·exact absurd (up a) (wP (low b))
  ·exact absurd (up b) (wP (low a))
  ·exact I.ok.inj x y c (c1 x c a) (c1 y c b)
 ·have hx':(x,cn)∈scope.names\/(x,dQ)∈scope.names:=uh (env:=X.env) (hx.elim .inr .inl)
  have hs:((bj (C + 1) scope.names cl).lookup x).isSome=true:=by
   rcases hx' with z | z
   ·obtain ⟨c,e⟩:=c2 _ z rfl
    exact gH _ _ _ (.inr (by rw [e];rfl))
   ·exact gH _ _ _ (.inl (S.cel _ z rfl))
  exact Option.isSome_iff_exists.mp hs
 ·rcases kM h2 with a | ⟨a,_⟩
  ·exact cr (up a)
  ·have:=gH (x:=x) scope.names (C + 1) [] (.inl (by simpa [cO] using h))
   rw [a] at this;cases this
 ·exact aF (aJ (ff b hb) hC)
 ·rcases kM h with a | ⟨_,a⟩
  ·exact eJ (wO (ff b hb) (up a))
  ·exact (hf b hb).f4 x c (c1 x c a)
 ·rcases (hf b hb).f3 with z | z
  ·exact I.ok.noex b o h z
  ·exact absurd (aJ (aq h) (bZ I.ok.bsz z)) (b_ _)
 ·rcases List.mem_cons.mp (I.stkSub b z) with e | e
  ·exact (hf b hb).f1 e
  ·exact (hf b hb).f2 e
 ·have hnt:nt<=i:=by
   refine OF fun hlt=>?_
   have h2':(jo nt ix σ)[i]?=some (some v):=h2
   unfold jo at h2'
   rw [bc (by simpa using hlt),cg,if_pos hlt] at h2'
   cases h2'
  have h2':(jo nt ix σ)[i]?=some (some v):=h2
  unfold jo at h2'
  rw [bf (by simpa using hnt),cV,aZ] at h2'
  cases e:ix[i - nt]? with
  | none=>rw [e] at h2';cases h2'
  | some j =>
   rw [e] at h2'
   have hj:σ[j]?=some (some v):=by
    have q:(σ[j]?).join=some v:=bG h2'
    cases e3:σ[j]? with
    | none=>rw [e3] at q;cases q
    | some o=>rw [e3] at q;cases o with
     | none=>cases q
     | some v'=>cases q;rfl
   obtain ⟨x',n1,n2,fr⟩:=S.cap _ _ e
   rw [Nat.add_sub_cancel' hnt] at n2
   have h1':N'[i]?=some x:=h1
   rw [h1'] at n2
   cases n2
   obtain ⟨mm,hn,hl⟩:=I.loc
   have hfree:=S.free (x,.free) (dz fr) rfl
   obtain ⟨u,r,l⟩:=hl j x v n1 hj (hfree.elim (fun z=>.inr (.inl z)) fun z=>.inr (.inr z))
   refine ⟨u,r,?_⟩
   rcases l with ⟨k,_⟩ | ⟨k,c,hc,hcell⟩
   ·have k:X.env.scope.names.lookup x=some .local:=k
    rcases hfree with z | z<;>(rw [z] at k;cases k)
   ·obtain ⟨c',hc'⟩:=c2 _ (dz fr) rfl
    have:=c1 x c' hc'
    rw [hc] at this
    cases this
    have hno:(bj (C + 1) scope.names []).lookup x=none:=by
     cases e:(bj (C + 1) scope.names []).lookup x with
     | none=>rfl
     | some d =>
      rcases nB _ _ _ (dz e) with z | z
      ·have q:=S.cel _ z rfl
       rw [fr] at q;cases q
      ·cases z
    refine .inr ⟨?_,c,by show (bj (C + 1) scope.names cl).lookup x=some c;rw [iU,KP,hno];exact hc',cellOld hcell⟩
    rcases rJ (env:=X.env) fr with z | z
    ·exact .inr z
    ·exact .inl z
 ·rcases kM h with a | ⟨_,a⟩
  ·exact ⟨none,(ok.empty x c a).1⟩
  ·obtain ⟨v,q⟩:=I.cell x c (c1 x c a)
   exact ⟨v,cellOld q⟩
 ·rcases kM h with a | ⟨_,a⟩
  ·exact I.hok.fresh (cr (up a))
  ·exact I.freeC x c (c1 x c a)
 ·have hp:p∈X.pn++pins:=(List.mem_append.mp hp).elim id fun z=>absurd z (by simp)
  obtain ⟨e,n,ne,nf,d⟩:=I.pin p hp
  refine ⟨old _ _ e,n,aF (aJ (aq e) hC),fun z=>?_,d⟩
  rcases List.mem_cons.mp (I.stkSub p.1 z) with e | e
  ·exact ne e
  ·exact nf e
 ·show (jo nt ix σ).length=N'.length
  rw [S.len];simp [jo]
end
end
section
theorem Un.grow {fs ex:List aj}{H H1:Hp}{h h1 h2:bB} (u:Un fs ex H H1 h h1) {C D:aj}{o:HO} (sb:bH C h1 h2) (hC:h.objs.size<=C) (hD:h.objs.size<=D) (hn:H1 D=none):Un fs ex H (upd H1 D o) h h2 where
 keep:=fun b ob q n hb hx=>(sb.2 b (aF (aJ (aq q) hC))).trans (u.keep b ob q n hb hx)
 slot:=fun b ob q n hb hx=>by
  obtain ⟨sl,e⟩:=u.slot b ob q n hb hx
  exact ⟨sl,(sb.2 b (aF (aJ (aq q) hC))).trans e⟩
 free:=fun b ob q n hx=>by rw [bt (aF (aJ (aq q) hD))];exact u.free b ob q n hx
 there:=fun b ob q hx=>by
  obtain ⟨o',e⟩:=u.there b ob q hx
  exact ⟨o',(sb.2 b (aF (aJ (aq q) hC))).trans e⟩
 tups:=fun b xs q=>by have z:=u.tups b xs q;rw [bt (bT z hn)];exact z
 frzs:=fun b ob xs q=>by have z:=u.frzs b ob xs q;rw [bt (bT z hn)];exact z
 tbls:=fun b ps q=>by
  obtain ⟨m,z⟩:=u.tbls b ps q
  exact ⟨m,by rw [bt (bT z hn)];exact z⟩
theorem Dx {P:aM}{w:ba}{H:Hp}{h h':bB}{C:aj} (k:pP P w H h) (hC:H C=none) (sb:bH C h h'):pP P w H h':=fun b ob e=>by
 refine (k b ob e).stay (fun c w' hc q=>(sb.2 c ?_).trans q) (fun _ q=>q) fun _ _ q=>q
 rintro rfl
 rcases hc with rfl | hc
 ·rw [hC] at e;cases e
 ·rw [hC] at hc;cases hc
theorem vq {P:aM}{w:ba}{H:Hp}{h:bB}{D:aj}{o:HO} (k:pP P w H h) (hD:H D=none) (new:dA P w (upd H D o) h D o):pP P w (upd H D o) h:=fun b ob e=>by
 by_cases hb:b=D
 ·subst hb;rw [bn] at e;cases e;exact new
 ·rw [bt hb] at e
  exact (k b ob e).stay (fun c w' hc q=>q) (fun c q=>by rw [bt (bT q hD)];exact q) fun c x q=>by rw [bt (bT q hD)];exact q
theorem nf {M:KJ}{A:bv}{α:Type}{t:Sem α}{Q:α->ag->Prop}{E':ac->ag->Prop}{s:ag} (h:au M A t Q (fun _ _=>False) s):au M A t Q E' s :=
 bQ h (fun _ _ q=>q) fun _ _ f=>f.elim
theorem bP.pin1 {X:Cx}{σ:St}{H:Hp}{s:ag}{D:aj}{o:Obj} (I:bP X [] σ H s) (e:s.heap.get? D=some o) (n:H D=none) (ne:D≠X.env.locals) (nf:D∉X.fs) (d:∀ v,o.data≠.cell v):bP X [(D,o)] σ H s :=
 I.pins_of fun p hp=>by
  have:p=(D,o):=by simpa using hp
  subst this
  exact ⟨e,n,ne,nf,d⟩
def QW (nt:Nat) (g:TG):Prop:=∀ x σ0 H (Q:St->Hp->Prop),g x σ0 H Q->g x σ0 H (fun σ2 H2=>Q σ2 H2/\σ2.length=σ0.length/\∀ j,nt<=j->σ2[j]?=σ0[j]?)
theorem LM {nt i:Nat} (h:i<nt):QW nt (ww i):=fun x σ0 H Q q=>⟨q,by simp,fun j hj=>al (by omega)⟩
theorem Pr {nt i k n:Nat}{K:a8} (h:i<nt) (h':k<nt):QW nt (S4 K n (a9 (ww i) (a9 (ww k) ay))):=by
 rintro x σ0 H Q ⟨a,xs,rfl,sq,hl,v,r,rfl,v',r',rfl,rfl,q⟩
 exact ⟨a,_,rfl,sq,hl,v,_,rfl,v',_,rfl,rfl,q,by simp,fun j hj=>by rw [al (by omega),al (by omega)]⟩
inductive X5 (X:Cx) (pins:List (aj×Obj)) (N':List Str) (scope:eO) (cl:List (Str×aj)) (C:aj) (s2:ag) (H2:Hp) (fp:List aj) (nt:Nat) (ix:List Nat) (σ:St) (tn:Nat->bB->Prop) (W:Nat->Nat->List V->Hp->Prop) (n:Nat) (s':ag):Prop
 | mk (i:Nat) (acc:List V) (its:List ac) (nn:Nat) (H':Hp) (I:bP (cO X N' scope cl C s2 H2 fp (X.pn++pins)) [(s2.heap.objs.size,{ cls:=.type "list",data:=.seq its.toArray nn })] (jo nt ix σ) H' s') (v:dJ acc its) (l:acc.length<=sizeLine) (t:tn i s'.heap) (f:∀ b∈fp,H' b=none) (w:W i n acc H'):X5 X pins N' scope cl C s2 H2 fp nt ix σ tn W n s'
theorem xQ {X:Cx}{elt tg iter:aX}{ifs:List aX}{scope:eO}{pos:Pos}{g:TG}{tt:TT}{te:TE}{N':List Str}{nt:Nat}{ix:List Nat}
  (hc:X.calm=true) (S:nA X scope N' nt ix) (lo:QW nt g)
  (hb:∀ cl C s₀ H₀ ex pn,PG (cO X N' scope cl C s₀ H₀ ex pn) tg g/\Oz (cO X N' scope cl C s₀ H₀ ex pn) ifs tt/\PE (cO X N' scope cl C s₀ H₀ ex pn) elt te)
  {cl:List (Str×aj)} (c1:∀ x c,cl.lookup x=some c->X.env.cells.lookup x=some c) (c2:∀ y∈scope.names,y.2=.free->∃ c,cl.lookup y.1=some c)
  {pins:List (aj×Obj)}{σ:St}{H2:Hp}{s2:ag}{it:aj}{fp:List aj}{tn:Nat->bB->Prop}{J:It}{Q:VK}{E:ac->ag->Prop}
  (I2:bP X pins σ H2 s2) (T:vk X.prog X.w X.K tg J fp it tn) (st2:tn 0 s2.heap) (f2:∀ b∈fp,qf X pins H2 b)
  {W:Nat->Nat->List V->Hp->Prop} (w0:∃ m,W 0 m [] H2)
  (turn:∀ i m acc H,W i m acc H->(J.stop i H/\∀ p,H p=none->Q (.ref p) (upd H p (.lst acc))) \/
   (J.go i H/\acc.length<sizeLine/\∀ x H',J.yld i H x H'->g x (jo nt ix σ) H' fun σ2 H2=>tt σ2 H2 fun b H3 =>
    if b=true then te σ2 H3 fun y H4=>∃ m',m'<m/\W (i + 1) m' (acc++[y]) H4 else ∃ m',m'<m/\W (i + 1) m' acc H3))
  {RR:ac->aj->vb->ag->Prop}
  (hRR:∀ D C m s' (acc:List V) H',H' D=none->qf X pins (upd H' D (.lst acc)) C->Q (.ref D) (upd H' D (.lst acc))->s'.heap.Ns C m->(∀ h',bH C s'.heap h'->bP X pins σ (upd H' D (.lst acc)) { s' with heap:=h' })->RR (.ref D) C (.ok .next) s') :
  au (aO X.prog X.w) X.A (newList []) (fun acc s₃=>au (aO X.prog X.w) X.A (ve scope X.env.globals cl [] X.env.qual none .none (some X.env)) (fun cenv s₄ =>
   iN (aO X.prog X.w) X.A (.compStart (.ListComp elt [⟨tg,iter,ifs,0⟩] scope pos) 0 (.ref it) acc { cenv with scope:=relabel scope X.env }) (RR acc cenv.locals) s₄) E s₃) E s2:=by
 refine bS (Hz fun h₁ hh₁=>?_)
 dsimp only at hh₁ ⊢
 generalize hG2:s2.heap.push { cls:=.type "list",dict:=none,data:=.seq ([] : List ac).toArray }=G2 at hh₁ ⊢
 have hC:G2.objs.size=s2.heap.objs.size + 1:=by rw [<- hG2,cp]
 have hDC:s2.heap.objs.size≠G2.objs.size:=by rw [hC];exact aF (dq _)
 have hCle:s2.heap.objs.size<=G2.objs.size:=by rw [hC];exact iI _
 have below:∀ b,b<s2.heap.objs.size->b≠G2.objs.size:=fun b hb=>by rw [hC];exact aF (eN hb)
 have kp:∀ b o,G2.get? b=some o->h₁.get? b=some o:=fun b o e=>by rw [hh₁];exact tQ _ _ b o (af _ e)
 have hns₁:h₁.Ns G2.objs.size (fun _=>none):=by rw [hh₁];exact (Heap.Ns.new G2 (.type "dict")).keeps (tQ _ _)
 have ok₁:CellsOk h₁ (G2.objs.size + 1) (bj (G2.objs.size + 1) scope.names []):=by rw [hh₁];exact AN G2 scope.names
 have cne:∀ x c,(bj (G2.objs.size + 1) scope.names cl).lookup x=some c->X.env.cells.lookup x=some c\/s2.heap.objs.size<c:=fun x c e=>by
  rcases kM e with a | ⟨_,a⟩
  ·exact .inr (aJ (jT hCle) (ok₁.empty x c a).2)
  ·exact .inl (c1 x c a)
 have old:∀ b o,s2.heap.get? b=some o->h₁.get? b=some o:=fun b o e=>kp b o (hG2 ▸ af _ e)
 have hacc:h₁.get? s2.heap.objs.size=some { cls:=.type "list",dict:=none,data:=.seq ([] : List ac).toArray }:=kp _ _ (hG2 ▸ ax _ rfl)
 have ff:∀ b∈fp,b<s2.heap.objs.size:=fun b hb=>by
  obtain ⟨o,e,_⟩:=T.obj _ _ st2 b hb
  exact aq e
 have I3:bP (cO X N' scope (bj (G2.objs.size + 1) scope.names cl) G2.objs.size s2 H2 fp (X.pn++pins)) [] (jo nt ix σ) H2 { s2 with heap:=h₁,toks:=s2.toks }:=Dw S I2 c1 c2 f2 ff hCle hns₁ old ok₁
 obtain ⟨pg,pt,pe⟩:=hb (bj (G2.objs.size + 1) scope.names cl) G2.objs.size s2 H2 fp (X.pn++pins)
 have hDfs:s2.heap.objs.size∉rT X.stack:=fun z=>by
  rcases List.mem_cons.mp (I2.stkSub _ z) with e | e
  ·exact absurd I2.lt (by rw [<- e];exact b_ _)
  ·exact I2.nofs (ar _) e
 have nod:∀ (its:List ac) (n:Nat) v,({ cls:=.type "list",data:=.seq its.toArray n }:Obj).data≠.cell v:=fun _ _ _ z=>nomatch z
 have st1:tn 0 h₁:=T.keep _ _ _ st2 fun b _ o e=>old b o e
 have hDf:s2.heap.objs.size∉fp:=fun z=>absurd (ff _ z) (b_ _)
 have stat:∀ {H':Hp}{pl:List (aj×Obj)},(∀ p∈pl,p.1∉fp)->(∀ b∈fp,H' b=none)->∀ b∈fp,qf (cO X N' scope (bj (G2.objs.size + 1) scope.names cl) G2.objs.size s2 H2 fp (X.pn++pins)) pl H' b:=fun hpl hn b hb=>by
  obtain ⟨f0,f1,f2',f3,f4,f5⟩:=f2 b hb
  refine ⟨hn b hb,below b (ff b hb),fun z=>?_,.inl hb,fun x c e=>(cne x c e).elim (f4 x c) fun q z=>wP q (by rw [z];exact ff b hb),fun p hp z=>?_⟩
  ·rcases List.mem_cons.mp (I2.stkSub _ z) with e | e
   ·exact f1 e
   ·exact f2' e
  ·rcases List.mem_append.mp hp with q | q
   ·exact f5 p q z
   ·exact hpl p q (z ▸ hb)
 obtain ⟨m0,w0⟩:=w0
 have loop:iN (aO X.prog X.w) X.A (.compLoop (.ListComp elt [⟨tg,iter,ifs,0⟩] scope pos) 0 (.ref it) (.ref s2.heap.objs.size) (compEnvC scope (bj (G2.objs.size + 1) scope.names cl) G2.objs.size X.env))
    (RR (.ref s2.heap.objs.size) G2.objs.size) { s2 with heap:=h₁,toks:=s2.toks }:=by
  refine BO (X5 X pins N' scope (bj (G2.objs.size + 1) scope.names cl) G2.objs.size s2 H2 fp nt ix σ tn W) ?_ m0
   ⟨0,[],[],0,H2,I3.pin1 hacc (I2.hok.fresh (ar _)) hDC hDfs (nod _ _),.nil,cE _,st1,fun b hb=>(f2 b hb).1,w0⟩
  rintro n s3 ⟨i,acc,its,nn,H3,J3,rv,hz,st3,fr3,w3⟩
  have plD:∀ p∈[(s2.heap.objs.size,({ cls:=.type "list",data:=.seq its.toArray nn }:Obj))],p.1∉fp:=fun p hp=>by
   have:p=(s2.heap.objs.size,({ cls:=.type "list",data:=.seq its.toArray nn }:Obj)):=by simpa using hp
   rw [this];exact hDf
  rcases turn i n acc H3 w3 with ⟨stop,qn⟩ | ⟨go,hlt,step⟩
  ·refine fk (T.done (cO X N' scope (bj (G2.objs.size + 1) scope.names cl) G2.objs.size s2 H2 fp (X.pn++pins)) rfl rfl rfl hc i _ s3 _ H3 _ J3 (stat plD fr3) st3 stop) fun r s4 h_0=>?_
   obtain ⟨hr,I4⟩:=h_0
   subst hr
   obtain ⟨pD,pN,_⟩:=I4.pin (s2.heap.objs.size,_) (aL _ (List.mem_singleton.mpr rfl))
   obtain ⟨mm,hn,_⟩:=I4.loc
   have hCn:H3 G2.objs.size=none:=I4.free
   refine hRR _ _ mm s4 acc H3 pN (I2.fpOk hCle (by rw [bt (db hDC)];exact hCn)) (qn _ pN) hn fun h' sb=>?_
   have hu:Un (rT X.stack) fp H2 (upd H3 s2.heap.objs.size (.lst acc)) s2.heap h':=Un.grow I4.base sb hCle (ar _) pN
   refine I2.call' (s':={ s4 with heap:=h' }) (ch:=fp) I4.os hu ?_ I4.bare fun b hb=>?_
   ·refine vq (Dx I4.hok hCn sb) pN ⟨hz,its,nn,rv,(sb.2 _ hDC).trans pD⟩
   ·obtain ⟨_,f1,_,f3,f4,f5⟩:=f2 b hb
    exact ⟨f3,f1,f4,f5⟩
  ·refine fk (T.item (cO X N' scope (bj (G2.objs.size + 1) scope.names cl) G2.objs.size s2 H2 fp (X.pn++pins)) rfl rfl rfl hc i _ s3 _ H3 _ J3 (stat plD fr3) st3 go) fun r s4 h_1=>?_
   obtain ⟨u,hr,h4⟩:=h_1
   subst hr
   refine fk h4 fun _ s5 h_2=>?_
   obtain ⟨x,H5,I5,r5,y5,st5,fr5⟩:=h_2
   have I5':=I5.pinned (stat plD fr5) (T.obj _ _ st5)
   refine fk (pg _ s5 _ H5 x u _ I5' r5 (lo _ _ _ _ (step x H5 y5))) fun _ s6 h_3=>?_
   obtain ⟨σ6,H6,I6,q6,l6,k6⟩:=h_3
   have hw:∀ (j:Nat) v,(jo nt ix σ)[j]?=some (some v)->σ6[j]?=some (some v):=fun j v e=>by
    by_cases hj:nt<=j
    ·rw [k6 j hj];exact e
    ·unfold jo at e
     rw [bc (by simpa using hj),cg,if_pos (by omega)] at e
     cases e
   refine fk (pt _ s6 σ6 H6 _ I6 q6) fun b s7 h_4=>?_
   obtain ⟨H7,I7,q7⟩:=h_4
   have fpk:∀ {s8:ag}{σ8:St}{H8:Hp},bP (cO X N' scope (bj (G2.objs.size + 1) scope.names cl) G2.objs.size s2 H2 fp (X.pn++pins)) ([(s2.heap.objs.size,{ cls:=.type "list",data:=.seq its.toArray nn })]++vm fp s5.heap) σ8 H8 s8 ->
     tn (i + 1) s8.heap/\∀ b∈fp,H8 b=none:=fun {s8 σ8 H8} I8=>by
    refine ⟨T.keep _ _ _ st5 fun b hb o e=>(I8.pin (b,o) (aL _ (aL _ (jV hb e)))).1,fun b hb=>?_⟩
    obtain ⟨o,e,d⟩:=T.obj _ _ st5 b hb
    exact (I8.pin (b,o) (aL _ (aL _ (jV hb e)))).2.1
   cases b with
   | false =>
    simp only [bJ,if_false] at q7 ⊢
    obtain ⟨m',hm,w7⟩:=q7
    obtain ⟨t7,f7⟩:=fpk I7
    exact ⟨m',hm,i + 1,acc,its,nn,H7,(I7.weak l6.symm hw).unpinned,rv,hz,t7,f7,w7⟩
   | true =>
    simp only [if_true] at q7 ⊢
    refine fk (pe _ s7 σ6 H7 _ I7 q7) fun u8 s8 h_5=>?_
    obtain ⟨y,H8,I8,r8,m',hm,w8⟩:=h_5
    obtain ⟨t8,f8⟩:=fpk I8
    obtain ⟨pD,pN,_⟩:=I8.pin (s2.heap.objs.size,_) (aL _ (bu _ (List.mem_singleton.mpr rfl)))
    have hl:=rv.length
    refine wpAny_list_append_plain ⟨nn,pD⟩ (hsz:=by rw [aP];omega) ?_
    intro h9 pl9 sb9
    obtain ⟨n9,e9⟩:=pl9
    have e9':h9.get? s2.heap.objs.size=some { cls:=.type "list",data:=.seq (its++[u8]).toArray n9 }:=by rw [e9];simp
    refine ⟨m',hm,i + 1,acc++[y],its++[u8],n9,H8,?_,rv.append (.cons r8 .nil),by rw [aG,cB];omega,T.keep _ _ _ t8 fun b hb o e=>sb9.extBut b o (fun z=>hDf (z ▸ hb)) e,f8,w8⟩
    have I8':bP (cO X N' scope (bj (G2.objs.size + 1) scope.names cl) G2.objs.size s2 H2 fp (X.pn++pins)) [] (jo nt ix σ) H8 s8:=(I8.weak l6.symm hw).pins_of fun p hp=>absurd hp (by simp)
    have I9:bP (cO X N' scope (bj (G2.objs.size + 1) scope.names cl) G2.objs.size s2 H2 fp (X.pn++pins)) [] (jo nt ix σ) H8 { s8 with heap:=h9,toks:=s8.toks } :=
     I8'.turned (it:=s2.heap.objs.size) (fun b o hb e=>sb9.extBut b o hb e) pN hDC (.inr (ar _)) (fun x c e z=>by
      rcases cne x c e with e | e
      ·obtain ⟨v,q⟩:=I2.cell x c e
       exact absurd q.lt (by rw [z];exact b_ _)
      ·exact absurd e (by rw [z];exact b_ _)) fun p hp z=>by
      have hp:p∈X.pn++pins:=(List.mem_append.mp hp).elim id fun z=>absurd z (by simp)
      exact absurd (aq (I2.pin p hp).1) (by rw [z];exact b_ _)
    exact I9.pin1 e9' pN hDC hDfs (nod _ _)
 exact codeAny_compStart_list loop (T.self _ 0 _ _ _ st1 loop)
end
section
theorem Dy {X:Cx}{elt tg iter:aX}{ifs:List aX}{scope:eO}{pos:Pos}{wi:TI}{g:TG}{tt:TT}{te:TE}{N':List Str}{nt:Nat}{ix:List Nat}
  (hc:X.calm=true) (S:nA X scope N' nt ix) (lo:QW nt g) (hi:PI X tg iter wi)
  (hb:∀ cl C s₀ H₀ ex pn,PG (cO X N' scope cl C s₀ H₀ ex pn) tg g/\Oz (cO X N' scope cl C s₀ H₀ ex pn) ifs tt/\PE (cO X N' scope cl C s₀ H₀ ex pn) elt te)
  (hs:∀ x,e8 iter X.env x=pure x:=by intro _;rfl):PE X (.ListComp elt [⟨tg,iter,ifs,0⟩] scope pos) (LL nt ix wi g tt te):=by
 intro pins s σ H Q I h
 obtain ⟨cl,hcl,c1,c2⟩:=sy (scope:=scope) (env:=X.env) fun y hy hf=>I.ok.has y.1 (S.free y hy hf)
 rw [eval_ListComp]
 refine q8 (use:=none) rfl hs hcl S.kind S.loc (fk (hi pins s σ H _ I h) fun v s1 h1=>fk h1 fun itv s2 h2=>?_)
 obtain ⟨it,fp,tn,J,H2,e,I2,T,st2,f2,W,w0,turn⟩:=h2
 subst e
 refine xQ (RR:=fun acc C=>compPost (aO X.prog X.w) X.A X.xe none (EP X pins σ Q) acc C) hc S lo hb c1 c2 I2 T st2 f2 w0 turn ?_
 intro D C m s' acc H' hD _ q hn hI
 exact ⟨m,hn,fun h' sb=>⟨.ref D,_,hI h' sb,rfl,q⟩⟩
def Uf (i:Nat) (te:TE):TS:=fun D σ H=>te σ H fun x H1=>D.nx (σ.set i (some x)) H1
theorem Gc {X:Cx}{elt tg iter:aX}{ifs:List aX}{scope:eO}{pos spos py:Pos}{wi:TI}{g:TG}{tt:TT}{te:TE}{N':List Str}{nt:Nat}{ix:List Nat}{i:Nat}{y:Str}
  (hN:X.N.Nodup) (hiN:X.N[i]?=some y) (hy:X.env.scope.names.lookup y=some .local)
  (hc:X.calm=true) (S:nA X scope N' nt ix) (lo:QW nt g) (hi:PI X tg iter wi)
  (hb:∀ cl C s₀ H₀ ex pn,PG (cO X N' scope cl C s₀ H₀ ex pn) tg g/\Oz (cO X N' scope cl C s₀ H₀ ex pn) ifs tt/\PE (cO X N' scope cl C s₀ H₀ ex pn) elt te)
  (hsw:gW (.ListComp elt [⟨tg,iter,ifs,0⟩] scope pos) (some (.Name y py)) spos.line X.env=pure true:=by rfl)
  (hs:∀ x,e8 iter X.env x=pure x:=by intro _;rfl):PS X (.Assign [.Name y py] (.ListComp elt [⟨tg,iter,ifs,0⟩] scope pos) spos) (Uf i (LL nt ix wi g tt te)):=by
 intro pins s σ H D I h
 obtain ⟨cl,hcl,c1,c2⟩:=sy (scope:=scope) (env:=X.env) fun y hy hf=>I.ok.has y.1 (S.free y hy hf)
 rw [exec_Assign_Name_used _ _ _ _ hsw]
 refine a7 (iC (a7 ?_))
 show au _ X.A (do let _ <- comprehension (.ListComp elt [⟨tg,iter,ifs,0⟩] scope pos) scope X.env _ (newList []) false (dE iter X.env) (some (p_ (.Name y py) X.env))) _ _ s
 refine a7 (bQ (q8 (use:=some (p_ (.Name y py) X.env)) (Q:=fun _ s'=>SP X pins D .next s') rfl hs hcl S.kind S.loc
  (fk (hi pins s σ H _ I h) fun v s1 h1=>fk h1 fun itv s2 h2=>?_)) (fun _ s' hq=>ae (ae hq)) fun _ _ e=>e)
 obtain ⟨it,fp,tn,J,H2,e,I2,T,st2,f2,W,w0,turn⟩:=h2
 subst e
 refine xQ (Q:=fun x H1=>D.nx (σ.set i (some x)) H1) (RR:=fun acc C=>compPost (aO X.prog X.w) X.A X.xe (some (p_ (.Name y py) X.env)) (fun _ s'=>SP X pins D .next s') acc C) hc S lo hb c1 c2 I2 T st2 f2 w0 turn ?_
 intro L C m s' acc H' hD fC q hn hI
 show au _ X.A (p_ (.Name y py) X.env (.ref L)) _ _ _
 have I3:bP X pins σ (upd H' L (.lst acc)) s':=hI s'.heap (.refl ..)
 refine wpAny_assign_Name (AE I3 hN hiN (.inl hy) (v:=.ref L) rfl (fun s4 I4 ⟨a,sb,ha⟩=>?_) (.inr hy))
 obtain ⟨g0,g1,g2,g3,g4,g5⟩:=fC
 have hCa:C≠a:=by
  rcases ha with z | z
  ·rw [z];exact g1
  ·exact fun e=>g4 y a z e.symm
 refine ⟨m,hn.sameBut sb hCa,fun h5 sb5=>?_⟩
 exact ⟨_,_,I4.turned (t':=s4.toks) (fun b o hb e=>(sb5.2 b hb).trans e) g0 g1 g3 g4 g5,q⟩
end
section
def jO (e:Int×ac):Str:=match e.2 with
 | .str x _=>x
 | _=>⟨#[]⟩
def sA (w:ba) (e:Int×ac):Prop:=∃ x tk,e=(hashStr w x,jq x tk)
structure cS (w:ba) (h:bB) (a:aj) (es:Array (Int×ac)) (ep:Nat) (t:ed):Prop where
 at_:h.get? a=some { cls:=.type "set",dict:=none,data:=.set es ep t }
 txt:∀ e∈es.toList,sA w e
 nd:(es.toList.map jO).Nodup
 few:es.size<iF
 fits:t.fits es.size=true
 led:t.led=!w.params.followText "set-order"
 pl:es.size=0\/t.plain=false
inductive l7 (w:ba) (h:bB) (a:aj) (ss:List Str):Prop
 | mk (es ep t:_) (h0:cS w h a es ep t) (h1:(es.toList.map jO).Perm ss):l7 w h a ss
theorem Gd (t:ed) (es:Array (Int×ac)) (h:Int) (x:ac):(layNew t es h x).2.1.led=t.led:=by
 unfold layNew
 cases t.freeSlot h with
 | none=>rfl
 | some p =>
  obtain ⟨slot,d⟩:=p
  show ((t.put slot).1.orStandIn _).led=_
  unfold Fw
  split<;>rfl
theorem BP (t:ed) (es:Array (Int×ac)) (h:Int) (x:ac):t.plain=false->(layNew t es h x).2.1.plain=false:=by
 intro hp
 unfold layNew
 cases t.freeSlot h with
 | none=>rfl
 | some p =>
  obtain ⟨slot,d⟩:=p
  show ((t.put slot).1.orStandIn _).plain=_
  unfold Fw
  split
  ·exact hp
  ·rfl
theorem Dz {t t':ed}{hs:Array Int}{n:Nat}{o:Array Nat} (h:t.relaid hs n=some (t',o)):t'.led=t.led/\t'.plain=t.plain:=by
 unfold J9 zH at h
 cases e:tR (cq n - 1) hs with
 | none=>rw [e] at h;cases h
 | some ow =>
  rw [e] at h
  have h:=bG h
  have h1:=congrArg Prod.fst h
  subst h1
  exact ⟨rfl,rfl⟩
theorem Jw (t:ed) (es:Array (Int×ac)) (n:Nat):(vf t es n).2.1.led=t.led/\(t.plain=false->(vf t es n).2.1.plain=false):=by
 unfold vf
 cases e:t.relaid (es.map (·.1)) n with
 | none=>exact ⟨rfl,fun _=>rfl⟩
 | some p =>
  obtain ⟨t',o⟩:=p
  obtain ⟨h1,h2⟩:=Dz e
  dsimp only
  split
  ·exact ⟨h1,fun h=>h2.trans h⟩
  ·exact ⟨rfl,fun _=>rfl⟩
theorem LN {w:ba}{P:aM}{l:List (Int×ac)} (h:∀ e∈l,sA w e):ElemsOf (strKind P w) l:=fun e he=>by
 obtain ⟨x,tk,rfl⟩:=h e he
 exact ⟨⟨x,by simp [PySem.strKind,tM],rfl⟩,rfl⟩
theorem VC (P:aM) (w:ba) (x:Str) (tk:Tok):(strKind P w).is x (.str x tk)=true:=by simp [PySem.strKind,tM]
theorem HA {P:aM}{w:ba}{e:Int×ac} (h:sA w e) (x:Str):(strKind P w).is x e.2=true↔jO e=x:=by
 obtain ⟨y,tk,rfl⟩:=h
 constructor
 ·intro q
  have:=(strKind P w).inj _ _ _ q (VC P w y tk)
  rw [this];rfl
 ·rintro rfl
  exact VC P w _ tk
section
variable {P:aM}{w:ba}{A:bv}{E:ac->ag->Prop}{s:ag}
theorem qP {h:bB}{a:aj}{es es':Array (Int×ac)}{ep:Nat}{t t':ed} (I:cS w h a es ep t):(h.update a (q9 es' t')).get? a=some { cls:=.type "set",dict:=none,data:=.set es' (ep + 1) t' }:=by
 have q:=fE (q9 es' t') I.at_ rfl
 exact q
theorem AO {a:aj}{ss:List Str}{x:Str}{tk:Tok}{Q:Bool->ag->Prop} (hS:l7 w s.heap a ss) (hr:ss.length + 1<iF)
  (h:∀ h' tk',bH a s.heap h'->l7 w h' a (if x∈ss then ss else ss++[x])->Q (!decide (x∈ss)) { s with heap:=h',toks:=tk' }) :
  au (aO P w) A (setAddHashed a (.str x tk) ((strKind P w).hash x)) Q E s:=by
 obtain ⟨es,ep,t,I,pm⟩:=hS
 have hlen:es.size=ss.length:=by rw [<- pm.length_eq,ao,av]
 have hel:ElemsOf (strKind P w) es.toList:=LN I.txt
 unfold setAddHashed setAddHashedIn
 refine cX (a7 (bC (s:=s) I.at_ rfl I.fits ?_))
 dsimp only
 rw [byScan_of rfl I.few hel]
 rw [if_pos rfl]
 unfold setAddByScan
 refine a7 (a7 (gG (a7 (wpAny_setScan_of (s:=s) (VC P w x tk) I.at_ rfl I.fits hel ?_))))
 have inmem:x∈ss↔∃ e∈es.toList,(strKind P w).is x e.2=true:=by
  rw [<- pm.mem_iff,List.mem_map]
  constructor
  ·rintro ⟨e,he,q⟩;exact ⟨e,he,(HA (I.txt e he) x).mpr q⟩
  ·rintro ⟨e,he,q⟩;exact ⟨e,he,(HA (I.txt e he) x).mp q⟩
 cases hf:List.findIdx? (fun e=>(strKind P w).is x e.2) es.toList with
 | some j =>
  obtain ⟨hj,hp,_⟩:=List.findIdx?_eq_some_iff_getElem.mp hf
  have hin:x∈ss:=inmem.mpr ⟨_,gC hj,hp⟩
  have q:=h s.heap s.toks (.refl ..) (by rw [if_pos hin];exact ⟨es,ep,t,I,pm⟩)
  rw [decide_eq_true hin] at q
  exact ae (ae q)
 | none =>
  have hout:x∉ss:=fun z=>by
   obtain ⟨e,he,q⟩:=inmem.mp z
   rw [List.findIdx?_eq_none_iff.mp hf e he] at q
   cases q
  have h:=fun h' tk' sb=>h h' tk' sb
  rw [decide_eq_false hout,if_neg hout] at h
  have p1:=layNew_perm t es ((strKind P w).hash x) (.str x tk)
  have f1:=layNew_fits t es ((strKind P w).hash x) (.str x tk)
  have l1:=Gd t es ((strKind P w).hash x) (.str x tk)
  have q1:=BP t es ((strKind P w).hash x) (.str x tk)
  generalize layNew t es ((strKind P w).hash x) (.str x tk)=L at p1 f1 l1 q1 ⊢
  obtain ⟨es1,t1,wd,gv⟩:=L
  dsimp only at p1 f1 l1 q1 ⊢
  rw [KQ] at p1
  have tx1:∀ e∈es1.toList,sA w e:=fun e he=>by
   rcases List.mem_append.mp (p1.mem_iff.mp he) with z | z
   ·exact I.txt e z
   ·rw [dO] at z;exact ⟨x,tk,z⟩
  have km:(es1.toList.map jO).Perm (ss++[x]):=(p1.map jO).trans (by rw [aT];exact pm.append_right _)
  have nd1:(ss++[x]).Nodup:=by
   rw [La]
   exact ⟨pm.nodup_iff.mp I.nd,by simp,fun y hy z hz e=>hout (by rw [dO] at hz;rw [<- hz,<- e];exact hy)⟩
  have sz1:es1.size=es.size + 1:=by rw [<- av,p1.length_eq,aG,av];rfl
  have few1:es1.size<iF:=by omega
  have gw:∀ (b:Bool) {s₁:ag}{Q':Unit->ag->Prop},Q' () s₁->au (aO P w) A (match b with | true=>rule "set.scan.the-table-gave-way" | false=>pure ()) Q' E s₁ :=
   fun b _ _ z=>by cases b<;>first | exact ae z | exact gG z
  have tail:∀ t2:ed,t2.fits es1.size=true->t2.led=t.led->t2.plain=false->au (aO P w) A (do
    storeSet a es1 t2
    if (!wd && t2.tooFull)=true then do
      (match (vf t2 es1 (i3 es1.size)).2.2 with | true=>rule "set.scan.the-table-gave-way" | false=>pure ())
      storeSet a (vf t2 es1 (i3 es1.size)).1 (vf t2 es1 (i3 es1.size)).2.1
      pure (some true)
     else pure (some true)) (fun r s'=>r=some true/\Q true s') E s:=fun t2 f2 l2 n2=>by
   refine a7 (iQ (s:=s) I.at_ rfl ?_ (fj few1))
   have at1:=qP (es':=es1) (t':=t2) I
   have sb1:=bF s.heap a (q9 es1 t2)
   have I1:cS w (s.heap.update a (q9 es1 t2)) a es1 (ep + 1) t2:=⟨at1,tx1,km.nodup_iff.mpr nd1,few1,f2,l2.trans I.led,.inr n2⟩
   split
   ·have p2:=relayAll_perm t2 es1 (i3 es1.size)
    have f3:=relayAll_fits t2 es1 (i3 es1.size)
    have l3:=Jw t2 es1 (i3 es1.size)
    generalize vf t2 es1 (i3 es1.size)=R3 at p2 f3 l3 ⊢
    obtain ⟨es2,t3,gv2⟩:=R3
    dsimp only at p2 f3 l3 ⊢
    have few2:es2.size<iF:=by rw [<- av,p2.length_eq,av];exact few1
    have km2:=(p2.map jO).trans km
    refine a7 (gw _ (a7 (iQ (s:={ s with heap:=s.heap.update a (q9 es1 t2) }) I1.at_ rfl ?_ (fj few2))))
    refine ae ⟨rfl,h _ _ (sb1.trans (bF _ a _)) ⟨es2,ep + 1 + 1,t3,⟨qP I1,fun e he=>tx1 e (p2.mem_iff.mp he),km2.nodup_iff.mpr nd1,few2,f3,l3.1.trans (l2.trans I.led),.inr (l3.2 n2)⟩,km2⟩⟩
   ·exact ae ⟨rfl,h _ _ sb1 ⟨es1,ep + 1,t2,I1,km⟩⟩
  refine a7 (gw gv ?_)
  cases hp:t1.plain with
  | true =>
   simp only [if_true]
   rw [hashByValue_scannable 8 (x:=.str x tk) rfl]
   refine a7 (ae ?_)
   refine bQ (tail { t1 with plain:=false } (by cases t1;exact f1) l1 rfl) (fun r s' z=>?_) fun _ _ z=>z
   obtain ⟨rfl,z⟩:=z
   exact ae z
  | false =>
   simp only [bJ,if_false]
   refine a7 (ae ?_)
   refine bQ (tail t1 f1 l1 hp) (fun r s' z=>?_) fun _ _ z=>z
   obtain ⟨rfl,z⟩:=z
   exact ae z
theorem DA {a:aj}{ss:List Str}{x:Str}{tk:Tok}{Q:Bool->ag->Prop} (hS:l7 w s.heap a ss) (hr:ss.length + 1<iF)
  (h:∀ h' tk',bH a s.heap h'->l7 w h' a (if x∈ss then ss else ss++[x])->Q (!decide (x∈ss)) { s with heap:=h',toks:=tk' }) :
  au (aO P w) A (setAdd a (.str x tk)) Q E s:=by
 unfold setAdd
 refine cX (a7 ((strKind P w).pyHash (k:=x) (VC P w x tk) ?_))
 exact AO (s:={ s with toks:=s.toks + 1 }) hS hr h
end
end
section
abbrev eR (w:ba):Obj:={ cls:=.type "set",dict:=none,data:=.set #[] 0 (.fresh 0 0 (!w.params.followText "set-order")) }
theorem AQ (w:ba) {h:bB}{a:aj} (e:h.get? a=some (eR w)):l7 w h a [] :=
 ⟨#[],0,_,⟨e,fun e he=>by simp at he,by simp,by decide,rfl,rfl,.inl rfl⟩,by simp⟩
def dk:List Str->List Str->List Str
 | acc,[]=>acc
 | acc,x::r=>dk (if x∈acc then acc else acc++[x]) r
theorem iq:∀ (l acc:List Str) (x:Str),x∈dk acc l↔x∈acc\/x∈l
 | [],acc,x=>by simp [dk]
 | y::r,acc,x=>by
  rw [dk,iq r]
  by_cases h:y∈acc
  ·rw [if_pos h];simp only [b9]
   constructor
   ·exact fun z=>z.elim .inl fun z=>.inr (.inr z)
   ·rintro (z | z | z)
    ·exact .inl z
    ·exact .inl (z ▸ h)
    ·exact .inr z
  ·rw [if_neg h];simp [zI,or_assoc]
theorem ig:∀ (l acc:List Str),acc.Nodup->(dk acc l).Nodup
 | [],acc,h=>h
 | y::r,acc,h=>by
  rw [dk]
  refine ig r _ ?_
  by_cases hy:y∈acc
  ·rw [if_pos hy];exact h
  ·rw [if_neg hy,La]
   exact ⟨h,by simp,fun a ha b hb e=>hy (by rw [dO] at hb;rw [<- hb,<- e];exact ha)⟩
theorem eS:∀ (l acc:List Str),(dk acc l).length<=acc.length + l.length
 | [],acc=>by simp [dk]
 | y::r,acc=>by
  rw [dk]
  have:=eS r (if y∈acc then acc else acc++[y])
  by_cases hy:y∈acc
  ·rw [if_pos hy] at this ⊢;simp only [aR];omega
  ·rw [if_neg hy] at this ⊢;simp only [aR,aG,cB,br] at this ⊢;omega
section
variable {prog:aM}{w:ba}{A:bv}{E:ac->ag->Prop}{s:ag}{R:vb->ag->Prop}
theorem l7.keep {h h':bB}{a:aj}{ss:List Str} (x:l7 w h a ss) (k:∀ o,h.get? a=some o->h'.get? a=some o):l7 w h' a ss :=
 let ⟨es,ep,t,I,p⟩:=x;⟨es,ep,t,⟨k _ I.at_,I.txt,I.nd,I.few,I.fits,I.led,I.pl⟩,p⟩
theorem z_ {I:aj}{fp wr:List aj}{n:Nat}{Pv:Nat->ac->Prop}{St:Nat->bB->Prop} (W:KR prog w A.in1 I fp wr n Pv St) (D:aj) (hD:D∉fp) (xs:List Str) (hx:xs.length=n)
  (hv:∀ i v,Pv i v->∃ x t,xs[i]?=some x/\v=.str x t) (hb:n + 1<iF) :
  ∀ (k i:Nat) (s:ag) (acc:List Str),n - i=k->i<=n->acc.length<=i->St i s.heap->l7 w s.heap D acc ->
   (∀ h' tk,(∀ b o,b∉D::wr->s.heap.get? b=some o->h'.get? b=some o)->l7 w h' D (dk acc (xs.drop i))->R (.ok (.ret .none)) { s with heap:=h',toks:=tk }) ->
   iN (aO prog w) A (.builtin "set.update.loop" ⟨[.ref D,.ref I],[]⟩) R s:=by
 have hDw:D∉wr:=fun z=>hD (W.sub _ z)
 intro k
 induction k with
 | zero =>
  intro i s acc hk hi hl st hS hR
  obtain rfl:i=n:=by omega
  refine gx oo ?_
  rw [eG hU _]
  show au _ A.in1 (jr (.ref I) >>= _) _ _ s
  refine a7 (W.done s _ _ st fun h' tk kp=>?_)
  refine ae (hR h' tk (fun b o hb e=>kp b o (fun z=>hb (ak _ z)) e) ?_)
  rw [Fx (by omega)]
  exact hS.keep fun o e=>kp D o hDw e
 | succ k ih =>
  intro i s acc hk hi hl st hS hR
  have hlt:i<n:=by omega
  refine gx oo ?_
  rw [eG hU _]
  show au _ A.in1 (jr (.ref I) >>= _) _ _ s
  refine a7 (W.item i s _ _ hlt st fun v h' tk hP st' kp=>?_)
  obtain ⟨x,t,hxi,rfl⟩:=hv i v hP
  have hS':l7 w h' D acc:=hS.keep fun o e=>kp D o hDw e
  refine a7 (cX (DA (s:={ s with heap:=h',toks:=tk }) hS' (by omega) fun h2 tk2 sb hS2=>?_))
  refine ae ⟨mB hU _,ih (i + 1) _ (if x∈acc then acc else acc++[x]) (by omega) hlt ?_ (W.frame _ _ _ st' fun b hb o e=>?_) hS2 fun h3 tk3 k3 hS3=>?_⟩
  ·by_cases z:x∈acc
   ·rw [if_pos z];omega
   ·rw [if_neg z,aG,cB];omega
  ·rw [sb.2 b fun z=>hD (z ▸ hb)];exact e
  ·refine hR h3 tk3 (fun b o hb e=>k3 b o hb ?_) ?_
   ·rw [sb.2 b fun z=>hb (by rw [z];exact am)]
    exact kp b o (fun z=>hb (ak _ z)) e
   ·have hd:xs.drop i=x::xs.drop (i + 1):=by
     obtain ⟨h1,h2⟩:=List.getElem?_eq_some_iff.mp hxi
     rw [nO h1,h2]
    rw [hd,dk];exact hS3
theorem LO (a:ac) {Q₁:ac->ag->Prop} (h:Q₁ (.ref s.heap.objs.size) { s with heap:=s.heap.push (eR w) }) :
  iN (aO prog w) A (.call (.builtin "set.__new__") ⟨[.type "set",a],[]⟩) (wants Q₁ E) s:=by
 refine Dd ?_
 show au _ A.in1 (do checkBuiltinCall "set.__new__" ⟨[.type "set",a],[]⟩;again (.builtin "set.__new__" ⟨[.type "set",a],[]⟩)) _ _ s
 refine a7 (eQ (F.newCall_set_1 a) (ae ⟨mB F.plain_set_new _,gx F.entry_set_new ?_⟩))
 rw [eG F.plain_set_new _]
 unfold jP.«set.__new__» OH
 have hsub:=Lb
 obtain ⟨hp,g,d,tk,os⟩:=s
 dsimp only
 wp_walk
 refine gX (ae ?_)
 dsimp only
 simp only [newObj]
 refine a7 (OG (ae ?_))
 exact ae h
structure Sz (prog:aM) (w:ba) (A:bv) (T:String) (l:aj) (o:Obj) (items:Array ac):Prop where
 ty:o.cls=.type T
 s1:isSubtype (.type T) (.type "set")=pure false
 s2:isSubtype (.type T) (.type "frozenset")=pure false
 nd:(il T == il "dict")=false
 iter:∀ (s:ag) (Q:ac->ag->Prop) (E:ac->ag->Prop),s.heap.get? l=some o ->
  (∀ ob St,KR prog w A.in1 s.heap.objs.size [s.heap.objs.size,l] [s.heap.objs.size] items.size (fun i v=>items[i]?=some v) St->St 0 (s.heap.push ob)->Q (.ref s.heap.objs.size) { s with heap:=s.heap.push ob })->au (aO prog w) A (v9 (.ref l)) Q E s
theorem ui {T:String}{l:aj}{ol:Obj}{items:Array ac}{xs:List Str}{Q:ac->ag->Prop}
  (src:Sz prog w A.in1.in1 T l ol items) (hol:s.heap.get? l=some ol) (hi:∀ (i:Nat) (v:ac),items[i]?=some v->∃ x t,xs[i]?=some x/\v=jq x t) (hx:xs.length=items.size) (hb:items.size + 1<iF)
  (h:∀ (h':bB) (tk:Nat),l7 w h' s.heap.objs.size (dk [] xs)->(∀ b o,s.heap.get? b=some o->h'.get? b=some o)->Q (.ref s.heap.objs.size) { s with heap:=h',toks:=tk }) :
  au (aO prog w) A (call (.type "set") [.ref l]) Q E s:=by
 obtain ⟨c,tl,hmro⟩:=F.called_set.mro
 have hmade:=F.called_set.made
 have hsub:=F.called_set.sub
 refine wpAny_call (Dd ?_)
 show au _ _ (callAny (.type "set") _) _ _ _
 refine ae ⟨Code.quiet_builtin _ (by decide +kernel),gx F.entry_type_call ?_⟩
 rw [Around.under_plain (weight_type_call_type "set" [.ref l] []) rfl]
 have h1:=F.called_set.notType
 have h2:=F.called_set.canCreate
 have hct:=F.typeCall_set_1 (.ref l)
 repeat (any_goals (first | assumption | wp_step))
 refine sg (LO (.ref l) (E:=E) (Q₁:=fun obj s₁=>obj=.ref s.heap.objs.size/\s₁={ s with heap:=s.heap.push (eR w) }) ⟨rfl,rfl⟩) fun r s₁ hr=>?_
 cases r with
 | error e=>exact hr
 | ok fl =>
  cases fl with
  | ret obj =>
   obtain ⟨rfl,rfl⟩:=hr
   have hS:(s.heap.push (eR w)).get? s.heap.objs.size=some (eR w):=ax _ rfl
   have hT:OI { s with heap:=s.heap.push (eR w) } (.ref s.heap.objs.size) "set":=⟨_,hS,rfl⟩
   have hli:=F.called_set.init.lookup
   have hbi:=F.called_set.init.bind (.ref s.heap.objs.size)
   repeat (any_goals (first | assumption | wp_step))
   refine sg (codeAny_call_builtin (R:=wants (fun r s₂=>r=.none/\∃ h' tk,s₂={ s with heap:=h',toks:=tk }/\l7 w h' s.heap.objs.size (dk [] xs) /\
     (∀ b o,s.heap.get? b=some o->h'.get? b=some o)) E) F.called_set.init.plain F.entry_set_init (check_set_init_1 hT ?_)) fun r₂ s₂ hr₂=>?_
   ·obtain ⟨oc,od,odt,os'⟩:=ol
    obtain ⟨ty,s1,s2,nd,iter⟩:=src
    have ty:oc=.type T:=ty
    subst ty
    have hol':(s.heap.push (eR w)).get? l=some { cls:=.type T,dict:=od,data:=odt,slots:=os' }:=af _ hol
    unfold jP.«set.__init__» noKeywords jm
    generalize hPI:v9=PI
    wp_walk
    subst hPI
    refine iter { s with heap:=s.heap.push (eR w) } _ _ hol' fun ob St W st=>?_
    have hlS:l<s.heap.objs.size:=aq hol
    refine a7 (wpAny_runValue ?_)
    have szp:(s.heap.push (eR w)).objs.size=s.heap.objs.size + 1:=cp ..
    refine z_ (A:=A.in1.in1) W s.heap.objs.size (by rw [szp];simp only [b9,aS,or_false,not_or];exact ⟨aF (dq _),eJ hlS⟩) xs hx hi hb items.size 0 _ [] (by omega) (cE _) (ar _) st (AQ w (af _ hS)) fun h' tk kp hS'=>?_
    show au _ _ _ _ _ _
    refine ae ?_
    show au _ _ (ret dW) _ _ _
    refine ae ⟨rfl,h',tk,rfl,hS',fun b o e=>kp b o ?_ (af _ (af _ e))⟩
    have:=aq e
    rw [szp]
    simp only [b9,aS,or_false,not_or]
    exact ⟨aF this,aF (eN this)⟩
   ·cases r₂ with
    | error e=>exact hr₂
    | ok fl₂ =>
     cases fl₂ with
     | ret r =>
      obtain ⟨rfl,h',tk,rfl,hS',hk'⟩:=hr₂
      repeat (any_goals (first | assumption | wp_step))
      exact h _ _ hS' hk'
     | next=>exact hr₂.elim
     | brk=>exact hr₂.elim
     | cont=>exact hr₂.elim
  | next=>exact hr.elim
  | brk=>exact hr.elim
  | cont=>exact hr.elim
theorem LP {l:aj}{o:Obj}{its:List ac} (hh:A.handled=none) (e0:o.cls=.type "list") (e1:∃ n,o.data=.seq its.toArray n):Sz prog w A "list" l o its.toArray :=
 ⟨e0,F.sub_list_set,F.sub_list_frozenset,by decide,fun s Q E e h=>iM ⟨_,e,e0,e1⟩
  (h _ _ (u0 (by simpa using hh) _ l (aF (aq e)) its.toArray) ⟨⟨_,ax _ rfl,rfl,rfl⟩,⟨_,af _ e,e0,e1⟩⟩)⟩
theorem Ps {l:aj}{o:Obj}{its:List ac} (hh:A.handled=none) (e0:o.cls=.type "tuple") (e1:∃ n,o.data=.seq its.toArray n):Sz prog w A "tuple" l o its.toArray :=
 ⟨e0,F.sub_tuple_set,F.sub_tuple_frozenset,by decide,fun s Q E e h=>fO ⟨_,e,e0,e1⟩
  (h _ _ (Walks.tuple (by simpa using hh) _ l (aF (aq e)) its.toArray) ⟨⟨_,ax _ rfl,rfl,rfl⟩,⟨_,af _ e,e0,e1⟩⟩)⟩
end
end
end L2
section
namespace L2
open PySem PySem.Spec PyProof.Rows
namespace SI
theorem entry_iter:FO table "set.__iter__"=some jP.«frozenset.__iter__» :=
 FP (id':="frozenset.__iter__") (by kernel_rfl) rfl (by decide +kernel) (by kernel_rfl)
theorem slot_next:Slot "set_iterator" "__next__" "set_iterator.__next__":=by
 refine .of (owner:="set_iterator") (n:="__next__") ?_ ?_ ?_ ?_ ?_ ?_
 ·rw [De,u3];kernel_rfl
 ·decide +kernel
 ·decide +kernel
 ·decide +kernel
 ·first
   | exact .inl (by decide +kernel)
   | exact .inr (by decide +kernel)
 ·rw [FQ];kernel_rfl
theorem entry_next:FO table "set_iterator.__next__"=some jP.«set_iterator.__next__» :=
 entryFor_of_tree (by kernel_rfl)
theorem DB:Manifest.owners.lookup (String.ofList ['r','o','t','a','r','e','t','i','_','t','e','s'].reverse)=some Manifest.sig_set_iterator:=by kernel_rfl
theorem args_next (a:ac):argsOk "set_iterator.__next__" ⟨[a],[]⟩:=by
 unfold argsOk
 rw [signature?_of (id:="set_iterator.__next__") (n:=['_','_','t','x','e','n','_','_']) (o:=['r','o','t','a','r','e','t','i','_','t','e','s']) (by kernel_rfl) DB]
 kernel_rfl
theorem args_iter (a:ac):argsOk "set_iterator.__iter__" ⟨[a],[]⟩:=by
 unfold argsOk
 rw [signature?_of (id:="set_iterator.__iter__") (n:=['_','_','r','e','t','i','_','_']) (o:=['r','o','t','a','r','e','t','i','_','t','e','s']) (by kernel_rfl) DB]
 kernel_rfl
theorem entry_self:FO table "set_iterator.__iter__"=some jP.«dict_keyiterator.__iter__» :=
 FP (id':="dict_keyiterator.__iter__") (by kernel_rfl) rfl (by decide +kernel) (by kernel_rfl)
theorem slot_iter:Slot "set_iterator" "__iter__" "set_iterator.__iter__":=by
 refine .of (owner:="set_iterator") (n:="__iter__") ?_ ?_ ?_ ?_ ?_ ?_
 ·rw [De,u3];kernel_rfl
 ·decide +kernel
 ·decide +kernel
 ·decide +kernel
 ·first
   | exact .inl (by decide +kernel)
   | exact .inr (by decide +kernel)
 ·rw [FQ];kernel_rfl
end SI
end L2
end
namespace L2
open PySem PySem.Spec PyProof.Rows
section
theorem sB {α:Type}:∀ {l:List α}{i:Nat} (h:i<l.length),(l[i]::l.eraseIdx i).Perm l
 | x::r,0,_=>.refl _
 | x::r,i + 1,h=>by
  have q:=sB (l:=r) (i:=i) (by simpa using h)
  rw [List.getElem_cons_succ,List.eraseIdx_cons_succ]
  exact (List.Perm.swap _ _ _).trans (q.cons x)
section
variable {M:KJ}{A:bv}{E:ac->ag->Prop}{s:ag}
theorem Jx {src:Source}{n:Nat}{Q:Nat->ag->Prop} (hn:n≠0) (h:∀ i d,i<n->Q i { s with drawn:=d }):au M A (choose src n) Q E s :=
 fun _ _ _=>⟨hn,h _ _ (Bz _ (Nat.pos_of_ne_zero hn))⟩
theorem uj {α:Type}:∀ (n:Nat) (xs:List α) (s:ag) (Q:List α->ag->Prop),n=xs.length->(∀ ys d,ys.Perm xs->Q ys { s with drawn:=d })->au M A (drawOrder n xs) Q E s
 | 0,xs,s,Q,hn,h=>by
  obtain rfl:xs=[]:=List.length_eq_zero_iff.mp hn.symm
  exact ae (h [] s.drawn .nil)
 | n + 1,[],s,Q,hn,h=>by cases hn
 | n + 1,x::r,s,Q,hn,h=>by
  show au M A (choose .order (x::r).length >>= _) Q E s
  refine a7 (Jx (by simp) fun i d hi=>?_)
  rw [aN hi]
  refine a7 (uj n _ _ _ (by rw [AB hi];omega) fun ys d' p=>ae ?_)
  exact h _ _ ((p.cons _).trans (sB hi))
end
theorem HB {α:Type} (next:Nat->Nat):∀ (n k:Nat) (left:List α) (out:Array α),n=left.length->(zR next n k left out).toList.Perm (out.toList++left)
 | 0,k,left,out,hn=>by
  obtain rfl:left=[]:=List.length_eq_zero_iff.mp hn.symm
  rw [zR,de]
 | n + 1,k,left,out,hn=>by
  have hl:next k % left.length<left.length:=Bz _ (by omega)
  rw [zR,aN hl]
  refine (HB next n (k + 1) _ _ (by rw [AB hl];omega)).trans ?_
  rw [KQ,nQ]
  exact (sB hl).append_left _
theorem vt {α:Type} (next:Nat->Nat) (xs:Array α):(oq next xs).toList.Perm xs.toList:=by
 have:=HB next xs.size 0 xs.toList #[] (by simp)
 simpa [oq] using this
def BQ (h:bB) (I S:aj) (first:ac) (i n ep:Nat):Prop:=h.get? I=some { cls:=.type "set_iterator",data:=.fields #[first,.int i 0,.ref S,.int n 0,.int ep 0] }
section
variable {prog:aM}{w:ba}{A:bv}{E:ac->ag->Prop}{s:ag}{I S:aj}{es:Array (Int×ac)}{ep:Nat}{t:ed}{i n:Nat}{first:ac}
theorem BQ.put {f f':ac}{j j':Nat}{k:Nat}{x:ac}{h:bB} (hit:BQ h I S f j n ep) (e:(#[f,.int j 0,.ref S,.int n 0,.int ep 0] : Array ac).setIfInBounds k x=#[f',.int j' 0,.ref S,.int n 0,.int ep 0]) :
  BQ (h.update I (dY (·.setIfInBounds k x))) I S f' j' n ep:=by
 have q:=fE (dY (·.setIfInBounds k x)) hit rfl
 unfold BQ
 rw [q]
 show some ({ cls:=.type "set_iterator",data:=.fields ((#[f,.int j 0,.ref S,.int n 0,.int ep 0] : Array ac).setIfInBounds k x) }:Obj)=_
 rw [e]
theorem qQ {Q:Option ac->ag->Prop} (hit:BQ s.heap I S first i n ep) (hS:cS w s.heap S es ep t) (hn:n=es.size)
  (h:au (aO prog w) A.in1 (do
   if let .int slot _:=first then
    match <- Lc S slot.toNat i ep with
    | some (x,next) =>
     gY (.ref I) 0 (cc next)
     gY (.ref I) 1 (cc (i + 1))
     ret x
    | none=>gY (.ref I) 2 .none;rE (<- sj (.type "StopIteration") [])
   else
    let some places <- seqItems? first | OJ "internal:set_iterator"
    match places[i]? with
    | some (.int place _) =>
     let x <- setNextDrawn S place.toNat ep
     gY (.ref I) 1 (cc (i + 1))
     ret x
    | some _=>OJ "internal:set_iterator"
    | none=>gY (.ref I) 0 (cc 0);gY (.ref I) 2 .none;rE (<- sj (.type "StopIteration") []))
   (fun fin s'=>∃ v,fin=.done (.ret v)/\Q (some v) s') (fun e s'=>au (aO prog w) A (isInstance e (.type "StopIteration")) (fun b s''=>b=true/\Q none s'') E s') s) :
  au (aO prog w) A (jr (.ref I)) Q E s:=by
 unfold jr
 refine a7 (mC ?_)
 refine cj (name:=fZ "__next__") ⟨_,hit,rfl⟩ SI.slot_next ?_
 refine c6 SI.slot_next ⟨_,hit,rfl⟩ SI.entry_next ?_ (SI.args_next _)
 show au _ _ (fieldsOf (.ref I) >>= _) _ _ s
 refine a7 (FR hit rfl ?_)
 show au _ _ (setEntries S >>= _) _ _ s
 refine a7 (wpAny_setEntries_of hS.at_ rfl hS.fits ?_)
 rw [if_neg (by rw [hn];simp)]
 refine bQ h (fun fin s' z=>?_) fun e s' z=>?_
 ·obtain ⟨v,rfl,q⟩:=z
  exact ⟨v,rfl,ae q⟩
 ·refine a7 (bQ z (fun b s'' ⟨hb,q⟩=>?_) fun _ _ z=>z)
  subst hb
  exact ae q
theorem BR {B:bv}{Q:Option ac->ag->Prop}{Q':Fin->ag->Prop}{o:Obj}{vs:Array ac} (hh:B.handled=none) (ho:s.heap.get? I=some o) (hd:o.data=.fields vs) (hz:2<vs.size)
  (h:∀ h',Ho I s.heap h'->Q none { s with heap:=h' }) :
  au (aO prog w) B (do gY (.ref I) 2 .none;rE (<- sj (.type "StopIteration") []))
   Q' (fun e s'=>au (aO prog w) A (isInstance e (.type "StopIteration")) (fun b s''=>b=true/\Q none s'') E s') s:=by
 refine a7 (fQ ho hd hz ?_)
 show au _ _ (sj (.type "StopIteration") [] >>= _) _ _ _
 refine a7 ?_
 simp only [sj,OK]
 refine a7 (bS ?_ (by size_fits))
 refine a7 (m:=l5 _ _) (eQ (a:=dW) ?_ ?_)
 ·first
   | rfl
   | (simp only [l5];rfl)
 refine bS ?_ (by size_fits)
 simp only [rE]
 refine a7 (Ja ?_)
 rw [hh]
 refine a7 (ae (OL ?_))
 refine gZ (T:="StopIteration") (b:=true) ⟨_,ax _ rfl,rfl⟩ vg ⟨rfl,?_⟩
 exact h _ (((bF ..).extBut.push _).push _)
end
end
section
section
variable {prog:aM}{w:ba}{A:bv}{E:ac->ag->Prop}{s:ag}{I S:aj}{es:Array (Int×ac)}{ep:Nat}{t:ed}{i n:Nat}{first:ac}
theorem cS.keep {h h':bB} (x:cS w h S es ep t) (k:∀ o,h.get? S=some o->h'.get? S=some o):cS w h' S es ep t:=⟨k _ x.at_,x.txt,x.nd,x.few,x.fits,x.led,x.pl⟩
theorem BS {Q:ac->ag->Prop} (hit:BQ s.heap I S first i n ep) (h:Q (.ref I) s):au (aO prog w) A (v9 (.ref I)) Q E s:=by
 refine zS ⟨_,hit,rfl⟩ SI.slot_iter (c6 SI.slot_iter ⟨_,hit,rfl⟩ SI.entry_self ?_ (SI.args_iter _))
 show au _ _ (ret (.ref I)) _ _ s
 exact ae ⟨_,rfl,"set_iterator",_,⟨_,hit,rfl⟩,SI.slot_next.lookup,h⟩
theorem f6 {Q:Bool->ag->Prop}{B:bv} (h:Q (w.params.followText "set-order") s):au (aO prog w) B setsByText Q E s:=by
 unfold setsByText
 exact a7 (gX (ae h))
theorem LQ {B:bv}{Q':Fin->ag->Prop}{x:ac}{nx:Nat}{E':ac->ag->Prop} (hit:BQ s.heap I S first i n ep)
  (h:∀ h',BQ h' I S (.int nx 0) (i + 1) n ep->bH I s.heap h'->Q' (.done (.ret x)) { s with heap:=h' }) :
  au (aO prog w) B (do gY (.ref I) 0 (cc nx);gY (.ref I) 1 (cc (i + 1));ret x) Q' E' s:=by
 refine a7 (fQ hit rfl (by simp) ?_)
 have h1:BQ (s.heap.update I (dY (·.setIfInBounds 0 (cc nx)))) I S (.int nx 0) i n ep:=hit.put (by simp [cc])
 refine a7 (fQ h1 rfl (by simp) ?_)
 have h2:BQ ((s.heap.update I (dY (·.setIfInBounds 0 (cc nx)))).update I (dY (·.setIfInBounds 1 (cc (i + 1))))) I S (.int nx 0) (i + 1) n ep:=h1.put (by simp [cc])
 exact ae (h _ h2 ((bF ..).trans (bF ..)))
theorem vv (f:Nat->Nat) (es:Array (Int×ac)):(oq f es).size=es.size:=by
 rw [<- av,(vt f es).length_eq,av]
theorem Ge (hh:A.handled=none) (hw:w.params.followText "set-order"=true) (hne:S≠I) :
  KR prog w A I [I,S] [I] es.size (fun i v=>((oq (w.params.setOrder S ep) es).toList.map (·.2))[i]?=some v) (fun i h=>BQ h I S (.int 0 0) i es.size ep/\cS w h S es ep t) where
 sub:=fun b hb=>by simp at hb;simp [hb]
 frame:=fun i h h' st k=>⟨k I (by simp) _ st.1,st.2.keep fun o e=>k S (by simp) o e⟩
 item:=fun i s Q E hi st hQ=>by
  obtain ⟨hit,hS⟩:=st
  refine qQ hit hS rfl ?_
  dsimp only
  unfold Lc setWalk
  refine a7 (a7 (bC hS.at_ rfl hS.fits (a7 (f6 ?_))))
  rw [hw]
  simp only [if_true,bne_self_eq_false,bJ,if_false]
  refine a7 (a7 (bC hS.at_ rfl hS.fits (a7 (f6 ?_))))
  rw [hw]
  simp only [if_true]
  refine a7 (gX (ae (ae ?_)))
  have hi':i<(oq (w.params.setOrder S ep) es).size:=by rw [vv];exact hi
  show au _ _ (match ((oq (w.params.setOrder S ep) es)[i]?).map fun e=>(e.2,(0:Int).toNat) with
   | some (x,next)=>do gY (.ref I) 0 (cc next);gY (.ref I) 1 (cc (i + 1));ret x
   | none=>do gY (.ref I) 2 .none;rE (<- sj (.type "StopIteration") [])) _ _ s
  rw [getElem?_pos _ i hi']
  refine LQ (nx:=0) hit fun h' h1 sb=>⟨_,rfl,hQ _ h' s.toks ?_ ⟨h1,hS.keep fun o e=>(sb.2 S hne).trans e⟩ fun b o hb e=>(sb.2 b fun z=>hb (by simp [z])).trans e⟩
  simp [hi']
 done:=fun s Q E st hQ=>by
  obtain ⟨hit,hS⟩:=st
  refine qQ hit hS rfl ?_
  dsimp only
  unfold Lc setWalk
  refine a7 (a7 (bC hS.at_ rfl hS.fits (a7 (f6 ?_))))
  rw [hw]
  simp only [if_true,bne_self_eq_false,bJ,if_false]
  refine a7 (a7 (bC hS.at_ rfl hS.fits (a7 (f6 ?_))))
  rw [hw]
  simp only [if_true]
  refine a7 (gX (ae (ae ?_)))
  show au _ _ (match ((oq (w.params.setOrder S ep) es)[es.size]?).map fun e=>(e.2,(0:Int).toNat) with
   | some (x,next)=>do gY (.ref I) 0 (cc next);gY (.ref I) 1 (cc (es.size + 1));ret x
   | none=>do gY (.ref I) 2 .none;rE (<- sj (.type "StopIteration") [])) _ _ s
  rw [getElem?_neg _ es.size (by rw [vv];exact b_ _)]
  exact BR (by simpa using hh) hit rfl (by simp) fun h' eb=>hQ h' s.toks fun b o hb e=>eb b o (fun z=>hb (by simp [z])) e
 self:=fun i s Q E st h=>BS st.1 h
inductive Wo (h:bB) (T:aj) (ps:List Nat):Prop
 | mk (o k:_) (h0:h.get? T=some o) (h1:o.data=.seq (ps.map fun (p:Nat)=>mz (p:Int) 0).toArray k):Wo h T ps
theorem DC (hh:A.handled=none) {T:aj}{ps:List Nat} (hne:S≠I) (hT:T≠I) (hp:∀ p∈ps,p<es.size) (hn:ps.length=es.size) :
  KR prog w A I [I,S,T] [I] es.size (fun i v=>(ps.map fun p=>(es.getD p (0,.none)).2)[i]?=some v) (fun i h=>BQ h I S (.ref T) i es.size ep/\cS w h S es ep t/\Wo h T ps) where
 sub:=fun b hb=>by simp at hb;simp [hb]
 frame:=fun i h h' st k=>⟨k I (by simp) _ st.1,st.2.1.keep fun o e=>k S (by simp) o e,let ⟨o,q,e,d⟩:=st.2.2;⟨o,q,k T (by simp) o e,d⟩⟩
 item:=fun i s Q E hi st hQ=>by
  obtain ⟨hit,hS,o,q,e,d⟩:=st
  refine qQ hit hS rfl ?_
  dsimp only
  refine a7 (ef e d ?_)
  have hi':i<ps.length:=by omega
  dsimp only
  rw [show ((ps.map fun (p:Nat)=>mz (p:Int) 0).toArray)[i]?=some (.int (ps[i] : Nat) 0) by simp [hi']]
  dsimp only
  unfold setNextDrawn
  refine a7 (a7 (bC hS.at_ rfl hS.fits ?_))
  have hlt:=hp ps[i] (gC hi')
  simp only [bne_self_eq_false,bJ,if_false,jS]
  rw [getElem?_pos es ps[i] hlt]
  refine ae ?_
  refine a7 (fQ hit rfl (by simp) ?_)
  have h1:BQ (s.heap.update I (dY (·.setIfInBounds 1 (cc (i + 1))))) I S (.ref T) (i + 1) es.size ep:=hit.put (by simp [cc])
  have sb:bH I s.heap (s.heap.update I (dY (·.setIfInBounds 1 (cc (i + 1))))):=bF ..
  refine ae ⟨_,rfl,hQ _ _ s.toks ?_ ⟨h1,hS.keep fun o e=>(sb.2 S hne).trans e,o,q,(sb.2 T hT).trans e,d⟩ fun b o hb e=>(sb.2 b fun z=>hb (by simp [z])).trans e⟩
  simp [hi',hlt]
 done:=fun s Q E st hQ=>by
  obtain ⟨hit,hS,o,q,e,d⟩:=st
  refine qQ hit hS rfl ?_
  dsimp only
  refine a7 (ef e d ?_)
  dsimp only
  rw [show ((ps.map fun (p:Nat)=>mz (p:Int) 0).toArray)[es.size]?=none by simp [<- hn]]
  dsimp only
  refine a7 (fQ hit rfl (by simp) ?_)
  have h1:BQ (s.heap.update I (dY (·.setIfInBounds 0 (cc 0)))) I S (.int 0 0) es.size es.size ep:=hit.put (by simp [cc])
  have sb:bH I s.heap (s.heap.update I (dY (·.setIfInBounds 0 (cc 0)))):=bF ..
  exact BR (s:={ s with heap:=s.heap.update I (dY (·.setIfInBounds 0 (cc 0))) }) (by simpa using hh) h1 rfl (by simp) fun h' eb=>hQ h' s.toks fun b o hb e=>eb b o (fun z=>hb (by simp [z])) ((sb.2 b fun z=>hb (by simp [z])).trans e)
 self:=fun i s Q E st h=>BS st.1 h
theorem LR {p:Array Nat}{j:Nat} (h:p=#[j]):i4 p 0=0:=by subst h;simp [i4,zT]
theorem LS {p:Array Nat}{j:Nat} (h:p=#[j]):i4 p (j + 1)=1:=by subst h;simp [i4,zT]
theorem Jy {t : ed} (h : t.fits 1 = true) : ∃ j, t.place = #[j] := by
  have h1 : t.place.size = 1 := by
    simp only [mK, aQ, beq_iff_eq] at h; exact h.1
  exact ⟨t.place[0], by apply Array.ext; · simp [h1]
                        · intro i h2 h3; have : i = 0 := by omega
                          subst this; simp⟩
theorem SA {B:bv}{k:Unit->Sem (Option (ac×Nat))}{Q:Option (ac×Nat)->ag->Prop} (hl:t.led=true) (h:au (aO prog w) B (k ()) Q E s) :
  au (aO prog w) B ((if (!t.led && !es.isEmpty)=true then OJ "set:maker-not-led" else pure ()) >>= k) Q E s:=by
 rw [if_neg (by rw [hl];simp)]
 exact a7 (ae h)
theorem uk {B:bv}{slot g:Nat}{Q:Option (ac×Nat)->ag->Prop} (hw:w.params.followText "set-order"=false) (hS:cS w s.heap S es ep t) (h1:es.size<=1)
  (h:Q (match es[i4 t.place slot]?,t.place[i4 t.place slot]? with | some (_,x),some j=>some (x,j + 1) | _,_=>none) s):au (aO prog w) B (Lc S slot g ep) Q E s:=by
 unfold Lc
 refine a7 (bC hS.at_ rfl hS.fits (a7 (f6 ?_)))
 rw [hw]
 simp only [bJ,if_false]
 split
 ·rename_i z
  exact absurd (show (!t.plain && decide (es.size > 1))=true from z) (by simp;omega)
 ·have hl:t.led=true:=by rw [hS.led,hw];rfl
  exact SA hl (ae h)
theorem Jz (hh:A.handled=none) (hw:w.params.followText "set-order"=false) (hne:S≠I) (h1:es.size<=1) :
  KR prog w A I [I,S] [I] es.size (fun i v=>(es.toList.map (·.2))[i]?=some v)
   (fun i h=>∃ k,BQ h I S (.int (k:Nat) 0) i es.size ep/\cS w h S es ep t/\(i=0->k=0)/\(i=1->es.size=1->∃ j,t.place=#[j]/\k=j + 1)) where
 sub:=fun b hb=>by simp at hb;simp [hb]
 frame:=fun i h h' st k=>let ⟨c,a1,a2,a3⟩:=st;⟨c,k I (by simp) _ a1,a2.keep fun o e=>k S (by simp) o e,a3⟩
 item:=fun i s Q E hi st hQ=>by
  obtain ⟨c,hit,hS,c0,c1⟩:=st
  have hi0:i=0:=by omega
  subst hi0
  obtain rfl:c=0:=c0 rfl
  have e1:es.size=1:=by omega
  obtain ⟨j,hj⟩:=Jy (t:=t) (by rw [<- e1];exact hS.fits)
  refine qQ hit hS rfl ?_
  dsimp only
  refine a7 (uk hw hS h1 ?_)
  rw [show (((0:Nat):Int).toNat)=0 from rfl,LR hj,getElem?_pos es 0 (by omega),hj]
  refine LQ (nx:=j + 1) hit fun h' h1 sb=>⟨_,rfl,hQ _ h' s.toks ?_ ⟨j + 1,h1,hS.keep fun o e=>(sb.2 S hne).trans e,by simp,fun _ _=>⟨j,hj,rfl⟩⟩ fun b o hb e=>(sb.2 b fun z=>hb (by simp [z])).trans e⟩
  simp [e1]
 done:=fun s Q E st hQ=>by
  obtain ⟨c,hit,hS,c0,c1⟩:=st
  refine qQ hit hS rfl ?_
  dsimp only
  refine a7 (uk hw hS h1 ?_)
  have hz:es[i4 t.place ((c:Nat):Int).toNat]?=none:=by
   rcases Nat.eq_zero_or_pos es.size with z | z
   ·rw [getElem?_neg];omega
   ·have e1:es.size=1:=by omega
    obtain ⟨j,hj,hc⟩:=c1 e1 e1
    rw [hc,show (((j + 1:Nat):Int).toNat)=j + 1 from rfl,LS hj,getElem?_neg];omega
  rw [hz]
  exact BR (by simpa using hh) hit rfl (by simp) fun h' eb=>hQ h' s.toks fun b o hb e=>eb b o (fun z=>hb (by simp [z])) e
 self:=fun i s Q E st h=>let ⟨_,a1,_⟩:=st;BS a1 h
theorem Gf {Q:ac->ag->Prop} (hh:A.handled=none) (hS:cS w s.heap S es ep t)
  (h:∀ (I:aj) (fp:List aj) (ord:List ac) (St:Nat->bB->Prop) (h':bB) (d:Drawn),s.heap.objs.size<=I->(∀ b∈fp,b=S\/s.heap.objs.size<=b)->(∀ b∈fp,b<h'.objs.size)->ord.Perm (es.toList.map (·.2))->(∀ B:bv,B.handled=none->KR prog w B I fp [I] ord.length (fun i v=>ord[i]?=some v) St)->St 0 h' ->
   (∀ b o,s.heap.get? b=some o->h'.get? b=some o)->OI { s with heap:=h',drawn:=d } (.ref I) "set_iterator"->Q (.ref I) { s with heap:=h',drawn:=d }):au (aO prog w) A (v9 (.ref S)) Q E s:=by
 have hT:s.TypeIs (.ref S) "set":=⟨_,hS.at_,rfl⟩
 have hlt:=aq hS.at_
 refine zS hT F.slot_set_iter (c6 F.slot_set_iter hT SI.entry_iter ?_ (F.args_set_iter_1 _))
 show au _ _ (sk S >>= _) _ _ s
 unfold sk
 refine a7 (a7 (wpAny_setEntries_of hS.at_ rfl hS.fits (ae ?_)))
 show au _ _ (setDrawn S >>= _) _ _ s
 unfold setDrawn
 refine a7 (a7 (bC hS.at_ rfl hS.fits (a7 (f6 (ae ?_)))))
 have fin:∀ (first:ac) (fp:List aj) (ord:List ac) (St:Nat->bB->Prop) (h':bB) (d:Drawn),(∀ b o,s.heap.get? b=some o->h'.get? b=some o)->s.heap.objs.size<=h'.objs.size ->
   (∀ b∈fp,b=S\/b=h'.objs.size\/(s.heap.objs.size<=b/\b<h'.objs.size))->ord.Perm (es.toList.map (·.2))->(∀ B:bv,B.handled=none->KR prog w B h'.objs.size fp [h'.objs.size] ord.length (fun i v=>ord[i]?=some v) St) ->
   (∀ h'':bB,(∀ b o,h'.get? b=some o->h''.get? b=some o)->BQ h'' h'.objs.size S first 0 es.size ep->St 0 h'') ->
   au (aO prog w) A.in1 (setEpoch S >>= fun e=>newFields "set_iterator" [first,cc 0,.ref S,cc es.size,cc e] >>= fun x=>ret x) (fun fin s'=>∃ v,fin=.done (.ret v)/\∃ T' r,s'.TypeIs v T'/\FK (.type T') "__next__"=pure (some r)/\Q v s') E { s with heap:=h',drawn:=d }:=by
  intro first fp ord St h' d kp hsz hfp pm W st
  have hS':cS w h' S es ep t:=hS.keep fun o e=>kp S o e
  refine a7 (wpAny_setEpoch_of (s:={ s with heap:=h',drawn:=d }) hS'.at_ rfl hS'.fits ?_)
  refine a7 (bS ?_ (by size_fits))
  have gp:∀ b o,h'.get? b=some o->(h'.push { cls:=.type "set_iterator",dict:=none,data:=.fields #[first,cc 0,.ref S,cc es.size,cc ep] }).get? b=some o:=fun b o e=>af _ e
  have it:(h'.push { cls:=.type "set_iterator",dict:=none,data:=.fields #[first,cc 0,.ref S,cc es.size,cc ep] }).get? h'.objs.size=some { cls:=.type "set_iterator",dict:=none,data:=.fields #[first,cc 0,.ref S,cc es.size,cc ep] }:=ax _ rfl
  refine ae ⟨_,rfl,"set_iterator",_,⟨_,it,rfl⟩,SI.slot_next.lookup,h h'.objs.size fp ord St _ d hsz (fun b hb=>?_) (fun b hb=>?_) pm W (st _ gp it) (fun b o e=>gp b o (kp b o e)) ⟨_,it,rfl⟩⟩
  ·rcases hfp b hb with z | z | z
   ·exact .inl z
   ·exact .inr (by rw [z];exact hsz)
   ·exact .inr z.1
  ·rw [cp]
   rcases hfp b hb with z | z | z
   ·rw [z];exact eN (aJ hlt hsz)
   ·rw [z];exact dq _
   ·exact eN z.2
 dsimp only
 split
 ·rename_i z
  have z:(!w.params.followText "set-order" && (!t.plain && decide (es.size > 1)))=true:=z
  refine a7 (uj _ _ _ _ (by simp) fun ys d pm=>?_)
  simp only [OK]
  have hyl:ys.length=es.size:=by have:=pm.length_eq;rwa [eK] at this
  have zl:=fj hS.few
  refine a7 (bS ?_ (by show (ys.map fun (i:Nat)=>cc i).toArray.size<=sizeLine;simp;omega))
  have tp:∀ ob:Obj,(s.heap.push ob).objs.size=s.heap.objs.size + 1:=fun ob=>cp ..
  refine fin (.ref s.heap.objs.size) [s.heap.objs.size + 1,S,s.heap.objs.size] (ys.map fun p=>(es.getD p (0,.none)).2)
   (fun i h=>BQ h (s.heap.objs.size + 1) S (.ref s.heap.objs.size) i es.size ep/\cS w h S es ep t/\Wo h s.heap.objs.size ys) (s.heap.push _) d
   (fun b o e=>af _ e) (by rw [tp];exact iI _) (fun b hb=>?_) ?_ (fun B hB=>?_) (fun h'' k it=>⟨by rw [tp] at it;exact it,hS.keep fun o e=>k S o (af _ e),_,_,k _ _ (ax _ rfl),rfl⟩)
  ·simp only [b9,aS,or_false] at hb
   rcases hb with y | y | y
   ·exact .inr (.inl (by rw [tp];exact y))
   ·exact .inl y
   ·exact .inr (.inr ⟨by rw [y];exact ar _,by rw [tp,y];exact dq _⟩)
  ·refine (pm.map _).trans (.of_eq ?_)
   apply xl
   ·simp
   ·intro k h1 h2
    have:k<es.size:=by simpa using h1
    simp [this]
  ·rw [ao,hyl,tp]
   exact DC hB (aF (eN hlt)) (aF (dq _)) (fun p hp=>List.mem_range.mp (pm.mem_iff.mp hp)) hyl
 ·rename_i z
  have z:¬ (!w.params.followText "set-order" && (!t.plain && decide (es.size > 1)))=true:=z
  refine a7 (ae ?_)
  have hne:S≠s.heap.objs.size:=aF hlt
  cases hw:w.params.followText "set-order" with
  | true =>
   refine fin (cc 0) [s.heap.objs.size,S] ((oq (w.params.setOrder S ep) es).toList.map (·.2)) (fun i h=>BQ h s.heap.objs.size S (.int 0 0) i es.size ep/\cS w h S es ep t) s.heap s.drawn (fun _ _ e=>e) (ar _) (fun b hb=>?_) ((vt _ es).map _) (fun B hB=>?_) (fun h'' k it=>⟨it,hS.keep fun o e=>k S o e⟩)
   ·simp only [b9,aS,or_false] at hb
    exact hb.elim (fun z=>.inr (.inl z)) .inl
   ·rw [ao,av,vv]
    exact Ge hB hw hne
  | false =>
   have h1:es.size<=1:=by
    rw [hw] at z
    rcases hS.pl with y | y
    ·omega
    ·rw [y] at z;simpa using z
   refine fin (cc 0) [s.heap.objs.size,S] (es.toList.map (·.2)) (fun i h=>∃ k,BQ h s.heap.objs.size S (.int (k:Nat) 0) i es.size ep/\cS w h S es ep t/\(i=0->k=0)/\(i=1->es.size=1->∃ j,t.place=#[j]/\k=j + 1)) s.heap s.drawn (fun _ _ e=>e) (ar _) (fun b hb=>?_) (.refl _) (fun B hB=>?_) (fun h'' k it=>⟨0,it,hS.keep fun o e=>k S o e,fun _=>rfl,fun y=>by cases y⟩)
   ·simp only [b9,aS,or_false] at hb
    exact hb.elim (fun z=>.inr (.inl z)) .inl
   ·rw [ao,av]
    exact Jz hB hw hne h1
end
end
section
section
variable {prog:aM}{w:ba}{A:bv}{E:ac->ag->Prop}{s:ag}{S:aj}{es:Array (Int×ac)}{ep:Nat}{t:ed}
theorem DD {Q:List ac->ag->Prop} (hh:A.handled=none) (hS:cS w s.heap S es ep t)
  (h:∀ (ord:List ac) (h':bB) (d:Drawn) (tk:Nat),ord.Perm (es.toList.map (·.2))->(∀ b o,s.heap.get? b=some o->h'.get? b=some o)->s.heap.objs.size<=h'.objs.size->Q ord { s with heap:=h',drawn:=d,toks:=tk }) :
  au (aO prog w) A (collect (.ref S)) Q E s:=by
 have hlt:=aq hS.at_
 unfold collect
 refine a7 (wpAny_runValue (gx F.entry_proto_collect ?_))
 rw [eG F.plain_proto_collect _]
 show au _ A.in1 (newList [] >>= fun l=>again (.builtin "list.__iadd__" ⟨[l,.ref S],[]⟩)) _ _ s
 refine a7 (bS ?_)
 refine ae ⟨mB F.plain_list_iadd _,gx F.entry_list_iadd ?_⟩
 rw [eG F.plain_list_iadd _]
 let s1:ag:={ s with heap:=s.heap.push { cls:=.type "list",data:=.seq ([] : List ac).toArray } }
 have sz1:s1.heap.objs.size=s.heap.objs.size + 1:=cp ..
 have at1:s1.heap.get? s.heap.objs.size=some { cls:=.type "list",data:=.seq ([] : List ac).toArray }:=ax _ rfl
 have hS1:cS w s1.heap S es ep t:=hS.keep fun o e=>af _ e
 show au _ A.in1 (u4 (.ref s.heap.objs.size) (.ref S) (.ref s.heap.objs.size)) _ _ s1
 have hT1:s1.TypeIs (.ref S) "set":=⟨_,hS1.at_,rfl⟩
 unfold u4
 refine a7 (kZ hT1 ?_)
 have e1:wo (.ref s.heap.objs.size) (.ref S)=false:=by simp [wo,eJ hlt]
 have e2:(il "set" == il "list")=false:=by decide
 have e3:(il "set" == il "tuple")=false:=by decide
 simp only [e1,e2,e3,Bool.or_false,bJ,if_false]
 refine a7 (Gf (A:=A.in1) (by simpa using hh) hS1 fun I fp ord St h' d hI hfp hfl pm W st kp tI=>?_)
 let s2:ag:={ s1 with heap:=h',drawn:=d }
 have hS2:cS w s2.heap S es ep t:=hS1.keep fun o e=>kp S o e
 have hT2:s2.TypeIs (.ref S) "set":=⟨_,hS2.at_,rfl⟩
 refine a7 (cX ?_)
 unfold Builtin.List.listLengthHint
 refine a7 (wpAny_specialOf (s:=s2) hT2 F.slot_set_len.lookup ?_)
 dsimp only
 rw [show splitId "set.__len__"=some ("set","__len__") from by decide +kernel]
 dsimp only
 refine a7 (gZ (b:=true) (s:=s2) hT2 (by rw [FQ];kernel_rfl) ?_)
 rw [if_neg (by decide),if_pos (by decide)]
 refine a7 (kZ (s:=s2) hT2 (ae ?_))
 rw [if_pos (by decide)]
 refine a7 (gG ?_)
 have nS:s.heap.objs.size∉fp:=fun z=>by
  rcases hfp _ z with q | q
  ·exact absurd hlt (by rw [<- q];exact b_ _)
  ·rw [sz1] at q;exact absurd q (Nat.not_succ_le_self _)
 have at2:s2.heap.get? s.heap.objs.size=some { cls:=.type "list",data:=.seq ([] : List ac).toArray }:=kp _ _ at1
 refine a7 ?_
 show au _ A.in1 (updateSeq s.heap.objs.size (·.push .none) >>= fun _=>updateSeq s.heap.objs.size (·.pop)) _ _ s2
 refine a7 (wpAny_updateSeq at2 rfl ?_)
 have at3:=fE (k_ (·.push dW)) at2 rfl
 refine wpAny_updateSeq at3 rfl ?_
 have at4:=fE (k_ (·.pop)) at3 rfl
 have oth:∀ b o,b≠s.heap.objs.size->s2.heap.get? b=some o->((s2.heap.update s.heap.objs.size (k_ (·.push dW))).update s.heap.objs.size (k_ (·.pop))).get? b=some o :=
  fun b o hb e=>(pU _ _ (db hb)).trans ((pU _ _ (db hb)).trans e)
 have zl:ord.length<=sizeLine:=by rw [pm.length_eq,ao,av];exact fj hS.few
 have W1:=W A.in1 (by simpa using hh)
 refine ae ⟨mB F.plain_extend_loop _,codeAny_extend_loopS (A:=A) W1.toS zl _ nS _ ord.length 0 { s2 with heap:=(s2.heap.update s.heap.objs.size (k_ (·.push dW))).update s.heap.objs.size (k_ (·.pop)) } _ _ rfl (cE _) (W1.frame 0 _ _ st fun b hb o e=>oth b o (fun z=>nS (z ▸ hb)) e) at4 (ItemsOf.nil _) fun s' acc' c' hm hS' hacc=>?_⟩
 show au _ A (load s.heap.objs.size >>= _) _ _ s'
 refine a7 (wpAny_load hS' (ae ?_))
 have hacc':acc'.toList=ord:=by
  apply List.ext_getElem?
  intro j
  rw [dD]
  by_cases hj:j<acc'.size
  ·have:=hacc.2 j acc'[j] (by simp [hj])
   rw [this];simp [hj]
  ·rw [getElem?_neg acc' j hj,cC (by rw [<- hacc.1];omega)]
 rw [hacc']
 obtain ⟨h3,g3,d3,t3,o3⟩:=s'
 obtain rfl:g3=s.gens:=hm.gens
 obtain rfl:d3=d:=hm.drawn
 obtain rfl:o3=s.os:=hm.os
 have old:∀ b o,s.heap.get? b=some o->h3.get? b=some o:=fun b o e=>by
  have hb:=aq e
  refine hm.heap b o ?_ (oth b o (aF hb) (kp b o (af _ e)))
  simp only [b9,aS,or_false,not_or]
  exact ⟨aF hb,aF (aJ hb (by have q:=hI;rw [sz1] at q;exact Nat.le_of_succ_le q))⟩
 refine h ord h3 _ t3 pm old ?_
 have:=aq (show h3.get? s.heap.objs.size=some _ from hS')
 exact cr this
theorem DE {x:ac}{Q:ac->ag->Prop} (hc:au (aO prog w) A.in1 (collect x) (fun vs s1=>∃ ss,sr vs ss/\vs.length<64 /\
   ∀ (h':bB) (vs':List ac) (ss':List Str) (e:Nat),(∀ b o,s1.heap.get? b=some o->h'.get? b=some o)->h'.get? s1.heap.objs.size=some (seqObj "list" vs'.toArray e)->sr vs' ss'->ss'.Perm ss->sortedS ss'=true ->
    Q (.ref s1.heap.objs.size) { s1 with heap:=h' }) E s):au (aO prog w) A (call (.builtin "sorted") [x]) Q E s:=by
 refine AC kind_sorted plain_sorted entry_sorted (args_sorted1 _) ?_
 unfold jP.«sorted»
 refine a7 (m:=checkCount "sorted" 1 1 _) (ae ?_)
 refine a7 (bQ hc (fun vs s1 z=>?_) fun _ _ z=>z)
 obtain ⟨ss,hss,h64,hq⟩:=z
 refine a7 (wpAny_newList ?_)
 have at1:(s1.heap.push (seqObj "list" vs.toArray 0)).get? s1.heap.objs.size=some (seqObj "list" vs.toArray 0):=ax _ rfl
 show au _ _ _ _ _ { s1 with heap:=s1.heap.push (seqObj "list" vs.toArray 0) }
 refine a7 (cX (c6 slot_list_sort ⟨_,at1,rfl⟩ entry_list_sort (list_sort_treeK strKind_oneLt at1 hss.keysOf (fun v₁ v₂ c7 e=>keyKind_strs (by rw [<- e];exact hss)) h64 fun st' a1 a2=>⟨_,rfl,?_⟩) (args_list_sort _)))
 obtain ⟨ss',p1,p2,p3⟩:=sorted_out_str hss a1 a2
 obtain ⟨e,at2⟩:=sortedHeap_at (out:=(arrOf st').map (·.2)) at1
 refine ae ⟨_,rfl,hq _ _ ss' e (fun b o q=>?_) at2 p1 p2 p3⟩
 have hb:=aq q
 rw [sortedHeap_old (aF hb) (by rw [cp];exact eN hb)]
 exact af _ q
end
end
section
def pF (x y:Str):Bool:=decide (x.cps.toList<y.cps.toList)
def Gg (x:Str):List Str->List Str
 | []=>[x]
 | y::r=>if pF y x then y::Gg x r else x::y::r
def jv:List Str->List Str
 | []=>[]
 | x::r=>Gg x (jv r)
theorem vw (x:Str):∀ l,(Gg x l).Perm (x::l)
 | []=>.refl _
 | y::r=>by
  rw [Gg]
  split
  ·exact ((vw x r).cons y).trans (.swap ..)
  ·exact .refl _
theorem fS:∀ l,(jv l).Perm l
 | []=>.refl _
 | x::r=>(vw x _).trans ((fS r).cons x)
theorem sC (x:Str):pF x x=false:=decide_eq_false (List.lt_irrefl _)
theorem qR {x y z:Str} (h1:pF x y=true) (h2:pF y z=true):pF x z=true :=
 decide_eq_true (List.lt_trans (of_decide_eq_true h1) (of_decide_eq_true h2))
theorem xq {x y:Str} (h1:pF x y=false) (h2:pF y x=false):x=y:=by
 have h1:¬ x.cps.toList<y.cps.toList:=of_decide_eq_false h1
 have h2:¬ y.cps.toList<x.cps.toList:=of_decide_eq_false h2
 have:x.cps.toList=y.cps.toList:=List.le_antisymm (List.not_lt.mp h2) (List.not_lt.mp h1)
 cases x;cases y
 exact congrArg Str.mk (Array.toList_inj.mp this)
abbrev OA (l:List Str):Prop:=l.Pairwise fun a b=>pF b a=false
theorem LU (x:Str):∀ l,OA l->OA (Gg x l)
 | [],_=>by simp [Gg,OA]
 | y::r,h=>by
  obtain ⟨h1,h2⟩:=List.pairwise_cons.mp h
  rw [Gg]
  split
  ·rename_i hy
   refine List.pairwise_cons.mpr ⟨fun z hz=>?_,LU x r h2⟩
   rcases List.mem_cons.mp ((vw x r).mem_iff.mp hz) with e | e
   ·subst e
    cases q:pF z y with
    | false=>rfl
    | true=>exact absurd (qR q hy) (by rw [sC];decide)
   ·exact h1 z e
  ·rename_i hy
   have hy:pF y x=false:=by simpa using hy
   refine List.pairwise_cons.mpr ⟨fun z hz=>?_,h⟩
   rcases List.mem_cons.mp hz with e | e
   ·subst e;exact hy
   ·cases q:pF z x with
    | false=>rfl
    | true =>
     have hzy:=h1 z e
     cases q2:pF x y with
     | true=>rw [qR q q2] at hzy;cases hzy
     | false=>rw [<- xq hy q2,hzy] at q;cases q
theorem qj:∀ l,OA (jv l)
 | []=>.nil
 | x::r=>LU x _ (qj r)
theorem ul:∀ (p:Str) (l:List Str),risingS p l=true->OA (p::l)
 | p,[],_=>by simp [OA]
 | p,x::r,h=>by
  rw [risingS,aQ] at h
  obtain ⟨h1,h2⟩:=h
  have h1:pF x p=false:=by
   rw [ltCps_eq] at h1
   simpa [pF] using h1
  have ih:=ul x r h2
  refine List.pairwise_cons.mpr ⟨fun z hz=>?_,ih⟩
  rcases List.mem_cons.mp hz with e | e
  ·rw [e];exact h1
  ·have hzx:=(List.pairwise_cons.mp ih).1 z e
   cases q:pF z p with
   | false=>rfl
   | true =>
    cases q2:pF p x with
    | true=>rw [qR q q2] at hzx;cases hzx
    | false=>rw [xq q2 h1,hzx] at q;cases q
theorem BU:∀ (l:List Str),sortedS l=true->OA l
 | [],_=>.nil
 | x::r,h=>ul x r h
theorem AR:∀ {l l':List Str},l.Perm l'->OA l->OA l'->l=l'
 | [],l',p,_,_=>by rw [List.nil_perm.mp p]
 | x::r,[],p,_,_=>by have:=p.length_eq;simp at this
 | x::r,y::r',p,h,h'=>by
  obtain ⟨a1,a2⟩:=List.pairwise_cons.mp h
  obtain ⟨b1,b2⟩:=List.pairwise_cons.mp h'
  have e:x=y:=by
   have hx:x∈y::r':=p.mem_iff.mp am
   have hy:y∈x::r:=p.mem_iff.mpr am
   rcases List.mem_cons.mp hx with e | e
   ·exact e
   ·rcases List.mem_cons.mp hy with e' | e'
    ·exact e'.symm
    ·exact xq (b1 x e) (a1 y e')
  subst e
  rw [AR (List.Perm.cons_inv p) a2 b2]
theorem DF {l l':List Str} (p:l'.Perm l) (h:sortedS l'=true):l'=jv l:=AR (p.trans (fS l).symm) (BU _ h) (qj l)
theorem vx {l:List Str} (h:OA l) (nd:l.Nodup):l.Pairwise fun a b=>pF a b=true:=by
 induction l with
 | nil=>exact .nil
 | cons x r ih =>
  obtain ⟨a1,a2⟩:=List.pairwise_cons.mp h
  obtain ⟨n1,n2⟩:=List.nodup_cons.mp nd
  refine List.pairwise_cons.mpr ⟨fun y hy=>?_,ih a2 n2⟩
  cases q:pF x y with
  | true=>rfl
  | false=>exact absurd (xq q (a1 y hy) ▸ hy) n1
theorem lw:∀ {ss:List Str}{us:List ac},dJ (ss.map V.str) us->sr us ss
 | [],_,.nil=>.nil
 | x::r,_,.cons h t=>by obtain ⟨tk,rfl⟩:=h;exact .cons x tk (lw t)
theorem oE:∀ {ss:List Str}{us:List ac},sr us ss->dJ (ss.map V.str) us
 | _,_,.nil=>.nil
 | _,_,.cons x t h=>.cons ⟨t,rfl⟩ (oE h)
theorem fo:∀ {ss:List Str}{us:List ac},sr us ss->us.length=ss.length
 | _,_,.nil=>rfl
 | _,_,.cons x t h=>by simp [fo h]
theorem xR {ss:List Str}{us:List ac} (h:sr us ss) (i:Nat) (v:ac) (e:us[i]?=some v):∃ x t,ss[i]?=some x/\v=jq x t:=by
 induction h generalizing i with
 | nil=>simp at e
 | cons y t _ ih =>
  cases i with
  | zero=>simp at e;exact ⟨y,t,by simp,e.symm⟩
  | succ i=>simp at e;simpa using ih i e
theorem um {w:ba}:∀ {l:List (Int×ac)},(∀ e∈l,sA w e)->sr (l.map (·.2)) (l.map jO)
 | [],_=>.nil
 | e::r,h=>by
  obtain ⟨x,tk,rfl⟩:=h e am
  exact .cons x tk (um fun e he=>h e (ak _ he))
theorem BV {us us':List ac}{ss:List Str} (h:sr us ss) (p:us'.Perm us):∃ ss',sr us' ss'/\ss'.Perm ss:=by
 refine ⟨us'.map strOf,strsAre_map _ fun v hv=>h.all v (p.mem_iff.mp hv),?_⟩
 rw [<- h.strs]
 exact p.map _
def lz (w:ba) (a:aj) (ss:List Str):HO:=.ext fun h=>l7 w h a ss
theorem BW {P:aM}{w:ba}{H:Hp}{h:bB}{a:aj}{ss:List Str} (x:l7 w h a ss):dA P w H h a (lz w a ss) :=
 ⟨x,let ⟨_,_,_,I,_⟩:=x;⟨_,I.at_⟩,fun _ _ y k=>y.keep k⟩
section
variable {X:Cx}
theorem DG (hc:X.calm=true):jR X (.type "set") (fun xs H Q=>∃ p ss,xs=[.ref p]/\(lW X.K H p (ss.map V.str)\/kK X.K H p (ss.map V.str))/\ss.length + 1<iF/\∀ a,H a=none->Q (.ref a) (upd H a (lz X.w a (dk [] ss)))):=by
 intro pins s σ H xs us Q I r h
 obtain ⟨p,ss,rfl,hq,hz,q⟩:=h
 obtain ⟨u,rfl,rx⟩:=kL r
 cases rx
 have hh:=I.ok.hd hc
 have fin:∀ (h':bB) (tk:Nat),l7 X.w h' s.heap.objs.size (dk [] ss)->(∀ b o,s.heap.get? b=some o->h'.get? b=some o)->EP X pins σ Q (.ref s.heap.objs.size) { s with heap:=h',toks:=tk }:=fun h' tk hS kp =>
  ⟨.ref s.heap.objs.size,_,I.laid (t':=tk) kp (ar _) (BW hS),rfl,q _ (I.hok.fresh (ar _))⟩
 rcases hq with hq | hq
 ·obtain ⟨its,r',⟨o,n,ho,h1,h2,h3⟩,_⟩:=I.list hq
  have sa:=lw r'
  exact ui (LP (by simpa using hh) h1 ⟨n,h3⟩) ho (fun i v e=>xR sa i v (by simpa using e)) (by simp [fo sa]) (by simp [fo sa];exact hz) fin
 ·obtain ⟨its,r',⟨o,ho,h1,n,h3⟩,_⟩:=I.tuple hq
  have sa:=lw r'
  exact ui (Ps (by simpa using hh) h1 ⟨n,h3⟩) ho (fun i v e=>xR sa i v (by simpa using e)) (by simp [fo sa]) (by simp [fo sa];exact hz) fin
theorem vy:jR X (.builtin "sorted") (fun xs H Q=>∃ p ss,xs=[.ref p]/\lW X.K H p (ss.map V.str)/\ss.length<64/\∀ l,H l=none->Q (.ref l) (upd H l (.lst ((jv ss).map V.str)))):=by
 intro pins s σ H xs us Q I r h
 obtain ⟨p,ss,rfl,hq,hz,q⟩:=h
 obtain ⟨u,rfl,rx⟩:=kL r
 cases rx
 obtain ⟨its,r',pl,hl⟩:=I.list hq
 have sa:=lw r'
 refine sorted_strs pl.isList sa (by rw [fo sa];exact hz) fun out ss' a1 a2 a3=>?_
 obtain ⟨e,he⟩:=sortedAll_at s.heap its out
 have kp:∀ b o,s.heap.get? b=some o->(sortedAll s.heap its out).get? b=some o:=fun b o=>sortedAll_old
 obtain rfl:=DF a2 a3
 refine ⟨.ref (s.heap.objs.size + 1),upd H (s.heap.objs.size + 1) (.lst ((jv ss).map V.str)),I.laid (t':=s.toks) kp (iI _) (show dA X.prog X.w _ _ _ (.lst _) from ⟨?_,out.toList,e,oE a1,by simpa [seqObj] using he⟩),rfl,q _ (I.hok.fresh (iI _))⟩
 rw [ao,(fS ss).length_eq]
 have:=hl
 rw [ao] at this
 exact this
theorem wX (hc:X.calm=true):jR X (.builtin "sorted") (fun xs H Q=>∃ p ss,xs=[.ref p]/\H p=some (lz X.w p ss)/\ss.length<64/\∀ l,H l=none->Q (.ref l) (upd H l (.lst ((jv ss).map V.str)))):=by
 intro pins s σ H xs us Q I r h
 obtain ⟨p,ss,rfl,hq,hz,q⟩:=h
 obtain ⟨u,rfl,rx⟩:=kL r
 cases rx
 have hh:=I.ok.hd hc
 obtain ⟨⟨es,ep,t,S,pm⟩,_⟩:=(show dA X.prog X.w H s.heap p (lz X.w p ss) from I.hok p _ hq)
 refine DE (DD (by simpa using hh) S fun ord h' d tk po kp sz=>?_)
 obtain ⟨ss1,sa,p1⟩:=BV (um S.txt) po
 have ln:ss1.length=ss.length:=(p1.trans pm).length_eq
 refine ⟨ss1,sa,by rw [fo sa,ln];exact hz,fun h2 vs' ss' e kp2 at2 sa2 p2 s2=>?_⟩
 have kk:∀ b o,s.heap.get? b=some o->h2.get? b=some o:=fun b o e=>kp2 b o (kp b o e)
 have es':ss'=jv ss:=DF (p2.trans (p1.trans pm)) s2
 subst es'
 have fr:=I.hok.fresh sz
 have ok2:dA X.prog X.w (upd H h'.objs.size (.lst ((jv ss).map V.str))) h2 h'.objs.size (.lst ((jv ss).map V.str)) :=
  ⟨by rw [ao,(fS ss).length_eq];exact bZ (cr hz) (by rw [D7];decide),vs',e,oE sa2,at2⟩
 exact ⟨.ref h'.objs.size,_,I.call' (s':={ s with heap:=h2,drawn:=d,toks:=tk }) (ch:=[]) rfl (Un.laid kk sz fr) (I.hok.laid kk sz ok2) I.bare (fun b z=>absurd z (by simp)),rfl,q _ fr⟩
end
end
section
section
variable {X:Cx}
theorem wy {prog:aM}{w:ba}{B:bv}{bs:List Bool}{its:List ac} (r:dJ (bs.map V.bl) its):TruthOf prog w B (fun i v=>its.toArray[i]?=some v) (fun i=>bs.getD i false):=by
 intro i v s Q E hv hq
 have hv:its[i]?=some v:=by simpa using hv
 have hl:=r.length
 rw [ao] at hl
 obtain ⟨hi,_⟩:=List.getElem?_eq_some_iff.mp hv
 have hb:bs[i]?=some bs[i]:=aN (by omega)
 obtain ⟨u,hu,ru⟩:=r.get (i:=i) (x:=.bl bs[i]) (by rw [aZ,hb];rfl)
 rw [hv] at hu;cases hu
 cases ru
 have hq:Q (bs.getD i false) s:=hq
 rw [da,hb] at hq
 exact dL hq
theorem LV (bs:List Bool):(bx bs.length).all (fun i=>bs.getD i false)=bs.all id:=by
 rw [jn,ck,ck]
 constructor
 ·intro h b hb
  obtain ⟨i,hi,rfl⟩:=gy hb
  have:=h i (List.mem_range.mpr hi)
  simpa [da,hi] using this
 ·intro h i hi
  have hi:=List.mem_range.mp hi
  have:=h bs[i] (gC hi)
  simpa [da,hi] using this
theorem LW (bs:List Bool):(bx bs.length).any (fun i=>bs.getD i false)=bs.any id:=by
 rw [jn,iR,iR]
 constructor
 ·rintro ⟨i,hi,h⟩
  have hi:=List.mem_range.mp hi
  exact ⟨bs[i],gC hi,by simpa [da,hi] using h⟩
 ·rintro ⟨b,hb,h⟩
  obtain ⟨i,hi,rfl⟩:=gy hb
  exact ⟨i,List.mem_range.mpr hi,by simpa [da,hi] using h⟩
theorem xS (hc:X.calm=true):jR X (.builtin "all") (fun xs H Q=>∃ p,∃ bs:List Bool,xs=[.ref p]/\lW X.K H p (bs.map V.bl)/\Q (.bl (bs.all id)) H):=by
 intro pins s σ H xs us Q I r h
 obtain ⟨p,bs,rfl,hq,q⟩:=h
 obtain ⟨u,rfl,rx⟩:=kL r
 cases rx
 obtain ⟨its,r',pl,hl⟩:=I.list hq
 have ln:its.toArray.size=bs.length:=by have:=r'.length;simp at this ⊢;omega
 obtain ⟨o,ho,hk⟩:=pl.isList
 refine call_all_walk (iM pl.isList ⟨_,_,_,_,_,_,_,rfl,u0 (by simpa using I.ok.hd hc) _ p (aF (aq ho)) its.toArray,⟨⟨_,ax _ rfl,rfl,rfl⟩,pl.isList.push _⟩,wy r',fun h' tk kp=>?_⟩)
 rw [ln,LV]
 refine ⟨.bl _,H,I.kept (t':=tk) fun b o e=>kp b o ?_ (af _ e),rfl,q⟩
 simp only [dO]
 exact aF (aq e)
theorem xT (hc:X.calm=true):jR X (.builtin "any") (fun xs H Q=>∃ p,∃ bs:List Bool,xs=[.ref p]/\lW X.K H p (bs.map V.bl)/\Q (.bl (bs.any id)) H):=by
 intro pins s σ H xs us Q I r h
 obtain ⟨p,bs,rfl,hq,q⟩:=h
 obtain ⟨u,rfl,rx⟩:=kL r
 cases rx
 obtain ⟨its,r',pl,hl⟩:=I.list hq
 have ln:its.toArray.size=bs.length:=by have:=r'.length;simp at this ⊢;omega
 obtain ⟨o,ho,hk⟩:=pl.isList
 refine call_any_walk (iM pl.isList ⟨_,_,_,_,_,_,_,rfl,u0 (by simpa using I.ok.hd hc) _ p (aF (aq ho)) its.toArray,⟨⟨_,ax _ rfl,rfl,rfl⟩,pl.isList.push _⟩,wy r',fun h' tk kp=>?_⟩)
 rw [ln,LW]
 refine ⟨.bl _,H,I.kept (t':=tk) fun b o e=>kp b o ?_ (af _ e),rfl,q⟩
 simp only [dO]
 exact aF (aq e)
theorem JA:oB X (bI .LtE) (fun x y H Q=>∃ i j,x=.str i/\y=.str j/\Q (.bl (!decide (j.cps.toList<i.cps.toList))) H):=by
 intro pins s σ H x y v u Q I rx ry h
 obtain ⟨i,j,rfl,rfl,q⟩:=h
 obtain ⟨t,rfl⟩:=rx
 obtain ⟨t',rfl⟩:=ry
 exact PySem.P.le_str (BG I q rfl)
end
end
section
def Ug (x:Str):It:=⟨fun i _=>i<x.cps.size,fun i H v H'=>H'=H/\∃ c,x.cps[i]?=some c/\v=.str ⟨#[c]⟩,fun i _=>x.cps.size<=i⟩
theorem LX {P:aM}{w:ba}{K:a8}{tg:aX} (x:Str) (t:Tok) (it:aj):vk P w K tg (Ug x) [it] it (fun i h=>h.IsStrIter it (i5 x) x t i) where
 mem:=by simp
 obj:=fun i h st b hb=>by
  obtain rfl:b=it:=by simpa using hb
  obtain ⟨o,e,c,d⟩:=st
  exact ⟨o,e,fun v z=>by rw [d] at z;cases z⟩
 keep:=fun i h h' st k=>let ⟨o,e,r⟩:=st;⟨o,k it (by simp) o e,r⟩
 item:=by
  intro X hP hw hK hc i pins s σ H E I hf st hg
  subst hP hw hK
  have hg:i<x.cps.size:=hg
  obtain ⟨f0,f1,f2,f3,f4,f5⟩:=hf it (by simp)
  have hx:x.cps[i]?=some x.cps[i]:=getElem?_pos _ i hg
  have go:∀ (h':bB) (tk tk':Nat),h'.IsStrIter it (i5 x) x t (i + 1)->bH it s.heap h'->∃ u,some (jq ⟨#[x.cps[i]]⟩ tk)=some u /\
    au (aO X.prog X.w) X.A (gn tg (.ref it) u) (fun _ s2=>∃ v H',bP X pins σ H' s2/\du v u/\(Ug x).yld i H v H'/\s2.heap.IsStrIter it (i5 x) x t (i + 1)/\∀ b∈[it],H' b=none) E { s with heap:=h',toks:=tk' }:=fun h' tk tk' st' sb=>by
   have I1:bP X pins σ H { s with heap:=h',toks:=tk' }:=I.turned (fun b o hb e=>(sb.2 b hb).trans e) f0 f1 f3 f4 f5
   refine ⟨_,rfl,?_⟩
   have q:∃ v H',bP X pins σ H' { s with heap:=h',toks:=tk' }/\du v (jq ⟨#[x.cps[i]]⟩ tk)/\(Ug x).yld i H v H'/\h'.IsStrIter it (i5 x) x t (i + 1)/\∀ b∈[it],H' b=none :=
    ⟨.str ⟨#[x.cps[i]]⟩,H,I1,⟨tk,rfl⟩,⟨rfl,_,hx,rfl⟩,st',fun b hb=>(hf b hb).1⟩
   unfold gn
   cases tg<;>exact ae q
  cases ha:x.cps.all (·<128)
  ·have ty:i5 x="str_iterator":=by unfold i5;rw [ha];rfl
   rw [ty] at st
   exact wpAny_pyNext_wide_item st hx fun h' st' sb=>go h' _ _ (by rw [ty];exact st') sb
  ·have ty:i5 x="str_ascii_iterator":=by unfold i5;rw [ha];rfl
   rw [ty] at st
   exact wpAny_pyNext_ascii_item st hx fun h' st' sb=>go h' _ _ (by rw [ty];exact st') sb
 done:=by
  intro X hP hw hK hc i pins s σ H E I hf st hg
  subst hP hw hK
  have hg:x.cps.size<=i:=hg
  obtain ⟨f0,f1,f2,f3,f4,f5⟩:=hf it (by simp)
  have hx:x.cps[i]?=none:=getElem?_neg _ i (Nat.not_lt.mpr hg)
  unfold i5 at st
  cases ha:x.cps.all (·<128)
  ·rw [ha] at st
   exact wpAny_pyNext_wide_end (I.ok.hd hc) st hx fun h' eb=>⟨rfl,I.turned (t':=s.toks) (fun b o hb e=>eb b o hb e) f0 f1 f3 f4 f5⟩
  ·rw [ha] at st
   exact wpAny_pyNext_ascii_end (I.ok.hd hc) st hx fun h' eb=>⟨rfl,I.turned (t':=s.toks) (fun b o hb e=>eb b o hb e) f0 f1 f3 f4 f5⟩
 self:=fun _ _ _ _ _ st h=>by
  unfold i5 at st
  cases ha:x.cps.all (·<128)
  ·rw [ha] at st;exact wpAny_pyIter_striter_wide st h
  ·rw [ha] at st;exact wpAny_pyIter_striter_ascii st h
def Wp (tl:TE):TI:=fun σ H R=>tl σ H fun v H1=>∃ x,v=.str x/\R (Ug x) H1
theorem LY {X:Cx}{tg l:aX}{tl:TE} (hl:PE X l tl):PI X tg l (Wp tl):=by
 intro pins s σ H R I h
 refine fk (hl pins s σ H _ I h) fun v s1 h_0=>?_
 obtain ⟨y,H1,I1,r1,q1⟩:=h_0
 obtain ⟨x,rfl,q⟩:=q1
 obtain ⟨t,rfl⟩:=r1
 refine wpAny_pyIter_strU ?_
 refine ⟨s1.heap.objs.size,[s1.heap.objs.size],_,_,H1,rfl,I1.kept (t':=s1.toks) fun b o e=>af _ e,LX x t _,⟨_,ax _ rfl,rfl,rfl⟩,fun b hb=>?_,q⟩
 obtain rfl:b=s1.heap.objs.size:=by simpa using hb
 exact I1.fpOk (ar _) (I1.hok.fresh (ar _))
end
section
section
variable {X:Cx}{pins:List (aj×Obj)}{σ:St}{H H':Hp}{s:ag}{h':bB}
theorem bP.turnedL {t':Nat}{ch:List aj} (I:bP X pins σ H s) (k:∀ b o,b∉ch->s.heap.get? b=some o->h'.get? b=some o) (hf:∀ b∈ch,qf X pins H b):bP X pins σ H { s with heap:=h',toks:=t' }:=by
 have nt:∀ b u,H b=some u->b∉ch:=fun b u e z=>by rw [(hf b z).1] at e;cases e
 refine I.step (g':=s.gens) (d':=s.drawn) (ch:=ch) (fun b hb=>?_) (fun b o _ _ hc e _=>k b o hc e) (fun b o _ _ hc e _=>⟨o.slots,k b o hc e⟩) (fun _ _ _ _ n=>n)
  (fun b o hc e=>⟨o,k b o hc e⟩) (fun _ _ e=>e) (fun _ _ _ e=>e) (fun b ps e=>⟨#[],by rw [e];simp⟩) (fun m hm=>?_) (fun b u e=>?_) I.bare
 ·obtain ⟨f0,f1,f2,f3,f4,f5⟩:=hf b hb
  exact ⟨f3,f1,f4,f5⟩
 ·obtain ⟨o,es,ep,ho,r⟩:=hm
  exact ⟨o,es,ep,k _ o (fun z=>(hf _ z).f1 rfl) ho,r⟩
 ·refine (I.hok b u e).stay (fun c v hc q=>k c v ?_ q) (fun _ q=>q) fun _ _ q=>q
  rcases hc with z | z
  ·rw [z];exact nt b u e
  ·exact nt c _ z
theorem bP.track {D:aj}{ho:HO} (I:bP X pins σ H s) (hf:qf X pins H D) (new:dA X.prog X.w (upd H D ho) s.heap D ho):bP X pins σ (upd H D ho) s:=by
 obtain ⟨f0,f1,f2,f3,f4,f5⟩:=hf
 have I':bP X pins σ (upd H D ho) { s with heap:=s.heap,gens:=s.gens,drawn:=s.drawn,toks:=s.toks }:=I.step (ch:=[D]) (fun b hb=>by
   obtain rfl:b=D:=by simpa using hb
   exact ⟨f3,f1,f4,f5⟩) (fun b o _ _ _ e _=>e) (fun b o _ _ _ e _=>⟨o.slots,e⟩) (fun b o hc e n=>by rw [bt (fun z=>hc (by simp [z]))];exact n) (fun b o _ e=>⟨o,e⟩)
  (fun b xs e=>by rw [bt (bT e f0)];exact e) (fun b o xs e=>by rw [bt (bT e f0)];exact e) (fun b ps e=>⟨#[],by rw [bt (bT e f0),e];simp⟩) (fun m hm=>hm) (vq I.hok f0 new) I.bare
 exact I'
end
section
variable {prog:aM}{w:ba}{A:bv}{E:ac->ag->Prop}{s:ag}{it l:aj}{i:Nat}{items:Array ac}
theorem uo {x:ac}{Q:ac->ag->Prop} (ti:s.heap.IsTupleIter it l i) (tl:s.heap.IsTuple l items) (hx:items[i]?=some x)
  (q:∀ h',h'.IsTupleIter it l (i + 1)->bH it s.heap h'->Q x { s with heap:=h' }):au (aO prog w) A (cy (.ref it)) Q E s:=by
 obtain ⟨oi,ei,ci,di⟩:=id ti
 obtain ⟨ot,et,_,nt,dt⟩:=tl
 unfold cy
 refine a7 (cj (name:=fZ "__next__") ti.typeIs iT ?_)
 refine c6 iT ti.typeIs Da ?_ (BA _)
 show au _ _ (FT (.ref it) 0 >>= _) _ _ s
 refine a7 (dM ei di (x:=.ref l) rfl ?_)
 show au _ _ (if (bX l == dW)=true then _ else _) _ _ s
 rw [if_neg (fun z:(bX l == dW)=true=>bi z)]
 show au _ _ (FT (.ref it) 1 >>= _) _ _ s
 refine a7 (dM ei di (x:=.int i 0) rfl ?_)
 show au _ _ (seqItems? (.ref l) >>= _) _ _ s
 refine a7 (ef et dt ?_)
 simp only [jS,hx]
 refine a7 (fQ ei di (by simp) (ae ⟨x,rfl,ae (q _ ?_ (bF ..))⟩))
 refine ⟨_,fE _ ei (Obj.isFreed_of_fields (Ld di _)),(Obj.cls_mapFields ..).trans ci,?_⟩
 rw [Ld di];simp [cc]
theorem uq {Q:ac->ag->Prop} (hh:A.handled=none) (ti:s.heap.IsTupleIter it l i) (tl:s.heap.IsTuple l items) (hx:items[i]?=none)
  (q:∀ h' e,Ho it s.heap h'->(∃ o,h'.get? e=some o/\o.cls=.type "StopIteration")->E (.ref e) { s with heap:=h' }):au (aO prog w) A (cy (.ref it)) Q E s:=by
 obtain ⟨oi,ei,ci,di⟩:=id ti
 obtain ⟨ot,et,_,nt,dt⟩:=tl
 unfold cy
 refine a7 (cj (name:=fZ "__next__") ti.typeIs iT ?_)
 refine c6 iT ti.typeIs Da ?_ (BA _)
 show au _ _ (FT (.ref it) 0 >>= _) _ _ s
 refine a7 (dM ei di (x:=.ref l) rfl ?_)
 show au _ _ (if (bX l == dW)=true then _ else _) _ _ s
 rw [if_neg (fun z:(bX l == dW)=true=>bi z)]
 show au _ _ (FT (.ref it) 1 >>= _) _ _ s
 refine a7 (dM ei di (x:=.int i 0) rfl ?_)
 show au _ _ (seqItems? (.ref l) >>= _) _ _ s
 refine a7 (ef et dt ?_)
 simp only [jS,hx]
 refine a7 (gG (a7 (fQ ei di (by simp) ?_)))
 show au _ _ (sj (.type "StopIteration") [] >>= _) _ _ _
 refine a7 ?_
 simp only [sj,OK]
 refine a7 (bS ?_ (by size_fits))
 refine a7 (m:=l5 _ _) (eQ (a:=dW) ?_ ?_)
 ·first
   | rfl
   | (simp only [l5];rfl)
 refine bS ?_ (by size_fits)
 simp only [rE]
 refine a7 (Ja ?_)
 rw [show A.in1.handled=none from hh]
 refine a7 (ae (OL ?_))
 exact q _ _ (((bF ..).extBut.push _).push _) ⟨_,ax _ rfl,rfl⟩
theorem JC (hh:A.handled=none) (it l:aj) (hne:l≠it) (items:Array ac) :
  Draws prog w A it [it,l] items.size (fun i v=>items[i]?=some v) (fun i h=>h.IsTupleIter it l i/\h.IsTuple l items) where
 live:=fun i h st=>let ⟨o,e,_⟩:=st.1;⟨o,e⟩
 frame:=fun i h h' st k=>⟨let ⟨o,e,r⟩:=st.1;⟨o,k it (by simp) o e,r⟩,let ⟨o,e,r⟩:=st.2;⟨o,k l (by simp) o e,r⟩⟩
 item:=fun i s Q E hi st q=>uo st.1 st.2 (x:=items[i]) (by simp [hi]) fun h' t' sb=>q _ h' s.toks (by simp [hi]) ⟨t',st.2.extBut sb.extBut hne⟩ sb
 done:=fun s Q E st q=>uq hh st.1 st.2 (by simp) q
end
theorem xU (l:aj) (items:Array ac) (n:Nat) (dct:Option aj) (sl:Array (Option ac)) :
  Meets (jP.«enumerate.__new__» ⟨[.type "enumerate",.ref l],[]⟩) (fun _ R s=>s.heap.get? l=some { cls:=.type "tuple",dict:=dct,data:=.seq items n,slots:=sl } /\
   R (.ok (.ret (.ref (s.heap.push { cls:=.type "tuple_iterator",data:=.fields #[.ref l,.int 0 0] }).objs.size)))
    { s with heap:=(s.heap.push { cls:=.type "tuple_iterator",data:=.fields #[.ref l,.int 0 0] }).push { cls:=.type "enumerate",data:=.fields #[.none,.bool false,.ref s.heap.objs.size,cc 0,.none,.none] } }) :=
 .of_wp fun prog w A R s h=>by
  obtain ⟨hp,g,d,tk,os⟩:=s
  obtain ⟨hl,h⟩:=h
  have hsub:=PySem.sub_enumerate
  have hL:Fy (Fz ⟨hp,g,d,tk,os⟩) l items:=⟨_,hl,rfl,n,rfl⟩
  wp_walk using fG hl
  refine wpAny_stack_any fun st=>ae ?_
  split
  ·rename_i c _ _ _ _ _
   cases (c == il "enumerate")
   ·wp_walk using fG hl,fO hL
    exact ⟨_,rfl,h⟩
   ·wp_walk using fG hl,fO hL
    exact ⟨_,rfl,h⟩
  ·wp_walk using fG hl,fO hL
   exact ⟨_,rfl,h⟩
end
section
section
variable {prog:aM}{w:ba}{A:bv}{E:ac->ag->Prop}{s:ag}
theorem A3 {l:aj}{items:Array ac}{Q:ac->ag->Prop} (hL:s.heap.IsTuple l items)
  (h:∀ h',IsEnum h' (s.heap.objs.size + 1) s.heap.objs.size 0 .none->h'.IsTupleIter s.heap.objs.size l 0->(∀ b o,s.heap.get? b=some o->h'.get? b=some o)->h'.objs.size=s.heap.objs.size + 2 ->
   Q (.ref (s.heap.objs.size + 1)) { s with heap:=h' }):au (aO prog w) A (call (.type "enumerate") [.ref l]) Q E s:=by
 obtain ⟨⟨c,dc,dt,sl⟩,hl,hc,n,hd⟩:=hL
 obtain rfl:c=.type "tuple":=hc
 obtain rfl:dt=.seq items n:=hd
 refine callType_new F.called_enumerate (by decide) (F.typeCall_enumerate_1 _) (F.newCall_enumerate_1 _) (fun obj=>F.args_object_init_2 obj _) F.entry_enumerate_new (xU l items n dc sl) ⟨hl,?_⟩
 have z1:(s.heap.push { cls:=.type "tuple_iterator",data:=.fields #[.ref l,.int 0 0] }).objs.size=s.heap.objs.size + 1:=cp ..
 show _/\_
 rw [z1]
 have he:IsEnum ((s.heap.push { cls:=.type "tuple_iterator",data:=.fields #[.ref l,.int 0 0] }).push { cls:=.type "enumerate",data:=.fields #[.none,.bool false,.ref s.heap.objs.size,cc 0,.none,.none] }) (s.heap.objs.size + 1) s.heap.objs.size 0 .none:=by
  have q:=ax (s.heap.push { cls:=.type "tuple_iterator",data:=.fields #[.ref l,.int 0 0] }) (o:={ cls:=.type "enumerate",data:=.fields #[.none,.bool false,.ref s.heap.objs.size,cc 0,.none,.none] }) rfl
  rw [z1] at q
  exact q
 exact ⟨⟨_,he,rfl⟩,h _ he ⟨_,af _ (ax _ rfl),rfl,rfl⟩ (fun b o e=>af _ (af _ e)) (by rw [cp,z1])⟩
end
def Wq (K:a8) (a:aj):It :=
 ⟨fun i H=>∃ xs x,kK K H a xs/\xs[i]?=some x,fun i H v H'=>∃ p,H p=none/\v=.ref p/\∀ xs,kK K H a xs->∃ x,xs[i]?=some x/\H'=upd H p (.tup [.int i,x]),fun i H=>∃ xs,kK K H a xs/\xs.length<=i⟩
theorem JD {P:aM}{w:ba}{K:a8}{elts:List aX}{x1}{pos:Pos} (a e it:aj) (hei:e≠it):vk P w K (.Tuple elts x1 pos) (Wq K a) [e,it] e (fun i h=>(∃ old,IsEnum h e it i old)/\h.IsTupleIter it a i) where
 mem:=by simp
 obj:=fun i h st b hb=>by
  simp only [b9,aS,or_false] at hb
  rcases hb with rfl | rfl
  ·obtain ⟨⟨old,q⟩,_⟩:=st
   exact ⟨_,q,fun v z=>by cases z⟩
  ·obtain ⟨_,o,q,_,d⟩:=st
   exact ⟨o,q,fun v z=>by rw [d] at z;cases z⟩
 keep:=fun i h h' st k=>⟨let ⟨old,q⟩:=st.1;⟨old,k e (by simp) _ q⟩,let ⟨o,q,r⟩:=st.2;⟨o,k it (by simp) o q,r⟩⟩
 item:=by
  intro X hP hw hK hc i pins s σ H E I hf st hg
  subst hP hw hK
  obtain ⟨xs,x,hq,hx⟩:=hg
  obtain ⟨its,rv,p,hz⟩:=I.tuple hq
  obtain ⟨u,hu,ru⟩:=rv.get hx
  obtain ⟨⟨old,he⟩,hit⟩:=st
  have hit0:=hit
  obtain ⟨oi,ei,_⟩:=hit0
  have hai:a≠it:=fun z=>by
   obtain ⟨o1,e1,c1,_⟩:=p
   obtain ⟨o2,e2,c2,_⟩:=hit
   rw [z,e2] at e1;cases e1;rw [c2] at c1;exact absurd (Hq c1) (by decide)
  have hae:a≠e:=fun z=>by
   obtain ⟨o1,e1,c1,_⟩:=p
   rw [z,he] at e1;cases e1;exact absurd (Hq (show il "enumerate"=il "tuple" from c1)) (by decide)
  have hlt:i<its.toArray.size:=by simp;exact (List.getElem?_eq_some_iff.mp hu).1
  have he0:=aq he
  refine wpAny_pyNext_enum_itemD (JC (by simpa using I.ok.hd hc) it a hai its.toArray) he ⟨hit,p⟩ hlt hei (by simp [hei,db hae]) ?_
  intro x' h1 tk hx' eo st1 tup sz k1
  have hx'':its[i]?=some x':=by simpa using hx'
  rw [hu] at hx'';cases hx''
  refine ⟨_,rfl,FU eo fun h2 e2 sb2=>?_⟩
  have szn:s.heap.objs.size≠e:=eJ he0
  have I2:bP X pins σ H { s with heap:=h2,toks:=tk + 1 }:=I.turnedL (ch:=[e,it]) (fun b o hb q=>by
   simp only [b9,aS,or_false,not_or] at hb
   exact (sb2.2 b hb.1).trans (k1 b o hb.1 hb.2 q)) hf
  have fT:=I.fpOk (H':=H) (ar _) (I.hok.fresh (ar _))
  have tup2:h2.get? s.heap.objs.size=some { cls:=.type "tuple",data:=.seq #[.int i tk,u] }:=(sb2.2 _ szn).trans tup
  have I3:=I2.track (ho:=.tup [.int i,x]) fT ⟨by show 2<=sizeLine;decide,[.int i tk,u],.cons ⟨tk,rfl⟩ (.cons ru .nil),⟨_,tup2,rfl,0,rfl⟩⟩
  refine ⟨.ref s.heap.objs.size,_,I3,rfl,⟨_,fT.1,rfl,fun ys hy=>?_⟩,⟨⟨u,?_⟩,?_⟩,fun b hb=>?_⟩
  ·rw [I.tuple_inj hy hq];exact ⟨x,hx,rfl⟩
  ·have:(((i + 1:Nat):Int))=(i:Int) + 1:=by omega
   rw [this];exact e2
  ·obtain ⟨o,q,r⟩:=st1.1
   exact ⟨o,(sb2.2 it (db hei)).trans q,r⟩
  ·rw [bt]
   ·exact (hf b hb).1
   ·simp only [b9,aS,or_false] at hb
    rcases hb with z | z
    ·rw [z];exact aF he0
    ·rw [z];exact aF (aq ei)
 done:=by
  intro X hP hw hK hc i pins s σ H E I hf st hg
  subst hP hw hK
  obtain ⟨xs,hq,hx⟩:=hg
  obtain ⟨its,rv,p,hz⟩:=I.tuple hq
  obtain ⟨⟨old,he⟩,hit⟩:=st
  have hl:=rv.length
  have hT:s.TypeIs (.ref e) "enumerate":=⟨_,he,rfl⟩
  unfold jr
  refine a7 (mC (cj (name:=fZ "__next__") hT KS ?_))
  refine c6 KS hT F.entry_enumerate_next ?_ (F.args_enumerate_next_1 _)
  show au _ _ (FT (.ref e) 2 >>= _) _ _ _
  refine a7 (dM he rfl (x:=.ref it) rfl ?_)
  refine a7 (uq (by simpa using I.ok.hd hc) hit (show s.heap.IsTuple a its.toArray from p) (by simp;omega) fun h' z eb hz'=>?_)
  obtain ⟨o,ho,hcl⟩:=hz'
  refine a7 (gZ (T:="StopIteration") (b:=true) ⟨o,ho,hcl⟩ vg ?_)
  exact ae ⟨rfl,I.turnedL (t':=s.toks) (ch:=[e,it]) (fun b o hb q=>eb b o (by
   simp only [b9,aS,or_false,not_or] at hb;exact hb.2) q) hf⟩
 self:=fun _ _ _ _ _ st h=>let ⟨⟨_,q⟩,_⟩:=st;pV q h
def Uh (K:a8) (ta:TA):TI:=fun σ H R=>ta σ H fun vs H1=>∃ a xs,vs=[.ref a]/\kK K H1 a xs/\R (Wq K a) H1
theorem Pt {X:Cx}{elts:List aX}{x1}{tpos p pos:Pos}{a:aX}{ta:TA} (hg:Gl X "enumerate") (hm:X.mg "enumerate"=none) (ha:PA X [a] ta) (hs:aI [a] X.env=[(false,dE a X.env)]:=by rfl) :
  PI X (.Tuple elts x1 tpos) (.Call (.Name "enumerate" p) [a] [] pos) (Uh X.K ta):=by
 intro pins s σ H R I h
 refine Call_ (oA I hg hm boot_enumerate (cM (fk (ha pos pins s σ H _ I h) fun us s1 ⟨vs,H1,I1,r1,q1⟩=>?_) hs rfl))
 obtain ⟨ad,xs,rfl,hq,q⟩:=q1
 obtain ⟨u,rfl,rx⟩:=kL r1
 cases rx
 obtain ⟨its,rv,tp,hz⟩:=I1.tuple hq
 refine A3 (show s1.heap.IsTuple ad its.toArray from tp) fun h' e1 t1 kp sz=>?_
 refine pV e1 ?_
 have I2:bP X pins σ H1 { s1 with heap:=h' }:=I1.kept (t':=s1.toks) kp
 refine ⟨s1.heap.objs.size + 1,[s1.heap.objs.size + 1,s1.heap.objs.size],_,_,H1,rfl,I2,JD ad _ _ (eJ (dq _)),⟨⟨.none,e1⟩,t1⟩,fun b hb=>?_,q⟩
 simp only [b9,aS,or_false] at hb
 rcases hb with z | z
 ·rw [z];exact I1.fpOk (iI _) (I1.hok.fresh (iI _))
 ·rw [z];exact I1.fpOk (ar _) (I1.hok.fresh (ar _))
end
section
section
variable {prog:aM}{w:ba}{A:bv}{E:ac->ag->Prop}{s:ag}{z TI TO i1 i2 l1 l2:aj}{k1 k2:Nat}{xs ys:Array ac}{x y a b:ac}
theorem j5 {h h':bB}{it l:aj}{k:Nat}{c:aj} (t:h.IsTupleIter it l k) (sb:bH c h h') (ne:it≠c):h'.IsTupleIter it l k:=t.extBut sb.extBut ne
theorem oF {h h':bB}{l:aj}{xs:Array ac}{c:aj} (t:h.IsTuple l xs) (sb:bH c h h') (ne:l≠c):h'.IsTuple l xs:=t.extBut sb.extBut ne
theorem L_ {Q:ac->ag->Prop} (D:OM z TI TO i1 i2 l1 l2) (za:vh s.heap z TI TO .none) (pa:jU s.heap TI (.ref i1) (.ref i2)) (pb:jU s.heap TO a b)
  (u1:s.heap.IsTupleIter i1 l1 k1) (u2:s.heap.IsTupleIter i2 l2 k2) (v1:s.heap.IsTuple l1 xs) (v2:s.heap.IsTuple l2 ys) (hx:xs[k1]?=some x) (hy:ys[k2]?=some y)
  (q:∀ h',vh h' z TI TO (cc s.heap.objs.size)->jU h' TO x y->h'.IsTupleIter i1 l1 (k1 + 1)->h'.IsTupleIter i2 l2 (k2 + 1)->jU h' s.heap.objs.size x y ->
   (∀ c o,c≠z->c≠TO->c≠i1->c≠i2->s.heap.get? c=some o->h'.get? c=some o)->Q (.ref s.heap.objs.size) { s with heap:=h' }) :
  au (aO prog w) A (jP.«zip.__next__» ⟨[.ref z],[]⟩) (fun fin s'=>∃ v,fin=.done (.ret v)/\Q v s') E s:=by
 show au _ _ (FT (.ref z) 2 >>= _) _ _ _
 refine a7 (dM za rfl (x:=.bool false) rfl ?_)
 show au _ _ (FT (.ref z) 3 >>= _) _ _ _
 refine a7 (dM za rfl (x:=.ref TI) rfl ?_)
 refine a7 (ef pa rfl ?_)
 show au _ _ (el (.ref z) >>= _) _ _ _
 refine a7 ?_
 unfold el
 refine a7 (dM za rfl (x:=.none) rfl (ae ?_))
 simp only [if_true]
 refine a7 (gG ?_)
 refine a7 (dM za rfl (x:=.ref TO) rfl ?_)
 refine a7 (ic za (by simp) fun g1 z1 b1=>?_)
 replace z1:vh g1 z TI TO .ellipsis:=z1
 refine a7 ?_
 simp only [Oq,ON,jl,mJ]
 refine a7 (a7 (xm ?_))
 show au _ _ (cy (.ref i1) >>= _) _ _ _
 refine a7 (uo (j5 u1 b1 D.i1z) (oF v1 b1 D.l1z) hx fun g2 w1 b2=>ae ?_)
 have p2:jU g2 TO a b:=b2.extBut _ _ D.TOi1 (b1.extBut _ _ D.TOz pb)
 refine a7 (ef p2 rfl (a7 (vi p2 fun g3 p3 b3=>?_)))
 replace p3:jU g3 TO x b:=p3
 refine a7 (OO (ae (a7 (a7 (xm ?_)))))
 show au _ _ (cy (.ref i2) >>= _) _ _ _
 refine a7 (uo (j5 (j5 (j5 u2 b1 D.i2z) b2 D.i12.symm) b3 D.TOi2.symm) (oF (oF (oF v2 b1 D.l2z) b2 D.l2i1) b3 D.l2TO) hy fun g4 w2 b4=>ae ?_)
 have p4:jU g4 TO x b:=b4.extBut _ _ D.TOi2 p3
 refine a7 (ef p4 rfl (a7 (vi p4 fun g5 p5 b5=>?_)))
 replace p5:jU g5 TO x y:=p5
 refine a7 (OO (ae (ae ?_)))
 refine a7 (ef p5 rfl (a7 (wpAny_newTuple ?_)))
 have sz:g5.objs.size=s.heap.objs.size:=by rw [b5.1,b4.1,b3.1,b2.1,b1.1]
 have z5:vh g5 z TI TO .ellipsis:=b5.extBut _ _ D.TOz.symm (b4.extBut _ _ D.i2z.symm (b3.extBut _ _ D.TOz.symm (b2.extBut _ _ D.i1z.symm z1)))
 have k5:∀ c o,c≠z->c≠TO->c≠i1->c≠i2->s.heap.get? c=some o->g5.get? c=some o:=fun c o n1 n2 n3 n4 e =>
  b5.extBut _ _ n2 (b4.extBut _ _ n4 (b3.extBut _ _ n2 (b2.extBut _ _ n3 (b1.extBut _ _ n1 e))))
 have y1:g5.IsTupleIter i1 l1 (k1 + 1):=j5 (j5 (j5 w1 b3 D.TOi1.symm) b4 D.i12) b5 D.TOi1.symm
 have y2:g5.IsTupleIter i2 l2 (k2 + 1):=j5 w2 b5 D.TOi2.symm
 have zl:z<g5.objs.size:=aq z5
 show au _ _ (mL (.ref z) (.ref g5.objs.size) >>= _) _ _ _
 refine a7 ?_
 unfold mL
 have z6:vh (g5.push { cls:=.type "tuple",data:=.seq #[x,y] }) z TI TO .ellipsis:=af _ z5
 refine a7 (ic z6 (by simp) fun g7 z7 b7=>?_)
 replace z7:vh g7 z TI TO (cc g5.objs.size):=z7
 refine ic z7 (by simp) fun g8 z8 b8=>?_
 replace z8:vh g8 z TI TO (cc g5.objs.size):=z8
 have up:∀ c o,c≠z->g5.get? c=some o->g8.get? c=some o:=fun c o n1 e=>b8.extBut _ _ n1 (b7.extBut _ _ n1 (af _ e))
 have p8:jU g8 g5.objs.size x y:=b8.extBut _ _ (eJ zl) (b7.extBut _ _ (eJ zl) (ax _ rfl))
 rw [sz] at z8 p8
 refine ae ⟨_,rfl,?_⟩
 show Q (.ref g5.objs.size) _
 rw [sz]
 exact q g8 z8 (up _ _ D.TOz p5) (let ⟨o,e,r⟩:=y1;⟨o,up _ o D.i1z e,r⟩) (let ⟨o,e,r⟩:=y2;⟨o,up _ o D.i2z e,r⟩) p8 fun c o n1 n2 n3 n4 e=>up c o n1 (k5 c o n1 n2 n3 n4 e)
theorem M0 {Q:Fin->ag->Prop} (hh:A.handled=none) (D:OM z TI TO i1 i2 l1 l2) (za:vh s.heap z TI TO .none) (pa:jU s.heap TI (.ref i1) (.ref i2)) (pb:jU s.heap TO a b)
  (u1:s.heap.IsTupleIter i1 l1 k1) (u2:s.heap.IsTupleIter i2 l2 k2) (v1:s.heap.IsTuple l1 xs) (v2:s.heap.IsTuple l2 ys) (hend:xs[k1]?=none\/ys[k2]?=none)
  (q:∀ h' e,(∀ c o,c≠z->c≠TO->c≠i1->c≠i2->s.heap.get? c=some o->h'.get? c=some o)->(∃ o,h'.get? e=some o/\o.cls=.type "StopIteration")->E (.ref e) { s with heap:=h' }) :
  au (aO prog w) A (jP.«zip.__next__» ⟨[.ref z],[]⟩) Q E s:=by
 show au _ _ (FT (.ref z) 2 >>= _) _ _ _
 refine a7 (dM za rfl (x:=.bool false) rfl ?_)
 show au _ _ (FT (.ref z) 3 >>= _) _ _ _
 refine a7 (dM za rfl (x:=.ref TI) rfl ?_)
 refine a7 (ef pa rfl ?_)
 show au _ _ (el (.ref z) >>= _) _ _ _
 refine a7 ?_
 unfold el
 refine a7 (dM za rfl (x:=.none) rfl (ae ?_))
 simp only [if_true]
 refine a7 (gG ?_)
 refine a7 (dM za rfl (x:=.ref TO) rfl ?_)
 refine a7 (ic za (by simp) fun g1 z1 b1=>?_)
 replace z1:vh g1 z TI TO .ellipsis:=z1
 refine a7 ?_
 simp only [Oq,ON,jl,mJ]
 refine a7 (a7 (xm ?_))
 show au _ _ (cy (.ref i1) >>= _) _ _ _
 cases hx:xs[k1]? with
 | none =>
  refine a7 (uq hh (j5 u1 b1 D.i1z) (oF v1 b1 D.l1z) hx fun g2 e b2 he=>?_)
  obtain ⟨oe,ee,ce⟩:=he
  have z2:vh g2 z TI TO .ellipsis:=b2 _ _ D.i1z.symm z1
  have ez:e≠z:=fun n=>by subst n;rw [z2] at ee;cases ee;simp at ce
  refine ic z2 (by simp) fun g3 _ b3=>q g3 e (fun c o n1 _ n3 _ m=>b3.extBut _ _ n1 (b2 _ _ n3 (b1.extBut _ _ n1 m))) ⟨oe,b3.extBut _ _ ez ee,ce⟩
 | some x =>
  have hy:ys[k2]?=none:=hend.resolve_left fun n=>by rw [hx] at n;cases n
  refine a7 (uo (j5 u1 b1 D.i1z) (oF v1 b1 D.l1z) hx fun g2 w1 b2=>ae ?_)
  have p2:jU g2 TO a b:=b2.extBut _ _ D.TOi1 (b1.extBut _ _ D.TOz pb)
  refine a7 (ef p2 rfl (a7 (vi p2 fun g3 p3 b3=>?_)))
  refine a7 (OO (ae (a7 (a7 (xm ?_)))))
  show au _ _ (cy (.ref i2) >>= _) _ _ _
  refine a7 (uq hh (j5 (j5 (j5 u2 b1 D.i2z) b2 D.i12.symm) b3 D.TOi2.symm) (oF (oF (oF v2 b1 D.l2z) b2 D.l2i1) b3 D.l2TO) hy fun g4 e b4 he=>?_)
  obtain ⟨oe,ee,ce⟩:=he
  have z4:vh g4 z TI TO .ellipsis:=b4 _ _ D.i2z.symm (b3.extBut _ _ D.TOz.symm (b2.extBut _ _ D.i1z.symm z1))
  have ez:e≠z:=fun n=>by subst n;rw [z4] at ee;cases ee;simp at ce
  refine ic z4 (by simp) fun g5 _ b5=>q g5 e (fun c o n1 n2 n3 n4 m=>b5.extBut _ _ n1 (b4 _ _ n4 (b3.extBut _ _ n2 (b2.extBut _ _ n3 (b1.extBut _ _ n1 m))))) ⟨oe,b5.extBut _ _ ez ee,ce⟩
end
abbrev VD (h:bB) (l1:aj):bB:=h.push { cls:=.type "tuple_iterator",data:=.fields #[.ref l1,.int 0 0] }
abbrev VE (h:bB) (l1 l2:aj):bB:=(VD h l1).push { cls:=.type "tuple_iterator",data:=.fields #[.ref l2,.int 0 0] }
abbrev VF (h:bB) (l1 l2:aj):bB:=(VE h l1 l2).push { cls:=.type "tuple",data:=.seq #[.ref h.objs.size,.ref (VD h l1).objs.size] }
abbrev VG (h:bB) (l1 l2:aj):bB:=(VF h l1 l2).push { cls:=.type "tuple",data:=.seq #[.none,.none] }
abbrev Tw (h:bB) (l1 l2:aj):bB:=(VG h l1 l2).push { cls:=.type "zip",data:=.fields #[.none,.bool false,.bool false,.ref (VE h l1 l2).objs.size,.ref (VF h l1 l2).objs.size] }
theorem A7 (l1 l2:aj) (xs ys:Array ac) :
  Meets (jP.«zip.__new__» ⟨[.type "zip",.ref l1,.ref l2],[]⟩) (fun _ R s=>s.heap.IsTuple l1 xs/\s.heap.IsTuple l2 ys/\R (.ok (.ret (.ref (VG s.heap l1 l2).objs.size))) { s with heap:=Tw s.heap l1 l2 }) :=
 .of_wp fun prog w A R s h=>by
  obtain ⟨hp,g,d,tk,os⟩:=s
  obtain ⟨v1,v2,h⟩:=h
  have hsub:=PySem.sub_zip
  have L1:Fy (Fz ⟨hp,g,d,tk,os⟩) l1 xs:=v1
  have L2:Fy (Fz ⟨hp.push { cls:=.type "tuple_iterator",data:=.fields #[.ref l1,.int 0 0] },g,d,tk,os⟩) l2 ys:=Heap.IsTuple.push v2 _
  wp_walk using fO L1,fO L2
  exact ⟨_,rfl,h⟩
section
variable {prog:aM}{w:ba}{A:bv}{E:ac->ag->Prop}{s:ag}
theorem BX {l1 l2:aj}{xs ys:Array ac}{Q:ac->ag->Prop} (v1:s.heap.IsTuple l1 xs) (v2:s.heap.IsTuple l2 ys)
  (h:∀ h',vh h' (s.heap.objs.size + 4) (s.heap.objs.size + 2) (s.heap.objs.size + 3) .none->jU h' (s.heap.objs.size + 2) (.ref s.heap.objs.size) (.ref (s.heap.objs.size + 1)) ->
   jU h' (s.heap.objs.size + 3) .none .none->h'.IsTupleIter s.heap.objs.size l1 0->h'.IsTupleIter (s.heap.objs.size + 1) l2 0 ->
   (∀ c o,s.heap.get? c=some o->h'.get? c=some o)->Q (.ref (s.heap.objs.size + 4)) { s with heap:=h' }):au (aO prog w) A (call (.type "zip") [.ref l1,.ref l2]) Q E s:=by
 refine callType_new F.called_zip (by decide) (F.typeCall_zip_2 _ _) (F.newCall_zip_2 _ _) (fun obj=>F.args_object_init_3 obj _ _) F.entry_zip_new (A7 l1 l2 xs ys) ⟨v1,v2,?_⟩
 have n1:(VD s.heap l1).objs.size=s.heap.objs.size + 1:=cp ..
 have n2:(VE s.heap l1 l2).objs.size=s.heap.objs.size + 2:=by rw [cp,n1]
 have n3:(VF s.heap l1 l2).objs.size=s.heap.objs.size + 3:=by rw [cp,n2]
 have n4:(VG s.heap l1 l2).objs.size=s.heap.objs.size + 4:=by rw [cp,n3]
 have c5:(Tw s.heap l1 l2).get? (VG s.heap l1 l2).objs.size=some _:=ax _ rfl
 have c4:(Tw s.heap l1 l2).get? (VF s.heap l1 l2).objs.size=some _:=af _ (ax _ rfl)
 have c3:(Tw s.heap l1 l2).get? (VE s.heap l1 l2).objs.size=some _:=af _ (af _ (ax _ rfl))
 have c2:(Tw s.heap l1 l2).get? (VD s.heap l1).objs.size=some _:=af _ (af _ (af _ (ax _ rfl)))
 have c1:(Tw s.heap l1 l2).get? s.heap.objs.size=some _:=af _ (af _ (af _ (af _ (ax _ rfl))))
 show _/\_
 rw [n2,n3,n4] at c5
 rw [n1,n2] at c3
 rw [n3] at c4
 rw [n1] at c2
 rw [n4]
 exact ⟨⟨_,c5,rfl⟩,h _ c5 c3 c4 ⟨_,c1,rfl,rfl⟩ ⟨_,c2,rfl,rfl⟩ fun c o e=>af _ (af _ (af _ (af _ (af _ e))))⟩
end
theorem kK.ne_fp {X:Cx}{pins:List (aj×Obj)}{σ:St}{H:Hp}{s:ag}{a b:aj}{xs:List V} (I:bP X pins σ H s) (hq:kK X.K H a xs) (hf:qf X pins H b):a≠b:=by
 rintro rfl
 rcases hq with (h | ⟨o,h⟩) | ⟨o,its,n,hk,_⟩
 ·rw [hf.1] at h;cases h
 ·rw [hf.1] at h;cases h
 ·have e:X.base.get? a=some o:=I.mod.kin a o hk
  rcases hf.f3 with z | z
  ·exact I.ok.noex a o e z
  ·exact absurd (aJ (aq e) (bZ I.ok.bsz z)) (b_ _)
def Wr (K:a8) (a b:aj):It :=
 ⟨fun i H=>∃ xs ys x y,kK K H a xs/\kK K H b ys/\xs[i]?=some x/\ys[i]?=some y,
  fun i H v H'=>∃ p,H p=none/\v=.ref p/\∀ xs ys,kK K H a xs->kK K H b ys->∃ x y,xs[i]?=some x/\ys[i]?=some y/\H'=upd H p (.tup [x,y]),
  fun i H=>∃ xs ys,kK K H a xs/\kK K H b ys/\(xs.length<=i\/ys.length<=i)⟩
structure Ws (z TI TO i1 i2:aj):Prop where
 d1:TI≠z
 d2:TO≠z
 d3:i1≠z
 d4:i2≠z
 d5:TI≠TO
 d6:TI≠i1
 d7:TI≠i2
 d8:TO≠i1
 d9:TO≠i2
 d0:i1≠i2
theorem M1 {P:aM}{w:ba}{K:a8}{elts:List aX}{x1}{pos:Pos} (l1 l2 z TI TO i1 i2:aj) (Z:Ws z TI TO i1 i2) :
  vk P w K (.Tuple elts x1 pos) (Wr K l1 l2) [z,TI,TO,i1,i2] z (fun i h=>vh h z TI TO .none/\jU h TI (.ref i1) (.ref i2)/\(∃ a b,jU h TO a b)/\h.IsTupleIter i1 l1 i/\h.IsTupleIter i2 l2 i) where
 mem:=by simp
 obj:=fun i h st b hb=>by
  obtain ⟨s1,s2,⟨_,_,s3⟩,⟨o4,e4,_,f4⟩,⟨o5,e5,_,f5⟩⟩:=st
  simp only [b9,aS,or_false] at hb
  rcases hb with rfl | rfl | rfl | rfl | rfl
  ·exact ⟨_,s1,fun v q=>by cases q⟩
  ·exact ⟨_,s2,fun v q=>by cases q⟩
  ·exact ⟨_,s3,fun v q=>by cases q⟩
  ·exact ⟨o4,e4,fun v q=>by rw [f4] at q;cases q⟩
  ·exact ⟨o5,e5,fun v q=>by rw [f5] at q;cases q⟩
 keep:=fun i h h' st k=>by
  obtain ⟨s1,s2,⟨u,v,s3⟩,⟨o4,e4,r4⟩,⟨o5,e5,r5⟩⟩:=st
  exact ⟨k z (by simp) _ s1,k TI (by simp) _ s2,⟨u,v,k TO (by simp) _ s3⟩,⟨o4,k i1 (by simp) _ e4,r4⟩,⟨o5,k i2 (by simp) _ e5,r5⟩⟩
 item:=by
  intro X hP hw hK hc i pins s σ H E I hf st hg
  subst hP hw hK
  obtain ⟨xs,ys,x,y,hq1,hq2,hx,hy⟩:=hg
  obtain ⟨its1,rv1,p1,_⟩:=I.tuple hq1
  obtain ⟨its2,rv2,p2,_⟩:=I.tuple hq2
  obtain ⟨u,hu,ru⟩:=rv1.get hx
  obtain ⟨v,hv,rv⟩:=rv2.get hy
  obtain ⟨s1,s2,⟨a,b,s3⟩,s4,s5⟩:=st
  have ne1:∀ b∈[z,TI,TO,i1,i2],l1≠b:=fun b hb=>hq1.ne_fp I (hf b hb)
  have ne2:∀ b∈[z,TI,TO,i1,i2],l2≠b:=fun b hb=>hq2.ne_fp I (hf b hb)
  have D:OM z TI TO i1 i2 l1 l2:=⟨Z.d1,Z.d2,Z.d3,Z.d4,Z.d5,Z.d6,Z.d7,Z.d8,Z.d9,Z.d0,ne1 z (by simp),ne1 TO (by simp),ne1 i1 (by simp),ne1 i2 (by simp),ne2 z (by simp),ne2 TO (by simp),ne2 i1 (by simp),ne2 i2 (by simp)⟩
  have zl:=aq s1
  have hT:s.TypeIs (.ref z) "zip":=⟨_,s1,rfl⟩
  unfold jr
  refine a7 (mC (cj (name:=fZ "__next__") hT rP ?_))
  refine c6 rP hT F.entry_zip_next (L_ D s1 s2 s3 s4 s5 p1 p2 (by simpa using hu) (by simpa using hv) fun h1 z1 t1 y1 y2 pr k1=>?_) (F.args_zip_next_1 _)
  refine ae ⟨_,rfl,wpAny_letOwnedTupleGo_zip z1 fun h2 z2 b2=>?_⟩
  have szn:s.heap.objs.size≠z:=eJ zl
  have TIk:jU h1 TI (.ref i1) (.ref i2):=k1 TI _ Z.d1 Z.d5 Z.d6 Z.d7 s2
  have I2:bP X pins σ H { s with heap:=h2 }:=I.turnedL (t':=s.toks) (ch:=[z,TI,TO,i1,i2]) (fun b o hb q=>by
   simp only [b9,aS,or_false,not_or] at hb
   exact (b2.2 b hb.1).trans (k1 b o hb.1 hb.2.2.1 hb.2.2.2.1 hb.2.2.2.2 q)) hf
  have fT:=I.fpOk (H':=H) (ar _) (I.hok.fresh (ar _))
  have pr2:h2.get? s.heap.objs.size=some { cls:=.type "tuple",data:=.seq #[u,v] }:=(b2.2 _ szn).trans pr
  have I3:=I2.track (ho:=.tup [x,y]) fT ⟨by show 2<=sizeLine;decide,[u,v],.cons ru (.cons rv .nil),⟨_,pr2,rfl,0,rfl⟩⟩
  refine ⟨.ref s.heap.objs.size,_,I3,rfl,⟨_,fT.1,rfl,fun xs' ys' h1 h2=>?_⟩,⟨z2,(b2.2 TI Z.d1).trans TIk,⟨u,v,(b2.2 TO Z.d2).trans t1⟩,j5 y1 b2 Z.d3,j5 y2 b2 Z.d4⟩,fun b hb=>?_⟩
  ·rw [I.tuple_inj h1 hq1,I.tuple_inj h2 hq2];exact ⟨x,y,hx,hy,rfl⟩
  ·have bl:b<s.heap.objs.size:=by
    simp only [b9,aS,or_false] at hb
    rcases hb with q | q | q | q | q
    ·rw [q];exact zl
    ·rw [q];exact aq s2
    ·rw [q];exact aq s3
    ·obtain ⟨_,e,_⟩:=s4;rw [q];exact aq e
    ·obtain ⟨_,e,_⟩:=s5;rw [q];exact aq e
   rw [bt (aF bl)];exact (hf b hb).1
 done:=by
  intro X hP hw hK hc i pins s σ H E I hf st hg
  subst hP hw hK
  obtain ⟨xs,ys,hq1,hq2,hend⟩:=hg
  obtain ⟨its1,rv1,p1,_⟩:=I.tuple hq1
  obtain ⟨its2,rv2,p2,_⟩:=I.tuple hq2
  obtain ⟨s1,s2,⟨a,b,s3⟩,s4,s5⟩:=st
  have ne1:∀ b∈[z,TI,TO,i1,i2],l1≠b:=fun b hb=>hq1.ne_fp I (hf b hb)
  have ne2:∀ b∈[z,TI,TO,i1,i2],l2≠b:=fun b hb=>hq2.ne_fp I (hf b hb)
  have D:OM z TI TO i1 i2 l1 l2:=⟨Z.d1,Z.d2,Z.d3,Z.d4,Z.d5,Z.d6,Z.d7,Z.d8,Z.d9,Z.d0,ne1 z (by simp),ne1 TO (by simp),ne1 i1 (by simp),ne1 i2 (by simp),ne2 z (by simp),ne2 TO (by simp),ne2 i1 (by simp),ne2 i2 (by simp)⟩
  have hT:s.TypeIs (.ref z) "zip":=⟨_,s1,rfl⟩
  have n1:=rv1.length
  have n2:=rv2.length
  unfold jr
  refine a7 (mC (cj (name:=fZ "__next__") hT rP ?_))
  refine c6 rP hT F.entry_zip_next (M0 (by simpa using I.ok.hd hc) D s1 s2 s3 s4 s5 p1 p2 (hend.elim (fun q=>.inl (by simp;omega)) fun q=>.inr (by simp;omega)) fun h' e kp he=>?_) (F.args_zip_next_1 _)
  obtain ⟨o,eo,co⟩:=he
  refine a7 (gZ (T:="StopIteration") (b:=true) ⟨o,eo,co⟩ vg ?_)
  exact ae ⟨rfl,I.turnedL (t':=s.toks) (ch:=[z,TI,TO,i1,i2]) (fun b o hb q=>by
   simp only [b9,aS,or_false,not_or] at hb
   exact kp b o hb.1 hb.2.2.1 hb.2.2.2.1 hb.2.2.2.2 q) hf⟩
 self:=fun _ _ _ _ _ st h=>wpAny_pyIter_zip st.1 h
def Wt (K:a8) (ta:TA):TI:=fun σ H R=>ta σ H fun vs H1=>∃ a b xs ys,vs=[.ref a,.ref b]/\kK K H1 a xs/\kK K H1 b ys/\R (Wr K a b) H1
theorem SB {X:Cx}{elts:List aX}{x1}{tpos p pos:Pos}{a b:aX}{ta:TA} (hg:Gl X "zip") (hm:X.mg "zip"=none) (ha:PA X [a,b] ta) (hs:aI [a,b] X.env=[(false,dE a X.env),(false,dE b X.env)]:=by rfl)
  (hs2:aI [b] X.env=[(false,dE b X.env)]:=by rfl):PI X (.Tuple elts x1 tpos) (.Call (.Name "zip" p) [a,b] [] pos) (Wt X.K ta):=by
 intro pins s σ H R I h
 refine Call_ (oA I hg hm boot_zip (cM (fk (ha pos pins s σ H _ I h) fun us s1 ⟨vs,H1,I1,r1,q1⟩=>?_) (by rw [hs,hs2]) (by rw [hs2];rfl)))
 obtain ⟨a1,a2,xs,ys,rfl,hq1,hq2,q⟩:=q1
 obtain ⟨u1,u2,rfl,rx1,rx2⟩:=QL r1
 cases rx1
 cases rx2
 obtain ⟨its1,rv1,p1,_⟩:=I1.tuple hq1
 obtain ⟨its2,rv2,p2,_⟩:=I1.tuple hq2
 refine BX (show s1.heap.IsTuple a1 its1.toArray from p1) (show s1.heap.IsTuple a2 its2.toArray from p2) fun h' c1 c2 c3 c4 c5 kp=>?_
 refine wpAny_pyIter_zip c1 ?_
 have I2:bP X pins σ H1 { s1 with heap:=h' }:=I1.kept (t':=s1.toks) kp
 have ad:∀ k j:Nat,k≠j->s1.heap.objs.size + k≠s1.heap.objs.size + j:=fun k j n e=>n (Nat.add_left_cancel e)
 refine ⟨s1.heap.objs.size + 4,[s1.heap.objs.size + 4,s1.heap.objs.size + 2,s1.heap.objs.size + 3,s1.heap.objs.size + 0,s1.heap.objs.size + 1],_,_,H1,rfl,I2,
  M1 a1 a2 _ _ _ _ _ ⟨ad _ _ (by decide),ad _ _ (by decide),ad _ _ (by decide),ad _ _ (by decide),ad _ _ (by decide),ad _ _ (by decide),ad _ _ (by decide),ad _ _ (by decide),ad _ _ (by decide),ad _ _ (by decide)⟩,
  ⟨c1,c2,⟨_,_,c3⟩,c4,c5⟩,fun b hb=>?_,q⟩
 have:∀ k:Nat,qf X pins H1 (s1.heap.objs.size + k):=fun k=>I1.fpOk (OP _ _) (I1.hok.fresh (OP _ _))
 simp only [b9,aS,or_false] at hb
 rcases hb with q | q | q | q | q<;>(rw [q];exact this _)
end
section
mutual
inductive Gh (K:a8) (H:Hp):V->qc->Prop
 | none:Gh K H .non .none
 | bool (b:Bool):Gh K H (.bl b) (.bool b)
 | int (i:Int):Gh K H (.int i) (.int i)
 | str (x:Str):Gh K H (.str x) (.str x)
 | list {a:aj}{xs:List V}{ds:List qc}:lW K H a xs->Reps K H xs ds->Gh K H (.ref a) (.list ds)
 | tuple {a:aj}{xs:List V}{ds:List qc}:kK K H a xs->Reps K H xs ds->Gh K H (.ref a) (.tuple ds)
inductive Reps (K:a8) (H:Hp):List V->List qc->Prop
 | nil:Reps K H [] []
 | cons {x:V}{xs:List V}{d:qc}{ds:List qc}:Gh K H x d->Reps K H xs ds->Reps K H (x::xs) (d::ds)
end
theorem dH.tup {K:a8}{H H':Hp}{a:aj}{xs:List V} (e:dH H H') (h:kK K H a xs):kK K H' a xs:=by
 rcases h with (h | ⟨o,h⟩) | h
 ·exact .inl (.inl (e _ _ h))
 ·exact .inl (.inr ⟨o,e _ _ h⟩)
 ·exact .inr h
section
variable {X:Cx}{pins:List (aj×Obj)}{σ:St}{H:Hp}{s:ag}
theorem Pu (I:bP X pins σ H s) {a:aj}{xs:List V}{ds:List qc}{u:ac} (h:lW X.K H a xs) (ih:∀ {us:List ac},dJ xs us->∃ as,ReadsAll s.heap us ds as) (r:du (.ref a) u):∃ as,Reads s.heap u (.list ds) as:=by
 cases r
 obtain ⟨its,rv,⟨o,n,e,c,_,d⟩,_⟩:=I.list h
 obtain ⟨as,ra⟩:=ih rv
 exact ⟨_,.list e c d (by simpa using ra)⟩
theorem M2 (I:bP X pins σ H s) {a:aj}{xs:List V}{ds:List qc}{u:ac} (h:kK X.K H a xs) (ih:∀ {us:List ac},dJ xs us->∃ as,ReadsAll s.heap us ds as) (r:du (.ref a) u):∃ as,Reads s.heap u (.tuple ds) as:=by
 cases r
 obtain ⟨its,rv,⟨o,e,c,n,d⟩,_⟩:=I.tuple h
 obtain ⟨as,ra⟩:=ih rv
 exact ⟨_,.tuple e c d (by simpa using ra)⟩
theorem qS (I:bP X pins σ H s) {v:V}{d:qc} (h:Gh X.K H v d):∀ {u:ac},du v u->∃ as,Reads s.heap u d as :=
 Gh.rec (motive_1:=fun v d _=>∀ {u:ac},du v u->∃ as,Reads s.heap u d as) (motive_2:=fun vs ds _=>∀ {us:List ac},dJ vs us->∃ as,ReadsAll s.heap us ds as)
  (fun r=>by cases r;exact ⟨_,.none⟩) (fun b _ r=>by cases r;exact ⟨_,.bool b⟩) (fun i _ r=>by obtain ⟨t,rfl⟩:=r;exact ⟨_,.int i t⟩) (fun x _ r=>by obtain ⟨t,rfl⟩:=r;exact ⟨_,.str x t⟩)
  (fun h _ ih _ r=>Pu I h ih r) (fun h _ ih _ r=>M2 I h ih r) (fun r=>by cases r;exact ⟨_,.nil⟩) (fun _ _ a b _ r=>by
   cases r with
   | cons r rs =>
    obtain ⟨as,ra⟩:=a r
    obtain ⟨bs,rb⟩:=b rs
    exact ⟨_,.cons ra rb⟩) h
end
section
variable {X:Cx}
inductive QX (K:a8) (neg:Bool) (x:V) (y:V) (H:Hp) (Q:VK):Prop
 | mk (dx dy:_) (h0:Gh K H x dx) (h1:Gh K H y dy) (h2:dx.canLay0=true) (h3:dy.canLay0=true) (h4:min dx.depth dy.depth<=60) (h5:Q (.bl (if neg then !a_ dx dy else a_ dx dy)) H):QX K neg x y H Q
def SC (K:a8) (neg:Bool):R2:=QX K neg
theorem SD (hu:X.A.units + 64<kX):oB X (bI .Eq) (SC X.K false):=by
 intro pins s σ H x y v u Q I rx ry h
 obtain ⟨dx,dy,hx,hy,lx,ly,dp,q⟩:=h
 obtain ⟨as,ra⟩:=qS I hx rx
 obtain ⟨bs,rb⟩:=qS I hy ry
 exact PySem.SeqAt.compareEq_reads ra rb lx ly (by omega) ⟨.bl _,H,I,rfl,q⟩
theorem SE (hu:X.A.units + 64<kX):oB X (bI .NotEq) (SC X.K true):=by
 intro pins s σ H x y v u Q I rx ry h
 obtain ⟨dx,dy,hx,hy,lx,ly,dp,q⟩:=h
 obtain ⟨as,ra⟩:=qS I hx rx
 obtain ⟨bs,rb⟩:=qS I hy ry
 exact PySem.SeqAt.compareNe_reads ra rb lx ly (by omega) ⟨.bl _,H,I,rfl,q⟩
end
end
section
structure Wu (P:aM) (w:ba) (l:List Env) (H H':Hp) (h h' B:bB) (ea C t:aj):Prop where
 fly:Heap.FlyingW B l ea (.ref C) (.ref t) h'
 cov:∀ b u,H' b=some u->∃ o,B.get? b=some o
 old:∀ b o,h.get? b=some o->H b=none->b∉rT l->B.get? b=some o
 all:∀ b o,h.get? b=some o->b∉rT l->∃ o',B.get? b=some o'
 un:Un (rT l) [] H H' h h'
 hok:pP P w H' h'
inductive Ui (P:aM) (w:ba) (outer:List Env) (H:Hp) (s:ag) (E:XK) (e:ac) (s':ag):Prop
 | mk (ea C t H' B:_) (h0:e=.ref ea) (h1:s'.os=s.os) (h2:pS s'.gens) (h3:Wu P w outer H H' s.heap s'.heap B ea C t) (h4:E (.ref C) none H'):Ui P w outer H s E e s'
def qk (P:aM) (w:ba):KY:=Ui P w
theorem M3 {P:aM}{w:ba}{H:Hp}{h:bB}{b:aj}{u:HO} (x:pP P w H h) (e:H b=some u):∃ o,h.get? b=some o:=by
 have y:=x b u e
 cases u with
 | lst xs=>obtain ⟨_,_,_,_,k⟩:=y;exact ⟨_,k⟩
 | tup xs=>obtain ⟨_,_,_,o,k,_⟩:=y;exact ⟨o,k⟩
 | dK kvs=>obtain ⟨_,_,_,_,o,_,_,k,_⟩:=y;exact ⟨o,k⟩
 | dT kvs=>obtain ⟨_,_,_,_,o,_,_,k,_⟩:=y;exact ⟨o,k⟩
 | set S n=>obtain ⟨o,_,_,_,k,_⟩:=y;exact ⟨o,k⟩
 | ins C dx fs=>obtain ⟨_,_,_,k,_⟩:=y;exact ⟨_,k⟩
 | own y'=>exact y
 | xd fs=>obtain ⟨_,⟨o,_,_,k,_⟩,_⟩:=y;exact ⟨o,k⟩
 | rng lo hi=>obtain ⟨_,_,_,k⟩:=y;exact ⟨_,k⟩
 | frz o u=>exact ⟨o,y.1⟩
 | tbl ps=>exact ⟨_,y⟩
 | met f y'=>exact ⟨_,y⟩
 | ext φ=>exact y.2.1
theorem HC {l:List Env}{env:Env}{b:aj} (he:env∈l) (hf:env.frame=some b):b∈rT l:=List.mem_filterMap.mpr ⟨env,he,hf⟩
section
variable {P:aM}{w:ba}{l:List Env}{H H':Hp}{h h' h'' B:bB}{ea C t:aj}
theorem Wu.kp (x:Wu P w l H H' h h' B ea C t) (st:B.StaysIn h'') (b:aj) (u:HO) (o:Obj) (e:H' b=some u) (q:h'.get? b=some o):h''.get? b=some o:=by
 obtain ⟨o',e1⟩:=x.cov b u e
 have:=x.fly.1 b o' e1
 rw [q] at this;cases this
 exact st b o e1
end
section
variable {P:aM}{w:ba}{K:a8}{mg:Str->Option ac}{base:bB}{N:List Str}{qual:Str}{scope:eO}{f:aj}{cd:ac}{A:bv}{outer:List Env}{s:ag}{H:Hp}{E:XK}
theorem BY {pins:List (aj×Obj)}{σ:St}{H1:Hp}{s1:ag}{h':bB}{ea C:aj}{vs:List ac} (I:bP (jN (qk P w) P w K mg base N qual scope f cd A outer s H E) pins σ H1 s1)
  (hx:Heap.MadeExcOf s1.heap h' ea (.ref C) vs) (q:E (.ref C) none H1):(jN (qk P w) P w K mg base N qual scope f cd A outer s H E).xe (.ref ea) { s1 with heap:=h' }:=by
 let X:=jN (qk P w) P w K mg base N qual scope f cd A outer s H E
 let B:=KI s1.heap (rT X.stack)
 have hin:∀ env∈X.stack,∀ a,env.frame=some a->a∈rT X.stack:=fun env he a hf=>HC he hf
 have stB:B.StaysIn s1.heap:=fun b o e=>FI _ e
 have nS:∀ b,b∉rT X.stack->∀ o,s1.heap.get? b=some o->B.get? b=some o:=fun b n o e=>Ft _ e n
 show au _ X.A (leaving X.env (.ref ea)) _ _ _
 refine wpAny_leaves_madeW (s:={ s1 with heap:=h' }) (base:=B) (outer:=outer) (L:=X.env.locals) I.ok.frames rfl stB (PySem.W.funFrames_hide I.stack hin) hx fun h2 t fl tup tn up=>?_
 have st2:=fl.1
 have bl:∀ b o,s.heap.get? b=some o->b∉rT outer->b∉rT X.stack:=fun b o e n z=>by
  rcases List.mem_cons.mp (I.stkSub b z) with y | y
  ·exact absurd (aq e) (by rw [y];exact Nat.not_lt.mpr I.ok.above)
  ·exact n y
 have noex:∀ b:aj,b∉X.ex:=fun b z=>absurd (show b∈([] : List aj) from z) (by simp)
 have cov:∀ b u,H1 b=some u->∃ o,B.get? b=some o:=fun b u e=>by
  have hb:b∉rT X.stack:=fun z=>by have:=I.stkFree b z;rw [e] at this;cases this
  obtain ⟨o,k⟩:=M3 I.hok e
  exact ⟨o,nS b hb o k⟩
 refine ⟨ea,C,t,H1,B,rfl,I.os,I.bare,⟨fl,cov,fun b o e n hb=>?_,fun b o e hb=>?_,⟨fun b o e n hb hx'=>?_,fun b o e n hb hx'=>?_,fun b o e n _=>I.base.free b o e n (noex b),fun b o e _=>?_,I.base.tups,I.base.frzs,I.base.tbls⟩,fun b u e=>?_⟩,q⟩
 ·exact nS b (bl b o e hb) o (I.base.keep b o e n hb (noex b))
 ·obtain ⟨o',k⟩:=I.base.there b o e (noex b)
  exact ⟨o',nS b (bl b o e hb) o' k⟩
 ·exact st2 b o (nS b (bl b o e hb) o (I.base.keep b o e n hb (noex b)))
 ·obtain ⟨sl,k⟩:=I.base.slot b o e n hb (noex b)
  obtain ⟨_,o',k1,k2⟩:=kq I.funs hb
  rw [k] at k1;cases k1
  obtain ⟨sl',k3⟩:=up b _ (hx.keeps _ _ k) k2
  exact ⟨sl',k3⟩
 ·obtain ⟨o',k⟩:=I.base.there b o e (noex b)
  by_cases hb:b∈rT outer
  ·obtain ⟨_,o2,k1,_⟩:=kq fl.2.2.1 hb
   exact ⟨o2,k1⟩
  ·exact ⟨o',st2 b o' (nS b (bl b o e hb) o' k)⟩
 ·refine (I.hok b u e).stay (fun c o hc k=>?_) (fun _ q=>q) fun _ _ q=>q
  have hcs:c∉rT X.stack:=fun z=>by
   have:=I.stkFree c z
   rcases hc with y | y
   ·rw [y,e] at this;cases this
   ·rw [y] at this;cases this
  exact st2 c o (nS c hcs o k)
theorem DH {E':XK} (hE:∀ c H',E' c none H'->E c none H'):sx (qk P w) (jN (qk P w) P w K mg base N qual scope f cd A outer s H E) E':=by
 intro pins σ H1 s1 e s' I h
 obtain ⟨ea,C,t,H',B,rfl,os,bare,x,q⟩:=h
 let X:=jN (qk P w) P w K mg base N qual scope f cd A outer s H E
 have noex:∀ b:aj,b∉X.ex:=fun b z=>absurd (show b∈([] : List aj) from z) (by simp)
 have bl:∀ b o,s.heap.get? b=some o->b∉rT outer->b∉rT X.stack:=fun b o e n z=>by
  rcases List.mem_cons.mp (I.stkSub b z) with y | y
  ·exact absurd (aq e) (by rw [y];exact Nat.not_lt.mpr I.ok.above)
  ·exact n y
 have sub:∀ b∈rT outer,b∈rT X.stack:=fun b hb=>by
  obtain ⟨env,he,hf⟩:=List.mem_filterMap.mp hb
  exact HC (ak _ he) hf
 show au _ X.A (leaving X.env (.ref ea)) _ _ _
 refine wpAny_leaves_onW (base:=B) (outer:=outer) (L:=X.env.locals) I.ok.frames rfl x.fly fun h2 fl up=>?_
 have st2:=fl.1
 refine ⟨ea,C,t,H',B,rfl,os.trans I.os,bare,⟨fl,x.cov,fun b o e n hb=>?_,fun b o e hb=>?_,⟨fun b o e n hb hx'=>?_,fun b o e n hb hx'=>?_,fun b o e n _=>?_,fun b o e _=>?_,fun b xs e=>x.un.tups b xs (I.base.tups b xs e),fun b o xs e=>x.un.frzs b o xs (I.base.frzs b o xs e),fun b ps e=>?_⟩,fun b u e=>?_⟩,hE _ _ q⟩
 ·exact x.old b o (I.base.keep b o e n hb (noex b)) (I.base.free b o e n (noex b)) (bl b o e hb)
 ·obtain ⟨o',k⟩:=I.base.there b o e (noex b)
  exact x.all b o' k (bl b o e hb)
 ·exact st2 b o (x.old b o (I.base.keep b o e n hb (noex b)) (I.base.free b o e n (noex b)) (bl b o e hb))
 ·obtain ⟨sl,k⟩:=I.base.slot b o e n hb (noex b)
  obtain ⟨sl1,k1⟩:=x.un.slot b _ k (I.base.free b o e n (noex b)) (sub b hb) (by simp)
  obtain ⟨_,o',k2,k3⟩:=kq x.fly.2.2.1 (sub b hb)
  rw [k1] at k2;cases k2
  obtain ⟨sl2,k4⟩:=up b _ k1 k3
  exact ⟨sl2,k4⟩
 ·obtain ⟨o',k⟩:=I.base.there b o e (noex b)
  exact x.un.free b o' k (I.base.free b o e n (noex b)) (by simp)
 ·obtain ⟨o',k⟩:=I.base.there b o e (noex b)
  by_cases hb:b∈rT outer
  ·obtain ⟨_,o2,k1,_⟩:=kq fl.2.2.1 hb
   exact ⟨o2,k1⟩
  ·obtain ⟨o2,k2⟩:=x.all b o' k (bl b o e hb)
   exact ⟨o2,st2 b o2 k2⟩
 ·obtain ⟨m1,e1⟩:=I.base.tbls b ps e
  obtain ⟨m2,e2⟩:=x.un.tbls b _ e1
  exact ⟨m1++m2,by rw [e2,IZ]⟩
 ·exact (x.hok b u e).stay (fun c o hc k=>by
   rcases hc with z | z
   ·rw [z] at k ⊢;exact x.kp st2 b u o e k
   ·exact x.kp st2 c _ o z k) (fun _ q=>q) fun _ _ q=>q
end
end
section
section
variable {P:aM}{w:ba}{K:a8}{mg:Str->Option ac}{base:bB}{N:List Str}{qual:Str}{scope:eO}{f:aj}{cd:ac}{A:bv}{outer:List Env}{s:ag}{H:Hp}{E:XK}
theorem M4 {x:Str}{np cpos pos:Pos}{e0:aX}{c7:List aX}{C:aj}{bmB:List ac}{newId initId Bn:String}{ta:TA} (O:OwnCls x C bmB newId mg base) (FB:ExcBaseFacts Bn newId initId bmB)
  (hg:Gl (jN (qk P w) P w K mg base N qual scope f cd A outer s H E) x) (ha:PA (jN (qk P w) P w K mg base N qual scope f cd A outer s H E) (e0::c7) ta)
  (he:aI (e0::c7) (jN (qk P w) P w K mg base N qual scope f cd A outer s H E).env=(false,dE e0 (jN (qk P w) P w K mg base N qual scope f cd A outer s H E).env)::aI c7 (jN (qk P w) P w K mg base N qual scope f cd A outer s H E).env:=by rfl)
  (hdb:(x == ("__debug__" : Str))=false:=by decide) (hpl:(j4 cpos (aI c7 (jN (qk P w) P w K mg base N qual scope f cd A outer s H E).env)).any (·.1)=false:=by rfl) :
  PS (jN (qk P w) P w K mg base N qual scope f cd A outer s H E) (.Raise (some (.Call (.Name x np) (e0::c7) [] cpos)) none pos) (fun D σ H1=>ta σ H1 fun vs H2=>vs.length<=sizeLine/\E (.ref C) none H2):=by
 intro pins s1 σ H1 D I h
 obtain ⟨tl,Nn,nm,q,bs,hdct,sn,sub,ab,col,dd,k0,k1,k2,k3,k5,mN,hC,hN,hni,T⟩:=O.obj
 refine wpAny_Raise_call_subT (C:=C) (nm:=nm) (q:=q) (N:=Nn) (bs:=bs) (bm:=tl) (hdct:=hdct) (sn:=sn) (sub:=sub) (ab:=ab) (col:=col) (dd:=dd) (k0:=k0) (k1:=k1) (k2:=k2) (k3:=k3) (k5:=k5)
  FB (mN:=mN) (T.hasType FB.hasBase) (I.ok.hd rfl) ?_ hni (BD I hg O.bound ⟨rfl,?_⟩ hdb)
 ·rw [he]
  show (false || _)=false
  rw [D9];exact hpl
 ·have hx:=ha cpos pins s1 σ H1 _ I h
  rw [he] at hx ⊢
  refine FL (fk hx fun us s2 ⟨vs,H2,I2,r2,z,qE⟩=>?_)
  have kb:∀ b o,base.get? b=some o->s2.heap.get? b=some o:=I2.bk
  exact ⟨rfl,by show us.length<=sizeLine;rw [<- r2.length];exact z,kb _ _ hC,hN.keeps kb,T.keeps kb,fun h' ea hm=>BY I2 hm qE⟩
end
structure Wv (base:bB) (C:aj) (bm:List ac):Prop where
 obj:∃ nm q N bs hdct sn sub ab col dd k0 k1 k2 k3 k5 newId,base.get? C=some (excClassObj nm q C N bs bm hdct sn sub ab col dd k0 k1 k2 k3 k5 newId)
 exc:bm.contains (.type "BaseException")=true
end
section
section
variable {prog:aM}{w:ba}{A:bv}{E:ac->ag->Prop}{s:ag}{K:a8}{x C:aj}{R:vb->ag->Prop}
end
section
variable {X:Cx}
end
end
section
section
variable {P:aM}{w:ba}{K:a8}{mg:Str->Option ac}{base:bB}
end
section
variable {X:Cx}{k:Nat}{f:aj}{fd:fz}{ps:List Str}{sp:Sp}{x:Str}{p pos:Pos}{e:aX}{es:List aX}{t:TA}
end
end
section
section
variable {X:Cx}
def Ww:qc->String
 | .none=>"NoneType" | .bool _=>"bool" | .int _=>"int" | .str _=>"str" | .list _=>"list" | .tuple _=>"tuple" | .dict _=>"dict"
theorem Gi {pins:List (aj×Obj)}{σ:St}{H:Hp}{s:ag}{A:bv}{E:ac->ag->Prop}{Q:ac->ag->Prop}{c:ac}{b:Bool}{x:V}{d:qc}{u:ac} (I:bP X pins σ H s) (rx:du x u) (r:Gh X.K H x d) (e:q0 X.K (.type (Ww d)) c=some b) (h:∀ tk,Q (.bool b) { s with toks:=tk }) :
  au (aO X.prog X.w) A (call (.builtin "isinstance") [u,c]) Q E s:=by
 cases r with
 | none=>exact qO I rx .non e h
 | bool y=>exact qO I rx (.bl y) e h
 | int i=>exact qO I rx (.int i) e h
 | str y=>exact qO I rx (.str y) e h
 | list hq _ =>
  cases rx
  obtain ⟨its,rv,⟨o,n,ho,c,_,dd⟩,_⟩:=I.list hq
  exact cL tX I.kIn ⟨o,ho,c⟩ e (fun z=>nomatch z) h
 | tuple hq _ =>
  cases rx
  obtain ⟨its,rv,⟨o,ho,c,n,dd⟩,_⟩:=I.tuple hq
  exact cL FJ I.kIn ⟨o,ho,c⟩ e (fun z=>nomatch z) h
theorem M5:jR X (.builtin "isinstance") (fun xs H Q=>∃ x d T b,xs=[x,.ty T]/\Gh X.K H x d/\q0 X.K (.type (Ww d)) (.type T)=some b/\Q (.bl b) H):=by
 intro pins s σ H xs us Q I r h
 obtain ⟨x,d,T,b,rfl,rp,e,q⟩:=h
 obtain ⟨u,v,rfl,ru,rv⟩:=QL r
 obtain rfl:v=.type T:=rv
 exact Gi I ru rp e fun tk=>⟨.bl b,H,I.tok tk,rfl,q⟩
end
end
end L2
section
namespace HT
open PySem PyProof.Rows
section
variable {prog:aM}{w:ba}{A:bv}{E:ac->ag->Prop}{s:ag}
theorem DI {t sl:aj}{items:Array ac}{vl vu:ac}{lo hi:Option Int}{Q:ac->ag->Prop} (ht:KH s.heap t items) (hs:s.heap.IsSliceOf sl vl vu .none) (pl:vc vl lo) (pu:vc vu hi)
  (hw:iH items.size 0 lo=0/\iH items.size items.size hi=items.size) (h:Q (.ref t) s):au (aO prog w) A (pT (.ref t) (.ref sl)) Q E s:=by
 obtain ⟨os,hos,hcs,hds⟩:=id hs
 have hTs:s.TypeIs (.ref sl) "slice":=⟨os,hos,hcs⟩
 unfold pT
 try with_reducible refine cX ?_
 first | refine a7 (ae ?_) | skip
 refine a7 (wpAny_sequenceKey ht.typeIs (by decide) ?_)
 refine a7 (cj (name:=fZ "__getitem__") ht.typeIs fD
  (c6 fD ht.typeIs entry_tuple_getitem ?_ (args_tuple_getitem _ _)))
 show au _ _ (tZ (.ref t) >>= _) _ _ s
 refine a7 (tupleItemsOf_ ht ?_)
 refine a7 (kZ hTs ?_)
 rw [if_pos (by decide)]
 refine a7 (nU hs pl pu ?_)
 have hyes:((((iH items.size 0 lo:Nat):Int) == 0 && (1:Int) == 1 && (iH items.size items.size hi - iH items.size 0 lo) == items.size)=true):=by
  rw [hw.1,hw.2];simp
 show au _ _ (if (((iH items.size 0 lo:Nat):Int) == 0 && (1:Int) == 1 && (iH items.size items.size hi - iH items.size 0 lo) == items.size)=true then _ else _) _ _ s
 rw [if_pos hyes]
 refine a7 ?_
 unfold Builtin.Tuple.tupleIsExact
 refine a7 (kZ ht.typeIs (ae ?_))
 rw [if_pos (by decide)]
 refine a7 (gG ?_)
 first
  | exact ae (ae ⟨_,rfl,h⟩)
  | exact ae ⟨_,rfl,ae h⟩
  | exact a7 (ae (ae ⟨_,rfl,ae h⟩))
  | exact a7 (ae (ae ⟨_,rfl,h⟩))
end
end HT
namespace L2
open PySem PySem.Spec PyProof.Rows
section
variable {X:Cx}
inductive M6 (K:a8) (x:V) (lo:Option Int) (hi:Option Int) (H:Hp) (Q:VK):Prop
 | mk (a xs:_) (h0:x=.ref a) (h1:kK K H a xs) (h2:(HT.iH xs.length 0 lo=0/\HT.iH xs.length xs.length hi=xs.length)) (h3:Q (.ref a) H):M6 K x lo hi H Q
def Uj (K:a8):V->Option Int->Option Int->Hp->VK->Prop:=M6 K
theorem Pw:U8 X (Uj X.K):=by
 intro pins s σ H x v vl vu lo hi sl Q I rx hs pl pu h
 obtain ⟨a,xs,rfl,hx,hw,q⟩:=h
 cases rx
 obtain ⟨its,r,ht,hz⟩:=I.tuple hx
 have hlen:its.toArray.size=xs.length:=by rw [aP];exact r.length.symm
 exact ⟨"tuple",_,PyProof.Rows.slot_tuple_getitem.lookup,ht.typeIs,HT.DI ht hs pl pu (by rw [hlen];exact hw) ⟨.ref a,H,I,rfl,q⟩⟩
theorem lY {H:Hp}{p:aj}{o:HO} (h:H p=none):dH H (upd H p o):=fun b u e=>by rw [bt (bT e h)];exact e
theorem xV (hc:X.calm=true):jR X (.type "list") (fun xs H Q=>∃ a kvs,xs=[.ref a]/\H a=some (.dK kvs)/\∀ l,H l=none->Q (.ref l) (upd H l (.lst (kvs.map fun p=>kV p.1)))):=by
 intro pins s σ H xs us Q I r h
 obtain ⟨a,kvs,rfl,hH,q⟩:=h
 obtain ⟨u,rfl,rx⟩:=kL r
 cases rx
 obtain ⟨hz,hs,vs,rk,hd⟩:=(show dA X.prog X.w H s.heap a (.dK kvs) from I.hok a _ hH)
 obtain ⟨ep,hat⟩:∃ ep,s.heap.DictAt (dw X.prog X.w) a vs ep:=by
  obtain ⟨o,es,ep,h1,h2,h3,h4⟩:=hd
  exact ⟨ep,o,es,h1,h2,h3,h4⟩
 have hlen:kvs.length=vs.length:=iY rk
 refine PySem.W.kdl_call (PySem.W.kdl_dict hs) (I.ok.hd hc) hat (by omega) fun h' tk acc' c' kp e hacc=>?_
 have rv:dJ (kvs.map fun p=>kV p.1) acc'.toList:=by
  have key:∀ {kvs:List (dv×V)}{vs:List (dv×ac)} (acc:List ac),KV kvs vs->acc.length=vs.length->(∀ (j:Nat) (v:ac),acc[j]?=some v->∃ k x,vs[j]?=some (k,x)/\xK k v=true)->dJ (kvs.map fun p=>kV p.1) acc:=by
   intro kvs
   induction kvs with
   | nil=>intro vs acc rk hl _;cases rk;cases acc with
    | nil=>exact .nil
    | cons _ _=>simp at hl
   | cons p kvs ih =>
    intro vs acc rk hl hv
    cases rk with
    | cons h1 t1 =>
     cases acc with
     | nil=>simp at hl
     | cons v acc =>
      refine .cons ?_ (ih acc t1 (by simpa using hl) fun j v hj=>by simpa using hv (j + 1) v (by simpa using hj))
      obtain ⟨k,x,e1,e2⟩:=hv 0 v rfl
      simp only [Df,Db] at e1
      subst e1
      have hk:p.1=k:=h1.1
      rcases e_ e2 with ⟨i,t,e,rfl⟩ | ⟨i,t,e,rfl⟩
      ·show du (kV p.1) _;rw [hk,e];exact ⟨t,rfl⟩
      ·show du (kV p.1) _;rw [hk,e];exact ⟨t,rfl⟩
  exact key acc'.toList rk (by rw [av];exact hacc.1) fun j v hj=>hacc.2 j v (by rw [<- dD];exact hj)
 exact ⟨.ref s.heap.objs.size,_,I.laid (t':=tk) kp (ar _) (show dA X.prog X.w _ h' _ (.lst _) from ⟨by simpa using hz,acc'.toList,c',rv,by rw [FV];exact e⟩),rfl,q _ (I.hok.fresh (ar _))⟩
def xW (x:Str):List V:=x.cps.toList.map fun c=>V.str ⟨#[c]⟩
theorem wY (hc:X.calm=true):jR X (.type "tuple") (fun xs H Q=>∃ x,xs=[.str x]/\x.cps.size<=sizeLine/\∀ l,H l=none->Q (.ref l) (upd H l (.tup (xW x)))):=by
 intro pins s σ H xs us Q I r h
 obtain ⟨x,rfl,hz,q⟩:=h
 obtain ⟨u,rfl,rx⟩:=kL r
 obtain ⟨t,rfl⟩:=rx
 refine call_tuple_str (I.ok.hd hc) x t (fun h' tk acc kp hacc=>?_) hz
 have I1:bP X pins σ H { s with heap:=h',toks:=tk }:=I.kept (t':=tk) kp
 have rv:dJ (xW x) acc.toList:=by
  have key:∀ (cs:List Nat) (acc:List ac),acc.length=cs.length->(∀ (j:Nat) (v:ac),acc[j]?=some v->∃ c u,cs[j]?=some c/\v=.str ⟨#[c]⟩ u)->dJ (cs.map fun c=>V.str ⟨#[c]⟩) acc:=by
   intro cs
   induction cs with
   | nil=>intro acc hl _;cases acc with
    | nil=>exact .nil
    | cons _ _=>simp at hl
   | cons c cs ih =>
    intro acc hl hv
    cases acc with
    | nil=>simp at hl
    | cons v acc =>
     obtain ⟨c',u,e1,rfl⟩:=hv 0 v rfl
     simp only [Df,Db] at e1
     subst e1
     exact .cons ⟨u,rfl⟩ (ih acc (by simpa using hl) fun j v hj=>by simpa using hv (j + 1) v (by simpa using hj))
  refine key x.cps.toList acc.toList (by rw [av,av];exact hacc.1) fun j v hj=>?_
  obtain ⟨c,u,e1,e2⟩:=hacc.2 j v (by rw [<- dD];exact hj)
  exact ⟨c,u,by rw [dD];exact e1,e2⟩
 have I2:bP X pins σ (upd H h'.objs.size (.tup (xW x))) { s with heap:=h'.push { cls:=.type "tuple",data:=.seq acc },toks:=tk } :=
  I1.laid (t':=tk) (fun b o e=>af _ e) (ar _) (show dA X.prog X.w _ _ _ (.tup (xW x)) from ⟨by unfold xW;simpa using hz,acc.toList,rv,by rw [FV];exact wM _ _⟩)
 exact ⟨.ref h'.objs.size,_,I2,rfl,q _ (I1.hok.fresh (ar _))⟩
end
end L2
end
namespace L2
open PySem PySem.Spec PyProof.Rows
section
theorem B_ (elt target iter:aX) (ifs:List aX) (scope:eO) (pos:Pos) (it acc:ac) (env:Env) :
  compTurn (.SetComp elt [⟨target,iter,ifs,0⟩] scope pos) 0 it acc env=(do
   wk iter.pos
   let r <- jr it
   match r with
   | none=>pure (.done .next)
   | some v =>
    gn target it v
    p_ target env v
    let mut ok:=true
    for c in ifs do
     if ok then ok <- v8 c env (dE c env)
    if ok then
     (do let v <- dE elt env;wk elt.pos;let _ <- call (.builtin "set.add") [acc,v])
    again (.compLoop (.SetComp elt [⟨target,iter,ifs,0⟩] scope pos) 0 it acc env)):=by rfl
section
variable {prog:aM}{w:ba}{A:bv}{E:ac->ag->Prop}{R:vb->ag->Prop}{s:ag}
theorem pQ {elt target iter ifs c7 scope pos it acc env}
  (h0:iN (aO prog w) A (.compLoop (.SetComp elt (⟨target,iter,ifs,0⟩::c7) scope pos) 0 it acc env) R s)
  (h:au (aO prog w) A (v9 it) (fun it' s'=>iN (aO prog w) A (.compLoop (.SetComp elt (⟨target,iter,ifs,0⟩::c7) scope pos) 0 it' acc env) R s')
   (notedBy (aO prog w) A env fun x s'=>R (.error x) s') s) :
  iN (aO prog w) A (.compStart (.SetComp elt (⟨target,iter,ifs,0⟩::c7) scope pos) 0 it acc env) R s:=by
 refine Dd ?_
 show au _ _ ((compStart (.SetComp elt (⟨target,iter,ifs,0⟩::c7) scope pos) 0 it acc env).onRaise (fun x=>do noteFrame x env;wk theWindowsPlace)) _ _ s
 refine wpAny_notedAt ?_
 unfold compStart
 show au _ _ (ask >>= _) _ _ s
 refine a7 (gX (wpAny_ite ?_))
 split
 ·first
   | exact a7 (ae (ae (tS rfl h0)))
   | exact ae (tS rfl h0)
 ·first
   | exact a7 (gG (a7 (iC (a7 (bQ h (fun it' s' hq=>ae (tS rfl hq)) fun _ _ x=>x)))))
   | (refine a7 (gG ?_);show au _ _ (wk iter.pos >>= _) _ _ s;exact a7 (iC (a7 (bQ h (fun it' s' hq=>ae (tS rfl hq)) fun _ _ x=>x))))
theorem rW {Q:ac->ag->Prop} (h:Q (.ref s.heap.objs.size) { s with heap:=s.heap.push (eR w) }):au (aO prog w) A (newSet (.type "set")) Q E s:=by
 unfold newSet setsByText
 refine a7 (a7 (gX (ae ?_)))
 dsimp only
 simp only [newObj]
 exact a7 (OG (ae h))
theorem A8 {a:aj}{ss:List Str}{x:Str}{tk:Tok}{Q:ac->ag->Prop} (hS:l7 w s.heap a ss) (hr:ss.length + 1<iF)
  (h:∀ h' tk',bH a s.heap h'->l7 w h' a (if x∈ss then ss else ss++[x])->Q .none { s with heap:=h',toks:=tk' }) :
  au (aO prog w) A (call (.builtin "set.add") [.ref a,.str x tk]) Q E s:=by
 have hT:s.TypeIs (.ref a) "set":=by obtain ⟨es,ep,t,I,_⟩:=id hS;exact ⟨_,I.at_,rfl⟩
 refine c6 F.slot_set_add hT F.entry_set_add ?_ (F.args_set_add_2 _ _)
 unfold jP.«set.add» OQ
 simp only [Os,bind_assoc]
 unfold OR
 refine a7 (ae ?_)
 try dsimp only
 refine a7 (ae ?_)
 try dsimp only
 refine a7 ?_
 refine DA hS hr fun h' tk' sb hS'=>?_
 exact ae ⟨_,rfl,h h' tk' sb hS'⟩
end
section
variable {prog:aM}{w:ba}{A:bv}{R:vb->ag->Prop}{s:ag}
theorem DJ {elt target iter:aX}{ifs:List aX}{scope:eO}{pos:Pos}{it acc:ac}{env:Env} (I:Nat->ag->Prop)
  (turn:∀ n s,I n s->au (aO prog w) A (jr it) (fun r s₁=>match r with
   | none=>R (.ok .next) s₁
   | some v=>au (aO prog w) A (gn target it v) (fun _ s₁'=>au (aO prog w) A (p_ target env v) (fun _ s₂ =>
     au (aO prog w) A (forIn ifs true fun c r=>if r=true then do let ok <- v8 c env (dE c env);pure (fB ok) else pure (fB r)) (fun ok s₃ =>
      if ok=true then au (aO prog w) A (dE elt env) (fun x s₄ =>
       au (aO prog w) A (call (.builtin "set.add") [acc,x]) (fun _ s₅=>∃ m,m<n/\I m s₅) (fun _ _=>False) s₄) (fun _ _=>False) s₃
      else ∃ m,m<n/\I m s₃) (fun _ _=>False) s₂) (fun _ _=>False) s₁') (fun _ _=>False) s₁) (fun _ _=>False) s)
  (n:Nat) (h:I n s) :
  iN (aO prog w) A (.compLoop (.SetComp elt [⟨target,iter,ifs,0⟩] scope pos) 0 it acc env) R s:=by
 refine codeAny_loop rfl I (fun n s hI=>?_) n h
 show au _ A ((compTurn (.SetComp elt [⟨target,iter,ifs,0⟩] scope pos) 0 it acc env).onRaise (fun x=>do noteFrame x env;theTreesLotGoes x)) _ _ s
 refine wpAny_noted ?_
 rw [B_]
 have nf:∀ {α:Type}{t:Sem α}{Q:α->ag->Prop}{E':ac->ag->Prop}{s:ag},au (aO prog w) A t Q (fun _ _=>False) s->au (aO prog w) A t Q E' s :=
  fun h=>bQ h (fun _ _ q=>q) fun _ _ f=>f.elim
 refine a7 (iC (a7 (nf (bQ (turn n s hI) (fun r s₁ h₁=>?_) fun _ _ h'=>h'))))
 cases r with
 | none=>exact ae h₁
 | some v =>
  refine a7 (nf (bQ h₁ (fun _ s₁' h₁'=>?_) fun _ _ h'=>h'))
  refine a7 (nf (bQ h₁' (fun _ s₂ h₂=>a7 (nf (bQ h₂ (fun ok s₃ h₃=>?_) fun _ _ h'=>h'))) fun _ _ h'=>h'))
  cases ok with
  | false=>exact ae ⟨rfl,h₃⟩
  | true =>
   exact a7 (a7 (nf (bQ h₃ (fun x s₄ h₄=>a7 (iC (a7 (nf (bQ h₄ (fun _ s₅ h₅=>ae (ae ⟨rfl,h₅⟩)) fun _ _ h'=>h'))))) fun _ _ h'=>h')))
end
inductive X6 (X:Cx) (pins:List (aj×Obj)) (N':List Str) (scope:eO) (cl:List (Str×aj)) (C:aj) (s2:ag) (H2:Hp) (fp:List aj) (nt:Nat) (ix:List Nat) (σ:St) (tn:Nat->bB->Prop) (W:Nat->Nat->List Str->Hp->Prop) (n:Nat) (s':ag):Prop
 | mk (i:Nat) (acc:List Str) (oD:Obj) (H':Hp) (I:bP (cO X N' scope cl C s2 H2 fp (X.pn++pins)) [(s2.heap.objs.size,oD)] (jo nt ix σ) H' s') (S:l7 X.w s'.heap s2.heap.objs.size acc) (t:tn i s'.heap) (f:∀ b∈fp,H' b=none) (w:W i n acc H'):X6 X pins N' scope cl C s2 H2 fp nt ix σ tn W n s'
theorem JF {X:Cx}{elt tg iter:aX}{ifs:List aX}{scope:eO}{pos:Pos}{g:TG}{tt:TT}{te:TE}{N':List Str}{nt:Nat}{ix:List Nat}
  (hc:X.calm=true) (S:nA X scope N' nt ix) (lo:QW nt g)
  (hb:∀ cl C s₀ H₀ ex pn,PG (cO X N' scope cl C s₀ H₀ ex pn) tg g/\Oz (cO X N' scope cl C s₀ H₀ ex pn) ifs tt/\PE (cO X N' scope cl C s₀ H₀ ex pn) elt te)
  {cl:List (Str×aj)} (c1:∀ x c,cl.lookup x=some c->X.env.cells.lookup x=some c) (c2:∀ y∈scope.names,y.2=.free->∃ c,cl.lookup y.1=some c)
  {pins:List (aj×Obj)}{σ:St}{H2:Hp}{s2:ag}{it:aj}{fp:List aj}{tn:Nat->bB->Prop}{J:It}{Q:VK}{E:ac->ag->Prop}
  (I2:bP X pins σ H2 s2) (T:vk X.prog X.w X.K tg J fp it tn) (st2:tn 0 s2.heap) (f2:∀ b∈fp,qf X pins H2 b)
  {W:Nat->Nat->List Str->Hp->Prop} (w0:∃ m,W 0 m [] H2)
  (turn:∀ i m acc H,W i m acc H->(J.stop i H/\∀ p,H p=none->Q (.ref p) (upd H p (lz X.w p acc))) \/
   (J.go i H/\acc.length + 1<iF/\∀ x H',J.yld i H x H'->g x (jo nt ix σ) H' fun σ2 H2=>tt σ2 H2 fun b H3 =>
    if b=true then te σ2 H3 fun y H4=>∃ z m',y=.str z/\m'<m/\W (i + 1) m' (if z∈acc then acc else acc++[z]) H4 else ∃ m',m'<m/\W (i + 1) m' acc H3))
  {RR:ac->aj->vb->ag->Prop}
  (hRR:∀ D C m s' (acc:List Str) H',H' D=none->qf X pins (upd H' D (lz X.w D acc)) C->Q (.ref D) (upd H' D (lz X.w D acc))->s'.heap.Ns C m->(∀ h',bH C s'.heap h'->bP X pins σ (upd H' D (lz X.w D acc)) { s' with heap:=h' })->RR (.ref D) C (.ok .next) s') :
  au (aO X.prog X.w) X.A (newSet (.type "set")) (fun acc s₃=>au (aO X.prog X.w) X.A (ve scope X.env.globals cl [] X.env.qual none .none (some X.env)) (fun cenv s₄ =>
   iN (aO X.prog X.w) X.A (.compStart (.SetComp elt [⟨tg,iter,ifs,0⟩] scope pos) 0 (.ref it) acc { cenv with scope:=relabel scope X.env }) (RR acc cenv.locals) s₄) E s₃) E s2:=by
 refine rW (Hz fun h₁ hh₁=>?_)
 dsimp only at hh₁ ⊢
 generalize hG2:s2.heap.push (eR X.w)=G2 at hh₁ ⊢
 have hC:G2.objs.size=s2.heap.objs.size + 1:=by rw [<- hG2,cp]
 have hDC:s2.heap.objs.size≠G2.objs.size:=by rw [hC];exact aF (dq _)
 have hCle:s2.heap.objs.size<=G2.objs.size:=by rw [hC];exact iI _
 have below:∀ b,b<s2.heap.objs.size->b≠G2.objs.size:=fun b hb=>by rw [hC];exact aF (eN hb)
 have kp:∀ b o,G2.get? b=some o->h₁.get? b=some o:=fun b o e=>by rw [hh₁];exact tQ _ _ b o (af _ e)
 have hns₁:h₁.Ns G2.objs.size (fun _=>none):=by rw [hh₁];exact (Heap.Ns.new G2 (.type "dict")).keeps (tQ _ _)
 have ok₁:CellsOk h₁ (G2.objs.size + 1) (bj (G2.objs.size + 1) scope.names []):=by rw [hh₁];exact AN G2 scope.names
 have cne:∀ x c,(bj (G2.objs.size + 1) scope.names cl).lookup x=some c->X.env.cells.lookup x=some c\/s2.heap.objs.size<c:=fun x c e=>by
  rcases kM e with a | ⟨_,a⟩
  ·exact .inr (aJ (jT hCle) (ok₁.empty x c a).2)
  ·exact .inl (c1 x c a)
 have old:∀ b o,s2.heap.get? b=some o->h₁.get? b=some o:=fun b o e=>kp b o (hG2 ▸ af _ e)
 have hacc:h₁.get? s2.heap.objs.size=some (eR X.w):=kp _ _ (hG2 ▸ ax _ rfl)
 have ff:∀ b∈fp,b<s2.heap.objs.size:=fun b hb=>by
  obtain ⟨o,e,_⟩:=T.obj _ _ st2 b hb
  exact aq e
 have I3:bP (cO X N' scope (bj (G2.objs.size + 1) scope.names cl) G2.objs.size s2 H2 fp (X.pn++pins)) [] (jo nt ix σ) H2 { s2 with heap:=h₁,toks:=s2.toks }:=Dw S I2 c1 c2 f2 ff hCle hns₁ old ok₁
 obtain ⟨pg,pt,pe⟩:=hb (bj (G2.objs.size + 1) scope.names cl) G2.objs.size s2 H2 fp (X.pn++pins)
 have hDfs:s2.heap.objs.size∉rT X.stack:=fun z=>by
  rcases List.mem_cons.mp (I2.stkSub _ z) with e | e
  ·exact absurd I2.lt (by rw [<- e];exact b_ _)
  ·exact I2.nofs (ar _) e
 have st1:tn 0 h₁:=T.keep _ _ _ st2 fun b _ o e=>old b o e
 have hDf:s2.heap.objs.size∉fp:=fun z=>absurd (ff _ z) (b_ _)
 have stat:∀ {H':Hp}{pl:List (aj×Obj)},(∀ p∈pl,p.1∉fp)->(∀ b∈fp,H' b=none)->∀ b∈fp,qf (cO X N' scope (bj (G2.objs.size + 1) scope.names cl) G2.objs.size s2 H2 fp (X.pn++pins)) pl H' b:=fun hpl hn b hb=>by
  obtain ⟨f0,f1,f2',f3,f4,f5⟩:=f2 b hb
  refine ⟨hn b hb,below b (ff b hb),fun z=>?_,.inl hb,fun x c e=>(cne x c e).elim (f4 x c) fun q z=>wP q (by rw [z];exact ff b hb),fun p hp z=>?_⟩
  ·rcases List.mem_cons.mp (I2.stkSub _ z) with e | e
   ·exact f1 e
   ·exact f2' e
  ·rcases List.mem_append.mp hp with q | q
   ·exact f5 p q z
   ·exact hpl p q (z ▸ hb)
 obtain ⟨m0,w0⟩:=w0
 have loop:iN (aO X.prog X.w) X.A (.compLoop (.SetComp elt [⟨tg,iter,ifs,0⟩] scope pos) 0 (.ref it) (.ref s2.heap.objs.size) (compEnvC scope (bj (G2.objs.size + 1) scope.names cl) G2.objs.size X.env))
    (RR (.ref s2.heap.objs.size) G2.objs.size) { s2 with heap:=h₁,toks:=s2.toks }:=by
  refine DJ (X6 X pins N' scope (bj (G2.objs.size + 1) scope.names cl) G2.objs.size s2 H2 fp nt ix σ tn W) ?_ m0
   ⟨0,[],_,H2,I3.pin1 hacc (I2.hok.fresh (ar _)) hDC hDfs (fun v z=>nomatch z),AQ X.w hacc,st1,fun b hb=>(f2 b hb).1,w0⟩
  rintro n s3 ⟨i,acc,oD,H3,J3,hS3,st3,fr3,w3⟩
  have plD:∀ p∈[(s2.heap.objs.size,oD)],p.1∉fp:=fun p hp=>by
   have:p=(s2.heap.objs.size,oD):=by simpa using hp
   rw [this];exact hDf
  have stS:∀ {s8:ag},s8.heap.get? s2.heap.objs.size=some oD->l7 X.w s8.heap s2.heap.objs.size acc:=fun {s8} e=>hS3.keep fun o eo=>by
   have q:=(J3.pin (s2.heap.objs.size,oD) (aL _ (List.mem_singleton.mpr rfl))).1
   rw [q] at eo;cases eo;exact e
  rcases turn i n acc H3 w3 with ⟨stop,qn⟩ | ⟨go,hlt,step⟩
  ·refine fk (T.done (cO X N' scope (bj (G2.objs.size + 1) scope.names cl) G2.objs.size s2 H2 fp (X.pn++pins)) rfl rfl rfl hc i _ s3 _ H3 _ J3 (stat plD fr3) st3 stop) fun r s4 h_0=>?_
   obtain ⟨hr,I4⟩:=h_0
   subst hr
   obtain ⟨pD,pN,_⟩:=I4.pin (s2.heap.objs.size,_) (aL _ (List.mem_singleton.mpr rfl))
   obtain ⟨mm,hn,_⟩:=I4.loc
   have hCn:H3 G2.objs.size=none:=I4.free
   refine hRR _ _ mm s4 acc H3 pN (I2.fpOk hCle (by rw [bt (db hDC)];exact hCn)) (qn _ pN) hn fun h' sb=>?_
   have hu:Un (rT X.stack) fp H2 (upd H3 s2.heap.objs.size (lz X.w s2.heap.objs.size acc)) s2.heap h':=Un.grow I4.base sb hCle (ar _) pN
   refine I2.call' (s':={ s4 with heap:=h' }) (ch:=fp) I4.os hu ?_ I4.bare fun b hb=>?_
   ·exact vq (Dx I4.hok hCn sb) pN (BW ((stS pD).keep fun o e=>(sb.2 _ hDC).trans e))
   ·obtain ⟨_,f1,_,f3,f4,f5⟩:=f2 b hb
    exact ⟨f3,f1,f4,f5⟩
  ·refine fk (T.item (cO X N' scope (bj (G2.objs.size + 1) scope.names cl) G2.objs.size s2 H2 fp (X.pn++pins)) rfl rfl rfl hc i _ s3 _ H3 _ J3 (stat plD fr3) st3 go) fun r s4 h_1=>?_
   obtain ⟨u,hr,h4⟩:=h_1
   subst hr
   refine fk h4 fun _ s5 h_2=>?_
   obtain ⟨x,H5,I5,r5,y5,st5,fr5⟩:=h_2
   have I5':=I5.pinned (stat plD fr5) (T.obj _ _ st5)
   refine fk (pg _ s5 _ H5 x u _ I5' r5 (lo _ _ _ _ (step x H5 y5))) fun _ s6 h_3=>?_
   obtain ⟨σ6,H6,I6,q6,l6,k6⟩:=h_3
   have hw:∀ (j:Nat) v,(jo nt ix σ)[j]?=some (some v)->σ6[j]?=some (some v):=fun j v e=>by
    by_cases hj:nt<=j
    ·rw [k6 j hj];exact e
    ·unfold jo at e
     rw [bc (by simpa using hj),cg,if_pos (by omega)] at e
     cases e
   refine fk (pt _ s6 σ6 H6 _ I6 q6) fun b s7 h_4=>?_
   obtain ⟨H7,I7,q7⟩:=h_4
   have fpk:∀ {s8:ag}{σ8:St}{H8:Hp},bP (cO X N' scope (bj (G2.objs.size + 1) scope.names cl) G2.objs.size s2 H2 fp (X.pn++pins)) ([(s2.heap.objs.size,oD)]++vm fp s5.heap) σ8 H8 s8 ->
     tn (i + 1) s8.heap/\∀ b∈fp,H8 b=none:=fun {s8 σ8 H8} I8=>by
    refine ⟨T.keep _ _ _ st5 fun b hb o e=>(I8.pin (b,o) (aL _ (aL _ (jV hb e)))).1,fun b hb=>?_⟩
    obtain ⟨o,e,d⟩:=T.obj _ _ st5 b hb
    exact (I8.pin (b,o) (aL _ (aL _ (jV hb e)))).2.1
   cases b with
   | false =>
    simp only [bJ,if_false] at q7 ⊢
    obtain ⟨m',hm,w7⟩:=q7
    obtain ⟨t7,f7⟩:=fpk I7
    obtain ⟨pD,_⟩:=I7.pin (s2.heap.objs.size,oD) (aL _ (bu _ (List.mem_singleton.mpr rfl)))
    exact ⟨m',hm,i + 1,acc,oD,H7,(I7.weak l6.symm hw).unpinned,stS pD,t7,f7,w7⟩
   | true =>
    simp only [if_true] at q7 ⊢
    refine fk (pe _ s7 σ6 H7 _ I7 q7) fun u8 s8 h_5=>?_
    obtain ⟨y,H8,I8,r8,z,m',hy,hm,w8⟩:=h_5
    obtain ⟨t8,f8⟩:=fpk I8
    obtain ⟨pD,pN,_⟩:=I8.pin (s2.heap.objs.size,_) (aL _ (bu _ (List.mem_singleton.mpr rfl)))
    subst hy
    obtain ⟨tz,rfl⟩:=r8
    refine A8 (stS pD) hlt fun h9 tk9 sb9 hS9=>?_
    obtain ⟨es9,ep9,t9,is9,pm9⟩:=id hS9
    have e9':=is9.at_
    refine ⟨m',hm,i + 1,_,{ cls:=.type "set",dict:=none,data:=.set es9 ep9 t9 },H8,?_,hS9,T.keep _ _ _ t8 fun b hb o e=>sb9.extBut b o (fun z=>hDf (z ▸ hb)) e,f8,w8⟩
    have I8':bP (cO X N' scope (bj (G2.objs.size + 1) scope.names cl) G2.objs.size s2 H2 fp (X.pn++pins)) [] (jo nt ix σ) H8 s8:=(I8.weak l6.symm hw).pins_of fun p hp=>absurd hp (by simp)
    have I9:bP (cO X N' scope (bj (G2.objs.size + 1) scope.names cl) G2.objs.size s2 H2 fp (X.pn++pins)) [] (jo nt ix σ) H8 { s8 with heap:=h9,toks:=tk9 } :=
     I8'.turned (it:=s2.heap.objs.size) (fun b o hb e=>sb9.extBut b o hb e) pN hDC (.inr (ar _)) (fun x c e z=>by
      rcases cne x c e with e | e
      ·obtain ⟨v,q⟩:=I2.cell x c e
       exact absurd q.lt (by rw [z];exact b_ _)
      ·exact absurd e (by rw [z];exact b_ _)) fun p hp z=>by
      have hp:p∈X.pn++pins:=(List.mem_append.mp hp).elim id fun z=>absurd z (by simp)
      exact absurd (aq (I2.pin p hp).1) (by rw [z];exact b_ _)
    exact I9.pin1 e9' pN hDC hDfs (fun v z=>nomatch z)
 exact pQ loop (T.self _ 0 _ _ _ st1 loop)
inductive QY (w:ba) (nt:Nat) (ix:List Nat) (g:TG) (tt:TT) (te:TE) (σ:St) (Q:VK) (J:It) (H1:Hp):Prop
 | mk (W:Nat->Nat->List Str->Hp->Prop) (w0:∃ m,W 0 m [] H1) (turn:∀ i m acc H,W i m acc H ->
 (J.stop i H/\∀ p,H p=none->Q (.ref p) (upd H p (lz w p acc))) \/
 (J.go i H/\acc.length + 1<iF/\∀ x H',J.yld i H x H'->g x (jo nt ix σ) H' fun σ2 H2=>tt σ2 H2 fun b H3 =>
  if b=true then te σ2 H3 fun y H4=>∃ z m',y=.str z/\m'<m/\W (i + 1) m' (if z∈acc then acc else acc++[z]) H4 else ∃ m',m'<m/\W (i + 1) m' acc H3)):QY w nt ix g tt te σ Q J H1
def M7 (w:ba) (nt:Nat) (ix:List Nat) (wi:TI) (g:TG) (tt:TT) (te:TE):TE:=fun σ H Q=>wi σ H (QY w nt ix g tt te σ Q)
theorem Gj {X:Cx}{elt tg iter:aX}{ifs:List aX}{scope:eO}{pos:Pos}{wi:TI}{g:TG}{tt:TT}{te:TE}{N':List Str}{nt:Nat}{ix:List Nat}
  (hc:X.calm=true) (S:nA X scope N' nt ix) (lo:QW nt g) (hi:PI X tg iter wi)
  (hb:∀ cl C s₀ H₀ ex pn,PG (cO X N' scope cl C s₀ H₀ ex pn) tg g/\Oz (cO X N' scope cl C s₀ H₀ ex pn) ifs tt/\PE (cO X N' scope cl C s₀ H₀ ex pn) elt te)
  (hs:∀ x,e8 iter X.env x=pure x:=by intro _;rfl):PE X (.SetComp elt [⟨tg,iter,ifs,0⟩] scope pos) (M7 X.w nt ix wi g tt te):=by
 intro pins s σ H Q I h
 obtain ⟨cl,hcl,c1,c2⟩:=sy (scope:=scope) (env:=X.env) fun y hy hf=>I.ok.has y.1 (S.free y hy hf)
 show au _ _ (comprehension (.SetComp elt [⟨tg,iter,ifs,0⟩] scope pos) scope X.env (firstIterPos [⟨tg,iter,ifs,0⟩] pos) (newSet (.type "set")) (firstAsync [⟨tg,iter,ifs,0⟩]) (firstIter [⟨tg,iter,ifs,0⟩] X.env)) _ _ _
 refine q8 (use:=none) rfl hs hcl S.kind S.loc (fk (hi pins s σ H _ I h) fun v s1 h1=>fk h1 fun itv s2 h2=>?_)
 obtain ⟨it,fp,tn,J,H2,e,I2,T,st2,f2,W,w0,turn⟩:=h2
 subst e
 refine JF (RR:=fun acc C=>compPost (aO X.prog X.w) X.A X.xe none (EP X pins σ Q) acc C) hc S lo hb c1 c2 I2 T st2 f2 w0 turn ?_
 intro D C m s' acc H' hD _ q hn hI
 exact ⟨m,hn,fun h' sb=>⟨.ref D,_,hI h' sb,rfl,q⟩⟩
section
variable {X:Cx}
theorem A9:jR X (.builtin "len") (fun xs H Q=>∃ p ss,xs=[.ref p]/\H p=some (lz X.w p ss)/\Q (.int ss.length) H):=by
 intro pins s σ H xs us Q I r h
 obtain ⟨p,ss,rfl,hq,q⟩:=h
 obtain ⟨u,rfl,rx⟩:=kL r
 cases rx
 obtain ⟨es,ep,t,is,pm⟩:=(show dA X.prog X.w H s.heap p (lz X.w p ss) from I.hok p _ hq).1
 have hlen:es.size=ss.length:=by rw [<- pm.length_eq,ao,av]
 have hsm:(es.size:Int)<2 ^ 63:=by
  have h1:=is.few
  have h2:iF<=2 ^ 62:=by decide
  omega
 refine AC kind_len plain_len entry_len (args_len1 _) (wpAny_len_body_set is.at_ ⟨rfl,rfl,rfl⟩ rfl is.fits hsm ?_)
 refine ⟨.int _,H,I.tok _,⟨_,rfl⟩,?_⟩
 rw [hlen];exact q
end
end
end L2
section
namespace L2
open PySem PySem.Spec PyProof.Rows
section
variable {K:a8}{nt:Nat}{ix:List Nat}{te:TE}{σ:St}{H1:Hp}{Q:VK}{a:aj}{xs:List V}{i:Nat}
end
end L2
namespace L2
open PySem PySem.Spec PyProof.Rows
def HD (so:eO) (N:List Str) (scope:eO) (N':List Str) (nt:Nat) (ix:List Nat):Bool :=
 (scope.kind == .function) && (scope.names.all fun y=>y.2 != .cell || scope.names.lookup y.1 == some .cell) && (scope.names.all fun y=>y.2 != .local || scope.names.lookup y.1 == some .local) &&
 (scope.names.all fun y=>y.2 != .free || so.names.lookup y.1 == some .cell || so.names.lookup y.1 == some .free) &&
 ((bx ix.length).all fun k=>match ix[k]? with
  | none=>false
  | some i=>match N[i]? with
   | none=>false
   | some x=>N'[nt + k]? == some x && scope.names.lookup x == some .free) && (N'.length == nt + ix.length)
theorem cb {X:Cx}{so:eO}{N:List Str}{scope:eO}{N':List Str}{nt:Nat}{ix:List Nat} (h:HD so N scope N' nt ix=true) (h1:X.env.scope=so:=by rfl) (h2:X.N=N:=by rfl):nA X scope N' nt ix:=by
 unfold HD at h
 simp only [aQ,ck] at h
 obtain ⟨⟨⟨⟨⟨a,b⟩,c⟩,d⟩,e⟩,l⟩:=h
 refine ⟨by simpa using a,fun y hy z=>?_,fun y hy z=>?_,fun y hy z=>?_,fun k i hk=>?_,by simpa using l⟩
 ·have:=b y hy;simpa [z] using this
 ·have:=c y hy;simpa [z] using this
 ·have:=d y hy
  rw [h1]
  simpa [z] using this
 ·have hl:k<ix.length:=(List.getElem?_eq_some_iff.mp hk).1
  have:=e k (List.mem_range.mpr hl)
  rw [hk] at this
  rw [h2]
  simp only at this
  split at this
  ·cases this
  ·rename_i x hx
   simp only [aQ] at this
   exact ⟨x,hx,by simpa using this.1,by simpa using this.2⟩
end L2
end
namespace L2
open PySem PySem.Spec PyProof.Rows
section
section
variable {K:a8}{nt:Nat}{ix:List Nat}{te:TE}{σ:St}{H1:Hp}{Q:VK}{a b:aj}{xs ys:List V}{i k:Nat}
end
end
end L2
namespace J
open PySem L2
section
abbrev D:=qc
inductive R (α:Type) where
 | ok (a:α)
 | ex (c:Str) (n:Option D)
 | no
def R.bind {α β:Type}:R α->(α->R β)->R β
 | .ok a,f=>f a
 | .ex c n,_=>.ex c n
 | .no,_=>.no
@[simp] theorem bind_ok {α β:Type} (a:α) (f:α->R β):(R.ok a).bind f=f a:=rfl
@[simp] theorem bind_ex {α β:Type} (c:Str) (n:Option D) (f:α->R β):(R.ex c n).bind f=.ex c n:=rfl
@[simp] theorem bind_no {α β:Type} (f:α->R β):(R.no:R α).bind f=.no:=rfl
def kD:dv->D
 | .inl i=>.int i
 | .inr x=>.str x
def tD (ks:List dv):D:=.tuple (ks.map kD)
mutual
inductive RD (K:a8) (H:Hp):V->D->Prop
 | none:RD K H .non .none
 | bool (b:Bool):RD K H (.bl b) (.bool b)
 | int (i:Int):RD K H (.int i) (.int i)
 | str (x:Str):RD K H (.str x) (.str x)
 | list {a:aj}{xs:List V}{ds:List D}:lW K H a xs->RDs K H xs ds->RD K H (.ref a) (.list ds)
 | tuple {a:aj}{xs:List V}{ds:List D}:H a=some (.tup xs)->RDs K H xs ds->RD K H (.ref a) (.tuple ds)
 | dictK {a:aj}{kvs:List (dv×V)}{ds:List (D×D)}:H a=some (.dK kvs)->RDk K H kvs ds->RD K H (.ref a) (.dict ds)
 | dictT {a:aj}{kvs:List (List dv×V)}{ds:List (D×D)}:H a=some (.dT kvs)->kvs≠[]->RDt K H kvs ds->RD K H (.ref a) (.dict ds)
 | dictF {a:aj}{o:Obj}{kvs:List (List dv×V)}{ds:List (D×D)}:H a=some (.frz o (.dT kvs))->kvs≠[]->RDt K H kvs ds->RD K H (.ref a) (.dict ((.none,.none)::ds))
inductive RDs (K:a8) (H:Hp):List V->List D->Prop
 | nil:RDs K H [] []
 | cons {x:V}{xs:List V}{d:D}{ds:List D}:RD K H x d->RDs K H xs ds->RDs K H (x::xs) (d::ds)
inductive RDk (K:a8) (H:Hp):List (dv×V)->List (D×D)->Prop
 | nil:RDk K H [] []
 | cons {k:dv}{x:V}{xs:List (dv×V)}{d:D}{ds:List (D×D)}:RD K H x d->RDk K H xs ds->RDk K H ((k,x)::xs) ((kD k,d)::ds)
inductive RDt (K:a8) (H:Hp):List (List dv×V)->List (D×D)->Prop
 | nil:RDt K H [] []
 | cons {k:List dv}{x:V}{xs:List (List dv×V)}{d:D}{ds:List (D×D)}:RD K H x d->RDt K H xs ds->RDt K H ((k,x)::xs) ((tD k,d)::ds)
end
section
variable {K:a8}{H H':Hp}
theorem RD.same (e:dH H H') {v:V}{d:D} (h:RD K H v d):RD K H' v d:=RD.rec (motive_1:=fun v d _=>RD K H' v d) (motive_2:=fun v d _=>RDs K H' v d) (motive_3:=fun v d _=>RDk K H' v d) (motive_4:=fun v d _=>RDt K H' v d) .none .bool .int .str (fun h _ r=>.list (e.seq h) r) (fun h _ r=>.tuple (e _ _ h) r) (fun h _ r=>.dictK (e _ _ h) r) (fun h n _ r=>.dictT (e _ _ h) n r) (fun h n _ r=>.dictF (e _ _ h) n r) .nil (fun _ _ a b=>.cons a b) .nil (fun _ _ a b=>.cons a b) .nil (fun _ _ a b=>.cons a b) h
theorem RDs.same (e:dH H H') {v:List V}{d:List D} (h:RDs K H v d):RDs K H' v d:=RDs.rec (motive_1:=fun v d _=>RD K H' v d) (motive_2:=fun v d _=>RDs K H' v d) (motive_3:=fun v d _=>RDk K H' v d) (motive_4:=fun v d _=>RDt K H' v d) .none .bool .int .str (fun h _ r=>.list (e.seq h) r) (fun h _ r=>.tuple (e _ _ h) r) (fun h _ r=>.dictK (e _ _ h) r) (fun h n _ r=>.dictT (e _ _ h) n r) (fun h n _ r=>.dictF (e _ _ h) n r) .nil (fun _ _ a b=>.cons a b) .nil (fun _ _ a b=>.cons a b) .nil (fun _ _ a b=>.cons a b) h
theorem RDk.same (e:dH H H') {v:List (dv×V)}{d:List (D×D)} (h:RDk K H v d):RDk K H' v d:=RDk.rec (motive_1:=fun v d _=>RD K H' v d) (motive_2:=fun v d _=>RDs K H' v d) (motive_3:=fun v d _=>RDk K H' v d) (motive_4:=fun v d _=>RDt K H' v d) .none .bool .int .str (fun h _ r=>.list (e.seq h) r) (fun h _ r=>.tuple (e _ _ h) r) (fun h _ r=>.dictK (e _ _ h) r) (fun h n _ r=>.dictT (e _ _ h) n r) (fun h n _ r=>.dictF (e _ _ h) n r) .nil (fun _ _ a b=>.cons a b) .nil (fun _ _ a b=>.cons a b) .nil (fun _ _ a b=>.cons a b) h
theorem RDt.same (e:dH H H') {v:List (List dv×V)}{d:List (D×D)} (h:RDt K H v d):RDt K H' v d:=RDt.rec (motive_1:=fun v d _=>RD K H' v d) (motive_2:=fun v d _=>RDs K H' v d) (motive_3:=fun v d _=>RDk K H' v d) (motive_4:=fun v d _=>RDt K H' v d) .none .bool .int .str (fun h _ r=>.list (e.seq h) r) (fun h _ r=>.tuple (e _ _ h) r) (fun h _ r=>.dictK (e _ _ h) r) (fun h n _ r=>.dictT (e _ _ h) n r) (fun h n _ r=>.dictF (e _ _ h) n r) .nil (fun _ _ a b=>.cons a b) .nil (fun _ _ a b=>.cons a b) .nil (fun _ _ a b=>.cons a b) h
mutual
def pZ:D->Bool
 | .dict _=>false
 | .list xs=>noDs xs
 | .tuple xs=>noDs xs
 | _=>true
def noDs:List D->Bool
 | []=>true
 | x::r=>pZ x && noDs r
end
theorem Uk {a b:Bool} (h:(a && b)=true):a=true:=(Bool.and_eq_true_iff.mp h).1
theorem Ul {a b:Bool} (h:(a && b)=true):b=true:=(Bool.and_eq_true_iff.mp h).2
theorem RD.rep {v:V}{d:D} (h:RD K H v d):pZ d=true->Gh K H v d:=RD.rec (motive_1:=fun v d _=>pZ d=true->Gh K H v d) (motive_2:=fun v d _=>noDs d=true->Reps K H v d) (motive_3:=fun _ _ _=>True) (motive_4:=fun _ _ _=>True) (fun _=>.none) (fun b _=>.bool b) (fun i _=>.int i) (fun x _=>.str x) (fun h _ r e=>.list h (r e)) (fun h _ r e=>.tuple (.of h) (r e)) (fun _ _ _ e=>xn e) (fun _ _ _ _ e=>xn e) (fun _ _ _ _ e=>xn e) (fun _=>.nil) (fun _ _ a b e=>.cons (a (Uk e)) (b (Ul e))) trivial (fun _ _ _ _=>trivial) trivial (fun _ _ _ _=>trivial) h
theorem RDs.length {vs:List V}:∀ {ds:List D},RDs K H vs ds->vs.length=ds.length:=by
 induction vs with
 | nil=>intro ds h;cases h;rfl
 | cons x r ih=>intro ds h;cases h with | cons a b=>exact congrArg (· + 1) (ih b)
theorem RDs.get {vs:List V}:∀ {ds:List D}{i:Nat}{v:V},RDs K H vs ds->vs[i]?=some v->∃ d,ds[i]?=some d/\RD K H v d:=by
 induction vs with
 | nil=>intro ds i v _ e;cases e
 | cons x r ih =>
  intro ds i v h e
  cases h with
  | cons a b =>
   cases i with
   | zero=>cases e;exact ⟨_,rfl,a⟩
   | succ i=>have q:=ih (i:=i) b e;exact q
theorem RDs.get' {vs:List V}:∀ {ds:List D}{i:Nat}{d:D},RDs K H vs ds->ds[i]?=some d->∃ v,vs[i]?=some v/\RD K H v d:=by
 induction vs with
 | nil=>intro ds i v h e;cases h;cases e
 | cons x r ih =>
  intro ds i v h e
  cases h with
  | cons a b =>
   cases i with
   | zero=>cases e;exact ⟨_,rfl,a⟩
   | succ i=>have q:=ih (i:=i) b e;exact q
theorem RDs.append {vs ws:List V}{es:List D}:∀ {ds:List D},RDs K H vs ds->RDs K H ws es->RDs K H (vs++ws) (ds++es):=by
 induction vs with
 | nil=>intro ds h s;cases h;exact s
 | cons x r ih=>intro ds h s;cases h with | cons a b=>exact .cons a (ih b s)
theorem RDs.drop {vs:List V}:∀ {ds:List D} (n:Nat),RDs K H vs ds->RDs K H (vs.drop n) (ds.drop n):=by
 induction vs with
 | nil=>intro ds n h;cases h;cases n<;>exact .nil
 | cons x r ih =>
  intro ds n h
  cases n with
  | zero=>exact h
  | succ n=>cases h with | cons a b=>exact ih n b
theorem RDs.take {vs:List V}:∀ {ds:List D} (n:Nat),RDs K H vs ds->RDs K H (vs.take n) (ds.take n):=by
 induction vs with
 | nil=>intro ds n h;cases h;cases n<;>exact .nil
 | cons x r ih =>
  intro ds n h
  cases n with
  | zero=>exact .nil
  | succ n=>cases h with | cons a b=>exact .cons a (ih n b)
theorem RDs.reverse {vs:List V}{ds:List D} (h:RDs K H vs ds):RDs K H vs.reverse ds.reverse:=by
 induction vs generalizing ds with
 | nil=>cases h;exact .nil
 | cons x r ih=>cases h with | cons a b=>rw [wp,wp];exact (ih b).append (.cons a .nil)
theorem xX:∀ (ss:List Str),RDs K H (ss.map V.str) (ss.map aW)
 | []=>.nil
 | x::r=>.cons (.str x) (xX r)
theorem RD.str_inv {v:V}{x:Str} (h:RD K H v (.str x)):v=.str x:=by cases h;rfl
theorem RD.bool_inv {v:V}{x:Bool} (h:RD K H v (.bool x)):v=.bl x:=by cases h;rfl
theorem RD.int_inv {v:V}{x:Int} (h:RD K H v (.int x)):v=.int x:=by cases h;rfl
theorem xr {α:Type}{c:α->D}{k:α->V} (hc:∀ {v x},RD K H v (c x)->v=k x) {ss:List α}:∀ {vs:List V},RDs K H vs (ss.map c)->vs=ss.map k:=by
 induction ss with
 | nil=>intro vs h;cases h;rfl
 | cons x r ih=>intro vs h;cases h with | cons a b=>rw [hc a,ih b];rfl
theorem oG {ss:List Str}{vs:List V}:RDs K H vs (ss.map aW)->vs=ss.map V.str:=xr RD.str_inv
theorem Aa {ss:List Bool}{vs:List V}:RDs K H vs (ss.map cZ)->vs=ss.map V.bl:=xr RD.bool_inv
theorem C0 {ss:List Int}{vs:List V}:RDs K H vs (ss.map cx)->vs=ss.map V.int:=xr RD.int_inv
end
def nt:HO->Bool
 | .tup _=>false
 | _=>true
structure cP (H Hs H' Hs':Hp):Prop where
 all:dH H H'
 sh:dH Hs Hs'
 sub:dH Hs' H'
 out:∀ a o,H a=some o->nt o=true->Hs a=none->Hs' a=none
theorem cP.refl {H Hs:Hp} (h:dH Hs H):cP H Hs H Hs:=⟨.refl _,.refl _,h,fun _ _ _ _ e=>e⟩
theorem cP.trans {H Hs H1 Hs1 H2 Hs2:Hp} (a:cP H Hs H1 Hs1) (b:cP H1 Hs1 H2 Hs2):cP H Hs H2 Hs2 :=
 ⟨a.all.trans b.all,a.sh.trans b.sh,b.sub,fun c o e t n=>b.out c o (a.all c o e) t (a.out c o e t n)⟩
theorem cP.new {H Hs:Hp}{p:aj}{o:HO} (h:dH Hs H) (n:H p=none):cP H Hs (upd H p o) (upd Hs p o):=by
 have n':Hs p=none:=h.free n
 refine ⟨lY n,lY n',fun b u e=>?_,fun a u e t z=>?_⟩
 ·by_cases hb:b=p
  ·subst hb;rw [bn] at e ⊢;exact e
  ·rw [bt hb] at e ⊢;exact h b u e
 ·rw [bt (bT e n)];exact z
theorem cP.mine {H Hs:Hp}{p:aj}{o:HO} (h:dH Hs H) (n:H p=none):cP H Hs (upd H p o) Hs:=by
 refine ⟨lY n,.refl _,fun b u e=>?_,fun a u e t z=>z⟩
 have e':=h b u e
 rw [bt (bT e' n)];exact e'
inductive mG (K:a8) (Hs:Hp):HO->D->Prop
 | lst {vs:List V}{ds:List D}:RDs K Hs vs ds->mG K Hs (.lst vs) (.list ds)
 | dK {kvs:List (dv×V)}{ds:List (D×D)}:RDk K Hs kvs ds->mG K Hs (.dK kvs) (.dict ds)
 | dT {kvs:List (List dv×V)}{ds:List (D×D)}:kvs≠[]->RDt K Hs kvs ds->mG K Hs (.dT kvs) (.dict ds)
 | dF {o:Obj}{kvs:List (List dv×V)}{ds:List (D×D)}:kvs≠[]->RDt K Hs kvs ds->mG K Hs (.frz o (.dT kvs)) (.dict ((.none,.none)::ds))
theorem mG.same {K:a8}{Hs Hs':Hp}{o:HO}{d:D} (e:dH Hs Hs') (h:mG K Hs o d):mG K Hs' o d:=by
 cases h with
 | lst r=>exact .lst (r.same e)
 | dK r=>exact .dK (r.same e)
 | dT n r=>exact .dT n (r.same e)
 | dF n r=>exact .dF n (r.same e)
theorem mG.nt {K:a8}{Hs:Hp}{o:HO}{d:D} (h:mG K Hs o d):J.nt o=true:=by cases h<;>rfl
theorem mG.share {K:a8}{Hs:Hp}{o:HO}{d:D}{a:aj} (n:Hs a=none) (h:mG K Hs o d):RD K (upd Hs a o) (.ref a) d:=by
 have e:dH Hs (upd Hs a o):=lY n
 cases h with
 | lst r=>exact .list (.of bn) (r.same e)
 | dK r=>exact .dictK bn (r.same e)
 | dT n r=>exact .dictT bn n (r.same e)
 | dF n r=>exact .dictF bn n (r.same e)
inductive Sl where
 | no
 | shr (d:D)
 | own (d:D)
 | lck (d:D)
 | ow2 (dss:List (List D))
abbrev aw:=List Sl
inductive AS (K:a8) (H Hs:Hp):List aj->List (List D)->Prop
 | nil:AS K H Hs [] []
 | cons {a:aj}{as:List aj}{vs:List V}{ds:List D}{dss:List (List D)}:H a=some (.lst vs)->RDs K Hs vs ds->AS K H Hs as dss->AS K H Hs (a::as) (ds::dss)
theorem AS.step {K:a8}{H Hs H' Hs':Hp} (e:dH H H') (e':dH Hs Hs') {as:List aj}{dss:List (List D)} (h:AS K H Hs as dss):AS K H' Hs' as dss:=by
 induction h with
 | nil=>exact .nil
 | cons h r t ih=>exact .cons (e _ _ h) (r.same e') ih
theorem AS.upd {K:a8}{H Hs:Hp}{b:aj}{o:HO}{as:List aj}{dss:List (List D)} (n:b∉as) (h:AS K H Hs as dss):AS K (upd H b o) Hs as dss:=by
 induction h with
 | nil=>exact .nil
 | cons h r t ih=>exact .cons (by rw [bt (fun z=>n (by rw [<- z];exact am))];exact h) r (ih fun z=>n (ak _ z))
theorem AS.there {K:a8}{H Hs:Hp}{b:aj}{as:List aj}{dss:List (List D)} (h:AS K H Hs as dss) (hb:b∈as):∃ o,H b=some o/\nt o=true:=by
 induction h with
 | nil=>cases hb
 | cons h r t ih =>
  rcases List.mem_cons.mp hb with e | hb
  ·exact ⟨_,e ▸ h,rfl⟩
  ·exact ih hb
structure O2 (K:a8) (H0 H Hs:Hp) (ρ:aw) (σ:St) (i:Nat) (dss:List (List D)) (a:aj) (as:List aj):Prop where
 at_:σ[i]?=some (some (V.ref a))
 ob:H a=some (.lst (as.map V.ref))
 nd:(a::as).Nodup
 out:∀ b∈a::as,Hs b=none/\H0 b=none
 dj:∀ b∈a::as,∀ (j:Nat) (e:D),ρ[j]?=some (Sl.own e)->σ[j]?≠some (some (V.ref b))
 inn:AS K H Hs as dss
structure Fr (K:a8) (H0 Hs0:Hp) (la:Nat->Option aj) (ρ:aw) (σ:St) (H Hs:Hp):Prop where
 st:cP H0 Hs0 H Hs
 len:ρ.length=σ.length
 sh:∀ (i:Nat) (d:D),ρ[i]?=some (Sl.shr d)->∃ v,σ[i]?=some (some v)/\RD K Hs v d
 ow:∀ (i:Nat) (d:D),ρ[i]?=some (Sl.own d)->∃ a o,σ[i]?=some (some (V.ref a))/\H a=some o/\Hs a=none/\H0 a=none/\mG K Hs o d
 lk:∀ (i:Nat) (d:D),ρ[i]?=some (Sl.lck d)->∃ a o,σ[i]?=some (some (V.ref a))/\la i=some a/\H a=some o/\Hs a=none/\H0 a=some o/\mG K Hs o d
 dj:∀ (i j:Nat) (d e:D) (a:aj),ρ[i]?=some (Sl.own d)->ρ[j]?=some (Sl.own e)->σ[i]?=some (some (V.ref a))->σ[j]?=some (some (V.ref a))->i=j
 lh:∀ (i:Nat) (a:aj),la i=some a->∃ o,H0 a=some o
 o2:∀ (i:Nat) (dss:List (List D)),ρ[i]?=some (Sl.ow2 dss)->∃ a as,O2 K H0 H Hs ρ σ i dss a as
 u2:∀ (i j:Nat) (d e:List (List D)),ρ[i]?=some (Sl.ow2 d)->ρ[j]?=some (Sl.ow2 e)->i=j
theorem Fr.step {K:a8}{H0 Hs0 H Hs H' Hs':Hp}{la:Nat->Option aj}{ρ:aw}{σ:St} (f:Fr K H0 Hs0 la ρ σ H Hs) (s:cP H Hs H' Hs'):Fr K H0 Hs0 la ρ σ H' Hs':=by
 refine ⟨f.st.trans s,f.len,fun i d e=>?_,fun i d e=>?_,fun i d e=>?_,f.dj,f.lh,fun i dss e=>?_,f.u2⟩
 ·obtain ⟨v,h1,h2⟩:=f.sh i d e
  exact ⟨v,h1,h2.same s.sh⟩
 ·obtain ⟨a,o,h1,h2,h3,h4,h5⟩:=f.ow i d e
  exact ⟨a,o,h1,s.all _ _ h2,s.out _ _ h2 h5.nt h3,h4,h5.same s.sh⟩
 ·obtain ⟨a,o,h1,h2,h3,h4,h5,h6⟩:=f.lk i d e
  exact ⟨a,o,h1,h2,s.all _ _ h3,s.out _ _ h3 h6.nt h4,h5,h6.same s.sh⟩
 ·obtain ⟨a,as,h⟩:=f.o2 i dss e
  refine ⟨a,as,h.at_,s.all _ _ h.ob,h.nd,fun b hb=>⟨?_,(h.out b hb).2⟩,h.dj,h.inn.step s.all s.sh⟩
  have there:∃ o,H b=some o/\nt o=true:=by
   rcases List.mem_cons.mp hb with rfl | hb
   ·exact ⟨_,h.ob,rfl⟩
   ·exact h.inn.there hb
  obtain ⟨o,ho,hn⟩:=there
  exact s.out b o ho hn (h.out b (by assumption)).1
inductive Um (K:a8) (H Hs:Hp) (v:V) (d:D):Prop
 | mk (a:aj) (o:HO) (h0:v=.ref a) (h1:H a=some o) (h2:Hs a=none) (h3:mG K Hs o d):Um K H Hs v d
def RB (K:a8) (H Hs:Hp) (v:V) (d:D):Prop:=RD K Hs v d\/Um K H Hs v d
theorem RB.step {K:a8}{H Hs H' Hs':Hp}{v:V}{d:D} (h:RB K H Hs v d) (s:cP H Hs H' Hs'):RB K H' Hs' v d:=by
 rcases h with h | ⟨a,o,h1,h2,h3,h4⟩
 ·exact .inl (h.same s.sh)
 ·exact .inr ⟨a,o,h1,s.all _ _ h2,s.out _ _ h2 h4.nt h3,h4.same s.sh⟩
theorem RB.full {K:a8}{H Hs:Hp}{v:V}{d:D} (sub:dH Hs H) (h:RB K H Hs v d):RD K H v d:=by
 rcases h with h | ⟨a,o,rfl,h2,h3,h4⟩
 ·exact h.same sub
 ·have e:dH (upd Hs a o) H:=fun b u q=>by
   by_cases hb:b=a
   ·subst hb;rw [bn] at q;cases q;exact h2
   ·rw [bt hb] at q;exact sub b u q
  exact (h4.share h3).same e
theorem RB.list {K:a8}{H Hs:Hp}{v:V}{ds:List D} (sub:dH Hs H) (h:RB K H Hs v (.list ds)):∃ a vs,v=.ref a/\lW K H a vs/\RDs K Hs vs ds:=by
 rcases h with h | ⟨a,o,rfl,h2,h3,h4⟩
 ·cases h with | list q r=>exact ⟨_,_,rfl,sub.seq q,r⟩
 ·cases h4 with | lst r=>exact ⟨a,_,rfl,.of h2,r⟩
theorem RB.tuple {K:a8}{H Hs:Hp}{v:V}{ds:List D} (sub:dH Hs H) (h:RB K H Hs v (.tuple ds)):∃ a vs,v=.ref a/\kK K H a vs/\RDs K Hs vs ds/\Hs a=some (.tup vs):=by
 rcases h with h | ⟨a,o,rfl,h2,h3,h4⟩
 ·cases h with | tuple q r=>exact ⟨_,_,rfl,.of (sub _ _ q),r,q⟩
 ·cases h4
theorem RB.str {K:a8}{H Hs:Hp}{v:V}{x:Str} (h:RB K H Hs v (.str x)):v=.str x:=by
 rcases h with h | ⟨a,o,rfl,h2,h3,h4⟩
 ·exact h.str_inv
 ·cases h4
theorem RB.int {K:a8}{H Hs:Hp}{v:V}{i:Int} (h:RB K H Hs v (.int i)):v=.int i:=by
 rcases h with h | ⟨a,o,rfl,h2,h3,h4⟩
 ·exact h.int_inv
 ·cases h4
theorem RB.non {K:a8}{H Hs:Hp}{v:V} (h:RB K H Hs v .none):v=.non:=by
 rcases h with h | ⟨a,o,rfl,h2,h3,h4⟩
 ·cases h;rfl
 ·cases h4
def XW (K:a8) (cls:Str->aj) (E:XK) (c:Str) (n:Option D) (H Hs:Hp):Prop:=match n with
 | none=>E (.ref (cls c)) none H
 | some d=>∀ dx v,H dx=some (.xd [("number",v)])->RD K Hs v d->E (.ref (cls c)) (some dx) H
def Fin {α:Type} (K:a8) (cls:Str->aj) (E:XK) (H Hs:Hp) (r:R α) (q:α->Prop):Prop:=match r with
 | .ok d=>q d
 | .ex c n=>∀ H' Hs',cP H Hs H' Hs'->XW K cls E c n H' Hs'
 | .no=>False
inductive X7 (K:a8) (cls:Str->aj) (E:XK) (ρ:aw) (r:R D) (σ:St) (H:Hp) (Q:VK):Prop
 | mk (H0 Hs0:Hp) (la:Nat->Option aj) (Hs:Hp) (f:Fr K H0 Hs0 la ρ σ H Hs) (q:Fin K cls E H Hs r fun d=>∀ v H' Hs',cP H Hs H' Hs'->RD K Hs' v d->Q v H'):X7 K cls E ρ r σ H Q
def TR (K:a8) (cls:Str->aj) (E:XK) (ρ:aw) (r:R D):TE:=X7 K cls E ρ r
inductive X8 (K:a8) (cls:Str->aj) (E:XK) (ρ:aw) (r:R D) (σ:St) (H:Hp) (Q:VK):Prop
 | mk (H0 Hs0:Hp) (la:Nat->Option aj) (Hs:Hp) (f:Fr K H0 Hs0 la ρ σ H Hs) (q:Fin K cls E H Hs r fun d=>∀ v H' Hs',cP H Hs H' Hs'->RB K H' Hs' v d->Q v H'):X8 K cls E ρ r σ H Q
def TB (K:a8) (cls:Str->aj) (E:XK) (ρ:aw) (r:R D):TE:=X8 K cls E ρ r
inductive Uo (K:a8) (cls:Str->aj) (E:XK) (ρ:aw) (r:R Bool) (σ:St) (H:Hp) (Q:Bool->Hp->Prop):Prop
 | mk (H0 Hs0:Hp) (la:Nat->Option aj) (Hs:Hp) (f:Fr K H0 Hs0 la ρ σ H Hs) (q:Fin K cls E H Hs r fun b=>∀ H' Hs',cP H Hs H' Hs'->Q b H'):Uo K cls E ρ r σ H Q
def JH (K:a8) (cls:Str->aj) (E:XK) (ρ:aw) (r:R Bool):TT:=Uo K cls E ρ r
inductive OB (K:a8) (H Hs:Hp):List V->List D->Prop
 | nil:OB K H Hs [] []
 | cons {x:V}{xs:List V}{d:D}{ds:List D}:RB K H Hs x d->OB K H Hs xs ds->OB K H Hs (x::xs) (d::ds)
inductive Up (K:a8) (cls:Str->aj) (E:XK) (ρ:aw) (r:R (List D)) (σ:St) (H:Hp) (Q:List V->Hp->Prop):Prop
 | mk (H0 Hs0:Hp) (la:Nat->Option aj) (Hs:Hp) (f:Fr K H0 Hs0 la ρ σ H Hs) (q:Fin K cls E H Hs r fun d=>∀ v H' Hs',cP H Hs H' Hs'->RDs K Hs' v d->Q v H'):Up K cls E ρ r σ H Q
def Wx (K:a8) (cls:Str->aj) (E:XK) (ρ:aw) (r:R (List D)):TA:=Up K cls E ρ r
inductive Uq (K:a8) (cls:Str->aj) (E:XK) (ρ:aw) (r:R (List D)) (σ:St) (H:Hp) (Q:List V->Hp->Prop):Prop
 | mk (H0 Hs0:Hp) (la:Nat->Option aj) (Hs:Hp) (f:Fr K H0 Hs0 la ρ σ H Hs) (q:Fin K cls E H Hs r fun d=>∀ v H' Hs',cP H Hs H' Hs'->OB K H' Hs' v d->Q v H'):Uq K cls E ρ r σ H Q
def VH (K:a8) (cls:Str->aj) (E:XK) (ρ:aw) (r:R (List D)):TA:=Uq K cls E ρ r
structure C where
 X:Cx
 cls:Str->aj
 E:XK
structure JE (c:C) (e:aX) (g:aw->R D):Prop where of ::
 run:∀ ρ,PE c.X e (TR c.X.K c.cls c.E ρ (g ρ))
instance {c:C}{e:aX}{g:aw->R D}:CoeFun (JE c e g) (fun _=>∀ ρ,PE c.X e (TR c.X.K c.cls c.E ρ (g ρ))):=⟨JE.run⟩
structure JB (c:C) (e:aX) (g:aw->R D):Prop where of ::
 run:∀ ρ,PE c.X e (TB c.X.K c.cls c.E ρ (g ρ))
instance {c:C}{e:aX}{g:aw->R D}:CoeFun (JB c e g) (fun _=>∀ ρ,PE c.X e (TB c.X.K c.cls c.E ρ (g ρ))):=⟨JB.run⟩
structure JT (c:C) (e:aX) (g:aw->R Bool):Prop where of ::
 run:∀ ρ,PT c.X e (JH c.X.K c.cls c.E ρ (g ρ))
instance {c:C}{e:aX}{g:aw->R Bool}:CoeFun (JT c e g) (fun _=>∀ ρ,PT c.X e (JH c.X.K c.cls c.E ρ (g ρ))):=⟨JT.run⟩
structure JW (c:C) (e:aX) (g:aw->R Bool):Prop where of ::
 run:∀ ρ,PW c.X e (JH c.X.K c.cls c.E ρ (g ρ))
instance {c:C}{e:aX}{g:aw->R Bool}:CoeFun (JW c e g) (fun _=>∀ ρ,PW c.X e (JH c.X.K c.cls c.E ρ (g ρ))):=⟨JW.run⟩
structure FD (c:C) (es:List aX) (g:aw->R (List D)):Prop where of ::
 run:∀ ρ,PA c.X es (Wx c.X.K c.cls c.E ρ (g ρ))
instance {c:C}{es:List aX}{g:aw->R (List D)}:CoeFun (FD c es g) (fun _=>∀ ρ,PA c.X es (Wx c.X.K c.cls c.E ρ (g ρ))):=⟨FD.run⟩
structure Px (c:C) (es:List aX) (g:aw->R (List D)):Prop where of ::
 run:∀ ρ,PA c.X es (VH c.X.K c.cls c.E ρ (g ρ))
instance {c:C}{es:List aX}{g:aw->R (List D)}:CoeFun (Px c es g) (fun _=>∀ ρ,PA c.X es (VH c.X.K c.cls c.E ρ (g ρ))):=⟨Px.run⟩
section
variable {c:C}{e a b:aX}{g ga gb:aw->R D}{pos:Pos}
theorem rX {X:Cx}{e:aX}{t t':TE} (h:PE X e t) (m:∀ σ H Q,t' σ H Q->t σ H Q):PE X e t':=fun pins s σ H Q I q=>h pins s σ H Q I (m σ H Q q)
theorem Ur {X:Cx}{e:aX}{t t':TT} (h:PT X e t) (m:∀ σ H Q,t' σ H Q->t σ H Q):PT X e t':=fun pins s σ H Q I q=>h pins s σ H Q I (m σ H Q q)
theorem X9 {X:Cx}{e:aX}{t t':TT} (h:PW X e t) (m:∀ σ H Q,t' σ H Q->t σ H Q):PW X e t':=fun wh pins s σ H Q I q=>h wh pins s σ H Q I (m σ H Q q)
theorem VI {X:Cx}{e:List aX}{t t':TA} (h:PA X e t) (m:∀ σ H Q,t' σ H Q->t σ H Q):PA X e t':=fun pos pins s σ H Q I q=>h pos pins s σ H Q I (m σ H Q q)
theorem Ab {X:Cx}{e:cA}{t t':TS} (h:PS X e t) (m:∀ D σ H,t' D σ H->t D σ H):PS X e t':=fun pins s σ H Q I q=>h pins s σ H Q I (m Q σ H q)
theorem Wz {X:Cx}{e:List cA}{t t':TS} (h:Hu X e t) (m:∀ D σ H,t' D σ H->t D σ H):Hu X e t':=fun pins s σ H Q I q=>h pins s σ H Q I (m Q σ H q)
theorem JE.bor (h:JE c e g):JB c e g:=.of fun ρ=>rX (h ρ) fun σ H Q ⟨H0,Hs0,la,Hs,f,q⟩=>⟨H0,Hs0,la,Hs,f,by
 cases hr:g ρ with
 | ok d=>rw [hr] at q;exact fun v H' Hs' s r=>q v H' Hs' s (.inl r)
 | ex c n=>rw [hr] at q;exact q
 | no=>rw [hr] at q;exact q⟩
theorem one {K:a8}{cls:Str->aj}{E:XK}{ρ:aw}{r:R D}{β:Type}{k:D->R β}{σ:St}{H:Hp}{H0 Hs0 Hs:Hp}{la:Nat->Option aj}{Q:V->Hp->Prop}{q:β->Prop} (f:Fr K H0 Hs0 la ρ σ H Hs)
  (h:Fin K cls E H Hs (r.bind k) q) (m:∀ d v H' Hs',r=.ok d->cP H Hs H' Hs'->Fr K H0 Hs0 la ρ σ H' Hs'->RB K H' Hs' v d->Q v H'):TB K cls E ρ r σ H Q:=by
 refine ⟨H0,Hs0,la,Hs,f,?_⟩
 cases r with
 | ok d=>exact fun v H' Hs' s r=>m d v H' Hs' rfl s (f.step s) r
 | ex c n=>exact h
 | no=>exact h
theorem Ac {K:a8}{cls:Str->aj}{E:XK}{ρ:aw}{r:R D}{β:Type}{k:D->R β}{σ:St}{H:Hp}{H0 Hs0 Hs:Hp}{la:Nat->Option aj}{Q:V->Hp->Prop}{q:β->Prop} (f:Fr K H0 Hs0 la ρ σ H Hs)
  (h:Fin K cls E H Hs (r.bind k) q) (m:∀ d v H' Hs',r=.ok d->cP H Hs H' Hs'->Fr K H0 Hs0 la ρ σ H' Hs'->RD K Hs' v d->Q v H'):TR K cls E ρ r σ H Q:=by
 refine ⟨H0,Hs0,la,Hs,f,?_⟩
 cases r with
 | ok d=>exact fun v H' Hs' s r=>m d v H' Hs' rfl s (f.step s) r
 | ex c n=>exact h
 | no=>exact h
theorem JJ {K:a8}{cls:Str->aj}{E:XK}{ρ:aw}{r:R Bool}{β:Type}{k:Bool->R β}{σ:St}{H:Hp}{H0 Hs0 Hs:Hp}{la:Nat->Option aj}{Q:Bool->Hp->Prop}{q:β->Prop} (f:Fr K H0 Hs0 la ρ σ H Hs)
  (h:Fin K cls E H Hs (r.bind k) q) (m:∀ d H' Hs',r=.ok d->cP H Hs H' Hs'->Fr K H0 Hs0 la ρ σ H' Hs'->Q d H'):JH K cls E ρ r σ H Q:=by
 refine ⟨H0,Hs0,la,Hs,f,?_⟩
 cases r with
 | ok d=>exact fun H' Hs' s=>m d H' Hs' rfl s (f.step s)
 | ex c n=>exact h
 | no=>exact h
theorem C1 {K:a8}{cls:Str->aj}{E:XK}{ρ:aw}{r:R (List D)}{β:Type}{k:List D->R β}{σ:St}{H:Hp}{H0 Hs0 Hs:Hp}{la:Nat->Option aj}{Q:List V->Hp->Prop}{q:β->Prop} (f:Fr K H0 Hs0 la ρ σ H Hs)
  (h:Fin K cls E H Hs (r.bind k) q) (m:∀ d v H' Hs',r=.ok d->cP H Hs H' Hs'->Fr K H0 Hs0 la ρ σ H' Hs'->RDs K Hs' v d->Q v H'):Wx K cls E ρ r σ H Q:=by
 refine ⟨H0,Hs0,la,Hs,f,?_⟩
 cases r with
 | ok d=>exact fun v H' Hs' s r=>m d v H' Hs' rfl s (f.step s) r
 | ex c n=>exact h
 | no=>exact h
theorem HE {K:a8}{cls:Str->aj}{E:XK}{ρ:aw}{r:R (List D)}{β:Type}{k:List D->R β}{σ:St}{H:Hp}{H0 Hs0 Hs:Hp}{la:Nat->Option aj}{Q:List V->Hp->Prop}{q:β->Prop} (f:Fr K H0 Hs0 la ρ σ H Hs)
  (h:Fin K cls E H Hs (r.bind k) q) (m:∀ d v H' Hs',r=.ok d->cP H Hs H' Hs'->Fr K H0 Hs0 la ρ σ H' Hs'->OB K H' Hs' v d->Q v H'):VH K cls E ρ r σ H Q:=by
 refine ⟨H0,Hs0,la,Hs,f,?_⟩
 cases r with
 | ok d=>exact fun v H' Hs' s r=>m d v H' Hs' rfl s (f.step s) r
 | ex c n=>exact h
 | no=>exact h
theorem Fin.on {α:Type}{K:a8}{cls:Str->aj}{E:XK}{H Hs H' Hs':Hp}{r:R α}{q q':α->Prop} (h:Fin K cls E H Hs r q) (s:cP H Hs H' Hs') (m:∀ a,q a->q' a):Fin K cls E H' Hs' r q':=by
 cases r with
 | ok a=>exact m a h
 | ex c n=>exact fun H2 Hs2 s2=>h H2 Hs2 (s.trans s2)
 | no=>exact h
end
end
section
def FE (ρ:aw) (i:Nat):R D:=match ρ[i]? with
 | some (Sl.shr d)=>.ok d
 | _=>.no
def FF (ρ:aw) (i:Nat):R D:=match ρ[i]? with
 | some (Sl.shr d)=>.ok d
 | some (Sl.own d)=>.ok d
 | some (Sl.lck d)=>.ok d
 | _=>.no
section
variable {c:C}{e a b:aX}{g ga gb:aw->R D}{pos:Pos}
theorem ah (i:Nat) {x:Str} (hN:c.X.N[i]?=some x:=by rfl) (hv:O_ c.X.env.scope x:=by first | exact iP rfl | exact fv (iP rfl) | exact fv (fv rfl)) (hd:(x == ("__debug__" : Str))=false:=by decide)
  (hcd:(x == ("__classdict__" : Str))=false:=by decide):JE c (.Name x pos) (fun ρ=>FE ρ i):=.of fun ρ=>rX (sv hN hv hd hcd) fun σ H Q h_0=>by
 obtain ⟨H0,Hs0,la,Hs,f,q⟩:=h_0
 cases hr:ρ[i]? with
 | none=>simp only [FE,hr] at q;exact q.elim
 | some s =>
  cases s with
  | shr d =>
   obtain ⟨v,h1,h2⟩:=f.sh i d hr
   simp only [FE,hr] at q
   exact ⟨v,h1,q v H Hs (.refl f.st.sub) h2⟩
  | no=>simp only [FE,hr] at q;exact q.elim
  | own d=>simp only [FE,hr] at q;exact q.elim
  | lck d=>simp only [FE,hr] at q;exact q.elim
  | ow2 d=>simp only [FE,hr] at q;exact q.elim
theorem ai (i:Nat) {x:Str} (hN:c.X.N[i]?=some x:=by rfl) (hv:O_ c.X.env.scope x:=by first | exact iP rfl | exact fv (iP rfl) | exact fv (fv rfl)) (hd:(x == ("__debug__" : Str))=false:=by decide)
  (hcd:(x == ("__classdict__" : Str))=false:=by decide):JB c (.Name x pos) (fun ρ=>FF ρ i):=.of fun ρ=>rX (sv hN hv hd hcd) fun σ H Q h_1=>by
 obtain ⟨H0,Hs0,la,Hs,f,q⟩:=h_1
 cases hr:ρ[i]? with
 | none=>simp only [FF,hr] at q;exact q.elim
 | some s =>
  cases s with
  | shr d =>
   obtain ⟨v,h1,h2⟩:=f.sh i d hr
   simp only [FF,hr] at q
   exact ⟨v,h1,q v H Hs (.refl f.st.sub) (.inl h2)⟩
  | no=>simp only [FF,hr] at q;exact q.elim
  | own d =>
   obtain ⟨a,o,h1,h2,h3,h4,h5⟩:=f.ow i d hr
   simp only [FF,hr] at q
   exact ⟨_,h1,q _ H Hs (.refl f.st.sub) (.inr ⟨a,o,rfl,h2,h3,h5⟩)⟩
  | lck d =>
   obtain ⟨a,o,h1,h2,h3,h4,h5,h6⟩:=f.lk i d hr
   simp only [FF,hr] at q
   exact ⟨_,h1,q _ H Hs (.refl f.st.sub) (.inr ⟨a,o,rfl,h3,h4,h6⟩)⟩
  | ow2 d=>simp only [FF,hr] at q;exact q.elim
theorem ql {v:V}{d:D} (h:PE c.X e (tC v)) (r:∀ Hs,RD c.X.K Hs v d):JE c e (fun _=>.ok d):=.of fun ρ=>rX h fun σ H Q h_2=>by obtain ⟨H0,Hs0,la,Hs,f,q⟩:=h_2;exact q v H Hs (.refl f.st.sub) (r Hs)
theorem aE {i:Int}{j:Nat}:JE c (.Constant (.int i) j pos) (fun _=>.ok (.int i)):=ql RT fun _=>.int i
theorem mR {i:Bool}{j:Nat}:JE c (.Constant (.bool i) j pos) (fun _=>.ok (.bool i)):=ql TF fun _=>.bool i
theorem gf {j:Nat}:JE c (.Constant .none j pos) (fun _=>.ok .none):=ql RU fun _=>.none
theorem sD {i:Str}{j:Nat}:JE c (.Constant (.str i) j pos) (fun _=>.ok (.str i)):=ql RV fun _=>.str i
theorem qm {x:Str}{i:Int} (hg:Gl c.X x) (hm:∃ t,c.X.mg x=some (.int i t)) (hd:(x == ("__debug__" : Str))=false:=by decide):JE c (.Name x pos) (fun _=>.ok (.int i)):=by
 obtain ⟨t,hm⟩:=hm
 exact ql (P0 hg hm (v:=.int i) ⟨t,rfl⟩ hd) fun _=>.int i
inductive Xa (K:a8) (h:D->D->R D) (x:V) (y:V) (H:Hp) (Q:VK):Prop
 | mk (Hs dx dy:_) (h0:dH Hs H) (h1:RB K H Hs x dx) (h2:RB K H Hs y dy) (h3:∃ d,h dx dy=.ok d/\∀ v H' Hs',cP H Hs H' Hs'->RD K Hs' v d->Q v H'):Xa K h x y H Q
def rD (K:a8) (h:D->D->R D):R2:=Xa K h
def wz (X:Cx) (f:ac->ac->Sem ac) (h:D->D->R D):Prop:=oB X f (rD X.K h)/\∀ x y c n,h x y≠.ex c n
def g2 (ga gb:aw->R D) (h:D->D->R D):aw->R D:=fun ρ=>(ga ρ).bind fun x=>(gb ρ).bind fun y=>h x y
theorem two {K:a8}{cls:Str->aj}{E:XK}{h:D->D->R D}{ρ:aw}{σ:St}{H:Hp}{Q:VK} (hx:∀ x y c n,h x y≠.ex c n) (q:TR K cls E ρ (g2 ga gb h ρ) σ H Q):TX (rD K h) (TB K cls E ρ (ga ρ)) (TB K cls E ρ (gb ρ)) σ H Q:=by
 obtain ⟨H0,Hs0,la,Hs,f,q⟩:=q
 refine one f q fun x v H1 Hs1 e1 s1 f1 r1=>?_
 unfold g2 at q
 rw [e1,bind_ok] at q
 refine one f1 (q.on s1 (q':=fun _=>True) fun _ _=>trivial) fun y u H2 Hs2 e2 s2 f2 r2=>?_
 rw [e2,bind_ok] at q
 cases hr:h x y with
 | ok d =>
  rw [hr] at q
  exact ⟨Hs2,x,y,f2.st.sub,r1.step s2,r2,d,hr,fun w H3 Hs3 s3 r3=>q w H3 Hs3 (s1.trans (s2.trans s3)) r3⟩
 | ex c n=>exact (hx x y c n hr).elim
 | no=>rw [hr] at q;exact q.elim
theorem bR {op:Operator}{h:D->D->R D} (ho:wz c.X (eP op) h) (ha:JB c a ga) (hb:JB c b gb):JE c (.BinOp a op b pos) (g2 ga gb h):=.of fun ρ=>rX (QJ ho.1 (ha ρ) (hb ρ)) fun σ H Q q=>two ho.2 q
theorem nC {op:xh}{h:D->D->R D} (ho:wz c.X (bI op) h) (ha:JB c a ga) (hb:JB c b gb) (hm:gF op b=false:=by first | exact Lv _ | rfl):JE c (.Compare a [op] [b] pos) (g2 ga gb h):=.of fun ρ=>rX (P8 ho.1 (ha ρ) (hb ρ) hm) fun σ H Q q=>two ho.2 q
def dP (g:aw->R D):aw->R Bool:=fun ρ=>(g ρ).bind fun d=>match d with
 | .bool b=>.ok b
 | _=>.no
theorem Us {K:a8}{cls:Str->aj}{E:XK}{ρ:aw}{σ:St}{H:Hp}{Q:Bool->Hp->Prop} (q:JH K cls E ρ (dP g ρ) σ H Q):TR K cls E ρ (g ρ) σ H fun x H'=>∃ k,x=.bl k/\Q k H':=by
 obtain ⟨H0,Hs0,la,Hs,f,q⟩:=q
 refine Ac f q fun d v H1 Hs1 e1 s1 f1 r1=>?_
 unfold dP at q
 rw [e1,bind_ok] at q
 cases r1 with
 | bool b=>exact ⟨b,rfl,q H1 Hs1 s1⟩
 | _=>exact q.elim
theorem cD {op:xh}{h:D->D->R D} (ho:wz c.X (bI op) h) (ha:JB c a ga) (hb:JB c b gb) (hm:gF op b=false:=by first | exact Lv _ | rfl):JT c (.Compare a [op] [b] pos) (dP (g2 ga gb h)):=.of fun ρ=>Ur (P9 ho.1 (ha ρ) (hb ρ) hm) fun σ H Q q=>two ho.2 (Us q)
theorem dR (h:JE c e g) (he:∀ whole,v8 e c.X.env whole=(do let v <- whole;wk e.pos;L4 [v] (truthy v)):=by intro _;rfl):JT c e (dP g):=.of fun ρ=>Ur (RW (h ρ) he) fun σ H Q q=>Us q
def iJ (g:aw->R Bool):aw->R Bool:=fun ρ=>(g ρ).bind fun b=>.ok (!b)
def vz (g h:aw->R Bool):aw->R Bool:=fun ρ=>(g ρ).bind fun b=>if b then h ρ else .ok false
def zL (g h:aw->R Bool):aw->R Bool:=fun ρ=>(g ρ).bind fun b=>if b then .ok true else h ρ
variable {gt gu:aw->R Bool}{c7:List aX}
theorem eA (h:JT c e gt):JT c (.UnaryOp .Not e pos) (iJ gt):=.of fun ρ=>Ur (RZ (h ρ)) fun σ H Q q=>by
 obtain ⟨H0,Hs0,la,Hs,f,q⟩:=q
 refine JJ f q fun d H1 Hs1 e1 s1 f1=>?_
 unfold iJ at q
 rw [e1,bind_ok] at q
 exact q H1 Hs1 s1
theorem qT (h:JT c a gt):JW c (.BoolOp .And [a] pos) gt:=.of fun ρ=>P2 (h ρ)
theorem jw (h:JT c a gt):JW c (.BoolOp .Or [a] pos) gt:=.of fun ρ=>RX (h ρ)
theorem vA (h:JT c a gt) (h2:JW c (.BoolOp .And (b::c7) pos) gu):JW c (.BoolOp .And (a::b::c7) pos) (vz gt gu):=.of fun ρ=>X9 (RY (h ρ) (h2 ρ)) fun σ H Q q=>by
 obtain ⟨H0,Hs0,la,Hs,f,q⟩:=q
 refine JJ f q fun d H1 Hs1 e1 s1 f1=>?_
 unfold vz at q
 rw [e1,bind_ok] at q
 cases d with
 | true=>exact BM ⟨H0,Hs0,la,Hs1,f1,q.on s1 fun b k H2 Hs2 s2=>k H2 Hs2 (s1.trans s2)⟩
 | false=>exact BL (q H1 Hs1 s1)
theorem lZ (h:JT c a gt) (h2:JW c (.BoolOp .Or (b::c7) pos) gu):JW c (.BoolOp .Or (a::b::c7) pos) (zL gt gu):=.of fun ρ=>X9 (TH (h ρ) (h2 ρ)) fun σ H Q q=>by
 obtain ⟨H0,Hs0,la,Hs,f,q⟩:=q
 refine JJ f q fun d H1 Hs1 e1 s1 f1=>?_
 unfold zL at q
 rw [e1,bind_ok] at q
 cases d with
 | false=>exact BL ⟨H0,Hs0,la,Hs1,f1,q.on s1 fun b k H2 Hs2 s2=>k H2 Hs2 (s1.trans s2)⟩
 | true=>exact BM (q H1 Hs1 s1)
theorem JW.t (h:JW c e gt):JT c e gt:=.of fun ρ=>(h ρ).pt
def DK (g:aw->R D):aw->R D:=fun ρ=>(dP g ρ).bind fun b=>.ok (.bool (!b))
theorem M8 (h:JE c e g):JE c (.UnaryOp .Not e pos) (DK g):=.of fun ρ=>rX (S1 (h ρ)) fun σ H Q q=>by
 refine Us ?_
 obtain ⟨H0,Hs0,la,Hs,f,q⟩:=q
 refine JJ f q fun d H1 Hs1 e1 s1 f1=>?_
 unfold DK at q
 rw [e1,bind_ok] at q
 exact q _ H1 Hs1 s1 (.bool _)
def rY (g h:aw->R D):aw->R D:=fun ρ=>(dP g ρ).bind fun b=>if b then h ρ else .ok (.bool false)
theorem vB {op:BoolOp} (h:JE c a g):JE c (.BoolOp op [a] pos) g:=.of fun ρ=>R_ (h ρ)
theorem sF (h:JE c a ga) (h2:JE c (.BoolOp .And (b::c7) pos) gb):JE c (.BoolOp .And (a::b::c7) pos) (rY ga gb):=.of fun ρ=>rX (S0 (h ρ) (h2 ρ)) fun σ H Q q=>by
 refine Us ?_
 obtain ⟨H0,Hs0,la,Hs,f,q⟩:=q
 refine JJ f q fun d H1 Hs1 e1 s1 f1=>?_
 unfold rY at q
 rw [e1,bind_ok] at q
 cases d with
 | true=>exact BM ⟨H0,Hs0,la,Hs1,f1,q.on s1 fun b k v H2 Hs2 s2 r2=>k v H2 Hs2 (s1.trans s2) r2⟩
 | false=>exact BL (q _ H1 Hs1 s1 (.bool _))
def Tx (t:aw->R Bool) (g h:aw->R D):aw->R D:=fun ρ=>(t ρ).bind fun b=>if b then g ρ else h ρ
theorem Ut {t:aX} (ht:JT c t gt) (ha:JE c a ga) (hb:JE c b gb):JE c (.IfExp t a b pos) (Tx gt ga gb):=.of fun ρ=>rX (Lm (ht ρ) (ha ρ) (hb ρ)) fun σ H Q q=>by
 obtain ⟨H0,Hs0,la,Hs,f,q⟩:=q
 refine JJ f q fun d H1 Hs1 e1 s1 f1=>?_
 unfold Tx at q
 rw [e1,bind_ok] at q
 cases d with
 | true=>exact BM ⟨H0,Hs0,la,Hs1,f1,q.on s1 fun b k v H2 Hs2 s2 r2=>k v H2 Hs2 (s1.trans s2) r2⟩
 | false=>exact BL ⟨H0,Hs0,la,Hs1,f1,q.on s1 fun b k v H2 Hs2 s2 r2=>k v H2 Hs2 (s1.trans s2) r2⟩
def qo (ga gb gc:aw->R D) (h h':D->D->R D):aw->R D:=fun ρ=>(ga ρ).bind fun x=>(gb ρ).bind fun y=>(h x y).bind fun z=>match z with
 | .bool true=>(gc ρ).bind fun w=>h' y w
 | .bool false=>.ok (.bool false)
 | _=>.no
variable {es:List aX}{gs:aw->R (List D)}
def a9 (g:aw->R D) (gs:aw->R (List D)):aw->R (List D):=fun ρ=>(g ρ).bind fun d=>(gs ρ).bind fun ds=>.ok (d::ds)
def ay:aw->R (List D):=fun _=>.ok []
theorem az:FD c [] ay:=.of fun ρ=>VI jW fun σ H Q h_3=>by obtain ⟨H0,Hs0,la,Hs,f,q⟩:=h_3;exact q [] H Hs (.refl f.st.sub) .nil
theorem bK:Px c [] ay:=.of fun ρ=>VI jW fun σ H Q h_4=>by obtain ⟨H0,Hs0,la,Hs,f,q⟩:=h_4;exact q [] H Hs (.refl f.st.sub) .nil
theorem aa (h:JE c e g) (hr:FD c es gs) (hs:aI (e::es) c.X.env=(false,dE e c.X.env)::aI es c.X.env:=by rfl):FD c (e::es) (a9 g gs):=.of fun ρ=>VI (ip (h ρ) (hr ρ) hs) fun σ H Q h_5=>by
 obtain ⟨H0,Hs0,la,Hs,f,q⟩:=h_5
 refine Ac f q fun d v H1 Hs1 e1 s1 f1 r1=>?_
 unfold a9 at q
 rw [e1,bind_ok] at q
 refine C1 f1 (q.on s1 (q':=fun _=>True) fun _ _=>trivial) fun ds vs H2 Hs2 e2 s2 f2 r2=>?_
 rw [e2,bind_ok] at q
 exact q _ H2 Hs2 (s1.trans s2) (.cons (r1.same s2.sh) r2)
theorem bh (h:JB c e g) (hr:Px c es gs) (hs:aI (e::es) c.X.env=(false,dE e c.X.env)::aI es c.X.env:=by rfl):Px c (e::es) (a9 g gs):=.of fun ρ=>VI (ip (h ρ) (hr ρ) hs) fun σ H Q h_6=>by
 obtain ⟨H0,Hs0,la,Hs,f,q⟩:=h_6
 refine one f q fun d v H1 Hs1 e1 s1 f1 r1=>?_
 unfold a9 at q
 rw [e1,bind_ok] at q
 refine HE f1 (q.on s1 (q':=fun _=>True) fun _ _=>trivial) fun ds vs H2 Hs2 e2 s2 f2 r2=>?_
 rw [e2,bind_ok] at q
 exact q _ H2 Hs2 (s1.trans s2) (.cons (r1.step s2) r2)
def dS (gs:aw->R (List D)) (k:List D->D):aw->R D:=fun ρ=>(gs ρ).bind fun ds=>if ds.length<=1000 then .ok (k ds) else .no
theorem l8 {x1} (h:FD c es gs):JE c (.Tuple es x1 pos) (dS gs .tuple):=.of fun ρ=>rX (Sm (h ρ)) fun σ H Q h_7=>by
 obtain ⟨H0,Hs0,la,Hs,f,q⟩:=h_7
 refine C1 f q fun ds vs H1 Hs1 e1 s1 f1 r1=>?_
 unfold dS at q
 rw [e1,bind_ok] at q
 by_cases hl:ds.length<=1000
 ·rw [if_pos hl] at q
  refine ⟨cr (dN (by rw [r1.length];exact hl)),fun p hp=>q _ _ _ (s1.trans (.new f1.st.sub hp)) (.tuple bn (r1.same (cP.new f1.st.sub hp).sh))⟩
 ·rw [if_neg hl] at q;exact q.elim
theorem jX (h:FD c es gs):JE c (.List es pos) (dS gs .list):=.of fun ρ=>rX (sw (h ρ)) fun σ H Q h_8=>by
 obtain ⟨H0,Hs0,la,Hs,f,q⟩:=h_8
 refine C1 f q fun ds vs H1 Hs1 e1 s1 f1 r1=>?_
 unfold dS at q
 rw [e1,bind_ok] at q
 by_cases hl:ds.length<=1000
 ·rw [if_pos hl] at q
  refine ⟨cr (dN (by rw [r1.length];exact hl)),fun p hp=>q _ _ _ (s1.trans (.new f1.st.sub hp)) (.list (.of bn) (r1.same (cP.new f1.st.sub hp).sh))⟩
 ·rw [if_neg hl] at q;exact q.elim
end
end
end J
namespace J
open PySem PySem.Spec PyProof.Rows L2
section
section
variable {X:Cx}
def dB:D->D->R D
 | .int i,.int j=>.ok (.int (i + j))
 | .str x,.str y=>if x.length + y.length<=1000 then .ok (.str (x++y)) else .no
 | .tuple xs,.tuple ys=>if xs.length + ys.length<=1000 then .ok (.tuple (xs++ys)) else .no
 | .list xs,.list ys=>if xs.length + ys.length<=1000 then .ok (.list (xs++ys)) else .no
 | _,_=>.no
inductive M9 (K:a8) (x:V) (y:V) (H:Hp) (Q:VK):Prop
 | mk (l b xs zs:_) (h0:x=.ref l) (h1:y=.ref b) (h2:lW K H l xs) (h3:lW K H b zs) (h4:xs.length + zs.length<=sizeLine) (h5:∀ p,H p=none->Q (.ref p) (upd H p (.lst (xs++zs)))):M9 K x y H Q
def Uu (K:a8):R2:=M9 K
theorem Py:oB X (eP .Add) (Uu X.K):=by
 intro pins s σ H x y v u Q I rx ry h
 obtain ⟨l,b,xs,zs,rfl,rfl,h1,h2,hz,q⟩:=h
 cases rx;cases ry
 obtain ⟨its,r,⟨o,n,e,c1,c2,c3⟩,z⟩:=I.list h1
 obtain ⟨its2,r2,⟨o2,n2,e2,d1,d2,d3⟩,z2⟩:=I.list h2
 obtain ⟨k1,k2,k3,k4⟩:=o
 obtain ⟨m1,m2,m3,m4⟩:=o2
 simp only at c1 c2 c3 d1 d2 d3
 subst c1 c2 c3 d1 d2 d3
 refine zP ⟨_,e,rfl⟩ ⟨_,e2,rfl⟩ noFill_list_add seq_list_add PySem.F.slot_list_add PySem.F.entry_list_add (PySem.F.args_list_add_2 _ _) (PyProof.Rows.list_addW l b _ _ n n2 _ _ k4 m4 (by rw [aP,aP,<- r.length,<- r2.length];exact hz)) ⟨e,e2,?_⟩
 have ea:its.toArray++its2.toArray=(its++its2).toArray:=by simp
 rw [ea]
 exact ⟨.ref _,_,I.lnew (t':=s.toks) (r.append r2) (by rw [aG];omega),rfl,q _ I.fresh⟩
inductive Ma (K:a8) (x:V) (y:V) (H:Hp) (Q:VK):Prop
 | mk (a b ys:_) (h0:x=.ref a) (h1:y=.ref b) (h2:kK K H a []) (h3:kK K H b ys) (h4:Q (.ref b) H):Ma K x y H Q
def Uv (K:a8):R2:=Ma K
theorem Pz:oB X (eP .Add) (Uv X.K):=by
 intro pins s σ H x y v u Q I rx ry h
 obtain ⟨a,b,ys,rfl,rfl,h1,h2,q⟩:=h
 cases rx;cases ry
 obtain ⟨its,r,⟨⟨k1,k2,k3,k4⟩,e,c1,n,c3⟩,z⟩:=I.tuple h1
 obtain ⟨its2,r2,⟨⟨m1,m2,m3,m4⟩,e2,d1,n2,d3⟩,z2⟩:=I.tuple h2
 simp only at c1 c3 d1 d3
 subst c1 c3 d1 d3
 cases r
 exact zP ⟨_,e,rfl⟩ ⟨_,e2,rfl⟩ Bx J5 oy nP (nw _ _)
  (PyProof.Rows.tuple_addW0 a b _ _ n n2 _ _ k4 m4 rfl) ⟨e,e2,⟨.ref b,H,I,rfl,q⟩⟩
theorem cG:wz X (eP .Add) dB:=by
 refine ⟨fun pins s σ H x y v u Q I rv ru ⟨Hs,dx,dy,sub,rx,ry,d,hd,q⟩=>?_,fun x y c n=>?_⟩
 ·unfold dB at hd
  split at hd
  ·cases hd
   exact Sc pins s σ H x y v u Q I rv ru ⟨_,_,rx.int,ry.int,q _ H Hs (.refl sub) (.int _)⟩
  ·split at hd
   ·rename_i hz
    cases hd
    exact G7 pins s σ H x y v u Q I rv ru ⟨_,_,rx.str,ry.str,cr (dN hz),q _ H Hs (.refl sub) (.str _)⟩
   ·cases hd
  ·split at hd
   ·rename_i xs ys hz
    cases hd
    obtain ⟨a,vs,rfl,qa,ra,_⟩:=rx.tuple sub
    obtain ⟨b,ws,rfl,qb,rb,_⟩:=ry.tuple sub
    have hz':vs.length + ws.length<=sizeLine:=by rw [ra.length,rb.length];exact cr (dN hz)
    have big:∀ p,H p=none->Q (.ref p) (upd H p (.tup (vs++ws))):=fun p hp=>q _ _ _ (.new sub hp) (.tuple bn ((ra.append rb).same (cP.new sub hp).sh))
    cases vs with
    | nil =>
     cases ra
     refine Pz pins s σ H _ _ v u Q I rv ru ⟨a,b,ws,rfl,rfl,qa,qb,?_⟩
     rcases ry with ry | ⟨_,_,_,_,_,ow⟩
     ·exact q _ H Hs (.refl sub) (by simpa using ry)
     ·cases ow
    | cons v0 vr =>
     refine Ph pins s σ H _ _ v u Q I rv ru ⟨a,b,_,ws,rfl,rfl,qa,qb,by simp,hz',fun e=>?_,fun _=>big⟩
     subst e
     cases rb
     rcases rx with rx | ⟨_,_,_,_,_,ow⟩
     ·exact q _ H Hs (.refl sub) (by simpa using rx)
     ·cases ow
   ·cases hd
  ·split at hd
   ·rename_i xs ys hz
    cases hd
    obtain ⟨a,vs,rfl,qa,ra⟩:=rx.list sub
    obtain ⟨b,ws,rfl,qb,rb⟩:=ry.list sub
    have hz':vs.length + ws.length<=sizeLine:=by rw [ra.length,rb.length];exact cr (dN hz)
    exact Py pins s σ H _ _ v u Q I rv ru ⟨a,b,vs,ws,rfl,rfl,qa,qb,hz',fun p hp=>q _ _ _ (.new sub hp) (.list (.of bn) ((ra.append rb).same (cP.new sub hp).sh))⟩
   ·cases hd
  ·cases hd
 ·unfold dB
  split<;>(try split)<;>exact fun h=>by cases h
def DL (C:Int->Int->Bool) (k:Int->Int->D):D->D->R D
 | .int i,.int j=>if C i j then .ok (k i j) else .no
 | _,_=>.no
theorem C2 {f:ac->ac->Sem ac}{C:Int->Int->Bool}{P:Int->Int->Prop}{k:Int->Int->D}{kv:Int->Int->V} (h:oB X f (rI P kv)) (hC:∀ i j,C i j=true->P i j) (hk:∀ Hs i j,RD X.K Hs (kv i j) (k i j)):wz X f (DL C k):=by
 refine ⟨fun pins s σ H x y v u Q I rv ru ⟨Hs,dx,dy,sub,rx,ry,d,hd,q⟩=>?_,fun x y c n=>?_⟩
 ·unfold DL at hd
  split at hd
  ·split at hd
   ·rename_i hc
    cases hd
    exact h pins s σ H x y v u Q I rv ru ⟨_,_,rx.int,ry.int,hC _ _ hc,q _ H Hs (.refl sub) (hk _ _ _)⟩
   ·cases hd
  ·cases hd
 ·unfold DL
  split<;>(try split)<;>exact fun h=>by cases h
def AT (i j:Int):Bool:=(decide (-(2 ^ 64)<i) && decide (i<2 ^ 64)) || (decide (-(2 ^ 64)<j) && decide (j<2 ^ 64))
theorem Uw {g:Int->Int->V}{f:ac->ac->Sem ac} (h:oB X f (P5 g)):oB X f (rI (fun _ _=>True) g):=fun pins s σ H x y v u Q I rv ru h_0=>by obtain ⟨i,j,a,b,_,q⟩:=h_0;exact h pins s σ H x y v u Q I rv ru ⟨i,j,a,b,q⟩
def JK:=DL (fun _ _=>true) fun i j=>.int (i - j)
def wZ:=DL AT fun i j=>.int (i * j)
def JL:=DL (fun _ j=>decide (0<j)) fun i j=>.int (i % j)
def Mb:=DL (fun _ j=>decide (0<j) && decide (j<1073741824)) fun i j=>.int (i / j)
theorem Mc:wz X (eP .Sub) JK:=C2 (Uw Sd) (fun _ _ _=>trivial) fun _ _ _=>.int _
theorem qp:wz X (eP .Mult) wZ:=C2 Se (fun i j h=>by
 unfold AT at h
 simp only [hV,aQ,decide_eq_true_eq] at h
 exact h) fun _ _ _=>.int _
theorem C3:wz X (eP .Mod) JL:=C2 Sf (fun i j h=>of_decide_eq_true h) fun _ _ _=>.int _
theorem PB:wz X (eP .FloorDiv) Mb:=C2 P6 (fun i j h=>by
 simp only [aQ,decide_eq_true_eq] at h
 exact h) fun _ _ _=>.int _
def l_ (neg:Bool) (x y:D):R D:=if x.canLay0 && y.canLay0 && decide (min x.depth y.depth<=60) then .ok (.bool (if neg then !a_ x y else a_ x y)) else .no
mutual
theorem C4:∀ d:D,d.canLay0=true->pZ d=true
 | .none,_=>rfl
 | .bool _,_=>rfl
 | .int _,_=>rfl
 | .str _,_=>rfl
 | .list xs,h=>by
  simp only [eI] at h
  simp only [pZ]
  exact lays_noD xs h
 | .tuple xs,h=>by
  simp only [eI] at h
  simp only [pZ]
  exact lays_noD xs h
 | .dict _,h=>by simp [eI] at h
theorem lays_noD:∀ d:List D,bW d=true->noDs d=true
 | [],_=>rfl
 | x::r,h=>by
  simp only [bW,aQ] at h
  simp only [noDs,aQ]
  exact ⟨C4 x h.1,lays_noD r h.2⟩
end
theorem Md {neg:Bool}{f:ac->ac->Sem ac} (h:oB X f (SC X.K neg)):wz X f (l_ neg):=by
 refine ⟨fun pins s σ H x y v u Q I rv ru ⟨Hs,dx,dy,sub,rx,ry,d,hd,q⟩=>?_,fun x y c n=>?_⟩
 ·unfold l_ at hd
  split at hd
  ·rename_i hc
   simp only [aQ,decide_eq_true_eq] at hc
   cases hd
   exact h pins s σ H x y v u Q I rv ru ⟨dx,dy,(rx.full sub).rep (C4 _ hc.1.1),(ry.full sub).rep (C4 _ hc.1.2),hc.1.1,hc.1.2,hc.2,q _ H Hs (.refl sub) (.bool _)⟩
  ·cases hd
 ·unfold l_
  split<;>exact fun h=>by cases h
theorem ur (hu:X.A.units + 64<kX):wz X (bI .Eq) (l_ false):=Md (SD hu)
theorem wA (hu:X.A.units + 64<kX):wz X (bI .NotEq) (l_ true):=Md (SE hu)
def JM (k:Int->Int->Bool) (t:Str->Str->Bool):D->D->R D
 | .int i,.int j=>.ok (.bool (k i j))
 | .str x,.str y=>.ok (.bool (t x y))
 | _,_=>.no
theorem Me {f:ac->ac->Sem ac}{k:Int->Int->Bool}{t:Str->Str->Bool} (h1:oB X f (P5 fun i j=>.bl (k i j))) (h2:oB X f (fun x y H Q=>∃ i j,x=.str i/\y=.str j/\Q (.bl (t i j)) H)):wz X f (JM k t):=by
 refine ⟨fun pins s σ H x y v u Q I rv ru ⟨Hs,dx,dy,sub,rx,ry,d,hd,q⟩=>?_,fun x y c n=>?_⟩
 ·unfold JM at hd
  split at hd
  ·cases hd
   exact h1 pins s σ H x y v u Q I rv ru ⟨_,_,rx.int,ry.int,q _ H Hs (.refl sub) (.bool _)⟩
  ·cases hd
   exact h2 pins s σ H x y v u Q I rv ru ⟨_,_,rx.str,ry.str,q _ H Hs (.refl sub) (.bool _)⟩
  ·cases hd
 ·unfold JM
  split<;>exact fun h=>by cases h
def w_:=JM (fun i j=>decide (i<j)) pF
def QZ:=JM (fun i j=>decide (i<=j)) fun x y=>!pF y x
def Q_:D->D->R D
 | .int i,.int j=>.ok (.bool (decide (j<i)))
 | _,_=>.no
theorem ut:wz X (bI .Lt) w_:=Me U0 Jm
theorem AU:wz X (bI .LtE) QZ:=Me U1 JA
theorem HF:wz X (bI .Gt) Q_:=by
 refine ⟨fun pins s σ H x y v u Q I rv ru ⟨Hs,dx,dy,sub,rx,ry,d,hd,q⟩=>?_,fun x y c n=>?_⟩
 ·unfold Q_ at hd
  split at hd
  ·cases hd
   exact U2 pins s σ H x y v u Q I rv ru ⟨_,_,rx.int,ry.int,q _ H Hs (.refl sub) (.bool _)⟩
  ·cases hd
 ·unfold Q_
  split<;>exact fun h=>by cases h
def Gk:D->Bool
 | .none=>true
 | _=>false
def pG (neg:Bool):D->D->R D
 | x,.none=>.ok (.bool (if neg then !Gk x else Gk x))
 | _,_=>.no
theorem HG {K:a8}{H Hs:Hp}{v:V}{d:D} (h:RB K H Hs v d):decide (v=.non)=Gk d:=by
 rcases h with h | ⟨a,o,rfl,_,_,h⟩
 ·cases h<;>rfl
 ·cases h<;>rfl
theorem xY:wz X (bI .Is) (pG false):=by
 refine ⟨fun pins s σ H x y v u Q I rv ru ⟨Hs,dx,dy,sub,rx,ry,d,hd,q⟩=>?_,fun x y c n=>?_⟩
 ·unfold pG at hd
  split at hd
  ·cases hd
   exact Sh pins s σ H x y v u Q I rv ru ⟨ry.non,by rw [HG rx];exact q _ H Hs (.refl sub) (.bool _)⟩
  ·cases hd
 ·unfold pG
  split<;>exact fun h=>by cases h
theorem uu:wz X (bI .IsNot) (pG true):=by
 refine ⟨fun pins s σ H x y v u Q I rv ru ⟨Hs,dx,dy,sub,rx,ry,d,hd,q⟩=>?_,fun x y c n=>?_⟩
 ·unfold pG at hd
  split at hd
  ·cases hd
   exact P7 pins s σ H x y v u Q I rv ru ⟨ry.non,by rw [HG rx];exact q _ H Hs (.refl sub) (.bool _)⟩
  ·cases hd
 ·unfold pG
  split<;>exact fun h=>by cases h
def lr:D->Bool
 | .none=>true
 | .bool _=>true
 | .int _=>true
 | .str _=>true
 | _=>false
def DM (neg:Bool):D->D->R D
 | x,.list ys=>if lr x && ys.all lr then .ok (.bool (if neg then !(ys.any fun y=>a_ y x) else ys.any fun y=>a_ y x)) else .no
 | x,.tuple ys=>if lr x && ys.all lr then .ok (.bool (if neg then !(ys.any fun y=>a_ y x) else ys.any fun y=>a_ y x)) else .no
 | _,_=>.no
theorem HH {K:a8}{H:Hp}{v:V}{d:D} (h:RD K H v d) (f:lr d=true):qg v=true:=by
 cases h<;>first | rfl | cases f
theorem DN {K:a8}{H Hs:Hp}{v:V}{d:D} (h:RB K H Hs v d) (f:lr d=true):qg v=true:=by
 rcases h with h | ⟨a,o,rfl,_,_,h⟩
 ·exact HH h f
 ·cases h<;>cases f
theorem DO {K:a8}{H:Hp}{vs:List V}:∀ {ds:List D},RDs K H vs ds->ds.all lr=true->vs.all qg=true:=by
 induction vs with
 | nil=>intro ds _ _;rfl
 | cons x r ih =>
  intro ds h f
  cases h with
  | cons h t =>
   rw [t_,aQ] at f ⊢
   exact ⟨HH h f.1,ih t f.2⟩
theorem SF {K:a8}{H H2 Hs:Hp}{v u:V}{d e:D} (h:RD K H v d) (h2:RB K H2 Hs u e) (f:lr d=true) (f2:lr e=true):Pk v u=a_ d e:=by
 have h2':RD K Hs u e:=by
  rcases h2 with h2 | ⟨a,o,rfl,_,_,h2⟩
  ·exact h2
  ·cases h2<;>cases f2
 cases h with
 | list _ _=>cases f
 | tuple _ _=>cases f
 | dictK _ _=>cases f
 | dictT _ _ _=>cases f
 | dictF _ _ _=>cases f
 | none=>cases h2'<;>first | rfl | cases f2
 | bool b=>cases h2'<;>first | rfl | cases f2
 | int i=>cases h2'<;>first | rfl | cases f2
 | str x=>cases h2'<;>first | rfl | cases f2
theorem Gm {K:a8}{H H2 Hs:Hp}{u:V}{e:D} (h2:RB K H2 Hs u e) (f2:lr e=true):∀ {vs:List V}{ds:List D},RDs K H vs ds->ds.all lr=true->VB u vs=ds.any fun y=>a_ y e
 | _,_,.nil,_=>rfl
 | _,_,.cons h t,f=>by
  rw [t_,aQ] at f
  have:=Gm h2 f2 t f.2
  unfold VB at this ⊢
  rw [dX,dX,this,SF h h2 f.1 f2]
theorem Mf {neg:Bool}{f:ac->ac->Sem ac} (h:oB X f (Wl X.K neg)):wz X f (DM neg):=by
 refine ⟨fun pins s σ H x y v u Q I rv ru ⟨Hs,dx,dy,sub,rx,ry,d,hd,q⟩=>?_,fun x y c n=>?_⟩
 ·unfold DM at hd
  split at hd
  ·split at hd
   ·rename_i hc
    simp only [aQ] at hc
    cases hd
    obtain ⟨b,ws,rfl,qb,rb⟩:=ry.list sub
    refine h pins s σ H _ _ v u Q I rv ru ⟨b,ws,rfl,.inl qb,DN rx hc.1,DO rb hc.2,?_⟩
    rw [Gm rx hc.1 rb hc.2]
    exact q _ H Hs (.refl sub) (.bool _)
   ·cases hd
  ·split at hd
   ·rename_i hc
    simp only [aQ] at hc
    cases hd
    obtain ⟨b,ws,rfl,qb,rb,_⟩:=ry.tuple sub
    refine h pins s σ H _ _ v u Q I rv ru ⟨b,ws,rfl,.inr qb,DN rx hc.1,DO rb hc.2,?_⟩
    rw [Gm rx hc.1 rb hc.2]
    exact q _ H Hs (.refl sub) (.bool _)
   ·cases hd
  ·cases hd
 ·unfold DM
  split<;>(try split)<;>exact fun h=>by cases h
theorem DP:wz X (bI .In) (DM false):=Mf Jp
theorem xZ:wz X (bI .NotIn) (DM true):=Mf BJ
end
end
end J
namespace J
open PySem L2
section
section
variable {c:C}{e a b:aX}{g ga gb:aw->R D}{pos:Pos}
def DQ:D->D->R D
 | .list xs,.int i=>match Do xs i with
  | some d=>.ok d
  | none=>.no
 | .tuple xs,.int i=>match Do xs i with
  | some d=>.ok d
  | none=>.no
 | .str x,.int i=>if x.length<=1000 then (match Do x.cps.toList i with
  | some k=>.ok (.str ⟨#[k]⟩)
  | none=>.no) else .no
 | _,_=>.no
theorem HI {K:a8}{H:Hp}{vs:List V}{ds:List D} (h:RDs K H vs ds) {i:Int}{d:D} (e:Do ds i=some d):∃ v,Do vs i=some v/\RD K H v d:=by
 unfold Do at e ⊢
 rw [h.length]
 cases hx:QM ds.length i with
 | none=>rw [hx] at e;cases e
 | some j =>
  rw [hx] at e
  exact h.get' e
theorem WA {X:Cx}:Ua X (rD X.K DQ):=by
 intro va sl pins s σ H x y v u Q I rv ru h
 obtain ⟨Hs,dx,dy,sub,rx,ry,d,hd,q⟩:=h
 unfold DQ at hd
 split at hd
 ·split at hd
  ·rename_i d' he
   cases hd
   obtain ⟨p,vs,rfl,qa,ra⟩:=rx.list sub
   obtain ⟨w,hw,rw'⟩:=HI ra he
   exact oC va sl pins s σ H _ _ v u Q I rv ru ⟨p,vs,_,w,rfl,ry.int,qa,hw,q _ H Hs (.refl sub) rw'⟩
  ·cases hd
 ·split at hd
  ·rename_i d' he
   cases hd
   obtain ⟨p,vs,rfl,qa,ra,_⟩:=rx.tuple sub
   obtain ⟨w,hw,rw'⟩:=HI ra he
   exact Sr va sl pins s σ H _ _ v u Q I rv ru ⟨p,vs,_,w,rfl,ry.int,qa,hw,q _ H Hs (.refl sub) rw'⟩
  ·cases hd
 ·split at hd
  ·rename_i hz
   split at hd
   ·rename_i k he
    cases hd
    exact Ss va sl pins s σ H _ _ v u Q I rv ru ⟨_,_,k,rx.str,ry.int,cr (dN hz),he,q _ H Hs (.refl sub) (.str _)⟩
   ·cases hd
  ·cases hd
 ·cases hd
theorem SG (x y:D) (c:Str) (n:Option D):DQ x y≠.ex c n:=by
 unfold DQ
 split<;>(try split)<;>(try split)<;>exact fun h=>by cases h
theorem Ux (ha:JB c a ga) (hb:JB c b gb) (hs:ud b:=by exact fun _ _=>rfl):JE c (.Subscript a b pos) (g2 ga gb DQ):=.of fun ρ=>rX (QN WA (ha ρ) (hb ρ) hs) fun σ H Q q=>two SG q
def x_ (ds:List D) (lo hi:Option Int):List D:=(ds.drop (HT.iH ds.length 0 lo)).take (HT.iH ds.length ds.length hi - HT.iH ds.length 0 lo)
theorem HJ {K:a8}{H:Hp}{vs:List V}{ds:List D} (h:RDs K H vs ds) (lo hi:Option Int):RDs K H (Dn vs lo hi) (x_ ds lo hi):=by
 unfold Dn x_
 rw [h.length]
 exact (h.drop _).take _
def Ad:D->Option Int->Option Int->R D
 | .list xs,lo,hi=>.ok (.list (x_ xs lo hi))
 | .tuple xs,lo,hi=>.ok (.tuple (x_ xs lo hi))
 | _,_,_=>.no
inductive R1 (K:a8) (x:V) (lo:Option Int) (hi:Option Int) (H:Hp) (Q:VK):Prop
 | mk (Hs dx:_) (h0:dH Hs H) (h1:RB K H Hs x dx) (h2:∃ d,Ad dx lo hi=.ok d/\∀ v H' Hs',cP H Hs H' Hs'->RD K Hs' v d->Q v H'):R1 K x lo hi H Q
def WB (K:a8):V->Option Int->Option Int->Hp->VK->Prop:=R1 K
theorem WC {X:Cx}:U8 X (WB X.K):=by
 intro pins s σ H x v vl vu lo hi sl Q I rx hs pl pu h
 obtain ⟨Hs,dx,sub,rb,d,hd,q⟩:=h
 unfold Ad at hd
 split at hd
 ·cases hd
  obtain ⟨p,vs,rfl,qa,ra⟩:=rb.list sub
  exact Pj pins s σ H _ v vl vu lo hi sl Q I rx hs pl pu ⟨p,vs,rfl,qa,fun l hl=>q _ _ _ (.new sub hl) (.list (.of bn) ((HJ ra lo hi).same (cP.new sub hl).sh))⟩
 ·cases hd
  obtain ⟨p,vs,rfl,qa,ra,_⟩:=rb.tuple sub
  by_cases hw:HT.iH vs.length 0 lo=0/\HT.iH vs.length vs.length hi=vs.length
  ·refine Pw pins s σ H _ v vl vu lo hi sl Q I rx hs pl pu ⟨p,vs,rfl,qa,hw,?_⟩
   rcases rb with rb | ⟨_,_,_,_,_,ow⟩
   ·refine q _ H Hs (.refl sub) ?_
    unfold x_
    rw [<- ra.length,hw.1,hw.2,ra.length]
    simpa using rb
   ·cases ow
  ·exact Sq pins s σ H _ v vl vu lo hi sl Q I rx hs pl pu ⟨p,vs,rfl,qa,hw,fun l hl=>q _ _ _ (.new sub hl) (.tuple bn ((HJ ra lo hi).same (cP.new sub hl).sh))⟩
 ·cases hd
inductive Uy (K:a8) (cls:Str->aj) (E:XK) (ρ:aw) (r:R (Option Int)) (σ:St) (H:Hp) (Q:Option Int->Hp->Prop):Prop
 | mk (H0 Hs0:Hp) (la:Nat->Option aj) (Hs:Hp) (f:Fr K H0 Hs0 la ρ σ H Hs) (q:Fin K cls E H Hs r fun d=>∀ H' Hs',cP H Hs H' Hs'->Q d H'):Uy K cls E ρ r σ H Q
def WD (K:a8) (cls:Str->aj) (E:XK) (ρ:aw) (r:R (Option Int)):TO:=Uy K cls E ρ r
structure JO (c:C) (e:Option aX) (g:aw->R (Option Int)):Prop where of ::
 run:∀ ρ,PO c.X e (WD c.X.K c.cls c.E ρ (g ρ))
instance {c:C}{e:Option aX}{g:aw->R (Option Int)}:CoeFun (JO c e g) (fun _=>∀ ρ,PO c.X e (WD c.X.K c.cls c.E ρ (g ρ))):=⟨JO.run⟩
theorem Xb {X:Cx}{e:Option aX}{t t':TO} (h:PO X e t) (m:∀ σ H Q,t' σ H Q->t σ H Q):PO X e t':=fun pins s σ H Q I q=>h pins s σ H Q I (m σ H Q q)
def HK:aw->R (Option Int):=fun _=>.ok none
def C5 (g:aw->R D):aw->R (Option Int):=fun ρ=>(g ρ).bind fun d=>match d with
 | .int i=>.ok (some i)
 | _=>.no
theorem mS:JO c none HK:=.of fun ρ=>Xb Pf fun σ H Q h_0=>by obtain ⟨H0,Hs0,la,Hs,f,q⟩:=h_0;exact q H Hs (.refl f.st.sub)
theorem iZ (h:JE c e g):JO c (some e) (C5 g):=.of fun ρ=>Xb (Pg (h ρ)) fun σ H Q h_1=>by
 obtain ⟨H0,Hs0,la,Hs,f,q⟩:=h_1
 refine Ac f q fun d v H1 Hs1 e1 s1 f1 r1=>?_
 unfold C5 at q
 rw [e1,bind_ok] at q
 cases r1 with
 | int i=>exact ⟨i,rfl,q H1 Hs1 s1⟩
 | _=>exact q.elim
theorem Uz {K:a8}{cls:Str->aj}{E:XK}{ρ:aw}{r:R (Option Int)}{β:Type}{k:Option Int->R β}{σ:St}{H:Hp}{H0 Hs0 Hs:Hp}{la:Nat->Option aj}{Q:Option Int->Hp->Prop}{q:β->Prop} (f:Fr K H0 Hs0 la ρ σ H Hs)
  (h:Fin K cls E H Hs (r.bind k) q) (m:∀ d H' Hs',r=.ok d->cP H Hs H' Hs'->Fr K H0 Hs0 la ρ σ H' Hs'->Q d H'):WD K cls E ρ r σ H Q:=by
 refine ⟨H0,Hs0,la,Hs,f,?_⟩
 cases r with
 | ok d=>exact fun H' Hs' s=>m d H' Hs' rfl s (f.step s)
 | ex c n=>exact h
 | no=>exact h
def DR (g:aw->R D) (gl gh:aw->R (Option Int)):aw->R D:=fun ρ=>(g ρ).bind fun x=>(gl ρ).bind fun l=>(gh ρ).bind fun h=>Ad x l h
theorem iV {lo hi:Option aX}{gl gh:aw->R (Option Int)}{p2:Pos} (he:JB c e g) (hl:JO c lo gl) (hh:JO c hi gh):JE c (.Subscript e (.Slice lo hi none p2) pos) (DR g gl gh):=.of fun ρ=>rX (LB WC (he ρ) (hl ρ) (hh ρ)) fun σ H Q h_2=>by
 obtain ⟨H0,Hs0,la,Hs,f,q⟩:=h_2
 refine one f q fun d v H1 Hs1 e1 s1 f1 r1=>?_
 unfold DR at q
 rw [e1,bind_ok] at q
 refine Uz f1 (q.on s1 (q':=fun _=>True) fun _ _=>trivial) fun l H2 Hs2 e2 s2 f2=>?_
 rw [e2,bind_ok] at q
 refine Uz f2 (q.on (s1.trans s2) (q':=fun _=>True) fun _ _=>trivial) fun h H3 Hs3 e3 s3 f3=>?_
 rw [e3,bind_ok] at q
 cases hr:Ad d l h with
 | ok z=>rw [hr] at q;exact ⟨Hs3,d,f3.st.sub,(r1.step s2).step s3,z,hr,fun w H4 Hs4 s4 r4=>q w H4 Hs4 (s1.trans (s2.trans (s3.trans s4))) r4⟩
 | ex c n=>unfold Ad at hr;split at hr<;>cases hr
 | no=>rw [hr] at q;exact q.elim
inductive Xc (K:a8) (h:List D->R D) (xs:List V) (H:Hp) (Q:VK):Prop
 | mk (Hs ds:_) (h0:dH Hs H) (h1:OB K H Hs xs ds) (h2:∃ d,h ds=.ok d/\∀ v H' Hs',cP H Hs H' Hs'->RD K Hs' v d->Q v H'):Xc K h xs H Q
def rC (K:a8) (h:List D->R D):List V->Hp->VK->Prop:=Xc K h
def KZ (X:Cx) (f:ac) (h:List D->R D):Prop:=jR X f (rC X.K h)/\∀ x c n,h x≠.ex c n
def bL (gs:aw->R (List D)) (h:List D->R D):aw->R D:=fun ρ=>(gs ρ).bind h
theorem R4 {K:a8}{cls:Str->aj}{E:XK}{h:List D->R D}{gs:aw->R (List D)}{ρ:aw}{σ:St}{H:Hp}{Q:VK} (hx:∀ x c n,h x≠.ex c n) (q:TR K cls E ρ (bL gs h ρ) σ H Q):U6 (rC K h) (VH K cls E ρ (gs ρ)) σ H Q:=by
 obtain ⟨H0,Hs0,la,Hs,f,q⟩:=q
 refine HE f q fun ds vs H1 Hs1 e1 s1 f1 r1=>?_
 unfold bL at q
 rw [e1,bind_ok] at q
 cases hr:h ds with
 | ok d =>
  rw [hr] at q
  exact ⟨Hs1,ds,f1.st.sub,r1,d,hr,fun w H3 Hs3 s3 r3=>q w H3 Hs3 (s1.trans s3) r3⟩
 | ex c n=>exact (hx ds c n hr).elim
 | no=>rw [hr] at q;exact q.elim
variable {es:List aX}{gs:aw->R (List D)}{x:Str}{p:Pos}{id T:String}{h:List D->R D}
theorem bE (hc:KZ c.X (.builtin id) h) (hg:Gl c.X x) (hm:c.X.mg x=none) (hv:i9 x=some (.builtin id)) (ha:Px c (e::es) gs) (hn:x≠"__name__":=by decide) (hdb:(x == ("__debug__" : Str))=false:=by decide)
  (he:aI (e::es) c.X.env=(false,dE e c.X.env)::aI es c.X.env:=by rfl) (hpl:(j4 pos (aI es c.X.env)).any (·.1)=false:=by rfl):JE c (.Call (.Name x p) (e::es) [] pos) (bL gs h):=.of fun ρ=>rX (ua hc.1 hg hm hv (ha ρ) hn hdb he hpl) fun σ H Q q=>R4 hc.2 q
theorem fi (hc:KZ c.X (.type T) h) (hg:Gl c.X x) (hm:c.X.mg x=none) (hv:i9 x=some (.type T)) (ha:Px c (e::es) gs) (hn:x≠"__name__":=by decide) (hdb:(x == ("__debug__" : Str))=false:=by decide)
  (he:aI (e::es) c.X.env=(false,dE e c.X.env)::aI es c.X.env:=by rfl) (hpl:(j4 pos (aI es c.X.env)).any (·.1)=false:=by rfl):JE c (.Call (.Name x p) (e::es) [] pos) (bL gs h):=.of fun ρ=>rX (AK hc.1 hg hm hv (ha ρ) hn hdb he hpl) fun σ H Q q=>R4 hc.2 q
end
end
section
section
variable {X:Cx}
theorem OB.one {K:a8}{H Hs:Hp}{xs:List V}{d:D} (h:OB K H Hs xs [d]):∃ x,xs=[x]/\RB K H Hs x d:=by
 cases h with | cons a t=>cases t;exact ⟨_,rfl,a⟩
def f_ (h:D->R D):List D->R D
 | [d]=>h d
 | _=>.no
theorem sG {f:ac}{h:D->R D} (hx:∀ d c n,h d≠.ex c n)
  (hr:∀ pins s σ H x u Q Hs d d',bP X pins σ H s->du x u->dH Hs H->RB X.K H Hs x d->h d=.ok d'->(∀ v H' Hs',cP H Hs H' Hs'->RD X.K Hs' v d'->Q v H')->au (aO X.prog X.w) X.A (call f [u]) (EP X pins σ Q) X.xe s):KZ X f (f_ h):=by
 refine ⟨fun pins s σ H xs us Q I r ⟨Hs,ds,sub,rb,d,hd,q⟩=>?_,fun x c n=>?_⟩
 ·unfold f_ at hd
  split at hd
  ·obtain ⟨x,rfl,rx⟩:=rb.one
   obtain ⟨u,rfl,ru⟩:=kL r
   exact hr pins s σ H x u Q Hs _ _ I ru sub rx hd q
  ·cases hd
 ·unfold f_
  split
  ·exact hx _ _ _
  ·exact fun h=>by cases h
def fK:D->R D
 | .list xs=>.ok (.int xs.length)
 | .tuple xs=>.ok (.int xs.length)
 | .str x=>if x.length<=1000 then .ok (.int x.length) else .no
 | _=>.no
theorem RDk.length {K:a8}{H:Hp}{vs:List (dv×V)}:∀ {ds:List (D×D)},RDk K H vs ds->vs.length=ds.length:=by
 induction vs with
 | nil=>intro ds h;cases h;rfl
 | cons x r ih=>intro ds h;cases h with | cons a b=>exact congrArg (· + 1) (ih b)
theorem RDt.length {K:a8}{H:Hp}:∀ {vs:List (List dv×V)}{ds:List (D×D)},RDt K H vs ds->vs.length=ds.length
 | _,_,.nil=>rfl
 | _,_,.cons _ t=>by simp [RDt.length t]
theorem RB.dict {K:a8}{H Hs:Hp}{v:V}{ds:List (D×D)} (sub:dH Hs H) (h:RB K H Hs v (.dict ds)):∃ a,v=.ref a/\((∃ kvs,H a=some (.dK kvs)/\RDk K Hs kvs ds)\/(∃ kvs,H a=some (.dT kvs)/\kvs≠[]/\RDt K Hs kvs ds)\/∃ o kvs es,ds=(.none,.none)::es/\H a=some (.frz o (.dT kvs))/\kvs≠[]/\RDt K Hs kvs es):=by
 rcases h with h | ⟨a,o,rfl,h2,h3,h4⟩
 ·cases h with
  | dictK q r=>exact ⟨_,rfl,.inl ⟨_,sub _ _ q,r⟩⟩
  | dictT q n r=>exact ⟨_,rfl,.inr (.inl ⟨_,sub _ _ q,n,r⟩)⟩
  | dictF q n r=>exact ⟨_,rfl,.inr (.inr ⟨_,_,_,rfl,sub _ _ q,n,r⟩)⟩
 ·cases h4 with
  | dK r=>exact ⟨a,rfl,.inl ⟨_,h2,r⟩⟩
  | dT n r=>exact ⟨a,rfl,.inr (.inl ⟨_,h2,n,r⟩)⟩
  | dF n r=>exact ⟨a,rfl,.inr (.inr ⟨_,_,_,rfl,h2,n,r⟩)⟩
theorem eB:KZ X (.builtin "len") (f_ fK):=by
 refine sG (fun d c n=>?_) fun pins s σ H x u Q Hs d d' I ru sub rx hd q=>?_
 ·unfold fK
  split<;>(try split)<;>exact fun h=>by cases h
 ·unfold fK at hd
  split at hd
  ·cases hd
   obtain ⟨a,vs,rfl,qa,ra⟩:=rx.list sub
   refine uf pins s σ H _ _ Q I (.cons ru .nil) ⟨a,vs,rfl,.inl qa,?_⟩
   rw [ra.length]
   exact q _ H Hs (.refl sub) (.int _)
  ·cases hd
   obtain ⟨a,vs,rfl,qa,ra,_⟩:=rx.tuple sub
   refine uf pins s σ H _ _ Q I (.cons ru .nil) ⟨a,vs,rfl,.inr qa,?_⟩
   rw [ra.length]
   exact q _ H Hs (.refl sub) (.int _)
  ·split at hd
   ·rename_i hz
    cases hd
    exact BK pins s σ H _ _ Q I (.cons ru .nil) ⟨_,by rw [rx.str],cr (dN hz),q _ H Hs (.refl sub) (.int _)⟩
   ·cases hd
  ·cases hd
def Ae (T:String) (d:D):Bool:=match T,d with
 | "str",.str _=>true
 | "int",.int _=>true
 | "int",.bool _=>true
 | "bool",.bool _=>true
 | "list",.list _=>true
 | "tuple",.tuple _=>true
 | _,_=>false
def sH (g:aw->R D) (T:String):aw->R D:=fun ρ=>(g ρ).bind fun d=>if pZ d then .ok (.bool (Ae T d)) else .no
theorem PD {K:a8}{d:D} (T:String) (hT:T="str"\/T="int"\/T="bool"\/T="list"\/T="tuple") (h:pZ d=true):q0 K (.type (Ww d)) (.type T)=some (Ae T d):=by
 rcases hT with rfl | rfl | rfl | rfl | rfl<;>cases d<;>first | rfl | simp [pZ] at h
theorem m5 {c:C}{e:aX}{g:aw->R D}{p p2 pos:Pos}{T:Str}{Ts:String} (h:JB c e g) (hgi:Gl c.X "isinstance") (hi:c.X.mg "isinstance"=none) (hgT:Gl c.X T) (hT:c.X.mg T=none) (hv:i9 T=some (.type Ts))
  (hTs:Ts="str"\/Ts="int"\/Ts="bool"\/Ts="list"\/Ts="tuple")
  (hn:T≠"__name__":=by decide) (hdb:(T == ("__debug__" : Str))=false:=by decide)
  (he:aI [e,.Name T p2] c.X.env=(false,dE e c.X.env)::aI [.Name T p2] c.X.env:=by rfl) (hpl:(j4 pos (aI [.Name T p2] c.X.env)).any (·.1)=false:=by rfl) :
  JE c (.Call (.Name "isinstance" p) [e,.Name T p2] [] pos) (sH g Ts):=.of fun ρ=>by
 refine rX (ua M5 hgi hi PyProof.Rows.boot_isinstance (ip (h ρ) (ip (P1 hgT hT hv (v:=.ty Ts) rfl hn hdb) jW) he) (by decide) (by decide) he hpl) fun σ H Q h_0=>?_
 obtain ⟨H0,Hs0,la,Hs,f,q⟩:=h_0
 refine one f q fun d v H1 Hs1 e1 s1 f1 r1=>?_
 unfold sH at q
 rw [e1,bind_ok] at q
 by_cases hd:pZ d=true
 ·rw [if_pos hd] at q
  exact ⟨v,d,Ts,_,rfl,(r1.full f1.st.sub).rep hd,PD Ts hTs hd,q _ H1 Hs1 s1 (.bool _)⟩
 ·rw [if_neg hd] at q;exact q.elim
def mT:List D->Option (List Bool)
 | []=>some []
 | .bool b::r=>(mT r).map (b::·)
 | _::_=>none
theorem C6 {ds:List D}:∀ {bs:List Bool},mT ds=some bs->ds=bs.map cZ:=by
 induction ds with
 | nil=>intro bs h;cases h;rfl
 | cons d r ih =>
  intro bs h
  cases d with
  | bool b =>
   have h:(mT r).map (b::·)=some bs:=h
   cases hr:mT r with
   | none=>rw [hr] at h;cases h
   | some z=>rw [hr] at h;cases h;rw [ih hr];rfl
  | _=>cases h
def gJ (k:List Bool->Bool):D->R D
 | .list ds=>match mT ds with
  | some bs=>.ok (.bool (k bs))
  | none=>.no
 | _=>.no
theorem DS {id:String}{k:List Bool->Bool} (h:jR X (.builtin id) (fun xs H Q=>∃ p,∃ bs:List Bool,xs=[.ref p]/\lW X.K H p (bs.map V.bl)/\Q (.bl (k bs)) H)):KZ X (.builtin id) (f_ (gJ k)):=by
 refine sG (fun d c n=>?_) fun pins s σ H x u Q Hs d d' I ru sub rx hd q=>?_
 ·unfold gJ
  split<;>(try split)<;>exact fun h=>by cases h
 ·unfold gJ at hd
  split at hd
  ·split at hd
   ·rename_i bs hb
    cases hd
    obtain ⟨a,vs,rfl,qa,ra⟩:=rx.list sub
    rw [C6 hb] at ra
    rw [Aa ra] at qa
    exact h pins s σ H _ _ Q I (.cons ru .nil) ⟨a,bs,rfl,qa,q _ H Hs (.refl sub) (.bool _)⟩
   ·cases hd
  ·cases hd
theorem oH (hc:X.calm=true):KZ X (.builtin "all") (f_ (gJ fun bs=>bs.all id)):=DS (xS hc)
theorem Mg (hc:X.calm=true):KZ X (.builtin "any") (f_ (gJ fun bs=>bs.any id)):=DS (xT hc)
def nD (x:Str):List D:=x.cps.toList.map fun c=>aW ⟨#[c]⟩
theorem JP {K:a8}{H:Hp} (x:Str):RDs K H (xW x) (nD x):=by
 unfold xW nD
 induction x.cps.toList with
 | nil=>exact .nil
 | cons a r ih=>exact .cons (.str _) ih
def g_:D->R D
 | .list xs=>.ok (.tuple xs)
 | .tuple xs=>.ok (.tuple xs)
 | .str x=>if x.cps.size<=1000 then .ok (.tuple (nD x)) else .no
 | _=>.no
theorem iW (hc:X.calm=true):KZ X (.type "tuple") (f_ g_):=by
 refine sG (fun d c n=>?_) fun pins s σ H x u Q Hs d d' I ru sub rx hd q=>?_
 ·unfold g_
  split<;>(try split)<;>exact fun h=>by cases h
 ·unfold g_ at hd
  split at hd
  ·cases hd
   obtain ⟨a,vs,rfl,qa,ra⟩:=rx.list sub
   exact rV pins s σ H _ _ Q I (.cons ru .nil) ⟨a,vs,rfl,.inl ⟨qa,fun l hl=>q _ _ _ (.new sub hl) (.tuple bn (ra.same (cP.new sub hl).sh))⟩⟩
  ·cases hd
   obtain ⟨a,vs,rfl,qa,ra,_⟩:=rx.tuple sub
   refine rV pins s σ H _ _ Q I (.cons ru .nil) ⟨a,vs,rfl,.inr ⟨qa,?_⟩⟩
   rcases rx with rx | ⟨_,_,_,_,_,ow⟩
   ·exact q _ H Hs (.refl sub) rx
   ·cases ow
  ·split at hd
   ·rename_i hz
    cases hd
    exact wY hc pins s σ H _ _ Q I (.cons ru .nil) ⟨_,by rw [rx.str],cr (dN hz),fun l hl=>q _ _ _ (.new sub hl) (.tuple bn (JP _))⟩
   ·cases hd
  ·cases hd
def AV:D->R D
 | .list xs=>.ok (.list xs)
 | .tuple xs=>.ok (.list xs)
 | _=>.no
theorem PF:KZ X (.type "list") (f_ AV):=by
 refine sG (fun d c n=>?_) fun pins s σ H x u Q Hs d d' I ru sub rx hd q=>?_
 ·unfold AV
  split<;>exact fun h=>by cases h
 ·unfold AV at hd
  split at hd
  ·cases hd
   obtain ⟨a,vs,rfl,qa,ra⟩:=rx.list sub
   exact ug pins s σ H _ _ Q I (.cons ru .nil) ⟨a,vs,rfl,.inl qa,fun l hl=>q _ _ _ (.new sub hl) (.list (.of bn) (ra.same (cP.new sub hl).sh))⟩
  ·cases hd
   obtain ⟨a,vs,rfl,qa,ra,_⟩:=rx.tuple sub
   exact ug pins s σ H _ _ Q I (.cons ru .nil) ⟨a,vs,rfl,.inr qa,fun l hl=>q _ _ _ (.new sub hl) (.list (.of bn) (ra.same (cP.new sub hl).sh))⟩
  ·cases hd
def fU:List D->Option (List Str)
 | []=>some []
 | .str b::r=>(fU r).map (b::·)
 | _::_=>none
theorem qq {ds:List D}:∀ {bs:List Str},fU ds=some bs->ds=bs.map aW:=by
 induction ds with
 | nil=>intro bs h;cases h;rfl
 | cons d r ih =>
  intro bs h
  cases d with
  | str b =>
   have h:(fU r).map (b::·)=some bs:=h
   cases hr:fU r with
   | none=>rw [hr] at h;cases h
   | some z=>rw [hr] at h;cases h;rw [ih hr];rfl
  | _=>cases h
@[simp] theorem strsOf_map:∀ bs:List Str,fU (bs.map aW)=some bs
 | []=>rfl
 | b::r=>by show (fU (r.map aW)).map (b::·)=_;rw [strsOf_map r];rfl
def qU:D->R D
 | .list ds=>match fU ds with
  | some ss=>if ss.length<64 then .ok (.list ((jv ss).map .str)) else .no
  | none=>.no
 | _=>.no
theorem JQ:KZ X (.builtin "sorted") (f_ qU):=by
 refine sG (fun d c n=>?_) fun pins s σ H x u Q Hs d d' I ru sub rx hd q=>?_
 ·unfold qU
  split<;>(try split)<;>(try split)<;>exact fun h=>by cases h
 ·unfold qU at hd
  split at hd
  ·split at hd
   ·split at hd
    ·rename_i ss hs hz
     cases hd
     obtain ⟨a,vs,rfl,qa,ra⟩:=rx.list sub
     rw [qq hs] at ra
     rw [oG ra] at qa
     exact vy pins s σ H _ _ Q I (.cons ru .nil) ⟨a,ss,rfl,qa,hz,fun l hl=>q _ _ _ (.new sub hl) (.list (.of bn) (xX _))⟩
    ·cases hd
   ·cases hd
  ·cases hd
end
end
section
inductive UA (K:a8) (cls:Str->aj) (n:Nat) (F:List D->R D) (vs:List V) (H:Hp) (Q:VK) (E:XK):Prop
 | mk (Hs ds:_) (h0:dH Hs H) (h1:ds.length=n) (h2:RDs K Hs vs ds) (h3:Fin K cls E H Hs (F ds) fun d=>∀ v H' Hs',cP H Hs H' Hs'->RD K Hs' v d->Q v H'):UA K cls n F vs H Q E
def UB (K:a8) (cls:Str->aj) (n:Nat) (F:List D->R D):Sp:=UA K cls n F
structure Fn (P:aM) (w:ba) (K:a8) (mg:Str->Option ac) (base:bB) (cls:Str->aj) (x:Str) (k n:Nat) (F:List D->R D):Prop where
 ex:∃ f fd ps,vo P w K mg base (qk P w) k f fd ps (UB K cls n F)/\mg x=some (.ref f)/\js K (.ref f)=true/\nT K fd ps []
section
variable {c:C}{e a b:aX}{g ga gb:aw->R D}{pos:Pos}{es:List aX}{gs:aw->R (List D)}{x:Str}{p:Pos}
def dg (n:Nat) (F:List D->R D) (gs:aw->R (List D)):aw->R D:=fun ρ=>(gs ρ).bind fun ds=>if ds.length=n then F ds else .no
theorem PH {k n:Nat}{F:List D->R D} (G:Fn c.X.prog c.X.w c.X.K c.X.mg c.X.base c.cls x k n F) (hr:lX k c.X.A) (hg:Gl c.X x) (hx:sx (qk c.X.prog c.X.w) c.X c.E) (ha:FD c (e::es) gs)
  (hdb:(x == ("__debug__" : Str))=false:=by decide) (he:aI (e::es) c.X.env=(false,dE e c.X.env)::aI es c.X.env:=by rfl) (hpl:(j4 pos (aI es c.X.env)).any (·.1)=false:=by rfl) :
  JE c (.Call (.Name x p) (e::es) [] pos) (dg n F gs):=.of fun ρ=>by
 obtain ⟨f,fd,ps,hf,hm,hk,hb⟩:=G.ex
 refine rX (Pc (E:=c.E) hf hr hg hm hk hb .nil hx (ha ρ) hdb he hpl) fun σ H Q h_0=>?_
 obtain ⟨H0,Hs0,la,Hs,fr,q⟩:=h_0
 refine C1 fr q fun ds vs H1 Hs1 e1 s1 f1 r1=>?_
 unfold dg at q
 rw [e1,bind_ok] at q
 by_cases hn:ds.length=n
 ·rw [if_pos hn] at q
  show UB _ _ _ _ (vs++[]) _ _ _
  rw [de]
  exact ⟨Hs1,ds,f1.st.sub,hn,r1,q.on s1 fun d k v H2 Hs2 s2 r2=>k v H2 Hs2 (s1.trans s2) r2⟩
 ·rw [if_neg hn] at q;exact q.elim
end
inductive Fl where
 | nx (ρ:aw)
 | rt (d:D)
 | bk (ρ:aw)
 | ct (ρ:aw)
def oI (K:a8) (cls:Str->aj) (E:XK) (H0 Hs0:Hp) (la:Nat->Option aj) (D:u7) (r:R Fl):Prop:=match r with
 | .ok (.nx ρ')=>∀ σ' H' Hs',Fr K H0 Hs0 la ρ' σ' H' Hs'->D.nx σ' H'
 | .ok (.bk ρ')=>∀ σ' H' Hs',Fr K H0 Hs0 la ρ' σ' H' Hs'->D.bk σ' H'
 | .ok (.ct ρ')=>∀ σ' H' Hs',Fr K H0 Hs0 la ρ' σ' H' Hs'->D.ct σ' H'
 | .ok (.rt d)=>∀ v H' Hs',cP H0 Hs0 H' Hs'->RD K Hs' v d->D.rt v H'
 | .ex c n=>∀ H' Hs',cP H0 Hs0 H' Hs'->XW K cls E c n H' Hs'
 | .no=>False
inductive Xd (K:a8) (cls:Str->aj) (E:XK) (ρ:aw) (r:R Fl) (D:u7) (σ:St) (H:Hp):Prop
 | mk (H0 Hs0:Hp) (la:Nat->Option aj) (Hs:Hp) (f:Fr K H0 Hs0 la ρ σ H Hs) (q:oI K cls E H0 Hs0 la D r):Xd K cls E ρ r D σ H
def SR (K:a8) (cls:Str->aj) (E:XK) (ρ:aw) (r:R Fl):TS:=Xd K cls E ρ r
structure JS (c:C) (s:cA) (g:aw->R Fl):Prop where of ::
 run:∀ ρ,PS c.X s (SR c.X.K c.cls c.E ρ (g ρ))
instance {c:C}{s:cA}{g:aw->R Fl}:CoeFun (JS c s g) (fun _=>∀ ρ,PS c.X s (SR c.X.K c.cls c.E ρ (g ρ))):=⟨JS.run⟩
structure HL (c:C) (s:List cA) (g:aw->R Fl):Prop where of ::
 run:∀ ρ,Hu c.X s (SR c.X.K c.cls c.E ρ (g ρ))
instance {c:C}{s:List cA}{g:aw->R Fl}:CoeFun (HL c s g) (fun _=>∀ ρ,Hu c.X s (SR c.X.K c.cls c.E ρ (g ρ))):=⟨HL.run⟩
theorem Fr.set {K:a8}{H0 Hs0 H Hs:Hp}{la:Nat->Option aj}{ρ:aw}{σ:St} (f:Fr K H0 Hs0 la ρ σ H Hs) (i:Nat) {v:V}{d:D} (r:RD K Hs v d):Fr K H0 Hs0 la (ρ.set i (.shr d)) (σ.set i (some v)) H Hs:=by
 have hl:=f.len
 have nx:∀ {j:Nat}{s:Sl},(∀ d,s≠.shr d)->(ρ.set i (.shr d))[j]?=some s->ρ[j]?=some s/\i≠j:=fun {j s} hs e=>by
  by_cases hj:i=j
  ·subst hj
   by_cases hi:i<ρ.length
   ·rw [aK hi] at e;exact absurd (bG e).symm (hs d)
   ·rw [cC (by simpa using hi)] at e;cases e
  ·rw [al hj] at e;exact ⟨e,hj⟩
 refine ⟨f.st,by simp [hl],fun j e h=>?_,fun j e h=>?_,fun j e h=>?_,fun j k d1 d2 a h1 h2 h3 h4=>?_,f.lh,fun j e h=>?_,fun j k d1 d2 h1 h2=>?_⟩
 ·by_cases hj:i=j
  ·subst hj
   by_cases hi:i<ρ.length
   ·rw [aK hi] at h
    cases h
    exact ⟨v,aK (by omega),r⟩
   ·rw [cC (by simpa using hi)] at h;cases h
  ·rw [al hj] at h ⊢
   exact f.sh j e h
 ·obtain ⟨h,hj⟩:=nx (fun _ z=>by cases z) h
  rw [al hj]
  exact f.ow j e h
 ·obtain ⟨h,hj⟩:=nx (fun _ z=>by cases z) h
  rw [al hj]
  exact f.lk j e h
 ·obtain ⟨h1,n1⟩:=nx (fun _ z=>by cases z) h1
  obtain ⟨h2,n2⟩:=nx (fun _ z=>by cases z) h2
  rw [al n1] at h3
  rw [al n2] at h4
  exact f.dj j k d1 d2 a h1 h2 h3 h4
 ·obtain ⟨h,hj⟩:=nx (fun _ z=>by cases z) h
  obtain ⟨a,as,O⟩:=f.o2 j e h
  refine ⟨a,as,by rw [al hj];exact O.at_,O.ob,O.nd,O.out,fun b hb k e' hk=>?_,O.inn⟩
  obtain ⟨hk,nk⟩:=nx (fun _ z=>by cases z) hk
  rw [al nk]
  exact O.dj b hb k e' hk
 ·exact f.u2 j k d1 d2 (nx (fun _ z=>by cases z) h1).1 (nx (fun _ z=>by cases z) h2).1
theorem Fr.setO {K:a8}{H0 Hs0 H Hs:Hp}{la:Nat->Option aj}{ρ:aw}{σ:St} (f:Fr K H0 Hs0 la ρ σ H Hs) (i:Nat) {a:aj}{o:HO}{d:D} (n:H a=none) (r:mG K Hs o d):Fr K H0 Hs0 la (ρ.set i (.own d)) (σ.set i (some (.ref a))) (upd H a o) Hs:=by
 have f':=f.step (cP.mine (o:=o) f.st.sub n)
 have hl:=f.len
 have n0:H0 a=none:=f.st.all.free n
 have ns:Hs a=none:=f.st.sub.free n
 have nx:∀ {j:Nat}{s:Sl},(∀ d,s≠.own d)->(ρ.set i (.own d))[j]?=some s->ρ[j]?=some s/\i≠j:=fun {j s} hs e=>by
  by_cases hj:i=j
  ·subst hj
   by_cases hi:i<ρ.length
   ·rw [aK hi] at e;exact absurd (bG e).symm (hs d)
   ·rw [cC (by simpa using hi)] at e;cases e
  ·rw [al hj] at e;exact ⟨e,hj⟩
 have ne:∀ j e,ρ[j]?=some (Sl.own e)->σ[j]?≠some (some (V.ref a)):=fun j e h z=>by
  obtain ⟨b,o',h1,h2,_⟩:=f.ow j e h
  rw [z] at h1
  cases h1
  rw [n] at h2;cases h2
 refine ⟨f'.st,by simp [hl],fun j e h=>?_,fun j e h=>?_,fun j e h=>?_,fun j k d1 d2 b h1 h2 h3 h4=>?_,f.lh,fun j e h=>?_,fun j k d1 d2 h1 h2=>?_⟩
 ·obtain ⟨h,hj⟩:=nx (fun _ z=>by cases z) h
  rw [al hj]
  exact f'.sh j e h
 ·by_cases hj:i=j
  ·subst hj
   by_cases hi:i<ρ.length
   ·rw [aK hi] at h
    cases h
    exact ⟨a,o,aK (by omega),bn,ns,n0,r⟩
   ·rw [cC (by simpa using hi)] at h;cases h
  ·rw [al hj] at h ⊢
   exact f'.ow j e h
 ·obtain ⟨h,hj⟩:=nx (fun _ z=>by cases z) h
  rw [al hj]
  exact f'.lk j e h
 ·by_cases hj:i=j
  ·by_cases hk:i=k
   ·exact hj.symm.trans hk
   ·rw [al hk] at h2 h4
    subst hj
    by_cases hi:i<ρ.length
    ·rw [aK (by omega)] at h3
     cases h3
     exact (ne k d2 h2 h4).elim
    ·rw [cC (by simpa using hi)] at h1;cases h1
  ·rw [al hj] at h1 h3
   by_cases hk:i=k
   ·subst hk
    by_cases hi:i<ρ.length
    ·rw [aK (by omega)] at h4
     cases h4
     exact (ne j d1 h1 h3).elim
    ·rw [cC (by simpa using hi)] at h2;cases h2
   ·rw [al hk] at h2 h4
    exact f.dj j k d1 d2 b h1 h2 h3 h4
 ·obtain ⟨h,hj⟩:=nx (fun _ z=>by cases z) h
  obtain ⟨b,as,O⟩:=f.o2 j e h
  have nb:∀ c∈b::as,c≠a:=fun c hc z=>by
   subst z
   rcases List.mem_cons.mp hc with z | z
   ·have:=O.ob;rw [<- z,n] at this;cases this
   ·obtain ⟨o,ho,_⟩:=O.inn.there z;rw [n] at ho;cases ho
  refine ⟨b,as,by rw [al hj];exact O.at_,by rw [bt (nb b am)];exact O.ob,O.nd,O.out,fun c hc k e' hk=>?_,O.inn.upd fun z=>nb a (ak _ z) rfl⟩
  by_cases nk:i=k
  ·subst nk
   intro z
   by_cases hi:i<ρ.length
   ·rw [aK (by omega)] at z
    cases z
    exact nb _ hc rfl
   ·rw [cC (by simp;omega)] at hk;cases hk
  ·rw [al nk] at hk ⊢
   exact O.dj c hc k e' hk
 ·exact f.u2 j k d1 d2 (nx (fun _ z=>by cases z) h1).1 (nx (fun _ z=>by cases z) h2).1
theorem Fr.write {K:a8}{H0 Hs0 H Hs:Hp}{la:Nat->Option aj}{ρ:aw}{σ:St} (f:Fr K H0 Hs0 la ρ σ H Hs) (i:Nat) {a:aj}{o:HO}{d d':D} (hi:ρ[i]?=some (Sl.own d)) (hs:σ[i]?=some (some (V.ref a))) (r:mG K Hs o d'):Fr K H0 Hs0 la (ρ.set i (.own d')) σ (upd H a o) Hs:=by
 obtain ⟨a',o',h1,h2,h3,h4,h5⟩:=f.ow i d hi
 rw [hs] at h1
 cases h1
 have hl:=f.len
 have hil:i<ρ.length:=(List.getElem?_eq_some_iff.mp hi).1
 have nx:∀ {j:Nat}{s:Sl},(∀ d,s≠.own d)->(ρ.set i (.own d'))[j]?=some s->ρ[j]?=some s/\i≠j:=fun {j s} hs e=>by
  by_cases hj:i=j
  ·subst hj
   rw [aK hil] at e;exact absurd (bG e).symm (hs d')
  ·rw [al hj] at e;exact ⟨e,hj⟩
 refine ⟨⟨fun b u e=>?_,f.st.sh,fun b u e=>?_,f.st.out⟩,by simp [hl],fun j e h=>?_,fun j e h=>?_,fun j e h=>?_,fun j k d1 d2 b h1 h2 h3 h4=>?_,f.lh,fun j e h=>?_,fun j k d1 d2 h1 h2=>?_⟩
 ·rw [bt (bT e h4)];exact f.st.all b u e
 ·rw [bt (bT e h3)];exact f.st.sub b u e
 ·obtain ⟨h,hj⟩:=nx (fun _ z=>by cases z) h
  exact f.sh j e h
 ·by_cases hj:i=j
  ·subst hj
   rw [aK hil] at h
   cases h
   exact ⟨a,o,hs,bn,h3,h4,r⟩
  ·rw [al hj] at h
   obtain ⟨b,u,k1,k2,k3,k4,k5⟩:=f.ow j e h
   refine ⟨b,u,k1,?_,k3,k4,k5⟩
   rw [bt (fun z=>hj ?_)]
   ·exact k2
   ·subst z
    exact f.dj i j d e b hi h hs k1
 ·obtain ⟨h,hj⟩:=nx (fun _ z=>by cases z) h
  obtain ⟨b,u,k1,k2,k3,k4,k5,k6⟩:=f.lk j e h
  refine ⟨b,u,k1,k2,?_,k4,k5,k6⟩
  rw [bt (bT k5 h4)]
  exact k3
 ·have own:∀ {j:Nat}{e:D},(ρ.set i (.own d'))[j]?=some (Sl.own e)->∃ e',ρ[j]?=some (Sl.own e'):=fun {j e} h=>by
   by_cases hj:i=j
   ·subst hj;exact ⟨d,hi⟩
   ·rw [al hj] at h;exact ⟨e,h⟩
  obtain ⟨e1,h1⟩:=own h1
  obtain ⟨e2,h2⟩:=own h2
  exact f.dj j k e1 e2 b h1 h2 h3 h4
 ·obtain ⟨h,hj⟩:=nx (fun _ z=>by cases z) h
  obtain ⟨b,as,O⟩:=f.o2 j e h
  have nb:∀ c∈b::as,c≠a:=fun c hc z=>by
   subst z
   exact O.dj c hc i d hi hs
  refine ⟨b,as,O.at_,by rw [bt (nb b am)];exact O.ob,O.nd,O.out,fun c hc k e' hk=>?_,O.inn.upd fun z=>nb a (ak _ z) rfl⟩
  by_cases nk:i=k
  ·subst nk
   exact O.dj c hc i d hi
  ·rw [al nk] at hk
   exact O.dj c hc k e' hk
 ·exact f.u2 j k d1 d2 (nx (fun _ z=>by cases z) h1).1 (nx (fun _ z=>by cases z) h2).1
def fq (ρ:aw):aw:=ρ.map fun s=>match s with
 | .own d=>.shr d
 | .ow2 dss=>.shr (.list (dss.map .list))
 | s=>s
open Classical in
theorem Fr.share {K:a8}{H0 Hs0 H Hs:Hp}{la:Nat->Option aj}{ρ:aw}{σ:St} (f:Fr K H0 Hs0 la ρ σ H Hs):∃ Hs',Fr K H0 Hs0 la (fq ρ) σ H Hs'/\cP H Hs H Hs'\/Fr K H0 Hs0 la (fq ρ) σ H Hs':=by
 let P:aj->Prop:=fun b=>(∃ (i:Nat) (d:D),ρ[i]?=some (Sl.own d)/\σ[i]?=some (some (V.ref b)))\/∃ (i:Nat) (dss:List (List D)) (a:aj) (as:List aj),ρ[i]?=some (Sl.ow2 dss)/\O2 K H0 H Hs ρ σ i dss a as/\b∈a::as
 let Hs':Hp:=fun b=>if P b then H b else Hs b
 have pos:∀ b,P b->Hs' b=H b:=fun b h=>if_pos h
 have neg:∀ b,¬ P b->Hs' b=Hs b:=fun b h=>if_neg h
 have up:dH Hs Hs':=fun b o e=>by
  by_cases h:P b
  ·rw [pos b h];exact f.st.sub b o e
  ·rw [neg b h];exact e
 have none0:∀ b o,H0 b=some o->¬ P b:=fun b o e hP=>by
  rcases hP with ⟨i,d,h1,h2⟩ | ⟨i,dss,a,as,h1,O,hb⟩
  ·obtain ⟨a,o',k1,_,_,k4,_⟩:=f.ow i d h1
   rw [h2] at k1;cases k1
   rw [e] at k4;cases k4
  ·have:=(O.out b hb).2
   rw [e] at this;cases this
 have un:∀ {j:Nat}{s:Sl},(fq ρ)[j]?=some s->(∃ d,s=.shr d/\ρ[j]?=some (Sl.own d))\/(∃ dss:List (List D),s=.shr (.list (dss.map .list))/\ρ[j]?=some (Sl.ow2 dss))\/((∀ d,s≠.own d)/\(∀ d,s≠.ow2 d)/\ρ[j]?=some s):=fun {j s} e=>by
  unfold fq at e
  rw [aZ] at e
  cases h:ρ[j]? with
  | none=>rw [h] at e;cases e
  | some t =>
   rw [h] at e
   cases t with
   | own d=>cases e;exact .inl ⟨d,rfl,rfl⟩
   | no=>cases e;exact .inr (.inr ⟨fun _ z=>(by cases z),fun _ z=>(by cases z),rfl⟩)
   | shr d=>cases e;exact .inr (.inr ⟨fun _ z=>(by cases z),fun _ z=>(by cases z),rfl⟩)
   | lck d=>cases e;exact .inr (.inr ⟨fun _ z=>(by cases z),fun _ z=>(by cases z),rfl⟩)
   | ow2 d=>cases e;exact .inr (.inl ⟨d,rfl,rfl⟩)
 refine ⟨Hs',.inr ⟨⟨f.st.all,f.st.sh.trans up,fun b o e=>?_,fun a o e t z=>?_⟩,by simp [fq,f.len],fun j d h=>?_,fun j d h=>?_,fun j d h=>?_,fun j k d1 d2 a h1 h2 _ _=>?_,f.lh,fun j d h=>?_,fun j k d1 d2 h1 h2=>?_⟩⟩
 ·by_cases h:P b
  ·rw [pos b h] at e;exact e
  ·rw [neg b h] at e;exact f.st.sub b o e
 ·rw [neg a (none0 a o e)];exact f.st.out a o e t z
 ·rcases un h with ⟨d',e,h'⟩ | ⟨dss,e,h'⟩ | ⟨_,_,h'⟩
  ·cases e
   obtain ⟨a,o,k1,k2,k3,k4,k5⟩:=f.ow j d h'
   refine ⟨_,k1,?_⟩
   have hp:Hs' a=some o:=by rw [pos a (.inl ⟨j,d,h',k1⟩)];exact k2
   have e:dH (upd Hs a o) Hs':=fun b u q=>by
    by_cases hb:b=a
    ·subst hb;rw [bn] at q;cases q;exact hp
    ·rw [bt hb] at q;exact up b u q
   exact (k5.share k3).same e
  ·cases e
   obtain ⟨a,as,O⟩:=f.o2 j dss h'
   refine ⟨_,O.at_,?_⟩
   have hp:∀ b∈a::as,∀ o,H b=some o->Hs' b=some o:=fun b hb o ho=>by rw [pos b (.inr ⟨j,dss,a,as,h',O,hb⟩)];exact ho
   refine .list (.of (hp a am _ O.ob)) ?_
   have go:∀ {as':List aj}{dss':List (List D)},(∀ b∈as',b∈a::as)->AS K H Hs as' dss'->RDs K Hs' (as'.map V.ref) (dss'.map .list):=fun {as' dss'} hs hi=>by
    induction hi with
    | nil=>exact .nil
    | cons h1 h2 _ ih=>exact .cons (.list (.of (hp _ (hs _ am) _ h1)) (h2.same up)) (ih fun b hb=>hs b (ak _ hb))
   exact go (fun b hb=>ak _ hb) O.inn
  ·obtain ⟨v,k1,k2⟩:=f.sh j d h'
   exact ⟨v,k1,k2.same up⟩
 ·rcases un h with ⟨d',e,h'⟩ | ⟨d',e,h'⟩ | ⟨n,_,h'⟩
  ·cases e
  ·cases e
  ·exact (n d rfl).elim
 ·rcases un h with ⟨d',e,h'⟩ | ⟨d',e,h'⟩ | ⟨_,_,h'⟩
  ·cases e
  ·cases e
  ·obtain ⟨a,o,k1,k2,k3,k4,k5,k6⟩:=f.lk j d h'
   exact ⟨a,o,k1,k2,k3,by rw [neg a (none0 a o k5)];exact k4,k5,k6.same up⟩
 ·rcases un h1 with ⟨d',e,h'⟩ | ⟨d',e,h'⟩ | ⟨n,_,h'⟩
  ·cases e
  ·cases e
  ·exact (n d1 rfl).elim
 ·rcases un h with ⟨d',e,h'⟩ | ⟨d',e,h'⟩ | ⟨_,n,h'⟩
  ·cases e
  ·cases e
  ·exact (n d rfl).elim
 ·rcases un h1 with ⟨d',e,h'⟩ | ⟨d',e,h'⟩ | ⟨_,n,h'⟩
  ·cases e
  ·cases e
  ·exact (n d1 rfl).elim
theorem Fr.shared {K:a8}{H0 Hs0 H Hs:Hp}{la:Nat->Option aj}{ρ:aw}{σ:St} (f:Fr K H0 Hs0 la ρ σ H Hs):∃ Hs',Fr K H0 Hs0 la (fq ρ) σ H Hs':=by
 obtain ⟨Hs',h | h⟩:=f.share
 ·exact ⟨Hs',h.1⟩
 ·exact ⟨Hs',h⟩
section
variable {c:C}{e a b:aX}{g ga gb:aw->R D}{pos:Pos}{x:Str}{st:cA}{c7:List cA}{gs gr:aw->R Fl}
def aD (g h:aw->R Fl):aw->R Fl:=fun ρ=>(g ρ).bind fun fl=>match fl with
 | .nx ρ'=>h ρ'
 | fl=>.ok fl
theorem c9:HL c [] (fun ρ=>.ok (.nx ρ)):=.of fun ρ=>Wz P3 fun D σ H h_1=>by obtain ⟨H0,Hs0,la,Hs,f,q⟩:=h_1;exact q σ H Hs f
theorem aH (h:JS c st gs):HL c [st] gs:=.of fun ρ=>P4 (h ρ)
theorem ap (h:JS c st gs) (hr:HL c c7 gr):HL c (st::c7) (aD gs gr):=.of fun ρ pins s σ H D I h_2=>by
 obtain ⟨H0,Hs0,la,Hs,f,q⟩:=h_2
 unfold aD at q
 cases hg:gs ρ with
 | no=>rw [hg] at q;exact q.elim
 | ex x n =>
  rw [hg] at q
  refine qd (h ρ) (qN (X:=c.X) (sts:=c7)) pins s σ H D I ⟨H0,Hs0,la,Hs,f,?_⟩
  rw [hg]
  exact q
 | ok fl =>
  rw [hg,bind_ok] at q
  cases fl with
  | nx ρ' =>
   refine qd (h ρ) (hr ρ') pins s σ H D I ⟨H0,Hs0,la,Hs,f,?_⟩
   rw [hg]
   exact fun σ' H' Hs' f'=>⟨H0,Hs0,la,Hs',f',q⟩
  | rt d =>
   refine qd (h ρ) (qN (X:=c.X) (sts:=c7)) pins s σ H D I ⟨H0,Hs0,la,Hs,f,?_⟩
   rw [hg]
   exact q
  | bk ρ' =>
   refine qd (h ρ) (qN (X:=c.X) (sts:=c7)) pins s σ H D I ⟨H0,Hs0,la,Hs,f,?_⟩
   rw [hg]
   exact q
  | ct ρ' =>
   refine qd (h ρ) (qN (X:=c.X) (sts:=c7)) pins s σ H D I ⟨H0,Hs0,la,Hs,f,?_⟩
   rw [hg]
   exact q
theorem sE {K:a8}{cls:Str->aj}{E:XK}{ρ:aw}{r:R D}{k:D->R Fl}{σ:St}{H:Hp}{H0 Hs0 Hs:Hp}{la:Nat->Option aj}{D':u7}{Q:V->Hp->Prop} (f:Fr K H0 Hs0 la ρ σ H Hs)
  (h:oI K cls E H0 Hs0 la D' (r.bind k)) (m:∀ d v H' Hs',r=.ok d->cP H Hs H' Hs'->Fr K H0 Hs0 la ρ σ H' Hs'->RD K Hs' v d->Q v H'):TR K cls E ρ r σ H Q:=by
 refine ⟨H0,Hs0,la,Hs,f,?_⟩
 cases r with
 | ok d=>exact fun v H' Hs' s r=>m d v H' Hs' rfl s (f.step s) r
 | ex c n=>exact fun H' Hs' s=>h H' Hs' (f.st.trans s)
 | no=>exact h
theorem sT {K:a8}{cls:Str->aj}{E:XK}{ρ:aw}{r:R Bool}{k:Bool->R Fl}{σ:St}{H:Hp}{H0 Hs0 Hs:Hp}{la:Nat->Option aj}{D':u7}{Q:Bool->Hp->Prop} (f:Fr K H0 Hs0 la ρ σ H Hs)
  (h:oI K cls E H0 Hs0 la D' (r.bind k)) (m:∀ d H' Hs',r=.ok d->cP H Hs H' Hs'->Fr K H0 Hs0 la ρ σ H' Hs'->Q d H'):JH K cls E ρ r σ H Q:=by
 refine ⟨H0,Hs0,la,Hs,f,?_⟩
 cases r with
 | ok d=>exact fun H' Hs' s=>m d H' Hs' rfl s (f.step s)
 | ex c n=>exact fun H' Hs' s=>h H' Hs' (f.st.trans s)
 | no=>exact h
def cu (g:aw->R D):aw->R Fl:=fun ρ=>(g (fq ρ)).bind fun d=>.ok (.rt d)
theorem bw (h:JE c e g):JS c (.Return (some e) pos) (cu g):=.of fun ρ=>Ab (S2 (h (fq ρ))) fun D σ H h_3=>by
 obtain ⟨H0,Hs0,la,Hs,f,q⟩:=h_3
 obtain ⟨Hs',f'⟩:=f.shared
 refine sE f' q fun d v H1 Hs1 e1 s1 f1 r1=>?_
 unfold cu at q
 rw [e1,bind_ok] at q
 exact q v H1 Hs1 f1.st r1
def dC (t:aw->R Bool) (g h:aw->R Fl):aw->R Fl:=fun ρ=>(t ρ).bind fun b=>if b then g ρ else h ρ
theorem dU {t:aX}{gt:aw->R Bool}{A B:List cA}{gA gB:aw->R Fl} (ht:JT c t gt) (hA:HL c A gA) (hB:HL c B gB):JS c (.If t A B pos) (dC gt gA gB):=.of fun ρ=>Ab (TQ (ht ρ) (hA ρ) (hB ρ)) fun D σ H h_5=>by
 obtain ⟨H0,Hs0,la,Hs,f,q⟩:=h_5
 refine sT f q fun d H1 Hs1 e1 s1 f1=>?_
 unfold dC at q
 rw [e1,bind_ok] at q
 cases d with
 | true=>exact BM ⟨H0,Hs0,la,Hs1,f1,q⟩
 | false=>exact BL ⟨H0,Hs0,la,Hs1,f1,q⟩
def cW (i:Nat) (g:aw->R D):aw->R Fl:=fun ρ=>(g ρ).bind fun d=>.ok (.nx (ρ.set i (.shr d)))
theorem cz (i:Nat) {pos':Pos} (h:JE c e g) (hN:c.X.N.Nodup) (hi:c.X.N[i]?=some x:=by rfl) (hx:QF c.X.env.scope x:=by first | exact iP rfl | exact fv rfl) (hs:gW e (some (.Name x pos')) pos.line c.X.env=pure false:=by rfl)
  (hf:c.X.fn x=true\/c.X.env.scope.names.lookup x=some .local:=by first | exact .inl rfl | exact .inr rfl | assumption):JS c (.Assign [.Name x pos'] e pos) (cW i g):=.of fun ρ=>Ab (G1 hN hi hx (h ρ) hs hf) fun D σ H h_6=>by
 obtain ⟨H0,Hs0,la,Hs,f,q⟩:=h_6
 refine sE f q fun d v H1 Hs1 e1 s1 f1 r1=>?_
 unfold cW at q
 rw [e1,bind_ok] at q
 exact q _ H1 Hs1 (f1.set i r1)
def pH (g:aw->R D):aw->R Fl:=fun ρ=>(g ρ).bind fun _=>.ok (.nx ρ)
theorem mU (h:JE c e g) (hs:gW e none pos.line c.X.env=pure false:=by rfl):JS c (.Expr e pos) (pH g):=.of fun ρ=>Ab (BE (h ρ) hs) fun D σ H h_7=>by
 obtain ⟨H0,Hs0,la,Hs,f,q⟩:=h_7
 refine sE f q fun d v H1 Hs1 e1 s1 f1 r1=>?_
 unfold pH at q
 rw [e1,bind_ok] at q
 exact q _ H1 Hs1 f1
def Xe (K:a8) (H0 Hs0:Hp) (la:Nat->Option aj) (H Hs:Hp) (Q:St->Hp->Prop) (r:R aw):Prop:=match r with
 | .ok ρ'=>∀ σ',Fr K H0 Hs0 la ρ' σ' H Hs->Q σ' H
 | _=>False
inductive UC (K:a8) (ρ:aw) (d:D) (r:R aw) (v:V) (σ:St) (H:Hp) (Q:St->Hp->Prop):Prop
 | mk (H0 Hs0:Hp) (la:Nat->Option aj) (Hs:Hp) (f:Fr K H0 Hs0 la ρ σ H Hs) (rd:RD K Hs v d) (q:Xe K H0 Hs0 la H Hs Q r):UC K ρ d r v σ H Q
def SH (K:a8) (ρ:aw) (d:D) (r:R aw):TG:=UC K ρ d r
inductive R5 (K:a8) (ρ:aw) (ds:List D) (r:R aw) (vs:List V) (σ:St) (H:Hp) (Q:St->Hp->Prop):Prop
 | mk (H0 Hs0:Hp) (la:Nat->Option aj) (Hs:Hp) (f:Fr K H0 Hs0 la ρ σ H Hs) (rd:RDs K Hs vs ds) (q:Xe K H0 Hs0 la H Hs Q r):R5 K ρ ds r vs σ H Q
def UD (K:a8) (ρ:aw) (ds:List D) (r:R aw):Ln:=R5 K ρ ds r
structure JG (c:C) (t:aX) (k:D->aw->R aw):Prop where of ::
 run:∀ ρ d,PG c.X t (SH c.X.K ρ d (k d ρ))
instance {c:C}{t:aX}{k:D->aw->R aw}:CoeFun (JG c t k) (fun _=>∀ ρ d,PG c.X t (SH c.X.K ρ d (k d ρ))):=⟨JG.run⟩
structure Tz (c:C) (t:List aX) (k:List D->aw->R aw):Prop where of ::
 run:∀ ρ d,QH c.X t (UD c.X.K ρ d (k d ρ))
instance {c:C}{t:List aX}{k:List D->aw->R aw}:CoeFun (Tz c t k) (fun _=>∀ ρ d,QH c.X t (UD c.X.K ρ d (k d ρ))):=⟨Tz.run⟩
theorem Xf {X:Cx}{e:aX}{t t':TG} (h:PG X e t) (m:∀ v σ H Q,t' v σ H Q->t v σ H Q):PG X e t':=fun pins s σ H v u Q I r q=>h pins s σ H v u Q I r (m v σ H Q q)
theorem WE {X:Cx}{e:List aX}{t t':Ln} (h:QH X e t) (m:∀ v σ H Q,t' v σ H Q->t v σ H Q):QH X e t':=fun pins s σ H v u Q I r q=>h pins s σ H v u Q I r (m v σ H Q q)
def bg (i:Nat):D->aw->R aw:=fun d ρ=>.ok (ρ.set i (.shr d))
theorem bU (i:Nat) (hN:c.X.N.Nodup) (hi:c.X.N[i]?=some x:=by rfl) (hx:QF c.X.env.scope x:=by first | exact iP rfl | exact fv rfl) (hf:c.X.fn x=true\/c.X.env.scope.names.lookup x=some .local:=by first | exact .inl rfl | exact .inr rfl | assumption) :
  JG c (.Name x pos) (bg i):=.of fun ρ d=>Xf (cR hN hi hx hf) fun v σ H Q h_11=>by obtain ⟨H0,Hs0,la,Hs,f,r,q⟩:=h_11;exact q _ (f.set i r)
variable {kt:D->aw->R aw}{kts:List D->aw->R aw}{t:aX}{ts:List aX}
def jp:List D->aw->R aw:=fun ds ρ=>match ds with
 | []=>.ok ρ
 | _=>.no
def bO (k:D->aw->R aw) (ks:List D->aw->R aw):List D->aw->R aw:=fun ds ρ=>match ds with
 | d::r=>(k d ρ).bind fun ρ'=>ks r ρ'
 | _=>.no
theorem i_:Tz c [] jp:=.of fun ρ ds=>WE BF fun vs σ H Q h_12=>by
 obtain ⟨H0,Hs0,la,Hs,f,r,q⟩:=h_12
 cases r with
 | nil=>exact ⟨rfl,q σ f⟩
 | cons _ _=>exact q.elim
theorem ca (h:JG c t kt) (hr:Tz c ts kts) (hs:(ia (t::ts) c.X.env).map (·.2)=p_ t c.X.env::(ia ts c.X.env).map (·.2):=by rfl):Tz c (t::ts) (bO kt kts):=.of fun ρ ds pins s σ H vs us Q I rv h_13=>by
 obtain ⟨H0,Hs0,la,Hs,f,r,q⟩:=h_13
 cases r with
 | nil=>exact q.elim
 | @cons v vr d dr r1 r2 =>
  unfold bO at q
  cases hk:kt d ρ with
  | ok ρ' =>
   simp only [hk,bind_ok] at q
   refine qe (h ρ d) (hr ρ' dr) hs pins s σ H _ us Q I rv ⟨v,vr,rfl,H0,Hs0,la,Hs,f,r1,?_⟩
   rw [hk]
   exact fun σ' f'=>⟨H0,Hs0,la,Hs,f',r2,q⟩
  | ex x n=>simp only [hk,bind_ex] at q;exact q.elim
  | no=>simp only [hk,bind_no] at q;exact q.elim
def iX (n:Nat) (ks:List D->aw->R aw):D->aw->R aw:=fun d ρ=>match d with
 | .tuple ds=>if ds.length=n then ks ds ρ else .no
 | _=>.no
theorem l9 {k n:Nat} (hc:c.X.calm=true) (h:Tz c ts kts) (hn:(ia ts c.X.env).length=n:=by rfl) (hst:(ia ts c.X.env).findIdx? (·.1)=none:=by rfl):JG c (.Tuple ts k pos) (iX n kts):=.of fun ρ d=>by
 cases d with
 | tuple ds =>
  refine Xf (G0 hc (h ρ ds) hn hst) fun v σ H Q h_14=>?_
  obtain ⟨H0,Hs0,la,Hs,f,r,q⟩:=h_14
  cases r with
  | @tuple p xs _ hq rs =>
   unfold iX at q
   by_cases hl:ds.length=n
   ·simp only [if_pos hl] at q
    exact ⟨p,xs,rfl,(kK.of (f.st.sub _ _ hq)),by rw [rs.length];exact hl,H0,Hs0,la,Hs,f,rs,q⟩
   ·simp only [if_neg hl] at q;exact q.elim
 | _=>exact fun pins s σ H v u Q I rv h_15=>by obtain ⟨H0,Hs0,la,Hs,f,r,q⟩:=h_15;exact q.elim
def sI (g:aw->R D) (k:D->aw->R aw):aw->R Fl:=fun ρ=>(g ρ).bind fun d=>match k d ρ with
 | .ok ρ'=>.ok (.nx ρ')
 | _=>.no
theorem qr (h:JE c e g) (hg:JG c t kt) (hs:xi [t] e pos.line c.X.env=pure false:=by rfl) (hw:xj [t] e c.X.env=pure none:=by rfl) (h1:(ia [t] c.X.env).map (·.2)=[p_ t c.X.env]:=by rfl) :
  JS c (.Assign [t] e pos) (sI g kt):=.of fun ρ=>by
 cases hr:g ρ with
 | ok d =>
  refine Ab (Lp (h ρ) (hg ρ d) hs hw h1) fun D σ H h_16=>?_
  obtain ⟨H0,Hs0,la,Hs,f,q⟩:=h_16
  refine sE (k:=fun d=>match kt d ρ with | .ok ρ'=>.ok (.nx ρ') | _=>.no) f q fun d' v H1 Hs1 e1 s1 f1 r1=>?_
  rw [hr] at e1
  cases e1
  unfold sI at q
  rw [hr,bind_ok] at q
  refine ⟨H0,Hs0,la,Hs1,f1,r1,?_⟩
  cases hk:kt d ρ with
  | ok ρ'=>rw [hk] at q;exact fun σ' f'=>q σ' H1 Hs1 f'
  | ex x n=>rw [hk] at q;exact q.elim
  | no=>rw [hk] at q;exact q.elim
 | ex x n =>
  refine Ab (Lp (h ρ) (hg ρ .none) hs hw h1) fun D σ H h_17=>?_
  obtain ⟨H0,Hs0,la,Hs,f,q⟩:=h_17
  refine sE (k:=fun _=>.no) (D':=D) f (by unfold sI at q;rw [hr] at q ⊢;exact q) fun d' v H1 Hs1 e1 s1 f1 r1=>?_
  rw [hr] at e1;cases e1
 | no =>
  refine fun pins s σ H D I h_18=>?_
  obtain ⟨H0,Hs0,la,Hs,f,q⟩:=h_18
  unfold sI at q
  rw [hr] at q
  exact q.elim
end
end
section
def JR (K:a8) (J:It) (ds:List D) (Hn Hs:Hp):Prop:=∀ H2 Hs2,dH Hn H2->dH Hs Hs2->dH Hs2 H2 ->
 (∀ i,i<ds.length->J.go i H2)/\(∀ i,ds.length<=i->J.stop i H2)/\∀ i x H3,i<ds.length->J.yld i H2 x H3->∃ d Hs3,ds[i]?=some d/\cP H2 Hs2 H3 Hs3/\RD K Hs3 x d
theorem C7 {K:a8}{Hn Hs:Hp}{a:aj}{vs:List V}{ds:List D} (h:lW K Hn a vs) (r:RDs K Hs vs ds):JR K (W4 K a) ds Hn Hs:=fun H2 Hs2 e1 e2 e3=>by
 have q:=e1.seq h
 refine ⟨fun i hi=>?_,fun i hi=>⟨vs,q,by rw [r.length];exact hi⟩,fun i x H3 hi y=>?_⟩
 ·have hi':i<vs.length:=by rw [r.length];exact hi
  exact ⟨vs,vs[i],q,aN hi'⟩
 ·obtain ⟨rfl,y⟩:=y
  obtain ⟨d,k1,k2⟩:=r.get (y vs q)
  exact ⟨d,Hs2,k1,.refl e3,k2.same e2⟩
theorem Mh {K:a8}{Hn Hs:Hp}{a:aj}{vs:List V}{ds:List D} (h:kK K Hn a vs) (r:RDs K Hs vs ds):JR K (W5 K a) ds Hn Hs:=fun H2 Hs2 e1 e2 e3=>by
 have q:=e1.tup h
 refine ⟨fun i hi=>?_,fun i hi=>⟨vs,q,by rw [r.length];exact hi⟩,fun i x H3 hi y=>?_⟩
 ·have hi':i<vs.length:=by rw [r.length];exact hi
  exact ⟨vs,vs[i],q,aN hi'⟩
 ·obtain ⟨rfl,y⟩:=y
  obtain ⟨d,k1,k2⟩:=r.get (y vs q)
  exact ⟨d,Hs2,k1,.refl e3,k2.same e2⟩
theorem Mi {K:a8}{Hn Hs:Hp} (x:Str):JR K (Ug x) (nD x) Hn Hs:=fun H2 Hs2 e1 e2 e3=>by
 have hl:(nD x).length=x.cps.size:=by simp [nD]
 refine ⟨fun i hi=>by rw [hl] at hi;exact hi,fun i hi=>by rw [hl] at hi;exact hi,fun i v H3 hi y=>?_⟩
 obtain ⟨rfl,c,k1,rfl⟩:=y
 refine ⟨.str ⟨#[c]⟩,Hs2,?_,.refl e3,.str _⟩
 unfold nD
 rw [aZ,dD,k1]
 rfl
def qt (lo:Int) (n:Nat):List D:=(bx n).map fun (k:Nat)=>cx (lo + k)
theorem Mj {K:a8}{Hn Hs:Hp} (lo:Int) (n:Nat):JR K (VA lo n) (qt lo n) Hn Hs:=fun H2 Hs2 e1 e2 e3=>by
 have hl:(qt lo n).length=n:=by simp [qt]
 refine ⟨fun i hi=>by rw [hl] at hi;exact hi,fun i hi=>by rw [hl] at hi;exact hi,fun i v H3 hi y=>?_⟩
 obtain ⟨rfl,rfl⟩:=y
 refine ⟨.int (lo + i),Hs2,?_,.refl e3,.int _⟩
 rw [hl] at hi
 unfold qt
 rw [aZ,tT hi]
 rfl
def jx (n:Nat):List D->List D
 | []=>[]
 | d::r=>.tuple [.int n,d]::jx (n + 1) r
theorem vC:∀ (ds:List D) (n i:Nat),(jx n ds)[i]?=(ds[i]?).map fun d=>eY [.int ((n + i:Nat):Int),d]
 | [],_,_=>by simp [jx]
 | d::r,n,0=>by simp [jx]
 | d::r,n,i + 1=>by
  simp only [jx,jt]
  rw [vC r (n + 1) i,show n + 1 + i=n + (i + 1) by omega]
theorem vD:∀ (ds:List D) (n:Nat),(jx n ds).length=ds.length
 | [],_=>rfl
 | d::r,n=>by simp [jx,vD r]
theorem PJ {K:a8}{Hn Hs:Hp}{a:aj}{vs:List V}{ds:List D} (h:kK K Hn a vs) (r:RDs K Hs vs ds):JR K (Wq K a) (jx 0 ds) Hn Hs:=fun H2 Hs2 e1 e2 e3=>by
 have q:=e1.tup h
 have hl:=vD ds 0
 refine ⟨fun i hi=>?_,fun i hi=>⟨vs,q,by rw [r.length];omega⟩,fun i x H3 hi y=>?_⟩
 ·have hi':i<vs.length:=by rw [r.length];omega
  exact ⟨vs,vs[i],q,aN hi'⟩
 ·obtain ⟨p,hp,rfl,y⟩:=y
  obtain ⟨x,k0,rfl⟩:=y vs q
  obtain ⟨d,k1,k2⟩:=r.get k0
  have st:=cP.new (o:=.tup [.int i,x]) e3 hp
  refine ⟨.tuple [.int i,d],_,?_,st,.tuple bn (.cons (.int _) (.cons ((k2.same e2).same st.sh) .nil))⟩
  rw [vC,k1]
  simp
def xa:List D->List D->List D
 | x::xs,y::ys=>.tuple [x,y]::xa xs ys
 | _,_=>[]
theorem DT:∀ (xs ys:List D) (i:Nat) (x y:D),xs[i]?=some x->ys[i]?=some y->(xa xs ys)[i]?=some (.tuple [x,y])
 | x::xs,y::ys,0,_,_,h1,h2=>by simp at h1 h2;subst h1 h2;rfl
 | _::xs,_::ys,i + 1,x,y,h1,h2=>by
  simp only [jt] at h1 h2
  simp only [xa,jt]
  exact DT xs ys i x y h1 h2
 | [],_,_,_,_,h1,_=>by simp at h1
 | _::_,[],_,_,_,_,h2=>by simp at h2
theorem DU:∀ (xs ys:List D),(xa xs ys).length=min xs.length ys.length
 | x::xs,y::ys=>by simp [xa,DU xs ys]
 | [],_=>by simp [xa]
 | _::_,[]=>by simp [xa]
theorem SJ {K:a8}{Hn Hs:Hp}{a b:aj}{vs ws:List V}{ds es:List D} (h:kK K Hn a vs) (r:RDs K Hs vs ds) (h':kK K Hn b ws) (r':RDs K Hs ws es):JR K (Wr K a b) (xa ds es) Hn Hs:=fun H2 Hs2 e1 e2 e3=>by
 have q:=e1.tup h
 have q':=e1.tup h'
 have hl:=DU ds es
 refine ⟨fun i hi=>?_,fun i hi=>⟨vs,ws,q,q',by rw [r.length,r'.length];omega⟩,fun i x H3 hi y=>?_⟩
 ·have h1:i<vs.length:=by rw [r.length];omega
  have h2:i<ws.length:=by rw [r'.length];omega
  exact ⟨vs,ws,vs[i],ws[i],q,q',aN h1,aN h2⟩
 ·obtain ⟨p,hp,rfl,y⟩:=y
  obtain ⟨x,z,k0,k0',rfl⟩:=y vs ws q q'
  obtain ⟨d,k1,k2⟩:=r.get k0
  obtain ⟨d',k1',k2'⟩:=r'.get k0'
  have st:=cP.new (o:=.tup [x,z]) e3 hp
  exact ⟨.tuple [d,d'],_,DT ds es i d d' k1 k1',st,.tuple bn (.cons ((k2.same e2).same st.sh) (.cons ((k2'.same e2).same st.sh) .nil))⟩
inductive UE (K:a8) (cls:Str->aj) (E:XK) (ρ:aw) (r:R (List D)) (σ:St) (H:Hp) (Q:It->Hp->Prop):Prop
 | mk (H0 Hs0:Hp) (la:Nat->Option aj) (Hs:Hp) (f:Fr K H0 Hs0 la ρ σ H Hs) (q:Fin K cls E H Hs r fun ds=>∀ J H' Hs' Hn,cP H Hs H' Hs'->dH Hn H'->JR K J ds Hn Hs'->Q J H'):UE K cls E ρ r σ H Q
def VJ (K:a8) (cls:Str->aj) (E:XK) (ρ:aw) (r:R (List D)):TI:=UE K cls E ρ r
inductive UF (K:a8) (cls:Str->aj) (E:XK) (ρ:aw) (r:R (List D)) (σ:St) (H:Hp) (Q:It->Hp->Prop):Prop
 | mk (H0 Hs0:Hp) (la:Nat->Option aj) (Hs:Hp) (f:Fr K H0 Hs0 la ρ σ H Hs) (q:Fin K cls E H Hs r fun ds=>∀ J H' Hs',cP H Hs H' Hs'->JR K J ds Hs' Hs'->Q J H'):UF K cls E ρ r σ H Q
def Xg (K:a8) (cls:Str->aj) (E:XK) (ρ:aw) (r:R (List D)):TI:=UF K cls E ρ r
structure JI (c:C) (tg it:aX) (g:aw->R (List D)):Prop where of ::
 run:∀ ρ,PI c.X tg it (VJ c.X.K c.cls c.E ρ (g ρ))
instance {c:C}{tg it:aX}{g:aw->R (List D)}:CoeFun (JI c tg it g) (fun _=>∀ ρ,PI c.X tg it (VJ c.X.K c.cls c.E ρ (g ρ))):=⟨JI.run⟩
structure HM (c:C) (tg it:aX) (g:aw->R (List D)):Prop where of ::
 run:∀ ρ,PI c.X tg it (Xg c.X.K c.cls c.E ρ (g ρ))
instance {c:C}{tg it:aX}{g:aw->R (List D)}:CoeFun (HM c tg it g) (fun _=>∀ ρ,PI c.X tg it (Xg c.X.K c.cls c.E ρ (g ρ))):=⟨HM.run⟩
theorem FG {X:Cx}{tg e:aX}{t t':TI} (h:PI X tg e t) (m:∀ σ H Q,t' σ H Q->t σ H Q):PI X tg e t':=fun pins s σ H Q I q=>h pins s σ H Q I (m σ H Q q)
section
variable {c:C}{e a b l tg:aX}{g ga gb:aw->R D}{pos p:Pos}{gs:aw->R (List D)}
def y0:D->R (List D)
 | .list ds=>.ok ds
 | .tuple ds=>.ok ds
 | .str x=>.ok (nD x)
 | _=>.no
def kW (g:aw->R D):aw->R (List D):=fun ρ=>(g ρ).bind y0
theorem fF (h:JB c l g):JI c tg l (kW g):=.of fun ρ=>by
 cases hr:g ρ with
 | no=>exact fun pins s σ H Q I h_0=>by obtain ⟨H0,Hs0,la,Hs,f,q⟩:=h_0;exact by unfold kW at q;rw [hr] at q;exact q.elim
 | ex x n =>
  refine FG (u9 (h ρ)) fun σ H Q h_1=>?_
  obtain ⟨H0,Hs0,la,Hs,f,q⟩:=h_1
  refine one f q fun d v H1 Hs1 e1 s1 f1 r1=>?_
  rw [hr] at e1;cases e1
 | ok d =>
  cases d with
  | list ds =>
   refine FG (u9 (h ρ)) fun σ H Q h_2=>?_
   obtain ⟨H0,Hs0,la,Hs,f,q⟩:=h_2
   refine one f q fun d v H1 Hs1 e1 s1 f1 r1=>?_
   rw [hr] at e1;cases e1
   unfold kW at q
   rw [hr,bind_ok] at q
   obtain ⟨a,vs,rfl,qa,ra⟩:=r1.list f1.st.sub
   exact ⟨a,rfl,⟨vs,qa⟩,q _ H1 Hs1 H1 s1 (.refl _) (C7 qa ra)⟩
  | tuple ds =>
   refine FG (Lr (h ρ)) fun σ H Q h_3=>?_
   obtain ⟨H0,Hs0,la,Hs,f,q⟩:=h_3
   refine one f q fun d v H1 Hs1 e1 s1 f1 r1=>?_
   rw [hr] at e1;cases e1
   unfold kW at q
   rw [hr,bind_ok] at q
   obtain ⟨a,vs,rfl,qa,ra,_⟩:=r1.tuple f1.st.sub
   exact ⟨a,rfl,⟨vs,qa⟩,q _ H1 Hs1 H1 s1 (.refl _) (Mh qa ra)⟩
  | str x =>
   refine FG (LY (h ρ)) fun σ H Q h_4=>?_
   obtain ⟨H0,Hs0,la,Hs,f,q⟩:=h_4
   refine one f q fun d v H1 Hs1 e1 s1 f1 r1=>?_
   rw [hr] at e1;cases e1
   unfold kW at q
   rw [hr,bind_ok] at q
   exact ⟨x,r1.str,q _ H1 Hs1 H1 s1 (.refl _) (Mi x)⟩
  | none=>exact fun pins s σ H Q I h_5=>by obtain ⟨H0,Hs0,la,Hs,f,q⟩:=h_5;exact by unfold kW at q;rw [hr] at q;exact q.elim
  | bool _=>exact fun pins s σ H Q I h_6=>by obtain ⟨H0,Hs0,la,Hs,f,q⟩:=h_6;exact by unfold kW at q;rw [hr] at q;exact q.elim
  | int _=>exact fun pins s σ H Q I h_7=>by obtain ⟨H0,Hs0,la,Hs,f,q⟩:=h_7;exact by unfold kW at q;rw [hr] at q;exact q.elim
  | dict _=>exact fun pins s σ H Q I h_8=>by obtain ⟨H0,Hs0,la,Hs,f,q⟩:=h_8;exact by unfold kW at q;rw [hr] at q;exact q.elim
theorem xt (h:JE c l g):HM c tg l (kW g):=.of fun ρ=>by
 cases hr:g ρ with
 | no=>exact fun pins s σ H Q I h_9=>by obtain ⟨H0,Hs0,la,Hs,f,q⟩:=h_9;exact by unfold kW at q;rw [hr] at q;exact q.elim
 | ex x n =>
  refine FG (u9 (h ρ)) fun σ H Q h_10=>?_
  obtain ⟨H0,Hs0,la,Hs,f,q⟩:=h_10
  refine Ac f q fun d v H1 Hs1 e1 s1 f1 r1=>?_
  rw [hr] at e1;cases e1
 | ok d =>
  cases d with
  | list ds =>
   refine FG (u9 (h ρ)) fun σ H Q h_11=>?_
   obtain ⟨H0,Hs0,la,Hs,f,q⟩:=h_11
   refine Ac f q fun d v H1 Hs1 e1 s1 f1 r1=>?_
   rw [hr] at e1;cases e1
   unfold kW at q
   rw [hr,bind_ok] at q
   cases r1 with
   | list qa ra=>exact ⟨_,rfl,⟨_,f1.st.sub.seq qa⟩,q _ H1 Hs1 s1 (C7 qa ra)⟩
  | tuple ds =>
   refine FG (Lr (h ρ)) fun σ H Q h_12=>?_
   obtain ⟨H0,Hs0,la,Hs,f,q⟩:=h_12
   refine Ac f q fun d v H1 Hs1 e1 s1 f1 r1=>?_
   rw [hr] at e1;cases e1
   unfold kW at q
   rw [hr,bind_ok] at q
   cases r1 with
   | tuple qa ra=>exact ⟨_,rfl,⟨_,(kK.of (f1.st.sub _ _ qa))⟩,q _ H1 Hs1 s1 (Mh (.of qa) ra)⟩
  | str x =>
   refine FG (LY (h ρ)) fun σ H Q h_13=>?_
   obtain ⟨H0,Hs0,la,Hs,f,q⟩:=h_13
   refine Ac f q fun d v H1 Hs1 e1 s1 f1 r1=>?_
   rw [hr] at e1;cases e1
   unfold kW at q
   rw [hr,bind_ok] at q
   cases r1 with
   | str _=>exact ⟨x,rfl,q _ H1 Hs1 s1 (Mi x)⟩
  | none=>exact fun pins s σ H Q I h_14=>by obtain ⟨H0,Hs0,la,Hs,f,q⟩:=h_14;exact by unfold kW at q;rw [hr] at q;exact q.elim
  | bool _=>exact fun pins s σ H Q I h_15=>by obtain ⟨H0,Hs0,la,Hs,f,q⟩:=h_15;exact by unfold kW at q;rw [hr] at q;exact q.elim
  | int _=>exact fun pins s σ H Q I h_16=>by obtain ⟨H0,Hs0,la,Hs,f,q⟩:=h_16;exact by unfold kW at q;rw [hr] at q;exact q.elim
  | dict _=>exact fun pins s σ H Q I h_17=>by obtain ⟨H0,Hs0,la,Hs,f,q⟩:=h_17;exact by unfold kW at q;rw [hr] at q;exact q.elim
theorem HM.i (h:HM c tg l gs):JI c tg l gs:=.of fun ρ=>FG (h ρ) fun σ H Q ⟨H0,Hs0,la,Hs,f,q⟩=>⟨H0,Hs0,la,Hs,f,by
 cases hr:gs ρ with
 | ok ds=>rw [hr] at q;exact fun J H' Hs' s i=>q J H' Hs' Hs' s s.sub i
 | ex x n=>rw [hr] at q;exact q
 | no=>rw [hr] at q;exact q⟩
def Gn:List D->R (List D)
 | [.int j]=>if -(2 ^ 62)<=j/\j<2 ^ 62 then .ok (qt 0 j.toNat) else .no
 | _=>.no
def yb (gs:aw->R (List D)):aw->R (List D):=fun ρ=>(gs ρ).bind Gn
theorem oJ (hg:Gl c.X "range") (hm:c.X.mg "range"=none) (ha:Px c [a] gs) (hs:aI [a] c.X.env=[(false,dE a c.X.env)]:=by rfl):HM c tg (.Call (.Name "range" p) [a] [] pos) (yb gs):=.of fun ρ=>FG (Jk hg hm (ha ρ) hs) fun σ H Q h_18=>by
 obtain ⟨H0,Hs0,la,Hs,f,q⟩:=h_18
 refine HE f q fun ds vs H1 Hs1 e1 s1 f1 r1=>?_
 unfold yb at q
 rw [e1,bind_ok] at q
 unfold Gn at q
 split at q
 ·rename_i j
  by_cases hj:-(2 ^ 62)<=j/\j<2 ^ 62
  ·rw [if_pos hj] at q
   obtain ⟨x,rfl,rx⟩:=r1.one
   exact ⟨j,by rw [rx.int],hj.1,hj.2,q _ H1 Hs1 s1 (Mj 0 _)⟩
  ·rw [if_neg hj] at q;exact q.elim
 ·exact q.elim
def VL:List D->R (List D)
 | [.tuple ds]=>.ok (jx 0 ds)
 | _=>.no
def Go (gs:aw->R (List D)):aw->R (List D):=fun ρ=>(gs ρ).bind VL
theorem RDs.one {K:a8}{H:Hp}{xs:List V}{d:D} (h:RDs K H xs [d]):∃ x,xs=[x]/\RD K H x d:=by
 cases h with | cons a t=>cases t;exact ⟨_,rfl,a⟩
theorem RDs.two {K:a8}{H:Hp}{xs:List V}{d e:D} (h:RDs K H xs [d,e]):∃ x y,xs=[x,y]/\RD K H x d/\RD K H y e:=by
 cases h with | cons a t=>cases t with | cons b t=>cases t;exact ⟨_,_,rfl,a,b⟩
theorem yc {elts:List aX}{x1}{tpos:Pos} (hg:Gl c.X "enumerate") (hm:c.X.mg "enumerate"=none) (ha:FD c [a] gs) (hs:aI [a] c.X.env=[(false,dE a c.X.env)]:=by rfl):HM c (.Tuple elts x1 tpos) (.Call (.Name "enumerate" p) [a] [] pos) (Go gs):=.of fun ρ=>FG (Pt hg hm (ha ρ) hs) fun σ H Q h_20=>by
 obtain ⟨H0,Hs0,la,Hs,f,q⟩:=h_20
 refine C1 f q fun ds vs H1 Hs1 e1 s1 f1 r1=>?_
 unfold Go at q
 rw [e1,bind_ok] at q
 unfold VL at q
 split at q
 ·obtain ⟨x,rfl,rx⟩:=r1.one
  cases rx with
  | tuple qa ra=>exact ⟨_,_,rfl,(kK.of (f1.st.sub _ _ qa)),q _ H1 Hs1 s1 (PJ (.of qa) ra)⟩
 ·exact q.elim
def zp:List D->R (List D)
 | [.tuple ds,.tuple es]=>.ok (xa ds es)
 | _=>.no
def PK (gs:aw->R (List D)):aw->R (List D):=fun ρ=>(gs ρ).bind zp
theorem PL {elts:List aX}{x1}{tpos:Pos} (hg:Gl c.X "zip") (hm:c.X.mg "zip"=none) (ha:FD c [a,b] gs) (hs:aI [a,b] c.X.env=[(false,dE a c.X.env),(false,dE b c.X.env)]:=by rfl) (hs2:aI [b] c.X.env=[(false,dE b c.X.env)]:=by rfl) :
  HM c (.Tuple elts x1 tpos) (.Call (.Name "zip" p) [a,b] [] pos) (PK gs):=.of fun ρ=>FG (SB hg hm (ha ρ) hs hs2) fun σ H Q h_21=>by
 obtain ⟨H0,Hs0,la,Hs,f,q⟩:=h_21
 refine C1 f q fun ds vs H1 Hs1 e1 s1 f1 r1=>?_
 unfold PK at q
 rw [e1,bind_ok] at q
 unfold zp at q
 split at q
 ·obtain ⟨x,y,rfl,rx,ry⟩:=r1.two
  cases rx with
  | tuple qa ra =>
   cases ry with
   | tuple qb rb=>exact ⟨_,_,_,_,rfl,(kK.of (f1.st.sub _ _ qa)),(kK.of (f1.st.sub _ _ qb)),q _ H1 Hs1 s1 (SJ (.of qa) ra (.of qb) rb)⟩
 ·exact q.elim
end
end
section
inductive Xh (K:a8) (cls:Str->aj) (E:XK) (ρ:aw) (r:R D) (σ:St) (H:Hp) (Q:VK):Prop
 | mk (H0 Hs0:Hp) (la:Nat->Option aj) (Hs:Hp) (f:Fr K H0 Hs0 la ρ σ H Hs) (q:Fin K cls E H Hs r fun d=>∀ a o H' Hs',cP H Hs H' Hs'->H' a=none->mG K Hs' o d->Q (.ref a) (upd H' a o)):Xh K cls E ρ r σ H Q
def TN (K:a8) (cls:Str->aj) (E:XK) (ρ:aw) (r:R D):TE:=Xh K cls E ρ r
structure JN (c:C) (e:aX) (g:aw->R D):Prop where of ::
 run:∀ ρ,PE c.X e (TN c.X.K c.cls c.E ρ (g ρ))
instance {c:C}{e:aX}{g:aw->R D}:CoeFun (JN c e g) (fun _=>∀ ρ,PE c.X e (TN c.X.K c.cls c.E ρ (g ρ))):=⟨JN.run⟩
section
variable {c:C}{e a b l tg:aX}{g ga gb:aw->R D}{pos p:Pos}{gs:aw->R (List D)}{es:List aX}{x:Str}
theorem WF {K:a8}{cls:Str->aj}{E:XK}{ρ:aw}{r:R D}{σ:St}{H:Hp}{Q:VK} (q:TR K cls E ρ r σ H Q):TN K cls E ρ r σ H Q:=by
 obtain ⟨H0,Hs0,la,Hs,f,q⟩:=q
 refine ⟨H0,Hs0,la,Hs,f,?_⟩
 cases r with
 | ok d=>exact fun a o H' Hs' s n r=>q _ _ _ (s.trans (.new s.sub n)) (r.share (s.sub.free n))
 | ex x n=>exact q
 | no=>exact q
theorem JN.je (h:JN c e g):JE c e g:=.of fun ρ=>rX (h ρ) fun σ H Q q=>WF q
theorem nE (h:FD c es gs):JN c (.List es pos) (dS gs .list):=.of fun ρ=>rX (sw (h ρ)) fun σ H Q h_0=>by
 obtain ⟨H0,Hs0,la,Hs,f,q⟩:=h_0
 refine C1 f q fun ds vs H1 Hs1 e1 s1 f1 r1=>?_
 unfold dS at q
 rw [e1,bind_ok] at q
 by_cases hl:ds.length<=1000
 ·rw [if_pos hl] at q
  exact ⟨cr (dN (by rw [r1.length];exact hl)),fun p hp=>q p _ H1 Hs1 s1 hp (.lst r1)⟩
 ·rw [if_neg hl] at q;exact q.elim
theorem HN:JN c (.Dict [] [] pos) (fun _=>.ok (.dict [])):=.of fun ρ=>rX LK fun σ H Q h_1=>by obtain ⟨H0,Hs0,la,Hs,f,q⟩:=h_1;exact fun p hp=>q p _ H Hs (.refl f.st.sub) hp (.dK .nil)
def dZ (i:Nat) (g:aw->R D):aw->R Fl:=fun ρ=>(g ρ).bind fun d=>.ok (.nx (ρ.set i (.own d)))
theorem sN {K:a8}{cls:Str->aj}{E:XK}{ρ:aw}{r:R D}{k:D->R Fl}{σ:St}{H:Hp}{H0 Hs0 Hs:Hp}{la:Nat->Option aj}{D':u7}{Q:V->Hp->Prop} (f:Fr K H0 Hs0 la ρ σ H Hs)
  (h:oI K cls E H0 Hs0 la D' (r.bind k)) (m:∀ d a o H' Hs',r=.ok d->Fr K H0 Hs0 la ρ σ H' Hs'->H' a=none->mG K Hs' o d->Q (.ref a) (upd H' a o)):TN K cls E ρ r σ H Q:=by
 refine ⟨H0,Hs0,la,Hs,f,?_⟩
 cases r with
 | ok d=>exact fun a o H' Hs' s n r=>m d a o H' Hs' rfl (f.step s) n r
 | ex c n=>exact fun H' Hs' s=>h H' Hs' (f.st.trans s)
 | no=>exact h
theorem gK (i:Nat) {pos':Pos} (h:JN c e g) (hN:c.X.N.Nodup) (hi:c.X.N[i]?=some x:=by rfl) (hx:QF c.X.env.scope x:=by first | exact iP rfl | exact fv rfl) (hs:gW e (some (.Name x pos')) pos.line c.X.env=pure false:=by rfl)
  (hf:c.X.fn x=true\/c.X.env.scope.names.lookup x=some .local:=by first | exact .inl rfl | exact .inr rfl | assumption):JS c (.Assign [.Name x pos'] e pos) (dZ i g):=.of fun ρ=>Ab (G1 hN hi hx (h ρ) hs hf) fun D σ H h_2=>by
 obtain ⟨H0,Hs0,la,Hs,f,q⟩:=h_2
 refine sN f q fun d a o H1 Hs1 e1 f1 n1 r1=>?_
 unfold dZ at q
 rw [e1,bind_ok] at q
 exact q _ _ Hs1 (f1.setO i n1 r1)
def JU {α:Type}:R α->R α
 | .ex _ _=>.no
 | r=>r
theorem HP {α:Type}{r:R α}{a:α} (h:JU r=.ok a):r=.ok a:=by
 cases r<;>first | exact h | cases h
def gg (f:D->R (Option D)):List D->R (List D)
 | []=>.ok []
 | d::r=>(f d).bind fun o=>(gg f r).bind fun ys=>.ok (match o with
  | some y=>y::ys
  | none=>ys)
theorem yd {f:D->R (Option D)}{d:D}{r ys:List D} (h:gg f (d::r)=.ok ys):∃ o zs,f d=.ok o/\gg f r=.ok zs/\ys=o.toList++zs:=by
 unfold gg at h
 cases hf:f d with
 | ok o =>
  rw [hf,bind_ok] at h
  cases hm:gg f r with
  | ok zs =>
   rw [hm,bind_ok] at h
   cases h
   cases o<;>exact ⟨_,zs,rfl,rfl,rfl⟩
  | ex x n=>rw [hm] at h;cases h
  | no=>rw [hm] at h;cases h
 | ex x n=>rw [hf] at h;cases h
 | no=>rw [hf] at h;cases h
def PM:Sl->Sl
 | .own d=>.lck d
 | .ow2 _=>.no
 | s=>s
def nW (nt:Nat) (ix:List Nat) (ρ:aw):aw:=rN nt Sl.no++ix.map fun i=>PM ((ρ[i]?).getD .no)
def UG (nt:Nat):D->aw->R aw:=match nt with
 | 1=>bg 0
 | 2=>iX 2 (bO (bg 0) (bO (bg 1) jp))
 | _=>fun _ _=>.no
def hX (nt:Nat) (ρ:aw) (gt:aw->R Bool) (ge:aw->R D):D->R (Option D):=fun d=>JU ((UG nt d ρ).bind fun ρ'=>(gt ρ').bind fun b=>if b then (ge ρ').bind fun y=>.ok (some y) else .ok none)
def eL (nt:Nat) (ix:List Nat) (gi:aw->R (List D)) (gt:aw->R Bool) (ge:aw->R D):aw->R D:=fun ρ=>(gi ρ).bind fun ds=>if ds.length<=1000 then (gg (hX nt (nW nt ix ρ) gt ge) ds).bind fun ys=>.ok (.list ys) else .no
structure UH (c:C) (ifs:List aX) (g:aw->R Bool):Prop where of ::
 run:∀ ρ,Oz c.X ifs (JH c.X.K c.cls c.E ρ (g ρ))
instance {c:C}{ifs:List aX}{g:aw->R Bool}:CoeFun (UH c ifs g) (fun _=>∀ ρ,Oz c.X ifs (JH c.X.K c.cls c.E ρ (g ρ))):=⟨UH.run⟩
theorem g9:UH c [] (fun _=>.ok true):=.of fun ρ pins s σ H Q I h_3=>by obtain ⟨H0,Hs0,la,Hs,f,q⟩:=h_3;exact Pp pins s σ H Q I (q H Hs (.refl f.st.sub))
theorem kw {gt:aw->R Bool} (h:JT c e gt):UH c [e] gt:=.of fun ρ=>Pq (h ρ)
def JV (K:a8) (nt:Nat):TG:=match nt with
 | 1=>ww 0
 | _=>S4 K 2 (L2.a9 (ww 0) (L2.a9 (ww 1) L2.ay))
theorem C8 {K:a8}{nt:Nat} (h:nt=1\/nt=2):QW nt (JV K nt):=by
 rcases h with rfl | rfl
 ·exact LM (by decide)
 ·exact Pr (by decide) (by decide)
theorem DV {K:a8}{nt:Nat}{H0 Hs0 H Hs:Hp}{la:Nat->Option aj}{ρ ρ':aw}{σ:St}{v:V}{d:D}{Q:St->Hp->Prop} (hnt:nt=1\/nt=2) (f:Fr K H0 Hs0 la ρ σ H Hs) (r:RD K Hs v d) (hb:UG nt d ρ=.ok ρ')
  (q:∀ σ',Fr K H0 Hs0 la ρ' σ' H Hs->Q σ' H):JV K nt v σ H Q:=by
 rcases hnt with rfl | rfl
 ·cases hb
  exact q _ (f.set 0 r)
 ·unfold UG iX at hb
  simp only at hb
  cases r with
  | @tuple p xs ds hq rs =>
   simp only at hb
   split at hb
   ·rename_i hl
    cases rs with
    | nil=>cases hl
    | cons r1 rs =>
     cases rs with
     | nil=>cases hl
     | cons r2 rs =>
      cases rs with
      | nil =>
       cases hb
       exact ⟨p,_,rfl,(kK.of (f.st.sub _ _ hq)),rfl,_,_,rfl,_,_,rfl,rfl,q _ ((f.set 0 r1).set 1 r2)⟩
      | cons _ _=>simp at hl
   ·cases hb
  | none=>cases hb
  | bool _=>cases hb
  | int _=>cases hb
  | str _=>cases hb
  | list _ _=>cases hb
  | dictK _ _=>cases hb
  | dictT _ _ _=>cases hb
  | dictF _ _ _=>cases hb
theorem Fr.block {K:a8}{H0 Hs0 H Hs:Hp}{la:Nat->Option aj}{ρ:aw}{σ:St} (f:Fr K H0 Hs0 la ρ σ H Hs) (nt:Nat) (ix:List Nat):∃ la',Fr K H Hs la' (nW nt ix ρ) (L2.jo nt ix σ) H Hs:=by
 have lk:∀ (j:Nat) (d:D),(nW nt ix ρ)[j]?=some (Sl.lck d)->∃ a o,(L2.jo nt ix σ)[j]?=some (some (V.ref a))/\H a=some o/\Hs a=none/\mG K Hs o d:=fun j d h=>by
  unfold nW at h
  by_cases hj:j<nt
  ·rw [bc (by simpa using hj),cg,if_pos hj] at h;cases h
  ·have hj:nt<=j:=by omega
   rw [bf (by simpa using hj),cV,aZ] at h
   cases hi:ix[j - nt]? with
   | none=>rw [hi] at h;cases h
   | some i =>
    rw [hi] at h
    have at_:∀ v,σ[i]?=some (some v)->(L2.jo nt ix σ)[j]?=some (some v):=fun v k1=>by
     unfold L2.jo
     rw [bf (by simpa using hj),cV,aZ,hi]
     simp [k1]
    cases hr:ρ[i]? with
    | none=>simp only [c_,hr,gq,PM] at h;cases h
    | some s =>
     simp only [c_,hr,kr] at h
     cases s with
     | own d' =>
      cases h
      obtain ⟨a,o,k1,k2,k3,k4,k5⟩:=f.ow i d hr
      exact ⟨a,o,at_ _ k1,k2,k3,k5⟩
     | lck d' =>
      cases h
      obtain ⟨a,o,k1,k2,k3,k4,k5,k6⟩:=f.lk i d hr
      exact ⟨a,o,at_ _ k1,k3,k4,k6⟩
     | no=>cases h
     | shr _=>cases h
     | ow2 _=>cases h
 have no2:∀ (j:Nat) (d:List (List D)),¬ (nW nt ix ρ)[j]?=some (Sl.ow2 d):=fun j d h=>by
  unfold nW at h
  by_cases hj:j<nt
  ·rw [bc (by simpa using hj),cg,if_pos hj] at h;cases h
  ·have hj:nt<=j:=by omega
   rw [bf (by simpa using hj),cV,aZ] at h
   cases hi:ix[j - nt]? with
   | none=>rw [hi] at h;cases h
   | some i =>
    rw [hi] at h
    cases hr:ρ[i]? with
    | none=>simp only [c_,hr,gq,PM] at h;cases h
    | some s =>
     simp only [c_,hr,kr] at h
     cases s<;>cases h
 refine ⟨fun j=>match (nW nt ix ρ)[j]?,(L2.jo nt ix σ)[j]? with
  | some (Sl.lck _),some (some (V.ref a))=>some a
  | _,_=>none,.refl f.st.sub,by simp [nW,L2.jo],fun j d h=>?_,fun j d h=>?_,fun j d h=>?_,fun j k d1 d2 a h1 h2 _ _=>?_,fun j a h=>?_,fun j d h=>(no2 j d h).elim,fun j k d1 d2 h1 _=>(no2 j d1 h1).elim⟩
 case refine_3 =>
  obtain ⟨a,o,k1,k2,k3,k4⟩:=lk j d h
  exact ⟨a,o,k1,by rw [h,k1],k2,k3,k2,k4⟩
 case refine_5 =>
  split at h
  ·rename_i d a' h1 h2
   cases h
   obtain ⟨a',o,k1,k2,_⟩:=lk j d h1
   rw [h2] at k1
   cases k1
   exact ⟨o,k2⟩
  ·cases h
 all_goals
  unfold nW at *
 ·have h:=h
  by_cases hj:j<nt
  ·rw [bc (by simpa using hj),cg,if_pos hj] at h;cases h
  ·have hj:nt<=j:=by omega
   rw [bf (by simpa using hj),cV,aZ] at h
   cases hi:ix[j - nt]? with
   | none=>rw [hi] at h;cases h
   | some i =>
    rw [hi] at h
    cases hr:ρ[i]? with
    | none=>simp only [c_,hr,gq,PM] at h;cases h
    | some s =>
     simp only [c_,hr,kr] at h
     cases s with
     | shr d' =>
      cases h
      obtain ⟨v,k1,k2⟩:=f.sh i d hr
      refine ⟨v,?_,k2⟩
      unfold L2.jo
      rw [bf (by simpa using hj),cV,aZ,hi]
      simp [k1]
     | no=>cases h
     | own _=>cases h
     | lck _=>cases h
     | ow2 _=>cases h
 ·have h:=h
  by_cases hj:j<nt
  ·rw [bc (by simpa using hj),cg,if_pos hj] at h;cases h
  ·have hj:nt<=j:=by omega
   rw [bf (by simpa using hj),cV,aZ] at h
   cases hi:ix[j - nt]? with
   | none=>rw [hi] at h;cases h
   | some i =>
    rw [hi] at h
    cases hr:ρ[i]? with
    | none=>simp only [c_,hr,gq,PM] at h;cases h
    | some s =>
     simp only [c_,hr,kr] at h
     cases s<;>cases h
 ·have h1:=h1
  by_cases hj:j<nt
  ·rw [bc (by simpa using hj),cg,if_pos hj] at h1;cases h1
  ·have hj:nt<=j:=by omega
   rw [bf (by simpa using hj),cV,aZ] at h1
   cases hi:ix[j - nt]? with
   | none=>rw [hi] at h1;cases h1
   | some i =>
    rw [hi] at h1
    cases hr:ρ[i]? with
    | none=>simp only [c_,hr,gq,PM] at h1;cases h1
    | some s =>
     simp only [c_,hr,kr] at h1
     cases s<;>cases h1
theorem ye {f:D->R (Option D)} (h:∀ d c n,f d≠.ex c n):∀ (ds:List D) (c:Str) (n:Option D),gg f ds≠.ex c n
 | [],c,n=>fun e=>by cases e
 | d::r,c,n=>fun e=>by
  unfold gg at e
  cases hf:f d with
  | ok o =>
   rw [hf,bind_ok] at e
   cases hm:gg f r with
   | ok zs=>rw [hm,bind_ok] at e;cases e
   | ex x k=>exact ye h r x k hm
   | no=>rw [hm] at e;cases e
  | ex x k=>exact h d x k hf
  | no=>rw [hf] at e;cases e
theorem DW (nt:Nat) (ρ:aw) (gt:aw->R Bool) (ge:aw->R D) (d:D) (c:Str) (n:Option D):hX nt ρ gt ge d≠.ex c n:=by
 unfold hX JU
 split<;>first | exact fun e=>by cases e | skip
 rename_i h
 exact fun e=>h c n e
inductive Xi (K:a8) (f:D->R (Option D)) (ds ys:List D) (H1 Hs1:Hp) (i m:Nat) (acc:List V) (H':Hp):Prop
 | mk (done c7 zs ya Hs':_) (h0:ds=done++c7) (h1:done.length=i) (h2:c7.length=m) (h3:cP H1 Hs1 H' Hs') (h4:RDs K Hs' acc ya) (h5:ya.length<=i) (h6:gg f c7=.ok zs) (h7:ys=ya++zs):Xi K f ds ys H1 Hs1 i m acc H'
theorem HQ {K:a8}{cls:Str->aj}{E:XK}{nt:Nat}{ix:List Nat}{gi:aw->R (List D)}{gt:aw->R Bool}{ge:aw->R D}{ρ:aw}{σ:St}{H:Hp}{Q:VK} (hnt:nt=1\/nt=2)
  (q:TN K cls E ρ (eL nt ix gi gt ge ρ) σ H Q) :
  LL nt ix (VJ K cls E ρ (gi ρ)) (JV K nt) (fun σ H Q=>∃ ρ',JH K cls E0 ρ' (gt ρ') σ H Q) (fun σ H Q=>∃ ρ',TR K cls E0 ρ' (ge ρ') σ H Q) σ H Q:=by
 obtain ⟨H0,Hs0,la,Hs,f,q⟩:=q
 refine ⟨H0,Hs0,la,Hs,f,?_⟩
 unfold eL at q
 cases hi:gi ρ with
 | no=>rw [hi] at q;exact q
 | ex x n=>rw [hi] at q;exact q
 | ok ds =>
  rw [hi,bind_ok] at q
  intro J H1 Hs1 Hn s1 sn it
  by_cases hl:ds.length<=1000
  ·rw [if_pos hl] at q
   cases hm:gg (hX nt (nW nt ix ρ) gt ge) ds with
   | no=>rw [hm] at q;exact q.elim
   | ex x n=>exact (ye (DW _ _ _ _) _ _ _ hm).elim
   | ok ys =>
    rw [hm,bind_ok] at q
    obtain ⟨lb,fb⟩:=(f.step s1).block nt ix
    refine ⟨Xi K (hX nt (nW nt ix ρ) gt ge) ds ys H1 Hs1,
     ⟨ds.length,[],ds,ys,[],Hs1,rfl,rfl,rfl,.refl s1.sub,.nil,cE _,hm,rfl⟩,?_⟩
    rintro i m acc H' ⟨done,c7,zs,ya,Hs',hds,hdl,hrl,st,ra,yl,hz,hy⟩
    obtain ⟨igo,istop,iyld⟩:=it H' Hs' (sn.trans st.all) st.sh st.sub
    cases c7 with
    | nil =>
     left
     cases hz
     rw [de] at hds hy
     subst hy hds
     exact ⟨istop i (by omega),fun p hp=>q p _ H' Hs' (s1.trans st) hp (.lst ra)⟩
    | cons d c7 =>
     right
     have hil:i<ds.length:=by rw [hds,aG,aR];omega
     refine ⟨igo i hil,dN (by rw [ra.length];omega),fun x H2 hyl=>?_⟩
     obtain ⟨d',Hs2,hd,s2,r2⟩:=iyld i x H2 hil hyl
     have hdd:d'=d:=by
      rw [hds,bf (by omega)] at hd
      simp [hdl] at hd
      exact hd.symm
     subst hdd
     obtain ⟨o,zs',hf,hz',rfl⟩:=yd hz
     have hf:=HP hf
     cases hb:UG nt d' (nW nt ix ρ) with
     | no=>rw [hb] at hf;cases hf
     | ex x n=>rw [hb] at hf;cases hf
     | ok ρ' =>
      rw [hb,bind_ok] at hf
      refine DV hnt ((fb.step st).step s2) r2 hb fun σ2 f2=>⟨ρ',?_⟩
      refine ⟨_,_,_,Hs2,f2,?_⟩
      cases ht:gt ρ' with
      | no=>rw [ht] at hf;cases hf
      | ex x n=>rw [ht] at hf;cases hf
      | ok b =>
       rw [ht,bind_ok] at hf
       intro H3 Hs3 s3
       cases b with
       | false =>
        rw [if_neg bi] at hf
        cases hf
        refine BL ⟨c7.length,by rw [<- hrl];simp,done++[d'],c7,zs',ya,Hs3,by rw [hds];simp,by simp [hdl],rfl,(st.trans s2).trans s3,ra.same (s2.trans s3).sh,by omega,hz',by simpa using hy⟩
       | true =>
        rw [if_pos rfl] at hf
        refine BM ⟨ρ',_,_,_,Hs3,f2.step s3,?_⟩
        cases he:ge ρ' with
        | no=>rw [he] at hf;cases hf
        | ex x n=>rw [he] at hf;cases hf
        | ok y =>
         rw [he,bind_ok] at hf
         cases hf
         intro v H4 Hs4 s4 r4
         exact ⟨c7.length,by rw [<- hrl];simp,done++[d'],c7,zs',ya++[y],Hs4,by rw [hds];simp,by simp [hdl],rfl,((st.trans s2).trans s3).trans s4,(ra.same ((s2.trans s3).trans s4).sh).append (.cons r4 .nil),by simp;omega,hz',by rw [hy];simp⟩
  ·rw [if_neg hl] at q;exact q.elim
def C.comp (c:C) (N':List Str) (scope:eO) (cl:List (Str×aj)) (A:aj) (s₀:ag) (H₀:Hp) (ex:List aj) (pn:List (aj×Obj)):C:=⟨cO c.X N' scope cl A s₀ H₀ ex pn,c.cls,E0⟩
variable {elt iter:aX}{ifs:List aX}{scope:eO}{N':List Str}{nt:Nat}{ix:List Nat}{gi:aw->R (List D)}{gt:aw->R Bool}{ge:aw->R D}
def uv (c:C) (N':List Str) (scope:eO) (nt:Nat) (tg:aX) (ifs:List aX) (elt:aX) (gt:aw->R Bool) (ge:aw->R D):Prop :=
 ∀ cl A s₀ H₀ ex pn,PG (c.comp N' scope cl A s₀ H₀ ex pn).X tg (JV c.X.K nt)/\UH (c.comp N' scope cl A s₀ H₀ ex pn) ifs gt/\JE (c.comp N' scope cl A s₀ H₀ ex pn) elt ge
theorem uv.at (h:uv c N' scope nt tg ifs elt gt ge):∀ cl A s₀ H₀ ex pn,PG (cO c.X N' scope cl A s₀ H₀ ex pn) tg (JV c.X.K nt)/\Oz (cO c.X N' scope cl A s₀ H₀ ex pn) ifs (fun σ H Q=>∃ ρ',JH c.X.K c.cls E0 ρ' (gt ρ') σ H Q) /\
  PE (cO c.X N' scope cl A s₀ H₀ ex pn) elt (fun σ H Q=>∃ ρ',TR c.X.K c.cls E0 ρ' (ge ρ') σ H Q):=fun cl A s₀ H₀ ex pn=>by
 obtain ⟨h1,h2,h3⟩:=h cl A s₀ H₀ ex pn
 exact ⟨h1,fun pins s σ H Q I h_4=>by obtain ⟨ρ',q⟩:=h_4;exact h2 ρ' pins s σ H Q I q,fun pins s σ H Q I h_5=>by obtain ⟨ρ',q⟩:=h_5;exact h3 ρ' pins s σ H Q I q⟩
theorem fw (nt:Nat) (hnt:nt=1\/nt=2) (hc:c.X.calm=true) (S:nA c.X scope N' nt ix) (hi:JI c tg iter gi) (hb:uv c N' scope nt tg ifs elt gt ge) (hs:∀ x,e8 iter c.X.env x=pure x:=by intro _;rfl) :
  JN c (.ListComp elt [⟨tg,iter,ifs,0⟩] scope pos) (eL nt ix gi gt ge):=.of fun ρ=>rX (Dy hc S (C8 hnt) (hi ρ) hb.at hs) fun σ H Q q=>HQ hnt q
theorem j6 (i:Nat) {spos py:Pos} (nt:Nat) (hnt:nt=1\/nt=2) (hN:c.X.N.Nodup) (hc:c.X.calm=true) (S:nA c.X scope N' nt ix) (hi:JI c tg iter gi) (hb:uv c N' scope nt tg ifs elt gt ge)
  (hiN:c.X.N[i]?=some x:=by rfl) (hy:c.X.env.scope.names.lookup x=some .local:=by rfl)
  (hsw:gW (.ListComp elt [⟨tg,iter,ifs,0⟩] scope pos) (some (.Name x py)) spos.line c.X.env=pure true:=by rfl)
  (hs:∀ x,e8 iter c.X.env x=pure x:=by intro _;rfl):JS c (.Assign [.Name x py] (.ListComp elt [⟨tg,iter,ifs,0⟩] scope pos) spos) (dZ i (eL nt ix gi gt ge)):=.of fun ρ=>Ab (Gc hN hiN hy hc S (C8 hnt) (hi ρ) hb.at hsw hs) fun D σ H h_6=>by
 obtain ⟨H0,Hs0,la,Hs,f,q⟩:=h_6
 refine HQ (Q:=fun x H1=>D.nx (σ.set i (some x)) H1) hnt (sN f q fun d a o H1 Hs1 e1 f1 n1 r1=>?_)
 unfold dZ at q
 rw [e1,bind_ok] at q
 exact q _ _ Hs1 (f1.setO i n1 r1)
end
end
section
theorem Mk {X:Cx}{st:cA}{t:TS} (h:PS X.nox st t):PS X st t:=fun pins s σ H D I hw =>
 bQ (h pins s σ H D (I.wish _) hw) (fun _ _ q=>q.unwish) fun _ _ z=>io z
def C.nox (c:C):C:=⟨c.X.nox,c.cls,E0⟩
def gL (k:D->aw->R aw) (b:aw->R Fl):List D->aw->R Fl
 | [],ρ=>.ok (.nx ρ)
 | d::r,ρ=>match k d ρ with
  | .ok ρ1=>match b ρ1 with
   | .ok (.nx ρ')=>gL k b r ρ'
   | .ok (.ct ρ')=>gL k b r ρ'
   | .ok (.bk ρ')=>.ok (.nx ρ')
   | .ok (.rt d)=>.ok (.rt d)
   | _=>.no
  | _=>.no
def C9 (i:Nat) (ρ:aw):aw:=match ρ[i]? with
 | some (Sl.own d)=>ρ.set i (.lck d)
 | _=>ρ
def yf (i:Nat) (ρ0 ρ:aw):aw:=match ρ0[i]?,ρ[i]? with
 | some (Sl.own _),some (Sl.lck d)=>ρ.set i (.own d)
 | _,_=>ρ
def Xj (i:Nat) (ρ0:aw):R Fl->R Fl
 | .ok (.nx ρ)=>.ok (.nx (yf i ρ0 ρ))
 | .ok (.bk ρ)=>.no
 | .ok (.ct ρ)=>.no
 | r=>r
section
variable {K:a8}{cls:Str->aj}{E:XK}
inductive Xk (K:a8) (cls:Str->aj) (E:XK) (H0 Hs0:Hp) (la:Nat->Option aj) (D':u7) (kt:D->aw->R aw) (gb:aw->R Fl) (ds:List D) (i m:Nat) (σ:St) (H:Hp):Prop
 | mk (done c7 ρ Hs:_) (h0:ds=done++c7) (h1:done.length=i) (h2:c7.length=m) (h3:Fr K H0 Hs0 la ρ σ H Hs) (h4:oI K cls E H0 Hs0 la D' (gL kt gb c7 ρ)):Xk K cls E H0 Hs0 la D' kt gb ds i m σ H
theorem Ml {J:It}{Hn H0 Hs0:Hp}{la:Nat->Option aj}{ds:List D}{kt:D->aw->R aw}{gb:aw->R Fl}{ρ:aw}{σ:St}{H Hs:Hp}{D':u7}{tg:TG}{tb:TS}
  (it:JR K J ds Hn Hs0) (hn:dH Hn H0) (f:Fr K H0 Hs0 la ρ σ H Hs)
  (htg:∀ ρ d v σ H Q,SH K ρ d (kt d ρ) v σ H Q->tg v σ H Q) (htb:∀ ρ D σ H,SR K cls E0 ρ (gb ρ) D σ H->tb D σ H)
  (q:oI K cls E H0 Hs0 la D' (gL kt gb ds ρ)) :
  W7 tg tb D' σ J H:=by
 refine ⟨Xk K cls E H0 Hs0 la D' kt gb ds,⟨ds.length,[],ds,ρ,Hs,rfl,rfl,rfl,f,q⟩,?_⟩
 rintro i m σ H ⟨done,c7,ρ,Hs,hds,hdl,hrl,f,q⟩
 obtain ⟨igo,istop,iyld⟩:=it H Hs (hn.trans f.st.all) f.st.sh f.st.sub
 cases c7 with
 | nil =>
  rw [de] at hds
  subst hds
  exact .inl ⟨istop i (by omega),q σ H Hs f⟩
 | cons d c7 =>
  have hil:i<ds.length:=by rw [hds,aG,aR];omega
  refine .inr ⟨igo i hil,fun σ' H'=>∃ ρ' Hs',Fr K H0 Hs0 la ρ' σ' H' Hs'/\oI K cls E H0 Hs0 la D' (gL kt gb c7 ρ'),fun σ' H' ⟨ρ',Hs',f',q'⟩=>⟨c7.length,by rw [<- hrl];simp,done++[d],c7,ρ',Hs',by rw [hds];simp,by simp [hdl],rfl,f',q'⟩,fun x H2 hyl=>?_⟩
  obtain ⟨d',Hs2,hd,s2,r2⟩:=iyld i x H2 hil hyl
  have hdd:d'=d:=by
   rw [hds,bf (by omega)] at hd
   simp [hdl] at hd
   exact hd.symm
  subst hdd
  unfold gL at q
  refine htg ρ d' x σ H2 _ ⟨H0,Hs0,la,Hs2,f.step s2,r2,?_⟩
  cases hk:kt d' ρ with
  | ex c n=>rw [hk] at q;exact q
  | no=>rw [hk] at q;exact q
  | ok ρ1 =>
   rw [hk] at q
   intro σ2 f2
   refine htb ρ1 _ σ2 H2 ⟨H0,Hs0,la,Hs2,f2,?_⟩
   cases hg:gb ρ1 with
   | no=>simp only [hg] at q;exact q.elim
   | ex c n=>simp only [hg] at q;exact q.elim
   | ok fl =>
    simp only [hg] at q
    cases fl with
    | nx ρ'=>exact fun σ' H' Hs' f'=>⟨ρ',Hs',f',q⟩
    | ct ρ'=>exact fun σ' H' Hs' f'=>⟨ρ',Hs',f',q⟩
    | bk ρ'=>exact fun σ' H' Hs' f'=>q σ' H' Hs' f'
    | rt d=>exact q
def rK (A B:Hp):Hp:=fun b=>match A b with
 | some o=>some o
 | none=>B b
theorem jy {A B:Hp}:dH A (rK A B):=fun b o e=>by unfold rK;rw [e]
theorem jd {A B:Hp}{b:aj} (h:A b=none):rK A B b=B b:=by unfold rK;rw [h]
theorem DX {A B H:Hp} (h1:dH A H) (h2:dH B H):dH (rK A B) H:=fun b o e=>by
 cases h:A b with
 | some u=>unfold rK at e;rw [h] at e;cases e;exact h1 b o h
 | none=>rw [jd h] at e;exact h2 b o e
theorem Mm {A B H:Hp} (h1:dH A H) (h2:dH B H):dH B (rK A B):=fun b o e=>by
 cases h:A b with
 | some u =>
  unfold rK
  rw [h]
  have:=h1 b u h
  rw [h2 b o e] at this
  exact this.symm
 | none=>rw [jd h];exact e
theorem Fr.into {H0 Hs0 H Hs:Hp}{la:Nat->Option aj}{ρ:aw}{σ:St} (f:Fr K H0 Hs0 la ρ σ H Hs):Fr K (rK H0 Hs) Hs la ρ σ H Hs:=by
 have sub:=DX f.st.all f.st.sub
 refine ⟨⟨sub,.refl _,f.st.sub,fun a o e _ z=>z⟩,f.len,f.sh,fun i d h=>?_,fun i d h=>?_,f.dj,fun i a e=>let ⟨o,k⟩:=f.lh i a e;⟨o,jy _ _ k⟩,fun i d h=>?_,f.u2⟩
 ·obtain ⟨a,o,h1,h2,h3,h4,h5⟩:=f.ow i d h
  exact ⟨a,o,h1,h2,h3,by rw [jd h4];exact h3,h5⟩
 ·obtain ⟨a,o,h1,h2,h3,h4,h5,h6⟩:=f.lk i d h
  exact ⟨a,o,h1,h2,h3,h4,jy _ _ h5,h6⟩
 ·obtain ⟨a,as,O⟩:=f.o2 i d h
  exact ⟨a,as,O.at_,O.ob,O.nd,fun b hb=>⟨(O.out b hb).1,by rw [jd (O.out b hb).2];exact (O.out b hb).1⟩,O.dj,O.inn⟩
theorem cP.outof {H0 Hs0 H1 Hs1 H' Hs':Hp} (s:cP H0 Hs0 H1 Hs1) (t:cP (rK H0 Hs1) Hs1 H' Hs'):cP H0 Hs0 H' Hs' :=
 ⟨jy.trans t.all,s.sh.trans t.sh,t.sub,fun a o e n z=>t.out a o (jy _ _ e) n (s.out a o e n z)⟩
theorem Fr.outof {H0 Hs0 H1 Hs1 H' Hs':Hp}{la:Nat->Option aj}{ρ1 ρ:aw}{σ1 σ:St} (f1:Fr K H0 Hs0 la ρ1 σ1 H1 Hs1) (f:Fr K (rK H0 Hs1) Hs1 la ρ σ H' Hs'):Fr K H0 Hs0 la ρ σ H' Hs':=by
 refine ⟨f1.st.outof f.st,f.len,f.sh,fun i d h=>?_,fun i d h=>?_,f.dj,f1.lh,fun i d h=>?_,f.u2⟩
 ·obtain ⟨a,o,h1,h2,h3,h4,h5⟩:=f.ow i d h
  exact ⟨a,o,h1,h2,h3,jy.free h4,h5⟩
 ·obtain ⟨a,o,h1,h2,h3,h4,h5,h6⟩:=f.lk i d h
  obtain ⟨o',e⟩:=f1.lh i a h2
  have e':=jy (B:=Hs1) _ _ e
  rw [h5] at e'
  cases e'
  exact ⟨a,o,h1,h2,h3,h4,e,h6⟩
 ·obtain ⟨a,as,O⟩:=f.o2 i d h
  exact ⟨a,as,O.at_,O.ob,O.nd,fun b hb=>⟨(O.out b hb).1,jy.free (O.out b hb).2⟩,O.dj,O.inn⟩
end
end
section
section
variable {K:a8}{cls:Str->aj}{E:XK}
theorem oI.into {H0 Hs0 H1 Hs1:Hp}{la:Nat->Option aj}{ρ1:aw}{σ1:St}{D':u7}{r:R Fl} (f1:Fr K H0 Hs0 la ρ1 σ1 H1 Hs1) (q:oI K cls E H0 Hs0 la D' r):oI K cls E (rK H0 Hs1) Hs1 la D' r:=by
 cases r with
 | no=>exact q
 | ex c n=>exact fun H' Hs' s=>q H' Hs' (f1.st.outof s)
 | ok fl =>
  cases fl with
  | nx ρ=>exact fun σ' H' Hs' f=>q σ' H' Hs' (f1.outof f)
  | bk ρ=>exact fun σ' H' Hs' f=>q σ' H' Hs' (f1.outof f)
  | ct ρ=>exact fun σ' H' Hs' f=>q σ' H' Hs' (f1.outof f)
  | rt d=>exact fun v H' Hs' s r=>q v H' Hs' (f1.st.outof s) r
theorem Fr.lock {H0 Hs0 H Hs:Hp}{la:Nat->Option aj}{ρ:aw}{σ:St} (f:Fr K H0 Hs0 la ρ σ H Hs) {i:Nat}{d:D}{a:aj}{o:HO} (hi:ρ[i]?=some (Sl.own d)) (k1:σ[i]?=some (some (V.ref a))) (k2:H a=some o) (k3:Hs a=none) (k4:H0 a=none) (k5:mG K Hs o d) :
  Fr K (rK H0 (upd Hs a o)) Hs (fun j=>if j=i then some a else la j) (ρ.set i (.lck d)) σ H Hs:=by
 have hil:i<ρ.length:=(List.getElem?_eq_some_iff.mp hi).1
 have sub:dH (upd Hs a o) H:=fun b u q=>by
  by_cases hb:b=a
  ·subst hb;rw [bn] at q;cases q;exact k2
  ·rw [bt hb] at q;exact f.st.sub b u q
 have nx:∀ {j:Nat}{s:Sl},(∀ d,s≠.lck d)->(ρ.set i (.lck d))[j]?=some s->ρ[j]?=some s/\i≠j:=fun {j s} hs e=>by
  by_cases hj:i=j
  ·subst hj
   rw [aK hil] at e;exact absurd (bG e).symm (hs d)
  ·rw [al hj] at e;exact ⟨e,hj⟩
 refine ⟨⟨DX f.st.all sub,.refl _,f.st.sub,fun a o e _ z=>z⟩,by simp [f.len],fun j e h=>?_,fun j e h=>?_,fun j e h=>?_,fun j k d1 d2 b h1 h2 h3 h4=>?_,fun j b h=>?_,fun j e h=>?_,fun j k d1 d2 h1 h2=>?_⟩
 ·obtain ⟨h,_⟩:=nx (fun _ z=>by cases z) h
  exact f.sh j e h
 ·obtain ⟨h,hj⟩:=nx (fun _ z=>by cases z) h
  obtain ⟨b,u,q1,q2,q3,q4,q5⟩:=f.ow j e h
  refine ⟨b,u,q1,q2,q3,?_,q5⟩
  rw [jd q4,bt (fun z=>hj ?_)]
  ·exact q3
  ·subst z
   exact f.dj i j d e b hi h k1 q1
 ·by_cases hj:i=j
  ·subst hj
   rw [aK hil] at h
   cases h
   exact ⟨a,o,k1,if_pos rfl,k2,k3,by rw [jd k4,bn],k5⟩
  ·rw [al hj] at h
   obtain ⟨b,u,q1,q2,q3,q4,q5,q6⟩:=f.lk j e h
   exact ⟨b,u,q1,by rw [if_neg (db hj)];exact q2,q3,q4,jy _ _ q5,q6⟩
 ·obtain ⟨h1,_⟩:=nx (fun _ z=>by cases z) h1
  obtain ⟨h2,_⟩:=nx (fun _ z=>by cases z) h2
  exact f.dj j k d1 d2 b h1 h2 h3 h4
 ·by_cases hj:j=i
  ·simp only [if_pos hj] at h
   cases h
   exact ⟨o,by rw [jd k4,bn]⟩
  ·simp only [if_neg hj] at h
   obtain ⟨u,e⟩:=f.lh j b h
   exact ⟨u,jy _ _ e⟩
 ·obtain ⟨h,hj⟩:=nx (fun _ z=>by cases z) h
  obtain ⟨b,as,O⟩:=f.o2 j e h
  refine ⟨b,as,O.at_,O.ob,O.nd,fun c hc=>⟨(O.out c hc).1,?_⟩,fun c hc k e' hk=>O.dj c hc k e' (nx (fun _ z=>by cases z) hk).1,O.inn⟩
  rw [jd (O.out c hc).2,bt (fun z=>?_)]
  ·exact (O.out c hc).1
  ·subst z
   exact O.dj c hc i d hi k1
 ·exact f.u2 j k d1 d2 (nx (fun _ z=>by cases z) h1).1 (nx (fun _ z=>by cases z) h2).1
theorem cP.unlock {H0 Hs0 H Hs H' Hs':Hp}{a:aj}{o:HO} (s:cP H0 Hs0 H Hs) (t:cP (rK H0 (upd Hs a o)) Hs H' Hs'):cP H0 Hs0 H' Hs' :=
 ⟨jy.trans t.all,s.sh.trans t.sh,t.sub,fun b u e n z=>t.out b u (jy _ _ e) n (s.out b u e n z)⟩
theorem Fr.unlock {H0 Hs0 H Hs H' Hs':Hp}{la:Nat->Option aj}{ρ ρ':aw}{σ σ':St} (f:Fr K H0 Hs0 la ρ σ H Hs) {i:Nat}{d:D}{a:aj}{o:HO} (hi:ρ[i]?=some (Sl.own d)) (k4:H0 a=none)
  (f':Fr K (rK H0 (upd Hs a o)) Hs (fun j=>if j=i then some a else la j) ρ' σ' H' Hs'):Fr K H0 Hs0 la (yf i ρ ρ') σ' H' Hs':=by
 have st:=f.st.unlock f'.st
 have own:∀ (j:Nat) (e:D),ρ'[j]?=some (Sl.own e)->∃ b u,σ'[j]?=some (some (V.ref b))/\H' b=some u/\Hs' b=none/\H0 b=none/\mG K Hs' u e/\(rK H0 (upd Hs a o)) b=none:=fun j e h=>by
  obtain ⟨b,u,q1,q2,q3,q4,q5⟩:=f'.ow j e h
  exact ⟨b,u,q1,q2,q3,jy.free q4,q5,q4⟩
 have lck:∀ (j:Nat) (e:D),j≠i->ρ'[j]?=some (Sl.lck e)->∃ b u,σ'[j]?=some (some (V.ref b))/\la j=some b/\H' b=some u/\Hs' b=none/\H0 b=some u/\mG K Hs' u e:=fun j e hj h=>by
  obtain ⟨b,u,q1,q2,q3,q4,q5,q6⟩:=f'.lk j e h
  simp only [if_neg hj] at q2
  obtain ⟨u',e'⟩:=f.lh j b q2
  have:=jy (B:=upd Hs a o) _ _ e'
  rw [q5] at this
  cases this
  exact ⟨b,u,q1,q2,q3,q4,e',q6⟩
 have two:∀ (j:Nat) (e:List (List D)),ρ'[j]?=some (Sl.ow2 e)->∃ b as,O2 K H0 H' Hs' ρ' σ' j e b as:=fun j e h=>by
  obtain ⟨b,as,O⟩:=f'.o2 j e h
  exact ⟨b,as,O.at_,O.ob,O.nd,fun c hc=>⟨(O.out c hc).1,jy.free (O.out c hc).2⟩,O.dj,O.inn⟩
 unfold yf
 cases hl:ρ'[i]? with
 | none =>
  simp only [hi]
  refine ⟨st,f'.len,f'.sh,fun j e h=>let ⟨b,u,q1,q2,q3,q4,q5,_⟩:=own j e h;⟨b,u,q1,q2,q3,q4,q5⟩,fun j e h=>lck j e (fun z=>by rw [z,hl] at h;cases h) h,f'.dj,f.lh,two,f'.u2⟩
 | some s =>
  cases s with
  | no=>simp only [hi];exact ⟨st,f'.len,f'.sh,fun j e h=>let ⟨b,u,q1,q2,q3,q4,q5,_⟩:=own j e h;⟨b,u,q1,q2,q3,q4,q5⟩,fun j e h=>lck j e (fun z=>by rw [z,hl] at h;cases h) h,f'.dj,f.lh,two,f'.u2⟩
  | shr _=>simp only [hi];exact ⟨st,f'.len,f'.sh,fun j e h=>let ⟨b,u,q1,q2,q3,q4,q5,_⟩:=own j e h;⟨b,u,q1,q2,q3,q4,q5⟩,fun j e h=>lck j e (fun z=>by rw [z,hl] at h;cases h) h,f'.dj,f.lh,two,f'.u2⟩
  | own _=>simp only [hi];exact ⟨st,f'.len,f'.sh,fun j e h=>let ⟨b,u,q1,q2,q3,q4,q5,_⟩:=own j e h;⟨b,u,q1,q2,q3,q4,q5⟩,fun j e h=>lck j e (fun z=>by rw [z,hl] at h;cases h) h,f'.dj,f.lh,two,f'.u2⟩
  | ow2 _=>simp only [hi];exact ⟨st,f'.len,f'.sh,fun j e h=>let ⟨b,u,q1,q2,q3,q4,q5,_⟩:=own j e h;⟨b,u,q1,q2,q3,q4,q5⟩,fun j e h=>lck j e (fun z=>by rw [z,hl] at h;cases h) h,f'.dj,f.lh,two,f'.u2⟩
  | lck d' =>
   simp only [hi]
   have hil:i<ρ'.length:=(List.getElem?_eq_some_iff.mp hl).1
   have nx:∀ {j:Nat}{s:Sl},(∀ d,s≠.own d)->(ρ'.set i (.own d'))[j]?=some s->ρ'[j]?=some s/\i≠j:=fun {j s} hs e=>by
    by_cases hj:i=j
    ·subst hj
     rw [aK hil] at e;exact absurd (bG e).symm (hs d')
    ·rw [al hj] at e;exact ⟨e,hj⟩
   obtain ⟨b,u,q1,q2,q3,q4,q5,q6⟩:=f'.lk i d' hl
   simp only [if_pos rfl] at q2
   cases q2
   have ne:∀ (j:Nat) (e:D),ρ'[j]?=some (Sl.own e)->σ'[j]?≠some (some (V.ref a)):=fun j e h z=>by
    obtain ⟨b,u,p1,_,_,_,_,p6⟩:=own j e h
    rw [z] at p1
    cases p1
    rw [q5] at p6;cases p6
   refine ⟨st,by simp [f'.len],fun j e h=>?_,fun j e h=>?_,fun j e h=>?_,fun j k d1 d2 c h1 h2 h3 h4=>?_,f.lh,fun j e h=>?_,fun j k d1 d2 h1 h2=>?_⟩
   ·obtain ⟨h,_⟩:=nx (fun _ z=>by cases z) h
    exact f'.sh j e h
   ·by_cases hj:i=j
    ·subst hj
     rw [aK hil] at h
     cases h
     exact ⟨a,u,q1,q3,q4,k4,q6⟩
    ·rw [al hj] at h
     obtain ⟨b,u,p1,p2,p3,p4,p5,_⟩:=own j e h
     exact ⟨b,u,p1,p2,p3,p4,p5⟩
   ·obtain ⟨h,hj⟩:=nx (fun _ z=>by cases z) h
    exact lck j e (db hj) h
   ·by_cases hj:i=j
    ·by_cases hk:i=k
     ·exact hj.symm.trans hk
     ·rw [al hk] at h2
      subst hj
      rw [q1] at h3
      cases h3
      exact (ne k d2 h2 h4).elim
    ·rw [al hj] at h1
     by_cases hk:i=k
     ·subst hk
      rw [q1] at h4
      cases h4
      exact (ne j d1 h1 h3).elim
     ·rw [al hk] at h2
      exact f'.dj j k d1 d2 c h1 h2 h3 h4
   ·obtain ⟨h,hj⟩:=nx (fun _ z=>by cases z) h
    obtain ⟨b,as,O⟩:=two j e h
    refine ⟨b,as,O.at_,O.ob,O.nd,O.out,fun c hc k e' hk=>?_,O.inn⟩
    by_cases nk:i=k
    ·subst nk
     intro z
     rw [q1] at z
     cases z
     obtain ⟨b',as',O'⟩:=f'.o2 j e h
     have hh:=O.at_
     rw [O'.at_] at hh
     cases hh
     have hs:as'=as:=by
      have h1:=O.ob
      rw [O'.ob] at h1
      injection h1 with h1
      injection h1 with h1
      exact KU (fun x y z=>by cases z;rfl) |>.mp h1
     subst hs
     have:=(O'.out _ hc).2
     rw [q5] at this;cases this
    ·rw [al nk] at hk
     exact O.dj c hc k e' hk
   ·exact f'.u2 j k d1 d2 (nx (fun _ z=>by cases z) h1).1 (nx (fun _ z=>by cases z) h2).1
end
section
variable {c:C}{e a b iter tg:aX}{g ga gb:aw->R D}{pos p:Pos}{gi:aw->R (List D)}{body:List cA}{x:Str}{kt:D->aw->R aw}{gbd:aw->R Fl}
def lc (gi:aw->R (List D)) (kt:D->aw->R aw) (gb:aw->R Fl):aw->R Fl:=fun ρ=>match gi ρ with
 | .ok ds=>gL kt gb ds ρ
 | _=>.no
theorem jz (hc:c.X.calm=true) (hi:HM c.nox tg iter gi) (hg:JG c.nox tg kt) (hb:HL c.nox body gbd) (hs:∀ x,e8 iter c.X.env x=pure x:=by intro _;rfl):JS c (.For tg iter body [] pos) (lc gi kt gbd):=.of fun ρ=>by
 refine Mk (Ab (Lu vj hc (hi ρ) (g:=fun v σ H Q=>∃ ρ d,SH c.X.K ρ d (kt d ρ) v σ H Q) (tb:=fun D σ H=>∃ ρ,SR c.X.K c.cls E0 ρ (gbd ρ) D σ H) ?_ ?_ hs) fun D σ H ⟨H0,Hs0,la,Hs,f,q⟩=>?_)
 ·exact fun pins s σ H v u Q I r h_0=>by obtain ⟨ρ,d,q⟩:=h_0;exact hg ρ d pins s σ H v u Q I r q
 ·exact fun pins s σ H D I h_1=>by obtain ⟨ρ,q⟩:=h_1;exact hb ρ pins s σ H D I q
 ·refine ⟨H0,Hs0,la,Hs,f,?_⟩
  unfold lc at q
  cases hr:gi ρ with
  | no=>rw [hr] at q;exact q
  | ex x n=>rw [hr] at q;exact q.elim
  | ok ds =>
   rw [hr] at q
   intro J H1 Hs1 s1 it
   have f1:=f.step s1
   exact Ml (E:=c.E) (cls:=c.cls) (kt:=kt) (gb:=gbd) (tg:=fun v σ H Q=>∃ ρ d,SH c.X.K ρ d (kt d ρ) v σ H Q) (tb:=fun D σ H=>∃ ρ,SR c.X.K c.cls E0 ρ (gbd ρ) D σ H) it (Mm f1.st.all f1.st.sub) f1.into (fun ρ d v σ H Q h=>⟨ρ,d,h⟩) (fun ρ D σ H h=>⟨ρ,h⟩) (oI.into f1 q)
def rZ (i:Nat) (kt:D->aw->R aw) (gb:aw->R Fl):aw->R Fl:=fun ρ=>match ρ[i]? with
 | some (Sl.own (.list ds))=>Xj i ρ (gL kt gb ds (C9 i ρ))
 | _=>lc (kW fun ρ=>FE ρ i) kt gb ρ
theorem yg {kt:D->aw->R aw}{gb:aw->R Fl}:∀ (ds:List D) (ρ:aw) (fl:Fl),gL kt gb ds ρ=.ok fl->(∃ ρ',fl=.nx ρ')\/∃ d,fl=.rt d
 | [],ρ,fl,h=>by cases h;exact .inl ⟨_,rfl⟩
 | d::r,ρ,fl,h=>by
  unfold gL at h
  split at h
  ·split at h
   ·exact yg r _ _ h
   ·exact yg r _ _ h
   ·cases h;exact .inl ⟨_,rfl⟩
   ·cases h;exact .inr ⟨_,rfl⟩
   ·cases h
  ·cases h
theorem Ca {kt:D->aw->R aw}{gb:aw->R Fl}:∀ (ds:List D) (ρ:aw) (c:Str) (n:Option D),gL kt gb ds ρ≠.ex c n
 | [],ρ,c,n,h=>by cases h
 | d::r,ρ,c,n,h=>by
  unfold gL at h
  split at h
  ·split at h
   ·exact Ca r _ _ _ h
   ·exact Ca r _ _ _ h
   ·cases h
   ·cases h
   ·cases h
  ·cases h
theorem HR (i:Nat) (hc:c.X.calm=true) (hg:JG c.nox tg kt) (hb:HL c.nox body gbd) (hN:c.X.N[i]?=some x:=by rfl) (hv:O_ c.X.env.scope x:=by first | exact iP rfl | exact fv (iP rfl) | exact fv (fv rfl)) (hd:(x == ("__debug__" : Str))=false:=by decide)
  (hcd:(x == ("__classdict__" : Str))=false:=by decide) (hs:∀ y,e8 (.Name x p) c.X.env y=pure y:=by intro _;rfl):JS c (.For tg (.Name x p) body [] pos) (rZ i kt gbd):=.of fun ρ=>by
 by_cases ho:∃ ds,ρ[i]?=some (Sl.own (.list ds))
 ·obtain ⟨ds,ho⟩:=ho
  refine Mk (Ab (Lu (tg:=tg) vj hc (u9 (X:=c.nox.X) (sv hN hv hd hcd)) (g:=fun v σ H Q=>∃ ρ d,SH c.X.K ρ d (kt d ρ) v σ H Q) (tb:=fun D σ H=>∃ ρ,SR c.X.K c.cls E0 ρ (gbd ρ) D σ H) ?_ ?_ hs) fun D σ H ⟨H0,Hs0,la,Hs,f,q⟩=>?_)
  ·exact fun pins s σ H v u Q I r h_2=>by obtain ⟨ρ,d,q⟩:=h_2;exact hg ρ d pins s σ H v u Q I r q
  ·exact fun pins s σ H D I h_3=>by obtain ⟨ρ,q⟩:=h_3;exact hb ρ pins s σ H D I q
  ·obtain ⟨a,o,k1,k2,k3,k4,k5⟩:=f.ow i _ ho
   cases k5 with
   | @lst vs _ r =>
    refine ⟨_,k1,a,rfl,⟨_,.of k2⟩,?_⟩
    have hn:lW c.X.K (upd Hs a (.lst vs)) a vs:=.of bn
    unfold rZ at q
    simp only [ho] at q
    have fl:=f.lock ho k1 k2 k3 k4 (.lst r)
    have sub:dH (upd Hs a (.lst vs)) H:=fun b u q=>by
     by_cases hb:b=a
     ·subst hb;rw [bn] at q;cases q;exact k2
     ·rw [bt hb] at q;exact f.st.sub b u q
    refine Ml (E:=c.E) (cls:=c.cls) (kt:=kt) (gb:=gbd) (ρ:=C9 i ρ) (Hs:=Hs) (la:=fun i'=>if i'=i then some a else la i') (tg:=fun v σ H Q=>∃ ρ d,SH c.X.K ρ d (kt d ρ) v σ H Q) (tb:=fun D σ H=>∃ ρ,SR c.X.K c.cls E0 ρ (gbd ρ) D σ H) (C7 hn r) (Mm f.st.all sub) ?_ (fun ρ d v σ H Q h=>⟨ρ,d,h⟩) (fun ρ D σ H h=>⟨ρ,h⟩) ?_
    ·unfold C9
     rw [ho]
     exact fl
    ·cases hr:gL kt gbd ds (C9 i ρ) with
     | no=>rw [hr] at q;exact q
     | ex c n=>exact (Ca _ _ _ _ hr).elim
     | ok fl =>
      rw [hr] at q
      rcases yg _ _ _ hr with ⟨ρ',rfl⟩ | ⟨d,rfl⟩
      ·exact fun σ' H' Hs' f'=>q σ' H' Hs' (f.unlock ho k4 f')
      ·exact fun v H' Hs' s r=>q v H' Hs' (f.st.unlock s) r
 ·have e:rZ i kt gbd ρ=lc (kW fun ρ=>FE ρ i) kt gbd ρ:=by
   unfold rZ
   split
   ·rename_i ds h;exact (ho ⟨ds,h⟩).elim
   ·rfl
  rw [e]
  exact jz hc (xt (c:=c.nox) (ah (c:=c.nox) i hN hv hd hcd)) hg hb hs ρ
def iK (t:aw->R Bool) (b:aw->R Fl):Nat->aw->R Fl
 | 0,_=>.no
 | n + 1,ρ=>match t ρ with
  | .ok true=>match b ρ with
   | .ok (.nx ρ')=>iK t b n ρ'
   | .ok (.ct ρ')=>iK t b n ρ'
   | .ok (.bk ρ')=>.ok (.nx ρ')
   | .ok (.rt d)=>.ok (.rt d)
   | _=>.no
  | .ok false=>.ok (.nx ρ)
  | _=>.no
theorem DY (n:Nat) {t:aX}{gt:aw->R Bool} (ht:JT c.nox t gt) (hb:HL c.nox body gbd):JS c (.While t body [] pos) (iK gt gbd n):=.of fun ρ=>by
 refine Mk (Ab (Lq vj (tc:=fun σ H Q=>∃ ρ,JH c.X.K c.cls E0 ρ (gt ρ) σ H Q) (tb:=fun D σ H=>∃ ρ,SR c.X.K c.cls E0 ρ (gbd ρ) D σ H) ?_ ?_) fun D σ H ⟨H0,Hs0,la,Hs,f,q⟩=>?_)
 ·exact fun pins s σ H Q I h_4=>by obtain ⟨ρ,q⟩:=h_4;exact ht ρ pins s σ H Q I q
 ·exact fun pins s σ H D I h_5=>by obtain ⟨ρ,q⟩:=h_5;exact hb ρ pins s σ H D I q
 ·refine ⟨fun m σ H=>∃ ρ Hs,Fr c.X.K H0 Hs0 la ρ σ H Hs/\oI c.X.K c.cls c.E H0 Hs0 la D (iK gt gbd m ρ),⟨n,ρ,Hs,f,q⟩,?_⟩
  rintro m σ H ⟨ρ,Hs,f,q⟩
  cases m with
  | zero=>exact q.elim
  | succ m =>
   unfold iK at q
   refine ⟨ρ,H0,Hs0,la,Hs,f,?_⟩
   cases hg:gt ρ with
   | no=>rw [hg] at q;exact q
   | ex x n=>rw [hg] at q;exact q.elim
   | ok b =>
    rw [hg] at q
    intro H1 Hs1 s1
    cases b with
    | false=>exact BL (q σ H1 Hs1 (f.step s1))
    | true =>
     refine BM ⟨fun σ' H'=>∃ ρ' Hs',Fr c.X.K H0 Hs0 la ρ' σ' H' Hs'/\oI c.X.K c.cls c.E H0 Hs0 la D (iK gt gbd m ρ'),fun σ' H' h=>⟨m,dq _,h⟩,ρ,H0,Hs0,la,Hs1,f.step s1,?_⟩
     cases hb':gbd ρ with
     | no=>simp only [hb'] at q;exact q
     | ex x n=>simp only [hb'] at q;exact q.elim
     | ok fl =>
      simp only [hb'] at q
      cases fl with
      | nx ρ'=>exact fun σ' H' Hs' f'=>⟨ρ',Hs',f',q⟩
      | ct ρ'=>exact fun σ' H' Hs' f'=>⟨ρ',Hs',f',q⟩
      | bk ρ'=>exact fun σ' H' Hs' f'=>q σ' H' Hs' f'
      | rt d=>exact q
end
end
section
section
variable {c:C}{e k:aX}{g gk:aw->R D}{pos p apos cpos:Pos}{x:Str}
def nF (i:Nat) (g:aw->R D):aw->R Fl:=fun ρ=>match ρ[i]? with
 | some (Sl.own (.list ds))=>(g ρ).bind fun d=>if ds.length<1000 then .ok (.nx (ρ.set i (.own (.list (ds++[d]))))) else .no
 | _=>.no
theorem jY (i:Nat) (h:JE c e g) (hN:c.X.N[i]?=some x:=by rfl) (hv:O_ c.X.env.scope x:=by first | exact iP rfl | exact fv (iP rfl) | exact fv (fv rfl)) (hd:(x == ("__debug__" : Str))=false:=by decide)
  (hcd:(x == ("__classdict__" : Str))=false:=by decide)
  (hbase:J7 (.Name x p) "append" c.X.env (dE (.Name x p) c.X.env)=dE (.Name x p) c.X.env:=by rfl)
  (hfew:((j4 cpos (aI [e] c.X.env)).all (fun x=>!x.1) && (backToKw cpos (OE [] c.X.env)).all (fun x=>x.1.isSome)
   && decide ([e].length + ([] : List zO).length + (if ([] : List zO).isEmpty then 0 else 1)<30))=true:=by rfl)
  (hline:(apos.endLine == cpos.line)=true:=by rfl) (hst:aI [e] c.X.env=(false,dE e c.X.env)::aI [] c.X.env:=by rfl) (hplain:(j4 cpos (aI [] c.X.env)).any (·.1)=false:=by rfl)
  (hs:gW (.Call (.Attribute (.Name x p) "append" apos) [e] [] cpos) none pos.line c.X.env=pure false:=by rfl) :
  JS c (.Expr (.Call (.Attribute (.Name x p) "append" apos) [e] [] cpos) pos) (nF i g):=.of fun ρ=>by
 refine Ab (BE (QR AD zU zV AL (sv hN hv hd hcd) (ip (h ρ) jW hst) hbase hfew hline hst hplain) hs) fun D σ H h_0=>?_
 obtain ⟨H0,Hs0,la,Hs,f,q⟩:=h_0
 replace q:oI c.X.K c.cls c.E H0 Hs0 la D (nF i g ρ):=q
 unfold nF at q
 split at q
 ·rename_i ds ho
  obtain ⟨a,o,k1,k2,k3,k4,k5⟩:=f.ow i _ ho
  cases k5 with
  | @lst vs _ r =>
   refine ⟨_,k1,.inl ⟨rfl,_,.of k2⟩,?_⟩
   refine sE f q fun d v H1 Hs1 e1 s1 f1 r1=>?_
   rw [e1,bind_ok] at q
   by_cases hl:ds.length<1000
   ·rw [if_pos hl] at q
    have r':=r.same s1.sh
    exact ⟨a,vs,v,rfl,rfl,s1.all _ _ k2,dN (by rw [r.length];omega),q _ _ Hs1 (f1.write i ho k1 (.lst (r'.append (.cons r1 .nil))))⟩
   ·rw [if_neg hl] at q;exact q.elim
 ·exact q.elim
def qu:D->Option dv
 | .int i=>some (.inl i)
 | .str x=>some (.inr x)
 | _=>none
theorem yh {d:D}{y:dv} (h:qu d=some y):d=kD y:=by
 cases d<;>cases h<;>rfl
@[simp] theorem keyOf_of (y:dv):qu (kD y)=some y:=by cases y<;>rfl
def vE (kvs:List (D×D)) (k d:D):List (D×D):=if kvs.any (fun kv=>a_ kv.1 k) then kvs.map (fun kv=>if a_ kv.1 k then (kv.1,d) else kv) else kvs++[(k,d)]
theorem Cb (a b:dv):a_ (kD a) (kD b)=decide (a=b):=by
 cases a<;>cases b<;>simp [kD,a_,qK]
theorem RDk.any {K:a8}{H:Hp}{kvs:List (dv×V)} (y:dv):∀ {ds:List (D×D)},RDk K H kvs ds->(ds.any fun kv=>a_ kv.1 (kD y))=kvs.any fun kv=>decide (kv.1=y):=by
 induction kvs with
 | nil=>intro ds h;cases h;rfl
 | cons x r ih=>intro ds h;cases h with | cons h t=>rw [dX,dX,ih t,Cb]
theorem RDk.repl {K:a8}{H:Hp} (y:dv) {v:V}{d:D} (rv:RD K H v d):∀ {kvs:List (dv×V)}{ds:List (D×D)},RDk K H kvs ds ->
  RDk K H (kvs.map fun kv=>if kv.1=y then (kv.1,v) else kv) (ds.map fun kv=>if a_ kv.1 (kD y) then (kv.1,d) else kv)
 | _,_,.nil=>.nil
 | _,_,.cons (k:=k) h t=>by
  rw [aB,aB]
  have e:=Cb k y
  by_cases hk:k=y
  ·subst hk
   rw [show (if k=k then (k,v) else (k,_))=(k,v) from if_pos rfl,show (if a_ (kD k) (kD k)=true then (kD k,d) else (kD k,_))=(kD k,d) from if_pos (by rw [e];simp)]
   exact .cons rv (RDk.repl k rv t)
  ·simp only [e,hk,if_neg,decide_false,bJ,not_false_eq_true]
   exact .cons h (RDk.repl y rv t)
theorem RDk.snoc {K:a8}{H:Hp} (y:dv) {v:V}{d:D} (rv:RD K H v d):∀ {kvs:List (dv×V)}{ds:List (D×D)},RDk K H kvs ds->RDk K H (kvs++[(y,v)]) (ds++[(kD y,d)])
 | _,_,.nil=>.cons rv .nil
 | _,_,.cons h t=>.cons h (RDk.snoc y rv t)
theorem RDk.put {K:a8}{H:Hp}{kvs:List (dv×V)}{ds:List (D×D)} (r:RDk K H kvs ds) (y:dv) {v:V}{d:D} (rv:RD K H v d):RDk K H (mF kvs y v) (vE ds (kD y) d):=by
 unfold mF vE
 rw [r.any y]
 split
 ·exact r.repl y rv
 ·exact r.snoc y rv
def gR (kvs:List (D×D)):Bool:=kvs.all fun kv=>(qu kv.1).isSome
def Cc (i:Nat) (gk g:aw->R D):aw->R Fl:=fun ρ=>match ρ[i]? with
 | some (Sl.own (.dict kvs))=>(g ρ).bind fun d=>(gk ρ).bind fun k=>match qu k with
  | some _=>if kvs.length<1000/\gR kvs=true then .ok (.nx (ρ.set i (.own (.dict (vE kvs k d))))) else .no
  | none=>.no
 | _=>.no
theorem Gp {K:a8}{H:Hp}{v:V}{y:dv} (h:RD K H v (kD y)):v=kV y:=by
 cases y<;>cases h<;>rfl
theorem RDt.flat {K:a8}{H:Hp}{kvs:List (List dv×V)}{ds:List (D×D)} (h:RDt K H kvs ds) (f:gR ds=true):kvs=[]/\ds=[]:=by
 cases h with
 | nil=>exact ⟨rfl,rfl⟩
 | cons h t=>simp [gR,tD,qu] at f
theorem HS (i:Nat) (h:JE c e g) (hk:JE c k gk) (hu:c.X.A.units + 1<kX) (hN:c.X.N[i]?=some x:=by rfl) (hv:O_ c.X.env.scope x:=by first | exact iP rfl | exact fv (iP rfl) | exact fv (fv rfl)) (hd:(x == ("__debug__" : Str))=false:=by decide)
  (hcd:(x == ("__classdict__" : Str))=false:=by decide) (hs:gW e (some (.Subscript (.Name x p) k apos)) pos.line c.X.env=pure false:=by rfl):JS c (.Assign [.Subscript (.Name x p) k apos] e pos) (Cc i gk g):=.of fun ρ=>by
 refine Ab (Hy hu (sv hN hv hd hcd) (hk ρ) (h ρ) hs) fun D σ H h_1=>?_
 obtain ⟨H0,Hs0,la,Hs,f,q⟩:=h_1
 replace q:oI c.X.K c.cls c.E H0 Hs0 la D (Cc i gk g ρ):=q
 unfold Cc at q
 split at q
 ·rename_i kvs ho
  obtain ⟨a,o,k1,k2,k3,k4,k5⟩:=f.ow i _ ho
  have main:∀ {H:Hp}{vs:List (dv×V)},Fr c.X.K H0 Hs0 la ρ σ H Hs->H a=some (.dK vs)->RDk c.X.K Hs vs kvs->QU (TD i) (TR c.X.K c.cls c.E ρ (gk ρ)) (TR c.X.K c.cls c.E ρ (g ρ)) D σ H:=fun {H vs} f k2 r=>by
   refine sE f q fun d v H1 Hs1 e1 s1 f1 r1=>?_
   rw [e1,bind_ok] at q
   refine ⟨_,k1,sE f1 q fun y w H2 Hs2 e2 s2 f2 r2=>?_⟩
   rw [e2,bind_ok] at q
   split at q
   ·rename_i ky hy
    obtain rfl:=yh hy
    by_cases hl:kvs.length<1000/\gR kvs=true
    ·rw [if_pos hl] at q
     have ha:=s2.all _ _ (s1.all _ _ k2)
     have r':=(r.same s1.sh).same s2.sh
     rw [Gp r2]
     exact ⟨a,_,rfl,Du.k ha (dN (by rw [r.length];omega)),q _ _ Hs2 (f2.write i ho k1 (.dK (r'.put ky (r1.same s2.sh))))⟩
    ·rw [if_neg hl] at q;exact q.elim
   ·exact q.elim
  cases k5 with
  | dK r=>exact main f k2 r
  | dT n r =>
   refine sE f q fun d v H1 Hs1 e1 s1 f1 r1=>?_
   rw [e1,bind_ok] at q
   refine ⟨_,k1,sE f1 q fun y w H2 Hs2 e2 s2 f2 r2=>?_⟩
   rw [e2,bind_ok] at q
   split at q
   ·rw [if_neg (fun z=>n (r.flat z.2).1)] at q;exact q.elim
   ·exact q.elim
  | dF n r =>
   refine sE f q fun d v H1 Hs1 e1 s1 f1 r1=>?_
   rw [e1,bind_ok] at q
   refine ⟨_,k1,sE f1 q fun y w H2 Hs2 e2 s2 f2 r2=>?_⟩
   rw [e2,bind_ok] at q
   split at q
   ·rw [if_neg (fun z=>by cases z.2)] at q;exact q.elim
   ·exact q.elim
 ·exact q.elim
def lu (kvs:List (D×D)) (k:D):Option D:=(kvs.find? fun kv=>a_ kv.1 k).map (·.2)
theorem RDk.val {K:a8}{H:Hp}:∀ {kvs:List (dv×V)}{ds:List (D×D)},RDk K H kvs ds->∀ (y:dv),(nV kvs y=none/\lu ds (kD y)=none)\/∃ v d,nV kvs y=some v/\lu ds (kD y)=some d/\RD K H v d
 | _,_,.nil,y=>.inl ⟨rfl,rfl⟩
 | _,_,.cons (k:=k) h t,y=>by
  unfold nV lu
  rw [bN,bN,Cb]
  by_cases hk:k=y
  ·simp only [hk,decide_true,c_]
   exact .inr ⟨_,_,rfl,rfl,h⟩
  ·simp only [hk,decide_false]
   exact RDk.val t y
def aY:D->D->R D
 | .dict kvs,k=>match qu k with
  | some _=>if gR kvs=true then (match lu kvs k with
   | some d=>.ok d
   | none=>.no) else .no
  | none=>.no
 | x,k=>DQ x k
variable {a b:aX}{ga gb:aw->R D}
theorem bV (hu:c.X.A.units + 1<kX) (ha:JB c a ga) (hb:JB c b gb) (hs:ud b:=by exact fun _ _=>rfl):JE c (.Subscript a b pos) (g2 ga gb aY):=.of fun ρ=>by
 by_cases hx:∃ kvs,ga ρ=.ok (.dict kvs)
 ·obtain ⟨kvs,hx⟩:=hx
  refine rX (Hx hu (ha ρ) (hb ρ) hs) fun σ H Q h_2=>?_
  obtain ⟨H0,Hs0,la,Hs,f,q⟩:=h_2
  refine one f q fun d v H1 Hs1 e1 s1 f1 r1=>?_
  rw [hx] at e1
  cases e1
  unfold g2 at q
  rw [hx,bind_ok] at q
  refine one f1 (q.on s1 (q':=fun _=>True) fun _ _=>trivial) fun y w H2 Hs2 e2 s2 f2 r2=>?_
  rw [e2,bind_ok] at q
  unfold aY at q
  simp only at q
  split at q
  ·rename_i ky hy
   obtain rfl:=yh hy
   by_cases hf:gR kvs=true
   ·rw [if_pos hf] at q
    obtain ⟨p,rfl,h⟩:=(r1.step s2).dict f2.st.sub
    have rk:w=kV ky:=by
     rcases r2 with r2 | ⟨_,o,rfl,_,_,ow⟩
     ·exact Gp r2
     ·cases ky<;>cases ow
    subst rk
    rcases h with ⟨vs,h1,h2⟩ | ⟨vs,h1,hn,h2⟩ | ⟨o,vs,es,rfl,h1,hn,h2⟩
    ·rcases h2.val ky with ⟨_,h3⟩ | ⟨u,d,h3,h4,h5⟩
     ·rw [h3] at q;exact q.elim
     ·rw [h4] at q
      exact ⟨p,u,rfl,by rw [<- h3];exact wW.k h1,q _ H2 Hs2 (s1.trans s2) h5⟩
    ·exact (hn (h2.flat hf).1).elim
    ·cases hf
   ·rw [if_neg hf] at q;exact q.elim
  ·exact q.elim
 ·refine rX (Ux ha hb hs ρ) fun σ H Q q=>?_
  have e:g2 ga gb aY ρ=g2 ga gb DQ ρ:=by
   unfold g2
   cases hr:ga ρ with
   | ok d =>
    cases d with
    | dict kvs=>exact (hx ⟨kvs,hr⟩).elim
    | _=>rfl
   | _=>rfl
  rw [e] at q
  exact q
def kx:D->R D
 | .dict kvs=>if gR kvs=true then .ok (.list (kvs.map (·.1))) else .no
 | x=>AV x
theorem DZ {K:a8}{H:Hp}:∀ {kvs:List (dv×V)}{ds:List (D×D)},RDk K H kvs ds->RDs K H (kvs.map fun p=>kV p.1) (ds.map (·.1))
 | _,_,.nil=>.nil
 | _,_,.cons (k:=k) h t=>.cons (by cases k<;>constructor) (DZ t)
theorem yi {X:Cx} (hc:X.calm=true):KZ X (.type "list") (f_ kx):=by
 refine sG (fun d c n=>?_) fun pins s σ H x u Q Hs d d' I ru sub rx hd q=>?_
 ·unfold kx AV
  split<;>(try split)<;>(try split)<;>exact fun h=>by cases h
 ·by_cases hx:∃ kvs,d=.dict kvs
  ·obtain ⟨kvs,rfl⟩:=hx
   unfold kx at hd
   simp only at hd
   split at hd
   ·rename_i hf
    cases hd
    obtain ⟨a,rfl,⟨vs,h1,h2⟩ | ⟨vs,h1,n,h2⟩ | ⟨o,vs,es,rfl,h1,n,h2⟩⟩:=rx.dict sub
    ·exact xV hc pins s σ H _ _ Q I (.cons ru .nil) ⟨a,vs,rfl,h1,fun l hl=>q _ _ _ (.new sub hl) (.list (.of bn) ((DZ h2).same (cP.new sub hl).sh))⟩
    ·exact (n (h2.flat hf).1).elim
    ·cases hf
   ·cases hd
  ·have e:kx d=AV d:=by
    cases d with
    | dict kvs=>exact (hx ⟨kvs,rfl⟩).elim
    | _=>rfl
   rw [e] at hd
   exact (PF (X:=X)).1 pins s σ H [x] [u] Q I (.cons ru .nil) ⟨Hs,[d],sub,.cons rx .nil,d',hd,q⟩
end
end
section
open PyProof.Rows (envOfC)
section
variable {c:C}{e a b d:aX}{g ga gb gc:aw->R D}{pos p cpos:Pos}{x:Str}
theorem Mn {K:a8}{cls:Str->aj}{E:XK}{h h':D->D->R D}{ρ:aw}{σ:St}{H:Hp}{Q:VK} (hx:∀ x y c n,h x y≠.ex c n) (hx':∀ x y c n,h' x y≠.ex c n) (q:TR K cls E ρ (qo ga gb gc h h' ρ) σ H Q) :
  G5 (rD K h) (rD K h') (TB K cls E ρ (ga ρ)) (TB K cls E ρ (gb ρ)) (TB K cls E ρ (gc ρ)) σ H Q:=by
 obtain ⟨H0,Hs0,la,Hs,f,q⟩:=q
 refine one f q fun x v H1 Hs1 e1 s1 f1 r1=>?_
 unfold qo at q
 rw [e1,bind_ok] at q
 refine one f1 (q.on s1 (q':=fun _=>True) fun _ _=>trivial) fun y u H2 Hs2 e2 s2 f2 r2=>?_
 rw [e2,bind_ok] at q
 cases hr:h x y with
 | ex c n=>exact (hx x y c n hr).elim
 | no=>rw [hr] at q;exact q.elim
 | ok z =>
  rw [hr,bind_ok] at q
  refine ⟨Hs2,x,y,f2.st.sub,r1.step s2,r2,z,hr,fun w H3 Hs3 s3 r3=>?_⟩
  cases r3 with
  | bool k =>
   refine ⟨k,rfl,?_⟩
   have f3:=f2.step s3
   cases k with
   | false=>exact BL (q _ H3 Hs3 (s1.trans (s2.trans s3)) (.bool _))
   | true =>
    refine BM (one f3 (q.on (s1.trans (s2.trans s3)) (q':=fun _=>True) fun _ _=>trivial) fun t u' H4 Hs4 e4 s4 f4 r4=>?_)
    simp only [e4,bind_ok] at q
    cases hr':h' y t with
    | ex c n=>exact (hx' y t c n hr').elim
    | no=>rw [hr'] at q;exact q.elim
    | ok z' =>
     rw [hr'] at q
     exact ⟨Hs4,y,t,f4.st.sub,(r2.step s3).step s4,r4,z',hr',fun w H5 Hs5 s5 r5=>q w H5 Hs5 (s1.trans (s2.trans (s3.trans (s4.trans s5)))) r5⟩
  | none=>exact q.elim
  | int _=>exact q.elim
  | str _=>exact q.elim
  | list _ _=>exact q.elim
  | tuple _ _=>exact q.elim
  | dictK _ _=>exact q.elim
  | dictT _ _ _=>exact q.elim
  | dictF _ _ _=>exact q.elim
theorem D_ {op op':xh}{h h':D->D->R D} (ho:wz c.X (bI op) h) (ho':wz c.X (bI op') h') (ha:JB c a ga) (hb:JB c b gb) (hc:JB c d gc) (hm:KL [op,op'] [b,d]=false:=by with_unfolding_all rfl):JE c (.Compare a [op,op'] [b,d] pos) (qo ga gb gc h h') :=
 .of fun ρ=>rX (Lw ho.1 ho'.1 (ha ρ) (hb ρ) (hc ρ) hm) fun σ H Q q=>Mn ho.2 ho'.2 q
theorem Mo {op op':xh}{h h':D->D->R D} (ho:wz c.X (bI op) h) (ho':wz c.X (bI op') h') (ha:JB c a ga) (hb:JB c b gb) (hc:JB c d gc) (hm:KL [op,op'] [b,d]=false:=by with_unfolding_all rfl):JT c (.Compare a [op,op'] [b,d] pos) (dP (qo ga gb gc h h')) :=
 .of fun ρ=>Ur (Lx ho.1 ho'.1 (ha ρ) (hb ρ) (hc ρ) hm) fun σ H Q q=>Mn ho.2 ho'.2 (Us q)
def SK:D->R D
 | .int i=>.ok (.int (-i))
 | _=>.no
def pR (g:aw->R D):aw->R D:=fun ρ=>(g ρ).bind SK
theorem vF (h:JE c e g):JE c (.UnaryOp .USub e pos) (pR g):=.of fun ρ=>rX (TZ Sg (h ρ)) fun σ H Q h_0=>by
 obtain ⟨H0,Hs0,la,Hs,f,q⟩:=h_0
 refine Ac f q fun d v H1 Hs1 e1 s1 f1 r1=>?_
 unfold pR at q
 rw [e1,bind_ok] at q
 cases r1 with
 | int i=>exact ⟨i,rfl,q _ H1 Hs1 s1 (.int _)⟩
 | _=>exact q.elim
inductive UI (K:a8) (w:ba) (cls:Str->aj) (E:XK) (ρ:aw) (r:R (List Str)) (σ:St) (H:Hp) (Q:VK):Prop
 | mk (H0 Hs0:Hp) (la:Nat->Option aj) (Hs:Hp) (f:Fr K H0 Hs0 la ρ σ H Hs) (q:Fin K cls E H Hs r fun ss=>∀ p H' Hs',cP H Hs H' Hs'->H' p=none->Q (.ref p) (upd H' p (lz w p ss))):UI K w cls E ρ r σ H Q
def VM (K:a8) (w:ba) (cls:Str->aj) (E:XK) (ρ:aw) (r:R (List Str)):TE:=UI K w cls E ρ r
structure PN (c:C) (e:aX) (g:aw->R (List Str)):Prop where of ::
 run:∀ ρ,PE c.X e (VM c.X.K c.X.w c.cls c.E ρ (g ρ))
instance {c:C}{e:aX}{g:aw->R (List Str)}:CoeFun (PN c e g) (fun _=>∀ ρ,PE c.X e (VM c.X.K c.X.w c.cls c.E ρ (g ρ))):=⟨PN.run⟩
theorem HU {K:a8}{w:ba}{cls:Str->aj}{E:XK}{ρ:aw}{r:R (List Str)}{β:Type}{k:List Str->R β}{σ:St}{H:Hp}{H0 Hs0 Hs:Hp}{la:Nat->Option aj}{Q:V->Hp->Prop}{q:β->Prop} (f:Fr K H0 Hs0 la ρ σ H Hs)
  (h:Fin K cls E H Hs (r.bind k) q) (m:∀ ss p H' Hs',r=.ok ss->cP H Hs H' Hs'->Fr K H0 Hs0 la ρ σ H' Hs'->H' p=none->Q (.ref p) (upd H' p (lz w p ss))):VM K w cls E ρ r σ H Q:=by
 refine ⟨H0,Hs0,la,Hs,f,?_⟩
 cases r with
 | ok d=>exact fun p H' Hs' s n=>m d p H' Hs' rfl s (f.step s) n
 | ex c n=>exact h
 | no=>exact h
variable {gset:aw->R (List Str)}
def sJ:D->R (List Str)
 | .list ds=>match fU ds with
  | some ss=>if ss.length<60 then .ok (dk [] ss) else .no
  | none=>.no
 | .tuple ds=>match fU ds with
  | some ss=>if ss.length<60 then .ok (dk [] ss) else .no
  | none=>.no
 | _=>.no
def oK (g:aw->R D):aw->R (List Str):=fun ρ=>(g ρ).bind sJ
theorem Cd (hc:c.X.calm=true) (h:JB c e g) (hg2:Gl c.X "set") (hm2:c.X.mg "set"=none) (he:aI [e] c.X.env=(false,dE e c.X.env)::aI [] c.X.env:=by rfl) :
  PN c (.Call (.Name "set" p) [e] [] cpos) (oK g):=.of fun ρ=>by
 refine rX (AK (DG hc) hg2 hm2 PyProof.Rows.boot_set (ip (h ρ) jW he) (he:=he)) fun σ H Q h_1=>?_
 obtain ⟨H0,Hs0,la,Hs,f,q⟩:=h_1
 refine one f q fun d v H1 Hs1 e1 s1 f1 r1=>?_
 unfold oK at q
 rw [e1,bind_ok] at q
 unfold sJ at q
 split at q
 ·split at q
  ·rename_i ss hs
   by_cases hz:ss.length<60
   ·rw [if_pos hz] at q
    obtain ⟨a,vs,rfl,qa,ra⟩:=r1.list f1.st.sub
    rw [qq hs] at ra
    rw [oG ra] at qa
    exact ⟨a,ss,rfl,.inl qa,aJ (Jb hz 1) (by decide),fun p hp=>q p H1 Hs1 s1 hp⟩
   ·rw [if_neg hz] at q;exact q.elim
  ·exact q.elim
 ·split at q
  ·rename_i ss hs
   by_cases hz:ss.length<60
   ·rw [if_pos hz] at q
    obtain ⟨a,vs,rfl,qa,ra,_⟩:=r1.tuple f1.st.sub
    rw [qq hs] at ra
    rw [oG ra] at qa
    exact ⟨a,ss,rfl,.inr qa,aJ (Jb hz 1) (by decide),fun p hp=>q p H1 Hs1 s1 hp⟩
   ·rw [if_neg hz] at q;exact q.elim
  ·exact q.elim
 ·exact q.elim
def kO (g:aw->R (List Str)):aw->R D:=fun ρ=>(g ρ).bind fun ss=>if ss.length<64 then .ok (.list ((jv ss).map .str)) else .no
theorem sK (hc:c.X.calm=true) (h:PN c e gset) (hg:Gl c.X "sorted") (hm:c.X.mg "sorted"=none) (he:aI [e] c.X.env=(false,dE e c.X.env)::aI [] c.X.env:=by rfl) :
  JE c (.Call (.Name "sorted" p) [e] [] cpos) (kO gset):=.of fun ρ=>by
 refine rX (ua (wX hc) hg hm wq (ip (h ρ) jW he) (he:=he)) fun σ H Q h_2=>?_
 obtain ⟨H0,Hs0,la,Hs,f,q⟩:=h_2
 dsimp only [L2.U6,L2.Lz,L2.Sk]
 refine HU (w:=c.X.w) f q fun ss p H1 Hs1 e1 s1 f1 n1=>?_
 unfold kO at q
 rw [e1,bind_ok] at q
 by_cases hz:ss.length<64
 ·rw [if_pos hz] at q
  have st1:cP H1 Hs1 (upd H1 p (lz c.X.w p ss)) Hs1:=.mine f1.st.sub n1
  exact ⟨p,ss,rfl,bn,hz,fun l hl=>q _ _ _ (s1.trans (st1.trans (.new st1.sub hl))) (.list (.of bn) (xX _))⟩
 ·rw [if_neg hz] at q;exact q.elim
def uw (g:aw->R (List Str)):aw->R D:=fun ρ=>(g ρ).bind fun ss=>.ok (.int ss.length)
theorem JX (h:PN c e gset) (hg:Gl c.X "len") (hm:c.X.mg "len"=none) (he:aI [e] c.X.env=(false,dE e c.X.env)::aI [] c.X.env:=by rfl) :
  JE c (.Call (.Name "len" p) [e] [] cpos) (uw gset):=.of fun ρ=>by
 refine rX (ua A9 hg hm bd (ip (h ρ) jW he) (he:=he)) fun σ H Q h_3=>?_
 obtain ⟨H0,Hs0,la,Hs,f,q⟩:=h_3
 dsimp only [L2.U6,L2.Lz,L2.Sk]
 refine HU (w:=c.X.w) f q fun ss p H1 Hs1 e1 s1 f1 n1=>?_
 unfold uw at q
 rw [e1,bind_ok] at q
 have st1:cP H1 Hs1 (upd H1 p (lz c.X.w p ss)) Hs1:=.mine f1.st.sub n1
 exact ⟨p,ss,rfl,bn,q _ _ _ (s1.trans st1) (.int _)⟩
variable {elt iter tg:aX}{ifs:List aX}{scope:eO}{N':List Str}{nt:Nat}{ix:List Nat}{gi:aw->R (List D)}{gt:aw->R Bool}{ge:aw->R D}
def vG (nt:Nat) (ix:List Nat) (gi:aw->R (List D)) (gt:aw->R Bool) (ge:aw->R D):aw->R (List Str):=fun ρ=>(gi ρ).bind fun ds=>if ds.length<=60 then (gg (hX nt (nW nt ix ρ) gt ge) ds).bind fun ys=>match fU ys with
 | some ss=>.ok (dk [] ss)
 | none=>.no else .no
theorem Af {ys:List D}{xs:List D}:∀ {ss:List Str},fU (xs++ys)=some ss->∃ s1 s2,fU xs=some s1/\fU ys=some s2/\ss=s1++s2:=by
 induction xs with
 | nil=>intro ss h;exact ⟨[],ss,rfl,h,rfl⟩
 | cons d r ih =>
  intro ss h
  cases d with
  | str b =>
   have h:(fU (r++ys)).map (b::·)=some ss:=h
   cases hr:fU (r++ys) with
   | none=>rw [hr] at h;cases h
   | some z =>
    rw [hr] at h
    cases h
    obtain ⟨s1,s2,h1,h2,rfl⟩:=ih hr
    exact ⟨b::s1,s2,by show (fU r).map (b::·)=_;rw [h1];rfl,h2,rfl⟩
  | _=>cases h
theorem yj (z:Str):∀ (l acc:List Str),dk acc (l++[z])=if z∈dk acc l then dk acc l else dk acc l++[z]
 | [],acc=>rfl
 | x::l,acc=>by
  show dk _ (l++[z])=_
  rw [yj z l]
  rfl
inductive Xl (f:D->R (Option D)) (ds:List D) (ss:List Str) (H1 Hs1:Hp) (i m:Nat) (acc:List Str) (H':Hp):Prop
 | mk (done c7 zs sa sz Hs':_) (h0:ds=done++c7) (h1:done.length=i) (h2:c7.length=m) (h3:cP H1 Hs1 H' Hs') (h4:acc=dk [] sa) (h5:sa.length<=i) (h6:gg f c7=.ok zs) (h7:fU zs=some sz) (h8:ss=sa++sz):Xl f ds ss H1 Hs1 i m acc H'
theorem PP {K:a8}{w:ba}{cls:Str->aj}{E:XK}{ρ:aw}{σ:St}{H:Hp}{Q:VK} (hnt:nt=1\/nt=2)
  (q:VM K w cls E ρ (vG nt ix gi gt ge ρ) σ H Q) :
  M7 w nt ix (VJ K cls E ρ (gi ρ)) (JV K nt) (fun σ H Q=>∃ ρ',JH K cls E0 ρ' (gt ρ') σ H Q) (fun σ H Q=>∃ ρ',TR K cls E0 ρ' (ge ρ') σ H Q) σ H Q:=by
 obtain ⟨H0,Hs0,la,Hs,f,q⟩:=q
 refine ⟨H0,Hs0,la,Hs,f,?_⟩
 unfold vG at q
 cases hi:gi ρ with
 | no=>rw [hi] at q;exact q
 | ex x n=>rw [hi] at q;exact q
 | ok ds =>
  rw [hi,bind_ok] at q
  intro J H1 Hs1 Hn s1 sn it
  by_cases hl:ds.length<=60
  ·rw [if_pos hl] at q
   cases hm:gg (hX nt (nW nt ix ρ) gt ge) ds with
   | no=>rw [hm] at q;exact q.elim
   | ex x n=>exact (ye (DW _ _ _ _) _ _ _ hm).elim
   | ok ys =>
    rw [hm,bind_ok] at q
    cases hs:fU ys with
    | none=>rw [hs] at q;exact q.elim
    | some ss =>
     rw [hs] at q
     obtain ⟨lb,fb⟩:=(f.step s1).block nt ix
     refine ⟨Xl (hX nt (nW nt ix ρ) gt ge) ds ss H1 Hs1,
      ⟨ds.length,[],ds,ys,[],ss,Hs1,rfl,rfl,rfl,.refl s1.sub,rfl,cE _,hm,hs,rfl⟩,?_⟩
     rintro i m acc H' ⟨done,c7,zs,sa,sz,Hs',hds,hdl,hrl,st,rfl,yl,hz,hzs,hy⟩
     obtain ⟨igo,istop,iyld⟩:=it H' Hs' (sn.trans st.all) st.sh st.sub
     cases c7 with
     | nil =>
      left
      cases hz
      cases hzs
      rw [de] at hds hy
      subst hy hds
      exact ⟨istop i (by omega),fun p hp=>q p H' Hs' (s1.trans st) hp⟩
     | cons d c7 =>
      right
      have hil:i<ds.length:=by rw [hds,aG,aR];omega
      have hol:=eS sa []
      simp at hol
      refine ⟨igo i hil,vd (show (dk [] sa).length + 1<=61 by omega) (by decide),fun x H2 hyl=>?_⟩
      obtain ⟨d',Hs2,hd,s2,r2⟩:=iyld i x H2 hil hyl
      have hdd:d'=d:=by
       rw [hds,bf (by omega)] at hd
       simp [hdl] at hd
       exact hd.symm
      subst hdd
      obtain ⟨o,zs',hf,hz',rfl⟩:=yd hz
      have hf:=HP hf
      obtain ⟨so,sz',hso,hsz,rfl⟩:=Af hzs
      cases hb:UG nt d' (nW nt ix ρ) with
      | no=>rw [hb] at hf;cases hf
      | ex x n=>rw [hb] at hf;cases hf
      | ok ρ' =>
       rw [hb,bind_ok] at hf
       refine DV hnt ((fb.step st).step s2) r2 hb fun σ2 f2=>⟨ρ',?_⟩
       refine ⟨_,_,_,Hs2,f2,?_⟩
       cases ht:gt ρ' with
       | no=>rw [ht] at hf;cases hf
       | ex x n=>rw [ht] at hf;cases hf
       | ok b =>
        rw [ht,bind_ok] at hf
        intro H3 Hs3 s3
        cases b with
        | false =>
         rw [if_neg bi] at hf
         cases hf
         cases hso
         refine BL ⟨c7.length,by rw [<- hrl];simp,done++[d'],c7,zs',sa,sz',Hs3,by rw [hds];simp,by simp [hdl],rfl,(st.trans s2).trans s3,rfl,by omega,hz',hsz,by simpa using hy⟩
        | true =>
         rw [if_pos rfl] at hf
         refine BM ⟨ρ',_,_,_,Hs3,f2.step s3,?_⟩
         cases he:ge ρ' with
         | no=>rw [he] at hf;cases hf
         | ex x n=>rw [he] at hf;cases hf
         | ok y =>
          rw [he,bind_ok] at hf
          cases hf
          intro v H4 Hs4 s4 r4
          cases r4 with
          | str z =>
           cases hso
           exact ⟨z,c7.length,rfl,by rw [<- hrl];simp,done++[d'],c7,zs',sa++[z],sz',Hs4,by rw [hds];simp,by simp [hdl],rfl,((st.trans s2).trans s3).trans s4,(yj z sa []).symm,by simp;omega,hz',hsz,by rw [hy];simp⟩
          | none=>cases hso
          | bool _=>cases hso
          | int _=>cases hso
          | list _ _=>cases hso
          | tuple _ _=>cases hso
          | dictK _ _=>cases hso
          | dictT _ _ _=>cases hso
          | dictF _ _ _=>cases hso
  ·rw [if_neg hl] at q;exact q.elim
theorem Mp (nt:Nat) (hnt:nt=1\/nt=2) (hc:c.X.calm=true) (S:nA c.X scope N' nt ix) (hi:JI c tg iter gi) (hb:uv c N' scope nt tg ifs elt gt ge) (hs:∀ x,e8 iter c.X.env x=pure x:=by intro _;rfl) :
  PN c (.SetComp elt [⟨tg,iter,ifs,0⟩] scope pos) (vG nt ix gi gt ge):=.of fun ρ=>rX (Gj hc S (C8 hnt) (hi ρ) hb.at hs) fun σ H Q q=>PP hnt q
end
def bM (n:Nat) (ds:List D):aw:=ds.map Sl.shr++rN (n - ds.length) Sl.no
def eC (n:Nat) (g:aw->R Fl):List D->R D:=fun ds=>match g (bM n ds) with
 | .ok (.nx _)=>.ok .none
 | .ok (.rt d)=>.ok d
 | .ex c m=>.ex c m
 | _=>.no
theorem yk {n:Nat}{ds:List D}{i:Nat}{s:Sl} (h:(bM n ds)[i]?=some s):(∃ d,ds[i]?=some d/\s=.shr d)\/s=.no:=by
 unfold bM at h
 by_cases hi:i<ds.length
 ·rw [bc (by simpa using hi),aZ] at h
  cases hd:ds[i]? with
  | none=>rw [hd] at h;cases h
  | some z=>rw [hd] at h;cases h;exact .inl ⟨z,rfl,rfl⟩
 ·rw [bf (by simp;omega),cg] at h
  split at h<;>cases h
  exact .inr rfl
theorem JY {N:List Str}{vs:List V}{i:Nat}{v:V} (h:vs[i]?=some v):(L2.start N vs)[i]?=some (some v):=by
 unfold L2.start
 have hi:i<vs.length:=(List.getElem?_eq_some_iff.mp h).1
 rw [bc (by simpa using hi),aZ,h]
 rfl
theorem Fr.start {K : a8} {H Hs : Hp} {N : List Str} {vs : List V} {ds : List D} (sub : dH Hs H) (r : RDs K Hs vs ds) : Fr K H Hs (fun _ => none) (bM N.length ds) (L2.start N vs) H Hs := by
  have hl := r.length
  refine ⟨.refl sub, by simp [bM, L2.start, hl], fun i d h => ?_, fun i d h => ?_, fun i d h => ?_, fun i j d e a h _ _ _ => ?_, fun i a h => (nomatch h), fun i d h => ?_, fun i j d e h _ => ?_⟩
  · rcases yk h with ⟨z, hz, e⟩ | e
    · cases e
      obtain ⟨v, k1, k2⟩ := r.get' hz
      exact ⟨v, JY k1, k2⟩
    · cases e
  all_goals (rcases yk h with ⟨z, _, e⟩ | e <;> cases e)
theorem R6 {P:aM}{w:ba}{K:a8}{mg:Str->Option ac}{base:bB}{cls:Str->aj}{x qual:Str}{st:cA}{f:aj}{fd:fz}{N ps:List Str}{k:Nat}{g:aw->R Fl} (F:Jt K x qual st f fd) (S:bD N ps (aC st))
  (h:∀ (cdv:ac) (A:bv) (outer:List Env) (s:ag) (H:Hp) (E:XK),lX k (A.deeper (si qual (aC st) s.heap.objs.size f cdv))->HL ⟨jN (qk P w) P w K mg base N qual (aC st) f cdv A outer s H E,cls,E⟩ (ju st) g) :
  vo P w K mg base (qk P w) (k + 1) f fd ps (UB K cls ps.length (eC N.length g)):=by
 obtain ⟨oc,od,kV,doc,pm,an,cdv,ct,osl,rfl,lk,hcd⟩:=F.ex
 refine U5 lk hcd S (fun vs H Q E h_4=>by obtain ⟨Hs,ds,sub,hn,r,q⟩:=h_4;exact by rw [r.length];exact hn) fun A outer s H vs Q E hr hsp=>?_
 obtain ⟨Hs,ds,sub,hn,r,q⟩:=hsp
 refine ⟨_,h cdv A outer s H E hr (bM N.length ds),H,Hs,_,Hs,Fr.start sub r,?_⟩
 unfold eC at q
 cases hg:g (bM N.length ds) with
 | no=>rw [hg] at q;exact q
 | ex c n=>rw [hg] at q;exact q
 | ok fl =>
  rw [hg] at q
  cases fl with
  | nx ρ'=>exact fun σ' H' Hs' f'=>q .non H' Hs' f'.st .none
  | rt d=>exact fun v H' Hs' s r=>q v H' Hs' s r
  | bk ρ'=>exact q.elim
  | ct ρ'=>exact q.elim
theorem UJ {P:aM}{w:ba}{K:a8}{mg:Str->Option ac}{base:bB}{cls:Str->aj}{x qual:Str}{st:cA}{f:aj}{fd:fz}{N ps:List Str}{k:Nat}{g:aw->R Fl} (F:Jt K x qual st f fd) (S:bD N ps (aC st)) (hm:mg x=some (.ref f)) (hb:nT K fd ps [])
  (h:∀ (cdv:ac) (A:bv) (outer:List Env) (s:ag) (H:Hp) (E:XK),lX k (A.deeper (si qual (aC st) s.heap.objs.size f cdv))->HL ⟨jN (qk P w) P w K mg base N qual (aC st) f cdv A outer s H E,cls,E⟩ (ju st) g) :
  Fn P w K mg base cls x (k + 1) ps.length (eC N.length g):=⟨f,fd,ps,R6 F S h,hm,F.kp,hb⟩
theorem dh {X:Cx}:sx (qk X.prog X.w) X E0:=fun _ _ _ _ _ _ _ h=>by
 obtain ⟨_,_,_,_,_,_,_,_,_,q⟩:=h
 exact q.elim
end
section
def clear2 (ρ:aw):aw:=ρ.map fun s=>match s with
 | .ow2 _=>.no
 | s=>s
section
variable {K:a8}
theorem Fr.clear2 {H0 Hs0 H Hs:Hp}{la:Nat->Option aj}{ρ:aw}{σ:St} (f:Fr K H0 Hs0 la ρ σ H Hs):Fr K H0 Hs0 la (clear2 ρ) σ H Hs/\∀ (j:Nat) (d:List (List D)),¬ (J.clear2 ρ)[j]?=some (Sl.ow2 d):=by
 have un:∀ {j:Nat}{s:Sl},(J.clear2 ρ)[j]?=some s->(∀ d,s≠.ow2 d)/\(ρ[j]?=some s\/s=.no):=fun {j s} e=>by
  unfold J.clear2 at e
  rw [aZ] at e
  cases h:ρ[j]? with
  | none=>rw [h] at e;cases e
  | some t =>
   rw [h] at e
   cases t with
   | ow2 d=>cases e;exact ⟨fun _ z=>(by cases z),.inr rfl⟩
   | no=>cases e;exact ⟨fun _ z=>(by cases z),.inl rfl⟩
   | shr d=>cases e;exact ⟨fun _ z=>(by cases z),.inl rfl⟩
   | lck d=>cases e;exact ⟨fun _ z=>(by cases z),.inl rfl⟩
   | own d=>cases e;exact ⟨fun _ z=>(by cases z),.inl rfl⟩
 have is:∀ {j:Nat}{s:Sl},s≠.no->(J.clear2 ρ)[j]?=some s->ρ[j]?=some s:=fun {j s} n e=>(un e).2.resolve_right n
 have no2:∀ (j:Nat) (d:List (List D)),¬ (J.clear2 ρ)[j]?=some (Sl.ow2 d):=fun j d e=>(un e).1 d rfl
 exact ⟨⟨f.st,by simp [J.clear2,f.len],fun j d h=>f.sh j d (is (fun z=>by cases z) h),fun j d h=>f.ow j d (is (fun z=>by cases z) h),fun j d h=>f.lk j d (is (fun z=>by cases z) h),fun j k d e a h1 h2=>f.dj j k d e a (is (fun z=>by cases z) h1) (is (fun z=>by cases z) h2),f.lh,fun j d h=>(no2 j d h).elim,fun j k d e h _=>(no2 j d h).elim⟩,no2⟩
end
def qv:List aj->Hp->Hp
 | [],H=>H
 | a::as,H=>qv as (upd H a (.lst []))
section
variable {c:C}{e:aX}{g gi:aw->R D}{pos p apos cpos spos:Pos}{x:Str}
theorem ym:∀ (as:List aj) (H:Hp),(∀ a∈as,H a=none)->as.Nodup->dH H (qv as H)
 | [],H,_,_=>.refl H
 | a::as,H,h,nd=>by
  obtain ⟨n1,n2⟩:=List.nodup_cons.mp nd
  refine (lY (h a am)).trans (ym as _ (fun b hb=>?_) n2)
  rw [bt (fun (z:b=a)=>n1 (z ▸ hb))]
  exact h b (ak _ hb)
theorem E1:∀ (as:List aj) (H:Hp),as.Nodup->∀ a∈as,qv as H a=some (.lst [])
 | a::as,H,nd,b,hb=>by
  obtain ⟨n1,n2⟩:=List.nodup_cons.mp nd
  show qv as (upd H a (.lst [])) b=_
  by_cases hm:b∈as
  ·exact E1 as _ n2 b hm
  ·have e:b=a:=(List.mem_cons.mp hb).resolve_right hm
   subst e
   have:∀ (as:List aj) (H:Hp),b∉as->qv as H b=H b:=by
    intro as
    induction as with
    | nil=>intro H _;rfl
    | cons c as ih =>
     intro H h
     show qv as (upd H c (.lst [])) b=_
     rw [ih _ (fun z=>h (ak _ z)),bt (fun (z:b=c)=>h (by rw [z];exact am))]
   rw [this as _ hm,bn]
theorem m6:∀ (as:List aj) (H:Hp) (b:aj),qv as H b=none->H b=none/\b∉as
 | [],H,b,h=>⟨h,by simp⟩
 | a::as,H,b,h=>by
  obtain ⟨h1,h2⟩:=m6 as (upd H a (.lst [])) b h
  by_cases hb:b=a
  ·subst hb;rw [bn] at h1;cases h1
  ·rw [bt hb] at h1
   exact ⟨h1,fun z=>(List.mem_cons.mp z).elim hb h2⟩
def PQ (i:Nat):aw->R Fl:=fun ρ=>.ok (.nx ((clear2 ρ).set i (.ow2 [[],[],[],[]])))
theorem SL (i:Nat) {p1 p2 p3 p4:Pos}{pos':Pos} (hN:c.X.N.Nodup) (hi:c.X.N[i]?=some x:=by rfl) (hx:QF c.X.env.scope x:=by first | exact iP rfl | exact fv rfl)
  (hs:gW (.List [.List [] p1,.List [] p2,.List [] p3,.List [] p4] p) (some (.Name x pos')) spos.line c.X.env=pure false:=by rfl)
  (hf:c.X.fn x=true\/c.X.env.scope.names.lookup x=some .local:=by first | exact .inl rfl | exact .inr rfl | assumption)
  (h1:aI [.List [] p1,.List [] p2,.List [] p3,.List [] p4] c.X.env=(false,dE (.List [] p1) c.X.env)::aI [.List [] p2,.List [] p3,.List [] p4] c.X.env:=by rfl)
  (h2:aI [.List [] p2,.List [] p3,.List [] p4] c.X.env=(false,dE (.List [] p2) c.X.env)::aI [.List [] p3,.List [] p4] c.X.env:=by rfl)
  (h3:aI [.List [] p3,.List [] p4] c.X.env=(false,dE (.List [] p3) c.X.env)::aI [.List [] p4] c.X.env:=by rfl)
  (h4:aI [.List [] p4] c.X.env=(false,dE (.List [] p4) c.X.env)::aI [] c.X.env:=by rfl) :
  JS c (.Assign [.Name x pos'] (.List [.List [] p1,.List [] p2,.List [] p3,.List [] p4] p) spos) (PQ i):=.of fun ρ=>by
 refine Ab (G1 hN hi hx (sw (ip (sw jW) (ip (sw jW) (ip (sw jW) (ip (sw jW) jW h4) h3) h2) h1)) hs hf) fun D σ H h_0=>?_
 obtain ⟨H0,Hs0,la,Hs,f,q⟩:=h_0
 replace q:oI c.X.K c.cls c.E H0 Hs0 la D (PQ i ρ):=q
 obtain ⟨f,no2⟩:=f.clear2
 refine ⟨cE _,fun a1 n1=>⟨cE _,fun a2 n2=>⟨cE _,fun a3 n3=>⟨cE _,fun a4 n4=>⟨cr (dN (show 4<=1000 by decide)),fun a n=>?_⟩⟩⟩⟩⟩
 have N:=m6 [a1,a2,a3,a4] H a n
 have N4:=m6 [a1,a2,a3] H a4 n4
 have N3:=m6 [a1,a2] H a3 n3
 have N2:=m6 [a1] H a2 n2
 simp only [b9,aS,or_false,not_or] at N N4 N3 N2
 have nd:[a1,a2,a3,a4].Nodup:=by
  simp only [List.nodup_cons,b9,aS,or_false,not_or,gz,and_true,not_false_eq_true]
  exact ⟨⟨db N2.2,db N3.2.1,db N4.2.1⟩,⟨db N3.2.2,db N4.2.2.1⟩,db N4.2.2.2⟩
 have free:∀ b∈[a1,a2,a3,a4],H b=none:=fun b hb=>by
  simp only [b9,aS,or_false] at hb
  rcases hb with rfl | rfl | rfl | rfl
  ·exact n1
  ·exact N2.1
  ·exact N3.1
  ·exact N4.1
 have nd5:(a::[a1,a2,a3,a4]).Nodup:=List.nodup_cons.mpr ⟨by simp only [b9,aS,or_false,not_or];exact N.2,nd⟩
 have sm:dH H (qv [a1,a2,a3,a4] H):=ym _ _ free nd
 have all:dH H (upd (qv [a1,a2,a3,a4] H) a (.lst [.ref a1,.ref a2,.ref a3,.ref a4])):=sm.trans (lY n)
 have free5:∀ b∈a::[a1,a2,a3,a4],H b=none:=fun b hb=>(List.mem_cons.mp hb).elim (fun z=>z ▸ N.1) (free b)
 have st:cP H Hs (upd (qv [a1,a2,a3,a4] H) a (.lst [.ref a1,.ref a2,.ref a3,.ref a4])) Hs:=⟨all,.refl _,f.st.sub.trans all,fun _ _ _ _ z=>z⟩
 have f':=f.step st
 have hl:i<σ.length\/¬ i<σ.length:=Decidable.em _
 have nx:∀ {j:Nat}{s:Sl},(∀ d,s≠.ow2 d)->((clear2 ρ).set i (.ow2 [[],[],[],[]]))[j]?=some s->(clear2 ρ)[j]?=some s/\i≠j:=fun {j s} hs e=>by
  by_cases hj:i=j
  ·subst hj
   by_cases hi:i<(clear2 ρ).length
   ·rw [aK hi] at e;exact absurd (bG e).symm (hs _)
   ·rw [cC (by simpa using hi)] at e;cases e
  ·rw [al hj] at e;exact ⟨e,hj⟩
 refine q _ _ Hs ⟨f'.st,by simp [f'.len],fun j d h=>?_,fun j d h=>?_,fun j d h=>?_,fun j k d d' b h1 h2 h3 h4=>?_,f'.lh,fun j d h=>?_,fun j k d d' h1 h2=>?_⟩
 ·obtain ⟨h,hj⟩:=nx (fun _ z=>by cases z) h
  rw [al hj];exact f'.sh j d h
 ·obtain ⟨h,hj⟩:=nx (fun _ z=>by cases z) h
  rw [al hj];exact f'.ow j d h
 ·obtain ⟨h,hj⟩:=nx (fun _ z=>by cases z) h
  rw [al hj];exact f'.lk j d h
 ·obtain ⟨h1,hj⟩:=nx (fun _ z=>by cases z) h1
  obtain ⟨h2,hk⟩:=nx (fun _ z=>by cases z) h2
  rw [al hj] at h3
  rw [al hk] at h4
  exact f'.dj j k d d' b h1 h2 h3 h4
 ·by_cases hj:i=j
  ·subst hj
   by_cases hi:i<(clear2 ρ).length
   ·rw [aK hi] at h
    cases h
    have at4:=E1 [a1,a2,a3,a4] H nd
    have ne:∀ b∈[a1,a2,a3,a4],b≠a:=fun b hb z=>(List.nodup_cons.mp nd5).1 (z ▸ hb)
    have go:∀ b∈[a1,a2,a3,a4],upd (qv [a1,a2,a3,a4] H) a (.lst [.ref a1,.ref a2,.ref a3,.ref a4]) b=some (.lst []):=fun b hb=>by rw [bt (ne b hb)];exact at4 b hb
    refine ⟨a,[a1,a2,a3,a4],aK (by rw [<- f'.len];exact hi),bn,nd5,fun b hb=>⟨f.st.sub.free (free5 b hb),f.st.all.free (free5 b hb)⟩,fun b hb k e hk=>?_,.cons (go _ (by simp)) .nil (.cons (go _ (by simp)) .nil (.cons (go _ (by simp)) .nil (.cons (go _ (by simp)) .nil .nil)))⟩
    obtain ⟨hk,nk⟩:=nx (fun _ z=>by cases z) hk
    rw [al nk]
    intro z
    obtain ⟨b',o,k1,k2,_⟩:=f.ow k e hk
    rw [z] at k1
    cases k1
    rw [free5 b hb] at k2;cases k2
   ·rw [cC (by simpa using hi)] at h;cases h
  ·rw [al hj] at h;exact (no2 j d h).elim
 ·by_cases hj:i=j
  ·by_cases hk:i=k
   ·exact hj.symm.trans hk
   ·rw [al hk] at h2;exact (no2 k d' h2).elim
  ·rw [al hj] at h1;exact (no2 j d h1).elim
theorem Mq {st:cA}{gs:aw->R Fl} (h:JS c st gs):JS c st (fun ρ=>gs (fq ρ)):=.of fun ρ=>Ab (h (fq ρ)) fun D σ H h_1=>by
 obtain ⟨H0,Hs0,la,Hs,f,q⟩:=h_1
 obtain ⟨Hs',f'⟩:=f.shared
 exact ⟨H0,Hs0,la,Hs',f',q⟩
def shareAt (i:Nat) (ρ:aw):aw:=match ρ[i]? with
 | some (Sl.own d)=>ρ.set i (.shr d)
 | _=>ρ
theorem Fr.shareAt {K:a8}{H0 Hs0 H Hs:Hp}{la:Nat->Option aj}{ρ:aw}{σ:St} (f:Fr K H0 Hs0 la ρ σ H Hs) (i:Nat):∃ Hs',Fr K H0 Hs0 la (J.shareAt i ρ) σ H Hs':=by
 unfold J.shareAt
 split
 ·rename_i d ho
  obtain ⟨a,o,k1,k2,k3,k4,k5⟩:=f.ow i d ho
  have hil:i<ρ.length:=(List.getElem?_eq_some_iff.mp ho).1
  have up:dH Hs (upd Hs a o):=lY k3
  have nx:∀ {j:Nat}{s:Sl},(∀ d,s≠.shr d)->(ρ.set i (.shr d))[j]?=some s->ρ[j]?=some s/\i≠j:=fun {j s} hs e=>by
   by_cases hj:i=j
   ·subst hj
    rw [aK hil] at e;exact absurd (bG e).symm (hs d)
   ·rw [al hj] at e;exact ⟨e,hj⟩
  have ne:∀ (j:Nat) (e:D) (b:aj),i≠j->ρ[j]?=some (Sl.own e)->σ[j]?=some (some (V.ref b))->b≠a:=fun j e b hj h hb z=>by
   subst z
   exact hj (f.dj i j d e b ho h k1 hb)
  refine ⟨upd Hs a o,⟨f.st.all,f.st.sh.trans up,fun b u e=>?_,fun b u e t z=>?_⟩,by simp [f.len],fun j e h=>?_,fun j e h=>?_,fun j e h=>?_,fun j k d1 d2 b h1 h2 h3 h4=>?_,f.lh,fun j e h=>?_,fun j k d1 d2 h1 h2=>?_⟩
  ·by_cases hb:b=a
   ·subst hb;rw [bn] at e;cases e;exact k2
   ·rw [bt hb] at e;exact f.st.sub b u e
  ·rw [bt (bT e k4)];exact f.st.out b u e t z
  ·by_cases hj:i=j
   ·subst hj
    rw [aK hil] at h
    cases h
    exact ⟨_,k1,k5.share k3⟩
   ·rw [al hj] at h
    obtain ⟨v,q1,q2⟩:=f.sh j e h
    exact ⟨v,q1,q2.same up⟩
  ·obtain ⟨h,hj⟩:=nx (fun _ z=>by cases z) h
   obtain ⟨b,u,q1,q2,q3,q4,q5⟩:=f.ow j e h
   exact ⟨b,u,q1,q2,by rw [bt (ne j e b hj h q1)];exact q3,q4,q5.same up⟩
  ·obtain ⟨h,hj⟩:=nx (fun _ z=>by cases z) h
   obtain ⟨b,u,q1,q2,q3,q4,q5,q6⟩:=f.lk j e h
   exact ⟨b,u,q1,q2,q3,by rw [bt (bT q5 k4)];exact q4,q5,q6.same up⟩
  ·exact f.dj j k d1 d2 b (nx (fun _ z=>by cases z) h1).1 (nx (fun _ z=>by cases z) h2).1 h3 h4
  ·obtain ⟨h,hj⟩:=nx (fun _ z=>by cases z) h
   obtain ⟨b,as,O⟩:=f.o2 j e h
   refine ⟨b,as,O.at_,O.ob,O.nd,fun c hc=>⟨?_,(O.out c hc).2⟩,fun c hc k e' hk=>O.dj c hc k e' (nx (fun _ z=>by cases z) hk).1,O.inn.step (.refl _) up⟩
   rw [bt (fun z=>O.dj c hc i d ho (by rw [z];exact k1))]
   exact (O.out c hc).1
  ·exact f.u2 j k d1 d2 (nx (fun _ z=>by cases z) h1).1 (nx (fun _ z=>by cases z) h2).1
 ·exact ⟨Hs,f⟩
theorem Gq (i:Nat) {st:cA}{gs:aw->R Fl} (h:JS c st gs):JS c st (fun ρ=>gs (shareAt i ρ)):=.of fun ρ=>Ab (h (shareAt i ρ)) fun D σ H h_2=>by
 obtain ⟨H0,Hs0,la,Hs,f,q⟩:=h_2
 obtain ⟨Hs',f'⟩:=f.shareAt i
 exact ⟨H0,Hs0,la,Hs',f',q⟩
theorem AS.get {K:a8}{H Hs:Hp}{as:List aj}{dss:List (List D)} (h:AS K H Hs as dss):∀ {j:Nat}{ds:List D},dss[j]?=some ds->∃ b vs,as[j]?=some b/\H b=some (.lst vs)/\RDs K Hs vs ds:=by
 induction h with
 | nil=>intro j ds e;cases e
 | cons h r t ih =>
  intro j ds e
  cases j with
  | zero=>cases e;exact ⟨_,_,rfl,h,r⟩
  | succ j=>have q:=ih (j:=j) e;exact q
theorem AS.set {K:a8}{H Hs:Hp}{vs':List V}{ds':List D} (r':RDs K Hs vs' ds'):∀ {as:List aj}{dss:List (List D)}{j:Nat}{b:aj},AS K H Hs as dss->as[j]?=some b->as.Nodup->AS K (L2.upd H b (.lst vs')) Hs as (dss.set j ds')
 | _,_,_,_,.nil,h,_=>by simp at h
 | _,_,0,b,.cons h r t,e,nd=>by
  simp at e
  subst e
  exact .cons bn r' (t.upd (List.nodup_cons.mp nd).1)
 | _,_,j + 1,b,.cons (a:=a) h r t,e,nd=>by
  have e':_:=e
  simp only [jt] at e'
  obtain ⟨n1,n2⟩:=List.nodup_cons.mp nd
  have hb:b∈_:=cm e'
  exact .cons (by rw [bt (fun z=>n1 (by rw [z];exact hb))];exact h) r (AS.set r' t e' n2)
def nX (i:Nat) (gi g:aw->R D):aw->R Fl:=fun ρ=>match ρ[i]? with
 | some (Sl.ow2 dss)=>(gi ρ).bind fun k=>match k with
  | .int j=>if 0<=j then (match dss[j.toNat]? with
   | some ds=>(g ρ).bind fun d=>if ds.length<1000 then .ok (.nx (ρ.set i (.ow2 (dss.set j.toNat (ds++[d]))))) else .no
   | none=>.no) else .no
  | _=>.no
 | _=>.no
variable {ie:aX}
theorem yn (i:Nat) (hie:JE c ie gi) (h:JE c e g) (hN:c.X.N[i]?=some x:=by rfl) (hv:O_ c.X.env.scope x:=by first | exact iP rfl | exact fv (iP rfl) | exact fv (fv rfl)) (hd:(x == ("__debug__" : Str))=false:=by decide)
  (hcd:(x == ("__classdict__" : Str))=false:=by decide) {p3:Pos} (hpx:ud ie:=by exact fun _ _=>rfl)
  (hbase:J7 (.Subscript (.Name x p) ie p3) "append" c.X.env (dE (.Subscript (.Name x p) ie p3) c.X.env)=dE (.Subscript (.Name x p) ie p3) c.X.env:=by rfl)
  (hfew:((j4 cpos (aI [e] c.X.env)).all (fun x=>!x.1) && (backToKw cpos (OE [] c.X.env)).all (fun x=>x.1.isSome)
   && decide ([e].length + ([] : List zO).length + (if ([] : List zO).isEmpty then 0 else 1)<30))=true:=by rfl)
  (hline:(apos.endLine == cpos.line)=true:=by rfl) (hst:aI [e] c.X.env=(false,dE e c.X.env)::aI [] c.X.env:=by rfl) (hplain:(j4 cpos (aI [] c.X.env)).any (·.1)=false:=by rfl)
  (hs:gW (.Call (.Attribute (.Subscript (.Name x p) ie p3) "append" apos) [e] [] cpos) none pos.line c.X.env=pure false:=by rfl) :
  JS c (.Expr (.Call (.Attribute (.Subscript (.Name x p) ie p3) "append" apos) [e] [] cpos) pos) (nX i gi g):=.of fun ρ=>by
 refine Ab (BE (QR AD zU zV AL (QN oC (sv hN hv hd hcd) (hie ρ) hpx) (ip (h ρ) jW hst) hbase hfew hline hst hplain) hs) fun D σ H h_3=>?_
 obtain ⟨H0,Hs0,la,Hs,f,q⟩:=h_3
 replace q:oI c.X.K c.cls c.E H0 Hs0 la D (nX i gi g ρ):=q
 unfold nX at q
 split at q
 ·rename_i dss ho
  obtain ⟨a,as,O⟩:=f.o2 i dss ho
  refine ⟨_,O.at_,?_⟩
  refine sE f q fun k v H1 Hs1 e1 s1 f1 r1=>?_
  rw [e1,bind_ok] at q
  cases r1 with
  | int j =>
   simp only at q
   by_cases hj:0<=j
   ·rw [if_pos hj] at q
    split at q
    ·rename_i ds hds
     obtain ⟨b,vs,hb,hH,rv⟩:=O.inn.get hds
     have hix:Do (as.map V.ref) j=some (.ref b):=by
      have:=uc (xs:=as.map V.ref) (j:=j.toNat) (v:=V.ref b) (by rw [aZ,hb];rfl)
      rwa [fg hj] at this
     refine ⟨a,_,j,_,rfl,rfl,.of (s1.all _ _ O.ob),hix,.inl ⟨rfl,_,.of (s1.all _ _ hH)⟩,?_⟩
     refine sE f1 q fun d w H2 Hs2 e2 s2 f2 r2=>?_
     rw [e2,bind_ok] at q
     by_cases hl:ds.length<1000
     ·rw [if_pos hl] at q
      have st:=s1.trans s2
      refine ⟨b,vs,w,rfl,rfl,st.all _ _ hH,dN (by rw [rv.length];omega),?_⟩
      have hil:i<ρ.length:=(List.getElem?_eq_some_iff.mp ho).1
      obtain ⟨a',as',O2'⟩:=f2.o2 i dss ho
      have ea:a'=a:=by
       have:=O2'.at_
       rw [O.at_] at this
       cases this;rfl
      subst ea
      have eas:as'=as:=by
       have h1:=O2'.ob
       rw [st.all _ _ O.ob] at h1
       injection h1 with h1
       injection h1 with h1
       exact (KU (fun x y z=>by cases z;rfl) |>.mp h1).symm
      subst eas
      have hbm:b∈a'::as':=ak _ (cm hb)
      have nb:b≠a':=fun z=>(List.nodup_cons.mp O.nd).1 (z ▸ cm hb)
      obtain ⟨bs,b0⟩:=O2'.out b hbm
      have nx:∀ {j':Nat}{s:Sl},(∀ d,s≠.ow2 d)->(ρ.set i (.ow2 (dss.set j.toNat (ds++[d]))))[j']?=some s->ρ[j']?=some s/\i≠j':=fun {j' s} hs e=>by
       by_cases hj:i=j'
       ·subst hj
        rw [aK hil] at e;exact absurd (bG e).symm (hs _)
       ·rw [al hj] at e;exact ⟨e,hj⟩
      refine q _ _ Hs2 ⟨⟨fun c u e=>?_,f2.st.sh,fun c u e=>?_,f2.st.out⟩,by simp [f2.len],fun j' d' h=>f2.sh j' d' (nx (fun _ z=>by cases z) h).1,fun j' d' h=>?_,fun j' d' h=>?_,fun j' k' d' e' a h1 h2=>f2.dj j' k' d' e' a (nx (fun _ z=>by cases z) h1).1 (nx (fun _ z=>by cases z) h2).1,f2.lh,fun j' d' h=>?_,fun j' k' d' e' h1 h2=>?_⟩
      ·rw [bt (bT e b0)];exact f2.st.all c u e
      ·rw [bt (bT e bs)];exact f2.st.sub c u e
      ·obtain ⟨h,_⟩:=nx (fun _ z=>by cases z) h
       obtain ⟨c',u,k1,k2,k3,k4,k5⟩:=f2.ow j' d' h
       refine ⟨c',u,k1,?_,k3,k4,k5⟩
       rw [bt (fun z=>O2'.dj b hbm j' d' h (by rw [<- z];exact k1))]
       exact k2
      ·obtain ⟨h,_⟩:=nx (fun _ z=>by cases z) h
       obtain ⟨c',u,k1,k2,k3,k4,k5,k6⟩:=f2.lk j' d' h
       refine ⟨c',u,k1,k2,?_,k4,k5,k6⟩
       rw [bt (bT k5 b0)]
       exact k3
      ·by_cases hj':i=j'
       ·subst hj'
        rw [aK hil] at h
        cases h
        refine ⟨a',as',O2'.at_,by rw [bt (db nb)];exact O2'.ob,O2'.nd,O2'.out,fun c hc k e' hk=>O2'.dj c hc k e' (nx (fun _ z=>by cases z) hk).1,?_⟩
        exact AS.set ((rv.same st.sh).append (.cons r2 .nil)) O2'.inn hb (List.nodup_cons.mp O2'.nd).2
       ·rw [al hj'] at h
        exact (hj' (f2.u2 i j' _ _ ho h)).elim
      ·by_cases hj':i=j'
       ·by_cases hk':i=k'
        ·exact hj'.symm.trans hk'
        ·rw [al hk'] at h2
         exact (hk' (f2.u2 i k' _ _ ho h2)).elim
       ·rw [al hj'] at h1
        exact (hj' (f2.u2 i j' _ _ ho h1)).elim
     ·rw [if_neg hl] at q;exact q.elim
    ·exact q.elim
   ·rw [if_neg hj] at q;exact q.elim
  | none=>exact q.elim
  | bool _=>exact q.elim
  | str _=>exact q.elim
  | list _ _=>exact q.elim
  | tuple _ _=>exact q.elim
  | dictK _ _=>exact q.elim
  | dictT _ _ _=>exact q.elim
  | dictF _ _ _=>exact q.elim
 ·exact q.elim
end
end
section
open PyProof.Rows (OwnCls)
section
variable {X:Cx}
end
section
variable {c:C}{e:aX}{g:aw->R D}{pos p apos cpos:Pos}{x:Str}
end
structure Er (mg:Str->Option ac) (base:bB) (cls:Str->aj) (x:Str):Prop where
 ex:∃ bmB newId initId Bn,OwnCls x (cls x) bmB newId mg base/\ExcBaseFacts Bn newId initId bmB
def vH (x:Str) (gs:aw->R (List D)):aw->R Fl:=fun ρ=>(gs ρ).bind fun ds=>if ds.length<=1000 then .ex x none else .no
section
variable {P:aM}{w:ba}{K:a8}{mg:Str->Option ac}{base:bB}{N:List Str}{qual:Str}{scope:eO}{f:aj}{cd:ac}{A:bv}{outer:List Env}{s:ag}{H:Hp}{E:XK}{cls:Str->aj}
theorem yo {x:Str}{np cpos pos:Pos}{e0:aX}{c7:List aX}{gs:aw->R (List D)} (R0:Er mg base cls x)
  (hg:Gl (jN (qk P w) P w K mg base N qual scope f cd A outer s H E) x) (ha:FD ⟨jN (qk P w) P w K mg base N qual scope f cd A outer s H E,cls,E⟩ (e0::c7) gs)
  (he:aI (e0::c7) (jN (qk P w) P w K mg base N qual scope f cd A outer s H E).env=(false,dE e0 (jN (qk P w) P w K mg base N qual scope f cd A outer s H E).env)::aI c7 (jN (qk P w) P w K mg base N qual scope f cd A outer s H E).env:=by rfl)
  (hdb:(x == ("__debug__" : Str))=false:=by decide) (hpl:(j4 cpos (aI c7 (jN (qk P w) P w K mg base N qual scope f cd A outer s H E).env)).any (·.1)=false:=by rfl) :
  JS ⟨jN (qk P w) P w K mg base N qual scope f cd A outer s H E,cls,E⟩ (.Raise (some (.Call (.Name x np) (e0::c7) [] cpos)) none pos) (vH x gs):=.of fun ρ=>by
 obtain ⟨bmB,newId,initId,Bn,O,FB⟩:=R0.ex
 refine Ab (M4 O FB hg (ha ρ) he hdb hpl) fun D σ H1 h_1=>?_
 obtain ⟨H0,Hs0,la,Hs,f,q⟩:=h_1
 replace q:oI K cls E H0 Hs0 la D (vH x gs ρ):=q
 refine ⟨H0,Hs0,la,Hs,f,?_⟩
 unfold vH at q
 cases hr:gs ρ with
 | no=>rw [hr] at q;exact q
 | ex y n=>rw [hr] at q;exact fun H' Hs' s=>q H' Hs' (f.st.trans s)
 | ok ds =>
  rw [hr,bind_ok] at q
  intro vs H2 Hs2 s2 r2
  by_cases hl:ds.length<=1000
  ·rw [if_pos hl] at q
   exact ⟨cr (dN (by rw [r2.length];exact hl)),q H2 Hs2 (f.st.trans s2)⟩
  ·rw [if_neg hl] at q;exact q.elim
end
end
section
structure Bi (mg:Str->Option ac):Prop where
 len:mg "len"=none
 isinstance:mg "isinstance"=none
 all:mg "all"=none
 any:mg "any"=none
 zip:mg "zip"=none
 tuple:mg "tuple"=none
 list:mg "list"=none
 sorted:mg "sorted"=none
 set:mg "set"=none
 range:mg "range"=none
 enumerate:mg "enumerate"=none
 dict:mg "dict"=none
 sum:mg "sum"=none
 max:mg "max"=none
 min:mg "min"=none
 reversed:mg "reversed"=none
 str:mg "str"=none
 int:mg "int"=none
 bool:mg "bool"=none
end
section
def bits (j:Nat):List Bool:=[decide (0=j),decide (1=j),decide (2=j),decide (3=j),decide (4=j),decide (5=j),decide (6=j),decide (7=j),decide (8=j),decide (9=j),decide (10=j)]
section
variable {X:Cx}{cls:Str->aj}{names:List Str}{base:bB}
end
end
end J
section
namespace J
open PySem L2
section
variable {c:C}{body:List cA}{x n:Str}{np np2 np3 hpos cpos rpos pos:Pos}{gb:aw->R Fl}{names:List Str}{wh:Str->Option Nat}
end
end J
namespace L2
open PySem
end L2
end
namespace J
open PySem L2
section
open PyProof.Rows (OwnCls)
abbrev PR:List ac:=[.type "ValueError",.type "Exception",.type "BaseException",.type "object"]
theorem SM {K:a8}{h:bB}{mg:Str->Option ac}{x:Str}{C:aj}{bmB:List ac}{newId:String} (X:K.In h) (G:h.Ns bY mg) (e:gI K bY x=some (some (.ref C))) (q:zW K C bmB newId=true) (m1:fP K C (.type "BaseException")=some true) :
  OwnCls x C bmB newId mg h/\∃ bm,Wv h C bm/\∀ v,(v == bX C)=false->fP K C v=some true->bm.contains v=true:=by
 have hmg:=rQ X G e
 unfold zW at q
 split at q
 ·rename_i dd cd sl look
  split at q
  ·rename_i C' bm k0 k1 k2 k3 n k5 hmro hslots
   simp only [aQ,beq_iff_eq,wt] at q
   obtain ⟨⟨⟨⟨⟨rfl,rfl⟩,nodel⟩,tl⟩,nsok⟩,noinit⟩:=q
   have slots:sl=#[k0,k1,k2,k3,some (.builtin n),k5]:=by
    cases sl with | mk l=>simp only at hslots;rw [hslots]
   have inMro:∀ v,fP K C' v=some true->cd.mro.contains v=true:=fun v hv=>by
    unfold fP zX at hv
    rw [look] at hv
    simp only [ku] at hv
    split at hv
    ·cases hv
    ·exact bG hv
   have c7:∀ v,(v == bX C')=false->fP K C' v=some true->bm.contains v=true:=fun v nv hv=>by
    have:=inMro v hv
    rw [hmro,List.contains_cons,nv,D9] at this
    exact this
   obtain ⟨nm,bs,mro,ns,qn,hd,sn,sub,ab,col,del⟩:=cd
   dsimp only at hmro nodel nsok noinit
   subst hmro nodel slots
   have at_:=X _ _ look
   exact ⟨⟨hmg,bm,ns,nm,qn,bs,hd,sn,sub,ab,col,dd,k0,k1,k2,k3,k5,_,at_,.of_isNs (PySem.W.isNs_of_in X nsok),PySem.W.nsMap_none_of_in X nsok noinit,PySem.W.tail_of_in X tl⟩,
    bm,⟨⟨nm,qn,ns,bs,hd,sn,sub,ab,col,dd,k0,k1,k2,k3,k5,n,at_⟩,c7 _ rfl m1⟩,c7⟩
  ·cases q
 ·cases q
structure TopC (K:a8) (x:Str) (C:aj):Prop where
 ns:gI K bY x=some (some (.ref C))
 ex:zW K C PR "ValueError.__new__"=true
 mb:fP K C (.type "BaseException")=some true
theorem TopC.er {K:a8}{h:bB}{mg:Str->Option ac}{cls:Str->aj}{x:Str}{C:aj} (T:TopC K x C) (X:K.In h) (G:h.Ns bY mg) (hc:cls x=C):Er mg h cls x:=by
 subst hc
 exact ⟨_,_,_,_,(SM X G T.ns T.ex T.mb).1,PySem.F.excBase_ValueError⟩
inductive UK (K:a8) (F:List D->R D) (vs:List V) (H:Hp) (Q:VK) (z_3:XK):Prop
 | mk (Hs ds d:_) (h0:dH Hs H) (h1:ds.length=1) (h2:RDs K Hs vs ds) (h3:F ds=.ok d) (h4:∀ v H' Hs',cP H Hs H' Hs'->RD K Hs' v d->Q v H'):UK K F vs H Q z_3
def UL (K:a8) (F:List D->R D):Sp:=UK K F
theorem SO {K:a8}{cls:Str->aj}{F:List D->R D}:∀ vs H Q E,UL K F vs H Q E->UB K cls 1 F vs H Q E:=fun vs H Q E ⟨Hs,ds,d,s,l,r,e,q⟩=>⟨Hs,ds,s,l,r,by rw [e];exact q⟩
def UM (l:List (Str×aj)):Str->aj:=fun x=>(l.lookup x).getD 0
theorem SQ {K:a8}{F:List D->R D}{H:Hp}{a:aj}{ns:List Int} (hF:F [.list (ns.map .int)]=.ok (.bool true)) (h:lW K H a (ns.map V.int)):UL K F [.ref a] H (fun v _=>v=.bl true) fun _ _ _=>False:=by
 have ri:∀ ns:List Int,RDs K H (ns.map V.int) (ns.map .int):=fun ns=>by
  induction ns with
  | nil=>exact .nil
  | cons x r ih=>exact .cons (.int x) ih
 refine ⟨H,[.list (ns.map .int)],.bool true,.refl H,rfl,.cons (.list h (ri ns)) .nil,hF,?_⟩
 intro v H' Hs' _ r
 cases r
 rfl
theorem SS {P:aM}{w:ba}{H:Hp}{s:ag}{e:ac}{s':ag} (h:qk P w [] H s (fun _ _ _=>False) e s'):False:=by
 obtain ⟨_,_,_,_,_,_,_,_,_,q⟩:=h
 exact q
theorem walkF {l:wN}{k:Nat}{q:aM}{loose:List Str}{XP:(Str->Option ac)->bB->Prop}{YP:ba->bB->Prop}{d:DefRec}{K:Params->a8}{x:Str}{F0:List D->R D}
  (hn:l.most=some 63) (hdf:d.params.defaults=[]) (hr:lX k wn) (hY:∀ (w:ba) (h:bB),YP w h->(K w.params).In h)
  (F:∀ (w:ba) (mg:Str->Option ac) (fa:aj) (h:bB),(K w.params).In h->h.Ns bY mg->mg d.name=some (.ref fa) ->
   ∃ fd:fz,(∀ (s:ag) (u:ac),Fu s fd ⟨[u],[]⟩ [(x,u)])/\∀ base:bB,(K w.params).In base->base.Ns bY mg->vo l.prog w (K w.params) mg base (qk l.prog w) k fa fd [x] (UL (K w.params) F0))
  (hF:∀ ns:List Int,ns.length<=63->F0 [.list (ns.map .int)]=.ok (.bool true)) :
  Op q loose XP YP l.row.toRowW d [] (fun f vs=>J8 f vs) :=
 L2.Pm (n:=63) (k:=k) (x:=x) (CX:=fun w=>qk l.prog w) (sp:=fun w=>UL (K w.params) F0) hn (by decide) hdf hr hY F (fun w H a ns hl _ hS=>SQ (hF ns hl) hS) fun _ _ _ _ _ h=>SS h
def R7 (i:Nat) (g:aw->R Fl):aw->R Fl:=fun ρ=>g (shareAt i ρ)
theorem Gr {c:C} (i:Nat) {st:cA}{gs:aw->R Fl} (h:JS c st gs):JS c st (R7 i gs):=Gq i h
end
section
section
variable {s:Sl}{ρ:aw}{d x y:D}{ds:List D}
theorem yp {α β:Type} (a:α) (f:α->R β):(R.ok a).bind f=f a:=id rfl
def JZ (h:aw->R Fl):Fl->R Fl:=fun fl=>match fl with
 | .nx ρ'=>h ρ'
 | fl=>.ok fl
theorem yq (g h:aw->R Fl):aD g h (s::ρ)=(g (s::ρ)).bind (JZ h):=id rfl
theorem nY (h:aw->R Fl) (ρ:aw):JZ h (.nx ρ)=h ρ:=id rfl
theorem E2 (h:aw->R Fl) (d:D):JZ h (.rt d)=.ok (.rt d):=id rfl
def WG (g h:aw->R Fl) (ρ:aw):Bool->R Fl:=fun b=>bif b then g ρ else h ρ
theorem UN (t:aw->R Bool) (g h:aw->R Fl):dC t g h (s::ρ)=(t (s::ρ)).bind (WG g h (s::ρ)):=by
 show (t (s::ρ)).bind _=_
 congr 1
 funext b
 cases b<;>rfl
theorem Mr (g h:aw->R Fl) (ρ:aw):WG g h ρ false=h ρ:=id rfl
theorem Ms (g h:aw->R Fl) (ρ:aw) (b:Bool):WG g h ρ b=bif b then g ρ else h ρ:=id rfl
def Xm:D->R Fl:=fun d=>.ok (.rt d)
theorem R8 (g:aw->R D):cu g (s::ρ)=(g (fq (s::ρ))).bind Xm:=id rfl
theorem UO (d:D):Xm d=.ok (.rt d):=id rfl
def yr:Sl->Sl
 | .own d=>.shr d
 | .ow2 dss=>.shr (.list (dss.map .list))
 | s=>s
theorem HV:fq (s::ρ)=yr s::fq ρ:=by cases s<;>rfl
theorem E3:fq []=[]:=id rfl
theorem HW:yr .no=.no:=id rfl
theorem E4 (d:D):yr (.shr d)=.shr d:=id rfl
theorem E5 (d:D):yr (.own d)=.shr d:=id rfl
theorem E6 (d:List (List D)):yr (.ow2 d)=.shr (.list (d.map .list)):=id rfl
def UP (i:Nat) (ρ:aw):D->R Fl:=fun d=>.ok (.nx (ρ.set i (.shr d)))
theorem Mt (i:Nat) (g:aw->R D):cW i g (s::ρ)=(g (s::ρ)).bind (UP i (s::ρ)):=id rfl
theorem Mu (i:Nat) (ρ:aw) (d:D):UP i ρ d=.ok (.nx (ρ.set i (.shr d))):=id rfl
def R9 (i:Nat) (ρ:aw):D->R Fl:=fun d=>.ok (.nx (ρ.set i (.own d)))
theorem Mv (i:Nat) (g:aw->R D):dZ i g (s::ρ)=(g (s::ρ)).bind (R9 i (s::ρ)):=id rfl
theorem HX (i:Nat) (ρ:aw) (d:D):R9 i ρ d=.ok (.nx (ρ.set i (.own d))):=id rfl
def LH (ρ:aw):D->R Fl:=fun _=>.ok (.nx ρ)
theorem Mw (g:aw->R D):pH g (s::ρ)=(g (s::ρ)).bind (J.LH (s::ρ)):=id rfl
theorem HY (ρ:aw) (d:D):J.LH ρ d=.ok (.nx ρ):=id rfl
def Xn (gb:aw->R D) (h:D->D->R D) (ρ:aw):D->R D:=fun x=>(gb ρ).bind (h x)
theorem UQ (ga gb:aw->R D) (h:D->D->R D):g2 ga gb h (s::ρ)=(ga (s::ρ)).bind (Xn gb h (s::ρ)):=id rfl
theorem Ra (gb:aw->R D) (h:D->D->R D) (ρ:aw) (x:D):Xn gb h ρ x=(gb ρ).bind (h x):=id rfl
def PU:D->R Bool:=fun d=>match d with
 | .bool b=>.ok b
 | _=>.no
theorem Rb (g:aw->R D):dP g (s::ρ)=(g (s::ρ)).bind PU:=id rfl
theorem Mx (b:Bool):PU (.bool b)=.ok b:=id rfl
def UR:Bool->R Bool:=fun b=>.ok (!b)
theorem Rc (g:aw->R Bool):iJ g (s::ρ)=(g (s::ρ)).bind UR:=id rfl
theorem My (b:Bool):UR b=.ok (!b):=id rfl
def US (h:aw->R Bool) (ρ:aw):Bool->R Bool:=fun b=>bif b then h ρ else .ok false
def Xo (h:aw->R Bool) (ρ:aw):Bool->R Bool:=fun b=>bif b then .ok true else h ρ
theorem Re (g h:aw->R Bool):vz g h (s::ρ)=(g (s::ρ)).bind (US h (s::ρ)):=by
 show (g (s::ρ)).bind _=_
 congr 1;funext b;cases b<;>rfl
theorem UT (g h:aw->R Bool):zL g h (s::ρ)=(g (s::ρ)).bind (Xo h (s::ρ)):=by
 show (g (s::ρ)).bind _=_
 congr 1;funext b;cases b<;>rfl
theorem Mz (h:aw->R Bool) (ρ:aw) (b:Bool):US h ρ b=bif b then h ρ else .ok false:=id rfl
theorem Rf (h:aw->R Bool) (ρ:aw) (b:Bool):Xo h ρ b=bif b then .ok true else h ρ:=id rfl
def Rg:Bool->R D:=fun b=>.ok (.bool (!b))
theorem MA (g:aw->R D):DK g (s::ρ)=((g (s::ρ)).bind PU).bind Rg:=id rfl
theorem HZ (b:Bool):Rg b=.ok (.bool (!b)):=id rfl
def Rh (h:aw->R D) (ρ:aw):Bool->R D:=fun b=>bif b then h ρ else .ok (.bool false)
theorem MB (g h:aw->R D):rY g h (s::ρ)=((g (s::ρ)).bind PU).bind (Rh h (s::ρ)):=by
 show (dP g (s::ρ)).bind _=(dP g (s::ρ)).bind _
 congr 1;funext b;cases b<;>rfl
theorem H_ (h:aw->R D) (ρ:aw) (b:Bool):Rh h ρ b=bif b then h ρ else .ok (.bool false):=id rfl
def UU (g h:aw->R D) (ρ:aw):Bool->R D:=fun b=>bif b then g ρ else h ρ
theorem Ri (t:aw->R Bool) (g h:aw->R D):Tx t g h (s::ρ)=(t (s::ρ)).bind (UU g h (s::ρ)):=by
 show (t (s::ρ)).bind _=_
 congr 1;funext b;cases b<;>rfl
theorem MC (g h:aw->R D) (ρ:aw) (b:Bool):UU g h ρ b=bif b then g ρ else h ρ:=id rfl
def UV (gb gc:aw->R D) (h h':D->D->R D) (ρ:aw):D->R D:=fun x=>(gb ρ).bind fun y=>(h x y).bind fun z=>match z with
 | .bool true=>(gc ρ).bind fun w=>h' y w
 | .bool false=>.ok (.bool false)
 | _=>.no
def UW (gc:aw->R D) (h h':D->D->R D) (ρ:aw) (x:D):D->R D:=fun y=>(h x y).bind fun z=>match z with
 | .bool true=>(gc ρ).bind fun w=>h' y w
 | .bool false=>.ok (.bool false)
 | _=>.no
def UX (gc:aw->R D) (h':D->D->R D) (ρ:aw) (y:D):D->R D:=fun z=>match z with
 | .bool true=>(gc ρ).bind (h' y)
 | .bool false=>.ok (.bool false)
 | _=>.no
theorem Ic (ga gb gc:aw->R D) (h h':D->D->R D):qo ga gb gc h h' (s::ρ)=(ga (s::ρ)).bind (UV gb gc h h' (s::ρ)):=id rfl
theorem MD (gb gc:aw->R D) (h h':D->D->R D) (ρ:aw) (x:D):UV gb gc h h' ρ x=(gb ρ).bind (UW gc h h' ρ x):=id rfl
theorem ME (gc:aw->R D) (h h':D->D->R D) (ρ:aw) (x y:D):UW gc h h' ρ x y=(h x y).bind (UX gc h' ρ y):=id rfl
theorem MF (gc:aw->R D) (h':D->D->R D) (ρ:aw) (y:D) (b:Bool):UX gc h' ρ y (.bool b)=bif b then (gc ρ).bind (h' y) else .ok (.bool false):=by cases b<;>rfl
def MG (gs:aw->R (List D)) (ρ:aw):D->R (List D):=fun d=>(gs ρ).bind fun ds=>.ok (d::ds)
def MH (d:D):List D->R (List D):=fun ds=>.ok (d::ds)
theorem MI (g:aw->R D) (gs:aw->R (List D)):J.a9 g gs (s::ρ)=(g (s::ρ)).bind (MG gs (s::ρ)):=id rfl
theorem E7 (gs:aw->R (List D)) (ρ:aw) (d:D):MG gs ρ d=(gs ρ).bind (MH d):=id rfl
theorem E8 (d:D) (ds:List D):MH d ds=.ok (d::ds):=id rfl
theorem Rj (ρ:aw):J.ay ρ=.ok []:=id rfl
def Rk (k:List D->D):List D->R D:=fun ds=>if ds.length<=1000 then .ok (k ds) else .no
theorem MJ (gs:aw->R (List D)) (k:List D->D):dS gs k (s::ρ)=(gs (s::ρ)).bind (Rk k):=id rfl
theorem Ie (k:List D->D) (ds:List D):Rk k ds=if ds.length<=1000 then .ok (k ds) else .no:=id rfl
theorem MK (gs:aw->R (List D)) (h:List D->R D):bL gs h (s::ρ)=(gs (s::ρ)).bind h:=id rfl
def Xp (n:Nat) (F:List D->R D):List D->R D:=fun ds=>if ds.length=n then F ds else .no
theorem UY (n:Nat) (F:List D->R D) (gs:aw->R (List D)):dg n F gs (s::ρ)=(gs (s::ρ)).bind (Xp n F):=id rfl
theorem Rl (n:Nat) (F:List D->R D) (ds:List D):Xp n F ds=if ds.length=n then F ds else .no:=id rfl
theorem Rm (h:D->R D) (d:D):f_ h [d]=h d:=id rfl
theorem ML (d:D) (ρ:aw):FE (.shr d::ρ) 0=.ok d:=id rfl
theorem Rn (s:Sl) (ρ:aw) (n:Nat):FE (s::ρ) (n + 1)=FE ρ n:=by simp [FE]
theorem MM (d:D) (ρ:aw):FF (.shr d::ρ) 0=.ok d:=id rfl
theorem MN (d:D) (ρ:aw):FF (.own d::ρ) 0=.ok d:=id rfl
theorem Ro (s:Sl) (ρ:aw) (n:Nat):FF (s::ρ) (n + 1)=FF ρ n:=by simp [FF]
def UZ (T:String):D->R D:=fun d=>if pZ d then .ok (.bool (Ae T d)) else .no
theorem Rp (g:aw->R D) (T:String):sH g T (s::ρ)=(g (s::ρ)).bind (UZ T):=id rfl
theorem MO (T:String) (d:D):UZ T d=if pZ d then .ok (.bool (Ae T d)) else .no:=id rfl
def U_ (gl gh:aw->R (Option Int)) (ρ:aw):D->R D:=fun x=>(gl ρ).bind fun l=>(gh ρ).bind fun h=>Ad x l h
def V0 (gh:aw->R (Option Int)) (ρ:aw) (x:D):Option Int->R D:=fun l=>(gh ρ).bind fun h=>Ad x l h
theorem V1 (g:aw->R D) (gl gh:aw->R (Option Int)):DR g gl gh (s::ρ)=(g (s::ρ)).bind (U_ gl gh (s::ρ)):=id rfl
theorem MP (gl gh:aw->R (Option Int)) (ρ:aw) (x:D):U_ gl gh ρ x=(gl ρ).bind (V0 gh ρ x):=id rfl
theorem MQ (gh:aw->R (Option Int)) (ρ:aw) (x:D) (l:Option Int):V0 gh ρ x l=(gh ρ).bind (Ad x l):=id rfl
theorem Rq (ρ:aw):HK ρ=.ok none:=id rfl
def V2:D->R (Option Int):=fun d=>match d with
 | .int i=>.ok (some i)
 | _=>.no
theorem Rr (g:aw->R D):C5 g (s::ρ)=(g (s::ρ)).bind V2:=id rfl
theorem MR (i:Int):V2 (.int i)=.ok (some i):=id rfl
theorem SU (g:aw->R D):kW g (s::ρ)=(g (s::ρ)).bind y0:=id rfl
theorem MS (gs:aw->R (List D)):yb gs (s::ρ)=(gs (s::ρ)).bind Gn:=id rfl
theorem Rs (gs:aw->R (List D)):Go gs (s::ρ)=(gs (s::ρ)).bind VL:=id rfl
theorem Rt (gs:aw->R (List D)):PK gs (s::ρ)=(gs (s::ρ)).bind zp:=id rfl
def Ru (nt:Nat) (ix:List Nat) (gt:aw->R Bool) (ge:aw->R D) (ρ:aw):List D->R D:=fun ds=>if ds.length<=1000 then (gg (hX nt (nW nt ix ρ) gt ge) ds).bind fun ys=>.ok (.list ys) else .no
def Rv:List D->R D:=fun ys=>.ok (.list ys)
theorem MT (nt:Nat) (ix:List Nat) (gi:aw->R (List D)) (gt:aw->R Bool) (ge:aw->R D):eL nt ix gi gt ge (s::ρ)=(gi (s::ρ)).bind (Ru nt ix gt ge (s::ρ)):=id rfl
theorem Ig (nt:Nat) (ix:List Nat) (gt:aw->R Bool) (ge:aw->R D) (ρ:aw) (ds:List D):Ru nt ix gt ge ρ ds=if ds.length<=1000 then (gg (hX nt (nW nt ix ρ) gt ge) ds).bind Rv else .no:=id rfl
theorem Ih (ys:List D):Rv ys=.ok (.list ys):=id rfl
theorem m7 (gi:aw->R (List D)) (kt:D->aw->R aw) (gb:aw->R Fl) (ds:List D) (h:gi (s::ρ)=.ok ds):lc gi kt gb (s::ρ)=gL kt gb ds (s::ρ):=by unfold lc;rw [h]
def E9 (k:D->aw->R aw) (ρ:aw):D->R Fl:=fun d=>match k d ρ with
 | .ok ρ'=>.ok (.nx ρ')
 | _=>.no
theorem Rw (g:aw->R D) (k:D->aw->R aw):sI g k (s::ρ)=(g (s::ρ)).bind (E9 k (s::ρ)):=id rfl
theorem AW (ds:List D):y0 (.list ds)=.ok ds:=id rfl
theorem AX (ds:List D):y0 (.tuple ds)=.ok ds:=id rfl
theorem AY (x:Str):y0 (.str x)=.ok (nD x):=id rfl
theorem MU (ds:List D):VL [.tuple ds]=.ok (jx 0 ds):=id rfl
theorem V3 (ds es:List D):zp [.tuple ds,.tuple es]=.ok (xa ds es):=id rfl
def AZ (ρ:aw) (i:Nat):Sl:=PM ((ρ[i]?).getD .no)
def MV (ix:List Nat) (ρ:aw):aw:=ix.map (AZ ρ)
theorem MW (ix:List Nat) (ρ:aw):nW 1 ix ρ=.no::MV ix ρ:=id rfl
theorem MX (ix:List Nat) (ρ:aw):nW 2 ix ρ=.no::.no::MV ix ρ:=id rfl
theorem MY (ρ:aw):MV [] ρ=[]:=id rfl
theorem MZ (i:Nat) (ix:List Nat) (ρ:aw):MV (i::ix) ρ=AZ ρ i::MV ix ρ:=id rfl
theorem M_ (s:Sl) (ρ:aw):AZ (s::ρ) 0=PM s:=id rfl
theorem N0 (s:Sl) (ρ:aw) (n:Nat):AZ (s::ρ) (n + 1)=AZ ρ n:=by simp [AZ]
theorem A_ (d:D):PM (.shr d)=.shr d:=id rfl
theorem Ce {i:Nat}{ρ:aw}{d:D} (h:ρ[i]?=some (Sl.own d)):shareAt i ρ=ρ.set i (.shr d):=by unfold shareAt;rw [h]
theorem d_ {α:Type} (f:D->R (Option D)) (c:α->D) (h:α->D):∀ (xs:List α),(∀ x∈xs,f (c x)=.ok (some (h x)))->gg f (xs.map c)=.ok (xs.map h)
 | [],_=>rfl
 | x::r,e=>by
  rw [aB,aB]
  unfold gg
  rw [e x am,bind_ok,d_ f c h r fun y hy=>e y (ak _ hy),bind_ok]
theorem eT {α:Type} (f:D->R (Option D)) (c:α->D) (h:α->D) (p:α->Bool):∀ (xs:List α),(∀ x∈xs,f (c x)=.ok (if p x then some (h x) else none))->gg f (xs.map c)=.ok ((xs.filter p).map h)
 | [],_=>rfl
 | x::r,e=>by
  rw [aB]
  unfold gg
  rw [e x am,bind_ok,eT f c h p r fun y hy=>e y (ak _ hy),bind_ok]
  cases hp:p x<;>simp [hp]
theorem Rx {ρ:aw}{gt:aw->R Bool}{ge:aw->R D}{d:D}:hX 1 ρ gt ge d=JU (((gt (ρ.set 0 (.shr d)))).bind fun b=>if b then (ge (ρ.set 0 (.shr d))).bind fun y=>.ok (some y) else .ok none):=id rfl
theorem gd {ρ:aw}{gt:aw->R Bool}{ge:aw->R D}{d y:D} (h1:gt (ρ.set 0 (.shr d))=.ok true) (h2:ge (ρ.set 0 (.shr d))=.ok y):hX 1 ρ gt ge d=.ok (some y):=by
 rw [Rx,h1,bind_ok,if_pos rfl,h2];rfl
theorem mV {ρ:aw}{gt:aw->R Bool}{ge:aw->R D}{d y:D}{b:Bool} (h1:gt (ρ.set 0 (.shr d))=.ok b) (h2:b=true->ge (ρ.set 0 (.shr d))=.ok y):hX 1 ρ gt ge d=.ok (if b then some y else none):=by
 rw [Rx,h1,bind_ok]
 cases b with
 | true=>rw [if_pos rfl,h2 rfl];rfl
 | false=>rfl
theorem PV {j:Int} (h1:-(2 ^ 62)<=j) (h2:j<2 ^ 62):Gn [.int j]=.ok (qt 0 j.toNat):=by
 have h:-(2 ^ 62)<=j/\j<2 ^ 62:=⟨h1,h2⟩
 unfold Gn
 split
 ·rename_i j' e
  have e':j=j':=by injection e with e;injection e
  subst e'
  rw [if_pos h]
 ·rename_i hn
  exact (hn j rfl).elim
end
end
end J
section
namespace L2
open PySem PySem.Spec PyProof.Rows
end L2
namespace J
open PySem L2
open PyProof.Rows (envOfC)
section
variable {c:C}{e a b:aX}{g ga gb:aw->R D}{pos rpos:Pos}{es:List aX}{gs:aw->R (List D)}{x y:Str}{p q:Pos}
end
section
variable {c:C}{body:List cA}{x n:Str}{np np2 np3 hpos cpos rpos pos:Pos}{gb:aw->R Fl}{names:List Str}{wh:Str->Option Nat}
end
theorem XB {α:Type}{us:List α} (h:us.length=1):∃ a,us=[a]:=by
 rcases us with _ | ⟨a0,_ | ⟨z,r⟩⟩
 ·simp at h
 ·exact ⟨_,rfl⟩
 ·simp at h
theorem XC {α:Type}{us:List α} (h:us.length=2):∃ a b,us=[a,b]:=by
 rcases us with _ | ⟨a0,_ | ⟨a0,_ | ⟨z,r⟩⟩⟩
 ·simp at h
 ·simp at h
 ·exact ⟨_,_,rfl⟩
 ·simp at h
theorem XD {α:Type}{us:List α} (h:us.length=3):∃ a b c,us=[a,b,c]:=by
 rcases us with _ | ⟨a0,_ | ⟨a0,_ | ⟨a0,_ | ⟨z,r⟩⟩⟩⟩
 ·simp at h
 ·simp at h
 ·simp at h
 ·exact ⟨_,_,_,rfl⟩
 ·simp at h
theorem XE {α:Type}{us:List α} (h:us.length=4):∃ a b c d,us=[a,b,c,d]:=by
 rcases us with _ | ⟨a0,_ | ⟨a0,_ | ⟨a0,_ | ⟨a0,_ | ⟨z,r⟩⟩⟩⟩⟩
 ·simp at h
 ·simp at h
 ·simp at h
 ·simp at h
 ·exact ⟨_,_,_,_,rfl⟩
 ·simp at h
theorem XF {α:Type}{us:List α} (h:us.length=5):∃ a b c d e,us=[a,b,c,d,e]:=by
 rcases us with _ | ⟨a0,_ | ⟨a0,_ | ⟨a0,_ | ⟨a0,_ | ⟨a0,_ | ⟨z,r⟩⟩⟩⟩⟩⟩
 ·simp at h
 ·simp at h
 ·simp at h
 ·simp at h
 ·simp at h
 ·exact ⟨_,_,_,_,_,rfl⟩
 ·simp at h
end J
end
namespace J
open PySem L2
section
section
variable {c:C}{e a b l tg:aX}{g ga gb:aw->R D}{pos p:Pos}{gs:aw->R (List D)}{es:List aX}{x:Str}
end
end
end J
section
namespace HT
open PySem PyProof.Rows
section
open PySem.SeqAt
open PySem.AutoSeq1 (wpAny_loadPart')
open PySem.MeetsSeq PySem.MeetsSeq2 PySem.MeetsSeq3
variable {prog:aM}{w:ba}{A:bv}{E:ac->ag->Prop}{s:ag}
end
end HT
namespace L2
open PySem PySem.Spec PyProof.Rows
section
variable {X:Cx}{e st:aX}{te ts:TE}{pos p2:Pos}
end
end L2
namespace J
open PySem L2
section
variable {c:C}{e:aX}{g:aw->R D}{pos p2 p3 p4:Pos}
end
end J
end
section
namespace L2
open PySem
def K_ (mask:Nat):Nat->Nat×Nat->Nat×Nat
 | 0,x=>x
 | n + 1,x=>K_ mask n (SetTable.leap mask x.1 x.2)
theorem Ii (mask:Nat):∀ (n m:Nat) (x:Nat×Nat),K_ mask (n + m) x=K_ mask m (K_ mask n x)
 | 0,m,x=>by rw [FW];rfl
 | n + 1,m,x=>by
  rw [Nat.succ_add]
  exact Ii mask n m _
theorem Ij (mask:Nat):∀ (n:Nat) (x:Nat×Nat),(K_ mask n x).2=x.2 / 32 ^ n
 | 0,x=>by simp [K_]
 | n + 1,x=>by
  show (K_ mask n _).2=_
  rw [Ij mask n]
  show x.2 / 32 / 32 ^ n=_
  rw [Nat.div_div_eq_div_mul,Nat.pow_succ,FX]
theorem Ik (mask:Nat):∀ (n:Nat) (x:Nat×Nat),x.1<=mask->(K_ mask n x).1<=mask
 | 0,x,h=>h
 | n + 1,x,h=>Ik mask n _ (by
  show (x.1 * 5 + 1 + x.2 / 32) % (mask + 1)<=mask
  exact wQ (Bz _ (FY _)))
theorem B0 {mask:Nat}{owner:Array (Option Nat)}:∀ (fuel i p:Nat),dG mask owner fuel i p=none->∀ n,n<fuel->(owner.getD (K_ mask n (i,p)).1 (some 0)).isSome=true
 | 0,_,_,_,n,h=>absurd h (lU n)
 | fuel + 1,i,p,e,n,h=>by
  unfold dG at e
  split at e
  ·cases e
  ·rename_i hf
   cases n with
   | zero =>
    have h0:=List.find?_eq_none.mp hf 0 (List.mem_range.mpr (by unfold SetTable.runEnd;split<;>omega))
    simp only [wR] at h0
    show (owner.getD i (some 0)).isSome=true
    cases q:owner.getD i (some 0) with
    | none=>rw [q] at h0;exact absurd rfl h0
    | some _=>rfl
   | succ n=>exact B0 fuel _ _ e n (FZ h)
theorem B1 {mask:Nat}{owner:Array (Option Nat)}:∀ (fuel i p k:Nat),dG mask owner fuel i p=some k->owner.getD k (some 0)=none
 | 0,_,_,_,e=>nomatch e
 | fuel + 1,i,p,k,e=>by
  unfold dG at e
  split at e
  ·rename_i k' hf
   cases e
   have:=List.find?_some hf
   cases q:owner.getD (i + k') (some 0) with
   | none=>rfl
   | some _=>rw [q] at this;cases this
  ·exact B1 fuel _ _ k e
def L0 (mask:Nat):Prop:=mask=7\/mask=15\/mask=31
def V4 (mask:Nat):Bool:=(bx (mask + 1)).all fun i=>(bx (mask + 1)).all fun j=>(bx (mask + 1)).any fun n=>decide ((K_ mask n (i,0)).1=j)
theorem PX {mask:Nat} (h:L0 mask):V4 mask=true:=by
 rcases h with h | h | h<;>subst h<;>decide +kernel
theorem getD_none {owner:Array (Option Nat)}{k:Nat} (h:owner.getD k (some 0)=none):owner.toList[k]?=some none:=by
 by_cases hk:k<owner.size
 ·rw [i6,iS hk] at h
  rw [dD,iS hk]
  simpa using h
 ·rw [i6,Array.getElem?_eq_none (by omega)] at h
  cases h
theorem J_ {mask:Nat} (hm:L0 mask) {owner:Array (Option Nat)}{j:Nat} (hj:j<=mask) (hn:owner.toList[j]?=some none) {i p:Nat} (hi:i<=mask) (hp:p<2 ^ 64) :
  ∃ k,dG mask owner (pW mask) i p=some k/\owner.toList[k]?=some none:=by
 cases e:dG mask owner (pW mask) i p with
 | some k=>exact ⟨k,rfl,getD_none (B1 _ _ _ _ e)⟩
 | none =>
  exfalso
  have hz:(K_ mask 13 (i,p)).2=0:=by
   rw [Ij]
   exact Nat.div_eq_of_lt (aJ hp (by decide))
  have h1:=Ik mask 13 (i,p) hi
  have g:=PX hm
  unfold V4 at g
  rw [ck] at g
  have g:=g _ (List.mem_range.mpr (jT h1))
  rw [ck] at g
  have g:=g j (List.mem_range.mpr (jT hj))
  rw [iR] at g
  obtain ⟨n,hn1,hn2⟩:=g
  have hn1:=List.mem_range.mp hn1
  have hn2:=of_decide_eq_true hn2
  have hs:(K_ mask (13 + n) (i,p)).1=j:=by
   rw [Ii,<- hn2,<- hz]
  have:=B0 _ _ _ e (13 + n) (by unfold pW;omega)
  rw [hs] at this
  have hq:owner.getD j (some 0)=none:=by
   rw [dD] at hn
   rw [i6,hn]
   rfl
  rw [hq] at this
  cases this
theorem PY (h:Int):mM h<2 ^ 64:=by
 unfold mM
 have:=ny h (show (0:Int)<2 ^ 64 by decide)
 have:=qL h (show (2 ^ 64:Int)≠0 by decide)
 omega
theorem Ea {k:Nat}:∀ {l:List (Option Nat)}{j:Nat},l[j]?=some none->((l.set j (some k)).filterMap id).Perm (k::l.filterMap id)
 | [],_,h=>nomatch h
 | x::r,0,h=>by
  cases h
  exact .refl _
 | x::r,j + 1,h=>by
  have ih:=Ea (k:=k) (l:=r) (j:=j) h
  cases x with
  | none=>exact ih
  | some y=>exact (ih.cons y).trans (.swap k y _)
theorem Eb:∀ {l:List (Option Nat)},(l.filterMap id).length<l.length->∃ j,j<l.length/\l[j]?=some none
 | [],h=>absurd h (b_ 0)
 | none::r,_=>⟨0,FY _,rfl⟩
 | some y::r,h=>by
  obtain ⟨j,h1,h2⟩:=Eb (l:=r) (FZ h)
  exact ⟨j + 1,Nat.succ_lt_succ h1,h2⟩
def Il (mask:Nat) (acc:Option (Array (Option Nat)×Nat)) (h:Int):Option (Array (Option Nat)×Nat):=acc.bind fun x=>(dG mask x.1 (pW mask) (mM h % (mask + 1)) (mM h)).bind fun j=>some (x.1.setIfInBounds j (some x.2),x.2 + 1)
theorem Ec (mask:Nat) (hs:Array Int):tR mask hs=(hs.toList.foldl (Il mask) (some (xG (mask + 1) none,0))).map (·.1):=by
 rw [Array.foldl_toList]
 rfl
theorem Im {mask:Nat} (hm:L0 mask):∀ (l:List Int) (owner:Array (Option Nat)) (k:Nat),owner.size=mask + 1->(owner.toList.filterMap id).Perm (bx k)->k + l.length<=mask ->
  ∃ o',l.foldl (Il mask) (some (owner,k))=some (o',k + l.length)/\o'.size=mask + 1/\(o'.toList.filterMap id).Perm (bx (k + l.length))
 | [],owner,k,h1,h2,_=>⟨owner,rfl,h1,h2⟩
 | h::r,owner,k,h1,h2,h3=>by
  simp only [aR] at h3 ⊢
  obtain ⟨j,j1,j2⟩:=Eb (l:=owner.toList) (by rw [h2.length_eq,eK,av,h1];omega)
  rw [av,h1] at j1
  obtain ⟨m,m1,m2⟩:=J_ hm (wQ j1) j2 (i:=mM h % (mask + 1)) (wQ (Bz _ (FY _))) (PY h)
  have e:Il mask (some (owner,k)) h=some (owner.setIfInBounds m (some k),k + 1):=by
   unfold Il
   simp only [ku,m1]
  rw [df,e]
  obtain ⟨o',a1,a2,a3⟩:=Im hm r (owner.setIfInBounds m (some k)) (k + 1) (by rw [Array.size_setIfInBounds];exact h1) (by
   rw [Array.toList_setIfInBounds]
   refine (Ea m2).trans ?_
   rw [List.range_succ]
   exact ((h2.cons k).trans (List.perm_append_singleton k _).symm)) (by omega)
  rw [show k + 1 + r.length=k + (r.length + 1) by omega] at a1 a3
  exact ⟨o',a1,a2,a3⟩
theorem Io {n:Nat}{o:Array (Option Nat)} (h:o.size=n):(bx n).filterMap (fun j=>o.getD j none)=o.toList.filterMap id:=by
 have e:(bx n).map (fun j=>o.getD j none)=o.toList:=by
  refine xl (by simp [h]) fun i h1 h2=>?_
  simp only [ao,eK] at h1
  rw [kU,KW,i6,iS (by omega)]
  simp
 rw [<- e,mI]
 rfl
theorem Ip {mask finger moves:Nat}{led plain:Bool}{hs:Array Int} (hm:L0 mask) (hl:hs.size<=mask):∃ place order,zH mask finger moves led plain hs=some ({ mask,place,dummies:=#[],finger,led,moves,plain },order)/\place.size=hs.size/\order.toList.Perm (bx hs.size):=by
 obtain ⟨o,h1,h2,h3⟩:=Im hm hs.toList (xG (mask + 1) none) 0 (by simp) (by
  have:(xG (mask + 1) (none:Option Nat)).toList.filterMap id=[]:=by
   rw [Array.toList_replicate,List.filterMap_eq_nil_iff]
   intro x hx
   rw [(List.mem_replicate.mp hx).2]
   rfl
  rw [this]
  exact .refl _) (by rw [av];omega)
 have hc:tR mask hs=some o:=by
  rw [Ec,h1]
  rfl
 rw [FW,av] at h3
 refine ⟨_,_,by unfold zH;rw [hc];rfl,?_,?_⟩
 ·have e:=congrArg rO (Io h2)
  rw [h3.length_eq,eK] at e
  rw [aP,ao,<- e]
  rw [wS,wS]
  congr 1
  funext j
  cases o.getD j none<;>rfl
 ·rw [List.map_filterMap]
  refine .trans (.of_eq ?_) h3
  rw [<- Io h2]
  show List.filterMap _ _=List.filterMap _ _
  congr 1
  funext j
  cases o.getD j none<;>rfl
end L2
namespace L2
open PySem
section
variable {P:aM}{w:ba}{A:bv}{E:ac->ag->Prop}{s:ag}
theorem N1:∀ n:_root_.Fin 31,n.val<cq n.val/\(cq n.val=8\/cq n.val=16\/cq n.val=32):=by decide +kernel
theorem N5 {n:Nat} (h:n<=30):n<=cq n - 1/\L0 (cq n - 1)/\cq n<=32:=by
 obtain ⟨h1,h2⟩:=N1 ⟨n,by omega⟩
 simp only at h1 h2
 unfold L0
 omega
theorem yt {es:Array (Int×ac)}{order:Array Nat} (h:order.toList.Perm (bx es.size)):(order.filterMap (es[·]?)).toList.Perm es.toList:=by
 rw [Array.toList_filterMap]
 refine (h.filterMap _).trans (.of_eq ?_)
 have e:(bx es.size).map (fun i=>es[i]?)=es.toList.map some:=by
  refine xl (by simp) fun i h1 h2=>?_
  simp only [ao,eK] at h1
  rw [kU,KW,kU,Array.getElem_toList]
  exact iS h1
 have e2:(bx es.size).filterMap (fun i=>es[i]?)=((bx es.size).map (fun i=>es[i]?)).filterMap id:=by rw [mI];rfl
 rw [e2,e,mI]
 simp
theorem cS.of {h:bB}{a:aj}{es es':Array (Int×ac)}{ep:Nat}{t t':ed} (I:cS w h a es ep t) (p:es'.toList.Perm es.toList) (f:t'.fits es'.size=true) (l:t'.led=t.led) (pl:t'.plain=t.plain):cS w (h.update a (q9 es' t')) a es' (ep + 1) t':=by
 have sz:es'.size=es.size:=by rw [<- av,p.length_eq,av]
 refine ⟨qP I,fun e he=>I.txt e (p.mem_iff.mp he),(p.map jO).nodup_iff.mpr I.nd,by rw [sz];exact I.few,f,l.trans I.led,?_⟩
 rw [sz,pl]
 exact I.pl
theorem yu {t:ed}{n:Nat} (h:t.fits n=true):t.place.size=n/\t.fill<=t.mask:=by
 unfold mK at h
 rw [aQ] at h
 exact ⟨eq_of_beq h.1,of_decide_eq_true h.2⟩
theorem Iq {mask finger moves:Nat}{led plain:Bool}{place:Array Nat}{n:Nat} (h:place.size=n) (hm:n<=mask):mK { mask,place,dummies:=#[],finger,led,moves,plain } n=true:=by
 unfold mK Le
 subst h
 simp only [beq_self_eq_true,u5,decide_eq_true_eq]
 exact hm
theorem Gs {a:aj}{es:Array (Int×ac)}{ep:Nat}{t:ed}{wanted:Nat}{Q:Unit->ag->Prop} (I:cS w s.heap a es ep t) (hw:wanted<=30) (hz:es.size<=wanted)
  (h:∀ h' es' ep' t',bH a s.heap h'->cS w h' a es' ep' t'->es'.toList.Perm es.toList->L0 t'.mask->wanted<=t'.mask->Q () { s with heap:=h' }):au (aO P w) A (setRelay a wanted) Q E s:=by
 obtain ⟨w1,w2,w3⟩:=N5 hw
 obtain ⟨place,order,e,hp,ho⟩:=Ip (finger:=t.finger) (moves:=t.movedTo (cq wanted - 1)) (led:=t.led) (plain:=t.plain) (hs:=es.map (·.1)) w2 (by rw [rF];omega)
 rw [rF] at hp ho
 have pm:=yt ho
 have sz:(order.filterMap (es[·]?)).size=es.size:=by rw [<- av,pm.length_eq,av]
 unfold setRelay
 refine a7 (bC I.at_ rfl I.fits ?_)
 show au _ _ (if cq wanted > sizeLine then _ else _) _ _ s
 have h32:(32:Nat)<=sizeLine:=by decide
 rw [if_neg (by omega)]
 refine a7 ?_
 unfold J9
 rw [e]
 show au _ _ (if ((order.filterMap (es[·]?)).size != es.size)=true then _ else pure (order.filterMap (es[·]?),_)) _ _ s
 rw [if_neg (by rw [sz];simp)]
 refine ae ?_
 have fit:mK { mask:=cq wanted - 1,place,dummies:=#[],finger:=t.finger,led:=t.led,moves:=t.movedTo (cq wanted - 1),plain:=t.plain } (order.filterMap (es[·]?)).size=true:=Iq (by rw [sz];exact hp) (by rw [sz];omega)
 refine iQ I.at_ rfl ?_ (by rw [sz];exact fj I.few)
 exact h _ _ _ _ (bF s.heap a _) (I.of pm fit rfl rfl) pm w2 w1
theorem Cf {a:aj}{es:Array (Int×ac)}{ep:Nat}{t:ed}{more:Nat}{Q:Unit->ag->Prop} (I:cS w s.heap a es ep t) (hz:es.size + more<=15) (hm:es.size≠0\/L0 t.mask)
  (h:∀ h' es' ep' t',bH a s.heap h'->cS w h' a es' ep' t'->es'.toList.Perm es.toList->(es.size≠0\/L0 t'.mask)->more<=t'.mask->Q () { s with heap:=h' }):au (aO P w) A (setRoomFor a more) Q E s:=by
 obtain ⟨f1,f2⟩:=yu I.fits
 unfold setRoomFor
 refine a7 (bC I.at_ rfl I.fits ?_)
 dsimp only
 unfold SetTable.roomFor
 by_cases hc:(t.fill + more) * 5 ≥ t.mask * 3
 ·rw [if_pos hc]
  refine Gs I (by rw [f1];omega) (by rw [f1];omega) fun h' es' ep' t' a1 a2 a3 a4 a5=>?_
  exact h h' es' ep' t' a1 a2 a3 (.inr a4) (by rw [f1] at a5;omega)
 ·rw [if_neg hc]
  exact ae (h s.heap es ep t (.refl ..) I (.refl _) hm (by omega))
end
end L2
namespace L2
open PySem
theorem xu {α σ:Type}{M:KJ}{A:bv}{E:ac->ag->Prop}{Q:σ->ag->Prop}{f:α->σ->Sem (ForInStep σ)}{b:σ} (I:List α->ag->Prop)
  (step:∀ x r s,I (x::r) s->au M A (f x b) (fun st s'=>st=.yield b/\I r s') E s) (fin:∀ s,I [] s->Q b s):∀ (l:List α) (s:ag),I l s->au M A (forIn l b f) Q E s
 | [],s,h=>by rw [mJ];exact ae (fin s h)
 | x::r,s,h=>by
  rw [jl]
  refine a7 (bQ (step x r s h) (fun st s' q=>?_) fun _ _ e=>e)
  obtain ⟨rfl,q⟩:=q
  exact xu I step fin r s' q
section
variable {P:aM}{w:ba}{A:bv}{E:ac->ag->Prop}{s:ag}
theorem Ed {l:List aj}{Q:Bool->ag->Prop} (h:∀ a∈l,∃ es ep t,cS w s.heap a es ep t) (q:Q true s):au (aO P w) A (setsQuiet l) Q E s:=by
 unfold setsQuiet
 refine a7 (xu (fun r s'=>s'=s/\∀ a∈r,∃ es ep t,cS w s.heap a es ep t) (fun a r s' hI=>?_) (fun s' hI=>?_) l s ⟨rfl,h⟩)
 ·obtain ⟨rfl,hI⟩:=hI
  obtain ⟨es,ep,t,I⟩:=hI a am
  unfold setEntries
  refine a7 (a7 (bC I.at_ rfl I.fits (ae ?_)))
  dsimp only
  rw [<- Jc]
  refine a7 (xu (fun r2 s2=>s2=s'/\∀ e∈r2,sA w e) (fun e r2 s2 h2=>?_) (fun s2 h2=>?_) es.toList s' ⟨rfl,I.txt⟩)
  ·obtain ⟨rfl,h2⟩:=h2
   obtain ⟨x,tk,rfl⟩:=h2 e am
   exact ae ⟨rfl,rfl,fun e he=>h2 e (ak _ he)⟩
  ·obtain ⟨rfl,_⟩:=h2
   exact ae ⟨rfl,rfl,fun b hb=>hI b (ak _ hb)⟩
 ·obtain ⟨rfl,_⟩:=hI
  exact ae q
theorem K0 {o:aj}{es:Array (Int×ac)}{ep:Nat}{t:ed}{Q:Array (Int×ac)->ag->Prop} (I:cS w s.heap o es ep t) (hb:w.params.followText "set-order"=true\/t.plain=true\/es.size<=1)
  (q:∀ es',es'.toList.Perm es.toList->Q es' s):au (aO P w) A (setWalk o) Q E s:=by
 unfold setWalk
 refine a7 (bC I.at_ rfl I.fits (a7 (f6 ?_)))
 cases hw:w.params.followText "set-order" with
 | true =>
  simp only [if_true]
  exact a7 (gX (ae (q _ (vt _ _))))
 | false =>
  simp only [bJ,if_false]
  have hd:(!t.plain && decide (es.size > 1))=false:=by
   rcases hb with h | h | h
   ·rw [hw] at h;cases h
   ·rw [h];rfl
   ·rw [decide_eq_false (by omega),mO]
  have hl:t.led=true:=by rw [I.led,hw];rfl
  show au _ _ (if (!t.plain && decide (es.size > 1))=true then _ else _) _ _ s
  rw [hd,if_neg bi]
  refine a7 ?_
  show au _ _ (if (!t.led && decide (es.size > 1))=true then _ else pure ()) _ _ s
  rw [hl,if_neg (by simp)]
  exact ae (ae (q _ (.refl _)))
theorem xb {o a:aj}{eo es:Array (Int×ac)}{epo ep:Nat}{to t:ed}{Q:Array (Int×ac)->ag->Prop} (I:cS w s.heap o eo epo to) (J:cS w s.heap a es ep t)
  (q:∀ h' es' ep' t',bH a s.heap h'->cS w h' a es ep' t'->es'.toList.Perm eo.toList->Q es' { s with heap:=h' }):au (aO P w) A (setWalkUnseen o [a] (some a)) Q E s:=by
 unfold setWalkUnseen
 refine a7 (bC I.at_ rfl I.fits (a7 (f6 ?_)))
 cases hc:(w.params.followText "set-order" || to.led && to.plain || decide (eo.size<=1)) with
 | true =>
  rw [if_pos rfl]
  refine K0 I ?_ fun es' p=>q s.heap es' ep t (.refl ..) J p
  rw [hV,hV,aQ,decide_eq_true_eq] at hc
  rcases hc with (h | h) | h
  ·exact .inl h
  ·exact .inr (.inl h.2)
  ·exact .inr (.inr h)
 | false =>
  rw [if_neg bi]
  rw [Hr,Hr,decide_eq_false_iff_not] at hc
  obtain ⟨⟨c1,_⟩,c3⟩:=hc
  refine a7 (Ed (fun b hb=>?_) ?_)
  ·rcases List.mem_cons.mp hb with h | h
   ·rw [h];exact ⟨_,_,_,I⟩
   ·rw [List.mem_singleton.mp h];exact ⟨_,_,_,J⟩
  rw [if_neg (by simp)]
  refine a7 (gG ?_)
  dsimp only
  refine a7 (bC J.at_ rfl J.fits ?_)
  dsimp only
  have hpl:to.plain=false:=I.pl.resolve_left (by omega)
  have hled:(t.led && to.led)=t.led:=by rw [I.led,J.led,ou]
  split
  ·refine a7 (iQ J.at_ rfl ?_ (fj J.few))
   refine ae (q _ _ _ _ (bF s.heap a _) (⟨qP J,J.txt,J.nd,J.few,?_,?_,?_⟩:cS w _ a es (ep + 1) _) (.refl _))
   ·exact J.fits
   ·exact hled.trans J.led
   ·exact .inr (by show (t.plain && to.plain)=false;rw [hpl,mO])
  ·exact ae (q s.heap eo ep t (.refl ..) J (.refl _))
end
end L2
namespace L2
open PySem
section
variable {P:aM}{w:ba}{A:bv}{E:ac->ag->Prop}{s:ag}
theorem cS.but {h h':bB}{a o:aj}{eo:Array (Int×ac)}{epo:Nat}{to:ed} (I:cS w h o eo epo to) (ne:a≠o) (sb:bH a h h'):cS w h' o eo epo to:=I.keep fun _ e=>(sb.2 o (db ne)).trans e
theorem yv {a o:aj}{es eo:Array (Int×ac)}{ep epo:Nat}{t to:ed}{each:Sem Unit}{Q:Unit->ag->Prop} (ne:a≠o) (J:cS w s.heap a es ep t) (I:cS w s.heap o eo epo to)
  (hz:es.size + eo.size<=15) (hm:es.size≠0\/L0 t.mask) (he:∀ (s':ag) (Q':Unit->ag->Prop),cS w s'.heap o eo epo to->Q' () s'->au (aO P w) A each Q' E s')
  (q:∀ h' tk' es' ep' t',bH a s.heap h'->cS w h' a es' ep' t'->(∀ x,x∈es'.toList.map jO↔x∈es.toList.map jO\/x∈eo.toList.map jO)->(es'.size≠0\/L0 t'.mask)->Q () { s with heap:=h',toks:=tk' }) :
  au (aO P w) A (setMerge a o each) Q E s:=by
 unfold setMerge
 rw [if_neg (by simpa using ne)]
 refine a7 (bC I.at_ rfl I.fits ?_)
 dsimp only
 by_cases h0:eo.size=0
 ·rw [if_pos (by simpa [Array.isEmpty] using h0)]
  have e0:eo=#[]:=kJ h0
  exact ae (q s.heap s.toks es ep t (.refl ..) J (fun x=>by rw [e0];simp) hm)
 rw [if_neg (by simpa [Array.isEmpty] using h0)]
 refine a7 (Cf J hz hm fun h1 es1 ep1 t1 sb1 J1 p1 m1 r1=>?_)
 have I1:=I.but ne sb1
 have sz1:es1.size=es.size:=by rw [<- av,p1.length_eq,av]
 refine a7 (bC (s:={ s with heap:=h1 }) J1.at_ rfl J1.fits ?_)
 dsimp only
 obtain ⟨f1,f2⟩:=yu J1.fits
 have hpl:to.plain=false:=I.pl.resolve_left h0
 have hled:(t1.led && to.led)=t1.led:=by rw [I.led,J1.led,ou]
 have kp:∀ x,x∈es1.toList.map jO↔x∈es.toList.map jO:=fun x=>(p1.map jO).mem_iff
 by_cases hf:t1.fill=0
 ·have e1:es.size=0:=by
   unfold Le at hf
   omega
  have mk:L0 t1.mask:=m1.resolve_left (by omega)
  have ee:es=#[]:=kJ e1
  unfold Lf
  rw [if_neg (by rw [hf];decide)]
  split
  ·refine iQ (s:={ s with heap:=h1 }) J1.at_ rfl ?_ (fj I.few)
   refine q _ s.toks _ _ _ (sb1.trans (bF h1 a _)) (⟨qP J1,I.txt,I.nd,I.few,?_,?_,?_⟩:cS w _ a eo (ep1 + 1) _) (fun x=>by rw [ee];simp) (.inl h0)
   ·exact I.fits
   ·exact hled.trans J1.led
   ·exact .inr (by show (t1.plain && to.plain)=false;rw [hpl,mO])
  ·obtain ⟨place,order,e,hp,ho⟩:=Ip (finger:=t1.finger) (moves:=t1.moves) (led:=t1.led && to.led) (plain:=t1.plain && to.plain) (hs:=eo.map (·.1)) mk (by rw [rF];exact r1)
   rw [rF] at hp ho
   have pm:=yt ho
   have sz:(order.filterMap (eo[·]?)).size=eo.size:=by rw [<- av,pm.length_eq,av]
   refine a7 ?_
   rw [e]
   show au _ _ (if ((order.filterMap (eo[·]?)).size != eo.size)=true then _ else pure (order.filterMap (eo[·]?),_)) _ _ _
   rw [if_neg (by rw [sz];simp)]
   refine ae ?_
   refine iQ (s:={ s with heap:=h1 }) J1.at_ rfl ?_ (by rw [sz];exact fj I.few)
   refine q _ s.toks _ _ _ (sb1.trans (bF h1 a _)) (⟨qP J1,fun x hx=>I.txt x (pm.mem_iff.mp hx),(pm.map jO).nodup_iff.mpr I.nd,by rw [sz];exact I.few,Iq (by rw [sz];exact hp) (by rw [sz];exact r1),hled.trans J1.led,.inr ?_⟩:cS w _ a (order.filterMap (eo[·]?)) (ep1 + 1) _) (fun x=>?_) (.inl (by rw [sz];exact h0))
   ·show (t1.plain && to.plain)=false;rw [hpl,mO]
   ·rw [(pm.map jO).mem_iff,ee];simp
  ·rename_i hq
   split at hq<;>cases hq
 ·unfold Lf
  rw [if_pos (by simpa using hf)]
  dsimp only
  refine a7 (xb (s:={ s with heap:=h1 }) I1 J1 fun h2 es2 ep2 t2 sb2 J2 p2=>?_)
  rw [<- Jc]
  have hl:es2.toList.length=eo.size:=by rw [p2.length_eq,av]
  refine a7 (xu (fun r s'=>∃ h' tk' e' p' t',s'={ s with heap:=h',toks:=tk' }/\bH a s.heap h'/\cS w h' a e' p' t'/\e'.size + r.length<=15/\(∀ e∈r,sA w e)/\∀ x,(x∈e'.toList.map jO\/x∈r.map jO)↔x∈es.toList.map jO\/x∈eo.toList.map jO) ?_ ?_ es2.toList _ ⟨h2,s.toks,es1,ep2,t2,rfl,sb1.trans sb2,J2,by omega,fun e he=>I.txt e (p2.mem_iff.mp he),fun x=>by rw [kp,(p2.map jO).mem_iff]⟩)
  ·rintro e r s' ⟨h',tk',e',p',t',rfl,sb',J',z',tx',k'⟩
   obtain ⟨x,tk,rfl⟩:=tx' e am
   simp only [aR] at z'
   dsimp only
   refine a7 (cX (AO (s:={ s with heap:=h',toks:=tk' }) (⟨e',p',t',J',.refl _⟩:l7 w h' a (e'.toList.map jO)) (by rw [ao,av];exact aJ (show e'.size + 1<100 by omega) (by decide)) fun h'' tk'' sb'' S''=>?_))
   obtain ⟨e'',p'',t'',J'',pm''⟩:=S''
   have sb3:=sb'.trans sb''
   have I3:=I.but ne sb3
   refine a7 (he _ _ I3 ?_)
   refine a7 (bC (s:={ s with heap:=h'',toks:=tk'' }) I3.at_ rfl I3.fits ?_)
   dsimp only
   rw [if_neg (by simp)]
   refine ae ⟨rfl,h'',tk'',e'',p'',t'',rfl,sb3,J'',?_,fun e he=>tx' e (ak _ he),fun y=>?_⟩
   ·have:=pm''.length_eq
    rw [ao,av] at this
    have l2:(if x∈e'.toList.map jO then e'.toList.map jO else e'.toList.map jO++[x]).length<=e'.size + 1:=by
     split<;>simp
    omega
   ·rw [<- k' y,pm''.mem_iff]
    have ek:jO (hashStr w x,jq x tk)=x:=rfl
    rw [aB,b9,ek]
    split
    ·rename_i hx
     constructor
     ·rintro (h | h)
      ·exact .inl h
      ·exact .inr (.inr h)
     ·rintro (h | h | h)
      ·exact .inl h
      ·rw [h];exact .inl hx
      ·exact .inr h
    ·rw [zI,dO]
     constructor
     ·rintro ((h | h) | h)
      ·exact .inl h
      ·exact .inr (.inl h)
      ·exact .inr (.inr h)
     ·rintro (h | h | h)
      ·exact .inl (.inl h)
      ·exact .inl (.inr h)
      ·exact .inr h
  ·rintro s' ⟨h',tk',e',p',t',rfl,sb',J',z',tx',k'⟩
   refine ae (q h' tk' e' p' t' sb' J' (fun x=>?_) (.inl ?_))
   ·rw [<- k' x];simp
   ·intro e0
    obtain ⟨e,hh⟩:∃ e,e∈eo.toList:=by
     cases hq:eo.toList with
     | nil=>rw [<- av,hq] at h0;exact absurd rfl h0
     | cons e r=>exact ⟨e,am⟩
    have:=(k' (jO e)).mpr (.inr (bz hh))
    rw [kJ e0] at this
    simp at this
end
end L2
namespace L2
open PySem PyProof.Rows
theorem Cg:FO table "set.__or__"=some jP.«frozenset.__or__»:=FP (id':="frozenset.__or__") (by kernel_rfl) rfl (by decide +kernel) (by kernel_rfl)
section
variable {P:aM}{w:ba}{A:bv}{E:ac->ag->Prop}{s:ag}
theorem cS.ty {a:aj}{es:Array (Int×ac)}{ep:Nat}{t:ed} (I:cS w s.heap a es ep t):s.TypeIs (.ref a) "set":=⟨_,I.at_,rfl⟩
theorem sL {a:aj}{es:Array (Int×ac)}{ep:Nat}{t:ed}{Q:Bool->ag->Prop} (I:cS w s.heap a es ep t) (q:Q true s):au (aO P w) A (rG (.ref a)) Q E s:=by
 unfold rG
 refine a7 (gZ I.ty Lb ?_)
 exact ae q
theorem N6 {h:bB}{a:aj} (e:h.get? a=some (eR w)):cS w h a #[] 0 (.fresh 0 0 (!w.params.followText "set-order")) :=
 ⟨e,(fun _ h=>nomatch h),gz,by decide,rfl,rfl,.inl rfl⟩
theorem PZ {a b:aj}{xs ys:List Str}{Q:ac->ag->Prop} (ha:l7 w s.heap a xs) (hb:l7 w s.heap b ys) (ne:a≠b) (hz:xs.length + ys.length<=15)
  (q:∀ h' tk',bH s.heap.objs.size (s.heap.push (eR w)) h'->l7 w h' s.heap.objs.size (dk xs ys)->Q (.ref s.heap.objs.size) { s with heap:=h',toks:=tk' }) :
  au (aO P w) A (eP .BitOr (.ref a) (.ref b)) Q E s:=by
 obtain ⟨ea,pa,ta,Ia,ma⟩:=ha
 obtain ⟨eb,pb,tb,Ib,mb⟩:=hb
 have sa:ea.size=xs.length:=by rw [<- ma.length_eq,ao,av]
 have sb:eb.size=ys.length:=by rw [<- mb.length_eq,ao,av]
 refine wpAny_binaryOp_same Ia.ty Ib.ty F.fills_set_or F.slot_set_or (c6 F.slot_set_or Ia.ty Cg ?_ (F.args_set_or_2 _ _))
 have lt1:a<s.heap.objs.size:=aq Ia.at_
 have lt2:b<s.heap.objs.size:=aq Ib.at_
 show au _ _ (OS "__or__" ⟨[.ref a,.ref b],[]⟩ >>= _) _ _ s
 refine a7 (a7 (ae (ae ?_)))
 dsimp only
 refine a7 (a7 (sL Ia (sL Ib ?_)))
 rw [if_neg (by simp)]
 refine a7 (ae (a7 ?_))
 show au _ _ (su a >>= _) _ _ s
 refine a7 ?_
 unfold su OT
 refine a7 (a7 (gZ Ia.ty Lb (ae ?_)))
 rw [if_pos rfl]
 refine a7 (rW ?_)
 have g0:(s.heap.push (eR w)).get? s.heap.objs.size=some (eR w):=ax _ rfl
 have J0:=N6 g0
 have Ia1:cS w (s.heap.push (eR w)) a ea pa ta:=Ia.keep fun _ e=>af _ e
 have Ib1:cS w (s.heap.push (eR w)) b eb pb tb:=Ib.keep fun _ e=>af _ e
 have na:s.heap.objs.size≠a:=db (aF lt1)
 have nb:s.heap.objs.size≠b:=db (aF lt2)
 refine a7 (ae (a7 (yv (s:={ s with heap:=s.heap.push (eR w) }) na J0 Ia1 (by show 0 + ea.size<=15;omega) (.inr (.inl rfl)) (fun _ _ _ q=>ae q) fun h1 tk1 e1 p1 t1 sb1 J1 k1 m1=>ae ?_)))
 have Ib2:=Ib1.but nb sb1
 have n1:(e1.toList.map jO).length<=ea.size:=by
  have:=(mP J1.nd Ia.nd).mpr fun x=>by rw [k1];simp
  rw [this.length_eq,ao,av]
  exact ar _
 rw [ao,av] at n1
 show au _ _ (if (bX b != bX a)=true then _ else _) _ _ _
 rw [if_pos (by simp;exact db ne)]
 refine a7 (ae (a7 (cX ?_)))
 show au _ _ (jm _ s.heap.objs.size (bX b)) _ _ _
 unfold jm
 refine a7 (sL (s:={ s with heap:=h1,toks:=tk1 }) Ib2 ?_)
 rw [if_pos rfl]
 refine a7 (ae ?_)
 unfold OU setEpoch
 refine a7 (a7 (bC (s:={ s with heap:=h1,toks:=tk1 }) Ib2.at_ rfl Ib2.fits (ae ?_)))
 refine yv (s:={ s with heap:=h1,toks:=tk1 }) nb J1 Ib2 (by omega) m1 (fun s' Q' I' q'=>?_) fun h2 tk2 e2 p2 t2 sb2 J2 k2 m2=>?_
 ·unfold OV setEpoch
  refine a7 (a7 (bC I'.at_ rfl I'.fits (ae ?_)))
  dsimp only
  rw [if_neg (by simp)]
  exact ae q'
 ·refine ae (ae ⟨_,rfl,(fun z=>nomatch z),q h2 tk2 (sb1.trans sb2) ⟨e2,p2,t2,J2,?_⟩⟩)
  refine (mP J2.nd (ig _ _ (ma.nodup_iff.mp Ia.nd))).mpr fun x=>?_
  rw [k2,iq,k1,ma.mem_iff,mb.mem_iff]
  simp
end
end L2
namespace L2
open PySem PyProof.Rows
theorem SW {X:Cx}:oB X (eP .BitOr) (fun x y H Q=>∃ a b xs ys,x=.ref a/\y=.ref b/\a≠b/\H a=some (lz X.w a xs)/\H b=some (lz X.w b ys)/\xs.length + ys.length<=15/\∀ p,H p=none->Q (.ref p) (upd H p (lz X.w p (dk xs ys)))):=by
 intro pins s σ H x y v u Q I rx ry h
 obtain ⟨a,b,xs,ys,rfl,rfl,ne,ha,hb,hz,q⟩:=h
 cases rx
 cases ry
 have Sa:=(show dA X.prog X.w H s.heap a (lz X.w a xs) from I.hok a _ ha).1
 have Sb:=(show dA X.prog X.w H s.heap b (lz X.w b ys) from I.hok b _ hb).1
 refine PZ Sa Sb ne hz fun h' tk' sb S=>?_
 refine ⟨.ref s.heap.objs.size,_,I.laid (t':=tk') (fun b o e=>?_) (ar _) (BW S),rfl,q _ (I.hok.fresh (ar _))⟩
 exact (sb.2 b (aF (aq e))).trans (af _ e)
end L2
namespace J
open PySem L2
section
variable {c:C}{a b:aX}{ga gb:aw->R (List Str)}{pos:Pos}
def SX (xs ys:List Str):R (List Str):=if xs.length + ys.length<=15 then .ok (dk xs ys) else .no
def N7 (ga gb:aw->R (List Str)):aw->R (List Str):=fun ρ=>(ga ρ).bind fun xs=>(gb ρ).bind (J.SX xs)
theorem SY (ha:PN c a ga) (hb:PN c b gb):PN c (.BinOp a .BitOr b pos) (N7 ga gb):=.of fun ρ=>rX (QJ SW (ha ρ) (hb ρ)) fun σ H Q h_0=>by
 obtain ⟨H0,Hs0,la,Hs,f,q⟩:=h_0
 refine HU (w:=c.X.w) f q fun xs p H1 Hs1 e1 s1 f1 n1=>?_
 unfold N7 at q
 rw [e1,bind_ok] at q
 have s2:cP H1 Hs1 (upd H1 p (lz c.X.w p xs)) Hs1:=.mine f1.st.sub n1
 refine HU (w:=c.X.w) (f1.step s2) (q.on (s1.trans s2) (q':=fun _=>True) fun _ _=>trivial) fun ys p2 H2 Hs2 e2 s3 f2 n2=>?_
 rw [e2,bind_ok] at q
 unfold J.SX at q
 by_cases hz:xs.length + ys.length<=15
 ·rw [if_pos hz] at q
  have k1:H2 p=some (lz c.X.w p xs):=s3.all p _ bn
  have ne:p≠p2:=fun z=>by rw [z,n2] at k1;cases k1
  have s4:cP H2 Hs2 (upd H2 p2 (lz c.X.w p2 ys)) Hs2:=.mine f2.st.sub n2
  exact ⟨p,p2,xs,ys,rfl,rfl,ne,by rw [bt ne];exact k1,bn,hz,fun l hl=>q l _ _ (s1.trans (s2.trans (s3.trans s4))) hl⟩
 ·rw [if_neg hz] at q;exact q.elim
end
end J
namespace J
open PySem L2
section
variable {c:C}{a b:aX}{gs:aw->R (List D)}{pos px py pt pt2:Pos}{x y:Str}
def WH (i j:Nat) (ρ:aw):List D->R Fl
 | [d,e]=>.ok (.nx ((ρ.set i (.shr d)).set j (.shr e)))
 | _=>.no
def N8 (i j:Nat) (gs:aw->R (List D)):aw->R Fl:=fun ρ=>(gs ρ).bind (WH i j ρ)
theorem SZ (i j:Nat) {kt k2:_} (hc:c.X.calm=true) (hN:c.X.N.Nodup) (ha:FD c [a,b] gs) (hi:c.X.N[i]?=some x:=by rfl) (hj:c.X.N[j]?=some y:=by rfl) (hij:i≠j:=by decide)
  (hx:c.X.env.scope.names.lookup x=some .local:=by rfl) (hy:c.X.env.scope.names.lookup y=some .local:=by rfl) (hw:xj [.Tuple [.Name x px,.Name y py] kt pt] (.Tuple [a,b] k2 pt2) c.X.env=pure (some [x,y]):=by rfl)
  (hs:xi [.Tuple [.Name x px,.Name y py] kt pt] (.Tuple [a,b] k2 pt2) pos.line c.X.env=pure false:=by rfl):JS c (.Assign [.Tuple [.Name x px,.Name y py] kt pt] (.Tuple [a,b] k2 pt2) pos) (N8 i j gs):=.of fun ρ=>Ab (S5 hc hN hi hj hij hx hy (ha ρ) hw hs) fun D σ H h_0=>by
 obtain ⟨H0,Hs0,la,Hs,f,q⟩:=h_0
 refine ⟨H0,Hs0,la,Hs,f,?_⟩
 unfold N8 at q
 cases hr:gs ρ with
 | ok ds =>
  rw [hr,bind_ok] at q
  intro vs H' Hs' s r
  match ds,r,q with
  | [],_,q=>exact q.elim
  | [_],_,q=>exact q.elim
  | [d,e],.cons r1 (.cons r2 .nil),q=>exact ⟨_,_,rfl,q _ _ Hs' (((f.step s).set i r1).set j r2)⟩
  | _::_::_::_,_,q=>exact q.elim
 | ex z n =>
  rw [hr] at q
  exact fun H' Hs' s=>q H' Hs' (f.st.trans s)
 | no=>rw [hr] at q;exact q.elim
end
end J
namespace J
open PySem L2
end J
end
section
namespace L2
open PySem PySem.Spec PyProof.Rows
theorem Ch:FK (.type "list") "keys"=pure none:=by rw [De,u3];kernel_rfl
theorem B2:FO table "dict.update.loop"=some jP.«dict.update.loop»:=entryFor_of_tree (by kernel_rfl)
theorem qV:plainId "dict.update.loop"=true:=by decide +kernel
section
variable {prog:aM}{w:ba}{A:bv}{E:ac->ag->Prop}{s:ag}{R:vb->ag->Prop}
theorem yw {a:aj}{o:Obj}{xs:Array ac}{k:Nat}{Q:Option ac->ag->Prop}
  (hx:s.heap.get? a=some o) (hc:o.cls=.type "list") (hdat:o.data=.seq xs k) (hd:o.dict=none) (hA:A.handled=none)
  (h:∀ h' tk,(∀ b o,s.heap.get? b=some o->h'.get? b=some o)->Q none { s with heap:=h',toks:=tk }) :
  au (aO prog w) A (getAttr? (.ref a) "keys") Q E s:=by
 obtain ⟨c,dct,dat,sl⟩:=o
 simp only at hc hdat hd
 subst hc hdat hd
 obtain ⟨hp,g,d,tk,os⟩:=s
 have hT:∀ tk',(⟨hp,g,d,tk',os⟩:ag).TypeIs (.ref a) "list":=fun _=>⟨_,hx,rfl⟩
 have f1:=sub_AttributeError
 have f3:=F.slot_list_getattribute.lookup
 have f4:=F.slot_list_getattribute.bind (.ref a)
 have f5:=am_list_getattr_none
 have hname:(["__module__","__name__","__qualname__","__doc__","__annotations__"] : List Str).contains "keys"=false:=by decide +kernel
 unfold getAttr? getAttrBy? getAttrBy
 repeat (any_goals (first | assumption | exact hT _ | ((with_reducible show au _ _ (call (Value.builtin "list.__getattribute__") _ _) _ _ _);refine call_meets F.slot_list_getattribute (hT _) am_entry_list_getattribute (F.args_list_getattribute_2 _ _) (meets_getattribute_miss_list a xs k sl "keys" _ Ch hname (by size_fits)) ⟨hx,hA,fun h' tk' e hx'=>?_⟩) | wp_step))
 have ha:=hx'.of
 obtain ⟨ob,vs,he,hc,_⟩:=ha.there
 have hTe:(⟨h',g,d,tk',os⟩:ag).TypeIs (.ref e) "AttributeError":=⟨_,he,hc⟩
 show au _ _ (getattributeRaised _ _ _ _ _ _ _) _ _ _
 unfold getattributeRaised
 repeat (any_goals (first | assumption | wp_step))
 exact h _ _ ha.keeps
end
end L2
namespace L2
open PySem PySem.Spec PyProof.Rows
def Ry (acc:List (dv×ac)) (l:List (dv×ac×ac)):List (dv×ac):=l.foldl (fun a t=>L9 a t.1 t.2.2) acc
theorem Gu (kvs:List (dv×ac)) (k:dv) (v:ac):(L9 kvs k v).length<=kvs.length + 1:=by
 unfold L9
 split<;>simp
section
variable {prog:aM}{w:ba}{A:bv}{E:ac->ag->Prop}{s:ag}{R:vb->ag->Prop}
theorem Ag {I:aj}{fp wr:List aj}{n:Nat}{Pv:Nat->ac->Prop}{St:Nat->bB->Prop} (W:KR prog w A.in1 I fp wr n Pv St) (D:aj) (hD:D∉fp) (xs:List (dv×ac×ac)) (pa:List aj) (hx:xs.length=n)
  (hv:∀ i v,Pv i v->∃ p x,pa[i]?=some p/\xs[i]?=some x/\v=.ref p) (hk:∀ x∈xs,(dw prog w).is x.1 x.2.1=true) (hp:∀ p∈pa,p∉D::wr) (hb:n<=1000) :
  ∀ (k i:Nat) (s:ag) (acc:List (dv×ac)) (j:Int),n - i=k->i<=n->acc.length<=i->St i s.heap->s.heap.DictOf (dw prog w) D acc->(∀ (i:Nat) (p:aj) (x:dv×ac×ac),pa[i]?=some p->xs[i]?=some x->KH s.heap p #[x.2.1,x.2.2]) ->
   (∀ h' tk,(∀ b o,b∉D::wr->s.heap.get? b=some o->h'.get? b=some o)->h'.DictOf (dw prog w) D (Ry acc (xs.drop i))->R (.ok (.ret .none)) { s with heap:=h',toks:=tk }) ->
   iN (aO prog w) A (.builtin "dict.update.loop" ⟨[.ref D,.ref I,cc j,.none],[]⟩) R s:=by
 have hDw:D∉wr:=fun z=>hD (W.sub _ z)
 intro k
 induction k with
 | zero =>
  intro i s acc j hk' hi hl st hS hT hR
  obtain rfl:i=n:=by omega
  refine gx B2 ?_
  rw [eG qV _]
  show au _ A.in1 (jr (.ref I) >>= _) _ _ s
  refine a7 (W.done s _ _ st fun h' tk kp=>?_)
  show au _ _ (Builtin.Dict.addKeywords D [] >>= _) _ _ _
  refine a7 (ae (ae (hR h' tk (fun b o hb e=>kp b o (fun z=>hb (ak _ z)) e) ?_)))
  rw [Fx (by omega)]
  obtain ⟨o,es,ep,e,r⟩:=hS
  exact ⟨o,es,ep,kp D o hDw e,r⟩
 | succ k ih =>
  intro i s acc j hk' hi hl st hS hT hR
  have hlt:i<n:=by omega
  refine gx B2 ?_
  rw [eG qV _]
  show au _ A.in1 (jr (.ref I) >>= _) _ _ s
  refine a7 (W.item i s _ _ hlt st fun v h' tk hP st' kp=>?_)
  obtain ⟨p,x,hpi,hxi,rfl⟩:=hv i v hP
  have hpm:=hp p (cm hpi)
  have hS':h'.DictOf (dw prog w) D acc:=by
   obtain ⟨o,es,ep,e,r⟩:=hS
   exact ⟨o,es,ep,kp D o hDw e,r⟩
  obtain ⟨ot,et,ct,nt,dt⟩:=hT i p x hpi hxi
  have et':h'.get? p=some ot:=kp p ot (fun z=>hpm (ak _ z)) et
  have hkx:=hk x (cm hxi)
  refine a7 (cX (a7 (wpAny_tryCatch ?_)))
  unfold Builtin.Dict.pairItems
  refine a7 (kZ (T:="tuple") (s:={ s with heap:=h',toks:=tk }) ⟨_,et',ct⟩ ?_)
  rw [if_pos (by decide)]
  refine a7 (ef (s:={ s with heap:=h',toks:=tk }) et' dt (ae ?_))
  show au _ _ (L4 [x.2.1,x.2.2] (dictSet D x.2.1 x.2.2)) _ _ _
  refine cX ?_
  unfold dictSet
  refine cX (a7 ((dw prog w).pyHash (k:=x.1) hkx ?_))
  refine wpAny_dictSetHashed_pairs (s:={ s with heap:=h',toks:=tk + 1 }) hkx hS' (fun h2 hS2 sb=>?_) (bZ hl (bZ hi (bZ hb (cr (dN (ar _))))))
  refine ae ⟨mB qV _,ih (i + 1) _ (L9 acc x.1 x.2.2) _ (by omega) hlt ?_ (W.frame _ _ _ st' fun b hb o e=>?_) hS2 (fun i2 p2 x2 e1 e2=>?_) fun h3 tk3 k3 hS3=>?_⟩
  ·have:=Gu acc x.1 x.2.2
   omega
  ·rw [sb.2 b fun z=>hD (z ▸ hb)];exact e
  ·obtain ⟨o2,g2,r2⟩:=hT i2 p2 x2 e1 e2
   have hm:=hp p2 (cm e1)
   exact ⟨o2,(sb.2 p2 fun z=>hm (by rw [z];exact am)).trans (kp p2 o2 (fun z=>hm (ak _ z)) g2),r2⟩
  ·refine hR h3 tk3 (fun b o hb e=>k3 b o hb ?_) ?_
   ·show h2.get? b=_
    rw [sb.2 b fun z=>hb (by rw [z];exact am)]
    exact kp b o (fun z=>hb (ak _ z)) e
   ·have hd:xs.drop i=x::xs.drop (i + 1):=by
     obtain ⟨h1,h2⟩:=List.getElem?_eq_some_iff.mp hxi
     rw [nO h1,h2]
    rw [hd];exact hS3
theorem OC {l:aj}{ol:Obj}{its:List ac}{n:Nat}{xs:List (dv×ac×ac)}{pa:List aj}{Q:ac->ag->Prop} (hh:A.handled=none)
  (hol:s.heap.get? l=some ol) (hc:ol.cls=.type "list") (hdd:ol.dict=none) (hdt:ol.data=.seq its.toArray n) (hi:∀ (i:Nat) (v:ac),its[i]?=some v->∃ p x,pa[i]?=some p/\xs[i]?=some x/\v=.ref p) (hx:xs.length=its.length) (hk:∀ x∈xs,(dw prog w).is x.1 x.2.1=true) (hb:its.length<=1000)
  (hT:∀ (i:Nat) (p:aj) (x:dv×ac×ac),pa[i]?=some p->xs[i]?=some x->KH s.heap p #[x.2.1,x.2.2]) (hpa:∀ p∈pa,p<s.heap.objs.size)
  (h:∀ (h':bB) (tk:Nat),h'.DictOf (dw prog w) s.heap.objs.size (Ry [] xs)->(∀ b o,s.heap.get? b=some o->h'.get? b=some o)->Q (.ref s.heap.objs.size) { s with heap:=h',toks:=tk }) :
  au (aO prog w) A (call (.type "dict") [.ref l]) Q E s:=by
 refine callType_codes (Q₁:=fun obj s₁=>obj=.ref s.heap.objs.size/\s₁={ s with heap:=s.heap.push { cls:=.type "dict",data:=.dict #[] } }) F.kt_called_dict (F.kt_typeCall_dict_1 _) F.entry_dict_init (kt_code_dict_new _ ⟨rfl,rfl⟩) ?_
 rintro obj s₁ ⟨rfl,rfl⟩
 have hnew:(s.heap.push { cls:=.type "dict",data:=.dict #[] }).DictOf (dw prog w) s.heap.objs.size []:=Fv s.heap
 have hol':(s.heap.push { cls:=.type "dict",data:=.dict #[] }).get? l=some ol:=af _ hol
 have hlS:l<s.heap.objs.size:=aq hol
 refine ⟨hnew.typeIs,F.args_dict_init_2 _ _,?_⟩
 unfold jP.«dict.__init__»
 refine a7 ?_
 unfold Builtin.Dict.selfAndRest
 refine a7 (Ot hnew.typeIs ?_)
 show au _ _ (pure (s.heap.objs.size,[bX l])) _ _ _
 refine ae ?_
 show au _ _ (wT "dict.__init__" s.heap.objs.size (.ref l) [] .none) _ _ _
 unfold wT
 refine a7 (kZ (T:="list") ⟨_,hol',hc⟩ ?_)
 rw [if_pos (by decide)]
 refine a7 (yw (s:={ s with heap:=s.heap.push { cls:=.type "dict",data:=.dict #[] } }) hol' hc hdt hdd (by simpa using hh) fun h1 tk1 k1=>?_)
 rw [if_pos (by rfl)]
 refine a7 (gG ?_)
 have hol1:=k1 l ol hol'
 refine a7 (iM (s:={ s with heap:=h1,toks:=tk1 }) ⟨_,hol1,hc,⟨_,hdt⟩⟩ ?_)
 have hD1:∃ o,h1.get? s.heap.objs.size=some o:=by
  obtain ⟨o,es,ep,e,_⟩:=hnew
  exact ⟨o,k1 _ _ e⟩
 obtain ⟨oD,eD⟩:=hD1
 have lD:=aq eD
 have W:=u0 (prog:=prog) (w:=w) (A:=A.in1.in1) (by simpa using hh) h1.objs.size l (aF (aq hol1)) its.toArray
 have k2:∀ b o,h1.get? b=some o->(h1.push { cls:=.type "list_iterator",data:=.fields #[.ref l,.int 0 0] }).get? b=some o:=fun b o e=>af _ e
 have hD2:(h1.push { cls:=.type "list_iterator",data:=.fields #[.ref l,.int 0 0] }).DictOf (dw prog w) s.heap.objs.size []:=by
  obtain ⟨o,es,ep,e,r⟩:=hnew
  exact ⟨o,es,ep,k2 _ _ (k1 _ _ e),r⟩
 refine ae ⟨mB qV _,Ag (A:=A.in1) W s.heap.objs.size ?_ xs pa (by rw [hx,aP]) (fun i v e=>hi i v (by simpa using e)) hk (fun p hp=>?_) (by rw [aP];exact hb) its.length 0 _ [] 0 (by rw [aP];omega) (cE _) (ar _) ⟨⟨_,ax _ rfl,rfl,rfl⟩,⟨_,k2 _ _ hol1,hc,⟨_,hdt⟩⟩⟩ hD2 (fun i p x e1 e2=>?_) fun h' tk kp hS'=>?_⟩
 ·simp only [b9,aS,or_false,not_or]
  exact ⟨aF lD,eJ hlS⟩
 ·have:=hpa p hp
  simp only [b9,aS,or_false,not_or]
  exact ⟨aF this,aF (wO this lD)⟩
 ·obtain ⟨o,g,r⟩:=hT i p x e1 e2
  exact ⟨o,k2 _ _ (k1 _ _ (af _ g)),r⟩
 ·refine ⟨rfl,h h' tk hS' fun b o e=>kp b o ?_ (k2 _ _ (k1 _ _ (af _ e)))⟩
  have:=aq e
  simp only [b9,aS,or_false,not_or]
  exact ⟨aF this,aF (wO this lD)⟩
end
end L2
namespace L2
open PySem PySem.Spec PyProof.Rows
end L2
namespace J
open PySem L2
def Ir:List D->Option (List (dv×D))
 | []=>some []
 | .tuple [k,v]::r=>(qu k).bind fun y=>(Ir r).map ((y,v)::·)
 | _::_=>none
def VN:D->R D
 | .list ds=>if ds.length<=1000 then (match Ir ds with
  | some ps=>.ok (.dict (ps.foldl (fun a p=>vE a (kD p.1) p.2) []))
  | none=>.no) else .no
 | _=>.no
section
variable {c:C}{e:aX}{g:aw->R D}{p cpos:Pos}
end
end J
namespace L2
open PySem PySem.Spec PyProof.Rows
def S_ (K:a8) (a:aj):It :=
 ⟨fun i H=>∃ xs x,lW K H a xs/\xs[i]?=some x,fun i H v H'=>∃ p,H p=none/\v=.ref p/\∀ xs,lW K H a xs->∃ x,xs[i]?=some x/\H'=upd H p (.tup [.int i,x]),fun i H=>∃ xs,lW K H a xs/\xs.length<=i⟩
theorem Gv {P:aM}{w:ba}{K:a8}{elts:List aX}{x1}{pos:Pos} (a e it:aj) (hei:e≠it):vk P w K (.Tuple elts x1 pos) (S_ K a) [e,it] e (fun i h=>(∃ old,IsEnum h e it i old)/\h.IsListIter it a i) where
 mem:=by simp
 obj:=fun i h st b hb=>by
  simp only [b9,aS,or_false] at hb
  rcases hb with rfl | rfl
  ·obtain ⟨⟨old,q⟩,_⟩:=st
   exact ⟨_,q,fun v z=>by cases z⟩
  ·obtain ⟨_,o,q,_,d⟩:=st
   exact ⟨o,q,fun v z=>by rw [d] at z;cases z⟩
 keep:=fun i h h' st k=>⟨let ⟨old,q⟩:=st.1;⟨old,k e (by simp) _ q⟩,let ⟨o,q,r⟩:=st.2;⟨o,k it (by simp) o q,r⟩⟩
 item:=by
  intro X hP hw hK hc i pins s σ H E I hf st hg
  subst hP hw hK
  obtain ⟨xs,x,hq,hx⟩:=hg
  obtain ⟨its,rv,p,hz⟩:=I.list hq
  obtain ⟨u,hu,ru⟩:=rv.get hx
  obtain ⟨⟨old,he⟩,hit⟩:=st
  have hit0:=hit
  obtain ⟨oi,ei,_⟩:=hit0
  have he0:=aq he
  refine wpAny_pyNext_enum_item he hit p.isList (by simpa using hu) hei ?_
  intro h1 eo st1 tup sz k1
  refine ⟨_,rfl,FU eo fun h2 e2 sb2=>?_⟩
  have szn:s.heap.objs.size≠e:=eJ he0
  have I2:bP X pins σ H { s with heap:=h2,toks:=s.toks + 1 }:=I.turnedL (ch:=[e,it]) (fun b o hb q=>by
   simp only [b9,aS,or_false,not_or] at hb
   exact (sb2.2 b hb.1).trans (k1 b o hb.1 hb.2 q)) hf
  have fT:=I.fpOk (H':=H) (ar _) (I.hok.fresh (ar _))
  have tup2:h2.get? s.heap.objs.size=some { cls:=.type "tuple",data:=.seq #[.int i s.toks,u] }:=(sb2.2 _ szn).trans tup
  have I3:=I2.track (ho:=.tup [.int i,x]) fT ⟨by show 2<=sizeLine;decide,[.int i s.toks,u],.cons ⟨s.toks,rfl⟩ (.cons ru .nil),⟨_,tup2,rfl,0,rfl⟩⟩
  refine ⟨.ref s.heap.objs.size,_,I3,rfl,⟨_,fT.1,rfl,fun ys hy=>?_⟩,⟨⟨u,?_⟩,?_⟩,fun b hb=>?_⟩
  ·rw [I.list_inj hy hq];exact ⟨x,hx,rfl⟩
  ·have:(((i + 1:Nat):Int))=(i:Int) + 1:=by omega
   rw [this];exact e2
  ·obtain ⟨o,q,r⟩:=st1
   exact ⟨o,(sb2.2 it (db hei)).trans q,r⟩
  ·rw [bt]
   ·exact (hf b hb).1
   ·simp only [b9,aS,or_false] at hb
    rcases hb with z | z
    ·rw [z];exact aF he0
    ·rw [z];exact aF (aq ei)
 done:=by
  intro X hP hw hK hc i pins s σ H E I hf st hg
  subst hP hw hK
  obtain ⟨xs,hq,hx⟩:=hg
  obtain ⟨its,rv,p,hz⟩:=I.list hq
  obtain ⟨⟨old,he⟩,hit⟩:=st
  have hl:=rv.length
  refine wpAny_pyNext_enum_end (by simpa using I.ok.hd hc) he hit p.isList (by simp;omega) fun h' eb=>?_
  exact ⟨rfl,I.turnedL (t':=s.toks) (ch:=[e,it]) (fun b o hb q=>eb b o (by
   simp only [b9,aS,or_false,not_or] at hb;exact hb.2) q) hf⟩
 self:=fun _ _ _ _ _ st h=>let ⟨⟨_,q⟩,_⟩:=st;pV q h
def T0 (K:a8) (ta:TA):TI:=fun σ H R=>ta σ H fun vs H1=>∃ a xs,vs=[.ref a]/\lW K H1 a xs/\R (S_ K a) H1
theorem N9 {X:Cx}{elts:List aX}{x1}{tpos p pos:Pos}{a:aX}{ta:TA} (hg:Gl X "enumerate") (hm:X.mg "enumerate"=none) (ha:PA X [a] ta) (hs:aI [a] X.env=[(false,dE a X.env)]:=by rfl) :
  PI X (.Tuple elts x1 tpos) (.Call (.Name "enumerate" p) [a] [] pos) (T0 X.K ta):=by
 intro pins s σ H R I h
 refine Call_ (oA I hg hm boot_enumerate (cM (fk (ha pos pins s σ H _ I h) fun us s1 h1=>?_) hs rfl))
 obtain ⟨vs,H1,I1,r1,q1⟩:=h1
 obtain ⟨ad,xs,rfl,hq,q⟩:=q1
 obtain ⟨u,rfl,rx⟩:=kL r1
 cases rx
 obtain ⟨its,rv,tp,hz⟩:=I1.list hq
 refine call_enumerate_list tp.isList fun h' e1 t1 sz kp=>?_
 refine pV e1 ?_
 have I2:bP X pins σ H1 { s1 with heap:=h' }:=I1.kept (t':=s1.toks) kp
 refine ⟨s1.heap.objs.size + 1,[s1.heap.objs.size + 1,s1.heap.objs.size],_,_,H1,rfl,I2,Gv ad _ _ (eJ (dq _)),⟨⟨.none,e1⟩,t1⟩,fun b hb=>?_,q⟩
 simp only [b9,aS,or_false] at hb
 rcases hb with z | z
 ·rw [z];exact I1.fpOk (iI _) (I1.hok.fresh (iI _))
 ·rw [z];exact I1.fpOk (ar _) (I1.hok.fresh (ar _))
end L2
namespace J
open PySem L2
theorem Na {K:a8}{Hn Hs:Hp}{a:aj}{vs:List V}{ds:List D} (h:lW K Hn a vs) (r:RDs K Hs vs ds):JR K (S_ K a) (jx 0 ds) Hn Hs:=fun H2 Hs2 e1 e2 e3=>by
 have q:=e1.seq h
 have hl:=vD ds 0
 refine ⟨fun i hi=>?_,fun i hi=>⟨vs,q,by rw [r.length];omega⟩,fun i x H3 hi y=>?_⟩
 ·have hi':i<vs.length:=by rw [r.length];omega
  exact ⟨vs,vs[i],q,aN hi'⟩
 ·obtain ⟨p,hp,rfl,y⟩:=y
  obtain ⟨x,k0,rfl⟩:=y vs q
  obtain ⟨d,k1,k2⟩:=r.get k0
  have st:=cP.new (o:=.tup [.int i,x]) e3 hp
  refine ⟨.tuple [.int i,d],_,?_,st,.tuple bn (.cons (.int _) (.cons ((k2.same e2).same st.sh) .nil))⟩
  rw [vC,k1]
  simp
section
variable {c:C}{a:aX}{gs:aw->R (List D)}{p pos:Pos}
def P_:List D->R (List D)
 | [.list ds]=>.ok (jx 0 ds)
 | _=>.no
def Ee (gs:aw->R (List D)):aw->R (List D):=fun ρ=>(gs ρ).bind P_
theorem K1 {elts:List aX}{x1}{tpos:Pos} (hg:Gl c.X "enumerate") (hm:c.X.mg "enumerate"=none) (ha:FD c [a] gs) (hs:aI [a] c.X.env=[(false,dE a c.X.env)]:=by rfl):HM c (.Tuple elts x1 tpos) (.Call (.Name "enumerate" p) [a] [] pos) (Ee gs):=.of fun ρ=>FG (N9 hg hm (ha ρ) hs) fun σ H Q h_20=>by
 obtain ⟨H0,Hs0,la,Hs,f,q⟩:=h_20
 refine C1 f q fun ds vs H1 Hs1 e1 s1 f1 r1=>?_
 unfold Ee at q
 rw [e1,bind_ok] at q
 unfold P_ at q
 split at q
 ·obtain ⟨x,rfl,rx⟩:=r1.one
  cases rx with
  | list qa ra=>exact ⟨_,_,rfl,dH.seq f1.st.sub qa,q _ H1 Hs1 s1 (Na qa ra)⟩
 ·exact q.elim
end
end J
namespace L2
open PySem PySem.Spec PyProof.Rows
def WI (K:a8) (a:aj) (n:Nat):It :=
 ⟨fun i H=>i<n/\∃ xs,lW K H a xs/\xs.length=n,fun i H x H'=>H'=H/\∀ xs,lW K H a xs->xs.reverse[i]?=some x,fun i H=>n<=i⟩
theorem Ef {P:aM}{w:ba}{K:a8}{tg:aX} (a it:aj) (n:Nat):vk P w K tg (WI K a n) [it] it (fun i h=>h.IsRevIter it a ((n:Int) - 1 - i)/\i<=n) where
 mem:=by simp
 obj:=fun i h st b hb=>by
  have e:b=it:=by simpa using hb
  subst e
  obtain ⟨⟨o,e,c,d⟩,_⟩:=st
  exact ⟨o,e,fun v z=>by rw [d] at z;cases z⟩
 keep:=fun i h h' st k=>⟨st.1.at fun o e=>k it (by simp) o e,st.2⟩
 item:=by
  intro X hP hw hK hc i pins s σ H E I hf st hg
  subst hP hw hK
  obtain ⟨hi,xs,hq,hn⟩:=hg
  obtain ⟨st,_⟩:=st
  obtain ⟨its,rv,p,hz⟩:=I.list hq
  have hj:n - 1 - i<xs.length:=by omega
  obtain ⟨u,hu,ru⟩:=rv.get (aN hj)
  obtain ⟨f0,f1,f2,f3,f4,f5⟩:=hf it (by simp)
  have ej:((n:Int) - 1 - i)=((n - 1 - i:Nat):Int):=by omega
  rw [ej] at st
  refine wpAny_pyNext_rev_item st p.isList (x:=u) (by simpa using hu) fun h' st' sb=>?_
  have I1:bP X pins σ H { s with heap:=h' }:=I.turned (t':=s.toks) (fun b o hb e=>(sb.2 b hb).trans e) f0 f1 f3 f4 f5
  obtain ⟨o,e,c,d⟩:=id st'
  have ej2:(((n - 1 - i:Nat):Int) - 1)=((n:Int) - 1 - ((i + 1:Nat):Int)):=by omega
  rw [ej2] at st'
  refine ⟨u,rfl,AF (s:={ s with heap:=h' }) e c d (by decide) ⟨_,H,I1,ru,⟨rfl,fun ys hy=>?_⟩,⟨st',hi⟩,fun b hb=>(hf b hb).1⟩⟩
  rw [I.list_inj hy hq,List.getElem?_reverse (by omega),hn]
  exact aN hj
 done:=by
  intro X hP hw hK hc i pins s σ H E I hf st hg
  subst hP hw hK
  obtain ⟨st,hi⟩:=st
  obtain rfl:i=n:=Nat.le_antisymm hi hg
  obtain ⟨f0,f1,f2,f3,f4,f5⟩:=hf it (by simp)
  have ej:((i:Int) - 1 - i)=-1:=by omega
  rw [ej] at st
  exact wpAny_pyNext_rev_end (I.ok.hd hc) st fun h' eb=>⟨rfl,I.turned (t':=s.toks) (fun b o hb e=>eb b o hb e) f0 f1 f3 f4 f5⟩
 self:=fun _ _ _ _ _ st h=>wpAny_pyIter_revIter st.1 h
def WJ (K:a8) (ta:TA):TI:=fun σ H R=>ta σ H fun vs H1=>∃ a xs,vs=[.ref a]/\lW K H1 a xs/\R (WI K a xs.length) H1
theorem T1 {X:Cx}{tg:aX}{p pos:Pos}{a:aX}{ta:TA} (hg:Gl X "reversed") (hm:X.mg "reversed"=none) (ha:PA X [a] ta) (hs:aI [a] X.env=[(false,dE a X.env)]:=by rfl) :
  PI X tg (.Call (.Name "reversed" p) [a] [] pos) (WJ X.K ta):=by
 intro pins s σ H R I h
 refine Call_ (oA I hg hm boot_reversed (cM (fk (ha pos pins s σ H _ I h) fun us s1 h1=>?_) hs rfl))
 obtain ⟨vs,H1,I1,r1,q1⟩:=h1
 obtain ⟨ad,xs,rfl,hq,q⟩:=q1
 obtain ⟨u,rfl,rx⟩:=kL r1
 cases rx
 obtain ⟨its,rv,tp,hz⟩:=I1.list hq
 refine call_reversed_list tp.isList ?_
 have hsz:(its.toArray.size:Int) - 1=(xs.length:Int) - 1 - ((0:Nat):Int):=by
  rw [aP,<- rv.length];omega
 have st:(s1.heap.push (revObj ad ((its.toArray.size:Int) - 1))).IsRevIter s1.heap.objs.size ad ((xs.length:Int) - 1 - ((0:Nat):Int)):=by
  rw [<- hsz]
  exact ⟨_,ax _ rfl,rfl,rfl⟩
 have I2:bP X pins σ H1 { s1 with heap:=s1.heap.push (revObj ad ((its.toArray.size:Int) - 1)) }:=I1.kept (t':=s1.toks) fun b o e=>af _ e
 refine (Ef (P:=X.prog) (w:=X.w) (K:=X.K) (tg:=tg) ad s1.heap.objs.size xs.length).self _ 0 _ _ _ ⟨st,cE _⟩ ?_
 refine ⟨s1.heap.objs.size,[s1.heap.objs.size],_,_,H1,rfl,I2,Ef ad _ xs.length,⟨st,cE _⟩,fun b hb=>?_,q⟩
 rw [List.mem_singleton.mp hb]
 exact I1.fpOk (ar _) (I1.hok.fresh (ar _))
end L2
namespace J
open PySem L2
theorem T2 {K:a8}{Hn Hs:Hp}{a:aj}{vs:List V}{ds:List D} (h:lW K Hn a vs) (r:RDs K Hs vs ds):JR K (WI K a vs.length) ds.reverse Hn Hs:=fun H2 Hs2 e1 e2 e3=>by
 have q:=e1.seq h
 have hl:=r.length
 refine ⟨fun i hi=>?_,fun i hi=>?_,fun i x H3 hi y=>?_⟩
 ·rw [eZ] at hi
  exact ⟨by omega,vs,q,rfl⟩
 ·rw [eZ] at hi
  show vs.length<=i
  omega
 ·obtain ⟨rfl,y⟩:=y
  obtain ⟨d,k1,k2⟩:=r.reverse.get (y vs q)
  exact ⟨d,Hs2,k1,.refl e3,k2.same e2⟩
section
variable {c:C}{tg a:aX}{gs:aw->R (List D)}{p pos:Pos}
def Q0:List D->R (List D)
 | [.list ds]=>.ok ds.reverse
 | _=>.no
def Eg (gs:aw->R (List D)):aw->R (List D):=fun ρ=>(gs ρ).bind Q0
theorem Iu (hg:Gl c.X "reversed") (hm:c.X.mg "reversed"=none) (ha:FD c [a] gs) (hs:aI [a] c.X.env=[(false,dE a c.X.env)]:=by rfl):HM c tg (.Call (.Name "reversed" p) [a] [] pos) (Eg gs):=.of fun ρ=>FG (T1 hg hm (ha ρ) hs) fun σ H Q h_20=>by
 obtain ⟨H0,Hs0,la,Hs,f,q⟩:=h_20
 refine C1 f q fun ds vs H1 Hs1 e1 s1 f1 r1=>?_
 unfold Eg at q
 rw [e1,bind_ok] at q
 unfold Q0 at q
 split at q
 ·obtain ⟨x,rfl,rx⟩:=r1.one
  cases rx with
  | list qa ra=>exact ⟨_,_,rfl,dH.seq f1.st.sub qa,q _ H1 Hs1 s1 (T2 qa ra)⟩
 ·exact q.elim
end
end J
namespace J
open PySem L2
theorem Nb {c:C}{s:cA}:JS c s (fun _=>.no):=.of fun ρ pins s σ H D I h=>by
 obtain ⟨H0,Hs0,la,Hs,f,q⟩:=h
 exact q.elim
end J
end
namespace J
open PySem L2 PyProof.Rows
section
structure En where
 P:aM
 w:ba
 K:a8
 mg:Str->Option ac
 base:bB
 cls:Str->aj
abbrev FN (e:En):=Fn e.P e.w e.K e.mg e.base e.cls
abbrev ER (e:En):=Er e.mg e.base e.cls
abbrev Cn (mg:Str->Option ac) (x:Str) (n:Int):Prop:=∃ t,mg x=some (.int n t)
structure fH (K:a8) (mg:Str->Option ac) (x:Str) (st:cA):Prop where
 ex:∃ f fd,Jt K x x st f fd/\mg x=some (.ref f)
section
variable {K:a8}{h:bB}{mg:Str->Option ac}{x:Str}
theorem d_in {st:cA}{A:aj}{od an:Option aj}{sl:Array (Option ac)}{oc kV dc pm cv ct:ac} (X:K.In h) (G:h.Ns bY mg) (a:gI K bY x=some (some (.ref A)))
  (l:K.lookup A=some ⟨oc,od,.func (fJ x x (mQ st) (ju st) (aC st) .none kV dc pm an cv ct),sl⟩) (c:lT K cv x=true) (k:js K (.ref A)=true):fH K mg x st :=
 ⟨_,_,LG l c k,rQ X G a⟩
theorem cn_in {n:Int}{tk:Tok} (X:K.In h) (G:h.Ns bY mg) (t:gI K bY x=some (some (.int n tk))):Cn mg x n:=⟨_,rQ X G t⟩
inductive Zs (K:a8):List Str->Prop
 | nil:Zs K []
 | cons {x:Str}{r:List Str}:gI K bY x=some none->Zs K r->Zs K (x::r)
theorem Zs.get {r:List Str} (z:Zs K r):∀ x∈r,gI K bY x=some none:=by
 induction z with
 | nil=>exact fun _ h=>nomatch h
 | cons a _ ih =>
  intro y hy
  rcases List.mem_cons.mp hy with e | e
  ·rw [e];exact a
  ·exact ih y e
abbrev zn:List Str:=["len","isinstance","all","any","zip","tuple","list","sorted","set","range","enumerate","dict","sum","max","min","reversed","str","int","bool","ValueError"]
theorem V5 (X:K.In h) (G:h.Ns bY mg) (z:Zs K zn):Bi mg:=by
 have q:∀ x∈zn,mg x=none:=fun x hx=>PySem.W.mg_none_of X G (z.get x hx)
 exact ⟨q _ (by decide),q _ (by decide),q _ (by decide),q _ (by decide),q _ (by decide),q _ (by decide),q _ (by decide),q _ (by decide),q _ (by decide),q _ (by decide),q _ (by decide),q _ (by decide),q _ (by decide),q _ (by decide),q _ (by decide),q _ (by decide),q _ (by decide),q _ (by decide),q _ (by decide)⟩
end
section
variable {P:aM}{w:ba}{K:a8}{mg:Str->Option ac}{base:bB}{N:List Str}{qual:Str}{scope:eO}{f:aj}{cd:ac}{A:bv}{outer:List Env}{s:ag}{H:Hp}{E:XK}
theorem px:sx (qk P w) (jN (qk P w) P w K mg base N qual scope f cd A outer s H E) E:=DH fun _ _ h=>h
end
section
variable {c:C}{x y:Str}{e:aX}{es:List aX}{gs:aw->R (List D)}{p q pos:Pos}
theorem jc {k j n:Nat}{F:List D->R D} (G:Fn c.X.prog c.X.w c.X.K c.X.mg c.X.base c.cls x k n F) (hr:lX j c.X.A) (hx:sx (qk c.X.prog c.X.w) c.X c.E) (ha:FD c (e::es) gs)
  (hk:k<=j:=by decide) (hg:Gl c.X x:=by exact rfl) (hdb:(x == ("__debug__" : Str))=false:=by decide) (he:aI (e::es) c.X.env=(false,dE e c.X.env)::aI es c.X.env:=by rfl) (hpl:(j4 pos (aI es c.X.env)).any (·.1)=false:=by rfl) :
  JE c (.Call (.Name x p) (e::es) [] pos) (dg n F gs):=PH G (hr.mono hk) hg hx ha hdb he hpl
end
abbrev Bq (x:Str) (st:cA) (us:List ac) (r:List (Str×ac)):Prop:=∀ (kV doc pm:ac) (an:Option aj) (cdv ct:ac),bindArgs (fJ x x (mQ st) (ju st) (aC st) .none kV doc pm an cdv ct) ⟨us,[]⟩=pure r
section
variable {K:a8}{x:Str}{st:cA}{f:aj}{fd:fz}
theorem b1 {a:Str} (F:Jt K x x st f fd) (h:∀ u,Bq x st [u] [(a,u)]:=by exact fun _ _ _ _ _ _ _=>rfl):nT K fd [a] []:=F.binds fun _ _ _ _ _ _ us hl=>by obtain ⟨_,rfl⟩:=XB hl;exact h ..
theorem b2 {a b:Str} (F:Jt K x x st f fd) (h:∀ u v,Bq x st [u,v] [(a,u),(b,v)]:=by exact fun _ _ _ _ _ _ _ _=>rfl):nT K fd [a,b] []:=F.binds fun _ _ _ _ _ _ us hl=>by obtain ⟨_,_,rfl⟩:=XC hl;exact h ..
theorem b3 {a b c:Str} (F:Jt K x x st f fd) (h:∀ u v w,Bq x st [u,v,w] [(a,u),(b,v),(c,w)]:=by exact fun _ _ _ _ _ _ _ _ _=>rfl):nT K fd [a,b,c] []:=F.binds fun _ _ _ _ _ _ us hl=>by obtain ⟨_,_,_,rfl⟩:=XD hl;exact h ..
theorem b4 {a b c d:Str} (F:Jt K x x st f fd) (h:∀ u v w z,Bq x st [u,v,w,z] [(a,u),(b,v),(c,w),(d,z)]:=by exact fun _ _ _ _ _ _ _ _ _ _=>rfl):nT K fd [a,b,c,d] []:=F.binds fun _ _ _ _ _ _ us hl=>by obtain ⟨_,_,_,_,rfl⟩:=XE hl;exact h ..
theorem b5 {a b c d e:Str} (F:Jt K x x st f fd) (h:∀ u v w z y,Bq x st [u,v,w,z,y] [(a,u),(b,v),(c,w),(d,z),(e,y)]:=by exact fun _ _ _ _ _ _ _ _ _ _ _=>rfl):nT K fd [a,b,c,d,e] []:=F.binds fun _ _ _ _ _ _ us hl=>by obtain ⟨_,_,_,_,_,rfl⟩:=XF hl;exact h ..
end
theorem mW {e:En}{x:Str}{st:cA}{N ps:List Str}{k:Nat}{g:aw->R Fl} (D:fH e.K e.mg x st) (S:bD N ps (aC st)) (b:∀ {f:aj}{fd:fz},Jt e.K x x st f fd->nT e.K fd ps [])
  (h:∀ (f:aj) (cdv:ac) (A:bv) (outer:List Env) (s:ag) (H:Hp) (E:XK),lX k (A.deeper (si x (aC st) s.heap.objs.size f cdv))->HL ⟨jN (qk e.P e.w) e.P e.w e.K e.mg e.base N x (aC st) f cdv A outer s H E,e.cls,E⟩ (ju st) g) :
  FN e x (k + 1) ps.length (eC N.length g):=by
 obtain ⟨f,fd,F,hm⟩:=D.ex
 exact UJ F S hm (b F) (h f)
def Xq (N P:List Str) (sc:eO):Bool:=decide (sc.kind=.function) && !sc.isCoroutine && !sc.isGenerator && decide N.Nodup && decide (N.take P.length=P) && P.all (fun x=>decide (sc.names.lookup x=some .local) || decide (sc.names.lookup x=some .cell)) && sc.names.all fun y=>decide (y.2≠.free)
theorem dm {N P:List Str}{sc:eO} (h:Xq N P sc=true):bD N P sc:=by
 unfold Xq at h
 simp only [aQ,decide_eq_true_eq,wt,ck,hV] at h
 obtain ⟨⟨⟨⟨⟨⟨a,b⟩,c⟩,d⟩,e⟩,f⟩,g⟩:=h
 exact ⟨a,b,c,d,e,f,g⟩
structure Cw (K:a8) (x:Str) (C:aj):Prop where
 ns:gI K bY x=some (some (.ref C))
 cl:∃ cd,zX K C=some cd
 ty:Lg K (.ref C)=some (.type "type")
theorem cw_in {K:a8}{x:Str}{C:aj}{cd:ClassData} (a:gI K bY x=some (some (.ref C))) (i:zX K C=some cd) (y:Lg K (.ref C)=some (.type "type")):Cw K x C:=⟨a,⟨_,i⟩,y⟩
inductive Sb (K:a8) (C:aj):List (aj×Bool)->Prop
 | nil:Sb K C []
 | cons {D:aj}{b:Bool}{l:List (aj×Bool)}:Ou K (.ref C) (.ref D)=some b->(b=false->C≠D)->Sb K C l->Sb K C ((D,b)::l)
structure Wy (K:a8) (C CP:aj) (l:List (aj×Bool)):Prop where
 x1:lS K (.ref C) "__getattribute__"=some (some (.builtin "BaseException.__getattribute__"))
 x2:lS K (.ref C) "__getattr__"=some none
 x3:lS K (.ref C) "__class__"=some (some (.builtin "object.__class__"))
 x4:Hl K (.builtin "object.__class__") "__get__"=some (some (.builtin "getset_descriptor.__get__"))
 x5:KM K (.builtin "object.__class__")=some true
 x6:fP K C (.type "object")=some true
 x7:fP K C (.ref CP)=some true
 x8:Ou K (.ref C) (.type "ValueError")=some true
 x9:(bX CP == bX C)=false
 sb:Sb K C l
end
end J
section
namespace L2
open PySem PySem.Spec PyProof.Rows
section
variable {prog:aM}{w:ba}{A:bv}{E:ac->ag->Prop}{s:ag}{it d:aj}{i n ep:Nat}{o:Obj}{es:Array By}
theorem Q1 {Q:Option ac->ag->Prop}{e:By} (hit:s.heap.IsKeyIter it d i es.size ep) (hd:s.heap.get? d=some o) (ho:o.data=.dict es ep) (he:es[i]?=some e)
  (h:∀ h':bB,h'.IsKeyIter it d (i + 1) es.size ep->bH it s.heap h'->Q (some e.key) { s with heap:=h' }) :
  au (aO prog w) A (jr (.ref it)) Q E s:=by
 obtain ⟨⟨c0,d0,dt,sl⟩,q1,q2,q3⟩:=id hit
 simp only at q2 q3
 subst q2 q3
 unfold jr
 refine a7 (mC ?_)
 refine cj (name:=fZ "__next__") hit.typeIs fm ?_
 refine c6 fm hit.typeIs rR ?_ (rH _)
 refine a7 (eQ (a:=.ref it) rfl ?_)
 refine a7 (a7 (a7 (i7 hit.typeIs (ae ?_))))
 refine a7 (FR q1 rfl ?_)
 show au _ _ (if (bX d == dW)=true then _ else _) _ _ s
 rw [if_neg (by simp)]
 refine a7 (eQ (a:=d) rfl ?_)
 refine a7 (zY hd ho ?_)
 show au _ _ (if ((es.size:Int) != (es.size:Int))=true then _ else _) _ _ s
 rw [if_neg (by simp)]
 refine a7 (eQ (a:=d) rfl ?_)
 refine a7 (Dg hd ho ?_)
 show au _ _ (if ((ep:Int) != (ep:Int))=true then _ else _) _ _ s
 rw [if_neg (by simp)]
 refine ae ?_
 have e0:(if (i:Int)<0 then none else es[(i:Int).toNat]?)=some e:=by
  rw [if_neg (by omega)]
  simpa using he
 simp only [e0]
 refine a7 (a7 (i7 hit.typeIs (ae ?_)))
 refine a7 (Ov hit.typeIs ?_)
 refine a7 (fQ q1 rfl (by simp [lN]) ?_)
 have st:∀ k x,k=1->x=cc ((i:Int) + 1)->(s.heap.update it (dY (·.setIfInBounds k x))).IsKeyIter it d (i + 1) es.size ep:=fun k x hk hx=>by
  subst hk hx
  have q:=fE (dY (·.setIfInBounds 1 (cc ((i:Int) + 1)))) q1 rfl
  refine ⟨_,q,rfl,?_⟩
  show Hk ((#[.ref d,.int i 0,.int es.size 0,.int ep 0] : Array ac).setIfInBounds 1 (cc ((i:Int) + 1)))=_
  simp [cc]
 have st1:=st _ _ rfl rfl
 refine a7 (cX (a7 (Ov st1.typeIs ?_)))
 refine ae ?_
 exact ae ⟨_,rfl,ae (h _ st1 (bF ..))⟩
theorem T3 {Q:Option ac->ag->Prop} (hh:A.handled=none) (hit:s.heap.IsKeyIter it d i es.size ep) (hd:s.heap.get? d=some o) (ho:o.data=.dict es ep) (he:es.size<=i)
  (h:∀ h':bB,Ho it s.heap h'->Q none { s with heap:=h' }) :
  au (aO prog w) A (jr (.ref it)) Q E s:=by
 obtain ⟨⟨c0,d0,dt,sl⟩,q1,q2,q3⟩:=id hit
 simp only at q2 q3
 subst q2 q3
 unfold jr
 refine a7 (mC ?_)
 refine cj (name:=fZ "__next__") hit.typeIs fm ?_
 refine c6 fm hit.typeIs rR ?_ (rH _)
 refine a7 (eQ (a:=.ref it) rfl ?_)
 refine a7 (a7 (a7 (i7 hit.typeIs (ae ?_))))
 refine a7 (FR q1 rfl ?_)
 show au _ _ (if (bX d == dW)=true then _ else _) _ _ s
 rw [if_neg (by simp)]
 refine a7 (eQ (a:=d) rfl ?_)
 refine a7 (zY hd ho ?_)
 show au _ _ (if ((es.size:Int) != (es.size:Int))=true then _ else _) _ _ s
 rw [if_neg (by simp)]
 refine a7 (eQ (a:=d) rfl ?_)
 refine a7 (Dg hd ho ?_)
 show au _ _ (if ((ep:Int) != (ep:Int))=true then _ else _) _ _ s
 rw [if_neg (by simp)]
 refine ae ?_
 have e0:(if (i:Int)<0 then none else es[(i:Int).toNat]?)=none:=by
  rw [if_neg (by omega)]
  simpa using he
 simp only [e0]
 refine a7 (a7 (i7 hit.typeIs (ae ?_)))
 refine a7 (fQ q1 rfl (by simp [lN]) ?_)
 show au _ _ (sj (.type "StopIteration") [] >>= _) _ _ _
 refine a7 ?_
 simp only [sj,OK]
 refine a7 (bS ?_ (by size_fits))
 refine a7 (m:=l5 _ _) (eQ (a:=dW) ?_ ?_)
 ·first
   | rfl
   | (simp only [l5];rfl)
 refine bS ?_ (by size_fits)
 simp only [rE]
 refine a7 (Ja ?_)
 rw [show A.in1.handled=none from hh]
 refine a7 (ae (OL ?_))
 refine a7 (gZ (T:="StopIteration") (b:=true) ⟨_,ax _ rfl,rfl⟩ vg ?_)
 exact ae (h _ (((bF ..).extBut.push _).push _))
theorem T4 {Q:ac->ag->Prop} (hs:(d == fN)=false) (hd:s.heap.get? d=some o) (hx:o.ExactDict) (ho:o.data=.dict es ep)
  (h:Q (.ref s.heap.objs.size) { s with heap:=s.heap.push { cls:=.type "dict_keyiterator",data:=.fields #[.ref d,.int 0 0,.int es.size 0,.int ep 0] } }) :
  au (aO prog w) A (v9 (.ref d)) Q E s:=by
 have ty:s.TypeIs (.ref d) "dict":=⟨o,hd,hx.1⟩
 refine zS ty BB (c6 BB ty PySem.F.entry_dict_iter ?_ (PySem.F.args_dict_iter_1 _))
 refine a7 (a7 (Ot ty (a7 (eQ (a:=(bX d,[])) rfl (ae ?_)))))
 refine a7 (eQ (a:=d) rfl ?_)
 refine a7 (eQ (a:=()) (by unfold Builtin.Dict.showsAll;rw [hs];rfl) ?_)
 refine a7 (zY hd ho ?_)
 refine a7 (Dg hd ho ?_)
 refine a7 (bS ?_ (by size_fits))
 exact ae ⟨_,rfl,"dict_keyiterator",_,⟨_,ax _ rfl,rfl⟩,PySem.F.slot_dict_keyiterator_next.lookup,h⟩
end
def WK (a:aj) (o:Obj) (kvs:List (List dv×V)):It :=
 ⟨fun i H=>H a=some (.frz o (.dT kvs))/\i<kvs.length,fun i H x H'=>H'=H/\∃ k v b,kvs[i]?=some (k,v)/\x=.ref b/\H b=some (.tup (k.map kV)),fun i H=>H a=some (.frz o (.dT kvs))/\kvs.length<=i⟩
theorem K2 {α β:Type}{F:α->β->Prop}{l:List α}{m:List β} (h:FH F l m):∀ {i:Nat}{x:α},l[i]?=some x->∃ y,m[i]?=some y/\F x y:=by
 induction h with
 | nil=>intro i x e;simp at e
 | cons a _ ih =>
  intro i x e
  cases i with
  | zero=>cases e;exact ⟨_,rfl,a⟩
  | succ i=>exact ih e
theorem yx {P:aM}{w:ba}{H:Hp}{h:bB}{a:aj}{o:Obj}{kvs:List (List dv×V)} (ok:pP P w H h) (e:H a=some (.frz o (.dT kvs))):(a == fN)=false/\h.get? a=some o/\o.ExactDict/\∃ es ep,o.data=.dict es ep/\es.size=kvs.length /\
  ∀ (i:Nat) (k:List dv) (v:V),kvs[i]?=some (k,v)->∃ (en:By) (b:aj),es[i]?=some en/\en.key=bX b/\H b=some (.tup (k.map kV)):=by
 obtain ⟨h0,z,y,xs,r,o',es,ep,h1,h2,h3,h4,h5⟩:=(show dA P w H h a (.frz o (.dT kvs)) from ok a _ e)
 rw [h0] at h1
 cases h1
 refine ⟨y,h0,h2,es,ep,h3,?_,fun i k v hk=>?_⟩
 ·rw [<- av,h4,ao]
  exact (iY r).symm
 ·obtain ⟨q,q1,q2⟩:=K2 r hk
  refine ⟨entryOfKey (rA (dw P w)) q,q.2.1,?_,?_,q2.2.1⟩
  ·rw [<- dD,h4,aZ,q1]
   rfl
  ·rfl
theorem K3 {P:aM}{w:ba}{K:a8}{tg:aX}{a it:aj}{o:Obj}{kvs:List (List dv×V)}{es:Array By}{ep:Nat} (hd:o.data=.dict es ep) (hn:es.size=kvs.length) :
  vk P w K tg (WK a o kvs) [it] it (fun i h=>h.IsKeyIter it a i es.size ep) where
 mem:=by simp
 obj:=fun i h st b hb=>by
  have e:b=it:=by simpa using hb
  subst e
  obtain ⟨o,e,c,d⟩:=st
  exact ⟨o,e,fun v z=>by rw [d] at z;cases z⟩
 keep:=fun i h h' st k=>st.at fun o e=>k it (by simp) o e
 item:=by
  intro X hP hw hK hc i pins s σ H E I hf st hg
  subst hP hw hK
  obtain ⟨hq,hi⟩:=hg
  obtain ⟨_,g1,_,es',ep',g2,g3,g4⟩:=yx I.hok hq
  rw [hd] at g2
  cases g2
  obtain ⟨en,b,e1,e2,e3⟩:=g4 i _ _ (aN hi)
  obtain ⟨f0,f1,f2,f3,f4,f5⟩:=hf it (by simp)
  refine Q1 st g1 hd e1 fun h' st' sb=>?_
  have I1:bP X pins σ H { s with heap:=h' }:=I.turned (t':=s.toks) (fun b o hb e=>(sb.2 b hb).trans e) f0 f1 f3 f4 f5
  obtain ⟨o',e,c,d⟩:=id st'
  refine ⟨_,rfl,AF (s:={ s with heap:=h' }) e c d (by decide) ⟨.ref b,H,I1,?_,⟨rfl,_,_,b,aN hi,rfl,e3⟩,st',fun b hb=>(hf b hb).1⟩⟩
  rw [e2]
  rfl
 done:=by
  intro X hP hw hK hc i pins s σ H E I hf st hg
  subst hP hw hK
  obtain ⟨hq,hi⟩:=hg
  obtain ⟨_,g1,_,es',ep',g2,g3,g4⟩:=yx I.hok hq
  obtain ⟨f0,f1,f2,f3,f4,f5⟩:=hf it (by simp)
  exact T3 (I.ok.hd hc) st g1 hd (by omega) fun h' eb=>⟨rfl,I.turned (t':=s.toks) (fun b o hb e=>eb b o hb e) f0 f1 f3 f4 f5⟩
 self:=fun _ _ _ _ _ st h=>wpAny_pyIter_keyiter st h
def V6 (tl:TE):TI:=fun σ H R=>tl σ H fun x H1=>∃ a o kvs,x=.ref a/\H1 a=some (.frz o (.dT kvs))/\R (WK a o kvs) H1
theorem Q2 {X:Cx}{tg l:aX}{tl:TE} (hl:PE X l tl):PI X tg l (V6 tl):=by
 intro pins s σ H R I h
 refine fk (hl pins s σ H _ I h) fun v s1 h1=>?_
 obtain ⟨x,H1,I1,r1,q1⟩:=h1
 obtain ⟨a,o,kvs,e,hq,q⟩:=q1
 subst e
 cases r1
 obtain ⟨y,g1,g0,es,ep,g2,g3,g4⟩:=yx I1.hok hq
 refine T4 y g1 g0 g2 ?_
 refine ⟨s1.heap.objs.size,[s1.heap.objs.size],_,_,H1,rfl,I1.kept (t':=s1.toks) fun b o e=>af _ e,K3 g2 g3,⟨_,ax _ rfl,rfl,rfl⟩,fun b hb=>?_,q⟩
 rw [List.mem_singleton.mp hb]
 exact I1.fpOk (ar _) (I1.hok.fresh (ar _))
def XG (tk tv:TE):TE:=fun σ H Q=>∀ p,H p=none->tk σ (upd H p (.dT [])) fun y H1=>tv σ H1 fun v H2=>∃ kvs k b,H2 p=some (.dT kvs)/\y=.ref b/\H2 b=some (.tup (k.map kV))/\kvs.length<sizeLine/\Q (.ref p) (upd H2 p (.dT (mF kvs k v)))
theorem Nc {X:Cx}{k v:aX}{pos:Pos}{tk tv:TE} (hu:X.A.units + 1<kX) (hk:PE X k tk) (hv:PE X v tv):PE X (.Dict [some k] [v] pos) (XG tk tv):=by
 intro pins s σ H Q I h
 refine wpAny_Dict_any rfl rfl (by simp) (by simp) ?_
 have I0:bP X pins σ (upd H s.heap.objs.size (.dT [])) { s with heap:=s.heap.push { cls:=.type "dict",data:=.dict #[] } }:=I.laid (a:=s.heap.objs.size) (o:=.dT []) (t':=s.toks) (fun _ _ q=>af _ q) (ar _) (LJ s.heap I.big)
 have h0:=h s.heap.objs.size (I.hok.fresh (ar _))
 simp only [pairTrees,evalPairs]
 refine a7 (fk (hk pins _ σ _ _ I0 h0) fun u1 s1 h1=>?_)
 obtain ⟨y,H1,I1,r1,q1⟩:=h1
 refine a7 (cX (a7 (fk (hv pins s1 σ H1 _ I1 q1) fun u2 s2 h2=>?_)))
 obtain ⟨z,H2,I2,r2,q2⟩:=h2
 obtain ⟨kvs,ks,b,e1,e2,e3,e4,q⟩:=q2
 refine a7 (iC (ae ?_))
 refine a7 (cX (ae (ae ?_)))
 subst e2
 cases r1
 unfold storeAll
 simp only [jl,mJ,bind_assoc]
 obtain ⟨z1,hd,xs,rel,dd⟩:=QT I2.hok e1
 have hz:xs.length<=sizeLine:=by rw [<- iY rel];exact z1
 have hl:(mF kvs ks z).length<=sizeLine:=by have:=qi kvs ks z;omega
 refine a7 (wpAny_dictSet_heap (by show X.A.units<kX;omega) (vp I2.hok e3) dd (fun h' dd' hs=>?_) hz)
 obtain ⟨o',es,ep,hq,g2,g3,g4,_,g5⟩:=dd'
 have I3:=BN (t':=s2.toks + (rA (dw X.prog X.w)).draws ks) I2 (by rw [e1];exact iE) hs ⟨o',hq⟩ (ob:=.dT (mF kvs ks z)) ⟨hl,hd,_,(rel.put ks e3 r2).keeps fun c ys ec=>(by rw [bt (Lj ec e1 (fun z=>nomatch z))];exact ec),o',es,ep,hq,g2,g3,g4,g5⟩
 exact ae ⟨.ref s.heap.objs.size,_,I3,rfl,q⟩
end L2
namespace J
open PySem L2
def keysOf:List D->Option (List dv)
 | []=>some []
 | d::r=>(qu d).bind fun k=>(keysOf r).map (k::·)
def pI:D->Option (List dv)
 | .tuple ds=>keysOf ds
 | _=>none
theorem B3:∀ {ds:List D}{ks:List dv},keysOf ds=some ks->ds=ks.map kD
 | [],ks,h=>by cases h;rfl
 | d::r,ks,h=>by
  unfold keysOf at h
  cases hk:qu d with
  | none=>rw [hk] at h;cases h
  | some y =>
   rw [hk,ku] at h
   cases hr:keysOf r with
   | none=>rw [hr] at h;cases h
   | some l =>
    rw [hr] at h
    cases h
    rw [aB,<- yh hk,<- B3 hr]
theorem ux {d:D}{ks:List dv} (h:pI d=some ks):d=tD ks:=by
 cases d<;>first | (cases h;done) | skip
 rename_i ds
 unfold tD
 rw [<- B3 (show keysOf ds=some ks from h)]
theorem B4:∀ ks:List dv,keysOf (ks.map kD)=some ks
 | []=>rfl
 | k::r=>by rw [aB,keysOf,keyOf_of,B4 r];rfl
theorem Nd (ks:List dv):pI (tD ks)=some ks:=B4 ks
theorem Iv:∀ a b:List dv,ev (a.map kD) (b.map kD)=decide (a=b)
 | [],[]=>by simp [ev]
 | [],_::_=>by simp [ev]
 | _::_,[]=>by simp [ev]
 | x::a,y::b=>by
  rw [aB,aB]
  simp only [ev]
  rw [Cb,Iv a b]
  by_cases h:x=y<;>by_cases h2:a=b<;>simp [h,h2]
theorem Ci (a b:List dv):a_ (tD a) (tD b)=decide (a=b):=by
 unfold tD
 simp only [a_]
 exact Iv a b
theorem RDt.any {K:a8}{H:Hp}{kvs:List (List dv×V)} (y:List dv):∀ {ds:List (D×D)},RDt K H kvs ds->(ds.any fun kv=>a_ kv.1 (tD y))=kvs.any fun kv=>decide (kv.1=y):=by
 induction kvs with
 | nil=>intro ds h;cases h;rfl
 | cons x r ih=>intro ds h;cases h with | cons h t=>rw [dX,dX,ih t,Ci]
theorem RDt.repl {K:a8}{H:Hp} (y:List dv) {v:V}{d:D} (rv:RD K H v d) {kvs:List (List dv×V)}:∀ {ds:List (D×D)},RDt K H kvs ds ->
  RDt K H (kvs.map fun kv=>if kv.1=y then (kv.1,v) else kv) (ds.map fun kv=>if a_ kv.1 (tD y) then (kv.1,d) else kv):=by
 induction kvs with
 | nil=>intro ds h;cases h;exact .nil
 | cons x r ih =>
  intro ds h
  cases h with
  | @cons k _ _ _ _ h t =>
   rw [aB,aB]
   have e:=Ci k y
   by_cases hk:k=y
   ·subst hk
    rw [show (if k=k then (k,v) else (k,_))=(k,v) from if_pos rfl,show (if a_ (tD k) (tD k)=true then (tD k,d) else (tD k,_))=(tD k,d) from if_pos (by rw [e];simp)]
    exact .cons rv (ih t)
   ·simp only [e,hk,if_neg,decide_false,bJ,not_false_eq_true]
    exact .cons h (ih t)
theorem RDt.snoc {K:a8}{H:Hp} (y:List dv) {v:V}{d:D} (rv:RD K H v d) {kvs:List (List dv×V)}:∀ {ds:List (D×D)},RDt K H kvs ds->RDt K H (kvs++[(y,v)]) (ds++[(tD y,d)]):=by
 induction kvs with
 | nil=>intro ds h;cases h;exact .cons rv .nil
 | cons x r ih=>intro ds h;cases h with | cons h t=>exact .cons h (ih t)
theorem RDt.put {K:a8}{H:Hp}{kvs:List (List dv×V)}{ds:List (D×D)} (r:RDt K H kvs ds) (y:List dv) {v:V}{d:D} (rv:RD K H v d):RDt K H (mF kvs y v) (vE ds (tD y) d):=by
 unfold mF vE
 rw [r.any y]
 split
 ·exact r.repl y rv
 ·exact r.snoc y rv
theorem T5 {κ:Type} [DecidableEq κ] {kvs:List (κ×V)}{y:κ}{v:V}:mF kvs y v≠[]:=by
 unfold mF
 split
 ·rename_i h
  intro z
  have:=List.map_eq_nil_iff.mp z
  subst this
  cases h
 ·simp
theorem RDt.val {K:a8}{H:Hp}{kvs:List (List dv×V)} (y:List dv):∀ {ds:List (D×D)},RDt K H kvs ds->(nV kvs y=none/\lu ds (tD y)=none)\/∃ v d,nV kvs y=some v/\lu ds (tD y)=some d/\RD K H v d:=by
 induction kvs with
 | nil=>intro ds h;cases h;exact .inl ⟨rfl,rfl⟩
 | cons x r ih =>
  intro ds h
  cases h with
  | @cons k _ _ _ _ h t =>
   unfold nV lu
   rw [bN,bN,Ci]
   by_cases hk:k=y
   ·simp only [hk,decide_true,c_]
    exact .inr ⟨_,_,rfl,rfl,h⟩
   ·simp only [hk,decide_false]
    exact ih t
def Iw:List (D×D)->List (D×D)
 | (.none,_)::r=>r
 | l=>l
def jA (ds:List (D×D)):Bool:=!ds.isEmpty && ds.all fun kv=>(pI kv.1).isSome
theorem RDk.notT {K:a8}{H:Hp}{kvs:List (dv×V)}{ds:List (D×D)} (h:RDk K H kvs ds) (e:jA (Iw ds)=true):False:=by
 cases h with
 | nil=>cases e
 | @cons k _ _ _ _ h t =>
  cases k<;>simp [Iw,jA,kD,pI] at e
theorem RDt.un {K:a8}{H:Hp}{kvs:List (List dv×V)}{ds:List (D×D)} (h:RDt K H kvs ds):Iw ds=ds:=by
 cases h<;>rfl
theorem xv {K:a8}{H Hs:Hp}{v:V}{ks:List dv} (sub:dH Hs H) (h:RB K H Hs v (tD ks)):∃ b,v=.ref b/\H b=some (.tup (ks.map kV)):=by
 rcases h with h | ⟨_,o,rfl,_,_,ow⟩
 ·cases h with
  | tuple q r =>
   have:=xr (c:=kD) (k:=kV) (fun h=>Gp h) r
   subst this
   exact ⟨_,rfl,sub _ _ q⟩
 ·cases ow
theorem Ix {K:a8}{H Hs:Hp}{v:V}{ds:List (D×D)} (sub:dH Hs H) (h:RB K H Hs v (.dict ds)) (e:jA (Iw ds)=true):∃ a kvs,v=.ref a/\RDt K Hs kvs (Iw ds)/\∀ (b:aj) (k:List dv),H b=some (.tup (k.map kV))->wW H a (.ref b) (nV kvs k):=by
 obtain ⟨a,ea,hh⟩:=h.dict sub
 clear h
 subst ea
 rcases hh with ⟨kvs,h1,h2⟩ | ⟨kvs,h1,hn,h2⟩ | ⟨o,kvs,es,rfl,h1,hn,h2⟩
 ·exact (h2.notT e).elim
 ·exact ⟨a,kvs,rfl,by rw [h2.un];exact h2,fun b k hb=>wW.t h1 hb⟩
 ·exact ⟨a,kvs,rfl,h2,fun b k hb=>.inr ⟨kvs,k,b,.inr ⟨o,h1⟩,rfl,hb,rfl⟩⟩
def wB:D->D->R D
 | .dict ds,k=>match pI k with
  | some _=>if jA (Iw ds)=true then (match lu (Iw ds) k with
   | some d=>.ok d
   | none=>.no) else .no
  | none=>.no
 | _,_=>.no
section
variable {c:C}{a b e k:aX}{ga gb g gk:aw->R D}{pos p apos:Pos}{x:Str}
theorem sM (hu:c.X.A.units + 1<kX) (ha:JB c a ga) (hb:JB c b gb) (hs:ud b:=by exact fun _ _=>rfl):JE c (.Subscript a b pos) (g2 ga gb wB):=.of fun ρ=>by
 refine rX (Hx hu (ha ρ) (hb ρ) hs) fun σ H Q h_2=>?_
 obtain ⟨H0,Hs0,la,Hs,f,q⟩:=h_2
 refine one f q fun d v H1 Hs1 e1 s1 f1 r1=>?_
 unfold g2 at q
 rw [e1,bind_ok] at q
 refine one f1 (q.on s1 (q':=fun _=>True) fun _ _=>trivial) fun y w H2 Hs2 e2 s2 f2 r2=>?_
 rw [e2,bind_ok] at q
 unfold wB at q
 split at q
 ·rename_i ds
  split at q
  ·rename_i ky hy
   obtain rfl:=ux hy
   by_cases hf:jA (Iw ds)=true
   ·rw [if_pos hf] at q
    obtain ⟨p,kvs,rfl,h2,h3⟩:=Ix f2.st.sub (r1.step s2) hf
    obtain ⟨b,rfl,hb⟩:=xv f2.st.sub r2
    rcases h2.val ky with ⟨_,h4⟩ | ⟨u,d,h4,h5,h6⟩
    ·rw [h4] at q;exact q.elim
    ·rw [h5] at q
     exact ⟨p,u,rfl,by rw [<- h4];exact h3 b ky hb,q _ H2 Hs2 (s1.trans s2) h6⟩
   ·rw [if_neg hf] at q;exact q.elim
  ·exact q.elim
 ·exact q.elim
def Q3 (neg:Bool):D->D->R D
 | k,.dict ds=>match pI k with
  | some _=>if jA (Iw ds)=true then .ok (.bool (if neg then !(lu (Iw ds) k).isSome else (lu (Iw ds) k).isSome)) else .no
  | none=>.no
 | _,_=>.no
theorem B5 (hu:c.X.A.units + 1<kX):wz c.X (bI .NotIn) (Q3 true):=by
 refine ⟨fun pins s σ H x y v u Q I rv ru h=>?_,fun x y c n=>?_⟩
 ·obtain ⟨Hs,dx,dy,sub,rx,ry,d,hd,q⟩:=h
  unfold Q3 at hd
  split at hd
  ·rename_i ds
   split at hd
   ·rename_i ky hy
    obtain rfl:=ux hy
    split at hd
    ·rename_i hf
     cases hd
     obtain ⟨p,kvs,rfl,h2,h3⟩:=Ix sub ry hf
     obtain ⟨b,rfl,hb⟩:=xv sub rx
     cases ru
     refine L2.Pn hu I (h3 b ky hb) rv fun s' I'=>⟨.bl _,H,I',rfl,?_⟩
     have e:(nV kvs ky).isSome=(lu (Iw ds) (tD ky)).isSome:=by
      rcases h2.val ky with ⟨h4,h5⟩ | ⟨u,d,h4,h5,h6⟩<;>rw [h4,h5]<;>rfl
     rw [e]
     exact q _ H Hs (.refl sub) (.bool _)
    ·cases hd
   ·cases hd
  ·cases hd
 ·unfold Q3
  split<;>(try split)<;>(try split)<;>exact fun h=>by cases h
def r_ (i:Nat) (gk g:aw->R D):aw->R Fl:=fun ρ=>match ρ[i]? with
 | some (Sl.own (.dict kvs))=>(g ρ).bind fun d=>(gk ρ).bind fun k=>match pI k with
  | some _=>if kvs.length<1000/\jA kvs=true then .ok (.nx (ρ.set i (.own (.dict (vE kvs k d))))) else .no
  | none=>.no
 | _=>.no
theorem Eh (i:Nat) (h:JE c e g) (hk:JE c k gk) (hu:c.X.A.units + 1<kX) (hN:c.X.N[i]?=some x:=by rfl) (hv:O_ c.X.env.scope x:=by first | exact iP rfl | exact fv (iP rfl) | exact fv (fv rfl)) (hd:(x == ("__debug__" : Str))=false:=by decide)
  (hcd:(x == ("__classdict__" : Str))=false:=by decide) (hs:gW e (some (.Subscript (.Name x p) k apos)) pos.line c.X.env=pure false:=by rfl):JS c (.Assign [.Subscript (.Name x p) k apos] e pos) (r_ i gk g):=.of fun ρ=>by
 refine Ab (Hy hu (sv hN hv hd hcd) (hk ρ) (h ρ) hs) fun D σ H h_1=>?_
 obtain ⟨H0,Hs0,la,Hs,f,q⟩:=h_1
 replace q:oI c.X.K c.cls c.E H0 Hs0 la D (r_ i gk g ρ):=q
 unfold r_ at q
 split at q
 ·rename_i kvs ho
  obtain ⟨a,o,k1,k2,k3,k4,k5⟩:=f.ow i _ ho
  refine sE f q fun d v H1 Hs1 e1 s1 f1 r1=>?_
  rw [e1,bind_ok] at q
  refine ⟨_,k1,sE f1 q fun y w H2 Hs2 e2 s2 f2 r2=>?_⟩
  rw [e2,bind_ok] at q
  split at q
  ·rename_i ky hy
   obtain rfl:=ux hy
   by_cases hl:kvs.length<1000/\jA kvs=true
   ·rw [if_pos hl] at q
    cases k5 with
    | dK r=>exact (r.notT (by cases r with | nil=>exact hl.2 | @cons k _ _ _ _ _ _=>cases k<;>exact hl.2)).elim
    | dF n r=>cases hl.2
    | dT n r =>
     have ha:=s2.all _ _ (s1.all _ _ k2)
     have r':=(r.same s1.sh).same s2.sh
     obtain ⟨b,rfl,hb⟩:=xv f2.st.sub (.inl r2)
     exact ⟨a,_,rfl,Du.t ha hb (dN (by rw [r.length];omega)),q _ _ Hs2 (f2.write i ho k1 (.dT T5 (r'.put ky (r1.same s2.sh))))⟩
   ·rw [if_neg hl] at q;exact q.elim
  ·exact q.elim
 ·exact q.elim
end
end J
namespace J
open PySem L2
def kP (i:Nat) (ρ:aw):aw:=match ρ[i]? with
 | some (Sl.own (.dict ((.tuple ks,v)::r)))=>ρ.set i (.own (.dict ((.none,.none)::(.tuple ks,v)::r)))
 | _=>ρ
theorem Q4 {X:Cx}{pins:List (aj×Obj)}{σ:St}{H:Hp}{s:ag}{a:aj}{kvs:List (List dv×V)} (I:bP X pins σ H s) (h:H a=some (.dT kvs)):∃ o,bP X pins σ (upd H a (.frz o (.dT kvs))) s:=by
 obtain ⟨z,y,xs,pr,o,es,ep,e1,e2,e3,e4,e5⟩:=(show dA X.prog X.w H s.heap a (.dT kvs) from I.hok a _ h)
 have new:dA X.prog X.w (upd H a (.frz o (.dT kvs))) s.heap a (.frz o (.dT kvs)) :=
  ⟨e1,z,y,xs,Paired.mapP pr fun p q w=>⟨w.1,by rw [bt (Lj w.2.1 h (fun z=>nomatch z))];exact w.2.1,w.2.2⟩,o,es,ep,e1,e2,e3,e4,e5⟩
 have:=I.write (x:=a) (e:=a) (h':=s.heap) (t':=s.toks) (by rw [h];trivial) (.inl rfl) (fun b u _ q=>q) ⟨o,e1⟩ new
 exact ⟨o,this⟩
theorem V7 {X:Cx}{st:cA}{t:TS} (h:PS X st t):PS X st (fun D σ H=>t D σ H\/∃ a kvs,H a=some (.dT kvs)/\∀ o,t D σ (upd H a (.frz o (.dT kvs)))):=fun pins s σ H D I q=>by
 rcases q with q | ⟨a,kvs,ha,q⟩
 ·exact h pins s σ H D I q
 ·obtain ⟨o,I'⟩:=Q4 I ha
  exact h pins s σ _ D I' (q o)
theorem T6 {c:C} (i:Nat) {st:cA}{gs:aw->R Fl} (h:JS c st gs):JS c st (fun ρ=>gs (kP i ρ)):=.of fun ρ=>Ab (V7 (h (kP i ρ))) fun D' σ H hh=>by
 obtain ⟨H0,Hs0,la,Hs,f,q⟩:=hh
 by_cases hx:∃ ks v r,ρ[i]?=some (Sl.own (.dict ((.tuple ks,v)::r)))
 ·obtain ⟨ks,v,r,ho⟩:=hx
  have e:kP i ρ=ρ.set i (.own (.dict ((.none,.none)::(.tuple ks,v)::r))):=by unfold kP;rw [ho]
  obtain ⟨a,o,k1,k2,k3,k4,k5⟩:=f.ow i _ ho
  generalize hd:FA ((.tuple ks,v)::r)=d0 at k5
  cases k5 with
  | lst r=>cases hd
  | dK rk =>
   cases hd
   generalize hd:((.tuple ks,v)::r:List (D×D))=d1 at rk
   cases rk with
   | nil=>cases hd
   | @cons k _ _ _ _ _ _=>cases k<;>cases hd
  | dF n r=>cases hd
  | dT n r =>
   cases hd
   exact .inr ⟨a,_,k2,fun o=>⟨H0,Hs0,la,Hs,by rw [e];exact f.write i ho k1 (.dF n r),q⟩⟩
 ·have e:kP i ρ=ρ:=by
   unfold kP
   split
   ·rename_i ks v r ho;exact (hx ⟨ks,v,r,ho⟩).elim
   ·rfl
  refine .inl ⟨H0,Hs0,la,Hs,by rw [e];exact f,q⟩
def Cj:D->R (List D)
 | .dict ((.none,.none)::ds)=>.ok (ds.map (·.1))
 | _=>.no
def K4 (g:aw->R D):aw->R (List D):=fun ρ=>(g ρ).bind Cj
theorem RDt.get {K:a8}{H:Hp}{kvs:List (List dv×V)}:∀ {ds:List (D×D)}{i:Nat}{k:List dv}{v:V},RDt K H kvs ds->kvs[i]?=some (k,v)->∃ d,ds[i]?=some (tD k,d):=by
 induction kvs with
 | nil=>intro ds i k v h e;simp at e
 | cons x r ih =>
  intro ds i k v h e
  cases h with
  | cons h t =>
   cases i with
   | zero=>cases e;exact ⟨_,rfl⟩
   | succ i=>have q:=ih (i:=i) t e;exact q
theorem Nf {K:a8}{H:Hp}:∀ ks:List dv,RDs K H (ks.map kV) (ks.map kD)
 | []=>.nil
 | k::r=>.cons (by cases k<;>constructor) (Nf r)
theorem Q5 {K:a8}{Hn Hs:Hp}{a:aj}{o:Obj}{kvs:List (List dv×V)}{ds:List (D×D)} (h:Hn a=some (.frz o (.dT kvs))) (r:RDt K Hs kvs ds):JR K (WK a o kvs) (ds.map (·.1)) Hn Hs:=fun H2 Hs2 e1 e2 e3=>by
 have q:=e1 _ _ h
 have hl:=r.length
 refine ⟨fun i hi=>⟨q,?_⟩,fun i hi=>⟨q,?_⟩,fun i x H3 hi y=>?_⟩
 ·rw [ao] at hi;omega
 ·rw [ao] at hi;omega
 ·obtain ⟨rfl,k,v,b,y1,rfl,y3⟩:=y
  obtain ⟨d,y4⟩:=r.get y1
  have same:dH Hs2 (upd Hs2 b (.tup (k.map kV))):=fun c u e=>by
   by_cases hc:c=b
   ·subst hc
    have:=e3 _ _ e
    rw [y3] at this
    cases this
    exact bn
   ·rw [bt hc];exact e
  refine ⟨tD k,upd Hs2 b (.tup (k.map kV)),by rw [aZ,y4];rfl,⟨.refl _,same,fun c u e=>?_,fun c u e t z=>?_⟩,.tuple bn (Nf k)⟩
  ·by_cases hc:c=b
   ·subst hc;rw [bn] at e;cases e;exact y3
   ·rw [bt hc] at e;exact e3 _ _ e
  ·by_cases hc:c=b
   ·subst hc;rw [y3] at e;cases e;cases t
   ·rw [bt hc];exact z
section
variable {c:C}{tg l k v e:aX}{g gk gv:aw->R D}{pos:Pos}
theorem Iy (h:JB c l g):JI c tg l (K4 g):=.of fun ρ=>by
 refine FG (Q2 (h ρ)) fun σ H Q hh=>?_
 obtain ⟨H0,Hs0,la,Hs,f,q⟩:=hh
 refine one f q fun d v H1 Hs1 e1 s1 f1 r1=>?_
 unfold K4 at q
 rw [e1,bind_ok] at q
 unfold Cj at q
 split at q
 ·obtain ⟨a,ea,hh⟩:=r1.dict f1.st.sub
  rcases hh with ⟨kvs,h1,h2⟩ | ⟨kvs,h1,hn,h2⟩ | ⟨o,kvs,es,he,h1,hn,h2⟩
  ·generalize hd:((.none,.none)::_:List (D×D))=d0 at h2
   cases h2 with
   | nil=>cases hd
   | @cons k _ _ _ _ _ _=>cases k<;>cases hd
  ·generalize hd:((.none,.none)::_:List (D×D))=d0 at h2
   cases h2<;>cases hd
  ·cases he
   exact ⟨a,o,kvs,ea,h1,q _ H1 Hs1 H1 s1 (.refl _) (Q5 h1 h2)⟩
 ·exact q.elim
def Rz (gk gv:aw->R D):aw->R D:=fun ρ=>(gk ρ).bind fun k=>(gv ρ).bind fun v=>match pI k with
 | some _=>.ok (.dict [(k,v)])
 | none=>.no
theorem Ei (hu:c.X.A.units + 1<kX) (hk:JE c k gk) (hv:JE c v gv):JN c (.Dict [some k] [v] pos) (Rz gk gv):=.of fun ρ=>by
 refine rX (Nc hu (hk ρ) (hv ρ)) fun σ H Q hh=>?_
 obtain ⟨H0,Hs0,la,Hs,f,q⟩:=hh
 intro p hp
 have sm:cP H Hs (upd H p (.dT [])) Hs:=.mine f.st.sub hp
 have np:Hs p=none:=f.st.sub.free hp
 unfold Rz at q
 refine Ac (f.step sm) (q.on sm (q':=fun _=>True) fun _ _=>trivial) fun y w H1 Hs1 e1 s1 f1 r1=>?_
 rw [e1,bind_ok] at q
 refine Ac f1 (q.on (sm.trans s1) (q':=fun _=>True) fun _ _=>trivial) fun z u H2 Hs2 e2 s2 f2 r2=>?_
 rw [e2,bind_ok] at q
 split at q
 ·rename_i ky hy
  obtain rfl:=ux hy
  obtain ⟨b,rfl,hb⟩:=xv f1.st.sub (.inl r1)
  have s12:=s1.trans s2
  have hp2:H2 p=some (.dT []):=s12.all _ _ bn
  have hn2:Hs2 p=none:=s12.out _ _ bn rfl np
  let H3:Hp:=fun x=>if x=p then none else H2 x
  have h3:∀ x,x≠p->H3 x=H2 x:=fun x hx=>if_neg hx
  have st:cP H Hs H3 Hs2:=by
   refine ⟨fun x o e=>?_,s12.sh,fun x o e=>?_,fun x o e t n=>?_⟩
   ·have hx:=bT e hp
    rw [h3 x hx]
    exact s12.all _ _ (by rw [bt hx];exact e)
   ·have hx:x≠p:=fun z=>by rw [z,hn2] at e;cases e
    rw [h3 x hx]
    exact f2.st.sub _ _ e
   ·have hx:=bT e hp
    exact s12.out _ _ (by rw [bt hx];exact e) t n
  have:=q p (.dT [(ky,u)]) H3 Hs2 st (if_pos rfl) (.dT (by simp) (.cons r2 .nil))
  have e3:upd H3 p (.dT [(ky,u)])=upd H2 p (.dT (mF [] ky u)):=by
   funext x
   by_cases hx:x=p
   ·subst hx;rw [bn,bn];rfl
   ·rw [bt hx,bt hx,h3 x hx]
  rw [e3] at this
  exact ⟨[],ky,b,hp2,rfl,s2.all _ _ hb,by rw [D7];decide,this⟩
 ·exact q.elim
def yy (g:aw->R D):aw->R Bool:=fun ρ=>(g ρ).bind fun d=>match d with
 | .list ds=>.ok (!ds.isEmpty)
 | _=>.no
theorem Ng (h:JB c e g) (he:∀ whole,v8 e c.X.env whole=(do let v <- whole;wk e.pos;L4 [v] (truthy v)):=by intro _;rfl):JT c e (yy g):=.of fun ρ=>Ur (Ly (h ρ) he) fun σ H Q hh=>by
 obtain ⟨H0,Hs0,la,Hs,f,q⟩:=hh
 refine one f q fun d v H1 Hs1 e1 s1 f1 r1=>?_
 unfold yy at q
 rw [e1,bind_ok] at q
 split at q
 ·obtain ⟨a,vs,rfl,qa,ra⟩:=r1.list f1.st.sub
  refine ⟨_,.inl ⟨vs,qa,rfl⟩,?_⟩
  cases ra with
  | nil=>exact q H1 Hs1 s1
  | cons _ _=>exact q H1 Hs1 s1
 ·exact q.elim
end
end J
namespace L2
open PySem PySem.Spec PyProof.Rows
theorem Ej {ns:List Int}:∀ {its:List ac},dJ (ns.map V.int) its->∀ {i:Nat}{v:ac},its[i]?=some v->∃ n t,ns[i]?=some n/\v=.int n t:=by
 induction ns with
 | nil=>intro its r i v e;cases r;simp at e
 | cons x r ih =>
  intro its rr i v e
  cases rr with
  | cons a b =>
   cases i with
   | zero=>cases e;obtain ⟨t,rfl⟩:=a;exact ⟨x,t,rfl,rfl⟩
   | succ i=>have q:=ih b (i:=i) e;exact q
theorem Ah {X:Cx} (hc:X.calm=true):jR X (.builtin "min") (fun xs H Q=>∃ p,∃ ns:List Int,xs=[.ref p]/\lW X.K H p (ns.map V.int)/\0<ns.length/\∀ m,m∈ns->(∀ a∈ns,m<=a)->Q (.int m) H):=by
 intro pins s σ H xs us Q I r h
 obtain ⟨p,ns,rfl,hq,hz,q⟩:=h
 obtain ⟨u,rfl,rx⟩:=kL r
 cases rx
 obtain ⟨its,r',pl,hl⟩:=I.list hq
 have ln:its.toArray.size=ns.length:=by have:=r'.length;simp at this ⊢;omega
 obtain ⟨o,ho,hk⟩:=pl.isList
 refine call_min_walk (iM pl.isList ⟨_,_,_,_,_,_,fun i j=>decide (ns.getD i 0<ns.getD j 0),rfl,u0 (by simpa using I.ok.hd hc) _ p (aF (aq ho)) its.toArray,⟨⟨_,ax _ rfl,rfl,rfl⟩,pl.isList.push _⟩,?_,?_,?_,fun v h' tk hv kp=>?_⟩)
 ·intro b hb
  simp only [b9,aS,or_false] at hb
  have hp:=aq ho
  have hs:(s.heap.push { cls:=.type "list_iterator",data:=.fields #[bX p,mz 0 0] }).objs.size=s.heap.objs.size + 1:=Array.size_push ..
  rcases hb with rfl | rfl
  ·exact Lh (dq _) hs.symm
  ·exact Lh (eN hp) hs.symm
 ·omega
 ·refine CmpOf.ints_lt (fun i=>ns.getD i 0) fun i v hi=>?_
  obtain ⟨n,t,e1,rfl⟩:=Ej r' (i:=i) (by simpa using hi)
  exact ⟨t,by simp [da,e1]⟩
 ·rw [ln] at hv
  obtain ⟨b1,b2⟩:=argBest_lt (fun i=>ns.getD i 0) (ns.length - 1)
  obtain ⟨n,t,e1,rfl⟩:=Ej r' (by simpa using hv)
  refine ⟨.int n,H,I.kept (t':=tk) fun b o e=>kp b o ?_ (af _ e),⟨t,rfl⟩,q n (cm e1) fun a ha=>?_⟩
  ·simp only [dO]
   exact aF (aq e)
  ·obtain ⟨j,hj,e⟩:=gy ha
   have:=b2 j (by omega)
   simpa [da,e1,hj,e] using this
end L2
namespace J
open PySem L2
def sO:List D->Option (List Int)
 | []=>some []
 | .int b::r=>(sO r).map (b::·)
 | _::_=>none
theorem Ek {ds:List D}:∀ {bs:List Int},sO ds=some bs->ds=bs.map cx:=by
 induction ds with
 | nil=>intro bs h;cases h;rfl
 | cons d r ih =>
  intro bs h
  cases d with
  | int b =>
   have h:(sO r).map (b::·)=some bs:=h
   cases hr:sO r with
   | none=>rw [hr] at h;cases h
   | some z=>rw [hr] at h;cases h;rw [ih hr];rfl
  | _=>cases h
theorem yz:∀ bs:List Int,sO (bs.map cx)=some bs
 | []=>rfl
 | b::r=>by show (sO (r.map cx)).map (b::·)=_;rw [yz r];rfl
def El:List Int->Int
 | []=>0
 | x::r=>r.foldl min x
theorem yA:∀ (r:List Int) (x:Int),(r.foldl min x∈x::r)/\∀ a∈x::r,r.foldl min x<=a
 | [],x=>⟨by simp,fun a ha=>by simp at ha;subst ha;exact Int.le_refl _⟩
 | y::r,x=>by
  obtain ⟨h1,h2⟩:=yA r (min x y)
  rw [df]
  refine ⟨?_,fun a ha=>?_⟩
  ·rcases List.mem_cons.mp h1 with h | h
   ·rw [h]
    by_cases hxy:x<=y
    ·rw [Int.min_eq_left hxy];simp
    ·rw [Int.min_eq_right (by omega)];simp
   ·exact ak _ (ak _ h)
  ·have h0:=h2 (min x y) am
   rcases List.mem_cons.mp ha with h | h
   ·subst h
    exact Int.le_trans h0 (Int.min_le_left _ _)
   ·rcases List.mem_cons.mp h with h | h
    ·subst h
     exact Int.le_trans h0 (Int.min_le_right _ _)
    ·exact h2 a (ak _ h)
theorem T7 {ns:List Int}{m:Int} (h1:m∈ns) (h2:∀ a∈ns,m<=a):m=El ns:=by
 cases ns with
 | nil=>cases h1
 | cons x r =>
  obtain ⟨k1,k2⟩:=yA r x
  exact Int.le_antisymm (h2 _ k1) (k2 _ h1)
def Ck:D->R D
 | .list ds=>match sO ds with
  | some ns=>if 0<ns.length then .ok (.int (El ns)) else .no
  | none=>.no
 | _=>.no
theorem Nh {X:Cx} (hc:X.calm=true):KZ X (.builtin "min") (f_ Ck):=by
 refine sG (fun d c n=>?_) fun pins s σ H x u Q Hs d d' I ru sub rx hd q=>?_
 ·unfold Ck
  split<;>(try split)<;>(try split)<;>exact fun h=>by cases h
 ·unfold Ck at hd
  split at hd
  ·split at hd
   ·split at hd
    ·rename_i ns hs hz
     cases hd
     obtain ⟨a,vs,rfl,qa,ra⟩:=rx.list sub
     rw [Ek hs] at ra
     rw [C0 ra] at qa
     exact Ah hc pins s σ H _ _ Q I (.cons ru .nil) ⟨a,ns,rfl,qa,hz,fun m h1 h2=>by rw [T7 h1 h2];exact q _ H Hs (.refl sub) (.int _)⟩
    ·cases hd
   ·cases hd
  ·cases hd
end J
namespace J
open PySem L2
def T8 (i:Nat) (g:aw->R Fl):aw->R Fl:=fun ρ=>g (kP i ρ)
theorem Ni {c:C} (i:Nat) {st:cA}{gs:aw->R Fl} (h:JS c st gs):JS c st (T8 i gs):=T6 i h
end J
namespace J
open PySem L2
end J
namespace J
open PySem L2
def rS (i:Nat) (ρ:aw):R D:=FE ρ i
def rB (i:Nat) (ρ:aw):R D:=FF ρ i
def kI (n:Int) (_:aw):R D:=.ok (.int n)
def kB (b:Bool) (_:aw):R D:=.ok (.bool b)
def kN (_:aw):R D:=.ok .none
def kT (_:aw):R Bool:=.ok true
theorem V8 (i:Nat) (ρ:aw):rS i ρ=FE ρ i:=id rfl
theorem T9 (i:Nat) (ρ:aw):rB i ρ=FF ρ i:=id rfl
theorem V9 (n:Int) (ρ:aw):kI n ρ=.ok (.int n):=id rfl
theorem Va (b:Bool) (ρ:aw):kB b ρ=.ok (.bool b):=id rfl
theorem Vb (ρ:aw):kN ρ=.ok .none:=id rfl
end J
end
section
namespace L2
open PySem PySem.Spec PyProof.Rows
section
variable {X:Cx}{tg:aX}
def VO (lo:Int) (n:Nat):It:=⟨fun i _=>i<n,fun i H x H'=>H'=H/\x=.int (lo - i),fun i _=>n<=i⟩
theorem K5 {P:aM}{w:ba}{K:a8}{tg:aX} (it:aj) (lo:Int) (n:Nat):vk P w K tg (VO lo n) [it] it (fun i h=>D6 h it (lo + (i:Nat) * (-1)) ((n:Int) - (i:Nat)) (-1)) where
 mem:=by simp
 obj:=fun i h st b hb=>by
  have e:b=it:=by simpa using hb
  subst e
  exact ⟨_,st,fun v z=>by
   have z':Hk _=Data.cell v:=z
   cases z'⟩
 keep:=fun i h h' st k=>k it (by simp) _ st
 item:=by
  intro X hP hw hK hc i pins s σ H E I hf st hg
  subst hP hw hK
  obtain ⟨f0,f1,f2,f3,f4,f5⟩:=hf it (by simp)
  have W:=Walks.range (prog:=X.prog) (w:=X.w) (I.ok.hd hc) it lo (-1) n
  refine W.item i s _ _ hg st fun v h' tk hv st' kk=>?_
  obtain ⟨t,rfl⟩:=hv
  have I1:bP X pins σ H { s with heap:=h',toks:=tk }:=I.turned (fun b o hb e=>kk b o (by simpa using hb) e) f0 f1 f3 f4 f5
  refine ⟨_,rfl,AF (s:={ s with heap:=h',toks:=tk }) (n:="range_iterator") st' rfl rfl (by decide) ⟨.int (lo - i),H,I1,⟨t,?_⟩,⟨rfl,rfl⟩,st',fun b hb=>(hf b hb).1⟩⟩
  rw [show lo + (i:Int) * (-1)=lo - i by omega]
 done:=by
  intro X hP hw hK hc i pins s σ H E I hf st hg
  subst hP hw hK
  obtain ⟨f0,f1,f2,f3,f4,f5⟩:=hf it (by simp)
  exact L5 (I.ok.hd hc) st (by have:n<=i:=hg;omega) fun h' eb=>⟨rfl,I.turned (t':=s.toks) (fun b o hb e=>eb b o hb e) f0 f1 f3 f4 f5⟩
 self:=fun _ _ _ _ _ st h=>L6 st h
theorem B6 (a b:Int):iD a b (-1)=if a > b then a - b else 0:=by
 unfold iD
 simp only [show ¬ ((-1:Int) > 0) by decide,if_false,show -(-1:Int)=1 by decide,Int.ediv_one]
 split<;>omega
theorem Nj {pins:List (aj×Obj)}{σ:St}{H:Hp}{s:ag}{R:It->Hp->Prop}{E:ac->ag->Prop}{lo hi:Int}{t u v:Tok}{tk:Nat} (I:bP X pins σ H s) (h1:-1000<=lo) (h2:lo<=1000) (h3:-1000<=hi) (h4:hi<=1000)
  (q:R (VO lo (lo - hi).toNat) H):au (aO X.prog X.w) X.A (v9 (.ref s.heap.objs.size)) (Vz X pins σ tg R) E { s with heap:=s.heap.push { cls:=.type "range",data:=.fields #[.int lo t,.int hi u,.int (-1) v] },toks:=tk }:=by
 have sm:zJ lo hi (-1)=true:=by
  unfold zJ
  rw [B6]
  simp only [Builtin.Range.rangeFitsLong,aQ,hV,decide_eq_true_eq,beq_iff_eq,show ¬ ((-1:Int) > 0) by decide,if_false]
  split<;>omega
 refine wpAny_pyIter_range (IsRange.new ..) sm ?_
 have I1:bP X pins σ H { s with heap:=s.heap.push { cls:=.type "range",data:=.fields #[.int lo t,.int hi u,.int (-1) v] },toks:=tk }:=I.kept fun b o e=>af _ e
 refine ⟨(s.heap.push { cls:=.type "range",data:=.fields #[.int lo t,.int hi u,.int (-1) v] }).objs.size,[(s.heap.push { cls:=.type "range",data:=.fields #[.int lo t,.int hi u,.int (-1) v] }).objs.size],_,_,H,rfl,
  I1.kept (t':=tk) fun b o e=>af _ e,K5 _ lo (lo - hi).toNat,?_,fun b hb=>?_,q⟩
 ·have e1:lo + ((0:Nat):Int) * (-1)=lo:=by simp
  have e2:(((lo - hi).toNat:Nat):Int) - ((0:Nat):Int)=iD lo hi (-1):=by rw [B6];split<;>omega
  show D6 _ _ (lo + ((0:Nat):Int) * (-1)) ((((lo - hi).toNat:Nat):Int) - ((0:Nat):Int)) (-1)
  rw [e1,e2]
  exact ax _ rfl
 ·have e:b=(s.heap.push { cls:=.type "range",data:=.fields #[.int lo t,.int hi u,.int (-1) v] }).objs.size:=by simpa using hb
  subst e
  exact I1.fpOk (ar _) (I1.hok.fresh (ar _))
def Vc (ta:TA):TI:=fun σ H R=>ta σ H fun vs H1=>∃ i j:Int,vs=[.int i,.int j,.int (-1)]/\(-1000<=i/\i<=1000/\-1000<=j/\j<=1000)/\R (VO i (i - j).toNat) H1
theorem K6 {a b c:aX}{ta:TA}{p pos:Pos} (hg:Gl X "range") (hm:X.mg "range"=none) (ha:PA X [a,b,c] ta) (hs:aI [a,b,c] X.env=(false,dE a X.env)::aI [b,c] X.env:=by rfl) (hs2:aI [b,c] X.env=[(false,dE b X.env),(false,dE c X.env)]:=by rfl) :
  PI X tg (.Call (.Name "range" p) [a,b,c] [] pos) (Vc ta):=by
 intro pins s σ H R I h
 refine Call_ (oA I hg hm boot_range (cM (fk (ha pos pins s σ H _ I h) fun us s1 ⟨vs,H1,I1,r1,q1⟩=>?_) hs (by rw [hs2];rfl)))
 obtain ⟨i,j,e,⟨q1,q2,q3,q4⟩,q⟩:=q1
 subst e
 cases r1 with
 | cons r rr =>
  cases rr with
  | cons r' rr =>
   cases rr with
   | cons r'' rr =>
    cases rr
    obtain ⟨t,rfl⟩:=r
    obtain ⟨t',rfl⟩:=r'
    obtain ⟨t'',rfl⟩:=r''
    exact call_range_3 (by decide) (Nj I1 q1 q2 q3 q4 q) (.inl (Bw (by omega)))
end
end L2
namespace J
open PySem L2
section
variable {c:C}{tg a b d:aX}{p pos:Pos}{gs:aw->R (List D)}
def pJ (lo:Int) (n:Nat):List D:=(bx n).map fun (k:Nat)=>cx (lo - k)
theorem Q6 {K:a8}{Hn Hs:Hp} (lo:Int) (n:Nat):JR K (VO lo n) (pJ lo n) Hn Hs:=fun H2 Hs2 e1 e2 e3=>by
 have hl:(pJ lo n).length=n:=by simp [pJ]
 refine ⟨fun i hi=>by rw [hl] at hi;exact hi,fun i hi=>by rw [hl] at hi;exact hi,fun i v H3 hi y=>?_⟩
 obtain ⟨rfl,rfl⟩:=y
 refine ⟨.int (lo - i),Hs2,?_,.refl e3,.int _⟩
 rw [hl] at hi
 unfold pJ
 rw [aZ,tT hi]
 rfl
theorem OB.three {K:a8}{H Hs:Hp}{xs:List V}{d e f:D} (h:OB K H Hs xs [d,e,f]):∃ x y z,xs=[x,y,z]/\RB K H Hs x d/\RB K H Hs y e/\RB K H Hs z f:=by
 cases h with | cons a t=>cases t with | cons b t=>cases t with | cons c t=>cases t;exact ⟨_,_,_,rfl,a,b,c⟩
def Nk:List D->R (List D)
 | [.int i,.int j,.int k]=>if k=-1/\-1000<=i/\i<=1000/\-1000<=j/\j<=1000 then .ok (pJ i (i - j).toNat) else .no
 | _=>.no
def Em (gs:aw->R (List D)):aw->R (List D):=fun ρ=>(gs ρ).bind Nk
theorem Gw (hg:Gl c.X "range") (hm:c.X.mg "range"=none) (ha:Px c [a,b,d] gs) (hs:aI [a,b,d] c.X.env=(false,dE a c.X.env)::aI [b,d] c.X.env:=by rfl) (hs2:aI [b,d] c.X.env=[(false,dE b c.X.env),(false,dE d c.X.env)]:=by rfl) :
  HM c tg (.Call (.Name "range" p) [a,b,d] [] pos) (Em gs):=.of fun ρ=>FG (K6 hg hm (ha ρ) hs hs2) fun σ H Q hh=>by
 obtain ⟨H0,Hs0,la,Hs,f,q⟩:=hh
 refine HE f q fun ds vs H1 Hs1 e1 s1 f1 r1=>?_
 unfold Em at q
 rw [e1,bind_ok] at q
 unfold Nk at q
 split at q
 ·rename_i i j k
  by_cases hj:k=-1/\-1000<=i/\i<=1000/\-1000<=j/\j<=1000
  ·rw [if_pos hj] at q
   obtain ⟨x,y,z,rfl,rx,ry,rz⟩:=r1.three
   exact ⟨i,j,by rw [rx.int,ry.int,rz.int,hj.1],hj.2,q _ H1 Hs1 s1 (Q6 i _)⟩
  ·rw [if_neg hj] at q;exact q.elim
 ·exact q.elim
theorem Ta (gs:aw->R (List D)) (s:Sl) (ρ:aw):Em gs (s::ρ)=(gs (s::ρ)).bind Nk:=id rfl
end
end J
end
namespace Z
open PySem L2 J
section
def jB:aw->R Fl:=(cu (DK (bL (a9 (eL 1 [1] (kW (rB 0)) kT (g2 (rB 0) (rB 1) (DM false))) ay) (f_ (gJ fun bs=>bs.any id)))))
def cT:List D->R D:=eC 2 jB
def qW:aw->R Fl:=(cu (bL (a9 (eL 1 [1] (kW (rB 0)) (dP (g2 (rB 0) (rB 1) (DM true))) (rS 0)) ay) (f_ g_)))
def jZ:List D->R D:=eC 2 qW
def uy:aw->R Fl:=(cu (bL (a9 (kO (N7 (oK (rB 0)) (oK (rB 1)))) ay) (f_ g_)))
def nZ:List D->R D:=eC 2 uy
def qX:aw->R Fl:=(aD (dC (zL (iJ (dP (sH (rB 0) "str"))) (iJ (dP (qo (kI 1) (bL (a9 (rB 0) ay) (f_ fK)) (kI 6) QZ QZ)))) (cu (kB false)) (fun ρ=>.ok (.nx ρ))) (cu (bL (a9 (eL 1 [] (kW (rB 0)) kT (qo (fun _=>.ok (.str "a")) (rB 0) (fun _=>.ok (.str "z")) QZ QZ)) ay) (f_ (gJ fun bs=>bs.all id)))))
def n_:List D->R D:=eC 1 qX
def gM:aw->R Fl:=(aD (dC (zL (iJ (dP (sH (rB 0) "tuple"))) (iJ (dP (bL (a9 (eL 1 [] (kW (rB 0)) kT (dg 1 n_ (a9 (rS 0) ay))) ay) (f_ (gJ fun bs=>bs.all id)))))) (cu (kB false)) (fun ρ=>.ok (.nx ρ))) (cu (bL (a9 (eL 2 [] (PK (a9 (rS 0) (a9 (DR (rB 0) (C5 (kI 1)) HK) ay))) kT (g2 (rB 0) (rB 1) w_)) ay) (f_ (gJ fun bs=>bs.all id)))))
def ft:List D->R D:=eC 1 gM
def mX:aw->R Fl:=(cu (rY (dg 1 ft (a9 (rS 1) ay)) (bL (a9 (eL 1 [0] (kW (rB 1)) kT (g2 (rB 0) (rB 1) (DM false))) ay) (f_ (gJ fun bs=>bs.all id)))))
def f9:List D->R D:=eC 2 mX
def oM:aw->R Fl:=(aD (dC (zL (iJ (dP (sH (rB 0) "int"))) (dP (sH (rB 0) "bool"))) (cu (kB false)) (fun ρ=>.ok (.nx ρ))) (cu (qo (rB 1) (rB 0) (rB 2) QZ QZ)))
def oN:List D->R D:=eC 3 oM
def mY:aw->R Fl:=(aD (dC (zL (iJ (dP (sH (rB 1) "tuple"))) (dP (g2 (bL (a9 (rB 1) ay) (f_ fK)) (kI 6) (l_ true)))) (cu (kB false)) (fun ρ=>.ok (.nx ρ))) (aD (sI (rS 1) (iX 6 (bO (bg 2) (bO (bg 3) (bO (bg 4) (bO (bg 5) (bO (bg 6) (bO (bg 7) jp)))))))) (aD (dC (zL (iJ (dP (dg 1 n_ (a9 (rS 2) ay)))) (iJ (dP (dg 3 oN (a9 (rS 7) (a9 (kI 0) (a9 (kI 9) ay))))))) (cu (kB false)) (fun ρ=>.ok (.nx ρ))) (aD (dC (iJ (dP (bL (a9 (eL 1 [0] (kW (dS (a9 (rS 3) (a9 (rS 4) (a9 (rS 5) (a9 (rS 6) ay)))) .tuple)) kT (dg 2 f9 (a9 (rS 1) (a9 (rS 0) ay)))) ay) (f_ (gJ fun bs=>bs.all id))))) (cu (kB false)) (fun ρ=>.ok (.nx ρ))) (cu (rY (dg 2 cT (a9 (rS 3) (a9 (rS 4) ay))) (dg 2 cT (a9 (rS 5) (a9 (rS 6) ay)))))))))
def mZ:List D->R D:=eC 8 mY
def qY:aw->R Fl:=(aD (dC (zL (iJ (dP (sH (rB 0) "tuple"))) (dP (g2 (bL (a9 (rB 0) ay) (f_ fK)) (kI 2) (l_ true)))) (cu (kB false)) (fun ρ=>.ok (.nx ρ))) (aD (sI (rS 0) (iX 2 (bO (bg 1) (bO (bg 2) jp)))) (aD (dC (zL (iJ (dP (dg 1 ft (a9 (rS 1) ay)))) (dP (g2 (bL (a9 (rB 1) ay) (f_ fK)) (kI 6) Q_))) (cu (kB false)) (fun ρ=>.ok (.nx ρ))) (aD (dC (zL (iJ (dP (sH (rB 2) "tuple"))) (dP (g2 (bL (a9 (rB 2) ay) (f_ fK)) (kI 6) Q_))) (cu (kB false)) (fun ρ=>.ok (.nx ρ))) (aD (dC (iJ (dP (bL (a9 (eL 1 [1] (kW (rB 2)) kT (dg 2 mZ (a9 (rS 1) (a9 (rS 0) ay)))) ay) (f_ (gJ fun bs=>bs.all id))))) (cu (kB false)) (fun ρ=>.ok (.nx ρ))) (cu (g2 (uw (vG 1 [] (kW (rB 2)) kT (g2 (rB 0) (kI 0) aY))) (bL (a9 (rB 2) ay) (f_ fK)) (l_ false))))))))
def qZ:List D->R D:=eC 3 qY
def q_:aw->R Fl:=(aD (dC (zL (iJ (dP (sH (rB 1) "tuple"))) (dP (g2 (bL (a9 (rB 1) ay) (f_ fK)) (kI 2) (l_ true)))) (cu (kB false)) (fun ρ=>.ok (.nx ρ))) (aD (sI (rS 1) (iX 2 (bO (bg 2) (bO (bg 3) jp)))) (cu (rY (dg 2 f9 (a9 (g2 (rB 0) (kI 0) aY) (a9 (rS 2) ay))) (rY (dg 2 f9 (a9 (g2 (rB 0) (kI 0) aY) (a9 (rS 3) ay))) (dg 2 cT (a9 (rS 2) (a9 (rS 3) ay))))))))
def r6:List D->R D:=eC 4 q_
def kz:aw->R Fl:=(dC (iJ (dP (dg 2 f9 (a9 (g2 (rB 0) (kI 0) aY) (a9 (rS 1) ay))))) (vH "NoState" (a9 (fun _=>.ok (.str "a state is a rising tuple of the book's facts, none twice")) ay)) (fun ρ=>.ok (.nx ρ)))
def kA:List D->R D:=eC 2 kz
def lA:aw->R Fl:=(dC (iJ (dP (dg 2 r6 (a9 (rS 0) (a9 (rS 1) ay))))) (vH "NoWant" (a9 (fun _=>.ok (.str "a want is a tuple of two states with nothing in common")) ay)) (fun ρ=>.ok (.nx ρ)))
def jC:List D->R D:=eC 2 lA
def j0:aw->R Fl:=(aD (dC (iJ (dP (sH (rB 1) "str"))) (cu kN) (fun ρ=>.ok (.nx ρ))) (aD (lc (kW (g2 (rB 0) (kI 1) aY)) (bg 2) (dC (dP (g2 (g2 (rB 2) (kI 0) aY) (rB 1) (l_ false))) (cu (rS 2)) (fun ρ=>.ok (.nx ρ)))) (cu kN)))
def gS:List D->R D:=eC 3 j0
def r9:aw->R Fl:=(aD (sI (rS 1) (iX 2 (bO (bg 2) (bO (bg 3) jp)))) (cu (rY (bL (a9 (eL 1 [0] (kW (rB 2)) kT (g2 (rB 0) (rB 1) (DM false))) ay) (f_ (gJ fun bs=>bs.all id))) (dg 2 cT (a9 (rS 3) (a9 (rS 0) ay))))))
def lO:List D->R D:=eC 4 r9
def m_:aw->R Fl:=(cu (dg 2 lO (a9 (rS 1) (a9 (dS (a9 (g2 (rB 0) (kI 1) aY) (a9 (g2 (rB 0) (kI 2) aY) ay)) .tuple) ay))))
def gD:List D->R D:=eC 2 m_
def jD:aw->R Fl:=(aD (N8 2 3 (a9 (g2 (rB 0) (kI 3) aY) (a9 (g2 (rB 0) (kI 4) aY) ay))) (cu (dg 2 nZ (a9 (dg 2 jZ (a9 (rS 1) (a9 (rS 3) ay))) (a9 (rS 2) ay)))))
def eE:List D->R D:=eC 4 jD
def rc:aw->R Fl:=(aD (dC (iJ (dP (dg 1 qZ (a9 (rS 0) ay)))) (vH "NoBook" (a9 (fun _=>.ok (.str "a book is a tuple of facts and errands, each as the document tells")) ay)) (fun ρ=>.ok (.nx ρ))) (cu (rS 0)))
def o0:List D->R D:=eC 1 rc
def kC:aw->R Fl:=(aD (pH (dg 1 o0 (a9 (rS 0) ay))) (pH (dg 2 kA (a9 (rS 0) (a9 (rS 1) ay)))))
def kE:List D->R D:=eC 2 kC
def n5:aw->R Fl:=(aD (pH (dg 2 kE (a9 (rS 0) (a9 (rS 1) ay)))) (pH (dg 2 jC (a9 (rS 0) (a9 (rS 2) ay)))))
def jf:List D->R D:=eC 3 n5
def uz:aw->R Fl:=(aD (dC (zL (iJ (dP (sH (rB 1) "list"))) (dP (g2 (bL (a9 (rB 1) ay) (f_ fK)) (kI 64) Q_))) (cu (kB false)) (fun ρ=>.ok (.nx ρ))) (cu (bL (a9 (eL 1 [0] (kW (rB 1)) kT (g2 (dg 2 gS (a9 (rS 1) (a9 (rS 0) ay))) kN (pG true))) ay) (f_ (gJ fun bs=>bs.all id)))))
def uA:List D->R D:=eC 2 uz
def lB:aw->R Fl:=(aD (dC (iJ (dP (dg 2 uA (a9 (rS 0) (a9 (rS 1) ay))))) (fun _=>.no) (fun ρ=>.ok (.nx ρ))) (cu (eL 1 [0] (kW (rB 1)) kT (dg 2 gS (a9 (rS 1) (a9 (rS 0) ay))))))
def gN:List D->R D:=eC 2 lB
def ir:aw->R Fl:=(aD (dZ 2 (dS (a9 (rS 1) ay) .list)) (aD (rZ 0 (bg 3) (aD (dC (iJ (dP (dg 2 gD (a9 (rS 3) (a9 (g2 (rB 2) (pR (kI 1)) aY) ay))))) (cu (rS 2)) (fun ρ=>.ok (.nx ρ))) (nF 2 (dg 2 eE (a9 (rS 3) (a9 (g2 (rB 2) (pR (kI 1)) aY) ay)))))) (cu (rS 2))))
def iu:List D->R D:=eC 4 ir
def oO:aw->R Fl:=(aD (sI (DR (rB 0) (C5 (kI 1)) (C5 (kI 5))) (iX 4 (bO (bg 2) (bO (bg 3) (bO (bg 4) (bO (bg 5) jp)))))) (aD (sI (rS 1) (iX 2 (bO (bg 6) (bO (bg 7) jp)))) (aD (dC (zL (iJ (dP (dg 2 cT (a9 (rS 4) (a9 (rS 7) ay))))) (iJ (dP (dg 2 cT (a9 (rS 5) (a9 (rS 6) ay)))))) (cu kN) (fun ρ=>.ok (.nx ρ))) (aD (cW 8 (dg 2 nZ (a9 (rS 2) (a9 (dg 2 jZ (a9 (rS 6) (a9 (rS 4) ay))) ay)))) (aD (cW 9 (dg 2 nZ (a9 (rS 3) (a9 (dg 2 jZ (a9 (rS 7) (a9 (rS 5) ay))) ay)))) (aD (dC (iJ (dP (dg 2 cT (a9 (rS 8) (a9 (rS 9) ay))))) (cu kN) (fun ρ=>.ok (.nx ρ))) (cu (dS (a9 (rS 8) (a9 (rS 9) ay)) .tuple))))))))
def ii:List D->R D:=eC 10 oO
def uB:aw->R Fl:=(aD (pH (dg 3 jf (a9 (rS 0) (a9 (rS 1) (a9 (rS 2) ay))))) (aD (cW 4 (dg 2 gN (a9 (rS 0) (a9 (rS 3) ay)))) (aD (cW 5 (dg 2 iu (a9 (rS 4) (a9 (rS 1) ay)))) (cu (rY (g2 (bL (a9 (rB 5) ay) (f_ fK)) (bL (a9 (rB 4) ay) (f_ fK)) Q_) (dg 2 lO (a9 (g2 (rB 5) (pR (kI 1)) aY) (a9 (rS 2) ay))))))))
def qw:List D->R D:=eC 6 uB
def xw:aw->R Fl:=(aD (pH (dg 1 o0 (a9 (rS 0) ay))) (aD (pH (dg 2 jC (a9 (rS 0) (a9 (rS 1) ay)))) (aD (cW 3 (rS 1)) (aD (lc (Eg (a9 (dg 2 gN (a9 (rS 0) (a9 (rS 2) ay))) ay)) (bg 4) (aD (cW 3 (dg 2 ii (a9 (rS 4) (a9 (rS 3) ay)))) (dC (dP (g2 (rB 3) kN (pG false))) (cu kN) (fun ρ=>.ok (.nx ρ))))) (cu (rS 3))))))
def uC:List D->R D:=eC 5 xw
def lC:aw->R Fl:=(cu (eL 1 [1] (kW (g2 (rB 0) (kI 1) aY)) (dP (dg 2 gD (a9 (rS 0) (a9 (rS 1) ay)))) (dS (a9 (rS 0) (a9 (dg 2 eE (a9 (rS 0) (a9 (rS 1) ay))) ay)) .tuple)))
def jE:List D->R D:=eC 2 lC
def lE:aw->R Fl:=(aD (dZ 2 (Rz (rS 1) (dS ay .list))) (aD (dZ 3 (dS (a9 (rS 1) ay) .list)) (aD (iK (yy (rB 3)) (aD (dZ 4 (dS ay .list)) (aD (rZ 3 (bg 5) (lc (kW (dg 2 jE (a9 (rS 0) (a9 (rS 5) ay)))) (iX 2 (bO (bg 6) (bO (bg 7) jp))) (dC (dP (g2 (rB 7) (rB 2) (Q3 true))) (aD (r_ 2 (rS 7) (g2 (g2 (rB 2) (rB 5) wB) (dS (a9 (g2 (rB 6) (kI 0) aY) ay) .list) dB)) (nF 4 (rS 7))) (fun ρ=>.ok (.nx ρ))))) (R7 4 (cW 3 (rS 4))))) 100000) (T8 2 (cu (rS 2))))))
def jF:List D->R D:=eC 8 lE
def re:aw->R Fl:=(aD (dZ 2 (eL 1 [1] (K4 (rB 0)) (dP (dg 2 lO (a9 (rS 0) (a9 (rS 1) ay)))) (rS 0))) (cu (eL 1 [0,2] (kW (rB 2)) (dP (g2 (bL (a9 (g2 (rB 1) (rB 0) wB) ay) (f_ fK)) (bL (a9 (g2 (rB 1) (g2 (rB 2) (kI 0) aY) wB) ay) (f_ fK)) (l_ false))) (rS 0))))
def j_:List D->R D:=eC 3 re
def iw:aw->R Fl:=(aD (dZ 2 (dS (a9 (rS 1) ay) .list)) (aD (lc (Eg (a9 (rS 0) ay)) (bg 3) (aD (cW 4 (dg 2 ii (a9 (rS 3) (a9 (g2 (rB 2) (pR (kI 1)) aY) ay)))) (aD (dC (dP (g2 (rB 4) kN (pG false))) (cu (rS 2)) (fun ρ=>.ok (.nx ρ))) (nF 2 (rS 4))))) (cu (rS 2))))
def gj:List D->R D:=eC 5 iw
def uD:aw->R Fl:=(aD (pH (dg 3 jf (a9 (rS 0) (a9 (rS 1) (a9 (rS 2) ay))))) (aD (cW 4 (dg 2 gj (a9 (dg 2 gN (a9 (rS 0) (a9 (rS 3) ay))) (a9 (rS 2) ay)))) (aD (cW 5 (dg 2 jF (a9 (rS 0) (a9 (rS 1) ay)))) (aD (cW 6 kN) (aD (dZ 7 (dS ay .list)) (aD (lc (Ee (a9 (rS 4) ay)) (iX 2 (bO (bg 8) (bO (bg 9) jp))) (aD (cW 10 (dg 2 j_ (a9 (rS 5) (a9 (rS 9) ay)))) (dC (vz (yy (rB 10)) (zL (dP (g2 (rB 6) kN (pG false))) (dP (g2 (bL (a9 (g2 (rB 5) (g2 (rB 10) (kI 0) aY) wB) ay) (f_ fK)) (bL (a9 (rB 6) ay) (f_ fK)) w_)))) (aD (cW 6 (g2 (rB 5) (g2 (rB 10) (kI 0) aY) wB)) (cW 7 (DR (rB 3) (C5 (g2 (bL (a9 (rB 3) ay) (f_ fK)) (rB 8) JK)) HK))) (fun ρ=>.ok (.nx ρ))))) (cu (Tx (dP (g2 (rB 6) kN (pG false))) kN (g2 (rB 6) (rB 7) dB)))))))))
def o6:List D->R D:=eC 11 uD
def kF:aw->R Fl:=(aD (dC (dP (g2 (rB 1) (bL (a9 (rB 0) ay) (f_ fK)) w_)) (cu (g2 (rB 0) (rB 1) aY)) (fun ρ=>.ok (.nx ρ))) (aD (dC (dP (g2 (rB 0) (dS ay .list) (l_ false))) (cu (kI 0)) (fun ρ=>.ok (.nx ρ))) (cu (g2 (g2 (g2 (rB 0) (g2 (rB 1) (bL (a9 (rB 0) ay) (f_ fK)) JL) aY) (kI 31) wZ) (rB 1) dB))))
def kG:List D->R D:=eC 2 kF
def n6:aw->R Fl:=(aD (cW 3 (g2 (g2 (g2 (g2 (dg 2 kG (a9 (rS 0) (a9 (rS 1) ay))) (g2 (kI 7919) (rB 1) wZ) dB) (kI 1) dB) (kI 48271) wZ) (kI 2147483647) JL)) (cu (g2 (g2 (g2 (g2 (g2 (rB 3) (rB 3) wZ) (g2 (kI 7) (rB 3) wZ) dB) (rB 1) dB) (kI 2147483629) JL) (rB 2) JL)))
def bq:List D->R D:=eC 4 n6
def oP:aw->R Fl:=(aD (cW 2 (fun _=>.ok (.str ""))) (aD (lc (yb (a9 (g2 (dS (a9 (kI 1) (a9 (kI 2) (a9 (kI 3) (a9 (kI 6) (a9 (kI 1) (a9 (kI 4) ay)))))) .list) (dg 3 bq (a9 (rS 0) (a9 (rS 1) (a9 (kI 6) ay)))) aY) ay)) (bg 3) (cW 2 (g2 (rB 2) (g2 (fun _=>.ok (.str "abcdefghijklmnopqrstuvwxyz")) (dg 3 bq (a9 (rS 0) (a9 (g2 (g2 (rB 1) (kI 1) dB) (rB 3) dB) (a9 (kI 26) ay)))) aY) dB))) (cu (rS 2))))
def k7:List D->R D:=eC 4 oP
def n8:aw->R Fl:=(aD (dZ 3 (fun _=>.ok (.dict []))) (aD (lc (yb (a9 (dg 3 bq (a9 (rS 0) (a9 (rS 1) (a9 (g2 (rB 2) (kI 1) dB) ay)))) ay)) (bg 4) (Cc 3 (dg 2 k7 (a9 (rS 0) (a9 (g2 (g2 (rB 1) (kI 1) dB) (g2 (kI 8) (rB 4) wZ) dB) ay))) (kB true))) (cu (bL (a9 (bL (a9 (bL (a9 (rB 3) ay) (f_ kx)) ay) (f_ qU)) ay) (f_ g_)))))
def nc:List D->R D:=eC 5 n8
def oQ:aw->R Fl:=(cu (bL (a9 (eL 2 [0,1,3] (Go (a9 (rS 2) ay)) (dP (g2 (dg 3 bq (a9 (rS 2) (a9 (g2 (rB 3) (rB 0) dB) (a9 (kI 12) ay)))) (rB 4) w_)) (rS 1)) ay) (f_ g_)))
def k8:List D->R D:=eC 4 oQ
def oR:aw->R Fl:=(aD (cW 4 (g2 (rB 2) (dg 3 bq (a9 (rS 0) (a9 (g2 (rB 1) (kI 10) dB) (a9 (bL (a9 (rB 2) ay) (f_ fK)) ay)))) aY)) (aD (cW 5 (g2 (rB 2) (dg 3 bq (a9 (rS 0) (a9 (g2 (rB 1) (kI 11) dB) (a9 (bL (a9 (rB 2) ay) (f_ fK)) ay)))) aY)) (aD (cW 6 (g2 (rB 2) (dg 3 bq (a9 (rS 0) (a9 (g2 (rB 1) (kI 12) dB) (a9 (bL (a9 (rB 2) ay) (f_ fK)) ay)))) aY)) (aD (cW 7 (DR (dS (a9 (rS 4) (a9 (rS 5) ay)) .list) HK (C5 (g2 (kI 1) (g2 (dg 3 bq (a9 (rS 0) (a9 (g2 (rB 1) (kI 13) dB) (a9 (kI 3) ay)))) (kI 2) Mb) dB)))) (aD (dZ 8 (eL 1 [7,0,1] (kW (dS (a9 (rS 6) ay) .list)) (vz (dP (g2 (rB 0) (rB 1) (DM true))) (dP (g2 (dg 3 bq (a9 (rS 2) (a9 (g2 (rB 3) (kI 14) dB) (a9 (kI 4) ay)))) (kI 0) (l_ false)))) (rS 0))) (aD (dZ 9 (eL 1 [6,0,1] (kW (dS (a9 (rS 4) ay) .list)) (vz (dP (g2 (rB 0) (rB 1) (l_ true))) (dP (g2 (dg 3 bq (a9 (rS 2) (a9 (g2 (rB 3) (kI 15) dB) (a9 (kI 3) ay)))) (kI 0) (l_ false)))) (rS 0))) (aD (R7 8 (R7 9 (dZ 10 (eL 1 [] (kW (dS (a9 (rS 7) (a9 (rS 8) (a9 (dS (a9 (rS 6) ay) .list) (a9 (rS 9) ay)))) .tuple)) kT (bL (a9 (kO (oK (rB 0))) ay) (f_ g_)))))) (cu (dS (a9 (rS 3) (a9 (g2 (rB 10) (kI 0) aY) (a9 (g2 (rB 10) (kI 1) aY) (a9 (g2 (rB 10) (kI 2) aY) (a9 (g2 (rB 10) (kI 3) aY) (a9 (dg 3 bq (a9 (rS 0) (a9 (rS 1) (a9 (kI 5) ay)))) ay)))))) .tuple)))))))))
def oS:List D->R D:=eC 11 oR
def iy:aw->R Fl:=(aD (dC (vz (dP (g2 (rB 2) (dS ay .tuple) (l_ true))) (dP (g2 (dg 3 bq (a9 (rS 0) (a9 (kI 97) (a9 (kI 2) ay)))) (kI 0) (l_ false)))) (cu (dg 4 oS (a9 (rS 0) (a9 (rS 1) (a9 (rS 2) (a9 (rS 3) ay)))))) (fun ρ=>.ok (.nx ρ))) (aD (PQ 4) (aD (lc (Go (a9 (rS 2) ay)) (iX 2 (bO (bg 5) (bO (bg 6) jp))) (aD (cW 7 (dg 3 bq (a9 (rS 0) (a9 (g2 (g2 (rB 1) (kI 10) dB) (rB 5) dB) (a9 (kI 8) ay))))) (aD (dC (dP (g2 (rB 7) (kI 3) w_)) (nX 4 (g2 (dS (a9 (kI 0) (a9 (kI 0) (a9 (kI 1) ay))) .list) (rB 7) aY) (rS 6)) (fun ρ=>.ok (.nx ρ))) (aD (cW 7 (dg 3 bq (a9 (rS 0) (a9 (g2 (g2 (rB 1) (kI 20) dB) (rB 5) dB) (a9 (kI 8) ay))))) (dC (dP (g2 (rB 7) (kI 4) w_)) (nX 4 (g2 (dS (a9 (kI 2) (a9 (kI 2) (a9 (kI 3) (a9 (kI 3) ay)))) .list) (rB 7) aY) (rS 6)) (fun ρ=>.ok (.nx ρ))))))) (aD (fun ρ=>(dZ 8 (eL 1 [] (kW (rB 4)) kT (bL (a9 (rB 0) ay) (f_ g_)))) (fq ρ)) (cu (dS (a9 (rS 3) (a9 (g2 (rB 8) (kI 0) aY) (a9 (g2 (rB 8) (kI 1) aY) (a9 (g2 (rB 8) (kI 2) aY) (a9 (g2 (rB 8) (kI 3) aY) (a9 (dg 3 bq (a9 (rS 0) (a9 (rS 1) (a9 (kI 5) ay)))) ay)))))) .tuple))))))
def iz:List D->R D:=eC 9 iy
def m8:aw->R Fl:=(aD (cW 4 (dg 3 nc (a9 (rS 0) (a9 (rS 1) (a9 (rS 2) ay))))) (aD (dZ 5 (fun _=>.ok (.dict []))) (aD (lc (yb (a9 (dg 3 bq (a9 (rS 0) (a9 (g2 (rB 1) (kI 60) dB) (a9 (g2 (rB 3) (kI 1) dB) ay)))) ay)) (bg 6) (aD (cW 7 (dg 2 k7 (a9 (rS 0) (a9 (g2 (g2 (rB 1) (kI 70) dB) (g2 (kI 40) (rB 6) wZ) dB) ay)))) (Cc 5 (rS 7) (dg 4 iz (a9 (rS 0) (a9 (g2 (g2 (rB 1) (kI 80) dB) (g2 (kI 40) (rB 6) wZ) dB) (a9 (rS 4) (a9 (rS 7) ay)))))))) (aD (cW 8 (bL (a9 (rB 5) ay) (f_ kx))) (aD (cW 9 (dg 3 bq (a9 (rS 0) (a9 (g2 (rB 1) (kI 61) dB) (a9 (g2 (bL (a9 (rB 8) ay) (f_ fK)) (kI 1) dB) ay))))) (cu (dS (a9 (rS 4) (a9 (bL (a9 (eL 1 [5] (kW (g2 (DR (rB 8) (C5 (rS 9)) HK) (DR (rB 8) HK (C5 (rS 9))) dB)) kT (g2 (rB 1) (rB 0) aY)) ay) (f_ g_)) ay)) .tuple)))))))
def m9:List D->R D:=eC 10 m8
def md:aw->R Fl:=(aD (dZ 3 (dS ay .list)) (aD (dZ 4 (dS ay .list)) (aD (lc (Go (a9 (rS 2) ay)) (iX 2 (bO (bg 5) (bO (bg 6) jp))) (aD (cW 7 (dg 3 bq (a9 (rS 0) (a9 (g2 (rB 1) (rB 5) dB) (a9 (kI 8) ay))))) (dC (dP (g2 (rB 7) (kI 2) w_)) (nF 3 (rS 6)) (dC (dP (g2 (rB 7) (kI 2) (l_ false))) (nF 4 (rS 6)) (fun ρ=>.ok (.nx ρ)))))) (cu (dS (a9 (bL (a9 (rB 3) ay) (f_ g_)) (a9 (bL (a9 (rB 4) ay) (f_ g_)) ay)) .tuple)))))
def sP:List D->R D:=eC 8 md
def oT:aw->R Fl:=(aD (cW 3 (dg 4 m9 (a9 (rS 0) (a9 (kI 100) (a9 (rS 1) (a9 (rS 2) ay)))))) (aD (cW 4 (dg 4 k8 (a9 (rS 0) (a9 (kI 20) (a9 (g2 (rB 3) (kI 0) aY) (a9 (g2 (dS (a9 (kI 2) (a9 (kI 4) ay)) .list) (dg 3 bq (a9 (rS 0) (a9 (kI 97) (a9 (kI 2) ay)))) aY) ay)))))) (cu (dS (a9 (rS 3) (a9 (rS 4) (a9 (dg 3 sP (a9 (rS 0) (a9 (kI 30) (a9 (g2 (rB 3) (kI 0) aY) ay)))) ay))) .tuple))))
def mf:List D->R D:=eC 5 oT
def oU:aw->R Fl:=(cu (rY (bL (a9 (eL 1 [0] (kW (g2 (rB 1) (kI 0) aY)) kT (g2 (rB 0) (rB 1) (DM false))) ay) (f_ (gJ fun bs=>bs.all id))) (DK (bL (a9 (eL 1 [0] (kW (g2 (rB 1) (kI 1) aY)) kT (g2 (rB 0) (rB 1) (DM false))) ay) (f_ (gJ fun bs=>bs.any id))))))
def ij:List D->R D:=eC 2 oU
def oV:aw->R Fl:=(aD (dC (iJ (dP (dg 2 ij (a9 (rS 1) (a9 (DR (rB 0) (C5 (kI 1)) (C5 (kI 3))) ay))))) (cu kN) (fun ρ=>.ok (.nx ρ))) (aD (dZ 2 (eL 1 [0] (kW (rB 1)) (dP (g2 (rB 0) (g2 (rB 1) (kI 4) aY) (DM true))) (rS 0))) (cu (bL (a9 (kO (oK (g2 (rB 2) (bL (a9 (g2 (rB 0) (kI 3) aY) ay) (f_ kx)) dB))) ay) (f_ g_)))))
def fV:List D->R D:=eC 3 oV
def lF:aw->R Fl:=(aD (dZ 2 (Rz (rS 1) (kI 0))) (aD (dZ 3 (dS (a9 (rS 1) ay) .list)) (aD (cW 4 (kI 0)) (aD (iK (dP (g2 (rB 4) (bL (a9 (rB 3) ay) (f_ fK)) w_)) (aD (lc (kW (g2 (rB 0) (kI 1) aY)) (bg 5) (aD (cW 6 (dg 2 fV (a9 (rS 5) (a9 (g2 (rB 3) (rB 4) aY) ay)))) (dC (vz (dP (g2 (rB 6) kN (pG true))) (dP (g2 (rB 6) (rB 2) (Q3 true)))) (aD (r_ 2 (rS 6) (g2 (g2 (rB 2) (g2 (rB 3) (rB 4) aY) wB) (kI 1) dB)) (nF 3 (rS 6))) (fun ρ=>.ok (.nx ρ))))) (cW 4 (g2 (rB 4) (kI 1) dB))) 100000) (T8 2 (cu (rS 2)))))))
def jG:List D->R D:=eC 7 lF
def oW:aw->R Fl:=(aD (dZ 5 (dS ay .list)) (aD (lc (yb (a9 (rB 4) ay)) (bg 6) (aD (dZ 7 (eL 1 [3] (kW (g2 (rB 2) (kI 1) aY)) (dP (g2 (dg 2 fV (a9 (rS 0) (a9 (rS 1) ay))) kN (pG true))) (rS 0))) (aD (dC (dP (g2 (rB 7) (dS ay .list) (l_ false))) (cu (rS 5)) (fun ρ=>.ok (.nx ρ))) (aD (cW 8 (g2 (rB 7) (dg 3 bq (a9 (rS 0) (a9 (g2 (rB 1) (rB 6) dB) (a9 (bL (a9 (rB 7) ay) (f_ fK)) ay)))) aY)) (aD (nF 5 (g2 (rB 8) (kI 0) aY)) (cW 3 (dg 2 fV (a9 (rS 8) (a9 (rS 3) ay))))))))) (cu (rS 5))))
def mh:List D->R D:=eC 9 oW
def Iz:aw->R Fl:=(aD (sI (dg 3 mf (a9 (rS 0) (a9 (kI 5) (a9 (kI 6) ay)))) (iX 3 (bO (bg 1) (bO (bg 2) (bO (bg 3) jp))))) (aD (cW 4 (dg 5 mh (a9 (rS 0) (a9 (kI 300) (a9 (rS 1) (a9 (rS 2) (a9 (dg 3 bq (a9 (rS 0) (a9 (kI 0) (a9 (kI 7) ay)))) ay))))))) (aD (cW 5 (dg 4 k8 (a9 (rS 0) (a9 (kI 40) (a9 (g2 (rB 1) (kI 0) aY) (a9 (kI 4) ay)))))) (aD (cW 6 (dg 2 jG (a9 (rS 1) (a9 (rS 5) ay)))) (aD (cW 7 kN) (aD (lc (Em (a9 (bL (a9 (rB 4) ay) (f_ fK)) (a9 (pR (kI 1)) (a9 (pR (kI 1)) ay)))) (bg 8) (aD (cW 9 (dg 3 uC (a9 (rS 1) (a9 (rS 3) (a9 (DR (rB 4) (C5 (rS 8)) HK) ay))))) (aD (dZ 10 (dS ay .list)) (aD (dC (dP (g2 (rB 9) kN (pG true))) (dZ 10 (eL 1 [9,6] (K4 (rB 6)) (dP (dg 2 ij (a9 (rS 0) (a9 (rS 1) ay)))) (g2 (rB 2) (rB 0) wB))) (fun ρ=>.ok (.nx ρ))) (dC (vz (dP (g2 (rB 10) (dS ay .list) (l_ true))) (zL (dP (g2 (rB 7) kN (pG false))) (dP (g2 (bL (a9 (rB 10) ay) (f_ Ck)) (g2 (rB 7) (kI 0) aY) w_)))) (cW 7 (dS (a9 (bL (a9 (rB 10) ay) (f_ Ck)) (a9 (rS 8) ay)) .tuple)) (fun ρ=>.ok (.nx ρ))))))) (aD (cW 11 (dg 4 o6 (a9 (rS 1) (a9 (rS 5) (a9 (rS 3) (a9 (rS 4) ay)))))) (aD (dC (dP (g2 (rB 7) kN (pG false))) (cu (g2 (rB 11) kN (pG false))) (fun ρ=>.ok (.nx ρ))) (aD (sI (rS 7) (iX 2 (bO (bg 12) (bO (bg 8) jp)))) (aD (dC (zL (iJ (dP (sH (rB 11) "list"))) (zL (dP (g2 (bL (a9 (rB 11) ay) (f_ fK)) (g2 (g2 (rB 12) (bL (a9 (rB 4) ay) (f_ fK)) dB) (rB 8) JK) (l_ true))) (dP (g2 (DR (rB 11) (C5 (rS 12)) HK) (DR (rB 4) (C5 (rS 8)) HK) (l_ true))))) (cu (kB false)) (fun ρ=>.ok (.nx ρ))) (cu (dg 4 qw (a9 (rS 1) (a9 (rS 5) (a9 (rS 3) (a9 (rS 11) ay))))))))))))))))
def F_law:List D->R D:=eC 13 Iz
end
end Z
section
set_option hygiene false
namespace Z
open PySem L2 J
local macro_rules | `(tactic| walk_at "zz") => `(tactic| simp only [V8, T9, V9, Va, Vb, yq, nY, E2, UN, Mr, Ms, R8, UO, HV, E3, HW, E4, E5, E6, Mt, Mu, Mv, HX, Mw, HY, UQ, Ra, Rb, Mx, Rc, My, Re, UT, Mz, Rf, MA, HZ, MB, H_, Ri, MC, Ic, MD, ME, MF, MI, E7, E8, Rj, MJ, Ie, MK, UY, Rl, Rm, ML, Rn, MM, MN, Ro, Rp, MO, V1, MP, MQ, Rq, Rr, MR, SU, MS, Rs, Rt, MT, Ig, Ih, Rw, AW, AX, AY, MU, V3, MW, MX, MY, MZ, M_, N0, A_, yp, dB, JK, wZ, JL, Mb, DL, w_, QZ, Q_, JM, fK, aB, dn, aR, br, ao, Ow, fR, Jd, Je, v6, v7, Nat.reduceSub, Nat.reduceAdd, OW, OX, Nat.sub_self, if_true, if_false, ite_true, ite_false, bJ, decide_true, decide_false, cond_true, cond_false, ox, jQ, ar, cE, F_, Int.reduceLE, Int.reduceAdd, Int.reduceMul, Nat.reduceLT, Int.reduceNeg, reduceIte])
local macro_rules | `(tactic| walk_at "yy") => `(tactic| simp only [V8, T9, V9, Va, Vb, yq, nY, E2, R8, UO, HV, E3, HW, E4, E5, E6, Mt, Mu, Mv, HX, Mw, HY, UQ, Ra, Rb, Mx, Rc, My, Re, UT, Mz, Rf, MA, HZ, MB, H_, Ri, MC, Ic, MD, ME, MF, MI, E7, E8, Rj, MJ, Ie, MK, UY, Rl, Rm, ML, Rn, MM, MN, Ro, Rp, MO, V1, MP, MQ, Rq, Rr, MR, SU, MS, Rs, Rt, MT, Ig, Ih, Rw, AW, AX, AY, MU, V3, MW, MX, MY, MZ, M_, N0, A_, yp, dB, fK, aB, dn, aR, br, ao, Ow, fR, Jd, Je, v6, v7, Nat.reduceSub, Nat.reduceAdd, OW, OX, Nat.sub_self, if_true, if_false, ite_true, ite_false, bJ, decide_true, decide_false, cond_true, cond_false, ox, jQ, ar, cE, F_, Int.reduceLE, Int.reduceAdd, Int.reduceMul, Nat.reduceLT, Int.reduceNeg, reduceIte])
theorem cw {n:Nat}{g:aw->R Fl}{ds:List D}{d:D} (h:g (bM n ds)=.ok (.rt d)):eC n g ds=.ok d:=by unfold eC;rw [h]
def IA (ns:List Int) (k:Int):Int:=if k<ns.length then ns.getD k.toNat 0 else if ns=[] then 0 else ns.getD (k % ns.length).toNat 0 * 31 + k
theorem Nl (ns:List Int):bW (ns.map .int)=true:=by
 induction ns with
 | nil=>rfl
 | cons x r ih=>simp [bW,eI,ih]
theorem Q7 (ns:List Int):a_ (.list (ns.map .int)) (.list [])=decide (ns=[]):=by
 cases ns with
 | nil=>rfl
 | cons x r=>simp [a_,ev]
theorem Tb (ns:List Int):l_ false (.list (ns.map .int)) (.list [])=.ok (.bool (decide (ns=[]))):=by
 unfold l_
 have h1:(fh (ns.map .int)).canLay0=true:=by simp only [eI];exact Nl ns
 have h2:(fh []).canLay0=true:=rfl
 have h3:min (fh (ns.map .int)).depth (fh []).depth<=60:=bZ (pM _ _) (by decide)
 rw [h1,h2,decide_eq_true h3,Q7]
 rfl
theorem Tc (ns:List Int) (k:Int) (h0:0<=k) (h1:k<ns.length):Do (ns.map cx) k=some (.int (ns.getD k.toNat 0)):=by
 have hk:k.toNat<ns.length:=by omega
 have:=uc (xs:=ns.map cx) (j:=k.toNat) (v:=.int (ns.getD k.toNat 0)) (by rw [aZ,aN hk];simp [hk])
 rwa [fg h0] at this
theorem Nm (ns:List Int) (k:Int) (h0:0<=k) (h1:k<ns.length):aY (.list (ns.map .int)) (.int k)=.ok (.int (ns.getD k.toNat 0)):=by
 have e:∀ xs k,aY (.list xs) k=DQ (.list xs) k:=fun _ _=>rfl
 rw [e]
 unfold DQ
 simp only [Tc ns k h0 h1]
theorem IB {i j:Int} (h1:-(2 ^ 64)<j) (h2:j<2 ^ 64):AT i j=true:=by
 unfold AT
 simp only [hV,aQ,decide_eq_true_eq]
 exact .inr ⟨h1,h2⟩
theorem rf {i j:Int} (h1:-(2 ^ 64)<i) (h2:i<2 ^ 64):AT i j=true:=by
 unfold AT
 simp only [hV,aQ,decide_eq_true_eq]
 exact .inl ⟨h1,h2⟩
theorem Q8 (ns:List Int) (k:Int) (hk:0<=k):kG [.list (ns.map .int),.int k]=.ok (.int (IA ns k)):=by
 unfold kG
 refine cw ?_
 unfold kF bM IA
 walk_at "zz"
 by_cases h:k<ns.length
 ·simp only [h,decide_true,cond_true,if_true,Nm ns k hk h,bind_ok]
  walk_at "zz"
 ·simp only [h,decide_false,cond_false,if_false]
  walk_at "zz"
  rw [Tb]
  walk_at "zz"
  by_cases h2:ns=[]
  ·simp only [h2,decide_true,cond_true,if_true]
   walk_at "zz"
  ·have hl:(0:Int)<ns.length:=by have:0<ns.length:=List.length_pos_iff.mpr h2;omega
   simp only [h2,decide_false,cond_false,if_false,hl,decide_true]
   walk_at "zz"
   simp only [h2,decide_false,cond_false,if_false,hl,decide_true,if_true]
   walk_at "zz"
   rw [Nm ns _ (qL _ (by omega)) (ny _ hl)]
   walk_at "zz"
   rw [IB (by decide) (by decide)]
   walk_at "zz"
def yB (ns:List Int) (k:Int):Int:=(IA ns k + 7919 * k + 1) * 48271 % 2147483647
def eU (ns:List Int) (k m:Int):Int:=(yB ns k * yB ns k + 7 * yB ns k + k) % 2147483629 % m
theorem eV (ns:List Int) (k m:Int) (h:0<m):0<=eU ns k m:=qL _ (by omega)
theorem fL (ns:List Int) (k m:Int) (h:0<m):eU ns k m<m:=ny _ h
theorem eW (ns:List Int) (k m:Int) (hk:0<=k) (hm:0<m):bq [.list (ns.map .int),.int k,.int m]=.ok (.int (eU ns k m)):=by
 have d0:0<=yB ns k:=qL _ (by decide)
 have d1:yB ns k<2147483647:=ny _ (by decide)
 unfold bq
 refine cw ?_
 unfold n6 bM
 walk_at "zz"
 rw [Q8 ns k hk]
 walk_at "zz"
 rw [rf (by decide) (by decide)]
 walk_at "zz"
 rw [IB (by decide) (by decide)]
 walk_at "zz"
 rw [show (IA ns k + 7919 * k + 1) * 48271 % 2147483647=yB ns k from rfl,rf (i:=yB ns k) (by omega) (by omega)]
 walk_at "zz"
 rw [rf (i:=7) (by decide) (by decide)]
 walk_at "zz"
 rw [decide_eq_true hm]
 walk_at "zz"
 rfl
theorem qx {α β:Type}{kt:D->aw->R aw}{gb:aw->R Fl} (c:α->D) (f:β->α->β) (P:List α->β->aw->Prop) (h:∀ x c7 b ρ,P (x::c7) b ρ->∃ ρ1 ρ',kt (c x) ρ=.ok ρ1/\gb ρ1=.ok (.nx ρ')/\P c7 (f b x) ρ') :
  ∀ (xs:List α) (b:β) (ρ:aw),P xs b ρ->∃ ρ',gL kt gb (xs.map c) ρ=.ok (.nx ρ')/\P [] (xs.foldl f b) ρ'
 | [],b,ρ,p=>⟨ρ,rfl,p⟩
 | x::r,b,ρ,p=>by
  obtain ⟨ρ1,ρ2,h1,h2,h3⟩:=h x r b ρ p
  obtain ⟨ρ3,h4,h5⟩:=qx c f P h r (f b x) ρ2 h3
  refine ⟨ρ3,?_,h5⟩
  rw [aB]
  unfold gL
  rw [h1]
  simp only [h2]
  exact h4
theorem IC {α β:Type}{kt:D->aw->R aw}{gb hh:aw->R Fl}{r:R Fl} (c:α->D) (f:β->α->β) (P:List α->β->aw->Prop) {xs:List α} (b:β) {ρ:aw}
  (h:∀ x c7 b ρ,P (x::c7) b ρ->∃ ρ1 ρ',kt (c x) ρ=.ok ρ1/\gb ρ1=.ok (.nx ρ')/\P c7 (f b x) ρ') (p0:P xs b ρ) (k:∀ ρ',P [] (xs.foldl f b) ρ'->hh ρ'=r):(gL kt gb (xs.map c) ρ).bind (JZ hh)=r:=by
 obtain ⟨ρ',e,p⟩:=qx c f P h xs b ρ p0
 rw [e,bind_ok,nY]
 exact k ρ' p
theorem xx (n:Nat) (h:n<=1000):Gn [.int (n:Int)]=.ok ((bx n).map fun (i:Nat)=>cx (i:Int)):=by
 have e:Gn [.int (n:Int)]=.ok (qt 0 (n:Int).toNat):=PV (by omega) (by omega)
 rw [e]
 unfold qt
 rw [jS]
 exact congrArg R.ok (lV fun a _=>congrArg cx (Int.zero_add _))
def zM (x:Str):Bool:=decide (1<=x.cps.size) && decide (x.cps.size<=6/\x.cps.size≠5) && x.cps.toList.all fun c=>decide (97<=c) && decide (c<=122)
def s9 (ns:List Int) (k:Int):Nat:=[1,2,3,6,1,4].getD (eU ns k 6).toNat 0
def Cm (ns:List Int) (k:Int) (i:Nat):Nat:=97 + (eU ns (k + 1 + i) 26).toNat
def kQ (ns:List Int) (k:Int):Str:=⟨((bx (s9 ns k)).map (Cm ns k)).toArray⟩
theorem ID (ns:List Int) (k:Int):1<=s9 ns k/\(s9 ns k<=6/\s9 ns k≠5):=by
 have h0:=eV ns k 6 (by decide)
 have h1:=fL ns k 6 (by decide)
 unfold s9
 have:∀ j:_root_.Fin 6,1<=[1,2,3,6,1,4].getD j.val 0/\([1,2,3,6,1,4].getD j.val 0<=6/\[1,2,3,6,1,4].getD j.val 0≠5):=by decide
 exact this ⟨(eU ns k 6).toNat,by omega⟩
theorem Q9 (ns:List Int) (k:Int) (i:Nat):97<=Cm ns k i/\Cm ns k i<=122:=by
 have h0:=eV ns (k + 1 + i) 26 (by decide)
 have h1:=fL ns (k + 1 + i) 26 (by decide)
 unfold Cm
 omega
theorem Eo (ns:List Int) (k:Int):zM (kQ ns k)=true:=by
 have ⟨h1,h2⟩:=ID ns k
 unfold zM kQ
 simp only [aP,ao,eK,aQ,decide_eq_true_eq,ck]
 refine ⟨⟨h1,h2⟩,fun c hc=>?_⟩
 obtain ⟨i,_,rfl⟩:=List.mem_map.mp hc
 exact Q9 ns k i
theorem No (j:Int) (h0:0<=j) (h1:j<26):aY (.str "abcdefghijklmnopqrstuvwxyz") (.int j)=.ok (.str ⟨#[97 + j.toNat]⟩):=by
 have e:∀ x k,aY (.str x) k=DQ (.str x) k:=fun _ _=>rfl
 rw [e]
 unfold DQ
 have hc:("abcdefghijklmnopqrstuvwxyz" : Str).cps.toList=(bx 26).map (97 + ·):=by decide +kernel
 have hl:("abcdefghijklmnopqrstuvwxyz" : Str).length<=1000:=by decide +kernel
 have hj:j.toNat<26:=by omega
 have hx:=uc (xs:=(bx 26).map (97 + ·)) (j:=j.toNat) (v:=97 + j.toNat) (by rw [aZ,tT hj];rfl)
 rw [fg h0] at hx
 simp only [hl,if_true,hc,hx]
theorem Qa (j:Int) (h0:0<=j) (h1:j<6):aY (.list [.int 1,.int 2,.int 3,.int 6,.int 1,.int 4]) (.int j)=.ok (.int (([1,2,3,6,1,4].getD j.toNat 0:Nat):Int)):=by
 obtain ⟨n,rfl⟩:=pO h0
 have hn:n<6:=by omega
 match n,hn with
 | 0,_=>rfl
 | 1,_=>rfl
 | 2,_=>rfl
 | 3,_=>rfl
 | 4,_=>rfl
 | 5,_=>rfl
theorem Co (l:List Nat):∀ (acc:Str),l.foldl (fun (a:Str) c=>a++⟨#[c]⟩) acc=⟨(acc.cps.toList++l).toArray⟩:=by
 induction l with
 | nil=>intro acc;simp
 | cons c r ih =>
  intro acc
  rw [df,ih]
  show (⟨((acc.cps++#[c]).toList++r).toArray⟩:Str)=_
  simp
theorem K7:("" : Str).cps.toList=[]:=by decide +kernel
theorem IE (ns:List Int) (k:Int) (hk:0<=k):k7 [.list (ns.map .int),.int k]=.ok (.str (kQ ns k)):=by
 have h0:=eV ns k 6 (by decide)
 have h1:=fL ns k 6 (by decide)
 have ⟨w1,w2⟩:=ID ns k
 unfold k7
 refine cw ?_
 unfold oP bM
 walk_at "zz"
 rw [m7 (ds:=(bx (s9 ns k)).map fun (i:Nat)=>cx i)]
 ·refine IC (fun (i:Nat)=>cx i) (fun (a:Str) i=>a++⟨#[Cm ns k i]⟩) (fun c7 a ρ=>a.length + c7.length<=900/\∃ z,ρ=[.shr (.list (ns.map .int)),.shr (.int k),.shr (.str a),z]) "" ?_ ⟨by rw [eK,show ("" : Str).length=0 by decide];omega,_,rfl⟩ ?_
  ·rintro i c7 a ρ ⟨hl,z,rfl⟩
   simp only [aR] at hl
   refine ⟨_,[.shr (.list (ns.map .int)),.shr (.int k),.shr (.str (a++⟨#[Cm ns k i]⟩)),.shr (.int i)],rfl,?_,?_,_,rfl⟩
   ·walk_at "zz"
    rw [eW ns _ 26 (by omega) (by decide)]
    walk_at "zz"
    rw [No _ (eV _ _ _ (by decide)) (fL _ _ _ (by decide))]
    walk_at "zz"
    have hz:a.length + (⟨#[97 + (eU ns (k + 1 + i) 26).toNat]⟩:Str).length<=1000:=by
     show a.length + 1<=1000
     omega
    rw [if_pos hz]
    walk_at "zz"
    rw [show 97 + (eU ns (k + 1 + i) 26).toNat=Cm ns k i from rfl]
   ·show (a.cps++#[_]).size + c7.length<=900
    rw [Array.size_append]
    show a.cps.size + 1 + c7.length<=900
    have:a.length=a.cps.size:=rfl
    omega
  ·rintro ρ' ⟨_,z,rfl⟩
   walk_at "zz"
   have:(bx (s9 ns k)).foldl (fun (a:Str) i=>a++⟨#[Cm ns k i]⟩) ""=kQ ns k:=by
    have:=Co ((bx (s9 ns k)).map (Cm ns k)) ""
    rw [List.foldl_map] at this
    rw [this,K7]
    unfold kQ
    rw [fR]
   rw [this]
 ·walk_at "zz"
  rw [eW ns k 6 hk (by decide)]
  walk_at "zz"
  have et:=Qa (eU ns k 6) h0 h1
  have ew:[1,2,3,6,1,4].getD (eU ns k 6).toNat 0=s9 ns k:=rfl
  rw [ew] at et
  rw [et]
  walk_at "zz"
  rw [xx (s9 ns k) (by omega)]
def lG (l:List (Str×D)):List (D×D):=l.map fun p=>(.str p.1,p.2)
def uE (l:List (Str×D)) (x:Str) (d:D):List (Str×D):=if l.any (fun p=>decide (p.1=x)) then l.map (fun p=>if p.1=x then (p.1,d) else p) else l++[(x,d)]
theorem rg (x y:Str):a_ (.str x) (.str y)=decide (x=y):=by
 show (x == y)=_
 rw [qK]
theorem Qb (l:List (Str×D)) (x:Str) (d:D):vE (lG l) (.str x) d=lG (uE l x d):=by
 unfold vE uE lG
 rw [wu]
 have e:((fun kv:D×D=>a_ kv.1 (.str x))∘fun p:Str×D=>(aW p.1,p.2))=fun p=>decide (p.1=x):=by
  funext p
  exact rg p.1 x
 rw [e]
 split
 ·rw [cJ,cJ]
  apply lV
  intro p _
  simp only [Function.comp,rg]
  by_cases h:p.1=x
  ·simp [h]
  ·simp [h]
 ·simp
theorem yC (l:List (Str×D)):gR (lG l)=true:=by
 unfold gR lG
 rw [pX,ck]
 intro p _
 rfl
theorem Ep (l:List (Str×D)) (x:Str) (d:D):(uE l x d).length<=l.length + 1:=by
 unfold uE
 split<;>simp
theorem B7 (l:List (Str×D)) (x:Str) (d:D):(uE l x d).map (·.1)=if x∈l.map (·.1) then l.map (·.1) else l.map (·.1)++[x]:=by
 unfold uE
 have e:(l.any fun p=>decide (p.1=x))=decide (x∈l.map (·.1)):=by
  rw [jn]
  simp only [iR,decide_eq_true_eq,List.mem_map]
 rw [e]
 by_cases h:x∈l.map (·.1)
 ·rw [decide_eq_true h,if_pos rfl,if_pos h,cJ]
  apply lV
  intro p _
  by_cases hp:p.1=x<;>simp [hp]
 ·rw [decide_eq_false h,if_neg bi,if_neg h,aT]
  rfl
theorem Np {Q:Str->D->Prop}{l:List (Str×D)}{x:Str}{d:D} (h:∀ p∈l,Q p.1 p.2) (hx:Q x d):∀ p∈uE l x d,Q p.1 p.2:=by
 unfold uE
 split
 ·intro p hp
  obtain ⟨p',hp',rfl⟩:=List.mem_map.mp hp
  by_cases e:p'.1=x
  ·rw [if_pos e];rw [e];exact hx
  ·rw [if_neg e];exact h p' hp'
 ·intro p hp
  rcases List.mem_append.mp hp with hp | hp
  ·exact h p hp
  ·rw [List.mem_singleton.mp hp];exact hx
theorem K8 {l:List Str}{x:Str} (h:l.Nodup):(if x∈l then l else l++[x]).Nodup:=by
 by_cases hx:x∈l
 ·rw [if_pos hx];exact h
 ·rw [if_neg hx];exact xp h hx
theorem RA {i:Nat}{gk g:aw->R D}{ρ:aw}{l:List (Str×D)}{x:Str}{d:D} (hi:ρ[i]?=some (Sl.own (.dict (lG l)))) (hg:g ρ=.ok d) (hk:gk ρ=.ok (.str x)) (hl:l.length<1000):Cc i gk g ρ=.ok (.nx (ρ.set i (.own (.dict (lG (uE l x d)))))):=by
 have hl':(lG l).length<1000:=by unfold lG;rw [ao];exact hl
 have e:Cc i gk g ρ=(g ρ).bind fun d=>(gk ρ).bind fun k=>match qu k with
  | some _=>if (lG l).length<1000/\gR (lG l)=true then .ok (.nx (ρ.set i (.own (.dict (vE (lG l) k d))))) else .no
  | none=>.no:=by
  unfold Cc
  simp only [hi]
  try rfl
 rw [e,hg,yp,hk,yp]
 simp only [qu,if_pos (tS hl' (yC l)),Qb]
theorem Es (l:List (Str×D)):kx (.dict (lG l))=.ok (.list ((l.map (·.1)).map .str)):=by
 have e:∀ kvs,kx (.dict kvs)=if gR kvs=true then .ok (.list (kvs.map (·.1))) else .no:=fun _=>rfl
 rw [e,if_pos (yC l)]
 unfold lG
 rw [cJ,cJ]
 rfl
theorem sorted_strs (ss:List Str) (h:ss.length<64):qU (.list (ss.map .str))=.ok (.list ((jv ss).map .str)):=by
 have e:∀ ds,qU (.list ds)=match fU ds with
  | some ss=>if ss.length<64 then .ok (.list ((jv ss).map .str)) else .no
  | none=>.no:=fun _=>rfl
 rw [e,strsOf_map]
 simp only [if_pos h]
theorem fW (ds:List D):g_ (.list ds)=.ok (.tuple ds):=id rfl
def Cp (ns:List Int) (k:Int) (n:Nat):List Str:=(bx n).map fun (i:Nat)=>kQ ns (k + 1 + 8 * (i:Int))
def Cq (ns:List Int) (k m:Int):List Str:=jv (dk [] (Cp ns k (eU ns k (m + 1)).toNat))
structure Nq (fs:List Str) (n:Nat):Prop where
 ok:∀ x∈fs,zM x=true
 up:fs.Pairwise fun a b=>pF a b=true
 len:fs.length<=n
theorem Nr {α:Type}{a b:List α} (h:a.Perm b):a.length=b.length:=h.length_eq
theorem Gx (ns:List Int) (k m:Int) (hm:0<=m):Nq (Cq ns k m) m.toNat:=by
 have h0:=eV ns k (m + 1) (by omega)
 have h1:=fL ns k (m + 1) (by omega)
 have hp:=fS (dk [] (Cp ns k (eU ns k (m + 1)).toNat))
 refine ⟨fun x hx=>?_,?_,?_⟩
 ·have hx:=hp.mem_iff.mp hx
  rw [iq] at hx
  rcases hx with hx | hx
  ·cases hx
  ·obtain ⟨i,_,rfl⟩:=List.mem_map.mp hx
   exact Eo _ _
 ·exact vx (qj _) (hp.nodup_iff.mpr (ig _ [] gz))
 ·unfold Cq
  rw [Nr hp]
  have:=eS (Cp ns k (eU ns k (m + 1)).toNat) []
  unfold Cp at this ⊢
  simp at this
  omega
theorem K9 (f:Nat->Str) (l:List Nat):∀ acc:List (Str×D),((l.foldl (fun (a:List (Str×D)) i=>uE a (f i) (.bool true)) acc).map (·.1))=dk (acc.map (·.1)) (l.map f):=by
 induction l with
 | nil=>intro acc;rfl
 | cons i r ih =>
  intro acc
  rw [df,ih,aB,B7]
  rfl
theorem Nt (ns:List Int) (k m:Int) (hk:0<=k) (hm:0<=m) (hm2:m<=20):nc [.list (ns.map .int),.int k,.int m]=.ok (.tuple ((Cq ns k m).map .str)):=by
 have h0:=eV ns k (m + 1) (by omega)
 have h1:=fL ns k (m + 1) (by omega)
 unfold nc
 refine cw ?_
 unfold n8 bM
 walk_at "zz"
 rw [m7 (ds:=(bx (eU ns k (m + 1)).toNat).map fun (i:Nat)=>cx i)]
 ·refine IC (fun (i:Nat)=>cx i) (fun (a:List (Str×D)) i=>uE a (kQ ns (k + 1 + 8 * (i:Int))) (.bool true)) (fun c7 a ρ=>a.length + c7.length<=60/\∃ z,ρ=[.shr (.list (ns.map .int)),.shr (.int k),.shr (.int m),.own (.dict (lG a)),z]) [] ?_ ⟨by simp;omega,_,rfl⟩ ?_
  ·rintro i c7 a ρ ⟨hl,z,rfl⟩
   simp only [aR] at hl
   refine ⟨_,[.shr (.list (ns.map .int)),.shr (.int k),.shr (.int m),.own (.dict (lG (uE a (kQ ns (k + 1 + 8 * (i:Int))) (.bool true)))),.shr (.int i)],rfl,?_,?_,_,rfl⟩
   ·refine (RA (l:=a) (x:=kQ ns (k + 1 + 8 * (i:Int))) (d:=.bool true) rfl rfl ?_ (by omega)).trans rfl
    walk_at "zz"
    rw [rf (by decide) (by decide)]
    walk_at "zz"
    rw [IE ns _ (by omega)]
   ·have:=Ep a (kQ ns (k + 1 + 8 * (i:Int))) (.bool true)
    omega
  ·rintro ρ' ⟨hl,z,rfl⟩
   simp only [br] at hl
   walk_at "zz"
   rw [Es]
   walk_at "zz"
   have ek:=K9 (fun i=>kQ ns (k + 1 + 8 * (i:Int))) (bx (eU ns k (m + 1)).toNat) []
   rw [ek,sorted_strs]
   ·walk_at "zz"
    rw [fW]
    walk_at "zz"
    rfl
   ·rw [<- ek,ao];omega
 ·walk_at "zz"
  rw [eW ns k (m + 1) hk (by omega)]
  walk_at "zz"
  have:=xx (eU ns k (m + 1)).toNat (by omega)
  rw [fg h0] at this
  exact this
structure cf where
 name:Str
 needs:List Str
 bars:List Str
 makes:List Str
 ends:List Str
 price:Int
abbrev aA (xs:List Str):D:=.tuple (xs.map .str)
def c8 (e:cf):D:=.tuple [.str e.name,aA e.needs,aA e.bars,aA e.makes,aA e.ends,.int e.price]
structure Sub (fs xs:List Str):Prop where
 up:xs.Pairwise fun a b=>pF a b=true
 mem:∀ x∈xs,x∈fs
structure o7 (fs:List Str) (e:cf):Prop where
 name:zM e.name=true
 needs:Sub fs e.needs
 bars:Sub fs e.bars
 makes:Sub fs e.makes
 ends:Sub fs e.ends
 nb:∀ x∈e.needs,x∉e.bars
 me:∀ x∈e.makes,x∉e.ends
 p0:0<=e.price
 p9:e.price<=9
def tV (xs:List Str):List Str:=jv (dk [] xs)
theorem j3 {xs:List Str}{x:Str}:x∈tV xs↔x∈xs:=by
 unfold tV
 rw [(fS _).mem_iff,iq]
 simp
theorem Gy (xs:List Str):(tV xs).Pairwise fun a b=>pF a b=true:=vx (qj _) ((fS _).nodup_iff.mpr (ig _ [] gz))
theorem rh {fs xs:List Str} (h:∀ x∈xs,x∈fs):Sub fs (tV xs):=⟨Gy xs,fun x hx=>h x (j3.mp hx)⟩
theorem Cr (fs:List Str) (j:Int) (h0:0<=j) (h1:j<fs.length):∃ x,x∈fs/\aY (aA fs) (.int j)=.ok (.str x):=by
 have hj:j.toNat<fs.length:=by omega
 refine ⟨fs[j.toNat],gC hj,?_⟩
 have e:∀ xs k,aY (.tuple xs) k=DQ (.tuple xs) k:=fun _ _=>rfl
 rw [e]
 have hx:=uc (xs:=fs.map aW) (j:=j.toNat) (v:=.str fs[j.toNat]) (by rw [aZ,aN hj];rfl)
 rw [fg h0] at hx
 unfold DQ
 simp only [hx]
theorem yD (x:Str):∀ ys:List Str,((ys.map aW).any fun y=>a_ y (.str x))=decide (x∈ys)
 | []=>rfl
 | y::r=>by
  rw [aB,dX,yD x r,rg]
  by_cases h:y=x
  ·subst h;simp
  ·simp [h,db h]
theorem yE (ys:List Str):(ys.map aW).all lr=true:=by
 rw [pX,ck];intro _ _;rfl
theorem Qc (neg:Bool) (x:Str) (ys:List Str):DM neg (.str x) (.list (ys.map .str))=.ok (.bool (if neg then !decide (x∈ys) else decide (x∈ys))):=by
 have e:DM neg (.str x) (.list (ys.map .str))=if lr (.str x) && (ys.map aW).all lr then .ok (.bool (if neg then !((ys.map aW).any fun y=>a_ y (.str x)) else (ys.map aW).any fun y=>a_ y (.str x))) else .no:=rfl
 rw [e,yE,yD]
 rfl
theorem qy (neg:Bool) (x:Str) (ys:List Str):DM neg (.str x) (aA ys)=.ok (.bool (if neg then !decide (x∈ys) else decide (x∈ys))):=by
 have e:DM neg (.str x) (aA ys)=if lr (.str x) && (ys.map aW).all lr then .ok (.bool (if neg then !((ys.map aW).any fun y=>a_ y (.str x)) else (ys.map aW).any fun y=>a_ y (.str x))) else .no:=rfl
 rw [e,yE,yD]
 rfl
theorem li (neg:Bool) (a b:Int):l_ neg (.int a) (.int b)=.ok (.bool (if neg then !decide (a=b) else decide (a=b))):=by
 have e:l_ neg (.int a) (.int b)=.ok (.bool (if neg then !(a == b) else (a == b))):=rfl
 rw [e,qK]
theorem xy {x:Str} (h:zM x=true):(aW x).canLay0=true:=by
 unfold zM at h
 simp only [aQ,ck,decide_eq_true_eq] at h
 show PyData.strOk x=true
 unfold PyData.strOk
 rw [<- Array.all_toList,ck]
 intro c hc
 have:=h.2 c hc
 exact decide_eq_true (by omega)
theorem Cs (neg:Bool) {x y:Str} (hx:zM x=true) (hy:zM y=true):l_ neg (.str x) (.str y)=.ok (.bool (if neg then !decide (x=y) else decide (x=y))):=by
 unfold l_
 rw [xy hx,xy hy,rg]
 rfl
theorem yF (ss:List Str) (h:ss.length<60):sJ (.list (ss.map .str))=.ok (dk [] ss):=by
 have e:∀ ds,sJ (.list ds)=match fU ds with
  | some ss=>if ss.length<60 then .ok (dk [] ss) else .no
  | none=>.no:=fun _=>rfl
 rw [e,strsOf_map]
 simp only [if_pos h]
theorem IF (g:aw->R D) (s:Sl) (ρ:aw):oK g (s::ρ)=(g (s::ρ)).bind sJ:=id rfl
def RC:List Str->R D:=fun ss=>if ss.length<64 then .ok (.list ((jv ss).map .str)) else .no
theorem vI (g:aw->R (List Str)) (s:Sl) (ρ:aw):kO g (s::ρ)=(g (s::ρ)).bind RC:=id rfl
theorem yG (ss:List Str) (h:ss.length<64):RC ss=.ok (.list ((jv ss).map .str)):=if_pos h
theorem Ka (ss:List Str) (h:ss.length<60) (ρ:aw):(bL (J.a9 (kO (oK (rB 0))) J.ay) (f_ g_)) (.shr (.list (ss.map .str))::ρ)=.ok (aA (tV ss)):=by
 walk_at "zz"
 rw [vI,IF]
 walk_at "zz"
 rw [yF ss h]
 walk_at "zz"
 rw [yG _ (by have:=eS ss [];simp at this;omega)]
 walk_at "zz"
 rw [fW]
 rfl
theorem Et {ρ:aw}{gt:aw->R Bool}{x:Str}{b:Bool}{s:Sl}{r:aw} (hρ:ρ=s::r) (h:gt (.shr (.str x)::r)=.ok b):gg (hX 1 ρ gt (rS 0)) [.str x]=.ok ((if b then [x] else []).map .str):=by
 subst hρ
 have e:=mV (ρ:=s::r) (gt:=gt) (ge:=(rS 0)) (d:=.str x) (y:=.str x) (b:=b) h fun _=>rfl
 unfold gg
 rw [e,yp]
 unfold gg
 rw [yp]
 cases b<;>rfl
theorem Td (p q r t:List Str) (hp:p.length<60) (hq:q.length<60) (hr:r.length<60) (ht:t.length<60):gg (hX 1 [Sl.no] kT (bL (J.a9 (kO (oK (rB 0))) J.ay) (f_ g_))) [.list (p.map .str),.list (q.map .str),.list (r.map .str),.list (t.map .str)]=.ok [aA (tV p),aA (tV q),aA (tV r),aA (tV t)] :=
 d_ _ (fun ss:List Str=>fh (ss.map .str)) (fun ss=>aA (tV ss)) [p,q,r,t] fun ss hs=>gd rfl (Ka ss (by simp at hs;rcases hs with h | h | h | h<;>(rw [h];assumption)) _)
theorem RE (a b c d:D):aY (.list [a,b,c,d]) (.int 0)=.ok a:=id rfl
theorem RF (a b c d:D):aY (.list [a,b,c,d]) (.int 1)=.ok b:=id rfl
theorem RG (a b c d:D):aY (.list [a,b,c,d]) (.int 2)=.ok c:=id rfl
theorem RH (a b c d:D):aY (.list [a,b,c,d]) (.int 3)=.ok d:=id rfl
theorem Qd (ns:List Int) (k:Int) (hk:0<=k) (fs:List Str) (hf:∀ x∈fs,zM x=true) (h0:0<fs.length) (nm:Str) (hn:zM nm=true) :
  ∃ e,oS [.list (ns.map .int),.int k,aA fs,.str nm]=.ok (c8 e)/\o7 fs e/\e.name=nm:=by
 have hl:(0:Int)<(fs.length:Int):=by omega
 obtain ⟨a,ha,ea⟩:=Cr fs (eU ns (k + 10) fs.length) (eV _ _ _ hl) (fL _ _ _ hl)
 obtain ⟨b,hb,eb⟩:=Cr fs (eU ns (k + 11) fs.length) (eV _ _ _ hl) (fL _ _ _ hl)
 obtain ⟨c,hc,ec⟩:=Cr fs (eU ns (k + 12) fs.length) (eV _ _ _ hl) (fL _ _ _ hl)
 have m13a:=eV ns (k + 13) 3 (by decide)
 have m13b:=fL ns (k + 13) 3 (by decide)
 obtain ⟨nd,hnd,hnl,end_⟩:∃ nd:List Str,(∀ x∈nd,x∈fs)/\nd.length<60/\Ad (.list [.str a,.str b]) none (some (1 + eU ns (k + 13) 3 / 2))=.ok (.list (nd.map .str)):=by
  by_cases h2:eU ns (k + 13) 3=2
  ·exact ⟨[a,b],by simp [ha,hb],by simp,by rw [h2];rfl⟩
  ·have:eU ns (k + 13) 3 / 2=0:=by omega
   exact ⟨[a],by simp [ha],by simp,by rw [this];rfl⟩
 let bb:Bool:=!decide (c∈nd) && decide (eU ns (k + 14) 4=0)
 let be:Bool:=!decide (a=c) && decide (eU ns (k + 15) 3=0)
 have p0:=eV ns k 5 (by decide)
 have p1:=fL ns k 5 (by decide)
 refine ⟨⟨nm,tV nd,tV (if bb then [c] else []),tV [c],tV (if be then [a] else []),eU ns k 5⟩,?_,⟨hn,rh hnd,rh ?_,rh (by simp [hc]),rh ?_,fun x h1 h2=>?_,fun x h1 h2=>?_,p0,by show eU ns k 5<=9;omega⟩,rfl⟩
 ·unfold oS
  refine cw ?_
  unfold oR bM
  walk_at "zz"
  rw [eW ns _ _ (by omega) hl]
  walk_at "zz"
  rw [ea]
  walk_at "zz"
  rw [eW ns (k + 11) _ (by omega) hl]
  walk_at "zz"
  rw [eb]
  walk_at "zz"
  rw [eW ns (k + 12) _ (by omega) hl]
  walk_at "zz"
  rw [ec]
  walk_at "zz"
  rw [eW ns (k + 13) 3 (by omega) (by decide)]
  walk_at "zz"
  simp only [F_,decide_true,ou,if_true]
  walk_at "zz"
  rw [end_]
  walk_at "zz"
  rw [Et (b:=bb) rfl]
  ·walk_at "zz"
   rw [Et (b:=be) rfl]
   ·walk_at "zz"
    simp only [R7]
    rw [Ce rfl,Ce rfl]
    walk_at "zz"
    have pk:=Td nd (if bb then [c] else []) [c] (if be then [a] else []) hnl (by cases bb<;>simp) (by simp) (by cases be<;>simp)
    rw [show ([c].map aW)=[aW c] from rfl] at pk
    rw [pk]
    walk_at "zz"
    rw [RE]
    walk_at "zz"
    rw [RF]
    walk_at "zz"
    rw [RG]
    walk_at "zz"
    rw [RH]
    walk_at "zz"
    rw [eW ns k 5 hk (by decide)]
    walk_at "zz"
    rfl
   ·walk_at "zz"
    rw [Cs true (hf a ha) (hf c hc)]
    walk_at "zz"
    by_cases hac:a=c
    ·simp only [be,hac,decide_true,ox,Az,if_true,cond_false]
    ·simp only [be,hac,decide_false,jQ,u5,if_true,cond_true]
     rw [eW ns (k + 15) 3 (by omega) (by decide)]
     walk_at "zz"
     rw [li]
     walk_at "zz"
  ·walk_at "zz"
   rw [Qc]
   walk_at "zz"
   by_cases hcn:c∈nd
   ·simp only [bb,hcn,decide_true,ox,Az,if_true,cond_false]
   ·simp only [bb,hcn,decide_false,jQ,u5,if_true,cond_true]
    rw [eW ns (k + 14) 4 (by omega) (by decide)]
    walk_at "zz"
    rw [li]
    walk_at "zz"
 ·intro x hx
  cases hbb:bb
  ·simp [hbb] at hx
  ·simp [hbb] at hx;rw [hx];exact hc
 ·intro x hx
  cases hbe:be
  ·simp [hbe] at hx
  ·simp [hbe] at hx;rw [hx];exact ha
 ·have h2:x∈(if bb then [c] else []):=j3.mp h2
  cases hbb:bb
  ·simp [hbb] at h2
  ·simp [hbb] at h2
   subst h2
   have:(!decide (x∈nd))=true:=by
    have:(!decide (x∈nd) && decide (eU ns (k + 14) 4=0))=true:=hbb
    simp only [aQ] at this
    exact this.1
   simp at this
   exact this (j3.mp h1)
 ·cases hbe:be
  ·have h2:x∈(if be then [a] else []):=j3.mp h2
   simp [hbe] at h2
  ·skip
   have h4:x∈[c]:=j3.mp h1
   have h5:x∈(if be then [a] else []):=j3.mp h2
   simp only [dO] at h4
   simp only [hbe,if_true,dO] at h5
   have:(!decide (a=c) && decide (eU ns (k + 15) 3=0))=true:=hbe
   simp only [aQ] at this
   have h3:=this.1
   simp at h3
   exact h3 (h5.symm.trans h4)
theorem Ct {i:Nat}{gi g:aw->R D}{ρ:aw}{dss:List (List D)}{ds:List D}{d:D}{j:Int} (hi:ρ[i]?=some (Sl.ow2 dss)) (hj:gi ρ=.ok (.int j)) (h0:0<=j) (hd:dss[j.toNat]?=some ds) (hg:g ρ=.ok d) (hl:ds.length<1000):nX i gi g ρ=.ok (.nx (ρ.set i (.ow2 (dss.set j.toNat (ds++[d]))))):=by
 unfold nX
 simp only [hi,hj,bind_ok,if_pos h0,hd,hg,if_pos hl]
def nh (n:Nat):List Str->List (Nat×Str)
 | []=>[]
 | x::r=>(n,x)::nh (n + 1) r
abbrev cI (p:Nat×Str):D:=.tuple [.int (p.1:Nat),.str p.2]
theorem xz:∀ (xs:List Str) (n:Nat),jx n (xs.map .str)=(nh n xs).map cI
 | [],_=>rfl
 | x::r,n=>by
  show eY [.int n,.str x]::jx (n + 1) (r.map .str)=cI (n,x)::(nh (n + 1) r).map cI
  rw [xz r (n + 1)]
theorem rj:∀ (xs:List Str) (n:Nat),(nh n xs).map (·.2)=xs
 | [],_=>rfl
 | x::r,n=>by
  show x::(nh (n + 1) r).map (·.2)=x::r
  rw [rj r]
theorem uF:∀ (fs:List Str),(∀ x∈fs,zM x=true)->bW (fs.map .str)=true
 | [],_=>rfl
 | x::r,h=>by
  have h1:=xy (h x am)
  have h2:=uF r fun y hy=>h y (ak _ hy)
  simp only [aB,bW,h1,h2,ou]
theorem IG (fs:List Str) (hf:∀ x∈fs,zM x=true):l_ true (aA fs) (.tuple [])=.ok (.bool (!decide (fs=[]))):=by
 unfold l_
 have h1:(aA fs).canLay0=true:=by simp only [eI];exact uF fs hf
 have h2:(eY []).canLay0=true:=rfl
 have h3:min (aA fs).depth (eY []).depth<=60:=bZ (pM _ _) (by decide)
 have h4:a_ (aA fs) (.tuple [])=decide (fs=[]):=by
  cases fs with
  | nil=>rfl
  | cons x r=>simp [a_,ev]
 rw [h1,h2,decide_eq_true h3,h4]
 rfl
structure nG (pre p q:List Str):Prop where
 sp:p.Sublist pre
 sq:q.Sublist pre
 d:∀ x∈p,x∉q
theorem nG.skip {pre p q:List Str} (h:nG pre p q) (x:Str):nG (pre++[x]) p q:=⟨h.sp.trans (jb _ _),h.sq.trans (jb _ _),h.d⟩
theorem nG.left {pre p q:List Str} (h:nG pre p q) (x:Str) (hx:x∉pre):nG (pre++[x]) (p++[x]) q:=⟨h.sp.append (eu _),h.sq.trans (jb _ _),fun y hy hq=>by
 rcases List.mem_append.mp hy with h1 | h1
 ·exact h.d y h1 hq
 ·rw [List.mem_singleton.mp h1] at hq
  exact hx (h.sq.subset hq)⟩
theorem nG.right {pre p q:List Str} (h:nG pre p q) (x:Str) (hx:x∉pre):nG (pre++[x]) p (q++[x]):=⟨h.sp.trans (jb _ _),h.sq.append (eu _),fun y hy hq=>by
 rcases List.mem_append.mp hq with h1 | h1
 ·exact h.d y hy h1
 ·rw [List.mem_singleton.mp h1] at hy
  exact hx (h.sp.subset hy)⟩
abbrev o4 (p q r t:List Str):Sl:=.ow2 [p.map .str,q.map .str,r.map .str,t.map .str]
theorem Vd (j:Int) (h0:0<=j) (h1:j<3):∃ b:Bool,aY (.list [.int 0,.int 0,.int 1]) (.int j)=.ok (.int (if b then 0 else 1)):=by
 have:j=0\/j=1\/j=2:=by omega
 rcases this with h | h | h<;>subst h
 ·exact ⟨true,rfl⟩
 ·exact ⟨true,rfl⟩
 ·exact ⟨false,rfl⟩
theorem Ve (j:Int) (h0:0<=j) (h1:j<4):∃ b:Bool,aY (.list [.int 2,.int 2,.int 3,.int 3]) (.int j)=.ok (.int (if b then 2 else 3)):=by
 have:j=0\/j=1\/j=2\/j=3:=by omega
 rcases this with h | h | h | h<;>subst h
 ·exact ⟨true,rfl⟩
 ·exact ⟨true,rfl⟩
 ·exact ⟨false,rfl⟩
 ·exact ⟨false,rfl⟩
theorem uG (p:List Str) (x:Str):(p++[x]).map aW=p.map .str++[.str x]:=by simp
theorem Nu {a b c d e f:Sl}{pre p q r t:List Str}{x:Str}{j:Int} (hp:nG pre p q) (hx:x∉pre) (hl:pre.length<900) (h0:0<=j) :
  ∃ p' q',nG (pre++[x]) p' q'/\dC (dP (g2 (rB 7) (kI 3) w_)) (nX 4 (g2 (dS (J.a9 (kI 0) (J.a9 (kI 0) (J.a9 (kI 1) J.ay))) .list) (rB 7) aY) (rS 6)) (fun ρ=>.ok (.nx ρ)) [a,b,c,d,o4 p q r t,e,.shr (.str x),.shr (.int j),f]=.ok (.nx [a,b,c,d,o4 p' q' r t,e,.shr (.str x),.shr (.int j),f]):=by
 by_cases h3:j<3
 ·obtain ⟨bo,e3⟩:=Vd j h0 h3
  have lp:p.length<1000:=by have:=hp.sp.length_le;omega
  have lq:q.length<1000:=by have:=hp.sq.length_le;omega
  cases bo
  ·refine ⟨p,q++[x],hp.right x hx,?_⟩
   walk_at "zz"
   rw [decide_eq_true h3]
   walk_at "zz"
   simp only [o4,uG]
   refine (Ct (j:=1) (ds:=q.map .str) (d:=.str x) rfl ?_ (by decide) rfl rfl (by rw [ao];exact lq)).trans rfl
   walk_at "zz"
   rw [e3]
   rfl
  ·refine ⟨p++[x],q,hp.left x hx,?_⟩
   walk_at "zz"
   rw [decide_eq_true h3]
   walk_at "zz"
   simp only [o4,uG]
   refine (Ct (j:=0) (ds:=p.map .str) (d:=.str x) rfl ?_ (by decide) rfl rfl (by rw [ao];exact lp)).trans rfl
   walk_at "zz"
   rw [e3]
   rfl
 ·refine ⟨p,q,hp.skip x,?_⟩
  walk_at "zz"
  rw [decide_eq_false h3]
  walk_at "zz"
theorem Nv {a b c d e f:Sl}{pre p q r t:List Str}{x:Str}{j:Int} (hp:nG pre r t) (hx:x∉pre) (hl:pre.length<900) (h0:0<=j) :
  ∃ r' t',nG (pre++[x]) r' t'/\dC (dP (g2 (rB 7) (kI 4) w_)) (nX 4 (g2 (dS (J.a9 (kI 2) (J.a9 (kI 2) (J.a9 (kI 3) (J.a9 (kI 3) J.ay)))) .list) (rB 7) aY) (rS 6)) (fun ρ=>.ok (.nx ρ)) [a,b,c,d,o4 p q r t,e,.shr (.str x),.shr (.int j),f]=.ok (.nx [a,b,c,d,o4 p q r' t',e,.shr (.str x),.shr (.int j),f]):=by
 by_cases h3:j<4
 ·obtain ⟨bo,e3⟩:=Ve j h0 h3
  have lp:r.length<1000:=by have:=hp.sp.length_le;omega
  have lq:t.length<1000:=by have:=hp.sq.length_le;omega
  cases bo
  ·refine ⟨r,t++[x],hp.right x hx,?_⟩
   walk_at "zz"
   rw [decide_eq_true h3]
   walk_at "zz"
   simp only [o4,uG]
   refine (Ct (j:=3) (ds:=t.map .str) (d:=.str x) rfl ?_ (by decide) rfl rfl (by rw [ao];exact lq)).trans rfl
   walk_at "zz"
   rw [e3]
   rfl
  ·refine ⟨r++[x],t,hp.left x hx,?_⟩
   walk_at "zz"
   rw [decide_eq_true h3]
   walk_at "zz"
   simp only [o4,uG]
   refine (Ct (j:=2) (ds:=r.map .str) (d:=.str x) rfl ?_ (by decide) rfl rfl (by rw [ao];exact lp)).trans rfl
   walk_at "zz"
   rw [e3]
   rfl
 ·refine ⟨r,t,hp.skip x,?_⟩
  walk_at "zz"
  rw [decide_eq_false h3]
  walk_at "zz"
theorem Vf (i:Nat) (ρ:aw):PQ i ρ=.ok (.nx ((clear2 ρ).set i (.ow2 [[],[],[],[]]))):=id rfl
theorem nG.sub {fs p q:List Str} (up:fs.Pairwise fun a b=>pF a b=true) (h:nG fs p q):Sub fs p/\Sub fs q:=⟨⟨up.sublist h.sp,fun x hx=>h.sp.subset hx⟩,⟨up.sublist h.sq,fun x hx=>h.sq.subset hx⟩⟩
theorem Nw (p:List Str) (ρ:aw):(bL (J.a9 (rB 0) J.ay) (f_ g_)) (.shr (.list (p.map .str))::ρ)=.ok (aA p):=by
 walk_at "zz"
 rw [fW]
theorem Vg (p q r t:List Str):gg (hX 1 [Sl.no] kT (bL (J.a9 (rB 0) J.ay) (f_ g_))) [.list (p.map .str),.list (q.map .str),.list (r.map .str),.list (t.map .str)]=.ok [aA p,aA q,aA r,aA t] :=
 d_ _ (fun ss:List Str=>fh (ss.map .str)) (fun ss=>aA ss) [p,q,r,t] fun ss hs=>gd rfl (Nw ss _)
theorem Kb (ns:List Int) (k:Int) (hk:0<=k) (fs:List Str) (hf:∀ x∈fs,zM x=true) (up:fs.Pairwise fun a b=>pF a b=true) (nd:fs.Nodup) (hl:fs.length<=6) (nm:Str) (hn:zM nm=true) :
  ∃ e,iz [.list (ns.map .int),.int k,aA fs,.str nm]=.ok (c8 e)/\o7 fs e/\e.name=nm:=by
 have p0:=eV ns k 5 (by decide)
 have p1:=fL ns k 5 (by decide)
 have go:∀ ρ:aw,ρ=[.shr (.list (ns.map .int)),.shr (.int k),.shr (aA fs),.shr (.str nm),.no,.no,.no,.no,.no]->(!decide (fs=[]) && decide (eU ns 97 2=0))=false->∃ e,iy ρ=.ok (.rt (c8 e))/\o7 fs e/\e.name=nm:=by
  rintro ρ rfl hc
  obtain ⟨ρ',h1,p,q,r,t,h2,h3,h4⟩:∃ ρ',(lc (Go (J.a9 (rS 2) J.ay)) (iX 2 (bO (bg 5) (bO (bg 6) jp))) (aD (cW 7 (dg 3 bq (J.a9 (rS 0) (J.a9 (g2 (g2 (rB 1) (kI 10) dB) (rB 5) dB) (J.a9 (kI 8) J.ay))))) (aD (dC (dP (g2 (rB 7) (kI 3) w_)) (nX 4 (g2 (dS (J.a9 (kI 0) (J.a9 (kI 0) (J.a9 (kI 1) J.ay))) .list) (rB 7) aY) (rS 6)) (fun ρ=>.ok (.nx ρ))) (aD (cW 7 (dg 3 bq (J.a9 (rS 0) (J.a9 (g2 (g2 (rB 1) (kI 20) dB) (rB 5) dB) (J.a9 (kI 8) J.ay))))) (dC (dP (g2 (rB 7) (kI 4) w_)) (nX 4 (g2 (dS (J.a9 (kI 2) (J.a9 (kI 2) (J.a9 (kI 3) (J.a9 (kI 3) J.ay)))) .list) (rB 7) aY) (rS 6)) (fun ρ=>.ok (.nx ρ))))))) [.shr (.list (ns.map .int)),.shr (.int k),.shr (aA fs),.shr (.str nm),o4 [] [] [] [],.no,.no,.no,.no]=.ok (.nx ρ')/\∃ p q r t,nG fs p q/\nG fs r t/\∃ z5 z6 z7,ρ'=[.shr (.list (ns.map .int)),.shr (.int k),.shr (aA fs),.shr (.str nm),o4 p q r t,z5,z6,z7,.no]:=by
   rw [m7 (ds:=(nh 0 fs).map cI)]
   ·have H:=qx cI (fun (a:Unit) (_:Nat×Str)=>a) (fun c7 _ ρ=>∃ pre,pre++c7.map (·.2)=fs/\∃ p q r t,nG pre p q/\nG pre r t/\∃ z5 z6 z7,ρ=[.shr (.list (ns.map .int)),.shr (.int k),.shr (aA fs),.shr (.str nm),o4 p q r t,z5,z6,z7,.no]) (kt:=iX 2 (bO (bg 5) (bO (bg 6) jp))) (gb:=(aD (cW 7 (dg 3 bq (J.a9 (rS 0) (J.a9 (g2 (g2 (rB 1) (kI 10) dB) (rB 5) dB) (J.a9 (kI 8) J.ay))))) (aD (dC (dP (g2 (rB 7) (kI 3) w_)) (nX 4 (g2 (dS (J.a9 (kI 0) (J.a9 (kI 0) (J.a9 (kI 1) J.ay))) .list) (rB 7) aY) (rS 6)) (fun ρ=>.ok (.nx ρ))) (aD (cW 7 (dg 3 bq (J.a9 (rS 0) (J.a9 (g2 (g2 (rB 1) (kI 20) dB) (rB 5) dB) (J.a9 (kI 8) J.ay))))) (dC (dP (g2 (rB 7) (kI 4) w_)) (nX 4 (g2 (dS (J.a9 (kI 2) (J.a9 (kI 2) (J.a9 (kI 3) (J.a9 (kI 3) J.ay)))) .list) (rB 7) aY) (rS 6)) (fun ρ=>.ok (.nx ρ)))))))
    obtain ⟨ρ',h1,pre,h2,p,q,r,t,h3,h4,h5⟩:=H (by
     rintro ⟨i,x⟩ c7 _ ρ ⟨pre,h2,p,q,r,t,h3,h4,z5,z6,z7,rfl⟩
     have hx:x∉pre:=by
      rw [<- h2,aB] at nd
      have:=(List.nodup_append.mp nd).2.2
      intro hx
      exact this x hx x am rfl
     have hpl:pre.length<900:=by
      have:=congrArg rO h2
      rw [aG] at this
      omega
     obtain ⟨p',q',k1,k2⟩:=Nu (a:=.shr (.list (ns.map .int))) (b:=.shr (.int k)) (c:=.shr (aA fs)) (d:=.shr (.str nm)) (e:=.shr (.int (i:Nat))) (f:=.no) (r:=r) (t:=t) (j:=eU ns (k + 10 + i) 8) h3 hx hpl (eV _ _ _ (by decide))
     obtain ⟨r',t',k3,k4⟩:=Nv (a:=.shr (.list (ns.map .int))) (b:=.shr (.int k)) (c:=.shr (aA fs)) (d:=.shr (.str nm)) (e:=.shr (.int (i:Nat))) (f:=.no) (p:=p') (q:=q') (j:=eU ns (k + 20 + i) 8) h4 hx hpl (eV _ _ _ (by decide))
     refine ⟨[.shr (.list (ns.map .int)),.shr (.int k),.shr (aA fs),.shr (.str nm),o4 p q r t,.shr (.int (i:Nat)),.shr (.str x),z7,.no],[.shr (.list (ns.map .int)),.shr (.int k),.shr (aA fs),.shr (.str nm),o4 p' q' r' t',.shr (.int (i:Nat)),.shr (.str x),.shr (.int (eU ns (k + 20 + i) 8)),.no],rfl,?_,pre++[x],?_,p',q',r',t',k1,k3,_,_,_,rfl⟩
     ·rw [yq,Mt]
      walk_at "yy"
      rw [eW ns _ 8 (by omega) (by decide)]
      walk_at "yy"
      rw [k2]
      walk_at "yy"
      rw [eW ns _ 8 (by omega) (by decide)]
      walk_at "yy"
      rw [k4]
     ·rw [<- h2];simp) (nh 0 fs) () [.shr (.list (ns.map .int)),.shr (.int k),.shr (aA fs),.shr (.str nm),o4 [] [] [] [],.no,.no,.no,.no] ⟨[],by rw [rj];rfl,[],[],[],[],⟨eu _,eu _,fun _ h=>nomatch h⟩,⟨eu _,eu _,fun _ h=>nomatch h⟩,_,_,_,rfl⟩
    refine ⟨ρ',h1,p,q,r,t,?_,?_,h5⟩
    ·simp only [dn,de] at h2
     rw [<- h2];exact h3
    ·simp only [dn,de] at h2
     rw [<- h2];exact h4
   ·walk_at "zz"
    rw [xz]
  obtain ⟨s1,s2⟩:=h2.sub up
  obtain ⟨s3,s4⟩:=h3.sub up
  obtain ⟨z5,z6,z7,rfl⟩:=h4
  refine ⟨⟨nm,p,q,r,t,eU ns k 5⟩,?_,⟨hn,s1,s2,s3,s4,h2.d,h3.d,p0,by show eU ns k 5<=9;omega⟩,rfl⟩
  unfold iy
  have hand:vz (dP (g2 (rB 2) (dS J.ay .tuple) (l_ true))) (dP (g2 (dg 3 bq (J.a9 (rS 0) (J.a9 (kI 97) (J.a9 (kI 2) J.ay)))) (kI 0) (l_ false))) [.shr (.list (ns.map .int)),.shr (.int k),.shr (aA fs),.shr (.str nm),.no,.no,.no,.no,.no]=.ok false:=by
   walk_at "zz"
   rw [IG fs hf]
   walk_at "zz"
   by_cases h:fs=[]
   ·simp only [h,decide_true,ox,cond_false]
   ·simp only [h,decide_false,jQ,cond_true,u5] at hc ⊢
    rw [eW ns 97 2 (by decide) (by decide)]
    walk_at "zz"
    rw [li]
    walk_at "zz"
    rw [hc]
  rw [yq,UN,hand]
  simp only [yp,Mr,Vf,clear2,aB,dn,v7,v6,yp,nY,yq]
  rw [show Sl.ow2 [[],[],[],[]]=o4 [] [] [] [] from rfl,h1]
  walk_at "zz"
  rw [Vg]
  walk_at "zz"
  rw [RE]
  walk_at "zz"
  rw [RF]
  walk_at "zz"
  rw [RG]
  walk_at "zz"
  rw [RH]
  walk_at "zz"
  rw [eW ns k 5 hk (by decide)]
  walk_at "zz"
  rfl
 by_cases hc:(!decide (fs=[]) && decide (eU ns 97 2=0))=true
 ·have h0:0<fs.length:=by
   rcases fs with _ | ⟨x,r⟩
   ·simp at hc
   ·simp
  obtain ⟨e,h1,h2⟩:=Qd ns k hk fs hf h0 nm hn
  refine ⟨e,?_,h2⟩
  unfold iz
  refine cw ?_
  unfold iy bM
  walk_at "zz"
  rw [IG fs hf]
  walk_at "zz"
  simp only [aQ] at hc
  rw [hc.1]
  walk_at "zz"
  rw [eW ns 97 2 (by decide) (by decide)]
  walk_at "zz"
  rw [li]
  walk_at "zz"
  rw [hc.2]
  walk_at "zz"
  rw [h1]
  walk_at "zz"
 ·obtain ⟨e,h1,h2⟩:=go _ rfl (Bool.eq_false_iff.mpr hc)
  exact ⟨e,by unfold iz;exact cw h1,h2⟩
theorem Gz (ds:List D) (t:Nat) (h:t<=ds.length):x_ ds (some (t:Int)) none=ds.drop t:=by
 unfold x_
 rw [HT.Hv,HT.Dm,Nat.min_eq_left h,List.take_of_length_le (by rw [iO];exact ar _)]
theorem Te (ds:List D) (t:Nat) (h:t<=ds.length):x_ ds none (some (t:Int))=ds.take t:=by
 unfold x_
 rw [HT.Hv,HT.Dm,Nat.min_eq_left h,List.drop_zero,Nat.sub_zero]
theorem Vh (ds:List D) (t:Nat) (h:t<=ds.length):Ad (.list ds) (some (t:Int)) none=.ok (.list (ds.drop t)):=by
 rw [<- Gz ds t h];rfl
theorem Vi (ds:List D) (t:Nat) (h:t<=ds.length):Ad (.list ds) none (some (t:Int))=.ok (.list (ds.take t)):=by
 rw [<- Te ds t h];rfl
theorem Tf {l:List (Str×D)} (nd:(l.map (·.1)).Nodup) {p:Str×D} (hp:p∈l):aY (.dict (lG l)) (.str p.1)=.ok p.2:=by
 have e:∀ kvs x,aY (.dict kvs) (.str x)=if gR kvs=true then (match lu kvs (.str x) with
   | some d=>.ok d
   | none=>.no) else .no:=fun _ _=>rfl
 rw [e,if_pos (yC l)]
 have:lu (lG l) (.str p.1)=some p.2:=by
  unfold lu lG
  clear e
  induction l with
  | nil=>cases hp
  | cons q r ih =>
   rw [aB] at nd
   obtain ⟨n1,n2⟩:=List.nodup_cons.mp nd
   rw [aB,bN,rg]
   rcases List.mem_cons.mp hp with h | h
   ·subst h;simp
   ·have:q.1≠p.1:=fun z=>n1 (z ▸ bz h)
    rw [decide_eq_false this]
    exact ih n2 h
 rw [this]
structure cN (fs:List Str) (es:List cf):Prop where
 rise:Nq fs 6
 len:es.length<=6
 nd:(es.map (·.name)).Nodup
 ok:∀ e∈es,o7 fs e
def cU (fs:List Str) (es:List cf):D:=.tuple [aA fs,.tuple (es.map c8)]
theorem Vj (fs:List Str):∀ (l:List (Str×D)),(∀ p∈l,∃ e,p.2=c8 e/\o7 fs e/\e.name=p.1)->∃ es:List cf,l.map (·.2)=es.map c8/\es.map (·.name)=l.map (·.1)/\∀ e∈es,o7 fs e
 | [],_=>⟨[],rfl,rfl,fun _ h=>nomatch h⟩
 | p::r,h=>by
  obtain ⟨e,h1,h2,h3⟩:=h p am
  obtain ⟨es,k1,k2,k3⟩:=Vj fs r fun q hq=>h q (ak _ hq)
  refine ⟨e::es,by rw [aB,aB,h1,k1],by rw [aB,aB,h3,k2],fun x hx=>?_⟩
  rcases List.mem_cons.mp hx with z | z
  ·rw [z];exact h2
  ·exact k3 x z
theorem Kc {α:Type} (l:List α) (t:Nat):(l.drop t++l.take t).Perm l:=by
 refine List.perm_append_comm.trans ?_
 rw [List.take_append_drop]
theorem kR {l:List Str} (h:l.Pairwise fun a b=>pF a b=true):l.Nodup:=h.imp fun hab z=>by
 rw [z,sC] at hab
 cases hab
theorem Qe (ns:List Int) (k:Int) (hk:0<=k) (m n:Int) (hm0:0<=m) (hm:m<=6) (hn0:0<=n) (hn:n<=6):∃ fs es,m9 [.list (ns.map .int),.int k,.int m,.int n]=.ok (cU fs es)/\cN fs es/\fs.length<=m.toNat:=by
 have hr:=Gx ns k m hm0
 generalize hfs:Cq ns k m=fs at hr
 have hrl:=hr.len
 have hr:Nq fs 6:=⟨hr.ok,hr.up,by have:=hr.len;omega⟩
 have nd:=kR hr.up
 have m0:=eV ns (k + 60) (n + 1) (by omega)
 have m1:=fL ns (k + 60) (n + 1) (by omega)
 suffices H:∃ es,m9 [.list (ns.map .int),.int k,.int m,.int n]=.ok (cU fs es)/\cN fs es from H.elim fun es h=>⟨fs,es,h.1,h.2,hrl⟩
 unfold m9
 suffices H:∃ es,m8 (bM 10 [.list (ns.map .int),.int k,.int m,.int n])=.ok (.rt (cU fs es))/\cN fs es from H.elim fun es h=>⟨es,cw h.1,h.2⟩
 have H:=qx (fun (i:Nat)=>cx i) (fun (a:Unit) (_:Nat)=>a) (fun c7 _ ρ=>∃ l,l.length + c7.length<=6/\(l.map (·.1)).Nodup/\(∀ p∈l,∃ e,p.2=c8 e/\o7 fs e/\e.name=p.1)/\∃ z6 z7,ρ=[.shr (.list (ns.map .int)),.shr (.int k),.shr (.int m),.shr (.int n),.shr (aA fs),.own (.dict (lG l)),z6,z7,.no,.no]) (kt:=bg 6) (gb:=aD (cW 7 (dg 2 k7 (J.a9 (rS 0) (J.a9 (g2 (g2 (rB 1) (kI 70) dB) (g2 (kI 40) (rB 6) wZ) dB) J.ay)))) (Cc 5 (rS 7) (dg 4 iz (J.a9 (rS 0) (J.a9 (g2 (g2 (rB 1) (kI 80) dB) (g2 (kI 40) (rB 6) wZ) dB) (J.a9 (rS 4) (J.a9 (rS 7) J.ay)))))))
 obtain ⟨ρ',h1,l,h2,h3,h4,z6,z7,h5⟩:=H (by
  rintro i c7 _ ρ ⟨l,h2,h3,h4,z6,z7,rfl⟩
  simp only [aR] at h2
  have hw:=Eo ns (k + 70 + 40 * (i:Int))
  obtain ⟨e,e1,e2,e3⟩:=Kb ns (k + 80 + 40 * (i:Int)) (by omega) fs hr.ok hr.up nd hr.len (kQ ns (k + 70 + 40 * (i:Int))) hw
  have pl:=Ep l (kQ ns (k + 70 + 40 * (i:Int))) (c8 e)
  refine ⟨[.shr (.list (ns.map .int)),.shr (.int k),.shr (.int m),.shr (.int n),.shr (aA fs),.own (.dict (lG l)),.shr (.int i),z7,.no,.no],[.shr (.list (ns.map .int)),.shr (.int k),.shr (.int m),.shr (.int n),.shr (aA fs),.own (.dict (lG (uE l (kQ ns (k + 70 + 40 * (i:Int))) (c8 e)))),.shr (.int i),.shr (.str (kQ ns (k + 70 + 40 * (i:Int)))),.no,.no],rfl,?_,uE l (kQ ns (k + 70 + 40 * (i:Int))) (c8 e),by omega,?_,?_,_,_,rfl⟩
  ·walk_at "zz"
   rw [rf (by decide) (by decide)]
   walk_at "zz"
   rw [IE ns _ (by omega)]
   walk_at "zz"
   refine (RA (l:=l) (x:=kQ ns (k + 70 + 40 * (i:Int))) (d:=c8 e) rfl ?_ rfl (by omega)).trans rfl
   walk_at "zz"
   rw [rf (by decide) (by decide)]
   walk_at "zz"
   exact e1
  ·rw [B7];exact K8 h3
  ·exact Np (Q:=fun x d=>∃ e,d=c8 e/\o7 fs e/\e.name=x) h4 ⟨e,rfl,e2,e3⟩) (bx (eU ns (k + 60) (n + 1)).toNat) () [.shr (.list (ns.map .int)),.shr (.int k),.shr (.int m),.shr (.int n),.shr (aA fs),.own (.dict (lG [])),.no,.no,.no,.no] ⟨[],by rw [eK];simp only [br];omega,gz,fun _ h=>(nomatch h),_,_,rfl⟩
 simp only [br,wR] at h2
 have t0:=eV ns (k + 61) ((l.length:Int) + 1) (by omega)
 have t1:=fL ns (k + 61) ((l.length:Int) + 1) (by omega)
 obtain ⟨t,ht⟩:∃ t:Nat,eU ns (k + 61) ((l.length:Int) + 1)=t:=⟨_,(fg t0).symm⟩
 have tl:t<=l.length:=by omega
 have pm:=Kc l t
 obtain ⟨es,k1,k2,k3⟩:=Vj fs (l.drop t++l.take t) fun p hp=>h4 p (pm.mem_iff.mp hp)
 have kl:es.length=l.length:=by
  have:=congrArg rO k1
  rw [ao,ao,pm.length_eq] at this
  exact this.symm
 refine ⟨es,?_,hr,by omega,?_,k3⟩
 ·unfold m8 bM
  walk_at "yy"
  rw [Nt ns k m hk hm0 (by omega),hfs]
  walk_at "yy"
  rw [m7 (ds:=(bx (eU ns (k + 60) (n + 1)).toNat).map fun (i:Nat)=>cx i)]
  ·rw [show FA []=FA (lG []) from rfl,h1,h5]
   walk_at "yy"
   rw [Es]
   walk_at "yy"
   rw [eW ns _ _ (by omega) (by omega),ht]
   walk_at "yy"
   clear H h1
   rw [Vh _ t (by simpa using tl)]
   walk_at "yy"
   rw [Vi _ t (by simpa using tl)]
   walk_at "yy"
   have e1:(List.drop t (lm aW (lm (fun x=>x.fst) l))++List.take t (lm aW (lm (fun x=>x.fst) l)))=(l.drop t++l.take t).map fun p=>aW p.1:=by
    rw [aT,List.map_drop,List.map_take,cJ];rfl
   rw [e1,if_pos (by rw [<- aG,e1,ao,pm.length_eq];omega)]
   have pl:=pm.length_eq
   have px:∀ p∈l.drop t++l.take t,p∈l:=fun p hp=>pm.mem_iff.mp hp
   clear e1 pm k2
   generalize l.drop t++l.take t=L at pl px k1 ⊢
   walk_at "yy"
   rw [if_pos (by omega)]
   rw [d_ _ (fun p:Str×D=>aW p.1) (fun p=>p.2) L fun p hp=>gd rfl (by
    walk_at "yy"
    exact Tf h3 (px p hp))]
   walk_at "yy"
   rw [fW]
   walk_at "yy"
   rw [k1]
   rfl
  ·walk_at "yy"
   rw [eW ns (k + 60) (n + 1) (by omega) (by omega)]
   walk_at "yy"
   have:=xx (eU ns (k + 60) (n + 1)).toNat (by omega)
   rw [fg m0] at this
   exact this
 ·rw [k2]
  exact ((pm.map _).nodup_iff).mpr h3
theorem B8 {α:Type} (b:α->Bool):∀ xs:List α,mT (xs.map fun x=>cZ (b x))=some (xs.map b)
 | []=>rfl
 | x::r=>by
  show (mT (r.map fun x=>cZ (b x))).map (b x::·)=_
  rw [B8 b r]
  rfl
theorem jH {α:Type} (k:List Bool->Bool) (b:α->Bool) (xs:List α):gJ k (.list (xs.map fun x=>cZ (b x)))=.ok (.bool (k (xs.map b))):=by
 have e:∀ ds,gJ k (.list ds)=match mT ds with
  | some bs=>.ok (.bool (k bs))
  | none=>.no:=fun _=>rfl
 rw [e,B8]
theorem Nx {s s':Sl}{ρ:aw}{gt:aw->R Bool}{ge:aw->R D}{d d' y:D} (h1:gt (.shr d::.shr d'::ρ)=.ok true) (h2:ge (.shr d::.shr d'::ρ)=.ok y):hX 2 (s::s'::ρ) gt ge (.tuple [d,d'])=.ok (some y):=by
 have e:hX 2 (s::s'::ρ) gt ge (.tuple [d,d'])=JU ((gt (.shr d::.shr d'::ρ)).bind fun b=>if b then (ge (.shr d::.shr d'::ρ)).bind fun y=>.ok (some y) else .ok none):=id rfl
 rw [e,h1,bind_ok,if_pos rfl,h2];rfl
theorem Ny (x:Str):pZ (.str x)=true:=id rfl
theorem Nz (i:Int):pZ (.int i)=true:=id rfl
theorem xA {α:Type} (c:α->D) (h:∀ x,pZ (c x)=true):∀ xs:List α,noDs (xs.map c)=true
 | []=>rfl
 | x::r=>by
  show (pZ (c x) && noDs (r.map c))=true
  rw [h x,xA c h r];rfl
theorem NA (xs:List D):pZ (.tuple xs)=noDs xs:=id rfl
theorem ni (xs:List Str):pZ (aA xs)=true:=by
 rw [NA]
 exact xA _ (fun _=>rfl) xs
theorem IH (e:cf):pZ (c8 e)=true:=by
 have:pZ (c8 e)=(true && (pZ (aA e.needs) && (pZ (aA e.bars) && (pZ (aA e.makes) && (pZ (aA e.ends) && (true && true)))))):=rfl
 rw [this,ni,ni,ni,ni];rfl
theorem RI (es:List cf):pZ (.tuple (es.map c8))=true:=by
 rw [NA]
 exact xA _ IH es
theorem Qf (fs:List Str) (es:List cf):pZ (cU fs es)=true:=by
 have:pZ (cU fs es)=(pZ (aA fs) && (pZ (.tuple (es.map c8)) && true)):=rfl
 rw [this,ni,RI];rfl
theorem NB (x:Str):Ae "str" (.str x)=true:=id rfl
theorem yH (x:List D):Ae "tuple" (.tuple x)=true:=id rfl
theorem Tg (x:Int):Ae "int" (.int x)=true:=id rfl
theorem Th (x:Int):Ae "bool" (.int x)=false:=id rfl
theorem Qg:∀ c:_root_.Fin 123,97<=c.val->(!pF ⟨#[c.val]⟩ "a")=true/\(!pF "z" ⟨#[c.val]⟩)=true:=by decide +kernel
theorem B9 {x:Str} (h:zM x=true):n_ [.str x]=.ok (.bool true):=by
 have hw:=h
 unfold zM at h
 simp only [aQ,decide_eq_true_eq,ck] at h
 obtain ⟨⟨h1,h2⟩,h3⟩:=h
 have hl:x.length=x.cps.size:=rfl
 unfold n_
 refine cw ?_
 unfold qX bM
 walk_at "zz"
 rw [Ny,NB]
 walk_at "zz"
 rw [if_pos (by omega)]
 walk_at "zz"
 rw [decide_eq_true (by omega)]
 walk_at "zz"
 rw [decide_eq_true (by omega)]
 walk_at "zz"
 unfold nD
 walk_at "zz"
 rw [if_pos (by rw [av];omega)]
 rw [d_ _ (fun c:Nat=>aW ⟨#[c]⟩) (fun _=>cZ true) x.cps.toList fun c hc=>gd rfl (by
  obtain ⟨a1,a2⟩:=h3 c hc
  obtain ⟨b1,b2⟩:=Qg ⟨c,by omega⟩ a1
  walk_at "zz"
  simp only at b1 b2
  rw [b1]
  walk_at "zz"
  rw [b2])]
 walk_at "zz"
 rw [jH _ (fun _=>true)]
 walk_at "zz"
 simp
theorem Eu:∀ (xs ys:List Str),xa (xs.map .str) (ys.map .str)=(xs.zip ys).map fun p=>eY [.str p.1,.str p.2]
 | [],_=>rfl
 | _::_,[]=>rfl
 | x::r,y::r'=>by
  show eY [.str x,.str y]::xa (r.map .str) (r'.map .str)=_
  rw [Eu r r']
  rfl
theorem NC:∀ {l:List Str},(l.Pairwise fun a b=>pF a b=true)->∀ p∈l.zip (l.drop 1),pF p.1 p.2=true
 | [],_,p,hp=>by cases hp
 | [_],_,p,hp=>by cases hp
 | a::b::r,h,p,hp=>by
  obtain ⟨h1,h2⟩:=List.pairwise_cons.mp h
  rcases List.mem_cons.mp hp with z | z
  ·rw [z];exact h1 b am
  ·exact NC h2 p z
theorem Qh (xs:List Str):Ad (aA xs) (some 1) none=.ok (aA (xs.drop 1)):=by
 have e:Ad (aA xs) (some 1) none=.ok (.tuple (x_ (xs.map .str) (some 1) none)):=rfl
 rw [e]
 cases xs with
 | nil=>rfl
 | cons x r =>
  rw [show (1:Int)=((1:Nat):Int) from rfl,Gz _ 1 (by simp)]
  rfl
theorem wC {xs:List Str} (hw:∀ x∈xs,zM x=true) (up:xs.Pairwise fun a b=>pF a b=true) (hl:xs.length<=6):ft [aA xs]=.ok (.bool true):=by
 unfold ft
 refine cw ?_
 unfold gM bM
 walk_at "zz"
 rw [ni,yH]
 walk_at "zz"
 rw [if_pos (by omega)]
 rw [d_ _ (fun x:Str=>aW x) (fun _=>cZ true) xs fun x hx=>gd rfl (by
  walk_at "zz"
  rw [B9 (hw x hx)])]
 walk_at "zz"
 rw [jH _ (fun _=>true)]
 walk_at "zz"
 rw [show ((xs.map fun _=>true).all id)=true by simp]
 walk_at "zz"
 rw [Qh]
 walk_at "zz"
 rw [Eu]
 walk_at "zz"
 rw [if_pos (by simp;omega)]
 rw [d_ _ (fun p:Str×Str=>eY [.str p.1,.str p.2]) (fun _=>cZ true) (xs.zip (xs.drop 1)) fun p hp=>Nx rfl (by
  walk_at "zz"
  rw [NC up p hp])]
 walk_at "zz"
 rw [jH _ (fun _=>true)]
 walk_at "zz"
 simp
theorem j7 {fs xs:List Str} (hw:∀ x∈fs,zM x=true) (h:Sub fs xs) (hl:xs.length<=6):f9 [aA fs,aA xs]=.ok (.bool true):=by
 unfold f9
 refine cw ?_
 unfold mX bM
 walk_at "zz"
 rw [wC (fun x hx=>hw x (h.mem x hx)) h.up hl]
 walk_at "zz"
 rw [if_pos (by omega)]
 rw [d_ _ (fun x:Str=>aW x) (fun _=>cZ true) xs fun x hx=>gd rfl (by
  walk_at "zz"
  rw [qy,decide_eq_true (h.mem x hx)]
  rfl)]
 walk_at "zz"
 rw [jH _ (fun _=>true)]
 walk_at "zz"
 simp
theorem vJ {xs ys:List Str} (h:∀ x∈xs,x∉ys) (hl:xs.length<=6):cT [aA xs,aA ys]=.ok (.bool true):=by
 unfold cT
 refine cw ?_
 unfold jB bM
 walk_at "zz"
 rw [if_pos (by omega)]
 rw [d_ _ (fun x:Str=>aW x) (fun _=>cZ false) xs fun x hx=>gd rfl (by
  walk_at "zz"
  rw [qy,decide_eq_false (h x hx)]
  rfl)]
 walk_at "zz"
 rw [jH _ (fun _=>false)]
 walk_at "zz"
 simp
theorem GA {l i m:Int} (h0:l<=i) (h1:i<=m):oN [.int i,.int l,.int m]=.ok (.bool true):=by
 unfold oN
 refine cw ?_
 unfold oM bM
 walk_at "zz"
 rw [Nz,Tg]
 walk_at "zz"
 rw [Nz,Th]
 walk_at "zz"
 rw [decide_eq_true h0]
 walk_at "zz"
 rw [decide_eq_true h1]
theorem Cu:∀ (xs fs:List Str),xs.Nodup->(∀ x∈xs,x∈fs)->xs.length<=fs.length
 | [],_,_,_=>cE _
 | x::r,fs,nd,h=>by
  obtain ⟨n1,n2⟩:=List.nodup_cons.mp nd
  have hx:=h x am
  have:=Cu r (fs.erase x) n2 fun y hy=>(Ht fun (z:y=x)=>n1 (z ▸ hy)).mpr (h y (ak _ hy))
  rw [Dc hx] at this
  have:0<fs.length:=FC hx
  rw [aR]
  omega
theorem dI {fs xs:List Str} (h:Sub fs xs) (hl:fs.length<=6):xs.length<=6:=by
 exact bZ (Cu xs fs (kR h.up) h.mem) hl
theorem WL (a b c d e f g:D):E9 (iX 6 (bO (bg 2) (bO (bg 3) (bO (bg 4) (bO (bg 5) (bO (bg 6) (bO (bg 7) jp))))))) [Sl.shr a,Sl.shr (.tuple [b,c,d,e,f,g]),.no,.no,.no,.no,.no,.no] (.tuple [b,c,d,e,f,g])=.ok (.nx [Sl.shr a,Sl.shr (.tuple [b,c,d,e,f,g]),.shr b,.shr c,.shr d,.shr e,.shr f,.shr g]):=id rfl
theorem Ev {fs:List Str} (hr:Nq fs 6) {e:cf} (g:o7 fs e):mZ [aA fs,c8 e]=.ok (.bool true):=by
 have l1:=dI g.needs hr.len
 have l2:=dI g.bars hr.len
 have l3:=dI g.makes hr.len
 have l4:=dI g.ends hr.len
 unfold mZ
 refine cw ?_
 unfold mY bM
 walk_at "zz"
 rw [IH]
 unfold c8
 walk_at "zz"
 rw [yH]
 walk_at "zz"
 rw [li]
 walk_at "zz"
 rw [show decide (((6:Nat):Int)=6)=true from rfl]
 walk_at "zz"
 rw [WL]
 ·walk_at "zz"
  rw [B9 g.name]
  walk_at "zz"
  rw [GA g.p0 g.p9]
  walk_at "zz"
  have pk:=d_ (hX 1 [Sl.no,Sl.shr (aA fs)] kT (dg 2 f9 (J.a9 (rS 1) (J.a9 (rS 0) J.ay)))) (fun x:List Str=>aA x) (fun _=>cZ true) [e.needs,e.bars,e.makes,e.ends] fun x hx=>gd rfl (by
   walk_at "zz"
   simp only [b9,aS,or_false] at hx
   rcases hx with z | z | z | z<;>rw [z]
   ·rw [j7 hr.ok g.needs l1]
   ·rw [j7 hr.ok g.bars l2]
   ·rw [j7 hr.ok g.makes l3]
   ·rw [j7 hr.ok g.ends l4])
  simp only [aB,dn] at pk
  rw [pk]
  walk_at "zz"
  rw [show gJ (fun bs=>bs.all id) (.list [.bool true,.bool true,.bool true,.bool true])=.ok (.bool true) from rfl]
  walk_at "zz"
  rw [vJ g.nb l1]
  walk_at "zz"
  rw [vJ g.me l3]
  walk_at "zz"
theorem ND (l:List Str) (nd:l.Nodup):(dk [] l).length=l.length:=by
 have h1:=Cu (dk [] l) l (ig l [] gz) fun x hx=>((iq l [] x).mp hx).elim (fun h=>nomatch h) id
 have h2:=Cu l (dk [] l) nd fun x hx=>(iq l [] x).mpr (.inr hx)
 omega
theorem Kd (es:List cf) (hl:es.length<=6) (nd:(es.map (·.name)).Nodup) (s:Sl) (ρ:aw) (h:(s::ρ)[2]?=some (.shr (.tuple (es.map c8)))):uw (vG 1 [] (kW (rB 2)) kT (g2 (rB 0) (kI 0) aY)) (s::ρ)=.ok (.int (es.length:Nat)):=by
 have hr:FF (s::ρ) 2=.ok (.tuple (es.map c8)):=by unfold FF;rw [h]
 unfold uw vG
 rw [SU,T9,hr]
 walk_at "zz"
 rw [if_pos (by omega)]
 rw [d_ _ c8 (fun e=>aW e.name) es fun e he=>gd rfl (by
  walk_at "zz"
  rfl)]
 walk_at "zz"
 have:(es.map fun e=>aW e.name)=(es.map (·.name)).map .str:=by rw [cJ];rfl
 rw [this,strsOf_map]
 simp only [yp,ND _ nd,ao]
theorem WM (b c:D):E9 (iX 2 (bO (bg 1) (bO (bg 2) jp))) [Sl.shr (.tuple [b,c]),.no,.no] (.tuple [b,c])=.ok (.nx [Sl.shr (.tuple [b,c]),.shr b,.shr c]):=id rfl
theorem Ke {fs:List Str}{es:List cf} (g:cN fs es):qZ [cU fs es]=.ok (.bool true):=by
 have l1:=g.rise.len
 have l2:=g.len
 unfold qZ
 refine cw ?_
 unfold qY bM
 walk_at "zz"
 rw [Qf]
 unfold cU
 walk_at "zz"
 rw [yH]
 walk_at "zz"
 rw [li]
 walk_at "zz"
 rw [show decide (((2:Nat):Int)=2)=true from rfl]
 walk_at "zz"
 rw [WM]
 walk_at "zz"
 rw [wC g.rise.ok g.rise.up l1]
 walk_at "zz"
 rw [decide_eq_false (by omega)]
 walk_at "zz"
 rw [RI,yH]
 walk_at "zz"
 rw [decide_eq_false (by omega)]
 walk_at "zz"
 rw [if_pos (by omega)]
 rw [d_ _ c8 (fun _=>cZ true) es fun e he=>gd rfl (by
  walk_at "zz"
  rw [Ev g.rise (g.ok e he)])]
 walk_at "zz"
 rw [jH _ (fun _=>true)]
 walk_at "zz"
 rw [show ((es.map fun _=>true).all id)=true by simp]
 walk_at "zz"
 rw [Kd es l2 g.nd _ _ rfl]
 walk_at "zz"
 rw [li,decide_eq_true rfl]
 rfl
theorem yI {fs:List Str}{es:List cf} (g:cN fs es):o0 [cU fs es]=.ok (cU fs es):=by
 unfold o0
 refine cw ?_
 unfold rc bM
 walk_at "zz"
 rw [Ke g]
 walk_at "zz"
theorem Ba {α:Type} (c:α->D) (h:∀ x,a_ (c x) (c x)=true):∀ xs:List α,ev (xs.map c) (xs.map c)=true
 | []=>by simp [ev]
 | x::r=>by simp [ev,h x,Ba c h r]
theorem NE (xs:List Str):a_ (aA xs) (aA xs)=true:=by
 simp only [a_]
 exact Ba _ (fun x=>by rw [rg];simp) xs
theorem yJ {α:Type} (c:α->D):∀ xs:List α,(∀ x∈xs,(c x).canLay0=true)->bW (xs.map c)=true
 | [],_=>rfl
 | x::r,h=>by
  have h1:=h x am
  have h2:=yJ c r fun y hy=>h y (ak _ hy)
  simp only [aB,bW,h1,h2,ou]
theorem Bb {α:Type} (c:α->D) (n:Nat) (h:∀ x,(c x).depth<=n):∀ xs:List α,xo (xs.map c)<=n
 | []=>by simp [xo]
 | x::r=>by
  simp only [aB,xo]
  exact Nat.max_le.mpr ⟨h x,Bb c n h r⟩
theorem uH {fs xs:List Str} (hf:∀ x∈fs,zM x=true) (h:Sub fs xs):bW (xs.map .str)=true:=uF xs fun x hx=>hf x (h.mem x hx)
theorem NF {fs:List Str} (hf:∀ x∈fs,zM x=true) {e:cf} (g:o7 fs e):(c8 e).canLay0=true:=by
 unfold c8
 simp only [eI,bW]
 have:=xy g.name
 simp only [eI] at this
 rw [uH hf g.needs,uH hf g.bars,uH hf g.makes,uH hf g.ends,this]
 rfl
theorem yK {i:Nat}{g:aw->R D}{ρ:aw}{ds:List D}{d:D} (hi:ρ[i]?=some (Sl.own (.list ds))) (hg:g ρ=.ok d) (hl:ds.length<1000):nF i g ρ=.ok (.nx (ρ.set i (.own (.list (ds++[d]))))):=by
 unfold nF
 simp only [hi,hg,bind_ok,if_pos hl]
theorem NG {s s':Sl}{ρ:aw}{gt:aw->R Bool}{ge:aw->R D}{d d' y:D}{b:Bool} (h1:gt (.shr d::.shr d'::ρ)=.ok b) (h2:b=true->ge (.shr d::.shr d'::ρ)=.ok y):hX 2 (s::s'::ρ) gt ge (.tuple [d,d'])=.ok (if b then some y else none):=by
 have e:hX 2 (s::s'::ρ) gt ge (.tuple [d,d'])=JU ((gt (.shr d::.shr d'::ρ)).bind fun b=>if b then (ge (.shr d::.shr d'::ρ)).bind fun y=>.ok (some y) else .ok none):=id rfl
 rw [e,h1,bind_ok]
 cases b with
 | true=>rw [if_pos rfl,h2 rfl];rfl
 | false=>rfl
theorem Bc:∀ (xs:List Str) (n:Nat),(nh n xs).length=xs.length
 | [],_=>rfl
 | x::r,n=>by
  show (nh (n + 1) r).length + 1=r.length + 1
  rw [Bc r]
theorem II (ns:List Int) (k:Int) (hk:0<=k) (fs:List Str) (hl:fs.length<=6) (m:Int):∃ ss:List Str,k8 [.list (ns.map .int),.int k,aA fs,.int m]=.ok (aA ss)/\ss.Sublist fs:=by
 refine ⟨((nh 0 fs).filter fun q=>decide (eU ns (k + (q.1:Int)) 12<m)).map (·.2),?_,?_⟩
 ·unfold k8
  refine cw ?_
  unfold oQ bM
  walk_at "zz"
  rw [xz]
  walk_at "zz"
  rw [if_pos (by rw [Bc];omega)]
  rw [eT _ cI (fun q=>aW q.2) (fun q=>decide (eU ns (k + (q.1:Int)) 12<m)) (nh 0 fs) fun q hq=>NG (by
   walk_at "zz"
   rw [eW ns _ 12 (by omega) (by decide)]
   walk_at "zz") fun _=>rfl]
  walk_at "zz"
  rw [fW]
  walk_at "zz"
  unfold aA
  rw [cJ]
  rfl
 ·have:=(tU (l:=nh 0 fs) (p:=fun q=>decide (eU ns (k + (q.1:Int)) 12<m))).map (·.2)
  rw [rj] at this
  exact this
theorem Cv {fs xs:List Str} (up:fs.Pairwise fun a b=>pF a b=true) (h:xs.Sublist fs):Sub fs xs:=⟨up.sublist h,fun x hx=>h.subset hx⟩
def RJ (P:aw->Prop) (r:R Fl):Prop:=∃ ρ',r=.ok (.nx ρ')/\P ρ'
theorem Ew {α:Type}{kt:D->aw->R aw}{gb:aw->R Fl} (c:α->D) (p:α->Bool) (out:α->D) (P:aw->Prop):∀ (xs:List α) (ρ:aw),(∀ x∈xs,∀ ρ,P ρ->∃ ρ1,kt (c x) ρ=.ok ρ1/\(p x=true->gb ρ1=.ok (.rt (out x)))/\(p x=false->RJ P (gb ρ1)))->P ρ ->
  (∀ x,xs.find? p=some x->gL kt gb (xs.map c) ρ=.ok (.rt (out x)))/\(xs.find? p=none->RJ P (gL kt gb (xs.map c) ρ))
 | [],ρ,_,q=>⟨fun x h=>(nomatch h),fun _=>⟨ρ,rfl,q⟩⟩
 | x::r,ρ,h,q=>by
  obtain ⟨ρ1,h1,h2,h3⟩:=h x am ρ q
  rw [aB,bN]
  unfold gL
  rw [h1]
  cases hp:p x with
  | true =>
   refine ⟨fun y hy=>?_,fun hn=>nomatch hn⟩
   cases hy
   simp only [h2 hp]
  | false =>
   obtain ⟨ρ2,h4,h5⟩:=h3 hp
   simp only [h4]
   exact Ew c p out P r ρ2 (fun y hy=>h y (ak _ hy)) h5
structure hZ (fs m b:List Str):Prop where
 must:Sub fs m
 bars:Sub fs b
 mb:∀ x∈m,x∉b
abbrev eM (m b:List Str):D:=.tuple [aA m,aA b]
theorem IJ (p:List Str) (x:Str):p.map aW++[aW x]=(p++[x]).map .str:=by simp
theorem Qi (ns:List Int) (k:Int) (hk:0<=k) (fs:List Str) (up:fs.Pairwise fun a b=>pF a b=true) (hl:fs.length<=6):∃ m b,sP [.list (ns.map .int),.int k,aA fs]=.ok (eM m b)/\hZ fs m b:=by
 have nd:=kR up
 suffices H:∃ p q,md (bM 8 [.list (ns.map .int),.int k,aA fs])=.ok (.rt (eM p q))/\nG fs p q by
  obtain ⟨p,q,h1,h2⟩:=H
  exact ⟨p,q,cw h1,Cv up h2.sp,Cv up h2.sq,h2.d⟩
 unfold md bM
 walk_at "yy"
 rw [m7 (ds:=(nh 0 fs).map cI)]
 ·have H:=qx cI (fun (a:Unit) (_:Nat×Str)=>a) (fun c7 _ ρ=>∃ pre,pre++c7.map (·.2)=fs/\∃ p q,nG pre p q/\∃ z5 z6 z7,ρ=[.shr (.list (ns.map .int)),.shr (.int k),.shr (aA fs),.own (.list (p.map .str)),.own (.list (q.map .str)),z5,z6,z7]) (kt:=iX 2 (bO (bg 5) (bO (bg 6) jp))) (gb:=aD (cW 7 (dg 3 bq (J.a9 (rS 0) (J.a9 (g2 (rB 1) (rB 5) dB) (J.a9 (kI 8) J.ay))))) (dC (dP (g2 (rB 7) (kI 2) w_)) (nF 3 (rS 6)) (dC (dP (g2 (rB 7) (kI 2) (l_ false))) (nF 4 (rS 6)) (fun ρ=>.ok (.nx ρ)))))
  obtain ⟨ρ',h1,pre,h2,p,q,h3,z5,z6,z7,h4⟩:=H (by
   rintro ⟨i,x⟩ c7 _ ρ ⟨pre,h2,p,q,h3,z5,z6,z7,rfl⟩
   have hx:x∉pre:=by
    rw [<- h2,aB] at nd
    have:=(List.nodup_append.mp nd).2.2
    intro hx
    exact this x hx x am rfl
   have hpl:pre.length<900:=by
    have:=congrArg rO h2
    rw [aG] at this
    omega
   have lp:=h3.sp.length_le
   have lq:=h3.sq.length_le
   refine ⟨[.shr (.list (ns.map .int)),.shr (.int k),.shr (aA fs),.own (.list (p.map .str)),.own (.list (q.map .str)),.shr (.int (i:Nat)),.shr (.str x),z7],?_⟩
   by_cases c1:eU ns (k + (i:Nat)) 8<2
   ·refine ⟨[.shr (.list (ns.map .int)),.shr (.int k),.shr (aA fs),.own (.list ((p++[x]).map .str)),.own (.list (q.map .str)),.shr (.int (i:Nat)),.shr (.str x),.shr (.int (eU ns (k + (i:Nat)) 8))],rfl,?_,pre++[x],by rw [<- h2];simp,_,_,h3.left x hx,_,_,_,rfl⟩
    walk_at "zz"
    rw [eW ns _ 8 (by omega) (by decide)]
    walk_at "zz"
    rw [decide_eq_true c1]
    walk_at "zz"
    rw [<- IJ]
    exact yK (ds:=p.map .str) rfl rfl (by rw [ao];omega)
   ·by_cases c2:eU ns (k + (i:Nat)) 8=2
    ·refine ⟨[.shr (.list (ns.map .int)),.shr (.int k),.shr (aA fs),.own (.list (p.map .str)),.own (.list ((q++[x]).map .str)),.shr (.int (i:Nat)),.shr (.str x),.shr (.int (eU ns (k + (i:Nat)) 8))],rfl,?_,pre++[x],by rw [<- h2];simp,_,_,h3.right x hx,_,_,_,rfl⟩
     walk_at "zz"
     rw [eW ns _ 8 (by omega) (by decide)]
     walk_at "zz"
     rw [decide_eq_false c1]
     walk_at "zz"
     rw [li]
     walk_at "zz"
     rw [decide_eq_true c2]
     walk_at "zz"
     rw [<- IJ]
     exact yK (ds:=q.map .str) rfl rfl (by rw [ao];omega)
    ·refine ⟨[.shr (.list (ns.map .int)),.shr (.int k),.shr (aA fs),.own (.list (p.map .str)),.own (.list (q.map .str)),.shr (.int (i:Nat)),.shr (.str x),.shr (.int (eU ns (k + (i:Nat)) 8))],rfl,?_,pre++[x],by rw [<- h2];simp,_,_,h3.skip x,_,_,_,rfl⟩
     walk_at "zz"
     rw [eW ns _ 8 (by omega) (by decide)]
     walk_at "zz"
     rw [decide_eq_false c1]
     walk_at "zz"
     rw [li]
     walk_at "zz"
     rw [decide_eq_false c2]
     walk_at "zz") (nh 0 fs) () [.shr (.list (ns.map .int)),.shr (.int k),.shr (aA fs),.own (.list []),.own (.list []),.no,.no,.no] ⟨[],by rw [rj];rfl,[],[],⟨eu _,eu _,fun _ h=>nomatch h⟩,_,_,_,rfl⟩
  refine ⟨p,q,?_,?_⟩
  ·rw [h1,h4]
   walk_at "zz"
   rw [fW]
   walk_at "zz"
   rw [fW]
   walk_at "zz"
  ·simp only [dn,de] at h2
   rw [<- h2];exact h3
 ·walk_at "zz"
  rw [xz]
theorem Ti (j:Int) (h0:0<=j) (h1:j<2):∃ m:Int,aY (.list [.int 2,.int 4]) (.int j)=.ok (.int m):=by
 have:j=0\/j=1:=by omega
 rcases this with h | h<;>subst h
 ·exact ⟨2,rfl⟩
 ·exact ⟨4,rfl⟩
theorem Kf (fs:List Str) (es:List cf):aY (cU fs es) (.int 0)=.ok (aA fs):=id rfl
theorem Qj (fs:List Str) (es:List cf):aY (cU fs es) (.int 1)=.ok (.tuple (es.map c8)):=id rfl
theorem Qk (ns:List Int) (m n:Int) (hm0:0<=m) (hm:m<=6) (hn0:0<=n) (hn:n<=6):∃ fs es ss wm wb,mf [.list (ns.map .int),.int m,.int n]=.ok (.tuple [cU fs es,aA ss,eM wm wb])/\cN fs es/\Sub fs ss/\hZ fs wm wb/\fs.length<=m.toNat:=by
 obtain ⟨fs,es,hb,gb,fl⟩:=Qe ns 100 (by decide) m n hm0 hm hn0 hn
 obtain ⟨pt,hp⟩:=Ti (eU ns 97 2) (eV _ _ _ (by decide)) (fL _ _ _ (by decide))
 obtain ⟨ss,hs,gs⟩:=II ns 20 (by decide) fs gb.rise.len pt
 obtain ⟨wm,wb,hw,gw⟩:=Qi ns 30 (by decide) fs gb.rise.up gb.rise.len
 refine ⟨fs,es,ss,wm,wb,?_,gb,Cv gb.rise.up gs,gw,fl⟩
 unfold mf
 refine cw ?_
 unfold oT bM
 walk_at "zz"
 rw [hb]
 walk_at "zz"
 rw [Kf]
 walk_at "zz"
 rw [eW ns 97 2 (by decide) (by decide)]
 walk_at "zz"
 rw [hp]
 walk_at "zz"
 rw [hs]
 walk_at "zz"
 rw [Kf]
 walk_at "zz"
 rw [hw]
 walk_at "zz"
theorem Ex {xs ys:List Str} (hl:xs.length<=60):cT [aA xs,aA ys]=.ok (.bool (!xs.any fun x=>decide (x∈ys))):=by
 unfold cT
 refine cw ?_
 unfold jB bM
 walk_at "zz"
 rw [if_pos (by omega)]
 rw [d_ _ (fun x:Str=>aW x) (fun x=>cZ (decide (x∈ys))) xs fun x hx=>gd rfl (by
  walk_at "zz"
  rw [qy]
  rfl)]
 walk_at "zz"
 rw [jH _ (fun x=>decide (x∈ys))]
 walk_at "zz"
 rw [wu]
 rfl
theorem Vk (neg:Bool) (e:cf):pG neg (c8 e) .none=.ok (.bool neg):=by cases neg<;>rfl
theorem Vl (neg:Bool) (xs:List Str):pG neg (aA xs) .none=.ok (.bool neg):=by cases neg<;>rfl
theorem uI (neg:Bool):pG neg .none .none=.ok (.bool (!neg)):=by cases neg<;>rfl
theorem Ql (e:cf):aY (c8 e) (.int 0)=.ok (.str e.name):=id rfl
theorem WN (e:cf):aY (c8 e) (.int 3)=.ok (aA e.makes):=id rfl
theorem WO (e:cf):aY (c8 e) (.int 4)=.ok (aA e.ends):=id rfl
theorem Vm (e:cf):Ad (c8 e) (some 1) (some 3)=.ok (eM e.needs e.bars):=id rfl
theorem oC {xs:List D}{j:Nat}{v:D} (h:xs[j]?=some v):aY (.list xs) (.int (j:Nat))=.ok v:=by
 have e:aY (.list xs) (.int (j:Nat))=DQ (.list xs) (.int (j:Nat)):=rfl
 rw [e]
 unfold DQ
 simp only [uc h]
theorem WP (a x y z:D) (r:aw):E9 (iX 3 (bO (bg 1) (bO (bg 2) (bO (bg 3) jp)))) (Sl.shr a::.no::.no::.no::r) (.tuple [x,y,z])=.ok (.nx (.shr a::.shr x::.shr y::.shr z::r)):=id rfl
def bA (st a b:List Str):Bool:=(a.all fun x=>decide (x∈st)) && !b.any fun x=>decide (x∈st)
theorem WQ (m b:List Str):aY (eM m b) (.int 0)=.ok (aA m):=id rfl
theorem WR (m b:List Str):aY (eM m b) (.int 1)=.ok (aA b):=id rfl
theorem IK {st a b:List Str} (ha:a.length<=60) (hb:b.length<=60):ij [aA st,eM a b]=.ok (.bool (bA st a b)):=by
 unfold ij
 refine cw ?_
 unfold oU bM
 walk_at "zz"
 rw [WQ]
 walk_at "zz"
 rw [if_pos (by omega)]
 rw [d_ _ (fun x:Str=>aW x) (fun x=>cZ (decide (x∈st))) a fun x hx=>gd rfl (by
  walk_at "zz"
  rw [qy]
  rfl)]
 walk_at "zz"
 rw [jH _ (fun x=>decide (x∈st))]
 walk_at "zz"
 rw [WR]
 walk_at "zz"
 rw [if_pos (by omega)]
 rw [d_ _ (fun x:Str=>aW x) (fun x=>cZ (decide (x∈st))) b fun x hx=>gd rfl (by
  walk_at "zz"
  rw [qy]
  rfl)]
 walk_at "zz"
 rw [jH _ (fun x=>decide (x∈st))]
 walk_at "zz"
 unfold bA
 rw [pX,wu]
 have e:(id∘fun x=>decide (x∈st))=fun x=>decide (x∈st):=rfl
 rw [e]
 cases (a.all fun x=>decide (x∈st))<;>rfl
theorem Cy {n:Nat}{g:aw->R Fl}{ds:List D}{ρ:aw} (h:g (bM n ds)=.ok (.nx ρ)):eC n g ds=.ok .none:=by unfold eC;rw [h]
theorem Vn (a x y:D):E9 (iX 2 (bO (bg 2) (bO (bg 3) jp))) [Sl.shr a,.shr (.tuple [x,y]),.no,.no] (.tuple [x,y])=.ok (.nx [.shr a,.shr (.tuple [x,y]),.shr x,.shr y]):=id rfl
theorem sQ {st a b:List Str} (ha:a.length<=60) (hb:b.length<=60):lO [aA st,eM a b]=.ok (.bool (bA st a b)):=by
 unfold lO
 refine cw ?_
 unfold r9 bM eM
 walk_at "zz"
 rw [Vn]
 walk_at "zz"
 rw [if_pos (by omega)]
 rw [d_ _ (fun x:Str=>aW x) (fun x=>cZ (decide (x∈st))) a fun x hx=>gd rfl (by
  walk_at "zz"
  rw [qy]
  rfl)]
 walk_at "zz"
 rw [jH _ (fun x=>decide (x∈st))]
 walk_at "zz"
 rw [Ex (by omega)]
 unfold bA
 rw [pX]
 have e:(id∘fun x=>decide (x∈st))=fun x=>decide (x∈st):=rfl
 rw [e]
 cases (a.all fun x=>decide (x∈st))<;>rfl
theorem Kg {fs ss:List Str}{es:List cf} (g:cN fs es) (h:Sub fs ss):kA [cU fs es,aA ss]=.ok .none:=by
 unfold kA
 refine Cy (ρ:=[.shr (cU fs es),.shr (aA ss)]) ?_
 unfold kz bM
 walk_at "zz"
 rw [Kf]
 walk_at "zz"
 rw [j7 g.rise.ok h (dI h g.rise.len)]
 walk_at "zz"
theorem NH {fs ss:List Str}{es:List cf} (g:cN fs es) (h:Sub fs ss):kE [cU fs es,aA ss]=.ok .none:=by
 unfold kE
 refine Cy (ρ:=[.shr (cU fs es),.shr (aA ss)]) ?_
 unfold kC bM
 walk_at "zz"
 rw [yI g]
 walk_at "zz"
 rw [Kg g h]
 walk_at "zz"
theorem NI {fs:List Str}{es:List cf}{x y:D}{p q r:Bool} (n:pZ (.tuple [x,y])=true) (hx:f9 [aA fs,x]=.ok (.bool p)) (hy:p=true->f9 [aA fs,y]=.ok (.bool q)) (hs:p=true->q=true->cT [x,y]=.ok (.bool r)):r6 [cU fs es,.tuple [x,y]]=.ok (.bool (p && (q && r))):=by
 unfold r6
 refine cw ?_
 unfold q_ bM
 walk_at "zz"
 rw [n,yH]
 walk_at "zz"
 rw [li]
 walk_at "zz"
 rw [show decide (((2:Nat):Int)=2)=true from rfl]
 walk_at "zz"
 rw [Vn]
 walk_at "zz"
 rw [Kf]
 walk_at "zz"
 rw [hx]
 cases p with
 | false=>rfl
 | true =>
  walk_at "zz"
  rw [Kf]
  walk_at "zz"
  rw [hy rfl]
  cases q with
  | false=>rfl
  | true =>
   walk_at "zz"
   rw [hs rfl rfl]
   cases r<;>rfl
theorem Ey {fs m b:List Str}{es:List cf} (g:cN fs es) (h:hZ fs m b):jC [cU fs es,eM m b]=.ok .none:=by
 have n:pZ (eM m b)=true:=by
  have:pZ (eM m b)=(pZ (aA m) && (pZ (aA b) && true)):=rfl
  rw [this,ni,ni];rfl
 have l1:=dI h.must g.rise.len
 have l2:=dI h.bars g.rise.len
 unfold jC
 refine Cy (ρ:=[.shr (cU fs es),.shr (eM m b)]) ?_
 unfold lA bM
 walk_at "zz"
 rw [NI n (j7 g.rise.ok h.must l1) (fun _=>j7 g.rise.ok h.bars l2) (fun _ _=>vJ h.mb l1)]
 walk_at "zz"
 rfl
theorem NJ {fs ss m b:List Str}{es:List cf} (g:cN fs es) (h:Sub fs ss) (w:hZ fs m b):jf [cU fs es,aA ss,eM m b]=.ok .none:=by
 unfold jf
 refine Cy (ρ:=[.shr (cU fs es),.shr (aA ss),.shr (eM m b)]) ?_
 unfold n5 bM
 walk_at "zz"
 rw [NH g h]
 walk_at "zz"
 rw [Ey g w]
 walk_at "zz"
theorem NK (xs:List D):kx (.tuple xs)=.ok (.list xs):=id rfl
def uJ (es:List cf) (nm:Str):Option cf:=es.find? fun e=>decide (e.name=nm)
def Vo:Option cf->D
 | none=>.none
 | some e=>c8 e
theorem Bd {fs:List Str}{es:List cf} (g:cN fs es) {nm:Str} (hn:zM nm=true):gS [cU fs es,.str nm]=.ok (Vo (uJ es nm)):=by
 unfold gS
 refine cw ?_
 unfold j0 bM
 walk_at "zz"
 rw [Ny,NB]
 walk_at "zz"
 rw [m7 (ds:=es.map c8)]
 ·obtain ⟨h1,h2⟩:=Ew c8 (fun e=>decide (e.name=nm)) c8 (fun ρ=>∃ z,ρ=[Sl.shr (cU fs es),.shr (.str nm),z]) (kt:=bg 2) (gb:=dC (dP (g2 (g2 (rB 2) (kI 0) aY) (rB 1) (l_ false))) (cu (rS 2)) (fun ρ=>.ok (.nx ρ))) es [Sl.shr (cU fs es),.shr (.str nm),.no] (by
   rintro e he ρ ⟨z,rfl⟩
   refine ⟨[.shr (cU fs es),.shr (.str nm),.shr (c8 e)],rfl,fun hp=>?_,fun hp=>⟨[.shr (cU fs es),.shr (.str nm),.shr (c8 e)],?_,_,rfl⟩⟩
   ·walk_at "zz"
    rw [Ql]
    walk_at "zz"
    rw [Cs false (g.ok e he).name hn]
    walk_at "zz"
    rw [hp]
    walk_at "zz"
   ·walk_at "zz"
    rw [Ql]
    walk_at "zz"
    rw [Cs false (g.ok e he).name hn]
    walk_at "zz"
    rw [hp]
    walk_at "zz") ⟨_,rfl⟩
  cases hf:es.find? (fun e=>decide (e.name=nm)) with
  | some e =>
   rw [h1 e hf]
   walk_at "zz"
   unfold uJ
   rw [hf]
   rfl
  | none =>
   obtain ⟨ρ',e1,z,rfl⟩:=h2 hf
   rw [e1]
   walk_at "zz"
   unfold uJ
   rw [hf]
   rfl
 ·walk_at "zz"
  rw [Qj]
  walk_at "zz"
theorem sR:∀ {es:List cf},(es.map (·.name)).Nodup->∀ {e:cf},e∈es->uJ es e.name=some e
 | x::r,nd,e,he=>by
  obtain ⟨n1,n2⟩:=List.nodup_cons.mp nd
  unfold uJ
  rw [bN]
  rcases List.mem_cons.mp he with h | h
  ·subst h;simp
  ·have:x.name≠e.name:=fun z=>n1 (by show x.name∈_;rw [z];exact bz h)
   rw [decide_eq_false this]
   exact sR n2 h
structure Ez (e:cf):Prop where
 needs:e.needs.length<=6
 bars:e.bars.length<=6
 makes:e.makes.length<=6
 ends:e.ends.length<=6
theorem kS {fs:List Str}{es:List cf} (g:cN fs es) {e:cf} (he:e∈es):Ez e :=
 ⟨dI (g.ok e he).needs g.rise.len,dI (g.ok e he).bars g.rise.len,dI (g.ok e he).makes g.rise.len,dI (g.ok e he).ends g.rise.len⟩
theorem WS (e:cf):aY (c8 e) (.int 1)=.ok (aA e.needs):=id rfl
theorem WT (e:cf):aY (c8 e) (.int 2)=.ok (aA e.bars):=id rfl
def Be (e:cf) (st:List Str):Option (List Str):=if bA st e.needs e.bars then some (tV ((st.filter fun x=>!decide (x∈e.ends))++e.makes)) else none
def NL:Option (List Str)->D
 | none=>.none
 | some s=>aA s
theorem Cz {e:cf} (he:Ez e) {st:List Str} (hs:st.length<=30):fV [c8 e,aA st]=.ok (NL (Be e st)):=by
 have:=he.needs
 have:=he.bars
 have:=he.makes
 unfold fV
 refine cw ?_
 unfold oV bM
 walk_at "zz"
 rw [Vm]
 walk_at "zz"
 rw [IK (by omega) (by omega)]
 walk_at "zz"
 unfold Be
 cases hg:bA st e.needs e.bars with
 | false =>
  walk_at "zz"
  rfl
 | true =>
  walk_at "zz"
  rw [if_pos (by omega)]
  rw [eT _ (fun x:Str=>aW x) (fun x=>aW x) (fun x=>!decide (x∈e.ends)) st fun x hx=>mV (by
   walk_at "zz"
   rw [WO]
   walk_at "zz"
   rw [qy]
   rfl) fun _=>rfl]
  have hf:(st.filter fun x=>!decide (x∈e.ends)).length<=st.length:=i8 _ _
  walk_at "zz"
  rw [vI,IF]
  walk_at "zz"
  rw [WN]
  walk_at "zz"
  rw [NK]
  walk_at "zz"
  rw [if_pos (by omega)]
  walk_at "zz"
  rw [<- aT,yF _ (by rw [aG];omega)]
  walk_at "zz"
  rw [yG _ (by have:=eS ((st.filter fun x=>!decide (x∈e.ends))++e.makes) [];simp only [br,aG] at this;omega)]
  walk_at "zz"
  rw [fW]
  rfl
theorem NM:∀ {a b:List Str},(a.Pairwise fun x y=>pF x y=true)->(b.Pairwise fun x y=>pF x y=true)->(∀ x,x∈a↔x∈b)->a=b:=by
 intro a b ha hb h
 have na:=kR ha
 have nb:=kR hb
 have p:a.Perm b:=(mP na nb).mpr h
 exact p.eq_of_pairwise (fun x y _ _ h1 h2=>by
  have:=qR h1 h2
  rw [sC] at this
  cases this) ha hb
def aU (e:cf) (st:List Str):List Str:=tV ((st.filter fun x=>!decide (x∈e.ends))++e.makes)
theorem yL {e:cf}{st:List Str}{x:Str}:x∈aU e st↔(x∈st/\x∉e.ends)\/x∈e.makes:=by
 unfold aU
 rw [j3]
 simp [zK]
theorem Bf (e:cf) (st:List Str):Be e st=if bA st e.needs e.bars then some (aU e st) else none:=rfl
theorem Kh (s:List Str):NL (some s)=aA s:=rfl
theorem Ki:NL none=.none:=rfl
theorem Vp (ga gb:aw->R (List Str)) (s:Sl) (ρ:aw) {xs ys:List Str} (h1:ga (s::ρ)=.ok xs) (h2:gb (s::ρ)=.ok ys) (hl:xs.length + ys.length<=15):N7 ga gb (s::ρ)=.ok (dk xs ys):=by
 unfold N7 J.SX
 rw [h1,bind_ok,h2,bind_ok,if_pos hl]
theorem Bg (ss:List Str) (h:ss.length<60):sJ (aA ss)=.ok (dk [] ss):=by
 have e:∀ ds,sJ (.tuple ds)=match fU ds with
  | some ss=>if ss.length<60 then .ok (dk [] ss) else .no
  | none=>.no:=fun _=>rfl
 rw [e,strsOf_map]
 simp only [if_pos h]
theorem Tj (xs ys:List Str):jv (dk (dk [] xs) (dk [] ys))=tV (xs++ys):=by
 refine NM (vx (qj _) ((fS _).nodup_iff.mpr (ig _ _ (ig _ [] gz)))) (Gy _) fun x=>?_
 rw [(fS _).mem_iff,iq,iq,iq,j3,zI]
 simp
theorem vK {xs ys:List Str} (h:xs.length + ys.length<=12):nZ [aA xs,aA ys]=.ok (aA (tV (xs++ys))):=by
 have l1:=eS xs []
 have l2:=eS ys []
 simp only [br] at l1 l2
 have l3:=eS (dk [] ys) (dk [] xs)
 unfold nZ
 refine cw ?_
 unfold uy bM
 walk_at "zz"
 rw [vI,Vp _ _ _ _ (Bg xs (by omega)) (Bg ys (by omega)) (by omega)]
 walk_at "zz"
 rw [yG _ (by omega),Tj]
 walk_at "zz"
 rw [fW]
 walk_at "zz"
theorem yM {xs ys:List Str} (h:xs.length<=60):jZ [aA xs,aA ys]=.ok (aA (xs.filter fun x=>!decide (x∈ys))):=by
 unfold jZ
 refine cw ?_
 unfold qW bM
 walk_at "zz"
 rw [if_pos (by omega)]
 rw [eT _ (fun x:Str=>aW x) (fun x=>aW x) (fun x=>!decide (x∈ys)) xs fun x hx=>mV (by
  walk_at "zz"
  rw [qy]
  rfl) fun _=>rfl]
 walk_at "zz"
 rw [fW]
 walk_at "zz"
theorem Vq {i j:Nat}{gs:aw->R (List D)}{s:Sl}{ρ:aw}{d e:D} (h:gs (s::ρ)=.ok [d,e]):N8 i j gs (s::ρ)=.ok (.nx (((s::ρ).set i (.shr d)).set j (.shr e))):=by
 unfold N8
 rw [h]
 rfl
theorem Bh {e:cf} (he:Ez e) {st:List Str} (hs:st.length<=6):eE [c8 e,aA st]=.ok (aA (aU e st)):=by
 have:=he.makes
 have hf:(st.filter fun x=>!decide (x∈e.ends)).length<=st.length:=i8 _ _
 unfold eE
 refine cw ?_
 unfold jD bM
 walk_at "zz"
 rw [Vq (d:=aA e.makes) (e:=aA e.ends) rfl]
 walk_at "zz"
 rw [yM (by omega)]
 walk_at "zz"
 rw [vK (by omega)]
 rfl
theorem vL {e:cf} (he:Ez e) {st:List Str}:gD [c8 e,aA st]=.ok (.bool (bA st e.needs e.bars)):=by
 have:=he.needs
 have:=he.bars
 unfold gD
 refine cw ?_
 unfold m_ bM
 walk_at "zz"
 rw [WS]
 walk_at "zz"
 rw [WT]
 walk_at "zz"
 rw [sQ (by omega) (by omega)]
 walk_at "zz"
def jI:List cf->List Str->Option (List Str)
 | [],st=>some st
 | e::r,st=>if bA st e.needs e.bars then jI r (aU e st) else none
def k9:List cf->List Str->List (List Str)
 | [],st=>[st]
 | e::r,st=>if bA st e.needs e.bars then st::k9 r (aU e st) else [st]
def kH (st m b:List Str) (rs:List cf):Bool:=match jI rs st with
 | some s=>bA s m b
 | none=>false
theorem oX {fs st:List Str}{e:cf} (hf:fs.Pairwise fun a b=>pF a b=true) (g:o7 fs e) (h:Sub fs st):Sub fs (aU e st):=by
 refine ⟨Gy _,fun x hx=>?_⟩
 rcases yL.mp hx with z | z
 ·exact h.mem x z.1
 ·exact g.makes.mem x z
theorem Kj:∀ (rs:List cf) (st:List Str),(k9 rs st).length<=rs.length + 1
 | [],_=>ar _
 | e::r,st=>by
  unfold k9
  split
  ·have:=Kj r (aU e st)
   simp only [aR]
   omega
  ·simp
theorem Bj:∀ (rs:List cf) (st:List Str),decide (((rs.length:Nat):Int)<((k9 rs st).length:Nat))=(jI rs st).isSome
 | [],_=>rfl
 | e::r,st=>by
  unfold k9 jI
  cases bA st e.needs e.bars with
  | true =>
   rw [if_pos rfl,if_pos rfl,<- Bj r]
   simp only [aR]
   congr 1
   simp only [eq_iff_iff]
   omega
  | false =>
   rw [if_neg bi,if_neg bi]
   simp only [aR,br]
   exact decide_eq_false (by omega)
theorem yN:∀ (rs:List cf) (st s:List Str),jI rs st=some s->∃ pre,k9 rs st=pre++[s]
 | [],st,s,h=>by cases h;exact ⟨[],rfl⟩
 | e::r,st,s,h=>by
  unfold jI at h
  unfold k9
  cases hg:bA st e.needs e.bars with
  | true =>
   rw [hg,if_pos rfl] at h
   rw [if_pos rfl]
   obtain ⟨pre,hp⟩:=yN r _ _ h
   exact ⟨st::pre,by rw [hp];rfl⟩
  | false=>rw [hg] at h;cases h
theorem CA (xs:List D) (x:D):aY (.list (xs++[x])) (.int (-1))=.ok x:=by
 have e:aY (.list (xs++[x])) (.int (-1))=DQ (.list (xs++[x])) (.int (-1)):=rfl
 rw [e]
 unfold DQ
 have:Do (xs++[x]) (-1)=some x:=by
  unfold Do QM
  rw [if_neg (by decide),if_pos (by simp only [aG,aR,br];omega)]
  have hj:(-1 + ((xs++[x]).length:Int)).toNat=xs.length:=by simp only [aG,aR,br];omega
  simp only [ku,hj]
  rw [bf (ar _)]
  simp
 simp only [this]
def Qm (fs:List Str):List (List Str):=fs.foldl (fun acc f=>acc++acc.map (·++[f])) [[]]
theorem NN {i:Nat}{kt:D->aw->R aw}{gb:aw->R Fl}{ρ:aw}{d:D} (h:ρ[i]?=some (Sl.shr d)):rZ i kt gb ρ=lc (kW fun ρ=>FE ρ i) kt gb ρ:=by
 unfold rZ
 rw [h]
theorem CB {xs:List Str} (h:∀ x∈xs,zM x=true) (neg:Bool):l_ neg (.list (xs.map .str)) (.list (xs.map .str))=.ok (.bool (!neg)):=by
 have e:∀ ds es:List D,a_ (.list ds) (.list es)=a_ (.tuple ds) (.tuple es):=fun _ _=>rfl
 have h1:(fh (xs.map .str)).canLay0=true:=by simp only [eI];exact uF xs h
 have h2:(fh (xs.map .str)).depth<=60:=by
  have:=Bb aW 0 (fun x=>by simp [PyData.depth]) xs
  simp only [PyData.depth]
  omega
 unfold l_
 rw [h1,e,NE,decide_eq_true (bZ (Nat.min_le_left _ _) h2)]
 cases neg<;>rfl
structure GB (es rs:List cf):Prop where
 mem:∀ e∈rs,e∈es
 len:rs.length<=64
abbrev cY (rs:List cf):D:=.list (rs.map fun e=>aW e.name)
theorem EA (rs:List cf):noDs (rs.map fun e=>aW e.name)=true:=xA _ (fun _=>rfl) rs
theorem NO {fs:List Str}{es rs:List cf} (g:cN fs es) (h:GB es rs):uA [cU fs es,cY rs]=.ok (.bool true):=by
 have hl:=h.len
 unfold uA
 refine cw ?_
 unfold uz bM
 walk_at "zz"
 rw [show pZ (cY rs)=true from EA rs,show Ae "list" (cY rs)=true from rfl]
 walk_at "zz"
 rw [decide_eq_false (by omega)]
 walk_at "zz"
 rw [if_pos (by omega)]
 rw [d_ _ (fun e:cf=>aW e.name) (fun _=>cZ true) rs fun e he=>gd rfl (by
  walk_at "zz"
  rw [Bd g (g.ok e (h.mem e he)).name,sR g.nd (h.mem e he)]
  simp only [Vo]
  walk_at "zz"
  rw [Vk])]
 walk_at "zz"
 rw [jH _ (fun _=>true)]
 walk_at "zz"
 simp
theorem sS {fs:List Str}{es rs:List cf} (g:cN fs es) (h:GB es rs):gN [cU fs es,cY rs]=.ok (.list (rs.map c8)):=by
 have hl:=h.len
 unfold gN
 refine cw ?_
 unfold lB bM
 walk_at "zz"
 rw [NO g h]
 walk_at "zz"
 rw [if_pos (by omega)]
 rw [d_ _ (fun e:cf=>aW e.name) c8 rs fun e he=>gd rfl (by
  walk_at "zz"
  rw [Bd g (g.ok e (h.mem e he)).name,sR g.nd (h.mem e he)]
  rfl)]
 walk_at "zz"
theorem nj:SK (.int 1)=.ok (.int (-1)):=rfl
theorem wD (g:aw->R D) (s:Sl) (ρ:aw):pR g (s::ρ)=(g (s::ρ)).bind SK:=id rfl
theorem lH {kt:D->aw->R aw}{gb:aw->R Fl}{d:D}{r:List D}{ρ ρ1 ρ2:aw} (h1:kt d ρ=.ok ρ1) (h2:gb ρ1=.ok (.nx ρ2)):gL kt gb (d::r) ρ=gL kt gb r ρ2:=by
 rw [gL,h1]
 simp only [h2]
theorem xB {kt:D->aw->R aw}{gb:aw->R Fl}{d x:D}{r:List D}{ρ ρ1:aw} (h1:kt d ρ=.ok ρ1) (h2:gb ρ1=.ok (.rt x)):gL kt gb (d::r) ρ=.ok (.rt x):=by
 rw [gL,h1]
 simp only [h2]
theorem wE {fs:List Str}{es:List cf} (g:cN fs es) (A B:D):∀ (rs:List cf) (pre:List (List Str)) (st:List Str) (z:Sl),(∀ e∈rs,e∈es)->Sub fs st->pre.length + rs.length<=100 ->
  (∃ z',gL (bg 3) (aD (dC (iJ (dP (dg 2 gD (J.a9 (rS 3) (J.a9 (g2 (rB 2) (pR (kI 1)) aY) J.ay))))) (cu (rS 2)) (fun ρ=>.ok (.nx ρ))) (nF 2 (dg 2 eE (J.a9 (rS 3) (J.a9 (g2 (rB 2) (pR (kI 1)) aY) J.ay))))) (rs.map c8) [.shr A,.shr B,.own (.list ((pre++[st]).map aA)),z]=.ok (.nx [.shr A,.shr B,.own (.list ((pre++k9 rs st).map aA)),z'])) \/
  gL (bg 3) (aD (dC (iJ (dP (dg 2 gD (J.a9 (rS 3) (J.a9 (g2 (rB 2) (pR (kI 1)) aY) J.ay))))) (cu (rS 2)) (fun ρ=>.ok (.nx ρ))) (nF 2 (dg 2 eE (J.a9 (rS 3) (J.a9 (g2 (rB 2) (pR (kI 1)) aY) J.ay))))) (rs.map c8) [.shr A,.shr B,.own (.list ((pre++[st]).map aA)),z]=.ok (.rt (.list ((pre++k9 rs st).map aA)))
 | [],pre,st,z,_,_,_=>.inl ⟨z,rfl⟩
 | e::r,pre,st,z,hm,hs,hl=>by
  have he:=hm e am
  have sh:=kS g he
  simp only [aR] at hl
  have hix:aY (.list ((pre++[st]).map aA)) (.int (-1))=.ok (aA st):=by
   rw [aT]
   exact CA _ _
  unfold k9
  cases hg:bA st e.needs e.bars with
  | true =>
   rw [if_pos rfl]
   have e2:pre++st::k9 r (aU e st)=(pre++[st])++k9 r (aU e st):=by simp
   rw [e2,aB]
   have hb:=wE g A B r (pre++[st]) (aU e st) (.shr (c8 e)) (fun x hx=>hm x (ak _ hx)) (oX g.rise.up (g.ok e he) hs) (by rw [aG];simp only [aR,br];omega)
   have hbody:(aD (dC (iJ (dP (dg 2 gD (J.a9 (rS 3) (J.a9 (g2 (rB 2) (pR (kI 1)) aY) J.ay))))) (cu (rS 2)) (fun ρ=>.ok (.nx ρ))) (nF 2 (dg 2 eE (J.a9 (rS 3) (J.a9 (g2 (rB 2) (pR (kI 1)) aY) J.ay))))) [.shr A,.shr B,.own (.list ((pre++[st]).map aA)),.shr (c8 e)]=.ok (.nx [.shr A,.shr B,.own (.list ((pre++[st]++[aU e st]).map aA)),.shr (c8 e)]):=by
    walk_at "zz"
    rw [wD]
    walk_at "zz"
    rw [nj]
    walk_at "zz"
    rw [hix]
    walk_at "zz"
    rw [vL sh,hg]
    walk_at "zz"
    rw [aT (l₁:=pre++[st])]
    refine yK (ds:=(pre++[st]).map aA) (d:=aA (aU e st)) rfl ?_ (by rw [ao,aG];simp only [aR,br];omega)
    walk_at "zz"
    rw [wD]
    walk_at "zz"
    rw [nj]
    walk_at "zz"
    rw [hix]
    walk_at "zz"
    rw [Bh sh (dI hs g.rise.len)]
   rw [lH (ρ1:=[.shr A,.shr B,.own (.list ((pre++[st]).map aA)),.shr (c8 e)]) rfl hbody]
   exact hb
  | false =>
   rw [if_neg bi,aB]
   refine .inr (xB (ρ1:=[.shr A,.shr B,.own (.list ((pre++[st]).map aA)),.shr (c8 e)]) rfl ?_)
   walk_at "zz"
   rw [wD]
   walk_at "zz"
   rw [nj]
   walk_at "zz"
   rw [hix]
   walk_at "zz"
   rw [vL sh,hg]
   walk_at "zz"
theorem GC {fs st:List Str}{es rs:List cf} (g:cN fs es) (h:GB es rs) (hs:Sub fs st):iu [.list (rs.map c8),aA st]=.ok (.list ((k9 rs st).map aA)):=by
 have hl:=h.len
 unfold iu
 refine cw ?_
 unfold ir bM
 walk_at "zz"
 rw [NN (d:=.list (rs.map c8)) rfl,m7 (ds:=rs.map c8)]
 ·rcases wE g (.list (rs.map c8)) (aA st) rs [] st .no h.mem hs (by simp only [br];omega) with ⟨z,e⟩ | e
  ·rw [fR,fR] at e
   simp only [aB,dn] at e
   rw [e]
   walk_at "zz"
  ·rw [fR,fR] at e
   simp only [aB,dn] at e
   rw [e]
   walk_at "zz"
 ·walk_at "zz"
theorem Kk {fs st m b:List Str}{es rs:List cf} (g:cN fs es) (h:GB es rs) (hs:Sub fs st) (hw:hZ fs m b):qw [cU fs es,aA st,eM m b,cY rs]=.ok (.bool (kH st m b rs)):=by
 have l1:=dI hw.must g.rise.len
 have l2:=dI hw.bars g.rise.len
 unfold qw
 refine cw ?_
 unfold uB bM
 walk_at "zz"
 rw [NJ g hs hw]
 walk_at "zz"
 rw [sS g h]
 walk_at "zz"
 rw [GC g h hs]
 walk_at "zz"
 rw [Bj]
 unfold kH
 cases hr:jI rs st with
 | none =>
  rw [Option.isSome_none]
  walk_at "zz"
 | some s =>
  obtain ⟨pre,hp⟩:=yN rs st s hr
  rw [tP,hp,aT]
  walk_at "zz"
  rw [wD]
  walk_at "zz"
  rw [nj]
  walk_at "zz"
  rw [CA]
  walk_at "zz"
  rw [sQ (by omega) (by omega)]
  walk_at "zz"
def pK (xs ys:List Str):Bool:=xs.any fun x=>decide (x∈ys)
def mi (xs ys:List Str):List Str:=xs.filter fun x=>!decide (x∈ys)
def mH (e:cf) (w:List Str×List Str):Option (List Str×List Str) :=
 if pK e.makes w.2 || pK e.ends w.1 then none
 else if pK (tV (e.needs++mi w.1 e.makes)) (tV (e.bars++mi w.2 e.ends)) then none
 else some (tV (e.needs++mi w.1 e.makes),tV (e.bars++mi w.2 e.ends))
def EB:Option (List Str×List Str)->D
 | none=>.none
 | some w=>eM w.1 w.2
theorem lP {xs ys:List Str}:pK xs ys=true↔∃ x,x∈xs/\x∈ys:=by
 unfold pK
 simp only [iR,decide_eq_true_eq]
theorem o8 {xs ys:List Str}{x:Str}:x∈mi xs ys↔x∈xs/\x∉ys:=by
 unfold mi
 simp [zK]
theorem EC (xs ys:List Str):(mi xs ys).length<=xs.length:=i8 _ _
theorem Qn (xs:List Str):(tV xs).length<=xs.length:=by
 unfold tV
 rw [(fS _).length_eq]
 have:=eS xs []
 simpa using this
theorem WU (a b x y u v:D):E9 (iX 4 (bO (bg 2) (bO (bg 3) (bO (bg 4) (bO (bg 5) jp))))) [Sl.shr a,.shr b,.no,.no,.no,.no,.no,.no,.no,.no] (.tuple [x,y,u,v])=.ok (.nx [.shr a,.shr b,.shr x,.shr y,.shr u,.shr v,.no,.no,.no,.no]):=id rfl
theorem Vr (a x y u v d f:D):E9 (iX 2 (bO (bg 6) (bO (bg 7) jp))) [Sl.shr a,.shr (.tuple [d,f]),.shr x,.shr y,.shr u,.shr v,.no,.no,.no,.no] (.tuple [d,f])=.ok (.nx [.shr a,.shr (.tuple [d,f]),.shr x,.shr y,.shr u,.shr v,.shr d,.shr f,.no,.no]):=id rfl
theorem Vs (e:cf):Ad (c8 e) (some 1) (some 5)=.ok (.tuple [aA e.needs,aA e.bars,aA e.makes,aA e.ends]):=id rfl
theorem CC {xs ys:List Str} (hl:xs.length<=60):cT [aA xs,aA ys]=.ok (.bool (!pK xs ys)):=Ex hl
theorem Bk {xs ys:List Str} (h:xs.length<=60):jZ [aA xs,aA ys]=.ok (aA (mi xs ys)):=yM h
theorem uK {e:cf} (he:Ez e) {m b:List Str} (hm:m.length<=6) (hb:b.length<=6):ii [c8 e,eM m b]=.ok (EB (mH e (m,b))):=by
 have h1:=he.needs
 have h2:=he.bars
 have h3:=he.makes
 have h4:=he.ends
 have h5:=EC m e.makes
 have h6:=EC b e.ends
 have h7:=Qn (e.needs++mi m e.makes)
 rw [aG] at h7
 unfold ii
 refine cw ?_
 unfold oO bM eM
 walk_at "zz"
 rw [Vs]
 walk_at "zz"
 rw [WU]
 walk_at "zz"
 rw [Vr]
 walk_at "zz"
 rw [CC (by omega)]
 walk_at "zz"
 unfold mH
 cases c1:pK e.makes b with
 | true=>walk_at "zz";rfl
 | false =>
  walk_at "zz"
  rw [CC (by omega)]
  cases c2:pK e.ends m with
  | true=>walk_at "zz";rfl
  | false =>
   walk_at "zz"
   rw [Bk (by omega)]
   walk_at "zz"
   rw [vK (by omega)]
   walk_at "zz"
   rw [Bk (by omega)]
   walk_at "zz"
   rw [vK (by omega)]
   walk_at "zz"
   rw [CC (by omega)]
   cases c3:pK (tV (e.needs++mi m e.makes)) (tV (e.bars++mi b e.ends)) with
   | true =>
    walk_at "zz"
    rfl
   | false =>
    walk_at "zz"
    rfl
theorem vM {st a b:List Str}:bA st a b=true↔(∀ x∈a,x∈st)/\∀ x∈b,x∉st:=by
 unfold bA
 simp only [aQ,ck,decide_eq_true_eq,wt,wl]
def o9:List cf->List Str×List Str->Option (List Str×List Str)
 | [],w=>some w
 | e::r,w=>(o9 r w).bind (mH e)
theorem yO {fs m b m' b':List Str}{e:cf} (g:o7 fs e) (h:hZ fs m b) (ha:mH e (m,b)=some (m',b')):hZ fs m' b':=by
 unfold mH at ha
 split at ha
 ·cases ha
 ·split at ha
  ·cases ha
  ·rename_i c1 c2
   cases ha
   refine ⟨rh fun x hx=>?_,rh fun x hx=>?_,fun x h1 h2=>c2 (lP.mpr ⟨x,h1,h2⟩)⟩
   ·rcases List.mem_append.mp hx with z | z
    ·exact g.needs.mem x z
    ·exact h.must.mem x (o8.mp z).1
   ·rcases List.mem_append.mp hx with z | z
    ·exact g.bars.mem x z
    ·exact h.bars.mem x (o8.mp z).1
theorem vN {fs m b:List Str}{es:List cf} (g:cN fs es) (h:hZ fs m b):∀ {rs:List cf}{w:List Str×List Str},(∀ e∈rs,e∈es)->o9 rs (m,b)=some w->hZ fs w.1 w.2
 | [],w,_,e=>by cases e;exact h
 | x::r,w,hm,e=>by
  unfold o9 at e
  cases hr:o9 r (m,b) with
  | none=>rw [hr] at e;cases e
  | some v =>
   rw [hr] at e
   obtain ⟨m1,b1⟩:=v
   obtain ⟨m2,b2⟩:=w
   exact yO (g.ok x (hm x am)) (vN g h (fun y hy=>hm y (ak _ hy)) hr) e
theorem Qo {fs st m b:List Str}{e:cf} (g:o7 fs e):(bA st e.needs e.bars && bA (aU e st) m b)=(match mH e (m,b) with
  | some w=>bA st w.1 w.2
  | none=>false):=by
 rw [jn,aQ,vM,vM]
 unfold mH
 have ng:∀ x,x∈aU e st↔(x∈st/\x∉e.ends)\/x∈e.makes:=fun x=>yL
 by_cases c1:pK e.makes b=true
 ·obtain ⟨x,x1,x2⟩:=lP.mp c1
  simp only [c1,Bool.true_or,if_true]
  constructor
  ·rintro ⟨_,_,h⟩
   exact absurd ((ng x).mpr (.inr x1)) (h x x2)
  ·exact fun h=>nomatch h
 by_cases c2:pK e.ends m=true
 ·obtain ⟨x,x1,x2⟩:=lP.mp c2
  simp only [c2,Bool.or_true,if_true]
  constructor
  ·rintro ⟨_,h,_⟩
   rcases (ng x).mp (h x x2) with z | z
   ·exact absurd x1 z.2
   ·exact absurd x1 (g.me x z)
  ·exact fun h=>nomatch h
 have d1:∀ x,x∈e.makes->x∉b:=fun x h1 h2=>c1 (lP.mpr ⟨x,h1,h2⟩)
 have d2:∀ x,x∈e.ends->x∉m:=fun x h1 h2=>c2 (lP.mpr ⟨x,h1,h2⟩)
 have key:((∀ x∈e.needs,x∈st)/\∀ x∈e.bars,x∉st)/\((∀ x∈m,x∈aU e st)/\∀ x∈b,x∉aU e st)↔(∀ x∈tV (e.needs++mi m e.makes),x∈st)/\∀ x∈tV (e.bars++mi b e.ends),x∉st:=by
  constructor
  ·rintro ⟨⟨h1,h2⟩,h3,h4⟩
   refine ⟨fun x hx=>?_,fun x hx=>?_⟩
   ·rcases List.mem_append.mp (j3.mp hx) with z | z
    ·exact h1 x z
    ·obtain ⟨z1,z2⟩:=o8.mp z
     rcases (ng x).mp (h3 x z1) with y | y
     ·exact y.1
     ·exact absurd y z2
   ·rcases List.mem_append.mp (j3.mp hx) with z | z
    ·exact h2 x z
    ·obtain ⟨z1,z2⟩:=o8.mp z
     exact fun y=>h4 x z1 ((ng x).mpr (.inl ⟨y,z2⟩))
  ·rintro ⟨h1,h2⟩
   have k1:∀ x,x∈e.needs\/(x∈m/\x∉e.makes)->x∈st:=fun x hx=>h1 x (j3.mpr (List.mem_append.mpr (hx.imp id o8.mpr)))
   have k2:∀ x,x∈e.bars\/(x∈b/\x∉e.ends)->x∉st:=fun x hx=>h2 x (j3.mpr (List.mem_append.mpr (hx.imp id o8.mpr)))
   refine ⟨⟨fun x hx=>k1 x (.inl hx),fun x hx=>k2 x (.inl hx)⟩,fun x hx=>(ng x).mpr ?_,fun x hx z=>?_⟩
   ·by_cases y:x∈e.makes
    ·exact .inr y
    ·exact .inl ⟨k1 x (.inr ⟨hx,y⟩),fun q=>d2 x q hx⟩
   ·rcases (ng x).mp z with y | y
    ·exact k2 x (.inr ⟨hx,y.2⟩) y.1
    ·exact d1 x y hx
 rw [key]
 simp only [c1,c2,Bool.or_self,bJ,if_false]
 by_cases c3:pK (tV (e.needs++mi m e.makes)) (tV (e.bars++mi b e.ends))=true
 ·obtain ⟨x,x1,x2⟩:=lP.mp c3
  simp only [c3,if_true]
  constructor
  ·rintro ⟨h1,h2⟩
   exact absurd (h1 x x1) (h2 x x2)
  ·exact fun h=>nomatch h
 ·simp only [c3,bJ,if_false]
  rw [vM]
theorem ED {fs m b:List Str}{es:List cf} (g:cN fs es):∀ (rs:List cf) (st:List Str),(∀ e∈rs,e∈es)->kH st m b rs=(match o9 rs (m,b) with
  | some w=>bA st w.1 w.2
  | none=>false)
 | [],st,_=>rfl
 | e::r,st,hm=>by
  have ih:=ED (m:=m) (b:=b) g r (aU e st) fun x hx=>hm x (ak _ hx)
  have ge:=g.ok e (hm e am)
  have e1:kH st m b (e::r)=(bA st e.needs e.bars && kH (aU e st) m b r):=by
   unfold kH
   rw [jI]
   cases bA st e.needs e.bars<;>rfl
  rw [e1,ih,show o9 (e::r) (m,b)=(o9 r (m,b)).bind (mH e) from rfl]
  cases o9 r (m,b) with
  | none=>exact mO _
  | some w =>
   obtain ⟨m1,b1⟩:=w
   exact Qo ge
theorem CD:∀ (fs:List Str) (acc:List (List Str)) (t u:List Str),t∈acc->u.Sublist fs->t++u∈fs.foldl (fun acc f=>acc++acc.map (·++[f])) acc
 | [],acc,t,u,ht,hu=>by
  cases hu
  rw [de]
  exact ht
 | f::r,acc,t,u,ht,hu=>by
  rw [df]
  cases hu with
  | cons _ h=>exact CD r _ t u (bu _ ht) h
  | cons_cons _ h =>
   rename_i u'
   have:=CD r (acc++acc.map (·++[f])) (t++[f]) u' (aL _ (bz ht)) h
   rwa [nQ] at this
theorem NP {fs xs:List Str} (hf:fs.Pairwise fun a b=>pF a b=true) (h:Sub fs xs):xs.Sublist fs:=by
 have e:xs=fs.filter fun x=>decide (x∈xs):=NM h.up (hf.sublist tU) fun x=>by
  rw [zK,decide_eq_true_eq]
  exact ⟨fun z=>⟨h.mem x z,z⟩,fun z=>z.2⟩
 rw [e]
 exact tU
theorem EE {fs xs:List Str} (hf:fs.Pairwise fun a b=>pF a b=true) (h:Sub fs xs):xs∈Qm fs:=CD fs [[]] [] xs (List.mem_singleton.mpr rfl) (NP hf h)
def yP:List cf->List Str×List Str->Option (List Str×List Str)
 | [],w=>some w
 | e::r,w=>(mH e w).bind (yP r)
theorem EF (e:cf):∀ (q:List cf) (w:List Str×List Str),yP (q++[e]) w=(yP q w).bind (mH e)
 | [],w=>by
  show (mH e w).bind (yP [])=mH e w
  cases mH e w<;>rfl
 | x::q,w=>by
  show (mH x w).bind (yP (q++[e]))=((mH x w).bind (yP q)).bind (mH e)
  cases mH x w with
  | none=>rfl
  | some v=>exact EF e q v
theorem yQ:∀ (rs:List cf) (w:List Str×List Str),yP rs.reverse w=o9 rs w
 | [],_=>rfl
 | e::r,w=>by
  rw [wp,EF,yQ r w]
  rfl
theorem NQ (neg:Bool) (m b:List Str):pG neg (eM m b) .none=.ok (.bool neg):=by cases neg<;>rfl
theorem yR {fs:List Str}{es:List cf} (g:cN fs es) (A B D0:D):∀ (rs:List cf) (m b:List Str) (z:Sl),(∀ e∈rs,e∈es)->hZ fs m b ->
  (match yP rs (m,b) with
  | some w=>∃ z',gL (bg 4) (aD (cW 3 (dg 2 ii (J.a9 (rS 4) (J.a9 (rS 3) J.ay)))) (dC (dP (g2 (rB 3) kN (pG false))) (cu kN) (fun ρ=>.ok (.nx ρ)))) (rs.map c8) [.shr A,.shr B,.shr D0,.shr (eM m b),z]=.ok (.nx [.shr A,.shr B,.shr D0,.shr (eM w.1 w.2),z'])
  | none=>gL (bg 4) (aD (cW 3 (dg 2 ii (J.a9 (rS 4) (J.a9 (rS 3) J.ay)))) (dC (dP (g2 (rB 3) kN (pG false))) (cu kN) (fun ρ=>.ok (.nx ρ)))) (rs.map c8) [.shr A,.shr B,.shr D0,.shr (eM m b),z]=.ok (.rt .none))
 | [],m,b,z,_,_=>⟨z,rfl⟩
 | e::r,m,b,z,hm,hw=>by
  have he:=hm e am
  have sh:=kS g he
  have l1:=dI hw.must g.rise.len
  have l2:=dI hw.bars g.rise.len
  show match (mH e (m,b)).bind (yP r) with
   | some w=>_
   | none=>_
  rw [aB]
  cases ha:mH e (m,b) with
  | none =>
   rw [Option.bind_none]
   refine xB (ρ1:=[.shr A,.shr B,.shr D0,.shr (eM m b),.shr (c8 e)]) rfl ?_
   walk_at "zz"
   rw [uK sh l1 l2,ha]
   simp only [EB]
   walk_at "zz"
   rw [uI]
   walk_at "zz"
  | some v =>
   obtain ⟨m1,b1⟩:=v
   have ih:=yR g A B D0 r m1 b1 (.shr (c8 e)) (fun x hx=>hm x (ak _ hx)) (yO (g.ok e he) hw ha)
   rw [ku]
   rw [lH (ρ1:=[.shr A,.shr B,.shr D0,.shr (eM m b),.shr (c8 e)]) (ρ2:=[.shr A,.shr B,.shr D0,.shr (eM m1 b1),.shr (c8 e)]) rfl (by
    walk_at "zz"
    rw [uK sh l1 l2,ha]
    simp only [EB]
    walk_at "zz"
    rw [NQ]
    walk_at "zz")]
   exact ih
theorem NR (gs:aw->R (List D)) (s:Sl) (ρ:aw):J.Eg gs (s::ρ)=(gs (s::ρ)).bind J.Q0:=id rfl
theorem IL (ds:List D):J.Q0 [.list ds]=.ok ds.reverse:=rfl
theorem NS {fs m b:List Str}{es rs:List cf} (g:cN fs es) (h:GB es rs) (hw:hZ fs m b):uC [cU fs es,eM m b,cY rs]=.ok (EB (o9 rs (m,b))):=by
 unfold uC
 refine cw ?_
 unfold xw bM
 walk_at "zz"
 rw [yI g]
 walk_at "zz"
 rw [Ey g hw]
 walk_at "zz"
 rw [m7 (ds:=(rs.reverse).map c8)]
 ·have hl:=yR g (cU fs es) (eM m b) (cY rs) rs.reverse m b .no (fun e he=>h.mem e (List.mem_reverse.mp he)) hw
  rw [yQ] at hl
  cases ha:o9 rs (m,b) with
  | none =>
   rw [ha] at hl
   simp only at hl
   rw [hl]
   walk_at "zz"
   rfl
  | some w =>
   rw [ha] at hl
   obtain ⟨z,hl⟩:=hl
   rw [hl]
   walk_at "zz"
   rfl
 ·rw [NR]
  walk_at "zz"
  rw [sS g h]
  walk_at "zz"
  rw [IL,Ox]
theorem IM (neg:Bool) (ds:List D) (h:bW ds=true):l_ neg (.list ds) (.list [])=.ok (.bool (neg != decide (ds=[]))):=by
 unfold l_
 have h1:(fh ds).canLay0=true:=by simp only [eI];exact h
 have h3:min (fh ds).depth (fh []).depth<=60:=bZ (pM _ _) (by decide)
 have h4:a_ (.list ds) (.list [])=decide (ds=[]):=by
  cases ds with
  | nil=>rfl
  | cons x r=>simp [a_,ev]
 rw [h1,show (fh []).canLay0=true from rfl,decide_eq_true h3,h4]
 cases neg<;>cases decide (ds=[])<;>rfl
theorem IN (ds:List D) (h:bW ds=true):l_ false (.list ds) (.list [])=.ok (.bool (decide (ds=[]))):=by rw [IM false ds h,Bool.false_bne]
theorem IP (ds:List D) (h:bW ds=true):l_ true (.list ds) (.list [])=.ok (.bool (!decide (ds=[]))):=by rw [IM true ds h,Bool.true_bne]
theorem NT (neg:Bool) (o:Option (List Str)):pG neg (NL o) .none=.ok (.bool (neg == o.isSome)):=by cases o<;>cases neg<;>rfl
theorem Qp {L:List cf}{j:Int} (h0:0<=j) (h1:j<(L.length:Nat)):∃ e∈L,aY (.list (L.map c8)) (.int j)=.ok (c8 e):=by
 obtain ⟨n,rfl⟩:=pO h0
 have hn:n<L.length:=by omega
 refine ⟨L[n],gC hn,oC ?_⟩
 rw [aZ,aN hn]
 rfl
theorem GD (e:cf) (st:List Str):(Be e st).isSome=bA st e.needs e.bars:=by
 unfold Be
 cases bA st e.needs e.bars<;>rfl
theorem Bl {fs:List Str}{es:List cf} (g:cN fs es) (ns:List Int) (at0:Int) (h0:0<=at0) (M:D):∀ (ks:List Nat) (rs:List cf) (st:List Str) (z7 z8 z9:Sl),(∀ e∈rs,e∈es)->Sub fs st->rs.length + ks.length<=20 ->
  ∃ rs',(GB es rs'/\rs'.length<=20)/\(gL (bg 6) (aD (dZ 7 (eL 1 [3] (kW (g2 (rB 2) (kI 1) aY)) (dP (g2 (dg 2 fV (J.a9 (rS 0) (J.a9 (rS 1) J.ay))) kN (pG true))) (rS 0))) (aD (dC (dP (g2 (rB 7) (dS J.ay .list) (l_ false))) (cu (rS 5)) (fun ρ=>.ok (.nx ρ))) (aD (cW 8 (g2 (rB 7) (dg 3 bq (J.a9 (rS 0) (J.a9 (g2 (rB 1) (rB 6) dB) (J.a9 (bL (J.a9 (rB 7) J.ay) (f_ fK)) J.ay)))) aY)) (aD (nF 5 (g2 (rB 8) (kI 0) aY)) (cW 3 (dg 2 fV (J.a9 (rS 8) (J.a9 (rS 3) J.ay)))))))) (ks.map fun (i:Nat)=>cx (i:Int)) [.shr (.list (ns.map .int)),.shr (.int at0),.shr (cU fs es),.shr (aA st),.shr M,.own (cY rs),z7,z8,z9]).bind (JZ (cu (rS 5)))=.ok (.rt (cY rs'))
 | [],rs,st,z7,z8,z9,hm,hs,hl=>by
  refine ⟨rs,⟨⟨hm,by simp only [br] at hl;omega⟩,by simp only [br] at hl;omega⟩,?_⟩
  rw [dn,gL]
  walk_at "zz"
 | k::ks,rs,st,z7,z8,z9,hm,hs,hl=>by
  have ls:=dI hs g.rise.len
  have lg:=g.len
  simp only [aR] at hl
  let L:=es.filter fun e=>bA st e.needs e.bars
  have hL:∀ e∈L,e∈es/\bA st e.needs e.bars=true:=fun e he=>List.mem_filter.mp he
  have hc:∀ (z:Sl),eL 1 [3] (kW (g2 (rB 2) (kI 1) aY)) (dP (g2 (dg 2 fV (J.a9 (rS 0) (J.a9 (rS 1) J.ay))) kN (pG true))) (rS 0) [.shr (.list (ns.map .int)),.shr (.int at0),.shr (cU fs es),.shr (aA st),.shr M,.own (cY rs),.shr (.int (k:Int)),z8,z]=.ok (.list (L.map c8)):=by
   intro z
   walk_at "zz"
   rw [Qj]
   walk_at "zz"
   rw [if_pos (by omega)]
   rw [eT _ c8 c8 (fun e=>bA st e.needs e.bars) es fun e he=>mV (by
    walk_at "zz"
    rw [Cz (kS g he) (by omega)]
    walk_at "zz"
    rw [NT,GD]
    walk_at "zz"
    rw [Bool.true_beq]) fun _=>rfl]
   walk_at "zz"
   rfl
  have lay:bW (L.map c8)=true:=yJ c8 L fun e he=>NF g.rise.ok (g.ok e (hL e he).1)
  rw [aB]
  by_cases hn:L=[]
  ·refine ⟨rs,⟨⟨hm,by omega⟩,by omega⟩,?_⟩
   rw [xB (x:=cY rs) (ρ1:=[.shr (.list (ns.map .int)),.shr (.int at0),.shr (cU fs es),.shr (aA st),.shr M,.own (cY rs),.shr (.int (k:Int)),z8,z9]) rfl ?_]
   ·walk_at "zz"
   ·rw [yq]
    unfold dZ
    rw [hc]
    walk_at "zz"
    rw [IN _ lay,hn]
    walk_at "zz"
  ·have hp:0<L.length:=List.length_pos_iff.mpr hn
   have hk:((L.length:Nat):Int) > 0:=by omega
   obtain ⟨e,he,hix⟩:=Qp (L:=L) (eV ns (at0 + k) (L.length:Nat) (by omega)) (fL ns (at0 + k) (L.length:Nat) (by omega))
   obtain ⟨he1,he2⟩:=hL e he
   obtain ⟨rs',r1,r2⟩:=Bl g ns at0 h0 M ks (rs++[e]) (aU e st) (.shr (.int (k:Int))) (.own (.list (L.map c8))) (.shr (c8 e)) (fun x hx=>by
    rcases List.mem_append.mp hx with h | h
    ·exact hm x h
    ·rw [List.mem_singleton.mp h];exact he1) (oX g.rise.up (g.ok e he1) hs) (by rw [aG,cB];omega)
   refine ⟨rs',r1,?_⟩
   rw [lH (ρ1:=[.shr (.list (ns.map .int)),.shr (.int at0),.shr (cU fs es),.shr (aA st),.shr M,.own (cY rs),.shr (.int (k:Int)),z8,z9]) (ρ2:=[.shr (.list (ns.map .int)),.shr (.int at0),.shr (cU fs es),.shr (aA (aU e st)),.shr M,.own (cY (rs++[e])),.shr (.int (k:Int)),.own (.list (L.map c8)),.shr (c8 e)]) rfl ?_]
   ·exact r2
   ·rw [yq]
    unfold dZ
    rw [hc]
    walk_at "zz"
    rw [IN _ lay,decide_eq_false (by simpa using hn)]
    walk_at "zz"
    rw [eW ns (at0 + k) (L.length:Nat) (by omega) (by omega)]
    walk_at "zz"
    rw [hix]
    walk_at "zz"
    rw [yK (ds:=rs.map fun e=>aW e.name) (d:=.str e.name) rfl (by
     walk_at "zz"
     rw [Ql]) (by rw [ao];omega)]
    walk_at "zz"
    rw [Cz (kS g he1) (by omega),Bf,he2]
    walk_at "zz"
    simp only [cY,aT]
    rfl
theorem Qq {fs st:List Str}{es:List cf} (g:cN fs es) (ns:List Int) (k n:Int) (h0:0<=k) (hn:0<=n) (h20:n<=20) (hs:Sub fs st):∃ rs,GB es rs/\rs.length<=20/\mh [.list (ns.map .int),.int k,cU fs es,aA st,.int n]=.ok (cY rs):=by
 obtain ⟨j,rfl⟩:=pO hn
 obtain ⟨rs,h1,h2⟩:=Bl g ns k h0 (.int (j:Int)) (bx j) [] st .no .no .no (fun _ h=>nomatch h) hs (by simp;omega)
 refine ⟨rs,h1.1,h1.2,?_⟩
 unfold mh
 refine cw ?_
 unfold oW bM
 walk_at "zz"
 rw [m7 (ds:=(bx j).map fun (i:Nat)=>cx (i:Int))]
 ·exact h2
 ·walk_at "zz"
  exact xx j (by omega)
def cF (l:List (List Str×D)):List (D×D):=l.map fun p=>(aA p.1,p.2)
abbrev lv (l:List (List Str×D)):List (List Str):=l.map (·.1)
theorem GE (x:List Str):aA x=tD (x.map mD):=by
 unfold aA tD
 rw [cJ]
 rfl
theorem mj (x:List Str):pI (aA x)=some (x.map mD):=by rw [GE,Nd]
theorem Qr {a b:List Str} (h:a.map (mD:Str->dv)=b.map mD):a=b:=by
 induction a generalizing b with
 | nil=>cases b with | nil=>rfl | cons _ _=>cases h
 | cons x r ih =>
  cases b with
  | nil=>cases h
  | cons y t =>
   simp only [aB,List.cons.injEq] at h
   rw [ih h.2,Sum.inr.inj h.1]
theorem NU (x y:List Str):a_ (aA x) (aA y)=decide (x=y):=by
 rw [GE,GE,Ci]
 by_cases h:x=y
 ·rw [h];simp
 ·rw [decide_eq_false h,decide_eq_false fun z=>h (Qr z)]
theorem EG (l:List (List Str×D)):Iw (cF l)=cF l:=by cases l<;>rfl
theorem oY {l:List (List Str×D)} (h:l≠[]):jA (cF l)=true:=by
 have h2:((cF l).all fun kv=>(pI kv.1).isSome)=true:=by
  unfold cF
  rw [pX,ck]
  intro p _
  show (pI (aA p.1)).isSome=true
  rw [mj]
  rfl
 unfold jA
 rw [h2]
 cases l with
 | nil=>exact (h rfl).elim
 | cons _ _=>rfl
theorem vO (x:List Str):∀ l:List (List Str×D),lu (cF l) (aA x)=(l.find? fun p=>decide (p.1=x)).map (·.2)
 | []=>rfl
 | p::r=>by
  have ih:=vO x r
  unfold lu cF at ih ⊢
  rw [aB,bN,bN,NU]
  by_cases h:p.1=x
  ·rw [decide_eq_true h];rfl
  ·rw [decide_eq_false h];exact ih
theorem NV {l:List (List Str×D)} (nd:(lv l).Nodup) {p:List Str×D} (hp:p∈l):(l.find? fun q=>decide (q.1=p.1))=some p:=by
 induction l with
 | nil=>cases hp
 | cons q r ih =>
  obtain ⟨n1,n2⟩:=List.nodup_cons.mp nd
  rw [bN]
  rcases List.mem_cons.mp hp with h | h
  ·subst h;simp
  ·have:q.1≠p.1:=fun z=>n1 (by show q.1∈_;rw [z];exact bz h)
   rw [decide_eq_false this]
   exact ih n2 h
theorem Kl {α:Type}{l:List α}{x:α} (h:x∈l):l≠[]:=fun z=>by rw [z] at h;cases h
theorem NW {l:List (List Str×D)}{ds:List (D×D)} (hu:Iw ds=cF l) (nd:(lv l).Nodup) {p:List Str×D} (hp:p∈l):wB (.dict ds) (aA p.1)=.ok p.2:=by
 unfold wB
 simp only [mj,hu]
 rw [if_pos (oY (Kl hp)),vO,NV nd hp]
 rfl
theorem IQ {l:List (List Str×D)} (nd:(lv l).Nodup) {p:List Str×D} (hp:p∈l):wB (.dict (cF l)) (aA p.1)=.ok p.2:=NW (EG l) nd hp
theorem GF {l:List (List Str×D)} (nd:(lv l).Nodup) {p:List Str×D} (hp:p∈l):wB (.dict ((.none,.none)::cF l)) (aA p.1)=.ok p.2:=NW rfl nd hp
theorem Bm (x:List Str):∀ l:List (List Str×D),((l.find? fun p=>decide (p.1=x)).map (·.2)).isSome=decide (x∈lv l)
 | []=>by simp
 | p::r=>by
  rw [bN]
  by_cases h:p.1=x
  ·rw [decide_eq_true h]
   simp [h]
  ·rw [decide_eq_false h]
   simp only
   rw [Bm x r]
   simp [db h]
theorem IR {l:List (List Str×D)} (h:l≠[]) (x:List Str):Q3 true (aA x) (.dict (cF l))=.ok (.bool (!decide (x∈lv l))):=by
 unfold Q3
 simp only [mj,EG]
 rw [if_pos (oY h),vO,Bm]
 rfl
theorem EH (l:List (List Str×D)):Cj (.dict ((.none,.none)::cF l))=.ok ((lv l).map aA):=by
 show R.ok ((cF l).map (·.1))=_
 unfold cF lv
 rw [cJ,cJ]
 rfl
theorem Qs {l:List (List Str×D)}{x:List Str} (h:x∉lv l) (d:D):vE (cF l) (aA x) d=cF (l++[(x,d)]):=by
 have e:((cF l).any fun kv=>a_ kv.1 (aA x))=false:=by
  unfold cF
  rw [wu,wl]
  intro p hp
  show ¬a_ (aA p.1) (aA x)=true
  rw [NU,decide_eq_true_eq]
  exact fun z=>h (by rw [<- z];exact bz hp)
 unfold vE
 rw [e,if_neg bi]
 unfold cF
 rw [aT]
 rfl
theorem NX {i:Nat}{gk g:aw->R D}{ρ:aw}{l:List (List Str×D)}{x:List Str}{d:D} (hi:ρ[i]?=some (Sl.own (.dict (cF l)))) (hg:g ρ=.ok d) (hk:gk ρ=.ok (aA x)) (hn:l≠[]) (hl:l.length<1000) (hx:x∉lv l):r_ i gk g ρ=.ok (.nx (ρ.set i (.own (.dict (cF (l++[(x,d)])))))):=by
 have hl':(cF l).length<1000:=by unfold cF;rw [ao];exact hl
 have e:r_ i gk g ρ=(g ρ).bind fun d=>(gk ρ).bind fun k=>match pI k with
  | some _=>if (cF l).length<1000/\jA (cF l)=true then .ok (.nx (ρ.set i (.own (.dict (vE (cF l) k d))))) else .no
  | none=>.no:=by
  unfold r_
  simp only [hi]
  try rfl
 rw [e,hg,yp,hk,yp]
 simp only [mj,if_pos (tS hl' (oY hn)),Qs hx]
theorem Vt {i:Nat}{g:aw->R Fl}{ρ:aw}{l:List (List Str×D)} (hn:l≠[]) (h:ρ[i]?=some (Sl.own (.dict (cF l)))):T8 i g ρ=g (ρ.set i (.own (.dict ((.none,.none)::cF l)))):=by
 unfold T8
 congr 1
 unfold kP
 rw [h]
 cases l with
 | nil=>exact (hn rfl).elim
 | cons p r=>rfl
theorem Vu {gk gv:aw->R D}{s:Sl}{ρ:aw}{x:List Str}{d:D} (h1:gk (s::ρ)=.ok (aA x)) (h2:gv (s::ρ)=.ok d):Rz gk gv (s::ρ)=.ok (.dict (cF [(x,d)])):=by
 unfold Rz
 rw [h1,bind_ok,h2,bind_ok]
 simp only [mj]
 rfl
theorem EI {g:aw->R D}{s:Sl}{ρ:aw}{ds:List D} (h:g (s::ρ)=.ok (.list ds)):yy g (s::ρ)=.ok (!ds.isEmpty):=by
 unfold yy
 rw [h,bind_ok]
theorem RK (g:aw->R D) (s:Sl) (ρ:aw):K4 g (s::ρ)=(g (s::ρ)).bind Cj:=id rfl
theorem yS {α:Type} [DecidableEq α] : ∀ {l m:List α},l.Nodup->(∀ x∈l,x∈m)->l.length<=m.length
 | [],_,_,_=>cE _
 | x::r,m,nd,h=>by
  obtain ⟨n1,n2⟩:=List.nodup_cons.mp nd
  have hx:=h x am
  have:=yS (l:=r) (m:=m.erase x) n2 fun y hy=>(Ht fun z=>n1 (by rw [<- z];exact hy)).mpr (h y (ak _ hy))
  rw [Dc hx] at this
  have:=FC hx
  simp only [aR]
  omega
theorem yT:∀ (fs:List Str) (acc:List (List Str)),(fs.foldl (fun acc f=>acc++acc.map (·++[f])) acc).length=acc.length * 2 ^ fs.length
 | [],acc=>by simp
 | f::r,acc=>by
  rw [df,yT r,aG,ao,aR,Nat.pow_succ,<- Nat.two_mul,FX 2,Nat.mul_assoc,FX 2]
theorem Qt {fs:List Str} (h:fs.length<=6):(Qm fs).length<=64:=by
 unfold Qm
 rw [yT]
 have:2 ^ fs.length<=2 ^ 6:=Jf (by decide) h
 simp only [aR,br]
 omega
theorem EJ {fs:List Str} (hf:Nq fs 6) {l:List (List Str×D)} (nd:(lv l).Nodup) (h:∀ x∈lv l,Sub fs x):l.length<=64:=by
 have:=yS nd fun x hx=>EE hf.up (h x hx)
 rw [ao] at this
 exact bZ this (Qt hf.len)
def RL (es:List cf) (st x:List Str):Prop:=∃ rs:List cf,(∀ e∈rs,e∈es)/\jI rs st=some x
theorem uL (e:cf):∀ (rs:List cf) (st x:List Str),jI rs st=some x->bA x e.needs e.bars=true->jI (rs++[e]) st=some (aU e x)
 | [],st,x,h,g=>by cases h;show (if bA st e.needs e.bars then jI [] (aU e st) else none)=_;rw [g];rfl
 | a::r,st,x,h,g=>by
  show (if bA st a.needs a.bars then jI (r++[e]) (aU a st) else none)=_
  have h':(if bA st a.needs a.bars then jI r (aU a st) else none)=some x:=h
  split at h'
  ·rename_i hg
   rw [if_pos hg]
   exact uL e r _ _ h' g
  ·cases h'
theorem sU {es:List cf}{M:List Str->Prop} (hc:∀ x,M x->∀ e∈es,bA x e.needs e.bars=true->M (aU e x)):∀ (rs:List cf) (st x:List Str),M st->(∀ e∈rs,e∈es)->jI rs st=some x->M x
 | [],st,x,hm,_,h=>by cases h;exact hm
 | a::r,st,x,hm,he,h=>by
  have h':(if bA st a.needs a.bars then jI r (aU a st) else none)=some x:=h
  split at h'
  ·rename_i hg
   exact sU hc r _ _ (hc st hm a (he a am) hg) (fun e h=>he e (ak _ h)) h'
  ·cases h'
theorem NY {fs st:List Str}{es:List cf} (g:cN fs es) (hs:Sub fs st):jE [cU fs es,aA st]=.ok (.list ((es.filter fun e=>bA st e.needs e.bars).map fun e=>eY [c8 e,aA (aU e st)])):=by
 have ls:=dI hs g.rise.len
 have lg:=g.len
 unfold jE
 refine cw ?_
 unfold lC bM
 walk_at "zz"
 rw [Qj]
 walk_at "zz"
 rw [if_pos (by omega)]
 rw [eT _ c8 (fun e=>eY [c8 e,aA (aU e st)]) (fun e=>bA st e.needs e.bars) es fun e he=>mV (by
  walk_at "zz"
  rw [vL (kS g he)]
  walk_at "zz") fun _=>(by
  walk_at "zz"
  rw [Bh (kS g he) ls]
  walk_at "zz")]
 walk_at "zz"
abbrev LZ:=List (List Str×List cf)
def fA (l:LZ):List (List Str×D):=l.map fun p=>(p.1,cY p.2)
structure ml (fs st:List Str) (es:List cf) (l:LZ):Prop where
 nd:(l.map (·.1)).Nodup
 beg:(st,[])∈l
 sub:∀ p∈l,Sub fs p.1
 row:∀ p∈l,(∀ e∈p.2,e∈es)/\jI p.2 st=some p.1/\p.2.length<l.length
theorem jg (l:LZ):lv (fA l)=l.map (·.1):=by
 unfold lv fA
 rw [cJ]
 rfl
theorem ml.ne {fs st:List Str}{es:List cf}{l:LZ} (h:ml fs st es l):fA l≠[]:=by
 intro z
 have:=List.map_eq_nil_iff.mp z
 have h1:=h.beg
 rw [this] at h1
 cases h1
theorem ml.few {fs st:List Str}{es:List cf}{l:LZ} (g:cN fs es) (h:ml fs st es l):l.length<=64:=by
 have:=EJ g.rise (l:=fA l) (by rw [jg];exact h.nd) fun x hx=>by
  rw [jg] at hx
  obtain ⟨p,hp,rfl⟩:=List.mem_map.mp hx
  exact h.sub p hp
 unfold fA at this
 rw [ao] at this
 exact this
def hG (at0:List Str) (row:List cf) (b:LZ×List (List Str)) (e:cf):LZ×List (List Str) :=
 if aU e at0∈b.1.map (·.1) then b else (b.1++[(aU e at0,row++[e])],b.2++[aU e at0])
theorem Tk {fs st at0:List Str}{es:List cf}{row:List cf}{b:LZ×List (List Str)}{e:cf} (g:cN fs es) (h:ml fs st es b.1) (hr:(at0,row)∈b.1) (he:e∈es) (hg:bA at0 e.needs e.bars=true):ml fs st es (hG at0 row b e).1:=by
 unfold hG
 split
 ·exact h
 ·rename_i hn
  obtain ⟨r1,r2,r3⟩:=h.row _ hr
  refine ⟨?_,bu _ h.beg,fun p hp=>?_,fun p hp=>?_⟩
  ·rw [aT]
   exact xp h.nd hn
  ·rcases List.mem_append.mp hp with z | z
   ·exact h.sub p z
   ·rw [List.mem_singleton.mp z]
    exact oX g.rise.up (g.ok e he) (h.sub _ hr)
  ·rw [aG,cB]
   rcases List.mem_append.mp hp with z | z
   ·obtain ⟨k1,k2,k3⟩:=h.row p z
    exact ⟨k1,k2,by omega⟩
   ·rw [List.mem_singleton.mp z]
    refine ⟨fun x hx=>?_,uL e _ _ _ r2 hg,?_⟩
    ·rcases List.mem_append.mp hx with y | y
     ·exact r1 x y
     ·rw [List.mem_singleton.mp y];exact he
    ·show (row++[e]).length<b.1.length + 1
     rw [aG,cB]
     have:row.length<b.1.length:=r3
     omega
theorem EK (at0:List Str) (row:List cf) (b:LZ×List (List Str)) (e:cf):(∀ p∈b.1,p∈(hG at0 row b e).1)/\aU e at0∈(hG at0 row b e).1.map (·.1)/\(∀ x∈(hG at0 row b e).1.map (·.1),x∈b.1.map (·.1)\/x∈(hG at0 row b e).2)/\(∀ x∈b.2,x∈(hG at0 row b e).2)/\(∀ x∈(hG at0 row b e).2,x∈b.2\/x∈(hG at0 row b e).1.map (·.1))/\b.1.length + (hG at0 row b e).2.length=(hG at0 row b e).1.length + b.2.length:=by
 unfold hG
 split
 ·rename_i h
  exact ⟨fun _ h=>h,h,fun _ h=>.inl h,fun _ h=>h,fun _ h=>.inl h,rfl⟩
 ·refine ⟨fun p hp=>bu _ hp,?_,fun x hx=>?_,fun x hx=>bu _ hx,fun x hx=>?_,?_⟩
  ·rw [aT];exact aL _ am
  ·rw [aT] at hx
   rcases List.mem_append.mp hx with z | z
   ·exact .inl z
   ·exact .inr (aL _ z)
  ·rcases List.mem_append.mp hx with z | z
   ·exact .inl z
   ·rw [aT];exact .inr (aL _ z)
  ·simp only [aG,cB]
   omega
def VP:aw->R Fl:=(dC (dP (g2 (rB 7) (rB 2) (Q3 true))) (aD (r_ 2 (rS 7) (g2 (g2 (rB 2) (rB 5) wB) (dS (J.a9 (g2 (rB 6) (kI 0) aY) J.ay) .list) dB)) (nF 4 (rS 7))) (fun ρ=>.ok (.nx ρ)))
def Km:aw->R Fl:=lc (kW (dg 2 jE (J.a9 (rS 0) (J.a9 (rS 5) J.ay)))) (iX 2 (bO (bg 6) (bO (bg 7) jp))) VP
def Vv:aw->R Fl:=aD (dZ 4 (dS J.ay .list)) (aD (rZ 3 (bg 5) Km) (R7 4 (cW 3 (rS 4))))
theorem N_:lE=aD (dZ 2 (Rz (rS 1) (dS J.ay .list))) (aD (dZ 3 (dS (J.a9 (rS 1) J.ay) .list)) (aD (iK (yy (rB 3)) Vv 100000) (T8 2 (cu (rS 2))))):=rfl
theorem yU {l:LZ}{p:List Str×List cf} (h:p∈l):(p.1,cY p.2)∈fA l:=bz (f:=fun p:List Str×List cf=>(p.1,cY p.2)) h
theorem Tl {fs st:List Str}{es:List cf}{l:LZ} (h:ml fs st es l) {at0:List Str}{row:List cf} (hr:(at0,row)∈l):wB (.dict (cF (fA l))) (aA at0)=.ok (cY row):=by
 have:=IQ (l:=fA l) (by rw [jg];exact h.nd) (yU hr)
 exact this
theorem O0 (l:LZ) (x:List Str) (r:List cf):fA (l++[(x,r)])=fA l++[(x,cY r)]:=by
 unfold fA
 rw [aT]
 rfl
theorem Qu {fs st at0:List Str}{es:List cf}{row:List cf} (g:cN fs es) (B S:D) (o3 z6 z7:Sl) {b:LZ×List (List Str)}{e:cf} (h:ml fs st es b.1) (hr:(at0,row)∈b.1) (hl:b.2.length<=b.1.length) :
  VP [.shr B,.shr S,.own (.dict (cF (fA b.1))),o3,.own (.list (b.2.map aA)),.shr (aA at0),.shr (c8 e),.shr (aA (aU e at0))]=.ok (.nx [.shr B,.shr S,.own (.dict (cF (fA (hG at0 row b e).1))),o3,.own (.list ((hG at0 row b e).2.map aA)),.shr (aA at0),.shr (c8 e),.shr (aA (aU e at0))]):=by
 have few:=h.few g
 have rl:=(h.row _ hr).2.2
 have k64:row.length<b.1.length:=rl
 unfold VP
 walk_at "zz"
 rw [IR h.ne,jg]
 unfold hG
 by_cases hm:aU e at0∈b.1.map (·.1)
 ·rw [if_pos hm,decide_eq_true hm]
  walk_at "zz"
 ·rw [if_neg hm,decide_eq_false hm]
  walk_at "zz"
  rw [NX (l:=fA b.1) (x:=aU e at0) (d:=cY (row++[e])) rfl ?_ rfl h.ne (by unfold fA;rw [ao];omega) (by rw [jg];exact hm)]
  ·walk_at "zz"
   rw [yK (ds:=b.2.map aA) (d:=aA (aU e at0)) rfl rfl (by rw [ao];omega),O0,aT]
   rfl
  ·walk_at "zz"
   rw [Tl h hr]
   walk_at "zz"
   rw [Ql]
   walk_at "zz"
   rw [if_pos (by omega)]
   simp only [cY,aT]
   rfl
theorem EL {fs st at0:List Str}{es:List cf}{row:List cf}:∀ (xs:List cf) (b:LZ×List (List Str)),(∀ p∈b.1,p∈(xs.foldl (hG at0 row) b).1)/\(∀ e∈xs,aU e at0∈(xs.foldl (hG at0 row) b).1.map (·.1))/\(∀ x∈(xs.foldl (hG at0 row) b).1.map (·.1),x∈b.1.map (·.1)\/x∈(xs.foldl (hG at0 row) b).2)/\(∀ x∈b.2,x∈(xs.foldl (hG at0 row) b).2)/\(∀ x∈(xs.foldl (hG at0 row) b).2,x∈b.2\/x∈(xs.foldl (hG at0 row) b).1.map (·.1))/\b.1.length + (xs.foldl (hG at0 row) b).2.length=(xs.foldl (hG at0 row) b).1.length + b.2.length
 | [],b=>⟨fun _ h=>h,fun _ h=>(nomatch h),fun _ h=>.inl h,fun _ h=>h,fun _ h=>.inl h,rfl⟩
 | e::r,b=>by
  obtain ⟨a1,a2,a3,a4,a5,a6⟩:=EK at0 row b e
  obtain ⟨b1,b2,b3,b4,b5,b6⟩:=EL (fs:=fs) (st:=st) (es:=es) r (hG at0 row b e)
  rw [df]
  have km:∀ x∈(hG at0 row b e).1.map (·.1),x∈(r.foldl (hG at0 row) (hG at0 row b e)).1.map (·.1):=fun x hx=>by
   obtain ⟨p,hp,rfl⟩:=List.mem_map.mp hx
   exact bz (b1 p hp)
  refine ⟨fun p hp=>b1 p (a1 p hp),fun x hx=>?_,fun x hx=>?_,fun x hx=>b4 x (a4 x hx),fun x hx=>?_,by omega⟩
  ·rcases List.mem_cons.mp hx with z | z
   ·rw [z];exact km _ a2
   ·exact b2 x z
  ·rcases b3 x hx with z | z
   ·rcases a3 x z with y | y
    ·exact .inl y
    ·exact .inr (b4 x y)
   ·exact .inr z
  ·rcases b5 x hx with z | z
   ·rcases a5 x z with y | y
    ·exact .inl y
    ·exact .inr (km x y)
   ·exact .inr z
theorem Tn {fs st at0:List Str}{es:List cf}{row:List cf} (g:cN fs es) (B S:D) (o3 z6 z7:Sl) {b:LZ×List (List Str)} (h:ml fs st es b.1) (hr:(at0,row)∈b.1) (hl:b.2.length<=b.1.length) (xs:List cf) (hx:∀ e∈xs,e∈es/\bA at0 e.needs e.bars=true) :
  ml fs st es (xs.foldl (hG at0 row) b).1/\∃ y6 y7,gL (iX 2 (bO (bg 6) (bO (bg 7) jp))) VP (xs.map fun e=>eY [c8 e,aA (aU e at0)]) [.shr B,.shr S,.own (.dict (cF (fA b.1))),o3,.own (.list (b.2.map aA)),.shr (aA at0),z6,z7]=.ok (.nx [.shr B,.shr S,.own (.dict (cF (fA (xs.foldl (hG at0 row) b).1))),o3,.own (.list ((xs.foldl (hG at0 row) b).2.map aA)),.shr (aA at0),y6,y7]):=by
 induction xs generalizing b z6 z7 with
 | nil=>exact ⟨h,z6,z7,rfl⟩
 | cons e r ih =>
  obtain ⟨he,hg⟩:=hx e am
  obtain ⟨a1,a2,a3,a4,a5,a6⟩:=EK at0 row b e
  have h':=Tk g h hr he hg
  obtain ⟨q1,y6,y7,q2⟩:=ih (.shr (c8 e)) (.shr (aA (aU e at0))) h' (a1 _ hr) (by omega) fun x z=>hx x (ak _ z)
  refine ⟨q1,y6,y7,?_⟩
  rw [aB,lH (ρ1:=[.shr B,.shr S,.own (.dict (cF (fA b.1))),o3,.own (.list (b.2.map aA)),.shr (aA at0),.shr (c8 e),.shr (aA (aU e at0))]) rfl (Qu g B S o3 z6 z7 h hr hl)]
  exact q2
def oZ (l:LZ) (x:List Str):List cf:=((l.find? fun p=>decide (p.1=x)).map (·.2)).getD []
theorem uM {l:LZ}{x:List Str} (h:x∈l.map (·.1)):(x,oZ l x)∈l:=by
 unfold oZ
 induction l with
 | nil=>cases h
 | cons p r ih =>
  rw [bN]
  by_cases hp:p.1=x
  ·rw [decide_eq_true hp]
   subst hp
   exact am
  ·rw [decide_eq_false hp]
   rcases List.mem_cons.mp h with z | z
   ·exact (hp z.symm).elim
   ·exact ak _ (ih z)
def mn (es:List cf) (b:LZ×List (List Str)) (x:List Str):LZ×List (List Str):=(es.filter fun e=>bA x e.needs e.bars).foldl (hG x (oZ b.1 x)) b
theorem O1 {fs st at0:List Str}{es:List cf} (g:cN fs es) (S:D) (o3 z6 z7:Sl) {b:LZ×List (List Str)} (h:ml fs st es b.1) (hr:at0∈b.1.map (·.1)) (hl:b.2.length<=b.1.length) :
  ml fs st es (mn es b at0).1/\∃ y6 y7,Km [.shr (cU fs es),.shr S,.own (.dict (cF (fA b.1))),o3,.own (.list (b.2.map aA)),.shr (aA at0),z6,z7]=.ok (.nx [.shr (cU fs es),.shr S,.own (.dict (cF (fA (mn es b at0).1))),o3,.own (.list ((mn es b at0).2.map aA)),.shr (aA at0),y6,y7]):=by
 have hm:=uM hr
 obtain ⟨q1,y6,y7,q2⟩:=Tn g (cU fs es) S o3 z6 z7 h hm hl (es.filter fun e=>bA at0 e.needs e.bars) fun e he=>List.mem_filter.mp he
 refine ⟨q1,y6,y7,?_⟩
 unfold Km
 rw [m7 (ds:=(es.filter fun e=>bA at0 e.needs e.bars).map fun e=>eY [c8 e,aA (aU e at0)])]
 ·exact q2
 ·walk_at "zz"
  rw [NY g (h.sub _ hm)]
  walk_at "zz"
theorem IS (es:List cf) (b:LZ×List (List Str)) (x:List Str):(∀ p∈b.1,p∈(mn es b x).1)/\(∀ e∈es,bA x e.needs e.bars=true->aU e x∈(mn es b x).1.map (·.1))/\(∀ y∈(mn es b x).1.map (·.1),y∈b.1.map (·.1)\/y∈(mn es b x).2)/\(∀ y∈b.2,y∈(mn es b x).2)/\(∀ y∈(mn es b x).2,y∈b.2\/y∈(mn es b x).1.map (·.1))/\b.1.length + (mn es b x).2.length=(mn es b x).1.length + b.2.length:=by
 obtain ⟨b1,b2,b3,b4,b5,b6⟩:=EL (fs:=[]) (st:=[]) (es:=es) (at0:=x) (row:=oZ b.1 x) (es.filter fun e=>bA x e.needs e.bars) b
 exact ⟨b1,fun e he hg=>b2 e (List.mem_filter.mpr ⟨he,hg⟩),b3,b4,b5,b6⟩
theorem vP (es:List cf):∀ (ring:List (List Str)) (b:LZ×List (List Str)),(∀ p∈b.1,p∈(ring.foldl (mn es) b).1)/\(∀ x∈ring,∀ e∈es,bA x e.needs e.bars=true->aU e x∈(ring.foldl (mn es) b).1.map (·.1))/\(∀ y∈(ring.foldl (mn es) b).1.map (·.1),y∈b.1.map (·.1)\/y∈(ring.foldl (mn es) b).2)/\(∀ y∈b.2,y∈(ring.foldl (mn es) b).2)/\(∀ y∈(ring.foldl (mn es) b).2,y∈b.2\/y∈(ring.foldl (mn es) b).1.map (·.1))/\b.1.length + (ring.foldl (mn es) b).2.length=(ring.foldl (mn es) b).1.length + b.2.length
 | [],b=>⟨fun _ h=>h,fun _ h=>(nomatch h),fun _ h=>.inl h,fun _ h=>h,fun _ h=>.inl h,rfl⟩
 | x::r,b=>by
  obtain ⟨a1,a2,a3,a4,a5,a6⟩:=IS es b x
  obtain ⟨b1,b2,b3,b4,b5,b6⟩:=vP es r (mn es b x)
  rw [df]
  have km:∀ y∈(mn es b x).1.map (·.1),y∈(r.foldl (mn es) (mn es b x)).1.map (·.1):=fun y hy=>by
   obtain ⟨p,hp,rfl⟩:=List.mem_map.mp hy
   exact bz (b1 p hp)
  refine ⟨fun p hp=>b1 p (a1 p hp),fun y hy e he hg=>?_,fun y hy=>?_,fun y hy=>b4 y (a4 y hy),fun y hy=>?_,by omega⟩
  ·rcases List.mem_cons.mp hy with z | z
   ·subst z;exact km _ (a2 e he hg)
   ·exact b2 y z e he hg
  ·rcases b3 y hy with z | z
   ·rcases a3 y z with w | w
    ·exact .inl w
    ·exact .inr (b4 y w)
   ·exact .inr z
  ·rcases b5 y hy with z | z
   ·rcases a5 y z with w | w
    ·exact .inl w
    ·exact .inr (km y w)
   ·exact .inr z
theorem O3 {fs st:List Str}{es:List cf} (g:cN fs es) (S:D) (o3 z5 z6 z7:Sl) {b:LZ×List (List Str)} (h:ml fs st es b.1) (hl:b.2.length<=b.1.length) (ring:List (List Str)) (hx:∀ x∈ring,x∈b.1.map (·.1)) :
  ml fs st es (ring.foldl (mn es) b).1/\∃ y5 y6 y7,gL (bg 5) Km (ring.map aA) [.shr (cU fs es),.shr S,.own (.dict (cF (fA b.1))),o3,.own (.list (b.2.map aA)),z5,z6,z7]=.ok (.nx [.shr (cU fs es),.shr S,.own (.dict (cF (fA (ring.foldl (mn es) b).1))),o3,.own (.list ((ring.foldl (mn es) b).2.map aA)),y5,y6,y7]):=by
 induction ring generalizing b z5 z6 z7 with
 | nil=>exact ⟨h,z5,z6,z7,rfl⟩
 | cons x r ih =>
  obtain ⟨a1,a2,a3,a4,a5,a6⟩:=IS es b x
  obtain ⟨h',y6,y7,q⟩:=O1 g S o3 z6 z7 h (hx x am) hl
  obtain ⟨q1,w5,w6,w7,q2⟩:=ih (.shr (aA x)) y6 y7 h' (by omega) fun y hy=>by
   obtain ⟨p,hp,e⟩:=List.mem_map.mp (hx y (ak _ hy))
   rw [<- e]
   exact bz (a1 p hp)
  refine ⟨q1,w5,w6,w7,?_⟩
  rw [aB,lH (ρ1:=[.shr (cU fs es),.shr S,.own (.dict (cF (fA b.1))),o3,.own (.list (b.2.map aA)),.shr (aA x),z6,z7]) rfl q]
  exact q2
theorem Qv {fs st:List Str}{es:List cf} (g:cN fs es) (S:D) (o3 z4 z5 z6 z7:Sl) {l:LZ} (h:ml fs st es l) (ring:List (List Str)) (hx:∀ x∈ring,x∈l.map (·.1)) (ho:o3=.own (.list (ring.map aA))\/o3=.shr (.list (ring.map aA))) :
  ml fs st es (ring.foldl (mn es) (l,[])).1/\∃ y4 y5 y6 y7,Vv [.shr (cU fs es),.shr S,.own (.dict (cF (fA l))),o3,z4,z5,z6,z7]=.ok (.nx [.shr (cU fs es),.shr S,.own (.dict (cF (fA (ring.foldl (mn es) (l,[])).1))),.shr (.list ((ring.foldl (mn es) (l,[])).2.map aA)),y4,y5,y6,y7]):=by
 have L:=fun o=>O3 g S o z5 z6 z7 (b:=(l,[])) h (cE _) ring hx
 unfold Vv
 walk_at "zz"
 rcases ho with ho | ho
 ·subst ho
  obtain ⟨q1,y5,y6,y7,q2⟩:=L (.lck (.list (ring.map aA)))
  refine ⟨q1,.shr (.list ((ring.foldl (mn es) (l,[])).2.map aA)),y5,y6,y7,?_⟩
  have e:rZ 3 (bg 5) Km [.shr (cU fs es),.shr S,.own (.dict (cF (fA l))),.own (.list (ring.map aA)),.own (.list []),z5,z6,z7]=.ok (.nx [.shr (cU fs es),.shr S,.own (.dict (cF (fA (ring.foldl (mn es) (l,[])).1))),.own (.list (ring.map aA)),.own (.list ((ring.foldl (mn es) (l,[])).2.map aA)),y5,y6,y7]):=by
   show Xj 3 _ (gL (bg 5) Km (ring.map aA) [.shr (cU fs es),.shr S,.own (.dict (cF (fA l))),.lck (.list (ring.map aA)),.own (.list []),z5,z6,z7])=_
   have q2':=q2
   rw [dn] at q2'
   rw [q2']
   rfl
  rw [e]
  walk_at "zz"
  simp only [R7]
  rw [Ce rfl]
  walk_at "zz"
 ·subst ho
  obtain ⟨q1,y5,y6,y7,q2⟩:=L (.shr (.list (ring.map aA)))
  refine ⟨q1,.shr (.list ((ring.foldl (mn es) (l,[])).2.map aA)),y5,y6,y7,?_⟩
  rw [NN (d:=.list (ring.map aA)) rfl,m7 (ds:=ring.map aA)]
  ·have q2':=q2
   rw [dn] at q2'
   rw [q2']
   walk_at "zz"
   simp only [R7]
   rw [Ce rfl]
   walk_at "zz"
  ·walk_at "zz"
structure GG (fs st:List Str) (es:List cf) (l:LZ):Prop where
 ok:ml fs st es l
 all:∀ x∈l.map (·.1),∀ e∈es,bA x e.needs e.bars=true->aU e x∈l.map (·.1)
theorem EM {fs st:List Str}{es:List cf} (g:cN fs es) (S:D) (P:LZ->List (List Str)->Prop) (hP:∀ l ring,ml fs st es l->(∀ x∈ring,x∈l.map (·.1))->ml fs st es (ring.foldl (mn es) (l,[])).1->P l ring->P (ring.foldl (mn es) (l,[])).1 (ring.foldl (mn es) (l,[])).2):∀ (k fuel:Nat) (o3 z4 z5 z6 z7:Sl) (l:LZ) (ring:List (List Str)),ml fs st es l->(∀ x∈ring,x∈l.map (·.1))->(∀ x∈l.map (·.1),x∉ring->∀ e∈es,bA x e.needs e.bars=true->aU e x∈l.map (·.1)) ->
  (o3=.own (.list (ring.map aA))\/o3=.shr (.list (ring.map aA)))->P l ring->65 - l.length + (if ring=[] then 0 else 1)<=k->k<fuel ->
  ∃ l' y3 y4 y5 y6 y7,(GG fs st es l'/\P l' [])/\iK (yy (rB 3)) Vv fuel [.shr (cU fs es),.shr S,.own (.dict (cF (fA l))),o3,z4,z5,z6,z7]=.ok (.nx [.shr (cU fs es),.shr S,.own (.dict (cF (fA l'))),y3,y4,y5,y6,y7])
 | _,0,_,_,_,_,_,_,_,_,_,_,_,_,_,hf=>absurd hf (lU _)
 | k,fuel + 1,o3,z4,z5,z6,z7,l,ring,h,hx,hc,ho,hp,hk,hf=>by
  have ht:yy (rB 3) [.shr (cU fs es),.shr S,.own (.dict (cF (fA l))),o3,z4,z5,z6,z7]=.ok (!(ring.map aA).isEmpty):=EI (by rcases ho with z | z<;>subst z<;>rfl)
  rw [iK,ht]
  cases ring with
  | nil=>exact ⟨l,o3,z4,z5,z6,z7,⟨⟨h,fun x hx=>hc x hx (fun z=>nomatch z)⟩,hp⟩,rfl⟩
  | cons x r =>
   obtain ⟨h',y4,y5,y6,y7,q⟩:=Qv g S o3 z4 z5 z6 z7 h (x::r) hx ho
   obtain ⟨a1,a2,a3,a4,a5,a6⟩:=vP es (x::r) (l,[])
   have few:=h'.few g
   have few0:=h.few g
   simp only [br,wR] at a6
   rw [if_neg (by simp)] at hk
   have hk':65 - ((x::r).foldl (mn es) (l,[])).1.length + (if ((x::r).foldl (mn es) (l,[])).2=[] then 0 else 1)<=k - 1:=by
    by_cases hz:((x::r).foldl (mn es) (l,[])).2=[]
    ·rw [if_pos hz]
     rw [hz] at a6
     simp only [br,wR] at a6
     omega
    ·rw [if_neg hz]
     have:=List.length_pos_iff.mpr hz
     omega
   obtain ⟨l',w3,w4,w5,w6,w7,e1,e2⟩:=EM g S P hP (k - 1) fuel (.shr (.list (((x::r).foldl (mn es) (l,[])).2.map aA))) y4 y5 y6 y7 _ _ h' (fun y hy=>by
    rcases a5 y hy with z | z
    ·cases z
    ·exact z) (fun y hy hn e he hg=>by
    rcases a3 y hy with z | z
    ·by_cases hm:y∈x::r
     ·exact a2 y hm e he hg
     ·obtain ⟨p,hp,e'⟩:=List.mem_map.mp (hc y z hm e he hg)
      rw [<- e']
      exact bz (a1 p hp)
    ·exact (hn z).elim) (.inr rfl) (hP l (x::r) h hx h' hp) hk' (by omega)
   refine ⟨l',w3,w4,w5,w6,w7,e1,?_⟩
   simp only [aB,nR,jQ]
   rw [q]
   exact e2
structure Qw (es:List cf) (l:LZ):Prop where
 cls:∀ p∈l,∀ e∈es,bA p.1 e.needs e.bars=true->∃ q∈l,q.1=aU e p.1/\q.2.length<=p.2.length + 1
 up:l.Pairwise fun p q=>p.2.length<=q.2.length
structure To (es:List cf) (l:LZ) (ring:List (List Str)) (d:Nat):Prop where
 top:∀ p∈l,p.2.length<=d
 rin:∀ p∈l,p.1∈ring->p.2.length=d
 cls:∀ p∈l,p.1∉ring->∀ e∈es,bA p.1 e.needs e.bars=true->∃ q∈l,q.1=aU e p.1/\q.2.length<=p.2.length + 1
 up:l.Pairwise fun p q=>p.2.length<=q.2.length
theorem yV (at0:List Str) (row:List cf):∀ (xs:List cf) (b:LZ×List (List Str)),∃ t:LZ,xs.foldl (hG at0 row) b=(b.1++t,b.2++t.map (·.1))/\∀ p∈t,p.2.length=row.length + 1
 | [],b=>⟨[],by simp,fun _ h=>(nomatch h)⟩
 | e::r,b=>by
  rw [df]
  by_cases hm:aU e at0∈b.1.map (·.1)
  ·have:hG at0 row b e=b:=by unfold hG;rw [if_pos hm]
   rw [this]
   exact yV at0 row r b
  ·have:hG at0 row b e=(b.1++[(aU e at0,row++[e])],b.2++[aU e at0]):=by unfold hG;rw [if_neg hm]
   rw [this]
   obtain ⟨t,h1,h2⟩:=yV at0 row r (b.1++[(aU e at0,row++[e])],b.2++[aU e at0])
   refine ⟨(aU e at0,row++[e])::t,by rw [h1];simp,fun p hp=>?_⟩
   rcases List.mem_cons.mp hp with z | z
   ·subst z;simp
   ·exact h2 p z
theorem O4 {l t:LZ}{x:List Str} (h:x∈l.map (·.1)):oZ (l++t) x=oZ l x:=by
 unfold oZ
 rw [List.find?_append]
 cases hf:l.find? fun p=>decide (p.1=x) with
 | some p=>rfl
 | none =>
  obtain ⟨p,hp,e⟩:=List.mem_map.mp h
  have:=List.find?_eq_none.mp hf p hp
  simp [e] at this
theorem EN (es:List cf) (d:Nat):∀ (ring:List (List Str)) (b:LZ×List (List Str)),(∀ x∈ring,x∈b.1.map (·.1))->(∀ x∈ring,(oZ b.1 x).length=d)->∃ t:LZ,ring.foldl (mn es) b=(b.1++t,b.2++t.map (·.1))/\∀ p∈t,p.2.length=d + 1
 | [],b,_,_=>⟨[],by simp,fun _ h=>(nomatch h)⟩
 | x::r,b,hx,hd=>by
  rw [df]
  obtain ⟨t,h1,h2⟩:=yV x (oZ b.1 x) (es.filter fun e=>bA x e.needs e.bars) b
  have e1:mn es b x=(b.1++t,b.2++t.map (·.1)):=h1
  rw [e1]
  obtain ⟨t2,h3,h4⟩:=EN es d r (b.1++t,b.2++t.map (·.1)) (fun y hy=>by rw [aT];exact bu _ (hx y (ak _ hy))) (fun y hy=>by rw [O4 (hx y (ak _ hy))];exact hd y (ak _ hy))
  refine ⟨t++t2,by rw [h3];simp,fun p hp=>?_⟩
  rcases List.mem_append.mp hp with z | z
  ·rw [h2 p z,hd x am]
  ·exact h4 p z
theorem Kn {fs st:List Str}{es:List cf}{l:LZ}{ring:List (List Str)} (hx:∀ x∈ring,x∈l.map (·.1)) (h':ml fs st es (ring.foldl (mn es) (l,[])).1) (hp:∃ d,To es l ring d):∃ d,To es (ring.foldl (mn es) (l,[])).1 (ring.foldl (mn es) (l,[])).2 d:=by
 obtain ⟨d,D⟩:=hp
 obtain ⟨a1,a2,a3,a4,a5,a6⟩:=vP es ring (l,[])
 obtain ⟨t,e,ht⟩:=EN es d ring (l,[]) hx fun x hr=>D.rin _ (uM (hx x hr)) hr
 have nd:=h'.nd
 rw [e] at nd a2 ⊢
 rw [aT] at nd
 simp only [fR] at *
 have top:∀ p∈l++t,p.2.length<=d + 1:=fun p hp=>by
  rcases List.mem_append.mp hp with z | z
  ·exact Oy (D.top p z)
  ·exact Nat.le_of_eq (ht p z)
 refine ⟨d + 1,top,fun p hp hr=>?_,fun p hp hr e he hg=>?_,?_⟩
 ·rcases List.mem_append.mp hp with z | z
  ·exact ((List.nodup_append.mp nd).2.2 p.1 (bz z) p.1 hr rfl).elim
  ·exact ht p z
 ·rcases List.mem_append.mp hp with z | z
  ·by_cases hm:p.1∈ring
   ·obtain ⟨q,hq,eq⟩:=List.mem_map.mp (a2 p.1 hm e he hg)
    exact ⟨q,hq,eq,by rw [D.rin p z hm];exact top q hq⟩
   ·obtain ⟨q,hq,eq,hl⟩:=D.cls p z hm e he hg
    exact ⟨q,bu _ hq,eq,hl⟩
  ·exact (hr (bz z)).elim
 ·refine List.pairwise_append.mpr ⟨D.up,?_,fun p hp q hq=>by rw [ht q hq];exact Oy (D.top p hp)⟩
  exact wv fun p hp q hq=>by rw [ht p hp,ht q hq];exact ar _
theorem O5 {fs st:List Str}{es:List cf} (g:cN fs es) (hs:Sub fs st):∃ l,(GG fs st es l/\Qw es l)/\jF [cU fs es,aA st]=.ok (.dict ((.none,.none)::cF (fA l))):=by
 have h0:ml fs st es [(st,[])]:=⟨by simp,List.mem_singleton.mpr rfl,fun p hp=>by rw [List.mem_singleton.mp hp];exact hs,fun p hp=>by rw [List.mem_singleton.mp hp];exact ⟨fun _ h=>(nomatch h),rfl,by simp⟩⟩
 obtain ⟨l,y3,y4,y5,y6,y7,⟨e1,d,n1⟩,e2⟩:=EM g (aA st) (fun l ring=>∃ d,To es l ring d) (fun l ring _ hx h' hp=>Kn hx h' hp) 65 100000 (.own (.list ([st].map aA))) .no .no .no .no [(st,[])] [st] h0 (fun x hx=>hx) (fun x hx hn=>(hn hx).elim) (.inl rfl) ⟨0,fun p hp=>by rw [List.mem_singleton.mp hp];exact ar _,fun p hp _=>by rw [List.mem_singleton.mp hp];rfl,fun p hp hn=>by rw [List.mem_singleton.mp hp] at hn;exact (hn am).elim,by simp⟩ (by simp) (by decide)
 refine ⟨l,⟨e1,fun p hp e he hg=>n1.cls p hp (fun z=>nomatch z) e he hg,n1.up⟩,?_⟩
 unfold jF
 refine cw ?_
 rw [N_]
 unfold bM
 walk_at "zz"
 rw [Vu (x:=st) (d:=.list []) rfl rfl]
 walk_at "zz"
 have e2':iK (yy (rB 3)) Vv 100000 [.shr (cU fs es),.shr (aA st),.own (.dict (cF [(st,.list [])])),.own (.list [aA st]),.no,.no,.no,.no]=_:=e2
 rw [e2']
 walk_at "zz"
 rw [Vt e1.ok.ne rfl]
 walk_at "zz"
def VQ:aw->R Fl:=(aD (cW 6 (dg 2 fV (J.a9 (rS 5) (J.a9 (g2 (rB 3) (rB 4) aY) J.ay)))) (dC (vz (dP (g2 (rB 6) kN (pG true))) (dP (g2 (rB 6) (rB 2) (Q3 true)))) (aD (r_ 2 (rS 6) (g2 (g2 (rB 2) (g2 (rB 3) (rB 4) aY) wB) (kI 1) dB)) (nF 3 (rS 6))) (fun ρ=>.ok (.nx ρ))))
def Vw:aw->R Fl:=aD (lc (kW (g2 (rB 0) (kI 1) aY)) (bg 5) VQ) (cW 4 (g2 (rB 4) (kI 1) dB))
theorem O6:lF=aD (dZ 2 (Rz (rS 1) (kI 0))) (aD (dZ 3 (dS (J.a9 (rS 1) J.ay) .list)) (aD (cW 4 (kI 0)) (aD (iK (dP (g2 (rB 4) (bL (J.a9 (rB 3) J.ay) (f_ fK)) w_)) Vw 100000) (T8 2 (cu (rS 2)))))):=rfl
abbrev NZ:=List (List Str×Int)
def jJ (l:NZ):List (List Str×D):=l.map fun p=>(p.1,.int p.2)
theorem ka (l:NZ):lv (jJ l)=l.map (·.1):=by
 unfold lv jJ
 rw [cJ]
 rfl
structure L3 (fs st:List Str) (es:List cf) (l:NZ):Prop where
 nd:(l.map (·.1)).Nodup
 beg:st∈l.map (·.1)
 sub:∀ x∈l.map (·.1),Sub fs x
 rch:∀ x∈l.map (·.1),RL es st x
theorem L3.ne {fs st:List Str}{es:List cf}{l:NZ} (h:L3 fs st es l):jJ l≠[]:=by
 intro z
 have:=List.map_eq_nil_iff.mp z
 have h1:=h.beg
 rw [this] at h1
 cases h1
theorem L3.few {fs st:List Str}{es:List cf}{l:NZ} (g:cN fs es) (h:L3 fs st es l):l.length<=64:=by
 have:=EJ g.rise (l:=jJ l) (by rw [ka];exact h.nd) fun x hx=>by
  rw [ka] at hx
  exact h.sub x hx
 unfold jJ at this
 rw [ao] at this
 exact this
def mo (x:List Str) (n:Int) (l:NZ) (e:cf):NZ :=
 if bA x e.needs e.bars=true/\aU e x∉l.map (·.1) then l++[(aU e x,n + 1)] else l
theorem Qx {fs st x:List Str}{es:List cf}{n:Int}{l:NZ}{e:cf} (g:cN fs es) (h:L3 fs st es l) (hx:x∈l.map (·.1)) (he:e∈es):L3 fs st es (mo x n l e)/\(∀ p∈l,p∈mo x n l e)/\(∃ t,mo x n l e=l++t)/\(bA x e.needs e.bars=true->aU e x∈(mo x n l e).map (·.1)):=by
 unfold mo
 by_cases hc:bA x e.needs e.bars=true/\aU e x∉l.map (·.1)
 ·rw [if_pos hc]
  obtain ⟨rs,r1,r2⟩:=h.rch x hx
  refine ⟨⟨?_,?_,fun y hy=>?_,fun y hy=>?_⟩,fun p hp=>bu _ hp,⟨_,rfl⟩,fun _=>?_⟩
  ·rw [aT];exact xp h.nd hc.2
  ·rw [aT];exact bu _ h.beg
  ·rw [aT] at hy
   rcases List.mem_append.mp hy with z | z
   ·exact h.sub y z
   ·rw [List.mem_singleton.mp z];exact oX g.rise.up (g.ok e he) (h.sub x hx)
  ·rw [aT] at hy
   rcases List.mem_append.mp hy with z | z
   ·exact h.rch y z
   ·rw [List.mem_singleton.mp z]
    refine ⟨rs++[e],fun a ha=>?_,uL e _ _ _ r2 hc.1⟩
    rcases List.mem_append.mp ha with w | w
    ·exact r1 a w
    ·rw [List.mem_singleton.mp w];exact he
  ·rw [aT];exact aL _ am
 ·rw [if_neg hc]
  exact ⟨h,fun _ h=>h,⟨[],(de _).symm⟩,fun hg=>Classical.byContradiction fun z=>hc ⟨hg,z⟩⟩
theorem Tp {l:NZ}{j:Nat}{x:List Str} (h:(l.map (·.1))[j]?=some x):aY (.list ((l.map (·.1)).map aA)) (.int (j:Nat))=.ok (aA x):=oC (by rw [aZ,h];rfl)
theorem Vx {fs st x:List Str}{es:List cf}{n:Int} (g:cN fs es) (B S:D) (j:Nat) (z6:Sl) {l:NZ}{e:cf} (h:L3 fs st es l) (hj:(l.map (·.1))[j]?=some x) (hn:(x,n)∈l) (he:e∈es) :
  ∃ y6,VQ [.shr B,.shr S,.own (.dict (cF (jJ l))),.own (.list ((l.map (·.1)).map aA)),.shr (.int (j:Nat)),.shr (c8 e),z6]=.ok (.nx [.shr B,.shr S,.own (.dict (cF (jJ (mo x n l e)))),.own (.list (((mo x n l e).map (·.1)).map aA)),.shr (.int (j:Nat)),.shr (c8 e),y6]):=by
 have few:=h.few g
 have hx:x∈l.map (·.1):=cm hj
 have ls:=dI (h.sub x hx) g.rise.len
 have ixk:=Tp hj
 have ixn:wB (.dict (cF (jJ l))) (aA x)=.ok (.int n):=IQ (l:=jJ l) (by rw [ka];exact h.nd) (bz (f:=fun p:List Str×Int=>(p.1,cx p.2)) hn)
 refine ⟨.shr (NL (Be e x)),?_⟩
 unfold VQ
 walk_at "zz"
 rw [ixk]
 walk_at "zz"
 rw [Cz (kS g he) (by omega)]
 walk_at "zz"
 rw [Bf]
 unfold mo
 by_cases hg:bA x e.needs e.bars=true
 ·rw [if_pos hg,Kh]
  rw [Vl]
  walk_at "zz"
  rw [IR h.ne,ka]
  by_cases hm:aU e x∈l.map (·.1)
  ·rw [decide_eq_true hm,if_neg (fun z=>z.2 hm)]
   walk_at "zz"
  ·rw [decide_eq_false hm,if_pos ⟨hg,hm⟩]
   walk_at "zz"
   rw [NX (l:=jJ l) (x:=aU e x) (d:=.int (n + 1)) rfl ?_ rfl h.ne (by unfold jJ;rw [ao];omega) (by rw [ka];exact hm)]
   ·walk_at "zz"
    rw [yK (ds:=(l.map (·.1)).map aA) (d:=aA (aU e x)) rfl rfl (by rw [ao,ao];omega)]
    unfold jJ
    simp only [aT]
    rfl
   ·walk_at "zz"
    rw [ixk]
    walk_at "zz"
    rw [ixn]
    walk_at "zz"
 ·rw [if_neg hg,Ki,if_neg (fun z=>hg z.1)]
  rw [uI]
  walk_at "zz"
theorem Tq {fs st x:List Str}{es:List cf}{n:Int} (g:cN fs es) (B S:D) (j:Nat) (z5 z6:Sl) {l:NZ} (h:L3 fs st es l) (hj:(l.map (·.1))[j]?=some x) (hn:(x,n)∈l) (xs:List cf) (hx:∀ e∈xs,e∈es) :
  L3 fs st es (xs.foldl (mo x n) l)/\(∃ t,xs.foldl (mo x n) l=l++t)/\(∀ e∈xs,bA x e.needs e.bars=true->aU e x∈(xs.foldl (mo x n) l).map (·.1))/\∃ y5 y6,gL (bg 5) VQ (xs.map c8) [.shr B,.shr S,.own (.dict (cF (jJ l))),.own (.list ((l.map (·.1)).map aA)),.shr (.int (j:Nat)),z5,z6]=.ok (.nx [.shr B,.shr S,.own (.dict (cF (jJ (xs.foldl (mo x n) l)))),.own (.list (((xs.foldl (mo x n) l).map (·.1)).map aA)),.shr (.int (j:Nat)),y5,y6]):=by
 induction xs generalizing l z5 z6 with
 | nil=>exact ⟨h,⟨[],(de _).symm⟩,fun _ h=>(nomatch h),z5,z6,rfl⟩
 | cons e r ih =>
  have he:=hx e am
  have hxm:x∈l.map (·.1):=cm hj
  obtain ⟨a1,a2,⟨t,a3⟩,a4⟩:=Qx (n:=n) g h hxm he
  obtain ⟨y6,q⟩:=Vx g B S j z6 h hj hn he
  have hj':((mo x n l e).map (·.1))[j]?=some x:=by
   rw [a3,aT,bc (List.getElem?_eq_some_iff.mp hj).1]
   exact hj
  obtain ⟨b1,⟨t2,b2⟩,b3,w5,w6,b4⟩:=ih (.shr (c8 e)) y6 a1 hj' (a2 _ hn) fun a ha=>hx a (ak _ ha)
  rw [df]
  refine ⟨b1,⟨t++t2,by rw [b2,a3,nQ]⟩,fun a ha hg=>?_,w5,w6,?_⟩
  ·rcases List.mem_cons.mp ha with z | z
   ·subst z
    have:=a4 hg
    rw [b2,aT]
    exact bu _ this
   ·exact b3 a z hg
  ·rw [aB,lH (ρ1:=[.shr B,.shr S,.own (.dict (cF (jJ l))),.own (.list ((l.map (·.1)).map aA)),.shr (.int (j:Nat)),.shr (c8 e),z6]) rfl q]
   exact b4
structure RM (st:List Str) (es:List cf) (l:NZ) (j:Nat):Prop where
 beg:(st,0)∈l
 rch:∀ p∈l,∃ rs:List cf,(∀ e∈rs,e∈es)/\jI rs st=some p.1/\(rs.length:Int)=p.2
 up:l.Pairwise fun p q=>p.2<=q.2
 mx:∀ p,l[j]?=some p->∀ q∈l,q.2<=p.2 + 1
 cls:∀ i p,i<j->l[i]?=some p->∀ e∈es,bA p.1 e.needs e.bars=true->∃ q∈l,q.1=aU e p.1/\q.2<=p.2 + 1
theorem vQ (x:List Str) (n:Int):∀ (xs:List cf) (l:NZ),∃ t:NZ,xs.foldl (mo x n) l=l++t/\∀ p∈t,p.2=n + 1/\∃ e∈xs,bA x e.needs e.bars=true/\p.1=aU e x
 | [],l=>⟨[],by simp,fun _ h=>(nomatch h)⟩
 | e::r,l=>by
  rw [df]
  by_cases hc:bA x e.needs e.bars=true/\aU e x∉l.map (·.1)
  ·have:mo x n l e=l++[(aU e x,n + 1)]:=by unfold mo;rw [if_pos hc]
   rw [this]
   obtain ⟨t,h1,h2⟩:=vQ x n r (l++[(aU e x,n + 1)])
   refine ⟨(aU e x,n + 1)::t,by rw [h1];simp,fun p hp=>?_⟩
   rcases List.mem_cons.mp hp with z | z
   ·subst z;exact ⟨rfl,e,am,hc.1,rfl⟩
   ·obtain ⟨k1,a,k2,k3⟩:=h2 p z
    exact ⟨k1,a,ak _ k2,k3⟩
  ·have:mo x n l e=l:=by unfold mo;rw [if_neg hc]
   rw [this]
   obtain ⟨t,h1,h2⟩:=vQ x n r l
   refine ⟨t,h1,fun p hp=>?_⟩
   obtain ⟨k1,a,k2,k3⟩:=h2 p hp
   exact ⟨k1,a,ak _ k2,k3⟩
theorem O7 {st x:List Str}{es:List cf}{l:NZ}{j:Nat}{p:List Str×Int} (D:RM st es l j) (hj:l[j]?=some p) (hx:x=p.1) (hb:∀ e∈es,bA x e.needs e.bars=true->aU e x∈(es.foldl (mo x p.2) l).map (·.1)):RM st es (es.foldl (mo x p.2) l) (j + 1):=by
 subst hx
 obtain ⟨t,e,ht⟩:=vQ p.1 p.2 es l
 rw [e] at hb ⊢
 have hpm:p∈l:=cm hj
 have top:∀ q∈l++t,q.2<=p.2 + 1:=fun q hq=>by
  rcases List.mem_append.mp hq with z | z
  ·exact D.mx p hj q z
  ·exact Int.le_of_eq (ht q z).1
 have up:(l++t).Pairwise fun p q=>p.2<=q.2:=by
  refine List.pairwise_append.mpr ⟨D.up,?_,fun q hq r hr=>by rw [(ht r hr).1];exact D.mx p hj q hq⟩
  exact wv fun q hq r hr=>by rw [(ht q hq).1,(ht r hr).1];exact Int.le_refl _
 have hjl:j<l.length:=(List.getElem?_eq_some_iff.mp hj).1
 have hj':(l++t)[j]?=some p:=by rw [bc hjl];exact hj
 refine ⟨bu _ D.beg,fun q hq=>?_,up,fun q hq r hr=>?_,fun i q hi hq a ha hg=>?_⟩
 ·rcases List.mem_append.mp hq with z | z
  ·exact D.rch q z
  ·obtain ⟨k1,a,k2,k3,k4⟩:=ht q z
   obtain ⟨rs,r1,r2,r3⟩:=D.rch p hpm
   refine ⟨rs++[a],fun b hb=>?_,by rw [k4];exact uL a _ _ _ r2 k3,by rw [k1,aG,cB,<- r3];rfl⟩
   rcases List.mem_append.mp hb with w | w
   ·exact r1 b w
   ·rw [List.mem_singleton.mp w];exact k2
 ·have h1:=top r hr
  obtain ⟨q1,q2⟩:=List.getElem?_eq_some_iff.mp hq
  obtain ⟨p1,p2⟩:=List.getElem?_eq_some_iff.mp hj'
  have:=List.pairwise_iff_getElem.mp up j (j + 1) p1 q1 (dq j)
  rw [q2,p2] at this
  omega
 ·by_cases hij:i=j
  ·subst hij
   rw [hj'] at hq
   cases hq
   obtain ⟨q,hq,eq⟩:=List.mem_map.mp (hb a ha hg)
   exact ⟨q,hq,eq,top q hq⟩
  ·have hi':i<j:=by omega
   rw [bc (by omega)] at hq
   obtain ⟨r,r1,r2,r3⟩:=D.cls i q hi' hq a ha hg
   exact ⟨r,bu _ r1,r2,r3⟩
theorem EO {fs st:List Str}{es:List cf} (g:cN fs es) (S:D):∀ (k fuel j:Nat) (z5 z6:Sl) (l:NZ),L3 fs st es l->RM st es l j->j<=l.length->(∀ i x,i<j->(l.map (·.1))[i]?=some x->∀ e∈es,bA x e.needs e.bars=true->aU e x∈l.map (·.1))->65 - j<=k->k<fuel ->
  ∃ (l':NZ) (y3 y4 y5 y6:Sl),(L3 fs st es l'/\RM st es l' l'.length)/\(∀ x∈l'.map (·.1),∀ e∈es,bA x e.needs e.bars=true->aU e x∈l'.map (·.1))/\iK (dP (g2 (rB 4) (bL (J.a9 (rB 3) J.ay) (f_ fK)) w_)) Vw fuel [.shr (cU fs es),.shr S,.own (.dict (cF (jJ l))),.own (.list ((l.map (·.1)).map aA)),.shr (.int (j:Nat)),z5,z6]=.ok (.nx [.shr (cU fs es),.shr S,.own (.dict (cF (jJ l'))),y3,y4,y5,y6])
 | _,0,_,_,_,_,_,_,_,_,_,hf=>absurd hf (lU _)
 | k,fuel + 1,j,z5,z6,l,h,hv,hj,hc,hk,hf=>by
  have few:=h.few g
  have ht:dP (g2 (rB 4) (bL (J.a9 (rB 3) J.ay) (f_ fK)) w_) [.shr (cU fs es),.shr S,.own (.dict (cF (jJ l))),.own (.list ((l.map (·.1)).map aA)),.shr (.int (j:Nat)),z5,z6]=.ok (decide (j<l.length)):=by
   walk_at "zz"
   simp only [Int.ofNat_lt]
  rw [iK,ht]
  by_cases hl:j<l.length
  ·rw [decide_eq_true hl]
   simp only
   have hlm:j<(l.map (·.1)).length:=by rw [ao];exact hl
   have hx:(l.map (·.1))[j]?=some (l.map (·.1))[j]:=aN hlm
   have hn:((l.map (·.1))[j],l[j].2)∈l:=by
    have:((l.map (·.1))[j],l[j].2)=l[j]:=by rw [kU]
    rw [this]
    exact gC hl
   obtain ⟨b1,⟨t,b2⟩,b3,y5,y6,b4⟩:=Tq g (cU fs es) S j z5 z6 h hx hn es fun _ h=>h
   have hb:Vw [.shr (cU fs es),.shr S,.own (.dict (cF (jJ l))),.own (.list ((l.map (·.1)).map aA)),.shr (.int (j:Nat)),z5,z6]=.ok (.nx [.shr (cU fs es),.shr S,.own (.dict (cF (jJ (es.foldl (mo (l.map (·.1))[j] l[j].2) l)))),.own (.list (((es.foldl (mo (l.map (·.1))[j] l[j].2) l).map (·.1)).map aA)),.shr (.int ((j + 1:Nat):Int)),y5,y6]):=by
    unfold Vw
    walk_at "zz"
    rw [m7 (ds:=es.map c8)]
    ·rw [b4]
     walk_at "zz"
     rfl
    ·walk_at "zz"
     rw [Qj]
     walk_at "zz"
   rw [hb]
   obtain ⟨l',w3,w4,w5,w6,e1,e2,e3⟩:=EO g S (k - 1) fuel (j + 1) y5 y6 _ b1 (O7 hv (aN hl) (kU (f:=fun p:List Str×Int=>p.1) (h:=hlm)) b3) (by rw [b2,aG];omega) (fun i x hi hix e he hg=>by
    rw [b2,aT] at hix
    have hi':i<(l.map (·.1)).length:=by rw [ao];omega
    rw [bc hi'] at hix
    by_cases hij:i=j
    ·subst hij
     rw [hx] at hix
     cases hix
     exact b3 e he hg
    ·have:=hc i x (by omega) hix e he hg
     rw [b2,aT]
     exact bu _ this) (by omega) (by omega)
   exact ⟨l',w3,w4,w5,w6,e1,e2,e3⟩
  ·rw [decide_eq_false hl]
   simp only
   refine ⟨l,_,_,z5,z6,⟨h,(show j=l.length by omega) ▸ hv⟩,fun x hx=>?_,rfl⟩
   obtain ⟨i,hi,e⟩:=gy hx
   rw [ao] at hi
   exact hc i x (by omega) (by rw [aN (by rw [ao];exact hi),e])
theorem Ko {fs st:List Str}{es:List cf} (g:cN fs es) (hs:Sub fs st):∃ l:NZ,(l.map (·.1)).Nodup/\l.length<=64/\(∀ x,x∈l.map (·.1)↔RL es st x)/\RM st es l l.length/\jG [cU fs es,aA st]=.ok (.dict ((.none,.none)::cF (jJ l))):=by
 have h0:L3 fs st es [(st,0)]:=⟨by simp,List.mem_singleton.mpr rfl,fun p hp=>by rw [List.mem_singleton.mp hp];exact hs,fun p hp=>by rw [List.mem_singleton.mp hp];exact ⟨[],fun _ h=>(nomatch h),rfl⟩⟩
 obtain ⟨l,y3,y4,y5,y6,⟨e1,p1⟩,e2,e3⟩:=EO g (aA st) 65 100000 0 .no .no [(st,0)] h0 ⟨List.mem_singleton.mpr rfl,fun p hp=>by rw [List.mem_singleton.mp hp];exact ⟨[],fun _ h=>(nomatch h),rfl,rfl⟩,by simp,fun p hp q hq=>by cases hp;rw [List.mem_singleton.mp hq];show (0:Int)<=0 + 1;decide,fun i p hi=>absurd hi (lU _)⟩ (cE _) (fun i x hi=>absurd hi (lU _)) (by simp) (by decide)
 refine ⟨l,e1.nd,e1.few g,fun x=>⟨e1.rch x,?_⟩,p1,?_⟩
 ·rintro ⟨rs,r1,r2⟩
  exact sU (M:=fun x=>x∈l.map (·.1)) e2 rs st x e1.beg r1 r2
 ·unfold jG
  refine cw ?_
  rw [O6]
  unfold bM
  walk_at "zz"
  rw [Vu (x:=st) (d:=.int 0) rfl rfl]
  walk_at "zz"
  have e3':iK (dP (g2 (rB 4) (bL (J.a9 (rB 3) J.ay) (f_ fK)) w_)) Vw 100000 [.shr (cU fs es),.shr (aA st),.own (.dict (cF [(st,.int 0)])),.own (.list [aA st]),.shr (.int 0),.no,.no]=_:=e3
  unfold w_ at e3'
  rw [e3']
  walk_at "zz"
  rw [Vt e1.ne rfl]
  walk_at "zz"
def Xr (es:List cf) (st m b:List Str):Prop:=∃ x,RL es st x/\bA x m b=true
noncomputable def GH (es:List cf) (st m b:List Str):Bool:=@decide (Xr es st m b) (nz _)
theorem EQ {es:List cf}{st m b:List Str}:GH es st m b=true↔Xr es st m b:=by
 unfold GH
 exact @decide_eq_true_iff _ (nz _)
theorem GG.keys {fs st:List Str}{es:List cf}{l:LZ} (h:GG fs st es l) (x:List Str):x∈l.map (·.1)↔RL es st x:=by
 constructor
 ·intro hx
  obtain ⟨p,hp,rfl⟩:=List.mem_map.mp hx
  obtain ⟨r1,r2,_⟩:=h.ok.row p hp
  exact ⟨p.2,r1,r2⟩
 ·rintro ⟨rs,r1,r2⟩
  exact sU (M:=fun x=>x∈l.map (·.1)) h.all rs st x (bz (f:=(·.1)) h.ok.beg) r1 r2
theorem IT {fs st m b:List Str}{es:List cf}{ks:List (List Str)} (h:∀ x,x∈ks↔RL es st x):(ks.any fun x=>bA x m b)=GH es st m b:=by
 rw [jn,EQ,iR]
 constructor
 ·rintro ⟨x,h1,h2⟩;exact ⟨x,(h x).mp h1,h2⟩
 ·rintro ⟨x,h1,h2⟩;exact ⟨x,(h x).mpr h1,h2⟩
def CF (es:List cf) (st m b:List Str) (k:Int):Prop:=(∃ rs x,(∀ e∈rs,e∈es)/\jI rs st=some x/\bA x m b=true/\(rs.length:Int)=k)/\∀ rs x,(∀ e∈rs,e∈es)->jI rs st=some x->bA x m b=true->k<=(rs.length:Int)
theorem CF.uniq {es:List cf}{st m b:List Str}{k j:Int} (h:CF es st m b k) (h':CF es st m b j):k=j:=by
 obtain ⟨⟨rs,x,r1,r2,r3,r4⟩,h2⟩:=h
 obtain ⟨⟨rs',x',r1',r2',r3',r4'⟩,h2'⟩:=h'
 have:=h2 rs' x' r1' r2' r3'
 have:=h2' rs x r1 r2 r3
 omega
noncomputable def ES (es:List cf) (st m b:List Str):Option Int:=@dite _ (∃ k,CF es st m b k) (nz _) (fun h=>some (Classical.choose h)) fun _=>none
theorem uN {es:List cf}{st m b:List Str}{k:Int} (h:CF es st m b k):ES es st m b=some k:=by
 unfold ES
 rw [dif_pos ⟨k,h⟩]
 exact congrArg some (CF.uniq (Classical.choose_spec (⟨k,h⟩:∃ k,CF es st m b k)) h)
theorem ET {es:List cf}{st m b:List Str} (h:GH es st m b=false):ES es st m b=none:=by
 unfold ES
 rw [dif_neg]
 rintro ⟨k,⟨rs,x,r1,r2,r3,_⟩,_⟩
 have:GH es st m b=true:=EQ.mpr ⟨x,⟨rs,r1,r2⟩,r3⟩
 rw [h] at this
 cases this
theorem yW {β:Type} (len:β->Int) {l:List (List Str×β)}{es:List cf} (hc:∀ p∈l,∀ e∈es,bA p.1 e.needs e.bars=true->∃ q∈l,q.1=aU e p.1/\len q.2<=len p.2 + 1):∀ (rs:List cf) (p:List Str×β) (x:List Str),p∈l->(∀ e∈rs,e∈es)->jI rs p.1=some x->∃ q∈l,q.1=x/\len q.2<=len p.2 + rs.length
 | [],p,x,hp,_,h=>by
  cases h
  exact ⟨p,hp,rfl,by simp⟩
 | a::r,p,x,hp,he,h=>by
  have h':(if bA p.1 a.needs a.bars then jI r (aU a p.1) else none)=some x:=h
  split at h'
  ·rename_i hg
   obtain ⟨q,q1,q2,q3⟩:=hc p hp a (he a am) hg
   rw [<- q2] at h'
   obtain ⟨s,s1,s2,s3⟩:=yW len hc r q x q1 (fun e h=>he e (ak _ h)) h'
   refine ⟨s,s1,s2,?_⟩
   rw [aR]
   omega
  ·cases h'
theorem EU {g:List Str->Bool}{x0:List Str}{r0:List (List Str)}{q:List Str×List cf}:∀ {l:LZ},(l.Pairwise fun p q=>p.2.length<=q.2.length)->(l.map (·.1)).filter g=x0::r0->q∈l->g q.1=true->(oZ l x0).length<=q.2.length
 | [],_,_,hq,_=>nomatch hq
 | p::t,up,hF,hq,hg=>by
  obtain ⟨u1,u2⟩:=List.pairwise_cons.mp up
  rw [aB] at hF
  unfold oZ
  rw [bN]
  by_cases hp:g p.1=true
  ·rw [Dh hp] at hF
   rw [decide_eq_true (List.cons.inj hF).1]
   rcases List.mem_cons.mp hq with z | z
   ·subst z;exact ar _
   ·exact u1 q z
  ·rw [List.filter_cons_of_neg hp] at hF
   have hx:g x0=true:=by
    have:x0∈(t.map (·.1)).filter g:=by rw [hF];exact am
    exact (List.mem_filter.mp this).2
   rw [decide_eq_false fun z=>hp (by rw [z];exact hx)]
   rcases List.mem_cons.mp hq with z | z
   ·subst z;exact (hp hg).elim
   ·exact EU u2 hF z hg
theorem GI {fs st m b:List Str}{es:List cf}{l:LZ} (g:cN fs es) (hw:hZ fs m b) (hb:GG fs st es l) (hn:Qw es l) :
  (GH es st m b=false/\j_ [.dict ((.none,.none)::cF (fA l)),eM m b]=.ok (.list []))\/∃ p∈l,∃ r:List (List Str),bA p.1 m b=true/\CF es st m b (p.2.length:Nat)/\j_ [.dict ((.none,.none)::cF (fA l)),eM m b]=.ok (.list ((p.1::r).map aA)):=by
 have l1:=dI hw.must g.rise.len
 have l2:=dI hw.bars g.rise.len
 have few:=hb.ok.few g
 have lf:=i8 (fun x=>bA x m b) (l.map (·.1))
 rw [ao] at lf
 have key:∀ {ds:List D},(∀ z,gg (hX 1 [z,.shr (.dict ((.none,.none)::cF (fA l))),.shr (.list (((l.map (·.1)).filter fun x=>bA x m b).map aA))] (dP (g2 (bL (J.a9 (g2 (rB 1) (rB 0) wB) J.ay) (f_ fK)) (bL (J.a9 (g2 (rB 1) (g2 (rB 2) (kI 0) aY) wB) J.ay) (f_ fK)) (l_ false))) (rS 0)) (((l.map (·.1)).filter fun x=>bA x m b).map aA)=.ok ds)->j_ [.dict ((.none,.none)::cF (fA l)),eM m b]=.ok (.list ds):=by
  intro ds hd
  unfold j_
  refine cw ?_
  unfold re bM
  walk_at "zz"
  rw [RK]
  walk_at "zz"
  rw [EH,jg]
  walk_at "zz"
  rw [if_pos (by omega)]
  rw [eT _ (fun x:List Str=>aA x) (fun x=>aA x) (fun x=>bA x m b) (l.map (·.1)) fun x hx=>mV (by
   walk_at "zz"
   rw [sQ (by omega) (by omega)]
   walk_at "zz") fun _=>rfl]
  walk_at "zz"
  rw [if_pos (by omega)]
  rw [show (lm (fun x=>aA x) ((l.map (·.1)).filter fun x=>bA x m b))=((l.map (·.1)).filter fun x=>bA x m b).map aA from rfl,hd]
  walk_at "zz"
 cases hF:(l.map (·.1)).filter (fun x=>bA x m b) with
 | nil =>
  left
  refine ⟨?_,key fun z=>?_⟩
  ·rw [<- IT (fs:=fs) hb.keys]
   refine Bool.eq_false_iff.mpr fun hz=>?_
   obtain ⟨x,h1,h2⟩:=List.any_eq_true.mp hz
   have:x∈(l.map (·.1)).filter (fun x=>bA x m b):=List.mem_filter.mpr ⟨h1,h2⟩
   rw [hF] at this
   cases this
  ·rw [hF]
   rfl
 | cons x0 r0 =>
  right
  have hx0:x0∈(l.map (·.1)).filter (fun x=>bA x m b):=by rw [hF];exact am
  obtain ⟨k1,k2⟩:=List.mem_filter.mp hx0
  have km:=uM k1
  obtain ⟨r1,r2,r3⟩:=hb.ok.row _ km
  have ixr:∀ x∈l.map (·.1),wB (.dict ((.none,.none)::cF (fA l))) (aA x)=.ok (cY (oZ l x)):=fun x hx=>by
   have:=GF (l:=fA l) (by rw [jg];exact hb.ok.nd) (yU (uM hx))
   exact this
  have ix0:aY (.list ((x0::r0).map aA)) (.int 0)=.ok (aA x0):=oC (j:=0) rfl
  refine ⟨(x0,oZ l x0),km,r0.filter fun x=>decide (((oZ l x).length:Int)=(oZ l x0).length),k2,⟨⟨oZ l x0,x0,r1,r2,k2,rfl⟩,fun rs x h1 h2 h3=>?_⟩,key fun z=>?_⟩
  ·obtain ⟨q,q1,q2,q3⟩:=yW (fun r:List cf=>(r.length:Int)) (fun p hp e he hg=>by
    obtain ⟨q,a,b,c⟩:=hn.cls p hp e he hg
    exact ⟨q,a,b,by omega⟩) rs (st,[]) x hb.ok.beg h1 h2
   have:=EU (q:=q) hn.up hF q1 (by rw [q2];exact h3)
   simp only [br] at q3
   show ((oZ l x0).length:Int)<=_
   omega
  ·rw [hF]
   have hx':∀ x∈x0::r0,x∈l.map (·.1):=fun x hx=>(List.mem_filter.mp (by rw [hF];exact hx)).1
   rw [eT _ (fun x:List Str=>aA x) (fun x=>aA x) (fun x=>decide (((oZ l x).length:Int)=(oZ l x0).length)) (x0::r0) fun x hx=>mV (by
    walk_at "zz"
    rw [ixr x (hx' x hx)]
    walk_at "zz"
    rw [show (aA x0::lm (fun x=>aA x) r0)=(x0::r0).map aA from rfl,ix0]
    walk_at "zz"
    rw [ixr x0 k1]
    walk_at "zz"
    rw [li]
    walk_at "zz") fun _=>rfl]
   rw [Dh (by simp)]
theorem Qy {fs st m b:List Str}{es:List cf}{l:NZ} (P:RM st es l l.length) (hk:∀ x,x∈l.map (·.1)↔RL es st x):(((l.filter fun p=>bA p.1 m b).map (·.2))=[]/\GH es st m b=false)\/(((l.filter fun p=>bA p.1 m b).map (·.2))≠[]/\CF es st m b (El ((l.filter fun p=>bA p.1 m b).map (·.2)))):=by
 cases hF:(l.filter fun p=>bA p.1 m b).map (·.2) with
 | nil =>
  left
  refine ⟨rfl,?_⟩
  rw [<- IT (fs:=fs) hk]
  refine Bool.eq_false_iff.mpr fun hz=>?_
  obtain ⟨x,h1,h2⟩:=List.any_eq_true.mp hz
  obtain ⟨p,hp,rfl⟩:=List.mem_map.mp h1
  have:p∈l.filter fun p=>bA p.1 m b:=List.mem_filter.mpr ⟨hp,h2⟩
  rw [List.map_eq_nil_iff.mp hF] at this
  cases this
 | cons n0 r0 =>
  right
  refine ⟨fun z=>(nomatch z),?_⟩
  obtain ⟨f1,f2⟩:=yA r0 n0
  have f1:El (n0::r0)∈n0::r0:=f1
  have f2:∀ a∈n0::r0,El (n0::r0)<=a:=f2
  rw [<- hF] at f1 f2 ⊢
  generalize El ((l.filter fun p=>bA p.1 m b).map (·.2))=k at f1 f2
  obtain ⟨p,hp,e⟩:=List.mem_map.mp f1
  obtain ⟨p1,p2⟩:=List.mem_filter.mp hp
  obtain ⟨rs,r1,r2,r3⟩:=P.rch p p1
  refine ⟨⟨rs,p.1,r1,r2,p2,r3.trans e⟩,fun rs x h1 h2 h3=>?_⟩
  obtain ⟨q,q1,q2,q3⟩:=yW (fun n:Int=>n) (fun p hp e he hg=>by
   obtain ⟨i,hi,hx⟩:=gy hp
   exact P.cls i p hi (by rw [aN hi,hx]) e he hg) rs (st,0) x P.beg h1 h2
  have:=f2 q.2 (bz (f:=(·.2)) (List.mem_filter.mpr ⟨q1,by rw [q2];exact h3⟩))
  omega
abbrev WZ:=List Str×List Str
abbrev gT (w:WZ):D:=eM w.1 w.2
def eg:List cf->WZ->List WZ
 | [],w=>[w]
 | e::q,w=>match mH e w with
  | none=>[w]
  | some w'=>w::eg q w'
theorem o_:∀ (q:List cf) (w:WZ),(eg q w).length<=q.length + 1
 | [],w=>ar _
 | e::q,w=>by
  unfold eg
  split
  ·simp
  ·have:=o_ q
   simp only [aR]
   rename_i w' _
   have:=this w'
   omega
theorem yX:∀ (q:List cf) (w:WZ) (i:Nat),i<=q.length->(eg q w)[i]?=yP (q.take i) w
 | [],w,i,h=>by
  have:i=0:=Nat.le_zero.mp h
  subst this
  rfl
 | e::q,w,0,_=>by
  unfold eg
  split<;>rfl
 | e::q,w,i + 1,h=>by
  rw [List.take_succ_cons]
  unfold eg yP
  cases mH e w with
  | none=>rfl
  | some w'=>exact yX q w' i (Nat.le_of_succ_le_succ h)
theorem yY (rs:List cf) (w:WZ) (i:Nat) (h:i<=rs.length):(eg rs.reverse w)[i]?=o9 (rs.drop (rs.length - i)) w:=by
 rw [yX _ _ _ (by rw [eZ];exact h),List.take_reverse,yQ]
theorem yZ {fs:List Str}{es:List cf} (g:cN fs es) (A B:D):∀ (q:List cf) (pre:List WZ) (w:WZ) (z3 z4:Sl),(∀ e∈q,e∈es)->hZ fs w.1 w.2->pre.length + q.length<=100 ->
  (gL (bg 3) (aD (cW 4 (dg 2 ii (J.a9 (rS 3) (J.a9 (g2 (rB 2) (pR (kI 1)) aY) J.ay)))) (aD (dC (dP (g2 (rB 4) kN (pG false))) (cu (rS 2)) (fun ρ=>.ok (.nx ρ))) (nF 2 (rS 4)))) (q.map c8) [.shr A,.shr B,.own (.list ((pre++[w]).map gT)),z3,z4]).bind (JZ (cu (rS 2)))=.ok (.rt (.list ((pre++eg q w).map gT)))
 | [],pre,w,z3,z4,_,_,_=>by
  rw [dn,gL]
  walk_at "zz"
  rfl
 | e::q,pre,w,z3,z4,he,hw,hl=>by
  have hem:=he e am
  have sh:=kS g hem
  have l1:=dI hw.must g.rise.len
  have l2:=dI hw.bars g.rise.len
  simp only [aR] at hl
  have hix:aY (.list ((pre++[w]).map gT)) (.int (-1))=.ok (gT w):=by
   rw [aT]
   exact CA _ _
  rw [aB]
  unfold eg
  cases ha:mH e w with
  | none =>
   rw [xB (x:=.list ((pre++[w]).map gT)) (ρ1:=[.shr A,.shr B,.own (.list ((pre++[w]).map gT)),.shr (c8 e),z4]) rfl ?_]
   ·walk_at "zz"
   ·walk_at "zz"
    rw [wD]
    walk_at "zz"
    rw [nj]
    walk_at "zz"
    rw [hix]
    walk_at "zz"
    rw [uK sh l1 l2,show (w.1,w.2)=w from rfl,ha]
    walk_at "zz"
    rw [show EB none=qM from rfl,uI]
    walk_at "zz"
  | some w' =>
   have hw':hZ fs w'.1 w'.2:=yO (g.ok e hem) hw ha
   have ih:=yZ g A B q (pre++[w]) w' (.shr (c8 e)) (.shr (gT w')) (fun a h=>he a (ak _ h)) hw' (by rw [aG,cB];omega)
   rw [lH (ρ1:=[.shr A,.shr B,.own (.list ((pre++[w]).map gT)),.shr (c8 e),z4]) (ρ2:=[.shr A,.shr B,.own (.list ((pre++[w]++[w']).map gT)),.shr (c8 e),.shr (gT w')]) rfl ?_]
   ·rw [ih]
    simp
   ·walk_at "zz"
    rw [wD]
    walk_at "zz"
    rw [nj]
    walk_at "zz"
    rw [hix]
    walk_at "zz"
    rw [uK sh l1 l2,show (w.1,w.2)=w from rfl,ha]
    walk_at "zz"
    rw [show EB (some w')=eM w'.1 w'.2 from rfl,NQ]
    walk_at "zz"
    rw [aT (l₁:=pre++[w])]
    exact yK (ds:=(pre++[w]).map gT) (d:=gT w') rfl (by rfl) (by rw [ao,aG];simp only [aR,br];omega)
theorem O8 {fs m b:List Str}{es rs:List cf} (g:cN fs es) (h:GB es rs) (hw:hZ fs m b):gj [.list (rs.map c8),eM m b]=.ok (.list ((eg rs.reverse (m,b)).map gT)):=by
 have hl:=h.len
 have L:=yZ g (.list (rs.map c8)) (eM m b) rs.reverse [] (m,b) .no .no (fun e he=>h.mem e (List.mem_reverse.mp he)) hw (by simp only [br,eZ];omega)
 unfold gj
 refine cw ?_
 unfold iw bM
 walk_at "zz"
 rw [m7 (ds:=rs.reverse.map c8)]
 ·exact L
 ·rw [NR]
  walk_at "zz"
  rw [IL,Ox]
theorem GJ {fs m b:List Str}{es rs:List cf} (g:cN fs es) (h:GB es rs) (hw:hZ fs m b):∀ w∈eg rs.reverse (m,b),hZ fs w.1 w.2:=by
 intro w hw'
 obtain ⟨i,hi,e⟩:=gy hw'
 have hl:=o_ rs.reverse (m,b)
 rw [eZ] at hl
 have:=yY rs (m,b) i (by omega)
 rw [aN hi,e] at this
 exact vN g hw (fun e he=>h.mem e (iG he)) this.symm
abbrev BZ:=Option (Int×Nat)
noncomputable def qz (es:List cf) (st:List Str) (b:BZ) (i:Nat) (w:WZ):BZ:=match ES es st w.1 w.2 with
 | none=>b
 | some k=>match b with
  | none=>some (k,i)
  | some (k0,i0)=>if k<k0 then some (k,i) else some (k0,i0)
noncomputable def y_ (es:List cf) (st:List Str):Nat->List WZ->BZ->BZ
 | _,[],b=>b
 | n,w::r,b=>y_ es st (n + 1) r (qz es st b n w)
structure VR (st:List Str) (es rs:List cf) (W:List WZ) (k:Int) (i:Nat) (r:List cf):Prop where
 len:(r.length:Int)=k
 few:r.length<=31
 mem:∀ e∈r,e∈es
 run:∃ x w,jI r st=some x/\W[i]?=some w/\bA x w.1 w.2=true
 le:i<=rs.length
def FS (st:List Str) (es rs:List cf) (W:List WZ) (b:BZ) (s6 s7:Sl):Prop:=match b with
 | none=>s6=.shr .none
 | some (k,i)=>∃ r,VR st es rs W k i r/\s6=.shr (cY r)/\s7=.shr (cY (rs.drop (rs.length - i)))
def Tr:aw->R Fl:=(aD (cW 10 (dg 2 j_ (J.a9 (rS 5) (J.a9 (rS 9) J.ay)))) (dC (vz (yy (rB 10)) (zL (dP (g2 (rB 6) kN (pG false))) (dP (g2 (bL (J.a9 (g2 (rB 5) (g2 (rB 10) (kI 0) aY) wB) J.ay) (f_ fK)) (bL (J.a9 (rB 6) J.ay) (f_ fK)) w_)))) (aD (cW 6 (g2 (rB 5) (g2 (rB 10) (kI 0) aY) wB)) (cW 7 (DR (rB 3) (C5 (g2 (bL (J.a9 (rB 3) J.ay) (f_ fK)) (rB 8) JK)) HK))) (fun ρ=>.ok (.nx ρ))))
theorem O9:uD=aD (pH (dg 3 jf (J.a9 (rS 0) (J.a9 (rS 1) (J.a9 (rS 2) J.ay))))) (aD (cW 4 (dg 2 gj (J.a9 (dg 2 gN (J.a9 (rS 0) (J.a9 (rS 3) J.ay))) (J.a9 (rS 2) J.ay)))) (aD (cW 5 (dg 2 jF (J.a9 (rS 0) (J.a9 (rS 1) J.ay)))) (aD (cW 6 kN) (aD (dZ 7 (dS J.ay .list)) (aD (lc (J.Ee (J.a9 (rS 4) J.ay)) (iX 2 (bO (bg 8) (bO (bg 9) jp))) Tr) (cu (Tx (dP (g2 (rB 6) kN (pG false))) kN (g2 (rB 6) (rB 7) dB)))))))):=rfl
theorem uO (rs:List cf) (t:Nat) (h:t<=rs.length):Ad (cY rs) (some (t:Int)) none=.ok (cY (rs.drop t)):=by
 have e:Ad (cY rs) (some (t:Int)) none=.ok (.list (x_ (rs.map fun e=>aW e.name) (some (t:Int)) none)):=rfl
 rw [e,Gz _ _ (by rw [ao];exact h),cY,List.map_drop]
theorem Oa (neg:Bool) (ds:List D):pG neg (.list ds) .none=.ok (.bool neg):=by cases neg<;>rfl
theorem Tt (gs:aw->R (List D)) (s:Sl) (ρ:aw):J.Ee gs (s::ρ)=(gs (s::ρ)).bind J.P_:=id rfl
theorem Qz (ds:List D):J.P_ [.list ds]=.ok (jx 0 ds):=rfl
theorem WV {fs st:List Str}{es:List cf}{l:LZ} (g:cN fs es) (fl:fs.length<=5) (h:ml fs st es l):l.length<=32:=by
 have:=yS h.nd fun x hx=>EE g.rise.up (by
  obtain ⟨p,hp,rfl⟩:=List.mem_map.mp hx
  exact h.sub p hp)
 rw [ao] at this
 unfold Qm at this
 rw [yT] at this
 have:2 ^ fs.length<=2 ^ 5:=Jf (by decide) fl
 simp only [aR,br] at *
 omega
theorem QA {fs st:List Str}{es rs:List cf}{l:LZ}{W:List WZ}{w:WZ}{n:Nat}{b:BZ}{s6 s7:Sl} (g:cN fs es) (fl:fs.length<=5) (hw:hZ fs w.1 w.2) (hb:GG fs st es l) (hn:Qw es l) (hW:W[n]?=some w) (hnl:n<=rs.length) (F:FS st es rs W b s6 s7) (A0 A1 A2 A4:D) (z10:Sl) :
  ∃ s6' s7' y10,FS st es rs W (qz es st b n w) s6' s7'/\Tr [.shr A0,.shr A1,.shr A2,.shr (cY rs),.shr A4,.shr (.dict ((.none,.none)::cF (fA l))),s6,s7,.shr (.int (n:Nat)),.shr (gT w),z10]=.ok (.nx [.shr A0,.shr A1,.shr A2,.shr (cY rs),.shr A4,.shr (.dict ((.none,.none)::cF (fA l))),s6',s7',.shr (.int (n:Nat)),.shr (gT w),y10]):=by
 rcases GI g hw hb hn with ⟨h1,h2⟩ | ⟨p,hp,r,k1,k2,k3⟩
 ·refine ⟨s6,s7,.shr (.list []),?_,?_⟩
  ·unfold qz
   rw [ET h1]
   exact F
  ·unfold Tr
   walk_at "zz"
   rw [h2]
   walk_at "zz"
   rw [EI (ds:=[]) rfl]
   walk_at "zz"
   rw [Os]
   walk_at "zz"
 ·have ix0:aY (.list ((p.1::r).map aA)) (.int 0)=.ok (aA p.1):=oC (j:=0) rfl
  have ixp:wB (.dict ((.none,.none)::cF (fA l))) (aA p.1)=.ok (cY p.2):=GF (l:=fA l) (by rw [jg];exact hb.ok.nd) (yU hp)
  have few:=WV g fl hb.ok
  obtain ⟨r1,r2,r3⟩:=hb.ok.row p hp
  have hsl:Ad (cY rs) (some ((rs.length:Nat) - (n:Nat):Int)) none=.ok (cY (rs.drop (rs.length - n))):=by
   rw [show ((rs.length:Nat) - (n:Nat):Int)=((rs.length - n:Nat):Int) by omega]
   exact uO rs _ (Li _ _)
  have new:VR st es rs W (p.2.length:Nat) n p.2:=⟨rfl,by omega,r1,⟨p.1,w,r2,hW,k1⟩,hnl⟩
  cases b with
  | none =>
   have F:s6=.shr .none:=F
   subst F
   refine ⟨.shr (cY p.2),.shr (cY (rs.drop (rs.length - n))),.shr (.list ((p.1::r).map aA)),?_,?_⟩
   ·unfold qz
    rw [uN k2]
    exact ⟨p.2,new,rfl,rfl⟩
   ·unfold Tr
    walk_at "zz"
    rw [k3]
    walk_at "zz"
    rw [EI (ds:=(p.1::r).map aA) rfl]
    walk_at "zz"
    rw [nR]
    walk_at "zz"
    rw [uI]
    walk_at "zz"
    rw [show (aA p.1::lm aA r)=(p.1::r).map aA from rfl,ix0]
    walk_at "zz"
    rw [ixp]
    walk_at "zz"
    rw [hsl]
    walk_at "zz"
  | some kb =>
   obtain ⟨k0,i0⟩:=kb
   obtain ⟨r0,f,e6,e7⟩:=F
   subst e6 e7
   by_cases hlt:((p.2.length:Nat):Int)<k0
   ·refine ⟨.shr (cY p.2),.shr (cY (rs.drop (rs.length - n))),.shr (.list ((p.1::r).map aA)),?_,?_⟩
    ·unfold qz
     rw [uN k2]
     simp only [if_pos hlt]
     exact ⟨p.2,new,rfl,rfl⟩
    ·unfold Tr
     walk_at "zz"
     rw [k3]
     walk_at "zz"
     rw [EI (ds:=(p.1::r).map aA) rfl]
     walk_at "zz"
     rw [nR]
     walk_at "zz"
     rw [Oa]
     walk_at "zz"
     rw [show (aA p.1::lm aA r)=(p.1::r).map aA from rfl,ix0]
     walk_at "zz"
     rw [ixp]
     walk_at "zz"
     rw [f.len,decide_eq_true hlt]
     walk_at "zz"
     rw [show (aA p.1::lm aA r)=(p.1::r).map aA from rfl,ix0]
     walk_at "zz"
     rw [ixp]
     walk_at "zz"
     rw [hsl]
     walk_at "zz"
   ·refine ⟨.shr (cY r0),.shr (cY (rs.drop (rs.length - i0))),.shr (.list ((p.1::r).map aA)),?_,?_⟩
    ·unfold qz
     rw [uN k2]
     simp only [if_neg hlt]
     exact ⟨r0,f,rfl,rfl⟩
    ·unfold Tr
     walk_at "zz"
     rw [k3]
     walk_at "zz"
     rw [EI (ds:=(p.1::r).map aA) rfl]
     walk_at "zz"
     rw [nR]
     walk_at "zz"
     rw [Oa]
     walk_at "zz"
     rw [show (aA p.1::lm aA r)=(p.1::r).map aA from rfl,ix0]
     walk_at "zz"
     rw [ixp]
     walk_at "zz"
     rw [f.len,decide_eq_false hlt]
     walk_at "zz"
theorem IU {fs st:List Str}{es rs:List cf}{l:LZ}{W:List WZ} (g:cN fs es) (fl:fs.length<=5) (hb:GG fs st es l) (hn:Qw es l) (A0 A1 A2 A4:D):∀ (r:List WZ) (n:Nat) (b:BZ) (s6 s7 z8 z9 z10:Sl),(∀ w∈r,hZ fs w.1 w.2)->(∀ j w,r[j]?=some w->W[n + j]?=some w)->n + r.length<=rs.length + 1->FS st es rs W b s6 s7 ->
  ∃ s6' s7' y8 y9 y10,FS st es rs W (y_ es st n r b) s6' s7'/\gL (iX 2 (bO (bg 8) (bO (bg 9) jp))) Tr (jx n (r.map gT)) [.shr A0,.shr A1,.shr A2,.shr (cY rs),.shr A4,.shr (.dict ((.none,.none)::cF (fA l))),s6,s7,z8,z9,z10]=.ok (.nx [.shr A0,.shr A1,.shr A2,.shr (cY rs),.shr A4,.shr (.dict ((.none,.none)::cF (fA l))),s6',s7',y8,y9,y10])
 | [],n,b,s6,s7,z8,z9,z10,_,_,_,F=>⟨s6,s7,z8,z9,z10,F,rfl⟩
 | w::r,n,b,s6,s7,z8,z9,z10,hg,hW,hl,F=>by
  simp only [aR] at hl
  obtain ⟨s6',s7',y10,F',q⟩:=QA g fl (hg w am) hb hn (hW 0 w rfl) (by omega) F A0 A1 A2 A4 z10
  obtain ⟨t6,t7,x8,x9,x10,F2,q2⟩:=IU g fl hb hn A0 A1 A2 A4 r (n + 1) (qz es st b n w) s6' s7' (.shr (.int (n:Nat))) (.shr (gT w)) y10 (fun a h=>hg a (ak _ h)) (fun j a h=>by
   have:=hW (j + 1) a h
   rwa [show n + (j + 1)=n + 1 + j by omega] at this) (by omega) F'
  refine ⟨t6,t7,x8,x9,x10,F2,?_⟩
  have en:jx n ((w::r).map gT)=.tuple [.int (n:Nat),gT w]::jx (n + 1) (r.map gT):=rfl
  rw [en,lH (ρ1:=[.shr A0,.shr A1,.shr A2,.shr (cY rs),.shr A4,.shr (.dict ((.none,.none)::cF (fA l))),s6,s7,.shr (.int (n:Nat)),.shr (gT w),z10]) rfl q]
  exact q2
theorem Kp {fs st m b:List Str}{es rs:List cf} (g:cN fs es) (fl:fs.length<=5) (h:GB es rs) (hs:Sub fs st) (hw:hZ fs m b):∃ told,o6 [cU fs es,aA st,eM m b,cY rs]=.ok told/\match y_ es st 0 (eg rs.reverse (m,b)) none with
  | none=>told=.none
  | some (k,i)=>∃ r,VR st es rs (eg rs.reverse (m,b)) k i r/\told=cY (r++rs.drop (rs.length - i)):=by
 have hl:=h.len
 obtain ⟨l,⟨hb,hn⟩,e⟩:=O5 g hs
 have hlen:=o_ rs.reverse (m,b)
 rw [eZ] at hlen
 obtain ⟨s6,s7,y8,y9,y10,F,q⟩:=IU (rs:=rs) (W:=eg rs.reverse (m,b)) g fl hb hn (cU fs es) (aA st) (eM m b) (.list ((eg rs.reverse (m,b)).map gT)) (eg rs.reverse (m,b)) 0 none (.shr .none) (.own (.list [])) .no .no .no (GJ g h hw) (fun j w hj=>by rw [FW];exact hj) (by omega) rfl
 have run:∀ {told:D},cu (Tx (dP (g2 (rB 6) kN (pG false))) kN (g2 (rB 6) (rB 7) dB)) [.shr (cU fs es),.shr (aA st),.shr (eM m b),.shr (cY rs),.shr (.list ((eg rs.reverse (m,b)).map gT)),.shr (.dict ((.none,.none)::cF (fA l))),s6,s7,y8,y9,y10]=.ok (.rt told)->o6 [cU fs es,aA st,eM m b,cY rs]=.ok told:=by
  intro told ht
  unfold o6
  refine cw ?_
  rw [O9]
  unfold bM
  walk_at "zz"
  rw [NJ g hs hw]
  walk_at "zz"
  rw [sS g h]
  walk_at "zz"
  rw [O8 g h hw]
  walk_at "zz"
  rw [e]
  walk_at "zz"
  rw [m7 (ds:=jx 0 ((eg rs.reverse (m,b)).map gT))]
  ·rw [q,bind_ok,nY]
   exact ht
  ·rw [Tt]
   walk_at "zz"
   rw [Qz]
 unfold FS at F
 cases hB:y_ es st 0 (eg rs.reverse (m,b)) none with
 | none =>
  rw [hB] at F
  simp only at F
  subst F
  refine ⟨.none,run ?_,rfl⟩
  walk_at "zz"
  rw [uI]
  walk_at "zz"
 | some kb =>
  obtain ⟨k,i⟩:=kb
  rw [hB] at F
  obtain ⟨r,f,e6,e7⟩:=F
  subst e6 e7
  refine ⟨_,run ?_,r,f,rfl⟩
  have:=f.few
  have ld:(rs.drop (rs.length - i)).length<=rs.length:=by rw [iO];omega
  walk_at "zz"
  rw [Oa]
  walk_at "zz"
  rw [if_pos (by omega)]
  walk_at "zz"
  rw [<- aT]
def gO (n:Nat):BZ->D
 | none=>.none
 | some (k,i)=>.tuple [.int k,.int ((n:Nat) - (i:Nat):Int)]
theorem GK (lo:Int) (n:Nat):J.pJ lo (n + 1)=.int lo::J.pJ (lo - 1) n:=by
 unfold J.pJ
 rw [List.range_succ_eq_map,aB,cJ]
 congr 1
 ·simp
 ·refine lV fun a _=>?_
  show cx (lo - ((a + 1:Nat):Int))=_
  congr 1
  omega
def VS:aw->R Fl:=(aD (cW 9 (dg 3 uC (J.a9 (rS 1) (J.a9 (rS 3) (J.a9 (DR (rB 4) (C5 (rS 8)) HK) J.ay))))) (aD (dZ 10 (dS J.ay .list)) (aD (dC (dP (g2 (rB 9) kN (pG true))) (dZ 10 (eL 1 [9,6] (K4 (rB 6)) (dP (dg 2 ij (J.a9 (rS 0) (J.a9 (rS 1) J.ay)))) (g2 (rB 2) (rB 0) wB))) (fun ρ=>.ok (.nx ρ))) (dC (vz (dP (g2 (rB 10) (dS J.ay .list) (l_ true))) (zL (dP (g2 (rB 7) kN (pG false))) (dP (g2 (bL (J.a9 (rB 10) J.ay) (f_ Ck)) (g2 (rB 7) (kI 0) aY) w_)))) (cW 7 (dS (J.a9 (bL (J.a9 (rB 10) J.ay) (f_ Ck)) (J.a9 (rS 8) J.ay)) .tuple)) (fun ρ=>.ok (.nx ρ))))))
theorem QB {fs st m b:List Str}{es rs:List cf}{l:NZ} (g:cN fs es) (hr:GB es rs) (hw:hZ fs m b) (nd:(l.map (·.1)).Nodup) (few:l.length<=64) (P:RM st es l l.length) (hk:∀ x,x∈l.map (·.1)↔RL es st x) (i:Nat) (hi:i<=rs.length) (bb:BZ) (A0 A2 A5:D) (z9 z10:Sl) :
  ∃ y9 y10,VS [.shr A0,.shr (cU fs es),.shr A2,.shr (eM m b),.shr (cY rs),.shr A5,.shr (.dict ((.none,.none)::cF (jJ l))),.shr (gO rs.length bb),.shr (.int ((rs.length:Nat) - (i:Nat):Int)),z9,z10,.no,.no]=.ok (.nx [.shr A0,.shr (cU fs es),.shr A2,.shr (eM m b),.shr (cY rs),.shr A5,.shr (.dict ((.none,.none)::cF (jJ l))),.shr (gO rs.length (match (eg rs.reverse (m,b))[i]? with
   | none=>bb
   | some w=>qz es st bb i w)),.shr (.int ((rs.length:Nat) - (i:Nat):Int)),y9,y10,.no,.no]):=by
 have hl:=hr.len
 have hsl:Ad (cY rs) (some ((rs.length:Nat) - (i:Nat):Int)) none=.ok (cY (rs.drop (rs.length - i))):=by
  rw [show ((rs.length:Nat) - (i:Nat):Int)=((rs.length - i:Nat):Int) by omega]
  exact uO rs _ (Li _ _)
 have hrd:GB es (rs.drop (rs.length - i)):=⟨fun e he=>hr.mem e (iG he),by rw [iO];omega⟩
 have ha:=NS g hrd hw
 rw [yY rs (m,b) i hi]
 unfold VS
 cases hn:o9 (rs.drop (rs.length - i)) (m,b) with
 | none =>
  rw [hn] at ha
  refine ⟨.shr .none,.own (.list []),?_⟩
  walk_at "zz"
  rw [hsl]
  walk_at "zz"
  rw [ha]
  walk_at "zz"
  rw [show EB none=qM from rfl,uI]
  walk_at "zz"
  rw [IP _ rfl]
  walk_at "zz"
 | some w =>
  rw [hn] at ha
  have gw:hZ fs w.1 w.2:=vN g hw hrd.mem hn
  have l1:=dI gw.must g.rise.len
  have l2:=dI gw.bars g.rise.len
  have hm:gg (hX 1 [.no,.shr (eM w.1 w.2),.shr (.dict ((.none,.none)::cF (jJ l)))] (dP (dg 2 ij (J.a9 (rS 0) (J.a9 (rS 1) J.ay)))) (g2 (rB 2) (rB 0) wB)) ((l.map (·.1)).map aA)=.ok (((l.filter fun p=>bA p.1 w.1 w.2).map (·.2)).map .int):=by
   rw [cJ]
   have:=eT (hX 1 [.no,.shr (eM w.1 w.2),.shr (.dict ((.none,.none)::cF (jJ l)))] (dP (dg 2 ij (J.a9 (rS 0) (J.a9 (rS 1) J.ay)))) (g2 (rB 2) (rB 0) wB)) (fun p:List Str×Int=>aA p.1) (fun p=>cx p.2) (fun p=>bA p.1 w.1 w.2) l fun p hp=>mV (by
    walk_at "zz"
    rw [IK (by omega) (by omega)]
    walk_at "zz") fun _=>(by
    walk_at "zz"
    exact GF (l:=jJ l) (by rw [ka];exact nd) (bz (f:=fun p:List Str×Int=>(p.1,cx p.2)) hp))
   refine Eq.trans this ?_
   rw [cJ]
   rfl
  have near:=Qy (fs:=fs) (m:=w.1) (b:=w.2) P hk
  have hll:((l.filter fun p=>bA p.1 w.1 w.2).map (·.2)).length<=l.length:=by
   rw [ao]
   exact i8 _ _
  generalize (l.filter fun p=>bA p.1 w.1 w.2).map (·.2)=ls at hm near hll
  have lay:bW (ls.map .int)=true:=yJ _ ls fun _ _=>rfl
  refine ⟨.shr (gT w),.own (.list (ls.map .int)),?_⟩
  walk_at "zz"
  rw [hsl]
  walk_at "zz"
  rw [ha]
  walk_at "zz"
  rw [show EB (some w)=eM w.1 w.2 from rfl,NQ]
  walk_at "zz"
  rw [RK]
  walk_at "zz"
  rw [EH,ka]
  walk_at "zz"
  rw [if_pos (by omega),hm]
  walk_at "zz"
  rw [IP _ lay]
  have e0:decide (ls.map cx=[])=decide (ls=[]):=by
   rw [jn]
   simp
  rw [e0]
  unfold qz
  rcases near with ⟨n1,n2⟩ | ⟨n1,n2⟩
  ·rw [decide_eq_true n1,ET n2]
   walk_at "zz"
  ·rw [decide_eq_false n1,uN n2]
   have hp:0<ls.length:=List.length_pos_iff.mpr n1
   have hmin:Ck (.list (ls.map .int))=.ok (.int (El ls)):=by
    unfold Ck
    simp only [yz,if_pos hp]
   walk_at "zz"
   cases bb with
   | none =>
    rw [show gO rs.length none=qM from rfl,uI]
    walk_at "zz"
    rw [hmin]
    walk_at "zz"
    rfl
   | some kb =>
    obtain ⟨k0,i0⟩:=kb
    rw [show pG false (gO rs.length (some (k0,i0))) .none=.ok (.bool false) from rfl]
    walk_at "zz"
    rw [hmin]
    walk_at "zz"
    rw [show aY (gO rs.length (some (k0,i0))) (.int 0)=.ok (.int k0) from rfl]
    walk_at "zz"
    by_cases hlt:El ls<k0
    ·rw [decide_eq_true hlt,if_pos hlt]
     walk_at "zz"
     rw [hmin]
     walk_at "zz"
     rfl
    ·rw [decide_eq_false hlt,if_neg hlt]
     walk_at "zz"
theorem IV {fs st m b:List Str}{es rs:List cf}{l:NZ} (g:cN fs es) (hr:GB es rs) (hw:hZ fs m b) (nd:(l.map (·.1)).Nodup) (few:l.length<=64) (P:RM st es l l.length) (hk:∀ x,x∈l.map (·.1)↔RL es st x) (A0 A2 A5:D):∀ (c i:Nat) (bb:BZ) (z8 z9 z10:Sl),i + c=rs.length + 1 ->
  ∃ y8 y9 y10,gL (bg 8) VS (J.pJ ((rs.length:Nat) - (i:Nat):Int) c) [.shr A0,.shr (cU fs es),.shr A2,.shr (eM m b),.shr (cY rs),.shr A5,.shr (.dict ((.none,.none)::cF (jJ l))),.shr (gO rs.length bb),z8,z9,z10,.no,.no]=.ok (.nx [.shr A0,.shr (cU fs es),.shr A2,.shr (eM m b),.shr (cY rs),.shr A5,.shr (.dict ((.none,.none)::cF (jJ l))),.shr (gO rs.length (y_ es st i ((eg rs.reverse (m,b)).drop i) bb)),y8,y9,y10,.no,.no])
 | 0,i,bb,z8,z9,z10,h=>by
  have hl:=o_ rs.reverse (m,b)
  rw [eZ] at hl
  refine ⟨z8,z9,z10,?_⟩
  rw [pY (by omega)]
  rfl
 | c + 1,i,bb,z8,z9,z10,h=>by
  obtain ⟨y9,y10,q⟩:=QB g hr hw nd few P hk i (by omega) bb A0 A2 A5 z9 z10
  have hb:y_ es st i ((eg rs.reverse (m,b)).drop i) bb=y_ es st (i + 1) ((eg rs.reverse (m,b)).drop (i + 1)) (match (eg rs.reverse (m,b))[i]? with
   | none=>bb
   | some w=>qz es st bb i w):=by
   generalize eg rs.reverse (m,b)=W
   cases hW:W[i]? with
   | none =>
    have:=List.getElem?_eq_none_iff.mp hW
    rw [pY this,pY (by omega)]
    rfl
   | some w =>
    obtain ⟨h1,h2⟩:=List.getElem?_eq_some_iff.mp hW
    rw [nO h1,h2]
    rfl
  obtain ⟨x8,x9,x10,q2⟩:=IV g hr hw nd few P hk A0 A2 A5 c (i + 1) (match (eg rs.reverse (m,b))[i]? with
   | none=>bb
   | some w=>qz es st bb i w) (.shr (.int ((rs.length:Nat) - (i:Nat):Int))) y9 y10 (by omega)
  refine ⟨x8,x9,x10,?_⟩
  rw [hb,GK,lH (ρ1:=[.shr A0,.shr (cU fs es),.shr A2,.shr (eM m b),.shr (cY rs),.shr A5,.shr (.dict ((.none,.none)::cF (jJ l))),.shr (gO rs.length bb),.shr (.int ((rs.length:Nat) - (i:Nat):Int)),z9,z10,.no,.no]) rfl q]
  rw [show ((rs.length:Nat) - (i:Nat):Int) - 1=((rs.length:Nat) - ((i + 1:Nat):Nat):Int) by omega]
  exact q2
theorem QC (n:Nat) (h:n<=100):J.Nk [.int (n:Nat),.int (-1),.int (-1)]=.ok (J.pJ (n:Nat) (n + 1)):=by
 have e:J.Nk [.int (n:Nat),.int (-1),.int (-1)]=if (-1:Int)=-1/\-1000<=((n:Nat):Int)/\((n:Nat):Int)<=1000/\(-1000:Int)<=-1/\(-1:Int)<=1000 then .ok (J.pJ (n:Nat) (((n:Nat):Int) - -1).toNat) else .no:=rfl
 rw [e,if_pos ⟨rfl,by omega,by omega,by omega,by omega⟩]
 rw [show (((n:Nat):Int) - -1).toNat=n + 1 by omega]
theorem IW:∀ (r d:List cf) (st x:List Str),jI r st=some x->jI (r++d) st=jI d x
 | [],d,st,x,h=>by cases h;rfl
 | a::r,d,st,x,h=>by
  have h':(if bA st a.needs a.bars then jI r (aU a st) else none)=some x:=h
  show (if bA st a.needs a.bars then jI (r++d) (aU a st) else none)=_
  split at h'
  ·rename_i hg
   rw [if_pos hg]
   exact IW r d _ _ h'
  ·cases h'
theorem GL {r d:List cf}{st x m b:List Str} (h:jI r st=some x):kH st m b (r++d)=kH x m b d:=by
 unfold kH
 rw [IW r d st x h]
theorem Ob (rs:List cf):cY rs=.list ((rs.map (·.name)).map .str):=by
 unfold cY
 rw [cJ]
 rfl
def Xs:aw->R Fl:=aD (dC (zL (iJ (dP (sH (rB 11) "list"))) (zL (dP (g2 (bL (J.a9 (rB 11) J.ay) (f_ fK)) (g2 (g2 (rB 12) (bL (J.a9 (rB 4) J.ay) (f_ fK)) dB) (rB 8) JK) (l_ true))) (dP (g2 (DR (rB 11) (C5 (rS 12)) HK) (DR (rB 4) (C5 (rS 8)) HK) (l_ true))))) (cu (kB false)) (fun ρ=>.ok (.nx ρ))) (cu (dg 4 qw (J.a9 (rS 1) (J.a9 (rS 5) (J.a9 (rS 3) (J.a9 (rS 11) J.ay))))))
def WW:aw->R Fl:=aD (dC (dP (g2 (rB 7) kN (pG false))) (cu (g2 (rB 11) kN (pG false))) (fun ρ=>.ok (.nx ρ))) (aD (sI (rS 7) (iX 2 (bO (bg 12) (bO (bg 8) jp)))) Xs)
theorem Oc:Iz=aD (sI (dg 3 mf (J.a9 (rS 0) (J.a9 (kI 5) (J.a9 (kI 6) J.ay)))) (iX 3 (bO (bg 1) (bO (bg 2) (bO (bg 3) jp))))) (aD (cW 4 (dg 5 mh (J.a9 (rS 0) (J.a9 (kI 300) (J.a9 (rS 1) (J.a9 (rS 2) (J.a9 (dg 3 bq (J.a9 (rS 0) (J.a9 (kI 0) (J.a9 (kI 7) J.ay)))) J.ay))))))) (aD (cW 5 (dg 4 k8 (J.a9 (rS 0) (J.a9 (kI 40) (J.a9 (g2 (rB 1) (kI 0) aY) (J.a9 (kI 4) J.ay)))))) (aD (cW 6 (dg 2 jG (J.a9 (rS 1) (J.a9 (rS 5) J.ay)))) (aD (cW 7 kN) (aD (lc (J.Em (J.a9 (bL (J.a9 (rB 4) J.ay) (f_ fK)) (J.a9 (pR (kI 1)) (J.a9 (pR (kI 1)) J.ay)))) (bg 8) VS) (aD (cW 11 (dg 4 o6 (J.a9 (rS 1) (J.a9 (rS 5) (J.a9 (rS 3) (J.a9 (rS 4) J.ay)))))) WW)))))):=rfl
theorem Tu {fs st m b:List Str}{es rs:List cf} (g:cN fs es) (hr:GB es rs) (h10:rs.length<=20) (hs:Sub fs st) (hw:hZ fs m b) (bb:BZ) (told A0 A2 A6:D) (z8 z9 z10:Sl) (ht:match bb with
  | none=>told=.none
  | some (k,i)=>∃ r,VR st es rs (eg rs.reverse (m,b)) k i r/\told=cY (r++rs.drop (rs.length - i))):WW [.shr A0,.shr (cU fs es),.shr A2,.shr (eM m b),.shr (cY rs),.shr (aA st),.shr A6,.shr (gO rs.length bb),z8,z9,z10,.shr told,.no]=.ok (.rt (.bool true)):=by
 unfold WW
 cases bb with
 | none =>
  simp only at ht
  subst ht
  walk_at "zz"
  rw [show gO rs.length none=qM from rfl,uI]
  walk_at "zz"
  rw [uI]
  walk_at "zz"
 | some kb =>
  obtain ⟨k,i⟩:=kb
  obtain ⟨r,f,ht⟩:=ht
  have:=f.few
  have le:=f.le
  obtain ⟨x,w,w1,w2,w3⟩:=f.run
  have ld:(rs.drop (rs.length - i)).length=i:=by rw [iO];omega
  have fin:GB es (r++rs.drop (rs.length - i)):=⟨fun e he=>by
   rcases List.mem_append.mp he with z | z
   ·exact f.mem e z
   ·exact hr.mem e (iG z),by rw [aG,ld];omega⟩
  have hsl:Ad (cY rs) (some ((rs.length:Nat) - (i:Nat):Int)) none=.ok (cY (rs.drop (rs.length - i))):=by
   rw [show ((rs.length:Nat) - (i:Nat):Int)=((rs.length - i:Nat):Int) by omega]
   exact uO rs _ (Li _ _)
  have hsl2:Ad (cY (r++rs.drop (rs.length - i))) (some k) none=.ok (cY (rs.drop (rs.length - i))):=by
   rw [<- f.len,uO _ _ (by rw [aG];omega),List.drop_left]
  have eqs:l_ true (cY (rs.drop (rs.length - i))) (cY (rs.drop (rs.length - i)))=.ok (.bool false):=by
   rw [Ob]
   exact CB (fun x hx=>by
    obtain ⟨e,he,rfl⟩:=List.mem_map.mp hx
    exact (g.ok e (hr.mem e (iG he))).name) true
  have hv:kH st m b (r++rs.drop (rs.length - i))=true:=by
   rw [GL w1,ED g _ _ fun e he=>hr.mem e (iG he)]
   rw [yY rs (m,b) i le] at w2
   rw [w2]
   exact w3
  have hlen:l_ true (.int ((r++rs.drop (rs.length - i)).length:Nat)) (.int (k + (rs.length:Nat) - ((rs.length:Nat) - (i:Nat):Int)))=.ok (.bool false):=by
   rw [li,decide_eq_true (by rw [aG,ld,<- f.len];omega)]
   rfl
  have nd:pZ (cY (r++rs.drop (rs.length - i)))=true:=EA _
  generalize hR:r++rs.drop (rs.length - i)=R0 at *
  subst ht
  walk_at "zz"
  rw [show pG false (gO rs.length (some (k,i))) .none=.ok (.bool false) from rfl]
  walk_at "zz"
  rw [show E9 (iX 2 (bO (bg 12) (bO (bg 8) jp))) [.shr A0,.shr (cU fs es),.shr A2,.shr (eM m b),.shr (cY rs),.shr (aA st),.shr A6,.shr (gO rs.length (some (k,i))),z8,z9,z10,.shr (cY R0),.no] (gO rs.length (some (k,i)))=.ok (.nx [.shr A0,.shr (cU fs es),.shr A2,.shr (eM m b),.shr (cY rs),.shr (aA st),.shr A6,.shr (gO rs.length (some (k,i))),.shr (.int ((rs.length:Nat) - (i:Nat):Int)),z9,z10,.shr (cY R0),.shr (.int k)]) from rfl]
  unfold Xs
  walk_at "zz"
  rw [nd,show Ae "list" (cY R0)=true from rfl]
  walk_at "zz"
  rw [hlen]
  walk_at "zz"
  rw [hsl2]
  walk_at "zz"
  rw [hsl]
  walk_at "zz"
  rw [eqs]
  walk_at "zz"
  rw [Kk g fin hs hw,hv]
  walk_at "zz"
theorem law_true (ns:List Int):F_law [.list (ns.map .int)]=.ok (.bool true):=by
 obtain ⟨fs,es,ss,wm,wb,hc,gb,gs,gw,fl⟩:=Qk ns 5 6 (by decide) (by decide) (by decide) (by decide)
 have fl:fs.length<=5:=fl
 have m0:=eV ns 0 7 (by decide)
 have m1:=fL ns 0 7 (by decide)
 obtain ⟨rs,h1,h20,h2⟩:=Qq gb ns 300 (eU ns 0 7) (by decide) m0 (by omega) gs
 obtain ⟨so,s1,s2⟩:=II ns 40 (by decide) fs gb.rise.len 4
 have go:=Cv gb.rise.up s2
 obtain ⟨l,nd,few,hk,P,e⟩:=Ko gb go
 obtain ⟨y8,y9,y10,q⟩:=IV gb h1 gw nd few P hk (.list (ns.map .int)) (aA ss) (aA so) (rs.length + 1) 0 none .no .no .no (by omega)
 obtain ⟨told,t1,t2⟩:=Kp gb fl h1 go gw
 rw [List.drop_zero] at q
 unfold F_law
 refine cw ?_
 rw [Oc]
 unfold bM
 walk_at "zz"
 rw [hc]
 walk_at "zz"
 rw [WP]
 walk_at "zz"
 rw [eW ns 0 7 (by decide) (by decide)]
 walk_at "zz"
 rw [h2]
 walk_at "zz"
 rw [Kf]
 walk_at "zz"
 rw [s1]
 walk_at "zz"
 rw [e]
 walk_at "zz"
 rw [m7 (ds:=J.pJ ((rs.length:Nat) - ((0:Nat):Int)) (rs.length + 1))]
 ·rw [show gO rs.length none=qM from rfl] at q
  rw [q,bind_ok,nY]
  walk_at "zz"
  rw [t1]
  walk_at "zz"
  exact Tu gb h1 h20 go gw _ told _ _ _ _ _ _ t2
 ·rw [Ta]
  walk_at "zz"
  rw [wD]
  walk_at "zz"
  rw [nj]
  walk_at "zz"
  rw [wD]
  walk_at "zz"
  rw [nj]
  walk_at "zz"
  rw [QC _ (by omega),show ((rs.length:Nat) - ((0:Nat):Int))=((rs.length:Nat):Int) by omega]
end Z
end
namespace Z
open PySem L2 J
section
def top (i:Nat):cA:=PySem.Challenge.pw_errands_k25_whole_mended.main.body.getD i (.Pass ⟨0,0,0,0⟩)
section
variable {e:En}
abbrev lI:cA:=top 11
abbrev uP:List Str:=["one","other"]
theorem Ai:bD uP ["one","other"] (aC lI):=dm (by decide +kernel)
abbrev jK (e:En):=FN e "share_none" 1 2 cT
theorem Aj (D:fH e.K e.mg "share_none" lI) (B:Bi e.mg):jK e:=mW (k:=0) (g:=jB) D Ai b2 fun _ _ _ _ _ _ _ hr=>by unfold jB;exact (aH (bw (M8 (bE (Mg rfl) rfl B.any xH (bh (JE.bor (JN.je (fw (N':=["fact","other"]) (ix:=[1]) 1 (by decide) rfl (cb (so:=aC lI) (N:=uP) (by decide +kernel)) (fF (ai 0)) (fun cl A0 s0 H0 ex pn=>⟨cR (i:=0) (by show (["fact","other"] : List Str).Nodup;decide +kernel) rfl (.inl rfl),g9,(nC (DP) (ai 0) (ai 1))⟩)))) bK)))))
abbrev rm:cA:=top 12
abbrev Bo:List Str:=["facts","others"]
theorem GM:bD Bo ["facts","others"] (aC rm):=dm (by decide +kernel)
abbrev vR (e:En):=FN e "without" 1 2 jZ
theorem GN (D:fH e.K e.mg "without" rm) (B:Bi e.mg):vR e:=mW (k:=0) (g:=qW) D GM b2 fun _ _ _ _ _ _ _ hr=>by unfold qW;exact (aH (bw (fi (iW rfl) rfl B.tuple bp (bh (JE.bor (JN.je (fw (N':=["fact","others"]) (ix:=[1]) 1 (by decide) rfl (cb (so:=aC rm) (N:=Bo) (by decide +kernel)) (fF (ai 0)) (fun cl A0 s0 H0 ex pn=>⟨cR (i:=0) (by show (["fact","others"] : List Str).Nodup;decide +kernel) rfl (.inl rfl),(kw (cD (xZ) (ai 0) (ai 1))),(ah 0)⟩)))) bK))))
abbrev z0:cA:=top 13
abbrev Od:List Str:=["one","other"]
theorem Kq:bD Od ["one","other"] (aC z0):=dm (by decide +kernel)
abbrev zb (e:En):=FN e "joined" 1 2 nZ
theorem Kr (D:fH e.K e.mg "joined" z0) (B:Bi e.mg):zb e:=mW (k:=0) (g:=uy) D Kq b2 fun _ _ _ _ _ _ _ hr=>by unfold uy;exact (aH (bw (fi (iW rfl) rfl B.tuple bp (bh (JE.bor (sK rfl (SY (Cd rfl (ai 0) rfl B.set) (Cd rfl (ai 1) rfl B.set)) rfl B.sorted)) bK))))
abbrev rn:cA:=top 14
abbrev Bp:List Str:=["thing"]
theorem GO:bD Bp ["thing"] (aC rn):=dm (by decide +kernel)
abbrev vS (e:En):=FN e "is_word" 1 1 n_
theorem GP (D:fH e.K e.mg "is_word" rn) (B:Bi e.mg) (mq:Cn e.mg "MOST_LETTERS" 6):vS e:=mW (k:=0) (g:=qX) D GO b1 fun _ _ _ _ _ _ _ hr=>by unfold qX;exact (ap (dU (JW.t (lZ (eA (dR (m5 (ai 0) rfl B.isinstance rfl B.str xI (by decide)))) (jw (eA (Mo (AU) (AU) (JE.bor aE) (JE.bor (bE eB rfl B.len bd (bh (ai 0) bK))) (JE.bor (qm rfl mq))))))) (aH (bw mR)) c9) (aH (bw (bE (oH rfl) rfl B.all cK (bh (JE.bor (JN.je (fw (N':=["sign"]) (ix:=[]) 1 (by decide) rfl (cb (so:=aC rn) (N:=Bp) (by decide +kernel)) (fF (ai 0)) (fun cl A0 s0 H0 ex pn=>⟨cR (i:=0) (by show (["sign"] : List Str).Nodup;decide +kernel) rfl (.inl rfl),g9,(D_ (AU) (AU) (JE.bor sD) (ai 0) (JE.bor sD))⟩)))) bK)))))
abbrev fu:cA:=top 15
abbrev j8:List Str:=["thing"]
theorem rL:bD j8 ["thing"] (aC fu):=dm (by decide +kernel)
abbrev j9 (e:En):=FN e "are_rising_words" 2 1 ft
theorem rM (D:fH e.K e.mg "are_rising_words" fu) (B:Bi e.mg) (lQ:vS e):j9 e:=mW (k:=1) (g:=gM) D rL b1 fun _ _ _ _ _ _ _ hr=>by unfold gM;exact (ap (dU (JW.t (lZ (eA (dR (m5 (ai 0) rfl B.isinstance rfl B.tuple bp (by decide)))) (jw (eA (dR (bE (oH rfl) rfl B.all cK (bh (JE.bor (JN.je (fw (N':=["word"]) (ix:=[]) 1 (by decide) rfl (cb (so:=aC fu) (N:=j8) (by decide +kernel)) (fF (ai 0)) (fun cl A0 s0 H0 ex pn=>⟨cR (i:=0) (by show (["word"] : List Str).Nodup;decide +kernel) rfl (.inl rfl),g9,(jc lQ hr dh (aa (ah 0) az))⟩)))) bK))))))) (aH (bw mR)) c9) (aH (bw (bE (oH rfl) rfl B.all cK (bh (JE.bor (JN.je (fw (N':=["low","high"]) (ix:=[]) 2 (by decide) rfl (cb (so:=aC fu) (N:=j8) (by decide +kernel)) (HM.i (PL rfl B.zip (aa (ah 0) (aa (iV (ai 0) (iZ aE) mS) az)))) (fun cl A0 s0 H0 ex pn=>⟨G0 rfl (qe (cR (i:=0) (by show (["low","high"] : List Str).Nodup;decide +kernel) rfl (.inl rfl)) (qe (cR (i:=1) (by show (["low","high"] : List Str).Nodup;decide +kernel) rfl (.inl rfl)) BF)),g9,(nC (ut) (ai 0) (ai 1))⟩)))) bK)))))
abbrev nl:cA:=top 16
abbrev wF:List Str:=["book_facts","thing"]
theorem CG:bD wF ["book_facts","thing"] (aC nl):=dm (by decide +kernel)
abbrev nq (e:En):=FN e "are_facts" 3 2 f9
theorem CH (D:fH e.K e.mg "are_facts" nl) (B:Bi e.mg) (eh:j9 e):nq e:=mW (k:=2) (g:=mX) D CG b2 fun _ _ _ _ _ _ _ hr=>by unfold mX;exact (aH (bw (sF (jc eh hr px (aa (ah 1) az)) (vB (bE (oH rfl) rfl B.all cK (bh (JE.bor (JN.je (fw (N':=["fact","book_facts"]) (ix:=[0]) 1 (by decide) rfl (cb (so:=aC nl) (N:=wF) (by decide +kernel)) (fF (ai 1)) (fun cl A0 s0 H0 ex pn=>⟨cR (i:=0) (by show (["fact","book_facts"] : List Str).Nodup;decide +kernel) rfl (.inl rfl),g9,(nC (DP) (ai 0) (ai 1))⟩)))) bK))))))
abbrev sV:cA:=top 17
abbrev GQ:List Str:=["thing","least","most"]
theorem EV:bD GQ ["thing","least","most"] (aC sV):=dm (by decide +kernel)
abbrev zc (e:En):=FN e "is_whole" 1 3 oN
theorem EW (D:fH e.K e.mg "is_whole" sV) (B:Bi e.mg):zc e:=mW (k:=0) (g:=oM) D EV b3 fun _ _ _ _ _ _ _ hr=>by unfold oM;exact (ap (dU (JW.t (lZ (eA (dR (m5 (ai 0) rfl B.isinstance rfl B.int PyProof.Rows.boot_int (by decide)))) (jw (dR (m5 (ai 0) rfl B.isinstance rfl B.bool PyProof.Rows.boot_bool (by decide)))))) (aH (bw mR)) c9) (aH (bw (D_ (AU) (AU) (ai 1) (ai 0) (ai 2)))))
abbrev nr:cA:=top 18
abbrev wG:List Str:=["book_facts","thing","name","needs","bars","makes","ends","price"]
theorem gP:bD wG ["book_facts","thing"] (aC nr):=dm (by decide +kernel)
abbrev wH (e:En):=FN e "is_errand" 4 2 mZ
theorem CI (D:fH e.K e.mg "is_errand" nr) (B:Bi e.mg) (lQ:vS e) (sW:zc e) (fc:nq e) (cH:jK e) (p7:Cn e.mg "MOST_PRICE" 9):wH e:=mW (k:=3) (g:=mY) D gP b2 fun _ _ _ _ _ _ _ hr=>by have hu64:=hr.units;unfold mY;exact (ap (dU (JW.t (lZ (eA (dR (m5 (ai 1) rfl B.isinstance rfl B.tuple bp (by decide)))) (jw (cD (wA hu64) (JE.bor (bE eB rfl B.len bd (bh (ai 1) bK))) (JE.bor aE))))) (aH (bw mR)) c9) (ap (qr (ah 1) (l9 rfl (ca (bU 2 gP.nd) (ca (bU 3 gP.nd) (ca (bU 4 gP.nd) (ca (bU 5 gP.nd) (ca (bU 6 gP.nd) (ca (bU 7 gP.nd) i_)))))))) (ap (dU (JW.t (lZ (eA (dR (jc lQ hr px (aa (ah 2) az)))) (jw (eA (dR (jc sW hr px (aa (ah 7) (aa aE (aa (qm rfl p7) az))))))))) (aH (bw mR)) c9) (ap (dU (eA (dR (bE (oH rfl) rfl B.all cK (bh (JE.bor (JN.je (fw (N':=["facts","book_facts"]) (ix:=[0]) 1 (by decide) rfl (cb (so:=aC nr) (N:=wG) (by decide +kernel)) (fF (JE.bor (l8 (aa (ah 3) (aa (ah 4) (aa (ah 5) (aa (ah 6) az))))))) (fun cl A0 s0 H0 ex pn=>⟨cR (i:=0) (by show (["facts","book_facts"] : List Str).Nodup;decide +kernel) rfl (.inl rfl),g9,(jc fc hr dh (aa (ah 1) (aa (ah 0) az)))⟩)))) bK)))) (aH (bw mR)) c9) (aH (bw (sF (jc cH hr px (aa (ah 3) (aa (ah 4) az))) (vB (jc cH hr px (aa (ah 5) (aa (ah 6) az)))))))))))
abbrev oa:cA:=top 19
abbrev vT:List Str:=["thing","facts","errands"]
theorem sX:bD vT ["thing"] (aC oa):=dm (by decide +kernel)
abbrev Br (e:En):=FN e "is_book" 5 1 qZ
theorem GR (D:fH e.K e.mg "is_book" oa) (B:Bi e.mg) (eh:j9 e) (qA:wH e) (pc:Cn e.mg "MOST_FACTS" 6) (mr:Cn e.mg "MOST_ERRANDS" 6):Br e:=mW (k:=4) (g:=qY) D sX b1 fun _ _ _ _ _ _ _ hr=>by have hu1:=gQ hr;have hu64:=hr.units;unfold qY;exact (ap (dU (JW.t (lZ (eA (dR (m5 (ai 0) rfl B.isinstance rfl B.tuple bp (by decide)))) (jw (cD (wA hu64) (JE.bor (bE eB rfl B.len bd (bh (ai 0) bK))) (JE.bor aE))))) (aH (bw mR)) c9) (ap (qr (ah 0) (l9 rfl (ca (bU 1 sX.nd) (ca (bU 2 sX.nd) i_)))) (ap (dU (JW.t (lZ (eA (dR (jc eh hr px (aa (ah 1) az)))) (jw (cD (HF) (JE.bor (bE eB rfl B.len bd (bh (ai 1) bK))) (JE.bor (qm rfl pc)))))) (aH (bw mR)) c9) (ap (dU (JW.t (lZ (eA (dR (m5 (ai 2) rfl B.isinstance rfl B.tuple bp (by decide)))) (jw (cD (HF) (JE.bor (bE eB rfl B.len bd (bh (ai 2) bK))) (JE.bor (qm rfl mr)))))) (aH (bw mR)) c9) (ap (dU (eA (dR (bE (oH rfl) rfl B.all cK (bh (JE.bor (JN.je (fw (N':=["errand","facts"]) (ix:=[1]) 1 (by decide) rfl (cb (so:=aC oa) (N:=vT) (by decide +kernel)) (fF (ai 2)) (fun cl A0 s0 H0 ex pn=>⟨cR (i:=0) (by show (["errand","facts"] : List Str).Nodup;decide +kernel) rfl (.inl rfl),g9,(jc qA hr dh (aa (ah 1) (aa (ah 0) az)))⟩)))) bK)))) (aH (bw mR)) c9) (aH (bw (nC (ur hu64) (JE.bor (JX (Mp (N':=["errand"]) (ix:=[]) 1 (by decide) rfl (cb (so:=aC oa) (N:=vT) (by decide +kernel)) (fF (ai 2)) (fun cl A0 s0 H0 ex pn=>⟨cR (i:=0) (by show (["errand"] : List Str).Nodup;decide +kernel) rfl (.inl rfl),g9,(bV hu1 (ai 0) (JE.bor aE))⟩)) rfl B.len)) (JE.bor (bE eB rfl B.len bd (bh (ai 2) bK)))))))))))
abbrev vU:cA:=top 20
abbrev Ks:List Str:=["book","thing","must","bars"]
theorem sY:bD Ks ["book","thing"] (aC vU):=dm (by decide +kernel)
abbrev Bs (e:En):=FN e "is_want" 4 2 r6
theorem GS (D:fH e.K e.mg "is_want" vU) (B:Bi e.mg) (fc:nq e) (cH:jK e):Bs e:=mW (k:=3) (g:=q_) D sY b2 fun _ _ _ _ _ _ _ hr=>by have hu1:=gQ hr;have hu64:=hr.units;unfold q_;exact (ap (dU (JW.t (lZ (eA (dR (m5 (ai 1) rfl B.isinstance rfl B.tuple bp (by decide)))) (jw (cD (wA hu64) (JE.bor (bE eB rfl B.len bd (bh (ai 1) bK))) (JE.bor aE))))) (aH (bw mR)) c9) (ap (qr (ah 1) (l9 rfl (ca (bU 2 sY.nd) (ca (bU 3 sY.nd) i_)))) (aH (bw (sF (jc fc hr px (aa (bV hu1 (ai 0) (JE.bor aE)) (aa (ah 2) az))) (sF (jc fc hr px (aa (bV hu1 (ai 0) (JE.bor aE)) (aa (ah 3) az))) (vB (jc cH hr px (aa (ah 2) (aa (ah 3) az))))))))))
abbrev nH:cA:=top 21
abbrev Ak:List Str:=["book","state"]
theorem zd:bD Ak ["book","state"] (aC nH):=dm (by decide +kernel)
abbrev sd (e:En):=FN e "check_state" 4 2 kA
theorem ze (D:fH e.K e.mg "check_state" nH) (fc:nq e) (vV:ER e "NoState"):sd e:=mW (k:=3) (g:=kz) D zd b2 fun _ _ _ _ _ _ _ hr=>by have hu1:=gQ hr;unfold kz;exact (aH (dU (eA (dR (jc fc hr px (aa (bV hu1 (ai 0) (JE.bor aE)) (aa (ah 1) az))))) (aH (yo vV rfl (aa sD az))) c9))
abbrev pd:cA:=top 22
abbrev CJ:List Str:=["book","want"]
theorem Al:bD CJ ["book","want"] (aC pd):=dm (by decide +kernel)
abbrev pf (e:En):=FN e "check_want" 5 2 jC
theorem Am (D:fH e.K e.mg "check_want" pd) (vW:Bs e) (zf:ER e "NoWant"):pf e:=mW (k:=4) (g:=lA) D Al b2 fun _ _ _ _ _ _ _ hr=>by unfold lA;exact (aH (dU (eA (dR (jc vW hr px (aa (ah 0) (aa (ah 1) az))))) (aH (yo zf rfl (aa sD az))) c9))
abbrev lj:cA:=top 23
abbrev xc:List Str:=["book","name","errand"]
theorem og:bD xc ["book","name"] (aC lj):=dm (by decide +kernel)
abbrev ll (e:En):=FN e "errand_called" 1 2 gS
theorem vX (D:fH e.K e.mg "errand_called" lj) (B:Bi e.mg):ll e:=mW (k:=0) (g:=j0) D og b2 fun _ _ _ _ _ _ _ hr=>by have hu1:=gQ hr;have hu64:=hr.units;unfold j0;exact (ap (dU (eA (dR (m5 (ai 1) rfl B.isinstance rfl B.str xI (by decide)))) (aH (bw gf)) c9) (ap (jz rfl (xt (bV hu1 (ai 0) (JE.bor aE))) (bU 2 og.nd) (aH (dU (cD (ur hu64) (JE.bor (bV hu1 (ai 2) (JE.bor aE))) (ai 1)) (aH (bw (ah 2))) c9))) (aH (bw gf))))
abbrev ro:cA:=top 24
abbrev Bt:List Str:=["state","want","must","bars"]
theorem sZ:bD Bt ["state","want"] (aC ro):=dm (by decide +kernel)
abbrev rq (e:En):=FN e "fulfils" 2 2 lO
theorem GT (D:fH e.K e.mg "fulfils" ro) (B:Bi e.mg) (cH:jK e):rq e:=mW (k:=1) (g:=r9) D sZ b2 fun _ _ _ _ _ _ _ hr=>by unfold r9;exact (ap (qr (ah 1) (l9 rfl (ca (bU 2 sZ.nd) (ca (bU 3 sZ.nd) i_)))) (aH (bw (sF (bE (oH rfl) rfl B.all cK (bh (JE.bor (JN.je (fw (N':=["fact","state"]) (ix:=[0]) 1 (by decide) rfl (cb (so:=aC ro) (N:=Bt) (by decide +kernel)) (fF (ai 2)) (fun cl A0 s0 H0 ex pn=>⟨cR (i:=0) (by show (["fact","state"] : List Str).Nodup;decide +kernel) rfl (.inl rfl),g9,(nC (DP) (ai 0) (ai 1))⟩)))) bK)) (vB (jc cH hr px (aa (ah 3) (aa (ah 0) az))))))))
abbrev qB:cA:=top 25
abbrev EX:List Str:=["errand","state"]
theorem CK:bD EX ["errand","state"] (aC qB):=dm (by decide +kernel)
abbrev qC (e:En):=FN e "is_doable" 3 2 gD
theorem CL (D:fH e.K e.mg "is_doable" qB) (iA:rq e):qC e:=mW (k:=2) (g:=m_) D CK b2 fun _ _ _ _ _ _ _ hr=>by have hu1:=gQ hr;unfold m_;exact (aH (bw (jc iA hr px (aa (ah 1) (aa (l8 (aa (bV hu1 (ai 0) (JE.bor aE)) (aa (bV hu1 (ai 0) (JE.bor aE)) az))) az)))))
abbrev ms:cA:=top 26
abbrev zg:List Str:=["errand","state","makes","ends"]
theorem pL:bD zg ["errand","state"] (aC ms):=dm (by decide +kernel)
abbrev mv (e:En):=FN e "state_behind" 2 2 eE
theorem xf (D:fH e.K e.mg "state_behind" ms) (kc:vR e) (mw:zb e):mv e:=mW (k:=1) (g:=jD) D pL b2 fun _ _ _ _ _ _ _ hr=>by have hu1:=gQ hr;unfold jD;exact (ap (SZ 2 3 rfl pL.nd (aa (bV hu1 (ai 0) (JE.bor aE)) (aa (bV hu1 (ai 0) (JE.bor aE)) az))) (aH (bw (jc mw hr px (aa (jc kc hr px (aa (ah 1) (aa (ah 3) az))) (aa (ah 2) az))))))
abbrev vY:cA:=top 27
abbrev Kt:List Str:=["book"]
theorem GU:bD Kt ["book"] (aC vY):=dm (by decide +kernel)
abbrev vZ (e:En):=FN e "checked" 6 1 o0
theorem GV (D:fH e.K e.mg "checked" vY) (v_:Br e) (zh:ER e "NoBook"):vZ e:=mW (k:=5) (g:=rc) D GU b1 fun _ _ _ _ _ _ _ hr=>by unfold rc;exact (ap (dU (eA (dR (jc v_ hr px (aa (ah 0) az)))) (aH (yo zh rfl (aa sD az))) c9) (aH (bw (ah 0))))
abbrev nI:cA:=top 28
abbrev An:List Str:=["book","state"]
theorem zi:bD An ["book","state"] (aC nI):=dm (by decide +kernel)
abbrev se (e:En):=FN e "check_place" 7 2 kE
theorem zj (D:fH e.K e.mg "check_place" nI) (lR:vZ e) (nJ:sd e):se e:=mW (k:=6) (g:=kC) D zi b2 fun _ _ _ _ _ _ _ hr=>by unfold kC;exact (ap (mU (jc lR hr px (aa (ah 0) az))) (aH (mU (jc nJ hr px (aa (ah 0) (aa (ah 1) az))))))
abbrev qD:cA:=top 29
abbrev EY:List Str:=["book","state","want"]
theorem CM:bD EY ["book","state","want"] (aC qD):=dm (by decide +kernel)
abbrev qF (e:En):=FN e "check_aim" 8 3 jf
theorem CN (D:fH e.K e.mg "check_aim" qD) (nK:se e) (iB:pf e):qF e:=mW (k:=7) (g:=n5) D CM b3 fun _ _ _ _ _ _ _ hr=>by unfold n5;exact (ap (mU (jc nK hr px (aa (ah 0) (aa (ah 1) az)))) (aH (mU (jc iB hr px (aa (ah 0) (aa (ah 2) az))))))
abbrev uQ:cA:=top 32
abbrev EZ:List Str:=["book","thing"]
theorem Ku:bD EZ ["book","thing"] (aC uQ):=dm (by decide +kernel)
abbrev E_ (e:En):=FN e "is_row" 2 2 uA
theorem Kv (D:fH e.K e.mg "is_row" uQ) (B:Bi e.mg) (fI:ll e) (nL:Cn e.mg "MOST_IN_ROW" 64):E_ e:=mW (k:=1) (g:=uz) D Ku b2 fun _ _ _ _ _ _ _ hr=>by unfold uz;exact (ap (dU (JW.t (lZ (eA (dR (m5 (ai 1) rfl B.isinstance rfl B.list g6 (by decide)))) (jw (cD (HF) (JE.bor (bE eB rfl B.len bd (bh (ai 1) bK))) (JE.bor (qm rfl nL)))))) (aH (bw mR)) c9) (aH (bw (bE (oH rfl) rfl B.all cK (bh (JE.bor (JN.je (fw (N':=["name","book"]) (ix:=[0]) 1 (by decide) rfl (cb (so:=aC uQ) (N:=EZ) (by decide +kernel)) (fF (ai 1)) (fun cl A0 s0 H0 ex pn=>⟨cR (i:=0) (by show (["name","book"] : List Str).Nodup;decide +kernel) rfl (.inl rfl),g9,(nC (uu) (JE.bor (jc fI hr dh (aa (ah 1) (aa (ah 0) az)))) (JE.bor gf))⟩)))) bK)))))
abbrev lJ:cA:=top 33
abbrev uR:List Str:=["book","row"]
theorem Ao:bD uR ["book","row"] (aC lJ):=dm (by decide +kernel)
abbrev lK (e:En):=FN e "errands_of" 3 2 gN
theorem Ap (D:fH e.K e.mg "errands_of" lJ) (zk:E_ e) (fI:ll e):lK e:=mW (k:=2) (g:=lB) D Ao b2 fun _ _ _ _ _ _ _ hr=>by unfold lB;exact (ap (dU (eA (dR (jc zk hr px (aa (ah 0) (aa (ah 1) az))))) (aH Nb) c9) (aH (bw (JN.je (fw (N':=["name","book"]) (ix:=[0]) 1 (by decide) rfl (cb (so:=aC lJ) (N:=uR) (by decide +kernel)) (fF (ai 1)) (fun cl A0 s0 H0 ex pn=>⟨cR (i:=0) (by show (["name","book"] : List Str).Nodup;decide +kernel) rfl (.inl rfl),g9,(jc fI hr dh (aa (ah 1) (aa (ah 0) az)))⟩))))))
abbrev kd:cA:=top 34
abbrev w9:List Str:=["errands","state","states","errand"]
theorem jL:bD w9 ["errands","state"] (aC kd):=dm (by decide +kernel)
abbrev oh (e:En):=FN e "states_through" 4 2 iu
theorem uS (D:fH e.K e.mg "states_through" kd) (jh:qC e) (gm:mv e):oh e:=mW (k:=3) (g:=ir) D jL b2 fun _ _ _ _ _ _ _ hr=>by have hu1:=gQ hr;unfold ir;exact (ap (gK 2 (nE (aa (ah 1) az)) jL.nd) (ap (HR 0 rfl (bU 3 jL.nd) (ap (dU (eA (dR (jc jh hr dh (aa (ah 3) (aa (bV hu1 (ai 2) (JE.bor (vF aE))) az))))) (aH (bw (ah 2))) c9) (aH (jY 2 (jc gm hr dh (aa (ah 3) (aa (bV hu1 (ai 2) (JE.bor (vF aE))) az))))))) (aH (bw (ah 2)))))
abbrev s_:cA:=top 35
abbrev GW:List Str:=["errand","want","needs","bars","makes","ends","must","barred","must_ahead","barred_ahead"]
theorem fM:bD GW ["errand","want"] (aC s_):=dm (by decide +kernel)
abbrev t4 (e:En):=FN e "asked_by" 2 2 ii
theorem F1 (D:fH e.K e.mg "asked_by" s_) (cH:jK e) (kc:vR e) (mw:zb e):t4 e:=mW (k:=1) (g:=oO) D fM b2 fun _ _ _ _ _ _ _ hr=>by unfold oO;exact (ap (qr (iV (ai 0) (iZ aE) (iZ aE)) (l9 rfl (ca (bU 2 fM.nd) (ca (bU 3 fM.nd) (ca (bU 4 fM.nd) (ca (bU 5 fM.nd) i_)))))) (ap (qr (ah 1) (l9 rfl (ca (bU 6 fM.nd) (ca (bU 7 fM.nd) i_)))) (ap (dU (JW.t (lZ (eA (dR (jc cH hr px (aa (ah 4) (aa (ah 7) az))))) (jw (eA (dR (jc cH hr px (aa (ah 5) (aa (ah 6) az)))))))) (aH (bw gf)) c9) (ap (cz 8 (jc mw hr px (aa (ah 2) (aa (jc kc hr px (aa (ah 6) (aa (ah 4) az))) az))) fM.nd) (ap (cz 9 (jc mw hr px (aa (ah 3) (aa (jc kc hr px (aa (ah 7) (aa (ah 5) az))) az))) fM.nd) (ap (dU (eA (dR (jc cH hr px (aa (ah 8) (aa (ah 9) az))))) (aH (bw gf)) c9) (aH (bw (l8 (aa (ah 8) (aa (ah 9) az)))))))))))
abbrev zm:cA:=top 36
abbrev Oe:List Str:=["book","state","want","row","errands","states"]
theorem wa:bD Oe ["book","state","want","row"] (aC zm):=dm (by decide +kernel)
abbrev F3 (e:En):=FN e "serves" 9 4 qw
theorem Kw (D:fH e.K e.mg "serves" zm) (B:Bi e.mg) (ji:qF e) (eX:lK e) (ke:oh e) (iA:rq e):F3 e:=mW (k:=8) (g:=uB) D wa b4 fun _ _ _ _ _ _ _ hr=>by have hu1:=gQ hr;unfold uB;exact (ap (mU (jc ji hr px (aa (ah 0) (aa (ah 1) (aa (ah 2) az))))) (ap (cz 4 (jc eX hr px (aa (ah 0) (aa (ah 3) az))) wa.nd) (ap (cz 5 (jc ke hr px (aa (ah 4) (aa (ah 1) az))) wa.nd) (aH (bw (sF (nC (HF) (JE.bor (bE eB rfl B.len bd (bh (ai 5) bK))) (JE.bor (bE eB rfl B.len bd (bh (ai 4) bK)))) (vB (jc iA hr px (aa (bV hu1 (ai 5) (JE.bor (vF aE))) (aa (ah 2) az))))))))))
abbrev CO:cA:=top 37
abbrev QD:List Str:=["book","want","row","want_ahead","errand"]
theorem uT:bD QD ["book","want","row"] (aC CO):=dm (by decide +kernel)
abbrev IX (e:En):=FN e "asked" 7 3 uC
theorem Of (D:fH e.K e.mg "asked" CO) (B:Bi e.mg) (lR:vZ e) (iB:pf e) (kf:t4 e) (eX:lK e):IX e:=mW (k:=6) (g:=xw) D uT b3 fun _ _ _ _ _ _ _ hr=>by unfold xw;exact (ap (mU (jc lR hr px (aa (ah 0) az))) (ap (mU (jc iB hr px (aa (ah 0) (aa (ah 1) az)))) (ap (cz 3 (ah 1) uT.nd) (ap (jz rfl (Iu rfl B.reversed (aa (jc eX hr dh (aa (ah 0) (aa (ah 2) az))) az)) (bU 4 uT.nd) (ap (cz 3 (jc kf hr dh (aa (ah 4) (aa (ah 3) az))) uT.nd) (aH (dU (cD (xY) (ai 3) (JE.bor gf)) (aH (bw gf)) c9)))) (aH (bw (ah 3)))))))
abbrev lL:cA:=top 39
abbrev uU:List Str:=["book","state"]
theorem Aq:bD uU ["book","state"] (aC lL):=dm (by decide +kernel)
abbrev uV (e:En):=FN e "steps_from" 4 2 jE
theorem Ar (D:fH e.K e.mg "steps_from" lL) (jh:qC e) (gm:mv e):uV e:=mW (k:=3) (g:=lC) D Aq b2 fun _ _ _ _ _ _ _ hr=>by have hu1:=gQ hr;unfold lC;exact (aH (bw (JN.je (fw (N':=["errand","state"]) (ix:=[1]) 1 (by decide) rfl (cb (so:=aC lL) (N:=uU) (by decide +kernel)) (fF (JE.bor (bV hu1 (ai 0) (JE.bor aE)))) (fun cl A0 s0 H0 ex pn=>⟨cR (i:=0) (by show (["errand","state"] : List Str).Nodup;decide +kernel) rfl (.inl rfl),(kw (dR (jc jh hr dh (aa (ah 0) (aa (ah 1) az))))),(l8 (aa (ah 0) (aa (jc gm hr dh (aa (ah 0) (aa (ah 1) az))) az)))⟩)))))
abbrev ph:cA:=top 40
abbrev CQ:List Str:=["book","state","rows","ring","next_ring","at","errand","behind"]
theorem fe:bD CQ ["book","state"] (aC ph):=dm (by decide +kernel)
abbrev uW (e:En):=FN e "first_rows" 5 2 jF
theorem As (D:fH e.K e.mg "first_rows" ph) (pi:uV e):uW e:=mW (k:=4) (g:=lE) D fe b2 fun _ _ _ _ _ _ _ hr=>by have hu1:=gQ hr;unfold lE;exact (ap (gK 2 (Ei hu1 (ah 1) (jX az)) fe.nd) (ap (gK 3 (nE (aa (ah 1) az)) fe.nd) (ap (DY 100000 (Ng (ai 3)) (ap (gK 4 (nE az) fe.nd) (ap (HR 3 rfl (bU 5 fe.nd) (aH (jz rfl (xt (jc pi hr dh (aa (ah 0) (aa (ah 5) az)))) (l9 rfl (ca (bU 6 fe.nd) (ca (bU 7 fe.nd) i_))) (aH (dU (cD (B5 hu1) (ai 7) (ai 2)) (ap (Eh 2 (bR cG (JE.bor (sM hu1 (ai 2) (ai 5))) (JE.bor (jX (aa (bV hu1 (ai 6) (JE.bor aE)) az)))) (ah 7) hu1) (aH (jY 4 (ah 7)))) c9))))) (aH (Gr 4 (cz 3 (ah 4) fe.nd)))))) (aH (Ni 2 (bw (ah 2)))))))
abbrev oj:cA:=top 41
abbrev wc:List Str:=["rows","want","fitting"]
theorem zo:bD wc ["rows","want"] (aC oj):=dm (by decide +kernel)
abbrev Bu (e:En):=FN e "nearest" 3 2 j_
theorem GX (D:fH e.K e.mg "nearest" oj) (B:Bi e.mg) (iA:rq e):Bu e:=mW (k:=2) (g:=re) D zo b2 fun _ _ _ _ _ _ _ hr=>by have hu1:=gQ hr;have hu64:=hr.units;unfold re;exact (ap (gK 2 (fw (N':=["at","want"]) (ix:=[1]) 1 (by decide) rfl (cb (so:=aC oj) (N:=wc) (by decide +kernel)) (Iy (ai 0)) (fun cl A0 s0 H0 ex pn=>⟨cR (i:=0) (by show (["at","want"] : List Str).Nodup;decide +kernel) rfl (.inl rfl),(kw (dR (jc iA hr dh (aa (ah 0) (aa (ah 1) az))))),(ah 0)⟩)) zo.nd) (aH (bw (JN.je (fw (N':=["at","rows","fitting"]) (ix:=[0,2]) 1 (by decide) rfl (cb (so:=aC oj) (N:=wc) (by decide +kernel)) (fF (ai 2)) (fun cl A0 s0 H0 ex pn=>⟨cR (i:=0) (by show (["at","rows","fitting"] : List Str).Nodup;decide +kernel) rfl (.inl rfl),(kw (cD (ur hu64) (JE.bor (bE eB rfl B.len bd (bh (JE.bor (sM hu1 (ai 1) (ai 0))) bK))) (JE.bor (bE eB rfl B.len bd (bh (JE.bor (sM hu1 (ai 1) (JE.bor (bV hu1 (ai 2) (JE.bor aE))))) bK))))),(ah 0)⟩))))))
abbrev kg:cA:=top 43
abbrev we:List Str:=["errands","want","wants","errand","ahead"]
theorem h_:bD we ["errands","want"] (aC kg):=dm (by decide +kernel)
abbrev om (e:En):=FN e "wants_of_rests" 3 2 gj
theorem uX (D:fH e.K e.mg "wants_of_rests" kg) (B:Bi e.mg) (kf:t4 e):om e:=mW (k:=2) (g:=iw) D h_ b2 fun _ _ _ _ _ _ _ hr=>by have hu1:=gQ hr;unfold iw;exact (ap (gK 2 (nE (aa (ah 1) az)) h_.nd) (ap (jz rfl (Iu rfl B.reversed (aa (ah 0) az)) (bU 3 h_.nd) (ap (cz 4 (jc kf hr dh (aa (ah 3) (aa (bV hu1 (ai 2) (JE.bor (vF aE))) az))) h_.nd) (ap (dU (cD (xY) (ai 4) (JE.bor gf)) (aH (bw (ah 2))) c9) (aH (jY 2 (ah 4)))))) (aH (bw (ah 2)))))
abbrev zq:cA:=top 44
abbrev Og:List Str:=["book","state","want","row","wants","rows","fewest","rest","many","ahead","goals"]
theorem gU:bD Og ["book","state","want","row"] (aC zq):=dm (by decide +kernel)
abbrev F4 (e:En):=FN e "mended" 9 4 o6
theorem Kx (D:fH e.K e.mg "mended" zq) (B:Bi e.mg) (ji:qF e) (eX:lK e) (kh:om e) (pj:uW e) (wf:Bu e):F4 e:=mW (k:=8) (g:=uD) D gU b4 fun _ _ _ _ _ _ _ hr=>by have hu1:=gQ hr;unfold uD;exact (ap (mU (jc ji hr px (aa (ah 0) (aa (ah 1) (aa (ah 2) az))))) (ap (cz 4 (jc kh hr px (aa (jc eX hr px (aa (ah 0) (aa (ah 3) az))) (aa (ah 2) az))) gU.nd) (ap (cz 5 (jc pj hr px (aa (ah 0) (aa (ah 1) az))) gU.nd) (ap (cz 6 gf gU.nd) (ap (gK 7 (nE az) gU.nd) (ap (jz rfl (K1 rfl B.enumerate (aa (ah 4) az)) (l9 rfl (ca (bU 8 gU.nd) (ca (bU 9 gU.nd) i_))) (ap (cz 10 (jc wf hr dh (aa (ah 5) (aa (ah 9) az))) gU.nd) (aH (dU (JW.t (vA (Ng (ai 10)) (qT (JW.t (lZ (cD (xY) (ai 6) (JE.bor gf)) (jw (cD (ut) (JE.bor (bE eB rfl B.len bd (bh (JE.bor (sM hu1 (ai 5) (JE.bor (bV hu1 (ai 10) (JE.bor aE))))) bK))) (JE.bor (bE eB rfl B.len bd (bh (ai 6) bK)))))))))) (ap (cz 6 (sM hu1 (ai 5) (JE.bor (bV hu1 (ai 10) (JE.bor aE)))) gU.nd) (aH (cz 7 (iV (ai 3) (iZ (bR Mc (JE.bor (bE eB rfl B.len bd (bh (ai 3) bK))) (ai 8))) mS) gU.nd))) c9)))) (aH (bw (Ut (cD (xY) (ai 6) (JE.bor gf)) gf (bR cG (ai 6) (ai 7)))))))))))
abbrev nM:cA:=top 46
abbrev At:List Str:=["_law_script","_law_k"]
theorem zr:bD At ["_law_script","_law_k"] (aC nM):=dm (by decide +kernel)
abbrev sf (e:En):=FN e "_law_cell_at" 1 2 kG
theorem zt (D:fH e.K e.mg "_law_cell_at" nM) (B:Bi e.mg):sf e:=mW (k:=0) (g:=kF) D zr b2 fun _ _ _ _ _ _ _ hr=>by have hu1:=gQ hr;have hu64:=hr.units;unfold kF;exact (ap (dU (cD (ut) (ai 1) (JE.bor (bE eB rfl B.len bd (bh (ai 0) bK)))) (aH (bw (bV hu1 (ai 0) (ai 1)))) c9) (ap (dU (cD (ur hu64) (ai 0) (JE.bor (jX az))) (aH (bw aE)) c9) (aH (bw (bR cG (JE.bor (bR qp (JE.bor (bV hu1 (ai 0) (JE.bor (bR C3 (ai 1) (JE.bor (bE eB rfl B.len bd (bh (ai 0) bK))))))) (JE.bor aE))) (ai 1))))))
abbrev qG:cA:=top 47
abbrev F5:List Str:=["_law_script","_law_k","_law_many","_law_drawn"]
theorem uY:bD F5 ["_law_script","_law_k","_law_many"] (aC qG):=dm (by decide +kernel)
abbrev eF (e:En):=FN e "_law_mixed" 2 3 bq
theorem CS (D:fH e.K e.mg "_law_mixed" qG) (nN:sf e):eF e:=mW (k:=1) (g:=n6) D uY b3 fun _ _ _ _ _ _ _ hr=>by unfold n6;exact (ap (cz 3 (bR C3 (JE.bor (bR qp (JE.bor (bR cG (JE.bor (bR cG (JE.bor (jc nN hr px (aa (ah 0) (aa (ah 1) az)))) (JE.bor (bR qp (JE.bor aE) (ai 1))))) (JE.bor aE))) (JE.bor aE))) (JE.bor aE)) uY.nd) (aH (bw (bR C3 (JE.bor (bR C3 (JE.bor (bR cG (JE.bor (bR cG (JE.bor (bR qp (ai 3) (ai 3))) (JE.bor (bR qp (JE.bor aE) (ai 3))))) (ai 1))) (JE.bor aE))) (ai 2)))))
abbrev t5:cA:=top 48
abbrev GY:List Str:=["_law_script","_law_at","_law_made","_law_k"]
theorem nu:bD GY ["_law_script","_law_at"] (aC t5):=dm (by decide +kernel)
abbrev tf (e:En):=FN e "_law_word" 3 2 k7
theorem F6 (D:fH e.K e.mg "_law_word" t5) (B:Bi e.mg) (aV:eF e):tf e:=mW (k:=2) (g:=oP) D nu b2 fun _ _ _ _ _ _ _ hr=>by have hu1:=gQ hr;unfold oP;exact (ap (cz 2 sD nu.nd) (ap (jz rfl (oJ rfl B.range (bh (JE.bor (bV hu1 (JE.bor (jX (aa aE (aa aE (aa aE (aa aE (aa aE (aa aE az)))))))) (JE.bor (jc aV hr dh (aa (ah 0) (aa (ah 1) (aa aE az))))))) bK)) (bU 3 nu.nd) (aH (cz 2 (bR cG (ai 2) (JE.bor (bV hu1 (JE.bor sD) (JE.bor (jc aV hr dh (aa (ah 0) (aa (bR cG (JE.bor (bR cG (ai 1) (JE.bor aE))) (ai 3)) (aa aE az)))))))) nu.nd))) (aH (bw (ah 2)))))
abbrev qH:cA:=top 49
abbrev F7:List Str:=["_law_script","_law_at","_law_most","_law_found","_law_k"]
theorem pp:bD F7 ["_law_script","_law_at","_law_most"] (aC qH):=dm (by decide +kernel)
abbrev wI (e:En):=FN e "_law_facts" 4 3 nc
theorem CT (D:fH e.K e.mg "_law_facts" qH) (B:Bi e.mg) (ki:tf e) (aV:eF e):wI e:=mW (k:=3) (g:=n8) D pp b3 fun _ _ _ _ _ _ _ hr=>by have hu1:=gQ hr;unfold n8;exact (ap (gK 3 HN pp.nd) (ap (jz rfl (oJ rfl B.range (bh (JE.bor (jc aV hr dh (aa (ah 0) (aa (ah 1) (aa (bR cG (ai 2) (JE.bor aE)) az))))) bK)) (bU 4 pp.nd) (aH (HS 3 mR (jc ki hr dh (aa (ah 0) (aa (bR cG (JE.bor (bR cG (ai 1) (JE.bor aE))) (JE.bor (bR qp (JE.bor aE) (ai 4)))) az))) hu1))) (aH (bw (fi (iW rfl) rfl B.tuple bp (bh (JE.bor (bE JQ rfl B.sorted wq (bh (JE.bor (fi (yi rfl) rfl B.list g6 (bh (ai 3) bK))) bK))) bK))))))
abbrev pq:cA:=top 50
abbrev zu:List Str:=["_law_script","_law_at","_law_facts_here","_law_part"]
theorem F8:bD zu ["_law_script","_law_at","_law_facts_here","_law_part"] (aC pq):=dm (by decide +kernel)
abbrev tj (e:En):=FN e "_law_some" 3 4 k8
theorem F9 (D:fH e.K e.mg "_law_some" pq) (B:Bi e.mg) (aV:eF e):tj e:=mW (k:=2) (g:=oQ) D F8 b4 fun _ _ _ _ _ _ _ hr=>by unfold oQ;exact (aH (bw (fi (iW rfl) rfl B.tuple bp (bh (JE.bor (JN.je (fw (N':=["_law_k","_law_fact","_law_script","_law_at","_law_part"]) (ix:=[0,1,3]) 2 (by decide) rfl (cb (so:=aC pq) (N:=zu) (by decide +kernel)) (HM.i (yc rfl B.enumerate (aa (ah 2) az))) (fun cl A0 s0 H0 ex pn=>⟨G0 rfl (qe (cR (i:=0) (by show (["_law_k","_law_fact","_law_script","_law_at","_law_part"] : List Str).Nodup;decide +kernel) rfl (.inl rfl)) (qe (cR (i:=1) (by show (["_law_k","_law_fact","_law_script","_law_at","_law_part"] : List Str).Nodup;decide +kernel) rfl (.inl rfl)) BF)),(kw (cD (ut) (JE.bor (jc aV hr dh (aa (ah 2) (aa (bR cG (ai 3) (ai 0)) (aa aE az))))) (ai 4))),(ah 1)⟩)))) bK))))
abbrev kj:cA:=top 51
abbrev pv:List Str:=["_law_script","_law_at","_law_facts_here","_law_name","_law_one","_law_two","_law_goal","_law_needs","_law_bars","_law_ends","_law_parts"]
theorem gE:bD pv ["_law_script","_law_at","_law_facts_here","_law_name"] (aC kj):=dm (by decide +kernel)
abbrev zv (e:En):=FN e "_law_thin" 3 4 oS
theorem Fa (D:fH e.K e.mg "_law_thin" kj) (B:Bi e.mg) (aV:eF e):zv e:=mW (k:=2) (g:=oR) D gE b4 fun _ _ _ _ _ _ _ hr=>by have hu1:=gQ hr;have hu64:=hr.units;unfold oR;exact (ap (cz 4 (bV hu1 (ai 2) (JE.bor (jc aV hr px (aa (ah 0) (aa (bR cG (ai 1) (JE.bor aE)) (aa (bE eB rfl B.len bd (bh (ai 2) bK)) az)))))) gE.nd) (ap (cz 5 (bV hu1 (ai 2) (JE.bor (jc aV hr px (aa (ah 0) (aa (bR cG (ai 1) (JE.bor aE)) (aa (bE eB rfl B.len bd (bh (ai 2) bK)) az)))))) gE.nd) (ap (cz 6 (bV hu1 (ai 2) (JE.bor (jc aV hr px (aa (ah 0) (aa (bR cG (ai 1) (JE.bor aE)) (aa (bE eB rfl B.len bd (bh (ai 2) bK)) az)))))) gE.nd) (ap (cz 7 (iV (JE.bor (jX (aa (ah 4) (aa (ah 5) az)))) mS (iZ (bR cG (JE.bor aE) (JE.bor (bR PB (JE.bor (jc aV hr px (aa (ah 0) (aa (bR cG (ai 1) (JE.bor aE)) (aa aE az))))) (JE.bor aE)))))) gE.nd) (ap (j6 8 (N':=["_law_fact","_law_needs","_law_script","_law_at"]) (ix:=[7,0,1]) 1 (by decide) gE.nd rfl (cb (so:=aC kj) (N:=pv) (by decide +kernel)) (fF (JE.bor (jX (aa (ah 6) az)))) (fun cl A0 s0 H0 ex pn=>⟨cR (i:=0) (by show (["_law_fact","_law_needs","_law_script","_law_at"] : List Str).Nodup;decide +kernel) rfl (.inl rfl),(kw (JW.t (vA (cD (xZ) (ai 0) (ai 1)) (qT (cD (ur hu64) (JE.bor (jc aV hr dh (aa (ah 2) (aa (bR cG (ai 3) (JE.bor aE)) (aa aE az))))) (JE.bor aE)))))),(ah 0)⟩)) (ap (j6 9 (N':=["_law_fact","_law_goal","_law_script","_law_at"]) (ix:=[6,0,1]) 1 (by decide) gE.nd rfl (cb (so:=aC kj) (N:=pv) (by decide +kernel)) (fF (JE.bor (jX (aa (ah 4) az)))) (fun cl A0 s0 H0 ex pn=>⟨cR (i:=0) (by show (["_law_fact","_law_goal","_law_script","_law_at"] : List Str).Nodup;decide +kernel) rfl (.inl rfl),(kw (JW.t (vA (cD (wA hu64) (ai 0) (ai 1)) (qT (cD (ur hu64) (JE.bor (jc aV hr dh (aa (ah 2) (aa (bR cG (ai 3) (JE.bor aE)) (aa aE az))))) (JE.bor aE)))))),(ah 0)⟩)) (ap (Gr 8 (Gr 9 (j6 10 (N':=["_law_part"]) (ix:=[]) 1 (by decide) gE.nd rfl (cb (so:=aC kj) (N:=pv) (by decide +kernel)) (fF (JE.bor (l8 (aa (ah 7) (aa (ah 8) (aa (jX (aa (ah 6) az)) (aa (ah 9) az))))))) (fun cl A0 s0 H0 ex pn=>⟨cR (i:=0) (by show (["_law_part"] : List Str).Nodup;decide +kernel) rfl (.inl rfl),g9,(fi (iW rfl) rfl B.tuple bp (bh (JE.bor (sK rfl (Cd rfl (ai 0) rfl B.set) rfl B.sorted)) bK))⟩)))) (aH (bw (l8 (aa (ah 3) (aa (bV hu1 (ai 10) (JE.bor aE)) (aa (bV hu1 (ai 10) (JE.bor aE)) (aa (bV hu1 (ai 10) (JE.bor aE)) (aa (bV hu1 (ai 10) (JE.bor aE)) (aa (jc aV hr px (aa (ah 0) (aa (ah 1) (aa aE az)))) az))))))))))))))))
abbrev lM:cA:=top 52
abbrev uZ:List Str:=["_law_script","_law_at","_law_facts_here","_law_name","_law_parts","_law_k","_law_fact","_law_way","_law_some_here"]
theorem fX:bD uZ ["_law_script","_law_at","_law_facts_here","_law_name"] (aC lM):=dm (by decide +kernel)
abbrev u_ (e:En):=FN e "_law_errand" 4 4 iz
theorem Au (D:fH e.K e.mg "_law_errand" lM) (B:Bi e.mg) (aV:eF e) (tm:zv e):u_ e:=mW (k:=3) (g:=iy) D fX b4 fun _ _ _ _ _ _ _ hr=>by have hu1:=gQ hr;have hu64:=hr.units;unfold iy;exact (ap (dU (JW.t (vA (cD (wA hu64) (ai 2) (JE.bor (l8 az))) (qT (cD (ur hu64) (JE.bor (jc aV hr px (aa (ah 0) (aa aE (aa aE az))))) (JE.bor aE))))) (aH (bw (jc tm hr px (aa (ah 0) (aa (ah 1) (aa (ah 2) (aa (ah 3) az))))))) c9) (ap (SL 4 fX.nd) (ap (jz rfl (yc rfl B.enumerate (aa (ah 2) az)) (l9 rfl (ca (bU 5 fX.nd) (ca (bU 6 fX.nd) i_))) (ap (cz 7 (jc aV hr dh (aa (ah 0) (aa (bR cG (JE.bor (bR cG (ai 1) (JE.bor aE))) (ai 5)) (aa aE az)))) fX.nd) (ap (dU (cD (ut) (ai 7) (JE.bor aE)) (aH (yn 4 (bV hu1 (JE.bor (jX (aa aE (aa aE (aa aE az))))) (ai 7)) (ah 6))) c9) (ap (cz 7 (jc aV hr dh (aa (ah 0) (aa (bR cG (JE.bor (bR cG (ai 1) (JE.bor aE))) (ai 5)) (aa aE az)))) fX.nd) (aH (dU (cD (ut) (ai 7) (JE.bor aE)) (aH (yn 4 (bV hu1 (JE.bor (jX (aa aE (aa aE (aa aE (aa aE az)))))) (ai 7)) (ah 6))) c9)))))) (ap (Mq (j6 8 (N':=["_law_part"]) (ix:=[]) 1 (by decide) fX.nd rfl (cb (so:=aC lM) (N:=uZ) (by decide +kernel)) (fF (ai 4)) (fun cl A0 s0 H0 ex pn=>⟨cR (i:=0) (by show (["_law_part"] : List Str).Nodup;decide +kernel) rfl (.inl rfl),g9,(fi (iW rfl) rfl B.tuple bp (bh (ai 0) bK))⟩))) (aH (bw (l8 (aa (ah 3) (aa (bV hu1 (ai 8) (JE.bor aE)) (aa (bV hu1 (ai 8) (JE.bor aE)) (aa (bV hu1 (ai 8) (JE.bor aE)) (aa (bV hu1 (ai 8) (JE.bor aE)) (aa (jc aV hr px (aa (ah 0) (aa (ah 1) (aa aE az)))) az)))))))))))))
abbrev pw:cA:=top 53
abbrev zw:List Str:=["_law_script","_law_at","_law_most","_law_many","_law_facts_here","_law_made","_law_k","_law_name","_law_names","_law_turn"]
theorem ik:bD zw ["_law_script","_law_at","_law_most","_law_many"] (aC pw):=dm (by decide +kernel)
abbrev zx (e:En):=FN e "_law_book" 5 4 m9
theorem Fb (D:fH e.K e.mg "_law_book" pw) (B:Bi e.mg) (qI:wI e) (ki:tf e) (pz:u_ e) (aV:eF e):zx e:=mW (k:=4) (g:=m8) D ik b4 fun _ _ _ _ _ _ _ hr=>by have hu1:=gQ hr;unfold m8;exact (ap (cz 4 (jc qI hr px (aa (ah 0) (aa (ah 1) (aa (ah 2) az)))) ik.nd) (ap (gK 5 HN ik.nd) (ap (jz rfl (oJ rfl B.range (bh (JE.bor (jc aV hr dh (aa (ah 0) (aa (bR cG (ai 1) (JE.bor aE)) (aa (bR cG (ai 3) (JE.bor aE)) az))))) bK)) (bU 6 ik.nd) (ap (cz 7 (jc ki hr dh (aa (ah 0) (aa (bR cG (JE.bor (bR cG (ai 1) (JE.bor aE))) (JE.bor (bR qp (JE.bor aE) (ai 6)))) az))) ik.nd) (aH (HS 5 (jc pz hr dh (aa (ah 0) (aa (bR cG (JE.bor (bR cG (ai 1) (JE.bor aE))) (JE.bor (bR qp (JE.bor aE) (ai 6)))) (aa (ah 4) (aa (ah 7) az))))) (ah 7) hu1)))) (ap (cz 8 (fi (yi rfl) rfl B.list g6 (bh (ai 5) bK)) ik.nd) (ap (cz 9 (jc aV hr px (aa (ah 0) (aa (bR cG (ai 1) (JE.bor aE)) (aa (bR cG (JE.bor (bE eB rfl B.len bd (bh (ai 8) bK))) (JE.bor aE)) az)))) ik.nd) (aH (bw (l8 (aa (ah 4) (aa (fi (iW rfl) rfl B.tuple bp (bh (JE.bor (JN.je (fw (N':=["_law_name","_law_made"]) (ix:=[5]) 1 (by decide) rfl (cb (so:=aC pw) (N:=zw) (by decide +kernel)) (fF (JE.bor (bR cG (JE.bor (iV (ai 8) (iZ (ah 9)) mS)) (JE.bor (iV (ai 8) mS (iZ (ah 9))))))) (fun cl A0 s0 H0 ex pn=>⟨cR (i:=0) (by show (["_law_name","_law_made"] : List Str).Nodup;decide +kernel) rfl (.inl rfl),g9,(bV hu1 (ai 1) (ai 0))⟩)))) bK)) az))))))))))
abbrev tq:cA:=top 54
abbrev GZ:List Str:=["_law_script","_law_at","_law_facts_here","_law_must","_law_bars","_law_k","_law_fact","_law_way"]
theorem jj:bD GZ ["_law_script","_law_at","_law_facts_here"] (aC tq):=dm (by decide +kernel)
abbrev zy (e:En):=FN e "_law_want" 3 3 sP
theorem Fc (D:fH e.K e.mg "_law_want" tq) (B:Bi e.mg) (aV:eF e):zy e:=mW (k:=2) (g:=md) D jj b3 fun _ _ _ _ _ _ _ hr=>by have hu64:=hr.units;unfold md;exact (ap (gK 3 (nE az) jj.nd) (ap (gK 4 (nE az) jj.nd) (ap (jz rfl (yc rfl B.enumerate (aa (ah 2) az)) (l9 rfl (ca (bU 5 jj.nd) (ca (bU 6 jj.nd) i_))) (ap (cz 7 (jc aV hr dh (aa (ah 0) (aa (bR cG (ai 1) (ai 5)) (aa aE az)))) jj.nd) (aH (dU (cD (ut) (ai 7) (JE.bor aE)) (aH (jY 3 (ah 6))) (aH (dU (cD (ur hu64) (ai 7) (JE.bor aE)) (aH (jY 4 (ah 6))) c9)))))) (aH (bw (l8 (aa (fi (iW rfl) rfl B.tuple bp (bh (ai 3) bK)) (aa (fi (iW rfl) rfl B.tuple bp (bh (ai 4) bK)) az))))))))
abbrev tu:cA:=top 55
abbrev G_:List Str:=["_law_script","_law_most","_law_many","_law_book_here","_law_state"]
theorem qJ:bD G_ ["_law_script","_law_most","_law_many"] (aC tu):=dm (by decide +kernel)
abbrev zz (e:En):=FN e "_law_case" 6 3 mf
theorem Fd (D:fH e.K e.mg "_law_case" tu) (tw:zx e) (aV:eF e) (kn:tj e) (tE:zy e):zz e:=mW (k:=5) (g:=oT) D qJ b3 fun _ _ _ _ _ _ _ hr=>by have hu1:=gQ hr;unfold oT;exact (ap (cz 3 (jc tw hr px (aa (ah 0) (aa aE (aa (ah 1) (aa (ah 2) az))))) qJ.nd) (ap (cz 4 (jc kn hr px (aa (ah 0) (aa aE (aa (bV hu1 (ai 3) (JE.bor aE)) (aa (bV hu1 (JE.bor (jX (aa aE (aa aE az)))) (JE.bor (jc aV hr px (aa (ah 0) (aa aE (aa aE az)))))) az))))) qJ.nd) (aH (bw (l8 (aa (ah 3) (aa (ah 4) (aa (jc tE hr px (aa (ah 0) (aa aE (aa (bV hu1 (ai 3) (JE.bor aE)) az)))) az))))))))
abbrev my:cA:=top 56
abbrev tF:List Str:=["_law_state","_law_want_here"]
theorem Fe:bD tF ["_law_state","_law_want_here"] (aC my):=dm (by decide +kernel)
abbrev tG (e:En):=FN e "_law_good" 1 2 ij
theorem Ff (D:fH e.K e.mg "_law_good" my) (B:Bi e.mg):tG e:=mW (k:=0) (g:=oU) D Fe b2 fun _ _ _ _ _ _ _ hr=>by have hu1:=gQ hr;unfold oU;exact (aH (bw (sF (bE (oH rfl) rfl B.all cK (bh (JE.bor (JN.je (fw (N':=["_law_fact","_law_state"]) (ix:=[0]) 1 (by decide) rfl (cb (so:=aC my) (N:=tF) (by decide +kernel)) (fF (JE.bor (bV hu1 (ai 1) (JE.bor aE)))) (fun cl A0 s0 H0 ex pn=>⟨cR (i:=0) (by show (["_law_fact","_law_state"] : List Str).Nodup;decide +kernel) rfl (.inl rfl),g9,(nC (DP) (ai 0) (ai 1))⟩)))) bK)) (vB (M8 (bE (Mg rfl) rfl B.any xH (bh (JE.bor (JN.je (fw (N':=["_law_fact","_law_state"]) (ix:=[0]) 1 (by decide) rfl (cb (so:=aC my) (N:=tF) (by decide +kernel)) (fF (JE.bor (bV hu1 (ai 1) (JE.bor aE)))) (fun cl A0 s0 H0 ex pn=>⟨cR (i:=0) (by show (["_law_fact","_law_state"] : List Str).Nodup;decide +kernel) rfl (.inl rfl),g9,(nC (DP) (ai 0) (ai 1))⟩)))) bK)))))))
abbrev pA:cA:=top 57
abbrev zA:List Str:=["_law_errand_here","_law_state","_law_left"]
theorem wJ:bD zA ["_law_errand_here","_law_state"] (aC pA):=dm (by decide +kernel)
abbrev tH (e:En):=FN e "_law_step" 2 2 fV
theorem Fg (D:fH e.K e.mg "_law_step" pA) (B:Bi e.mg) (ko:tG e):tH e:=mW (k:=1) (g:=oV) D wJ b2 fun _ _ _ _ _ _ _ hr=>by have hu1:=gQ hr;unfold oV;exact (ap (dU (eA (dR (jc ko hr px (aa (ah 1) (aa (iV (ai 0) (iZ aE) (iZ aE)) az))))) (aH (bw gf)) c9) (ap (j6 2 (N':=["_law_fact","_law_errand_here"]) (ix:=[0]) 1 (by decide) wJ.nd rfl (cb (so:=aC pA) (N:=zA) (by decide +kernel)) (fF (ai 1)) (fun cl A0 s0 H0 ex pn=>⟨cR (i:=0) (by show (["_law_fact","_law_errand_here"] : List Str).Nodup;decide +kernel) rfl (.inl rfl),(kw (cD (xZ) (ai 0) (JE.bor (bV hu1 (ai 1) (JE.bor aE))))),(ah 0)⟩)) (aH (bw (fi (iW rfl) rfl B.tuple bp (bh (JE.bor (sK rfl (Cd rfl (JE.bor (bR cG (ai 2) (JE.bor (fi (yi rfl) rfl B.list g6 (bh (JE.bor (bV hu1 (ai 0) (JE.bor aE))) bK))))) rfl B.set) rfl B.sorted)) bK))))))
abbrev pB:cA:=top 58
abbrev CU:List Str:=["_law_book_here","_law_state","_law_met","_law_row","_law_at","_law_errand_here","_law_other"]
theorem fY:bD CU ["_law_book_here","_law_state"] (aC pB):=dm (by decide +kernel)
abbrev v3 (e:En):=FN e "_law_levels" 3 2 jG
theorem Av (D:fH e.K e.mg "_law_levels" pB) (B:Bi e.mg) (ja:tH e):v3 e:=mW (k:=2) (g:=lF) D fY b2 fun _ _ _ _ _ _ _ hr=>by have hu1:=gQ hr;unfold lF;exact (ap (gK 2 (Ei hu1 (ah 1) aE) fY.nd) (ap (gK 3 (nE (aa (ah 1) az)) fY.nd) (ap (cz 4 aE fY.nd) (ap (DY 100000 (cD (ut) (ai 4) (JE.bor (bE eB rfl B.len bd (bh (ai 3) bK)))) (ap (jz rfl (xt (bV hu1 (ai 0) (JE.bor aE))) (bU 5 fY.nd) (ap (cz 6 (jc ja hr dh (aa (ah 5) (aa (bV hu1 (ai 3) (ai 4)) az))) fY.nd) (aH (dU (JW.t (vA (cD (uu) (ai 6) (JE.bor gf)) (qT (cD (B5 hu1) (ai 6) (ai 2))))) (ap (Eh 2 (bR cG (JE.bor (sM hu1 (ai 2) (JE.bor (bV hu1 (ai 3) (ai 4))))) (JE.bor aE)) (ah 6) hu1) (aH (jY 3 (ah 6)))) c9)))) (aH (cz 4 (bR cG (ai 4) (JE.bor aE)) fY.nd)))) (aH (Ni 2 (bw (ah 2))))))))
abbrev pC:cA:=top 59
abbrev zB:List Str:=["_law_script","_law_at","_law_book_here","_law_state","_law_many","_law_row","_law_k","_law_some_here","_law_errand_here"]
theorem jk:bD zB ["_law_script","_law_at","_law_book_here","_law_state","_law_many"] (aC pC):=dm (by decide +kernel)
abbrev zC (e:En):=FN e "_law_walk" 3 5 mh
theorem Fh (D:fH e.K e.mg "_law_walk" pC) (B:Bi e.mg) (ja:tH e) (aV:eF e):zC e:=mW (k:=2) (g:=oW) D jk b5 fun _ _ _ _ _ _ _ hr=>by have hu1:=gQ hr;have hu64:=hr.units;unfold oW;exact (ap (gK 5 (nE az) jk.nd) (ap (jz rfl (oJ rfl B.range (bh (ai 4) bK)) (bU 6 jk.nd) (ap (j6 7 (N':=["_law_errand_here","_law_state"]) (ix:=[3]) 1 (by decide) jk.nd rfl (cb (so:=aC pC) (N:=zB) (by decide +kernel)) (fF (JE.bor (bV hu1 (ai 2) (JE.bor aE)))) (fun cl A0 s0 H0 ex pn=>⟨cR (i:=0) (by show (["_law_errand_here","_law_state"] : List Str).Nodup;decide +kernel) rfl (.inl rfl),(kw (cD (uu) (JE.bor (jc ja hr dh (aa (ah 0) (aa (ah 1) az)))) (JE.bor gf))),(ah 0)⟩)) (ap (dU (cD (ur hu64) (ai 7) (JE.bor (jX az))) (aH (bw (ah 5))) c9) (ap (cz 8 (bV hu1 (ai 7) (JE.bor (jc aV hr dh (aa (ah 0) (aa (bR cG (ai 1) (ai 6)) (aa (bE eB rfl B.len bd (bh (ai 7) bK)) az)))))) jk.nd) (ap (jY 5 (bV hu1 (ai 8) (JE.bor aE))) (aH (cz 3 (jc ja hr dh (aa (ah 8) (aa (ah 3) az))) jk.nd))))))) (aH (bw (ah 5)))))
abbrev v4:cA:=top 60
abbrev RN:List Str:=["_law_script","_law_book_here","_law_state","_law_want_here","_law_row","_law_other","_law_met","_law_best","_law_at","_law_need","_law_some_here","_law_told","_law_many"]
theorem iL:bD RN ["_law_script"] (aC v4):=dm (by decide +kernel)
theorem Tv {f:aj}{fd:fz} (F:Jt e.K "law" "law" v4 f fd) (B:Bi e.mg) (tJ:zz e) (aV:eF e) (tK:zC e) (kn:tj e) (pE:v3 e) (CV:IX e) (ko:tG e) (zD:F4 e) (zE:F3 e):vo e.P e.w e.K e.mg e.base (qk e.P e.w) 10 f fd ["_law_script"] (UB e.K e.cls 1 F_law):=by
 refine R6 (k:=9) (g:=Iz) F iL fun cdv A outer s H E hr=>?_
 have hu1:=gQ hr
 have hu64:=hr.units
 unfold Iz
 exact (ap (qr (jc tJ hr px (aa (ah 0) (aa aE (aa aE az)))) (l9 rfl (ca (bU 1 iL.nd) (ca (bU 2 iL.nd) (ca (bU 3 iL.nd) i_))))) (ap (cz 4 (jc tK hr px (aa (ah 0) (aa aE (aa (ah 1) (aa (ah 2) (aa (jc aV hr px (aa (ah 0) (aa aE (aa aE az)))) az)))))) iL.nd) (ap (cz 5 (jc kn hr px (aa (ah 0) (aa aE (aa (bV hu1 (ai 1) (JE.bor aE)) (aa aE az))))) iL.nd) (ap (cz 6 (jc pE hr px (aa (ah 1) (aa (ah 5) az))) iL.nd) (ap (cz 7 gf iL.nd) (ap (jz rfl (Gw rfl B.range (bh (JE.bor (bE eB rfl B.len bd (bh (ai 4) bK))) (bh (JE.bor (vF aE)) (bh (JE.bor (vF aE)) bK)))) (bU 8 iL.nd) (ap (cz 9 (jc CV hr dh (aa (ah 1) (aa (ah 3) (aa (iV (ai 4) (iZ (ah 8)) mS) az)))) iL.nd) (ap (gK 10 (nE az) iL.nd) (ap (dU (cD (uu) (ai 9) (JE.bor gf)) (aH (j6 10 (N':=["_law_one","_law_need","_law_met"]) (ix:=[9,6]) 1 (by decide) iL.nd rfl (cb (so:=aC v4) (N:=RN) (by decide +kernel)) (Iy (ai 6)) (fun cl A0 s0 H0 ex pn=>⟨cR (i:=0) (by show (["_law_one","_law_need","_law_met"] : List Str).Nodup;decide +kernel) rfl (.inl rfl),(kw (dR (jc ko hr dh (aa (ah 0) (aa (ah 1) az))))),(sM hu1 (ai 2) (ai 0))⟩))) c9) (aH (dU (JW.t (vA (cD (wA hu64) (ai 10) (JE.bor (jX az))) (qT (JW.t (lZ (cD (xY) (ai 7) (JE.bor gf)) (jw (cD (ut) (JE.bor (bE (Nh rfl) rfl B.min xJ (bh (ai 10) bK))) (JE.bor (bV hu1 (ai 7) (JE.bor aE)))))))))) (aH (cz 7 (l8 (aa (bE (Nh rfl) rfl B.min xJ (bh (ai 10) bK)) (aa (ah 8) az))) iL.nd)) c9)))))) (ap (cz 11 (jc zD hr px (aa (ah 1) (aa (ah 5) (aa (ah 3) (aa (ah 4) az))))) iL.nd) (ap (dU (cD (xY) (ai 7) (JE.bor gf)) (aH (bw (nC (xY) (ai 11) (JE.bor gf)))) c9) (ap (qr (ah 7) (l9 rfl (ca (bU 12 iL.nd) (ca (bU 8 iL.nd) i_)))) (ap (dU (JW.t (lZ (eA (dR (m5 (ai 11) rfl B.isinstance rfl B.list g6 (by decide)))) (lZ (cD (wA hu64) (JE.bor (bE eB rfl B.len bd (bh (ai 11) bK))) (JE.bor (bR Mc (JE.bor (bR cG (ai 12) (JE.bor (bE eB rfl B.len bd (bh (ai 4) bK))))) (ai 8)))) (jw (cD (wA hu64) (JE.bor (iV (ai 11) (iZ (ah 12)) mS)) (JE.bor (iV (ai 4) (iZ (ah 8)) mS))))))) (aH (bw mR)) c9) (aH (bw (jc zE hr px (aa (ah 1) (aa (ah 5) (aa (ah 3) (aa (ah 11) az)))))))))))))))))
end
end
section
theorem all_mk {l:wN}{w:ba}{K:a8}{h:bB}{mg:Str->Option ac}{fa A:aj}{Bv:aj}{Fi:aj}{Fj:aj}{od an:Option aj}{sl:Array (Option ac)}{oc kV dc pm cv ct:ac} (X:K.In h) (G:h.Ns bY mg) (hfa:mg "law"=some (.ref fa))
  (Zz:Zs K zn)
  (mq:Cn mg "MOST_LETTERS" 6)
  (p7:Cn mg "MOST_PRICE" 9)
  (pc:Cn mg "MOST_FACTS" 6)
  (mr:Cn mg "MOST_ERRANDS" 6)
  (nL:Cn mg "MOST_IN_ROW" 64)
  (Ky:TopC K "NoState" Bv)
  (Oh:TopC K "NoWant" Fi)
  (Oi:TopC K "NoBook" Fj)
  (CW:fH K mg "share_none" lI)
  (Kz:fH K mg "without" rm)
  (Oj:fH K mg "joined" z0)
  (KA:fH K mg "is_word" rn)
  (tL:fH K mg "are_rising_words" fu)
  (Fk:fH K mg "are_facts" nl)
  (H9:fH K mg "is_whole" sV)
  (Fm:fH K mg "is_errand" nr)
  (KB:fH K mg "is_book" oa)
  (KC:fH K mg "is_want" vU)
  (Aw:fH K mg "check_state" nH)
  (CY:fH K mg "check_want" pd)
  (xg:fH K mg "errand_called" lj)
  (KD:fH K mg "fulfils" ro)
  (Fo:fH K mg "is_doable" qB)
  (zF:fH K mg "state_behind" ms)
  (KF:fH K mg "checked" vY)
  (Ax:fH K mg "check_place" nI)
  (Fp:fH K mg "check_aim" qD)
  (Ol:fH K mg "is_row" uQ)
  (CZ:fH K mg "errands_of" lJ)
  (wg:fH K mg "states_through" kd)
  (Ha:fH K mg "asked_by" s_)
  (Om:fH K mg "serves" zm)
  (QE:fH K mg "asked" CO)
  (C_:fH K mg "steps_from" lL)
  (D1:fH K mg "first_rows" ph)
  (KG:fH K mg "nearest" oj)
  (wj:fH K mg "wants_of_rests" kg)
  (On:fH K mg "mended" zq)
  (Ay:fH K mg "_law_cell_at" nM)
  (Fq:fH K mg "_law_mixed" qG)
  (Hb:fH K mg "_law_word" t5)
  (Fs:fH K mg "_law_facts" qH)
  (Hc:fH K mg "_law_some" pq)
  (Hd:fH K mg "_law_thin" kj)
  (D2:fH K mg "_law_errand" lM)
  (He:fH K mg "_law_book" pw)
  (Hf:fH K mg "_law_want" tq)
  (Hg:fH K mg "_law_case" tu)
  (Hh:fH K mg "_law_good" my)
  (Hi:fH K mg "_law_step" pA)
  (D3:fH K mg "_law_levels" pB)
  (Hj:fH K mg "_law_walk" pC)
  (l0:gI K bY "law"=some (some (.ref A)))
  (l1:K.lookup A=some ⟨oc,od,.func (fJ "law" "law" (mQ v4) (ju v4) (aC v4) .none kV dc pm an cv ct),sl⟩)
  (l2:lT K cv "law"=true)
  (l3:js K (.ref A)=true)
  : ∃ fd:fz,(∀ (s:ag) (v:ac),Fu s fd ⟨[v],[]⟩ [("_law_script",v)])/\∀ base:bB,K.In base->base.Ns bY mg->vo l.prog w K mg base (qk l.prog w) 10 fa fd ["_law_script"] (UL K F_law):=by
 have q:=hfa.symm.trans (rQ X G l0)
 cases q
 refine ⟨fJ "law" "law" (mQ v4) (ju v4) (aC v4) .none kV dc pm an cv ct,fun s v=>.of_eq rfl,fun base X G=>?_⟩
 let e:En:=⟨l.prog,w,K,mg,base,UM [("NoState",Bv),("NoWant",Fi),("NoBook",Fj)]⟩
 have B:Bi e.mg:=V5 X G Zz
 have vV:ER e "NoState":=Ky.er X G rfl
 have zf:ER e "NoWant":=Oh.er X G rfl
 have zh:ER e "NoBook":=Oi.er X G rfl
 have cH:=Aj (e:=e) CW B
 have kc:=GN (e:=e) Kz B
 have mw:=Kr (e:=e) Oj B
 have lQ:=GP (e:=e) KA B mq
 have eh:=rM (e:=e) tL B lQ
 have fc:=CH (e:=e) Fk B eh
 have sW:=EW (e:=e) H9 B
 have qA:=CI (e:=e) Fm B lQ sW fc cH p7
 have v_:=GR (e:=e) KB B eh qA pc mr
 have vW:=GS (e:=e) KC B fc cH
 have nJ:=ze (e:=e) Aw fc vV
 have iB:=Am (e:=e) CY vW zf
 have fI:=vX (e:=e) xg B
 have iA:=GT (e:=e) KD B cH
 have jh:=CL (e:=e) Fo iA
 have gm:=xf (e:=e) zF kc mw
 have lR:=GV (e:=e) KF v_ zh
 have nK:=zj (e:=e) Ax lR nJ
 have ji:=CN (e:=e) Fp nK iB
 have zk:=Kv (e:=e) Ol B fI nL
 have eX:=Ap (e:=e) CZ zk fI
 have ke:=uS (e:=e) wg jh gm
 have kf:=F1 (e:=e) Ha cH kc mw
 have zE:=Kw (e:=e) Om B ji eX ke iA
 have CV:=Of (e:=e) QE B lR iB kf eX
 have pi:=Ar (e:=e) C_ jh gm
 have pj:=As (e:=e) D1 pi
 have wf:=GX (e:=e) KG B iA
 have kh:=uX (e:=e) wj B kf
 have zD:=Kx (e:=e) On B ji eX kh pj wf
 have nN:=zt (e:=e) Ay B
 have aV:=CS (e:=e) Fq nN
 have ki:=F6 (e:=e) Hb B aV
 have qI:=CT (e:=e) Fs B ki aV
 have kn:=F9 (e:=e) Hc B aV
 have tm:=Fa (e:=e) Hd B aV
 have pz:=Au (e:=e) D2 B aV tm
 have tw:=Fb (e:=e) He B qI ki pz aV
 have tE:=Fc (e:=e) Hf B aV
 have tJ:=Fd (e:=e) Hg tw aV kn tE
 have ko:=Ff (e:=e) Hh B
 have ja:=Fg (e:=e) Hi B ko
 have pE:=Av (e:=e) D3 B ja
 have tK:=Fh (e:=e) Hj B ja aV
 exact (Tv (e:=e) (LG l1 l2 l3) B tJ aV tK kn pE CV ko zD zE).imp SO
end
end Z
section
open PySem PySem.W PyProof.Rows
def PySem.W.Fast.tw6045596153988612916:Nat:=0
def PySem.W.Fast.tw10077177633448895700:Nat:=0
def PySem.W.Fast.tw11212462088267768416:Nat:=0
def PySem.W.Fast.tw3467962077000625904:Nat:=0
def PySem.W.Fast.tw5832522264913225049:Nat:=0
def PySem.W.Fast.tw9214198346985365371:Nat:=0
def PySem.W.Fast.tw4756058003119403014:Nat:=0
def PySem.W.Fast.tw9155837053619106930:Nat:=0
def PySem.W.Fast.tw42218802205084555:Nat:=0
def PySem.W.Fast.tw14968306512171954959:Nat:=0
def PySem.W.Fast.tw13725011049730466580:Nat:=0
def PySem.W.Fast.tw10260864418623539082:Nat:=0
def PySem.W.Fast.tw15875585379256863429:Nat:=0
def PySem.W.Fast.tw1727233327522461135:Nat:=0
def PySem.W.Fast.tw5318855986187999057:Nat:=0
def PySem.W.Fast.tw500745596151301989:Nat:=0
def PySem.W.Fast.tw11679728698048515937:Nat:=0
def PySem.W.Fast.tw4203631667320696707:Nat:=0
def PySem.W.Fast.tw14720309492544666341:Nat:=0
def PySem.W.Fast.tw1727095285794908399:Nat:=0
def PySem.W.Fast.tw10919991516376629665:Nat:=0
def PySem.W.Fast.tw14123190628962495458:Nat:=0
def PySem.W.Fast.tw4667053798519142988:Nat:=0
def PySem.W.Fast.tw17292565396236240102:Nat:=0
def PySem.W.Fast.tw8758652831994317016:Nat:=0
def PySem.W.Fast.tw10980296662041339073:Nat:=0
def PySem.W.Fast.tw7146269899583191108:Nat:=0
def PySem.W.Fast.tw2375992607754776560:Nat:=0
def PySem.W.Fast.tw4525621403138681856:Nat:=0
def PySem.W.Fast.tw6866726004419573567:Nat:=0
def PySem.W.Fast.tw1210906493004364764:Nat:=0
def PySem.W.Fast.tw11284951267548125494:Nat:=0
def PySem.W.Fast.tw2838655118771810479:Nat:=0
def PySem.W.Fast.tw11818517567727589929:Nat:=0
def PySem.W.Fast.tw2644703032319539380:Nat:=0
def PySem.W.Fast.tw11731700916747549014:Nat:=0
def PySem.W.Fast.tw7699858288515285903:Nat:=0
def PySem.W.Fast.tw5967774289337009947:Nat:=0
def PySem.W.Fast.tw15866668212075149952:Nat:=0
def PySem.W.Fast.tw8622252246599488139:Nat:=0
def PySem.W.Fast.tw5868809046769558859:Nat:=0
def PySem.W.Fast.tw7215785139263754639:Nat:=0
def PySem.W.Fast.tw12755383003866406287:Nat:=0
def PySem.W.Fast.tw6899067336939263086:Nat:=0
theorem PySem.Challenge.cw_errands_k25_whole_mended_holds : PySem.Challenge.rw_errands_k25_whole_mended.Holds := by
 w_on;o_law;k_head;(case hw=>w_witness2)
 k_fill
 refine J.walkF (l:=PySem.Challenge.rw_errands_k25_whole_mended) (k:=10) (x:="_law_script") (F0:=Z.F_law) rfl rfl ⟨rfl,by decide,by decide⟩ (fun w h Y=>PySem.W.kIn_of Y) ?F (fun ns _=>Z.law_true ns)
 case F =>
  intro w mg fa h KX G hmg
  refine' Z.all_mk KX G hmg ?_ ?_ ?_ ?_ ?_ ?_ ?_ ?_ ?_ ?_ ?_ ?_ ?_ ?_ ?_ ?_ ?_ ?_ ?_ ?_ ?_ ?_ ?_ ?_ ?_ ?_ ?_ ?_ ?_ ?_ ?_ ?_ ?_ ?_ ?_ ?_ ?_ ?_ ?_ ?_ ?_ ?_ ?_ ?_ ?_ ?_ ?_ ?_ ?_ ?_ ?_ ?_ ?_ ?_ ?_ ?_ ?_
  all_goals first
   | (refine' J.d_in KX G ?_ ?_ ?_ ?_<;>try k_is)
   | (refine' J.cn_in KX G ?_<;>try k_is)
   | k_is
   | (refine' J.TopC.mk ?_ ?_ ?_<;>try (first | k_is | k_exc))
   | ((refine' J.Wy.mk ?_ ?_ ?_ ?_ ?_ ?_ ?_ ?_ ?_ ?_)<;>try (first | k_is | decide | ((repeat' (first | exact .nil | refine' .cons ?_ ?_ ?_))<;>try (first | k_is | decide))))
   | ((repeat' (first | exact .nil | refine' .cons ?_ ?_))<;>try (first | (refine' J.cw_in ?_ ?_ ?_<;>try k_is) | k_is))
   | skip
end
