import PyProof.Rows.All
import Wide.All
import OpenK.AllK
import Wide.FinOn
import Lean
import PyProof.EqAt
import PyProof.EqKinds
import PyProof.TupleCall
import KE.KDictOf
import PyProof.AttrMissHeap
import KE.KRevIter
import PyProof.DictWalks
import PyProof.MinMaxWalk
import PyProof.SeqI3
import PyProof.WalkInts
import PyProof.ExcInit
import PyProof.InstStoreFacts
import PyProof.DictCompW
import KE.KItemsList
import KE.KEqDict
import PyProof.Rows.CallKwBuiltin
import PySem.Challenge.RW_errands_k16_whole_hint
set_option Elab.async false
set_option linter.all false
set_option maxRecDepth 100000
set_option maxHeartbeats 0
open PySem renaming wpAny_bind->a8,wpAny_pure->a9,Value->af,Shared->ai,Addr->ao,wpAny->au,model->aA,starEach->aH,cellsFrom->aI,wpAny_mono->aT,Program->a_,Expr->bp,World->bz,Around->bB,Heap->bD,wpAny_setState_of->bE,compareOp->bI,wpAny_newObj_type->bK,wpAny_call_entry->bO,foldedSetIterable->bU,wpAny_holding->bZ,mainGlobals->cf,boot_len->cq,rawInt->cA,wpAny_callSpecial?_slot->cE,wpAny_standAt->cU,wpAny_truthy_bool->de,eval->dn,letOwnedTupleGo->dE,wpAny_seqItems->dG,wpAny_rule->dH,Stmt->dX,codeAny->dZ,mem_of_lookup->ed,wpAny_field->er,codeAny_builtin->eI,wpAny_of_eq->eT,Scope->eX,sysModules->fz,FuncData->fG,fits_of_scanBound->fW,backTo->fX,pyNext->gn,cLine->gC,plainId_quiet->gD,swapsWith->gF,wpAny_askSetting->gH,wpAny_isInstance->gI,wpAny_pyIter_tuple->gN,binaryOp->gO,wpAny_setField->gQ,pushCells_keeps->h_,scanBound->i0,wpAny_pyIter_list->i4,behindInMarks->ij,wpAny_comprehension_free->im,Builtin->iC,setField->iE,sizeLine_eq->iN,strIterType->iQ,wpAny_typeNameOfWhole_keyiter->iS,bootBuiltins->iU,assign->iV,assignEach->iW,wpAny_setField_rec->iY,wpAny_passesOwn->j6,wpAny_storeSet_of->jn,wpAny_attempt->ki,standAt->ku,wpAny_Call_Name_kw->kE,IsPair->kG,NameKind->lz,wpAny_typeOf->lB,newFunctionEnv->lC,SetTable->lE,firstArgMember->lF,wpAny_tryCatch->lG,isTrue->ml,sliceBounds->mW,compEnvC->mX,wpAny_letGo->mZ,theTreesLotGoes->nU,wpAny_updateSeq->nV,codeAny_mono->oF,pickOrder->pc,tupleKind_room_in1->ph,getItem->qC,pyIter->qI,Result->qK,attributeBase->qL,tupleKind->sP,compTurn->sQ,noteFrame->sR,raiseNew->sS,seqItems?->sU,codeAny_loop->tY,newExc->tZ,wpAny_execs_nil->uQ,codeAny_of_tree->uS,builtinLookup_eq_fast->uY,IsPart->wk,wpAny_noted->wl,relayAll->wn,isSubtype_stop->wo,IsZip->wp,wpAny_updateSeq_pair->wq,callerA->xi,argBest->xl,swapsWithSole->y8,swappedStores->y9,comprehension->yd,wpAny_onRaise->yf,Comprehension->yh,holding->Ap,wpAny_assign_Name->Aq,BindsTo->Ar,Keyword->As,concat_meets->At,valueAt->Au,Walks->Av,entryFor->Aw,wpAny_pyIter_slot->Ay,wpAny_dictEntries->AD,wpAny_eqBool_int->Ch,wpAny_eqBool_str->Ci,noFill_tuple_add->Cj,argsOk->Cm,PyData->Cr,subscripted->D_,typeLookup_type->E9,wpAny_dictEpoch->Eb,CellsOk->Gi,Paired->Gv,GenState->Gx,typeLookup->GA,stored->GB,atKey->GC,compPost->GD,entryFor_alias->GE,isSubtype_type->GF,wpAny_fieldsOf->GG,field->GH,assignInOrder->Kb,seq_tuple_add->Kg,call->Ki,wpAny_handled->Kk,wpAny_newList->Kl,Drawn->M3,Model->M4,CmpOp->M5,lastMarks->M6,bindL->M9,bindC->Ma,DictEntry->Mb,updateSeq->Me,sub_set_self->Mt,setNext->Mu,newSet->Mw,wpAny_isTrue_Compare1->Qc,exec_Assign_Name_used->Qe,wpAny_notOrdered_dict->Qg,wpAny_isOneOf_keyiter->Qi,wpAny_loadName_local->Qt,bindName->Qu,bindArgs->Qv,keywordEach->Qw,wpAny_alloc->Qy,codeAny_call_builtin->QB,unsupported->QC,newTuple->QD,wpAny_throw->QE,ZipApart->QF
open PySem.W renaming Frag->aa,kia_one->dg,keepIn->fY,fnOf->gG,nsMap_none_of_in->gR,cellsFrom_some->il,nsIn->io,mroIn->iB,findIn->mn,codeIn->mo,kitOne->qJ,mg_of->tK,isNs_of_in->u5,methodObj->uU,kitx_list->uV,instObj->xF,OpenLaw->xH,lookIn->yy,clsIn->AC,kitx_tuple->Gy,codeRec_of->Gz,specialIn->IA,kitx_dict->IB,plainGet->Ke,takesIn->M7,typeIn->MA,nsOkIn->MB,WalkO->Qd,subIn->Qh
open PySem.Heap renaming get?_push_of_some->ac,lt_size->av,get?_push_size->ay,SameBut->bC,size_push->c9,get?_update_other->cJ,get?_update_self->eh,IsTuple->Gm,ExtBut->ID,get?_push_ne->MF,size_update->Qm
open List renaming mem_cons_of_mem->ag,mem_cons_self->ak,mem_append_right->al,length_map->aq,getElem?_set_ne->ar,map_cons->az,length_append->aJ,getElem?_set_self->aM,mem_append_left->aN,mem_cons->aQ,size_toArray->aR,getElem?_append_left->aW,getElem?_map->aX,length_cons->aY,getElem?_eq_getElem->aZ,map_append->bc,getElem?_append_right->bg,not_mem_nil->bh,all_eq_true->bA,find?_cons->bH,getElem?_replicate->bJ,range->bM,append_nil->bN,mem_map_of_mem->bT,mem_of_getElem?->c8,map_map->cm,getD_eq_getElem?_getD->cz,mem_map->cC,length_nil->cG,foldl_cons->cH,getElem?_eq_none->cV,map_congr_left->cX,mem_singleton->df,lookup_cons->dv,length_replicate->dB,length_singleton->dC,nodup_cons->dS,map_nil->d_,mem_append->eu,any_cons->eS,nodup_nil->eV,append_assoc->fB,length_range->fD,forIn_cons->gP,mem_filter->gS,getElem_of_mem->i5,length_filter_le->iT,getElem_mem->jm,any_eq_true->jo,sublist_append_left->jE,nil_append->jN,zip_cons_cons->jR,pairwise_cons->jS,getElem?_cons_succ->jT,forIn_nil->kz,all_map->kA,getElem_map->lu,filterMap_cons->mj,filterMap_map->ng,perm_ext_iff_of_nodup->nq,map->nr,any_eq_false->oE,nodup_append->oH,map_id->oJ,all_cons->oZ,any_map->qF,length_zip->qP,replicate->tE,length->tF,filter_sublist->uT,set_cons_zero->wf,set_cons_succ->wg,pairwise_of_forall_mem_list->xm,length_filterMap_eq_countP->xL,length_take->yb,length_drop->yc,ext_getElem->ye,lookup->yA,of_mem_zip->Ah,length_eraseIdx_of_lt->Bc,foldl_map->Be,drop_eq_getElem_cons->Ck,getElem?_eq_some_iff->Ct,length_erase_of_mem->E3,getElem?_cons_zero->Ea,pairwise_singleton->Ec,filter_cons_of_pos->Ed,drop_of_length_le->Gk,length_pos_of_mem->Gp,mem_erase_of_ne->IG,getElem?_range->Km,replicate_succ->Ks,replicate_zero->Kt,length_pos_iff->Ku,lookup_append->Mc,map_inj_right->Mh,getElem_range->Mj,mapM_toArray->MD,zip_nil_left->ME,isEmpty_cons->MH,flatMap_cons->MI,getElem_inj->Qb,zipIdx_cons->Qf,countP_cons->Qk,map_snd_zip->Ql,cons_append->Qn,zipIdx_nil->QG
open Nat renaming le_refl->aw,ne_of_lt->aB,lt_of_lt_of_le->aK,lt_irrefl->bf,le_trans->cn,le_of_lt->cw,zero_le->cx,lt_succ_of_lt->cO,lt_succ_self->cZ,ne_of_gt->ft,lt_succ_of_le->hJ,le_succ->jh,lt_trans->jq,not_lt_zero->jQ,lt_asymm->mY,lt_or_ge->m_,lt_of_le_of_lt->nR,lt_of_lt_of_eq->nY,zero_add->xI,le_of_lt_succ->xJ,add_zero->xK,le_succ_of_le->xP,min_le_right->yz,mod_lt->Co,mul_comm->GJ,succ_pos->GK,lt_of_succ_lt_succ->GL,min_self->GN,add_lt_add_right->Kn,le_of_not_lt->Qx,le_add_right->QH,reduceLeDiff->QQ,reduceEqDiff->QR
open Array renaming length_toList->ax,getElem?_toList->ck,getElem?_eq_getElem->e7,getD_eq_getD_getElem?->iR,size_map->kj,eq_empty_of_size_eq_zero->k_,all_toList->xN,toList_inj->xO,replicate->yB,toArray_toList->GI,append_assoc->Ka,find?_toList->Kc,forIn_toList->Ko,toList_push->Md,toList_zip->MG,size_push->Qj
open PySem.PyData renaming str->aF,eqv->b9,int->bV,bool->cB,tuple->dD,canLayAll0->iL,eqvAll->jw,canLay0->kh,list->lw,none->rR,dict->Go
open Bool renaming and_eq_true->aV,false_eq_true->ba,false_ne_true->bw,not_false->i8,not_true->iM,or_eq_true->jM,eq_iff_iff->qO,beq_eq_decide_eq->rO,and_false->tJ,true_and->u_,and_self->v3,noConfusion->yg,false_and->Bb,or_eq_false_iff->IF,not_eq_true'->Mz
open PySem.Value renaming ref->bv,none->eR,str->iH,type->j5,int->jg,isStrOf->uP,bool->K9
open PyProof.Rows renaming boot_tuple->bx,arrOf->bQ,boot_all->c7,wpS_bind->dq,pendingOf->eB,wpS_pure->fu,Keyed->fH,slot_tuple_getitem->gq,callWith_type1->ik,seqObj->ji,SortSt->jj,SortKind->lH,wpS_forRange->lI,boot_sorted->m8,boot_list->nu,boot_any->oC,AllBare->qB,wpS_mono->sX,callWith_builtin1->tG,envOfC->tX,StrsAre->u0,assignInOrder_cons->yx,boot_max->yC,mem_zip_self->AE,IsTup->Gw,mirror->GM,subscriptTail->Kh,listUpdate_at->Kr,subscriptTail_builtinR->Mr,IntsAre->Ms,wpS_get->MC,seqEpoch_at->QP
open PySem.Heap.SameBut renaming update->bP
open Option.some renaming inj->bY,injEq->E2
open Ne renaming symm->cF
open PySem.NameKind renaming free->cK,cell->eG,«local»->qE
open PySem.SetTable renaming sizeAbove->cL,grown->iO,below->iP,fits->nh,bits->nj,turns->qD,layClean->uR,laid->Ai,orStandIn->Gj,relaid->Kj,fill->Mx,road->My
open PySem.Builtin.SmallTypes renaming nextOf->cQ,ownedTupleIsFree->fh,ownedTupleHandOut->ni
open ForInStep renaming yield->cR
open PySem.Around renaming under_plainId->c_
open Option renaming map_some->dO,getD_none->hX,getD_some->kP,isSome_map->we,isSome_some->IC,bind_some->Mi
open PySem.SetTable.layClean renaming free->ej
open Or renaming inr->eF,inl->g_
open PySem.Obj renaming mapFields->eW,mapSeq->hV,putSet->qN,data_mapFields->Mv
open Int renaming toNat_of_nonneg->eY,toNat_natCast->kF,emod_lt_of_pos->nX,emod_nonneg->rP,reduceLT->GO,le_refl->Kq,max_eq_right->QO
open List.Sublist renaming refl->fi
open PySem.F renaming slot_dict_keyiterator_next->fZ,plain_max_loop->iz,slot_tuple_iterator_next->jr,args_tuple_add_2->nQ,entry_tuple_add->oG,slot_tuple_add->pf,args_dict_keyiterator_next_1->sW,slot_zip_next->tH,entry_dict_keyiterator_next->tL,slot_tuple_lt->tM,slot_list_append->AA,type_list_append->AB,entry_max_loop->AF,plainAttrs_list->Bd,slot_dict_items->Bf,args_tuple_iterator_next_1->Cq,slot_dict_iter->Cs,entry_tuple_iterator_next->E1,slot_enumerate_next->Mf
open PySem.AutoSeq1 renaming wpAny_loadPart'->gE
open PySem.Paired renaming length->gZ
open PySem.Str renaming ofString->hG
open Sum renaming inr->i7,inl->xE
open PySem.Builtin.Slice renaming slicePlaces->iI,sliceAdjust->lA,sliceApplied->uW
open PyProof.Rows.F renaming plain_set_update_loop->iJ,entry_set_update_loop->o_
open PySem.Builtin.Tuple renaming tupleExact->iX,tupleItemsOf->uX
open False renaming elim->j7
open True renaming intro->jb
open PySem.Builtin.Frozenset renaming updateFrom->jL,isAnySet->sV,sizeOf->t_,copyOf->u4,newClass->Qz,oneOther->QI,addrOf->QJ,slot1->QK,baseOf->QL,merge->QM,unchanged->QN
open And renaming intro->kg
open PySem.Builtin.Dict_items renaming ownsTuple->m9
open PySem.Calls renaming call_function_entry->nW,Name_function_global->Ao,callWith_builtin->E8,spliced_cons->Kf,spliced_nil->M8
open PySem.Walks renaming list->qy
open List.Pairwise renaming nil->qM
open List.cons renaming inj->rQ
open PySem.Builtin.Builtins renaming bindParams->sY
open PySem.Builtin.List renaming listExtendWith->uZ,listSameRef->xk
open PySem.PassesOwn renaming never->wt
open PySem.Heap.Ns renaming new->xj
open PyProof.Rows.IsTup renaming new->xG
open PySem.Builtin.Dict renaming updateFrom->xM
open PySem.Heap.FunFrames renaming mem->Aj
open Classical renaming propDecidable->Ak
open PySem.pickOrder renaming go->Ax
open PySem.SetTable.below renaming go->Az
open PySem.SeqAt.EqAt renaming int_str->DY,str_int->DZ
open PySem.Heap.DictOf renaming new->Gh
open PySem.Shared renaming heap->Gn,TypeIs->QA
open PySem.Value.type renaming inj->IE
local macro_rules|`(tactic|omega)=>`(tactic|first|lia|omega (config:={}))
namespace L2
open PySem PySem.Spec PyProof.Rows
abbrev dQ:=Sum Int Str
def xn:dQ->af->Bool
 |.inl k,v=>Value.isInt k v
 |.inr x,v=>uP x v
def YE (w:bz):dQ->Int
 |.inl k=>hashInt k
 |.inr x=>hashStr w x
def fm:∀ {k:dQ}{v:af},xn k v=true->(∃ i t,k=xE i/\v=jg i t)\/(∃ x t,k=i7 x/\v=iH x t)
 |.inl i,v,h=>by
  obtain ⟨t,e⟩:=Value.isInt_shape (k:=i) (v:=v) h
  exact .inl ⟨i,t,rfl,e⟩
 |.inr x,v,h=>by
  obtain ⟨t,e⟩:=Value.isStrOf_shape (x:=x) (v:=v) h
  exact .inr ⟨x,t,rfl,e⟩
def Kv (i:Int) (t:Tok):xn (.inl i) (.int i t)=true:=by simp [xn,Value.isInt]
def Kw (x:Str) (t:Tok):xn (.inr x) (.str x t)=true:=by simp [xn,uP]
def Ul (a b:Int):decide ((xE a:dQ)=xE b)=(a==b):=by
 by_cases e:a=b
 ·subst e;simp
 ·have h:¬ (xE a:dQ)=xE b:=λq=>e (Sum.inl.inj q)
  rw [decide_eq_false h]
  exact (beq_eq_false_iff_ne.mpr e).symm
def Um (a b:Str):decide ((i7 a:dQ)=i7 b)=decide (a=b):=by
 by_cases e:a=b
 ·subst e;simp
 ·have h:¬ (i7 a:dQ)=i7 b:=λq=>e (Sum.inr.inj q)
  rw [decide_eq_false h,decide_eq_false e]
def Uo (a:Int) (b:Str):decide ((xE a:dQ)=i7 b)=false:=decide_eq_false (λq=>nomatch q)
def Uq (a:Str) (b:Int):decide ((i7 a:dQ)=xE b)=false:=decide_eq_false (λq=>nomatch q)
def cS (prog:a_) (w:bz):PySem.KeyKind prog w dQ where
 is:=xn
 hash:=YE w
 inj:=λv a b ha hb=>by
  rcases fm ha with ⟨i,t,rfl,rfl⟩|⟨x,t,rfl,rfl⟩
  ·rcases fm hb with ⟨j,u,rfl,e⟩|⟨y,u,rfl,e⟩
   ·injection e with e1 _;rw [e1]
   ·exact nomatch e
  ·rcases fm hb with ⟨j,u,rfl,e⟩|⟨y,u,rfl,e⟩
   ·exact nomatch e
   ·injection e with e1 _;rw [e1]
 byValue:=λk v h=>by
  rcases fm h with ⟨i,t,rfl,rfl⟩|⟨x,t,rfl,rfl⟩<;>rfl
 pyHash:=λhv h=>by
  rcases fm hv with ⟨i,t,rfl,rfl⟩|⟨x,t,rfl,rfl⟩
  ·exact wpAny_pyHash_int h
  ·exact wpAny_pyHash_str h
 eqBool:=λhu hv h=>by
  rcases fm hu with ⟨i,t,rfl,rfl⟩|⟨x,t,rfl,rfl⟩
  ·rcases fm hv with ⟨j,u,rfl,rfl⟩|⟨y,u,rfl,rfl⟩
   ·rw [Ul] at h;exact Ch h
   ·rw [Uo] at h;exact DY i t y u _ _ _ _ h
  ·rcases fm hv with ⟨j,u,rfl,rfl⟩|⟨y,u,rfl,rfl⟩
   ·rw [Uq] at h;exact DZ x t j u _ _ _ _ h
   ·rw [Um] at h;exact Ci h
 «strs»:=λk x t v h=>by
  rcases fm h with ⟨i,u,rfl,e⟩|⟨y,u,rfl,e⟩
  ·exact nomatch e
  ·injection e with e1 _
   subst e1
   cases v<;>rfl
def Ee (prog:a_) (w:bz) (i:Int) (t:Tok):(cS prog w).is (.inl i) (.int i t)=true:=Kv i t
def Ef (prog:a_) (w:bz) (x:Str) (t:Tok):(cS prog w).is (.inr x) (.str x t)=true:=Kw x t
end L2
namespace L2
open PySem PySem.Spec PyProof.Rows
inductive V where
 |non|bl (b:Bool)|int (i:Int)|str (x:Str)|byt (b:Array UInt8)|flt (b:UInt64)|ref (a:ao)|ty (n:String)
 deriving DecidableEq
def dR:V->af->Prop
 |.non,u=>u=eR
 |.bl b,u=>u=K9 b
 |.int i,u=>∃ t,u=jg i t
 |.str x,u=>∃ t,u=iH x t
 |.byt b,u=>∃ t,u=Value.bytes b t
 |.flt b,u=>∃ t,u=Value.float b t
 |.ref a,u=>u=bv a
 |.ty n,u=>u=j5 n
abbrev dY:List V->List af->Prop:=Gv dR
def dY.length {xs:List V}{a:List af} (r:dY xs a):xs.length=a.length:=gZ r
def dY.get {xs:List V}{a:List af} (h:dY xs a):∀ {i:Nat}{x:V},xs[i]?=some x->∃ u,a[i]?=some u/\dR x u:=by
 induction h with
 |nil=>intro i x e;cases e
 |cons r t b =>
  intro i x e
  cases i with
  |zero=>cases e;exact ⟨_,rfl,r⟩
  |succ i=>have q:=b (i:=i) e;exact q
def dY.append {xs ys:List V}{b a:List af} (h:dY xs b) (s:dY ys a):dY (xs++ys) (b++a):=by
 induction h with
 |nil=>exact s
 |cons r t c=>exact .cons r c
def dY.take:∀ {xs:List V}{a:List af} (n:Nat),dY xs a->dY (xs.take n) (a.take n)
 |_,_,0,_=>.nil
 |_,_,_+1,.nil=>.nil
 |_,_,n+1,.cons r t=>.cons r (dY.take n t)
def dY.drop:∀ {xs:List V}{a:List af} (n:Nat),dY xs a->dY (xs.drop n) (a.drop n)
 |_,_,0,r=>r
 |_,_,_+1,.nil=>.nil
 |_,_,n+1,.cons _ t=>dY.drop n t
def yD:Option V->Option af->Prop
 |some v,some u=>dR v u
 |none,none=>True
 |_,_=>False
def KV {κ:Type}:List (κ×V)->List (κ×af)->Prop:=Gv λ(p:κ×V) (q:κ×af)=>p.1=q.1/\dR p.2 q.2
def kV:dQ->V
 |.inl i=>.int i
 |.inr x=>.str x
inductive HO where
 |lst (xs:List V)
 |tup (xs:List V)
 |dK (kvs:List (dQ×V))|dT (kvs:List (List dQ×V))
 |set (S:Int->Bool) (n:Nat)
 |ins (C dx:ao) (fs:List (Str×V))
 |own (x:ao)
 |xd (fs:List (Str×V))
 |met (f x:ao)
 |rng (lo hi:Int)
 |frz (o:Obj) (u:HO)
 |tbl (ps:Array af)
 |ext (φ:bD->Prop)
abbrev Hp:=ao->Option HO
def upd (H:Hp) (a:ao) (o:HO):Hp:=λb=>if b=a then some o else H b
def bi {H:Hp}{a:ao}{o:HO}:upd H a o a=some o:=by unfold upd;rw [if_pos rfl]
def bj {H:Hp}{a b:ao}{o:HO} (h:b≠a):upd H a o b=H b:=by unfold upd;rw [if_neg h]
def MJ {H:Hp}{a b:ao}{o u:HO} (h:H a=some o) (h':H b=some u) (d:o≠u):a≠b:=by
 intro e;subst e;rw [h] at h';exact d (bY h')
def c6 {H:Hp}{a b:ao}{o:HO} (h:H a=some o) (h':H b=none):a≠b:=by
 intro e;subst e;rw [h] at h';cases h'
section
variable (P:a_) (w:bz)
def dI (H:Hp) (h:bD) (a:ao):HO->Prop
 |.lst xs=>xs.length<=sizeLine/\∃ (b:List af) (n:Nat),dY xs b/\h.get? a=some { cls:=.type "list",data:=.seq b.toArray n }
 |.tup xs=>xs.length<=sizeLine/\∃ b:List af,dY xs b/\Gw h a b.toArray
 |.dK kvs=>kvs.length<=sizeLine/\(a==fz)=false/\∃ i,KV kvs i/\h.DictOf (cS P w) a i
 |.dT kvs=>kvs.length<=sizeLine/\(a==fz)=false/\∃ xs:List (List dQ×ao×af),
   Gv (λ(p:List dQ×V) (q:List dQ×ao×af)=>p.1=q.1/\H q.2.1=some (.tup (p.1.map kV))/\dR p.2 q.2.2) kvs xs /\
   ∃ o es ep,h.get? a=some o/\o.ExactDict/\o.data=.dict es ep/\es.toList=xs.map (entryOfKey (sP (cS P w)))/\(xs.map (·.1)).Nodup
 |.set S n=>h.SetOf (intKind P w) a S n
 |.ins C d fs=>H d=some (.own a)/\fs.length<=1000/\d≠a/\h.get? a=some (xF C d) /\
   ∃ c,h.Ns1 d c/\(∀ f,yD (fs.lookup f) (c f))/\PySem.Within c (fs.map (·.1))
 |.own _=>∃ o,h.get? a=some o
 |.xd fs=>∃ c,h.Ns1 a c/\∀ f,yD (fs.lookup f) (c f)
 |.rng lo k=>∃ t u v,h.get? a=some { cls:=.type "range",data:=.fields #[.int lo t,.int k u,.int 1 v] }
 |.frz o u=>h.get? a=some o/\dI H h a u
 |.tbl j=>h.get? a=some { cls:=.none,data:=.fields j }
 |.met f x=>h.get? a=some (uU (.ref f) (.ref x))
 |.ext φ=>φ h/\(∃ o,h.get? a=some o)/\∀ e g:bD,φ e->(∀ o,e.get? a=some o->g.get? a=some o)->φ g
def qz (H:Hp) (h:bD):Prop:=∀ a o,H a=some o->dI P w H h a o
end
section
variable {P:a_}{w:bz}{H H':Hp}{h h':bD}{a:ao}{o:HO}
def dI.lt (x:dI P w H h a o):a<h.objs.size:=by
 cases o with
 |lst xs=>obtain ⟨_,_,_,_,e⟩:=x;exact av e
 |tup xs=>obtain ⟨_,_,_,p⟩:=x;exact p.lt
 |dK kvs=>obtain ⟨_,_,_,_,o,_,_,e,_⟩:=x;exact av e
 |dT kvs=>obtain ⟨_,_,_,_,o,_,_,e,_⟩:=x;exact av e
 |set S n=>obtain ⟨o,_,_,_,e,_⟩:=x;exact av e
 |ins C b fs=>obtain ⟨_,_,_,e,_⟩:=x;exact av e
 |own y=>obtain ⟨_,e⟩:=x;exact av e
 |xd fs=>obtain ⟨_,⟨_,_,_,e,_⟩,_⟩:=x;exact av e
 |rng lo d=>obtain ⟨_,_,_,e⟩:=x;exact av e
 |frz ob u=>obtain ⟨e,_⟩:=x;exact av e
 |tbl c=>exact av (show h.get? a=some _ from x)
 |met f y=>exact av (show h.get? a=some _ from x)
 |ext φ=>obtain ⟨_,⟨_,e⟩,_⟩:=x;exact av e
def Paired.mapP {e g:Type}{F G:e->g->Prop}{c:List e}{d:List g} (h:Gv F c d) (f:∀ a b,F a b->G a b):Gv G c d:=by
 induction h with
 |nil=>exact .nil
 |cons r t i=>exact .cons (f _ _ r) i
def dI.stay (x:dI P w H h a o) (k:∀ b u,(b=a\/H b=some (.own a))->h.get? b=some u->h'.get? b=some u)
  (ho:∀ b,H b=some (.own a)->H' b=some (.own a)) (s:∀ b xs,H b=some (.tup xs)->H' b=some (.tup xs)):dI P w H' h' a o:=by
 induction o with
 |lst xs=>obtain ⟨z,g,n,r,e⟩:=x;exact ⟨z,g,n,r,k _ _ (.inl rfl) e⟩
 |tup xs=>obtain ⟨z,g,r,ob,e,c⟩:=x;exact ⟨z,g,r,ob,k _ _ (.inl rfl) e,c⟩
 |dK kvs=>obtain ⟨z,y,B,r,ob,es,ep,e,c⟩:=x;exact ⟨z,y,B,r,ob,es,ep,k _ _ (.inl rfl) e,c⟩
 |dT kvs =>
  obtain ⟨z,y,xs,r,ob,es,ep,e,c⟩:=x
  exact ⟨z,y,xs,Paired.mapP r λp q z=>⟨z.1,s _ _ z.2.1,z.2.2⟩,ob,es,ep,k _ _ (.inl rfl) e,c⟩
 |set S n=>obtain ⟨ob,es,ep,t,e,c⟩:=x;exact ⟨ob,es,ep,t,k _ _ (.inl rfl) e,c⟩
 |ins C G fs =>
  obtain ⟨d,z,ne,e,i,⟨j,es,ep,A,c⟩,r⟩:=x
  exact ⟨ho _ d,z,ne,k _ _ (.inl rfl) e,i,⟨j,es,ep,k _ _ (.inr d) A,c⟩,r⟩
 |own y=>obtain ⟨ob,e⟩:=x;exact ⟨ob,k _ _ (.inl rfl) e⟩
 |xd fs=>obtain ⟨i,⟨j,es,ep,e,c⟩,r⟩:=x;exact ⟨i,⟨j,es,ep,k _ _ (.inl rfl) e,c⟩,r⟩
 |rng lo E=>obtain ⟨t,u,v,e⟩:=x;exact ⟨t,u,v,k _ _ (.inl rfl) e⟩
 |frz ob u m=>obtain ⟨e,q⟩:=x;exact ⟨k _ _ (.inl rfl) e,m q⟩
 |tbl l =>
  have e:h.get? a=some { cls:=.none,data:=.fields l }:=x
  show h'.get? a=some { cls:=.none,data:=.fields l }
  exact k a _ (.inl rfl) e
 |met f y =>
  have e:h.get? a=some (uU (.ref f) (.ref y)):=x
  show h'.get? a=some (uU (.ref f) (.ref y))
  exact k a _ (.inl rfl) e
 |ext φ=>obtain ⟨p,⟨o,e⟩,st⟩:=x;exact ⟨st _ _ p λo q=>k _ _ (.inl rfl) q,⟨o,k _ _ (.inl rfl) e⟩,st⟩
def qz.lt (x:qz P w H h) (e:H a=some o):a<h.objs.size:=(x a o e).lt
def qz.fresh (x:qz P w H h) (e:h.objs.size<=a):H a=none:=by
 cases q:H a with
 |none=>rfl
 |some u=>exact absurd (aK (x.lt q) e) (bf _)
def qz.kept (x:qz P w H h) (k:∀ b u,h.get? b=some u->h'.get? b=some u):qz P w H h':=λa o e =>
 (x a o e).stay (λb u _ q=>k b u q) (λ_ q=>q) λ_ _ q=>q
def qz.laid (x:qz P w H h) (k:∀ b u,h.get? b=some u->h'.get? b=some u) (g:h.objs.size<=a) (new:dI P w (upd H a o) h' a o):qz P w (upd H a o) h':=λb u e=>by
 have d:=x.fresh g
 by_cases f:b=a
 ·subst f;rw [bi] at e;cases e;exact new
 ·rw [bj f] at e
  exact (x b u e).stay (λc v _ q=>k c v q) (λc q=>by rw [bj (c6 q d)];exact q) λc xs q=>by rw [bj (c6 q d)];exact q
end
def Rd (H:Hp) (a:ao) (u:HO):Prop:=H a=some u\/∃ o,H a=some (.frz o u)
def Rd.of {H:Hp}{a:ao}{u:HO} (h:H a=some u):Rd H a u:=.inl h
def Rd.ok {P:a_}{w:bz}{H:Hp}{h:bD}{a:ao}{u:HO} (r:Rd H a u) (x:qz P w H h):dI P w H h a u:=by
 rcases r with r|⟨o,r⟩
 ·exact x a u r
 ·obtain ⟨_,q⟩:=x a _ r
  exact q
def Wl:Option HO->Prop
 |some (.lst _)=>True
 |some (.dK _)=>True
 |some (.dT _)=>True
 |some (.set _ _)=>True
 |some (.ins _ _ _)=>True
 |some (.ext _)=>True
 |_=>False
section
variable {P:a_}{w:bz}{H:Hp}{h h':bD}{x e:ao}{o':HO}
def qz.write (ok:qz P w H h) (j:Wl (H x)) (he:e=x\/H e=some (.own x)) (k:∀ b u,b≠e->h.get? b=some u->h'.get? b=some u) (l:∃ u,h'.get? e=some u)
  (new:dI P w (upd H x o') h' x o'):qz P w (upd H x o') h':=λb u q=>by
 have d:∀ c y,H c=some (.own y)->c≠x:=λc y r z=>by subst z;rw [r] at j;exact j
 have f:∀ c xs,H c=some (.tup xs)->c≠x:=λc xs r z=>by subst z;rw [r] at j;exact j
 by_cases i:b=x
 ·subst i;rw [bi] at q;cases q;exact new
 ·rw [bj i] at q
  by_cases a:b=e
  ·have q':H b=some (.own x):=by
    rcases he with z|z
    ·exact absurd (a.trans z) i
    ·rw [a];exact z
   rw [q] at q';cases q'
   obtain ⟨v,m⟩:=l
   exact ⟨v,by rw [a];exact m⟩
  ·refine (ok b u q).stay (λc v g r=>k c v ?_ r) (λc r=>by rw [bj (d c b r)];exact r) λc xs r=>by rw [bj (f c xs r)];exact r
   rcases g with rfl|g
   ·exact a
   ·rintro rfl
    rcases he with z|z
    ·exact d c b g z
    ·rw [g] at z;cases z;exact i rfl
end
structure Un (fs ex:List ao) (H H':Hp) (h h':bD):Prop where
 keep:∀ b o,h.get? b=some o->H b=none->b∉fs->b∉ex->h'.get? b=some o
 slot:∀ b o,h.get? b=some o->H b=none->b∈fs->b∉ex->∃ sl,h'.get? b=some { o with slots:=sl }
 free:∀ b o,h.get? b=some o->H b=none->b∉ex->H' b=none
 there:∀ b o,h.get? b=some o->b∉ex->∃ o',h'.get? b=some o'
 tups:∀ b xs,H b=some (.tup xs)->H' b=some (.tup xs)
 frzs:∀ b o u,H b=some (.frz o u)->H' b=some (.frz o u)
 tbls:∀ b ps,H b=some (.tbl ps)->∃ more,H' b=some (.tbl (ps++more))
section
variable {fs fs' ex ex':List ao}{H H1 H2:Hp}{h h1 h2 h':bD}{a x e:ao}{o:HO}
def Un.any (u:Un fs ex H H1 h h1) {b:ao}{ob:Obj} (q:h.get? b=some ob) (n:H b=none) (c:b∉ex):∃ f,h1.get? b=some { ob with slots:=f }:=by
 by_cases d:b∈fs
 ·exact u.slot b ob q n d c
 ·exact ⟨ob.slots,u.keep b ob q n d c⟩
def Un.kept (k:∀ b u,h.get? b=some u->h'.get? b=some u):Un fs ex H H h h' :=
 ⟨λb ob q _ _ _=>k b ob q,λb ob q _ _ _=>⟨ob.slots,k b ob q⟩,λ_ _ _ n _=>n,λb ob q _=>⟨ob,k b ob q⟩,λ_ _ q=>q,λ_ _ _ q=>q,λ_ c q=>⟨#[],by rw [q];simp⟩⟩
def Un.refl:Un fs ex H H h h:=Un.kept λ_ _ q=>q
def Un.laid (k:∀ b u,h.get? b=some u->h'.get? b=some u) (d:h.objs.size<=a) (c:H a=none):Un fs ex H (upd H a o) h h' where
 keep:=λb u q _ _ _=>k b u q
 slot:=λb u q _ _ _=>⟨u.slots,k b u q⟩
 free:=λb u q n _=>by rw [bj (aB (aK (av q) d))];exact n
 there:=λb u q _=>⟨u,k b u q⟩
 tups:=λb xs q=>by rw [bj (c6 q c)];exact q
 frzs:=λb u xs q=>by rw [bj (c6 q c)];exact q
 tbls:=λb f q=>⟨#[],by rw [bj (c6 q c),q];simp⟩
def Un.write (d:Wl (H x)) (he:e=x\/H e=some (.own x)) (k:∀ b u,b≠e->h.get? b=some u->h'.get? b=some u) (g:∃ u,h'.get? e=some u):Un fs ex H (upd H x o) h h':=by
 have i:∀ b,H b=none->b≠x:=λb n z=>by subst z;rw [n] at d;exact d
 have j:∀ b,H b=none->b≠e:=λb n z=>by
  subst z
  rcases he with r|r
  ·exact i b n r
  ·rw [n] at r;cases r
 have f:∀ b u,H b=some u->¬ Wl (some u)->b≠x:=λb u q l z=>by subst z;rw [q] at d;exact l d
 refine ⟨λb u q n _ _=>k b u (j b n) q,λb u q n _ _=>⟨u.slots,k b u (j b n) q⟩,λb u q n _=>by rw [bj (i b n)];exact n,λb u q _=>?_,
  λb xs q=>by rw [bj (f b _ q λz=>z)];exact q,λb u xs q=>by rw [bj (f b _ q λz=>z)];exact q,λb m q=>⟨#[],by rw [bj (f b _ q λz=>z),q];simp⟩⟩
 by_cases c:b=e
 ·subst c;exact g
 ·exact ⟨u,k b u c q⟩
end
def Ym (h:bD) (H:Hp):List ao:=(bM h.objs.size).filter λa=>(H a).isSome
def Cu (h:bD) (H:Hp):bD:=PySem.W.hideAll h (Ym h H)
def Kx (h:bD) (H:Hp):(Cu h H).objs.size=h.objs.size:=PySem.W.hideAll_size _ _
def MK {h:bD}{H:Hp}{b:ao}{o:Obj} (e:h.get? b=some o) (n:H b=none):(Cu h H).get? b=some o :=
 PySem.W.hideAll_get _ e λa=>by
  have q:(H b).isSome=true:=(List.mem_filter.mp a).2
  rw [n] at q;simp at q
def QS {h:bD}{H:Hp}{b:ao}{o:Obj} (e:(Cu h H).get? b=some o):h.get? b=some o/\H b=none:=by
 have a:h.get? b=some o:=PySem.W.of_hideAll (Ym h H) e
 refine ⟨a,?_⟩
 cases q:H b with
 |none=>rfl
 |some x =>
  have c:b∈Ym h H:=List.mem_filter.mpr ⟨List.mem_range.mpr (av a),by simp [q]⟩
  have z:(Cu h H).get? b=none:=PySem.W.hideAll_none (Ym h H) c
  rw [z] at e;cases e
def QT (g h:bD) (L:ao):List (ao×Obj):=(bM h.objs.size).filterMap λa=>if a=L\/(g.get? a).isSome=true then none else (h.get? a).map λo=>(a,o)
def bS (g h:bD) (L d:ao):List (ao×Obj):=(QT g h L).filter λp=>decide (p.1≠d)
end L2
namespace L2
open PySem PySem.Spec PyProof.Rows
structure Mod (K:aa) (mg:Str->Option af) (base:bD):Prop where
 kin:K.In base
 glob:base.Ns cf mg
 blt:∃ mb,base.Ns builtinsNs mb/\∀ x:Str,x≠"__name__"->mb x=iU x
 nolimit:base.NoLimit
structure Cx where
 prog:a_
 w:bz
 K:aa
 mg:Str->Option af
 base:bD
 A:bB
 N:List Str
 s₀:ai
 H₀:Hp
 env:Env
 outer:List Env
 stack:List Env
 ex:List ao
 fn:Str->Bool
 calm:Bool
 pn:List (ao×Obj)
 xe:af->ai->Prop
def wj (l:List Env):List ao:=l.filterMap (·.frame)
abbrev Cx.fs (X:Cx):List ao:=wj X.outer
def Mk (a:eX) (x:Str):Prop:=a.names.lookup x=some .local\/a.names.lookup x=some .cell\/a.names.lookup x=some .free
def Qo (a:eX) (x:Str):Prop:=a.names.lookup x=some .local\/a.names.lookup x=some .cell
def YF (env:Env) (h:bD) (m:Str->Option af) (x:Str) (u:af):Prop :=
 (env.kindOf x=some .local/\m x=some u)\/((env.kindOf x=some .cell\/env.kindOf x=some .free)/\∃ c,env.cells.lookup x=some c/\h.IsCell c (some u))
structure Cx.Ok (X:Cx):Prop where
 mod:Mod X.K X.mg X.base
 kind:X.env.scope.kind=.function
 glob:X.env.globals=cf
 blt:X.env.builtins=builtinsNs
 above:X.s₀.heap.objs.size<=X.env.locals
 inj:∀ x y c,X.env.cells.lookup x=some c->X.env.cells.lookup y=some c->x=y
 has:∀ x,(X.env.kindOf x=some .cell\/X.env.kindOf x=some .free)->∃ c,X.env.cells.lookup x=some c
 cab:∀ x c,X.fn x=true->X.env.cells.lookup x=some c->X.s₀.heap.objs.size<=c
 hd:X.calm=true->X.A.handled=none
 frames:X.A.frames=some X.stack
 stk:X.stack=X.outer\/(X.stack=X.env::X.outer/\X.env.frame=some X.env.locals)
 exf:∀ b∈X.ex,b≠X.env.locals/\∀ x c,X.env.cells.lookup x=some c->c≠b
 bs:∀ b o,X.base.get? b=some o->X.s₀.heap.get? b=some o/\X.H₀ b=none
 bsz:X.base.objs.size<=X.s₀.heap.objs.size
 noex:∀ b o,X.base.get? b=some o->b∉X.ex
 exfs:∀ b∈X.ex,b∉X.fs
 funs:X.s₀.heap.FunFrames X.base X.outer
 frf:∀ b∈X.fs,X.H₀ b=none
structure bL (X:Cx) (pins:List (ao×Obj)) (σ:List (Option V)) (H:Hp) (s:ai):Prop where
 ok:X.Ok
 os:s.os=X.s₀.os
 bare:qB s.gens
 base:Un X.fs X.ex X.H₀ H X.s₀.heap s.heap
 loc:∃ m,s.heap.Ns X.env.locals m/\∀ (i:Nat) (x:Str) (v:V),X.N[i]?=some x->σ[i]?=some (some v)->Mk X.env.scope x->∃ u,dR v u/\YF X.env s.heap m x u
 cell:∀ x c,X.env.cells.lookup x=some c->∃ v,s.heap.IsCell c v
 free:H X.env.locals=none
 freeC:∀ x c,X.env.cells.lookup x=some c->H c=none
 pin:∀ p∈X.pn++pins,s.heap.get? p.1=some p.2/\H p.1=none/\p.1≠X.env.locals/\p.1∉X.fs/\∀ v,p.2.data≠.cell v
 hok:qz X.prog X.w H s.heap
 len:σ.length=X.N.length
section
variable {X:Cx}{pins:List (ao×Obj)}{σ:List (Option V)}{H H':Hp}{s:ai}{h':bD}
def Cx.Ok.nofr (ok:X.Ok) {b:ao}{o:Obj} (e:X.base.get? b=some o):b∉X.fs:=λa=>by
 have:=(ok.funs.mem a).1
 rw [e] at this;cases this
def bL.bs (I:bL X pins σ H s):∀ b o,X.base.get? b=some o->s.heap.get? b=some o/\H b=none:=λb o e =>
 ⟨I.base.keep b o (I.ok.bs b o e).1 (I.ok.bs b o e).2 (I.ok.nofr e) (I.ok.noex b o e),I.base.free b o (I.ok.bs b o e).1 (I.ok.bs b o e).2 (I.ok.noex b o e)⟩
def bL.bk (I:bL X pins σ H s):∀ b o,X.base.get? b=some o->s.heap.get? b=some o:=λb o e=>(I.bs b o e).1
def bL.mod (I:bL X pins σ H s):Mod X.K X.mg X.base:=I.ok.mod
def bL.kIn (I:bL X pins σ H s):X.K.In s.heap:=I.ok.mod.kin.keeps I.bk
def bL.fr (I:bL X pins σ H s):∃ m,Fr X.base X.env.locals s.heap m :=
 let ⟨m,hn,_⟩:=I.loc
 ⟨m,hn,I.bk,cn I.ok.bsz I.ok.above⟩
def bL.lt (I:bL X pins σ H s):X.env.locals<s.heap.objs.size:=let ⟨_,hn,_⟩:=I.loc;hn.lt
def bL.sz (I:bL X pins σ H s):X.s₀.heap.objs.size<=s.heap.objs.size:=cn I.ok.above (cw I.lt)
def bL.nofs (I:bL X pins σ H s) {a:ao} (h:s.heap.objs.size<=a):a∉X.fs:=λb=>by
 obtain ⟨_,o,ho,_⟩:=I.ok.funs.mem b
 exact absurd (aK (av ho) (cn I.sz h)) (bf _)
def bL.cne (I:bL X pins σ H s):∀ x c,X.env.cells.lookup x=some c->c≠X.env.locals:=λx c e z=>by
 obtain ⟨v,o,ho,d⟩:=I.cell x c e
 obtain ⟨m,⟨f,es,ep,b,a,_⟩,_⟩:=I.loc
 rw [z,b] at ho;cases ho;rw [a] at d;cases d
def bL.funs (I:bL X pins σ H s):s.heap.FunFrames X.base X.outer:=by
 have all:∀ (l:List Env),(∀ b∈wj l,b∈X.fs)->X.s₀.heap.FunFrames X.base l->s.heap.FunFrames X.base l:=by
  intro l
  induction l with
  |nil=>intro _ _;trivial
  |cons env r f =>
   intro hs g
   obtain ⟨k,⟨L,o,a,i,ho,j⟩,h⟩:=g
   have d:L∈X.fs:=hs L (by unfold wj;rw [mj,a];exact ak)
   obtain ⟨m,e⟩:=I.base.slot L o ho (I.ok.frf L d) d λz=>I.ok.exfs L z d
   exact ⟨k,⟨L,_,a,i,e,j⟩,f (λb c=>hs b (by unfold wj;rw [mj,a];exact ag _ c)) h⟩
 exact all X.outer (λ_ c=>c) I.ok.funs
def bL.stack (I:bL X pins σ H s):s.heap.FunFrames X.base X.stack:=by
 rcases I.ok.stk with e|⟨e,hf⟩
 ·rw [e];exact I.funs
 ·rw [e]
  obtain ⟨m,a,_⟩:=I.loc
  refine .cons (by rw [I.ok.kind];decide) hf a ?_ I.funs
  exact Heap.get?_none_of_le (cn I.ok.bsz I.ok.above)
def bL.stkSub (I:bL X pins σ H s):∀ b∈wj X.stack,b∈X.env.locals::X.fs:=λb a=>by
 rcases I.ok.stk with e|⟨e,hf⟩
 ·rw [e] at a;exact ag _ a
 ·rw [e] at a
  unfold wj at a
  rw [mj,hf] at a
  exact a
def bL.stkFree (I:bL X pins σ H s):∀ b∈wj X.stack,H b=none:=λb hb=>by
 rcases List.mem_cons.mp (I.stkSub b hb) with e|hb
 ·rw [e];exact I.free
 ·obtain ⟨_,o,ho,_⟩:=I.ok.funs.mem hb
  exact I.base.free b o ho (I.ok.frf b hb) λz=>I.ok.exfs b z hb
def bL.step {g':Array Gx}{t':Nat}{d':M3}{ch:List ao} (I:bL X pins σ H s)
  (f:∀ b∈ch,(b∈X.ex\/X.s₀.heap.objs.size<=b)/\b≠X.env.locals/\(∀ x c,X.env.cells.lookup x=some c->c≠b)/\∀ p∈X.pn++pins,p.1≠b)
  (keep:∀ b o,b≠X.env.locals->b∉X.fs->b∉ch->s.heap.get? b=some o->H b=none->h'.get? b=some o)
  (y:∀ b o,b≠X.env.locals->b∈X.fs->b∉ch->s.heap.get? b=some o->H b=none->∃ T,h'.get? b=some { o with slots:=T }) (free:∀ b o,b∉ch->s.heap.get? b=some o->H b=none->H' b=none)
  (there:∀ b o,b∉ch->s.heap.get? b=some o->∃ L,h'.get? b=some L)
  (E:∀ b xs,H b=some (.tup xs)->H' b=some (.tup xs)) (B:∀ b o u,H b=some (.frz o u)->H' b=some (.frz o u)) (G:∀ b N,H b=some (.tbl N)->∃ more,H' b=some (.tbl (N++more)))
  (ns:∀ m,s.heap.Ns X.env.locals m->h'.Ns X.env.locals m) (Q:qz X.prog X.w H' h') (hg:qB g') :
  bL X pins σ H' { s with heap:=h',gens:=g',drawn:=d',toks:=t' }:=by
 have K:∀ b o,X.s₀.heap.get? b=some o->b≠X.env.locals:=λb o e=>aB (aK (av e) I.ok.above)
 have t:∀ b o,X.s₀.heap.get? b=some o->b∉X.ex->b∉ch:=λb o e a A=>by
  rcases (f b A).1 with z|z
  ·exact a z
  ·exact absurd (aK (av e) z) (bf _)
 have g:∀ x c,X.env.cells.lookup x=some c->∀ v,s.heap.IsCell c v->h'.IsCell c v:=λx c e v O=>by
  obtain ⟨o,ho,S⟩:=O
  have h:c∉ch:=λz=>(f c z).2.2.1 x c e rfl
  by_cases U:c∈X.fs
  ·obtain ⟨T,q⟩:=y c o (I.cne x c e) U h ho (I.freeC x c e)
   exact ⟨_,q,S⟩
  ·exact ⟨o,keep c o (I.cne x c e) U h ho (I.freeC x c e),S⟩
 refine ⟨I.ok,I.os,hg,⟨λb o e n A a=>?_,λb o e n A a=>?_,λb o e n a=>?_,λb o e a=>?_,λb xs e=>E b xs (I.base.tups b xs e),λb o xs e=>B b o xs (I.base.frzs b o xs e),λb N e=>?_⟩,?_,λx c e=>?_,?_,λx c e=>?_,λp Y=>?_,Q,I.len⟩
 ·exact keep b o (K b o e) A (t b o e a) (I.base.keep b o e n A a) (I.base.free b o e n a)
 ·obtain ⟨T,j⟩:=I.base.slot b o e n A a
  obtain ⟨P,M⟩:=y b _ (K b o e) A (t b o e a) j (I.base.free b o e n a)
  exact ⟨P,M⟩
 ·obtain ⟨L,j⟩:=I.base.there b o e a
  exact free b L (t b o e a) j (I.base.free b o e n a)
 ·obtain ⟨L,j⟩:=I.base.there b o e a
  exact there b L (t b o e a) j
 ·obtain ⟨m1,j⟩:=I.base.tbls b N e
  obtain ⟨m2,M⟩:=G b _ j
  exact ⟨m1++m2,by rw [M,Ka]⟩
 ·obtain ⟨m,hn,hl⟩:=I.loc
  refine ⟨m,ns m hn,λi x v j M e3=>?_⟩
  obtain ⟨u,r,l⟩:=hl i x v j M e3
  refine ⟨u,r,?_⟩
  rcases l with l|⟨k,c,e,z⟩
  ·exact .inl l
  ·exact .inr ⟨k,c,e,g x c e _ z⟩
 ·obtain ⟨v,z⟩:=I.cell x c e
  exact ⟨v,g x c e v z⟩
 ·obtain ⟨m,⟨o,_,_,ho,_⟩,_⟩:=I.loc
  exact free _ o (λz=>(f _ z).2.1 rfl) ho I.free
 ·obtain ⟨v,o,ho,S⟩:=I.cell x c e
  exact free c o (λz=>(f c z).2.2.1 x c e rfl) ho (I.freeC x c e)
 ·obtain ⟨e,n,ne,nf,d⟩:=I.pin p Y
  have h:p.1∉ch:=λz=>(f p.1 z).2.2.2 p Y rfl
  exact ⟨keep p.1 p.2 ne nf h e n,free p.1 p.2 h e n,ne,nf,d⟩
def bL.un {t':Nat} (I:bL X pins σ H s) (u:Un X.fs [] H H' s.heap h') (f:qz X.prog X.w H' h'):bL X pins σ H' { s with heap:=h',toks:=t' }:=by
 obtain ⟨m,⟨o,es,ep,ho,r⟩,_⟩:=id I.loc
 obtain ⟨l,i⟩:=u.any ho I.free (by simp)
 exact I.step (g':=s.gens) (d':=s.drawn) (ch:=[]) (λ_ z=>nomatch z) (λb o _ c _ e n=>u.keep b o e n c (by simp)) (λb o _ c _ e n=>u.slot b o e n c (by simp)) (λb o _ e n=>u.free b o e n (by simp)) (λb o _ e=>u.there b o e (by simp)) u.tups u.frzs u.tbls (λj g=>by
  obtain ⟨k,es',d,a,h⟩:=g
  rw [ho] at a;cases a
  exact ⟨_,es',d,i,h⟩) f I.bare
def bL.call {g':Array Gx}{t':Nat}{d':M3}{ch:List ao} (I:bL X pins σ H s) (u:Un (wj X.stack) ch H H' s.heap h') (h:qz X.prog X.w H' h') (q:qB g')
  (d:∀ b∈ch,(b∈X.ex\/X.s₀.heap.objs.size<=b)/\b≠X.env.locals/\(∀ x c,X.env.cells.lookup x=some c->c≠b)/\∀ p∈X.pn++pins,p.1≠b) :
  bL X pins σ H' { s with heap:=h',gens:=g',drawn:=d',toks:=t' }:=by
 obtain ⟨m,⟨o,es,ep,ho,r⟩,_⟩:=id I.loc
 obtain ⟨y,i⟩:=u.any ho I.free λz=>(d _ z).2.1 rfl
 exact I.step (ch:=ch) d (λb o i j a e n=>u.keep b o e n (λz=>(List.mem_cons.mp (I.stkSub b z)).elim i j) a) (λb o _ _ a e n=>u.any e n a) (λb o a e n=>u.free b o e n a) (λb o a e=>u.there b o e a) u.tups u.frzs u.tbls (λt k=>by
  obtain ⟨v,es',g,f,l⟩:=k
  rw [ho] at f;cases f
  exact ⟨_,es',g,i,l⟩) h q
def bL.turned {t':Nat}{it:ao} (I:bL X pins σ H s) (k:∀ b o,b≠it->s.heap.get? b=some o->h'.get? b=some o) (l:H it=none) (f:it≠X.env.locals)
  (g:it∈X.ex\/X.s₀.heap.objs.size<=it) (t:∀ x c,X.env.cells.lookup x=some c->c≠it) (h:∀ p∈X.pn++pins,p.1≠it):bL X pins σ H { s with heap:=h',toks:=t' }:=by
 have d:∀ b u,H b=some u->b≠it:=λb u e z=>by rw [z,l] at e;cases e
 refine I.step (g':=s.gens) (d':=s.drawn) (ch:=[it]) (λb i=>?_) (λb o _ _ a e _=>k b o (λz=>a (by simp [z])) e) (λb o _ _ a e _=>⟨o.slots,k b o (λz=>a (by simp [z])) e⟩) (λ_ _ _ _ n=>n)
  (λb o a e=>⟨o,k b o (λz=>a (by simp [z])) e⟩) (λ_ _ e=>e) (λ_ _ _ e=>e) (λb w e=>⟨#[],by rw [e];simp⟩) (λm j=>?_) (λb u e=>?_) I.bare
 ·have e:b=it:=by simpa using i
  subst e
  exact ⟨g,f,t,h⟩
 ·obtain ⟨o,es,ep,ho,r⟩:=j
  exact ⟨o,es,ep,k _ o (cF f) ho,r⟩
 ·refine (I.hok b u e).stay (λc v a q=>k c v ?_ q) (λ_ q=>q) λ_ _ q=>q
  rcases a with z|z
  ·rw [z];exact d b u e
  ·exact d c _ z
def bL.tok (I:bL X pins σ H s) (t:Nat):bL X pins σ H { s with toks:=t }:=I.un (h':=s.heap) (t':=t) Un.refl I.hok
def bL.kept {t':Nat} (I:bL X pins σ H s) (k:∀ b u,s.heap.get? b=some u->h'.get? b=some u):bL X pins σ H { s with heap:=h',toks:=t' }:=I.un (Un.kept k) (I.hok.kept k)
def bL.laid {a:ao}{o:HO}{t':Nat} (I:bL X pins σ H s) (k:∀ b u,s.heap.get? b=some u->h'.get? b=some u) (c:s.heap.objs.size<=a) (new:dI X.prog X.w (upd H a o) h' a o) :
  bL X pins σ (upd H a o) { s with heap:=h',toks:=t' }:=I.un (Un.laid k c (I.hok.fresh c)) (I.hok.laid k c new)
def bL.write {x e:ao}{o:HO}{t':Nat} (I:bL X pins σ H s) (c:Wl (H x)) (he:e=x\/H e=some (.own x)) (k:∀ b u,b≠e->s.heap.get? b=some u->h'.get? b=some u) (a:∃ u,h'.get? e=some u)
  (new:dI X.prog X.w (upd H x o) h' x o):bL X pins σ (upd H x o) { s with heap:=h',toks:=t' }:=I.un (Un.write c he k a) (I.hok.write c he k a new)
def bL.weak {σ':List (Option V)} (I:bL X pins σ H s) (b:σ'.length=σ.length) (w:∀ (i:Nat) v,σ'[i]?=some (some v)->σ[i]?=some (some v)):bL X pins σ' H s :=
 ⟨I.ok,I.os,I.bare,I.base,let ⟨m,hn,hl'⟩:=I.loc;⟨m,hn,λi x v a c d=>hl' i x v a (w i v c) d⟩,I.cell,I.free,I.freeC,I.pin,I.hok,b.trans I.len⟩
def bL.pins_of {a:List (ao×Obj)} (I:bL X pins σ H s) (h:∀ p∈a,s.heap.get? p.1=some p.2/\H p.1=none/\p.1≠X.env.locals/\p.1∉X.fs/\∀ v,p.2.data≠.cell v):bL X a σ H s :=
 ⟨I.ok,I.os,I.bare,I.base,I.loc,I.cell,I.free,I.freeC,λp b=>(List.mem_append.mp b).elim (λz=>I.pin p (aN _ z)) (h p),I.hok,I.len⟩
def Eg {N:List Str} (c:N.Nodup) {i j:Nat}{x:Str} (a:N[i]?=some x) (b:N[j]?=some x):i=j:=by
 obtain ⟨f,d⟩:=List.getElem?_eq_some_iff.mp a
 obtain ⟨g,e⟩:=List.getElem?_eq_some_iff.mp b
 exact (Qb c).mp (d.trans e.symm)
def wu {M:M4}{A:bB}{E:af->ai->Prop}{i:Nat}{x:Str}{v:V}{u:af}{Q:Unit->ai->Prop} (I:bL X pins σ H s) (hN:X.N.Nodup) (U:X.N[i]?=some x) (t:Qo X.env.scope x) (r:dR v u)
  (h:∀ s',bL X pins (σ.set i (some v)) H s'->(∃ a,bC a s.heap s'.heap/\(a=X.env.locals\/X.env.cells.lookup x=some a))->Q () s') (hf:X.fn x=true\/X.env.scope.names.lookup x=some .local:=by first|exact .inl rfl|exact .inr rfl|assumption):au M A (storeName X.env x u) Q E s:=by
 obtain ⟨m,hn,hl⟩:=id I.loc
 have S:(X.env.scope.kind == .class||(X.env.scope.kind == .module&&X.env.locals != X.env.globals))=false:=by rw [I.ok.kind];rfl
 have K:i<σ.length:=by rw [I.len];exact (List.getElem?_eq_some_iff.mp U).1
 have cne:=I.cne
 have g:∀ {a:ao}{h':bD},(∃ o,s.heap.get? a=some o/\H a=none)->bC a s.heap h'->qz X.prog X.w H h':=λ{a h'} ha hs b ob e=>by
  obtain ⟨_,_,B⟩:=ha
  refine (I.hok b ob e).stay (λc w' l q=>(hs.2 c ?_).trans q) (λ_ q=>q) λ_ _ q=>q
  rintro rfl
  rcases l with rfl|l
  ·rw [B] at e;cases e
  ·rw [B] at l;cases l
 rcases t with hk|hk
 ·refine wpAny_storeName_local hk hn (λh' a3 hs=>?_) S
  obtain ⟨oL,_,_,a2,_⟩:=id hn
  refine h _ ⟨I.ok,I.os,I.bare,⟨λb o e n O t=>?_,λb o e n O t=>?_,I.base.free,λb o e t=>?_,I.base.tups,I.base.frzs,I.base.tbls⟩,⟨_,a3,λj y v' f G e3=>?_⟩,λy c e=>?_,I.free,I.freeC,λp hp=>?_,g ⟨oL,a2,I.free⟩ hs,by simpa using I.len⟩ ⟨_,hs,.inl rfl⟩
  ·exact (hs.2 b (aB (aK (av e) I.ok.above))).trans (I.base.keep b o e n O t)
  ·obtain ⟨sl,f⟩:=I.base.slot b o e n O t
   exact ⟨sl,(hs.2 b (aB (aK (av e) I.ok.above))).trans f⟩
  ·obtain ⟨o',f⟩:=I.base.there b o e t
   exact ⟨o',(hs.2 b (aB (aK (av e) I.ok.above))).trans f⟩
  ·by_cases P:j=i
   ·subst P
    rw [U] at f;cases f
    rw [aM K] at G
    cases G
    exact ⟨u,r,.inl ⟨hk,by simp⟩⟩
   ·rw [ar (cF P)] at G
    obtain ⟨u',r',q⟩:=hl j y v' f G e3
    refine ⟨u',r',?_⟩
    rcases q with ⟨k,e⟩|⟨k,c,e,z⟩
    ·refine .inl ⟨k,?_⟩
     have:y≠x:=λe=>P (Eg hN f (e ▸ U))
     simp [this,e]
    ·exact .inr ⟨k,c,e,z.sameBut hs (cne y c e)⟩
  ·obtain ⟨w',z⟩:=I.cell y c e
   exact ⟨w',z.sameBut hs (cne y c e)⟩
  ·obtain ⟨e,n,ne,nf,d⟩:=I.pin p hp
   exact ⟨(hs.2 p.1 ne).trans e,n,ne,nf,d⟩
 ·have L:X.fn x=true:=by
   rcases hf with z|z
   ·exact z
   ·rw [z] at hk;cases hk
  obtain ⟨c,l⟩:=I.ok.has x (.inl hk)
  obtain ⟨w',z⟩:=I.cell x c l
  refine wpAny_storeName_cell I.ok.kind hk l z (λh' a1 hs=>?_)
  obtain ⟨oc,a0,Y⟩:=id z
  refine h { s with heap:=h' } ⟨I.ok,I.os,I.bare,⟨λb o e n O t=>?_,λb o e n O t=>?_,I.base.free,λb o e t=>?_,I.base.tups,I.base.frzs,I.base.tbls⟩,⟨m,hn.sameBut hs (cF (cne x c l)),λj y v' f G e3=>?_⟩,λy c' e=>?_,I.free,I.freeC,λp hp=>?_,g ⟨oc,a0,I.freeC x c l⟩ hs,by simpa using I.len⟩ ⟨c,hs,.inr l⟩
  ·exact (hs.2 b (aB (aK (av e) (I.ok.cab x c L l)))).trans (I.base.keep b o e n O t)
  ·obtain ⟨sl,f⟩:=I.base.slot b o e n O t
   exact ⟨sl,(hs.2 b (aB (aK (av e) (I.ok.cab x c L l)))).trans f⟩
  ·obtain ⟨o',f⟩:=I.base.there b o e t
   exact ⟨o',(hs.2 b (aB (aK (av e) (I.ok.cab x c L l)))).trans f⟩
  ·by_cases P:j=i
   ·subst P
    rw [U] at f;cases f
    rw [aM K] at G
    cases G
    exact ⟨u,r,.inr ⟨.inl hk,c,l,a1⟩⟩
   ·rw [ar (cF P)] at G
    obtain ⟨u',r',q⟩:=hl j y v' f G e3
    refine ⟨u',r',?_⟩
    rcases q with q|⟨k,c',e,z'⟩
    ·exact .inl q
    ·refine .inr ⟨k,c',e,z'.sameBut hs ?_⟩
     rintro rfl
     exact P (Eg hN f (I.ok.inj _ _ _ e l ▸ U))
  ·by_cases T:c'=c
   ·subst T;exact ⟨_,a1⟩
   ·obtain ⟨w2,z2⟩:=I.cell y c' e
    exact ⟨w2,z2.sameBut hs T⟩
  ·obtain ⟨e,n,ne,nf,d⟩:=I.pin p hp
   refine ⟨(hs.2 p.1 ?_).trans e,n,ne,nf,d⟩
   intro q
   rw [q,a0] at e
   have q':oc=p.2:=bY e
   exact d w' (by rw [<- q'];exact Y)
def qQ {M:M4}{A:bB}{E:af->ai->Prop}{i:Nat}{x:Str}{v:V}{u:af}{Q:Unit->ai->Prop} (I:bL X pins σ H s) (a:X.N.Nodup) (d:X.N[i]?=some x) (c:Qo X.env.scope x) (r:dR v u)
  (h:∀ s',bL X pins (σ.set i (some v)) H s'->Q () s') (e:X.fn x=true\/X.env.scope.names.lookup x=some .local:=by first|exact .inl rfl|exact .inr rfl|assumption):au M A (storeName X.env x u) Q E s :=
 wu I a d c r (λs' b _=>h s' b) e
def bL.call' {s':ai}{ch:List ao} (I:bL X pins σ H s) (ho:s'.os=s.os) (u:Un (wj X.stack) ch H H' s.heap s'.heap) (d:qz X.prog X.w H' s'.heap) (g:qB s'.gens)
  (a:∀ b∈ch,(b∈X.ex\/X.s₀.heap.objs.size<=b)/\b≠X.env.locals/\(∀ x c,X.env.cells.lookup x=some c->c≠b)/\∀ p∈X.pn++pins,p.1≠b):bL X pins σ H' s':=by
 obtain ⟨h',g',d',t',f⟩:=s'
 have e:f=s.os:=ho
 subst e
 exact I.call (g':=g') (t':=t') (d':=d') u d g a
end
abbrev XK:=af->Option ao->Hp->Prop
abbrev St:=List (Option V)
abbrev VK:=V->Hp->Prop
abbrev TE:=St->Hp->VK->Prop
abbrev TT:=St->Hp->(Bool->Hp->Prop)->Prop
abbrev TA:=St->Hp->(List V->Hp->Prop)->Prop
structure Cv where
 nx:St->Hp->Prop
 rt:VK
 bk:St->Hp->Prop:=λ_ _=>False
 ct:St->Hp->Prop:=λ_ _=>False
abbrev TS:=Cv->St->Hp->Prop
inductive EP (X:Cx) (pins:List (ao×Obj)) (σ:St) (Q:VK) (u:af) (s':ai):Prop
 |mk (v H':_) (h0:bL X pins σ H' s') (h1:dR v u) (h2:Q v H'):EP X pins σ Q u s'
inductive TP (X:Cx) (pins:List (ao×Obj)) (σ:St) (Q:Bool->Hp->Prop) (b:Bool) (s':ai):Prop
 |mk (H':_) (h0:bL X pins σ H' s') (h1:Q b H'):TP X pins σ Q b s'
inductive AP (X:Cx) (pins:List (ao×Obj)) (σ:St) (Q:List V->Hp->Prop) (us:List af) (s':ai):Prop
 |mk (vs H':_) (h0:bL X pins σ H' s') (h1:dY vs us) (h2:Q vs H'):AP X pins σ Q us s'
inductive SN (X:Cx) (pins:List (ao×Obj)) (k:St->Hp->Prop) (s':ai):Prop
 |mk (σ':St) (H':Hp) (I:bL X pins σ' H' s') (q:k σ' H'):SN X pins k s'
inductive SV (X:Cx) (pins:List (ao×Obj)) (k:V->Hp->Prop) (u:af) (s':ai):Prop
 |mk (v:V) (σ':St) (H':Hp) (I:bL X pins σ' H' s') (r:dR v u) (q:k v H'):SV X pins k u s'
def SP (X:Cx) (pins:List (ao×Obj)) (D:Cv) (f:Flow) (s':ai):Prop :=
 match f with
 |.next=>SN X pins D.nx s'
 |.brk=>SN X pins D.bk s'
 |.cont=>SN X pins D.ct s'
 |.ret u=>SV X pins D.rt u s'
def PE (X:Cx) (e:bp) (t:TE):Prop :=
 ∀ (pins:List (ao×Obj)) (s:ai) (σ:St) (H:Hp) (Q:VK),bL X pins σ H s->t σ H Q->au (aA X.prog X.w) X.A (dn e X.env) (EP X pins σ Q) X.xe s
def PT (X:Cx) (e:bp) (t:TT):Prop :=
 ∀ (pins:List (ao×Obj)) (s:ai) (σ:St) (H:Hp) (Q:Bool->Hp->Prop),bL X pins σ H s->t σ H Q->au (aA X.prog X.w) X.A (ml e X.env (dn e X.env)) (TP X pins σ Q) X.xe s
def PW (X:Cx) (e:bp) (t:TT):Prop :=
 ∀ (a:Sem af) (pins:List (ao×Obj)) (s:ai) (σ:St) (H:Hp) (Q:Bool->Hp->Prop),bL X pins σ H s->t σ H Q->au (aA X.prog X.w) X.A (ml e X.env a) (TP X pins σ Q) X.xe s
def PW.pt {X:Cx}{e:bp}{t:TT} (h:PW X e t):PT X e t:=h _
def PA (X:Cx) (es:List bp) (t:TA):Prop :=
 ∀ (pos:Pos) (pins:List (ao×Obj)) (s:ai) (σ:St) (H:Hp) (Q:List V->Hp->Prop),bL X pins σ H s->t σ H Q->au (aA X.prog X.w) X.A (spliced (fX pos (aH es X.env))) (AP X pins σ Q) X.xe s
def PS (X:Cx) (st:dX) (t:TS):Prop :=
 ∀ (pins:List (ao×Obj)) (s:ai) (σ:St) (H:Hp) (D:Cv),bL X pins σ H s->t D σ H->au (aA X.prog X.w) X.A (exec st X.env) (SP X pins D) X.xe s
def IH (X:Cx) (st:List dX) (t:TS):Prop :=
 ∀ (pins:List (ao×Obj)) (s:ai) (σ:St) (H:Hp) (D:Cv),bL X pins σ H s->t D σ H->au (aA X.prog X.w) X.A (execs st X.env) (SP X pins D) X.xe s
def eK {c:Type}{t:Sem c}{Q b:c->ai->Prop}{M:M4}{A:bB}{E:af->ai->Prop}{s:ai} (h:au M A t Q E s) (d:∀ a s,Q a s->b a s):au M A t b E s:=aT h d λ_ _ x=>x
end L2
namespace L2
open PySem PySem.Spec PyProof.Rows
section
variable {X:Cx}
inductive SY (i:Nat) (σ:St) (H:Hp) (Q:VK):Prop
 |mk (v:_) (h0:σ[i]?=some (some v)) (h1:Q v H):SY i σ H Q
def Ur (i:Nat):TE:=SY i
def tC (v:V):TE:=λ_ H Q=>Q v H
def pi {i:Nat}{x:Str}{pos:Pos} (d:X.N[i]?=some x) (k:Mk X.env.scope x) (b:(x==("__debug__" : Str))=false:=by decide) (a:(x==("__classdict__" : Str))=false:=by decide):PE X (.Name x pos) (Ur i):=by
 intro pins s σ H Q I h
 obtain ⟨v,e,h⟩:=h
 obtain ⟨m,j,f⟩:=I.loc
 obtain ⟨u,r,l⟩:=f i x v d e k
 have fin:EP X pins σ Q u s:=⟨v,H,I,r,h⟩
 rcases l with ⟨hk,g⟩|⟨hk,c,hc,hcell⟩
 ·exact wpAny_Name (Qt I.ok.kind hk j g fin) b
 ·rcases hk with hk|hk
  ·exact wpAny_Name (wpAny_loadName_cell I.ok.kind hk hc hcell fin) b
  ·exact wpAny_Name (wpAny_loadName_free I.ok.kind hk hc hcell fin a) b
def Us {i j pos}:PE X (.Constant (.int i) j pos) (tC (.int i)):=λ_ _ _ H _ I h=>wpAny_Constant_int ⟨.int i,H,I.tok _,⟨_,rfl⟩,h⟩
def Wm {b j pos}:PE X (.Constant (.bool b) j pos) (tC (.bl b)):=λ_ _ _ H _ I h=>Constant_bool ⟨.bl b,H,I,rfl,h⟩
def Ut {j pos}:PE X (.Constant .none j pos) (tC .non):=λ_ _ _ H _ I h=>Constant_none ⟨.non,H,I,rfl,h⟩
def Uu {x j pos}:PE X (.Constant (.str x) j pos) (tC (.str x)):=λ_ _ _ H _ I h=>Calls.Constant_str ⟨.str x,H,I.tok _,⟨_,rfl⟩,h⟩
def Gl (X:Cx) (x:Str):Prop:=X.env.kindOf x=some .globalImplicit
def II {E:af->ai->Prop}{pins:List (ao×Obj)}{s:ai}{σ:St}{H:Hp}{x:Str}{u:af}{pos:Pos}{Q:af->ai->Prop} (I:bL X pins σ H s) (b:Gl X x) (a:X.mg x=some u) (h:Q u s)
  (c:(x==("__debug__" : Str))=false:=by decide):au (aA X.prog X.w) X.A (dn (.Name x pos) X.env) Q E s :=
 Ao I.ok.kind b (Calls.loadGlobal_global (by rw [I.ok.glob];exact I.mod.glob.keeps I.bk) a h) c
def qR {E:af->ai->Prop}{pins:List (ao×Obj)}{s:ai}{σ:St}{H:Hp}{x:Str}{u:af}{pos:Pos}{Q:af->ai->Prop} (I:bL X pins σ H s) (g:Gl X x) (b:X.mg x=none) (f:iU x=some u) (h:Q u s)
  (c:x≠"__name__":=by decide) (d:(x==("__debug__" : Str))=false:=by decide):au (aA X.prog X.w) X.A (dn (.Name x pos) X.env) Q E s:=by
 obtain ⟨i,a,e⟩:=I.mod.blt
 exact Ao I.ok.kind g (Calls.loadGlobal_builtin (by rw [I.ok.glob];exact I.mod.glob.keeps I.bk) b (by rw [I.ok.blt];exact a.keeps I.bk) ((e x c).trans f) h) d
def QU {x:Str}{v:V}{u:af}{pos:Pos} (b:Gl X x) (a:X.mg x=some u) (r:dR v u) (c:(x==("__debug__" : Str))=false:=by decide):PE X (.Name x pos) (tC v) :=
 λ_ _ _ H _ I h=>II I b a ⟨v,H,I,r,h⟩ c
def QV {x:Str}{v:V}{u:af}{pos:Pos} (d:Gl X x) (a:X.mg x=none) (c:iU x=some u) (r:dR v u) (b:x≠"__name__":=by decide) (e:(x==("__debug__" : Str))=false:=by decide):PE X (.Name x pos) (tC v) :=
 λ_ _ _ H _ I h=>qR I d a c ⟨v,H,I,r,h⟩ b e
variable {a b:bp}{ta tb:TE}{pos:Pos}
def PC (X:Cx) (op:M5) (a b:bp) (t:TE):Prop :=
 ∀ (pins:List (ao×Obj)) (s:ai) (σ:St) (H:Hp) (Q:VK),bL X pins σ H s->t σ H Q ->
  au (aA X.prog X.w) X.A (dn a X.env) (λv c=>au (aA X.prog X.w) X.A (dn b X.env) (λu d=>au (aA X.prog X.w) X.A (bI op v u) (EP X pins σ Q) X.xe d) X.xe c) X.xe s
def ML (b:bp) {op:M5} (h:op≠.In) (c:op≠.NotIn):ij op b=false:=by
 have e:(op==CmpOp.In)=false:=by cases op<;>first|rfl|exact absurd rfl h
 have d:(op==CmpOp.NotIn)=false:=by cases op<;>first|rfl|exact absurd rfl c
 cases b<;>simp [ij,e,d]
def tB (t:TE):TT:=λσ H Q=>t σ H λx d=>∃ c,x=.bl c/\Q c d
def YG {op:M5}{t:TE} (h:PC X op a b t) (e:ij op b=false:=by first|exact ML _ (by decide) (by decide)|rfl):PT X (.Compare a [op] [b] pos) (tB t):=by
 intro pins s σ H Q I i
 refine Qc (eK (h pins s σ H _ I i) λv m e=>eK e λu o k=>eK k λc n ⟨x,f,l,j,g⟩=>?_) e
 obtain ⟨d,rfl,q⟩:=g
 cases j
 exact de ⟨f,l,q⟩
def Uv {e:bp}{t:TE} (h:PE X e t) (he:∀ whole,ml e X.env whole=(do let v <- whole;ku e.pos;Ap [v] (truthy v)):=by intro _;rfl):PT X e (tB t):=by
 intro pins s σ H Q I hw
 refine isTrue_plain (eK (h pins s σ H _ I hw) λv s1 ⟨x,H1,I1,r1,q1⟩=>?_) (he _)
 obtain ⟨d,rfl,q⟩:=q1
 cases r1
 exact de ⟨H1,I1,q⟩
variable {tA tB':TT}{bS:List bp}
def YH (t u:TT):TT:=λσ H Q=>t σ H λc d=>if c=true then u σ d Q else Q false d
def tOr (t u:TT):TT:=λσ H Q=>t σ H λc d=>if c=true then Q true d else u σ d Q
def YI (t:TT):TT:=λσ H Q=>t σ H λc d=>Q (!c) d
def QW (d:PT X a tA):PW X (.BoolOp .And [a] pos) tA:=by
 intro g pins s σ H Q I h
 refine isTrue_and (eK (d pins s σ H Q I h) λc f e=>?_)
 cases c with
 |true=>exact isTrue_and_nil e
 |false=>exact e
def Uw (d:PT X a tA):PW X (.BoolOp .Or [a] pos) tA:=by
 intro g pins s σ H Q I h
 refine isTrue_or (eK (d pins s σ H Q I h) λc f e=>?_)
 cases c with
 |false=>exact isTrue_or_nil e
 |true=>exact e
def Ux (i:PT X a tA) (k:PW X (.BoolOp .And (b::bS) pos) tB'):PW X (.BoolOp .And (a::b::bS) pos) (YH tA tB'):=by
 intro j pins s σ H Q I h
 refine isTrue_and (eK (i pins s σ H _ I h) λc g ⟨d,f,e⟩=>?_)
 cases c with
 |true=>exact k j pins g σ d Q f e
 |false=>exact ⟨d,f,e⟩
def Wn (i:PT X a tA) (k:PW X (.BoolOp .Or (b::bS) pos) tB'):PW X (.BoolOp .Or (a::b::bS) pos) (tOr tA tB'):=by
 intro j pins s σ H Q I h
 refine isTrue_or (eK (i pins s σ H _ I h) λc g ⟨d,f,e⟩=>?_)
 cases c with
 |true=>exact ⟨d,f,e⟩
 |false=>exact k j pins g σ d Q f e
def Uy (d:PT X a tA):PT X (.UnaryOp .Not a pos) (YI tA):=by
 intro pins s σ H Q I h
 exact isTrue_not (eK (d pins s σ H (λc e=>Q (!c) e) I h) λ_ _ x=>by obtain ⟨a,b,c⟩:=x;exact ⟨a,b,c⟩)
def Wo (ta tb:TE):TE:=λσ H Q=>ta σ H λx d=>∃ c,x=.bl c/\if c=true then tb σ d Q else Q (.bl false) d
def Wp (ta:TE):TE:=λσ H Q=>ta σ H λx d=>∃ c,x=.bl c/\Q (.bl (!c)) d
def Uz {op}{t:TE} (h:PE X a t):PE X (.BoolOp op [a] pos) t:=λpins s σ H Q I c=>BoolOp_one (h pins s σ H Q I c)
def UA (j:PE X a ta) (k:PE X (.BoolOp .And (b::bS) pos) tb):PE X (.BoolOp .And (a::b::bS) pos) (Wo ta tb):=by
 intro pins s σ H Q I h
 refine BoolOp_and (eK (j pins s σ H _ I h) λv g ⟨x,e,f,i,d⟩=>?_)
 obtain ⟨c,rfl,d⟩:=d
 cases i
 refine de ?_
 cases c with
 |true=>exact k pins g σ e Q f d
 |false=>exact ⟨.bl false,e,f,rfl,d⟩
def UB (e:PE X a ta):PE X (.UnaryOp .Not a pos) (Wp ta):=by
 intro pins s σ H Q I h
 refine UnaryOp_ (eK (e pins s σ H _ I h) λv j ⟨x,f,g,i,d⟩=>?_)
 obtain ⟨c,rfl,d⟩:=d
 cases i
 exact not_of (de ⟨.bl (!c),f,g,rfl,d⟩)
def tIf (t:TT) (ta tb:TE):TE:=λσ H Q=>t σ H λc d=>if c=true then ta σ d Q else tb σ d Q
def MM {c:bp} (k:PT X c tA) (j:PE X a ta) (l:PE X b tb):PE X (.IfExp c a b pos) (tIf tA ta tb):=by
 intro pins s σ H Q I h
 refine wpAny_IfExp (eK (k pins s σ H _ I h) λd e ⟨f,i,g⟩=>?_)
 cases d with
 |true=>exact j pins e σ f Q i g
 |false=>exact l pins e σ f Q i g
end
end L2
namespace L2
open PySem PySem.Spec PyProof.Rows
inductive ZK (K:aa) (a:ao) (xs:List V):Prop
 |mk (o:Obj) (its:Array af) (n:Nat) (h0:K.lookup a=some o) (h1:o.cls=.type "list") (h2:o.dict=none) (h3:o.data=.seq its n) (h4:its.size<=sizeLine) (h5:dY xs its.toList):ZK K a xs
def nZ (K:aa) (H:Hp) (a:ao) (xs:List V):Prop :=
 Rd H a (.lst xs)\/ZK K a xs
inductive ZL (K:aa) (a:ao) (xs:List V):Prop
 |mk (o:Obj) (its:Array af) (n:Nat) (h0:K.lookup a=some o) (h1:o.cls=.type "tuple") (h3:o.data=.seq its n) (h4:its.size<=sizeLine) (h5:dY xs its.toList):ZL K a xs
def l5 (K:aa) (H:Hp) (a:ao) (xs:List V):Prop :=
 Rd H a (.tup xs)\/ZL K a xs
def YJ:af->Option V
 |.none=>some .non
 |.bool b=>some (.bl b)
 |.int i _=>some (.int i)
 |.str x _=>some (.str x)
 |.bytes b _=>some (.byt b)
 |.float b _=>some (.flt b)
 |.ref a=>some (.ref a)
 |.type n=>some (.ty n)
 |_=>none
def dR.abs {x:V}{u:af} (r:dR x u):YJ u=some x:=by
 cases x with
 |non=>cases r;rfl
 |bl _=>cases r;rfl
 |int _=>obtain ⟨t,rfl⟩:=r;rfl
 |str _=>obtain ⟨t,rfl⟩:=r;rfl
 |byt _=>obtain ⟨t,rfl⟩:=r;rfl
 |flt _=>obtain ⟨t,rfl⟩:=r;rfl
 |ref _=>cases r;rfl
 |ty _=>cases r;rfl
def dR.inj {x y:V}{u:af} (r:dR x u) (q:dR y u):x=y:=bY (r.abs.symm.trans q.abs)
def dY.inj {xs:List V}{a:List af} (h:dY xs a):∀ {ys:List V},dY ys a->xs=ys:=by
 induction h with
 |nil=>intro ys k;cases k;rfl
 |cons r t b=>intro ys k;cases k with|cons c t'=>rw [r.inj c,b t']
section
variable {X:Cx}{pins:List (ao×Obj)}{σ:St}{H:Hp}{s:ai}{a:ao}{xs ys:List V}
def nZ.of {K:aa} (h:H a=some (.lst xs)):nZ K H a xs:=.inl (.inl h)
def l5.of {K:aa} (h:H a=some (.tup xs)):l5 K H a xs:=.inl (.inl h)
inductive ZM (h:bD) (a:ao) (xs:List V):Prop
 |mk (its:List af) (r:dY xs its) (p:PlainL h a its.toArray) (z:xs.length<=sizeLine):ZM h a xs
inductive ZN (h:bD) (a:ao) (xs:List V):Prop
 |mk (its:List af) (r:dY xs its) (p:Gw h a its.toArray) (z:xs.length<=sizeLine):ZN h a xs
inductive ZO (h:bD) (l:ao) (xs:List V):Prop
 |mk (z:xs.length<=sizeLine) (its:List af) (n:Nat) (r:dY xs its) (hl:xs.length=its.length) (e:h.get? l=some { cls:=.type "list",data:=.seq its.toArray n }):ZO h l xs
def bL.list (I:bL X pins σ H s) (h:nZ X.K H a xs):ZM s.heap a xs:=by
 rcases h with h|⟨o,b,n,hk,hc,hd,hs,hz,r⟩
 ·obtain ⟨z,b,n,r,e⟩:=h.ok I.hok
  exact ⟨b,r,⟨_,n,e,rfl,rfl,rfl⟩,z⟩
 ·refine ⟨b.toList,r,⟨o,n,I.kIn a o hk,hc,hd,by simpa using hs⟩,?_⟩
  have e:=r.length
  simp only [ax] at e
  omega
def bL.tuple (I:bL X pins σ H s) (h:l5 X.K H a xs):ZN s.heap a xs:=by
 rcases h with h|⟨o,b,n,hk,hc,hs,hz,r⟩
 ·obtain ⟨z,b,r,p⟩:=h.ok I.hok
  exact ⟨b,r,p,z⟩
 ·refine ⟨b.toList,r,⟨o,I.kIn a o hk,hc,n,by simpa using hs⟩,?_⟩
  have e:=r.length
  simp only [ax] at e
  omega
def bL.list_inj (I:bL X pins σ H s) (h:nZ X.K H a xs) (h':nZ X.K H a ys):xs=ys:=by
 obtain ⟨b,r,⟨o,n,e,_,_,d⟩,_⟩:=I.list h
 obtain ⟨its',g,⟨i,j,c,_,_,d'⟩,_⟩:=I.list h'
 rw [e] at c;cases c
 rw [d] at d'
 injection d' with f _
 have:b=its':=by simpa using congrArg Array.toList f
 subst this
 exact r.inj g
def bL.tuple_inj (I:bL X pins σ H s) (h:l5 X.K H a xs) (h':l5 X.K H a ys):xs=ys:=by
 obtain ⟨b,r,⟨o,e,_,n,d⟩,_⟩:=I.tuple h
 obtain ⟨its',g,⟨i,c,_,j,d'⟩,_⟩:=I.tuple h'
 rw [e] at c;cases c
 rw [d] at d'
 injection d' with f _
 have:b=its':=by simpa using congrArg Array.toList f
 subst this
 exact r.inj g
end
abbrev Cx.wish (X:Cx) (E:af->ai->Prop):Cx:={ X with xe:=E }
abbrev Cx.nox (X:Cx):Cx:=X.wish λ_ _=>False
def Cx.Ok.wish {X:Cx} (ok:X.Ok) (E:af->ai->Prop):(X.wish E).Ok :=
 ⟨ok.mod,ok.kind,ok.glob,ok.blt,ok.above,ok.inj,ok.has,ok.cab,ok.hd,ok.frames,ok.stk,ok.exf,ok.bs,ok.bsz,ok.noex,ok.exfs,ok.funs,ok.frf⟩
def Cx.Ok.unwish {X:Cx}{E:af->ai->Prop} (ok:(X.wish E).Ok):X.Ok :=
 ⟨ok.mod,ok.kind,ok.glob,ok.blt,ok.above,ok.inj,ok.has,ok.cab,ok.hd,ok.frames,ok.stk,ok.exf,ok.bs,ok.bsz,ok.noex,ok.exfs,ok.funs,ok.frf⟩
section
variable {X:Cx}{pins:List (ao×Obj)}{σ:St}{H:Hp}{s:ai}{E:af->ai->Prop}
def bL.wish (I:bL X pins σ H s) (E:af->ai->Prop):bL (X.wish E) pins σ H s:=⟨I.ok.wish E,I.os,I.bare,I.base,I.loc,I.cell,I.free,I.freeC,I.pin,I.hok,I.len⟩
def bL.unwish (I:bL (X.wish E) pins σ H s):bL X pins σ H s:=⟨I.ok.unwish,I.os,I.bare,I.base,I.loc,I.cell,I.free,I.freeC,I.pin,I.hok,I.len⟩
def SP.unwish {D:Cv}{f:Flow}{s':ai} (h:SP (X.wish E) pins D f s'):SP X pins D f s':=by
 cases f with
 |next=>obtain ⟨σ',H',I,q⟩:=h;exact ⟨σ',H',I.unwish,q⟩
 |brk=>obtain ⟨σ',H',I,q⟩:=h;exact ⟨σ',H',I.unwish,q⟩
 |cont=>obtain ⟨σ',H',I,q⟩:=h;exact ⟨σ',H',I.unwish,q⟩
 |ret u=>obtain ⟨v,σ',H',I,r,q⟩:=h;exact ⟨v,σ',H',I.unwish,r,q⟩
end
section
variable {X:Cx}{st:dX}{bS:List dX}{t u:TS}{e:bp}{te:TE}{pos:Pos}
def Wq:TS:=λD σ H=>D.nx σ H
def YK (t u:TS):TS:=λD σ H=>t { D with nx:=u D } σ H
def QX:IH X [] Wq:=λ_ _ σ H _ I h=>uQ ⟨σ,H,I,h⟩
def qS (a:PS X st t) (d:IH X bS u):IH X (st::bS) (YK t u):=by
 intro pins s σ H D I h
 refine wpAny_execs_cons (eK (a pins s σ H { D with nx:=u D } I h) λf b q=>?_)
 cases f with
 |next =>
  obtain ⟨σ',H',c,q⟩:=q
  exact d pins b σ' H' D c q
 |ret v=>exact q
 |brk=>exact q
 |cont=>exact q
def QY (a:PS X st t):IH X [st] t:=by
 intro pins s σ H D I h
 refine wpAny_execs_cons (eK (a pins s σ H D I h) λf b q=>?_)
 cases f with
 |next=>exact uQ q
 |ret v=>exact q
 |brk=>exact q
 |cont=>exact q
def bL.quiet {pins:List (ao×Obj)}{σ:St}{H:Hp}{s:ai} (I:bL X pins σ H s):interactive X.env=false:=by simp [interactive,I.ok.kind]
def Wr (te:TE):TS:=λD σ H=>te σ H λ_ a=>D.nx σ a
def Cy (he:PE X e te) (hs:gF e none pos.line X.env=pure false:=by rfl):PS X (.Expr e pos) (Wr te):=by
 intro pins s σ H D I h
 exact wpAny_Expr_any (eK (he pins s σ H _ I h) λv f a=>by obtain ⟨x,b,d,g,c⟩:=a;exact ⟨σ,b,d,c⟩) I.quiet hs
def YL (te:TE):TS:=λD σ H=>te σ H D.rt
def UC (he:PE X e te):PS X (.Return (some e) pos) (YL te):=by
 intro pins s σ H D I h
 exact wpAny_Return_some (eK (he pins s σ H _ I h) λv g a=>by obtain ⟨x,b,d,f,c⟩:=a;exact ⟨x,σ,b,d,f,c⟩)
def YM (c:TT) (t u:TS):TS:=λD σ H=>c σ H λb a=>if b=true then t D σ a else u D σ a
def Ws {c:bp}{a b:List dX}{tc:TT} (l:PT X c tc) (k:IH X a t) (m:IH X b u):PS X (.If c a b pos) (YM tc t u):=by
 intro pins s σ H D I h
 refine wpAny_If (eK (l pins s σ H _ I h) λd f ⟨g,j,i⟩=>?_)
 cases d with
 |true=>exact k pins f σ g D j i
 |false=>exact m pins f σ g D j i
def UD:TS:=λ_ _ _=>False
def rT {sts:List dX}:IH X sts UD:=λ_ _ _ _ _ _ h=>h.elim
end
abbrev TG:=V->St->Hp->(St->Hp->Prop)->Prop
abbrev MN:=List V->St->Hp->(St->Hp->Prop)->Prop
def PG (X:Cx) (a:bp) (t:TG):Prop :=
 ∀ (pins:List (ao×Obj)) (s:ai) (σ:St) (H:Hp) (v:V) (u:af) (Q:St->Hp->Prop),bL X pins σ H s->dR v u->t v σ H Q ->
  au (aA X.prog X.w) X.A (iV a X.env u) (λ_ s'=>SN X pins Q s') X.xe s
def SZ (X:Cx) (c:List bp) (t:MN):Prop :=
 ∀ (pins:List (ao×Obj)) (s:ai) (σ:St) (H:Hp) (b:List V) (a:List af) (Q:St->Hp->Prop),bL X pins σ H s->dY b a->t b σ H Q ->
  au (aA X.prog X.w) X.A (Kb ((iW c X.env).map (·.2)) a) (λ_ s'=>SN X pins Q s') X.xe s
abbrev Yn:=V->V->Hp->VK->Prop
def ZP (X:Cx) (op:Operator) (t:Yn):Prop :=
 ∀ (pins:List (ao×Obj)) (s:ai) (σ:St) (H:Hp) (x y:V) (v u:af) (Q:VK),bL X pins σ H s->dR x v->dR y u->t x y H Q ->
  au (aA X.prog X.w) X.A (inplaceOp op v u) (EP X pins σ Q) X.xe s
section
variable {X:Cx}{pos:Pos}
def oK (i:Nat):TG:=λv σ H Q=>Q (σ.set i (some v)) H
def cD {i:Nat}{x:Str} (a:X.N.Nodup) (d:X.N[i]?=some x) (c:Qo X.env.scope x) (e:X.fn x=true\/X.env.scope.names.lookup x=some .local:=by first|exact .inl rfl|exact .inr rfl|assumption):PG X (.Name x pos) (oK i):=by
 intro pins s σ H v u Q I r h
 exact Aq (qQ I a d c r (λs' b=>⟨_,H,b,h⟩) e)
def aP:MN:=λa σ H Q=>a=[]/\Q σ H
inductive MO (t:TG) (u:MN) (vs:List V) (σ:St) (H:Hp) (Q:St->Hp->Prop):Prop
 |mk (v r:_) (h0:vs=v::r) (h1:t v σ H λσ' H'=>u r σ' H' Q):MO t u vs σ H Q
def ah (t:TG) (u:MN):MN:=MO t u
def Cz:SZ X [] aP:=by
 intro pins s σ H b a Q I r h
 obtain ⟨e,h⟩:=h
 subst e
 cases r
 exact assignInOrder_nil ⟨σ,H,I,h⟩
def qT {e:bp}{es:List bp}{t:TG}{u:MN} (b:PG X e t) (g:SZ X es u)
  (hs:(iW (e::es) X.env).map (·.2)=iV e X.env::(iW es X.env).map (·.2):=by rfl):SZ X (e::es) (ah t u):=by
 intro pins s σ H n m Q I r h
 obtain ⟨v,l,f,h⟩:=h
 subst f
 cases r with
 |cons r i =>
  rw [hs]
  refine yx (eK (b pins s σ H _ _ _ I r h) λ_ c ⟨a,d,k,j⟩=>?_)
  exact g pins c a d _ _ Q k i j
inductive S_ (K:aa) (n:Nat) (t:MN) (v:V) (σ:St) (H:Hp) (Q:St->Hp->Prop):Prop
 |mk (a xs:_) (h0:v=.ref a) (h1:l5 K H a xs) (h2:xs.length=n) (h3:t xs σ H Q):S_ K n t v σ H Q
def UE (K:aa) (n:Nat) (t:MN):TG:=S_ K n t
def GP {es:List bp}{k:Nat}{t:MN}{n:Nat} (j:X.calm=true) (h:SZ X es t)
  (p:(iW es X.env).length=n:=by rfl) (c:(iW es X.env).findIdx? (·.1)=none:=by rfl):PG X (.Tuple es k pos) (UE X.K n t):=by
 intro pins s σ H v u Q I r d
 obtain ⟨a,xs,q,l,i,d⟩:=d
 subst q
 cases r
 obtain ⟨m,f,g,y⟩:=I.tuple l
 refine assign_Tuple_tuple (I.ok.hd j) g (by simp [p,<- i,f.length]) c λh' w=>?_
 have x:bL X pins σ H { s with heap:=h' }:=I.kept (t':=s.toks) λb o e=>w b o (aB (av e)) e
 exact h pins _ σ H xs _ Q x (by simpa using f) d
def Wt (a:TE) (g:TG):TS:=λD σ H=>a σ H λx b=>g x σ b D.nx
def MP {tg e:bp}{a:TE}{g:TG} (he:PE X e a) (l:PG X tg g) (hs:y8 [tg] e pos.line X.env=pure false:=by rfl) (i:y9 [tg] e X.env=pure none:=by rfl)
  (b:(iW [tg] X.env).map (·.2)=[iV tg X.env]:=by rfl):PS X (.Assign [tg] e pos) (Wt a g):=by
 intro pins s σ H D I h
 refine wpAny_Assign_stores (eK (he pins s σ H _ I h) λv c ⟨x,d,k,j,f⟩=>?_) hs i
 rw [b]
 exact eK (l pins c σ d x v _ k j f) λ_ m q=>q
def GQ {i:Nat}{x:Str}{e:bp}{b:TE}{a:Pos} (c:X.N.Nodup) (g:X.N[i]?=some x) (m:Qo X.env.scope x) (he:PE X e b) (hs:gF e (some (.Name x a)) pos.line X.env=pure false:=by rfl) (j:X.fn x=true\/X.env.scope.names.lookup x=some .local:=by first|exact .inl rfl|exact .inr rfl|assumption) :
  PS X (.Assign [.Name x a] e pos) (Wt b (oK i)):=by
 intro pins s σ H D I h
 refine wpAny_Assign_Name (eK (he pins s σ H _ I h) λv o ⟨y,d,n,l,f⟩=>?_) hs
 exact qQ n c g m l (λp k=>⟨_,d,k,f⟩) j
def YN (i j:Nat) (b:TA):TS:=λD σ H=>b σ H λc a=>∃ v w,c=[v,w]/\D.nx ((σ.set i (some v)).set j (some w)) a
def UF {i j:Nat}{x y:Str}{a b:bp}{ta:TA}{px py pt:Pos}{kt k2 pt2} (hc:X.calm=true) (hN:X.N.Nodup) (hi:X.N[i]?=some x) (hj:X.N[j]?=some y) (hij:i≠j)
  (hx:X.env.scope.names.lookup x=some .local) (hy:X.env.scope.names.lookup y=some .local) (ha:PA X [a,b] ta)
  (hw:y9 [.Tuple [.Name x px,.Name y py] kt pt] (.Tuple [a,b] k2 pt2) X.env=pure (some [x,y]))
  (hs:y8 [.Tuple [.Name x px,.Name y py] kt pt] (.Tuple [a,b] k2 pt2) pos.line X.env=pure false:=by rfl) :
  PS X (.Assign [.Tuple [.Name x px,.Name y py] kt pt] (.Tuple [a,b] k2 pt2) pos) (YN i j ta):=by
 intro pins s σ H D I h
 rw [exec_Assign_arm]
 refine a8 (cU ?_)
 rw [hs]
 refine a8 (a9 ?_)
 rw [if_neg (by decide)]
 refine a8 (Tuple_ (eK (ha _ pins s σ H _ I h) λus s1 ⟨vs,H1,I1,r1,q1⟩=>?_))
 obtain ⟨v,w,e1,q1⟩:=q1
 subst e1
 obtain ⟨u1,u2,rfl,rv,rw'⟩:∃ u1 u2,us=[u1,u2]/\dR v u1/\dR w u2:=by
  cases r1 with
  |cons p q =>
   cases q with
   |cons p' q' =>
    cases q'
    exact ⟨_,_,rfl,p,p'⟩
 refine bK ?_ (by show 2<=sizeLine;decide)
 have I2:bL X pins σ H1 { s1 with heap:=s1.heap.push { cls:=.type "tuple",data:=.seq [u1,u2].toArray } }:=I1.kept (t':=s1.toks) λb o e=>ac _ e
 rw [hw]
 refine a8 (a9 ?_)
 show au (aA X.prog X.w) X.A (do rule "assign.swapped-stores";let items <- unpackItems (.ref s1.heap.objs.size) 2 none;Kb [λv=>Qu X.env y v,λv=>Qu X.env x v] items.reverse;pure Flow.next) _ _ _
 refine a8 (dH (a8 (unpackItems_tuple (items:=#[u1,u2]) (I.ok.hd hc) (xG s1.heap _) λh' hx'=>?_)))
 have I3:=I2.kept (h':=h') (t':=s1.toks) λb o e=>hx' b o (aB (av e)) e
 show au _ _ (Kb [λv=>Qu X.env y v,λv=>Qu X.env x v] [u2,u1] >>= λ_=>pure Flow.next) _ _ _
 refine a8 (yx (wpAny_bindName (qQ I3 hN hj (.inl hy) rw' (λs2 I4=>?_) (.inr hy))))
 refine yx (wpAny_bindName (qQ I4 hN hi (.inl hx) rv (λs3 I5=>assignInOrder_nil (a9 ?_)) (.inr hx)))
 rw [List.set_comm _ _ (cF hij)] at I5
 exact ⟨_,H1,I5,q1⟩
def YO (i:Nat) (a:TE) (d:Yn):TS:=λD σ H=>∃ x,σ[i]?=some (some x)/\a σ H λy c=>d x y c λz b=>D.nx (σ.set i (some z)) b
def UG {i:Nat}{x:Str}{e:bp}{q:TE}{op:Operator}{p:Yn}{f:Pos} (B:X.N.Nodup) (o:X.N[i]?=some x) (n:Qo X.env.scope x) (he:PE X e q) (ho:ZP X op p) (O:X.fn x=true\/X.env.scope.names.lookup x=some .local:=by first|exact .inl rfl|exact .inr rfl|assumption) :
  PS X (.AugAssign (.Name x f) op e pos) (YO i q p):=by
 intro pins s σ H D I h
 obtain ⟨v,U,h⟩:=h
 obtain ⟨m,Q,K⟩:=I.loc
 have j:Mk X.env.scope x:=by rcases n with k|k;exact .inl k;exact .inr (.inl k)
 obtain ⟨u,r,l⟩:=K i x v o U j
 refine wpAny_AugAssign_Name ?_
 have t:au (aA X.prog X.w) X.A (dn e X.env) (λw a=>au (aA X.prog X.w) X.A (inplaceOp op u w) (λr d=>au (aA X.prog X.w) X.A (storeName X.env x r) (λ_=>SP X pins D .next) X.xe d) X.xe a) X.xe s:=by
  refine eK (he pins s σ H _ I h) λw E g=>?_
  obtain ⟨y,G,I1,Y,M⟩:=g
  refine eK (ho pins E σ G v y u w _ I1 r Y M) λz s2 b=>?_
  obtain ⟨zv,S,T,r2,q2⟩:=b
  exact qQ T B o n r2 (λs3 L=>⟨_,S,L,q2⟩) O
 rcases l with ⟨hk,P⟩|⟨hk,c,hc,hcell⟩
 ·exact Qt I.ok.kind hk Q P t
 ·rcases hk with hk|hk
  ·exact wpAny_loadName_cell I.ok.kind hk hc hcell t
  ·rcases n with k|k
   ·have:X.env.scope.names.lookup x=some .free:=hk
    rw [k] at this;cases this
   ·have:X.env.scope.names.lookup x=some .free:=hk
    rw [k] at this;cases this
def ipI (f:Int->Int->Int):Yn:=λx y H Q=>∃ i j,x=.int i/\y=.int j/\Q (.int (f i j)) H
def UH:ZP X .Add (ipI λi j=>i+j):=by
 intro pins s σ H x y v u Q I b c h
 obtain ⟨i,j,a,d,q⟩:=h
 subst a;subst d
 obtain ⟨t,rfl⟩:=b
 obtain ⟨t',rfl⟩:=c
 exact iadd_int ⟨.int _,H,I.tok _,⟨_,rfl⟩,q⟩
end
section
variable {X:Cx}{pos:Pos}
def UI (c:TT) (tb:TS):TS:=λD σ H=>∃ W:Nat->St->Hp->Prop,(∃ m,W m σ H)/\∀ m σ H,W m σ H ->
 c σ H λb a=>if b=true then ∃ N:St->Hp->Prop,(∀ σ' H',N σ' H'->∃ d,d<m/\W d σ' H')/\tb { D with nx:=N,ct:=N,bk:=D.nx } σ a else D.nx σ a
def MQ {c:bp}{e:List dX}{tc:TT}{tb:TS} (z:PassesOwn (aA X.prog X.w) X.A X.env X.xe) (L:PT X c tc) (M:IH X e tb):PS X (.While c e [] pos) (UI tc tb):=by
 intro pins s σ H D I h
 obtain ⟨W,⟨K,G⟩,g⟩:=h
 refine wpAny_While (codeAny_whileLoop (λn s'=>∃ σ' H',bL X pins σ' H' s'/\W n σ' H') ?_ K ⟨σ,H,I,G⟩)
 rintro n E ⟨d,u,P,B⟩
 refine j6 z (eK (L pins E d u _ P (g n d u B)) λb O ⟨y,x,j⟩=>?_)
 cases b with
 |true =>
  obtain ⟨N,t,j⟩:=j
  rw [if_pos rfl]
  refine j6 z (eK (M pins O d y _ x j) λf Q k=>?_)
  cases f with
  |next =>
   obtain ⟨a,i,l,p⟩:=k
   obtain ⟨m,o,q⟩:=t a i p
   exact ⟨m,o,a,i,l,q⟩
  |cont =>
   obtain ⟨a,i,l,p⟩:=k
   obtain ⟨m,o,q⟩:=t a i p
   exact ⟨m,o,a,i,l,q⟩
  |brk=>exact k
  |ret v=>exact k
 |false =>
  rw [if_neg bw]
  exact uQ ⟨d,y,x,j⟩
end
structure It where
 go:Nat->Hp->Prop
 yld:Nat->Hp->V->Hp->Prop
 stop:Nat->Hp->Prop
structure l8 (X:Cx) (pins:List (ao×Obj)) (H:Hp) (b:ao):Prop where
 f0:H b=none
 f1:b≠X.env.locals
 f2:b∉X.fs
 f3:b∈X.ex\/X.s₀.heap.objs.size<=b
 f4:∀ x c,X.env.cells.lookup x=some c->c≠b
 f5:∀ p∈X.pn++pins,p.1≠b
def bL.fpOk {X:Cx}{pins:List (ao×Obj)}{σ:St}{H H':Hp}{s:ai}{b:ao} (I:bL X pins σ H s) (a:s.heap.objs.size<=b) (d:H' b=none):l8 X pins H' b:=by
 refine ⟨d,ft (aK I.lt a),I.nofs a,.inr (cn I.sz a),λx c e z=>?_,λp f z=>?_⟩
 ·obtain ⟨v,q⟩:=I.cell x c e
  exact absurd (aK q.lt (by rw [z];exact a)) (bf _)
 ·exact absurd (aK (av (I.pin p f).1) (by rw [z];exact a)) (bf _)
structure wv (P:a_) (w:bz) (K:aa) (tg:bp) (J:It) (fp:List ao) (it:ao) (tn:Nat->bD->Prop):Prop where
 mem:it∈fp
 obj:∀ i h,tn i h->∀ b∈fp,∃ o,h.get? b=some o/\∀ v,o.data≠.cell v
 keep:∀ i h h',tn i h->(∀ b∈fp,∀ o,h.get? b=some o->h'.get? b=some o)->tn i h'
 item:∀ (X:Cx),X.prog=P->X.w=w->X.K=K->X.calm=true->∀ (i:Nat) (pins:List (ao×Obj)) (s:ai) (σ:St) (H:Hp) (E:af->ai->Prop),bL X pins σ H s->(∀ b∈fp,l8 X pins H b)->tn i s.heap->J.go i H ->
  au (aA P w) X.A (gn (.ref it)) (λr s1=>∃ u,r=some u /\
   au (aA P w) X.A (dE tg (.ref it) u) (λ_ s2=>∃ x H',bL X pins σ H' s2/\dR x u/\J.yld i H x H'/\tn (i+1) s2.heap/\∀ b∈fp,H' b=none) E s1) E s
 done:∀ (X:Cx),X.prog=P->X.w=w->X.K=K->X.calm=true->∀ (i:Nat) (pins:List (ao×Obj)) (s:ai) (σ:St) (H:Hp) (E:af->ai->Prop),bL X pins σ H s->(∀ b∈fp,l8 X pins H b)->tn i s.heap->J.stop i H ->
  au (aA P w) X.A (gn (.ref it)) (λr s1=>r=none/\bL X pins σ H s1) E s
 self:∀ (A:bB) (i:Nat) (s:ai) (Q:af->ai->Prop) (E:af->ai->Prop),tn i s.heap->Q (.ref it) s->au (aA P w) A (qI (.ref it)) Q E s
abbrev TI:=St->Hp->(It->Hp->Prop)->Prop
inductive YQ (X:Cx) (pins:List (ao×Obj)) (σ:St) (tg:bp) (R:It->Hp->Prop) (itv:af) (s2:ai):Prop
 |mk (it:ao) (fp:List ao) (tn:Nat->bD->Prop) (J:It) (H':Hp) (h0:itv=.ref it) (I:bL X pins σ H' s2) (T:wv X.prog X.w X.K tg J fp it tn) (t0:tn 0 s2.heap) (f:∀ b∈fp,l8 X pins H' b) (q:R J H'):YQ X pins σ tg R itv s2
inductive YR (X:Cx) (pins:List (ao×Obj)) (tn:Nat->bD->Prop) (fp:List ao) (W:Nat->Nat->St->Hp->Prop) (n:Nat) (s':ai):Prop
 |mk (i:Nat) (σ':St) (H':Hp) (I:bL X pins σ' H' s') (t:tn i s'.heap) (f:∀ b∈fp,H' b=none) (q:W i n σ' H'):YR X pins tn fp W n s'
def PI (X:Cx) (tg iter:bp) (b:TI):Prop :=
 ∀ (pins:List (ao×Obj)) (s:ai) (σ:St) (H:Hp) (R:It->Hp->Prop),bL X pins σ H s->b σ H R ->
  au (aA X.prog X.w) X.A (dn iter X.env) (λv a=>au (aA X.prog X.w) X.A (qI v) (YQ X pins σ tg R) X.xe a) X.xe s
def IJ {M : M4} {A : bB} {E : af -> ai -> Prop} {s : ai} {tg : bp} {it : ao} {u : af} {o : Obj} {n : String} {b : Array af} {Q : Unit -> ai -> Prop} (ho : s.heap.get? it = some o) (c : o.cls = .type n) (e : o.data = .fields b)
    (d : ["enumerate", "zip", "dict_itemiterator", "dict_reverseitemiterator", "odict_iterator", "itertools.zip_longest", "itertools.pairwise"].contains n = false) (a : Q () s) : au M A (dE tg (.ref it) u) Q E s := by
  unfold dE
  cases tg <;> first
    | exact a9 a
    | (cases u <;> first
        | exact a9 a
        | (refine a8 (wpAny_load ho ?_)
           rw [c, e]
           show au M A (if (["enumerate", "zip", "dict_itemiterator", "dict_reverseitemiterator", "odict_iterator", "itertools.zip_longest", "itertools.pairwise"].contains n && b[0]? == some (cA _)) = true then _ else _) Q E s
           rw [if_neg (by intro h; rw [d, Bb] at h; cases h)]
           exact a9 a))
def YS (K:aa) (a:ao):It :=
 ⟨λi H=>∃ xs x,nZ K H a xs/\xs[i]?=some x,λi H x H'=>H'=H/\∀ xs,nZ K H a xs->xs[i]?=some x,λi H=>∃ xs,nZ K H a xs/\xs.length<=i⟩
def YT (K:aa) (a:ao):It :=
 ⟨λi H=>∃ xs x,l5 K H a xs/\xs[i]?=some x,λi H x H'=>H'=H/\∀ xs,l5 K H a xs->xs[i]?=some x,λi H=>∃ xs,l5 K H a xs/\xs.length<=i⟩
def Yo (lo:Int) (n:Nat):It:=⟨λi _=>i<n,λi H x H'=>H'=H/\x=.int (lo+i),λi _=>n<=i⟩
def Ky {P:a_}{w:bz}{K:aa}{tg:bp} (a it:ao):wv P w K tg (YS K a) [it] it (λi h=>h.IsListIter it a i) where
 mem:=by simp
 obj:=λi h st b f=>by
  have e:b=it:=by simpa using f
  subst e
  obtain ⟨o,e,c,d⟩:=st
  exact ⟨o,e,λv z=>by rw [d] at z;cases z⟩
 keep:=λi h h' st k=>st.at λo e=>k it (by simp) o e
 item:=by
  intro X A q m Q i pins s σ H E I l st N
  subst A q m
  obtain ⟨xs,x,j,O⟩:=N
  obtain ⟨t,L,p,T⟩:=I.list j
  obtain ⟨u,U,ru⟩:=L.get O
  obtain ⟨M,G,Y,B,n,y⟩:=l it (by simp)
  refine wpAny_pyNext_list_item st p.isList (x:=u) (by simpa using U) λh' g sb=>?_
  have I1:bL X pins σ H { s with heap:=h' }:=I.turned (t':=s.toks) (λb o f e=>(sb.2 b f).trans e) M G B n y
  obtain ⟨o,e,c,d⟩:=id g
  exact ⟨u,rfl,IJ (s:={ s with heap:=h' }) e c d (by decide) ⟨x,H,I1,ru,⟨rfl,λys S=>by rw [I.list_inj S j];exact O⟩,g,λb f=>(l b f).1⟩⟩
 done:=by
  intro X A q m Q i pins s σ H E I l st N
  subst A q m
  obtain ⟨xs,j,O⟩:=N
  obtain ⟨t,L,p,T⟩:=I.list j
  obtain ⟨M,G,Y,B,n,y⟩:=l it (by simp)
  have hl:=L.length
  exact wpAny_pyNext_list_end (I.ok.hd Q) st p.isList (by simp;omega) λh' eb=>⟨rfl,I.turned (t':=s.toks) (λb o f e=>eb b o f e) M G B n y⟩
 self:=λ_ _ _ _ _ st h=>wpAny_pyIter_listiter st h
def GR {P:a_}{w:bz}{K:aa}{tg:bp} (a it:ao):wv P w K tg (YT K a) [it] it (λi h=>h.IsTupleIter it a i) where
 mem:=by simp
 obj:=λi h st b g=>by
  have e:b=it:=by simpa using g
  subst e
  obtain ⟨o,e,c,d⟩:=st
  exact ⟨o,e,λv z=>by rw [d] at z;cases z⟩
 keep:=λi h h' st k=>st.at λo e=>k it (by simp) o e
 item:=by
  intro X A t n Q i pins s σ H E I m st N
  subst A t n
  obtain ⟨xs,x,l,O⟩:=N
  obtain ⟨f,L,p,T⟩:=I.tuple l
  obtain ⟨u,U,ru⟩:=L.get O
  obtain ⟨M,G,Y,B,q,y⟩:=m it (by simp)
  refine wpAny_pyNext_tuple_item st (show s.heap.IsTuple a f.toArray from p) (x:=u) (by simpa using U) λh' j sb=>?_
  have I1:bL X pins σ H { s with heap:=h' }:=I.turned (t':=s.toks) (λb o g e=>(sb.2 b g).trans e) M G B q y
  obtain ⟨o,e,c,d⟩:=id j
  exact ⟨u,rfl,IJ (s:={ s with heap:=h' }) e c d (by decide) ⟨x,H,I1,ru,⟨rfl,λys S=>by rw [I.tuple_inj S l];exact O⟩,j,λb g=>(m b g).1⟩⟩
 done:=by
  intro X A t n Q i pins s σ H E I m st N
  subst A t n
  obtain ⟨xs,l,O⟩:=N
  obtain ⟨f,L,p,T⟩:=I.tuple l
  obtain ⟨M,G,Y,B,q,y⟩:=m it (by simp)
  have hl:=L.length
  exact wpAny_pyNext_tuple_end (I.ok.hd Q) st (show s.heap.IsTuple a f.toArray from p) (by simp;omega) λh' eb=>⟨rfl,I.turned (t':=s.toks) (λb o g e=>eb b o g e) M G B q y⟩
 self:=λ_ _ _ _ _ st h=>wpAny_pyIter_tupleiter st h
def GS {P:a_}{w:bz}{K:aa}{tg:bp} (it:ao) (lo:Int) (n:Nat):wv P w K tg (Yo lo n) [it] it (λi h=>IsRangeIter h it (lo+(i:Nat)*1) ((n:Int)-(i:Nat)) 1) where
 mem:=by simp
 obj:=λi h st b a=>by
  have e:b=it:=by simpa using a
  subst e
  exact ⟨_,st,λv z=>by
   have L:Data.fields _=Data.cell v:=z
   cases L⟩
 keep:=λi h h' st k=>k it (by simp) _ st
 item:=by
  intro X p l f j i pins s σ H E I d st y
  subst p l f
  obtain ⟨x,u,G,q,g,m⟩:=d it (by simp)
  have W:=Walks.range (prog:=X.prog) (w:=X.w) (I.ok.hd j) it lo 1 n
  refine W.item i s _ _ y st λv h' A N c B=>?_
  obtain ⟨t,rfl⟩:=N
  have O:bL X pins σ H { s with heap:=h',toks:=A }:=I.turned (λb o a e=>B b o (by simpa using a) e) x u q g m
  refine ⟨_,rfl,IJ (s:={ s with heap:=h',toks:=A }) (n:="range_iterator") c rfl rfl (by decide) ⟨.int (lo+i),H,O,⟨t,?_⟩,⟨rfl,rfl⟩,c,λb a=>(d b a).1⟩⟩
  rw [Int.mul_one]
 done:=by
  intro X p l f j i pins s σ H E I d st y
  subst p l f
  obtain ⟨x,u,G,q,g,m⟩:=d it (by simp)
  exact wpAny_pyNext_range_end (I.ok.hd j) st (by have:n<=i:=y;omega) λh' M=>⟨rfl,I.turned (t':=s.toks) (λb o a e=>M b o a e) x u q g m⟩
 self:=λ_ _ _ _ _ st h=>wpAny_pyIter_rangeiter st h
end L2
namespace L2
open PySem PySem.Spec PyProof.Rows
section
variable {X:Cx}{tg:bp}
def Wu (K:aa) (tl:TE):TI:=λσ H R=>tl σ H λx b=>∃ a,x=.ref a/\(∃ xs,nZ K b a xs)/\R (YS K a) b
def YU (K:aa) (tl:TE):TI:=λσ H R=>tl σ H λx b=>∃ a,x=.ref a/\(∃ xs,l5 K b a xs)/\R (YT K a) b
def v4 {l:bp}{tl:TE} (i:PE X l tl):PI X tg l (Wu X.K tl):=by
 intro pins s σ H R I h
 refine eK (i pins s σ H _ I h) λv d c=>?_
 obtain ⟨x,g,f,t,k⟩:=c
 obtain ⟨a,e,⟨xs,j⟩,q⟩:=k
 subst e
 cases t
 obtain ⟨m,w,p,u⟩:=f.list j
 refine i4 p.isList ?_
 refine ⟨d.heap.objs.size,[d.heap.objs.size],_,_,g,rfl,f.kept (t':=d.toks) λb o e=>ac _ e,Ky a _,⟨_,ay _ rfl,rfl,rfl⟩,λb n=>?_,q⟩
 have e:b=d.heap.objs.size:=by simpa using n
 subst e
 exact f.fpOk (aw _) (f.hok.fresh (aw _))
def MR {l:bp}{tl:TE} (j:PE X l tl):PI X tg l (YU X.K tl):=by
 intro pins s σ H R I h
 refine eK (j pins s σ H _ I h) λv c d=>?_
 obtain ⟨x,i,f,t,m⟩:=d
 obtain ⟨a,e,⟨xs,k⟩,q⟩:=m
 subst e
 cases t
 obtain ⟨g,w,p,u⟩:=f.tuple k
 refine gN (show c.heap.IsTuple a g.toArray from p) ?_
 refine ⟨c.heap.objs.size,[c.heap.objs.size],_,_,i,rfl,f.kept (t':=c.toks) λb o e=>ac _ e,GR a _,⟨_,ay _ rfl,rfl,rfl⟩,λb n=>?_,q⟩
 have e:b=c.heap.objs.size:=by simpa using n
 subst e
 exact f.fpOk (aw _) (f.hok.fresh (aw _))
def MS {pins:List (ao×Obj)}{σ:St}{H:Hp}{s:ai}{R:It->Hp->Prop}{E:af->ai->Prop}{lo a:Int}{t u v:Tok}{d:Nat} (I:bL X pins σ H s) (f:-(2 ^ 62)<=lo) (h:lo<2 ^ 62) (i:-(2 ^ 62)<=a) (j:a<2 ^ 62)
  (q:R (Yo lo (a-lo).toNat) H):au (aA X.prog X.w) X.A (qI (.ref s.heap.objs.size)) (YQ X pins σ tg R) E { s with heap:=s.heap.push { cls:=.type "range",data:=.fields #[.int lo t,.int a u,.int 1 v] },toks:=d }:=by
 refine wpAny_pyIter_range (IsRange.new ..) (small_one f h i j) ?_
 have c:bL X pins σ H { s with heap:=s.heap.push { cls:=.type "range",data:=.fields #[.int lo t,.int a u,.int 1 v] },toks:=d }:=I.kept λb o e=>ac _ e
 refine ⟨(s.heap.push { cls:=.type "range",data:=.fields #[.int lo t,.int a u,.int 1 v] }).objs.size,[(s.heap.push { cls:=.type "range",data:=.fields #[.int lo t,.int a u,.int 1 v] }).objs.size],_,_,H,rfl,
  c.kept (t':=d) λb o e=>ac _ e,GS _ lo (a-lo).toNat,?_,λb k=>?_,q⟩
 ·have g:lo+((0:Nat):Int)*1=lo:=by simp
  have l:(((a-lo).toNat:Nat):Int)-((0:Nat):Int)=Builtin.Range.rangeSize lo a 1:=by rw [rangeSize_one];split<;>omega
  show IsRangeIter _ _ (lo+((0:Nat):Int)*1) ((((a-lo).toNat:Nat):Int)-((0:Nat):Int)) 1
  rw [g,l]
  exact ay _ rfl
 ·have e:b=(s.heap.push { cls:=.type "range",data:=.fields #[.int lo t,.int a u,.int 1 v] }).objs.size:=by simpa using k
  subst e
  exact c.fpOk (aw _) (c.hok.fresh (aw _))
def Wv (b:TA):TI:=λσ H R=>b σ H λc a=>∃ j:Int,c=[.int j]/\-(2 ^ 62)<=j/\j<2 ^ 62/\R (Yo 0 j.toNat) a
def Kz {a:bp}{c:TA}{p pos:Pos} (m:Gl X "range") (g:X.mg "range"=none) (d:PA X [a] c) (hs:aH [a] X.env=[(false,dn a X.env)]:=by rfl):PI X tg (.Call (.Name "range" p) [a] [] pos) (Wv c):=by
 intro pins s σ H R I h
 refine Call_ (qR I m g boot_range (ik (eK (d pos pins s σ H _ I h) λu n ⟨v,o,l,i,b⟩=>?_) hs rfl))
 obtain ⟨j,e,b,k,q⟩:=b
 subst e
 cases i with
 |cons r f =>
  cases f
  obtain ⟨t,rfl⟩:=r
  exact call_range_1 (MS l (by omega) (by omega) b k (by simpa using q))
inductive YV (g:TG) (tb:TS) (D:Cv) (σ:St) (J:It) (H1:Hp):Prop
 |mk (W:Nat->Nat->St->Hp->Prop) (w0:∃ m,W 0 m σ H1) (turn:∀ i m σ H,W i m σ H ->
 (J.stop i H/\D.nx σ H)\/(J.go i H/\∃ N:St->Hp->Prop,(∀ σ' H',N σ' H'->∃ m',m'<m/\W (i+1) m' σ' H')/\∀ x H',J.yld i H x H'->g x σ H' λσ2 H2=>tb { D with nx:=N,ct:=N,bk:=D.nx } σ2 H2)):YV g tb D σ J H1
def YW (a:TI) (g:TG) (tb:TS):TS:=λD σ H=>a σ H (YV g tb D σ)
def lJ (a:List ao) (h:bD):List (ao×Obj):=a.filterMap λb=>(h.get? b).map λo=>(b,o)
def eL {a:List ao}{h:bD}{b:ao}{o:Obj} (c:b∈a) (e:h.get? b=some o):(b,o)∈lJ a h:=List.mem_filterMap.mpr ⟨b,c,by rw [e];rfl⟩
def Bg {a:List ao}{h:bD}{p:ao×Obj} (d:p∈lJ a h):p.1∈a/\h.get? p.1=some p.2:=by
 obtain ⟨b,f,e⟩:=List.mem_filterMap.mp d
 cases q:h.get? b with
 |none=>rw [q] at e;cases e
 |some o =>
  rw [q] at e
  have c:(b,o)=p:=bY e
  subst c
  exact ⟨f,q⟩
def bL.pinned {pins:List (ao×Obj)}{σ:St}{H:Hp}{s:ai}{a:List ao} (I:bL X pins σ H s) (k:∀ b∈a,l8 X pins H b) (ho:∀ b∈a,∃ o,s.heap.get? b=some o/\∀ v,o.data≠.cell v):bL X (pins++lJ a s.heap) σ H s :=
 I.pins_of λp i=>(List.mem_append.mp i).elim (λz=>I.pin p (al _ z)) λz=>by
  obtain ⟨f,e⟩:=Bg z
  obtain ⟨h,g,j,_⟩:=k p.1 f
  obtain ⟨o,c,d⟩:=ho p.1 f
  rw [e] at c;cases c
  exact ⟨e,h,g,j,d⟩
def bL.unpinned {pins pl:List (ao×Obj)}{σ:St}{H:Hp}{s:ai} (I:bL X (pins++pl) σ H s):bL X pins σ H s:=I.pins_of λp a=>I.pin p (al _ (aN _ a))
def MT {iter:bp}{t:List dX}{wi:TI}{g:TG}{tb:TS}{pos:Pos} (O:PassesOwn (aA X.prog X.w) X.A X.env X.xe) (hc:X.calm=true) (hi:PI X tg iter wi) (hg:PG X tg g) (c:IH X t tb)
  (hs:∀ x,bU iter X.env x=pure x:=by intro _;rfl):PS X (.For tg iter t [] pos) (YW wi g tb):=by
 intro pins s σ H D I h
 refine wpAny_For (eK (hi pins s σ H _ I h) λv s1 h1=>eK h1 λa1 s2 h2=>?_) hs
 obtain ⟨it,E,tn,J,H2,e,I2,T,Y,B,W,⟨m0,w0⟩,L⟩:=h2
 subst e
 have q:∀ {H':Hp},(∀ b∈E,H' b=none)->∀ b∈E,l8 X pins H' b:=λhn b c=>⟨hn b c,(B b c).f1,(B b c).f2,(B b c).f3,(B b c).f4,(B b c).f5⟩
 refine codeAny_forLoop_any (YR X pins tn E W) ?_ m0 ⟨0,σ,H2,I2,Y,λb c=>(B b c).1,w0⟩
 rintro n s3 ⟨i,l,Q,I3,P,M,w3⟩
 rcases L i n l Q w3 with ⟨K,qn⟩|⟨go,N,hN,step⟩
 ·refine j6 O (eK (T.done X rfl rfl rfl hc i pins s3 l Q X.xe I3 (q M) P K) λr s4 ⟨hr,I4⟩=>?_)
  subst hr
  exact uQ ⟨l,Q,I4,qn⟩
 ·refine j6 O (eK (T.item X rfl rfl rfl hc i pins s3 l Q X.xe I3 (q M) P go) λr s4 ⟨u,hr,h4⟩=>?_)
  subst hr
  refine j6 O (eK h4 λ_ s5 ⟨x,H5,I5,r5,y5,z,a0⟩=>?_)
  have S:=I5.pinned (q a0) (T.obj _ _ z)
  refine j6 O (eK (hg _ s5 l H5 x u _ S r5 (step x H5 y5)) λ_ s6 ⟨U,H6,I6,q6⟩=>?_)
  refine j6 O (eK (c _ s6 U H6 _ I6 q6) λf s7 y=>?_)
  have k:∀ {a:St}{p:Hp},bL X (pins++lJ E s5.heap) a p s7->N a p->∃ m,m<n/\YR X pins tn E W m s7:=λ{a p} j G=>by
   obtain ⟨m',hm,w7⟩:=hN a p G
   refine ⟨m',hm,i+1,a,p,j.unpinned,T.keep _ _ _ z λb c o e=>(j.pin (b,o) (al _ (al _ (eL c e)))).1,λb c=>?_,w7⟩
   obtain ⟨o,e,d⟩:=T.obj _ _ z b c
   exact (j.pin (b,o) (al _ (al _ (eL c e)))).2.1
  cases f with
  |next=>obtain ⟨a,p,j,G⟩:=y;exact k j G
  |cont=>obtain ⟨a,p,j,G⟩:=y;exact k j G
  |brk=>obtain ⟨a,p,j,y⟩:=y;exact ⟨a,p,j.unpinned,y⟩
  |ret v=>obtain ⟨x7,a,p,j,r7,y⟩:=y;exact ⟨x7,a,p,j.unpinned,r7,y⟩
end
end L2
namespace L2
open PySem PySem.Spec PyProof.Rows
abbrev R2:=V->V->Hp->VK->Prop
def qG (X:Cx) (f:af->af->Sem af) (r:R2):Prop :=
 ∀ (pins:List (ao×Obj)) (s:ai) (σ:St) (H:Hp) (x y:V) (v u:af) (Q:VK),bL X pins σ H s->dR x v->dR y u->r x y H Q ->
  au (aA X.prog X.w) X.A (f v u) (EP X pins σ Q) X.xe s
def jU (X:Cx) (f:af) (r:List V->Hp->VK->Prop):Prop :=
 ∀ (pins:List (ao×Obj)) (s:ai) (σ:St) (H:Hp) (xs:List V) (a:List af) (Q:VK),bL X pins σ H s->dY xs a->r xs H Q ->
  au (aA X.prog X.w) X.A (call f a) (EP X pins σ Q) X.xe s
def YX (X:Cx) (r:V->Hp->(Bool->Hp->Prop)->Prop):Prop :=
 ∀ (pins:List (ao×Obj)) (s:ai) (σ:St) (H:Hp) (x:V) (v:af) (Q:Bool->Hp->Prop),bL X pins σ H s->dR x v->r x H Q ->
  au (aA X.prog X.w) X.A (truthy v) (TP X pins σ Q) X.xe s
def Ww (r:R2) (c tb:TE):TE:=λσ H Q=>c σ H λx b=>tb σ b λy a=>r x y a Q
inductive ZQ (C:Int->Int->Prop) (g:Int->Int->V) (x:V) (y:V) (H:Hp) (Q:VK):Prop
 |mk (i j:_) (h0:x=.int i) (h1:y=.int j) (h2:C i j) (h3:Q (g i j) H):ZQ C g x y H Q
def rI (C:Int->Int->Prop) (g:Int->Int->V):R2:=ZQ C g
inductive Wx (g:Int->Int->V) (x:V) (y:V) (H:Hp) (Q:VK):Prop
 |mk (i j:_) (h0:x=.int i) (h1:y=.int j) (h2:Q (g i j) H):Wx g x y H Q
def UJ (g:Int->Int->V):R2:=Wx g
section
variable {X:Cx}{a b c:bp}{ta tb tc:TE}{pos:Pos}
def UK (n:PE X a ta) (q:PE X b tb) {pins:List (ao×Obj)}{s:ai}{σ:St}{H:Hp}{R:V->V->Hp->Prop} (I:bL X pins σ H s)
  (h:ta σ H λx l=>tb σ l λy d=>R x y d) {Q:af->ai->Prop}{f:af->af->Sem af}
  (p:∀ v u k x y d,bL X pins σ d k->dR x v->dR y u->R x y d->au (aA X.prog X.w) X.A (f v u) Q X.xe k) :
  au (aA X.prog X.w) X.A (dn a X.env) (λv e=>au (aA X.prog X.w) X.A (dn b X.env) (λu i=>au (aA X.prog X.w) X.A (f v u) Q X.xe i) X.xe e) X.xe s:=by
 refine eK (n pins s σ H _ I h) λv m g=>?_
 obtain ⟨x,l,G,z,o⟩:=g
 refine eK (q pins m σ l _ G o) λu k j=>?_
 obtain ⟨y,d,t,E,B⟩:=j
 exact p v u k x y d t z E B
def T1 {op:Operator}{r:R2} (ho:qG X (gO op) r) (e:PE X a ta) (f:PE X b tb):PE X (.BinOp a op b pos) (Ww r ta tb):=by
 intro pins s σ H Q I h
 exact wpAny_BinOp (UK e f I h λv u k x y i g d j q=>ho pins k σ i x y v u Q g d j q)
def qU {f:af->af->Sem af}{C:Int->Int->Prop}{g:Int->Int->Int}
  (d:∀ (i j:Int) (t u:Tok) (s:ai) (Q:af->ai->Prop) (E:af->ai->Prop),C i j->Q (.int (g i j) s.toks) { s with toks:=s.toks+1 }->au (aA X.prog X.w) X.A (f (.int i t) (.int j u)) Q E s) :
  qG X f (rI C λi j=>.int (g i j)):=by
 intro pins s σ H x y v u Q I e l h
 obtain ⟨i,j,rfl,rfl,k,q⟩:=h
 obtain ⟨t,rfl⟩:=e
 obtain ⟨t',rfl⟩:=l
 exact d i j t t' s _ _ k ⟨.int (g i j),H,I.tok _,⟨_,rfl⟩,q⟩
def YY {f:af->af->Sem af}{g:Int->Int->Int}
  (d:∀ (i j:Int) (t u:Tok) (s:ai) (Q:af->ai->Prop) (E:af->ai->Prop),Q (.int (g i j) s.toks) { s with toks:=s.toks+1 }->au (aA X.prog X.w) X.A (f (.int i t) (.int j u)) Q E s) :
  qG X f (UJ λi j=>.int (g i j)):=by
 intro pins s σ H x y v u Q I e k h
 obtain ⟨i,j,rfl,rfl,q⟩:=h
 obtain ⟨t,rfl⟩:=e
 obtain ⟨t',rfl⟩:=k
 exact d i j t t' s _ _ ⟨.int (g i j),H,I.tok _,⟨_,rfl⟩,q⟩
def UL {f:af->af->Sem af}{g:Int->Int->Bool}
  (d:∀ (i j:Int) (t u:Tok) (s:ai) (Q:af->ai->Prop) (E:af->ai->Prop),Q (.bool (g i j)) s->au (aA X.prog X.w) X.A (f (.int i t) (.int j u)) Q E s) :
  qG X f (UJ λi j=>.bl (g i j)):=by
 intro pins s σ H x y v u Q I e k h
 obtain ⟨i,j,rfl,rfl,q⟩:=h
 obtain ⟨t,rfl⟩:=e
 obtain ⟨t',rfl⟩:=k
 exact d i j t t' s _ _ ⟨.bl (g i j),H,I,rfl,q⟩
def YZ (i j:Int):Prop:=0<j/\j<1073741824
def UM (i j:Int):Prop:=(-(2 ^ 64)<i/\i<2 ^ 64)\/(-(2 ^ 64)<j/\j<2 ^ 64)
def UM.ok {i j:Int} (h:UM i j):IntMulOk i j:=by
 rcases h with ⟨d,e⟩|⟨d,e⟩
 ·exact .of_left (intBits_le_64 d e)
 ·exact .of_right (intBits_le_64 d e)
def UN:qG X (gO .Add) (UJ λi j=>.int (i+j)):=YY λ_ _ _ _ _ _ _ q=>add_int q
def UO:qG X (gO .Mult) (rI UM λi j=>.int (i*j)):=qU λ_ _ _ _ _ _ _ d q=>mul_int q d.ok
def QZ:qG X (gO .FloorDiv) (rI YZ λi j=>.int (i / j)):=qU λi j _ _ _ _ _ d q=>by
 have e:(0:Int)<j:=d.1
 have f:j<1073741824:=d.2
 exact floordiv_int (by omega) (by rw [Int.fdiv_eq_ediv_of_nonneg i (by omega)];exact q) (.inl (PyProof.noPylong_small (by omega)))
def UP:qG X (gO .Mod) (rI (λ_ j=>0<j) λi j=>.int (i % j)):=qU λi j _ _ _ _ _ d q=>by
 have e:(0:Int)<j:=d
 exact mod_int' (by omega) (by rw [Int.fmod_eq_emod_of_nonneg i (by omega)];exact q)
end
section
variable {X:Cx}{a b c:bp}{ta tb tc:TE}{pos:Pos}
def CA {pins:List (ao×Obj)}{σ:St}{H:Hp}{s:ai}{Q:VK}{k d:Bool} (I:bL X pins σ H s) (q:Q (.bl k) H) (e:k=d):EP X pins σ Q (.bool d) s:=by
 subst e
 exact ⟨.bl k,H,I,rfl,q⟩
def Wz:qG X (bI .Lt) (UJ λi j=>.bl (decide (i<j))):=UL λ_ _ _ _ _ _ _ q=>lt_int q
def WA:qG X (bI .LtE) (UJ λi j=>.bl (decide (i<=j))):=UL λ_ _ _ _ _ _ _ q=>le_int q
def WB:qG X (bI .Gt) (UJ λi j=>.bl (decide (j<i))):=UL λ_ _ _ _ _ _ _ q=>gt_int q
def KA:qG X (bI .Lt) (λx y H Q=>∃ i j,x=.str i/\y=.str j/\Q (.bl (decide (i.cps.toList<j.cps.toList))) H):=by
 intro pins s σ H x y v u Q I d e h
 obtain ⟨i,j,rfl,rfl,q⟩:=h
 obtain ⟨t,rfl⟩:=d
 obtain ⟨t',rfl⟩:=e
 exact lt_str (CA I q rfl)
def UQ:qG X (bI .Is) (λx y H Q=>y=.non/\Q (.bl (decide (x=.non))) H):=by
 intro pins s σ H x y v u Q I d e h
 obtain ⟨rfl,q⟩:=h
 cases e
 refine is_none_gen (CA I q ?_)
 cases x<;>first
  |(cases d;rfl)
  |(obtain ⟨t,rfl⟩:=d;rfl)
def Q_:qG X (bI .IsNot) (λx y H Q=>y=.non/\Q (.bl (!decide (x=.non))) H):=by
 intro pins s σ H x y v u Q I d e h
 obtain ⟨rfl,q⟩:=h
 cases e
 refine isnot_none_gen (CA I q ?_)
 cases x<;>first
  |(cases d;rfl)
  |(obtain ⟨t,rfl⟩:=d;rfl)
def MU (b:bp) {op:M5} (h:op≠.In:=by decide) (d:op≠.NotIn:=by decide):ij op b=false:=by
 have f:(op==CmpOp.In)=false:=by cases op<;>first|rfl|exact absurd rfl h
 have e:(op==CmpOp.NotIn)=false:=by cases op<;>first|rfl|exact absurd rfl d
 cases b<;>simp [ij,f,e]
def R0 {op:M5}{r:R2} (ho:qG X (bI op) r) (e:PE X a ta) (f:PE X b tb) (g:ij op b=false):PE X (.Compare a [op] [b] pos) (Ww r ta tb):=by
 intro pins s σ H Q I h
 exact wpAny_Compare1 (UK e f I h λv u l x y j i d k q=>ho pins l σ j x y v u Q i d k q) g
def T3 (t:TE):TT:=λσ H Q=>t σ H λx H'=>∃ k,x=.bl k/\Q k H'
def R1 {op:M5}{r:R2} (ho:qG X (bI op) r) (i:PE X a ta) (l:PE X b tb) (n:ij op b=false):PT X (.Compare a [op] [b] pos) (T3 (Ww r ta tb)):=by
 intro pins s σ H Q I h
 refine Qc (eK (i pins s σ H _ I h) λv d ⟨x,f,E,q,j⟩=>eK (l pins d σ f _ E j) λu t ⟨y,p,o,A,w⟩ =>
  eK (ho pins t σ p x y v u _ o q A w) λc K ⟨z,m,g,B,k,e,G⟩=>?_) n
 subst e
 cases B
 exact de ⟨m,g,G⟩
def GT (r h:R2) (ta tb tc:TE):TE:=λσ H Q=>ta σ H λx f=>tb σ f λy e=>r x y e λz d=>∃ k,z=.bl k /\
 (if k=true then tc σ d λi g=>h y i g Q else Q (.bl false) d)
def MV {op f:M5}{r m:R2} (ho:qG X (bI op) r) (i:qG X (bI f) m) (A:PE X a ta) (K:PE X b tb) (B:PE X c tc)
  (M:M6 [op,f] [b,c]=false:=by with_unfolding_all rfl):PE X (.Compare a [op,f] [b,c] pos) (GT r m ta tb tc):=by
 intro pins s σ H Q I h
 refine Compare_chain (eK (A pins s σ H _ I h) λv p ⟨x,t,I1,S,E⟩=>chain_link (eK (K pins p σ t _ I1 E) λu U ⟨y,O,N,n,Y⟩ =>
  eK (ho pins U σ O x y v u _ N S n Y) λd T ⟨z,l,j,r3,k,e,o⟩=>?_)) M
 subst e
 cases r3
 refine de ?_
 cases k with
 |false=>exact ite_ff ⟨.bl false,l,j,rfl,o⟩
 |true=>exact ite_tt (chain_last (eK (B pins T σ l _ j o) λw' q g=>by obtain ⟨P,w,I4,L,G⟩:=g;exact i pins q σ w y P u w' Q I4 n L G))
def MW {op f:M5}{r l:R2} (ho:qG X (bI op) r) (g:qG X (bI f) l) (w:PE X a ta) (G:PE X b tb) (A:PE X c tc)
  (M:M6 [op,f] [b,c]=false:=by with_unfolding_all rfl):PT X (.Compare a [op,f] [b,c] pos) (T3 (GT r l ta tb tc)):=by
 intro pins s σ H Q I h
 refine isTrue_chain (eK (w pins s σ H _ I h) λv o ⟨x,q,I1,T,B⟩=>test_link (eK (G pins o σ q _ I1 B) λu Y ⟨y,O,N,m,q2⟩ =>
  eK (ho pins Y σ O x y v u _ N T m q2) λd U ⟨z,j,i,r3,k,e,n⟩=>?_)) M
 subst e
 cases r3
 refine de ?_
 cases k with
 |false =>
  obtain ⟨k',L,q'⟩:=n
  cases L
  exact ite_ff ⟨j,i,q'⟩
 |true =>
  refine ite_tt (test_last (eK (A pins U σ j _ i n) λw' p ⟨P,t,I4,K,E⟩=>eK (g pins p σ t y P u w' _ I4 m K E) λd' s5 ⟨z2,S,I5,r5,k2,e2,q5⟩=>?_))
  subst e2
  cases r5
  exact de ⟨S,I5,q5⟩
def WC (K:aa) (x:V) (H:Hp) (k:Bool):Prop :=
 match x with
 |.non=>k=false
 |.bl b=>k=b
 |.int i=>k=(i != 0)
 |.str y=>y.length<=sizeLine/\k=((y.length:Int) != 0)
 |.byt y=>y.size<=sizeLine/\k=((y.size:Int) != 0)
 |.ref p=>(∃ xs,nZ K H p xs/\k=!xs.isEmpty)\/(∃ xs,l5 K H p xs/\k=!xs.isEmpty)\/∃ kvs,H p=some (.dK kvs)/\k=!kvs.isEmpty
 |_=>False
def GU {κ:Type}{kvs:List (κ×V)}{d:List (κ×af)} (r:KV kvs d):(!d.isEmpty)=!kvs.isEmpty:=by
 cases r<;>rfl
def yE {xs:List V}{d:List af} (r:dY xs d):(!d.toArray.isEmpty)=!xs.isEmpty:=by
 cases r<;>simp
def ww:(sizeLine:Nat)<2 ^ 63:=by rw [iN];decide
def UR:YX X (λx H Q=>∃ k,WC X.K x H k/\Q k H):=by
 intro pins s σ H x v Q I g h
 obtain ⟨k,e,q⟩:=h
 have A:=ww
 have hs:sizeLine=16777216:=iN
 cases x with
 |non =>
  cases g
  have d:k=false:=e
  subst d
  exact truthy_none ⟨H,I,q⟩
 |bl b =>
  cases g
  have d:k=b:=e
  subst d
  exact de ⟨H,I,q⟩
 |int i =>
  obtain ⟨t,rfl⟩:=g
  have d:k=(i != 0):=e
  subst d
  exact PySem.P.truthy_int ⟨H,I,q⟩
 |str y =>
  obtain ⟨t,rfl⟩:=g
  obtain ⟨u,d⟩:y.length<=sizeLine/\k=((y.length:Int) != 0):=e
  subst d
  exact PySem.P.truthy_str (by omega) ⟨H,I.tok _,q⟩
 |byt y =>
  obtain ⟨t,rfl⟩:=g
  obtain ⟨u,d⟩:y.size<=sizeLine/\k=((y.size:Int) != 0):=e
  subst d
  exact PySem.W.truthy_bytes (by omega) ⟨H,I.tok _,q⟩
 |ref p =>
  cases g
  have d:(∃ xs,nZ X.K H p xs/\k=!xs.isEmpty)\/(∃ xs,l5 X.K H p xs/\k=!xs.isEmpty)\/∃ kvs,H p=some (.dK kvs)/\k=!kvs.isEmpty:=e
  rcases d with ⟨xs,j,d⟩|⟨xs,j,d⟩|⟨kvs,j,d⟩
  ·subst d
   obtain ⟨n,r,pl,o⟩:=I.list j
   have f:=r.length
   exact wpAny_truthy_list pl.isList (by simp only [aR];omega) ⟨H,I.tok _,by rw [yE r];exact q⟩
  ·subst d
   obtain ⟨n,r,pl,o⟩:=I.tuple j
   have f:=r.length
   exact truthy_tuple pl (by simp only [aR];omega) ⟨H,I.tok _,by rw [yE r];exact q⟩
  ·subst d
   obtain ⟨o,z,l,r,m⟩:kvs.length<=sizeLine/\(p==fz)=false/\∃ l,KV kvs l/\s.heap.DictOf (cS X.prog X.w) p l:=I.hok p _ j
   have f:kvs.length=l.length:=gZ r
   exact wpAny_truthy_dict z m (by omega) ⟨H,I.tok _,by rw [GU r];exact q⟩
 |_=>exact (show False from e).elim
def MX (ha:PE X a ta) (he:∀ whole,ml a X.env whole=(do let v <- whole;ku a.pos;Ap [v] (truthy v))) :
  PT X a (λσ H Q=>ta σ H λx H'=>∃ k,WC X.K x H' k/\Q k H'):=by
 intro pins s σ H Q I h
 exact isTrue_plain (eK (ha pins s σ H _ I h) λv s1 h_23=>by obtain ⟨x,H1,I1,r1,q1⟩:=h_23;exact UR pins s1 σ H1 x v Q I1 r1 q1) (he _)
def GV:qG X (gO .Add) (λx y H Q=>∃ i j,x=.str i/\y=.str j/\i.length+j.length<=sizeLine/\Q (.str (i++j)) H):=by
 intro pins s σ H x y v u Q I d f h
 obtain ⟨i,j,rfl,rfl,e,q⟩:=h
 obtain ⟨t,rfl⟩:=d
 obtain ⟨t',rfl⟩:=f
 exact add_str (λt' g=>⟨.str (i++j),H,I.tok _,⟨_,rfl⟩,q⟩) e
def l9 {x:V}{d:List af} (r:dY [x] d):∃ u,d=[u]/\dR x u:=by
 cases r with
 |cons e f=>cases f;exact ⟨_,rfl,e⟩
def T4 {x y:V}{d:List af} (r:dY [x,y] d):∃ u e,d=[u,e]/\dR x u/\dR y e:=by
 cases r with
 |cons h f =>
  cases f with
  |cons g i=>cases i;exact ⟨_,_,rfl,h,g⟩
end
end L2
namespace L2
open PySem PySem.Spec PyProof.Rows
structure US (h:bD) (x dx C:ao) (mA:Str->Option af):Prop where
 obj:h.get? x=some (xF C dx)
 ns:h.Ns1 dx mA
 ne:dx≠x
def KB {h:bD}{d:ao}{c:Str->Option af} (n:h.Ns1 d c):∃ f,h.get? d=some f/\∀ name,yy name f=some (c name):=by
 obtain ⟨o,es,ep,ho,k,l,_,i⟩:=n
 refine ⟨o,ho,λname=>?_⟩
 have e:=i name
 unfold nsFind findBy at e
 rw [<- Kc] at e
 unfold yy
 rw [k]
 dsimp only
 split
 ·rename_i y q
  rw [q] at e
  exact congrArg some e
 ·rename_i q
  rw [q] at e
  have a:es.toList.any (·.refKey)=false:=by
   rw [oE]
   intro y g
   obtain ⟨z,t,b⟩:=l y (Array.mem_toList_iff.mp g)
   simp [DictEntry.refKey,b]
  have j:¬ es.toList.any (·.refKey)=true:=by rw [a];exact bw
  rw [if_neg j]
  exact congrArg some e
def US.look {h:bD}{x c C:ao}{b:Str->Option af} (I:US h x c C b):∃ a,PySem.W.InstAt h x (xF C c) C (some a)/\∀ name,yy name a=some (b name) :=
 let ⟨a,ho,hl⟩:=KB I.ns
 ⟨a,⟨I.obj,rfl,rfl,ho⟩,hl⟩
section
variable {prog:a_}{w:bz}{A:bB}{E:af->ai->Prop}{s:ai}{K:aa}{x dx C f:ao}{mA:Str->Option af}{name:Str}{v:af}
end
def yD.some_of {v:V}{o:Option af} (r:yD (some v) o):∃ u,o=some u/\dR v u:=by
 cases o with
 |none=>exact (show False from r).elim
 |some u=>exact ⟨u,rfl,r⟩
section
variable {P:a_}{w:bz}{H H':Hp}{h h':bD}{a C dx:ao}{fs fs':List (Str×V)}
def R4 (c:qz P w H h) (e:H a=some (.ins C dx fs)):∃ b,US h a dx C b/\(∀ f,yD (fs.lookup f) (b f))/\PySem.Within b (fs.map (·.1))/\fs.length<=1000/\H dx=some (.own a):=by
 obtain ⟨d,z,ne,ob,b,n,r,q⟩:=(show dI P w H h a (.ins C dx fs) from c a _ e)
 exact ⟨b,⟨ob,n,ne⟩,r,q,z,d⟩
end
structure Y_ (K:aa) (C:ao):Prop where
 pg:Ke K C Str.empty=true
 hd:PySem.W.hasDictIn K C=true
 po:PySem.W.plainOver K C=true
 sa:mn K (.ref C) "__setattr__"=some (some (.builtin "object.__setattr__"))
def Y_.get {K:aa}{C:ao} (c:Y_ K C) (f:Str):Ke K C f=true:=c.pg
section
variable {X:Cx}{pins:List (ao×Obj)}{σ:St}{H:Hp}{s:ai}{a C dx:ao}{fs:List (Str×V)}{f:Str}{v:V}{A:bB}{E:af->ai->Prop}
end
section
variable {X:Cx}{o e value:bp}{f:Str}{pos pos' tpos:Pos}{ta tv:TE}
end
section
variable {X:Cx}{pins:List (ao×Obj)}{σ:St}{H:Hp}{s:ai}{A:bB}{E:af->ai->Prop}{Q:af->ai->Prop}{c:af}{b:Bool}
inductive xQ (K:aa) (H:Hp):V->af->Prop where
 |non:xQ K H .non (.type "NoneType")
 |bl (x:Bool):xQ K H (.bl x) (.type "bool")
 |int (i:Int):xQ K H (.int i) (.type "int")
 |str (x:Str):xQ K H (.str x) (.type "str")
 |flt (x:UInt64):xQ K H (.flt x) (.type "float")
 |lst {a:ao}{xs:List V} (e:H a=some (.lst xs)):xQ K H (.ref a) (.type "list")
 |frz {a:ao}{o:Obj}{xs:List V} (e:H a=some (.frz o (.lst xs))):xQ K H (.ref a) (.type "list")
 |tup {a:ao}{xs:List V} (e:H a=some (.tup xs)):xQ K H (.ref a) (.type "tuple")
 |dK {a:ao}{kvs:List (dQ×V)} (e:H a=some (.dK kvs)):xQ K H (.ref a) (.type "dict")
 |dT {a:ao}{kvs:List (List dQ×V)} (e:H a=some (.dT kvs)):xQ K H (.ref a) (.type "dict")
 |ins {a C dx:ao}{fs:List (Str×V)} (e:H a=some (.ins C dx fs)) (cl:Y_ K C) (ha:mn K (.ref C) "__class__"=some (some (.builtin "object.__class__")))
   (hn:IA K (.builtin "object.__class__") "__get__"=some (some (.builtin "getset_descriptor.__get__"))) (htk:M7 K (.builtin "object.__class__")=some true)
   (hm:iB K C (.type "object")=some true):xQ K H (.ref a) (.ref C)
def rU {x:V}{u t:af} (I:bL X pins σ H s) (d:dR x u) (ty:xQ X.K H x t) (e:qJ X.K t c=some b) (h:∀ G,Q (.bool b) { s with toks:=G }) :
  au (aA X.prog X.w) A (call (.builtin "isinstance") [u,c]) Q E s:=by
 cases ty with
 |non=>cases (show u=eR from d);exact dg PySem.W.kitx_none I.kIn jb e (λz=>nomatch z) h
 |bl y=>cases (show u=K9 y from d);exact dg PySem.W.kitx_bool I.kIn jb e (λz=>nomatch z) h
 |int i=>obtain ⟨t,q⟩:=(show ∃ t,u=jg i t from d);cases q;exact dg PySem.W.kitx_int I.kIn jb e (λz=>nomatch z) h
 |str y=>obtain ⟨t,q⟩:=(show ∃ t,u=iH y t from d);cases q;exact dg PySem.W.kitx_str I.kIn jb e (λz=>nomatch z) h
 |flt y=>obtain ⟨t,q⟩:=(show ∃ t,u=Value.float y t from d);cases q;exact dg PySem.W.kitx_float I.kIn jb e (λz=>nomatch z) h
 | @lst a xs f =>
  cases (show u=bv a from d)
  obtain ⟨_,_,n,_,g⟩:=(show dI X.prog X.w H s.heap a (.lst xs) from I.hok a _ f)
  exact dg uV I.kIn ⟨_,g,rfl⟩ e (λz=>nomatch z) h
 | @frz a ob xs f =>
  cases (show u=bv a from d)
  obtain ⟨_,_,_,n,_,g⟩:=(show dI X.prog X.w H s.heap a (.frz ob (.lst xs)) from I.hok a _ f)
  exact dg uV I.kIn ⟨_,g,rfl⟩ e (λz=>nomatch z) h
 | @tup a xs f =>
  cases (show u=bv a from d)
  obtain ⟨_,_,_,p⟩:=(show dI X.prog X.w H s.heap a (.tup xs) from I.hok a _ f)
  obtain ⟨o,g,j,_⟩:=p
  exact dg Gy I.kIn ⟨o,g,j⟩ e (λz=>nomatch z) h
 | @dK a kvs f =>
  cases (show u=bv a from d)
  obtain ⟨_,_,P,_,p⟩:=(show dI X.prog X.w H s.heap a (.dK kvs) from I.hok a _ f)
  obtain ⟨o,es,ep,g,j,_⟩:=p
  exact dg IB I.kIn ⟨o,g,j.1⟩ e (λz=>nomatch z) h
 | @dT a kvs f =>
  cases (show u=bv a from d)
  obtain ⟨_,_,xs,_,o,es,ep,g,j,_⟩:=(show dI X.prog X.w H s.heap a (.dT kvs) from I.hok a _ f)
  exact dg IB I.kIn ⟨o,g,j.1⟩ e (λz=>nomatch z) h
 | @ins a C M fs f l m B k v =>
  cases (show u=bv a from d)
  obtain ⟨L,O,_⟩:=R4 I.hok f
  obtain ⟨N,J,_⟩:=O.look
  exact dg (PySem.W.kitx_own (l.get _) l.hd m B k v) I.kIn J e (λz=>nomatch z) h
end
end L2
namespace L2
open PySem PySem.Spec PyProof.Rows
structure lc (k:Nat) (A:bB):Prop where
 hd:A.handled=none
 dp:A.depth+3*k+5<recursionLimit
 un:A.units+16*k+200<gC
def lc.mono {j k:Nat}{A:bB} (r:lc k A) (h:j<=k):lc j A:=⟨r.hd,by have:=r.dp;omega,by have:=r.un;omega⟩
def lc.deeper {k:Nat}{A:bB} (r:lc (k+1) A) (env:Env):lc k (A.deeper env) :=
 ⟨r.hd,by have:=r.dp;show A.depth+1+3*k+5<_;omega,by have:=r.un;show A.units+3+16*k+200<_;omega⟩
def lc.depth {k:Nat}{A:bB} (r:lc k A):A.depth<recursionLimit:=by have:=r.dp;omega
def lc.units {k:Nat}{A:bB} (r:lc k A):A.units+64<gC:=by have:=r.un;omega
def R5:TA:=λ_ H Q=>Q [] H
def IK (c:TE) (d:TA):TA:=λσ H Q=>c σ H λx b=>d σ b λxs a=>Q (x::xs) a
section
variable {X:Cx}{e:bp}{es:List bp}{te:TE}{t:TA}{pos:Pos}
def jx:PA X [] R5:=λ_ _ _ _ H Q I h=>M8 ⟨[],H,I,.nil,h⟩
def hU (d:PE X e te) (g:PA X es t) (hs:aH (e::es) X.env=(false,dn e X.env)::aH es X.env:=by rfl):PA X (e::es) (IK te t):=by
 intro pos pins s σ H Q I h
 rw [hs]
 show au _ _ (spliced ((false,dn e X.env)::fX pos (aH es X.env))) _ _ s
 refine Kf (eK (d pins s σ H _ I h) λu b ⟨x,c,n,k,f⟩=>?_)
 exact eK (g pos pins b σ c _ n f) λp o a=>by obtain ⟨xs,j,i,m,l⟩:=a;exact ⟨x::xs,j,i,.cons k m,l⟩
def Z0 (t:TA):TE:=λσ H Q=>t σ H λxs a=>xs.length<=sizeLine/\∀ p,a p=none->Q (.ref p) (upd a p (.tup xs))
def Z1 (t:TA):TE:=λσ H Q=>t σ H λxs a=>xs.length<=sizeLine/\∀ p,a p=none->Q (.ref p) (upd a p (.lst xs))
def UT {x1} (h:PA X es t):PE X (.Tuple es x1 pos) (Z0 t):=by
 intro pins s σ H Q I f
 refine wpAny_Tuple_spliced (eK (h pos pins s σ H _ I f) λi a ⟨xs,c,d,r,z,q⟩=>⟨by rw [<- r.length];exact z,?_⟩)
 have g:c a.heap.objs.size=none:=d.hok.fresh (aw _)
 refine ⟨.ref a.heap.objs.size,upd c a.heap.objs.size (.tup xs),d.laid (t':=a.toks) (λb u e=>ac _ e) (aw _) ?_,rfl,q _ g⟩
 exact ⟨z,i,r,⟨_,ay _ rfl,rfl,_,rfl⟩⟩
def u6 (h:PA X es t):PE X (.List es pos) (Z1 t):=by
 intro pins s σ H Q I f
 refine wpAny_List_spliced (eK (h pos pins s σ H _ I f) λi a ⟨xs,c,d,r,z,q⟩=>⟨by rw [<- r.length];exact z,?_⟩)
 have g:c a.heap.objs.size=none:=d.hok.fresh (aw _)
 refine ⟨.ref a.heap.objs.size,upd c a.heap.objs.size (.lst xs),d.laid (t':=a.toks) (λb u e=>ac _ e) (aw _) ?_,rfl,q _ g⟩
 exact ⟨z,i,0,r,ay _ rfl⟩
end
abbrev Sp:=List V->Hp->VK->XK->Prop
abbrev KC:=List Env->Hp->ai->XK->af->ai->Prop
structure R6 (P:a_) (w:bz) (K:aa) (mg:Str->Option af) (base:bD) (A:bB) (outer:List Env) (s:ai) (H:Hp):Prop where
 frames:A.frames=some outer
 mod:Mod K mg base
 bs:∀ b o,base.get? b=some o->s.heap.get? b=some o/\H b=none
 bsz:base.objs.size<=s.heap.objs.size
 funs:s.heap.FunFrames base outer
 frf:∀ b∈wj outer,H b=none
 hok:qz P w H s.heap
 bare:qB s.gens
inductive CE (outer:List Env) (P:a_) (w:bz) (H:Hp) (s:ai) (Q:VK) (u:af) (s':ai):Prop
 |mk (v H':_) (h0:s'.os=s.os) (h1:qB s'.gens) (h2:Un (wj outer) [] H H' s.heap s'.heap) (h3:qz P w H' s'.heap) (h4:dR v u) (h5:Q v H'):CE outer P w H s Q u s'
def CR (CX:KC) (outer:List Env) (P:a_) (w:bz) (H:Hp) (s:ai) (Q:VK) (E:XK) (r:qK) (s':ai):Prop :=
 match r with
 |.ok (.ret u)=>CE outer P w H s Q u s'
 |.ok _=>False
 |.error e=>CX outer H s E e s'
structure sZ (P:a_) (w:bz) (K:aa) (mg:Str->Option af) (base:bD) (CX:KC) (k:Nat) (f:ao) (fd:fG) (ps:List Str) (sp:Sp):Prop where
 len:∀ vs H Q E,sp vs H Q E->vs.length=ps.length
 run:∀ (A:bB) (outer:List Env) (s:ai) (H:Hp) (args:Args) (us:List af) (vs:List V) (Q:VK) (E:XK),lc k A->R6 P w K mg base A outer s H->Ar s fd args (ps.zip us)->dY vs us->sp vs H Q E ->
  dZ (aA P w) A (.call (.ref f) args) (CR CX outer P w H s Q E) s
def sZ.imp {P:a_}{w:bz}{K:aa}{g:Str->Option af}{base:bD}{CX:KC}{k:Nat}{f:ao}{d:fG}{e:List Str}{sp b:Sp} (F:sZ P w K g base CX k f d e sp)
  (h:∀ a H Q E,b a H Q E->sp a H Q E):sZ P w K g base CX k f d e b :=
 ⟨λa H Q E q=>F.len a H Q E (h _ _ _ _ q),λA outer s H c l a Q E i he j m hs=>F.run A outer s H c l a Q E i he j m (h _ _ _ _ hs)⟩
section
variable {X:Cx}{pins:List (ao×Obj)}{σ:St}{H:Hp}{s s':ai}
def bL.env0 (I:bL X pins σ H s):R6 X.prog X.w X.K X.mg X.base X.A X.stack s H :=
 ⟨I.ok.frames,I.ok.mod,I.bs,cn I.ok.bsz I.sz,I.stack,I.stkFree,I.hok,I.bare⟩
def bL.after {Q:VK}{u:af} (I:bL X pins σ H s) (h:CE X.stack X.prog X.w H s Q u s'):EP X pins σ Q u s':=by
 obtain ⟨v,H',i,a,un,e,r,q⟩:=h
 obtain ⟨f,g,d,t,c⟩:=s'
 obtain rfl:c=s.os:=i
 exact ⟨v,H',I.call (h':=f) (g':=g) (d':=d) (t':=t) (ch:=[]) un e a (λb z=>absurd z (by simp)),r,q⟩
end
def T5 (sp:Sp) (a:List V) (E:XK) (t:TA):TE:=λσ H Q=>t σ H λc b=>sp (c++a) b Q E
def lO (K:aa) (c:fG) (b:List Str) (ds:List af):Prop :=
 ∀ (s:ai) (a:List af),K.In s.heap->(a++ds).length=b.length->Ar s c ⟨a,[]⟩ (b.zip (a++ds))
def lO.all {K:aa}{c:fG}{b:List Str} (h:∀ a:List af,a.length=b.length->Qv c ⟨a,[]⟩=pure (b.zip a)):lO K c b []:=λs a _ d=>by
 rw [bN] at d ⊢
 exact .of_eq (h a d)
def qV (CX:KC) (X:Cx) (E:XK):Prop:=∀ (pins:List (ao×Obj)) (σ:St) (H:Hp) (s:ai) (e:af) (s':ai),bL X pins σ H s->CX X.stack H s E e s'->X.xe e s'
section
variable {X:Cx}{CX:KC}{k:Nat}{f C:ao}{fd:fG}{ps:List Str}{sp:Sp}{dvs:List V}{ds:List af}{E:XK}{x m:Str}{p pos apos:Pos}{e o:bp}{es:List bp}{ta:TE}{t:TA}
def UU {pins:List (ao×Obj)}{σ:St}{H:Hp}{s:ai}{Q:VK}{a:List af}{c:List V} (F:sZ X.prog X.w X.K X.mg X.base CX k f fd ps sp) (l:lc k X.A) (q:lO X.K fd ps ds) (i:dY dvs ds) (n:qV CX X E)
  (I:bL X pins σ H s) (r:dY c a) (h:sp (c++dvs) H Q E):au (aA X.prog X.w) X.A (call (.ref f) a) (EP X pins σ Q) X.xe s:=by
 have d:dY (c++dvs) (a++ds):=r.append i
 have g:(a++ds).length=ps.length:=by rw [<- d.length];exact F.len _ _ _ _ h
 refine wpAny_call (oF (F.run X.A X.stack s H ⟨a,[]⟩ (a++ds) (c++dvs) Q E l I.env0 (q s a I.kIn g) d h) λr s' b=>?_)
 cases r with
 |error e=>exact n pins σ H s e s' I b
 |ok j =>
  cases j with
  |ret u=>exact I.after b
  |next=>exact j7 b
  |brk=>exact j7 b
  |cont=>exact j7 b
def IL (F:sZ X.prog X.w X.K X.mg X.base CX k f fd ps sp) (g:lc k X.A) (v:Gl X x) (j:X.mg x=some (.ref f)) (n:fY X.K (.ref f)=true) (i:lO X.K fd ps ds) (l:dY dvs ds) (u:qV CX X E)
  (d:PA X (e::es) t) (a:(x==("__debug__" : Str))=false:=by decide) (he:aH (e::es) X.env=(false,dn e X.env)::aH es X.env:=by rfl) (b:(fX pos (aH es X.env)).any (·.1)=false:=by rfl) :
  PE X (.Call (.Name x p) (e::es) [] pos) (T5 sp dvs E t):=by
 intro pins s σ H Q I h
 refine kE (II I v j ?_ a)
 refine PySem.W.callWith_K (h₀:=X.base) I.ok.mod.kin n (eK (d pos pins s σ H _ I h) λB y ⟨G,z,c,r,q⟩=>⟨c.kIn,?_⟩) he b
 exact UU F g i l u c r q
end
section
variable {X:Cx}{CX:KC}{k:Nat}{f C:ao}{fd:fG}{ps ks:List Str}{sp:Sp}{E:XK}{x m:Str}{p pos apos kpos:Pos}{e o:bp}{es:List bp}{kws:List As}{te ta:TE}{t tk:TA}{nm:Option Str}
variable {g:List af->List af->List af}{gV:List V->List V->List V}
end
structure bR (N P:List Str) (sc:eX):Prop where
 kind:sc.kind=.function
 co:sc.isCoroutine=false
 gen:sc.isGenerator=false
 nd:N.Nodup
 pre:N.take P.length=P
 par:∀ x∈P,sc.names.lookup x=some .local\/sc.names.lookup x=some .cell
 nofree:∀ y∈sc.names,y.2≠.free
def Bh {a:Str->Option lz}{x:Str}:∀ {binds:List (Str×af)}{m:Str->Option af},(∀ v,(x,v)∉binds)->M9 a binds m x=m x
 |[],_,_=>rfl
 |(n,v)::r,m,h=>by
  unfold M9
  rw [Bh λw b=>h w (ag _ b)]
  split
  ·have:x≠n:=by rintro rfl;exact h v ak
   simp [this]
  ·rfl
def Bj {a:Str->Option lz}{x:Str}:∀ {binds:List (Str×af)}{m:Str->Option af},(∀ v,(x,v)∉binds)->Ma a binds m x=m x
 |[],_,_=>rfl
 |(n,v)::r,m,h=>by
  unfold Ma
  rw [Bj λw b=>h w (ag _ b)]
  split
  ·rfl
  ·have:x≠n:=by rintro rfl;exact h v ak
   simp [this]
def Bk {a:Str->Option lz}{x:Str}{v:af}:∀ {P:List Str}{b:List af}{i:Nat}{m:Str->Option af},P.Nodup->P[i]?=some x->b[i]?=some v->a x=some .local ->
  M9 a (P.zip b) m x=some v
 |[],_,_,_,_,h,_,_=>by simp at h
 |_::_,[],_,_,_,_,h,_=>by simp at h
 |p::P,w::b,0,m,e,c,d,f=>by
  simp at c d;subst c;subst d
  show M9 a ((p,w)::P.zip b) m p=_
  unfold M9
  rw [Bh λv g=>(List.nodup_cons.mp e).1 (Ah g).1,if_pos f]
  simp
 |p::P,w::b,i+1,m,e,c,d,f=>by
  show M9 a ((p,w)::P.zip b) m x=_
  unfold M9
  exact Bk (i:=i) (List.nodup_cons.mp e).2 (by simpa using c) (by simpa using d) f
def Bl {a:Str->Option lz}{x:Str}{v:af}:∀ {P:List Str}{b:List af}{i:Nat}{m:Str->Option af},P.Nodup->P[i]?=some x->b[i]?=some v->a x≠some .local ->
  Ma a (P.zip b) m x=some v
 |[],_,_,_,_,h,_,_=>by simp at h
 |_::_,[],_,_,_,_,h,_=>by simp at h
 |p::P,w::b,0,m,e,c,d,f=>by
  simp at c d;subst c;subst d
  show Ma a ((p,w)::P.zip b) m p=_
  unfold Ma
  rw [Bj λv g=>(List.nodup_cons.mp e).1 (Ah g).1,if_neg f]
  simp
 |p::P,w::b,i+1,m,e,c,d,f=>by
  show Ma a ((p,w)::P.zip b) m x=_
  unfold Ma
  exact Bl (i:=i) (List.nodup_cons.mp e).2 (by simpa using c) (by simpa using d) f
def start (N:List Str) (a:List V):St:=a.map some++tE (N.length-a.length) none
def yF (CX:KC) (P:a_) (w:bz) (K:aa) (mg:Str->Option af) (base:bD) (N:List Str) (qual:Str) (scope:eX) (f:ao) (cd:af) (A:bB) (outer:List Env) (s:ai) (H:Hp) (E:XK):Cx where
 prog:=P
 w:=w
 K:=K
 mg:=mg
 base:=base
 A:=A.deeper (tX qual scope s.heap.objs.size f cd)
 N:=N
 s₀:=s
 H₀:=H
 env:=tX qual scope s.heap.objs.size f cd
 outer:=outer
 stack:=tX qual scope s.heap.objs.size f cd::outer
 ex:=[]
 calm:=true
 fn:=λ_=>true
 pn:=[]
 xe:=λe s'=>au (aA P w) (A.deeper (tX qual scope s.heap.objs.size f cd)) (leaving (tX qual scope s.heap.objs.size f cd) e) (λ_ s''=>CX outer H s E e s'') (λe' s''=>CX outer H s E e' s'') s'
def Eh {a:eX}{n:Nat}{x:Str} (h:a.names.lookup x=some .cell):∃ c,(aI n a.names []).lookup x=some c:=by
 have q:=il a.names n [] (.inl h)
 exact Option.isSome_iff_exists.mp q
def KD {CX:KC}{P:a_}{w:bz}{K:aa}{O:Str->Option af}{base:bD}{N m:List Str}{d:Str}{scope:eX}{f:ao}{L:af}{A:bB}{outer:List Env}{s T:ai}{H:Hp}{E:XK}{Q:List af}{t:List V}
  (S:bR N m scope) (hd:A.handled=none) (j:R6 P w K O base A outer s H) (hl:t.length=m.length) (r:dY t Q)
  (x:InCallC s s.heap.objs.size (M9 (tX d scope s.heap.objs.size f L).kindOf (m.zip Q) λ_=>none) (aI (s.heap.objs.size+1) scope.names []) (Ma (tX d scope s.heap.objs.size f L).kindOf (m.zip Q) λ_=>none) T) :
  bL (yF CX P w K O base N d scope f L A outer s H E) [] (start N t) H T:=by
 have a0:m.length<=N.length:=by have:=congrArg tF S.pre;rw [yb] at this;omega
 obtain ⟨I,tk,rfl,X⟩:=x.done
 have o:∀ b:ao,b∉(yF CX P w K O base N d scope f L A outer s H E).ex:=λb z=>absurd (show b∈([] : List ao) from z) (by simp)
 refine ⟨⟨j.mod,S.kind,rfl,rfl,aw _,λy z c I g=>?_,λy l=>?_,λy c _ h=>?_,λ_=>hd,Around.frames_deeper j.frames,.inr ⟨rfl,rfl⟩,λb z=>absurd z (o b),j.bs,j.bsz,λb _ _=>o b,λb z=>absurd z (o b),j.funs,j.frf⟩,
  rfl,j.bare,Un.kept X,⟨_,x.toInCall.ns,λi y v I g h3=>?_⟩,λy c h=>⟨_,x.cell y c h⟩,j.hok.fresh (aw _),λy c h=>?_,λp G=>absurd (show p∈([] : List (ao×Obj)) from G) (by simp),j.hok.kept X,?_⟩
 ·exact name_of_addr x.apart (ed I) (ed g)
 ·have l:scope.names.lookup y=some .cell\/scope.names.lookup y=some .free:=l
  rcases l with l|l
  ·exact Eh l
  ·exact absurd rfl (S.nofree _ (ed l))
 ·exact cw (x.above y c (ed h))
 ·have M:i<t.length:=by
   unfold start at g
   by_cases M:i<t.length
   ·exact M
   ·rw [bg (by simpa using M)] at g
    rw [bJ] at g
    split at g<;>cases g
  have Y:t[i]?=some v:=by
   unfold start at g
   rw [aW (by simpa using M),aX] at g
   cases e:t[i]? with
   |none=>rw [e] at g;cases g
   |some a=>rw [e] at g;cases g;rfl
  obtain ⟨u,U,rv⟩:=r.get Y
  have G:m[i]?=some y:=by
   rw [<- S.pre,List.getElem?_take_of_lt (by omega)];exact I
  have B:m.Nodup:=by rw [<- S.pre];exact S.nd.sublist (List.take_sublist _ _)
  refine ⟨u,rv,?_⟩
  rcases S.par y (c8 G) with k|k
  ·exact .inl ⟨k,Bk B G U k⟩
  ·obtain ⟨c,e⟩:=Eh (n:=s.heap.objs.size+1) k
   refine .inr ⟨.inl k,c,e,?_⟩
   have q:=x.cell y c e
   rw [Bl B G U (by show scope.names.lookup y≠_;rw [k];decide)] at q
   exact q
 ·exact j.hok.fresh (cw (x.above y c (ed h)))
 ·unfold start
  show _=N.length
  rw [aJ,aq,dB]
  omega
def WD {CX:KC}{P:a_}{w:bz}{K:aa}{B:Str->Option af}{base:bD}{k:Nat}{f:ao}{name a:Str}{d:Arguments}{g:List dX}{scope:eX}{X kV l pm c ct oc:af}{an od:Option ao}
  {M:Array (Option af)}{N z:List Str}{sp:Sp} (lk:K.lookup f=some ⟨oc,od,.func (gG name a d g scope X kV l pm an c ct),M⟩) (G:mo K c a=true) (S:bR N z scope)
  (len:∀ h H Q E,sp h H Q E->h.length=z.length)
  (j:∀ (A:bB) (outer:List Env) (s:ai) (H:Hp) (h:List V) (Q:VK) (E:XK),lc k (A.deeper (tX a scope s.heap.objs.size f c))->sp h H Q E ->
   ∃ t,IH (yF CX P w K B base N a scope f c A outer s H E) g t/\t { nx:=λ_ H'=>Q .non H',rt:=Q } (start N h) H) :
  sZ P w K B base CX (k+1) f (gG name a d g scope X kV l pm an c ct) z sp:=by
 refine ⟨len,λA outer s H a0 us h Q E L m hb r p=>?_⟩
 have hl:=len _ _ _ _ p
 have Y:K.In s.heap:=m.mod.kin.keeps λb o e=>(m.bs b o e).1
 have O:s.heap.NoLimit:=m.mod.nolimit.keeps λb o e=>(m.bs b o e).1
 have i:∀ y∈z.zip us,scope.names.lookup y.1=some .local\/(scope.names.lookup y.1=some .cell/\((aI (s.heap.objs.size+1) scope.names []).lookup y.1).isSome=true):=λ⟨n,v⟩ hy=>by
  rcases S.par n (Ah hy).1 with q|q
  ·exact .inl q
  ·exact .inr ⟨q,il _ _ _ (.inl q)⟩
 refine codeAny_call_function L.depth (Y _ _ lk) rfl S.co S.gen rfl (Gz Y G) (hb _ _ _ _ ?_)
 refine wpAny_newFunctionEnv_cells S.kind i λenv he U x=>?_
 subst he
 refine ⟨O.keeps x.toInCall.keep,codeAny_func ?_⟩
 obtain ⟨t,ht,hq⟩:=j A outer s H h Q E (L.deeper _) p
 have I:bL (yF CX P w K B base N a scope f c A outer s H E) [] (start N h) H U:=KD S L.hd m hl r x
 refine aT (ht [] U (start N h) H _ I hq) (λfl s' hs=>?_) λe s' hs=>hs
 have fin:∀ {σ':St}{H':Hp}{v:V}{u:af},bL (yF CX P w K B base N a scope f c A outer s H E) [] σ' H' s'->dR v u->Q v H'->CE outer P w H s Q u s' :=
  λ{σ' H' v u} J T q=>⟨v,H',J.os,J.bare,J.base,J.hok,T,q⟩
 cases fl with
 |ret u =>
  obtain ⟨v,σ',H',J,T,q⟩:=hs
  exact fin J T q
 |next =>
  obtain ⟨σ',H',J,q⟩:=hs
  exact fin (v:=V.non) (u:=eR) J rfl q
 |brk =>
  obtain ⟨_,_,_,q⟩:=hs
  exact j7 q
 |cont =>
  obtain ⟨_,_,_,q⟩:=hs
  exact j7 q
end L2
namespace L2
open PySem PySem.Spec PyProof.Rows
section
variable {X:Cx}{x:Str}{p pos:Pos}{e:bp}{es:List bp}{t:TA}{id T:String}{r:List V->Hp->VK->Prop}
def UV (r:List V->Hp->VK->Prop) (t:TA):TE:=λσ H Q=>t σ H λb a=>r b a Q
def v5 (i:jU X (.builtin id) r) (q:Gl X x) (k:X.mg x=none) (o:iU x=some (.builtin id)) (g:PA X (e::es) t) (l:x≠"__name__":=by decide) (b:(x==("__debug__" : Str))=false:=by decide)
  (he:aH (e::es) X.env=(false,dn e X.env)::aH es X.env:=by rfl) (c:(fX pos (aH es X.env)).any (·.1)=false:=by rfl):PE X (.Call (.Name x p) (e::es) [] pos) (UV r t):=by
 intro pins s σ H Q I h
 refine kE (qR I q k o ?_ l b)
 exact tG (eK (g pos pins s σ H _ I h) λn d a=>by obtain ⟨v,f,u,m,j⟩:=a;exact i pins d σ f v n Q u m j) he c
def wx (i:jU X (.type T) r) (u:Gl X x) (k:X.mg x=none) (o:iU x=some (.type T)) (g:PA X (e::es) t) (l:x≠"__name__":=by decide) (b:(x==("__debug__" : Str))=false:=by decide)
  (he:aH (e::es) X.env=(false,dn e X.env)::aH es X.env:=by rfl) (c:(fX pos (aH es X.env)).any (·.1)=false:=by rfl):PE X (.Call (.Name x p) (e::es) [] pos) (UV r t):=by
 intro pins s σ H Q I h
 refine kE (qR I u k o ?_ l b)
 exact ik (eK (g pos pins s σ H _ I h) λn d a=>by obtain ⟨v,f,q,m,j⟩:=a;exact i pins d σ f v n Q q m j) he c
end
end L2
namespace HT
open PySem PyProof.Rows
section
open PySem.SeqAt
open PySem.AutoSeq1 (wpAny_loadPart')
open PySem.MeetsSeq PySem.MeetsSeq2 PySem.MeetsSeq3
end
section
variable {prog:a_}{w:bz}{A:bB}{E:af->ai->Prop}{s:ai}
def R7 {t b:ao}{d a:List af}{Q:af->ai->Prop} (y:Gw s.heap t d.toArray) (z:Gw s.heap b a.toArray) (v:d≠[])
  (x:a=[]->Q (.ref t) s) (B:a≠[]->Q (.ref s.heap.objs.size) { s with heap:=s.heap.push { cls:=.type "tuple",data:=.seq (d++a).toArray } })
  (hsz:d.length+a.length<=sizeLine):au (aA prog w) A (gO .Add (.ref t) (.ref b)) Q E s:=by
 obtain ⟨⟨cls,p,data,u⟩,ho,l,n,q⟩:=id y
 obtain ⟨⟨o,f,k,g⟩,c,h,m,i⟩:=id z
 simp only at l q h i
 subst l q h i
 have e:d.toArray++a.toArray=(d++a).toArray:=by simp
 by_cases j:a=[]
 ·exact At ⟨_,ho,rfl⟩ ⟨_,c,rfl⟩ Cj Kg pf oG (nQ _ _)
   (tuple_addW1 t b d.toArray a.toArray n m p f u g (by simpa using v) (by simp [j])) ⟨ho,c,x j⟩
 ·refine At ⟨_,ho,rfl⟩ ⟨_,c,rfl⟩ Cj Kg pf oG (nQ _ _)
   (tuple_addW2 t b d.toArray a.toArray n m p f u g (by simpa using v) (by simpa using j) (by rw [aR,aR];exact hsz)) ⟨ho,c,?_⟩
  rw [e]
  exact B j
def jd (n d:Nat):Option Int->Nat
 |none=>d
 |some v=>if v<0 then (v+(n:Int)).toNat else min v.toNat n
def Ei (n d:Nat):jd n d none=d:=rfl
def IM (n d k:Nat):jd n d (some (k:Int))=min k n:=by
 show (if (k:Int)<0 then ((k:Int)+(n:Int)).toNat else min (k:Int).toNat n)=min k n
 rw [if_neg (by omega),kF]
def UW (n d:Nat) (b:d<=n) (o:Option Int):jd n d o<=n:=by
 cases o with
 |none=>exact b
 |some v =>
  show (if v<0 then (v+(n:Int)).toNat else min v.toNat n)<=n
  by_cases a:v<0
  ·rw [if_pos a];omega
  ·rw [if_neg a];exact yz _ _
def IN (v:Int) (n d:Nat):(if v<0 then max (v+(n:Int)) 0 else min v (n:Int))=((jd n d (some v):Nat):Int):=by
 show (if v<0 then max (v+(n:Int)) 0 else min v (n:Int))=(((if v<0 then (v+(n:Int)).toNat else min v.toNat n):Nat):Int)
 by_cases a:v<0
 ·simp only [if_pos a];omega
 ·simp only [if_neg a];omega
def GW (lo a:Option Int) (n:Nat):lA lo a 1 (n:Int)=(((jd n 0 lo:Nat):Int),((jd n n a:Nat):Int)):=by
 have b:¬ ((1:Int)<0):=by omega
 unfold lA
 simp only [b,if_false]
 refine Prod.ext ?_ ?_
 ·cases lo with
  |none=>rfl
  |some v=>exact IN v n 0
 ·cases a with
  |none=>rfl
  |some v=>exact IN v n n
def GX (i j:Nat):iI (i:Int) (j:Int) 1=j-i:=by
 unfold iI
 have a:(1:Int) > 0:=by omega
 simp only [a,if_true,Int.ediv_one]
 split<;>omega
def yG {v:af}{o:Option Int}{Q:Option Int->ai->Prop} (p:wk v o) (h:Q o s):au (aA prog w) A (Builtin.Slice.slicePartIndex v) Q E s:=by
 cases p with
 |none=>exact slicePart_none h
 |int i t=>exact slicePart_int h
def oM {f:ao}{e d:af}{lo c:Option Int}{n:Nat}{Q:Int×Int×Nat->ai->Prop} (hs:s.heap.IsSliceOf f e d .none) (pl:wk e lo) (g:wk d c)
  (h:Q (((jd n 0 lo:Nat):Int),1,jd n n c-jd n 0 lo) s):au (aA prog w) A (uW (.ref f) (pure (n:Int))) Q E s:=by
 obtain ⟨j,a,i,b⟩:=id hs
 unfold uW Builtin.Slice.sliceFields
 refine a8 (a8 (er a b (x:=e) rfl (a8 (er a b (x:=d) rfl (a8 (er a b (x:=.none) rfl (a9 ?_)))))))
 refine a8 (slicePart_none ?_)
 show au _ _ (if ((1:Int)==0)=true then _ else _) _ _ s
 rw [if_neg (by decide)]
 refine a8 (yG pl (a8 (yG g (a8 (a9 ?_)))))
 show au _ _ (match lA lo c 1 (n:Int) with|(lo,c)=>pure (lo,(1:Int),iI lo c 1)) _ _ s
 rw [GW lo c n]
 show au _ _ (pure (((jd n 0 lo:Nat):Int),(1:Int),iI ((jd n 0 lo:Nat):Int) ((jd n n c:Nat):Int) 1)) _ _ s
 rw [GX]
 exact a9 h
def MY (xs:Array af) (i k:Nat):((bM k).filterMap λ(m:Nat)=>xs[((i:Int)+(m:Int)*1).toNat]?).toArray=((xs.toList.drop i).take k).toArray:=by
 have e:(λ(m:Nat)=>xs[((i:Int)+(m:Int)*1).toNat]?)=λm=>xs[i+m]?:=by
  funext m
  have:((i:Int)+(m:Int)*1).toNat=i+m:=by omega
  rw [this]
 rw [e]
 have:=pick_run xs i k
 rw [ng] at this
 have a:((λx=>xs[x]?)∘λx=>i+x)=λm=>xs[i+m]?:=rfl
 rw [a] at this
 rw [this]
def v6 {t g:ao}{items:Array af}{j k:af}{lo b:Option Int}{Q:af->ai->Prop} (c:Gw s.heap t items) (hs:s.heap.IsSliceOf g j k .none) (pl:wk j lo) (p:wk k b)
  (n:¬ (jd items.size 0 lo=0/\jd items.size items.size b=items.size))
  (h:Q (.ref s.heap.objs.size) { s with heap:=s.heap.push { cls:=.type "tuple",data:=.seq ((items.toList.drop (jd items.size 0 lo)).take (jd items.size items.size b-jd items.size 0 lo)).toArray } })
  (hsz:items.size<=sizeLine):au (aA prog w) A (qC (.ref t) (.ref g)) Q E s:=by
 have a:sizeOk (.seq ((items.toList.drop (jd items.size 0 lo)).take (jd items.size items.size b-jd items.size 0 lo)).toArray):=by
  show ((items.toList.drop (jd items.size 0 lo)).take (jd items.size items.size b-jd items.size 0 lo)).toArray.size<=sizeLine
  rw [aR,yb,yc,ax]
  omega
 have x:jd items.size items.size b<=items.size:=UW _ _ (aw _) b
 obtain ⟨o,f,d,l⟩:=id hs
 have e:s.TypeIs (.ref g) "slice":=⟨o,f,d⟩
 unfold qC
 try with_reducible refine bZ ?_
 first|refine a8 (a9 ?_)|skip
 refine a8 (wpAny_sequenceKey c.typeIs (by decide) ?_)
 refine a8 (cE (name:=hG "__getitem__") c.typeIs gq
  (bO gq c.typeIs entry_tuple_getitem ?_ (args_tuple_getitem _ _)))
 show au _ _ (uX (.ref t) >>= _) _ _ s
 refine a8 (tupleItemsOf_ c ?_)
 refine a8 (lB e ?_)
 rw [if_pos (by decide)]
 refine a8 (oM hs pl p ?_)
 have i:¬ ((((jd items.size 0 lo:Nat):Int)==0&&(1:Int)==1&&(jd items.size items.size b-jd items.size 0 lo)==items.size)=true):=by
  intro q
  rw [aV,aV] at q
  have u:((jd items.size 0 lo:Nat):Int)=0:=eq_of_beq q.1.1
  have v:jd items.size items.size b-jd items.size 0 lo=items.size:=eq_of_beq q.2
  exact n ⟨by omega,by omega⟩
 show au _ _ (if (((jd items.size 0 lo:Nat):Int)==0&&(1:Int)==1&&(jd items.size items.size b-jd items.size 0 lo)==items.size)=true then _ else _) _ _ s
 rw [if_neg i,MY]
 first
  |exact a8 (m:=iX _) (bK (a9 ⟨_,rfl,a9 h⟩) a)
  |exact a8 (m:=iX _) (bK (a8 (a9 (a9 ⟨_,rfl,a9 h⟩))) a)
  |exact a8 (a8 (m:=iX _) (bK (a9 (a9 ⟨_,rfl,a9 h⟩)) a))
  |exact a8 (a8 (m:=iX _) (bK (a9 ⟨_,rfl,a9 h⟩) a))
end
end HT
namespace L2
open PySem PySem.Spec PyProof.Rows
abbrev TO:=St->Hp->(Option Int->Hp->Prop)->Prop
def PO (X:Cx) (e:Option bp) (t:TO):Prop :=
 ∀ (pins:List (ao×Obj)) (s:ai) (σ:St) (H:Hp) (Q:Option Int->Hp->Prop),bL X pins σ H s->t σ H Q ->
  au (aA X.prog X.w) X.A (evalPart e X.env) (λu s'=>∃ o H',bL X pins σ H' s'/\wk u o/\Q o H') X.xe s
def R8:TO:=λ_ H Q=>Q none H
def WE (t:TE):TO:=λσ H Q=>t σ H λx a=>∃ i,x=.int i/\Q (some i) a
section
variable {X:Cx}{e:bp}{te:TE}{lo hi:Option bp}{tl th:TO}{pos p2:Pos}
def R9:PO X none R8:=by
 intro pins s σ H Q I h
 rw [evalPart_none]
 exact a9 ⟨none,H,I,.none,h⟩
def Ra (h:PE X e te):PO X (some e) (WE te):=by
 intro pins s σ H Q I d
 rw [evalPart_some]
 refine eK (h pins s σ H _ I d) λu j a=>?_
 obtain ⟨x,b,g,f,c⟩:=a
 obtain ⟨i,rfl,q⟩:=c
 obtain ⟨t,rfl⟩:=f
 exact ⟨some i,b,g,.int i t,q⟩
def WF (X:Cx) (r:V->Option Int->Option Int->Hp->VK->Prop):Prop :=
 ∀ (pins:List (ao×Obj)) (s:ai) (σ:St) (H:Hp) (x:V) (v c b:af) (lo hi:Option Int) (a:ao) (Q:VK),bL X pins σ H s->dR x v->s.heap.IsSliceOf a c b .none->wk c lo->wk b hi->r x lo hi H Q ->
  ∃ T id,GA (.type T) "__getitem__"=pure (some (.builtin id))/\s.TypeIs v T/\au (aA X.prog X.w) X.A (qC v (.ref a)) (EP X pins σ Q) X.xe s
def tSl (r:V->Option Int->Option Int->Hp->VK->Prop) (te:TE) (tl th:TO):TE:=λσ H Q=>te σ H λx c=>tl σ c λl b=>th σ b λu a=>r x l u a Q
def MZ {r:V->Option Int->Option Int->Hp->VK->Prop} (p:WF X r) (he:PE X e te) (k:PO X lo tl) (n:PO X hi th):PE X (.Subscript e (.Slice lo hi none p2) pos) (tSl r te tl th):=by
 intro pins s σ H Q I h
 refine Subscript_ (eK (he pins s σ H _ I h) λv g ⟨x,i,M,z,o⟩=>?_)
 refine wpAny_Slice (eK (k pins g σ i _ M o) λc B ⟨l,y,t,pl,E⟩=>eK (n pins B σ y _ t E) λd a ⟨u,f,m,L,O⟩=>?_)
 rw [evalPart_none]
 refine a9 ?_
 have G:bL X pins σ f { a with heap:=a.heap.push { cls:=.type "slice",data:=.fields #[c,d,.none] } }:=m.kept (t':=a.toks) λb ob q=>ac _ q
 obtain ⟨T,id,K,j,N⟩:=p pins { a with heap:=a.heap.push { cls:=.type "slice",data:=.fields #[c,d,.none] } } σ f x v c d l u a.heap.objs.size Q G z (Heap.IsSliceOf.new ..) pl L O
 show au (aA X.prog X.w) X.A (Kh e (.Slice lo hi none p2) v (.ref a.heap.objs.size)) (EP X pins σ Q) X.xe { a with heap:=a.heap.push { cls:=.type "slice",data:=.fields #[c,d,.none] } }
 exact tail_any (ops:=[.ref a.heap.objs.size,v]) j K N (by with_unfolding_all rfl)
def Ej (xs:List V) (lo hi:Option Int):List V:=(xs.drop (HT.jd xs.length 0 lo)).take (HT.jd xs.length xs.length hi-HT.jd xs.length 0 lo)
def xo (xs:List V) (lo hi:Option Int):(Ej xs lo hi).length<=xs.length:=by
 unfold Ej
 rw [yb,yc]
 omega
def Z2 (K:aa):V->Option Int->Option Int->Hp->VK->Prop:=λx lo hi H Q=>∃ a xs,x=.ref a/\l5 K H a xs /\
 ¬ (HT.jd xs.length 0 lo=0/\HT.jd xs.length xs.length hi=xs.length)/\∀ p,H p=none->Q (.ref p) (upd H p (.tup (Ej xs lo hi)))
def UX:WF X (Z2 X.K):=by
 intro pins s σ H x v m n lo hi p Q I i hs pl k h
 obtain ⟨a,xs,rfl,l,j,q⟩:=h
 cases i
 obtain ⟨d,r,f,g⟩:=I.tuple l
 have c:d.toArray.size=xs.length:=by rw [aR];exact r.length.symm
 refine ⟨"tuple",_,PyProof.Rows.slot_tuple_getitem.lookup,f.typeIs,?_⟩
 refine HT.v6 f hs pl k (by rw [c];exact j) ?_ (by rw [c];exact g)
 rw [c]
 refine ⟨.ref s.heap.objs.size,_,I.laid (t':=s.toks) (o:=.tup (Ej xs lo hi)) (λb ob q=>ac _ q) (aw _) ?_,rfl,q _ (I.hok.fresh (aw _))⟩
 exact ⟨cn (xo xs lo hi) g,_,(r.drop (HT.jd xs.length 0 lo)).take (HT.jd xs.length xs.length hi-HT.jd xs.length 0 lo),xG _ _⟩
inductive M_ (K:aa) (x:V) (y:V) (H:Hp) (Q:VK):Prop
 |mk (a b xs ys:_) (h0:x=.ref a) (h1:y=.ref b) (h2:l5 K H a xs) (h3:l5 K H b ys) (h4:xs≠[]) (h5:xs.length+ys.length<=sizeLine) (h6:(ys=[]->Q (.ref a) H)) (h7:(ys≠[]->∀ p,H p=none->Q (.ref p) (upd H p (.tup (xs++ys))))):M_ K x y H Q
def WG (K:aa):R2:=M_ K
def dY.nil_iff {xs:List V}{a:List af} (r:dY xs a):a=[]↔xs=[]:=by
 cases r with
 |nil=>simp
 |cons _ _=>simp
def Rb:qG X (gO .Add) (WG X.K):=by
 intro pins s σ H x y v u Q I i p h
 obtain ⟨a,b,xs,ys,rfl,rfl,j,m,A,g,k,t⟩:=h
 cases i
 cases p
 obtain ⟨l,d,n,_⟩:=I.tuple j
 obtain ⟨f,c,p2,_⟩:=I.tuple m
 refine HT.R7 n p2 (λz=>A (d.nil_iff.mp z)) (λz=>⟨.ref a,H,I,rfl,k (c.nil_iff.mp z)⟩) (λz=>?_) (by rw [<- d.length,<- c.length];exact g)
 refine ⟨.ref s.heap.objs.size,_,I.laid (t':=s.toks) (o:=.tup (xs++ys)) (λb ob q=>ac _ q) (aw _) ?_,rfl,t (λw=>z (c.nil_iff.mpr w)) _ (I.hok.fresh (aw _))⟩
 exact ⟨by rw [aJ];exact g,_,d.append c,xG _ _⟩
end
end L2
namespace L2
open PySem PySem.Spec PyProof.Rows
def UY (n:Nat) (i:Int):Option Nat:=if 0<=i then (if i<n then some i.toNat else none) else if -(n:Int)<=i then some (i+n).toNat else none
def Gq {a:Type} (xs:List a) (i:Int):Option a:=(UY xs.length i).bind λj=>xs[j]?
def Rc {n:Nat}{i:Int}{j:Nat} (h:UY n i=some j):seqIndex? i n=some j/\j<n/\-(n:Int)<=i/\i<n:=by
 unfold UY at h
 by_cases b:0<=i
 ·rw [if_pos b] at h
  by_cases a:i<n
  ·rw [if_pos a] at h
   have e:i.toNat=j:=bY h
   exact ⟨by rw [seqIndex_of b a,e],by omega,by omega,a⟩
  ·rw [if_neg a] at h;cases h
 ·rw [if_neg b] at h
  by_cases a:-(n:Int)<=i
  ·rw [if_pos a] at h
   have e:(i+n).toNat=j:=bY h
   exact ⟨by rw [seqIndex_neg (by omega) a,e],by omega,a,by omega⟩
  ·rw [if_neg a] at h;cases h
def CB {a:Type}{xs:List a}{i:Int}{v:a} (h:Gq xs i=some v):∃ j,seqIndex? i xs.length=some j/\xs[j]?=some v/\j<xs.length/\-(xs.length:Int)<=i/\i<xs.length:=by
 unfold Gq at h
 cases e:UY xs.length i with
 |none=>rw [e] at h;cases h
 |some j =>
  rw [e] at h
  obtain ⟨b,f,c,d⟩:=Rc e
  exact ⟨j,b,h,f,c,d⟩
def rV {a:Type}{xs:List a}{j:Nat}{v:a} (h:xs[j]?=some v):Gq xs (j:Int)=some v:=by
 have b:j<xs.length:=(List.getElem?_eq_some_iff.mp h).1
 have e:UY xs.length (j:Int)=some j:=by
  unfold UY
  rw [if_pos (by omega),if_pos (by omega)];simp
 unfold Gq;rw [e];exact h
def v7 (b:bp):Prop:=∀ o i,D_ b false o i=operate [o,i] (qC o i)
def WH (X:Cx) (r:R2):Prop :=
 ∀ (b a:bp) (pins:List (ao×Obj)) (s:ai) (σ:St) (H:Hp) (x y:V) (v u:af) (Q:VK),bL X pins σ H s->dR x v->dR y u->r x y H Q ->
  D_ a false v u=operate [v,u] (qC v u)->au (aA X.prog X.w) X.A (Kh b a v u) (EP X pins σ Q) X.xe s
def MtR (X:Cx) (id:String) (r:V->List V->Hp->VK->Prop):Prop :=
 ∀ (pins:List (ao×Obj)) (s:ai) (σ:St) (H:Hp) (x:V) (xs:List V) (v:af) (a:List af) (Q:VK),bL X pins σ H s->dR x v->dY xs a->r x xs H Q ->
  au (aA X.prog X.w) X.A (call (.builtin id) (v::a)) (EP X pins σ Q) X.xe s
section
variable {X:Cx}{a b:bp}{ta tb:TE}{pos:Pos}
def T6 {r:R2} (e:WH X r) (d:PE X a ta) (f:PE X b tb) (hs:v7 b):PE X (.Subscript a b pos) (Ww r ta tb):=by
 intro pins s σ H Q I h
 exact Subscript_ (UK d f I h λv u k x y i g c j q=>e a b pins k σ i x y v u Q g c j q (hs _ _))
inductive T7 (K:aa) (x:V) (y:V) (H:Hp) (Q:VK):Prop
 |mk (p xs i v:_) (h0:x=.ref p) (h1:y=.int i) (h2:nZ K H p xs) (h3:Gq xs i=some v) (h4:Q v H):T7 K x y H Q
def WI (K:aa):R2:=T7 K
inductive T8 (K:aa) (x:V) (y:V) (H:Hp) (Q:VK):Prop
 |mk (p xs i v:_) (h0:x=.ref p) (h1:y=.int i) (h2:l5 K H p xs) (h3:Gq xs i=some v) (h4:Q v H):T8 K x y H Q
def Z3 (K:aa):R2:=T8 K
inductive T9 (x:V) (y:V) (H:Hp) (Q:VK):Prop
 |mk (z i c:_) (h0:x=.str z) (h1:y=.int i) (h2:z.length<=sizeLine) (h3:Gq z.cps.toList i=some c) (h4:Q (.str ⟨#[c]⟩) H):T9 x y H Q
def Z4:R2:=T9
def rW:WH X (WI X.K):=by
 intro d k pins s σ H x y v u Q I n E h hs
 obtain ⟨p,xs,i,z,rfl,rfl,A,he,q⟩:=h
 cases n
 obtain ⟨t,rfl⟩:=E
 obtain ⟨e,r,pl,M⟩:=I.list A
 obtain ⟨j,c,L,N,B,G⟩:=CB he
 obtain ⟨w,l,f⟩:=r.get L
 have o:=r.length
 have O:=ww
 have fin:EP X pins σ Q w s:=⟨z,H,I,f,q⟩
 by_cases m:0<=i
 ·have g:i.toNat=j:=by
   rw [seqIndex_of m G] at c
   exact bY c
  exact item_listR pl.isList m (by omega) (by rw [g];simpa using l) fin hs
 ·have g:(i+(e.toArray.size:Int)).toNat=j:=by
   rw [seqIndex_neg (by omega) B] at c
   rw [aR,<- o]
   exact bY c
  exact Mr (x:=w) pl.isList.typeIs slot_list_getitem.lookup
   (wpAny_getItem_list_neg (Q:=λr s'=>r=w/\EP X pins σ Q r s') pl.isList (by omega) (by rw [aR]<;>omega) (by omega) (by rw [g];simpa using l) ⟨rfl,fin⟩) hs
def UZ:WH X (Z3 X.K):=by
 intro c e pins s σ H x y v u Q I g n h hs
 obtain ⟨p,xs,i,z,rfl,rfl,l,he,q⟩:=h
 cases g
 obtain ⟨t,rfl⟩:=n
 obtain ⟨m,r,pl,B⟩:=I.tuple l
 obtain ⟨j,f,o,E,G,M⟩:=CB he
 obtain ⟨w,A,d⟩:=r.get o
 have k:=r.length
 have L:=ww
 have fin:EP X pins σ Q w s:=⟨z,H,I,d,q⟩
 exact Mr (x:=w) pl.typeIs slot_tuple_getitem.lookup
  (getItem_tuple (j:=j) (Q:=λr s'=>r=w/\EP X pins σ Q r s') pl (by omega) (by omega) (by rw [aR,<- k];exact f) (by simpa using A) ⟨rfl,fin⟩) hs
def U_:WH X Z4:=by
 intro d e pins s σ H x y v u Q I g n h hs
 obtain ⟨z,i,c,rfl,rfl,A,he,q⟩:=h
 obtain ⟨t,rfl⟩:=g
 obtain ⟨t',rfl⟩:=n
 obtain ⟨j,f,p,B,l,o⟩:=CB he
 have k:z.cps.toList.length=z.length:=by simp [Str.length]
 rw [k] at f l o
 have E:=ww
 exact tail_any (typeIs_str s z t) slot_str_getitem.lookup (getItem_str (c:=c) (by
  have m:decide (i < -(2 ^ 63:Int))=false:=decide_eq_false (by omega)
  have w:decide (i ≥ 2 ^ 63)=false:=decide_eq_false (by omega)
  rw [m,w,Bool.or_false]) (by rw [f];simpa using p) ⟨.str ⟨#[c]⟩,H,I.tok _,⟨_,rfl⟩,q⟩) hs
def CC (lo c:Option Int) (n:Nat):(mW lo c none n).1=((HT.jd n 0 lo:Nat):Int)/\(mW lo c none n).2.1=((HT.jd n n c:Nat):Int)/\(mW lo c none n).2.2=1:=by
 refine ⟨?_,?_,rfl⟩
 ·cases lo with
  |none=>simp [mW,HT.jd]
  |some i =>
   simp only [mW,HT.jd,hX,show (1:Int) > 0 by decide,if_true]
   by_cases h:i<0
   ·simp only [h,if_true]<;>omega
   ·simp only [h,if_false]<;>omega
 ·cases c with
  |none=>simp [mW,HT.jd]
  |some i =>
   simp only [mW,HT.jd,hX,show (1:Int) > 0 by decide,if_true]
   by_cases h:i<0
   ·simp only [h,if_true]<;>omega
   ·simp only [h,if_false]<;>omega
def AG (c:List af) (lo d:Option Int):slicePick c.toArray lo d none=((c.drop (HT.jd c.length 0 lo)).take (HT.jd c.length c.length d-HT.jd c.length 0 lo)).toArray:=by
 obtain ⟨e,g,f⟩:=CC lo d c.toArray.size
 unfold slicePick
 rw [e,g,f]
 simp only [sliceRange_one,pick_run,aR]<;>rfl
def Z5 (K:aa):V->Option Int->Option Int->Hp->VK->Prop:=λx lo c H Q=>∃ a xs,x=.ref a/\nZ K H a xs/\∀ p,H p=none->Q (.ref p) (upd H p (.lst (Ej xs lo c)))
def Re:WF X (Z5 X.K):=by
 intro pins s σ H x v l m lo d n Q I f hs pl j h
 obtain ⟨a,xs,rfl,k,q⟩:=h
 cases f
 obtain ⟨i,r,e,g⟩:=I.list k
 have c:=r.length
 refine ⟨"list",_,slot_list_getitem.lookup,e.isList.typeIs,?_⟩
 refine wpAny_getItem_list_slice e.isList hs pl j .none (by simp) ?_ (by rw [aR]<;>omega)
 rw [AG,<- c]
 refine ⟨.ref s.heap.objs.size,_,I.laid (t':=s.toks) (o:=.lst (Ej xs lo d)) (λb ob q=>ac _ q) (aw _) ?_,rfl,q _ (I.hok.fresh (aw _))⟩
 exact ⟨cn (xo xs lo d) g,_,0,(r.drop (HT.jd xs.length 0 lo)).take (HT.jd xs.length xs.length d-HT.jd xs.length 0 lo),ay _ rfl⟩
def qW:V->Bool
 |.non=>true
 |.bl _=>true
 |.int _=>true
 |.str _=>true
 |_=>false
def Rf:V->V->Bool
 |.non,.non=>true
 |.bl a,.bl b=>a==b
 |.bl a,.int b=>(if a then 1 else 0)==b
 |.int a,.bl b=>a==(if b then 1 else 0)
 |.int a,.int b=>a==b
 |.str a,.str b=>a==b
 |_,_=>false
def V0 {A:bB}{s:ai}{y x:V}{u v:af} (e:dR y u) (c:dR x v) (f:qW y=true) (d:qW x=true):SeqAt.EqAt A s u v (Rf y x):=by
 cases y with
 |non =>
  cases e
  cases x with
  |non=>cases c;exact SeqAt.EqAt.same _
  |bl b=>cases c;exact SeqAt.EqAt.none_bool b
  |int b=>obtain ⟨t,rfl⟩:=c;exact SeqAt.EqAt.none_int b t
  |str b=>obtain ⟨t,rfl⟩:=c;exact SeqAt.EqAt.none_str b t
  |_=>exact absurd (show false=true from d) bw
 |bl a =>
  cases e
  cases x with
  |non=>cases c;exact SeqAt.EqAt.bool_none a
  |bl b=>cases c;exact SeqAt.EqAt.bool_bool a b
  |int b=>obtain ⟨t,rfl⟩:=c;exact SeqAt.EqAt.bool_int a b t
  |str b=>obtain ⟨t,rfl⟩:=c;exact SeqAt.EqAt.bool_str a b t
  |_=>exact absurd (show false=true from d) bw
 |int a =>
  obtain ⟨t',rfl⟩:=e
  cases x with
  |non=>cases c;exact SeqAt.EqAt.int_none a t'
  |bl b=>cases c;exact SeqAt.EqAt.int_bool a t' b
  |int b=>obtain ⟨t,rfl⟩:=c;exact SeqAt.EqAt.int_int a t' b t
  |str b=>obtain ⟨t,rfl⟩:=c;exact DY a t' b t
  |_=>exact absurd (show false=true from d) bw
 |str a =>
  obtain ⟨t',rfl⟩:=e
  cases x with
  |non=>cases c;exact SeqAt.EqAt.str_none a t'
  |bl b=>cases c;exact SeqAt.EqAt.str_bool a t' b
  |int b=>obtain ⟨t,rfl⟩:=c;exact DZ a t' b t
  |str b=>obtain ⟨t,rfl⟩:=c;exact SeqAt.EqAt.str_str a t' b t
  |_=>exact absurd (show false=true from d) bw
 |_=>exact absurd (show false=true from f) bw
def GY (x:V) (u:af):Bool:=match u with
 |.none=>Rf .non x
 |.bool b=>Rf (.bl b) x
 |.int i _=>Rf (.int i) x
 |.str z _=>Rf (.str z) x
 |_=>false
def N0 {x y:V}{u:af} (r:dR y u) (f:qW y=true):GY x u=Rf y x:=by
 cases y with
 |non=>cases r;rfl
 |bl b=>cases r;rfl
 |int i=>obtain ⟨t,rfl⟩:=r;rfl
 |str z=>obtain ⟨t,rfl⟩:=r;rfl
 |_=>exact absurd (show false=true from f) bw
def v8 {x:V}:∀ {xs:List V}{c:List af},dY xs c->xs.all qW=true->c.any (GY x)=xs.any λy=>Rf y x
 |_,_,.nil,_=>rfl
 |y::xs,u::c,.cons r t,f=>by
  rw [oZ,aV] at f
  rw [eS,eS,N0 r f.1,v8 t f.2]
def qX {A:bB}{s:ai}{x:V}{v:af} (g:dR x v) (e:qW x=true):∀ {xs:List V}{d:List af},dY xs d->xs.all qW=true->∀ u∈d,SeqAt.EqAt A s u v (GY x u)
 |_,_,.nil,_=>λu c=>by cases c
 |y::xs,u::d,.cons r t,f=>λh c=>by
  rw [oZ,aV] at f
  rcases List.mem_cons.mp c with rfl|c
  ·rw [N0 r f.1];exact V0 r g f.1 e
  ·exact qX g e t f.2 h c
def Yp (x:V) (xs:List V):Bool:=xs.any λy=>Rf y x
inductive WJ (K:aa) (neg:Bool) (x:V) (y:V) (H:Hp) (Q:VK):Prop
 |mk (p xs:_) (h0:y=.ref p) (h1:(nZ K H p xs\/l5 K H p xs)) (h2:qW x=true) (h3:xs.all qW=true) (h4:Q (.bl (if neg then !Yp x xs else Yp x xs)) H):WJ K neg x y H Q
def Z6 (K:aa) (c:Bool):R2:=WJ K c
def KF:qG X (bI .In) (Z6 X.K false):=by
 intro pins s σ H x y v u Q I f j h
 obtain ⟨p,xs,rfl,d,g,fs,q⟩:=h
 cases j
 rcases d with d|d
 ·obtain ⟨c,r,pl,i⟩:=I.list d
  refine SeqAt.in_listAt (GY x) pl.isList (λw e=>qX f g r fs w (by simpa using e)) ⟨.bl _,H,I,rfl,?_⟩
  rw [show c.toArray.any (GY x)=c.any (GY x) by simp,v8 r fs]
  exact q
 ·obtain ⟨c,r,pl,i⟩:=I.tuple d
  refine SeqAt.in_tupleAt (GY x) pl (λw e=>qX f g r fs w (by simpa using e)) ⟨.bl _,H,I,rfl,?_⟩
  rw [show c.toArray.any (GY x)=c.any (GY x) by simp,v8 r fs]
  exact q
def CD:qG X (bI .NotIn) (Z6 X.K true):=by
 intro pins s σ H x y v u Q I f j h
 obtain ⟨p,xs,rfl,d,g,fs,q⟩:=h
 cases j
 rcases d with d|d
 ·obtain ⟨c,r,pl,i⟩:=I.list d
  refine SeqAt.notIn_listAt (GY x) pl.isList (λw e=>qX f g r fs w (by simpa using e)) ⟨.bl _,H,I,rfl,?_⟩
  rw [show c.toArray.any (GY x)=c.any (GY x) by simp,v8 r fs]
  exact q
 ·obtain ⟨c,r,pl,i⟩:=I.tuple d
  refine SeqAt.notIn_tupleAt (GY x) pl (λw e=>qX f g r fs w (by simpa using e)) ⟨.bl _,H,I,rfl,?_⟩
  rw [show c.toArray.any (GY x)=c.any (GY x) by simp,v8 r fs]
  exact q
def v9:jU X (.builtin "len") (λxs H Q=>∃ p ys,xs=[.ref p]/\(nZ X.K H p ys\/l5 X.K H p ys)/\Q (.int ys.length) H):=by
 intro pins s σ H xs k Q I r h
 obtain ⟨p,ys,rfl,d,q⟩:=h
 obtain ⟨u,rfl,g⟩:=l9 r
 cases g
 have j:=ww
 rcases d with d|d
 ·obtain ⟨e,f,pl,i⟩:=I.list d
  have c:=f.length
  exact Calls.call_len_list pl.isList (by simp only [aR]<;>omega) ⟨.int ys.length,H,I.tok _,⟨s.toks+1,by rw [aR,c]⟩,q⟩
 ·obtain ⟨e,f,pl,i⟩:=I.tuple d
  have c:=f.length
  exact len_tuple pl (by simp only [aR]<;>omega) ⟨.int ys.length,H,I.tok _,⟨s.toks+1,by rw [aR,c]⟩,q⟩
def CF:jU X (.builtin "len") (λxs H Q=>∃ z,xs=[.str z]/\z.length<=sizeLine/\Q (.int z.length) H):=by
 intro pins s σ H xs c Q I r h
 obtain ⟨z,rfl,e,q⟩:=h
 obtain ⟨u,rfl,t,rfl⟩:=l9 r
 have d:=ww
 exact len_str (by omega) ⟨.int z.length,H,I.tok _,⟨_,rfl⟩,q⟩
def vc:jU X (.type "list") (λxs H Q=>∃ p ys,xs=[.ref p]/\(nZ X.K H p ys\/l5 X.K H p ys)/\∀ l,H l=none->Q (.ref l) (upd H l (.lst ys))):=by
 intro pins s σ H xs x Q I r h
 obtain ⟨p,ys,rfl,i,q⟩:=h
 obtain ⟨u,rfl,v⟩:=l9 r
 cases v
 have fin:∀ (c:List af),dY ys c->ys.length<=sizeLine->∀ (h':bD) (d:Nat),(∀ b t,s.heap.get? b=some t->h'.get? b=some t) ->
   h'.get? s.heap.objs.size=some { cls:=.type "list",dict:=none,data:=.seq c.toArray d,slots:=#[] }->EP X pins σ Q (.ref s.heap.objs.size) { s with heap:=h' }:=λc f g h' d kp e =>
  ⟨.ref s.heap.objs.size,_,I.laid (t':=s.toks) kp (aw _) (show dI X.prog X.w _ h' _ (.lst ys) from ⟨g,c,d,f,e⟩),rfl,q _ (I.hok.fresh (aw _))⟩
 rcases i with i|i
 ·obtain ⟨c,f,pl,g⟩:=I.list i
  have j:=f.length
  obtain ⟨o,ho,k,n,m⟩:=pl.isList
  exact call_list_seq p (.inl rfl) ho k m (λh' d kp e=>fin c f g h' d kp e) (by simp only [aR]<;>omega)
 ·obtain ⟨c,f,pl,g⟩:=I.tuple i
  have j:=f.length
  obtain ⟨o,ho,k,n,m⟩:=pl
  exact call_list_seq p (.inr rfl) ho k m (λh' d kp e=>fin c f g h' d kp e) (by simp only [aR]<;>omega)
def tN:jU X (.type "tuple") (λxs H Q=>∃ p ys,xs=[.ref p]/\((nZ X.K H p ys/\∀ l,H l=none->Q (.ref l) (upd H l (.tup ys)))\/(l5 X.K H p ys/\Q (.ref p) H))):=by
 intro pins s σ H xs n Q I r h
 obtain ⟨p,ys,rfl,h⟩:=h
 obtain ⟨u,rfl,k⟩:=l9 r
 cases k
 rcases h with ⟨d,q⟩|⟨d,q⟩
 ·obtain ⟨c,f,pl,g⟩:=I.list d
  have i:=f.length
  refine call_tuple_list pl.isList (λh' kp=>?_) (by simp only [aR]<;>omega)
  have j:bL X pins σ H { s with heap:=h' }:=I.kept (t':=s.toks) kp
  have m:bL X pins σ (upd H h'.objs.size (.tup ys)) { s with heap:=h'.push { cls:=.type "tuple",data:=.seq c.toArray } } :=
   j.laid (t':=s.toks) (λb o e=>ac _ e) (aw _) (show dI X.prog X.w _ _ _ (.tup ys) from ⟨g,c,f,xG _ _⟩)
  exact ⟨.ref h'.objs.size,_,m,rfl,q _ (j.hok.fresh (aw _))⟩
 ·obtain ⟨c,f,pl,g⟩:=I.tuple d
  exact call_tuple_same pl ⟨.ref p,H,I,rfl,q⟩
def ZR (K:aa) (T:String) (x:V) (H:Hp):Prop:=match x with
 |.str _=>T="str"
 |.int _=>T="int"
 |.ref p=>(T="list"/\∃ xs,nZ K H p xs)\/(T="tuple"/\∃ o,K.lookup p=some o/\o.cls=.type "tuple"/\o.dict=none) \/
   (T="dict"/\((∃ kvs,H p=some (.dK kvs))\/∃ kvs,H p=some (.dT kvs)))\/(T="set"/\∃ S n,H p=some (.set S n))
 |_=>False
def V1 {pins:List (ao×Obj)}{σ:St}{H:Hp}{s:ai}{T:String}{x:V}{v:af} (I:bL X pins σ H s) (r:dR x v) (ty:ZR X.K T x H) :
  s.TypeIs v T/\∀ a,v=.ref a->∃ ob,s.heap.get? a=some ob/\ob.dict=none:=by
 cases x with
 |str z =>
  obtain ⟨t,rfl⟩:=r
  cases (show T="str" from ty)
  exact ⟨typeIs_str s z t,λ_ e=>nomatch e⟩
 |int i =>
  obtain ⟨t,rfl⟩:=r
  cases (show T="int" from ty)
  exact ⟨typeIs_int s i t,λ_ e=>nomatch e⟩
 |ref p =>
  cases r
  rcases ty with ⟨rfl,xs,j⟩|⟨rfl,o,d,hc,g⟩|⟨rfl,d⟩|⟨rfl,S,n,d⟩
  ·obtain ⟨k,_,pl,_⟩:=I.list j
   refine ⟨pl.isList.typeIs,λa e=>?_⟩
   cases e
   obtain ⟨o,n,e,c,g,_⟩:=pl
   exact ⟨o,e,g⟩
  ·refine ⟨⟨o,I.kIn p o d,hc⟩,λa e=>?_⟩
   cases e
   exact ⟨o,I.kIn _ o d,g⟩
  ·have z:∃ o,s.heap.get? p=some o/\o.ExactDict:=by
    rcases d with ⟨kvs,d⟩|⟨kvs,d⟩
    ·obtain ⟨_,_,_,_,o,_,_,e,f,_⟩:=I.hok p _ d
     exact ⟨o,e,f⟩
    ·obtain ⟨_,_,_,_,o,_,_,e,f,_⟩:=I.hok p _ d
     exact ⟨o,e,f⟩
   obtain ⟨o,e,f⟩:=z
   refine ⟨⟨o,e,f.1⟩,λa h=>?_⟩
   cases h
   exact ⟨o,e,f.2.1⟩
  ·obtain ⟨o,_,_,_,e,f,_⟩:=I.hok p _ d
   refine ⟨⟨o,e,f.1⟩,λa h=>?_⟩
   cases h
   exact ⟨o,e,f.2.1⟩
 |_=>exact j7 ty
def tBM (K:aa) (T:String) (r:V->List V->Hp->VK->Prop) (d:TE) (t:TA):TE:=λσ H Q=>d σ H λx c=>ZR K T x c/\t σ c λxs e=>r x xs e Q
variable {o e:bp}{es:List bp}{to:TE}{t:TA}{name:Str}{apos cpos:Pos}{T id:String}{r:V->List V->Hp->VK->Prop}
def Ta (pa:PlainAttrs T) (j:Slot T name id) (k:typeOf (.builtin id)=pure (.type "method_descriptor")) (z:MtR X id r) (ho:PE X o to) (w:PA X (e::es) t)
  (f:qL o name X.env (dn o X.env)=dn o X.env:=by rfl)
  (i:((fX cpos (aH (e::es) X.env)).all (λx=>!x.1)&&(backToKw cpos (Qw [] X.env)).all (λx=>x.1.isSome)
   && decide ((e::es).length+([] : List As).length+(if ([] : List As).isEmpty then 0 else 1)<30))=true:=by rfl)
  (d:(apos.endLine==cpos.line)=true:=by rfl) (hs:aH (e::es) X.env=(false,dn e X.env)::aH es X.env:=by rfl) (c:(fX cpos (aH es X.env)).any (·.1)=false:=by rfl) :
  PE X (.Call (.Attribute o name apos) (e::es) [] cpos) (tBM X.K T r to t):=by
 intro pins s σ H Q I h
 refine wpAny_Call_method_late f i d rfl (eK (ho pins s σ H _ I h) λv q ⟨x,u,n,m,ty,y⟩=>?_)
 obtain ⟨p,L⟩:=V1 n m ty
 refine ⟨T,id,pa,j,k,p,L,?_⟩
 have l:=w cpos pins q σ u _ n y
 rw [hs] at l ⊢
 refine E8 (by show (false||(fX cpos (aH es X.env)).any (·.1))=false;rw [c]<;>rfl) (Calls.evalArgs_plain ?_)
 exact eK l λM E g=>by obtain ⟨O,B,A,N,G⟩:=g;exact z pins E σ B x O v M Q A m N G
end
end L2
namespace L2
open PySem PySem.Spec PyProof.Rows
def MtM (X:Cx) (id:String) (r:V->List V->Hp->VK->Prop):Prop :=
 ∀ (pins:List (ao×Obj)) (s:ai) (σ:St) (H:Hp) (x:V) (xs:List V) (v:af) (a:List af) (Q:VK),bL X pins σ H s->dR x v->dY xs a->r x xs H Q ->
  au (aA X.prog X.w) X.A (call (.builtin id) (v::a)) (EP X pins σ Q) X.xe s
def dY.one {x:V}{a:List af} (h:dY [x] a):∃ u,a=[u]/\dR x u:=by
 cases h with|cons r t=>cases t;exact ⟨_,rfl,r⟩
section
variable {X:Cx}{pins:List (ao×Obj)}{σ:St}{H:Hp}{s:ai}{l b:ao}{xs ys zs:List V}
def bL.lset {a its':List af}{n:Nat}{f:Array af->Array af}{t':Nat} (I:bL X pins σ H s) (i:H l=some (.lst xs))
  (e:s.heap.get? l=some { cls:=.type "list",data:=.seq a.toArray n }) (g:f a.toArray=its'.toArray) (d:dY ys its') (j:ys.length<=sizeLine) :
  bL X pins σ (upd H l (.lst ys)) { s with heap:=s.heap.update l (hV f),toks:=t' }:=by
 have q:=PySem.IsL.update e f
 rw [g] at q
 refine I.write (x:=l) (e:=l) (by rw [i];exact trivial) (.inl rfl) (λk u h c=>(cJ s.heap (hV f) (cF h)).trans c) ⟨_,q⟩ ?_
 exact ⟨j,its',_,d,q⟩
def bL.lnew {a:List af}{t':Nat} (I:bL X pins σ H s) (c:dY ys a) (d:ys.length<=sizeLine) :
  bL X pins σ (upd H s.heap.objs.size (.lst ys)) { s with heap:=s.heap.push { cls:=.type "list",data:=.seq a.toArray },toks:=t' } :=
 I.laid (λ_ _ q=>ac _ q) (aw _) ⟨d,a,0,c,ay _ rfl⟩
def bL.fresh (I:bL X pins σ H s):H s.heap.objs.size=none:=I.hok.fresh (aw _)
def bL.lstM (I:bL X pins σ H s) (c:H l=some (.lst xs)):ZO s.heap l xs:=by
 obtain ⟨z,a,n,r,e⟩:=I.hok l _ c
 exact ⟨z,a,n,r,r.length,e⟩
end
section
variable {X:Cx}
inductive Ek (x:V) (vs:List V) (H:Hp) (Q:VK):Prop
 |mk (l xs y:_) (h0:x=.ref l) (h1:vs=[y]) (h2:H l=some (.lst xs)) (h3:xs.length<sizeLine) (h4:Q .non (upd H l (.lst (xs++[y])))):Ek x vs H Q
def Rg:V->List V->Hp->VK->Prop:=Ek
def Bm:MtM X "list.append" Rg:=by
 intro pins s σ H x k v j Q I c d h
 obtain ⟨l,xs,y,rfl,rfl,b,i,q⟩:=h
 cases c
 obtain ⟨u,rfl,f⟩:=d.one
 obtain ⟨z,a,n,r,g,e⟩:=I.lstM b
 refine call_meets F.slot_list_append ⟨_,e,rfl⟩ F.entry_list_append (F.args_list_append_2 _ _) (PySem.list_append l a.toArray n u (by rw [aR];omega)) ⟨e,?_⟩
 refine ⟨.non,_,I.lset (its':=a++[u]) b e (by simp) (r.append (.cons f .nil)) ?_,rfl,q⟩
 rw [aJ,dC]
 omega
end
section
variable {prog:a_}{w:bz}{A:bB}{E:af->ai->Prop}{s:ai}
end
section
variable {X:Cx}
end
end L2
namespace Att
open PySem PySem.W PySem.Calls PyProof.Rows
def xR {P:Params}{h:bD}:∀ (c:List Int) (d:List af),WellAll P h d (c.map WData.int)->Ms d c:=by
 intro c
 induction c with
 |nil =>
  intro d w
  rw [d_] at w
  cases w
  exact .nil
 |cons n c e =>
  intro d w
  rw [az] at w
  cases w with
  |cons a b =>
   cases a
   exact .cons _ _ (e _ b)
def KG {l:OpenLaw}{n:Nat} (w:l.most=some n) {P:Params}{h:bD}{args:List WData}{c:List af}
  (e:l.row.toRowW.claim.pre args=true) (k:WellAll P h c args) :
  ∃ a p b,c=[bv a]/\args=[WData.list (b.map WData.int)]/\h.get? a=some { cls:=.type "list",data:=.seq p.toArray }/\Ms p b/\b.length<=n:=by
 have m:WShape.hasAll [] args [.list .int]=true:=(pre_splitW e).1
 have o:l.pre.holds [] { args:=args }=true:=(pre_splitW e).2
 obtain ⟨d,r,rfl,t,x⟩:=hasAllW_cons m
 obtain rfl:=hasAllW_nil x
 obtain ⟨xs,rfl,v⟩:=hasW_list t
 obtain ⟨b,rfl⟩:=items_int v
 have g:b.length<=n:=by
  unfold OpenLaw.pre at o
  have i:(WTm.not (.lt (.lit (.int (n:Int))) (.len (.arg 0)))).holds [] { args:=[.list (b.map .int)] }=true:=by
   have i:=(holds_andW o).1
   rw [w] at i
   exact i
  have j:=condW_of i (w_not (w_lt w_lit (w_len_list (w_arg rfl))))
  rw [aq] at j
  refine Qx λq=>?_
  have q':(n:Int)<((b.length:Nat):Int):=by omega
  first
   |(rw [decide_eq_true q'] at j;exact absurd j (by decide))
   |(simp at j;omega)
 cases k with
 |cons s u =>
  cases u
  cases s with
  |list ho f=>exact ⟨_,_,b,rfl,rfl,ho,xR b _ f,g⟩
def KH (l:OpenLaw) (args:List WData):l.row.toRowW.claim.post args (.bool true) args=true :=
 postW_of (r:=l.row.toRowW) (X:=(true==true))
  (show WShape.has [] (.bool true) .bool=true by first|rfl|decide|simp [WShape.has,WShape.arms,WShape.armsAll])
  (show (WTm.eq .res (.lit (.bool true))).value [] { args:=args,res:=some (.bool true),after:=args }=some (.bool (true==true)) from w_eq_bool (w_res rfl) w_lit) rfl
def attach_call {l:OpenLaw}{n:Nat}{q:a_}{c:List Str}{M:(Str->Option af)->bD->Prop}{E:bz->bD->Prop}{d:DefRec}
  (U:l.most=some n) (A:d.params.defaults=[])
  (call:∀ (w:bz) (e b:ai) (u x:Str->Option af) (j:ao) (o:Obj) (B s g:af) (a:ao) (i:List af) (t:List Int),
   Ground q c [] M w e u x b.heap->E w b.heap ->
   b.heap.get? j=some o->o.data=.func (docDef d.name d.params d.body d.scope B s g)->b.heap.CodeRec s d.name->u d.name=some (.ref j) ->
   b.heap.get? a=some { cls:=.type "list",data:=.seq i.toArray }->Ms i t->t.length<=n->b.gens=#[] ->
   dZ (aA l.prog w) xi (.call (.ref j) ⟨[.ref a],[]⟩) (λr s'=>r=.ok (.ret (.bool true))/\OldK b.heap s'.heap/\s'.os=b.os/\qB s'.gens) b) :
  WalkO q c M E l.row.toRowW d [] (λf i=>Ki f i):=by
 intro w e b u x G Y j o B s g N kV ho hd v L z hg K I as k H X y S
 obtain rfl:N=.none:=Dflts.none L A
 obtain rfl:kV=.none:=Dflts.noKw L
 obtain ⟨a,i,t,rfl,rfl,m,h,p⟩:=KG U k y
 refine enter_call (oF (call w e b u x j o B s g a i t G Y ho (fd_plain hd) v z m h p hg) λr s' P=>?_)
 obtain ⟨rfl,h2,O,Q⟩:=P
 exact ⟨.inl ⟨.bool true,.bool true,[],rfl,λ_=>rfl,.bool true,KH l _,λ_=>⟨qM,λ_ T=>(nomatch T)⟩⟩,h2,O,Q⟩
section
variable {prog:a_}{w:bz}{A:bB}{E:af->ai->Prop}{s:ai}{K:Frag}
def Z7 (h:bD) (L d:ao):List (ao×Obj):=(bM h.objs.size).filterMap λa=>if a=L\/a=d then none else (h.get? a).map λo=>(a,o)
end
end Att
namespace L2
open PySem PySem.Spec PyProof.Rows
def KI {b:List af}{a:List Int} (h:Ms b a):dY (a.map V.int) b:=by
 induction h with
 |nil=>exact .nil
 |cons n t h c=>exact .cons ⟨t,rfl⟩ c
def V2 (H:Hp):Prop:=∀ b,H b=none\/∃ o xs,H b=some (.frz o (.lst xs))
def N1 {P:a_}{w:bz}{K:aa}{B Q:Str->Option af}{CX:KC}{k:Nat}{S a:ao}{fd:fG}{x:Str}{sp:Sp}{c:ai}{p:List af}{t:List Int}
  (KX:K.In c.heap) (G:c.heap.Ns cf B) (g:c.heap.Ns builtinsNs Q) (Y:∀ x:Str,x≠"__name__"->Q x=iU x) (N:c.heap.NoLimit) (hg:c.gens=#[])
  (O:c.heap.get? a=some { cls:=.type "list",data:=.seq p.toArray }) (hi:Ms p t) (hl:t.length<=sizeLine) (hr:lc k xi)
  (F:∀ base:bD,K.In base->base.Ns cf B->sZ P w K B base CX k S fd [x] sp) (l:∀ (s:ai) (u:af),Ar s fd ⟨[u],[]⟩ [(x,u)])
  (U:∀ H:Hp,V2 H->nZ K H a (t.map V.int)->sp [.ref a] H (λv _=>v=.bl true) λ_ _ _=>False)
  (X:∀ H e s',CX [] H c (λ_ _ _=>False) e s'->False) :
  dZ (aA P w) xi (.call (.ref S) ⟨[.ref a],[]⟩) (λr s'=>r=.ok (.ret (.bool true))/\OldK c.heap s'.heap/\s'.os=c.os/\qB s'.gens) c:=by
 have rv:=KI hi
 have I:=hi.length
 have j:∀ H:Hp,V2 H->nZ K H a (t.map V.int)->qz P w H c.heap->(∀ b,H b≠none->b=a)->(H a≠none->K.lookup a=none) ->
   dZ (aA P w) xi (.call (.ref S) ⟨[.ref a],[]⟩) (λr s'=>r=.ok (.ret (.bool true))/\OldK c.heap s'.heap/\s'.os=c.os/\qB s'.gens) c:=by
  intro H hO hS L hA hK
  have f:∀ {b:ao}{o:Obj},c.heap.get? b=some o->H b=none->(Cu c.heap H).get? b=some o:=λe n=>MK e n
  have a0:∀ {b:ao}{o:Obj}{es:Array Mb}{ep:Nat},c.heap.get? b=some o->o.data=.dict es ep->H b=none:=λ{b o es ep} e d=>by
   cases q:H b with
   |none=>rfl
   |some u =>
    have T:b=a:=hA b (by rw [q];simp)
    subst T
    rw [O] at e;cases e
    have d':Data.seq p.toArray _=Data.dict es ep:=d
    cases d'
  have i:∀ {b:ao}{m:Str->Option af},c.heap.Ns b m->(Cu c.heap H).Ns b m:=λ{b m} ⟨o,es,ep,e,d,r⟩=>⟨o,es,ep,f e (a0 e d),d,r⟩
  have y:K.In (Cu c.heap H):=λb o e=>f (KX b o e) (by
   cases q:H b with
   |none=>rfl
   |some u =>
    have T:b=a:=hA b (by rw [q];simp)
    subst T
    rw [hK (by rw [q];simp)] at e;cases e)
  have hM:Mod K B (Cu c.heap H):=⟨y,i G,⟨Q,i g,Y⟩,let ⟨mc,h1,h2⟩:=N;⟨mc,i h1,h2⟩⟩
  have e0:R6 P w K B (Cu c.heap H) xi [] c H:=⟨rfl,hM,λb o e=>QS e,Nat.le_of_eq (Kx _ _),trivial,λb g=>absurd (show b∈([] : List ao) from g) (by simp),L,.of_eq hg⟩
  refine oF ((F _ y (i G)).run xi [] c H ⟨[.ref a],[]⟩ [.ref a] [.ref a] _ _ hr e0 (l c (.ref a)) (.cons rfl .nil) (U H hO hS)) λr s' h=>?_
  cases r with
  |error e=>exact (X H e s' h).elim
  |ok fl =>
   cases fl with
   |next=>exact j7 h
   |brk=>exact j7 h
   |cont=>exact j7 h
   |ret u =>
    obtain ⟨v,H',os,M,un,E,r',q⟩:=h
    have q':v=.bl true:=q
    subst q'
    obtain rfl:u=K9 true:=r'
    refine ⟨rfl,OldK.of_keep λb o e=>?_,os,M⟩
    cases q:H b with
    |none=>exact un.keep b o e q (by intro z;exact absurd (show b∈([] : List ao) from z) (by simp)) (by simp)
    |some u =>
     rcases hO b with z|⟨ob,xs,z⟩
     ·rw [q] at z;cases z
     ·have z2:=un.frzs b ob _ z
      obtain ⟨e1,_⟩:=L b _ z
      obtain ⟨e2,_⟩:=E b _ z2
      rw [e] at e1;cases e1
      exact e2
 cases hk:K.lookup a with
 |some o =>
  have e:=KX a o hk
  rw [O] at e
  cases e
  refine j (λ_=>none) (λ_=>.inl rfl) (.inr ⟨_,p.toArray,_,hk,rfl,rfl,rfl,by rw [aR,I];exact hl,by simpa using rv⟩) (λb u z=>by have A:(none:Option HO)=some u:=z;cases A) (λb z=>absurd rfl z) λz=>absurd rfl z
 |none =>
  refine j (λb=>if b=a then some (.frz { cls:=.type "list",data:=.seq p.toArray } (.lst (t.map V.int))) else none) (λb=>?_) (.inl (.inr ⟨{ cls:=.type "list",data:=.seq p.toArray },if_pos rfl⟩)) (λb u z=>?_) (λb z=>?_) λ_=>hk
  ·by_cases g:b=a
   ·exact .inr ⟨_,_,if_pos g⟩
   ·exact .inl (if_neg g)
  ·by_cases g:b=a
   ·have A:=(if_pos g).symm.trans z
    cases A
    subst g
    exact ⟨O,by rw [aq];exact hl,p,_,rv,O⟩
   ·have A:=(if_neg g).symm.trans z
    cases A
  ·by_cases g:b=a
   ·exact g
   ·exact absurd (if_neg g) z
end L2
namespace L2
open PySem PySem.Spec PyProof.Rows
abbrev KOf {K:aa}{h:bD} (_:K.In h):aa:=K
def Rh {l:xH}{n k:Nat}{q:a_}{i:List Str}{XP:(Str->Option af)->bD->Prop}{N:bz->bD->Prop}{d:DefRec}{K:Params->aa}{CX:bz->KC}{sp:bz->Sp}{x:Str}
  (hn:l.most=some n) (I:n<=sizeLine) (E:d.params.defaults=[]) (hr:lc k xi)
  (S:∀ (w:bz) (h:bD),N w h->(K w.params).In h)
  (F:∀ (w:bz) (m:Str->Option af) (y:ao) (h:bD),(K w.params).In h->h.Ns cf m->m d.name=some (.ref y) ->
   ∃ A:fG,(∀ (s:ai) (u:af),Ar s A ⟨[u],[]⟩ [(x,u)]) /\
    ∀ base:bD,(K w.params).In base->base.Ns cf m->sZ l.prog w (K w.params) m base (CX w) k y A [x] (sp w))
  (L:∀ (w:bz) (H:Hp) (a:ao) (z:List Int),z.length<=n->V2 H->nZ (K w.params) H a (z.map V.int)->sp w [.ref a] H (λv _=>v=.bl true) λ_ _ _=>False)
  (M:∀ (w:bz) (H:Hp) (s:ai) (e:af) (s':ai),CX w [] H s (λ_ _ _=>False) e s'->False) :
  Qd q i XP N l.row.toRowW d [] (λf Q=>Ki f Q):=by
 refine Att.attach_call hn E λw P p m mb y o pm cd a0 a Q z G Y ho hd X B t j c hg=>?_
 have O:=S w _ Y
 obtain ⟨A,hb,U⟩:=F w m y _ O G.T.g B
 exact N1 O G.T.g G.T.b G.T.builtins G.T.nolimit hg t j (cn c I) hr U hb (λH hO hS=>L w H a z c hO hS) λH e s'=>M w H p e s'
end L2
namespace L2
open PySem PySem.Spec PyProof.Rows
def kQ (s:dX):Arguments:=match s with
 |.FunctionDef _ a _ _ _ _ _ _ _ _=>a
 |_=>{ posonlyargs:=[],args:=[],vararg:=none,kwonlyargs:=[],kw_defaults:=[],kwarg:=none,defaults:=[] }
def iK (s:dX):List dX:=match s with
 |.FunctionDef _ _ b _ _ _ _ _ _ _=>b
 |_=>[]
def aE (s:dX):eX:=match s with
 |.FunctionDef _ _ _ _ _ _ a _ _ _=>a
 |_=>{ kind:=.function,names:=[],isGenerator:=false,isCoroutine:=false }
abbrev E0:XK:=λ_ _ _=>False
structure KJ (K:aa) (x qual:Str) (st:dX) (f:ao) (fd:fG):Prop where
 ex:∃ (oc:af) (od:Option ao) (kV doc pm:af) (an:Option ao) (cdv ct:af) (osl:Array (Option af)),
  fd=gG x qual (kQ st) (iK st) (aE st) .none kV doc pm an cdv ct/\K.lookup f=some ⟨oc,od,.func fd,osl⟩/\mo K cdv qual=true
 kp:fY K (.ref f)=true
section
variable {P:a_}{w:bz}{K:aa}{mg:Str->Option af}{base:bD}
def KJ.binds {x a:Str}{st:dX}{f:ao}{k:fG}{d:List Str} (F:KJ K x a st f k)
  (h:∀ (kV b e:af) (i:Option ao) (c j:af) (g:List af),g.length=d.length->Qv (gG x a (kQ st) (iK st) (aE st) .none kV b e i c j) ⟨g,[]⟩=pure (d.zip g)):lO K k d []:=by
 obtain ⟨n,p,kV,b,e,i,c,j,m,rfl,o,l⟩:=F.ex
 exact .all (h kV b e i c j)
def N5 {x a:Str}{st:dX}{f:ao}{j:af}{m h:Option ao}{e:Array (Option af)}{kV d i b g:af} (l:K.lookup f=some ⟨j,m,.func (gG x a (kQ st) (iK st) (aE st) .none kV d i h b g),e⟩)
  (c:mo K b a=true) (k:fY K (.ref f)=true):KJ K x a st f (gG x a (kQ st) (iK st) (aE st) .none kV d i h b g):=⟨⟨j,m,kV,d,i,h,b,g,e,rfl,l,c⟩,k⟩
end
def iZ {A:bB}{k:Nat} (a:lc k A):A.units+1<gC:=nR (Nat.add_le_add_left (by decide:1<=64) _) a.units
def eg {n:Nat} (h:n<=1000):n<sizeLine:=nR h (by decide)
section
variable {X:Cx}
def pv (i:Nat) {x:Str}{pos:Pos} (b:X.N[i]?=some x:=by rfl) (c:Mk X.env.scope x:=by first|exact g_ rfl|exact eF (g_ rfl)|exact eF (eF rfl)) (d:(x==("__debug__" : Str))=false:=by decide)
  (a:(x==("__classdict__" : Str))=false:=by decide):PE X (.Name x pos) (Ur i):=pi b c d a
end
def xS {A B:Prop} (h:B):if false=true then A else B:=by
 rw [if_neg bw]
 exact h
def xT {A B:Prop} (h:A):if true=true then A else B:=by
 rw [if_pos rfl]
 exact h
def du (H H':Hp):Prop:=∀ b o,H b=some o->H' b=some o
def du.refl (H:Hp):du H H:=λ_ _ h=>h
def du.trans {H e d:Hp} (a:du H e) (b:du e d):du H d:=λc o h=>b c o (a c o h)
def du.free {H H':Hp} (e:du H H') {l:ao} (h:H' l=Option.none):H l=Option.none:=by
 cases q:H l with
 |none=>rfl
 |some o =>
  rw [e l o q] at h
  cases h
def du.seq {K:aa}{H H':Hp}{a:ao}{xs:List V} (e:du H H') (h:nZ K H a xs):nZ K H' a xs:=by
 rcases h with (h|⟨o,h⟩)|h
 ·exact .inl (.inl (e _ _ h))
 ·exact .inl (.inr ⟨o,e _ _ h⟩)
 ·exact .inr h
end L2
namespace L2
open PySem PySem.Spec PyProof.Rows
section
variable {κ:Type} [DecidableEq κ]
def oN (kvs:List (κ×V)) (k:κ):Option V:=(kvs.find? λa=>decide (a.1=k)).map (·.2)
def kn (kvs:List (κ×V)) (k:κ) (v:V):List (κ×V) :=
 if (kvs.any λa=>decide (a.1=k))=true then kvs.map (λa=>if a.1=k then (a.1,v) else a) else kvs++[(k,v)]
def N6 (kvs:List (κ×V)) (k:κ):List (κ×V):=kvs.filter λa=>decide (a.1≠k)
def yH {p:κ×V}{r:List (κ×V)}{k:κ} (e:p.1=k):oN (p::r) k=some p.2:=by simp [oN,bH,e]
def yI {p:κ×V}{r:List (κ×V)}{k:κ} (e:¬ p.1=k):oN (p::r) k=oN r k:=by simp [oN,bH,e]
def El (k:κ):∀ kvs:List (κ×V),(kvs.any λa=>decide (a.1=k))=(oN kvs k).isSome
 |[]=>rfl
 |p::r=>by
  rw [eS]
  by_cases e:p.1=k
  ·simp only [yH e,decide_eq_true e,Bool.true_or,IC]
  ·rw [yI e,decide_eq_false e,Bool.false_or];exact El k r
def jF (kvs:List (κ×V)) (k:κ) (v:V):(kn kvs k v).length<=kvs.length+1:=by
 unfold kn
 split
 ·rw [aq];omega
 ·rw [aJ,aY,cG];omega
def yD.isSome_eq {o:Option V}{u:Option af} (r:yD o u):o.isSome=u.isSome:=by
 cases o with
 |none=>cases u with
  |none=>rfl
  |some _=>exact (show False from r).elim
 |some _=>cases u with
  |none=>exact (show False from r).elim
  |some _=>rfl
def KV.val {kvs:List (κ×V)}{f:List (κ×af)} (r:KV kvs f) (k:κ):yD (oN kvs k) (Au f k):=by
 unfold KV at r
 induction r with
 |nil=>exact jb
 | @cons p q j c h t g =>
  obtain ⟨d,i⟩:=h
  by_cases e:p.1=k
  ·have a:q.1=k:=d.symm.trans e
   have b:Au (q::c) k=some q.2:=by simp [Au,bH,a]
   rw [yH e,b];exact i
  ·have a:¬ q.1=k:=λz=>e (d.trans z)
   have b:Au (q::c) k=Au c k:=by simp [Au,bH,a]
   rw [yI e,b];exact g
def KV.any {kvs:List (κ×V)}{b:List (κ×af)} (r:KV kvs b) (k:κ):(kvs.any λa=>decide (a.1=k))=b.any λa=>decide (a.1=k):=by
 unfold KV at r
 induction r with
 |nil=>rfl
 |cons h t c=>rw [eS,eS,c,h.1]
def KV.repl {kvs:List (κ×V)}{c:List (κ×af)} (r:KV kvs c) (k:κ) {y:V}{u:af} (f:dR y u) :
  KV (kvs.map λa=>if a.1=k then (a.1,y) else a) (c.map λa=>if a.1=k then (a.1,u) else a):=by
 unfold KV at r ⊢
 induction r with
 |nil=>exact .nil
 | @cons p q j i h t d =>
  rw [az,az]
  refine .cons ?_ d
  obtain ⟨b,g⟩:=h
  by_cases e:p.1=k
  ·rw [if_pos e,if_pos (b.symm.trans e)];exact ⟨b,f⟩
  ·rw [if_neg e,if_neg (λz=>e (b.trans z))];exact ⟨b,g⟩
def KV.put {kvs:List (κ×V)}{a:List (κ×af)} (r:KV kvs a) (k:κ) {y:V}{u:af} (b:dR y u):KV (kn kvs k y) (GB a k u):=by
 unfold kn GB
 rw [r.any k]
 by_cases e:(a.any λc=>decide (c.1=k))=true
 ·rw [if_pos e,if_pos e];exact r.repl k b
 ·rw [if_neg e,if_neg e];exact Paired.snoc r ⟨rfl,b⟩
def KV.length {kvs:List (κ×V)}{a:List (κ×af)} (r:KV kvs a):kvs.length=a.length:=gZ r
end
def yJ {P:a_}{w:bz}{k:dQ}{u:af} (r:dR (kV k) u):(cS P w).is k u=true:=by
 cases k with
 |inl i=>obtain ⟨t,e⟩:=(show ∃ t,u=jg i t from r);subst e;exact Ee P w i t
 |inr x=>obtain ⟨t,e⟩:=(show ∃ t,u=iH x t from r);subst e;exact Ef P w x t
def Bn {P:a_}{w:bz}:∀ {a:List dQ}{b:List af},dY (a.map kV) b->ItemsAre (cS P w) a b
 |[],_,r=>by rw [d_] at r;cases r;exact .nil
 |k::a,_,r=>by
  rw [az] at r
  cases r with
  |cons h t=>exact .cons (yJ h) (Bn t)
abbrev KT (H:Hp):List (List dQ×V)->List (List dQ×ao×af)->Prop:=Gv λp q=>p.1=q.1/\H q.2.1=some (.tup (p.1.map kV))/\dR p.2 q.2.2
def KT.val {H:Hp}{kvs:List (List dQ×V)}{xs:List (List dQ×ao×af)} (r:KT H kvs xs) (k:List dQ):yD (oN kvs k) ((GC xs k).map (·.2)):=by
 induction r with
 |nil=>exact jb
 | @cons p q i c h t f =>
  obtain ⟨d,_,g⟩:=h
  by_cases e:p.1=k
  ·have a:q.1=k:=d.symm.trans e
   have b:GC (q::c) k=some q.2:=by simp [GC,bH,a]
   rw [yH e,b];exact g
  ·have a:¬ q.1=k:=λz=>e (d.trans z)
   have b:GC (q::c) k=GC c k:=by simp [GC,bH,a]
   rw [yI e,b];exact f
def KT.repl {H:Hp}{kvs:List (List dQ×V)}{xs:List (List dQ×ao×af)} (r:KT H kvs xs) (k:List dQ) {y:V}{u:af} (f:dR y u) :
  KT H (kvs.map λb=>if b.1=k then (b.1,y) else b) (xs.map (putAt k u)):=by
 induction r with
 |nil=>exact .nil
 | @cons p q j i h t d =>
  rw [az,az]
  refine .cons ?_ d
  obtain ⟨a,c,g⟩:=h
  unfold putAt
  by_cases e:p.1=k
  ·rw [if_pos e,if_pos (a.symm.trans e)];exact ⟨a,c,f⟩
  ·rw [if_neg e,if_neg (λz=>e (a.trans z))];exact ⟨a,c,g⟩
def KT.put {H:Hp}{kvs:List (List dQ×V)}{xs:List (List dQ×ao×af)} (r:KT H kvs xs) (k:List dQ) {b:ao}{y:V}{u:af} (d:H b=some (.tup (k.map kV))) (a:dR y u) :
  KT H (kn kvs k y) (storedH xs k b u):=by
 have e:(kvs.any λc=>decide (c.1=k))=(GC xs k).isSome:=by
  rw [El,(r.val k).isSome_eq,we]
 unfold kn storedH
 rw [e]
 by_cases q:(GC xs k).isSome=true
 ·rw [if_pos q,if_pos q];exact r.repl k a
 ·rw [if_neg q,if_neg q];exact Paired.snoc r ⟨rfl,d,a⟩
def KT.keeps {H H':Hp}{kvs:List (List dQ×V)}{xs:List (List dQ×ao×af)} (r:KT H kvs xs) (a:∀ b ys,H b=some (.tup ys)->H' b=some (.tup ys)):KT H' kvs xs :=
 Paired.mapP r λ_ _ z=>⟨z.1,a _ _ z.2.1,z.2.2⟩
section
variable {P:a_}{w:bz}{H:Hp}{h:bD}{a:ao}
def Tb {u:HO} (ok:qz P w H h) (e:Rd H a u):dI P w H h a u:=e.ok ok
def Bo {kvs:List (dQ×V)} (ok:qz P w H h) (e:Rd H a (.dK kvs)):kvs.length<=sizeLine/\(a==fz)=false/\∃ b,KV kvs b/\h.DictOf (cS P w) a b :=
 show dI P w H h a (.dK kvs) from Tb ok e
def Tc {kvs:List (dQ×V)} (ok:qz P w H h) (e:H a=some (.dK kvs)):kvs.length<=sizeLine/\(a==fz)=false/\∃ b,KV kvs b/\h.DictOf (cS P w) a b:=Bo ok (.inl e)
def wy {b:List dQ} (ok:qz P w H h) (e:H a=some (.tup (b.map kV))):(sP (cS P w)).is h b a:=by
 obtain ⟨_,c,r,o,d,g,n,f⟩:=(show dI P w H h a (.tup (b.map kV)) from ok a _ e)
 exact ⟨o,c.toArray,n,d,g,f,by simpa using Bn r⟩
def Bp {kvs:List (List dQ×V)} (ok:qz P w H h) (e:Rd H a (.dT kvs)):kvs.length<=sizeLine/\(a==fz)=false /\
  ∃ xs,KT H kvs xs/\h.DictOfH (sP (cS P w)) a xs:=by
 obtain ⟨z,y,xs,r,o,es,ep,d,k,g,i,j⟩:=(show dI P w H h a (.dT kvs) from Tb ok e)
 refine ⟨z,y,xs,r,o,es,ep,d,k,g,i,λx b=>?_,j⟩
 have all:∀ {l:List (List dQ×V)}{m:List (List dQ×ao×af)},KT H l m->∀ x∈m,(sP (cS P w)).is h x.1 x.2.1:=by
  intro l m q
  induction q with
  |nil=>intro x b;exact nomatch b
  | @cons p q s n c t f =>
   intro x b
   rcases List.mem_cons.mp b with e|b
   ·subst e
    exact wy ok (by rw [<- c.1];exact c.2.1)
   ·exact f x b
 exact all r x b
def Td {kvs:List (List dQ×V)} (ok:qz P w H h) (e:H a=some (.dT kvs)):kvs.length<=sizeLine/\(a==fz)=false /\
  ∃ xs,KT H kvs xs/\h.DictOfH (sP (cS P w)) a xs:=Bp ok (.inl e)
end
def vd (H:Hp) (a:ao) (y:V) (r:Option V):Prop :=
 (∃ kvs k,Rd H a (.dK kvs)/\y=kV k/\r=oN kvs k)\/∃ kvs k b,Rd H a (.dT kvs)/\y=.ref b/\H b=some (.tup (k.map kV))/\r=oN kvs k
def Em (H:Hp) (a:ao) (y v:V) (H':Hp):Prop :=
 (∃ kvs k,H a=some (.dK kvs)/\y=kV k/\kvs.length<sizeLine/\H'=upd H a (.dK (kn kvs k v))) \/
 ∃ kvs k b,H a=some (.dT kvs)/\y=.ref b/\H b=some (.tup (k.map kV))/\kvs.length<sizeLine/\H'=upd H a (.dT (kn kvs k v))
def vd.k {H:Hp}{a:ao}{kvs:List (dQ×V)}{k:dQ} (e:H a=some (.dK kvs)):vd H a (kV k) (oN kvs k):=.inl ⟨kvs,k,.inl e,rfl,rfl⟩
def vd.t {H:Hp}{a b:ao}{kvs:List (List dQ×V)}{k:List dQ} (e:H a=some (.dT kvs)) (c:H b=some (.tup (k.map kV))):vd H a (.ref b) (oN kvs k):=.inr ⟨kvs,k,b,.inl e,rfl,c,rfl⟩
def Em.k {H:Hp}{a:ao}{kvs:List (dQ×V)}{k:dQ}{v:V} (e:H a=some (.dK kvs)) (b:kvs.length<sizeLine):Em H a (kV k) v (upd H a (.dK (kn kvs k v))):=.inl ⟨kvs,k,e,rfl,b,rfl⟩
def Em.t {H:Hp}{a b:ao}{kvs:List (List dQ×V)}{k:List dQ}{v:V} (e:H a=some (.dT kvs)) (c:H b=some (.tup (k.map kV))) (d:kvs.length<sizeLine) :
  Em H a (.ref b) v (upd H a (.dT (kn kvs k v))):=.inr ⟨kvs,k,b,e,rfl,c,d,rfl⟩
section
variable {X:Cx}{pins:List (ao×Obj)}{σ:St}{H:Hp}{s:ai}{a:ao}{y v:V}{u r:af}{o:Option V}{A:bB}{E:af->ai->Prop}
def bL.big (I:bL X pins σ H s):fz<s.heap.objs.size:=by
 have h:cf<s.heap.objs.size:=(I.mod.glob.keeps I.bk).lt
 exact jq (by decide) h
def KL {Q:af->ai->Prop} (t:A.units+1<gC) (I:bL X pins σ H s) (g:vd H a y (some v)) (q:dR y u) (h:∀ f s',bL X pins σ H s'->dR v f->Q f s') :
  au (aA X.prog X.w) A (qC (.ref a) u) Q E s:=by
 rcases g with ⟨kvs,k,e,m,l⟩|⟨kvs,k,b,e,m,eb,l⟩
 ·subst m
  obtain ⟨z,x,G,d,j⟩:=Bo I.hok e
  obtain ⟨f,i,c⟩:=yD.some_of (v:=v) (o:=Au G k) (by rw [l];exact d.val k)
  exact wpAny_getItem_of (yJ q) j.mapOf i (h f _ (I.tok _) c)
 ·subst m
  cases (show u=bv b from q)
  obtain ⟨z,x,xs,d,j⟩:=Bp I.hok e
  obtain ⟨f,i,c⟩:=yD.some_of (v:=v) (o:=(GC xs k).map (·.2)) (by rw [l];exact d.val k)
  obtain ⟨p,B,n⟩:=Option.map_eq_some_iff.mp i
  refine wpAny_getItem_heap (ph t) (wy I.hok eb) j B ?_
  rw [n]
  exact h f _ (I.tok _) c
def d_in {Q:af->ai->Prop} (m:A.units+1<gC) (I:bL X pins σ H s) (g:vd H a y o) (j:dR y u) (h:∀ s',bL X pins σ H s'->Q (.bool o.isSome) s') :
  au (aA X.prog X.w) A (bI .In u (.ref a)) Q E s:=by
 rcases g with ⟨kvs,k,e,i,l⟩|⟨kvs,k,b,e,i,eb,l⟩
 ·subst i
  obtain ⟨z,f,n,c,d⟩:=Bo I.hok e
  refine wpAny_in_of (yJ j) f d.mapOf ?_
  rw [<- (c.val k).isSome_eq,<- l]
  exact h _ (I.tok _)
 ·subst i
  cases (show u=bv b from j)
  obtain ⟨z,f,xs,c,d⟩:=Bp I.hok e
  refine wpAny_in_heap (ph m) (wy I.hok eb) f d ?_
  have q:=(c.val k).isSome_eq
  rw [we] at q
  rw [<- q,<- l]
  exact h _ (I.tok _)
def IP {Q:af->ai->Prop} (m:A.units+1<gC) (I:bL X pins σ H s) (g:vd H a y o) (j:dR y u) (h:∀ s',bL X pins σ H s'->Q (.bool (!o.isSome)) s') :
  au (aA X.prog X.w) A (bI .NotIn u (.ref a)) Q E s:=by
 rcases g with ⟨kvs,k,e,i,l⟩|⟨kvs,k,b,e,i,eb,l⟩
 ·subst i
  obtain ⟨z,f,n,c,d⟩:=Bo I.hok e
  refine wpAny_notIn_of (yJ j) f d.mapOf ?_
  rw [<- (c.val k).isSome_eq,<- l]
  exact h _ (I.tok _)
 ·subst i
  cases (show u=bv b from j)
  obtain ⟨z,f,xs,c,d⟩:=Bp I.hok e
  refine wpAny_notIn_heap (ph m) (wy I.hok eb) f d ?_
  have q:=(c.val k).isSome_eq
  rw [we] at q
  rw [<- q,<- l]
  exact h _ (I.tok _)
def CG {h':bD}{t':Nat}{ob:HO} (I:bL X pins σ H s) (c:Wl (H a)) (hs:bC a s.heap h') (he:∃ q,h'.get? a=some q) (new:dI X.prog X.w (upd H a ob) h' a ob) :
  bL X pins σ (upd H a ob) { s with heap:=h',toks:=t' } :=
 I.write (x:=a) (e:=a) c (.inl rfl) (λb q d z=>(hs.2 b d).trans z) he new
def N7 {P:a_}{w:bz}{H':Hp}{h':bD}{kvs:List (dQ×V)}{c:List (dQ×af)} (z:kvs.length<=sizeLine) (e:(a==fz)=false) (b:KV kvs c) (d:h'.DictOf (cS P w) a c) :
  dI P w H' h' a (.dK kvs):=⟨z,e,c,b,d⟩
def KM {H':Hp}{Q:Unit->ai->Prop} (L:A.units+1<gC) (I:bL X pins σ H s) (g:Em H a y v H') (B:dR y u) (G:dR v r) (h:∀ s',bL X pins σ H' s'->Q () s') :
  au (aA X.prog X.w) A (setItem (.ref a) u r) Q E s:=by
 rcases g with ⟨kvs,k,e,x,l,m⟩|⟨kvs,k,b,e,x,eb,l,m⟩
 ·subst x m
  obtain ⟨z,t,S,d,p⟩:=Tc I.hok e
  have n:S.length<=sizeLine:=by rw [<- d.length];exact z
  have j:(kn kvs k v).length<=sizeLine:=by have:=jF kvs k v;omega
  refine wpAny_setItem_pairs (hsz:=n) (yJ B) p λh' f hs=>h _ ?_
  have he:∃ q,h'.get? a=some q:=let ⟨q,_,_,i,_⟩:=f;⟨q,i⟩
  exact CG I (by rw [e];exact jb) hs he (N7 j t (d.put k G) f)
 ·subst x m
  cases (show u=bv b from B)
  obtain ⟨z,t,xs,d,p⟩:=Td I.hok e
  have n:xs.length<=sizeLine:=by rw [<- gZ d];exact z
  have j:(kn kvs k v).length<=sizeLine:=by have:=jF kvs k v;omega
  refine wpAny_setItem_heap (hsz:=n) (ph L) (wy I.hok eb) p λh' f hs=>h _ ?_
  obtain ⟨q,es,ep,i,P,M,N,_,O⟩:=f
  refine CG I (by rw [e];exact jb) hs ⟨q,i⟩ ⟨j,t,_,(d.put k eb G).keeps λc ys K=>?_,q,es,ep,i,P,M,N,O⟩
  rw [bj (MJ K e (λz=>nomatch z))]
  exact K
end
section
variable {X:Cx}{pins:List (ao×Obj)}{σ:St}{H:Hp}{s:ai}{a:ao}{kvs:List (dQ×V)}{k:dQ}{u:af}{A:bB}{E:af->ai->Prop}
end
def WK (i:bp):Prop:=∀ b a,D_ i false b a=operate [b,a] (qC b a)
def Ri {prog:a_}{w:bz}{A:bB}{E:af->ai->Prop}{s:ai}{env:Env}{b a:bp}{pos:Pos}{T id:String}{Q:af->ai->Prop}
  (l:GA (.type T) "__getitem__"=pure (some (.builtin id))) (hs:WK a)
  (h:au (aA prog w) A (dn b env) (λo e=>au (aA prog w) A (dn a env) (λi c=>c.TypeIs o T/\au (aA prog w) A (qC o i) Q E c) E e) E s) :
  au (aA prog w) A (dn (.Subscript b a pos) env) Q E s:=by
 refine Subscript_ (aT h (λo e g=>aT g (λi c d=>?_) λ_ _ x=>x) λ_ _ x=>x)
 obtain ⟨k,d⟩:=d
 unfold Kh
 refine a8 ?_
 rw [getitemInPython_of_ne k.not_modules]
 refine a8 (wpAny_specialOf k l ?_)
 have fin:au (aA prog w) A (D_ a false o i) (λr f=>au (aA prog w) A (letTemporaryGo b o r >>= λ_=>pure r) Q E f) E c:=by
  rw [hs o i]
  exact wpAny_operating (aT d (λr f j=>a8 (wpAny_letTemporaryGo (a9 j))) λ_ _ x=>x)
 first
  |exact a9 (a8 fin)
  |exact a8 (a9 (a8 fin))
  |exact a8 fin
def Eo {X:Cx}{pins:List (ao×Obj)}{σ:St}{H:Hp}{s:ai}{a:ao}{y:V}{o:Option V} (I:bL X pins σ H s) (g:vd H a y o):s.TypeIs (.ref a) "dict":=by
 rcases g with ⟨kvs,k,e,_,_⟩|⟨kvs,k,b,e,_,_,_⟩
 ·obtain ⟨_,_,d,_,c⟩:=Bo I.hok e
  exact c.typeIs
 ·obtain ⟨_,_,xs,_,c⟩:=Bp I.hok e
  exact c.typeIs
def WL (c ty:TE):TE:=λσ H Q=>c σ H λx d=>ty σ d λy b=>∃ a v,x=.ref a/\vd b a y (some v)/\Q v b
def Te (d ty g:TE):TS:=λD σ H=>g σ H λv f=>d σ f λx e=>ty σ e λy c=>∃ a b,x=.ref a/\Em c a y v b/\D.nx σ b
section
variable {X:Cx}{o i e value:bp}{pos pos' tpos:Pos}{td ty tv:TE}
def IQ (l:X.A.units+1<gC) (ho:PE X o td) (n:PE X i ty) (hs:WK i):PE X (.Subscript o i pos) (WL td ty):=by
 intro pins s σ H Q I h
 refine Ri PySem.F.slot_dict_getitem.lookup hs (eK (ho pins s σ H _ I h) λu d ⟨x,j,w,f,m⟩=>eK (n pins d σ j _ w m) λB G ⟨y,p,c,q,a,v,z,g,t⟩=>?_)
 subst z
 obtain rfl:u=bv a:=f
 exact ⟨Eo c g,KL l c g q λK E k b=>⟨v,p,k,b,t⟩⟩
def IR (j:X.A.units+1<gC) (ho:PE X o td) (m:PE X i ty) (E:PE X value tv) (hs:gF value (some (.Subscript o i pos')) pos.line X.env=pure false) :
  PS X (.Assign [.Subscript o i pos'] value pos) (Te td ty tv):=by
 intro pins s σ H D I h
 refine wpAny_Assign_Subscript (eK (E pins s σ H _ I h) λr b ⟨v,d,G,z,l⟩=>eK (ho pins b σ d _ G l) λu t ⟨x,p,n,c,w⟩=>eK (m pins t σ p _ n w) λN P ⟨y,O,f,q,a,k,K,g,L⟩=>?_) hs
 subst K
 obtain rfl:u=bv a:=c
 exact KM j f g q z λM B=>⟨σ,k,B,L⟩
end
def N8 {P:a_}{w:bz}{H:Hp} (h:bD) (a:fz<h.objs.size):dI P w H (h.push { cls:=.type "dict",data:=.dict #[] }) h.objs.size (.dK []) :=
 ⟨cx _,beq_eq_false_iff_ne.mpr (cF (aB a)),[],.nil,Gh h⟩
def N9 {P:a_}{w:bz}{H:Hp} (h:bD) (a:fz<h.objs.size):dI P w H (h.push { cls:=.type "dict",data:=.dict #[] }) h.objs.size (.dT []) :=
 ⟨cx _,beq_eq_false_iff_ne.mpr (cF (aB a)),[],.nil,_,#[],0,ay _ rfl,⟨rfl,rfl,rfl⟩,rfl,rfl,eV⟩
def V3:TE:=λ_ H Q=>∀ p,H p=none->Q (.ref p) (upd H p (.dK []))
section
variable {X:Cx}{pos:Pos}
def Na:PE X (.Dict [] [] pos) V3:=λpins s σ H Q I h =>
 wpAny_Dict_empty ⟨.ref s.heap.objs.size,_,I.laid (a:=s.heap.objs.size) (o:=.dK []) (t':=s.toks) (λ_ _ q=>ac _ q) (aw _) (N8 s.heap I.big),rfl,h _ (I.hok.fresh (aw _))⟩
end
def yK (kvs more:List (dQ×V)):List (dQ×V):=more.foldl (λa b=>kn a b.1 b.2) kvs
def KV.merge:∀ {more:List (dQ×V)}{b:List (dQ×af)}{kvs:List (dQ×V)}{a:List (dQ×af)},KV more b->KV kvs a->KV (yK kvs more) (merged a b):=by
 intro more b kvs a r
 unfold KV at r
 induction r generalizing kvs a with
 |nil=>intro q;exact q
 | @cons p q g f h t d =>
  intro c
  have e:KV (kn kvs p.1 p.2) (GB a q.1 q.2):=by
   have:=c.put p.1 h.2
   rw [<- h.1];exact this
  exact d e
def tO:∀ (more kvs:List (dQ×V)),(yK kvs more).length<=kvs.length+more.length
 |[],kvs=>by show kvs.length<=kvs.length+0;omega
 |p::r,kvs=>by
  have a:=tO r (kn kvs p.1 p.2)
  have b:=jF kvs p.1 p.2
  show (yK (kn kvs p.1 p.2) r).length<=_
  rw [aY];omega
def IsD (H:Hp) (a:ao):Prop:=(∃ kvs,Rd H a (.dK kvs))\/∃ kvs,Rd H a (.dT kvs)
def V4 {X:Cx}{pins:List (ao×Obj)}{σ:St}{H:Hp}{s:ai}{a:ao} (I:bL X pins σ H s) (d:IsD H a) :
  s.TypeIs (.ref a) "dict"/\(∀ b,bv a=.ref b->∃ ob,s.heap.get? b=some ob/\ob.dict=none)/\(a==fz)=false:=by
 rcases d with ⟨kvs,e⟩|⟨kvs,e⟩
 ·obtain ⟨_,g,i,_,c⟩:=Bo I.hok e
  refine ⟨c.typeIs,λb q=>?_,g⟩
  cases q
  obtain ⟨ob,_,_,f,h,_⟩:=c
  exact ⟨ob,f,h.2.1⟩
 ·obtain ⟨_,g,xs,_,c⟩:=Bp I.hok e
  refine ⟨c.typeIs,λb q=>?_,g⟩
  cases q
  obtain ⟨ob,_,_,f,h,_⟩:=c
  exact ⟨ob,f,h.2.1⟩
section
variable {X:Cx}{pins:List (ao×Obj)}{σ:St}{H:Hp}{s:ai}{a:ao}{y d:V}{u r:af}{o:Option V}{A:bB}{E:af->ai->Prop}
end
section
variable {X:Cx}{o e f:bp}{apos cpos:Pos}{td ty tx:TE}
end
section
variable {X:Cx}{pins:List (ao×Obj)}{σ:St}{H:Hp}{s:ai}{a:ao}{kvs:List (dQ×V)}{A:bB}{E:af->ai->Prop}
end
section
variable {X:Cx}{pins:List (ao×Obj)}{σ:St}{H:Hp}{s:ai}{a:ao}{y:V}{u:af}{A:bB}{E:af->ai->Prop}
end
end L2
namespace L2
open PySem PySem.Spec PyProof.Rows
section
variable {X:Cx}
end
section
variable {κ:Type} [DecidableEq κ]
def yi:∀ {l:List κ}{k:κ},l.Nodup->¬ k∈l->(l++[k]).Nodup
 |[],k,_,_=>by simp
 |a::r,k,h,b=>by
  obtain ⟨c,d⟩:=List.nodup_cons.mp h
  show (a::(r++[k])).Nodup
  refine List.nodup_cons.mpr ⟨λm=>?_,yi d λm=>b (List.mem_cons.mpr (eF m))⟩
  rcases List.mem_append.mp m with q|q
  ·exact c q
  ·exact b (List.mem_cons.mpr (g_ (List.mem_singleton.mp q).symm))
end
end L2
namespace L2
open PySem PySem.Spec PyProof.Rows
def CH (I:Nat->ai->Prop)
  (turn:∀ n s,I n s->au (aA prog w) A (gn it) (λr s₁=>match r with
   |none=>R (.ok .next) s₁
   |some v=>au (aA prog w) A (dE target it v) (λ_ s₁'=>au (aA prog w) A (iV target env v) (λ_ s₂ =>
     au (aA prog w) A (forIn ifs true λc r=>if r=true then do let ok <- ml c env (dn c env);pure (cR ok) else pure (cR r)) (λok s₃ =>
      if ok=true then au (aA prog w) A (dn elt env) (λx s₄ =>
       au (aA prog w) A (call (.builtin "list.append") [acc,x]) (λ_ s₅=>∃ m,m<n/\I m s₅) (λ_ _=>False) s₄) (λ_ _=>False) s₃
      else ∃ m,m<n/\I m s₃) (λ_ _=>False) s₂) (λ_ _=>False) s₁') (λ_ _=>False) s₁) (λ_ _=>False) s)
  (n:Nat) (h:I n s) :
  dZ (aA prog w) A (.compLoop (.ListComp elt [⟨target,iter,ifs,0⟩] scope pos) 0 it acc env) R s:=by
 refine tY rfl I (λn s hI=>?_) n h;show au _ A ((sQ (.ListComp elt [⟨target,iter,ifs,0⟩] scope pos) 0 it acc env).onRaise (λx=>do sR x env;nU x)) _ _ s;refine wl ?_;rw [compTurn_list];have nf:∀ {α:Type}{t:Sem α}{Q:α->ai->Prop}{E':af->ai->Prop}{s:ai},au (aA prog w) A t Q (λ_ _=>False) s->au (aA prog w) A t Q E' s :=
  λh=>aT h (λ_ _ q=>q) λ_ _ f=>f.elim
 refine a8 (cU (a8 (nf (aT (turn n s hI) (λr s₁ h₁=>?_) λ_ _ h'=>h'))));cases r with
 |none=>exact a9 h₁
 |some v =>
  refine a8 (nf (aT h₁ (λ_ s₁' h₁'=>?_) λ_ _ h'=>h'));refine a8 (nf (aT h₁' (λ_ s₂ h₂=>a8 (nf (aT h₂ (λok s₃ h₃=>?_) λ_ _ h'=>h'))) λ_ _ h'=>h'));cases ok with
  |false=>exact a9 ⟨rfl,h₃⟩
  |true =>
   exact a8 (a8 (nf (aT h₃ (λx s₄ h₄=>a8 (nf (aT h₄ (λ_ s₅ h₅=>a9 (a9 ⟨rfl,h₅⟩)) λ_ _ h'=>h'))) λ_ _ h'=>h')))
def GZ (names : List (Str × lz)) : ∀ (cs : List (Str × ao)), (∀ y ∈ names, y.2 = .free -> ∃ c, env.cells.lookup y.1 = some c) ->
    (∀ x c, cs.lookup x = some c -> env.cells.lookup x = some c) ->
    ∃ cl, (forIn names cs λ(x : Str × lz) (cs : List (Str × ao)) => match x with
        | (name, kind) => if (kind == cK) = true then do let a <- cellOf env name; pure (cR ((name, a) :: cs)) else pure (cR cs) : Sem (List (Str × ao))) = pure cl /\
      (∀ x c, cl.lookup x = some c -> env.cells.lookup x = some c) /\ (∀ y ∈ names, y.2 = .free -> ∃ c, cl.lookup y.1 = some c) /\ (∀ x c, cs.lookup x = some c -> ∃ c', cl.lookup x = some c') := by
  induction names with
  | nil => intro cs _ h2; exact ⟨cs, rfl, h2, λ_ h => absurd h (by simp), λx c h => ⟨c, h⟩⟩
  | cons nk r ih =>
    obtain ⟨n, k⟩ := nk;intro cs h1 h2;by_cases hk : k = .free
    · subst hk;obtain ⟨a, ha⟩ := h1 (n, .free) ak rfl;have h2' : ∀ x c, ((n, a) :: cs).lookup x = some c -> env.cells.lookup x = some c := λx c h => by
        rw [dv] at h;cases e : x == n with
        | true => rw [e] at h; have : x = n := by simpa using e
                  subst this; cases h; exact ha
        | false => rw [e] at h; exact h2 x c h
      obtain ⟨cl, e1, e2, e3, e4⟩ := ih ((n, a) :: cs) (λy hy => h1 y (ag _ hy)) h2';refine ⟨cl, ?_, e2, λy hy hf => ?_, λx c h => ?_⟩
      · rw [gP];have hc : cellOf env n = pure a := by unfold cellOf; rw [ha]
        simp only [beq_self_eq_true, if_true, hc];exact e1
      · rcases List.mem_cons.mp hy with rfl | hy
        · exact e4 n a (by simp)
        · exact e3 y hy hf
      · cases e : x == n with
        | true => exact e4 x a (by rw [dv, e])
        | false => exact e4 x c (by rw [dv, e]; exact h)
    · obtain ⟨cl, e1, e2, e3, e4⟩ := ih cs (λy hy => h1 y (ag _ hy)) h2;refine ⟨cl, ?_, e2, λy hy hf => ?_, e4⟩
      · rw [gP];have hk' : (k == cK) = false := by simpa using hk
        simp only [hk', ba, if_false];exact e1
      · rcases List.mem_cons.mp hy with rfl | hy
        · exact absurd hf hk
        · exact e3 y hy hf
def mq (h:∀ y∈scope.names,y.2=.free->∃ c,env.cells.lookup y.1=some c):∃ a,closureFor scope env=pure a /\
  (∀ x c,a.lookup x=some c->env.cells.lookup x=some c)/\(∀ y∈scope.names,y.2=.free->∃ c,a.lookup y.1=some c):=by
 obtain ⟨a,b,d,e,_⟩:=GZ (env:=env) scope.names [] h (λx c h=>by simp at h);refine ⟨a,?_,d,e⟩;simp only [closureFor];rw [show (forIn scope.names ([] : List (Str×ao)) λx r=>_)=(pure a:Sem (List (Str×ao))) from b];rfl
def bu (X:Cx) (N':List Str) (scope:eX) (a:List (Str×ao)) (C:ao) (s₀:ai) (H₀:Hp) (ex:List ao) (pn:List (ao×Obj)):Cx :=
 { X with N:=N',s₀:=s₀,H₀:=H₀,env:=mX scope a C X.env,outer:=X.stack,stack:=X.stack,ex:=ex,fn:=λy=>scope.names.lookup y==some .cell,pn:=pn,xe:=λ_ _=>False }
def E4 (X:Cx) (ifs:List bp) (t:TT):Prop :=
 ∀ (pins:List (ao×Obj)) (s:ai) (σ:St) (H:Hp) (Q:Bool->Hp->Prop),bL X pins σ H s->t σ H Q ->
  au (aA X.prog X.w) X.A (forIn ifs true λc r=>if r=true then do let ok <- ml c X.env (dn c X.env);pure (cR ok) else pure (cR r)) (TP X pins σ Q) X.xe s
def Z8:TT:=λ_ H Q=>Q true H
def Rj:E4 X [] Z8:=λpins s σ H Q I h=>wpAny_tests_nil ⟨H,I,h⟩
def Rk (h:PT X c t):E4 X [c] t:=λpins s σ H Q I a=>wpAny_tests_one (h pins s σ H Q I a)
structure jk (X:Cx) (scope:eX) (N':List Str) (nt:Nat) (ix:List Nat):Prop where
 kind:scope.kind=.function
 cel:∀ y∈scope.names,y.2=.cell->scope.names.lookup y.1=some .cell
 loc:∀ y∈scope.names,y.2=.local->scope.names.lookup y.1=some .local
 free:∀ y∈scope.names,y.2=.free->X.env.scope.names.lookup y.1=some .cell\/X.env.scope.names.lookup y.1=some .free
 cap:∀ k i,ix[k]?=some i->∃ x,X.N[i]?=some x/\N'[nt+k]?=some x/\scope.names.lookup x=some .free
 len:N'.length=nt+ix.length
def gx (nt:Nat) (ix:List Nat) (σ:St):St:=tE nt none++ix.map λi=>(σ[i]?).join
def s_ {env:Env}{x:Str}{a:List (Str×lz)}:a.lookup x=some .free ->
  (a.map λ(n,k)=>if (k==cK&&env.scope.kind == .function&&env.kindOf n==some .cell) then (n,eG) else (n,k)).lookup x=some .free \/
  (a.map λ(n,k)=>if (k==cK&&env.scope.kind == .function&&env.kindOf n==some .cell) then (n,eG) else (n,k)).lookup x=some .cell:=by
 induction a with
 |nil=>intro h;simp at h
 |cons e r d =>
  obtain ⟨n,k⟩:=e;intro h;show yA x ((if (k==cK&&env.scope.kind == .function&&env.kindOf n==some .cell)=true then (n,eG) else (n,k))::_)=_ \/
   yA x ((if (k==cK&&env.scope.kind == .function&&env.kindOf n==some .cell)=true then (n,eG) else (n,k))::_)=_
  cases b:x==n with
  |true =>
   simp only [dv,b] at h;cases h;by_cases c:(cK==cK&&env.scope.kind == .function&&env.kindOf n==some .cell)=true
   ·rw [if_pos c];right;simp [dv,b]
   ·rw [if_neg c];left;simp [dv,b]
  |false =>
   simp only [dv,b] at h;by_cases c:(k==cK&&env.scope.kind == .function&&env.kindOf n==some .cell)=true
   ·rw [if_pos c];simp only [dv,b];exact d h
   ·rw [if_neg c];simp only [dv,b];exact d h
def ve {env:Env}{x:Str}{a:List (Str×lz)} :
  ((a.map λ(n,k)=>if (k==cK&&env.scope.kind == .function&&env.kindOf n==some .cell) then (n,eG) else (n,k)).lookup x=some .free \/
  (a.map λ(n,k)=>if (k==cK&&env.scope.kind == .function&&env.kindOf n==some .cell) then (n,eG) else (n,k)).lookup x=some .cell) ->
  (x,cK)∈a\/(x,eG)∈a:=by
 induction a with
 |nil=>intro h;simp at h
 |cons f r d =>
  obtain ⟨n,k⟩:=f;intro h;have h:yA x ((if (k==cK&&env.scope.kind == .function&&env.kindOf n==some .cell)=true then (n,eG) else (n,k))::_)=_ \/
   yA x ((if (k==cK&&env.scope.kind == .function&&env.kindOf n==some .cell)=true then (n,eG) else (n,k))::_)=_:=h
  cases c:x==n with
  |true =>
   have e:x=n:=by simpa using c
   subst e;by_cases b:(k==cK&&env.scope.kind == .function&&env.kindOf x==some .cell)=true
   ·have:k=.free:=by simp at b;exact b.1.1
    subst this;left;exact ak
   ·rw [if_neg b] at h;simp only [dv,c] at h;rcases h with h|h
    ·cases h;left;exact ak
    ·cases h;right;exact ak
  |false =>
   have h':=d (by
    by_cases b:(k==cK&&env.scope.kind == .function&&env.kindOf n==some .cell)=true
    ·rw [if_pos b] at h;simp only [dv,c] at h;exact h
    ·rw [if_neg b] at h;simp only [dv,c] at h;exact h)
   rcases h' with h' | h'
   ·left;exact ag _ h'
   ·right;exact ag _ h'
inductive Tf (nt:Nat) (ix:List Nat) (g:TG) (tt:TT) (te:TE) (σ:St) (Q:VK) (J:It) (H1:Hp):Prop
 |mk (W:Nat->Nat->List V->Hp->Prop) (w0:∃ m,W 0 m [] H1) (turn:∀ i m acc H,W i m acc H ->
 (J.stop i H/\∀ p,H p=none->Q (.ref p) (upd H p (.lst acc))) \/
 (J.go i H/\acc.length<sizeLine/\∀ x H',J.yld i H x H'->g x (gx nt ix σ) H' λσ2 H2=>tt σ2 H2 λb H3 =>
  if b=true then te σ2 H3 λy H4=>∃ m',m'<m/\W (i+1) m' (acc++[y]) H4 else ∃ m',m'<m/\W (i+1) m' acc H3)):Tf nt ix g tt te σ Q J H1
def Nb (nt:Nat) (ix:List Nat) (c:TI) (g:TG) (b:TT) (a:TE):TE:=λσ H Q=>c σ H (Tf nt ix g b a σ Q)
def js:∀ (b:List (Str×lz)) (n:Nat) (a:List (Str×ao)),aI n b a=aI n b []++a
 |[],_,_=>rfl
 |(y,k)::r,n,a=>by
  unfold aI;split
  ·rw [js r (n+1) ((y,n)::a),js r (n+1) [(y,n)],fB];rfl
  ·exact js r n a
def n_ : ∀ (a:List (Str×lz)) (n:Nat) (b:List (Str×ao)),(x,c)∈aI n a b->(x,eG)∈a\/(x,c)∈b
 |[],_,_,h=>.inr h
 |(y,k)::r,n,b,h=>by
  unfold aI at h;split at h
  ·rename_i d
   have d:k=.cell:=by simpa using d
   rcases n_ r _ _ h with z|z
   ·exact .inl (ag _ z)
   ·rcases List.mem_cons.mp z with z|z
    ·cases z;subst d;exact .inl ak
    ·exact .inr z
  ·exact (n_ r _ _ h).imp (ag _) id
def jt (h:(aI n names cl).lookup x=some c) :
  (x,c)∈aI n names []\/((aI n names []).lookup x=none/\cl.lookup x=some c):=by
 rw [js,Mc] at h;cases e:(aI n names []).lookup x with
 |some d=>rw [e] at h;cases h;exact .inl (ed e)
 |none=>rw [e] at h;exact .inr ⟨rfl,h⟩
def yj {M:M4}{A:bB}{E:af->ai->Prop}{s:ai}{scope:eX}{b:ao}{j:List (Str×ao)}{e:Str}{f:Option ao}{c:af}{outer:Env}{a:ao}{Q:Env->ai->Prop}
  (k:∀ d,d=pushCells (s.heap.push { cls:=.type "dict",data:=.dict #[] }) scope.names->Q (newEnv scope s.heap.objs.size b (aI (s.heap.objs.size+1) scope.names j) e f c (some outer) a) { s with heap:=d }) :
  au M A (lC scope b j [] e f c (some outer) a) Q E s:=by
 simp only [lC,IC,if_true];refine a8 (Qy ?_);refine a8 (wpAny_layCells _ (λname g i=>by cases h:g==eG<;>simp [h]) _ _ _ _ ?_);rw [show ({ s with heap:=s.heap.push { cls:=.type "dict",data:=.dict #[] } }:ai).heap.objs.size=s.heap.objs.size+1 from c9 ..];refine a8 ?_;rw [kz];exact a9 (a9 (k _ rfl))
def rX (h:bD) (a:List (Str×lz)):Gi (pushCells (h.push { cls:=.type "dict",data:=.dict #[] }) a) (h.objs.size+1) (aI (h.objs.size+1) a []):=by
 have ok:=cellsFrom_ok a (h.push { cls:=.type "dict",data:=.dict #[] }) (h.objs.size+1) [] ⟨λ_ _ b=>(nomatch b),qM⟩ (by rw [c9];exact aw _);rw [c9] at ok;exact ok
def vf {scope:eX}{N':List Str}{nt:Nat}{ix:List Nat}{G:List (Str×ao)}{C:ao}{fp:List ao}{t:bD}{t':Nat}{m:Str->Option af}
  (S:jk X scope N' nt ix) (I:bL X pins σ H s) (E:∀ x c,G.lookup x=some c->X.env.cells.lookup x=some c) (c2:∀ y∈scope.names,y.2=.free->∃ c,G.lookup y.1=some c)
  (T:∀ b∈fp,l8 X pins H b) (ff:∀ b∈fp,b<s.heap.objs.size) (O:s.heap.objs.size<=C) (a0:t.Ns C m) (A:∀ b o,s.heap.get? b=some o->t.get? b=some o) (ok:Gi t (C+1) (aI (C+1) scope.names [])) :
  bL (bu X N' scope (aI (C+1) scope.names G) C s H fp (X.pn++pins)) [] (gx nt ix σ) H { s with heap:=t,toks:=t' }:=by
 have g:∀ {c v},s.heap.IsCell c v->t.IsCell c v:=λ{c v} ⟨o,ho,hd⟩=>⟨o,A _ _ ho,hd⟩;have L:∀ {x c},(x,c)∈aI (C+1) scope.names []->s.heap.objs.size<c:=λ{x c} h=>aK (hJ O) (ok.empty x c h).2;have N:∀ {x c},G.lookup x=some c->c<s.heap.objs.size:=λ{x c} h=>by
  obtain ⟨v,q⟩:=I.cell x c (E x c h);exact q.lt
 refine ⟨⟨I.ok.mod,S.kind,I.ok.glob,I.ok.blt,O,λx y c U K=>?_,λx hx=>?_,λx c h K=>?_,I.ok.hd,I.ok.frames,.inl rfl,λb B=>⟨?_,λx c h=>?_⟩,I.bs,cn I.ok.bsz I.sz,λb o h B=>?_,λb B z=>?_,I.stack,I.stkFree⟩,
  rfl,I.bare,Un.kept A,⟨m,a0,λi x v U K h3=>?_⟩,λx c h=>?_,I.hok.fresh O,λx c h=>?_,λp hp=>?_,I.hok.kept A,?_⟩
 ·rcases jt U with a|⟨_,a⟩<;>rcases jt K with b|⟨_,b⟩
  ·exact name_of_addr ok.apart a b
  ·exact absurd (L a) (mY (N b))
  ·exact absurd (L b) (mY (N a))
  ·exact I.ok.inj x y c (E x c a) (E y c b)
 ·have Y:(x,cK)∈scope.names\/(x,eG)∈scope.names:=ve (env:=X.env) (hx.elim .inr .inl);have hs:((aI (C+1) scope.names G).lookup x).isSome=true:=by
   rcases Y with z|z
   ·obtain ⟨c,e⟩:=c2 _ z rfl;exact il _ _ _ (.inr (by rw [e];rfl))
   ·exact il _ _ _ (.inl (S.cel _ z rfl))
  exact Option.isSome_iff_exists.mp hs
 ·rcases jt K with a|⟨a,_⟩
  ·exact cw (L a)
  ·have:=il (x:=x) scope.names (C+1) [] (.inl (by simpa [bu] using h));rw [a] at this;cases this
 ·exact aB (aK (ff b B) O)
 ·rcases jt h with a|⟨_,a⟩
  ·exact ft (jq (ff b B) (L a))
  ·exact (T b B).f4 x c (E x c a)
 ·rcases (T b B).f3 with z|z
  ·exact I.ok.noex b o h z
  ·exact absurd (aK (av h) (cn I.ok.bsz z)) (bf _)
 ·rcases List.mem_cons.mp (I.stkSub b z) with e|e
  ·exact (T b B).f1 e
  ·exact (T b B).f2 e
 ·have M:nt<=i:=by
   refine Qx λQ=>?_;have f:(gx nt ix σ)[i]?=some (some v):=K;unfold gx at f;rw [aW (by simpa using Q),bJ,if_pos Q] at f;cases f
  have f:(gx nt ix σ)[i]?=some (some v):=K;unfold gx at f;rw [bg (by simpa using M),dB,aX] at f;cases e:ix[i-nt]? with
  |none=>rw [e] at f;cases f
  |some j =>
   rw [e] at f;have hj:σ[j]?=some (some v):=by
    have q:(σ[j]?).join=some v:=bY f;cases e3:σ[j]? with
    |none=>rw [e3] at q;cases q
    |some o=>rw [e3] at q;cases o with
     |none=>cases q
     |some v'=>cases q;rfl
   obtain ⟨x',n1,n2,fr⟩:=S.cap _ _ e;rw [Nat.add_sub_cancel' M] at n2;have a1:N'[i]?=some x:=U;rw [a1] at n2;cases n2;obtain ⟨mm,hn,hl⟩:=I.loc;have w:=S.free (x,.free) (ed fr) rfl;obtain ⟨u,r,l⟩:=hl j x v n1 hj (w.elim (λz=>.inr (.inl z)) λz=>.inr (.inr z));refine ⟨u,r,?_⟩;rcases l with ⟨k,_⟩|⟨k,c,hc,hcell⟩
   ·have k:X.env.scope.names.lookup x=some .local:=k;rcases w with z|z<;>(rw [z] at k;cases k)
   ·obtain ⟨c',P⟩:=c2 _ (ed fr) rfl;have:=E x c' P;rw [hc] at this;cases this;have a2:(aI (C+1) scope.names []).lookup x=none:=by
     cases e:(aI (C+1) scope.names []).lookup x with
     |none=>rfl
     |some d =>
      rcases n_ _ _ _ (ed e) with z|z
      ·have q:=S.cel _ z rfl;rw [fr] at q;cases q
      ·cases z
    refine .inr ⟨?_,c,by show (aI (C+1) scope.names G).lookup x=some c;rw [js,Mc,a2];exact P,g hcell⟩;rcases s_ (env:=X.env) fr with z|z
    ·exact .inr z
    ·exact .inl z
 ·rcases jt h with a|⟨_,a⟩
  ·exact ⟨none,(ok.empty x c a).1⟩
  ·obtain ⟨v,q⟩:=I.cell x c (E x c a);exact ⟨v,g q⟩
 ·rcases jt h with a|⟨_,a⟩
  ·exact I.hok.fresh (cw (L a))
  ·exact I.freeC x c (E x c a)
 ·have hp:p∈X.pn++pins:=(List.mem_append.mp hp).elim id λz=>absurd z (by simp);obtain ⟨e,n,ne,nf,d⟩:=I.pin p hp;refine ⟨A _ _ e,n,aB (aK (av e) O),λz=>?_,d⟩;rcases List.mem_cons.mp (I.stkSub p.1 z) with e|e
  ·exact ne e
  ·exact nf e
 ·show (gx nt ix σ).length=N'.length;rw [S.len];simp [gx]
def Un.grow (u:Un fs ex H H1 h h1) (f:bC C h1 h2) (d:h.objs.size<=C) (j:h.objs.size<=D) (c:H1 D=none):Un fs ex H (upd H1 D o) h h2 where
 keep:=λb ob q n g a=>(f.2 b (aB (aK (av q) d))).trans (u.keep b ob q n g a)
 slot:=λb ob q n g a=>by
  obtain ⟨l,e⟩:=u.slot b ob q n g a;exact ⟨l,(f.2 b (aB (aK (av q) d))).trans e⟩
 free:=λb ob q n a=>by rw [bj (aB (aK (av q) j))];exact u.free b ob q n a
 there:=λb ob q a=>by
  obtain ⟨k,e⟩:=u.there b ob q a;exact ⟨k,(f.2 b (aB (aK (av q) d))).trans e⟩
 tups:=λb xs q=>by have z:=u.tups b xs q;rw [bj (c6 z c)];exact z
 frzs:=λb ob xs q=>by have z:=u.frzs b ob xs q;rw [bj (c6 z c)];exact z
 tbls:=λb i q=>by
  obtain ⟨m,z⟩:=u.tbls b i q;exact ⟨m,by rw [bj (c6 z c)];exact z⟩
def vg (k:qz P w H h) (d:H C=none) (f:bC C h h'):qz P w H h':=λb ob e=>by
 refine (k b ob e).stay (λc g a q=>(f.2 c ?_).trans q) (λ_ q=>q) λ_ _ q=>q;rintro rfl;rcases a with rfl|a
 ·rw [d] at e;cases e
 ·rw [d] at a;cases a
def oO (k:qz P w H h) (d:H D=none) (new:dI P w (upd H D o) h D o):qz P w (upd H D o) h:=λb ob e=>by
 by_cases a:b=D
 ·subst a;rw [bi] at e;cases e;exact new
 ·rw [bj a] at e;exact (k b ob e).stay (λc g f q=>q) (λc q=>by rw [bj (c6 q d)];exact q) λc x q=>by rw [bj (c6 q d)];exact q
def nf {M:M4}{A:bB}{a:Type}{t:Sem a}{Q:a->ai->Prop}{b:af->ai->Prop}{s:ai} (h:au M A t Q (λ_ _=>False) s):au M A t Q b s :=
 aT h (λ_ _ q=>q) λ_ _ f=>f.elim
def bL.pin1 (I:bL X [] σ H s) (e:s.heap.get? D=some o) (n:H D=none) (ne:D≠X.env.locals) (nf:D∉X.fs) (d:∀ v,o.data≠.cell v):bL X [(D,o)] σ H s :=
 I.pins_of λp a=>by
  have:p=(D,o):=by simpa using a
  subst this;exact ⟨e,n,ne,nf,d⟩
def Ml (nt:Nat) (g:TG):Prop:=∀ x a H (Q:St->Hp->Prop),g x a H Q->g x a H (λb c=>Q b c/\b.length=a.length/\∀ j,nt<=j->b[j]?=a[j]?)
def Nc (h:i<nt):Ml nt (oK i):=λx a H Q q=>⟨q,by simp,λj b=>ar (by omega)⟩
def Rl {nt i k n:Nat}{K:aa} (h:i<nt) (h':k<nt):Ml nt (UE K n (ah (oK i) (ah (oK k) aP))):=by
 rintro x d H Q ⟨a,xs,rfl,e,c,v,r,rfl,b,g,rfl,rfl,q⟩;exact ⟨a,_,rfl,e,c,v,_,rfl,b,_,rfl,rfl,q,by simp,λj f=>by rw [ar (by omega),ar (by omega)]⟩
inductive ZS (X:Cx) (pins:List (ao×Obj)) (N':List Str) (scope:eX) (cl:List (Str×ao)) (C:ao) (s2:ai) (H2:Hp) (fp:List ao) (nt:Nat) (ix:List Nat) (σ:St) (tn:Nat->bD->Prop) (W:Nat->Nat->List V->Hp->Prop) (n:Nat) (s':ai):Prop
 |mk (i:Nat) (acc:List V) (its:List af) (nn:Nat) (H':Hp) (I:bL (bu X N' scope cl C s2 H2 fp (X.pn++pins)) [(s2.heap.objs.size,{ cls:=.type "list",data:=.seq its.toArray nn })] (gx nt ix σ) H' s') (v:dY acc its) (l:acc.length<=sizeLine) (t:tn i s'.heap) (f:∀ b∈fp,H' b=none) (w:W i n acc H'):ZS X pins N' scope cl C s2 H2 fp nt ix σ tn W n s'
def yL {X:Cx}{a7 tg iter:bp}{ifs:List bp}{scope:eX}{pos:Pos}{g:TG}{tt:TT}{te:TE}{N':List Str}{nt:Nat}{ix:List Nat}
  (hc:X.calm=true) (S:jk X scope N' nt ix) (lo:Ml nt g)
  (l:∀ G C M O ex pn,PG (bu X N' scope G C M O ex pn) tg g/\E4 (bu X N' scope G C M O ex pn) ifs tt/\PE (bu X N' scope G C M O ex pn) a7 te)
  {G:List (Str×ao)} (c1:∀ x c,G.lookup x=some c->X.env.cells.lookup x=some c) (c2:∀ y∈scope.names,y.2=.free->∃ c,G.lookup y.1=some c)
  {pins:List (ao×Obj)}{σ:St}{I:Hp}{f:ai}{it:ao}{t:List ao}{tn:Nat->bD->Prop}{J:It}{Q:VK}{E:af->ai->Prop}
  (Y:bL X pins σ I f) (T:wv X.prog X.w X.K tg J t it tn) (d2:tn 0 f.heap) (f2:∀ b∈t,l8 X pins I b)
  {W:Nat->Nat->List V->Hp->Prop} (w0:∃ m,W 0 m [] I)
  (d0:∀ i m h H,W i m h H->(J.stop i H/\∀ p,H p=none->Q (.ref p) (upd H p (.lst h))) \/
   (J.go i H/\h.length<sizeLine/\∀ x H',J.yld i H x H'->g x (gx nt ix σ) H' λd5 I=>tt d5 I λb H3 =>
    if b=true then te d5 H3 λy H4=>∃ m',m'<m/\W (i+1) m' (h++[y]) H4 else ∃ m',m'<m/\W (i+1) m' h H3))
  {RR:af->ao->qK->ai->Prop}
  (e1:∀ D C m s' (h:List V) H',H' D=none->l8 X pins (upd H' D (.lst h)) C->Q (.ref D) (upd H' D (.lst h))->s'.heap.Ns C m->(∀ h',bC C s'.heap h'->bL X pins σ (upd H' D (.lst h)) { s' with heap:=h' })->RR (.ref D) C (.ok .next) s') :
  au (aA X.prog X.w) X.A (newList []) (λh d9=>au (aA X.prog X.w) X.A (lC scope X.env.globals G [] X.env.qual none .none (some X.env)) (λa2 c4 =>
   dZ (aA X.prog X.w) X.A (.compStart (.ListComp a7 [⟨tg,iter,ifs,0⟩] scope pos) 0 (.ref it) h { a2 with scope:=relabel scope X.env }) (RR h a2.locals) c4) E d9) E f:=by
 refine bK (yj λk s=>?_);dsimp only at s ⊢;generalize b0:f.heap.push { cls:=.type "list",dict:=none,data:=.seq ([] : List af).toArray }=G2 at s ⊢;have hC:G2.objs.size=f.heap.objs.size+1:=by rw [<- b0,c9]
 have U:f.heap.objs.size≠G2.objs.size:=by rw [hC];exact aB (cZ _)
 have L:f.heap.objs.size<=G2.objs.size:=by rw [hC];exact jh _
 have below:∀ b,b<f.heap.objs.size->b≠G2.objs.size:=λb l=>by rw [hC];exact aB (cO l)
 have kp:∀ b o,G2.get? b=some o->k.get? b=some o:=λb o e=>by rw [s];exact h_ _ _ b o (ac _ e)
 have a0:k.Ns G2.objs.size (λ_=>none):=by rw [s];exact (xj G2 (.type "dict")).keeps (h_ _ _)
 have N:Gi k (G2.objs.size+1) (aI (G2.objs.size+1) scope.names []):=by rw [s];exact rX G2 scope.names
 have cne:∀ x c,(aI (G2.objs.size+1) scope.names G).lookup x=some c->X.env.cells.lookup x=some c\/f.heap.objs.size<c:=λx c e=>by
  rcases jt e with a|⟨_,a⟩
  ·exact .inr (aK (hJ L) (N.empty x c a).2)
  ·exact .inl (c1 x c a)
 have d3:∀ b o,f.heap.get? b=some o->k.get? b=some o:=λb o e=>kp b o (b0 ▸ ac _ e);have b8:k.get? f.heap.objs.size=some { cls:=.type "list",dict:=none,data:=.seq ([] : List af).toArray }:=kp _ _ (b0 ▸ ay _ rfl);have ff:∀ b∈t,b<f.heap.objs.size:=λb l=>by
  obtain ⟨o,e,_⟩:=T.obj _ _ d2 b l;exact av e
 have I3:bL (bu X N' scope (aI (G2.objs.size+1) scope.names G) G2.objs.size f I t (X.pn++pins)) [] (gx nt ix σ) I { f with heap:=k,toks:=f.toks }:=vf S Y c1 c2 f2 ff L a0 d3 N;obtain ⟨pg,pt,pe⟩:=l (aI (G2.objs.size+1) scope.names G) G2.objs.size f I t (X.pn++pins);have a3:f.heap.objs.size∉wj X.stack:=λz=>by
  rcases List.mem_cons.mp (Y.stkSub _ z) with e|e
  ·exact absurd Y.lt (by rw [<- e];exact bf _)
  ·exact Y.nofs (aw _) e
 have b6:∀ (B:List af) (n:Nat) v,({ cls:=.type "list",data:=.seq B.toArray n }:Obj).data≠.cell v:=λ_ _ _ z=>nomatch z;have c5:tn 0 k:=T.keep _ _ _ d2 λb _ o e=>d3 b o e;have b7:f.heap.objs.size∉t:=λz=>absurd (ff _ z) (bf _);have P:∀ {H':Hp}{pl:List (ao×Obj)},(∀ p∈pl,p.1∉t)->(∀ b∈t,H' b=none)->∀ b∈t,l8 (bu X N' scope (aI (G2.objs.size+1) scope.names G) G2.objs.size f I t (X.pn++pins)) pl H' b:=λg4 hn b l=>by
  obtain ⟨f0,f1,e2,f3,f4,f5⟩:=f2 b l;refine ⟨hn b l,below b (ff b l),λz=>?_,.inl l,λx c e=>(cne x c e).elim (f4 x c) λq z=>mY q (by rw [z];exact ff b l),λp hp z=>?_⟩
  ·rcases List.mem_cons.mp (Y.stkSub _ z) with e|e
   ·exact f1 e
   ·exact e2 e
  ·rcases List.mem_append.mp hp with q|q
   ·exact f5 p q z
   ·exact g4 p q (z ▸ l)
 obtain ⟨m0,w0⟩:=w0;have a1:dZ (aA X.prog X.w) X.A (.compLoop (.ListComp a7 [⟨tg,iter,ifs,0⟩] scope pos) 0 (.ref it) (.ref f.heap.objs.size) (mX scope (aI (G2.objs.size+1) scope.names G) G2.objs.size X.env))
    (RR (.ref f.heap.objs.size) G2.objs.size) { f with heap:=k,toks:=f.toks }:=by
  refine CH (ZS X pins N' scope (aI (G2.objs.size+1) scope.names G) G2.objs.size f I t nt ix σ tn W) ?_ m0
   ⟨0,[],[],0,I,I3.pin1 b8 (Y.hok.fresh (aw _)) U a3 (b6 _ _),.nil,cx _,c5,λb l=>(f2 b l).1,w0⟩
  rintro n s3 ⟨i,h,B,nn,H3,J3,rv,hz,d6,d1,w3⟩;have a6:∀ p∈[(f.heap.objs.size,({ cls:=.type "list",data:=.seq B.toArray nn }:Obj))],p.1∉t:=λp hp=>by
   have:p=(f.heap.objs.size,({ cls:=.type "list",data:=.seq B.toArray nn }:Obj)):=by simpa using hp
   rw [this];exact b7
  rcases d0 i n h H3 w3 with ⟨c3,qn⟩|⟨go,hlt,step⟩
  ·refine eK (T.done (bu X N' scope (aI (G2.objs.size+1) scope.names G) G2.objs.size f I t (X.pn++pins)) rfl rfl rfl hc i _ s3 _ H3 _ J3 (P a6 d1) d6 c3) λr s4 e3=>?_;obtain ⟨hr,I4⟩:=e3;subst hr;obtain ⟨pD,pN,_⟩:=I4.pin (f.heap.objs.size,_) (al _ (List.mem_singleton.mpr rfl));obtain ⟨mm,hn,_⟩:=I4.loc;have d7:H3 G2.objs.size=none:=I4.free;refine e1 _ _ mm s4 h H3 pN (Y.fpOk L (by rw [bj (cF U)];exact d7)) (qn _ pN) hn λh' sb=>?_;have hu:Un (wj X.stack) t I (upd H3 f.heap.objs.size (.lst h)) f.heap h':=Un.grow I4.base sb L (aw _) pN;refine Y.call' (s':={ s4 with heap:=h' }) (ch:=t) I4.os hu ?_ I4.bare λb l=>?_
   ·refine oO (vg I4.hok d7 sb) pN ⟨hz,B,nn,rv,(sb.2 _ U).trans pD⟩
   ·obtain ⟨_,f1,_,f3,f4,f5⟩:=f2 b l;exact ⟨f3,f1,f4,f5⟩
  ·refine eK (T.item (bu X N' scope (aI (G2.objs.size+1) scope.names G) G2.objs.size f I t (X.pn++pins)) rfl rfl rfl hc i _ s3 _ H3 _ J3 (P a6 d1) d6 go) λr s4 g7=>?_;obtain ⟨u,hr,h4⟩:=g7;subst hr;refine eK h4 λ_ s5 e4=>?_;obtain ⟨x,H5,I5,r5,y5,a4,g5⟩:=e4;have e0:=I5.pinned (P a6 g5) (T.obj _ _ a4);refine eK (pg _ s5 _ H5 x u _ e0 r5 (lo _ _ _ _ (step x H5 y5))) λ_ s6 e5=>?_;obtain ⟨a5,H6,I6,q6,l6,k6⟩:=e5;have hw:∀ (j:Nat) v,(gx nt ix σ)[j]?=some (some v)->a5[j]?=some (some v):=λj v e=>by
    by_cases hj:nt<=j
    ·rw [k6 j hj];exact e
    ·unfold gx at e;rw [aW (by simpa using hj),bJ,if_pos (by omega)] at e;cases e
   refine eK (pt _ s6 a5 H6 _ I6 q6) λb s7 g3=>?_;obtain ⟨H7,I7,q7⟩:=g3;have d8:∀ {s8:ai}{d4:St}{H8:Hp},bL (bu X N' scope (aI (G2.objs.size+1) scope.names G) G2.objs.size f I t (X.pn++pins)) ([(f.heap.objs.size,{ cls:=.type "list",data:=.seq B.toArray nn })]++lJ t s5.heap) d4 H8 s8 ->
     tn (i+1) s8.heap/\∀ b∈t,H8 b=none:=λ{s8 d4 H8} I8=>by
    refine ⟨T.keep _ _ _ a4 λb l o e=>(I8.pin (b,o) (al _ (al _ (eL l e)))).1,λb l=>?_⟩;obtain ⟨o,e,d⟩:=T.obj _ _ a4 b l;exact (I8.pin (b,o) (al _ (al _ (eL l e)))).2.1
   cases b with
   |false =>
    simp only [ba,if_false] at q7 ⊢;obtain ⟨m',hm,w7⟩:=q7;obtain ⟨t7,f7⟩:=d8 I7;exact ⟨m',hm,i+1,h,B,nn,H7,(I7.weak l6.symm hw).unpinned,rv,hz,t7,f7,w7⟩
   |true =>
    simp only [if_true] at q7 ⊢;refine eK (pe _ s7 a5 H7 _ I7 q7) λu8 s8 f6=>?_;obtain ⟨y,H8,I8,r8,m',hm,w8⟩:=f6;obtain ⟨t8,f8⟩:=d8 I8;obtain ⟨pD,pN,_⟩:=I8.pin (f.heap.objs.size,_) (al _ (aN _ (List.mem_singleton.mpr rfl)));have hl:=rv.length;refine wpAny_list_append_plain ⟨nn,pD⟩ (hsz:=by rw [aR];omega) ?_;intro h9 g0 c0;obtain ⟨n9,e9⟩:=g0;have g1:h9.get? f.heap.objs.size=some { cls:=.type "list",data:=.seq (B++[u8]).toArray n9 }:=by rw [e9];simp
    refine ⟨m',hm,i+1,h++[y],B++[u8],n9,H8,?_,rv.append (.cons r8 .nil),by rw [aJ,dC];omega,T.keep _ _ _ t8 λb l o e=>c0.extBut b o (λz=>b7 (z ▸ l)) e,f8,w8⟩;have e6:bL (bu X N' scope (aI (G2.objs.size+1) scope.names G) G2.objs.size f I t (X.pn++pins)) [] (gx nt ix σ) H8 s8:=(I8.weak l6.symm hw).pins_of λp hp=>absurd hp (by simp);have I9:bL (bu X N' scope (aI (G2.objs.size+1) scope.names G) G2.objs.size f I t (X.pn++pins)) [] (gx nt ix σ) H8 { s8 with heap:=h9,toks:=s8.toks } :=
     e6.turned (it:=f.heap.objs.size) (λb o l e=>c0.extBut b o l e) pN U (.inr (aw _)) (λx c e z=>by
      rcases cne x c e with e|e
      ·obtain ⟨v,q⟩:=Y.cell x c e;exact absurd q.lt (by rw [z];exact bf _)
      ·exact absurd e (by rw [z];exact bf _)) λp hp z=>by
      have hp:p∈X.pn++pins:=(List.mem_append.mp hp).elim id λz=>absurd z (by simp);exact absurd (av (Y.pin p hp).1) (by rw [z];exact bf _)
    exact I9.pin1 g1 pN U a3 (b6 _ _)
 exact codeAny_compStart_list a1 (T.self _ 0 _ _ _ c5 a1)
def Ep
  (B:X.calm=true) (S:jk X scope N' nt ix) (lo:Ml nt g) (E:PI X tg iter wi)
  (L:∀ f C b a k i,PG (bu X N' scope f C b a k i) tg g/\E4 (bu X N' scope f C b a k i) ifs tt/\PE (bu X N' scope f C b a k i) elt te)
  (hs:∀ x,bU iter X.env x=pure x:=by intro _;rfl):PE X (.ListComp elt [⟨tg,iter,ifs,0⟩] scope pos) (Nb nt ix wi g tt te):=by
 intro pins s σ H Q I h;obtain ⟨f,l,P,t⟩:=mq (scope:=scope) (env:=X.env) λy o G=>I.ok.has y.1 (S.free y o G);rw [eval_ListComp];refine im (use:=none) rfl hs l S.kind S.loc (eK (E pins s σ H _ I h) λv Y n=>eK n λu s2 O=>?_);obtain ⟨it,fp,tn,J,H2,e,M,T,j,K,W,p,d⟩:=O;subst e;refine yL (RR:=λc C=>GD (aA X.prog X.w) X.A X.xe none (EP X pins σ Q) c C) B S lo L P t M T j K p d ?_;intro D C m s' c H' hD _ q N z;exact ⟨m,N,λh' U=>⟨.ref D,_,z h' U,rfl,q⟩⟩
def Tg (i:Nat) (a:TE):TS:=λD σ H=>a σ H λx b=>D.nx (σ.set i (some x)) b
def G_
  (hN:X.N.Nodup) (hiN:X.N[i]?=some y) (hy:X.env.scope.names.lookup y=some .local)
  (hc:X.calm=true) (S:jk X scope N' nt ix) (lo:Ml nt g) (hi:PI X tg iter wi)
  (hb:∀ cl C s₀ H₀ ex pn,PG (bu X N' scope cl C s₀ H₀ ex pn) tg g/\E4 (bu X N' scope cl C s₀ H₀ ex pn) ifs tt/\PE (bu X N' scope cl C s₀ H₀ ex pn) elt te)
  (hsw:gF (.ListComp elt [⟨tg,iter,ifs,0⟩] scope pos) (some (.Name y py)) spos.line X.env=pure true:=by rfl)
  (hs:∀ x,bU iter X.env x=pure x:=by intro _;rfl):PS X (.Assign [.Name y py] (.ListComp elt [⟨tg,iter,ifs,0⟩] scope pos) spos) (Tg i (Nb nt ix wi g tt te)):=by
 intro pins s σ H D I h;obtain ⟨cl,hcl,c1,c2⟩:=mq (scope:=scope) (env:=X.env) λy hy hf=>I.ok.has y.1 (S.free y hy hf);rw [Qe _ _ _ _ hsw];refine a8 (cU (a8 ?_));show au _ X.A (do let _ <- yd (.ListComp elt [⟨tg,iter,ifs,0⟩] scope pos) scope X.env _ (newList []) false (dn iter X.env) (some (iV (.Name y py) X.env))) _ _ s;refine a8 (aT (im (use:=some (iV (.Name y py) X.env)) (Q:=λ_ s'=>SP X pins D .next s') rfl hs hcl S.kind S.loc
  (eK (hi pins s σ H _ I h) λv s1 h1=>eK h1 λitv s2 h2=>?_)) (λ_ s' hq=>a9 (a9 hq)) λ_ _ e=>e)
 obtain ⟨it,fp,tn,J,H2,e,I2,T,st2,f2,W,w0,turn⟩:=h2;subst e;refine yL (Q:=λx H1=>D.nx (σ.set i (some x)) H1) (RR:=λacc C=>GD (aA X.prog X.w) X.A X.xe (some (iV (.Name y py) X.env)) (λ_ s'=>SP X pins D .next s') acc C) hc S lo hb c1 c2 I2 T st2 f2 w0 turn ?_;intro L C m s' acc H' hD fC q hn hI;show au _ X.A (iV (.Name y py) X.env (.ref L)) _ _ _;have I3:bL X pins σ (upd H' L (.lst acc)) s':=hI s'.heap (.refl ..);refine Aq (wu I3 hN hiN (.inl hy) (v:=.ref L) rfl (λs4 I4 ⟨a,sb,ha⟩=>?_) (.inr hy));obtain ⟨g0,g1,g2,g3,g4,g5⟩:=fC;have hCa:C≠a:=by
  rcases ha with z|z
  ·rw [z];exact g1
  ·exact λe=>g4 y a z e.symm
 refine ⟨m,hn.sameBut sb hCa,λh5 sb5=>?_⟩;exact ⟨_,_,I4.turned (t':=s4.toks) (λb o hb e=>(sb5.2 b hb).trans e) g0 g1 g3 g4 g5,q⟩
def ko (e:Int×af):Str:=match e.2 with
 |.str x _=>x
 |_=>⟨#[]⟩
def u7 (w:bz) (e:Int×af):Prop:=∃ x a,e=(hashStr w x,iH x a)
structure dw (w:bz) (h:bD) (a:ao) (es:Array (Int×af)) (ep:Nat) (t:lE):Prop where
 at_:h.get? a=some { cls:=.type "set",dict:=none,data:=.set es ep t }
 txt:∀ e∈es.toList,u7 w e
 nd:(es.toList.map ko).Nodup
 few:es.size<i0
 fits:t.fits es.size=true
 led:t.led=!w.params.followText "set-order"
 pl:es.size=0\/t.plain=false
inductive jV (w:bz) (h:bD) (a:ao) (ss:List Str):Prop
 |mk (es ep t:_) (h0:dw w h a es ep t) (h1:(es.toList.map ko).Perm ss):jV w h a ss
def Hb (t:lE) (es:Array (Int×af)) (h:Int) (x:af):(layNew t es h x).2.1.led=t.led:=by
 unfold layNew;cases t.freeSlot h with
 |none=>rfl
 |some p =>
  obtain ⟨a,d⟩:=p;show ((t.put a).1.orStandIn _).led=_;unfold Gj;split<;>rfl
def CI (t:lE) (es:Array (Int×af)) (h:Int) (x:af):t.plain=false->(layNew t es h x).2.1.plain=false:=by
 intro b;unfold layNew;cases t.freeSlot h with
 |none=>rfl
 |some p =>
  obtain ⟨a,d⟩:=p;show ((t.put a).1.orStandIn _).plain=_;unfold Gj;split
  ·exact b
  ·rfl
def Er {t t':lE}{hs:Array Int}{n:Nat}{o:Array Nat} (h:t.relaid hs n=some (t',o)):t'.led=t.led/\t'.plain=t.plain:=by
 unfold Kj Ai at h;cases e:uR (cL n-1) hs with
 |none=>rw [e] at h;cases h
 |some b =>
  rw [e] at h;have h:=bY h;have a:=congrArg Prod.fst h;subst a;exact ⟨rfl,rfl⟩
def KN (t:lE) (es:Array (Int×af)) (n:Nat):(wn t es n).2.1.led=t.led/\(t.plain=false->(wn t es n).2.1.plain=false):=by
 unfold wn;cases e:t.relaid (es.map (·.1)) n with
 |none=>exact ⟨rfl,λ_=>rfl⟩
 |some p =>
  obtain ⟨t',o⟩:=p;obtain ⟨a,b⟩:=Er e;dsimp only;split
  ·exact ⟨a,λh=>b.trans h⟩
  ·exact ⟨rfl,λ_=>rfl⟩
def Nd (h:∀ e∈l,u7 w e):ElemsOf (strKind P w) l:=λe he=>by
 obtain ⟨x,a,rfl⟩:=h e he;exact ⟨⟨x,by simp [PySem.strKind,uP],rfl⟩,rfl⟩
def Yq (P:a_) (w:bz) (x:Str) (a:Tok):(strKind P w).is x (.str x a)=true:=by simp [PySem.strKind,uP]
def IS (h:u7 w e) (x:Str):(strKind P w).is x e.2=true↔ko e=x:=by
 obtain ⟨y,a,rfl⟩:=h;constructor
 ·intro q;have:=(strKind P w).inj _ _ _ q (Yq P w y a);rw [this];rfl
 ·rintro rfl;exact Yq P w _ a
def rY (I:dw w h a es ep t):(h.update a (qN es' t')).get? a=some { cls:=.type "set",dict:=none,data:=.set es' (ep+1) t' }:=by
 have q:=eh (qN es' t') I.at_ rfl;exact q
def Br (hS:jV w s.heap a ss) (hr:ss.length+1<i0)
  (h:∀ h' tk',bC a s.heap h'->jV w h' a (if x∈ss then ss else ss++[x])->Q (!decide (x∈ss)) { s with heap:=h',toks:=tk' }) :
  au (aA P w) A (setAddHashed a (.str x tk) ((strKind P w).hash x)) Q E s:=by
 obtain ⟨es,ep,t,I,pm⟩:=hS
 have hlen:es.size=ss.length:=by rw [<- pm.length_eq,aq,ax]
 have hel:ElemsOf (strKind P w) es.toList:=Nd I.txt
 unfold setAddHashed setAddHashedIn
 refine bZ (a8 (bE (s:=s) I.at_ rfl I.fits ?_))
 dsimp only
 rw [byScan_of rfl I.few hel]
 rw [if_pos rfl]
 unfold setAddByScan
 refine a8 (a8 (dH (a8 (wpAny_setScan_of (s:=s) (Yq P w x tk) I.at_ rfl I.fits hel ?_))))
 have inmem:x∈ss↔∃ e∈es.toList,(strKind P w).is x e.2=true:=by
  rw [<- pm.mem_iff,cC]
  constructor
  ·rintro ⟨e,he,q⟩;exact ⟨e,he,(IS (I.txt e he) x).mpr q⟩
  ·rintro ⟨e,he,q⟩;exact ⟨e,he,(IS (I.txt e he) x).mp q⟩
 cases hf:List.findIdx? (λe=>(strKind P w).is x e.2) es.toList with
 |some j =>
  obtain ⟨hj,hp,_⟩:=List.findIdx?_eq_some_iff_getElem.mp hf
  have hin:x∈ss:=inmem.mpr ⟨_,jm hj,hp⟩
  have q:=h s.heap s.toks (.refl ..) (by rw [if_pos hin];exact ⟨es,ep,t,I,pm⟩)
  rw [decide_eq_true hin] at q
  exact a9 (a9 q)
 |none =>
  have hout:x∉ss:=λz=>by
   obtain ⟨e,he,q⟩:=inmem.mp z
   rw [List.findIdx?_eq_none_iff.mp hf e he] at q
   cases q
  have h:=λh' tk' sb=>h h' tk' sb
  rw [decide_eq_false hout,if_neg hout] at h
  have p1:=layNew_perm t es ((strKind P w).hash x) (.str x tk)
  have f1:=layNew_fits t es ((strKind P w).hash x) (.str x tk)
  have l1:=Hb t es ((strKind P w).hash x) (.str x tk)
  have q1:=CI t es ((strKind P w).hash x) (.str x tk)
  generalize layNew t es ((strKind P w).hash x) (.str x tk)=L at p1 f1 l1 q1 ⊢
  obtain ⟨es1,t1,wd,gv⟩:=L
  dsimp only at p1 f1 l1 q1 ⊢
  rw [Md] at p1
  have tx1:∀ e∈es1.toList,u7 w e:=λe he=>by
   rcases List.mem_append.mp (p1.mem_iff.mp he) with z|z
   ·exact I.txt e z
   ·rw [df] at z;exact ⟨x,tk,z⟩
  have km:(es1.toList.map ko).Perm (ss++[x]):=(p1.map ko).trans (by rw [bc];exact pm.append_right _)
  have nd1:(ss++[x]).Nodup:=by
   rw [oH]
   exact ⟨pm.nodup_iff.mp I.nd,by simp,λy hy z hz e=>hout (by rw [df] at hz;rw [<- hz,<- e];exact hy)⟩
  have sz1:es1.size=es.size+1:=by rw [<- ax,p1.length_eq,aJ,ax];rfl
  have few1:es1.size<i0:=by omega
  have gw:∀ (b:Bool) {s₁:ai}{Q':Unit->ai->Prop},Q' () s₁->au (aA P w) A (match b with|true=>rule "set.scan.the-table-gave-way" | false=>pure ()) Q' E s₁ :=
   λb _ _ z=>by cases b<;>first|exact a9 z|exact dH z
  have tail:∀ t2:lE,t2.fits es1.size=true->t2.led=t.led->t2.plain=false->au (aA P w) A (do
    storeSet a es1 t2
    if (!wd&&t2.tooFull)=true then do
      (match (wn t2 es1 (iO es1.size)).2.2 with|true=>rule "set.scan.the-table-gave-way" | false=>pure ())
      storeSet a (wn t2 es1 (iO es1.size)).1 (wn t2 es1 (iO es1.size)).2.1
      pure (some true)
     else pure (some true)) (λr s'=>r=some true/\Q true s') E s:=λt2 f2 l2 n2=>by
   refine a8 (jn (s:=s) I.at_ rfl ?_ (fW few1))
   have at1:=rY (es':=es1) (t':=t2) I
   have sb1:=bP s.heap a (qN es1 t2)
   have I1:dw w (s.heap.update a (qN es1 t2)) a es1 (ep+1) t2:=⟨at1,tx1,km.nodup_iff.mpr nd1,few1,f2,l2.trans I.led,.inr n2⟩
   split
   ·have p2:=relayAll_perm t2 es1 (iO es1.size)
    have f3:=relayAll_fits t2 es1 (iO es1.size)
    have l3:=KN t2 es1 (iO es1.size)
    generalize wn t2 es1 (iO es1.size)=R3 at p2 f3 l3 ⊢
    obtain ⟨es2,t3,gv2⟩:=R3
    dsimp only at p2 f3 l3 ⊢
    have few2:es2.size<i0:=by rw [<- ax,p2.length_eq,ax];exact few1
    have km2:=(p2.map ko).trans km
    refine a8 (gw _ (a8 (jn (s:={ s with heap:=s.heap.update a (qN es1 t2) }) I1.at_ rfl ?_ (fW few2))))
    refine a9 ⟨rfl,h _ _ (sb1.trans (bP _ a _)) ⟨es2,ep+1+1,t3,⟨rY I1,λe he=>tx1 e (p2.mem_iff.mp he),km2.nodup_iff.mpr nd1,few2,f3,l3.1.trans (l2.trans I.led),.inr (l3.2 n2)⟩,km2⟩⟩
   ·exact a9 ⟨rfl,h _ _ sb1 ⟨es1,ep+1,t2,I1,km⟩⟩
  refine a8 (gw gv ?_)
  cases hp:t1.plain with
  |true =>
   simp only [if_true]
   rw [hashByValue_scannable 8 (x:=.str x tk) rfl]
   refine a8 (a9 ?_)
   refine aT (tail { t1 with plain:=false } (by cases t1;exact f1) l1 rfl) (λr s' z=>?_) λ_ _ z=>z
   obtain ⟨rfl,z⟩:=z
   exact a9 z
  |false =>
   simp only [ba,if_false]
   refine a8 (a9 ?_)
   refine aT (tail t1 f1 l1 hp) (λr s' z=>?_) λ_ _ z=>z
   obtain ⟨rfl,z⟩:=z
   exact a9 z
def Es (d:jV w s.heap a ss) (c:ss.length+1<i0)
  (h:∀ h' b,bC a s.heap h'->jV w h' a (if x∈ss then ss else ss++[x])->Q (!decide (x∈ss)) { s with heap:=h',toks:=b }) :
  au (aA P w) A (setAdd a (.str x tk)) Q E s:=by
 unfold setAdd;refine bZ (a8 ((strKind P w).pyHash (k:=x) (Yq P w x tk) ?_));exact Br (s:={ s with toks:=s.toks+1 }) d c h
abbrev fj (w:bz):Obj:={ cls:=.type "set",dict:=none,data:=.set #[] 0 (.fresh 0 0 (!w.params.followText "set-order")) }
def wz (w:bz) (e:h.get? a=some (fj w)):jV w h a [] :=
 ⟨#[],0,_,⟨e,λe he=>by simp at he,by simp,by decide,rfl,rfl,.inl rfl⟩,by simp⟩
def cY:List Str->List Str->List Str
 |acc,[]=>acc
 |acc,x::r=>cY (if x∈acc then acc else acc++[x]) r
def j8:∀ (l a:List Str) (x:Str),x∈cY a l↔x∈a\/x∈l
 |[],a,x=>by simp [cY]
 |y::r,a,x=>by
  rw [cY,j8 r];by_cases h:y∈a
  ·rw [if_pos h];simp only [aQ];constructor
   ·exact λz=>z.elim .inl λz=>.inr (.inr z)
   ·rintro (z|z|z)
    ·exact .inl z
    ·exact .inl (z ▸ h)
    ·exact .inr z
  ·rw [if_neg h];simp [eu,or_assoc]
def i_:∀ (l c:List Str),c.Nodup->(cY c l).Nodup
 |[],c,h=>h
 |y::r,c,h=>by
  rw [cY];refine i_ r _ ?_;by_cases d:y∈c
  ·rw [if_pos d];exact h
  ·rw [if_neg d,oH];exact ⟨h,by simp,λa g b f e=>d (by rw [df] at f;rw [<- f,<- e];exact g)⟩
def fk:∀ (l a:List Str),(cY a l).length<=a.length+l.length
 |[],a=>by simp [cY]
 |y::r,a=>by
  rw [cY];have:=fk r (if y∈a then a else a++[y]);by_cases b:y∈a
  ·rw [if_pos b] at this ⊢;simp only [aY];omega
  ·rw [if_neg b] at this ⊢;simp only [aY,aJ,dC,cG] at this ⊢;omega
def jV.keep (x:jV w h a ss) (k:∀ o,h.get? a=some o->h'.get? a=some o):jV w h' a ss :=
 let ⟨es,ep,t,I,p⟩:=x;⟨es,ep,t,⟨k _ I.at_,I.txt,I.nd,I.few,I.fits,I.led,I.pl⟩,p⟩
def AH {I:ao}{G l:List ao}{n:Nat}{E:Nat->af->Prop}{St:Nat->bD->Prop} (W:Av prog w A.in1 I G l n E St) (D:ao) (H:D∉G) (xs:List Str) (hx:xs.length=n)
  (hv:∀ i v,E i v->∃ x t,xs[i]?=some x/\v=.str x t) (c:n+1<i0) :
  ∀ (k i:Nat) (s:ai) (a:List Str),n-i=k->i<=n->a.length<=i->St i s.heap->jV w s.heap D a ->
   (∀ h' g,(∀ b o,b∉D::l->s.heap.get? b=some o->h'.get? b=some o)->jV w h' D (cY a (xs.drop i))->R (.ok (.ret .none)) { s with heap:=h',toks:=g }) ->
   dZ (aA prog w) A (.builtin "set.update.loop" ⟨[.ref D,.ref I],[]⟩) R s:=by
 have d:D∉l:=λz=>H (W.sub _ z);intro k;induction k with
 |zero =>
  intro i s a X Q O st u B;obtain rfl:i=n:=by omega
  refine eI o_ ?_;rw [c_ iJ _];show au _ A.in1 (gn (.ref I) >>= _) _ _ s;refine a8 (W.done s _ _ st λh' g kp=>?_);refine a9 (B h' g (λb o c e=>kp b o (λz=>c (ag _ z)) e) ?_);rw [Gk (by omega)];exact u.keep λo e=>kp D o d e
 |succ k M =>
  intro i s a X Q O st u B;have f:i<n:=by omega
  refine eI o_ ?_;rw [c_ iJ _];show au _ A.in1 (gn (.ref I) >>= _) _ _ s;refine a8 (W.item i s _ _ f st λv h' g S q kp=>?_);obtain ⟨x,t,m,rfl⟩:=hv i v S;have h:jV w h' D a:=u.keep λo e=>kp D o d e;refine a8 (bZ (Es (s:={ s with heap:=h',toks:=g }) h (by omega) λK T L y=>?_));refine a9 ⟨gD iJ _,M (i+1) _ (if x∈a then a else a++[x]) (by omega) f ?_ (W.frame _ _ _ q λb c o e=>?_) y λP p Y j=>?_⟩
  ·by_cases z:x∈a
   ·rw [if_pos z];omega
   ·rw [if_neg z,aJ,dC];omega
  ·rw [L.2 b λz=>H (z ▸ c)];exact e
  ·refine B P p (λb o c e=>Y b o c ?_) ?_
   ·rw [L.2 b λz=>c (by rw [z];exact ak)];exact kp b o (λz=>c (ag _ z)) e
   ·have U:xs.drop i=x::xs.drop (i+1):=by
     obtain ⟨N,K⟩:=List.getElem?_eq_some_iff.mp m;rw [Ck N,K]
    rw [U,cY];exact j
def Nf (a:af) (h:Q₁ (.ref s.heap.objs.size) { s with heap:=s.heap.push (fj w) }) :
  dZ (aA prog w) A (.call (.builtin "set.__new__") ⟨[.type "set",a],[]⟩) (wants Q₁ E) s:=by
 refine uS ?_;show au _ A.in1 (do checkBuiltinCall "set.__new__" ⟨[.type "set",a],[]⟩;again (.builtin "set.__new__" ⟨[.type "set",a],[]⟩)) _ _ s;refine a8 (eT (F.newCall_set_1 a) (a9 ⟨gD F.plain_set_new _,eI F.entry_set_new ?_⟩));rw [c_ F.plain_set_new _];unfold iC.«set.__new__» Qz;have hsub:=Mt;obtain ⟨hp,g,d,tk,os⟩:=s;dsimp only;wp_walk;refine gH (a9 ?_);dsimp only;simp only [newObj];refine a8 (Qy (a9 ?_));exact a9 h
structure V5 (prog:a_) (w:bz) (A:bB) (T:String) (l:ao) (o:Obj) (items:Array af):Prop where
 ty:o.cls=.type T
 s1:isSubtype (.type T) (.type "set")=pure false
 s2:isSubtype (.type T) (.type "frozenset")=pure false
 nd:(j5 T==j5 "dict")=false
 iter:∀ (s:ai) (Q:af->ai->Prop) (E:af->ai->Prop),s.heap.get? l=some o ->
  (∀ ob St,Av prog w A.in1 s.heap.objs.size [s.heap.objs.size,l] [s.heap.objs.size] items.size (λi v=>items[i]?=some v) St->St 0 (s.heap.push ob)->Q (.ref s.heap.objs.size) { s with heap:=s.heap.push ob })->au (aA prog w) A (qI (.ref l)) Q E s
def vh {T:String}{l:ao}{H:Obj}{items:Array af}{xs:List Str}{Q:af->ai->Prop}
  (B:V5 prog w A.in1.in1 T l H items) (y:s.heap.get? l=some H) (X:∀ (i:Nat) (v:af),items[i]?=some v->∃ x t,xs[i]?=some x/\v=iH x t) (hx:xs.length=items.size) (Y:items.size+1<i0)
  (h:∀ (h':bD) (k:Nat),jV w h' s.heap.objs.size (cY [] xs)->(∀ b o,s.heap.get? b=some o->h'.get? b=some o)->Q (.ref s.heap.objs.size) { s with heap:=h',toks:=k }) :
  au (aA prog w) A (call (.type "set") [.ref l]) Q E s:=by
 obtain ⟨c,tl,P⟩:=F.called_set.mro;have G:=F.called_set.made;have O:=F.called_set.sub;refine wpAny_call (uS ?_);show au _ _ (callAny (.type "set") _) _ _ _;refine a9 ⟨Code.quiet_builtin _ (by decide +kernel),eI F.entry_type_call ?_⟩;rw [Around.under_plain (weight_type_call_type "set" [.ref l] []) rfl];have h1:=F.called_set.notType;have h2:=F.called_set.canCreate;have a0:=F.typeCall_set_1 (.ref l);repeat (any_goals (first|assumption|wp_step))
 refine oF (Nf (.ref l) (E:=E) (Q₁:=λm d=>m=.ref s.heap.objs.size/\d={ s with heap:=s.heap.push (fj w) }) ⟨rfl,rfl⟩) λr d q=>?_;cases r with
 |error e=>exact q
 |ok U =>
  cases U with
  |ret m =>
   obtain ⟨rfl,rfl⟩:=q;have N:(s.heap.push (fj w)).get? s.heap.objs.size=some (fj w):=ay _ rfl;have hT:QA { s with heap:=s.heap.push (fj w) } (.ref s.heap.objs.size) "set":=⟨_,N,rfl⟩;have S:=F.called_set.init.lookup;have a1:=F.called_set.init.bind (.ref s.heap.objs.size);repeat (any_goals (first|assumption|wp_step))
   refine oF (QB (R:=wants (λr f=>r=.none/\∃ h' k,f={ s with heap:=h',toks:=k }/\jV w h' s.heap.objs.size (cY [] xs) /\
     (∀ b o,s.heap.get? b=some o->h'.get? b=some o)) E) F.called_set.init.plain F.entry_set_init (check_set_init_1 hT ?_)) λp f a=>?_
   ·obtain ⟨oc,od,I,L⟩:=H;obtain ⟨ty,s1,s2,nd,iter⟩:=B;have ty:oc=.type T:=ty;subst ty;have u:(s.heap.push (fj w)).get? l=some { cls:=.type T,dict:=od,data:=I,slots:=L }:=ac _ y;unfold iC.«set.__init__» noKeywords jL;generalize K:qI=PI;wp_walk;subst K;refine iter { s with heap:=s.heap.push (fj w) } _ _ u λob St W st=>?_;have z:l<s.heap.objs.size:=av y;refine a8 (wpAny_runValue ?_);have n:(s.heap.push (fj w)).objs.size=s.heap.objs.size+1:=c9 ..;refine AH (A:=A.in1.in1) W s.heap.objs.size (by rw [n];simp only [aQ,bh,or_false,not_or];exact ⟨aB (cZ _),ft z⟩) xs hx X Y items.size 0 _ [] (by omega) (cx _) (aw _) st (wz w (ac _ N)) λh' k kp j=>?_;show au _ _ _ _ _ _;refine a9 ?_;show au _ _ (ret eR) _ _ _;refine a9 ⟨rfl,h',k,rfl,j,λb o e=>kp b o ?_ (ac _ (ac _ e))⟩;have:=av e;rw [n];simp only [aQ,bh,or_false,not_or];exact ⟨aB this,aB (cO this)⟩
   ·cases p with
    |error e=>exact a
    |ok g =>
     cases g with
     |ret r =>
      obtain ⟨rfl,h',k,rfl,j,M⟩:=a;repeat (any_goals (first|assumption|wp_step))
      exact h _ _ j M
     |next=>exact a.elim
     |brk=>exact a.elim
     |cont=>exact a.elim
  |next=>exact q.elim
  |brk=>exact q.elim
  |cont=>exact q.elim
def Ng {l:ao}{o:Obj}{a:List af} (d:A.handled=none) (b:o.cls=.type "list") (c:∃ n,o.data=.seq a.toArray n):V5 prog w A "list" l o a.toArray :=
 ⟨b,F.sub_list_set,F.sub_list_frozenset,by decide,λs Q E e h=>i4 ⟨_,e,b,c⟩
  (h _ _ (qy (by simpa using d) _ l (aB (av e)) a.toArray) ⟨⟨_,ay _ rfl,rfl,rfl⟩,⟨_,ac _ e,b,c⟩⟩)⟩
def Rm {l:ao}{o:Obj}{a:List af} (d:A.handled=none) (b:o.cls=.type "tuple") (c:∃ n,o.data=.seq a.toArray n):V5 prog w A "tuple" l o a.toArray :=
 ⟨b,F.sub_tuple_set,F.sub_tuple_frozenset,by decide,λs Q E e h=>gN ⟨_,e,b,c⟩
  (h _ _ (Walks.tuple (by simpa using d) _ l (aB (av e)) a.toArray) ⟨⟨_,ay _ rfl,rfl,rfl⟩,⟨_,ac _ e,b,c⟩⟩)⟩
end L2
namespace L2
open PySem PySem.Spec PyProof.Rows
namespace SI
def entry_iter:Aw table "set.__iter__"=some iC.«frozenset.__iter__» :=
 GE (id':="frozenset.__iter__") (by kernel_rfl) rfl (by decide +kernel) (by kernel_rfl)
def slot_next:Slot "set_iterator" "__next__" "set_iterator.__next__":=by
 refine .of (owner:="set_iterator") (n:="__next__") ?_ ?_ ?_ ?_ ?_ ?_
 ·rw [E9,uY];kernel_rfl
 ·decide +kernel
 ·decide +kernel
 ·decide +kernel
 ·first
   |exact .inl (by decide +kernel)
   |exact .inr (by decide +kernel)
 ·rw [GF];kernel_rfl
def entry_next:Aw table "set_iterator.__next__"=some iC.«set_iterator.__next__» :=
 entryFor_of_tree (by kernel_rfl)
def Et:Manifest.owners.lookup (String.ofList ['r','o','t','a','r','e','t','i','_','t','e','s'].reverse)=some Manifest.sig_set_iterator:=by kernel_rfl
def args_next (a:af):Cm "set_iterator.__next__" ⟨[a],[]⟩:=by
 unfold Cm;rw [signature?_of (id:="set_iterator.__next__") (n:=['_','_','t','x','e','n','_','_']) (o:=['r','o','t','a','r','e','t','i','_','t','e','s']) (by kernel_rfl) Et]
 kernel_rfl
def args_iter (a:af):Cm "set_iterator.__iter__" ⟨[a],[]⟩:=by
 unfold Cm;rw [signature?_of (id:="set_iterator.__iter__") (n:=['_','_','r','e','t','i','_','_']) (o:=['r','o','t','a','r','e','t','i','_','t','e','s']) (by kernel_rfl) Et]
 kernel_rfl
def entry_self:Aw table "set_iterator.__iter__"=some iC.«dict_keyiterator.__iter__» :=
 GE (id':="dict_keyiterator.__iter__") (by kernel_rfl) rfl (by decide +kernel) (by kernel_rfl)
def slot_iter:Slot "set_iterator" "__iter__" "set_iterator.__iter__":=by
 refine .of (owner:="set_iterator") (n:="__iter__") ?_ ?_ ?_ ?_ ?_ ?_
 ·rw [E9,uY];kernel_rfl
 ·decide +kernel
 ·decide +kernel
 ·decide +kernel
 ·first
   |exact .inl (by decide +kernel)
   |exact .inr (by decide +kernel)
 ·rw [GF];kernel_rfl
end SI
end L2
namespace L2
open PySem PySem.Spec PyProof.Rows
def ua {a:Type}:∀ {l:List a}{i:Nat} (h:i<l.length),(l[i]::l.eraseIdx i).Perm l
 |x::r,0,_=>.refl _
 |x::r,i+1,h=>by
  have q:=ua (l:=r) (i:=i) (by simpa using h);rw [List.getElem_cons_succ,List.eraseIdx_cons_succ];exact (List.Perm.swap _ _ _).trans (q.cons x)
def KO (a:n≠0) (h:∀ i d,i<n->Q i { s with drawn:=d }):au M A (choose src n) Q E s :=
 λ_ _ _=>⟨a,h _ _ (Co _ (Nat.pos_of_ne_zero a))⟩
def vi {c:Type}:∀ (n:Nat) (xs:List c) (s:ai) (Q:List c->ai->Prop),n=xs.length->(∀ ys d,ys.Perm xs->Q ys { s with drawn:=d })->au M A (drawOrder n xs) Q E s
 | 0,xs,s,Q,a,h=>by
  obtain rfl:xs=[]:=List.length_eq_zero_iff.mp a.symm;exact a9 (h [] s.drawn .nil)
 |n+1,[],s,Q,a,h=>by cases a
 |n+1,x::r,s,Q,a,h=>by
  show au M A (choose .order (x::r).length >>= _) Q E s;refine a8 (KO (by simp) λi d b=>?_);rw [aZ b];refine a8 (vi n _ _ _ (by rw [Bc b];omega) λys d' p=>a9 ?_);exact h _ _ ((p.cons _).trans (ua b))
def CJ {b:Type} (next:Nat->Nat):∀ (n k:Nat) (left:List b) (out:Array b),n=left.length->(Ax next n k left out).toList.Perm (out.toList++left)
 | 0,k,left,out,hn=>by
  obtain rfl:left=[]:=List.length_eq_zero_iff.mp hn.symm;rw [Ax,bN]
 |n+1,k,left,out,hn=>by
  have a:next k % left.length<left.length:=Co _ (by omega)
  rw [Ax,aZ a];refine (CJ next n (k+1) _ _ (by rw [Bc a];omega)).trans ?_;rw [Md,fB];exact (ua a).append_left _
def wA {a:Type} (next:Nat->Nat) (xs:Array a):(pc next xs).toList.Perm xs.toList:=by
 have:=CJ next xs.size 0 xs.toList #[] (by simp)
 simpa [pc] using this
def CK (h:bD) (I S:ao) (first:af) (i n ep:Nat):Prop:=h.get? I=some { cls:=.type "set_iterator",data:=.fields #[first,.int i 0,.ref S,.int n 0,.int ep 0] }
def CK.put {f c:af}{j b:Nat}{k:Nat}{x:af}{h:bD} (a:CK h I S f j n ep) (e:(#[f,.int j 0,.ref S,.int n 0,.int ep 0] : Array af).setIfInBounds k x=#[c,.int b 0,.ref S,.int n 0,.int ep 0]) :
  CK (h.update I (eW (·.setIfInBounds k x))) I S c b n ep:=by
 have q:=eh (eW (·.setIfInBounds k x)) a rfl;unfold CK;rw [q];show some ({ cls:=.type "set_iterator",data:=.fields ((#[f,.int j 0,.ref S,.int n 0,.int ep 0] : Array af).setIfInBounds k x) }:Obj)=_;rw [e]
def rZ (hit:CK s.heap I S first i n ep) (hS:dw w s.heap S es ep t) (hn:n=es.size)
  (h:au (aA prog w) A.in1 (do
   if let .int slot _:=first then
    match <- Mu S slot.toNat i ep with
    |some (x,next) =>
     iE (.ref I) 0 (cA next)
     iE (.ref I) 1 (cA (i+1))
     ret x
    |none=>iE (.ref I) 2 .none;sS (<- tZ (.type "StopIteration") [])
   else
    let some places <- sU first|QC "internal:set_iterator"
    match places[i]? with
    |some (.int place _) =>
     let x <- setNextDrawn S place.toNat ep
     iE (.ref I) 1 (cA (i+1))
     ret x
    |some _=>QC "internal:set_iterator"
    |none=>iE (.ref I) 0 (cA 0);iE (.ref I) 2 .none;sS (<- tZ (.type "StopIteration") []))
   (λfin s'=>∃ v,fin=.done (.ret v)/\Q (some v) s') (λe s'=>au (aA prog w) A (isInstance e (.type "StopIteration")) (λb s''=>b=true/\Q none s'') E s') s) :
  au (aA prog w) A (gn (.ref I)) Q E s:=by
 unfold gn;refine a8 (ki ?_);refine cE (name:=hG "__next__") ⟨_,hit,rfl⟩ SI.slot_next ?_;refine bO SI.slot_next ⟨_,hit,rfl⟩ SI.entry_next ?_ (SI.args_next _);show au _ _ (fieldsOf (.ref I) >>= _) _ _ s;refine a8 (GG hit rfl ?_);show au _ _ (setEntries S >>= _) _ _ s;refine a8 (wpAny_setEntries_of hS.at_ rfl hS.fits ?_);rw [if_neg (by rw [hn];simp)];refine aT h (λfin s' z=>?_) λe s' z=>?_
 ·obtain ⟨v,rfl,q⟩:=z;exact ⟨v,rfl,a9 q⟩
 ·refine a8 (aT z (λb s'' ⟨hb,q⟩=>?_) λ_ _ z=>z);subst hb;exact a9 q
def CL {B:bB}{Q:Option af->ai->Prop}{Q':Fin->ai->Prop}{o:Obj}{vs:Array af} (hh:B.handled=none) (ho:s.heap.get? I=some o) (hd:o.data=.fields vs) (hz:2<vs.size)
  (h:∀ h',ID I s.heap h'->Q none { s with heap:=h' }) :
  au (aA prog w) B (do iE (.ref I) 2 .none;sS (<- tZ (.type "StopIteration") []))
   Q' (λe s'=>au (aA prog w) A (isInstance e (.type "StopIteration")) (λb s''=>b=true/\Q none s'') E s') s:=by
 refine a8 (gQ ho hd hz ?_);show au _ _ (tZ (.type "StopIteration") [] >>= _) _ _ _;refine a8 ?_;simp only [tZ,QD];refine a8 (bK ?_ (by size_fits));refine a8 (m:=lF _ _) (eT (a:=eR) ?_ ?_)
 ·first
   |rfl
   |(simp only [lF];rfl)
 refine bK ?_ (by size_fits);simp only [sS];refine a8 (Kk ?_);rw [hh];refine a8 (a9 (QE ?_));refine gI (T:="StopIteration") (b:=true) ⟨_,ay _ rfl,rfl⟩ wo ⟨rfl,?_⟩;exact h _ (((bP ..).extBut.push _).push _)
section
variable {prog:a_}{w:bz}{A:bB}{E:af->ai->Prop}{s:ai}{I S:ao}{es:Array (Int×af)}{ep:Nat}{t:lE}{i n:Nat}{first:af}
def dw.keep (x:dw w h S es ep t) (k:∀ o,h.get? S=some o->h'.get? S=some o):dw w h' S es ep t:=⟨k _ x.at_,x.txt,x.nd,x.few,x.fits,x.led,x.pl⟩
def CM {Q:af->ai->Prop} (a:CK s.heap I S first i n ep) (h:Q (.ref I) s):au (aA prog w) A (qI (.ref I)) Q E s:=by
 refine Ay ⟨_,a,rfl⟩ SI.slot_iter (bO SI.slot_iter ⟨_,a,rfl⟩ SI.entry_self ?_ (SI.args_iter _));show au _ _ (ret (.ref I)) _ _ s;exact a9 ⟨_,rfl,"set_iterator",_,⟨_,a,rfl⟩,SI.slot_next.lookup,h⟩
def fN {Q:Bool->ai->Prop}{B:bB} (h:Q (w.params.followText "set-order") s):au (aA prog w) B setsByText Q E s:=by
 unfold setsByText;exact a8 (gH (a9 h))
def Nh {B:bB}{Q':Fin->ai->Prop}{x:af}{nx:Nat}{E':af->ai->Prop} (hit:CK s.heap I S first i n ep)
  (h:∀ h',CK h' I S (.int nx 0) (i+1) n ep->bC I s.heap h'->Q' (.done (.ret x)) { s with heap:=h' }) :
  au (aA prog w) B (do iE (.ref I) 0 (cA nx);iE (.ref I) 1 (cA (i+1));ret x) Q' E' s:=by
 refine a8 (gQ hit rfl (by simp) ?_);have h1:CK (s.heap.update I (eW (·.setIfInBounds 0 (cA nx)))) I S (.int nx 0) i n ep:=hit.put (by simp [cA]);refine a8 (gQ h1 rfl (by simp) ?_);have h2:CK ((s.heap.update I (eW (·.setIfInBounds 0 (cA nx)))).update I (eW (·.setIfInBounds 1 (cA (i+1))))) I S (.int nx 0) (i+1) n ep:=h1.put (by simp [cA]);exact a9 (h _ h2 ((bP ..).trans (bP ..)))
def wB (f:Nat->Nat) (es:Array (Int×af)):(pc f es).size=es.size:=by
 rw [<- ax,(wA f es).length_eq,ax]
def Hc (hh:A.handled=none) (hw:w.params.followText "set-order"=true) (hne:S≠I) :
  Av prog w A I [I,S] [I] es.size (λi v=>((pc (w.params.setOrder S ep) es).toList.map (·.2))[i]?=some v) (λi h=>CK h I S (.int 0 0) i es.size ep/\dw w h S es ep t) where
 sub:=λb hb=>by simp at hb;simp [hb]
 frame:=λi h h' st k=>⟨k I (by simp) _ st.1,st.2.keep λo e=>k S (by simp) o e⟩
 item:=λi s Q E hi st hQ=>by
  obtain ⟨hit,hS⟩:=st;refine rZ hit hS rfl ?_;dsimp only;unfold Mu setWalk;refine a8 (a8 (bE hS.at_ rfl hS.fits (a8 (fN ?_))));rw [hw];simp only [if_true,bne_self_eq_false,ba,if_false];refine a8 (a8 (bE hS.at_ rfl hS.fits (a8 (fN ?_))));rw [hw];simp only [if_true];refine a8 (gH (a9 (a9 ?_)));have hi':i<(pc (w.params.setOrder S ep) es).size:=by rw [wB];exact hi
  show au _ _ (match ((pc (w.params.setOrder S ep) es)[i]?).map λe=>(e.2,(0:Int).toNat) with
   |some (x,next)=>do iE (.ref I) 0 (cA next);iE (.ref I) 1 (cA (i+1));ret x
   |none=>do iE (.ref I) 2 .none;sS (<- tZ (.type "StopIteration") [])) _ _ s
  rw [getElem?_pos _ i hi'];refine Nh (nx:=0) hit λh' h1 sb=>⟨_,rfl,hQ _ h' s.toks ?_ ⟨h1,hS.keep λo e=>(sb.2 S hne).trans e⟩ λb o hb e=>(sb.2 b λz=>hb (by simp [z])).trans e⟩;simp [hi']
 done:=λs Q E st hQ=>by
  obtain ⟨hit,hS⟩:=st;refine rZ hit hS rfl ?_;dsimp only;unfold Mu setWalk;refine a8 (a8 (bE hS.at_ rfl hS.fits (a8 (fN ?_))));rw [hw];simp only [if_true,bne_self_eq_false,ba,if_false];refine a8 (a8 (bE hS.at_ rfl hS.fits (a8 (fN ?_))));rw [hw];simp only [if_true];refine a8 (gH (a9 (a9 ?_)));show au _ _ (match ((pc (w.params.setOrder S ep) es)[es.size]?).map λe=>(e.2,(0:Int).toNat) with
   |some (x,next)=>do iE (.ref I) 0 (cA next);iE (.ref I) 1 (cA (es.size+1));ret x
   |none=>do iE (.ref I) 2 .none;sS (<- tZ (.type "StopIteration") [])) _ _ s
  rw [getElem?_neg _ es.size (by rw [wB];exact bf _)];exact CL (by simpa using hh) hit rfl (by simp) λh' eb=>hQ h' s.toks λb o hb e=>eb b o (λz=>hb (by simp [z])) e
 self:=λi s Q E st h=>CM st.1 h
inductive Z9 (h:bD) (T:ao) (ps:List Nat):Prop
 |mk (o k:_) (h0:h.get? T=some o) (h1:o.data=.seq (ps.map λ(p:Nat)=>jg (p:Int) 0).toArray k):Z9 h T ps
def Eu (B:A.handled=none) (u:S≠I) (K:T≠I) (G:∀ p∈ps,p<es.size) (y:ps.length=es.size) :
  Av prog w A I [I,S,T] [I] es.size (λi v=>(ps.map λp=>(es.getD p (0,.none)).2)[i]?=some v) (λi h=>CK h I S (.ref T) i es.size ep/\dw w h S es ep t/\Z9 h T ps) where
 sub:=λb f=>by simp at f;simp [f]
 frame:=λi h h' st k=>⟨k I (by simp) _ st.1,st.2.1.keep λo e=>k S (by simp) o e,let ⟨o,q,e,d⟩:=st.2.2;⟨o,q,k T (by simp) o e,d⟩⟩
 item:=λi s Q E L st x=>by
  obtain ⟨a,g,o,q,e,d⟩:=st;refine rZ a g rfl ?_;dsimp only;refine a8 (dG e d ?_);have c:i<ps.length:=by omega
  dsimp only;rw [show ((ps.map λ(p:Nat)=>jg (p:Int) 0).toArray)[i]?=some (.int (ps[i] : Nat) 0) by simp [c]];dsimp only;unfold setNextDrawn;refine a8 (a8 (bE g.at_ rfl g.fits ?_));have l:=G ps[i] (jm c);simp only [bne_self_eq_false,ba,if_false,kF];rw [getElem?_pos es ps[i] l];refine a9 ?_;refine a8 (gQ a rfl (by simp) ?_);have m:CK (s.heap.update I (eW (·.setIfInBounds 1 (cA (i+1))))) I S (.ref T) (i+1) es.size ep:=a.put (by simp [cA]);have j:bC I s.heap (s.heap.update I (eW (·.setIfInBounds 1 (cA (i+1))))):=bP ..;refine a9 ⟨_,rfl,x _ _ s.toks ?_ ⟨m,g.keep λo e=>(j.2 S u).trans e,o,q,(j.2 T K).trans e,d⟩ λb o f e=>(j.2 b λz=>f (by simp [z])).trans e⟩;simp [c,l]
 done:=λs Q E st x=>by
  obtain ⟨a,g,o,q,e,d⟩:=st;refine rZ a g rfl ?_;dsimp only;refine a8 (dG e d ?_);dsimp only;rw [show ((ps.map λ(p:Nat)=>jg (p:Int) 0).toArray)[es.size]?=none by simp [<- y]];dsimp only;refine a8 (gQ a rfl (by simp) ?_);have m:CK (s.heap.update I (eW (·.setIfInBounds 0 (cA 0)))) I S (.int 0 0) es.size es.size ep:=a.put (by simp [cA]);have j:bC I s.heap (s.heap.update I (eW (·.setIfInBounds 0 (cA 0)))):=bP ..;exact CL (s:={ s with heap:=s.heap.update I (eW (·.setIfInBounds 0 (cA 0))) }) (by simpa using B) m rfl (by simp) λh' H=>x h' s.toks λb o f e=>H b o (λz=>f (by simp [z])) ((j.2 b λz=>f (by simp [z])).trans e)
 self:=λi s Q E st h=>CM st.1 h
def Ni (h:p=#[j]):iP p 0=0:=by subst h;simp [iP,Az]
def Nj {p:Array Nat}{j:Nat} (h:p=#[j]):iP p (j+1)=1:=by subst h;simp [iP,Az]
def KP (h : t.fits 1 = true) : ∃ j, t.place = #[j] := by
  have a : t.place.size = 1 := by
    simp only [nh, aV, beq_iff_eq] at h; exact h.1
  exact ⟨t.place[0], by apply Array.ext; · simp [a]
                        · intro i c b; have : i = 0 := by omega
                          subst this; simp⟩
def V6 (a:t.led=true) (h:au (aA prog w) B (k ()) Q E s) :
  au (aA prog w) B ((if (!t.led && !es.isEmpty)=true then QC "set:maker-not-led" else pure ()) >>= k) Q E s:=by
 rw [if_neg (by rw [a];simp)];exact a8 (a9 h)
def vj {B:bB}{a g:Nat}{Q:Option (af×Nat)->ai->Prop} (c:w.params.followText "set-order"=false) (b:dw w s.heap S es ep t) (e:es.size<=1)
  (h:Q (match es[iP t.place a]?,t.place[iP t.place a]? with|some (_,x),some j=>some (x,j+1)|_,_=>none) s):au (aA prog w) B (Mu S a g ep) Q E s:=by
 unfold Mu;refine a8 (bE b.at_ rfl b.fits (a8 (fN ?_)));rw [c];simp only [ba,if_false];split
 ·rename_i z
  exact absurd (show (!t.plain&&decide (es.size > 1))=true from z) (by simp;omega)
 ·have d:t.led=true:=by rw [b.led,c];rfl
  exact V6 d (a9 h)
def KQ (L:A.handled=none) (x:w.params.followText "set-order"=false) (q:S≠I) (m:es.size<=1) :
  Av prog w A I [I,S] [I] es.size (λi v=>(es.toList.map (·.2))[i]?=some v)
   (λi h=>∃ k,CK h I S (.int (k:Nat) 0) i es.size ep/\dw w h S es ep t/\(i=0->k=0)/\(i=1->es.size=1->∃ j,t.place=#[j]/\k=j+1)) where
 sub:=λb f=>by simp at f;simp [f]
 frame:=λi h h' st k=>let ⟨c,a1,a2,a3⟩:=st;⟨c,k I (by simp) _ a1,a2.keep λo e=>k S (by simp) o e,a3⟩
 item:=λi s Q E N st u=>by
  obtain ⟨c,a,d,y,B⟩:=st;have p:i=0:=by omega
  subst p;obtain rfl:c=0:=y rfl;have g:es.size=1:=by omega
  obtain ⟨j,l⟩:=KP (t:=t) (by rw [<- g];exact d.fits);refine rZ a d rfl ?_;dsimp only;refine a8 (vj x d m ?_);rw [show (((0:Nat):Int).toNat)=0 from rfl,Ni l,getElem?_pos es 0 (by omega),l];refine Nh (nx:=j+1) a λh' m G=>⟨_,rfl,u _ h' s.toks ?_ ⟨j+1,m,d.keep λo e=>(G.2 S q).trans e,by simp,λ_ _=>⟨j,l,rfl⟩⟩ λb o f e=>(G.2 b λz=>f (by simp [z])).trans e⟩;simp [g]
 done:=λs Q E st u=>by
  obtain ⟨c,a,d,y,B⟩:=st;refine rZ a d rfl ?_;dsimp only;refine a8 (vj x d m ?_);have H:es[iP t.place ((c:Nat):Int).toNat]?=none:=by
   rcases Nat.eq_zero_or_pos es.size with z|z
   ·rw [getElem?_neg];omega
   ·have g:es.size=1:=by omega
    obtain ⟨j,l,K⟩:=B g g;rw [K,show (((j+1:Nat):Int).toNat)=j+1 from rfl,Nj l,getElem?_neg];omega
  rw [H];exact CL (by simpa using L) a rfl (by simp) λh' M=>u h' s.toks λb o f e=>M b o (λz=>f (by simp [z])) e
 self:=λi s Q E st h=>let ⟨_,a1,_⟩:=st;CM a1 h
def Hd {Q:af->ai->Prop} (hh:A.handled=none) (g:dw w s.heap S es ep t)
  (h:∀ (I:ao) (l:List ao) (a:List af) (St:Nat->bD->Prop) (h':bD) (d:M3),s.heap.objs.size<=I->(∀ b∈l,b=S\/s.heap.objs.size<=b)->(∀ b∈l,b<h'.objs.size)->a.Perm (es.toList.map (·.2))->(∀ B:bB,B.handled=none->Av prog w B I l [I] a.length (λi v=>a[i]?=some v) St)->St 0 h' ->
   (∀ b o,s.heap.get? b=some o->h'.get? b=some o)->QA { s with heap:=h',drawn:=d } (.ref I) "set_iterator"->Q (.ref I) { s with heap:=h',drawn:=d }):au (aA prog w) A (qI (.ref S)) Q E s:=by
 have U:s.TypeIs (.ref S) "set":=⟨_,g.at_,rfl⟩;have m:=av g.at_;refine Ay U F.slot_set_iter (bO F.slot_set_iter U SI.entry_iter ?_ (F.args_set_iter_1 _));show au _ _ (t_ S >>= _) _ _ s;unfold t_;refine a8 (a8 (wpAny_setEntries_of g.at_ rfl g.fits (a9 ?_)));show au _ _ (setDrawn S >>= _) _ _ s;unfold setDrawn;refine a8 (a8 (bE g.at_ rfl g.fits (a8 (fN (a9 ?_)))));have fin:∀ (first:af) (l:List ao) (a:List af) (St:Nat->bD->Prop) (h':bD) (d:M3),(∀ b o,s.heap.get? b=some o->h'.get? b=some o)->s.heap.objs.size<=h'.objs.size ->
   (∀ b∈l,b=S\/b=h'.objs.size\/(s.heap.objs.size<=b/\b<h'.objs.size))->a.Perm (es.toList.map (·.2))->(∀ B:bB,B.handled=none->Av prog w B h'.objs.size l [h'.objs.size] a.length (λi v=>a[i]?=some v) St) ->
   (∀ c:bD,(∀ b o,h'.get? b=some o->c.get? b=some o)->CK c h'.objs.size S first 0 es.size ep->St 0 c) ->
   au (aA prog w) A.in1 (setEpoch S >>= λe=>newFields "set_iterator" [first,cA 0,.ref S,cA es.size,cA e] >>= λx=>ret x) (λfin s'=>∃ v,fin=.done (.ret v)/\∃ T r,s'.TypeIs v T/\GA (.type T) "__next__"=pure (some r)/\Q v s') E { s with heap:=h',drawn:=d }:=by
  intro first l a St h' d kp hsz u K W st
  have G:dw w h' S es ep t:=g.keep λo e=>kp S o e;refine a8 (wpAny_setEpoch_of (s:={ s with heap:=h',drawn:=d }) G.at_ rfl G.fits ?_);refine a8 (bK ?_ (by size_fits));have P:∀ b o,h'.get? b=some o->(h'.push { cls:=.type "set_iterator",dict:=none,data:=.fields #[first,cA 0,.ref S,cA es.size,cA ep] }).get? b=some o:=λb o e=>ac _ e;have it:(h'.push { cls:=.type "set_iterator",dict:=none,data:=.fields #[first,cA 0,.ref S,cA es.size,cA ep] }).get? h'.objs.size=some { cls:=.type "set_iterator",dict:=none,data:=.fields #[first,cA 0,.ref S,cA es.size,cA ep] }:=ay _ rfl;refine a9 ⟨_,rfl,"set_iterator",_,⟨_,it,rfl⟩,SI.slot_next.lookup,h h'.objs.size l a St _ d hsz (λb f=>?_) (λb f=>?_) K W (st _ P it) (λb o e=>P b o (kp b o e)) ⟨_,it,rfl⟩⟩
  ·rcases u b f with z|z|z
   ·exact .inl z
   ·exact .inr (by rw [z];exact hsz)
   ·exact .inr z.1
  ·rw [c9];rcases u b f with z|z|z
   ·rw [z];exact cO (aK m hsz)
   ·rw [z];exact cZ _
   ·exact cO z.2
 dsimp only;split
 ·rename_i z
  have z:(!w.params.followText "set-order" && (!t.plain&&decide (es.size > 1)))=true:=z;refine a8 (vi _ _ _ _ (by simp) λys d K=>?_);simp only [QD];have L:ys.length=es.size:=by have:=K.length_eq;rwa [fD] at this
  have Y:=fW g.few;refine a8 (bK ?_ (by show (ys.map λ(i:Nat)=>cA i).toArray.size<=sizeLine;simp;omega));have q:∀ ob:Obj,(s.heap.push ob).objs.size=s.heap.objs.size+1:=λob=>c9 ..;refine fin (.ref s.heap.objs.size) [s.heap.objs.size+1,S,s.heap.objs.size] (ys.map λp=>(es.getD p (0,.none)).2)
   (λi h=>CK h (s.heap.objs.size+1) S (.ref s.heap.objs.size) i es.size ep/\dw w h S es ep t/\Z9 h s.heap.objs.size ys) (s.heap.push _) d
   (λb o e=>ac _ e) (by rw [q];exact jh _) (λb f=>?_) ?_ (λB M=>?_) (λc k it=>⟨by rw [q] at it;exact it,g.keep λo e=>k S o (ac _ e),_,_,k _ _ (ay _ rfl),rfl⟩)
  ·simp only [aQ,bh,or_false] at f;rcases f with y|y|y
   ·exact .inr (.inl (by rw [q];exact y))
   ·exact .inl y
   ·exact .inr (.inr ⟨by rw [y];exact aw _,by rw [q,y];exact cZ _⟩)
  ·refine (K.map _).trans (.of_eq ?_);apply ye
   ·simp
   ·intro k N h2;have:k<es.size:=by simpa using N
    simp [this]
  ·rw [aq,L,q];exact Eu M (aB (cO m)) (aB (cZ _)) (λp X=>List.mem_range.mp (K.mem_iff.mp X)) L
 ·rename_i z
  have z:¬ (!w.params.followText "set-order" && (!t.plain&&decide (es.size > 1)))=true:=z;refine a8 (a9 ?_);have H:S≠s.heap.objs.size:=aB m;cases O:w.params.followText "set-order" with
  |true =>
   refine fin (cA 0) [s.heap.objs.size,S] ((pc (w.params.setOrder S ep) es).toList.map (·.2)) (λi h=>CK h s.heap.objs.size S (.int 0 0) i es.size ep/\dw w h S es ep t) s.heap s.drawn (λ_ _ e=>e) (aw _) (λb f=>?_) ((wA _ es).map _) (λB M=>?_) (λc k it=>⟨it,g.keep λo e=>k S o e⟩)
   ·simp only [aQ,bh,or_false] at f;exact f.elim (λz=>.inr (.inl z)) .inl
   ·rw [aq,ax,wB];exact Hc M O H
  |false =>
   have N:es.size<=1:=by
    rw [O] at z;rcases g.pl with y|y
    ·omega
    ·rw [y] at z;simpa using z
   refine fin (cA 0) [s.heap.objs.size,S] (es.toList.map (·.2)) (λi h=>∃ k,CK h s.heap.objs.size S (.int (k:Nat) 0) i es.size ep/\dw w h S es ep t/\(i=0->k=0)/\(i=1->es.size=1->∃ j,t.place=#[j]/\k=j+1)) s.heap s.drawn (λ_ _ e=>e) (aw _) (λb f=>?_) (.refl _) (λB M=>?_) (λc k it=>⟨0,it,g.keep λo e=>k S o e,λ_=>rfl,λy=>by cases y⟩)
   ·simp only [aQ,bh,or_false] at f;exact f.elim (λz=>.inr (.inl z)) .inl
   ·rw [aq,ax];exact KQ M O H N
end
def Ev (Y:A.handled=none) (O:dw w s.heap S es ep t)
  (h:∀ (a:List af) (h':bD) (d:M3) (tk:Nat),a.Perm (es.toList.map (·.2))->(∀ b o,s.heap.get? b=some o->h'.get? b=some o)->s.heap.objs.size<=h'.objs.size->Q a { s with heap:=h',drawn:=d,toks:=tk }) :
  au (aA prog w) A (collect (.ref S)) Q E s:=by
 have G:=av O.at_;unfold collect;refine a8 (wpAny_runValue (eI F.entry_proto_collect ?_));rw [c_ F.plain_proto_collect _];show au _ A.in1 (newList [] >>= λl=>again (.builtin "list.__iadd__" ⟨[l,.ref S],[]⟩)) _ _ s;refine a8 (bK ?_);refine a9 ⟨gD F.plain_list_iadd _,eI F.entry_list_iadd ?_⟩;rw [c_ F.plain_list_iadd _];let p:ai:={ s with heap:=s.heap.push { cls:=.type "list",data:=.seq ([] : List af).toArray } }
 have u:p.heap.objs.size=s.heap.objs.size+1:=c9 ..;have K:p.heap.get? s.heap.objs.size=some { cls:=.type "list",data:=.seq ([] : List af).toArray }:=ay _ rfl;have k:dw w p.heap S es ep t:=O.keep λo e=>ac _ e;show au _ A.in1 (uZ (.ref s.heap.objs.size) (.ref S) (.ref s.heap.objs.size)) _ _ p;have L:p.TypeIs (.ref S) "set":=⟨_,k.at_,rfl⟩;unfold uZ;refine a8 (lB L ?_);have e1:xk (.ref s.heap.objs.size) (.ref S)=false:=by simp [xk,ft G]
 have e2:(j5 "set" == j5 "list")=false:=by decide
 have e3:(j5 "set" == j5 "tuple")=false:=by decide
 simp only [e1,e2,e3,Bool.or_false,ba,if_false];refine a8 (Hd (A:=A.in1) (by simpa using Y) k λI fp a St h' d hI M a0 pm W st kp tI=>?_);let f:ai:={ p with heap:=h',drawn:=d }
 have P:dw w f.heap S es ep t:=k.keep λo e=>kp S o e;have n:f.TypeIs (.ref S) "set":=⟨_,P.at_,rfl⟩;refine a8 (bZ ?_);unfold Builtin.List.listLengthHint;refine a8 (wpAny_specialOf (s:=f) n F.slot_set_len.lookup ?_);dsimp only;rw [show splitId "set.__len__"=some ("set","__len__") from by decide +kernel];dsimp only;refine a8 (gI (b:=true) (s:=f) n (by rw [GF];kernel_rfl) ?_);rw [if_neg (by decide),if_pos (by decide)];refine a8 (lB (s:=f) n (a9 ?_));rw [if_pos (by decide)];refine a8 (dH ?_);have nS:s.heap.objs.size∉fp:=λz=>by
  rcases M _ z with q|q
  ·exact absurd G (by rw [<- q];exact bf _)
  ·rw [u] at q;exact absurd q (Nat.not_succ_le_self _)
 have B:f.heap.get? s.heap.objs.size=some { cls:=.type "list",data:=.seq ([] : List af).toArray }:=kp _ _ K;refine a8 ?_;show au _ A.in1 (Me s.heap.objs.size (·.push .none) >>= λ_=>Me s.heap.objs.size (·.pop)) _ _ f;refine a8 (nV B rfl ?_);have v:=eh (hV (·.push eR)) B rfl;refine nV v rfl ?_;have T:=eh (hV (·.pop)) v rfl;have y:∀ b o,b≠s.heap.objs.size->f.heap.get? b=some o->((f.heap.update s.heap.objs.size (hV (·.push eR))).update s.heap.objs.size (hV (·.pop))).get? b=some o :=
  λb o g e=>(cJ _ _ (cF g)).trans ((cJ _ _ (cF g)).trans e)
 have zl:a.length<=sizeLine:=by rw [pm.length_eq,aq,ax];exact fW O.few
 have W1:=W A.in1 (by simpa using Y);refine a9 ⟨gD F.plain_extend_loop _,codeAny_extend_loopS (A:=A) W1.toS zl _ nS _ a.length 0 { f with heap:=(f.heap.update s.heap.objs.size (hV (·.push eR))).update s.heap.objs.size (hV (·.pop)) } _ _ rfl (cx _) (W1.frame 0 _ _ st λb g o e=>y b o (λz=>nS (z ▸ g)) e) T (ItemsOf.nil _) λs' c c' H x i=>?_⟩;show au _ A (load s.heap.objs.size >>= _) _ _ s';refine a8 (wpAny_load x (a9 ?_));have m:c.toList=a:=by
  apply List.ext_getElem?;intro j;rw [ck];by_cases U:j<c.size
  ·have:=i.2 j c[j] (by simp [U]);rw [this];simp [U]
  ·rw [getElem?_neg c j U,cV (by rw [<- i.1];omega)]
 rw [m];obtain ⟨N,g3,d3,t3,o3⟩:=s';obtain rfl:g3=s.gens:=H.gens;obtain rfl:d3=d:=H.drawn;obtain rfl:o3=s.os:=H.os;have X:∀ b o,s.heap.get? b=some o->N.get? b=some o:=λb o e=>by
  have g:=av e;refine H.heap b o ?_ (y b o (aB g) (kp b o (ac _ e)));simp only [aQ,bh,or_false,not_or];exact ⟨aB g,aB (aK g (by have q:=hI;rw [u] at q;exact Nat.le_of_succ_le q))⟩
 refine h a N _ t3 pm X ?_;have:=av (show N.get? s.heap.objs.size=some _ from x);exact cw this
def Ew (v:au (aA prog w) A.in1 (collect x) (λg c=>∃ ss,u0 g ss/\g.length<64 /\
   ∀ (h':bD) (h:List af) (a:List Str) (e:Nat),(∀ b o,c.heap.get? b=some o->h'.get? b=some o)->h'.get? c.heap.objs.size=some (ji "list" h.toArray e)->u0 h a->a.Perm ss->sortedS a=true ->
    Q (.ref c.heap.objs.size) { c with heap:=h' }) E s):au (aA prog w) A (call (.builtin "sorted") [x]) Q E s:=by
 refine nW kind_sorted plain_sorted entry_sorted (args_sorted1 _) ?_;unfold iC.«sorted»;refine a8 (m:=checkCount "sorted" 1 1 _) (a9 ?_);refine a8 (aT v (λg c z=>?_) λ_ _ z=>z);obtain ⟨ss,f,i,y⟩:=z;refine a8 (Kl ?_);have d:(c.heap.push (ji "list" g.toArray 0)).get? c.heap.objs.size=some (ji "list" g.toArray 0):=ay _ rfl;show au _ _ _ _ _ { c with heap:=c.heap.push (ji "list" g.toArray 0) };refine a8 (bZ (bO slot_list_sort ⟨_,d,rfl⟩ entry_list_sort (list_sort_treeK strKind_oneLt d f.keysOf (λl p bS e=>keyKind_strs (by rw [<- e];exact f)) i λj a1 a2=>⟨_,rfl,?_⟩) (args_list_sort _)));obtain ⟨a,B,t,u⟩:=sorted_out_str f a1 a2;obtain ⟨e,k⟩:=sortedHeap_at (out:=(bQ j).map (·.2)) d;refine a9 ⟨_,rfl,y _ _ a e (λb o q=>?_) k B t u⟩;have n:=av q;rw [sortedHeap_old (aB n) (by rw [c9];exact cO n)];exact ac _ q
def qq (x y:Str):Bool:=decide (x.cps.toList<y.cps.toList)
def He (x:Str):List Str->List Str
 |[]=>[x]
 |y::r=>if qq y x then y::He x r else x::y::r
def ju:List Str->List Str
 |[]=>[]
 |x::r=>He x (ju r)
def wC (x:Str):∀ l,(He x l).Perm (x::l)
 |[]=>.refl _
 |y::r=>by
  rw [He];split
  ·exact ((wC x r).cons y).trans (.swap ..)
  ·exact .refl _
def ip:∀ l,(ju l).Perm l
 |[]=>.refl _
 |x::r=>(wC x _).trans ((ip r).cons x)
def ub (x:Str):qq x x=false:=decide_eq_false (List.lt_irrefl _)
def r_ (a:qq x y=true) (b:qq y z=true):qq x z=true :=
 decide_eq_true (List.lt_trans (of_decide_eq_true a) (of_decide_eq_true b))
def yk (a:qq x y=false) (b:qq y x=false):x=y:=by
 have a:¬ x.cps.toList<y.cps.toList:=of_decide_eq_false a;have b:¬ y.cps.toList<x.cps.toList:=of_decide_eq_false b;have:x.cps.toList=y.cps.toList:=List.le_antisymm (List.not_lt.mp b) (List.not_lt.mp a)
 cases x;cases y;exact congrArg Str.mk (Array.toList_inj.mp this)
abbrev Qp (l:List Str):Prop:=l.Pairwise λa b=>qq b a=false
def Nk (x:Str):∀ l,Qp l->Qp (He x l)
 |[],_=>by simp [He,Qp]
 |y::r,h=>by
  obtain ⟨d,g⟩:=List.pairwise_cons.mp h;rw [He];split
  ·rename_i b
   refine List.pairwise_cons.mpr ⟨λz c=>?_,Nk x r g⟩;rcases List.mem_cons.mp ((wC x r).mem_iff.mp c) with e|e
   ·subst e;cases q:qq z y with
    |false=>rfl
    |true=>exact absurd (r_ q b) (by rw [ub];decide)
   ·exact d z e
  ·rename_i b
   have b:qq y x=false:=by simpa using b
   refine List.pairwise_cons.mpr ⟨λz c=>?_,h⟩;rcases List.mem_cons.mp c with e|e
   ·subst e;exact b
   ·cases q:qq z x with
    |false=>rfl
    |true =>
     have a:=d z e;cases f:qq x y with
     |true=>rw [r_ q f] at a;cases a
     |false=>rw [<- yk b f,a] at q;cases q
def qY:∀ l,Qp (ju l)
 |[]=>.nil
 |x::r=>Nk x _ (qY r)
def vk:∀ (p:Str) (l:List Str),risingS p l=true->Qp (p::l)
 |p,[],_=>by simp [Qp]
 |p,x::r,h=>by
  rw [risingS,aV] at h;obtain ⟨b,f⟩:=h;have b:qq x p=false:=by
   rw [ltCps_eq] at b;simpa [qq] using b
  have c:=vk x r f;refine List.pairwise_cons.mpr ⟨λz g=>?_,c⟩;rcases List.mem_cons.mp g with e|e
  ·rw [e];exact b
  ·have a:=(List.pairwise_cons.mp c).1 z e;cases q:qq z p with
   |false=>rfl
   |true =>
    cases d:qq p x with
    |true=>rw [r_ q d] at a;cases a
    |false=>rw [yk d b,a] at q;cases q
def CN:∀ (l:List Str),sortedS l=true->Qp l
 |[],_=>.nil
 |x::r,h=>vk x r h
def Bt:∀ {l a:List Str},l.Perm a->Qp l->Qp a->l=a
 |[],a,p,_,_=>by rw [List.nil_perm.mp p]
 |x::r,[],p,_,_=>by have:=p.length_eq;simp at this
 |x::r,y::d,p,h,h'=>by
  obtain ⟨a1,a2⟩:=List.pairwise_cons.mp h;obtain ⟨b1,b2⟩:=List.pairwise_cons.mp h';have e:x=y:=by
   have f:x∈y::d:=p.mem_iff.mp ak;have c:y∈x::r:=p.mem_iff.mpr ak;rcases List.mem_cons.mp f with e|e
   ·exact e
   ·rcases List.mem_cons.mp c with b | b
    ·exact b.symm
    ·exact yk (b1 x e) (a1 y b)
  subst e;rw [Bt (List.Perm.cons_inv p) a2 b2]
def Ex (p:l'.Perm l) (h:sortedS l'=true):l'=ju l:=Bt (p.trans (ip l).symm) (CN _ h) (qY l)
def wD (h:Qp l) (e:l.Nodup):l.Pairwise λa b=>qq a b=true:=by
 induction l with
 |nil=>exact .nil
 |cons x r d =>
  obtain ⟨a1,a2⟩:=List.pairwise_cons.mp h;obtain ⟨f,g⟩:=List.nodup_cons.mp e;refine List.pairwise_cons.mpr ⟨λy c=>?_,d a2 g⟩;cases q:qq x y with
  |true=>rfl
  |false=>exact absurd (yk q (a1 y c) ▸ c) f
def lR:∀ {ss:List Str}{a:List af},dY (ss.map V.str) a->u0 a ss
 |[],_,.nil=>.nil
 |x::r,_,.cons h t=>by obtain ⟨b,rfl⟩:=h;exact .cons x b (lR t)
def pj:∀ {ss:List Str}{a:List af},u0 a ss->dY (ss.map V.str) a
 |_,_,.nil=>.nil
 |_,_,.cons x t h=>.cons ⟨t,rfl⟩ (pj h)
def f_:∀ {ss:List Str}{a:List af},u0 a ss->a.length=ss.length
 |_,_,.nil=>rfl
 |_,_,.cons x t h=>by simp [f_ h]
def yM (h:u0 us ss) (i:Nat) (v:af) (e:us[i]?=some v):∃ x t,ss[i]?=some x/\v=iH x t:=by
 induction h generalizing i with
 |nil=>simp at e
 |cons y t _ a =>
  cases i with
  |zero=>simp at e;exact ⟨y,t,by simp,e.symm⟩
  |succ i=>simp at e;simpa using a i e
def vm:∀ {l:List (Int×af)},(∀ e∈l,u7 w e)->u0 (l.map (·.2)) (l.map ko)
 |[],_=>.nil
 |e::r,h=>by
  obtain ⟨x,a,rfl⟩:=h e ak;exact .cons x a (vm λe he=>h e (ag _ he))
def CO (h:u0 us ss) (p:us'.Perm us):∃ a,u0 us' a/\a.Perm ss:=by
 refine ⟨us'.map strOf,strsAre_map _ λv b=>h.all v (p.mem_iff.mp b),?_⟩;rw [<- h.strs];exact p.map _
def jO (w:bz) (a:ao) (ss:List Str):HO:=.ext λh=>jV w h a ss
def ym (x:jV w h a ss):dI P w H h a (jO w a ss) :=
 ⟨x,let ⟨_,_,_,I,_⟩:=x;⟨_,I.at_⟩,λ_ _ y k=>y.keep k⟩
def Ey (x:X.calm=true):jU X (.type "set") (λxs H Q=>∃ p ss,xs=[.ref p]/\(nZ X.K H p (ss.map V.str)\/l5 X.K H p (ss.map V.str))/\ss.length+1<i0/\∀ a,H a=none->Q (.ref a) (upd H a (jO X.w a (cY [] ss)))):=by
 intro pins s σ H xs A Q I r h;obtain ⟨p,ss,rfl,c,l,q⟩:=h;obtain ⟨u,rfl,t⟩:=l9 r;cases t;have m:=I.ok.hd x;have fin:∀ (h':bD) (f:Nat),jV X.w h' s.heap.objs.size (cY [] ss)->(∀ b o,s.heap.get? b=some o->h'.get? b=some o)->EP X pins σ Q (.ref s.heap.objs.size) { s with heap:=h',toks:=f }:=λh' f y kp =>
  ⟨.ref s.heap.objs.size,_,I.laid (t':=f) kp (aw _) (ym y),rfl,q _ (I.hok.fresh (aw _))⟩
 rcases c with c|c
 ·obtain ⟨j,k,⟨o,n,ho,d,z,g⟩,_⟩:=I.list c;have sa:=lR k;exact vh (Ng (by simpa using m) d ⟨n,g⟩) ho (λi v e=>yM sa i v (by simpa using e)) (by simp [f_ sa]) (by simp [f_ sa];exact l) fin
 ·obtain ⟨j,k,⟨o,ho,d,n,g⟩,_⟩:=I.tuple c;have sa:=lR k;exact vh (Rm (by simpa using m) d ⟨n,g⟩) ho (λi v e=>yM sa i v (by simpa using e)) (by simp [f_ sa]) (by simp [f_ sa];exact l) fin
def wE:jU X (.builtin "sorted") (λxs H Q=>∃ p ss,xs=[.ref p]/\nZ X.K H p (ss.map V.str)/\ss.length<64/\∀ l,H l=none->Q (.ref l) (upd H l (.lst ((ju ss).map V.str)))):=by
 intro pins s σ H xs k Q I r h;obtain ⟨p,ss,rfl,g,f,q⟩:=h;obtain ⟨u,rfl,c⟩:=l9 r;cases c;obtain ⟨a,i,pl,d⟩:=I.list g;have sa:=lR i;refine sorted_strs pl.isList sa (by rw [f_ sa];exact f) λout j a1 a2 a3=>?_;obtain ⟨e,he⟩:=sortedAll_at s.heap a out;have kp:∀ b o,s.heap.get? b=some o->(sortedAll s.heap a out).get? b=some o:=λb o=>sortedAll_old;obtain rfl:=Ex a2 a3;refine ⟨.ref (s.heap.objs.size+1),upd H (s.heap.objs.size+1) (.lst ((ju ss).map V.str)),I.laid (t':=s.toks) kp (jh _) (show dI X.prog X.w _ _ _ (.lst _) from ⟨?_,out.toList,e,pj a1,by simpa [ji] using he⟩),rfl,q _ (I.hok.fresh (jh _))⟩;rw [aq,(ip ss).length_eq];have:=d;rw [aq] at this;exact this
def xU (K:X.calm=true):jU X (.builtin "sorted") (λxs H Q=>∃ p ss,xs=[.ref p]/\H p=some (jO X.w p ss)/\ss.length<64/\∀ l,H l=none->Q (.ref l) (upd H l (.lst ((ju ss).map V.str)))):=by
 intro pins s σ H xs T Q I r h;obtain ⟨p,ss,rfl,L,n,q⟩:=h;obtain ⟨u,rfl,B⟩:=l9 r;cases B;have M:=I.ok.hd K;obtain ⟨⟨es,ep,t,S,y⟩,_⟩:=(show dI X.prog X.w H s.heap p (jO X.w p ss) from I.hok p _ L);refine Ew (Ev (by simpa using M) S λG h' d A O kp sz=>?_);obtain ⟨a,sa,x⟩:=CO (vm S.txt) O;have P:a.length=ss.length:=(x.trans y).length_eq;refine ⟨a,sa,by rw [f_ sa,P];exact n,λi c j e f g k E N=>?_⟩;have v:∀ b o,s.heap.get? b=some o->i.get? b=some o:=λb o e=>f b o (kp b o e);have es':j=ju ss:=Ex (E.trans (x.trans y)) N;subst es';have fr:=I.hok.fresh sz;have m:dI X.prog X.w (upd H h'.objs.size (.lst ((ju ss).map V.str))) i h'.objs.size (.lst ((ju ss).map V.str)) :=
  ⟨by rw [aq,(ip ss).length_eq];exact cn (cw n) (by rw [iN];decide),c,e,pj k,g⟩
 exact ⟨.ref h'.objs.size,_,I.call' (s':={ s with heap:=i,drawn:=d,toks:=A }) (ch:=[]) rfl (Un.laid v sz fr) (I.hok.laid v sz m) I.bare (λb z=>absurd z (by simp)),rfl,q _ fr⟩
def xp {prog:a_}{w:bz}{B:bB}{bs:List Bool}{a:List af} (r:dY (bs.map V.bl) a):TruthOf prog w B (λi v=>a.toArray[i]?=some v) (λi=>bs.getD i false):=by
 intro i v s Q E c b;have c:a[i]?=some v:=by simpa using c
 have f:=r.length;rw [aq] at f;obtain ⟨h,_⟩:=List.getElem?_eq_some_iff.mp c;have e:bs[i]?=some bs[i]:=aZ (by omega);obtain ⟨u,d,g⟩:=r.get (i:=i) (x:=.bl bs[i]) (by rw [aX,e];rfl);rw [c] at d;cases d;cases g;have b:Q (bs.getD i false) s:=b;rw [cz,e] at b;exact de b
def Nl (bs:List Bool):(bM bs.length).all (λi=>bs.getD i false)=bs.all id:=by
 rw [qO,bA,bA];constructor
 ·intro h b c;obtain ⟨i,a,rfl⟩:=i5 c;have:=h i (List.mem_range.mpr a);simpa [cz,a] using this
 ·intro h i a;have a:=List.mem_range.mp a;have:=h bs[i] (jm a);simpa [cz,a] using this
def Nm (bs:List Bool):(bM bs.length).any (λi=>bs.getD i false)=bs.any id:=by
 rw [qO,jo,jo];constructor
 ·rintro ⟨i,a,h⟩;have a:=List.mem_range.mp a;exact ⟨bs[i],jm a,by simpa [cz,a] using h⟩
 ·rintro ⟨b,c,h⟩;obtain ⟨i,a,rfl⟩:=i5 c;exact ⟨i,List.mem_range.mpr a,by simpa [cz,a] using h⟩
def yN (g:X.calm=true):jU X (.builtin "all") (λxs H Q=>∃ p,∃ bs:List Bool,xs=[.ref p]/\nZ X.K H p (bs.map V.bl)/\Q (.bl (bs.all id)) H):=by
 intro pins s σ H xs l Q I r h;obtain ⟨p,bs,rfl,i,q⟩:=h;obtain ⟨u,rfl,f⟩:=l9 r;cases f;obtain ⟨a,c,pl,k⟩:=I.list i;have j:a.toArray.size=bs.length:=by have:=c.length;simp at this ⊢;omega
 obtain ⟨o,ho,m⟩:=pl.isList;refine call_all_walk (i4 pl.isList ⟨_,_,_,_,_,_,_,rfl,qy (by simpa using I.ok.hd g) _ p (aB (av ho)) a.toArray,⟨⟨_,ay _ rfl,rfl,rfl⟩,pl.isList.push _⟩,xp c,λh' d kp=>?_⟩);rw [j,Nl];refine ⟨.bl _,H,I.kept (t':=d) λb o e=>kp b o ?_ (ac _ e),rfl,q⟩;simp only [df];exact aB (av e)
def yO (g:X.calm=true):jU X (.builtin "any") (λxs H Q=>∃ p,∃ bs:List Bool,xs=[.ref p]/\nZ X.K H p (bs.map V.bl)/\Q (.bl (bs.any id)) H):=by
 intro pins s σ H xs l Q I r h;obtain ⟨p,bs,rfl,i,q⟩:=h;obtain ⟨u,rfl,f⟩:=l9 r;cases f;obtain ⟨a,c,pl,k⟩:=I.list i;have j:a.toArray.size=bs.length:=by have:=c.length;simp at this ⊢;omega
 obtain ⟨o,ho,m⟩:=pl.isList;refine call_any_walk (i4 pl.isList ⟨_,_,_,_,_,_,_,rfl,qy (by simpa using I.ok.hd g) _ p (aB (av ho)) a.toArray,⟨⟨_,ay _ rfl,rfl,rfl⟩,pl.isList.push _⟩,xp c,λh' d kp=>?_⟩);rw [j,Nm];refine ⟨.bl _,H,I.kept (t':=d) λb o e=>kp b o ?_ (ac _ e),rfl,q⟩;simp only [df];exact aB (av e)
def KR:qG X (bI .LtE) (λx y H Q=>∃ i j,x=.str i/\y=.str j/\Q (.bl (!decide (j.cps.toList<i.cps.toList))) H):=by
 intro pins s σ H x y v u Q I a b h;obtain ⟨i,j,rfl,rfl,q⟩:=h;obtain ⟨t,rfl⟩:=a;obtain ⟨t',rfl⟩:=b;exact PySem.P.le_str (CA I q rfl)
def WM (x:Str):It:=⟨λi _=>i<x.cps.size,λi H v H'=>H'=H/\∃ c,x.cps[i]?=some c/\v=.str ⟨#[c]⟩,λi _=>x.cps.size<=i⟩
def No {P:a_}{w:bz}{K:aa}{tg:bp} (x:Str) (t:Tok) (it:ao):wv P w K tg (WM x) [it] it (λi h=>h.IsStrIter it (iQ x) x t i) where
 mem:=by simp
 obj:=λi h st b g=>by
  obtain rfl:b=it:=by simpa using g
  obtain ⟨o,e,c,d⟩:=st;exact ⟨o,e,λv z=>by rw [d] at z;cases z⟩
 keep:=λi h h' st k=>let ⟨o,e,r⟩:=st;⟨o,k it (by simp) o e,r⟩
 item:=by
  intro X T S O Q i pins s σ H E I B st l;subst T S O;have l:i<x.cps.size:=l;obtain ⟨N,M,f2,L,y,G⟩:=B it (by simp);have m:x.cps[i]?=some x.cps[i]:=getElem?_pos _ i l;have go:∀ (h':bD) (p f:Nat),h'.IsStrIter it (iQ x) x t (i+1)->bC it s.heap h'->∃ u,some (iH ⟨#[x.cps[i]]⟩ p)=some u /\
    au (aA X.prog X.w) X.A (dE tg (.ref it) u) (λ_ Y=>∃ v H',bL X pins σ H' Y/\dR v u/\(WM x).yld i H v H'/\Y.heap.IsStrIter it (iQ x) x t (i+1)/\∀ b∈[it],H' b=none) E { s with heap:=h',toks:=f }:=λh' p f a n=>by
   have I1:bL X pins σ H { s with heap:=h',toks:=f }:=I.turned (λb o g e=>(n.2 b g).trans e) N M L y G;refine ⟨_,rfl,?_⟩;have q:∃ v H',bL X pins σ H' { s with heap:=h',toks:=f }/\dR v (iH ⟨#[x.cps[i]]⟩ p)/\(WM x).yld i H v H'/\h'.IsStrIter it (iQ x) x t (i+1)/\∀ b∈[it],H' b=none :=
    ⟨.str ⟨#[x.cps[i]]⟩,H,I1,⟨p,rfl⟩,⟨rfl,_,m,rfl⟩,a,λb g=>(B b g).1⟩
   unfold dE;cases tg<;>exact a9 q
  cases j:x.cps.all (·<128)
  ·have ty:iQ x="str_iterator":=by unfold iQ;rw [j];rfl
   rw [ty] at st;exact wpAny_pyNext_wide_item st m λh' a n=>go h' _ _ (by rw [ty];exact a) n
  ·have ty:iQ x="str_ascii_iterator":=by unfold iQ;rw [j];rfl
   rw [ty] at st;exact wpAny_pyNext_ascii_item st m λh' a n=>go h' _ _ (by rw [ty];exact a) n
 done:=by
  intro X T S O Q i pins s σ H E I B st l;subst T S O;have l:x.cps.size<=i:=l;obtain ⟨N,M,f2,L,y,G⟩:=B it (by simp);have m:x.cps[i]?=none:=getElem?_neg _ i (Nat.not_lt.mpr l);unfold iQ at st;cases j:x.cps.all (·<128)
  ·rw [j] at st;exact wpAny_pyNext_wide_end (I.ok.hd Q) st m λh' U=>⟨rfl,I.turned (t':=s.toks) (λb o g e=>U b o g e) N M L y G⟩
  ·rw [j] at st;exact wpAny_pyNext_ascii_end (I.ok.hd Q) st m λh' U=>⟨rfl,I.turned (t':=s.toks) (λb o g e=>U b o g e) N M L y G⟩
 self:=λ_ _ _ _ _ st h=>by
  unfold iQ at st;cases j:x.cps.all (·<128)
  ·rw [j] at st;exact wpAny_pyIter_striter_wide st h
  ·rw [j] at st;exact wpAny_pyIter_striter_ascii st h
def Za (tl:TE):TI:=λσ H R=>tl σ H λv a=>∃ x,v=.str x/\R (WM x) a
def Np {X:Cx}{tg l:bp}{tl:TE} (g:PE X l tl):PI X tg l (Za tl):=by
 intro pins s σ H R I h;refine eK (g pins s σ H _ I h) λv a c=>?_;obtain ⟨y,f,d,k,i⟩:=c;obtain ⟨x,rfl,q⟩:=i;obtain ⟨t,rfl⟩:=k;refine wpAny_pyIter_strU ?_;refine ⟨a.heap.objs.size,[a.heap.objs.size],_,_,f,rfl,d.kept (t':=a.toks) λb o e=>ac _ e,No x t _,⟨_,ay _ rfl,rfl,rfl⟩,λb j=>?_,q⟩;obtain rfl:b=a.heap.objs.size:=by simpa using j
 exact d.fpOk (aw _) (d.hok.fresh (aw _))
def bL.turnedL {t':Nat}{ch:List ao} (I:bL X pins σ H s) (k:∀ b o,b∉ch->s.heap.get? b=some o->h'.get? b=some o) (d:∀ b∈ch,l8 X pins H b):bL X pins σ H { s with heap:=h',toks:=t' }:=by
 have nt:∀ b u,H b=some u->b∉ch:=λb u e z=>by rw [(d b z).1] at e;cases e
 refine I.step (g':=s.gens) (d':=s.drawn) (ch:=ch) (λb g=>?_) (λb o _ _ a e _=>k b o a e) (λb o _ _ a e _=>⟨o.slots,k b o a e⟩) (λ_ _ _ _ n=>n)
  (λb o a e=>⟨o,k b o a e⟩) (λ_ _ e=>e) (λ_ _ _ e=>e) (λb t e=>⟨#[],by rw [e];simp⟩) (λm j=>?_) (λb u e=>?_) I.bare
 ·obtain ⟨w,l,p,i,f,h⟩:=d b g;exact ⟨i,l,f,h⟩
 ·obtain ⟨o,es,ep,ho,r⟩:=j;exact ⟨o,es,ep,k _ o (λz=>(d _ z).f1 rfl) ho,r⟩
 ·refine (I.hok b u e).stay (λc v a q=>k c v ?_ q) (λ_ q=>q) λ_ _ q=>q;rcases a with z|z
  ·rw [z];exact nt b u e
  ·exact nt c _ z
def bL.track (I:bL X pins σ H s) (f:l8 X pins H D) (new:dI X.prog X.w (upd H D ho) s.heap D ho):bL X pins σ (upd H D ho) s:=by
 obtain ⟨a,l,p,i,c,h⟩:=f;have k:bL X pins σ (upd H D ho) { s with heap:=s.heap,gens:=s.gens,drawn:=s.drawn,toks:=s.toks }:=I.step (ch:=[D]) (λb g=>by
   obtain rfl:b=D:=by simpa using g
   exact ⟨i,l,c,h⟩) (λb o _ _ _ e _=>e) (λb o _ _ _ e _=>⟨o.slots,e⟩) (λb o d e n=>by rw [bj (λz=>d (by simp [z]))];exact n) (λb o _ e=>⟨o,e⟩)
  (λb xs e=>by rw [bj (c6 e a)];exact e) (λb o xs e=>by rw [bj (c6 e a)];exact e) (λb q e=>⟨#[],by rw [bj (c6 e a),e];simp⟩) (λm j=>j) (oO I.hok a new) I.bare
 exact k
def vn (c:s.heap.IsTupleIter it l i) (tl:s.heap.IsTuple l items) (g:items[i]?=some x)
  (q:∀ h',h'.IsTupleIter it l (i+1)->bC it s.heap h'->Q x { s with heap:=h' }):au (aA prog w) A (cQ (.ref it)) Q E s:=by
 obtain ⟨j,b,e,a⟩:=id c;obtain ⟨h,d,_,nt,f⟩:=tl;unfold cQ;refine a8 (cE (name:=hG "__next__") c.typeIs jr ?_);refine bO jr c.typeIs E1 ?_ (Cq _);show au _ _ (GH (.ref it) 0 >>= _) _ _ s;refine a8 (er b a (x:=.ref l) rfl ?_);show au _ _ (if (bv l==eR)=true then _ else _) _ _ s;rw [if_neg (λz:(bv l==eR)=true=>bw z)];show au _ _ (GH (.ref it) 1 >>= _) _ _ s;refine a8 (er b a (x:=.int i 0) rfl ?_);show au _ _ (sU (.ref l) >>= _) _ _ s;refine a8 (dG d f ?_);simp only [kF,g];refine a8 (gQ b a (by simp) (a9 ⟨x,rfl,a9 (q _ ?_ (bP ..))⟩));refine ⟨_,eh _ b (Obj.isFreed_of_fields (Mv a _)),(Obj.cls_mapFields ..).trans e,?_⟩;rw [Mv a];simp [cA]
def vo (g:A.handled=none) (d:s.heap.IsTupleIter it l i) (tl:s.heap.IsTuple l items) (h:items[i]?=none)
  (q:∀ h' e,ID it s.heap h'->(∃ o,h'.get? e=some o/\o.cls=.type "StopIteration")->E (.ref e) { s with heap:=h' }):au (aA prog w) A (cQ (.ref it)) Q E s:=by
 obtain ⟨n,b,k,c⟩:=id d;obtain ⟨p,f,_,nt,j⟩:=tl;unfold cQ;refine a8 (cE (name:=hG "__next__") d.typeIs jr ?_);refine bO jr d.typeIs E1 ?_ (Cq _);show au _ _ (GH (.ref it) 0 >>= _) _ _ s;refine a8 (er b c (x:=.ref l) rfl ?_);show au _ _ (if (bv l==eR)=true then _ else _) _ _ s;rw [if_neg (λz:(bv l==eR)=true=>bw z)];show au _ _ (GH (.ref it) 1 >>= _) _ _ s;refine a8 (er b c (x:=.int i 0) rfl ?_);show au _ _ (sU (.ref l) >>= _) _ _ s;refine a8 (dG f j ?_);simp only [kF,h];refine a8 (dH (a8 (gQ b c (by simp) ?_)));show au _ _ (tZ (.type "StopIteration") [] >>= _) _ _ _;refine a8 ?_;simp only [tZ,QD];refine a8 (bK ?_ (by size_fits));refine a8 (m:=lF _ _) (eT (a:=eR) ?_ ?_)
 ·first
   |rfl
   |(simp only [lF];rfl)
 refine bK ?_ (by size_fits);simp only [sS];refine a8 (Kk ?_);rw [show A.in1.handled=none from g];refine a8 (a9 (QE ?_));exact q _ _ (((bP ..).extBut.push _).push _) ⟨_,ay _ rfl,rfl⟩
def KS (d:A.handled=none) (it l:ao) (a:l≠it) (items:Array af) :
  Draws prog w A it [it,l] items.size (λi v=>items[i]?=some v) (λi h=>h.IsTupleIter it l i/\h.IsTuple l items) where
 live:=λi h st=>let ⟨o,e,_⟩:=st.1;⟨o,e⟩
 frame:=λi h h' st k=>⟨let ⟨o,e,r⟩:=st.1;⟨o,k it (by simp) o e,r⟩,let ⟨o,e,r⟩:=st.2;⟨o,k l (by simp) o e,r⟩⟩
 item:=λi s Q E b st q=>vn st.1 st.2 (x:=items[i]) (by simp [b]) λh' t' c=>q _ h' s.toks (by simp [b]) ⟨t',st.2.extBut c.extBut a⟩ c
 done:=λs Q E st q=>vo d st.1 st.2 (by simp) q
def yP (l:ao) (items:Array af) (n:Nat) (b:Option ao) (j:Array (Option af)) :
  Meets (iC.«enumerate.__new__» ⟨[.type "enumerate",.ref l],[]⟩) (λ_ R s=>s.heap.get? l=some { cls:=.type "tuple",dict:=b,data:=.seq items n,slots:=j } /\
   R (.ok (.ret (.ref (s.heap.push { cls:=.type "tuple_iterator",data:=.fields #[.ref l,.int 0 0] }).objs.size)))
    { s with heap:=(s.heap.push { cls:=.type "tuple_iterator",data:=.fields #[.ref l,.int 0 0] }).push { cls:=.type "enumerate",data:=.fields #[.none,.bool false,.ref s.heap.objs.size,cA 0,.none,.none] } }) :=
 .of_wp λprog w A R s h=>by
  obtain ⟨k,g,d,m,i⟩:=s;obtain ⟨a,h⟩:=h;have f:=PySem.sub_enumerate;have e:Gm (Gn ⟨k,g,d,m,i⟩) l items:=⟨_,a,rfl,n,rfl⟩;wp_walk using gE a;refine wpAny_stack_any λst=>a9 ?_;split
  ·rename_i c _ _ _ _ _
   cases (c==j5 "enumerate")
   ·wp_walk using gE a,gN e;exact ⟨_,rfl,h⟩
   ·wp_walk using gE a,gN e;exact ⟨_,rfl,h⟩
  ·wp_walk using gE a,gN e;exact ⟨_,rfl,h⟩
def AI (p:s.heap.IsTuple l items)
  (h:∀ h',IsEnum h' (s.heap.objs.size+1) s.heap.objs.size 0 .none->h'.IsTupleIter s.heap.objs.size l 0->(∀ b o,s.heap.get? b=some o->h'.get? b=some o)->h'.objs.size=s.heap.objs.size+2 ->
   Q (.ref (s.heap.objs.size+1)) { s with heap:=h' }):au (aA prog w) A (call (.type "enumerate") [.ref l]) Q E s:=by
 obtain ⟨⟨c,g,j,m⟩,f,i,n,k⟩:=p;obtain rfl:c=.type "tuple":=i;obtain rfl:j=.seq items n:=k;refine callType_new F.called_enumerate (by decide) (F.typeCall_enumerate_1 _) (F.newCall_enumerate_1 _) (λa=>F.args_object_init_2 a _) F.entry_enumerate_new (yP l items n g m) ⟨f,?_⟩;have d:(s.heap.push { cls:=.type "tuple_iterator",data:=.fields #[.ref l,.int 0 0] }).objs.size=s.heap.objs.size+1:=c9 ..;show _/\_;rw [d];have he:IsEnum ((s.heap.push { cls:=.type "tuple_iterator",data:=.fields #[.ref l,.int 0 0] }).push { cls:=.type "enumerate",data:=.fields #[.none,.bool false,.ref s.heap.objs.size,cA 0,.none,.none] }) (s.heap.objs.size+1) s.heap.objs.size 0 .none:=by
  have q:=ay (s.heap.push { cls:=.type "tuple_iterator",data:=.fields #[.ref l,.int 0 0] }) (o:={ cls:=.type "enumerate",data:=.fields #[.none,.bool false,.ref s.heap.objs.size,cA 0,.none,.none] }) rfl;rw [d] at q;exact q
 exact ⟨⟨_,he,rfl⟩,h _ he ⟨_,ac _ (ay _ rfl),rfl,rfl⟩ (λb o e=>ac _ (ac _ e)) (by rw [c9,d])⟩
def Zb (K:aa) (a:ao):It :=
 ⟨λi H=>∃ xs x,l5 K H a xs/\xs[i]?=some x,λi H v H'=>∃ p,H p=none/\v=.ref p/\∀ xs,l5 K H a xs->∃ x,xs[i]?=some x/\H'=upd H p (.tup [.int i,x]),λi H=>∃ xs,l5 K H a xs/\xs.length<=i⟩
def KU {P:a_}{w:bz}{K:aa}{y:List bp}{x1}{pos:Pos} (a e it:ao) (n:e≠it):wv P w K (.Tuple y x1 pos) (Zb K a) [e,it] e (λi h=>(∃ f,IsEnum h e it i f)/\h.IsTupleIter it a i) where
 mem:=by simp
 obj:=λi h st b c=>by
  simp only [aQ,bh,or_false] at c;rcases c with rfl|rfl
  ·obtain ⟨⟨f,q⟩,_⟩:=st;exact ⟨_,q,λv z=>by cases z⟩
  ·obtain ⟨_,o,q,_,d⟩:=st;exact ⟨o,q,λv z=>by rw [d] at z;cases z⟩
 keep:=λi h h' st k=>⟨let ⟨f,q⟩:=st.1;⟨f,k e (by simp) _ q⟩,let ⟨o,q,r⟩:=st.2;⟨o,k it (by simp) o q,r⟩⟩
 item:=by
  intro X hP hw U Y i pins s σ H E I N st hg;subst hP hw U;obtain ⟨xs,x,M,hx⟩:=hg;obtain ⟨g,rv,p,hz⟩:=I.tuple M;obtain ⟨u,hu,ru⟩:=rv.get hx;obtain ⟨⟨f,he⟩,j⟩:=st;have A:=j;obtain ⟨oi,ei,_⟩:=A;have a1:a≠it:=λz=>by
   obtain ⟨o1,t,L,_⟩:=p;obtain ⟨o2,S,c2,_⟩:=j;rw [z,S] at t;cases t;rw [c2] at L;exact absurd (IE L) (by decide)
  have a2:a≠e:=λz=>by
   obtain ⟨o1,t,L,_⟩:=p;rw [z,he] at t;cases t;exact absurd (IE (show j5 "enumerate"=j5 "tuple" from L)) (by decide)
  have a3:i<g.toArray.size:=by simp;exact (List.getElem?_eq_some_iff.mp hu).1
  have B:=av he;refine wpAny_pyNext_enum_itemD (KS (by simpa using I.ok.hd Y) it a a1 g.toArray) he ⟨j,p⟩ a3 n (by simp [n,cF a2]) ?_;intro x' h1 O a4 eo a0 tup sz k1;have l:g[i]?=some x':=by simpa using a4
  rw [hu] at l;cases l;refine ⟨_,rfl,wpAny_letOwnedTupleGo_enum eo λh2 S m=>?_⟩;have Q:s.heap.objs.size≠e:=ft B;have I2:bL X pins σ H { s with heap:=h2,toks:=O+1 }:=I.turnedL (ch:=[e,it]) (λb o c q=>by
   simp only [aQ,bh,or_false,not_or] at c;exact (m.2 b c.1).trans (k1 b o c.1 c.2 q)) N
  have fT:=I.fpOk (H':=H) (aw _) (I.hok.fresh (aw _));have G:h2.get? s.heap.objs.size=some { cls:=.type "tuple",data:=.seq #[.int i O,u] }:=(m.2 _ Q).trans tup;have I3:=I2.track (ho:=.tup [.int i,x]) fT ⟨by show 2<=sizeLine;decide,[.int i O,u],.cons ⟨O,rfl⟩ (.cons ru .nil),⟨_,G,rfl,0,rfl⟩⟩;refine ⟨.ref s.heap.objs.size,_,I3,rfl,⟨_,fT.1,rfl,λys hy=>?_⟩,⟨⟨u,?_⟩,?_⟩,λb c=>?_⟩
  ·rw [I.tuple_inj hy M];exact ⟨x,hx,rfl⟩
  ·have:(((i+1:Nat):Int))=(i:Int)+1:=by omega
   rw [this];exact S
  ·obtain ⟨o,q,r⟩:=a0.1;exact ⟨o,(m.2 it (cF n)).trans q,r⟩
  ·rw [bj]
   ·exact (N b c).1
   ·simp only [aQ,bh,or_false] at c;rcases c with z|z
    ·rw [z];exact aB B
    ·rw [z];exact aB (av ei)
 done:=by
  intro X hP hw U Y i pins s σ H E I N st hg;subst hP hw U;obtain ⟨xs,M,hx⟩:=hg;obtain ⟨g,rv,p,hz⟩:=I.tuple M;obtain ⟨⟨f,he⟩,j⟩:=st;have hl:=rv.length;have hT:s.TypeIs (.ref e) "enumerate":=⟨_,he,rfl⟩;unfold gn;refine a8 (ki (cE (name:=hG "__next__") hT Mf ?_));refine bO Mf hT F.entry_enumerate_next ?_ (F.args_enumerate_next_1 _);show au _ _ (GH (.ref e) 2 >>= _) _ _ _;refine a8 (er he rfl (x:=.ref it) rfl ?_);refine a8 (vo (by simpa using I.ok.hd Y) j (show s.heap.IsTuple a g.toArray from p) (by simp;omega) λh' z eb a5=>?_);obtain ⟨o,ho,a6⟩:=a5;refine a8 (gI (T:="StopIteration") (b:=true) ⟨o,ho,a6⟩ wo ?_);exact a9 ⟨rfl,I.turnedL (t':=s.toks) (ch:=[e,it]) (λb o c q=>eb b o (by
   simp only [aQ,bh,or_false,not_or] at c;exact c.2) q) N⟩
 self:=λ_ _ _ _ _ st h=>let ⟨⟨_,q⟩,_⟩:=st;wpAny_pyIter_enum q h
def WN (K:aa) (c:TA):TI:=λσ H R=>c σ H λd b=>∃ a xs,d=[.ref a]/\l5 K b a xs/\R (Zb K a) b
def Rn {X:Cx}{f:List bp}{x1}{e p pos:Pos}{a:bp}{m:TA} (E:Gl X "enumerate") (x:X.mg "enumerate"=none) (t:PA X [a] m) (hs:aH [a] X.env=[(false,dn a X.env)]:=by rfl) :
  PI X (.Tuple f x1 e) (.Call (.Name "enumerate" p) [a] [] pos) (WN X.K m):=by
 intro pins s σ H R I h;refine Call_ (qR I E x boot_enumerate (ik (eK (t pos pins s σ H _ I h) λM c ⟨N,i,d,A,w⟩=>?_) hs rfl));obtain ⟨k,xs,rfl,v,q⟩:=w;obtain ⟨u,rfl,n⟩:=l9 A;cases n;obtain ⟨g,L,o,G⟩:=d.tuple v;refine AI (show c.heap.IsTuple k g.toArray from o) λh' l B kp sz=>?_;refine wpAny_pyIter_enum l ?_;have y:bL X pins σ i { c with heap:=h' }:=d.kept (t':=c.toks) kp;refine ⟨c.heap.objs.size+1,[c.heap.objs.size+1,c.heap.objs.size],_,_,i,rfl,y,KU k _ _ (ft (cZ _)),⟨⟨.none,l⟩,B⟩,λb j=>?_,q⟩;simp only [aQ,bh,or_false] at j;rcases j with z|z
 ·rw [z];exact d.fpOk (jh _) (d.hok.fresh (jh _))
 ·rw [z];exact d.fpOk (aw _) (d.hok.fresh (aw _))
section
variable {prog:a_}{w:bz}{A:bB}{E:af->ai->Prop}{s:ai}{z TI TO i1 i2 l1 l2:ao}{k1 k2:Nat}{xs ys:Array af}{x y a b:af}
def jy (t:h.IsTupleIter it l k) (d:bC c h h') (ne:it≠c):h'.IsTupleIter it l k:=t.extBut d.extBut ne
def pp (t:h.IsTuple l xs) (d:bC c h h') (ne:l≠c):h'.IsTuple l xs:=t.extBut d.extBut ne
def Nq {Q:af->ai->Prop} (D:QF z TI TO i1 i2 l1 l2) (g:wp s.heap z TI TO .none) (pa:kG s.heap TI (.ref i1) (.ref i2)) (Y:kG s.heap TO a b)
  (u1:s.heap.IsTupleIter i1 l1 k1) (X:s.heap.IsTupleIter i2 l2 k2) (v1:s.heap.IsTuple l1 xs) (v2:s.heap.IsTuple l2 ys) (hx:xs[k1]?=some x) (O:ys[k2]?=some y)
  (q:∀ h',wp h' z TI TO (cA s.heap.objs.size)->kG h' TO x y->h'.IsTupleIter i1 l1 (k1+1)->h'.IsTupleIter i2 l2 (k2+1)->kG h' s.heap.objs.size x y ->
   (∀ c o,c≠z->c≠TO->c≠i1->c≠i2->s.heap.get? c=some o->h'.get? c=some o)->Q (.ref s.heap.objs.size) { s with heap:=h' }) :
  au (aA prog w) A (iC.«zip.__next__» ⟨[.ref z],[]⟩) (λfin s'=>∃ v,fin=.done (.ret v)/\Q v s') E s:=by
 show au _ _ (GH (.ref z) 2 >>= _) _ _ _;refine a8 (er g rfl (x:=.bool false) rfl ?_);show au _ _ (GH (.ref z) 3 >>= _) _ _ _;refine a8 (er g rfl (x:=.ref TI) rfl ?_);refine a8 (dG pa rfl ?_);show au _ _ (fh (.ref z) >>= _) _ _ _;refine a8 ?_;unfold fh;refine a8 (er g rfl (x:=.none) rfl (a9 ?_));simp only [if_true];refine a8 (dH ?_);refine a8 (er g rfl (x:=.ref TO) rfl ?_);refine a8 (iY g (by simp) λg1 p b1=>?_);replace p:wp g1 z TI TO .ellipsis:=p;refine a8 ?_;simp only [Qf,QG,gP,kz];refine a8 (a8 (yf ?_));show au _ _ (cQ (.ref i1) >>= _) _ _ _;refine a8 (vn (jy u1 b1 D.i1z) (pp v1 b1 D.l1z) hx λg2 N b2=>a9 ?_);have B:kG g2 TO a b:=b2.extBut _ _ D.TOi1 (b1.extBut _ _ D.TOz Y);refine a8 (dG B rfl (a8 (wq B λS m b3=>?_)));replace m:kG S TO x b:=m;refine a8 (mZ (a9 (a8 (a8 (yf ?_)))));show au _ _ (cQ (.ref i2) >>= _) _ _ _;refine a8 (vn (jy (jy (jy X b1 D.i2z) b2 D.i12.symm) b3 D.TOi2.symm) (pp (pp (pp v2 b1 D.l2z) b2 D.l2i1) b3 D.l2TO) O λg4 T b4=>a9 ?_);have G:kG g4 TO x b:=b4.extBut _ _ D.TOi2 m;refine a8 (dG G rfl (a8 (wq G λd l b5=>?_)));replace l:kG d TO x y:=l;refine a8 (mZ (a9 (a9 ?_)));refine a8 (dG l rfl (a8 (wpAny_newTuple ?_)));have sz:d.objs.size=s.heap.objs.size:=by rw [b5.1,b4.1,b3.1,b2.1,b1.1]
 have M:wp d z TI TO .ellipsis:=b5.extBut _ _ D.TOz.symm (b4.extBut _ _ D.i2z.symm (b3.extBut _ _ D.TOz.symm (b2.extBut _ _ D.i1z.symm p)));have k5:∀ c o,c≠z->c≠TO->c≠i1->c≠i2->s.heap.get? c=some o->d.get? c=some o:=λc o f i u n e =>
  b5.extBut _ _ i (b4.extBut _ _ n (b3.extBut _ _ i (b2.extBut _ _ u (b1.extBut _ _ f e))))
 have U:d.IsTupleIter i1 l1 (k1+1):=jy (jy (jy N b3 D.TOi1.symm) b4 D.i12) b5 D.TOi1.symm;have P:d.IsTupleIter i2 l2 (k2+1):=jy T b5 D.TOi2.symm;have K:z<d.objs.size:=av M;show au _ _ (ni (.ref z) (.ref d.objs.size) >>= _) _ _ _;refine a8 ?_;unfold ni;have z6:wp (d.push { cls:=.type "tuple",data:=.seq #[x,y] }) z TI TO .ellipsis:=ac _ M;refine a8 (iY z6 (by simp) λg7 t I=>?_);replace t:wp g7 z TI TO (cA d.objs.size):=t;refine iY t (by simp) λj k L=>?_;replace k:wp j z TI TO (cA d.objs.size):=k;have h:∀ c o,c≠z->d.get? c=some o->j.get? c=some o:=λc o f e=>L.extBut _ _ f (I.extBut _ _ f (ac _ e));have H:kG j d.objs.size x y:=L.extBut _ _ (ft K) (I.extBut _ _ (ft K) (ay _ rfl));rw [sz] at k H;refine a9 ⟨_,rfl,?_⟩;show Q (.ref d.objs.size) _;rw [sz];exact q j k (h _ _ D.TOz l) (let ⟨o,e,r⟩:=U;⟨o,h _ o D.i1z e,r⟩) (let ⟨o,e,r⟩:=P;⟨o,h _ o D.i2z e,r⟩) H λc o f i u n e=>h c o f (k5 c o f i u n e)
def Nr (G:A.handled=none) (D:QF z TI TO i1 i2 l1 l2) (h:wp s.heap z TI TO .none) (pa:kG s.heap TI (.ref i1) (.ref i2)) (P:kG s.heap TO a b)
  (I:s.heap.IsTupleIter i1 l1 k1) (O:s.heap.IsTupleIter i2 l2 k2) (K:s.heap.IsTuple l1 xs) (S:s.heap.IsTuple l2 ys) (g:xs[k1]?=none\/ys[k2]?=none)
  (q:∀ h' e,(∀ c o,c≠z->c≠TO->c≠i1->c≠i2->s.heap.get? c=some o->h'.get? c=some o)->(∃ o,h'.get? e=some o/\o.cls=.type "StopIteration")->E (.ref e) { s with heap:=h' }) :
  au (aA prog w) A (iC.«zip.__next__» ⟨[.ref z],[]⟩) Q E s:=by
 show au _ _ (GH (.ref z) 2 >>= _) _ _ _;refine a8 (er h rfl (x:=.bool false) rfl ?_);show au _ _ (GH (.ref z) 3 >>= _) _ _ _;refine a8 (er h rfl (x:=.ref TI) rfl ?_);refine a8 (dG pa rfl ?_);show au _ _ (fh (.ref z) >>= _) _ _ _;refine a8 ?_;unfold fh;refine a8 (er h rfl (x:=.none) rfl (a9 ?_));simp only [if_true];refine a8 (dH ?_);refine a8 (er h rfl (x:=.ref TO) rfl ?_);refine a8 (iY h (by simp) λg1 j b1=>?_);replace j:wp g1 z TI TO .ellipsis:=j;refine a8 ?_;simp only [Qf,QG,gP,kz];refine a8 (a8 (yf ?_));show au _ _ (cQ (.ref i1) >>= _) _ _ _;cases p:xs[k1]? with
 |none =>
  refine a8 (vo G (jy I b1 D.i1z) (pp K b1 D.l1z) p λg2 e b2 he=>?_);obtain ⟨k,d,f⟩:=he;have H:wp g2 z TI TO .ellipsis:=b2 _ _ D.i1z.symm j;have l:e≠z:=λn=>by subst n;rw [H] at d;cases d;simp at f
  refine iY H (by simp) λv _ b3=>q v e (λc o i _ t _ m=>b3.extBut _ _ i (b2 _ _ t (b1.extBut _ _ i m))) ⟨k,b3.extBut _ _ l d,f⟩
 |some x =>
  have L:ys[k2]?=none:=g.resolve_left λn=>by rw [p] at n;cases n
  refine a8 (vn (jy I b1 D.i1z) (pp K b1 D.l1z) p λg2 X b2=>a9 ?_);have u:kG g2 TO a b:=b2.extBut _ _ D.TOi1 (b1.extBut _ _ D.TOz P);refine a8 (dG u rfl (a8 (wq u λv Y b3=>?_)));refine a8 (mZ (a9 (a8 (a8 (yf ?_)))));show au _ _ (cQ (.ref i2) >>= _) _ _ _;refine a8 (vo G (jy (jy (jy O b1 D.i2z) b2 D.i12.symm) b3 D.TOi2.symm) (pp (pp (pp S b1 D.l2z) b2 D.l2i1) b3 D.l2TO) L λT e b4 he=>?_);obtain ⟨k,d,f⟩:=he;have B:wp T z TI TO .ellipsis:=b4 _ _ D.i2z.symm (b3.extBut _ _ D.TOz.symm (b2.extBut _ _ D.i1z.symm j));have l:e≠z:=λn=>by subst n;rw [B] at d;cases d;simp at f
  refine iY B (by simp) λU _ b5=>q U e (λc o i N t M m=>b5.extBut _ _ i (b4 _ _ M (b3.extBut _ _ N (b2.extBut _ _ t (b1.extBut _ _ i m))))) ⟨k,b5.extBut _ _ l d,f⟩
end
abbrev Yr (h:bD) (a:ao):bD:=h.push { cls:=.type "tuple_iterator",data:=.fields #[.ref a,.int 0 0] }
abbrev Ys (h:bD) (b a:ao):bD:=(Yr h b).push { cls:=.type "tuple_iterator",data:=.fields #[.ref a,.int 0 0] }
abbrev Yt (h:bD) (a b:ao):bD:=(Ys h a b).push { cls:=.type "tuple",data:=.seq #[.ref h.objs.size,.ref (Yr h a).objs.size] }
abbrev Yu (h:bD) (b a:ao):bD:=(Yt h b a).push { cls:=.type "tuple",data:=.seq #[.none,.none] }
abbrev Wg (h:bD) (b a:ao):bD:=(Yu h b a).push { cls:=.type "zip",data:=.fields #[.none,.bool false,.bool false,.ref (Ys h b a).objs.size,.ref (Yt h b a).objs.size] }
def AJ (a b:ao) (xs ys:Array af) :
  Meets (iC.«zip.__new__» ⟨[.type "zip",.ref a,.ref b],[]⟩) (λ_ R s=>s.heap.IsTuple a xs/\s.heap.IsTuple b ys/\R (.ok (.ret (.ref (Yu s.heap a b).objs.size))) { s with heap:=Wg s.heap a b }) :=
 .of_wp λprog w A R s h=>by
  obtain ⟨f,g,d,i,c⟩:=s;obtain ⟨l,k,h⟩:=h;have e:=PySem.sub_zip;have j:Gm (Gn ⟨f,g,d,i,c⟩) a xs:=l;have L2:Gm (Gn ⟨f.push { cls:=.type "tuple_iterator",data:=.fields #[.ref a,.int 0 0] },g,d,i,c⟩) b ys:=Heap.IsTuple.push k _;wp_walk using gN j,gN L2;exact ⟨_,rfl,h⟩
def CQ (p:s.heap.IsTuple l1 xs) (m:s.heap.IsTuple l2 ys)
  (h:∀ h',wp h' (s.heap.objs.size+4) (s.heap.objs.size+2) (s.heap.objs.size+3) .none->kG h' (s.heap.objs.size+2) (.ref s.heap.objs.size) (.ref (s.heap.objs.size+1)) ->
   kG h' (s.heap.objs.size+3) .none .none->h'.IsTupleIter s.heap.objs.size l1 0->h'.IsTupleIter (s.heap.objs.size+1) l2 0 ->
   (∀ c o,s.heap.get? c=some o->h'.get? c=some o)->Q (.ref (s.heap.objs.size+4)) { s with heap:=h' }):au (aA prog w) A (call (.type "zip") [.ref l1,.ref l2]) Q E s:=by
 refine callType_new F.called_zip (by decide) (F.typeCall_zip_2 _ _) (F.newCall_zip_2 _ _) (λa=>F.args_object_init_3 a _ _) F.entry_zip_new (AJ l1 l2 xs ys) ⟨p,m,?_⟩;have b:(Yr s.heap l1).objs.size=s.heap.objs.size+1:=c9 ..;have d:(Ys s.heap l1 l2).objs.size=s.heap.objs.size+2:=by rw [c9,b]
 have g:(Yt s.heap l1 l2).objs.size=s.heap.objs.size+3:=by rw [c9,d]
 have i:(Yu s.heap l1 l2).objs.size=s.heap.objs.size+4:=by rw [c9,g]
 have f:(Wg s.heap l1 l2).get? (Yu s.heap l1 l2).objs.size=some _:=ay _ rfl;have l:(Wg s.heap l1 l2).get? (Yt s.heap l1 l2).objs.size=some _:=ac _ (ay _ rfl);have k:(Wg s.heap l1 l2).get? (Ys s.heap l1 l2).objs.size=some _:=ac _ (ac _ (ay _ rfl));have j:(Wg s.heap l1 l2).get? (Yr s.heap l1).objs.size=some _:=ac _ (ac _ (ac _ (ay _ rfl)));have n:(Wg s.heap l1 l2).get? s.heap.objs.size=some _:=ac _ (ac _ (ac _ (ac _ (ay _ rfl))));show _/\_;rw [d,g,i] at f;rw [b,d] at k;rw [g] at l;rw [b] at j;rw [i];exact ⟨⟨_,f,rfl⟩,h _ f k l ⟨_,n,rfl,rfl⟩ ⟨_,j,rfl,rfl⟩ λc o e=>ac _ (ac _ (ac _ (ac _ (ac _ e))))⟩
def l5.ne_fp (I:bL X pins σ H s) (d:l5 X.K H a xs) (c:l8 X pins H b):a≠b:=by
 rintro rfl;rcases d with (h|⟨o,h⟩)|⟨o,its,n,hk,_⟩
 ·rw [c.1] at h;cases h
 ·rw [c.1] at h;cases h
 ·have e:X.base.get? a=some o:=I.mod.kin a o hk;rcases c.f3 with z|z
  ·exact I.ok.noex a o e z
  ·exact absurd (aK (av e) (cn I.ok.bsz z)) (bf _)
def Zc (K:aa) (a b:ao):It :=
 ⟨λi H=>∃ xs ys x y,l5 K H a xs/\l5 K H b ys/\xs[i]?=some x/\ys[i]?=some y,
  λi H v H'=>∃ p,H p=none/\v=.ref p/\∀ xs ys,l5 K H a xs->l5 K H b ys->∃ x y,xs[i]?=some x/\ys[i]?=some y/\H'=upd H p (.tup [x,y]),
  λi H=>∃ xs ys,l5 K H a xs/\l5 K H b ys/\(xs.length<=i\/ys.length<=i)⟩
structure Zd (z TI TO i1 i2:ao):Prop where
 d1:TI≠z
 d2:TO≠z
 d3:i1≠z
 d4:i2≠z
 d5:TI≠TO
 d6:TI≠i1
 d7:TI≠i2
 d8:TO≠i1
 d9:TO≠i2
 d0:i1≠i2
def Nt {P:a_}{w:bz}{K:aa}{Q:List bp}{x1}{pos:Pos} (M L z TI TO g j:ao) (Z:Zd z TI TO g j) :
  wv P w K (.Tuple Q x1 pos) (Zc K M L) [z,TI,TO,g,j] z (λi h=>wp h z TI TO .none/\kG h TI (.ref g) (.ref j)/\(∃ a b,kG h TO a b)/\h.IsTupleIter g M i/\h.IsTupleIter j L i) where
 mem:=by simp
 obj:=λi h st b c=>by
  obtain ⟨n,p,⟨_,_,t⟩,⟨o4,e4,_,f4⟩,⟨o5,e5,_,f5⟩⟩:=st;simp only [aQ,bh,or_false] at c;rcases c with rfl|rfl|rfl|rfl|rfl
  ·exact ⟨_,n,λv q=>by cases q⟩
  ·exact ⟨_,p,λv q=>by cases q⟩
  ·exact ⟨_,t,λv q=>by cases q⟩
  ·exact ⟨o4,e4,λv q=>by rw [f4] at q;cases q⟩
  ·exact ⟨o5,e5,λv q=>by rw [f5] at q;cases q⟩
 keep:=λi h h' st k=>by
  obtain ⟨n,p,⟨u,v,t⟩,⟨o4,e4,r4⟩,⟨o5,e5,r5⟩⟩:=st;exact ⟨k z (by simp) _ n,k TI (by simp) _ p,⟨u,v,k TO (by simp) _ t⟩,⟨o4,k g (by simp) _ e4,r4⟩,⟨o5,k j (by simp) _ e5,r5⟩⟩
 item:=by
  intro X hP hw hK hc i pins s σ H E I A st hg;subst hP hw hK;obtain ⟨xs,ys,x,y,l,m,hx,hy⟩:=hg;obtain ⟨N,G,p1,_⟩:=I.tuple l;obtain ⟨O,B,p2,_⟩:=I.tuple m;obtain ⟨u,hu,ru⟩:=G.get hx;obtain ⟨v,hv,rv⟩:=B.get hy;obtain ⟨n,p,⟨a,b,t⟩,Y,s5⟩:=st;have d:∀ b∈[z,TI,TO,g,j],M≠b:=λb c=>l.ne_fp I (A b c);have f:∀ b∈[z,TI,TO,g,j],L≠b:=λb c=>m.ne_fp I (A b c);have D:QF z TI TO g j M L:=⟨Z.d1,Z.d2,Z.d3,Z.d4,Z.d5,Z.d6,Z.d7,Z.d8,Z.d9,Z.d0,d z (by simp),d TO (by simp),d g (by simp),d j (by simp),f z (by simp),f TO (by simp),f g (by simp),f j (by simp)⟩;have zl:=av n;have U:s.TypeIs (.ref z) "zip":=⟨_,n,rfl⟩;unfold gn;refine a8 (ki (cE (name:=hG "__next__") U tH ?_));refine bO tH U F.entry_zip_next (Nq D n p t Y s5 p1 p2 (by simpa using hu) (by simpa using hv) λh1 z1 t1 y1 y2 pr k1=>?_) (F.args_zip_next_1 _);refine a9 ⟨_,rfl,wpAny_letOwnedTupleGo_zip z1 λh2 z2 b2=>?_⟩;have a0:s.heap.objs.size≠z:=ft zl;have a1:kG h1 TI (.ref g) (.ref j):=k1 TI _ Z.d1 Z.d5 Z.d6 Z.d7 p;have I2:bL X pins σ H { s with heap:=h2 }:=I.turnedL (t':=s.toks) (ch:=[z,TI,TO,g,j]) (λb o c q=>by
   simp only [aQ,bh,or_false,not_or] at c;exact (b2.2 b c.1).trans (k1 b o c.1 c.2.2.1 c.2.2.2.1 c.2.2.2.2 q)) A
  have fT:=I.fpOk (H':=H) (aw _) (I.hok.fresh (aw _));have a2:h2.get? s.heap.objs.size=some { cls:=.type "tuple",data:=.seq #[u,v] }:=(b2.2 _ a0).trans pr;have I3:=I2.track (ho:=.tup [x,y]) fT ⟨by show 2<=sizeLine;decide,[u,v],.cons ru (.cons rv .nil),⟨_,a2,rfl,0,rfl⟩⟩;refine ⟨.ref s.heap.objs.size,_,I3,rfl,⟨_,fT.1,rfl,λa4 a3 h1 h2=>?_⟩,⟨z2,(b2.2 TI Z.d1).trans a1,⟨u,v,(b2.2 TO Z.d2).trans t1⟩,jy y1 b2 Z.d3,jy y2 b2 Z.d4⟩,λb c=>?_⟩
  ·rw [I.tuple_inj h1 l,I.tuple_inj h2 m];exact ⟨x,y,hx,hy,rfl⟩
  ·have bl:b<s.heap.objs.size:=by
    simp only [aQ,bh,or_false] at c;rcases c with q|q|q|q|q
    ·rw [q];exact zl
    ·rw [q];exact av p
    ·rw [q];exact av t
    ·obtain ⟨_,e,_⟩:=Y;rw [q];exact av e
    ·obtain ⟨_,e,_⟩:=s5;rw [q];exact av e
   rw [bj (aB bl)];exact (A b c).1
 done:=by
  intro X hP hw hK hc i pins s σ H E I A st hg;subst hP hw hK;obtain ⟨xs,ys,l,m,S⟩:=hg;obtain ⟨N,G,p1,_⟩:=I.tuple l;obtain ⟨O,B,p2,_⟩:=I.tuple m;obtain ⟨n,p,⟨a,b,t⟩,Y,s5⟩:=st;have d:∀ b∈[z,TI,TO,g,j],M≠b:=λb c=>l.ne_fp I (A b c);have f:∀ b∈[z,TI,TO,g,j],L≠b:=λb c=>m.ne_fp I (A b c);have D:QF z TI TO g j M L:=⟨Z.d1,Z.d2,Z.d3,Z.d4,Z.d5,Z.d6,Z.d7,Z.d8,Z.d9,Z.d0,d z (by simp),d TO (by simp),d g (by simp),d j (by simp),f z (by simp),f TO (by simp),f g (by simp),f j (by simp)⟩;have U:s.TypeIs (.ref z) "zip":=⟨_,n,rfl⟩;have n1:=G.length;have n2:=B.length;unfold gn;refine a8 (ki (cE (name:=hG "__next__") U tH ?_));refine bO tH U F.entry_zip_next (Nr (by simpa using I.ok.hd hc) D n p t Y s5 p1 p2 (S.elim (λq=>.inl (by simp;omega)) λq=>.inr (by simp;omega)) λh' e kp he=>?_) (F.args_zip_next_1 _);obtain ⟨o,eo,co⟩:=he;refine a8 (gI (T:="StopIteration") (b:=true) ⟨o,eo,co⟩ wo ?_);exact a9 ⟨rfl,I.turnedL (t':=s.toks) (ch:=[z,TI,TO,g,j]) (λb o c q=>by
   simp only [aQ,bh,or_false,not_or] at c;exact kp b o c.1 c.2.2.1 c.2.2.2.1 c.2.2.2.2 q) A⟩
 self:=λ_ _ _ _ _ st h=>wpAny_pyIter_zip st.1 h
def Ze (K:aa) (d:TA):TI:=λσ H R=>d σ H λe c=>∃ a b xs ys,e=[.ref a,.ref b]/\l5 K c a xs/\l5 K c b ys/\R (Zc K a b) c
def V7 {X:Cx}{m:List bp}{x1}{i p pos:Pos}{a b:bp}{z:TA} (hg:Gl X "zip") (Q:X.mg "zip"=none) (M:PA X [a,b] z) (hs:aH [a,b] X.env=[(false,dn a X.env),(false,dn b X.env)]:=by rfl)
  (f:aH [b] X.env=[(false,dn b X.env)]:=by rfl):PI X (.Tuple m x1 i) (.Call (.Name "zip" p) [a,b] [] pos) (Ze X.K z):=by
 intro pins s σ H R I h;refine Call_ (qR I hg Q boot_zip (ik (eK (M pos pins s σ H _ I h) λus c ⟨vs,u,o,U,N⟩=>?_) (by rw [hs,f]) (by rw [f];rfl)));obtain ⟨a1,a2,xs,ys,rfl,w,t,q⟩:=N;obtain ⟨u1,u2,rfl,v,x⟩:=T4 U;cases v;cases x;obtain ⟨g,O,T,_⟩:=o.tuple w;obtain ⟨l,P,B,_⟩:=o.tuple t;refine CQ (show c.heap.IsTuple a1 g.toArray from T) (show c.heap.IsTuple a2 l.toArray from B) λh' A L G Y E kp=>?_;refine wpAny_pyIter_zip A ?_;have S:bL X pins σ u { c with heap:=h' }:=o.kept (t':=c.toks) kp;have d:∀ k j:Nat,k≠j->c.heap.objs.size+k≠c.heap.objs.size+j:=λk j n e=>n (Nat.add_left_cancel e);refine ⟨c.heap.objs.size+4,[c.heap.objs.size+4,c.heap.objs.size+2,c.heap.objs.size+3,c.heap.objs.size+0,c.heap.objs.size+1],_,_,u,rfl,S,
  Nt a1 a2 _ _ _ _ _ ⟨d _ _ (by decide),d _ _ (by decide),d _ _ (by decide),d _ _ (by decide),d _ _ (by decide),d _ _ (by decide),d _ _ (by decide),d _ _ (by decide),d _ _ (by decide),d _ _ (by decide)⟩,
  ⟨A,L,⟨_,_,G⟩,Y,E⟩,λb y=>?_,q⟩
 have:∀ k:Nat,l8 X pins u (c.heap.objs.size+k):=λk=>o.fpOk (QH _ _) (o.hok.fresh (QH _ _))
 simp only [aQ,bh,or_false] at y;rcases y with q|q|q|q|q<;>(rw [q];exact this _)
mutual
inductive Hf (K:aa) (H:Hp):V->Cr->Prop
 |none:Hf K H .non .none
 |bool (b:Bool):Hf K H (.bl b) (.bool b)
 |int (i:Int):Hf K H (.int i) (.int i)
 |str (x:Str):Hf K H (.str x) (.str x)
 |list {a:ao}{xs:List V}{ds:List Cr}:nZ K H a xs->Reps K H xs ds->Hf K H (.ref a) (.list ds)
 |tuple {a:ao}{xs:List V}{ds:List Cr}:l5 K H a xs->Reps K H xs ds->Hf K H (.ref a) (.tuple ds)
inductive Reps (K:aa) (H:Hp):List V->List Cr->Prop
 |nil:Reps K H [] []
 |cons {x:V}{xs:List V}{d:Cr}{ds:List Cr}:Hf K H x d->Reps K H xs ds->Reps K H (x::xs) (d::ds)
end
def du.tup {K:aa}{H H':Hp}{a:ao}{xs:List V} (e:du H H') (h:l5 K H a xs):l5 K H' a xs:=by
 rcases h with (h|⟨o,h⟩)|h
 ·exact .inl (.inl (e _ _ h))
 ·exact .inl (.inr ⟨o,e _ _ h⟩)
 ·exact .inr h
def Ro (I:bL X pins σ H s) (h:nZ X.K H a xs) (g:∀ {f:List af},dY xs f->∃ b,ReadsAll s.heap f ds b) (r:dR (.ref a) u):∃ b,Reads s.heap u (.list ds) b:=by
 cases r;obtain ⟨i,k,⟨o,n,e,c,_,d⟩,_⟩:=I.list h;obtain ⟨b,j⟩:=g k;exact ⟨_,.list e c d (by simpa using j)⟩
def Nu (I:bL X pins σ H s) (h:l5 X.K H a xs) (g:∀ {f:List af},dY xs f->∃ b,ReadsAll s.heap f ds b) (r:dR (.ref a) u):∃ b,Reads s.heap u (.tuple ds) b:=by
 cases r;obtain ⟨i,k,⟨o,e,c,n,d⟩,_⟩:=I.tuple h;obtain ⟨b,j⟩:=g k;exact ⟨_,.tuple e c d (by simpa using j)⟩
def sd (I:bL X pins σ H s) (h:Hf X.K H v d):∀ {u:af},dR v u->∃ c,Reads s.heap u d c :=
 Hf.rec (motive_1:=λv d _=>∀ {u:af},dR v u->∃ c,Reads s.heap u d c) (motive_2:=λl ds _=>∀ {f:List af},dY l f->∃ c,ReadsAll s.heap f ds c)
  (λr=>by cases r;exact ⟨_,.none⟩) (λb _ r=>by cases r;exact ⟨_,.bool b⟩) (λi _ r=>by obtain ⟨t,rfl⟩:=r;exact ⟨_,.int i t⟩) (λx _ r=>by obtain ⟨t,rfl⟩:=r;exact ⟨_,.str x t⟩)
  (λh _ e _ r=>Ro I h e r) (λh _ e _ r=>Nu I h e r) (λr=>by cases r;exact ⟨_,.nil⟩) (λ_ _ a b _ r=>by
   cases r with
   |cons r g =>
    obtain ⟨c,k⟩:=a r;obtain ⟨bs,j⟩:=b g;exact ⟨_,.cons k j⟩) h
inductive Th (K:aa) (neg:Bool) (x:V) (y:V) (H:Hp) (Q:VK):Prop
 |mk (dx dy:_) (h0:Hf K H x dx) (h1:Hf K H y dy) (h2:dx.canLay0=true) (h3:dy.canLay0=true) (h4:min dx.depth dy.depth<=60) (h5:Q (.bl (if neg then !b9 dx dy else b9 dx dy)) H):Th K neg x y H Q
def V8 (K:aa) (a:Bool):R2:=Th K a
def V9 (k:X.A.units+64<gC):qG X (bI .Eq) (V8 X.K false):=by
 intro pins s σ H x y v u Q I b d h;obtain ⟨l,j,g,a,c,i,n,q⟩:=h;obtain ⟨m,f⟩:=sd I g b;obtain ⟨bs,e⟩:=sd I a d;exact PySem.SeqAt.compareEq_reads f e c i (by omega) ⟨.bl _,H,I,rfl,q⟩
def Va (k:X.A.units+64<gC):qG X (bI .NotEq) (V8 X.K true):=by
 intro pins s σ H x y v u Q I b d h;obtain ⟨l,j,g,a,c,i,n,q⟩:=h;obtain ⟨m,f⟩:=sd I g b;obtain ⟨bs,e⟩:=sd I a d;exact PySem.SeqAt.compareNe_reads f e c i (by omega) ⟨.bl _,H,I,rfl,q⟩
structure Zf (P:a_) (w:bz) (l:List Env) (H H':Hp) (h h' B:bD) (ea C t:ao):Prop where
 fly:Heap.FlyingW B l ea (.ref C) (.ref t) h'
 cov:∀ b u,H' b=some u->∃ o,B.get? b=some o
 old:∀ b o,h.get? b=some o->H b=none->b∉wj l->B.get? b=some o
 all:∀ b o,h.get? b=some o->b∉wj l->∃ o',B.get? b=some o'
 un:Un (wj l) [] H H' h h'
 hok:qz P w H' h'
inductive WO (P:a_) (w:bz) (outer:List Env) (H:Hp) (s:ai) (E:XK) (e:af) (s':ai):Prop
 |mk (ea C t H' B:_) (h0:e=.ref ea) (h1:s'.os=s.os) (h2:qB s'.gens) (h3:Zf P w outer H H' s.heap s'.heap B ea C t) (h4:E (.ref C) none H'):WO P w outer H s E e s'
def Al (P:a_) (w:bz):KC:=WO P w
def Rp (he:env∈l) (a:env.frame=some b):b∈wj l:=List.mem_filterMap.mpr ⟨env,he,a⟩
def Zf.kp (x:Zf P w l H H' h h' B ea C t) (st:B.StaysIn h'') (b:ao) (u:HO) (o:Obj) (e:H' b=some u) (q:h'.get? b=some o):h''.get? b=some o:=by
 obtain ⟨c,a⟩:=x.cov b u e;have:=x.fly.1 b c a;rw [q] at this;cases this;exact st b o a
section
variable {P:a_}{w:bz}{K:aa}{mg:Str->Option af}{base:bD}{N:List Str}{qual:Str}{scope:eX}{f:ao}{cd:af}{A:bB}{outer:List Env}{s:ai}{H:Hp}{E:XK}
def Ez (hE:∀ c H',E' c none H'->E c none H'):qV (Al P w) (yF (Al P w) P w K mg base N qual scope f cd A outer s H E) E':=by
 intro pins σ H1 s1 e s' I h;obtain ⟨Q,C,t,H',B,rfl,os,j,x,q⟩:=h;let X:=yF (Al P w) P w K mg base N qual scope f cd A outer s H E
 have a:∀ b:ao,b∉X.ex:=λb z=>absurd (show b∈([] : List ao) from z) (by simp);have v:∀ b o,s.heap.get? b=some o->b∉wj outer->b∉wj X.stack:=λb o e n z=>by
  rcases List.mem_cons.mp (I.stkSub b z) with y|y
  ·exact absurd (av e) (by rw [y];exact Nat.not_lt.mpr I.ok.above)
  ·exact n y
 have sub:∀ b∈wj outer,b∈wj X.stack:=λb d=>by
  obtain ⟨env,he,hf⟩:=List.mem_filterMap.mp d;exact Rp (ag _ he) hf
 show au _ X.A (leaving X.env (.ref Q)) _ _ _;refine wpAny_leaves_onW (base:=B) (outer:=outer) (L:=X.env.locals) I.ok.frames rfl x.fly λh2 O T=>?_;have g:=O.1;refine ⟨Q,C,t,H',B,rfl,os.trans I.os,j,⟨O,x.cov,λb o e n d=>?_,λb o e d=>?_,⟨λb o e n d M=>?_,λb o e n d M=>?_,λb o e n _=>?_,λb o e _=>?_,λb xs e=>x.un.tups b xs (I.base.tups b xs e),λb o xs e=>x.un.frzs b o xs (I.base.frzs b o xs e),λb ps e=>?_⟩,λb u e=>?_⟩,hE _ _ q⟩
 ·exact x.old b o (I.base.keep b o e n d (a b)) (I.base.free b o e n (a b)) (v b o e d)
 ·obtain ⟨i,k⟩:=I.base.there b o e (a b);exact x.all b i k (v b o e d)
 ·exact g b o (x.old b o (I.base.keep b o e n d (a b)) (I.base.free b o e n (a b)) (v b o e d))
 ·obtain ⟨sl,k⟩:=I.base.slot b o e n d (a b);obtain ⟨S,p⟩:=x.un.slot b _ k (I.base.free b o e n (a b)) (sub b d) (by simp);obtain ⟨_,i,m,k3⟩:=Aj x.fly.2.2.1 (sub b d);rw [p] at m;cases m;obtain ⟨G,U⟩:=T b _ p k3;exact ⟨G,U⟩
 ·obtain ⟨i,k⟩:=I.base.there b o e (a b);exact x.un.free b i k (I.base.free b o e n (a b)) (by simp)
 ·obtain ⟨i,k⟩:=I.base.there b o e (a b);by_cases d:b∈wj outer
  ·obtain ⟨_,l,p,_⟩:=Aj O.2.2.1 d;exact ⟨l,p⟩
  ·obtain ⟨l,m⟩:=x.all b i k (v b o e d);exact ⟨l,g b l m⟩
 ·obtain ⟨m1,e1⟩:=I.base.tbls b ps e;obtain ⟨m2,e2⟩:=x.un.tbls b _ e1;exact ⟨m1++m2,by rw [e2,Ka]⟩
 ·exact (x.hok b u e).stay (λc o Y k=>by
   rcases Y with z|z
   ·rw [z] at k ⊢;exact x.kp g b u o e k
   ·exact x.kp g c _ o z k) (λ_ q=>q) λ_ _ q=>q
end
section
variable {P:a_}{w:bz}{K:aa}{mg:Str->Option af}{base:bD}{N:List Str}{qual:Str}{scope:eX}{f:ao}{cd:af}{A:bB}{outer:List Env}{s:ai}{H:Hp}{E:XK}
end
structure Zg (base:bD) (C:ao) (bm:List af):Prop where
 obj:∃ nm q N bs hdct sn sub ab col dd k0 k1 k2 k3 k5 newId,base.get? C=some (excClassObj nm q C N bs bm hdct sn sub ab col dd k0 k1 k2 k3 k5 newId)
 exc:bm.contains (.type "BaseException")=true
section
variable {prog:a_}{w:bz}{A:bB}{E:af->ai->Prop}{s:ai}{K:aa}{x C:ao}{R:qK->ai->Prop}
end
section
variable {P:a_}{w:bz}{K:aa}{mg:Str->Option af}{base:bD}
end
def Zh:Cr->String
 |.none=>"NoneType" | .bool _=>"bool" | .int _=>"int" | .str _=>"str" | .list _=>"list" | .tuple _=>"tuple" | .dict _=>"dict"
def Hg (I:bL X pins σ H s) (a:dR x u) (r:Hf X.K H x d) (e:qJ X.K (.type (Zh d)) c=some b) (h:∀ l,Q (.bool b) { s with toks:=l }) :
  au (aA X.prog X.w) A (call (.builtin "isinstance") [u,c]) Q E s:=by
 cases r with
 |none=>exact rU I a .non e h
 |bool y=>exact rU I a (.bl y) e h
 |int i=>exact rU I a (.int i) e h
 |str y=>exact rU I a (.str y) e h
 |list f _ =>
  cases a;obtain ⟨g,k,⟨o,n,ho,c,_,j⟩,_⟩:=I.list f;exact dg uV I.kIn ⟨o,ho,c⟩ e (λz=>nomatch z) h
 |tuple f _ =>
  cases a;obtain ⟨g,k,⟨o,ho,c,n,j⟩,_⟩:=I.tuple f;exact dg Gy I.kIn ⟨o,ho,c⟩ e (λz=>nomatch z) h
def Nv:jU X (.builtin "isinstance") (λxs H Q=>∃ x d T b,xs=[x,.ty T]/\Hf X.K H x d/\qJ X.K (.type (Zh d)) (.type T)=some b/\Q (.bl b) H):=by
 intro pins s σ H xs i Q I r h;obtain ⟨x,d,T,b,rfl,g,e,q⟩:=h;obtain ⟨u,v,rfl,f,c⟩:=T4 r;obtain rfl:v=.type T:=c;exact Hg I f g e λa=>⟨.bl b,H,I.tok a,rfl,q⟩
end L2
namespace HT
open PySem PyProof.Rows
def EA {t f:ao}{items:Array af}{k i:af}{lo c:Option Int}{Q:af->ai->Prop} (a:Gw s.heap t items) (hs:s.heap.IsSliceOf f k i .none) (pl:wk k lo) (m:wk i c)
  (j:jd items.size 0 lo=0/\jd items.size items.size c=items.size) (h:Q (.ref t) s):au (aA prog w) A (qC (.ref t) (.ref f)) Q E s:=by
 obtain ⟨n,d,e,l⟩:=id hs;have g:s.TypeIs (.ref f) "slice":=⟨n,d,e⟩;unfold qC;try with_reducible refine bZ ?_
 first|refine a8 (a9 ?_)|skip
 refine a8 (wpAny_sequenceKey a.typeIs (by decide) ?_);refine a8 (cE (name:=hG "__getitem__") a.typeIs gq
  (bO gq a.typeIs entry_tuple_getitem ?_ (args_tuple_getitem _ _)))
 show au _ _ (uX (.ref t) >>= _) _ _ s;refine a8 (tupleItemsOf_ a ?_);refine a8 (lB g ?_);rw [if_pos (by decide)];refine a8 (oM hs pl m ?_);have b:((((jd items.size 0 lo:Nat):Int)==0&&(1:Int)==1&&(jd items.size items.size c-jd items.size 0 lo)==items.size)=true):=by
  rw [j.1,j.2];simp
 show au _ _ (if (((jd items.size 0 lo:Nat):Int)==0&&(1:Int)==1&&(jd items.size items.size c-jd items.size 0 lo)==items.size)=true then _ else _) _ _ s;rw [if_pos b];refine a8 ?_;unfold Builtin.Tuple.tupleIsExact;refine a8 (lB a.typeIs (a9 ?_));rw [if_pos (by decide)];refine a8 (dH ?_);first
  |exact a9 (a9 ⟨_,rfl,h⟩)
  |exact a9 ⟨_,rfl,a9 h⟩
  |exact a8 (a9 (a9 ⟨_,rfl,a9 h⟩))
  |exact a8 (a9 (a9 ⟨_,rfl,h⟩))
end HT
namespace L2
open PySem PySem.Spec PyProof.Rows
inductive Nw (K:aa) (x:V) (lo:Option Int) (hi:Option Int) (H:Hp) (Q:VK):Prop
 |mk (a xs:_) (h0:x=.ref a) (h1:l5 K H a xs) (h2:(HT.jd xs.length 0 lo=0/\HT.jd xs.length xs.length hi=xs.length)) (h3:Q (.ref a) H):Nw K x lo hi H Q
def WP (K:aa):V->Option Int->Option Int->Hp->VK->Prop:=Nw K
def Rq:WF X (WP X.K):=by
 intro pins s σ H x v l m lo k n Q I e hs pl g h;obtain ⟨a,xs,rfl,i,f,q⟩:=h;cases e;obtain ⟨c,r,d,j⟩:=I.tuple i;have b:c.toArray.size=xs.length:=by rw [aR];exact r.length.symm
 exact ⟨"tuple",_,PyProof.Rows.slot_tuple_getitem.lookup,d.typeIs,HT.EA d hs pl g (by rw [b];exact f) ⟨.ref a,H,I,rfl,q⟩⟩
def ms (h:H p=none):du H (upd H p o):=λb u e=>by rw [bj (c6 e h)];exact e
def yQ (S:X.calm=true):jU X (.type "list") (λxs H Q=>∃ a kvs,xs=[.ref a]/\H a=some (.dK kvs)/\∀ l,H l=none->Q (.ref l) (upd H l (.lst (kvs.map λp=>kV p.1)))):=by
 intro pins s σ H xs us Q I r h;obtain ⟨a,kvs,rfl,hH,q⟩:=h;obtain ⟨u,rfl,N⟩:=l9 r;cases N;obtain ⟨O,hs,f,g,hd⟩:=(show dI X.prog X.w H s.heap a (.dK kvs) from I.hok a _ hH);obtain ⟨ep,z⟩:∃ ep,s.heap.DictAt (cS X.prog X.w) a f ep:=by
  obtain ⟨o,es,ep,y,h2,P,U⟩:=hd;exact ⟨ep,o,es,y,h2,P,U⟩
 have G:kvs.length=f.length:=gZ g;refine PySem.W.kdl_call (PySem.W.kdl_dict hs) (I.ok.hd S) z (by omega) λh' L c T kp e d=>?_;have rv:dY (kvs.map λp=>kV p.1) c.toList:=by
  have n:∀ {kvs:List (dQ×V)}{f:List (dQ×af)} (b:List af),KV kvs f->b.length=f.length->(∀ (j:Nat) (v:af),b[j]?=some v->∃ k x,f[j]?=some (k,x)/\xn k v=true)->dY (kvs.map λp=>kV p.1) b:=by
   intro kvs;induction kvs with
   |nil=>intro f b g m _;cases g;cases b with
    |nil=>exact .nil
    |cons _ _=>simp at m
   |cons p kvs M =>
    intro f b g m K;cases g with
    |cons y Y =>
     cases b with
     |nil=>simp at m
     |cons v b =>
      refine .cons ?_ (M b Y (by simpa using m) λj v A=>by simpa using K (j+1) v (by simpa using A));obtain ⟨k,x,B,e2⟩:=K 0 v rfl;simp only [Ea,E2] at B;subst B;have E:p.1=k:=y.1;rcases fm e2 with ⟨i,t,e,rfl⟩|⟨i,t,e,rfl⟩
      ·show dR (kV p.1) _;rw [E,e];exact ⟨t,rfl⟩
      ·show dR (kV p.1) _;rw [E,e];exact ⟨t,rfl⟩
  exact n c.toList g (by rw [ax];exact d.1) λj v A=>d.2 j v (by rw [<- ck];exact A)
 exact ⟨.ref s.heap.objs.size,_,I.laid (t':=L) kp (aw _) (show dI X.prog X.w _ h' _ (.lst _) from ⟨by simpa using O,c.toList,T,rv,by rw [GI];exact e⟩),rfl,q _ (I.hok.fresh (aw _))⟩
def yR (x:Str):List V:=x.cps.toList.map λc=>V.str ⟨#[c]⟩
def xV (E:X.calm=true):jU X (.type "tuple") (λxs H Q=>∃ x,xs=[.str x]/\x.cps.size<=sizeLine/\∀ l,H l=none->Q (.ref l) (upd H l (.tup (yR x)))):=by
 intro pins s σ H xs N Q I r h;obtain ⟨x,rfl,p,q⟩:=h;obtain ⟨u,rfl,B⟩:=l9 r;obtain ⟨t,rfl⟩:=B;refine call_tuple_str (I.ok.hd E) x t (λh' g a kp d=>?_) p;have z:bL X pins σ H { s with heap:=h',toks:=g }:=I.kept (t':=g) kp;have K:dY (yR x) a.toList:=by
  have m:∀ (f:List Nat) (a:List af),a.length=f.length->(∀ (j:Nat) (v:af),a[j]?=some v->∃ c u,f[j]?=some c/\v=.str ⟨#[c]⟩ u)->dY (f.map λc=>V.str ⟨#[c]⟩) a:=by
   intro f;induction f with
   |nil=>intro a i _;cases a with
    |nil=>exact .nil
    |cons _ _=>simp at i
   |cons c f A =>
    intro a i y;cases a with
    |nil=>simp at i
    |cons v a =>
     obtain ⟨M,u,k,rfl⟩:=y 0 v rfl;simp only [Ea,E2] at k;subst k;exact .cons ⟨u,rfl⟩ (A a (by simpa using i) λj v n=>by simpa using y (j+1) v (by simpa using n))
  refine m x.cps.toList a.toList (by rw [ax,ax];exact d.1) λj v n=>?_;obtain ⟨c,u,k,L⟩:=d.2 j v (by rw [<- ck];exact n);exact ⟨c,u,by rw [ck];exact k,L⟩
 have G:bL X pins σ (upd H h'.objs.size (.tup (yR x))) { s with heap:=h'.push { cls:=.type "tuple",data:=.seq a },toks:=g } :=
  z.laid (t':=g) (λb o e=>ac _ e) (aw _) (show dI X.prog X.w _ _ _ (.tup (yR x)) from ⟨by unfold yR;simpa using p,a.toList,K,by rw [GI];exact xG _ _⟩)
 exact ⟨.ref h'.objs.size,_,G,rfl,q _ (z.hok.fresh (aw _))⟩
end L2
namespace L2
open PySem PySem.Spec PyProof.Rows
def CS (elt target iter:bp) (ifs:List bp) (scope:eX) (pos:Pos) (it acc:af) (env:Env) :
  sQ (.SetComp elt [⟨target,iter,ifs,0⟩] scope pos) 0 it acc env=(do
   ku iter.pos
   let r <- gn it
   match r with
   |none=>pure (.done .next)
   |some v =>
    dE target it v
    iV target env v;let mut ok:=true
    for c in ifs do
     if ok then ok <- ml c env (dn c env)
    if ok then
     (do let v <- dn elt env;ku elt.pos;let _ <- call (.builtin "set.add") [acc,v])
    again (.compLoop (.SetComp elt [⟨target,iter,ifs,0⟩] scope pos) 0 it acc env)):=by rfl
def kC {elt target iter ifs bS scope pos it acc env}
  (h0:dZ (aA prog w) A (.compLoop (.SetComp elt (⟨target,iter,ifs,0⟩::bS) scope pos) 0 it acc env) R s)
  (h:au (aA prog w) A (qI it) (λit' s'=>dZ (aA prog w) A (.compLoop (.SetComp elt (⟨target,iter,ifs,0⟩::bS) scope pos) 0 it' acc env) R s')
   (notedBy (aA prog w) A env λx s'=>R (.error x) s') s) :
  dZ (aA prog w) A (.compStart (.SetComp elt (⟨target,iter,ifs,0⟩::bS) scope pos) 0 it acc env) R s:=by
 refine uS ?_;show au _ _ ((compStart (.SetComp elt (⟨target,iter,ifs,0⟩::bS) scope pos) 0 it acc env).onRaise (λx=>do sR x env;ku theWindowsPlace)) _ _ s;refine wpAny_notedAt ?_;unfold compStart;show au _ _ (ask >>= _) _ _ s;refine a8 (gH (wpAny_ite ?_));split
 ·first
   |exact a8 (a9 (a9 (kg rfl h0)))
   |exact a9 (kg rfl h0)
 ·first
   |exact a8 (dH (a8 (cU (a8 (aT h (λit' s' hq=>a9 (kg rfl hq)) λ_ _ x=>x)))))
   |(refine a8 (dH ?_);show au _ _ (ku iter.pos >>= _) _ _ s;exact a8 (cU (a8 (aT h (λit' s' hq=>a9 (kg rfl hq)) λ_ _ x=>x))))
def o0 (h:Q (.ref s.heap.objs.size) { s with heap:=s.heap.push (fj w) }):au (aA prog w) A (Mw (.type "set")) Q E s:=by
 unfold Mw setsByText;refine a8 (a8 (gH (a9 ?_)));dsimp only;simp only [newObj];exact a8 (Qy (a9 h))
def tP (d:jV w s.heap a ss) (f:ss.length+1<i0)
  (h:∀ h' b,bC a s.heap h'->jV w h' a (if x∈ss then ss else ss++[x])->Q .none { s with heap:=h',toks:=b }) :
  au (aA prog w) A (call (.builtin "set.add") [.ref a,.str x tk]) Q E s:=by
 have e:s.TypeIs (.ref a) "set":=by obtain ⟨es,ep,t,I,_⟩:=id d;exact ⟨_,I.at_,rfl⟩
 refine bO F.slot_set_add e F.entry_set_add ?_ (F.args_set_add_2 _ _);unfold iC.«set.add» QI;simp only [List.isEmpty_nil,bind_assoc];unfold QJ;refine a8 (a9 ?_);try dsimp only
 refine a8 (a9 ?_);try dsimp only
 refine a8 ?_;refine Es d f λh' b g c=>?_;exact a9 ⟨_,rfl,h h' b g c⟩
def EB (I:Nat->ai->Prop)
  (turn:∀ n s,I n s->au (aA prog w) A (gn it) (λr s₁=>match r with
   |none=>R (.ok .next) s₁
   |some v=>au (aA prog w) A (dE target it v) (λ_ s₁'=>au (aA prog w) A (iV target env v) (λ_ s₂ =>
     au (aA prog w) A (forIn ifs true λc r=>if r=true then do let ok <- ml c env (dn c env);pure (cR ok) else pure (cR r)) (λok s₃ =>
      if ok=true then au (aA prog w) A (dn elt env) (λx s₄ =>
       au (aA prog w) A (call (.builtin "set.add") [acc,x]) (λ_ s₅=>∃ m,m<n/\I m s₅) (λ_ _=>False) s₄) (λ_ _=>False) s₃
      else ∃ m,m<n/\I m s₃) (λ_ _=>False) s₂) (λ_ _=>False) s₁') (λ_ _=>False) s₁) (λ_ _=>False) s)
  (n:Nat) (h:I n s) :
  dZ (aA prog w) A (.compLoop (.SetComp elt [⟨target,iter,ifs,0⟩] scope pos) 0 it acc env) R s:=by
 refine tY rfl I (λn s hI=>?_) n h;show au _ A ((sQ (.SetComp elt [⟨target,iter,ifs,0⟩] scope pos) 0 it acc env).onRaise (λx=>do sR x env;nU x)) _ _ s;refine wl ?_;rw [CS];have nf:∀ {α:Type}{t:Sem α}{Q:α->ai->Prop}{E':af->ai->Prop}{s:ai},au (aA prog w) A t Q (λ_ _=>False) s->au (aA prog w) A t Q E' s :=
  λh=>aT h (λ_ _ q=>q) λ_ _ f=>f.elim
 refine a8 (cU (a8 (nf (aT (turn n s hI) (λr s₁ h₁=>?_) λ_ _ h'=>h'))));cases r with
 |none=>exact a9 h₁
 |some v =>
  refine a8 (nf (aT h₁ (λ_ s₁' h₁'=>?_) λ_ _ h'=>h'));refine a8 (nf (aT h₁' (λ_ s₂ h₂=>a8 (nf (aT h₂ (λok s₃ h₃=>?_) λ_ _ h'=>h'))) λ_ _ h'=>h'));cases ok with
  |false=>exact a9 ⟨rfl,h₃⟩
  |true =>
   exact a8 (a8 (nf (aT h₃ (λx s₄ h₄=>a8 (cU (a8 (nf (aT h₄ (λ_ s₅ h₅=>a9 (a9 ⟨rfl,h₅⟩)) λ_ _ h'=>h'))))) λ_ _ h'=>h')))
inductive Zi (X:Cx) (pins:List (ao×Obj)) (N':List Str) (scope:eX) (cl:List (Str×ao)) (C:ao) (s2:ai) (H2:Hp) (fp:List ao) (nt:Nat) (ix:List Nat) (σ:St) (tn:Nat->bD->Prop) (W:Nat->Nat->List Str->Hp->Prop) (n:Nat) (s':ai):Prop
 |mk (i:Nat) (acc:List Str) (oD:Obj) (H':Hp) (I:bL (bu X N' scope cl C s2 H2 fp (X.pn++pins)) [(s2.heap.objs.size,oD)] (gx nt ix σ) H' s') (S:jV X.w s'.heap s2.heap.objs.size acc) (t:tn i s'.heap) (f:∀ b∈fp,H' b=none) (w:W i n acc H'):Zi X pins N' scope cl C s2 H2 fp nt ix σ tn W n s'
def KW {X:Cx}{b6 tg iter:bp}{ifs:List bp}{scope:eX}{pos:Pos}{g:TG}{tt:TT}{te:TE}{N':List Str}{nt:Nat}{ix:List Nat}
  (hc:X.calm=true) (S:jk X scope N' nt ix) (lo:Ml nt g)
  (l:∀ B C L N ex pn,PG (bu X N' scope B C L N ex pn) tg g/\E4 (bu X N' scope B C L N ex pn) ifs tt/\PE (bu X N' scope B C L N ex pn) b6 te)
  {B:List (Str×ao)} (c1:∀ x c,B.lookup x=some c->X.env.cells.lookup x=some c) (c2:∀ y∈scope.names,y.2=.free->∃ c,B.lookup y.1=some c)
  {pins:List (ao×Obj)}{σ:St}{G:Hp}{f:ai}{it:ao}{t:List ao}{tn:Nat->bD->Prop}{J:It}{Q:VK}{E:af->ai->Prop}
  (U:bL X pins σ G f) (T:wv X.prog X.w X.K tg J t it tn) (d2:tn 0 f.heap) (f2:∀ b∈t,l8 X pins G b)
  {W:Nat->Nat->List Str->Hp->Prop} (w0:∃ m,W 0 m [] G)
  (d0:∀ i m h H,W i m h H->(J.stop i H/\∀ p,H p=none->Q (.ref p) (upd H p (jO X.w p h))) \/
   (J.go i H/\h.length+1<i0/\∀ x H',J.yld i H x H'->g x (gx nt ix σ) H' λd5 G=>tt d5 G λb Y =>
    if b=true then te d5 Y λy H4=>∃ z m',y=.str z/\m'<m/\W (i+1) m' (if z∈h then h else h++[z]) H4 else ∃ m',m'<m/\W (i+1) m' h Y))
  {RR:af->ao->qK->ai->Prop}
  (e2:∀ D C m s' (h:List Str) H',H' D=none->l8 X pins (upd H' D (jO X.w D h)) C->Q (.ref D) (upd H' D (jO X.w D h))->s'.heap.Ns C m->(∀ h',bC C s'.heap h'->bL X pins σ (upd H' D (jO X.w D h)) { s' with heap:=h' })->RR (.ref D) C (.ok .next) s') :
  au (aA X.prog X.w) X.A (Mw (.type "set")) (λh e0=>au (aA X.prog X.w) X.A (lC scope X.env.globals B [] X.env.qual none .none (some X.env)) (λa3 c4 =>
   dZ (aA X.prog X.w) X.A (.compStart (.SetComp b6 [⟨tg,iter,ifs,0⟩] scope pos) 0 (.ref it) h { a3 with scope:=relabel scope X.env }) (RR h a3.locals) c4) E e0) E f:=by
 refine o0 (yj λk s=>?_);dsimp only at s ⊢;generalize b7:f.heap.push (fj X.w)=G2 at s ⊢;have hC:G2.objs.size=f.heap.objs.size+1:=by rw [<- b7,c9]
 have P:f.heap.objs.size≠G2.objs.size:=by rw [hC];exact aB (cZ _)
 have I:f.heap.objs.size<=G2.objs.size:=by rw [hC];exact jh _
 have below:∀ b,b<f.heap.objs.size->b≠G2.objs.size:=λb l=>by rw [hC];exact aB (cO l)
 have kp:∀ b o,G2.get? b=some o->k.get? b=some o:=λb o e=>by rw [s];exact h_ _ _ b o (ac _ e)
 have a0:k.Ns G2.objs.size (λ_=>none):=by rw [s];exact (xj G2 (.type "dict")).keeps (h_ _ _)
 have M:Gi k (G2.objs.size+1) (aI (G2.objs.size+1) scope.names []):=by rw [s];exact rX G2 scope.names
 have cne:∀ x c,(aI (G2.objs.size+1) scope.names B).lookup x=some c->X.env.cells.lookup x=some c\/f.heap.objs.size<c:=λx c e=>by
  rcases jt e with a|⟨_,a⟩
  ·exact .inr (aK (hJ I) (M.empty x c a).2)
  ·exact .inl (c1 x c a)
 have d3:∀ b o,f.heap.get? b=some o->k.get? b=some o:=λb o e=>kp b o (b7 ▸ ac _ e);have a2:k.get? f.heap.objs.size=some (fj X.w):=kp _ _ (b7 ▸ ay _ rfl);have ff:∀ b∈t,b<f.heap.objs.size:=λb l=>by
  obtain ⟨o,e,_⟩:=T.obj _ _ d2 b l;exact av e
 have I3:bL (bu X N' scope (aI (G2.objs.size+1) scope.names B) G2.objs.size f G t (X.pn++pins)) [] (gx nt ix σ) G { f with heap:=k,toks:=f.toks }:=vf S U c1 c2 f2 ff I a0 d3 M;obtain ⟨pg,pt,pe⟩:=l (aI (G2.objs.size+1) scope.names B) G2.objs.size f G t (X.pn++pins);have a4:f.heap.objs.size∉wj X.stack:=λz=>by
  rcases List.mem_cons.mp (U.stkSub _ z) with e|e
  ·exact absurd U.lt (by rw [<- e];exact bf _)
  ·exact U.nofs (aw _) e
 have c5:tn 0 k:=T.keep _ _ _ d2 λb _ o e=>d3 b o e;have b8:f.heap.objs.size∉t:=λz=>absurd (ff _ z) (bf _);have O:∀ {H':Hp}{pl:List (ao×Obj)},(∀ p∈pl,p.1∉t)->(∀ b∈t,H' b=none)->∀ b∈t,l8 (bu X N' scope (aI (G2.objs.size+1) scope.names B) G2.objs.size f G t (X.pn++pins)) pl H' b:=λg8 hn b l=>by
  obtain ⟨f0,f1,e4,f3,f4,f5⟩:=f2 b l;refine ⟨hn b l,below b (ff b l),λz=>?_,.inl l,λx c e=>(cne x c e).elim (f4 x c) λq z=>mY q (by rw [z];exact ff b l),λp hp z=>?_⟩
  ·rcases List.mem_cons.mp (U.stkSub _ z) with e|e
   ·exact f1 e
   ·exact e4 e
  ·rcases List.mem_append.mp hp with q|q
   ·exact f5 p q z
   ·exact g8 p q (z ▸ l)
 obtain ⟨m0,w0⟩:=w0;have a1:dZ (aA X.prog X.w) X.A (.compLoop (.SetComp b6 [⟨tg,iter,ifs,0⟩] scope pos) 0 (.ref it) (.ref f.heap.objs.size) (mX scope (aI (G2.objs.size+1) scope.names B) G2.objs.size X.env))
    (RR (.ref f.heap.objs.size) G2.objs.size) { f with heap:=k,toks:=f.toks }:=by
  refine EB (Zi X pins N' scope (aI (G2.objs.size+1) scope.names B) G2.objs.size f G t nt ix σ tn W) ?_ m0
   ⟨0,[],_,G,I3.pin1 a2 (U.hok.fresh (aw _)) P a4 (λv z=>nomatch z),wz X.w a2,c5,λb l=>(f2 b l).1,w0⟩
  rintro n s3 ⟨i,h,oD,Y,J3,g7,d6,d1,w3⟩;have a7:∀ p∈[(f.heap.objs.size,oD)],p.1∉t:=λp hp=>by
   have:p=(f.heap.objs.size,oD):=by simpa using hp
   rw [this];exact b8
  have b0:∀ {s8:ai},s8.heap.get? f.heap.objs.size=some oD->jV X.w s8.heap f.heap.objs.size h:=λ{s8} e=>g7.keep λo eo=>by
   have q:=(J3.pin (f.heap.objs.size,oD) (al _ (List.mem_singleton.mpr rfl))).1;rw [q] at eo;cases eo;exact e
  rcases d0 i n h Y w3 with ⟨c3,qn⟩|⟨go,hlt,step⟩
  ·refine eK (T.done (bu X N' scope (aI (G2.objs.size+1) scope.names B) G2.objs.size f G t (X.pn++pins)) rfl rfl rfl hc i _ s3 _ Y _ J3 (O a7 d1) d6 c3) λr s4 e5=>?_;obtain ⟨hr,I4⟩:=e5;subst hr;obtain ⟨pD,pN,_⟩:=I4.pin (f.heap.objs.size,_) (al _ (List.mem_singleton.mpr rfl));obtain ⟨mm,hn,_⟩:=I4.loc;have d7:Y G2.objs.size=none:=I4.free;refine e2 _ _ mm s4 h Y pN (U.fpOk I (by rw [bj (cF P)];exact d7)) (qn _ pN) hn λh' sb=>?_;have hu:Un (wj X.stack) t G (upd Y f.heap.objs.size (jO X.w f.heap.objs.size h)) f.heap h':=Un.grow I4.base sb I (aw _) pN;refine U.call' (s':={ s4 with heap:=h' }) (ch:=t) I4.os hu ?_ I4.bare λb l=>?_
   ·exact oO (vg I4.hok d7 sb) pN (ym ((b0 pD).keep λo e=>(sb.2 _ P).trans e))
   ·obtain ⟨_,f1,_,f3,f4,f5⟩:=f2 b l;exact ⟨f3,f1,f4,f5⟩
  ·refine eK (T.item (bu X N' scope (aI (G2.objs.size+1) scope.names B) G2.objs.size f G t (X.pn++pins)) rfl rfl rfl hc i _ s3 _ Y _ J3 (O a7 d1) d6 go) λr s4 h2=>?_;obtain ⟨u,hr,h4⟩:=h2;subst hr;refine eK h4 λ_ s5 e6=>?_;obtain ⟨x,H5,I5,r5,y5,a5,h0⟩:=e6;have e1:=I5.pinned (O a7 h0) (T.obj _ _ a5);refine eK (pg _ s5 _ H5 x u _ e1 r5 (lo _ _ _ _ (step x H5 y5))) λ_ s6 e9=>?_;obtain ⟨a6,H6,I6,q6,l6,k6⟩:=e9;have hw:∀ (j:Nat) v,(gx nt ix σ)[j]?=some (some v)->a6[j]?=some (some v):=λj v e=>by
    by_cases hj:nt<=j
    ·rw [k6 j hj];exact e
    ·unfold gx at e;rw [aW (by simpa using hj),bJ,if_pos (by omega)] at e;cases e
   refine eK (pt _ s6 a6 H6 _ I6 q6) λb s7 g5=>?_;obtain ⟨H7,I7,q7⟩:=g5;have d9:∀ {s8:ai}{d4:St}{H8:Hp},bL (bu X N' scope (aI (G2.objs.size+1) scope.names B) G2.objs.size f G t (X.pn++pins)) ([(f.heap.objs.size,oD)]++lJ t s5.heap) d4 H8 s8 ->
     tn (i+1) s8.heap/\∀ b∈t,H8 b=none:=λ{s8 d4 H8} I8=>by
    refine ⟨T.keep _ _ _ a5 λb l o e=>(I8.pin (b,o) (al _ (al _ (eL l e)))).1,λb l=>?_⟩;obtain ⟨o,e,d⟩:=T.obj _ _ a5 b l;exact (I8.pin (b,o) (al _ (al _ (eL l e)))).2.1
   cases b with
   |false =>
    simp only [ba,if_false] at q7 ⊢;obtain ⟨m',hm,w7⟩:=q7;obtain ⟨t7,f7⟩:=d9 I7;obtain ⟨pD,_⟩:=I7.pin (f.heap.objs.size,oD) (al _ (aN _ (List.mem_singleton.mpr rfl)));exact ⟨m',hm,i+1,h,oD,H7,(I7.weak l6.symm hw).unpinned,b0 pD,t7,f7,w7⟩
   |true =>
    simp only [if_true] at q7 ⊢;refine eK (pe _ s7 a6 H7 _ I7 q7) λu8 s8 g0=>?_;obtain ⟨y,H8,I8,r8,z,m',hy,hm,w8⟩:=g0;obtain ⟨t8,f8⟩:=d9 I8;obtain ⟨pD,pN,_⟩:=I8.pin (f.heap.objs.size,_) (al _ (aN _ (List.mem_singleton.mpr rfl)));subst hy;obtain ⟨tz,rfl⟩:=r8;refine tP (b0 pD) hlt λh9 e3 c0 d8=>?_;obtain ⟨h1,g3,t9,g1,h3⟩:=id d8;have g4:=g1.at_;refine ⟨m',hm,i+1,_,{ cls:=.type "set",dict:=none,data:=.set h1 g3 t9 },H8,?_,d8,T.keep _ _ _ t8 λb l o e=>c0.extBut b o (λz=>b8 (z ▸ l)) e,f8,w8⟩;have f6:bL (bu X N' scope (aI (G2.objs.size+1) scope.names B) G2.objs.size f G t (X.pn++pins)) [] (gx nt ix σ) H8 s8:=(I8.weak l6.symm hw).pins_of λp hp=>absurd hp (by simp);have I9:bL (bu X N' scope (aI (G2.objs.size+1) scope.names B) G2.objs.size f G t (X.pn++pins)) [] (gx nt ix σ) H8 { s8 with heap:=h9,toks:=e3 } :=
     f6.turned (it:=f.heap.objs.size) (λb o l e=>c0.extBut b o l e) pN P (.inr (aw _)) (λx c e z=>by
      rcases cne x c e with e|e
      ·obtain ⟨v,q⟩:=U.cell x c e;exact absurd q.lt (by rw [z];exact bf _)
      ·exact absurd e (by rw [z];exact bf _)) λp hp z=>by
      have hp:p∈X.pn++pins:=(List.mem_append.mp hp).elim id λz=>absurd z (by simp);exact absurd (av (U.pin p hp).1) (by rw [z];exact bf _)
    exact I9.pin1 g4 pN P a4 (λv z=>nomatch z)
 exact kC a1 (T.self _ 0 _ _ _ c5 a1)
inductive Ti (w:bz) (nt:Nat) (ix:List Nat) (g:TG) (tt:TT) (te:TE) (σ:St) (Q:VK) (J:It) (H1:Hp):Prop
 |mk (W:Nat->Nat->List Str->Hp->Prop) (w0:∃ m,W 0 m [] H1) (turn:∀ i m acc H,W i m acc H ->
 (J.stop i H/\∀ p,H p=none->Q (.ref p) (upd H p (jO w p acc))) \/
 (J.go i H/\acc.length+1<i0/\∀ x H',J.yld i H x H'->g x (gx nt ix σ) H' λσ2 H2=>tt σ2 H2 λb H3 =>
  if b=true then te σ2 H3 λy H4=>∃ z m',y=.str z/\m'<m/\W (i+1) m' (if z∈acc then acc else acc++[z]) H4 else ∃ m',m'<m/\W (i+1) m' acc H3)):Ti w nt ix g tt te σ Q J H1
def Nx (w:bz) (nt:Nat) (ix:List Nat) (c:TI) (g:TG) (b:TT) (a:TE):TE:=λσ H Q=>c σ H (Ti w nt ix g b a σ Q)
def Hh {X:Cx}{c tg iter:bp}{ifs:List bp}{scope:eX}{pos:Pos}{p:TI}{g:TG}{t:TT}{o:TE}{N':List Str}{nt:Nat}{ix:List Nat}
  (L:X.calm=true) (S:jk X scope N' nt ix) (lo:Ml nt g) (M:PI X tg iter p)
  (P:∀ i C b a l j,PG (bu X N' scope i C b a l j) tg g/\E4 (bu X N' scope i C b a l j) ifs t/\PE (bu X N' scope i C b a l j) c o)
  (hs:∀ x,bU iter X.env x=pure x:=by intro _;rfl):PE X (.SetComp c [⟨tg,iter,ifs,0⟩] scope pos) (Nx X.w nt ix p g t o):=by
 intro pins s σ H Q I h;obtain ⟨i,n,c1,E⟩:=mq (scope:=scope) (env:=X.env) λy z N=>I.ok.has y.1 (S.free y z N);show au _ _ (yd (.SetComp c [⟨tg,iter,ifs,0⟩] scope pos) scope X.env (firstIterPos [⟨tg,iter,ifs,0⟩] pos) (Mw (.type "set")) (firstAsync [⟨tg,iter,ifs,0⟩]) (firstIter [⟨tg,iter,ifs,0⟩] X.env)) _ _ _;refine im (use:=none) rfl hs n S.kind S.loc (eK (M pins s σ H _ I h) λv s1 u=>eK u λG s2 h2=>?_);obtain ⟨it,fp,tn,J,H2,e,U,T,k,O,W,B,f⟩:=h2;subst e;refine KW (RR:=λd C=>GD (aA X.prog X.w) X.A X.xe none (EP X pins σ Q) d C) L S lo P c1 E U T k O B f ?_;intro D C m s' d H' hD _ q Y K;exact ⟨m,Y,λh' sb=>⟨.ref D,_,K h' sb,rfl,q⟩⟩
def AK:jU X (.builtin "len") (λxs H Q=>∃ p ss,xs=[.ref p]/\H p=some (jO X.w p ss)/\Q (.int ss.length) H):=by
 intro pins s σ H xs j Q I r h;obtain ⟨p,ss,rfl,e,q⟩:=h;obtain ⟨u,rfl,d⟩:=l9 r;cases d;obtain ⟨es,ep,t,b,f⟩:=(show dI X.prog X.w H s.heap p (jO X.w p ss) from I.hok p _ e).1;have a:es.size=ss.length:=by rw [<- f.length_eq,aq,ax]
 have c:(es.size:Int)<2 ^ 63:=by
  have g:=b.few;have i:i0<=2 ^ 62:=by decide
  omega
 refine nW kind_len plain_len entry_len (args_len1 _) (wpAny_len_body_set b.at_ ⟨rfl,rfl,rfl⟩ rfl b.fits c ?_);refine ⟨.int _,H,I.tok _,⟨_,rfl⟩,?_⟩;rw [a];exact q
end L2
namespace L2
open PySem PySem.Spec PyProof.Rows
section
variable {K:aa}{nt:Nat}{ix:List Nat}{te:TE}{σ:St}{H1:Hp}{Q:VK}{a:ao}{xs:List V}{i:Nat}
end
end L2
namespace L2
open PySem PySem.Spec PyProof.Rows
def IT (so:eX) (N:List Str) (scope:eX) (N':List Str) (nt:Nat) (ix:List Nat):Bool :=
 (scope.kind == .function)&&(scope.names.all λy=>y.2 != .cell||scope.names.lookup y.1==some .cell)&&(scope.names.all λy=>y.2 != .local||scope.names.lookup y.1==some .local) &&
 (scope.names.all λy=>y.2 != .free||so.names.lookup y.1==some .cell||so.names.lookup y.1==some .free) &&
 ((bM ix.length).all λk=>match ix[k]? with
  |none=>false
  |some i=>match N[i]? with
   |none=>false
   |some x=>N'[nt+k]? == some x&&scope.names.lookup x==some .free)&&(N'.length==nt+ix.length)
def bW (h:IT so N scope N' nt ix=true) (j:X.env.scope=so:=by rfl) (n:X.N=N:=by rfl):jk X scope N' nt ix:=by
 unfold IT at h;simp only [aV,bA] at h;obtain ⟨⟨⟨⟨⟨a,b⟩,c⟩,d⟩,e⟩,l⟩:=h;refine ⟨by simpa using a,λy f z=>?_,λy f z=>?_,λy f z=>?_,λk i g=>?_,by simpa using l⟩
 ·have:=b y f;simpa [z] using this
 ·have:=c y f;simpa [z] using this
 ·have:=d y f;rw [j];simpa [z] using this
 ·have m:k<ix.length:=(List.getElem?_eq_some_iff.mp g).1;have:=e k (List.mem_range.mpr m);rw [g] at this;rw [n];simp only at this;split at this
  ·cases this
  ·rename_i x o
   simp only [aV] at this;exact ⟨x,o,by simpa using this.1,by simpa using this.2⟩
end L2
namespace L2
open PySem PySem.Spec PyProof.Rows
section
variable {K:aa}{nt:Nat}{ix:List Nat}{te:TE}{σ:St}{H1:Hp}{Q:VK}{a b:ao}{xs ys:List V}{i k:Nat}
end
end L2
namespace J
open PySem L2
abbrev D:=Cr
inductive R (α:Type) where
 |ok (a:α)
 |ex (c:Str) (n:Option D)
 |no
def R.bind {b d:Type}:R b->(b->R d)->R d
 |.ok a,f=>f a
 |.ex c n,_=>.ex c n
 |.no,_=>.no
@[simp] theorem bind_ok {α β:Type} (a:α) (f:α->R β):(R.ok a).bind f=f a:=rfl
@[simp] theorem bind_ex {α β:Type} (c:Str) (n:Option D) (f:α->R β):(R.ex c n).bind f=.ex c n:=rfl
@[simp] theorem bind_no {α β:Type} (f:α->R β):(R.no:R α).bind f=.no:=rfl
def kD:dQ->D
 |.inl i=>.int i
 |.inr x=>.str x
def tD (a:List dQ):D:=.tuple (a.map kD)
mutual
inductive RD (K:aa) (H:Hp):V->D->Prop
 |none:RD K H .non .none
 |bool (b:Bool):RD K H (.bl b) (.bool b)
 |int (i:Int):RD K H (.int i) (.int i)
 |str (x:Str):RD K H (.str x) (.str x)
 |list {a:ao}{xs:List V}{ds:List D}:nZ K H a xs->RDs K H xs ds->RD K H (.ref a) (.list ds)
 |tuple {a:ao}{xs:List V}{ds:List D}:H a=some (.tup xs)->RDs K H xs ds->RD K H (.ref a) (.tuple ds)
 |dictK {a:ao}{kvs:List (dQ×V)}{ds:List (D×D)}:H a=some (.dK kvs)->RDk K H kvs ds->RD K H (.ref a) (.dict ds)
 |dictT {a:ao}{kvs:List (List dQ×V)}{ds:List (D×D)}:H a=some (.dT kvs)->kvs≠[]->RDt K H kvs ds->RD K H (.ref a) (.dict ds)
 |dictF {a:ao}{o:Obj}{kvs:List (List dQ×V)}{ds:List (D×D)}:H a=some (.frz o (.dT kvs))->kvs≠[]->RDt K H kvs ds->RD K H (.ref a) (.dict ((.none,.none)::ds))
inductive RDs (K:aa) (H:Hp):List V->List D->Prop
 |nil:RDs K H [] []
 |cons {x:V}{xs:List V}{d:D}{ds:List D}:RD K H x d->RDs K H xs ds->RDs K H (x::xs) (d::ds)
inductive RDk (K:aa) (H:Hp):List (dQ×V)->List (D×D)->Prop
 |nil:RDk K H [] []
 |cons {k:dQ}{x:V}{xs:List (dQ×V)}{d:D}{ds:List (D×D)}:RD K H x d->RDk K H xs ds->RDk K H ((k,x)::xs) ((kD k,d)::ds)
inductive RDt (K:aa) (H:Hp):List (List dQ×V)->List (D×D)->Prop
 |nil:RDt K H [] []
 |cons {k:List dQ}{x:V}{xs:List (List dQ×V)}{d:D}{ds:List (D×D)}:RD K H x d->RDt K H xs ds->RDt K H ((k,x)::xs) ((tD k,d)::ds)
end
def RD.same (e:du H H') (h:RD K H v d):RD K H' v d:=RD.rec (motive_1:=λv d _=>RD K H' v d) (motive_2:=λv d _=>RDs K H' v d) (motive_3:=λv d _=>RDk K H' v d) (motive_4:=λv d _=>RDt K H' v d) .none .bool .int .str (λh _ r=>.list (e.seq h) r) (λh _ r=>.tuple (e _ _ h) r) (λh _ r=>.dictK (e _ _ h) r) (λh n _ r=>.dictT (e _ _ h) n r) (λh n _ r=>.dictF (e _ _ h) n r) .nil (λ_ _ a b=>.cons a b) .nil (λ_ _ a b=>.cons a b) .nil (λ_ _ a b=>.cons a b) h
def RDs.same (e:du H H') (h:RDs K H v d):RDs K H' v d:=RDs.rec (motive_1:=λv d _=>RD K H' v d) (motive_2:=λv d _=>RDs K H' v d) (motive_3:=λv d _=>RDk K H' v d) (motive_4:=λv d _=>RDt K H' v d) .none .bool .int .str (λh _ r=>.list (e.seq h) r) (λh _ r=>.tuple (e _ _ h) r) (λh _ r=>.dictK (e _ _ h) r) (λh n _ r=>.dictT (e _ _ h) n r) (λh n _ r=>.dictF (e _ _ h) n r) .nil (λ_ _ a b=>.cons a b) .nil (λ_ _ a b=>.cons a b) .nil (λ_ _ a b=>.cons a b) h
def RDk.same (e:du H H') (h:RDk K H v d):RDk K H' v d:=RDk.rec (motive_1:=λv d _=>RD K H' v d) (motive_2:=λv d _=>RDs K H' v d) (motive_3:=λv d _=>RDk K H' v d) (motive_4:=λv d _=>RDt K H' v d) .none .bool .int .str (λh _ r=>.list (e.seq h) r) (λh _ r=>.tuple (e _ _ h) r) (λh _ r=>.dictK (e _ _ h) r) (λh n _ r=>.dictT (e _ _ h) n r) (λh n _ r=>.dictF (e _ _ h) n r) .nil (λ_ _ a b=>.cons a b) .nil (λ_ _ a b=>.cons a b) .nil (λ_ _ a b=>.cons a b) h
def RDt.same (e:du H H') (h:RDt K H v d):RDt K H' v d:=RDt.rec (motive_1:=λv d _=>RD K H' v d) (motive_2:=λv d _=>RDs K H' v d) (motive_3:=λv d _=>RDk K H' v d) (motive_4:=λv d _=>RDt K H' v d) .none .bool .int .str (λh _ r=>.list (e.seq h) r) (λh _ r=>.tuple (e _ _ h) r) (λh _ r=>.dictK (e _ _ h) r) (λh n _ r=>.dictT (e _ _ h) n r) (λh n _ r=>.dictF (e _ _ h) n r) .nil (λ_ _ a b=>.cons a b) .nil (λ_ _ a b=>.cons a b) .nil (λ_ _ a b=>.cons a b) h
mutual
def n5:D->Bool
 |.dict _=>false
 |.list xs=>noDs xs
 |.tuple xs=>noDs xs
 |_=>true
def noDs:List D->Bool
 |[]=>true
 |x::r=>n5 x&&noDs r
end
def Tj (h:(a&&b)=true):a=true:=(Bool.and_eq_true_iff.mp h).1
def Tl (h:(a&&b)=true):b=true:=(Bool.and_eq_true_iff.mp h).2
def RD.rep (h:RD K H v d):n5 d=true->Hf K H v d:=RD.rec (motive_1:=λv d _=>n5 d=true->Hf K H v d) (motive_2:=λv d _=>noDs d=true->Reps K H v d) (motive_3:=λ_ _ _=>True) (motive_4:=λ_ _ _=>True) (λ_=>.none) (λb _=>.bool b) (λi _=>.int i) (λx _=>.str x) (λh _ r e=>.list h (r e)) (λh _ r e=>.tuple (.of h) (r e)) (λ_ _ _ e=>yg e) (λ_ _ _ _ e=>yg e) (λ_ _ _ _ e=>yg e) (λ_=>.nil) (λ_ _ a b e=>.cons (a (Tj e)) (b (Tl e))) trivial (λ_ _ _ _=>trivial) trivial (λ_ _ _ _=>trivial) h
def RDs.length:∀ {ds:List D},RDs K H vs ds->vs.length=ds.length:=by
 induction vs with
 |nil=>intro ds h;cases h;rfl
 |cons x r c=>intro ds h;cases h with|cons a b=>exact congrArg (· + 1) (c b)
def RDs.get:∀ {ds:List D}{i:Nat}{v:V},RDs K H vs ds->vs[i]?=some v->∃ d,ds[i]?=some d/\RD K H v d:=by
 induction vs with
 |nil=>intro ds i v _ e;cases e
 |cons x r c =>
  intro ds i v h e;cases h with
  |cons a b =>
   cases i with
   |zero=>cases e;exact ⟨_,rfl,a⟩
   |succ i=>have q:=c (i:=i) b e;exact q
def RDs.get':∀ {ds:List D}{i:Nat}{d:D},RDs K H vs ds->ds[i]?=some d->∃ v,vs[i]?=some v/\RD K H v d:=by
 induction vs with
 |nil=>intro ds i v h e;cases h;cases e
 |cons x r c =>
  intro ds i v h e;cases h with
  |cons a b =>
   cases i with
   |zero=>cases e;exact ⟨_,rfl,a⟩
   |succ i=>have q:=c (i:=i) b e;exact q
def RDs.append : ∀ {ds:List D},RDs K H vs ds->RDs K H ws es->RDs K H (vs++ws) (ds++es):=by
 induction vs with
 |nil=>intro ds h s;cases h;exact s
 |cons x r c=>intro ds h s;cases h with|cons a b=>exact .cons a (c b s)
def RDs.drop:∀ {ds:List D} (n:Nat),RDs K H vs ds->RDs K H (vs.drop n) (ds.drop n):=by
 induction vs with
 |nil=>intro ds n h;cases h;cases n<;>exact .nil
 |cons x r c =>
  intro ds n h;cases n with
  |zero=>exact h
  |succ n=>cases h with|cons a b=>exact c n b
def RDs.take:∀ {ds:List D} (n:Nat),RDs K H vs ds->RDs K H (vs.take n) (ds.take n):=by
 induction vs with
 |nil=>intro ds n h;cases h;cases n<;>exact .nil
 |cons x r c =>
  intro ds n h;cases n with
  |zero=>exact .nil
  |succ n=>cases h with|cons a b=>exact .cons a (c n b)
def yS:∀ (ss:List Str),RDs K H (ss.map V.str) (ss.map aF)
 |[]=>.nil
 |x::r=>.cons (.str x) (yS r)
def RD.str_inv (h:RD K H v (.str x)):v=.str x:=by cases h;rfl
def RD.bool_inv (h:RD K H v (.bool x)):v=.bl x:=by cases h;rfl
def RD.int_inv (h:RD K H v (.int x)):v=.int x:=by cases h;rfl
def yn {e:Type}{c:e->D}{k:e->V} (g:∀ {v x},RD K H v (c x)->v=k x) {ss:List e}:∀ {d:List V},RDs K H d (ss.map c)->d=ss.map k:=by
 induction ss with
 |nil=>intro d h;cases h;rfl
 |cons x r f=>intro d h;cases h with|cons a b=>rw [g a,f b];rfl
def pw {ss:List Str}{a:List V}:RDs K H a (ss.map aF)->a=ss.map V.str:=yn RD.str_inv
def AL {ss:List Bool}{a:List V}:RDs K H a (ss.map cB)->a=ss.map V.bl:=yn RD.bool_inv
def vp {ss:List Int}{a:List V}:RDs K H a (ss.map bV)->a=ss.map V.int:=yn RD.int_inv
def nt:HO->Bool
 |.tup _=>false
 |_=>true
structure cP (H Hs H' Hs':Hp):Prop where
 all:du H H'
 sh:du Hs Hs'
 sub:du Hs' H'
 out:∀ a o,H a=some o->nt o=true->Hs a=none->Hs' a=none
def cP.refl (h:du Hs H):cP H Hs H Hs:=⟨.refl _,.refl _,h,λ_ _ _ _ e=>e⟩
def cP.trans (a:cP H Hs H1 Hs1) (b:cP H1 Hs1 H2 Hs2):cP H Hs H2 Hs2 :=
 ⟨a.all.trans b.all,a.sh.trans b.sh,b.sub,λc o e t n=>b.out c o (a.all c o e) t (a.out c o e t n)⟩
def cP.new (h:du Hs H) (n:H p=none):cP H Hs (upd H p o) (upd Hs p o):=by
 have d:Hs p=none:=h.free n;refine ⟨ms n,ms d,λb u e=>?_,λa u e t z=>?_⟩
 ·by_cases c:b=p
  ·subst c;rw [bi] at e ⊢;exact e
  ·rw [bj c] at e ⊢;exact h b u e
 ·rw [bj (c6 e n)];exact z
def cP.mine (h:du Hs H) (n:H p=none):cP H Hs (upd H p o) Hs:=by
 refine ⟨ms n,.refl _,λb u e=>?_,λa u e t z=>z⟩;have c:=h b u e;rw [bj (c6 c n)];exact c
inductive n6 (K:aa) (Hs:Hp):HO->D->Prop
 |lst {vs:List V}{ds:List D}:RDs K Hs vs ds->n6 K Hs (.lst vs) (.list ds)
 |dK {kvs:List (dQ×V)}{ds:List (D×D)}:RDk K Hs kvs ds->n6 K Hs (.dK kvs) (.dict ds)
 |dT {kvs:List (List dQ×V)}{ds:List (D×D)}:kvs≠[]->RDt K Hs kvs ds->n6 K Hs (.dT kvs) (.dict ds)
 |dF {o:Obj}{kvs:List (List dQ×V)}{ds:List (D×D)}:kvs≠[]->RDt K Hs kvs ds->n6 K Hs (.frz o (.dT kvs)) (.dict ((.none,.none)::ds))
def n6.same (e:du Hs Hs') (h:n6 K Hs o d):n6 K Hs' o d:=by
 cases h with
 |lst r=>exact .lst (r.same e)
 |dK r=>exact .dK (r.same e)
 |dT n r=>exact .dT n (r.same e)
 |dF n r=>exact .dF n (r.same e)
def n6.nt (h:n6 K Hs o d):J.nt o=true:=by cases h<;>rfl
def n6.share (n:Hs a=none) (h:n6 K Hs o d):RD K (upd Hs a o) (.ref a) d:=by
 have e:du Hs (upd Hs a o):=ms n;cases h with
 |lst r=>exact .list (.of bi) (r.same e)
 |dK r=>exact .dictK bi (r.same e)
 |dT n r=>exact .dictT bi n (r.same e)
 |dF n r=>exact .dictF bi n (r.same e)
inductive Sl where
 |no
 |shr (d:D)
 |own (d:D)
 |lck (d:D)
 |ow2 (dss:List (List D))
abbrev aC:=List Sl
inductive Bu (K:aa) (H Hs:Hp):List ao->List (List D)->Prop
 |nil:Bu K H Hs [] []
 |cons {a:ao}{as:List ao}{vs:List V}{ds:List D}{dss:List (List D)}:H a=some (.lst vs)->RDs K Hs vs ds->Bu K H Hs as dss->Bu K H Hs (a::as) (ds::dss)
def Bu.step (e:du H H') (a:du Hs Hs') (h:Bu K H Hs as dss):Bu K H' Hs' as dss:=by
 induction h with
 |nil=>exact .nil
 |cons h r t b=>exact .cons (e _ _ h) (r.same a) b
def Bu.upd (n:b∉as) (h:Bu K H Hs as dss):Bu K (upd H b o) Hs as dss:=by
 induction h with
 |nil=>exact .nil
 |cons h r t a=>exact .cons (by rw [bj (λz=>n (by rw [<- z];exact ak))];exact h) r (a λz=>n (ag _ z))
def Bu.there (h:Bu K H Hs as dss) (hb:b∈as):∃ o,H b=some o/\nt o=true:=by
 induction h with
 |nil=>cases hb
 |cons h r t a =>
  rcases List.mem_cons.mp hb with e|hb
  ·exact ⟨_,e ▸ h,rfl⟩
  ·exact a hb
structure O2 (K:aa) (H0 H Hs:Hp) (ρ:aC) (σ:St) (i:Nat) (dss:List (List D)) (a:ao) (as:List ao):Prop where
 at_:σ[i]?=some (some (V.ref a))
 ob:H a=some (.lst (as.map V.ref))
 nd:(a::as).Nodup
 out:∀ b∈a::as,Hs b=none/\H0 b=none
 dj:∀ b∈a::as,∀ (j:Nat) (e:D),ρ[j]?=some (Sl.own e)->σ[j]?≠some (some (V.ref b))
 inn:Bu K H Hs as dss
structure Fr (K:aa) (H0 Hs0:Hp) (la:Nat->Option ao) (ρ:aC) (σ:St) (H Hs:Hp):Prop where
 st:cP H0 Hs0 H Hs
 len:ρ.length=σ.length
 sh:∀ (i:Nat) (d:D),ρ[i]?=some (Sl.shr d)->∃ v,σ[i]?=some (some v)/\RD K Hs v d
 ow:∀ (i:Nat) (d:D),ρ[i]?=some (Sl.own d)->∃ a o,σ[i]?=some (some (V.ref a))/\H a=some o/\Hs a=none/\H0 a=none/\n6 K Hs o d
 lk:∀ (i:Nat) (d:D),ρ[i]?=some (Sl.lck d)->∃ a o,σ[i]?=some (some (V.ref a))/\la i=some a/\H a=some o/\Hs a=none/\H0 a=some o/\n6 K Hs o d
 dj:∀ (i j:Nat) (d e:D) (a:ao),ρ[i]?=some (Sl.own d)->ρ[j]?=some (Sl.own e)->σ[i]?=some (some (V.ref a))->σ[j]?=some (some (V.ref a))->i=j
 lh:∀ (i:Nat) (a:ao),la i=some a->∃ o,H0 a=some o
 o2:∀ (i:Nat) (dss:List (List D)),ρ[i]?=some (Sl.ow2 dss)->∃ a as,O2 K H0 H Hs ρ σ i dss a as
 u2:∀ (i j:Nat) (d e:List (List D)),ρ[i]?=some (Sl.ow2 d)->ρ[j]?=some (Sl.ow2 e)->i=j
def Fr.step (f:Fr K H0 Hs0 la ρ σ H Hs) (s:cP H Hs H' Hs'):Fr K H0 Hs0 la ρ σ H' Hs':=by
 refine ⟨f.st.trans s,f.len,λi d e=>?_,λi d e=>?_,λi d e=>?_,f.dj,f.lh,λi l e=>?_,f.u2⟩
 ·obtain ⟨v,g,c⟩:=f.sh i d e;exact ⟨v,g,c.same s.sh⟩
 ·obtain ⟨a,o,g,c,j,m,k⟩:=f.ow i d e;exact ⟨a,o,g,s.all _ _ c,s.out _ _ c k.nt j,m,k.same s.sh⟩
 ·obtain ⟨a,o,g,c,j,m,k,n⟩:=f.lk i d e;exact ⟨a,o,g,c,s.all _ _ j,s.out _ _ j n.nt m,k,n.same s.sh⟩
 ·obtain ⟨a,q,h⟩:=f.o2 i l e;refine ⟨a,q,h.at_,s.all _ _ h.ob,h.nd,λb hb=>⟨?_,(h.out b hb).2⟩,h.dj,h.inn.step s.all s.sh⟩;have there:∃ o,H b=some o/\nt o=true:=by
   rcases List.mem_cons.mp hb with rfl|hb
   ·exact ⟨_,h.ob,rfl⟩
   ·exact h.inn.there hb
  obtain ⟨o,ho,p⟩:=there;exact s.out b o ho p (h.out b (by assumption)).1
inductive WQ (K:aa) (H Hs:Hp) (v:V) (d:D):Prop
 |mk (a:ao) (o:HO) (h0:v=.ref a) (h1:H a=some o) (h2:Hs a=none) (h3:n6 K Hs o d):WQ K H Hs v d
def RB (K:aa) (H Hs:Hp) (v:V) (d:D):Prop:=RD K Hs v d\/WQ K H Hs v d
def RB.step (h:RB K H Hs v d) (s:cP H Hs H' Hs'):RB K H' Hs' v d:=by
 rcases h with h|⟨a,o,h1,h2,h3,h4⟩
 ·exact .inl (h.same s.sh)
 ·exact .inr ⟨a,o,h1,s.all _ _ h2,s.out _ _ h2 h4.nt h3,h4.same s.sh⟩
def RB.full (sub:du Hs H) (h:RB K H Hs v d):RD K H v d:=by
 rcases h with h|⟨a,o,rfl,h2,h3,h4⟩
 ·exact h.same sub
 ·have e:du (upd Hs a o) H:=λb u q=>by
   by_cases c:b=a
   ·subst c;rw [bi] at q;cases q;exact h2
   ·rw [bj c] at q;exact sub b u q
  exact (h4.share h3).same e
def RB.list (sub:du Hs H) (h:RB K H Hs v (.list ds)):∃ a b,v=.ref a/\nZ K H a b/\RDs K Hs b ds:=by
 rcases h with h|⟨a,o,rfl,h2,h3,h4⟩
 ·cases h with|list q r=>exact ⟨_,_,rfl,sub.seq q,r⟩
 ·cases h4 with|lst r=>exact ⟨a,_,rfl,.of h2,r⟩
def RB.tuple (sub:du Hs H) (h:RB K H Hs v (.tuple ds)):∃ a b,v=.ref a/\l5 K H a b/\RDs K Hs b ds/\Hs a=some (.tup b):=by
 rcases h with h|⟨a,o,rfl,h2,h3,h4⟩
 ·cases h with|tuple q r=>exact ⟨_,_,rfl,.of (sub _ _ q),r,q⟩
 ·cases h4
def RB.str (h:RB K H Hs v (.str x)):v=.str x:=by
 rcases h with h|⟨a,o,rfl,h2,h3,h4⟩
 ·exact h.str_inv
 ·cases h4
def RB.int (h:RB K H Hs v (.int i)):v=.int i:=by
 rcases h with h|⟨a,o,rfl,h2,h3,h4⟩
 ·exact h.int_inv
 ·cases h4
def RB.non (h:RB K H Hs v .none):v=.non:=by
 rcases h with h|⟨a,o,rfl,h2,h3,h4⟩
 ·cases h;rfl
 ·cases h4
def XW (K:aa) (cls:Str->ao) (E:XK) (c:Str) (n:Option D) (H Hs:Hp):Prop:=match n with
 |none=>E (.ref (cls c)) none H
 |some d=>∀ a v,H a=some (.xd [("number",v)])->RD K Hs v d->E (.ref (cls c)) (some a) H
def Fin {b:Type} (K:aa) (cls:Str->ao) (E:XK) (H Hs:Hp) (r:R b) (q:b->Prop):Prop:=match r with
 |.ok d=>q d
 |.ex c n=>∀ H' a,cP H Hs H' a->XW K cls E c n H' a
 |.no=>False
inductive ZT (K:aa) (cls:Str->ao) (E:XK) (ρ:aC) (r:R D) (σ:St) (H:Hp) (Q:VK):Prop
 |mk (H0 Hs0:Hp) (la:Nat->Option ao) (Hs:Hp) (f:Fr K H0 Hs0 la ρ σ H Hs) (q:Fin K cls E H Hs r λd=>∀ v H' Hs',cP H Hs H' Hs'->RD K Hs' v d->Q v H'):ZT K cls E ρ r σ H Q
def TR (K:aa) (cls:Str->ao) (E:XK) (ρ:aC) (r:R D):TE:=ZT K cls E ρ r
inductive ZU (K:aa) (cls:Str->ao) (E:XK) (ρ:aC) (r:R D) (σ:St) (H:Hp) (Q:VK):Prop
 |mk (H0 Hs0:Hp) (la:Nat->Option ao) (Hs:Hp) (f:Fr K H0 Hs0 la ρ σ H Hs) (q:Fin K cls E H Hs r λd=>∀ v H' Hs',cP H Hs H' Hs'->RB K H' Hs' v d->Q v H'):ZU K cls E ρ r σ H Q
def TB (K:aa) (cls:Str->ao) (E:XK) (ρ:aC) (r:R D):TE:=ZU K cls E ρ r
inductive WR (K:aa) (cls:Str->ao) (E:XK) (ρ:aC) (r:R Bool) (σ:St) (H:Hp) (Q:Bool->Hp->Prop):Prop
 |mk (H0 Hs0:Hp) (la:Nat->Option ao) (Hs:Hp) (f:Fr K H0 Hs0 la ρ σ H Hs) (q:Fin K cls E H Hs r λb=>∀ H' Hs',cP H Hs H' Hs'->Q b H'):WR K cls E ρ r σ H Q
def E5 (K:aa) (cls:Str->ao) (E:XK) (ρ:aC) (r:R Bool):TT:=WR K cls E ρ r
inductive Tn (K:aa) (H Hs:Hp):List V->List D->Prop
 |nil:Tn K H Hs [] []
 |cons {x:V}{xs:List V}{d:D}{ds:List D}:RB K H Hs x d->Tn K H Hs xs ds->Tn K H Hs (x::xs) (d::ds)
inductive WS (K:aa) (cls:Str->ao) (E:XK) (ρ:aC) (r:R (List D)) (σ:St) (H:Hp) (Q:List V->Hp->Prop):Prop
 |mk (H0 Hs0:Hp) (la:Nat->Option ao) (Hs:Hp) (f:Fr K H0 Hs0 la ρ σ H Hs) (q:Fin K cls E H Hs r λd=>∀ v H' Hs',cP H Hs H' Hs'->RDs K Hs' v d->Q v H'):WS K cls E ρ r σ H Q
def Yv (K:aa) (cls:Str->ao) (E:XK) (ρ:aC) (r:R (List D)):TA:=WS K cls E ρ r
inductive WT (K:aa) (cls:Str->ao) (E:XK) (ρ:aC) (r:R (List D)) (σ:St) (H:Hp) (Q:List V->Hp->Prop):Prop
 |mk (H0 Hs0:Hp) (la:Nat->Option ao) (Hs:Hp) (f:Fr K H0 Hs0 la ρ σ H Hs) (q:Fin K cls E H Hs r λd=>∀ v H' Hs',cP H Hs H' Hs'->Tn K H' Hs' v d->Q v H'):WT K cls E ρ r σ H Q
def Yw (K:aa) (cls:Str->ao) (E:XK) (ρ:aC) (r:R (List D)):TA:=WT K cls E ρ r
structure C where
 X:Cx
 cls:Str->ao
 E:XK
structure JE (c:C) (e:bp) (g:aC->R D):Prop where of ::
 run:∀ ρ,PE c.X e (TR c.X.K c.cls c.E ρ (g ρ))
instance {c:C}{e:bp}{g:aC->R D}:CoeFun (JE c e g) (λ_=>∀ ρ,PE c.X e (TR c.X.K c.cls c.E ρ (g ρ))):=⟨JE.run⟩
structure JB (c:C) (e:bp) (g:aC->R D):Prop where of ::
 run:∀ ρ,PE c.X e (TB c.X.K c.cls c.E ρ (g ρ))
instance {c:C}{e:bp}{g:aC->R D}:CoeFun (JB c e g) (λ_=>∀ ρ,PE c.X e (TB c.X.K c.cls c.E ρ (g ρ))):=⟨JB.run⟩
structure JT (c:C) (e:bp) (g:aC->R Bool):Prop where of ::
 run:∀ ρ,PT c.X e (E5 c.X.K c.cls c.E ρ (g ρ))
instance {c:C}{e:bp}{g:aC->R Bool}:CoeFun (JT c e g) (λ_=>∀ ρ,PT c.X e (E5 c.X.K c.cls c.E ρ (g ρ))):=⟨JT.run⟩
structure JW (c:C) (e:bp) (g:aC->R Bool):Prop where of ::
 run:∀ ρ,PW c.X e (E5 c.X.K c.cls c.E ρ (g ρ))
instance {c:C}{e:bp}{g:aC->R Bool}:CoeFun (JW c e g) (λ_=>∀ ρ,PW c.X e (E5 c.X.K c.cls c.E ρ (g ρ))):=⟨JW.run⟩
structure KY (c:C) (es:List bp) (g:aC->R (List D)):Prop where of ::
 run:∀ ρ,PA c.X es (Yv c.X.K c.cls c.E ρ (g ρ))
instance {c:C}{es:List bp}{g:aC->R (List D)}:CoeFun (KY c es g) (λ_=>∀ ρ,PA c.X es (Yv c.X.K c.cls c.E ρ (g ρ))):=⟨KY.run⟩
structure Rr (c:C) (es:List bp) (g:aC->R (List D)):Prop where of ::
 run:∀ ρ,PA c.X es (Yw c.X.K c.cls c.E ρ (g ρ))
instance {c:C}{es:List bp}{g:aC->R (List D)}:CoeFun (Rr c es g) (λ_=>∀ ρ,PA c.X es (Yw c.X.K c.cls c.E ρ (g ρ))):=⟨Rr.run⟩
def qH (h:PE X e t) (m:∀ σ H Q,t' σ H Q->t σ H Q):PE X e t':=λpins s σ H Q I q=>h pins s σ H Q I (m σ H Q q)
def WU (h:PT X e t) (m:∀ σ H Q,t' σ H Q->t σ H Q):PT X e t':=λpins s σ H Q I q=>h pins s σ H Q I (m σ H Q q)
def ZV (h:PW X e t) (m:∀ σ H Q,t' σ H Q->t σ H Q):PW X e t':=λa pins s σ H Q I q=>h a pins s σ H Q I (m σ H Q q)
def Vb {X:Cx}{e:List bp}{t t':TA} (h:PA X e t) (m:∀ σ H Q,t' σ H Q->t σ H Q):PA X e t':=λpos pins s σ H Q I q=>h pos pins s σ H Q I (m σ H Q q)
def Am {X:Cx}{e:dX}{t t':TS} (h:PS X e t) (m:∀ D σ H,t' D σ H->t D σ H):PS X e t':=λpins s σ H Q I q=>h pins s σ H Q I (m Q σ H q)
def Zj {X:Cx}{e:List dX}{t t':TS} (h:IH X e t) (m:∀ D σ H,t' D σ H->t D σ H):IH X e t':=λpins s σ H Q I q=>h pins s σ H Q I (m Q σ H q)
def JE.bor (h:JE c e g):JB c e g:=.of λρ=>qH (h ρ) λσ H Q ⟨j,b,la,Hs,f,q⟩=>⟨j,b,la,Hs,f,by
 cases a:g ρ with
 |ok d=>rw [a] at q;exact λv H' i s r=>q v H' i s (.inl r)
 |ex c n=>rw [a] at q;exact q
 |no=>rw [a] at q;exact q⟩
def one {K:aa}{cls:Str->ao}{E:XK}{ρ:aC}{r:R D}{g:Type}{k:D->R g}{σ:St}{H:Hp}{e b Hs:Hp}{la:Nat->Option ao}{Q:V->Hp->Prop}{q:g->Prop} (f:Fr K e b la ρ σ H Hs)
  (h:Fin K cls E H Hs (r.bind k) q) (m:∀ d v H' a,r=.ok d->cP H Hs H' a->Fr K e b la ρ σ H' a->RB K H' a v d->Q v H'):TB K cls E ρ r σ H Q:=by
 refine ⟨e,b,la,Hs,f,?_⟩;cases r with
 |ok d=>exact λv H' a s r=>m d v H' a rfl s (f.step s) r
 |ex c n=>exact h
 |no=>exact h
def wF {K:aa}{cls:Str->ao}{E:XK}{ρ:aC}{r:R D}{g:Type}{k:D->R g}{σ:St}{H:Hp}{e b Hs:Hp}{la:Nat->Option ao}{Q:V->Hp->Prop}{q:g->Prop} (f:Fr K e b la ρ σ H Hs)
  (h:Fin K cls E H Hs (r.bind k) q) (m:∀ d v H' a,r=.ok d->cP H Hs H' a->Fr K e b la ρ σ H' a->RD K a v d->Q v H'):TR K cls E ρ r σ H Q:=by
 refine ⟨e,b,la,Hs,f,?_⟩;cases r with
 |ok d=>exact λv H' a s r=>m d v H' a rfl s (f.step s) r
 |ex c n=>exact h
 |no=>exact h
def KZ {K:aa}{cls:Str->ao}{E:XK}{ρ:aC}{r:R Bool}{g:Type}{k:Bool->R g}{σ:St}{H:Hp}{e b Hs:Hp}{la:Nat->Option ao}{Q:Bool->Hp->Prop}{q:g->Prop} (f:Fr K e b la ρ σ H Hs)
  (h:Fin K cls E H Hs (r.bind k) q) (m:∀ d H' a,r=.ok d->cP H Hs H' a->Fr K e b la ρ σ H' a->Q d H'):E5 K cls E ρ r σ H Q:=by
 refine ⟨e,b,la,Hs,f,?_⟩;cases r with
 |ok d=>exact λH' a s=>m d H' a rfl s (f.step s)
 |ex c n=>exact h
 |no=>exact h
def Hi {K:aa}{cls:Str->ao}{E:XK}{ρ:aC}{r:R (List D)}{g:Type}{k:List D->R g}{σ:St}{H:Hp}{e b Hs:Hp}{la:Nat->Option ao}{Q:List V->Hp->Prop}{q:g->Prop} (f:Fr K e b la ρ σ H Hs)
  (h:Fin K cls E H Hs (r.bind k) q) (m:∀ d v H' a,r=.ok d->cP H Hs H' a->Fr K e b la ρ σ H' a->RDs K a v d->Q v H'):Yv K cls E ρ r σ H Q:=by
 refine ⟨e,b,la,Hs,f,?_⟩;cases r with
 |ok d=>exact λv H' a s r=>m d v H' a rfl s (f.step s) r
 |ex c n=>exact h
 |no=>exact h
def Ny {K:aa}{cls:Str->ao}{E:XK}{ρ:aC}{r:R (List D)}{g:Type}{k:List D->R g}{σ:St}{H:Hp}{e b Hs:Hp}{la:Nat->Option ao}{Q:List V->Hp->Prop}{q:g->Prop} (f:Fr K e b la ρ σ H Hs)
  (h:Fin K cls E H Hs (r.bind k) q) (m:∀ d v H' a,r=.ok d->cP H Hs H' a->Fr K e b la ρ σ H' a->Tn K H' a v d->Q v H'):Yw K cls E ρ r σ H Q:=by
 refine ⟨e,b,la,Hs,f,?_⟩;cases r with
 |ok d=>exact λv H' a s r=>m d v H' a rfl s (f.step s) r
 |ex c n=>exact h
 |no=>exact h
def Fin.on {e:Type}{K:aa}{cls:Str->ao}{E:XK}{H Hs H' b:Hp}{r:R e}{q q':e->Prop} (h:Fin K cls E H Hs r q) (s:cP H Hs H' b) (m:∀ a,q a->q' a):Fin K cls E H' b r q':=by
 cases r with
 |ok a=>exact m a h
 |ex c n=>exact λf d g=>h f d (s.trans g)
 |no=>exact h
def Gr (ρ:aC) (i:Nat):R D:=match ρ[i]? with
 |some (Sl.shr d)=>.ok d
 |_=>.no
def EC (ρ:aC) (i:Nat):R D:=match ρ[i]? with
 |some (Sl.shr d)=>.ok d
 |some (Sl.own d)=>.ok d
 |some (Sl.lck d)=>.ok d
 |_=>.no
section
variable {c:C}{e a b:bp}{g ga gb:aC->R D}{pos:Pos}
def ap (i:Nat) (l:c.X.N[i]?=some x:=by rfl) (p:Mk c.X.env.scope x:=by first|exact g_ rfl|exact eF (g_ rfl)|exact eF (eF rfl)) (n:(x==("__debug__" : Str))=false:=by decide)
  (k:(x==("__classdict__" : Str))=false:=by decide):JE c (.Name x pos) (λρ=>Gr ρ i):=.of λρ=>qH (pi l p n k) λσ H Q j=>by
 obtain ⟨u,t,la,Hs,f,q⟩:=j;cases h:ρ[i]? with
 |none=>simp only [Gr,h] at q;exact q.elim
 |some s =>
  cases s with
  |shr d =>
   obtain ⟨v,m,o⟩:=f.sh i d h;simp only [Gr,h] at q;exact ⟨v,m,q v H Hs (.refl f.st.sub) o⟩
  |no=>simp only [Gr,h] at q;exact q.elim
  |own d=>simp only [Gr,h] at q;exact q.elim
  |lck d=>simp only [Gr,h] at q;exact q.elim
  |ow2 d=>simp only [Gr,h] at q;exact q.elim
def am (i:Nat) (u:c.X.N[i]?=some x:=by rfl) (z:Mk c.X.env.scope x:=by first|exact g_ rfl|exact eF (g_ rfl)|exact eF (eF rfl)) (y:(x==("__debug__" : Str))=false:=by decide)
  (l:(x==("__classdict__" : Str))=false:=by decide):JB c (.Name x pos) (λρ=>EC ρ i):=.of λρ=>qH (pi u z y l) λσ H Q n=>by
 obtain ⟨B,A,la,Hs,f,q⟩:=n;cases h:ρ[i]? with
 |none=>simp only [EC,h] at q;exact q.elim
 |some s =>
  cases s with
  |shr d =>
   obtain ⟨v,j,k⟩:=f.sh i d h;simp only [EC,h] at q;exact ⟨v,j,q v H Hs (.refl f.st.sub) (.inl k)⟩
  |no=>simp only [EC,h] at q;exact q.elim
  |own d =>
   obtain ⟨a,o,j,k,m,p,t⟩:=f.ow i d h;simp only [EC,h] at q;exact ⟨_,j,q _ H Hs (.refl f.st.sub) (.inr ⟨a,o,rfl,k,m,t⟩)⟩
  |lck d =>
   obtain ⟨a,o,j,k,m,p,t,w⟩:=f.lk i d h;simp only [EC,h] at q;exact ⟨_,j,q _ H Hs (.refl f.st.sub) (.inr ⟨a,o,rfl,m,p,w⟩)⟩
  |ow2 d=>simp only [EC,h] at q;exact q.elim
def qZ (h:PE c.X e (tC v)) (r:∀ Hs,RD c.X.K Hs v d):JE c e (λ_=>.ok d):=.of λρ=>qH h λσ H Q i=>by obtain ⟨k,j,la,Hs,f,q⟩:=i;exact q v H Hs (.refl f.st.sub) (r Hs)
def aL : JE c (.Constant (.int i) j pos) (λ_=>.ok (.int i)):=qZ Us λ_=>.int i
def mv : JE c (.Constant (.bool i) j pos) (λ_=>.ok (.bool i)):=qZ Wm λ_=>.bool i
def pz:JE c (.Constant .none j pos) (λ_=>.ok .none):=qZ Ut λ_=>.none
def CT : JE c (.Constant (.str i) j pos) (λ_=>.ok (.str i)):=qZ Uu λ_=>.str i
def vq (f:Gl c.X x) (d:∃ t,c.X.mg x=some (.int i t)) (h:(x==("__debug__" : Str))=false:=by decide):JE c (.Name x pos) (λ_=>.ok (.int i)):=by
 obtain ⟨t,d⟩:=d;exact qZ (QU f d (v:=.int i) ⟨t,rfl⟩ h) λ_=>.int i
inductive ZW (K:aa) (h:D->D->R D) (x:V) (y:V) (H:Hp) (Q:VK):Prop
 |mk (Hs dx dy:_) (h0:du Hs H) (h1:RB K H Hs x dx) (h2:RB K H Hs y dy) (h3:∃ d,h dx dy=.ok d/\∀ v H' Hs',cP H Hs H' Hs'->RD K Hs' v d->Q v H'):ZW K h x y H Q
def rD (K:aa) (h:D->D->R D):R2:=ZW K h
def wG (X:Cx) (f:af->af->Sem af) (h:D->D->R D):Prop:=qG X f (rD X.K h)/\∀ x y c n,h x y≠.ex c n
def g2 (ga gb:aC->R D) (h:D->D->R D):aC->R D:=λρ=>(ga ρ).bind λx=>(gb ρ).bind λy=>h x y
def two (L:∀ x y c n,h x y≠.ex c n) (q:TR K cls E ρ (g2 ga gb h ρ) σ H Q):Ww (rD K h) (TB K cls E ρ (ga ρ)) (TB K cls E ρ (gb ρ)) σ H Q:=by
 obtain ⟨P,M,la,Hs,f,q⟩:=q;refine one f q λx v O p z l t A=>?_;unfold g2 at q;rw [z,bind_ok] at q;refine one t (q.on l (q':=λ_=>True) λ_ _=>trivial) λy u S k N m o G=>?_;rw [N,bind_ok] at q;cases i:h x y with
 |ok d =>
  rw [i] at q;exact ⟨k,x,y,o.st.sub,A.step m,G,d,i,λw s j B I=>q w s j (l.trans (m.trans B)) I⟩
 |ex c n=>exact (L x y c n i).elim
 |no=>rw [i] at q;exact q.elim
def cg (ho:wG c.X (gO op) h) (d:JB c a ga) (f:JB c b gb):JE c (.BinOp a op b pos) (g2 ga gb h):=.of λρ=>qH (T1 ho.1 (d ρ) (f ρ)) λσ H Q q=>two ho.2 q
def kH (ho:wG c.X (bI op) h) (f:JB c a ga) (i:JB c b gb) (d:ij op b=false:=by first|exact MU _|rfl):JE c (.Compare a [op] [b] pos) (g2 ga gb h):=.of λρ=>qH (R0 ho.1 (f ρ) (i ρ) d) λσ H Q q=>two ho.2 q
def fJ (g:aC->R D):aC->R Bool:=λρ=>(g ρ).bind λd=>match d with
 |.bool b=>.ok b
 |_=>.no
def WV (q:E5 K cls E ρ (fJ g ρ) σ H Q):TR K cls E ρ (g ρ) σ H λx H'=>∃ k,x=.bl k/\Q k H':=by
 obtain ⟨p,n,la,Hs,f,q⟩:=q;refine wF f q λd v j h l i o m=>?_;unfold fJ at q;rw [l,bind_ok] at q;cases m with
 |bool b=>exact ⟨b,rfl,q j h i⟩
 |_=>exact q.elim
def e8 (ho:wG c.X (bI op) h) (f:JB c a ga) (i:JB c b gb) (d:ij op b=false:=by first|exact MU _|rfl):JT c (.Compare a [op] [b] pos) (fJ (g2 ga gb h)):=.of λρ=>WU (R1 ho.1 (f ρ) (i ρ) d) λσ H Q q=>two ho.2 (WV q)
def fo (h:JE c e g) (he:∀ whole,ml e c.X.env whole=(do let v <- whole;ku e.pos;Ap [v] (truthy v)):=by intro _;rfl):JT c e (fJ g):=.of λρ=>WU (Uv (h ρ) he) λσ H Q q=>WV q
def lK (g:aC->R Bool):aC->R Bool:=λρ=>(g ρ).bind λb=>.ok (!b)
def vt (g h:aC->R Bool):aC->R Bool:=λρ=>(g ρ).bind λb=>if b then h ρ else .ok false
def Gs (g h:aC->R Bool):aC->R Bool:=λρ=>(g ρ).bind λb=>if b then .ok true else h ρ
variable {gt gu:aC->R Bool}{bS:List bp}
def gT (h:JT c e gt):JT c (.UnaryOp .Not e pos) (lK gt):=.of λρ=>WU (Uy (h ρ)) λσ H Q q=>by
 obtain ⟨o,m,la,Hs,f,q⟩:=q;refine KZ f q λd k i l j n=>?_;unfold lK at q;rw [l,bind_ok] at q;exact q k i j
def pA (h:JT c a gt):JW c (.BoolOp .And [a] pos) gt:=.of λρ=>QW (h ρ)
def mw (h:JT c a gt):JW c (.BoolOp .Or [a] pos) gt:=.of λρ=>Uw (h ρ)
def uc (h:JT c a gt) (v:JW c (.BoolOp .And (b::bS) pos) gu):JW c (.BoolOp .And (a::b::bS) pos) (vt gt gu):=.of λρ=>ZV (Ux (h ρ) (v ρ)) λσ H Q q=>by
 obtain ⟨o,m,la,Hs,f,q⟩:=q;refine KZ f q λd n i t j p=>?_;unfold vt at q;rw [t,bind_ok] at q;cases d with
 |true=>exact xT ⟨o,m,la,i,p,q.on j λb k s l u=>k s l (j.trans u)⟩
 |false=>exact xS (q n i j)
def q_ (h:JT c a gt) (v:JW c (.BoolOp .Or (b::bS) pos) gu):JW c (.BoolOp .Or (a::b::bS) pos) (Gs gt gu):=.of λρ=>ZV (Wn (h ρ) (v ρ)) λσ H Q q=>by
 obtain ⟨o,m,la,Hs,f,q⟩:=q;refine KZ f q λd n i t j p=>?_;unfold Gs at q;rw [t,bind_ok] at q;cases d with
 |false=>exact xS ⟨o,m,la,i,p,q.on j λb k s l u=>k s l (j.trans u)⟩
 |true=>exact xT (q n i j)
def JW.t (h:JW c e gt):JT c e gt:=.of λρ=>(h ρ).pt
def ED (g:aC->R D):aC->R D:=λρ=>(fJ g ρ).bind λb=>.ok (.bool (!b))
def Nz (h:JE c e g):JE c (.UnaryOp .Not e pos) (ED g):=.of λρ=>qH (UB (h ρ)) λσ H Q q=>by
 refine WV ?_;obtain ⟨o,m,la,Hs,f,q⟩:=q;refine KZ f q λd k i l j n=>?_;unfold ED at q;rw [l,bind_ok] at q;exact q _ k i j (.bool _)
def r6 (g h:aC->R D):aC->R D:=λρ=>(fJ g ρ).bind λb=>if b then h ρ else .ok (.bool false)
def wH (h:JE c a g):JE c (.BoolOp op [a] pos) g:=.of λρ=>Uz (h ρ)
def ud (h:JE c a ga) (w:JE c (.BoolOp .And (b::bS) pos) gb):JE c (.BoolOp .And (a::b::bS) pos) (r6 ga gb):=.of λρ=>qH (UA (h ρ) (w ρ)) λσ H Q q=>by
 refine WV ?_;obtain ⟨o,m,la,Hs,f,q⟩:=q;refine KZ f q λd n i t j p=>?_;unfold r6 at q;rw [t,bind_ok] at q;cases d with
 |true=>exact xT ⟨o,m,la,i,p,q.on j λb k v s l u x=>k v s l (j.trans u) x⟩
 |false=>exact xS (q _ n i j (.bool _))
def WW (t:aC->R Bool) (g h:aC->R D):aC->R D:=λρ=>(t ρ).bind λb=>if b then g ρ else h ρ
def To (u:JT c t gt) (w:JE c a ga) (x:JE c b gb):JE c (.IfExp t a b pos) (WW gt ga gb):=.of λρ=>qH (MM (u ρ) (w ρ) (x ρ)) λσ H Q q=>by
 obtain ⟨p,j,la,Hs,f,q⟩:=q;refine KZ f q λd z i y l s=>?_;unfold WW at q;rw [y,bind_ok] at q;cases d with
 |true=>exact xT ⟨p,j,la,i,s,q.on l λb k v m h n o=>k v m h (l.trans n) o⟩
 |false=>exact xS ⟨p,j,la,i,s,q.on l λb k v m h n o=>k v m h (l.trans n) o⟩
def r9 (ga gb d:aC->R D) (h h':D->D->R D):aC->R D:=λρ=>(ga ρ).bind λx=>(gb ρ).bind λy=>(h x y).bind λz=>match z with
 |.bool true=>(d ρ).bind λw=>h' y w
 |.bool false=>.ok (.bool false)
 |_=>.no
def ah (g:aC->R D) (f:aC->R (List D)):aC->R (List D):=λρ=>(g ρ).bind λd=>(f ρ).bind λds=>.ok (d::ds)
def aP:aC->R (List D):=λ_=>.ok []
def aU:KY c [] aP:=.of λρ=>Vb jx λσ H Q d=>by obtain ⟨i,h,la,Hs,f,q⟩:=d;exact q [] H Hs (.refl f.st.sub) .nil
def cj:Rr c [] aP:=.of λρ=>Vb jx λσ H Q d=>by obtain ⟨i,h,la,Hs,f,q⟩:=d;exact q [] H Hs (.refl f.st.sub) .nil
def aj (h:JE c e g) (m:KY c es gs) (hs:aH (e::es) c.X.env=(false,dn e c.X.env)::aH es c.X.env:=by rfl):KY c (e::es) (ah g gs):=.of λρ=>Vb (hU (h ρ) (m ρ) hs) λσ H Q i=>by
 obtain ⟨z,w,la,Hs,f,q⟩:=i;refine wF f q λd v y n s k o t=>?_;unfold ah at q;rw [s,bind_ok] at q;refine Hi o (q.on k (q':=λ_=>True) λ_ _=>trivial) λds B p j x l A u=>?_;rw [x,bind_ok] at q;exact q _ p j (k.trans l) (.cons (t.same l.sh) u)
def bG (h:JB c e g) (m:Rr c es gs) (hs:aH (e::es) c.X.env=(false,dn e c.X.env)::aH es c.X.env:=by rfl):Rr c (e::es) (ah g gs):=.of λρ=>Vb (hU (h ρ) (m ρ) hs) λσ H Q i=>by
 obtain ⟨z,w,la,Hs,f,q⟩:=i;refine one f q λd v y n s k o t=>?_;unfold ah at q;rw [s,bind_ok] at q;refine Ny o (q.on k (q':=λ_=>True) λ_ _=>trivial) λds B p j x l A u=>?_;rw [x,bind_ok] at q;exact q _ p j (k.trans l) (.cons (t.step l) u)
def g6 (d:aC->R (List D)) (k:List D->D):aC->R D:=λρ=>(d ρ).bind λds=>if ds.length<=1000 then .ok (k ds) else .no
def o6 {x1} (h:KY c es gs):JE c (.Tuple es x1 pos) (g6 gs .tuple):=.of λρ=>qH (UT (h ρ)) λσ H Q d=>by
 obtain ⟨u,s,la,Hs,f,q⟩:=d;refine Hi f q λds v t n o m j k=>?_;unfold g6 at q;rw [o,bind_ok] at q;by_cases i:ds.length<=1000
 ·rw [if_pos i] at q;refine ⟨cw (eg (by rw [k.length];exact i)),λp l=>q _ _ _ (m.trans (.new j.st.sub l)) (.tuple bi (k.same (cP.new j.st.sub l).sh))⟩
 ·rw [if_neg i] at q;exact q.elim
def lL (h:KY c es gs):JE c (.List es pos) (g6 gs .list):=.of λρ=>qH (u6 (h ρ)) λσ H Q d=>by
 obtain ⟨u,s,la,Hs,f,q⟩:=d;refine Hi f q λds v t n o m j k=>?_;unfold g6 at q;rw [o,bind_ok] at q;by_cases i:ds.length<=1000
 ·rw [if_pos i] at q;refine ⟨cw (eg (by rw [k.length];exact i)),λp l=>q _ _ _ (m.trans (.new j.st.sub l)) (.list (.of bi) (k.same (cP.new j.st.sub l).sh))⟩
 ·rw [if_neg i] at q;exact q.elim
end
end J
namespace J
open PySem PySem.Spec PyProof.Rows L2
def eJ:D->D->R D
 |.int i,.int j=>.ok (.int (i+j))
 |.str x,.str y=>if x.length+y.length<=1000 then .ok (.str (x++y)) else .no
 |.tuple xs,.tuple ys=>if xs.length+ys.length<=1000 then .ok (.tuple (xs++ys)) else .no
 |.list xs,.list ys=>if xs.length+ys.length<=1000 then .ok (.list (xs++ys)) else .no
 |_,_=>.no
inductive NA (K:aa) (x:V) (y:V) (H:Hp) (Q:VK):Prop
 |mk (l b xs zs:_) (h0:x=.ref l) (h1:y=.ref b) (h2:nZ K H l xs) (h3:nZ K H b zs) (h4:xs.length+zs.length<=sizeLine) (h5:∀ p,H p=none->Q (.ref p) (upd H p (.lst (xs++zs)))):NA K x y H Q
def WX (K:aa):R2:=NA K
def Rs:qG X (gO .Add) (WX X.K):=by
 intro pins s σ H x y v u Q I w M h;obtain ⟨l,b,xs,T,rfl,rfl,t,O,E,q⟩:=h;cases w;cases M;obtain ⟨c,r,⟨o,n,e,k,g,f⟩,z⟩:=I.list t;obtain ⟨a,m,⟨A,L,p,d,i,j⟩,z2⟩:=I.list O;obtain ⟨U,S,k3,G⟩:=o;obtain ⟨m1,Y,P,N⟩:=A;simp only at k g f d i j;subst k g f d i j;refine At ⟨_,e,rfl⟩ ⟨_,p,rfl⟩ noFill_list_add seq_list_add PySem.F.slot_list_add PySem.F.entry_list_add (PySem.F.args_list_add_2 _ _) (PyProof.Rows.list_addW l b _ _ n L _ _ G N (by rw [aR,aR,<- r.length,<- m.length];exact E)) ⟨e,p,?_⟩;have B:c.toArray++a.toArray=(c++a).toArray:=by simp
 rw [B];exact ⟨.ref _,_,I.lnew (t':=s.toks) (r.append m) (by rw [aJ];omega),rfl,q _ I.fresh⟩
inductive NB (K:aa) (x:V) (y:V) (H:Hp) (Q:VK):Prop
 |mk (a b ys:_) (h0:x=.ref a) (h1:y=.ref b) (h2:l5 K H a []) (h3:l5 K H b ys) (h4:Q (.ref b) H):NB K x y H Q
def WY (K:aa):R2:=NB K
def Rt:qG X (gO .Add) (WY X.K):=by
 intro pins s σ H x y v u Q I l t h;obtain ⟨a,b,ys,rfl,rfl,k,A,q⟩:=h;cases l;cases t;obtain ⟨o,r,⟨⟨G,E,O,m⟩,e,i,n,d⟩,z⟩:=I.tuple k;obtain ⟨f,N,⟨⟨P,L,B,w⟩,j,c,p,g⟩,M⟩:=I.tuple A;simp only at i d c g;subst i d c g;cases r;exact At ⟨_,e,rfl⟩ ⟨_,j,rfl⟩ Cj Kg pf oG (nQ _ _)
  (PyProof.Rows.tuple_addW0 a b _ _ n p _ _ m w rfl) ⟨e,j,⟨.ref b,H,I,rfl,q⟩⟩
def dh:wG X (gO .Add) eJ:=by
 refine ⟨λpins s σ H x y v u Q I w z ⟨Hs,L,G,sub,g,k,d,f,q⟩=>?_,λx y c n=>?_⟩
 ·unfold eJ at f;split at f
  ·cases f;exact UN pins s σ H x y v u Q I w z ⟨_,_,g.int,k.int,q _ H Hs (.refl sub) (.int _)⟩
  ·split at f
   ·rename_i t
    cases f;exact GV pins s σ H x y v u Q I w z ⟨_,_,g.str,k.str,cw (eg t),q _ H Hs (.refl sub) (.str _)⟩
   ·cases f
  ·split at f
   ·rename_i xs ys t
    cases f;obtain ⟨a,o,rfl,B,m,_⟩:=g.tuple sub;obtain ⟨b,j,rfl,E,l,_⟩:=k.tuple sub;have i:o.length+j.length<=sizeLine:=by rw [m.length,l.length];exact cw (eg t)
    have big:∀ p,H p=none->Q (.ref p) (upd H p (.tup (o++j))):=λp A=>q _ _ _ (.new sub A) (.tuple bi ((m.append l).same (cP.new sub A).sh));cases o with
    |nil =>
     cases m;refine Rt pins s σ H _ _ v u Q I w z ⟨a,b,j,rfl,rfl,B,E,?_⟩;rcases k with k|⟨_,_,_,_,_,ow⟩
     ·exact q _ H Hs (.refl sub) (by simpa using k)
     ·cases ow
    |cons M K =>
     refine Rb pins s σ H _ _ v u Q I w z ⟨a,b,_,j,rfl,rfl,B,E,by simp,i,λe=>?_,λ_=>big⟩;subst e;cases l;rcases g with g|⟨_,_,_,_,_,ow⟩
     ·exact q _ H Hs (.refl sub) (by simpa using g)
     ·cases ow
   ·cases f
  ·split at f
   ·rename_i xs ys t
    cases f;obtain ⟨a,o,rfl,B,m⟩:=g.list sub;obtain ⟨b,j,rfl,E,l⟩:=k.list sub;have i:o.length+j.length<=sizeLine:=by rw [m.length,l.length];exact cw (eg t)
    exact Rs pins s σ H _ _ v u Q I w z ⟨a,b,o,j,rfl,rfl,B,E,i,λp A=>q _ _ _ (.new sub A) (.list (.of bi) ((m.append l).same (cP.new sub A).sh))⟩
   ·cases f
  ·cases f
 ·unfold eJ;split<;>(try split)<;>exact λh=>by cases h
def Hj (C:Int->Int->Bool) (k:Int->Int->D):D->D->R D
 |.int i,.int j=>if C i j then .ok (k i j) else .no
 |_,_=>.no
def Hk {f:af->af->Sem af}{C:Int->Int->Bool}{P:Int->Int->Prop}{k:Int->Int->D}{b:Int->Int->V} (h:qG X f (rI P b)) (p:∀ i j,C i j=true->P i j) (t:∀ Hs i j,RD X.K Hs (b i j) (k i j)):wG X f (Hj C k):=by
 refine ⟨λpins s σ H x y v u Q I m o ⟨Hs,z,w,sub,e,l,d,a,q⟩=>?_,λx y c n=>?_⟩
 ·unfold Hj at a;split at a
  ·split at a
   ·rename_i g
    cases a;exact h pins s σ H x y v u Q I m o ⟨_,_,e.int,l.int,p _ _ g,q _ H Hs (.refl sub) (t _ _ _)⟩
   ·cases a
  ·cases a
 ·unfold Hj;split<;>(try split)<;>exact λh=>by cases h
def Bv (i j:Int):Bool:=(decide (-(2 ^ 64)<i)&&decide (i<2 ^ 64))||(decide (-(2 ^ 64)<j)&&decide (j<2 ^ 64))
def xW:=Hj Bv λi j=>.int (i*j)
def K_:=Hj (λ_ j=>decide (0<j)) λi j=>.int (i % j)
def NC:=Hj (λ_ j=>decide (0<j)&&decide (j<1073741824)) λi j=>.int (i / j)
def rc:wG X (gO .Mult) xW:=Hk UO (λi j h=>by
 unfold Bv at h;simp only [jM,aV,decide_eq_true_eq] at h;exact h) λ_ _ _=>.int _
def CU:wG X (gO .Mod) K_:=Hk UP (λi j h=>of_decide_eq_true h) λ_ _ _=>.int _
def Ru:wG X (gO .FloorDiv) NC:=Hk QZ (λi j h=>by
 simp only [aV,decide_eq_true_eq] at h;exact h) λ_ _ _=>.int _
def qA (a:Bool) (x y:D):R D:=if x.canLay0&&y.canLay0&&decide (min x.depth y.depth<=60) then .ok (.bool (if a then !b9 x y else b9 x y)) else .no
mutual
theorem CV:∀ d:D,d.canLay0=true->n5 d=true
 |.none,_=>rfl
 |.bool _,_=>rfl
 |.int _,_=>rfl
 |.str _,_=>rfl
 |.list xs,h=>by
  simp only [kh] at h;simp only [n5];exact lays_noD xs h
 |.tuple xs,h=>by
  simp only [kh] at h;simp only [n5];exact lays_noD xs h
 |.dict _,h=>by simp [kh] at h
theorem lays_noD:∀ d:List D,iL d=true->noDs d=true
 |[],_=>rfl
 |x::r,h=>by
  simp only [iL,aV] at h;simp only [noDs,aV];exact ⟨CV x h.1,lays_noD r h.2⟩
end
def ND (h:qG X f (V8 X.K neg)):wG X f (qA neg):=by
 refine ⟨λpins s σ H x y v u Q I k l ⟨Hs,i,e,sub,g,j,d,b,q⟩=>?_,λx y c n=>?_⟩
 ·unfold qA at b;split at b
  ·rename_i a
   simp only [aV,decide_eq_true_eq] at a;cases b;exact h pins s σ H x y v u Q I k l ⟨i,e,(g.full sub).rep (CV _ a.1.1),(j.full sub).rep (CV _ a.1.2),a.1.1,a.1.2,a.2,q _ H Hs (.refl sub) (.bool _)⟩
  ·cases b
 ·unfold qA;split<;>exact λh=>by cases h
def vv (a:X.A.units+64<gC):wG X (bI .Eq) (qA false):=ND (V9 a)
def Bw (a:X.A.units+64<gC):wG X (bI .NotEq) (qA true):=ND (Va a)
def L0 (k:Int->Int->Bool) (t:Str->Str->Bool):D->D->R D
 |.int i,.int j=>.ok (.bool (k i j))
 |.str x,.str y=>.ok (.bool (t x y))
 |_,_=>.no
def NE (m:qG X f (UJ λi j=>.bl (k i j))) (o:qG X f (λx y H Q=>∃ i j,x=.str i/\y=.str j/\Q (.bl (t i j)) H)):wG X f (L0 k t):=by
 refine ⟨λpins s σ H x y v u Q I g l ⟨Hs,w,p,sub,b,e,d,a,q⟩=>?_,λx y c n=>?_⟩
 ·unfold L0 at a;split at a
  ·cases a;exact m pins s σ H x y v u Q I g l ⟨_,_,b.int,e.int,q _ H Hs (.refl sub) (.bool _)⟩
  ·cases a;exact o pins s σ H x y v u Q I g l ⟨_,_,b.str,e.str,q _ H Hs (.refl sub) (.bool _)⟩
  ·cases a
 ·unfold L0;split<;>exact λh=>by cases h
def AM:=L0 (λi j=>decide (i<j)) qq
def Qq:=L0 (λi j=>decide (i<=j)) λx y=>!qq y x
def Rv:D->D->R D
 |.int i,.int j=>.ok (.bool (decide (j<i)))
 |_,_=>.no
def yT:wG X (bI .Lt) AM:=NE Wz KA
def yU:wG X (bI .LtE) Qq:=NE WA KR
def NF:wG X (bI .Gt) Rv:=by
 refine ⟨λpins s σ H x y v u Q I f g ⟨Hs,j,i,sub,b,e,d,a,q⟩=>?_,λx y c n=>?_⟩
 ·unfold Rv at a;split at a
  ·cases a;exact WB pins s σ H x y v u Q I f g ⟨_,_,b.int,e.int,q _ H Hs (.refl sub) (.bool _)⟩
  ·cases a
 ·unfold Rv;split<;>exact λh=>by cases h
def Hl:D->Bool
 |.none=>true
 |_=>false
def CW (a:Bool):D->D->R D
 |x,.none=>.ok (.bool (if a then !Hl x else Hl x))
 |_,_=>.no
def IU {K:aa}{H Hs:Hp}{v:V}{d:D} (h:RB K H Hs v d):decide (v=.non)=Hl d:=by
 rcases h with h|⟨a,o,rfl,_,_,h⟩
 ·cases h<;>rfl
 ·cases h<;>rfl
def Tp:wG X (bI .Is) (CW false):=by
 refine ⟨λpins s σ H x y v u Q I f g ⟨Hs,j,i,sub,b,e,d,a,q⟩=>?_,λx y c n=>?_⟩
 ·unfold CW at a;split at a
  ·cases a;exact UQ pins s σ H x y v u Q I f g ⟨e.non,by rw [IU b];exact q _ H Hs (.refl sub) (.bool _)⟩
  ·cases a
 ·unfold CW;split<;>exact λh=>by cases h
def EE:wG X (bI .IsNot) (CW true):=by
 refine ⟨λpins s σ H x y v u Q I f g ⟨Hs,j,i,sub,b,e,d,a,q⟩=>?_,λx y c n=>?_⟩
 ·unfold CW at a;split at a
  ·cases a;exact Q_ pins s σ H x y v u Q I f g ⟨e.non,by rw [IU b];exact q _ H Hs (.refl sub) (.bool _)⟩
  ·cases a
 ·unfold CW;split<;>exact λh=>by cases h
def lP:D->Bool
 |.none=>true
 |.bool _=>true
 |.int _=>true
 |.str _=>true
 |_=>false
def CY (a:Bool):D->D->R D
 |x,.list ys=>if lP x&&ys.all lP then .ok (.bool (if a then !(ys.any λy=>b9 y x) else ys.any λy=>b9 y x)) else .no
 |x,.tuple ys=>if lP x&&ys.all lP then .ok (.bool (if a then !(ys.any λy=>b9 y x) else ys.any λy=>b9 y x)) else .no
 |_,_=>.no
def IV {K:aa}{H:Hp}{v:V}{d:D} (h:RD K H v d) (f:lP d=true):qW v=true:=by
 cases h<;>first|rfl|cases f
def EF {K:aa}{H Hs:Hp}{v:V}{d:D} (h:RB K H Hs v d) (f:lP d=true):qW v=true:=by
 rcases h with h|⟨a,o,rfl,_,_,h⟩
 ·exact IV h f
 ·cases h<;>cases f
def EG {K:aa}{H:Hp}{a:List V}:∀ {ds:List D},RDs K H a ds->ds.all lP=true->a.all qW=true:=by
 induction a with
 |nil=>intro ds _ _;rfl
 |cons x r b =>
  intro ds h f;cases h with
  |cons h t =>
   rw [oZ,aV] at f ⊢;exact ⟨IV h f.1,b t f.2⟩
def Vc {K:aa}{H k Hs:Hp}{v u:V}{d e:D} (h:RD K H v d) (j:RB K k Hs u e) (f:lP d=true) (g:lP e=true):Rf v u=b9 d e:=by
 have c:RD K Hs u e:=by
  rcases j with j|⟨a,o,rfl,_,_,j⟩
  ·exact j
  ·cases j<;>cases g
 cases h with
 |list _ _=>cases f
 |tuple _ _=>cases f
 |dictK _ _=>cases f
 |dictT _ _ _=>cases f
 |dictF _ _ _=>cases f
 |none=>cases c<;>first|rfl|cases g
 |bool b=>cases c<;>first|rfl|cases g
 |int i=>cases c<;>first|rfl|cases g
 |str x=>cases c<;>first|rfl|cases g
def Hm {K:aa}{H d Hs:Hp}{u:V}{e:D} (a:RB K d Hs u e) (b:lP e=true):∀ {c:List V}{ds:List D},RDs K H c ds->ds.all lP=true->Yp u c=ds.any λy=>b9 y e
 |_,_,.nil,_=>rfl
 |_,_,.cons h t,f=>by
  rw [oZ,aV] at f;have:=Hm a b t f.2;unfold Yp at this ⊢;rw [eS,eS,this,Vc h a f.1 b]
def NG (h:qG X f (Z6 X.K neg)):wG X f (CY neg):=by
 refine ⟨λpins s σ H x y v u Q I m o ⟨Hs,t,p,sub,i,l,d,e,q⟩=>?_,λx y c n=>?_⟩
 ·unfold CY at e;split at e
  ·split at e
   ·rename_i a
    simp only [aV] at a;cases e;obtain ⟨b,k,rfl,j,g⟩:=l.list sub;refine h pins s σ H _ _ v u Q I m o ⟨b,k,rfl,.inl j,EF i a.1,EG g a.2,?_⟩;rw [Hm i a.1 g a.2];exact q _ H Hs (.refl sub) (.bool _)
   ·cases e
  ·split at e
   ·rename_i a
    simp only [aV] at a;cases e;obtain ⟨b,k,rfl,j,g,_⟩:=l.tuple sub;refine h pins s σ H _ _ v u Q I m o ⟨b,k,rfl,.inr j,EF i a.1,EG g a.2,?_⟩;rw [Hm i a.1 g a.2];exact q _ H Hs (.refl sub) (.bool _)
   ·cases e
  ·cases e
 ·unfold CY;split<;>(try split)<;>exact λh=>by cases h
def Bx:wG X (bI .In) (CY false):=NG KF
def yV:wG X (bI .NotIn) (CY true):=NG CD
end J
namespace J
open PySem L2
section
variable {c:C}{e a b:bp}{g ga gb:aC->R D}{pos:Pos}
def Ho:D->D->R D
 |.list xs,.int i=>match Gq xs i with
  |some d=>.ok d
  |none=>.no
 |.tuple xs,.int i=>match Gq xs i with
  |some d=>.ok d
  |none=>.no
 |.str x,.int i=>if x.length<=1000 then (match Gq x.cps.toList i with
  |some k=>.ok (.str ⟨#[k]⟩)
  |none=>.no) else .no
 |_,_=>.no
def IW (h:RDs K H vs ds) (e:Gq ds i=some d):∃ v,Gq vs i=some v/\RD K H v d:=by
 unfold Gq at e ⊢;rw [h.length];cases f:UY ds.length i with
 |none=>rw [f] at e;cases e
 |some j =>
  rw [f] at e;exact h.get' e
def Zk:WH X (rD X.K Ho):=by
 intro n A pins s σ H x y v u Q I t z h;obtain ⟨Hs,M,L,sub,l,o,d,f,q⟩:=h;unfold Ho at f;split at f
 ·split at f
  ·rename_i d' he
   cases f;obtain ⟨p,E,rfl,j,B⟩:=l.list sub;obtain ⟨w,m,i⟩:=IW B he;exact rW n A pins s σ H _ _ v u Q I t z ⟨p,E,_,w,rfl,o.int,j,m,q _ H Hs (.refl sub) i⟩
  ·cases f
 ·split at f
  ·rename_i d' he
   cases f;obtain ⟨p,E,rfl,j,B,_⟩:=l.tuple sub;obtain ⟨w,m,i⟩:=IW B he;exact UZ n A pins s σ H _ _ v u Q I t z ⟨p,E,_,w,rfl,o.int,j,m,q _ H Hs (.refl sub) i⟩
  ·cases f
 ·split at f
  ·rename_i G
   split at f
   ·rename_i k he
    cases f;exact U_ n A pins s σ H _ _ v u Q I t z ⟨_,_,k,l.str,o.int,cw (eg G),he,q _ H Hs (.refl sub) (.str _)⟩
   ·cases f
  ·cases f
 ·cases f
def Vd (x y:D) (c:Str) (n:Option D):Ho x y≠.ex c n:=by
 unfold Ho;split<;>(try split)<;>(try split)<;>exact λh=>by cases h
def WZ (d:JB c a ga) (f:JB c b gb) (hs:v7 b:=by exact λ_ _=>rfl):JE c (.Subscript a b pos) (g2 ga gb Ho):=.of λρ=>qH (T6 Zk (d ρ) (f ρ) hs) λσ H Q q=>two Vd q
def AN (ds:List D) (lo d:Option Int):List D:=(ds.drop (HT.jd ds.length 0 lo)).take (HT.jd ds.length ds.length d-HT.jd ds.length 0 lo)
def IX (h:RDs K H vs ds) (lo d:Option Int):RDs K H (Ej vs lo d) (AN ds lo d):=by
 unfold Ej AN;rw [h.length];exact (h.drop _).take _
def IY:D->Option Int->Option Int->R D
 |.list xs,lo,d=>.ok (.list (AN xs lo d))
 |.tuple xs,lo,d=>.ok (.tuple (AN xs lo d))
 |_,_,_=>.no
inductive Tq (K:aa) (x:V) (lo:Option Int) (hi:Option Int) (H:Hp) (Q:VK):Prop
 |mk (Hs dx:_) (h0:du Hs H) (h1:RB K H Hs x dx) (h2:∃ d,IY dx lo hi=.ok d/\∀ v H' Hs',cP H Hs H' Hs'->RD K Hs' v d->Q v H'):Tq K x lo hi H Q
def Zl (K:aa):V->Option Int->Option Int->Hp->VK->Prop:=Tq K
def Zm {X:Cx}:WF X (Zl X.K):=by
 intro pins s σ H x v w y lo i z Q I u hs pl A h;obtain ⟨Hs,B,sub,m,d,k,q⟩:=h;unfold IY at k;split at k
 ·cases k;obtain ⟨p,f,rfl,o,n⟩:=m.list sub;exact Re pins s σ H _ v w y lo i z Q I u hs pl A ⟨p,f,rfl,o,λl j=>q _ _ _ (.new sub j) (.list (.of bi) ((IX n lo i).same (cP.new sub j).sh))⟩
 ·cases k;obtain ⟨p,f,rfl,o,n,_⟩:=m.tuple sub;by_cases t:HT.jd f.length 0 lo=0/\HT.jd f.length f.length i=f.length
  ·refine Rq pins s σ H _ v w y lo i z Q I u hs pl A ⟨p,f,rfl,o,t,?_⟩;rcases m with m|⟨_,_,_,_,_,ow⟩
   ·refine q _ H Hs (.refl sub) ?_;unfold AN;rw [<- n.length,t.1,t.2,n.length];simpa using m
   ·cases ow
  ·exact UX pins s σ H _ v w y lo i z Q I u hs pl A ⟨p,f,rfl,o,t,λl j=>q _ _ _ (.new sub j) (.tuple bi ((IX n lo i).same (cP.new sub j).sh))⟩
 ·cases k
inductive W_ (K:aa) (cls:Str->ao) (E:XK) (ρ:aC) (r:R (Option Int)) (σ:St) (H:Hp) (Q:Option Int->Hp->Prop):Prop
 |mk (H0 Hs0:Hp) (la:Nat->Option ao) (Hs:Hp) (f:Fr K H0 Hs0 la ρ σ H Hs) (q:Fin K cls E H Hs r λd=>∀ H' Hs',cP H Hs H' Hs'->Q d H'):W_ K cls E ρ r σ H Q
def Zn (K:aa) (cls:Str->ao) (E:XK) (ρ:aC) (r:R (Option Int)):TO:=W_ K cls E ρ r
structure JO (c:C) (e:Option bp) (g:aC->R (Option Int)):Prop where of ::
 run:∀ ρ,PO c.X e (Zn c.X.K c.cls c.E ρ (g ρ))
instance {c:C}{e:Option bp}{g:aC->R (Option Int)}:CoeFun (JO c e g) (λ_=>∀ ρ,PO c.X e (Zn c.X.K c.cls c.E ρ (g ρ))):=⟨JO.run⟩
def ZX {X:Cx}{e:Option bp}{t t':TO} (h:PO X e t) (m:∀ σ H Q,t' σ H Q->t σ H Q):PO X e t':=λpins s σ H Q I q=>h pins s σ H Q I (m σ H Q q)
def Wh:aC->R (Option Int):=λ_=>.ok none
def Rw (g:aC->R D):aC->R (Option Int):=λρ=>(g ρ).bind λd=>match d with
 |.int i=>.ok (some i)
 |_=>.no
def yo:JO c none Wh:=.of λρ=>ZX R9 λσ H Q d=>by obtain ⟨i,h,la,Hs,f,q⟩:=d;exact q H Hs (.refl f.st.sub)
def se (h:JE c e g):JO c (some e) (Rw g):=.of λρ=>ZX (Ra (h ρ)) λσ H Q k=>by
 obtain ⟨s,p,la,Hs,f,q⟩:=k;refine wF f q λd v m j n l t o=>?_;unfold Rw at q;rw [n,bind_ok] at q;cases o with
 |int i=>exact ⟨i,rfl,q m j l⟩
 |_=>exact q.elim
def X0 {K:aa}{cls:Str->ao}{E:XK}{ρ:aC}{r:R (Option Int)}{o:Type}{k:Option Int->R o}{σ:St}{H:Hp}{l j Hs:Hp}{la:Nat->Option ao}{Q:Option Int->Hp->Prop}{q:o->Prop} (f:Fr K l j la ρ σ H Hs)
  (h:Fin K cls E H Hs (r.bind k) q) (m:∀ d H' i,r=.ok d->cP H Hs H' i->Fr K l j la ρ σ H' i->Q d H'):Zn K cls E ρ r σ H Q:=by
 refine ⟨l,j,la,Hs,f,?_⟩;cases r with
 |ok d=>exact λH' i s=>m d H' i rfl s (f.step s)
 |ex c n=>exact h
 |no=>exact h
def Tr (g:aC->R D) (d f:aC->R (Option Int)):aC->R D:=λρ=>(g ρ).bind λx=>(d ρ).bind λl=>(f ρ).bind λh=>IY x l h
def re {lo u:Option bp}{s t:aC->R (Option Int)}{A:Pos} (he:JB c e g) (E:JO c lo s) (S:JO c u t):JE c (.Subscript e (.Slice lo u none A) pos) (Tr g s t):=.of λρ=>qH (MZ Zm (he ρ) (E ρ) (S ρ)) λσ H Q j=>by
 obtain ⟨H0,U,la,Hs,f,q⟩:=j;refine one f q λd v Y K P k N T=>?_;unfold Tr at q;rw [P,bind_ok] at q;refine X0 N (q.on k (q':=λ_=>True) λ_ _=>trivial) λl H2 O X p I=>?_;rw [X,bind_ok] at q;refine X0 I (q.on (k.trans p) (q':=λ_=>True) λ_ _=>trivial) λh H3 m B x M=>?_;rw [B,bind_ok] at q;cases i:IY d l h with
 |ok z=>rw [i] at q;exact ⟨m,d,M.st.sub,(T.step p).step x,z,i,λw G o y L=>q w G o (k.trans (p.trans (x.trans y))) L⟩
 |ex c n=>unfold IY at i;split at i<;>cases i
 |no=>rw [i] at q;exact q.elim
inductive ZY (K:aa) (h:List D->R D) (xs:List V) (H:Hp) (Q:VK):Prop
 |mk (Hs ds:_) (h0:du Hs H) (h1:Tn K H Hs xs ds) (h2:∃ d,h ds=.ok d/\∀ v H' Hs',cP H Hs H' Hs'->RD K Hs' v d->Q v H'):ZY K h xs H Q
def rC (K:aa) (h:List D->R D):List V->Hp->VK->Prop:=ZY K h
def Mm (X:Cx) (f:af) (h:List D->R D):Prop:=jU X f (rC X.K h)/\∀ x c n,h x≠.ex c n
def cb (d:aC->R (List D)) (h:List D->R D):aC->R D:=λρ=>(d ρ).bind h
def NH {K:aa}{cls:Str->ao}{E:XK}{h:List D->R D}{l:aC->R (List D)}{ρ:aC}{σ:St}{H:Hp}{Q:VK} (y:∀ x c n,h x≠.ex c n) (q:TR K cls E ρ (cb l h ρ) σ H Q):UV (rC K h) (Yw K cls E ρ (l ρ)) σ H Q:=by
 obtain ⟨B,z,la,Hs,f,q⟩:=q;refine Ny f q λds G A k s m p t=>?_;unfold cb at q;rw [s,bind_ok] at q;cases i:h ds with
 |ok d =>
  rw [i] at q;exact ⟨k,ds,p.st.sub,t,d,i,λw o j u v=>q w o j (m.trans u) v⟩
 |ex c n=>exact (y ds c n i).elim
 |no=>rw [i] at q;exact q.elim
variable {es:List bp}{gs:aC->R (List D)}{x:Str}{p:Pos}{id T:String}{h:List D->R D}
def cc (i:Mm c.X (.builtin id) h) (n:Gl c.X x) (j:c.X.mg x=none) (m:iU x=some (.builtin id)) (k:Rr c (e::es) gs) (l:x≠"__name__":=by decide) (d:(x==("__debug__" : Str))=false:=by decide)
  (he:aH (e::es) c.X.env=(false,dn e c.X.env)::aH es c.X.env:=by rfl) (f:(fX pos (aH es c.X.env)).any (·.1)=false:=by rfl):JE c (.Call (.Name x p) (e::es) [] pos) (cb gs h):=.of λρ=>qH (v5 i.1 n j m (k ρ) l d he f) λσ H Q q=>NH i.2 q
def fU (i:Mm c.X (.type T) h) (n:Gl c.X x) (j:c.X.mg x=none) (m:iU x=some (.type T)) (k:Rr c (e::es) gs) (l:x≠"__name__":=by decide) (d:(x==("__debug__" : Str))=false:=by decide)
  (he:aH (e::es) c.X.env=(false,dn e c.X.env)::aH es c.X.env:=by rfl) (f:(fX pos (aH es c.X.env)).any (·.1)=false:=by rfl):JE c (.Call (.Name x p) (e::es) [] pos) (cb gs h):=.of λρ=>qH (wx i.1 n j m (k ρ) l d he f) λσ H Q q=>NH i.2 q
end
def Tn.one (h:Tn K H Hs xs [d]):∃ x,xs=[x]/\RB K H Hs x d:=by
 cases h with|cons a t=>cases t;exact ⟨_,rfl,a⟩
def i9 (h:D->R D):List D->R D
 |[d]=>h d
 |_=>.no
def ue (k:∀ d c n,h d≠.ex c n)
  (g:∀ pins s σ H x u Q Hs d d',bL X pins σ H s->dR x u->du Hs H->RB X.K H Hs x d->h d=.ok d'->(∀ v H' a,cP H Hs H' a->RD X.K a v d'->Q v H')->au (aA X.prog X.w) X.A (call f [u]) (EP X pins σ Q) X.xe s):Mm X f (i9 h):=by
 refine ⟨λpins s σ H xs l Q I r ⟨Hs,ds,sub,j,d,b,q⟩=>?_,λx c n=>?_⟩
 ·unfold i9 at b;split at b
  ·obtain ⟨x,rfl,e⟩:=j.one;obtain ⟨u,rfl,i⟩:=l9 r;exact g pins s σ H x u Q Hs _ _ I i sub e b q
  ·cases b
 ·unfold i9;split
  ·exact k _ _ _
  ·exact λh=>by cases h
def kq:D->R D
 |.list xs=>.ok (.int xs.length)
 |.tuple xs=>.ok (.int xs.length)
 |.str x=>if x.length<=1000 then .ok (.int x.length) else .no
 |_=>.no
def RDk.length : ∀ {ds:List (D×D)},RDk K H vs ds->vs.length=ds.length:=by
 induction vs with
 |nil=>intro ds h;cases h;rfl
 |cons x r c=>intro ds h;cases h with|cons a b=>exact congrArg (· + 1) (c b)
def RDt.length : ∀ {a:List (List dQ×V)}{ds:List (D×D)},RDt K H a ds->a.length=ds.length
 |_,_,.nil=>rfl
 |_,_,.cons _ t=>by simp [RDt.length t]
def RB.dict (sub:du Hs H) (h:RB K H Hs v (.dict ds)):∃ a,v=.ref a/\((∃ kvs,H a=some (.dK kvs)/\RDk K Hs kvs ds)\/(∃ kvs,H a=some (.dT kvs)/\kvs≠[]/\RDt K Hs kvs ds)\/∃ o kvs es,ds=(.none,.none)::es/\H a=some (.frz o (.dT kvs))/\kvs≠[]/\RDt K Hs kvs es):=by
 rcases h with h|⟨a,o,rfl,h2,h3,h4⟩
 ·cases h with
  |dictK q r=>exact ⟨_,rfl,.inl ⟨_,sub _ _ q,r⟩⟩
  |dictT q n r=>exact ⟨_,rfl,.inr (.inl ⟨_,sub _ _ q,n,r⟩)⟩
  |dictF q n r=>exact ⟨_,rfl,.inr (.inr ⟨_,_,_,rfl,sub _ _ q,n,r⟩)⟩
 ·cases h4 with
  |dK r=>exact ⟨a,rfl,.inl ⟨_,h2,r⟩⟩
  |dT n r=>exact ⟨a,rfl,.inr (.inl ⟨_,h2,n,r⟩)⟩
  |dF n r=>exact ⟨a,rfl,.inr (.inr ⟨_,_,_,rfl,h2,n,r⟩)⟩
def j0:Mm X (.builtin "len") (i9 kq):=by
 refine ue (λd c n=>?_) λpins s σ H x u Q Hs d d' I g sub f b q=>?_
 ·unfold kq;split<;>(try split)<;>exact λh=>by cases h
 ·unfold kq at b;split at b
  ·cases b;obtain ⟨a,j,rfl,e,i⟩:=f.list sub;refine v9 pins s σ H _ _ Q I (.cons g .nil) ⟨a,j,rfl,.inl e,?_⟩;rw [i.length];exact q _ H Hs (.refl sub) (.int _)
  ·cases b;obtain ⟨a,j,rfl,e,i,_⟩:=f.tuple sub;refine v9 pins s σ H _ _ Q I (.cons g .nil) ⟨a,j,rfl,.inr e,?_⟩;rw [i.length];exact q _ H Hs (.refl sub) (.int _)
  ·split at b
   ·rename_i k
    cases b;exact CF pins s σ H _ _ Q I (.cons g .nil) ⟨_,by rw [f.str],cw (eg k),q _ H Hs (.refl sub) (.int _)⟩
   ·cases b
  ·cases b
def EH (T:String) (d:D):Bool:=match T,d with
 | "str",.str _=>true
 | "int",.int _=>true
 | "int",.bool _=>true
 | "bool",.bool _=>true
 | "list",.list _=>true
 | "tuple",.tuple _=>true
 |_,_=>false
def yW (g:aC->R D) (T:String):aC->R D:=λρ=>(g ρ).bind λd=>if n5 d then .ok (.bool (EH T d)) else .no
def Rx (T:String) (a:T="str"\/T="int"\/T="bool"\/T="list"\/T="tuple") (h:n5 d=true):qJ K (.type (Zh d)) (.type T)=some (EH T d):=by
 rcases a with rfl|rfl|rfl|rfl|rfl<;>cases d<;>first|rfl|simp [n5] at h
def rf (h:JB c e g) (i:Gl c.X "isinstance") (t:c.X.mg "isinstance"=none) (m:Gl c.X T) (z:c.X.mg T=none) (A:iU T=some (.type Ts))
  (k:Ts="str"\/Ts="int"\/Ts="bool"\/Ts="list"\/Ts="tuple")
  (w:T≠"__name__":=by decide) (j:(T==("__debug__" : Str))=false:=by decide)
  (he:aH [e,.Name T p2] c.X.env=(false,dn e c.X.env)::aH [.Name T p2] c.X.env:=by rfl) (n:(fX pos (aH [.Name T p2] c.X.env)).any (·.1)=false:=by rfl) :
  JE c (.Call (.Name "isinstance" p) [e,.Name T p2] [] pos) (yW g Ts):=.of λρ=>by
 refine qH (v5 Nv i t PyProof.Rows.boot_isinstance (hU (h ρ) (hU (QV m z A (v:=.ty Ts) rfl w j) jx) he) (by decide) (by decide) he n) λσ H Q b=>?_;obtain ⟨E,B,la,Hs,f,q⟩:=b;refine one f q λd v s l x o u y=>?_;unfold yW at q;rw [x,bind_ok] at q;by_cases a:n5 d=true
 ·rw [if_pos a] at q;exact ⟨v,d,Ts,_,rfl,(y.full u.st.sub).rep a,Rx Ts k a,q _ s l o (.bool _)⟩
 ·rw [if_neg a] at q;exact q.elim
def nw:List D->Option (List Bool)
 |[]=>some []
 |.bool b::r=>(nw r).map (b::·)
 |_::_=>none
def CZ:∀ {bs:List Bool},nw ds=some bs->ds=bs.map cB:=by
 induction ds with
 |nil=>intro bs h;cases h;rfl
 |cons d r c =>
  intro bs h;cases d with
  |bool b =>
   have h:(nw r).map (b::·)=some bs:=h;cases a:nw r with
   |none=>rw [a] at h;cases h
   |some z=>rw [a] at h;cases h;rw [c a];rfl
  |_=>cases h
def f9 (k:List Bool->Bool):D->R D
 |.list ds=>match nw ds with
  |some bs=>.ok (.bool (k bs))
  |none=>.no
 |_=>.no
def EI {id:String}{k:List Bool->Bool} (h:jU X (.builtin id) (λxs H Q=>∃ p,∃ bs:List Bool,xs=[.ref p]/\nZ X.K H p (bs.map V.bl)/\Q (.bl (k bs)) H)):Mm X (.builtin id) (i9 (f9 k)):=by
 refine ue (λd c n=>?_) λpins s σ H x u Q Hs d d' I j sub g b q=>?_
 ·unfold f9;split<;>(try split)<;>exact λh=>by cases h
 ·unfold f9 at b;split at b
  ·split at b
   ·rename_i bs i
    cases b;obtain ⟨a,l,rfl,e,f⟩:=g.list sub;rw [CZ i] at f;rw [AL f] at e;exact h pins s σ H _ _ Q I (.cons j .nil) ⟨a,bs,rfl,e,q _ H Hs (.refl sub) (.bool _)⟩
   ·cases b
  ·cases b
def lM (a:X.calm=true):Mm X (.builtin "all") (i9 (f9 λbs=>bs.all id)):=EI (yN a)
def Hq (a:X.calm=true):Mm X (.builtin "any") (i9 (f9 λbs=>bs.any id)):=EI (yO a)
def o7 (x:Str):List D:=x.cps.toList.map λc=>aF ⟨#[c]⟩
def L3 (x:Str):RDs K H (yR x) (o7 x):=by
 unfold yR o7;induction x.cps.toList with
 |nil=>exact .nil
 |cons a r b=>exact .cons (.str _) b
def iF:D->R D
 |.list xs=>.ok (.tuple xs)
 |.tuple xs=>.ok (.tuple xs)
 |.str x=>if x.cps.size<=1000 then .ok (.tuple (o7 x)) else .no
 |_=>.no
def jv (o:X.calm=true):Mm X (.type "tuple") (i9 iF):=by
 refine ue (λd c n=>?_) λpins s σ H x u Q Hs d d' I i sub e b q=>?_
 ·unfold iF;split<;>(try split)<;>exact λh=>by cases h
 ·unfold iF at b;split at b
  ·cases b;obtain ⟨a,j,rfl,g,k⟩:=e.list sub;exact tN pins s σ H _ _ Q I (.cons i .nil) ⟨a,j,rfl,.inl ⟨g,λl f=>q _ _ _ (.new sub f) (.tuple bi (k.same (cP.new sub f).sh))⟩⟩
  ·cases b;obtain ⟨a,j,rfl,g,k,_⟩:=e.tuple sub;refine tN pins s σ H _ _ Q I (.cons i .nil) ⟨a,j,rfl,.inr ⟨g,?_⟩⟩;rcases e with e|⟨_,_,_,_,_,ow⟩
   ·exact q _ H Hs (.refl sub) e
   ·cases ow
  ·split at b
   ·rename_i m
    cases b;exact xV o pins s σ H _ _ Q I (.cons i .nil) ⟨_,by rw [e.str],cw (eg m),λl f=>q _ _ _ (.new sub f) (.tuple bi (L3 _))⟩
   ·cases b
  ·cases b
def By:D->R D
 |.list xs=>.ok (.list xs)
 |.tuple xs=>.ok (.list xs)
 |_=>.no
def Ry:Mm X (.type "list") (i9 By):=by
 refine ue (λd c n=>?_) λpins s σ H x u Q Hs d d' I k sub j e q=>?_
 ·unfold By;split<;>exact λh=>by cases h
 ·unfold By at e;split at e
  ·cases e;obtain ⟨a,i,rfl,f,g⟩:=j.list sub;exact vc pins s σ H _ _ Q I (.cons k .nil) ⟨a,i,rfl,.inl f,λl b=>q _ _ _ (.new sub b) (.list (.of bi) (g.same (cP.new sub b).sh))⟩
  ·cases e;obtain ⟨a,i,rfl,f,g,_⟩:=j.tuple sub;exact vc pins s σ H _ _ Q I (.cons k .nil) ⟨a,i,rfl,.inr f,λl b=>q _ _ _ (.new sub b) (.list (.of bi) (g.same (cP.new sub b).sh))⟩
  ·cases e
def fc:List D->Option (List Str)
 |[]=>some []
 |.str b::r=>(fc r).map (b::·)
 |_::_=>none
def rg:∀ {bs:List Str},fc ds=some bs->ds=bs.map aF:=by
 induction ds with
 |nil=>intro bs h;cases h;rfl
 |cons d r c =>
  intro bs h;cases d with
  |str b =>
   have h:(fc r).map (b::·)=some bs:=h;cases a:fc r with
   |none=>rw [a] at h;cases h
   |some z=>rw [a] at h;cases h;rw [c a];rfl
  |_=>cases h
@[simp] theorem strsOf_map:∀ bs:List Str,fc (bs.map aF)=some bs
 |[]=>rfl
 |b::r=>by show (fc (r.map aF)).map (b::·)=_;rw [strsOf_map r];rfl
def sf:D->R D
 |.list ds=>match fc ds with
  |some ss=>if ss.length<64 then .ok (.list ((ju ss).map .str)) else .no
  |none=>.no
 |_=>.no
def L4:Mm X (.builtin "sorted") (i9 sf):=by
 refine ue (λd c n=>?_) λpins s σ H x u Q Hs d d' I k sub g b q=>?_
 ·unfold sf;split<;>(try split)<;>(try split)<;>exact λh=>by cases h
 ·unfold sf at b;split at b
  ·split at b
   ·split at b
    ·rename_i ss hs j
     cases b;obtain ⟨a,m,rfl,e,f⟩:=g.list sub;rw [rg hs] at f;rw [pw f] at e;exact wE pins s σ H _ _ Q I (.cons k .nil) ⟨a,ss,rfl,e,j,λl i=>q _ _ _ (.new sub i) (.list (.of bi) (yS _))⟩
    ·cases b
   ·cases b
  ·cases b
inductive X1 (K:aa) (cls:Str->ao) (n:Nat) (F:List D->R D) (vs:List V) (H:Hp) (Q:VK) (E:XK):Prop
 |mk (Hs ds:_) (h0:du Hs H) (h1:ds.length=n) (h2:RDs K Hs vs ds) (h3:Fin K cls E H Hs (F ds) λd=>∀ v H' Hs',cP H Hs H' Hs'->RD K Hs' v d->Q v H'):X1 K cls n F vs H Q E
def Rz (K:aa) (cls:Str->ao) (n:Nat) (F:List D->R D):Sp:=X1 K cls n F
structure Fn (P:a_) (w:bz) (K:aa) (mg:Str->Option af) (base:bD) (cls:Str->ao) (x:Str) (k n:Nat) (F:List D->R D):Prop where
 ex:∃ f fd ps,sZ P w K mg base (Al P w) k f fd ps (Rz K cls n F)/\mg x=some (.ref f)/\fY K (.ref f)=true/\lO K fd ps []
def fO (n:Nat) (F:List D->R D) (a:aC->R (List D)):aC->R D:=λρ=>(a ρ).bind λds=>if ds.length=n then F ds else .no
def RA (G:Fn c.X.prog c.X.w c.X.K c.X.mg c.X.base c.cls x k n F) (o:lc k c.X.A) (P:Gl c.X x) (O:qV (Al c.X.prog c.X.w) c.X c.E) (m:KY c (e::es) gs)
  (b:(x==("__debug__" : Str))=false:=by decide) (he:aH (e::es) c.X.env=(false,dn e c.X.env)::aH es c.X.env:=by rfl) (j:(fX pos (aH es c.X.env)).any (·.1)=false:=by rfl) :
  JE c (.Call (.Name x p) (e::es) [] pos) (fO n F gs):=.of λρ=>by
 obtain ⟨f,Y,ps,s,u,M,t⟩:=G.ex;refine qH (IL (E:=c.E) s o P u M t .nil O (m ρ) b he j) λσ H Q a=>?_;obtain ⟨H0,S,la,Hs,fr,q⟩:=a;refine Hi fr q λds T U g B l y I=>?_;unfold fO at q;rw [B,bind_ok] at q;by_cases h:ds.length=n
 ·rw [if_pos h] at q;show Rz _ _ _ _ (T++[]) _ _ _;rw [bN];exact ⟨g,ds,y.st.sub,h,I,q.on l λd k v z i L N=>k v z i (l.trans L) N⟩
 ·rw [if_neg h] at q;exact q.elim
inductive Fl where
 |nx (ρ:aC)
 |rt (d:D)
 |bk (ρ:aC)
 |ct (ρ:aC)
def oP (K:aa) (cls:Str->ao) (E:XK) (f e:Hp) (la:Nat->Option ao) (D:Cv) (r:R Fl):Prop:=match r with
 |.ok (.nx b)=>∀ σ' H' a,Fr K f e la b σ' H' a->D.nx σ' H'
 |.ok (.bk b)=>∀ σ' H' a,Fr K f e la b σ' H' a->D.bk σ' H'
 |.ok (.ct b)=>∀ σ' H' a,Fr K f e la b σ' H' a->D.ct σ' H'
 |.ok (.rt d)=>∀ v H' a,cP f e H' a->RD K a v d->D.rt v H'
 |.ex c n=>∀ H' a,cP f e H' a->XW K cls E c n H' a
 |.no=>False
inductive ZZ (K:aa) (cls:Str->ao) (E:XK) (ρ:aC) (r:R Fl) (D:Cv) (σ:St) (H:Hp):Prop
 |mk (H0 Hs0:Hp) (la:Nat->Option ao) (Hs:Hp) (f:Fr K H0 Hs0 la ρ σ H Hs) (q:oP K cls E H0 Hs0 la D r):ZZ K cls E ρ r D σ H
def SR (K:aa) (cls:Str->ao) (E:XK) (ρ:aC) (r:R Fl):TS:=ZZ K cls E ρ r
structure JS (c:C) (s:dX) (g:aC->R Fl):Prop where of ::
 run:∀ ρ,PS c.X s (SR c.X.K c.cls c.E ρ (g ρ))
instance {c:C}{s:dX}{g:aC->R Fl}:CoeFun (JS c s g) (λ_=>∀ ρ,PS c.X s (SR c.X.K c.cls c.E ρ (g ρ))):=⟨JS.run⟩
structure IZ (c:C) (s:List dX) (g:aC->R Fl):Prop where of ::
 run:∀ ρ,IH c.X s (SR c.X.K c.cls c.E ρ (g ρ))
instance {c:C}{s:List dX}{g:aC->R Fl}:CoeFun (IZ c s g) (λ_=>∀ ρ,IH c.X s (SR c.X.K c.cls c.E ρ (g ρ))):=⟨IZ.run⟩
def Fr.set (f:Fr K H0 Hs0 la ρ σ H Hs) (i:Nat) (r:RD K Hs v d):Fr K H0 Hs0 la (ρ.set i (.shr d)) (σ.set i (some v)) H Hs:=by
 have u:=f.len;have nx:∀ {j:Nat}{s:Sl},(∀ d,s≠.shr d)->(ρ.set i (.shr d))[j]?=some s->ρ[j]?=some s/\i≠j:=λ{j s} hs e=>by
  by_cases c:i=j
  ·subst c;by_cases l:i<ρ.length
   ·rw [aM l] at e;exact absurd (bY e).symm (hs d)
   ·rw [cV (by simpa using l)] at e;cases e
  ·rw [ar c] at e;exact ⟨e,c⟩
 refine ⟨f.st,by simp [u],λj e h=>?_,λj e h=>?_,λj e h=>?_,λj k n o a g m q t=>?_,f.lh,λj e h=>?_,λj k n o g m=>?_⟩
 ·by_cases c:i=j
  ·subst c;by_cases l:i<ρ.length
   ·rw [aM l] at h;cases h;exact ⟨v,aM (by omega),r⟩
   ·rw [cV (by simpa using l)] at h;cases h
  ·rw [ar c] at h ⊢;exact f.sh j e h
 ·obtain ⟨h,c⟩:=nx (λ_ z=>by cases z) h;rw [ar c];exact f.ow j e h
 ·obtain ⟨h,c⟩:=nx (λ_ z=>by cases z) h;rw [ar c];exact f.lk j e h
 ·obtain ⟨g,w⟩:=nx (λ_ z=>by cases z) g;obtain ⟨m,x⟩:=nx (λ_ z=>by cases z) m;rw [ar w] at q;rw [ar x] at t;exact f.dj j k n o a g m q t
 ·obtain ⟨h,c⟩:=nx (λ_ z=>by cases z) h;obtain ⟨a,B,O⟩:=f.o2 j e h;refine ⟨a,B,by rw [ar c];exact O.at_,O.ob,O.nd,O.out,λb y k A p=>?_,O.inn⟩;obtain ⟨p,E⟩:=nx (λ_ z=>by cases z) p;rw [ar E];exact O.dj b y k A p
 ·exact f.u2 j k n o (nx (λ_ z=>by cases z) g).1 (nx (λ_ z=>by cases z) m).1
def Fr.setO (f:Fr K H0 Hs0 la ρ σ H Hs) (i:Nat) (n:H a=none) (r:n6 K Hs o d):Fr K H0 Hs0 la (ρ.set i (.own d)) (σ.set i (some (.ref a))) (upd H a o) Hs:=by
 have y:=f.step (cP.mine (o:=o) f.st.sub n);have G:=f.len;have M:H0 a=none:=f.st.all.free n;have I:Hs a=none:=f.st.sub.free n;have nx:∀ {j:Nat}{s:Sl},(∀ d,s≠.own d)->(ρ.set i (.own d))[j]?=some s->ρ[j]?=some s/\i≠j:=λ{j s} hs e=>by
  by_cases g:i=j
  ·subst g;by_cases p:i<ρ.length
   ·rw [aM p] at e;exact absurd (bY e).symm (hs d)
   ·rw [cV (by simpa using p)] at e;cases e
  ·rw [ar g] at e;exact ⟨e,g⟩
 have ne:∀ j e,ρ[j]?=some (Sl.own e)->σ[j]?≠some (some (V.ref a)):=λj e h z=>by
  obtain ⟨b,N,m,l,_⟩:=f.ow j e h;rw [z] at m;cases m;rw [n] at l;cases l
 refine ⟨y.st,by simp [G],λj e h=>?_,λj e h=>?_,λj e h=>?_,λj k v x b m l u t=>?_,f.lh,λj e h=>?_,λj k v x m l=>?_⟩
 ·obtain ⟨h,g⟩:=nx (λ_ z=>by cases z) h;rw [ar g];exact y.sh j e h
 ·by_cases g:i=j
  ·subst g;by_cases p:i<ρ.length
   ·rw [aM p] at h;cases h;exact ⟨a,o,aM (by omega),bi,I,M,r⟩
   ·rw [cV (by simpa using p)] at h;cases h
  ·rw [ar g] at h ⊢;exact y.ow j e h
 ·obtain ⟨h,g⟩:=nx (λ_ z=>by cases z) h;rw [ar g];exact y.lk j e h
 ·by_cases g:i=j
  ·by_cases q:i=k
   ·exact g.symm.trans q
   ·rw [ar q] at l t;subst g;by_cases p:i<ρ.length
    ·rw [aM (by omega)] at u;cases u;exact (ne k x l t).elim
    ·rw [cV (by simpa using p)] at m;cases m
  ·rw [ar g] at m u;by_cases q:i=k
   ·subst q;by_cases p:i<ρ.length
    ·rw [aM (by omega)] at t;cases t;exact (ne j v m u).elim
    ·rw [cV (by simpa using p)] at l;cases l
   ·rw [ar q] at l t;exact f.dj j k v x b m l u t
 ·obtain ⟨h,g⟩:=nx (λ_ z=>by cases z) h;obtain ⟨b,B,O⟩:=f.o2 j e h;have A:∀ c∈b::B,c≠a:=λc w z=>by
   subst z;rcases List.mem_cons.mp w with z|z
   ·have:=O.ob;rw [<- z,n] at this;cases this
   ·obtain ⟨o,ho,_⟩:=O.inn.there z;rw [n] at ho;cases ho
  refine ⟨b,B,by rw [ar g];exact O.at_,by rw [bj (A b ak)];exact O.ob,O.nd,O.out,λc w k L q=>?_,O.inn.upd λz=>A a (ag _ z) rfl⟩;by_cases E:i=k
  ·subst E;intro z;by_cases p:i<ρ.length
   ·rw [aM (by omega)] at z;cases z;exact A _ w rfl
   ·rw [cV (by simp;omega)] at q;cases q
  ·rw [ar E] at q ⊢;exact O.dj c w k L q
 ·exact f.u2 j k v x (nx (λ_ z=>by cases z) m).1 (nx (λ_ z=>by cases z) l).1
def Fr.write (f:Fr K H0 Hs0 la ρ σ H Hs) (i:Nat) (m:ρ[i]?=some (Sl.own d)) (hs:σ[i]?=some (some (V.ref a))) (r:n6 K Hs o d'):Fr K H0 Hs0 la (ρ.set i (.own d')) σ (upd H a o) Hs:=by
 obtain ⟨Y,o',l,n,w,q,h5⟩:=f.ow i d m;rw [hs] at l;cases l;have S:=f.len;have p:i<ρ.length:=(List.getElem?_eq_some_iff.mp m).1;have nx:∀ {j:Nat}{s:Sl},(∀ d,s≠.own d)->(ρ.set i (.own d'))[j]?=some s->ρ[j]?=some s/\i≠j:=λ{j s} hs e=>by
  by_cases g:i=j
  ·subst g;rw [aM p] at e;exact absurd (bY e).symm (hs d')
  ·rw [ar g] at e;exact ⟨e,g⟩
 refine ⟨⟨λb u e=>?_,f.st.sh,λb u e=>?_,f.st.out⟩,by simp [S],λj e h=>?_,λj e h=>?_,λj e h=>?_,λj k I M b l n w q=>?_,f.lh,λj e h=>?_,λj k I M l n=>?_⟩
 ·rw [bj (c6 e q)];exact f.st.all b u e
 ·rw [bj (c6 e w)];exact f.st.sub b u e
 ·obtain ⟨h,g⟩:=nx (λ_ z=>by cases z) h;exact f.sh j e h
 ·by_cases g:i=j
  ·subst g;rw [aM p] at h;cases h;exact ⟨a,o,hs,bi,w,q,r⟩
  ·rw [ar g] at h;obtain ⟨b,u,v,A,G,B,y⟩:=f.ow j e h;refine ⟨b,u,v,?_,G,B,y⟩;rw [bj (λz=>g ?_)]
   ·exact A
   ·subst z;exact f.dj i j d e b m h hs v
 ·obtain ⟨h,g⟩:=nx (λ_ z=>by cases z) h;obtain ⟨b,u,v,A,G,B,y,T⟩:=f.lk j e h;refine ⟨b,u,v,A,?_,B,y,T⟩;rw [bj (c6 y q)];exact G
 ·have t:∀ {j:Nat}{e:D},(ρ.set i (.own d'))[j]?=some (Sl.own e)->∃ E,ρ[j]?=some (Sl.own E):=λ{j e} h=>by
   by_cases g:i=j
   ·subst g;exact ⟨d,m⟩
   ·rw [ar g] at h;exact ⟨e,h⟩
  obtain ⟨U,l⟩:=t l;obtain ⟨X,n⟩:=t n;exact f.dj j k U X b l n w q
 ·obtain ⟨h,g⟩:=nx (λ_ z=>by cases z) h;obtain ⟨b,N,O⟩:=f.o2 j e h;have L:∀ c∈b::N,c≠a:=λc x z=>by
   subst z;exact O.dj c x i d m hs
  refine ⟨b,N,O.at_,by rw [bj (L b ak)];exact O.ob,O.nd,O.out,λc x k E P=>?_,O.inn.upd λz=>L a (ag _ z) rfl⟩;by_cases Q:i=k
  ·subst Q;exact O.dj c x i d m
  ·rw [ar Q] at P;exact O.dj c x k E P
 ·exact f.u2 j k I M (nx (λ_ z=>by cases z) l).1 (nx (λ_ z=>by cases z) n).1
def fE (ρ:aC):aC:=ρ.map λs=>match s with
 |.own d=>.shr d
 |.ow2 a=>.shr (.list (a.map .list))
 |s=>s
open Classical in
def Fr.share (f:Fr K H0 Hs0 la ρ σ H Hs):∃ c,Fr K H0 Hs0 la (fE ρ) σ H c/\cP H Hs H c\/Fr K H0 Hs0 la (fE ρ) σ H c:=by
 let P:ao->Prop:=λb=>(∃ (i:Nat) (d:D),ρ[i]?=some (Sl.own d)/\σ[i]?=some (some (V.ref b)))\/∃ (i:Nat) (g:List (List D)) (a:ao) (B:List ao),ρ[i]?=some (Sl.ow2 g)/\O2 K H0 H Hs ρ σ i g a B/\b∈a::B
 let c:Hp:=λb=>if P b then H b else Hs b
 have pos:∀ b,P b->c b=H b:=λb h=>if_pos h;have w:∀ b,¬ P b->c b=Hs b:=λb h=>if_neg h;have E:du Hs c:=λb o e=>by
  by_cases h:P b
  ·rw [pos b h];exact f.st.sub b o e
  ·rw [w b h];exact e
 have l:∀ b o,H0 b=some o->¬ P b:=λb o e hP=>by
  rcases hP with ⟨i,d,A,L⟩|⟨i,g,a,B,A,O,p⟩
  ·obtain ⟨a,o',x,_,_,I,_⟩:=f.ow i d A;rw [L] at x;cases x;rw [e] at I;cases I
  ·have:=(O.out b p).2;rw [e] at this;cases this
 have un:∀ {j:Nat}{s:Sl},(fE ρ)[j]?=some s->(∃ d,s=.shr d/\ρ[j]?=some (Sl.own d))\/(∃ g:List (List D),s=.shr (.list (g.map .list))/\ρ[j]?=some (Sl.ow2 g))\/((∀ d,s≠.own d)/\(∀ d,s≠.ow2 d)/\ρ[j]?=some s):=λ{j s} e=>by
  unfold fE at e;rw [aX] at e;cases h:ρ[j]? with
  |none=>rw [h] at e;cases e
  |some t =>
   rw [h] at e;cases t with
   |own d=>cases e;exact .inl ⟨d,rfl,rfl⟩
   |no=>cases e;exact .inr (.inr ⟨λ_ z=>(by cases z),λ_ z=>(by cases z),rfl⟩)
   |shr d=>cases e;exact .inr (.inr ⟨λ_ z=>(by cases z),λ_ z=>(by cases z),rfl⟩)
   |lck d=>cases e;exact .inr (.inr ⟨λ_ z=>(by cases z),λ_ z=>(by cases z),rfl⟩)
   |ow2 d=>cases e;exact .inr (.inl ⟨d,rfl,rfl⟩)
 refine ⟨c,.inr ⟨⟨f.st.all,f.st.sh.trans E,λb o e=>?_,λa o e t z=>?_⟩,by simp [fE,f.len],λj d h=>?_,λj d h=>?_,λj d h=>?_,λj k Q U a A L _ _=>?_,f.lh,λj d h=>?_,λj k Q U A L=>?_⟩⟩
 ·by_cases h:P b
  ·rw [pos b h] at e;exact e
  ·rw [w b h] at e;exact f.st.sub b o e
 ·rw [w a (l a o e)];exact f.st.out a o e t z
 ·rcases un h with ⟨d',e,h'⟩|⟨g,e,h'⟩|⟨_,_,h'⟩
  ·cases e;obtain ⟨a,o,x,G,S,I,M⟩:=f.ow j d h';refine ⟨_,x,?_⟩;have N:c a=some o:=by rw [pos a (.inl ⟨j,d,h',x⟩)];exact G
   have e:du (upd Hs a o) c:=λb u q=>by
    by_cases p:b=a
    ·subst p;rw [bi] at q;cases q;exact N
    ·rw [bj p] at q;exact E b u q
   exact (M.share S).same e
  ·cases e;obtain ⟨a,B,O⟩:=f.o2 j g h';refine ⟨_,O.at_,?_⟩;have N:∀ b∈a::B,∀ o,H b=some o->c b=some o:=λb p o ho=>by rw [pos b (.inr ⟨j,g,a,B,h',O,p⟩)];exact ho
   refine .list (.of (N a ak _ O.ob)) ?_;have go:∀ {y:List ao}{m:List (List D)},(∀ b∈y,b∈a::B)->Bu K H Hs y m->RDs K c (y.map V.ref) (m.map .list):=λ{y m} hs Y=>by
    induction Y with
    |nil=>exact .nil
    |cons A L _ T=>exact .cons (.list (.of (N _ (hs _ ak) _ A)) (L.same E)) (T λb p=>hs b (ag _ p))
   exact go (λb p=>ag _ p) O.inn
  ·obtain ⟨v,x,G⟩:=f.sh j d h';exact ⟨v,x,G.same E⟩
 ·rcases un h with ⟨d',e,h'⟩|⟨d',e,h'⟩|⟨n,_,h'⟩
  ·cases e
  ·cases e
  ·exact (n d rfl).elim
 ·rcases un h with ⟨d',e,h'⟩|⟨d',e,h'⟩|⟨_,_,h'⟩
  ·cases e
  ·cases e
  ·obtain ⟨a,o,x,G,S,I,M,X⟩:=f.lk j d h';exact ⟨a,o,x,G,S,by rw [w a (l a o M)];exact I,M,X.same E⟩
 ·rcases un A with ⟨d',e,h'⟩|⟨d',e,h'⟩|⟨n,_,h'⟩
  ·cases e
  ·cases e
  ·exact (n Q rfl).elim
 ·rcases un h with ⟨d',e,h'⟩|⟨d',e,h'⟩|⟨_,n,h'⟩
  ·cases e
  ·cases e
  ·exact (n d rfl).elim
 ·rcases un A with ⟨d',e,h'⟩|⟨d',e,h'⟩|⟨_,n,h'⟩
  ·cases e
  ·cases e
  ·exact (n Q rfl).elim
def Fr.shared (f:Fr K H0 Hs0 la ρ σ H Hs):∃ a,Fr K H0 Hs0 la (fE ρ) σ H a:=by
 obtain ⟨a,h|h⟩:=f.share
 ·exact ⟨a,h.1⟩
 ·exact ⟨a,h⟩
section
variable {c:C}{e a b:bp}{g ga gb:aC->R D}{pos:Pos}{x:Str}{st:dX}{bS:List dX}{gs gr:aC->R Fl}
def aO (g h:aC->R Fl):aC->R Fl:=λρ=>(g ρ).bind λf=>match f with
 |.nx d=>h d
 |f=>.ok f
def dz:IZ c [] (λρ=>.ok (.nx ρ)):=.of λρ=>Zj QX λD σ H d=>by obtain ⟨i,h,la,Hs,f,q⟩:=d;exact q σ H Hs f
def aS (h:JS c st gs):IZ c [st] gs:=.of λρ=>QY (h ρ)
def aD (h:JS c st gs) (u:IZ c bS gr):IZ c (st::bS) (aO gs gr):=.of λρ pins s σ H D I m=>by
 obtain ⟨l,i,la,Hs,f,q⟩:=m;unfold aO at q;cases j:gs ρ with
 |no=>rw [j] at q;exact q.elim
 |ex x n =>
  rw [j] at q;refine qS (h ρ) (rT (X:=c.X) (sts:=bS)) pins s σ H D I ⟨l,i,la,Hs,f,?_⟩;rw [j];exact q
 |ok t =>
  rw [j,bind_ok] at q;cases t with
  |nx k =>
   refine qS (h ρ) (u k) pins s σ H D I ⟨l,i,la,Hs,f,?_⟩;rw [j];exact λσ' H' o p=>⟨l,i,la,o,p,q⟩
  |rt d =>
   refine qS (h ρ) (rT (X:=c.X) (sts:=bS)) pins s σ H D I ⟨l,i,la,Hs,f,?_⟩;rw [j];exact q
  |bk k =>
   refine qS (h ρ) (rT (X:=c.X) (sts:=bS)) pins s σ H D I ⟨l,i,la,Hs,f,?_⟩;rw [j];exact q
  |ct k =>
   refine qS (h ρ) (rT (X:=c.X) (sts:=bS)) pins s σ H D I ⟨l,i,la,Hs,f,?_⟩;rw [j];exact q
def sE (f:Fr K H0 Hs0 la ρ σ H Hs)
  (h:oP K cls E H0 Hs0 la D' (r.bind k)) (m:∀ d v H' i,r=.ok d->cP H Hs H' i->Fr K H0 Hs0 la ρ σ H' i->RD K i v d->Q v H'):TR K cls E ρ r σ H Q:=by
 refine ⟨H0,Hs0,la,Hs,f,?_⟩;cases r with
 |ok d=>exact λv H' i s r=>m d v H' i rfl s (f.step s) r
 |ex c n=>exact λH' i s=>h H' i (f.st.trans s)
 |no=>exact h
def sT (f:Fr K H0 Hs0 la ρ σ H Hs)
  (h:oP K cls E H0 Hs0 la D' (r.bind k)) (m:∀ d H' i,r=.ok d->cP H Hs H' i->Fr K H0 Hs0 la ρ σ H' i->Q d H'):E5 K cls E ρ r σ H Q:=by
 refine ⟨H0,Hs0,la,Hs,f,?_⟩;cases r with
 |ok d=>exact λH' i s=>m d H' i rfl s (f.step s)
 |ex c n=>exact λH' i s=>h H' i (f.st.trans s)
 |no=>exact h
def ef (g:aC->R D):aC->R Fl:=λρ=>(g (fE ρ)).bind λd=>.ok (.rt d)
def bX (h:JE c e g):JS c (.Return (some e) pos) (ef g):=.of λρ=>Am (UC (h (fE ρ))) λD σ H i=>by
 obtain ⟨u,s,la,Hs,f,q⟩:=i;obtain ⟨l,o⟩:=f.shared;refine sE o q λd v k j n t m p=>?_;unfold ef at q;rw [n,bind_ok] at q;exact q v k j m.st p
def g9 (t:aC->R Bool) (g h:aC->R Fl):aC->R Fl:=λρ=>(t ρ).bind λb=>if b then g ρ else h ρ
def gm (n:JT c t gt) (m:IZ c A gA) (p:IZ c B gB):JS c (.If t A B pos) (g9 gt gA gB):=.of λρ=>Am (Ws (n ρ) (m ρ) (p ρ)) λD σ H j=>by
 obtain ⟨k,i,la,Hs,f,q⟩:=j;refine sT f q λd u h o s l=>?_;unfold g9 at q;rw [o,bind_ok] at q;cases d with
 |true=>exact xT ⟨k,i,la,h,l,q⟩
 |false=>exact xS ⟨k,i,la,h,l,q⟩
def eC (i:Nat) (g:aC->R D):aC->R Fl:=λρ=>(g ρ).bind λd=>.ok (.nx (ρ.set i (.shr d)))
def dU (i:Nat) (h:JE c e g) (l:c.X.N.Nodup) (o:c.X.N[i]?=some x:=by rfl) (u:Qo c.X.env.scope x:=by first|exact g_ rfl|exact eF rfl) (hs:gF e (some (.Name x pos')) pos.line c.X.env=pure false:=by rfl)
  (n:c.X.fn x=true\/c.X.env.scope.names.lookup x=some .local:=by first|exact .inl rfl|exact .inr rfl|assumption):JS c (.Assign [.Name x pos'] e pos) (eC i g):=.of λρ=>Am (GQ l o u (h ρ) hs n) λD σ H j=>by
 obtain ⟨z,w,la,Hs,f,q⟩:=j;refine sE f q λd v m k s y p t=>?_;unfold eC at q;rw [s,bind_ok] at q;exact q _ m k (p.set i t)
def rh (g:aC->R D):aC->R Fl:=λρ=>(g ρ).bind λ_=>.ok (.nx ρ)
def pB (h:JE c e g) (hs:gF e none pos.line c.X.env=pure false:=by rfl):JS c (.Expr e pos) (rh g):=.of λρ=>Am (Cy (h ρ) hs) λD σ H i=>by
 obtain ⟨p,n,la,Hs,f,q⟩:=i;refine sE f q λd v k j m o l s=>?_;unfold rh at q;rw [m,bind_ok] at q;exact q _ k j l
def Z_ (K:aa) (h f:Hp) (la:Nat->Option ao) (H Hs:Hp) (Q:St->Hp->Prop) (r:R aC):Prop:=match r with
 |.ok d=>∀ σ',Fr K h f la d σ' H Hs->Q σ' H
 |_=>False
inductive X2 (K:aa) (ρ:aC) (d:D) (r:R aC) (v:V) (σ:St) (H:Hp) (Q:St->Hp->Prop):Prop
 |mk (H0 Hs0:Hp) (la:Nat->Option ao) (Hs:Hp) (f:Fr K H0 Hs0 la ρ σ H Hs) (rd:RD K Hs v d) (q:Z_ K H0 Hs0 la H Hs Q r):X2 K ρ d r v σ H Q
def Ve (K:aa) (ρ:aC) (d:D) (r:R aC):TG:=X2 K ρ d r
inductive Tt (K:aa) (ρ:aC) (ds:List D) (r:R aC) (vs:List V) (σ:St) (H:Hp) (Q:St->Hp->Prop):Prop
 |mk (H0 Hs0:Hp) (la:Nat->Option ao) (Hs:Hp) (f:Fr K H0 Hs0 la ρ σ H Hs) (rd:RDs K Hs vs ds) (q:Z_ K H0 Hs0 la H Hs Q r):Tt K ρ ds r vs σ H Q
def X3 (K:aa) (ρ:aC) (ds:List D) (r:R aC):MN:=Tt K ρ ds r
structure JG (c:C) (t:bp) (k:D->aC->R aC):Prop where of ::
 run:∀ ρ d,PG c.X t (Ve c.X.K ρ d (k d ρ))
instance {c:C}{t:bp}{k:D->aC->R aC}:CoeFun (JG c t k) (λ_=>∀ ρ d,PG c.X t (Ve c.X.K ρ d (k d ρ))):=⟨JG.run⟩
structure Wi (c:C) (t:List bp) (k:List D->aC->R aC):Prop where of ::
 run:∀ ρ d,SZ c.X t (X3 c.X.K ρ d (k d ρ))
instance {c:C}{t:List bp}{k:List D->aC->R aC}:CoeFun (Wi c t k) (λ_=>∀ ρ d,SZ c.X t (X3 c.X.K ρ d (k d ρ))):=⟨Wi.run⟩
def mPG (h:PG X e t) (m:∀ v σ H Q,t' v σ H Q->t v σ H Q):PG X e t':=λpins s σ H v u Q I r q=>h pins s σ H v u Q I r (m v σ H Q q)
def Zo {X:Cx}{e:List bp}{t t':MN} (h:SZ X e t) (m:∀ v σ H Q,t' v σ H Q->t v σ H Q):SZ X e t':=λpins s σ H v u Q I r q=>h pins s σ H v u Q I r (m v σ H Q q)
def b_ (i:Nat):D->aC->R aC:=λd ρ=>.ok (ρ.set i (.shr d))
def dm (i:Nat) (j:c.X.N.Nodup) (l:c.X.N[i]?=some x:=by rfl) (k:Qo c.X.env.scope x:=by first|exact g_ rfl|exact eF rfl) (m:c.X.fn x=true\/c.X.env.scope.names.lookup x=some .local:=by first|exact .inl rfl|exact .inr rfl|assumption) :
  JG c (.Name x pos) (b_ i):=.of λρ d=>mPG (cD j l k m) λv σ H Q h=>by obtain ⟨o,n,la,Hs,f,r,q⟩:=h;exact q _ (f.set i r)
def o8:List D->aC->R aC:=λds ρ=>match ds with
 |[]=>.ok ρ
 |_=>.no
def da (k:D->aC->R aC) (h:List D->aC->R aC):List D->aC->R aC:=λds ρ=>match ds with
 |d::r=>(k d ρ).bind λf=>h r f
 |_=>.no
def lS:Wi c [] o8:=.of λρ ds=>Zo Cz λj σ H Q d=>by
 obtain ⟨i,h,la,Hs,f,r,q⟩:=d;cases r with
 |nil=>exact ⟨rfl,q σ f⟩
 |cons _ _=>exact q.elim
def dJ (h:JG c t kt) (p:Wi c ts kts) (hs:(iW (t::ts) c.X.env).map (·.2)=iV t c.X.env::(iW ts c.X.env).map (·.2):=by rfl):Wi c (t::ts) (da kt kts):=.of λρ ds pins s σ H E A Q I z i=>by
 obtain ⟨m,j,la,Hs,f,r,q⟩:=i;cases r with
 |nil=>exact q.elim
 | @cons v o d u y B =>
  unfold da at q;cases k:kt d ρ with
  |ok l =>
   simp only [k,bind_ok] at q;refine qT (h ρ d) (p l u) hs pins s σ H _ A Q I z ⟨v,o,rfl,m,j,la,Hs,f,y,?_⟩;rw [k];exact λσ' w=>⟨m,j,la,Hs,w,B,q⟩
  |ex x n=>simp only [k,bind_ex] at q;exact q.elim
  |no=>simp only [k,bind_no] at q;exact q.elim
def my (n:Nat) (f:List D->aC->R aC):D->aC->R aC:=λd ρ=>match d with
 |.tuple ds=>if ds.length=n then f ds ρ else .no
 |_=>.no
def pC (z:c.X.calm=true) (h:Wi c ts kts) (y:(iW ts c.X.env).length=n:=by rfl) (m:(iW ts c.X.env).findIdx? (·.1)=none:=by rfl):JG c (.Tuple ts k pos) (my n kts):=.of λρ d=>by
 cases d with
 |tuple ds =>
  refine mPG (GP z (h ρ ds) y m) λv σ H Q l=>?_;obtain ⟨w,j,la,Hs,f,r,q⟩:=l;cases r with
  | @tuple p xs _ A t =>
   unfold my at q;by_cases o:ds.length=n
   ·simp only [if_pos o] at q;exact ⟨p,xs,rfl,(l5.of (f.st.sub _ _ A)),by rw [t.length];exact o,w,j,la,Hs,f,t,q⟩
   ·simp only [if_neg o] at q;exact q.elim
 |_=>exact λpins s σ H v u Q I B i=>by obtain ⟨w,j,la,Hs,f,r,q⟩:=i;exact q.elim
def wI (g:aC->R D) (k:D->aC->R aC):aC->R Fl:=λρ=>(g ρ).bind λd=>match k d ρ with
 |.ok f=>.ok (.nx f)
 |_=>.no
def wJ (h:JE c e g) (L:JG c t kt) (hs:y8 [t] e pos.line c.X.env=pure false:=by rfl) (E:y9 [t] e c.X.env=pure none:=by rfl) (A:(iW [t] c.X.env).map (·.2)=[iV t c.X.env]:=by rfl) :
  JS c (.Assign [t] e pos) (wI g kt):=.of λρ=>by
 cases o:g ρ with
 |ok d =>
  refine Am (MP (h ρ) (L ρ d) hs E A) λD σ H m=>?_;obtain ⟨y,j,la,Hs,f,q⟩:=m;refine sE (k:=λd=>match kt d ρ with | .ok w=>.ok (.nx w)|_=>.no) f q λd' v B i u M G K=>?_;rw [o] at u;cases u;unfold wI at q;rw [o,bind_ok] at q;refine ⟨y,j,la,i,G,K,?_⟩;cases z:kt d ρ with
  |ok w=>rw [z] at q;exact λσ' N=>q σ' B i N
  |ex x n=>rw [z] at q;exact q.elim
  |no=>rw [z] at q;exact q.elim
 |ex x n =>
  refine Am (MP (h ρ) (L ρ .none) hs E A) λD σ H l=>?_;obtain ⟨y,j,la,Hs,f,q⟩:=l;refine sE (k:=λ_=>.no) (D':=D) f (by unfold wI at q;rw [o] at q ⊢;exact q) λd' v B i u M G K=>?_;rw [o] at u;cases u
 |no =>
  refine λpins s σ H D I p=>?_;obtain ⟨y,j,la,Hs,f,q⟩:=p;unfold wI at q;rw [o] at q;exact q.elim
end
def NI (K:aa) (J:It) (ds:List D) (f Hs:Hp):Prop:=∀ b a,du f b->du Hs a->du a b ->
 (∀ i,i<ds.length->J.go i b)/\(∀ i,ds.length<=i->J.stop i b)/\∀ i x e,i<ds.length->J.yld i b x e->∃ d c,ds[i]?=some d/\cP b a e c/\RD K c x d
def C_ (h:nZ K Hn a vs) (r:RDs K Hs vs ds):NI K (YS K a) ds Hn Hs:=λn e f j k=>by
 have q:=f.seq h;refine ⟨λi b=>?_,λi b=>⟨vs,q,by rw [r.length];exact b⟩,λi x m b y=>?_⟩
 ·have c:i<vs.length:=by rw [r.length];exact b
  exact ⟨vs,vs[i],q,aZ c⟩
 ·obtain ⟨rfl,y⟩:=y;obtain ⟨d,l,g⟩:=r.get (y vs q);exact ⟨d,e,l,.refl k,g.same j⟩
def NJ (h:l5 K Hn a vs) (r:RDs K Hs vs ds):NI K (YT K a) ds Hn Hs:=λn e f j k=>by
 have q:=f.tup h;refine ⟨λi b=>?_,λi b=>⟨vs,q,by rw [r.length];exact b⟩,λi x m b y=>?_⟩
 ·have c:i<vs.length:=by rw [r.length];exact b
  exact ⟨vs,vs[i],q,aZ c⟩
 ·obtain ⟨rfl,y⟩:=y;obtain ⟨d,l,g⟩:=r.get (y vs q);exact ⟨d,e,l,.refl k,g.same j⟩
def NK (x:Str):NI K (WM x) (o7 x) Hn Hs:=λh b j k e=>by
 have d:(o7 x).length=x.cps.size:=by simp [o7]
 refine ⟨λi a=>by rw [d] at a;exact a,λi a=>by rw [d] at a;exact a,λi v g a y=>?_⟩;obtain ⟨rfl,c,f,rfl⟩:=y;refine ⟨.str ⟨#[c]⟩,b,?_,.refl e,.str _⟩;unfold o7;rw [aX,ck,f];rfl
def rj (lo:Int) (n:Nat):List D:=(bM n).map λ(k:Nat)=>bV (lo+k)
def NL (lo:Int) (n:Nat):NI K (Yo lo n) (rj lo n) Hn Hs:=λf b g h d=>by
 have c:(rj lo n).length=n:=by simp [rj]
 refine ⟨λi a=>by rw [c] at a;exact a,λi a=>by rw [c] at a;exact a,λi v e a y=>?_⟩;obtain ⟨rfl,rfl⟩:=y;refine ⟨.int (lo+i),b,?_,.refl d,.int _⟩;rw [c] at a;unfold rj;rw [aX,Km a];rfl
def qr (n:Nat):List D->List D
 |[]=>[]
 |d::r=>.tuple [.int n,d]::qr (n+1) r
def Bz:∀ (ds:List D) (n i:Nat),(qr n ds)[i]?=(ds[i]?).map λd=>dD [.int ((n+i:Nat):Int),d]
 |[],_,_=>by simp [qr]
 |d::r,n,0=>by simp [qr]
 |d::r,n,i+1=>by
  simp only [qr,jT];rw [Bz r (n+1) i,show n+1+i=n+(i+1) by omega]
def BA:∀ (ds:List D) (n:Nat),(qr n ds).length=ds.length
 |[],_=>rfl
 |d::r,n=>by simp [qr,BA r]
def RC (h:l5 K Hn a vs) (r:RDs K Hs vs ds):NI K (Zb K a) (qr 0 ds) Hn Hs:=λu j k m n=>by
 have q:=k.tup h;have s:=BA ds 0;refine ⟨λi c=>?_,λi c=>⟨vs,q,by rw [r.length];omega⟩,λi x t c y=>?_⟩
 ·have b:i<vs.length:=by rw [r.length];omega
  exact ⟨vs,vs[i],q,aZ b⟩
 ·obtain ⟨p,l,rfl,y⟩:=y;obtain ⟨x,g,rfl⟩:=y vs q;obtain ⟨d,f,e⟩:=r.get g;have st:=cP.new (o:=.tup [.int i,x]) n l;refine ⟨.tuple [.int i,d],_,?_,st,.tuple bi (.cons (.int _) (.cons ((e.same m).same st.sh) .nil))⟩;rw [Bz,f];simp
def xX:List D->List D->List D
 |x::xs,y::ys=>.tuple [x,y]::xX xs ys
 |_,_=>[]
def EJ:∀ (xs ys:List D) (i:Nat) (x y:D),xs[i]?=some x->ys[i]?=some y->(xX xs ys)[i]?=some (.tuple [x,y])
 |x::xs,y::ys,0,_,_,a,b=>by simp at a b;subst a b;rfl
 |_::xs,_::ys,i+1,x,y,a,b=>by
  simp only [jT] at a b;simp only [xX,jT];exact EJ xs ys i x y a b
 |[],_,_,_,_,a,_=>by simp at a
 |_::_,[],_,_,_,_,b=>by simp at b
def EK:∀ (xs ys:List D),(xX xs ys).length=min xs.length ys.length
 |x::xs,y::ys=>by simp [xX,EK xs ys]
 |[],_=>by simp [xX]
 |_::_,[]=>by simp [xX]
def Vf (h:l5 K Hn a vs) (r:RDs K Hs vs ds) (h':l5 K Hn b ws) (f:RDs K Hs ws es):NI K (Zc K a b) (xX ds es) Hn Hs:=λG u k l A=>by
 have q:=k.tup h;have q':=k.tup h';have B:=EK ds es;refine ⟨λi j=>?_,λi j=>⟨vs,ws,q,q',by rw [r.length,f.length];omega⟩,λi x E j y=>?_⟩
 ·have m:i<vs.length:=by rw [r.length];omega
  have v:i<ws.length:=by rw [f.length];omega
  exact ⟨vs,ws,vs[i],ws[i],q,q',aZ m,aZ v⟩
 ·obtain ⟨p,w,rfl,y⟩:=y;obtain ⟨x,z,t,c,rfl⟩:=y vs ws q q';obtain ⟨d,s,n⟩:=r.get t;obtain ⟨d',g,e⟩:=f.get c;have st:=cP.new (o:=.tup [x,z]) A w;exact ⟨.tuple [d,d'],_,EJ ds es i d d' s g,st,.tuple bi (.cons ((n.same l).same st.sh) (.cons ((e.same l).same st.sh) .nil))⟩
inductive X4 (K:aa) (cls:Str->ao) (E:XK) (ρ:aC) (r:R (List D)) (σ:St) (H:Hp) (Q:It->Hp->Prop):Prop
 |mk (H0 Hs0:Hp) (la:Nat->Option ao) (Hs:Hp) (f:Fr K H0 Hs0 la ρ σ H Hs) (q:Fin K cls E H Hs r λds=>∀ J H' Hs' Hn,cP H Hs H' Hs'->du Hn H'->NI K J ds Hn Hs'->Q J H'):X4 K cls E ρ r σ H Q
def Vg (K:aa) (cls:Str->ao) (E:XK) (ρ:aC) (r:R (List D)):TI:=X4 K cls E ρ r
inductive X5 (K:aa) (cls:Str->ao) (E:XK) (ρ:aC) (r:R (List D)) (σ:St) (H:Hp) (Q:It->Hp->Prop):Prop
 |mk (H0 Hs0:Hp) (la:Nat->Option ao) (Hs:Hp) (f:Fr K H0 Hs0 la ρ σ H Hs) (q:Fin K cls E H Hs r λds=>∀ J H' Hs',cP H Hs H' Hs'->NI K J ds Hs' Hs'->Q J H'):X5 K cls E ρ r σ H Q
def TIs (K:aa) (cls:Str->ao) (E:XK) (ρ:aC) (r:R (List D)):TI:=X5 K cls E ρ r
structure JI (c:C) (tg it:bp) (g:aC->R (List D)):Prop where of ::
 run:∀ ρ,PI c.X tg it (Vg c.X.K c.cls c.E ρ (g ρ))
instance {c:C}{tg it:bp}{g:aC->R (List D)}:CoeFun (JI c tg it g) (λ_=>∀ ρ,PI c.X tg it (Vg c.X.K c.cls c.E ρ (g ρ))):=⟨JI.run⟩
structure Mn (c:C) (tg it:bp) (g:aC->R (List D)):Prop where of ::
 run:∀ ρ,PI c.X tg it (TIs c.X.K c.cls c.E ρ (g ρ))
instance {c:C}{tg it:bp}{g:aC->R (List D)}:CoeFun (Mn c tg it g) (λ_=>∀ ρ,PI c.X tg it (TIs c.X.K c.cls c.E ρ (g ρ))):=⟨Mn.run⟩
def I_ (h:PI X tg e t) (m:∀ σ H Q,t' σ H Q->t σ H Q):PI X tg e t':=λpins s σ H Q I q=>h pins s σ H Q I (m σ H Q q)
def yX:D->R (List D)
 |.list ds=>.ok ds
 |.tuple ds=>.ok ds
 |.str x=>.ok (o7 x)
 |_=>.no
def jf (g:aC->R D):aC->R (List D):=λρ=>(g ρ).bind yX
def eE (h:JB c l g):JI c tg l (jf g):=.of λρ=>by
 cases i:g ρ with
 |no=>exact λpins s σ H Q I w=>by obtain ⟨m,b,la,Hs,f,q⟩:=w;exact by unfold jf at q;rw [i] at q;exact q.elim
 |ex x n =>
  refine I_ (v4 (h ρ)) λσ H Q L=>?_;obtain ⟨m,b,la,Hs,f,q⟩:=L;refine one f q λd v k e j o u p=>?_;rw [i] at j;cases j
 |ok d =>
  cases d with
  |list ds =>
   refine I_ (v4 (h ρ)) λσ H Q y=>?_;obtain ⟨m,b,la,Hs,f,q⟩:=y;refine one f q λd v k e j o u p=>?_;rw [i] at j;cases j;unfold jf at q;rw [i,bind_ok] at q;obtain ⟨a,N,rfl,t,M⟩:=p.list u.st.sub;exact ⟨a,rfl,⟨N,t⟩,q _ k e k o (.refl _) (C_ t M)⟩
  |tuple ds =>
   refine I_ (MR (h ρ)) λσ H Q z=>?_;obtain ⟨m,b,la,Hs,f,q⟩:=z;refine one f q λd v k e j o u p=>?_;rw [i] at j;cases j;unfold jf at q;rw [i,bind_ok] at q;obtain ⟨a,N,rfl,t,M,_⟩:=p.tuple u.st.sub;exact ⟨a,rfl,⟨N,t⟩,q _ k e k o (.refl _) (NJ t M)⟩
  |str x =>
   refine I_ (Np (h ρ)) λσ H Q K=>?_;obtain ⟨m,b,la,Hs,f,q⟩:=K;refine one f q λd v k e j o u p=>?_;rw [i] at j;cases j;unfold jf at q;rw [i,bind_ok] at q;exact ⟨x,p.str,q _ k e k o (.refl _) (NK x)⟩
  |none=>exact λpins s σ H Q I A=>by obtain ⟨m,b,la,Hs,f,q⟩:=A;exact by unfold jf at q;rw [i] at q;exact q.elim
  |bool _=>exact λpins s σ H Q I B=>by obtain ⟨m,b,la,Hs,f,q⟩:=B;exact by unfold jf at q;rw [i] at q;exact q.elim
  |int _=>exact λpins s σ H Q I E=>by obtain ⟨m,b,la,Hs,f,q⟩:=E;exact by unfold jf at q;rw [i] at q;exact q.elim
  |dict _=>exact λpins s σ H Q I G=>by obtain ⟨m,b,la,Hs,f,q⟩:=G;exact by unfold jf at q;rw [i] at q;exact q.elim
def D0 (h:JE c l g):Mn c tg l (jf g):=.of λρ=>by
 cases e:g ρ with
 |no=>exact λpins s σ H Q I K=>by obtain ⟨j,a,la,Hs,f,q⟩:=K;exact by unfold jf at q;rw [e] at q;exact q.elim
 |ex x n =>
  refine I_ (v4 (h ρ)) λσ H Q B=>?_;obtain ⟨j,a,la,Hs,f,q⟩:=B;refine wF f q λd v m b i k A o=>?_;rw [e] at i;cases i
 |ok d =>
  cases d with
  |list ds =>
   refine I_ (v4 (h ρ)) λσ H Q G=>?_;obtain ⟨j,a,la,Hs,f,q⟩:=G;refine wF f q λd v m b i k A o=>?_;rw [e] at i;cases i;unfold jf at q;rw [e,bind_ok] at q;cases o with
   |list p L=>exact ⟨_,rfl,⟨_,A.st.sub.seq p⟩,q _ m b k (C_ p L)⟩
  |tuple ds =>
   refine I_ (MR (h ρ)) λσ H Q w=>?_;obtain ⟨j,a,la,Hs,f,q⟩:=w;refine wF f q λd v m b i k A o=>?_;rw [e] at i;cases i;unfold jf at q;rw [e,bind_ok] at q;cases o with
   |tuple p L=>exact ⟨_,rfl,⟨_,(l5.of (A.st.sub _ _ p))⟩,q _ m b k (NJ (.of p) L)⟩
  |str x =>
   refine I_ (Np (h ρ)) λσ H Q y=>?_;obtain ⟨j,a,la,Hs,f,q⟩:=y;refine wF f q λd v m b i k A o=>?_;rw [e] at i;cases i;unfold jf at q;rw [e,bind_ok] at q;cases o with
   |str _=>exact ⟨x,rfl,q _ m b k (NK x)⟩
  |none=>exact λpins s σ H Q I E=>by obtain ⟨j,a,la,Hs,f,q⟩:=E;exact by unfold jf at q;rw [e] at q;exact q.elim
  |bool _=>exact λpins s σ H Q I z=>by obtain ⟨j,a,la,Hs,f,q⟩:=z;exact by unfold jf at q;rw [e] at q;exact q.elim
  |int _=>exact λpins s σ H Q I u=>by obtain ⟨j,a,la,Hs,f,q⟩:=u;exact by unfold jf at q;rw [e] at q;exact q.elim
  |dict _=>exact λpins s σ H Q I t=>by obtain ⟨j,a,la,Hs,f,q⟩:=t;exact by unfold jf at q;rw [e] at q;exact q.elim
def Mn.i (h:Mn c tg l gs):JI c tg l gs:=.of λρ=>I_ (h ρ) λσ H Q ⟨e,d,la,Hs,f,q⟩=>⟨e,d,la,Hs,f,by
 cases b:gs ρ with
 |ok ds=>rw [b] at q;exact λJ H' a s i=>q J H' a a s s.sub i
 |ex x n=>rw [b] at q;exact q
 |no=>rw [b] at q;exact q⟩
def Hr:List D->R (List D)
 |[.int j]=>if -(2 ^ 62)<=j/\j<2 ^ 62 then .ok (rj 0 j.toNat) else .no
 |_=>.no
def BB (a:aC->R (List D)):aC->R (List D):=λρ=>(a ρ).bind Hr
def uf (o:Gl c.X "range") (l:c.X.mg "range"=none) (k:Rr c [a] gs) (hs:aH [a] c.X.env=[(false,dn a c.X.env)]:=by rfl):Mn c tg (.Call (.Name "range" p) [a] [] pos) (BB gs):=.of λρ=>I_ (Kz o l (k ρ) hs) λσ H Q b=>by
 obtain ⟨t,s,la,Hs,f,q⟩:=b;refine Ny f q λds v i e m g u n=>?_;unfold BB at q;rw [m,bind_ok] at q;unfold Hr at q;split at q
 ·rename_i j
  by_cases d:-(2 ^ 62)<=j/\j<2 ^ 62
  ·rw [if_pos d] at q;obtain ⟨x,rfl,h⟩:=n.one;exact ⟨j,by rw [h.int],d.1,d.2,q _ i e g (NL 0 _)⟩
  ·rw [if_neg d] at q;exact q.elim
 ·exact q.elim
def Yx:List D->R (List D)
 |[.tuple ds]=>.ok (qr 0 ds)
 |_=>.no
def Ht (a:aC->R (List D)):aC->R (List D):=λρ=>(a ρ).bind Yx
def RDs.one (h:RDs K H xs [d]):∃ x,xs=[x]/\RD K H x d:=by
 cases h with|cons a t=>cases t;exact ⟨_,rfl,a⟩
def RDs.two {K:aa}{H:Hp}{xs:List V}{d e:D} (h:RDs K H xs [d,e]):∃ x y,xs=[x,y]/\RD K H x d/\RD K H y e:=by
 cases h with|cons a t=>cases t with|cons b t=>cases t;exact ⟨_,_,rfl,a,b⟩
def yY {x1} (s:Gl c.X "enumerate") (k:c.X.mg "enumerate"=none) (j:KY c [a] gs) (hs:aH [a] c.X.env=[(false,dn a c.X.env)]:=by rfl):Mn c (.Tuple elts x1 tpos) (.Call (.Name "enumerate" p) [a] [] pos) (Ht gs):=.of λρ=>I_ (Rn s k (j ρ) hs) λσ H Q b=>by
 obtain ⟨u,t,la,Hs,f,q⟩:=b;refine Hi f q λds v i d m g l n=>?_;unfold Ht at q;rw [m,bind_ok] at q;unfold Yx at q;split at q
 ·obtain ⟨x,rfl,h⟩:=n.one;cases h with
  |tuple e o=>exact ⟨_,_,rfl,(l5.of (l.st.sub _ _ e)),q _ i d g (RC (.of e) o)⟩
 ·exact q.elim
def zp:List D->R (List D)
 |[.tuple ds,.tuple es]=>.ok (xX ds es)
 |_=>.no
def RE (a:aC->R (List D)):aC->R (List D):=λρ=>(a ρ).bind zp
def RF {x1} (z:Gl c.X "zip") (o:c.X.mg "zip"=none) (n:KY c [a,b] gs) (hs:aH [a,b] c.X.env=[(false,dn a c.X.env),(false,dn b c.X.env)]:=by rfl) (e:aH [b] c.X.env=[(false,dn b c.X.env)]:=by rfl) :
  Mn c (.Tuple elts x1 tpos) (.Call (.Name "zip" p) [a,b] [] pos) (RE gs):=.of λρ=>I_ (V7 z o (n ρ) hs e) λσ H Q d=>by
 obtain ⟨B,A,la,Hs,f,q⟩:=d;refine Hi f q λds E m g s k j u=>?_;unfold RE at q;rw [s,bind_ok] at q;unfold zp at q;split at q
 ·obtain ⟨x,y,rfl,l,t⟩:=u.two;cases l with
  |tuple h w =>
   cases t with
   |tuple i v=>exact ⟨_,_,_,_,rfl,(l5.of (j.st.sub _ _ h)),(l5.of (j.st.sub _ _ i)),q _ m g k (Vf (.of h) w (.of i) v)⟩
 ·exact q.elim
inductive TNI (K:aa) (cls:Str->ao) (E:XK) (ρ:aC) (r:R D) (σ:St) (H:Hp) (Q:VK):Prop
 |mk (H0 Hs0:Hp) (la:Nat->Option ao) (Hs:Hp) (f:Fr K H0 Hs0 la ρ σ H Hs) (q:Fin K cls E H Hs r λd=>∀ a o H' Hs',cP H Hs H' Hs'->H' a=none->n6 K Hs' o d->Q (.ref a) (upd H' a o)):TNI K cls E ρ r σ H Q
def TN (K:aa) (cls:Str->ao) (E:XK) (ρ:aC) (r:R D):TE:=TNI K cls E ρ r
structure JN (c:C) (e:bp) (g:aC->R D):Prop where of ::
 run:∀ ρ,PE c.X e (TN c.X.K c.cls c.E ρ (g ρ))
instance {c:C}{e:bp}{g:aC->R D}:CoeFun (JN c e g) (λ_=>∀ ρ,PE c.X e (TN c.X.K c.cls c.E ρ (g ρ))):=⟨JN.run⟩
section
variable {c:C}{e a b l tg:bp}{g ga gb:aC->R D}{pos p:Pos}{gs:aC->R (List D)}{es:List bp}{x:Str}
def Zp (q:TR K cls E ρ r σ H Q):TN K cls E ρ r σ H Q:=by
 obtain ⟨i,h,la,Hs,f,q⟩:=q;refine ⟨i,h,la,Hs,f,?_⟩;cases r with
 |ok d=>exact λa o H' j s n r=>q _ _ _ (s.trans (.new s.sub n)) (r.share (s.sub.free n))
 |ex x n=>exact q
 |no=>exact q
def JN.je (h:JN c e g):JE c e g:=.of λρ=>qH (h ρ) λσ H Q q=>Zp q
def yZ (h:KY c es gs):JN c (.List es pos) (g6 gs .list):=.of λρ=>qH (u6 (h ρ)) λσ H Q d=>by
 obtain ⟨u,t,la,Hs,f,q⟩:=d;refine Hi f q λds w n j o m v k=>?_;unfold g6 at q;rw [o,bind_ok] at q;by_cases i:ds.length<=1000
 ·rw [if_pos i] at q;exact ⟨cw (eg (by rw [k.length];exact i)),λp s=>q p _ n j m s (.lst k)⟩
 ·rw [if_neg i] at q;exact q.elim
def J4:JN c (.Dict [] [] pos) (λ_=>.ok (.dict [])):=.of λρ=>qH Na λσ H Q d=>by obtain ⟨j,i,la,Hs,f,q⟩:=d;exact λp h=>q p _ H Hs (.refl f.st.sub) h (.dK .nil)
def fv (i:Nat) (g:aC->R D):aC->R Fl:=λρ=>(g ρ).bind λd=>.ok (.nx (ρ.set i (.own d)))
def sN (f:Fr K H0 Hs0 la ρ σ H Hs)
  (h:oP K cls E H0 Hs0 la D' (r.bind k)) (m:∀ d a o H' i,r=.ok d->Fr K H0 Hs0 la ρ σ H' i->H' a=none->n6 K i o d->Q (.ref a) (upd H' a o)):TN K cls E ρ r σ H Q:=by
 refine ⟨H0,Hs0,la,Hs,f,?_⟩;cases r with
 |ok d=>exact λa o H' i s n r=>m d a o H' i rfl (f.step s) n r
 |ex c n=>exact λH' i s=>h H' i (f.st.trans s)
 |no=>exact h
def jW (i:Nat) (h:JN c e g) (m:c.X.N.Nodup) (t:c.X.N[i]?=some x:=by rfl) (y:Qo c.X.env.scope x:=by first|exact g_ rfl|exact eF rfl) (hs:gF e (some (.Name x pos')) pos.line c.X.env=pure false:=by rfl)
  (s:c.X.fn x=true\/c.X.env.scope.names.lookup x=some .local:=by first|exact .inl rfl|exact .inr rfl|assumption):JS c (.Assign [.Name x pos'] e pos) (fv i g):=.of λρ=>Am (GQ m t y (h ρ) hs s) λD σ H j=>by
 obtain ⟨B,z,la,Hs,f,q⟩:=j;refine sN f q λd a o A k v u n w=>?_;unfold fv at q;rw [v,bind_ok] at q;exact q _ _ k (u.setO i n w)
def D1 {d:Type}:R d->R d
 |.ex _ _=>.no
 |r=>r
def vw {d:Type}{r:R d}{a:d} (h:D1 r=.ok a):r=.ok a:=by
 cases r<;>first|exact h|cases h
def fw (f:D->R (Option D)):List D->R (List D)
 |[]=>.ok []
 |d::r=>(f d).bind λo=>(fw f r).bind λys=>.ok (match o with
  |some y=>y::ys
  |none=>ys)
def pE (h:fw f (d::r)=.ok ys):∃ o i,f d=.ok o/\fw f r=.ok i/\ys=o.toList++i:=by
 unfold fw at h;cases j:f d with
 |ok o =>
  rw [j,bind_ok] at h;cases k:fw f r with
  |ok i =>
   rw [k,bind_ok] at h;cases h;cases o<;>exact ⟨_,i,rfl,rfl,rfl⟩
  |ex x n=>rw [k] at h;cases h
  |no=>rw [k] at h;cases h
 |ex x n=>rw [j] at h;cases h
 |no=>rw [j] at h;cases h
def Qr:Sl->Sl
 |.own d=>.lck d
 |.ow2 _=>.no
 |s=>s
def kr (nt:Nat) (ix:List Nat) (ρ:aC):aC:=tE nt Sl.no++ix.map λi=>Qr ((ρ[i]?).getD .no)
def Tu (nt:Nat):D->aC->R aC:=match nt with
 | 1=>b_ 0
 | 2=>my 2 (da (b_ 0) (da (b_ 1) o8))
 |_=>λ_ _=>.no
def iA (nt:Nat) (ρ:aC) (gt:aC->R Bool) (ge:aC->R D):D->R (Option D):=λd=>D1 ((Tu nt d ρ).bind λf=>(gt f).bind λb=>if b then (ge f).bind λy=>.ok (some y) else .ok none)
def eM (nt:Nat) (ix:List Nat) (d:aC->R (List D)) (gt:aC->R Bool) (ge:aC->R D):aC->R D:=λρ=>(d ρ).bind λds=>if ds.length<=1000 then (fw (iA nt (kr nt ix ρ) gt ge) ds).bind λys=>.ok (.list ys) else .no
structure Tv (c:C) (ifs:List bp) (g:aC->R Bool):Prop where of ::
 run:∀ ρ,E4 c.X ifs (E5 c.X.K c.cls c.E ρ (g ρ))
instance {c:C}{ifs:List bp}{g:aC->R Bool}:CoeFun (Tv c ifs g) (λ_=>∀ ρ,E4 c.X ifs (E5 c.X.K c.cls c.E ρ (g ρ))):=⟨Tv.run⟩
def eN:Tv c [] (λ_=>.ok true):=.of λρ pins s σ H Q I d=>by obtain ⟨i,h,la,Hs,f,q⟩:=d;exact Rj pins s σ H Q I (q H Hs (.refl f.st.sub))
def kR (h:JT c e gt):Tv c [e] gt:=.of λρ=>Rk (h ρ)
def y_ (K:aa) (nt:Nat):TG:=match nt with
 | 1=>oK 0
 |_=>UE K 2 (L2.ah (oK 0) (L2.ah (oK 1) L2.aP))
def vy {K:aa}{nt:Nat} (h:nt=1\/nt=2):Ml nt (y_ K nt):=by
 rcases h with rfl|rfl
 ·exact Nc (by decide)
 ·exact Rl (by decide) (by decide)
def vz {K:aa}{nt:Nat}{o k H Hs:Hp}{la:Nat->Option ao}{ρ j:aC}{σ:St}{v:V}{d:D}{Q:St->Hp->Prop} (m:nt=1\/nt=2) (f:Fr K o k la ρ σ H Hs) (r:RD K Hs v d) (h:Tu nt d ρ=.ok j)
  (q:∀ σ',Fr K o k la j σ' H Hs->Q σ' H):y_ K nt v σ H Q:=by
 rcases m with rfl|rfl
 ·cases h;exact q _ (f.set 0 r)
 ·unfold Tu my at h;simp only at h;cases r with
  | @tuple p xs ds s i =>
   simp only at h;split at h
   ·rename_i n
    cases i with
    |nil=>cases n
    |cons t i =>
     cases i with
     |nil=>cases n
     |cons u i =>
      cases i with
      |nil =>
       cases h;exact ⟨p,_,rfl,(l5.of (f.st.sub _ _ s)),rfl,_,_,rfl,_,_,rfl,rfl,q _ ((f.set 0 t).set 1 u)⟩
      |cons _ _=>simp at n
   ·cases h
  |none=>cases h
  |bool _=>cases h
  |int _=>cases h
  |str _=>cases h
  |list _ _=>cases h
  |dictK _ _=>cases h
  |dictT _ _ _=>cases h
  |dictF _ _ _=>cases h
def Fr.block (f:Fr K H0 Hs0 la ρ σ H Hs) (nt:Nat) (ix:List Nat):∃ E,Fr K H Hs E (kr nt ix ρ) (L2.gx nt ix σ) H Hs:=by
 have I:∀ (j:Nat) (d:D),(kr nt ix ρ)[j]?=some (Sl.lck d)->∃ a o,(L2.gx nt ix σ)[j]?=some (some (V.ref a))/\H a=some o/\Hs a=none/\n6 K Hs o d:=λj d h=>by
  unfold kr at h;by_cases m:j<nt
  ·rw [aW (by simpa using m),bJ,if_pos m] at h;cases h
  ·have m:nt<=j:=by omega
   rw [bg (by simpa using m),dB,aX] at h;cases t:ix[j-nt]? with
   |none=>rw [t] at h;cases h
   |some i =>
    rw [t] at h;have z:∀ v,σ[i]?=some (some v)->(L2.gx nt ix σ)[j]?=some (some v):=λv u=>by
     unfold L2.gx;rw [bg (by simpa using m),dB,aX,t];simp [u]
    cases n:ρ[i]? with
    |none=>simp only [dO,n,hX,Qr] at h;cases h
    |some s =>
     simp only [dO,n,kP] at h;cases s with
     |own d' =>
      cases h;obtain ⟨a,o,u,w,A,B,L⟩:=f.ow i d n;exact ⟨a,o,z _ u,w,A,L⟩
     |lck d' =>
      cases h;obtain ⟨a,o,u,w,A,B,L,O⟩:=f.lk i d n;exact ⟨a,o,z _ u,A,B,O⟩
     |no=>cases h
     |shr _=>cases h
     |ow2 _=>cases h
 have y:∀ (j:Nat) (d:List (List D)),¬ (kr nt ix ρ)[j]?=some (Sl.ow2 d):=λj d h=>by
  unfold kr at h;by_cases m:j<nt
  ·rw [aW (by simpa using m),bJ,if_pos m] at h;cases h
  ·have m:nt<=j:=by omega
   rw [bg (by simpa using m),dB,aX] at h;cases t:ix[j-nt]? with
   |none=>rw [t] at h;cases h
   |some i =>
    rw [t] at h;cases n:ρ[i]? with
    |none=>simp only [dO,n,hX,Qr] at h;cases h
    |some s =>
     simp only [dO,n,kP] at h;cases s<;>cases h
 refine ⟨λj=>match (kr nt ix ρ)[j]?,(L2.gx nt ix σ)[j]? with
  |some (Sl.lck _),some (some (V.ref a))=>some a
  |_,_=>none,.refl f.st.sub,by simp [kr,L2.gx],λj d h=>?_,λj d h=>?_,λj d h=>?_,λj k G N a q M _ _=>?_,λj a h=>?_,λj d h=>(y j d h).elim,λj k G N q _=>(y j G q).elim⟩
 case refine_3 =>
  obtain ⟨a,o,u,w,A,B⟩:=I j d h;exact ⟨a,o,u,by rw [h,u],w,A,w,B⟩
 case refine_5 =>
  split at h
  ·rename_i d P q M
   cases h;obtain ⟨P,o,u,w,_⟩:=I j d q;rw [M] at u;cases u;exact ⟨o,w⟩
  ·cases h
 all_goals
  unfold kr at *
 ·have h:=h;by_cases m:j<nt
  ·rw [aW (by simpa using m),bJ,if_pos m] at h;cases h
  ·have m:nt<=j:=by omega
   rw [bg (by simpa using m),dB,aX] at h;cases t:ix[j-nt]? with
   |none=>rw [t] at h;cases h
   |some i =>
    rw [t] at h;cases n:ρ[i]? with
    |none=>simp only [dO,n,hX,Qr] at h;cases h
    |some s =>
     simp only [dO,n,kP] at h;cases s with
     |shr d' =>
      cases h;obtain ⟨v,u,w⟩:=f.sh i d n;refine ⟨v,?_,w⟩;unfold L2.gx;rw [bg (by simpa using m),dB,aX,t];simp [u]
     |no=>cases h
     |own _=>cases h
     |lck _=>cases h
     |ow2 _=>cases h
 ·have h:=h;by_cases m:j<nt
  ·rw [aW (by simpa using m),bJ,if_pos m] at h;cases h
  ·have m:nt<=j:=by omega
   rw [bg (by simpa using m),dB,aX] at h;cases t:ix[j-nt]? with
   |none=>rw [t] at h;cases h
   |some i =>
    rw [t] at h;cases n:ρ[i]? with
    |none=>simp only [dO,n,hX,Qr] at h;cases h
    |some s =>
     simp only [dO,n,kP] at h;cases s<;>cases h
 ·have q:=q;by_cases m:j<nt
  ·rw [aW (by simpa using m),bJ,if_pos m] at q;cases q
  ·have m:nt<=j:=by omega
   rw [bg (by simpa using m),dB,aX] at q;cases t:ix[j-nt]? with
   |none=>rw [t] at q;cases q
   |some i =>
    rw [t] at q;cases n:ρ[i]? with
    |none=>simp only [dO,n,hX,Qr] at q;cases q
    |some s =>
     simp only [dO,n,kP] at q;cases s<;>cases q
def vA (h:∀ d c n,f d≠.ex c n):∀ (ds:List D) (c:Str) (n:Option D),fw f ds≠.ex c n
 |[],c,n=>λe=>by cases e
 |d::r,c,n=>λe=>by
  unfold fw at e;cases j:f d with
  |ok o =>
   rw [j,bind_ok] at e;cases i:fw f r with
   |ok m=>rw [i,bind_ok] at e;cases e
   |ex x k=>exact vA h r x k i
   |no=>rw [i] at e;cases e
  |ex x k=>exact h d x k j
  |no=>rw [j] at e;cases e
def z0 (nt:Nat) (ρ:aC) (gt:aC->R Bool) (ge:aC->R D) (d:D) (c:Str) (n:Option D):iA nt ρ gt ge d≠.ex c n:=by
 unfold iA D1;split<;>first|exact λe=>by cases e|skip
 rename_i h
 exact λe=>h c n e
inductive cnI (K:aa) (f:D->R (Option D)) (ds ys:List D) (H1 Hs1:Hp) (i m:Nat) (acc:List V) (H':Hp):Prop
 |mk (done bS zs ya Hs':_) (h0:ds=done++bS) (h1:done.length=i) (h2:bS.length=m) (h3:cP H1 Hs1 H' Hs') (h4:RDs K Hs' acc ya) (h5:ya.length<=i) (h6:fw f bS=.ok zs) (h7:ys=ya++zs):cnI K f ds ys H1 Hs1 i m acc H'
def J5 {K:aa}{cls:Str->ao}{E:XK}{nt:Nat}{ix:List Nat}{Y:aC->R (List D)}{gt:aC->R Bool}{ge:aC->R D}{ρ:aC}{σ:St}{H:Hp}{Q:VK} (U:nt=1\/nt=2)
  (q:TN K cls E ρ (eM nt ix Y gt ge ρ) σ H Q) :
  Nb nt ix (Vg K cls E ρ (Y ρ)) (y_ K nt) (λσ H Q=>∃ h,E5 K cls E0 h (gt h) σ H Q) (λσ H Q=>∃ h,TR K cls E0 h (ge h) σ H Q) σ H Q:=by
 obtain ⟨H0,a4,la,Hs,f,q⟩:=q;refine ⟨H0,a4,la,Hs,f,?_⟩;unfold eM at q;cases hi:Y ρ with
 |no=>rw [hi] at q;exact q
 |ex x n=>rw [hi] at q;exact q
 |ok ds =>
  rw [hi,bind_ok] at q;intro J H1 I Hn s1 sn it;by_cases hl:ds.length<=1000
  ·rw [if_pos hl] at q;cases T:fw (iA nt (kr nt ix ρ) gt ge) ds with
   |no=>rw [T] at q;exact q.elim
   |ex x n=>exact (vA (z0 _ _ _ _) _ _ _ T).elim
   |ok ys =>
    rw [T,bind_ok] at q;obtain ⟨lb,fb⟩:=(f.step s1).block nt ix;refine ⟨cnI K (iA nt (kr nt ix ρ) gt ge) ds ys H1 I,
     ⟨ds.length,[],ds,ys,[],I,rfl,rfl,rfl,.refl s1.sub,.nil,cx _,T,rfl⟩,?_⟩
    rintro i m a6 H' ⟨done,bS,zs,ya,L,k,s,N,st,P,yl,hz,O⟩;obtain ⟨a3,t,u⟩:=it H' L (sn.trans st.all) st.sh st.sub;cases bS with
    |nil =>
     left;cases hz;rw [bN] at k O;subst O k;exact ⟨t i (by omega),λp hp=>q p _ H' L (s1.trans st) hp (.lst P)⟩
    |cons d bS =>
     right;have B:i<ds.length:=by rw [k,aJ,aY];omega
     refine ⟨a3 i B,eg (by rw [P.length];omega),λx H2 a1=>?_⟩;obtain ⟨d',a0,hd,M,r2⟩:=u i x H2 B a1;have a2:d'=d:=by
      rw [k,bg (by omega)] at hd;simp [s] at hd;exact hd.symm
     subst a2;obtain ⟨o,w,j,G,rfl⟩:=pE hz;have j:=vw j;cases S:Tu nt d' (kr nt ix ρ) with
     |no=>rw [S] at j;cases j
     |ex x n=>rw [S] at j;cases j
     |ok h =>
      rw [S,bind_ok] at j;refine vz U ((fb.step st).step M) r2 S λa5 f2=>⟨h,?_⟩;refine ⟨_,_,_,a0,f2,?_⟩;cases ht:gt h with
      |no=>rw [ht] at j;cases j
      |ex x n=>rw [ht] at j;cases j
      |ok b =>
       rw [ht,bind_ok] at j;intro H3 A z;cases b with
       |false =>
        rw [if_neg bw] at j;cases j;refine xS ⟨bS.length,by rw [<- N];simp,done++[d'],bS,w,ya,A,by rw [k];simp,by simp [s],rfl,(st.trans M).trans z,P.same (M.trans z).sh,by omega,G,by simpa using O⟩
       |true =>
        rw [if_pos rfl] at j;refine xT ⟨h,_,_,_,A,f2.step z,?_⟩;cases he:ge h with
        |no=>rw [he] at j;cases j
        |ex x n=>rw [he] at j;cases j
        |ok y =>
         rw [he,bind_ok] at j;cases j;intro v H4 X s4 r4;exact ⟨bS.length,by rw [<- N];simp,done++[d'],bS,w,ya++[y],X,by rw [k];simp,by simp [s],rfl,((st.trans M).trans z).trans s4,(P.same ((M.trans z).trans s4).sh).append (.cons r4 .nil),by simp;omega,G,by rw [O];simp⟩
  ·rw [if_neg hl] at q;exact q.elim
def C.comp (c:C) (N':List Str) (scope:eX) (h:List (Str×ao)) (A:ao) (d:ai) (f:Hp) (j:List ao) (i:List (ao×Obj)):C:=⟨bu c.X N' scope h A d f j i,c.cls,E0⟩
variable {elt iter:bp}{ifs:List bp}{scope:eX}{N':List Str}{nt:Nat}{ix:List Nat}{gi:aC->R (List D)}{gt:aC->R Bool}{ge:aC->R D}
def vB (c:C) (N':List Str) (scope:eX) (nt:Nat) (tg:bp) (ifs:List bp) (elt:bp) (gt:aC->R Bool) (ge:aC->R D):Prop :=
 ∀ h A d f j i,PG (c.comp N' scope h A d f j i).X tg (y_ c.X.K nt)/\Tv (c.comp N' scope h A d f j i) ifs gt/\JE (c.comp N' scope h A d f j i) elt ge
def vB.at (h:vB c N' scope nt tg ifs elt gt ge):∀ j A i f m k,PG (bu c.X N' scope j A i f m k) tg (y_ c.X.K nt)/\E4 (bu c.X N' scope j A i f m k) ifs (λσ H Q=>∃ d,E5 c.X.K c.cls E0 d (gt d) σ H Q) /\
  PE (bu c.X N' scope j A i f m k) elt (λσ H Q=>∃ d,TR c.X.K c.cls E0 d (ge d) σ H Q):=λj A i f m k=>by
 obtain ⟨t,v,u⟩:=h j A i f m k;exact ⟨t,λpins s σ H Q I o=>by obtain ⟨d,q⟩:=o;exact v d pins s σ H Q I q,λpins s σ H Q I n=>by obtain ⟨d,q⟩:=n;exact u d pins s σ H Q I q⟩
def eO (nt:Nat) (d:nt=1\/nt=2) (f:c.X.calm=true) (S:jk c.X scope N' nt ix) (h:JI c tg iter gi) (i:vB c N' scope nt tg ifs elt gt ge) (hs:∀ x,bU iter c.X.env x=pure x:=by intro _;rfl) :
  JN c (.ListComp elt [⟨tg,iter,ifs,0⟩] scope pos) (eM nt ix gi gt ge):=.of λρ=>qH (Ep f S (vy d) (h ρ) i.at hs) λσ H Q q=>J5 d q
def kJ (i:Nat) {h u:Pos} (nt:Nat) (j:nt=1\/nt=2) (v:c.X.N.Nodup) (y:c.X.calm=true) (S:jk c.X scope N' nt ix) (A:JI c tg iter gi) (B:vB c N' scope nt tg ifs elt gt ge)
  (s:c.X.N[i]?=some x:=by rfl) (w:c.X.env.scope.names.lookup x=some .local:=by rfl)
  (n:gF (.ListComp elt [⟨tg,iter,ifs,0⟩] scope pos) (some (.Name x u)) h.line c.X.env=pure true:=by rfl)
  (hs:∀ x,bU iter c.X.env x=pure x:=by intro _;rfl):JS c (.Assign [.Name x u] (.ListComp elt [⟨tg,iter,ifs,0⟩] scope pos) h) (fv i (eM nt ix gi gt ge)):=.of λρ=>Am (G_ v s w y S (vy j) (A ρ) B.at n hs) λD σ H k=>by
 obtain ⟨L,K,la,Hs,f,q⟩:=k;refine J5 (Q:=λx t=>D.nx (σ.set i (some x)) t) j (sN f q λd a o t m G E z I=>?_);unfold fv at q;rw [G,bind_ok] at q;exact q _ _ m (E.setO i z I)
end
def NM (h:PS X.nox st t):PS X st t:=λpins s σ H D I a =>
 aT (h pins s σ H D (I.wish _) a) (λ_ _ q=>q.unwish) λ_ _ z=>j7 z
def C.nox (c:C):C:=⟨c.X.nox,c.cls,E0⟩
def jP (k:D->aC->R aC) (b:aC->R Fl):List D->aC->R Fl
 |[],ρ=>.ok (.nx ρ)
 |d::r,ρ=>match k d ρ with
  |.ok ρ1=>match b ρ1 with
   |.ok (.nx a)=>jP k b r a
   |.ok (.ct a)=>jP k b r a
   |.ok (.bk a)=>.ok (.nx a)
   |.ok (.rt d)=>.ok (.rt d)
   |_=>.no
  |_=>.no
def D2 (i:Nat) (ρ:aC):aC:=match ρ[i]? with
 |some (Sl.own d)=>ρ.set i (.lck d)
 |_=>ρ
def z3 (i:Nat) (a ρ:aC):aC:=match a[i]?,ρ[i]? with
 |some (Sl.own _),some (Sl.lck d)=>ρ.set i (.own d)
 |_,_=>ρ
def unl (i:Nat) (a:aC):R Fl->R Fl
 |.ok (.nx ρ)=>.ok (.nx (z3 i a ρ))
 |.ok (.bk ρ)=>.no
 |.ok (.ct ρ)=>.no
 |r=>r
inductive fgI (K:aa) (cls:Str->ao) (E:XK) (H0 Hs0:Hp) (la:Nat->Option ao) (D':Cv) (kt:D->aC->R aC) (gb:aC->R Fl) (ds:List D) (i m:Nat) (σ:St) (H:Hp):Prop
 |mk (done bS ρ Hs:_) (h0:ds=done++bS) (h1:done.length=i) (h2:bS.length=m) (h3:Fr K H0 Hs0 la ρ σ H Hs) (h4:oP K cls E H0 Hs0 la D' (jP kt gb bS ρ)):fgI K cls E H0 Hs0 la D' kt gb ds i m σ H
def NN
  (it:NI K J ds Hn Hs0) (N:du Hn H0) (f:Fr K H0 Hs0 la ρ σ H Hs)
  (A:∀ ρ d v σ H Q,Ve K ρ d (kt d ρ) v σ H Q->tg v σ H Q) (p:∀ ρ D σ H,SR K cls E0 ρ (gb ρ) D σ H->tb D σ H)
  (q:oP K cls E H0 Hs0 la D' (jP kt gb ds ρ)) :
  YV tg tb D' σ J H:=by
 refine ⟨fgI K cls E H0 Hs0 la D' kt gb ds,⟨ds.length,[],ds,ρ,Hs,rfl,rfl,rfl,f,q⟩,?_⟩;rintro i m σ H ⟨done,bS,ρ,Hs,e,l,B,f,q⟩;obtain ⟨t,g,j⟩:=it H Hs (N.trans f.st.all) f.st.sh f.st.sub;cases bS with
 |nil =>
  rw [bN] at e;subst e;exact .inl ⟨g i (by omega),q σ H Hs f⟩
 |cons d bS =>
  have k:i<ds.length:=by rw [e,aJ,aY];omega
  refine .inr ⟨t i k,λσ' H'=>∃ b a,Fr K H0 Hs0 la b σ' H' a/\oP K cls E H0 Hs0 la D' (jP kt gb bS b),λσ' H' ⟨b,a,h,q'⟩=>⟨bS.length,by rw [<- B];simp,done++[d],bS,b,a,by rw [e];simp,by simp [l],rfl,h,q'⟩,λx u y=>?_⟩;obtain ⟨d',o,w,O,P⟩:=j i x u k y;have s:d'=d:=by
   rw [e,bg (by omega)] at w;simp [l] at w;exact w.symm
  subst s;unfold jP at q;refine A ρ d' x σ u _ ⟨H0,Hs0,la,o,f.step O,P,?_⟩;cases z:kt d' ρ with
  |ex c n=>rw [z] at q;exact q
  |no=>rw [z] at q;exact q
  |ok ρ1 =>
   rw [z] at q;intro G M;refine p ρ1 _ G u ⟨H0,Hs0,la,o,M,?_⟩;cases I:gb ρ1 with
   |no=>simp only [I] at q;exact q.elim
   |ex c n=>simp only [I] at q;exact q.elim
   |ok L =>
    simp only [I] at q;cases L with
    |nx b=>exact λσ' H' a h=>⟨b,a,h,q⟩
    |ct b=>exact λσ' H' a h=>⟨b,a,h,q⟩
    |bk b=>exact λσ' H' a h=>q σ' H' a h
    |rt d=>exact q
def t4 (A B:Hp):Hp:=λb=>match A b with
 |some o=>some o
 |none=>B b
def jX:du A (t4 A B):=λb o e=>by unfold t4;rw [e]
def jG (h:A b=none):t4 A B b=B b:=by unfold t4;rw [h]
def EL (a:du A H) (c:du B H):du (t4 A B) H:=λb o e=>by
 cases h:A b with
 |some u=>unfold t4 at e;rw [h] at e;cases e;exact a b o h
 |none=>rw [jG h] at e;exact c b o e
def NO (a:du A H) (c:du B H):du B (t4 A B):=λb o e=>by
 cases h:A b with
 |some u =>
  unfold t4;rw [h];have:=a b u h;rw [c b o e] at this;exact this.symm
 |none=>rw [jG h];exact e
def Fr.into (f:Fr K H0 Hs0 la ρ σ H Hs):Fr K (t4 H0 Hs) Hs la ρ σ H Hs:=by
 have sub:=EL f.st.all f.st.sub;refine ⟨⟨sub,.refl _,f.st.sub,λa o e _ z=>z⟩,f.len,f.sh,λi d h=>?_,λi d h=>?_,f.dj,λi a e=>let ⟨o,k⟩:=f.lh i a e;⟨o,jX _ _ k⟩,λi d h=>?_,f.u2⟩
 ·obtain ⟨a,o,g,n,c,j,m⟩:=f.ow i d h;exact ⟨a,o,g,n,c,by rw [jG j];exact c,m⟩
 ·obtain ⟨a,o,g,n,c,j,m,p⟩:=f.lk i d h;exact ⟨a,o,g,n,c,j,jX _ _ m,p⟩
 ·obtain ⟨a,q,O⟩:=f.o2 i d h;exact ⟨a,q,O.at_,O.ob,O.nd,λb l=>⟨(O.out b l).1,by rw [jG (O.out b l).2];exact (O.out b l).1⟩,O.dj,O.inn⟩
def cP.outof (s:cP H0 Hs0 H1 Hs1) (t:cP (t4 H0 Hs1) Hs1 H' Hs'):cP H0 Hs0 H' Hs' :=
 ⟨jX.trans t.all,s.sh.trans t.sh,t.sub,λa o e n z=>t.out a o (jX _ _ e) n (s.out a o e n z)⟩
def Fr.outof (j:Fr K H0 Hs0 la ρ1 σ1 H1 Hs1) (f:Fr K (t4 H0 Hs1) Hs1 la ρ σ H' Hs'):Fr K H0 Hs0 la ρ σ H' Hs':=by
 refine ⟨j.st.outof f.st,f.len,f.sh,λi d h=>?_,λi d h=>?_,f.dj,j.lh,λi d h=>?_,f.u2⟩
 ·obtain ⟨a,o,g,c,l,m,k⟩:=f.ow i d h;exact ⟨a,o,g,c,l,jX.free m,k⟩
 ·obtain ⟨a,o,g,c,l,m,k,q⟩:=f.lk i d h;obtain ⟨t,e⟩:=j.lh i a c;have n:=jX (B:=Hs1) _ _ e;rw [k] at n;cases n;exact ⟨a,o,g,c,l,m,e,q⟩
 ·obtain ⟨a,s,O⟩:=f.o2 i d h;exact ⟨a,s,O.at_,O.ob,O.nd,λb p=>⟨(O.out b p).1,jX.free (O.out b p).2⟩,O.dj,O.inn⟩
def oP.into (b:Fr K H0 Hs0 la ρ1 σ1 H1 Hs1) (q:oP K cls E H0 Hs0 la D' r):oP K cls E (t4 H0 Hs1) Hs1 la D' r:=by
 cases r with
 |no=>exact q
 |ex c n=>exact λH' a s=>q H' a (b.st.outof s)
 |ok e =>
  cases e with
  |nx ρ=>exact λσ' H' a f=>q σ' H' a (b.outof f)
  |bk ρ=>exact λσ' H' a f=>q σ' H' a (b.outof f)
  |ct ρ=>exact λσ' H' a f=>q σ' H' a (b.outof f)
  |rt d=>exact λv H' a s r=>q v H' a (b.st.outof s) r
def Fr.lock (f:Fr K H0 Hs0 la ρ σ H Hs) (B:ρ[i]?=some (Sl.own d)) (x:σ[i]?=some (some (V.ref a))) (I:H a=some o) (Y:Hs a=none) (L:H0 a=none) (T:n6 K Hs o d) :
  Fr K (t4 H0 (upd Hs a o)) Hs (λj=>if j=i then some a else la j) (ρ.set i (.lck d)) σ H Hs:=by
 have n:i<ρ.length:=(List.getElem?_eq_some_iff.mp B).1;have sub:du (upd Hs a o) H:=λb u q=>by
  by_cases M:b=a
  ·subst M;rw [bi] at q;cases q;exact I
  ·rw [bj M] at q;exact f.st.sub b u q
 have nx:∀ {j:Nat}{s:Sl},(∀ d,s≠.lck d)->(ρ.set i (.lck d))[j]?=some s->ρ[j]?=some s/\i≠j:=λ{j s} hs e=>by
  by_cases g:i=j
  ·subst g;rw [aM n] at e;exact absurd (bY e).symm (hs d)
  ·rw [ar g] at e;exact ⟨e,g⟩
 refine ⟨⟨EL f.st.all sub,.refl _,f.st.sub,λa o e _ z=>z⟩,by simp [f.len],λj e h=>?_,λj e h=>?_,λj e h=>?_,λj k w y b m p N Q=>?_,λj b h=>?_,λj e h=>?_,λj k w y m p=>?_⟩
 ·obtain ⟨h,_⟩:=nx (λ_ z=>by cases z) h;exact f.sh j e h
 ·obtain ⟨h,g⟩:=nx (λ_ z=>by cases z) h;obtain ⟨b,u,t,E,v,A,G⟩:=f.ow j e h;refine ⟨b,u,t,E,v,?_,G⟩;rw [jG A,bj (λz=>g ?_)]
  ·exact v
  ·subst z;exact f.dj i j d e b B h x t
 ·by_cases g:i=j
  ·subst g;rw [aM n] at h;cases h;exact ⟨a,o,x,if_pos rfl,I,Y,by rw [jG L,bi],T⟩
  ·rw [ar g] at h;obtain ⟨b,u,t,E,v,A,G,P⟩:=f.lk j e h;exact ⟨b,u,t,by rw [if_neg (cF g)];exact E,v,A,jX _ _ G,P⟩
 ·obtain ⟨m,_⟩:=nx (λ_ z=>by cases z) m;obtain ⟨p,_⟩:=nx (λ_ z=>by cases z) p;exact f.dj j k w y b m p N Q
 ·by_cases g:j=i
  ·simp only [if_pos g] at h;cases h;exact ⟨o,by rw [jG L,bi]⟩
  ·simp only [if_neg g] at h;obtain ⟨u,e⟩:=f.lh j b h;exact ⟨u,jX _ _ e⟩
 ·obtain ⟨h,g⟩:=nx (λ_ z=>by cases z) h;obtain ⟨b,U,O⟩:=f.o2 j e h;refine ⟨b,U,O.at_,O.ob,O.nd,λc l=>⟨(O.out c l).1,?_⟩,λc l k S X=>O.dj c l k S (nx (λ_ z=>by cases z) X).1,O.inn⟩;rw [jG (O.out c l).2,bj (λz=>?_)]
  ·exact (O.out c l).1
  ·subst z;exact O.dj c l i d B x
 ·exact f.u2 j k w y (nx (λ_ z=>by cases z) m).1 (nx (λ_ z=>by cases z) p).1
def cP.unlock (s:cP H0 Hs0 H Hs) (t:cP (t4 H0 (upd Hs a o)) Hs H' Hs'):cP H0 Hs0 H' Hs' :=
 ⟨jX.trans t.all,s.sh.trans t.sh,t.sub,λb u e n z=>t.out b u (jX _ _ e) n (s.out b u e n z)⟩
def Fr.unlock (f:Fr K H0 Hs0 la ρ σ H Hs) (E:ρ[i]?=some (Sl.own d)) (k4:H0 a=none)
  (g:Fr K (t4 H0 (upd Hs a o)) Hs (λj=>if j=i then some a else la j) ρ' σ' H' Hs'):Fr K H0 Hs0 la (z3 i ρ ρ') σ' H' Hs':=by
 have st:=f.st.unlock g.st;have own:∀ (j:Nat) (e:D),ρ'[j]?=some (Sl.own e)->∃ b u,σ'[j]?=some (some (V.ref b))/\H' b=some u/\Hs' b=none/\H0 b=none/\n6 K Hs' u e/\(t4 H0 (upd Hs a o)) b=none:=λj e h=>by
  obtain ⟨b,u,l,m,t,n,p⟩:=g.ow j e h;exact ⟨b,u,l,m,t,jX.free n,p,n⟩
 have lck:∀ (j:Nat) (e:D),j≠i->ρ'[j]?=some (Sl.lck e)->∃ b u,σ'[j]?=some (some (V.ref b))/\la j=some b/\H' b=some u/\Hs' b=none/\H0 b=some u/\n6 K Hs' u e:=λj e q h=>by
  obtain ⟨b,u,l,m,t,n,p,Y⟩:=g.lk j e h;simp only [if_neg q] at m;obtain ⟨u',T⟩:=f.lh j b m;have:=jX (B:=upd Hs a o) _ _ T;rw [p] at this;cases this;exact ⟨b,u,l,m,t,n,T,Y⟩
 have two:∀ (j:Nat) (e:List (List D)),ρ'[j]?=some (Sl.ow2 e)->∃ b G,O2 K H0 H' Hs' ρ' σ' j e b G:=λj e h=>by
  obtain ⟨b,G,O⟩:=g.o2 j e h;exact ⟨b,G,O.at_,O.ob,O.nd,λc M=>⟨(O.out c M).1,jX.free (O.out c M).2⟩,O.dj,O.inn⟩
 unfold z3;cases A:ρ'[i]? with
 |none =>
  simp only [E];refine ⟨st,g.len,g.sh,λj e h=>let ⟨b,u,l,m,t,n,p,_⟩:=own j e h;⟨b,u,l,m,t,n,p⟩,λj e h=>lck j e (λz=>by rw [z,A] at h;cases h) h,g.dj,f.lh,two,g.u2⟩
 |some s =>
  cases s with
  |no=>simp only [E];exact ⟨st,g.len,g.sh,λj e h=>let ⟨b,u,l,m,t,n,p,_⟩:=own j e h;⟨b,u,l,m,t,n,p⟩,λj e h=>lck j e (λz=>by rw [z,A] at h;cases h) h,g.dj,f.lh,two,g.u2⟩
  |shr _=>simp only [E];exact ⟨st,g.len,g.sh,λj e h=>let ⟨b,u,l,m,t,n,p,_⟩:=own j e h;⟨b,u,l,m,t,n,p⟩,λj e h=>lck j e (λz=>by rw [z,A] at h;cases h) h,g.dj,f.lh,two,g.u2⟩
  |own _=>simp only [E];exact ⟨st,g.len,g.sh,λj e h=>let ⟨b,u,l,m,t,n,p,_⟩:=own j e h;⟨b,u,l,m,t,n,p⟩,λj e h=>lck j e (λz=>by rw [z,A] at h;cases h) h,g.dj,f.lh,two,g.u2⟩
  |ow2 _=>simp only [E];exact ⟨st,g.len,g.sh,λj e h=>let ⟨b,u,l,m,t,n,p,_⟩:=own j e h;⟨b,u,l,m,t,n,p⟩,λj e h=>lck j e (λz=>by rw [z,A] at h;cases h) h,g.dj,f.lh,two,g.u2⟩
  |lck d' =>
   simp only [E];have L:i<ρ'.length:=(List.getElem?_eq_some_iff.mp A).1;have nx:∀ {j:Nat}{s:Sl},(∀ d,s≠.own d)->(ρ'.set i (.own d'))[j]?=some s->ρ'[j]?=some s/\i≠j:=λ{j s} hs e=>by
    by_cases q:i=j
    ·subst q;rw [aM L] at e;exact absurd (bY e).symm (hs d')
    ·rw [ar q] at e;exact ⟨e,q⟩
   obtain ⟨b,u,l,m,t,n,p,Y⟩:=g.lk i d' A;simp only [if_pos rfl] at m;cases m;have ne:∀ (j:Nat) (e:D),ρ'[j]?=some (Sl.own e)->σ'[j]?≠some (some (V.ref a)):=λj e h z=>by
    obtain ⟨b,u,U,_,_,_,_,p6⟩:=own j e h;rw [z] at U;cases U;rw [p] at p6;cases p6
   refine ⟨st,by simp [g.len],λj e h=>?_,λj e h=>?_,λj e h=>?_,λj k N Q c v I P S=>?_,f.lh,λj e h=>?_,λj k N Q v I=>?_⟩
   ·obtain ⟨h,_⟩:=nx (λ_ z=>by cases z) h;exact g.sh j e h
   ·by_cases q:i=j
    ·subst q;rw [aM L] at h;cases h;exact ⟨a,u,l,t,n,k4,Y⟩
    ·rw [ar q] at h;obtain ⟨b,u,U,p2,p3,p4,p5,_⟩:=own j e h;exact ⟨b,u,U,p2,p3,p4,p5⟩
   ·obtain ⟨h,q⟩:=nx (λ_ z=>by cases z) h;exact lck j e (cF q) h
   ·by_cases q:i=j
    ·by_cases w:i=k
     ·exact q.symm.trans w
     ·rw [ar w] at I;subst q;rw [l] at P;cases P;exact (ne k Q I S).elim
    ·rw [ar q] at v;by_cases w:i=k
     ·subst w;rw [l] at S;cases S;exact (ne j N v P).elim
     ·rw [ar w] at I;exact g.dj j k N Q c v I P S
   ·obtain ⟨h,q⟩:=nx (λ_ z=>by cases z) h;obtain ⟨b,G,O⟩:=two j e h;refine ⟨b,G,O.at_,O.ob,O.nd,O.out,λc M k T w=>?_,O.inn⟩;by_cases nk:i=k
    ·subst nk;intro z;rw [l] at z;cases z;obtain ⟨b',X,O'⟩:=g.o2 j e h;have hh:=O.at_;rw [O'.at_] at hh;cases hh;have hs:X=G:=by
      have v:=O.ob;rw [O'.ob] at v;injection v with v;injection v with v;exact Mh (λx y z=>by cases z;rfl) |>.mp v
     subst hs;have:=(O'.out _ M).2;rw [p] at this;cases this
    ·rw [ar nk] at w;exact O.dj c M k T w
   ·exact g.u2 j k N Q (nx (λ_ z=>by cases z) v).1 (nx (λ_ z=>by cases z) I).1
def oQ (a:aC->R (List D)) (kt:D->aC->R aC) (gb:aC->R Fl):aC->R Fl:=λρ=>match a ρ with
 |.ok ds=>jP kt gb ds ρ
 |_=>.no
def pG (l:c.X.calm=true) (o:Mn c.nox tg iter gi) (w:JG c.nox tg kt) (p:IZ c.nox body gbd) (hs:∀ x,bU iter c.X.env x=pure x:=by intro _;rfl):JS c (.For tg iter body [] pos) (oQ gi kt gbd):=.of λρ=>by
 refine NM (Am (MT wt l (o ρ) (g:=λv σ H Q=>∃ ρ d,Ve c.X.K ρ d (kt d ρ) v σ H Q) (tb:=λD σ H=>∃ ρ,SR c.X.K c.cls E0 ρ (gbd ρ) D σ H) ?_ ?_ hs) λD σ H ⟨m,j,la,Hs,f,q⟩=>?_)
 ·exact λpins s σ H v u Q I r b=>by obtain ⟨ρ,d,q⟩:=b;exact w ρ d pins s σ H v u Q I r q
 ·exact λpins s σ H D I i=>by obtain ⟨ρ,q⟩:=i;exact p ρ pins s σ H D I q
 ·refine ⟨m,j,la,Hs,f,?_⟩;unfold oQ at q;cases e:gi ρ with
  |no=>rw [e] at q;exact q
  |ex x n=>rw [e] at q;exact q.elim
  |ok ds =>
   rw [e] at q;intro J y t k it;have a:=f.step k;exact NN (E:=c.E) (cls:=c.cls) (kt:=kt) (gb:=gbd) (tg:=λv σ H Q=>∃ ρ d,Ve c.X.K ρ d (kt d ρ) v σ H Q) (tb:=λD σ H=>∃ ρ,SR c.X.K c.cls E0 ρ (gbd ρ) D σ H) it (NO a.st.all a.st.sub) a.into (λρ d v σ H Q h=>⟨ρ,d,h⟩) (λρ D σ H h=>⟨ρ,h⟩) (oP.into a q)
def qt (i:Nat) (kt:D->aC->R aC) (gb:aC->R Fl):aC->R Fl:=λρ=>match ρ[i]? with
 |some (Sl.own (.list ds))=>unl i ρ (jP kt gb ds (D2 i ρ))
 |_=>oQ (jf λρ=>Gr ρ i) kt gb ρ
def z9 {kt:D->aC->R aC}{gb:aC->R Fl}:∀ (ds:List D) (ρ:aC) (a:Fl),jP kt gb ds ρ=.ok a->(∃ b,a=.nx b)\/∃ d,a=.rt d
 |[],ρ,a,h=>by cases h;exact .inl ⟨_,rfl⟩
 |d::r,ρ,a,h=>by
  unfold jP at h;split at h
  ·split at h
   ·exact z9 r _ _ h
   ·exact z9 r _ _ h
   ·cases h;exact .inl ⟨_,rfl⟩
   ·cases h;exact .inr ⟨_,rfl⟩
   ·cases h
  ·cases h
def D3 {kt:D->aC->R aC}{gb:aC->R Fl}:∀ (ds:List D) (ρ:aC) (c:Str) (n:Option D),jP kt gb ds ρ≠.ex c n
 |[],ρ,c,n,h=>by cases h
 |d::r,ρ,c,n,h=>by
  unfold jP at h;split at h
  ·split at h
   ·exact D3 r _ _ _ h
   ·exact D3 r _ _ _ h
   ·cases h
   ·cases h
   ·cases h
  ·cases h
def J6 (i:Nat) (M:c.X.calm=true) (U:JG c.nox tg kt) (l:IZ c.nox body gbd) (B:c.X.N[i]?=some x:=by rfl) (T:Mk c.X.env.scope x:=by first|exact g_ rfl|exact eF (g_ rfl)|exact eF (eF rfl)) (S:(x==("__debug__" : Str))=false:=by decide)
  (k:(x==("__classdict__" : Str))=false:=by decide) (hs:∀ y,bU (.Name x p) c.X.env y=pure y:=by intro _;rfl):JS c (.For tg (.Name x p) body [] pos) (qt i kt gbd):=.of λρ=>by
 by_cases ho:∃ ds,ρ[i]?=some (Sl.own (.list ds))
 ·obtain ⟨ds,ho⟩:=ho;refine NM (Am (MT (tg:=tg) wt M (v4 (X:=c.nox.X) (pi B T S k)) (g:=λv σ H Q=>∃ ρ d,Ve c.X.K ρ d (kt d ρ) v σ H Q) (tb:=λD σ H=>∃ ρ,SR c.X.K c.cls E0 ρ (gbd ρ) D σ H) ?_ ?_ hs) λD σ H ⟨H0,a1,la,Hs,f,q⟩=>?_)
  ·exact λpins s σ H v u Q I r t=>by obtain ⟨ρ,d,q⟩:=t;exact U ρ d pins s σ H v u Q I r q
  ·exact λpins s σ H D I w=>by obtain ⟨ρ,q⟩:=w;exact l ρ pins s σ H D I q
  ·obtain ⟨a,o,G,z,k3,L,k5⟩:=f.ow i _ ho;cases k5 with
   | @lst A _ r =>
    refine ⟨_,G,a,rfl,⟨_,.of z⟩,?_⟩;have Y:nZ c.X.K (upd Hs a (.lst A)) a A:=.of bi;unfold qt at q;simp only [ho] at q;have O:=f.lock ho G z k3 L (.lst r);have sub:du (upd Hs a (.lst A)) H:=λb u q=>by
     by_cases l:b=a
     ·subst l;rw [bi] at q;cases q;exact z
     ·rw [bj l] at q;exact f.st.sub b u q
    refine NN (E:=c.E) (cls:=c.cls) (kt:=kt) (gb:=gbd) (ρ:=D2 i ρ) (Hs:=Hs) (la:=λP=>if P=i then some a else la P) (tg:=λv σ H Q=>∃ ρ d,Ve c.X.K ρ d (kt d ρ) v σ H Q) (tb:=λD σ H=>∃ ρ,SR c.X.K c.cls E0 ρ (gbd ρ) D σ H) (C_ Y r) (NO f.st.all sub) ?_ (λρ d v σ H Q h=>⟨ρ,d,h⟩) (λρ D σ H h=>⟨ρ,h⟩) ?_
    ·unfold D2;rw [ho];exact O
    ·cases m:jP kt gbd ds (D2 i ρ) with
     |no=>rw [m] at q;exact q
     |ex c n=>exact (D3 _ _ _ _ m).elim
     |ok O =>
      rw [m] at q;rcases z9 _ _ _ m with ⟨a0,rfl⟩|⟨d,rfl⟩
      ·exact λσ' H' j f'=>q σ' H' j (f.unlock ho L f')
      ·exact λv H' j s r=>q v H' j (f.st.unlock s) r
 ·have e:qt i kt gbd ρ=oQ (jf λρ=>Gr ρ i) kt gbd ρ:=by
   unfold qt;split
   ·rename_i ds h;exact (ho ⟨ds,h⟩).elim
   ·rfl
  rw [e];exact pG M (D0 (c:=c.nox) (ap (c:=c.nox) i B T S k)) U l hs ρ
def fK (t:aC->R Bool) (b:aC->R Fl):Nat->aC->R Fl
 | 0,_=>.no
 |n+1,ρ=>match t ρ with
  |.ok true=>match b ρ with
   |.ok (.nx a)=>fK t b n a
   |.ok (.ct a)=>fK t b n a
   |.ok (.bk a)=>.ok (.nx a)
   |.ok (.rt d)=>.ok (.rt d)
   |_=>.no
  |.ok false=>.ok (.nx ρ)
  |_=>.no
def zb (n:Nat) (y:JT c.nox t gt) (A:IZ c.nox body gbd):JS c (.While t body [] pos) (fK gt gbd n):=.of λρ=>by
 refine NM (Am (MQ wt (tc:=λσ H Q=>∃ ρ,E5 c.X.K c.cls E0 ρ (gt ρ) σ H Q) (tb:=λD σ H=>∃ ρ,SR c.X.K c.cls E0 ρ (gbd ρ) D σ H) ?_ ?_) λD σ H ⟨j,g,la,Hs,f,q⟩=>?_)
 ·exact λpins s σ H Q I p=>by obtain ⟨ρ,q⟩:=p;exact y ρ pins s σ H Q I q
 ·exact λpins s σ H D I o=>by obtain ⟨ρ,q⟩:=o;exact A ρ pins s σ H D I q
 ·refine ⟨λm σ H=>∃ ρ Hs,Fr c.X.K j g la ρ σ H Hs/\oP c.X.K c.cls c.E j g la D (fK gt gbd m ρ),⟨n,ρ,Hs,f,q⟩,?_⟩;rintro m σ H ⟨ρ,Hs,f,q⟩;cases m with
  |zero=>exact q.elim
  |succ m =>
   unfold fK at q;refine ⟨ρ,j,g,la,Hs,f,?_⟩;cases u:gt ρ with
   |no=>rw [u] at q;exact q
   |ex x n=>rw [u] at q;exact q.elim
   |ok b =>
    rw [u] at q;intro w k v;cases b with
    |false=>exact xS (q σ w k (f.step v))
    |true =>
     refine xT ⟨λσ' H'=>∃ e a,Fr c.X.K j g la e σ' H' a/\oP c.X.K c.cls c.E j g la D (fK gt gbd m e),λσ' H' h=>⟨m,cZ _,h⟩,ρ,j,g,la,k,f.step v,?_⟩;cases i:gbd ρ with
     |no=>simp only [i] at q;exact q
     |ex x n=>simp only [i] at q;exact q.elim
     |ok z =>
      simp only [i] at q;cases z with
      |nx e=>exact λσ' H' a l=>⟨e,a,l,q⟩
      |ct e=>exact λσ' H' a l=>⟨e,a,l,q⟩
      |bk e=>exact λσ' H' a l=>q σ' H' a l
      |rt d=>exact q
def wK (i:Nat) (g:aC->R D):aC->R Fl:=λρ=>match ρ[i]? with
 |some (Sl.own (.list ds))=>(g ρ).bind λd=>if ds.length<1000 then .ok (.nx (ρ.set i (.own (.list (ds++[d]))))) else .no
 |_=>.no
def sg (i:Nat) (h:JE c e g) (B:c.X.N[i]?=some x:=by rfl) (S:Mk c.X.env.scope x:=by first|exact g_ rfl|exact eF (g_ rfl)|exact eF (eF rfl)) (P:(x==("__debug__" : Str))=false:=by decide)
  (s:(x==("__classdict__" : Str))=false:=by decide)
  (k:qL (.Name x p) "append" c.X.env (dn (.Name x p) c.X.env)=dn (.Name x p) c.X.env:=by rfl)
  (m:((fX cpos (aH [e] c.X.env)).all (λx=>!x.1)&&(backToKw cpos (Qw [] c.X.env)).all (λx=>x.1.isSome)
   && decide ([e].length+([] : List As).length+(if ([] : List As).isEmpty then 0 else 1)<30))=true:=by rfl)
  (j:(apos.endLine==cpos.line)=true:=by rfl) (l:aH [e] c.X.env=(false,dn e c.X.env)::aH [] c.X.env:=by rfl) (b:(fX cpos (aH [] c.X.env)).any (·.1)=false:=by rfl)
  (hs:gF (.Call (.Attribute (.Name x p) "append" apos) [e] [] cpos) none pos.line c.X.env=pure false:=by rfl) :
  JS c (.Expr (.Call (.Attribute (.Name x p) "append" apos) [e] [] cpos) pos) (wK i g):=.of λρ=>by
 refine Am (Cy (Ta Bd AA AB Bm (pi B S P s) (hU (h ρ) jx l) k m j l b) hs) λD σ H n=>?_;obtain ⟨G,u,la,Hs,f,q⟩:=n;replace q:oP c.X.K c.cls c.E G u la D (wK i g ρ):=q;unfold wK at q;split at q
 ·rename_i ds ho
  obtain ⟨a,o,A,y,k3,Y,L⟩:=f.ow i _ ho;cases L with
  | @lst T _ r =>
   refine ⟨_,A,.inl ⟨rfl,_,.of y⟩,?_⟩;refine sE f q λd v U t M w I O=>?_;rw [M,bind_ok] at q;by_cases z:ds.length<1000
   ·rw [if_pos z] at q;have Q:=r.same w.sh;exact ⟨a,T,v,rfl,rfl,w.all _ _ y,eg (by rw [r.length];omega),q _ _ t (I.write i ho A (.lst (Q.append (.cons O .nil))))⟩
   ·rw [if_neg z] at q;exact q.elim
 ·exact q.elim
def mz:D->Option dQ
 |.int i=>some (.inl i)
 |.str x=>some (.inr x)
 |_=>none
def mB (h:mz d=some y):d=kD y:=by
 cases d<;>cases h<;>rfl
@[simp] theorem keyOf_of (y:dQ):mz (kD y)=some y:=by cases y<;>rfl
def og (kvs:List (D×D)) (k d:D):List (D×D):=if kvs.any (λa=>b9 a.1 k) then kvs.map (λa=>if b9 a.1 k then (a.1,d) else a) else kvs++[(k,d)]
def D4 (a b:dQ):b9 (kD a) (kD b)=decide (a=b):=by
 cases a<;>cases b<;>simp [kD,b9,rO]
def RDk.any (y:dQ):∀ {ds:List (D×D)},RDk K H kvs ds->(ds.any λa=>b9 a.1 (kD y))=kvs.any λa=>decide (a.1=y):=by
 induction kvs with
 |nil=>intro ds h;cases h;rfl
 |cons x r b=>intro ds h;cases h with|cons h t=>rw [eS,eS,b t,D4]
def RDk.repl (y:dQ) (b:RD K H v d):∀ {kvs:List (dQ×V)}{ds:List (D×D)},RDk K H kvs ds ->
  RDk K H (kvs.map λa=>if a.1=y then (a.1,v) else a) (ds.map λa=>if b9 a.1 (kD y) then (a.1,d) else a)
 |_,_,.nil=>.nil
 |_,_,.cons (k:=k) h t=>by
  rw [az,az];have e:=D4 k y;by_cases c:k=y
  ·subst c;rw [show (if k=k then (k,v) else (k,_))=(k,v) from if_pos rfl,show (if b9 (kD k) (kD k)=true then (kD k,d) else (kD k,_))=(kD k,d) from if_pos (by rw [e];simp)];exact .cons b (RDk.repl k b t)
  ·simp only [e,c,if_neg,decide_false,ba,not_false_eq_true];exact .cons h (RDk.repl y b t)
def RDk.snoc (y:dQ) (a:RD K H v d):∀ {kvs:List (dQ×V)}{ds:List (D×D)},RDk K H kvs ds->RDk K H (kvs++[(y,v)]) (ds++[(kD y,d)])
 |_,_,.nil=>.cons a .nil
 |_,_,.cons h t=>.cons h (RDk.snoc y a t)
def RDk.put (r:RDk K H kvs ds) (y:dQ) (a:RD K H v d):RDk K H (kn kvs y v) (og ds (kD y) d):=by
 unfold kn og;rw [r.any y];split
 ·exact r.repl y a
 ·exact r.snoc y a
def eP (kvs:List (D×D)):Bool:=kvs.all λa=>(mz a.1).isSome
def t5 (i:Nat) (a g:aC->R D):aC->R Fl:=λρ=>match ρ[i]? with
 |some (Sl.own (.dict kvs))=>(g ρ).bind λd=>(a ρ).bind λk=>match mz k with
  |some _=>if kvs.length<1000/\eP kvs=true then .ok (.nx (ρ.set i (.own (.dict (og kvs k d))))) else .no
  |none=>.no
 |_=>.no
def wL (h:RD K H v (kD y)):v=kV y:=by
 cases y<;>cases h<;>rfl
def RDt.flat (h:RDt K H kvs ds) (f:eP ds=true):kvs=[]/\ds=[]:=by
 cases h with
 |nil=>exact ⟨rfl,rfl⟩
 |cons h t=>simp [eP,tD,mz] at f
def D5 (i:Nat) (h:JE c e g) (hk:JE c k gk) (hu:c.X.A.units+1<gC) (hN:c.X.N[i]?=some x:=by rfl) (hv:Mk c.X.env.scope x:=by first|exact g_ rfl|exact eF (g_ rfl)|exact eF (eF rfl)) (hd:(x==("__debug__" : Str))=false:=by decide)
  (L:(x==("__classdict__" : Str))=false:=by decide) (hs:gF e (some (.Subscript (.Name x p) k apos)) pos.line c.X.env=pure false:=by rfl):JS c (.Assign [.Subscript (.Name x p) k apos] e pos) (t5 i gk g):=.of λρ=>by
 refine Am (IR hu (pi hN hv hd L) (hk ρ) (h ρ) hs) λD σ H P=>?_
 obtain ⟨H0,u,la,Hs,f,q⟩:=P
 replace q:oP c.X.K c.cls c.E H0 u la D (t5 i gk g ρ):=q
 unfold t5 at q
 split at q
 ·rename_i kvs ho
  obtain ⟨a,o,I,M,k3,k4,k5⟩:=f.ow i _ ho
  have j:∀ {H:Hp}{T:List (dQ×V)},Fr c.X.K H0 u la ρ σ H Hs->H a=some (.dK T)->RDk c.X.K Hs T kvs->Te (Ur i) (TR c.X.K c.cls c.E ρ (gk ρ)) (TR c.X.K c.cls c.E ρ (g ρ)) D σ H:=λ{H T} f M r=>by
   refine sE f q λd v U l s G m Q=>?_
   rw [s,bind_ok] at q
   refine ⟨_,I,sE m q λy w H2 b B t O S=>?_⟩
   rw [B,bind_ok] at q
   split at q
   ·rename_i ky hy
    obtain rfl:=mB hy
    by_cases Y:kvs.length<1000/\eP kvs=true
    ·rw [if_pos Y] at q
     have ha:=t.all _ _ (G.all _ _ M)
     have r':=(r.same G.sh).same t.sh
     rw [wL S]
     exact ⟨a,_,rfl,Em.k ha (eg (by rw [r.length];omega)),q _ _ b (O.write i ho I (.dK (r'.put ky (Q.same t.sh))))⟩
    ·rw [if_neg Y] at q;exact q.elim
   ·exact q.elim
  cases k5 with
  |dK r=>exact j f M r
  |dT n r =>
   refine sE f q λd v U l s G m Q=>?_
   rw [s,bind_ok] at q
   refine ⟨_,I,sE m q λy w H2 b B t O S=>?_⟩
   rw [B,bind_ok] at q
   split at q
   ·rw [if_neg (λz=>n (r.flat z.2).1)] at q;exact q.elim
   ·exact q.elim
  |dF n r =>
   refine sE f q λd v U l s G m Q=>?_
   rw [s,bind_ok] at q
   refine ⟨_,I,sE m q λy w H2 b B t O S=>?_⟩
   rw [B,bind_ok] at q
   split at q
   ·rw [if_neg (λz=>by cases z.2)] at q;exact q.elim
   ·exact q.elim
 ·exact q.elim
def ic (kvs:List (D×D)) (k:D):Option D:=(kvs.find? λa=>b9 a.1 k).map (·.2)
def RDk.val : ∀ {kvs:List (dQ×V)}{ds:List (D×D)},RDk K H kvs ds->∀ (y:dQ),(oN kvs y=none/\ic ds (kD y)=none)\/∃ v d,oN kvs y=some v/\ic ds (kD y)=some d/\RD K H v d
 |_,_,.nil,y=>.inl ⟨rfl,rfl⟩
 |_,_,.cons (k:=k) h t,y=>by
  unfold oN ic;rw [bH,bH,D4];by_cases a:k=y
  ·simp only [a,decide_true,dO];exact .inr ⟨_,_,rfl,rfl,h⟩
  ·simp only [a,decide_false];exact RDk.val t y
def bq:D->D->R D
 |.dict kvs,k=>match mz k with
  |some _=>if eP kvs=true then (match ic kvs k with
   |some d=>.ok d
   |none=>.no) else .no
  |none=>.no
 |x,k=>Ho x k
def cr (M:c.X.A.units+1<gC) (B:JB c a ga) (E:JB c b gb) (hs:v7 b:=by exact λ_ _=>rfl):JE c (.Subscript a b pos) (g2 ga gb bq):=.of λρ=>by
 by_cases g:∃ kvs,ga ρ=.ok (.dict kvs)
 ·obtain ⟨kvs,g⟩:=g;refine qH (IQ M (B ρ) (E ρ) hs) λσ H Q l=>?_;obtain ⟨H0,a0,la,Hs,f,q⟩:=l;refine one f q λd v H1 S G z T Y=>?_;rw [g] at G;cases G;unfold g2 at q;rw [g,bind_ok] at q;refine one T (q.on z (q':=λ_=>True) λ_ _=>trivial) λy w U s e2 I O x=>?_;rw [e2,bind_ok] at q;unfold bq at q;simp only at q;split at q
  ·rename_i t L
   obtain rfl:=mB L;by_cases i:eP kvs=true
   ·rw [if_pos i] at q;obtain ⟨p,rfl,h⟩:=(Y.step I).dict O.st.sub;have P:w=kV t:=by
     rcases x with x|⟨_,o,rfl,_,_,ow⟩
     ·exact wL x
     ·cases t<;>cases ow
    subst P;rcases h with ⟨K,m,j⟩|⟨K,m,hn,j⟩|⟨o,K,es,rfl,m,hn,j⟩
    ·rcases j.val t with ⟨_,n⟩|⟨u,d,n,h4,h5⟩
     ·rw [n] at q;exact q.elim
     ·rw [h4] at q;exact ⟨p,u,rfl,by rw [<- n];exact vd.k m,q _ U s (z.trans I) h5⟩
    ·exact (hn (j.flat i).1).elim
    ·cases i
   ·rw [if_neg i] at q;exact q.elim
  ·exact q.elim
 ·refine qH (WZ B E hs ρ) λσ H Q q=>?_;have e:g2 ga gb bq ρ=g2 ga gb Ho ρ:=by
   unfold g2;cases N:ga ρ with
   |ok d =>
    cases d with
    |dict kvs=>exact (g ⟨kvs,N⟩).elim
    |_=>rfl
   |_=>rfl
  rw [e] at q;exact q
def kS:D->R D
 |.dict kvs=>if eP kvs=true then .ok (.list (kvs.map (·.1))) else .no
 |x=>By x
def EM : ∀ {kvs:List (dQ×V)}{ds:List (D×D)},RDk K H kvs ds->RDs K H (kvs.map λp=>kV p.1) (ds.map (·.1))
 |_,_,.nil=>.nil
 |_,_,.cons (k:=k) h t=>.cons (by cases k<;>constructor) (EM t)
def zc (v:X.calm=true):Mm X (.type "list") (i9 kS):=by
 refine ue (λd c n=>?_) λpins s σ H x u Q Hs d d' I p sub j b q=>?_
 ·unfold kS By;split<;>(try split)<;>(try split)<;>exact λh=>by cases h
 ·by_cases t:∃ kvs,d=.dict kvs
  ·obtain ⟨kvs,rfl⟩:=t;unfold kS at b;simp only at b;split at b
   ·rename_i m
    cases b;obtain ⟨a,rfl,⟨i,g,f⟩|⟨i,g,n,f⟩|⟨o,i,es,rfl,g,n,f⟩⟩:=j.dict sub
    ·exact yQ v pins s σ H _ _ Q I (.cons p .nil) ⟨a,i,rfl,g,λl k=>q _ _ _ (.new sub k) (.list (.of bi) ((EM f).same (cP.new sub k).sh))⟩
    ·exact (n (f.flat m).1).elim
    ·cases m
   ·cases b
  ·have e:kS d=By d:=by
    cases d with
    |dict kvs=>exact (t ⟨kvs,rfl⟩).elim
    |_=>rfl
   rw [e] at b;exact (Ry (X:=X)).1 pins s σ H [x] [u] Q I (.cons p .nil) ⟨Hs,[d],sub,.cons j .nil,d',b,q⟩
section
open PyProof.Rows (envOfC)
section
variable {c:C}{e a b d:bp}{g ga gb gc:aC->R D}{pos p cpos:Pos}{x:Str}
def NQ (hx:∀ x y c n,h x y≠.ex c n) (s:∀ x y c n,h' x y≠.ex c n) (q:TR K cls E ρ (r9 ga gb gc h h' ρ) σ H Q) :
  GT (rD K h) (rD K h') (TB K cls E ρ (ga ρ)) (TB K cls E ρ (gb ρ)) (TB K cls E ρ (gc ρ)) σ H Q:=by
 obtain ⟨H0,a0,la,Hs,f,q⟩:=q;refine one f q λx v H1 T e1 l f1 r1=>?_;unfold r9 at q;rw [e1,bind_ok] at q;refine one f1 (q.on l (q':=λ_=>True) λ_ _=>trivial) λy u H2 I e2 o M N=>?_;rw [e2,bind_ok] at q;cases m:h x y with
 |ex c n=>exact (hx x y c n m).elim
 |no=>rw [m] at q;exact q.elim
 |ok z =>
  rw [m,bind_ok] at q;refine ⟨I,x,y,M.st.sub,r1.step o,N,z,m,λw Y A j r3=>?_⟩;cases r3 with
  |bool k =>
   refine ⟨k,rfl,?_⟩;have X:=M.step j;cases k with
   |false=>exact xS (q _ Y A (l.trans (o.trans j)) (.bool _))
   |true =>
    refine xT (one X (q.on (l.trans (o.trans j)) (q':=λ_=>True) λ_ _=>trivial) λt u' H4 G P L O U=>?_);simp only [P,bind_ok] at q;cases i:h' y t with
    |ex c n=>exact (s y t c n i).elim
    |no=>rw [i] at q;exact q.elim
    |ok z' =>
     rw [i] at q;exact ⟨G,y,t,O.st.sub,(N.step j).step L,U,z',i,λw H5 B S r5=>q w H5 B (l.trans (o.trans (j.trans (L.trans S)))) r5⟩
  |none=>exact q.elim
  |int _=>exact q.elim
  |str _=>exact q.elim
  |list _ _=>exact q.elim
  |tuple _ _=>exact q.elim
  |dictK _ _=>exact q.elim
  |dictT _ _ _=>exact q.elim
  |dictF _ _ _=>exact q.elim
def EN (ho:wG c.X (bI op) h) (f:wG c.X (bI op') h') (k:JB c a ga) (l:JB c b gb) (j:JB c d gc) (i:M6 [op,op'] [b,d]=false:=by with_unfolding_all rfl):JE c (.Compare a [op,op'] [b,d] pos) (r9 ga gb gc h h') :=
 .of λρ=>qH (MV ho.1 f.1 (k ρ) (l ρ) (j ρ) i) λσ H Q q=>NQ ho.2 f.2 q
def NR (ho:wG c.X (bI op) h) (f:wG c.X (bI op') h') (k:JB c a ga) (l:JB c b gb) (j:JB c d gc) (i:M6 [op,op'] [b,d]=false:=by with_unfolding_all rfl):JT c (.Compare a [op,op'] [b,d] pos) (fJ (r9 ga gb gc h h')) :=
 .of λρ=>WU (MW ho.1 f.1 (k ρ) (l ρ) (j ρ) i) λσ H Q q=>NQ ho.2 f.2 (WV q)
inductive X6 (K:aa) (w:bz) (cls:Str->ao) (E:XK) (ρ:aC) (r:R (List Str)) (σ:St) (H:Hp) (Q:VK):Prop
 |mk (H0 Hs0:Hp) (la:Nat->Option ao) (Hs:Hp) (f:Fr K H0 Hs0 la ρ σ H Hs) (q:Fin K cls E H Hs r λss=>∀ p H' Hs',cP H Hs H' Hs'->H' p=none->Q (.ref p) (upd H' p (jO w p ss))):X6 K w cls E ρ r σ H Q
def X7 (K:aa) (w:bz) (cls:Str->ao) (E:XK) (ρ:aC) (r:R (List Str)):TE:=X6 K w cls E ρ r
structure Qs (c:C) (e:bp) (g:aC->R (List Str)):Prop where of ::
 run:∀ ρ,PE c.X e (X7 c.X.K c.X.w c.cls c.E ρ (g ρ))
instance {c:C}{e:bp}{g:aC->R (List Str)}:CoeFun (Qs c e g) (λ_=>∀ ρ,PE c.X e (X7 c.X.K c.X.w c.cls c.E ρ (g ρ))):=⟨Qs.run⟩
def J7 {K:aa}{w:bz}{cls:Str->ao}{E:XK}{ρ:aC}{r:R (List Str)}{o:Type}{k:List Str->R o}{σ:St}{H:Hp}{l j Hs:Hp}{la:Nat->Option ao}{Q:V->Hp->Prop}{q:o->Prop} (f:Fr K l j la ρ σ H Hs)
  (h:Fin K cls E H Hs (r.bind k) q) (m:∀ ss p H' i,r=.ok ss->cP H Hs H' i->Fr K l j la ρ σ H' i->H' p=none->Q (.ref p) (upd H' p (jO w p ss))):X7 K w cls E ρ r σ H Q:=by
 refine ⟨l,j,la,Hs,f,?_⟩;cases r with
 |ok d=>exact λp H' i s n=>m d p H' i rfl s (f.step s) n
 |ex c n=>exact h
 |no=>exact h
variable {gset:aC->R (List Str)}
def ug:D->R (List Str)
 |.list ds=>match fc ds with
  |some ss=>if ss.length<60 then .ok (cY [] ss) else .no
  |none=>.no
 |.tuple ds=>match fc ds with
  |some ss=>if ss.length<60 then .ok (cY [] ss) else .no
  |none=>.no
 |_=>.no
def pH (g:aC->R D):aC->R (List Str):=λρ=>(g ρ).bind ug
def D6 (z:c.X.calm=true) (h:JB c e g) (m:Gl c.X "set") (s:c.X.mg "set"=none) (he:aH [e] c.X.env=(false,dn e c.X.env)::aH [] c.X.env:=by rfl) :
  Qs c (.Call (.Name "set" p) [e] [] cpos) (pH g):=.of λρ=>by
 refine qH (wx (Ey z) m s PyProof.Rows.boot_set (hU (h ρ) jx he) (he:=he)) λσ H Q n=>?_;obtain ⟨G,B,la,Hs,f,q⟩:=n;refine one f q λd v u k A t w y=>?_;unfold pH at q;rw [A,bind_ok] at q;unfold ug at q;split at q
 ·split at q
  ·rename_i ss hs
   by_cases i:ss.length<60
   ·rw [if_pos i] at q;obtain ⟨a,E,rfl,j,l⟩:=y.list w.st.sub;rw [rg hs] at l;rw [pw l] at j;exact ⟨a,ss,rfl,.inl j,aK (Kn i 1) (by decide),λp o=>q p u k t o⟩
   ·rw [if_neg i] at q;exact q.elim
  ·exact q.elim
 ·split at q
  ·rename_i ss hs
   by_cases i:ss.length<60
   ·rw [if_pos i] at q;obtain ⟨a,E,rfl,j,l,_⟩:=y.tuple w.st.sub;rw [rg hs] at l;rw [pw l] at j;exact ⟨a,ss,rfl,.inr j,aK (Kn i 1) (by decide),λp o=>q p u k t o⟩
   ·rw [if_neg i] at q;exact q.elim
  ·exact q.elim
 ·exact q.elim
def jY (g:aC->R (List Str)):aC->R D:=λρ=>(g ρ).bind λss=>if ss.length<64 then .ok (.list ((ju ss).map .str)) else .no
def pI (t:c.X.calm=true) (h:Qs c e gset) (A:Gl c.X "sorted") (v:c.X.mg "sorted"=none) (he:aH [e] c.X.env=(false,dn e c.X.env)::aH [] c.X.env:=by rfl) :
  JE c (.Call (.Name "sorted" p) [e] [] cpos) (jY gset):=.of λρ=>by
 refine qH (v5 (xU t) A v m8 (hU (h ρ) jx he) (he:=he)) λσ H Q k=>?_;obtain ⟨E,B,la,Hs,f,q⟩:=k;dsimp only [L2.UV,L2.IK,L2.R5];refine J7 (w:=c.X.w) f q λss p n i z o y u=>?_;unfold jY at q;rw [z,bind_ok] at q;by_cases m:ss.length<64
 ·rw [if_pos m] at q;have j:cP n i (upd n p (jO c.X.w p ss)) i:=.mine y.st.sub u;exact ⟨p,ss,rfl,bi,m,λl s=>q _ _ _ (o.trans (j.trans (.new j.sub s))) (.list (.of bi) (yS _))⟩
 ·rw [if_neg m] at q;exact q.elim
def vC (g:aC->R (List Str)):aC->R D:=λρ=>(g ρ).bind λss=>.ok (.int ss.length)
def L5 (h:Qs c e gset) (u:Gl c.X "len") (o:c.X.mg "len"=none) (he:aH [e] c.X.env=(false,dn e c.X.env)::aH [] c.X.env:=by rfl) :
  JE c (.Call (.Name "len" p) [e] [] cpos) (vC gset):=.of λρ=>by
 refine qH (v5 AK u o cq (hU (h ρ) jx he) (he:=he)) λσ H Q j=>?_;obtain ⟨y,v,la,Hs,f,q⟩:=j;dsimp only [L2.UV,L2.IK,L2.R5];refine J7 (w:=c.X.w) f q λss p l i t m s n=>?_;unfold vC at q;rw [t,bind_ok] at q;have k:cP l i (upd l p (jO c.X.w p ss)) i:=.mine s.st.sub n;exact ⟨p,ss,rfl,bi,q _ _ _ (m.trans k) (.int _)⟩
variable {elt iter tg:bp}{ifs:List bp}{scope:eX}{N':List Str}{nt:Nat}{ix:List Nat}{gi:aC->R (List D)}{gt:aC->R Bool}{ge:aC->R D}
def wM (nt:Nat) (ix:List Nat) (gi:aC->R (List D)) (gt:aC->R Bool) (ge:aC->R D):aC->R (List Str):=λρ=>(gi ρ).bind λds=>if ds.length<=60 then (fw (iA nt (kr nt ix ρ) gt ge) ds).bind λys=>match fc ys with
 |some ss=>.ok (cY [] ss)
 |none=>.no else .no
def oh : ∀ {ss:List Str},fc (xs++ys)=some ss->∃ f i,fc xs=some f/\fc ys=some i/\ss=f++i:=by
 induction xs with
 |nil=>intro ss h;exact ⟨[],ss,rfl,h,rfl⟩
 |cons d r k =>
  intro ss h;cases d with
  |str b =>
   have h:(fc (r++ys)).map (b::·)=some ss:=h;cases j:fc (r++ys) with
   |none=>rw [j] at h;cases h
   |some z =>
    rw [j] at h;cases h;obtain ⟨f,i,l,m,rfl⟩:=k j;exact ⟨b::f,i,by show (fc r).map (b::·)=_;rw [l];rfl,m,rfl⟩
  |_=>cases h
def uh (z:Str):∀ (l f:List Str),cY f (l++[z])=if z∈cY f l then cY f l else cY f l++[z]
 |[],f=>rfl
 |x::l,f=>by
  show cY _ (l++[z])=_;rw [uh z l];rfl
inductive scI (f:D->R (Option D)) (ds:List D) (ss:List Str) (H1 Hs1:Hp) (i m:Nat) (acc:List Str) (H':Hp):Prop
 |mk (done bS zs sa sz Hs':_) (h0:ds=done++bS) (h1:done.length=i) (h2:bS.length=m) (h3:cP H1 Hs1 H' Hs') (h4:acc=cY [] sa) (h5:sa.length<=i) (h6:fw f bS=.ok zs) (h7:fc zs=some sz) (h8:ss=sa++sz):scI f ds ss H1 Hs1 i m acc H'
def RG (X:nt=1\/nt=2)
  (q:X7 K w cls E ρ (wM nt ix gi gt ge ρ) σ H Q) :
  Nx w nt ix (Vg K cls E ρ (gi ρ)) (y_ K nt) (λσ H Q=>∃ j,E5 K cls E0 j (gt j) σ H Q) (λσ H Q=>∃ j,TR K cls E0 j (ge j) σ H Q) σ H Q:=by
 obtain ⟨H0,a5,la,Hs,f,q⟩:=q;refine ⟨H0,a5,la,Hs,f,?_⟩;unfold wM at q;cases hi:gi ρ with
 |no=>rw [hi] at q;exact q
 |ex x n=>rw [hi] at q;exact q
 |ok ds =>
  rw [hi,bind_ok] at q;intro J H1 N Hn s1 sn it;by_cases hl:ds.length<=60
  ·rw [if_pos hl] at q;cases U:fw (iA nt (kr nt ix ρ) gt ge) ds with
   |no=>rw [U] at q;exact q.elim
   |ex x n=>exact (vA (z0 _ _ _ _) _ _ _ U).elim
   |ok ys =>
    rw [U,bind_ok] at q;cases hs:fc ys with
    |none=>rw [hs] at q;exact q.elim
    |some ss =>
     rw [hs] at q;obtain ⟨lb,fb⟩:=(f.step s1).block nt ix;refine ⟨scI (iA nt (kr nt ix ρ) gt ge) ds ss H1 N,
      ⟨ds.length,[],ds,ys,[],ss,N,rfl,rfl,rfl,.refl s1.sub,rfl,cx _,U,hs,rfl⟩,?_⟩
     rintro i m a7 H' ⟨done,bS,zs,sa,sz,O,l,s,P,st,rfl,yl,hz,B,S⟩;obtain ⟨a4,t,u⟩:=it H' O (sn.trans st.all) st.sh st.sub;cases bS with
     |nil =>
      left;cases hz;cases B;rw [bN] at l S;subst S l;exact ⟨t i (by omega),λp hp=>q p H' O (s1.trans st) hp⟩
     |cons d bS =>
      right;have L:i<ds.length:=by rw [l,aJ,aY];omega
      have a2:=fk sa [];simp at a2;refine ⟨a4 i L,nR (show (cY [] sa).length+1<=61 by omega) (by decide),λx H2 a1=>?_⟩;obtain ⟨d',a0,hd,s2,r2⟩:=u i x H2 L a1;have a3:d'=d:=by
       rw [l,bg (by omega)] at hd;simp [s] at hd;exact hd.symm
      subst a3;obtain ⟨o,A,k,M,rfl⟩:=pE hz;have k:=vw k;obtain ⟨so,G,h,hsz,rfl⟩:=oh B;cases T:Tu nt d' (kr nt ix ρ) with
      |no=>rw [T] at k;cases k
      |ex x n=>rw [T] at k;cases k
      |ok j =>
       rw [T,bind_ok] at k;refine vz X ((fb.step st).step s2) r2 T λa6 f2=>⟨j,?_⟩;refine ⟨_,_,_,a0,f2,?_⟩;cases ht:gt j with
       |no=>rw [ht] at k;cases k
       |ex x n=>rw [ht] at k;cases k
       |ok b =>
        rw [ht,bind_ok] at k;intro H3 I s3;cases b with
        |false =>
         rw [if_neg bw] at k;cases k;cases h;refine xS ⟨bS.length,by rw [<- P];simp,done++[d'],bS,A,sa,G,I,by rw [l];simp,by simp [s],rfl,(st.trans s2).trans s3,rfl,by omega,M,hsz,by simpa using S⟩
        |true =>
         rw [if_pos rfl] at k;refine xT ⟨j,_,_,_,I,f2.step s3,?_⟩;cases he:ge j with
         |no=>rw [he] at k;cases k
         |ex x n=>rw [he] at k;cases k
         |ok y =>
          rw [he,bind_ok] at k;cases k;intro v H4 Y s4 r4;cases r4 with
          |str z =>
           cases h;exact ⟨z,bS.length,rfl,by rw [<- P];simp,done++[d'],bS,A,sa++[z],G,Y,by rw [l];simp,by simp [s],rfl,((st.trans s2).trans s3).trans s4,(uh z sa []).symm,by simp;omega,M,hsz,by rw [S];simp⟩
          |none=>cases h
          |bool _=>cases h
          |int _=>cases h
          |list _ _=>cases h
          |tuple _ _=>cases h
          |dictK _ _=>cases h
          |dictT _ _ _=>cases h
          |dictF _ _ _=>cases h
  ·rw [if_neg hl] at q;exact q.elim
def NS (nt:Nat) (f:nt=1\/nt=2) (h:c.X.calm=true) (S:jk c.X scope N' nt ix) (i:JI c tg iter gi) (j:vB c N' scope nt tg ifs elt gt ge) (hs:∀ x,bU iter c.X.env x=pure x:=by intro _;rfl) :
  Qs c (.SetComp elt [⟨tg,iter,ifs,0⟩] scope pos) (wM nt ix gi gt ge):=.of λρ=>qH (Hh h S (vy f) (i ρ) j.at hs) λσ H Q q=>RG f q
end
def ca (n:Nat) (ds:List D):aC:=ds.map Sl.shr++tE (n-ds.length) Sl.no
def fL (n:Nat) (g:aC->R Fl):List D->R D:=λds=>match g (ca n ds) with
 |.ok (.nx _)=>.ok .none
 |.ok (.rt d)=>.ok d
 |.ex c m=>.ex c m
 |_=>.no
def zd {n:Nat}{ds:List D}{i:Nat}{s:Sl} (h:(ca n ds)[i]?=some s):(∃ d,ds[i]?=some d/\s=.shr d)\/s=.no:=by
 unfold ca at h;by_cases b:i<ds.length
 ·rw [aW (by simpa using b),aX] at h;cases a:ds[i]? with
  |none=>rw [a] at h;cases h
  |some z=>rw [a] at h;cases h;exact .inl ⟨z,rfl,rfl⟩
 ·rw [bg (by simp;omega),bJ] at h;split at h<;>cases h;exact .inr rfl
def L6 {N:List Str}{a:List V}{i:Nat}{v:V} (h:a[i]?=some v):(L2.start N a)[i]?=some (some v):=by
 unfold L2.start;have b:i<a.length:=(List.getElem?_eq_some_iff.mp h).1;rw [aW (by simpa using b),aX,h];rfl
def Fr.start {K : aa} {H Hs : Hp} {N : List Str} {b : List V} {ds : List D} (sub : du Hs H) (r : RDs K Hs b ds) : Fr K H Hs (λ_ => none) (ca N.length ds) (L2.start N b) H Hs := by
  have f := r.length;refine ⟨.refl sub, by simp [ca, L2.start, f], λi d h => ?_, λi d h => ?_, λi d h => ?_, λi j d e a h _ _ _ => ?_, λi a h => (nomatch h), λi d h => ?_, λi j d e h _ => ?_⟩
  · rcases zd h with ⟨z, k, e⟩ | e
    · cases e;obtain ⟨v, g, c⟩ := r.get' k;exact ⟨v, L6 g, c⟩
    · cases e
  all_goals (rcases zd h with ⟨z, _, e⟩ | e <;> cases e)
def Tw (F:KJ K x qual st f fd) (S:bR N ps (aE st))
  (h:∀ (a:af) (A:bB) (outer:List Env) (s:ai) (H:Hp) (E:XK),lc k (A.deeper (tX qual (aE st) s.heap.objs.size f a))->IZ ⟨yF (Al P w) P w K mg base N qual (aE st) f a A outer s H E,cls,E⟩ (iK st) g) :
  sZ P w K mg base (Al P w) (k+1) f fd ps (Rz K cls ps.length (fL N.length g)):=by
 obtain ⟨L,O,kV,p,I,M,a,ct,y,rfl,z,i⟩:=F.ex;refine WD z i S (λG H Q E j=>by obtain ⟨Hs,ds,sub,o,r,q⟩:=j;exact by rw [r.length];exact o) λA outer s H G Q E u l=>?_;obtain ⟨Hs,ds,sub,o,r,q⟩:=l;refine ⟨_,h a A outer s H E u (ca N.length ds),H,Hs,_,Hs,Fr.start sub r,?_⟩;unfold fL at q;cases m:g (ca N.length ds) with
 |no=>rw [m] at q;exact q
 |ex c n=>rw [m] at q;exact q
 |ok t =>
  rw [m] at q;cases t with
  |nx e=>exact λσ' H' b B=>q .non H' b B.st .none
  |rt d=>exact λv H' b s r=>q v H' b s r
  |bk e=>exact q.elim
  |ct e=>exact q.elim
def X8 (F:KJ K x qual st f fd) (S:bR N ps (aE st)) (b:mg x=some (.ref f)) (c:lO K fd ps [])
  (h:∀ (a:af) (A:bB) (outer:List Env) (s:ai) (H:Hp) (E:XK),lc k (A.deeper (tX qual (aE st) s.heap.objs.size f a))->IZ ⟨yF (Al P w) P w K mg base N qual (aE st) f a A outer s H E,cls,E⟩ (iK st) g) :
  Fn P w K mg base cls x (k+1) ps.length (fL N.length g):=⟨f,fd,ps,Tw F S h,b,F.kp,c⟩
def gy:qV (Al X.prog X.w) X E0:=λ_ _ _ _ _ _ _ h=>by
 obtain ⟨_,_,_,_,_,_,_,_,_,q⟩:=h;exact q.elim
end
def clear2 (ρ:aC):aC:=ρ.map λs=>match s with
 |.ow2 _=>.no
 |s=>s
def Fr.clear2 (f:Fr K H0 Hs0 la ρ σ H Hs):Fr K H0 Hs0 la (clear2 ρ) σ H Hs/\∀ (j:Nat) (d:List (List D)),¬ (J.clear2 ρ)[j]?=some (Sl.ow2 d):=by
 have un:∀ {j:Nat}{s:Sl},(J.clear2 ρ)[j]?=some s->(∀ d,s≠.ow2 d)/\(ρ[j]?=some s\/s=.no):=λ{j s} e=>by
  unfold J.clear2 at e;rw [aX] at e;cases h:ρ[j]? with
  |none=>rw [h] at e;cases e
  |some t =>
   rw [h] at e;cases t with
   |ow2 d=>cases e;exact ⟨λ_ z=>(by cases z),.inr rfl⟩
   |no=>cases e;exact ⟨λ_ z=>(by cases z),.inl rfl⟩
   |shr d=>cases e;exact ⟨λ_ z=>(by cases z),.inl rfl⟩
   |lck d=>cases e;exact ⟨λ_ z=>(by cases z),.inl rfl⟩
   |own d=>cases e;exact ⟨λ_ z=>(by cases z),.inl rfl⟩
 have c:∀ {j:Nat}{s:Sl},s≠.no->(J.clear2 ρ)[j]?=some s->ρ[j]?=some s:=λ{j s} n e=>(un e).2.resolve_right n;have b:∀ (j:Nat) (d:List (List D)),¬ (J.clear2 ρ)[j]?=some (Sl.ow2 d):=λj d e=>(un e).1 d rfl;exact ⟨⟨f.st,by simp [J.clear2,f.len],λj d h=>f.sh j d (c (λz=>by cases z) h),λj d h=>f.ow j d (c (λz=>by cases z) h),λj d h=>f.lk j d (c (λz=>by cases z) h),λj k d e a g i=>f.dj j k d e a (c (λz=>by cases z) g) (c (λz=>by cases z) i),f.lh,λj d h=>(b j d h).elim,λj k d e h _=>(b j d h).elim⟩,b⟩
def rm:List ao->Hp->Hp
 |[],H=>H
 |a::b,H=>rm b (upd H a (.lst []))
def ze:∀ (c:List ao) (H:Hp),(∀ a∈c,H a=none)->c.Nodup->du H (rm c H)
 |[],H,_,_=>.refl H
 |a::c,H,h,e=>by
  obtain ⟨f,g⟩:=List.nodup_cons.mp e;refine (ms (h a ak)).trans (ze c _ (λb d=>?_) g);rw [bj (λ(z:b=a)=>f (z ▸ d))];exact h b (ag _ d)
def EO:∀ (d:List ao) (H:Hp),d.Nodup->∀ a∈d,rm d H a=some (.lst [])
 |a::d,H,i,b,k=>by
  obtain ⟨l,j⟩:=List.nodup_cons.mp i;show rm d (upd H a (.lst [])) b=_;by_cases f:b∈d
  ·exact EO d _ j b f
  ·have e:b=a:=(List.mem_cons.mp k).resolve_right f;subst e;have:∀ (d:List ao) (H:Hp),b∉d->rm d H b=H b:=by
    intro d;induction d with
    |nil=>intro H _;rfl
    |cons c d g =>
     intro H h;show rm d (upd H c (.lst [])) b=_;rw [g _ (λz=>h (ag _ z)),bj (λ(z:b=c)=>h (by rw [z];exact ak))]
   rw [this d _ f,bi]
def mC:∀ (d:List ao) (H:Hp) (b:ao),rm d H b=none->H b=none/\b∉d
 |[],H,b,h=>⟨h,by simp⟩
 |a::d,H,b,h=>by
  obtain ⟨c,f⟩:=mC d (upd H a (.lst [])) b h;by_cases e:b=a
  ·subst e;rw [bi] at c;cases c
  ·rw [bj e] at c;exact ⟨c,λz=>(List.mem_cons.mp z).elim e f⟩
def RH (i:Nat):aC->R Fl:=λρ=>.ok (.nx ((clear2 ρ).set i (.ow2 [[],[],[],[]])))
def Vh (i:Nat) (hN:c.X.N.Nodup) (v:c.X.N[i]?=some x:=by rfl) (hx:Qo c.X.env.scope x:=by first|exact g_ rfl|exact eF rfl)
  (hs:gF (.List [.List [] p1,.List [] p2,.List [] p3,.List [] p4] p) (some (.Name x pos')) spos.line c.X.env=pure false:=by rfl)
  (hf:c.X.fn x=true\/c.X.env.scope.names.lookup x=some .local:=by first|exact .inl rfl|exact .inr rfl|assumption)
  (u:aH [.List [] p1,.List [] p2,.List [] p3,.List [] p4] c.X.env=(false,dn (.List [] p1) c.X.env)::aH [.List [] p2,.List [] p3,.List [] p4] c.X.env:=by rfl)
  (y:aH [.List [] p2,.List [] p3,.List [] p4] c.X.env=(false,dn (.List [] p2) c.X.env)::aH [.List [] p3,.List [] p4] c.X.env:=by rfl)
  (L:aH [.List [] p3,.List [] p4] c.X.env=(false,dn (.List [] p3) c.X.env)::aH [.List [] p4] c.X.env:=by rfl)
  (M:aH [.List [] p4] c.X.env=(false,dn (.List [] p4) c.X.env)::aH [] c.X.env:=by rfl) :
  JS c (.Assign [.Name x pos'] (.List [.List [] p1,.List [] p2,.List [] p3,.List [] p4] p) spos) (RH i):=.of λρ=>by
 refine Am (GQ hN v hx (u6 (hU (u6 jx) (hU (u6 jx) (hU (u6 jx) (hU (u6 jx) jx M) L) y) u)) hs hf) λD σ H Q=>?_;obtain ⟨H0,Y,la,Hs,f,q⟩:=Q;replace q:oP c.X.K c.cls c.E H0 Y la D (RH i ρ):=q;obtain ⟨f,B⟩:=f.clear2;refine ⟨cx _,λa1 n1=>⟨cx _,λa2 n2=>⟨cx _,λa3 n3=>⟨cx _,λl n4=>⟨cw (eg (show 4<=1000 by decide)),λa n=>?_⟩⟩⟩⟩⟩;have N:=mC [a1,a2,a3,l] H a n;have G:=mC [a1,a2,a3] H l n4;have P:=mC [a1,a2] H a3 n3;have T:=mC [a1] H a2 n2;simp only [aQ,bh,or_false,not_or] at N G P T;have S:[a1,a2,a3,l].Nodup:=by
  simp only [dS,aQ,bh,or_false,not_or,eV,and_true,not_false_eq_true];exact ⟨⟨cF T.2,cF P.2.1,cF G.2.1⟩,⟨cF P.2.2,cF G.2.2.1⟩,cF G.2.2.2⟩
 have free:∀ b∈[a1,a2,a3,l],H b=none:=λb t=>by
  simp only [aQ,bh,or_false] at t;rcases t with rfl|rfl|rfl|rfl
  ·exact n1
  ·exact T.1
  ·exact P.1
  ·exact G.1
 have I:(a::[a1,a2,a3,l]).Nodup:=List.nodup_cons.mpr ⟨by simp only [aQ,bh,or_false,not_or];exact N.2,S⟩;have sm:du H (rm [a1,a2,a3,l] H):=ze _ _ free S;have all:du H (upd (rm [a1,a2,a3,l] H) a (.lst [.ref a1,.ref a2,.ref a3,.ref l])):=sm.trans (ms n);have m:∀ b∈a::[a1,a2,a3,l],H b=none:=λb t=>(List.mem_cons.mp t).elim (λz=>z ▸ N.1) (free b);have st:cP H Hs (upd (rm [a1,a2,a3,l] H) a (.lst [.ref a1,.ref a2,.ref a3,.ref l])) Hs:=⟨all,.refl _,f.st.sub.trans all,λ_ _ _ _ z=>z⟩;have w:=f.step st;have hl:i<σ.length\/¬ i<σ.length:=Decidable.em _;have nx:∀ {j:Nat}{s:Sl},(∀ d,s≠.ow2 d)->((clear2 ρ).set i (.ow2 [[],[],[],[]]))[j]?=some s->(clear2 ρ)[j]?=some s/\i≠j:=λ{j s} hs e=>by
  by_cases g:i=j
  ·subst g;by_cases v:i<(clear2 ρ).length
   ·rw [aM v] at e;exact absurd (bY e).symm (hs _)
   ·rw [cV (by simpa using v)] at e;cases e
  ·rw [ar g] at e;exact ⟨e,g⟩
 refine q _ _ Hs ⟨w.st,by simp [w.len],λj d h=>?_,λj d h=>?_,λj d h=>?_,λj k d d' b u y L M=>?_,w.lh,λj d h=>?_,λj k d d' u y=>?_⟩
 ·obtain ⟨h,g⟩:=nx (λ_ z=>by cases z) h;rw [ar g];exact w.sh j d h
 ·obtain ⟨h,g⟩:=nx (λ_ z=>by cases z) h;rw [ar g];exact w.ow j d h
 ·obtain ⟨h,g⟩:=nx (λ_ z=>by cases z) h;rw [ar g];exact w.lk j d h
 ·obtain ⟨u,g⟩:=nx (λ_ z=>by cases z) u;obtain ⟨y,A⟩:=nx (λ_ z=>by cases z) y;rw [ar g] at L;rw [ar A] at M;exact w.dj j k d d' b u y L M
 ·by_cases g:i=j
  ·subst g;by_cases v:i<(clear2 ρ).length
   ·rw [aM v] at h;cases h;have U:=EO [a1,a2,a3,l] H S;have ne:∀ b∈[a1,a2,a3,l],b≠a:=λb t z=>(List.nodup_cons.mp I).1 (z ▸ t);have O:∀ b∈[a1,a2,a3,l],upd (rm [a1,a2,a3,l] H) a (.lst [.ref a1,.ref a2,.ref a3,.ref l]) b=some (.lst []):=λb t=>by rw [bj (ne b t)];exact U b t
    refine ⟨a,[a1,a2,a3,l],aM (by rw [<- w.len];exact v),bi,I,λb t=>⟨f.st.sub.free (m b t),f.st.all.free (m b t)⟩,λb t k e A=>?_,.cons (O _ (by simp)) .nil (.cons (O _ (by simp)) .nil (.cons (O _ (by simp)) .nil (.cons (O _ (by simp)) .nil .nil)))⟩;obtain ⟨A,nk⟩:=nx (λ_ z=>by cases z) A;rw [ar nk];intro z;obtain ⟨b',o,k1,k2,_⟩:=f.ow k e A;rw [z] at k1;cases k1;rw [m b t] at k2;cases k2
   ·rw [cV (by simpa using v)] at h;cases h
  ·rw [ar g] at h;exact (B j d h).elim
 ·by_cases g:i=j
  ·by_cases A:i=k
   ·exact g.symm.trans A
   ·rw [ar A] at y;exact (B k d' y).elim
  ·rw [ar g] at u;exact (B j d u).elim
def NT (h:JS c st gs):JS c st (λρ=>gs (fE ρ)):=.of λρ=>Am (h (fE ρ)) λD σ H a=>by
 obtain ⟨e,d,la,Hs,f,q⟩:=a;obtain ⟨b,g⟩:=f.shared;exact ⟨e,d,la,b,g,q⟩
def shareAt (i:Nat) (ρ:aC):aC:=match ρ[i]? with
 |some (Sl.own d)=>ρ.set i (.shr d)
 |_=>ρ
def Fr.shareAt (f:Fr K H0 Hs0 la ρ σ H Hs) (i:Nat):∃ I,Fr K H0 Hs0 la (J.shareAt i ρ) σ H I:=by
 unfold J.shareAt;split
 ·rename_i d ho
  obtain ⟨a,o,B,Q,P,N,Y⟩:=f.ow i d ho;have n:i<ρ.length:=(List.getElem?_eq_some_iff.mp ho).1;have m:du Hs (upd Hs a o):=ms P;have nx:∀ {j:Nat}{s:Sl},(∀ d,s≠.shr d)->(ρ.set i (.shr d))[j]?=some s->ρ[j]?=some s/\i≠j:=λ{j s} hs e=>by
   by_cases g:i=j
   ·subst g;rw [aM n] at e;exact absurd (bY e).symm (hs d)
   ·rw [ar g] at e;exact ⟨e,g⟩
  have ne:∀ (j:Nat) (e:D) (b:ao),i≠j->ρ[j]?=some (Sl.own e)->σ[j]?=some (some (V.ref b))->b≠a:=λj e b g h w z=>by
   subst z;exact g (f.dj i j d e b ho h B w)
  refine ⟨upd Hs a o,⟨f.st.all,f.st.sh.trans m,λb u e=>?_,λb u e t z=>?_⟩,by simp [f.len],λj e h=>?_,λj e h=>?_,λj e h=>?_,λj k A E b y L S U=>?_,f.lh,λj e h=>?_,λj k A E y L=>?_⟩
  ·by_cases w:b=a
   ·subst w;rw [bi] at e;cases e;exact Q
   ·rw [bj w] at e;exact f.st.sub b u e
  ·rw [bj (c6 e N)];exact f.st.out b u e t z
  ·by_cases g:i=j
   ·subst g;rw [aM n] at h;cases h;exact ⟨_,B,Y.share P⟩
   ·rw [ar g] at h;obtain ⟨v,l,q⟩:=f.sh j e h;exact ⟨v,l,q.same m⟩
  ·obtain ⟨h,g⟩:=nx (λ_ z=>by cases z) h;obtain ⟨b,u,l,q,M,G,x⟩:=f.ow j e h;exact ⟨b,u,l,q,by rw [bj (ne j e b g h l)];exact M,G,x.same m⟩
  ·obtain ⟨h,g⟩:=nx (λ_ z=>by cases z) h;obtain ⟨b,u,l,q,M,G,x,T⟩:=f.lk j e h;exact ⟨b,u,l,q,M,by rw [bj (c6 x N)];exact G,x,T.same m⟩
  ·exact f.dj j k A E b (nx (λ_ z=>by cases z) y).1 (nx (λ_ z=>by cases z) L).1 S U
  ·obtain ⟨h,g⟩:=nx (λ_ z=>by cases z) h;obtain ⟨b,as,O⟩:=f.o2 j e h;refine ⟨b,as,O.at_,O.ob,O.nd,λc p=>⟨?_,(O.out c p).2⟩,λc p k X hk=>O.dj c p k X (nx (λ_ z=>by cases z) hk).1,O.inn.step (.refl _) m⟩;rw [bj (λz=>O.dj c p i d ho (by rw [z];exact B))];exact (O.out c p).1
  ·exact f.u2 j k A E (nx (λ_ z=>by cases z) y).1 (nx (λ_ z=>by cases z) L).1
 ·exact ⟨Hs,f⟩
def Hu (i:Nat) (h:JS c st gs):JS c st (λρ=>gs (shareAt i ρ)):=.of λρ=>Am (h (shareAt i ρ)) λD σ H a=>by
 obtain ⟨e,d,la,Hs,f,q⟩:=a;obtain ⟨b,g⟩:=f.shareAt i;exact ⟨e,d,la,b,g,q⟩
def Bu.get (h:Bu K H Hs as dss):∀ {j:Nat}{ds:List D},dss[j]?=some ds->∃ b a,as[j]?=some b/\H b=some (.lst a)/\RDs K Hs a ds:=by
 induction h with
 |nil=>intro j ds e;cases e
 |cons h r t c =>
  intro j ds e;cases j with
  |zero=>cases e;exact ⟨_,_,rfl,h,r⟩
  |succ j=>have q:=c (j:=j) e;exact q
def Bu.set (i:RDs K Hs vs' ds'):∀ {d:List ao}{c:List (List D)}{j:Nat}{b:ao},Bu K H Hs d c->d[j]?=some b->d.Nodup->Bu K (L2.upd H b (.lst vs')) Hs d (c.set j ds')
 |_,_,_,_,.nil,h,_=>by simp at h
 |_,_,0,b,.cons h r t,e,g=>by
  simp at e;subst e;exact .cons bi i (t.upd (List.nodup_cons.mp g).1)
 |_,_,j+1,b,.cons (a:=a) h r t,e,g=>by
  have f:_:=e;simp only [jT] at f;obtain ⟨k,l⟩:=List.nodup_cons.mp g;have m:b∈_:=c8 f;exact .cons (by rw [bj (λz=>k (by rw [z];exact m))];exact h) r (Bu.set i t f l)
def oR (i:Nat) (b g:aC->R D):aC->R Fl:=λρ=>match ρ[i]? with
 |some (Sl.ow2 a)=>(b ρ).bind λk=>match k with
  |.int j=>if 0<=j then (match a[j.toNat]? with
   |some ds=>(g ρ).bind λd=>if ds.length<1000 then .ok (.nx (ρ.set i (.ow2 (a.set j.toNat (ds++[d]))))) else .no
   |none=>.no) else .no
  |_=>.no
 |_=>.no
def zf (i:Nat) (a3:JE c ie gi) (h:JE c e g) (hN:c.X.N[i]?=some x:=by rfl) (hv:Mk c.X.env.scope x:=by first|exact g_ rfl|exact eF (g_ rfl)|exact eF (eF rfl)) (hd:(x==("__debug__" : Str))=false:=by decide)
  (a0:(x==("__classdict__" : Str))=false:=by decide) (a7:v7 ie:=by exact λ_ _=>rfl)
  (P:qL (.Subscript (.Name x p) ie p3) "append" c.X.env (dn (.Subscript (.Name x p) ie p3) c.X.env)=dn (.Subscript (.Name x p) ie p3) c.X.env:=by rfl)
  (T:((fX cpos (aH [e] c.X.env)).all (λx=>!x.1)&&(backToKw cpos (Qw [] c.X.env)).all (λx=>x.1.isSome)
   && decide ([e].length+([] : List As).length+(if ([] : List As).isEmpty then 0 else 1)<30))=true:=by rfl)
  (G:(apos.endLine==cpos.line)=true:=by rfl) (S:aH [e] c.X.env=(false,dn e c.X.env)::aH [] c.X.env:=by rfl) (A:(fX cpos (aH [] c.X.env)).any (·.1)=false:=by rfl)
  (hs:gF (.Call (.Attribute (.Subscript (.Name x p) ie p3) "append" apos) [e] [] cpos) none pos.line c.X.env=pure false:=by rfl) :
  JS c (.Expr (.Call (.Attribute (.Subscript (.Name x p) ie p3) "append" apos) [e] [] cpos) pos) (oR i gi g):=.of λρ=>by
 refine Am (Cy (Ta Bd AA AB Bm (T6 rW (pi hN hv hd a0) (a3 ρ) a7) (hU (h ρ) jx S) P T G S A) hs) λD σ H a2=>?_;obtain ⟨H0,a5,la,Hs,f,q⟩:=a2;replace q:oP c.X.K c.cls c.E H0 a5 la D (oR i gi g ρ):=q;unfold oR at q;split at q
 ·rename_i B ho
  obtain ⟨a,as,O⟩:=f.o2 i B ho;refine ⟨_,O.at_,?_⟩;refine sE f q λk v H1 b7 e1 s1 f1 r1=>?_;rw [e1,bind_ok] at q;cases r1 with
  |int j =>
   simp only at q;by_cases M:0<=j
   ·rw [if_pos M] at q;split at q
    ·rename_i ds a6
     obtain ⟨b,vs,hb,hH,rv⟩:=O.inn.get a6;have b6:Gq (as.map V.ref) j=some (.ref b):=by
      have:=rV (xs:=as.map V.ref) (j:=j.toNat) (v:=V.ref b) (by rw [aX,hb];rfl)
      rwa [eY M] at this
     refine ⟨a,_,j,_,rfl,rfl,.of (s1.all _ _ O.ob),b6,.inl ⟨rfl,_,.of (s1.all _ _ hH)⟩,?_⟩;refine sE f1 q λd w H2 a4 e2 s2 o r2=>?_;rw [e2,bind_ok] at q;by_cases hl:ds.length<1000
     ·rw [if_pos hl] at q;have st:=s1.trans s2;refine ⟨b,vs,w,rfl,rfl,st.all _ _ hH,eg (by rw [rv.length];omega),?_⟩;have U:i<ρ.length:=(List.getElem?_eq_some_iff.mp ho).1;obtain ⟨a',L,l⟩:=o.o2 i B ho;have ea:a'=a:=by
       have:=l.at_;rw [O.at_] at this;cases this;rfl
      subst ea;have a1:L=as:=by
       have t:=l.ob;rw [st.all _ _ O.ob] at t;injection t with t;injection t with t;exact (Mh (λx y z=>by cases z;rfl) |>.mp t).symm
      subst a1;have Q:b∈a'::L:=ag _ (c8 hb);have nb:b≠a':=λz=>(List.nodup_cons.mp O.nd).1 (z ▸ c8 hb);obtain ⟨bs,b0⟩:=l.out b Q;have nx:∀ {m:Nat}{s:Sl},(∀ d,s≠.ow2 d)->(ρ.set i (.ow2 (B.set j.toNat (ds++[d]))))[m]?=some s->ρ[m]?=some s/\i≠m:=λ{m s} hs e=>by
       by_cases M:i=m
       ·subst M;rw [aM U] at e;exact absurd (bY e).symm (hs _)
       ·rw [ar M] at e;exact ⟨e,M⟩
      refine q _ _ a4 ⟨⟨λc u e=>?_,o.st.sh,λc u e=>?_,o.st.out⟩,by simp [o.len],λm d' h=>o.sh m d' (nx (λ_ z=>by cases z) h).1,λm d' h=>?_,λm d' h=>?_,λm k' d' e' a t h2=>o.dj m k' d' e' a (nx (λ_ z=>by cases z) t).1 (nx (λ_ z=>by cases z) h2).1,o.lh,λm d' h=>?_,λm k' d' e' t h2=>?_⟩
      ·rw [bj (c6 e b0)];exact o.st.all c u e
      ·rw [bj (c6 e bs)];exact o.st.sub c u e
      ·obtain ⟨h,_⟩:=nx (λ_ z=>by cases z) h;obtain ⟨c',u,k1,k2,k3,k4,Y⟩:=o.ow m d' h;refine ⟨c',u,k1,?_,k3,k4,Y⟩;rw [bj (λz=>l.dj b Q m d' h (by rw [<- z];exact k1))];exact k2
      ·obtain ⟨h,_⟩:=nx (λ_ z=>by cases z) h;obtain ⟨c',u,k1,k2,k3,k4,Y,k6⟩:=o.lk m d' h;refine ⟨c',u,k1,k2,?_,k4,Y,k6⟩;rw [bj (c6 Y b0)];exact k3
      ·by_cases n:i=m
       ·subst n;rw [aM U] at h;cases h;refine ⟨a',L,l.at_,by rw [bj (cF nb)];exact l.ob,l.nd,l.out,λc hc k e' hk=>l.dj c hc k e' (nx (λ_ z=>by cases z) hk).1,?_⟩;exact Bu.set ((rv.same st.sh).append (.cons r2 .nil)) l.inn hb (List.nodup_cons.mp l.nd).2
       ·rw [ar n] at h;exact (n (o.u2 i m _ _ ho h)).elim
      ·by_cases n:i=m
       ·by_cases I:i=k'
        ·exact n.symm.trans I
        ·rw [ar I] at h2;exact (I (o.u2 i k' _ _ ho h2)).elim
       ·rw [ar n] at t;exact (n (o.u2 i m _ _ ho t)).elim
     ·rw [if_neg hl] at q;exact q.elim
    ·exact q.elim
   ·rw [if_neg M] at q;exact q.elim
  |none=>exact q.elim
  |bool _=>exact q.elim
  |str _=>exact q.elim
  |list _ _=>exact q.elim
  |tuple _ _=>exact q.elim
  |dictK _ _=>exact q.elim
  |dictT _ _ _=>exact q.elim
  |dictF _ _ _=>exact q.elim
 ·exact q.elim
section
open PyProof.Rows (OwnCls)
end
structure Bi (mg:Str->Option af):Prop where
 len:mg "len"=none
 isinstance:mg "isinstance"=none
 all:mg "all"=none
 any:mg "any"=none
 zip:mg "zip"=none
 tuple:mg "tuple"=none
 list:mg "list"=none
 sorted:mg "sorted"=none
 set:mg "set"=none
 range:mg "range"=none
 enumerate:mg "enumerate"=none
 dict:mg "dict"=none
 sum:mg "sum"=none
 max:mg "max"=none
 min:mg "min"=none
 reversed:mg "reversed"=none
 str:mg "str"=none
 int:mg "int"=none
 bool:mg "bool"=none
def bits (j:Nat):List Bool:=[decide (0=j),decide (1=j),decide (2=j),decide (3=j),decide (4=j),decide (5=j),decide (6=j),decide (7=j),decide (8=j),decide (9=j),decide (10=j)]
end J
namespace J
open PySem L2
end J
namespace L2
open PySem
end L2
namespace J
open PySem L2
section
open PyProof.Rows (OwnCls)
abbrev RI:List af:=[.type "ValueError",.type "Exception",.type "BaseException",.type "object"]
structure TopC (K:aa) (x:Str) (C:ao):Prop where
 ns:io K cf x=some (some (.ref C))
 ex:PySem.W.excIn K C RI "ValueError.__new__"=true
 mb:iB K C (.type "BaseException")=some true
inductive X9 (K:aa) (F:List D->R D) (vs:List V) (H:Hp) (Q:VK) (z_3:XK):Prop
 |mk (Hs ds d:_) (h0:du Hs H) (h1:ds.length=1) (h2:RDs K Hs vs ds) (h3:F ds=.ok d) (h4:∀ v H' Hs',cP H Hs H' Hs'->RD K Hs' v d->Q v H'):X9 K F vs H Q z_3
def Xa (K:aa) (F:List D->R D):Sp:=X9 K F
def Vi : ∀ a H Q E,Xa K F a H Q E->Rz K cls 1 F a H Q E:=λa H Q E ⟨Hs,ds,d,s,l,r,e,q⟩=>⟨Hs,ds,s,l,r,by rw [e];exact q⟩
def Xb (l:List (Str×ao)):Str->ao:=λx=>(l.lookup x).getD 0
def Vj {K:aa}{F:List D->R D}{H:Hp}{a:ao}{b:List Int} (d:F [.list (b.map .int)]=.ok (.bool true)) (h:nZ K H a (b.map V.int)):Xa K F [.ref a] H (λv _=>v=.bl true) λ_ _ _=>False:=by
 have e:∀ b:List Int,RDs K H (b.map V.int) (b.map .int):=λb=>by
  induction b with
  |nil=>exact .nil
  |cons x r c=>exact .cons (.int x) c
 refine ⟨H,[.list (b.map .int)],.bool true,.refl H,rfl,.cons (.list h (e b)) .nil,d,?_⟩;intro v H' f _ r;cases r;rfl
def Vk (h:Al P w [] H s (λ_ _ _=>False) e s'):False:=by
 obtain ⟨_,_,_,_,_,_,_,_,_,q⟩:=h;exact q
def walkF {l:xH}{k:Nat}{q:a_}{b:List Str}{A:(Str->Option af)->bD->Prop}{i:bz->bD->Prop}{d:DefRec}{K:Params->aa}{x:Str}{F0:List D->R D}
  (y:l.most=some 63) (g:d.params.defaults=[]) (v:lc k xi) (o:∀ (w:bz) (h:bD),i w h->(K w.params).In h)
  (F:∀ (w:bz) (e:Str->Option af) (m:ao) (h:bD),(K w.params).In h->h.Ns cf e->e d.name=some (.ref m) ->
   ∃ j:fG,(∀ (s:ai) (u:af),Ar s j ⟨[u],[]⟩ [(x,u)])/\∀ base:bD,(K w.params).In base->base.Ns cf e->sZ l.prog w (K w.params) e base (Al l.prog w) k m j [x] (Xa (K w.params) F0))
  (p:∀ c:List Int,c.length<=63->F0 [.list (c.map .int)]=.ok (.bool true)) :
  Qd q b A i l.row.toRowW d [] (λf B=>Ki f B) :=
 L2.Rh (n:=63) (k:=k) (x:=x) (CX:=λw=>Al l.prog w) (sp:=λw=>Xa (K w.params) F0) y (by decide) g v o F (λw H a c t _ z=>Vj (p c t) z) λ_ _ _ _ _ h=>Vk h
def Tx (i:Nat) (g:aC->R Fl):aC->R Fl:=λρ=>g (shareAt i ρ)
def Hv (i:Nat) (h:JS c st gs):JS c st (Tx i gs):=Hu i h
end
def zg {b c:Type} (a:b) (f:b->R c):(R.ok a).bind f=f a:=id rfl
def RJ (h:aC->R Fl):Fl->R Fl:=λb=>match b with
 |.nx a=>h a
 |b=>.ok b
def EQ (g h:aC->R Fl):aO g h (s::ρ)=(g (s::ρ)).bind (RJ h):=id rfl
def vD (h:aC->R Fl) (ρ:aC):RJ h (.nx ρ)=h ρ:=id rfl
def ER (h:aC->R Fl) (d:D):RJ h (.rt d)=.ok (.rt d):=id rfl
def Zq (g h:aC->R Fl) (ρ:aC):Bool->R Fl:=λb=>bif b then g ρ else h ρ
def Xc (t:aC->R Bool) (g h:aC->R Fl):g9 t g h (s::ρ)=(t (s::ρ)).bind (Zq g h (s::ρ)):=by
 show (t (s::ρ)).bind _=_;congr 1;funext b;cases b<;>rfl
def NU (g h:aC->R Fl) (ρ:aC):Zq g h ρ false=h ρ:=id rfl
def NV (g h:aC->R Fl) (ρ:aC) (b:Bool):Zq g h ρ b=bif b then g ρ else h ρ:=id rfl
def rtK:D->R Fl:=λd=>.ok (.rt d)
def Tz (g:aC->R D):ef g (s::ρ)=(g (fE (s::ρ))).bind rtK:=id rfl
def Xd (d:D):rtK d=.ok (.rt d):=id rfl
def zh:Sl->Sl
 |.own d=>.shr d
 |.ow2 a=>.shr (.list (a.map .list))
 |s=>s
def J8:fE (s::ρ)=zh s::fE ρ:=by cases s<;>rfl
def ES:fE []=[]:=id rfl
def J9:zh .no=.no:=id rfl
def ET (d:D):zh (.shr d)=.shr d:=id rfl
def EU (d:D):zh (.own d)=.shr d:=id rfl
def EV (d:List (List D)):zh (.ow2 d)=.shr (.list (d.map .list)):=id rfl
def Xe (i:Nat) (ρ:aC):D->R Fl:=λd=>.ok (.nx (ρ.set i (.shr d)))
def NW (i:Nat) (g:aC->R D):eC i g (s::ρ)=(g (s::ρ)).bind (Xe i (s::ρ)):=id rfl
def NX (i:Nat) (ρ:aC) (d:D):Xe i ρ d=.ok (.nx (ρ.set i (.shr d))):=id rfl
def TC (i:Nat) (ρ:aC):D->R Fl:=λd=>.ok (.nx (ρ.set i (.own d)))
def NY (i:Nat) (g:aC->R D):fv i g (s::ρ)=(g (s::ρ)).bind (TC i (s::ρ)):=id rfl
def Ja (i:Nat) (ρ:aC) (d:D):TC i ρ d=.ok (.nx (ρ.set i (.own d))):=id rfl
def N6 (ρ:aC):D->R Fl:=λ_=>.ok (.nx ρ)
def N_ (g:aC->R D):rh g (s::ρ)=(g (s::ρ)).bind (J.N6 (s::ρ)):=id rfl
def Jb (ρ:aC) (d:D):J.N6 ρ d=.ok (.nx ρ):=id rfl
def g2K (gb:aC->R D) (h:D->D->R D) (ρ:aC):D->R D:=λx=>(gb ρ).bind (h x)
def Xf (a gb:aC->R D) (h:D->D->R D):g2 a gb h (s::ρ)=(a (s::ρ)).bind (g2K gb h (s::ρ)):=id rfl
def TD (gb:aC->R D) (h:D->D->R D) (ρ:aC) (x:D):g2K gb h ρ x=(gb ρ).bind (h x):=id rfl
def RK:D->R Bool:=λd=>match d with
 |.bool b=>.ok b
 |_=>.no
def TF (g:aC->R D):fJ g (s::ρ)=(g (s::ρ)).bind RK:=id rfl
def O0 (b:Bool):RK (.bool b)=.ok b:=id rfl
def Xg:Bool->R Bool:=λb=>.ok (!b)
def TH (g:aC->R Bool):lK g (s::ρ)=(g (s::ρ)).bind Xg:=id rfl
def O1 (b:Bool):Xg b=.ok (!b):=id rfl
def Xh (h:aC->R Bool) (ρ:aC):Bool->R Bool:=λb=>bif b then h ρ else .ok false
def orK (h:aC->R Bool) (ρ:aC):Bool->R Bool:=λb=>bif b then .ok true else h ρ
def TJ (g h:aC->R Bool):vt g h (s::ρ)=(g (s::ρ)).bind (Xh h (s::ρ)):=by
 show (g (s::ρ)).bind _=_;congr 1;funext b;cases b<;>rfl
def Xi (g h:aC->R Bool):Gs g h (s::ρ)=(g (s::ρ)).bind (orK h (s::ρ)):=by
 show (g (s::ρ)).bind _=_;congr 1;funext b;cases b<;>rfl
def O3 (h:aC->R Bool) (ρ:aC) (b:Bool):Xh h ρ b=bif b then h ρ else .ok false:=id rfl
def TK (h:aC->R Bool) (ρ:aC) (b:Bool):orK h ρ b=bif b then .ok true else h ρ:=id rfl
def TL:Bool->R D:=λb=>.ok (.bool (!b))
def O4 (g:aC->R D):ED g (s::ρ)=((g (s::ρ)).bind RK).bind TL:=id rfl
def Jc (b:Bool):TL b=.ok (.bool (!b)):=id rfl
def TM (h:aC->R D) (ρ:aC):Bool->R D:=λb=>bif b then h ρ else .ok (.bool false)
def O5 (g h:aC->R D):r6 g h (s::ρ)=((g (s::ρ)).bind RK).bind (TM h (s::ρ)):=by
 show (fJ g (s::ρ)).bind _=(fJ g (s::ρ)).bind _;congr 1;funext b;cases b<;>rfl
def Jd (h:aC->R D) (ρ:aC) (b:Bool):TM h ρ b=bif b then h ρ else .ok (.bool false):=id rfl
def Xj (g h:aC->R D) (ρ:aC):Bool->R D:=λb=>bif b then g ρ else h ρ
def TQ (t:aC->R Bool) (g h:aC->R D):WW t g h (s::ρ)=(t (s::ρ)).bind (Xj g h (s::ρ)):=by
 show (t (s::ρ)).bind _=_;congr 1;funext b;cases b<;>rfl
def O6 (g h:aC->R D) (ρ:aC) (b:Bool):Xj g h ρ b=bif b then g ρ else h ρ:=id rfl
def Xk (gb a:aC->R D) (h h':D->D->R D) (ρ:aC):D->R D:=λx=>(gb ρ).bind λy=>(h x y).bind λz=>match z with
 |.bool true=>(a ρ).bind λw=>h' y w
 |.bool false=>.ok (.bool false)
 |_=>.no
def Xl (a:aC->R D) (h h':D->D->R D) (ρ:aC) (x:D):D->R D:=λy=>(h x y).bind λz=>match z with
 |.bool true=>(a ρ).bind λw=>h' y w
 |.bool false=>.ok (.bool false)
 |_=>.no
def Xm (a:aC->R D) (h':D->D->R D) (ρ:aC) (y:D):D->R D:=λz=>match z with
 |.bool true=>(a ρ).bind (h' y)
 |.bool false=>.ok (.bool false)
 |_=>.no
def Je (b gb a:aC->R D) (h h':D->D->R D):r9 b gb a h h' (s::ρ)=(b (s::ρ)).bind (Xk gb a h h' (s::ρ)):=id rfl
def O7 (gb a:aC->R D) (h h':D->D->R D) (ρ:aC) (x:D):Xk gb a h h' ρ x=(gb ρ).bind (Xl a h h' ρ x):=id rfl
def O8 (a:aC->R D) (h h':D->D->R D) (ρ:aC) (x y:D):Xl a h h' ρ x y=(h x y).bind (Xm a h' ρ y):=id rfl
def O9 (a:aC->R D) (h':D->D->R D) (ρ:aC) (y:D) (b:Bool):Xm a h' ρ y (.bool b)=bif b then (a ρ).bind (h' y) else .ok (.bool false):=by cases b<;>rfl
def Oa (a:aC->R (List D)) (ρ:aC):D->R (List D):=λd=>(a ρ).bind λds=>.ok (d::ds)
def Ob (d:D):List D->R (List D):=λds=>.ok (d::ds)
def Oc (g:aC->R D) (a:aC->R (List D)):J.ah g a (s::ρ)=(g (s::ρ)).bind (Oa a (s::ρ)):=id rfl
def EW (a:aC->R (List D)) (ρ:aC) (d:D):Oa a ρ d=(a ρ).bind (Ob d):=id rfl
def EX (d:D) (ds:List D):Ob d ds=.ok (d::ds):=id rfl
def TU (ρ:aC):J.aP ρ=.ok []:=id rfl
def TV (k:List D->D):List D->R D:=λds=>if ds.length<=1000 then .ok (k ds) else .no
def Od (a:aC->R (List D)) (k:List D->D):g6 a k (s::ρ)=(a (s::ρ)).bind (TV k):=id rfl
def Jf (k:List D->D) (ds:List D):TV k ds=if ds.length<=1000 then .ok (k ds) else .no:=id rfl
def Oe (a:aC->R (List D)) (h:List D->R D):cb a h (s::ρ)=(a (s::ρ)).bind h:=id rfl
def fnK (n:Nat) (F:List D->R D):List D->R D:=λds=>if ds.length=n then F ds else .no
def Xn (n:Nat) (F:List D->R D) (a:aC->R (List D)):fO n F a (s::ρ)=(a (s::ρ)).bind (fnK n F):=id rfl
def TW (n:Nat) (F:List D->R D) (ds:List D):fnK n F ds=if ds.length=n then F ds else .no:=id rfl
def TX (h:D->R D) (d:D):i9 h [d]=h d:=id rfl
def Of (d:D) (ρ:aC):Gr (.shr d::ρ) 0=.ok d:=id rfl
def TY (s:Sl) (ρ:aC) (n:Nat):Gr (s::ρ) (n+1)=Gr ρ n:=by simp [Gr]
def Og (d:D) (ρ:aC):EC (.shr d::ρ) 0=.ok d:=id rfl
def Oh (d:D) (ρ:aC):EC (.own d::ρ) 0=.ok d:=id rfl
def Oi (d:D) (ρ:aC):EC (.lck d::ρ) 0=.ok d:=id rfl
def TZ (s:Sl) (ρ:aC) (n:Nat):EC (s::ρ) (n+1)=EC ρ n:=by simp [EC]
def Xo (T:String):D->R D:=λd=>if n5 d then .ok (.bool (EH T d)) else .no
def T_ (g:aC->R D) (T:String):yW g T (s::ρ)=(g (s::ρ)).bind (Xo T):=id rfl
def Oj (T:String) (d:D):Xo T d=if n5 d then .ok (.bool (EH T d)) else .no:=id rfl
def Xp (a b:aC->R (Option Int)) (ρ:aC):D->R D:=λx=>(a ρ).bind λl=>(b ρ).bind λh=>IY x l h
def Xq (a:aC->R (Option Int)) (ρ:aC) (x:D):Option Int->R D:=λl=>(a ρ).bind λh=>IY x l h
def Xr (g:aC->R D) (b a:aC->R (Option Int)):Tr g b a (s::ρ)=(g (s::ρ)).bind (Xp b a (s::ρ)):=id rfl
def Ol (b a:aC->R (Option Int)) (ρ:aC) (x:D):Xp b a ρ x=(b ρ).bind (Xq a ρ x):=id rfl
def Om (a:aC->R (Option Int)) (ρ:aC) (x:D) (l:Option Int):Xq a ρ x l=(a ρ).bind (IY x l):=id rfl
def U0 (ρ:aC):Wh ρ=.ok none:=id rfl
def Xs:D->R (Option Int):=λd=>match d with
 |.int i=>.ok (some i)
 |_=>.no
def U1 (g:aC->R D):Rw g (s::ρ)=(g (s::ρ)).bind Xs:=id rfl
def On (i:Int):Xs (.int i)=.ok (some i):=id rfl
def Vl (g:aC->R D):jf g (s::ρ)=(g (s::ρ)).bind yX:=id rfl
def Oo (a:aC->R (List D)):BB a (s::ρ)=(a (s::ρ)).bind Hr:=id rfl
def U2 (a:aC->R (List D)):Ht a (s::ρ)=(a (s::ρ)).bind Yx:=id rfl
def U3 (a:aC->R (List D)):RE a (s::ρ)=(a (s::ρ)).bind zp:=id rfl
def U4 (nt:Nat) (ix:List Nat) (gt:aC->R Bool) (ge:aC->R D) (ρ:aC):List D->R D:=λds=>if ds.length<=1000 then (fw (iA nt (kr nt ix ρ) gt ge) ds).bind λys=>.ok (.list ys) else .no
def U5:List D->R D:=λys=>.ok (.list ys)
def Op (nt:Nat) (ix:List Nat) (a:aC->R (List D)) (gt:aC->R Bool) (ge:aC->R D):eM nt ix a gt ge (s::ρ)=(a (s::ρ)).bind (U4 nt ix gt ge (s::ρ)):=id rfl
def Jg (nt:Nat) (ix:List Nat) (gt:aC->R Bool) (ge:aC->R D) (ρ:aC) (ds:List D):U4 nt ix gt ge ρ ds=if ds.length<=1000 then (fw (iA nt (kr nt ix ρ) gt ge) ds).bind U5 else .no:=id rfl
def Jh (ys:List D):U5 ys=.ok (.list ys):=id rfl
def xq (a:aC->R (List D)) (kt:D->aC->R aC) (gb:aC->R Fl) (ds:List D) (h:a (s::ρ)=.ok ds):oQ a kt gb (s::ρ)=jP kt gb ds (s::ρ):=by unfold oQ;rw [h]
def Oq (k:D->aC->R aC) (ρ:aC):D->R Fl:=λd=>match k d ρ with
 |.ok a=>.ok (.nx a)
 |_=>.no
def U6 (g:aC->R D) (k:D->aC->R aC):wI g k (s::ρ)=(g (s::ρ)).bind (Oq k (s::ρ)):=id rfl
def BC (ds:List D):yX (.list ds)=.ok ds:=id rfl
def BD (ds:List D):yX (.tuple ds)=.ok ds:=id rfl
def BE (x:Str):yX (.str x)=.ok (o7 x):=id rfl
def Os (ds:List D):Yx [.tuple ds]=.ok (qr 0 ds):=id rfl
def Xt (ds es:List D):zp [.tuple ds,.tuple es]=.ok (xX ds es):=id rfl
def zi (ρ:aC) (i:Nat):Sl:=Qr ((ρ[i]?).getD .no)
def Ot (ix:List Nat) (ρ:aC):aC:=ix.map (zi ρ)
def Ou (ix:List Nat) (ρ:aC):kr 1 ix ρ=.no::Ot ix ρ:=id rfl
def Ov (ix:List Nat) (ρ:aC):kr 2 ix ρ=.no::.no::Ot ix ρ:=id rfl
def Ow (ρ:aC):Ot [] ρ=[]:=id rfl
def Ox (i:Nat) (ix:List Nat) (ρ:aC):Ot (i::ix) ρ=zi ρ i::Ot ix ρ:=id rfl
def Oy (s:Sl) (ρ:aC):zi (s::ρ) 0=Qr s:=id rfl
def Oz (s:Sl) (ρ:aC) (n:Nat):zi (s::ρ) (n+1)=zi ρ n:=by simp [zi]
def BF (d:D):Qr (.shr d)=.shr d:=id rfl
def BG (d:D):Qr (.own d)=.lck d:=id rfl
def D7 (h:ρ[i]?=some (Sl.own d)):shareAt i ρ=ρ.set i (.shr d):=by unfold shareAt;rw [h]
def dA {a:Type} (f:D->R (Option D)) (c:a->D) (h:a->D):∀ (xs:List a),(∀ x∈xs,f (c x)=.ok (some (h x)))->fw f (xs.map c)=.ok (xs.map h)
 |[],_=>rfl
 |x::r,e=>by
  rw [az,az];unfold fw;rw [e x ak,bind_ok,dA f c h r λy b=>e y (ag _ b),bind_ok]
def fM {a:Type} (f:D->R (Option D)) (c:a->D) (h:a->D) (p:a->Bool):∀ (xs:List a),(∀ x∈xs,f (c x)=.ok (if p x then some (h x) else none))->fw f (xs.map c)=.ok ((xs.filter p).map h)
 |[],_=>rfl
 |x::r,e=>by
  rw [az];unfold fw;rw [e x ak,bind_ok,fM f c h p r λy d=>e y (ag _ d),bind_ok];cases b:p x<;>simp [b]
def U7 : iA 1 ρ gt ge d=D1 (((gt (ρ.set 0 (.shr d)))).bind λb=>if b then (ge (ρ.set 0 (.shr d))).bind λy=>.ok (some y) else .ok none):=id rfl
def eZ (a:gt (ρ.set 0 (.shr d))=.ok true) (b:ge (ρ.set 0 (.shr d))=.ok y):iA 1 ρ gt ge d=.ok (some y):=by
 rw [U7,a,bind_ok,if_pos rfl,b];rfl
def pJ (a:gt (ρ.set 0 (.shr d))=.ok b) (c:b=true->ge (ρ.set 0 (.shr d))=.ok y):iA 1 ρ gt ge d=.ok (if b then some y else none):=by
 rw [U7,a,bind_ok];cases b with
 |true=>rw [if_pos rfl,c rfl];rfl
 |false=>rfl
def RL (b:-(2 ^ 62)<=j) (f:j<2 ^ 62):Hr [.int j]=.ok (rj 0 j.toNat):=by
 have h:-(2 ^ 62)<=j/\j<2 ^ 62:=⟨b,f⟩;unfold Hr;split
 ·rename_i c e
  have a:j=c:=by injection e with e;injection e
  subst a;rw [if_pos h]
 ·rename_i d
  exact (d j rfl).elim
end J
namespace L2
open PySem PySem.Spec PyProof.Rows
end L2
namespace J
open PySem L2
open PyProof.Rows (envOfC)
section
variable {c:C}{body:List dX}{x n:Str}{np np2 np3 hpos cpos rpos pos:Pos}{gb:aC->R Fl}{names:List Str}{wh:Str->Option Nat}
end
def ln1 {c:Type}{b:List c} (h:b.length=1):∃ a,b=[a]:=by
 rcases b with _|⟨a0,_|⟨z,r⟩⟩
 ·simp at h
 ·exact ⟨_,rfl⟩
 ·simp at h
def ln2 {d:Type}{c:List d} (h:c.length=2):∃ a b,c=[a,b]:=by
 rcases c with _|⟨a0,_|⟨a0,_|⟨z,r⟩⟩⟩
 ·simp at h
 ·simp at h
 ·exact ⟨_,_,rfl⟩
 ·simp at h
def ln3 {e:Type}{d:List e} (h:d.length=3):∃ a b c,d=[a,b,c]:=by
 rcases d with _|⟨a0,_|⟨a0,_|⟨a0,_|⟨z,r⟩⟩⟩⟩
 ·simp at h
 ·simp at h
 ·simp at h
 ·exact ⟨_,_,_,rfl⟩
 ·simp at h
def ln4 {f:Type}{e:List f} (h:e.length=4):∃ a b c d,e=[a,b,c,d]:=by
 rcases e with _|⟨a0,_|⟨a0,_|⟨a0,_|⟨a0,_|⟨z,r⟩⟩⟩⟩⟩
 ·simp at h
 ·simp at h
 ·simp at h
 ·simp at h
 ·exact ⟨_,_,_,_,rfl⟩
 ·simp at h
def ln5 {g:Type}{f:List g} (h:f.length=5):∃ a b c d e,f=[a,b,c,d,e]:=by
 rcases f with _|⟨a0,_|⟨a0,_|⟨a0,_|⟨a0,_|⟨a0,_|⟨z,r⟩⟩⟩⟩⟩⟩
 ·simp at h
 ·simp at h
 ·simp at h
 ·simp at h
 ·simp at h
 ·exact ⟨_,_,_,_,_,rfl⟩
 ·simp at h
end J
namespace J
open PySem L2
end J
namespace HT
open PySem PyProof.Rows
section
open PySem.SeqAt
open PySem.AutoSeq1 (wpAny_loadPart')
open PySem.MeetsSeq PySem.MeetsSeq2 PySem.MeetsSeq3
end
end HT
namespace L2
open PySem PySem.Spec PyProof.Rows
section
variable {X:Cx}{e st:bp}{te ts:TE}{pos p2:Pos}
end
end L2
namespace J
open PySem L2
section
variable {c:C}{e:bp}{g:aC->R D}{pos p2 p3 p4:Pos}
end
end J
namespace L2
open PySem
def Mo (a:Nat):Nat->Nat×Nat->Nat×Nat
 | 0,x=>x
 |n+1,x=>Mo a n (SetTable.leap a x.1 x.2)
def Ji (a:Nat):∀ (n m:Nat) (x:Nat×Nat),Mo a (n+m) x=Mo a m (Mo a n x)
 | 0,m,x=>by rw [xI];rfl
 |n+1,m,x=>by
  rw [Nat.succ_add];exact Ji a n m _
def Jj (a:Nat):∀ (n:Nat) (x:Nat×Nat),(Mo a n x).2=x.2 / 32 ^ n
 | 0,x=>by simp [Mo]
 |n+1,x=>by
  show (Mo a n _).2=_;rw [Jj a n];show x.2 / 32 / 32 ^ n=_;rw [Nat.div_div_eq_div_mul,Nat.pow_succ,GJ]
def Jk (a:Nat):∀ (n:Nat) (x:Nat×Nat),x.1<=a->(Mo a n x).1<=a
 | 0,x,h=>h
 |n+1,x,h=>Jk a n _ (by
  show (x.1*5+1+x.2 / 32) % (a+1)<=a;exact xJ (Co _ (GK _)))
def BH : ∀ (fuel i p:Nat),ej mask owner fuel i p=none->∀ n,n<fuel->(owner.getD (Mo mask n (i,p)).1 (some 0)).isSome=true
 | 0,_,_,_,n,h=>absurd h (jQ n)
 |fuel+1,i,p,e,n,h=>by
  unfold ej at e;split at e
  ·cases e
  ·rename_i b
   cases n with
   |zero =>
    have a:=List.find?_eq_none.mp b 0 (List.mem_range.mpr (by unfold SetTable.runEnd;split<;>omega));simp only [xK] at a;show (owner.getD i (some 0)).isSome=true;cases q:owner.getD i (some 0) with
    |none=>rw [q] at a;exact absurd rfl a
    |some _=>rfl
   |succ n=>exact BH fuel _ _ e n (GL h)
def BI : ∀ (fuel i p k:Nat),ej mask owner fuel i p=some k->owner.getD k (some 0)=none
 | 0,_,_,_,e=>nomatch e
 |fuel+1,i,p,k,e=>by
  unfold ej at e;split at e
  ·rename_i a b
   cases e;have:=List.find?_some b;cases q:owner.getD (i+a) (some 0) with
   |none=>rfl
   |some _=>rw [q] at this;cases this
  ·exact BI fuel _ _ k e
def Mp (a:Nat):Prop:=a=7\/a=15\/a=31
def Xu (a:Nat):Bool:=(bM (a+1)).all λi=>(bM (a+1)).all λj=>(bM (a+1)).any λn=>decide ((Mo a n (i,0)).1=j)
def RM (h:Mp mask):Xu mask=true:=by
 rcases h with h|h|h<;>subst h<;>decide +kernel
def getD_none {owner:Array (Option Nat)}{k:Nat} (h:owner.getD k (some 0)=none):owner.toList[k]?=some none:=by
 by_cases a:k<owner.size
 ·rw [iR,e7 a] at h;rw [ck,e7 a];simpa using h
 ·rw [iR,Array.getElem?_eq_none (by omega)] at h;cases h
def L7 {a:Nat} (h:Mp a) {owner:Array (Option Nat)}{j:Nat} (o:j<=a) (d:owner.toList[j]?=some none) {i p:Nat} (s:i<=a) (m:p<2 ^ 64) :
  ∃ k,ej a owner (qD a) i p=some k/\owner.toList[k]?=some none:=by
 cases e:ej a owner (qD a) i p with
 |some k=>exact ⟨k,rfl,getD_none (BI _ _ _ _ e)⟩
 |none =>
  exfalso;have l:(Mo a 13 (i,p)).2=0:=by
   rw [Jj];exact Nat.div_eq_of_lt (aK m (by decide))
  have f:=Jk a 13 (i,p) s;have g:=RM h;unfold Xu at g;rw [bA] at g;have g:=g _ (List.mem_range.mpr (hJ f));rw [bA] at g;have g:=g j (List.mem_range.mpr (hJ o));rw [jo] at g;obtain ⟨n,c,b⟩:=g;have c:=List.mem_range.mp c;have b:=of_decide_eq_true b;have hs:(Mo a (13+n) (i,p)).1=j:=by
   rw [Ji,<- b,<- l]
  have:=BH _ _ _ e (13+n) (by unfold qD;omega);rw [hs] at this;have q:owner.getD j (some 0)=none:=by
   rw [ck] at d;rw [iR,d];rfl
  rw [q] at this;cases this
def RN (h:Int):nj h<2 ^ 64:=by
 unfold nj;have:=nX h (show (0:Int)<2 ^ 64 by decide);have:=rP h (show (2 ^ 64:Int)≠0 by decide);omega
def EY:∀ {l:List (Option Nat)}{j:Nat},l[j]?=some none->((l.set j (some k)).filterMap id).Perm (k::l.filterMap id)
 |[],_,h=>nomatch h
 |x::r,0,h=>by
  cases h;exact .refl _
 |x::r,j+1,h=>by
  have a:=EY (k:=k) (l:=r) (j:=j) h;cases x with
  |none=>exact a
  |some y=>exact (a.cons y).trans (.swap k y _)
def EZ:∀ {l:List (Option Nat)},(l.filterMap id).length<l.length->∃ j,j<l.length/\l[j]?=some none
 |[],h=>absurd h (bf 0)
 |none::r,_=>⟨0,GK _,rfl⟩
 |some y::r,h=>by
  obtain ⟨j,a,b⟩:=EZ (l:=r) (GL h);exact ⟨j+1,Nat.succ_lt_succ a,b⟩
def Jl (a:Nat) (b:Option (Array (Option Nat)×Nat)) (h:Int):Option (Array (Option Nat)×Nat):=b.bind λx=>(ej a x.1 (qD a) (nj h % (a+1)) (nj h)).bind λj=>some (x.1.setIfInBounds j (some x.2),x.2+1)
def E_ (a:Nat) (hs:Array Int):uR a hs=(hs.toList.foldl (Jl a) (some (yB (a+1) none,0))).map (·.1):=by
 rw [Array.foldl_toList];rfl
def Jm (f:Mp mask):∀ (l:List Int) (owner:Array (Option Nat)) (k:Nat),owner.size=mask+1->(owner.toList.filterMap id).Perm (bM k)->k+l.length<=mask ->
  ∃ b,l.foldl (Jl mask) (some (owner,k))=some (b,k+l.length)/\b.size=mask+1/\(b.toList.filterMap id).Perm (bM (k+l.length))
 |[],owner,k,a,c,_=>⟨owner,rfl,a,c⟩
 |h::r,owner,k,a,c,g=>by
  simp only [aY] at g ⊢;obtain ⟨j,d,o⟩:=EZ (l:=owner.toList) (by rw [c.length_eq,fD,ax,a];omega);rw [ax,a] at d;obtain ⟨m,p,n⟩:=L7 f (xJ d) o (i:=nj h % (mask+1)) (xJ (Co _ (GK _))) (RN h);have e:Jl mask (some (owner,k)) h=some (owner.setIfInBounds m (some k),k+1):=by
   unfold Jl;simp only [Mi,p]
  rw [cH,e];obtain ⟨b,a1,a2,a3⟩:=Jm f r (owner.setIfInBounds m (some k)) (k+1) (by rw [Array.size_setIfInBounds];exact a) (by
   rw [Array.toList_setIfInBounds];refine (EY n).trans ?_;rw [List.range_succ];exact ((c.cons k).trans (List.perm_append_singleton k _).symm)) (by omega)
  rw [show k+1+r.length=k+(r.length+1) by omega] at a1 a3;exact ⟨b,a1,a2,a3⟩
def Jn {n:Nat}{o:Array (Option Nat)} (h:o.size=n):(bM n).filterMap (λj=>o.getD j none)=o.toList.filterMap id:=by
 have e:(bM n).map (λj=>o.getD j none)=o.toList:=by
  refine ye (by simp [h]) λi a b=>?_;simp only [aq,fD] at a;rw [lu,Mj,iR,e7 (by omega)];simp
 rw [<- e,ng];rfl
def Jo {mask finger moves:Nat}{led plain:Bool}{hs:Array Int} (f:Mp mask) (i:hs.size<=mask):∃ place a,Ai mask finger moves led plain hs=some ({ mask,place,dummies:=#[],finger,led,moves,plain },a)/\place.size=hs.size/\a.toList.Perm (bM hs.size):=by
 obtain ⟨o,d,c,b⟩:=Jm f hs.toList (yB (mask+1) none) 0 (by simp) (by
  have:(yB (mask+1) (none:Option Nat)).toList.filterMap id=[]:=by
   rw [Array.toList_replicate,List.filterMap_eq_nil_iff];intro x h;rw [(List.mem_replicate.mp h).2];rfl
  rw [this];exact .refl _) (by rw [ax];omega)
 have g:uR mask hs=some o:=by
  rw [E_,d];rfl
 rw [xI,ax] at b;refine ⟨_,_,by unfold Ai;rw [g];rfl,?_,?_⟩
 ·have e:=congrArg tF (Jn c);rw [b.length_eq,fD] at e;rw [aR,aq,<- e];rw [xL,xL];congr 1;funext j;cases o.getD j none<;>rfl
 ·rw [List.map_filterMap];refine .trans (.of_eq ?_) b;rw [<- Jn c];show List.filterMap _ _=List.filterMap _ _;congr 1;funext j;cases o.getD j none<;>rfl
end L2
namespace L2
open PySem
def OA:∀ n:_root_.Fin 31,n.val<cL n.val/\(cL n.val=8\/cL n.val=16\/cL n.val=32):=by decide +kernel
def OB (h:n<=30):n<=cL n-1/\Mp (cL n-1)/\cL n<=32:=by
 obtain ⟨a,b⟩:=OA ⟨n,by omega⟩;simp only at a b;unfold Mp;omega
def zj {es:Array (Int×af)}{a:Array Nat} (h:a.toList.Perm (bM es.size)):(a.filterMap (es[·]?)).toList.Perm es.toList:=by
 rw [Array.toList_filterMap];refine (h.filterMap _).trans (.of_eq ?_);have e:(bM es.size).map (λi=>es[i]?)=es.toList.map some:=by
  refine ye (by simp) λi b d=>?_;simp only [aq,fD] at b;rw [lu,Mj,lu,Array.getElem_toList];exact e7 b
 have c:(bM es.size).filterMap (λi=>es[i]?)=((bM es.size).map (λi=>es[i]?)).filterMap id:=by rw [ng];rfl
 rw [c,e,ng];simp
def dw.of (I:dw w h a es ep t) (p:es'.toList.Perm es.toList) (f:t'.fits es'.size=true) (l:t'.led=t.led) (pl:t'.plain=t.plain):dw w (h.update a (qN es' t')) a es' (ep+1) t':=by
 have sz:es'.size=es.size:=by rw [<- ax,p.length_eq,ax]
 refine ⟨rY I,λe he=>I.txt e (p.mem_iff.mp he),(p.map ko).nodup_iff.mpr I.nd,by rw [sz];exact I.few,f,l.trans I.led,?_⟩;rw [sz,pl];exact I.pl
def zk {t:lE}{n:Nat} (h:t.fits n=true):t.place.size=n/\t.fill<=t.mask:=by
 unfold nh at h;rw [aV] at h;exact ⟨eq_of_beq h.1,of_decide_eq_true h.2⟩
def Jp {mask finger moves:Nat}{led plain:Bool}{place:Array Nat}{n:Nat} (h:place.size=n) (a:n<=mask):nh { mask,place,dummies:=#[],finger,led,moves,plain } n=true:=by
 unfold nh Mx;subst h;simp only [beq_self_eq_true,u_,decide_eq_true_eq];exact a
def Hw {a:ao}{es:Array (Int×af)}{ep:Nat}{t:lE}{b:Nat}{Q:Unit->ai->Prop} (I:dw w s.heap a es ep t) (l:b<=30) (n:es.size<=b)
  (h:∀ h' es' d t',bC a s.heap h'->dw w h' a es' d t'->es'.toList.Perm es.toList->Mp t'.mask->b<=t'.mask->Q () { s with heap:=h' }):au (aA P w) A (setRelay a b) Q E s:=by
 obtain ⟨k,i,o⟩:=OB l;obtain ⟨place,c,e,j,ho⟩:=Jo (finger:=t.finger) (moves:=t.movedTo (cL b-1)) (led:=t.led) (plain:=t.plain) (hs:=es.map (·.1)) i (by rw [kj];omega);rw [kj] at j ho;have f:=zj ho;have sz:(c.filterMap (es[·]?)).size=es.size:=by rw [<- ax,f.length_eq,ax]
 unfold setRelay;refine a8 (bE I.at_ rfl I.fits ?_);show au _ _ (if cL b > sizeLine then _ else _) _ _ s;have m:(32:Nat)<=sizeLine:=by decide
 rw [if_neg (by omega)];refine a8 ?_;unfold Kj;rw [e];show au _ _ (if ((c.filterMap (es[·]?)).size != es.size)=true then _ else pure (c.filterMap (es[·]?),_)) _ _ s;rw [if_neg (by rw [sz];simp)];refine a9 ?_;have g:nh { mask:=cL b-1,place,dummies:=#[],finger:=t.finger,led:=t.led,moves:=t.movedTo (cL b-1),plain:=t.plain } (c.filterMap (es[·]?)).size=true:=Jp (by rw [sz];exact j) (by rw [sz];omega);refine jn I.at_ rfl ?_ (by rw [sz];exact fW I.few);exact h _ _ _ _ (bP s.heap a _) (I.of f g rfl rfl) f i k
def D8 {a:ao}{es:Array (Int×af)}{ep:Nat}{t:lE}{more:Nat}{Q:Unit->ai->Prop} (I:dw w s.heap a es ep t) (g:es.size+more<=15) (e:es.size≠0\/Mp t.mask)
  (h:∀ h' es' b t',bC a s.heap h'->dw w h' a es' b t'->es'.toList.Perm es.toList->(es.size≠0\/Mp t'.mask)->more<=t'.mask->Q () { s with heap:=h' }):au (aA P w) A (setRoomFor a more) Q E s:=by
 obtain ⟨c,i⟩:=zk I.fits;unfold setRoomFor;refine a8 (bE I.at_ rfl I.fits ?_);dsimp only;unfold SetTable.roomFor;by_cases d:(t.fill+more)*5 ≥ t.mask*3
 ·rw [if_pos d];refine Hw I (by rw [c];omega) (by rw [c];omega) λh' es' b t' a1 a2 a3 f a5=>?_;exact h h' es' b t' a1 a2 a3 (.inr f) (by rw [c] at a5;omega)
 ·rw [if_neg d];exact a9 (h s.heap es ep t (.refl ..) I (.refl _) e (by omega))
end L2
namespace L2
open PySem
def yp {a σ:Type}{M:M4}{A:bB}{E:af->ai->Prop}{Q:σ->ai->Prop}{f:a->σ->Sem (ForInStep σ)}{b:σ} (I:List a->ai->Prop)
  (step:∀ x r s,I (x::r) s->au M A (f x b) (λst s'=>st=.yield b/\I r s') E s) (fin:∀ s,I [] s->Q b s):∀ (l:List a) (s:ai),I l s->au M A (forIn l b f) Q E s
 |[],s,h=>by rw [kz];exact a9 (fin s h)
 |x::r,s,h=>by
  rw [gP];refine a8 (aT (step x r s h) (λst s' q=>?_) λ_ _ e=>e);obtain ⟨rfl,q⟩:=q;exact yp I step fin r s' q
def F1 (h:∀ a∈l,∃ es ep t,dw w s.heap a es ep t) (q:Q true s):au (aA P w) A (setsQuiet l) Q E s:=by
 unfold setsQuiet;refine a8 (yp (λr s'=>s'=s/\∀ a∈r,∃ es ep t,dw w s.heap a es ep t) (λa r s' c=>?_) (λs' c=>?_) l s ⟨rfl,h⟩)
 ·obtain ⟨rfl,c⟩:=c;obtain ⟨es,ep,t,I⟩:=c a ak;unfold setEntries;refine a8 (a8 (bE I.at_ rfl I.fits (a9 ?_)));dsimp only;rw [<- Ko];refine a8 (yp (λg f=>f=s'/\∀ e∈g,u7 w e) (λe g f d=>?_) (λf d=>?_) es.toList s' ⟨rfl,I.txt⟩)
  ·obtain ⟨rfl,d⟩:=d;obtain ⟨x,j,rfl⟩:=d e ak;exact a9 ⟨rfl,rfl,λe he=>d e (ag _ he)⟩
  ·obtain ⟨rfl,_⟩:=d;exact a9 ⟨rfl,rfl,λb i=>c b (ag _ i)⟩
 ·obtain ⟨rfl,_⟩:=c;exact a9 q
def L8 (I:dw w s.heap o es ep t) (b:w.params.followText "set-order"=true\/t.plain=true\/es.size<=1)
  (q:∀ es',es'.toList.Perm es.toList->Q es' s):au (aA P w) A (setWalk o) Q E s:=by
 unfold setWalk;refine a8 (bE I.at_ rfl I.fits (a8 (fN ?_)));cases a:w.params.followText "set-order" with
 |true =>
  simp only [if_true];exact a8 (gH (a9 (q _ (wA _ _))))
 |false =>
  simp only [ba,if_false];have d:(!t.plain&&decide (es.size > 1))=false:=by
   rcases b with h|h|h
   ·rw [a] at h;cases h
   ·rw [h];rfl
   ·rw [decide_eq_false (by omega),tJ]
  have c:t.led=true:=by rw [I.led,a];rfl
  show au _ _ (if (!t.plain&&decide (es.size > 1))=true then _ else _) _ _ s;rw [d,if_neg bw];refine a8 ?_;show au _ _ (if (!t.led&&decide (es.size > 1))=true then _ else pure ()) _ _ s;rw [c,if_neg (by simp)];exact a9 (a9 (q _ (.refl _)))
def xY (I:dw w s.heap o eo epo to) (J:dw w s.heap a es ep t)
  (q:∀ h' es' e t',bC a s.heap h'->dw w h' a es e t'->es'.toList.Perm eo.toList->Q es' { s with heap:=h' }):au (aA P w) A (setWalkUnseen o [a] (some a)) Q E s:=by
 unfold setWalkUnseen;refine a8 (bE I.at_ rfl I.fits (a8 (fN ?_)));cases d:(w.params.followText "set-order" || to.led&&to.plain||decide (eo.size<=1)) with
 |true =>
  rw [if_pos rfl];refine L8 I ?_ λes' p=>q s.heap es' ep t (.refl ..) J p;rw [jM,jM,aV,decide_eq_true_eq] at d;rcases d with (h|h)|h
  ·exact .inl h
  ·exact .inr (.inl h.2)
  ·exact .inr (.inr h)
 |false =>
  rw [if_neg bw];rw [IF,IF,decide_eq_false_iff_not] at d;obtain ⟨⟨i,_⟩,j⟩:=d;refine a8 (F1 (λb g=>?_) ?_)
  ·rcases List.mem_cons.mp g with h|h
   ·rw [h];exact ⟨_,_,_,I⟩
   ·rw [List.mem_singleton.mp h];exact ⟨_,_,_,J⟩
  rw [if_neg (by simp)];refine a8 (dH ?_);dsimp only;refine a8 (bE J.at_ rfl J.fits ?_);dsimp only;have f:to.plain=false:=I.pl.resolve_left (by omega);have c:(t.led&&to.led)=t.led:=by rw [I.led,J.led,v3]
  split
  ·refine a8 (jn J.at_ rfl ?_ (fW J.few));refine a9 (q _ _ _ _ (bP s.heap a _) (⟨rY J,J.txt,J.nd,J.few,?_,?_,?_⟩:dw w _ a es (ep+1) _) (.refl _))
   ·exact J.fits
   ·exact c.trans J.led
   ·exact .inr (by show (t.plain&&to.plain)=false;rw [f,tJ])
  ·exact a9 (q s.heap eo ep t (.refl ..) J (.refl _))
end L2
namespace L2
open PySem
def dw.but (I:dw w h o eo epo to) (ne:a≠o) (b:bC a h h'):dw w h' o eo epo to:=I.keep λ_ e=>(b.2 o (cF ne)).trans e
def zm {a o:ao}{es c:Array (Int×af)}{ep T:Nat}{t n:lE}{k:Sem Unit}{Q:Unit->ai->Prop} (ne:a≠o) (J:dw w s.heap a es ep t) (I:dw w s.heap o c T n)
  (hz:es.size+c.size<=15) (hm:es.size≠0\/Mp t.mask) (he:∀ (s':ai) (Q':Unit->ai->Prop),dw w s'.heap o c T n->Q' () s'->au (aA P w) A k Q' E s')
  (q:∀ h' d es' a5 t',bC a s.heap h'->dw w h' a es' a5 t'->(∀ x,x∈es'.toList.map ko↔x∈es.toList.map ko\/x∈c.toList.map ko)->(es'.size≠0\/Mp t'.mask)->Q () { s with heap:=h',toks:=d }) :
  au (aA P w) A (setMerge a o k) Q E s:=by
 unfold setMerge;rw [if_neg (by simpa using ne)];refine a8 (bE I.at_ rfl I.fits ?_);dsimp only;by_cases p:c.size=0
 ·rw [if_pos (by simpa [Array.isEmpty] using p)];have e0:c=#[]:=k_ p;exact a9 (q s.heap s.toks es ep t (.refl ..) J (λx=>by rw [e0];simp) hm)
 rw [if_neg (by simpa [Array.isEmpty] using p)];refine a8 (D8 J hz hm λG B M i j g p1 m1 r1=>?_);have I1:=I.but ne j;have b6:B.size=es.size:=by rw [<- ax,p1.length_eq,ax]
 refine a8 (bE (s:={ s with heap:=G }) g.at_ rfl g.fits ?_);dsimp only;obtain ⟨f1,f2⟩:=zk g.fits;have N:n.plain=false:=I.pl.resolve_left p;have u:(i.led&&n.led)=i.led:=by rw [I.led,g.led,v3]
 have kp:∀ x,x∈B.toList.map ko↔x∈es.toList.map ko:=λx=>(p1.map ko).mem_iff;by_cases hf:i.fill=0
 ·have e1:es.size=0:=by
   unfold Mx at hf;omega
  have mk:Mp i.mask:=m1.resolve_left (by omega);have ee:es=#[]:=k_ e1;unfold My;rw [if_neg (by rw [hf];decide)];split
  ·refine jn (s:={ s with heap:=G }) g.at_ rfl ?_ (fW I.few);refine q _ s.toks _ _ _ (j.trans (bP G a _)) (⟨rY g,I.txt,I.nd,I.few,?_,?_,?_⟩:dw w _ a c (M+1) _) (λx=>by rw [ee];simp) (.inl p)
   ·exact I.fits
   ·exact u.trans g.led
   ·exact .inr (by show (i.plain&&n.plain)=false;rw [N,tJ])
  ·obtain ⟨b0,b,e,hp,ho⟩:=Jo (finger:=i.finger) (moves:=i.moves) (led:=i.led&&n.led) (plain:=i.plain&&n.plain) (hs:=c.map (·.1)) mk (by rw [kj];exact r1);rw [kj] at hp ho;have U:=zj ho;have sz:(b.filterMap (c[·]?)).size=c.size:=by rw [<- ax,U.length_eq,ax]
   refine a8 ?_;rw [e];show au _ _ (if ((b.filterMap (c[·]?)).size != c.size)=true then _ else pure (b.filterMap (c[·]?),_)) _ _ _;rw [if_neg (by rw [sz];simp)];refine a9 ?_;refine jn (s:={ s with heap:=G }) g.at_ rfl ?_ (by rw [sz];exact fW I.few);refine q _ s.toks _ _ _ (j.trans (bP G a _)) (⟨rY g,λx hx=>I.txt x (U.mem_iff.mp hx),(U.map ko).nodup_iff.mpr I.nd,by rw [sz];exact I.few,Jp (by rw [sz];exact hp) (by rw [sz];exact r1),u.trans g.led,.inr ?_⟩:dw w _ a (b.filterMap (c[·]?)) (M+1) _) (λx=>?_) (.inl (by rw [sz];exact p))
   ·show (i.plain&&n.plain)=false;rw [N,tJ]
   ·rw [(U.map ko).mem_iff,ee];simp
  ·rename_i X
   split at X<;>cases X
 ·unfold My;rw [if_pos (by simpa using hf)];dsimp only;refine a8 (xY (s:={ s with heap:=G }) I1 g λh2 O a7 t2 a0 J2 p2=>?_);rw [<- Ko];have hl:O.toList.length=c.size:=by rw [p2.length_eq,ax]
  refine a8 (yp (λr s'=>∃ h' d f L t',s'={ s with heap:=h',toks:=d }/\bC a s.heap h'/\dw w h' a f L t'/\f.size+r.length<=15/\(∀ e∈r,u7 w e)/\∀ x,(x∈f.toList.map ko\/x∈r.map ko)↔x∈es.toList.map ko\/x∈c.toList.map ko) ?_ ?_ O.toList _ ⟨h2,s.toks,B,a7,t2,rfl,j.trans a0,J2,by omega,λe he=>I.txt e (p2.mem_iff.mp he),λx=>by rw [kp,(p2.map ko).mem_iff]⟩)
  ·rintro e r s' ⟨h',d,f,L,t',rfl,v,J',z',z,Y⟩;obtain ⟨x,tk,rfl⟩:=z e ak;simp only [aY] at z';dsimp only;refine a8 (bZ (Br (s:={ s with heap:=h',toks:=d }) (⟨f,L,t',J',.refl _⟩:jV w h' a (f.toList.map ko)) (by rw [aq,ax];exact aK (show f.size+1<100 by omega) (by decide)) λS m H a1=>?_));obtain ⟨a6,a3,a4,a2,l⟩:=a1;have K:=v.trans H;have I3:=I.but ne K;refine a8 (he _ _ I3 ?_);refine a8 (bE (s:={ s with heap:=S,toks:=m }) I3.at_ rfl I3.fits ?_);dsimp only;rw [if_neg (by simp)];refine a9 ⟨rfl,S,m,a6,a3,a4,rfl,K,a2,?_,λe he=>z e (ag _ he),λy=>?_⟩
   ·have:=l.length_eq;rw [aq,ax] at this;have l2:(if x∈f.toList.map ko then f.toList.map ko else f.toList.map ko++[x]).length<=f.size+1:=by
     split<;>simp
    omega
   ·rw [<- Y y,l.mem_iff];have ek:ko (hashStr w x,iH x tk)=x:=rfl;rw [az,aQ,ek];split
    ·rename_i hx
     constructor
     ·rintro (h|h)
      ·exact .inl h
      ·exact .inr (.inr h)
     ·rintro (h|h|h)
      ·exact .inl h
      ·rw [h];exact .inl hx
      ·exact .inr h
    ·rw [eu,df];constructor
     ·rintro ((h|h)|h)
      ·exact .inl h
      ·exact .inr (.inl h)
      ·exact .inr (.inr h)
     ·rintro (h|h|h)
      ·exact .inl (.inl h)
      ·exact .inl (.inr h)
      ·exact .inr h
  ·rintro s' ⟨h',d,f,L,t',rfl,v,J',z',z,Y⟩;refine a9 (q h' d f L t' v J' (λx=>?_) (.inl ?_))
   ·rw [<- Y x];simp
   ·intro e0;obtain ⟨e,hh⟩:∃ e,e∈c.toList:=by
     cases X:c.toList with
     |nil=>rw [<- ax,X] at p;exact absurd rfl p
     |cons e r=>exact ⟨e,ak⟩
    have:=(Y (ko e)).mpr (.inr (bT hh));rw [k_ e0] at this;simp at this
end L2
namespace L2
open PySem PyProof.Rows
def D9:Aw table "set.__or__"=some iC.«frozenset.__or__»:=GE (id':="frozenset.__or__") (by kernel_rfl) rfl (by decide +kernel) (by kernel_rfl)
section
variable {P:a_}{w:bz}{A:bB}{E:af->ai->Prop}{s:ai}
def dw.ty (I:dw w s.heap a es ep t):s.TypeIs (.ref a) "set":=⟨_,I.at_,rfl⟩
def ui (I:dw w s.heap a es ep t) (q:Q true s):au (aA P w) A (sV (.ref a)) Q E s:=by
 unfold sV;refine a8 (gI I.ty Mt ?_);exact a9 q
def OC (e:h.get? a=some (fj w)):dw w h a #[] 0 (.fresh 0 0 (!w.params.followText "set-order")) :=
 ⟨e,(λ_ h=>nomatch h),eV,by decide,rfl,rfl,.inl rfl⟩
def RO (T:jV w s.heap a xs) (X:jV w s.heap b ys) (ne:a≠b) (hz:xs.length+ys.length<=15)
  (q:∀ h' j,bC s.heap.objs.size (s.heap.push (fj w)) h'->jV w h' s.heap.objs.size (cY xs ys)->Q (.ref s.heap.objs.size) { s with heap:=h',toks:=j }) :
  au (aA P w) A (gO .BitOr (.ref a) (.ref b)) Q E s:=by
 obtain ⟨h,pa,ta,d,p⟩:=T;obtain ⟨I,Y,tb,i,B⟩:=X;have sa:h.size=xs.length:=by rw [<- p.length_eq,aq,ax]
 have sb:I.size=ys.length:=by rw [<- B.length_eq,aq,ax]
 refine wpAny_binaryOp_same d.ty i.ty F.fills_set_or F.slot_set_or (bO F.slot_set_or d.ty D9 ?_ (F.args_set_or_2 _ _));have n:a<s.heap.objs.size:=av d.at_;have t:b<s.heap.objs.size:=av i.at_;show au _ _ (QK "__or__" ⟨[.ref a,.ref b],[]⟩ >>= _) _ _ s;refine a8 (a8 (a9 (a9 ?_)));dsimp only;refine a8 (a8 (ui d (ui i ?_)));rw [if_neg (by simp)];refine a8 (a9 (a8 ?_));show au _ _ (u4 a >>= _) _ _ s;refine a8 ?_;unfold u4 QL;refine a8 (a8 (gI d.ty Mt (a9 ?_)));rw [if_pos rfl];refine a8 (o0 ?_);have N:(s.heap.push (fj w)).get? s.heap.objs.size=some (fj w):=ay _ rfl;have L:=OC N;have m:dw w (s.heap.push (fj w)) a h pa ta:=d.keep λ_ e=>ac _ e;have u:dw w (s.heap.push (fj w)) b I Y tb:=i.keep λ_ e=>ac _ e;have na:s.heap.objs.size≠a:=cF (aB n);have v:s.heap.objs.size≠b:=cF (aB t);refine a8 (a9 (a8 (zm (s:={ s with heap:=s.heap.push (fj w) }) na L m (by show 0+h.size<=15;omega) (.inr (.inl rfl)) (λ_ _ _ q=>a9 q) λk f e1 p1 t1 g K y m1=>a9 ?_)));have c:=u.but v g;have U:(e1.toList.map ko).length<=h.size:=by
  have:=(nq K.nd d.nd).mpr λx=>by rw [y];simp
  rw [this.length_eq,aq,ax];exact aw _
 rw [aq,ax] at U;show au _ _ (if (bv b != bv a)=true then _ else _) _ _ _;rw [if_pos (by simp;exact cF ne)];refine a8 (a9 (a8 (bZ ?_)));show au _ _ (jL _ s.heap.objs.size (bv b)) _ _ _;unfold jL;refine a8 (ui (s:={ s with heap:=k,toks:=f }) c ?_);rw [if_pos rfl];refine a8 (a9 ?_);unfold QM setEpoch;refine a8 (a8 (bE (s:={ s with heap:=k,toks:=f }) c.at_ rfl c.fits (a9 ?_)));refine zm (s:={ s with heap:=k,toks:=f }) v K c (by omega) m1 (λs' Q' G q'=>?_) λh2 o e2 M O l H S m2=>?_
 ·unfold QN setEpoch;refine a8 (a8 (bE G.at_ rfl G.fits (a9 ?_)));dsimp only;rw [if_neg (by simp)];exact a9 q'
 ·refine a9 (a9 ⟨_,rfl,(λz=>nomatch z),q h2 o (g.trans l) ⟨e2,M,O,H,?_⟩⟩);refine (nq H.nd (i_ _ _ (p.nodup_iff.mp d.nd))).mpr λx=>?_;rw [S,j8,y,p.mem_iff,B.mem_iff];simp
end
end L2
namespace L2
open PySem PyProof.Rows
def Vm:qG X (gO .BitOr) (λx y H Q=>∃ a b xs ys,x=.ref a/\y=.ref b/\a≠b/\H a=some (jO X.w a xs)/\H b=some (jO X.w b ys)/\xs.length+ys.length<=15/\∀ p,H p=none->Q (.ref p) (upd H p (jO X.w p (cY xs ys)))):=by
 intro pins s σ H x y v u Q I d k h;obtain ⟨a,b,xs,ys,rfl,rfl,ne,g,i,f,q⟩:=h;cases d;cases k;have j:=(show dI X.prog X.w H s.heap a (jO X.w a xs) from I.hok a _ g).1;have Sb:=(show dI X.prog X.w H s.heap b (jO X.w b ys) from I.hok b _ i).1;refine RO j Sb ne f λh' c l S=>?_;refine ⟨.ref s.heap.objs.size,_,I.laid (t':=c) (λb o e=>?_) (aw _) (ym S),rfl,q _ (I.hok.fresh (aw _))⟩;exact (l.2 b (aB (av e))).trans (ac _ e)
end L2
namespace J
open PySem L2
def Vn (xs ys:List Str):R (List Str):=if xs.length+ys.length<=15 then .ok (cY xs ys) else .no
def OD (a gb:aC->R (List Str)):aC->R (List Str):=λρ=>(a ρ).bind λxs=>(gb ρ).bind (J.Vn xs)
def Vo (y:Qs c a ga) (E:Qs c b gb):Qs c (.BinOp a .BitOr b pos) (OD ga gb):=.of λρ=>qH (T1 Vm (y ρ) (E ρ)) λσ H Q h=>by
 obtain ⟨L,I,la,Hs,f,q⟩:=h;refine J7 (w:=c.X.w) f q λxs p o d G n t A=>?_;unfold OD at q;rw [G,bind_ok] at q;have m:cP o d (upd o p (jO c.X.w p xs)) d:=.mine t.st.sub A;refine J7 (w:=c.X.w) (t.step m) (q.on (n.trans m) (q':=λ_=>True) λ_ _=>trivial) λys g k e K u B s=>?_;rw [K,bind_ok] at q;unfold J.Vn at q;by_cases i:xs.length+ys.length<=15
 ·rw [if_pos i] at q;have j:k p=some (jO c.X.w p xs):=u.all p _ bi;have ne:p≠g:=λz=>by rw [z,s] at j;cases j
  have v:cP k e (upd k g (jO c.X.w g ys)) e:=.mine B.st.sub s;exact ⟨p,g,xs,ys,rfl,rfl,ne,by rw [bj ne];exact j,bi,i,λl x=>q l _ _ (n.trans (m.trans (u.trans v))) x⟩
 ·rw [if_neg i] at q;exact q.elim
end J
namespace J
open PySem L2
def Zr (i j:Nat) (ρ:aC):List D->R Fl
 |[d,e]=>.ok (.nx ((ρ.set i (.shr d)).set j (.shr e)))
 |_=>.no
def OE (i j:Nat) (a:aC->R (List D)):aC->R Fl:=λρ=>(a ρ).bind (Zr i j ρ)
def Vp (i j:Nat) (u:c.X.calm=true) (o:c.X.N.Nodup) (t:KY c [a,b] gs) (A:c.X.N[i]?=some x:=by rfl) (E:c.X.N[j]?=some y:=by rfl) (k:i≠j:=by decide)
  (I:c.X.env.scope.names.lookup x=some .local:=by rfl) (p:c.X.env.scope.names.lookup y=some .local:=by rfl) (w:y9 [.Tuple [.Name x px,.Name y py] kt pt] (.Tuple [a,b] k2 pt2) c.X.env=pure (some [x,y]):=by rfl)
  (hs:y8 [.Tuple [.Name x px,.Name y py] kt pt] (.Tuple [a,b] k2 pt2) pos.line c.X.env=pure false:=by rfl):JS c (.Assign [.Tuple [.Name x px,.Name y py] kt pt] (.Tuple [a,b] k2 pt2) pos) (OE i j gs):=.of λρ=>Am (UF u o A E k I p (t ρ) w hs) λD σ H h=>by
 obtain ⟨v,m,la,Hs,f,q⟩:=h;refine ⟨v,m,la,Hs,f,?_⟩;unfold OE at q;cases l:gs ρ with
 |ok ds =>
  rw [l,bind_ok] at q;intro K H' g s r
  match ds,r,q with
  |[],_,q=>exact q.elim
  |[_],_,q=>exact q.elim
  |[d,e],.cons B (.cons G .nil),q=>exact ⟨_,_,rfl,q _ _ g (((f.step s).set i B).set j G)⟩
  |_::_::_::_,_,q=>exact q.elim
 |ex z n =>
  rw [l] at q;exact λH' g s=>q H' g (f.st.trans s)
 |no=>rw [l] at q;exact q.elim
end J
namespace J
open PySem L2
end J
namespace L2
open PySem PySem.Spec PyProof.Rows
def Db:GA (.type "list") "keys"=pure none:=by rw [E9,uY];kernel_rfl
def BJ:Aw table "dict.update.loop"=some iC.«dict.update.loop»:=entryFor_of_tree (by kernel_rfl)
def si:plainId "dict.update.loop"=true:=by decide +kernel
def zo
  (u:s.heap.get? a=some o) (l:o.cls=.type "list") (f:o.data=.seq xs k) (q:o.dict=none) (y:A.handled=none)
  (h:∀ h' v,(∀ b o,s.heap.get? b=some o->h'.get? b=some o)->Q none { s with heap:=h',toks:=v }) :
  au (aA prog w) A (getAttr? (.ref a) "keys") Q E s:=by
 obtain ⟨c,z,B,G⟩:=o;simp only at l f q;subst l f q;obtain ⟨H,g,d,v,p⟩:=s;have t:∀ i,(⟨H,g,d,i,p⟩:ai).TypeIs (.ref a) "list":=λ_=>⟨_,u,rfl⟩;have M:=sub_AttributeError;have L:=F.slot_list_getattribute.lookup;have I:=F.slot_list_getattribute.bind (.ref a);have K:=am_list_getattr_none;have j:(["__module__","__name__","__qualname__","__doc__","__annotations__"] : List Str).contains "keys"=false:=by decide +kernel
 unfold getAttr? getAttrBy? getAttrBy;repeat (any_goals (first|assumption|exact t _|((with_reducible show au _ _ (call (Value.builtin "list.__getattribute__") _ _) _ _ _);refine call_meets F.slot_list_getattribute (t _) am_entry_list_getattribute (F.args_list_getattribute_2 _ _) (meets_getattribute_miss_list a xs k G "keys" _ Db j (by size_fits)) ⟨u,y,λh' i e m=>?_⟩)|wp_step))
 have n:=m.of;obtain ⟨ob,N,he,l,_⟩:=n.there;have x:(⟨h',g,d,i,p⟩:ai).TypeIs (.ref e) "AttributeError":=⟨_,he,l⟩;show au _ _ (getattributeRaised _ _ _ _ _ _ _) _ _ _;unfold getattributeRaised;repeat (any_goals (first|assumption|wp_step))
 exact h _ _ n.keeps
end L2
namespace L2
open PySem PySem.Spec PyProof.Rows
def Jq (b:List (dQ×af)) (l:List (dQ×af×af)):List (dQ×af):=l.foldl (λa t=>GB a t.1 t.2.2) b
def Hx (kvs:List (dQ×af)) (k:dQ) (v:af):(GB kvs k v).length<=kvs.length+1:=by
 unfold GB;split<;>simp
def AO {I:ao}{X u:List ao}{n:Nat}{S:Nat->af->Prop}{St:Nat->bD->Prop} (W:Av prog w A.in1 I X u n S St) (D:ao) (hD:D∉X) (xs:List (dQ×af×af)) (pa:List ao) (hx:xs.length=n)
  (hv:∀ i v,S i v->∃ p x,pa[i]?=some p/\xs[i]?=some x/\v=.ref p) (hk:∀ x∈xs,(cS prog w).is x.1 x.2.1=true) (hp:∀ p∈pa,p∉D::u) (c:n<=1000) :
  ∀ (k i:Nat) (s:ai) (a:List (dQ×af)) (j:Int),n-i=k->i<=n->a.length<=i->St i s.heap->s.heap.DictOf (cS prog w) D a->(∀ (i:Nat) (p:ao) (x:dQ×af×af),pa[i]?=some p->xs[i]?=some x->Gw s.heap p #[x.2.1,x.2.2]) ->
   (∀ h' f,(∀ b o,b∉D::u->s.heap.get? b=some o->h'.get? b=some o)->h'.DictOf (cS prog w) D (Jq a (xs.drop i))->R (.ok (.ret .none)) { s with heap:=h',toks:=f }) ->
   dZ (aA prog w) A (.builtin "dict.update.loop" ⟨[.ref D,.ref I,cA j,.none],[]⟩) R s:=by
 have q:D∉u:=λz=>hD (W.sub _ z);intro k;induction k with
 |zero =>
  intro i s a j E hi hl st N G H;obtain rfl:i=n:=by omega
  refine eI BJ ?_;rw [c_ si _];show au _ A.in1 (gn (.ref I) >>= _) _ _ s;refine a8 (W.done s _ _ st λh' f kp=>?_);show au _ _ (Builtin.Dict.addKeywords D [] >>= _) _ _ _;refine a8 (a9 (a9 (H h' f (λb o c e=>kp b o (λz=>c (ag _ z)) e) ?_)));rw [Gk (by omega)];obtain ⟨o,es,ep,e,r⟩:=N;exact ⟨o,es,ep,kp D o q e,r⟩
 |succ k ih =>
  intro i s a j E hi hl st N G H;have l:i<n:=by omega
  refine eI BJ ?_;rw [c_ si _];show au _ A.in1 (gn (.ref I) >>= _) _ _ s;refine a8 (W.item i s _ _ l st λv h' f hP B kp=>?_);obtain ⟨p,x,h,d,rfl⟩:=hv i v hP;have L:=hp p (c8 h);have K:h'.DictOf (cS prog w) D a:=by
   obtain ⟨o,es,ep,e,r⟩:=N;exact ⟨o,es,ep,kp D o q e,r⟩
  obtain ⟨ot,et,ct,nt,dt⟩:=G i p x h d;have g:h'.get? p=some ot:=kp p ot (λz=>L (ag _ z)) et;have m:=hk x (c8 d);refine a8 (bZ (a8 (lG ?_)));unfold Builtin.Dict.pairItems;refine a8 (lB (T:="tuple") (s:={ s with heap:=h',toks:=f }) ⟨_,g,ct⟩ ?_);rw [if_pos (by decide)];refine a8 (dG (s:={ s with heap:=h',toks:=f }) g dt (a9 ?_));show au _ _ (Ap [x.2.1,x.2.2] (dictSet D x.2.1 x.2.2)) _ _ _;refine bZ ?_;unfold dictSet;refine bZ (a8 ((cS prog w).pyHash (k:=x.1) m ?_));refine wpAny_dictSetHashed_pairs (s:={ s with heap:=h',toks:=f+1 }) m K (λP O Q=>?_) (cn hl (cn hi (cn c (cw (eg (aw _))))));refine a9 ⟨gD si _,ih (i+1) _ (GB a x.1 x.2.2) _ (by omega) l ?_ (W.frame _ _ _ B λb c o e=>?_) O (λi2 t x2 Y e2=>?_) λh3 M k3 y=>?_⟩
  ·have:=Hx a x.1 x.2.2;omega
  ·rw [Q.2 b λz=>hD (z ▸ c)];exact e
  ·obtain ⟨U,g2,r2⟩:=G i2 t x2 Y e2;have hm:=hp t (c8 Y);exact ⟨U,(Q.2 t λz=>hm (by rw [z];exact ak)).trans (kp t U (λz=>hm (ag _ z)) g2),r2⟩
  ·refine H h3 M (λb o c e=>k3 b o c ?_) ?_
   ·show P.get? b=_;rw [Q.2 b λz=>c (by rw [z];exact ak)];exact kp b o (λz=>c (ag _ z)) e
   ·have hd:xs.drop i=x::xs.drop (i+1):=by
     obtain ⟨h1,P⟩:=List.getElem?_eq_some_iff.mp d;rw [Ck h1,P]
    rw [hd];exact y
def AQ {l:ao}{q:Obj}{c:List af}{n:Nat}{xs:List (dQ×af×af)}{pa:List ao}{Q:af->ai->Prop} (S:A.handled=none)
  (y:s.heap.get? l=some q) (B:q.cls=.type "list") (L:q.dict=none) (k:q.data=.seq c.toArray n) (X:∀ (i:Nat) (v:af),c[i]?=some v->∃ p x,pa[i]?=some p/\xs[i]?=some x/\v=.ref p) (hx:xs.length=c.length) (hk:∀ x∈xs,(cS prog w).is x.1 x.2.1=true) (Y:c.length<=1000)
  (hT:∀ (i:Nat) (p:ao) (x:dQ×af×af),pa[i]?=some p->xs[i]?=some x->Gw s.heap p #[x.2.1,x.2.2]) (M:∀ p∈pa,p<s.heap.objs.size)
  (h:∀ (h':bD) (P:Nat),h'.DictOf (cS prog w) s.heap.objs.size (Jq [] xs)->(∀ b o,s.heap.get? b=some o->h'.get? b=some o)->Q (.ref s.heap.objs.size) { s with heap:=h',toks:=P }) :
  au (aA prog w) A (call (.type "dict") [.ref l]) Q E s:=by
 refine callType_codes (Q₁:=λt j=>t=.ref s.heap.objs.size/\j={ s with heap:=s.heap.push { cls:=.type "dict",data:=.dict #[] } }) F.kt_called_dict (F.kt_typeCall_dict_1 _) F.entry_dict_init (kt_code_dict_new _ ⟨rfl,rfl⟩) ?_;rintro t j ⟨rfl,rfl⟩;have a:(s.heap.push { cls:=.type "dict",data:=.dict #[] }).DictOf (cS prog w) s.heap.objs.size []:=Gh s.heap;have f:(s.heap.push { cls:=.type "dict",data:=.dict #[] }).get? l=some q:=ac _ y;have H:l<s.heap.objs.size:=av y;refine ⟨a.typeIs,F.args_dict_init_2 _ _,?_⟩;unfold iC.«dict.__init__»;refine a8 ?_;unfold Builtin.Dict.selfAndRest;refine a8 (Qg a.typeIs ?_);show au _ _ (pure (s.heap.objs.size,[bv l])) _ _ _;refine a9 ?_;show au _ _ (xM "dict.__init__" s.heap.objs.size (.ref l) [] .none) _ _ _;unfold xM;refine a8 (lB (T:="list") ⟨_,f,B⟩ ?_);rw [if_pos (by decide)];refine a8 (zo (s:={ s with heap:=s.heap.push { cls:=.type "dict",data:=.dict #[] } }) f B k L (by simpa using S) λm I u=>?_);rw [if_pos (by rfl)];refine a8 (dH ?_);have d:=u l q f;refine a8 (i4 (s:={ s with heap:=m,toks:=I }) ⟨_,d,B,⟨_,k⟩⟩ ?_);have K:∃ o,m.get? s.heap.objs.size=some o:=by
  obtain ⟨o,es,ep,e,_⟩:=a;exact ⟨o,u _ _ e⟩
 obtain ⟨oD,U⟩:=K;have O:=av U;have W:=qy (prog:=prog) (w:=w) (A:=A.in1.in1) (by simpa using S) m.objs.size l (aB (av d)) c.toArray;have z:∀ b o,m.get? b=some o->(m.push { cls:=.type "list_iterator",data:=.fields #[.ref l,.int 0 0] }).get? b=some o:=λb o e=>ac _ e;have G:(m.push { cls:=.type "list_iterator",data:=.fields #[.ref l,.int 0 0] }).DictOf (cS prog w) s.heap.objs.size []:=by
  obtain ⟨o,es,ep,e,r⟩:=a;exact ⟨o,es,ep,z _ _ (u _ _ e),r⟩
 refine a9 ⟨gD si _,AO (A:=A.in1) W s.heap.objs.size ?_ xs pa (by rw [hx,aR]) (λi v e=>X i v (by simpa using e)) hk (λp hp=>?_) (by rw [aR];exact Y) c.length 0 _ [] 0 (by rw [aR];omega) (cx _) (aw _) ⟨⟨_,ay _ rfl,rfl,rfl⟩,⟨_,z _ _ d,B,⟨_,k⟩⟩⟩ G (λi p x e1 e2=>?_) λh' P kp N=>?_⟩
 ·simp only [aQ,bh,or_false,not_or];exact ⟨aB O,ft H⟩
 ·have:=M p hp;simp only [aQ,bh,or_false,not_or];exact ⟨aB this,aB (jq this O)⟩
 ·obtain ⟨o,g,r⟩:=hT i p x e1 e2;exact ⟨o,z _ _ (u _ _ (ac _ g)),r⟩
 ·refine ⟨rfl,h h' P N λb o e=>kp b o ?_ (z _ _ (u _ _ (ac _ e)))⟩;have:=av e;simp only [aQ,bh,or_false,not_or];exact ⟨aB this,aB (jq this O)⟩
end L2
namespace L2
open PySem PySem.Spec PyProof.Rows
def F2 (ok:qz P w H h):∀ (pa:List ao) (kvs:List (dQ×V)),kvs.length=pa.length->(∀ (i:Nat) (a:ao) (c:dQ×V),pa[i]?=some a->kvs[i]?=some c->H a=some (.tup [kV c.1,c.2])) ->
  ∃ xs:List (dQ×af×af),xs.length=pa.length/\(∀ (i:Nat) (p:ao) (x:dQ×af×af),pa[i]?=some p->xs[i]?=some x->Gw h p #[x.2.1,x.2.2])/\(∀ x∈xs,(cS P w).is x.1 x.2.1=true)/\KV kvs (xs.map λx=>(x.1,x.2.2))
 |[],[],_,_=>⟨[],rfl,λi p x e=>by simp at e,λ_ e=>by simp at e,.nil⟩
 |a::pa,c::kvs,d,j=>by
  obtain ⟨xs,k,u,l,o⟩:=F2 ok pa kvs (Nat.succ.inj d) λi b x f g=>j (i+1) b x f g;have B:=j 0 a c rfl rfl;obtain ⟨_,n,r,it⟩:=(show dI P w H h a (.tup [kV c.1,c.2]) from ok a _ B);cases r with
  |cons s v =>
   cases v with
   |cons y q =>
    cases q;rename_i t m
    refine ⟨(c.1,t,m)::xs,by simp [k],λi p x f g=>?_,λx A=>?_,.cons ⟨rfl,y⟩ o⟩
    ·cases i with
     |zero=>cases f;cases g;exact it
     |succ i=>exact u i p x f g
    ·rcases List.mem_cons.mp A with z|z
     ·rw [z];exact yJ s
     ·exact l x z
 |[],_::_,d,_=>by simp at d
 |_::_,[],d,_=>by simp at d
def BK:∀ {pa:List ao}{b:List af},dY (pa.map V.ref) b->b=pa.map bv
 |[],b,h=>by cases h;rfl
 |a::pa,b,h=>by
  cases h with
  |cons r t=>rw [BK t,show _=bv a from r];rfl
def Dc {X:Cx} (O:X.calm=true):jU X (.type "dict") (λxs H Q=>∃ (l:ao) (pa:List ao) (kvs:List (dQ×V)),xs=[.ref l]/\nZ X.K H l (pa.map V.ref)/\kvs.length=pa.length/\pa.length<=1000/\(∀ (i:Nat) (a:ao) (j:dQ×V),pa[i]?=some a->kvs[i]?=some j->H a=some (.tup [kV j.1,j.2]))/\∀ d,H d=none->Q (.ref d) (upd H d (.dK (yK [] kvs)))):=by
 intro pins s σ H xs us Q I r h;obtain ⟨l,pa,kvs,rfl,P,f,t,A,q⟩:=h;obtain ⟨u,rfl,L⟩:=l9 r;cases L;have U:=I.ok.hd O;obtain ⟨T,r',⟨o,n,ho,B,Y,N⟩,_⟩:=I.list P;obtain rfl:=BK r';obtain ⟨ys,m,G,M,S⟩:=F2 I.hok pa kvs f A;refine AQ (by simpa using U) ho B Y N (xs:=ys) (pa:=pa) (λi v e=>?_) (by rw [m,aq]) M (by rw [aq];exact t) G (λp b=>?_) λh' E y kp=>?_
 ·rw [aX] at e;cases b:pa[i]? with
  |none=>rw [b] at e;cases e
  |some p =>
   rw [b] at e;cases e;have c:i<ys.length:=by rw [m];exact (List.getElem?_eq_some_iff.mp b).1
   exact ⟨p,ys[i],rfl,aZ c,rfl⟩
 ·obtain ⟨i,c,e⟩:=i5 b;have hk:i<kvs.length:=by rw [f];exact c
  have:=A i p kvs[i] (by rw [<- e];exact aZ c) (aZ hk);obtain ⟨_,_,_,_,g,_⟩:=(show dI X.prog X.w H s.heap p (.tup _) from I.hok p _ this);exact av g
 ·have e:Jq [] ys=merged [] (ys.map λx=>(x.1,x.2.2)):=by unfold Jq merged;rw [Be]
  rw [e] at y;have k:=KV.merge S (Paired.nil:KV (κ:=dQ) [] []);have z:=tO kvs [];simp only [cG] at z;refine ⟨.ref s.heap.objs.size,_,I.laid (t':=E) kp (aw _) (N7 (cn z (by rw [xI,f];exact cw (eg t))) ?_ k y),rfl,q _ (I.hok.fresh (aw _))⟩;have:=I.big;exact beq_false_of_ne (ft this)
end L2
namespace J
open PySem L2
def ny:List D->Option (List (dQ×D))
 |[]=>some []
 |.tuple [k,v]::r=>(mz k).bind λy=>(ny r).map ((y,v)::·)
 |_::_=>none
def vE:D->R D
 |.list ds=>if ds.length<=1000 then (match ny ds with
  |some b=>.ok (.dict (b.foldl (λa p=>og a (kD p.1) p.2) []))
  |none=>.no) else .no
 |_=>.no
def BL : ∀ {ds:List D}{j:List V}{g:List (dQ×D)},RDs K H j ds->ny ds=some g ->
  ∃ (pa:List ao) (kvs:List (dQ×V)),j=pa.map V.ref/\kvs.length=pa.length/\(∀ (i:Nat) (a:ao) (f:dQ×V),pa[i]?=some a->kvs[i]?=some f->H a=some (.tup [kV f.1,f.2]))/\RDk K H kvs (g.map λp=>(kD p.1,p.2))
 |[],j,g,r,e=>by
  cases r;cases e;exact ⟨[],[],rfl,rfl,λi a f e=>by simp at e,.nil⟩
 |d::ds,j,g,r,e=>by
  unfold ny at e;split at e
  ·rename_i h;cases h
  ·rename_i k v N h
   cases h;cases r with
   |cons E M =>
    rename_i B u
    cases n:mz k with
    |none=>rw [n] at e;cases e
    |some y =>
     rw [n] at e;cases m:ny ds with
     |none=>rw [m] at e;cases e
     |some O =>
      rw [m] at e;cases e;obtain ⟨pa,kvs,t,L,x,A⟩:=BL M m;obtain ⟨a,c,rfl,l,o⟩:∃ a c,B=V.ref a/\H a=some (.tup c)/\RDs K H c [k,v]:=by
       cases E with
       |tuple l o=>exact ⟨_,_,rfl,l,o⟩
      ·obtain ⟨P,G,rfl,z,I⟩:=o.two;have w:=mB n;subst w;have:=wL z;subst this;refine ⟨a::pa,(y,G)::kvs,by rw [t];rfl,by simp [L],λi b f q s=>?_,.cons I A⟩;cases i with
       |zero=>cases q;cases s;exact l
       |succ i=>exact x i b f q s
  ·cases e
def F3 : ∀ {kvs:List (dQ×V)}{es:List (D×D)}{b:List (dQ×V)}{ds:List (D×D)},RDk K H kvs es->RDk K H b ds->RDk K H (yK b kvs) (es.foldl (λa p=>og a p.1 p.2) ds)
 |[],es,b,ds,r,c=>by
  cases r;exact c
 |f::kvs,es,b,ds,r,c=>by
  cases r with
  |cons h t =>
   rename_i e i g d
   have:=F3 (kvs:=kvs) t (c.put e h);exact this
def vF (g:aC->R D):aC->R D:=λρ=>(g ρ).bind vE
def L9 (G:c.X.calm=true) (h:JE c e g) (o:Gl c.X "dict") (u:c.X.mg "dict"=none) (he:aH [e] c.X.env=(false,dn e c.X.env)::aH [] c.X.env:=by rfl) :
  JN c (.Call (.Name "dict" p) [e] [] cpos) (vF g):=.of λρ=>by
 refine qH (wx (Dc G) o u PyProof.Rows.boot_dict (hU (h ρ) jx he) (he:=he)) λσ H Q s=>?_;obtain ⟨S,O,la,Hs,f,q⟩:=s;dsimp only [L2.UV,L2.IK,L2.R5];refine wF f q λd v A j t z x M=>?_;unfold vF at q;rw [t,bind_ok] at q;unfold vE at q;split at q
 ·rename_i ds
  by_cases w:ds.length<=1000
  ·rw [if_pos w] at q;split at q
   ·rename_i T hs
    obtain ⟨a,k,rfl,n,m⟩:∃ a k,v=V.ref a/\nZ c.X.K j a k/\RDs c.X.K j k ds:=by
     cases M with
     |list n m=>exact ⟨_,_,rfl,n,m⟩
    ·obtain ⟨pa,kvs,rfl,N,E,L⟩:=BL m hs;have y:=F3 L (RDk.nil (K:=c.X.K) (H:=j));rw [Be] at y;refine ⟨a,pa,kvs,rfl,?_,N,?_,λi b I t P=>x.st.sub _ _ (E i b I t P),λl B=>q l _ A j z B (.dK y)⟩
     ·exact du.seq x.st.sub n
     ·have:=m.length;rw [aq] at this;omega
   ·exact q.elim
  ·rw [if_neg w] at q;exact q.elim
 ·exact q.elim
end J
namespace L2
open PySem PySem.Spec PyProof.Rows
end L2
namespace J
open PySem L2
end J
namespace L2
open PySem PySem.Spec PyProof.Rows
end L2
namespace J
open PySem L2
end J
namespace J
open PySem L2
def zq : JS c s (λ_=>.no):=.of λρ pins s σ H D I h=>by
 obtain ⟨b,a,la,Hs,f,q⟩:=h;exact q.elim
end J
namespace J
open PySem L2 PyProof.Rows
structure En where
 P:a_
 w:bz
 K:aa
 mg:Str->Option af
 base:bD
 cls:Str->ao
abbrev FN (e:En):=Fn e.P e.w e.K e.mg e.base e.cls
abbrev Cn (a:Str->Option af) (x:Str) (n:Int):Prop:=∃ t,a x=some (.int n t)
structure i3 (K:aa) (mg:Str->Option af) (x:Str) (st:dX):Prop where
 ex:∃ f fd,KJ K x x st f fd/\mg x=some (.ref f)
section
variable {K:aa}{h:bD}{mg:Str->Option af}{x:Str}
def d_in {st:dX}{A:ao}{m i:Option ao}{d:Array (Option af)}{e kV f j b g:af} (X:K.In h) (G:h.Ns cf mg) (a:io K cf x=some (some (.ref A)))
  (l:K.lookup A=some ⟨e,m,.func (gG x x (kQ st) (iK st) (aE st) .none kV f j i b g),d⟩) (c:mo K b x=true) (k:fY K (.ref A)=true):i3 K mg x st :=
 ⟨_,_,N5 l c k,tK X G a⟩
def cn_in (X:K.In h) (G:h.Ns cf mg) (t:io K cf x=some (some (.int n tk))):Cn mg x n:=⟨_,tK X G t⟩
inductive Zs (K:aa):List Str->Prop
 |nil:Zs K []
 |cons {x:Str}{r:List Str}:io K cf x=some none->Zs K r->Zs K (x::r)
def Zs.get (z:Zs K r):∀ x∈r,io K cf x=some none:=by
 induction z with
 |nil=>exact λ_ h=>nomatch h
 |cons a _ b =>
  intro y c;rcases List.mem_cons.mp c with e|e
  ·rw [e];exact a
  ·exact b y e
abbrev zn:List Str:=["len","isinstance","all","any","zip","tuple","list","sorted","set","range","enumerate","dict","sum","max","min","reversed","str","int","bool","ValueError"]
def Xv (X:K.In h) (G:h.Ns cf mg) (z:Zs K zn):Bi mg:=by
 have q:∀ x∈zn,mg x=none:=λx a=>PySem.W.mg_none_of X G (z.get x a);exact ⟨q _ (by decide),q _ (by decide),q _ (by decide),q _ (by decide),q _ (by decide),q _ (by decide),q _ (by decide),q _ (by decide),q _ (by decide),q _ (by decide),q _ (by decide),q _ (by decide),q _ (by decide),q _ (by decide),q _ (by decide),q _ (by decide),q _ (by decide),q _ (by decide),q _ (by decide)⟩
end
section
variable {P:a_}{w:bz}{K:aa}{mg:Str->Option af}{base:bD}{N:List Str}{qual:Str}{scope:eX}{f:ao}{cd:af}{A:bB}{outer:List Env}{s:ai}{H:Hp}{E:XK}
def px:qV (Al P w) (yF (Al P w) P w K mg base N qual scope f cd A outer s H E) E:=Ez λ_ _ h=>h
end
def jc (G:Fn c.X.prog c.X.w c.X.K c.X.mg c.X.base c.cls x k n F) (g:lc j c.X.A) (h:qV (Al c.X.prog c.X.w) c.X c.E) (d:KY c (e::es) gs)
  (f:k<=j:=by decide) (i:Gl c.X x:=by exact rfl) (a:(x==("__debug__" : Str))=false:=by decide) (he:aH (e::es) c.X.env=(false,dn e c.X.env)::aH es c.X.env:=by rfl) (b:(fX pos (aH es c.X.env)).any (·.1)=false:=by rfl) :
  JE c (.Call (.Name x p) (e::es) [] pos) (fO n F gs):=RA G (g.mono f) i h d a he b
abbrev Bq (x:Str) (st:dX) (c:List af) (r:List (Str×af)):Prop:=∀ (kV a f:af) (d:Option ao) (b e:af),Qv (gG x x (kQ st) (iK st) (aE st) .none kV a f d b e) ⟨c,[]⟩=pure r
section
variable {K:aa}{x:Str}{st:dX}{f:ao}{fd:fG}
def b1 (F:KJ K x x st f fd) (h:∀ u,Bq x st [u] [(a,u)]:=by exact λ_ _ _ _ _ _ _=>rfl):lO K fd [a] []:=F.binds λ_ _ _ _ _ _ c b=>by obtain ⟨_,rfl⟩:=ln1 b;exact h ..
def b2 (F:KJ K x x st f fd) (h:∀ u v,Bq x st [u,v] [(a,u),(b,v)]:=by exact λ_ _ _ _ _ _ _ _=>rfl):lO K fd [a,b] []:=F.binds λ_ _ _ _ _ _ d c=>by obtain ⟨_,_,rfl⟩:=ln2 c;exact h ..
def b3 (F:KJ K x x st f fd) (h:∀ u v w,Bq x st [u,v,w] [(a,u),(b,v),(c,w)]:=by exact λ_ _ _ _ _ _ _ _ _=>rfl):lO K fd [a,b,c] []:=F.binds λ_ _ _ _ _ _ e d=>by obtain ⟨_,_,_,rfl⟩:=ln3 d;exact h ..
def b4 (F:KJ K x x st f fd) (h:∀ u v w z,Bq x st [u,v,w,z] [(a,u),(b,v),(c,w),(d,z)]:=by exact λ_ _ _ _ _ _ _ _ _ _=>rfl):lO K fd [a,b,c,d] []:=F.binds λ_ _ _ _ _ _ g e=>by obtain ⟨_,_,_,_,rfl⟩:=ln4 e;exact h ..
def b5 (F:KJ K x x st f fd) (h:∀ u v w z y,Bq x st [u,v,w,z,y] [(a,u),(b,v),(c,w),(d,z),(e,y)]:=by exact λ_ _ _ _ _ _ _ _ _ _ _=>rfl):lO K fd [a,b,c,d,e] []:=F.binds λ_ _ _ _ _ _ i g=>by obtain ⟨_,_,_,_,_,rfl⟩:=ln5 g;exact h ..
end
def pd {e:En}{x:Str}{st:dX}{N c:List Str}{k:Nat}{g:aC->R Fl} (D:i3 e.K e.mg x st) (S:bR N c (aE st)) (b:∀ {f:ao}{d:fG},KJ e.K x x st f d->lO e.K d c [])
  (h:∀ (f:ao) (a:af) (A:bB) (outer:List Env) (s:ai) (H:Hp) (E:XK),lc k (A.deeper (tX x (aE st) s.heap.objs.size f a))->IZ ⟨yF (Al e.P e.w) e.P e.w e.K e.mg e.base N x (aE st) f a A outer s H E,e.cls,E⟩ (iK st) g) :
  FN e x (k+1) c.length (fL N.length g):=by
 obtain ⟨f,d,F,i⟩:=D.ex;exact X8 F S i (b F) (h f)
def scB (N P:List Str) (a:eX):Bool:=decide (a.kind=.function) && !a.isCoroutine && !a.isGenerator&&decide N.Nodup&&decide (N.take P.length=P)&&P.all (λx=>decide (a.names.lookup x=some .local)||decide (a.names.lookup x=some .cell))&&a.names.all λy=>decide (y.2≠.free)
def eA (h:scB N P sc=true):bR N P sc:=by
 unfold scB at h;simp only [aV,decide_eq_true_eq,Mz,bA,jM] at h;obtain ⟨⟨⟨⟨⟨⟨a,b⟩,c⟩,d⟩,e⟩,f⟩,g⟩:=h;exact ⟨a,b,c,d,e,f,g⟩
structure Cw (K:aa) (x:Str) (C:ao):Prop where
 ns:io K cf x=some (some (.ref C))
 cl:∃ cd,AC K C=some cd
 ty:MA K (.ref C)=some (.type "type")
def cw_in {K:aa}{x:Str}{C:ao}{b:ClassData} (a:io K cf x=some (some (.ref C))) (i:AC K C=some b) (y:MA K (.ref C)=some (.type "type")):Cw K x C:=⟨a,⟨_,i⟩,y⟩
inductive Sb (K:aa) (C:ao):List (ao×Bool)->Prop
 |nil:Sb K C []
 |cons {D:ao}{b:Bool}{l:List (ao×Bool)}:Qh K (.ref C) (.ref D)=some b->(b=false->C≠D)->Sb K C l->Sb K C ((D,b)::l)
structure Wy (K:aa) (C CP:ao) (l:List (ao×Bool)):Prop where
 x1:mn K (.ref C) "__getattribute__"=some (some (.builtin "BaseException.__getattribute__"))
 x2:mn K (.ref C) "__getattr__"=some none
 x3:mn K (.ref C) "__class__"=some (some (.builtin "object.__class__"))
 x4:IA K (.builtin "object.__class__") "__get__"=some (some (.builtin "getset_descriptor.__get__"))
 x5:M7 K (.builtin "object.__class__")=some true
 x6:iB K C (.type "object")=some true
 x7:iB K C (.ref CP)=some true
 x8:Qh K (.ref C) (.type "ValueError")=some true
 x9:(bv CP==bv C)=false
 sb:Sb K C l
end J
namespace L2
open PySem PySem.Spec PyProof.Rows
def RP (b:s.heap.IsKeyIter it d i es.size ep) (j:s.heap.get? d=some o) (ho:o.data=.dict es ep) (he:es[i]?=some e)
  (h:∀ h':bD,h'.IsKeyIter it d (i+1) es.size ep->bC it s.heap h'->Q (some e.key) { s with heap:=h' }) :
  au (aA prog w) A (gn (.ref it)) Q E s:=by
 obtain ⟨⟨u,y,t,v⟩,f,g,l⟩:=id b;simp only at g l;subst g l;unfold gn;refine a8 (ki ?_);refine cE (name:=hG "__next__") b.typeIs fZ ?_;refine bO fZ b.typeIs tL ?_ (sW _);refine a8 (eT (a:=.ref it) rfl ?_);refine a8 (a8 (a8 (iS b.typeIs (a9 ?_))));refine a8 (GG f rfl ?_);show au _ _ (if (bv d==eR)=true then _ else _) _ _ s;rw [if_neg (by simp)];refine a8 (eT (a:=d) rfl ?_);refine a8 (AD j ho ?_);show au _ _ (if ((es.size:Int) != (es.size:Int))=true then _ else _) _ _ s;rw [if_neg (by simp)];refine a8 (eT (a:=d) rfl ?_);refine a8 (Eb j ho ?_);show au _ _ (if ((ep:Int) != (ep:Int))=true then _ else _) _ _ s;rw [if_neg (by simp)];refine a9 ?_;have m:(if (i:Int)<0 then none else es[(i:Int).toNat]?)=some e:=by
  rw [if_neg (by omega)];simpa using he
 simp only [m];refine a8 (a8 (iS b.typeIs (a9 ?_)));refine a8 (Qi b.typeIs ?_);refine a8 (gQ f rfl (by simp [m9]) ?_);have st:∀ k x,k=1->x=cA ((i:Int)+1)->(s.heap.update it (eW (·.setIfInBounds k x))).IsKeyIter it d (i+1) es.size ep:=λk x n p=>by
  subst n p;have q:=eh (eW (·.setIfInBounds 1 (cA ((i:Int)+1)))) f rfl;refine ⟨_,q,rfl,?_⟩;show Data.fields ((#[.ref d,.int i 0,.int es.size 0,.int ep 0] : Array af).setIfInBounds 1 (cA ((i:Int)+1)))=_;simp [cA]
 have c:=st _ _ rfl rfl;refine a8 (bZ (a8 (Qi c.typeIs ?_)));refine a9 ?_;exact a9 ⟨_,rfl,a9 (h _ c (bP ..))⟩
def Vq (k:A.handled=none) (c:s.heap.IsKeyIter it d i es.size ep) (f:s.heap.get? d=some o) (ho:o.data=.dict es ep) (he:es.size<=i)
  (h:∀ h':bD,ID it s.heap h'->Q none { s with heap:=h' }) :
  au (aA prog w) A (gn (.ref it)) Q E s:=by
 obtain ⟨⟨p,t,q,n⟩,e,g,j⟩:=id c;simp only at g j;subst g j;unfold gn;refine a8 (ki ?_);refine cE (name:=hG "__next__") c.typeIs fZ ?_;refine bO fZ c.typeIs tL ?_ (sW _);refine a8 (eT (a:=.ref it) rfl ?_);refine a8 (a8 (a8 (iS c.typeIs (a9 ?_))));refine a8 (GG e rfl ?_);show au _ _ (if (bv d==eR)=true then _ else _) _ _ s;rw [if_neg (by simp)];refine a8 (eT (a:=d) rfl ?_);refine a8 (AD f ho ?_);show au _ _ (if ((es.size:Int) != (es.size:Int))=true then _ else _) _ _ s;rw [if_neg (by simp)];refine a8 (eT (a:=d) rfl ?_);refine a8 (Eb f ho ?_);show au _ _ (if ((ep:Int) != (ep:Int))=true then _ else _) _ _ s;rw [if_neg (by simp)];refine a9 ?_;have l:(if (i:Int)<0 then none else es[(i:Int).toNat]?)=none:=by
  rw [if_neg (by omega)];simpa using he
 simp only [l];refine a8 (a8 (iS c.typeIs (a9 ?_)));refine a8 (gQ e rfl (by simp [m9]) ?_);show au _ _ (tZ (.type "StopIteration") [] >>= _) _ _ _;refine a8 ?_;simp only [tZ,QD];refine a8 (bK ?_ (by size_fits));refine a8 (m:=lF _ _) (eT (a:=eR) ?_ ?_)
 ·first
   |rfl
   |(simp only [lF];rfl)
 refine bK ?_ (by size_fits);simp only [sS];refine a8 (Kk ?_);rw [show A.in1.handled=none from k];refine a8 (a9 (QE ?_));refine a8 (gI (T:="StopIteration") (b:=true) ⟨_,ay _ rfl,rfl⟩ wo ?_);exact a9 (h _ (((bP ..).extBut.push _).push _))
def Vr (hs:(d==fz)=false) (b:s.heap.get? d=some o) (c:o.ExactDict) (ho:o.data=.dict es ep)
  (h:Q (.ref s.heap.objs.size) { s with heap:=s.heap.push { cls:=.type "dict_keyiterator",data:=.fields #[.ref d,.int 0 0,.int es.size 0,.int ep 0] } }) :
  au (aA prog w) A (qI (.ref d)) Q E s:=by
 have ty:s.TypeIs (.ref d) "dict":=⟨o,b,c.1⟩;refine Ay ty Cs (bO Cs ty PySem.F.entry_dict_iter ?_ (PySem.F.args_dict_iter_1 _));refine a8 (a8 (Qg ty (a8 (eT (a:=(bv d,[])) rfl (a9 ?_)))));refine a8 (eT (a:=d) rfl ?_);refine a8 (eT (a:=()) (by unfold Builtin.Dict.showsAll;rw [hs];rfl) ?_);refine a8 (AD b ho ?_);refine a8 (Eb b ho ?_);refine a8 (bK ?_ (by size_fits));exact a9 ⟨_,rfl,"dict_keyiterator",_,⟨_,ay _ rfl,rfl⟩,PySem.F.slot_dict_keyiterator_next.lookup,h⟩
def Zt (a:ao) (o:Obj) (kvs:List (List dQ×V)):It :=
 ⟨λi H=>H a=some (.frz o (.dT kvs))/\i<kvs.length,λi H x H'=>H'=H/\∃ k v b,kvs[i]?=some (k,v)/\x=.ref b/\H b=some (.tup (k.map kV)),λi H=>H a=some (.frz o (.dT kvs))/\kvs.length<=i⟩
def La {b c:Type}{F:b->c->Prop}{l:List b}{m:List c} (h:Gv F l m):∀ {i:Nat}{x:b},l[i]?=some x->∃ y,m[i]?=some y/\F x y:=by
 induction h with
 |nil=>intro i x e;simp at e
 |cons a _ d =>
  intro i x e;cases i with
  |zero=>cases e;exact ⟨_,rfl,a⟩
  |succ i=>exact d e
def zr (ok:qz P w H h) (e:H a=some (.frz o (.dT kvs))):(a==fz)=false/\h.get? a=some o/\o.ExactDict/\∃ es ep,o.data=.dict es ep/\es.size=kvs.length /\
  ∀ (i:Nat) (k:List dQ) (v:V),kvs[i]?=some (k,v)->∃ (f:Mb) (b:ao),es[i]?=some f/\f.key=bv b/\H b=some (.tup (k.map kV)):=by
 obtain ⟨g,z,y,xs,r,t,es,ep,c,n,j,d,s⟩:=(show dI P w H h a (.frz o (.dT kvs)) from ok a _ e);rw [g] at c;cases c;refine ⟨y,g,n,es,ep,j,?_,λi k v p=>?_⟩
 ·rw [<- ax,d,aq];exact (gZ r).symm
 ·obtain ⟨q,l,m⟩:=La r p;refine ⟨entryOfKey (sP (cS P w)) q,q.2.1,?_,?_,m.2.1⟩
  ·rw [<- ck,d,aX,l];rfl
  ·rfl
def Lb {P:a_}{w:bz}{K:aa}{tg:bp}{a it:ao}{o:Obj}{kvs:List (List dQ×V)}{es:Array Mb}{ep:Nat} (G:o.data=.dict es ep) (hn:es.size=kvs.length) :
  wv P w K tg (Zt a o kvs) [it] it (λi h=>h.IsKeyIter it a i es.size ep) where
 mem:=by simp
 obj:=λi h st b f=>by
  have e:b=it:=by simpa using f
  subst e;obtain ⟨o,e,c,d⟩:=st;exact ⟨o,e,λv z=>by rw [d] at z;cases z⟩
 keep:=λi h h' st k=>st.at λo e=>k it (by simp) o e
 item:=by
  intro X u p l M i pins s σ H E I j st L;subst u p l;obtain ⟨n,q⟩:=L;obtain ⟨_,g1,_,es',A,g2,O,N⟩:=zr I.hok n;rw [G] at g2;cases g2;obtain ⟨en,b,S,e2,e3⟩:=N i _ _ (aZ q);obtain ⟨B,y,Q,x,m,t⟩:=j it (by simp);refine RP st g1 G S λh' g U=>?_;have Y:bL X pins σ H { s with heap:=h' }:=I.turned (t':=s.toks) (λb o f e=>(U.2 b f).trans e) B y x m t;obtain ⟨o',e,c,d⟩:=id g;refine ⟨_,rfl,IJ (s:={ s with heap:=h' }) e c d (by decide) ⟨.ref b,H,Y,?_,⟨rfl,_,_,b,aZ q,rfl,e3⟩,g,λb f=>(j b f).1⟩⟩;rw [e2];rfl
 done:=by
  intro X u p l M i pins s σ H E I j st L;subst u p l;obtain ⟨n,q⟩:=L;obtain ⟨_,g1,_,es',A,g2,O,N⟩:=zr I.hok n;obtain ⟨B,y,Q,x,m,t⟩:=j it (by simp);exact Vq (I.ok.hd M) st g1 G (by omega) λh' T=>⟨rfl,I.turned (t':=s.toks) (λb o f e=>T b o f e) B y x m t⟩
 self:=λ_ _ _ _ _ st h=>wpAny_pyIter_keyiter st h
def Xw (tl:TE):TI:=λσ H R=>tl σ H λx b=>∃ a o kvs,x=.ref a/\b a=some (.frz o (.dT kvs))/\R (Zt a o kvs) b
def Jr {X:Cx}{tg l:bp}{tl:TE} (k:PE X l tl):PI X tg l (Xw tl):=by
 intro pins s σ H R I h;refine eK (k pins s σ H _ I h) λv d f=>?_;obtain ⟨x,g,c,t,n⟩:=f;obtain ⟨a,o,kvs,e,m,q⟩:=n;subst e;cases t;obtain ⟨y,g1,i,es,ep,g2,j,u⟩:=zr c.hok m;refine Vr y g1 i g2 ?_;refine ⟨d.heap.objs.size,[d.heap.objs.size],_,_,g,rfl,c.kept (t':=d.toks) λb o e=>ac _ e,Lb g2 j,⟨_,ay _ rfl,rfl,rfl⟩,λb p=>?_,q⟩;rw [List.mem_singleton.mp p];exact c.fpOk (aw _) (c.hok.fresh (aw _))
def tD1 (c e:TE):TE:=λσ H Q=>∀ p,H p=none->c σ (upd H p (.dT [])) λy d=>e σ d λv a=>∃ kvs k b,a p=some (.dT kvs)/\y=.ref b/\a b=some (.tup (k.map kV))/\kvs.length<sizeLine/\Q (.ref p) (upd a p (.dT (kn kvs k v)))
def OF (hu:X.A.units+1<gC) (hk:PE X k tk) (hv:PE X v tv):PE X (.Dict [some k] [v] pos) (tD1 tk tv):=by
 intro pins s σ H Q I h;refine wpAny_Dict_any rfl rfl (by simp) (by simp) ?_;have L:bL X pins σ (upd H s.heap.objs.size (.dT [])) { s with heap:=s.heap.push { cls:=.type "dict",data:=.dict #[] } }:=I.laid (a:=s.heap.objs.size) (o:=.dT []) (t':=s.toks) (λ_ _ q=>ac _ q) (aw _) (N9 s.heap I.big);have h0:=h s.heap.objs.size (I.hok.fresh (aw _));simp only [pairTrees,evalPairs];refine a8 (eK (hk pins _ σ _ _ L h0) λu1 t p=>?_);obtain ⟨y,u,I1,N,K⟩:=p;refine a8 (bZ (a8 (eK (hv pins t σ u _ I1 K) λu2 O U=>?_)));obtain ⟨z,H2,g,Y,P⟩:=U;obtain ⟨kvs,d,b,i,e2,n,e4,q⟩:=P;refine a8 (cU (a9 ?_));refine a8 (bZ (a9 (a9 ?_)));subst e2;cases N;unfold storeAll;simp only [gP,kz,bind_assoc];obtain ⟨M,T,xs,e,S⟩:=Td g.hok i;have G:xs.length<=sizeLine:=by rw [<- gZ e];exact M
 have B:(kn kvs d z).length<=sizeLine:=by have:=jF kvs d z;omega
 refine a8 (wpAny_dictSet_heap (by show X.A.units<gC;omega) (wy g.hok n) S (λh' f hs=>?_) G);obtain ⟨l,es,ep,j,g2,x,g4,_,g5⟩:=f;have E:=CG (t':=O.toks+(sP (cS X.prog X.w)).draws d) g (by rw [i];exact jb) hs ⟨l,j⟩ (ob:=.dT (kn kvs d z)) ⟨B,T,_,(e.put d n Y).keeps λc ys m=>(by rw [bj (MJ m i (λz=>nomatch z))];exact m),l,es,ep,j,g2,x,g4,g5⟩;exact a9 ⟨.ref s.heap.objs.size,_,E,rfl,q⟩
end L2
namespace J
open PySem L2
def keysOf:List D->Option (List dQ)
 |[]=>some []
 |d::r=>(mz d).bind λk=>(keysOf r).map (k::·)
def qu:D->Option (List dQ)
 |.tuple ds=>keysOf ds
 |_=>none
def BM:∀ {ds:List D}{a:List dQ},keysOf ds=some a->ds=a.map kD
 |[],a,h=>by cases h;rfl
 |d::r,a,h=>by
  unfold keysOf at h;cases b:mz d with
  |none=>rw [b] at h;cases h
  |some y =>
   rw [b,Mi] at h;cases c:keysOf r with
   |none=>rw [c] at h;cases h
   |some l =>
    rw [c] at h;cases h;rw [az,<- mB b,<- BM c]
def vG (h:qu d=some ks):d=tD ks:=by
 cases d<;>first|(cases h;done)|skip
 rename_i ds
 unfold tD;rw [<- BM (show keysOf ds=some ks from h)]
def BN:∀ a:List dQ,keysOf (a.map kD)=some a
 |[]=>rfl
 |k::r=>by rw [az,keysOf,keyOf_of,BN r];rfl
def OG (a:List dQ):qu (tD a)=some a:=BN a
def Js:∀ a b:List dQ,jw (a.map kD) (b.map kD)=decide (a=b)
 |[],[]=>by simp [jw]
 |[],_::_=>by simp [jw]
 |_::_,[]=>by simp [jw]
 |x::a,y::b=>by
  rw [az,az];simp only [jw];rw [D4,Js a b];by_cases h:x=y<;>by_cases c:a=b<;>simp [h,c]
def Dd (a b:List dQ):b9 (tD a) (tD b)=decide (a=b):=by
 unfold tD;simp only [b9];exact Js a b
def RDt.any (y:List dQ):∀ {ds:List (D×D)},RDt K H kvs ds->(ds.any λa=>b9 a.1 (tD y))=kvs.any λa=>decide (a.1=y):=by
 induction kvs with
 |nil=>intro ds h;cases h;rfl
 |cons x r b=>intro ds h;cases h with|cons h t=>rw [eS,eS,b t,Dd]
def RDt.repl (y:List dQ) (f:RD K H v d):∀ {ds:List (D×D)},RDt K H kvs ds ->
  RDt K H (kvs.map λa=>if a.1=y then (a.1,v) else a) (ds.map λa=>if b9 a.1 (tD y) then (a.1,d) else a):=by
 induction kvs with
 |nil=>intro ds h;cases h;exact .nil
 |cons x r b =>
  intro ds h;cases h with
  | @cons k _ _ _ _ h t =>
   rw [az,az];have e:=Dd k y;by_cases c:k=y
   ·subst c;rw [show (if k=k then (k,v) else (k,_))=(k,v) from if_pos rfl,show (if b9 (tD k) (tD k)=true then (tD k,d) else (tD k,_))=(tD k,d) from if_pos (by rw [e];simp)];exact .cons f (b t)
   ·simp only [e,c,if_neg,decide_false,ba,not_false_eq_true];exact .cons h (b t)
def RDt.snoc (y:List dQ) (b:RD K H v d):∀ {ds:List (D×D)},RDt K H kvs ds->RDt K H (kvs++[(y,v)]) (ds++[(tD y,d)]):=by
 induction kvs with
 |nil=>intro ds h;cases h;exact .cons b .nil
 |cons x r a=>intro ds h;cases h with|cons h t=>exact .cons h (a t)
def RDt.put (r:RDt K H kvs ds) (y:List dQ) (a:RD K H v d):RDt K H (kn kvs y v) (og ds (tD y) d):=by
 unfold kn og;rw [r.any y];split
 ·exact r.repl y a
 ·exact r.snoc y a
def Vs {κ:Type} [DecidableEq κ] {kvs:List (κ×V)}{y:κ}{v:V}:kn kvs y v≠[]:=by
 unfold kn;split
 ·rename_i h
  intro z;have:=List.map_eq_nil_iff.mp z;subst this;cases h
 ·simp
def RDt.val (y:List dQ):∀ {ds:List (D×D)},RDt K H kvs ds->(oN kvs y=none/\ic ds (tD y)=none)\/∃ v d,oN kvs y=some v/\ic ds (tD y)=some d/\RD K H v d:=by
 induction kvs with
 |nil=>intro ds h;cases h;exact .inl ⟨rfl,rfl⟩
 |cons x r b =>
  intro ds h;cases h with
  | @cons k _ _ _ _ h t =>
   unfold oN ic;rw [bH,bH,Dd];by_cases a:k=y
   ·simp only [a,decide_true,dO];exact .inr ⟨_,_,rfl,rfl,h⟩
   ·simp only [a,decide_false];exact b t
def Jt:List (D×D)->List (D×D)
 |(.none,_)::r=>r
 |l=>l
def jZ (ds:List (D×D)):Bool:=!ds.isEmpty&&ds.all λa=>(qu a.1).isSome
def RDk.notT (h:RDk K H kvs ds) (e:jZ (Jt ds)=true):False:=by
 cases h with
 |nil=>cases e
 | @cons k _ _ _ _ h t =>
  cases k<;>simp [Jt,jZ,kD,qu] at e
def RDt.un (h:RDt K H kvs ds):Jt ds=ds:=by
 cases h<;>rfl
def yq (sub:du Hs H) (h:RB K H Hs v (tD ks)):∃ b,v=.ref b/\H b=some (.tup (ks.map kV)):=by
 rcases h with h|⟨_,o,rfl,_,_,ow⟩
 ·cases h with
  |tuple q r =>
   have:=yn (c:=kD) (k:=kV) (λh=>wL h) r;subst this;exact ⟨_,rfl,sub _ _ q⟩
 ·cases ow
def Ju (sub:du Hs H) (h:RB K H Hs v (.dict ds)) (e:jZ (Jt ds)=true):∃ a kvs,v=.ref a/\RDt K Hs kvs (Jt ds)/\∀ (b:ao) (k:List dQ),H b=some (.tup (k.map kV))->vd H a (.ref b) (oN kvs k):=by
 obtain ⟨a,i,g⟩:=h.dict sub;clear h;subst i;rcases g with ⟨kvs,d,c⟩|⟨kvs,d,hn,c⟩|⟨o,kvs,es,rfl,d,hn,c⟩
 ·exact (c.notT e).elim
 ·exact ⟨a,kvs,rfl,by rw [c.un];exact c,λb k f=>vd.t d f⟩
 ·exact ⟨a,kvs,rfl,c,λb k f=>.inr ⟨kvs,k,b,.inr ⟨o,d⟩,rfl,f,rfl⟩⟩
def An:D->D->R D
 |.dict ds,k=>match qu k with
  |some _=>if jZ (Jt ds)=true then (match ic (Jt ds) k with
   |some d=>.ok d
   |none=>.no) else .no
  |none=>.no
 |_,_=>.no
section
variable {c:C}{a b e k:bp}{ga gb g gk:aC->R D}{pos p apos:Pos}{x:Str}
def wN (B:c.X.A.units+1<gC) (G:JB c a ga) (l:JB c b gb) (hs:v7 b:=by exact λ_ _=>rfl):JE c (.Subscript a b pos) (g2 ga gb An):=.of λρ=>by
 refine qH (IQ B (G ρ) (l ρ) hs) λσ H Q h=>?_;obtain ⟨Y,S,la,Hs,f,q⟩:=h;refine one f q λd v U I M n K N=>?_;unfold g2 at q;rw [M,bind_ok] at q;refine one K (q.on n (q':=λ_=>True) λ_ _=>trivial) λy w L m T s o P=>?_;rw [T,bind_ok] at q;unfold An at q;split at q
 ·rename_i ds
  split at q
  ·rename_i t z
   obtain rfl:=vG z;by_cases i:jZ (Jt ds)=true
   ·rw [if_pos i] at q;obtain ⟨p,kvs,rfl,O,E⟩:=Ju o.st.sub (N.step s) i;obtain ⟨b,rfl,l⟩:=yq o.st.sub P;rcases O.val t with ⟨_,j⟩|⟨u,d,j,h5,h6⟩
    ·rw [j] at q;exact q.elim
    ·rw [h5] at q;exact ⟨p,u,rfl,by rw [<- j];exact E b t l,q _ L m (n.trans s) h6⟩
   ·rw [if_neg i] at q;exact q.elim
  ·exact q.elim
 ·exact q.elim
def RQ (d:Bool):D->D->R D
 |k,.dict ds=>match qu k with
  |some _=>if jZ (Jt ds)=true then .ok (.bool (if d then !(ic (Jt ds) k).isSome else (ic (Jt ds) k).isSome)) else .no
  |none=>.no
 |_,_=>.no
def BO (t:c.X.A.units+1<gC):wG c.X (bI .NotIn) (RQ true):=by
 refine ⟨λpins s σ H x y v u Q I K L h=>?_,λx y c n=>?_⟩
 ·obtain ⟨Hs,O,N,sub,o,G,d,f,q⟩:=h;unfold RQ at f;split at f
  ·rename_i ds
   split at f
   ·rename_i i m
    obtain rfl:=vG m;split at f
    ·rename_i z
     cases f;obtain ⟨p,kvs,rfl,M,w⟩:=Ju sub G z;obtain ⟨b,rfl,B⟩:=yq sub o;cases L;refine L2.IP t I (w b i B) K λs' E=>⟨.bl _,H,E,rfl,?_⟩;have e:(oN kvs i).isSome=(ic (Jt ds) (tD i)).isSome:=by
      rcases M.val i with ⟨j,l⟩|⟨u,d,j,l,h6⟩<;>rw [j,l]<;>rfl
     rw [e];exact q _ H Hs (.refl sub) (.bool _)
    ·cases f
   ·cases f
  ·cases f
 ·unfold RQ;split<;>(try split)<;>(try split)<;>exact λh=>by cases h
def tQ (i:Nat) (gk g:aC->R D):aC->R Fl:=λρ=>match ρ[i]? with
 |some (Sl.own (.dict kvs))=>(g ρ).bind λd=>(gk ρ).bind λk=>match qu k with
  |some _=>if kvs.length<1000/\jZ kvs=true then .ok (.nx (ρ.set i (.own (.dict (og kvs k d))))) else .no
  |none=>.no
 |_=>.no
def F4 (i:Nat) (h:JE c e g) (hk:JE c k gk) (P:c.X.A.units+1<gC) (L:c.X.N[i]?=some x:=by rfl) (hv:Mk c.X.env.scope x:=by first|exact g_ rfl|exact eF (g_ rfl)|exact eF (eF rfl)) (hd:(x==("__debug__" : Str))=false:=by decide)
  (l:(x==("__classdict__" : Str))=false:=by decide) (hs:gF e (some (.Subscript (.Name x p) k apos)) pos.line c.X.env=pure false:=by rfl):JS c (.Assign [.Subscript (.Name x p) k apos] e pos) (tQ i gk g):=.of λρ=>by
 refine Am (IR P (pi L hv hd l) (hk ρ) (h ρ) hs) λD σ H m=>?_;obtain ⟨S,z,la,Hs,f,q⟩:=m;replace q:oP c.X.K c.cls c.E S z la D (tQ i gk g ρ):=q;unfold tQ at q;split at q
 ·rename_i kvs ho
  obtain ⟨a,o,G,O,k3,k4,k5⟩:=f.ow i _ ho;refine sE f q λd v H1 U e1 B Y r1=>?_;rw [e1,bind_ok] at q;refine ⟨_,G,sE Y q λy w H2 s e2 u I r2=>?_⟩;rw [e2,bind_ok] at q;split at q
  ·rename_i ky M
   obtain rfl:=vG M;by_cases j:kvs.length<1000/\jZ kvs=true
   ·rw [if_pos j] at q;cases k5 with
    |dK r=>exact (r.notT (by cases r with|nil=>exact j.2 | @cons k _ _ _ _ _ _=>cases k<;>exact j.2)).elim
    |dF n r=>cases j.2
    |dT n r =>
     have Q:=u.all _ _ (B.all _ _ O);have r':=(r.same B.sh).same u.sh;obtain ⟨b,rfl,T⟩:=yq I.st.sub (.inl r2);exact ⟨a,_,rfl,Em.t Q T (eg (by rw [r.length];omega)),q _ _ s (I.write i ho G (.dT Vs (r'.put ky (r1.same u.sh))))⟩
   ·rw [if_neg j] at q;exact q.elim
  ·exact q.elim
 ·exact q.elim
end
end J
namespace J
open PySem L2
def li (i:Nat) (ρ:aC):aC:=match ρ[i]? with
 |some (Sl.own (.dict ((.tuple a,v)::r)))=>ρ.set i (.own (.dict ((.none,.none)::(.tuple a,v)::r)))
 |_=>ρ
def RS (I:bL X pins σ H s) (h:H a=some (.dT kvs)):∃ o,bL X pins σ (upd H a (.frz o (.dT kvs))) s:=by
 obtain ⟨z,y,xs,g,o,es,ep,c,i,j,d,f⟩:=(show dI X.prog X.w H s.heap a (.dT kvs) from I.hok a _ h);have new:dI X.prog X.w (upd H a (.frz o (.dT kvs))) s.heap a (.frz o (.dT kvs)) :=
  ⟨c,z,y,xs,Paired.mapP g λp q w=>⟨w.1,by rw [bj (MJ w.2.1 h (λz=>nomatch z))];exact w.2.1,w.2.2⟩,o,es,ep,c,i,j,d,f⟩
 have:=I.write (x:=a) (e:=a) (h':=s.heap) (t':=s.toks) (by rw [h];trivial) (.inl rfl) (λb u _ q=>q) ⟨o,c⟩ new;exact ⟨o,this⟩
def Xx (h:PS X st t):PS X st (λD σ H=>t D σ H\/∃ a kvs,H a=some (.dT kvs)/\∀ o,t D σ (upd H a (.frz o (.dT kvs)))):=λpins s σ H D I q=>by
 rcases q with q|⟨a,kvs,ha,q⟩
 ·exact h pins s σ H D I q
 ·obtain ⟨o,b⟩:=RS I ha;exact h pins s σ _ D b (q o)
def Vt (i:Nat) (h:JS c st gs):JS c st (λρ=>gs (li i ρ)):=.of λρ=>Am (Xx (h (li i ρ))) λD' σ H u=>by
 obtain ⟨j,g,la,Hs,f,q⟩:=u;by_cases p:∃ b v r,ρ[i]?=some (Sl.own (.dict ((.tuple b,v)::r)))
 ·obtain ⟨b,v,r,ho⟩:=p;have e:li i ρ=ρ.set i (.own (.dict ((.none,.none)::(.tuple b,v)::r))):=by unfold li;rw [ho]
  obtain ⟨a,o,t,s,x,w,m⟩:=f.ow i _ ho;generalize d:Go ((.tuple b,v)::r)=d0 at m;cases m with
  |lst r=>cases d
  |dK l =>
   cases d;generalize d:((.tuple b,v)::r:List (D×D))=d1 at l;cases l with
   |nil=>cases d
   | @cons k _ _ _ _ _ _=>cases k<;>cases d
  |dF n r=>cases d
  |dT n r =>
   cases d;exact .inr ⟨a,_,s,λo=>⟨j,g,la,Hs,by rw [e];exact f.write i ho t (.dF n r),q⟩⟩
 ·have e:li i ρ=ρ:=by
   unfold li;split
   ·rename_i b v r ho;exact (p ⟨b,v,r,ho⟩).elim
   ·rfl
  refine .inl ⟨j,g,la,Hs,by rw [e];exact f,q⟩
def wO:D->R (List D)
 |.dict ((.none,.none)::ds)=>.ok (ds.map (·.1))
 |_=>.no
def De (g:aC->R D):aC->R (List D):=λρ=>(g ρ).bind wO
def RDt.get : ∀ {ds:List (D×D)}{i:Nat}{k:List dQ}{v:V},RDt K H kvs ds->kvs[i]?=some (k,v)->∃ d,ds[i]?=some (tD k,d):=by
 induction kvs with
 |nil=>intro ds i k v h e;simp at e
 |cons x r a =>
  intro ds i k v h e;cases h with
  |cons h t =>
   cases i with
   |zero=>cases e;exact ⟨_,rfl⟩
   |succ i=>have q:=a (i:=i) t e;exact q
def OH : ∀ a:List dQ,RDs K H (a.map kV) (a.map kD)
 |[]=>.nil
 |k::r=>.cons (by cases k<;>constructor) (OH r)
def Jv (h:Hn a=some (.frz o (.dT kvs))) (r:RDt K Hs kvs ds):NI K (Zt a o kvs) (ds.map (·.1)) Hn Hs:=λB g s E m=>by
 have q:=s _ _ h;have w:=r.length;refine ⟨λi j=>⟨q,?_⟩,λi j=>⟨q,?_⟩,λi x A j y=>?_⟩
 ·rw [aq] at j;omega
 ·rw [aq] at j;omega
 ·obtain ⟨rfl,k,v,b,n,rfl,l⟩:=y;obtain ⟨d,p⟩:=r.get n;have same:du g (upd g b (.tup (k.map kV))):=λc u e=>by
   by_cases f:c=b
   ·subst f;have:=m _ _ e;rw [l] at this;cases this;exact bi
   ·rw [bj f];exact e
  refine ⟨tD k,upd g b (.tup (k.map kV)),by rw [aX,p];rfl,⟨.refl _,same,λc u e=>?_,λc u e t z=>?_⟩,.tuple bi (OH k)⟩
  ·by_cases f:c=b
   ·subst f;rw [bi] at e;cases e;exact l
   ·rw [bj f] at e;exact m _ _ e
  ·by_cases f:c=b
   ·subst f;rw [l] at e;cases e;cases t
   ·rw [bj f];exact z
def RT (h:JB c l g):JI c tg l (De g):=.of λρ=>by
 refine I_ (Jr (h ρ)) λσ H Q m=>?_;obtain ⟨y,x,la,Hs,f,q⟩:=m;refine one f q λd v n j u p t w=>?_;unfold De at q;rw [u,bind_ok] at q;unfold wO at q;split at q
 ·obtain ⟨a,s,m⟩:=w.dict t.st.sub;rcases m with ⟨kvs,e,b⟩|⟨kvs,e,hn,b⟩|⟨o,kvs,es,he,e,hn,b⟩
  ·generalize i:((.none,.none)::_:List (D×D))=d0 at b;cases b with
   |nil=>cases i
   | @cons k _ _ _ _ _ _=>cases k<;>cases i
  ·generalize i:((.none,.none)::_:List (D×D))=d0 at b;cases b<;>cases i
  ·cases he;exact ⟨a,o,kvs,s,e,q _ n j n p (.refl _) (Jv e b)⟩
 ·exact q.elim
def U8 (b a:aC->R D):aC->R D:=λρ=>(b ρ).bind λk=>(a ρ).bind λv=>match qu k with
 |some _=>.ok (.dict [(k,v)])
 |none=>.no
def F5 (O:c.X.A.units+1<gC) (hk:JE c k gk) (hv:JE c v gv):JN c (.Dict [some k] [v] pos) (U8 gk gv):=.of λρ=>by
 refine qH (OF O (hk ρ) (hv ρ)) λσ H Q Y=>?_;obtain ⟨H0,a0,la,Hs,f,q⟩:=Y;intro p l;have s:cP H Hs (upd H p (.dT [])) Hs:=.mine f.st.sub l;have M:Hs p=none:=f.st.sub.free l;unfold U8 at q;refine wF (f.step s) (q.on s (q':=λ_=>True) λ_ _=>trivial) λy w H1 T U G I r1=>?_;rw [U,bind_ok] at q;refine wF I (q.on (s.trans G) (q':=λ_=>True) λ_ _=>trivial) λz u i g e2 K P r2=>?_;rw [e2,bind_ok] at q;split at q
 ·rename_i j L
  obtain rfl:=vG L;obtain ⟨b,rfl,S⟩:=yq I.st.sub (.inl r1);have d:=G.trans K;have E:i p=some (.dT []):=d.all _ _ bi;have B:g p=none:=d.out _ _ bi rfl M;let h:Hp:=λx=>if x=p then none else i x
  have m:∀ x,x≠p->h x=i x:=λx a=>if_neg a;have st:cP H Hs h g:=by
   refine ⟨λx o e=>?_,d.sh,λx o e=>?_,λx o e t n=>?_⟩
   ·have a:=c6 e l;rw [m x a];exact d.all _ _ (by rw [bj a];exact e)
   ·have a:x≠p:=λz=>by rw [z,B] at e;cases e
    rw [m x a];exact P.st.sub _ _ e
   ·have a:=c6 e l;exact d.out _ _ (by rw [bj a];exact e) t n
  have:=q p (.dT [(j,u)]) h g st (if_pos rfl) (.dT (by simp) (.cons r2 .nil));have N:upd h p (.dT [(j,u)])=upd i p (.dT (kn [] j u)):=by
   funext x;by_cases a:x=p
   ·subst a;rw [bi,bi];rfl
   ·rw [bj a,bj a,m x a]
  rw [N] at this;exact ⟨[],j,b,E,rfl,K.all _ _ S,by rw [iN];decide,this⟩
 ·exact q.elim
def uj (g:aC->R D):aC->R Bool:=λρ=>(g ρ).bind λd=>match d with
 |.list ds=>.ok (!ds.isEmpty)
 |_=>.no
def Hy (h:JB c e g) (he:∀ whole,ml e c.X.env whole=(do let v <- whole;ku e.pos;Ap [v] (truthy v)):=by intro _;rfl):JT c e (uj g):=.of λρ=>WU (MX (h ρ) he) λσ H Q hh=>by
 obtain ⟨H0,Hs0,la,Hs,f,q⟩:=hh;refine one f q λd v H1 Hs1 e1 s1 f1 r1=>?_;unfold uj at q;rw [e1,bind_ok] at q;split at q
 ·obtain ⟨a,vs,rfl,qa,ra⟩:=r1.list f1.st.sub;refine ⟨_,.inl ⟨vs,qa,rfl⟩,?_⟩;cases ra with
  |nil=>exact q H1 Hs1 s1
  |cons _ _=>exact q H1 Hs1 s1
 ·exact q.elim
end J
namespace L2
open PySem PySem.Spec PyProof.Rows
def vH {d:List Int}:∀ {c:List af},dY (d.map V.int) c->∀ {i:Nat}{v:af},c[i]?=some v->∃ n t,d[i]?=some n/\v=.int n t:=by
 induction d with
 |nil=>intro c r i v e;cases r;simp at e
 |cons x r f =>
  intro c g i v e;cases g with
  |cons a b =>
   cases i with
   |zero=>cases e;obtain ⟨t,rfl⟩:=a;exact ⟨x,t,rfl,rfl⟩
   |succ i=>have q:=f b (i:=i) e;exact q
end L2
namespace J
open PySem L2
def oj:List D->Option (List Int)
 |[]=>some []
 |.int b::r=>(oj r).map (b::·)
 |_::_=>none
def xr:∀ {bs:List Int},oj ds=some bs->ds=bs.map bV:=by
 induction ds with
 |nil=>intro bs h;cases h;rfl
 |cons d r c =>
  intro bs h;cases d with
  |int b =>
   have h:(oj r).map (b::·)=some bs:=h;cases a:oj r with
   |none=>rw [a] at h;cases h
   |some z=>rw [a] at h;cases h;rw [c a];rfl
  |_=>cases h
def uk:∀ bs:List Int,oj (bs.map bV)=some bs
 |[]=>rfl
 |b::r=>by show (oj (r.map bV)).map (b::·)=_;rw [uk r];rfl
end J
namespace J
open PySem L2
def Vu (i:Nat) (g:aC->R Fl):aC->R Fl:=λρ=>g (li i ρ)
def OI (i:Nat) (h:JS c st gs):JS c st (Vu i gs):=Vt i h
end J
namespace J
open PySem L2
end J
namespace J
open PySem L2
def rS (i:Nat) (ρ:aC):R D:=Gr ρ i
def rB (i:Nat) (ρ:aC):R D:=EC ρ i
def kI (n:Int) (_:aC):R D:=.ok (.int n)
def kB (b:Bool) (_:aC):R D:=.ok (.bool b)
def kN (_:aC):R D:=.ok .none
def kT (_:aC):R Bool:=.ok true
def Xy (i:Nat) (ρ:aC):rS i ρ=Gr ρ i:=id rfl
def Vv (i:Nat) (ρ:aC):rB i ρ=EC ρ i:=id rfl
def Xz (n:Int) (ρ:aC):kI n ρ=.ok (.int n):=id rfl
def XA (b:Bool) (ρ:aC):kB b ρ=.ok (.bool b):=id rfl
def XB (ρ:aC):kN ρ=.ok .none:=id rfl
end J
namespace L2
open PySem PySem.Spec PyProof.Rows
end L2
namespace J
open PySem L2
end J
namespace L2
open PySem PySem.Spec PyProof.Rows
section
open Builtin Builtin.ObjectAttr
inductive Jw (h:bD) (bmB:List af) (nms:List Str):List af->Prop
 |base:Jw h bmB nms bmB
 |own {A:ao}{c0:af}{dd:Option ao}{cd:ClassData}{sl:Array (Option af)}{mA:Str->Option af}{tl:List af} :
   h.get? A=some { cls:=c0,dict:=dd,data:=.cls cd,slots:=sl }->h.Ns cd.ns mA->(∀ n∈nms,mA n=none)->Jw h bmB nms tl->Jw h bmB nms (.ref A::tl)
section
variable {M:M4}{A:bB}{E:af->ai->Prop}{h:bD}{g:Array Gx}{d:M3}{t:Nat}{os:OsState}
variable {nm q:Str}{C N x:ao}{bs bm bmB:List af}{hdct:Bool}{sn:List Str}{sub:List af}{ab:Bool}{col:Option Bool}{dd:Option ao}{k0 k1 k2 k3 k5:Option af}{B newId initId sa owner:String}{nms:List Str}{name:Str}{v:af}{mN:Str->Option af}
end
section
variable {prog:a_}{w:bz}{A:bB}{E:af->ai->Prop}{h:bD}{g:Array Gx}{d:M3}{t:Nat}{os:OsState}
variable {nm q:Str}{C N x:ao}{bs bm bmB:List af}{sn:List Str}{sub:List af}{ab:Bool}{col:Option Bool}{dd:Option ao}{k0 k1 k2 k3 k5:Option af}{B newId initId sa owner:String}{nms:List Str}{name:Str}{v:af}{mN:Str->Option af}
end
end
section
variable {prog:a_}{w:bz}{A:bB}{E:af->ai->Prop}{h:bD}{g:Array Gx}{d:M3}{t:Nat}{os:OsState}
variable {nm q:Str}{C N:ao}{bs bm bmB:List af}{hdct:Bool}{sn:List Str}{sub:List af}{ab:Bool}{col:Option Bool}{dd:Option ao}{k0 k1 k2 k3 k5:Option af}{B newId initId:String}
end
structure Vw (h:bD) (fI:ao):Prop where
 ex:∃ (oI:Obj) (fd:fG) (p1 p2 p3 p4:Pos),h.get? fI=some oI/\oI.cls=.type "function"/\oI.data=.func fd/\h.CodeRec fd.code fd.qualname/\fd.scope.isCoroutine=false/\fd.scope.isGenerator=false/\fd.scope.kind=.function /\
  fd.scope.names=[(("self" : Str),qE),(("number" : Str),qE)]/\fd.body=.stmts [.Assign [.Attribute (.Name "self" p1) "number" p2] (.Name "number" p3) p4]/\∀ (s:ai) (e v:af),(∀ b o,h.get? b=some o->s.heap.get? b=some o)->Ar s fd ⟨[e,v],[]⟩ [("self",e),("number",v)]
structure Zu (x:Str) (C:ao) (mg:Str->Option af) (base:bD):Prop where
 bound:mg x=some (.ref C)
 obj:∃ nm q N bs bm sn sub ab col dd k0 k1 k2 k3 k5 mN fI,base.get? C=some (excClassObj nm q C N bs bm true sn sub ab col dd k0 k1 k2 k3 k5 "ValueError.__new__")/\base.Ns N mN/\mN "__init__"=some (.ref fI)/\mN "__setattr__"=none/\mN "number"=none /\
  Jw base [.type "ValueError",.type "Exception",.type "BaseException",.type "object"] ["__init__","__setattr__","number"] bm/\Vw base fI
section
variable {P:a_}{w:bz}{K:aa}{mg:Str->Option af}{base:bD}{N:List Str}{qual:Str}{scope:eX}{f:ao}{cd:af}{A:bB}{outer:List Env}{s:ai}{H:Hp}{E:XK}
end
end L2
namespace J
open PySem L2
section
open PySem.W (nsIn nsOkIn codeIn fnOf)
def XC (X:K.In h) (G:h.Ns N mg) (e:nsIn K N n=some (some v)):mg n=some v:=by
 obtain ⟨o,es,ep,ho,b,_,a⟩:=G;unfold io at e;split at e
 ·rename_i c d es' g f q
  have:=X _ _ q;rw [ho] at this;cases this;cases b;split at e
  ·rename_i he
   rw [<- a];unfold nsFind findBy;rw [<- Kc,he];cases e;rfl
  ·split at e<;>cases e
 ·cases e
structure Zv (K:aa) (x:Str) (C:ao) (st:dX):Prop where
 ns:nsIn K cf x=some (some (.ref C))
 own:∀ {h:bD}{mg:Str->Option af},K.In h->h.Ns cf mg->Zu x C mg h
 mb:iB K C (.type "BaseException")=some true
 ox:∀ {h:bD},K.In h->∃ bm,Zg h C bm/\∀ v,(v==bv C)=false->iB K C v=some true->bm.contains v=true
def topN {K:aa}{x:Str}{C P fI t a g:ao}{st:dX}{U qn M E fq:Str}{bs T o j sub:List af}{B a7:List Str}{ab a5 a6 l:Bool}{b q:Option Bool}{dd dP od dT an:Option ao}{S p m H N:Option af}{c0 kV i pm d ct cT:af}{Y O y:Array (Option af)}{nT:Nat}{p1 p2 p3 p4:Pos}{cN cM:af}{dN dM:Option ao}{c f:Array Mb}{L Q:Nat}{A a0:Array (Option af)}
  (a1:nsIn K cf x=some (some (.ref C))) (a4:iB K C (.type "BaseException")=some true)
  (a2:K.lookup C=some ⟨.type "type",dd,.cls ⟨U,bs,[.ref C,.ref P,.type "ValueError",.type "Exception",.type "BaseException",.type "object"],a,qn,true,B,sub,ab,b,false⟩,#[S,p,m,H,some (.builtin "ValueError.__new__"),N]⟩)
  (a3:K.lookup P=some ⟨c0,dP,.cls ⟨M,T,o,g,E,a6,a7,j,a5,q,l⟩,Y⟩)
  (b1:nsIn K a "__init__"=some (some (.ref fI))) (b2:nsIn K a "__setattr__"=some none) (b3:nsIn K a "number"=some none)
  (c1:nsIn K g "__init__"=some none) (c2:nsIn K g "__setattr__"=some none) (c3:nsIn K g "number"=some none)
  (d1:K.lookup fI=some ⟨.type "function",od,.func (fnOf "__init__" fq (kQ st) (iK st) (aE st) (.ref t) kV i pm an d ct),O⟩)
  (d2:K.lookup t=some ⟨cT,dT,.seq #[.none] nT,y⟩) (d3:codeIn K d fq=true)
  (g1:K.lookup a=some ⟨cN,dN,.dict c L,A⟩) (g2:K.lookup g=some ⟨cM,dM,.dict f Q,a0⟩) (g3:(c.toList.all λe=>match e.key with | .str _ _=>true|_=>false)=true) (g4:(f.toList.all λe=>match e.key with | .str _ _=>true|_=>false)=true)
  (f1:iK st=[.Assign [.Attribute (.Name "self" p1) "number" p2] (.Name "number" p3) p4]) (f2:(aE st).names=[(("self" : Str),qE),(("number" : Str),qE)])
  (f3:(aE st).isCoroutine=false) (f4:(aE st).isGenerator=false) (f5:(aE st).kind=.function)
  (f6:∀ e v,∃ k,Qv (fnOf "__init__" fq (kQ st) (iK st) (aE st) (.ref t) kV i pm an d ct) ⟨[e,v],[]⟩=sU (.ref t) >>= k/\k (some #[.none])=pure [(("self" : Str),e),(("number" : Str),v)]):Zv K x C st:=by
 have u:nsOkIn K a=true:=by unfold MB;rw [g1];show c.all _=true;rw [<- xN];exact g3
 have w:nsOkIn K g=true:=by unfold MB;rw [g2];show f.all _=true;rw [<- xN];exact g4
 refine ⟨a1,λ{h mg} X G=>⟨tK X G a1,U,qn,a,bs,_,B,sub,ab,b,dd,S,p,m,H,N,h.nsMap a,fI,X _ _ a2,.of_isNs (u5 X u),?_,gR X u b2,gR X u b3,?_,⟨_,_,p1,p2,p3,p4,X _ _ d1,rfl,rfl,Gz X d3,f3,f4,f5,f2,congrArg FuncBody.stmts f1,λs e v kb=>?_⟩⟩,a4,λ{h} X=>⟨_,⟨⟨U,qn,a,bs,true,B,sub,ab,b,dd,S,p,m,H,N,_,X _ _ a2⟩,rfl⟩,λv nv I=>?_⟩⟩
 ·exact XC X (.of_isNs (u5 X u)) b1
 ·refine .own (X _ _ a3) (.of_isNs (u5 X w)) (λn hn=>?_) .base;rcases List.mem_cons.mp hn with z|hn
  ·rw [z];exact gR X w c1
  rcases List.mem_cons.mp hn with z|hn
  ·rw [z];exact gR X w c2
  ·rw [List.mem_singleton.mp hn];exact gR X w c3
 ·obtain ⟨k,p,m⟩:=f6 e v;exact BindsTo.of_defaults rfl (kb _ _ (X _ _ d2)) rfl p m
 ·unfold iB AC at I;rw [a2] at I;have:(bv C::[bv P,.type "ValueError",.type "Exception",.type "BaseException",.type "object"]).contains v=true:=by simpa using I
  rw [List.contains_cons,nv,Bool.false_or] at this;exact this
end
end J
namespace L2
open PySem PySem.Spec PyProof.Rows
end L2
namespace L2
open PySem PySem.Spec PyProof.Rows
def AR (y:X.calm=true):jU X (.builtin "max") (λxs H Q=>∃ p,∃ c:List Int,xs=[.ref p]/\nZ X.K H p (c.map V.int)/\0<c.length/\∀ m,m∈c->(∀ a∈c,a<=m)->Q (.int m) H):=by
 intro pins s σ H xs O Q I r h;obtain ⟨p,c,rfl,z,N,q⟩:=h;obtain ⟨u,rfl,x⟩:=l9 r;cases x;obtain ⟨d,g,pl,M⟩:=I.list z;have L:d.toArray.size=c.length:=by have:=g.length;simp at this ⊢;omega
 obtain ⟨o,ho,P⟩:=pl.isList;refine call_max_walk (i4 pl.isList ⟨_,_,_,_,_,_,λi j=>decide (c.getD i 0 > c.getD j 0),rfl,qy (by simpa using I.ok.hd y) _ p (aB (av ho)) d.toArray,⟨⟨_,ay _ rfl,rfl,rfl⟩,pl.isList.push _⟩,?_,?_,?_,λv h' w l kp=>?_⟩)
 ·intro b k;simp only [aQ,bh,or_false] at k;have E:=av ho;have hs:(s.heap.push { cls:=.type "list_iterator",data:=.fields #[bv p,jg 0 0] }).objs.size=s.heap.objs.size+1:=Qj ..;rcases k with rfl|rfl
  ·exact nY (cZ _) hs.symm
  ·exact nY (cO E) hs.symm
 ·omega
 ·refine CmpOf.ints_gt (λi=>c.getD i 0) λi v B=>?_;obtain ⟨n,t,f,rfl⟩:=vH g (i:=i) (by simpa using B);exact ⟨t,by simp [cz,f]⟩
 ·rw [L] at l;obtain ⟨b1,b2⟩:=argBest_gt (λi=>c.getD i 0) (c.length-1);obtain ⟨n,t,f,rfl⟩:=vH g (by simpa using l);refine ⟨.int n,H,I.kept (t':=w) λb o e=>kp b o ?_ (ac _ e),⟨t,rfl⟩,q n (c8 f) λa A=>?_⟩
  ·simp only [df];exact aB (av e)
  ·obtain ⟨j,G,e⟩:=i5 A;have:=b2 j (by omega);simpa [cz,f,G,e] using this
end L2
namespace J
open PySem L2
def q00:D->R D
 |.list ds=>match oj ds with
  |some a=>.ok (.int a.sum)
  |none=>.no
 |_=>.no
def oS:List Int->Int
 |[]=>0
 |x::r=>r.foldl max x
def zt:∀ (r:List Int) (x:Int),(r.foldl max x∈x::r)/\∀ a∈x::r,a<=r.foldl max x
 |[],x=>⟨by simp,λa b=>by simp at b;subst b;exact Kq _⟩
 |y::r,x=>by
  obtain ⟨f,d⟩:=zt r (max x y);rw [cH];refine ⟨?_,λa b=>?_⟩
  ·rcases List.mem_cons.mp f with h|h
   ·rw [h];by_cases c:x<=y
    ·rw [QO c];simp
    ·rw [Int.max_eq_left (by omega)];simp
   ·exact ag _ (ag _ h)
  ·have e:=d (max x y) ak;rcases List.mem_cons.mp b with h|h
   ·subst h;exact Int.le_trans (Int.le_max_left _ _) e
   ·rcases List.mem_cons.mp h with h|h
    ·subst h;exact Int.le_trans (Int.le_max_right _ _) e
    ·exact d a (ag _ h)
def Jx (b:m∈ns) (e:∀ a∈ns,a<=m):m=oS ns:=by
 cases ns with
 |nil=>cases b
 |cons x r =>
  obtain ⟨d,c⟩:=zt r x;exact Int.le_antisymm (c _ b) (e _ d)
def Hz:D->R D
 |.list ds=>match oj ds with
  |some a=>if 0<a.length then .ok (.int (oS a)) else .no
  |none=>.no
 |_=>.no
def Vx (k:X.calm=true):Mm X (.builtin "max") (i9 Hz):=by
 refine ue (λd c n=>?_) λpins s σ H x u Q Hs d d' I o sub i b q=>?_
 ·unfold Hz;split<;>(try split)<;>(try split)<;>exact λh=>by cases h
 ·unfold Hz at b;split at b
  ·split at b
   ·split at b
    ·rename_i l hs j
     cases b;obtain ⟨a,t,rfl,e,f⟩:=i.list sub;rw [xr hs] at f;rw [vp f] at e;exact AR k pins s σ H _ _ Q I (.cons o .nil) ⟨a,l,rfl,e,j,λm g p=>by rw [Jx g p];exact q _ H Hs (.refl sub) (.int _)⟩
    ·cases b
   ·cases b
  ·cases b
end J
namespace J
open PySem L2
def Lc (i:Nat) (g:aC->R D):aC->R Fl:=λρ=>match ρ[i]? with
 |some (Sl.shr (.int a))=>(g ρ).bind λd=>match d with
  |.int b=>.ok (.nx (ρ.set i (.shr (.int (a+b)))))
  |_=>.no
 |_=>.no
def Vy (i:Nat) (h:JE c e g) (l:c.X.N.Nodup) (t:c.X.N[i]?=some x:=by rfl) (B:Qo c.X.env.scope x:=by first|exact g_ rfl|exact eF rfl)
  (s:c.X.fn x=true\/c.X.env.scope.names.lookup x=some .local:=by first|exact .inl rfl|exact .inr rfl|assumption):JS c (.AugAssign (.Name x p) .Add e pos) (Lc i g):=.of λρ=>by
 refine Am (UG l t B (h ρ) UH s) λD' σ H y=>?_;obtain ⟨o,k,la,Hs,f,q⟩:=y;replace q:oP c.X.K c.cls c.E o k la D' (Lc i g ρ):=q;unfold Lc at q;split at q
 ·rename_i a ho
  obtain ⟨v,n,m⟩:=f.sh i _ ho;have A:v=.int a:=by cases m;rfl
  subst A;refine ⟨.int a,n,?_⟩;refine sE f q λd v I j w G u z=>?_;rw [w,bind_ok] at q;cases z with
  |int b=>exact ⟨a,b,rfl,rfl,q _ _ j (u.set i (.int _))⟩
  |list _ _=>exact q.elim
  |none=>exact q.elim
  |bool _=>exact q.elim
  |str _=>exact q.elim
  |tuple _ _=>exact q.elim
  |dictK _ _=>exact q.elim
  |dictT _ _ _=>exact q.elim
  |dictF _ _ _=>exact q.elim
 ·exact q.elim
end J
namespace L2
open PySem PySem.Spec PyProof.Rows
def Df (I:Nat->ai->Prop)
  (turn:∀ n s,I n s->au (aA prog w) A (gn it) (λr s₁=>match r with
   |none=>R (.ok .next) s₁
   |some v=>au (aA prog w) A (dE target it v) (λ_ s₁'=>au (aA prog w) A (iV target env v) (λ_ s₂ =>
     au (aA prog w) A (forIn ifs true λc r=>if r=true then do let ok <- ml c env (dn c env);pure (cR ok) else pure (cR r)) (λok s₃ =>
      if ok=true then au (aA prog w) A (dn kx env) (λx s₄=>au (aA prog w) A (dn vx env) (λy s₅ =>
       au (aA prog w) A (dictSet Da x y) (λ_ s₆=>∃ m,m<n/\I m s₆) (λ_ _=>False) s₅) (λ_ _=>False) s₄) (λ_ _=>False) s₃
      else ∃ m,m<n/\I m s₃) (λ_ _=>False) s₂) (λ_ _=>False) s₁') (λ_ _=>False) s₁) (λ_ _=>False) s)
  (n:Nat) (h:I n s) :
  dZ (aA prog w) A (.compLoop (.DictComp kx vx [⟨target,iter,ifs,0⟩] scope pos) 0 it (.ref Da) env) R s:=by
 refine tY rfl I (λn s hI=>?_) n h;show au _ A ((sQ (.DictComp kx vx [⟨target,iter,ifs,0⟩] scope pos) 0 it (.ref Da) env).onRaise (λx=>do sR x env;nU x)) _ _ s;refine wl ?_;rw [compTurn_dict];have nf:∀ {α:Type}{t:Sem α}{Q:α->ai->Prop}{E':af->ai->Prop}{s:ai},au (aA prog w) A t Q (λ_ _=>False) s->au (aA prog w) A t Q E' s :=
  λh=>aT h (λ_ _ q=>q) λ_ _ f=>f.elim
 refine a8 (cU (a8 (nf (aT (turn n s hI) (λr s₁ h₁=>?_) λ_ _ h'=>h'))));cases r with
 |none=>exact a9 h₁
 |some v =>
  refine a8 (nf (aT h₁ (λ_ s₁' h₁'=>?_) λ_ _ h'=>h'));refine a8 (nf (aT h₁' (λ_ s₂ h₂=>a8 (nf (aT h₂ (λok s₃ h₃=>?_) λ_ _ h'=>h'))) λ_ _ h'=>h'));cases ok with
  |false=>exact a9 ⟨rfl,h₃⟩
  |true =>
   exact a8 (a8 (nf (aT h₃ (λx s₄ h₄=>a8 (bZ (nf (aT h₄ (λy s₅ h₅=>a8 (cU (bZ (nf (aT h₅ (λ_ s₆ h₆=>a9 ⟨rfl,h₆⟩) λ_ _ h'=>h'))))) λ_ _ h'=>h')))) λ_ _ h'=>h')))
end L2
namespace J
open PySem L2
section
variable {c:C}{pos:Pos}{x:Str}{kx vx iter tg:bp}{ifs:List bp}{scope:eX}{N':List Str}{nt:Nat}{ix:List Nat}{gi:aC->R (List D)}{gt:aC->R Bool}{gk gv:aC->R D}
def Vz (a:List (D×D)):D->List (D×D)
 |.tuple [k,v]=>og a k v
 |_=>a
def Wj (ys:List D):List (D×D):=ys.foldl Vz []
def OJ (ys:List D) (k v:D):Wj (ys++[.tuple [k,v]])=og (Wj ys) k v:=by
 unfold Wj;rw [List.foldl_append];rfl
def HA (c:C) (N':List Str) (scope:eX) (nt:Nat) (tg:bp) (ifs:List bp) (kx vx:bp) (gt:aC->R Bool) (gk gv:aC->R D):Prop :=
 ∀ d A a b f e,PG (c.comp N' scope d A a b f e).X tg (y_ c.X.K nt)/\Tv (c.comp N' scope d A a b f e) ifs gt/\JE (c.comp N' scope d A a b f e) kx gk/\JE (c.comp N' scope d A a b f e) vx gv
def HA.at (h:HA c N' scope nt tg ifs kx vx gt gk gv):∀ e A d b g f,PG (bu c.X N' scope e A d b g f) tg (y_ c.X.K nt)/\E4 (bu c.X N' scope e A d b g f) ifs (λσ H Q=>∃ a,E5 c.X.K c.cls E0 a (gt a) σ H Q) /\
  PE (bu c.X N' scope e A d b g f) kx (λσ H Q=>∃ a,TR c.X.K c.cls E0 a (gk a) σ H Q)/\PE (bu c.X N' scope e A d b g f) vx (λσ H Q=>∃ a,TR c.X.K c.cls E0 a (gv a) σ H Q):=λe A d b g f=>by
 obtain ⟨i,l,j,k⟩:=h e A d b g f;exact ⟨i,λpins s σ H Q I z=>by obtain ⟨a,q⟩:=z;exact l a pins s σ H Q I q,λpins s σ H Q I z=>by obtain ⟨a,q⟩:=z;exact j a pins s σ H Q I q,λpins s σ H Q I z=>by obtain ⟨a,q⟩:=z;exact k a pins s σ H Q I q⟩
end
end J
namespace L2
open PySem PySem.Spec PyProof.Rows
end L2
namespace J
open PySem L2
end J
namespace J
open PySem L2
def OK (h:JE c l g):Mn c tg l (De g):=.of λρ=>by
 refine I_ (Jr (h ρ)) λσ H Q w=>?_;obtain ⟨y,x,la,Hs,f,q⟩:=w;refine wF f q λd v s j u p t m=>?_;unfold De at q;rw [u,bind_ok] at q;unfold wO at q;split at q
 ·generalize i:((.none,.none)::_:List (D×D))=d0 at m;cases m with
  |dictK e b=>cases b with
   |nil=>cases i
   | @cons k _ _ _ _ _ _=>cases k<;>cases i
  |dictT n e b=>cases b<;>cases i
  | @dictF a o kvs es e n b =>
   cases i;exact ⟨a,o,kvs,rfl,t.st.sub _ _ e,q _ s j p (Jv e b)⟩
 ·exact q.elim
def tf (p:HO->Bool) (H Hs:Hp):Hp:=λb=>match Hs b,H b with
 |some o,_=>some o
 |none,some o=>if p o then some o else none
 |none,none=>none
def wP (p:HO->Bool) (H Hs a:Hp):Hp:=λb=>match Hs b,H b with
 |none,some o=>if p o then none else a b
 |_,_=>a b
def md:du Hs (tf p H Hs):=λb o e=>by
 unfold tf;rw [e]
def zu (h:H b=some o) (n:Hs b=none) (a:p o=true):tf p H Hs b=some o:=by
 unfold tf;rw [n,h];exact if_pos a
def zw (h:tf p H Hs b=some o):Hs b=some o\/(Hs b=none/\H b=some o/\p o=true):=by
 unfold tf at h;split at h
 ·rename_i e;exact .inl (e.trans h)
 ·rename_i u n e
  split at h
  ·rename_i a;cases h;exact .inr ⟨n,e,a⟩
  ·cases h
 ·cases h
def OL (s:du Hs H):du (tf p H Hs) H:=λb o e=>by
 rcases zw e with h|⟨_,h,_⟩
 ·exact s b o h
 ·exact h
def RU (s:cP H Hs H' Hs'):du (tf p H Hs) (tf p H' Hs'):=λb o e=>by
 rcases zw e with h|⟨n,h,hp⟩
 ·exact md b o (s.sh b o h)
 ·have h':=s.all b o h;cases a:Hs' b with
  |none=>exact zu h' a hp
  |some u =>
   have:=s.sub b u a;rw [h'] at this;cases this;exact md b o a
def RV (n:Hs b=none) (h:H b=some o) (a:p o=true):wP p H Hs Hs1 b=none:=by
 unfold wP;rw [n,h];exact if_pos a
def Dg (h:∀ o,Hs b=none->H b=some o->p o=false):wP p H Hs Hs1 b=Hs1 b:=by
 unfold wP;split
 ·rename_i o n e
  rw [h o n e];rfl
 ·rfl
def OM:du (wP p H Hs Hs1) Hs1:=λb o e=>by
 unfold wP at e;split at e
 ·split at e
  ·cases e
  ·exact e
 ·exact e
def BP (sub:du Hs H) (s:cP H (tf p H Hs) H' Hs1):cP H Hs H' (wP p H Hs Hs1):=by
 refine ⟨s.all,λb o e=>?_,OM.trans s.sub,λa o e t n=>?_⟩
 ·rw [Dg λf n _=>by rw [e] at n;cases n];exact s.sh b o (md b o e)
 ·cases c:p o with
  |true=>exact RV n e c
  |false =>
   rw [Dg λf _ d=>by rw [e] at d;cases d;exact c];refine s.out a o e t ?_;unfold tf;rw [n,e];simp only [c];rfl
structure XD (p:HO->Bool) (ok:D->Bool):Prop where
 rd:∀ {K:aa}{H Hs H' Hs1:Hp},cP H (tf p H Hs) H' Hs1->∀ {v d},ok d=true->RD K Hs1 v d->RD K (wP p H Hs Hs1) v d
def xZ:HO->Bool
 |.dK _=>true
 |.dT _=>true
 |.frz _ (.dT _)=>true
 |_=>false
def BQ:XD xZ n5:=.mk λ{K H Hs H' c} s {v d} l r=>by
 have f:∀ (a:ao) (u:HO),xZ u=false->c a=some u->wP xZ H Hs c a=some u:=λa u j e=>by
  rw [Dg λo n h=>?_]
  ·exact e
  ·cases g:xZ o with
   |false=>rfl
   |true =>
    have:=s.sh a o (zu h n g);rw [e] at this;cases this;rw [j] at g;cases g
 have k:∀ (a:ao) (xs:List V),nZ K c a xs->nZ K (wP xZ H Hs c) a xs:=λa xs q=>by
  rcases q with (q|⟨o,q⟩)|q
  ·exact .inl (.inl (f a _ rfl q))
  ·exact .inl (.inr ⟨o,f a _ rfl q⟩)
  ·exact .inr q
 exact RD.rec (motive_1:=λv d _=>n5 d=true->RD K (wP xZ H Hs c) v d) (motive_2:=λv d _=>noDs d=true->RDs K (wP xZ H Hs c) v d) (motive_3:=λ_ _ _=>True) (motive_4:=λ_ _ _=>True)
  (λ_=>.none) (λb _=>.bool b) (λi _=>.int i) (λx _=>.str x) (λh _ r e=>.list (k _ _ h) (r e)) (λh _ r e=>.tuple (f _ _ rfl h) (r e)) (λ_ _ _ e=>by cases e) (λ_ _ _ _ e=>by cases e) (λ_ _ _ _ e=>by cases e)
  (λ_=>.nil) (λ_ _ a b e=>.cons (a (Tj e)) (b (Tl e))) trivial (λ_ _ _ _=>trivial) trivial (λ_ _ _ _=>trivial) r l
inductive RW (p:HO->Bool) (K:aa) (cls:Str->ao) (E:XK) (ρ:aC) (r:R (List D)) (σ:St) (H:Hp) (Q:List V->Hp->Prop):Prop
 |mk (H0 Hs0:Hp) (la:Nat->Option ao) (Hs:Hp) (f:Fr K H0 Hs0 la ρ σ H Hs) (q:Fin K cls E H Hs r λd=>∀ v H' Hs',cP H Hs H' Hs'->RDs K (tf p H' Hs') v d->Q v H'):RW p K cls E ρ r σ H Q
structure JL (p:HO->Bool) (c:C) (es:List bp) (g:aC->R (List D)):Prop where of ::
 run:∀ ρ,PA c.X es (RW p c.X.K c.cls c.E ρ (g ρ))
def VA {K:aa}{cls:Str->ao}{E:XK}{ρ:aC}{r:R (List D)}{g:Type}{k:List D->R g}{σ:St}{H:Hp}{e b Hs:Hp}{la:Nat->Option ao}{Q:List V->Hp->Prop}{q:g->Prop} (f:Fr K e b la ρ σ H Hs)
  (h:Fin K cls E H Hs (r.bind k) q) (m:∀ d v H' a,r=.ok d->cP H Hs H' a->Fr K e b la ρ σ H' a->RDs K (tf p H' a) v d->Q v H'):RW p K cls E ρ r σ H Q:=by
 refine ⟨e,b,la,Hs,f,?_⟩;cases r with
 |ok d=>exact λv H' a s r=>m d v H' a rfl s (f.step s) r
 |ex c n=>exact h
 |no=>exact h
def ON:JL p c [] aP:=.of λρ=>Vb jx λσ H Q h=>by obtain ⟨b,a,la,Hs,f,q⟩:=h;exact q [] H Hs (.refl f.st.sub) .nil
def Jy (h:JE c e g) (j:JL p c es gs) (hs:aH (e::es) c.X.env=(false,dn e c.X.env)::aH es c.X.env:=by rfl):JL p c (e::es) (ah g gs):=.of λρ=>Vb (hU (h ρ) (j.run ρ) hs) λσ H Q h=>by
 obtain ⟨x,t,la,Hs,f,q⟩:=h;refine wF f q λd v w k n b l o=>?_;unfold ah at q;rw [n,bind_ok] at q;refine VA l (q.on b (q':=λ_=>True) λ_ _=>trivial) λds z m a u i y s=>?_;rw [u,bind_ok] at q;exact q _ m a (b.trans i) (.cons ((o.same i.sh).same md) s)
def BR (i:Nat) (ρ:aC):R D:=match ρ[i]? with
 |some (Sl.shr d)=>.ok d
 |some (Sl.own (.dict ds))=>.ok (.dict ds)
 |_=>.no
def OO (i:Nat) (g:JL xZ c es gs) (I:c.X.N[i]?=some x:=by rfl) (U:Mk c.X.env.scope x:=by first|exact g_ rfl|exact eF (g_ rfl)|exact eF (eF rfl)) (P:(x==("__debug__" : Str))=false:=by decide)
  (k:(x==("__classdict__" : Str))=false:=by decide) (hs:aH (.Name x ps::es) c.X.env=(false,dn (.Name x ps) c.X.env)::aH es c.X.env:=by rfl):JL xZ c (.Name x ps::es) (ah (BR i) gs):=.of λρ=>Vb (hU (pi I U P k) (g.run ρ) hs) λσ H Q h=>by
 obtain ⟨H0,Y,la,Hs,f,q⟩:=h;have B:∀ d v,BR i ρ=.ok d->σ[i]?=some (some v)->RD c.X.K (tf xZ H Hs) v d->∃ v,σ[i]?=some (some v)/\RW xZ c.X.K c.cls c.E ρ (gs ρ) σ H (λG H'=>Q (v::G) H'):=λd v M j O=>by
  refine ⟨v,j,?_⟩;unfold ah at q;rw [M,bind_ok] at q;refine VA f q λds G L n e2 A f2 T=>?_;rw [e2,bind_ok] at q;exact q _ L n A (.cons (O.same (RU A)) T)
 cases g:ρ[i]? with
 |none=>unfold ah at q;simp only [BR,g] at q;exact q.elim
 |some s =>
  cases s with
  |shr d =>
   obtain ⟨v,j,p⟩:=f.sh i d g;obtain ⟨w,m,l⟩:=B d v (by simp only [BR,g]) j (p.same md);exact ⟨w,m,l⟩
  |no=>unfold ah at q;simp only [BR,g] at q;exact q.elim
  |lck d=>unfold ah at q;simp only [BR,g] at q;exact q.elim
  |ow2 d=>unfold ah at q;simp only [BR,g] at q;exact q.elim
  |own d =>
   cases d with
   |dict ds =>
    obtain ⟨a,o,j,p,t,h4,z⟩:=f.ow i _ g;have S:xZ o=true:=by cases z<;>rfl
    have Z:=B _ _ (by simp only [BR,g]) j ((z.share t).same λb u e=>?_)
    ·obtain ⟨w,m,l⟩:=Z;exact ⟨w,m,l⟩
    by_cases y:b=a
    ·subst y;rw [bi] at e;cases e;exact zu p t S
    ·rw [bj y] at e;exact md b u e
   |none=>unfold ah at q;simp only [BR,g] at q;exact q.elim
   |bool _=>unfold ah at q;simp only [BR,g] at q;exact q.elim
   |int _=>unfold ah at q;simp only [BR,g] at q;exact q.elim
   |str _=>unfold ah at q;simp only [BR,g] at q;exact q.elim
   |list _=>unfold ah at q;simp only [BR,g] at q;exact q.elim
   |tuple _=>unfold ah at q;simp only [BR,g] at q;exact q.elim
def Zw (ok:D->Bool):R D->R D
 |.ok d=>if ok d then .ok d else .no
 |.ex c none=>.ex c none
 |_=>.no
def F6 (ok:D->Bool) (n:Nat) (F:List D->R D) (a:aC->R (List D)):aC->R D:=λρ=>(a ρ).bind λds=>if ds.length=n then Zw ok (F ds) else .no
def jcl (L:XD p ok) (G:Fn c.X.prog c.X.w c.X.K c.X.mg c.X.base c.cls x k n F) (O:lc j c.X.A) (hx:qV (Al c.X.prog c.X.w) c.X c.E) (N:JL p c (e::es) gs)
  (hk:k<=j:=by decide) (hg:Gl c.X x:=by exact rfl) (l:(x==("__debug__" : Str))=false:=by decide) (he:aH (e::es) c.X.env=(false,dn e c.X.env)::aH es c.X.env:=by rfl) (B:(fX pos (aH es c.X.env)).any (·.1)=false:=by rfl) :
  JE c (.Call (.Name x pn) (e::es) [] pos) (F6 ok n F gs):=.of λρ=>by
 obtain ⟨f,fd,ps,P,T,u,S⟩:=G.ex;refine qH (IL (E:=c.E) P (O.mono hk) hg T u S .nil hx (N.run ρ) l he B) λσ H Q h=>?_;obtain ⟨H0,a0,la,Hs,fr,q⟩:=h;refine VA fr q λds vs M a U I o Y=>?_;unfold F6 at q;rw [U,bind_ok] at q;by_cases t:ds.length=n
 ·rw [if_pos t] at q;show Rz _ _ _ _ (vs++[]) _ _ _;rw [bN];refine ⟨tf p M a,ds,OL o.st.sub,t,Y,?_⟩;cases i:F ds with
  |no=>rw [i] at q;exact q.elim
  |ex y m =>
   rw [i] at q;cases m with
   |some d=>exact q.elim
   |none=>exact λs b g=>by have z:=q s (wP p M a b) (I.trans (BP o.st.sub g));exact z
  |ok d =>
   rw [i] at q;unfold Zw at q;simp only at q;by_cases ho:ok d=true
   ·rw [if_pos ho] at q;exact λv s b g r2=>q v s _ (I.trans (BP o.st.sub g)) (L.rd g ho r2)
   ·rw [if_neg ho] at q;exact q.elim
 ·rw [if_neg t] at q;exact q.elim
end J
namespace L2
open PySem PySem.Spec PyProof.Rows
end L2
namespace J
open PySem L2
end J
namespace J
open PySem L2
end J
namespace L2
open PySem PySem.Spec PyProof.Rows
inductive XE (X:Cx) (CX:KC) (E:XK) (t:TA) (σ:St) (Q:VK) (v:V) (H1:Hp):Prop
 |mk (k:Nat) (f:ao) (fd:fG) (ps:List Str) (sp:Sp) (h0:v=.ref f) (F:sZ X.prog X.w X.K X.mg X.base CX k f fd ps sp) (hr:lc k X.A) (hk:fY X.K (.ref f)=true) (hb:lO X.K fd ps []) (q:T5 sp [] E t σ H1 Q):XE X CX E t σ Q v H1
end L2
namespace J
open PySem L2
inductive BS (c:C) (n j:Nat):List bp->List (List D->R D)->List ao->Prop
 |nil:BS c n j [] [] []
 |cons {x:Str}{p:Pos}{F:List D->R D}{k:Nat}{f:ao}{fd:fG}{ps:List Str}{es:List bp}{Fs:List (List D->R D)}{as:List ao} (hf:sZ c.X.prog c.X.w c.X.K c.X.mg c.X.base (Al c.X.prog c.X.w) k f fd ps (Rz c.X.K c.cls n F)) (hm:c.X.mg x=some (.ref f)) (hk:fY c.X.K (.ref f)=true) (hb:lO c.X.K fd ps []) (hj:k<=j) (hg:Gl c.X x) (hdb:(x==("__debug__" : Str))=false) (r:BS c n j es Fs as):BS c n j (.Name x p::es) (F::Fs) (f::as)
structure Pk (c:C) (n j:Nat) (es:List bp) (Fs:List (List D->R D)):Prop where
 ex:∃ as,BS c n j es Fs as
inductive OP (c:C) (n j:Nat) (F:List D->R D) (f:ao):Prop
 |mk (k:Nat) (fd:fG) (ps:List Str) (hf:sZ c.X.prog c.X.w c.X.K c.X.mg c.X.base (Al c.X.prog c.X.w) k f fd ps (Rz c.X.K c.cls n F)) (hk:fY c.X.K (.ref f)=true) (hb:lO c.X.K fd ps []) (hj:k<=j):OP c n j F f
def Ld (h:BS c n j es b a):∀ {i:Nat}{F:List D->R D},b[i]?=some F->∃ f,a[i]?=some f/\OP c n j F f:=by
 induction h with
 |nil=>intro i F e;simp at e
 | @cons x p F k f l g es b a s v o t m w u r d =>
  intro i F e;cases i with
  |zero=>cases e;exact ⟨f,rfl,k,l,g,s,o,t,m⟩
  |succ i=>have q:=d (i:=i) e;exact q
def U9 (c:List (List D->R D)) (n:Nat) (a:aC->R D) (b:aC->R (List D)) (ρ:aC):R Fl:=(a ρ).bind λd=>match d with
 |.int k=>if 0<=k then (match c[k.toNat]? with
  |some F=>(b ρ).bind λds=>if ds.length=n then (F ds).bind λd=>.ok (.rt d) else .no
  |none=>.no) else .no
 |_=>.no
def CJ (P:BS c n j es Fs as) (T:lc j c.X.A) (f:Fr c.X.K H0 Hs0 la ρ σ H Hs) (S:H a=some (.lst (as.map V.ref))) (q:oP c.X.K c.cls c.E H0 Hs0 la D' (U9 Fs n gi gs ρ)) :
  TR c.X.K c.cls c.E ρ (gi ρ) σ H λy L=>WI c.X.K (.ref a) y L (XE c.X (Al c.X.prog c.X.w) c.E (Yv c.X.K c.cls c.E ρ (gs ρ)) σ D'.rt):=by
 refine sE f q λd v L s e1 N o r1=>?_;unfold U9 at q;rw [e1,bind_ok] at q;cases r1 with
 |int k =>
  simp only at q;by_cases B:0<=k
  ·rw [if_pos B] at q;split at q
   ·rename_i F O
    obtain ⟨g,M,k',Q,ps,U,u,Y,hj⟩:=Ld P O;have x:Gq (as.map V.ref) k=some (.ref g):=by
     have:=rV (xs:=as.map V.ref) (j:=k.toNat) (v:=V.ref g) (by rw [aX,M];rfl)
     rwa [eY B] at this
    refine ⟨a,as.map V.ref,k,.ref g,rfl,rfl,.of (N.all _ _ S),x,k',g,Q,ps,_,rfl,U,T.mono hj,u,Y,H0,Hs0,la,s,o,?_⟩;cases G:gs ρ with
    |no=>rw [G] at q;exact q.elim
    |ex y m=>rw [G] at q;exact λI b z=>q I b (o.st.trans z)
    |ok ds =>
     rw [G,bind_ok] at q;intro vs I b z r3;have p:=o.step z;by_cases t:ds.length=n
     ·rw [if_pos t] at q;show Rz _ _ _ _ (vs++[]) _ _ _;rw [bN];refine ⟨b,ds,p.st.sub,t,r3,?_⟩;cases h:F ds with
      |no=>rw [h] at q;exact q.elim
      |ex y m=>rw [h] at q;exact λl e i=>q l e (p.st.trans i)
      |ok d=>rw [h] at q;exact λv l e i r4=>q v l e (p.st.trans i) r4
     ·rw [if_neg t] at q;exact q.elim
   ·exact q.elim
  ·rw [if_neg B] at q;exact q.elim
 |list _ _=>exact q.elim
 |none=>exact q.elim
 |bool _=>exact q.elim
 |str _=>exact q.elim
 |tuple _ _=>exact q.elim
 |dictK _ _=>exact q.elim
 |dictT _ _ _=>exact q.elim
 |dictF _ _ _=>exact q.elim
end J
namespace J
open PySem L2
end J
namespace TS
open PySem PyProof.Rows
section
variable {prog:a_}{w:bz}{A:bB}{E:af->ai->Prop}{s:ai}{kd:lH}{rk:af->Nat}{L:List fH}
def Cp (prog:a_) (w:bz) (A:bB) (s:ai) (kd:lH) (rk:af->Nat) (L:List fH):Prop :=
 ∀ x∈L,∀ y∈L,∀ (Q:Bool->ai->Prop) (E:af->ai->Prop),Q (decide (rk x.1<rk y.1)) s->au (aA prog w) A (keyLt' kd x.1 y.1) Q E s
def Zx {x y:fH}{Q:Option Bool->jj->Prop}{st:jj} (a:Cp prog w A s kd rk L) (c:kindOf st=kd) (d:x∈L) (b:y∈L)
  (h:Q (some (decide (rk x.1<rk y.1))) st):wpS (aA prog w) A E s (lt' x y) Q st:=by
 rw [lt'_eq];refine dq (MC ?_);rw [c];exact dq (wpS_lift (ki (a x d y b _ _ ⟨rfl,fu h⟩)))
def OQ {a:Array fH}{i:Nat}{p:fH}{Q:fH->jj->Prop}{st:jj} (b:a[i]?=some p) (h:Q p st):wpS (aA prog w) A E s (elem' a i) Q st:=by
 rw [elem'_eq,b];exact fu h
variable {l:Bool}{k:fH}{a:Array fH}{b n h i:Nat}{g:Nat->Nat}{st:jj}
end
structure Mg {α:Type} (lt:α->α->Prop) (T out ra rb:List α):Prop where
 perm:(out++ra++rb).Perm T
 so:out.Pairwise lt
 sa:ra.Pairwise lt
 sb:rb.Pairwise lt
 oa:∀ x∈out,∀ y∈ra,lt x y
 ob:∀ x∈out,∀ y∈rb,lt x y
section
variable {α:Type}{lt:α->α->Prop}{T out ra rb p:List α}
end
section
variable {a:Array fH}{i k:Nat}{x:fH}
def VB (h:a[i]?=some x):x∈a.toList:=by
 rw [<- ck] at h;exact c8 h
def VC (h:i<a.size):∃ p,a[i]?=some p:=⟨a[i],e7 h⟩
end
def fF (b:af->Nat) (a:Array fH) (i:Nat):Nat:=(a[i]?.map λp=>b p.1).getD 0
section
variable {rk:af->Nat}{a:Array fH}{L:List fH}
def sj (h:a[i]?=some p):fF rk a i=rk p.1:=by unfold fF;rw [h];rfl
end
section
variable {prog:a_}{w:bz}{A:bB}{E:af->ai->Prop}{s:ai}{kd:lH}{rk:af->Nat}{L:List fH}{st st':jj}
def XF (rk:af->Nat) (x y:fH):Prop:=rk x.1<rk y.1
def V (rk:af->Nat) (a b out:Array fH) (d c:Nat):Prop:=Mg (XF rk) (a.toList++b.toList) out.toList (a.toList.drop d) (b.toList.drop c)
variable {a b out:Array fH}{ia ib k:Nat}{p q:fH}
def jH {d:Type}{c:Prop} [Decidable c] {f e:StateT jj Sem d}{Q:d->jj->Prop} (g:c->wpS (aA prog w) A E s f Q st) (i:¬ c->wpS (aA prog w) A E s e Q st):wpS (aA prog w) A E s (if c then f else e) Q st:=by
 by_cases h:c
 ·rw [if_pos h];exact g h
 ·rw [if_neg h];exact i h
def XG {c:Type}{m n:Nat}{f d:StateT jj Sem c}{Q:c->jj->Prop} (g:m=n->wpS (aA prog w) A E s f Q st) (i:m≠n->wpS (aA prog w) A E s d Q st):wpS (aA prog w) A E s (if (m==n)=true then f else d) Q st :=
 jH (λh=>g (beq_iff_eq.1 h)) λh=>i λe=>h (beq_iff_eq.2 e)
end
section
variable {prog:a_}{w:bz}{A:bB}{E:af->ai->Prop}{s:ai}{kd:lH}{rk:af->Nat}{L:List fH}{st st':jj}
def W (rk:af->Nat) (a b out:Array fH) (c d:Nat):Prop:=Mg (λx y=>XF rk y x) (a.toList++b.toList) out.toList (a.toList.take c).reverse (b.toList.take d).reverse
variable {a b out:Array fH}{n m k:Nat}{p q:fH}
end
def VD:Nat->Nat->StateT jj Sem (Option Nat):=sortPriv% PySem.Builtin.countRun
def Zy:Nat->Nat->Nat->StateT jj Sem Bool:=sortPriv% PySem.Builtin.binarySort
structure Bs (kd:lH) (L:List fH) (st:jj):Prop where
 kind:kindOf st=kd
 perm:(bQ st).toList.Perm L
 ok:failedOf st=none
def Up (b:af->Nat) (a:Array fH) (lo n:Nat):Prop:=∀ i j,lo<=i->i<j->j<lo+n->fF b a i<fF b a j
def Dn (b:af->Nat) (a:Array fH) (lo n:Nat):Prop:=∀ i j,lo<=i->i<j->j<lo+n->fF b a j<fF b a i
section
variable {prog:a_}{w:bz}{A:bB}{E:af->ai->Prop}{s:ai}{kd:lH}{rk:af->Nat}{L:List fH}{st:jj}{a:Array fH}
def Bs.size (B:Bs kd L st):(bQ st).size=L.length:=by rw [<- B.perm.length_eq];simp
def Bs.get (B:Bs kd L st) (c:i<L.length):∃ p,(bQ st)[i]?=some p/\p∈L:=by
 obtain ⟨p,b⟩:=VC (a:=bQ st) (i:=i) (by rw [B.size];exact c);exact ⟨p,b,B.perm.mem_iff.1 (VB b)⟩
def Bs.ne (B:Bs kd L st) (l:(L.map λp=>rk p.1).Nodup) (m:i<L.length) (k:j<L.length) (h:i≠j):fF rk (bQ st) i≠fF rk (bQ st) j:=by
 have c:=(B.perm.map λp=>rk p.1).nodup_iff.2 l;obtain ⟨p,f,_⟩:=B.get m;obtain ⟨q,g,_⟩:=B.get k;rw [sj f,sj g];intro e;have b:((bQ st).toList.map λp=>rk p.1)[i]?=some (rk p.1):=by rw [aX,ck,f];rfl
 have d:((bQ st).toList.map λp=>rk p.1)[j]?=some (rk p.1):=by rw [aX,ck,g,e];rfl
 obtain ⟨o,b⟩:=Ct.1 b;obtain ⟨n,d⟩:=Ct.1 d;exact h ((Qb c).1 (b.trans d.symm))
def Bs.put (B:Bs kd L st) (h:xs.Perm (bQ st)):Bs kd L (setArr st xs):=⟨B.kind,(Array.perm_iff_toList_perm.1 h).trans B.perm,B.ok⟩
def wQ (d:Cp prog w A s kd rk L) (B:Bs kd L st) (k:i<L.length) (e:j<L.length)
  (h:Q (some (decide (fF rk (bQ st) i<fF rk (bQ st) j))) st):wpS (aA prog w) A E s (ltAt' i j) Q st:=by
 obtain ⟨p,b,f⟩:=B.get k;obtain ⟨q,c,g⟩:=B.get e;rw [sj b,sj c] at h;rw [ltAt'_eq];exact dq (MC (dq (OQ b (dq (OQ c (Zx d B.kind f g h))))))
def mD (h:a[i]?=b[j]?):fF rk a i=fF rk b j:=by unfold fF;rw [h]
def xt (b:j<=a.size) (k:Nat):fF rk (GM a i j ((j-i) / 2)) k=if i<=k/\k<j then fF rk a (i+j-1-k) else fF rk a k:=by
 have e:=getElem?_mirror_all (i:=i) b k;by_cases h:i<=k/\k<j
 ·rw [if_pos h] at e ⊢;exact mD e
 ·rw [if_neg h] at e ⊢;exact mD e
def xu (hs:src<a.size) (c:d<=src) (k:Nat) :
  fF rk (bubble a src d) k=if k=src-d then fF rk a src else if src-d<k/\k<=src then fF rk a (k-1) else fF rk a k:=by
 have e:=getElem?_bubble hs d c k;by_cases h:k=src-d
 ·rw [if_pos h] at e ⊢;exact mD e
 ·rw [if_neg h] at e ⊢;by_cases b:src-d<k/\k<=src
  ·rw [if_pos b] at e ⊢;exact mD e
  ·rw [if_neg b] at e ⊢;exact mD e
def Up.more {lo n:Nat} (u:Up rk a lo n) (h:1<=n->fF rk a (lo+n-1)<fF rk a (lo+n)):Up rk a lo (n+1):=by
 intro i j b c d;rcases m_ j (lo+n) with h4|h4
 ·exact u i j b c h4
 ·obtain rfl:j=lo+n:=by omega
  rcases m_ i (lo+n-1) with h5|h5
  ·exact jq (u i (lo+n-1) b h5 (by omega)) (h (by omega))
  ·rw [show i=lo+n-1 by omega];exact h (by omega)
def Dn.more {lo n:Nat} (u:Dn rk a lo n) (h:1<=n->fF rk a (lo+n)<fF rk a (lo+n-1)):Dn rk a lo (n+1):=by
 intro i j b c d;rcases m_ j (lo+n) with h4|h4
 ·exact u i j b c h4
 ·obtain rfl:j=lo+n:=by omega
  rcases m_ i (lo+n-1) with h5|h5
  ·exact jq (h (by omega)) (u i (lo+n-1) b h5 (by omega))
  ·rw [show i=lo+n-1 by omega];exact h (by omega)
def Kp (lo:Nat) (a b:Array fH):Prop:=∀ i,i<lo->b[i]?=a[i]?
def RX {lo r:Nat}{Q:Option Nat->jj->Prop} (y:Cp prog w A s kd rk L) (O:(L.map λp=>rk p.1).Nodup) (B:Bs kd L st) (o:1<=r) (X:lo+r<=L.length)
  (h:∀ n b,Bs kd L b->eB b=eB st->Kp lo (bQ st) (bQ b)->1<=n->n<=r->Up rk (bQ b) lo n->Q (some n) b) :
  wpS (aA prog w) A E s (VD lo r) Q st:=by
 refine dq (sX (lI (I:=λx c b=>b=st/\c=(none,x)/\Up rk (bQ st) lo x)
  (Q:=λc b=>b=st/\∃ n,c=(none,n)/\1<=n/\n<=r/\Up rk (bQ st) lo n/\(n=r\/fF rk (bQ st) (lo+n)<fF rk (bQ st) (lo+n-1))) ?_ ?_ ⟨rfl,rfl,λi j o T S=>by omega⟩) ?_)
 ·rintro x c b l z ⟨rfl,rfl,u⟩;refine dq (wQ (i:=lo+x) (j:=lo+x-1) y B (by omega) (by omega) ?_);by_cases k:fF rk (bQ b) (lo+x)<fF rk (bQ b) (lo+x-1)
  ·exact jH (λ_=>fu ⟨rfl,x,rfl,l,by omega,u,.inr k⟩) λh=>absurd (by simpa using k) h
  ·refine jH (λh=>absurd (by simpa using h) k) λ_=>fu ⟨rfl,rfl,u.more λ_=>?_⟩;have:=B.ne O (i:=lo+x) (j:=lo+x-1) (by omega) (by omega) (by omega);omega
 ·rintro c b ⟨rfl,rfl,u⟩;rw [show max 1 r=r by omega] at u ⊢;exact ⟨rfl,r,rfl,o,aw _,u,.inl rfl⟩
 rintro c b ⟨rfl,n,rfl,t,v,u,e⟩;refine XG (m:=n) (n:=r) (λe=>fu (h n b B rfl (λ_ _=>rfl) t v u)) λne=>?_;have e:=e.resolve_left ne;extract_lets U;refine jH (λH=>?_) λH=>?_
 ·refine dq (wQ (i:=lo) (j:=lo+n-1) y B (by omega) (by omega) ?_);have k:fF rk (bQ b) lo<fF rk (bQ b) (lo+n-1):=u lo (lo+n-1) (aw _) (by have:n > 1:=H;omega) (by have:n > 1:=H;omega);exact jH (λ_=>fu (h n b B rfl (λ_ _=>rfl) t v u)) λh=>absurd (by simpa using k) h
 obtain rfl:n=1:=by have:¬ n > 1:=H;omega
 refine dq (wpS_lift (dH ⟨rfl,?_⟩));refine dq (sX (lI (I:=λx c g=>g=b/\c=(none,x,0)/\Dn rk (bQ b) lo x)
  (Q:=λc g=>g=b/\∃ n,c=(none,n,0)/\1<=n/\n<=r/\Dn rk (bQ b) lo n) ?_ ?_ ⟨rfl,rfl,Dn.more (n:=1) (λi j o T S=>by omega) λ_=>e⟩) ?_)
 ·rintro x c g l z ⟨rfl,rfl,u⟩;refine dq (wQ (i:=lo+x) (j:=lo+x-1) y B (by omega) (by omega) ?_);by_cases k:fF rk (bQ g) (lo+x)<fF rk (bQ g) (lo+x-1)
  ·refine jH (λ_=>?_) λh=>absurd (by simpa using k) h;exact jH (λh=>absurd h (bf 0)) λ_=>fu ⟨rfl,rfl,u.more λ_=>k⟩
  ·refine jH (λh=>absurd (by simpa using h) k) λ_=>?_;refine dq (wQ (i:=lo+x-1) (j:=lo+x) y B (by omega) (by omega) ?_);have:=B.ne O (i:=lo+x) (j:=lo+x-1) (by omega) (by omega) (by omega);have N:fF rk (bQ g) (lo+x-1)<fF rk (bQ g) (lo+x):=by omega
   exact jH (λ_=>fu ⟨rfl,x,rfl,by omega,by omega,u⟩) λh=>absurd (by simpa using N) h
 ·rintro c g ⟨rfl,rfl,u⟩;rw [show max (1+1) r=r by omega] at u ⊢;exact ⟨rfl,r,rfl,o,aw _,u⟩
 rintro c g ⟨rfl,n,rfl,t,v,d⟩;refine jH (λh=>absurd h (bf 0)) λ_=>?_;refine dq (wpS_modify (f:=λs=>setArr s (GM (bQ s) lo (lo+n) ((lo+n-lo) / 2))) ?_);have hsz:lo+n<=(bQ g).size:=by rw [B.size];omega
 have G:Bs kd L (setArr g (GM (bQ g) lo (lo+n) ((lo+n-lo) / 2))):=B.put (mirror_perm _ _ _ _);have kp:Kp lo (bQ g) (GM (bQ g) lo (lo+n) ((lo+n-lo) / 2)):=λi Y=>by
  rw [getElem?_mirror_all hsz,if_neg (by omega)]
 have P:Up rk (GM (bQ g) lo (lo+n) ((lo+n-lo) / 2)) lo n:=by
  intro i j o T S;rw [xt hsz,xt hsz,if_pos (by omega),if_pos (by omega)];exact d _ _ (by omega) (by omega) (by omega)
 generalize q:setArr g (GM (bQ g) lo (lo+n) ((lo+n-lo) / 2))=st3 at G;have M:bQ st3=GM (bQ g) lo (lo+n) ((lo+n-lo) / 2):=by rw [<- q]
 have K:eB st3=eB g:=by rw [<- q]
 rw [<- M] at kp P;refine dq (sX (lI (I:=λx c b=>b=st3/\c=(none,x)/\Up rk (bQ st3) lo x)
  (Q:=λc b=>b=st3/\∃ n,c=(none,n)/\1<=n/\n<=r/\Up rk (bQ st3) lo n) ?_ ?_ ⟨rfl,rfl,P⟩) ?_)
 ·rintro x c b l z ⟨rfl,rfl,u⟩;have l:n<=x:=l;refine dq (wQ (i:=lo+x) (j:=lo+x-1) y G (by omega) (by omega) ?_);by_cases k:fF rk (bQ b) (lo+x)<fF rk (bQ b) (lo+x-1)
  ·exact jH (λ_=>fu ⟨rfl,x,rfl,by omega,by omega,u⟩) λh=>absurd (by simpa using k) h
  ·refine jH (λh=>absurd (by simpa using h) k) λ_=>fu ⟨rfl,rfl,u.more λ_=>?_⟩;have:=G.ne O (i:=lo+x) (j:=lo+x-1) (by omega) (by omega) (by omega);omega
 ·rintro c b ⟨rfl,rfl,u⟩;rw [show max n r=r by omega] at u ⊢;exact ⟨rfl,r,rfl,o,aw _,u⟩
 rintro c b ⟨rfl,n,rfl,t,v,u⟩;exact fu (h n b G K kp t v u)
def XH {lo n m:Nat}{Q:Bool->jj->Prop} (O:Cp prog w A s kd rk L) (N:(L.map λp=>rk p.1).Nodup) (B:Bs kd L st) (S:lo+n<=L.length) (T:1<=m) (K:m<=n) (u:Up rk (bQ st) lo m)
  (h:∀ b,Bs kd L b->eB b=eB st->Kp lo (bQ st) (bQ b)->Up rk (bQ b) lo n->Q true b) :
  wpS (aA prog w) A E s (Zy lo n m) Q st:=by
 refine dq (sX (lI (I:=λk c b=>c=(none,())/\Bs kd L b/\eB b=eB st/\Kp lo (bQ st) (bQ b)/\Up rk (bQ b) lo k)
  (Q:=λc b=>c=(none,())/\Bs kd L b/\eB b=eB st/\Kp lo (bQ st) (bQ b)/\Up rk (bQ b) lo n) ?step ?fin ⟨rfl,B,rfl,λ_ _=>rfl,by rw [show max m 1=m by omega];exact u⟩) ?post)
 case post =>
  rintro c b ⟨rfl,g,q,kp,u⟩;exact fu (h b g q kp u)
 case fin =>
  rintro c b ⟨rfl,g,q,kp,u⟩;rw [show max (max m 1) n=n by omega] at u;exact ⟨rfl,g,q,kp,u⟩
 case step =>
  rintro k c d P M ⟨rfl,g,q,kp,u⟩;refine dq (sX (lI (I:=λx c e=>e=d/\∃ l r,c=(none,l,r)/\l<=r/\r<=k/\r-l<=k-x /\
    (∀ i,i<l->fF rk (bQ d) (lo+i)<fF rk (bQ d) (lo+k))/\(∀ i,r<=i->i<k->fF rk (bQ d) (lo+k)<fF rk (bQ d) (lo+i)))
   (Q:=λc e=>e=d/\∃ l r,c=(none,l,r)/\l<=k /\
    (∀ i,i<l->fF rk (bQ d) (lo+i)<fF rk (bQ d) (lo+k))/\(∀ i,l<=i->i<k->fF rk (bQ d) (lo+k)<fF rk (bQ d) (lo+i))) ?_ ?_ ⟨rfl,0,k,rfl,by omega,by omega,by omega,λi G=>by omega,λi z H=>by omega⟩) ?_)
  ·rintro x c b - U ⟨rfl,l,r,rfl,a1,a2,a3,o,a5⟩;refine jH (λv=>?_) λv=>?_
   ·have v:l ≥ r:=v;obtain rfl:l=r:=by omega
    exact fu ⟨rfl,l,l,rfl,a2,o,a5⟩
   have v:¬ l ≥ r:=v;refine dq (wQ (i:=lo+k) (j:=lo+(l+r) / 2) O g (by omega) (by omega) ?_);by_cases y:fF rk (bQ b) (lo+k)<fF rk (bQ b) (lo+(l+r) / 2)
   ·refine jH (λ_=>fu ⟨rfl,l,(l+r) / 2,rfl,by omega,by omega,by omega,o,λi z H=>?_⟩) λh=>absurd (by simpa using y) h;rcases m_ ((l+r) / 2) i with h3|h3
    ·exact jq y (u _ _ (by omega) (by omega) (by omega))
    ·rw [show i=(l+r) / 2 by omega];exact y
   ·refine jH (λh=>absurd (by simpa using h) y) λ_=>fu ⟨rfl,(l+r) / 2+1,r,rfl,by omega,by omega,by omega,λi z=>?_,a5⟩;have ne:=g.ne N (i:=lo+k) (j:=lo+(l+r) / 2) (by omega) (by omega) (by omega);have t:fF rk (bQ b) (lo+(l+r) / 2)<fF rk (bQ b) (lo+k):=by omega
    rcases m_ i ((l+r) / 2) with h3|h3
    ·exact jq (u _ _ (by omega) (by omega) (by omega)) t
    ·rw [show i=(l+r) / 2 by omega];exact t
  ·rintro c b ⟨rfl,l,r,rfl,a1,a2,a3,o,a5⟩;obtain rfl:l=r:=by omega
   exact ⟨rfl,l,l,rfl,a2,o,a5⟩
  ·rintro c b ⟨rfl,l,r,rfl,a2,o,a5⟩;refine dq (wpS_modify (f:=λs=>setArr s (bubble (bQ s) (lo+k) (lo+k-(lo+l)))) (fu ⟨rfl,g.put (bubble_perm _ _ _),q,?_,?_⟩))
   ·intro i G;rw [<- kp i G];show (bubble (bQ b) (lo+k) (lo+k-(lo+l)))[i]?=_;rw [getElem?_bubble (by rw [g.size];omega) _ (by omega),if_neg (by omega),if_neg (by omega)]
   ·intro i j z H h3;show fF rk (bubble (bQ b) (lo+k) (lo+k-(lo+l))) i<fF rk (bubble (bQ b) (lo+k) (lo+k-(lo+l))) j;have hs:lo+k<(bQ b).size:=by rw [g.size];omega
    rw [xu hs (by omega),xu hs (by omega),show lo+k-(lo+k-(lo+l))=lo+l by omega]
    repeat' split
    all_goals first
     |(exfalso;omega)
     |exact u _ _ (by omega) (by omega) (by omega)
     |(have:=a5 (j-1-lo) (by omega) (by omega);rwa [show lo+(j-1-lo)=j-1 by omega] at this)
     |(have:=o (i-lo) (by omega);rwa [show lo+(i-lo)=i by omega] at this)
end
section
variable {prog:a_}{w:bz}{A:bB}{E:af->ai->Prop}{s:ai}{kd:lH}{rk:af->Nat}{L:List fH}{st:jj}{a:Array fH}
end
section
variable {prog:a_}{w:bz}{A:bB}{E:af->ai->Prop}{s:ai}{kd:lH}{rk:af->Nat}{L:List fH}{st:jj}{a:Array fH}
end
end TS
namespace TS
open PySem PyProof.Rows PySem.W
def Ss:List af->List Str->Prop
 |[],[]=>True
 |v::a,x::xs=>(∃ t,v=.str x t)/\Ss a xs
 |_,_=>False
def tl:List Str->List Str->Bool
 |[],[]=>false
 |[],_::_=>true
 |_::_,[]=>false
 |x::xs,y::ys=>if x=y then tl xs ys else decide (x.cps.toList<y.cps.toList)
def Tk (h:bD) (v:af) (x:List Str):Prop:=∃ a o b n,v=.ref a/\h.get? a=some o/\o.cls=.type "tuple"/\o.data=.seq b n/\Ss b.toList x
section
variable {prog:a_}{w:bz}{A:bB}{E:af->ai->Prop}{s:ai}
end
def VE {x y:Str} (h:x.cps.toList=y.cps.toList):x=y:=by
 cases x;cases y;exact congrArg _ (xO.1 h)
def BU {c:Type}{p q:c->Bool}:∀ {l:List c}{a:c},(∀ z∈l,p z=true->q z=true)->a∈l->p a=false->q a=true->l.countP p<l.countP q
 |b::l,a,h,ha,pa,f=>by
  rw [Qk,Qk];have mono:l.countP p<=l.countP q:=List.countP_mono_left λz e=>h z (ag _ e);rcases aQ.1 ha with rfl|ha
  ·rw [if_neg (by simp [pa]),if_pos f];omega
  ·have:=BU (λz e=>h z (ag _ e)) ha pa f;have g:=h b (ak ..);cases d:p b with
   |false=>simp;split<;>omega
   |true=>rw [g d];simp;omega
def AS (xs:List (List Str)) (x:List Str):Nat:=xs.countP λy=>tl y x
open Classical in
noncomputable def HB (h:bD) (xs:List (List Str)) (v:af):Nat:=if e:∃ x,Tk h v x then AS xs e.choose else 0
def Kd (kd:lH):Prop:=kd=tuples' true\/kd=general'\/kd=oneType'
def OR {b:List af}{T:af}{Q:Option af->ai->Prop} (e:0<b.length) (f:∀ v∈b,Looks (aA prog w) s.heap (typeOf v) T) (c:(T==T)=true) (q:Q (some T) s):au (aA prog w) A (oneTypeOnly' b.toArray) Q E s:=by
 match b,e with
 |v::b,_ =>
  rw [oneTypeOnly'_eq,MD,map_eq_pure_bind];refine a8 (a8 (kas_mapM (r:=T) _ (λv g i d=>(f v g).here d) (a9 ?_)));have a:((nr (λ_=>T) (v::b)).toArray.all λx=>x==T)=true:=by
   simp only [List.all_toArray,kA,bA];intro _ _;exact c
  have h:(nr (λ_=>T) (v::b)).toArray[0]?=some T:=by simp
  rw [h];simp only [a,if_true];exact a9 q
def RY {a:List af}{xs:List fH} (p:xs.Perm (a.zip a)):(xs.map (·.2)).Perm a/\xs.map (·.1)=xs.map (·.2):=by
 refine ⟨?_,cX λc b=>(AE (p.mem_iff.1 b)).1⟩;have:=p.map (·.2)
 rwa [Ql (aw _)] at this
def XI (u:Up rk a 0 a.size):a.toList.Pairwise (XF rk):=by
 rw [List.pairwise_iff_getElem];intro i j f e c;have b:i<a.size:=by simpa using f
 have d:j<a.size:=by simpa using e
 have:=u i j (cx _) c (by omega);rw [sj (e7 b),sj (e7 d)] at this;exact this
end TS
namespace L2
open PySem PySem.Spec PyProof.Rows PySem.W
def BV:∀ b:List ao,dY (b.map V.ref) (b.map bv)
 |[]=>.nil
 |a::b=>.cons rfl (BV b)
def Le (p:us.Perm (as.map bv)):∃ bs:List ao,us=bs.map bv/\bs.Perm as:=by
 refine ⟨us.map λv=>match v with | .ref a=>a|_=>0,?_,?_⟩
 ·rw [cm];refine (oJ us).symm.trans (cX λv b=>?_);obtain ⟨a,_,rfl⟩:=cC.1 (p.mem_iff.1 b);rfl
 ·have:=p.map λv=>match v with | .ref a=>a|_=>(0:ao)
  rw [cm] at this;refine this.trans (List.Perm.of_eq ?_);exact (cX λa _=>rfl).trans (oJ as)
end L2
namespace J
open PySem L2
end J
namespace L2
open PySem PySem.Spec PyProof.Rows PySem.W
end L2
namespace J
open PySem L2
end J
namespace J
open PySem PySem.Spec PyProof.Rows L2
end J
namespace L2
open PySem PySem.Spec PyProof.Rows
end L2
namespace J
open PySem L2
end J
namespace L2
open PySem PySem.Spec PyProof.Rows
section
variable {prog:a_}{w:bz}{A:bB}{R:qK->ai->Prop}{s:ai}
end
def bL.swap {X:Cx}{pl:List (ao×Obj)}{σ:St}{H:Hp}{s:ai}{D:ao}{o d:Obj}{h':bD} (I:bL X ((D,o)::pl) σ H s) (u:bC D s.heap h') (n:h'.get? D=some d) (l:∀ v,d.data≠.cell v) (i:D∈X.ex\/X.s₀.heap.objs.size<=D) (q:∀ x c,X.env.cells.lookup x=some c->c≠D) (k:∀ p∈X.pn++pl,p.1≠D):bL X ((D,d)::pl) σ H { s with heap:=h' }:=by
 obtain ⟨w,h,f,j,_⟩:=I.pin (D,o) (al _ ak)
 have t:bL X pl σ H s:=I.pins_of λp a=>I.pin p (al _ (ag _ a))
 have g:bL X pl σ H { s with heap:=h',toks:=s.toks }:=t.turned (it:=D) (λb o m e=>u.extBut b o m e) h f i q k
 refine g.pins_of λp a=>?_
 rcases aQ.1 a with z|a
 ·rw [z];exact ⟨n,h,f,j,l⟩
 ·exact g.pin p (al _ a)
section
variable {prog:a_}{w:bz}{A:bB}{R:qK->ai->Prop}{s:ai}
def XJ {elt tg iter:bp}{ifs:List bp}{gens:List yh}{scope:eX}{pos:Pos}{d:Nat}{it acc:af}{env:Env}{bd:Sem Unit}
  (hT:sQ (.SetComp elt gens scope pos) d it acc env=(do
   ku iter.pos
   match <- gn it with
   |none=>pure (.done .next)
   |some v =>
    dE tg it v
    iV tg env v
    let mut ok:=true
    for c in ifs do
     if ok then ok <- ml c env (dn c env)
    if ok then bd
    again (.compLoop (.SetComp elt gens scope pos) d it acc env))) (I:Nat->ai->Prop)
  (turn:∀ n s,I n s->au (aA prog w) A (gn it) (λr s₁=>match r with
   |none=>R (.ok .next) s₁
   |some v=>au (aA prog w) A (dE tg it v) (λ_ s₁'=>au (aA prog w) A (iV tg env v) (λ_ s₂ =>
     au (aA prog w) A (forIn ifs true λc r=>if r=true then do let ok <- ml c env (dn c env);pure (cR ok) else pure (cR r)) (λok s₃ =>
      if ok=true then au (aA prog w) A bd (λ_ s₅=>∃ m,m<n/\I m s₅) (λ_ _=>False) s₃
      else ∃ m,m<n/\I m s₃) (λ_ _=>False) s₂) (λ_ _=>False) s₁') (λ_ _=>False) s₁) (λ_ _=>False) s)
  (n:Nat) (h:I n s) :
  dZ (aA prog w) A (.compLoop (.SetComp elt gens scope pos) d it acc env) R s:=by
 refine tY rfl I (λn s hI=>?_) n h
 show au _ A ((sQ (.SetComp elt gens scope pos) d it acc env).onRaise (λx=>do sR x env;nU x)) _ _ s
 refine wl ?_
 rw [hT]
 refine a8 (cU (a8 (nf (aT (turn n s hI) (λr s₁ h₁=>?_) λ_ _ h'=>h'))))
 cases r with
 |none=>exact a9 h₁
 |some v =>
  refine a8 (nf (aT h₁ (λ_ s₁' h₁'=>?_) λ_ _ h'=>h'))
  refine a8 (nf (aT h₁' (λ_ s₂ h₂=>a8 (nf (aT h₂ (λok s₃ h₃=>?_) λ_ _ h'=>h'))) λ_ _ h'=>h'))
  cases ok with
  |false=>exact a9 ⟨rfl,h₃⟩
  |true=>exact a8 (nf (aT h₃ (λ_ s₅ h₅=>a9 ⟨rfl,h₅⟩) λ_ _ h'=>h'))
def RZ {elt tg iter:bp}{ifs:List bp}{g1:yh}{scope:eX}{pos:Pos}{it acc:af}{env:Env}
  (h0:dZ (aA prog w) A (.compLoop (.SetComp elt [g1,⟨tg,iter,ifs,0⟩] scope pos) 1 it acc env) R s)
  (h:au (aA prog w) A (qI it) (λit' s'=>dZ (aA prog w) A (.compLoop (.SetComp elt [g1,⟨tg,iter,ifs,0⟩] scope pos) 1 it' acc env) R s') (notedBy (aA prog w) A env λx s'=>R (.error x) s') s) :
  dZ (aA prog w) A (.compStart (.SetComp elt [g1,⟨tg,iter,ifs,0⟩] scope pos) 1 it acc env) R s:=by
 refine uS ?_
 show au _ _ ((compStart (.SetComp elt [g1,⟨tg,iter,ifs,0⟩] scope pos) 1 it acc env).onRaise (λx=>do sR x env;ku theWindowsPlace)) _ _ s
 refine wpAny_notedAt ?_
 unfold compStart
 show au _ _ (ask >>= _) _ _ s
 refine a8 (gH (wpAny_ite ?_))
 split
 ·first
   |exact a8 (a9 (a9 (kg rfl h0)))
   |exact a9 (kg rfl h0)
 ·first
   |exact a8 (dH (a8 (cU (a8 (aT h (λit' s' h'=>a9 (kg rfl h')) λ_ _ x=>x)))))
   |(refine a8 (dH ?_);show au _ _ (ku iter.pos >>= _) _ _ s;exact a8 (cU (a8 (aT h (λit' s' h'=>a9 (kg rfl h')) λ_ _ x=>x))))
end
inductive ZA (X:Cx) (pl:List (ao×Obj)) (D:ao) (σ:St) (fp:List ao) (tn:Nat->bD->Prop) (W:Nat->Nat->List Str->Hp->Prop) (n:Nat) (s':ai):Prop
 |mk (i:Nat) (acc:List Str) (oD:Obj) (H':Hp) (I:bL X ((D,oD)::pl) σ H' s') (S:jV X.w s'.heap D acc) (t:tn i s'.heap) (f:∀ b∈fp,H' b=none) (w:W i n acc H'):ZA X pl D σ fp tn W n s'
inductive ZB (X:Cx) (pl:List (ao×Obj)) (D:ao) (σ:St) (Z:List Str->Hp->Prop) (r:qK) (s':ai):Prop
 |mk (acc:List Str) (oD:Obj) (H':Hp) (h0:r=.ok .next) (I:bL X ((D,oD)::pl) σ H' s') (S:jV X.w s'.heap D acc) (z:Z acc H'):ZB X pl D σ Z r s'
def Lf {X:Cx}{elt tg iter:bp}{ifs:List bp}{g1:yh}{scope:eX}{pos:Pos}{tt:TT}{te:TE}{nt:Nat}{pl:List (ao×Obj)}{D:ao}{σ:St}{it:ao}{fp:List ao}{tn:Nat->bD->Prop}{J:It}{Z:List Str->Hp->Prop}{W:Nat->Nat->List Str->Hp->Prop}{s:ai}
  (hc:X.calm=true) (hxe:X.xe=λ_ _=>False) (pg:PG X tg (oK nt)) (pt:E4 X ifs tt) (pe:PE X elt te) (hσ:σ[nt]?=some none) (T:wv X.prog X.w X.K tg J fp it tn)
  (ok:∀ b∈fp,b≠X.env.locals/\b∉X.fs/\(b∈X.ex\/X.s₀.heap.objs.size<=b)/\(∀ x c,X.env.cells.lookup x=some c->c≠b)/\(∀ p∈X.pn++pl,p.1≠b)/\D≠b)
  (h1:D∈X.ex\/X.s₀.heap.objs.size<=D) (h2:∀ x c,X.env.cells.lookup x=some c->c≠D) (h3:∀ p∈X.pn++pl,p.1≠D)
  (turn:∀ i m acc H,W i m acc H->(J.stop i H/\Z acc H)\/(J.go i H/\acc.length+1<i0/\∀ x H',J.yld i H x H'->tt (σ.set nt (some x)) H' λb H3 =>
   if b=true then te (σ.set nt (some x)) H3 λy H4=>∃ z m',y=.str z/\m'<m/\W (i+1) m' (if z∈acc then acc else acc++[z]) H4 else ∃ m',m'<m/\W (i+1) m' acc H3))
  (n:Nat) (st:ZA X pl D σ fp tn W n s) :
  dZ (aA X.prog X.w) X.A (.compLoop (.SetComp elt [g1,⟨tg,iter,ifs,0⟩] scope pos) 1 (.ref it) (.ref D) X.env) (ZB X pl D σ Z) s:=by
 have stat:∀ {H':Hp}{o:Obj},(∀ b∈fp,H' b=none)->∀ b∈fp,l8 X ((D,o)::pl) H' b:=λhn b hb=>by
  obtain ⟨a1,a2,a3,a4,a5,a6⟩:=ok b hb
  refine ⟨hn b hb,a1,a2,a3,a4,λp hp=>?_⟩
  rcases eu.1 hp with z|z
  ·exact a5 p (aN _ z)
  ·rcases aQ.1 z with y|y
   ·rw [y];exact a6
   ·exact a5 p (al _ y)
 refine XJ (tg:=tg) (iter:=iter) (ifs:=ifs) (bd:=do let v <- dn elt X.env;ku elt.pos;let _ <- call (.builtin "set.add") [.ref D,v]) rfl (ZA X pl D σ fp tn W) ?_ n st
 rintro n s3 ⟨i,acc,oD,H3,J3,hS3,st3,fr3,w3⟩
 have stS:∀ {s8:ai},s8.heap.get? D=some oD->jV X.w s8.heap D acc:=λ{s8} e=>hS3.keep λo eo=>by
  have q:=(J3.pin (D,oD) (al _ ak)).1
  rw [q] at eo;cases eo;exact e
 rcases turn i n acc H3 w3 with ⟨stop,z⟩|⟨go,hlt,step⟩
 ·refine eK (T.done X rfl rfl rfl hc i _ s3 _ H3 _ J3 (stat fr3) st3 stop) λr s4 h_0=>?_
  obtain ⟨hr,I4⟩:=h_0
  subst hr
  exact ⟨acc,oD,H3,rfl,I4,stS (I4.pin (D,oD) (al _ ak)).1,z⟩
 ·refine eK (T.item X rfl rfl rfl hc i _ s3 _ H3 _ J3 (stat fr3) st3 go) λr s4 h_1=>?_
  obtain ⟨u,hr,h4⟩:=h_1
  subst hr
  refine eK h4 λ_ s5 h_2=>?_
  obtain ⟨x,H5,I5,r5,y5,st5,fr5⟩:=h_2
  have I5':=I5.pinned (stat fr5) (T.obj _ _ st5)
  have low:oK nt x σ H5 (λσ2 H2=>σ2=σ.set nt (some x)/\tt (σ.set nt (some x)) H2 λb H3 =>
   if b=true then te (σ.set nt (some x)) H3 λy H4=>∃ z m',y=.str z/\m'<n/\W (i+1) m' (if z∈acc then acc else acc++[z]) H4 else ∃ m',m'<n/\W (i+1) m' acc H3):=⟨rfl,step x H5 y5⟩
  have q:=pg _ s5 _ H5 x u _ I5' r5 low
  rw [hxe] at q
  refine eK q λ_ s6 h_3=>?_
  obtain ⟨σ6,H6,I6,e6,q6⟩:=h_3
  subst e6
  have hw:∀ (j:Nat) v,σ[j]?=some (some v)->(σ.set nt (some x))[j]?=some (some v):=λj v e=>by
   by_cases hj:nt=j
   ·rw [<- hj,hσ] at e;cases e
   ·rw [ar hj];exact e
  have q:=pt _ s6 _ H6 _ I6 q6
  rw [hxe] at q
  refine eK q λb s7 h_4=>?_
  obtain ⟨H7,I7,q7⟩:=h_4
  have fpk:∀ {s8:ai}{σ8:St}{H8:Hp},bL X (((D,oD)::pl)++lJ fp s5.heap) σ8 H8 s8->tn (i+1) s8.heap/\∀ b∈fp,H8 b=none:=λ{s8 σ8 H8} I8=>by
   refine ⟨T.keep _ _ _ st5 λb hb o e=>(I8.pin (b,o) (al _ (al _ (eL hb e)))).1,λb hb=>?_⟩
   obtain ⟨o,e,d⟩:=T.obj _ _ st5 b hb
   exact (I8.pin (b,o) (al _ (al _ (eL hb e)))).2.1
  cases b with
  |false =>
   simp only [ba,if_false] at q7 ⊢
   obtain ⟨m',hm,w7⟩:=q7
   obtain ⟨t7,f7⟩:=fpk I7
   have I7':=(I7.weak (σ':=σ) (by simp) hw).unpinned
   exact ⟨m',hm,i+1,acc,oD,H7,I7',stS (I7'.pin (D,oD) (al _ ak)).1,t7,f7,w7⟩
  |true =>
   simp only [if_true] at q7 ⊢
   have q:=pe _ s7 _ H7 _ I7 q7
   rw [hxe] at q
   refine a8 (eK q λu8 s8 h_5=>?_)
   obtain ⟨y,H8,I8,r8,z,m',hy,hm,w8⟩:=h_5
   obtain ⟨t8,f8⟩:=fpk I8
   have I8':=(I8.weak (σ':=σ) (by simp) hw).unpinned
   obtain ⟨pD,pN,_⟩:=I8'.pin (D,oD) (al _ ak)
   subst hy
   obtain ⟨tz,rfl⟩:=r8
   refine a8 (cU (a8 ?_))
   refine tP (stS pD) hlt λh9 tk9 sb9 hS9=>?_
   obtain ⟨es9,ep9,t9,is9,pm9⟩:=id hS9
   have e9':=is9.at_
   exact a9 ⟨m',hm,i+1,_,{ cls:=.type "set",dict:=none,data:=.set es9 ep9 t9 },H8,(I8'.swap sb9 e9' (λ_ z=>nomatch z) h1 h2 h3).tok _,hS9,T.keep _ _ _ t8 λb hb o e=>sb9.extBut b o (λz=>(ok b hb).2.2.2.2.2 z.symm) e,f8,w8⟩
section
variable {prog:a_}{w:bz}{A:bB}{R:qK->ai->Prop}{s:ai}
def VF {elt tg iter:bp}{ifs:List bp}{gens:List yh}{scope:eX}{pos:Pos}{d:Nat}{it acc:af}{env:Env}{bk:Sem Fin}
  (hT:sQ (.SetComp elt gens scope pos) d it acc env=(do
   ku iter.pos
   match <- gn it with
   |none=>pure (.done .next)
   |some v =>
    dE tg it v
    iV tg env v
    let mut ok:=true
    for c in ifs do
     if ok then ok <- ml c env (dn c env)
    if ok then bk else again (.compLoop (.SetComp elt gens scope pos) d it acc env))) (I:Nat->ai->Prop)
  (turn:∀ n s,I n s->au (aA prog w) A (gn it) (λr s₁=>match r with
   |none=>R (.ok .next) s₁
   |some v=>au (aA prog w) A (dE tg it v) (λ_ s₁'=>au (aA prog w) A (iV tg env v) (λ_ s₂ =>
     au (aA prog w) A (forIn ifs true λc r=>if r=true then do let ok <- ml c env (dn c env);pure (cR ok) else pure (cR r)) (λok s₃ =>
      if ok=true then au (aA prog w) A bk (λf s₅=>f=.again (.compLoop (.SetComp elt gens scope pos) d it acc env)/\∃ m,m<n/\I m s₅) (λ_ _=>False) s₃
      else ∃ m,m<n/\I m s₃) (λ_ _=>False) s₂) (λ_ _=>False) s₁') (λ_ _=>False) s₁) (λ_ _=>False) s)
  (n:Nat) (h:I n s) :
  dZ (aA prog w) A (.compLoop (.SetComp elt gens scope pos) d it acc env) R s:=by
 refine tY rfl I (λn s hI=>?_) n h
 show au _ A ((sQ (.SetComp elt gens scope pos) d it acc env).onRaise (λx=>do sR x env;nU x)) _ _ s
 refine wl ?_
 rw [hT]
 refine a8 (cU (a8 (nf (aT (turn n s hI) (λr s₁ h₁=>?_) λ_ _ h'=>h'))))
 cases r with
 |none=>exact a9 h₁
 |some v =>
  refine a8 (nf (aT h₁ (λ_ s₁' h₁'=>?_) λ_ _ h'=>h'))
  refine a8 (nf (aT h₁' (λ_ s₂ h₂=>a8 (nf (aT h₂ (λok s₃ h₃=>?_) λ_ _ h'=>h'))) λ_ _ h'=>h'))
  cases ok with
  |false=>exact a9 ⟨rfl,h₃⟩
  |true =>
   refine nf (aT h₃ (λf s₅ h₅=>?_) λ_ _ h'=>h')
   obtain ⟨e,h₅⟩:=h₅
   subst e
   exact ⟨rfl,h₅⟩
end
inductive Yy (nt:Nat) (tt:TT) (te:TE) (σ:St) (acc:List Str) (Z:List Str->Hp->Prop) (J:It) (H1:Hp):Prop
 |mk (W:Nat->Nat->List Str->Hp->Prop) (w0:∃ m,W 0 m acc H1) (turn:∀ i m acc H,W i m acc H->(J.stop i H/\Z acc H)\/(J.go i H/\acc.length+1<i0/\∀ x H',J.yld i H x H'->tt (σ.set nt (some x)) H' λb H3 =>
   if b=true then te (σ.set nt (some x)) H3 λy H4=>∃ z m',y=.str z/\m'<m/\W (i+1) m' (if z∈acc then acc else acc++[z]) H4 else ∃ m',m'<m/\W (i+1) m' acc H3)):Yy nt tt te σ acc Z J H1
def HC {X:Cx}{elt tg iter tg2 iter2:bp}{ifs ifs2:List bp}{wi2:TI}{tt2:TT}{scope:eX}{pos:Pos}{g:TG}{tt:TT}{te:TE}{N':List Str}{nt:Nat}{ix:List Nat}
  (hc:X.calm=true) (S:jk X scope N' (nt+1) ix) (lo:Ml nt g) (hs2:∀ (env:Env) x,bU iter2 env x=pure x)
  (hb:∀ cl C s₀ H₀ ex pn,PG (bu X N' scope cl C s₀ H₀ ex pn) tg g/\E4 (bu X N' scope cl C s₀ H₀ ex pn) ifs tt/\PI (bu X N' scope cl C s₀ H₀ ex pn) tg2 iter2 wi2/\PG (bu X N' scope cl C s₀ H₀ ex pn) tg2 (oK nt)/\E4 (bu X N' scope cl C s₀ H₀ ex pn) ifs2 tt2/\PE (bu X N' scope cl C s₀ H₀ ex pn) elt te)
  {cl:List (Str×ao)} (c1:∀ x c,cl.lookup x=some c->X.env.cells.lookup x=some c) (c2:∀ y∈scope.names,y.2=.free->∃ c,cl.lookup y.1=some c)
  {pins:List (ao×Obj)}{σ:St}{H2:Hp}{s2:ai}{it:ao}{fp:List ao}{tn:Nat->bD->Prop}{J:It}{Q:VK}{E:af->ai->Prop}
  (I2:bL X pins σ H2 s2) (T:wv X.prog X.w X.K tg J fp it tn) (st2:tn 0 s2.heap) (f2:∀ b∈fp,l8 X pins H2 b)
  {W:Nat->Nat->List Str->Hp->Prop} (w0:∃ m,W 0 m [] H2)
  (turn:∀ i m acc H,W i m acc H->(J.stop i H/\∀ p,H p=none->Q (.ref p) (upd H p (jO X.w p acc))) \/
   (J.go i H/\∀ x H',J.yld i H x H'->g x (gx (nt+1) ix σ) H' λσ2 H2=>tt σ2 H2 λb H3 =>
    if b=true then wi2 σ2 H3 (Yy nt tt2 te σ2 acc λacc' H'=>∃ m',m'<m/\W (i+1) m' acc' H') else ∃ m',m'<m/\W (i+1) m' acc H3))
  {RR:af->ao->qK->ai->Prop}
  (hRR:∀ D C m s' (acc:List Str) H',H' D=none->l8 X pins (upd H' D (jO X.w D acc)) C->Q (.ref D) (upd H' D (jO X.w D acc))->s'.heap.Ns C m->(∀ h',bC C s'.heap h'->bL X pins σ (upd H' D (jO X.w D acc)) { s' with heap:=h' })->RR (.ref D) C (.ok .next) s') :
  au (aA X.prog X.w) X.A (Mw (.type "set")) (λacc s₃=>au (aA X.prog X.w) X.A (lC scope X.env.globals cl [] X.env.qual none .none (some X.env)) (λcenv s₄ =>
   dZ (aA X.prog X.w) X.A (.compStart (.SetComp elt [⟨tg,iter,ifs,0⟩,⟨tg2,iter2,ifs2,0⟩] scope pos) 0 (.ref it) acc { cenv with scope:=relabel scope X.env }) (RR acc cenv.locals) s₄) E s₃) E s2:=by
 refine o0 (yj λh₁ hh₁=>?_)
 dsimp only at hh₁ ⊢
 generalize hG2:s2.heap.push (fj X.w)=G2 at hh₁ ⊢
 have hC:G2.objs.size=s2.heap.objs.size+1:=by rw [<- hG2,c9]
 have hDC:s2.heap.objs.size≠G2.objs.size:=by rw [hC];exact aB (cZ _)
 have hCle:s2.heap.objs.size<=G2.objs.size:=by rw [hC];exact jh _
 have below:∀ b,b<s2.heap.objs.size->b≠G2.objs.size:=λb hb=>by rw [hC];exact aB (cO hb)
 have kp:∀ b o,G2.get? b=some o->h₁.get? b=some o:=λb o e=>by rw [hh₁];exact h_ _ _ b o (ac _ e)
 have hns₁:h₁.Ns G2.objs.size (λ_=>none):=by rw [hh₁];exact (xj G2 (.type "dict")).keeps (h_ _ _)
 have ok₁:Gi h₁ (G2.objs.size+1) (aI (G2.objs.size+1) scope.names []):=by rw [hh₁];exact rX G2 scope.names
 have cne:∀ x c,(aI (G2.objs.size+1) scope.names cl).lookup x=some c->X.env.cells.lookup x=some c\/s2.heap.objs.size<c:=λx c e=>by
  rcases jt e with a|⟨_,a⟩
  ·exact .inr (aK (hJ hCle) (ok₁.empty x c a).2)
  ·exact .inl (c1 x c a)
 have old:∀ b o,s2.heap.get? b=some o->h₁.get? b=some o:=λb o e=>kp b o (hG2 ▸ ac _ e)
 have hacc:h₁.get? s2.heap.objs.size=some (fj X.w):=kp _ _ (hG2 ▸ ay _ rfl)
 have ff:∀ b∈fp,b<s2.heap.objs.size:=λb hb=>by
  obtain ⟨o,e,_⟩:=T.obj _ _ st2 b hb
  exact av e
 have I3:bL (bu X N' scope (aI (G2.objs.size+1) scope.names cl) G2.objs.size s2 H2 fp (X.pn++pins)) [] (gx (nt+1) ix σ) H2 { s2 with heap:=h₁,toks:=s2.toks }:=vf S I2 c1 c2 f2 ff hCle hns₁ old ok₁
 obtain ⟨pg,pt,pi2,pg2,pt2,pe⟩:=hb (aI (G2.objs.size+1) scope.names cl) G2.objs.size s2 H2 fp (X.pn++pins)
 have hDfs:s2.heap.objs.size∉wj X.stack:=λz=>by
  rcases List.mem_cons.mp (I2.stkSub _ z) with e|e
  ·exact absurd I2.lt (by rw [<- e];exact bf _)
  ·exact I2.nofs (aw _) e
 have st1:tn 0 h₁:=T.keep _ _ _ st2 λb _ o e=>old b o e
 have hDf:s2.heap.objs.size∉fp:=λz=>absurd (ff _ z) (bf _)
 have stat:∀ {H':Hp}{pl:List (ao×Obj)},(∀ p∈pl,p.1∉fp)->(∀ b∈fp,H' b=none)->∀ b∈fp,l8 (bu X N' scope (aI (G2.objs.size+1) scope.names cl) G2.objs.size s2 H2 fp (X.pn++pins)) pl H' b:=λhpl hn b hb=>by
  obtain ⟨f0,f1,f2',f3,f4,f5⟩:=f2 b hb
  refine ⟨hn b hb,below b (ff b hb),λz=>?_,.inl hb,λx c e=>(cne x c e).elim (f4 x c) λq z=>mY q (by rw [z];exact ff b hb),λp hp z=>?_⟩
  ·rcases List.mem_cons.mp (I2.stkSub _ z) with e|e
   ·exact f1 e
   ·exact f2' e
  ·rcases List.mem_append.mp hp with q|q
   ·exact f5 p q z
   ·exact hpl p q (z ▸ hb)
 obtain ⟨m0,w0⟩:=w0
 have loop:dZ (aA X.prog X.w) X.A (.compLoop (.SetComp elt [⟨tg,iter,ifs,0⟩,⟨tg2,iter2,ifs2,0⟩] scope pos) 0 (.ref it) (.ref s2.heap.objs.size) (mX scope (aI (G2.objs.size+1) scope.names cl) G2.objs.size X.env))
    (RR (.ref s2.heap.objs.size) G2.objs.size) { s2 with heap:=h₁,toks:=s2.toks }:=by
  refine VF (tg:=tg) (iter:=iter) (ifs:=ifs) (bk:=do
   let x <- dn iter2 (mX scope (aI (G2.objs.size+1) scope.names cl) G2.objs.size X.env)
   ku iter2.pos
   let x <- bU iter2 (mX scope (aI (G2.objs.size+1) scope.names cl) G2.objs.size X.env) x
   let _ <- runOwn (.compStart (.SetComp elt [⟨tg,iter,ifs,0⟩,⟨tg2,iter2,ifs2,0⟩] scope pos) 1 (<- Ap [x] (qI x)) (.ref s2.heap.objs.size) (mX scope (aI (G2.objs.size+1) scope.names cl) G2.objs.size X.env)) (mX scope (aI (G2.objs.size+1) scope.names cl) G2.objs.size X.env)
   again (.compLoop (.SetComp elt [⟨tg,iter,ifs,0⟩,⟨tg2,iter2,ifs2,0⟩] scope pos) 0 (.ref it) (.ref s2.heap.objs.size) (mX scope (aI (G2.objs.size+1) scope.names cl) G2.objs.size X.env))) rfl (Zi X pins N' scope (aI (G2.objs.size+1) scope.names cl) G2.objs.size s2 H2 fp (nt+1) ix σ tn W) ?_ m0
   ⟨0,[],_,H2,I3.pin1 hacc (I2.hok.fresh (aw _)) hDC hDfs (λv z=>nomatch z),wz X.w hacc,st1,λb hb=>(f2 b hb).1,w0⟩
  rintro n s3 ⟨i,acc,oD,H3,J3,hS3,st3,fr3,w3⟩
  have plD:∀ p∈[(s2.heap.objs.size,oD)],p.1∉fp:=λp hp=>by
   have:p=(s2.heap.objs.size,oD):=by simpa using hp
   rw [this];exact hDf
  have stS:∀ {s8:ai},s8.heap.get? s2.heap.objs.size=some oD->jV X.w s8.heap s2.heap.objs.size acc:=λ{s8} e=>hS3.keep λo eo=>by
   have q:=(J3.pin (s2.heap.objs.size,oD) (al _ (List.mem_singleton.mpr rfl))).1
   rw [q] at eo;cases eo;exact e
  rcases turn i n acc H3 w3 with ⟨stop,qn⟩|⟨go,step⟩
  ·refine eK (T.done (bu X N' scope (aI (G2.objs.size+1) scope.names cl) G2.objs.size s2 H2 fp (X.pn++pins)) rfl rfl rfl hc i _ s3 _ H3 _ J3 (stat plD fr3) st3 stop) λr s4 h_0=>?_
   obtain ⟨hr,I4⟩:=h_0
   subst hr
   obtain ⟨pD,pN,_⟩:=I4.pin (s2.heap.objs.size,_) (al _ (List.mem_singleton.mpr rfl))
   obtain ⟨mm,hn,_⟩:=I4.loc
   have hCn:H3 G2.objs.size=none:=I4.free
   refine hRR _ _ mm s4 acc H3 pN (I2.fpOk hCle (by rw [bj (cF hDC)];exact hCn)) (qn _ pN) hn λh' sb=>?_
   have hu:Un (wj X.stack) fp H2 (upd H3 s2.heap.objs.size (jO X.w s2.heap.objs.size acc)) s2.heap h':=Un.grow I4.base sb hCle (aw _) pN
   refine I2.call' (s':={ s4 with heap:=h' }) (ch:=fp) I4.os hu ?_ I4.bare λb hb=>?_
   ·exact oO (vg I4.hok hCn sb) pN (ym ((stS pD).keep λo e=>(sb.2 _ hDC).trans e))
   ·obtain ⟨_,f1,_,f3,f4,f5⟩:=f2 b hb
    exact ⟨f3,f1,f4,f5⟩
  ·refine eK (T.item (bu X N' scope (aI (G2.objs.size+1) scope.names cl) G2.objs.size s2 H2 fp (X.pn++pins)) rfl rfl rfl hc i _ s3 _ H3 _ J3 (stat plD fr3) st3 go) λr s4 h_1=>?_
   obtain ⟨u,hr,h4⟩:=h_1
   subst hr
   refine eK h4 λ_ s5 h_2=>?_
   obtain ⟨x,H5,I5,r5,y5,st5,fr5⟩:=h_2
   have I5':=I5.pinned (stat plD fr5) (T.obj _ _ st5)
   refine eK (pg _ s5 _ H5 x u _ I5' r5 (lo _ _ _ _ (step x H5 y5))) λ_ s6 h_3=>?_
   obtain ⟨σ6,H6,I6,q6,l6,k6⟩:=h_3
   have hw:∀ (j:Nat) v,(gx (nt+1) ix σ)[j]?=some (some v)->σ6[j]?=some (some v):=λj v e=>by
    by_cases hj:nt<=j
    ·rw [k6 j hj];exact e
    ·unfold gx at e
     rw [aW (by simp;omega),bJ,if_pos (by omega)] at e
     cases e
   refine eK (pt _ s6 σ6 H6 _ I6 q6) λb s7 h_4=>?_
   obtain ⟨H7,I7,q7⟩:=h_4
   have fpk:∀ {s8:ai}{σ8:St}{H8:Hp},bL (bu X N' scope (aI (G2.objs.size+1) scope.names cl) G2.objs.size s2 H2 fp (X.pn++pins)) ([(s2.heap.objs.size,oD)]++lJ fp s5.heap) σ8 H8 s8 ->
     tn (i+1) s8.heap/\∀ b∈fp,H8 b=none:=λ{s8 σ8 H8} I8=>by
    refine ⟨T.keep _ _ _ st5 λb hb o e=>(I8.pin (b,o) (al _ (al _ (eL hb e)))).1,λb hb=>?_⟩
    obtain ⟨o,e,d⟩:=T.obj _ _ st5 b hb
    exact (I8.pin (b,o) (al _ (al _ (eL hb e)))).2.1
   have fpk':∀ {s8:ai}{σ8:St}{H8:Hp}{o':Obj},bL (bu X N' scope (aI (G2.objs.size+1) scope.names cl) G2.objs.size s2 H2 fp (X.pn++pins)) ((s2.heap.objs.size,o')::lJ fp s5.heap) σ8 H8 s8 ->
     tn (i+1) s8.heap/\∀ b∈fp,H8 b=none:=λ{s8 σ8 H8 o'} I8=>by
    refine ⟨T.keep _ _ _ st5 λb hb o e=>(I8.pin (b,o) (al _ (ag _ (eL hb e)))).1,λb hb=>?_⟩
    obtain ⟨o,e,d⟩:=T.obj _ _ st5 b hb
    exact (I8.pin (b,o) (al _ (ag _ (eL hb e)))).2.1
   cases b with
   |false =>
    simp only [ba,if_false] at q7 ⊢
    obtain ⟨m',hm,w7⟩:=q7
    obtain ⟨t7,f7⟩:=fpk I7
    obtain ⟨pD,_⟩:=I7.pin (s2.heap.objs.size,oD) (al _ (aN _ (List.mem_singleton.mpr rfl)))
    exact ⟨m',hm,i+1,acc,oD,H7,(I7.weak l6.symm hw).unpinned,stS pD,t7,f7,w7⟩
   |true =>
    simp only [if_true] at q7 ⊢
    have hσ:σ6[nt]?=some none:=by
     rw [k6 nt (aw _)]
     unfold gx
     rw [aW (by simp),bJ,if_pos (by omega)]
    refine a8 (eK (pi2 _ s7 σ6 H7 _ I7 q7) λv s8 h_5=>a8 (cU (a8 (eT (hs2 _ v) (a8 (bZ (eK h_5 λitv s9 h_6=>a8 (wpAny_runOwn ?_))))))))
    obtain ⟨it2,fp2,tn2,J2,H9,e9,I9,T2,t9,ok9,W2,⟨m2,w2⟩,turn2⟩:=h_6
    subst e9
    have pin9:∀ p∈X.pn++pins,p.1≠s2.heap.objs.size:=λp hp z=>absurd (av (I2.pin p hp).1) (by rw [z];exact bf _)
    have cell9:∀ x c,(aI (G2.objs.size+1) scope.names cl).lookup x=some c->c≠s2.heap.objs.size:=λx c e z=>by
     rcases cne x c e with e|e
     ·obtain ⟨v,q⟩:=I2.cell x c e
      exact absurd q.lt (by rw [z];exact bf _)
     ·exact absurd e (by rw [z];exact bf _)
    have inn:=Lf (X:=bu X N' scope (aI (G2.objs.size+1) scope.names cl) G2.objs.size s2 H2 fp (X.pn++pins)) (g1:=⟨tg,iter,ifs,0⟩) (iter:=iter2) (scope:=scope) (pos:=pos) (pl:=lJ fp s5.heap) (D:=s2.heap.objs.size) (σ:=σ6) (s:=s9) hc rfl pg2 pt2 pe hσ T2
     (λb hb=>by
      obtain ⟨a0,a1,a2,a3,a4,a5⟩:=ok9 b hb
      exact ⟨a1,a2,a3,a4,λp hp=>a5 p ((eu.1 hp).elim (λz=>aN _ z) λz=>al _ (al _ z)),a5 (s2.heap.objs.size,oD) (al _ (aN _ (List.mem_singleton.mpr rfl)))⟩)
     (.inr (aw _)) cell9 (λp hp z=>by
      rcases eu.1 hp with y|y
      ·exact pin9 p y z
      ·exact hDf (z ▸ (Bg y).1)) turn2 m2 ⟨0,acc,oD,H9,I9,stS (I9.pin (s2.heap.objs.size,oD) (al _ (aN _ (List.mem_singleton.mpr rfl)))).1,t9,λb hb=>(ok9 b hb).1,w2⟩
    have fin:=RZ (R:=ZB (bu X N' scope (aI (G2.objs.size+1) scope.names cl) G2.objs.size s2 H2 fp (X.pn++pins)) (lJ fp s5.heap) s2.heap.objs.size σ6 λacc' H'=>∃ m',m'<n/\W (i+1) m' acc' H') inn (T2.self _ 0 _ _ _ t9 inn)
    refine oF fin λr s10 h10=>?_
    obtain ⟨acc',oD',H10,rfl,I10,hS10,m',hm,w10⟩:=h10
    obtain ⟨t10,f10⟩:=fpk' I10
    exact a9 ⟨rfl,m',hm,i+1,acc',oD',H10,(I10.weak (σ':=gx (nt+1) ix σ) l6.symm hw).pins_of λp hp=>I10.pin p (al _ (by rw [df.1 hp];exact ak)),hS10,t10,f10,w10⟩
 exact kC loop (T.self _ 0 _ _ _ st1 loop)
inductive OS (w:bz) (nt:Nat) (ix:List Nat) (g:TG) (tt:TT) (wi2:TI) (tt2:TT) (te:TE) (σ:St) (Q:VK) (J:It) (H1:Hp):Prop
 |mk (W:Nat->Nat->List Str->Hp->Prop) (w0:∃ m,W 0 m [] H1) (turn:∀ i m acc H,W i m acc H->(J.stop i H/\∀ p,H p=none->Q (.ref p) (upd H p (jO w p acc))) \/
   (J.go i H/\∀ x H',J.yld i H x H'->g x (gx (nt+1) ix σ) H' λσ2 H2=>tt σ2 H2 λb H3 =>
    if b=true then wi2 σ2 H3 (Yy nt tt2 te σ2 acc λacc' H'=>∃ m',m'<m/\W (i+1) m' acc' H') else ∃ m',m'<m/\W (i+1) m' acc H3)):OS w nt ix g tt wi2 tt2 te σ Q J H1
def Jz (w:bz) (nt:Nat) (ix:List Nat) (e:TI) (g:TG) (d:TT) (b:TI) (a:TT) (c:TE):TE:=λσ H Q=>e σ H (OS w nt ix g d b a c σ Q)
def F7 {X:Cx}{j tg iter f a:bp}{ifs c:List bp}{scope:eX}{pos:Pos}{G p:TI}{g:TG}{K o:TT}{E:TE}{N':List Str}{nt:Nat}{ix:List Nat}
  (Y:X.calm=true) (S:jk X scope N' (nt+1) ix) (lo:Ml nt g) (hi:PI X tg iter G)
  (hb:∀ i C b d l k,PG (bu X N' scope i C b d l k) tg g/\E4 (bu X N' scope i C b d l k) ifs K/\PI (bu X N' scope i C b d l k) f a p/\PG (bu X N' scope i C b d l k) f (oK nt)/\E4 (bu X N' scope i C b d l k) c o/\PE (bu X N' scope i C b d l k) j E)
  (z:∀ (env:Env) x,bU a env x=pure x) (hs:∀ x,bU iter X.env x=pure x:=by intro _;rfl):PE X (.SetComp j [⟨tg,iter,ifs,0⟩,⟨f,a,c,0⟩] scope pos) (Jz X.w nt ix G g K p o E):=by
 intro pins s σ H Q I h
 obtain ⟨i,B,c1,N⟩:=mq (scope:=scope) (env:=X.env) λy L hf=>I.ok.has y.1 (S.free y L hf)
 show au _ _ (yd (.SetComp j [⟨tg,iter,ifs,0⟩,⟨f,a,c,0⟩] scope pos) scope X.env (firstIterPos [⟨tg,iter,ifs,0⟩,⟨f,a,c,0⟩] pos) (Mw (.type "set")) (firstAsync [⟨tg,iter,ifs,0⟩,⟨f,a,c,0⟩]) (firstIter [⟨tg,iter,ifs,0⟩,⟨f,a,c,0⟩] X.env)) _ _ _
 refine im (use:=none) rfl hs B S.kind S.loc (eK (hi pins s σ H _ I h) λv s1 P=>eK P λO s2 h2=>?_)
 obtain ⟨it,fp,tn,J,H2,e,I2,T,u,f2,W,M,n⟩:=h2
 subst e
 refine HC (RR:=λt C=>GD (aA X.prog X.w) X.A X.xe none (EP X pins σ Q) t C) Y S lo z hb c1 N I2 T u f2 M n ?_
 intro D C m s' t H' hD _ q hn U
 exact ⟨m,hn,λh' sb=>⟨.ref D,_,U h' sb,rfl,q⟩⟩
end L2
namespace J
open PySem L2
def VG (nt:Nat) (ρ:aC) (gt:aC->R Bool) (ge:aC->R D):D->R (Option D):=λd=>D1 ((gt (ρ.set nt (.shr d))).bind λb=>if b then (ge (ρ.set nt (.shr d))).bind λy=>.ok (some y) else .ok none)
def ul (nt:Nat) (ρ:aC) (gt:aC->R Bool) (e:aC->R (List D)) (c:aC->R Bool) (ge:aC->R D):D->R (List D):=λd=>D1 ((Tu nt d ρ).bind λa=>(gt a).bind λb=>if b then (e a).bind λes=>fw (VG nt a c ge) es else .ok [])
def oT (f:D->R (List D)):List D->R (List D)
 |[]=>.ok []
 |d::r=>(f d).bind λxs=>(oT f r).bind λys=>.ok (xs++ys)
def HD {f:D->R (List D)}{d:D}{r ys:List D} (h:oT f (d::r)=.ok ys):∃ xs a,f d=.ok xs/\oT f r=.ok a/\ys=xs++a:=by
 unfold oT at h
 cases c:f d with
 |ok o =>
  rw [c,bind_ok] at h
  cases b:oT f r with
  |ok a=>rw [b,bind_ok] at h;cases h;exact ⟨_,a,rfl,rfl,rfl⟩
  |ex x n=>rw [b] at h;cases h
  |no=>rw [b] at h;cases h
 |ex x n=>rw [c] at h;cases h
 |no=>rw [c] at h;cases h
def Lg (nt:Nat) (ρ:aC) (gt:aC->R Bool) (b:aC->R (List D)) (a:aC->R Bool) (ge:aC->R D) (d:D) (c:Str) (n):ul nt ρ gt b a ge d≠.ex c n:=by
 unfold ul;intro h;revert h;generalize R.bind _ _=r;cases r<;>exact λh=>by cases h
def F8 {f:D->R (List D)} (e:∀ d c n,f d≠.ex c n):∀ (l:List D) c n,oT f l≠.ex c n
 |[],c,n=>λh=>by cases h
 |d::r,c,n=>λh=>by
  unfold oT at h
  cases b:f d with
  |no=>rw [b] at h;cases h
  |ex x y=>exact e _ _ _ b
  |ok o =>
   rw [b,bind_ok] at h
   cases a:oT f r with
   |ok g=>rw [a,bind_ok] at h;cases h
   |ex x n=>exact F8 e _ _ _ a
   |no=>rw [a] at h;cases h
def sk (nt:Nat) (ix:List Nat) (c:aC->R (List D)) (gt:aC->R Bool) (b:aC->R (List D)) (a:aC->R Bool) (ge:aC->R D):aC->R (List Str):=λρ=>(c ρ).bind λds=>(oT (ul nt (kr (nt+1) ix ρ) gt b a ge) ds).bind λys=>match fc ys with
 |some ss=>if ss.length<=60 then .ok (cY [] ss) else .no
 |none=>.no
inductive scJ (f:D->R (Option D)) (ds:List D) (ss tl:List Str) (H1 Hs1:Hp) (i m:Nat) (acc:List Str) (H':Hp):Prop
 |mk (done bS zs sa sz Hs':_) (h0:ds=done++bS) (h1:done.length=i) (h2:bS.length=m) (h3:cP H1 Hs1 H' Hs') (h4:acc=cY [] sa) (h6:fw f bS=.ok zs) (h7:fc zs=some sz) (h8:ss=sa++(sz++tl)):scJ f ds ss tl H1 Hs1 i m acc H'
inductive scK (f:D->R (List D)) (ds:List D) (ss:List Str) (H1 Hs1:Hp) (i m:Nat) (acc:List Str) (H':Hp):Prop
 |mk (done bS zs sa sz Hs':_) (h0:ds=done++bS) (h1:done.length=i) (h2:bS.length=m) (h3:cP H1 Hs1 H' Hs') (h4:acc=cY [] sa) (h6:oT f bS=.ok zs) (h7:fc zs=some sz) (h8:ss=sa++sz):scK f ds ss H1 Hs1 i m acc H'
section
variable {K:aa}{cls:Str->ao}{w:bz}{E:XK}{σ:St}{H:Hp}{Q:VK}{ρ ρ':aC}{H0 Hs0 H1 Hs1 Hn:Hp}{la:Nat->Option ao}{nt:Nat}{ix:List Nat}{gi gi2:aC->R (List D)}{gt gt2:aC->R Bool}{ge:aC->R D}{J:It}{es zs:List D}{ss sa sz tl:List Str}
def XM {Z:List Str->Hp->Prop} (f:Fr K H0 Hs0 la ρ' σ H1 Hs1) (sn:du Hn H1) (it:NI K J es Hn Hs1) (hm:fw (VG nt ρ' gt2 ge) es=.ok zs) (I:fc zs=some sz) (hl:ss.length<=60) (k:ss=sa++(sz++tl))
  (q:∀ sb H' g,ss=sb++tl->cP H1 Hs1 H' g->Z (cY [] sb) H') :
  Yy nt (λσ H Q=>∃ ρ',E5 K cls E0 ρ' (gt2 ρ') σ H Q) (λσ H Q=>∃ ρ',TR K cls E0 ρ' (ge ρ') σ H Q) σ (cY [] sa) Z J H1:=by
 refine ⟨scJ (VG nt ρ' gt2 ge) es ss tl H1 Hs1,⟨es.length,[],es,zs,sa,sz,Hs1,rfl,rfl,rfl,.refl f.st.sub,rfl,hm,I,k⟩,?_⟩
 rintro i m a0 H' ⟨done,bS,zs,sa,sz,g,e,h,G,st,rfl,I,A,k⟩
 obtain ⟨O,j,p⟩:=it H' g (sn.trans st.all) st.sh st.sub
 cases bS with
 |nil =>
  left;cases I;cases A;rw [bN] at e;subst e
  exact ⟨j i (by omega),q sa H' g k st⟩
 |cons d bS =>
  right
  have s:i<es.length:=by rw [e,aJ,aY];omega
  have Y:=fk sa []
  simp at Y
  have a1:sa.length<=ss.length:=by rw [k,aJ];omega
  refine ⟨O i s,nR (show (cY [] sa).length+1<=61 by omega) (by decide),λx H2 X=>?_⟩
  obtain ⟨d',P,U,T,r2⟩:=p i x H2 s X
  have M:d'=d:=by
   rw [e,bg (by omega)] at U;simp [h] at U;exact U.symm
  subst M
  obtain ⟨o,u,c,t,rfl⟩:=pE I
  have c:=vw c
  obtain ⟨so,B,a,hsz,rfl⟩:=oh A
  have f2:=((f.step st).step T).set nt r2
  refine ⟨_,_,_,_,P,f2,?_⟩
  cases L:gt2 (ρ'.set nt (.shr d')) with
  |no=>rw [L] at c;cases c
  |ex x n=>rw [L] at c;cases c
  |ok b =>
   rw [L,bind_ok] at c;intro H3 l S
   cases b with
   |false =>
    rw [if_neg bw] at c;cases c;cases a
    exact xS ⟨bS.length,by rw [<- G];simp,done++[d'],bS,u,sa,B,l,by rw [e];simp,by simp [h],rfl,(st.trans T).trans S,rfl,t,hsz,by simpa using k⟩
   |true =>
    rw [if_pos rfl] at c
    refine xT ⟨_,_,_,_,l,f2.step S,?_⟩
    cases he:ge (ρ'.set nt (.shr d')) with
    |no=>rw [he] at c;cases c
    |ex x n=>rw [he] at c;cases c
    |ok y =>
     rw [he,bind_ok] at c;cases c;intro v H4 N s4 r4
     cases r4 with
     |str z =>
      cases a
      exact ⟨z,bS.length,rfl,by rw [<- G];simp,done++[d'],bS,u,sa++[z],B,N,by rw [e];simp,by simp [h],rfl,((st.trans T).trans S).trans s4,(uh z sa []).symm,t,hsz,by rw [k];simp⟩
     |none=>cases a
     |bool _=>cases a
     |int _=>cases a
     |list _ _=>cases a
     |tuple _ _=>cases a
     |dictK _ _=>cases a
     |dictT _ _ _=>cases a
     |dictF _ _ _=>cases a
def OT (T:nt=1\/nt=2)
  (q:X7 K w cls E ρ (sk nt ix gi gt gi2 gt2 ge ρ) σ H Q) :
  Jz w nt ix (Vg K cls E ρ (gi ρ)) (y_ K nt) (λσ H Q=>∃ ρ',E5 K cls E0 ρ' (gt ρ') σ H Q) (λσ H Q=>∃ ρ',Vg K cls E0 ρ' (gi2 ρ') σ H Q) (λσ H Q=>∃ ρ',E5 K cls E0 ρ' (gt2 ρ') σ H Q) (λσ H Q=>∃ ρ',TR K cls E0 ρ' (ge ρ') σ H Q) σ H Q:=by
 obtain ⟨H0,Hs0,la,Hs,f,q⟩:=q;refine ⟨H0,Hs0,la,Hs,f,?_⟩;unfold sk at q
 cases hi:gi ρ with
 |no=>rw [hi] at q;exact q
 |ex x n=>rw [hi] at q;exact q
 |ok ds =>
  rw [hi,bind_ok] at q;intro J H1 Hs1 Hn N sn it
  cases B:oT (ul nt (kr (nt+1) ix ρ) gt gi2 gt2 ge) ds with
  |no=>rw [B] at q;exact q.elim
  |ex x n=>exact (F8 (Lg _ _ _ _ _ _) _ _ _ B).elim
  |ok ys =>
   rw [B,bind_ok] at q
   cases hs:fc ys with
   |none=>rw [hs] at q;exact q.elim
   |some ss =>
    rw [hs] at q
    by_cases O:ss.length<=60
    ·simp only [if_pos O] at q
     obtain ⟨lb,fb⟩:=(f.step N).block (nt+1) ix
     refine ⟨scK (ul nt (kr (nt+1) ix ρ) gt gi2 gt2 ge) ds ss H1 Hs1,
      ⟨ds.length,[],ds,ys,[],ss,Hs1,rfl,rfl,rfl,.refl N.sub,rfl,B,hs,rfl⟩,?_⟩
     rintro i m a3 H' ⟨done,bS,zs,sa,sz,l,c,g,s,st,rfl,hz,v,G⟩
     obtain ⟨a1,h,t⟩:=it H' l (sn.trans st.all) st.sh st.sub
     cases bS with
     |nil =>
      left;cases hz;cases v;rw [bN] at c G;subst G c
      exact ⟨h i (by omega),λp hp=>q p H' l (N.trans st) hp⟩
     |cons d bS =>
      right
      have y:i<ds.length:=by rw [c,aJ,aY];omega
      refine ⟨a1 i y,λx H2 X=>?_⟩
      obtain ⟨d',U,hd,s2,r2⟩:=t i x H2 y X
      have P:d'=d:=by
       rw [c,bg (by omega)] at hd;simp [g] at hd;exact hd.symm
      subst P
      obtain ⟨o,u,a,z,rfl⟩:=HD hz
      have a:=vw a
      obtain ⟨so,e,j,hsz,rfl⟩:=oh v
      cases I:Tu nt d' (kr (nt+1) ix ρ) with
      |no=>rw [I] at a;cases a
      |ex x n=>rw [I] at a;cases a
      |ok ρ' =>
       rw [I,bind_ok] at a
       refine vz T ((fb.step st).step s2) r2 I λa5 S=>⟨ρ',?_⟩
       refine ⟨_,_,_,U,S,?_⟩
       cases ht:gt ρ' with
       |no=>rw [ht] at a;cases a
       |ex x n=>rw [ht] at a;cases a
       |ok b =>
        rw [ht,bind_ok] at a;intro H3 k A
        cases b with
        |false =>
         rw [if_neg bw] at a;cases a;cases j
         exact xS ⟨bS.length,by rw [<- s];simp,done++[d'],bS,u,sa,e,k,by rw [c];simp,by simp [g],rfl,(st.trans s2).trans A,rfl,z,hsz,by simpa using G⟩
        |true =>
         rw [if_pos rfl] at a
         refine xT ⟨ρ',_,_,_,k,S.step A,?_⟩
         cases he:gi2 ρ' with
         |no=>rw [he] at a;cases a
         |ex x n=>rw [he] at a;cases a
         |ok es =>
          rw [he,bind_ok] at a;intro J2 H4 a2 a4 s4 a0 Y
          refine XM (tl:=e) (ss:=ss) (sa:=sa) ((S.step A).step s4) a0 Y a j O G λsb H5 L M s5=>?_
          exact ⟨bS.length,by rw [<- s];simp,done++[d'],bS,u,sb,e,L,by rw [c];simp,by simp [g],rfl,(((st.trans s2).trans A).trans s4).trans s5,rfl,z,hsz,M⟩
    ·simp only [if_neg O] at q;exact q.elim
end
section
variable {c:C}{elt tg iter tg2 iter2:bp}{ifs ifs2:List bp}{scope:eX}{pos:Pos}{N':List Str}{nt:Nat}{ix:List Nat}{gi gi2:aC->R (List D)}{gt gt2:aC->R Bool}{ge:aC->R D}
def OU (c:C) (N':List Str) (scope:eX) (nt:Nat) (tg:bp) (ifs:List bp) (tg2 iter2:bp) (ifs2:List bp) (elt:bp) (gt:aC->R Bool) (gi2:aC->R (List D)) (gt2:aC->R Bool) (ge:aC->R D):Prop :=
 ∀ d A a b f e,PG (c.comp N' scope d A a b f e).X tg (y_ c.X.K nt)/\Tv (c.comp N' scope d A a b f e) ifs gt/\JI (c.comp N' scope d A a b f e) tg2 iter2 gi2/\PG (c.comp N' scope d A a b f e).X tg2 (oK nt)/\Tv (c.comp N' scope d A a b f e) ifs2 gt2/\JE (c.comp N' scope d A a b f e) elt ge
def Lh (nt:Nat) (b:nt=1\/nt=2) (l:c.X.calm=true) (S:jk c.X scope N' (nt+1) ix) (m:JI c tg iter gi) (o:OU c N' scope nt tg ifs tg2 iter2 ifs2 elt gt gi2 gt2 ge)
  (f:∀ (env:Env) x,bU iter2 env x=pure x:=by intro _ _;rfl) (hs:∀ x,bU iter c.X.env x=pure x:=by intro _;rfl) :
  Qs c (.SetComp elt [⟨tg,iter,ifs,0⟩,⟨tg2,iter2,ifs2,0⟩] scope pos) (sk nt ix gi gt gi2 gt2 ge):=.of λρ =>
 qH (F7 l S (vy b) (m ρ) (λi A e d v j=>by
  obtain ⟨g,u,k,n,t,p⟩:=o i A e d v j
  exact ⟨g,λpins s σ H Q I h=>by obtain ⟨a,q⟩:=h;exact u a pins s σ H Q I q,λpins s σ H Q I h=>by obtain ⟨a,q⟩:=h;exact k a pins s σ H Q I q,n,λpins s σ H Q I h=>by obtain ⟨a,q⟩:=h;exact t a pins s σ H Q I q,λpins s σ H Q I h=>by obtain ⟨a,q⟩:=h;exact p a pins s σ H Q I q⟩) f hs) λσ H Q q=>OT b q
end
def E6 (a:Bool):D->D->R D
 |k,.dict kvs=>match mz k with
  |some _=>if eP kvs=true then .ok (.bool (if a then !(ic kvs k).isSome else (ic kvs k).isSome)) else .no
  |none=>.no
 |_,_=>.no
section
variable {c:C}
def JA {K:aa}{H Hs:Hp}{v:V}{b:dQ} (a:RB K H Hs v (kD b)):v=kV b:=by
 rcases a with a|⟨_,o,rfl,_,_,ow⟩
 ·exact wL a
 ·cases b<;>cases ow
def F9 {K:aa}{H Hs:Hp}{v:V}{ds:List (D×D)} (sub:du Hs H) (h:RB K H Hs v (.dict ds)) (g:eP ds=true) (e:dQ):∃ p o,v=.ref p/\vd H p (kV e) o/\o.isSome=(ic ds (kD e)).isSome:=by
 obtain ⟨p,rfl,l⟩:=h.dict sub
 rcases l with ⟨j,b,a⟩|⟨j,b,hn,a⟩|⟨o,j,es,rfl,b,hn,a⟩
 ·refine ⟨p,_,rfl,vd.k b,?_⟩
  rcases a.val e with ⟨f,i⟩|⟨u,d,f,i,h5⟩<;>rw [f,i]<;>rfl
 ·exact (hn (a.flat g).1).elim
 ·cases g
def Dh (f:c.X.A.units+1<gC):wG c.X (bI .In) (E6 false):=by
 refine ⟨λpins s σ H x y v u Q I l m h=>?_,λx y c n=>?_⟩
 ·obtain ⟨Hs,B,z,sub,e,k,d,a,q⟩:=h;unfold E6 at a;split at a
  ·rename_i ds
   split at a
   ·rename_i t b
    obtain rfl:=mB b;split at a
    ·rename_i i
     cases a;obtain ⟨p,o,rfl,w,g⟩:=F9 sub k i t;obtain rfl:=JA e;cases m
     refine L2.d_in f I w l λs' j=>⟨.bl _,H,j,rfl,?_⟩
     rw [g];exact q _ H Hs (.refl sub) (.bool _)
    ·cases a
   ·cases a
  ·cases a
 ·unfold E6;split<;>(try split)<;>(try split)<;>exact λh=>by cases h
def Li (f:c.X.A.units+1<gC):wG c.X (bI .NotIn) (E6 true):=by
 refine ⟨λpins s σ H x y v u Q I l m h=>?_,λx y c n=>?_⟩
 ·obtain ⟨Hs,B,z,sub,e,k,d,a,q⟩:=h;unfold E6 at a;split at a
  ·rename_i ds
   split at a
   ·rename_i t b
    obtain rfl:=mB b;split at a
    ·rename_i i
     cases a;obtain ⟨p,o,rfl,w,g⟩:=F9 sub k i t;obtain rfl:=JA e;cases m
     refine L2.IP f I w l λs' j=>⟨.bl _,H,j,rfl,?_⟩
     rw [g];exact q _ H Hs (.refl sub) (.bool _)
    ·cases a
   ·cases a
  ·cases a
 ·unfold E6;split<;>(try split)<;>(try split)<;>exact λh=>by cases h
end
end J
namespace L2
open PySem PySem.Spec PyProof.Rows
def XN (P:a_) (w:bz) (o:Obj) (a:List (dQ×af)):Prop:=o.ExactDict/\∃ es ep,o.data=.dict es ep/\KeysOf (cS P w) es/\Pairs (cS P w) es.toList a/\(a.map (·.1)).Nodup
abbrev BW:=List (dQ×V)
inductive DLK (X:Cx) (pins:List (ao×Obj)) (N':List Str) (scope:eX) (cl:List (Str×ao)) (C:ao) (s2:ai) (H2:Hp) (fp:List ao) (nt:Nat) (ix:List Nat) (σ:St) (tn:Nat->bD->Prop) (W:Nat->Nat->BW->Hp->Prop) (n:Nat) (s':ai):Prop
 |mk (i:Nat) (acc:BW) (xs:List (dQ×af)) (oD:Obj) (H':Hp) (I:bL (bu X N' scope cl C s2 H2 fp (X.pn++pins)) [(s2.heap.objs.size,oD)] (gx nt ix σ) H' s') (S:XN X.prog X.w oD xs) (kt:KV acc xs) (ls:acc.length<=sizeLine) (t:tn i s'.heap) (f:∀ b∈fp,H' b=none) (w:W i n acc H'):DLK X pins N' scope cl C s2 H2 fp nt ix σ tn W n s'
def Fa {X:Cx}{kx vx tg iter:bp}{ifs:List bp}{scope:eX}{pos:Pos}{g:TG}{tt:TT}{te tv:TE}{N':List Str}{nt:Nat}{ix:List Nat}
  (hu:X.A.units<gC) (hc:X.calm=true) (S:jk X scope N' nt ix) (lo:Ml nt g)
  (s:∀ G C M N ex pn,PG (bu X N' scope G C M N ex pn) tg g/\E4 (bu X N' scope G C M N ex pn) ifs tt/\PE (bu X N' scope G C M N ex pn) kx te/\PE (bu X N' scope G C M N ex pn) vx tv)
  {G:List (Str×ao)} (c1:∀ x c,G.lookup x=some c->X.env.cells.lookup x=some c) (c2:∀ y∈scope.names,y.2=.free->∃ c,G.lookup y.1=some c)
  {pins:List (ao×Obj)}{σ:St}{I:Hp}{h:ai}{it:ao}{B:List ao}{tn:Nat->bD->Prop}{J:It}{Q:VK}{E:af->ai->Prop}
  (O:bL X pins σ I h) (T:wv X.prog X.w X.K tg J B it tn) (d4:tn 0 h.heap) (f2:∀ b∈B,l8 X pins I b)
  {W:Nat->Nat->BW->Hp->Prop} (w0:∃ m,W 0 m [] I)
  (d2:∀ i m f H,W i m f H->(J.stop i H/\∀ p,H p=none->Q (.ref p) (upd H p (.dK f))) \/
   (J.go i H/\f.length<sizeLine/\∀ x H',J.yld i H x H'->g x (gx nt ix σ) H' λb6 I=>tt b6 I λb H3 =>
    if b=true then te b6 H3 λy H4=>tv b6 H4 λv H5=>∃ k m',y=kV k/\m'<m/\W (i+1) m' (kn f k v) H5 else ∃ m',m'<m/\W (i+1) m' f H3))
  {RR:af->ao->qK->ai->Prop}
  (e3:∀ D C m s' (f:BW) H',H' D=none->l8 X pins (upd H' D (.dK f)) C->Q (.ref D) (upd H' D (.dK f))->s'.heap.Ns C m->(∀ h',bC C s'.heap h'->bL X pins σ (upd H' D (.dK f)) { s' with heap:=h' })->RR (.ref D) C (.ok .next) s') :
  au (aA X.prog X.w) X.A newDict (λf e0=>au (aA X.prog X.w) X.A (lC scope X.env.globals G [] X.env.qual none .none (some X.env)) (λa4 d0 =>
   dZ (aA X.prog X.w) X.A (.compStart (.DictComp kx vx [⟨tg,iter,ifs,0⟩] scope pos) 0 (.ref it) f { a4 with scope:=relabel scope X.env }) (RR f a4.locals) d0) E e0) E h:=by
 refine bK (yj λl t=>?_);dsimp only at t ⊢;generalize b7:h.heap.push { cls:=.type "dict",data:=.dict #[] }=G2 at t ⊢;have hC:G2.objs.size=h.heap.objs.size+1:=by rw [<- b7,c9]
 have Y:h.heap.objs.size≠G2.objs.size:=by rw [hC];exact aB (cZ _)
 have L:h.heap.objs.size<=G2.objs.size:=by rw [hC];exact jh _
 have below:∀ b,b<h.heap.objs.size->b≠G2.objs.size:=λb s=>by rw [hC];exact aB (cO s)
 have kp:∀ b o,G2.get? b=some o->l.get? b=some o:=λb o e=>by rw [t];exact h_ _ _ b o (ac _ e)
 have a1:l.Ns G2.objs.size (λ_=>none):=by rw [t];exact (xj G2 (.type "dict")).keeps (h_ _ _)
 have P:Gi l (G2.objs.size+1) (aI (G2.objs.size+1) scope.names []):=by rw [t];exact rX G2 scope.names
 have cne:∀ x c,(aI (G2.objs.size+1) scope.names G).lookup x=some c->X.env.cells.lookup x=some c\/h.heap.objs.size<c:=λx c e=>by
  rcases jt e with a|⟨_,a⟩
  ·exact .inr (aK (hJ L) (P.empty x c a).2)
  ·exact .inl (c1 x c a)
 have d5:∀ b o,h.heap.get? b=some o->l.get? b=some o:=λb o e=>kp b o (b7 ▸ ac _ e);have c3:l.get? h.heap.objs.size=some { cls:=.type "dict",data:=.dict #[] }:=kp _ _ (b7 ▸ ay _ rfl);have ff:∀ b∈B,b<h.heap.objs.size:=λb s=>by
  obtain ⟨o,e,_⟩:=T.obj _ _ d4 b s;exact av e
 have I3:bL (bu X N' scope (aI (G2.objs.size+1) scope.names G) G2.objs.size h I B (X.pn++pins)) [] (gx nt ix σ) I { h with heap:=l,toks:=h.toks }:=vf S O c1 c2 f2 ff L a1 d5 P;obtain ⟨pg,pt,pe,pv⟩:=s (aI (G2.objs.size+1) scope.names G) G2.objs.size h I B (X.pn++pins);have a5:h.heap.objs.size∉wj X.stack:=λz=>by
  rcases List.mem_cons.mp (O.stkSub _ z) with e|e
  ·exact absurd O.lt (by rw [<- e];exact bf _)
  ·exact O.nofs (aw _) e
 have d1:tn 0 l:=T.keep _ _ _ d4 λb _ o e=>d5 b o e;have c0:h.heap.objs.size∉B:=λz=>absurd (ff _ z) (bf _);have U:∀ {H':Hp}{pl:List (ao×Obj)},(∀ p∈pl,p.1∉B)->(∀ b∈B,H' b=none)->∀ b∈B,l8 (bu X N' scope (aI (G2.objs.size+1) scope.names G) G2.objs.size h I B (X.pn++pins)) pl H' b:=λg8 hn b s=>by
  obtain ⟨f0,f1,e4,f3,f4,f5⟩:=f2 b s;refine ⟨hn b s,below b (ff b s),λz=>?_,.inl s,λx c e=>(cne x c e).elim (f4 x c) λq z=>mY q (by rw [z];exact ff b s),λp hp z=>?_⟩
  ·rcases List.mem_cons.mp (O.stkSub _ z) with e|e
   ·exact f1 e
   ·exact e4 e
  ·rcases List.mem_append.mp hp with q|q
   ·exact f5 p q z
   ·exact g8 p q (z ▸ s)
 obtain ⟨m0,w0⟩:=w0;have a3:dZ (aA X.prog X.w) X.A (.compLoop (.DictComp kx vx [⟨tg,iter,ifs,0⟩] scope pos) 0 (.ref it) (.ref h.heap.objs.size) (mX scope (aI (G2.objs.size+1) scope.names G) G2.objs.size X.env))
    (RR (.ref h.heap.objs.size) G2.objs.size) { h with heap:=l,toks:=h.toks }:=by
  refine Df (DLK X pins N' scope (aI (G2.objs.size+1) scope.names G) G2.objs.size h I B nt ix σ tn W) ?_ m0
   ⟨0,[],[],_,I,I3.pin1 c3 (O.hok.fresh (aw _)) Y a5 (λv z=>nomatch z),⟨⟨rfl,rfl,rfl⟩,#[],0,rfl,λe he=>(nomatch he),.nil,eV⟩,.nil,cx _,d1,λb s=>(f2 b s).1,w0⟩
  rintro n s3 ⟨i,f,xs,oD,H3,J3,b0,a0,b8,d7,d3,w3⟩;have a7:∀ p∈[(h.heap.objs.size,oD)],p.1∉B:=λp hp=>by
   have:p=(h.heap.objs.size,oD):=by simpa using hp
   rw [this];exact c0
  have g7:(h.heap.objs.size==fz)=false:=by
   have:=O.big;simp only [beq_eq_false_iff_ne];exact ft this
  rcases d2 i n f H3 w3 with ⟨c5,qn⟩|⟨go,hlt,step⟩
  ·refine eK (T.done (bu X N' scope (aI (G2.objs.size+1) scope.names G) G2.objs.size h I B (X.pn++pins)) rfl rfl rfl hc i _ s3 _ H3 _ J3 (U a7 d3) d7 c5) λr s4 e5=>?_;obtain ⟨hr,I4⟩:=e5;subst hr;obtain ⟨pD,pN,_⟩:=I4.pin (h.heap.objs.size,_) (al _ (List.mem_singleton.mpr rfl));obtain ⟨mm,hn,_⟩:=I4.loc;have d8:H3 G2.objs.size=none:=I4.free;refine e3 _ _ mm s4 f H3 pN (O.fpOk L (by rw [bj (cF Y)];exact d8)) (qn _ pN) hn λh' sb=>?_;have hu:Un (wj X.stack) B I (upd H3 h.heap.objs.size (.dK f)) h.heap h':=Un.grow I4.base sb L (aw _) pN;refine O.call' (s':={ s4 with heap:=h' }) (ch:=B) I4.os hu ?_ I4.bare λb s=>?_
   ·obtain ⟨x1,es,ep,x2,x3,x5,x4⟩:=b0;exact oO (vg I4.hok d8 sb) pN ⟨b8,g7,xs,a0,oD,es,ep,(sb.2 _ Y).trans pD,x1,x2,x3,x5,x4⟩
   ·obtain ⟨_,f1,_,f3,f4,f5⟩:=f2 b s;exact ⟨f3,f1,f4,f5⟩
  ·refine eK (T.item (bu X N' scope (aI (G2.objs.size+1) scope.names G) G2.objs.size h I B (X.pn++pins)) rfl rfl rfl hc i _ s3 _ H3 _ J3 (U a7 d3) d7 go) λr s4 h2=>?_;obtain ⟨u,hr,h4⟩:=h2;subst hr;refine eK h4 λ_ s5 e6=>?_;obtain ⟨x,H5,I5,r5,y5,a6,h0⟩:=e6;have e2:=I5.pinned (U a7 h0) (T.obj _ _ a6);refine eK (pg _ s5 _ H5 x u _ e2 r5 (lo _ _ _ _ (step x H5 y5))) λ_ s6 e9=>?_;obtain ⟨a2,H6,I6,q6,l6,k6⟩:=e9;have hw:∀ (j:Nat) v,(gx nt ix σ)[j]?=some (some v)->a2[j]?=some (some v):=λj v e=>by
    by_cases hj:nt<=j
    ·rw [k6 j hj];exact e
    ·unfold gx at e;rw [aW (by simpa using hj),bJ,if_pos (by omega)] at e;cases e
   refine eK (pt _ s6 a2 H6 _ I6 q6) λb s7 g5=>?_;obtain ⟨H7,I7,q7⟩:=g5;have d9:∀ {s8:ai}{d6:St}{H8:Hp},bL (bu X N' scope (aI (G2.objs.size+1) scope.names G) G2.objs.size h I B (X.pn++pins)) ([(h.heap.objs.size,oD)]++lJ B s5.heap) d6 H8 s8 ->
     tn (i+1) s8.heap/\∀ b∈B,H8 b=none:=λ{s8 d6 H8} I8=>by
    refine ⟨T.keep _ _ _ a6 λb s o e=>(I8.pin (b,o) (al _ (al _ (eL s e)))).1,λb s=>?_⟩;obtain ⟨o,e,d⟩:=T.obj _ _ a6 b s;exact (I8.pin (b,o) (al _ (al _ (eL s e)))).2.1
   cases b with
   |false =>
    simp only [ba,if_false] at q7 ⊢;obtain ⟨m',hm,w7⟩:=q7;obtain ⟨t7,f7⟩:=d9 I7;exact ⟨m',hm,i+1,f,xs,oD,H7,(I7.weak l6.symm hw).unpinned,b0,a0,b8,t7,f7,w7⟩
   |true =>
    simp only [if_true] at q7 ⊢;refine eK (pe _ s7 a2 H7 _ I7 q7) λu8 s8 g0=>?_;obtain ⟨y,Ha,Ia,ra,qa⟩:=g0;refine eK (pv _ s8 a2 Ha _ Ia qa) λu9 s9 e1=>?_;obtain ⟨v,H8,I8,r8,k,m',hy,hm,w8⟩:=e1;obtain ⟨t8,f8⟩:=d9 I8;obtain ⟨pD,pN,_⟩:=I8.pin (h.heap.objs.size,_) (al _ (aN _ (List.mem_singleton.mpr rfl)));subst hy;obtain ⟨x1,es,ep,x2,x3,x5,x4⟩:=b0;have dd:s9.heap.DictOf (cS X.prog X.w) h.heap.objs.size xs:=⟨oD,es,ep,pD,x1,x2,x3,x5,x4⟩;have lx:xs.length=f.length:=(gZ a0).symm;refine wpAny_dictSet_pairs (yJ ra) dd (λh9 g3 c4=>?_) (by omega);obtain ⟨o9,h1,g1,g4,y1,y2,y3,y5,y4⟩:=g3;refine ⟨m',hm,i+1,_,_,o9,H8,?_,⟨y1,h1,g1,y2,y3,y5,y4⟩,a0.put k r8,by have:=jF f k v;omega,T.keep _ _ _ t8 λb s o e=>c4.extBut b o (λz=>c0 (z ▸ s)) e,f8,w8⟩;have f6:bL (bu X N' scope (aI (G2.objs.size+1) scope.names G) G2.objs.size h I B (X.pn++pins)) [] (gx nt ix σ) H8 s9:=(I8.weak l6.symm hw).pins_of λp hp=>absurd hp (by simp);have I9:bL (bu X N' scope (aI (G2.objs.size+1) scope.names G) G2.objs.size h I B (X.pn++pins)) [] (gx nt ix σ) H8 { s9 with heap:=h9,toks:=s9.toks+1 } :=
     f6.turned (it:=h.heap.objs.size) (λb o s e=>c4.extBut b o s e) pN Y (.inr (aw _)) (λx c e z=>by
      rcases cne x c e with e|e
      ·obtain ⟨v,q⟩:=O.cell x c e;exact absurd q.lt (by rw [z];exact bf _)
      ·exact absurd e (by rw [z];exact bf _)) λp hp z=>by
      have hp:p∈X.pn++pins:=(List.mem_append.mp hp).elim id λz=>absurd z (by simp);exact absurd (av (O.pin p hp).1) (by rw [z];exact bf _)
    exact I9.pin1 g4 pN Y a5 (λv z=>by rw [y2] at z;cases z)
 exact codeAny_compStart_dict a3 (T.self _ 0 _ _ _ d1 a3)
inductive OV (nt:Nat) (ix:List Nat) (g:TG) (tt:TT) (te tv:TE) (σ:St) (Q:VK) (J:It) (H1:Hp):Prop
 |mk (W:Nat->Nat->BW->Hp->Prop) (w0:∃ m,W 0 m [] H1) (turn:∀ i m acc H,W i m acc H ->
 (J.stop i H/\∀ p,H p=none->Q (.ref p) (upd H p (.dK acc))) \/
 (J.go i H/\acc.length<sizeLine/\∀ x H',J.yld i H x H'->g x (gx nt ix σ) H' λσ2 H2=>tt σ2 H2 λb H3 =>
  if b=true then te σ2 H3 λy H4=>tv σ2 H4 λv H5=>∃ k m',y=kV k/\m'<m/\W (i+1) m' (kn acc k v) H5 else ∃ m',m'<m/\W (i+1) m' acc H3)):OV nt ix g tt te tv σ Q J H1
def JC (nt:Nat) (ix:List Nat) (d:TI) (g:TG) (b:TT) (a c:TE):TE:=λσ H Q=>d σ H (OV nt ix g b a c σ Q)
end L2
namespace J
open PySem L2
section
variable {c:C}{pos:Pos}{x:Str}{kx vx iter tg:bp}{ifs:List bp}{scope:eX}{N':List Str}{nt:Nat}{ix:List Nat}{gi:aC->R (List D)}{gt:aC->R Bool}{gk gv:aC->R D}
def R_ (gk gv:aC->R D):aC->R D:=λρ=>(gk ρ).bind λk=>(gv ρ).bind λv=>match mz k with
 |some _=>.ok (.tuple [k,v])
 |none=>.no
def pK (nt:Nat) (ix:List Nat) (gi:aC->R (List D)) (gt:aC->R Bool) (gk gv:aC->R D):aC->R D:=λρ=>(gi ρ).bind λds=>if ds.length<=1000 then (fw (iA nt (kr nt ix ρ) gt (R_ gk gv)) ds).bind λys=>.ok (.dict (Wj ys)) else .no
inductive dcK (K:aa) (f:D->R (Option D)) (ds ys:List D) (H1 Hs1:Hp) (i m:Nat) (acc:BW) (H':Hp):Prop
 |mk (done bS zs ya Hs':_) (h0:ds=done++bS) (h1:done.length=i) (h2:bS.length=m) (h3:cP H1 Hs1 H' Hs') (h4:RDk K Hs' acc (Wj ya)) (h5:acc.length<=i) (h6:fw f bS=.ok zs) (h7:ys=ya++zs):dcK K f ds ys H1 Hs1 i m acc H'
def Lj (a1:nt=1\/nt=2)
  (q:TN K cls E ρ (pK nt ix gi gt gk gv ρ) σ H Q) :
  JC nt ix (Vg K cls E ρ (gi ρ)) (y_ K nt) (λσ H Q=>∃ a,E5 K cls E0 a (gt a) σ H Q) (λσ H Q=>∃ a,TR K cls E0 a (gk a) σ H Q) (λσ H Q=>∃ a,TR K cls E0 a (gv a) σ H Q) σ H Q:=by
 obtain ⟨H0,a5,la,Hs,f,q⟩:=q;refine ⟨H0,a5,la,Hs,f,?_⟩;unfold pK at q;cases hi:gi ρ with
 |no=>rw [hi] at q;exact q
 |ex x n=>rw [hi] at q;exact q
 |ok ds =>
  rw [hi,bind_ok] at q;intro J H1 s Hn s1 sn it;by_cases hl:ds.length<=1000
  ·rw [if_pos hl] at q;cases L:fw (iA nt (kr nt ix ρ) gt (R_ gk gv)) ds with
   |no=>rw [L] at q;exact q.elim
   |ex x n=>exact (vA (z0 _ _ _ _) _ _ _ L).elim
   |ok ys =>
    rw [L,bind_ok] at q;obtain ⟨lb,fb⟩:=(f.step s1).block nt ix;refine ⟨dcK K (iA nt (kr nt ix ρ) gt (R_ gk gv)) ds ys H1 s,
     ⟨ds.length,[],ds,ys,[],s,rfl,rfl,rfl,.refl s1.sub,.nil,cx _,L,rfl⟩,?_⟩
    rintro i m Y H' ⟨done,bS,zs,ya,t,g,h,w,st,U,yl,hz,M⟩;obtain ⟨a4,j,A⟩:=it H' t (sn.trans st.all) st.sh st.sub;cases bS with
    |nil =>
     left;cases hz;rw [bN] at g M;subst M g;exact ⟨j i (by omega),λp hp=>q p _ H' t (s1.trans st) hp (.dK U)⟩
    |cons d bS =>
     right;have G:i<ds.length:=by rw [g,aJ,aY];omega
     refine ⟨a4 i G,eg (by omega),λx H2 a3=>?_⟩;obtain ⟨d',a2,hd,P,r2⟩:=A i x H2 G a3;have a0:d'=d:=by
      rw [g,bg (by omega)] at hd;simp [h] at hd;exact hd.symm
     subst a0;obtain ⟨o,B,e,I,rfl⟩:=pE hz;have e:=vw e;cases O:Tu nt d' (kr nt ix ρ) with
     |no=>rw [O] at e;cases e
     |ex x n=>rw [O] at e;cases e
     |ok a =>
      rw [O,bind_ok] at e;refine vz a1 ((fb.step st).step P) r2 O λa6 f2=>⟨a,?_⟩;refine ⟨_,_,_,a2,f2,?_⟩;cases ht:gt a with
      |no=>rw [ht] at e;cases e
      |ex x n=>rw [ht] at e;cases e
      |ok b =>
       rw [ht,bind_ok] at e;intro H3 l k;cases b with
       |false =>
        rw [if_neg bw] at e;cases e;refine xS ⟨bS.length,by rw [<- w];simp,done++[d'],bS,B,ya,l,by rw [g];simp,by simp [h],rfl,(st.trans P).trans k,U.same (P.trans k).sh,by omega,I,by simpa using M⟩
       |true =>
        rw [if_pos rfl] at e;refine xT ⟨a,_,_,_,l,f2.step k,?_⟩;unfold R_ at e;cases he:gk a with
        |no=>rw [he] at e;cases e
        |ex x n=>rw [he] at e;cases e
        |ok y =>
         rw [he,bind_ok] at e;intro v H4 T s4 r4;refine ⟨a,_,_,_,T,(f2.step k).step s4,?_⟩;cases X:gv a with
         |no=>rw [X] at e;cases e
         |ex x n=>rw [X] at e;cases e
         |ok z =>
          rw [X,bind_ok] at e;intro u H5 S s5 r5;cases hk:mz y with
          |none=>rw [hk] at e;cases e
          |some N =>
           rw [hk] at e;cases e;obtain rfl:=mB hk;obtain rfl:=wL r4;have sA:=((P.trans k).trans s4).trans s5;exact ⟨N,bS.length,rfl,by rw [<- w];simp,done++[d'],bS,B,ya++[.tuple [kD N,z]],S,by rw [g];simp,by simp [h],rfl,st.trans sA,by rw [OJ];exact (U.same sA.sh).put N r5,by have:=jF Y N u;omega,I,by rw [M];simp⟩
  ·rw [if_neg hl] at q;exact q.elim
end
end J
namespace L2
open PySem PySem.Spec PyProof.Rows
def Lk
  (hu:X.A.units<gC) (hN:X.N.Nodup) (hiN:X.N[i]?=some y) (hy:X.env.scope.names.lookup y=some .local)
  (hc:X.calm=true) (S:jk X scope N' nt ix) (lo:Ml nt g) (hi:PI X tg iter wi)
  (hb:∀ cl C s₀ H₀ ex pn,PG (bu X N' scope cl C s₀ H₀ ex pn) tg g/\E4 (bu X N' scope cl C s₀ H₀ ex pn) ifs tt/\PE (bu X N' scope cl C s₀ H₀ ex pn) kx te/\PE (bu X N' scope cl C s₀ H₀ ex pn) vx tv)
  (hsw:gF (.DictComp kx vx [⟨tg,iter,ifs,0⟩] scope pos) (some (.Name y py)) spos.line X.env=pure true:=by rfl)
  (hs:∀ x,bU iter X.env x=pure x:=by intro _;rfl):PS X (.Assign [.Name y py] (.DictComp kx vx [⟨tg,iter,ifs,0⟩] scope pos) spos) (Tg i (JC nt ix wi g tt te tv)):=by
 intro pins s σ H D I h;obtain ⟨cl,hcl,c1,c2⟩:=mq (scope:=scope) (env:=X.env) λy hy hf=>I.ok.has y.1 (S.free y hy hf);rw [Qe _ _ _ _ hsw];refine a8 (cU (a8 ?_));show au _ X.A (do let _ <- yd (.DictComp kx vx [⟨tg,iter,ifs,0⟩] scope pos) scope X.env _ newDict false (dn iter X.env) (some (iV (.Name y py) X.env))) _ _ s;refine a8 (aT (im (use:=some (iV (.Name y py) X.env)) (Q:=λ_ s'=>SP X pins D .next s') rfl hs hcl S.kind S.loc
  (eK (hi pins s σ H _ I h) λv s1 h1=>eK h1 λitv s2 h2=>?_)) (λ_ s' hq=>a9 (a9 hq)) λ_ _ e=>e)
 obtain ⟨it,fp,tn,J,H2,e,I2,T,st2,f2,W,w0,turn⟩:=h2;subst e;refine Fa (Q:=λx H1=>D.nx (σ.set i (some x)) H1) (RR:=λacc C=>GD (aA X.prog X.w) X.A X.xe (some (iV (.Name y py) X.env)) (λ_ s'=>SP X pins D .next s') acc C) hu hc S lo hb c1 c2 I2 T st2 f2 w0 turn ?_;intro L C m s' acc H' hD fC q hn hI;show au _ X.A (iV (.Name y py) X.env (.ref L)) _ _ _;have I3:bL X pins σ (upd H' L (.dK acc)) s':=hI s'.heap (.refl ..);refine Aq (wu I3 hN hiN (.inl hy) (v:=.ref L) rfl (λs4 I4 ⟨a,sb,ha⟩=>?_) (.inr hy));obtain ⟨g0,g1,g2,g3,g4,g5⟩:=fC;have hCa:C≠a:=by
  rcases ha with z|z
  ·rw [z];exact g1
  ·exact λe=>g4 y a z e.symm
 refine ⟨m,hn.sameBut sb hCa,λh5 sb5=>?_⟩;exact ⟨_,_,I4.turned (t':=s4.toks) (λb o hb e=>(sb5.2 b hb).trans e) g0 g1 g3 g4 g5,q⟩
end L2
namespace J
open PySem L2
def Di (i:Nat) (nt:Nat) (b:nt=1\/nt=2) (z:c.X.A.units+1<gC) (l:c.X.N.Nodup) (n:c.X.calm=true) (S:jk c.X scope N' nt ix) (s:JI c tg iter gi) (t:HA c N' scope nt tg ifs kx vx gt gk gv)
  (j:c.X.N[i]?=some x:=by rfl) (m:c.X.env.scope.names.lookup x=some .local:=by rfl)
  (h:gF (.DictComp kx vx [⟨tg,iter,ifs,0⟩] scope pos) (some (.Name x py)) spos.line c.X.env=pure true:=by rfl)
  (hs:∀ x,bU iter c.X.env x=pure x:=by intro _;rfl):JS c (.Assign [.Name x py] (.DictComp kx vx [⟨tg,iter,ifs,0⟩] scope pos) spos) (fv i (pK nt ix gi gt gk gv)):=.of λρ=>Am (Lk (by omega) l j m n S (vy b) (s ρ) t.at h hs) λD σ H e=>by
 obtain ⟨B,y,la,Hs,f,q⟩:=e;refine Lj (Q:=λx k=>D.nx (σ.set i (some x)) k) b (sN f q λd a o k g v u p w=>?_);unfold fv at q;rw [v,bind_ok] at q;exact q _ _ g (u.setO i p w)
end J
namespace TP
open PySem PyProof.Rows PySem.W TS
def Sp (a:List af) (x:Str×Int):Prop:=∃ t u,a=[.str x.1 t,.int x.2 u]
def pl (x y:Str×Int):Bool:=if x.1=y.1 then decide (x.2<y.2) else decide (x.1.cps.toList<y.1.cps.toList)
def Pk (h:bD) (v:af) (x:Str×Int):Prop:=∃ a o b n,v=.ref a/\h.get? a=some o/\o.cls=.type "tuple"/\o.data=.seq b n/\Sp b.toList x
section
variable {prog:a_}{w:bz}{A:bB}{E:af->ai->Prop}{s:ai}{Q:Bool->ai->Prop}{v u:af}{x y:Str×Int}{a b:ao}
def OW {g f:List af}{fin:Bool} (h:Sp g x) (i:Sp f y) (e:fin=false) (q:Q (pl x y) s):KatLex prog w A true fin Q (g.zip f) 0 s:=by
 obtain ⟨t,t',rfl⟩:=h;obtain ⟨u,j,rfl⟩:=i;subst e
 rw [jR,jR,ME]
 refine kat_cons (Ci ?_)
 unfold pl at q
 by_cases c:x.1=y.1
 ·rw [if_pos c] at q
  rw [show decide (x.1=y.1)=true by simp [c]]
  refine kat_yes (kat_cons (Ch ?_))
  by_cases d:x.2=y.2
  ·rw [show (x.2==y.2)=true by simp [d]]
   refine kat_yes (kat_nil ?_)
   rw [show decide (x.2<y.2)=false by simp [d]] at q
   exact q
  ·rw [show (x.2==y.2)=false by simp [d]]
   exact kat_no (kat_one _ _ (lt_int q))
 ·rw [if_neg c] at q
  rw [show decide (x.1=y.1)=false by simp [c]]
  exact kat_no (oneLt_str q)
def S0 (h:Pk s.heap v x) (l:Pk s.heap u y) (q:Q (pl x y) s):au (aA prog w) A (keyLt' (tuples' true) v u) Q E s:=by
 obtain ⟨a,o,G,n,rfl,k,_,z,d⟩:=h;obtain ⟨b,I,p,m,rfl,j,_,i,c⟩:=l
 refine kat_lt k z j i (OW d c ?_ q)
 obtain ⟨t,t',e⟩:=d;obtain ⟨u,H,f⟩:=c
 have B:G.size=2:=by rw [<- ax,e];rfl
 have g:p.size=2:=by rw [<- ax,f];rfl
 simp [B,g]
def tR {P:Fin->ai->Prop} (z:Pk s.heap (.ref a) x) (n:Pk s.heap (.ref b) y) (h:P (.done (.ret (.bool (pl x y)))) s) :
  au (aA prog w) A (iC.«tuple.__lt__» ⟨[.ref a,.ref b],[]⟩) P E s:=by
 obtain ⟨_,H,xs,K,o,k,p,l,t,t',e⟩:=z;obtain ⟨_,ob,ys,G,q,d,j,i,u,I,c⟩:=n;cases o;cases q
 show au _ _ (isInstance (.ref b) (.type "tuple") >>= _) _ _ s
 refine a8 (gI (T:="tuple") ⟨_,d,j⟩ isSubtype_tuple_tuple ?_)
 simp only [iM,ba,if_false]
 refine a8 (wpAny_tupleItemsOf k l ?_)
 refine a8 (wpAny_tupleItemsOf d i ?_)
 have B:xs.size=2:=by rw [<- ax,e];rfl
 have m:ys.size=2:=by rw [<- ax,c];rfl
 refine a8 ?_
 rw [e,c,jR,jR,ME,gP]
 unfold pl at h
 refine a8 (a8 (Ci ?_))
 by_cases f:x.1=y.1
 ·rw [if_pos f] at h
  rw [show decide (x.1=y.1)=true by simp [f]]
  simp only [iM,ba,if_false]
  refine a9 ?_
  dsimp only
  rw [gP]
  refine a8 (a8 (Ch ?_))
  by_cases g:x.2=y.2
  ·rw [show (x.2==y.2)=true by simp [g]]
   simp only [iM,ba,if_false]
   refine a9 ?_
   dsimp only
   rw [kz]
   refine a9 (a9 ?_)
   show P (.done (.ret (.bool (decide (xs.size<ys.size))))) s
   rw [show decide (x.2<y.2)=false by simp [g]] at h
   rw [B,m];exact h
  ·rw [show (x.2==y.2)=false by simp [g]]
   simp only [i8,if_true]
   refine a8 (dH (a8 (lt_int ?_)))
   exact a8 (a9 (a9 (a9 (a9 h))))
 ·rw [if_neg f] at h
  rw [show decide (x.1=y.1)=false by simp [f]]
  simp only [i8,if_true]
  refine a8 (dH (a8 (lt_str ?_)))
  exact a8 (a9 (a9 (a9 (a9 h))))
def Pk.typeIs (h:Pk s.heap v x):s.TypeIs v "tuple":=by
 obtain ⟨a,o,e,n,rfl,c,d,_⟩:=h;exact ⟨_,c,d⟩
def VH (h:A.units<gC) (c:Pk s.heap v x) (g:Pk s.heap u y) (q:Q (pl x y) s):au (aA prog w) A (keyLt' general' v u) Q E s:=by
 have f:=c;have d:=g;obtain ⟨a,_,_,_,rfl,_⟩:=f;obtain ⟨b,_,_,_,rfl,_⟩:=d
 refine kat_one _ _ (wpAny_richCompare_same_room (op:=.Lt) c.typeIs g.typeIs tM
  (bO tM c.typeIs F.entry_tuple_lt (tR c g ⟨_,rfl,(λe=>nomatch e),q⟩) (F.args_tuple_lt_2 _ _)) h)
def VI (g:A.units<gC) (c:Pk s.heap v x) (f:Pk s.heap u y) (q:Q (pl x y) s):au (aA prog w) A (keyLt' oneType' v u) Q E s:=by
 have e:=c;have d:=f;obtain ⟨a,_,_,_,rfl,_⟩:=e;obtain ⟨b,_,_,_,rfl,_⟩:=d
 rw [keyLt'_oneType,oneLt'_eq];simp only [if_true];refine a8 (wpAny_cRoomFor_or (.inr g) ?_)
 refine a8 (wpAny_callSpecialIfBound?_slot c.typeIs tM (bO tM c.typeIs F.entry_tuple_lt (tR c f ⟨_,rfl,?_⟩) (F.args_tuple_lt_2 _ _)))
 exact de q
end
section
variable {prog:a_}{w:bz}{A:bB}{E:af->ai->Prop}{s:ai}{kd:lH}{rk:af->Nat}{L:List fH}{st:jj}{a:Array fH}
def S1 (P:Cp prog w A s kd rk L) (N:(L.map λp=>rk p.1).Nodup) (B:Bs kd L st) (U:eB st=#[]) (h2:2<=L.length) (a0:L.length<64)
  (h:∀ b,Bs kd L b->Up rk (bQ b) 0 L.length->Q () b):wpS (aA prog w) A E s sortRuns' Q st:=by
 refine dq (MC ?_);extract_lets size d lo;have hsz:size=L.length:=B.size;have t:d=minRun' L.length L.length 0:=by rw [<- hsz];rfl
 have m3:d=L.length:=by
  rw [t];obtain ⟨f,l⟩:∃ f,L.length=f+1:=⟨L.length-1,by omega⟩
  have:minRun' (f+1) L.length 0=L.length:=by rw [minRun'_succ,if_pos (by omega)];rfl
  rw [<- l] at this;exact this
 clear_value size d;subst hsz;refine dq (sX (lI
  (I:=λx c b=>Bs kd L b/\((x=0/\c=(none,0)/\eB b=#[])\/(x=1/\∃ n,c=(none,n)/\eB b=#[(0,n,0)]/\d<=n/\n<=L.length/\Up rk (bQ b) 0 n)))
  (Q:=λc b=>Bs kd L b/\∃ n,c=(none,n)/\(eB b).size=1/\Up rk (bQ b) 0 L.length) ?step ?fin ⟨B,.inl ⟨rfl,rfl,U⟩⟩) ?post)
 case fin =>
  rintro c b ⟨g,⟨e,_⟩|⟨e,_⟩⟩
  ·omega
  ·omega
 case step =>
  rintro x c z-hx ⟨m,⟨rfl,rfl,j⟩|⟨rfl,n,rfl,j,K,n2,u⟩⟩
  ·refine jH (λi=>?_) λ_=>?_
   ·have i:0 ≥ L.length:=i;omega
   refine dq (RX (lo:=0) (r:=L.length-0) P N m (by omega) (by omega) λn y O H k2 K n2 M=>?_);dsimp (config:={ zeta:=false }) only;extract_lets nn T;have J:∀ n b,Bs kd L b->eB b=#[]->d<=n->n<=L.length->Up rk (bQ b) 0 n->wpS (aA prog w) A E s (T () n) (λr b=>∃ c,r=.yield c/\Bs kd L b/\∃ n,c=(none,n)/\eB b=#[(0,n,0)]/\d<=n/\n<=L.length/\Up rk (bQ b) 0 n) b:=by
    intro n b g o G q u;refine dq (MC ?_);extract_lets Y;rw [show (sortPriv% PySem.Builtin.SortState.pending) b=#[] from o];refine dq (wpS_modify (fu ⟨_,rfl,⟨g.kind,g.perm,g.ok⟩,n,?_,?_,G,q,u⟩))
    ·show ((none,0+n):Option Unit×Nat)=(none,n);rw [xI]
    ·show (eB b).push _=_;rw [o];rfl
   refine sX (Q:=λr b=>∃ c,r=.yield c/\Bs kd L b/\∃ n,c=(none,n)/\eB b=#[(0,n,0)]/\d<=n/\n<=L.length/\Up rk (bQ b) 0 n) (jH (λk=>?_) λk=>?_) ?_
   ·have k:n<d:=k;refine dq (wpS_lift (dH ⟨rfl,?_⟩));have l:min (L.length-0) d=d:=by omega
    refine dq (XH (lo:=0) (n:=min (L.length-0) d) P N O (by omega) K (by omega) M λv B3 X k3 S=>?_);refine jH (λh=>by cases h) λ_=>?_;rw [l] at S;exact J (min (L.length-0) d) v B3 (X.trans (H.trans j)) (by omega) (by omega) (by rw [l];exact S)
   ·have k:¬ n<d:=k;exact J n y O (H.trans j) (by omega) (by omega) M
   ·rintro r b ⟨c,rfl,g,n,rfl,o,G,q,u⟩;exact ⟨g,.inr ⟨rfl,n,rfl,o,G,q,u⟩⟩
  ·refine jH (λi=>fu ⟨m,n,rfl,by rw [j];rfl,?_⟩) λi=>absurd (show n ≥ L.length by omega) i
   have i:n ≥ L.length:=i;rw [show L.length=n by omega];exact u
 case post =>
  rintro c z ⟨m,lo,rfl,j,u1⟩
  refine dq (sX (lI (I:=λx c b=>c=(none,())/\Bs kd L b/\(eB b).size=1/\Up rk (bQ b) 0 L.length) (Q:=λc b=>c=(none,())/\Bs kd L b/\Up rk (bQ b) 0 L.length) ?_ ?_ ⟨rfl,m,j,u1⟩) ?_)
  ·rintro x c b - hx ⟨rfl,g,j,u⟩;refine dq (MC (jH (λ_=>fu ⟨rfl,g,u⟩) λi=>absurd ?_ i));show (eB b).size<=1;omega
  ·rintro c b ⟨rfl,g,j,u⟩;exact ⟨rfl,g,u⟩
  ·rintro c b ⟨rfl,g,u⟩;exact fu (h b g u)
end
def pl_irrefl (x:Str×Int):pl x x=false:=by unfold pl;rw [if_pos rfl];simp
def pl_total (x y:Str×Int) (c:pl x y=false) (d:pl y x=false):x=y:=by
 unfold pl at c d
 by_cases e:x.1=y.1
 ·rw [if_pos e] at c;rw [if_pos e.symm] at d
  have a:=of_decide_eq_false c;have b:=of_decide_eq_false d
  exact Prod.ext e (by omega)
 ·rw [if_neg e] at c;rw [if_neg (cF e)] at d
  exact absurd (VE (PyProof.Rows.strKind.total x.1.cps.toList y.1.cps.toList c d)) e
def pl_trans (x y z:Str×Int) (f:pl x y=true) (d:pl y z=true):pl x z=true:=by
 unfold pl at f d ⊢
 by_cases e:x.1=y.1
 ·rw [if_pos e] at f
  by_cases c:y.1=z.1
  ·rw [if_pos c] at d;rw [if_pos (e.trans c)]
   have a:=of_decide_eq_true f;have b:=of_decide_eq_true d
   exact decide_eq_true (by omega)
  ·rw [if_neg c] at d;rw [if_neg (by rw [e];exact c),e];exact d
 ·rw [if_neg e] at f
  by_cases c:y.1=z.1
  ·rw [if_neg (by rw [<- c];exact e),<- c];exact f
  ·rw [if_neg c] at d
   have g:=PyProof.Rows.strKind.trans x.1.cps.toList y.1.cps.toList z.1.cps.toList f d
   rw [if_neg λh=>by rw [h,PyProof.Rows.strKind.irrefl] at g;cases g];exact g
def Sp.inj {c:List af}{x y:Str×Int} (d:Sp c x) (f:Sp c y):x=y:=by
 obtain ⟨t,u,rfl⟩:=d;obtain ⟨t',g,e⟩:=f
 injection e with b a;injection a with a _;injection b with b _;injection a with a _
 exact Prod.ext b a
def AS (xs:List (Str×Int)) (x:Str×Int):Nat:=xs.countP λy=>pl y x
def JD (a:x∈xs) (h:pl x y=true):AS xs x<AS xs y :=
 BU (λz _ b=>pl_trans z x y b h) a (pl_irrefl x) h
def vI (c:x∈xs) (b:y∈xs):decide (AS xs x<AS xs y)=pl x y:=by
 cases h:pl x y with
 |true=>exact decide_eq_true (JD c h)
 |false =>
  refine decide_eq_false λd=>?_;cases a:pl y x with
  |true=>have:=JD b a;omega
  |false=>rw [pl_total x y h a] at d;omega
def OX (a:x∈xs) (b:y∈xs) (h:AS xs x=AS xs y):x=y:=by
 refine pl_total x y ?_ ?_
 ·rw [<- vI a b];simp [h]
 ·rw [<- vI b a];simp [h]
def Pk.inj (d:Pk h v x) (g:Pk h v y):x=y:=by
 obtain ⟨a,o,l,n,rfl,e,_,i,j⟩:=d;obtain ⟨_,p,q,m,f,b,_,c,k⟩:=g;cases f;rw [e] at b;cases b;rw [i] at c;cases c;exact j.inj k
def Pks (h:bD):List af->List (Str×Int)->Prop
 |[],[]=>True
 |v::a,x::xs=>Pk h v x/\Pks h a xs
 |_,_=>False
def Pks.len:∀ {a:List af}{xs:List (Str×Int)},Pks h a xs->a.length=xs.length
 |[],[],_=>rfl
 |_::_,_::_,t=>congrArg (· + 1) t.2.len
 |[],_::_,t=>t.elim
 |_::_,[],t=>t.elim
def Pks.mem : ∀ {a:List af}{xs:List (Str×Int)},Pks h a xs->v∈a->∃ x∈xs,Pk h v x
 |c::a,x::xs,t,hm=>by
  rcases aQ.1 hm with rfl|hm
  ·exact ⟨x,ak ..,t.1⟩
  ·obtain ⟨y,b,e⟩:=Pks.mem t.2 hm;exact ⟨y,ag _ b,e⟩
 |[],_,_,hm=>by cases hm
 |_::_,[],t,_=>t.elim
def Pks.keep (k:∀ v x,Pk h v x->Pk h' v x):∀ {a:List af}{xs:List (Str×Int)},Pks h a xs->Pks h' a xs
 |[],[],_=>trivial
 |_::_,_::_,t=>⟨k _ _ t.1,Pks.keep k t.2⟩
 |[],_::_,t=>t.elim
 |_::_,[],t=>t.elim
def Pks.perm:∀ {d a:List af}{xs:List (Str×Int)},d.Perm a->Pks h a xs->∃ ys,Pks h d ys/\ys.Perm xs:=by
 intro d a xs p;induction p generalizing xs with
 |nil=>exact λt=>⟨xs,t,.refl _⟩
 |cons v p e =>
  intro t;cases xs with
  |nil=>exact t.elim
  |cons x xs =>
   obtain ⟨ys,c,b⟩:=e t.2;exact ⟨x::ys,⟨t.1,c⟩,b.cons x⟩
 |swap v u l =>
  intro t
  match xs,t with
  |x::y::xs,t=>exact ⟨y::x::xs,⟨t.2.1,t.1,t.2.2⟩,.swap x y xs⟩
  |[_],t=>exact t.2.elim
  |[],t=>exact t.elim
 |trans p q ih1 ih2 =>
  intro t;obtain ⟨ys,c,b⟩:=ih2 t;obtain ⟨f,i,g⟩:=ih1 c;exact ⟨f,i,g.trans b⟩
open Classical in
noncomputable def HB (h:bD) (xs:List (Str×Int)) (v:af):Nat:=if e:∃ x,Pk h v x then AS xs e.choose else 0
def sr (t:Pk h v x):HB h xs v=AS xs x:=by
 have e:∃ x,Pk h v x:=⟨x,t⟩;unfold HB;rw [dif_pos e,e.choose_spec.inj t]
def XO (d:A.units<gC) (k:Kd kd) (t:Pks s.heap vs xs):Cp prog w A s kd (HB s.heap xs) (vs.zip vs):=by
 intro x i y e Q E q;obtain ⟨l,j⟩:=AE i;obtain ⟨m,g⟩:=AE e;obtain ⟨a,f,c⟩:=t.mem j;obtain ⟨b,h,tb⟩:=t.mem g;rw [sr c,sr tb,vI f h] at q;rcases k with rfl|rfl|rfl
 ·exact S0 c tb q
 ·exact VH d c tb q
 ·exact VI d c tb q
def Fb:∀ {a:List af}{xs ys:List (Str×Int)}{h:bD},Pks h a xs->(∀ x∈xs,x∈ys)->xs.Nodup->((a.zip a).map λp=>HB h ys p.1).Nodup
 |[],[],_,_,_,_,_=>eV
 |v::a,x::xs,ys,h,t,s,n=>by
  rw [jR,az,dS];refine ⟨λc=>?_,Fb t.2 (λx f=>s x (ag _ f)) (dS.1 n).2⟩;obtain ⟨p,d,e⟩:=cC.1 c;obtain ⟨y,b,ty⟩:=t.2.mem (AE d).2;rw [sr ty,sr t.1] at e;rw [OX (s y (ag _ b)) (s x (ak ..)) e] at b;exact (dS.1 n).1 b
 |[],_::_,_,_,t,_,_=>t.elim
 |_::_,[],_,_,t,_,_=>t.elim
def OY (t:Pk s.heap v x) (q:∀ o,(o=none\/∃ b u,o=some (.str b u))->Q o s):au (aA prog w) A (firstOfTuple' v) Q E s:=by
 obtain ⟨a,o,g,n,rfl,d,e,f,c⟩:=t;rw [kas_first_eq];refine a8 (Looks.here (show Looks (aA prog w) s.heap (typeOf (.ref a)) o.cls from (Looks.ld d).andThen .now) ?_);rw [e,if_neg (by first|decide|simp)];refine a8 (listItems_at d f (a9 (q _ ?_)));rw [<- ck]
 obtain ⟨t,u,c⟩:=c;rw [c];exact .inr ⟨x.1,t,rfl⟩
def BX:∀ {d:List af}{xs:List (Str×Int)}{Q:List (Option af)->ai->Prop},Pks s.heap d xs->(∀ c:List (Option af),c.length=d.length->(∀ o∈c,o=none\/∃ b u,o=some (.str b u))->Q c s)->au (aA prog w) A (d.mapM firstOfTuple') Q E s
 |[],[],_,_,q=>by rw [List.mapM_nil];exact a9 (q [] rfl (by simp))
 |v::d,x::xs,Q,t,q=>by
  rw [List.mapM_cons];refine a8 (OY t.1 λo ho=>a8 (BX t.2 λc e f=>a9 (q _ (by simp [e]) ?_)));intro g a;rcases aQ.1 a with rfl|a
  ·exact ho
  ·exact f _ a
 |[],_::_,_,t,_=>t.elim
 |_::_,[],_,t,_=>t.elim
def S2 {i:List af}{xs:List (Str×Int)}{Q:lH->ai->Prop} (z:2<=i.length) (t:Pks s.heap i xs) (q:∀ kd,Kd kd->Q kd s):au (aA prog w) A (keyKind' i.toArray) Q E s:=by
 rw [kat_kind_eq,MD,map_eq_pure_bind];refine a8 (a8 (BX t λc B p=>a9 ?_));by_cases d:(c.toArray.all λx=>x.isSome)=true
 ·rw [if_pos d];refine a8 (dH ?_);have hs:∀ o∈c,∃ b u,o=some (.str b u):=λo ho=>by
   rcases p o ho with rfl|h
   ·simp at d;have:=d _ ho;cases this
   ·exact h
  have f:c.toArray.filterMap id=(c.filterMap id).toArray:=by simp
  rw [f];have y:(c.filterMap id).length=c.length:=by
   have:∀ c:List (Option af),(∀ o∈c,∃ b u,o=some (.str b u))->(c.filterMap id).length=c.length:=by
    intro c;induction c with
    |nil=>intro _;rfl
    |cons o c k =>
     intro hs;obtain ⟨b,u,rfl⟩:=hs o (ak ..);rw [mj];simp only [id];rw [aY,k λo ho=>hs o (ag _ ho)];rfl
   exact this c hs
  refine a8 (OR (T:=.type "str") (by omega) (λv g=>?_) (by rfl) (a9 (q _ (.inl rfl))));obtain ⟨o,ho,e⟩:=List.mem_filterMap.1 g;obtain ⟨b,u,rfl⟩:=hs o ho;cases e;exact .now
 ·rw [if_neg d];by_cases j:(c.toArray[0]?.bind id).isSome=true
  ·rw [if_pos j];exact a9 (q _ (.inr (.inl rfl)))
  ·rw [if_neg j];refine a8 (OR (T:=.type "tuple") (by omega) (λv g=>?_) (by rfl) (a9 (q _ (.inr (.inr rfl)))));obtain ⟨x,_,a,o,G,n,rfl,l,m,_⟩:=t.mem g;rw [<- m];exact (Looks.ld l).andThen .now
def Pks.inj:∀ {c:List af}{xs ys:List (Str×Int)},Pks h c xs->Pks h c ys->xs=ys
 |[],[],[],_,_=>rfl
 |_::_,_::_,_::_,b,a=>by rw [b.1.inj a.1,Pks.inj b.2 a.2]
 |[],_::_,_,t,_=>t.elim
 |[],[],_::_,_,t=>t.elim
 |_::_,[],_,t,_=>t.elim
 |_::_,_::_,[],_,t=>t.elim
def Pk.keepNe (g:h.get? a=some (ji "list" vs n)) (k:∀ b o,b≠a->h.get? b=some o->h'.get? b=some o) (v:af) (x:Str×Int) (t:Pk h v x):Pk h' v x:=by
 obtain ⟨b,o,f,m,rfl,c,d,i⟩:=t;refine ⟨b,o,f,m,rfl,k b o (λe=>?_) c,d,i⟩;subst e;rw [g] at c;cases c;simp at d
def zx : ∀ {xs:List fH}{e:List (Str×Int)},Pks h (xs.map (·.1)) e->(∀ z∈e,z∈ys)->xs.Pairwise (XF (HB h ys))->e.Pairwise (λa b=>pl a b=true)
 |[],[],_,_,_=>qM
 |x::xs,z::e,t,f,p=>by
  have g:=jS.1 p;refine jS.2 ⟨λb hb=>?_,zx t.2 (λz m=>f z (ag _ m)) g.2⟩;have:∀ {d:List fH}{c:List (Str×Int)},Pks h (d.map (·.1)) c->b∈c->∃ u∈d,Pk h u.1 b:=by
   intro d;induction d with
   |nil=>intro c t hb;cases c with
    |nil=>cases hb
    |cons=>exact t.elim
   |cons u d i=>intro c t hb;cases c with
    |nil=>cases hb
    |cons w c =>
     rcases aQ.1 hb with rfl|hb
     ·exact ⟨u,ak ..,t.1⟩
     ·obtain ⟨q,j,n⟩:=i t.2 hb;exact ⟨q,ag _ j,n⟩
  obtain ⟨u,o,k⟩:=this t.2 hb;have l:=g.1 u o;unfold XF at l;rw [sr t.1,sr k] at l;rw [<- vI (f z (ak ..)) (f b (ag _ hb))];exact decide_eq_true l
 |[],_::_,t,_,_=>t.elim
 |_::_,[],t,_,_=>t.elim
def Fc {a:ao}{c:List af}{xs:List (Str×Int)}{n:Nat}{P:Fin->ai->Prop} (O:A.units<gC) (ho:s.heap.get? a=some (ji "list" c.toArray n))
  (t:Pks s.heap c xs) (hx:xs.Nodup) (X:c.length<=63)
  (h:∀ (g:List af) (i:List (Str×Int)),g.Perm c->Pks s.heap g i->i.Perm xs->i.Pairwise (λa b=>pl a b=true)->P (.done (.ret .none)) { s with heap:=sortedHeap s.heap a c g.toArray }) :
  au (aA prog w) A (iC.«list.sort» ⟨[.ref a],[]⟩) P E s:=by
 rw [list_sort_plain];have I:a<s.heap.objs.size:=av ho;have B:c.length<=sizeLine:=by rw [iN];omega
 refine a8 (listItems_at ho rfl ?_);refine a8 (Kr ho rfl ?_ (by simpa using B) (cx _));obtain ⟨G,k⟩:∃ G,(s.heap.update a (hV λ_=>#[])).get? a=some (ji "list" #[] G):=⟨_,get?_update_seq ho (λ_=>#[])⟩;refine a8 (QP k rfl ?_);refine a8 (wpAny_newTuple ?_ (by simpa using B));refine a8 (Kl ?_ (cx _));refine bZ ?_;have f:(((s.heap.update a (hV λ_=>#[])).push (ji "tuple" c.toArray 0)).push (ji "list" #[] 0)).get? a=some (ji "list" #[] G):=by
  rw [MF _ _ _ (by rw [size_push',Qm];exact aB (cO I)),MF _ _ _ (by rw [Qm];exact aB I)];exact k
 have p:Pks (((s.heap.update a (hV λ_=>#[])).push (ji "tuple" c.toArray 0)).push (ji "list" #[] 0)) c xs :=
  t.keep (Pk.keepNe ho λb o x e=>ac _ (ac _ ((cJ _ _ (cF x)).trans e)))
 show au (aA prog w) A _ P E { s with heap:=((s.heap.update a (hV λ_=>#[])).push (ji "tuple" c.toArray 0)).push (ji "list" #[] 0) };dsimp only;have hsz:c.toArray.size=c.length:=by simp
 by_cases v:c.toArray.size<2
 ·rw [if_pos v,if_pos v];refine a8 (a9 ?_);rw [StateT.run_pure];refine a8 (a9 ?_);dsimp only;refine a8 (QP f rfl ?_);refine a8 (Kr f rfl ?_ (hsz2:=by rw [kj,Array.size_zip,aR,GN];exact xP B));simp only [bne_self_eq_false,ba,if_false];have e:(c.toArray.zip c.toArray).map (·.2)=c.toArray:=by
   apply xO.1;rw [Array.toList_map,MG,Ql (aw _)]
  refine a9 ?_;have:=h c xs (.refl _) t (.refl _) (by
   have:=t.len
   match xs,this with
   |[],_=>exact .nil
   |[_],_=>exact Ec ..
   |_::_::_,e=>simp at e;omega)
  rw [<- e] at this;exact this
 ·rw [if_neg v,if_neg v];refine a8 (S2 (by omega) p λkd Y=>?_);refine a8 (aT (S1 (kd:=kd) (L:=c.zip c) (st:=SortSt.mk' kd (c.toArray.zip c.toArray) #[] 7 none)
   (Q:=λ_ d=>(bQ d).toList.Perm (c.zip c)/\failedOf d=none/\Up (HB _ xs) (bQ d) 0 (c.zip c).length)
   (XO O Y p) (Fb p (λ_ h=>h) hx) ⟨rfl,by rw [MG],rfl⟩ rfl (by rw [qP];omega) (by rw [qP];omega) λd b u=>⟨b.perm,b.ok,u⟩) ?_ λ_ _ e=>e)
  rintro ⟨⟨⟩,d⟩ s' ⟨rfl,M,U,hs⟩;dsimp only;have l:(bQ d).size=c.length:=by
   have:=M.length_eq;rw [ax,qP,GN] at this;exact this
  refine a8 (QP f rfl ?_);refine a8 (Kr f rfl ?_ (hsz2:=by rw [kj];show (bQ d).size<=_;rw [l,iN];omega));rw [U];simp only [bne_self_eq_false,ba,if_false];refine a9 ?_;obtain ⟨y,K⟩:=RY M;obtain ⟨ys,q,N⟩:=p.perm y;obtain ⟨j,H,S⟩:=t.perm y;rw [<- K] at q;have m:(c.zip c).length=(bQ d).size:=by rw [qP,l,GN]
  rw [m] at hs;have so:=zx (ys:=xs) q (λz T=>N.mem_iff.1 T) (XI hs);have:j=ys:=by
   rw [K] at q;exact Pks.inj (H.keep (Pk.keepNe ho λb o x e=>ac _ (ac _ ((cJ _ _ (cF x)).trans e)))) q
  subst this;have:=h _ j y H S so;have e:(bQ d).map (·.2)=((bQ d).toList.map (·.2)).toArray:=by apply xO.1;simp
  rw [<- e] at this;exact this
def sorted_P (L:A.units+2<gC) (p:au (aA prog w) A.in1 (collect x) (λg c=>∃ xs,Pks c.heap g xs/\xs.Nodup/\g.length<=63 /\
   ∀ (h':bD) (d:List af) (f:List (Str×Int)) (e:Nat),(∀ b o,c.heap.get? b=some o->h'.get? b=some o)->h'.get? c.heap.objs.size=some (ji "list" d.toArray e)->d.Perm g->Pks c.heap d f->f.Perm xs->f.Pairwise (λa b=>pl a b=true) ->
    Q (.ref c.heap.objs.size) { c with heap:=h' }) E s):au (aA prog w) A (call (.builtin "sorted") [x]) Q E s:=by
 refine nW kind_sorted plain_sorted entry_sorted (args_sorted1 _) ?_;unfold iC.«sorted»;refine a8 (m:=checkCount "sorted" 1 1 _) (a9 ?_);refine a8 (aT p (λg c z=>?_) λ_ _ z=>z);obtain ⟨xs,t,I,i,u⟩:=z;refine a8 (Kl ?_ (by rw [iN];omega));have h:(c.heap.push (ji "list" g.toArray 0)).get? c.heap.objs.size=some (ji "list" g.toArray 0):=ay _ rfl;show au _ _ _ _ _ { c with heap:=c.heap.push (ji "list" g.toArray 0) };have k:∀ v x,Pk c.heap v x->Pk (c.heap.push (ji "list" g.toArray 0)) v x:=λv x ⟨b,o,G,m,y,B,K⟩=>⟨b,o,G,m,y,ac _ B,K⟩;refine a8 (bZ (bO slot_list_sort ⟨_,h,rfl⟩ entry_list_sort (Fc (by show A.units+1+1<gC;omega) h (t.keep k) I i λd f a1 a2 a3 H=>⟨_,rfl,?_⟩) (args_list_sort _)));obtain ⟨e,j⟩:=sortedHeap_at (out:=d.toArray) h;obtain ⟨ys,n,M⟩:=t.perm a1;obtain rfl:ys=f:=(n.keep k).inj a2;refine a9 ⟨_,rfl,u _ _ ys e (λb o q=>?_) j a1 n a3 H⟩;have l:=av q;rw [sortedHeap_old (aB l) (by rw [size_push'];exact cO l)];exact ac _ q
end TP
namespace L2
open PySem PySem.Spec PyProof.Rows PySem.W
def Ll (x:Str×Int):List (Str×Int)->List (Str×Int)
 |[]=>[x]
 |y::l=>if TP.pl x y=true then x::y::l else y::Ll x l
def ig:List (Str×Int)->List (Str×Int)
 |[]=>[]
 |x::l=>Ll x (ig l)
def wR (x:Str×Int):∀ l,(Ll x l).Perm (x::l)
 |[]=>.refl _
 |y::l=>by
  unfold Ll;split
  ·exact .refl _
  ·exact ((wR x l).cons y).trans (.swap x y l)
def pM:∀ l,(ig l).Perm l
 |[]=>.refl _
 |x::l=>(wR x _).trans ((pM l).cons x)
abbrev Wk (l:List (Str×Int)):Prop:=l.Pairwise λa b=>TP.pl a b=true
def JF:∀ {l:List (Str×Int)},Wk l->x∉l->Wk (Ll x l)
 |[],_,_=>Ec ..
 |y::l,h,b=>by
  have h':=jS.1 h;unfold Ll;split
  ·rename_i e
   refine jS.2 ⟨λz a=>?_,h⟩;rcases aQ.1 a with rfl|a
   ·exact e
   ·exact TP.pl_trans x y z e (h'.1 z a)
  ·rename_i e
   refine jS.2 ⟨λz a=>?_,JF h'.2 λq=>b (ag _ q)⟩;rcases aQ.1 ((wR x l).mem_iff.1 a) with rfl|a
   ·cases q:TP.pl y z with
    |true=>rfl
    |false=>exact absurd (aQ.2 (.inl (TP.pl_total z y (by simpa using e) q))) b
   ·exact h'.1 z a
def Fd:∀ {l:List (Str×Int)},l.Nodup->Wk (ig l)
 |[],_=>.nil
 |x::l,h=>JF (Fd (dS.1 h).2) λq=>(dS.1 h).1 ((pM l).mem_iff.1 q)
def VJ (e:Wk l) (d:Wk m) (p:l.Perm m):l=m :=
 List.Perm.eq_of_pairwise (le:=λa b=>TP.pl a b=true) (λa b _ _ c f=>by
  have:=TP.pl_trans a b a c f;rw [TP.pl_irrefl] at this;cases this) e d p
def OZ (n:l.Nodup) (p:l'.Perm l) (h:Wk l'):l'=ig l:=VJ h (Fd n) (p.trans (pM l).symm)
def O_ (H:Hp):List ao->List (Str×Int)->Prop
 |[],[]=>True
 |a::b,x::xs=>H a=some (.tup [V.str x.1,V.int x.2])/\O_ H b xs
 |_,_=>False
def XQ {pins σ H s} (I:bL X pins σ H s) (h:H a=some (.tup [V.str x.1,V.int x.2])):TP.Pk s.heap (.ref a) x:=by
 obtain ⟨c,r,⟨o,f,p,n,i⟩,_⟩:=I.tuple (.inl (.of h))
 refine ⟨a,o,c.toArray,n,rfl,f,p,i,?_⟩
 obtain ⟨b,d,rfl,j,e⟩:∃ b d,c=b::d/\dR (V.str x.1) b/\dY [V.int x.2] d:=by cases r with|cons q t=>exact ⟨_,_,rfl,q,t⟩
 obtain ⟨u,v,rfl,m,k⟩:∃ b e,d=b::e/\dR (V.int x.2) b/\dY [] e:=by cases e with|cons q t=>exact ⟨_,_,rfl,q,t⟩
 cases k
 obtain ⟨l,rfl⟩:=(show ∃ t,b=iH x.1 t from j)
 obtain ⟨g,rfl⟩:=(show ∃ t,u=jg x.2 t from m)
 exact ⟨l,g,rfl⟩
def O_.mem : ∀ {c:List ao}{xs:List (Str×Int)},O_ H c xs->a∈c->∃ x:Str×Int,H a=some (.tup [V.str x.1,V.int x.2])
 |b::c,x::xs,t,h=>by
  rcases aQ.1 h with rfl|h
  ·exact ⟨x,t.1⟩
  ·exact O_.mem t.2 h
 |[],_,_,h=>by cases h
 |_::_,[],t,_=>t.elim
def P0 {pins σ H s} (I:bL X pins σ H s) (t:O_ H as xs):∀ {bs:List ao}{ys:List (Str×Int)},(∀ b∈bs,b∈as)->TP.Pks s.heap (bs.map bv) ys->O_ H bs ys
 |[],[],_,_=>trivial
 |b::bs,y::ys,h,q=>by
  obtain ⟨x,e⟩:=t.mem (h b (ak ..));rw [(XQ I e).inj q.1] at e;exact ⟨e,P0 I t (λb a=>h b (ag _ a)) q.2⟩
 |[],_::_,_,q=>q.elim
 |_::_,[],_,q=>q.elim
end L2
namespace J
open PySem L2
def Gu (x:Str×Int):D:=.tuple [.str x.1,.int x.2]
def xv:List D->Option (List (Str×Int))
 |[]=>some []
 |.tuple [.str a,.int i]::r=>(xv r).map ((a,i)::·)
 |_::_=>none
def BY:∀ xs:List (Str×Int),xv (xs.map Gu)=some xs
 |[]=>rfl
 |x::xs=>by
  show (xv (xs.map Gu)).map ((x.1,x.2)::·)=_;rw [BY xs];rfl
def zy:∀ {ds:List D}{xs:List (Str×Int)},xv ds=some xs->ds=xs.map Gu
 |[],xs,h=>by cases h;rfl
 |d::ds,xs,h=>by
  unfold xv at h
  split at h
  ·cases h;rename_i e;cases e
  ·rename_i a i r e
   cases e
   cases b:xv ds with
   |none=>rw [b] at h;cases h
   |some ys=>rw [b] at h;cases h;rw [az,<- zy b];rfl
  ·cases h
def yr (a:List (Str×Int)):R D:=if a.Nodup/\a.length<=63 then .ok (.list ((ig a).map Gu)) else .no
section
variable {K:aa}{H Hs:Hp}{X:Cx}
def BZ:∀ {bs:List ao}{ys:List (Str×Int)}{Hs:Hp},O_ H bs ys->du Hs H->∃ f,cP H Hs H f/\RDs K f (bs.map V.ref) (ys.map Gu)
 |[],[],Hs,_,s=>⟨Hs,.refl s,.nil⟩
 |b::bs,y::ys,Hs,t,s=>by
  obtain ⟨d,st,r⟩:=BZ t.2 s;have sub:=st.sub
  have same:du d (upd d b (.tup [V.str y.1,V.int y.2])):=λc u e=>by
   by_cases a:c=b
   ·subst a;have:=sub _ _ e;rw [t.1] at this;cases this;exact bi
   ·rw [bj a];exact e
  refine ⟨upd d b (.tup [V.str y.1,V.int y.2]),st.trans ⟨.refl _,same,λc u e=>?_,λc u e n z=>?_⟩,.cons (.tuple bi (.cons (.str _) (.cons (.int _) .nil))) (r.same same)⟩
  ·by_cases a:c=b
   ·subst a;rw [bi] at e;cases e;exact t.1
   ·rw [bj a] at e;exact sub _ _ e
  ·by_cases a:c=b
   ·subst a;rw [t.1] at e;cases e;cases n
   ·rw [bj a];exact z
 |[],_::_,_,t,_=>t.elim
 |_::_,[],_,t,_=>t.elim
end
end J
namespace L2
open PySem PySem.Spec PyProof.Rows PySem.W
def Yz (a:List (Str×Int)):List (dQ×V):=a.map λp=>(i7 p.1,V.int p.2)
def JH (H H':Hp):Prop:=du H H'/\∀ b,H' b=H b\/H b=none
def JH.refl (H:Hp):JH H H:=⟨.refl _,λ_=>.inl rfl⟩
def VL (e:TE):TE:=λσ H Q=>e σ H λx d=>∃ a c,x=.ref a/\d a=some (.dK (Yz c))/\c.Nodup/\c.length<=63 /\
 ∀ b l bs,JH d b->O_ b bs (ig c)->b l=none->Q (.ref l) (upd b l (.lst (bs.map V.ref)))
section
variable {X:Cx}{pins:List (ao×Obj)}{σ:St}{H:Hp}{s:ai}
def P1 (I:bL X pins σ H s):∀ {c:List ao}{xs:List (Str×Int)},c.Nodup->(∀ a∈c,l8 X pins H a)->TP.Pks s.heap (c.map bv) xs->∃ H',bL X pins σ H' s/\O_ H' c xs/\JH H H'/\∀ b,b∉c->H' b=H b
 |[],[],_,_,_=>⟨H,I,trivial,.refl _,λ_ _=>rfl⟩
 |a::c,x::xs,h,m,t=>by
  obtain ⟨k,h⟩:=dS.1 h
  obtain ⟨d,N,L,A,y⟩:=P1 I h (λb f=>m b (ag _ f)) t.2
  have g:=m a (ak ..)
  have p:d a=none:=(y a k).trans g.f0
  obtain ⟨_,o,P,n,G,M,O,E,v,l,K⟩:=t.1
  cases G
  have j:l8 X pins d a:=⟨p,g.f1,g.f2,g.f3,g.f4,g.f5⟩
  have new:dI X.prog X.w (upd d a (.tup [V.str x.1,V.int x.2])) s.heap a (.tup [V.str x.1,V.int x.2]) :=
   ⟨by rw [iN];show 2<=16777216;decide,[.str x.1 v,.int x.2 l],.cons ⟨v,rfl⟩ (.cons ⟨l,rfl⟩ .nil),⟨o,M,O,n,by rw [E,<- K]⟩⟩
  have q:du d (upd d a (.tup [V.str x.1,V.int x.2])):=λb u e=>by rw [bj (λz=>by subst z;rw [p] at e;cases e)];exact e
  refine ⟨_,N.track j new,⟨bi,?_⟩,⟨λb u e=>q b u (A.1 b u e),λb=>?_⟩,λb f=>?_⟩
  ·have:∀ {c:List ao}{xs:List (Str×Int)},O_ d c xs->O_ (upd d a (.tup [V.str x.1,V.int x.2])) c xs:=by
    intro c
    induction c with
    |nil=>intro xs t;cases xs with
     |nil=>trivial
     |cons=>exact t.elim
    |cons b c B=>intro xs t;cases xs with
     |nil=>exact t.elim
     |cons=>exact ⟨q _ _ t.1,B t.2⟩
   exact this L
  ·by_cases f:b=a
   ·subst f;exact .inr g.f0
   ·rw [bj f];exact A.2 b
  ·have i:b≠a:=λz=>f (by rw [z];exact ak ..)
   rw [bj i];exact y b λz=>f (ag _ z)
 |[],_::_,_,_,t=>t.elim
 |_::_,[],_,_,t=>t.elim
def JJ {h:bD}:∀ {f:List (Str×Int)}{m:List (dQ×af)}{e:List ao},KV (Yz f) m->e.length=m.length ->
  (∀ (j:Nat) (a:ao),e[j]?=some a->∃ c k x,m[j]?=some (k,x)/\(cS X.prog X.w).is k c=true/\h.get? a=some { cls:=.type "tuple",data:=.seq #[c,x] })->TP.Pks h (e.map bv) f
 |[],_,[],.nil,_,_=>trivial
 |p::f,_,a::e,.cons o t,d,g=>by
  refine ⟨?_,JJ t (by simpa using d) λj b v=>g (j+1) b (by simpa using v)⟩
  obtain ⟨c,k,x,q,B,E⟩:=g 0 a rfl
  cases q
  obtain ⟨l,A⟩:=o
  have l:i7 p.1=k:=l
  subst l
  obtain ⟨n,rfl⟩:=(show ∃ t,x=jg p.2 t from A)
  obtain ⟨u,rfl⟩:∃ t,c=iH p.1 t:=by
   rcases fm (show xn (i7 p.1) c=true from B) with ⟨i,t,z,rfl⟩|⟨y,t,z,rfl⟩
   ·cases z
   ·cases z;exact ⟨t,rfl⟩
  exact ⟨a,_,_,_,rfl,E,rfl,rfl,u,n,rfl⟩
 |[],_,_::_,.nil,d,_=>by cases d
 |_::_,_,[],.cons _ _,d,_=>by cases d
def Dj {o:bp}{td:TE}{p f c i:Pos} (hc:X.calm=true) (hu:X.A.units+2<gC) (ho:PE X o td) (hg:Gl X "sorted") (hm:X.mg "sorted"=none)
  (n:qL o "items" X.env (dn o X.env)=dn o X.env:=by rfl) (k:(f.endLine==c.line)=true:=by rfl)
  (he:aH [.Call (.Attribute o "items" f) [] [] c] X.env=(false,dn (.Call (.Attribute o "items" f) [] [] c) X.env)::aH [] X.env:=by rfl)
  (a0:(fX i (aH [] X.env)).any (·.1)=false:=by rfl) :
  PE X (.Call (.Name "sorted" p) [.Call (.Attribute o "items" f) [] [] c] [] i) (VL td):=by
 intro pins s σ H Q I h
 refine kE (qR I hg hm m8 ?_ (by decide) (by decide))
 refine tG ?_ he a0
 rw [he]
 show au _ _ (spliced ((false,dn _ X.env)::fX i (aH [] X.env))) _ _ s
 refine Kf (wpAny_Call_method0_late n k (eK (ho pins s σ H _ I h) λv l N=>?_))
 obtain ⟨x,H1,j,r1,a,t,rfl,ha,hn,hz,q⟩:=N
 obtain rfl:v=bv a:=r1
 obtain ⟨t1,t2,_⟩:=V4 j (.inl ⟨_,.inl ha⟩)
 refine ⟨"dict","dict.items",PySem.F.plainAttrs_dict,Bf,PySem.F.type_dict_items,t1,t2,E8 rfl (PySem.evalArgs_none ?_)⟩
 obtain ⟨zl,hd,Y,G,dd⟩:=Tc j.hok ha
 refine call_meetsIn Bf dd.typeIs PySem.F.entry_dict_items (PySem.F.args_dict_items_1 _) (meets_dict_items (cS X.prog X.w) a hd) ⟨⟨Y,dd⟩,?_⟩
 refine M8 (TP.sorted_P hu ?_)
 obtain ⟨od,es,ep,T,U⟩:=dd
 have P:Y.length=t.length:=by have:=gZ G;rw [show (Yz t).length=t.length from aq ..] at this;exact this.symm
 refine kdx_collect (knd:=cS X.prog X.w) (d:=a) (ep:=ep) (kvs:=Y) (by simpa using j.ok.hd hc) ⟨_,ay _ rfl,rfl,rfl⟩ ⟨od,es,ac _ T,U⟩ (by rw [P,iN];omega) λh' tk as kp la g=>?_
 have big:∀ b∈as,l.heap.objs.size<=b:=λb B=>by
  have N:(l.heap.push { cls:=.type "dict_items",data:=.fields #[.ref a] }).objs.size<b:=g.above b B
  rw [c9] at N;exact cw (Nat.lt_of_succ_lt N)
 have K:TP.Pks h' (as.map bv) t:=JJ G la g.pairs
 refine ⟨t,K,hn,by rw [aq,la,P];exact hz,λL a3 a4 e M a2 p2 t2 p3 u=>?_⟩
 have kk:∀ b o,l.heap.get? b=some o->L.get? b=some o:=λb o e=>M b o (kp b o (ac _ e))
 have I2:bL X pins σ H1 { l with heap:=L,toks:=tk }:=j.kept kk
 have ks:∀ v x,TP.Pk h' v x->TP.Pk L v x:=λv x ⟨b,o,us,m,e0,T,U⟩=>⟨b,o,us,m,e0,M b o T,U⟩
 obtain ⟨O,I3,pq,more,S⟩:=P1 (s:={ l with heap:=L,toks:=tk }) I2 (g.rise.imp λ{x y} h=>aB h) (λb B=>j.fpOk (big b B) (j.hok.fresh (big b B))) (K.keep ks)
 have E:l.heap.objs.size<=h'.objs.size:=by
  exact cw (av (kp l.heap.objs.size _ (ay _ rfl)))
 have nl:O h'.objs.size=none:=(S _ λz=>absurd (g.there z) (bf _)).trans (j.hok.fresh E)
 obtain ⟨bs,rfl,pb⟩:=Le p2
 obtain rfl:=OZ hn p3 u
 have lb:bs.length=t.length:=by rw [pb.length_eq,la,P]
 have a1:dI X.prog X.w (upd O h'.objs.size (.lst (bs.map V.ref))) L h'.objs.size (.lst (bs.map V.ref)) :=
  ⟨by rw [aq,lb,iN];omega,bs.map bv,e,BV bs,a2⟩
 have f1:=j.fpOk (pins:=pins) (H':=O) E nl
 exact ⟨.ref h'.objs.size,_,I3.track f1 a1,rfl,q O _ bs more (P0 I3 pq (λb B=>pb.mem_iff.1 B) (t2.keep ks)) nl⟩
end
end L2
namespace J
open PySem L2
def yt:D->R D
 |.dict ds=>match xv (ds.map λp=>.tuple [p.1,p.2]) with
  |some a=>yr a
  |none=>.no
 |_=>.no
def Dk (g:aC->R D):aC->R D:=λρ=>(g ρ).bind yt
section
variable {K:aa}{H Hs:Hp}{c:C}{e:bp}{g:aC->R D}{p apos ipos cpos:Pos}
def B_:∀ {kvs:List (dQ×V)}{ds:List (D×D)}{d:List (Str×Int)},RDk K H kvs ds->(ds.map λp=>dD [p.1,p.2])=d.map Gu->kvs=Yz d
 |_,_,[],.nil,_=>rfl
 |_,_,x::d,.cons (k:=k) h t,e=>by
  rw [az,az] at e
  obtain ⟨a,f⟩:=rQ e
  rw [B_ t f]
  unfold Gu at a
  injection a with a;injection a with a b;injection b with b _
  have a:kD k=.str x.1:=a
  have b:_=bV x.2:=b
  subst b
  cases k with
  |inl i=>cases a
  |inr y=>cases a;cases h;rfl
 |_,_,_::_,.nil,e=>by cases e
 |_,_,[],.cons _ _,e=>by cases e
def Dl (hc:c.X.calm=true) (hu:c.X.A.units+64<gC) (h:JE c e g) (hg:Gl c.X "sorted") (hm:c.X.mg "sorted"=none)
  (m:qL e "items" c.X.env (dn e c.X.env)=dn e c.X.env:=by rfl) (k:(apos.endLine==ipos.line)=true:=by rfl)
  (he:aH [.Call (.Attribute e "items" apos) [] [] ipos] c.X.env=(false,dn (.Call (.Attribute e "items" apos) [] [] ipos) c.X.env)::aH [] c.X.env:=by rfl)
  (M:(fX cpos (aH [] c.X.env)).any (·.1)=false:=by rfl) :
  JE c (.Call (.Name "sorted" p) [.Call (.Attribute e "items" apos) [] [] ipos] [] cpos) (Dk g):=.of λρ =>
 qH (Dj hc (by omega) (h ρ) hg hm m k he M) λσ H Q G=>by
  obtain ⟨H0,a0,la,Hs,f,q⟩:=G
  refine wF f q λd v U s i T O r1=>?_
  unfold Dk at q;rw [i,bind_ok] at q;unfold yt at q
  split at q
  ·rename_i ds
   split at q
   ·rename_i n j
    unfold yr at q
    split at q
    ·rename_i N
     have j:=zy j
     cases r1 with
     | @dictK a kvs _ I E =>
      have ek:=B_ E j;subst ek
      refine ⟨a,n,rfl,O.st.sub _ _ I,N.1,N.2,λL l bs more pq Y=>?_⟩
      have B:cP U s L s:=⟨more.1,.refl _,λb u e=>more.1 b u (O.st.sub b u e),λ_ _ _ _ z=>z⟩
      obtain ⟨w,y,r⟩:=BZ (K:=c.X.K) pq B.sub
      have S:cP L w (upd L l (.lst (bs.map V.ref))) (upd w l (.lst (bs.map V.ref))):=.new y.sub Y
      exact q _ _ _ (T.trans (B.trans (y.trans S))) (.list (.inl (.of bi)) (r.same S.sh))
     | @dictT a kvs _ I P E =>
      cases E with
      |nil=>exact (P rfl).elim
      |cons h t =>
       cases n with
       |nil=>cases j
       |cons x n=>rw [az,az] at j;obtain ⟨i,_⟩:=rQ j;unfold Gu tD at i;injection i with i;injection i with i _;cases i
     | @dictF a o kvs ds I P E =>
      cases n with
      |nil=>cases j
      |cons x n=>rw [az,az] at j;obtain ⟨i,_⟩:=rQ j;unfold Gu at i;injection i with i;injection i with i _;cases i
    ·exact q.elim
   ·exact q.elim
  ·exact q.elim
end
section
variable {c:C}
end
end J
namespace L2
open PySem PySem.Spec PyProof.Rows
section
variable {prog:a_}{w:bz}{A:bB}{R:qK->ai->Prop}{I:ao}{fp wr:List ao}{n:Nat}{P:Nat->af->Prop}{St:Nat->bD->Prop}{d:af}
def JK:(toString "max"++toString ".loop" : String)="max.loop":=by decide
def S3 (W:Av prog w A.in1 I fp wr n P St) (B:Nat->Nat->Bool) (K:CmpOf prog w A.in1 .Gt P B) (S:ao) (E:S∉fp):∀ (k j:Nat) (s:ai) (q:af) (c:Nat),n-(j+1)=k->j+1<=n->St (j+1) s.heap->P (xl B j) q->s.heap.get? S=some { cls:=.type "list",dict:=none,data:=.seq #[q,q] c,slots:=#[] } ->
  (∀ v h' N,P (xl B (n-1)) v->(∀ b o,b∉wr->b≠S->s.heap.get? b=some o->h'.get? b=some o)->R (.ok (.ret v)) { s with heap:=h',toks:=N })->dZ (aA prog w) A (.builtin "max.loop" ⟨[.ref I,.none,.ref S],[("default",d)]⟩) R s:=by
 intro k;have G:S∉wr:=λh=>E (W.sub _ h)
 induction k with
 |zero =>
  intro j s q c hk Y u p H M;have L:j+1=n:=by omega
  refine eI AF ?_;rw [c_ iz _];show au _ A.in1 (sU (.ref S) >>= _) _ _ s
  refine a8 (dG H rfl ?_);show au _ A.in1 (tryCatch (gn (.ref I)) _ >>= _) _ _ s
  refine a8 (lG (W.done s _ _ (L ▸ u) λh' N g=>?_));have m:=g S _ G H;show au _ A.in1 (Me S (λ_=>#[]) >>= _) _ _ _
  refine a8 ?_;refine nV m rfl (a8 (mZ (a9 ?_)))
  exact M q _ N (by rw [<- L];exact p) λb o a f e=>(cJ _ _ (cF f)).trans (g b o a e)
 |succ k T =>
  intro j s q c hk Y u p H M;have z:j+1<n:=by omega
  refine eI AF ?_;rw [c_ iz _];show au _ A.in1 (sU (.ref S) >>= _) _ _ s
  refine a8 (dG H rfl ?_);show au _ A.in1 (tryCatch (gn (.ref I)) _ >>= _) _ _ s
  refine a8 (lG (W.item (j+1) s _ _ z u λv h' N X t g=>?_));have m:=g S _ G H;show au _ A.in1 (tryCatch (Ap [v,v] (richCompare .Gt v q >>= _)) _ >>= _) _ _ _
  refine a8 (lG (bZ (a8 (K (j+1) (xl B j) v q _ _ _ X p ?_))));refine a8 (bZ (de ?_));refine a8 (mZ (a9 ?_))
  cases U:B (j+1) (xl B j) with
  |true =>
   simp only [if_true];refine a8 ?_;refine nV m rfl (a8 (mZ ?_));rw [JK]
   refine a9 ⟨gD iz _,T (j+1) _ v _ (by omega) z (W.frame _ _ _ t λb O o e=>(cJ _ _ (λh:S=b=>E (by rw [h];exact O))).trans e) (by simp only [xl,U,if_true];exact X) (eh _ m rfl) λQ x i y l=>M Q x i y λb o a f e=>l b o a f ((cJ _ _ (cF f)).trans (g b o a e))⟩
  |false =>
   simp only [ba,if_false];refine a8 (mZ ?_);rw [JK]
   exact a9 ⟨gD iz _,T (j+1) _ q c (by omega) z t (by simp only [xl,U,ba,if_false];exact p) m λQ x i y l=>M Q x i y λb o a f e=>l b o a f (g b o a e)⟩
def P2 (W:Av prog w A.in1 I fp wr n P St) (B:Nat->Nat->Bool) (p:CmpOf prog w A.in1 .Gt P B) (S:ao) (f:S∉fp) {s:ai}{c:Nat} (g:St 0 s.heap) (G:s.heap.get? S=some { cls:=.type "list",dict:=none,data:=.seq #[] c,slots:=#[] })
  (H:∀ v h' t,(if n=0 then v=d else P (xl B (n-1)) v)->(∀ b o,b∉wr->b≠S->s.heap.get? b=some o->h'.get? b=some o)->R (.ok (.ret v)) { s with heap:=h',toks:=t }):dZ (aA prog w) A (.builtin "max.loop" ⟨[.ref I,.none,.ref S],[("default",d)]⟩) R s:=by
 have x:S∉wr:=λh=>f (W.sub _ h)
 refine eI AF ?_;rw [c_ iz _];show au _ A.in1 (sU (.ref S) >>= _) _ _ s
 refine a8 (dG G rfl ?_);show au _ A.in1 (tryCatch (gn (.ref I)) _ >>= _) _ _ s
 by_cases E:n=0
 ·subst E
  refine a8 (lG (W.done s _ _ g λh' t a=>?_))
  show au _ A.in1 (rule _ >>= _) _ _ _
  exact a8 (dH (a9 (H d h' t (by simp) λb o K _ e=>a b o K e)))
 ·refine a8 (lG (W.item 0 s _ _ (by omega) g λv h' t L q a=>?_));have k:=a S _ x G;show au _ A.in1 (Me S (λ_=>#[v,v]) >>= _) _ _ _
  refine a8 ?_;refine nV k rfl ?_;rw [JK]
  refine a9 ⟨gD iz _,S3 W B p S f _ 0 _ v _ rfl (by omega) (W.frame _ _ _ q λb y o e=>(cJ _ _ (λh:S=b=>f (by rw [h];exact y))).trans e) L (eh _ k rfl) λM u i z j=>H M u i (by rw [if_neg E];exact z) λb o l m e=>j b o l m ((cJ _ _ (cF m)).trans (a b o l e))⟩
end
section
variable {prog:a_}{w:bz}{A:bB}{E:af->ai->Prop}{s:ai}
def S4 (a d:af):Cm "max" ⟨[a],[("default",d)]⟩:=by unfold Cm;kernel_rfl
def S5 {id:String}{b:iC}{a:List af}{d:List (Str×af)}{Q:af->ai->Prop} (m:builtinKind id=none) (k:plainId id=true) (n:Aw table id=some b) (l:Cm id ⟨a,d⟩)
  (h:au (aA prog w) A.in1 (b ⟨a,d⟩) (λfin s'=>match fin with
   |.done f=>(match (Except.ok f:qK) with | .ok (.ret v)=>Q v s' | .ok _=>False | .error e=>E e s')
   |.again i=>i.quiet=true/\dZ (aA prog w) A i (λr s'=>match r with | .ok (.ret v)=>Q v s' | .ok _=>False | .error e=>E e s') s') E s):au (aA prog w) A (call (.builtin id) a d) Q E s:=by
 refine wpAny_call (QB k n ?_);simp only [checkBuiltinCall,m]
 cases c:Manifest.signature? id with
 |none=>exact a9 h
 |some g =>
  have j:Bind.checkArgs id g ⟨a,d⟩=pure ():=by simpa only [Cm,c] using l
  simp only [j];exact a9 h
def S6 {x d:af}{Q:af->ai->Prop}
  (h:au (aA prog w) A.in1 (qI x) (λit a=>∃ I g p n P St i,it=.ref I/\Av prog w A.in1 I g p n P St/\St 0 a.heap/\(∀ b∈g,b<a.heap.objs.size)/\CmpOf prog w A.in1 .Gt P i/\∀ v h' j,(if n=0 then v=d else P (xl i (n-1)) v)->(∀ b o,b∉p->a.heap.get? b=some o->h'.get? b=some o)->Q v { a with heap:=h',toks:=j }) E s) :
  au (aA prog w) A (call (.builtin "max") [x] [("default",d)]) Q E s:=by
 refine S5 F.kind_max F.plain_max F.entry_max (S4 _ _) ?_
 show au _ A.in1 (sY "max" ["key","default"] 0 ⟨[],[("default",d)]⟩ >>= _) _ _ s
 refine a8 (eT (show sY "max" ["key","default"] 0 ⟨[],[("default",d)]⟩=pure [none,some d] from rfl) ?_)
 refine a8 (a9 ?_);refine a8 (aT h (λit a f=>?_) λ_ _ e=>e)
 obtain ⟨I,g,p,n,P,St,i,rfl,W,k,q,c,y⟩:=f
 refine a8 (bK ?_)
 have l:a.heap.objs.size∉g:=λu=>bf _ (q _ u)
 rw [JK]
 exact a9 ⟨gD iz _,P2 W i c a.heap.objs.size l (W.frame _ _ _ k λb _ o e=>ac _ e) (ay _ rfl) λv h' j t z=>y v h' j t λb o m e=>z b o m (aB (av e)) (ac _ e)⟩
end
end L2
namespace J
open PySem L2
section
variable {X:Cx}{c:C}
def HE:D->R D
 |.list ds=>match oj ds with
  |some a=>.ok (.int (oS a))
  |none=>.no
 |_=>.no
def Lm {t:Tok} (G:X.calm=true) {pins:List (ao×Obj)}{s:ai}{σ:St}{H:Hp}{p:ao}{d:List Int}{y:List af}{Q:VK} (I:bL X pins σ H s) (r:dY [.ref p] y) (E:nZ X.K H p (d.map V.int)) (q:Q (.int (oS d)) H) :
  au (aA X.prog X.w) X.A (call (.builtin "max") y [("default",.int 0 t)]) (EP X pins σ Q) X.xe s:=by
 obtain ⟨u,rfl,B⟩:=l9 r;cases B;obtain ⟨f,l,pl,S⟩:=I.list E
 have P:f.toArray.size=d.length:=by have:=l.length;simp at this ⊢;omega
 obtain ⟨o,ho,T⟩:=pl.isList
 refine S6 (i4 pl.isList ⟨_,_,_,_,_,_,λi j=>decide (d.getD i 0 > d.getD j 0),rfl,qy (by simpa using I.ok.hd G) _ p (aB (av ho)) f.toArray,⟨⟨_,ay _ rfl,rfl,rfl⟩,pl.isList.push _⟩,?_,?_,λv h' z g kp=>?_⟩)
 ·intro b x;simp only [aQ,bh,or_false] at x;have N:=av ho;have hs:(s.heap.push { cls:=.type "list_iterator",data:=.fields #[bv p,jg 0 0] }).objs.size=s.heap.objs.size+1:=Qj ..
  rcases x with rfl|rfl
  ·exact nY (cZ _) hs.symm
  ·exact nY (cO N) hs.symm
 ·refine CmpOf.ints_gt (λi=>d.getD i 0) λi v M=>?_;obtain ⟨n,t,h,rfl⟩:=vH l (i:=i) (by simpa using M);exact ⟨t,by simp [cz,h]⟩
 ·have m:bL X pins σ H { s with heap:=h',toks:=z }:=I.kept (t':=z) λb o e=>kp b o (by simp only [df];exact aB (av e)) (ac _ e)
  rw [P] at g
  by_cases k:d.length=0
  ·rw [if_pos k] at g;subst g;rw [List.length_eq_zero_iff.1 k] at q;exact ⟨.int 0,H,m,⟨t,rfl⟩,q⟩
  ·rw [if_neg k] at g;obtain ⟨b1,b2⟩:=argBest_gt (λi=>d.getD i 0) (d.length-1);obtain ⟨n,t,h,rfl⟩:=vH l (by simpa using g)
   refine ⟨.int n,H,m,⟨t,rfl⟩,?_⟩
   rw [Jx (c8 h) λa L=>?_]
   ·exact q
   ·obtain ⟨j,O,e⟩:=i5 L;have:=b2 j (by omega);simpa [cz,h,O,e] using this
def S7 {e:bp}{t:TA}{p pos B kp:Pos}{j:Nat} (o:X.calm=true) (A:Gl X "max") (v:X.mg "max"=none) (n:PA X [e] t) (he:fX pos (aH [e] X.env)=(false,dn e X.env)::fX pos (aH [] X.env):=by rfl) (g:(fX pos (aH [e] X.env)).any (·.1)=false:=by rfl) :
  PE X (.Call (.Name "max" p) [e] [⟨some "default",.Constant (.int 0) j B,kp⟩] pos) (UV (rC X.K (i9 HE)) t):=by
 intro pins s σ H Q I h
 refine kE (qR I A v yC ?_ (by decide) (by decide))
 refine PyProof.Rows.callWith_kw (eK (n pos pins s σ H _ I h) λM G f=>?_) he g
 obtain ⟨E,m,z,w,u⟩:=f
 obtain ⟨Hs,ds,sub,y,d,b,q⟩:=u
 refine PyProof.Rows.kws_cons (wpAny_Constant_int (PyProof.Rows.kws_nil ?_))
 unfold i9 at b;split at b
 ·obtain ⟨x,rfl,l⟩:=y.one
  unfold HE at b;split at b
  ·split at b
   ·rename_i L hs
    cases b;obtain ⟨a,E,rfl,i,k⟩:=l.list sub;rw [xr hs] at k;rw [vp k] at i
    exact Lm o (z.tok _) w i (q _ m Hs (.refl sub) (.int _))
   ·cases b
  ·cases b
 ·cases b
def S8 {e:bp}{b:aC->R (List D)}{p pos k kp:Pos}{j:Nat} (g:c.X.calm=true) (f:Rr c [e] b) (i:Gl c.X "max") (d:c.X.mg "max"=none) (he:fX pos (aH [e] c.X.env)=(false,dn e c.X.env)::fX pos (aH [] c.X.env):=by rfl) (a:(fX pos (aH [e] c.X.env)).any (·.1)=false:=by rfl) :
  JE c (.Call (.Name "max" p) [e] [⟨some "default",.Constant (.int 0) j k,kp⟩] pos) (cb b (i9 HE)):=.of λρ=>qH (S7 g i d (f ρ) he a) λσ H Q q=>NH (λx c n=>by
 unfold i9;split
 ·unfold HE;split<;>(try split)<;>exact λh=>by cases h
 ·exact λh=>by cases h) q
end
end J
namespace Z
open PySem L2 J
def j_:aC->R Fl:=(ef (ED (cb (ah (eM 1 [1] (jf (rB 0)) kT (g2 (rB 0) (rB 1) (CY false))) aP) (i9 (f9 λbs=>bs.any id)))))
def eQ:List D->R D:=fL 2 j_
def su:aC->R Fl:=(ef (cb (ah (eM 1 [1] (jf (rB 0)) (fJ (g2 (rB 0) (rB 1) (CY true))) (rS 0)) aP) (i9 iF)))
def sv:List D->R D:=fL 2 su
def vJ:aC->R Fl:=(ef (cb (ah (jY (OD (pH (rB 0)) (pH (rB 1)))) aP) (i9 iF)))
def vK:List D->R D:=fL 2 vJ
def sw:aC->R Fl:=(aO (g9 (Gs (lK (fJ (yW (rB 0) "str"))) (lK (fJ (r9 (kI 1) (cb (ah (rB 0) aP) (i9 kq)) (kI 6) Qq Qq)))) (ef (kB false)) (λρ=>.ok (.nx ρ))) (ef (cb (ah (eM 1 [] (jf (rB 0)) kT (r9 (λ_=>.ok (.str "a")) (rB 0) (λ_=>.ok (.str "z")) Qq Qq)) aP) (i9 (f9 λbs=>bs.all id)))))
def oU:List D->R D:=fL 1 sw
def iq:aC->R Fl:=(aO (g9 (Gs (lK (fJ (yW (rB 0) "tuple"))) (lK (fJ (cb (ah (eM 1 [] (jf (rB 0)) kT (fO 1 oU (ah (rS 0) aP))) aP) (i9 (f9 λbs=>bs.all id)))))) (ef (kB false)) (λρ=>.ok (.nx ρ))) (ef (cb (ah (eM 2 [] (RE (ah (rS 0) (ah (Tr (rB 0) (Rw (kI 1)) Wh) aP))) kT (g2 (rB 0) (rB 1) AM)) aP) (i9 (f9 λbs=>bs.all id)))))
def gd:List D->R D:=fL 1 iq
def nz:aC->R Fl:=(ef (r6 (fO 1 gd (ah (rS 1) aP)) (cb (ah (eM 1 [0] (jf (rB 1)) kT (g2 (rB 0) (rB 1) (CY false))) aP) (i9 (f9 λbs=>bs.all id)))))
def fP:List D->R D:=fL 2 nz
def pO:aC->R Fl:=(aO (g9 (Gs (lK (fJ (yW (rB 0) "int"))) (fJ (yW (rB 0) "bool"))) (ef (kB false)) (λρ=>.ok (.nx ρ))) (ef (r9 (rB 1) (rB 0) (rB 2) Qq Qq)))
def pP:List D->R D:=fL 3 pO
def nA:aC->R Fl:=(aO (g9 (Gs (lK (fJ (yW (rB 1) "tuple"))) (fJ (g2 (cb (ah (rB 1) aP) (i9 kq)) (kI 6) (qA true)))) (ef (kB false)) (λρ=>.ok (.nx ρ))) (aO (wI (rS 1) (my 6 (da (b_ 2) (da (b_ 3) (da (b_ 4) (da (b_ 5) (da (b_ 6) (da (b_ 7) o8)))))))) (aO (g9 (Gs (lK (fJ (fO 1 oU (ah (rS 2) aP)))) (lK (fJ (fO 3 pP (ah (rS 7) (ah (kI 0) (ah (kI 9) aP))))))) (ef (kB false)) (λρ=>.ok (.nx ρ))) (aO (g9 (lK (fJ (cb (ah (eM 1 [0] (jf (g6 (ah (rS 3) (ah (rS 4) (ah (rS 5) (ah (rS 6) aP)))) .tuple)) kT (fO 2 fP (ah (rS 1) (ah (rS 0) aP)))) aP) (i9 (f9 λbs=>bs.all id))))) (ef (kB false)) (λρ=>.ok (.nx ρ))) (ef (r6 (fO 2 eQ (ah (rS 3) (ah (rS 4) aP))) (fO 2 eQ (ah (rS 5) (ah (rS 6) aP)))))))))
def nB:List D->R D:=fL 8 nA
def sx:aC->R Fl:=(aO (g9 (Gs (lK (fJ (yW (rB 0) "tuple"))) (fJ (g2 (cb (ah (rB 0) aP) (i9 kq)) (kI 2) (qA true)))) (ef (kB false)) (λρ=>.ok (.nx ρ))) (aO (wI (rS 0) (my 2 (da (b_ 1) (da (b_ 2) o8)))) (aO (g9 (Gs (lK (fJ (fO 1 gd (ah (rS 1) aP)))) (fJ (g2 (cb (ah (rB 1) aP) (i9 kq)) (kI 6) Rv))) (ef (kB false)) (λρ=>.ok (.nx ρ))) (aO (g9 (Gs (lK (fJ (yW (rB 2) "tuple"))) (fJ (g2 (cb (ah (rB 2) aP) (i9 kq)) (kI 6) Rv))) (ef (kB false)) (λρ=>.ok (.nx ρ))) (aO (g9 (lK (fJ (cb (ah (eM 1 [1] (jf (rB 2)) kT (fO 2 nB (ah (rS 1) (ah (rS 0) aP)))) aP) (i9 (f9 λbs=>bs.all id))))) (ef (kB false)) (λρ=>.ok (.nx ρ))) (ef (g2 (vC (wM 1 [] (jf (rB 2)) kT (g2 (rB 0) (kI 0) bq))) (cb (ah (rB 2) aP) (i9 kq)) (qA false))))))))
def sy:List D->R D:=fL 3 sx
def sB:aC->R Fl:=(aO (g9 (Gs (lK (fJ (yW (rB 1) "tuple"))) (fJ (g2 (cb (ah (rB 1) aP) (i9 kq)) (kI 2) (qA true)))) (ef (kB false)) (λρ=>.ok (.nx ρ))) (aO (wI (rS 1) (my 2 (da (b_ 2) (da (b_ 3) o8)))) (ef (r6 (fO 2 fP (ah (g2 (rB 0) (kI 0) bq) (ah (rS 2) aP))) (r6 (fO 2 fP (ah (g2 (rB 0) (kI 0) bq) (ah (rS 3) aP))) (fO 2 eQ (ah (rS 2) (ah (rS 3) aP))))))))
def sC:List D->R D:=fL 4 sB
def kU:aC->R Fl:=(g9 (lK (fJ (fO 2 fP (ah (g2 (rB 0) (kI 0) bq) (ah (rS 1) aP))))) (λ_=>.no) (λρ=>.ok (.nx ρ)))
def kW:List D->R D:=fL 2 kU
def lT:aC->R Fl:=(g9 (lK (fJ (fO 2 sC (ah (rS 0) (ah (rS 1) aP))))) (λ_=>.no) (λρ=>.ok (.nx ρ)))
def lU:List D->R D:=fL 2 lT
def sD:aC->R Fl:=(aO (wI (rS 1) (my 2 (da (b_ 2) (da (b_ 3) o8)))) (ef (r6 (cb (ah (eM 1 [0] (jf (rB 2)) kT (g2 (rB 0) (rB 1) (CY false))) aP) (i9 (f9 λbs=>bs.all id))) (fO 2 eQ (ah (rS 3) (ah (rS 0) aP))))))
def oV:List D->R D:=fL 4 sD
def nC:aC->R Fl:=(ef (fO 2 oV (ah (rS 1) (ah (g6 (ah (g2 (rB 0) (kI 1) bq) (ah (g2 (rB 0) (kI 2) bq) aP)) .tuple) aP))))
def nD:List D->R D:=fL 2 nC
def k7:aC->R Fl:=(aO (OE 2 3 (ah (g2 (rB 0) (kI 3) bq) (ah (g2 (rB 0) (kI 4) bq) aP))) (ef (fO 2 vK (ah (fO 2 sv (ah (rS 1) (ah (rS 3) aP))) (ah (rS 2) aP)))))
def k8:List D->R D:=fL 4 k7
def sF:aC->R Fl:=(aO (g9 (lK (fJ (fO 1 sy (ah (rS 0) aP)))) (λ_=>.no) (λρ=>.ok (.nx ρ))) (ef (rS 0)))
def sG:List D->R D:=fL 1 sF
def kX:aC->R Fl:=(aO (rh (fO 1 sG (ah (rS 0) aP))) (rh (fO 2 kW (ah (rS 0) (ah (rS 1) aP)))))
def gU:List D->R D:=fL 2 kX
def nE:aC->R Fl:=(aO (rh (fO 2 gU (ah (rS 0) (ah (rS 1) aP)))) (rh (fO 2 lU (ah (rS 0) (ah (rS 2) aP)))))
def lj:List D->R D:=fL 3 nE
def nF:aC->R Fl:=(aO (fv 2 (eM 1 [1] (jf (g2 (rB 0) (kI 1) bq)) (fJ (cb (ah (eM 1 [1] (jf (g2 (rB 0) (kI 1) bq)) kT (g2 (rB 0) (rB 1) (E6 false))) aP) (i9 (f9 λbs=>bs.all id)))) (rS 0))) (ef (jY (sk 1 [1] (jf (rB 2)) kT (jf (g2 (rB 0) (kI 3) bq)) (fJ (g2 (rB 1) (rB 2) (E6 true))) (rS 1)))))
def fQ:List D->R D:=fL 3 nF
def k9:aC->R Fl:=(aO (fv 2 (pK 1 [] (jf (rB 1)) kT (rS 0) (kI 0))) (aO (eC 3 (kI 1)) (aO (eC 4 (F6 n5 2 fQ (ah (rS 0) (ah (BR 2) aP)))) (aO (fK (uj (rB 4)) (aO (qt 4 (b_ 5) (t5 2 (rS 5) (rS 3))) (aO (Lc 3 (kI 1)) (eC 4 (F6 n5 2 fQ (ah (rS 0) (ah (BR 2) aP)))))) 100000) (ef (rS 2))))))
def gf:List D->R D:=fL 6 k9
def vL:aC->R Fl:=(aO (rh (fO 2 gU (ah (rS 0) (ah (rS 1) aP)))) (ef (Dk (fO 2 gf (ah (rS 0) (ah (rS 1) aP))))))
def mE:List D->R D:=fL 2 vL
def Dm:aC->R Fl:=(aO (rh (fO 3 lj (ah (rS 0) (ah (rS 1) (ah (rS 2) aP))))) (aO (wI (rS 2) (my 2 (da (b_ 3) (da (b_ 4) o8)))) (aO (eC 5 (fO 2 gf (ah (rS 0) (ah (rS 1) aP)))) (aO (g9 (lK (fJ (cb (ah (eM 1 [5] (jf (rB 3)) kT (g2 (rB 0) (rB 1) (E6 false))) aP) (i9 (f9 λbs=>bs.all id))))) (ef kN) (λρ=>.ok (.nx ρ))) (aO (eC 6 (cb (ah (eM 1 [5] (jf (rB 3)) kT (g2 (rB 1) (rB 0) bq)) aP) (i9 HE))) (aO (g9 (vt (fJ (g2 (rB 6) (kI 0) (qA false))) (lK (fJ (fO 2 eQ (ah (rS 4) (ah (rS 1) aP)))))) (ef (kI 1)) (λρ=>.ok (.nx ρ))) (ef (rS 6))))))))
def um:List D->R D:=fL 7 Dm
def lV:aC->R Fl:=(ef (eM 1 [1] (jf (g2 (rB 0) (kI 1) bq)) (fJ (fO 2 nD (ah (rS 0) (ah (rS 1) aP)))) (g6 (ah (rS 0) (ah (fO 2 k8 (ah (rS 0) (ah (rS 1) aP))) aP)) .tuple)))
def ka:List D->R D:=fL 2 lV
def lW:aC->R Fl:=(aO (fv 2 (U8 (rS 1) (g6 aP .list))) (aO (fv 3 (g6 (ah (rS 1) aP) .list)) (aO (fK (uj (rB 3)) (aO (fv 4 (g6 aP .list)) (aO (qt 3 (b_ 5) (oQ (jf (fO 2 ka (ah (rS 0) (ah (rS 5) aP)))) (my 2 (da (b_ 6) (da (b_ 7) o8))) (g9 (fJ (g2 (rB 7) (rB 2) (RQ true))) (aO (tQ 2 (rS 7) (g2 (g2 (rB 2) (rB 5) An) (g6 (ah (g2 (rB 6) (kI 0) bq) aP) .list) eJ)) (wK 4 (rS 7))) (λρ=>.ok (.nx ρ))))) (Tx 4 (eC 3 (rS 4))))) 100000) (Vu 2 (ef (rS 2))))))
def lX:List D->R D:=fL 8 lW
def sH:aC->R Fl:=(aO (fv 2 (eM 1 [1] (De (rB 0)) (fJ (fO 2 oV (ah (rS 0) (ah (rS 1) aP)))) (rS 0))) (ef (eM 1 [0,2] (jf (rB 2)) (fJ (g2 (cb (ah (g2 (rB 1) (rB 0) An) aP) (i9 kq)) (cb (ah (g2 (rB 1) (g2 (rB 2) (kI 0) bq) An) aP) (i9 kq)) (qA false))) (rS 0))))
def mf:List D->R D:=fL 3 sH
def mF:aC->R Fl:=(aO (rh (fO 3 lj (ah (rS 0) (ah (rS 1) (ah (rS 2) aP))))) (aO (eC 3 (fO 2 lX (ah (rS 0) (ah (rS 1) aP)))) (aO (eC 4 (fO 2 mf (ah (rS 3) (ah (rS 2) aP)))) (ef (WW (uj (rB 4)) (g2 (rB 3) (g2 (rB 4) (kI 0) bq) An) kN)))))
def j3:List D->R D:=fL 5 mF
def Fe:aC->R Fl:=(aO (eC 3 (fO 3 j3 (ah (rS 0) (ah (rS 1) (ah (rS 2) aP))))) (ef (WW (fJ (g2 (rB 3) kN (CW false))) kN (cb (ah (rB 3) aP) (i9 kq)))))
def tS:List D->R D:=fL 4 Fe
def kY:aC->R Fl:=(aO (g9 (fJ (g2 (rB 1) (cb (ah (rB 0) aP) (i9 kq)) AM)) (ef (g2 (rB 0) (rB 1) bq)) (λρ=>.ok (.nx ρ))) (aO (g9 (fJ (g2 (rB 0) (g6 aP .list) (qA false))) (ef (kI 0)) (λρ=>.ok (.nx ρ))) (ef (g2 (g2 (g2 (rB 0) (g2 (rB 1) (cb (ah (rB 0) aP) (i9 kq)) K_) bq) (kI 31) xW) (rB 1) eJ))))
def kZ:List D->R D:=fL 2 kY
def nG:aC->R Fl:=(aO (eC 3 (g2 (g2 (g2 (g2 (fO 2 kZ (ah (rS 0) (ah (rS 1) aP))) (g2 (kI 7919) (rB 1) xW) eJ) (kI 1) eJ) (kI 48271) xW) (kI 2147483647) K_)) (ef (g2 (g2 (g2 (g2 (g2 (rB 3) (rB 3) xW) (g2 (kI 7) (rB 3) xW) eJ) (rB 1) eJ) (kI 2147483629) K_) (rB 2) K_)))
def bF:List D->R D:=fL 4 nG
def pQ:aC->R Fl:=(aO (eC 2 (λ_=>.ok (.str ""))) (aO (oQ (BB (ah (g2 (g6 (ah (kI 1) (ah (kI 2) (ah (kI 3) (ah (kI 6) (ah (kI 1) (ah (kI 4) aP)))))) .list) (fO 3 bF (ah (rS 0) (ah (rS 1) (ah (kI 6) aP)))) bq) aP)) (b_ 3) (eC 2 (g2 (rB 2) (g2 (λ_=>.ok (.str "abcdefghijklmnopqrstuvwxyz")) (fO 3 bF (ah (rS 0) (ah (g2 (g2 (rB 1) (kI 1) eJ) (rB 3) eJ) (ah (kI 26) aP)))) bq) eJ))) (ef (rS 2))))
def kK:List D->R D:=fL 4 pQ
def nH:aC->R Fl:=(aO (fv 3 (λ_=>.ok (.dict []))) (aO (oQ (BB (ah (fO 3 bF (ah (rS 0) (ah (rS 1) (ah (g2 (rB 2) (kI 1) eJ) aP)))) aP)) (b_ 4) (t5 3 (fO 2 kK (ah (rS 0) (ah (g2 (g2 (rB 1) (kI 1) eJ) (g2 (kI 8) (rB 4) xW) eJ) aP))) (kB true))) (ef (cb (ah (cb (ah (cb (ah (rB 3) aP) (i9 kS)) aP) (i9 sf)) aP) (i9 iF)))))
def nI:List D->R D:=fL 5 nH
def pR:aC->R Fl:=(ef (cb (ah (eM 2 [0,1,3] (Ht (ah (rS 2) aP)) (fJ (g2 (fO 3 bF (ah (rS 2) (ah (g2 (rB 3) (rB 0) eJ) (ah (kI 12) aP)))) (rB 4) AM)) (rS 1)) aP) (i9 iF)))
def pS:List D->R D:=fL 4 pR
def pT:aC->R Fl:=(aO (eC 4 (g2 (rB 2) (fO 3 bF (ah (rS 0) (ah (g2 (rB 1) (kI 10) eJ) (ah (cb (ah (rB 2) aP) (i9 kq)) aP)))) bq)) (aO (eC 5 (g2 (rB 2) (fO 3 bF (ah (rS 0) (ah (g2 (rB 1) (kI 11) eJ) (ah (cb (ah (rB 2) aP) (i9 kq)) aP)))) bq)) (aO (eC 6 (g2 (rB 2) (fO 3 bF (ah (rS 0) (ah (g2 (rB 1) (kI 12) eJ) (ah (cb (ah (rB 2) aP) (i9 kq)) aP)))) bq)) (aO (eC 7 (Tr (g6 (ah (rS 4) (ah (rS 5) aP)) .list) Wh (Rw (g2 (kI 1) (g2 (fO 3 bF (ah (rS 0) (ah (g2 (rB 1) (kI 13) eJ) (ah (kI 3) aP)))) (kI 2) NC) eJ)))) (aO (fv 8 (eM 1 [7,0,1] (jf (g6 (ah (rS 6) aP) .list)) (vt (fJ (g2 (rB 0) (rB 1) (CY true))) (fJ (g2 (fO 3 bF (ah (rS 2) (ah (g2 (rB 3) (kI 14) eJ) (ah (kI 4) aP)))) (kI 0) (qA false)))) (rS 0))) (aO (fv 9 (eM 1 [6,0,1] (jf (g6 (ah (rS 4) aP) .list)) (vt (fJ (g2 (rB 0) (rB 1) (qA true))) (fJ (g2 (fO 3 bF (ah (rS 2) (ah (g2 (rB 3) (kI 15) eJ) (ah (kI 3) aP)))) (kI 0) (qA false)))) (rS 0))) (aO (Tx 8 (Tx 9 (fv 10 (eM 1 [] (jf (g6 (ah (rS 7) (ah (rS 8) (ah (g6 (ah (rS 6) aP) .list) (ah (rS 9) aP)))) .tuple)) kT (cb (ah (jY (pH (rB 0))) aP) (i9 iF)))))) (ef (g6 (ah (rS 3) (ah (g2 (rB 10) (kI 0) bq) (ah (g2 (rB 10) (kI 1) bq) (ah (g2 (rB 10) (kI 2) bq) (ah (g2 (rB 10) (kI 3) bq) (ah (fO 3 bF (ah (rS 0) (ah (rS 1) (ah (kI 5) aP)))) aP)))))) .tuple)))))))))
def pU:List D->R D:=fL 11 pT
def j9:aC->R Fl:=(aO (g9 (vt (fJ (g2 (rB 2) (g6 aP .tuple) (qA true))) (fJ (g2 (fO 3 bF (ah (rS 0) (ah (kI 97) (ah (kI 2) aP)))) (kI 0) (qA false)))) (ef (fO 4 pU (ah (rS 0) (ah (rS 1) (ah (rS 2) (ah (rS 3) aP)))))) (λρ=>.ok (.nx ρ))) (aO (RH 4) (aO (oQ (Ht (ah (rS 2) aP)) (my 2 (da (b_ 5) (da (b_ 6) o8))) (aO (eC 7 (fO 3 bF (ah (rS 0) (ah (g2 (g2 (rB 1) (kI 10) eJ) (rB 5) eJ) (ah (kI 8) aP))))) (aO (g9 (fJ (g2 (rB 7) (kI 3) AM)) (oR 4 (g2 (g6 (ah (kI 0) (ah (kI 0) (ah (kI 1) aP))) .list) (rB 7) bq) (rS 6)) (λρ=>.ok (.nx ρ))) (aO (eC 7 (fO 3 bF (ah (rS 0) (ah (g2 (g2 (rB 1) (kI 20) eJ) (rB 5) eJ) (ah (kI 8) aP))))) (g9 (fJ (g2 (rB 7) (kI 4) AM)) (oR 4 (g2 (g6 (ah (kI 2) (ah (kI 2) (ah (kI 3) (ah (kI 3) aP)))) .list) (rB 7) bq) (rS 6)) (λρ=>.ok (.nx ρ))))))) (aO (λρ=>(fv 8 (eM 1 [] (jf (rB 4)) kT (cb (ah (rB 0) aP) (i9 iF)))) (fE ρ)) (ef (g6 (ah (rS 3) (ah (g2 (rB 8) (kI 0) bq) (ah (g2 (rB 8) (kI 1) bq) (ah (g2 (rB 8) (kI 2) bq) (ah (g2 (rB 8) (kI 3) bq) (ah (fO 3 bF (ah (rS 0) (ah (rS 1) (ah (kI 5) aP)))) aP)))))) .tuple))))))
def ja:List D->R D:=fL 9 j9
def mG:aC->R Fl:=(aO (eC 4 (fO 3 nI (ah (rS 0) (ah (rS 1) (ah (rS 2) aP))))) (aO (fv 5 (λ_=>.ok (.dict []))) (aO (oQ (BB (ah (fO 3 bF (ah (rS 0) (ah (g2 (rB 1) (kI 60) eJ) (ah (g2 (rB 3) (kI 1) eJ) aP)))) aP)) (b_ 6) (aO (eC 7 (fO 2 kK (ah (rS 0) (ah (g2 (g2 (rB 1) (kI 70) eJ) (g2 (kI 40) (rB 6) xW) eJ) aP)))) (t5 5 (rS 7) (fO 4 ja (ah (rS 0) (ah (g2 (g2 (rB 1) (kI 80) eJ) (g2 (kI 40) (rB 6) xW) eJ) (ah (rS 4) (ah (rS 7) aP)))))))) (aO (eC 8 (cb (ah (rB 5) aP) (i9 kS))) (aO (eC 9 (fO 3 bF (ah (rS 0) (ah (g2 (rB 1) (kI 61) eJ) (ah (g2 (cb (ah (rB 8) aP) (i9 kq)) (kI 1) eJ) aP))))) (ef (g6 (ah (rS 4) (ah (cb (ah (eM 1 [5] (jf (g2 (Tr (rB 8) (Rw (rS 9)) Wh) (Tr (rB 8) Wh (Rw (rS 9))) eJ)) kT (g2 (rB 1) (rB 0) bq)) aP) (i9 iF)) aP)) .tuple)))))))
def mH:List D->R D:=fL 10 mG
def mI:aC->R Fl:=(aO (fv 3 (g6 aP .list)) (aO (fv 4 (g6 aP .list)) (aO (oQ (Ht (ah (rS 2) aP)) (my 2 (da (b_ 5) (da (b_ 6) o8))) (aO (eC 7 (fO 3 bF (ah (rS 0) (ah (g2 (rB 1) (rB 5) eJ) (ah (kI 8) aP))))) (g9 (fJ (g2 (rB 7) (kI 2) AM)) (wK 3 (rS 6)) (g9 (fJ (g2 (rB 7) (kI 2) (qA false))) (wK 4 (rS 6)) (λρ=>.ok (.nx ρ)))))) (ef (g6 (ah (cb (ah (rB 3) aP) (i9 iF)) (ah (cb (ah (rB 4) aP) (i9 iF)) aP)) .tuple)))))
def uo:List D->R D:=fL 8 mI
def pV:aC->R Fl:=(aO (eC 3 (fO 4 mH (ah (rS 0) (ah (kI 100) (ah (rS 1) (ah (rS 2) aP)))))) (aO (eC 4 (fO 4 pS (ah (rS 0) (ah (kI 20) (ah (g2 (rB 3) (kI 0) bq) (ah (g2 (g6 (ah (kI 2) (ah (kI 4) aP)) .list) (fO 3 bF (ah (rS 0) (ah (kI 97) (ah (kI 2) aP)))) bq) aP)))))) (ef (g6 (ah (rS 3) (ah (rS 4) (ah (fO 3 uo (ah (rS 0) (ah (kI 30) (ah (g2 (rB 3) (kI 0) bq) aP)))) aP))) .tuple))))
def jz:List D->R D:=fL 5 pV
def pW:aC->R Fl:=(ef (r6 (cb (ah (eM 1 [0] (jf (g2 (rB 1) (kI 0) bq)) kT (g2 (rB 0) (rB 1) (CY false))) aP) (i9 (f9 λbs=>bs.all id))) (ED (cb (ah (eM 1 [0] (jf (g2 (rB 1) (kI 1) bq)) kT (g2 (rB 0) (rB 1) (CY false))) aP) (i9 (f9 λbs=>bs.any id))))))
def pX:List D->R D:=fL 2 pW
def pY:aC->R Fl:=(aO (g9 (lK (fJ (fO 2 pX (ah (rS 1) (ah (Tr (rB 0) (Rw (kI 1)) (Rw (kI 3))) aP))))) (ef kN) (λρ=>.ok (.nx ρ))) (aO (fv 2 (eM 1 [0] (jf (rB 1)) (fJ (g2 (rB 0) (g2 (rB 1) (kI 4) bq) (CY true))) (rS 0))) (ef (cb (ah (jY (pH (g2 (rB 2) (cb (ah (g2 (rB 0) (kI 3) bq) aP) (i9 kS)) eJ))) aP) (i9 iF)))))
def mJ:List D->R D:=fL 3 pY
def lY:aC->R Fl:=(aO (fv 2 (U8 (rS 1) (kI 0))) (aO (fv 3 (g6 (ah (rS 1) aP) .list)) (aO (eC 4 (kI 0)) (aO (fK (fJ (g2 (rB 4) (cb (ah (rB 3) aP) (i9 kq)) AM)) (aO (oQ (jf (g2 (rB 0) (kI 1) bq)) (b_ 5) (aO (eC 6 (fO 2 mJ (ah (rS 5) (ah (g2 (rB 3) (rB 4) bq) aP)))) (g9 (vt (fJ (g2 (rB 6) kN (CW true))) (fJ (g2 (rB 6) (rB 2) (RQ true)))) (aO (tQ 2 (rS 6) (g2 (g2 (rB 2) (g2 (rB 3) (rB 4) bq) An) (kI 1) eJ)) (wK 3 (rS 6))) (λρ=>.ok (.nx ρ))))) (eC 4 (g2 (rB 4) (kI 1) eJ))) 100000) (Vu 2 (ef (rS 2)))))))
def ir:List D->R D:=fL 7 lY
def JM:aC->R Fl:=(aO (wI (fO 3 jz (ah (rS 0) (ah (kI 6) (ah (kI 6) aP)))) (my 3 (da (b_ 1) (da (b_ 2) (da (b_ 3) o8))))) (aO (fv 4 (vF (fO 2 mE (ah (rS 1) (ah (rS 2) aP))))) (aO (eC 5 (fO 3 um (ah (rS 1) (ah (rS 2) (ah (rS 3) aP))))) (aO (eC 6 kN) (aO (g9 (fJ (cb (ah (eM 1 [4] (jf (g2 (rB 3) (kI 0) bq)) kT (g2 (rB 0) (rB 1) (E6 false))) aP) (i9 (f9 λbs=>bs.all id)))) (aO (eC 6 (cb (ah (g2 (g6 (ah (kI 0) aP) .list) (eM 1 [4] (jf (g2 (rB 3) (kI 0) bq)) kT (g2 (rB 1) (rB 0) bq)) eJ) aP) (i9 Hz))) (g9 (vt (fJ (g2 (rB 6) (kI 0) (qA false))) (fJ (cb (ah (eM 1 [2] (jf (g2 (rB 3) (kI 1) bq)) kT (g2 (rB 0) (rB 1) (CY false))) aP) (i9 (f9 λbs=>bs.any id))))) (eC 6 (kI 1)) (λρ=>.ok (.nx ρ)))) (λρ=>.ok (.nx ρ))) (aO (eC 7 (fO 3 tS (ah (rS 1) (ah (rS 2) (ah (rS 3) aP))))) (aO (g9 (Gs (fJ (g2 (rB 5) (rB 6) (qA true))) (vt (fJ (g2 (rB 7) kN (CW true))) (Gs (fJ (g2 (rB 5) kN (CW false))) (fJ (g2 (rB 5) (rB 7) Rv))))) (ef (kB false)) (λρ=>.ok (.nx ρ))) (aO (eC 8 (fO 2 ir (ah (rS 1) (ah (rS 2) aP)))) (aO (oQ (De (rS 8)) (b_ 9) (g9 (lK (fJ (cb (ah (eM 1 [4,8,9] (jf (rB 9)) kT (r6 (g2 (rB 0) (rB 1) (E6 false)) (g2 (g2 (rB 1) (rB 0) bq) (g2 (rB 2) (rB 3) An) Qq))) aP) (i9 (f9 λbs=>bs.all id))))) (ef (kB false)) (λρ=>.ok (.nx ρ)))) (ef (kB true)))))))))))
def F_law:List D->R D:=fL 10 JM
end Z
section
set_option hygiene false
namespace Z
open PySem L2 J
local macro_rules | `(tactic| left) => `(tactic| simp only [Xy, Vv, Xz, XA, XB, EQ, vD, ER, Xc, NU, NV, Tz, Xd, J8, ES, J9, ET, EU, EV, NW, NX, NY, Ja, N_, Jb, Xf, TD, TF, O0, TH, O1, TJ, Xi, O3, TK, O4, Jc, O5, Jd, TQ, O6, Je, O7, O8, O9, Oc, EW, EX, TU, Od, Jf, Oe, Xn, TW, TX, Of, TY, Og, Oh, Oi, TZ, T_, Oj, Xr, Ol, Om, U0, U1, On, Vl, Oo, U2, U3, Op, Jg, Jh, U6, BC, BD, BE, Os, Xt, Ou, Ov, Ow, Ox, Oy, Oz, BF, BG, zg, eJ, xW, K_, NC, Hj, AM, Qq, Rv, L0, kq, az, d_, aY, cG, aq, Qn, jN, Ks, Kt, wf, wg, Nat.reduceSub, Nat.reduceAdd, QQ, QR, Nat.sub_self, if_true, if_false, ite_true, ite_false, ba, decide_true, decide_false, cond_true, cond_false, iM, i8, aw, cx, GO, Int.reduceLE, Int.reduceAdd, Int.reduceMul, Nat.reduceLT, Int.reduceNeg, reduceIte])
local macro_rules | `(tactic| walk_at "yy") => `(tactic| simp only [Xy, Vv, Xz, XA, XB, EQ, vD, ER, Tz, Xd, J8, ES, J9, ET, EU, EV, NW, NX, NY, Ja, N_, Jb, Xf, TD, TF, O0, TH, O1, TJ, Xi, O3, TK, O4, Jc, O5, Jd, TQ, O6, Je, O7, O8, O9, Oc, EW, EX, TU, Od, Jf, Oe, Xn, TW, TX, Of, TY, Og, Oh, Oi, TZ, T_, Oj, Xr, Ol, Om, U0, U1, On, Vl, Oo, U2, U3, Op, Jg, Jh, U6, BC, BD, BE, Os, Xt, Ou, Ov, Ow, Ox, Oy, Oz, BF, BG, zg, eJ, kq, az, d_, aY, cG, aq, Qn, jN, Ks, Kt, wf, wg, Nat.reduceSub, Nat.reduceAdd, QQ, QR, Nat.sub_self, if_true, if_false, ite_true, ite_false, ba, decide_true, decide_false, cond_true, cond_false, iM, i8, aw, cx, GO, Int.reduceLE, Int.reduceAdd, Int.reduceMul, Nat.reduceLT, Int.reduceNeg, reduceIte])
def cW {n:Nat}{g:aC->R Fl}{ds:List D}{d:D} (h:g (ca n ds)=.ok (.rt d)):fL n g ds=.ok d:=by unfold fL;rw [h]
def JP (a:List Int) (k:Int):Int:=if k<a.length then a.getD k.toNat 0 else if a=[] then 0 else a.getD (k % a.length).toNat 0*31+k
def P3 (a:List Int):iL (a.map .int)=true:=by
 induction a with
 |nil=>rfl
 |cons x r b=>simp [iL,kh,b]
def S9 (a:List Int):b9 (.list (a.map .int)) (.list [])=decide (a=[]):=by
 cases a with
 |nil=>rfl
 |cons x r=>simp [b9,jw]
def VM (a:List Int):qA false (.list (a.map .int)) (.list [])=.ok (.bool (decide (a=[]))):=by
 unfold qA
 have b:(lw (a.map .int)).canLay0=true:=by simp only [kh];exact P3 a
 have d:(lw []).canLay0=true:=rfl
 have c:min (lw (a.map .int)).depth (lw []).depth<=60:=cn (yz _ _) (by decide)
 rw [b,d,decide_eq_true c,S9]
 rfl
def VN (a:List Int) (k:Int) (c:0<=k) (d:k<a.length):Gq (a.map bV) k=some (.int (a.getD k.toNat 0)):=by
 have b:k.toNat<a.length:=by omega
 have:=rV (xs:=a.map bV) (j:=k.toNat) (v:=.int (a.getD k.toNat 0)) (by rw [aX,aZ b];simp [b])
 rwa [eY c] at this
def P4 (a:List Int) (k:Int) (c:0<=k) (b:k<a.length):bq (.list (a.map .int)) (.int k)=.ok (.int (a.getD k.toNat 0)):=by
 have e:∀ xs k,bq (.list xs) k=Ho (.list xs) k:=λ_ _=>rfl
 rw [e]
 unfold Ho
 simp only [VN a k c b]
def JQ {i j:Int} (a:-(2 ^ 64)<j) (b:j<2 ^ 64):Bv i j=true:=by
 unfold Bv
 simp only [jM,aV,decide_eq_true_eq]
 exact .inr ⟨a,b⟩
def sI {i j:Int} (a:-(2 ^ 64)<i) (b:i<2 ^ 64):Bv i j=true:=by
 unfold Bv
 simp only [jM,aV,decide_eq_true_eq]
 exact .inl ⟨a,b⟩
def Sc (a:List Int) (k:Int) (d:0<=k):kZ [.list (a.map .int),.int k]=.ok (.int (JP a k)):=by
 unfold kZ
 refine cW ?_
 unfold kY ca JP
 left
 by_cases h:k<a.length
 ·simp only [h,decide_true,cond_true,if_true,P4 a k d h,bind_ok]
  left
 ·simp only [h,decide_false,cond_false,if_false]
  left
  rw [VM]
  left
  by_cases b:a=[]
  ·simp only [b,decide_true,cond_true,if_true]
   left
  ·have c:(0:Int)<a.length:=by have:0<a.length:=List.length_pos_iff.mpr b;omega
   simp only [b,decide_false,cond_false,if_false,c,decide_true]
   left
   simp only [b,decide_false,cond_false,if_false,c,decide_true,if_true]
   left
   rw [P4 a _ (rP _ (by omega)) (nX _ c)]
   left
   rw [JQ (by decide) (by decide)]
   left
def zz (a:List Int) (k:Int):Int:=(JP a k+7919*k+1)*48271 % 2147483647
def fV (a:List Int) (k m:Int):Int:=(zz a k*zz a k+7*zz a k+k) % 2147483629 % m
def gJ (a:List Int) (k m:Int) (h:0<m):0<=fV a k m:=rP _ (by omega)
def iu (a:List Int) (k m:Int) (h:0<m):fV a k m<m:=nX _ h
def gz (a:List Int) (k m:Int) (c:0<=k) (b:0<m):bF [.list (a.map .int),.int k,.int m]=.ok (.int (fV a k m)):=by
 have e:0<=zz a k:=rP _ (by decide)
 have d:zz a k<2147483647:=nX _ (by decide)
 unfold bF
 refine cW ?_
 unfold nG ca
 left
 rw [Sc a k c]
 left
 rw [sI (by decide) (by decide)]
 left
 rw [JQ (by decide) (by decide)]
 left
 rw [show (JP a k+7919*k+1)*48271 % 2147483647=zz a k from rfl,sI (i:=zz a k) (by omega) (by omega)]
 left
 rw [sI (i:=7) (by decide) (by decide)]
 left
 rw [decide_eq_true b]
 left
 rfl
def rn {d e:Type}{kt:D->aC->R aC}{gb:aC->R Fl} (c:d->D) (f:e->d->e) (P:List d->e->aC->Prop) (h:∀ x bS b ρ,P (x::bS) b ρ->∃ ρ1 a,kt (c x) ρ=.ok ρ1/\gb ρ1=.ok (.nx a)/\P bS (f b x) a) :
  ∀ (xs:List d) (b:e) (ρ:aC),P xs b ρ->∃ a,jP kt gb (xs.map c) ρ=.ok (.nx a)/\P [] (xs.foldl f b) a
 |[],b,ρ,p=>⟨ρ,rfl,p⟩
 |x::r,b,ρ,p=>by
  obtain ⟨ρ1,g,j,l,m⟩:=h x r b ρ p
  obtain ⟨i,n,k⟩:=rn c f P h r (f b x) g m
  refine ⟨i,?_,k⟩
  rw [az]
  unfold jP
  rw [j]
  simp only [l]
  exact n
def JR {d g:Type}{kt:D->aC->R aC}{gb i:aC->R Fl}{r:R Fl} (c:d->D) (f:g->d->g) (P:List d->g->aC->Prop) {xs:List d} (b:g) {ρ:aC}
  (h:∀ x bS b ρ,P (x::bS) b ρ->∃ ρ1 a,kt (c x) ρ=.ok ρ1/\gb ρ1=.ok (.nx a)/\P bS (f b x) a) (j:P xs b ρ) (k:∀ a,P [] (xs.foldl f b) a->i a=r):(jP kt gb (xs.map c) ρ).bind (RJ i)=r:=by
 obtain ⟨a,e,p⟩:=rn c f P h xs b ρ j
 rw [e,bind_ok,vD]
 exact k a p
def Do (n:Nat) (h:n<=1000):Hr [.int (n:Int)]=.ok ((bM n).map λ(i:Nat)=>bV (i:Int)):=by
 have e:Hr [.int (n:Int)]=.ok (rj 0 (n:Int).toNat):=RL (by omega) (by omega)
 rw [e]
 unfold rj
 rw [kF]
 exact congrArg R.ok (cX λa _=>congrArg bV (Int.zero_add _))
def E7 (x:Str):Bool:=decide (1<=x.cps.size)&&decide (x.cps.size<=6/\x.cps.size≠5)&&x.cps.toList.all λc=>decide (97<=c)&&decide (c<=122)
def tT (a:List Int) (k:Int):Nat:=[1,2,3,6,1,4].getD (fV a k 6).toNat 0
def Dp (a:List Int) (k:Int) (i:Nat):Nat:=97+(fV a (k+1+i) 26).toNat
def lm (a:List Int) (k:Int):Str:=⟨((bM (tT a k)).map (Dp a k)).toArray⟩
def JU (a:List Int) (k:Int):1<=tT a k/\(tT a k<=6/\tT a k≠5):=by
 have c:=gJ a k 6 (by decide)
 have b:=iu a k 6 (by decide)
 unfold tT
 have:∀ j:_root_.Fin 6,1<=[1,2,3,6,1,4].getD j.val 0/\([1,2,3,6,1,4].getD j.val 0<=6/\[1,2,3,6,1,4].getD j.val 0≠5):=by decide
 exact this ⟨(fV a k 6).toNat,by omega⟩
def Sd (a:List Int) (k:Int) (i:Nat):97<=Dp a k i/\Dp a k i<=122:=by
 have c:=gJ a (k+1+i) 26 (by decide)
 have b:=iu a (k+1+i) 26 (by decide)
 unfold Dp
 omega
def Ff (a:List Int) (k:Int):E7 (lm a k)=true:=by
 have ⟨h1,h2⟩:=JU a k
 unfold E7 lm
 simp only [aR,aq,fD,aV,decide_eq_true_eq,bA]
 refine ⟨⟨h1,h2⟩,λc b=>?_⟩
 obtain ⟨i,_,rfl⟩:=List.mem_map.mp b
 exact Sd a k i
def P5 (j:Int) (d:0<=j) (g:j<26):bq (.str "abcdefghijklmnopqrstuvwxyz") (.int j)=.ok (.str ⟨#[97+j.toNat]⟩):=by
 have e:∀ x k,bq (.str x) k=Ho (.str x) k:=λ_ _=>rfl
 rw [e]
 unfold Ho
 have c:("abcdefghijklmnopqrstuvwxyz" : Str).cps.toList=(bM 26).map (97 + ·):=by decide +kernel
 have f:("abcdefghijklmnopqrstuvwxyz" : Str).length<=1000:=by decide +kernel
 have b:j.toNat<26:=by omega
 have a:=rV (xs:=(bM 26).map (97 + ·)) (j:=j.toNat) (v:=97+j.toNat) (by rw [aX,Km b];rfl)
 rw [eY d] at a
 simp only [f,if_true,c,a]
def Se (j:Int) (a:0<=j) (c:j<6):bq (.list [.int 1,.int 2,.int 3,.int 6,.int 1,.int 4]) (.int j)=.ok (.int (([1,2,3,6,1,4].getD j.toNat 0:Nat):Int)):=by
 obtain ⟨n,rfl⟩:=Int.eq_ofNat_of_zero_le a
 have b:n<6:=by omega
 match n,b with
 | 0,_=>rfl
 | 1,_=>rfl
 | 2,_=>rfl
 | 3,_=>rfl
 | 4,_=>rfl
 | 5,_=>rfl
def Dq (l:List Nat):∀ (b:Str),l.foldl (λ(a:Str) c=>a++⟨#[c]⟩) b=⟨(b.cps.toList++l).toArray⟩:=by
 induction l with
 |nil=>intro b;simp
 |cons c r d =>
  intro b
  rw [cH,d]
  show (⟨((b.cps++#[c]).toList++r).toArray⟩:Str)=_
  simp
def Ln:("" : Str).cps.toList=[]:=by decide +kernel
def JV (b:List Int) (k:Int) (f:0<=k):kK [.list (b.map .int),.int k]=.ok (.str (lm b k)):=by
 have h:=gJ b k 6 (by decide)
 have d:=iu b k 6 (by decide)
 have ⟨w1,w2⟩:=JU b k
 unfold kK
 refine cW ?_
 unfold pQ ca
 left
 rw [xq (ds:=(bM (tT b k)).map λ(i:Nat)=>bV i)]
 ·refine JR (λ(i:Nat)=>bV i) (λ(a:Str) i=>a++⟨#[Dp b k i]⟩) (λbS a ρ=>a.length+bS.length<=900/\∃ z,ρ=[.shr (.list (b.map .int)),.shr (.int k),.shr (.str a),z]) "" ?_ ⟨by rw [fD,show ("" : Str).length=0 by decide];omega,_,rfl⟩ ?_
  ·rintro i bS a ρ ⟨j,z,rfl⟩
   simp only [aY] at j
   refine ⟨_,[.shr (.list (b.map .int)),.shr (.int k),.shr (.str (a++⟨#[Dp b k i]⟩)),.shr (.int i)],rfl,?_,?_,_,rfl⟩
   ·left
    rw [gz b _ 26 (by omega) (by decide)]
    left
    rw [P5 _ (gJ _ _ _ (by decide)) (iu _ _ _ (by decide))]
    left
    have l:a.length+(⟨#[97+(fV b (k+1+i) 26).toNat]⟩:Str).length<=1000:=by
     show a.length+1<=1000
     omega
    rw [if_pos l]
    left
    rw [show 97+(fV b (k+1+i) 26).toNat=Dp b k i from rfl]
   ·show (a.cps++#[_]).size+bS.length<=900
    rw [Array.size_append]
    show a.cps.size+1+bS.length<=900
    have:a.length=a.cps.size:=rfl
    omega
  ·rintro e ⟨_,z,rfl⟩
   left
   have:(bM (tT b k)).foldl (λ(a:Str) i=>a++⟨#[Dp b k i]⟩) ""=lm b k:=by
    have:=Dq ((bM (tT b k)).map (Dp b k)) ""
    rw [Be] at this
    rw [this,Ln]
    unfold lm
    rw [jN]
   rw [this]
 ·left
  rw [gz b k 6 f (by decide)]
  left
  have c:=Se (fV b k 6) h d
  have g:[1,2,3,6,1,4].getD (fV b k 6).toNat 0=tT b k:=rfl
  rw [g] at c
  rw [c]
  left
  rw [Do (tT b k) (by omega)]
def lZ (l:List (Str×D)):List (D×D):=l.map λp=>(.str p.1,p.2)
def vM (l:List (Str×D)) (x:Str) (d:D):List (Str×D):=if l.any (λp=>decide (p.1=x)) then l.map (λp=>if p.1=x then (p.1,d) else p) else l++[(x,d)]
def vN (x y:Str):b9 (.str x) (.str y)=decide (x=y):=by
 show (x==y)=_
 rw [rO]
def Sf (l:List (Str×D)) (x:Str) (d:D):og (lZ l) (.str x) d=lZ (vM l x d):=by
 unfold og vM lZ
 rw [qF]
 have e:((λa:D×D=>b9 a.1 (.str x))∘λp:Str×D=>(aF p.1,p.2))=λp=>decide (p.1=x):=by
  funext p
  exact vN p.1 x
 rw [e]
 split
 ·rw [cm,cm]
  apply cX
  intro p _
  simp only [Function.comp,vN]
  by_cases h:p.1=x
  ·simp [h]
  ·simp [h]
 ·simp
def zA (l:List (Str×D)):eP (lZ l)=true:=by
 unfold eP lZ
 rw [kA,bA]
 intro p _
 rfl
def Fg (l:List (Str×D)) (x:Str) (d:D):(vM l x d).length<=l.length+1:=by
 unfold vM
 split<;>simp
def C0 (l:List (Str×D)) (x:Str) (d:D):(vM l x d).map (·.1)=if x∈l.map (·.1) then l.map (·.1) else l.map (·.1)++[x]:=by
 unfold vM
 have e:(l.any λp=>decide (p.1=x))=decide (x∈l.map (·.1)):=by
  rw [qO]
  simp only [jo,decide_eq_true_eq,cC]
 rw [e]
 by_cases h:x∈l.map (·.1)
 ·rw [decide_eq_true h,if_pos rfl,if_pos h,cm]
  apply cX
  intro p _
  by_cases a:p.1=x<;>simp [a]
 ·rw [decide_eq_false h,if_neg bw,if_neg h,bc]
  rfl
def P6 {Q:Str->D->Prop}{l:List (Str×D)}{x:Str}{d:D} (h:∀ p∈l,Q p.1 p.2) (c:Q x d):∀ p∈vM l x d,Q p.1 p.2:=by
 unfold vM
 split
 ·intro p a
  obtain ⟨f,b,rfl⟩:=List.mem_map.mp a
  by_cases e:f.1=x
  ·rw [if_pos e];rw [e];exact c
  ·rw [if_neg e];exact h f b
 ·intro p a
  rcases List.mem_append.mp a with a|a
  ·exact h p a
  ·rw [List.mem_singleton.mp a];exact c
def Lo {l:List Str}{x:Str} (h:l.Nodup):(if x∈l then l else l++[x]).Nodup:=by
 by_cases a:x∈l
 ·rw [if_pos a];exact h
 ·rw [if_neg a];exact yi h a
def Ua {i:Nat}{a g:aC->R D}{ρ:aC}{l:List (Str×D)}{x:Str}{d:D} (f:ρ[i]?=some (Sl.own (.dict (lZ l)))) (h:g ρ=.ok d) (c:a ρ=.ok (.str x)) (j:l.length<1000):t5 i a g ρ=.ok (.nx (ρ.set i (.own (.dict (lZ (vM l x d)))))):=by
 have b:(lZ l).length<1000:=by unfold lZ;rw [aq];exact j
 have e:t5 i a g ρ=(g ρ).bind λd=>(a ρ).bind λk=>match mz k with
  |some _=>if (lZ l).length<1000/\eP (lZ l)=true then .ok (.nx (ρ.set i (.own (.dict (og (lZ l) k d))))) else .no
  |none=>.no:=by
  unfold t5
  simp only [f]
  try rfl
 rw [e,h,zg,c,zg]
 simp only [mz,if_pos (kg b (zA l)),Sf]
def Fh (l:List (Str×D)):kS (.dict (lZ l))=.ok (.list ((l.map (·.1)).map .str)):=by
 have e:∀ kvs,kS (.dict kvs)=if eP kvs=true then .ok (.list (kvs.map (·.1))) else .no:=λ_=>rfl
 rw [e,if_pos (zA l)]
 unfold lZ
 rw [cm,cm]
 rfl
def sorted_strs (ss:List Str) (h:ss.length<64):sf (.list (ss.map .str))=.ok (.list ((ju ss).map .str)):=by
 have e:∀ ds,sf (.list ds)=match fc ds with
  |some ss=>if ss.length<64 then .ok (.list ((ju ss).map .str)) else .no
  |none=>.no:=λ_=>rfl
 rw [e,strsOf_map]
 simp only [if_pos h]
def gW (ds:List D):iF (.list ds)=.ok (.tuple ds):=id rfl
def Dr (a:List Int) (k:Int) (n:Nat):List Str:=(bM n).map λ(i:Nat)=>lm a (k+1+8*(i:Int))
def Ds (a:List Int) (k m:Int):List Str:=ju (cY [] (Dr a k (fV a k (m+1)).toNat))
structure P7 (fs:List Str) (n:Nat):Prop where
 ok:∀ x∈fs,E7 x=true
 up:fs.Pairwise λa b=>qq a b=true
 len:fs.length<=n
def P8 {c:Type}{a b:List c} (h:a.Perm b):a.length=b.length:=h.length_eq
def HF (b:List Int) (k m:Int) (e:0<=m):P7 (Ds b k m) m.toNat:=by
 have f:=gJ b k (m+1) (by omega)
 have d:=iu b k (m+1) (by omega)
 have c:=ip (cY [] (Dr b k (fV b k (m+1)).toNat))
 refine ⟨λx a=>?_,?_,?_⟩
 ·have a:=c.mem_iff.mp a
  rw [j8] at a
  rcases a with a|a
  ·cases a
  ·obtain ⟨i,_,rfl⟩:=List.mem_map.mp a
   exact Ff _ _
 ·exact wD (qY _) (c.nodup_iff.mpr (i_ _ [] eV))
 ·unfold Ds
  rw [P8 c]
  have:=fk (Dr b k (fV b k (m+1)).toNat) []
  unfold Dr at this ⊢
  simp at this
  omega
def Lp (f:Nat->Str) (l:List Nat):∀ b:List (Str×D),((l.foldl (λ(a:List (Str×D)) i=>vM a (f i) (.bool true)) b).map (·.1))=cY (b.map (·.1)) (l.map f):=by
 induction l with
 |nil=>intro b;rfl
 |cons i r c =>
  intro b
  rw [cH,c,az,C0]
  rfl
def P9 (b:List Int) (k m:Int) (h:0<=k) (o:0<=m) (f:m<=20):nI [.list (b.map .int),.int k,.int m]=.ok (.tuple ((Ds b k m).map .str)):=by
 have j:=gJ b k (m+1) (by omega)
 have n:=iu b k (m+1) (by omega)
 unfold nI
 refine cW ?_
 unfold nH ca
 left
 rw [xq (ds:=(bM (fV b k (m+1)).toNat).map λ(i:Nat)=>bV i)]
 ·refine JR (λ(i:Nat)=>bV i) (λ(a:List (Str×D)) i=>vM a (lm b (k+1+8*(i:Int))) (.bool true)) (λbS a ρ=>a.length+bS.length<=60/\∃ z,ρ=[.shr (.list (b.map .int)),.shr (.int k),.shr (.int m),.own (.dict (lZ a)),z]) [] ?_ ⟨by simp;omega,_,rfl⟩ ?_
  ·rintro i bS a ρ ⟨c,z,rfl⟩
   simp only [aY] at c
   refine ⟨_,[.shr (.list (b.map .int)),.shr (.int k),.shr (.int m),.own (.dict (lZ (vM a (lm b (k+1+8*(i:Int))) (.bool true)))),.shr (.int i)],rfl,?_,?_,_,rfl⟩
   ·refine (Ua (l:=a) (x:=lm b (k+1+8*(i:Int))) (d:=.bool true) rfl rfl ?_ (by omega)).trans rfl
    left
    rw [sI (by decide) (by decide)]
    left
    rw [JV b _ (by omega)]
   ·have:=Fg a (lm b (k+1+8*(i:Int))) (.bool true)
    omega
  ·rintro g ⟨c,z,rfl⟩
   simp only [cG] at c
   left
   rw [Fh]
   left
   have e:=Lp (λi=>lm b (k+1+8*(i:Int))) (bM (fV b k (m+1)).toNat) []
   rw [e,sorted_strs]
   ·left
    rw [gW]
    left
    rfl
   ·rw [<- e,aq];omega
 ·left
  rw [gz b k (m+1) h (by omega)]
  left
  have:=Do (fV b k (m+1)).toNat (by omega)
  rw [eY j] at this
  exact this
structure dk where
 name:Str
 needs:List Str
 bars:List Str
 makes:List Str
 ends:List Str
 price:Int
abbrev aG (xs:List Str):D:=.tuple (xs.map .str)
def eU (e:dk):D:=.tuple [.str e.name,aG e.needs,aG e.bars,aG e.makes,aG e.ends,.int e.price]
structure tj (fs xs:List Str):Prop where
 up:xs.Pairwise λa b=>qq a b=true
 mem:∀ x∈xs,x∈fs
structure tU (fs:List Str) (e:dk):Prop where
 name:E7 e.name=true
 needs:tj fs e.needs
 bars:tj fs e.bars
 makes:tj fs e.makes
 ends:tj fs e.ends
 nb:∀ x∈e.needs,x∉e.bars
 me:∀ x∈e.makes,x∉e.ends
 p0:0<=e.price
 p9:e.price<=9
def Dt (xs:List Str):List Str:=ju (cY [] xs)
def l_ {xs:List Str}{x:Str}:x∈Dt xs↔x∈xs:=by
 unfold Dt
 rw [(ip _).mem_iff,j8]
 simp
def Du (xs:List Str):(Dt xs).Pairwise λa b=>qq a b=true:=wD (qY _) ((ip _).nodup_iff.mpr (i_ _ [] eV))
def yu {fs xs:List Str} (h:∀ x∈xs,x∈fs):tj fs (Dt xs):=⟨Du xs,λx a=>h x (l_.mp a)⟩
def Dv (fs:List Str) (j:Int) (c:0<=j) (d:j<fs.length):∃ x,x∈fs/\bq (aG fs) (.int j)=.ok (.str x):=by
 have a:j.toNat<fs.length:=by omega
 refine ⟨fs[j.toNat],jm a,?_⟩
 have e:∀ xs k,bq (.tuple xs) k=Ho (.tuple xs) k:=λ_ _=>rfl
 rw [e]
 have b:=rV (xs:=fs.map aF) (j:=j.toNat) (v:=.str fs[j.toNat]) (by rw [aX,aZ a];rfl)
 rw [eY c] at b
 unfold Ho
 simp only [b]
def zB (x:Str):∀ ys:List Str,((ys.map aF).any λy=>b9 y (.str x))=decide (x∈ys)
 |[]=>rfl
 |y::r=>by
  rw [az,eS,zB x r,vN]
  by_cases h:y=x
  ·subst h;simp
  ·simp [h,cF h]
def zC (ys:List Str):(ys.map aF).all lP=true:=by
 rw [kA,bA];intro _ _;rfl
def Sg (a:Bool) (x:Str) (ys:List Str):CY a (.str x) (.list (ys.map .str))=.ok (.bool (if a then !decide (x∈ys) else decide (x∈ys))):=by
 have e:CY a (.str x) (.list (ys.map .str))=if lP (.str x)&&(ys.map aF).all lP then .ok (.bool (if a then !((ys.map aF).any λy=>b9 y (.str x)) else (ys.map aF).any λy=>b9 y (.str x))) else .no:=rfl
 rw [e,zC,zB]
 rfl
def pZ (a:Bool) (x:Str) (ys:List Str):CY a (.str x) (aG ys)=.ok (.bool (if a then !decide (x∈ys) else decide (x∈ys))):=by
 have e:CY a (.str x) (aG ys)=if lP (.str x)&&(ys.map aF).all lP then .ok (.bool (if a then !((ys.map aF).any λy=>b9 y (.str x)) else (ys.map aF).any λy=>b9 y (.str x))) else .no:=rfl
 rw [e,zC,zB]
 rfl
def kc (c:Bool) (a b:Int):qA c (.int a) (.int b)=.ok (.bool (if c then !decide (a=b) else decide (a=b))):=by
 have e:qA c (.int a) (.int b)=.ok (.bool (if c then !(a==b) else (a==b))):=rfl
 rw [e,rO]
def Dw {x:Str} (h:E7 x=true):(aF x).canLay0=true:=by
 unfold E7 at h
 simp only [aV,bA,decide_eq_true_eq] at h
 show PyData.strOk x=true
 unfold PyData.strOk
 rw [<- xN,bA]
 intro c a
 have:=h.2 c a
 exact decide_eq_true (by omega)
def Sh (a:Bool) {x y:Str} (b:E7 x=true) (c:E7 y=true):qA a (.str x) (.str y)=.ok (.bool (if a then !decide (x=y) else decide (x=y))):=by
 unfold qA
 rw [Dw b,Dw c,vN]
 rfl
def zD (ss:List Str) (h:ss.length<60):ug (.list (ss.map .str))=.ok (cY [] ss):=by
 have e:∀ ds,ug (.list ds)=match fc ds with
  |some ss=>if ss.length<60 then .ok (cY [] ss) else .no
  |none=>.no:=λ_=>rfl
 rw [e,strsOf_map]
 simp only [if_pos h]
def JX (g:aC->R D) (s:Sl) (ρ:aC):pH g (s::ρ)=(g (s::ρ)).bind ug:=id rfl
def Ub:List Str->R D:=λss=>if ss.length<64 then .ok (.list ((ju ss).map .str)) else .no
def sJ (g:aC->R (List Str)) (s:Sl) (ρ:aC):jY g (s::ρ)=(g (s::ρ)).bind Ub:=id rfl
def vO (ss:List Str) (h:ss.length<64):Ub ss=.ok (.list ((ju ss).map .str)):=if_pos h
def Lq (ss:List Str) (h:ss.length<60) (ρ:aC):(cb (J.ah (jY (pH (rB 0))) J.aP) (i9 iF)) (.shr (.list (ss.map .str))::ρ)=.ok (aG (Dt ss)):=by
 left
 rw [sJ,JX]
 left
 rw [zD ss h]
 left
 rw [vO _ (by have:=fk ss [];simp at this;omega)]
 left
 rw [gW]
 rfl
def Fi {ρ:aC}{gt:aC->R Bool}{x:Str}{b:Bool}{s:Sl}{r:aC} (a:ρ=s::r) (h:gt (.shr (.str x)::r)=.ok b):fw (iA 1 ρ gt (rS 0)) [.str x]=.ok ((if b then [x] else []).map .str):=by
 subst a
 have e:=pJ (ρ:=s::r) (gt:=gt) (ge:=(rS 0)) (d:=.str x) (y:=.str x) (b:=b) h λ_=>rfl
 unfold fw
 rw [e,zg]
 unfold fw
 rw [zg]
 cases b<;>rfl
def VO (p q r t:List Str) (a:p.length<60) (b:q.length<60) (d:r.length<60) (c:t.length<60):fw (iA 1 [Sl.no] kT (cb (J.ah (jY (pH (rB 0))) J.aP) (i9 iF))) [.list (p.map .str),.list (q.map .str),.list (r.map .str),.list (t.map .str)]=.ok [aG (Dt p),aG (Dt q),aG (Dt r),aG (Dt t)] :=
 dA _ (λss:List Str=>lw (ss.map .str)) (λss=>aG (Dt ss)) [p,q,r,t] λss hs=>eZ rfl (Lq ss (by simp at hs;rcases hs with h|h|h|h<;>(rw [h];assumption)) _)
def Uc (a b c d:D):bq (.list [a,b,c,d]) (.int 0)=.ok a:=id rfl
def Ud (a b c d:D):bq (.list [a,b,c,d]) (.int 1)=.ok b:=id rfl
def Ue (a b c d:D):bq (.list [a,b,c,d]) (.int 2)=.ok c:=id rfl
def Uf (a b c d:D):bq (.list [a,b,c,d]) (.int 3)=.ok d:=id rfl
def Si (d:List Int) (k:Int) (P:0<=k) (fs:List Str) (B:∀ x∈fs,E7 x=true) (T:0<fs.length) (t:Str) (N:E7 t=true) :
  ∃ e,pU [.list (d.map .int),.int k,aG fs,.str t]=.ok (eU e)/\tU fs e/\e.name=t:=by
 have l:(0:Int)<(fs.length:Int):=by omega
 obtain ⟨a,s,L⟩:=Dv fs (fV d (k+10) fs.length) (gJ _ _ _ l) (iu _ _ _ l)
 obtain ⟨b,M,O⟩:=Dv fs (fV d (k+11) fs.length) (gJ _ _ _ l) (iu _ _ _ l)
 obtain ⟨c,w,Q⟩:=Dv fs (fV d (k+12) fs.length) (gJ _ _ _ l) (iu _ _ _ l)
 have I:=gJ d (k+13) 3 (by decide)
 have G:=iu d (k+13) 3 (by decide)
 obtain ⟨i,v,y,o⟩:∃ i:List Str,(∀ x∈i,x∈fs)/\i.length<60/\IY (.list [.str a,.str b]) none (some (1+fV d (k+13) 3 / 2))=.ok (.list (i.map .str)):=by
  by_cases h:fV d (k+13) 3=2
  ·exact ⟨[a,b],by simp [s,M],by simp,by rw [h];rfl⟩
  ·have:fV d (k+13) 3 / 2=0:=by omega
   exact ⟨[a],by simp [s],by simp,by rw [this];rfl⟩
 let m:Bool:=!decide (c∈i)&&decide (fV d (k+14) 4=0)
 let j:Bool:=!decide (a=c)&&decide (fV d (k+15) 3=0)
 have K:=gJ d k 5 (by decide)
 have S:=iu d k 5 (by decide)
 refine ⟨⟨t,Dt i,Dt (if m then [c] else []),Dt [c],Dt (if j then [a] else []),fV d k 5⟩,?_,⟨N,yu v,yu ?_,yu (by simp [w]),yu ?_,λx u h=>?_,λx u h=>?_,K,by show fV d k 5<=9;omega⟩,rfl⟩
 ·unfold pU
  refine cW ?_
  unfold pT ca
  left
  rw [gz d _ _ (by omega) l]
  left
  rw [L]
  left
  rw [gz d (k+11) _ (by omega) l]
  left
  rw [O]
  left
  rw [gz d (k+12) _ (by omega) l]
  left
  rw [Q]
  left
  rw [gz d (k+13) 3 (by omega) (by decide)]
  left
  simp only [GO,decide_true,v3,if_true]
  left
  rw [o]
  left
  rw [Fi (b:=m) rfl]
  ·left
   rw [Fi (b:=j) rfl]
   ·left
    simp only [Tx]
    rw [D7 rfl,D7 rfl]
    left
    have z:=VO i (if m then [c] else []) [c] (if j then [a] else []) y (by cases m<;>simp) (by simp) (by cases j<;>simp)
    rw [show ([c].map aF)=[aF c] from rfl] at z
    rw [z]
    left
    rw [Uc]
    left
    rw [Ud]
    left
    rw [Ue]
    left
    rw [Uf]
    left
    rw [gz d k 5 P (by decide)]
    left
    rfl
   ·left
    rw [Sh true (B a s) (B c w)]
    left
    by_cases q:a=c
    ·simp only [j,q,decide_true,iM,Bb,if_true,cond_false]
    ·simp only [j,q,decide_false,i8,u_,if_true,cond_true]
     rw [gz d (k+15) 3 (by omega) (by decide)]
     left
     rw [kc]
     left
  ·left
   rw [Sg]
   left
   by_cases p:c∈i
   ·simp only [m,p,decide_true,iM,Bb,if_true,cond_false]
   ·simp only [m,p,decide_false,i8,u_,if_true,cond_true]
    rw [gz d (k+14) 4 (by omega) (by decide)]
    left
    rw [kc]
    left
 ·intro x n
  cases f:m
  ·simp [f] at n
  ·simp [f] at n;rw [n];exact w
 ·intro x n
  cases g:j
  ·simp [g] at n
  ·simp [g] at n;rw [n];exact s
 ·have h:x∈(if m then [c] else []):=l_.mp h
  cases f:m
  ·simp [f] at h
  ·simp [f] at h
   subst h
   have:(!decide (x∈i))=true:=by
    have:(!decide (x∈i)&&decide (fV d (k+14) 4=0))=true:=f
    simp only [aV] at this
    exact this.1
   simp at this
   exact this (l_.mp u)
 ·cases g:j
  ·have h:x∈(if j then [a] else []):=l_.mp h
   simp [g] at h
  ·skip
   have E:x∈[c]:=l_.mp u
   have H:x∈(if j then [a] else []):=l_.mp h
   simp only [df] at E
   simp only [g,if_true,df] at H
   have:(!decide (a=c)&&decide (fV d (k+15) 3=0))=true:=g
   simp only [aV] at this
   have A:=this.1
   simp at A
   exact A (H.symm.trans E)
def Dx {i:Nat}{b g:aC->R D}{ρ:aC}{a:List (List D)}{ds:List D}{d:D}{j:Int} (e:ρ[i]?=some (Sl.ow2 a)) (c:b ρ=.ok (.int j)) (h:0<=j) (l:a[j.toNat]?=some ds) (f:g ρ=.ok d) (k:ds.length<1000):oR i b g ρ=.ok (.nx (ρ.set i (.ow2 (a.set j.toNat (ds++[d]))))):=by
 unfold oR
 simp only [e,c,bind_ok,if_pos h,l,f,if_pos k]
def nJ (n:Nat):List Str->List (Nat×Str)
 |[]=>[]
 |x::r=>(n,x)::nJ (n+1) r
abbrev cI (p:Nat×Str):D:=.tuple [.int (p.1:Nat),.str p.2]
def yv:∀ (xs:List Str) (n:Nat),qr n (xs.map .str)=(nJ n xs).map cI
 |[],_=>rfl
 |x::r,n=>by
  show dD [.int n,.str x]::qr (n+1) (r.map .str)=cI (n,x)::(nJ (n+1) r).map cI
  rw [yv r (n+1)]
def sK:∀ (xs:List Str) (n:Nat),(nJ n xs).map (·.2)=xs
 |[],_=>rfl
 |x::r,n=>by
  show x::(nJ (n+1) r).map (·.2)=x::r
  rw [sK r]
def Fj:∀ (fs:List Str),(∀ x∈fs,E7 x=true)->iL (fs.map .str)=true
 |[],_=>rfl
 |x::r,h=>by
  have a:=Dw (h x ak)
  have c:=Fj r λy b=>h y (ag _ b)
  simp only [az,iL,a,c,v3]
def JY (fs:List Str) (c:∀ x∈fs,E7 x=true):qA true (aG fs) (.tuple [])=.ok (.bool (!decide (fs=[]))):=by
 unfold qA
 have a:(aG fs).canLay0=true:=by simp only [kh];exact Fj fs c
 have e:(dD []).canLay0=true:=rfl
 have b:min (aG fs).depth (dD []).depth<=60:=cn (yz _ _) (by decide)
 have d:b9 (aG fs) (.tuple [])=decide (fs=[]):=by
  cases fs with
  |nil=>rfl
  |cons x r=>simp [b9,jw]
 rw [a,e,decide_eq_true b,d]
 rfl
structure om (pre p q:List Str):Prop where
 sp:p.Sublist pre
 sq:q.Sublist pre
 d:∀ x∈p,x∉q
def om.skip {a p q:List Str} (h:om a p q) (x:Str):om (a++[x]) p q:=⟨h.sp.trans (jE _ _),h.sq.trans (jE _ _),h.d⟩
def om.left {a p q:List Str} (h:om a p q) (x:Str) (e:x∉a):om (a++[x]) (p++[x]) q:=⟨h.sp.append (fi _),h.sq.trans (jE _ _),λy c b=>by
 rcases List.mem_append.mp c with h1|h1
 ·exact h.d y h1 b
 ·rw [List.mem_singleton.mp h1] at b
  exact e (h.sq.subset b)⟩
def om.right {a p q:List Str} (h:om a p q) (x:Str) (e:x∉a):om (a++[x]) p (q++[x]):=⟨h.sp.trans (jE _ _),h.sq.append (fi _),λy b c=>by
 rcases List.mem_append.mp c with h1|h1
 ·exact h.d y b h1
 ·rw [List.mem_singleton.mp h1] at b
  exact e (h.sp.subset b)⟩
abbrev o4 (p q r t:List Str):Sl:=.ow2 [p.map .str,q.map .str,r.map .str,t.map .str]
def XR (j:Int) (c:0<=j) (a:j<3):∃ b:Bool,bq (.list [.int 0,.int 0,.int 1]) (.int j)=.ok (.int (if b then 0 else 1)):=by
 have:j=0\/j=1\/j=2:=by omega
 rcases this with h|h|h<;>subst h
 ·exact ⟨true,rfl⟩
 ·exact ⟨true,rfl⟩
 ·exact ⟨false,rfl⟩
def XS (j:Int) (c:0<=j) (a:j<4):∃ b:Bool,bq (.list [.int 2,.int 2,.int 3,.int 3]) (.int j)=.ok (.int (if b then 2 else 3)):=by
 have:j=0\/j=1\/j=2\/j=3:=by omega
 rcases this with h|h|h|h<;>subst h
 ·exact ⟨true,rfl⟩
 ·exact ⟨true,rfl⟩
 ·exact ⟨false,rfl⟩
 ·exact ⟨false,rfl⟩
def vP (p:List Str) (x:Str):(p++[x]).map aF=p.map .str++[.str x]:=by simp
def Pa {a b c d e f:Sl}{g p q r t:List Str}{x:Str}{j:Int} (h:om g p q) (l:x∉g) (v:g.length<900) (u:0<=j) :
  ∃ k q',om (g++[x]) k q'/\g9 (fJ (g2 (rB 7) (kI 3) AM)) (oR 4 (g2 (g6 (J.ah (kI 0) (J.ah (kI 0) (J.ah (kI 1) J.aP))) .list) (rB 7) bq) (rS 6)) (λρ=>.ok (.nx ρ)) [a,b,c,d,o4 p q r t,e,.shr (.str x),.shr (.int j),f]=.ok (.nx [a,b,c,d,o4 k q' r t,e,.shr (.str x),.shr (.int j),f]):=by
 by_cases i:j<3
 ·obtain ⟨o,m⟩:=XR j u i
  have s:p.length<1000:=by have:=h.sp.length_le;omega
  have n:q.length<1000:=by have:=h.sq.length_le;omega
  cases o
  ·refine ⟨p,q++[x],h.right x l,?_⟩
   left
   rw [decide_eq_true i]
   left
   simp only [o4,vP]
   refine (Dx (j:=1) (ds:=q.map .str) (d:=.str x) rfl ?_ (by decide) rfl rfl (by rw [aq];exact n)).trans rfl
   left
   rw [m]
   rfl
  ·refine ⟨p++[x],q,h.left x l,?_⟩
   left
   rw [decide_eq_true i]
   left
   simp only [o4,vP]
   refine (Dx (j:=0) (ds:=p.map .str) (d:=.str x) rfl ?_ (by decide) rfl rfl (by rw [aq];exact s)).trans rfl
   left
   rw [m]
   rfl
 ·refine ⟨p,q,h.skip x,?_⟩
  left
  rw [decide_eq_false i]
  left
def Pb {a b c d e f:Sl}{g p q r t:List Str}{x:Str}{j:Int} (h:om g r t) (l:x∉g) (v:g.length<900) (u:0<=j) :
  ∃ k t',om (g++[x]) k t'/\g9 (fJ (g2 (rB 7) (kI 4) AM)) (oR 4 (g2 (g6 (J.ah (kI 2) (J.ah (kI 2) (J.ah (kI 3) (J.ah (kI 3) J.aP)))) .list) (rB 7) bq) (rS 6)) (λρ=>.ok (.nx ρ)) [a,b,c,d,o4 p q r t,e,.shr (.str x),.shr (.int j),f]=.ok (.nx [a,b,c,d,o4 p q k t',e,.shr (.str x),.shr (.int j),f]):=by
 by_cases i:j<4
 ·obtain ⟨o,m⟩:=XS j u i
  have s:r.length<1000:=by have:=h.sp.length_le;omega
  have n:t.length<1000:=by have:=h.sq.length_le;omega
  cases o
  ·refine ⟨r,t++[x],h.right x l,?_⟩
   left
   rw [decide_eq_true i]
   left
   simp only [o4,vP]
   refine (Dx (j:=3) (ds:=t.map .str) (d:=.str x) rfl ?_ (by decide) rfl rfl (by rw [aq];exact n)).trans rfl
   left
   rw [m]
   rfl
  ·refine ⟨r++[x],t,h.left x l,?_⟩
   left
   rw [decide_eq_true i]
   left
   simp only [o4,vP]
   refine (Dx (j:=2) (ds:=r.map .str) (d:=.str x) rfl ?_ (by decide) rfl rfl (by rw [aq];exact s)).trans rfl
   left
   rw [m]
   rfl
 ·refine ⟨r,t,h.skip x,?_⟩
  left
  rw [decide_eq_false i]
  left
def XT (i:Nat) (ρ:aC):RH i ρ=.ok (.nx ((clear2 ρ).set i (.ow2 [[],[],[],[]]))):=id rfl
def om.sub {fs p q:List Str} (d:fs.Pairwise λa b=>qq a b=true) (h:om fs p q):tj fs p/\tj fs q:=⟨⟨d.sublist h.sp,λx c=>h.sp.subset c⟩,⟨d.sublist h.sq,λx c=>h.sq.subset c⟩⟩
def Pc (p:List Str) (ρ:aC):(cb (J.ah (rB 0) J.aP) (i9 iF)) (.shr (.list (p.map .str))::ρ)=.ok (aG p):=by
 left
 rw [gW]
def XU (p q r t:List Str):fw (iA 1 [Sl.no] kT (cb (J.ah (rB 0) J.aP) (i9 iF))) [.list (p.map .str),.list (q.map .str),.list (r.map .str),.list (t.map .str)]=.ok [aG p,aG q,aG r,aG t] :=
 dA _ (λss:List Str=>lw (ss.map .str)) (λss=>aG ss) [p,q,r,t] λss hs=>eZ rfl (Pc ss _)
def Lr (g:List Int) (k:Int) (P:0<=k) (fs:List Str) (I:∀ x∈fs,E7 x=true) (L:fs.Pairwise λa b=>qq a b=true) (M:fs.Nodup) (hl:fs.length<=6) (m:Str) (N:E7 m=true) :
  ∃ e,ja [.list (g.map .int),.int k,aG fs,.str m]=.ok (eU e)/\tU fs e/\e.name=m:=by
 have S:=gJ g k 5 (by decide)
 have p1:=iu g k 5 (by decide)
 have go:∀ ρ:aC,ρ=[.shr (.list (g.map .int)),.shr (.int k),.shr (aG fs),.shr (.str m),.no,.no,.no,.no,.no]->(!decide (fs=[])&&decide (fV g 97 2=0))=false->∃ e,j9 ρ=.ok (.rt (eU e))/\tU fs e/\e.name=m:=by
  rintro ρ rfl s
  obtain ⟨o,u,p,q,r,t,n,v,z⟩:∃ o,(oQ (Ht (J.ah (rS 2) J.aP)) (my 2 (da (b_ 5) (da (b_ 6) o8))) (aO (eC 7 (fO 3 bF (J.ah (rS 0) (J.ah (g2 (g2 (rB 1) (kI 10) eJ) (rB 5) eJ) (J.ah (kI 8) J.aP))))) (aO (g9 (fJ (g2 (rB 7) (kI 3) AM)) (oR 4 (g2 (g6 (J.ah (kI 0) (J.ah (kI 0) (J.ah (kI 1) J.aP))) .list) (rB 7) bq) (rS 6)) (λρ=>.ok (.nx ρ))) (aO (eC 7 (fO 3 bF (J.ah (rS 0) (J.ah (g2 (g2 (rB 1) (kI 20) eJ) (rB 5) eJ) (J.ah (kI 8) J.aP))))) (g9 (fJ (g2 (rB 7) (kI 4) AM)) (oR 4 (g2 (g6 (J.ah (kI 2) (J.ah (kI 2) (J.ah (kI 3) (J.ah (kI 3) J.aP)))) .list) (rB 7) bq) (rS 6)) (λρ=>.ok (.nx ρ))))))) [.shr (.list (g.map .int)),.shr (.int k),.shr (aG fs),.shr (.str m),o4 [] [] [] [],.no,.no,.no,.no]=.ok (.nx o)/\∃ p q r t,om fs p q/\om fs r t/\∃ A E w,o=[.shr (.list (g.map .int)),.shr (.int k),.shr (aG fs),.shr (.str m),o4 p q r t,A,E,w,.no]:=by
   rw [xq (ds:=(nJ 0 fs).map cI)]
   ·have H:=rn cI (λ(a:Unit) (_:Nat×Str)=>a) (λbS _ ρ=>∃ l,l++bS.map (·.2)=fs/\∃ p q r t,om l p q/\om l r t/\∃ A E w,ρ=[.shr (.list (g.map .int)),.shr (.int k),.shr (aG fs),.shr (.str m),o4 p q r t,A,E,w,.no]) (kt:=my 2 (da (b_ 5) (da (b_ 6) o8))) (gb:=(aO (eC 7 (fO 3 bF (J.ah (rS 0) (J.ah (g2 (g2 (rB 1) (kI 10) eJ) (rB 5) eJ) (J.ah (kI 8) J.aP))))) (aO (g9 (fJ (g2 (rB 7) (kI 3) AM)) (oR 4 (g2 (g6 (J.ah (kI 0) (J.ah (kI 0) (J.ah (kI 1) J.aP))) .list) (rB 7) bq) (rS 6)) (λρ=>.ok (.nx ρ))) (aO (eC 7 (fO 3 bF (J.ah (rS 0) (J.ah (g2 (g2 (rB 1) (kI 20) eJ) (rB 5) eJ) (J.ah (kI 8) J.aP))))) (g9 (fJ (g2 (rB 7) (kI 4) AM)) (oR 4 (g2 (g6 (J.ah (kI 2) (J.ah (kI 2) (J.ah (kI 3) (J.ah (kI 3) J.aP)))) .list) (rB 7) bq) (rS 6)) (λρ=>.ok (.nx ρ)))))))
    obtain ⟨o,u,l,n,p,q,r,t,v,z,h5⟩:=H (by
     rintro ⟨i,x⟩ bS _ ρ ⟨l,n,p,q,r,t,v,z,A,E,w,rfl⟩
     have G:x∉l:=by
      rw [<- n,az] at M
      have:=(List.nodup_append.mp M).2.2
      intro G
      exact this x G x ak rfl
     have B:l.length<900:=by
      have:=congrArg tF n
      rw [aJ] at this
      omega
     obtain ⟨K,q',U,X⟩:=Pa (a:=.shr (.list (g.map .int))) (b:=.shr (.int k)) (c:=.shr (aG fs)) (d:=.shr (.str m)) (e:=.shr (.int (i:Nat))) (f:=.no) (r:=r) (t:=t) (j:=fV g (k+10+i) 8) v G B (gJ _ _ _ (by decide))
     obtain ⟨O,t',k3,Y⟩:=Pb (a:=.shr (.list (g.map .int))) (b:=.shr (.int k)) (c:=.shr (aG fs)) (d:=.shr (.str m)) (e:=.shr (.int (i:Nat))) (f:=.no) (p:=K) (q:=q') (j:=fV g (k+20+i) 8) z G B (gJ _ _ _ (by decide))
     refine ⟨[.shr (.list (g.map .int)),.shr (.int k),.shr (aG fs),.shr (.str m),o4 p q r t,.shr (.int (i:Nat)),.shr (.str x),w,.no],[.shr (.list (g.map .int)),.shr (.int k),.shr (aG fs),.shr (.str m),o4 K q' O t',.shr (.int (i:Nat)),.shr (.str x),.shr (.int (fV g (k+20+i) 8)),.no],rfl,?_,l++[x],?_,K,q',O,t',U,k3,_,_,_,rfl⟩
     ·rw [EQ,NW]
      walk_at "yy"
      rw [gz g _ 8 (by omega) (by decide)]
      walk_at "yy"
      rw [X]
      walk_at "yy"
      rw [gz g _ 8 (by omega) (by decide)]
      walk_at "yy"
      rw [Y]
     ·rw [<- n];simp) (nJ 0 fs) () [.shr (.list (g.map .int)),.shr (.int k),.shr (aG fs),.shr (.str m),o4 [] [] [] [],.no,.no,.no,.no] ⟨[],by rw [sK];rfl,[],[],[],[],⟨fi _,fi _,λ_ h=>nomatch h⟩,⟨fi _,fi _,λ_ h=>nomatch h⟩,_,_,_,rfl⟩
    refine ⟨o,u,p,q,r,t,?_,?_,h5⟩
    ·simp only [d_,bN] at n
     rw [<- n];exact v
    ·simp only [d_,bN] at n
     rw [<- n];exact z
   ·left
    rw [yv]
  obtain ⟨Q,s2⟩:=n.sub L
  obtain ⟨s3,T⟩:=v.sub L
  obtain ⟨A,E,w,rfl⟩:=z
  refine ⟨⟨m,p,q,r,t,fV g k 5⟩,?_,⟨N,Q,s2,s3,T,n.d,v.d,S,by show fV g k 5<=9;omega⟩,rfl⟩
  unfold j9
  have y:vt (fJ (g2 (rB 2) (g6 J.aP .tuple) (qA true))) (fJ (g2 (fO 3 bF (J.ah (rS 0) (J.ah (kI 97) (J.ah (kI 2) J.aP)))) (kI 0) (qA false))) [.shr (.list (g.map .int)),.shr (.int k),.shr (aG fs),.shr (.str m),.no,.no,.no,.no,.no]=.ok false:=by
   left
   rw [JY fs I]
   left
   by_cases h:fs=[]
   ·simp only [h,decide_true,iM,cond_false]
   ·simp only [h,decide_false,i8,cond_true,u_] at s ⊢
    rw [gz g 97 2 (by decide) (by decide)]
    left
    rw [kc]
    left
    rw [s]
  rw [EQ,Xc,y]
  simp only [zg,NU,XT,clear2,az,d_,wg,wf,zg,vD,EQ]
  rw [show Sl.ow2 [[],[],[],[]]=o4 [] [] [] [] from rfl,u]
  left
  rw [XU]
  left
  rw [Uc]
  left
  rw [Ud]
  left
  rw [Ue]
  left
  rw [Uf]
  left
  rw [gz g k 5 P (by decide)]
  left
  rfl
 by_cases s:(!decide (fs=[])&&decide (fV g 97 2=0))=true
 ·have h0:0<fs.length:=by
   rcases fs with _|⟨x,r⟩
   ·simp at s
   ·simp
  obtain ⟨e,u,n⟩:=Si g k P fs I h0 m N
  refine ⟨e,?_,n⟩
  unfold ja
  refine cW ?_
  unfold j9 ca
  left
  rw [JY fs I]
  left
  simp only [aV] at s
  rw [s.1]
  left
  rw [gz g 97 2 (by decide) (by decide)]
  left
  rw [kc]
  left
  rw [s.2]
  left
  rw [u]
  left
 ·obtain ⟨e,u,n⟩:=go _ rfl (Bool.eq_false_iff.mpr s)
  exact ⟨e,by unfold ja;exact cW u,n⟩
def Pd (ds:List D) (t:Nat) (h:t<=ds.length):AN ds (some (t:Int)) none=ds.drop t:=by
 unfold AN
 rw [HT.IM,HT.Ei,Nat.min_eq_left h,List.take_of_length_le (by rw [yc];exact aw _)]
def VP (ds:List D) (t:Nat) (h:t<=ds.length):AN ds none (some (t:Int))=ds.take t:=by
 unfold AN
 rw [HT.IM,HT.Ei,Nat.min_eq_left h,List.drop_zero,Nat.sub_zero]
def XV (ds:List D) (t:Nat) (h:t<=ds.length):IY (.list ds) (some (t:Int)) none=.ok (.list (ds.drop t)):=by
 rw [<- Pd ds t h];rfl
def XX (ds:List D) (t:Nat) (h:t<=ds.length):IY (.list ds) none (some (t:Int))=.ok (.list (ds.take t)):=by
 rw [<- VP ds t h];rfl
def VQ {l:List (Str×D)} (b:(l.map (·.1)).Nodup) {p:Str×D} (a:p∈l):bq (.dict (lZ l)) (.str p.1)=.ok p.2:=by
 have e:∀ kvs x,bq (.dict kvs) (.str x)=if eP kvs=true then (match ic kvs (.str x) with
   |some d=>.ok d
   |none=>.no) else .no:=λ_ _=>rfl
 rw [e,if_pos (zA l)]
 have:ic (lZ l) (.str p.1)=some p.2:=by
  unfold ic lZ
  clear e
  induction l with
  |nil=>cases a
  |cons q r c =>
   rw [az] at b
   obtain ⟨f,g⟩:=List.nodup_cons.mp b
   rw [az,bH,vN]
   rcases List.mem_cons.mp a with h|h
   ·subst h;simp
   ·have:q.1≠p.1:=λz=>f (z ▸ bT h)
    rw [decide_eq_false this]
    exact c g h
 rw [this]
structure el (fs:List Str) (es:List dk):Prop where
 rise:P7 fs 6
 len:es.length<=6
 nd:(es.map (·.name)).Nodup
 ok:∀ e∈es,tU fs e
def cu (fs:List Str) (es:List dk):D:=.tuple [aG fs,.tuple (es.map eU)]
def XY (fs:List Str):∀ (l:List (Str×D)),(∀ p∈l,∃ e,p.2=eU e/\tU fs e/\e.name=p.1)->∃ es:List dk,l.map (·.2)=es.map eU/\es.map (·.name)=l.map (·.1)/\∀ e∈es,tU fs e
 |[],_=>⟨[],rfl,rfl,λ_ h=>nomatch h⟩
 |p::r,h=>by
  obtain ⟨e,a,g,d⟩:=h p ak
  obtain ⟨es,c,b,i⟩:=XY fs r λq f=>h q (ag _ f)
  refine ⟨e::es,by rw [az,az,a,c],by rw [az,az,d,b],λx j=>?_⟩
  rcases List.mem_cons.mp j with z|z
  ·rw [z];exact g
  ·exact i x z
def Ls {a:Type} (l:List a) (t:Nat):(l.drop t++l.take t).Perm l:=by
 refine List.perm_append_comm.trans ?_
 rw [List.take_append_drop]
def gK {l:List Str} (h:l.Pairwise λa b=>qq a b=true):l.Nodup:=h.imp λc z=>by
 rw [z,ub] at c
 cases c
def Sj (b:List Int) (k:Int) (T:0<=k) (m n:Int) (g:0<=m) (hm:m<=6) (X:0<=n) (hn:n<=6):∃ fs es,mH [.list (b.map .int),.int k,.int m,.int n]=.ok (cu fs es)/\el fs es/\fs.length<=m.toNat/\es.length<=n.toNat:=by
 have c:=HF b k m g
 generalize w:Ds b k m=fs at c
 have A:=c.len
 have c:P7 fs 6:=⟨c.ok,c.up,by have:=c.len;omega⟩
 have M:=gK c.up
 have K:=gJ b (k+60) (n+1) (by omega)
 have m1:=iu b (k+60) (n+1) (by omega)
 suffices H:∃ es,mH [.list (b.map .int),.int k,.int m,.int n]=.ok (cu fs es)/\el fs es/\es.length<=n.toNat from H.elim λes h=>⟨fs,es,h.1,h.2.1,A,h.2.2⟩
 unfold mH
 suffices H:∃ es,mG (ca 10 [.list (b.map .int),.int k,.int m,.int n])=.ok (.rt (cu fs es))/\el fs es/\es.length<=n.toNat from H.elim λes h=>⟨es,cW h.1,h.2⟩
 have H:=rn (λ(i:Nat)=>bV i) (λ(a:Unit) (_:Nat)=>a) (λbS _ ρ=>∃ l,l.length+bS.length<=n.toNat/\(l.map (·.1)).Nodup/\(∀ p∈l,∃ e,p.2=eU e/\tU fs e/\e.name=p.1)/\∃ y s,ρ=[.shr (.list (b.map .int)),.shr (.int k),.shr (.int m),.shr (.int n),.shr (aG fs),.own (.dict (lZ l)),y,s,.no,.no]) (kt:=b_ 6) (gb:=aO (eC 7 (fO 2 kK (J.ah (rS 0) (J.ah (g2 (g2 (rB 1) (kI 70) eJ) (g2 (kI 40) (rB 6) xW) eJ) J.aP)))) (t5 5 (rS 7) (fO 4 ja (J.ah (rS 0) (J.ah (g2 (g2 (rB 1) (kI 80) eJ) (g2 (kI 40) (rB 6) xW) eJ) (J.ah (rS 4) (J.ah (rS 7) J.aP)))))))
 obtain ⟨S,B,l,z,q,v,y,s,P⟩:=H (by
  rintro i bS _ ρ ⟨l,z,q,v,y,s,rfl⟩
  simp only [aY] at z
  have N:=Ff b (k+70+40*(i:Int))
  obtain ⟨e,j,Y,I⟩:=Lr b (k+80+40*(i:Int)) (by omega) fs c.ok c.up M c.len (lm b (k+70+40*(i:Int))) N
  have pl:=Fg l (lm b (k+70+40*(i:Int))) (eU e)
  refine ⟨[.shr (.list (b.map .int)),.shr (.int k),.shr (.int m),.shr (.int n),.shr (aG fs),.own (.dict (lZ l)),.shr (.int i),s,.no,.no],[.shr (.list (b.map .int)),.shr (.int k),.shr (.int m),.shr (.int n),.shr (aG fs),.own (.dict (lZ (vM l (lm b (k+70+40*(i:Int))) (eU e)))),.shr (.int i),.shr (.str (lm b (k+70+40*(i:Int)))),.no,.no],rfl,?_,vM l (lm b (k+70+40*(i:Int))) (eU e),by omega,?_,?_,_,_,rfl⟩
  ·left
   rw [sI (by decide) (by decide)]
   left
   rw [JV b _ (by omega)]
   left
   refine (Ua (l:=l) (x:=lm b (k+70+40*(i:Int))) (d:=eU e) rfl ?_ rfl (by omega)).trans rfl
   left
   rw [sI (by decide) (by decide)]
   left
   exact j
  ·rw [C0];exact Lo q
  ·exact P6 (Q:=λx d=>∃ e,d=eU e/\tU fs e/\e.name=x) v ⟨e,rfl,Y,I⟩) (bM (fV b (k+60) (n+1)).toNat) () [.shr (.list (b.map .int)),.shr (.int k),.shr (.int m),.shr (.int n),.shr (aG fs),.own (.dict (lZ [])),.no,.no,.no,.no] ⟨[],by rw [fD];simp only [cG];omega,eV,λ_ h=>(nomatch h),_,_,rfl⟩
 simp only [cG,xK] at z
 have O:=gJ b (k+61) ((l.length:Int)+1) (by omega)
 have t1:=iu b (k+61) ((l.length:Int)+1) (by omega)
 obtain ⟨t,G⟩:∃ t:Nat,fV b (k+61) ((l.length:Int)+1)=t:=⟨_,(eY O).symm⟩
 have tl:t<=l.length:=by omega
 have f:=Ls l t
 obtain ⟨es,u,E,U⟩:=XY fs (l.drop t++l.take t) λp o=>v p (f.mem_iff.mp o)
 have kl:es.length=l.length:=by
  have:=congrArg tF u
  rw [aq,aq,f.length_eq] at this
  exact this.symm
 refine ⟨es,?_,⟨c,by omega,?_,U⟩,by omega⟩
 ·unfold mG ca
  walk_at "yy"
  rw [P9 b k m T g (by omega),w]
  walk_at "yy"
  rw [xq (ds:=(bM (fV b (k+60) (n+1)).toNat).map λ(i:Nat)=>bV i)]
  ·rw [show Go []=Go (lZ []) from rfl,B,P]
   walk_at "yy"
   rw [Fh]
   walk_at "yy"
   rw [gz b _ _ (by omega) (by omega),G]
   walk_at "yy"
   clear H B
   rw [XV _ t (by simpa using tl)]
   walk_at "yy"
   rw [XX _ t (by simpa using tl)]
   walk_at "yy"
   have j:(List.drop t (nr aF (nr (λx=>x.fst) l))++List.take t (nr aF (nr (λx=>x.fst) l)))=(l.drop t++l.take t).map λp=>aF p.1:=by
    rw [bc,List.map_drop,List.map_take,cm];rfl
   rw [j,if_pos (by rw [<- aJ,j,aq,f.length_eq];omega)]
   have pl:=f.length_eq
   have px:∀ p∈l.drop t++l.take t,p∈l:=λp o=>f.mem_iff.mp o
   clear j f E
   generalize l.drop t++l.take t=L at pl px u ⊢
   walk_at "yy"
   rw [if_pos (by omega)]
   rw [dA _ (λp:Str×D=>aF p.1) (λp=>p.2) L λp o=>eZ rfl (by
    walk_at "yy"
    exact VQ q (px p o))]
   walk_at "yy"
   rw [gW]
   walk_at "yy"
   rw [u]
   rfl
  ·walk_at "yy"
   rw [gz b (k+60) (n+1) (by omega) (by omega)]
   walk_at "yy"
   have:=Do (fV b (k+60) (n+1)).toNat (by omega)
   rw [eY K] at this
   exact this
 ·rw [E]
  exact ((f.map _).nodup_iff).mpr q
def C1 {a:Type} (b:a->Bool):∀ xs:List a,nw (xs.map λx=>cB (b x))=some (xs.map b)
 |[]=>rfl
 |x::r=>by
  show (nw (r.map λx=>cB (b x))).map (b x::·)=_
  rw [C1 b r]
  rfl
def iw {a:Type} (k:List Bool->Bool) (b:a->Bool) (xs:List a):f9 k (.list (xs.map λx=>cB (b x)))=.ok (.bool (k (xs.map b))):=by
 have e:∀ ds,f9 k (.list ds)=match nw ds with
  |some bs=>.ok (.bool (k bs))
  |none=>.no:=λ_=>rfl
 rw [e,C1]
def Pe {s s':Sl}{ρ:aC}{gt:aC->R Bool}{ge:aC->R D}{d d' y:D} (a:gt (.shr d::.shr d'::ρ)=.ok true) (c:ge (.shr d::.shr d'::ρ)=.ok y):iA 2 (s::s'::ρ) gt ge (.tuple [d,d'])=.ok (some y):=by
 have e:iA 2 (s::s'::ρ) gt ge (.tuple [d,d'])=D1 ((gt (.shr d::.shr d'::ρ)).bind λb=>if b then (ge (.shr d::.shr d'::ρ)).bind λy=>.ok (some y) else .ok none):=id rfl
 rw [e,a,bind_ok,if_pos rfl,c];rfl
def VR (x:Str):n5 (.str x)=true:=id rfl
def Pf (i:Int):n5 (.int i)=true:=id rfl
def yw {a:Type} (c:a->D) (h:∀ x,n5 (c x)=true):∀ xs:List a,noDs (xs.map c)=true
 |[]=>rfl
 |x::r=>by
  show (n5 (c x)&&noDs (r.map c))=true
  rw [h x,yw c h r];rfl
def Pg (xs:List D):n5 (.tuple xs)=noDs xs:=id rfl
def nK (xs:List Str):n5 (aG xs)=true:=by
 rw [Pg]
 exact yw _ (λ_=>rfl) xs
def JZ (e:dk):n5 (eU e)=true:=by
 have:n5 (eU e)=(true&&(n5 (aG e.needs)&&(n5 (aG e.bars)&&(n5 (aG e.makes)&&(n5 (aG e.ends)&&(true&&true)))))):=rfl
 rw [this,nK,nK,nK,nK];rfl
def Ug (es:List dk):n5 (.tuple (es.map eU))=true:=by
 rw [Pg]
 exact yw _ JZ es
def Sk (fs:List Str) (es:List dk):n5 (cu fs es)=true:=by
 have:n5 (cu fs es)=(n5 (aG fs)&&(n5 (.tuple (es.map eU))&&true)):=rfl
 rw [this,nK,Ug];rfl
def VS (x:Str):EH "str" (.str x)=true:=id rfl
def zE (x:List D):EH "tuple" (.tuple x)=true:=id rfl
def VT (x:Int):EH "int" (.int x)=true:=id rfl
def VU (x:Int):EH "bool" (.int x)=false:=id rfl
def Sm:∀ c:_root_.Fin 123,97<=c.val->(!qq ⟨#[c.val]⟩ "a")=true/\(!qq "z" ⟨#[c.val]⟩)=true:=by decide +kernel
def C2 {x:Str} (h:E7 x=true):oU [.str x]=.ok (.bool true):=by
 have e:=h
 unfold E7 at h
 simp only [aV,decide_eq_true_eq,bA] at h
 obtain ⟨⟨d,g⟩,a⟩:=h
 have f:x.length=x.cps.size:=rfl
 unfold oU
 refine cW ?_
 unfold sw ca
 left
 rw [VR,VS]
 left
 rw [if_pos (by omega)]
 left
 rw [decide_eq_true (by omega)]
 left
 rw [decide_eq_true (by omega)]
 left
 unfold o7
 left
 rw [if_pos (by rw [ax];omega)]
 rw [dA _ (λc:Nat=>aF ⟨#[c]⟩) (λ_=>cB true) x.cps.toList λc b=>eZ rfl (by
  obtain ⟨a1,a2⟩:=a c b
  obtain ⟨b1,b2⟩:=Sm ⟨c,by omega⟩ a1
  left
  simp only at b1 b2
  rw [b1]
  left
  rw [b2])]
 left
 rw [iw _ (λ_=>true)]
 left
 simp
def Fk:∀ (xs ys:List Str),xX (xs.map .str) (ys.map .str)=(xs.zip ys).map λp=>dD [.str p.1,.str p.2]
 |[],_=>rfl
 |_::_,[]=>rfl
 |x::r,y::a=>by
  show dD [.str x,.str y]::xX (r.map .str) (a.map .str)=_
  rw [Fk r a]
  rfl
def Ph:∀ {l:List Str},(l.Pairwise λa b=>qq a b=true)->∀ p∈l.zip (l.drop 1),qq p.1 p.2=true
 |[],_,p,c=>by cases c
 |[_],_,p,c=>by cases c
 |a::b::r,h,p,c=>by
  obtain ⟨d,e⟩:=List.pairwise_cons.mp h
  rcases List.mem_cons.mp c with z|z
  ·rw [z];exact d b ak
  ·exact Ph e p z
def Sn (xs:List Str):IY (aG xs) (some 1) none=.ok (aG (xs.drop 1)):=by
 have e:IY (aG xs) (some 1) none=.ok (.tuple (AN (xs.map .str) (some 1) none)):=rfl
 rw [e]
 cases xs with
 |nil=>rfl
 |cons x r =>
  rw [show (1:Int)=((1:Nat):Int) from rfl,Pd _ 1 (by simp)]
  rfl
def xw {xs:List Str} (e:∀ x∈xs,E7 x=true) (f:xs.Pairwise λa b=>qq a b=true) (g:xs.length<=6):gd [aG xs]=.ok (.bool true):=by
 unfold gd
 refine cW ?_
 unfold iq ca
 left
 rw [nK,zE]
 left
 rw [if_pos (by omega)]
 rw [dA _ (λx:Str=>aF x) (λ_=>cB true) xs λx d=>eZ rfl (by
  left
  rw [C2 (e x d)])]
 left
 rw [iw _ (λ_=>true)]
 left
 rw [show ((xs.map λ_=>true).all id)=true by simp]
 left
 rw [Sn]
 left
 rw [Fk]
 left
 rw [if_pos (by simp;omega)]
 rw [dA _ (λp:Str×Str=>dD [.str p.1,.str p.2]) (λ_=>cB true) (xs.zip (xs.drop 1)) λp c=>Pe rfl (by
  left
  rw [Ph f p c])]
 left
 rw [iw _ (λ_=>true)]
 left
 simp
def jA {fs xs:List Str} (b:∀ x∈fs,E7 x=true) (h:tj fs xs) (c:xs.length<=6):fP [aG fs,aG xs]=.ok (.bool true):=by
 unfold fP
 refine cW ?_
 unfold nz ca
 left
 rw [xw (λx a=>b x (h.mem x a)) h.up c]
 left
 rw [if_pos (by omega)]
 rw [dA _ (λx:Str=>aF x) (λ_=>cB true) xs λx a=>eZ rfl (by
  left
  rw [pZ,decide_eq_true (h.mem x a)]
  rfl)]
 left
 rw [iw _ (λ_=>true)]
 left
 simp
def wS {xs ys:List Str} (h:∀ x∈xs,x∉ys) (b:xs.length<=6):eQ [aG xs,aG ys]=.ok (.bool true):=by
 unfold eQ
 refine cW ?_
 unfold j_ ca
 left
 rw [if_pos (by omega)]
 rw [dA _ (λx:Str=>aF x) (λ_=>cB false) xs λx a=>eZ rfl (by
  left
  rw [pZ,decide_eq_false (h x a)]
  rfl)]
 left
 rw [iw _ (λ_=>false)]
 left
 simp
def HG {l i m:Int} (b:l<=i) (a:i<=m):pP [.int i,.int l,.int m]=.ok (.bool true):=by
 unfold pP
 refine cW ?_
 unfold pO ca
 left
 rw [Pf,VT]
 left
 rw [Pf,VU]
 left
 rw [decide_eq_true b]
 left
 rw [decide_eq_true a]
def uq:∀ (xs fs:List Str),xs.Nodup->(∀ x∈xs,x∈fs)->xs.length<=fs.length
 |[],_,_,_=>cx _
 |x::r,fs,c,h=>by
  obtain ⟨d,e⟩:=List.nodup_cons.mp c
  have b:=h x ak
  have:=uq r (fs.erase x) e λy a=>(IG λ(z:y=x)=>d (z ▸ a)).mpr (h y (ag _ a))
  rw [E3 b] at this
  have:0<fs.length:=Gp b
  rw [aY]
  omega
def e_ {fs xs:List Str} (h:tj fs xs) (a:fs.length<=6):xs.length<=6:=by
 exact cn (uq xs fs (gK h.up) h.mem) a
def ZC (a b c d e f g:D):Oq (my 6 (da (b_ 2) (da (b_ 3) (da (b_ 4) (da (b_ 5) (da (b_ 6) (da (b_ 7) o8))))))) [Sl.shr a,Sl.shr (.tuple [b,c,d,e,f,g]),.no,.no,.no,.no,.no,.no] (.tuple [b,c,d,e,f,g])=.ok (.nx [Sl.shr a,Sl.shr (.tuple [b,c,d,e,f,g]),.shr b,.shr c,.shr d,.shr e,.shr f,.shr g]):=id rfl
def Fm {fs:List Str} (a:P7 fs 6) {e:dk} (g:tU fs e):nB [aG fs,eU e]=.ok (.bool true):=by
 have f:=e_ g.needs a.len
 have h:=e_ g.bars a.len
 have d:=e_ g.makes a.len
 have i:=e_ g.ends a.len
 unfold nB
 refine cW ?_
 unfold nA ca
 left
 rw [JZ]
 unfold eU
 left
 rw [zE]
 left
 rw [kc]
 left
 rw [show decide (((6:Nat):Int)=6)=true from rfl]
 left
 rw [ZC]
 ·left
  rw [C2 g.name]
  left
  rw [HG g.p0 g.p9]
  left
  have b:=dA (iA 1 [Sl.no,Sl.shr (aG fs)] kT (fO 2 fP (J.ah (rS 1) (J.ah (rS 0) J.aP)))) (λx:List Str=>aG x) (λ_=>cB true) [e.needs,e.bars,e.makes,e.ends] λx c=>eZ rfl (by
   left
   simp only [aQ,bh,or_false] at c
   rcases c with z|z|z|z<;>rw [z]
   ·rw [jA a.ok g.needs f]
   ·rw [jA a.ok g.bars h]
   ·rw [jA a.ok g.makes d]
   ·rw [jA a.ok g.ends i])
  simp only [az,d_] at b
  rw [b]
  left
  rw [show f9 (λbs=>bs.all id) (.list [.bool true,.bool true,.bool true,.bool true])=.ok (.bool true) from rfl]
  left
  rw [wS g.nb f]
  left
  rw [wS g.me d]
  left
def Pi (l:List Str) (b:l.Nodup):(cY [] l).length=l.length:=by
 have c:=uq (cY [] l) l (i_ l [] eV) λx a=>((j8 l [] x).mp a).elim (λh=>nomatch h) id
 have d:=uq l (cY [] l) b λx a=>(j8 l [] x).mpr (.inr a)
 omega
def Lu (es:List dk) (c:es.length<=6) (a:(es.map (·.name)).Nodup) (s:Sl) (ρ:aC) (h:(s::ρ)[2]?=some (.shr (.tuple (es.map eU)))):vC (wM 1 [] (jf (rB 2)) kT (g2 (rB 0) (kI 0) bq)) (s::ρ)=.ok (.int (es.length:Nat)):=by
 have b:EC (s::ρ) 2=.ok (.tuple (es.map eU)):=by unfold EC;rw [h]
 unfold vC wM
 rw [Vl,Vv,b]
 left
 rw [if_pos (by omega)]
 rw [dA _ eU (λe=>aF e.name) es λe he=>eZ rfl (by
  left
  rfl)]
 left
 have:(es.map λe=>aF e.name)=(es.map (·.name)).map .str:=by rw [cm];rfl
 rw [this,strsOf_map]
 simp only [zg,Pi _ a,aq]
def ZD (b c:D):Oq (my 2 (da (b_ 1) (da (b_ 2) o8))) [Sl.shr (.tuple [b,c]),.no,.no] (.tuple [b,c])=.ok (.nx [Sl.shr (.tuple [b,c]),.shr b,.shr c]):=id rfl
def Lv {fs:List Str}{es:List dk} (g:el fs es):sy [cu fs es]=.ok (.bool true):=by
 have b:=g.rise.len
 have a:=g.len
 unfold sy
 refine cW ?_
 unfold sx ca
 left
 rw [Sk]
 unfold cu
 left
 rw [zE]
 left
 rw [kc]
 left
 rw [show decide (((2:Nat):Int)=2)=true from rfl]
 left
 rw [ZD]
 left
 rw [xw g.rise.ok g.rise.up b]
 left
 rw [decide_eq_false (by omega)]
 left
 rw [Ug,zE]
 left
 rw [decide_eq_false (by omega)]
 left
 rw [if_pos (by omega)]
 rw [dA _ eU (λ_=>cB true) es λe he=>eZ rfl (by
  left
  rw [Fm g.rise (g.ok e he)])]
 left
 rw [iw _ (λ_=>true)]
 left
 rw [show ((es.map λ_=>true).all id)=true by simp]
 left
 rw [Lu es a g.nd _ _ rfl]
 left
 rw [kc,decide_eq_true rfl]
 rfl
def HH {fs:List Str}{es:List dk} (g:el fs es):sG [cu fs es]=.ok (cu fs es):=by
 unfold sG
 refine cW ?_
 unfold sF ca
 left
 rw [Lv g]
 left
def J_ {i:Nat}{g:aC->R D}{ρ:aC}{ds:List D}{d:D} (a:ρ[i]?=some (Sl.own (.list ds))) (b:g ρ=.ok d) (c:ds.length<1000):wK i g ρ=.ok (.nx (ρ.set i (.own (.list (ds++[d]))))):=by
 unfold wK
 simp only [a,b,bind_ok,if_pos c]
def Pj {s s':Sl}{ρ:aC}{gt:aC->R Bool}{ge:aC->R D}{d d' y:D}{b:Bool} (a:gt (.shr d::.shr d'::ρ)=.ok b) (c:b=true->ge (.shr d::.shr d'::ρ)=.ok y):iA 2 (s::s'::ρ) gt ge (.tuple [d,d'])=.ok (if b then some y else none):=by
 have e:iA 2 (s::s'::ρ) gt ge (.tuple [d,d'])=D1 ((gt (.shr d::.shr d'::ρ)).bind λb=>if b then (ge (.shr d::.shr d'::ρ)).bind λy=>.ok (some y) else .ok none):=id rfl
 rw [e,a,bind_ok]
 cases b with
 |true=>rw [if_pos rfl,c rfl];rfl
 |false=>rfl
def C3:∀ (xs:List Str) (n:Nat),(nJ n xs).length=xs.length
 |[],_=>rfl
 |x::r,n=>by
  show (nJ (n+1) r).length+1=r.length+1
  rw [C3 r]
def So (a:List Int) (k:Int) (c:0<=k) (fs:List Str) (d:fs.length<=6) (m:Int):∃ ss:List Str,pS [.list (a.map .int),.int k,aG fs,.int m]=.ok (aG ss)/\ss.Sublist fs:=by
 refine ⟨((nJ 0 fs).filter λq=>decide (fV a (k+(q.1:Int)) 12<m)).map (·.2),?_,?_⟩
 ·unfold pS
  refine cW ?_
  unfold pR ca
  left
  rw [yv]
  left
  rw [if_pos (by rw [C3];omega)]
  rw [fM _ cI (λq=>aF q.2) (λq=>decide (fV a (k+(q.1:Int)) 12<m)) (nJ 0 fs) λq b=>Pj (by
   left
   rw [gz a _ 12 (by omega) (by decide)]
   left) λ_=>rfl]
  left
  rw [gW]
  left
  unfold aG
  rw [cm]
  rfl
 ·have:=(uT (l:=nJ 0 fs) (p:=λq=>decide (fV a (k+(q.1:Int)) 12<m))).map (·.2)
  rw [sK] at this
  exact this
def HI {fs xs:List Str} (d:fs.Pairwise λa b=>qq a b=true) (h:xs.Sublist fs):tj fs xs:=⟨d.sublist h,λx c=>h.subset c⟩
structure zF (fs m b:List Str):Prop where
 must:tj fs m
 bars:tj fs b
 mb:∀ x∈m,x∉b
abbrev gg (m b:List Str):D:=.tuple [aG m,aG b]
def K0 (p:List Str) (x:Str):p.map aF++[aF x]=(p++[x]).map .str:=by simp
def Sq (e:List Int) (k:Int) (I:0<=k) (fs:List Str) (o:fs.Pairwise λa b=>qq a b=true) (B:fs.length<=6):∃ m b,uo [.list (e.map .int),.int k,aG fs]=.ok (gg m b)/\zF fs m b:=by
 have w:=gK o
 suffices H:∃ p q,mI (ca 8 [.list (e.map .int),.int k,aG fs])=.ok (.rt (gg p q))/\om fs p q by
  obtain ⟨p,q,n,f⟩:=H
  exact ⟨p,q,cW n,HI o f.sp,HI o f.sq,f.d⟩
 unfold mI ca
 walk_at "yy"
 rw [xq (ds:=(nJ 0 fs).map cI)]
 ·have H:=rn cI (λ(a:Unit) (_:Nat×Str)=>a) (λbS _ ρ=>∃ c,c++bS.map (·.2)=fs/\∃ p q,om c p q/\∃ s t j,ρ=[.shr (.list (e.map .int)),.shr (.int k),.shr (aG fs),.own (.list (p.map .str)),.own (.list (q.map .str)),s,t,j]) (kt:=my 2 (da (b_ 5) (da (b_ 6) o8))) (gb:=aO (eC 7 (fO 3 bF (J.ah (rS 0) (J.ah (g2 (rB 1) (rB 5) eJ) (J.ah (kI 8) J.aP))))) (g9 (fJ (g2 (rB 7) (kI 2) AM)) (wK 3 (rS 6)) (g9 (fJ (g2 (rB 7) (kI 2) (qA false))) (wK 4 (rS 6)) (λρ=>.ok (.nx ρ)))))
  obtain ⟨A,n,c,f,p,q,g,s,t,j,y⟩:=H (by
   rintro ⟨i,x⟩ bS _ ρ ⟨c,f,p,q,g,s,t,j,rfl⟩
   have l:x∉c:=by
    rw [<- f,az] at w
    have:=(List.nodup_append.mp w).2.2
    intro l
    exact this x l x ak rfl
   have z:c.length<900:=by
    have:=congrArg tF f
    rw [aJ] at this
    omega
   have E:=g.sp.length_le
   have G:=g.sq.length_le
   refine ⟨[.shr (.list (e.map .int)),.shr (.int k),.shr (aG fs),.own (.list (p.map .str)),.own (.list (q.map .str)),.shr (.int (i:Nat)),.shr (.str x),j],?_⟩
   by_cases u:fV e (k+(i:Nat)) 8<2
   ·refine ⟨[.shr (.list (e.map .int)),.shr (.int k),.shr (aG fs),.own (.list ((p++[x]).map .str)),.own (.list (q.map .str)),.shr (.int (i:Nat)),.shr (.str x),.shr (.int (fV e (k+(i:Nat)) 8))],rfl,?_,c++[x],by rw [<- f];simp,_,_,g.left x l,_,_,_,rfl⟩
    left
    rw [gz e _ 8 (by omega) (by decide)]
    left
    rw [decide_eq_true u]
    left
    rw [<- K0]
    exact J_ (ds:=p.map .str) rfl rfl (by rw [aq];omega)
   ·by_cases v:fV e (k+(i:Nat)) 8=2
    ·refine ⟨[.shr (.list (e.map .int)),.shr (.int k),.shr (aG fs),.own (.list (p.map .str)),.own (.list ((q++[x]).map .str)),.shr (.int (i:Nat)),.shr (.str x),.shr (.int (fV e (k+(i:Nat)) 8))],rfl,?_,c++[x],by rw [<- f];simp,_,_,g.right x l,_,_,_,rfl⟩
     left
     rw [gz e _ 8 (by omega) (by decide)]
     left
     rw [decide_eq_false u]
     left
     rw [kc]
     left
     rw [decide_eq_true v]
     left
     rw [<- K0]
     exact J_ (ds:=q.map .str) rfl rfl (by rw [aq];omega)
    ·refine ⟨[.shr (.list (e.map .int)),.shr (.int k),.shr (aG fs),.own (.list (p.map .str)),.own (.list (q.map .str)),.shr (.int (i:Nat)),.shr (.str x),.shr (.int (fV e (k+(i:Nat)) 8))],rfl,?_,c++[x],by rw [<- f];simp,_,_,g.skip x,_,_,_,rfl⟩
     left
     rw [gz e _ 8 (by omega) (by decide)]
     left
     rw [decide_eq_false u]
     left
     rw [kc]
     left
     rw [decide_eq_false v]
     left) (nJ 0 fs) () [.shr (.list (e.map .int)),.shr (.int k),.shr (aG fs),.own (.list []),.own (.list []),.no,.no,.no] ⟨[],by rw [sK];rfl,[],[],⟨fi _,fi _,λ_ h=>nomatch h⟩,_,_,_,rfl⟩
  refine ⟨p,q,?_,?_⟩
  ·rw [n,y]
   left
   rw [gW]
   left
   rw [gW]
   left
  ·simp only [d_,bN] at f
   rw [<- f];exact g
 ·left
  rw [yv]
def VV (j:Int) (b:0<=j) (a:j<2):∃ m:Int,bq (.list [.int 2,.int 4]) (.int j)=.ok (.int m):=by
 have:j=0\/j=1:=by omega
 rcases this with h|h<;>subst h
 ·exact ⟨2,rfl⟩
 ·exact ⟨4,rfl⟩
def Pl (fs:List Str) (es:List dk):bq (cu fs es) (.int 0)=.ok (aG fs):=id rfl
def XZ (fs:List Str) (es:List dk):bq (cu fs es) (.int 1)=.ok (.tuple (es.map eU)):=id rfl
def Sr (a:List Int) (m n:Int) (d:0<=m) (f:m<=6) (e:0<=n) (g:n<=6):∃ fs es ss c b,jz [.list (a.map .int),.int m,.int n]=.ok (.tuple [cu fs es,aG ss,gg c b])/\el fs es/\tj fs ss/\zF fs c b/\fs.length<=m.toNat/\es.length<=n.toNat:=by
 obtain ⟨fs,es,l,gb,i⟩:=Sj a 100 (by decide) m n d f e g
 obtain ⟨pt,h⟩:=VV (fV a 97 2) (gJ _ _ _ (by decide)) (iu _ _ _ (by decide))
 obtain ⟨ss,hs,k⟩:=So a 20 (by decide) fs gb.rise.len pt
 obtain ⟨c,b,j,o⟩:=Sq a 30 (by decide) fs gb.rise.up gb.rise.len
 refine ⟨fs,es,ss,c,b,?_,gb,HI gb.rise.up k,o,i⟩
 unfold jz
 refine cW ?_
 unfold pV ca
 left
 rw [l]
 left
 rw [Pl]
 left
 rw [gz a 97 2 (by decide) (by decide)]
 left
 rw [h]
 left
 rw [hs]
 left
 rw [Pl]
 left
 rw [j]
 left
def Fo {xs ys:List Str} (b:xs.length<=60):eQ [aG xs,aG ys]=.ok (.bool (!xs.any λx=>decide (x∈ys))):=by
 unfold eQ
 refine cW ?_
 unfold j_ ca
 left
 rw [if_pos (by omega)]
 rw [dA _ (λx:Str=>aF x) (λx=>cB (decide (x∈ys))) xs λx a=>eZ rfl (by
  left
  rw [pZ]
  rfl)]
 left
 rw [iw _ (λx=>decide (x∈ys))]
 left
 rw [qF]
 rfl
def X_ (a:Bool) (xs:List Str):CW a (aG xs) .none=.ok (.bool a):=by cases a<;>rfl
def Uh (a:Bool):CW a .none .none=.ok (.bool (!a)):=by cases a<;>rfl
def ZE (e:dk):bq (eU e) (.int 0)=.ok (.str e.name):=id rfl
def ZF (e:dk):bq (eU e) (.int 3)=.ok (aG e.makes):=id rfl
def ZG (e:dk):bq (eU e) (.int 4)=.ok (aG e.ends):=id rfl
def Y0 (e:dk):IY (eU e) (some 1) (some 3)=.ok (gg e.needs e.bars):=id rfl
def rW {xs:List D}{j:Nat}{v:D} (h:xs[j]?=some v):bq (.list xs) (.int (j:Nat))=.ok v:=by
 have e:bq (.list xs) (.int (j:Nat))=Ho (.list xs) (.int (j:Nat)):=rfl
 rw [e]
 unfold Ho
 simp only [rV h]
def cy (st a b:List Str):Bool:=(a.all λx=>decide (x∈st)) && !b.any λx=>decide (x∈st)
def VW (m b:List Str):bq (gg m b) (.int 0)=.ok (aG m):=id rfl
def Y1 (m b:List Str):bq (gg m b) (.int 1)=.ok (aG b):=id rfl
def Su {st a b:List Str} (d:a.length<=60) (f:b.length<=60):pX [aG st,gg a b]=.ok (.bool (cy st a b)):=by
 unfold pX
 refine cW ?_
 unfold pW ca
 left
 rw [VW]
 left
 rw [if_pos (by omega)]
 rw [dA _ (λx:Str=>aF x) (λx=>cB (decide (x∈st))) a λx c=>eZ rfl (by
  left
  rw [pZ]
  rfl)]
 left
 rw [iw _ (λx=>decide (x∈st))]
 left
 rw [Y1]
 left
 rw [if_pos (by omega)]
 rw [dA _ (λx:Str=>aF x) (λx=>cB (decide (x∈st))) b λx c=>eZ rfl (by
  left
  rw [pZ]
  rfl)]
 left
 rw [iw _ (λx=>decide (x∈st))]
 left
 unfold cy
 rw [kA,qF]
 have e:(id∘λx=>decide (x∈st))=λx=>decide (x∈st):=rfl
 rw [e]
 cases (a.all λx=>decide (x∈st))<;>rfl
def Dy {n:Nat}{g:aC->R Fl}{ds:List D}{ρ:aC} (h:g (ca n ds)=.ok (.nx ρ)):fL n g ds=.ok .none:=by unfold fL;rw [h]
def Y2 (a x y:D):Oq (my 2 (da (b_ 2) (da (b_ 3) o8))) [Sl.shr a,.shr (.tuple [x,y]),.no,.no] (.tuple [x,y])=.ok (.nx [.shr a,.shr (.tuple [x,y]),.shr x,.shr y]):=id rfl
def zG {st a b:List Str} (c:a.length<=60) (f:b.length<=60):oV [aG st,gg a b]=.ok (.bool (cy st a b)):=by
 unfold oV
 refine cW ?_
 unfold sD ca gg
 left
 rw [Y2]
 left
 rw [if_pos (by omega)]
 rw [dA _ (λx:Str=>aF x) (λx=>cB (decide (x∈st))) a λx d=>eZ rfl (by
  left
  rw [pZ]
  rfl)]
 left
 rw [iw _ (λx=>decide (x∈st))]
 left
 rw [Fo (by omega)]
 unfold cy
 rw [kA]
 have e:(id∘λx=>decide (x∈st))=λx=>decide (x∈st):=rfl
 rw [e]
 cases (a.all λx=>decide (x∈st))<;>rfl
def Lw {fs ss:List Str}{es:List dk} (g:el fs es) (h:tj fs ss):kW [cu fs es,aG ss]=.ok .none:=by
 unfold kW
 refine Dy (ρ:=[.shr (cu fs es),.shr (aG ss)]) ?_
 unfold kU ca
 left
 rw [Pl]
 left
 rw [jA g.rise.ok h (e_ h g.rise.len)]
 left
def Fp {fs ss:List Str}{es:List dk} (g:el fs es) (h:tj fs ss):gU [cu fs es,aG ss]=.ok .none:=by
 unfold gU
 refine Dy (ρ:=[.shr (cu fs es),.shr (aG ss)]) ?_
 unfold kX ca
 left
 rw [HH g]
 left
 rw [Lw g h]
 left
def Pm {fs:List Str}{es:List dk}{x y:D}{p q r:Bool} (n:n5 (.tuple [x,y])=true) (b:fP [aG fs,x]=.ok (.bool p)) (a:p=true->fP [aG fs,y]=.ok (.bool q)) (hs:p=true->q=true->eQ [x,y]=.ok (.bool r)):sC [cu fs es,.tuple [x,y]]=.ok (.bool (p&&(q&&r))):=by
 unfold sC
 refine cW ?_
 unfold sB ca
 left
 rw [n,zE]
 left
 rw [kc]
 left
 rw [show decide (((2:Nat):Int)=2)=true from rfl]
 left
 rw [Y2]
 left
 rw [Pl]
 left
 rw [b]
 cases p with
 |false=>rfl
 |true =>
  left
  rw [Pl]
  left
  rw [a rfl]
  cases q with
  |false=>rfl
  |true =>
   left
   rw [hs rfl rfl]
   cases r<;>rfl
def Pn {fs m b:List Str}{es:List dk} (g:el fs es) (h:zF fs m b):lU [cu fs es,gg m b]=.ok .none:=by
 have n:n5 (gg m b)=true:=by
  have:n5 (gg m b)=(n5 (aG m)&&(n5 (aG b)&&true)):=rfl
  rw [this,nK,nK];rfl
 have a:=e_ h.must g.rise.len
 have c:=e_ h.bars g.rise.len
 unfold lU
 refine Dy (ρ:=[.shr (cu fs es),.shr (gg m b)]) ?_
 unfold lT ca
 left
 rw [Pm n (jA g.rise.ok h.must a) (λ_=>jA g.rise.ok h.bars c) (λ_ _=>wS h.mb a)]
 left
 rfl
def HJ {fs ss m b:List Str}{es:List dk} (g:el fs es) (h:tj fs ss) (w:zF fs m b):lj [cu fs es,aG ss,gg m b]=.ok .none:=by
 unfold lj
 refine Dy (ρ:=[.shr (cu fs es),.shr (aG ss),.shr (gg m b)]) ?_
 unfold nE ca
 left
 rw [Fp g h]
 left
 rw [Pn g w]
 left
def Po (xs:List D):kS (.tuple xs)=.ok (.list xs):=id rfl
structure K1 (e:dk):Prop where
 needs:e.needs.length<=6
 bars:e.bars.length<=6
 makes:e.makes.length<=6
 ends:e.ends.length<=6
def zH {fs:List Str}{es:List dk} (g:el fs es) {e:dk} (he:e∈es):K1 e :=
 ⟨e_ (g.ok e he).needs g.rise.len,e_ (g.ok e he).bars g.rise.len,e_ (g.ok e he).makes g.rise.len,e_ (g.ok e he).ends g.rise.len⟩
def ZH (e:dk):bq (eU e) (.int 1)=.ok (aG e.needs):=id rfl
def ZI (e:dk):bq (eU e) (.int 2)=.ok (aG e.bars):=id rfl
def K2 (e:dk) (st:List Str):Option (List Str):=if cy st e.needs e.bars then some (Dt ((st.filter λx=>!decide (x∈e.ends))++e.makes)) else none
def Sv:Option (List Str)->D
 |none=>.none
 |some s=>aG s
def Sw {e:dk} (he:K1 e) {st:List Str} (hs:st.length<=30):mJ [eU e,aG st]=.ok (Sv (K2 e st)):=by
 have:=he.needs
 have:=he.bars
 have:=he.makes
 unfold mJ
 refine cW ?_
 unfold pY ca
 left
 rw [Y0]
 left
 rw [Su (by omega) (by omega)]
 left
 unfold K2
 cases b:cy st e.needs e.bars with
 |false =>
  left
  rfl
 |true =>
  left
  rw [if_pos (by omega)]
  rw [fM _ (λx:Str=>aF x) (λx=>aF x) (λx=>!decide (x∈e.ends)) st λx a=>pJ (by
   left
   rw [ZG]
   left
   rw [pZ]
   rfl) λ_=>rfl]
  have c:(st.filter λx=>!decide (x∈e.ends)).length<=st.length:=iT _ _
  left
  rw [sJ,JX]
  left
  rw [ZF]
  left
  rw [Po]
  left
  rw [if_pos (by omega)]
  left
  rw [<- bc,zD _ (by rw [aJ];omega)]
  left
  rw [vO _ (by have:=fk ((st.filter λx=>!decide (x∈e.ends))++e.makes) [];simp only [cG,aJ] at this;omega)]
  left
  rw [gW]
  rfl
def Pp:∀ {a b:List Str},(a.Pairwise λx y=>qq x y=true)->(b.Pairwise λx y=>qq x y=true)->(∀ x,x∈a↔x∈b)->a=b:=by
 intro a b c d h
 have e:=gK c
 have g:=gK d
 have p:a.Perm b:=(nq e g).mpr h
 exact p.eq_of_pairwise (λx y _ _ f i=>by
  have:=r_ f i
  rw [ub] at this
  cases this) c d
def br (e:dk) (st:List Str):List Str:=Dt ((st.filter λx=>!decide (x∈e.ends))++e.makes)
def zI {e:dk}{st:List Str}{x:Str}:x∈br e st↔(x∈st/\x∉e.ends)\/x∈e.makes:=by
 unfold br
 rw [l_]
 simp [gS]
def Lx (e:dk) (st:List Str):K2 e st=if cy st e.needs e.bars then some (br e st) else none:=rfl
def Ly (s:List Str):Sv (some s)=aG s:=rfl
def Lz:Sv none=.none:=rfl
def Y3 (a gb:aC->R (List Str)) (s:Sl) (ρ:aC) {xs ys:List Str} (b:a (s::ρ)=.ok xs) (d:gb (s::ρ)=.ok ys) (c:xs.length+ys.length<=15):OD a gb (s::ρ)=.ok (cY xs ys):=by
 unfold OD J.Vn
 rw [b,bind_ok,d,bind_ok,if_pos c]
def C4 (ss:List Str) (h:ss.length<60):ug (aG ss)=.ok (cY [] ss):=by
 have e:∀ ds,ug (.tuple ds)=match fc ds with
  |some ss=>if ss.length<60 then .ok (cY [] ss) else .no
  |none=>.no:=λ_=>rfl
 rw [e,strsOf_map]
 simp only [if_pos h]
def VX (xs ys:List Str):ju (cY (cY [] xs) (cY [] ys))=Dt (xs++ys):=by
 refine Pp (wD (qY _) ((ip _).nodup_iff.mpr (i_ _ _ (i_ _ [] eV)))) (Du _) λx=>?_
 rw [(ip _).mem_iff,j8,j8,j8,l_,eu]
 simp
def LA {xs ys:List Str} (h:xs.length+ys.length<=12):vK [aG xs,aG ys]=.ok (aG (Dt (xs++ys))):=by
 have b:=fk xs []
 have a:=fk ys []
 simp only [cG] at b a
 have c:=fk (cY [] ys) (cY [] xs)
 unfold vK
 refine cW ?_
 unfold vJ ca
 left
 rw [sJ,Y3 _ _ _ _ (C4 xs (by omega)) (C4 ys (by omega)) (by omega)]
 left
 rw [vO _ (by omega),VX]
 left
 rw [gW]
 left
def HK {xs ys:List Str} (h:xs.length<=60):sv [aG xs,aG ys]=.ok (aG (xs.filter λx=>!decide (x∈ys))):=by
 unfold sv
 refine cW ?_
 unfold su ca
 left
 rw [if_pos (by omega)]
 rw [fM _ (λx:Str=>aF x) (λx=>aF x) (λx=>!decide (x∈ys)) xs λx a=>pJ (by
  left
  rw [pZ]
  rfl) λ_=>rfl]
 left
 rw [gW]
 left
def Y4 {i j:Nat}{a:aC->R (List D)}{s:Sl}{ρ:aC}{d e:D} (h:a (s::ρ)=.ok [d,e]):OE i j a (s::ρ)=.ok (.nx (((s::ρ).set i (.shr d)).set j (.shr e))):=by
 unfold OE
 rw [h]
 rfl
def LB {e:dk} (he:K1 e) {st:List Str} (hs:st.length<=6):k8 [eU e,aG st]=.ok (aG (br e st)):=by
 have:=he.makes
 have a:(st.filter λx=>!decide (x∈e.ends)).length<=st.length:=iT _ _
 unfold k8
 refine cW ?_
 unfold k7 ca
 left
 rw [Y4 (d:=aG e.makes) (e:=aG e.ends) rfl]
 left
 rw [HK (by omega)]
 left
 rw [LA (by omega)]
 rfl
def LC {e:dk} (he:K1 e) {st:List Str}:nD [eU e,aG st]=.ok (.bool (cy st e.needs e.bars)):=by
 have:=he.needs
 have:=he.bars
 unfold nD
 refine cW ?_
 unfold nC ca
 left
 rw [ZH]
 left
 rw [ZI]
 left
 rw [zG (by omega) (by omega)]
 left
structure Row (es rs:List dk):Prop where
 mem:∀ e∈rs,e∈es
 len:rs.length<=80
abbrev AT (a:List dk):D:=.list (a.map λe=>aF e.name)
def Dz {kt:D->aC->R aC}{gb:aC->R Fl}{d:D}{r:List D}{ρ ρ1 a:aC} (b:kt d ρ=.ok ρ1) (c:gb ρ1=.ok (.nx a)):jP kt gb (d::r) ρ=jP kt gb r a:=by
 rw [jP,b]
 simp only [c]
def C5 {st a b:List Str}:cy st a b=true↔(∀ x∈a,x∈st)/\∀ x∈b,x∉st:=by
 unfold cy
 simp only [aV,bA,decide_eq_true_eq,Mz,oE]
def VY (fs:List Str):List (List Str):=fs.foldl (λa f=>a++a.map (·++[f])) [[]]
def VZ {i:Nat}{kt:D->aC->R aC}{gb:aC->R Fl}{ρ:aC}{d:D} (h:ρ[i]?=some (Sl.shr d)):qt i kt gb ρ=oQ (jf λρ=>Gr ρ i) kt gb ρ:=by
 unfold qt
 rw [h]
def DA:∀ (fs:List Str) (a:List (List Str)) (t u:List Str),t∈a->u.Sublist fs->t++u∈fs.foldl (λa f=>a++a.map (·++[f])) a
 |[],a,t,u,b,c=>by
  cases c
  rw [bN]
  exact b
 |f::r,a,t,u,b,c=>by
  rw [cH]
  cases c with
  |cons _ h=>exact DA r _ t u (aN _ b) h
  |cons_cons _ h =>
   rename_i d
   have:=DA r (a++a.map (·++[f])) (t++[f]) d (al _ (bT b)) h
   rwa [fB] at this
def Pq {fs xs:List Str} (c:fs.Pairwise λa b=>qq a b=true) (h:tj fs xs):xs.Sublist fs:=by
 have e:xs=fs.filter λx=>decide (x∈xs):=Pp h.up (c.sublist uT) λx=>by
  rw [gS,decide_eq_true_eq]
  exact ⟨λz=>⟨h.mem x z,z⟩,λz=>z.2⟩
 rw [e]
 exact uT
def Pr {fs xs:List Str} (c:fs.Pairwise λa b=>qq a b=true) (h:tj fs xs):xs∈VY fs:=DA fs [[]] [] xs (List.mem_singleton.mpr rfl) (Pq c h)
def oo:List dk->List Str->Option (List Str)
 |[],st=>some st
 |e::r,st=>if cy st e.needs e.bars then oo r (br e st) else none
def ur {fs st:List Str}{e:dk} (d:fs.Pairwise λa b=>qq a b=true) (g:tU fs e) (h:tj fs st):tj fs (br e st):=by
 refine ⟨Du _,λx c=>?_⟩
 rcases zI.mp c with z|z
 ·exact h.mem x z.1
 ·exact g.makes.mem x z
def db (l:List (List Str×D)):List (D×D):=l.map λp=>(aG p.1,p.2)
abbrev lQ (l:List (List Str×D)):List (List Str):=l.map (·.1)
def HL (x:List Str):aG x=tD (x.map i7):=by
 unfold aG tD
 rw [cm]
 rfl
def mK (x:List Str):qu (aG x)=some (x.map i7):=by rw [HL,OG]
def Sx {a b:List Str} (h:a.map (i7:Str->dQ)=b.map i7):a=b:=by
 induction a generalizing b with
 |nil=>cases b with|nil=>rfl|cons _ _=>cases h
 |cons x r c =>
  cases b with
  |nil=>cases h
  |cons y t =>
   simp only [az,List.cons.injEq] at h
   rw [c h.2,Sum.inr.inj h.1]
def Ps (x y:List Str):b9 (aG x) (aG y)=decide (x=y):=by
 rw [HL,HL,Dd]
 by_cases h:x=y
 ·rw [h];simp
 ·rw [decide_eq_false h,decide_eq_false λz=>h (Sx z)]
def Fq (l:List (List Str×D)):Jt (db l)=db l:=by cases l<;>rfl
def p_ {l:List (List Str×D)} (h:l≠[]):jZ (db l)=true:=by
 have b:((db l).all λa=>(qu a.1).isSome)=true:=by
  unfold db
  rw [kA,bA]
  intro p _
  show (qu (aG p.1)).isSome=true
  rw [mK]
  rfl
 unfold jZ
 rw [b]
 cases l with
 |nil=>exact (h rfl).elim
 |cons _ _=>rfl
def wT (x:List Str):∀ l:List (List Str×D),ic (db l) (aG x)=(l.find? λp=>decide (p.1=x)).map (·.2)
 |[]=>rfl
 |p::r=>by
  have a:=wT x r
  unfold ic db at a ⊢
  rw [az,bH,bH,Ps]
  by_cases h:p.1=x
  ·rw [decide_eq_true h];rfl
  ·rw [decide_eq_false h];exact a
def Pt {l:List (List Str×D)} (c:(lQ l).Nodup) {p:List Str×D} (a:p∈l):(l.find? λq=>decide (q.1=p.1))=some p:=by
 induction l with
 |nil=>cases a
 |cons q r b =>
  obtain ⟨d,e⟩:=List.nodup_cons.mp c
  rw [bH]
  rcases List.mem_cons.mp a with h|h
  ·subst h;simp
  ·have:q.1≠p.1:=λz=>d (by show q.1∈_;rw [z];exact bT h)
   rw [decide_eq_false this]
   exact b e h
def LD {a:Type}{l:List a}{x:a} (h:x∈l):l≠[]:=λz=>by rw [z] at h;cases h
def Pu {l:List (List Str×D)}{ds:List (D×D)} (b:Jt ds=db l) (c:(lQ l).Nodup) {p:List Str×D} (a:p∈l):An (.dict ds) (aG p.1)=.ok p.2:=by
 unfold An
 simp only [mK,b]
 rw [if_pos (p_ (LD a)),wT,Pt c a]
 rfl
def K3 {l:List (List Str×D)} (b:(lQ l).Nodup) {p:List Str×D} (a:p∈l):An (.dict (db l)) (aG p.1)=.ok p.2:=Pu (Fq l) b a
def HM {l:List (List Str×D)} (b:(lQ l).Nodup) {p:List Str×D} (a:p∈l):An (.dict ((.none,.none)::db l)) (aG p.1)=.ok p.2:=Pu rfl b a
def C6 (x:List Str):∀ l:List (List Str×D),((l.find? λp=>decide (p.1=x)).map (·.2)).isSome=decide (x∈lQ l)
 |[]=>by simp
 |p::r=>by
  rw [bH]
  by_cases h:p.1=x
  ·rw [decide_eq_true h]
   simp [h]
  ·rw [decide_eq_false h]
   simp only
   rw [C6 x r]
   simp [cF h]
def K4 {l:List (List Str×D)} (h:l≠[]) (x:List Str):RQ true (aG x) (.dict (db l))=.ok (.bool (!decide (x∈lQ l))):=by
 unfold RQ
 simp only [mK,Fq]
 rw [if_pos (p_ h),wT,C6]
 rfl
def Ft (l:List (List Str×D)):wO (.dict ((.none,.none)::db l))=.ok ((lQ l).map aG):=by
 show R.ok ((db l).map (·.1))=_
 unfold db lQ
 rw [cm,cm]
 rfl
def Sy {l:List (List Str×D)}{x:List Str} (h:x∉lQ l) (d:D):og (db l) (aG x) d=db (l++[(x,d)]):=by
 have e:((db l).any λb=>b9 b.1 (aG x))=false:=by
  unfold db
  rw [qF,oE]
  intro p a
  show ¬b9 (aG p.1) (aG x)=true
  rw [Ps,decide_eq_true_eq]
  exact λz=>h (by rw [<- z];exact bT a)
 unfold og
 rw [e,if_neg bw]
 unfold db
 rw [bc]
 rfl
def Pw {i:Nat}{a g:aC->R D}{ρ:aC}{l:List (List Str×D)}{x:List Str}{d:D} (h:ρ[i]?=some (Sl.own (.dict (db l)))) (j:g ρ=.ok d) (f:a ρ=.ok (aG x)) (c:l≠[]) (n:l.length<1000) (m:x∉lQ l):tQ i a g ρ=.ok (.nx (ρ.set i (.own (.dict (db (l++[(x,d)])))))):=by
 have b:(db l).length<1000:=by unfold db;rw [aq];exact n
 have e:tQ i a g ρ=(g ρ).bind λd=>(a ρ).bind λk=>match qu k with
  |some _=>if (db l).length<1000/\jZ (db l)=true then .ok (.nx (ρ.set i (.own (.dict (og (db l) k d))))) else .no
  |none=>.no:=by
  unfold tQ
  simp only [h]
  try rfl
 rw [e,j,zg,f,zg]
 simp only [mK,if_pos (kg b (p_ c)),Sy m]
def Y5 {i:Nat}{g:aC->R Fl}{ρ:aC}{l:List (List Str×D)} (a:l≠[]) (h:ρ[i]?=some (Sl.own (.dict (db l)))):Vu i g ρ=g (ρ.set i (.own (.dict ((.none,.none)::db l)))):=by
 unfold Vu
 congr 1
 unfold li
 rw [h]
 cases l with
 |nil=>exact (a rfl).elim
 |cons p r=>rfl
def Y6 {b a:aC->R D}{s:Sl}{ρ:aC}{x:List Str}{d:D} (c:b (s::ρ)=.ok (aG x)) (e:a (s::ρ)=.ok d):U8 b a (s::ρ)=.ok (.dict (db [(x,d)])):=by
 unfold U8
 rw [c,bind_ok,e,bind_ok]
 simp only [mK]
 rfl
def Px {g:aC->R D}{s:Sl}{ρ:aC}{ds:List D} (h:g (s::ρ)=.ok (.list ds)):uj g (s::ρ)=.ok (!ds.isEmpty):=by
 unfold uj
 rw [h,bind_ok]
def Y7 (g:aC->R D) (s:Sl) (ρ:aC):De g (s::ρ)=(g (s::ρ)).bind wO:=id rfl
def Fu {b:Type} [DecidableEq b] : ∀ {l m:List b},l.Nodup->(∀ x∈l,x∈m)->l.length<=m.length
 |[],_,_,_=>cx _
 |x::r,m,d,h=>by
  obtain ⟨e,f⟩:=List.nodup_cons.mp d
  have c:=h x ak
  have:=Fu (l:=r) (m:=m.erase x) f λy a=>(IG λz=>e (by rw [<- z];exact a)).mpr (h y (ag _ a))
  rw [E3 c] at this
  have:=Gp c
  simp only [aY]
  omega
def Fv:∀ (fs:List Str) (a:List (List Str)),(fs.foldl (λa f=>a++a.map (·++[f])) a).length=a.length*2 ^ fs.length
 |[],a=>by simp
 |f::r,a=>by
  rw [cH,Fv r,aJ,aq,aY,Nat.pow_succ,<- Nat.two_mul,GJ 2,Nat.mul_assoc,GJ 2]
def Sz {fs:List Str} (h:fs.length<=6):(VY fs).length<=64:=by
 unfold VY
 rw [Fv]
 have:2 ^ fs.length<=2 ^ 6:=Nat.pow_le_pow_right (by decide) h
 simp only [aY,cG]
 omega
def Fw {fs:List Str} (a:P7 fs 6) {l:List (List Str×D)} (c:(lQ l).Nodup) (h:∀ x∈lQ l,tj fs x):l.length<=64:=by
 have:=Fu c λx b=>Pr a.up (h x b)
 rw [aq] at this
 exact cn this (Sz a.len)
def Y8 (es:List dk) (st x:List Str):Prop:=∃ a:List dk,(∀ e∈a,e∈es)/\oo a st=some x
def vQ (e:dk):∀ (b:List dk) (st x:List Str),oo b st=some x->cy x e.needs e.bars=true->oo (b++[e]) st=some (br e x)
 |[],st,x,h,g=>by cases h;show (if cy st e.needs e.bars then oo [] (br e st) else none)=_;rw [g];rfl
 |a::r,st,x,h,g=>by
  show (if cy st a.needs a.bars then oo (r++[e]) (br a st) else none)=_
  have h':(if cy st a.needs a.bars then oo r (br a st) else none)=some x:=h
  split at h'
  ·rename_i c
   rw [if_pos c]
   exact vQ e r _ _ h' g
  ·cases h'
def ut {es:List dk}{M:List Str->Prop} (c:∀ x,M x->∀ e∈es,cy x e.needs e.bars=true->M (br e x)):∀ (d:List dk) (st x:List Str),M st->(∀ e∈d,e∈es)->oo d st=some x->M x
 |[],st,x,b,_,h=>by cases h;exact b
 |a::r,st,x,b,he,h=>by
  have h':(if cy st a.needs a.bars then oo r (br a st) else none)=some x:=h
  split at h'
  ·rename_i f
   exact ut c r _ _ (c st b a (he a ak) f) (λe h=>he e (ag _ h)) h'
  ·cases h'
def Py {fs st:List Str}{es:List dk} (g:el fs es) (hs:tj fs st):ka [cu fs es,aG st]=.ok (.list ((es.filter λe=>cy st e.needs e.bars).map λe=>dD [eU e,aG (br e st)])):=by
 have a:=e_ hs g.rise.len
 have b:=g.len
 unfold ka
 refine cW ?_
 unfold lV ca
 left
 rw [XZ]
 left
 rw [if_pos (by omega)]
 rw [fM _ eU (λe=>dD [eU e,aG (br e st)]) (λe=>cy st e.needs e.bars) es λe he=>pJ (by
  left
  rw [LC (zH g he)]
  left) λ_=>(by
  left
  rw [LB (zH g he) a]
  left)]
 left
abbrev LZ:=List (List Str×List dk)
def i6 (l:LZ):List (List Str×D):=l.map λp=>(p.1,AT p.2)
structure n8 (fs st:List Str) (es:List dk) (l:LZ):Prop where
 nd:(l.map (·.1)).Nodup
 beg:(st,[])∈l
 sub:∀ p∈l,tj fs p.1
 row:∀ p∈l,(∀ e∈p.2,e∈es)/\oo p.2 st=some p.1/\p.2.length<l.length
def jI (l:LZ):lQ (i6 l)=l.map (·.1):=by
 unfold lQ i6
 rw [cm]
 rfl
def n8.ne {fs st:List Str}{es:List dk}{l:LZ} (h:n8 fs st es l):i6 l≠[]:=by
 intro z
 have:=List.map_eq_nil_iff.mp z
 have a:=h.beg
 rw [this] at a
 cases a
def n8.few {fs st:List Str}{es:List dk}{l:LZ} (g:el fs es) (h:n8 fs st es l):l.length<=64:=by
 have:=Fw g.rise (l:=i6 l) (by rw [jI];exact h.nd) λx a=>by
  rw [jI] at a
  obtain ⟨p,b,rfl⟩:=List.mem_map.mp a
  exact h.sub p b
 unfold i6 at this
 rw [aq] at this
 exact this
def iG (at0:List Str) (row:List dk) (b:LZ×List (List Str)) (e:dk):LZ×List (List Str) :=
 if br e at0∈b.1.map (·.1) then b else (b.1++[(br e at0,row++[e])],b.2++[br e at0])
def V_ {fs st at0:List Str}{es:List dk}{row:List dk}{b:LZ×List (List Str)}{e:dk} (g:el fs es) (h:n8 fs st es b.1) (c:(at0,row)∈b.1) (he:e∈es) (n:cy at0 e.needs e.bars=true):n8 fs st es (iG at0 row b e).1:=by
 unfold iG
 split
 ·exact h
 ·rename_i d
  obtain ⟨f,k,l⟩:=h.row _ c
  refine ⟨?_,aN _ h.beg,λp a=>?_,λp a=>?_⟩
  ·rw [bc]
   exact yi h.nd d
  ·rcases List.mem_append.mp a with z|z
   ·exact h.sub p z
   ·rw [List.mem_singleton.mp z]
    exact ur g.rise.up (g.ok e he) (h.sub _ c)
  ·rw [aJ,dC]
   rcases List.mem_append.mp a with z|z
   ·obtain ⟨j,i,o⟩:=h.row p z
    exact ⟨j,i,by omega⟩
   ·rw [List.mem_singleton.mp z]
    refine ⟨λx m=>?_,vQ e _ _ _ k n,?_⟩
    ·rcases List.mem_append.mp m with y|y
     ·exact f x y
     ·rw [List.mem_singleton.mp y];exact he
    ·show (row++[e]).length<b.1.length+1
     rw [aJ,dC]
     have:row.length<b.1.length:=l
     omega
def Fx (at0:List Str) (row:List dk) (b:LZ×List (List Str)) (e:dk):(∀ p∈b.1,p∈(iG at0 row b e).1)/\br e at0∈(iG at0 row b e).1.map (·.1)/\(∀ x∈(iG at0 row b e).1.map (·.1),x∈b.1.map (·.1)\/x∈(iG at0 row b e).2)/\(∀ x∈b.2,x∈(iG at0 row b e).2)/\(∀ x∈(iG at0 row b e).2,x∈b.2\/x∈(iG at0 row b e).1.map (·.1))/\b.1.length+(iG at0 row b e).2.length=(iG at0 row b e).1.length+b.2.length:=by
 unfold iG
 split
 ·rename_i h
  exact ⟨λ_ h=>h,h,λ_ h=>.inl h,λ_ h=>h,λ_ h=>.inl h,rfl⟩
 ·refine ⟨λp c=>aN _ c,?_,λx a=>?_,λx a=>aN _ a,λx a=>?_,?_⟩
  ·rw [bc];exact al _ ak
  ·rw [bc] at a
   rcases List.mem_append.mp a with z|z
   ·exact .inl z
   ·exact .inr (al _ z)
  ·rcases List.mem_append.mp a with z|z
   ·exact .inl z
   ·rw [bc];exact .inr (al _ z)
  ·simp only [aJ,dC]
   omega
def YA:aC->R Fl:=(g9 (fJ (g2 (rB 7) (rB 2) (RQ true))) (aO (tQ 2 (rS 7) (g2 (g2 (rB 2) (rB 5) An) (g6 (J.ah (g2 (rB 6) (kI 0) bq) J.aP) .list) eJ)) (wK 4 (rS 7))) (λρ=>.ok (.nx ρ)))
def LF:aC->R Fl:=oQ (jf (fO 2 ka (J.ah (rS 0) (J.ah (rS 5) J.aP)))) (my 2 (da (b_ 6) (da (b_ 7) o8))) YA
def Y9:aC->R Fl:=aO (fv 4 (g6 J.aP .list)) (aO (qt 3 (b_ 5) LF) (Tx 4 (eC 3 (rS 4))))
def Pz:lW=aO (fv 2 (U8 (rS 1) (g6 J.aP .list))) (aO (fv 3 (g6 (J.ah (rS 1) J.aP) .list)) (aO (fK (uj (rB 3)) Y9 100000) (Vu 2 (ef (rS 2))))):=rfl
def zJ {l:LZ}{p:List Str×List dk} (h:p∈l):(p.1,AT p.2)∈i6 l:=bT (f:=λp:List Str×List dk=>(p.1,AT p.2)) h
def W0 {fs st:List Str}{es:List dk}{l:LZ} (h:n8 fs st es l) {at0:List Str}{row:List dk} (a:(at0,row)∈l):An (.dict (db (i6 l))) (aG at0)=.ok (AT row):=by
 have:=K3 (l:=i6 l) (by rw [jI];exact h.nd) (zJ a)
 exact this
def PB (l:LZ) (x:List Str) (r:List dk):i6 (l++[(x,r)])=i6 l++[(x,AT r)]:=by
 unfold i6
 rw [bc]
 rfl
def SA {fs st at0:List Str}{es:List dk}{row:List dk} (g:el fs es) (B S:D) (c m n:Sl) {b:LZ×List (List Str)}{e:dk} (h:n8 fs st es b.1) (f:(at0,row)∈b.1) (k:b.2.length<=b.1.length) :
  YA [.shr B,.shr S,.own (.dict (db (i6 b.1))),c,.own (.list (b.2.map aG)),.shr (aG at0),.shr (eU e),.shr (aG (br e at0))]=.ok (.nx [.shr B,.shr S,.own (.dict (db (i6 (iG at0 row b e).1))),c,.own (.list ((iG at0 row b e).2.map aG)),.shr (aG at0),.shr (eU e),.shr (aG (br e at0))]):=by
 have few:=h.few g
 have i:=(h.row _ f).2.2
 have j:row.length<b.1.length:=i
 unfold YA
 left
 rw [K4 h.ne,jI]
 unfold iG
 by_cases a:br e at0∈b.1.map (·.1)
 ·rw [if_pos a,decide_eq_true a]
  left
 ·rw [if_neg a,decide_eq_false a]
  left
  rw [Pw (l:=i6 b.1) (x:=br e at0) (d:=AT (row++[e])) rfl ?_ rfl h.ne (by unfold i6;rw [aq];omega) (by rw [jI];exact a)]
  ·left
   rw [J_ (ds:=b.2.map aG) (d:=aG (br e at0)) rfl rfl (by rw [aq];omega),PB,bc]
   rfl
  ·left
   rw [W0 h f]
   left
   rw [ZE]
   left
   rw [if_pos (by omega)]
   simp only [AT,bc]
   rfl
def Fy {fs st at0:List Str}{es:List dk}{row:List dk}:∀ (xs:List dk) (b:LZ×List (List Str)),(∀ p∈b.1,p∈(xs.foldl (iG at0 row) b).1)/\(∀ e∈xs,br e at0∈(xs.foldl (iG at0 row) b).1.map (·.1))/\(∀ x∈(xs.foldl (iG at0 row) b).1.map (·.1),x∈b.1.map (·.1)\/x∈(xs.foldl (iG at0 row) b).2)/\(∀ x∈b.2,x∈(xs.foldl (iG at0 row) b).2)/\(∀ x∈(xs.foldl (iG at0 row) b).2,x∈b.2\/x∈(xs.foldl (iG at0 row) b).1.map (·.1))/\b.1.length+(xs.foldl (iG at0 row) b).2.length=(xs.foldl (iG at0 row) b).1.length+b.2.length
 |[],b=>⟨λ_ h=>h,λ_ h=>(nomatch h),λ_ h=>.inl h,λ_ h=>h,λ_ h=>.inl h,rfl⟩
 |e::r,b=>by
  obtain ⟨a1,a2,a3,f,a5,a6⟩:=Fx at0 row b e
  obtain ⟨b1,b2,b3,b4,b5,g⟩:=Fy (fs:=fs) (st:=st) (es:=es) r (iG at0 row b e)
  rw [cH]
  have d:∀ x∈(iG at0 row b e).1.map (·.1),x∈(r.foldl (iG at0 row) (iG at0 row b e)).1.map (·.1):=λx a=>by
   obtain ⟨p,c,rfl⟩:=List.mem_map.mp a
   exact bT (b1 p c)
  refine ⟨λp c=>b1 p (a1 p c),λx a=>?_,λx a=>?_,λx a=>b4 x (f x a),λx a=>?_,by omega⟩
  ·rcases List.mem_cons.mp a with z|z
   ·rw [z];exact d _ a2
   ·exact b2 x z
  ·rcases b3 x a with z|z
   ·rcases a3 x z with y|y
    ·exact .inl y
    ·exact .inr (b4 x y)
   ·exact .inr z
  ·rcases b5 x a with z|z
   ·rcases a5 x z with y|y
    ·exact .inl y
    ·exact .inr (d x y)
   ·exact .inr z
def W3 {fs st at0:List Str}{es:List dk}{row:List dk} (g:el fs es) (B S:D) (a c d:Sl) {b:LZ×List (List Str)} (h:n8 fs st es b.1) (i:(at0,row)∈b.1) (m:b.2.length<=b.1.length) (xs:List dk) (k:∀ e∈xs,e∈es/\cy at0 e.needs e.bars=true) :
  n8 fs st es (xs.foldl (iG at0 row) b).1/\∃ f j,jP (my 2 (da (b_ 6) (da (b_ 7) o8))) YA (xs.map λe=>dD [eU e,aG (br e at0)]) [.shr B,.shr S,.own (.dict (db (i6 b.1))),a,.own (.list (b.2.map aG)),.shr (aG at0),c,d]=.ok (.nx [.shr B,.shr S,.own (.dict (db (i6 (xs.foldl (iG at0 row) b).1))),a,.own (.list ((xs.foldl (iG at0 row) b).2.map aG)),.shr (aG at0),f,j]):=by
 induction xs generalizing b c d with
 |nil=>exact ⟨h,c,d,rfl⟩
 |cons e r l =>
  obtain ⟨he,p⟩:=k e ak
  obtain ⟨a1,a2,a3,q,a5,a6⟩:=Fx at0 row b e
  have h':=V_ g h i he p
  obtain ⟨n,f,j,o⟩:=l (.shr (eU e)) (.shr (aG (br e at0))) h' (a1 _ i) (by omega) λx z=>k x (ag _ z)
  refine ⟨n,f,j,?_⟩
  rw [az,Dz (ρ1:=[.shr B,.shr S,.own (.dict (db (i6 b.1))),a,.own (.list (b.2.map aG)),.shr (aG at0),.shr (eU e),.shr (aG (br e at0))]) rfl (SA g B S a c d h i m)]
  exact o
def q0 (l:LZ) (x:List Str):List dk:=((l.find? λp=>decide (p.1=x)).map (·.2)).getD []
def vR {l:LZ}{x:List Str} (h:x∈l.map (·.1)):(x,q0 l x)∈l:=by
 unfold q0
 induction l with
 |nil=>cases h
 |cons p r b =>
  rw [bH]
  by_cases a:p.1=x
  ·rw [decide_eq_true a]
   subst a
   exact ak
  ·rw [decide_eq_false a]
   rcases List.mem_cons.mp h with z|z
   ·exact (a z.symm).elim
   ·exact ag _ (b z)
def mL (es:List dk) (b:LZ×List (List Str)) (x:List Str):LZ×List (List Str):=(es.filter λe=>cy x e.needs e.bars).foldl (iG x (q0 b.1 x)) b
def PD {fs st at0:List Str}{es:List dk} (g:el fs es) (S:D) (c i j:Sl) {b:LZ×List (List Str)} (h:n8 fs st es b.1) (n:at0∈b.1.map (·.1)) (l:b.2.length<=b.1.length) :
  n8 fs st es (mL es b at0).1/\∃ a d,LF [.shr (cu fs es),.shr S,.own (.dict (db (i6 b.1))),c,.own (.list (b.2.map aG)),.shr (aG at0),i,j]=.ok (.nx [.shr (cu fs es),.shr S,.own (.dict (db (i6 (mL es b at0).1))),c,.own (.list ((mL es b at0).2.map aG)),.shr (aG at0),a,d]):=by
 have f:=vR n
 obtain ⟨m,a,d,k⟩:=W3 g (cu fs es) S c i j h f l (es.filter λe=>cy at0 e.needs e.bars) λe he=>List.mem_filter.mp he
 refine ⟨m,a,d,?_⟩
 unfold LF
 rw [xq (ds:=(es.filter λe=>cy at0 e.needs e.bars).map λe=>dD [eU e,aG (br e at0)])]
 ·exact k
 ·left
  rw [Py g (h.sub _ f)]
  left
def K5 (es:List dk) (b:LZ×List (List Str)) (x:List Str):(∀ p∈b.1,p∈(mL es b x).1)/\(∀ e∈es,cy x e.needs e.bars=true->br e x∈(mL es b x).1.map (·.1))/\(∀ y∈(mL es b x).1.map (·.1),y∈b.1.map (·.1)\/y∈(mL es b x).2)/\(∀ y∈b.2,y∈(mL es b x).2)/\(∀ y∈(mL es b x).2,y∈b.2\/y∈(mL es b x).1.map (·.1))/\b.1.length+(mL es b x).2.length=(mL es b x).1.length+b.2.length:=by
 obtain ⟨b1,b2,b3,b4,b5,c⟩:=Fy (fs:=[]) (st:=[]) (es:=es) (at0:=x) (row:=q0 b.1 x) (es.filter λe=>cy x e.needs e.bars) b
 exact ⟨b1,λe he a=>b2 e (List.mem_filter.mpr ⟨he,a⟩),b3,b4,b5,c⟩
def wU (es:List dk):∀ (ring:List (List Str)) (b:LZ×List (List Str)),(∀ p∈b.1,p∈(ring.foldl (mL es) b).1)/\(∀ x∈ring,∀ e∈es,cy x e.needs e.bars=true->br e x∈(ring.foldl (mL es) b).1.map (·.1))/\(∀ y∈(ring.foldl (mL es) b).1.map (·.1),y∈b.1.map (·.1)\/y∈(ring.foldl (mL es) b).2)/\(∀ y∈b.2,y∈(ring.foldl (mL es) b).2)/\(∀ y∈(ring.foldl (mL es) b).2,y∈b.2\/y∈(ring.foldl (mL es) b).1.map (·.1))/\b.1.length+(ring.foldl (mL es) b).2.length=(ring.foldl (mL es) b).1.length+b.2.length
 |[],b=>⟨λ_ h=>h,λ_ h=>(nomatch h),λ_ h=>.inl h,λ_ h=>h,λ_ h=>.inl h,rfl⟩
 |x::r,b=>by
  obtain ⟨a1,a2,a3,g,a5,a6⟩:=K5 es b x
  obtain ⟨b1,b2,b3,b4,b5,i⟩:=wU es r (mL es b x)
  rw [cH]
  have d:∀ y∈(mL es b x).1.map (·.1),y∈(r.foldl (mL es) (mL es b x)).1.map (·.1):=λy a=>by
   obtain ⟨p,c,rfl⟩:=List.mem_map.mp a
   exact bT (b1 p c)
  refine ⟨λp c=>b1 p (a1 p c),λy a e he f=>?_,λy a=>?_,λy a=>b4 y (g y a),λy a=>?_,by omega⟩
  ·rcases List.mem_cons.mp a with z|z
   ·subst z;exact d _ (a2 e he f)
   ·exact b2 y z e he f
  ·rcases b3 y a with z|z
   ·rcases a3 y z with w|w
    ·exact .inl w
    ·exact .inr (b4 y w)
   ·exact .inr z
  ·rcases b5 y a with z|z
   ·rcases a5 y z with w|w
    ·exact .inl w
    ·exact .inr (d y w)
   ·exact .inr z
def PF {fs st:List Str}{es:List dk} (g:el fs es) (S:D) (d i a c:Sl) {b:LZ×List (List Str)} (h:n8 fs st es b.1) (o:b.2.length<=b.1.length) (ring:List (List Str)) (k:∀ x∈ring,x∈b.1.map (·.1)) :
  n8 fs st es (ring.foldl (mL es) b).1/\∃ u f j,jP (b_ 5) LF (ring.map aG) [.shr (cu fs es),.shr S,.own (.dict (db (i6 b.1))),d,.own (.list (b.2.map aG)),i,a,c]=.ok (.nx [.shr (cu fs es),.shr S,.own (.dict (db (i6 (ring.foldl (mL es) b).1))),d,.own (.list ((ring.foldl (mL es) b).2.map aG)),u,f,j]):=by
 induction ring generalizing b i a c with
 |nil=>exact ⟨h,i,a,c,rfl⟩
 |cons x r l =>
  obtain ⟨a1,a2,a3,A,a5,a6⟩:=K5 es b x
  obtain ⟨h',f,j,q⟩:=PD g S d a c h (k x ak) o
  obtain ⟨s,n,z,t,v⟩:=l (.shr (aG x)) f j h' (by omega) λy m=>by
   obtain ⟨p,w,e⟩:=List.mem_map.mp (k y (ag _ m))
   rw [<- e]
   exact bT (a1 p w)
  refine ⟨s,n,z,t,?_⟩
  rw [az,Dz (ρ1:=[.shr (cu fs es),.shr S,.own (.dict (db (i6 b.1))),d,.own (.list (b.2.map aG)),.shr (aG x),a,c]) rfl q]
  exact v
def SB {fs st:List Str}{es:List dk} (g:el fs es) (S:D) (p t j k m:Sl) {l:LZ} (h:n8 fs st es l) (ring:List (List Str)) (u:∀ x∈ring,x∈l.map (·.1)) (ho:p=.own (.list (ring.map aG))\/p=.shr (.list (ring.map aG))) :
  n8 fs st es (ring.foldl (mL es) (l,[])).1/\∃ s f c i,Y9 [.shr (cu fs es),.shr S,.own (.dict (db (i6 l))),p,t,j,k,m]=.ok (.nx [.shr (cu fs es),.shr S,.own (.dict (db (i6 (ring.foldl (mL es) (l,[])).1))),.shr (.list ((ring.foldl (mL es) (l,[])).2.map aG)),s,f,c,i]):=by
 have L:=λo=>PF g S o j k m (b:=(l,[])) h (cx _) ring u
 unfold Y9
 left
 rcases ho with ho|ho
 ·subst ho
  obtain ⟨n,f,c,i,q⟩:=L (.lck (.list (ring.map aG)))
  refine ⟨n,.shr (.list ((ring.foldl (mL es) (l,[])).2.map aG)),f,c,i,?_⟩
  have e:qt 3 (b_ 5) LF [.shr (cu fs es),.shr S,.own (.dict (db (i6 l))),.own (.list (ring.map aG)),.own (.list []),j,k,m]=.ok (.nx [.shr (cu fs es),.shr S,.own (.dict (db (i6 (ring.foldl (mL es) (l,[])).1))),.own (.list (ring.map aG)),.own (.list ((ring.foldl (mL es) (l,[])).2.map aG)),f,c,i]):=by
   show unl 3 _ (jP (b_ 5) LF (ring.map aG) [.shr (cu fs es),.shr S,.own (.dict (db (i6 l))),.lck (.list (ring.map aG)),.own (.list []),j,k,m])=_
   have a:=q
   rw [d_] at a
   rw [a]
   rfl
  rw [e]
  left
  simp only [Tx]
  rw [D7 rfl]
  left
 ·subst ho
  obtain ⟨n,f,c,i,q⟩:=L (.shr (.list (ring.map aG)))
  refine ⟨n,.shr (.list ((ring.foldl (mL es) (l,[])).2.map aG)),f,c,i,?_⟩
  rw [VZ (d:=.list (ring.map aG)) rfl,xq (ds:=ring.map aG)]
  ·have a:=q
   rw [d_] at a
   rw [a]
   left
   simp only [Tx]
   rw [D7 rfl]
   left
  ·left
structure PH (fs st:List Str) (es:List dk) (l:LZ):Prop where
 ok:n8 fs st es l
 all:∀ x∈l.map (·.1),∀ e∈es,cy x e.needs e.bars=true->br e x∈l.map (·.1)
def Fz {fs st:List Str}{es:List dk} (g:el fs es) (S:D) (P:LZ->List (List Str)->Prop) (G:∀ l ring,n8 fs st es l->(∀ x∈ring,x∈l.map (·.1))->n8 fs st es (ring.foldl (mL es) (l,[])).1->P l ring->P (ring.foldl (mL es) (l,[])).1 (ring.foldl (mL es) (l,[])).2):∀ (k a:Nat) (b c f i j:Sl) (l:LZ) (ring:List (List Str)),n8 fs st es l->(∀ x∈ring,x∈l.map (·.1))->(∀ x∈l.map (·.1),x∉ring->∀ e∈es,cy x e.needs e.bars=true->br e x∈l.map (·.1)) ->
  (b=.own (.list (ring.map aG))\/b=.shr (.list (ring.map aG)))->P l ring->65-l.length+(if ring=[] then 0 else 1)<=k->k<a ->
  ∃ d M u v t A,(PH fs st es d/\P d [])/\fK (uj (rB 3)) Y9 a [.shr (cu fs es),.shr S,.own (.dict (db (i6 l))),b,c,f,i,j]=.ok (.nx [.shr (cu fs es),.shr S,.own (.dict (db (i6 d))),M,u,v,t,A])
 |_,0,_,_,_,_,_,_,_,_,_,_,_,_,_,B=>absurd B (jQ _)
 |k,a+1,b,c,f,i,j,l,ring,h,o,hc,ho,n,hk,B=>by
  have L:uj (rB 3) [.shr (cu fs es),.shr S,.own (.dict (db (i6 l))),b,c,f,i,j]=.ok (!(ring.map aG).isEmpty):=Px (by rcases ho with z|z<;>subst z<;>rfl)
  rw [fK,L]
  cases ring with
  |nil=>exact ⟨l,b,c,f,i,j,⟨⟨h,λx o=>hc x o (λz=>nomatch z)⟩,n⟩,rfl⟩
  |cons x r =>
   obtain ⟨h',u,v,t,A,q⟩:=SB g S b c f i j h (x::r) o ho
   obtain ⟨a1,a2,a3,a4,a5,a6⟩:=wU es (x::r) (l,[])
   have few:=h'.few g
   have E:=h.few g
   simp only [cG,xK] at a6
   rw [if_neg (by simp)] at hk
   have w:65-((x::r).foldl (mL es) (l,[])).1.length+(if ((x::r).foldl (mL es) (l,[])).2=[] then 0 else 1)<=k-1:=by
    by_cases m:((x::r).foldl (mL es) (l,[])).2=[]
    ·rw [if_pos m]
     rw [m] at a6
     simp only [cG,xK] at a6
     omega
    ·rw [if_neg m]
     have:=List.length_pos_iff.mpr m
     omega
   obtain ⟨d,U,X,K,Y,O,T,e2⟩:=Fz g S P G (k-1) a (.shr (.list (((x::r).foldl (mL es) (l,[])).2.map aG))) u v t A _ _ h' (λy s=>by
    rcases a5 y s with z|z
    ·cases z
    ·exact z) (λy s Q e he I=>by
    rcases a3 y s with z|z
    ·by_cases H:y∈x::r
     ·exact a2 y H e he I
     ·obtain ⟨p,n,N⟩:=List.mem_map.mp (hc y z H e he I)
      rw [<- N]
      exact bT (a1 p n)
    ·exact (Q z).elim) (.inr rfl) (G l (x::r) h o h' n) w (by omega)
   refine ⟨d,U,X,K,Y,O,T,?_⟩
   simp only [az,MH,i8]
   rw [q]
   exact e2
structure Ya (es:List dk) (l:LZ):Prop where
 cls:∀ p∈l,∀ e∈es,cy p.1 e.needs e.bars=true->∃ q∈l,q.1=br e p.1/\q.2.length<=p.2.length+1
 up:l.Pairwise λp q=>p.2.length<=q.2.length
structure W4 (es:List dk) (l:LZ) (ring:List (List Str)) (d:Nat):Prop where
 top:∀ p∈l,p.2.length<=d
 rin:∀ p∈l,p.1∈ring->p.2.length=d
 cls:∀ p∈l,p.1∉ring->∀ e∈es,cy p.1 e.needs e.bars=true->∃ q∈l,q.1=br e p.1/\q.2.length<=p.2.length+1
 up:l.Pairwise λp q=>p.2.length<=q.2.length
def zK (at0:List Str) (row:List dk):∀ (xs:List dk) (b:LZ×List (List Str)),∃ t:LZ,xs.foldl (iG at0 row) b=(b.1++t,b.2++t.map (·.1))/\∀ p∈t,p.2.length=row.length+1
 |[],b=>⟨[],by simp,λ_ h=>(nomatch h)⟩
 |e::r,b=>by
  rw [cH]
  by_cases a:br e at0∈b.1.map (·.1)
  ·have:iG at0 row b e=b:=by unfold iG;rw [if_pos a]
   rw [this]
   exact zK at0 row r b
  ·have:iG at0 row b e=(b.1++[(br e at0,row++[e])],b.2++[br e at0]):=by unfold iG;rw [if_neg a]
   rw [this]
   obtain ⟨t,c,d⟩:=zK at0 row r (b.1++[(br e at0,row++[e])],b.2++[br e at0])
   refine ⟨(br e at0,row++[e])::t,by rw [c];simp,λp f=>?_⟩
   rcases List.mem_cons.mp f with z|z
   ·subst z;simp
   ·exact d p z
def PJ {l t:LZ}{x:List Str} (h:x∈l.map (·.1)):q0 (l++t) x=q0 l x:=by
 unfold q0
 rw [List.find?_append]
 cases b:l.find? λp=>decide (p.1=x) with
 |some p=>rfl
 |none =>
  obtain ⟨p,a,e⟩:=List.mem_map.mp h
  have:=List.find?_eq_none.mp b p a
  simp [e] at this
def FA (es:List dk) (d:Nat):∀ (ring:List (List Str)) (b:LZ×List (List Str)),(∀ x∈ring,x∈b.1.map (·.1))->(∀ x∈ring,(q0 b.1 x).length=d)->∃ t:LZ,ring.foldl (mL es) b=(b.1++t,b.2++t.map (·.1))/\∀ p∈t,p.2.length=d+1
 |[],b,_,_=>⟨[],by simp,λ_ h=>(nomatch h)⟩
 |x::r,b,f,c=>by
  rw [cH]
  obtain ⟨t,g,m⟩:=zK x (q0 b.1 x) (es.filter λe=>cy x e.needs e.bars) b
  have l:mL es b x=(b.1++t,b.2++t.map (·.1)):=g
  rw [l]
  obtain ⟨i,j,k⟩:=FA es d r (b.1++t,b.2++t.map (·.1)) (λy a=>by rw [bc];exact aN _ (f y (ag _ a))) (λy a=>by rw [PJ (f y (ag _ a))];exact c y (ag _ a))
  refine ⟨t++i,by rw [j];simp,λp n=>?_⟩
  rcases List.mem_append.mp n with z|z
  ·rw [m p z,c x ak]
  ·exact k p z
def LG {fs st:List Str}{es:List dk}{l:LZ}{ring:List (List Str)} (j:∀ x∈ring,x∈l.map (·.1)) (h':n8 fs st es (ring.foldl (mL es) (l,[])).1) (a:∃ d,W4 es l ring d):∃ d,W4 es (ring.foldl (mL es) (l,[])).1 (ring.foldl (mL es) (l,[])).2 d:=by
 obtain ⟨d,D⟩:=a
 obtain ⟨a1,a2,a3,n,a5,a6⟩:=wU es ring (l,[])
 obtain ⟨t,e,f⟩:=FA es d ring (l,[]) j λx c=>D.rin _ (vR (j x c)) c
 have g:=h'.nd
 rw [e] at g a2 ⊢
 rw [bc] at g
 simp only [jN] at *
 have top:∀ p∈l++t,p.2.length<=d+1:=λp a=>by
  rcases List.mem_append.mp a with z|z
  ·exact xP (D.top p z)
  ·exact Nat.le_of_eq (f p z)
 refine ⟨d+1,top,λp a c=>?_,λp a c e he k=>?_,?_⟩
 ·rcases List.mem_append.mp a with z|z
  ·exact ((List.nodup_append.mp g).2.2 p.1 (bT z) p.1 c rfl).elim
  ·exact f p z
 ·rcases List.mem_append.mp a with z|z
  ·by_cases h:p.1∈ring
   ·obtain ⟨q,b,i⟩:=List.mem_map.mp (a2 p.1 h e he k)
    exact ⟨q,b,i,by rw [D.rin p z h];exact top q b⟩
   ·obtain ⟨q,b,i,m⟩:=D.cls p z h e he k
    exact ⟨q,aN _ b,i,m⟩
  ·exact (c (bT z)).elim
 ·refine List.pairwise_append.mpr ⟨D.up,?_,λp a q b=>by rw [f q b];exact xP (D.top p a)⟩
  exact xm λp a q b=>by rw [f p a,f q b];exact aw _
def PK {fs st:List Str}{es:List dk} (g:el fs es) (hs:tj fs st):∃ l,(PH fs st es l/\Ya es l)/\lX [cu fs es,aG st]=.ok (.dict ((.none,.none)::db (i6 l))):=by
 have m:n8 fs st es [(st,[])]:=⟨by simp,List.mem_singleton.mpr rfl,λp a=>by rw [List.mem_singleton.mp a];exact hs,λp a=>by rw [List.mem_singleton.mp a];exact ⟨λ_ h=>(nomatch h),rfl,by simp⟩⟩
 obtain ⟨l,q,s,t,o,u,⟨j,d,i⟩,n⟩:=Fz g (aG st) (λl ring=>∃ d,W4 es l ring d) (λl ring _ b h' a=>LG b h' a) 65 100000 (.own (.list ([st].map aG))) .no .no .no .no [(st,[])] [st] m (λx b=>b) (λx b c=>(c b).elim) (.inl rfl) ⟨0,λp a=>by rw [List.mem_singleton.mp a];exact aw _,λp a _=>by rw [List.mem_singleton.mp a];rfl,λp a c=>by rw [List.mem_singleton.mp a] at c;exact (c ak).elim,by simp⟩ (by simp) (by decide)
 refine ⟨l,⟨j,λp a e he k=>i.cls p a (λz=>nomatch z) e he k,i.up⟩,?_⟩
 unfold lX
 refine cW ?_
 rw [Pz]
 unfold ca
 left
 rw [Y6 (x:=st) (d:=.list []) rfl rfl]
 left
 have f:fK (uj (rB 3)) Y9 100000 [.shr (cu fs es),.shr (aG st),.own (.dict (db [(st,.list [])])),.own (.list [aG st]),.no,.no,.no,.no]=_:=n
 rw [f]
 left
 rw [Y5 j.ok.ne rfl]
 left
def YB:aC->R Fl:=(aO (eC 6 (fO 2 mJ (J.ah (rS 5) (J.ah (g2 (rB 3) (rB 4) bq) J.aP)))) (g9 (vt (fJ (g2 (rB 6) kN (CW true))) (fJ (g2 (rB 6) (rB 2) (RQ true)))) (aO (tQ 2 (rS 6) (g2 (g2 (rB 2) (g2 (rB 3) (rB 4) bq) An) (kI 1) eJ)) (wK 3 (rS 6))) (λρ=>.ok (.nx ρ))))
def Yb:aC->R Fl:=aO (oQ (jf (g2 (rB 0) (kI 1) bq)) (b_ 5) YB) (eC 4 (g2 (rB 4) (kI 1) eJ))
def PL:lY=aO (fv 2 (U8 (rS 1) (kI 0))) (aO (fv 3 (g6 (J.ah (rS 1) J.aP) .list)) (aO (eC 4 (kI 0)) (aO (fK (fJ (g2 (rB 4) (cb (J.ah (rB 3) J.aP) (i9 kq)) AM)) Yb 100000) (Vu 2 (ef (rS 2)))))):=rfl
abbrev NZ:=List (List Str×Int)
def jB (l:NZ):List (List Str×D):=l.map λp=>(p.1,.int p.2)
def kL (l:NZ):lQ (jB l)=l.map (·.1):=by
 unfold lQ jB
 rw [cm]
 rfl
structure Mq (fs st:List Str) (es:List dk) (l:NZ):Prop where
 nd:(l.map (·.1)).Nodup
 beg:st∈l.map (·.1)
 sub:∀ x∈l.map (·.1),tj fs x
 rch:∀ x∈l.map (·.1),Y8 es st x
def Mq.ne {fs st:List Str}{es:List dk}{l:NZ} (h:Mq fs st es l):jB l≠[]:=by
 intro z
 have:=List.map_eq_nil_iff.mp z
 have a:=h.beg
 rw [this] at a
 cases a
def Mq.few {fs st:List Str}{es:List dk}{l:NZ} (g:el fs es) (h:Mq fs st es l):l.length<=64:=by
 have:=Fw g.rise (l:=jB l) (by rw [kL];exact h.nd) λx a=>by
  rw [kL] at a
  exact h.sub x a
 unfold jB at this
 rw [aq] at this
 exact this
def mM (x:List Str) (n:Int) (l:NZ) (e:dk):NZ :=
 if cy x e.needs e.bars=true/\br e x∉l.map (·.1) then l++[(br e x,n+1)] else l
def SC {fs st x:List Str}{es:List dk}{n:Int}{l:NZ}{e:dk} (g:el fs es) (h:Mq fs st es l) (d:x∈l.map (·.1)) (he:e∈es):Mq fs st es (mM x n l e)/\(∀ p∈l,p∈mM x n l e)/\(∃ t,mM x n l e=l++t)/\(cy x e.needs e.bars=true->br e x∈(mM x n l e).map (·.1)):=by
 unfold mM
 by_cases c:cy x e.needs e.bars=true/\br e x∉l.map (·.1)
 ·rw [if_pos c]
  obtain ⟨f,j,m⟩:=h.rch x d
  refine ⟨⟨?_,?_,λy b=>?_,λy b=>?_⟩,λp k=>aN _ k,⟨_,rfl⟩,λ_=>?_⟩
  ·rw [bc];exact yi h.nd c.2
  ·rw [bc];exact aN _ h.beg
  ·rw [bc] at b
   rcases List.mem_append.mp b with z|z
   ·exact h.sub y z
   ·rw [List.mem_singleton.mp z];exact ur g.rise.up (g.ok e he) (h.sub x d)
  ·rw [bc] at b
   rcases List.mem_append.mp b with z|z
   ·exact h.rch y z
   ·rw [List.mem_singleton.mp z]
    refine ⟨f++[e],λa i=>?_,vQ e _ _ _ m c.1⟩
    rcases List.mem_append.mp i with w|w
    ·exact j a w
    ·rw [List.mem_singleton.mp w];exact he
  ·rw [bc];exact al _ ak
 ·rw [if_neg c]
  exact ⟨h,λ_ h=>h,⟨[],(bN _).symm⟩,λo=>Classical.byContradiction λz=>c ⟨o,z⟩⟩
def W5 {l:NZ}{j:Nat}{x:List Str} (h:(l.map (·.1))[j]?=some x):bq (.list ((l.map (·.1)).map aG)) (.int (j:Nat))=.ok (aG x):=rW (by rw [aX,h];rfl)
def Yc {fs st x:List Str}{es:List dk}{n:Int} (g:el fs es) (B S:D) (j:Nat) (q:Sl) {l:NZ}{e:dk} (h:Mq fs st es l) (k:(l.map (·.1))[j]?=some x) (m:(x,n)∈l) (he:e∈es) :
  ∃ o,YB [.shr B,.shr S,.own (.dict (db (jB l))),.own (.list ((l.map (·.1)).map aG)),.shr (.int (j:Nat)),.shr (eU e),q]=.ok (.nx [.shr B,.shr S,.own (.dict (db (jB (mM x n l e)))),.own (.list (((mM x n l e).map (·.1)).map aG)),.shr (.int (j:Nat)),.shr (eU e),o]):=by
 have few:=h.few g
 have s:x∈l.map (·.1):=c8 k
 have t:=e_ (h.sub x s) g.rise.len
 have b:=W5 k
 have i:An (.dict (db (jB l))) (aG x)=.ok (.int n):=K3 (l:=jB l) (by rw [kL];exact h.nd) (bT (f:=λp:List Str×Int=>(p.1,bV p.2)) m)
 refine ⟨.shr (Sv (K2 e x)),?_⟩
 unfold YB
 left
 rw [b]
 left
 rw [Sw (zH g he) (by omega)]
 left
 rw [Lx]
 unfold mM
 by_cases c:cy x e.needs e.bars=true
 ·rw [if_pos c,Ly]
  rw [X_]
  left
  rw [K4 h.ne,kL]
  by_cases a:br e x∈l.map (·.1)
  ·rw [decide_eq_true a,if_neg (λz=>z.2 a)]
   left
  ·rw [decide_eq_false a,if_pos ⟨c,a⟩]
   left
   rw [Pw (l:=jB l) (x:=br e x) (d:=.int (n+1)) rfl ?_ rfl h.ne (by unfold jB;rw [aq];omega) (by rw [kL];exact a)]
   ·left
    rw [J_ (ds:=(l.map (·.1)).map aG) (d:=aG (br e x)) rfl rfl (by rw [aq,aq];omega)]
    unfold jB
    simp only [bc]
    rfl
   ·left
    rw [b]
    left
    rw [i]
    left
 ·rw [if_neg c,Lz,if_neg (λz=>c z.1)]
  rw [Uh]
  left
def W6 {fs st x:List Str}{es:List dk}{n:Int} (g:el fs es) (B S:D) (j:Nat) (i b:Sl) {l:NZ} (h:Mq fs st es l) (c:(l.map (·.1))[j]?=some x) (o:(x,n)∈l) (xs:List dk) (p:∀ e∈xs,e∈es) :
  Mq fs st es (xs.foldl (mM x n) l)/\(∃ t,xs.foldl (mM x n) l=l++t)/\(∀ e∈xs,cy x e.needs e.bars=true->br e x∈(xs.foldl (mM x n) l).map (·.1))/\∃ y d,jP (b_ 5) YB (xs.map eU) [.shr B,.shr S,.own (.dict (db (jB l))),.own (.list ((l.map (·.1)).map aG)),.shr (.int (j:Nat)),i,b]=.ok (.nx [.shr B,.shr S,.own (.dict (db (jB (xs.foldl (mM x n) l)))),.own (.list (((xs.foldl (mM x n) l).map (·.1)).map aG)),.shr (.int (j:Nat)),y,d]):=by
 induction xs generalizing l i b with
 |nil=>exact ⟨h,⟨[],(bN _).symm⟩,λ_ h=>(nomatch h),i,b,rfl⟩
 |cons e r u =>
  have he:=p e ak
  have k:x∈l.map (·.1):=c8 c
  obtain ⟨a1,a2,⟨t,a3⟩,A⟩:=SC (n:=n) g h k he
  obtain ⟨d,q⟩:=Yc g B S j b h c o he
  have m:((mM x n l e).map (·.1))[j]?=some x:=by
   rw [a3,bc,aW (List.getElem?_eq_some_iff.mp c).1]
   exact c
  obtain ⟨b1,⟨w,b2⟩,b3,v,E,b4⟩:=u (.shr (eU e)) d a1 m (a2 _ o) λa f=>p a (ag _ f)
  rw [cH]
  refine ⟨b1,⟨t++w,by rw [b2,a3,fB]⟩,λa f s=>?_,v,E,?_⟩
  ·rcases List.mem_cons.mp f with z|z
   ·subst z
    have:=A s
    rw [b2,bc]
    exact aN _ this
   ·exact b3 a z s
  ·rw [az,Dz (ρ1:=[.shr B,.shr S,.own (.dict (db (jB l))),.own (.list ((l.map (·.1)).map aG)),.shr (.int (j:Nat)),.shr (eU e),b]) rfl q]
   exact b4
structure Yd (st:List Str) (es:List dk) (l:NZ) (j:Nat):Prop where
 beg:(st,0)∈l
 rch:∀ p∈l,∃ rs:List dk,(∀ e∈rs,e∈es)/\oo rs st=some p.1/\(rs.length:Int)=p.2
 up:l.Pairwise λp q=>p.2<=q.2
 mx:∀ p,l[j]?=some p->∀ q∈l,q.2<=p.2+1
 cls:∀ i p,i<j->l[i]?=some p->∀ e∈es,cy p.1 e.needs e.bars=true->∃ q∈l,q.1=br e p.1/\q.2<=p.2+1
def wV (x:List Str) (n:Int):∀ (xs:List dk) (l:NZ),∃ t:NZ,xs.foldl (mM x n) l=l++t/\∀ p∈t,p.2=n+1/\∃ e∈xs,cy x e.needs e.bars=true/\p.1=br e x
 |[],l=>⟨[],by simp,λ_ h=>(nomatch h)⟩
 |e::r,l=>by
  rw [cH]
  by_cases i:cy x e.needs e.bars=true/\br e x∉l.map (·.1)
  ·have:mM x n l e=l++[(br e x,n+1)]:=by unfold mM;rw [if_pos i]
   rw [this]
   obtain ⟨t,b,f⟩:=wV x n r (l++[(br e x,n+1)])
   refine ⟨(br e x,n+1)::t,by rw [b];simp,λp g=>?_⟩
   rcases List.mem_cons.mp g with z|z
   ·subst z;exact ⟨rfl,e,ak,i.1,rfl⟩
   ·obtain ⟨d,a,c,j⟩:=f p z
    exact ⟨d,a,ag _ c,j⟩
  ·have:mM x n l e=l:=by unfold mM;rw [if_neg i]
   rw [this]
   obtain ⟨t,b,f⟩:=wV x n r l
   refine ⟨t,b,λp g=>?_⟩
   obtain ⟨d,a,c,j⟩:=f p g
   exact ⟨d,a,ag _ c,j⟩
def PM {st x:List Str}{es:List dk}{l:NZ}{j:Nat}{p:List Str×Int} (D:Yd st es l j) (h:l[j]?=some p) (S:x=p.1) (k:∀ e∈es,cy x e.needs e.bars=true->br e x∈(es.foldl (mM x p.2) l).map (·.1)):Yd st es (es.foldl (mM x p.2) l) (j+1):=by
 subst S
 obtain ⟨t,e,d⟩:=wV p.1 p.2 es l
 rw [e] at k ⊢
 have o:p∈l:=c8 h
 have top:∀ q∈l++t,q.2<=p.2+1:=λq c=>by
  rcases List.mem_append.mp c with z|z
  ·exact D.mx p h q z
  ·exact Int.le_of_eq (d q z).1
 have A:(l++t).Pairwise λp q=>p.2<=q.2:=by
  refine List.pairwise_append.mpr ⟨D.up,?_,λq c r f=>by rw [(d r f).1];exact D.mx p h q c⟩
  exact xm λq c r f=>by rw [(d q c).1,(d r f).1];exact Kq _
 have y:j<l.length:=(List.getElem?_eq_some_iff.mp h).1
 have g:(l++t)[j]?=some p:=by rw [aW y];exact h
 refine ⟨aN _ D.beg,λq c=>?_,A,λq c r f=>?_,λi q U c a B E=>?_⟩
 ·rcases List.mem_append.mp c with z|z
  ·exact D.rch q z
  ·obtain ⟨I,a,H,Q,L⟩:=d q z
   obtain ⟨K,s,u,v⟩:=D.rch p o
   refine ⟨K++[a],λb k=>?_,by rw [L];exact vQ a _ _ _ u Q,by rw [I,aJ,dC,<- v];rfl⟩
   rcases List.mem_append.mp k with w|w
   ·exact s b w
   ·rw [List.mem_singleton.mp w];exact H
 ·have T:=top r f
  obtain ⟨M,P⟩:=List.getElem?_eq_some_iff.mp c
  obtain ⟨N,G⟩:=List.getElem?_eq_some_iff.mp g
  have:=List.pairwise_iff_getElem.mp A j (j+1) N M (cZ j)
  rw [P,G] at this
  omega
 ·by_cases m:i=j
  ·subst m
   rw [g] at c
   cases c
   obtain ⟨q,c,O⟩:=List.mem_map.mp (k a B E)
   exact ⟨q,c,O,top q c⟩
  ·have n:i<j:=by omega
   rw [aW (by omega)] at c
   obtain ⟨r,s,u,v⟩:=D.cls i q n c a B E
   exact ⟨r,aN _ s,u,v⟩
def FB {fs st:List Str}{es:List dk} (g:el fs es) (S:D):∀ (k a j:Nat) (d m:Sl) (l:NZ),Mq fs st es l->Yd st es l j->j<=l.length->(∀ i x,i<j->(l.map (·.1))[i]?=some x->∀ e∈es,cy x e.needs e.bars=true->br e x∈l.map (·.1))->65-j<=k->k<a ->
  ∃ (c:NZ) (L M s q:Sl),(Mq fs st es c/\Yd st es c c.length)/\(∀ x∈c.map (·.1),∀ e∈es,cy x e.needs e.bars=true->br e x∈c.map (·.1))/\fK (fJ (g2 (rB 4) (cb (J.ah (rB 3) J.aP) (i9 kq)) AM)) Yb a [.shr (cu fs es),.shr S,.own (.dict (db (jB l))),.own (.list ((l.map (·.1)).map aG)),.shr (.int (j:Nat)),d,m]=.ok (.nx [.shr (cu fs es),.shr S,.own (.dict (db (jB c))),L,M,s,q])
 |_,0,_,_,_,_,_,_,_,_,_,E=>absurd E (jQ _)
 |k,a+1,j,d,m,l,h,z,X,B,Y,E=>by
  have few:=h.few g
  have K:fJ (g2 (rB 4) (cb (J.ah (rB 3) J.aP) (i9 kq)) AM) [.shr (cu fs es),.shr S,.own (.dict (db (jB l))),.own (.list ((l.map (·.1)).map aG)),.shr (.int (j:Nat)),d,m]=.ok (decide (j<l.length)):=by
   left
   simp only [Int.ofNat_lt]
  rw [fK,K]
  by_cases o:j<l.length
  ·rw [decide_eq_true o]
   simp only
   have n:j<(l.map (·.1)).length:=by rw [aq];exact o
   have u:(l.map (·.1))[j]?=some (l.map (·.1))[j]:=aZ n
   have O:((l.map (·.1))[j],l[j].2)∈l:=by
    have:((l.map (·.1))[j],l[j].2)=l[j]:=by rw [lu]
    rw [this]
    exact jm o
   obtain ⟨b1,⟨t,b2⟩,b3,s,q,b4⟩:=W6 g (cu fs es) S j d m h u O es λ_ h=>h
   have N:Yb [.shr (cu fs es),.shr S,.own (.dict (db (jB l))),.own (.list ((l.map (·.1)).map aG)),.shr (.int (j:Nat)),d,m]=.ok (.nx [.shr (cu fs es),.shr S,.own (.dict (db (jB (es.foldl (mM (l.map (·.1))[j] l[j].2) l)))),.own (.list (((es.foldl (mM (l.map (·.1))[j] l[j].2) l).map (·.1)).map aG)),.shr (.int ((j+1:Nat):Int)),s,q]):=by
    unfold Yb
    left
    rw [xq (ds:=es.map eU)]
    ·rw [b4]
     left
     rfl
    ·left
     rw [XZ]
     left
   rw [N]
   obtain ⟨c,P,Q,I,T,G,H,U⟩:=FB g S (k-1) a (j+1) s q _ b1 (PM z (aZ o) (lu (f:=λp:List Str×Int=>p.1) (h:=n)) b3) (by rw [b2,aJ];omega) (λi x y b e he A=>by
    rw [b2,bc] at b
    have w:i<(l.map (·.1)).length:=by rw [aq];omega
    rw [aW w] at b
    by_cases v:i=j
    ·subst v
     rw [u] at b
     cases b
     exact b3 e he A
    ·have:=B i x (by omega) b e he A
     rw [b2,bc]
     exact aN _ this) (by omega) (by omega)
   exact ⟨c,P,Q,I,T,G,H,U⟩
  ·rw [decide_eq_false o]
   simp only
   refine ⟨l,_,_,d,m,⟨h,(show j=l.length by omega) ▸ z⟩,λx u=>?_,rfl⟩
   obtain ⟨i,y,e⟩:=i5 u
   rw [aq] at y
   exact B i x (by omega) (by rw [aZ (by rw [aq];exact y),e])
def LH {fs st:List Str}{es:List dk} (g:el fs es) (hs:tj fs st):∃ l:NZ,(l.map (·.1)).Nodup/\l.length<=64/\(∀ x,x∈l.map (·.1)↔Y8 es st x)/\Yd st es l l.length/\ir [cu fs es,aG st]=.ok (.dict ((.none,.none)::db (jB l))):=by
 have o:Mq fs st es [(st,0)]:=⟨by simp,List.mem_singleton.mpr rfl,λp a=>by rw [List.mem_singleton.mp a];exact hs,λp a=>by rw [List.mem_singleton.mp a];exact ⟨[],λ_ h=>(nomatch h),rfl⟩⟩
 obtain ⟨l,v,w,y,u,⟨c,k⟩,s,t⟩:=FB g (aG st) 65 100000 0 .no .no [(st,0)] o ⟨List.mem_singleton.mpr rfl,λp a=>by rw [List.mem_singleton.mp a];exact ⟨[],λ_ h=>(nomatch h),rfl,rfl⟩,by simp,λp a q j=>by cases a;rw [List.mem_singleton.mp j];show (0:Int)<=0+1;decide,λi p e=>absurd e (jQ _)⟩ (cx _) (λi x e=>absurd e (jQ _)) (by simp) (by decide)
 refine ⟨l,c.nd,c.few g,λx=>⟨c.rch x,?_⟩,k,?_⟩
 ·rintro ⟨f,m,n⟩
  exact ut (M:=λx=>x∈l.map (·.1)) s f st x c.beg m n
 ·unfold ir
  refine cW ?_
  rw [PL]
  unfold ca
  left
  rw [Y6 (x:=st) (d:=.int 0) rfl rfl]
  left
  have b:fK (fJ (g2 (rB 4) (cb (J.ah (rB 3) J.aP) (i9 kq)) AM)) Yb 100000 [.shr (cu fs es),.shr (aG st),.own (.dict (db [(st,.int 0)])),.own (.list [aG st]),.shr (.int 0),.no,.no]=_:=t
  unfold AM at b
  rw [b]
  left
  rw [Y5 c.ne rfl]
  left
def Srv (es:List dk) (st m b:List Str):Prop:=∃ x,Y8 es st x/\cy x m b=true
noncomputable def PN (es:List dk) (st m b:List Str):Bool:=@decide (Srv es st m b) (Ak _)
def PP {es:List dk}{st m b:List Str}:PN es st m b=true↔Srv es st m b:=by
 unfold PN
 exact @decide_eq_true_iff _ (Ak _)
def PH.keys {fs st:List Str}{es:List dk}{l:LZ} (h:PH fs st es l) (x:List Str):x∈l.map (·.1)↔Y8 es st x:=by
 constructor
 ·intro d
  obtain ⟨p,c,rfl⟩:=List.mem_map.mp d
  obtain ⟨b,a,_⟩:=h.ok.row p c
  exact ⟨p.2,b,a⟩
 ·rintro ⟨e,b,a⟩
  exact ut (M:=λx=>x∈l.map (·.1)) h.all e st x (bT (f:=(·.1)) h.ok.beg) b a
def SD {fs st m b:List Str}{es:List dk}{d:List (List Str)} (h:∀ x,x∈d↔Y8 es st x):(d.any λx=>cy x m b)=PN es st m b:=by
 rw [qO,PP,jo]
 constructor
 ·rintro ⟨x,a,c⟩;exact ⟨x,(h x).mp a,c⟩
 ·rintro ⟨x,a,c⟩;exact ⟨x,(h x).mpr a,c⟩
def Ye (es:List dk) (st m b:List Str) (k:Int):Prop:=(∃ a x,(∀ e∈a,e∈es)/\oo a st=some x/\cy x m b=true/\(a.length:Int)=k)/\∀ a x,(∀ e∈a,e∈es)->oo a st=some x->cy x m b=true->k<=(a.length:Int)
def FC {c:Type} (len:c->Int) {l:List (List Str×c)}{es:List dk} (f:∀ p∈l,∀ e∈es,cy p.1 e.needs e.bars=true->∃ q∈l,q.1=br e p.1/\len q.2<=len p.2+1):∀ (b:List dk) (p:List Str×c) (x:List Str),p∈l->(∀ e∈b,e∈es)->oo b p.1=some x->∃ q∈l,q.1=x/\len q.2<=len p.2+b.length
 |[],p,x,d,_,h=>by
  cases h
  exact ⟨p,d,rfl,by simp⟩
 |a::r,p,x,d,he,h=>by
  have h':(if cy p.1 a.needs a.bars then oo r (br a p.1) else none)=some x:=h
  split at h'
  ·rename_i m
   obtain ⟨q,i,j,o⟩:=f p d a (he a ak) m
   rw [<- j] at h'
   obtain ⟨s,g,k,n⟩:=FC len f r q x i (λe h=>he e (ag _ h)) h'
   refine ⟨s,g,k,?_⟩
   rw [aY]
   omega
  ·cases h'
def FD {g:List Str->Bool}{d:List Str}{f:List (List Str)}{q:List Str×List dk}:∀ {l:LZ},(l.Pairwise λp q=>p.2.length<=q.2.length)->(l.map (·.1)).filter g=d::f->q∈l->g q.1=true->(q0 l d).length<=q.2.length
 |[],_,_,c,_=>nomatch c
 |p::t,i,a,c,e=>by
  obtain ⟨k,h⟩:=List.pairwise_cons.mp i
  rw [az] at a
  unfold q0
  rw [bH]
  by_cases b:g p.1=true
  ·rw [Ed b] at a
   rw [decide_eq_true (rQ a).1]
   rcases List.mem_cons.mp c with z|z
   ·subst z;exact aw _
   ·exact k q z
  ·rw [List.filter_cons_of_neg b] at a
   have j:g d=true:=by
    have:d∈(t.map (·.1)).filter g:=by rw [a];exact ak
    exact (List.mem_filter.mp this).2
   rw [decide_eq_false λz=>b (by rw [z];exact j)]
   rcases List.mem_cons.mp c with z|z
   ·subst z;exact (b e).elim
   ·exact FD h a z e
def HN {fs st m b:List Str}{es:List dk}{l:LZ} (g:el fs es) (E:zF fs m b) (n:PH fs st es l) (G:Ya es l) :
  (PN es st m b=false/\mf [.dict ((.none,.none)::db (i6 l)),gg m b]=.ok (.list []))\/∃ p∈l,∃ r:List (List Str),cy p.1 m b=true/\Ye es st m b (p.2.length:Nat)/\mf [.dict ((.none,.none)::db (i6 l)),gg m b]=.ok (.list ((p.1::r).map aG)):=by
 have l1:=e_ E.must g.rise.len
 have X:=e_ E.bars g.rise.len
 have few:=n.ok.few g
 have O:=iT (λx=>cy x m b) (l.map (·.1))
 rw [aq] at O
 have k:∀ {ds:List D},(∀ z,fw (iA 1 [z,.shr (.dict ((.none,.none)::db (i6 l))),.shr (.list (((l.map (·.1)).filter λx=>cy x m b).map aG))] (fJ (g2 (cb (J.ah (g2 (rB 1) (rB 0) An) J.aP) (i9 kq)) (cb (J.ah (g2 (rB 1) (g2 (rB 2) (kI 0) bq) An) J.aP) (i9 kq)) (qA false))) (rS 0)) (((l.map (·.1)).filter λx=>cy x m b).map aG)=.ok ds)->mf [.dict ((.none,.none)::db (i6 l)),gg m b]=.ok (.list ds):=by
  intro ds P
  unfold mf
  refine cW ?_
  unfold sH ca
  left
  rw [Y7]
  left
  rw [Ft,jI]
  left
  rw [if_pos (by omega)]
  rw [fM _ (λx:List Str=>aG x) (λx=>aG x) (λx=>cy x m b) (l.map (·.1)) λx i=>pJ (by
   left
   rw [zG (by omega) (by omega)]
   left) λ_=>rfl]
  left
  rw [if_pos (by omega)]
  rw [show (nr (λx=>aG x) ((l.map (·.1)).filter λx=>cy x m b))=((l.map (·.1)).filter λx=>cy x m b).map aG from rfl,P]
  left
 cases h:(l.map (·.1)).filter (λx=>cy x m b) with
 |nil =>
  apply Or.inl
  refine ⟨?_,k λz=>?_⟩
  ·rw [<- SD (fs:=fs) n.keys]
   refine Bool.eq_false_iff.mpr λH=>?_
   obtain ⟨x,s,w⟩:=List.any_eq_true.mp H
   have:x∈(l.map (·.1)).filter (λx=>cy x m b):=List.mem_filter.mpr ⟨s,w⟩
   rw [h] at this
   cases this
  ·rw [h]
   rfl
 |cons d f =>
  right
  have v:d∈(l.map (·.1)).filter (λx=>cy x m b):=by rw [h];exact ak
  obtain ⟨A,y⟩:=List.mem_filter.mp v
  have B:=vR A
  obtain ⟨M,S,Y⟩:=n.ok.row _ B
  have o:∀ x∈l.map (·.1),An (.dict ((.none,.none)::db (i6 l))) (aG x)=.ok (AT (q0 l x)):=λx i=>by
   have:=HM (l:=i6 l) (by rw [jI];exact n.ok.nd) (zJ (vR i))
   exact this
  have t:bq (.list ((d::f).map aG)) (.int 0)=.ok (aG d):=rW (j:=0) rfl
  refine ⟨(d,q0 l d),B,f.filter λx=>decide (((q0 l x).length:Int)=(q0 l d).length),y,⟨⟨q0 l d,d,M,S,y,rfl⟩,λI x s w K=>?_⟩,k λz=>?_⟩
  ·obtain ⟨q,L,N,U⟩:=FC (λr:List dk=>(r.length:Int)) (λp Q e he T=>by
    obtain ⟨q,a,b,c⟩:=G.cls p Q e he T
    exact ⟨q,a,b,by omega⟩) I (st,[]) x n.ok.beg s w
   have:=FD (q:=q) G.up h L (by rw [N];exact K)
   simp only [cG] at U
   show ((q0 l d).length:Int)<=_
   omega
  ·rw [h]
   have u:∀ x∈d::f,x∈l.map (·.1):=λx i=>(List.mem_filter.mp (by rw [h];exact i)).1
   rw [fM _ (λx:List Str=>aG x) (λx=>aG x) (λx=>decide (((q0 l x).length:Int)=(q0 l d).length)) (d::f) λx i=>pJ (by
    left
    rw [o x (u x i)]
    left
    rw [show (aG d::nr (λx=>aG x) f)=(d::f).map aG from rfl,t]
    left
    rw [o d A]
    left
    rw [kc]
    left) λ_=>rfl]
   rw [Ed (by simp)]
def HP {fs st m b:List Str}{es:List dk} (g:el fs es) (hs:tj fs st) (i:zF fs m b):(PN es st m b=false/\j3 [cu fs es,aG st,gg m b]=.ok .none)\/∃ a x,Row es a/\oo a st=some x/\cy x m b=true/\Ye es st m b (a.length:Nat)/\j3 [cu fs es,aG st,gg m b]=.ok (AT a):=by
 obtain ⟨l,⟨c,n⟩,e⟩:=PK g hs
 have few:=c.ok.few g
 rcases HN g i c n with ⟨d,h⟩|⟨p,hp,r,d,h,h3⟩
 ·refine .inl ⟨d,?_⟩
  unfold j3
  refine cW ?_
  unfold mF ca
  left
  rw [HJ g hs i]
  left
  rw [e]
  left
  rw [h]
  left
  rw [Px (ds:=[]) rfl]
  left
  rfl
 ·obtain ⟨o,q,s⟩:=c.ok.row p hp
  have f:An (.dict ((.none,.none)::db (i6 l))) (aG p.1)=.ok (AT p.2):=HM (l:=i6 l) (by rw [jI];exact c.ok.nd) (zJ hp)
  have k:bq (.list ((p.1::r).map aG)) (.int 0)=.ok (aG p.1):=rW (j:=0) rfl
  refine .inr ⟨p.2,p.1,⟨o,by omega⟩,q,d,h,?_⟩
  unfold j3
  refine cW ?_
  unfold mF ca
  left
  rw [HJ g hs i]
  left
  rw [e]
  left
  rw [h3]
  left
  rw [Px (ds:=(p.1::r).map aG) rfl]
  left
  rw [MH]
  left
  rw [show (aG p.1::nr aG r)=(p.1::r).map aG from rfl,k]
  left
  rw [f]
  left
def W7 {A B C:D} (h:j3 [A,B,C]=.ok .none):tS [A,B,C]=.ok .none:=by
 unfold tS
 refine cW ?_
 unfold Fe ca
 left
 rw [h]
 left
 rw [Uh]
 left
def W8 {A B C:D}{ds:List D} (h:j3 [A,B,C]=.ok (.list ds)):tS [A,B,C]=.ok (.int (ds.length:Nat)):=by
 unfold tS
 refine cW ?_
 unfold Fe ca
 left
 rw [h]
 left
 rw [show CW false (lw ds) rR=.ok (.bool false) from rfl]
 left
def jl (a:List (Str×Int)):List (D×D):=a.map λp=>(aF p.1,bV p.2)
abbrev dL (a:List (Str×Int)):D:=.dict (jl a)
def vS:∀ a:List (Str×Int),eP (jl a)=true
 |[]=>rfl
 |p::a=>by
  have:=vS a
  unfold eP jl at *
  rw [az,oZ,this];rfl
def FE (x:Str):∀ a:List (Str×Int),(ic (jl a) (.str x)).isSome=decide (x∈a.map (·.1))
 |[]=>rfl
 |p::a=>by
  have b:=FE x a
  unfold ic jl at *
  rw [az,bH,az]
  by_cases h:p.1=x
  ·rw [show b9 (aF p.1) (aF x)=true by rw [h];simp [b9]];simp [h]
  ·rw [show b9 (aF p.1) (aF x)=false by simp [b9,h]]
   dsimp only
   rw [b];simp [cF h]
def zL (a:Bool) (x:Str) (b:List (Str×Int)):E6 a (.str x) (dL b)=.ok (.bool (if a then !decide (x∈b.map (·.1)) else decide (x∈b.map (·.1)))):=by
 have:E6 a (.str x) (dL b)=if eP (jl b)=true then .ok (.bool (if a then !(ic (jl b) (.str x)).isSome else (ic (jl b) (.str x)).isSome)) else .no:=rfl
 rw [this,if_pos (vS b),FE]
def FF {a:Type} (f:D->R (List D)) (c:a->D) (h:a->List D):∀ (xs:List a),(∀ x∈xs,f (c x)=.ok (h x))->oT f (xs.map c)=.ok (xs.flatMap h)
 |[],_=>rfl
 |x::r,e=>by
  rw [az];unfold oT
  rw [e x ak,bind_ok,FF f c h r λy b=>e y (ag _ b),bind_ok,MI]
def LI {ρ:aC}{gt a:aC->R Bool}{c:aC->R (List D)}{ge:aC->R D}{d:D}{es e:List D} (f:gt (ρ.set 0 (.shr d))=.ok true) (h:c (ρ.set 0 (.shr d))=.ok es) (g:fw (VG 1 (ρ.set 0 (.shr d)) a ge) es=.ok e):ul 1 ρ gt c a ge d=.ok e:=by
 have:ul 1 ρ gt c a ge d=D1 ((gt (ρ.set 0 (.shr d))).bind λb=>if b then (c (ρ.set 0 (.shr d))).bind λes=>fw (VG 1 (ρ.set 0 (.shr d)) a ge) es else .ok []):=rfl
 rw [this,f,bind_ok,if_pos rfl,h,bind_ok,g];rfl
def Yf {nt:Nat}{ρ:aC}{gt:aC->R Bool}{ge:aC->R D}{d y:D}{b:Bool} (a:gt (ρ.set nt (.shr d))=.ok b) (c:b=true->ge (ρ.set nt (.shr d))=.ok y):VG nt ρ gt ge d=.ok (if b then some y else none):=by
 unfold VG;rw [a,bind_ok]
 cases b with
 |true=>rw [if_pos rfl,c rfl];rfl
 |false=>rfl
def zM (a:List Str) (e:dk):Bool:=e.needs.all λx=>decide (x∈a)
def PQ (a:List Str) (es:List dk):List Str:=(es.filter (zM a)).flatMap λe=>e.makes.filter λx=>!decide (x∈a)
def Yg (fs:List Str) (es:List dk):bq (cu fs es) (.int 1)=.ok (.tuple (es.map eU)):=id rfl
def Yh (e:dk):bq (eU e) (.int 1)=.ok (aG e.needs):=id rfl
def uu (l:List Str) (p:Str->Bool):((l.map p).all id)=l.all p:=by rw [kA];rfl
def W9 {b:List Str}{a:List (Str×Int)}{fs:List Str}{e:dk} (c:b=a.map (·.1)) (d:e.needs.length<=6) (s:Sl) (hs:zi [.shr (eU e),.shr (dL a)] 1=.shr (dL a)) :
  fJ (cb (J.ah (eM 1 [1] (jf (g2 (rB 0) (kI 1) bq)) kT (g2 (rB 0) (rB 1) (E6 false))) J.aP) (i9 (f9 λbs=>bs.all id))) [.shr (eU e),.shr (dL a)]=.ok (zM b e):=by
 subst c
 left
 rw [Yh]
 left
 rw [if_pos (by omega)]
 rw [dA _ (λx:Str=>aF x) (λx=>cB (decide (x∈a.map (·.1)))) e.needs λx f=>eZ (by rfl) (by
  left;rw [zL];rfl)]
 left
 rw [iw]
 left
 rw [uu]
 rfl
def FG (l:List dk) (a:List Str):fc (l.flatMap λe=>(e.makes.filter λx=>!decide (x∈a)).map aF)=some (l.flatMap λe=>e.makes.filter λx=>!decide (x∈a)):=by
 rw [show (l.flatMap λe=>(e.makes.filter λx=>!decide (x∈a)).map aF)=(l.flatMap λe=>e.makes.filter λx=>!decide (x∈a)).map aF by rw [List.map_flatMap],strsOf_map]
def zN (a:List Str):∀ l:List dk,(∀ e∈l,e.makes.length<=6)->(l.flatMap λe=>e.makes.filter λx=>!decide (x∈a)).length<=6*l.length
 |[],_=>aw _
 |e::l,h=>by
  rw [MI,aJ,aY]
  have b:=zN a l λe he=>h e (ag _ he)
  have c:=h e ak
  have d:(e.makes.filter λx=>!decide (x∈a)).length<=e.makes.length:=iT _ _
  omega
def LJ {fs:List Str}{es:List dk}{a:List (Str×Int)} (p:dk->Bool) (f:(es.filter p).length<=6) (b:∀ e∈es,e.makes.length<=6) :
  sk 1 [1] (jf (rB 2)) kT (jf (g2 (rB 0) (kI 3) bq)) (fJ (g2 (rB 1) (rB 2) (E6 true))) (rS 1) [Sl.shr (cu fs es),Sl.shr (dL a),Sl.shr (.list ((es.filter p).map eU))] =
   .ok (cY [] ((es.filter p).flatMap λe=>e.makes.filter λx=>!decide (x∈a.map (·.1)))):=by
 unfold sk
 have c:jf (rB 2) [Sl.shr (cu fs es),Sl.shr (dL a),Sl.shr (.list ((es.filter p).map eU))]=.ok ((es.filter p).map eU):=rfl
 rw [c,bind_ok]
 rw [FF _ eU (λe=>(e.makes.filter λx=>!decide (x∈a.map (·.1))).map aF) (es.filter p) λe he=>LI rfl (show _=R.ok (e.makes.map aF) from rfl) (fM _ (λx:Str=>aF x) (λx=>aF x) (λx=>!decide (x∈a.map (·.1))) e.makes λx d=>Yf (by
   show fJ (g2 (rB 1) (rB 2) (E6 true)) [Sl.shr (eU e),Sl.shr (.str x),Sl.shr (dL a)]=_
   left;rw [zL];rfl) λ_=>rfl)]
 rw [bind_ok,FG]
 dsimp only
 have:=zN (a.map (·.1)) (es.filter p) λe he=>b e (gS.1 he).1
 rw [if_pos (by omega)]
def SE {fs:List Str}{es:List dk}{a:List (Str×Int)} (g:el fs es):fQ [cu fs es,dL a]=.ok (.list ((ju (cY [] (PQ (a.map (·.1)) es))).map .str)):=by
 unfold fQ
 refine cW ?_
 unfold nF ca
 left
 rw [Yg]
 left
 rw [if_pos (by have:=g.len;omega)]
 rw [fM _ eU eU (zM (a.map (·.1))) es λe he=>pJ (W9 (fs:=fs) rfl (e_ (g.ok e he).needs g.rise.len) .no rfl) λ_=>rfl]
 left
 have c:(es.filter (zM (a.map (·.1)))).length<=6:=cn (iT _ _) g.len
 have b:∀ e∈es,e.makes.length<=6:=λe he=>e_ (g.ok e he).makes g.rise.len
 rw [sJ,LJ (zM (a.map (·.1))) c b,bind_ok]
 have f:=zN (a.map (·.1)) (es.filter (zM (a.map (·.1)))) λe he=>b e (gS.1 he).1
 have d:=fk ((es.filter (zM (a.map (·.1)))).flatMap λe=>e.makes.filter λx=>!decide (x∈a.map (·.1))) []
 simp only [cG] at d
 rw [vO _ (by omega)]
 rfl
def DB {x:Str}{k:Int}:∀ {a:List (Str×Int)},x∉a.map (·.1)->og (jl a) (.str x) (.int k)=jl (a++[(x,k)]):=by
 intro a h
 have f:((jl a).any λc=>b9 c.1 (.str x))=false:=by
  rw [oE]
  intro c b
  obtain ⟨p,d,rfl⟩:=cC.1 b
  have:p.1≠x:=λe=>h (cC.2 ⟨p,d,e⟩)
  simp [b9,this]
 unfold og
 rw [f]
 unfold jl
 rw [bc];rfl
def SF {a b m:Sl}{x:Str}{k:Int}{c:List (Str×Int)} (d:c.length<1000) (h:x∉c.map (·.1)) :
  t5 2 (rS 5) (rS 3) [a,b,.own (dL c),.shr (.int k),m,.shr (.str x)]=.ok (.nx [a,b,.own (dL (c++[(x,k)])),.shr (.int k),m,.shr (.str x)]):=by
 have e:t5 2 (rS 5) (rS 3) [a,b,.own (dL c),.shr (.int k),m,.shr (.str x)]=if (jl c).length<1000/\eP (jl c)=true then .ok (.nx [a,b,.own (.dict (og (jl c) (.str x) (.int k))),.shr (.int k),m,.shr (.str x)]) else .no:=rfl
 rw [e,if_pos ⟨by unfold jl;rw [aq];exact d,vS c⟩,DB h]
def FH {kt:D->aC->R aC}{gb:aC->R Fl}{d:D}{r:List D}{ρ ρ1 a:aC} (b:kt d ρ=.ok ρ1) (c:gb ρ1=.ok (.nx a)):jP kt gb (d::r) ρ=jP kt gb r a:=by
 rw [jP,b];simp only [c]
def FI {a b m:Sl}{k:Int}:∀ (xs:List Str) (c:List (Str×Int)) (s:Sl),xs.Nodup->(∀ x∈xs,x∉c.map (·.1))->c.length+xs.length<1000 ->
  ∃ s',jP (b_ 5) (t5 2 (rS 5) (rS 3)) (xs.map aF) [a,b,.own (dL c),.shr (.int k),m,s]=.ok (.nx [a,b,.own (dL (c++xs.map λx=>(x,k))),.shr (.int k),m,s'])
 |[],c,s,_,_,_=>⟨s,by rw [d_,d_,bN];rfl⟩
 |x::xs,c,s,g,f,i=>by
  obtain ⟨j,l⟩:=dS.1 g
  rw [aY] at i
  obtain ⟨s',e⟩:=FI (a:=a) (b:=b) (m:=m) (k:=k) xs (c++[(x,k)]) (.shr (.str x)) l (λy d=>by
   rw [bc,eu]
   rintro (h|h)
   ·exact f y (ag _ d) h
   ·rw [show y=x by simpa using h] at d;exact j d) (by rw [aJ,dC];omega)
  refine ⟨s',?_⟩
  rw [az,FH (ρ1:=[a,b,.own (dL c),.shr (.int k),m,.shr (.str x)]) rfl (SF (by omega) (f x ak)),e,az,fB]
  rfl
def SG (xs:List Str):n5 (.list (xs.map aF))=true:=yw _ (λ_=>rfl) xs
def FJ {fs:List Str}{es:List dk}{a:List (Str×Int)}{b c d e:Sl} (g:el fs es) :
  F6 n5 2 fQ (J.ah (rS 0) (J.ah (BR 2) J.aP)) [.shr (cu fs es),b,.own (dL a),c,d,e]=.ok (.list ((ju (cY [] (PQ (a.map (·.1)) es))).map .str)):=by
 have h:F6 n5 2 fQ (J.ah (rS 0) (J.ah (BR 2) J.aP)) [.shr (cu fs es),b,.own (dL a),c,d,e]=Zw n5 (fQ [cu fs es,dL a]):=rfl
 rw [h,SE g]
 show (if n5 _=true then _ else _)=_
 rw [if_pos (SG _)]
def gL (es:List dk) (a:List Str):List Str:=Dt (PQ a es)
def SH {c:List Str}{es:List dk}{x:Str}:x∈PQ c es↔∃ e∈es,zM c e=true/\x∈e.makes/\x∉c:=by
 unfold PQ
 rw [List.mem_flatMap]
 constructor
 ·rintro ⟨e,he,g⟩
  obtain ⟨a,f⟩:=gS.1 he
  obtain ⟨b,d⟩:=gS.1 g
  exact ⟨e,a,f,b,by simpa using d⟩
 ·rintro ⟨e,a,f,b,d⟩
  exact ⟨e,gS.2 ⟨a,f⟩,gS.2 ⟨b,by simpa using d⟩⟩
def oW {a:List Str}{es:List dk}{x:Str}:x∈gL es a↔∃ e∈es,zM a e=true/\x∈e.makes/\x∉a:=by
 unfold gL;rw [l_];exact SH
def DC (es:List dk) (a:List Str):(gL es a).Nodup:=gK (Du _)
def tm (es:List dk):Nat->List (Str×Int)->Int->List (Str×Int)
 | 0,a,_=>a
 |n+1,a,k=>if gL es (a.map (·.1))=[] then a else tm es n (a++(gL es (a.map (·.1))).map λx=>(x,k)) (k+1)
structure mO (fs:List Str) (ls:List (Str×Int)):Prop where
 nd:(ls.map (·.1)).Nodup
 sub:∀ x∈ls.map (·.1),x∈fs
def mO.len {fs:List Str}{a:List (Str×Int)} (h:mO fs a):a.length<=fs.length:=by
 have:=uq _ _ h.nd h.sub;rwa [aq] at this
def mO.more {fs:List Str}{es:List dk}{c:List (Str×Int)} (g:el fs es) (h:mO fs c) (k:Int):mO fs (c++(gL es (c.map (·.1))).map λx=>(x,k)):=by
 have e:(c++(gL es (c.map (·.1))).map λx=>(x,k)).map (·.1)=c.map (·.1)++gL es (c.map (·.1)):=by
  rw [bc,cm]
  exact congrArg _ ((cX λ_ _=>rfl).trans (oJ _))
 refine ⟨?_,?_⟩
 ·rw [e,oH]
  refine ⟨h.nd,DC _ _,λa i b l z=>?_⟩
  subst z
  obtain ⟨_,_,_,_,j⟩:=oW.1 l
  exact j i
 ·rw [e]
  intro x d
  rcases eu.1 d with d|d
  ·exact h.sub x d
  ·obtain ⟨e,he,_,f,_⟩:=oW.1 d
   exact (g.ok e he).makes.mem x f
def YC:aC->R Fl:=aO (qt 4 (b_ 5) (t5 2 (rS 5) (rS 3))) (aO (Lc 3 (kI 1)) (eC 4 (F6 n5 2 fQ (J.ah (rS 0) (J.ah (BR 2) J.aP)))))
def PR:k9=aO (fv 2 (pK 1 [] (jf (rB 1)) kT (rS 0) (kI 0))) (aO (eC 3 (kI 1)) (aO (eC 4 (F6 n5 2 fQ (J.ah (rS 0) (J.ah (BR 2) J.aP)))) (aO (fK (uj (rB 4)) YC 100000) (ef (rS 2))))):=rfl
abbrev Ui (fs:List Str) (es:List dk) (S:D) (a:List (Str×Int)) (k:Int) (s:Sl):aC:=[.shr (cu fs es),.shr S,.own (dL a),.shr (.int k),.shr (.list ((gL es (a.map (·.1))).map .str)),s]
def SJ {fs:List Str}{es:List dk}{S:D}{c:List (Str×Int)}{k:Int}{s:Sl} (g:el fs es) (h:mO fs c) :
  ∃ s',YC (Ui fs es S c k s)=.ok (.nx (Ui fs es S (c++(gL es (c.map (·.1))).map λx=>(x,k)) (k+1) s')):=by
 have t:=h.len;have p:=g.rise.len
 have q:(gL es (c.map (·.1))).length<=fs.length:=uq _ _ (DC _ _) λx f=>by
  obtain ⟨e,he,_,j,_⟩:=oW.1 f
  exact (g.ok e he).makes.mem x j
 obtain ⟨s',e⟩:=FI (a:=.shr (cu fs es)) (b:=.shr S) (m:=.shr (.list ((gL es (c.map (·.1))).map .str))) (k:=k) (gL es (c.map (·.1))) c s (DC _ _) (λx f=>by
  obtain ⟨_,_,_,_,l⟩:=oW.1 f;exact l) (by omega)
 refine ⟨s',?_⟩
 have n:qt 4 (b_ 5) (t5 2 (rS 5) (rS 3)) (Ui fs es S c k s)=jP (b_ 5) (t5 2 (rS 5) (rS 3)) ((gL es (c.map (·.1))).map aF) (Ui fs es S c k s):=rfl
 have o:∀ m,Lc 3 (kI 1) [.shr (cu fs es),.shr S,.own (dL m),.shr (.int k),.shr (.list ((gL es (c.map (·.1))).map .str)),s']=.ok (.nx [.shr (cu fs es),.shr S,.own (dL m),.shr (.int (k+1)),.shr (.list ((gL es (c.map (·.1))).map .str)),s']):=λm=>rfl
 have i:∀ (a b:aC->R Fl) (ρ d:aC),a ρ=.ok (.nx d)->aO a b ρ=b d:=λa b ρ d h=>by unfold aO;rw [h];rfl
 unfold YC
 rw [i _ _ _ _ (n.trans e),i _ _ _ _ (o _)]
 unfold eC
 rw [FJ g]
 rfl
def zO {fs:List Str}{es:List dk}{S:D}{a:List (Str×Int)}{k:Int}{s:Sl}:uj (rB 4) (Ui fs es S a k s)=.ok (!(gL es (a.map (·.1))).isEmpty):=by
 have:uj (rB 4) (Ui fs es S a k s)=.ok (!((gL es (a.map (·.1))).map aF).isEmpty):=rfl
 rw [this];cases gL es (a.map (·.1))<;>rfl
def C7 {fs:List Str}{es:List dk}{a:List (Str×Int)} (g:el fs es) (h:mO fs a) (b:gL es (a.map (·.1))≠[]):a.length+(gL es (a.map (·.1))).length<=fs.length/\0<(gL es (a.map (·.1))).length:=by
 have:=(h.more g 0).len
 rw [aJ,aq] at this
 exact ⟨this,Ku.2 b⟩
def SK {t:aC->R Bool}{b:aC->R Fl}{n:Nat}{ρ a:aC} (c:t ρ=.ok true) (d:b ρ=.ok (.nx a)):fK t b (n+1) ρ=fK t b n a:=by
 rw [fK,c];simp only [d]
def K6 {t:aC->R Bool}{b:aC->R Fl}{n:Nat}{ρ:aC} (a:t ρ=.ok false):fK t b (n+1) ρ=.ok (.nx ρ):=by
 rw [fK,a]
def FK {fs:List Str}{es:List dk}{S:D} (g:el fs es):∀ (n N:Nat) (a:List (Str×Int)) (k:Int) (s:Sl),mO fs a->fs.length-a.length<=n->n<N ->
  ∃ d p s',fK (uj (rB 4)) YC N (Ui fs es S a k s)=.ok (.nx [.shr (cu fs es),.shr S,.own (dL (tm es n a k)),d,p,s'])
 |n,0,_,_,_,_,_,c=>absurd c (jQ _)
 | 0,N+1,a,k,s,h,j,c=>by
  by_cases b:gL es (a.map (·.1))=[]
  ·exact ⟨_,_,_,K6 (by rw [zO,b];rfl)⟩
  ·have:=C7 g h b;omega
 |n+1,N+1,a,k,s,h,j,c=>by
  by_cases b:gL es (a.map (·.1))=[]
  ·rw [tm,if_pos b]
   exact ⟨_,_,_,K6 (by rw [zO,b];rfl)⟩
  ·have q:=C7 g h b
   obtain ⟨s',e⟩:=SJ (S:=S) (k:=k) (s:=s) g h
   obtain ⟨l,o,i,f⟩:=FK (S:=S) g n N _ (k+1) s' (h.more g k) (by rw [aJ,aq];omega) (by omega)
   refine ⟨l,o,i,?_⟩
   rw [SK (by rw [zO];cases m:gL es (a.map (·.1)) with|nil=>exact absurd m b|cons=>rfl) e,f,tm,if_neg b]
def K7:∀ (xs:List Str) (a:List (Str×Int)),xs.Nodup->(∀ x∈xs,x∉a.map (·.1))->(xs.map λx=>dD [.str x,.int 0]).foldl Vz (jl a)=jl (a++xs.map λx=>(x,(0:Int)))
 |[],a,_,_=>by rw [d_,d_,bN];rfl
 |x::xs,a,d,c=>by
  obtain ⟨f,g⟩:=dS.1 d
  rw [az,cH]
  have e:Vz (jl a) (.tuple [.str x,.int 0])=jl (a++[(x,0)]):=DB (c x ak)
  rw [e,K7 xs (a++[(x,0)]) g (λy b=>by
   rw [bc,eu]
   rintro (h|h)
   ·exact c y (ag _ b) h
   ·rw [show y=x by simpa using h] at b;exact f b),az,fB]
  rfl
def PU {B:Sl}{ss:List Str} (a:ss.Nodup) (c:ss.length<=1000) (r:aC):pK 1 [] (jf (rB 1)) kT (rS 0) (kI 0) (B::.shr (aG ss)::r)=.ok (dL (ss.map λx=>(x,0))):=by
 unfold pK
 have b:jf (rB 1) (B::.shr (aG ss)::r)=.ok (ss.map aF):=rfl
 rw [b,bind_ok,if_pos (by rw [aq];exact c)]
 rw [dA _ (λx:Str=>aF x) (λx=>dD [.str x,.int 0]) ss λx d=>eZ rfl rfl,bind_ok]
 unfold Wj
 rw [show ([] : List (D×D))=jl [] from rfl,K7 ss [] a (λx _ h=>nomatch h),jN]
def qv {fs ss:List Str}{es:List dk} (g:el fs es) (h:tj fs ss):gf [cu fs es,aG ss]=.ok (dL (tm es 6 (ss.map λx=>(x,0)) 1)):=by
 have f:=gK h.up
 have i:(ss.map λx=>(x,(0:Int))).map (·.1)=ss:=by
  rw [cm];exact (cX λ_ _=>rfl).trans (oJ _)
 have j:mO fs (ss.map λx=>(x,(0:Int))):=⟨by rw [i];exact f,by rw [i];exact h.mem⟩
 have k:=g.rise.len
 have d:∀ (a b:aC->R Fl) (ρ c:aC),a ρ=.ok (.nx c)->aO a b ρ=b c:=λa b ρ c h=>by unfold aO;rw [h];rfl
 unfold gf
 refine cW ?_
 rw [PR]
 show aO _ _ [.shr (cu fs es),.shr (aG ss),.no,.no,.no,.no]=_
 rw [d _ _ _ [.shr (cu fs es),.shr (aG ss),.own (dL (ss.map λx=>(x,0))),.no,.no,.no] (by unfold fv;rw [PU f (by have:=uq _ _ f h.mem;omega)];rfl)]
 rw [d _ _ _ [.shr (cu fs es),.shr (aG ss),.own (dL (ss.map λx=>(x,0))),.shr (.int 1),.no,.no] rfl]
 rw [d _ _ _ (Ui fs es (aG ss) (ss.map λx=>(x,0)) 1 .no) (by unfold eC;rw [FJ g];rfl)]
 obtain ⟨l,m,s',e⟩:=FK (S:=aG ss) g 6 100000 _ 1 .no j (by omega) (by decide)
 rw [d _ _ _ _ e]
 rfl
def DD {fs:List Str}{es:List dk} (g:el fs es):∀ (n:Nat) (a:List (Str×Int)) (k:Int),mO fs a->mO fs (tm es n a k)
 | 0,_,_,h=>h
 |n+1,a,k,h=>by
  rw [tm]
  split
  ·exact h
  ·exact DD g n _ _ (h.more g k)
def PV:∀ {a:List (Str×Int)},(a.map (·.1)).Nodup->a.Nodup
 |[],_=>eV
 |p::a,h=>by
  rw [az] at h
  obtain ⟨b,d⟩:=dS.1 h
  exact dS.2 ⟨λc=>b (cC.2 ⟨p,c,rfl⟩),PV d⟩
def LK (a:List (Str×Int)):((jl a).map λp=>dD [p.1,p.2])=a.map Gu:=by
 unfold jl;rw [cm];rfl
def LL {a:List (Str×Int)} (h:a.Nodup) (b:a.length<=63):yt (dL a)=.ok (.list ((ig a).map Gu)):=by
 have e:yt (dL a)=match xv ((jl a).map λp=>dD [p.1,p.2]) with
  |some c=>yr c
  |none=>.no:=rfl
 rw [e,LK,BY]
 dsimp only
 unfold yr
 rw [if_pos ⟨h,b⟩]
def LM {fs ss:List Str}{es:List dk} (g:el fs es) (h:tj fs ss):mE [cu fs es,aG ss]=.ok (.list ((ig (tm es 6 (ss.map λx=>(x,0)) 1)).map Gu)):=by
 have i:=gK h.up
 have d:(ss.map λx=>(x,(0:Int))).map (·.1)=ss:=by
  rw [cm];exact (cX λ_ _=>rfl).trans (oJ _)
 have j:mO fs (ss.map λx=>(x,(0:Int))):=⟨by rw [d];exact i,by rw [d];exact h.mem⟩
 have ok:=DD g 6 _ 1 j
 have l:=g.rise.len
 have m:=ok.len
 have f:∀ (a b:aC->R Fl) (ρ c:aC),a ρ=.ok (.nx c)->aO a b ρ=b c:=λa b ρ c h=>by unfold aO;rw [h];rfl
 unfold mE
 refine cW ?_
 unfold vL
 show aO _ _ [.shr (cu fs es),.shr (aG ss)]=_
 have e:fO 2 gU (J.ah (rS 0) (J.ah (rS 1) J.aP)) [.shr (cu fs es),.shr (aG ss)]=gU [cu fs es,aG ss]:=rfl
 rw [f _ _ _ [.shr (cu fs es),.shr (aG ss)] (by unfold rh;rw [e,Fp g h];rfl)]
 unfold ef Dk
 have k:fO 2 gf (J.ah (rS 0) (J.ah (rS 1) J.aP)) (fE [.shr (cu fs es),.shr (aG ss)])=gf [cu fs es,aG ss]:=rfl
 rw [k,qv g h,bind_ok,LL (PV ok.nd) (by omega),bind_ok]
def YD (es:List dk) (L:List (Str×Int)):Prop:=∀ e∈es,∀ l:Int,0<=l->(∀ x∈e.needs,∃ j,(x,j)∈L/\j<=l)->∀ y∈e.makes,∃ j,(y,j)∈L/\j<=l+1
structure HQ (es:List dk) (ls:List (Str×Int)) (k:Int):Prop where
 lo:∀ p∈ls,0<=p.2/\p.2<k
 cl:∀ e∈es,∀ l:Int,0<=l->l+1<k->(∀ x∈e.needs,∃ j,(x,j)∈ls/\j<=l)->∀ y∈e.makes,∃ j,(y,j)∈ls/\j<=l+1
def PX {a:List (Str×Int)}{e:dk}{l:Int} (h:∀ x∈e.needs,∃ j,(x,j)∈a/\j<=l):zM (a.map (·.1)) e=true:=by
 unfold zM
 rw [bA]
 intro x c
 obtain ⟨j,b,_⟩:=h x c
 exact decide_eq_true (cC.2 ⟨_,b,rfl⟩)
def HR {a:List (Str×Int)}{y:Str} (h:y∈a.map (·.1)):∃ j,(y,j)∈a:=by
 obtain ⟨p,b,e⟩:=cC.1 h
 exact ⟨p.2,by rw [<- e];exact b⟩
def HQ.fin {es:List dk}{a:List (Str×Int)}{k:Int} (h:HQ es a k) (f:gL es (a.map (·.1))=[]):YD es a:=by
 intro e he l g d y b
 by_cases i:l+1<k
 ·exact h.cl e he l g i d y b
 ·have b:y∈a.map (·.1):=Decidable.byContradiction λz=>by
   have:y∈gL es (a.map (·.1)):=oW.2 ⟨e,he,PX d,b,z⟩
   rw [f] at this
   cases this
  obtain ⟨j,c⟩:=HR b
  have:=h.lo _ c
  exact ⟨j,c,by dsimp only at this;omega⟩
def HQ.more {es:List dk}{b:List (Str×Int)}{k:Int} (h:HQ es b k) (u:0<=k):HQ es (b++(gL es (b.map (·.1))).map λx=>(x,k)) (k+1):=by
 refine ⟨λp o=>?_,λe he l s t d y m=>?_⟩
 ·rcases eu.1 o with z|z
  ·have:=h.lo p z;omega
  ·obtain ⟨x,_,rfl⟩:=cC.1 z
   dsimp only;omega
 ·have d:∀ x∈e.needs,∃ j,(x,j)∈b/\j<=l:=λx q=>by
   obtain ⟨j,f,g⟩:=d x q
   rcases eu.1 f with z|z
   ·exact ⟨j,z,g⟩
   ·obtain ⟨a,_,e⟩:=cC.1 z
    cases e
    omega
  by_cases i:l+1<k
  ·obtain ⟨j,f,g⟩:=h.cl e he l s i d y m
   exact ⟨j,aN _ f,g⟩
  ·by_cases c:y∈b.map (·.1)
   ·obtain ⟨j,n⟩:=HR c
    have:=h.lo _ n
    exact ⟨j,aN _ n,by dsimp only at this;omega⟩
   ·exact ⟨k,al _ (cC.2 ⟨y,oW.2 ⟨e,he,PX d,m,c⟩,rfl⟩),by omega⟩
def FL {fs:List Str}{es:List dk} (g:el fs es):∀ (n:Nat) (a:List (Str×Int)) (k:Int),mO fs a->HQ es a k->0<=k->fs.length-a.length<=n ->
  YD es (tm es n a k)/\(∀ p∈tm es n a k,0<=p.2)/\∀ p∈a,p∈tm es n a k
 |n,a,k,ok,h,m,f=>by
  by_cases d:gL es (a.map (·.1))=[]
  ·have e:tm es n a k=a:=by cases n with
    |zero=>rfl
    |succ n=>rw [tm,if_pos d]
   rw [e]
   exact ⟨h.fin d,λp c=>(h.lo p c).1,λp c=>c⟩
  ·have b:=ok.more g k
   have o:=b.len
   rw [aJ,aq] at o
   have q:=Ku.2 d
   match n,f with
   | 0,f=>omega
   |n+1,f =>
    obtain ⟨i,l,j⟩:=FL g n _ (k+1) b (h.more m) (by omega) (by rw [aJ,aq];omega)
    rw [tm,if_neg d]
    exact ⟨i,l,λp c=>j p (aN _ c)⟩
def DE {es:List dk}{L:List (Str×Int)} (C:YD es L):∀ (g:List dk) (st x:List Str) (l:Int),0<=l->(∀ e∈g,e∈es)->(∀ f∈st,∃ j,(f,j)∈L/\j<=l)->oo g st=some x->∀ f∈x,∃ j,(f,j)∈L/\j<=l+g.length
 |[],st,x,l,_,_,hs,h=>by
  cases h
  intro f c
  obtain ⟨j,b,d⟩:=hs f c
  exact ⟨j,b,by simpa using d⟩
 |a::r,st,x,l,m,he,hs,h=>by
  have h':(if cy st a.needs a.bars then oo r (br a st) else none)=some x:=h
  split at h'
  ·rename_i i
   have i:=(C5.1 i).1
   have:=DE C r (br a st) x (l+1) (by omega) (λe h=>he e (ag _ h)) (λf c=>by
    rcases zI.1 c with z|z
    ·obtain ⟨j,b,d⟩:=hs f z.1
     exact ⟨j,b,by omega⟩
    ·exact C a (he a ak) l m (λx k=>hs x (i x k)) f z) h'
   intro f c
   obtain ⟨j,b,d⟩:=this f c
   exact ⟨j,b,by rw [aY];omega⟩
  ·cases h'
abbrev nc (es:List dk) (ss:List Str):List (Str×Int):=tm es 6 (ss.map λx=>(x,0)) 1
structure Uj (fs ss:List Str) (es:List dk) (L:List (Str×Int)):Prop where
 key:mO fs L
 clo:YD es L
 pos:∀ p∈L,0<=p.2
 beg:∀ x∈ss,(x,(0:Int))∈L
def ZJ {fs ss:List Str}{es:List dk} (g:el fs es) (h:tj fs ss):Uj fs ss es (nc es ss):=by
 have i:=gK h.up
 have b:(ss.map λx=>(x,(0:Int))).map (·.1)=ss:=by
  rw [cm];exact (cX λ_ _=>rfl).trans (oJ _)
 have c:mO fs (ss.map λx=>(x,(0:Int))):=⟨by rw [b];exact i,by rw [b];exact h.mem⟩
 have n:=g.rise.len
 have a:HQ es (ss.map λx=>(x,(0:Int))) 1:=⟨λp a=>by
  obtain ⟨x,_,rfl⟩:=cC.1 a
  dsimp only;omega,λe he l o m=>by omega⟩
 obtain ⟨d,j,f⟩:=FL g 6 _ 1 c a (by decide) (by omega)
 exact ⟨DD g 6 _ 1 c,d,j,λx k=>f _ (cC.2 ⟨x,k,rfl⟩)⟩
def mP (a:List (Str×Int)) (x:Str):Int:=((a.find? λp=>decide (p.1=x)).map (·.2)).getD 0
def zP:∀ {b:List (Str×Int)}{x:Str}{v:Int},(b.map (·.1)).Nodup->(x,v)∈b->mP b x=v
 |p::b,x,v,c,h=>by
  rw [az] at c
  obtain ⟨d,e⟩:=dS.1 c
  unfold mP
  rw [bH]
  by_cases a:p.1=x
  ·rw [decide_eq_true a]
   rcases aQ.1 h with z|z
   ·rw [<- z];rfl
   ·exact absurd (by rw [a];exact cC.2 ⟨_,z,rfl⟩) d
  ·rw [decide_eq_false a]
   exact zP e ((aQ.1 h).resolve_left λz=>a (by rw [<- z]))
def FM (x:Str):∀ a:List (Str×Int),x∈a.map (·.1)->ic (jl a) (.str x)=some (.int (mP a x))
 |p::a,b=>by
  have c:=FM x a
  unfold ic jl mP at *
  rw [az,bH,bH]
  by_cases h:p.1=x
  ·rw [show b9 (aF p.1) (aF x)=true by rw [h];simp [b9],decide_eq_true h];rfl
  ·rw [show b9 (aF p.1) (aF x)=false by simp [b9,h],decide_eq_false h]
   dsimp only
   rw [az] at b
   exact c ((aQ.1 b).resolve_left λz=>h z.symm)
def PY {x:Str}{a:List (Str×Int)} (h:x∈a.map (·.1)):bq (dL a) (.str x)=.ok (.int (mP a x)):=by
 have:bq (dL a) (.str x)=if eP (jl a)=true then (match ic (jl a) (.str x) with
  |some d=>.ok d
  |none=>.no) else .no:=rfl
 rw [this,if_pos (vS a),FM x a h]
def C8:∀ a:List (Str×Int),ny (a.map Gu)=some (a.map λp=>(i7 p.1,bV p.2))
 |[]=>rfl
 |p::a=>by
  have:ny ((p::a).map Gu)=(ny (a.map Gu)).map ((i7 p.1,bV p.2)::·):=rfl
  rw [this,C8 a];rfl
def FO:∀ (c b:List (Str×Int)),((b++c).map (·.1)).Nodup->(c.map λp=>((i7 p.1:dQ),bV p.2)).foldl (λa p=>og a (kD p.1) p.2) (jl b)=jl (b++c)
 |[],b,_=>by rw [bN];rfl
 |p::c,b,d=>by
  have h:p.1∉b.map (·.1):=λz=>by
   rw [bc,az,oH] at d
   exact d.2.2 _ z _ ak rfl
  have f:(((b++[(p.1,p.2)])++c).map (·.1)).Nodup:=by rw [fB];exact d
  rw [az,cH]
  have e:og (jl b) (kD (i7 p.1)) (.int p.2)=jl (b++[(p.1,p.2)]):=DB h
  rw [e,FO c _ f,fB]
  rfl
def PZ {a:List (Str×Int)} (b:(a.map (·.1)).Nodup) (c:a.length<=1000):vE (.list (a.map Gu))=.ok (dL a):=by
 unfold vE
 dsimp only
 rw [if_pos (by rw [aq];exact c),C8]
 dsimp only
 rw [show ([] : List (D×D))=jl [] from rfl,FO a [] (by simpa using b),jN]
def SL {a:List Int}{n:Int} (h:∀ v∈a,v<=n) (b:0<=n):oS a<=n:=by
 cases a with
 |nil=>exact b
 |cons x r=>exact h _ (zt r x).1
def Wa {a:List Int} (h:∀ v∈a,0<=v):oS (0::a)=oS a:=by
 cases a with
 |nil=>rfl
 |cons x r =>
  show (x::r).foldl max 0=_
  rw [cH,QO (h x ak)]
  rfl
def Yi (a:List Int):HE (.list (a.map .int))=.ok (.int (oS a)):=by
 unfold HE
 simp only [uk]
def Yj (a:List Int) (h:∀ v∈a,0<=v):Hz (.list (.int 0::a.map .int))=.ok (.int (oS a)):=by
 have e:oj (.int 0::a.map .int)=some (0::a):=uk (0::a)
 unfold Hz
 simp only [e,aY,Nat.zero_lt_succ,if_true,Wa h]
def qU:Option Int->D
 |none=>.none
 |some i=>.int i
def hZ (L:List (Str×Int)) (ss m b:List Str):Option Int:=if (m.all λx=>decide (x∈L.map (·.1)))=true then some (if oS (m.map (mP L))=0/\(b.any λx=>decide (x∈ss))=true then 1 else oS (m.map (mP L))) else none
def SM {fs ss m b:List Str}{es:List dk} (g:el fs es) (h:tj fs ss) (w:zF fs m b):um [cu fs es,aG ss,gg m b]=.ok (qU (hZ (nc es ss) ss m b)):=by
 have k:=e_ w.must g.rise.len
 have i:=e_ w.bars g.rise.len
 have c:=qv g h
 generalize f:nc es ss=L
 rw [show tm es 6 (ss.map λx=>(x,0)) 1=L from f] at c
 unfold um
 refine cW ?_
 unfold Dm ca
 left
 rw [HJ g h w]
 left
 rw [show Oq (my 2 (da (b_ 3) (da (b_ 4) o8))) [Sl.shr (cu fs es),Sl.shr (aG ss),Sl.shr (gg m b),Sl.no,Sl.no,Sl.no,Sl.no] (gg m b)=.ok (.nx [Sl.shr (cu fs es),Sl.shr (aG ss),Sl.shr (gg m b),Sl.shr (aG m),Sl.shr (aG b),Sl.no,Sl.no]) from rfl]
 left
 rw [c]
 left
 rw [if_pos (by omega)]
 rw [dA _ (λx:Str=>aF x) (λx=>cB (decide (x∈L.map (·.1)))) m λx d=>eZ (by rfl) (by
  left;rw [zL];rfl)]
 left
 rw [iw]
 left
 rw [uu]
 unfold hZ
 cases e:(m.all λx=>decide (x∈L.map (·.1))) with
 |false =>
  left
  rfl
 |true =>
  left
  rw [if_pos (by omega)]
  rw [dA _ (λx:Str=>aF x) (λx=>bV (mP L x)) m λx d=>eZ (by rfl) (by
   left;rw [PY (of_decide_eq_true (bA.1 e x d))])]
  left
  rw [show (m.map λx=>bV (mP L x))=(m.map (mP L)).map bV by rw [cm];rfl,Yi]
  left
  rw [kc]
  left
  by_cases a:oS (m.map (mP L))=0
  ·rw [decide_eq_true a]
   left
   rw [Fo (by omega)]
   left
   cases j:(b.any λx=>decide (x∈ss)) with
   |true =>
    left
    rw [if_pos ⟨a,by first|trivial|rfl⟩]
    rfl
   |false =>
    left
    rw [if_neg λz=>nomatch z.2]
    rfl
  ·rw [decide_eq_false a]
   left
   rw [if_neg λz=>a z.1]
   rfl
def Wb:aC->R Fl:=g9 (fJ (cb (J.ah (eM 1 [4] (jf (g2 (rB 3) (kI 0) bq)) kT (g2 (rB 0) (rB 1) (E6 false))) J.aP) (i9 (f9 λbs=>bs.all id)))) (aO (eC 6 (cb (J.ah (g2 (g6 (J.ah (kI 0) J.aP) .list) (eM 1 [4] (jf (g2 (rB 3) (kI 0) bq)) kT (g2 (rB 1) (rB 0) bq)) eJ) J.aP) (i9 Hz))) (g9 (vt (fJ (g2 (rB 6) (kI 0) (qA false))) (fJ (cb (J.ah (eM 1 [2] (jf (g2 (rB 3) (kI 1) bq)) kT (g2 (rB 0) (rB 1) (CY false))) J.aP) (i9 (f9 λbs=>bs.any id))))) (eC 6 (kI 1)) (λρ=>.ok (.nx ρ)))) (λρ=>.ok (.nx ρ))
def SO {S B t:D}{ss m b:List Str}{L:List (Str×Int)} (i:m.length<=6) (g:b.length<=6) (d:∀ x∈m,0<=mP L x) :
  Wb [.shr S,.shr B,.shr (aG ss),.shr (gg m b),.own (dL L),.shr t,.shr .none,.no,.no,.no]=.ok (.nx [.shr S,.shr B,.shr (aG ss),.shr (gg m b),.own (dL L),.shr t,.shr (qU (hZ L ss m b)),.no,.no,.no]):=by
 unfold Wb
 left
 rw [VW]
 left
 rw [if_pos (by omega)]
 rw [dA _ (λx:Str=>aF x) (λx=>cB (decide (x∈L.map (·.1)))) m λx a=>eZ (by rfl) (by
  left;rw [zL];rfl)]
 left
 rw [iw]
 left
 rw [uu]
 unfold hZ
 cases e:(m.all λx=>decide (x∈L.map (·.1))) with
 |false =>
  left
  rfl
 |true =>
  left
  rw [VW]
  left
  rw [if_pos (by omega)]
  rw [dA _ (λx:Str=>aF x) (λx=>bV (mP L x)) m λx a=>eZ (by rfl) (by
   left;rw [PY (of_decide_eq_true (bA.1 e x a))])]
  left
  rw [if_pos (by omega),show (m.map λx=>bV (mP L x))=(m.map (mP L)).map bV by rw [cm];rfl]
  left
  rw [Yj _ λv f=>by
   obtain ⟨x,a,rfl⟩:=cC.1 f
   exact d x a]
  left
  rw [kc]
  left
  by_cases c:oS (m.map (mP L))=0
  ·rw [decide_eq_true c]
   left
   rw [Y1]
   left
   rw [if_pos (by omega)]
   rw [dA _ (λx:Str=>aF x) (λx=>cB (decide (x∈ss))) b λx a=>eZ rfl (by
    left
    rw [pZ]
    rfl)]
   left
   rw [iw _ (λx=>decide (x∈ss))]
   left
   rw [qF,show (id∘λx=>decide (x∈ss))=λx=>decide (x∈ss) from rfl]
   cases h:(b.any λx=>decide (x∈ss)) with
   |true =>
    left
    rw [if_pos ⟨c,by first|trivial|rfl⟩]
    rfl
   |false =>
    left
    rw [if_neg λz=>nomatch z.2]
    rfl
  ·rw [decide_eq_false c]
   left
   rw [if_neg λz=>c z.1]
   rfl
def P_ {L a:List (Str×Int)}{ss m b:List Str} (g:(L.map (·.1)).Nodup) (p:a.Perm L):hZ a ss m b=hZ L ss m b:=by
 have d:(a.map (·.1)).Nodup:=(p.map (·.1)).nodup_iff.2 g
 have i:∀ x,x∈a.map (·.1)↔x∈L.map (·.1):=λx=>(p.map (·.1)).mem_iff
 have e:(λx=>decide (x∈a.map (·.1)))=λx=>decide (x∈L.map (·.1)):=funext λx=>by simp only [i x]
 unfold hZ
 rw [e]
 by_cases c:(m.all λx=>decide (x∈L.map (·.1)))=true
 ·have h:m.map (mP a)=m.map (mP L):=cX λx k=>by
   obtain ⟨j,f⟩:=HR (of_decide_eq_true (bA.1 c x k))
   rw [zP g f,zP d (p.mem_iff.2 f)]
  rw [h]
 ·rw [if_neg c,if_neg c]
def SQ {fs ss m b x:List Str}{es c:List dk}{L:List (Str×Int)} (k:Uj fs ss es L) (l:∀ e∈c,e∈es) (h:oo c ss=some x) (s:cy x m b=true):∃ t,hZ L ss m b=some t/\t<=(c.length:Int):=by
 obtain ⟨g,o⟩:=C5.1 s
 have q:=DE k.clo c ss x 0 (by decide) l (λf n=>⟨0,k.beg f n,by decide⟩) h
 have d:∀ y∈m,y∈L.map (·.1)/\mP L y<=(c.length:Int):=λy a=>by
  obtain ⟨j,a1,a2⟩:=q y (g y a)
  exact ⟨cC.2 ⟨_,a1,rfl⟩,by rw [zP k.key.nd a1];omega⟩
 unfold hZ
 rw [if_pos (bA.2 λy a=>decide_eq_true (d y a).1)]
 refine ⟨_,rfl,?_⟩
 split
 ·rename_i i
  obtain ⟨y,a,hs⟩:=jo.1 i.2
  cases c with
  |nil=>cases h;exact absurd (of_decide_eq_true hs) (o y a)
  |cons=>rw [aY];omega
 ·refine SL (λv p=>?_) (by omega)
  obtain ⟨y,a,rfl⟩:=cC.1 p
  exact (d y a).2
def SS:aC->R Fl:=g9 (lK (fJ (cb (J.ah (eM 1 [4,8,9] (jf (rB 9)) kT (r6 (g2 (rB 0) (rB 1) (E6 false)) (g2 (g2 (rB 1) (rB 0) bq) (g2 (rB 2) (rB 3) An) Qq))) J.aP) (i9 (f9 λbs=>bs.all id))))) (ef (kB false)) (λρ=>.ok (.nx ρ))
def SU {a0 a1 a2 a3 a5 a6 a7:D}{L:List (Str×Int)}{l:NZ} (e:(l.map (·.1)).Nodup) {p:List Str×Int} (d:p∈l) (i:p.1.length<=6) (h:∀ x∈p.1,x∈L.map (·.1)/\mP L x<=p.2) :
  SS [.shr a0,.shr a1,.shr a2,.shr a3,.own (dL L),.shr a5,.shr a6,.shr a7,.shr (.dict ((.none,.none)::db (jB l))),.shr (aG p.1)]=.ok (.nx [.shr a0,.shr a1,.shr a2,.shr a3,.own (dL L),.shr a5,.shr a6,.shr a7,.shr (.dict ((.none,.none)::db (jB l))),.shr (aG p.1)]):=by
 have a:An (.dict ((.none,.none)::db (jB l))) (aG p.1)=.ok (.int p.2):=HM (l:=jB l) (by rw [kL];exact e) (bT (f:=λp:List Str×Int=>(p.1,bV p.2)) d)
 unfold SS
 left
 rw [if_pos (by omega)]
 rw [dA _ (λx:Str=>aF x) (λx=>cB true) p.1 λx c=>eZ (by rfl) (by
  left
  rw [zL,decide_eq_true (h x c).1]
  left
  rw [PY (h x c).1]
  left
  rw [a]
  left
  rw [decide_eq_true (h x c).2])]
 left
 rw [iw _ (λ_=>true)]
 left
 rw [bA.2 (λb g=>by obtain ⟨_,_,rfl⟩:=cC.1 g;rfl)]
 left
def FP {a0 a1 a2 a3 a5 a6 a7:D}{L:List (Str×Int)}{l:NZ} (a:(l.map (·.1)).Nodup):∀ (q:NZ) (s:Sl),(∀ p∈q,p∈l/\p.1.length<=6/\∀ x∈p.1,x∈L.map (·.1)/\mP L x<=p.2) ->
  ∃ s',jP (b_ 9) SS ((q.map (·.1)).map aG) [.shr a0,.shr a1,.shr a2,.shr a3,.own (dL L),.shr a5,.shr a6,.shr a7,.shr (.dict ((.none,.none)::db (jB l))),s]=.ok (.nx [.shr a0,.shr a1,.shr a2,.shr a3,.own (dL L),.shr a5,.shr a6,.shr a7,.shr (.dict ((.none,.none)::db (jB l))),s'])
 |[],s,_=>⟨s,rfl⟩
 |p::q,s,h=>by
  obtain ⟨b,c,f⟩:=h p ak
  obtain ⟨s',e⟩:=FP (a0:=a0) (a1:=a1) (a2:=a2) (a3:=a3) (a5:=a5) (a6:=a6) (a7:=a7) (L:=L) a q (.shr (aG p.1)) λp d=>h p (ag _ d)
  refine ⟨s',?_⟩
  rw [az,az,FH (ρ1:=[.shr a0,.shr a1,.shr a2,.shr a3,.own (dL L),.shr a5,.shr a6,.shr a7,.shr (.dict ((.none,.none)::db (jB l))),.shr (aG p.1)]) rfl (SU a b c f),e]
def K8 {fs:List Str}{es:List dk} (g:el fs es):∀ (c:List dk) (st x:List Str),tj fs st->(∀ e∈c,e∈es)->oo c st=some x->tj fs x
 |[],st,x,hs,_,h=>by cases h;exact hs
 |e::r,st,x,hs,b,h=>by
  replace h:(if cy st e.needs e.bars then oo r (br e st) else none)=some x:=h
  split at h
  ·exact K8 g r _ x (ur g.rise.up (g.ok e (b e ak)) hs) (λa d=>b a (ag _ d)) h
  ·cases h
def SW (a b:aC->R Fl) (ρ c:aC) (h:a ρ=.ok (.nx c)):aO a b ρ=b c:=by unfold aO;rw [h];rfl
def LN:aC->R Fl:=g9 (Gs (fJ (g2 (rB 5) (rB 6) (qA true))) (vt (fJ (g2 (rB 7) kN (CW true))) (Gs (fJ (g2 (rB 5) kN (CW false))) (fJ (g2 (rB 5) (rB 7) Rv))))) (ef (kB false)) (λρ=>.ok (.nx ρ))
def Q0 (o:Option Int):qA true (qU o) (qU o)=.ok (.bool false):=by
 cases o with
 |none=>rfl
 |some i =>
  show qA true (.int i) (.int i)=_
  rw [kc];simp
def Q1 {a0 a1 a2 a3:D}{a:Sl} (o:Option Int):LN [.shr a0,.shr a1,.shr a2,.shr a3,a,.shr (qU o),.shr (qU o),.shr .none,.no,.no]=.ok (.nx [.shr a0,.shr a1,.shr a2,.shr a3,a,.shr (qU o),.shr (qU o),.shr .none,.no,.no]):=by
 unfold LN
 left
 rw [Q0]
 left
 rw [show CW true rR rR=.ok (.bool false) from rfl]
 left
def Q2 {a0 a1 a2 a3:D}{a:Sl}{t k:Int} (h:t<=k):LN [.shr a0,.shr a1,.shr a2,.shr a3,a,.shr (.int t),.shr (.int t),.shr (.int k),.no,.no]=.ok (.nx [.shr a0,.shr a1,.shr a2,.shr a3,a,.shr (.int t),.shr (.int t),.shr (.int k),.no,.no]):=by
 have b:qA true (.int t) (.int t)=.ok (.bool false):=Q0 (some t)
 have c:Rv (.int t) (.int k)=.ok (.bool false):=by
  show R.ok (cB (decide (k<t)))=_
  rw [decide_eq_false (by omega)]
 unfold LN
 left
 rw [b]
 left
 rw [show CW true (bV k) rR=.ok (.bool true) from rfl]
 left
 rw [show CW false (bV t) rR=.ok (.bool false) from rfl]
 left
 rw [decide_eq_false (by omega)]
 left
def Wc {a:List (Str×Int)} (h:∀ p∈a,0<=p.2) (x:Str):0<=mP a x:=by
 unfold mP
 cases b:a.find? λp=>decide (p.1=x) with
 |none=>exact Kq _
 |some p=>exact h p (List.mem_of_find?_eq_some b)
def LO:JM=aO (wI (fO 3 jz (J.ah (rS 0) (J.ah (kI 6) (J.ah (kI 6) J.aP)))) (my 3 (da (b_ 1) (da (b_ 2) (da (b_ 3) o8))))) (aO (fv 4 (vF (fO 2 mE (J.ah (rS 1) (J.ah (rS 2) J.aP))))) (aO (eC 5 (fO 3 um (J.ah (rS 1) (J.ah (rS 2) (J.ah (rS 3) J.aP))))) (aO (eC 6 kN) (aO Wb (aO (eC 7 (fO 3 tS (J.ah (rS 1) (J.ah (rS 2) (J.ah (rS 3) J.aP))))) (aO LN (aO (eC 8 (fO 2 ir (J.ah (rS 1) (J.ah (rS 2) J.aP)))) (aO (oQ (De (rS 8)) (b_ 9) SS) (ef (kB true)))))))))):=rfl
def law_true (e:List Int):F_law [.list (e.map .int)]=.ok (.bool true):=by
 obtain ⟨fs,es,ss,c,a,O,g,h,s,_⟩:=Sr e 6 6 (by decide) (by decide) (by decide) (by decide)
 have K:=ZJ g h
 have z:=K.key.nd
 have n:(ig (nc es ss)).Perm (nc es ss):=pM _
 have k:((ig (nc es ss)).map (·.1)).Nodup:=(n.map (·.1)).nodup_iff.2 z
 have l6:=g.rise.len
 have ll:=K.key.len
 have l1:=e_ s.must g.rise.len
 have G:=e_ s.bars g.rise.len
 have w:=LM g h
 have U:=SM g h s
 have dict:=PZ k (by rw [n.length_eq];omega)
 have i:=SO (S:=.list (e.map .int)) (B:=cu fs es) (t:=qU (hZ (nc es ss) ss c a)) (ss:=ss) (m:=c) (b:=a) (L:=ig (nc es ss)) l1 G λx _=>Wc (λp q=>K.pos p (n.mem_iff.1 q)) x
 rw [P_ z n] at i
 obtain ⟨l,y,few,hk,P,le⟩:=LH g h
 have v:∃ d,tS [cu fs es,aG ss,gg c a]=.ok d/\LN [.shr (.list (e.map .int)),.shr (cu fs es),.shr (aG ss),.shr (gg c a),.own (dL (ig (nc es ss))),.shr (qU (hZ (nc es ss) ss c a)),.shr (qU (hZ (nc es ss) ss c a)),.shr d,.no,.no]=.ok (.nx [.shr (.list (e.map .int)),.shr (cu fs es),.shr (aG ss),.shr (gg c a),.own (dL (ig (nc es ss))),.shr (qU (hZ (nc es ss) ss c a)),.shr (qU (hZ (nc es ss) ss c a)),.shr d,.no,.no]):=by
  rcases HP g h s with ⟨a1,a2⟩|⟨u,x,a1,a2,a3,a4,a5⟩
  ·exact ⟨_,W7 a2,Q1 _⟩
  ·obtain ⟨t,H,X⟩:=SQ K a1.mem a2 a3
   refine ⟨_,W8 a5,?_⟩
   rw [H]
   exact Q2 (by rw [aq];exact X)
 obtain ⟨d,M,I⟩:=v
 obtain ⟨s9,N⟩:=FP (a0:=.list (e.map .int)) (a1:=cu fs es) (a2:=aG ss) (a3:=gg c a) (a5:=qU (hZ (nc es ss) ss c a)) (a6:=qU (hZ (nc es ss) ss c a)) (a7:=d) (L:=ig (nc es ss)) y l .no λp q=>by
  obtain ⟨u,A,E,r3⟩:=P.rch p q
  refine ⟨q,e_ (K8 g u ss p.1 h A E) g.rise.len,λx hx=>?_⟩
  obtain ⟨j,o,j2⟩:=DE K.clo u ss p.1 0 (by decide) A (λf Q=>⟨0,K.beg f Q,by decide⟩) E x hx
  have o:=n.mem_iff.2 o
  exact ⟨cC.2 ⟨_,o,rfl⟩,by rw [zP k o];omega⟩
 have T:fO 3 jz (J.ah (rS 0) (J.ah (kI 6) (J.ah (kI 6) J.aP))) [.shr (.list (e.map .int)),.no,.no,.no,.no,.no,.no,.no,.no,.no]=jz [.list (e.map .int),.int 6,.int 6]:=rfl
 unfold F_law
 refine cW ?_
 rw [LO]
 show aO _ _ [.shr (.list (e.map .int)),.no,.no,.no,.no,.no,.no,.no,.no,.no]=_
 rw [SW _ _ _ [.shr (.list (e.map .int)),.shr (cu fs es),.shr (aG ss),.shr (gg c a),.no,.no,.no,.no,.no,.no] (by unfold wI;rw [T,O];rfl)]
 rw [SW _ _ _ [.shr (.list (e.map .int)),.shr (cu fs es),.shr (aG ss),.shr (gg c a),.own (dL (ig (nc es ss))),.no,.no,.no,.no,.no] (by
  have:fv 4 (vF (fO 2 mE (J.ah (rS 1) (J.ah (rS 2) J.aP)))) [.shr (.list (e.map .int)),.shr (cu fs es),.shr (aG ss),.shr (gg c a),.no,.no,.no,.no,.no,.no]=((mE [cu fs es,aG ss]).bind vE).bind λd=>.ok (.nx [.shr (.list (e.map .int)),.shr (cu fs es),.shr (aG ss),.shr (gg c a),.own d,.no,.no,.no,.no,.no]):=rfl
  rw [this,w,bind_ok,dict,bind_ok])]
 rw [SW _ _ _ [.shr (.list (e.map .int)),.shr (cu fs es),.shr (aG ss),.shr (gg c a),.own (dL (ig (nc es ss))),.shr (qU (hZ (nc es ss) ss c a)),.no,.no,.no,.no] (by
  have:eC 5 (fO 3 um (J.ah (rS 1) (J.ah (rS 2) (J.ah (rS 3) J.aP)))) [.shr (.list (e.map .int)),.shr (cu fs es),.shr (aG ss),.shr (gg c a),.own (dL (ig (nc es ss))),.no,.no,.no,.no,.no]=(um [cu fs es,aG ss,gg c a]).bind λd=>.ok (.nx [.shr (.list (e.map .int)),.shr (cu fs es),.shr (aG ss),.shr (gg c a),.own (dL (ig (nc es ss))),.shr d,.no,.no,.no,.no]):=rfl
  rw [this,U,bind_ok])]
 rw [SW _ _ _ [.shr (.list (e.map .int)),.shr (cu fs es),.shr (aG ss),.shr (gg c a),.own (dL (ig (nc es ss))),.shr (qU (hZ (nc es ss) ss c a)),.shr .none,.no,.no,.no] rfl,SW _ _ _ _ i]
 rw [SW _ _ _ [.shr (.list (e.map .int)),.shr (cu fs es),.shr (aG ss),.shr (gg c a),.own (dL (ig (nc es ss))),.shr (qU (hZ (nc es ss) ss c a)),.shr (qU (hZ (nc es ss) ss c a)),.shr d,.no,.no] (by
  have:eC 7 (fO 3 tS (J.ah (rS 1) (J.ah (rS 2) (J.ah (rS 3) J.aP)))) [.shr (.list (e.map .int)),.shr (cu fs es),.shr (aG ss),.shr (gg c a),.own (dL (ig (nc es ss))),.shr (qU (hZ (nc es ss) ss c a)),.shr (qU (hZ (nc es ss) ss c a)),.no,.no,.no]=(tS [cu fs es,aG ss,gg c a]).bind λd=>.ok (.nx [.shr (.list (e.map .int)),.shr (cu fs es),.shr (aG ss),.shr (gg c a),.own (dL (ig (nc es ss))),.shr (qU (hZ (nc es ss) ss c a)),.shr (qU (hZ (nc es ss) ss c a)),.shr d,.no,.no]):=rfl
  rw [this,M,bind_ok]),SW _ _ _ _ I]
 rw [SW _ _ _ [.shr (.list (e.map .int)),.shr (cu fs es),.shr (aG ss),.shr (gg c a),.own (dL (ig (nc es ss))),.shr (qU (hZ (nc es ss) ss c a)),.shr (qU (hZ (nc es ss) ss c a)),.shr d,.shr (.dict ((.none,.none)::db (jB l))),.no] (by
  have:eC 8 (fO 2 ir (J.ah (rS 1) (J.ah (rS 2) J.aP))) [.shr (.list (e.map .int)),.shr (cu fs es),.shr (aG ss),.shr (gg c a),.own (dL (ig (nc es ss))),.shr (qU (hZ (nc es ss) ss c a)),.shr (qU (hZ (nc es ss) ss c a)),.shr d,.no,.no]=(ir [cu fs es,aG ss]).bind λx=>.ok (.nx [.shr (.list (e.map .int)),.shr (cu fs es),.shr (aG ss),.shr (gg c a),.own (dL (ig (nc es ss))),.shr (qU (hZ (nc es ss) ss c a)),.shr (qU (hZ (nc es ss) ss c a)),.shr d,.shr x,.no]):=rfl
  rw [this,le,bind_ok])]
 have Y:De (rS 8) [.shr (.list (e.map .int)),.shr (cu fs es),.shr (aG ss),.shr (gg c a),.own (dL (ig (nc es ss))),.shr (qU (hZ (nc es ss) ss c a)),.shr (qU (hZ (nc es ss) ss c a)),.shr d,.shr (.dict ((.none,.none)::db (jB l))),.no]=wO (.dict ((.none,.none)::db (jB l))):=rfl
 rw [SW _ _ _ _ (by unfold oQ;rw [Y,Ft,kL];exact N)]
 rfl
end Z
end
namespace Z
open PySem L2 J
def top (i:Nat):dX:=PySem.Challenge.pw_errands_k16_whole_hint.main.body.getD i (.Pass ⟨0,0,0,0⟩)
section
variable {e:En}
abbrev m5:dX:=top 10
abbrev vT:List Str:=["one","other"]
def AU:bR vT ["one","other"] (aE m5):=eA (by decide +kernel)
abbrev ke (e:En):=FN e "share_none" 1 2 eQ
def AV (D:i3 e.K e.mg "share_none" m5) (B:Bi e.mg):ke e:=pd (k:=0) (g:=j_) D AU b2 λ_ _ _ _ _ _ _ f=>by unfold j_;exact (aS (bX (Nz (cc (Hq rfl) rfl B.any oC (bG (JE.bor (JN.je (eO (N':=["fact","other"]) (ix:=[1]) 1 (by decide) rfl (bW (so:=aE m5) (N:=vT) (by decide +kernel)) (eE (am 0)) (λa j b c h d=>⟨cD (i:=0) (by show (["fact","other"] : List Str).Nodup;decide +kernel) rfl (.inl rfl),eN,(kH (Bx) (am 0) (am 1))⟩)))) cj)))))
abbrev sL:dX:=top 11
abbrev C9:List Str:=["facts","others"]
def HS:bR C9 ["facts","others"] (aE sL):=eA (by decide +kernel)
abbrev Ca (e:En):=FN e "without" 1 2 sv
def HU (D:i3 e.K e.mg "without" sL) (B:Bi e.mg):Ca e:=pd (k:=0) (g:=su) D HS b2 λ_ _ _ _ _ _ _ f=>by unfold su;exact (aS (bX (fU (jv rfl) rfl B.tuple bx (bG (JE.bor (JN.je (eO (N':=["fact","others"]) (ix:=[1]) 1 (by decide) rfl (bW (so:=aE sL) (N:=C9) (by decide +kernel)) (eE (am 0)) (λa j b c h d=>⟨cD (i:=0) (by show (["fact","others"] : List Str).Nodup;decide +kernel) rfl (.inl rfl),(kR (e8 (yV) (am 0) (am 1))),(ap 0)⟩)))) cj))))
abbrev zQ:dX:=top 12
abbrev Q3:List Str:=["one","other"]
def LP:bR Q3 ["one","other"] (aE zQ):=eA (by decide +kernel)
abbrev FQ (e:En):=FN e "joined" 1 2 vK
def LQ (D:i3 e.K e.mg "joined" zQ) (B:Bi e.mg):FQ e:=pd (k:=0) (g:=vJ) D LP b2 λ_ _ _ _ _ _ _ a=>by unfold vJ;exact (aS (bX (fU (jv rfl) rfl B.tuple bx (bG (JE.bor (pI rfl (Vo (D6 rfl (am 0) rfl B.set) (D6 rfl (am 1) rfl B.set)) rfl B.sorted)) cj))))
abbrev sM:dX:=top 13
abbrev Cb:List Str:=["thing"]
def HV:bR Cb ["thing"] (aE sM):=eA (by decide +kernel)
abbrev wW (e:En):=FN e "is_word" 1 1 oU
def HW (D:i3 e.K e.mg "is_word" sM) (B:Bi e.mg) (a:Cn e.mg "MOST_LETTERS" 6):wW e:=pd (k:=0) (g:=sw) D HV b1 λ_ _ _ _ _ _ _ h=>by unfold sw;exact (aD (gm (JW.t (q_ (gT (fo (rf (am 0) rfl B.isinstance rfl B.str PyProof.Rows.boot_str (by decide)))) (mw (gT (NR (yU) (yU) (JE.bor aL) (JE.bor (cc j0 rfl B.len cq (bG (am 0) cj))) (JE.bor (vq rfl a))))))) (aS (bX mv)) dz) (aS (bX (cc (lM rfl) rfl B.all c7 (bG (JE.bor (JN.je (eO (N':=["sign"]) (ix:=[]) 1 (by decide) rfl (bW (so:=aE sM) (N:=Cb) (by decide +kernel)) (eE (am 0)) (λb l c d j f=>⟨cD (i:=0) (by show (["sign"] : List Str).Nodup;decide +kernel) rfl (.inl rfl),eN,(EN (yU) (yU) (JE.bor CT) (am 0) (JE.bor CT))⟩)))) cj)))))
abbrev gj:dX:=top 14
abbrev jC:List Str:=["thing"]
def tq:bR jC ["thing"] (aE gj):=eA (by decide +kernel)
abbrev jD (e:En):=FN e "are_rising_words" 2 1 gd
def tw (D:i3 e.K e.mg "are_rising_words" gj) (B:Bi e.mg) (a:wW e):jD e:=pd (k:=1) (g:=iq) D tq b1 λ_ _ _ _ _ _ _ h=>by unfold iq;exact (aD (gm (JW.t (q_ (gT (fo (rf (am 0) rfl B.isinstance rfl B.tuple bx (by decide)))) (mw (gT (fo (cc (lM rfl) rfl B.all c7 (bG (JE.bor (JN.je (eO (N':=["word"]) (ix:=[]) 1 (by decide) rfl (bW (so:=aE gj) (N:=jC) (by decide +kernel)) (eE (am 0)) (λb l c d j f=>⟨cD (i:=0) (by show (["word"] : List Str).Nodup;decide +kernel) rfl (.inl rfl),eN,(jc a h gy (aj (ap 0) aU))⟩)))) cj))))))) (aS (bX mv)) dz) (aS (bX (cc (lM rfl) rfl B.all c7 (bG (JE.bor (JN.je (eO (N':=["low","high"]) (ix:=[]) 2 (by decide) rfl (bW (so:=aE gj) (N:=jC) (by decide +kernel)) (Mn.i (RF rfl B.zip (aj (ap 0) (aj (re (am 0) (se aL) yo) aU)))) (λb l c d j f=>⟨GP rfl (qT (cD (i:=0) (by show (["low","high"] : List Str).Nodup;decide +kernel) rfl (.inl rfl)) (qT (cD (i:=1) (by show (["low","high"] : List Str).Nodup;decide +kernel) rfl (.inl rfl)) Cz)),eN,(kH (yT) (am 0) (am 1))⟩)))) cj)))))
abbrev nL:dX:=top 15
abbrev xx:List Str:=["book_facts","thing"]
def DF:bR xx ["book_facts","thing"] (aE nL):=eA (by decide +kernel)
abbrev nM (e:En):=FN e "are_facts" 3 2 fP
def DG (D:i3 e.K e.mg "are_facts" nL) (B:Bi e.mg) (a:jD e):nM e:=pd (k:=2) (g:=nz) D DF b2 λ_ _ _ _ _ _ _ b=>by unfold nz;exact (aS (bX (ud (jc a b px (aj (ap 1) aU)) (wH (cc (lM rfl) rfl B.all c7 (bG (JE.bor (JN.je (eO (N':=["fact","book_facts"]) (ix:=[0]) 1 (by decide) rfl (bW (so:=aE nL) (N:=xx) (by decide +kernel)) (eE (am 1)) (λc l d f j h=>⟨cD (i:=0) (by show (["fact","book_facts"] : List Str).Nodup;decide +kernel) rfl (.inl rfl),eN,(kH (Bx) (am 0) (am 1))⟩)))) cj))))))
abbrev uv:dX:=top 16
abbrev HX:List Str:=["thing","least","most"]
def FR:bR HX ["thing","least","most"] (aE uv):=eA (by decide +kernel)
abbrev zR (e:En):=FN e "is_whole" 1 3 pP
def FS (D:i3 e.K e.mg "is_whole" uv) (B:Bi e.mg):zR e:=pd (k:=0) (g:=pO) D FR b3 λ_ _ _ _ _ _ _ a=>by unfold pO;exact (aD (gm (JW.t (q_ (gT (fo (rf (am 0) rfl B.isinstance rfl B.int PyProof.Rows.boot_int (by decide)))) (mw (fo (rf (am 0) rfl B.isinstance rfl B.bool PyProof.Rows.boot_bool (by decide)))))) (aS (bX mv)) dz) (aS (bX (EN (yU) (yU) (am 1) (am 0) (am 2)))))
abbrev nN:dX:=top 17
abbrev xy:List Str:=["book_facts","thing","name","needs","bars","makes","ends","price"]
def iy:bR xy ["book_facts","thing"] (aE nN):=eA (by decide +kernel)
abbrev xz (e:En):=FN e "is_errand" 4 2 nB
def DH (D:i3 e.K e.mg "is_errand" nN) (B:Bi e.mg) (j:wW e) (d:zR e) (f:nM e) (c:ke e) (h:Cn e.mg "MOST_PRICE" 9):xz e:=pd (k:=3) (g:=nA) D iy b2 λ_ _ _ _ _ _ _ a=>by have b:=a.units;unfold nA;exact (aD (gm (JW.t (q_ (gT (fo (rf (am 1) rfl B.isinstance rfl B.tuple bx (by decide)))) (mw (e8 (Bw b) (JE.bor (cc j0 rfl B.len cq (bG (am 1) cj))) (JE.bor aL))))) (aS (bX mv)) dz) (aD (wJ (ap 1) (pC rfl (dJ (dm 2 iy.nd) (dJ (dm 3 iy.nd) (dJ (dm 4 iy.nd) (dJ (dm 5 iy.nd) (dJ (dm 6 iy.nd) (dJ (dm 7 iy.nd) lS)))))))) (aD (gm (JW.t (q_ (gT (fo (jc j a px (aj (ap 2) aU)))) (mw (gT (fo (jc d a px (aj (ap 7) (aj aL (aj (vq rfl h) aU))))))))) (aS (bX mv)) dz) (aD (gm (gT (fo (cc (lM rfl) rfl B.all c7 (bG (JE.bor (JN.je (eO (N':=["facts","book_facts"]) (ix:=[0]) 1 (by decide) rfl (bW (so:=aE nN) (N:=xy) (by decide +kernel)) (eE (JE.bor (o6 (aj (ap 3) (aj (ap 4) (aj (ap 5) (aj (ap 6) aU))))))) (λm l n o q p=>⟨cD (i:=0) (by show (["facts","book_facts"] : List Str).Nodup;decide +kernel) rfl (.inl rfl),eN,(jc f a gy (aj (ap 1) (aj (ap 0) aU)))⟩)))) cj)))) (aS (bX mv)) dz) (aS (bX (ud (jc c a px (aj (ap 3) (aj (ap 4) aU))) (wH (jc c a px (aj (ap 5) (aj (ap 6) aU)))))))))))
abbrev oX:dX:=top 18
abbrev wX:List Str:=["thing","facts","errands"]
def ux:bR wX ["thing"] (aE oX):=eA (by decide +kernel)
abbrev Cc (e:En):=FN e "is_book" 5 1 sy
def HY (D:i3 e.K e.mg "is_book" oX) (B:Bi e.mg) (d:jD e) (n:xz e) (o:Cn e.mg "MOST_FACTS" 6) (p:Cn e.mg "MOST_ERRANDS" 6):Cc e:=pd (k:=4) (g:=sx) D ux b1 λ_ _ _ _ _ _ _ b=>by have c:=iZ b;have a:=b.units;unfold sx;exact (aD (gm (JW.t (q_ (gT (fo (rf (am 0) rfl B.isinstance rfl B.tuple bx (by decide)))) (mw (e8 (Bw a) (JE.bor (cc j0 rfl B.len cq (bG (am 0) cj))) (JE.bor aL))))) (aS (bX mv)) dz) (aD (wJ (ap 0) (pC rfl (dJ (dm 1 ux.nd) (dJ (dm 2 ux.nd) lS)))) (aD (gm (JW.t (q_ (gT (fo (jc d b px (aj (ap 1) aU)))) (mw (e8 (NF) (JE.bor (cc j0 rfl B.len cq (bG (am 1) cj))) (JE.bor (vq rfl o)))))) (aS (bX mv)) dz) (aD (gm (JW.t (q_ (gT (fo (rf (am 2) rfl B.isinstance rfl B.tuple bx (by decide)))) (mw (e8 (NF) (JE.bor (cc j0 rfl B.len cq (bG (am 2) cj))) (JE.bor (vq rfl p)))))) (aS (bX mv)) dz) (aD (gm (gT (fo (cc (lM rfl) rfl B.all c7 (bG (JE.bor (JN.je (eO (N':=["errand","facts"]) (ix:=[1]) 1 (by decide) rfl (bW (so:=aE oX) (N:=wX) (by decide +kernel)) (eE (am 2)) (λf q h j m l=>⟨cD (i:=0) (by show (["errand","facts"] : List Str).Nodup;decide +kernel) rfl (.inl rfl),eN,(jc n b gy (aj (ap 1) (aj (ap 0) aU)))⟩)))) cj)))) (aS (bX mv)) dz) (aS (bX (kH (vv a) (JE.bor (L5 (NS (N':=["errand"]) (ix:=[]) 1 (by decide) rfl (bW (so:=aE oX) (N:=wX) (by decide +kernel)) (eE (am 2)) (λf q h j m l=>⟨cD (i:=0) (by show (["errand"] : List Str).Nodup;decide +kernel) rfl (.inl rfl),eN,(cr c (am 0) (JE.bor aL))⟩)) rfl B.len)) (JE.bor (cc j0 rfl B.len cq (bG (am 2) cj)))))))))))
abbrev wY:dX:=top 19
abbrev LR:List Str:=["book","thing","must","bars"]
def uy:bR LR ["book","thing"] (aE wY):=eA (by decide +kernel)
abbrev Cd (e:En):=FN e "is_want" 4 2 sC
def HZ (D:i3 e.K e.mg "is_want" wY) (B:Bi e.mg) (d:nM e) (f:ke e):Cd e:=pd (k:=3) (g:=sB) D uy b2 λ_ _ _ _ _ _ _ b=>by have a:=iZ b;have c:=b.units;unfold sB;exact (aD (gm (JW.t (q_ (gT (fo (rf (am 1) rfl B.isinstance rfl B.tuple bx (by decide)))) (mw (e8 (Bw c) (JE.bor (cc j0 rfl B.len cq (bG (am 1) cj))) (JE.bor aL))))) (aS (bX mv)) dz) (aD (wJ (ap 1) (pC rfl (dJ (dm 2 uy.nd) (dJ (dm 3 uy.nd) lS)))) (aS (bX (ud (jc d b px (aj (cr a (am 0) (JE.bor aL)) (aj (ap 2) aU))) (ud (jc d b px (aj (cr a (am 0) (JE.bor aL)) (aj (ap 3) aU))) (wH (jc f b px (aj (ap 2) (aj (ap 3) aU))))))))))
abbrev oq:dX:=top 20
abbrev AW:List Str:=["book","state"]
def zS:bR AW ["book","state"] (aE oq):=eA (by decide +kernel)
abbrev tV (e:En):=FN e "check_state" 4 2 kW
def zT (D:i3 e.K e.mg "check_state" oq) (c:nM e):tV e:=pd (k:=3) (g:=kU) D zS b2 λ_ _ _ _ _ _ _ b=>by have a:=iZ b;unfold kU;exact (aS (gm (gT (fo (jc c b px (aj (cr a (am 0) (JE.bor aL)) (aj (ap 1) aU))))) (aS zq) dz))
abbrev qc:dX:=top 21
abbrev DI:List Str:=["book","want"]
def AX:bR DI ["book","want"] (aE qc):=eA (by decide +kernel)
abbrev vU (e:En):=FN e "check_want" 5 2 lU
def AY (D:i3 e.K e.mg "check_want" qc) (a:Cd e):vU e:=pd (k:=4) (g:=lT) D AX b2 λ_ _ _ _ _ _ _ b=>by unfold lT;exact (aS (gm (gT (fo (jc a b px (aj (ap 0) (aj (ap 1) aU))))) (aS zq) dz))
abbrev sO:dX:=top 22
abbrev Ce:List Str:=["state","want","must","bars"]
def uz:bR Ce ["state","want"] (aE sO):=eA (by decide +kernel)
abbrev w_ (e:En):=FN e "fulfils" 2 2 oV
def H_ (D:i3 e.K e.mg "fulfils" sO) (B:Bi e.mg) (b:ke e):w_ e:=pd (k:=1) (g:=sD) D uz b2 λ_ _ _ _ _ _ _ a=>by unfold sD;exact (aD (wJ (ap 1) (pC rfl (dJ (dm 2 uz.nd) (dJ (dm 3 uz.nd) lS)))) (aS (bX (ud (cc (lM rfl) rfl B.all c7 (bG (JE.bor (JN.je (eO (N':=["fact","state"]) (ix:=[0]) 1 (by decide) rfl (bW (so:=aE sO) (N:=Ce) (by decide +kernel)) (eE (am 2)) (λc l d f j h=>⟨cD (i:=0) (by show (["fact","state"] : List Str).Nodup;decide +kernel) rfl (.inl rfl),eN,(kH (Bx) (am 0) (am 1))⟩)))) cj)) (wH (jc b a px (aj (ap 3) (aj (ap 0) aU))))))))
abbrev rq:dX:=top 23
abbrev FT:List Str:=["errand","state"]
def DJ:bR FT ["errand","state"] (aE rq):=eA (by decide +kernel)
abbrev xA (e:En):=FN e "is_doable" 3 2 nD
def DK (D:i3 e.K e.mg "is_doable" rq) (c:w_ e):xA e:=pd (k:=2) (g:=nC) D DJ b2 λ_ _ _ _ _ _ _ b=>by have a:=iZ b;unfold nC;exact (aS (bX (jc c b px (aj (ap 1) (aj (o6 (aj (cr a (am 0) (JE.bor aL)) (aj (cr a (am 0) (JE.bor aL)) aU))) aU)))))
abbrev mS:dX:=top 24
abbrev zU:List Str:=["errand","state","makes","ends"]
def qw:bR zU ["errand","state"] (aE mS):=eA (by decide +kernel)
abbrev rz (e:En):=FN e "state_behind" 2 2 k8
def x_ (D:i3 e.K e.mg "state_behind" mS) (c:Ca e) (d:FQ e):rz e:=pd (k:=1) (g:=k7) D qw b2 λ_ _ _ _ _ _ _ b=>by have a:=iZ b;unfold k7;exact (aD (Vp 2 3 rfl qw.nd (aj (cr a (am 0) (JE.bor aL)) (aj (cr a (am 0) (JE.bor aL)) aU))) (aS (bX (jc d b px (aj (jc c b px (aj (ap 1) (aj (ap 3) aU))) (aj (ap 2) aU))))))
abbrev xb:dX:=top 25
abbrev LS:List Str:=["book"]
def Ic:bR LS ["book"] (aE xb):=eA (by decide +kernel)
abbrev Cf (e:En):=FN e "checked" 6 1 sG
def Ie (D:i3 e.K e.mg "checked" xb) (a:Cc e):Cf e:=pd (k:=5) (g:=sF) D Ic b1 λ_ _ _ _ _ _ _ b=>by unfold sF;exact (aD (gm (gT (fo (jc a b px (aj (ap 0) aU)))) (aS zq) dz) (aS (bX (ap 0))))
abbrev ou:dX:=top 26
abbrev AZ:List Str:=["book","state"]
def zW:bR AZ ["book","state"] (aE ou):=eA (by decide +kernel)
abbrev oy (e:En):=FN e "check_place" 7 2 gU
def zX (D:i3 e.K e.mg "check_place" ou) (b:Cf e) (c:tV e):oy e:=pd (k:=6) (g:=kX) D zW b2 λ_ _ _ _ _ _ _ a=>by unfold kX;exact (aD (pB (jc b a px (aj (ap 0) aU))) (aS (pB (jc c a px (aj (ap 0) (aj (ap 1) aU))))))
abbrev rA:dX:=top 27
abbrev FU:List Str:=["book","state","want"]
def DL:bR FU ["book","state","want"] (aE rA):=eA (by decide +kernel)
abbrev rE (e:En):=FN e "check_aim" 8 3 lj
def DM (D:i3 e.K e.mg "check_aim" rA) (b:oy e) (c:vU e):rE e:=pd (k:=7) (g:=nE) D DL b3 λ_ _ _ _ _ _ _ a=>by unfold nE;exact (aD (pB (jc b a px (aj (ap 0) (aj (ap 1) aU)))) (aS (pB (jc c a px (aj (ap 0) (aj (ap 2) aU))))))
abbrev lr:dX:=top 29
abbrev rF:List Str:=["book","layer_of","ready"]
def vV:bR rF ["book","layer_of"] (aE lr):=eA (by decide +kernel)
abbrev xB (e:En):=FN e "made_next" 1 2 fQ
def DN (D:i3 e.K e.mg "made_next" lr) (B:Bi e.mg):xB e:=pd (k:=0) (g:=nF) D vV b2 λ_ _ _ _ _ _ _ l=>by have a:=iZ l;unfold nF;exact (aD (kJ 2 (N':=["errand","layer_of"]) (ix:=[1]) 1 (by decide) vV.nd rfl (bW (so:=aE lr) (N:=rF) (by decide +kernel)) (eE (JE.bor (cr a (am 0) (JE.bor aL)))) (λb j c d h f=>⟨cD (i:=0) (by show (["errand","layer_of"] : List Str).Nodup;decide +kernel) rfl (.inl rfl),(kR (fo (cc (lM rfl) rfl B.all c7 (bG (JE.bor (JN.je (eO (N':=["fact","layer_of"]) (ix:=[1]) 1 (by decide) rfl (bW (N:=["errand","layer_of"]) (by kernel_rfl) rfl) (eE (JE.bor (cr a (am 0) (JE.bor aL)))) (λb j c d h f=>⟨cD (i:=0) (by show (["fact","layer_of"] : List Str).Nodup;decide +kernel) rfl (.inl rfl),eN,(kH (Dh a) (am 0) (am 1))⟩)))) cj)))),(ap 0)⟩)) (aS (bX (pI rfl (Lh (N':=["errand","fact","layer_of"]) (ix:=[1]) 1 (by decide) rfl (bW (so:=aE lr) (N:=rF) (by decide +kernel)) (eE (am 2)) (λb j c d h f=>⟨cD (i:=0) (by show (["errand","fact","layer_of"] : List Str).Nodup;decide +kernel) rfl (.inl rfl),eN,(eE (JE.bor (cr a (am 0) (JE.bor aL)))),cD (i:=1) (by show (["errand","fact","layer_of"] : List Str).Nodup;decide +kernel) rfl (.inl rfl),(kR (e8 (Li a) (am 1) (am 2))),(ap 1)⟩)) rfl B.sorted))))
abbrev kf:dX:=top 30
abbrev rG:List Str:=["book","state","layer_of","layer","made","fact"]
def fA:bR rG ["book","state"] (aE kf):=eA (by decide +kernel)
abbrev mT (e:En):=FN e "first_layers" 2 2 gf
def y0 (D:i3 e.K e.mg "first_layers" kf) (c:xB e):mT e:=pd (k:=1) (g:=k9) D fA b2 λ_ _ _ _ _ _ _ b=>by have a:=iZ b;unfold k9;exact (aD (Di 2 (N':=["fact"]) (ix:=[]) 1 (by decide) a fA.nd rfl (bW (so:=aE kf) (N:=rG) (by decide +kernel)) (eE (am 1)) (λd m f h l j=>⟨cD (i:=0) (by show (["fact"] : List Str).Nodup;decide +kernel) rfl (.inl rfl),eN,(ap 0),aL⟩)) (aD (dU 3 aL fA.nd) (aD (dU 4 (jcl BQ c b px (Jy (ap 0) (OO 2 ON))) fA.nd) (aD (zb 100000 (Hy (am 4)) (aD (J6 4 rfl (dm 5 fA.nd) (aS (D5 2 (ap 3) (ap 5) a))) (aD (Vy 3 aL fA.nd) (aS (dU 4 (jcl BQ c b gy (Jy (ap 0) (OO 2 ON))) fA.nd))))) (aS (bX (ap 2)))))))
abbrev zY:dX:=top 31
abbrev Q4:List Str:=["book","state"]
def LU:bR Q4 ["book","state"] (aE zY):=eA (by decide +kernel)
abbrev FV (e:En):=FN e "layers" 8 2 mE
def LV (D:i3 e.K e.mg "layers" zY) (B:Bi e.mg) (d:oy e) (c:mT e):FV e:=pd (k:=7) (g:=vL) D LU b2 λ_ _ _ _ _ _ _ b=>by have a:=b.units;unfold vL;exact (aD (pB (jc d b px (aj (ap 0) (aj (ap 1) aU)))) (aS (bX (Dl rfl a (jc c b px (aj (ap 0) (aj (ap 1) aU))) rfl B.sorted))))
abbrev zZ:dX:=top 32
abbrev Ig:List Str:=["book","state","want","must","bars","layer_of","greatest"]
def vW:bR Ig ["book","state","want"] (aE zZ):=eA (by decide +kernel)
abbrev Q5 (e:En):=FN e "hint" 9 3 um
def SX (D:i3 e.K e.mg "hint" zZ) (B:Bi e.mg) (l:rE e) (d:mT e) (o:ke e):Q5 e:=pd (k:=8) (g:=Dm) D vW b3 λ_ _ _ _ _ _ _ b=>by have a:=iZ b;have c:=b.units;unfold Dm;exact (aD (pB (jc l b px (aj (ap 0) (aj (ap 1) (aj (ap 2) aU))))) (aD (wJ (ap 2) (pC rfl (dJ (dm 3 vW.nd) (dJ (dm 4 vW.nd) lS)))) (aD (dU 5 (jc d b px (aj (ap 0) (aj (ap 1) aU))) vW.nd) (aD (gm (gT (fo (cc (lM rfl) rfl B.all c7 (bG (JE.bor (JN.je (eO (N':=["fact","layer_of"]) (ix:=[5]) 1 (by decide) rfl (bW (so:=aE zZ) (N:=Ig) (by decide +kernel)) (eE (am 3)) (λf p h j n m=>⟨cD (i:=0) (by show (["fact","layer_of"] : List Str).Nodup;decide +kernel) rfl (.inl rfl),eN,(kH (Dh a) (am 0) (am 1))⟩)))) cj)))) (aS (bX pz)) dz) (aD (dU 6 (S8 rfl (bG (JE.bor (JN.je (eO (N':=["fact","layer_of"]) (ix:=[5]) 1 (by decide) rfl (bW (so:=aE zZ) (N:=Ig) (by decide +kernel)) (eE (am 3)) (λf p h j n m=>⟨cD (i:=0) (by show (["fact","layer_of"] : List Str).Nodup;decide +kernel) rfl (.inl rfl),eN,(cr a (am 1) (am 0))⟩)))) cj) rfl B.max) vW.nd) (aD (gm (JW.t (uc (e8 (vv c) (am 6) (JE.bor aL)) (pA (gT (fo (jc o b px (aj (ap 4) (aj (ap 1) aU)))))))) (aS (bX aL)) dz) (aS (bX (ap 6)))))))))
abbrev m6:dX:=top 34
abbrev vX:List Str:=["book","state"]
def A_:bR vX ["book","state"] (aE m6):=eA (by decide +kernel)
abbrev vY (e:En):=FN e "steps_from" 4 2 ka
def B0 (D:i3 e.K e.mg "steps_from" m6) (d:xA e) (c:rz e):vY e:=pd (k:=3) (g:=lV) D A_ b2 λ_ _ _ _ _ _ _ b=>by have a:=iZ b;unfold lV;exact (aS (bX (JN.je (eO (N':=["errand","state"]) (ix:=[1]) 1 (by decide) rfl (bW (so:=aE m6) (N:=vX) (by decide +kernel)) (eE (JE.bor (cr a (am 0) (JE.bor aL)))) (λf n h j m l=>⟨cD (i:=0) (by show (["errand","state"] : List Str).Nodup;decide +kernel) rfl (.inl rfl),(kR (fo (jc d b gy (aj (ap 0) (aj (ap 1) aU))))),(o6 (aj (ap 0) (aj (jc c b gy (aj (ap 0) (aj (ap 1) aU))) aU)))⟩)))))
abbrev qe:dX:=top 35
abbrev DO:List Str:=["book","state","rows","ring","next_ring","at","errand","behind"]
def fS:bR DO ["book","state"] (aE qe):=eA (by decide +kernel)
abbrev vZ (e:En):=FN e "first_rows" 5 2 lX
def B4 (D:i3 e.K e.mg "first_rows" qe) (c:vY e):vZ e:=pd (k:=4) (g:=lW) D fS b2 λ_ _ _ _ _ _ _ b=>by have a:=iZ b;unfold lW;exact (aD (jW 2 (F5 a (ap 1) (lL aU)) fS.nd) (aD (jW 3 (yZ (aj (ap 1) aU)) fS.nd) (aD (zb 100000 (Hy (am 3)) (aD (jW 4 (yZ aU) fS.nd) (aD (J6 3 rfl (dm 5 fS.nd) (aS (pG rfl (D0 (jc c b gy (aj (ap 0) (aj (ap 5) aU)))) (pC rfl (dJ (dm 6 fS.nd) (dJ (dm 7 fS.nd) lS))) (aS (gm (e8 (BO a) (am 7) (am 2)) (aD (F4 2 (cg dh (JE.bor (wN a (am 2) (am 5))) (JE.bor (lL (aj (cr a (am 6) (JE.bor aL)) aU)))) (ap 7) a) (aS (sg 4 (ap 7)))) dz))))) (aS (Hv 4 (dU 3 (ap 4) fS.nd)))))) (aS (OI 2 (bX (ap 2)))))))
abbrev oY:dX:=top 36
abbrev xg:List Str:=["rows","want","fitting"]
def z_:bR xg ["rows","want"] (aE oY):=eA (by decide +kernel)
abbrev Cg (e:En):=FN e "nearest" 3 2 mf
def Ih (D:i3 e.K e.mg "nearest" oY) (B:Bi e.mg) (m:w_ e):Cg e:=pd (k:=2) (g:=sH) D z_ b2 λ_ _ _ _ _ _ _ c=>by have a:=iZ c;have b:=c.units;unfold sH;exact (aD (jW 2 (eO (N':=["at","want"]) (ix:=[1]) 1 (by decide) rfl (bW (so:=aE oY) (N:=xg) (by decide +kernel)) (RT (am 0)) (λd n f h l j=>⟨cD (i:=0) (by show (["at","want"] : List Str).Nodup;decide +kernel) rfl (.inl rfl),(kR (fo (jc m c gy (aj (ap 0) (aj (ap 1) aU))))),(ap 0)⟩)) z_.nd) (aS (bX (JN.je (eO (N':=["at","rows","fitting"]) (ix:=[0,2]) 1 (by decide) rfl (bW (so:=aE oY) (N:=xg) (by decide +kernel)) (eE (am 2)) (λd n f h l j=>⟨cD (i:=0) (by show (["at","rows","fitting"] : List Str).Nodup;decide +kernel) rfl (.inl rfl),(kR (e8 (vv b) (JE.bor (cc j0 rfl B.len cq (bG (JE.bor (wN a (am 1) (am 0))) cj))) (JE.bor (cc j0 rfl B.len cq (bG (JE.bor (wN a (am 1) (JE.bor (cr a (am 2) (JE.bor aL))))) cj))))),(ap 0)⟩))))))
abbrev uA:dX:=top 37
abbrev Ii:List Str:=["book","state","want","rows","goals"]
def rJ:bR Ii ["book","state","want"] (aE uA):=eA (by decide +kernel)
abbrev A1 (e:En):=FN e "shortest" 9 3 j3
def FW (D:i3 e.K e.mg "shortest" uA) (f:rE e) (d:vZ e) (c:Cg e):A1 e:=pd (k:=8) (g:=mF) D rJ b3 λ_ _ _ _ _ _ _ b=>by have a:=iZ b;unfold mF;exact (aD (pB (jc f b px (aj (ap 0) (aj (ap 1) (aj (ap 2) aU))))) (aD (dU 3 (jc d b px (aj (ap 0) (aj (ap 1) aU))) rJ.nd) (aD (dU 4 (jc c b px (aj (ap 3) (aj (ap 2) aU))) rJ.nd) (aS (bX (To (Hy (am 4)) (wN a (am 3) (JE.bor (cr a (am 4) (JE.bor aL)))) pz))))))
abbrev Q6:dX:=top 38
abbrev Yk:List Str:=["book","state","want","row"]
def Q7:bR Yk ["book","state","want"] (aE Q6):=eA (by decide +kernel)
abbrev Uk (e:En):=FN e "far" 10 3 tS
def Wd (D:i3 e.K e.mg "far" Q6) (B:Bi e.mg) (b:A1 e):Uk e:=pd (k:=9) (g:=Fe) D Q7 b3 λ_ _ _ _ _ _ _ a=>by unfold Fe;exact (aD (dU 3 (jc b a px (aj (ap 0) (aj (ap 1) (aj (ap 2) aU)))) Q7.nd) (aS (bX (To (e8 (Tp) (am 3) (JE.bor pz)) pz (cc j0 rfl B.len cq (bG (am 3) cj))))))
abbrev oA:dX:=top 40
abbrev B5:List Str:=["_law_script","_law_k"]
def A2:bR B5 ["_law_script","_law_k"] (aE oA):=eA (by decide +kernel)
abbrev tW (e:En):=FN e "_law_cell_at" 1 2 kZ
def A3 (D:i3 e.K e.mg "_law_cell_at" oA) (B:Bi e.mg):tW e:=pd (k:=0) (g:=kY) D A2 b2 λ_ _ _ _ _ _ _ c=>by have b:=iZ c;have a:=c.units;unfold kY;exact (aD (gm (e8 (yT) (am 1) (JE.bor (cc j0 rfl B.len cq (bG (am 0) cj)))) (aS (bX (cr b (am 0) (am 1)))) dz) (aD (gm (e8 (vv a) (am 0) (JE.bor (lL aU))) (aS (bX aL)) dz) (aS (bX (cg dh (JE.bor (cg rc (JE.bor (cr b (am 0) (JE.bor (cg CU (am 1) (JE.bor (cc j0 rfl B.len cq (bG (am 0) cj))))))) (JE.bor aL))) (am 1))))))
abbrev rK:dX:=top 41
abbrev FX:List Str:=["_law_script","_law_k","_law_many","_law_drawn"]
def v_:bR FX ["_law_script","_law_k","_law_many"] (aE rK):=eA (by decide +kernel)
abbrev gM (e:En):=FN e "_law_mixed" 2 3 bF
def DP (D:i3 e.K e.mg "_law_mixed" rK) (a:tW e):gM e:=pd (k:=1) (g:=nG) D v_ b3 λ_ _ _ _ _ _ _ b=>by unfold nG;exact (aD (dU 3 (cg CU (JE.bor (cg rc (JE.bor (cg dh (JE.bor (cg dh (JE.bor (jc a b px (aj (ap 0) (aj (ap 1) aU)))) (JE.bor (cg rc (JE.bor aL) (am 1))))) (JE.bor aL))) (JE.bor aL))) (JE.bor aL)) v_.nd) (aS (bX (cg CU (JE.bor (cg CU (JE.bor (cg dh (JE.bor (cg dh (JE.bor (cg rc (am 3) (am 3))) (JE.bor (cg rc (JE.bor aL) (am 3))))) (am 1))) (JE.bor aL))) (am 2)))))
abbrev uC:dX:=top 42
abbrev Ij:List Str:=["_law_script","_law_at","_law_made","_law_k"]
def nP:bR Ij ["_law_script","_law_at"] (aE uC):=eA (by decide +kernel)
abbrev uD (e:En):=FN e "_law_word" 3 2 kK
def FY (D:i3 e.K e.mg "_law_word" uC) (B:Bi e.mg) (c:gM e):uD e:=pd (k:=2) (g:=pQ) D nP b2 λ_ _ _ _ _ _ _ b=>by have a:=iZ b;unfold pQ;exact (aD (dU 2 CT nP.nd) (aD (pG rfl (uf rfl B.range (bG (JE.bor (cr a (JE.bor (lL (aj aL (aj aL (aj aL (aj aL (aj aL (aj aL aU)))))))) (JE.bor (jc c b gy (aj (ap 0) (aj (ap 1) (aj aL aU))))))) cj)) (dm 3 nP.nd) (aS (dU 2 (cg dh (am 2) (JE.bor (cr a (JE.bor CT) (JE.bor (jc c b gy (aj (ap 0) (aj (cg dh (JE.bor (cg dh (am 1) (JE.bor aL))) (am 3)) (aj aL aU)))))))) nP.nd))) (aS (bX (ap 2)))))
abbrev rL:dX:=top 43
abbrev FZ:List Str:=["_law_script","_law_at","_law_most","_law_found","_law_k"]
def qh:bR FZ ["_law_script","_law_at","_law_most"] (aE rL):=eA (by decide +kernel)
abbrev xC (e:En):=FN e "_law_facts" 4 3 nI
def DQ (D:i3 e.K e.mg "_law_facts" rL) (B:Bi e.mg) (d:uD e) (c:gM e):xC e:=pd (k:=3) (g:=nH) D qh b3 λ_ _ _ _ _ _ _ b=>by have a:=iZ b;unfold nH;exact (aD (jW 3 J4 qh.nd) (aD (pG rfl (uf rfl B.range (bG (JE.bor (jc c b gy (aj (ap 0) (aj (ap 1) (aj (cg dh (am 2) (JE.bor aL)) aU))))) cj)) (dm 4 qh.nd) (aS (D5 3 mv (jc d b gy (aj (ap 0) (aj (cg dh (JE.bor (cg dh (am 1) (JE.bor aL))) (JE.bor (cg rc (JE.bor aL) (am 4)))) aU))) a))) (aS (bX (fU (jv rfl) rfl B.tuple bx (bG (JE.bor (cc L4 rfl B.sorted m8 (bG (JE.bor (fU (zc rfl) rfl B.list nu (bG (am 3) cj))) cj))) cj))))))
abbrev qi:dX:=top 44
abbrev A4:List Str:=["_law_script","_law_at","_law_facts_here","_law_part"]
def F_:bR A4 ["_law_script","_law_at","_law_facts_here","_law_part"] (aE qi):=eA (by decide +kernel)
abbrev A5 (e:En):=FN e "_law_some" 3 4 pS
def G0 (D:i3 e.K e.mg "_law_some" qi) (B:Bi e.mg) (a:gM e):A5 e:=pd (k:=2) (g:=pR) D F_ b4 λ_ _ _ _ _ _ _ b=>by unfold pR;exact (aS (bX (fU (jv rfl) rfl B.tuple bx (bG (JE.bor (JN.je (eO (N':=["_law_k","_law_fact","_law_script","_law_at","_law_part"]) (ix:=[0,1,3]) 2 (by decide) rfl (bW (so:=aE qi) (N:=A4) (by decide +kernel)) (Mn.i (yY rfl B.enumerate (aj (ap 2) aU))) (λc l d f j h=>⟨GP rfl (qT (cD (i:=0) (by show (["_law_k","_law_fact","_law_script","_law_at","_law_part"] : List Str).Nodup;decide +kernel) rfl (.inl rfl)) (qT (cD (i:=1) (by show (["_law_k","_law_fact","_law_script","_law_at","_law_part"] : List Str).Nodup;decide +kernel) rfl (.inl rfl)) Cz)),(kR (e8 (yT) (JE.bor (jc a b gy (aj (ap 2) (aj (cg dh (am 3) (am 0)) (aj aL aU))))) (am 4))),(ap 1)⟩)))) cj))))
abbrev kO:dX:=top 45
abbrev qj:List Str:=["_law_script","_law_at","_law_facts_here","_law_name","_law_one","_law_two","_law_goal","_law_needs","_law_bars","_law_ends","_law_parts"]
def ii:bR qj ["_law_script","_law_at","_law_facts_here","_law_name"] (aE kO):=eA (by decide +kernel)
abbrev A6 (e:En):=FN e "_law_thin" 3 4 pU
def G1 (D:i3 e.K e.mg "_law_thin" kO) (B:Bi e.mg) (d:gM e):A6 e:=pd (k:=2) (g:=pT) D ii b4 λ_ _ _ _ _ _ _ c=>by have a:=iZ c;have b:=c.units;unfold pT;exact (aD (dU 4 (cr a (am 2) (JE.bor (jc d c px (aj (ap 0) (aj (cg dh (am 1) (JE.bor aL)) (aj (cc j0 rfl B.len cq (bG (am 2) cj)) aU)))))) ii.nd) (aD (dU 5 (cr a (am 2) (JE.bor (jc d c px (aj (ap 0) (aj (cg dh (am 1) (JE.bor aL)) (aj (cc j0 rfl B.len cq (bG (am 2) cj)) aU)))))) ii.nd) (aD (dU 6 (cr a (am 2) (JE.bor (jc d c px (aj (ap 0) (aj (cg dh (am 1) (JE.bor aL)) (aj (cc j0 rfl B.len cq (bG (am 2) cj)) aU)))))) ii.nd) (aD (dU 7 (re (JE.bor (lL (aj (ap 4) (aj (ap 5) aU)))) yo (se (cg dh (JE.bor aL) (JE.bor (cg Ru (JE.bor (jc d c px (aj (ap 0) (aj (cg dh (am 1) (JE.bor aL)) (aj aL aU))))) (JE.bor aL)))))) ii.nd) (aD (kJ 8 (N':=["_law_fact","_law_needs","_law_script","_law_at"]) (ix:=[7,0,1]) 1 (by decide) ii.nd rfl (bW (so:=aE kO) (N:=qj) (by decide +kernel)) (eE (JE.bor (lL (aj (ap 6) aU)))) (λf n h j m l=>⟨cD (i:=0) (by show (["_law_fact","_law_needs","_law_script","_law_at"] : List Str).Nodup;decide +kernel) rfl (.inl rfl),(kR (JW.t (uc (e8 (yV) (am 0) (am 1)) (pA (e8 (vv b) (JE.bor (jc d c gy (aj (ap 2) (aj (cg dh (am 3) (JE.bor aL)) (aj aL aU))))) (JE.bor aL)))))),(ap 0)⟩)) (aD (kJ 9 (N':=["_law_fact","_law_goal","_law_script","_law_at"]) (ix:=[6,0,1]) 1 (by decide) ii.nd rfl (bW (so:=aE kO) (N:=qj) (by decide +kernel)) (eE (JE.bor (lL (aj (ap 4) aU)))) (λf n h j m l=>⟨cD (i:=0) (by show (["_law_fact","_law_goal","_law_script","_law_at"] : List Str).Nodup;decide +kernel) rfl (.inl rfl),(kR (JW.t (uc (e8 (Bw b) (am 0) (am 1)) (pA (e8 (vv b) (JE.bor (jc d c gy (aj (ap 2) (aj (cg dh (am 3) (JE.bor aL)) (aj aL aU))))) (JE.bor aL)))))),(ap 0)⟩)) (aD (Hv 8 (Hv 9 (kJ 10 (N':=["_law_part"]) (ix:=[]) 1 (by decide) ii.nd rfl (bW (so:=aE kO) (N:=qj) (by decide +kernel)) (eE (JE.bor (o6 (aj (ap 7) (aj (ap 8) (aj (lL (aj (ap 6) aU)) (aj (ap 9) aU))))))) (λf n h j m l=>⟨cD (i:=0) (by show (["_law_part"] : List Str).Nodup;decide +kernel) rfl (.inl rfl),eN,(fU (jv rfl) rfl B.tuple bx (bG (JE.bor (pI rfl (D6 rfl (am 0) rfl B.set) rfl B.sorted)) cj))⟩)))) (aS (bX (o6 (aj (ap 3) (aj (cr a (am 10) (JE.bor aL)) (aj (cr a (am 10) (JE.bor aL)) (aj (cr a (am 10) (JE.bor aL)) (aj (cr a (am 10) (JE.bor aL)) (aj (jc d c px (aj (ap 0) (aj (ap 1) (aj aL aU)))) aU))))))))))))))))
abbrev m7:dX:=top 46
abbrev w9:List Str:=["_law_script","_law_at","_law_facts_here","_law_name","_law_parts","_law_k","_law_fact","_law_way","_law_some_here"]
def gX:bR w9 ["_law_script","_law_at","_law_facts_here","_law_name"] (aE m7):=eA (by decide +kernel)
abbrev wa (e:En):=FN e "_law_errand" 4 4 ja
def B6 (D:i3 e.K e.mg "_law_errand" m7) (B:Bi e.mg) (d:gM e) (f:A6 e):wa e:=pd (k:=3) (g:=j9) D gX b4 λ_ _ _ _ _ _ _ c=>by have a:=iZ c;have b:=c.units;unfold j9;exact (aD (gm (JW.t (uc (e8 (Bw b) (am 2) (JE.bor (o6 aU))) (pA (e8 (vv b) (JE.bor (jc d c px (aj (ap 0) (aj aL (aj aL aU))))) (JE.bor aL))))) (aS (bX (jc f c px (aj (ap 0) (aj (ap 1) (aj (ap 2) (aj (ap 3) aU))))))) dz) (aD (Vh 4 gX.nd) (aD (pG rfl (yY rfl B.enumerate (aj (ap 2) aU)) (pC rfl (dJ (dm 5 gX.nd) (dJ (dm 6 gX.nd) lS))) (aD (dU 7 (jc d c gy (aj (ap 0) (aj (cg dh (JE.bor (cg dh (am 1) (JE.bor aL))) (am 5)) (aj aL aU)))) gX.nd) (aD (gm (e8 (yT) (am 7) (JE.bor aL)) (aS (zf 4 (cr a (JE.bor (lL (aj aL (aj aL (aj aL aU))))) (am 7)) (ap 6))) dz) (aD (dU 7 (jc d c gy (aj (ap 0) (aj (cg dh (JE.bor (cg dh (am 1) (JE.bor aL))) (am 5)) (aj aL aU)))) gX.nd) (aS (gm (e8 (yT) (am 7) (JE.bor aL)) (aS (zf 4 (cr a (JE.bor (lL (aj aL (aj aL (aj aL (aj aL aU)))))) (am 7)) (ap 6))) dz)))))) (aD (NT (kJ 8 (N':=["_law_part"]) (ix:=[]) 1 (by decide) gX.nd rfl (bW (so:=aE m7) (N:=w9) (by decide +kernel)) (eE (am 4)) (λh o j l n m=>⟨cD (i:=0) (by show (["_law_part"] : List Str).Nodup;decide +kernel) rfl (.inl rfl),eN,(fU (jv rfl) rfl B.tuple bx (bG (am 0) cj))⟩))) (aS (bX (o6 (aj (ap 3) (aj (cr a (am 8) (JE.bor aL)) (aj (cr a (am 8) (JE.bor aL)) (aj (cr a (am 8) (JE.bor aL)) (aj (cr a (am 8) (JE.bor aL)) (aj (jc d c px (aj (ap 0) (aj (ap 1) (aj aL aU)))) aU)))))))))))))
abbrev qk:dX:=top 47
abbrev A7:List Str:=["_law_script","_law_at","_law_most","_law_many","_law_facts_here","_law_made","_law_k","_law_name","_law_names","_law_turn"]
def j4:bR A7 ["_law_script","_law_at","_law_most","_law_many"] (aE qk):=eA (by decide +kernel)
abbrev A8 (e:En):=FN e "_law_book" 5 4 mH
def G3 (D:i3 e.K e.mg "_law_book" qk) (B:Bi e.mg) (d:xC e) (f:uD e) (h:wa e) (c:gM e):A8 e:=pd (k:=4) (g:=mG) D j4 b4 λ_ _ _ _ _ _ _ a=>by have b:=iZ a;unfold mG;exact (aD (dU 4 (jc d a px (aj (ap 0) (aj (ap 1) (aj (ap 2) aU)))) j4.nd) (aD (jW 5 J4 j4.nd) (aD (pG rfl (uf rfl B.range (bG (JE.bor (jc c a gy (aj (ap 0) (aj (cg dh (am 1) (JE.bor aL)) (aj (cg dh (am 3) (JE.bor aL)) aU))))) cj)) (dm 6 j4.nd) (aD (dU 7 (jc f a gy (aj (ap 0) (aj (cg dh (JE.bor (cg dh (am 1) (JE.bor aL))) (JE.bor (cg rc (JE.bor aL) (am 6)))) aU))) j4.nd) (aS (D5 5 (jc h a gy (aj (ap 0) (aj (cg dh (JE.bor (cg dh (am 1) (JE.bor aL))) (JE.bor (cg rc (JE.bor aL) (am 6)))) (aj (ap 4) (aj (ap 7) aU))))) (ap 7) b)))) (aD (dU 8 (fU (zc rfl) rfl B.list nu (bG (am 5) cj)) j4.nd) (aD (dU 9 (jc c a px (aj (ap 0) (aj (cg dh (am 1) (JE.bor aL)) (aj (cg dh (JE.bor (cc j0 rfl B.len cq (bG (am 8) cj))) (JE.bor aL)) aU)))) j4.nd) (aS (bX (o6 (aj (ap 4) (aj (fU (jv rfl) rfl B.tuple bx (bG (JE.bor (JN.je (eO (N':=["_law_name","_law_made"]) (ix:=[5]) 1 (by decide) rfl (bW (so:=aE qk) (N:=A7) (by decide +kernel)) (eE (JE.bor (cg dh (JE.bor (re (am 8) (se (ap 9)) yo)) (JE.bor (re (am 8) yo (se (ap 9))))))) (λj p l m o n=>⟨cD (i:=0) (by show (["_law_name","_law_made"] : List Str).Nodup;decide +kernel) rfl (.inl rfl),eN,(cr b (am 1) (am 0))⟩)))) cj)) aU))))))))))
abbrev uF:dX:=top 48
abbrev Ik:List Str:=["_law_script","_law_at","_law_facts_here","_law_must","_law_bars","_law_k","_law_fact","_law_way"]
def jK:bR Ik ["_law_script","_law_at","_law_facts_here"] (aE uF):=eA (by decide +kernel)
abbrev A9 (e:En):=FN e "_law_want" 3 3 uo
def G4 (D:i3 e.K e.mg "_law_want" uF) (B:Bi e.mg) (c:gM e):A9 e:=pd (k:=2) (g:=mI) D jK b3 λ_ _ _ _ _ _ _ b=>by have a:=b.units;unfold mI;exact (aD (jW 3 (yZ aU) jK.nd) (aD (jW 4 (yZ aU) jK.nd) (aD (pG rfl (yY rfl B.enumerate (aj (ap 2) aU)) (pC rfl (dJ (dm 5 jK.nd) (dJ (dm 6 jK.nd) lS))) (aD (dU 7 (jc c b gy (aj (ap 0) (aj (cg dh (am 1) (am 5)) (aj aL aU)))) jK.nd) (aS (gm (e8 (yT) (am 7) (JE.bor aL)) (aS (sg 3 (ap 6))) (aS (gm (e8 (vv a) (am 7) (JE.bor aL)) (aS (sg 4 (ap 6))) dz)))))) (aS (bX (o6 (aj (fU (jv rfl) rfl B.tuple bx (bG (am 3) cj)) (aj (fU (jv rfl) rfl B.tuple bx (bG (am 4) cj)) aU))))))))
abbrev uG:dX:=top 49
abbrev Il:List Str:=["_law_script","_law_most","_law_many","_law_book_here","_law_state"]
def rN:bR Il ["_law_script","_law_most","_law_many"] (aE uG):=eA (by decide +kernel)
abbrev Aa (e:En):=FN e "_law_case" 6 3 jz
def G5 (D:i3 e.K e.mg "_law_case" uG) (c:A8 e) (d:gM e) (f:A5 e) (h:A9 e):Aa e:=pd (k:=5) (g:=pV) D rN b3 λ_ _ _ _ _ _ _ b=>by have a:=iZ b;unfold pV;exact (aD (dU 3 (jc c b px (aj (ap 0) (aj aL (aj (ap 1) (aj (ap 2) aU))))) rN.nd) (aD (dU 4 (jc f b px (aj (ap 0) (aj aL (aj (cr a (am 3) (JE.bor aL)) (aj (cr a (JE.bor (lL (aj aL (aj aL aU)))) (JE.bor (jc d b px (aj (ap 0) (aj aL (aj aL aU)))))) aU))))) rN.nd) (aS (bX (o6 (aj (ap 3) (aj (ap 4) (aj (jc h b px (aj (ap 0) (aj aL (aj (cr a (am 3) (JE.bor aL)) aU)))) aU))))))))
abbrev mV:dX:=top 50
abbrev uK:List Str:=["_law_state","_law_want_here"]
def G6:bR uK ["_law_state","_law_want_here"] (aE mV):=eA (by decide +kernel)
abbrev Ab (e:En):=FN e "_law_good" 1 2 pX
def G7 (D:i3 e.K e.mg "_law_good" mV) (B:Bi e.mg):Ab e:=pd (k:=0) (g:=pW) D G6 b2 λ_ _ _ _ _ _ _ f=>by have a:=iZ f;unfold pW;exact (aS (bX (ud (cc (lM rfl) rfl B.all c7 (bG (JE.bor (JN.je (eO (N':=["_law_fact","_law_state"]) (ix:=[0]) 1 (by decide) rfl (bW (so:=aE mV) (N:=uK) (by decide +kernel)) (eE (JE.bor (cr a (am 1) (JE.bor aL)))) (λb l c d j h=>⟨cD (i:=0) (by show (["_law_fact","_law_state"] : List Str).Nodup;decide +kernel) rfl (.inl rfl),eN,(kH (Bx) (am 0) (am 1))⟩)))) cj)) (wH (Nz (cc (Hq rfl) rfl B.any oC (bG (JE.bor (JN.je (eO (N':=["_law_fact","_law_state"]) (ix:=[0]) 1 (by decide) rfl (bW (so:=aE mV) (N:=uK) (by decide +kernel)) (eE (JE.bor (cr a (am 1) (JE.bor aL)))) (λb l c d j h=>⟨cD (i:=0) (by show (["_law_fact","_law_state"] : List Str).Nodup;decide +kernel) rfl (.inl rfl),eN,(kH (Bx) (am 0) (am 1))⟩)))) cj)))))))
abbrev qm:dX:=top 51
abbrev Ac:List Str:=["_law_errand_here","_law_state","_law_left"]
def xD:bR Ac ["_law_errand_here","_law_state"] (aE qm):=eA (by decide +kernel)
abbrev Ad (e:En):=FN e "_law_step" 2 2 mJ
def G8 (D:i3 e.K e.mg "_law_step" qm) (B:Bi e.mg) (c:Ab e):Ad e:=pd (k:=1) (g:=pY) D xD b2 λ_ _ _ _ _ _ _ b=>by have a:=iZ b;unfold pY;exact (aD (gm (gT (fo (jc c b px (aj (ap 1) (aj (re (am 0) (se aL) (se aL)) aU))))) (aS (bX pz)) dz) (aD (kJ 2 (N':=["_law_fact","_law_errand_here"]) (ix:=[0]) 1 (by decide) xD.nd rfl (bW (so:=aE qm) (N:=Ac) (by decide +kernel)) (eE (am 1)) (λd m f h l j=>⟨cD (i:=0) (by show (["_law_fact","_law_errand_here"] : List Str).Nodup;decide +kernel) rfl (.inl rfl),(kR (e8 (yV) (am 0) (JE.bor (cr a (am 1) (JE.bor aL))))),(ap 0)⟩)) (aS (bX (fU (jv rfl) rfl B.tuple bx (bG (JE.bor (pI rfl (D6 rfl (JE.bor (cg dh (am 2) (JE.bor (fU (zc rfl) rfl B.list nu (bG (JE.bor (cr a (am 0) (JE.bor aL))) cj))))) rfl B.set) rfl B.sorted)) cj))))))
abbrev qo:dX:=top 52
abbrev DR:List Str:=["_law_book_here","_law_state","_law_met","_law_row","_law_at","_law_errand_here","_law_other"]
def gY:bR DR ["_law_book_here","_law_state"] (aE qo):=eA (by decide +kernel)
abbrev wc (e:En):=FN e "_law_levels" 3 2 ir
def B7 (D:i3 e.K e.mg "_law_levels" qo) (B:Bi e.mg) (c:Ad e):wc e:=pd (k:=2) (g:=lY) D gY b2 λ_ _ _ _ _ _ _ b=>by have a:=iZ b;unfold lY;exact (aD (jW 2 (F5 a (ap 1) aL) gY.nd) (aD (jW 3 (yZ (aj (ap 1) aU)) gY.nd) (aD (dU 4 aL gY.nd) (aD (zb 100000 (e8 (yT) (am 4) (JE.bor (cc j0 rfl B.len cq (bG (am 3) cj)))) (aD (pG rfl (D0 (cr a (am 0) (JE.bor aL))) (dm 5 gY.nd) (aD (dU 6 (jc c b gy (aj (ap 5) (aj (cr a (am 3) (am 4)) aU))) gY.nd) (aS (gm (JW.t (uc (e8 (EE) (am 6) (JE.bor pz)) (pA (e8 (BO a) (am 6) (am 2))))) (aD (F4 2 (cg dh (JE.bor (wN a (am 2) (JE.bor (cr a (am 3) (am 4))))) (JE.bor aL)) (ap 6) a) (aS (sg 3 (ap 6)))) dz)))) (aS (dU 4 (cg dh (am 4) (JE.bor aL)) gY.nd)))) (aS (OI 2 (bX (ap 2))))))))
abbrev qx:dX:=top 53
abbrev G9:List Str:=["_law_script","_law_book_here","_law_state","_law_want_here","_law_rows","_law_told","_law_due","_law_many","_law_met","_law_one"]
def lN:bR G9 ["_law_script"] (aE qx):=eA (by decide +kernel)
def We {f:ao}{o:fG} (F:KJ e.K "law" "law" qx f o) (B:Bi e.mg) (y:Aa e) (v:FV e) (p:Q5 e) (u:Uk e) (x:wc e):sZ e.P e.w e.K e.mg e.base (Al e.P e.w) 11 f o ["_law_script"] (Rz e.K e.cls 1 F_law):=by
 refine Tw (k:=10) (g:=JM) F lN λq A outer s H E c=>?_
 have a:=iZ c
 have b:=c.units
 unfold JM
 exact (aD (wJ (jc y c px (aj (ap 0) (aj aL (aj aL aU)))) (pC rfl (dJ (dm 1 lN.nd) (dJ (dm 2 lN.nd) (dJ (dm 3 lN.nd) lS))))) (aD (jW 4 (L9 rfl (jc v c px (aj (ap 1) (aj (ap 2) aU))) rfl B.dict) lN.nd) (aD (dU 5 (jc p c px (aj (ap 1) (aj (ap 2) (aj (ap 3) aU)))) lN.nd) (aD (dU 6 pz lN.nd) (aD (gm (fo (cc (lM rfl) rfl B.all c7 (bG (JE.bor (JN.je (eO (N':=["_law_fact","_law_rows"]) (ix:=[4]) 1 (by decide) rfl (bW (so:=aE qx) (N:=G9) (by decide +kernel)) (eE (JE.bor (cr a (am 3) (JE.bor aL)))) (λd l m j n h=>⟨cD (i:=0) (by show (["_law_fact","_law_rows"] : List Str).Nodup;decide +kernel) rfl (.inl rfl),eN,(kH (Dh a) (am 0) (am 1))⟩)))) cj))) (aD (dU 6 (cc (Vx rfl) rfl B.max yC (bG (JE.bor (cg dh (JE.bor (lL (aj aL aU))) (JE.bor (JN.je (eO (N':=["_law_fact","_law_rows"]) (ix:=[4]) 1 (by decide) rfl (bW (so:=aE qx) (N:=G9) (by decide +kernel)) (eE (JE.bor (cr a (am 3) (JE.bor aL)))) (λd l m j n h=>⟨cD (i:=0) (by show (["_law_fact","_law_rows"] : List Str).Nodup;decide +kernel) rfl (.inl rfl),eN,(cr a (am 1) (am 0))⟩)))))) cj)) lN.nd) (aS (gm (JW.t (uc (e8 (vv b) (am 6) (JE.bor aL)) (pA (fo (cc (Hq rfl) rfl B.any oC (bG (JE.bor (JN.je (eO (N':=["_law_fact","_law_state"]) (ix:=[2]) 1 (by decide) rfl (bW (so:=aE qx) (N:=G9) (by decide +kernel)) (eE (JE.bor (cr a (am 3) (JE.bor aL)))) (λd l m j n h=>⟨cD (i:=0) (by show (["_law_fact","_law_state"] : List Str).Nodup;decide +kernel) rfl (.inl rfl),eN,(kH (Bx) (am 0) (am 1))⟩)))) cj)))))) (aS (dU 6 aL lN.nd)) dz))) dz) (aD (dU 7 (jc u c px (aj (ap 1) (aj (ap 2) (aj (ap 3) aU)))) lN.nd) (aD (gm (JW.t (q_ (e8 (Bw b) (am 5) (am 6)) (mw (JW.t (uc (e8 (EE) (am 7) (JE.bor pz)) (pA (JW.t (q_ (e8 (Tp) (am 5) (JE.bor pz)) (mw (e8 (NF) (am 5) (am 7))))))))))) (aS (bX mv)) dz) (aD (dU 8 (jc x c px (aj (ap 1) (aj (ap 2) aU))) lN.nd) (aD (pG rfl (OK (ap 8)) (dm 9 lN.nd) (aS (gm (gT (fo (cc (lM rfl) rfl B.all c7 (bG (JE.bor (JN.je (eO (N':=["_law_fact","_law_rows","_law_met","_law_one"]) (ix:=[4,8,9]) 1 (by decide) rfl (bW (so:=aE qx) (N:=G9) (by decide +kernel)) (eE (am 9)) (λd l m j n h=>⟨cD (i:=0) (by show (["_law_fact","_law_rows","_law_met","_law_one"] : List Str).Nodup;decide +kernel) rfl (.inl rfl),eN,(ud (kH (Dh a) (am 0) (am 1)) (wH (kH (yU) (JE.bor (cr a (am 1) (am 0))) (JE.bor (wN a (am 2) (am 3))))))⟩)))) cj)))) (aS (bX mv)) dz))) (aS (bX mv)))))))))))
end
def all_mk {l:xH}{w:bz}{K:aa}{h:bD}{a:Str->Option af}{k A:ao}{od E:Option ao}{sl:Array (Option af)}{oc kV y t d u:af} (X:K.In h) (G:h.Ns cf a) (f:a "law"=some (.ref k))
  (Zz:Zs K zn)
  (mQ:Cn a "MOST_LETTERS" 6)
  (P:Cn a "MOST_PRICE" 9)
  (I:Cn a "MOST_FACTS" 6)
  (mR:Cn a "MOST_ERRANDS" 6)
  (DS:i3 K a "share_none" m5)
  (Y:i3 K a "without" sL)
  (Q9:i3 K a "joined" zQ)
  (LX:i3 K a "is_word" sM)
  (uO:i3 K a "are_rising_words" gj)
  (Ga:i3 K a "are_facts" nL)
  (O:i3 K a "is_whole" uv)
  (H:i3 K a "is_errand" nN)
  (LY:i3 K a "is_book" oX)
  (L_:i3 K a "is_want" wY)
  (B8:i3 K a "check_state" oq)
  (S:i3 K a "check_want" qc)
  (M0:i3 K a "fulfils" sO)
  (N:i3 K a "is_doable" rq)
  (Af:i3 K a "state_behind" mS)
  (M1:i3 K a "checked" xb)
  (B9:i3 K a "check_place" ou)
  (Gd:i3 K a "check_aim" rA)
  (Ge:i3 K a "made_next" lr)
  (T:i3 K a "first_layers" kf)
  (Qa:i3 K a "layers" zY)
  (Wf:i3 K a "hint" zZ)
  (DU:i3 K a "steps_from" m6)
  (DV:i3 K a "first_rows" qe)
  (M2:i3 K a "nearest" oY)
  (L:i3 K a "shortest" uA)
  (Yl:i3 K a "far" Q6)
  (Ba:i3 K a "_law_cell_at" oA)
  (Gf:i3 K a "_law_mixed" rK)
  (Iq:i3 K a "_law_word" uC)
  (Gg:i3 K a "_law_facts" rL)
  (Ir:i3 K a "_law_some" qi)
  (Iu:i3 K a "_law_thin" kO)
  (DW:i3 K a "_law_errand" m7)
  (U:i3 K a "_law_book" qk)
  (Iw:i3 K a "_law_want" uF)
  (Ix:i3 K a "_law_case" uG)
  (Iy:i3 K a "_law_good" mV)
  (Iz:i3 K a "_law_step" qm)
  (DX:i3 K a "_law_levels" qo)
  (l0:io K cf "law"=some (some (.ref A)))
  (l1:K.lookup A=some ⟨oc,od,.func (gG "law" "law" (kQ qx) (iK qx) (aE qx) .none kV y t E d u),sl⟩)
  (l2:mo K d "law"=true)
  (l3:fY K (.ref A)=true)
  : ∃ j:fG,(∀ (s:ai) (v:af),Ar s j ⟨[v],[]⟩ [("_law_script",v)])/\∀ base:bD,K.In base->base.Ns cf a->sZ l.prog w K a base (Al l.prog w) 11 k j ["_law_script"] (Xa K F_law):=by
 have q:=f.symm.trans (tK X G l0)
 cases q
 refine ⟨gG "law" "law" (kQ qx) (iK qx) (aE qx) .none kV y t E d u,λs v=>.of_eq rfl,λbase X G=>?_⟩
 let e:En:=⟨l.prog,w,K,a,base,Xb []⟩
 have B:Bi e.mg:=Xv X G Zz
 have c:=AV (e:=e) DS B
 have xa:=HU (e:=e) Y B
 have zV:=LQ (e:=e) Q9 B
 have o:=HW (e:=e) LX B mQ
 have x:=tw (e:=e) uO B o
 have g:=DG (e:=e) Ga B x
 have uw:=FS (e:=e) O B
 have ro:=DH (e:=e) H B o uw g c P
 have xc:=HY (e:=e) LY B x ro I mR
 have wZ:=HZ (e:=e) L_ B g c
 have oz:=zT (e:=e) B8 g
 have qd:=AY (e:=e) S wZ
 have p:=H_ (e:=e) M0 B c
 have rH:=DK (e:=e) N p
 have mU:=x_ (e:=e) Af xa zV
 have xf:=Ie (e:=e) M1 xc
 have m:=zX (e:=e) B9 xf oz
 have z:=DM (e:=e) Gd m qd
 have nO:=DN (e:=e) Ge B
 have n:=y0 (e:=e) T nO
 have Ae:=LV (e:=e) Qa B m n
 have Im:=SX (e:=e) Wf B z n c
 have qf:=B0 (e:=e) DU rH mU
 have qg:=B4 (e:=e) DV qf
 have xh:=Ih (e:=e) M2 B p
 have M:=FW (e:=e) L z qg xh
 have Q:=Wd (e:=e) Yl B M
 have oB:=A3 (e:=e) Ba B
 have b:=DP (e:=e) Gf oB
 have i:=FY (e:=e) Iq B b
 have rM:=DQ (e:=e) Gg B i b
 have uI:=G0 (e:=e) Ir B b
 have uE:=G1 (e:=e) Iu B b
 have ql:=B6 (e:=e) DW B b uE
 have uH:=G3 (e:=e) U B rM i ql b
 have uJ:=G4 (e:=e) Iw B b
 have uN:=G5 (e:=e) Ix uH b uI uJ
 have uL:=G7 (e:=e) Iy B
 have uM:=G8 (e:=e) Iz B uL
 have qp:=B7 (e:=e) DX B uM
 exact (We (e:=e) (N5 l1 l2 l3) B uN Ae Im Q qp).imp Vi
end Z
section
open PySem PySem.W PyProof.Rows
namespace PySem.W.Fast
def tw16007647800240873976:Nat:=0
def tw15838553500386731811:Nat:=0
def tw17982894863610482708:Nat:=0
def tw2927260620351529950:Nat:=0
def tw12373014546688912955:Nat:=0
def tw11721089661638702020:Nat:=0
def tw14352668092165064035:Nat:=0
def tw4670664535281892209:Nat:=0
def tw12447806938990163421:Nat:=0
def tw4547796881224859423:Nat:=0
def tw5747602127547308081:Nat:=0
def tw1436218496539328626:Nat:=0
def tw5072889065315569609:Nat:=0
def tw17521658966292573842:Nat:=0
def tw7583782173083011026:Nat:=0
def tw1638457547457953695:Nat:=0
def tw9508782077755058026:Nat:=0
def tw18202807540077219005:Nat:=0
def tw2256581071197158120:Nat:=0
def tw12491453586637714414:Nat:=0
def tw3115039270570047364:Nat:=0
def tw8086939108754765536:Nat:=0
def tw14488795756580657249:Nat:=0
def tw3029675342301845435:Nat:=0
def tw13184478553884390895:Nat:=0
def tw3763416452963799365:Nat:=0
def tw17466534180842168559:Nat:=0
def tw13519904806555642364:Nat:=0
def tw10701670880432591558:Nat:=0
def tw13056023229970986722:Nat:=0
def tw18445203409020268214:Nat:=0
def tw5009085061452744867:Nat:=0
def tw4896880742455555982:Nat:=0
def tw17892570367931562508:Nat:=0
def tw2286718114003899870:Nat:=0
def tw4471487540971991955:Nat:=0
def tw7352684469777860512:Nat:=0
def tw11212051468068920314:Nat:=0
def tw14968965862819358613:Nat:=0
def tw4075837953877224555:Nat:=0
def tw9091146310440087030:Nat:=0
def tw7741208588114729843:Nat:=0
def tw13300093192992261644:Nat:=0
def tw13786014801101640186:Nat:=0
def tw4479787075354820543:Nat:=0
def tw7067644012932058957:Nat:=0
def tw17464254544569199188:Nat:=0
def tw6876032694823272473:Nat:=0
def tw10162874595924072570:Nat:=0
def tw13055319297359140351:Nat:=0
def tw14194225613195636510:Nat:=0
def tw12712953854058308718:Nat:=0
def tw4539624270485742849:Nat:=0
def tw13920200538843208399:Nat:=0
def tw4264189026034769326:Nat:=0
def tw13121062011953085939:Nat:=0
def tw2810912195568086562:Nat:=0
def tw15399203842730915015:Nat:=0
def tw10519514647798003762:Nat:=0
def tw12623429544348985985:Nat:=0
def tw11375563275300694664:Nat:=0
def tw2274268280156613258:Nat:=0
def tw6955093622174500393:Nat:=0
def tw11463958322510376384:Nat:=0
def tw11604725948288902382:Nat:=0
def tw2804558011421874189:Nat:=0
def tw3345912115857422236:Nat:=0
def tw9929407292170974080:Nat:=0
def tw18010034447045346303:Nat:=0
def tw13595417594063866011:Nat:=0
def tw12605025208938909065:Nat:=0
def tw467756750059386059:Nat:=0
def tw4955551600487328507:Nat:=0
def tw500345620134809088:Nat:=0
def tw2838069798899462705:Nat:=0
def tw7726810894908046102:Nat:=0
def tw8758222002348008891:Nat:=0
def tw881619972656075502:Nat:=0
def tw10562009516224570923:Nat:=0
def tw752608480069162435:Nat:=0
def tw3997364259891510787:Nat:=0
def tw15799969655884935146:Nat:=0
def tw12288707558384401060:Nat:=0
def tw2561826280227618699:Nat:=0
def tw1670091813887749271:Nat:=0
def tw10853104798173826618:Nat:=0
def tw17047073814295686555:Nat:=0
def tw6410849549130674263:Nat:=0
def tw15131201141177877916:Nat:=0
def tw12861228187747349553:Nat:=0
def tw1558943814762574789:Nat:=0
def tw6851306668781819789:Nat:=0
def tw9192844292228992892:Nat:=0
def tw3502535310754391664:Nat:=0
def tw17197768534485072744:Nat:=0
def tw15347521715896773754:Nat:=0
def tw6221429007478621726:Nat:=0
def tw8473198181053982290:Nat:=0
def tw855406659718125960:Nat:=0
def tw1833308650394336656:Nat:=0
def tw1875290854134345719:Nat:=0
def tw14606568863288884908:Nat:=0
def tw3741383776749234429:Nat:=0
def tw6143910642971819788:Nat:=0
def tw1717676130926192613:Nat:=0
def tw14082915805738120582:Nat:=0
def tw187151178429313636:Nat:=0
end PySem.W.Fast
theorem PySem.Challenge.cw_errands_k16_whole_hint_holds : PySem.Challenge.rw_errands_k16_whole_hint.Holds := by
 w_on;o_law;k_head;(case hw=>w_witness2)
 k_fill
 refine J.walkF (l:=PySem.Challenge.rw_errands_k16_whole_hint) (k:=11) (x:="_law_script") (F0:=Z.F_law) rfl rfl ⟨rfl,by decide,by decide⟩ (λw h Y=>by first|exact PySem.W.kIn_of Y|exact PySem.W.km_in_of Y) ?F (λc _=>Z.law_true c)
 case F =>
  intro w d e h b G a
  refine' Z.all_mk b G a ?_ ?_ ?_ ?_ ?_ ?_ ?_ ?_ ?_ ?_ ?_ ?_ ?_ ?_ ?_ ?_ ?_ ?_ ?_ ?_ ?_ ?_ ?_ ?_ ?_ ?_ ?_ ?_ ?_ ?_ ?_ ?_ ?_ ?_ ?_ ?_ ?_ ?_ ?_ ?_ ?_ ?_ ?_ ?_ ?_ ?_ ?_ ?_ ?_
  all_goals first
   |(refine' J.d_in b G ?_ ?_ ?_ ?_<;>try k_is)
   |(refine' J.cn_in b G ?_<;>try k_is)
   |k_is
   |(refine' J.TopC.mk ?_ ?_ ?_<;>try (first|k_is|k_exc))
   |(refine' J.topN ?_ ?_ ?_ ?_ ?_ ?_ ?_ ?_ ?_ ?_ ?_ ?_ ?_ ?_ ?_ ?_ ?_ ?_ ?_ ?_ ?_ ?_ ?_<;>try (first|k_is|rfl|exact λ_ _=>⟨_,rfl,rfl⟩|decide +kernel))
   |((refine' J.Wy.mk ?_ ?_ ?_ ?_ ?_ ?_ ?_ ?_ ?_ ?_)<;>try (first|k_is|decide|((repeat' (first|exact .nil|refine' .cons ?_ ?_ ?_))<;>try (first|k_is|decide))))
   |((repeat' (first|exact .nil|refine' .cons ?_ ?_))<;>try (first|(refine' J.cw_in ?_ ?_ ?_<;>try k_is)|k_is))
   |skip
end
