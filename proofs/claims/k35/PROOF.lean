import PyProof.Rows.All
import Wide.All
import OpenK.AllK
import Wide.FinOn
import Lean
import PyProof.EqAt
import PyProof.EqKinds
import PyProof.TupleCall
import KE.KDictOf
import PyProof.AttrMissHeap
import KE.KRevIter
import PyProof.DictWalks
import PyProof.MinMaxWalk
import PyProof.SeqI3
import PyProof.WalkInts
import PyProof.ExcInit
import PyProof.InstStoreFacts
import PyProof.DictCompW
import KE.KItemsList
import KE.KEqDict
import PyProof.Rows.CallKwBuiltin
import PyProof.StrBlock
import PyProof.Rows.StrJoin2
import PyProof.Rows.FStr
import PyProof.Rows.StrSplitAre
import PyProof.StrCalls
import KE.KUnpackStar
import PyProof.StrBlockI
import PyProof.CallStr
import PySem.Challenge.RW_errands_k35_whole_texts
set_option Elab.async false
set_option linter.all false
set_option maxRecDepth 100000
set_option maxHeartbeats 0
open PySem renaming wpAny_bind->a5,Value->a8,wpAny_pure->a9,Shared->aa,Addr->ac,wpAny->ak,starEach->aq,model->az,Program->aH,Expr->aP,mainGlobals->aW,World->aY,Around->aZ,Heap->ba,cellsFrom->bB,compareOp->bG,wpAny_field->bH,wpAny_callSpecial?_slot->bK,rawInt->bM,eval->bU,wpAny_call_entry->bV,wpAny_seqItems->bY,wpAny_mono->c6,wpAny_setField_rec->c8,wpAny_newObj_type->ck,strLen_append->cm,boot_len->cp,wpAny_holding->cG,mem_of_lookup->cK,wpAny_truthy_bool->cS,IsPair->cW,FuncData->db,assignEach->dh,foldedSetIterable->dk,Stmt->du,wpAny_pyIter_tuple->dR,Scope->dW,wpAny_setState_of->en,binaryOp->fc,sizeLine_eq->fe,wpAny_updateSeq_pair->fg,behindInMarks->fm,attributeBase->fo,wpAny_rule->ft,backTo->fK,scanBound->fL,setField->fM,strIterType->gj,sysModules->gm,bootBuiltins->gq,codeAny->gx,Builtin->gC,letOwnedTupleGo->gP,codeAny_builtin->gQ,wpAny_attempt->gU,wpAny_onRaise->gW,wpAny_pyIter_list->hJ,IsZip->hW,wpAny_setField->i8,swapsWith->iB,wpAny_askSetting->iD,NameKind->jA,call_meets->ke,wpAny_isInstance->kf,wpAny_standAt->kP,sliceBounds->kR,wpAny_passesOwn->lC,codeAny_mono->lO,pickOrder->mq,assign->ms,pyNext->mx,wpAny_Call_Name_kw->my,typeIs_str->mB,getItem->nN,fits_of_scanBound->nP,wpAny_letGo->nR,wpAny_comprehension_free->nZ,cLine->pQ,ZipApart->pR,wpAny_pyIter_zip->pS,wpAny_typeOf->qi,wpAny_execs_nil->qQ,IsPart->sB,SetTable->sD,relayAll->sF,wpAny_of_eq->sH,codeAny_call_builtin->sI,raiseNew->sJ,firstArgMember->sK,isSubtype_stop->sL,field->sM,standAt->tM,BindsTo->tN,callerA->tO,plainId_quiet->uy,isTrue->uO,pyIter->uP,wpAny_call->uS,tupleKind_room_in1->uU,newExc->uW,Keyword->wv,concat_meets->ww,valueAt->wx,tupleKind->yg,noFill_tuple_add->yh,PyData->yk,subscripted->zJ,wpAny_specialOf->zS,codeAny_of_tree->zT,GenState->Bl,recursionLimit->Bo,Result->Bp,bindL->Bs,bindC->Bt,wpAny_newFunctionEnv_cells->Bu,typeLookup->Bv,atKey->Bx,newFunctionEnv->By,isSubtype_type->BA,isInstance->BB,wpAny_letOwnedTupleGo_zip->D5,swapsWithSole->Ef,swappedStores->Eg,seq_tuple_add->Ek,call->Eo,Drawn->FV,CmpOp->FW,lastMarks->FX,noteFrame->F_,seqItems?->G3,Paired->Ge,holding->Gf,setNext->Gj,callType_new->Gm,wpAny_nextOf_list_item->Gr,wpAny_isTrue_Compare1->JR,codeAny_call_function->JU,builtinLookup_eq_fast->JY,Model->K6,bindArgs->K7,keywordEach->K8,wpAny_alloc->Ka,Walks->Kc,unsupported->Kg
open PySem.W renaming Frag->a6,mroIn->bS,kia_one->b_,kitOne->cL,keepIn->cZ,fnOf->dw,nsIn->dz,nsMap_none_of_in->dA,cellsFrom_some->e7,clsIn->eS,mg_of->eT,findIn->eY,codeIn->iI,isNs_of_in->kh,subIn->lE,looks_findIn->o7,codeRec_of->qh,methodObj->qS,specialIn->qT,kitx_list->qU,instObj->ui,takesIn->uj,OpenLaw->uk,lookIn->uQ,typeIn->uY,excIn->wD,hideAll_get->Ba,of_hideAll->Bk,kitx_tuple->Bm,callWith_K->Br,mg_none_of->BD,kitx_dict->D3,plainGet->Ei,hideAll->FU,kitCls->Gp,nsOkIn->Gq,WalkO->JV,Looks->JZ
open PySem.Heap renaming get?_push_of_some->a7,lt_size->ah,get?_push_size->aj,size_push->bC,SameBut->c9,get?_update_self->g9,get?_update_other->nO,IsTuple->tQ
open List renaming getElem?_set_ne->ae,map_cons->am,mem_cons_of_mem->ao,length_map->au,mem_cons_self->aw,getElem?_set_self->ax,size_toArray->aA,length_cons->aD,getElem?_map->aF,not_mem_nil->aG,length_append->aI,mem_append_right->aN,mem_cons->aQ,getElem?_append_right->b6,getElem?_eq_getElem->b9,getElem?_append_left->bh,getElem?_replicate->bD,append_nil->bP,range->bW,sum_cons->bX,getElem?_eq_none->c7,all_eq_true->cc,lookup_cons->cr,length_replicate->cx,map_map->cB,find?_cons->cU,mem_singleton->dC,map_nil->dH,mem_of_getElem?->dL,any_cons->eu,getD_eq_getElem?_getD->eJ,length_nil->eR,getElem?_cons_succ->fh,map_append->fV,append_assoc->gz,length_drop->hU,sublist_append_left->iq,forIn_cons->iC,length_singleton->js,length_take->jx,getElem_mem->jy,nil_append->jY,foldl_cons->jZ,getElem_of_mem->kg,map_congr_left->ki,replicate->kW,forIn_nil->kX,contains_cons->kY,nodup_nil->kZ,drop_left->l5,length->lP,length_range->lR,zipIdx_cons->ny,getElem?_cons_zero->nA,cons_append->nC,take_of_length_le->nV,of_mem_zip->nY,zipIdx_nil->n_,sum_append->o8,mem_append_left->p_,drop_zero->q0,map->q9,filterMap_cons->qP,all_cons->qX,map_drop->r6,set_cons_zero->sw,set_cons_succ->sx,getElem?_drop->sA,foldl_append->tS,any_eq_true->uz,lookup->uV,length_eraseIdx_of_lt->xj,foldl_map->xo,take_left->xp,drop_drop->xq,mem_map->Bc,getElem?_range->Es,replicate_succ->Eu,replicate_zero->Ev,lookup_append->FZ,map_inj_right->G6,nodup_append->Gi,mem_append->Kb
open Nat renaming le_refl->al,lt_of_lt_of_le->ay,ne_of_lt->aE,le_trans->bv,le_of_lt->bw,zero_le->bT,lt_irrefl->cu,ne_of_gt->dI,lt_succ_of_lt->gL,lt_succ_self->hX,le_succ->ml,le_add_right->nI,lt_of_le_of_lt->sC,min_le_right->uT,add_mul->wq,one_mul->wu,lt_asymm->Bz,add_lt_add_right->Et,mul_le_mul_right->Ew,add_left_cancel->G5,lt_succ_of_le->JX,lt_trichotomy->K1,le_of_not_lt->K9,reduceLeDiff->Kk,reduceEqDiff->Kl
open PySem.PyData renaming str->av,eqv->bf,bool->bZ,canLayAll0->cy,strOk->cz,tuple->dD,canLay0->eF,int->eG,eqvAll->i7,list->iE,depthAll->jH,depth->sy
open Bool renaming and_eq_true->aC,false_ne_true->aU,false_eq_true->bg,eq_iff_iff->fS,not_false->gX,and_self->io,not_true->ip,noConfusion->jz,or_eq_true->jX,beq_eq_decide_eq->oY,false_or->qY,true_and->q_,false_and->xg,not_eq_true'->Go
open Array renaming length_toList->aO,toList_append->de,getElem?_toList->eI,all_toList->mC,getD_eq_getD_getElem?->wp,getElem?_eq_getElem->xn,toArray_toList->BC,append_assoc->Ed,find?_toList->Eh,toList_push->G0
open PySem.Txt renaming partition->aR,split->bi,join->j6,find->um
open PySem.Str renaming join->aX,ofString->bc,cps_append->fv,empty->uR,empty_append->Km
open PySem.Builtin.SmallTypes renaming nextOf->bd,ownedTupleIsFree->bq,ownedTupleHandOut->dg
open Option.some renaming inj->bt,injEq->zL
open PyProof.Rows renaming boot_tuple->bx,callWith_type1->dJ,boot_all->ed,slot_tuple_getitem->eL,envOfC->iH,Keyed->iV,boot_isinstance->iZ,boot_str->lM,AllBare->nM,StrsAre->nQ,isBoolOf->sO,SortKind->sP,boot_sorted->tR,boot_list->uA,SortSt->BE,joinParts_cons->BF,subscriptTail->El,subscriptTail_builtinR->Gg,IntsAre->Gh,FormattedValue_plain->Kj
open PySem.Value renaming ref->bL,none->dZ,bool->gN,type->gO,str->iF,int->mr,isStrOf->qO
open PySem.NameKind renaming free->bQ,cell->cY,«local»->nU
open Int renaming toNat_of_nonneg->cb,toNat_natCast->j5,emod_lt_of_pos->sQ,emod_nonneg->wF,reduceLT->BG
open PySem.Heap.SameBut renaming update->cE
open Option renaming map_some->cQ,getD_none->f9,getD_some->jk,isSome_some->qR,isSome_map->Ep
open False renaming elim->dv
open PySem.F renaming plainAttrs_list->dO,slot_zip_next->eW,slot_tuple_iterator_next->hZ,args_tuple_add_2->lD,entry_tuple_add->lQ,slot_tuple_add->mz,args_zip_next_1->nz,entry_zip_next->o6,args_str_split_2->ul,entry_str_split->uZ,slot_list_append->wB,type_list_append->wC,slot_str_split->wE,slot_list_extend->wG,type_list_extend->wH,slot_list_count->xl,slot_list_index->xm,args_tuple_iterator_next_1->yi,entry_tuple_iterator_next->zK,slot_enumerate_next->G4,args_object_init_3->Gn
open Or renaming inr->dX,inl->fF
open PySem.Heap.FunFrames renaming mem->dY
open Ne renaming symm->e6
open PySem.Builtin.Str renaming strSub->e8
open PySem.Obj renaming mapFields->eE,mapSeq->jC,putSet->sG,data_mapFields->Gk
open PySem.AutoSeq1 renaming wpAny_loadPart'->eO
open List.Sublist renaming refl->fu
open PySem.StrLaws renaming strSub_toList->fN,glued_eq_join->i_,At->j7,partsFrom->k_,partsBetween_eq->lS,occ_length_le->zM,subAt_eq->Ex
open PySem.Builtin.Slice renaming slicePlaces->fU,sliceAdjust->jB,sliceApplied->qV
open PyProof.Rows.F renaming plain_set_update_loop->fW,entry_set_update_loop->mn
open PySem.SetTable renaming grown->gd,below->gf,orStandIn->Bb
open PySem.Builtin.Tuple renaming tupleExact->gy,tupleItemsOf->qW
open PySem.Around renaming under_plainId->gM
open ForInStep renaming yield->hV
open True renaming intro->iG
open PySem.Builtin.List renaming listTooLong->jW,listExtendWith->qZ,listSameRef->tP
open PySem.Calls renaming Name_function_global->kQ,call_function_entry->xk,loadGlobal_global->zH,evalArgs_plain->Bw,Constant_str->Ee,spliced_cons->Ej,spliced_nil->FY
open PySem.Paired renaming length->lL
open PySem.Shared renaming heap->oX,TypeIs->Ke
open PySem.Builtin.Frozenset renaming sizeOf->qj,newClass->Kd,updateFrom->Kf,oneOther->Kh,addrOf->Ki
open Sum renaming inl->ug,inr->uh
open And renaming intro->uX
open PySem.Walks renaming list->wy
open PySem.pickOrder renaming go->wz
open PySem.SetTable.below renaming go->wA
open PySem.SeqAt.EqAt renaming bool_bool->xh,int_str->zF,str_int->zG
open List.Pairwise renaming nil->xi
open PySem.Heap.IsTuple renaming push->yj
open PyProof.Rows.IsTup renaming new->zI
open PySem.Value.type renaming inj->D4
open PySem.PassesOwn renaming never->D6
open PySem.SeqAt renaming EqAt->Em
open PySem.Code renaming quiet_builtin->G1
open PySem.Builtin.ObjectAttr renaming attrName->J_,find->K0
section
namespace L2
open PySem PySem.Spec PyProof.Rows
abbrev fz:=Sum Int Str
def u_:fz->a8->Bool
 |.inl k,v=>Value.isInt k v
 |.inr x,v=>qO x v
def Rx (w:aY):fz->Int
 |.inl k=>hashInt k
 |.inr x=>hashStr w x
theorem ej:∀ {k:fz}{v:a8},u_ k v=true->(∃ i t,k=ug i/\v=mr i t)\/(∃ x t,k=uh x/\v=iF x t)
 |.inl i,v,h=>by
  obtain ⟨t,e⟩:=Value.isInt_shape (k:=i) (v:=v) h
  exact .inl ⟨i,t,rfl,e⟩
 |.inr x,v,h=>by
  obtain ⟨t,e⟩:=Value.isStrOf_shape (x:=x) (v:=v) h
  exact .inr ⟨x,t,rfl,e⟩
theorem Ey (i:Int) (t:Tok):u_ (.inl i) (.int i t)=true:=by simp [u_,Value.isInt]
theorem Ez (x:Str) (t:Tok):u_ (.inr x) (.str x t)=true:=by simp [u_,qO]
theorem NI (a b:Int):decide ((ug a:fz)=ug b)=(a==b):=by
 by_cases e:a=b
 ·subst e;simp
 ·have h:¬ (ug a:fz)=ug b:=fun q=>e (Sum.inl.inj q)
  rw [decide_eq_false h]
  exact (beq_eq_false_iff_ne.mpr e).symm
theorem NJ (a b:Str):decide ((uh a:fz)=uh b)=decide (a=b):=by
 by_cases e:a=b
 ·subst e;simp
 ·have h:¬ (uh a:fz)=uh b:=fun q=>e (Sum.inr.inj q)
  rw [decide_eq_false h,decide_eq_false e]
theorem NK (a:Int) (b:Str):decide ((ug a:fz)=uh b)=false:=decide_eq_false (fun q=>nomatch q)
theorem NL (a:Str) (b:Int):decide ((uh a:fz)=ug b)=false:=decide_eq_false (fun q=>nomatch q)
def fA (prog:aH) (w:aY):PySem.KeyKind prog w fz where
 is:=u_
 hash:=Rx w
 inj:=fun v a b ha hb=>by
  rcases ej ha with ⟨i,t,rfl,rfl⟩|⟨x,t,rfl,rfl⟩
  ·rcases ej hb with ⟨j,u,rfl,e⟩|⟨y,u,rfl,e⟩
   ·injection e with e1 _;rw [e1]
   ·exact nomatch e
  ·rcases ej hb with ⟨j,u,rfl,e⟩|⟨y,u,rfl,e⟩
   ·exact nomatch e
   ·injection e with e1 _;rw [e1]
 byValue:=fun k v h=>by
  rcases ej h with ⟨i,t,rfl,rfl⟩|⟨x,t,rfl,rfl⟩<;>rfl
 pyHash:=fun hv h=>by
  rcases ej hv with ⟨i,t,rfl,rfl⟩|⟨x,t,rfl,rfl⟩
  ·exact wpAny_pyHash_int h
  ·exact wpAny_pyHash_str h
 eqBool:=fun hu hv h=>by
  rcases ej hu with ⟨i,t,rfl,rfl⟩|⟨x,t,rfl,rfl⟩
  ·rcases ej hv with ⟨j,u,rfl,rfl⟩|⟨y,u,rfl,rfl⟩
   ·rw [NI] at h;exact wpAny_eqBool_int h
   ·rw [NK] at h;exact zF i t y u _ _ _ _ h
  ·rcases ej hv with ⟨j,u,rfl,rfl⟩|⟨y,u,rfl,rfl⟩
   ·rw [NL] at h;exact zG x t j u _ _ _ _ h
   ·rw [NJ] at h;exact wpAny_eqBool_str h
 «strs»:=fun k x t v h=>by
  rcases ej h with ⟨i,u,rfl,e⟩|⟨y,u,rfl,e⟩
  ·exact nomatch e
  ·injection e with e1 _
   subst e1
   cases v<;>rfl
theorem zU (prog:aH) (w:aY) (i:Int) (t:Tok):(fA prog w).is (.inl i) (.int i t)=true:=Ey i t
theorem zV (prog:aH) (w:aY) (x:Str) (t:Tok):(fA prog w).is (.inr x) (.str x t)=true:=Ez x t
end L2
namespace L2
open PySem PySem.Spec PyProof.Rows
inductive V where
 |non|bl (b:Bool)|int (i:Int)|str (x:Str)|byt (b:Array UInt8)|flt (b:UInt64)|ref (a:ac)|ty (n:String)
 deriving DecidableEq
def cD:V->a8->Prop
 |.non,u=>u=dZ
 |.bl b,u=>u=gN b
 |.int i,u=>∃ t,u=mr i t
 |.str x,u=>∃ t,u=iF x t
 |.byt b,u=>∃ t,u=Value.bytes b t
 |.flt b,u=>∃ t,u=Value.float b t
 |.ref a,u=>u=bL a
 |.ty n,u=>u=gO n
abbrev cF:List V->List a8->Prop:=Ge cD
theorem cF.length {xs:List V}{us:List a8} (r:cF xs us):xs.length=us.length:=lL r
theorem cF.get {xs:List V}{us:List a8} (h:cF xs us):∀ {i:Nat}{x:V},xs[i]?=some x->∃ u,us[i]?=some u/\cD x u:=by
 induction h with
 |nil=>intro i x e;cases e
 |cons r t ih =>
  intro i x e
  cases i with
  |zero=>cases e;exact ⟨_,rfl,r⟩
  |succ i=>have q:=ih (i:=i) e;exact q
theorem cF.append {xs ys:List V}{us ws:List a8} (h:cF xs us) (s:cF ys ws):cF (xs++ys) (us++ws):=by
 induction h with
 |nil=>exact s
 |cons r t ih=>exact .cons r ih
theorem cF.take:∀ {xs:List V}{us:List a8} (n:Nat),cF xs us->cF (xs.take n) (us.take n)
 |_,_,0,_=>.nil
 |_,_,_+1,.nil=>.nil
 |_,_,n+1,.cons r t=>.cons r (cF.take n t)
theorem cF.drop:∀ {xs:List V}{us:List a8} (n:Nat),cF xs us->cF (xs.drop n) (us.drop n)
 |_,_,0,r=>r
 |_,_,_+1,.nil=>.nil
 |_,_,n+1,.cons _ t=>cF.drop n t
def v3:Option V->Option a8->Prop
 |some v,some u=>cD v u
 |none,none=>True
 |_,_=>False
def KV {κ:Type}:List (κ×V)->List (κ×a8)->Prop:=Ge fun (p:κ×V) (q:κ×a8)=>p.1=q.1/\cD p.2 q.2
def kV:fz->V
 |.inl i=>.int i
 |.inr x=>.str x
inductive HO where
 |lst (xs:List V)
 |tup (xs:List V)
 |dK (kvs:List (fz×V))|dT (kvs:List (List fz×V))
 |set (S:Int->Bool) (n:Nat)
 |ins (C dx:ac) (fs:List (Str×V))
 |own (x:ac)
 |xd (fs:List (Str×V))
 |met (f x:ac)
 |rng (lo hi:Int)
 |frz (o:Obj) (u:HO)
 |tbl (ps:Array a8)
 |ext (φ:ba->Prop)
abbrev Hp:=ac->Option HO
def upd (H:Hp) (a:ac) (o:HO):Hp:=fun b=>if b=a then some o else H b
theorem aK {H:Hp}{a:ac}{o:HO}:upd H a o a=some o:=by unfold upd;rw [if_pos rfl]
theorem aL {H:Hp}{a b:ac}{o:HO} (h:b≠a):upd H a o b=H b:=by unfold upd;rw [if_neg h]
theorem Pb {H:Hp}{a b:ac}{o u:HO} (h:H a=some o) (h':H b=some u) (d:o≠u):a≠b:=by
 intro e;subst e;rw [h] at h';exact d (bt h')
theorem aS {H:Hp}{a b:ac}{o:HO} (h:H a=some o) (h':H b=none):a≠b:=by
 intro e;subst e;rw [h] at h';cases h'
section
variable (P:aH) (w:aY)
def cH (H:Hp) (h:ba) (a:ac):HO->Prop
 |.lst xs=>xs.length<=sizeLine/\∃ (its:List a8) (n:Nat),cF xs its/\h.get? a=some { cls:=.type "list",data:=.seq its.toArray n }
 |.tup xs=>xs.length<=sizeLine/\∃ its:List a8,cF xs its/\IsTup h a its.toArray
 |.dK kvs=>kvs.length<=sizeLine/\(a==gm)=false/\∃ vs,KV kvs vs/\h.DictOf (fA P w) a vs
 |.dT kvs=>kvs.length<=sizeLine/\(a==gm)=false/\∃ xs:List (List fz×ac×a8),
   Ge (fun (p:List fz×V) (q:List fz×ac×a8)=>p.1=q.1/\H q.2.1=some (.tup (p.1.map kV))/\cD p.2 q.2.2) kvs xs /\
   ∃ o es ep,h.get? a=some o/\o.ExactDict/\o.data=.dict es ep/\es.toList=xs.map (entryOfKey (yg (fA P w)))/\(xs.map (·.1)).Nodup
 |.set S n=>h.SetOf (intKind P w) a S n
 |.ins C dx fs=>H dx=some (.own a)/\fs.length<=1000/\dx≠a/\h.get? a=some (ui C dx) /\
   ∃ mA,h.Ns1 dx mA/\(∀ f,v3 (fs.lookup f) (mA f))/\PySem.Within mA (fs.map (·.1))
 |.own _=>∃ o,h.get? a=some o
 |.xd fs=>∃ mA,h.Ns1 a mA/\∀ f,v3 (fs.lookup f) (mA f)
 |.rng lo hi=>∃ t u v,h.get? a=some { cls:=.type "range",data:=.fields #[.int lo t,.int hi u,.int 1 v] }
 |.frz o u=>h.get? a=some o/\cH H h a u
 |.tbl ps=>h.get? a=some { cls:=.none,data:=.fields ps }
 |.met f x=>h.get? a=some (qS (.ref f) (.ref x))
 |.ext φ=>φ h/\(∃ o,h.get? a=some o)/\∀ h1 h2:ba,φ h1->(∀ o,h1.get? a=some o->h2.get? a=some o)->φ h2
def nW (H:Hp) (h:ba):Prop:=∀ a o,H a=some o->cH P w H h a o
end
section
variable {P:aH}{w:aY}{H H':Hp}{h h':ba}{a:ac}{o:HO}
theorem cH.lt (x:cH P w H h a o):a<h.objs.size:=by
 cases o with
 |lst xs=>obtain ⟨_,_,_,_,e⟩:=x;exact ah e
 |tup xs=>obtain ⟨_,_,_,p⟩:=x;exact p.lt
 |dK kvs=>obtain ⟨_,_,_,_,o,_,_,e,_⟩:=x;exact ah e
 |dT kvs=>obtain ⟨_,_,_,_,o,_,_,e,_⟩:=x;exact ah e
 |set S n=>obtain ⟨o,_,_,_,e,_⟩:=x;exact ah e
 |ins C dx fs=>obtain ⟨_,_,_,e,_⟩:=x;exact ah e
 |own y=>obtain ⟨_,e⟩:=x;exact ah e
 |xd fs=>obtain ⟨_,⟨_,_,_,e,_⟩,_⟩:=x;exact ah e
 |rng lo hi=>obtain ⟨_,_,_,e⟩:=x;exact ah e
 |frz ob u=>obtain ⟨e,_⟩:=x;exact ah e
 |tbl ps=>exact ah (show h.get? a=some _ from x)
 |met f y=>exact ah (show h.get? a=some _ from x)
 |ext φ=>obtain ⟨_,⟨_,e⟩,_⟩:=x;exact ah e
theorem Paired.mapP {α β:Type}{F G:α->β->Prop}{l₁:List α}{l₂:List β} (h:Ge F l₁ l₂) (f:∀ a b,F a b->G a b):Ge G l₁ l₂:=by
 induction h with
 |nil=>exact .nil
 |cons r t ih=>exact .cons (f _ _ r) ih
theorem cH.stay (x:cH P w H h a o) (k:∀ b u,(b=a\/H b=some (.own a))->h.get? b=some u->h'.get? b=some u)
  (ho:∀ b,H b=some (.own a)->H' b=some (.own a)) (ht:∀ b xs,H b=some (.tup xs)->H' b=some (.tup xs)):cH P w H' h' a o:=by
 induction o with
 |lst xs=>obtain ⟨z,its,n,r,e⟩:=x;exact ⟨z,its,n,r,k _ _ (.inl rfl) e⟩
 |tup xs=>obtain ⟨z,its,r,ob,e,c⟩:=x;exact ⟨z,its,r,ob,k _ _ (.inl rfl) e,c⟩
 |dK kvs=>obtain ⟨z,y,vs,r,ob,es,ep,e,c⟩:=x;exact ⟨z,y,vs,r,ob,es,ep,k _ _ (.inl rfl) e,c⟩
 |dT kvs =>
  obtain ⟨z,y,xs,r,ob,es,ep,e,c⟩:=x
  exact ⟨z,y,xs,Paired.mapP r fun p q z=>⟨z.1,ht _ _ z.2.1,z.2.2⟩,ob,es,ep,k _ _ (.inl rfl) e,c⟩
 |set S n=>obtain ⟨ob,es,ep,t,e,c⟩:=x;exact ⟨ob,es,ep,t,k _ _ (.inl rfl) e,c⟩
 |ins C dx fs =>
  obtain ⟨d,z,ne,e,mA,⟨od,es,ep,e2,c⟩,r⟩:=x
  exact ⟨ho _ d,z,ne,k _ _ (.inl rfl) e,mA,⟨od,es,ep,k _ _ (.inr d) e2,c⟩,r⟩
 |own y=>obtain ⟨ob,e⟩:=x;exact ⟨ob,k _ _ (.inl rfl) e⟩
 |xd fs=>obtain ⟨mA,⟨od,es,ep,e,c⟩,r⟩:=x;exact ⟨mA,⟨od,es,ep,k _ _ (.inl rfl) e,c⟩,r⟩
 |rng lo hi=>obtain ⟨t,u,v,e⟩:=x;exact ⟨t,u,v,k _ _ (.inl rfl) e⟩
 |frz ob u ih=>obtain ⟨e,q⟩:=x;exact ⟨k _ _ (.inl rfl) e,ih q⟩
 |tbl ps =>
  have e:h.get? a=some { cls:=.none,data:=.fields ps }:=x
  show h'.get? a=some { cls:=.none,data:=.fields ps }
  exact k a _ (.inl rfl) e
 |met f y =>
  have e:h.get? a=some (qS (.ref f) (.ref y)):=x
  show h'.get? a=some (qS (.ref f) (.ref y))
  exact k a _ (.inl rfl) e
 |ext φ=>obtain ⟨p,⟨o,e⟩,st⟩:=x;exact ⟨st _ _ p fun o q=>k _ _ (.inl rfl) q,⟨o,k _ _ (.inl rfl) e⟩,st⟩
theorem nW.lt (x:nW P w H h) (e:H a=some o):a<h.objs.size:=(x a o e).lt
theorem nW.fresh (x:nW P w H h) (e:h.objs.size<=a):H a=none:=by
 cases q:H a with
 |none=>rfl
 |some u=>exact absurd (ay (x.lt q) e) (cu _)
theorem nW.kept (x:nW P w H h) (k:∀ b u,h.get? b=some u->h'.get? b=some u):nW P w H h':=fun a o e =>
 (x a o e).stay (fun b u _ q=>k b u q) (fun _ q=>q) fun _ _ q=>q
theorem nW.laid (x:nW P w H h) (k:∀ b u,h.get? b=some u->h'.get? b=some u) (hp:h.objs.size<=a) (new:cH P w (upd H a o) h' a o):nW P w (upd H a o) h':=fun b u e=>by
 have hn:=x.fresh hp
 by_cases hb:b=a
 ·subst hb;rw [aK] at e;cases e;exact new
 ·rw [aL hb] at e
  exact (x b u e).stay (fun c v _ q=>k c v q) (fun c q=>by rw [aL (aS q hn)];exact q) fun c xs q=>by rw [aL (aS q hn)];exact q
end
def Rd (H:Hp) (a:ac) (u:HO):Prop:=H a=some u\/∃ o,H a=some (.frz o u)
theorem Rd.ok {P:aH}{w:aY}{H:Hp}{h:ba}{a:ac}{u:HO} (r:Rd H a u) (x:nW P w H h):cH P w H h a u:=by
 rcases r with r|⟨o,r⟩
 ·exact x a u r
 ·obtain ⟨_,q⟩:=x a _ r
  exact q
def Pc:Option HO->Prop
 |some (.lst _)=>True
 |some (.dK _)=>True
 |some (.dT _)=>True
 |some (.set _ _)=>True
 |some (.ins _ _ _)=>True
 |some (.ext _)=>True
 |_=>False
section
variable {P:aH}{w:aY}{H:Hp}{h h':ba}{x e:ac}{o':HO}
theorem nW.write (ok:nW P w H h) (mu:Pc (H x)) (he:e=x\/H e=some (.own x)) (k:∀ b u,b≠e->h.get? b=some u->h'.get? b=some u) (heo:∃ u,h'.get? e=some u)
  (new:cH P w (upd H x o') h' x o'):nW P w (upd H x o') h':=fun b u q=>by
 have nown:∀ c y,H c=some (.own y)->c≠x:=fun c y r z=>by subst z;rw [r] at mu;exact mu
 have ntup:∀ c xs,H c=some (.tup xs)->c≠x:=fun c xs r z=>by subst z;rw [r] at mu;exact mu
 by_cases hb:b=x
 ·subst hb;rw [aK] at q;cases q;exact new
 ·rw [aL hb] at q
  by_cases hbe:b=e
  ·have q':H b=some (.own x):=by
    rcases he with z|z
    ·exact absurd (hbe.trans z) hb
    ·rw [hbe];exact z
   rw [q] at q';cases q'
   obtain ⟨v,hv⟩:=heo
   exact ⟨v,by rw [hbe];exact hv⟩
  ·refine (ok b u q).stay (fun c v hc r=>k c v ?_ r) (fun c r=>by rw [aL (nown c b r)];exact r) fun c xs r=>by rw [aL (ntup c xs r)];exact r
   rcases hc with rfl|hc
   ·exact hbe
   ·rintro rfl
    rcases he with z|z
    ·exact nown c b hc z
    ·rw [hc] at z;cases z;exact hb rfl
end
structure Un (fs ex:List ac) (H H':Hp) (h h':ba):Prop where
 keep:∀ b o,h.get? b=some o->H b=none->b∉fs->b∉ex->h'.get? b=some o
 slot:∀ b o,h.get? b=some o->H b=none->b∈fs->b∉ex->∃ sl,h'.get? b=some { o with slots:=sl }
 free:∀ b o,h.get? b=some o->H b=none->b∉ex->H' b=none
 there:∀ b o,h.get? b=some o->b∉ex->∃ o',h'.get? b=some o'
 tups:∀ b xs,H b=some (.tup xs)->H' b=some (.tup xs)
 frzs:∀ b o u,H b=some (.frz o u)->H' b=some (.frz o u)
 tbls:∀ b ps,H b=some (.tbl ps)->∃ more,H' b=some (.tbl (ps++more))
section
variable {fs fs' ex ex':List ac}{H H1 H2:Hp}{h h1 h2 h':ba}{a x e:ac}{o:HO}
theorem Un.any (u:Un fs ex H H1 h h1) {b:ac}{ob:Obj} (q:h.get? b=some ob) (n:H b=none) (hx:b∉ex):∃ sl,h1.get? b=some { ob with slots:=sl }:=by
 by_cases hb:b∈fs
 ·exact u.slot b ob q n hb hx
 ·exact ⟨ob.slots,u.keep b ob q n hb hx⟩
theorem Un.kept (k:∀ b u,h.get? b=some u->h'.get? b=some u):Un fs ex H H h h' :=
 ⟨fun b ob q _ _ _=>k b ob q,fun b ob q _ _ _=>⟨ob.slots,k b ob q⟩,fun _ _ _ n _=>n,fun b ob q _=>⟨ob,k b ob q⟩,fun _ _ q=>q,fun _ _ _ q=>q,fun _ ps q=>⟨#[],by rw [q];simp⟩⟩
theorem Un.refl:Un fs ex H H h h:=Un.kept fun _ _ q=>q
theorem Un.laid (k:∀ b u,h.get? b=some u->h'.get? b=some u) (hp:h.objs.size<=a) (hn:H a=none):Un fs ex H (upd H a o) h h' where
 keep:=fun b u q _ _ _=>k b u q
 slot:=fun b u q _ _ _=>⟨u.slots,k b u q⟩
 free:=fun b u q n _=>by rw [aL (aE (ay (ah q) hp))];exact n
 there:=fun b u q _=>⟨u,k b u q⟩
 tups:=fun b xs q=>by rw [aL (aS q hn)];exact q
 frzs:=fun b u xs q=>by rw [aL (aS q hn)];exact q
 tbls:=fun b ps q=>⟨#[],by rw [aL (aS q hn),q];simp⟩
theorem Un.write (mu:Pc (H x)) (he:e=x\/H e=some (.own x)) (k:∀ b u,b≠e->h.get? b=some u->h'.get? b=some u) (heo:∃ u,h'.get? e=some u):Un fs ex H (upd H x o) h h':=by
 have hx:∀ b,H b=none->b≠x:=fun b n z=>by subst z;rw [n] at mu;exact mu
 have hb:∀ b,H b=none->b≠e:=fun b n z=>by
  subst z
  rcases he with r|r
  ·exact hx b n r
  ·rw [n] at r;cases r
 have hm:∀ b u,H b=some u->¬ Pc (some u)->b≠x:=fun b u q nm z=>by subst z;rw [q] at mu;exact nm mu
 refine ⟨fun b u q n _ _=>k b u (hb b n) q,fun b u q n _ _=>⟨u.slots,k b u (hb b n) q⟩,fun b u q n _=>by rw [aL (hx b n)];exact n,fun b u q _=>?_,
  fun b xs q=>by rw [aL (hm b _ q fun z=>z)];exact q,fun b u xs q=>by rw [aL (hm b _ q fun z=>z)];exact q,fun b ps q=>⟨#[],by rw [aL (hm b _ q fun z=>z),q];simp⟩⟩
 by_cases hbe:b=e
 ·subst hbe;exact heo
 ·exact ⟨u,k b u hbe q⟩
end
def Re (h:ba) (H:Hp):List ac:=(bW h.objs.size).filter fun a=>(H a).isSome
def ym (h:ba) (H:Hp):ba:=FU h (Re h H)
theorem EA (h:ba) (H:Hp):(ym h H).objs.size=h.objs.size:=PySem.W.hideAll_size _ _
theorem Gs {h:ba}{H:Hp}{b:ac}{o:Obj} (e:h.get? b=some o) (n:H b=none):(ym h H).get? b=some o :=
 Ba _ e fun hm=>by
  have q:(H b).isSome=true:=(List.mem_filter.mp hm).2
  rw [n] at q;simp at q
theorem Kn {h:ba}{H:Hp}{b:ac}{o:Obj} (e:(ym h H).get? b=some o):h.get? b=some o/\H b=none:=by
 have e':h.get? b=some o:=Bk (Re h H) e
 refine ⟨e',?_⟩
 cases q:H b with
 |none=>rfl
 |some x =>
  have hm:b∈Re h H:=List.mem_filter.mpr ⟨List.mem_range.mpr (ah e'),by simp [q]⟩
  have z:(ym h H).get? b=none:=PySem.W.hideAll_none (Re h H) hm
  rw [z] at e;cases e
def Ko (g h:ba) (L:ac):List (ac×Obj):=(bW h.objs.size).filterMap fun a=>if a=L\/(g.get? a).isSome=true then none else (h.get? a).map fun o=>(a,o)
def bE (g h:ba) (L d:ac):List (ac×Obj):=(Ko g h L).filter fun p=>decide (p.1≠d)
end L2
namespace L2
open PySem PySem.Spec PyProof.Rows
structure Mod (K:a6) (mg:Str->Option a8) (base:ba):Prop where
 kin:K.In base
 glob:base.Ns aW mg
 blt:∃ mb,base.Ns builtinsNs mb/\∀ x:Str,x≠"__name__"->mb x=gq x
 nolimit:base.NoLimit
structure Cx where
 prog:aH
 w:aY
 K:a6
 mg:Str->Option a8
 base:ba
 A:aZ
 N:List Str
 s₀:aa
 H₀:Hp
 env:Env
 outer:List Env
 stack:List Env
 ex:List ac
 fn:Str->Bool
 calm:Bool
 pn:List (ac×Obj)
 xe:a8->aa->Prop
def qc (l:List Env):List ac:=l.filterMap (·.frame)
abbrev Cx.fs (X:Cx):List ac:=qc X.outer
def Kp (sc:dW) (x:Str):Prop:=sc.names.lookup x=some .local\/sc.names.lookup x=some .cell\/sc.names.lookup x=some .free
def K2 (sc:dW) (x:Str):Prop:=sc.names.lookup x=some .local\/sc.names.lookup x=some .cell
def Ry (env:Env) (h:ba) (m:Str->Option a8) (x:Str) (u:a8):Prop :=
 (env.kindOf x=some .local/\m x=some u)\/((env.kindOf x=some .cell\/env.kindOf x=some .free)/\∃ c,env.cells.lookup x=some c/\h.IsCell c (some u))
structure Cx.Ok (X:Cx):Prop where
 mod:Mod X.K X.mg X.base
 kind:X.env.scope.kind=.function
 glob:X.env.globals=aW
 blt:X.env.builtins=builtinsNs
 above:X.s₀.heap.objs.size<=X.env.locals
 inj:∀ x y c,X.env.cells.lookup x=some c->X.env.cells.lookup y=some c->x=y
 has:∀ x,(X.env.kindOf x=some .cell\/X.env.kindOf x=some .free)->∃ c,X.env.cells.lookup x=some c
 cab:∀ x c,X.fn x=true->X.env.cells.lookup x=some c->X.s₀.heap.objs.size<=c
 hd:X.calm=true->X.A.handled=none
 frames:X.A.frames=some X.stack
 stk:X.stack=X.outer\/(X.stack=X.env::X.outer/\X.env.frame=some X.env.locals)
 exf:∀ b∈X.ex,b≠X.env.locals/\∀ x c,X.env.cells.lookup x=some c->c≠b
 bs:∀ b o,X.base.get? b=some o->X.s₀.heap.get? b=some o/\X.H₀ b=none
 bsz:X.base.objs.size<=X.s₀.heap.objs.size
 noex:∀ b o,X.base.get? b=some o->b∉X.ex
 exfs:∀ b∈X.ex,b∉X.fs
 funs:X.s₀.heap.FunFrames X.base X.outer
 frf:∀ b∈X.fs,X.H₀ b=none
structure bj (X:Cx) (pins:List (ac×Obj)) (σ:List (Option V)) (H:Hp) (s:aa):Prop where
 ok:X.Ok
 os:s.os=X.s₀.os
 bare:nM s.gens
 base:Un X.fs X.ex X.H₀ H X.s₀.heap s.heap
 loc:∃ m,s.heap.Ns X.env.locals m/\∀ (i:Nat) (x:Str) (v:V),X.N[i]?=some x->σ[i]?=some (some v)->Kp X.env.scope x->∃ u,cD v u/\Ry X.env s.heap m x u
 cell:∀ x c,X.env.cells.lookup x=some c->∃ v,s.heap.IsCell c v
 free:H X.env.locals=none
 freeC:∀ x c,X.env.cells.lookup x=some c->H c=none
 pin:∀ p∈X.pn++pins,s.heap.get? p.1=some p.2/\H p.1=none/\p.1≠X.env.locals/\p.1∉X.fs/\∀ v,p.2.data≠.cell v
 hok:nW X.prog X.w H s.heap
 len:σ.length=X.N.length
section
variable {X:Cx}{pins:List (ac×Obj)}{σ:List (Option V)}{H H':Hp}{s:aa}{h':ba}
theorem Cx.Ok.nofr (ok:X.Ok) {b:ac}{o:Obj} (e:X.base.get? b=some o):b∉X.fs:=fun hb=>by
 have:=(ok.funs.mem hb).1
 rw [e] at this;cases this
theorem bj.bs (I:bj X pins σ H s):∀ b o,X.base.get? b=some o->s.heap.get? b=some o/\H b=none:=fun b o e =>
 ⟨I.base.keep b o (I.ok.bs b o e).1 (I.ok.bs b o e).2 (I.ok.nofr e) (I.ok.noex b o e),I.base.free b o (I.ok.bs b o e).1 (I.ok.bs b o e).2 (I.ok.noex b o e)⟩
theorem bj.bk (I:bj X pins σ H s):∀ b o,X.base.get? b=some o->s.heap.get? b=some o:=fun b o e=>(I.bs b o e).1
theorem bj.mod (I:bj X pins σ H s):Mod X.K X.mg X.base:=I.ok.mod
theorem bj.kIn (I:bj X pins σ H s):X.K.In s.heap:=I.ok.mod.kin.keeps I.bk
theorem bj.fr (I:bj X pins σ H s):∃ m,Fr X.base X.env.locals s.heap m :=
 let ⟨m,hn,_⟩:=I.loc
 ⟨m,hn,I.bk,bv I.ok.bsz I.ok.above⟩
theorem bj.lt (I:bj X pins σ H s):X.env.locals<s.heap.objs.size:=let ⟨_,hn,_⟩:=I.loc;hn.lt
theorem bj.sz (I:bj X pins σ H s):X.s₀.heap.objs.size<=s.heap.objs.size:=bv I.ok.above (bw I.lt)
theorem bj.nofs (I:bj X pins σ H s) {a:ac} (h:s.heap.objs.size<=a):a∉X.fs:=fun hb=>by
 obtain ⟨_,o,ho,_⟩:=I.ok.funs.mem hb
 exact absurd (ay (ah ho) (bv I.sz h)) (cu _)
theorem bj.cne (I:bj X pins σ H s):∀ x c,X.env.cells.lookup x=some c->c≠X.env.locals:=fun x c e z=>by
 obtain ⟨v,o,ho,hd⟩:=I.cell x c e
 obtain ⟨m,⟨o',es,ep,ho',hd',_⟩,_⟩:=I.loc
 rw [z,ho'] at ho;cases ho;rw [hd'] at hd;cases hd
theorem bj.funs (I:bj X pins σ H s):s.heap.FunFrames X.base X.outer:=by
 have all:∀ (l:List Env),(∀ b∈qc l,b∈X.fs)->X.s₀.heap.FunFrames X.base l->s.heap.FunFrames X.base l:=by
  intro l
  induction l with
  |nil=>intro _ _;trivial
  |cons env r ih =>
   intro hs hl
   obtain ⟨hk,⟨L,o,hf,hn,ho,hd⟩,hr⟩:=hl
   have hL:L∈X.fs:=hs L (by unfold qc;rw [qP,hf];exact aw)
   obtain ⟨sl,e⟩:=I.base.slot L o ho (I.ok.frf L hL) hL fun z=>I.ok.exfs L z hL
   exact ⟨hk,⟨L,_,hf,hn,e,hd⟩,ih (fun b hb=>hs b (by unfold qc;rw [qP,hf];exact ao _ hb)) hr⟩
 exact all X.outer (fun _ hb=>hb) I.ok.funs
theorem bj.stack (I:bj X pins σ H s):s.heap.FunFrames X.base X.stack:=by
 rcases I.ok.stk with e|⟨e,hf⟩
 ·rw [e];exact I.funs
 ·rw [e]
  obtain ⟨m,hn,_⟩:=I.loc
  refine .cons (by rw [I.ok.kind];decide) hf hn ?_ I.funs
  exact Heap.get?_none_of_le (bv I.ok.bsz I.ok.above)
theorem bj.stkSub (I:bj X pins σ H s):∀ b∈qc X.stack,b∈X.env.locals::X.fs:=fun b hb=>by
 rcases I.ok.stk with e|⟨e,hf⟩
 ·rw [e] at hb;exact ao _ hb
 ·rw [e] at hb
  unfold qc at hb
  rw [qP,hf] at hb
  exact hb
theorem bj.stkFree (I:bj X pins σ H s):∀ b∈qc X.stack,H b=none:=fun b hb=>by
 rcases List.mem_cons.mp (I.stkSub b hb) with e|hb
 ·rw [e];exact I.free
 ·obtain ⟨_,o,ho,_⟩:=I.ok.funs.mem hb
  exact I.base.free b o ho (I.ok.frf b hb) fun z=>I.ok.exfs b z hb
theorem bj.step {g':Array Bl}{t':Nat}{d':FV}{ch:List ac} (I:bj X pins σ H s)
  (hch:∀ b∈ch,(b∈X.ex\/X.s₀.heap.objs.size<=b)/\b≠X.env.locals/\(∀ x c,X.env.cells.lookup x=some c->c≠b)/\∀ p∈X.pn++pins,p.1≠b)
  (keep:∀ b o,b≠X.env.locals->b∉X.fs->b∉ch->s.heap.get? b=some o->H b=none->h'.get? b=some o)
  (slot:∀ b o,b≠X.env.locals->b∈X.fs->b∉ch->s.heap.get? b=some o->H b=none->∃ sl,h'.get? b=some { o with slots:=sl }) (free:∀ b o,b∉ch->s.heap.get? b=some o->H b=none->H' b=none)
  (there:∀ b o,b∉ch->s.heap.get? b=some o->∃ o',h'.get? b=some o')
  (tups:∀ b xs,H b=some (.tup xs)->H' b=some (.tup xs)) (frzs:∀ b o u,H b=some (.frz o u)->H' b=some (.frz o u)) (tbls:∀ b ps,H b=some (.tbl ps)->∃ more,H' b=some (.tbl (ps++more)))
  (ns:∀ m,s.heap.Ns X.env.locals m->h'.Ns X.env.locals m) (hok:nW X.prog X.w H' h') (hg:nM g') :
  bj X pins σ H' { s with heap:=h',gens:=g',drawn:=d',toks:=t' }:=by
 have neL:∀ b o,X.s₀.heap.get? b=some o->b≠X.env.locals:=fun b o e=>aE (ay (ah e) I.ok.above)
 have neC:∀ b o,X.s₀.heap.get? b=some o->b∉X.ex->b∉ch:=fun b o e hx hb=>by
  rcases (hch b hb).1 with z|z
  ·exact hx z
  ·exact absurd (ay (ah e) z) (cu _)
 have cellK:∀ x c,X.env.cells.lookup x=some c->∀ v,s.heap.IsCell c v->h'.IsCell c v:=fun x c e v h_0=>by
  obtain ⟨o,ho,hd⟩:=h_0
  have nch:c∉ch:=fun z=>(hch c z).2.2.1 x c e rfl
  by_cases hc:c∈X.fs
  ·obtain ⟨sl,q⟩:=slot c o (I.cne x c e) hc nch ho (I.freeC x c e)
   exact ⟨_,q,hd⟩
  ·exact ⟨o,keep c o (I.cne x c e) hc nch ho (I.freeC x c e),hd⟩
 refine ⟨I.ok,I.os,hg,⟨fun b o e n hb hx=>?_,fun b o e n hb hx=>?_,fun b o e n hx=>?_,fun b o e hx=>?_,fun b xs e=>tups b xs (I.base.tups b xs e),fun b o xs e=>frzs b o xs (I.base.frzs b o xs e),fun b ps e=>?_⟩,?_,fun x c e=>?_,?_,fun x c e=>?_,fun p hp=>?_,hok,I.len⟩
 ·exact keep b o (neL b o e) hb (neC b o e hx) (I.base.keep b o e n hb hx) (I.base.free b o e n hx)
 ·obtain ⟨sl,e1⟩:=I.base.slot b o e n hb hx
  obtain ⟨sl',e2⟩:=slot b _ (neL b o e) hb (neC b o e hx) e1 (I.base.free b o e n hx)
  exact ⟨sl',e2⟩
 ·obtain ⟨o',e1⟩:=I.base.there b o e hx
  exact free b o' (neC b o e hx) e1 (I.base.free b o e n hx)
 ·obtain ⟨o',e1⟩:=I.base.there b o e hx
  exact there b o' (neC b o e hx) e1
 ·obtain ⟨m1,e1⟩:=I.base.tbls b ps e
  obtain ⟨m2,e2⟩:=tbls b _ e1
  exact ⟨m1++m2,by rw [e2,Ed]⟩
 ·obtain ⟨m,hn,hl⟩:=I.loc
  refine ⟨m,ns m hn,fun i x v e1 e2 e3=>?_⟩
  obtain ⟨u,r,l⟩:=hl i x v e1 e2 e3
  refine ⟨u,r,?_⟩
  rcases l with l|⟨k,c,e,z⟩
  ·exact .inl l
  ·exact .inr ⟨k,c,e,cellK x c e _ z⟩
 ·obtain ⟨v,z⟩:=I.cell x c e
  exact ⟨v,cellK x c e v z⟩
 ·obtain ⟨m,⟨o,_,_,ho,_⟩,_⟩:=I.loc
  exact free _ o (fun z=>(hch _ z).2.1 rfl) ho I.free
 ·obtain ⟨v,o,ho,hd⟩:=I.cell x c e
  exact free c o (fun z=>(hch c z).2.2.1 x c e rfl) ho (I.freeC x c e)
 ·obtain ⟨e,n,ne,nf,d⟩:=I.pin p hp
  have nch:p.1∉ch:=fun z=>(hch p.1 z).2.2.2 p hp rfl
  exact ⟨keep p.1 p.2 ne nf nch e n,free p.1 p.2 nch e n,ne,nf,d⟩
theorem bj.un {t':Nat} (I:bj X pins σ H s) (u:Un X.fs [] H H' s.heap h') (hok:nW X.prog X.w H' h'):bj X pins σ H' { s with heap:=h',toks:=t' }:=by
 obtain ⟨m,⟨o,es,ep,ho,r⟩,_⟩:=id I.loc
 obtain ⟨sl,hL⟩:=u.any ho I.free (by simp)
 exact I.step (g':=s.gens) (d':=s.drawn) (ch:=[]) (fun _ z=>nomatch z) (fun b o _ hb _ e n=>u.keep b o e n hb (by simp)) (fun b o _ hb _ e n=>u.slot b o e n hb (by simp)) (fun b o _ e n=>u.free b o e n (by simp)) (fun b o _ e=>u.there b o e (by simp)) u.tups u.frzs u.tbls (fun m' hm=>by
  obtain ⟨o',es',ep',ho',r'⟩:=hm
  rw [ho] at ho';cases ho'
  exact ⟨_,es',ep',hL,r'⟩) hok I.bare
theorem bj.call {g':Array Bl}{t':Nat}{d':FV}{ch:List ac} (I:bj X pins σ H s) (u:Un (qc X.stack) ch H H' s.heap h') (hok:nW X.prog X.w H' h') (hg:nM g')
  (hch:∀ b∈ch,(b∈X.ex\/X.s₀.heap.objs.size<=b)/\b≠X.env.locals/\(∀ x c,X.env.cells.lookup x=some c->c≠b)/\∀ p∈X.pn++pins,p.1≠b) :
  bj X pins σ H' { s with heap:=h',gens:=g',drawn:=d',toks:=t' }:=by
 obtain ⟨m,⟨o,es,ep,ho,r⟩,_⟩:=id I.loc
 obtain ⟨sl,hL⟩:=u.any ho I.free fun z=>(hch _ z).2.1 rfl
 exact I.step (ch:=ch) hch (fun b o hL hb hc e n=>u.keep b o e n (fun z=>(List.mem_cons.mp (I.stkSub b z)).elim hL hb) hc) (fun b o _ _ hc e n=>u.any e n hc) (fun b o hc e n=>u.free b o e n hc) (fun b o hc e=>u.there b o e hc) u.tups u.frzs u.tbls (fun m' hm=>by
  obtain ⟨o',es',ep',ho',r'⟩:=hm
  rw [ho] at ho';cases ho'
  exact ⟨_,es',ep',hL,r'⟩) hok hg
theorem bj.turned {t':Nat}{it:ac} (I:bj X pins σ H s) (k:∀ b o,b≠it->s.heap.get? b=some o->h'.get? b=some o) (hn:H it=none) (hL:it≠X.env.locals)
  (h1:it∈X.ex\/X.s₀.heap.objs.size<=it) (h2:∀ x c,X.env.cells.lookup x=some c->c≠it) (h3:∀ p∈X.pn++pins,p.1≠it):bj X pins σ H { s with heap:=h',toks:=t' }:=by
 have nit:∀ b u,H b=some u->b≠it:=fun b u e z=>by rw [z,hn] at e;cases e
 refine I.step (g':=s.gens) (d':=s.drawn) (ch:=[it]) (fun b hb=>?_) (fun b o _ _ hc e _=>k b o (fun z=>hc (by simp [z])) e) (fun b o _ _ hc e _=>⟨o.slots,k b o (fun z=>hc (by simp [z])) e⟩) (fun _ _ _ _ n=>n)
  (fun b o hc e=>⟨o,k b o (fun z=>hc (by simp [z])) e⟩) (fun _ _ e=>e) (fun _ _ _ e=>e) (fun b ps e=>⟨#[],by rw [e];simp⟩) (fun m hm=>?_) (fun b u e=>?_) I.bare
 ·have e:b=it:=by simpa using hb
  subst e
  exact ⟨h1,hL,h2,h3⟩
 ·obtain ⟨o,es,ep,ho,r⟩:=hm
  exact ⟨o,es,ep,k _ o (e6 hL) ho,r⟩
 ·refine (I.hok b u e).stay (fun c v hc q=>k c v ?_ q) (fun _ q=>q) fun _ _ q=>q
  rcases hc with z|z
  ·rw [z];exact nit b u e
  ·exact nit c _ z
theorem bj.tok (I:bj X pins σ H s) (t:Nat):bj X pins σ H { s with toks:=t }:=I.un (h':=s.heap) (t':=t) Un.refl I.hok
theorem bj.kept {t':Nat} (I:bj X pins σ H s) (k:∀ b u,s.heap.get? b=some u->h'.get? b=some u):bj X pins σ H { s with heap:=h',toks:=t' }:=I.un (Un.kept k) (I.hok.kept k)
theorem bj.laid {a:ac}{o:HO}{t':Nat} (I:bj X pins σ H s) (k:∀ b u,s.heap.get? b=some u->h'.get? b=some u) (hp:s.heap.objs.size<=a) (new:cH X.prog X.w (upd H a o) h' a o) :
  bj X pins σ (upd H a o) { s with heap:=h',toks:=t' }:=I.un (Un.laid k hp (I.hok.fresh hp)) (I.hok.laid k hp new)
theorem bj.write {x e:ac}{o:HO}{t':Nat} (I:bj X pins σ H s) (mu:Pc (H x)) (he:e=x\/H e=some (.own x)) (k:∀ b u,b≠e->s.heap.get? b=some u->h'.get? b=some u) (heo:∃ u,h'.get? e=some u)
  (new:cH X.prog X.w (upd H x o) h' x o):bj X pins σ (upd H x o) { s with heap:=h',toks:=t' }:=I.un (Un.write mu he k heo) (I.hok.write mu he k heo new)
theorem bj.weak {σ':List (Option V)} (I:bj X pins σ H s) (hl:σ'.length=σ.length) (w:∀ (i:Nat) v,σ'[i]?=some (some v)->σ[i]?=some (some v)):bj X pins σ' H s :=
 ⟨I.ok,I.os,I.bare,I.base,let ⟨m,hn,hl'⟩:=I.loc;⟨m,hn,fun i x v e1 e2 e3=>hl' i x v e1 (w i v e2) e3⟩,I.cell,I.free,I.freeC,I.pin,I.hok,hl.trans I.len⟩
theorem bj.pins_of {pins':List (ac×Obj)} (I:bj X pins σ H s) (h:∀ p∈pins',s.heap.get? p.1=some p.2/\H p.1=none/\p.1≠X.env.locals/\p.1∉X.fs/\∀ v,p.2.data≠.cell v):bj X pins' σ H s :=
 ⟨I.ok,I.os,I.bare,I.base,I.loc,I.cell,I.free,I.freeC,fun p hp=>(List.mem_append.mp hp).elim (fun z=>I.pin p (p_ _ z)) (h p),I.hok,I.len⟩
theorem zW {N:List Str} (hN:N.Nodup) {i j:Nat}{x:Str} (a:N[i]?=some x) (b:N[j]?=some x):i=j:=by
 obtain ⟨h1,e1⟩:=List.getElem?_eq_some_iff.mp a
 obtain ⟨h2,e2⟩:=List.getElem?_eq_some_iff.mp b
 exact (List.getElem_inj hN).mp (e1.trans e2.symm)
theorem xr {M:K6}{A:aZ}{E:a8->aa->Prop}{i:Nat}{x:Str}{v:V}{u:a8}{Q:Unit->aa->Prop} (I:bj X pins σ H s) (hN:X.N.Nodup) (hi:X.N[i]?=some x) (hx:K2 X.env.scope x) (r:cD v u)
  (h:∀ s',bj X pins (σ.set i (some v)) H s'->(∃ a,c9 a s.heap s'.heap/\(a=X.env.locals\/X.env.cells.lookup x=some a))->Q () s') (hf:X.fn x=true\/X.env.scope.names.lookup x=some .local:=by first|exact .inl rfl|exact .inr rfl|assumption):ak M A (storeName X.env x u) Q E s:=by
 obtain ⟨m,hn,hl⟩:=id I.loc
 have hcls:(X.env.scope.kind == .class||(X.env.scope.kind == .module&&X.env.locals != X.env.globals))=false:=by rw [I.ok.kind];rfl
 have hiσ:i<σ.length:=by rw [I.len];exact (List.getElem?_eq_some_iff.mp hi).1
 have cne:=I.cne
 have tracked:∀ {a:ac}{h':ba},(∃ o,s.heap.get? a=some o/\H a=none)->c9 a s.heap h'->nW X.prog X.w H h':=fun {a h'} ha hs b ob e=>by
  obtain ⟨_,_,hfree⟩:=ha
  refine (I.hok b ob e).stay (fun c w' hc q=>(hs.2 c ?_).trans q) (fun _ q=>q) fun _ _ q=>q
  rintro rfl
  rcases hc with rfl|hc
  ·rw [hfree] at e;cases e
  ·rw [hfree] at hc;cases hc
 rcases hx with hk|hk
 ·refine wpAny_storeName_local hk hn (fun h' hn' hs=>?_) hcls
  obtain ⟨oL,_,_,hoL,_⟩:=id hn
  refine h _ ⟨I.ok,I.os,I.bare,⟨fun b o e n hb hx=>?_,fun b o e n hb hx=>?_,I.base.free,fun b o e hx=>?_,I.base.tups,I.base.frzs,I.base.tbls⟩,⟨_,hn',fun j y v' e1 e2 e3=>?_⟩,fun y c e=>?_,I.free,I.freeC,fun p hp=>?_,tracked ⟨oL,hoL,I.free⟩ hs,by simpa using I.len⟩ ⟨_,hs,.inl rfl⟩
  ·exact (hs.2 b (aE (ay (ah e) I.ok.above))).trans (I.base.keep b o e n hb hx)
  ·obtain ⟨sl,e1⟩:=I.base.slot b o e n hb hx
   exact ⟨sl,(hs.2 b (aE (ay (ah e) I.ok.above))).trans e1⟩
  ·obtain ⟨o',e1⟩:=I.base.there b o e hx
   exact ⟨o',(hs.2 b (aE (ay (ah e) I.ok.above))).trans e1⟩
  ·by_cases hj:j=i
   ·subst hj
    rw [hi] at e1;cases e1
    rw [ax hiσ] at e2
    cases e2
    exact ⟨u,r,.inl ⟨hk,by simp⟩⟩
   ·rw [ae (e6 hj)] at e2
    obtain ⟨u',r',q⟩:=hl j y v' e1 e2 e3
    refine ⟨u',r',?_⟩
    rcases q with ⟨k,e⟩|⟨k,c,e,z⟩
    ·refine .inl ⟨k,?_⟩
     have:y≠x:=fun e=>hj (zW hN e1 (e ▸ hi))
     simp [this,e]
    ·exact .inr ⟨k,c,e,z.sameBut hs (cne y c e)⟩
  ·obtain ⟨w',z⟩:=I.cell y c e
   exact ⟨w',z.sameBut hs (cne y c e)⟩
  ·obtain ⟨e,n,ne,nf,d⟩:=I.pin p hp
   exact ⟨(hs.2 p.1 ne).trans e,n,ne,nf,d⟩
 ·have hfn:X.fn x=true:=by
   rcases hf with z|z
   ·exact z
   ·rw [z] at hk;cases hk
  obtain ⟨c,hc⟩:=I.ok.has x (.inl hk)
  obtain ⟨w',z⟩:=I.cell x c hc
  refine wpAny_storeName_cell I.ok.kind hk hc z (fun h' hc' hs=>?_)
  obtain ⟨oc,hoc,hocd⟩:=id z
  refine h { s with heap:=h' } ⟨I.ok,I.os,I.bare,⟨fun b o e n hb hx=>?_,fun b o e n hb hx=>?_,I.base.free,fun b o e hx=>?_,I.base.tups,I.base.frzs,I.base.tbls⟩,⟨m,hn.sameBut hs (e6 (cne x c hc)),fun j y v' e1 e2 e3=>?_⟩,fun y c' e=>?_,I.free,I.freeC,fun p hp=>?_,tracked ⟨oc,hoc,I.freeC x c hc⟩ hs,by simpa using I.len⟩ ⟨c,hs,.inr hc⟩
  ·exact (hs.2 b (aE (ay (ah e) (I.ok.cab x c hfn hc)))).trans (I.base.keep b o e n hb hx)
  ·obtain ⟨sl,e1⟩:=I.base.slot b o e n hb hx
   exact ⟨sl,(hs.2 b (aE (ay (ah e) (I.ok.cab x c hfn hc)))).trans e1⟩
  ·obtain ⟨o',e1⟩:=I.base.there b o e hx
   exact ⟨o',(hs.2 b (aE (ay (ah e) (I.ok.cab x c hfn hc)))).trans e1⟩
  ·by_cases hj:j=i
   ·subst hj
    rw [hi] at e1;cases e1
    rw [ax hiσ] at e2
    cases e2
    exact ⟨u,r,.inr ⟨.inl hk,c,hc,hc'⟩⟩
   ·rw [ae (e6 hj)] at e2
    obtain ⟨u',r',q⟩:=hl j y v' e1 e2 e3
    refine ⟨u',r',?_⟩
    rcases q with q|⟨k,c',e,z'⟩
    ·exact .inl q
    ·refine .inr ⟨k,c',e,z'.sameBut hs ?_⟩
     rintro rfl
     exact hj (zW hN e1 (I.ok.inj _ _ _ e hc ▸ hi))
  ·by_cases hcc:c'=c
   ·subst hcc;exact ⟨_,hc'⟩
   ·obtain ⟨w2,z2⟩:=I.cell y c' e
    exact ⟨w2,z2.sameBut hs hcc⟩
  ·obtain ⟨e,n,ne,nf,d⟩:=I.pin p hp
   refine ⟨(hs.2 p.1 ?_).trans e,n,ne,nf,d⟩
   intro q
   rw [q,hoc] at e
   have q':oc=p.2:=bt e
   exact d w' (by rw [<- q'];exact hocd)
theorem v4 {M:K6}{A:aZ}{E:a8->aa->Prop}{i:Nat}{x:Str}{v:V}{u:a8}{Q:Unit->aa->Prop} (I:bj X pins σ H s) (hN:X.N.Nodup) (hi:X.N[i]?=some x) (hx:K2 X.env.scope x) (r:cD v u)
  (h:∀ s',bj X pins (σ.set i (some v)) H s'->Q () s') (hf:X.fn x=true\/X.env.scope.names.lookup x=some .local:=by first|exact .inl rfl|exact .inr rfl|assumption):ak M A (storeName X.env x u) Q E s :=
 xr I hN hi hx r (fun s' I' _=>h s' I') hf
theorem bj.call' {s':aa}{ch:List ac} (I:bj X pins σ H s) (ho:s'.os=s.os) (u:Un (qc X.stack) ch H H' s.heap s'.heap) (hok:nW X.prog X.w H' s'.heap) (hg:nM s'.gens)
  (hch:∀ b∈ch,(b∈X.ex\/X.s₀.heap.objs.size<=b)/\b≠X.env.locals/\(∀ x c,X.env.cells.lookup x=some c->c≠b)/\∀ p∈X.pn++pins,p.1≠b):bj X pins σ H' s':=by
 obtain ⟨h',g',d',t',o'⟩:=s'
 have e:o'=s.os:=ho
 subst e
 exact I.call (g':=g') (t':=t') (d':=d') u hok hg hch
end
abbrev XK:=a8->Option ac->Hp->Prop
abbrev St:=List (Option V)
abbrev VK:=V->Hp->Prop
abbrev TE:=St->Hp->VK->Prop
abbrev TT:=St->Hp->(Bool->Hp->Prop)->Prop
abbrev TA:=St->Hp->(List V->Hp->Prop)->Prop
structure wI where
 nx:St->Hp->Prop
 rt:VK
 bk:St->Hp->Prop:=fun _ _=>False
 ct:St->Hp->Prop:=fun _ _=>False
abbrev TS:=wI->St->Hp->Prop
inductive EP (X:Cx) (pins:List (ac×Obj)) (σ:St) (Q:VK) (u:a8) (s':aa):Prop
 |mk (v H':_) (h0:bj X pins σ H' s') (h1:cD v u) (h2:Q v H'):EP X pins σ Q u s'
inductive TP (X:Cx) (pins:List (ac×Obj)) (σ:St) (Q:Bool->Hp->Prop) (b:Bool) (s':aa):Prop
 |mk (H':_) (h0:bj X pins σ H' s') (h1:Q b H'):TP X pins σ Q b s'
inductive AP (X:Cx) (pins:List (ac×Obj)) (σ:St) (Q:List V->Hp->Prop) (us:List a8) (s':aa):Prop
 |mk (vs H':_) (h0:bj X pins σ H' s') (h1:cF vs us) (h2:Q vs H'):AP X pins σ Q us s'
inductive SN (X:Cx) (pins:List (ac×Obj)) (k:St->Hp->Prop) (s':aa):Prop
 |mk (σ':St) (H':Hp) (I:bj X pins σ' H' s') (q:k σ' H'):SN X pins k s'
inductive SV (X:Cx) (pins:List (ac×Obj)) (k:V->Hp->Prop) (u:a8) (s':aa):Prop
 |mk (v:V) (σ':St) (H':Hp) (I:bj X pins σ' H' s') (r:cD v u) (q:k v H'):SV X pins k u s'
def SP (X:Cx) (pins:List (ac×Obj)) (D:wI) (f:Flow) (s':aa):Prop :=
 match f with
 |.next=>SN X pins D.nx s'
 |.brk=>SN X pins D.bk s'
 |.cont=>SN X pins D.ct s'
 |.ret u=>SV X pins D.rt u s'
def PE (X:Cx) (e:aP) (t:TE):Prop :=
 ∀ (pins:List (ac×Obj)) (s:aa) (σ:St) (H:Hp) (Q:VK),bj X pins σ H s->t σ H Q->ak (az X.prog X.w) X.A (bU e X.env) (EP X pins σ Q) X.xe s
def PT (X:Cx) (e:aP) (t:TT):Prop :=
 ∀ (pins:List (ac×Obj)) (s:aa) (σ:St) (H:Hp) (Q:Bool->Hp->Prop),bj X pins σ H s->t σ H Q->ak (az X.prog X.w) X.A (uO e X.env (bU e X.env)) (TP X pins σ Q) X.xe s
def PW (X:Cx) (e:aP) (t:TT):Prop :=
 ∀ (whole:Sem a8) (pins:List (ac×Obj)) (s:aa) (σ:St) (H:Hp) (Q:Bool->Hp->Prop),bj X pins σ H s->t σ H Q->ak (az X.prog X.w) X.A (uO e X.env whole) (TP X pins σ Q) X.xe s
theorem PW.pt {X:Cx}{e:aP}{t:TT} (h:PW X e t):PT X e t:=h _
def PA (X:Cx) (es:List aP) (t:TA):Prop :=
 ∀ (pos:Pos) (pins:List (ac×Obj)) (s:aa) (σ:St) (H:Hp) (Q:List V->Hp->Prop),bj X pins σ H s->t σ H Q->ak (az X.prog X.w) X.A (spliced (fK pos (aq es X.env))) (AP X pins σ Q) X.xe s
def PS (X:Cx) (st:du) (t:TS):Prop :=
 ∀ (pins:List (ac×Obj)) (s:aa) (σ:St) (H:Hp) (D:wI),bj X pins σ H s->t D σ H->ak (az X.prog X.w) X.A (exec st X.env) (SP X pins D) X.xe s
def zN (X:Cx) (st:List du) (t:TS):Prop :=
 ∀ (pins:List (ac×Obj)) (s:aa) (σ:St) (H:Hp) (D:wI),bj X pins σ H s->t D σ H->ak (az X.prog X.w) X.A (execs st X.env) (SP X pins D) X.xe s
theorem eK {α:Type}{t:Sem α}{Q Q':α->aa->Prop}{M:K6}{A:aZ}{E:a8->aa->Prop}{s:aa} (h:ak M A t Q E s) (hQ:∀ a s,Q a s->Q' a s):ak M A t Q' E s:=c6 h hQ fun _ _ x=>x
end L2
namespace L2
open PySem PySem.Spec PyProof.Rows
section
variable {X:Cx}
inductive Mo (i:Nat) (σ:St) (H:Hp) (Q:VK):Prop
 |mk (v:_) (h0:σ[i]?=some (some v)) (h1:Q v H):Mo i σ H Q
def EB (i:Nat):TE:=Mo i
def tC (v:V):TE:=fun _ H Q=>Q v H
theorem o9 {i:Nat}{x:Str}{pos:Pos} (hN:X.N[i]?=some x) (hv:Kp X.env.scope x) (hd:(x==("__debug__" : Str))=false:=by decide) (hcd:(x==("__classdict__" : Str))=false:=by decide):PE X (.Name x pos) (EB i):=by
 intro pins s σ H Q I h
 obtain ⟨v,e,h⟩:=h
 obtain ⟨m,hn,hl⟩:=I.loc
 obtain ⟨u,r,l⟩:=hl i x v hN e hv
 have fin:EP X pins σ Q u s:=⟨v,H,I,r,h⟩
 rcases l with ⟨hk,hm⟩|⟨hk,c,hc,hcell⟩
 ·exact wpAny_Name (wpAny_loadName_local I.ok.kind hk hn hm fin) hd
 ·rcases hk with hk|hk
  ·exact wpAny_Name (wpAny_loadName_cell I.ok.kind hk hc hcell fin) hd
  ·exact wpAny_Name (wpAny_loadName_free I.ok.kind hk hc hcell fin hcd) hd
theorem Gu {i j pos}:PE X (.Constant (.int i) j pos) (tC (.int i)):=fun _ _ _ H _ I h=>wpAny_Constant_int ⟨.int i,H,I.tok _,⟨_,rfl⟩,h⟩
theorem Gv {b j pos}:PE X (.Constant (.bool b) j pos) (tC (.bl b)):=fun _ _ _ H _ I h=>Constant_bool ⟨.bl b,H,I,rfl,h⟩
theorem NM {j pos}:PE X (.Constant .none j pos) (tC .non):=fun _ _ _ H _ I h=>Constant_none ⟨.non,H,I,rfl,h⟩
theorem BH {x j pos}:PE X (.Constant (.str x) j pos) (tC (.str x)):=fun _ _ _ H _ I h=>Ee ⟨.str x,H,I.tok _,⟨_,rfl⟩,h⟩
def Gl (X:Cx) (x:Str):Prop:=X.env.kindOf x=some .globalImplicit
theorem uB {E:a8->aa->Prop}{pins:List (ac×Obj)}{s:aa}{σ:St}{H:Hp}{x:Str}{u:a8}{pos:Pos}{Q:a8->aa->Prop} (I:bj X pins σ H s) (hg:Gl X x) (hm:X.mg x=some u) (h:Q u s)
  (hd:(x==("__debug__" : Str))=false:=by decide):ak (az X.prog X.w) X.A (bU (.Name x pos) X.env) Q E s :=
 kQ I.ok.kind hg (zH (by rw [I.ok.glob];exact I.mod.glob.keeps I.bk) hm h) hd
theorem qk {E:a8->aa->Prop}{pins:List (ac×Obj)}{s:aa}{σ:St}{H:Hp}{x:Str}{u:a8}{pos:Pos}{Q:a8->aa->Prop} (I:bj X pins σ H s) (hg:Gl X x) (hm:X.mg x=none) (hv:gq x=some u) (h:Q u s)
  (hn:x≠"__name__":=by decide) (hd:(x==("__debug__" : Str))=false:=by decide):ak (az X.prog X.w) X.A (bU (.Name x pos) X.env) Q E s:=by
 obtain ⟨mb,h1,h2⟩:=I.mod.blt
 exact kQ I.ok.kind hg (Calls.loadGlobal_builtin (by rw [I.ok.glob];exact I.mod.glob.keeps I.bk) hm (by rw [I.ok.blt];exact h1.keeps I.bk) ((h2 x hn).trans hv) h) hd
theorem r9 {x:Str}{v:V}{u:a8}{pos:Pos} (hg:Gl X x) (hm:X.mg x=some u) (r:cD v u) (hd:(x==("__debug__" : Str))=false:=by decide):PE X (.Name x pos) (tC v) :=
 fun _ _ _ H _ I h=>uB I hg hm ⟨v,H,I,r,h⟩ hd
theorem D7 {x:Str}{v:V}{u:a8}{pos:Pos} (hg:Gl X x) (hm:X.mg x=none) (hv:gq x=some u) (r:cD v u) (hn:x≠"__name__":=by decide) (hd:(x==("__debug__" : Str))=false:=by decide):PE X (.Name x pos) (tC v) :=
 fun _ _ _ H _ I h=>qk I hg hm hv ⟨v,H,I,r,h⟩ hn hd
variable {a b:aP}{ta tb:TE}{pos:Pos}
def PC (X:Cx) (op:FW) (a b:aP) (t:TE):Prop :=
 ∀ (pins:List (ac×Obj)) (s:aa) (σ:St) (H:Hp) (Q:VK),bj X pins σ H s->t σ H Q ->
  ak (az X.prog X.w) X.A (bU a X.env) (fun v s₁=>ak (az X.prog X.w) X.A (bU b X.env) (fun u s₂=>ak (az X.prog X.w) X.A (bG op v u) (EP X pins σ Q) X.xe s₂) X.xe s₁) X.xe s
theorem Gw (b:aP) {op:FW} (h:op≠.In) (h2:op≠.NotIn):fm op b=false:=by
 have e1:(op==CmpOp.In)=false:=by cases op<;>first|rfl|exact absurd rfl h
 have e2:(op==CmpOp.NotIn)=false:=by cases op<;>first|rfl|exact absurd rfl h2
 cases b<;>simp [fm,e1,e2]
def tB (t:TE):TT:=fun σ H Q=>t σ H fun x H1=>∃ c,x=.bl c/\Q c H1
theorem Rz {op:FW}{t:TE} (h:PC X op a b t) (h1:fm op b=false:=by first|exact Gw _ (by decide) (by decide)|rfl):PT X (.Compare a [op] [b] pos) (tB t):=by
 intro pins s σ H Q I hw
 refine JR (eK (h pins s σ H _ I hw) fun v s1 h1=>eK h1 fun u s2 h2=>eK h2 fun c s3 ⟨x,H1,I1,r1,q1⟩=>?_) h1
 obtain ⟨d,rfl,q⟩:=q1
 cases r1
 exact cS ⟨H1,I1,q⟩
theorem Gx {e:aP}{t:TE} (h:PE X e t) (he:∀ whole,uO e X.env whole=(do let v <- whole;tM e.pos;Gf [v] (truthy v)):=by intro _;rfl):PT X e (tB t):=by
 intro pins s σ H Q I hw
 refine isTrue_plain (eK (h pins s σ H _ I hw) fun v s1 ⟨x,H1,I1,r1,q1⟩=>?_) (he _)
 obtain ⟨d,rfl,q⟩:=q1
 cases r1
 exact cS ⟨H1,I1,q⟩
variable {tA tB':TT}{bE:List aP}
def RA (t u:TT):TT:=fun σ H Q=>t σ H fun c H1=>if c=true then u σ H1 Q else Q false H1
def T7 (t u:TT):TT:=fun σ H Q=>t σ H fun c H1=>if c=true then Q true H1 else u σ H1 Q
def RC (t:TT):TT:=fun σ H Q=>t σ H fun c H1=>Q (!c) H1
theorem Kq (ha:PT X a tA):PW X (.BoolOp .And [a] pos) tA:=by
 intro wh pins s σ H Q I h
 refine isTrue_and (eK (ha pins s σ H Q I h) fun c s1 e=>?_)
 cases c with
 |true=>exact isTrue_and_nil e
 |false=>exact e
theorem Gy (ha:PT X a tA):PW X (.BoolOp .Or [a] pos) tA:=by
 intro wh pins s σ H Q I h
 refine isTrue_or (eK (ha pins s σ H Q I h) fun c s1 e=>?_)
 cases c with
 |false=>exact isTrue_or_nil e
 |true=>exact e
theorem NN (ha:PT X a tA) (hb:PW X (.BoolOp .And (b::bE) pos) tB'):PW X (.BoolOp .And (a::b::bE) pos) (RA tA tB'):=by
 intro wh pins s σ H Q I h
 refine isTrue_and (eK (ha pins s σ H _ I h) fun c s1 ⟨H1,I1,q1⟩=>?_)
 cases c with
 |true=>exact hb wh pins s1 σ H1 Q I1 q1
 |false=>exact ⟨H1,I1,q1⟩
theorem Mp (ha:PT X a tA) (hb:PW X (.BoolOp .Or (b::bE) pos) tB'):PW X (.BoolOp .Or (a::b::bE) pos) (T7 tA tB'):=by
 intro wh pins s σ H Q I h
 refine isTrue_or (eK (ha pins s σ H _ I h) fun c s1 ⟨H1,I1,q1⟩=>?_)
 cases c with
 |true=>exact ⟨H1,I1,q1⟩
 |false=>exact hb wh pins s1 σ H1 Q I1 q1
theorem Gz (ha:PT X a tA):PT X (.UnaryOp .Not a pos) (RC tA):=by
 intro pins s σ H Q I h
 exact isTrue_not (eK (ha pins s σ H (fun c H1=>Q (!c) H1) I h) fun _ _ x=>by obtain ⟨a,b,c⟩:=x;exact ⟨a,b,c⟩)
def Pd (ta tb:TE):TE:=fun σ H Q=>ta σ H fun x H1=>∃ c,x=.bl c/\if c=true then tb σ H1 Q else Q (.bl false) H1
def Pe (ta:TE):TE:=fun σ H Q=>ta σ H fun x H1=>∃ c,x=.bl c/\Q (.bl (!c)) H1
theorem NO {op}{t:TE} (h:PE X a t):PE X (.BoolOp op [a] pos) t:=fun pins s σ H Q I hw=>BoolOp_one (h pins s σ H Q I hw)
theorem NQ (ha:PE X a ta) (hb:PE X (.BoolOp .And (b::bE) pos) tb):PE X (.BoolOp .And (a::b::bE) pos) (Pd ta tb):=by
 intro pins s σ H Q I h
 refine BoolOp_and (eK (ha pins s σ H _ I h) fun v s1 ⟨x,H1,I1,r1,q1⟩=>?_)
 obtain ⟨c,rfl,q1⟩:=q1
 cases r1
 refine cS ?_
 cases c with
 |true=>exact hb pins s1 σ H1 Q I1 q1
 |false=>exact ⟨.bl false,H1,I1,rfl,q1⟩
theorem NR (ha:PE X a ta):PE X (.UnaryOp .Not a pos) (Pe ta):=by
 intro pins s σ H Q I h
 refine UnaryOp_ (eK (ha pins s σ H _ I h) fun v s1 ⟨x,H1,I1,r1,q1⟩=>?_)
 obtain ⟨c,rfl,q1⟩:=q1
 cases r1
 exact not_of (cS ⟨.bl (!c),H1,I1,rfl,q1⟩)
def T8 (t:TT) (ta tb:TE):TE:=fun σ H Q=>t σ H fun c H1=>if c=true then ta σ H1 Q else tb σ H1 Q
theorem GA {c:aP} (hc:PT X c tA) (ha:PE X a ta) (hb:PE X b tb):PE X (.IfExp c a b pos) (T8 tA ta tb):=by
 intro pins s σ H Q I h
 refine wpAny_IfExp (eK (hc pins s σ H _ I h) fun d s1 ⟨H1,I1,q1⟩=>?_)
 cases d with
 |true=>exact ha pins s1 σ H1 Q I1 q1
 |false=>exact hb pins s1 σ H1 Q I1 q1
end
end L2
namespace L2
open PySem PySem.Spec PyProof.Rows
inductive Su (K:a6) (a:ac) (xs:List V):Prop
 |mk (o:Obj) (its:Array a8) (n:Nat) (h0:K.lookup a=some o) (h1:o.cls=.type "list") (h2:o.dict=none) (h3:o.data=.seq its n) (h4:its.size<=sizeLine) (h5:cF xs its.toList):Su K a xs
def jI (K:a6) (H:Hp) (a:ac) (xs:List V):Prop :=
 Rd H a (.lst xs)\/Su K a xs
inductive RE (K:a6) (a:ac) (xs:List V):Prop
 |mk (o:Obj) (its:Array a8) (n:Nat) (h0:K.lookup a=some o) (h1:o.cls=.type "tuple") (h3:o.data=.seq its n) (h4:its.size<=sizeLine) (h5:cF xs its.toList):RE K a xs
def ic (K:a6) (H:Hp) (a:ac) (xs:List V):Prop :=
 Rd H a (.tup xs)\/RE K a xs
def RF:a8->Option V
 |.none=>some .non
 |.bool b=>some (.bl b)
 |.int i _=>some (.int i)
 |.str x _=>some (.str x)
 |.bytes b _=>some (.byt b)
 |.float b _=>some (.flt b)
 |.ref a=>some (.ref a)
 |.type n=>some (.ty n)
 |_=>none
theorem cD.abs {x:V}{u:a8} (r:cD x u):RF u=some x:=by
 cases x with
 |non=>cases r;rfl
 |bl _=>cases r;rfl
 |int _=>obtain ⟨t,rfl⟩:=r;rfl
 |str _=>obtain ⟨t,rfl⟩:=r;rfl
 |byt _=>obtain ⟨t,rfl⟩:=r;rfl
 |flt _=>obtain ⟨t,rfl⟩:=r;rfl
 |ref _=>cases r;rfl
 |ty _=>cases r;rfl
theorem cD.inj {x y:V}{u:a8} (r:cD x u) (q:cD y u):x=y:=bt (r.abs.symm.trans q.abs)
theorem cF.inj {xs:List V}{us:List a8} (h:cF xs us):∀ {ys:List V},cF ys us->xs=ys:=by
 induction h with
 |nil=>intro ys k;cases k;rfl
 |cons r t ih=>intro ys k;cases k with|cons r' t'=>rw [r.inj r',ih t']
section
variable {X:Cx}{pins:List (ac×Obj)}{σ:St}{H:Hp}{s:aa}{a:ac}{xs ys:List V}
theorem jI.of {K:a6} (h:H a=some (.lst xs)):jI K H a xs:=.inl (.inl h)
theorem ic.of {K:a6} (h:H a=some (.tup xs)):ic K H a xs:=.inl (.inl h)
inductive Sv (h:ba) (a:ac) (xs:List V):Prop
 |mk (its:List a8) (r:cF xs its) (p:PlainL h a its.toArray) (z:xs.length<=sizeLine):Sv h a xs
inductive Sw (h:ba) (a:ac) (xs:List V):Prop
 |mk (its:List a8) (r:cF xs its) (p:IsTup h a its.toArray) (z:xs.length<=sizeLine):Sw h a xs
inductive Sx (h:ba) (l:ac) (xs:List V):Prop
 |mk (z:xs.length<=sizeLine) (its:List a8) (n:Nat) (r:cF xs its) (hl:xs.length=its.length) (e:h.get? l=some { cls:=.type "list",data:=.seq its.toArray n }):Sx h l xs
theorem bj.list (I:bj X pins σ H s) (h:jI X.K H a xs):Sv s.heap a xs:=by
 rcases h with h|⟨o,its,n,hk,hc,hd,hs,hz,r⟩
 ·obtain ⟨z,its,n,r,e⟩:=h.ok I.hok
  exact ⟨its,r,⟨_,n,e,rfl,rfl,rfl⟩,z⟩
 ·refine ⟨its.toList,r,⟨o,n,I.kIn a o hk,hc,hd,by simpa using hs⟩,?_⟩
  have e:=r.length
  simp only [aO] at e
  omega
theorem bj.tuple (I:bj X pins σ H s) (h:ic X.K H a xs):Sw s.heap a xs:=by
 rcases h with h|⟨o,its,n,hk,hc,hs,hz,r⟩
 ·obtain ⟨z,its,r,p⟩:=h.ok I.hok
  exact ⟨its,r,p,z⟩
 ·refine ⟨its.toList,r,⟨o,I.kIn a o hk,hc,n,by simpa using hs⟩,?_⟩
  have e:=r.length
  simp only [aO] at e
  omega
theorem bj.list_inj (I:bj X pins σ H s) (h:jI X.K H a xs) (h':jI X.K H a ys):xs=ys:=by
 obtain ⟨its,r,⟨o,n,e,_,_,d⟩,_⟩:=I.list h
 obtain ⟨its',r',⟨o',n',e',_,_,d'⟩,_⟩:=I.list h'
 rw [e] at e';cases e'
 rw [d] at d'
 injection d' with d1 _
 have:its=its':=by simpa using congrArg Array.toList d1
 subst this
 exact r.inj r'
theorem bj.tuple_inj (I:bj X pins σ H s) (h:ic X.K H a xs) (h':ic X.K H a ys):xs=ys:=by
 obtain ⟨its,r,⟨o,e,_,n,d⟩,_⟩:=I.tuple h
 obtain ⟨its',r',⟨o',e',_,n',d'⟩,_⟩:=I.tuple h'
 rw [e] at e';cases e'
 rw [d] at d'
 injection d' with d1 _
 have:its=its':=by simpa using congrArg Array.toList d1
 subst this
 exact r.inj r'
end
abbrev Cx.wish (X:Cx) (E:a8->aa->Prop):Cx:={ X with xe:=E }
abbrev Cx.nox (X:Cx):Cx:=X.wish fun _ _=>False
theorem Cx.Ok.wish {X:Cx} (ok:X.Ok) (E:a8->aa->Prop):(X.wish E).Ok :=
 ⟨ok.mod,ok.kind,ok.glob,ok.blt,ok.above,ok.inj,ok.has,ok.cab,ok.hd,ok.frames,ok.stk,ok.exf,ok.bs,ok.bsz,ok.noex,ok.exfs,ok.funs,ok.frf⟩
theorem Cx.Ok.unwish {X:Cx}{E:a8->aa->Prop} (ok:(X.wish E).Ok):X.Ok :=
 ⟨ok.mod,ok.kind,ok.glob,ok.blt,ok.above,ok.inj,ok.has,ok.cab,ok.hd,ok.frames,ok.stk,ok.exf,ok.bs,ok.bsz,ok.noex,ok.exfs,ok.funs,ok.frf⟩
section
variable {X:Cx}{pins:List (ac×Obj)}{σ:St}{H:Hp}{s:aa}{E:a8->aa->Prop}
theorem bj.wish (I:bj X pins σ H s) (E:a8->aa->Prop):bj (X.wish E) pins σ H s:=⟨I.ok.wish E,I.os,I.bare,I.base,I.loc,I.cell,I.free,I.freeC,I.pin,I.hok,I.len⟩
theorem bj.unwish (I:bj (X.wish E) pins σ H s):bj X pins σ H s:=⟨I.ok.unwish,I.os,I.bare,I.base,I.loc,I.cell,I.free,I.freeC,I.pin,I.hok,I.len⟩
theorem SP.unwish {D:wI}{f:Flow}{s':aa} (h:SP (X.wish E) pins D f s'):SP X pins D f s':=by
 cases f with
 |next=>obtain ⟨σ',H',I,q⟩:=h;exact ⟨σ',H',I.unwish,q⟩
 |brk=>obtain ⟨σ',H',I,q⟩:=h;exact ⟨σ',H',I.unwish,q⟩
 |cont=>obtain ⟨σ',H',I,q⟩:=h;exact ⟨σ',H',I.unwish,q⟩
 |ret u=>obtain ⟨v,σ',H',I,r,q⟩:=h;exact ⟨v,σ',H',I.unwish,r,q⟩
end
section
variable {X:Cx}{st:du}{bE:List du}{t u:TS}{e:aP}{te:TE}{pos:Pos}
def Pf:TS:=fun D σ H=>D.nx σ H
def RG (t u:TS):TS:=fun D σ H=>t { D with nx:=u D } σ H
theorem D8:zN X [] Pf:=fun _ _ σ H _ I h=>qQ ⟨σ,H,I,h⟩
theorem iJ (h1:PS X st t) (h2:zN X bE u):zN X (st::bE) (RG t u):=by
 intro pins s σ H D I h
 refine wpAny_execs_cons (eK (h1 pins s σ H { D with nx:=u D } I h) fun f s1 q=>?_)
 cases f with
 |next =>
  obtain ⟨σ',H',I',q⟩:=q
  exact h2 pins s1 σ' H' D I' q
 |ret v=>exact q
 |brk=>exact q
 |cont=>exact q
theorem yn (h1:PS X st t):zN X [st] t:=by
 intro pins s σ H D I h
 refine wpAny_execs_cons (eK (h1 pins s σ H D I h) fun f s1 q=>?_)
 cases f with
 |next=>exact qQ q
 |ret v=>exact q
 |brk=>exact q
 |cont=>exact q
theorem bj.quiet {pins:List (ac×Obj)}{σ:St}{H:Hp}{s:aa} (I:bj X pins σ H s):interactive X.env=false:=by simp [interactive,I.ok.kind]
def Pg (te:TE):TS:=fun D σ H=>te σ H fun _ H1=>D.nx σ H1
theorem uC (he:PE X e te) (hs:iB e none pos.line X.env=pure false:=by rfl):PS X (.Expr e pos) (Pg te):=by
 intro pins s σ H D I h
 exact wpAny_Expr_any (eK (he pins s σ H _ I h) fun v s1 h_7=>by obtain ⟨x,H1,I1,r1,q1⟩:=h_7;exact ⟨σ,H1,I1,q1⟩) I.quiet hs
def Ph (te:TE):TS:=fun D σ H=>te σ H D.rt
theorem BI (he:PE X e te):PS X (.Return (some e) pos) (Ph te):=by
 intro pins s σ H D I h
 exact wpAny_Return_some (eK (he pins s σ H _ I h) fun v s1 h_8=>by obtain ⟨x,H1,I1,r1,q1⟩:=h_8;exact ⟨x,σ,H1,I1,r1,q1⟩)
def RH (c:TT) (t u:TS):TS:=fun D σ H=>c σ H fun b H1=>if b=true then t D σ H1 else u D σ H1
theorem Mq {c:aP}{a b:List du}{tc:TT} (hc:PT X c tc) (ha:zN X a t) (hb:zN X b u):PS X (.If c a b pos) (RH tc t u):=by
 intro pins s σ H D I h
 refine wpAny_If (eK (hc pins s σ H _ I h) fun d s1 ⟨H1,I1,q1⟩=>?_)
 cases d with
 |true=>exact ha pins s1 σ H1 D I1 q1
 |false=>exact hb pins s1 σ H1 D I1 q1
def NS:TS:=fun _ _ _=>False
theorem lT {sts:List du}:zN X sts NS:=fun _ _ _ _ _ _ h=>h.elim
end
abbrev TG:=V->St->Hp->(St->Hp->Prop)->Prop
abbrev BJ:=List V->St->Hp->(St->Hp->Prop)->Prop
def PG (X:Cx) (target:aP) (t:TG):Prop :=
 ∀ (pins:List (ac×Obj)) (s:aa) (σ:St) (H:Hp) (v:V) (u:a8) (Q:St->Hp->Prop),bj X pins σ H s->cD v u->t v σ H Q ->
  ak (az X.prog X.w) X.A (ms target X.env u) (fun _ s'=>SN X pins Q s') X.xe s
def GB (X:Cx) (ts:List aP) (t:BJ):Prop :=
 ∀ (pins:List (ac×Obj)) (s:aa) (σ:St) (H:Hp) (vs:List V) (us:List a8) (Q:St->Hp->Prop),bj X pins σ H s->cF vs us->t vs σ H Q ->
  ak (az X.prog X.w) X.A (assignInOrder ((dh ts X.env).map (·.2)) us) (fun _ s'=>SN X pins Q s') X.xe s
section
variable {X:Cx}{pos:Pos}
def tT (i:Nat):TG:=fun v σ H Q=>Q (σ.set i (some v)) H
theorem dQ {i:Nat}{x:Str} (hN:X.N.Nodup) (hi:X.N[i]?=some x) (hx:K2 X.env.scope x) (hf:X.fn x=true\/X.env.scope.names.lookup x=some .local:=by first|exact .inl rfl|exact .inr rfl|assumption):PG X (.Name x pos) (tT i):=by
 intro pins s σ H v u Q I r h
 exact wpAny_assign_Name (v4 I hN hi hx r (fun s' I'=>⟨_,H,I',h⟩) hf)
def aV:BJ:=fun vs σ H Q=>vs=[]/\Q σ H
inductive GC (t:TG) (u:BJ) (vs:List V) (σ:St) (H:Hp) (Q:St->Hp->Prop):Prop
 |mk (v r:_) (h0:vs=v::r) (h1:t v σ H fun σ' H'=>u r σ' H' Q):GC t u vs σ H Q
def af (t:TG) (u:BJ):BJ:=GC t u
theorem yo:GB X [] aV:=by
 intro pins s σ H vs us Q I r h
 obtain ⟨e,h⟩:=h
 subst e
 cases r
 exact assignInOrder_nil ⟨σ,H,I,h⟩
theorem re {e:aP}{es:List aP}{t:TG}{u:BJ} (h1:PG X e t) (h2:GB X es u)
  (hs:(dh (e::es) X.env).map (·.2)=ms e X.env::(dh es X.env).map (·.2):=by rfl):GB X (e::es) (af t u):=by
 intro pins s σ H vs us Q I r h
 obtain ⟨v,vr,e1,h⟩:=h
 subst e1
 cases r with
 |cons r rr =>
  rw [hs]
  refine assignInOrder_cons (eK (h1 pins s σ H _ _ _ I r h) fun _ s1 ⟨σ1,H1,I1,q1⟩=>?_)
  exact h2 pins s1 σ1 H1 _ _ Q I1 rr q1
inductive Mr (K:a6) (n:Nat) (t:BJ) (v:V) (σ:St) (H:Hp) (Q:St->Hp->Prop):Prop
 |mk (a xs:_) (h0:v=.ref a) (h1:ic K H a xs) (h2:xs.length=n) (h3:t xs σ H Q):Mr K n t v σ H Q
def NT (K:a6) (n:Nat) (t:BJ):TG:=Mr K n t
theorem GD {es:List aP}{k:Nat}{t:BJ}{n:Nat} (hc:X.calm=true) (h:GB X es t)
  (hn:(dh es X.env).length=n:=by rfl) (hst:(dh es X.env).findIdx? (·.1)=none:=by rfl):PG X (.Tuple es k pos) (NT X.K n t):=by
 intro pins s σ H v u Q I r hw
 obtain ⟨a,xs,e1,hq,hl,hw⟩:=hw
 subst e1
 cases r
 obtain ⟨its,rv,ht,hz⟩:=I.tuple hq
 refine assign_Tuple_tuple (I.ok.hd hc) ht (by simp [hn,<- hl,rv.length]) hst fun h' hx=>?_
 have I1:bj X pins σ H { s with heap:=h' }:=I.kept (t':=s.toks) fun b o e=>hx b o (aE (ah e)) e
 exact h pins _ σ H xs _ Q I1 (by simpa using rv) hw
def Pi (te:TE) (g:TG):TS:=fun D σ H=>te σ H fun x H1=>g x σ H1 D.nx
theorem BK {tg e:aP}{te:TE}{g:TG} (he:PE X e te) (hg:PG X tg g) (hs:Ef [tg] e pos.line X.env=pure false:=by rfl) (hw:Eg [tg] e X.env=pure none:=by rfl)
  (h1:(dh [tg] X.env).map (·.2)=[ms tg X.env]:=by rfl):PS X (.Assign [tg] e pos) (Pi te g):=by
 intro pins s σ H D I h
 refine wpAny_Assign_stores (eK (he pins s σ H _ I h) fun v s1 ⟨x,H1,I1,r1,q1⟩=>?_) hs hw
 rw [h1]
 exact eK (hg pins s1 σ H1 x v _ I1 r1 q1) fun _ s2 q=>q
theorem yp {i:Nat}{x:Str}{e:aP}{te:TE}{pos':Pos} (hN:X.N.Nodup) (hi:X.N[i]?=some x) (hx:K2 X.env.scope x) (he:PE X e te) (hs:iB e (some (.Name x pos')) pos.line X.env=pure false:=by rfl) (hf:X.fn x=true\/X.env.scope.names.lookup x=some .local:=by first|exact .inl rfl|exact .inr rfl|assumption) :
  PS X (.Assign [.Name x pos'] e pos) (Pi te (tT i)):=by
 intro pins s σ H D I h
 refine wpAny_Assign_Name (eK (he pins s σ H _ I h) fun v s1 ⟨y,H1,I1,r1,q1⟩=>?_) hs
 exact v4 I1 hN hi hx r1 (fun s2 I2=>⟨_,H1,I2,q1⟩) hf
end
section
variable {X:Cx}{pos:Pos}
end
structure It where
 go:Nat->Hp->Prop
 yld:Nat->Hp->V->Hp->Prop
 stop:Nat->Hp->Prop
structure pT (X:Cx) (pins:List (ac×Obj)) (H:Hp) (b:ac):Prop where
 f0:H b=none
 f1:b≠X.env.locals
 f2:b∉X.fs
 f3:b∈X.ex\/X.s₀.heap.objs.size<=b
 f4:∀ x c,X.env.cells.lookup x=some c->c≠b
 f5:∀ p∈X.pn++pins,p.1≠b
theorem bj.fpOk {X:Cx}{pins:List (ac×Obj)}{σ:St}{H H':Hp}{s:aa}{b:ac} (I:bj X pins σ H s) (hb:s.heap.objs.size<=b) (hn:H' b=none):pT X pins H' b:=by
 refine ⟨hn,dI (ay I.lt hb),I.nofs hb,.inr (bv I.sz hb),fun x c e z=>?_,fun p hp z=>?_⟩
 ·obtain ⟨v,q⟩:=I.cell x c e
  exact absurd (ay q.lt (by rw [z];exact hb)) (cu _)
 ·exact absurd (ay (ah (I.pin p hp).1) (by rw [z];exact hb)) (cu _)
structure yq (P:aH) (w:aY) (K:a6) (tg:aP) (J:It) (fp:List ac) (it:ac) (tn:Nat->ba->Prop):Prop where
 mem:it∈fp
 obj:∀ i h,tn i h->∀ b∈fp,∃ o,h.get? b=some o/\∀ v,o.data≠.cell v
 keep:∀ i h h',tn i h->(∀ b∈fp,∀ o,h.get? b=some o->h'.get? b=some o)->tn i h'
 item:∀ (X:Cx),X.prog=P->X.w=w->X.K=K->X.calm=true->∀ (i:Nat) (pins:List (ac×Obj)) (s:aa) (σ:St) (H:Hp) (E:a8->aa->Prop),bj X pins σ H s->(∀ b∈fp,pT X pins H b)->tn i s.heap->J.go i H ->
  ak (az P w) X.A (mx (.ref it)) (fun r s1=>∃ u,r=some u /\
   ak (az P w) X.A (gP tg (.ref it) u) (fun _ s2=>∃ x H',bj X pins σ H' s2/\cD x u/\J.yld i H x H'/\tn (i+1) s2.heap/\∀ b∈fp,H' b=none) E s1) E s
 done:∀ (X:Cx),X.prog=P->X.w=w->X.K=K->X.calm=true->∀ (i:Nat) (pins:List (ac×Obj)) (s:aa) (σ:St) (H:Hp) (E:a8->aa->Prop),bj X pins σ H s->(∀ b∈fp,pT X pins H b)->tn i s.heap->J.stop i H ->
  ak (az P w) X.A (mx (.ref it)) (fun r s1=>r=none/\bj X pins σ H s1) E s
 self:∀ (A:aZ) (i:Nat) (s:aa) (Q:a8->aa->Prop) (E:a8->aa->Prop),tn i s.heap->Q (.ref it) s->ak (az P w) A (uP (.ref it)) Q E s
abbrev TI:=St->Hp->(It->Hp->Prop)->Prop
inductive RI (X:Cx) (pins:List (ac×Obj)) (σ:St) (tg:aP) (R:It->Hp->Prop) (itv:a8) (s2:aa):Prop
 |mk (it:ac) (fp:List ac) (tn:Nat->ba->Prop) (J:It) (H':Hp) (h0:itv=.ref it) (I:bj X pins σ H' s2) (T:yq X.prog X.w X.K tg J fp it tn) (t0:tn 0 s2.heap) (f:∀ b∈fp,pT X pins H' b) (q:R J H'):RI X pins σ tg R itv s2
inductive RJ (X:Cx) (pins:List (ac×Obj)) (tn:Nat->ba->Prop) (fp:List ac) (W:Nat->Nat->St->Hp->Prop) (n:Nat) (s':aa):Prop
 |mk (i:Nat) (σ':St) (H':Hp) (I:bj X pins σ' H' s') (t:tn i s'.heap) (f:∀ b∈fp,H' b=none) (q:W i n σ' H'):RJ X pins tn fp W n s'
def PI (X:Cx) (tg iter:aP) (wi:TI):Prop :=
 ∀ (pins:List (ac×Obj)) (s:aa) (σ:St) (H:Hp) (R:It->Hp->Prop),bj X pins σ H s->wi σ H R ->
  ak (az X.prog X.w) X.A (bU iter X.env) (fun v s1=>ak (az X.prog X.w) X.A (uP v) (RI X pins σ tg R) X.xe s1) X.xe s
theorem GE {M : K6} {A : aZ} {E : a8 -> aa -> Prop} {s : aa} {tg : aP} {it : ac} {u : a8} {o : Obj} {n : String} {vs : Array a8} {Q : Unit -> aa -> Prop} (ho : s.heap.get? it = some o) (hc : o.cls = .type n) (hd : o.data = .fields vs)
    (hn : ["enumerate", "zip", "dict_itemiterator", "dict_reverseitemiterator", "odict_iterator", "itertools.zip_longest", "itertools.pairwise"].contains n = false) (hQ : Q () s) : ak M A (gP tg (.ref it) u) Q E s := by
  unfold gP
  cases tg <;> first
    | exact a9 hQ
    | (cases u <;> first
        | exact a9 hQ
        | (refine a5 (wpAny_load ho ?_)
           rw [hc, hd]
           show ak M A (if (["enumerate", "zip", "dict_itemiterator", "dict_reverseitemiterator", "odict_iterator", "itertools.zip_longest", "itertools.pairwise"].contains n && vs[0]? == some (bM _)) = true then _ else _) Q E s
           rw [if_neg (by intro h; rw [hn, xg] at h; cases h)]
           exact a9 hQ))
def RK (K:a6) (a:ac):It :=
 ⟨fun i H=>∃ xs x,jI K H a xs/\xs[i]?=some x,fun i H x H'=>H'=H/\∀ xs,jI K H a xs->xs[i]?=some x,fun i H=>∃ xs,jI K H a xs/\xs.length<=i⟩
def RL (K:a6) (a:ac):It :=
 ⟨fun i H=>∃ xs x,ic K H a xs/\xs[i]?=some x,fun i H x H'=>H'=H/\∀ xs,ic K H a xs->xs[i]?=some x,fun i H=>∃ xs,ic K H a xs/\xs.length<=i⟩
def Rf (lo:Int) (n:Nat):It:=⟨fun i _=>i<n,fun i H x H'=>H'=H/\x=.int (lo+i),fun i _=>n<=i⟩
theorem EC {P:aH}{w:aY}{K:a6}{tg:aP} (a it:ac):yq P w K tg (RK K a) [it] it (fun i h=>h.IsListIter it a i) where
 mem:=by simp
 obj:=fun i h st b hb=>by
  have e:b=it:=by simpa using hb
  subst e
  obtain ⟨o,e,c,d⟩:=st
  exact ⟨o,e,fun v z=>by rw [d] at z;cases z⟩
 keep:=fun i h h' st k=>st.at fun o e=>k it (by simp) o e
 item:=by
  intro X hP hw hK hc i pins s σ H E I hf st hg
  subst hP hw hK
  obtain ⟨xs,x,hq,hx⟩:=hg
  obtain ⟨its,rv,p,hz⟩:=I.list hq
  obtain ⟨u,hu,ru⟩:=rv.get hx
  obtain ⟨f0,f1,f2,f3,f4,f5⟩:=hf it (by simp)
  refine wpAny_pyNext_list_item st p.isList (x:=u) (by simpa using hu) fun h' st' sb=>?_
  have I1:bj X pins σ H { s with heap:=h' }:=I.turned (t':=s.toks) (fun b o hb e=>(sb.2 b hb).trans e) f0 f1 f3 f4 f5
  obtain ⟨o,e,c,d⟩:=id st'
  exact ⟨u,rfl,GE (s:={ s with heap:=h' }) e c d (by decide) ⟨x,H,I1,ru,⟨rfl,fun ys hy=>by rw [I.list_inj hy hq];exact hx⟩,st',fun b hb=>(hf b hb).1⟩⟩
 done:=by
  intro X hP hw hK hc i pins s σ H E I hf st hg
  subst hP hw hK
  obtain ⟨xs,hq,hx⟩:=hg
  obtain ⟨its,rv,p,hz⟩:=I.list hq
  obtain ⟨f0,f1,f2,f3,f4,f5⟩:=hf it (by simp)
  have hl:=rv.length
  exact wpAny_pyNext_list_end (I.ok.hd hc) st p.isList (by simp;omega) fun h' eb=>⟨rfl,I.turned (t':=s.toks) (fun b o hb e=>eb b o hb e) f0 f1 f3 f4 f5⟩
 self:=fun _ _ _ _ _ st h=>wpAny_pyIter_listiter st h
theorem BL {P:aH}{w:aY}{K:a6}{tg:aP} (a it:ac):yq P w K tg (RL K a) [it] it (fun i h=>h.IsTupleIter it a i) where
 mem:=by simp
 obj:=fun i h st b hb=>by
  have e:b=it:=by simpa using hb
  subst e
  obtain ⟨o,e,c,d⟩:=st
  exact ⟨o,e,fun v z=>by rw [d] at z;cases z⟩
 keep:=fun i h h' st k=>st.at fun o e=>k it (by simp) o e
 item:=by
  intro X hP hw hK hc i pins s σ H E I hf st hg
  subst hP hw hK
  obtain ⟨xs,x,hq,hx⟩:=hg
  obtain ⟨its,rv,p,hz⟩:=I.tuple hq
  obtain ⟨u,hu,ru⟩:=rv.get hx
  obtain ⟨f0,f1,f2,f3,f4,f5⟩:=hf it (by simp)
  refine wpAny_pyNext_tuple_item st (show s.heap.IsTuple a its.toArray from p) (x:=u) (by simpa using hu) fun h' st' sb=>?_
  have I1:bj X pins σ H { s with heap:=h' }:=I.turned (t':=s.toks) (fun b o hb e=>(sb.2 b hb).trans e) f0 f1 f3 f4 f5
  obtain ⟨o,e,c,d⟩:=id st'
  exact ⟨u,rfl,GE (s:={ s with heap:=h' }) e c d (by decide) ⟨x,H,I1,ru,⟨rfl,fun ys hy=>by rw [I.tuple_inj hy hq];exact hx⟩,st',fun b hb=>(hf b hb).1⟩⟩
 done:=by
  intro X hP hw hK hc i pins s σ H E I hf st hg
  subst hP hw hK
  obtain ⟨xs,hq,hx⟩:=hg
  obtain ⟨its,rv,p,hz⟩:=I.tuple hq
  obtain ⟨f0,f1,f2,f3,f4,f5⟩:=hf it (by simp)
  have hl:=rv.length
  exact wpAny_pyNext_tuple_end (I.ok.hd hc) st (show s.heap.IsTuple a its.toArray from p) (by simp;omega) fun h' eb=>⟨rfl,I.turned (t':=s.toks) (fun b o hb e=>eb b o hb e) f0 f1 f3 f4 f5⟩
 self:=fun _ _ _ _ _ st h=>wpAny_pyIter_tupleiter st h
theorem BM {P:aH}{w:aY}{K:a6}{tg:aP} (it:ac) (lo:Int) (n:Nat):yq P w K tg (Rf lo n) [it] it (fun i h=>IsRangeIter h it (lo+(i:Nat)*1) ((n:Int)-(i:Nat)) 1) where
 mem:=by simp
 obj:=fun i h st b hb=>by
  have e:b=it:=by simpa using hb
  subst e
  exact ⟨_,st,fun v z=>by
   have z':Data.fields _=Data.cell v:=z
   cases z'⟩
 keep:=fun i h h' st k=>k it (by simp) _ st
 item:=by
  intro X hP hw hK hc i pins s σ H E I hf st hg
  subst hP hw hK
  obtain ⟨f0,f1,f2,f3,f4,f5⟩:=hf it (by simp)
  have W:=Walks.range (prog:=X.prog) (w:=X.w) (I.ok.hd hc) it lo 1 n
  refine W.item i s _ _ hg st fun v h' tk hv st' kk=>?_
  obtain ⟨t,rfl⟩:=hv
  have I1:bj X pins σ H { s with heap:=h',toks:=tk }:=I.turned (fun b o hb e=>kk b o (by simpa using hb) e) f0 f1 f3 f4 f5
  refine ⟨_,rfl,GE (s:={ s with heap:=h',toks:=tk }) (n:="range_iterator") st' rfl rfl (by decide) ⟨.int (lo+i),H,I1,⟨t,?_⟩,⟨rfl,rfl⟩,st',fun b hb=>(hf b hb).1⟩⟩
  rw [Int.mul_one]
 done:=by
  intro X hP hw hK hc i pins s σ H E I hf st hg
  subst hP hw hK
  obtain ⟨f0,f1,f2,f3,f4,f5⟩:=hf it (by simp)
  exact wpAny_pyNext_range_end (I.ok.hd hc) st (by have:n<=i:=hg;omega) fun h' eb=>⟨rfl,I.turned (t':=s.toks) (fun b o hb e=>eb b o hb e) f0 f1 f3 f4 f5⟩
 self:=fun _ _ _ _ _ st h=>wpAny_pyIter_rangeiter st h
end L2
namespace L2
open PySem PySem.Spec PyProof.Rows
section
variable {X:Cx}{tg:aP}
def Pj (K:a6) (tl:TE):TI:=fun σ H R=>tl σ H fun x H1=>∃ a,x=.ref a/\(∃ xs,jI K H1 a xs)/\R (RK K a) H1
def RM (K:a6) (tl:TE):TI:=fun σ H R=>tl σ H fun x H1=>∃ a,x=.ref a/\(∃ xs,ic K H1 a xs)/\R (RL K a) H1
theorem rf {l:aP}{tl:TE} (hl:PE X l tl):PI X tg l (Pj X.K tl):=by
 intro pins s σ H R I h
 refine eK (hl pins s σ H _ I h) fun v s1 h_16=>?_
 obtain ⟨x,H1,I1,r1,q1⟩:=h_16
 obtain ⟨a,e,⟨xs,hq⟩,q⟩:=q1
 subst e
 cases r1
 obtain ⟨its,rv,p,hz⟩:=I1.list hq
 refine hJ p.isList ?_
 refine ⟨s1.heap.objs.size,[s1.heap.objs.size],_,_,H1,rfl,I1.kept (t':=s1.toks) fun b o e=>a7 _ e,EC a _,⟨_,aj _ rfl,rfl,rfl⟩,fun b hb=>?_,q⟩
 have e:b=s1.heap.objs.size:=by simpa using hb
 subst e
 exact I1.fpOk (al _) (I1.hok.fresh (al _))
theorem BN {l:aP}{tl:TE} (hl:PE X l tl):PI X tg l (RM X.K tl):=by
 intro pins s σ H R I h
 refine eK (hl pins s σ H _ I h) fun v s1 h_17=>?_
 obtain ⟨x,H1,I1,r1,q1⟩:=h_17
 obtain ⟨a,e,⟨xs,hq⟩,q⟩:=q1
 subst e
 cases r1
 obtain ⟨its,rv,p,hz⟩:=I1.tuple hq
 refine dR (show s1.heap.IsTuple a its.toArray from p) ?_
 refine ⟨s1.heap.objs.size,[s1.heap.objs.size],_,_,H1,rfl,I1.kept (t':=s1.toks) fun b o e=>a7 _ e,BL a _,⟨_,aj _ rfl,rfl,rfl⟩,fun b hb=>?_,q⟩
 have e:b=s1.heap.objs.size:=by simpa using hb
 subst e
 exact I1.fpOk (al _) (I1.hok.fresh (al _))
theorem GF {pins:List (ac×Obj)}{σ:St}{H:Hp}{s:aa}{R:It->Hp->Prop}{E:a8->aa->Prop}{lo hi:Int}{t u v:Tok}{tk:Nat} (I:bj X pins σ H s) (h1:-(2 ^ 62)<=lo) (h2:lo<2 ^ 62) (h3:-(2 ^ 62)<=hi) (h4:hi<2 ^ 62)
  (q:R (Rf lo (hi-lo).toNat) H):ak (az X.prog X.w) X.A (uP (.ref s.heap.objs.size)) (RI X pins σ tg R) E { s with heap:=s.heap.push { cls:=.type "range",data:=.fields #[.int lo t,.int hi u,.int 1 v] },toks:=tk }:=by
 refine wpAny_pyIter_range (IsRange.new ..) (small_one h1 h2 h3 h4) ?_
 have I1:bj X pins σ H { s with heap:=s.heap.push { cls:=.type "range",data:=.fields #[.int lo t,.int hi u,.int 1 v] },toks:=tk }:=I.kept fun b o e=>a7 _ e
 refine ⟨(s.heap.push { cls:=.type "range",data:=.fields #[.int lo t,.int hi u,.int 1 v] }).objs.size,[(s.heap.push { cls:=.type "range",data:=.fields #[.int lo t,.int hi u,.int 1 v] }).objs.size],_,_,H,rfl,
  I1.kept (t':=tk) fun b o e=>a7 _ e,BM _ lo (hi-lo).toNat,?_,fun b hb=>?_,q⟩
 ·have e1:lo+((0:Nat):Int)*1=lo:=by simp
  have e2:(((hi-lo).toNat:Nat):Int)-((0:Nat):Int)=Builtin.Range.rangeSize lo hi 1:=by rw [rangeSize_one];split<;>omega
  show IsRangeIter _ _ (lo+((0:Nat):Int)*1) ((((hi-lo).toNat:Nat):Int)-((0:Nat):Int)) 1
  rw [e1,e2]
  exact aj _ rfl
 ·have e:b=(s.heap.push { cls:=.type "range",data:=.fields #[.int lo t,.int hi u,.int 1 v] }).objs.size:=by simpa using hb
  subst e
  exact I1.fpOk (al _) (I1.hok.fresh (al _))
def Pk (ta:TA):TI:=fun σ H R=>ta σ H fun vs H1=>∃ j:Int,vs=[.int j]/\-(2 ^ 62)<=j/\j<2 ^ 62/\R (Rf 0 j.toNat) H1
theorem ED {a:aP}{ta:TA}{p pos:Pos} (hg:Gl X "range") (hm:X.mg "range"=none) (ha:PA X [a] ta) (hs:aq [a] X.env=[(false,bU a X.env)]:=by rfl):PI X tg (.Call (.Name "range" p) [a] [] pos) (Pk ta):=by
 intro pins s σ H R I h
 refine Call_ (qk I hg hm boot_range (dJ (eK (ha pos pins s σ H _ I h) fun us s1 ⟨vs,H1,I1,r1,q1⟩=>?_) hs rfl))
 obtain ⟨j,e,q1,q2,q⟩:=q1
 subst e
 cases r1 with
 |cons r rr =>
  cases rr
  obtain ⟨t,rfl⟩:=r
  exact call_range_1 (GF I1 (by omega) (by omega) q1 q2 (by simpa using q))
inductive RN (g:TG) (tb:TS) (D:wI) (σ:St) (J:It) (H1:Hp):Prop
 |mk (W:Nat->Nat->St->Hp->Prop) (w0:∃ m,W 0 m σ H1) (turn:∀ i m σ H,W i m σ H ->
 (J.stop i H/\D.nx σ H)\/(J.go i H/\∃ N:St->Hp->Prop,(∀ σ' H',N σ' H'->∃ m',m'<m/\W (i+1) m' σ' H')/\∀ x H',J.yld i H x H'->g x σ H' fun σ2 H2=>tb { D with nx:=N,ct:=N,bk:=D.nx } σ2 H2)):RN g tb D σ J H1
def RO (wi:TI) (g:TG) (tb:TS):TS:=fun D σ H=>wi σ H (RN g tb D σ)
def v5 (fp:List ac) (h:ba):List (ac×Obj):=fp.filterMap fun b=>(h.get? b).map fun o=>(b,o)
theorem j8 {fp:List ac}{h:ba}{b:ac}{o:Obj} (hb:b∈fp) (e:h.get? b=some o):(b,o)∈v5 fp h:=List.mem_filterMap.mpr ⟨b,hb,by rw [e];rfl⟩
theorem xt {fp:List ac}{h:ba}{p:ac×Obj} (hp:p∈v5 fp h):p.1∈fp/\h.get? p.1=some p.2:=by
 obtain ⟨b,hb,e⟩:=List.mem_filterMap.mp hp
 cases q:h.get? b with
 |none=>rw [q] at e;cases e
 |some o =>
  rw [q] at e
  have e':(b,o)=p:=bt e
  subst e'
  exact ⟨hb,q⟩
theorem bj.pinned {pins:List (ac×Obj)}{σ:St}{H:Hp}{s:aa}{fp:List ac} (I:bj X pins σ H s) (hf:∀ b∈fp,pT X pins H b) (ho:∀ b∈fp,∃ o,s.heap.get? b=some o/\∀ v,o.data≠.cell v):bj X (pins++v5 fp s.heap) σ H s :=
 I.pins_of fun p hp=>(List.mem_append.mp hp).elim (fun z=>I.pin p (aN _ z)) fun z=>by
  obtain ⟨hb,e⟩:=xt z
  obtain ⟨f0,f1,f2,_⟩:=hf p.1 hb
  obtain ⟨o,e',d⟩:=ho p.1 hb
  rw [e] at e';cases e'
  exact ⟨e,f0,f1,f2,d⟩
theorem bj.unpinned {pins pl:List (ac×Obj)}{σ:St}{H:Hp}{s:aa} (I:bj X (pins++pl) σ H s):bj X pins σ H s:=I.pins_of fun p hp=>I.pin p (aN _ (p_ _ hp))
theorem GG {iter:aP}{body:List du}{wi:TI}{g:TG}{tb:TS}{pos:Pos} (hp:PassesOwn (az X.prog X.w) X.A X.env X.xe) (hc:X.calm=true) (hi:PI X tg iter wi) (hg:PG X tg g) (hb:zN X body tb)
  (hs:∀ x,dk iter X.env x=pure x:=by intro _;rfl):PS X (.For tg iter body [] pos) (RO wi g tb):=by
 intro pins s σ H D I h
 refine wpAny_For (eK (hi pins s σ H _ I h) fun v s1 h1=>eK h1 fun itv s2 h2=>?_) hs
 obtain ⟨it,fp,tn,J,H2,e,I2,T,st2,f2,W,⟨m0,w0⟩,turn⟩:=h2
 subst e
 have stat:∀ {H':Hp},(∀ b∈fp,H' b=none)->∀ b∈fp,pT X pins H' b:=fun hn b hb=>⟨hn b hb,(f2 b hb).f1,(f2 b hb).f2,(f2 b hb).f3,(f2 b hb).f4,(f2 b hb).f5⟩
 refine codeAny_forLoop_any (RJ X pins tn fp W) ?_ m0 ⟨0,σ,H2,I2,st2,fun b hb=>(f2 b hb).1,w0⟩
 rintro n s3 ⟨i,σ3,H3,I3,st3,fr3,w3⟩
 rcases turn i n σ3 H3 w3 with ⟨stop,qn⟩|⟨go,N,hN,step⟩
 ·refine lC hp (eK (T.done X rfl rfl rfl hc i pins s3 σ3 H3 X.xe I3 (stat fr3) st3 stop) fun r s4 ⟨hr,I4⟩=>?_)
  subst hr
  exact qQ ⟨σ3,H3,I4,qn⟩
 ·refine lC hp (eK (T.item X rfl rfl rfl hc i pins s3 σ3 H3 X.xe I3 (stat fr3) st3 go) fun r s4 ⟨u,hr,h4⟩=>?_)
  subst hr
  refine lC hp (eK h4 fun _ s5 ⟨x,H5,I5,r5,y5,st5,fr5⟩=>?_)
  have I5':=I5.pinned (stat fr5) (T.obj _ _ st5)
  refine lC hp (eK (hg _ s5 σ3 H5 x u _ I5' r5 (step x H5 y5)) fun _ s6 ⟨σ6,H6,I6,q6⟩=>?_)
  refine lC hp (eK (hb _ s6 σ6 H6 _ I6 q6) fun f s7 q7=>?_)
  have again:∀ {σ7:St}{H7:Hp},bj X (pins++v5 fp s5.heap) σ7 H7 s7->N σ7 H7->∃ m,m<n/\RJ X pins tn fp W m s7:=fun {σ7 H7} I7 n7=>by
   obtain ⟨m',hm,w7⟩:=hN σ7 H7 n7
   refine ⟨m',hm,i+1,σ7,H7,I7.unpinned,T.keep _ _ _ st5 fun b hb o e=>(I7.pin (b,o) (aN _ (aN _ (j8 hb e)))).1,fun b hb=>?_,w7⟩
   obtain ⟨o,e,d⟩:=T.obj _ _ st5 b hb
   exact (I7.pin (b,o) (aN _ (aN _ (j8 hb e)))).2.1
  cases f with
  |next=>obtain ⟨σ7,H7,I7,n7⟩:=q7;exact again I7 n7
  |cont=>obtain ⟨σ7,H7,I7,n7⟩:=q7;exact again I7 n7
  |brk=>obtain ⟨σ7,H7,I7,q7⟩:=q7;exact ⟨σ7,H7,I7.unpinned,q7⟩
  |ret v=>obtain ⟨x7,σ7,H7,I7,r7,q7⟩:=q7;exact ⟨x7,σ7,H7,I7.unpinned,r7,q7⟩
end
end L2
namespace L2
open PySem PySem.Spec PyProof.Rows
abbrev R2:=V->V->Hp->VK->Prop
def oZ (X:Cx) (f:a8->a8->Sem a8) (r:R2):Prop :=
 ∀ (pins:List (ac×Obj)) (s:aa) (σ:St) (H:Hp) (x y:V) (v u:a8) (Q:VK),bj X pins σ H s->cD x v->cD y u->r x y H Q ->
  ak (az X.prog X.w) X.A (f v u) (EP X pins σ Q) X.xe s
def j0 (X:Cx) (f:a8) (r:List V->Hp->VK->Prop):Prop :=
 ∀ (pins:List (ac×Obj)) (s:aa) (σ:St) (H:Hp) (xs:List V) (us:List a8) (Q:VK),bj X pins σ H s->cF xs us->r xs H Q ->
  ak (az X.prog X.w) X.A (call f us) (EP X pins σ Q) X.xe s
def RP (X:Cx) (r:V->Hp->(Bool->Hp->Prop)->Prop):Prop :=
 ∀ (pins:List (ac×Obj)) (s:aa) (σ:St) (H:Hp) (x:V) (v:a8) (Q:Bool->Hp->Prop),bj X pins σ H s->cD x v->r x H Q ->
  ak (az X.prog X.w) X.A (truthy v) (TP X pins σ Q) X.xe s
def Pl (r:R2) (ta tb:TE):TE:=fun σ H Q=>ta σ H fun x H1=>tb σ H1 fun y H2=>r x y H2 Q
inductive Sy (C:Int->Int->Prop) (g:Int->Int->V) (x:V) (y:V) (H:Hp) (Q:VK):Prop
 |mk (i j:_) (h0:x=.int i) (h1:y=.int j) (h2:C i j) (h3:Q (g i j) H):Sy C g x y H Q
def rI (C:Int->Int->Prop) (g:Int->Int->V):R2:=Sy C g
inductive Pm (g:Int->Int->V) (x:V) (y:V) (H:Hp) (Q:VK):Prop
 |mk (i j:_) (h0:x=.int i) (h1:y=.int j) (h2:Q (g i j) H):Pm g x y H Q
def NU (g:Int->Int->V):R2:=Pm g
section
variable {X:Cx}{a b c:aP}{ta tb tc:TE}{pos:Pos}
theorem NV (ha:PE X a ta) (hb:PE X b tb) {pins:List (ac×Obj)}{s:aa}{σ:St}{H:Hp}{R:V->V->Hp->Prop} (I:bj X pins σ H s)
  (h:ta σ H fun x H1=>tb σ H1 fun y H2=>R x y H2) {Q:a8->aa->Prop}{f:a8->a8->Sem a8}
  (hf:∀ v u s2 x y H2,bj X pins σ H2 s2->cD x v->cD y u->R x y H2->ak (az X.prog X.w) X.A (f v u) Q X.xe s2) :
  ak (az X.prog X.w) X.A (bU a X.env) (fun v s₁=>ak (az X.prog X.w) X.A (bU b X.env) (fun u s₂=>ak (az X.prog X.w) X.A (f v u) Q X.xe s₂) X.xe s₁) X.xe s:=by
 refine eK (ha pins s σ H _ I h) fun v s1 h_19=>?_
 obtain ⟨x,H1,I1,r1,q1⟩:=h_19
 refine eK (hb pins s1 σ H1 _ I1 q1) fun u s2 h_20=>?_
 obtain ⟨y,H2,I2,r2,q2⟩:=h_20
 exact hf v u s2 x y H2 I2 r1 r2 q2
theorem Pn {op:Operator}{r:R2} (ho:oZ X (fc op) r) (ha:PE X a ta) (hb:PE X b tb):PE X (.BinOp a op b pos) (Pl r ta tb):=by
 intro pins s σ H Q I h
 exact wpAny_BinOp (NV ha hb I h fun v u s2 x y H2 I2 rx ry q=>ho pins s2 σ H2 x y v u Q I2 rx ry q)
theorem RQ {f:a8->a8->Sem a8}{C:Int->Int->Prop}{g:Int->Int->Int}
  (rule:∀ (i j:Int) (t u:Tok) (s:aa) (Q:a8->aa->Prop) (E:a8->aa->Prop),C i j->Q (.int (g i j) s.toks) { s with toks:=s.toks+1 }->ak (az X.prog X.w) X.A (f (.int i t) (.int j u)) Q E s) :
  oZ X f (rI C fun i j=>.int (g i j)):=by
 intro pins s σ H x y v u Q I rx ry h
 obtain ⟨i,j,rfl,rfl,hc,q⟩:=h
 obtain ⟨t,rfl⟩:=rx
 obtain ⟨t',rfl⟩:=ry
 exact rule i j t t' s _ _ hc ⟨.int (g i j),H,I.tok _,⟨_,rfl⟩,q⟩
theorem RS {f:a8->a8->Sem a8}{g:Int->Int->Int}
  (rule:∀ (i j:Int) (t u:Tok) (s:aa) (Q:a8->aa->Prop) (E:a8->aa->Prop),Q (.int (g i j) s.toks) { s with toks:=s.toks+1 }->ak (az X.prog X.w) X.A (f (.int i t) (.int j u)) Q E s) :
  oZ X f (NU fun i j=>.int (g i j)):=by
 intro pins s σ H x y v u Q I rx ry h
 obtain ⟨i,j,rfl,rfl,q⟩:=h
 obtain ⟨t,rfl⟩:=rx
 obtain ⟨t',rfl⟩:=ry
 exact rule i j t t' s _ _ ⟨.int (g i j),H,I.tok _,⟨_,rfl⟩,q⟩
theorem NW {f:a8->a8->Sem a8}{g:Int->Int->Bool}
  (rule:∀ (i j:Int) (t u:Tok) (s:aa) (Q:a8->aa->Prop) (E:a8->aa->Prop),Q (.bool (g i j)) s->ak (az X.prog X.w) X.A (f (.int i t) (.int j u)) Q E s) :
  oZ X f (NU fun i j=>.bl (g i j)):=by
 intro pins s σ H x y v u Q I rx ry h
 obtain ⟨i,j,rfl,rfl,q⟩:=h
 obtain ⟨t,rfl⟩:=rx
 obtain ⟨t',rfl⟩:=ry
 exact rule i j t t' s _ _ ⟨.bl (g i j),H,I,rfl,q⟩
def RT (i j:Int):Prop:=0<j/\j<1073741824
def NX (i j:Int):Prop:=(-(2 ^ 64)<i/\i<2 ^ 64)\/(-(2 ^ 64)<j/\j<2 ^ 64)
theorem NX.ok {i j:Int} (h:NX i j):IntMulOk i j:=by
 rcases h with ⟨h1,h2⟩|⟨h1,h2⟩
 ·exact .of_left (intBits_le_64 h1 h2)
 ·exact .of_right (intBits_le_64 h1 h2)
theorem NY:oZ X (fc .Add) (NU fun i j=>.int (i+j)):=RS fun _ _ _ _ _ _ _ q=>add_int q
theorem NZ:oZ X (fc .Mult) (rI NX fun i j=>.int (i*j)):=RQ fun _ _ _ _ _ _ _ hc q=>mul_int q hc.ok
theorem Kr:oZ X (fc .FloorDiv) (rI RT fun i j=>.int (i / j)):=RQ fun i j _ _ _ _ _ hc q=>by
 have h1:(0:Int)<j:=hc.1
 have h2:j<1073741824:=hc.2
 exact floordiv_int (by omega) (by rw [Int.fdiv_eq_ediv_of_nonneg i (by omega)];exact q) (.inl (PyProof.noPylong_small (by omega)))
theorem N_:oZ X (fc .Mod) (rI (fun _ j=>0<j) fun i j=>.int (i % j)):=RQ fun i j _ _ _ _ _ hc q=>by
 have h1:(0:Int)<j:=hc
 exact mod_int' (by omega) (by rw [Int.fmod_eq_emod_of_nonneg i (by omega)];exact q)
end
def RU:V->V->Bool
 |.non,.non=>true | .non,.int _=>true | .int _,.non=>true | .non,.bl _=>true | .bl _,.non=>true | .non,.str _=>true | .str _,.non=>true
 |.int _,.int _=>true | .bl _,.bl _=>true | .str _,.str _=>true | .byt _,.byt _=>true
 |.int _,.str _=>true | .str _,.int _=>true | .bl _,.str _=>true | .str _,.bl _=>true
 |_,_=>false
def T9:R2:=fun x y H Q=>RU x y=true/\Q (.bl (!decide (x=y))) H
theorem Ks {i j:Int}:decide (V.int i=V.int j)=(i==j):=by
 rw [fS]
 simp
theorem O0 {i j:Bool}:decide (V.bl i=V.bl j)=(i==j):=by
 rw [fS]
 simp
theorem Ku {i j:Str}:decide (V.str i=V.str j)=(i==j):=by
 rw [fS]
 simp
theorem Kv {i j:Array UInt8}:decide (V.byt i=V.byt j)=(i.toList==j.toList):=by
 rw [fS]
 cases i
 cases j
 simp
section
variable {X:Cx}{a b c:aP}{ta tb tc:TE}{pos:Pos}
theorem gD {pins:List (ac×Obj)}{σ:St}{H:Hp}{s:aa}{Q:VK}{k k':Bool} (I:bj X pins σ H s) (q:Q (.bl k) H) (e:k=k'):EP X pins σ Q (.bool k') s:=by
 subst e
 exact ⟨.bl k,H,I,rfl,q⟩
theorem Po:oZ X (bG .NotEq) T9:=by
 intro pins s σ H x y v u Q I rx ry h
 obtain ⟨hs,q⟩:=h
 cases x with
 |non =>
  cases rx
  cases y with
  |non=>cases ry;exact PySem.EqNone.ne_none_none (gD I q (by simp))
  |bl j=>cases ry;exact PySem.EqNone.ne_none_bool (gD I q (by simp))
  |int j=>obtain ⟨t',rfl⟩:=ry;exact PySem.EqNone.ne_none_int (gD I q (by simp))
  |str j=>obtain ⟨t',rfl⟩:=ry;exact PySem.EqNone.ne_none_str (gD I q (by simp))
  |_=>exact absurd (show false=true from hs) aU
 |bl i =>
  cases rx
  cases y with
  |non=>cases ry;exact PySem.EqNone.ne_bool_none (gD I q (by simp))
  |bl j=>cases ry;exact ne_bool (gD I q (congrArg not O0))
  |str j=>obtain ⟨t',rfl⟩:=ry;exact PySem.EqMixed.ne_bool_str (gD I q (by simp))
  |_=>exact absurd (show false=true from hs) aU
 |int i =>
  obtain ⟨t,rfl⟩:=rx
  cases y with
  |non=>cases ry;exact PySem.EqNone.ne_int_none (gD I q (by simp))
  |int j=>obtain ⟨t',rfl⟩:=ry;exact ne_int (gD I q (congrArg not Ks))
  |str j=>obtain ⟨t',rfl⟩:=ry;exact PySem.EqMixed.ne_int_str (gD I q (by simp))
  |_=>exact absurd (show false=true from hs) aU
 |str i =>
  obtain ⟨t,rfl⟩:=rx
  cases y with
  |non=>cases ry;exact PySem.EqNone.ne_str_none (gD I q (by simp))
  |bl j=>cases ry;exact PySem.EqMixed.ne_str_bool (gD I q (by simp))
  |int j=>obtain ⟨t',rfl⟩:=ry;exact PySem.EqMixed.ne_str_int (gD I q (by simp))
  |str j=>obtain ⟨t',rfl⟩:=ry;exact ne_str (gD I q (congrArg not Ku))
  |_=>exact absurd (show false=true from hs) aU
 |byt i =>
  obtain ⟨t,rfl⟩:=rx
  cases y with
  |byt j=>obtain ⟨t',rfl⟩:=ry;exact PySem.W.ne_bytes (gD I q (congrArg not Kv))
  |_=>exact absurd (show false=true from hs) aU
 |_=>cases y<;>exact absurd (show false=true from hs) aU
theorem Pp:oZ X (bG .Lt) (NU fun i j=>.bl (decide (i<j))):=NW fun _ _ _ _ _ _ _ q=>lt_int q
theorem Pq:oZ X (bG .LtE) (NU fun i j=>.bl (decide (i<=j))):=NW fun _ _ _ _ _ _ _ q=>le_int q
theorem Pr:oZ X (bG .Gt) (NU fun i j=>.bl (decide (j<i))):=NW fun _ _ _ _ _ _ _ q=>gt_int q
theorem EE:oZ X (bG .Lt) (fun x y H Q=>∃ i j,x=.str i/\y=.str j/\Q (.bl (decide (i.cps.toList<j.cps.toList))) H):=by
 intro pins s σ H x y v u Q I rx ry h
 obtain ⟨i,j,rfl,rfl,q⟩:=h
 obtain ⟨t,rfl⟩:=rx
 obtain ⟨t',rfl⟩:=ry
 exact lt_str (gD I q rfl)
theorem BO (b:aP) {op:FW} (h:op≠.In:=by decide) (h2:op≠.NotIn:=by decide):fm op b=false:=by
 have e1:(op==CmpOp.In)=false:=by cases op<;>first|rfl|exact absurd rfl h
 have e2:(op==CmpOp.NotIn)=false:=by cases op<;>first|rfl|exact absurd rfl h2
 cases b<;>simp [fm,e1,e2]
theorem Kw {op:FW}{r:R2} (ho:oZ X (bG op) r) (ha:PE X a ta) (hb:PE X b tb) (hm:fm op b=false):PE X (.Compare a [op] [b] pos) (Pl r ta tb):=by
 intro pins s σ H Q I h
 exact wpAny_Compare1 (NV ha hb I h fun v u s2 x y H2 I2 rx ry q=>ho pins s2 σ H2 x y v u Q I2 rx ry q) hm
def Ms (t:TE):TT:=fun σ H Q=>t σ H fun x H'=>∃ k,x=.bl k/\Q k H'
theorem D9 {op:FW}{r:R2} (ho:oZ X (bG op) r) (ha:PE X a ta) (hb:PE X b tb) (hm:fm op b=false):PT X (.Compare a [op] [b] pos) (Ms (Pl r ta tb)):=by
 intro pins s σ H Q I h
 refine JR (eK (ha pins s σ H _ I h) fun v s1 ⟨x,H1,I1,r1,q1⟩=>eK (hb pins s1 σ H1 _ I1 q1) fun u s2 ⟨y,H2,I2,r2,q2⟩ =>
  eK (ho pins s2 σ H2 x y v u _ I2 r1 r2 q2) fun c s3 ⟨z,H3,I3,r3,k,e,q3⟩=>?_) hm
 subst e
 cases r3
 exact cS ⟨H3,I3,q3⟩
def BP (r r':R2) (ta tb tc:TE):TE:=fun σ H Q=>ta σ H fun x H1=>tb σ H1 fun y H2=>r x y H2 fun z H3=>∃ k,z=.bl k /\
 (if k=true then tc σ H3 fun w' H4=>r' y w' H4 Q else Q (.bl false) H3)
theorem GH {op op':FW}{r r':R2} (ho:oZ X (bG op) r) (ho':oZ X (bG op') r') (ha:PE X a ta) (hb:PE X b tb) (hc:PE X c tc)
  (hm:FX [op,op'] [b,c]=false:=by with_unfolding_all rfl):PE X (.Compare a [op,op'] [b,c] pos) (BP r r' ta tb tc):=by
 intro pins s σ H Q I h
 refine Compare_chain (eK (ha pins s σ H _ I h) fun v s1 ⟨x,H1,I1,r1,q1⟩=>chain_link (eK (hb pins s1 σ H1 _ I1 q1) fun u s2 ⟨y,H2,I2,r2,q2⟩ =>
  eK (ho pins s2 σ H2 x y v u _ I2 r1 r2 q2) fun d s3 ⟨z,H3,I3,r3,k,e,q3⟩=>?_)) hm
 subst e
 cases r3
 refine cS ?_
 cases k with
 |false=>exact ite_ff ⟨.bl false,H3,I3,rfl,q3⟩
 |true=>exact ite_tt (chain_last (eK (hc pins s3 σ H3 _ I3 q3) fun w' s4 h_22=>by obtain ⟨z',H4,I4,r4,q4⟩:=h_22;exact ho' pins s4 σ H4 y z' u w' Q I4 r2 r4 q4))
theorem GI {op op':FW}{r r':R2} (ho:oZ X (bG op) r) (ho':oZ X (bG op') r') (ha:PE X a ta) (hb:PE X b tb) (hc:PE X c tc)
  (hm:FX [op,op'] [b,c]=false:=by with_unfolding_all rfl):PT X (.Compare a [op,op'] [b,c] pos) (Ms (BP r r' ta tb tc)):=by
 intro pins s σ H Q I h
 refine isTrue_chain (eK (ha pins s σ H _ I h) fun v s1 ⟨x,H1,I1,r1,q1⟩=>test_link (eK (hb pins s1 σ H1 _ I1 q1) fun u s2 ⟨y,H2,I2,r2,q2⟩ =>
  eK (ho pins s2 σ H2 x y v u _ I2 r1 r2 q2) fun d s3 ⟨z,H3,I3,r3,k,e,q3⟩=>?_)) hm
 subst e
 cases r3
 refine cS ?_
 cases k with
 |false =>
  obtain ⟨k',e',q'⟩:=q3
  cases e'
  exact ite_ff ⟨H3,I3,q'⟩
 |true =>
  refine ite_tt (test_last (eK (hc pins s3 σ H3 _ I3 q3) fun w' s4 ⟨z',H4,I4,r4,q4⟩=>eK (ho' pins s4 σ H4 y z' u w' _ I4 r2 r4 q4) fun d' s5 ⟨z2,H5,I5,r5,k2,e2,q5⟩=>?_))
  subst e2
  cases r5
  exact cS ⟨H5,I5,q5⟩
def Ps (K:a6) (x:V) (H:Hp) (k:Bool):Prop :=
 match x with
 |.non=>k=false
 |.bl b=>k=b
 |.int i=>k=(i != 0)
 |.str y=>y.length<=sizeLine/\k=((y.length:Int) != 0)
 |.byt y=>y.size<=sizeLine/\k=((y.size:Int) != 0)
 |.ref p=>(∃ xs,jI K H p xs/\k=!xs.isEmpty)\/(∃ xs,ic K H p xs/\k=!xs.isEmpty)\/∃ kvs,H p=some (.dK kvs)/\k=!kvs.isEmpty
 |_=>False
theorem BQ {κ:Type}{kvs:List (κ×V)}{vs:List (κ×a8)} (r:KV kvs vs):(!vs.isEmpty)=!kvs.isEmpty:=by
 cases r<;>rfl
theorem v6 {xs:List V}{its:List a8} (r:cF xs its):(!its.toArray.isEmpty)=!xs.isEmpty:=by
 cases r<;>simp
theorem sR:(sizeLine:Nat)<2 ^ 63:=by rw [fe];decide
theorem O1:RP X (fun x H Q=>∃ k,Ps X.K x H k/\Q k H):=by
 intro pins s σ H x v Q I rx h
 obtain ⟨k,e,q⟩:=h
 have hl:=sR
 have hs:sizeLine=16777216:=fe
 cases x with
 |non =>
  cases rx
  have e':k=false:=e
  subst e'
  exact truthy_none ⟨H,I,q⟩
 |bl b =>
  cases rx
  have e':k=b:=e
  subst e'
  exact cS ⟨H,I,q⟩
 |int i =>
  obtain ⟨t,rfl⟩:=rx
  have e':k=(i != 0):=e
  subst e'
  exact PySem.P.truthy_int ⟨H,I,q⟩
 |str y =>
  obtain ⟨t,rfl⟩:=rx
  obtain ⟨hy,e'⟩:y.length<=sizeLine/\k=((y.length:Int) != 0):=e
  subst e'
  exact PySem.P.truthy_str (by omega) ⟨H,I.tok _,q⟩
 |byt y =>
  obtain ⟨t,rfl⟩:=rx
  obtain ⟨hy,e'⟩:y.size<=sizeLine/\k=((y.size:Int) != 0):=e
  subst e'
  exact PySem.W.truthy_bytes (by omega) ⟨H,I.tok _,q⟩
 |ref p =>
  cases rx
  have e':(∃ xs,jI X.K H p xs/\k=!xs.isEmpty)\/(∃ xs,ic X.K H p xs/\k=!xs.isEmpty)\/∃ kvs,H p=some (.dK kvs)/\k=!kvs.isEmpty:=e
  rcases e' with ⟨xs,hx,e'⟩|⟨xs,hx,e'⟩|⟨kvs,hx,e'⟩
  ·subst e'
   obtain ⟨its,r,pl,hz⟩:=I.list hx
   have hlen:=r.length
   exact wpAny_truthy_list pl.isList (by simp only [aA];omega) ⟨H,I.tok _,by rw [v6 r];exact q⟩
  ·subst e'
   obtain ⟨its,r,pl,hz⟩:=I.tuple hx
   have hlen:=r.length
   exact truthy_tuple pl (by simp only [aA];omega) ⟨H,I.tok _,by rw [v6 r];exact q⟩
  ·subst e'
   obtain ⟨hz,hS,vs,r,m⟩:kvs.length<=sizeLine/\(p==gm)=false/\∃ vs,KV kvs vs/\s.heap.DictOf (fA X.prog X.w) p vs:=I.hok p _ hx
   have hlen:kvs.length=vs.length:=lL r
   exact wpAny_truthy_dict hS m (by omega) ⟨H,I.tok _,by rw [BQ r];exact q⟩
 |_=>exact (show False from e).elim
theorem GJ (ha:PE X a ta) (he:∀ whole,uO a X.env whole=(do let v <- whole;tM a.pos;Gf [v] (truthy v))) :
  PT X a (fun σ H Q=>ta σ H fun x H'=>∃ k,Ps X.K x H' k/\Q k H'):=by
 intro pins s σ H Q I h
 exact isTrue_plain (eK (ha pins s σ H _ I h) fun v s1 h_23=>by obtain ⟨x,H1,I1,r1,q1⟩:=h_23;exact O1 pins s1 σ H1 x v Q I1 r1 q1) (he _)
theorem v7:oZ X (fc .Add) (fun x y H Q=>∃ i j,x=.str i/\y=.str j/\i.length+j.length<=sizeLine/\Q (.str (i++j)) H):=by
 intro pins s σ H x y v u Q I rx ry h
 obtain ⟨i,j,rfl,rfl,hz,q⟩:=h
 obtain ⟨t,rfl⟩:=rx
 obtain ⟨t',rfl⟩:=ry
 exact add_str (fun t' tk=>⟨.str (i++j),H,I.tok _,⟨_,rfl⟩,q⟩) hz
theorem l7 {x:V}{us:List a8} (r:cF [x] us):∃ u,us=[u]/\cD x u:=by
 cases r with
 |cons r1 r2=>cases r2;exact ⟨_,rfl,r1⟩
theorem Da {x y:V}{us:List a8} (r:cF [x,y] us):∃ u w',us=[u,w']/\cD x u/\cD y w':=by
 cases r with
 |cons r1 r2 =>
  cases r2 with
  |cons r3 r4=>cases r4;exact ⟨_,_,rfl,r1,r3⟩
end
end L2
namespace L2
open PySem PySem.Spec PyProof.Rows
structure O3 (h:ba) (x dx C:ac) (mA:Str->Option a8):Prop where
 obj:h.get? x=some (ui C dx)
 ns:h.Ns1 dx mA
 ne:dx≠x
theorem EF {h:ba}{dx:ac}{mA:Str->Option a8} (n:h.Ns1 dx mA):∃ od,h.get? dx=some od/\∀ name,uQ name od=some (mA name):=by
 obtain ⟨o,es,ep,ho,hd,hk,_,hm⟩:=n
 refine ⟨o,ho,fun name=>?_⟩
 have e:=hm name
 unfold nsFind findBy at e
 rw [<- Eh] at e
 unfold uQ
 rw [hd]
 dsimp only
 split
 ·rename_i y q
  rw [q] at e
  exact congrArg some e
 ·rename_i q
  rw [q] at e
  have a:es.toList.any (·.refKey)=false:=by
   rw [List.any_eq_false]
   intro y hy
   obtain ⟨z,t,hkey⟩:=hk y (Array.mem_toList_iff.mp hy)
   simp [DictEntry.refKey,hkey]
  have a':¬ es.toList.any (·.refKey)=true:=by rw [a];exact aU
  rw [if_neg a']
  exact congrArg some e
theorem O3.look {h:ba}{x dx C:ac}{mA:Str->Option a8} (I:O3 h x dx C mA):∃ od,PySem.W.InstAt h x (ui C dx) C (some od)/\∀ name,uQ name od=some (mA name) :=
 let ⟨od,ho,hl⟩:=EF I.ns
 ⟨od,⟨I.obj,rfl,rfl,ho⟩,hl⟩
section
variable {prog:aH}{w:aY}{A:aZ}{E:a8->aa->Prop}{s:aa}{K:a6}{x dx C f:ac}{mA:Str->Option a8}{name:Str}{v:a8}
end
theorem v3.some_of {v:V}{o:Option a8} (r:v3 (some v) o):∃ u,o=some u/\cD v u:=by
 cases o with
 |none=>exact (show False from r).elim
 |some u=>exact ⟨u,rfl,r⟩
section
variable {P:aH}{w:aY}{H H':Hp}{h h':ba}{a C dx:ac}{fs fs':List (Str×V)}
theorem Kx (hok:nW P w H h) (e:H a=some (.ins C dx fs)):∃ mA,O3 h a dx C mA/\(∀ f,v3 (fs.lookup f) (mA f))/\PySem.Within mA (fs.map (·.1))/\fs.length<=1000/\H dx=some (.own a):=by
 obtain ⟨d,z,ne,ob,mA,n,r,q⟩:=(show cH P w H h a (.ins C dx fs) from hok a _ e)
 exact ⟨mA,⟨ob,n,ne⟩,r,q,z,d⟩
end
structure RV (K:a6) (C:ac):Prop where
 pg:Ei K C uR=true
 hd:PySem.W.hasDictIn K C=true
 po:PySem.W.plainOver K C=true
 sa:eY K (.ref C) "__setattr__"=some (some (.builtin "object.__setattr__"))
theorem RV.get {K:a6}{C:ac} (c:RV K C) (f:Str):Ei K C f=true:=c.pg
section
variable {X:Cx}{pins:List (ac×Obj)}{σ:St}{H:Hp}{s:aa}{a C dx:ac}{fs:List (Str×V)}{f:Str}{v:V}{A:aZ}{E:a8->aa->Prop}
end
section
variable {X:Cx}{o e value:aP}{f:Str}{pos pos' tpos:Pos}{ta tv:TE}
end
section
variable {X:Cx}{pins:List (ac×Obj)}{σ:St}{H:Hp}{s:aa}{A:aZ}{E:a8->aa->Prop}{Q:a8->aa->Prop}{c:a8}{b:Bool}
inductive sS (K:a6) (H:Hp):V->a8->Prop where
 |non:sS K H .non (.type "NoneType")
 |bl (x:Bool):sS K H (.bl x) (.type "bool")
 |int (i:Int):sS K H (.int i) (.type "int")
 |str (x:Str):sS K H (.str x) (.type "str")
 |flt (x:UInt64):sS K H (.flt x) (.type "float")
 |lst {a:ac}{xs:List V} (e:H a=some (.lst xs)):sS K H (.ref a) (.type "list")
 |frz {a:ac}{o:Obj}{xs:List V} (e:H a=some (.frz o (.lst xs))):sS K H (.ref a) (.type "list")
 |tup {a:ac}{xs:List V} (e:H a=some (.tup xs)):sS K H (.ref a) (.type "tuple")
 |dK {a:ac}{kvs:List (fz×V)} (e:H a=some (.dK kvs)):sS K H (.ref a) (.type "dict")
 |dT {a:ac}{kvs:List (List fz×V)} (e:H a=some (.dT kvs)):sS K H (.ref a) (.type "dict")
 |ins {a C dx:ac}{fs:List (Str×V)} (e:H a=some (.ins C dx fs)) (cl:RV K C) (ha:eY K (.ref C) "__class__"=some (some (.builtin "object.__class__")))
   (hn:qT K (.builtin "object.__class__") "__get__"=some (some (.builtin "getset_descriptor.__get__"))) (htk:uj K (.builtin "object.__class__")=some true)
   (hm:bS K C (.type "object")=some true):sS K H (.ref a) (.ref C)
theorem lU {x:V}{u t:a8} (I:bj X pins σ H s) (rx:cD x u) (ty:sS X.K H x t) (e:cL X.K t c=some b) (h:∀ tk,Q (.bool b) { s with toks:=tk }) :
  ak (az X.prog X.w) A (call (.builtin "isinstance") [u,c]) Q E s:=by
 cases ty with
 |non=>cases (show u=dZ from rx);exact b_ PySem.W.kitx_none I.kIn iG e (fun z=>nomatch z) h
 |bl y=>cases (show u=gN y from rx);exact b_ PySem.W.kitx_bool I.kIn iG e (fun z=>nomatch z) h
 |int i=>obtain ⟨t,q⟩:=(show ∃ t,u=mr i t from rx);cases q;exact b_ PySem.W.kitx_int I.kIn iG e (fun z=>nomatch z) h
 |str y=>obtain ⟨t,q⟩:=(show ∃ t,u=iF y t from rx);cases q;exact b_ PySem.W.kitx_str I.kIn iG e (fun z=>nomatch z) h
 |flt y=>obtain ⟨t,q⟩:=(show ∃ t,u=Value.float y t from rx);cases q;exact b_ PySem.W.kitx_float I.kIn iG e (fun z=>nomatch z) h
 | @lst a xs ea =>
  cases (show u=bL a from rx)
  obtain ⟨_,_,n,_,h1⟩:=(show cH X.prog X.w H s.heap a (.lst xs) from I.hok a _ ea)
  exact b_ qU I.kIn ⟨_,h1,rfl⟩ e (fun z=>nomatch z) h
 | @frz a ob xs ea =>
  cases (show u=bL a from rx)
  obtain ⟨_,_,_,n,_,h1⟩:=(show cH X.prog X.w H s.heap a (.frz ob (.lst xs)) from I.hok a _ ea)
  exact b_ qU I.kIn ⟨_,h1,rfl⟩ e (fun z=>nomatch z) h
 | @tup a xs ea =>
  cases (show u=bL a from rx)
  obtain ⟨_,_,_,p⟩:=(show cH X.prog X.w H s.heap a (.tup xs) from I.hok a _ ea)
  obtain ⟨o,h1,h2,_⟩:=p
  exact b_ Bm I.kIn ⟨o,h1,h2⟩ e (fun z=>nomatch z) h
 | @dK a kvs ea =>
  cases (show u=bL a from rx)
  obtain ⟨_,_,vs,_,p⟩:=(show cH X.prog X.w H s.heap a (.dK kvs) from I.hok a _ ea)
  obtain ⟨o,es,ep,h1,h2,_⟩:=p
  exact b_ D3 I.kIn ⟨o,h1,h2.1⟩ e (fun z=>nomatch z) h
 | @dT a kvs ea =>
  cases (show u=bL a from rx)
  obtain ⟨_,_,xs,_,o,es,ep,h1,h2,_⟩:=(show cH X.prog X.w H s.heap a (.dT kvs) from I.hok a _ ea)
  exact b_ D3 I.kIn ⟨o,h1,h2.1⟩ e (fun z=>nomatch z) h
 | @ins a C dx fs ea cl ha hn htk hm =>
  cases (show u=bL a from rx)
  obtain ⟨mA,O,_⟩:=Kx I.hok ea
  obtain ⟨od,J,_⟩:=O.look
  exact b_ (PySem.W.kitx_own (cl.get _) cl.hd ha hn htk hm) I.kIn J e (fun z=>nomatch z) h
end
end L2
namespace L2
open PySem PySem.Spec PyProof.Rows
structure j9 (k:Nat) (A:aZ):Prop where
 hd:A.handled=none
 dp:A.depth+3*k+5<Bo
 un:A.units+16*k+200<pQ
theorem j9.mono {j k:Nat}{A:aZ} (r:j9 k A) (h:j<=k):j9 j A:=⟨r.hd,by have:=r.dp;omega,by have:=r.un;omega⟩
theorem j9.deeper {k:Nat}{A:aZ} (r:j9 (k+1) A) (env:Env):j9 k (A.deeper env) :=
 ⟨r.hd,by have:=r.dp;show A.depth+1+3*k+5<_;omega,by have:=r.un;show A.units+3+16*k+200<_;omega⟩
theorem j9.depth {k:Nat}{A:aZ} (r:j9 k A):A.depth<Bo:=by have:=r.dp;omega
theorem j9.units {k:Nat}{A:aZ} (r:j9 k A):A.units+64<pQ:=by have:=r.un;omega
def Ky:TA:=fun _ H Q=>Q [] H
def Db (ta:TE) (tr:TA):TA:=fun σ H Q=>ta σ H fun x H1=>tr σ H1 fun xs H2=>Q (x::xs) H2
section
variable {X:Cx}{e:aP}{es:List aP}{te:TE}{t:TA}{pos:Pos}
theorem dS:PA X [] Ky:=fun _ _ _ _ H Q I h=>FY ⟨[],H,I,.nil,h⟩
theorem bI (ha:PE X e te) (hr:PA X es t) (hs:aq (e::es) X.env=(false,bU e X.env)::aq es X.env:=by rfl):PA X (e::es) (Db te t):=by
 intro pos pins s σ H Q I h
 rw [hs]
 show ak _ _ (spliced ((false,bU e X.env)::fK pos (aq es X.env))) _ _ s
 refine Ej (eK (ha pins s σ H _ I h) fun u s1 ⟨x,H1,I1,r1,q1⟩=>?_)
 exact eK (hr pos pins s1 σ H1 _ I1 q1) fun us s2 h_25=>by obtain ⟨xs,H2,I2,r2,q2⟩:=h_25;exact ⟨x::xs,H2,I2,.cons r1 r2,q2⟩
def RW (t:TA):TE:=fun σ H Q=>t σ H fun xs H1=>xs.length<=sizeLine/\∀ p,H1 p=none->Q (.ref p) (upd H1 p (.tup xs))
def RX (t:TA):TE:=fun σ H Q=>t σ H fun xs H1=>xs.length<=sizeLine/\∀ p,H1 p=none->Q (.ref p) (upd H1 p (.lst xs))
theorem GK {x1} (h:PA X es t):PE X (.Tuple es x1 pos) (RW t):=by
 intro pins s σ H Q I hq
 refine wpAny_Tuple_spliced (eK (h pos pins s σ H _ I hq) fun us s1 ⟨xs,H1,I1,r,z,q⟩=>⟨by rw [<- r.length];exact z,?_⟩)
 have hf:H1 s1.heap.objs.size=none:=I1.hok.fresh (al _)
 refine ⟨.ref s1.heap.objs.size,upd H1 s1.heap.objs.size (.tup xs),I1.laid (t':=s1.toks) (fun b u e=>a7 _ e) (al _) ?_,rfl,q _ hf⟩
 exact ⟨z,us,r,⟨_,aj _ rfl,rfl,_,rfl⟩⟩
theorem lF (h:PA X es t):PE X (.List es pos) (RX t):=by
 intro pins s σ H Q I hq
 refine wpAny_List_spliced (eK (h pos pins s σ H _ I hq) fun us s1 ⟨xs,H1,I1,r,z,q⟩=>⟨by rw [<- r.length];exact z,?_⟩)
 have hf:H1 s1.heap.objs.size=none:=I1.hok.fresh (al _)
 refine ⟨.ref s1.heap.objs.size,upd H1 s1.heap.objs.size (.lst xs),I1.laid (t':=s1.toks) (fun b u e=>a7 _ e) (al _) ?_,rfl,q _ hf⟩
 exact ⟨z,us,0,r,aj _ rfl⟩
end
abbrev Sp:=List V->Hp->VK->XK->Prop
abbrev Dc:=List Env->Hp->aa->XK->a8->aa->Prop
structure BR (P:aH) (w:aY) (K:a6) (mg:Str->Option a8) (base:ba) (A:aZ) (outer:List Env) (s:aa) (H:Hp):Prop where
 frames:A.frames=some outer
 mod:Mod K mg base
 bs:∀ b o,base.get? b=some o->s.heap.get? b=some o/\H b=none
 bsz:base.objs.size<=s.heap.objs.size
 funs:s.heap.FunFrames base outer
 frf:∀ b∈qc outer,H b=none
 hok:nW P w H s.heap
 bare:nM s.gens
inductive CE (outer:List Env) (P:aH) (w:aY) (H:Hp) (s:aa) (Q:VK) (u:a8) (s':aa):Prop
 |mk (v H':_) (h0:s'.os=s.os) (h1:nM s'.gens) (h2:Un (qc outer) [] H H' s.heap s'.heap) (h3:nW P w H' s'.heap) (h4:cD v u) (h5:Q v H'):CE outer P w H s Q u s'
def CR (CX:Dc) (outer:List Env) (P:aH) (w:aY) (H:Hp) (s:aa) (Q:VK) (E:XK) (r:Bp) (s':aa):Prop :=
 match r with
 |.ok (.ret u)=>CE outer P w H s Q u s'
 |.ok _=>False
 |.error e=>CX outer H s E e s'
structure pU (P:aH) (w:aY) (K:a6) (mg:Str->Option a8) (base:ba) (CX:Dc) (k:Nat) (f:ac) (fd:db) (ps:List Str) (sp:Sp):Prop where
 len:∀ vs H Q E,sp vs H Q E->vs.length=ps.length
 run:∀ (A:aZ) (outer:List Env) (s:aa) (H:Hp) (args:Args) (us:List a8) (vs:List V) (Q:VK) (E:XK),j9 k A->BR P w K mg base A outer s H->tN s fd args (ps.zip us)->cF vs us->sp vs H Q E ->
  gx (az P w) A (.call (.ref f) args) (CR CX outer P w H s Q E) s
theorem pU.imp {P:aH}{w:aY}{K:a6}{mg:Str->Option a8}{base:ba}{CX:Dc}{k:Nat}{f:ac}{fd:db}{ps:List Str}{sp sp':Sp} (F:pU P w K mg base CX k f fd ps sp)
  (h:∀ vs H Q E,sp' vs H Q E->sp vs H Q E):pU P w K mg base CX k f fd ps sp' :=
 ⟨fun vs H Q E q=>F.len vs H Q E (h _ _ _ _ q),fun A outer s H args us vs Q E hr he hb hv hs=>F.run A outer s H args us vs Q E hr he hb hv (h _ _ _ _ hs)⟩
section
variable {X:Cx}{pins:List (ac×Obj)}{σ:St}{H:Hp}{s s':aa}
theorem bj.env0 (I:bj X pins σ H s):BR X.prog X.w X.K X.mg X.base X.A X.stack s H :=
 ⟨I.ok.frames,I.ok.mod,I.bs,bv I.ok.bsz I.sz,I.stack,I.stkFree,I.hok,I.bare⟩
theorem bj.after {Q:VK}{u:a8} (I:bj X pins σ H s) (h:CE X.stack X.prog X.w H s Q u s'):EP X pins σ Q u s':=by
 obtain ⟨v,H',os,bare,un,hok,r,q⟩:=h
 obtain ⟨hh,g,d,t,os'⟩:=s'
 obtain rfl:os'=s.os:=os
 exact ⟨v,H',I.call (h':=hh) (g':=g) (d':=d) (t':=t) (ch:=[]) un hok bare (fun b z=>absurd z (by simp)),r,q⟩
end
def Dd (sp:Sp) (dvs:List V) (E:XK) (t:TA):TE:=fun σ H Q=>t σ H fun vs H1=>sp (vs++dvs) H1 Q E
def j3 (K:a6) (fd:db) (ps:List Str) (ds:List a8):Prop :=
 ∀ (s:aa) (us:List a8),K.In s.heap->(us++ds).length=ps.length->tN s fd ⟨us,[]⟩ (ps.zip (us++ds))
theorem j3.all {K:a6}{fd:db}{ps:List Str} (h:∀ us:List a8,us.length=ps.length->K7 fd ⟨us,[]⟩=pure (ps.zip us)):j3 K fd ps []:=fun s us _ hl=>by
 rw [bP] at hl ⊢
 exact .of_eq (h us hl)
def lG (CX:Dc) (X:Cx) (E:XK):Prop:=∀ (pins:List (ac×Obj)) (σ:St) (H:Hp) (s:aa) (e:a8) (s':aa),bj X pins σ H s->CX X.stack H s E e s'->X.xe e s'
section
variable {X:Cx}{CX:Dc}{k:Nat}{f C:ac}{fd:db}{ps:List Str}{sp:Sp}{dvs:List V}{ds:List a8}{E:XK}{x m:Str}{p pos apos:Pos}{e o:aP}{es:List aP}{ta:TE}{t:TA}
theorem O4 {pins:List (ac×Obj)}{σ:St}{H:Hp}{s:aa}{Q:VK}{us:List a8}{vs:List V} (F:pU X.prog X.w X.K X.mg X.base CX k f fd ps sp) (hr:j9 k X.A) (hb:j3 X.K fd ps ds) (hd:cF dvs ds) (hx:lG CX X E)
  (I:bj X pins σ H s) (r:cF vs us) (h:sp (vs++dvs) H Q E):ak (az X.prog X.w) X.A (call (.ref f) us) (EP X pins σ Q) X.xe s:=by
 have r2:cF (vs++dvs) (us++ds):=r.append hd
 have hl:(us++ds).length=ps.length:=by rw [<- r2.length];exact F.len _ _ _ _ h
 refine uS (lO (F.run X.A X.stack s H ⟨us,[]⟩ (us++ds) (vs++dvs) Q E hr I.env0 (hb s us I.kIn hl) r2 h) fun r s' hq=>?_)
 cases r with
 |error e=>exact hx pins σ H s e s' I hq
 |ok fl =>
  cases fl with
  |ret u=>exact I.after hq
  |next=>exact dv hq
  |brk=>exact dv hq
  |cont=>exact dv hq
theorem Kz (F:pU X.prog X.w X.K X.mg X.base CX k f fd ps sp) (hr:j9 k X.A) (hg:Gl X x) (hm:X.mg x=some (.ref f)) (hk:cZ X.K (.ref f)=true) (hb:j3 X.K fd ps ds) (hd:cF dvs ds) (hx:lG CX X E)
  (ha:PA X (e::es) t) (hdb:(x==("__debug__" : Str))=false:=by decide) (he:aq (e::es) X.env=(false,bU e X.env)::aq es X.env:=by rfl) (hpl:(fK pos (aq es X.env)).any (·.1)=false:=by rfl) :
  PE X (.Call (.Name x p) (e::es) [] pos) (Dd sp dvs E t):=by
 intro pins s σ H Q I h
 refine my (uB I hg hm ?_ hdb)
 refine Br (h₀:=X.base) I.ok.mod.kin hk (eK (ha pos pins s σ H _ I h) fun us s1 ⟨vs,H1,I1,r,q⟩=>⟨I1.kIn,?_⟩) he hpl
 exact O4 F hr hb hd hx I1 r q
end
section
variable {X:Cx}{CX:Dc}{k:Nat}{f C:ac}{fd:db}{ps ks:List Str}{sp:Sp}{E:XK}{x m:Str}{p pos apos kpos:Pos}{e o:aP}{es:List aP}{kws:List wv}{te ta:TE}{t tk:TA}{nm:Option Str}
variable {g:List a8->List a8->List a8}{gV:List V->List V->List V}
end
structure bN (N P:List Str) (sc:dW):Prop where
 kind:sc.kind=.function
 co:sc.isCoroutine=false
 gen:sc.isGenerator=false
 nd:N.Nodup
 pre:N.take P.length=P
 par:∀ x∈P,sc.names.lookup x=some .local\/sc.names.lookup x=some .cell
 nofree:∀ y∈sc.names,y.2≠.free
theorem xu {kindOf:Str->Option jA}{x:Str}:∀ {binds:List (Str×a8)}{m:Str->Option a8},(∀ v,(x,v)∉binds)->Bs kindOf binds m x=m x
 |[],_,_=>rfl
 |(n,v)::r,m,h=>by
  unfold Bs
  rw [xu fun w hw=>h w (ao _ hw)]
  split
  ·have:x≠n:=by rintro rfl;exact h v aw
   simp [this]
  ·rfl
theorem xv {kindOf:Str->Option jA}{x:Str}:∀ {binds:List (Str×a8)}{m:Str->Option a8},(∀ v,(x,v)∉binds)->Bt kindOf binds m x=m x
 |[],_,_=>rfl
 |(n,v)::r,m,h=>by
  unfold Bt
  rw [xv fun w hw=>h w (ao _ hw)]
  split
  ·rfl
  ·have:x≠n:=by rintro rfl;exact h v aw
   simp [this]
theorem xw {kindOf:Str->Option jA}{x:Str}{v:a8}:∀ {P:List Str}{vs:List a8}{i:Nat}{m:Str->Option a8},P.Nodup->P[i]?=some x->vs[i]?=some v->kindOf x=some .local ->
  Bs kindOf (P.zip vs) m x=some v
 |[],_,_,_,_,h,_,_=>by simp at h
 |_::_,[],_,_,_,_,h,_=>by simp at h
 |p::P,w::vs,0,m,nd,h1,h2,hk=>by
  simp at h1 h2;subst h1;subst h2
  show Bs kindOf ((p,w)::P.zip vs) m p=_
  unfold Bs
  rw [xu fun v hv=>(List.nodup_cons.mp nd).1 (nY hv).1,if_pos hk]
  simp
 |p::P,w::vs,i+1,m,nd,h1,h2,hk=>by
  show Bs kindOf ((p,w)::P.zip vs) m x=_
  unfold Bs
  exact xw (i:=i) (List.nodup_cons.mp nd).2 (by simpa using h1) (by simpa using h2) hk
theorem xx {kindOf:Str->Option jA}{x:Str}{v:a8}:∀ {P:List Str}{vs:List a8}{i:Nat}{m:Str->Option a8},P.Nodup->P[i]?=some x->vs[i]?=some v->kindOf x≠some .local ->
  Bt kindOf (P.zip vs) m x=some v
 |[],_,_,_,_,h,_,_=>by simp at h
 |_::_,[],_,_,_,_,h,_=>by simp at h
 |p::P,w::vs,0,m,nd,h1,h2,hk=>by
  simp at h1 h2;subst h1;subst h2
  show Bt kindOf ((p,w)::P.zip vs) m p=_
  unfold Bt
  rw [xv fun v hv=>(List.nodup_cons.mp nd).1 (nY hv).1,if_neg hk]
  simp
 |p::P,w::vs,i+1,m,nd,h1,h2,hk=>by
  show Bt kindOf ((p,w)::P.zip vs) m x=_
  unfold Bt
  exact xx (i:=i) (List.nodup_cons.mp nd).2 (by simpa using h1) (by simpa using h2) hk
def start (N:List Str) (vs:List V):St:=vs.map some++kW (N.length-vs.length) none
def iW (CX:Dc) (P:aH) (w:aY) (K:a6) (mg:Str->Option a8) (base:ba) (N:List Str) (qual:Str) (scope:dW) (f:ac) (cd:a8) (A:aZ) (outer:List Env) (s:aa) (H:Hp) (E:XK):Cx where
 prog:=P
 w:=w
 K:=K
 mg:=mg
 base:=base
 A:=A.deeper (iH qual scope s.heap.objs.size f cd)
 N:=N
 s₀:=s
 H₀:=H
 env:=iH qual scope s.heap.objs.size f cd
 outer:=outer
 stack:=iH qual scope s.heap.objs.size f cd::outer
 ex:=[]
 calm:=true
 fn:=fun _=>true
 pn:=[]
 xe:=fun e s'=>ak (az P w) (A.deeper (iH qual scope s.heap.objs.size f cd)) (leaving (iH qual scope s.heap.objs.size f cd) e) (fun _ s''=>CX outer H s E e s'') (fun e' s''=>CX outer H s E e' s'') s'
theorem zX {sc:dW}{n:Nat}{x:Str} (h:sc.names.lookup x=some .cell):∃ c,(bB n sc.names []).lookup x=some c:=by
 have q:=e7 sc.names n [] (.inl h)
 exact Option.isSome_iff_exists.mp q
theorem xy {CX:Dc}{P:aH}{w:aY}{K:a6}{mg:Str->Option a8}{base:ba}{N ps:List Str}{qual:Str}{scope:dW}{f:ac}{cd:a8}{A:aZ}{outer:List Env}{s s1:aa}{H:Hp}{E:XK}{us:List a8}{vs:List V}
  (S:bN N ps scope) (hd:A.handled=none) (e0:BR P w K mg base A outer s H) (hl:vs.length=ps.length) (r:cF vs us)
  (x:InCallC s s.heap.objs.size (Bs (iH qual scope s.heap.objs.size f cd).kindOf (ps.zip us) fun _=>none) (bB (s.heap.objs.size+1) scope.names []) (Bt (iH qual scope s.heap.objs.size f cd).kindOf (ps.zip us) fun _=>none) s1) :
  bj (iW CX P w K mg base N qual scope f cd A outer s H E) [] (start N vs) H s1:=by
 have hpl:ps.length<=N.length:=by have:=congrArg lP S.pre;rw [jx] at this;omega
 obtain ⟨h1,tk,rfl,hk⟩:=x.done
 have noA:∀ b:ac,b∉(iW CX P w K mg base N qual scope f cd A outer s H E).ex:=fun b z=>absurd (show b∈([] : List ac) from z) (by simp)
 refine ⟨⟨e0.mod,S.kind,rfl,rfl,al _,fun y z c h1 h2=>?_,fun y hy=>?_,fun y c _ h=>?_,fun _=>hd,Around.frames_deeper e0.frames,.inr ⟨rfl,rfl⟩,fun b z=>absurd z (noA b),e0.bs,e0.bsz,fun b _ _=>noA b,fun b z=>absurd z (noA b),e0.funs,e0.frf⟩,
  rfl,e0.bare,Un.kept hk,⟨_,x.toInCall.ns,fun i y v h1 h2 h3=>?_⟩,fun y c h=>⟨_,x.cell y c h⟩,e0.hok.fresh (al _),fun y c h=>?_,fun p hp=>absurd (show p∈([] : List (ac×Obj)) from hp) (by simp),e0.hok.kept hk,?_⟩
 ·exact name_of_addr x.apart (cK h1) (cK h2)
 ·have hy:scope.names.lookup y=some .cell\/scope.names.lookup y=some .free:=hy
  rcases hy with hy|hy
  ·exact zX hy
  ·exact absurd rfl (S.nofree _ (cK hy))
 ·exact bw (x.above y c (cK h))
 ·have hi:i<vs.length:=by
   unfold start at h2
   by_cases hi:i<vs.length
   ·exact hi
   ·rw [b6 (by simpa using hi)] at h2
    rw [bD] at h2
    split at h2<;>cases h2
  have ha:vs[i]?=some v:=by
   unfold start at h2
   rw [bh (by simpa using hi),aF] at h2
   cases e:vs[i]? with
   |none=>rw [e] at h2;cases h2
   |some a=>rw [e] at h2;cases h2;rfl
  obtain ⟨u,hu,rv⟩:=r.get ha
  have hp:ps[i]?=some y:=by
   rw [<- S.pre,List.getElem?_take_of_lt (by omega)];exact h1
  have ndP:ps.Nodup:=by rw [<- S.pre];exact S.nd.sublist (List.take_sublist _ _)
  refine ⟨u,rv,?_⟩
  rcases S.par y (dL hp) with k|k
  ·exact .inl ⟨k,xw ndP hp hu k⟩
  ·obtain ⟨c,e⟩:=zX (n:=s.heap.objs.size+1) k
   refine .inr ⟨.inl k,c,e,?_⟩
   have q:=x.cell y c e
   rw [xx ndP hp hu (by show scope.names.lookup y≠_;rw [k];decide)] at q
   exact q
 ·exact e0.hok.fresh (bw (x.above y c (cK h)))
 ·unfold start
  show _=N.length
  rw [aI,au,cx]
  omega
theorem zY {CX:Dc}{P:aH}{w:aY}{K:a6}{mg:Str->Option a8}{base:ba}{k:Nat}{f:ac}{name qual:Str}{params:Arguments}{body:List du}{scope:dW}{dV kV doc pm cdv ct oc:a8}{an od:Option ac}
  {osl:Array (Option a8)}{N ps:List Str}{sp:Sp} (lk:K.lookup f=some ⟨oc,od,.func (dw name qual params body scope dV kV doc pm an cdv ct),osl⟩) (hcd:iI K cdv qual=true) (S:bN N ps scope)
  (len:∀ vs H Q E,sp vs H Q E->vs.length=ps.length)
  (hbody:∀ (A:aZ) (outer:List Env) (s:aa) (H:Hp) (vs:List V) (Q:VK) (E:XK),j9 k (A.deeper (iH qual scope s.heap.objs.size f cdv))->sp vs H Q E ->
   ∃ t,zN (iW CX P w K mg base N qual scope f cdv A outer s H E) body t/\t { nx:=fun _ H'=>Q .non H',rt:=Q } (start N vs) H) :
  pU P w K mg base CX (k+1) f (dw name qual params body scope dV kV doc pm an cdv ct) ps sp:=by
 refine ⟨len,fun A outer s H args us vs Q E hr e0 hb r hsp=>?_⟩
 have hl:=len _ _ _ _ hsp
 have KX:K.In s.heap:=e0.mod.kin.keeps fun b o e=>(e0.bs b o e).1
 have lim:s.heap.NoLimit:=e0.mod.nolimit.keeps fun b o e=>(e0.bs b o e).1
 have hkind:∀ y∈ps.zip us,scope.names.lookup y.1=some .local\/(scope.names.lookup y.1=some .cell/\((bB (s.heap.objs.size+1) scope.names []).lookup y.1).isSome=true):=fun ⟨n,v⟩ hy=>by
  rcases S.par n (nY hy).1 with q|q
  ·exact .inl q
  ·exact .inr ⟨q,e7 _ _ _ (.inl q)⟩
 refine JU hr.depth (KX _ _ lk) rfl S.co S.gen rfl (qh KX hcd) (hb _ _ _ _ ?_)
 refine Bu S.kind hkind fun env he s1 x=>?_
 subst he
 refine ⟨lim.keeps x.toInCall.keep,codeAny_func ?_⟩
 obtain ⟨t,ht,hq⟩:=hbody A outer s H vs Q E (hr.deeper _) hsp
 have I:bj (iW CX P w K mg base N qual scope f cdv A outer s H E) [] (start N vs) H s1:=xy S hr.hd e0 hl r x
 refine c6 (ht [] s1 (start N vs) H _ I hq) (fun fl s' hs=>?_) fun e s' hs=>hs
 have fin:∀ {σ':St}{H':Hp}{v:V}{u:a8},bj (iW CX P w K mg base N qual scope f cdv A outer s H E) [] σ' H' s'->cD v u->Q v H'->CE outer P w H s Q u s' :=
  fun {σ' H' v u} J rv q=>⟨v,H',J.os,J.bare,J.base,J.hok,rv,q⟩
 cases fl with
 |ret u =>
  obtain ⟨v,σ',H',J,rv,q⟩:=hs
  exact fin J rv q
 |next =>
  obtain ⟨σ',H',J,q⟩:=hs
  exact fin (v:=V.non) (u:=dZ) J rfl q
 |brk =>
  obtain ⟨_,_,_,q⟩:=hs
  exact dv q
 |cont =>
  obtain ⟨_,_,_,q⟩:=hs
  exact dv q
end L2
namespace L2
open PySem PySem.Spec PyProof.Rows
section
variable {X:Cx}{x:Str}{p pos:Pos}{e:aP}{es:List aP}{t:TA}{id T:String}{r:List V->Hp->VK->Prop}
def Pt (r:List V->Hp->VK->Prop) (t:TA):TE:=fun σ H Q=>t σ H fun vs H1=>r vs H1 Q
theorem lV (hc:j0 X (.builtin id) r) (hg:Gl X x) (hm:X.mg x=none) (hv:gq x=some (.builtin id)) (ha:PA X (e::es) t) (hn:x≠"__name__":=by decide) (hdb:(x==("__debug__" : Str))=false:=by decide)
  (he:aq (e::es) X.env=(false,bU e X.env)::aq es X.env:=by rfl) (hpl:(fK pos (aq es X.env)).any (·.1)=false:=by rfl):PE X (.Call (.Name x p) (e::es) [] pos) (Pt r t):=by
 intro pins s σ H Q I h
 refine my (qk I hg hm hv ?_ hn hdb)
 exact PyProof.Rows.callWith_builtin1 (eK (ha pos pins s σ H _ I h) fun us s1 h_27=>by obtain ⟨vs,H1,I1,r1,q1⟩:=h_27;exact hc pins s1 σ H1 vs us Q I1 r1 q1) he hpl
theorem xz (hc:j0 X (.type T) r) (hg:Gl X x) (hm:X.mg x=none) (hv:gq x=some (.type T)) (ha:PA X (e::es) t) (hn:x≠"__name__":=by decide) (hdb:(x==("__debug__" : Str))=false:=by decide)
  (he:aq (e::es) X.env=(false,bU e X.env)::aq es X.env:=by rfl) (hpl:(fK pos (aq es X.env)).any (·.1)=false:=by rfl):PE X (.Call (.Name x p) (e::es) [] pos) (Pt r t):=by
 intro pins s σ H Q I h
 refine my (qk I hg hm hv ?_ hn hdb)
 exact dJ (eK (ha pos pins s σ H _ I h) fun us s1 h_28=>by obtain ⟨vs,H1,I1,r1,q1⟩:=h_28;exact hc pins s1 σ H1 vs us Q I1 r1 q1) he hpl
end
end L2
namespace HT
open PySem PyProof.Rows
section
open PySem.SeqAt
open PySem.AutoSeq1 (wpAny_loadPart')
open PySem.MeetsSeq PySem.MeetsSeq2 PySem.MeetsSeq3
end
section
variable {prog:aH}{w:aY}{A:aZ}{E:a8->aa->Prop}{s:aa}
theorem KA {t b:ac}{vs ws:List a8}{Q:a8->aa->Prop} (ht:IsTup s.heap t vs.toArray) (hb:IsTup s.heap b ws.toArray) (hv:vs≠[])
  (h1:ws=[]->Q (.ref t) s) (h2:ws≠[]->Q (.ref s.heap.objs.size) { s with heap:=s.heap.push { cls:=.type "tuple",data:=.seq (vs++ws).toArray } })
  (hsz:vs.length+ws.length<=sizeLine):ak (az prog w) A (fc .Add (.ref t) (.ref b)) Q E s:=by
 obtain ⟨⟨cls,dd,data,sl⟩,ho,hc,n,hd⟩:=id ht
 obtain ⟨⟨cls2,dd2,data2,sl2⟩,ho2,hc2,n2,hd2⟩:=id hb
 simp only at hc hd hc2 hd2
 subst hc hd hc2 hd2
 have e:vs.toArray++ws.toArray=(vs++ws).toArray:=by simp
 by_cases hw:ws=[]
 ·exact ww ⟨_,ho,rfl⟩ ⟨_,ho2,rfl⟩ yh Ek mz lQ (lD _ _)
   (tuple_addW1 t b vs.toArray ws.toArray n n2 dd dd2 sl sl2 (by simpa using hv) (by simp [hw])) ⟨ho,ho2,h1 hw⟩
 ·refine ww ⟨_,ho,rfl⟩ ⟨_,ho2,rfl⟩ yh Ek mz lQ (lD _ _)
   (tuple_addW2 t b vs.toArray ws.toArray n n2 dd dd2 sl sl2 (by simpa using hv) (by simpa using hw) (by rw [aA,aA];exact hsz)) ⟨ho,ho2,?_⟩
  rw [e]
  exact h2 hw
def gY (n d:Nat):Option Int->Nat
 |none=>d
 |some v=>if v<0 then (v+(n:Int)).toNat else min v.toNat n
theorem zZ (n d:Nat):gY n d none=d:=rfl
theorem De (n d k:Nat):gY n d (some (k:Int))=min k n:=by
 show (if (k:Int)<0 then ((k:Int)+(n:Int)).toNat else min (k:Int).toNat n)=min k n
 rw [if_neg (by omega),j5]
theorem O5 (n d:Nat) (hd:d<=n) (o:Option Int):gY n d o<=n:=by
 cases o with
 |none=>exact hd
 |some v =>
  show (if v<0 then (v+(n:Int)).toNat else min v.toNat n)<=n
  by_cases hv:v<0
  ·rw [if_pos hv];omega
  ·rw [if_neg hv];exact uT _ _
theorem Df (v:Int) (n d:Nat):(if v<0 then max (v+(n:Int)) 0 else min v (n:Int))=((gY n d (some v):Nat):Int):=by
 show (if v<0 then max (v+(n:Int)) 0 else min v (n:Int))=(((if v<0 then (v+(n:Int)).toNat else min v.toNat n):Nat):Int)
 by_cases hv:v<0
 ·simp only [if_pos hv];omega
 ·simp only [if_neg hv];omega
theorem BS (lo hi:Option Int) (n:Nat):jB lo hi 1 (n:Int)=(((gY n 0 lo:Nat):Int),((gY n n hi:Nat):Int)):=by
 have h1:¬ ((1:Int)<0):=by omega
 unfold jB
 simp only [h1,if_false]
 refine Prod.ext ?_ ?_
 ·cases lo with
  |none=>rfl
  |some v=>exact Df v n 0
 ·cases hi with
  |none=>rfl
  |some v=>exact Df v n n
theorem BU (i j:Nat):fU (i:Int) (j:Int) 1=j-i:=by
 unfold fU
 have h1:(1:Int) > 0:=by omega
 simp only [h1,if_true,Int.ediv_one]
 split<;>omega
theorem v8 {v:a8}{o:Option Int}{Q:Option Int->aa->Prop} (p:sB v o) (h:Q o s):ak (az prog w) A (Builtin.Slice.slicePartIndex v) Q E s:=by
 cases p with
 |none=>exact slicePart_none h
 |int i t=>exact slicePart_int h
theorem lW {sl:ac}{vl vu:a8}{lo hi:Option Int}{n:Nat}{Q:Int×Int×Nat->aa->Prop} (hs:s.heap.IsSliceOf sl vl vu .none) (pl:sB vl lo) (pu:sB vu hi)
  (h:Q (((gY n 0 lo:Nat):Int),1,gY n n hi-gY n 0 lo) s):ak (az prog w) A (qV (.ref sl) (pure (n:Int))) Q E s:=by
 obtain ⟨os,hos,hcs,hds⟩:=id hs
 unfold qV Builtin.Slice.sliceFields
 refine a5 (a5 (bH hos hds (x:=vl) rfl (a5 (bH hos hds (x:=vu) rfl (a5 (bH hos hds (x:=.none) rfl (a9 ?_)))))))
 refine a5 (slicePart_none ?_)
 show ak _ _ (if ((1:Int)==0)=true then _ else _) _ _ s
 rw [if_neg (by decide)]
 refine a5 (v8 pl (a5 (v8 pu (a5 (a9 ?_)))))
 show ak _ _ (match jB lo hi 1 (n:Int) with|(lo,hi)=>pure (lo,(1:Int),fU lo hi 1)) _ _ s
 rw [BS lo hi n]
 show ak _ _ (pure (((gY n 0 lo:Nat):Int),(1:Int),fU ((gY n 0 lo:Nat):Int) ((gY n n hi:Nat):Int) 1)) _ _ s
 rw [BU]
 exact a9 h
theorem GL (xs:Array a8) (i k:Nat):((bW k).filterMap fun (m:Nat)=>xs[((i:Int)+(m:Int)*1).toNat]?).toArray=((xs.toList.drop i).take k).toArray:=by
 have e:(fun (m:Nat)=>xs[((i:Int)+(m:Int)*1).toNat]?)=fun m=>xs[i+m]?:=by
  funext m
  have:((i:Int)+(m:Int)*1).toNat=i+m:=by omega
  rw [this]
 rw [e]
 have:=pick_run xs i k
 rw [List.filterMap_map] at this
 have e2:((fun x=>xs[x]?)∘fun x=>i+x)=fun m=>xs[i+m]?:=rfl
 rw [e2] at this
 rw [this]
theorem rg {t sl:ac}{items:Array a8}{vl vu:a8}{lo hi:Option Int}{Q:a8->aa->Prop} (ht:IsTup s.heap t items) (hs:s.heap.IsSliceOf sl vl vu .none) (pl:sB vl lo) (pu:sB vu hi)
  (hw:¬ (gY items.size 0 lo=0/\gY items.size items.size hi=items.size))
  (h:Q (.ref s.heap.objs.size) { s with heap:=s.heap.push { cls:=.type "tuple",data:=.seq ((items.toList.drop (gY items.size 0 lo)).take (gY items.size items.size hi-gY items.size 0 lo)).toArray } })
  (hsz:items.size<=sizeLine):ak (az prog w) A (nN (.ref t) (.ref sl)) Q E s:=by
 have htake:sizeOk (.seq ((items.toList.drop (gY items.size 0 lo)).take (gY items.size items.size hi-gY items.size 0 lo)).toArray):=by
  show ((items.toList.drop (gY items.size 0 lo)).take (gY items.size items.size hi-gY items.size 0 lo)).toArray.size<=sizeLine
  rw [aA,jx,hU,aO]
  omega
 have hj:gY items.size items.size hi<=items.size:=O5 _ _ (al _) hi
 obtain ⟨os,hos,hcs,hds⟩:=id hs
 have hTs:s.TypeIs (.ref sl) "slice":=⟨os,hos,hcs⟩
 unfold nN
 try with_reducible refine cG ?_
 first|refine a5 (a9 ?_)|skip
 refine a5 (wpAny_sequenceKey ht.typeIs (by decide) ?_)
 refine a5 (bK (name:=bc "__getitem__") ht.typeIs eL
  (bV eL ht.typeIs entry_tuple_getitem ?_ (args_tuple_getitem _ _)))
 show ak _ _ (qW (.ref t) >>= _) _ _ s
 refine a5 (tupleItemsOf_ ht ?_)
 refine a5 (qi hTs ?_)
 rw [if_pos (by decide)]
 refine a5 (lW hs pl pu ?_)
 have hno:¬ ((((gY items.size 0 lo:Nat):Int)==0&&(1:Int)==1&&(gY items.size items.size hi-gY items.size 0 lo)==items.size)=true):=by
  intro q
  rw [aC,aC] at q
  have q1:((gY items.size 0 lo:Nat):Int)=0:=eq_of_beq q.1.1
  have q2:gY items.size items.size hi-gY items.size 0 lo=items.size:=eq_of_beq q.2
  exact hw ⟨by omega,by omega⟩
 show ak _ _ (if (((gY items.size 0 lo:Nat):Int)==0&&(1:Int)==1&&(gY items.size items.size hi-gY items.size 0 lo)==items.size)=true then _ else _) _ _ s
 rw [if_neg hno,GL]
 first
  |exact a5 (m:=gy _) (ck (a9 ⟨_,rfl,a9 h⟩) htake)
  |exact a5 (m:=gy _) (ck (a5 (a9 (a9 ⟨_,rfl,a9 h⟩))) htake)
  |exact a5 (a5 (m:=gy _) (ck (a9 (a9 ⟨_,rfl,a9 h⟩)) htake))
  |exact a5 (a5 (m:=gy _) (ck (a9 ⟨_,rfl,a9 h⟩) htake))
end
end HT
namespace L2
open PySem PySem.Spec PyProof.Rows
abbrev TO:=St->Hp->(Option Int->Hp->Prop)->Prop
def PO (X:Cx) (e:Option aP) (t:TO):Prop :=
 ∀ (pins:List (ac×Obj)) (s:aa) (σ:St) (H:Hp) (Q:Option Int->Hp->Prop),bj X pins σ H s->t σ H Q ->
  ak (az X.prog X.w) X.A (evalPart e X.env) (fun u s'=>∃ o H',bj X pins σ H' s'/\sB u o/\Q o H') X.xe s
def KB:TO:=fun _ H Q=>Q none H
def Pu (t:TE):TO:=fun σ H Q=>t σ H fun x H1=>∃ i,x=.int i/\Q (some i) H1
section
variable {X:Cx}{e:aP}{te:TE}{lo hi:Option aP}{tl th:TO}{pos p2:Pos}
theorem KC:PO X none KB:=by
 intro pins s σ H Q I h
 rw [evalPart_none]
 exact a9 ⟨none,H,I,.none,h⟩
theorem KD (h:PE X e te):PO X (some e) (Pu te):=by
 intro pins s σ H Q I hw
 rw [evalPart_some]
 refine eK (h pins s σ H _ I hw) fun u s1 h_29=>?_
 obtain ⟨x,H1,I1,r1,q1⟩:=h_29
 obtain ⟨i,rfl,q⟩:=q1
 obtain ⟨t,rfl⟩:=r1
 exact ⟨some i,H1,I1,.int i t,q⟩
def Pw (X:Cx) (r:V->Option Int->Option Int->Hp->VK->Prop):Prop :=
 ∀ (pins:List (ac×Obj)) (s:aa) (σ:St) (H:Hp) (x:V) (v vl vu:a8) (lo hi:Option Int) (sl:ac) (Q:VK),bj X pins σ H s->cD x v->s.heap.IsSliceOf sl vl vu .none->sB vl lo->sB vu hi->r x lo hi H Q ->
  ∃ T id,Bv (.type T) "__getitem__"=pure (some (.builtin id))/\s.TypeIs v T/\ak (az X.prog X.w) X.A (nN v (.ref sl)) (EP X pins σ Q) X.xe s
def Ta (r:V->Option Int->Option Int->Hp->VK->Prop) (te:TE) (tl th:TO):TE:=fun σ H Q=>te σ H fun x H1=>tl σ H1 fun l H2=>th σ H2 fun u H3=>r x l u H3 Q
theorem GM {r:V->Option Int->Option Int->Hp->VK->Prop} (hr:Pw X r) (he:PE X e te) (hl:PO X lo tl) (hu:PO X hi th):PE X (.Subscript e (.Slice lo hi none p2) pos) (Ta r te tl th):=by
 intro pins s σ H Q I h
 refine Subscript_ (eK (he pins s σ H _ I h) fun v s1 ⟨x,H1,I1,r1,q1⟩=>?_)
 refine wpAny_Slice (eK (hl pins s1 σ H1 _ I1 q1) fun vl s2 ⟨l,H2,I2,pl,q2⟩=>eK (hu pins s2 σ H2 _ I2 q2) fun vu s3 ⟨u,H3,I3,pu,q3⟩=>?_)
 rw [evalPart_none]
 refine a9 ?_
 have I4:bj X pins σ H3 { s3 with heap:=s3.heap.push { cls:=.type "slice",data:=.fields #[vl,vu,.none] } }:=I3.kept (t':=s3.toks) fun b ob q=>a7 _ q
 obtain ⟨T,id,hT,ht,hg⟩:=hr pins { s3 with heap:=s3.heap.push { cls:=.type "slice",data:=.fields #[vl,vu,.none] } } σ H3 x v vl vu l u s3.heap.objs.size Q I4 r1 (Heap.IsSliceOf.new ..) pl pu q3
 show ak (az X.prog X.w) X.A (El e (.Slice lo hi none p2) v (.ref s3.heap.objs.size)) (EP X pins σ Q) X.xe { s3 with heap:=s3.heap.push { cls:=.type "slice",data:=.fields #[vl,vu,.none] } }
 exact tail_any (ops:=[.ref s3.heap.objs.size,v]) ht hT hg (by with_unfolding_all rfl)
def z_ (xs:List V) (lo hi:Option Int):List V:=(xs.drop (HT.gY xs.length 0 lo)).take (HT.gY xs.length xs.length hi-HT.gY xs.length 0 lo)
theorem tU (xs:List V) (lo hi:Option Int):(z_ xs lo hi).length<=xs.length:=by
 unfold z_
 rw [jx,hU]
 omega
def RY (K:a6):V->Option Int->Option Int->Hp->VK->Prop:=fun x lo hi H Q=>∃ a xs,x=.ref a/\ic K H a xs /\
 ¬ (HT.gY xs.length 0 lo=0/\HT.gY xs.length xs.length hi=xs.length)/\∀ p,H p=none->Q (.ref p) (upd H p (.tup (z_ xs lo hi)))
theorem O6:Pw X (RY X.K):=by
 intro pins s σ H x v vl vu lo hi sl Q I rx hs pl pu h
 obtain ⟨a,xs,rfl,hx,hw,q⟩:=h
 cases rx
 obtain ⟨its,r,ht,hz⟩:=I.tuple hx
 have hlen:its.toArray.size=xs.length:=by rw [aA];exact r.length.symm
 refine ⟨"tuple",_,PyProof.Rows.slot_tuple_getitem.lookup,ht.typeIs,?_⟩
 refine HT.rg ht hs pl pu (by rw [hlen];exact hw) ?_ (by rw [hlen];exact hz)
 rw [hlen]
 refine ⟨.ref s.heap.objs.size,_,I.laid (t':=s.toks) (o:=.tup (z_ xs lo hi)) (fun b ob q=>a7 _ q) (al _) ?_,rfl,q _ (I.hok.fresh (al _))⟩
 exact ⟨bv (tU xs lo hi) hz,_,(r.drop (HT.gY xs.length 0 lo)).take (HT.gY xs.length xs.length hi-HT.gY xs.length 0 lo),zI _ _⟩
inductive GN (K:a6) (x:V) (y:V) (H:Hp) (Q:VK):Prop
 |mk (a b xs ys:_) (h0:x=.ref a) (h1:y=.ref b) (h2:ic K H a xs) (h3:ic K H b ys) (h4:xs≠[]) (h5:xs.length+ys.length<=sizeLine) (h6:(ys=[]->Q (.ref a) H)) (h7:(ys≠[]->∀ p,H p=none->Q (.ref p) (upd H p (.tup (xs++ys))))):GN K x y H Q
def Px (K:a6):R2:=GN K
theorem cF.nil_iff {xs:List V}{us:List a8} (r:cF xs us):us=[]↔xs=[]:=by
 cases r with
 |nil=>simp
 |cons _ _=>simp
theorem KG:oZ X (fc .Add) (Px X.K):=by
 intro pins s σ H x y v u Q I rx ry h
 obtain ⟨a,b,xs,ys,rfl,rfl,ha,hb,hx,hz,q1,q2⟩:=h
 cases rx
 cases ry
 obtain ⟨its,r1,p1,_⟩:=I.tuple ha
 obtain ⟨its2,r2,p2,_⟩:=I.tuple hb
 refine HT.KA p1 p2 (fun z=>hx (r1.nil_iff.mp z)) (fun z=>⟨.ref a,H,I,rfl,q1 (r2.nil_iff.mp z)⟩) (fun z=>?_) (by rw [<- r1.length,<- r2.length];exact hz)
 refine ⟨.ref s.heap.objs.size,_,I.laid (t':=s.toks) (o:=.tup (xs++ys)) (fun b ob q=>a7 _ q) (al _) ?_,rfl,q2 (fun w=>z (r2.nil_iff.mpr w)) _ (I.hok.fresh (al _))⟩
 exact ⟨by rw [aI];exact hz,_,r1.append r2,zI _ _⟩
end
end L2
namespace L2
open PySem PySem.Spec PyProof.Rows
def O7 (n:Nat) (i:Int):Option Nat:=if 0<=i then (if i<n then some i.toNat else none) else if -(n:Int)<=i then some (i+n).toNat else none
def Be {α:Type} (xs:List α) (i:Int):Option α:=(O7 xs.length i).bind fun j=>xs[j]?
theorem KH {n:Nat}{i:Int}{j:Nat} (h:O7 n i=some j):seqIndex? i n=some j/\j<n/\-(n:Int)<=i/\i<n:=by
 unfold O7 at h
 by_cases h0:0<=i
 ·rw [if_pos h0] at h
  by_cases h1:i<n
  ·rw [if_pos h1] at h
   have e:i.toNat=j:=bt h
   exact ⟨by rw [seqIndex_of h0 h1,e],by omega,by omega,h1⟩
  ·rw [if_neg h1] at h;cases h
 ·rw [if_neg h0] at h
  by_cases h1:-(n:Int)<=i
  ·rw [if_pos h1] at h
   have e:(i+n).toNat=j:=bt h
   exact ⟨by rw [seqIndex_neg (by omega) h1,e],by omega,h1,by omega⟩
  ·rw [if_neg h1] at h;cases h
theorem yr {α:Type}{xs:List α}{i:Int}{v:α} (h:Be xs i=some v):∃ j,seqIndex? i xs.length=some j/\xs[j]?=some v/\j<xs.length/\-(xs.length:Int)<=i/\i<xs.length:=by
 unfold Be at h
 cases e:O7 xs.length i with
 |none=>rw [e] at h;cases h
 |some j =>
  rw [e] at h
  obtain ⟨h1,h2,h3,h4⟩:=KH e
  exact ⟨j,h1,h,h2,h3,h4⟩
theorem rh {α:Type}{xs:List α}{j:Nat}{v:α} (h:xs[j]?=some v):Be xs (j:Int)=some v:=by
 have hj:j<xs.length:=(List.getElem?_eq_some_iff.mp h).1
 have e:O7 xs.length (j:Int)=some j:=by
  unfold O7
  rw [if_pos (by omega),if_pos (by omega)];simp
 unfold Be;rw [e];exact h
def uD (b:aP):Prop:=∀ o i,zJ b false o i=operate [o,i] (nN o i)
def Py (X:Cx) (r:R2):Prop :=
 ∀ (value slice:aP) (pins:List (ac×Obj)) (s:aa) (σ:St) (H:Hp) (x y:V) (v u:a8) (Q:VK),bj X pins σ H s->cD x v->cD y u->r x y H Q ->
  zJ slice false v u=operate [v,u] (nN v u)->ak (az X.prog X.w) X.A (El value slice v u) (EP X pins σ Q) X.xe s
def RZ (X:Cx) (id:String) (r:V->List V->Hp->VK->Prop):Prop :=
 ∀ (pins:List (ac×Obj)) (s:aa) (σ:St) (H:Hp) (x:V) (xs:List V) (v:a8) (us:List a8) (Q:VK),bj X pins σ H s->cD x v->cF xs us->r x xs H Q ->
  ak (az X.prog X.w) X.A (call (.builtin id) (v::us)) (EP X pins σ Q) X.xe s
section
variable {X:Cx}{a b:aP}{ta tb:TE}{pos:Pos}
theorem Mt {r:R2} (hr:Py X r) (ha:PE X a ta) (hb:PE X b tb) (hs:uD b):PE X (.Subscript a b pos) (Pl r ta tb):=by
 intro pins s σ H Q I h
 exact Subscript_ (NV ha hb I h fun v u s2 x y H2 I2 rx ry q=>hr a b pins s2 σ H2 x y v u Q I2 rx ry q (hs _ _))
inductive Mu (K:a6) (x:V) (y:V) (H:Hp) (Q:VK):Prop
 |mk (p xs i v:_) (h0:x=.ref p) (h1:y=.int i) (h2:jI K H p xs) (h3:Be xs i=some v) (h4:Q v H):Mu K x y H Q
def Pz (K:a6):R2:=Mu K
inductive Mv (K:a6) (x:V) (y:V) (H:Hp) (Q:VK):Prop
 |mk (p xs i v:_) (h0:x=.ref p) (h1:y=.int i) (h2:ic K H p xs) (h3:Be xs i=some v) (h4:Q v H):Mv K x y H Q
def R_ (K:a6):R2:=Mv K
inductive Mw (x:V) (y:V) (H:Hp) (Q:VK):Prop
 |mk (z i c:_) (h0:x=.str z) (h1:y=.int i) (h2:z.length<=sizeLine) (h3:Be z.cps.toList i=some c) (h4:Q (.str ⟨#[c]⟩) H):Mw  x y H Q
def S0:R2:=Mw
theorem Dg:Py X (Pz X.K):=by
 intro value slice pins s σ H x y v u Q I rx ry h hs
 obtain ⟨p,xs,i,z,rfl,rfl,hq,he,q⟩:=h
 cases rx
 obtain ⟨t,rfl⟩:=ry
 obtain ⟨its,r,pl,hz⟩:=I.list hq
 obtain ⟨j,h1,h2,h3,h4,h5⟩:=yr he
 obtain ⟨w,ew,rw'⟩:=r.get h2
 have hl:=r.length
 have hn:=sR
 have fin:EP X pins σ Q w s:=⟨z,H,I,rw',q⟩
 by_cases h0:0<=i
 ·have hj:i.toNat=j:=by
   rw [seqIndex_of h0 h5] at h1
   exact bt h1
  exact item_listR pl.isList h0 (by omega) (by rw [hj];simpa using ew) fin hs
 ·have hj:(i+(its.toArray.size:Int)).toNat=j:=by
   rw [seqIndex_neg (by omega) h4] at h1
   rw [aA,<- hl]
   exact bt h1
  exact Gg (x:=w) pl.isList.typeIs slot_list_getitem.lookup
   (wpAny_getItem_list_neg (Q:=fun r s'=>r=w/\EP X pins σ Q r s') pl.isList (by omega) (by rw [aA]<;>omega) (by omega) (by rw [hj];simpa using ew) ⟨rfl,fin⟩) hs
theorem O8:Py X (R_ X.K):=by
 intro value slice pins s σ H x y v u Q I rx ry h hs
 obtain ⟨p,xs,i,z,rfl,rfl,hq,he,q⟩:=h
 cases rx
 obtain ⟨t,rfl⟩:=ry
 obtain ⟨its,r,pl,hz⟩:=I.tuple hq
 obtain ⟨j,h1,h2,h3,h4,h5⟩:=yr he
 obtain ⟨w,ew,rw'⟩:=r.get h2
 have hl:=r.length
 have hn:=sR
 have fin:EP X pins σ Q w s:=⟨z,H,I,rw',q⟩
 exact Gg (x:=w) pl.typeIs slot_tuple_getitem.lookup
  (getItem_tuple (j:=j) (Q:=fun r s'=>r=w/\EP X pins σ Q r s') pl (by omega) (by omega) (by rw [aA,<- hl];exact h1) (by simpa using ew) ⟨rfl,fin⟩) hs
theorem O9:Py X S0:=by
 intro value slice pins s σ H x y v u Q I rx ry h hs
 obtain ⟨z,i,c,rfl,rfl,hz,he,q⟩:=h
 obtain ⟨t,rfl⟩:=rx
 obtain ⟨t',rfl⟩:=ry
 obtain ⟨j,h1,h2,h3,h4,h5⟩:=yr he
 have hl:z.cps.toList.length=z.length:=by simp [Str.length]
 rw [hl] at h1 h4 h5
 have hn:=sR
 exact tail_any (mB s z t) slot_str_getitem.lookup (getItem_str (c:=c) (by
  have e1:decide (i < -(2 ^ 63:Int))=false:=decide_eq_false (by omega)
  have e2:decide (i ≥ 2 ^ 63)=false:=decide_eq_false (by omega)
  rw [e1,e2,Bool.or_false]) (by rw [h1];simpa using h2) ⟨.str ⟨#[c]⟩,H,I.tok _,⟨_,rfl⟩,q⟩) hs
theorem yt (lo hi:Option Int) (n:Nat):(kR lo hi none n).1=((HT.gY n 0 lo:Nat):Int)/\(kR lo hi none n).2.1=((HT.gY n n hi:Nat):Int)/\(kR lo hi none n).2.2=1:=by
 refine ⟨?_,?_,rfl⟩
 ·cases lo with
  |none=>simp [kR,HT.gY]
  |some i =>
   simp only [kR,HT.gY,f9,show (1:Int) > 0 by decide,if_true]
   by_cases h:i<0
   ·simp only [h,if_true]<;>omega
   ·simp only [h,if_false]<;>omega
 ·cases hi with
  |none=>simp [kR,HT.gY]
  |some i =>
   simp only [kR,HT.gY,f9,show (1:Int) > 0 by decide,if_true]
   by_cases h:i<0
   ·simp only [h,if_true]<;>omega
   ·simp only [h,if_false]<;>omega
theorem wJ (its:List a8) (lo hi:Option Int):slicePick its.toArray lo hi none=((its.drop (HT.gY its.length 0 lo)).take (HT.gY its.length its.length hi-HT.gY its.length 0 lo)).toArray:=by
 obtain ⟨h1,h2,h3⟩:=yt lo hi its.toArray.size
 unfold slicePick
 rw [h1,h2,h3]
 simp only [sliceRange_one,pick_run,aA]<;>rfl
def S1 (K:a6):V->Option Int->Option Int->Hp->VK->Prop:=fun x lo hi H Q=>∃ a xs,x=.ref a/\jI K H a xs/\∀ p,H p=none->Q (.ref p) (upd H p (.lst (z_ xs lo hi)))
theorem KI:Pw X (S1 X.K):=by
 intro pins s σ H x v vl vu lo hi sl Q I rx hs pl pu h
 obtain ⟨a,xs,rfl,hx,q⟩:=h
 cases rx
 obtain ⟨its,r,ht,hz⟩:=I.list hx
 have hlen:=r.length
 refine ⟨"list",_,slot_list_getitem.lookup,ht.isList.typeIs,?_⟩
 refine wpAny_getItem_list_slice ht.isList hs pl pu .none (by simp) ?_ (by rw [aA]<;>omega)
 rw [wJ,<- hlen]
 refine ⟨.ref s.heap.objs.size,_,I.laid (t':=s.toks) (o:=.lst (z_ xs lo hi)) (fun b ob q=>a7 _ q) (al _) ?_,rfl,q _ (I.hok.fresh (al _))⟩
 exact ⟨bv (tU xs lo hi) hz,_,0,(r.drop (HT.gY xs.length 0 lo)).take (HT.gY xs.length xs.length hi-HT.gY xs.length 0 lo),aj _ rfl⟩
def og:V->Bool
 |.non=>true
 |.bl _=>true
 |.int _=>true
 |.str _=>true
 |_=>false
def KJ:V->V->Bool
 |.non,.non=>true
 |.bl a,.bl b=>a==b
 |.bl a,.int b=>(if a then 1 else 0)==b
 |.int a,.bl b=>a==(if b then 1 else 0)
 |.int a,.int b=>a==b
 |.str a,.str b=>a==b
 |_,_=>false
theorem Oa {A:aZ}{s:aa}{y x:V}{u v:a8} (ry:cD y u) (rx:cD x v) (fy:og y=true) (fx:og x=true):Em A s u v (KJ y x):=by
 cases y with
 |non =>
  cases ry
  cases x with
  |non=>cases rx;exact SeqAt.EqAt.same _
  |bl b=>cases rx;exact SeqAt.EqAt.none_bool b
  |int b=>obtain ⟨t,rfl⟩:=rx;exact SeqAt.EqAt.none_int b t
  |str b=>obtain ⟨t,rfl⟩:=rx;exact SeqAt.EqAt.none_str b t
  |_=>exact absurd (show false=true from fx) aU
 |bl a =>
  cases ry
  cases x with
  |non=>cases rx;exact SeqAt.EqAt.bool_none a
  |bl b=>cases rx;exact xh a b
  |int b=>obtain ⟨t,rfl⟩:=rx;exact SeqAt.EqAt.bool_int a b t
  |str b=>obtain ⟨t,rfl⟩:=rx;exact SeqAt.EqAt.bool_str a b t
  |_=>exact absurd (show false=true from fx) aU
 |int a =>
  obtain ⟨t',rfl⟩:=ry
  cases x with
  |non=>cases rx;exact SeqAt.EqAt.int_none a t'
  |bl b=>cases rx;exact SeqAt.EqAt.int_bool a t' b
  |int b=>obtain ⟨t,rfl⟩:=rx;exact SeqAt.EqAt.int_int a t' b t
  |str b=>obtain ⟨t,rfl⟩:=rx;exact zF a t' b t
  |_=>exact absurd (show false=true from fx) aU
 |str a =>
  obtain ⟨t',rfl⟩:=ry
  cases x with
  |non=>cases rx;exact SeqAt.EqAt.str_none a t'
  |bl b=>cases rx;exact SeqAt.EqAt.str_bool a t' b
  |int b=>obtain ⟨t,rfl⟩:=rx;exact zG a t' b t
  |str b=>obtain ⟨t,rfl⟩:=rx;exact SeqAt.EqAt.str_str a t' b t
  |_=>exact absurd (show false=true from fx) aU
 |_=>exact absurd (show false=true from fy) aU
def BV (x:V) (u:a8):Bool:=match u with
 |.none=>KJ .non x
 |.bool b=>KJ (.bl b) x
 |.int i _=>KJ (.int i) x
 |.str z _=>KJ (.str z) x
 |_=>false
theorem GO {x y:V}{u:a8} (r:cD y u) (f:og y=true):BV x u=KJ y x:=by
 cases y with
 |non=>cases r;rfl
 |bl b=>cases r;rfl
 |int i=>obtain ⟨t,rfl⟩:=r;rfl
 |str z=>obtain ⟨t,rfl⟩:=r;rfl
 |_=>exact absurd (show false=true from f) aU
theorem rj {x:V}:∀ {xs:List V}{us:List a8},cF xs us->xs.all og=true->us.any (BV x)=xs.any fun y=>KJ y x
 |_,_,.nil,_=>rfl
 |y::xs,u::us,.cons r t,f=>by
  rw [qX,aC] at f
  rw [eu,eu,GO r f.1,rj t f.2]
theorem oh {A:aZ}{s:aa}{x:V}{v:a8} (rx:cD x v) (fx:og x=true):∀ {xs:List V}{us:List a8},cF xs us->xs.all og=true->∀ u∈us,Em A s u v (BV x u)
 |_,_,.nil,_=>fun u hu=>by cases hu
 |y::xs,u::us,.cons r t,f=>fun u' hu=>by
  rw [qX,aC] at f
  rcases List.mem_cons.mp hu with rfl|hu
  ·rw [GO r f.1];exact Oa r rx f.1 fx
  ·exact oh rx fx t f.2 u' hu
def Rg (x:V) (xs:List V):Bool:=xs.any fun y=>KJ y x
inductive PB (K:a6) (neg:Bool) (x:V) (y:V) (H:Hp) (Q:VK):Prop
 |mk (p xs:_) (h0:y=.ref p) (h1:(jI K H p xs\/ic K H p xs)) (h2:og x=true) (h3:xs.all og=true) (h4:Q (.bl (if neg then !Rg x xs else Rg x xs)) H):PB K neg x y H Q
def S2 (K:a6) (neg:Bool):R2:=PB K neg
theorem EG:oZ X (bG .In) (S2 X.K false):=by
 intro pins s σ H x y v u Q I rx ry h
 obtain ⟨p,xs,rfl,hq,fx,fs,q⟩:=h
 cases ry
 rcases hq with hq|hq
 ·obtain ⟨its,r,pl,hz⟩:=I.list hq
  refine SeqAt.in_listAt (BV x) pl.isList (fun w hw=>oh rx fx r fs w (by simpa using hw)) ⟨.bl _,H,I,rfl,?_⟩
  rw [show its.toArray.any (BV x)=its.any (BV x) by simp,rj r fs]
  exact q
 ·obtain ⟨its,r,pl,hz⟩:=I.tuple hq
  refine SeqAt.in_tupleAt (BV x) pl (fun w hw=>oh rx fx r fs w (by simpa using hw)) ⟨.bl _,H,I,rfl,?_⟩
  rw [show its.toArray.any (BV x)=its.any (BV x) by simp,rj r fs]
  exact q
theorem yu:oZ X (bG .NotIn) (S2 X.K true):=by
 intro pins s σ H x y v u Q I rx ry h
 obtain ⟨p,xs,rfl,hq,fx,fs,q⟩:=h
 cases ry
 rcases hq with hq|hq
 ·obtain ⟨its,r,pl,hz⟩:=I.list hq
  refine SeqAt.notIn_listAt (BV x) pl.isList (fun w hw=>oh rx fx r fs w (by simpa using hw)) ⟨.bl _,H,I,rfl,?_⟩
  rw [show its.toArray.any (BV x)=its.any (BV x) by simp,rj r fs]
  exact q
 ·obtain ⟨its,r,pl,hz⟩:=I.tuple hq
  refine SeqAt.notIn_tupleAt (BV x) pl (fun w hw=>oh rx fx r fs w (by simpa using hw)) ⟨.bl _,H,I,rfl,?_⟩
  rw [show its.toArray.any (BV x)=its.any (BV x) by simp,rj r fs]
  exact q
theorem rl:j0 X (.builtin "len") (fun xs H Q=>∃ p ys,xs=[.ref p]/\(jI X.K H p ys\/ic X.K H p ys)/\Q (.int ys.length) H):=by
 intro pins s σ H xs us Q I r h
 obtain ⟨p,ys,rfl,hq,q⟩:=h
 obtain ⟨u,rfl,rx⟩:=l7 r
 cases rx
 have hn:=sR
 rcases hq with hq|hq
 ·obtain ⟨its,r',pl,hz⟩:=I.list hq
  have hlen:=r'.length
  exact Calls.call_len_list pl.isList (by simp only [aA]<;>omega) ⟨.int ys.length,H,I.tok _,⟨s.toks+1,by rw [aA,hlen]⟩,q⟩
 ·obtain ⟨its,r',pl,hz⟩:=I.tuple hq
  have hlen:=r'.length
  exact len_tuple pl (by simp only [aA]<;>omega) ⟨.int ys.length,H,I.tok _,⟨s.toks+1,by rw [aA,hlen]⟩,q⟩
theorem yv:j0 X (.builtin "len") (fun xs H Q=>∃ z,xs=[.str z]/\z.length<=sizeLine/\Q (.int z.length) H):=by
 intro pins s σ H xs us Q I r h
 obtain ⟨z,rfl,hz,q⟩:=h
 obtain ⟨u,rfl,t,rfl⟩:=l7 r
 have hn:=sR
 exact len_str (by omega) ⟨.int z.length,H,I.tok _,⟨_,rfl⟩,q⟩
theorem rm:j0 X (.type "list") (fun xs H Q=>∃ p ys,xs=[.ref p]/\(jI X.K H p ys\/ic X.K H p ys)/\∀ l,H l=none->Q (.ref l) (upd H l (.lst ys))):=by
 intro pins s σ H xs us Q I r h
 obtain ⟨p,ys,rfl,hq,q⟩:=h
 obtain ⟨u,rfl,rx⟩:=l7 r
 cases rx
 have fin:∀ (its:List a8),cF ys its->ys.length<=sizeLine->∀ (h':ba) (c':Nat),(∀ b o',s.heap.get? b=some o'->h'.get? b=some o') ->
   h'.get? s.heap.objs.size=some { cls:=.type "list",dict:=none,data:=.seq its.toArray c',slots:=#[] }->EP X pins σ Q (.ref s.heap.objs.size) { s with heap:=h' }:=fun its r' hz h' c' kp e =>
  ⟨.ref s.heap.objs.size,_,I.laid (t':=s.toks) kp (al _) (show cH X.prog X.w _ h' _ (.lst ys) from ⟨hz,its,c',r',e⟩),rfl,q _ (I.hok.fresh (al _))⟩
 rcases hq with hq|hq
 ·obtain ⟨its,r',pl,hz⟩:=I.list hq
  have hlen:=r'.length
  obtain ⟨o,ho,hc,n,hd⟩:=pl.isList
  exact call_list_seq p (.inl rfl) ho hc hd (fun h' c' kp e=>fin its r' hz h' c' kp e) (by simp only [aA]<;>omega)
 ·obtain ⟨its,r',pl,hz⟩:=I.tuple hq
  have hlen:=r'.length
  obtain ⟨o,ho,hc,n,hd⟩:=pl
  exact call_list_seq p (.inr rfl) ho hc hd (fun h' c' kp e=>fin its r' hz h' c' kp e) (by simp only [aA]<;>omega)
theorem qd:j0 X (.type "tuple") (fun xs H Q=>∃ p ys,xs=[.ref p]/\((jI X.K H p ys/\∀ l,H l=none->Q (.ref l) (upd H l (.tup ys)))\/(ic X.K H p ys/\Q (.ref p) H))):=by
 intro pins s σ H xs us Q I r h
 obtain ⟨p,ys,rfl,h⟩:=h
 obtain ⟨u,rfl,rx⟩:=l7 r
 cases rx
 rcases h with ⟨hq,q⟩|⟨hq,q⟩
 ·obtain ⟨its,r',pl,hz⟩:=I.list hq
  have hlen:=r'.length
  refine call_tuple_list pl.isList (fun h' kp=>?_) (by simp only [aA]<;>omega)
  have I1:bj X pins σ H { s with heap:=h' }:=I.kept (t':=s.toks) kp
  have I2:bj X pins σ (upd H h'.objs.size (.tup ys)) { s with heap:=h'.push { cls:=.type "tuple",data:=.seq its.toArray } } :=
   I1.laid (t':=s.toks) (fun b o e=>a7 _ e) (al _) (show cH X.prog X.w _ _ _ (.tup ys) from ⟨hz,its,r',zI _ _⟩)
  exact ⟨.ref h'.objs.size,_,I2,rfl,q _ (I1.hok.fresh (al _))⟩
 ·obtain ⟨its,r',pl,hz⟩:=I.tuple hq
  exact call_tuple_same pl ⟨.ref p,H,I,rfl,q⟩
def Sz (K:a6) (T:String) (x:V) (H:Hp):Prop:=match x with
 |.str _=>T="str"
 |.int _=>T="int"
 |.ref p=>(T="list"/\∃ xs,jI K H p xs)\/(T="tuple"/\∃ o,K.lookup p=some o/\o.cls=.type "tuple"/\o.dict=none) \/
   (T="dict"/\((∃ kvs,H p=some (.dK kvs))\/∃ kvs,H p=some (.dT kvs)))\/(T="set"/\∃ S n,H p=some (.set S n))
 |_=>False
theorem Ob {pins:List (ac×Obj)}{σ:St}{H:Hp}{s:aa}{T:String}{x:V}{v:a8} (I:bj X pins σ H s) (r:cD x v) (ty:Sz X.K T x H) :
  s.TypeIs v T/\∀ a,v=.ref a->∃ ob,s.heap.get? a=some ob/\ob.dict=none:=by
 cases x with
 |str z =>
  obtain ⟨t,rfl⟩:=r
  cases (show T="str" from ty)
  exact ⟨mB s z t,fun _ e=>nomatch e⟩
 |int i =>
  obtain ⟨t,rfl⟩:=r
  cases (show T="int" from ty)
  exact ⟨typeIs_int s i t,fun _ e=>nomatch e⟩
 |ref p =>
  cases r
  rcases ty with ⟨rfl,xs,hq⟩|⟨rfl,o,hk,hc,hd⟩|⟨rfl,hk⟩|⟨rfl,S,n,hk⟩
  ·obtain ⟨its,_,pl,_⟩:=I.list hq
   refine ⟨pl.isList.typeIs,fun a e=>?_⟩
   cases e
   obtain ⟨o,n,e,c,hd,_⟩:=pl
   exact ⟨o,e,hd⟩
  ·refine ⟨⟨o,I.kIn p o hk,hc⟩,fun a e=>?_⟩
   cases e
   exact ⟨o,I.kIn _ o hk,hd⟩
  ·have z:∃ o,s.heap.get? p=some o/\o.ExactDict:=by
    rcases hk with ⟨kvs,hk⟩|⟨kvs,hk⟩
    ·obtain ⟨_,_,_,_,o,_,_,e,ex,_⟩:=I.hok p _ hk
     exact ⟨o,e,ex⟩
    ·obtain ⟨_,_,_,_,o,_,_,e,ex,_⟩:=I.hok p _ hk
     exact ⟨o,e,ex⟩
   obtain ⟨o,e,ex⟩:=z
   refine ⟨⟨o,e,ex.1⟩,fun a e2=>?_⟩
   cases e2
   exact ⟨o,e,ex.2.1⟩
  ·obtain ⟨o,_,_,_,e,ex,_⟩:=I.hok p _ hk
   refine ⟨⟨o,e,ex.1⟩,fun a e2=>?_⟩
   cases e2
   exact ⟨o,e,ex.2.1⟩
 |_=>exact dv ty
def Tb (K:a6) (T:String) (r:V->List V->Hp->VK->Prop) (to:TE) (t:TA):TE:=fun σ H Q=>to σ H fun x H1=>Sz K T x H1/\t σ H1 fun xs H2=>r x xs H2 Q
variable {o e:aP}{es:List aP}{to:TE}{t:TA}{name:Str}{apos cpos:Pos}{T id:String}{r:V->List V->Hp->VK->Prop}
theorem xA (pa:PlainAttrs T) (slot:Slot T name id) (hty:typeOf (.builtin id)=pure (.type "method_descriptor")) (hm:RZ X id r) (ho:PE X o to) (ha:PA X (e::es) t)
  (hbase:fo o name X.env (bU o X.env)=bU o X.env:=by rfl)
  (hfew:((fK cpos (aq (e::es) X.env)).all (fun x=>!x.1)&&(backToKw cpos (K8 [] X.env)).all (fun x=>x.1.isSome)
   && decide ((e::es).length+([] : List wv).length+(if ([] : List wv).isEmpty then 0 else 1)<30))=true:=by rfl)
  (hline:(apos.endLine==cpos.line)=true:=by rfl) (hs:aq (e::es) X.env=(false,bU e X.env)::aq es X.env:=by rfl) (hplain:(fK cpos (aq es X.env)).any (·.1)=false:=by rfl) :
  PE X (.Call (.Attribute o name apos) (e::es) [] cpos) (Tb X.K T r to t):=by
 intro pins s σ H Q I h
 refine wpAny_Call_method_late hbase hfew hline rfl (eK (ho pins s σ H _ I h) fun v s1 ⟨x,H1,I1,r1,ty,q1⟩=>?_)
 obtain ⟨h1,h2⟩:=Ob I1 r1 ty
 refine ⟨T,id,pa,slot,hty,h1,h2,?_⟩
 have hA:=ha cpos pins s1 σ H1 _ I1 q1
 rw [hs] at hA ⊢
 refine Calls.callWith_builtin (by show (false||(fK cpos (aq es X.env)).any (·.1))=false;rw [hplain]<;>rfl) (Bw ?_)
 exact eK hA fun us s2 h_30=>by obtain ⟨vs,H2,I2,r2,q2⟩:=h_30;exact hm pins s2 σ H2 x vs v us Q I2 r1 r2 q2
end
end L2
namespace L2
open PySem PySem.Spec PyProof.Rows
def SA (X:Cx) (id:String) (r:V->List V->Hp->VK->Prop):Prop :=
 ∀ (pins:List (ac×Obj)) (s:aa) (σ:St) (H:Hp) (x:V) (xs:List V) (v:a8) (us:List a8) (Q:VK),bj X pins σ H s->cD x v->cF xs us->r x xs H Q ->
  ak (az X.prog X.w) X.A (call (.builtin id) (v::us)) (EP X pins σ Q) X.xe s
theorem cF.one {x:V}{us:List a8} (h:cF [x] us):∃ u,us=[u]/\cD x u:=by
 cases h with|cons r t=>cases t;exact ⟨_,rfl,r⟩
section
variable {X:Cx}{pins:List (ac×Obj)}{σ:St}{H:Hp}{s:aa}{l b:ac}{xs ys zs:List V}
theorem bj.lset {its its':List a8}{n:Nat}{f:Array a8->Array a8}{t':Nat} (I:bj X pins σ H s) (hH:H l=some (.lst xs))
  (e:s.heap.get? l=some { cls:=.type "list",data:=.seq its.toArray n }) (hf:f its.toArray=its'.toArray) (hv:cF ys its') (hz:ys.length<=sizeLine) :
  bj X pins σ (upd H l (.lst ys)) { s with heap:=s.heap.update l (jC f),toks:=t' }:=by
 have q:=PySem.IsL.update e f
 rw [hf] at q
 refine I.write (x:=l) (e:=l) (by rw [hH];exact trivial) (.inl rfl) (fun b' u hb hu=>(nO s.heap (jC f) (e6 hb)).trans hu) ⟨_,q⟩ ?_
 exact ⟨hz,its',_,hv,q⟩
theorem bj.lnew {its:List a8}{t':Nat} (I:bj X pins σ H s) (hv:cF ys its) (hz:ys.length<=sizeLine) :
  bj X pins σ (upd H s.heap.objs.size (.lst ys)) { s with heap:=s.heap.push { cls:=.type "list",data:=.seq its.toArray },toks:=t' } :=
 I.laid (fun _ _ q=>a7 _ q) (al _) ⟨hz,its,0,hv,aj _ rfl⟩
theorem bj.fresh (I:bj X pins σ H s):H s.heap.objs.size=none:=I.hok.fresh (al _)
theorem bj.lstM (I:bj X pins σ H s) (hH:H l=some (.lst xs)):Sx s.heap l xs:=by
 obtain ⟨z,its,n,r,e⟩:=I.hok l _ hH
 exact ⟨z,its,n,r,r.length,e⟩
theorem GP {n:Nat} (h:n<=sizeLine):jW n=false:=by
 unfold jW
 exact decide_eq_false (by omega)
end
section
variable {X:Cx}
inductive A1 (x:V) (vs:List V) (H:Hp) (Q:VK):Prop
 |mk (l xs y:_) (h0:x=.ref l) (h1:vs=[y]) (h2:H l=some (.lst xs)) (h3:xs.length<sizeLine) (h4:Q .non (upd H l (.lst (xs++[y])))):A1  x vs H Q
def KL:V->List V->Hp->VK->Prop:=A1
theorem xB:SA X "list.append" KL:=by
 intro pins s σ H x vs v us Q I rx rv h
 obtain ⟨l,xs,y,rfl,rfl,hH,hz,q⟩:=h
 cases rx
 obtain ⟨u,rfl,ru⟩:=rv.one
 obtain ⟨z,its,n,r,hl,e⟩:=I.lstM hH
 refine ke F.slot_list_append ⟨_,e,rfl⟩ F.entry_list_append (F.args_list_append_2 _ _) (PySem.list_append l its.toArray n u (by rw [aA];omega)) ⟨e,?_⟩
 refine ⟨.non,_,I.lset (its':=its++[u]) hH e (by simp) (r.append (.cons ru .nil)) ?_,rfl,q⟩
 rw [aI,js]
 omega
inductive A2 (x:V) (vs:List V) (H:Hp) (Q:VK):Prop
 |mk (l b xs zs:_) (h0:x=.ref l) (h1:vs=[.ref b]) (h2:H l=some (.lst xs)) (h3:H b=some (.lst zs)) (h4:xs.length+zs.length<=sizeLine) (h5:Q .non (upd H l (.lst (xs++zs)))):A2  x vs H Q
def KM:V->List V->Hp->VK->Prop:=A2
theorem xC:SA X "list.extend" KM:=by
 intro pins s σ H x vs v us Q I rx rv h
 obtain ⟨l,b,xs,zs,rfl,rfl,hH,hB,hz,q⟩:=h
 cases rx
 obtain ⟨u,rfl,ru⟩:=rv.one
 cases ru
 obtain ⟨z,its,n,r,hl,e⟩:=I.lstM hH
 obtain ⟨z2,its2,n2,r2,hl2,e2⟩:=I.lstM hB
 have hsz:its.toArray.size+its2.toArray.size<=sizeLine:=by rw [aA,aA];omega
 have hlong:¬ (!its.toArray.isEmpty&&jW (its.toArray.size+its2.toArray.size))=true:=by
  rw [GP hsz,Bool.and_false]
  exact aU
 refine ke F.slot_list_extend ⟨_,e,rfl⟩ F.entry_list_extend (F.args_list_extend_2 _ _)
  (AutoSeq1.list_extend_list_list_0 l its.toArray n b its2.toArray n2 hlong (by rw [aA];omega) (by omega)) ⟨e,e2,?_⟩
 refine ⟨.non,_,I.lset (its':=its++its2) hH e (by simp) (r.append r2) ?_,rfl,q⟩
 rw [aI]
 omega
end
section
variable {prog:aH}{w:aY}{A:aZ}{E:a8->aa->Prop}{s:aa}
end
section
variable {X:Cx}
end
end L2
namespace Att
open PySem PySem.W PySem.Calls PyProof.Rows
theorem uo {P:Params}{h:ba}:∀ (ns:List Int) (vs:List a8),WellAll P h vs (ns.map WData.int)->Gh vs ns:=by
 intro ns
 induction ns with
 |nil =>
  intro vs w
  rw [dH] at w
  cases w
  exact .nil
 |cons n ns ih =>
  intro vs w
  rw [am] at w
  cases w with
  |cons a b =>
   cases a
   exact .cons _ _ (ih _ b)
theorem EH {l:OpenLaw}{n:Nat} (hn:l.most=some n) {P:Params}{h:ba}{args:List WData}{vals:List a8}
  (hpre:l.row.toRowW.claim.pre args=true) (hwl:WellAll P h vals args) :
  ∃ a vs ns,vals=[bL a]/\args=[WData.list (ns.map WData.int)]/\h.get? a=some { cls:=.type "list",data:=.seq vs.toArray }/\Gh vs ns/\ns.length<=n:=by
 have hsh:WShape.hasAll [] args [.list .int]=true:=(pre_splitW hpre).1
 have hc:l.pre.holds [] { args:=args }=true:=(pre_splitW hpre).2
 obtain ⟨d,r,rfl,h1,h2⟩:=hasAllW_cons hsh
 obtain rfl:=hasAllW_nil h2
 obtain ⟨xs,rfl,h3⟩:=hasW_list h1
 obtain ⟨ns,rfl⟩:=items_int h3
 have hlen:ns.length<=n:=by
  unfold OpenLaw.pre at hc
  have h4:(WTm.not (.lt (.lit (.int (n:Int))) (.len (.arg 0)))).holds [] { args:=[.list (ns.map .int)] }=true:=by
   have h4:=(holds_andW hc).1
   rw [hn] at h4
   exact h4
  have h5:=condW_of h4 (w_not (w_lt w_lit (w_len_list (w_arg rfl))))
  rw [au] at h5
  refine K9 fun q=>?_
  have q':(n:Int)<((ns.length:Nat):Int):=by omega
  first
   |(rw [decide_eq_true q'] at h5;exact absurd h5 (by decide))
   |(simp at h5;omega)
 cases hwl with
 |cons w1 w2 =>
  cases w2
  cases w1 with
  |list ho hall=>exact ⟨_,_,ns,rfl,rfl,ho,uo ns _ hall,hlen⟩
theorem EI (l:OpenLaw) (args:List WData):l.row.toRowW.claim.post args (.bool true) args=true :=
 postW_of (r:=l.row.toRowW) (X:=(true==true))
  (show WShape.has [] (.bool true) .bool=true by first|rfl|decide|simp [WShape.has,WShape.arms,WShape.armsAll])
  (show (WTm.eq .res (.lit (.bool true))).value [] { args:=args,res:=some (.bool true),after:=args }=some (.bool (true==true)) from w_eq_bool (w_res rfl) w_lit) rfl
theorem attach_call {l:OpenLaw}{n:Nat}{q:aH}{loose:List Str}{XP:(Str->Option a8)->ba->Prop}{YP:aY->ba->Prop}{d:DefRec}
  (hn:l.most=some n) (hdf:d.params.defaults=[])
  (call:∀ (w:aY) (s₀ s₁:aa) (mg mb:Str->Option a8) (fa:ac) (o:Obj) (pm cd doc:a8) (a:ac) (vs:List a8) (ns:List Int),
   Ground q loose [] XP w s₀ mg mb s₁.heap->YP w s₁.heap ->
   s₁.heap.get? fa=some o->o.data=.func (docDef d.name d.params d.body d.scope pm cd doc)->s₁.heap.CodeRec cd d.name->mg d.name=some (.ref fa) ->
   s₁.heap.get? a=some { cls:=.type "list",data:=.seq vs.toArray }->Gh vs ns->ns.length<=n->s₁.gens=#[] ->
   gx (az l.prog w) tO (.call (.ref fa) ⟨[.ref a],[]⟩) (fun r s'=>r=.ok (.ret (.bool true))/\OldK s₁.heap s'.heap/\s'.os=s₁.os/\nM s'.gens) s₁) :
  WalkO q loose XP YP l.row.toRowW d [] (fun f vs=>Eo f vs):=by
 intro w s₀ s₁ mg mb G Y fa o pm cd doc dV kV ho hd hcd hD hmg hg args vals as hpre hlay hrd hwl hlo
 obtain rfl:dV=.none:=Dflts.none hD hdf
 obtain rfl:kV=.none:=Dflts.noKw hD
 obtain ⟨a,vs,ns,rfl,rfl,hobj,hints,hlen⟩:=EH hn hpre hwl
 refine enter_call (lO (call w s₀ s₁ mg mb fa o pm cd doc a vs ns G Y ho (fd_plain hd) hcd hmg hobj hints hlen hg) fun r s' hq=>?_)
 obtain ⟨rfl,h2,h3,h4⟩:=hq
 exact ⟨.inl ⟨.bool true,.bool true,[],rfl,fun _=>rfl,.bool true,EI l _,fun _=>⟨xi,fun _ hm=>(nomatch hm)⟩⟩,h2,h3,h4⟩
section
variable {prog:aH}{w:aY}{A:aZ}{E:a8->aa->Prop}{s:aa}{K:Frag}
def S3 (h:ba) (L d:ac):List (ac×Obj):=(bW h.objs.size).filterMap fun a=>if a=L\/a=d then none else (h.get? a).map fun o=>(a,o)
end
end Att
namespace L2
open PySem PySem.Spec PyProof.Rows
theorem EJ {vs:List a8}{ns:List Int} (h:Gh vs ns):cF (ns.map V.int) vs:=by
 induction h with
 |nil=>exact .nil
 |cons n t h ih=>exact .cons ⟨t,rfl⟩ ih
def Oc (H:Hp):Prop:=∀ b,H b=none\/∃ o xs,H b=some (.frz o (.lst xs))
theorem GQ {P:aH}{w:aY}{K:a6}{mg mb:Str->Option a8}{CX:Dc}{k:Nat}{fa a:ac}{fd:db}{x:Str}{sp:Sp}{s₁:aa}{vs:List a8}{ns:List Int}
  (KX:K.In s₁.heap) (hns:s₁.heap.Ns aW mg) (hb:s₁.heap.Ns builtinsNs mb) (hbb:∀ x:Str,x≠"__name__"->mb x=gq x) (hlim:s₁.heap.NoLimit) (hg:s₁.gens=#[])
  (ha:s₁.heap.get? a=some { cls:=.type "list",data:=.seq vs.toArray }) (hi:Gh vs ns) (hl:ns.length<=sizeLine) (hr:j9 k tO)
  (F:∀ base:ba,K.In base->base.Ns aW mg->pU P w K mg base CX k fa fd [x] sp) (hbind:∀ (s:aa) (u:a8),tN s fd ⟨[u],[]⟩ [(x,u)])
  (hsp:∀ H:Hp,Oc H->jI K H a (ns.map V.int)->sp [.ref a] H (fun v _=>v=.bl true) fun _ _ _=>False)
  (hCX:∀ H e s',CX [] H s₁ (fun _ _ _=>False) e s'->False) :
  gx (az P w) tO (.call (.ref fa) ⟨[.ref a],[]⟩) (fun r s'=>r=.ok (.ret (.bool true))/\OldK s₁.heap s'.heap/\s'.os=s₁.os/\nM s'.gens) s₁:=by
 have rv:=EJ hi
 have lenV:=hi.length
 have core:∀ H:Hp,Oc H->jI K H a (ns.map V.int)->nW P w H s₁.heap->(∀ b,H b≠none->b=a)->(H a≠none->K.lookup a=none) ->
   gx (az P w) tO (.call (.ref fa) ⟨[.ref a],[]⟩) (fun r s'=>r=.ok (.ret (.bool true))/\OldK s₁.heap s'.heap/\s'.os=s₁.os/\nM s'.gens) s₁:=by
  intro H hO hS hok hA hK
  have base_of:∀ {b:ac}{o:Obj},s₁.heap.get? b=some o->H b=none->(ym s₁.heap H).get? b=some o:=fun e n=>Gs e n
  have noA:∀ {b:ac}{o:Obj}{es:Array DictEntry}{ep:Nat},s₁.heap.get? b=some o->o.data=.dict es ep->H b=none:=fun {b o es ep} e d=>by
   cases q:H b with
   |none=>rfl
   |some u =>
    have e':b=a:=hA b (by rw [q];simp)
    subst e'
    rw [ha] at e;cases e
    have d':Data.seq vs.toArray _=Data.dict es ep:=d
    cases d'
  have nsK:∀ {b:ac}{m:Str->Option a8},s₁.heap.Ns b m->(ym s₁.heap H).Ns b m:=fun {b m} ⟨o,es,ep,e,d,r⟩=>⟨o,es,ep,base_of e (noA e d),d,r⟩
  have hKb:K.In (ym s₁.heap H):=fun b o e=>base_of (KX b o e) (by
   cases q:H b with
   |none=>rfl
   |some u =>
    have e':b=a:=hA b (by rw [q];simp)
    subst e'
    rw [hK (by rw [q];simp)] at e;cases e)
  have hM:Mod K mg (ym s₁.heap H):=⟨hKb,nsK hns,⟨mb,nsK hb,hbb⟩,let ⟨mc,h1,h2⟩:=hlim;⟨mc,nsK h1,h2⟩⟩
  have e0:BR P w K mg (ym s₁.heap H) tO [] s₁ H:=⟨rfl,hM,fun b o e=>Kn e,Nat.le_of_eq (EA _ _),trivial,fun b hb=>absurd (show b∈([] : List ac) from hb) (by simp),hok,.of_eq hg⟩
  refine lO ((F _ hKb (nsK hns)).run tO [] s₁ H ⟨[.ref a],[]⟩ [.ref a] [.ref a] _ _ hr e0 (hbind s₁ (.ref a)) (.cons rfl .nil) (hsp H hO hS)) fun r s' h=>?_
  cases r with
  |error e=>exact (hCX H e s' h).elim
  |ok fl =>
   cases fl with
   |next=>exact dv h
   |brk=>exact dv h
   |cont=>exact dv h
   |ret u =>
    obtain ⟨v,H',os,bare,un,hok',r',q⟩:=h
    have q':v=.bl true:=q
    subst q'
    obtain rfl:u=gN true:=r'
    refine ⟨rfl,OldK.of_keep fun b o e=>?_,os,bare⟩
    cases q:H b with
    |none=>exact un.keep b o e q (by intro z;exact absurd (show b∈([] : List ac) from z) (by simp)) (by simp)
    |some u =>
     rcases hO b with z|⟨ob,xs,z⟩
     ·rw [q] at z;cases z
     ·have z2:=un.frzs b ob _ z
      obtain ⟨e1,_⟩:=hok b _ z
      obtain ⟨e2,_⟩:=hok' b _ z2
      rw [e] at e1;cases e1
      exact e2
 cases hk:K.lookup a with
 |some o =>
  have e:=KX a o hk
  rw [ha] at e
  cases e
  refine core (fun _=>none) (fun _=>.inl rfl) (.inr ⟨_,vs.toArray,_,hk,rfl,rfl,rfl,by rw [aA,lenV];exact hl,by simpa using rv⟩) (fun b u z=>by have z':(none:Option HO)=some u:=z;cases z') (fun b z=>absurd rfl z) fun z=>absurd rfl z
 |none =>
  refine core (fun b=>if b=a then some (.frz { cls:=.type "list",data:=.seq vs.toArray } (.lst (ns.map V.int))) else none) (fun b=>?_) (.inl (.inr ⟨{ cls:=.type "list",data:=.seq vs.toArray },if_pos rfl⟩)) (fun b u z=>?_) (fun b z=>?_) fun _=>hk
  ·by_cases hb:b=a
   ·exact .inr ⟨_,_,if_pos hb⟩
   ·exact .inl (if_neg hb)
  ·by_cases hb:b=a
   ·have z':=(if_pos hb).symm.trans z
    cases z'
    subst hb
    exact ⟨ha,by rw [au];exact hl,vs,_,rv,ha⟩
   ·have z':=(if_neg hb).symm.trans z
    cases z'
  ·by_cases hb:b=a
   ·exact hb
   ·exact absurd (if_neg hb) z
end L2
namespace L2
open PySem PySem.Spec PyProof.Rows
abbrev To {K:a6}{h:ba} (_:K.In h):a6:=K
theorem KN {l:uk}{n k:Nat}{q:aH}{loose:List Str}{XP:(Str->Option a8)->ba->Prop}{YP:aY->ba->Prop}{d:DefRec}{K:Params->a6}{CX:aY->Dc}{sp:aY->Sp}{x:Str}
  (hn:l.most=some n) (hn2:n<=sizeLine) (hdf:d.params.defaults=[]) (hr:j9 k tO)
  (hY:∀ (w:aY) (h:ba),YP w h->(K w.params).In h)
  (F:∀ (w:aY) (mg:Str->Option a8) (fa:ac) (h:ba),(K w.params).In h->h.Ns aW mg->mg d.name=some (.ref fa) ->
   ∃ fd:db,(∀ (s:aa) (u:a8),tN s fd ⟨[u],[]⟩ [(x,u)]) /\
    ∀ base:ba,(K w.params).In base->base.Ns aW mg->pU l.prog w (K w.params) mg base (CX w) k fa fd [x] (sp w))
  (hsp:∀ (w:aY) (H:Hp) (a:ac) (ns:List Int),ns.length<=n->Oc H->jI (K w.params) H a (ns.map V.int)->sp w [.ref a] H (fun v _=>v=.bl true) fun _ _ _=>False)
  (hCX:∀ (w:aY) (H:Hp) (s:aa) (e:a8) (s':aa),CX w [] H s (fun _ _ _=>False) e s'->False) :
  JV q loose XP YP l.row.toRowW d [] (fun f vs=>Eo f vs):=by
 refine Att.attach_call hn hdf fun w s₀ s₁ mg mb fa o pm cd doc a vs ns G Y ho hd hcd hmg hobj hints hlen hg=>?_
 have KX:=hY w _ Y
 obtain ⟨fd,hb,hF⟩:=F w mg fa _ KX G.T.g hmg
 exact GQ KX G.T.g G.T.b G.T.builtins G.T.nolimit hg hobj hints (bv hlen hn2) hr hF hb (fun H hO hS=>hsp w H a ns hlen hO hS) fun H e s'=>hCX w H s₁ e s'
end L2
namespace L2
open PySem PySem.Spec PyProof.Rows
def jl (s:du):Arguments:=match s with
 |.FunctionDef _ a _ _ _ _ _ _ _ _=>a
 |_=>{ posonlyargs:=[],args:=[],vararg:=none,kwonlyargs:=[],kw_defaults:=[],kwarg:=none,defaults:=[] }
def fB (s:du):List du:=match s with
 |.FunctionDef _ _ b _ _ _ _ _ _ _=>b
 |_=>[]
def aB (s:du):dW:=match s with
 |.FunctionDef _ _ _ _ _ _ sc _ _ _=>sc
 |_=>{ kind:=.function,names:=[],isGenerator:=false,isCoroutine:=false }
abbrev SB:Dc:=fun _ _ _ _ _ _=>False
abbrev E0:XK:=fun _ _ _=>False
structure Bf (K:a6) (x qual:Str) (st:du) (f:ac) (fd:db):Prop where
 ex:∃ (oc:a8) (od:Option ac) (kV doc pm:a8) (an:Option ac) (cdv ct:a8) (osl:Array (Option a8)),
  fd=dw x qual (jl st) (fB st) (aB st) .none kV doc pm an cdv ct/\K.lookup f=some ⟨oc,od,.func fd,osl⟩/\iI K cdv qual=true
 kp:cZ K (.ref f)=true
section
variable {P:aH}{w:aY}{K:a6}{mg:Str->Option a8}{base:ba}
theorem Bf.binds {x qual:Str}{st:du}{f:ac}{fd:db}{ps:List Str} (F:Bf K x qual st f fd)
  (h:∀ (kV doc pm:a8) (an:Option ac) (cdv ct:a8) (us:List a8),us.length=ps.length->K7 (dw x qual (jl st) (fB st) (aB st) .none kV doc pm an cdv ct) ⟨us,[]⟩=pure (ps.zip us)):j3 K fd ps []:=by
 obtain ⟨oc,od,kV,doc,pm,an,cdv,ct,osl,rfl,lk,hcd⟩:=F.ex
 exact .all (h kV doc pm an cdv ct)
theorem GR {x qual:Str}{st:du}{f:ac}{oc:a8}{od an:Option ac}{osl:Array (Option a8)}{kV doc pm cdv ct:a8} (l:K.lookup f=some ⟨oc,od,.func (dw x qual (jl st) (fB st) (aB st) .none kV doc pm an cdv ct),osl⟩)
  (c:iI K cdv qual=true) (k:cZ K (.ref f)=true):Bf K x qual st f (dw x qual (jl st) (fB st) (aB st) .none kV doc pm an cdv ct):=⟨⟨oc,od,kV,doc,pm,an,cdv,ct,osl,rfl,l,c⟩,k⟩
end
theorem oj {A:aZ}{k:Nat} (hr:j9 k A):A.units+1<pQ:=sC (Nat.add_le_add_left (by decide:1<=64) _) hr.units
theorem cq {n:Nat} (h:n<=1000):n<sizeLine:=sC h (by decide)
section
variable {X:Cx}
theorem pv (i:Nat) {x:Str}{pos:Pos} (hN:X.N[i]?=some x:=by rfl) (hv:Kp X.env.scope x:=by first|exact fF rfl|exact dX (fF rfl)|exact dX (dX rfl)) (hd:(x==("__debug__" : Str))=false:=by decide)
  (hcd:(x==("__classdict__" : Str))=false:=by decide):PE X (.Name x pos) (EB i):=o9 hN hv hd hcd
end
theorem wK {A B:Prop} (h:B):if false=true then A else B:=by
 rw [if_neg aU]
 exact h
theorem A3 {A B:Prop} (h:A):if true=true then A else B:=by
 rw [if_pos rfl]
 exact h
def cR (H H':Hp):Prop:=∀ b o,H b=some o->H' b=some o
theorem cR.refl (H:Hp):cR H H:=fun _ _ h=>h
theorem cR.trans {H H1 H2:Hp} (a:cR H H1) (b:cR H1 H2):cR H H2:=fun c o h=>b c o (a c o h)
theorem cR.free {H H':Hp} (e:cR H H') {l:ac} (h:H' l=Option.none):H l=Option.none:=by
 cases q:H l with
 |none=>rfl
 |some o =>
  rw [e l o q] at h
  cases h
theorem cR.seq {K:a6}{H H':Hp}{a:ac}{xs:List V} (e:cR H H') (h:jI K H a xs):jI K H' a xs:=by
 rcases h with (h|⟨o,h⟩)|h
 ·exact .inl (.inl (e _ _ h))
 ·exact .inl (.inr ⟨o,e _ _ h⟩)
 ·exact .inr h
end L2
end
section
namespace L2
open PySem PySem.Spec PyProof.Rows
section
variable {κ:Type} [DecidableEq κ]
def rn (kvs:List (κ×V)) (k:κ):Option V:=(kvs.find? fun kv=>decide (kv.1=k)).map (·.2)
def sU (kvs:List (κ×V)) (k:κ) (v:V):List (κ×V) :=
 if (kvs.any fun kv=>decide (kv.1=k))=true then kvs.map (fun kv=>if kv.1=k then (kv.1,v) else kv) else kvs++[(k,v)]
theorem v9 {p:κ×V}{r:List (κ×V)}{k:κ} (e:p.1=k):rn (p::r) k=some p.2:=by simp [rn,cU,e]
theorem vb {p:κ×V}{r:List (κ×V)}{k:κ} (e:¬ p.1=k):rn (p::r) k=rn r k:=by simp [rn,cU,e]
theorem A4 (k:κ):∀ kvs:List (κ×V),(kvs.any fun kv=>decide (kv.1=k))=(rn kvs k).isSome
 |[]=>rfl
 |p::r=>by
  rw [eu]
  by_cases e:p.1=k
  ·simp only [v9 e,decide_eq_true e,Bool.true_or,qR]
  ·rw [vb e,decide_eq_false e,qY];exact A4 k r
theorem tV (kvs:List (κ×V)) (k:κ) (v:V):(sU kvs k v).length<=kvs.length+1:=by
 unfold sU
 split
 ·rw [au];omega
 ·rw [aI,aD,eR];omega
theorem v3.isSome_eq {o:Option V}{u:Option a8} (r:v3 o u):o.isSome=u.isSome:=by
 cases o with
 |none=>cases u with
  |none=>rfl
  |some _=>exact (show False from r).elim
 |some _=>cases u with
  |none=>exact (show False from r).elim
  |some _=>rfl
theorem KV.val {kvs:List (κ×V)}{vs:List (κ×a8)} (r:KV kvs vs) (k:κ):v3 (rn kvs k) (wx vs k):=by
 unfold KV at r
 induction r with
 |nil=>exact iG
 | @cons p q ps qs h t ih =>
  obtain ⟨h1,h2⟩:=h
  by_cases e:p.1=k
  ·have e':q.1=k:=h1.symm.trans e
   have b:wx (q::qs) k=some q.2:=by simp [wx,cU,e']
   rw [v9 e,b];exact h2
  ·have e':¬ q.1=k:=fun z=>e (h1.trans z)
   have b:wx (q::qs) k=wx qs k:=by simp [wx,cU,e']
   rw [vb e,b];exact ih
theorem KV.any {kvs:List (κ×V)}{vs:List (κ×a8)} (r:KV kvs vs) (k:κ):(kvs.any fun kv=>decide (kv.1=k))=vs.any fun kv=>decide (kv.1=k):=by
 unfold KV at r
 induction r with
 |nil=>rfl
 |cons h t ih=>rw [eu,eu,ih,h.1]
theorem KV.repl {kvs:List (κ×V)}{vs:List (κ×a8)} (r:KV kvs vs) (k:κ) {y:V}{u:a8} (ry:cD y u) :
  KV (kvs.map fun kv=>if kv.1=k then (kv.1,y) else kv) (vs.map fun kv=>if kv.1=k then (kv.1,u) else kv):=by
 unfold KV at r ⊢
 induction r with
 |nil=>exact .nil
 | @cons p q ps qs h t ih =>
  rw [am,am]
  refine .cons ?_ ih
  obtain ⟨h1,h2⟩:=h
  by_cases e:p.1=k
  ·rw [if_pos e,if_pos (h1.symm.trans e)];exact ⟨h1,ry⟩
  ·rw [if_neg e,if_neg (fun z=>e (h1.trans z))];exact ⟨h1,h2⟩
theorem KV.put {kvs:List (κ×V)}{vs:List (κ×a8)} (r:KV kvs vs) (k:κ) {y:V}{u:a8} (ry:cD y u):KV (sU kvs k y) (stored vs k u):=by
 unfold sU stored
 rw [r.any k]
 by_cases e:(vs.any fun kv=>decide (kv.1=k))=true
 ·rw [if_pos e,if_pos e];exact r.repl k ry
 ·rw [if_neg e,if_neg e];exact Paired.snoc r ⟨rfl,ry⟩
theorem KV.length {kvs:List (κ×V)}{vs:List (κ×a8)} (r:KV kvs vs):kvs.length=vs.length:=lL r
end
theorem Dh {P:aH}{w:aY}{k:fz}{u:a8} (r:cD (kV k) u):(fA P w).is k u=true:=by
 cases k with
 |inl i=>obtain ⟨t,e⟩:=(show ∃ t,u=mr i t from r);subst e;exact zU P w i t
 |inr x=>obtain ⟨t,e⟩:=(show ∃ t,u=iF x t from r);subst e;exact zV P w x t
theorem xD {P:aH}{w:aY}:∀ {ks:List fz}{us:List a8},cF (ks.map kV) us->ItemsAre (fA P w) ks us
 |[],_,r=>by rw [dH] at r;cases r;exact .nil
 |k::ks,_,r=>by
  rw [am] at r
  cases r with
  |cons h t=>exact .cons (Dh h) (xD t)
abbrev KT (H:Hp):List (List fz×V)->List (List fz×ac×a8)->Prop:=Ge fun p q=>p.1=q.1/\H q.2.1=some (.tup (p.1.map kV))/\cD p.2 q.2.2
theorem KT.val {H:Hp}{kvs:List (List fz×V)}{xs:List (List fz×ac×a8)} (r:KT H kvs xs) (k:List fz):v3 (rn kvs k) ((Bx xs k).map (·.2)):=by
 induction r with
 |nil=>exact iG
 | @cons p q ps qs h t ih =>
  obtain ⟨h1,_,h2⟩:=h
  by_cases e:p.1=k
  ·have e':q.1=k:=h1.symm.trans e
   have b:Bx (q::qs) k=some q.2:=by simp [Bx,cU,e']
   rw [v9 e,b];exact h2
  ·have e':¬ q.1=k:=fun z=>e (h1.trans z)
   have b:Bx (q::qs) k=Bx qs k:=by simp [Bx,cU,e']
   rw [vb e,b];exact ih
theorem KT.repl {H:Hp}{kvs:List (List fz×V)}{xs:List (List fz×ac×a8)} (r:KT H kvs xs) (k:List fz) {y:V}{u:a8} (ry:cD y u) :
  KT H (kvs.map fun kv=>if kv.1=k then (kv.1,y) else kv) (xs.map (putAt k u)):=by
 induction r with
 |nil=>exact .nil
 | @cons p q ps qs h t ih =>
  rw [am,am]
  refine .cons ?_ ih
  obtain ⟨h1,h2,h3⟩:=h
  unfold putAt
  by_cases e:p.1=k
  ·rw [if_pos e,if_pos (h1.symm.trans e)];exact ⟨h1,h2,ry⟩
  ·rw [if_neg e,if_neg (fun z=>e (h1.trans z))];exact ⟨h1,h2,h3⟩
theorem KT.put {H:Hp}{kvs:List (List fz×V)}{xs:List (List fz×ac×a8)} (r:KT H kvs xs) (k:List fz) {b:ac}{y:V}{u:a8} (hb:H b=some (.tup (k.map kV))) (ry:cD y u) :
  KT H (sU kvs k y) (storedH xs k b u):=by
 have e:(kvs.any fun kv=>decide (kv.1=k))=(Bx xs k).isSome:=by
  rw [A4,(r.val k).isSome_eq,Ep]
 unfold sU storedH
 rw [e]
 by_cases q:(Bx xs k).isSome=true
 ·rw [if_pos q,if_pos q];exact r.repl k ry
 ·rw [if_neg q,if_neg q];exact Paired.snoc r ⟨rfl,hb,ry⟩
theorem KT.keeps {H H':Hp}{kvs:List (List fz×V)}{xs:List (List fz×ac×a8)} (r:KT H kvs xs) (ht:∀ b ys,H b=some (.tup ys)->H' b=some (.tup ys)):KT H' kvs xs :=
 Paired.mapP r fun _ _ z=>⟨z.1,ht _ _ z.2.1,z.2.2⟩
section
variable {P:aH}{w:aY}{H:Hp}{h:ba}{a:ac}
theorem Mx {u:HO} (ok:nW P w H h) (e:Rd H a u):cH P w H h a u:=e.ok ok
theorem Di {kvs:List (fz×V)} (ok:nW P w H h) (e:Rd H a (.dK kvs)):kvs.length<=sizeLine/\(a==gm)=false/\∃ vs,KV kvs vs/\h.DictOf (fA P w) a vs :=
 show cH P w H h a (.dK kvs) from Mx ok e
theorem PD {kvs:List (fz×V)} (ok:nW P w H h) (e:H a=some (.dK kvs)):kvs.length<=sizeLine/\(a==gm)=false/\∃ vs,KV kvs vs/\h.DictOf (fA P w) a vs:=Di ok (.inl e)
theorem yw {ks:List fz} (ok:nW P w H h) (e:H a=some (.tup (ks.map kV))):(yg (fA P w)).is h ks a:=by
 obtain ⟨_,its,r,o,h1,h2,n,h3⟩:=(show cH P w H h a (.tup (ks.map kV)) from ok a _ e)
 exact ⟨o,its.toArray,n,h1,h2,h3,by simpa using xD r⟩
theorem Dj {kvs:List (List fz×V)} (ok:nW P w H h) (e:Rd H a (.dT kvs)):kvs.length<=sizeLine/\(a==gm)=false /\
  ∃ xs,KT H kvs xs/\h.DictOfH (yg (fA P w)) a xs:=by
 obtain ⟨z,y,xs,r,o,es,ep,h1,h2,h3,h4,h5⟩:=(show cH P w H h a (.dT kvs) from Mx ok e)
 refine ⟨z,y,xs,r,o,es,ep,h1,h2,h3,h4,fun x hx=>?_,h5⟩
 have all:∀ {l:List (List fz×V)}{m:List (List fz×ac×a8)},KT H l m->∀ x∈m,(yg (fA P w)).is h x.1 x.2.1:=by
  intro l m q
  induction q with
  |nil=>intro x hx;exact nomatch hx
  | @cons p q ps qs hq t ih =>
   intro x hx
   rcases List.mem_cons.mp hx with e|hx
   ·subst e
    exact yw ok (by rw [<- hq.1];exact hq.2.1)
   ·exact ih x hx
 exact all r x hx
theorem PF {kvs:List (List fz×V)} (ok:nW P w H h) (e:H a=some (.dT kvs)):kvs.length<=sizeLine/\(a==gm)=false /\
  ∃ xs,KT H kvs xs/\h.DictOfH (yg (fA P w)) a xs:=Dj ok (.inl e)
end
def BW (H:Hp) (a:ac) (y:V) (r:Option V):Prop :=
 (∃ kvs k,Rd H a (.dK kvs)/\y=kV k/\r=rn kvs k)\/∃ kvs k b,Rd H a (.dT kvs)/\y=.ref b/\H b=some (.tup (k.map kV))/\r=rn kvs k
def GS (H:Hp) (a:ac) (y v:V) (H':Hp):Prop :=
 (∃ kvs k,H a=some (.dK kvs)/\y=kV k/\kvs.length<sizeLine/\H'=upd H a (.dK (sU kvs k v))) \/
 ∃ kvs k b,H a=some (.dT kvs)/\y=.ref b/\H b=some (.tup (k.map kV))/\kvs.length<sizeLine/\H'=upd H a (.dT (sU kvs k v))
theorem BW.k {H:Hp}{a:ac}{kvs:List (fz×V)}{k:fz} (e:H a=some (.dK kvs)):BW H a (kV k) (rn kvs k):=.inl ⟨kvs,k,.inl e,rfl,rfl⟩
theorem GS.k {H:Hp}{a:ac}{kvs:List (fz×V)}{k:fz}{v:V} (e:H a=some (.dK kvs)) (hl:kvs.length<sizeLine):GS H a (kV k) v (upd H a (.dK (sU kvs k v))):=.inl ⟨kvs,k,e,rfl,hl,rfl⟩
section
variable {X:Cx}{pins:List (ac×Obj)}{σ:St}{H:Hp}{s:aa}{a:ac}{y v:V}{u r:a8}{o:Option V}{A:aZ}{E:a8->aa->Prop}
theorem bj.big (I:bj X pins σ H s):gm<s.heap.objs.size:=by
 have h:aW<s.heap.objs.size:=(I.mod.glob.keeps I.bk).lt
 exact Nat.lt_trans (by decide) h
theorem EK {Q:a8->aa->Prop} (hu:A.units+1<pQ) (I:bj X pins σ H s) (g:BW H a y (some v)) (ry:cD y u) (h:∀ w' s',bj X pins σ H s'->cD v w'->Q w' s') :
  ak (az X.prog X.w) A (nN (.ref a) u) Q E s:=by
 rcases g with ⟨kvs,k,e,ey,l⟩|⟨kvs,k,b,e,ey,eb,l⟩
 ·subst ey
  obtain ⟨z,hd,vs,rel,dd⟩:=Di I.hok e
  obtain ⟨w',hw,rw'⟩:=v3.some_of (v:=v) (o:=wx vs k) (by rw [l];exact rel.val k)
  exact wpAny_getItem_of (Dh ry) dd.mapOf hw (h w' _ (I.tok _) rw')
 ·subst ey
  cases (show u=bL b from ry)
  obtain ⟨z,hd,xs,rel,dd⟩:=Dj I.hok e
  obtain ⟨w',hw,rw'⟩:=v3.some_of (v:=v) (o:=(Bx xs k).map (·.2)) (by rw [l];exact rel.val k)
  obtain ⟨p,hp,hp2⟩:=Option.map_eq_some_iff.mp hw
  refine wpAny_getItem_heap (uU hu) (yw I.hok eb) dd hp ?_
  rw [hp2]
  exact h w' _ (I.tok _) rw'
theorem d_in {Q:a8->aa->Prop} (hu:A.units+1<pQ) (I:bj X pins σ H s) (g:BW H a y o) (ry:cD y u) (h:∀ s',bj X pins σ H s'->Q (.bool o.isSome) s') :
  ak (az X.prog X.w) A (bG .In u (.ref a)) Q E s:=by
 rcases g with ⟨kvs,k,e,ey,l⟩|⟨kvs,k,b,e,ey,eb,l⟩
 ·subst ey
  obtain ⟨z,hd,vs,rel,dd⟩:=Di I.hok e
  refine wpAny_in_of (Dh ry) hd dd.mapOf ?_
  rw [<- (rel.val k).isSome_eq,<- l]
  exact h _ (I.tok _)
 ·subst ey
  cases (show u=bL b from ry)
  obtain ⟨z,hd,xs,rel,dd⟩:=Dj I.hok e
  refine wpAny_in_heap (uU hu) (yw I.hok eb) hd dd ?_
  have q:=(rel.val k).isSome_eq
  rw [Ep] at q
  rw [<- q,<- l]
  exact h _ (I.tok _)
theorem Dk {h':ba}{t':Nat}{ob:HO} (I:bj X pins σ H s) (mu:Pc (H a)) (hs:c9 a s.heap h') (he:∃ q,h'.get? a=some q) (new:cH X.prog X.w (upd H a ob) h' a ob) :
  bj X pins σ (upd H a ob) { s with heap:=h',toks:=t' } :=
 I.write (x:=a) (e:=a) mu (.inl rfl) (fun b q hb z=>(hs.2 b hb).trans z) he new
theorem Od {P:aH}{w:aY}{H':Hp}{h':ba}{kvs:List (fz×V)}{vs:List (fz×a8)} (z:kvs.length<=sizeLine) (hd:(a==gm)=false) (rel:KV kvs vs) (dd:h'.DictOf (fA P w) a vs) :
  cH P w H' h' a (.dK kvs):=⟨z,hd,vs,rel,dd⟩
theorem EL {H':Hp}{Q:Unit->aa->Prop} (hu:A.units+1<pQ) (I:bj X pins σ H s) (g:GS H a y v H') (ry:cD y u) (rv:cD v r) (h:∀ s',bj X pins σ H' s'->Q () s') :
  ak (az X.prog X.w) A (setItem (.ref a) u r) Q E s:=by
 rcases g with ⟨kvs,k,e,ey,l,eH⟩|⟨kvs,k,b,e,ey,eb,l,eH⟩
 ·subst ey eH
  obtain ⟨z,hd,vs,rel,dd⟩:=PD I.hok e
  have hz:vs.length<=sizeLine:=by rw [<- rel.length];exact z
  have hl:(sU kvs k v).length<=sizeLine:=by have:=tV kvs k v;omega
  refine wpAny_setItem_pairs (hsz:=hz) (Dh ry) dd fun h' dd' hs=>h _ ?_
  have he:∃ q,h'.get? a=some q:=let ⟨q,_,_,hq,_⟩:=dd';⟨q,hq⟩
  exact Dk I (by rw [e];exact iG) hs he (Od hl hd (rel.put k rv) dd')
 ·subst ey eH
  cases (show u=bL b from ry)
  obtain ⟨z,hd,xs,rel,dd⟩:=PF I.hok e
  have hz:xs.length<=sizeLine:=by rw [<- lL rel];exact z
  have hl:(sU kvs k v).length<=sizeLine:=by have:=tV kvs k v;omega
  refine wpAny_setItem_heap (hsz:=hz) (uU hu) (yw I.hok eb) dd fun h' dd' hs=>h _ ?_
  obtain ⟨q,es,ep,hq,h2,h3,h4,_,h5⟩:=dd'
  refine Dk I (by rw [e];exact iG) hs ⟨q,hq⟩ ⟨hl,hd,_,(rel.put k eb rv).keeps fun c ys ec=>?_,q,es,ep,hq,h2,h3,h4,h5⟩
  rw [aL (Pb ec e (fun z=>nomatch z))]
  exact ec
end
section
variable {X:Cx}{pins:List (ac×Obj)}{σ:St}{H:Hp}{s:aa}{a:ac}{kvs:List (fz×V)}{k:fz}{u:a8}{A:aZ}{E:a8->aa->Prop}
end
def PH (i:aP):Prop:=∀ ov iv,zJ i false ov iv=operate [ov,iv] (nN ov iv)
theorem KO {prog:aH}{w:aY}{A:aZ}{E:a8->aa->Prop}{s:aa}{env:Env}{value slice:aP}{pos:Pos}{T id:String}{Q:a8->aa->Prop}
  (hl:Bv (.type T) "__getitem__"=pure (some (.builtin id))) (hs:PH slice)
  (h:ak (az prog w) A (bU value env) (fun o s₁=>ak (az prog w) A (bU slice env) (fun i s₂=>s₂.TypeIs o T/\ak (az prog w) A (nN o i) Q E s₂) E s₁) E s) :
  ak (az prog w) A (bU (.Subscript value slice pos) env) Q E s:=by
 refine Subscript_ (c6 h (fun o s₁ h₁=>c6 h₁ (fun i s₂ h₂=>?_) fun _ _ x=>x) fun _ _ x=>x)
 obtain ⟨hT,h₂⟩:=h₂
 unfold El
 refine a5 ?_
 rw [getitemInPython_of_ne hT.not_modules]
 refine a5 (zS hT hl ?_)
 have fin:ak (az prog w) A (zJ slice false o i) (fun r s₃=>ak (az prog w) A (letTemporaryGo value o r >>= fun _=>pure r) Q E s₃) E s₂:=by
  rw [hs o i]
  exact wpAny_operating (c6 h₂ (fun r s₃ h₃=>a5 (wpAny_letTemporaryGo (a9 h₃))) fun _ _ x=>x)
 first
  |exact a9 (a5 fin)
  |exact a5 (a9 (a5 fin))
  |exact a5 fin
theorem A5 {X:Cx}{pins:List (ac×Obj)}{σ:St}{H:Hp}{s:aa}{a:ac}{y:V}{o:Option V} (I:bj X pins σ H s) (g:BW H a y o):s.TypeIs (.ref a) "dict":=by
 rcases g with ⟨kvs,k,e,_,_⟩|⟨kvs,k,b,e,_,_,_⟩
 ·obtain ⟨_,_,vs,_,dd⟩:=Di I.hok e
  exact dd.typeIs
 ·obtain ⟨_,_,xs,_,dd⟩:=Dj I.hok e
  exact dd.typeIs
def PJ (td ty:TE):TE:=fun σ H Q=>td σ H fun x H1=>ty σ H1 fun y H2=>∃ a v,x=.ref a/\BW H2 a y (some v)/\Q v H2
def My (td ty tv:TE):TS:=fun D σ H=>tv σ H fun v H1=>td σ H1 fun x H2=>ty σ H2 fun y H3=>∃ a H4,x=.ref a/\GS H3 a y v H4/\D.nx σ H4
section
variable {X:Cx}{o i e value:aP}{pos pos' tpos:Pos}{td ty tv:TE}
theorem KP (hu:X.A.units+1<pQ) (ho:PE X o td) (hi:PE X i ty) (hs:PH i):PE X (.Subscript o i pos) (PJ td ty):=by
 intro pins s σ H Q I h
 refine KO PySem.F.slot_dict_getitem.lookup hs (eK (ho pins s σ H _ I h) fun u s1 ⟨x,H1,I1,rx,q1⟩=>eK (hi pins s1 σ H1 _ I1 q1) fun iv s2 ⟨y,H2,I2,ry,a,v,ex,g,q2⟩=>?_)
 subst ex
 obtain rfl:u=bL a:=rx
 exact ⟨A5 I2 g,EK hu I2 g ry fun w' s3 I3 rw'=>⟨v,H2,I3,rw',q2⟩⟩
theorem KQ (hu:X.A.units+1<pQ) (ho:PE X o td) (hi:PE X i ty) (hv:PE X value tv) (hs:iB value (some (.Subscript o i pos')) pos.line X.env=pure false) :
  PS X (.Assign [.Subscript o i pos'] value pos) (My td ty tv):=by
 intro pins s σ H D I h
 refine wpAny_Assign_Subscript (eK (hv pins s σ H _ I h) fun r s1 ⟨v,H1,I1,rv,q1⟩=>eK (ho pins s1 σ H1 _ I1 q1) fun u s2 ⟨x,H2,I2,rx,q2⟩=>eK (hi pins s2 σ H2 _ I2 q2) fun iv s3 ⟨y,H3,I3,ry,a,H4,ex,g,q3⟩=>?_) hs
 subst ex
 obtain rfl:u=bL a:=rx
 exact EL hu I3 g ry rv fun s4 I4=>⟨σ,H4,I4,q3⟩
end
theorem GT {P:aH}{w:aY}{H:Hp} (h:ba) (hb:gm<h.objs.size):cH P w H (h.push { cls:=.type "dict",data:=.dict #[] }) h.objs.size (.dK []) :=
 ⟨bT _,beq_eq_false_iff_ne.mpr (e6 (aE hb)),[],.nil,Heap.DictOf.new h⟩
def Oe:TE:=fun _ H Q=>∀ p,H p=none->Q (.ref p) (upd H p (.dK []))
section
variable {X:Cx}{pos:Pos}
theorem GU:PE X (.Dict [] [] pos) Oe:=fun pins s σ H Q I h =>
 wpAny_Dict_empty ⟨.ref s.heap.objs.size,_,I.laid (a:=s.heap.objs.size) (o:=.dK []) (t':=s.toks) (fun _ _ q=>a7 _ q) (al _) (GT s.heap I.big),rfl,h _ (I.hok.fresh (al _))⟩
end
section
variable {X:Cx}{pins:List (ac×Obj)}{σ:St}{H:Hp}{s:aa}{a:ac}{y d:V}{u r:a8}{o:Option V}{A:aZ}{E:a8->aa->Prop}
end
section
variable {X:Cx}{o e f:aP}{apos cpos:Pos}{td ty tx:TE}
end
section
variable {X:Cx}{pins:List (ac×Obj)}{σ:St}{H:Hp}{s:aa}{a:ac}{kvs:List (fz×V)}{A:aZ}{E:a8->aa->Prop}
end
section
variable {X:Cx}{pins:List (ac×Obj)}{σ:St}{H:Hp}{s:aa}{a:ac}{y:V}{u:a8}{A:aZ}{E:a8->aa->Prop}
end
end L2
namespace L2
open PySem PySem.Spec PyProof.Rows
section
variable {X:Cx}
end
section
variable {κ:Type} [DecidableEq κ]
theorem Dl:∀ {l:List κ}{k:κ},l.Nodup->¬ k∈l->(l++[k]).Nodup
 |[],k,_,_=>by simp
 |a::r,k,h,hk=>by
  obtain ⟨h1,h2⟩:=List.nodup_cons.mp h
  show (a::(r++[k])).Nodup
  refine List.nodup_cons.mpr ⟨fun m=>?_,Dl h2 fun m=>hk (List.mem_cons.mpr (dX m))⟩
  rcases List.mem_append.mp m with q|q
  ·exact h1 q
  ·exact hk (List.mem_cons.mpr (fF (List.mem_singleton.mp q).symm))
end
end L2
end
namespace L2
open PySem PySem.Spec PyProof.Rows
section
section
end
theorem BX (names : List (Str × jA)) : ∀ (cs : List (Str × ac)), (∀ y ∈ names, y.2 = .free -> ∃ c, env.cells.lookup y.1 = some c) ->
    (∀ x c, cs.lookup x = some c -> env.cells.lookup x = some c) ->
    ∃ cl, (forIn names cs fun (x : Str × jA) (cs : List (Str × ac)) => match x with
        | (name, kind) => if (kind == bQ) = true then do let a <- cellOf env name; pure (hV ((name, a) :: cs)) else pure (hV cs) : Sem (List (Str × ac))) = pure cl /\
      (∀ x c, cl.lookup x = some c -> env.cells.lookup x = some c) /\ (∀ y ∈ names, y.2 = .free -> ∃ c, cl.lookup y.1 = some c) /\ (∀ x c, cs.lookup x = some c -> ∃ c', cl.lookup x = some c') := by
  induction names with
  | nil => intro cs _ h2; exact ⟨cs, rfl, h2, fun _ h => absurd h (by simp), fun x c h => ⟨c, h⟩⟩
  | cons nk r ih =>
    obtain ⟨n, k⟩ := nk;intro cs h1 h2;by_cases hk : k = .free
    · subst hk;obtain ⟨a, ha⟩ := h1 (n, .free) aw rfl;have h2' : ∀ x c, ((n, a) :: cs).lookup x = some c -> env.cells.lookup x = some c := fun x c h => by
        rw [cr] at h;cases e : x == n with
        | true => rw [e] at h; have : x = n := by simpa using e
                  subst this; cases h; exact ha
        | false => rw [e] at h; exact h2 x c h
      obtain ⟨cl, e1, e2, e3, e4⟩ := ih ((n, a) :: cs) (fun y hy => h1 y (ao _ hy)) h2';refine ⟨cl, ?_, e2, fun y hy hf => ?_, fun x c h => ?_⟩
      · rw [iC];have hc : cellOf env n = pure a := by unfold cellOf; rw [ha]
        simp only [beq_self_eq_true, if_true, hc];exact e1
      · rcases List.mem_cons.mp hy with rfl | hy
        · exact e4 n a (by simp)
        · exact e3 y hy hf
      · cases e : x == n with
        | true => exact e4 x a (by rw [cr, e])
        | false => exact e4 x c (by rw [cr, e]; exact h)
    · obtain ⟨cl, e1, e2, e3, e4⟩ := ih cs (fun y hy => h1 y (ao _ hy)) h2;refine ⟨cl, ?_, e2, fun y hy hf => ?_, e4⟩
      · rw [iC];have hk' : (k == bQ) = false := by simpa using hk
        simp only [hk', bg, if_false];exact e1
      · rcases List.mem_cons.mp hy with rfl | hy
        · exact absurd hf hk
        · exact e3 y hy hf
theorem ql  (h:∀ y∈scope.names,y.2=.free->∃ c,env.cells.lookup y.1=some c):∃ cl,closureFor scope env=pure cl /\
  (∀ x c,cl.lookup x=some c->env.cells.lookup x=some c)/\(∀ y∈scope.names,y.2=.free->∃ c,cl.lookup y.1=some c):=by
 obtain ⟨cl,e1,e2,e3,_⟩:=BX (env:=env) scope.names [] h (fun x c h=>by simp at h);refine ⟨cl,?_,e2,e3⟩;simp only [closureFor];rw [show (forIn scope.names ([] : List (Str×ac)) fun x r=>_)=(pure cl:Sem (List (Str×ac))) from e1];rfl
end
section
def cX (X:Cx) (N':List Str) (scope:dW) (cl:List (Str×ac)) (C:ac) (s₀:aa) (H₀:Hp) (ex:List ac) (pn:List (ac×Obj)):Cx :=
 { X with N:=N',s₀:=s₀,H₀:=H₀,env:=compEnvC scope cl C X.env,outer:=X.stack,stack:=X.stack,ex:=ex,fn:=fun y=>scope.names.lookup y==some .cell,pn:=pn,xe:=fun _ _=>False }
def KR (X:Cx) (ifs:List aP) (t:TT):Prop :=
 ∀ (pins:List (ac×Obj)) (s:aa) (σ:St) (H:Hp) (Q:Bool->Hp->Prop),bj X pins σ H s->t σ H Q ->
  ak (az X.prog X.w) X.A (forIn ifs true fun c r=>if r=true then do let ok <- uO c X.env (bU c X.env);pure (hV ok) else pure (hV r)) (TP X pins σ Q) X.xe s
def S4:TT:=fun _ H Q=>Q true H
theorem KS:KR X [] S4:=fun pins s σ H Q I h=>wpAny_tests_nil ⟨H,I,h⟩
theorem KU   (h:PT X c t):KR X [c] t:=fun pins s σ H Q I hw=>wpAny_tests_one (h pins s σ H Q I hw)
structure mD (X:Cx) (scope:dW) (N':List Str) (nt:Nat) (ix:List Nat):Prop where
 kind:scope.kind=.function
 cel:∀ y∈scope.names,y.2=.cell->scope.names.lookup y.1=some .cell
 loc:∀ y∈scope.names,y.2=.local->scope.names.lookup y.1=some .local
 free:∀ y∈scope.names,y.2=.free->X.env.scope.names.lookup y.1=some .cell\/X.env.scope.names.lookup y.1=some .free
 cap:∀ k i,ix[k]?=some i->∃ x,X.N[i]?=some x/\N'[nt+k]?=some x/\scope.names.lookup x=some .free
 len:N'.length=nt+ix.length
def kj (nt:Nat) (ix:List Nat) (σ:St):St:=kW nt none++ix.map fun i=>(σ[i]?).join
theorem pV {env:Env}{x:Str}{names:List (Str×jA)}:names.lookup x=some .free ->
  (names.map fun (n,k)=>if (k==bQ&&env.scope.kind == .function&&env.kindOf n==some .cell) then (n,cY) else (n,k)).lookup x=some .free \/
  (names.map fun (n,k)=>if (k==bQ&&env.scope.kind == .function&&env.kindOf n==some .cell) then (n,cY) else (n,k)).lookup x=some .cell:=by
 induction names with
 |nil=>intro h;simp at h
 |cons nk r ih =>
  obtain ⟨n,k⟩:=nk;intro h;show uV x ((if (k==bQ&&env.scope.kind == .function&&env.kindOf n==some .cell)=true then (n,cY) else (n,k))::_)=_ \/
   uV x ((if (k==bQ&&env.scope.kind == .function&&env.kindOf n==some .cell)=true then (n,cY) else (n,k))::_)=_
  cases hx:x==n with
  |true =>
   simp only [cr,hx] at h;cases h;by_cases hc:(bQ==bQ&&env.scope.kind == .function&&env.kindOf n==some .cell)=true
   ·rw [if_pos hc];right;simp [cr,hx]
   ·rw [if_neg hc];left;simp [cr,hx]
  |false =>
   simp only [cr,hx] at h;by_cases hc:(k==bQ&&env.scope.kind == .function&&env.kindOf n==some .cell)=true
   ·rw [if_pos hc];simp only [cr,hx];exact ih h
   ·rw [if_neg hc];simp only [cr,hx];exact ih h
theorem ro {env:Env}{x:Str}{names:List (Str×jA)} :
  ((names.map fun (n,k)=>if (k==bQ&&env.scope.kind == .function&&env.kindOf n==some .cell) then (n,cY) else (n,k)).lookup x=some .free \/
  (names.map fun (n,k)=>if (k==bQ&&env.scope.kind == .function&&env.kindOf n==some .cell) then (n,cY) else (n,k)).lookup x=some .cell) ->
  (x,bQ)∈names\/(x,cY)∈names:=by
 induction names with
 |nil=>intro h;simp at h
 |cons nk r ih =>
  obtain ⟨n,k⟩:=nk;intro h;have h:uV x ((if (k==bQ&&env.scope.kind == .function&&env.kindOf n==some .cell)=true then (n,cY) else (n,k))::_)=_ \/
   uV x ((if (k==bQ&&env.scope.kind == .function&&env.kindOf n==some .cell)=true then (n,cY) else (n,k))::_)=_:=h
  cases hx:x==n with
  |true =>
   have e:x=n:=by simpa using hx
   subst e;by_cases hc:(k==bQ&&env.scope.kind == .function&&env.kindOf x==some .cell)=true
   ·have:k=.free:=by simp at hc;exact hc.1.1
    subst this;left;exact aw
   ·rw [if_neg hc] at h;simp only [cr,hx] at h;rcases h with h|h
    ·cases h;left;exact aw
    ·cases h;right;exact aw
  |false =>
   have h':=ih (by
    by_cases hc:(k==bQ&&env.scope.kind == .function&&env.kindOf n==some .cell)=true
    ·rw [if_pos hc] at h;simp only [cr,hx] at h;exact h
    ·rw [if_neg hc] at h;simp only [cr,hx] at h;exact h)
   rcases h' with h' | h'
   ·left;exact ao _ h'
   ·right;exact ao _ h'
inductive Mz (nt:Nat) (ix:List Nat) (g:TG) (tt:TT) (te:TE) (σ:St) (Q:VK) (J:It) (H1:Hp):Prop
 |mk (W:Nat->Nat->List V->Hp->Prop) (w0:∃ m,W 0 m [] H1) (turn:∀ i m acc H,W i m acc H ->
 (J.stop i H/\∀ p,H p=none->Q (.ref p) (upd H p (.lst acc))) \/
 (J.go i H/\acc.length<sizeLine/\∀ x H',J.yld i H x H'->g x (kj nt ix σ) H' fun σ2 H2=>tt σ2 H2 fun b H3 =>
  if b=true then te σ2 H3 fun y H4=>∃ m',m'<m/\W (i+1) m' (acc++[y]) H4 else ∃ m',m'<m/\W (i+1) m' acc H3)):Mz nt ix g tt te σ Q J H1
def GV (nt:Nat) (ix:List Nat) (wi:TI) (g:TG) (tt:TT) (te:TE):TE:=fun σ H Q=>wi σ H (Mz nt ix g tt te σ Q)
theorem h_:∀ (names:List (Str×jA)) (n:Nat) (acc:List (Str×ac)),bB n names acc=bB n names []++acc
 |[],_,_=>rfl
 |(y,k)::r,n,acc=>by
  unfold bB;split
  ·rw [h_ r (n+1) ((y,n)::acc),h_ r (n+1) [(y,n)],gz];rfl
  ·exact h_ r n acc
theorem lH  : ∀ (names:List (Str×jA)) (n:Nat) (acc:List (Str×ac)),(x,c)∈bB n names acc->(x,cY)∈names\/(x,c)∈acc
 |[],_,_,h=>.inr h
 |(y,k)::r,n,acc,h=>by
  unfold bB at h;split at h
  ·rename_i hk
   have hk:k=.cell:=by simpa using hk
   rcases lH r _ _ h with z|z
   ·exact .inl (ao _ z)
   ·rcases List.mem_cons.mp z with z|z
    ·cases z;subst hk;exact .inl aw
    ·exact .inr z
  ·exact (lH r _ _ h).imp (ao _) id
theorem kn     (h:(bB n names cl).lookup x=some c) :
  (x,c)∈bB n names []\/((bB n names []).lookup x=none/\cl.lookup x=some c):=by
 rw [h_,FZ] at h;cases e:(bB n names []).lookup x with
 |some d=>rw [e] at h;cases h;exact .inl (cK e)
 |none=>rw [e] at h;exact .inr ⟨rfl,h⟩
theorem KW {M:K6}{A:aZ}{E:a8->aa->Prop}{s:aa}{scope:dW}{globals:ac}{cl:List (Str×ac)}{qual:Str}{func:Option ac}{code:a8}{outer:Env}{builtins:ac}{Q:Env->aa->Prop}
  (hQ:∀ h₁,h₁=pushCells (s.heap.push { cls:=.type "dict",data:=.dict #[] }) scope.names->Q (newEnv scope s.heap.objs.size globals (bB (s.heap.objs.size+1) scope.names cl) qual func code (some outer) builtins) { s with heap:=h₁ }) :
  ak M A (By scope globals cl [] qual func code (some outer) builtins) Q E s:=by
 simp only [By,qR,if_true];refine a5 (Ka ?_);refine a5 (wpAny_layCells _ (fun name kind cells=>by cases hkc:kind==cY<;>simp [hkc]) _ _ _ _ ?_);rw [show ({ s with heap:=s.heap.push { cls:=.type "dict",data:=.dict #[] } }:aa).heap.objs.size=s.heap.objs.size+1 from bC ..];refine a5 ?_;rw [kX];exact a9 (a9 (hQ _ rfl))
theorem EM (h:ba) (names:List (Str×jA)):CellsOk (pushCells (h.push { cls:=.type "dict",data:=.dict #[] }) names) (h.objs.size+1) (bB (h.objs.size+1) names []):=by
 have ok:=cellsFrom_ok names (h.push { cls:=.type "dict",data:=.dict #[] }) (h.objs.size+1) [] ⟨fun _ _ hm=>(nomatch hm),xi⟩ (by rw [bC];exact al _);rw [bC] at ok;exact ok
section
theorem GW {scope:dW}{N':List Str}{nt:Nat}{ix:List Nat}{cl:List (Str×ac)}{C:ac}{fp:List ac}{h₁:ba}{t':Nat}{m:Str->Option a8}
  (S:mD X scope N' nt ix) (I:bj X pins σ H s) (c1:∀ x c,cl.lookup x=some c->X.env.cells.lookup x=some c) (c2:∀ y∈scope.names,y.2=.free->∃ c,cl.lookup y.1=some c)
  (hf:∀ b∈fp,pT X pins H b) (ff:∀ b∈fp,b<s.heap.objs.size) (hC:s.heap.objs.size<=C) (hns:h₁.Ns C m) (old:∀ b o,s.heap.get? b=some o->h₁.get? b=some o) (ok:CellsOk h₁ (C+1) (bB (C+1) scope.names [])) :
  bj (cX X N' scope (bB (C+1) scope.names cl) C s H fp (X.pn++pins)) [] (kj nt ix σ) H { s with heap:=h₁,toks:=t' }:=by
 have cellOld:∀ {c v},s.heap.IsCell c v->h₁.IsCell c v:=fun {c v} ⟨o,ho,hd⟩=>⟨o,old _ _ ho,hd⟩;have up:∀ {x c},(x,c)∈bB (C+1) scope.names []->s.heap.objs.size<c:=fun {x c} h=>ay (JX hC) (ok.empty x c h).2;have low:∀ {x c},cl.lookup x=some c->c<s.heap.objs.size:=fun {x c} h=>by
  obtain ⟨v,q⟩:=I.cell x c (c1 x c h);exact q.lt
 refine ⟨⟨I.ok.mod,S.kind,I.ok.glob,I.ok.blt,hC,fun x y c h1 h2=>?_,fun x hx=>?_,fun x c h h2=>?_,I.ok.hd,I.ok.frames,.inl rfl,fun b hb=>⟨?_,fun x c h=>?_⟩,I.bs,bv I.ok.bsz I.sz,fun b o h hb=>?_,fun b hb z=>?_,I.stack,I.stkFree⟩,
  rfl,I.bare,Un.kept old,⟨m,hns,fun i x v h1 h2 h3=>?_⟩,fun x c h=>?_,I.hok.fresh hC,fun x c h=>?_,fun p hp=>?_,I.hok.kept old,?_⟩
 ·rcases kn h1 with a|⟨_,a⟩<;>rcases kn h2 with b|⟨_,b⟩
  ·exact name_of_addr ok.apart a b
  ·exact absurd (up a) (Bz (low b))
  ·exact absurd (up b) (Bz (low a))
  ·exact I.ok.inj x y c (c1 x c a) (c1 y c b)
 ·have hx':(x,bQ)∈scope.names\/(x,cY)∈scope.names:=ro (env:=X.env) (hx.elim .inr .inl);have hs:((bB (C+1) scope.names cl).lookup x).isSome=true:=by
   rcases hx' with z|z
   ·obtain ⟨c,e⟩:=c2 _ z rfl;exact e7 _ _ _ (.inr (by rw [e];rfl))
   ·exact e7 _ _ _ (.inl (S.cel _ z rfl))
  exact Option.isSome_iff_exists.mp hs
 ·rcases kn h2 with a|⟨a,_⟩
  ·exact bw (up a)
  ·have:=e7 (x:=x) scope.names (C+1) [] (.inl (by simpa [cX] using h));rw [a] at this;cases this
 ·exact aE (ay (ff b hb) hC)
 ·rcases kn h with a|⟨_,a⟩
  ·exact dI (Nat.lt_trans (ff b hb) (up a))
  ·exact (hf b hb).f4 x c (c1 x c a)
 ·rcases (hf b hb).f3 with z|z
  ·exact I.ok.noex b o h z
  ·exact absurd (ay (ah h) (bv I.ok.bsz z)) (cu _)
 ·rcases List.mem_cons.mp (I.stkSub b z) with e|e
  ·exact (hf b hb).f1 e
  ·exact (hf b hb).f2 e
 ·have hnt:nt<=i:=by
   refine K9 fun hlt=>?_;have h2':(kj nt ix σ)[i]?=some (some v):=h2;unfold kj at h2';rw [bh (by simpa using hlt),bD,if_pos hlt] at h2';cases h2'
  have h2':(kj nt ix σ)[i]?=some (some v):=h2;unfold kj at h2';rw [b6 (by simpa using hnt),cx,aF] at h2';cases e:ix[i-nt]? with
  |none=>rw [e] at h2';cases h2'
  |some j =>
   rw [e] at h2';have hj:σ[j]?=some (some v):=by
    have q:(σ[j]?).join=some v:=bt h2';cases e3:σ[j]? with
    |none=>rw [e3] at q;cases q
    |some o=>rw [e3] at q;cases o with
     |none=>cases q
     |some v'=>cases q;rfl
   obtain ⟨x',n1,n2,fr⟩:=S.cap _ _ e;rw [Nat.add_sub_cancel' hnt] at n2;have h1':N'[i]?=some x:=h1;rw [h1'] at n2;cases n2;obtain ⟨mm,hn,hl⟩:=I.loc;have hfree:=S.free (x,.free) (cK fr) rfl;obtain ⟨u,r,l⟩:=hl j x v n1 hj (hfree.elim (fun z=>.inr (.inl z)) fun z=>.inr (.inr z));refine ⟨u,r,?_⟩;rcases l with ⟨k,_⟩|⟨k,c,hc,hcell⟩
   ·have k:X.env.scope.names.lookup x=some .local:=k;rcases hfree with z|z<;>(rw [z] at k;cases k)
   ·obtain ⟨c',hc'⟩:=c2 _ (cK fr) rfl;have:=c1 x c' hc';rw [hc] at this;cases this;have hno:(bB (C+1) scope.names []).lookup x=none:=by
     cases e:(bB (C+1) scope.names []).lookup x with
     |none=>rfl
     |some d =>
      rcases lH _ _ _ (cK e) with z|z
      ·have q:=S.cel _ z rfl;rw [fr] at q;cases q
      ·cases z
    refine .inr ⟨?_,c,by show (bB (C+1) scope.names cl).lookup x=some c;rw [h_,FZ,hno];exact hc',cellOld hcell⟩;rcases pV (env:=X.env) fr with z|z
    ·exact .inr z
    ·exact .inl z
 ·rcases kn h with a|⟨_,a⟩
  ·exact ⟨none,(ok.empty x c a).1⟩
  ·obtain ⟨v,q⟩:=I.cell x c (c1 x c a);exact ⟨v,cellOld q⟩
 ·rcases kn h with a|⟨_,a⟩
  ·exact I.hok.fresh (bw (up a))
  ·exact I.freeC x c (c1 x c a)
 ·have hp:p∈X.pn++pins:=(List.mem_append.mp hp).elim id fun z=>absurd z (by simp);obtain ⟨e,n,ne,nf,d⟩:=I.pin p hp;refine ⟨old _ _ e,n,aE (ay (ah e) hC),fun z=>?_,d⟩;rcases List.mem_cons.mp (I.stkSub p.1 z) with e|e
  ·exact ne e
  ·exact nf e
 ·show (kj nt ix σ).length=N'.length;rw [S.len];simp [kj]
end
end
section
theorem Un.grow   (u:Un fs ex H H1 h h1)  (sb:c9 C h1 h2) (hC:h.objs.size<=C) (hD:h.objs.size<=D) (hn:H1 D=none):Un fs ex H (upd H1 D o) h h2 where
 keep:=fun b ob q n hb hx=>(sb.2 b (aE (ay (ah q) hC))).trans (u.keep b ob q n hb hx)
 slot:=fun b ob q n hb hx=>by
  obtain ⟨sl,e⟩:=u.slot b ob q n hb hx;exact ⟨sl,(sb.2 b (aE (ay (ah q) hC))).trans e⟩
 free:=fun b ob q n hx=>by rw [aL (aE (ay (ah q) hD))];exact u.free b ob q n hx
 there:=fun b ob q hx=>by
  obtain ⟨o',e⟩:=u.there b ob q hx;exact ⟨o',(sb.2 b (aE (ay (ah q) hC))).trans e⟩
 tups:=fun b xs q=>by have z:=u.tups b xs q;rw [aL (aS z hn)];exact z
 frzs:=fun b ob xs q=>by have z:=u.frzs b ob xs q;rw [aL (aS z hn)];exact z
 tbls:=fun b ps q=>by
  obtain ⟨m,z⟩:=u.tbls b ps q;exact ⟨m,by rw [aL (aS z hn)];exact z⟩
theorem A6     (k:nW P w H h) (hC:H C=none) (sb:c9 C h h'):nW P w H h':=fun b ob e=>by
 refine (k b ob e).stay (fun c w' hc q=>(sb.2 c ?_).trans q) (fun _ q=>q) fun _ _ q=>q;rintro rfl;rcases hc with rfl|hc
 ·rw [hC] at e;cases e
 ·rw [hC] at hc;cases hc
theorem sV      (k:nW P w H h) (hD:H D=none) (new:cH P w (upd H D o) h D o):nW P w (upd H D o) h:=fun b ob e=>by
 by_cases hb:b=D
 ·subst hb;rw [aK] at e;cases e;exact new
 ·rw [aL hb] at e;exact (k b ob e).stay (fun c w' hc q=>q) (fun c q=>by rw [aL (aS q hD)];exact q) fun c x q=>by rw [aL (aS q hD)];exact q
theorem nf {M:K6}{A:aZ}{α:Type}{t:Sem α}{Q:α->aa->Prop}{E':a8->aa->Prop}{s:aa} (h:ak M A t Q (fun _ _=>False) s):ak M A t Q E' s :=
 c6 h (fun _ _ q=>q) fun _ _ f=>f.elim
theorem bj.pin1      (I:bj X [] σ H s) (e:s.heap.get? D=some o) (n:H D=none) (ne:D≠X.env.locals) (nf:D∉X.fs) (d:∀ v,o.data≠.cell v):bj X [(D,o)] σ H s :=
 I.pins_of fun p hp=>by
  have:p=(D,o):=by simpa using hp
  subst this;exact ⟨e,n,ne,nf,d⟩
def Of (nt:Nat) (g:TG):Prop:=∀ x σ0 H (Q:St->Hp->Prop),g x σ0 H Q->g x σ0 H (fun σ2 H2=>Q σ2 H2/\σ2.length=σ0.length/\∀ j,nt<=j->σ2[j]?=σ0[j]?)
theorem GX (h:i<nt):Of nt (tT i):=fun x σ0 H Q q=>⟨q,by simp,fun j hj=>ae (by omega)⟩
theorem KY {nt i k n:Nat}{K:a6} (h:i<nt) (h':k<nt):Of nt (NT K n (af (tT i) (af (tT k) aV))):=by
 rintro x σ0 H Q ⟨a,xs,rfl,sq,hl,v,r,rfl,v',r',rfl,rfl,q⟩;exact ⟨a,_,rfl,sq,hl,v,_,rfl,v',_,rfl,rfl,q,by simp,fun j hj=>by rw [ae (by omega),ae (by omega)]⟩
theorem bj.swap {X:Cx}{pl:List (ac×Obj)}{σ:St}{H:Hp}{s:aa}{D:ac}{o o':Obj}{h':ba} (I:bj X ((D,o)::pl) σ H s) (sb:c9 D s.heap h') (e':h'.get? D=some o') (nd:∀ v,o'.data≠.cell v) (h1:D∈X.ex\/X.s₀.heap.objs.size<=D) (h2:∀ x c,X.env.cells.lookup x=some c->c≠D) (h3:∀ p∈X.pn++pl,p.1≠D):bj X ((D,o')::pl) σ H { s with heap:=h' }:=by
 obtain ⟨pD,pN,pL,pF,_⟩:=I.pin (D,o) (aN _ aw)
 have I1:bj X pl σ H s:=I.pins_of fun p hp=>I.pin p (aN _ (ao _ hp))
 have I2:bj X pl σ H { s with heap:=h',toks:=s.toks }:=I1.turned (it:=D) (fun b o hb e=>sb.extBut b o hb e) pN pL h1 h2 h3
 refine I2.pins_of fun p hp=>?_
 rcases aQ.1 hp with z|hp
 ·rw [z];exact ⟨e',pN,pL,pF,nd⟩
 ·exact I2.pin p (aN _ hp)
abbrev PK (its:List a8) (nn:Nat):Obj:={ cls:=.type "list",data:=.seq its.toArray nn }
inductive SD (X:Cx) {α:Type} (P:ac->Obj->α->Prop) (pins:List (ac×Obj)) (N':List Str) (scope:dW) (cl:List (Str×ac)) (C:ac) (s2:aa) (H2:Hp) (fp:List ac) (nt:Nat) (ix:List Nat) (σ:St) (tn:Nat->ba->Prop) (W:Nat->Nat->α->Hp->Prop) (n:Nat) (s':aa):Prop
 |mk (i:Nat) (acc:α) (oD:Obj) (H':Hp) (I:bj (cX X N' scope cl C s2 H2 fp (X.pn++pins)) [(s2.heap.objs.size,oD)] (kj nt ix σ) H' s') (S:P s2.heap.objs.size oD acc) (t:tn i s'.heap) (f:∀ b∈fp,H' b=none) (w:W i n acc H'):SD X P pins N' scope cl C s2 H2 fp nt ix σ tn W n s'
def MA (X:Cx) (e0 tg:aP) (ifs:List aP) (it:ac) (d:Nat) (Bd:Env->ac->(aa->Prop)->aa->Prop):Prop :=
 ∀ (env:Env) (D:ac) (R:Bp->aa->Prop) (I:Nat->aa->Prop),(∀ n s,I n s->ak (az X.prog X.w) X.A (mx (.ref it)) (fun r s₁=>match r with
   |none=>R (.ok .next) s₁
   |some v=>ak (az X.prog X.w) X.A (gP tg (.ref it) v) (fun _ s₁'=>ak (az X.prog X.w) X.A (ms tg env v) (fun _ s₂ =>
     ak (az X.prog X.w) X.A (forIn ifs true fun c r=>if r=true then do let ok <- uO c env (bU c env);pure (hV ok) else pure (hV r)) (fun ok s₃ =>
      if ok=true then Bd env D (fun s₅=>∃ m,m<n/\I m s₅) s₃ else ∃ m,m<n/\I m s₃) (fun _ _=>False) s₂) (fun _ _=>False) s₁') (fun _ _=>False) s₁) (fun _ _=>False) s) ->
  ∀ n s,I n s->gx (az X.prog X.w) X.A (.compLoop e0 d (.ref it) (.ref D) env) R s
theorem MB {X:Cx}{e0 tg iter:aP}{ifs:List aP}{d:Nat}{Bd:Env->ac->(aa->Prop)->aa->Prop}{it:ac}{Kt:Env->ac->Bool->Sem Fin}
  (hT:∀ env D,compTurn e0 d (.ref it) (.ref D) env=(do
   tM iter.pos
   match <- mx (.ref it) with
   |none=>pure (.done .next)
   |some v =>
    gP tg (.ref it) v
    ms tg env v
    let mut ok:=true
    for c in ifs do
     if ok then ok <- uO c env (bU c env)
    Kt env D ok))
  (ht:∀ env D K s,Bd env D K s->ak (az X.prog X.w) X.A (Kt env D true) (fun f s5=>f=.again (.compLoop e0 d (.ref it) (.ref D) env)/\K s5) (fun _ _=>False) s)
  (hf:∀ env D,Kt env D false=pure (.again (.compLoop e0 d (.ref it) (.ref D) env)):=by intros;rfl) (hA:∀ env D,X.A.under (.compLoop e0 d (.ref it) (.ref D) env)=X.A:=by intros;rfl)
  (hD:∀ env D,(az X.prog X.w).den (.compLoop e0 d (.ref it) (.ref D) env)=(compTurn e0 d (.ref it) (.ref D) env).onRaise (fun x=>do F_ x env;theTreesLotGoes x):=by intros;rfl):MA X e0 tg ifs it d Bd:=by
 intro env D R I turn n s h
 refine codeAny_loop rfl I (fun n s hI=>?_) n h
 rw [hA,hD]
 refine wpAny_noted ?_
 rw [hT]
 refine a5 (kP (a5 (nf (c6 (turn n s hI) (fun r s₁ h₁=>?_) fun _ _ h'=>h'))))
 cases r with
 |none=>exact a9 h₁
 |some v =>
  refine a5 (nf (c6 h₁ (fun _ s₁' h₁'=>?_) fun _ _ h'=>h'))
  refine a5 (nf (c6 h₁' (fun _ s₂ h₂=>a5 (nf (c6 h₂ (fun ok s₃ h₃=>?_) fun _ _ h'=>h'))) fun _ _ h'=>h'))
  cases ok with
  |false=>rw [hf];exact a9 ⟨rfl,h₃⟩
  |true =>
   refine nf (c6 (ht _ _ _ _ h₃) (fun f s₅ h₅=>?_) fun _ _ h'=>h')
   obtain ⟨e,h₅⟩:=h₅
   subst e
   exact ⟨rfl,h₅⟩
def GY (X:Cx) {α:Type} (N':List Str) (scope:dW) (M:St->Prop) (P:ac->Obj->α->Prop) (L:α->Prop) (U:St->Hp->α->Nat->(Nat->α->Hp->Prop)->Prop) (Bd:Env->ac->(aa->Prop)->aa->Prop):Prop :=
 ∀ cl C s₀ H₀ ex pn (D:ac) (pl:List (ac×Obj)) (o:Obj) (acc:α) (σ:St) (H:Hp) (s:aa) (K:aa->Prop) (m:Nat) (V:Nat->α->Hp->Prop),(D∈ex\/s₀.heap.objs.size<=D)->(∀ x c,cl.lookup x=some c->c≠D)->(∀ p∈pn++pl,p.1≠D)->M σ->L acc->P D o acc ->
  bj (cX X N' scope cl C s₀ H₀ ex pn) ((D,o)::pl) σ H s->U σ H acc m V->(∀ acc' o' H8 s8 m',bj (cX X N' scope cl C s₀ H₀ ex pn) ((D,o')::pl) σ H8 s8->P D o' acc'->m'<m->V m' acc' H8->K s8)->Bd (cX X N' scope cl C s₀ H₀ ex pn).env D K s
inductive KZ (X:Cx) (N':List Str) (scope:dW) (nt nc:Nat) (ix:List Nat) (e0 tg:aP) (ifs:List aP) (newA:Sem a8) {α:Type} (O:ac->α->HO) (a0:α) (L:α->Prop) (U:St->Hp->α->Nat->(Nat->α->Hp->Prop)->Prop):Prop
 |mk (P:ac->Obj->α->Prop) (o0:Obj) (Bd:ac->Env->ac->(aa->Prop)->aa->Prop) (M:St->Prop) (nd:∀ {D o acc},P D o acc->∀ v,o.data≠.cell v) (of:o0.isFreed=false) (p0:∀ D,P D o0 a0)
  (tr:∀ {H h D o acc},gm<D->P D o acc->h.get? D=some o->cH X.prog X.w H h D (O D acc))
  (hnew:∀ {E s2}{Q:a8->aa->Prop},Q (.ref s2.heap.objs.size) { s2 with heap:=s2.heap.push o0 }->ak (az X.prog X.w) X.A newA Q E s2) (loopX:∀ it,MA X e0 tg ifs it 0 (Bd it))
  (hst:∀ {it acc env R s},gx (az X.prog X.w) X.A (.compLoop e0 0 (.ref it) acc env) R s->ak (az X.prog X.w) X.A (uP (.ref it)) (fun it' s'=>gx (az X.prog X.w) X.A (.compLoop e0 0 it' acc env) R s') (notedBy (az X.prog X.w) X.A env fun x s'=>R (.error x) s') s->gx (az X.prog X.w) X.A (.compStart e0 0 (.ref it) acc env) R s)
  (hM:nt<=nc/\∀ σ σ6:St,(∀ j,nt<=j->σ6[j]?=(kj nc ix σ)[j]?)->M σ6) (hstep:∀ it,GY X N' scope M P L U (Bd it)):KZ X N' scope nt nc ix e0 tg ifs newA O a0 L U
theorem BY {X:Cx}{α:Type}{O:ac->α->HO}{a0:α}{newA:Sem a8}{L:α->Prop}{U:St->Hp->α->Nat->(Nat->α->Hp->Prop)->Prop}{e0 tg:aP}{ifs:List aP}{scope:dW}{g:TG}{tt:TT}{N':List Str}{nt nc:Nat}{ix:List Nat}
  (con:KZ X N' scope nt nc ix e0 tg ifs newA O a0 L U) (hc:X.calm=true) (S:mD X scope N' nc ix) (lo:Of nt g)
  (hb:∀ cl C s₀ H₀ ex pn,PG (cX X N' scope cl C s₀ H₀ ex pn) tg g/\KR (cX X N' scope cl C s₀ H₀ ex pn) ifs tt)
  {cl:List (Str×ac)} (c1:∀ x c,cl.lookup x=some c->X.env.cells.lookup x=some c) (c2:∀ y∈scope.names,y.2=.free->∃ c,cl.lookup y.1=some c)
  {pins:List (ac×Obj)}{σ:St}{H2:Hp}{s2:aa}{it:ac}{fp:List ac}{tn:Nat->ba->Prop}{J:It}{Q:VK}{E:a8->aa->Prop}
  (I2:bj X pins σ H2 s2) (T:yq X.prog X.w X.K tg J fp it tn) (st2:tn 0 s2.heap) (f2:∀ b∈fp,pT X pins H2 b)
  {W:Nat->Nat->α->Hp->Prop} (w0:∃ m,W 0 m a0 H2)
  (turn:∀ i m acc H,W i m acc H->(J.stop i H/\∀ p,H p=none->Q (.ref p) (upd H p (O p acc))) \/
   (J.go i H/\L acc/\∀ x H',J.yld i H x H'->g x (kj nc ix σ) H' fun σ2 H2=>tt σ2 H2 fun b H3 =>
    if b=true then U σ2 H3 acc m (W (i+1)) else ∃ m',m'<m/\W (i+1) m' acc H3))
  {RR:a8->ac->Bp->aa->Prop}
  (hRR:∀ D C m s' (acc:α) H',H' D=none->pT X pins (upd H' D (O D acc)) C->Q (.ref D) (upd H' D (O D acc))->s'.heap.Ns C m->(∀ h',c9 C s'.heap h'->bj X pins σ (upd H' D (O D acc)) { s' with heap:=h' })->RR (.ref D) C (.ok .next) s') :
  ak (az X.prog X.w) X.A newA (fun acc s₃=>ak (az X.prog X.w) X.A (By scope X.env.globals cl [] X.env.qual none .none (some X.env)) (fun cenv s₄ =>
   gx (az X.prog X.w) X.A (.compStart e0 0 (.ref it) acc { cenv with scope:=relabel scope X.env }) (RR acc cenv.locals) s₄) E s₃) E s2:=by
 obtain ⟨P,o0,Bd,M,nd,of,p0,tr,hnew,loopX,hst,⟨hnc,hM⟩,hstep⟩:=con
 refine hnew (KW fun h₁ hh₁=>?_);dsimp only at hh₁ ⊢;generalize hG2:s2.heap.push o0=G2 at hh₁ ⊢;have hC:G2.objs.size=s2.heap.objs.size+1:=by rw [<- hG2,bC]
 have hDC:s2.heap.objs.size≠G2.objs.size:=by rw [hC];exact aE (hX _)
 have hCle:s2.heap.objs.size<=G2.objs.size:=by rw [hC];exact ml _
 have below:∀ b,b<s2.heap.objs.size->b≠G2.objs.size:=fun b hb=>by rw [hC];exact aE (gL hb)
 have kp:∀ b o,G2.get? b=some o->h₁.get? b=some o:=fun b o e=>by rw [hh₁];exact pushCells_keeps _ _ b o (a7 _ e)
 have hns₁:h₁.Ns G2.objs.size (fun _=>none):=by rw [hh₁];exact (Heap.Ns.new G2 (.type "dict")).keeps (pushCells_keeps _ _)
 have ok₁:CellsOk h₁ (G2.objs.size+1) (bB (G2.objs.size+1) scope.names []):=by rw [hh₁];exact EM G2 scope.names
 have cne:∀ x c,(bB (G2.objs.size+1) scope.names cl).lookup x=some c->X.env.cells.lookup x=some c\/s2.heap.objs.size<c:=fun x c e=>by
  rcases kn e with a|⟨_,a⟩
  ·exact .inr (ay (JX hCle) (ok₁.empty x c a).2)
  ·exact .inl (c1 x c a)
 have old:∀ b o,s2.heap.get? b=some o->h₁.get? b=some o:=fun b o e=>kp b o (hG2 ▸ a7 _ e);have hacc:h₁.get? s2.heap.objs.size=some o0:=kp _ _ (hG2 ▸ aj _ of);have ff:∀ b∈fp,b<s2.heap.objs.size:=fun b hb=>by
  obtain ⟨o,e,_⟩:=T.obj _ _ st2 b hb;exact ah e
 have I3:bj (cX X N' scope (bB (G2.objs.size+1) scope.names cl) G2.objs.size s2 H2 fp (X.pn++pins)) [] (kj nc ix σ) H2 { s2 with heap:=h₁,toks:=s2.toks }:=GW S I2 c1 c2 f2 ff hCle hns₁ old ok₁;obtain ⟨pg,pt⟩:=hb (bB (G2.objs.size+1) scope.names cl) G2.objs.size s2 H2 fp (X.pn++pins);have hDfs:s2.heap.objs.size∉qc X.stack:=fun z=>by
  rcases List.mem_cons.mp (I2.stkSub _ z) with e|e
  ·exact absurd I2.lt (by rw [<- e];exact cu _)
  ·exact I2.nofs (al _) e
 have st1:tn 0 h₁:=T.keep _ _ _ st2 fun b _ o e=>old b o e;have hDf:s2.heap.objs.size∉fp:=fun z=>absurd (ff _ z) (cu _);have stat:∀ {H':Hp}{pl:List (ac×Obj)},(∀ p∈pl,p.1∉fp)->(∀ b∈fp,H' b=none)->∀ b∈fp,pT (cX X N' scope (bB (G2.objs.size+1) scope.names cl) G2.objs.size s2 H2 fp (X.pn++pins)) pl H' b:=fun hpl hn b hb=>by
  obtain ⟨f0,f1,f2',f3,f4,f5⟩:=f2 b hb;refine ⟨hn b hb,below b (ff b hb),fun z=>?_,.inl hb,fun x c e=>(cne x c e).elim (f4 x c) fun q z=>Bz q (by rw [z];exact ff b hb),fun p hp z=>?_⟩
  ·rcases List.mem_cons.mp (I2.stkSub _ z) with e|e
   ·exact f1 e
   ·exact f2' e
  ·rcases List.mem_append.mp hp with q|q
   ·exact f5 p q z
   ·exact hpl p q (z ▸ hb)
 obtain ⟨m0,w0⟩:=w0;have loop:gx (az X.prog X.w) X.A (.compLoop e0 0 (.ref it) (.ref s2.heap.objs.size) (compEnvC scope (bB (G2.objs.size+1) scope.names cl) G2.objs.size X.env))
    (RR (.ref s2.heap.objs.size) G2.objs.size) { s2 with heap:=h₁,toks:=s2.toks }:=by
  refine loopX it _ _ _ (SD X P pins N' scope (bB (G2.objs.size+1) scope.names cl) G2.objs.size s2 H2 fp nc ix σ tn W) ?_ m0 _
   ⟨0,a0,_,H2,I3.pin1 hacc (I2.hok.fresh (al _)) hDC hDfs (nd (p0 s2.heap.objs.size)),p0 _,st1,fun b hb=>(f2 b hb).1,w0⟩
  rintro n s3 ⟨i,acc,oD,H3,J3,hS3,st3,fr3,w3⟩;have plD:∀ p∈[(s2.heap.objs.size,oD)],p.1∉fp:=fun p hp=>by
   have:p=(s2.heap.objs.size,oD):=by simpa using hp
   rw [this];exact hDf
  rcases turn i n acc H3 w3 with ⟨stop,qn⟩|⟨go,hlt,step⟩
  ·refine eK (T.done (cX X N' scope (bB (G2.objs.size+1) scope.names cl) G2.objs.size s2 H2 fp (X.pn++pins)) rfl rfl rfl hc i _ s3 _ H3 _ J3 (stat plD fr3) st3 stop) fun r s4 h_0=>?_;obtain ⟨hr,I4⟩:=h_0;subst hr;obtain ⟨pD,pN,_⟩:=I4.pin (s2.heap.objs.size,_) (aN _ (List.mem_singleton.mpr rfl));obtain ⟨mm,hn,_⟩:=I4.loc;have hCn:H3 G2.objs.size=none:=I4.free;refine hRR _ _ mm s4 acc H3 pN (I2.fpOk hCle (by rw [aL (e6 hDC)];exact hCn)) (qn _ pN) hn fun h' sb=>?_;have hu:Un (qc X.stack) fp H2 (upd H3 s2.heap.objs.size (O s2.heap.objs.size acc)) s2.heap h':=Un.grow I4.base sb hCle (al _) pN;refine I2.call' (s':={ s4 with heap:=h' }) (ch:=fp) I4.os hu ?_ I4.bare fun b hb=>?_
   ·exact sV (A6 I4.hok hCn sb) pN (tr I2.big hS3 ((sb.2 _ hDC).trans pD))
   ·obtain ⟨_,f1,_,f3,f4,f5⟩:=f2 b hb;exact ⟨f3,f1,f4,f5⟩
  ·refine eK (T.item (cX X N' scope (bB (G2.objs.size+1) scope.names cl) G2.objs.size s2 H2 fp (X.pn++pins)) rfl rfl rfl hc i _ s3 _ H3 _ J3 (stat plD fr3) st3 go) fun r s4 h_1=>?_;obtain ⟨u,hr,h4⟩:=h_1;subst hr;refine eK h4 fun _ s5 h_2=>?_;obtain ⟨x,H5,I5,r5,y5,st5,fr5⟩:=h_2;have I5':=I5.pinned (stat plD fr5) (T.obj _ _ st5);refine eK (pg _ s5 _ H5 x u _ I5' r5 (lo _ _ _ _ (step x H5 y5))) fun _ s6 h_3=>?_;obtain ⟨σ6,H6,I6,q6,l6,k6⟩:=h_3;have hw:∀ (j:Nat) v,(kj nc ix σ)[j]?=some (some v)->σ6[j]?=some (some v):=fun j v e=>by
    by_cases hj:nt<=j
    ·rw [k6 j hj];exact e
    ·unfold kj at e;rw [bh (by simp;omega),bD,if_pos (by omega)] at e;cases e
   refine eK (pt _ s6 σ6 H6 _ I6 q6) fun b s7 h_4=>?_;obtain ⟨H7,I7,q7⟩:=h_4;have fpk:∀ {s8:aa}{σ8:St}{H8:Hp},bj (cX X N' scope (bB (G2.objs.size+1) scope.names cl) G2.objs.size s2 H2 fp (X.pn++pins)) ([(s2.heap.objs.size,oD)]++v5 fp s5.heap) σ8 H8 s8 ->
     tn (i+1) s8.heap/\∀ b∈fp,H8 b=none:=fun {s8 σ8 H8} I8=>by
    refine ⟨T.keep _ _ _ st5 fun b hb o e=>(I8.pin (b,o) (aN _ (aN _ (j8 hb e)))).1,fun b hb=>?_⟩;obtain ⟨o,e,d⟩:=T.obj _ _ st5 b hb;exact (I8.pin (b,o) (aN _ (aN _ (j8 hb e)))).2.1
   cases b with
   |false =>
    simp only [bg,if_false] at q7 ⊢;obtain ⟨m',hm,w7⟩:=q7;obtain ⟨t7,f7⟩:=fpk I7;exact ⟨m',hm,i+1,acc,oD,H7,(I7.weak l6.symm hw).unpinned,hS3,t7,f7,w7⟩
   |true =>
    simp only [if_true] at q7 ⊢
    refine hstep it _ _ _ _ _ _ _ _ _ _ _ _ _ _ _ _ (.inr (al _)) (fun x c e z=>?_) (fun p hp z=>?_) (hM σ σ6 k6) hlt hS3 I7 q7 fun acc' o' H8 s8 m' I8 p8 hm w8=>?_
    ·rcases cne x c e with e|e
     ·obtain ⟨v,q⟩:=I2.cell x c e;exact absurd q.lt (by rw [z];exact cu _)
     ·exact absurd e (by rw [z];exact cu _)
    ·rcases Kb.1 hp with hp|hp
     ·exact absurd (ah (I2.pin p hp).1) (by rw [z];exact cu _)
     ·exact hDf (z ▸ (xt hp).1)
    ·obtain ⟨t8,f8⟩:tn (i+1) s8.heap/\∀ b∈fp,H8 b=none:=by
      refine ⟨T.keep _ _ _ st5 fun b hb o e=>(I8.pin (b,o) (aN _ (ao _ (j8 hb e)))).1,fun b hb=>?_⟩;obtain ⟨o,e,d⟩:=T.obj _ _ st5 b hb;exact (I8.pin (b,o) (aN _ (ao _ (j8 hb e)))).2.1
     exact ⟨m',hm,i+1,acc',o',H8,(I8.weak (σ':=kj nc ix σ) l6.symm hw).pins_of fun p hp=>I8.pin p (aN _ (by rw [dC.1 hp];exact aw)),p8,t8,f8,w8⟩
 exact hst loop (T.self _ 0 _ _ _ st1 loop)
def PL (_:ac) (o:Obj) (acc:List V):Prop:=∃ its nn,o=PK its nn/\cF acc its/\acc.length<=sizeLine
def Og (X:Cx) (elt:aP) (env:Env) (D:ac) (K:aa->Prop) (s:aa):Prop:=ak (az X.prog X.w) X.A (bU elt env) (fun x s₄=>ak (az X.prog X.w) X.A (call (.builtin "list.append") [.ref D,x]) (fun _ s₅=>K s₅) (fun _ _=>False) s₄) (fun _ _=>False) s
theorem GZ {X:Cx}{elt:aP}{te:TE}{N':List Str}{scope:dW}{M:St->Prop} (pe:∀ cl C s₀ H₀ ex pn,PE (cX X N' scope cl C s₀ H₀ ex pn) elt te) :
  GY X N' scope M PL (fun acc=>acc.length<sizeLine) (fun σ H acc m V=>te σ H fun y H4=>∃ m',m'<m/\V m' (acc++[y]) H4) (Og X elt):=by
 intro cl C s₀ H₀ ex pn D pl o acc σ6 H7 s7 K m V h1 h2 h3 _ hl hP I7 q7 fin
 obtain ⟨its,nn,rfl,rv,hz⟩:=hP
 refine eK (pe cl C s₀ H₀ ex pn _ s7 σ6 H7 _ I7 q7) fun u8 s8 h_5=>?_
 obtain ⟨y,H8,I8,r8,m',hm,q8⟩:=h_5
 obtain ⟨pD,pN,_⟩:=I8.pin (D,_) (aN _ aw)
 have hv:=rv.length
 refine wpAny_list_append_plain ⟨nn,pD⟩ (hsz:=by rw [aA];omega) ?_
 intro h9 pl9 sb9
 obtain ⟨n9,e9⟩:=pl9
 have e9':h9.get? D=some (PK (its++[u8]) n9):=by rw [e9];simp
 exact fin (acc++[y]) _ H8 _ m' (I8.swap sb9 e9' (fun _ z=>nomatch z) h1 h2 h3) ⟨_,n9,rfl,rv.append (.cons r8 .nil),by rw [aI,js];omega⟩ hm q8
theorem G_ {X:Cx}{elt:aP}{f:Sem Fin}{a:Code} (hf:f=pure (.again a)) (env:Env) (D:ac) (K:aa->Prop) (s:aa) (h:Og X elt env D K s):ak (az X.prog X.w) X.A ((do let _ <- call (.builtin "list.append") [.ref D,<- bU elt env]) >>= fun _=>f) (fun f s5=>f=.again a/\K s5) (fun _ _=>False) s:=by
 subst hf;exact a5 (a5 (eK h fun x s4 h4=>a5 (eK h4 fun _ _ q=>a9 (a9 ⟨rfl,q⟩))))
theorem Dm {X:Cx}{elt tg iter:aP}{ifs:List aP}{scope:dW}{pos:Pos}{te:TE}{N':List Str}{nt:Nat}{ix:List Nat} (pe:∀ cl C s₀ H₀ ex pn,PE (cX X N' scope cl C s₀ H₀ ex pn) elt te) :
  KZ X N' scope nt nt ix (.ListComp elt [⟨tg,iter,ifs,0⟩] scope pos) tg ifs (newList []) (fun _=>HO.lst) [] (fun acc=>acc.length<sizeLine) (fun σ H acc m V=>te σ H fun y H4=>∃ m',m'<m/\V m' (acc++[y]) H4) :=
 ⟨PL,_,fun _=>Og X elt,fun _=>True,fun ⟨_,_,h,_⟩ _ z=>(by rw [h] at z;cases z),rfl,fun _=>⟨[],0,rfl,.nil,bT _⟩,fun _ ⟨its,nn,h,rv,hz⟩ e=>⟨hz,its,nn,rv,by rw [e,h]⟩,ck,fun _=>MB (iter:=iter) (fun _ _=>rfl) fun a b c d h=>G_ rfl a b c d h,codeAny_compStart_list,⟨al _,fun _ _ _=>trivial⟩,fun _=>GZ pe⟩
end
section
theorem A7
  (hc:X.calm=true) (S:mD X scope N' nt ix) (lo:Of nt g) (hi:PI X tg iter wi)
  (hb:∀ cl C s₀ H₀ ex pn,PG (cX X N' scope cl C s₀ H₀ ex pn) tg g/\KR (cX X N' scope cl C s₀ H₀ ex pn) ifs tt/\PE (cX X N' scope cl C s₀ H₀ ex pn) elt te)
  (hs:∀ x,dk iter X.env x=pure x:=by intro _;rfl):PE X (.ListComp elt [⟨tg,iter,ifs,0⟩] scope pos) (GV nt ix wi g tt te):=by
 intro pins s σ H Q I h;obtain ⟨cl,hcl,c1,c2⟩:=ql (scope:=scope) (env:=X.env) fun y hy hf=>I.ok.has y.1 (S.free y hy hf);rw [eval_ListComp];refine nZ (use:=none) rfl hs hcl S.kind S.loc (eK (hi pins s σ H _ I h) fun v s1 h1=>eK h1 fun itv s2 h2=>?_);obtain ⟨it,fp,tn,J,H2,e,I2,T,st2,f2,W,w0,turn⟩:=h2;subst e;refine BY (RR:=fun acc C=>compPost (az X.prog X.w) X.A X.xe none (EP X pins σ Q) acc C) (Dm fun a b c d e f=>(hb a b c d e f).2.2) hc S lo (fun a b c d e f=>⟨(hb a b c d e f).1,(hb a b c d e f).2.1⟩) c1 c2 I2 T st2 f2 w0 turn ?_;intro D C m s' acc H' hD _ q hn hI;exact ⟨m,hn,fun h' sb=>⟨.ref D,_,hI h' sb,rfl,q⟩⟩
def PM (i:Nat) (te:TE):TS:=fun D σ H=>te σ H fun x H1=>D.nx (σ.set i (some x)) H1
theorem BZ
  (hN:X.N.Nodup) (hiN:X.N[i]?=some y) (hy:X.env.scope.names.lookup y=some .local)
  (hc:X.calm=true) (S:mD X scope N' nt ix) (lo:Of nt g) (hi:PI X tg iter wi)
  (hb:∀ cl C s₀ H₀ ex pn,PG (cX X N' scope cl C s₀ H₀ ex pn) tg g/\KR (cX X N' scope cl C s₀ H₀ ex pn) ifs tt/\PE (cX X N' scope cl C s₀ H₀ ex pn) elt te)
  (hsw:iB (.ListComp elt [⟨tg,iter,ifs,0⟩] scope pos) (some (.Name y py)) spos.line X.env=pure true:=by rfl)
  (hs:∀ x,dk iter X.env x=pure x:=by intro _;rfl):PS X (.Assign [.Name y py] (.ListComp elt [⟨tg,iter,ifs,0⟩] scope pos) spos) (PM i (GV nt ix wi g tt te)):=by
 intro pins s σ H D I h;obtain ⟨cl,hcl,c1,c2⟩:=ql (scope:=scope) (env:=X.env) fun y hy hf=>I.ok.has y.1 (S.free y hy hf);rw [exec_Assign_Name_used _ _ _ _ hsw];refine a5 (kP (a5 ?_));show ak _ X.A (do let _ <- comprehension (.ListComp elt [⟨tg,iter,ifs,0⟩] scope pos) scope X.env _ (newList []) false (bU iter X.env) (some (ms (.Name y py) X.env))) _ _ s;refine a5 (c6 (nZ (use:=some (ms (.Name y py) X.env)) (Q:=fun _ s'=>SP X pins D .next s') rfl hs hcl S.kind S.loc
  (eK (hi pins s σ H _ I h) fun v s1 h1=>eK h1 fun itv s2 h2=>?_)) (fun _ s' hq=>a9 (a9 hq)) fun _ _ e=>e)
 obtain ⟨it,fp,tn,J,H2,e,I2,T,st2,f2,W,w0,turn⟩:=h2;subst e;refine BY (Q:=fun x H1=>D.nx (σ.set i (some x)) H1) (RR:=fun acc C=>compPost (az X.prog X.w) X.A X.xe (some (ms (.Name y py) X.env)) (fun _ s'=>SP X pins D .next s') acc C) (Dm fun a b c d e f=>(hb a b c d e f).2.2) hc S lo (fun a b c d e f=>⟨(hb a b c d e f).1,(hb a b c d e f).2.1⟩) c1 c2 I2 T st2 f2 w0 turn ?_;intro L C m s' acc H' hD fC q hn hI;show ak _ X.A (ms (.Name y py) X.env (.ref L)) _ _ _;have I3:bj X pins σ (upd H' L (.lst acc)) s':=hI s'.heap (.refl ..);refine wpAny_assign_Name (xr I3 hN hiN (.inl hy) (v:=.ref L) rfl (fun s4 I4 ⟨a,sb,ha⟩=>?_) (.inr hy));obtain ⟨g0,g1,g2,g3,g4,g5⟩:=fC;have hCa:C≠a:=by
  rcases ha with z|z
  ·rw [z];exact g1
  ·exact fun e=>g4 y a z e.symm
 refine ⟨m,hn.sameBut sb hCa,fun h5 sb5=>?_⟩;exact ⟨_,_,I4.turned (t':=s4.toks) (fun b o hb e=>(sb5.2 b hb).trans e) g0 g1 g3 g4 g5,q⟩
end
section
def B_ (e:Int×a8):Str:=match e.2 with
 |.str x _=>x
 |_=>⟨#[]⟩
def vc (w:aY) (e:Int×a8):Prop:=∃ x tk,e=(hashStr w x,iF x tk)
structure iK (w:aY) (h:ba) (a:ac) (es:Array (Int×a8)) (ep:Nat) (t:sD):Prop where
 at_:h.get? a=some { cls:=.type "set",dict:=none,data:=.set es ep t }
 txt:∀ e∈es.toList,vc w e
 nd:(es.toList.map B_).Nodup
 few:es.size<fL
 fits:t.fits es.size=true
 led:t.led=!w.params.followText "set-order"
 pl:es.size=0\/t.plain=false
inductive lX (w:aY) (h:ba) (a:ac) (ss:List Str):Prop
 |mk (es ep t:_) (h0:iK w h a es ep t) (h1:(es.toList.map B_).Perm ss):lX w h a ss
theorem C0 (t:sD) (es:Array (Int×a8)) (h:Int) (x:a8):(layNew t es h x).2.1.led=t.led:=by
 unfold layNew;cases t.freeSlot h with
 |none=>rfl
 |some p =>
  obtain ⟨slot,d⟩:=p;show ((t.put slot).1.orStandIn _).led=_;unfold Bb;split<;>rfl
theorem yx (t:sD) (es:Array (Int×a8)) (h:Int) (x:a8):t.plain=false->(layNew t es h x).2.1.plain=false:=by
 intro hp;unfold layNew;cases t.freeSlot h with
 |none=>rfl
 |some p =>
  obtain ⟨slot,d⟩:=p;show ((t.put slot).1.orStandIn _).plain=_;unfold Bb;split
  ·exact hp
  ·rfl
theorem A8 {t t':sD}{hs:Array Int}{n:Nat}{o:Array Nat} (h:t.relaid hs n=some (t',o)):t'.led=t.led/\t'.plain=t.plain:=by
 unfold SetTable.relaid SetTable.laid at h;cases e:SetTable.layClean (SetTable.sizeAbove n-1) hs with
 |none=>rw [e] at h;cases h
 |some ow =>
  rw [e] at h;have h:=bt h;have h1:=congrArg Prod.fst h;subst h1;exact ⟨rfl,rfl⟩
theorem EN (t:sD) (es:Array (Int×a8)) (n:Nat):(sF t es n).2.1.led=t.led/\(t.plain=false->(sF t es n).2.1.plain=false):=by
 unfold sF;cases e:t.relaid (es.map (·.1)) n with
 |none=>exact ⟨rfl,fun _=>rfl⟩
 |some p =>
  obtain ⟨t',o⟩:=p;obtain ⟨h1,h2⟩:=A8 e;dsimp only;split
  ·exact ⟨h1,fun h=>h2.trans h⟩
  ·exact ⟨rfl,fun _=>rfl⟩
theorem H9   (h:∀ e∈l,vc w e):ElemsOf (strKind P w) l:=fun e he=>by
 obtain ⟨x,tk,rfl⟩:=h e he;exact ⟨⟨x,by simp [PySem.strKind,qO],rfl⟩,rfl⟩
theorem Rh (P:aH) (w:aY) (x:Str) (tk:Tok):(strKind P w).is x (.str x tk)=true:=by simp [PySem.strKind,qO]
theorem Dn   (h:vc w e) (x:Str):(strKind P w).is x e.2=true↔B_ e=x:=by
 obtain ⟨y,tk,rfl⟩:=h;constructor
 ·intro q;have:=(strKind P w).inj _ _ _ q (Rh P w y tk);rw [this];rfl
 ·rintro rfl;exact Rh P w _ tk
section
theorem Do     (I:iK w h a es ep t):(h.update a (sG es' t')).get? a=some { cls:=.type "set",dict:=none,data:=.set es' (ep+1) t' }:=by
 have q:=g9 (sG es' t') I.at_ rfl;exact q
theorem EO     (hS:lX w s.heap a ss) (hr:ss.length+1<fL)
  (h:∀ h' tk',c9 a s.heap h'->lX w h' a (if x∈ss then ss else ss++[x])->Q (!decide (x∈ss)) { s with heap:=h',toks:=tk' }) :
  ak (az P w) A (setAddHashed a (.str x tk) ((strKind P w).hash x)) Q E s:=by
 obtain ⟨es,ep,t,I,pm⟩:=hS
 have hlen:es.size=ss.length:=by rw [<- pm.length_eq,au,aO]
 have hel:ElemsOf (strKind P w) es.toList:=H9 I.txt
 unfold setAddHashed setAddHashedIn
 refine cG (a5 (en (s:=s) I.at_ rfl I.fits ?_))
 dsimp only
 rw [byScan_of rfl I.few hel]
 rw [if_pos rfl]
 unfold setAddByScan
 refine a5 (a5 (ft (a5 (wpAny_setScan_of (s:=s) (Rh P w x tk) I.at_ rfl I.fits hel ?_))))
 have inmem:x∈ss↔∃ e∈es.toList,(strKind P w).is x e.2=true:=by
  rw [<- pm.mem_iff,Bc]
  constructor
  ·rintro ⟨e,he,q⟩;exact ⟨e,he,(Dn (I.txt e he) x).mpr q⟩
  ·rintro ⟨e,he,q⟩;exact ⟨e,he,(Dn (I.txt e he) x).mp q⟩
 cases hf:List.findIdx? (fun e=>(strKind P w).is x e.2) es.toList with
 |some j =>
  obtain ⟨hj,hp,_⟩:=List.findIdx?_eq_some_iff_getElem.mp hf
  have hin:x∈ss:=inmem.mpr ⟨_,jy hj,hp⟩
  have q:=h s.heap s.toks (.refl ..) (by rw [if_pos hin];exact ⟨es,ep,t,I,pm⟩)
  rw [decide_eq_true hin] at q
  exact a9 (a9 q)
 |none =>
  have hout:x∉ss:=fun z=>by
   obtain ⟨e,he,q⟩:=inmem.mp z
   rw [List.findIdx?_eq_none_iff.mp hf e he] at q
   cases q
  have h:=fun h' tk' sb=>h h' tk' sb
  rw [decide_eq_false hout,if_neg hout] at h
  have p1:=layNew_perm t es ((strKind P w).hash x) (.str x tk)
  have f1:=layNew_fits t es ((strKind P w).hash x) (.str x tk)
  have l1:=C0 t es ((strKind P w).hash x) (.str x tk)
  have q1:=yx t es ((strKind P w).hash x) (.str x tk)
  generalize layNew t es ((strKind P w).hash x) (.str x tk)=L at p1 f1 l1 q1 ⊢
  obtain ⟨es1,t1,wd,gv⟩:=L
  dsimp only at p1 f1 l1 q1 ⊢
  rw [G0] at p1
  have tx1:∀ e∈es1.toList,vc w e:=fun e he=>by
   rcases List.mem_append.mp (p1.mem_iff.mp he) with z|z
   ·exact I.txt e z
   ·rw [dC] at z;exact ⟨x,tk,z⟩
  have km:(es1.toList.map B_).Perm (ss++[x]):=(p1.map B_).trans (by rw [fV];exact pm.append_right _)
  have nd1:(ss++[x]).Nodup:=by
   rw [Gi]
   exact ⟨pm.nodup_iff.mp I.nd,by simp,fun y hy z hz e=>hout (by rw [dC] at hz;rw [<- hz,<- e];exact hy)⟩
  have sz1:es1.size=es.size+1:=by rw [<- aO,p1.length_eq,aI,aO];rfl
  have few1:es1.size<fL:=by omega
  have gw:∀ (b:Bool) {s₁:aa}{Q':Unit->aa->Prop},Q' () s₁->ak (az P w) A (match b with|true=>rule "set.scan.the-table-gave-way" | false=>pure ()) Q' E s₁ :=
   fun b _ _ z=>by cases b<;>first|exact a9 z|exact ft z
  have tail:∀ t2:sD,t2.fits es1.size=true->t2.led=t.led->t2.plain=false->ak (az P w) A (do
    storeSet a es1 t2
    if (!wd&&t2.tooFull)=true then do
      (match (sF t2 es1 (gd es1.size)).2.2 with|true=>rule "set.scan.the-table-gave-way" | false=>pure ())
      storeSet a (sF t2 es1 (gd es1.size)).1 (sF t2 es1 (gd es1.size)).2.1
      pure (some true)
     else pure (some true)) (fun r s'=>r=some true/\Q true s') E s:=fun t2 f2 l2 n2=>by
   refine a5 (wpAny_storeSet_of (s:=s) I.at_ rfl ?_ (nP few1))
   have at1:=Do (es':=es1) (t':=t2) I
   have sb1:=cE s.heap a (sG es1 t2)
   have I1:iK w (s.heap.update a (sG es1 t2)) a es1 (ep+1) t2:=⟨at1,tx1,km.nodup_iff.mpr nd1,few1,f2,l2.trans I.led,.inr n2⟩
   split
   ·have p2:=relayAll_perm t2 es1 (gd es1.size)
    have f3:=relayAll_fits t2 es1 (gd es1.size)
    have l3:=EN t2 es1 (gd es1.size)
    generalize sF t2 es1 (gd es1.size)=R3 at p2 f3 l3 ⊢
    obtain ⟨es2,t3,gv2⟩:=R3
    dsimp only at p2 f3 l3 ⊢
    have few2:es2.size<fL:=by rw [<- aO,p2.length_eq,aO];exact few1
    have km2:=(p2.map B_).trans km
    refine a5 (gw _ (a5 (wpAny_storeSet_of (s:={ s with heap:=s.heap.update a (sG es1 t2) }) I1.at_ rfl ?_ (nP few2))))
    refine a9 ⟨rfl,h _ _ (sb1.trans (cE _ a _)) ⟨es2,ep+1+1,t3,⟨Do I1,fun e he=>tx1 e (p2.mem_iff.mp he),km2.nodup_iff.mpr nd1,few2,f3,l3.1.trans (l2.trans I.led),.inr (l3.2 n2)⟩,km2⟩⟩
   ·exact a9 ⟨rfl,h _ _ sb1 ⟨es1,ep+1,t2,I1,km⟩⟩
  refine a5 (gw gv ?_)
  cases hp:t1.plain with
  |true =>
   simp only [if_true]
   rw [hashByValue_scannable 8 (x:=.str x tk) rfl]
   refine a5 (a9 ?_)
   refine c6 (tail { t1 with plain:=false } (by cases t1;exact f1) l1 rfl) (fun r s' z=>?_) fun _ _ z=>z
   obtain ⟨rfl,z⟩:=z
   exact a9 z
  |false =>
   simp only [bg,if_false]
   refine a5 (a9 ?_)
   refine c6 (tail t1 f1 l1 hp) (fun r s' z=>?_) fun _ _ z=>z
   obtain ⟨rfl,z⟩:=z
   exact a9 z
theorem A9     (hS:lX w s.heap a ss) (hr:ss.length+1<fL)
  (h:∀ h' tk',c9 a s.heap h'->lX w h' a (if x∈ss then ss else ss++[x])->Q (!decide (x∈ss)) { s with heap:=h',toks:=tk' }) :
  ak (az P w) A (setAdd a (.str x tk)) Q E s:=by
 unfold setAdd;refine cG (a5 ((strKind P w).pyHash (k:=x) (Rh P w x tk) ?_));exact EO (s:={ s with toks:=s.toks+1 }) hS hr h
end
end
section
abbrev jm (w:aY):Obj:={ cls:=.type "set",dict:=none,data:=.set #[] 0 (.fresh 0 0 (!w.params.followText "set-order")) }
theorem xE (w:aY)  (e:h.get? a=some (jm w)):lX w h a [] :=
 ⟨#[],0,_,⟨e,fun e he=>by simp at he,by simp,by decide,rfl,rfl,.inl rfl⟩,by simp⟩
def dE:List Str->List Str->List Str
 |acc,[]=>acc
 |acc,x::r=>dE (if x∈acc then acc else acc++[x]) r
theorem lY:∀ (l acc:List Str) (x:Str),x∈dE acc l↔x∈acc\/x∈l
 |[],acc,x=>by simp [dE]
 |y::r,acc,x=>by
  rw [dE,lY r];by_cases h:y∈acc
  ·rw [if_pos h];simp only [aQ];constructor
   ·exact fun z=>z.elim .inl fun z=>.inr (.inr z)
   ·rintro (z|z|z)
    ·exact .inl z
    ·exact .inl (z ▸ h)
    ·exact .inr z
  ·rw [if_neg h];simp [Kb,or_assoc]
theorem l8:∀ (l acc:List Str),acc.Nodup->(dE acc l).Nodup
 |[],acc,h=>h
 |y::r,acc,h=>by
  rw [dE];refine l8 r _ ?_;by_cases hy:y∈acc
  ·rw [if_pos hy];exact h
  ·rw [if_neg hy,Gi];exact ⟨h,by simp,fun a ha b hb e=>hy (by rw [dC] at hb;rw [<- hb,<- e];exact ha)⟩
theorem jM:∀ (l acc:List Str),(dE acc l).length<=acc.length+l.length
 |[],acc=>by simp [dE]
 |y::r,acc=>by
  rw [dE];have:=jM r (if y∈acc then acc else acc++[y]);by_cases hy:y∈acc
  ·rw [if_pos hy] at this ⊢;simp only [aD];omega
  ·rw [if_neg hy] at this ⊢;simp only [aD,aI,js,eR] at this ⊢;omega
section
theorem lX.keep   (x:lX w h a ss) (k:∀ o,h.get? a=some o->h'.get? a=some o):lX w h' a ss :=
 let ⟨es,ep,t,I,p⟩:=x;⟨es,ep,t,⟨k _ I.at_,I.txt,I.nd,I.few,I.fits,I.led,I.pl⟩,p⟩
theorem wL {I:ac}{fp wr:List ac}{n:Nat}{Pv:Nat->a8->Prop}{St:Nat->ba->Prop} (W:Kc prog w A.in1 I fp wr n Pv St) (D:ac) (hD:D∉fp) (xs:List Str) (hx:xs.length=n)
  (hv:∀ i v,Pv i v->∃ x t,xs[i]?=some x/\v=.str x t) (hb:n+1<fL) :
  ∀ (k i:Nat) (s:aa) (acc:List Str),n-i=k->i<=n->acc.length<=i->St i s.heap->lX w s.heap D acc ->
   (∀ h' tk,(∀ b o,b∉D::wr->s.heap.get? b=some o->h'.get? b=some o)->lX w h' D (dE acc (xs.drop i))->R (.ok (.ret .none)) { s with heap:=h',toks:=tk }) ->
   gx (az prog w) A (.builtin "set.update.loop" ⟨[.ref D,.ref I],[]⟩) R s:=by
 have hDw:D∉wr:=fun z=>hD (W.sub _ z);intro k;induction k with
 |zero =>
  intro i s acc hk hi hl st hS hR;obtain rfl:i=n:=by omega
  refine gQ mn ?_;rw [gM fW _];show ak _ A.in1 (mx (.ref I) >>= _) _ _ s;refine a5 (W.done s _ _ st fun h' tk kp=>?_);refine a9 (hR h' tk (fun b o hb e=>kp b o (fun z=>hb (ao _ z)) e) ?_);rw [List.drop_of_length_le (by omega)];exact hS.keep fun o e=>kp D o hDw e
 |succ k ih =>
  intro i s acc hk hi hl st hS hR;have hlt:i<n:=by omega
  refine gQ mn ?_;rw [gM fW _];show ak _ A.in1 (mx (.ref I) >>= _) _ _ s;refine a5 (W.item i s _ _ hlt st fun v h' tk hP st' kp=>?_);obtain ⟨x,t,hxi,rfl⟩:=hv i v hP;have hS':lX w h' D acc:=hS.keep fun o e=>kp D o hDw e;refine a5 (cG (A9 (s:={ s with heap:=h',toks:=tk }) hS' (by omega) fun h2 tk2 sb hS2=>?_));refine a9 ⟨uy fW _,ih (i+1) _ (if x∈acc then acc else acc++[x]) (by omega) hlt ?_ (W.frame _ _ _ st' fun b hb o e=>?_) hS2 fun h3 tk3 k3 hS3=>?_⟩
  ·by_cases z:x∈acc
   ·rw [if_pos z];omega
   ·rw [if_neg z,aI,js];omega
  ·rw [sb.2 b fun z=>hD (z ▸ hb)];exact e
  ·refine hR h3 tk3 (fun b o hb e=>k3 b o hb ?_) ?_
   ·rw [sb.2 b fun z=>hb (by rw [z];exact aw)];exact kp b o (fun z=>hb (ao _ z)) e
   ·have hd:xs.drop i=x::xs.drop (i+1):=by
     obtain ⟨h1,h2⟩:=List.getElem?_eq_some_iff.mp hxi;rw [List.drop_eq_getElem_cons h1,h2]
    rw [hd,dE];exact hS3
theorem Ha (a:a8) (h:Q₁ (.ref s.heap.objs.size) { s with heap:=s.heap.push (jm w) }) :
  gx (az prog w) A (.call (.builtin "set.__new__") ⟨[.type "set",a],[]⟩) (wants Q₁ E) s:=by
 refine zT ?_;show ak _ A.in1 (do checkBuiltinCall "set.__new__" ⟨[.type "set",a],[]⟩;again (.builtin "set.__new__" ⟨[.type "set",a],[]⟩)) _ _ s;refine a5 (sH (F.newCall_set_1 a) (a9 ⟨uy F.plain_set_new _,gQ F.entry_set_new ?_⟩));rw [gM F.plain_set_new _];unfold gC.«set.__new__» Kd;have hsub:=sub_set_self;obtain ⟨hp,g,d,tk,os⟩:=s;dsimp only;wp_walk;refine iD (a9 ?_);dsimp only;simp only [newObj];refine a5 (Ka (a9 ?_));exact a9 h
structure Oh (prog:aH) (w:aY) (A:aZ) (T:String) (l:ac) (o:Obj) (items:Array a8):Prop where
 ty:o.cls=.type T
 s1:isSubtype (.type T) (.type "set")=pure false
 s2:isSubtype (.type T) (.type "frozenset")=pure false
 nd:(gO T==gO "dict")=false
 iter:∀ (s:aa) (Q:a8->aa->Prop) (E:a8->aa->Prop),s.heap.get? l=some o ->
  (∀ ob St,Kc prog w A.in1 s.heap.objs.size [s.heap.objs.size,l] [s.heap.objs.size] items.size (fun i v=>items[i]?=some v) St->St 0 (s.heap.push ob)->Q (.ref s.heap.objs.size) { s with heap:=s.heap.push ob })->ak (az prog w) A (uP (.ref l)) Q E s
theorem rq {T:String}{l:ac}{ol:Obj}{items:Array a8}{xs:List Str}{Q:a8->aa->Prop}
  (src:Oh prog w A.in1.in1 T l ol items) (hol:s.heap.get? l=some ol) (hi:∀ (i:Nat) (v:a8),items[i]?=some v->∃ x t,xs[i]?=some x/\v=iF x t) (hx:xs.length=items.size) (hb:items.size+1<fL)
  (h:∀ (h':ba) (tk:Nat),lX w h' s.heap.objs.size (dE [] xs)->(∀ b o,s.heap.get? b=some o->h'.get? b=some o)->Q (.ref s.heap.objs.size) { s with heap:=h',toks:=tk }) :
  ak (az prog w) A (call (.type "set") [.ref l]) Q E s:=by
 obtain ⟨c,tl,hmro⟩:=F.called_set.mro;have hmade:=F.called_set.made;have hsub:=F.called_set.sub;refine uS (zT ?_);show ak _ _ (callAny (.type "set") _) _ _ _;refine a9 ⟨G1 _ (by decide +kernel),gQ F.entry_type_call ?_⟩;rw [Around.under_plain (weight_type_call_type "set" [.ref l] []) rfl];have h1:=F.called_set.notType;have h2:=F.called_set.canCreate;have hct:=F.typeCall_set_1 (.ref l);repeat (any_goals (first|assumption|wp_step))
 refine lO (Ha (.ref l) (E:=E) (Q₁:=fun obj s₁=>obj=.ref s.heap.objs.size/\s₁={ s with heap:=s.heap.push (jm w) }) ⟨rfl,rfl⟩) fun r s₁ hr=>?_;cases r with
 |error e=>exact hr
 |ok fl =>
  cases fl with
  |ret obj =>
   obtain ⟨rfl,rfl⟩:=hr;have hS:(s.heap.push (jm w)).get? s.heap.objs.size=some (jm w):=aj _ rfl;have hT:Ke { s with heap:=s.heap.push (jm w) } (.ref s.heap.objs.size) "set":=⟨_,hS,rfl⟩;have hli:=F.called_set.init.lookup;have hbi:=F.called_set.init.bind (.ref s.heap.objs.size);repeat (any_goals (first|assumption|wp_step))
   refine lO (sI (R:=wants (fun r s₂=>r=.none/\∃ h' tk,s₂={ s with heap:=h',toks:=tk }/\lX w h' s.heap.objs.size (dE [] xs) /\
     (∀ b o,s.heap.get? b=some o->h'.get? b=some o)) E) F.called_set.init.plain F.entry_set_init (check_set_init_1 hT ?_)) fun r₂ s₂ hr₂=>?_
   ·obtain ⟨oc,od,odt,os'⟩:=ol;obtain ⟨ty,s1,s2,nd,iter⟩:=src;have ty:oc=.type T:=ty;subst ty;have hol':(s.heap.push (jm w)).get? l=some { cls:=.type T,dict:=od,data:=odt,slots:=os' }:=a7 _ hol;unfold gC.«set.__init__» noKeywords Kf;generalize hPI:uP=PI;wp_walk;subst hPI;refine iter { s with heap:=s.heap.push (jm w) } _ _ hol' fun ob St W st=>?_;have hlS:l<s.heap.objs.size:=ah hol;refine a5 (wpAny_runValue ?_);have szp:(s.heap.push (jm w)).objs.size=s.heap.objs.size+1:=bC ..;refine wL (A:=A.in1.in1) W s.heap.objs.size (by rw [szp];simp only [aQ,aG,or_false,not_or];exact ⟨aE (hX _),dI hlS⟩) xs hx hi hb items.size 0 _ [] (by omega) (bT _) (al _) st (xE w (a7 _ hS)) fun h' tk kp hS'=>?_;show ak _ _ _ _ _ _;refine a9 ?_;show ak _ _ (ret dZ) _ _ _;refine a9 ⟨rfl,h',tk,rfl,hS',fun b o e=>kp b o ?_ (a7 _ (a7 _ e))⟩;have:=ah e;rw [szp];simp only [aQ,aG,or_false,not_or];exact ⟨aE this,aE (gL this)⟩
   ·cases r₂ with
    |error e=>exact hr₂
    |ok fl₂ =>
     cases fl₂ with
     |ret r =>
      obtain ⟨rfl,h',tk,rfl,hS',hk'⟩:=hr₂;repeat (any_goals (first|assumption|wp_step))
      exact h _ _ hS' hk'
     |next=>exact hr₂.elim
     |brk=>exact hr₂.elim
     |cont=>exact hr₂.elim
  |next=>exact hr.elim
  |brk=>exact hr.elim
  |cont=>exact hr.elim
theorem Hb {l:ac}{o:Obj}{its:List a8} (hh:A.handled=none) (e0:o.cls=.type "list") (e1:∃ n,o.data=.seq its.toArray n):Oh prog w A "list" l o its.toArray :=
 ⟨e0,F.sub_list_set,F.sub_list_frozenset,by decide,fun s Q E e h=>hJ ⟨_,e,e0,e1⟩
  (h _ _ (wy (by simpa using hh) _ l (aE (ah e)) its.toArray) ⟨⟨_,aj _ rfl,rfl,rfl⟩,⟨_,a7 _ e,e0,e1⟩⟩)⟩
theorem K_ {l:ac}{o:Obj}{its:List a8} (hh:A.handled=none) (e0:o.cls=.type "tuple") (e1:∃ n,o.data=.seq its.toArray n):Oh prog w A "tuple" l o its.toArray :=
 ⟨e0,F.sub_tuple_set,F.sub_tuple_frozenset,by decide,fun s Q E e h=>dR ⟨_,e,e0,e1⟩
  (h _ _ (Walks.tuple (by simpa using hh) _ l (aE (ah e)) its.toArray) ⟨⟨_,aj _ rfl,rfl,rfl⟩,⟨_,a7 _ e,e0,e1⟩⟩)⟩
end
end
end L2
section
namespace L2
open PySem PySem.Spec PyProof.Rows
namespace SI
theorem entry_iter:entryFor table "set.__iter__"=some gC.«frozenset.__iter__» :=
 entryFor_alias (id':="frozenset.__iter__") (by kernel_rfl) rfl (by decide +kernel) (by kernel_rfl)
theorem slot_next:Slot "set_iterator" "__next__" "set_iterator.__next__":=by
 refine .of (owner:="set_iterator") (n:="__next__") ?_ ?_ ?_ ?_ ?_ ?_
 ·rw [typeLookup_type,JY];kernel_rfl
 ·decide +kernel
 ·decide +kernel
 ·decide +kernel
 ·first
   |exact .inl (by decide +kernel)
   |exact .inr (by decide +kernel)
 ·rw [BA];kernel_rfl
theorem entry_next:entryFor table "set_iterator.__next__"=some gC.«set_iterator.__next__» :=
 entryFor_of_tree (by kernel_rfl)
theorem Aa:Manifest.owners.lookup (String.ofList ['r','o','t','a','r','e','t','i','_','t','e','s'].reverse)=some Manifest.sig_set_iterator:=by kernel_rfl
theorem args_next (a:a8):argsOk "set_iterator.__next__" ⟨[a],[]⟩:=by
 unfold argsOk;rw [signature?_of (id:="set_iterator.__next__") (n:=['_','_','t','x','e','n','_','_']) (o:=['r','o','t','a','r','e','t','i','_','t','e','s']) (by kernel_rfl) Aa]
 kernel_rfl
theorem args_iter (a:a8):argsOk "set_iterator.__iter__" ⟨[a],[]⟩:=by
 unfold argsOk;rw [signature?_of (id:="set_iterator.__iter__") (n:=['_','_','r','e','t','i','_','_']) (o:=['r','o','t','a','r','e','t','i','_','t','e','s']) (by kernel_rfl) Aa]
 kernel_rfl
theorem entry_self:entryFor table "set_iterator.__iter__"=some gC.«dict_keyiterator.__iter__» :=
 entryFor_alias (id':="dict_keyiterator.__iter__") (by kernel_rfl) rfl (by decide +kernel) (by kernel_rfl)
theorem slot_iter:Slot "set_iterator" "__iter__" "set_iterator.__iter__":=by
 refine .of (owner:="set_iterator") (n:="__iter__") ?_ ?_ ?_ ?_ ?_ ?_
 ·rw [typeLookup_type,JY];kernel_rfl
 ·decide +kernel
 ·decide +kernel
 ·decide +kernel
 ·first
   |exact .inl (by decide +kernel)
   |exact .inr (by decide +kernel)
 ·rw [BA];kernel_rfl
end SI
end L2
end
namespace L2
open PySem PySem.Spec PyProof.Rows
section
theorem qm {α:Type}:∀ {l:List α}{i:Nat} (h:i<l.length),(l[i]::l.eraseIdx i).Perm l
 |x::r,0,_=>.refl _
 |x::r,i+1,h=>by
  have q:=qm (l:=r) (i:=i) (by simpa using h);rw [List.getElem_cons_succ,List.eraseIdx_cons_succ];exact (List.Perm.swap _ _ _).trans (q.cons x)
section
theorem EQ   (hn:n≠0) (h:∀ i d,i<n->Q i { s with drawn:=d }):ak M A (choose src n) Q E s :=
 fun _ _ _=>⟨hn,h _ _ (Nat.mod_lt _ (Nat.pos_of_ne_zero hn))⟩
theorem rz {α:Type}:∀ (n:Nat) (xs:List α) (s:aa) (Q:List α->aa->Prop),n=xs.length->(∀ ys d,ys.Perm xs->Q ys { s with drawn:=d })->ak M A (drawOrder n xs) Q E s
 | 0,xs,s,Q,hn,h=>by
  obtain rfl:xs=[]:=List.length_eq_zero_iff.mp hn.symm;exact a9 (h [] s.drawn .nil)
 |n+1,[],s,Q,hn,h=>by cases hn
 |n+1,x::r,s,Q,hn,h=>by
  show ak M A (choose .order (x::r).length >>= _) Q E s;refine a5 (EQ (by simp) fun i d hi=>?_);rw [b9 hi];refine a5 (rz n _ _ _ (by rw [xj hi];omega) fun ys d' p=>a9 ?_);exact h _ _ ((p.cons _).trans (qm hi))
end
theorem yy {α:Type} (next:Nat->Nat):∀ (n k:Nat) (left:List α) (out:Array α),n=left.length->(wz next n k left out).toList.Perm (out.toList++left)
 | 0,k,left,out,hn=>by
  obtain rfl:left=[]:=List.length_eq_zero_iff.mp hn.symm;rw [wz,bP]
 |n+1,k,left,out,hn=>by
  have hl:next k % left.length<left.length:=Nat.mod_lt _ (by omega)
  rw [wz,b9 hl];refine (yy next n (k+1) _ _ (by rw [xj hl];omega)).trans ?_;rw [G0,gz];exact (qm hl).append_left _
theorem xF {α:Type} (next:Nat->Nat) (xs:Array α):(mq next xs).toList.Perm xs.toList:=by
 have:=yy next xs.size 0 xs.toList #[] (by simp)
 simpa [mq] using this
def yz (h:ba) (I S:ac) (first:a8) (i n ep:Nat):Prop:=h.get? I=some { cls:=.type "set_iterator",data:=.fields #[first,.int i 0,.ref S,.int n 0,.int ep 0] }
section
theorem yz.put {f f':a8}{j j':Nat}{k:Nat}{x:a8}{h:ba} (hit:yz h I S f j n ep) (e:(#[f,.int j 0,.ref S,.int n 0,.int ep 0] : Array a8).setIfInBounds k x=#[f',.int j' 0,.ref S,.int n 0,.int ep 0]) :
  yz (h.update I (eE (·.setIfInBounds k x))) I S f' j' n ep:=by
 have q:=g9 (eE (·.setIfInBounds k x)) hit rfl;unfold yz;rw [q];show some ({ cls:=.type "set_iterator",data:=.fields ((#[f,.int j 0,.ref S,.int n 0,.int ep 0] : Array a8).setIfInBounds k x) }:Obj)=_;rw [e]
theorem o_ (hit:yz s.heap I S first i n ep) (hS:iK w s.heap S es ep t) (hn:n=es.size)
  (h:ak (az prog w) A.in1 (do
   if let .int slot _:=first then
    match <- Gj S slot.toNat i ep with
    |some (x,next) =>
     fM (.ref I) 0 (bM next)
     fM (.ref I) 1 (bM (i+1))
     ret x
    |none=>fM (.ref I) 2 .none;sJ (<- uW (.type "StopIteration") [])
   else
    let some places <- G3 first|Kg "internal:set_iterator"
    match places[i]? with
    |some (.int place _) =>
     let x <- setNextDrawn S place.toNat ep
     fM (.ref I) 1 (bM (i+1))
     ret x
    |some _=>Kg "internal:set_iterator"
    |none=>fM (.ref I) 0 (bM 0);fM (.ref I) 2 .none;sJ (<- uW (.type "StopIteration") []))
   (fun fin s'=>∃ v,fin=.done (.ret v)/\Q (some v) s') (fun e s'=>ak (az prog w) A (BB e (.type "StopIteration")) (fun b s''=>b=true/\Q none s'') E s') s) :
  ak (az prog w) A (mx (.ref I)) Q E s:=by
 unfold mx;refine a5 (gU ?_);refine bK (name:=bc "__next__") ⟨_,hit,rfl⟩ SI.slot_next ?_;refine bV SI.slot_next ⟨_,hit,rfl⟩ SI.entry_next ?_ (SI.args_next _);show ak _ _ (fieldsOf (.ref I) >>= _) _ _ s;refine a5 (wpAny_fieldsOf hit rfl ?_);show ak _ _ (setEntries S >>= _) _ _ s;refine a5 (wpAny_setEntries_of hS.at_ rfl hS.fits ?_);rw [if_neg (by rw [hn];simp)];refine c6 h (fun fin s' z=>?_) fun e s' z=>?_
 ·obtain ⟨v,rfl,q⟩:=z;exact ⟨v,rfl,a9 q⟩
 ·refine a5 (c6 z (fun b s'' ⟨hb,q⟩=>?_) fun _ _ z=>z);subst hb;exact a9 q
theorem yA {B:aZ}{Q:Option a8->aa->Prop}{Q':Fin->aa->Prop}{o:Obj}{vs:Array a8} (hh:B.handled=none) (ho:s.heap.get? I=some o) (hd:o.data=.fields vs) (hz:2<vs.size)
  (h:∀ h',Heap.ExtBut I s.heap h'->Q none { s with heap:=h' }) :
  ak (az prog w) B (do fM (.ref I) 2 .none;sJ (<- uW (.type "StopIteration") []))
   Q' (fun e s'=>ak (az prog w) A (BB e (.type "StopIteration")) (fun b s''=>b=true/\Q none s'') E s') s:=by
 refine a5 (i8 ho hd hz ?_);show ak _ _ (uW (.type "StopIteration") [] >>= _) _ _ _;refine a5 ?_;simp only [uW,newTuple];refine a5 (ck ?_ (by size_fits));refine a5 (m:=sK _ _) (sH (a:=dZ) ?_ ?_)
 ·first
   |rfl
   |(simp only [sK];rfl)
 refine ck ?_ (by size_fits);simp only [sJ];refine a5 (wpAny_handled ?_);rw [hh];refine a5 (a9 (wpAny_throw ?_));refine kf (T:="StopIteration") (b:=true) ⟨_,aj _ rfl,rfl⟩ sL ⟨rfl,?_⟩;exact h _ (((cE ..).extBut.push _).push _)
end
end
section
section
variable {prog:aH}{w:aY}{A:aZ}{E:a8->aa->Prop}{s:aa}{I S:ac}{es:Array (Int×a8)}{ep:Nat}{t:sD}{i n:Nat}{first:a8}
theorem iK.keep (x:iK w h S es ep t) (k:∀ o,h.get? S=some o->h'.get? S=some o):iK w h' S es ep t:=⟨k _ x.at_,x.txt,x.nd,x.few,x.fits,x.led,x.pl⟩
theorem yB {Q:a8->aa->Prop} (hit:yz s.heap I S first i n ep) (h:Q (.ref I) s):ak (az prog w) A (uP (.ref I)) Q E s:=by
 refine wpAny_pyIter_slot ⟨_,hit,rfl⟩ SI.slot_iter (bV SI.slot_iter ⟨_,hit,rfl⟩ SI.entry_self ?_ (SI.args_iter _));show ak _ _ (ret (.ref I)) _ _ s;exact a9 ⟨_,rfl,"set_iterator",_,⟨_,hit,rfl⟩,SI.slot_next.lookup,h⟩
theorem fH {Q:Bool->aa->Prop}{B:aZ} (h:Q (w.params.followText "set-order") s):ak (az prog w) B setsByText Q E s:=by
 unfold setsByText;exact a5 (iD (a9 h))
theorem Hc {B:aZ}{Q':Fin->aa->Prop}{x:a8}{nx:Nat}{E':a8->aa->Prop} (hit:yz s.heap I S first i n ep)
  (h:∀ h',yz h' I S (.int nx 0) (i+1) n ep->c9 I s.heap h'->Q' (.done (.ret x)) { s with heap:=h' }) :
  ak (az prog w) B (do fM (.ref I) 0 (bM nx);fM (.ref I) 1 (bM (i+1));ret x) Q' E' s:=by
 refine a5 (i8 hit rfl (by simp) ?_);have h1:yz (s.heap.update I (eE (·.setIfInBounds 0 (bM nx)))) I S (.int nx 0) i n ep:=hit.put (by simp [bM]);refine a5 (i8 h1 rfl (by simp) ?_);have h2:yz ((s.heap.update I (eE (·.setIfInBounds 0 (bM nx)))).update I (eE (·.setIfInBounds 1 (bM (i+1))))) I S (.int nx 0) (i+1) n ep:=h1.put (by simp [bM]);exact a9 (h _ h2 ((cE ..).trans (cE ..)))
theorem sW (f:Nat->Nat) (es:Array (Int×a8)):(mq f es).size=es.size:=by
 rw [<- aO,(xF f es).length_eq,aO]
theorem C1 (hh:A.handled=none) (hw:w.params.followText "set-order"=true) (hne:S≠I) :
  Kc prog w A I [I,S] [I] es.size (fun i v=>((mq (w.params.setOrder S ep) es).toList.map (·.2))[i]?=some v) (fun i h=>yz h I S (.int 0 0) i es.size ep/\iK w h S es ep t) where
 sub:=fun b hb=>by simp at hb;simp [hb]
 frame:=fun i h h' st k=>⟨k I (by simp) _ st.1,st.2.keep fun o e=>k S (by simp) o e⟩
 item:=fun i s Q E hi st hQ=>by
  obtain ⟨hit,hS⟩:=st;refine o_ hit hS rfl ?_;dsimp only;unfold Gj setWalk;refine a5 (a5 (en hS.at_ rfl hS.fits (a5 (fH ?_))));rw [hw];simp only [if_true,bne_self_eq_false,bg,if_false];refine a5 (a5 (en hS.at_ rfl hS.fits (a5 (fH ?_))));rw [hw];simp only [if_true];refine a5 (iD (a9 (a9 ?_)));have hi':i<(mq (w.params.setOrder S ep) es).size:=by rw [sW];exact hi
  show ak _ _ (match ((mq (w.params.setOrder S ep) es)[i]?).map fun e=>(e.2,(0:Int).toNat) with
   |some (x,next)=>do fM (.ref I) 0 (bM next);fM (.ref I) 1 (bM (i+1));ret x
   |none=>do fM (.ref I) 2 .none;sJ (<- uW (.type "StopIteration") [])) _ _ s
  rw [getElem?_pos _ i hi'];refine Hc (nx:=0) hit fun h' h1 sb=>⟨_,rfl,hQ _ h' s.toks ?_ ⟨h1,hS.keep fun o e=>(sb.2 S hne).trans e⟩ fun b o hb e=>(sb.2 b fun z=>hb (by simp [z])).trans e⟩;simp [hi']
 done:=fun s Q E st hQ=>by
  obtain ⟨hit,hS⟩:=st;refine o_ hit hS rfl ?_;dsimp only;unfold Gj setWalk;refine a5 (a5 (en hS.at_ rfl hS.fits (a5 (fH ?_))));rw [hw];simp only [if_true,bne_self_eq_false,bg,if_false];refine a5 (a5 (en hS.at_ rfl hS.fits (a5 (fH ?_))));rw [hw];simp only [if_true];refine a5 (iD (a9 (a9 ?_)));show ak _ _ (match ((mq (w.params.setOrder S ep) es)[es.size]?).map fun e=>(e.2,(0:Int).toNat) with
   |some (x,next)=>do fM (.ref I) 0 (bM next);fM (.ref I) 1 (bM (es.size+1));ret x
   |none=>do fM (.ref I) 2 .none;sJ (<- uW (.type "StopIteration") [])) _ _ s
  rw [getElem?_neg _ es.size (by rw [sW];exact cu _)];exact yA (by simpa using hh) hit rfl (by simp) fun h' eb=>hQ h' s.toks fun b o hb e=>eb b o (fun z=>hb (by simp [z])) e
 self:=fun i s Q E st h=>yB st.1 h
inductive S5 (h:ba) (T:ac) (ps:List Nat):Prop
 |mk (o k:_) (h0:h.get? T=some o) (h1:o.data=.seq (ps.map fun (p:Nat)=>mr (p:Int) 0).toArray k):S5 h T ps
theorem Ab (hh:A.handled=none)  (hne:S≠I) (hT:T≠I) (hp:∀ p∈ps,p<es.size) (hn:ps.length=es.size) :
  Kc prog w A I [I,S,T] [I] es.size (fun i v=>(ps.map fun p=>(es.getD p (0,.none)).2)[i]?=some v) (fun i h=>yz h I S (.ref T) i es.size ep/\iK w h S es ep t/\S5 h T ps) where
 sub:=fun b hb=>by simp at hb;simp [hb]
 frame:=fun i h h' st k=>⟨k I (by simp) _ st.1,st.2.1.keep fun o e=>k S (by simp) o e,let ⟨o,q,e,d⟩:=st.2.2;⟨o,q,k T (by simp) o e,d⟩⟩
 item:=fun i s Q E hi st hQ=>by
  obtain ⟨hit,hS,o,q,e,d⟩:=st;refine o_ hit hS rfl ?_;dsimp only;refine a5 (bY e d ?_);have hi':i<ps.length:=by omega
  dsimp only;rw [show ((ps.map fun (p:Nat)=>mr (p:Int) 0).toArray)[i]?=some (.int (ps[i] : Nat) 0) by simp [hi']];dsimp only;unfold setNextDrawn;refine a5 (a5 (en hS.at_ rfl hS.fits ?_));have hlt:=hp ps[i] (jy hi');simp only [bne_self_eq_false,bg,if_false,j5];rw [getElem?_pos es ps[i] hlt];refine a9 ?_;refine a5 (i8 hit rfl (by simp) ?_);have h1:yz (s.heap.update I (eE (·.setIfInBounds 1 (bM (i+1))))) I S (.ref T) (i+1) es.size ep:=hit.put (by simp [bM]);have sb:c9 I s.heap (s.heap.update I (eE (·.setIfInBounds 1 (bM (i+1))))):=cE ..;refine a9 ⟨_,rfl,hQ _ _ s.toks ?_ ⟨h1,hS.keep fun o e=>(sb.2 S hne).trans e,o,q,(sb.2 T hT).trans e,d⟩ fun b o hb e=>(sb.2 b fun z=>hb (by simp [z])).trans e⟩;simp [hi',hlt]
 done:=fun s Q E st hQ=>by
  obtain ⟨hit,hS,o,q,e,d⟩:=st;refine o_ hit hS rfl ?_;dsimp only;refine a5 (bY e d ?_);dsimp only;rw [show ((ps.map fun (p:Nat)=>mr (p:Int) 0).toArray)[es.size]?=none by simp [<- hn]];dsimp only;refine a5 (i8 hit rfl (by simp) ?_);have h1:yz (s.heap.update I (eE (·.setIfInBounds 0 (bM 0)))) I S (.int 0 0) es.size es.size ep:=hit.put (by simp [bM]);have sb:c9 I s.heap (s.heap.update I (eE (·.setIfInBounds 0 (bM 0)))):=cE ..;exact yA (s:={ s with heap:=s.heap.update I (eE (·.setIfInBounds 0 (bM 0))) }) (by simpa using hh) h1 rfl (by simp) fun h' eb=>hQ h' s.toks fun b o hb e=>eb b o (fun z=>hb (by simp [z])) ((sb.2 b fun z=>hb (by simp [z])).trans e)
 self:=fun i s Q E st h=>yB st.1 h
theorem Hd  (h:p=#[j]):gf p 0=0:=by subst h;simp [gf,wA]
theorem He {p:Array Nat}{j:Nat} (h:p=#[j]):gf p (j+1)=1:=by subst h;simp [gf,wA]
theorem ES (h : t.fits 1 = true) : ∃ j, t.place = #[j] := by
  have h1 : t.place.size = 1 := by
    simp only [SetTable.fits, aC, beq_iff_eq] at h; exact h.1
  exact ⟨t.place[0], by apply Array.ext; · simp [h1]
                        · intro i h2 h3; have : i = 0 := by omega
                          subst this; simp⟩
theorem Oi   (hl:t.led=true) (h:ak (az prog w) B (k ()) Q E s) :
  ak (az prog w) B ((if (!t.led && !es.isEmpty)=true then Kg "set:maker-not-led" else pure ()) >>= k) Q E s:=by
 rw [if_neg (by rw [hl];simp)];exact a5 (a9 h)
theorem rA {B:aZ}{slot g:Nat}{Q:Option (a8×Nat)->aa->Prop} (hw:w.params.followText "set-order"=false) (hS:iK w s.heap S es ep t) (h1:es.size<=1)
  (h:Q (match es[gf t.place slot]?,t.place[gf t.place slot]? with|some (_,x),some j=>some (x,j+1)|_,_=>none) s):ak (az prog w) B (Gj S slot g ep) Q E s:=by
 unfold Gj;refine a5 (en hS.at_ rfl hS.fits (a5 (fH ?_)));rw [hw];simp only [bg,if_false];split
 ·rename_i z
  exact absurd (show (!t.plain&&decide (es.size > 1))=true from z) (by simp;omega)
 ·have hl:t.led=true:=by rw [hS.led,hw];rfl
  exact Oi hl (a9 h)
theorem ET (hh:A.handled=none) (hw:w.params.followText "set-order"=false) (hne:S≠I) (h1:es.size<=1) :
  Kc prog w A I [I,S] [I] es.size (fun i v=>(es.toList.map (·.2))[i]?=some v)
   (fun i h=>∃ k,yz h I S (.int (k:Nat) 0) i es.size ep/\iK w h S es ep t/\(i=0->k=0)/\(i=1->es.size=1->∃ j,t.place=#[j]/\k=j+1)) where
 sub:=fun b hb=>by simp at hb;simp [hb]
 frame:=fun i h h' st k=>let ⟨c,a1,a2,a3⟩:=st;⟨c,k I (by simp) _ a1,a2.keep fun o e=>k S (by simp) o e,a3⟩
 item:=fun i s Q E hi st hQ=>by
  obtain ⟨c,hit,hS,c0,c1⟩:=st;have hi0:i=0:=by omega
  subst hi0;obtain rfl:c=0:=c0 rfl;have e1:es.size=1:=by omega
  obtain ⟨j,hj⟩:=ES (t:=t) (by rw [<- e1];exact hS.fits);refine o_ hit hS rfl ?_;dsimp only;refine a5 (rA hw hS h1 ?_);rw [show (((0:Nat):Int).toNat)=0 from rfl,Hd hj,getElem?_pos es 0 (by omega),hj];refine Hc (nx:=j+1) hit fun h' h1 sb=>⟨_,rfl,hQ _ h' s.toks ?_ ⟨j+1,h1,hS.keep fun o e=>(sb.2 S hne).trans e,by simp,fun _ _=>⟨j,hj,rfl⟩⟩ fun b o hb e=>(sb.2 b fun z=>hb (by simp [z])).trans e⟩;simp [e1]
 done:=fun s Q E st hQ=>by
  obtain ⟨c,hit,hS,c0,c1⟩:=st;refine o_ hit hS rfl ?_;dsimp only;refine a5 (rA hw hS h1 ?_);have hz:es[gf t.place ((c:Nat):Int).toNat]?=none:=by
   rcases Nat.eq_zero_or_pos es.size with z|z
   ·rw [getElem?_neg];omega
   ·have e1:es.size=1:=by omega
    obtain ⟨j,hj,hc⟩:=c1 e1 e1;rw [hc,show (((j+1:Nat):Int).toNat)=j+1 from rfl,He hj,getElem?_neg];omega
  rw [hz];exact yA (by simpa using hh) hit rfl (by simp) fun h' eb=>hQ h' s.toks fun b o hb e=>eb b o (fun z=>hb (by simp [z])) e
 self:=fun i s Q E st h=>let ⟨_,a1,_⟩:=st;yB a1 h
theorem C2 {Q:a8->aa->Prop} (hh:A.handled=none) (hS:iK w s.heap S es ep t)
  (h:∀ (I:ac) (fp:List ac) (ord:List a8) (St:Nat->ba->Prop) (h':ba) (d:FV),s.heap.objs.size<=I->(∀ b∈fp,b=S\/s.heap.objs.size<=b)->(∀ b∈fp,b<h'.objs.size)->ord.Perm (es.toList.map (·.2))->(∀ B:aZ,B.handled=none->Kc prog w B I fp [I] ord.length (fun i v=>ord[i]?=some v) St)->St 0 h' ->
   (∀ b o,s.heap.get? b=some o->h'.get? b=some o)->Ke { s with heap:=h',drawn:=d } (.ref I) "set_iterator"->Q (.ref I) { s with heap:=h',drawn:=d }):ak (az prog w) A (uP (.ref S)) Q E s:=by
 have hT:s.TypeIs (.ref S) "set":=⟨_,hS.at_,rfl⟩;have hlt:=ah hS.at_;refine wpAny_pyIter_slot hT F.slot_set_iter (bV F.slot_set_iter hT SI.entry_iter ?_ (F.args_set_iter_1 _));show ak _ _ (qj S >>= _) _ _ s;unfold qj;refine a5 (a5 (wpAny_setEntries_of hS.at_ rfl hS.fits (a9 ?_)));show ak _ _ (setDrawn S >>= _) _ _ s;unfold setDrawn;refine a5 (a5 (en hS.at_ rfl hS.fits (a5 (fH (a9 ?_)))));have fin:∀ (first:a8) (fp:List ac) (ord:List a8) (St:Nat->ba->Prop) (h':ba) (d:FV),(∀ b o,s.heap.get? b=some o->h'.get? b=some o)->s.heap.objs.size<=h'.objs.size ->
   (∀ b∈fp,b=S\/b=h'.objs.size\/(s.heap.objs.size<=b/\b<h'.objs.size))->ord.Perm (es.toList.map (·.2))->(∀ B:aZ,B.handled=none->Kc prog w B h'.objs.size fp [h'.objs.size] ord.length (fun i v=>ord[i]?=some v) St) ->
   (∀ h'':ba,(∀ b o,h'.get? b=some o->h''.get? b=some o)->yz h'' h'.objs.size S first 0 es.size ep->St 0 h'') ->
   ak (az prog w) A.in1 (setEpoch S >>= fun e=>newFields "set_iterator" [first,bM 0,.ref S,bM es.size,bM e] >>= fun x=>ret x) (fun fin s'=>∃ v,fin=.done (.ret v)/\∃ T' r,s'.TypeIs v T'/\Bv (.type T') "__next__"=pure (some r)/\Q v s') E { s with heap:=h',drawn:=d }:=by
  intro first fp ord St h' d kp hsz hfp pm W st
  have hS':iK w h' S es ep t:=hS.keep fun o e=>kp S o e;refine a5 (wpAny_setEpoch_of (s:={ s with heap:=h',drawn:=d }) hS'.at_ rfl hS'.fits ?_);refine a5 (ck ?_ (by size_fits));have gp:∀ b o,h'.get? b=some o->(h'.push { cls:=.type "set_iterator",dict:=none,data:=.fields #[first,bM 0,.ref S,bM es.size,bM ep] }).get? b=some o:=fun b o e=>a7 _ e;have it:(h'.push { cls:=.type "set_iterator",dict:=none,data:=.fields #[first,bM 0,.ref S,bM es.size,bM ep] }).get? h'.objs.size=some { cls:=.type "set_iterator",dict:=none,data:=.fields #[first,bM 0,.ref S,bM es.size,bM ep] }:=aj _ rfl;refine a9 ⟨_,rfl,"set_iterator",_,⟨_,it,rfl⟩,SI.slot_next.lookup,h h'.objs.size fp ord St _ d hsz (fun b hb=>?_) (fun b hb=>?_) pm W (st _ gp it) (fun b o e=>gp b o (kp b o e)) ⟨_,it,rfl⟩⟩
  ·rcases hfp b hb with z|z|z
   ·exact .inl z
   ·exact .inr (by rw [z];exact hsz)
   ·exact .inr z.1
  ·rw [bC];rcases hfp b hb with z|z|z
   ·rw [z];exact gL (ay hlt hsz)
   ·rw [z];exact hX _
   ·exact gL z.2
 dsimp only;split
 ·rename_i z
  have z:(!w.params.followText "set-order" && (!t.plain&&decide (es.size > 1)))=true:=z;refine a5 (rz _ _ _ _ (by simp) fun ys d pm=>?_);simp only [newTuple];have hyl:ys.length=es.size:=by have:=pm.length_eq;rwa [lR] at this
  have zl:=nP hS.few;refine a5 (ck ?_ (by show (ys.map fun (i:Nat)=>bM i).toArray.size<=sizeLine;simp;omega));have tp:∀ ob:Obj,(s.heap.push ob).objs.size=s.heap.objs.size+1:=fun ob=>bC ..;refine fin (.ref s.heap.objs.size) [s.heap.objs.size+1,S,s.heap.objs.size] (ys.map fun p=>(es.getD p (0,.none)).2)
   (fun i h=>yz h (s.heap.objs.size+1) S (.ref s.heap.objs.size) i es.size ep/\iK w h S es ep t/\S5 h s.heap.objs.size ys) (s.heap.push _) d
   (fun b o e=>a7 _ e) (by rw [tp];exact ml _) (fun b hb=>?_) ?_ (fun B hB=>?_) (fun h'' k it=>⟨by rw [tp] at it;exact it,hS.keep fun o e=>k S o (a7 _ e),_,_,k _ _ (aj _ rfl),rfl⟩)
  ·simp only [aQ,aG,or_false] at hb;rcases hb with y|y|y
   ·exact .inr (.inl (by rw [tp];exact y))
   ·exact .inl y
   ·exact .inr (.inr ⟨by rw [y];exact al _,by rw [tp,y];exact hX _⟩)
  ·refine (pm.map _).trans (.of_eq ?_);apply List.ext_getElem
   ·simp
   ·intro k h1 h2;have:k<es.size:=by simpa using h1
    simp [this]
  ·rw [au,hyl,tp];exact Ab hB (aE (gL hlt)) (aE (hX _)) (fun p hp=>List.mem_range.mp (pm.mem_iff.mp hp)) hyl
 ·rename_i z
  have z:¬ (!w.params.followText "set-order" && (!t.plain&&decide (es.size > 1)))=true:=z;refine a5 (a9 ?_);have hne:S≠s.heap.objs.size:=aE hlt;cases hw:w.params.followText "set-order" with
  |true =>
   refine fin (bM 0) [s.heap.objs.size,S] ((mq (w.params.setOrder S ep) es).toList.map (·.2)) (fun i h=>yz h s.heap.objs.size S (.int 0 0) i es.size ep/\iK w h S es ep t) s.heap s.drawn (fun _ _ e=>e) (al _) (fun b hb=>?_) ((xF _ es).map _) (fun B hB=>?_) (fun h'' k it=>⟨it,hS.keep fun o e=>k S o e⟩)
   ·simp only [aQ,aG,or_false] at hb;exact hb.elim (fun z=>.inr (.inl z)) .inl
   ·rw [au,aO,sW];exact C1 hB hw hne
  |false =>
   have h1:es.size<=1:=by
    rw [hw] at z;rcases hS.pl with y|y
    ·omega
    ·rw [y] at z;simpa using z
   refine fin (bM 0) [s.heap.objs.size,S] (es.toList.map (·.2)) (fun i h=>∃ k,yz h s.heap.objs.size S (.int (k:Nat) 0) i es.size ep/\iK w h S es ep t/\(i=0->k=0)/\(i=1->es.size=1->∃ j,t.place=#[j]/\k=j+1)) s.heap s.drawn (fun _ _ e=>e) (al _) (fun b hb=>?_) (.refl _) (fun B hB=>?_) (fun h'' k it=>⟨0,it,hS.keep fun o e=>k S o e,fun _=>rfl,fun y=>by cases y⟩)
   ·simp only [aQ,aG,or_false] at hb;exact hb.elim (fun z=>.inr (.inl z)) .inl
   ·rw [au,aO];exact ET hB hw hne h1
end
end
section
section
theorem Ac (hh:A.handled=none) (hS:iK w s.heap S es ep t)
  (h:∀ (ord:List a8) (h':ba) (d:FV) (tk:Nat),ord.Perm (es.toList.map (·.2))->(∀ b o,s.heap.get? b=some o->h'.get? b=some o)->s.heap.objs.size<=h'.objs.size->Q ord { s with heap:=h',drawn:=d,toks:=tk }) :
  ak (az prog w) A (collect (.ref S)) Q E s:=by
 have hlt:=ah hS.at_;unfold collect;refine a5 (wpAny_runValue (gQ F.entry_proto_collect ?_));rw [gM F.plain_proto_collect _];show ak _ A.in1 (newList [] >>= fun l=>again (.builtin "list.__iadd__" ⟨[l,.ref S],[]⟩)) _ _ s;refine a5 (ck ?_);refine a9 ⟨uy F.plain_list_iadd _,gQ F.entry_list_iadd ?_⟩;rw [gM F.plain_list_iadd _];let s1:aa:={ s with heap:=s.heap.push { cls:=.type "list",data:=.seq ([] : List a8).toArray } }
 have sz1:s1.heap.objs.size=s.heap.objs.size+1:=bC ..;have at1:s1.heap.get? s.heap.objs.size=some { cls:=.type "list",data:=.seq ([] : List a8).toArray }:=aj _ rfl;have hS1:iK w s1.heap S es ep t:=hS.keep fun o e=>a7 _ e;show ak _ A.in1 (qZ (.ref s.heap.objs.size) (.ref S) (.ref s.heap.objs.size)) _ _ s1;have hT1:s1.TypeIs (.ref S) "set":=⟨_,hS1.at_,rfl⟩;unfold qZ;refine a5 (qi hT1 ?_);have e1:tP (.ref s.heap.objs.size) (.ref S)=false:=by simp [tP,dI hlt]
 have e2:(gO "set" == gO "list")=false:=by decide
 have e3:(gO "set" == gO "tuple")=false:=by decide
 simp only [e1,e2,e3,Bool.or_false,bg,if_false];refine a5 (C2 (A:=A.in1) (by simpa using hh) hS1 fun I fp ord St h' d hI hfp hfl pm W st kp tI=>?_);let s2:aa:={ s1 with heap:=h',drawn:=d }
 have hS2:iK w s2.heap S es ep t:=hS1.keep fun o e=>kp S o e;have hT2:s2.TypeIs (.ref S) "set":=⟨_,hS2.at_,rfl⟩;refine a5 (cG ?_);unfold Builtin.List.listLengthHint;refine a5 (zS (s:=s2) hT2 F.slot_set_len.lookup ?_);dsimp only;rw [show splitId "set.__len__"=some ("set","__len__") from by decide +kernel];dsimp only;refine a5 (kf (b:=true) (s:=s2) hT2 (by rw [BA];kernel_rfl) ?_);rw [if_neg (by decide),if_pos (by decide)];refine a5 (qi (s:=s2) hT2 (a9 ?_));rw [if_pos (by decide)];refine a5 (ft ?_);have nS:s.heap.objs.size∉fp:=fun z=>by
  rcases hfp _ z with q|q
  ·exact absurd hlt (by rw [<- q];exact cu _)
  ·rw [sz1] at q;exact absurd q (Nat.not_succ_le_self _)
 have at2:s2.heap.get? s.heap.objs.size=some { cls:=.type "list",data:=.seq ([] : List a8).toArray }:=kp _ _ at1;refine a5 ?_;show ak _ A.in1 (updateSeq s.heap.objs.size (·.push .none) >>= fun _=>updateSeq s.heap.objs.size (·.pop)) _ _ s2;refine a5 (wpAny_updateSeq at2 rfl ?_);have at3:=g9 (jC (·.push dZ)) at2 rfl;refine wpAny_updateSeq at3 rfl ?_;have at4:=g9 (jC (·.pop)) at3 rfl;have oth:∀ b o,b≠s.heap.objs.size->s2.heap.get? b=some o->((s2.heap.update s.heap.objs.size (jC (·.push dZ))).update s.heap.objs.size (jC (·.pop))).get? b=some o :=
  fun b o hb e=>(nO _ _ (e6 hb)).trans ((nO _ _ (e6 hb)).trans e)
 have zl:ord.length<=sizeLine:=by rw [pm.length_eq,au,aO];exact nP hS.few
 have W1:=W A.in1 (by simpa using hh);refine a9 ⟨uy F.plain_extend_loop _,codeAny_extend_loopS (A:=A) W1.toS zl _ nS _ ord.length 0 { s2 with heap:=(s2.heap.update s.heap.objs.size (jC (·.push dZ))).update s.heap.objs.size (jC (·.pop)) } _ _ rfl (bT _) (W1.frame 0 _ _ st fun b hb o e=>oth b o (fun z=>nS (z ▸ hb)) e) at4 (ItemsOf.nil _) fun s' acc' c' hm hS' hacc=>?_⟩;show ak _ A (load s.heap.objs.size >>= _) _ _ s';refine a5 (wpAny_load hS' (a9 ?_));have hacc':acc'.toList=ord:=by
  apply List.ext_getElem?;intro j;rw [eI];by_cases hj:j<acc'.size
  ·have:=hacc.2 j acc'[j] (by simp [hj]);rw [this];simp [hj]
  ·rw [getElem?_neg acc' j hj,c7 (by rw [<- hacc.1];omega)]
 rw [hacc'];obtain ⟨h3,g3,d3,t3,o3⟩:=s';obtain rfl:g3=s.gens:=hm.gens;obtain rfl:d3=d:=hm.drawn;obtain rfl:o3=s.os:=hm.os;have old:∀ b o,s.heap.get? b=some o->h3.get? b=some o:=fun b o e=>by
  have hb:=ah e;refine hm.heap b o ?_ (oth b o (aE hb) (kp b o (a7 _ e)));simp only [aQ,aG,or_false,not_or];exact ⟨aE hb,aE (ay hb (by have q:=hI;rw [sz1] at q;exact Nat.le_of_succ_le q))⟩
 refine h ord h3 _ t3 pm old ?_;have:=ah (show h3.get? s.heap.objs.size=some _ from hS');exact bw this
theorem Ad  (hc:ak (az prog w) A.in1 (collect x) (fun vs s1=>∃ ss,nQ vs ss/\vs.length<64 /\
   ∀ (h':ba) (vs':List a8) (ss':List Str) (e:Nat),(∀ b o,s1.heap.get? b=some o->h'.get? b=some o)->h'.get? s1.heap.objs.size=some (seqObj "list" vs'.toArray e)->nQ vs' ss'->ss'.Perm ss->sortedS ss'=true ->
    Q (.ref s1.heap.objs.size) { s1 with heap:=h' }) E s):ak (az prog w) A (call (.builtin "sorted") [x]) Q E s:=by
 refine xk kind_sorted plain_sorted entry_sorted (args_sorted1 _) ?_;unfold gC.«sorted»;refine a5 (m:=checkCount "sorted" 1 1 _) (a9 ?_);refine a5 (c6 hc (fun vs s1 z=>?_) fun _ _ z=>z);obtain ⟨ss,hss,h64,hq⟩:=z;refine a5 (wpAny_newList ?_);have at1:(s1.heap.push (seqObj "list" vs.toArray 0)).get? s1.heap.objs.size=some (seqObj "list" vs.toArray 0):=aj _ rfl;show ak _ _ _ _ _ { s1 with heap:=s1.heap.push (seqObj "list" vs.toArray 0) };refine a5 (cG (bV slot_list_sort ⟨_,at1,rfl⟩ entry_list_sort (list_sort_treeK strKind_oneLt at1 hss.keysOf (fun v₁ v₂ bE e=>keyKind_strs (by rw [<- e];exact hss)) h64 fun st' a1 a2=>⟨_,rfl,?_⟩) (args_list_sort _)));obtain ⟨ss',p1,p2,p3⟩:=sorted_out_str hss a1 a2;obtain ⟨e,at2⟩:=sortedHeap_at (out:=(arrOf st').map (·.2)) at1;refine a9 ⟨_,rfl,hq _ _ ss' e (fun b o q=>?_) at2 p1 p2 p3⟩;have hb:=ah q;rw [sortedHeap_old (aE hb) (by rw [bC];exact gL hb)];exact a7 _ q
end
end
section
def lZ (x y:Str):Bool:=decide (x.cps.toList<y.cps.toList)
def C3 (x:Str):List Str->List Str
 |[]=>[x]
 |y::r=>if lZ y x then y::C3 x r else x::y::r
def j4:List Str->List Str
 |[]=>[]
 |x::r=>C3 x (j4 r)
theorem sX (x:Str):∀ l,(C3 x l).Perm (x::l)
 |[]=>.refl _
 |y::r=>by
  rw [C3];split
  ·exact ((sX x r).cons y).trans (.swap ..)
  ·exact .refl _
theorem ig:∀ l,(j4 l).Perm l
 |[]=>.refl _
 |x::r=>(sX x _).trans ((ig r).cons x)
theorem vd (x:Str):lZ x x=false:=decide_eq_false (List.lt_irrefl _)
theorem sY (h1:lZ x y=true) (h2:lZ y z=true):lZ x z=true :=
 decide_eq_true (List.lt_trans (of_decide_eq_true h1) (of_decide_eq_true h2))
theorem uE (h1:lZ x y=false) (h2:lZ y x=false):x=y:=by
 have h1:¬ x.cps.toList<y.cps.toList:=of_decide_eq_false h1;have h2:¬ y.cps.toList<x.cps.toList:=of_decide_eq_false h2;have:x.cps.toList=y.cps.toList:=List.le_antisymm (List.not_lt.mp h2) (List.not_lt.mp h1)
 cases x;cases y;exact congrArg Str.mk (Array.toList_inj.mp this)
abbrev K3 (l:List Str):Prop:=l.Pairwise fun a b=>lZ b a=false
theorem Hf (x:Str):∀ l,K3 l->K3 (C3 x l)
 |[],_=>by simp [C3,K3]
 |y::r,h=>by
  obtain ⟨h1,h2⟩:=List.pairwise_cons.mp h;rw [C3];split
  ·rename_i hy
   refine List.pairwise_cons.mpr ⟨fun z hz=>?_,Hf x r h2⟩;rcases List.mem_cons.mp ((sX x r).mem_iff.mp hz) with e|e
   ·subst e;cases q:lZ z y with
    |false=>rfl
    |true=>exact absurd (sY q hy) (by rw [vd];decide)
   ·exact h1 z e
  ·rename_i hy
   have hy:lZ y x=false:=by simpa using hy
   refine List.pairwise_cons.mpr ⟨fun z hz=>?_,h⟩;rcases List.mem_cons.mp hz with e|e
   ·subst e;exact hy
   ·cases q:lZ z x with
    |false=>rfl
    |true =>
     have hzy:=h1 z e;cases q2:lZ x y with
     |true=>rw [sY q q2] at hzy;cases hzy
     |false=>rw [<- uE hy q2,hzy] at q;cases q
theorem rE:∀ l,K3 (j4 l)
 |[]=>.nil
 |x::r=>Hf x _ (rE r)
theorem rF:∀ (p:Str) (l:List Str),risingS p l=true->K3 (p::l)
 |p,[],_=>by simp [K3]
 |p,x::r,h=>by
  rw [risingS,aC] at h;obtain ⟨h1,h2⟩:=h;have h1:lZ x p=false:=by
   rw [ltCps_eq] at h1;simpa [lZ] using h1
  have ih:=rF x r h2;refine List.pairwise_cons.mpr ⟨fun z hz=>?_,ih⟩;rcases List.mem_cons.mp hz with e|e
  ·rw [e];exact h1
  ·have hzx:=(List.pairwise_cons.mp ih).1 z e;cases q:lZ z p with
   |false=>rfl
   |true =>
    cases q2:lZ p x with
    |true=>rw [sY q q2] at hzx;cases hzx
    |false=>rw [uE q2 h1,hzx] at q;cases q
theorem yC:∀ (l:List Str),sortedS l=true->K3 l
 |[],_=>.nil
 |x::r,h=>rF x r h
theorem xG:∀ {l l':List Str},l.Perm l'->K3 l->K3 l'->l=l'
 |[],l',p,_,_=>by rw [List.nil_perm.mp p]
 |x::r,[],p,_,_=>by have:=p.length_eq;simp at this
 |x::r,y::r',p,h,h'=>by
  obtain ⟨a1,a2⟩:=List.pairwise_cons.mp h;obtain ⟨b1,b2⟩:=List.pairwise_cons.mp h';have e:x=y:=by
   have hx:x∈y::r':=p.mem_iff.mp aw;have hy:y∈x::r:=p.mem_iff.mpr aw;rcases List.mem_cons.mp hx with e|e
   ·exact e
   ·rcases List.mem_cons.mp hy with e' | e'
    ·exact e'.symm
    ·exact uE (b1 x e) (a1 y e')
  subst e;rw [xG (List.Perm.cons_inv p) a2 b2]
theorem Ae (p:l'.Perm l) (h:sortedS l'=true):l'=j4 l:=xG (p.trans (ig l).symm) (yC _ h) (rE l)
theorem xH (h:K3 l) (nd:l.Nodup):l.Pairwise fun a b=>lZ a b=true:=by
 induction l with
 |nil=>exact .nil
 |cons x r ih =>
  obtain ⟨a1,a2⟩:=List.pairwise_cons.mp h;obtain ⟨n1,n2⟩:=List.nodup_cons.mp nd;refine List.pairwise_cons.mpr ⟨fun y hy=>?_,ih a2 n2⟩;cases q:lZ x y with
  |true=>rfl
  |false=>exact absurd (uE q (a1 y hy) ▸ hy) n1
theorem jN:∀ {ss:List Str}{us:List a8},cF (ss.map V.str) us->nQ us ss
 |[],_,.nil=>.nil
 |x::r,_,.cons h t=>by obtain ⟨tk,rfl⟩:=h;exact .cons x tk (jN t)
theorem mE:∀ {ss:List Str}{us:List a8},nQ us ss->cF (ss.map V.str) us
 |_,_,.nil=>.nil
 |_,_,.cons x t h=>.cons ⟨t,rfl⟩ (mE h)
theorem ev:∀ {ss:List Str}{us:List a8},nQ us ss->us.length=ss.length
 |_,_,.nil=>rfl
 |_,_,.cons x t h=>by simp [ev h]
theorem vf  (h:nQ us ss) (i:Nat) (v:a8) (e:us[i]?=some v):∃ x t,ss[i]?=some x/\v=iF x t:=by
 induction h generalizing i with
 |nil=>simp at e
 |cons y t _ ih =>
  cases i with
  |zero=>simp at e;exact ⟨y,t,by simp,e.symm⟩
  |succ i=>simp at e;simpa using ih i e
theorem rG:∀ {l:List (Int×a8)},(∀ e∈l,vc w e)->nQ (l.map (·.2)) (l.map B_)
 |[],_=>.nil
 |e::r,h=>by
  obtain ⟨x,tk,rfl⟩:=h e aw;exact .cons x tk (rG fun e he=>h e (ao _ he))
theorem yD  (h:nQ us ss) (p:us'.Perm us):∃ ss',nQ us' ss'/\ss'.Perm ss:=by
 refine ⟨us'.map strOf,strsAre_map _ fun v hv=>h.all v (p.mem_iff.mp hv),?_⟩;rw [<- h.strs];exact p.map _
def uq (w:aY) (a:ac) (ss:List Str):HO:=.ext fun h=>lX w h a ss
theorem Dp      (x:lX w h a ss):cH P w H h a (uq w a ss) :=
 ⟨x,let ⟨_,_,_,I,_⟩:=x;⟨_,I.at_⟩,fun _ _ y k=>y.keep k⟩
section
theorem Af (hc:X.calm=true):j0 X (.type "set") (fun xs H Q=>∃ p ss,xs=[.ref p]/\(jI X.K H p (ss.map V.str)\/ic X.K H p (ss.map V.str))/\ss.length+1<fL/\∀ a,H a=none->Q (.ref a) (upd H a (uq X.w a (dE [] ss)))):=by
 intro pins s σ H xs us Q I r h;obtain ⟨p,ss,rfl,hq,hz,q⟩:=h;obtain ⟨u,rfl,rx⟩:=l7 r;cases rx;have hh:=I.ok.hd hc;have fin:∀ (h':ba) (tk:Nat),lX X.w h' s.heap.objs.size (dE [] ss)->(∀ b o,s.heap.get? b=some o->h'.get? b=some o)->EP X pins σ Q (.ref s.heap.objs.size) { s with heap:=h',toks:=tk }:=fun h' tk hS kp =>
  ⟨.ref s.heap.objs.size,_,I.laid (t':=tk) kp (al _) (Dp hS),rfl,q _ (I.hok.fresh (al _))⟩
 rcases hq with hq|hq
 ·obtain ⟨its,r',⟨o,n,ho,h1,h2,h3⟩,_⟩:=I.list hq;have sa:=jN r';exact rq (Hb (by simpa using hh) h1 ⟨n,h3⟩) ho (fun i v e=>vf sa i v (by simpa using e)) (by simp [ev sa]) (by simp [ev sa];exact hz) fin
 ·obtain ⟨its,r',⟨o,ho,h1,n,h3⟩,_⟩:=I.tuple hq;have sa:=jN r';exact rq (K_ (by simpa using hh) h1 ⟨n,h3⟩) ho (fun i v e=>vf sa i v (by simpa using e)) (by simp [ev sa]) (by simp [ev sa];exact hz) fin
theorem sZ:j0 X (.builtin "sorted") (fun xs H Q=>∃ p ss,xs=[.ref p]/\jI X.K H p (ss.map V.str)/\ss.length<64/\∀ l,H l=none->Q (.ref l) (upd H l (.lst ((j4 ss).map V.str)))):=by
 intro pins s σ H xs us Q I r h;obtain ⟨p,ss,rfl,hq,hz,q⟩:=h;obtain ⟨u,rfl,rx⟩:=l7 r;cases rx;obtain ⟨its,r',pl,hl⟩:=I.list hq;have sa:=jN r';refine sorted_strs pl.isList sa (by rw [ev sa];exact hz) fun out ss' a1 a2 a3=>?_;obtain ⟨e,he⟩:=sortedAll_at s.heap its out;have kp:∀ b o,s.heap.get? b=some o->(sortedAll s.heap its out).get? b=some o:=fun b o=>sortedAll_old;obtain rfl:=Ae a2 a3;refine ⟨.ref (s.heap.objs.size+1),upd H (s.heap.objs.size+1) (.lst ((j4 ss).map V.str)),I.laid (t':=s.toks) kp (ml _) (show cH X.prog X.w _ _ _ (.lst _) from ⟨?_,out.toList,e,mE a1,by simpa [seqObj] using he⟩),rfl,q _ (I.hok.fresh (ml _))⟩;rw [au,(ig ss).length_eq];have:=hl;rw [au] at this;exact this
theorem ur (hc:X.calm=true):j0 X (.builtin "sorted") (fun xs H Q=>∃ p ss,xs=[.ref p]/\H p=some (uq X.w p ss)/\ss.length<64/\∀ l,H l=none->Q (.ref l) (upd H l (.lst ((j4 ss).map V.str)))):=by
 intro pins s σ H xs us Q I r h;obtain ⟨p,ss,rfl,hq,hz,q⟩:=h;obtain ⟨u,rfl,rx⟩:=l7 r;cases rx;have hh:=I.ok.hd hc;obtain ⟨⟨es,ep,t,S,pm⟩,_⟩:=(show cH X.prog X.w H s.heap p (uq X.w p ss) from I.hok p _ hq);refine Ad (Ac (by simpa using hh) S fun ord h' d tk po kp sz=>?_);obtain ⟨ss1,sa,p1⟩:=yD (rG S.txt) po;have ln:ss1.length=ss.length:=(p1.trans pm).length_eq;refine ⟨ss1,sa,by rw [ev sa,ln];exact hz,fun h2 vs' ss' e kp2 at2 sa2 p2 s2=>?_⟩;have kk:∀ b o,s.heap.get? b=some o->h2.get? b=some o:=fun b o e=>kp2 b o (kp b o e);have es':ss'=j4 ss:=Ae (p2.trans (p1.trans pm)) s2;subst es';have fr:=I.hok.fresh sz;have ok2:cH X.prog X.w (upd H h'.objs.size (.lst ((j4 ss).map V.str))) h2 h'.objs.size (.lst ((j4 ss).map V.str)) :=
  ⟨by rw [au,(ig ss).length_eq];exact bv (bw hz) (by rw [fe];decide),vs',e,mE sa2,at2⟩
 exact ⟨.ref h'.objs.size,_,I.call' (s':={ s with heap:=h2,drawn:=d,toks:=tk }) (ch:=[]) rfl (Un.laid kk sz fr) (I.hok.laid kk sz ok2) I.bare (fun b z=>absurd z (by simp)),rfl,q _ fr⟩
end
end
section
section
theorem tW {prog:aH}{w:aY}{B:aZ}{bs:List Bool}{its:List a8} (r:cF (bs.map V.bl) its):TruthOf prog w B (fun i v=>its.toArray[i]?=some v) (fun i=>bs.getD i false):=by
 intro i v s Q E hv hq;have hv:its[i]?=some v:=by simpa using hv
 have hl:=r.length;rw [au] at hl;obtain ⟨hi,_⟩:=List.getElem?_eq_some_iff.mp hv;have hb:bs[i]?=some bs[i]:=b9 (by omega);obtain ⟨u,hu,ru⟩:=r.get (i:=i) (x:=.bl bs[i]) (by rw [aF,hb];rfl);rw [hv] at hu;cases hu;cases ru;have hq:Q (bs.getD i false) s:=hq;rw [eJ,hb] at hq;exact cS hq
theorem Hg (bs:List Bool):(bW bs.length).all (fun i=>bs.getD i false)=bs.all id:=by
 rw [fS,cc,cc];constructor
 ·intro h b hb;obtain ⟨i,hi,rfl⟩:=kg hb;have:=h i (List.mem_range.mpr hi);simpa [eJ,hi] using this
 ·intro h i hi;have hi:=List.mem_range.mp hi;have:=h bs[i] (jy hi);simpa [eJ,hi] using this
theorem Hh (bs:List Bool):(bW bs.length).any (fun i=>bs.getD i false)=bs.any id:=by
 rw [fS,uz,uz];constructor
 ·rintro ⟨i,hi,h⟩;have hi:=List.mem_range.mp hi;exact ⟨bs[i],jy hi,by simpa [eJ,hi] using h⟩
 ·rintro ⟨b,hb,h⟩;obtain ⟨i,hi,rfl⟩:=kg hb;exact ⟨i,List.mem_range.mpr hi,by simpa [eJ,hi] using h⟩
theorem vg (hc:X.calm=true):j0 X (.builtin "all") (fun xs H Q=>∃ p,∃ bs:List Bool,xs=[.ref p]/\jI X.K H p (bs.map V.bl)/\Q (.bl (bs.all id)) H):=by
 intro pins s σ H xs us Q I r h;obtain ⟨p,bs,rfl,hq,q⟩:=h;obtain ⟨u,rfl,rx⟩:=l7 r;cases rx;obtain ⟨its,r',pl,hl⟩:=I.list hq;have ln:its.toArray.size=bs.length:=by have:=r'.length;simp at this ⊢;omega
 obtain ⟨o,ho,hk⟩:=pl.isList;refine call_all_walk (hJ pl.isList ⟨_,_,_,_,_,_,_,rfl,wy (by simpa using I.ok.hd hc) _ p (aE (ah ho)) its.toArray,⟨⟨_,aj _ rfl,rfl,rfl⟩,pl.isList.push _⟩,tW r',fun h' tk kp=>?_⟩);rw [ln,Hg];refine ⟨.bl _,H,I.kept (t':=tk) fun b o e=>kp b o ?_ (a7 _ e),rfl,q⟩;simp only [dC];exact aE (ah e)
theorem vh (hc:X.calm=true):j0 X (.builtin "any") (fun xs H Q=>∃ p,∃ bs:List Bool,xs=[.ref p]/\jI X.K H p (bs.map V.bl)/\Q (.bl (bs.any id)) H):=by
 intro pins s σ H xs us Q I r h;obtain ⟨p,bs,rfl,hq,q⟩:=h;obtain ⟨u,rfl,rx⟩:=l7 r;cases rx;obtain ⟨its,r',pl,hl⟩:=I.list hq;have ln:its.toArray.size=bs.length:=by have:=r'.length;simp at this ⊢;omega
 obtain ⟨o,ho,hk⟩:=pl.isList;refine call_any_walk (hJ pl.isList ⟨_,_,_,_,_,_,_,rfl,wy (by simpa using I.ok.hd hc) _ p (aE (ah ho)) its.toArray,⟨⟨_,aj _ rfl,rfl,rfl⟩,pl.isList.push _⟩,tW r',fun h' tk kp=>?_⟩);rw [ln,Hh];refine ⟨.bl _,H,I.kept (t':=tk) fun b o e=>kp b o ?_ (a7 _ e),rfl,q⟩;simp only [dC];exact aE (ah e)
theorem EU:oZ X (bG .LtE) (fun x y H Q=>∃ i j,x=.str i/\y=.str j/\Q (.bl (!decide (j.cps.toList<i.cps.toList))) H):=by
 intro pins s σ H x y v u Q I rx ry h;obtain ⟨i,j,rfl,rfl,q⟩:=h;obtain ⟨t,rfl⟩:=rx;obtain ⟨t',rfl⟩:=ry;exact PySem.P.le_str (gD I q rfl)
end
end
section
def PN (x:Str):It:=⟨fun i _=>i<x.cps.size,fun i H v H'=>H'=H/\∃ c,x.cps[i]?=some c/\v=.str ⟨#[c]⟩,fun i _=>x.cps.size<=i⟩
theorem Hi {P:aH}{w:aY}{K:a6}{tg:aP} (x:Str) (t:Tok) (it:ac):yq P w K tg (PN x) [it] it (fun i h=>h.IsStrIter it (gj x) x t i) where
 mem:=by simp
 obj:=fun i h st b hb=>by
  obtain rfl:b=it:=by simpa using hb
  obtain ⟨o,e,c,d⟩:=st;exact ⟨o,e,fun v z=>by rw [d] at z;cases z⟩
 keep:=fun i h h' st k=>let ⟨o,e,r⟩:=st;⟨o,k it (by simp) o e,r⟩
 item:=by
  intro X hP hw hK hc i pins s σ H E I hf st hg;subst hP hw hK;have hg:i<x.cps.size:=hg;obtain ⟨f0,f1,f2,f3,f4,f5⟩:=hf it (by simp);have hx:x.cps[i]?=some x.cps[i]:=getElem?_pos _ i hg;have go:∀ (h':ba) (tk tk':Nat),h'.IsStrIter it (gj x) x t (i+1)->c9 it s.heap h'->∃ u,some (iF ⟨#[x.cps[i]]⟩ tk)=some u /\
    ak (az X.prog X.w) X.A (gP tg (.ref it) u) (fun _ s2=>∃ v H',bj X pins σ H' s2/\cD v u/\(PN x).yld i H v H'/\s2.heap.IsStrIter it (gj x) x t (i+1)/\∀ b∈[it],H' b=none) E { s with heap:=h',toks:=tk' }:=fun h' tk tk' st' sb=>by
   have I1:bj X pins σ H { s with heap:=h',toks:=tk' }:=I.turned (fun b o hb e=>(sb.2 b hb).trans e) f0 f1 f3 f4 f5;refine ⟨_,rfl,?_⟩;have q:∃ v H',bj X pins σ H' { s with heap:=h',toks:=tk' }/\cD v (iF ⟨#[x.cps[i]]⟩ tk)/\(PN x).yld i H v H'/\h'.IsStrIter it (gj x) x t (i+1)/\∀ b∈[it],H' b=none :=
    ⟨.str ⟨#[x.cps[i]]⟩,H,I1,⟨tk,rfl⟩,⟨rfl,_,hx,rfl⟩,st',fun b hb=>(hf b hb).1⟩
   unfold gP;cases tg<;>exact a9 q
  cases ha:x.cps.all (·<128)
  ·have ty:gj x="str_iterator":=by unfold gj;rw [ha];rfl
   rw [ty] at st;exact wpAny_pyNext_wide_item st hx fun h' st' sb=>go h' _ _ (by rw [ty];exact st') sb
  ·have ty:gj x="str_ascii_iterator":=by unfold gj;rw [ha];rfl
   rw [ty] at st;exact wpAny_pyNext_ascii_item st hx fun h' st' sb=>go h' _ _ (by rw [ty];exact st') sb
 done:=by
  intro X hP hw hK hc i pins s σ H E I hf st hg;subst hP hw hK;have hg:x.cps.size<=i:=hg;obtain ⟨f0,f1,f2,f3,f4,f5⟩:=hf it (by simp);have hx:x.cps[i]?=none:=getElem?_neg _ i (Nat.not_lt.mpr hg);unfold gj at st;cases ha:x.cps.all (·<128)
  ·rw [ha] at st;exact wpAny_pyNext_wide_end (I.ok.hd hc) st hx fun h' eb=>⟨rfl,I.turned (t':=s.toks) (fun b o hb e=>eb b o hb e) f0 f1 f3 f4 f5⟩
  ·rw [ha] at st;exact wpAny_pyNext_ascii_end (I.ok.hd hc) st hx fun h' eb=>⟨rfl,I.turned (t':=s.toks) (fun b o hb e=>eb b o hb e) f0 f1 f3 f4 f5⟩
 self:=fun _ _ _ _ _ st h=>by
  unfold gj at st;cases ha:x.cps.all (·<128)
  ·rw [ha] at st;exact wpAny_pyIter_striter_wide st h
  ·rw [ha] at st;exact wpAny_pyIter_striter_ascii st h
def S6 (tl:TE):TI:=fun σ H R=>tl σ H fun v H1=>∃ x,v=.str x/\R (PN x) H1
theorem Hj {X:Cx}{tg l:aP}{tl:TE} (hl:PE X l tl):PI X tg l (S6 tl):=by
 intro pins s σ H R I h;refine eK (hl pins s σ H _ I h) fun v s1 h_0=>?_;obtain ⟨y,H1,I1,r1,q1⟩:=h_0;obtain ⟨x,rfl,q⟩:=q1;obtain ⟨t,rfl⟩:=r1;refine wpAny_pyIter_strU ?_;refine ⟨s1.heap.objs.size,[s1.heap.objs.size],_,_,H1,rfl,I1.kept (t':=s1.toks) fun b o e=>a7 _ e,Hi x t _,⟨_,aj _ rfl,rfl,rfl⟩,fun b hb=>?_,q⟩;obtain rfl:b=s1.heap.objs.size:=by simpa using hb
 exact I1.fpOk (al _) (I1.hok.fresh (al _))
end
section
section
theorem bj.turnedL {t':Nat}{ch:List ac} (I:bj X pins σ H s) (k:∀ b o,b∉ch->s.heap.get? b=some o->h'.get? b=some o) (hf:∀ b∈ch,pT X pins H b):bj X pins σ H { s with heap:=h',toks:=t' }:=by
 have nt:∀ b u,H b=some u->b∉ch:=fun b u e z=>by rw [(hf b z).1] at e;cases e
 refine I.step (g':=s.gens) (d':=s.drawn) (ch:=ch) (fun b hb=>?_) (fun b o _ _ hc e _=>k b o hc e) (fun b o _ _ hc e _=>⟨o.slots,k b o hc e⟩) (fun _ _ _ _ n=>n)
  (fun b o hc e=>⟨o,k b o hc e⟩) (fun _ _ e=>e) (fun _ _ _ e=>e) (fun b ps e=>⟨#[],by rw [e];simp⟩) (fun m hm=>?_) (fun b u e=>?_) I.bare
 ·obtain ⟨f0,f1,f2,f3,f4,f5⟩:=hf b hb;exact ⟨f3,f1,f4,f5⟩
 ·obtain ⟨o,es,ep,ho,r⟩:=hm;exact ⟨o,es,ep,k _ o (fun z=>(hf _ z).f1 rfl) ho,r⟩
 ·refine (I.hok b u e).stay (fun c v hc q=>k c v ?_ q) (fun _ q=>q) fun _ _ q=>q;rcases hc with z|z
  ·rw [z];exact nt b u e
  ·exact nt c _ z
theorem bj.track  (I:bj X pins σ H s) (hf:pT X pins H D) (new:cH X.prog X.w (upd H D ho) s.heap D ho):bj X pins σ (upd H D ho) s:=by
 obtain ⟨f0,f1,f2,f3,f4,f5⟩:=hf;have I':bj X pins σ (upd H D ho) { s with heap:=s.heap,gens:=s.gens,drawn:=s.drawn,toks:=s.toks }:=I.step (ch:=[D]) (fun b hb=>by
   obtain rfl:b=D:=by simpa using hb
   exact ⟨f3,f1,f4,f5⟩) (fun b o _ _ _ e _=>e) (fun b o _ _ _ e _=>⟨o.slots,e⟩) (fun b o hc e n=>by rw [aL (fun z=>hc (by simp [z]))];exact n) (fun b o _ e=>⟨o,e⟩)
  (fun b xs e=>by rw [aL (aS e f0)];exact e) (fun b o xs e=>by rw [aL (aS e f0)];exact e) (fun b ps e=>⟨#[],by rw [aL (aS e f0),e];simp⟩) (fun m hm=>hm) (sV I.hok f0 new) I.bare
 exact I'
end
section
theorem om  (ti:s.heap.IsTupleIter it l i) (tl:s.heap.IsTuple l items) (hx:items[i]?=some x)
  (q:∀ h',h'.IsTupleIter it l (i+1)->c9 it s.heap h'->Q x { s with heap:=h' }):ak (az prog w) A (bd (.ref it)) Q E s:=by
 obtain ⟨oi,ei,ci,di⟩:=id ti;obtain ⟨ot,et,_,nt,dt⟩:=tl;unfold bd;refine a5 (bK (name:=bc "__next__") ti.typeIs hZ ?_);refine bV hZ ti.typeIs zK ?_ (yi _);show ak _ _ (sM (.ref it) 0 >>= _) _ _ s;refine a5 (bH ei di (x:=.ref l) rfl ?_);show ak _ _ (if (bL l==dZ)=true then _ else _) _ _ s;rw [if_neg (fun z:(bL l==dZ)=true=>aU z)];show ak _ _ (sM (.ref it) 1 >>= _) _ _ s;refine a5 (bH ei di (x:=.int i 0) rfl ?_);show ak _ _ (G3 (.ref l) >>= _) _ _ s;refine a5 (bY et dt ?_);simp only [j5,hx];refine a5 (i8 ei di (by simp) (a9 ⟨x,rfl,a9 (q _ ?_ (cE ..))⟩));refine ⟨_,g9 _ ei (Obj.isFreed_of_fields (Gk di _)),(Obj.cls_mapFields ..).trans ci,?_⟩;rw [Gk di];simp [bM]
theorem oo (hh:A.handled=none) (ti:s.heap.IsTupleIter it l i) (tl:s.heap.IsTuple l items) (hx:items[i]?=none)
  (q:∀ h' e,Heap.ExtBut it s.heap h'->(∃ o,h'.get? e=some o/\o.cls=.type "StopIteration")->E (.ref e) { s with heap:=h' }):ak (az prog w) A (bd (.ref it)) Q E s:=by
 obtain ⟨oi,ei,ci,di⟩:=id ti;obtain ⟨ot,et,_,nt,dt⟩:=tl;unfold bd;refine a5 (bK (name:=bc "__next__") ti.typeIs hZ ?_);refine bV hZ ti.typeIs zK ?_ (yi _);show ak _ _ (sM (.ref it) 0 >>= _) _ _ s;refine a5 (bH ei di (x:=.ref l) rfl ?_);show ak _ _ (if (bL l==dZ)=true then _ else _) _ _ s;rw [if_neg (fun z:(bL l==dZ)=true=>aU z)];show ak _ _ (sM (.ref it) 1 >>= _) _ _ s;refine a5 (bH ei di (x:=.int i 0) rfl ?_);show ak _ _ (G3 (.ref l) >>= _) _ _ s;refine a5 (bY et dt ?_);simp only [j5,hx];refine a5 (ft (a5 (i8 ei di (by simp) ?_)));show ak _ _ (uW (.type "StopIteration") [] >>= _) _ _ _;refine a5 ?_;simp only [uW,newTuple];refine a5 (ck ?_ (by size_fits));refine a5 (m:=sK _ _) (sH (a:=dZ) ?_ ?_)
 ·first
   |rfl
   |(simp only [sK];rfl)
 refine ck ?_ (by size_fits);simp only [sJ];refine a5 (wpAny_handled ?_);rw [show A.in1.handled=none from hh];refine a5 (a9 (wpAny_throw ?_));exact q _ _ (((cE ..).extBut.push _).push _) ⟨_,aj _ rfl,rfl⟩
theorem EV (hh:A.handled=none) (it l:ac) (hne:l≠it) (items:Array a8) :
  Draws prog w A it [it,l] items.size (fun i v=>items[i]?=some v) (fun i h=>h.IsTupleIter it l i/\h.IsTuple l items) where
 live:=fun i h st=>let ⟨o,e,_⟩:=st.1;⟨o,e⟩
 frame:=fun i h h' st k=>⟨let ⟨o,e,r⟩:=st.1;⟨o,k it (by simp) o e,r⟩,let ⟨o,e,r⟩:=st.2;⟨o,k l (by simp) o e,r⟩⟩
 item:=fun i s Q E hi st q=>om st.1 st.2 (x:=items[i]) (by simp [hi]) fun h' t' sb=>q _ h' s.toks (by simp [hi]) ⟨t',st.2.extBut sb.extBut hne⟩ sb
 done:=fun s Q E st q=>oo hh st.1 st.2 (by simp) q
end
theorem vi (l:ac) (items:Array a8) (n:Nat) (dct:Option ac) (sl:Array (Option a8)) :
  Meets (gC.«enumerate.__new__» ⟨[.type "enumerate",.ref l],[]⟩) (fun _ R s=>s.heap.get? l=some { cls:=.type "tuple",dict:=dct,data:=.seq items n,slots:=sl } /\
   R (.ok (.ret (.ref (s.heap.push { cls:=.type "tuple_iterator",data:=.fields #[.ref l,.int 0 0] }).objs.size)))
    { s with heap:=(s.heap.push { cls:=.type "tuple_iterator",data:=.fields #[.ref l,.int 0 0] }).push { cls:=.type "enumerate",data:=.fields #[.none,.bool false,.ref s.heap.objs.size,bM 0,.none,.none] } }) :=
 .of_wp fun prog w A R s h=>by
  obtain ⟨hp,g,d,tk,os⟩:=s;obtain ⟨hl,h⟩:=h;have hsub:=PySem.sub_enumerate;have hL:tQ (oX ⟨hp,g,d,tk,os⟩) l items:=⟨_,hl,rfl,n,rfl⟩;wp_walk using eO hl;refine wpAny_stack_any fun st=>a9 ?_;split
  ·rename_i c _ _ _ _ _
   cases (c==gO "enumerate")
   ·wp_walk using eO hl,dR hL;exact ⟨_,rfl,h⟩
   ·wp_walk using eO hl,dR hL;exact ⟨_,rfl,h⟩
  ·wp_walk using eO hl,dR hL;exact ⟨_,rfl,h⟩
end
section
section
theorem wM   (hL:s.heap.IsTuple l items)
  (h:∀ h',IsEnum h' (s.heap.objs.size+1) s.heap.objs.size 0 .none->h'.IsTupleIter s.heap.objs.size l 0->(∀ b o,s.heap.get? b=some o->h'.get? b=some o)->h'.objs.size=s.heap.objs.size+2 ->
   Q (.ref (s.heap.objs.size+1)) { s with heap:=h' }):ak (az prog w) A (call (.type "enumerate") [.ref l]) Q E s:=by
 obtain ⟨⟨c,dc,dt,sl⟩,hl,hc,n,hd⟩:=hL;obtain rfl:c=.type "tuple":=hc;obtain rfl:dt=.seq items n:=hd;refine Gm F.called_enumerate (by decide) (F.typeCall_enumerate_1 _) (F.newCall_enumerate_1 _) (fun obj=>F.args_object_init_2 obj _) F.entry_enumerate_new (vi l items n dc sl) ⟨hl,?_⟩;have z1:(s.heap.push { cls:=.type "tuple_iterator",data:=.fields #[.ref l,.int 0 0] }).objs.size=s.heap.objs.size+1:=bC ..;show _/\_;rw [z1];have he:IsEnum ((s.heap.push { cls:=.type "tuple_iterator",data:=.fields #[.ref l,.int 0 0] }).push { cls:=.type "enumerate",data:=.fields #[.none,.bool false,.ref s.heap.objs.size,bM 0,.none,.none] }) (s.heap.objs.size+1) s.heap.objs.size 0 .none:=by
  have q:=aj (s.heap.push { cls:=.type "tuple_iterator",data:=.fields #[.ref l,.int 0 0] }) (o:={ cls:=.type "enumerate",data:=.fields #[.none,.bool false,.ref s.heap.objs.size,bM 0,.none,.none] }) rfl;rw [z1] at q;exact q
 exact ⟨⟨_,he,rfl⟩,h _ he ⟨_,a7 _ (aj _ rfl),rfl,rfl⟩ (fun b o e=>a7 _ (a7 _ e)) (by rw [bC,z1])⟩
end
def S7 (K:a6) (a:ac):It :=
 ⟨fun i H=>∃ xs x,ic K H a xs/\xs[i]?=some x,fun i H v H'=>∃ p,H p=none/\v=.ref p/\∀ xs,ic K H a xs->∃ x,xs[i]?=some x/\H'=upd H p (.tup [.int i,x]),fun i H=>∃ xs,ic K H a xs/\xs.length<=i⟩
theorem EW {P:aH}{w:aY}{K:a6}{elts:List aP}{x1}{pos:Pos} (a e it:ac) (hei:e≠it):yq P w K (.Tuple elts x1 pos) (S7 K a) [e,it] e (fun i h=>(∃ old,IsEnum h e it i old)/\h.IsTupleIter it a i) where
 mem:=by simp
 obj:=fun i h st b hb=>by
  simp only [aQ,aG,or_false] at hb;rcases hb with rfl|rfl
  ·obtain ⟨⟨old,q⟩,_⟩:=st;exact ⟨_,q,fun v z=>by cases z⟩
  ·obtain ⟨_,o,q,_,d⟩:=st;exact ⟨o,q,fun v z=>by rw [d] at z;cases z⟩
 keep:=fun i h h' st k=>⟨let ⟨old,q⟩:=st.1;⟨old,k e (by simp) _ q⟩,let ⟨o,q,r⟩:=st.2;⟨o,k it (by simp) o q,r⟩⟩
 item:=by
  intro X hP hw hK hc i pins s σ H E I hf st hg;subst hP hw hK;obtain ⟨xs,x,hq,hx⟩:=hg;obtain ⟨its,rv,p,hz⟩:=I.tuple hq;obtain ⟨u,hu,ru⟩:=rv.get hx;obtain ⟨⟨old,he⟩,hit⟩:=st;have hit0:=hit;obtain ⟨oi,ei,_⟩:=hit0;have hai:a≠it:=fun z=>by
   obtain ⟨o1,e1,c1,_⟩:=p;obtain ⟨o2,e2,c2,_⟩:=hit;rw [z,e2] at e1;cases e1;rw [c2] at c1;exact absurd (D4 c1) (by decide)
  have hae:a≠e:=fun z=>by
   obtain ⟨o1,e1,c1,_⟩:=p;rw [z,he] at e1;cases e1;exact absurd (D4 (show gO "enumerate"=gO "tuple" from c1)) (by decide)
  have hlt:i<its.toArray.size:=by simp;exact (List.getElem?_eq_some_iff.mp hu).1
  have he0:=ah he;refine wpAny_pyNext_enum_itemD (EV (by simpa using I.ok.hd hc) it a hai its.toArray) he ⟨hit,p⟩ hlt hei (by simp [hei,e6 hae]) ?_;intro x' h1 tk hx' eo st1 tup sz k1;have hx'':its[i]?=some x':=by simpa using hx'
  rw [hu] at hx'';cases hx'';refine ⟨_,rfl,wpAny_letOwnedTupleGo_enum eo fun h2 e2 sb2=>?_⟩;have szn:s.heap.objs.size≠e:=dI he0;have I2:bj X pins σ H { s with heap:=h2,toks:=tk+1 }:=I.turnedL (ch:=[e,it]) (fun b o hb q=>by
   simp only [aQ,aG,or_false,not_or] at hb;exact (sb2.2 b hb.1).trans (k1 b o hb.1 hb.2 q)) hf
  have fT:=I.fpOk (H':=H) (al _) (I.hok.fresh (al _));have tup2:h2.get? s.heap.objs.size=some { cls:=.type "tuple",data:=.seq #[.int i tk,u] }:=(sb2.2 _ szn).trans tup;have I3:=I2.track (ho:=.tup [.int i,x]) fT ⟨by show 2<=sizeLine;decide,[.int i tk,u],.cons ⟨tk,rfl⟩ (.cons ru .nil),⟨_,tup2,rfl,0,rfl⟩⟩;refine ⟨.ref s.heap.objs.size,_,I3,rfl,⟨_,fT.1,rfl,fun ys hy=>?_⟩,⟨⟨u,?_⟩,?_⟩,fun b hb=>?_⟩
  ·rw [I.tuple_inj hy hq];exact ⟨x,hx,rfl⟩
  ·have:(((i+1:Nat):Int))=(i:Int)+1:=by omega
   rw [this];exact e2
  ·obtain ⟨o,q,r⟩:=st1.1;exact ⟨o,(sb2.2 it (e6 hei)).trans q,r⟩
  ·rw [aL]
   ·exact (hf b hb).1
   ·simp only [aQ,aG,or_false] at hb;rcases hb with z|z
    ·rw [z];exact aE he0
    ·rw [z];exact aE (ah ei)
 done:=by
  intro X hP hw hK hc i pins s σ H E I hf st hg;subst hP hw hK;obtain ⟨xs,hq,hx⟩:=hg;obtain ⟨its,rv,p,hz⟩:=I.tuple hq;obtain ⟨⟨old,he⟩,hit⟩:=st;have hl:=rv.length;have hT:s.TypeIs (.ref e) "enumerate":=⟨_,he,rfl⟩;unfold mx;refine a5 (gU (bK (name:=bc "__next__") hT G4 ?_));refine bV G4 hT F.entry_enumerate_next ?_ (F.args_enumerate_next_1 _);show ak _ _ (sM (.ref e) 2 >>= _) _ _ _;refine a5 (bH he rfl (x:=.ref it) rfl ?_);refine a5 (oo (by simpa using I.ok.hd hc) hit (show s.heap.IsTuple a its.toArray from p) (by simp;omega) fun h' z eb hz'=>?_);obtain ⟨o,ho,hcl⟩:=hz';refine a5 (kf (T:="StopIteration") (b:=true) ⟨o,ho,hcl⟩ sL ?_);exact a9 ⟨rfl,I.turnedL (t':=s.toks) (ch:=[e,it]) (fun b o hb q=>eb b o (by
   simp only [aQ,aG,or_false,not_or] at hb;exact hb.2) q) hf⟩
 self:=fun _ _ _ _ _ st h=>let ⟨⟨_,q⟩,_⟩:=st;wpAny_pyIter_enum q h
def PP (K:a6) (ta:TA):TI:=fun σ H R=>ta σ H fun vs H1=>∃ a xs,vs=[.ref a]/\ic K H1 a xs/\R (S7 K a) H1
theorem L3 {X:Cx}{elts:List aP}{x1}{tpos p pos:Pos}{a:aP}{ta:TA} (hg:Gl X "enumerate") (hm:X.mg "enumerate"=none) (ha:PA X [a] ta) (hs:aq [a] X.env=[(false,bU a X.env)]:=by rfl) :
  PI X (.Tuple elts x1 tpos) (.Call (.Name "enumerate" p) [a] [] pos) (PP X.K ta):=by
 intro pins s σ H R I h;refine Call_ (qk I hg hm boot_enumerate (dJ (eK (ha pos pins s σ H _ I h) fun us s1 ⟨vs,H1,I1,r1,q1⟩=>?_) hs rfl));obtain ⟨ad,xs,rfl,hq,q⟩:=q1;obtain ⟨u,rfl,rx⟩:=l7 r1;cases rx;obtain ⟨its,rv,tp,hz⟩:=I1.tuple hq;refine wM (show s1.heap.IsTuple ad its.toArray from tp) fun h' e1 t1 kp sz=>?_;refine wpAny_pyIter_enum e1 ?_;have I2:bj X pins σ H1 { s1 with heap:=h' }:=I1.kept (t':=s1.toks) kp;refine ⟨s1.heap.objs.size+1,[s1.heap.objs.size+1,s1.heap.objs.size],_,_,H1,rfl,I2,EW ad _ _ (dI (hX _)),⟨⟨.none,e1⟩,t1⟩,fun b hb=>?_,q⟩;simp only [aQ,aG,or_false] at hb;rcases hb with z|z
 ·rw [z];exact I1.fpOk (ml _) (I1.hok.fresh (ml _))
 ·rw [z];exact I1.fpOk (al _) (I1.hok.fresh (al _))
end
section
section
variable {prog:aH}{w:aY}{A:aZ}{E:a8->aa->Prop}{s:aa}{z TI TO i1 i2 l1 l2:ac}{k1 k2:Nat}{xs ys:Array a8}{x y a b:a8}
theorem eA    (t:h.IsTupleIter it l k) (sb:c9 c h h') (ne:it≠c):h'.IsTupleIter it l k:=t.extBut sb.extBut ne
theorem ii    (t:h.IsTuple l xs) (sb:c9 c h h') (ne:l≠c):h'.IsTuple l xs:=t.extBut sb.extBut ne
theorem Hk {Q:a8->aa->Prop} (D:pR z TI TO i1 i2 l1 l2) (za:hW s.heap z TI TO .none) (pa:cW s.heap TI (.ref i1) (.ref i2)) (pb:cW s.heap TO a b)
  (u1:s.heap.IsTupleIter i1 l1 k1) (u2:s.heap.IsTupleIter i2 l2 k2) (v1:s.heap.IsTuple l1 xs) (v2:s.heap.IsTuple l2 ys) (hx:xs[k1]?=some x) (hy:ys[k2]?=some y)
  (q:∀ h',hW h' z TI TO (bM s.heap.objs.size)->cW h' TO x y->h'.IsTupleIter i1 l1 (k1+1)->h'.IsTupleIter i2 l2 (k2+1)->cW h' s.heap.objs.size x y ->
   (∀ c o,c≠z->c≠TO->c≠i1->c≠i2->s.heap.get? c=some o->h'.get? c=some o)->Q (.ref s.heap.objs.size) { s with heap:=h' }) :
  ak (az prog w) A (gC.«zip.__next__» ⟨[.ref z],[]⟩) (fun fin s'=>∃ v,fin=.done (.ret v)/\Q v s') E s:=by
 show ak _ _ (sM (.ref z) 2 >>= _) _ _ _;refine a5 (bH za rfl (x:=.bool false) rfl ?_);show ak _ _ (sM (.ref z) 3 >>= _) _ _ _;refine a5 (bH za rfl (x:=.ref TI) rfl ?_);refine a5 (bY pa rfl ?_);show ak _ _ (bq (.ref z) >>= _) _ _ _;refine a5 ?_;unfold bq;refine a5 (bH za rfl (x:=.none) rfl (a9 ?_));simp only [if_true];refine a5 (ft ?_);refine a5 (bH za rfl (x:=.ref TO) rfl ?_);refine a5 (c8 za (by simp) fun g1 z1 b1=>?_);replace z1:hW g1 z TI TO .ellipsis:=z1;refine a5 ?_;simp only [ny,n_,iC,kX];refine a5 (a5 (gW ?_));show ak _ _ (bd (.ref i1) >>= _) _ _ _;refine a5 (om (eA u1 b1 D.i1z) (ii v1 b1 D.l1z) hx fun g2 w1 b2=>a9 ?_);have p2:cW g2 TO a b:=b2.extBut _ _ D.TOi1 (b1.extBut _ _ D.TOz pb);refine a5 (bY p2 rfl (a5 (fg p2 fun g3 p3 b3=>?_)));replace p3:cW g3 TO x b:=p3;refine a5 (nR (a9 (a5 (a5 (gW ?_)))));show ak _ _ (bd (.ref i2) >>= _) _ _ _;refine a5 (om (eA (eA (eA u2 b1 D.i2z) b2 D.i12.symm) b3 D.TOi2.symm) (ii (ii (ii v2 b1 D.l2z) b2 D.l2i1) b3 D.l2TO) hy fun g4 w2 b4=>a9 ?_);have p4:cW g4 TO x b:=b4.extBut _ _ D.TOi2 p3;refine a5 (bY p4 rfl (a5 (fg p4 fun g5 p5 b5=>?_)));replace p5:cW g5 TO x y:=p5;refine a5 (nR (a9 (a9 ?_)));refine a5 (bY p5 rfl (a5 (wpAny_newTuple ?_)));have sz:g5.objs.size=s.heap.objs.size:=by rw [b5.1,b4.1,b3.1,b2.1,b1.1]
 have z5:hW g5 z TI TO .ellipsis:=b5.extBut _ _ D.TOz.symm (b4.extBut _ _ D.i2z.symm (b3.extBut _ _ D.TOz.symm (b2.extBut _ _ D.i1z.symm z1)));have k5:∀ c o,c≠z->c≠TO->c≠i1->c≠i2->s.heap.get? c=some o->g5.get? c=some o:=fun c o n1 n2 n3 n4 e =>
  b5.extBut _ _ n2 (b4.extBut _ _ n4 (b3.extBut _ _ n2 (b2.extBut _ _ n3 (b1.extBut _ _ n1 e))))
 have y1:g5.IsTupleIter i1 l1 (k1+1):=eA (eA (eA w1 b3 D.TOi1.symm) b4 D.i12) b5 D.TOi1.symm;have y2:g5.IsTupleIter i2 l2 (k2+1):=eA w2 b5 D.TOi2.symm;have zl:z<g5.objs.size:=ah z5;show ak _ _ (dg (.ref z) (.ref g5.objs.size) >>= _) _ _ _;refine a5 ?_;unfold dg;have z6:hW (g5.push { cls:=.type "tuple",data:=.seq #[x,y] }) z TI TO .ellipsis:=a7 _ z5;refine a5 (c8 z6 (by simp) fun g7 z7 b7=>?_);replace z7:hW g7 z TI TO (bM g5.objs.size):=z7;refine c8 z7 (by simp) fun g8 z8 b8=>?_;replace z8:hW g8 z TI TO (bM g5.objs.size):=z8;have up:∀ c o,c≠z->g5.get? c=some o->g8.get? c=some o:=fun c o n1 e=>b8.extBut _ _ n1 (b7.extBut _ _ n1 (a7 _ e));have p8:cW g8 g5.objs.size x y:=b8.extBut _ _ (dI zl) (b7.extBut _ _ (dI zl) (aj _ rfl));rw [sz] at z8 p8;refine a9 ⟨_,rfl,?_⟩;show Q (.ref g5.objs.size) _;rw [sz];exact q g8 z8 (up _ _ D.TOz p5) (let ⟨o,e,r⟩:=y1;⟨o,up _ o D.i1z e,r⟩) (let ⟨o,e,r⟩:=y2;⟨o,up _ o D.i2z e,r⟩) p8 fun c o n1 n2 n3 n4 e=>up c o n1 (k5 c o n1 n2 n3 n4 e)
theorem Hl (hh:A.handled=none) (D:pR z TI TO i1 i2 l1 l2) (za:hW s.heap z TI TO .none) (pa:cW s.heap TI (.ref i1) (.ref i2)) (pb:cW s.heap TO a b)
  (u1:s.heap.IsTupleIter i1 l1 k1) (u2:s.heap.IsTupleIter i2 l2 k2) (v1:s.heap.IsTuple l1 xs) (v2:s.heap.IsTuple l2 ys) (hend:xs[k1]?=none\/ys[k2]?=none)
  (q:∀ h' e,(∀ c o,c≠z->c≠TO->c≠i1->c≠i2->s.heap.get? c=some o->h'.get? c=some o)->(∃ o,h'.get? e=some o/\o.cls=.type "StopIteration")->E (.ref e) { s with heap:=h' }) :
  ak (az prog w) A (gC.«zip.__next__» ⟨[.ref z],[]⟩) Q E s:=by
 show ak _ _ (sM (.ref z) 2 >>= _) _ _ _;refine a5 (bH za rfl (x:=.bool false) rfl ?_);show ak _ _ (sM (.ref z) 3 >>= _) _ _ _;refine a5 (bH za rfl (x:=.ref TI) rfl ?_);refine a5 (bY pa rfl ?_);show ak _ _ (bq (.ref z) >>= _) _ _ _;refine a5 ?_;unfold bq;refine a5 (bH za rfl (x:=.none) rfl (a9 ?_));simp only [if_true];refine a5 (ft ?_);refine a5 (bH za rfl (x:=.ref TO) rfl ?_);refine a5 (c8 za (by simp) fun g1 z1 b1=>?_);replace z1:hW g1 z TI TO .ellipsis:=z1;refine a5 ?_;simp only [ny,n_,iC,kX];refine a5 (a5 (gW ?_));show ak _ _ (bd (.ref i1) >>= _) _ _ _;cases hx:xs[k1]? with
 |none =>
  refine a5 (oo hh (eA u1 b1 D.i1z) (ii v1 b1 D.l1z) hx fun g2 e b2 he=>?_);obtain ⟨oe,ee,ce⟩:=he;have z2:hW g2 z TI TO .ellipsis:=b2 _ _ D.i1z.symm z1;have ez:e≠z:=fun n=>by subst n;rw [z2] at ee;cases ee;simp at ce
  refine c8 z2 (by simp) fun g3 _ b3=>q g3 e (fun c o n1 _ n3 _ m=>b3.extBut _ _ n1 (b2 _ _ n3 (b1.extBut _ _ n1 m))) ⟨oe,b3.extBut _ _ ez ee,ce⟩
 |some x =>
  have hy:ys[k2]?=none:=hend.resolve_left fun n=>by rw [hx] at n;cases n
  refine a5 (om (eA u1 b1 D.i1z) (ii v1 b1 D.l1z) hx fun g2 w1 b2=>a9 ?_);have p2:cW g2 TO a b:=b2.extBut _ _ D.TOi1 (b1.extBut _ _ D.TOz pb);refine a5 (bY p2 rfl (a5 (fg p2 fun g3 p3 b3=>?_)));refine a5 (nR (a9 (a5 (a5 (gW ?_)))));show ak _ _ (bd (.ref i2) >>= _) _ _ _;refine a5 (oo hh (eA (eA (eA u2 b1 D.i2z) b2 D.i12.symm) b3 D.TOi2.symm) (ii (ii (ii v2 b1 D.l2z) b2 D.l2i1) b3 D.l2TO) hy fun g4 e b4 he=>?_);obtain ⟨oe,ee,ce⟩:=he;have z4:hW g4 z TI TO .ellipsis:=b4 _ _ D.i2z.symm (b3.extBut _ _ D.TOz.symm (b2.extBut _ _ D.i1z.symm z1));have ez:e≠z:=fun n=>by subst n;rw [z4] at ee;cases ee;simp at ce
  refine c8 z4 (by simp) fun g5 _ b5=>q g5 e (fun c o n1 n2 n3 n4 m=>b5.extBut _ _ n1 (b4 _ _ n4 (b3.extBut _ _ n2 (b2.extBut _ _ n3 (b1.extBut _ _ n1 m))))) ⟨oe,b5.extBut _ _ ez ee,ce⟩
end
abbrev Ri (h:ba) (l1:ac):ba:=h.push { cls:=.type "tuple_iterator",data:=.fields #[.ref l1,.int 0 0] }
abbrev Rj (h:ba) (l1 l2:ac):ba:=(Ri h l1).push { cls:=.type "tuple_iterator",data:=.fields #[.ref l2,.int 0 0] }
abbrev Rk (h:ba) (l1 l2:ac):ba:=(Rj h l1 l2).push { cls:=.type "tuple",data:=.seq #[.ref h.objs.size,.ref (Ri h l1).objs.size] }
abbrev Rl (h:ba) (l1 l2:ac):ba:=(Rk h l1 l2).push { cls:=.type "tuple",data:=.seq #[.none,.none] }
abbrev P5 (h:ba) (l1 l2:ac):ba:=(Rl h l1 l2).push { cls:=.type "zip",data:=.fields #[.none,.bool false,.bool false,.ref (Rj h l1 l2).objs.size,.ref (Rk h l1 l2).objs.size] }
theorem wN (l1 l2:ac) (xs ys:Array a8) :
  Meets (gC.«zip.__new__» ⟨[.type "zip",.ref l1,.ref l2],[]⟩) (fun _ R s=>s.heap.IsTuple l1 xs/\s.heap.IsTuple l2 ys/\R (.ok (.ret (.ref (Rl s.heap l1 l2).objs.size))) { s with heap:=P5 s.heap l1 l2 }) :=
 .of_wp fun prog w A R s h=>by
  obtain ⟨hp,g,d,tk,os⟩:=s;obtain ⟨v1,v2,h⟩:=h;have hsub:=PySem.sub_zip;have L1:tQ (oX ⟨hp,g,d,tk,os⟩) l1 xs:=v1;have L2:tQ (oX ⟨hp.push { cls:=.type "tuple_iterator",data:=.fields #[.ref l1,.int 0 0] },g,d,tk,os⟩) l2 ys:=yj v2 _;wp_walk using dR L1,dR L2;exact ⟨_,rfl,h⟩
section
theorem yE   (v1:s.heap.IsTuple l1 xs) (v2:s.heap.IsTuple l2 ys)
  (h:∀ h',hW h' (s.heap.objs.size+4) (s.heap.objs.size+2) (s.heap.objs.size+3) .none->cW h' (s.heap.objs.size+2) (.ref s.heap.objs.size) (.ref (s.heap.objs.size+1)) ->
   cW h' (s.heap.objs.size+3) .none .none->h'.IsTupleIter s.heap.objs.size l1 0->h'.IsTupleIter (s.heap.objs.size+1) l2 0 ->
   (∀ c o,s.heap.get? c=some o->h'.get? c=some o)->Q (.ref (s.heap.objs.size+4)) { s with heap:=h' }):ak (az prog w) A (call (.type "zip") [.ref l1,.ref l2]) Q E s:=by
 refine Gm F.called_zip (by decide) (F.typeCall_zip_2 _ _) (F.newCall_zip_2 _ _) (fun obj=>Gn obj _ _) F.entry_zip_new (wN l1 l2 xs ys) ⟨v1,v2,?_⟩;have n1:(Ri s.heap l1).objs.size=s.heap.objs.size+1:=bC ..;have n2:(Rj s.heap l1 l2).objs.size=s.heap.objs.size+2:=by rw [bC,n1]
 have n3:(Rk s.heap l1 l2).objs.size=s.heap.objs.size+3:=by rw [bC,n2]
 have n4:(Rl s.heap l1 l2).objs.size=s.heap.objs.size+4:=by rw [bC,n3]
 have c5:(P5 s.heap l1 l2).get? (Rl s.heap l1 l2).objs.size=some _:=aj _ rfl;have c4:(P5 s.heap l1 l2).get? (Rk s.heap l1 l2).objs.size=some _:=a7 _ (aj _ rfl);have c3:(P5 s.heap l1 l2).get? (Rj s.heap l1 l2).objs.size=some _:=a7 _ (a7 _ (aj _ rfl));have c2:(P5 s.heap l1 l2).get? (Ri s.heap l1).objs.size=some _:=a7 _ (a7 _ (a7 _ (aj _ rfl)));have c1:(P5 s.heap l1 l2).get? s.heap.objs.size=some _:=a7 _ (a7 _ (a7 _ (a7 _ (aj _ rfl))));show _/\_;rw [n2,n3,n4] at c5;rw [n1,n2] at c3;rw [n3] at c4;rw [n1] at c2;rw [n4];exact ⟨⟨_,c5,rfl⟩,h _ c5 c3 c4 ⟨_,c1,rfl,rfl⟩ ⟨_,c2,rfl,rfl⟩ fun c o e=>a7 _ (a7 _ (a7 _ (a7 _ (a7 _ e))))⟩
end
theorem ic.ne_fp       (I:bj X pins σ H s) (hq:ic X.K H a xs) (hf:pT X pins H b):a≠b:=by
 rintro rfl;rcases hq with (h|⟨o,h⟩)|⟨o,its,n,hk,_⟩
 ·rw [hf.1] at h;cases h
 ·rw [hf.1] at h;cases h
 ·have e:X.base.get? a=some o:=I.mod.kin a o hk;rcases hf.f3 with z|z
  ·exact I.ok.noex a o e z
  ·exact absurd (ay (ah e) (bv I.ok.bsz z)) (cu _)
def S8 (K:a6) (a b:ac):It :=
 ⟨fun i H=>∃ xs ys x y,ic K H a xs/\ic K H b ys/\xs[i]?=some x/\ys[i]?=some y,
  fun i H v H'=>∃ p,H p=none/\v=.ref p/\∀ xs ys,ic K H a xs->ic K H b ys->∃ x y,xs[i]?=some x/\ys[i]?=some y/\H'=upd H p (.tup [x,y]),
  fun i H=>∃ xs ys,ic K H a xs/\ic K H b ys/\(xs.length<=i\/ys.length<=i)⟩
structure PQ (z TI TO i1 i2:ac):Prop where
 d1:TI≠z
 d2:TO≠z
 d3:i1≠z
 d4:i2≠z
 d5:TI≠TO
 d6:TI≠i1
 d7:TI≠i2
 d8:TO≠i1
 d9:TO≠i2
 d0:i1≠i2
theorem Hm {P:aH}{w:aY}{K:a6}{elts:List aP}{x1}{pos:Pos} (l1 l2 z TI TO i1 i2:ac) (Z:PQ z TI TO i1 i2) :
  yq P w K (.Tuple elts x1 pos) (S8 K l1 l2) [z,TI,TO,i1,i2] z (fun i h=>hW h z TI TO .none/\cW h TI (.ref i1) (.ref i2)/\(∃ a b,cW h TO a b)/\h.IsTupleIter i1 l1 i/\h.IsTupleIter i2 l2 i) where
 mem:=by simp
 obj:=fun i h st b hb=>by
  obtain ⟨s1,s2,⟨_,_,s3⟩,⟨o4,e4,_,f4⟩,⟨o5,e5,_,f5⟩⟩:=st;simp only [aQ,aG,or_false] at hb;rcases hb with rfl|rfl|rfl|rfl|rfl
  ·exact ⟨_,s1,fun v q=>by cases q⟩
  ·exact ⟨_,s2,fun v q=>by cases q⟩
  ·exact ⟨_,s3,fun v q=>by cases q⟩
  ·exact ⟨o4,e4,fun v q=>by rw [f4] at q;cases q⟩
  ·exact ⟨o5,e5,fun v q=>by rw [f5] at q;cases q⟩
 keep:=fun i h h' st k=>by
  obtain ⟨s1,s2,⟨u,v,s3⟩,⟨o4,e4,r4⟩,⟨o5,e5,r5⟩⟩:=st;exact ⟨k z (by simp) _ s1,k TI (by simp) _ s2,⟨u,v,k TO (by simp) _ s3⟩,⟨o4,k i1 (by simp) _ e4,r4⟩,⟨o5,k i2 (by simp) _ e5,r5⟩⟩
 item:=by
  intro X hP hw hK hc i pins s σ H E I hf st hg;subst hP hw hK;obtain ⟨xs,ys,x,y,hq1,hq2,hx,hy⟩:=hg;obtain ⟨its1,rv1,p1,_⟩:=I.tuple hq1;obtain ⟨its2,rv2,p2,_⟩:=I.tuple hq2;obtain ⟨u,hu,ru⟩:=rv1.get hx;obtain ⟨v,hv,rv⟩:=rv2.get hy;obtain ⟨s1,s2,⟨a,b,s3⟩,s4,s5⟩:=st;have ne1:∀ b∈[z,TI,TO,i1,i2],l1≠b:=fun b hb=>hq1.ne_fp I (hf b hb);have ne2:∀ b∈[z,TI,TO,i1,i2],l2≠b:=fun b hb=>hq2.ne_fp I (hf b hb);have D:pR z TI TO i1 i2 l1 l2:=⟨Z.d1,Z.d2,Z.d3,Z.d4,Z.d5,Z.d6,Z.d7,Z.d8,Z.d9,Z.d0,ne1 z (by simp),ne1 TO (by simp),ne1 i1 (by simp),ne1 i2 (by simp),ne2 z (by simp),ne2 TO (by simp),ne2 i1 (by simp),ne2 i2 (by simp)⟩;have zl:=ah s1;have hT:s.TypeIs (.ref z) "zip":=⟨_,s1,rfl⟩;unfold mx;refine a5 (gU (bK (name:=bc "__next__") hT eW ?_));refine bV eW hT o6 (Hk D s1 s2 s3 s4 s5 p1 p2 (by simpa using hu) (by simpa using hv) fun h1 z1 t1 y1 y2 pr k1=>?_) (nz _);refine a9 ⟨_,rfl,D5 z1 fun h2 z2 b2=>?_⟩;have szn:s.heap.objs.size≠z:=dI zl;have TIk:cW h1 TI (.ref i1) (.ref i2):=k1 TI _ Z.d1 Z.d5 Z.d6 Z.d7 s2;have I2:bj X pins σ H { s with heap:=h2 }:=I.turnedL (t':=s.toks) (ch:=[z,TI,TO,i1,i2]) (fun b o hb q=>by
   simp only [aQ,aG,or_false,not_or] at hb;exact (b2.2 b hb.1).trans (k1 b o hb.1 hb.2.2.1 hb.2.2.2.1 hb.2.2.2.2 q)) hf
  have fT:=I.fpOk (H':=H) (al _) (I.hok.fresh (al _));have pr2:h2.get? s.heap.objs.size=some { cls:=.type "tuple",data:=.seq #[u,v] }:=(b2.2 _ szn).trans pr;have I3:=I2.track (ho:=.tup [x,y]) fT ⟨by show 2<=sizeLine;decide,[u,v],.cons ru (.cons rv .nil),⟨_,pr2,rfl,0,rfl⟩⟩;refine ⟨.ref s.heap.objs.size,_,I3,rfl,⟨_,fT.1,rfl,fun xs' ys' h1 h2=>?_⟩,⟨z2,(b2.2 TI Z.d1).trans TIk,⟨u,v,(b2.2 TO Z.d2).trans t1⟩,eA y1 b2 Z.d3,eA y2 b2 Z.d4⟩,fun b hb=>?_⟩
  ·rw [I.tuple_inj h1 hq1,I.tuple_inj h2 hq2];exact ⟨x,y,hx,hy,rfl⟩
  ·have bl:b<s.heap.objs.size:=by
    simp only [aQ,aG,or_false] at hb;rcases hb with q|q|q|q|q
    ·rw [q];exact zl
    ·rw [q];exact ah s2
    ·rw [q];exact ah s3
    ·obtain ⟨_,e,_⟩:=s4;rw [q];exact ah e
    ·obtain ⟨_,e,_⟩:=s5;rw [q];exact ah e
   rw [aL (aE bl)];exact (hf b hb).1
 done:=by
  intro X hP hw hK hc i pins s σ H E I hf st hg;subst hP hw hK;obtain ⟨xs,ys,hq1,hq2,hend⟩:=hg;obtain ⟨its1,rv1,p1,_⟩:=I.tuple hq1;obtain ⟨its2,rv2,p2,_⟩:=I.tuple hq2;obtain ⟨s1,s2,⟨a,b,s3⟩,s4,s5⟩:=st;have ne1:∀ b∈[z,TI,TO,i1,i2],l1≠b:=fun b hb=>hq1.ne_fp I (hf b hb);have ne2:∀ b∈[z,TI,TO,i1,i2],l2≠b:=fun b hb=>hq2.ne_fp I (hf b hb);have D:pR z TI TO i1 i2 l1 l2:=⟨Z.d1,Z.d2,Z.d3,Z.d4,Z.d5,Z.d6,Z.d7,Z.d8,Z.d9,Z.d0,ne1 z (by simp),ne1 TO (by simp),ne1 i1 (by simp),ne1 i2 (by simp),ne2 z (by simp),ne2 TO (by simp),ne2 i1 (by simp),ne2 i2 (by simp)⟩;have hT:s.TypeIs (.ref z) "zip":=⟨_,s1,rfl⟩;have n1:=rv1.length;have n2:=rv2.length;unfold mx;refine a5 (gU (bK (name:=bc "__next__") hT eW ?_));refine bV eW hT o6 (Hl (by simpa using I.ok.hd hc) D s1 s2 s3 s4 s5 p1 p2 (hend.elim (fun q=>.inl (by simp;omega)) fun q=>.inr (by simp;omega)) fun h' e kp he=>?_) (nz _);obtain ⟨o,eo,co⟩:=he;refine a5 (kf (T:="StopIteration") (b:=true) ⟨o,eo,co⟩ sL ?_);exact a9 ⟨rfl,I.turnedL (t':=s.toks) (ch:=[z,TI,TO,i1,i2]) (fun b o hb q=>by
   simp only [aQ,aG,or_false,not_or] at hb;exact kp b o hb.1 hb.2.2.1 hb.2.2.2.1 hb.2.2.2.2 q) hf⟩
 self:=fun _ _ _ _ _ st h=>pS st.1 h
def S9 (K:a6) (ta:TA):TI:=fun σ H R=>ta σ H fun vs H1=>∃ a b xs ys,vs=[.ref a,.ref b]/\ic K H1 a xs/\ic K H1 b ys/\R (S8 K a b) H1
theorem Ho {X:Cx}{elts:List aP}{x1}{tpos p pos:Pos}{a b:aP}{ta:TA} (hg:Gl X "zip") (hm:X.mg "zip"=none) (ha:PA X [a,b] ta) (hs:aq [a,b] X.env=[(false,bU a X.env),(false,bU b X.env)]:=by rfl)
  (hs2:aq [b] X.env=[(false,bU b X.env)]:=by rfl):PI X (.Tuple elts x1 tpos) (.Call (.Name "zip" p) [a,b] [] pos) (S9 X.K ta):=by
 intro pins s σ H R I h;refine Call_ (qk I hg hm boot_zip (dJ (eK (ha pos pins s σ H _ I h) fun us s1 ⟨vs,H1,I1,r1,q1⟩=>?_) (by rw [hs,hs2]) (by rw [hs2];rfl)));obtain ⟨a1,a2,xs,ys,rfl,hq1,hq2,q⟩:=q1;obtain ⟨u1,u2,rfl,rx1,rx2⟩:=Da r1;cases rx1;cases rx2;obtain ⟨its1,rv1,p1,_⟩:=I1.tuple hq1;obtain ⟨its2,rv2,p2,_⟩:=I1.tuple hq2;refine yE (show s1.heap.IsTuple a1 its1.toArray from p1) (show s1.heap.IsTuple a2 its2.toArray from p2) fun h' c1 c2 c3 c4 c5 kp=>?_;refine pS c1 ?_;have I2:bj X pins σ H1 { s1 with heap:=h' }:=I1.kept (t':=s1.toks) kp;have ad:∀ k j:Nat,k≠j->s1.heap.objs.size+k≠s1.heap.objs.size+j:=fun k j n e=>n (G5 e);refine ⟨s1.heap.objs.size+4,[s1.heap.objs.size+4,s1.heap.objs.size+2,s1.heap.objs.size+3,s1.heap.objs.size+0,s1.heap.objs.size+1],_,_,H1,rfl,I2,
  Hm a1 a2 _ _ _ _ _ ⟨ad _ _ (by decide),ad _ _ (by decide),ad _ _ (by decide),ad _ _ (by decide),ad _ _ (by decide),ad _ _ (by decide),ad _ _ (by decide),ad _ _ (by decide),ad _ _ (by decide),ad _ _ (by decide)⟩,
  ⟨c1,c2,⟨_,_,c3⟩,c4,c5⟩,fun b hb=>?_,q⟩
 have:∀ k:Nat,pT X pins H1 (s1.heap.objs.size+k):=fun k=>I1.fpOk (nI _ _) (I1.hok.fresh (nI _ _))
 simp only [aQ,aG,or_false] at hb;rcases hb with q|q|q|q|q<;>(rw [q];exact this _)
end
section
mutual
inductive C4 (K:a6) (H:Hp):V->yk->Prop
 |none:C4 K H .non .none
 |bool (b:Bool):C4 K H (.bl b) (.bool b)
 |int (i:Int):C4 K H (.int i) (.int i)
 |str (x:Str):C4 K H (.str x) (.str x)
 |list {a:ac}{xs:List V}{ds:List yk}:jI K H a xs->Reps K H xs ds->C4 K H (.ref a) (.list ds)
 |tuple {a:ac}{xs:List V}{ds:List yk}:ic K H a xs->Reps K H xs ds->C4 K H (.ref a) (.tuple ds)
inductive Reps (K:a6) (H:Hp):List V->List yk->Prop
 |nil:Reps K H [] []
 |cons {x:V}{xs:List V}{d:yk}{ds:List yk}:C4 K H x d->Reps K H xs ds->Reps K H (x::xs) (d::ds)
end
theorem cR.tup {K:a6}{H H':Hp}{a:ac}{xs:List V} (e:cR H H') (h:ic K H a xs):ic K H' a xs:=by
 rcases h with (h|⟨o,h⟩)|h
 ·exact .inl (.inl (e _ _ h))
 ·exact .inl (.inr ⟨o,e _ _ h⟩)
 ·exact .inr h
section
theorem L5 (I:bj X pins σ H s)    (h:jI X.K H a xs) (ih:∀ {us:List a8},cF xs us->∃ as,ReadsAll s.heap us ds as) (r:cD (.ref a) u):∃ as,Reads s.heap u (.list ds) as:=by
 cases r;obtain ⟨its,rv,⟨o,n,e,c,_,d⟩,_⟩:=I.list h;obtain ⟨as,ra⟩:=ih rv;exact ⟨_,.list e c d (by simpa using ra)⟩
theorem Hq (I:bj X pins σ H s)    (h:ic X.K H a xs) (ih:∀ {us:List a8},cF xs us->∃ as,ReadsAll s.heap us ds as) (r:cD (.ref a) u):∃ as,Reads s.heap u (.tuple ds) as:=by
 cases r;obtain ⟨its,rv,⟨o,e,c,n,d⟩,_⟩:=I.tuple h;obtain ⟨as,ra⟩:=ih rv;exact ⟨_,.tuple e c d (by simpa using ra)⟩
theorem p7 (I:bj X pins σ H s)  (h:C4 X.K H v d):∀ {u:a8},cD v u->∃ as,Reads s.heap u d as :=
 C4.rec (motive_1:=fun v d _=>∀ {u:a8},cD v u->∃ as,Reads s.heap u d as) (motive_2:=fun vs ds _=>∀ {us:List a8},cF vs us->∃ as,ReadsAll s.heap us ds as)
  (fun r=>by cases r;exact ⟨_,.none⟩) (fun b _ r=>by cases r;exact ⟨_,.bool b⟩) (fun i _ r=>by obtain ⟨t,rfl⟩:=r;exact ⟨_,.int i t⟩) (fun x _ r=>by obtain ⟨t,rfl⟩:=r;exact ⟨_,.str x t⟩)
  (fun h _ ih _ r=>L5 I h ih r) (fun h _ ih _ r=>Hq I h ih r) (fun r=>by cases r;exact ⟨_,.nil⟩) (fun _ _ a b _ r=>by
   cases r with
   |cons r rs =>
    obtain ⟨as,ra⟩:=a r;obtain ⟨bs,rb⟩:=b rs;exact ⟨_,.cons ra rb⟩) h
end
section
inductive MC (K:a6) (neg:Bool) (x:V) (y:V) (H:Hp) (Q:VK):Prop
 |mk (dx dy:_) (h0:C4 K H x dx) (h1:C4 K H y dy) (h2:dx.canLay0=true) (h3:dy.canLay0=true) (h4:min dx.depth dy.depth<=60) (h5:Q (.bl (if neg then !bf dx dy else bf dx dy)) H):MC K neg x y H Q
def Oj (K:a6) (neg:Bool):R2:=MC K neg
theorem Ol (hu:X.A.units+64<pQ):oZ X (bG .Eq) (Oj X.K false):=by
 intro pins s σ H x y v u Q I rx ry h;obtain ⟨dx,dy,hx,hy,lx,ly,dp,q⟩:=h;obtain ⟨as,ra⟩:=p7 I hx rx;obtain ⟨bs,rb⟩:=p7 I hy ry;exact PySem.SeqAt.compareEq_reads ra rb lx ly (by omega) ⟨.bl _,H,I,rfl,q⟩
theorem Om (hu:X.A.units+64<pQ):oZ X (bG .NotEq) (Oj X.K true):=by
 intro pins s σ H x y v u Q I rx ry h;obtain ⟨dx,dy,hx,hy,lx,ly,dp,q⟩:=h;obtain ⟨as,ra⟩:=p7 I hx rx;obtain ⟨bs,rb⟩:=p7 I hy ry;exact PySem.SeqAt.compareNe_reads ra rb lx ly (by omega) ⟨.bl _,H,I,rfl,q⟩
end
end
section
structure MD (P:aH) (w:aY) (l:List Env) (H H':Hp) (h h' B:ba) (ea C t:ac):Prop where
 fly:Heap.FlyingW B l ea (.ref C) (.ref t) h'
 cov:∀ b u,H' b=some u->∃ o,B.get? b=some o
 old:∀ b o,h.get? b=some o->H b=none->b∉qc l->B.get? b=some o
 all:∀ b o,h.get? b=some o->b∉qc l->∃ o',B.get? b=some o'
 un:Un (qc l) [] H H' h h'
 hok:nW P w H' h'
inductive PR (P:aH) (w:aY) (outer:List Env) (H:Hp) (s:aa) (E:XK) (e:a8) (s':aa):Prop
 |mk (ea C t H' B:_) (h0:e=.ref ea) (h1:s'.os=s.os) (h2:nM s'.gens) (h3:MD P w outer H H' s.heap s'.heap B ea C t) (h4:E (.ref C) none H'):PR P w outer H s E e s'
def l_ (P:aH) (w:aY):Dc:=PR P w
theorem Hr      (x:nW P w H h) (e:H b=some u):∃ o,h.get? b=some o:=by
 have y:=x b u e;cases u with
 |lst xs=>obtain ⟨_,_,_,_,k⟩:=y;exact ⟨_,k⟩
 |tup xs=>obtain ⟨_,_,_,o,k,_⟩:=y;exact ⟨o,k⟩
 |dK kvs=>obtain ⟨_,_,_,_,o,_,_,k,_⟩:=y;exact ⟨o,k⟩
 |dT kvs=>obtain ⟨_,_,_,_,o,_,_,k,_⟩:=y;exact ⟨o,k⟩
 |set S n=>obtain ⟨o,_,_,_,k,_⟩:=y;exact ⟨o,k⟩
 |ins C dx fs=>obtain ⟨_,_,_,k,_⟩:=y;exact ⟨_,k⟩
 |own y'=>exact y
 |xd fs=>obtain ⟨_,⟨o,_,_,k,_⟩,_⟩:=y;exact ⟨o,k⟩
 |rng lo hi=>obtain ⟨_,_,_,k⟩:=y;exact ⟨_,k⟩
 |frz o u=>exact ⟨o,y.1⟩
 |tbl ps=>exact ⟨_,y⟩
 |met f y'=>exact ⟨_,y⟩
 |ext φ=>exact y.2.1
theorem Dq   (he:env∈l) (hf:env.frame=some b):b∈qc l:=List.mem_filterMap.mpr ⟨env,he,hf⟩
section
theorem MD.kp (x:MD P w l H H' h h' B ea C t) (st:B.StaysIn h'') (b:ac) (u:HO) (o:Obj) (e:H' b=some u) (q:h'.get? b=some o):h''.get? b=some o:=by
 obtain ⟨o',e1⟩:=x.cov b u e;have:=x.fly.1 b o' e1;rw [q] at this;cases this;exact st b o e1
theorem MD.on (x:MD P w l H H' h h' B ea C t) (fl:Heap.FlyingW B l ea (.ref C) (.ref t) h'') (up:h'.UpToSlots h''):MD P w l H H' h h'' B ea C t:=by
 have st:=fl.1;refine ⟨fl,x.cov,x.old,x.all,⟨fun b o q n hb hx=>st b o (x.old b o q n hb),fun b o q n hb hx=>?_,x.un.free,fun b o q hx=>?_,x.un.tups,x.un.frzs,x.un.tbls⟩,fun b u e=>?_⟩
 ·obtain ⟨sl,e1⟩:=x.un.slot b o q n hb hx;obtain ⟨_,o',k1,k2⟩:=dY x.fly.2.2.1 hb;rw [e1] at k1;cases k1;obtain ⟨sl',e2⟩:=up b _ e1 k2;exact ⟨sl',e2⟩
 ·by_cases hb:b∈qc l
  ·obtain ⟨_,o',k1,_⟩:=dY fl.2.2.1 hb;exact ⟨o',k1⟩
  ·obtain ⟨o',k⟩:=x.all b o q hb;exact ⟨o',st b o' k⟩
 ·exact (x.hok b u e).stay (fun c o hc q=>by
   rcases hc with z|z
   ·rw [z] at q ⊢;exact x.kp st b u o e q
   ·exact x.kp st c _ o z q) (fun _ q=>q) fun _ _ q=>q
end
section
variable {P:aH}{w:aY}{K:a6}{mg:Str->Option a8}{base:ba}{N:List Str}{qual:Str}{scope:dW}{f:ac}{cd:a8}{A:aZ}{outer:List Env}{s:aa}{H:Hp}{E:XK}
theorem yF       (I:bj (iW (l_ P w) P w K mg base N qual scope f cd A outer s H E) pins σ H1 s1)
  (hx:Heap.MadeExcOf s1.heap h' ea (.ref C) vs) (q:E (.ref C) none H1):(iW (l_ P w) P w K mg base N qual scope f cd A outer s H E).xe (.ref ea) { s1 with heap:=h' }:=by
 let X:=iW (l_ P w) P w K mg base N qual scope f cd A outer s H E
 let B:=FU s1.heap (qc X.stack)
 have hin:∀ env∈X.stack,∀ a,env.frame=some a->a∈qc X.stack:=fun env he a hf=>Dq he hf;have stB:B.StaysIn s1.heap:=fun b o e=>Bk _ e;have nS:∀ b,b∉qc X.stack->∀ o,s1.heap.get? b=some o->B.get? b=some o:=fun b n o e=>Ba _ e n;show ak _ X.A (leaving X.env (.ref ea)) _ _ _;refine wpAny_leaves_madeW (s:={ s1 with heap:=h' }) (base:=B) (outer:=outer) (L:=X.env.locals) I.ok.frames rfl stB (PySem.W.funFrames_hide I.stack hin) hx fun h2 t fl tup tn up=>?_;have st2:=fl.1;have bl:∀ b o,s.heap.get? b=some o->b∉qc outer->b∉qc X.stack:=fun b o e n z=>by
  rcases List.mem_cons.mp (I.stkSub b z) with y|y
  ·exact absurd (ah e) (by rw [y];exact Nat.not_lt.mpr I.ok.above)
  ·exact n y
 have noex:∀ b:ac,b∉X.ex:=fun b z=>absurd (show b∈([] : List ac) from z) (by simp);have cov:∀ b u,H1 b=some u->∃ o,B.get? b=some o:=fun b u e=>by
  have hb:b∉qc X.stack:=fun z=>by have:=I.stkFree b z;rw [e] at this;cases this
  obtain ⟨o,k⟩:=Hr I.hok e;exact ⟨o,nS b hb o k⟩
 refine ⟨ea,C,t,H1,B,rfl,I.os,I.bare,⟨fl,cov,fun b o e n hb=>?_,fun b o e hb=>?_,⟨fun b o e n hb hx'=>?_,fun b o e n hb hx'=>?_,fun b o e n _=>I.base.free b o e n (noex b),fun b o e _=>?_,I.base.tups,I.base.frzs,I.base.tbls⟩,fun b u e=>?_⟩,q⟩
 ·exact nS b (bl b o e hb) o (I.base.keep b o e n hb (noex b))
 ·obtain ⟨o',k⟩:=I.base.there b o e (noex b);exact ⟨o',nS b (bl b o e hb) o' k⟩
 ·exact st2 b o (nS b (bl b o e hb) o (I.base.keep b o e n hb (noex b)))
 ·obtain ⟨sl,k⟩:=I.base.slot b o e n hb (noex b);obtain ⟨_,o',k1,k2⟩:=dY I.funs hb;rw [k] at k1;cases k1;obtain ⟨sl',k3⟩:=up b _ (hx.keeps _ _ k) k2;exact ⟨sl',k3⟩
 ·obtain ⟨o',k⟩:=I.base.there b o e (noex b);by_cases hb:b∈qc outer
  ·obtain ⟨_,o2,k1,_⟩:=dY fl.2.2.1 hb;exact ⟨o2,k1⟩
  ·exact ⟨o',st2 b o' (nS b (bl b o e hb) o' k)⟩
 ·refine (I.hok b u e).stay (fun c o hc k=>?_) (fun _ q=>q) fun _ _ q=>q;have hcs:c∉qc X.stack:=fun z=>by
   have:=I.stkFree c z;rcases hc with y|y
   ·rw [y,e] at this;cases this
   ·rw [y] at this;cases this
  exact st2 c o (nS c hcs o k)
theorem Ag (hE:∀ c H',E' c none H'->E c none H'):lG (l_ P w) (iW (l_ P w) P w K mg base N qual scope f cd A outer s H E) E':=by
 intro pins σ H1 s1 e s' I h;obtain ⟨ea,C,t,H',B,rfl,os,bare,x,q⟩:=h;let X:=iW (l_ P w) P w K mg base N qual scope f cd A outer s H E
 have noex:∀ b:ac,b∉X.ex:=fun b z=>absurd (show b∈([] : List ac) from z) (by simp);have bl:∀ b o,s.heap.get? b=some o->b∉qc outer->b∉qc X.stack:=fun b o e n z=>by
  rcases List.mem_cons.mp (I.stkSub b z) with y|y
  ·exact absurd (ah e) (by rw [y];exact Nat.not_lt.mpr I.ok.above)
  ·exact n y
 have sub:∀ b∈qc outer,b∈qc X.stack:=fun b hb=>by
  obtain ⟨env,he,hf⟩:=List.mem_filterMap.mp hb;exact Dq (ao _ he) hf
 show ak _ X.A (leaving X.env (.ref ea)) _ _ _;refine wpAny_leaves_onW (base:=B) (outer:=outer) (L:=X.env.locals) I.ok.frames rfl x.fly fun h2 fl up=>?_;have st2:=fl.1;refine ⟨ea,C,t,H',B,rfl,os.trans I.os,bare,⟨fl,x.cov,fun b o e n hb=>?_,fun b o e hb=>?_,⟨fun b o e n hb hx'=>?_,fun b o e n hb hx'=>?_,fun b o e n _=>?_,fun b o e _=>?_,fun b xs e=>x.un.tups b xs (I.base.tups b xs e),fun b o xs e=>x.un.frzs b o xs (I.base.frzs b o xs e),fun b ps e=>?_⟩,fun b u e=>?_⟩,hE _ _ q⟩
 ·exact x.old b o (I.base.keep b o e n hb (noex b)) (I.base.free b o e n (noex b)) (bl b o e hb)
 ·obtain ⟨o',k⟩:=I.base.there b o e (noex b);exact x.all b o' k (bl b o e hb)
 ·exact st2 b o (x.old b o (I.base.keep b o e n hb (noex b)) (I.base.free b o e n (noex b)) (bl b o e hb))
 ·obtain ⟨sl,k⟩:=I.base.slot b o e n hb (noex b);obtain ⟨sl1,k1⟩:=x.un.slot b _ k (I.base.free b o e n (noex b)) (sub b hb) (by simp);obtain ⟨_,o',k2,k3⟩:=dY x.fly.2.2.1 (sub b hb);rw [k1] at k2;cases k2;obtain ⟨sl2,k4⟩:=up b _ k1 k3;exact ⟨sl2,k4⟩
 ·obtain ⟨o',k⟩:=I.base.there b o e (noex b);exact x.un.free b o' k (I.base.free b o e n (noex b)) (by simp)
 ·obtain ⟨o',k⟩:=I.base.there b o e (noex b);by_cases hb:b∈qc outer
  ·obtain ⟨_,o2,k1,_⟩:=dY fl.2.2.1 hb;exact ⟨o2,k1⟩
  ·obtain ⟨o2,k2⟩:=x.all b o' k (bl b o e hb);exact ⟨o2,st2 b o2 k2⟩
 ·obtain ⟨m1,e1⟩:=I.base.tbls b ps e;obtain ⟨m2,e2⟩:=x.un.tbls b _ e1;exact ⟨m1++m2,by rw [e2,Ed]⟩
 ·exact (x.hok b u e).stay (fun c o hc k=>by
   rcases hc with z|z
   ·rw [z] at k ⊢;exact x.kp st2 b u o e k
   ·exact x.kp st2 c _ o z k) (fun _ q=>q) fun _ _ q=>q
end
end
section
section
variable {P:aH}{w:aY}{K:a6}{mg:Str->Option a8}{base:ba}{N:List Str}{qual:Str}{scope:dW}{f:ac}{cd:a8}{A:aZ}{outer:List Env}{s:aa}{H:Hp}{E:XK}
theorem Ht {x:Str}{np cpos pos:Pos}{e0:aP}{bE:List aP}{C:ac}{bmB:List a8}{newId initId Bn:String}{ta:TA} (O:OwnCls x C bmB newId mg base) (FB:ExcBaseFacts Bn newId initId bmB)
  (hg:Gl (iW (l_ P w) P w K mg base N qual scope f cd A outer s H E) x) (ha:PA (iW (l_ P w) P w K mg base N qual scope f cd A outer s H E) (e0::bE) ta)
  (he:aq (e0::bE) (iW (l_ P w) P w K mg base N qual scope f cd A outer s H E).env=(false,bU e0 (iW (l_ P w) P w K mg base N qual scope f cd A outer s H E).env)::aq bE (iW (l_ P w) P w K mg base N qual scope f cd A outer s H E).env:=by rfl)
  (hdb:(x==("__debug__" : Str))=false:=by decide) (hpl:(fK cpos (aq bE (iW (l_ P w) P w K mg base N qual scope f cd A outer s H E).env)).any (·.1)=false:=by rfl) :
  PS (iW (l_ P w) P w K mg base N qual scope f cd A outer s H E) (.Raise (some (.Call (.Name x np) (e0::bE) [] cpos)) none pos) (fun D σ H1=>ta σ H1 fun vs H2=>vs.length<=sizeLine/\E (.ref C) none H2):=by
 intro pins s1 σ H1 D I h;obtain ⟨tl,Nn,nm,q,bs,hdct,sn,sub,ab,col,dd,k0,k1,k2,k3,k5,mN,hC,hN,hni,T⟩:=O.obj;refine wpAny_Raise_call_subT (C:=C) (nm:=nm) (q:=q) (N:=Nn) (bs:=bs) (bm:=tl) (hdct:=hdct) (sn:=sn) (sub:=sub) (ab:=ab) (col:=col) (dd:=dd) (k0:=k0) (k1:=k1) (k2:=k2) (k3:=k3) (k5:=k5)
  FB (mN:=mN) (T.hasType FB.hasBase) (I.ok.hd rfl) ?_ hni (uB I hg O.bound ⟨rfl,?_⟩ hdb)
 ·rw [he];show (false||_)=false;rw [qY];exact hpl
 ·have hx:=ha cpos pins s1 σ H1 _ I h;rw [he] at hx ⊢;refine Bw (eK hx fun us s2 ⟨vs,H2,I2,r2,z,qE⟩=>?_);have kb:∀ b o,base.get? b=some o->s2.heap.get? b=some o:=I2.bk;exact ⟨rfl,by show us.length<=sizeLine;rw [<- r2.length];exact z,kb _ _ hC,hN.keeps kb,T.keeps kb,fun h' ea hm=>yF I2 hm qE⟩
end
structure yG (base:ba) (C:ac) (bm:List a8):Prop where
 obj:∃ nm q N bs hdct sn sub ab col dd k0 k1 k2 k3 k5 newId,base.get? C=some (excClassObj nm q C N bs bm hdct sn sub ab col dd k0 k1 k2 k3 k5 newId)
 exc:bm.contains (.type "BaseException")=true
theorem vj         (kb:∀ b o,base.get? b=some o->s.heap.get? b=some o) (x:yG base C bm) (y:yG base Cp bp)
  (hm:bm.contains (.ref Cp)=true) (he:s.heap.get? ea=some oe) (hcls:oe.cls=.ref C) (h:Q true s):ak M A (excMatches (.ref ea) (.ref Cp)) Q E s:=by
 obtain ⟨⟨nm,q,Nn,bs,hdct,sn,sub,ab,col,dd,k0,k1,k2,k3,k5,newId,o1⟩,x2⟩:=x;obtain ⟨⟨nm',q',Nn',bs',hdct',sn',sub',ab',col',dd',k0',k1',k2',k3',k5',newId',o2⟩,y2⟩:=y;have hC:=kb _ _ o1;have hP:=kb _ _ o2;have c1:(bL C::bm).contains (.ref Cp)=true:=by rw [kY,hm,Bool.or_true]
 have c2:(bL Cp::bp).contains (.type "BaseException")=true:=by rw [kY,y2,Bool.or_true]
 have f:=tc_notTuple;obtain ⟨hp,g,d,tk,os⟩:=s;unfold excMatches;repeat (first
  |(with_reducible refine wpAny_loadPart_at he ?_;rw [hcls])
  |with_reducible refine wpAny_loadPart_at hP ?_
  |(with_reducible refine wpAny_isSubtype_exc hC ?_;rw [c1])
  |(with_reducible refine wpAny_isSubtype_exc hP ?_;rw [c2])
  |wp_step)
 exact h
def vk (ea C:ac):HO:=.ext fun h=>∃ o,h.get? ea=some o/\o.cls=.ref C
theorem L6      (e:h.get? ea=some o) (c:o.cls=.ref C):cH P w H h ea (vk ea C) :=
 ⟨⟨o,e,c⟩,⟨o,e⟩,fun h1 h2 ⟨o,e,c⟩ k=>⟨o,k o e,c⟩⟩
def P6 (X:Cx) (ea:ac):Cx:={ X with A:=X.A.mark (some (.ref ea)),calm:=false,xe:=fun _ _=>False }
theorem bj.inH     (I:bj X pins σ H s) (ea:ac):bj (P6 X ea) pins σ H s :=
 ⟨⟨I.ok.mod,I.ok.kind,I.ok.glob,I.ok.blt,I.ok.above,I.ok.inj,I.ok.has,I.ok.cab,(fun z=>jz z),I.ok.frames,I.ok.stk,I.ok.exf,I.ok.bs,I.ok.bsz,I.ok.noex,I.ok.exfs,I.ok.funs,I.ok.frf⟩,I.os,I.bare,I.base,I.loc,I.cell,I.free,I.freeC,I.pin,I.hok,I.len⟩
theorem bj.outH      (ok:X.Ok) (I:bj (P6 X ea) pins σ H s):bj X pins σ H s :=
 ⟨ok,I.os,I.bare,I.base,I.loc,I.cell,I.free,I.freeC,I.pin,I.hok,I.len⟩
def vm (X:Cx):St:=kW X.N.length none
theorem bj.forget        (I:bj X pins σ H s) (hn:h'.Ns X.env.locals m') (sb:c9 X.env.locals s.heap h'):bj X pins (vm X) H { s with heap:=h',toks:=t' }:=by
 have ne0:∀ b o,X.s₀.heap.get? b=some o->b≠X.env.locals:=fun b o e=>aE (ay (ah e) I.ok.above);refine ⟨I.ok,I.os,I.bare,⟨fun b o e n hb hx=>(sb.2 b (ne0 b o e)).trans (I.base.keep b o e n hb hx),fun b o e n hb hx=>?_,I.base.free,fun b o e hx=>?_,I.base.tups,I.base.frzs,I.base.tbls⟩,⟨m',hn,fun i x v h1 h2 h3=>?_⟩,fun x c e=>?_,I.free,I.freeC,fun p hp=>?_,A6 I.hok I.free sb,by simp [vm]⟩
 ·obtain ⟨sl,k⟩:=I.base.slot b o e n hb hx;exact ⟨sl,(sb.2 b (ne0 b o e)).trans k⟩
 ·obtain ⟨o',k⟩:=I.base.there b o e hx;exact ⟨o',(sb.2 b (ne0 b o e)).trans k⟩
 ·have h2:(vm X)[i]?=some (some v):=h2;unfold vm at h2;rw [bD] at h2;split at h2<;>cases h2
 ·obtain ⟨v,z⟩:=I.cell x c e;exact ⟨v,z.sameBut sb (I.cne x c e)⟩
 ·obtain ⟨e,n,ne,nf,d⟩:=I.pin p hp;exact ⟨(sb.2 p.1 ne).trans e,n,ne,nf,d⟩
def ME (X:Cx) (Cp:ac) (i:Nat) (ts:TS) (D:wI):XK:=fun c _ H'=>∃ C bm,c=.ref C/\yG X.base C bm/\bm.contains (.ref Cp)=true /\
 ∀ ea,H' ea=none->ts { nx:=fun _ H=>D.nx (vm X) H,rt:=D.rt } ((vm X).set i (some (.ref ea))) (upd H' ea (vk ea C))
def Sa (X:Cx) (Cp:ac) (i:Nat) (tb:XK->TS) (ts:TS):TS:=fun D σ H=>tb (ME X Cp i ts D) D σ H
theorem Hu           (I:bj X pins σ H s) (hg:Gl X x) (hm:X.mg x=some u) (h:Q u s)
  (hd:(x==("__debug__" : Str))=false:=by decide):ak (az X.prog X.w) A (bU (.Name x pos) X.env) Q E s :=
 kQ I.ok.kind hg (zH (by rw [I.ok.glob];exact I.mod.glob.keeps I.bk) hm h) hd
def On (X:Cx) (xe:a8->aa->Prop) (pn:List (ac×Obj)):Cx:={ X with xe:=xe,pn:=pn }
theorem bj.inT     (I:bj X pins σ H s) (xe:a8->aa->Prop):bj (On X xe (X.pn++pins)) [] σ H s :=
 ⟨⟨I.ok.mod,I.ok.kind,I.ok.glob,I.ok.blt,I.ok.above,I.ok.inj,I.ok.has,I.ok.cab,I.ok.hd,I.ok.frames,I.ok.stk,I.ok.exf,I.ok.bs,I.ok.bsz,I.ok.noex,I.ok.exfs,I.ok.funs,I.ok.frf⟩,I.os,I.bare,I.base,I.loc,I.cell,I.free,I.freeC,
  fun p hp=>I.pin p ((List.mem_append.mp hp).elim id fun z=>absurd z (by simp)),I.hok,I.len⟩
theorem bj.outT      (ok:X.Ok) (I:bj (On X xe (X.pn++pins)) pins' σ H s):bj X pins σ H s :=
 ⟨ok,I.os,I.bare,I.base,I.loc,I.cell,I.free,I.freeC,fun p hp=>I.pin p (p_ _ hp),I.hok,I.len⟩
theorem bj.track0       (I:bj X pins σ H s) (h0:X.s₀.heap.get? D=none) (f0:H D=none) (f1:D≠X.env.locals) (f4:∀ x c,X.env.cells.lookup x=some c->c≠D) (f5:∀ p∈X.pn++pins,p.1≠D)
  (new:cH X.prog X.w (upd H D ho) s.heap D ho):bj X pins σ (upd H D ho) s :=
 ⟨I.ok,I.os,I.bare,⟨I.base.keep,I.base.slot,fun b o e n hx=>by rw [aL (fun z=>by rw [z,h0] at e;cases e)];exact I.base.free b o e n hx,I.base.there,fun b xs e=>by have q:=I.base.tups b xs e;rw [aL (aS q f0)];exact q,
  fun b o xs e=>by have q:=I.base.frzs b o xs e;rw [aL (aS q f0)];exact q,fun b ps e=>by obtain ⟨m,q⟩:=I.base.tbls b ps e;exact ⟨m,by rw [aL (aS q f0)];exact q⟩⟩,I.loc,I.cell,
  by rw [aL (e6 f1)];exact I.free,fun x c e=>by rw [aL (f4 x c e)];exact I.freeC x c e,fun p hp=>by
  obtain ⟨e,n,r⟩:=I.pin p hp;exact ⟨e,by rw [aL (f5 p hp)];exact n,r⟩,sV I.hok f0 new,I.len⟩
theorem Oo          (hg:Gl X x) (hm:X.mg x=some (.ref Cp)) (y:yG X.base Cp bp)
  (hN:X.N.Nodup) (hi:X.N[i]?=some n) (hn:X.env.scope.names.lookup n=some .local) (hst:∃ l,X.stack=X.env::l/\X.env.frame=some X.env.locals) (hex:X.ex=[])
  (hb:∀ (E:XK) (xe:a8->aa->Prop) (pn:List (ac×Obj)),lG (l_ X.prog X.w) (On X xe pn) E->zN (On X xe pn) body (tb E)) (hs:∀ ea,zN (P6 X ea) (b0::suite) ts) (hdb:(x==("__debug__" : Str))=false:=by decide) :
  PS X (.Try body [.ExceptHandler (some (.Name x np)) (some n) (b0::suite) hpos] [] [] pos) (Sa X Cp i tb ts):=by
 intro pins s σ H D I h;obtain ⟨l,hl,hfr⟩:=hst;have ok:=I.ok;refine wpAny_Try_except ?_;let xe:a8->aa->Prop:=fun e s₁=>ak (az X.prog X.w) X.A (F_ e X.env) (fun _ s₂=>ak (az X.prog X.w) X.A (setFlight e none) (fun _ s₃ =>
  ak (az X.prog X.w) X.A (handleBy e X.env [.ExceptHandler (some (.Name x np)) (some n) (b0::suite) hpos]) (SP X pins D) X.xe s₃) X.xe s₂) X.xe s₁
 have hp:lG (l_ X.prog X.w) (On X xe (X.pn++pins)) (ME X Cp i ts D):=by
  intro pins' σ' H1 s1 e s' I' hx;have I1:bj X pins σ' H1 s1:=I'.outT ok;obtain ⟨ea,C,t,H',B,rfl,os,bare,air,C',bm,hCe,ox,hcp,hts⟩:=hx;cases hCe;have air:MD X.prog X.w X.stack H1 H' s1.heap s'.heap B ea C t:=air;have land:∀ h2,MD X.prog X.w X.stack H1 H' s1.heap h2 B ea C t->bj X pins σ' H' { s' with heap:=h2 }:=fun h2 a =>
   I1.call' (s':={ s' with heap:=h2 }) (ch:=[]) os a.un a.hok bare (fun b z=>absurd z (by simp))
  have fly:=air.fly;rw [hl] at fly;show ak _ X.A (F_ (.ref ea) X.env) _ _ s';refine wpAny_looks_onW (base:=B) (outer:=l) (L:=X.env.locals) (by rw [ok.frames,hl]) hfr fly fun h2 hd2 up2=>?_;refine wpAny_landsW hd2 fun h3 fl3 up3=>?_;have up3':=up2.trans up3;have a3:=air.on (by rw [hl];exact fl3) up3';have I3:=land h3 a3;obtain ⟨oe,he,hcl⟩:=fl3.there;refine wpAny_handleBy_cons (codeAny_handlers_test (Hu I3 hg hm ?_ hdb)) (by intro q;cases q);refine vj (base:=X.base) (s:={ s' with heap:=h3 }) I3.bk ox y hcp he hcl (codeAny_handlers_suite_as ?_);refine lands_againW (s:={ s' with heap:=h3 }) fl3 fun h4 fl4 up4=>?_;have a4:=air.on (by rw [hl];exact fl4) (up3'.trans up4);have I4:=land h4 a4;obtain ⟨oe4,ws,he4,hcl4,hd4,_⟩:=fl4.first;have nB:B.get? ea=none:=fl4.2.1;have nfr:ea∉qc X.stack:=fun z=>by
   obtain ⟨_,o',k1,k2⟩:=dY fl4.2.2.1 (by rw [<- hl];exact z);rw [he4] at k1;cases k1;exact k2 _ hd4
  have n1:s1.heap.get? ea=none:=by
   cases q:s1.heap.get? ea with
   |none=>rfl
   |some o =>
    obtain ⟨o',k⟩:=air.all ea o q nfr;rw [nB] at k;cases k
  have nH:H' ea=none:=by
   cases q:H' ea with
   |none=>rfl
   |some u =>
    obtain ⟨o',k⟩:=air.cov ea u q;rw [nB] at k;cases k
  have nloc:ea≠X.env.locals:=fun z=>by
   obtain ⟨m,⟨o,_,_,k,_⟩,_⟩:=I1.loc;rw [<- z,n1] at k;cases k
  have ncell:∀ x c,X.env.cells.lookup x=some c->c≠ea:=fun x c e z=>by
   obtain ⟨v,o,k,_⟩:=I1.cell x c e;rw [z,n1] at k;cases k
  have npin:∀ p∈X.pn++pins,p.1≠ea:=fun p hp z=>by
   have k:=(I1.pin p hp).1;rw [z,n1] at k;cases k
  have n0:X.s₀.heap.get? ea=none:=by
   cases q:X.s₀.heap.get? ea with
   |none=>rfl
   |some o =>
    by_cases hx:ea∈X.ex
    ·rw [hex] at hx;cases hx
    ·obtain ⟨o',k⟩:=I1.base.there ea o q hx;rw [n1] at k;cases k
  have I5:=(I4.weak (σ':=vm X) (by rw [I4.len];simp [vm]) (fun j v z=>by
   unfold vm at z;rw [bD] at z;split at z<;>cases z)).track0 (ho:=vk ea C) n0 nH nloc ncell npin (L6 he4 hcl4)
  refine v4 I5 hN hi (.inl hn) (v:=.ref ea) rfl (fun s6 I6=>?_) (.inr hn);refine c6 (hs ea pins s6 _ _ _ (I6.inH ea) (hts ea nH)) (fun f s7 q7=>?_) fun _ _ z=>z.elim;have fin:∀ {σ7:St}{H7:Hp}{Q':St->Hp->Prop},bj (P6 X ea) pins σ7 H7 s7->(∀ s8,bj X pins (vm X) H7 s8->SP X pins D f s8)->ak (az X.prog X.w) X.A (do bindName X.env n .none;unbindBehindTheSuite X.env n hpos) (fun _ s8=>SP X pins D f s8) X.xe s7:=fun {σ7 H7 Q'} J k=>by
   have J:=J.outH ok;obtain ⟨m,hm7,_⟩:=J.loc;exact wpAny_nameGoes hn hm7 (by rw [ok.kind];rfl) fun h8 m8 hn8 sb8=>k _ (J.forget hn8 sb8)
  cases f with
  |next=>obtain ⟨σ7,H7,J,q⟩:=q7;exact fin (Q':=fun _ _=>True) J fun s8 I8=>⟨_,_,I8,q⟩
  |brk=>obtain ⟨σ7,H7,J,q⟩:=q7;exact q.elim
  |cont=>obtain ⟨σ7,H7,J,q⟩:=q7;exact q.elim
  |ret v=>obtain ⟨z,σ7,H7,J,r,q⟩:=q7;exact fin (Q':=fun _ _=>True) J fun s8 I8=>⟨z,_,_,I8,r,q⟩
 refine c6 (hb _ xe (X.pn++pins) hp [] s σ H D (I.inT xe) h) (fun f s1 q=>?_) fun e s1 q=>q;have q:SP X pins D f s1:=by
  cases f with
  |next=>obtain ⟨σ',H',J,q⟩:=q;exact ⟨σ',H',J.outT ok,q⟩
  |brk=>obtain ⟨σ',H',J,q⟩:=q;exact ⟨σ',H',J.outT ok,q⟩
  |cont=>obtain ⟨σ',H',J,q⟩:=q;exact ⟨σ',H',J.outT ok,q⟩
  |ret v=>obtain ⟨z,σ',H',J,r,q⟩:=q;exact ⟨z,σ',H',J.outT ok,r,q⟩
 cases f with
 |next=>exact qQ q
 |brk=>exact q
 |cont=>exact q
 |ret v=>exact q
end
section
structure Hv (K:a6) (C:ac):Prop where
 ga:eY K (.ref C) "__getattribute__"=some (some (.builtin "BaseException.__getattribute__"))
 gn:eY K (.ref C) "__getattr__"=some none
 ca:eY K (.ref C) "__class__"=some (some (.builtin "object.__class__"))
 gg:qT K (.builtin "object.__class__") "__get__"=some (some (.builtin "getset_descriptor.__get__"))
 tk:uj K (.builtin "object.__class__")=some true
 mo:bS K C (.type "object")=some true
 be:bS K C (.type "BaseException")=some true
 cl:(eS K C).isSome=true
def xI (x C:ac) (h:ba):Prop:=∃ o,h.get? x=some o/\o.cls=.ref C
theorem xI.type   (p:xI x C h):JZ M h (typeOf (.ref x)) (.ref C):=by
 obtain ⟨o,e,c⟩:=p;exact c ▸ (PySem.W.Looks.ld e).andThen .now
section
variable {prog:aH}{w:aY}{A:aZ}{E:a8->aa->Prop}{s:aa}{K:a6}{x C:ac}{R:Bp->aa->Prop}
open PySem.W Builtin Builtin.ObjectAttr Builtin.Getset_descriptor in
theorem L7 (Z:Hv K C) (X:K.In s.heap) (p:xI x C s.heap) (q:R (.ok (.ret (.ref C))) s):gx (az prog w) A (.call (.builtin "getset_descriptor.__get__") ⟨[.builtin "object.__class__",.ref x,tp],[]⟩) R s:=by
 obtain ⟨hp,gs,dr,tt,os⟩:=s;have T0:=p.type (M:=az prog w);have T1:=looks_mroIn (M:=az prog w) X Z.mo;refine sI KF.slot_gs.plain KF.entry_gs ?_;refine KF.slot_gs.check _ _ _ _ _ _ _ _ KF.type_class (KF.args_gs _ _ _) ?_;unfold gC.«getset_descriptor.__get__» descrGet;rw [dga_obj];refine a5 (a9 ?_);unfold descrGetter descrCheckInstance descrNameAndClass BB;simp only [KF.owner_class];repeat lk
 refine ⟨G1 _ (by decide +kernel),gQ KF.entry_class ?_⟩;unfold gC.«object.__class__» shownTypeOf;repeat lk
 exact q
theorem EX (Z:Hv K C) (X:K.In s.heap) (p:xI x C s.heap) (h:Q (some (.ref C)) { s with toks:=s.toks+1 }):ak (az prog w) A (getAttr? (.ref x) "__class__") Q E s:=by
 obtain ⟨hh,g,d,t,os⟩:=s;have L0:=p.type (M:=az prog w);have L1:=o7 (M:=az prog w) X Z.ga;have L2:=o7 (M:=az prog w) X Z.gn;have F1:=o7 (M:=az prog w) X Z.ca;have F2:=PySem.W.looks_specialIn (M:=az prog w) X Z.gg;have F3:=PySem.W.looks_takesIn (M:=az prog w) X Z.tk;have L4:=PySem.W.looks_mroIn (M:=az prog w) X Z.be;unfold getAttr? getAttrBy? getAttrBy;refine a5 (wpAny_mkText (a5 (gU (cG (a5 (L0.at (a5 (L1.at ?_))))))));show ak _ _ (getAttrByItsOwn (.ref x) (.str "__class__" t) (.ref C) (.builtin "BaseException.__getattribute__") false false) _ _ _;unfold getAttrByItsOwn;show ak _ _ (Bv (.ref C) "__getattr__" >>= _) _ _ _;refine a5 (L2.at (a5 (gU (cG ?_))));show ak _ _ (boundAndCalled (.builtin "BaseException.__getattribute__") (.ref x) (.str "__class__" t)) _ _ _;unfold boundAndCalled;refine a5 (sH (F.excAttr_ValueError.ga.bind (.ref x)) ?_);show ak _ _ (call (.builtin "BaseException.__getattribute__") [.ref x,.str "__class__" t]) _ _ _;refine uS (sI F.excAttr_ValueError.ga.plain F.entry_bexc_ga ?_);have hk:builtinKind "BaseException.__getattribute__"=some .slot:=by decide +kernel
 have hsp:splitId "BaseException.__getattribute__"=some ("BaseException","__getattribute__"):=by decide +kernel
 have hao:=F.args_bexc_ga (.ref x) (.str "__class__" t);simp only [checkBuiltinCall,hk,hsp];have LI:JZ (az prog w) hh (BB (.ref x) (.type "BaseException")) true:=L0.andThen L4;refine a5 (LI.at ?_);rw [if_neg (by decide)];refine sH (a:=()) (by unfold argsOk at hao;exact hao) ?_;unfold gC.«object.__getattribute__»;refine a5 (m:=slotArgs "__getattribute__" 1 _) (a9 ?_);refine a5 (m:=J_ _) (a9 ?_);refine a5 (L0.at (a5 ?_));unfold K0;refine a5 (F1.at (a5 (F2.at (a5 ?_))));refine a5 (F3.at ?_);refine a9 (a5 (ft (a9 ?_)));show ak _ _ (Gf [.builtin "object.__class__"] (call (.builtin "getset_descriptor.__get__") [.builtin "object.__class__",.ref x,.ref C]) >>= fun v=>ret v) _ _ _;refine a5 (cG (uS (L7 (s:=⟨hh,g,d,t+1,os⟩) Z X p ?_)));exact a9 (PySem.W.handed_on rfl (a9 h))
theorem Hw (Z:Hv K C):PySem.W.KitX K (.ref x) (.ref C) (xI x C) where
 ty:=fun _ _ _ p=>p.type
 it:=fun M h X _=>by
  obtain ⟨cd,hc⟩:=Option.isSome_iff_exists.mp Z.cl;unfold eS at hc;split at hc
  ·rename_i c' d' cd' sl' ho
   intro A' Q' E' s' k q;unfold isType loadHead;exact a5 (wpAny_loadPart (k _ _ (X _ _ ho)) (a9 q))
  ·cases hc
 ne:=fun h tp dd its n sl X htp=>by
  refine Bool.eq_false_iff.mpr fun q=>?_;obtain rfl:C=tp:=Value.ref.inj (beq_iff_eq.mp q);obtain ⟨cd,hc⟩:=Option.isSome_iff_exists.mp Z.cl;unfold eS at hc;split at hc
  ·rename_i c' d' cd' sl' ho
   have z:=(X _ _ ho).symm.trans htp;cases z
  ·cases hc
 ca:=fun X p k=>EX Z X p k
end
section
theorem tX:j0 X (.builtin "isinstance") (fun xs H Q=>∃ x c cv b,xs=[x,c]/\((∃ n,c=.ty n/\cv=.type n)\/∃ C',c=.ref C'/\cv=.ref C')/\((∃ t,sS X.K H x t/\cL X.K t cv=some b) \/
  ∃ ea C,x=.ref ea/\H ea=some (vk ea C)/\Hv X.K C/\cL X.K (.ref C) cv=some b)/\Q (.bl b) H):=by
 intro pins s σ H xs us Q I r h;obtain ⟨x,c,cv,b,rfl,rc,h,q⟩:=h;obtain ⟨u,v,rfl,ru,rv⟩:=Da r;obtain rfl:v=cv:=by
  rcases rc with ⟨n,rfl,rfl⟩|⟨C',rfl,rfl⟩
  ·exact rv
  ·exact rv
 rcases h with ⟨t,ty,e⟩|⟨ea,C,rfl,hH,Z,e⟩
 ·exact lU I ru ty e fun tk=>⟨.bl b,H,I.tok tk,rfl,q⟩
 ·cases ru;have p:xI ea C s.heap:=(show cH X.prog X.w H s.heap ea (vk ea C) from I.hok ea _ hH).1;exact b_ (Hw Z) I.kIn p e (fun z=>nomatch z) fun tk=>⟨.bl b,H,I.tok tk,rfl,q⟩
end
end
section
structure ko (k:Nat) (A:aZ):Prop where
 dp:A.depth+3*k+5<Bo
 un:A.units+16*k+200<pQ
theorem j9.h  (r:j9 k A):ko k A:=⟨r.dp,r.un⟩
theorem ko.mark  (r:ko k A) (v:Option a8):ko k (A.mark v):=⟨r.dp,r.un⟩
theorem ko.deeper  (r:ko (k+1) A) (env:Env):ko k (A.deeper env):=⟨by have:=r.dp;show A.depth+1+3*k+5<_;omega,by have:=r.un;show A.units+3+16*k+200<_;omega⟩
structure Ah (P:aH) (w:aY) (K:a6) (mg:Str->Option a8) (base:ba) (k:Nat) (f:ac) (fd:db) (ps:List Str) (sp:Sp):Prop where
 len:∀ vs H Q E,sp vs H Q E->vs.length=ps.length
 run:∀ (A:aZ) (outer:List Env) (s:aa) (H:Hp) (args:Args) (us:List a8) (vs:List V) (Q:VK) (E:XK),ko k A->BR P w K mg base A outer s H->tN s fd args (ps.zip us)->cF vs us->sp vs H Q E ->
  gx (az P w) A (.call (.ref f) args) (CR SB outer P w H s Q E) s
def PU (P:aH) (w:aY) (K:a6) (mg:Str->Option a8) (base:ba) (N:List Str) (qual:Str) (scope:dW) (f:ac) (cd:a8) (A:aZ) (outer:List Env) (s:aa) (H:Hp):Cx where
 prog:=P
 w:=w
 K:=K
 mg:=mg
 base:=base
 A:=A.deeper (iH qual scope s.heap.objs.size f cd)
 N:=N
 s₀:=s
 H₀:=H
 env:=iH qual scope s.heap.objs.size f cd
 outer:=outer
 stack:=iH qual scope s.heap.objs.size f cd::outer
 ex:=[]
 calm:=false
 fn:=fun _=>true
 pn:=[]
 xe:=fun _ _=>False
section
variable {P:aH}{w:aY}{K:a6}{mg:Str->Option a8}{base:ba}
theorem C5
  (S:bN N ps scope) (e0:BR P w K mg base A outer s H) (hl:vs.length=ps.length) (r:cF vs us)
  (x:InCallC s s.heap.objs.size (Bs (iH qual scope s.heap.objs.size f cd).kindOf (ps.zip us) fun _=>none) (bB (s.heap.objs.size+1) scope.names []) (Bt (iH qual scope s.heap.objs.size f cd).kindOf (ps.zip us) fun _=>none) s1) :
  bj (PU P w K mg base N qual scope f cd A outer s H) [] (start N vs) H s1:=by
 have e1:BR P w K mg base { A with handled:=none } outer s H:=⟨e0.frames,e0.mod,e0.bs,e0.bsz,e0.funs,e0.frf,e0.hok,e0.bare⟩;have I:=xy (CX:=SB) (E:=E0) S (A:={ A with handled:=none }) rfl e1 hl r x;exact ⟨⟨I.ok.mod,I.ok.kind,I.ok.glob,I.ok.blt,I.ok.above,I.ok.inj,I.ok.has,I.ok.cab,(fun z=>jz z),I.ok.frames,I.ok.stk,I.ok.exf,I.ok.bs,I.ok.bsz,I.ok.noex,I.ok.exfs,I.ok.funs,I.ok.frf⟩,I.os,I.bare,I.base,I.loc,I.cell,I.free,I.freeC,I.pin,I.hok,I.len⟩
theorem Op {k:Nat}{f:ac}{name qual:Str}{params:Arguments}{body:List du}{scope:dW}{dV kV doc pm cdv ct oc:a8}{an od:Option ac}
  {osl:Array (Option a8)}{N ps:List Str}{sp:Sp} (lk:K.lookup f=some ⟨oc,od,.func (dw name qual params body scope dV kV doc pm an cdv ct),osl⟩) (hcd:iI K cdv qual=true) (S:bN N ps scope)
  (len:∀ vs H Q E,sp vs H Q E->vs.length=ps.length)
  (hbody:∀ (A:aZ) (outer:List Env) (s:aa) (H:Hp) (vs:List V) (Q:VK) (E:XK),ko k (A.deeper (iH qual scope s.heap.objs.size f cdv))->sp vs H Q E ->
   ∃ t,zN (PU P w K mg base N qual scope f cdv A outer s H) body t/\t { nx:=fun _ H'=>Q .non H',rt:=Q } (start N vs) H) :
  Ah P w K mg base (k+1) f (dw name qual params body scope dV kV doc pm an cdv ct) ps sp:=by
 refine ⟨len,fun A outer s H args us vs Q E hr e0 hb r hsp=>?_⟩;have hl:=len _ _ _ _ hsp;have KX:K.In s.heap:=e0.mod.kin.keeps fun b o e=>(e0.bs b o e).1;have lim:s.heap.NoLimit:=e0.mod.nolimit.keeps fun b o e=>(e0.bs b o e).1;have hkind:∀ y∈ps.zip us,scope.names.lookup y.1=some .local\/(scope.names.lookup y.1=some .cell/\((bB (s.heap.objs.size+1) scope.names []).lookup y.1).isSome=true):=fun ⟨n,v⟩ hy=>by
  rcases S.par n (nY hy).1 with q|q
  ·exact .inl q
  ·exact .inr ⟨q,e7 _ _ _ (.inl q)⟩
 refine JU (by have:=hr.dp;omega) (KX _ _ lk) rfl S.co S.gen rfl (qh KX hcd) (hb _ _ _ _ ?_);refine Bu S.kind hkind fun env he s1 x=>?_;subst he;refine ⟨lim.keeps x.toInCall.keep,codeAny_func ?_⟩;obtain ⟨t,ht,hq⟩:=hbody A outer s H vs Q E (hr.deeper _) hsp;have I:bj (PU P w K mg base N qual scope f cdv A outer s H) [] (start N vs) H s1:=C5 S e0 hl r x;refine c6 (ht [] s1 (start N vs) H _ I hq) (fun fl s' hs=>?_) fun e s' hs=>(show False from hs).elim;have fin:∀ {σ':St}{H':Hp}{v:V}{u:a8},bj (PU P w K mg base N qual scope f cdv A outer s H) [] σ' H' s'->cD v u->Q v H'->CE outer P w H s Q u s' :=
  fun {σ' H' v u} J rv q=>⟨v,H',J.os,J.bare,J.base,J.hok,rv,q⟩
 cases fl with
 |ret u =>
  obtain ⟨v,σ',H',J,rv,q⟩:=hs;exact fin J rv q
 |next =>
  obtain ⟨σ',H',J,q⟩:=hs;exact fin (v:=V.non) (u:=dZ) J rfl q
 |brk =>
  obtain ⟨_,_,_,q⟩:=hs;exact dv q
 |cont =>
  obtain ⟨_,_,_,q⟩:=hs;exact dv q
theorem Bf.okH {x qual:Str}{st:du}{f:ac}{fd:db}{N ps:List Str}{k:Nat}{sp:Sp} (F:Bf K x qual st f fd) (S:bN N ps (aB st)) (len:∀ vs H Q E,sp vs H Q E->vs.length=ps.length)
  (hbody:∀ (cdv:a8) (A:aZ) (outer:List Env) (s:aa) (H:Hp) (vs:List V) (Q:VK) (E:XK),ko k (A.deeper (iH qual (aB st) s.heap.objs.size f cdv))->sp vs H Q E ->
   ∃ t,zN (PU P w K mg base N qual (aB st) f cdv A outer s H) (fB st) t/\t { nx:=fun _ H'=>Q .non H',rt:=Q } (start N vs) H):Ah P w K mg base (k+1) f fd ps sp:=by
 obtain ⟨oc,od,kV,doc,pm,an,cdv,ct,osl,rfl,lk,hcd⟩:=F.ex;exact Op lk hcd S len fun A outer s H vs Q E hr hsp=>hbody cdv A outer s H vs Q E hr hsp
end
section
theorem Hx (F:Ah X.prog X.w X.K X.mg X.base k f fd ps sp) (hr:ko k X.A) (hg:Gl X x) (hm:X.mg x=some (.ref f)) (hk:cZ X.K (.ref f)=true) (hb:j3 X.K fd ps [])
  (ha:PA X (e::es) t) (hdb:(x==("__debug__" : Str))=false:=by decide) (he:aq (e::es) X.env=(false,bU e X.env)::aq es X.env:=by rfl) (hpl:(fK pos (aq es X.env)).any (·.1)=false:=by rfl) :
  PE X (.Call (.Name x p) (e::es) [] pos) (Dd sp [] E0 t):=by
 intro pins s σ H Q I h;refine my (uB I hg hm ?_ hdb);refine Br (h₀:=X.base) I.ok.mod.kin hk (eK (ha pos pins s σ H _ I h) fun us s1 ⟨vs,H1,I1,r,q⟩=>⟨I1.kIn,?_⟩) he hpl;have q:sp (vs++[]) H1 Q E0:=q;rw [bP] at q;have hl:us.length=ps.length:=by rw [<- r.length];exact F.len _ _ _ _ q
 have hb':=hb s1 us I1.kIn (by rw [bP];exact hl);rw [bP] at hb';refine uS (lO (F.run X.A X.stack s1 H1 ⟨us,[]⟩ us vs Q E0 hr I1.env0 hb' r q) fun r s' hq=>?_);cases r with
 |error e=>exact (show False from hq).elim
 |ok fl =>
  cases fl with
  |ret u=>exact I1.after hq
  |next=>exact dv hq
  |brk=>exact dv hq
  |cont=>exact dv hq
end
end
section
section
def Sc:yk->String
 |.none=>"NoneType" | .bool _=>"bool" | .int _=>"int" | .str _=>"str" | .list _=>"list" | .tuple _=>"tuple" | .dict _=>"dict"
theorem C6            (I:bj X pins σ H s) (rx:cD x u) (r:C4 X.K H x d) (e:cL X.K (.type (Sc d)) c=some b) (h:∀ tk,Q (.bool b) { s with toks:=tk }) :
  ak (az X.prog X.w) A (call (.builtin "isinstance") [u,c]) Q E s:=by
 cases r with
 |none=>exact lU I rx .non e h
 |bool y=>exact lU I rx (.bl y) e h
 |int i=>exact lU I rx (.int i) e h
 |str y=>exact lU I rx (.str y) e h
 |list hq _ =>
  cases rx;obtain ⟨its,rv,⟨o,n,ho,c,_,dd⟩,_⟩:=I.list hq;exact b_ qU I.kIn ⟨o,ho,c⟩ e (fun z=>nomatch z) h
 |tuple hq _ =>
  cases rx;obtain ⟨its,rv,⟨o,ho,c,n,dd⟩,_⟩:=I.tuple hq;exact b_ Bm I.kIn ⟨o,ho,c⟩ e (fun z=>nomatch z) h
theorem Hy:j0 X (.builtin "isinstance") (fun xs H Q=>∃ x d T b,xs=[x,.ty T]/\C4 X.K H x d/\cL X.K (.type (Sc d)) (.type T)=some b/\Q (.bl b) H):=by
 intro pins s σ H xs us Q I r h;obtain ⟨x,d,T,b,rfl,rp,e,q⟩:=h;obtain ⟨u,v,rfl,ru,rv⟩:=Da r;obtain rfl:v=.type T:=rv;exact C6 I ru rp e fun tk=>⟨.bl b,H,I.tok tk,rfl,q⟩
end
end
end L2
section
namespace HT
open PySem PyProof.Rows
section
theorem Ai {t sl:ac}{items:Array a8}{vl vu:a8}{lo hi:Option Int}{Q:a8->aa->Prop} (ht:IsTup s.heap t items) (hs:s.heap.IsSliceOf sl vl vu .none) (pl:sB vl lo) (pu:sB vu hi)
  (hw:gY items.size 0 lo=0/\gY items.size items.size hi=items.size) (h:Q (.ref t) s):ak (az prog w) A (nN (.ref t) (.ref sl)) Q E s:=by
 obtain ⟨os,hos,hcs,hds⟩:=id hs;have hTs:s.TypeIs (.ref sl) "slice":=⟨os,hos,hcs⟩;unfold nN;try with_reducible refine cG ?_
 first|refine a5 (a9 ?_)|skip
 refine a5 (wpAny_sequenceKey ht.typeIs (by decide) ?_);refine a5 (bK (name:=bc "__getitem__") ht.typeIs eL
  (bV eL ht.typeIs entry_tuple_getitem ?_ (args_tuple_getitem _ _)))
 show ak _ _ (qW (.ref t) >>= _) _ _ s;refine a5 (tupleItemsOf_ ht ?_);refine a5 (qi hTs ?_);rw [if_pos (by decide)];refine a5 (lW hs pl pu ?_);have hyes:((((gY items.size 0 lo:Nat):Int)==0&&(1:Int)==1&&(gY items.size items.size hi-gY items.size 0 lo)==items.size)=true):=by
  rw [hw.1,hw.2];simp
 show ak _ _ (if (((gY items.size 0 lo:Nat):Int)==0&&(1:Int)==1&&(gY items.size items.size hi-gY items.size 0 lo)==items.size)=true then _ else _) _ _ s;rw [if_pos hyes];refine a5 ?_;unfold Builtin.Tuple.tupleIsExact;refine a5 (qi ht.typeIs (a9 ?_));rw [if_pos (by decide)];refine a5 (ft ?_);first
  |exact a9 (a9 ⟨_,rfl,h⟩)
  |exact a9 ⟨_,rfl,a9 h⟩
  |exact a5 (a9 (a9 ⟨_,rfl,a9 h⟩))
  |exact a5 (a9 (a9 ⟨_,rfl,h⟩))
end
end HT
namespace L2
open PySem PySem.Spec PyProof.Rows
section
inductive Hz (K:a6) (x:V) (lo:Option Int) (hi:Option Int) (H:Hp) (Q:VK):Prop
 |mk (a xs:_) (h0:x=.ref a) (h1:ic K H a xs) (h2:(HT.gY xs.length 0 lo=0/\HT.gY xs.length xs.length hi=xs.length)) (h3:Q (.ref a) H):Hz K x lo hi H Q
def PV (K:a6):V->Option Int->Option Int->Hp->VK->Prop:=Hz K
theorem L8:Pw X (PV X.K):=by
 intro pins s σ H x v vl vu lo hi sl Q I rx hs pl pu h;obtain ⟨a,xs,rfl,hx,hw,q⟩:=h;cases rx;obtain ⟨its,r,ht,hz⟩:=I.tuple hx;have hlen:its.toArray.size=xs.length:=by rw [aA];exact r.length.symm
 exact ⟨"tuple",_,PyProof.Rows.slot_tuple_getitem.lookup,ht.typeIs,HT.Ai ht hs pl pu (by rw [hlen];exact hw) ⟨.ref a,H,I,rfl,q⟩⟩
theorem i3   (h:H p=none):cR H (upd H p o):=fun b u e=>by rw [aL (aS e h)];exact e
theorem qo:∀ {bs:List Bool}{us:List a8},cF (bs.map V.bl) us->us=bs.map gN
 |[],_,.nil=>rfl
 |b::r,_,.cons h t=>by cases h;rw [qo t];rfl
theorem vn {A:aZ}{s:aa}{bs:List Bool}:∀ y,y∈(bs.map gN).toArray->Em A s y (.bool true) (sO true y):=fun y hy=>by
 have hy:y∈bs.map gN:=by simpa using hy
 obtain ⟨b,_,rfl⟩:=List.mem_map.mp hy;exact xh b true
def L9 (K:a6):V->List V->Hp->VK->Prop:=fun x vs H Q=>∃ l,∃ bs:List Bool,x=.ref l/\vs=[.bl true]/\jI K H l (bs.map V.bl)/\Q (.int (bs.countP id:Nat)) H
theorem EY:RZ X "list.count" (L9 X.K):=by
 intro pins s σ H x vs v us Q I rx rv h;obtain ⟨l,bs,rfl,rfl,hq,q⟩:=h;cases rx;obtain ⟨u,rfl,ru⟩:=rv.one;cases ru;obtain ⟨its,r,⟨o,n,ho,c,hd,dt⟩,hz⟩:=I.list hq;rw [qo r] at dt;obtain ⟨cls,dd,data,sl⟩:=o;simp only at c dt;subst c dt;refine ke xl ⟨_,ho,rfl⟩ PySem.F.entry_list_count (PySem.F.args_list_count_2 _ _) (SeqAt.list_countAt l (bs.map gN).toArray n dd sl (.bool true) (sO true)) ⟨ho,fun y hy=>vn y hy,?_⟩;refine ⟨.int _,H,I.tok _,⟨_,rfl⟩,?_⟩;have e:(bs.map gN).toArray.toList.countP (sO true)=bs.countP id:=by
  show (bs.map gN).countP (sO true)=_;rw [List.countP_map];congr 1;funext b;cases b<;>rfl
 rw [e];exact q
def La (K:a6):V->List V->Hp->VK->Prop:=fun x vs H Q=>∃ l,∃ bs:List Bool,∃ j:Nat,x=.ref l/\vs=[.bl true]/\jI K H l (bs.map V.bl)/\bs[j]?=some true/\(∀ m,m<j->bs[m]?=some false)/\j<=1000/\Q (.int (j:Nat)) H
theorem EZ:RZ X "list.index" (La X.K):=by
 intro pins s σ H x vs v us Q I rx rv h;obtain ⟨l,bs,j,rfl,rfl,hq,hj,hno,hsm,q⟩:=h;cases rx;obtain ⟨u,rfl,ru⟩:=rv.one;cases ru;obtain ⟨its,r,⟨o,n,ho,c,hd,dt⟩,hz⟩:=I.list hq;rw [qo r] at dt;obtain ⟨cls,dd,data,sl⟩:=o;simp only at c dt;subst c dt;obtain ⟨hjl,hjv⟩:=List.getElem?_eq_some_iff.mp hj;refine ke xm ⟨_,ho,rfl⟩ PySem.F.entry_list_index (PySem.F.args_list_index_2 _ _) (SeqAt.list_indexAt l (bs.map gN).toArray n dd sl (.bool true) (sO true) j (by simpa using hjl) (by omega) ?_ ?_) ⟨ho,fun y hy=>vn y hy,?_⟩
 ·simp [sO,hjv]
 ·intro m hm hlt;have:=hno m hlt;obtain ⟨_,hv⟩:=List.getElem?_eq_some_iff.mp this;simp [sO,hv]
 ·exact ⟨.int _,H,I.tok _,⟨_,rfl⟩,q⟩
theorem vo (hc:X.calm=true):j0 X (.type "list") (fun xs H Q=>∃ a kvs,xs=[.ref a]/\H a=some (.dK kvs)/\∀ l,H l=none->Q (.ref l) (upd H l (.lst (kvs.map fun p=>kV p.1)))):=by
 intro pins s σ H xs us Q I r h;obtain ⟨a,kvs,rfl,hH,q⟩:=h;obtain ⟨u,rfl,rx⟩:=l7 r;cases rx;obtain ⟨hz,hs,vs,rk,hd⟩:=(show cH X.prog X.w H s.heap a (.dK kvs) from I.hok a _ hH);obtain ⟨ep,hat⟩:∃ ep,s.heap.DictAt (fA X.prog X.w) a vs ep:=by
  obtain ⟨o,es,ep,h1,h2,h3,h4⟩:=hd;exact ⟨ep,o,es,h1,h2,h3,h4⟩
 have hlen:kvs.length=vs.length:=lL rk;refine PySem.W.kdl_call (PySem.W.kdl_dict hs) (I.ok.hd hc) hat (by omega) fun h' tk acc' c' kp e hacc=>?_;have rv:cF (kvs.map fun p=>kV p.1) acc'.toList:=by
  have key:∀ {kvs:List (fz×V)}{vs:List (fz×a8)} (acc:List a8),KV kvs vs->acc.length=vs.length->(∀ (j:Nat) (v:a8),acc[j]?=some v->∃ k x,vs[j]?=some (k,x)/\u_ k v=true)->cF (kvs.map fun p=>kV p.1) acc:=by
   intro kvs;induction kvs with
   |nil=>intro vs acc rk hl _;cases rk;cases acc with
    |nil=>exact .nil
    |cons _ _=>simp at hl
   |cons p kvs ih =>
    intro vs acc rk hl hv;cases rk with
    |cons h1 t1 =>
     cases acc with
     |nil=>simp at hl
     |cons v acc =>
      refine .cons ?_ (ih acc t1 (by simpa using hl) fun j v hj=>by simpa using hv (j+1) v (by simpa using hj));obtain ⟨k,x,e1,e2⟩:=hv 0 v rfl;simp only [nA,zL] at e1;subst e1;have hk:p.1=k:=h1.1;rcases ej e2 with ⟨i,t,e,rfl⟩|⟨i,t,e,rfl⟩
      ·show cD (kV p.1) _;rw [hk,e];exact ⟨t,rfl⟩
      ·show cD (kV p.1) _;rw [hk,e];exact ⟨t,rfl⟩
  exact key acc'.toList rk (by rw [aO];exact hacc.1) fun j v hj=>hacc.2 j v (by rw [<- eI];exact hj)
 exact ⟨.ref s.heap.objs.size,_,I.laid (t':=tk) kp (al _) (show cH X.prog X.w _ h' _ (.lst _) from ⟨by simpa using hz,acc'.toList,c',rv,by rw [BC];exact e⟩),rfl,q _ (I.hok.fresh (al _))⟩
def vp (x:Str):List V:=x.cps.toList.map fun c=>V.str ⟨#[c]⟩
theorem ut (hc:X.calm=true):j0 X (.type "tuple") (fun xs H Q=>∃ x,xs=[.str x]/\x.cps.size<=sizeLine/\∀ l,H l=none->Q (.ref l) (upd H l (.tup (vp x)))):=by
 intro pins s σ H xs us Q I r h;obtain ⟨x,rfl,hz,q⟩:=h;obtain ⟨u,rfl,rx⟩:=l7 r;obtain ⟨t,rfl⟩:=rx;refine call_tuple_str (I.ok.hd hc) x t (fun h' tk acc kp hacc=>?_) hz;have I1:bj X pins σ H { s with heap:=h',toks:=tk }:=I.kept (t':=tk) kp;have rv:cF (vp x) acc.toList:=by
  have key:∀ (cs:List Nat) (acc:List a8),acc.length=cs.length->(∀ (j:Nat) (v:a8),acc[j]?=some v->∃ c u,cs[j]?=some c/\v=.str ⟨#[c]⟩ u)->cF (cs.map fun c=>V.str ⟨#[c]⟩) acc:=by
   intro cs;induction cs with
   |nil=>intro acc hl _;cases acc with
    |nil=>exact .nil
    |cons _ _=>simp at hl
   |cons c cs ih =>
    intro acc hl hv;cases acc with
    |nil=>simp at hl
    |cons v acc =>
     obtain ⟨c',u,e1,rfl⟩:=hv 0 v rfl;simp only [nA,zL] at e1;subst e1;exact .cons ⟨u,rfl⟩ (ih acc (by simpa using hl) fun j v hj=>by simpa using hv (j+1) v (by simpa using hj))
  refine key x.cps.toList acc.toList (by rw [aO,aO];exact hacc.1) fun j v hj=>?_;obtain ⟨c,u,e1,e2⟩:=hacc.2 j v (by rw [<- eI];exact hj);exact ⟨c,u,by rw [eI];exact e1,e2⟩
 have I2:bj X pins σ (upd H h'.objs.size (.tup (vp x))) { s with heap:=h'.push { cls:=.type "tuple",data:=.seq acc },toks:=tk } :=
  I1.laid (t':=tk) (fun b o e=>a7 _ e) (al _) (show cH X.prog X.w _ _ _ (.tup (vp x)) from ⟨by unfold vp;simpa using hz,acc.toList,rv,by rw [BC];exact zI _ _⟩)
 exact ⟨.ref h'.objs.size,_,I2,rfl,q _ (I1.hok.fresh (al _))⟩
end
end L2
end
namespace L2
open PySem PySem.Spec PyProof.Rows
section
section
theorem nJ {elt target iter ifs bE scope pos it acc env}
  (h0:gx (az prog w) A (.compLoop (.SetComp elt (⟨target,iter,ifs,0⟩::bE) scope pos) 0 it acc env) R s)
  (h:ak (az prog w) A (uP it) (fun it' s'=>gx (az prog w) A (.compLoop (.SetComp elt (⟨target,iter,ifs,0⟩::bE) scope pos) 0 it' acc env) R s')
   (notedBy (az prog w) A env fun x s'=>R (.error x) s') s) :
  gx (az prog w) A (.compStart (.SetComp elt (⟨target,iter,ifs,0⟩::bE) scope pos) 0 it acc env) R s:=by
 refine zT ?_;show ak _ _ ((compStart (.SetComp elt (⟨target,iter,ifs,0⟩::bE) scope pos) 0 it acc env).onRaise (fun x=>do F_ x env;tM theWindowsPlace)) _ _ s;refine wpAny_notedAt ?_;unfold compStart;show ak _ _ (ask >>= _) _ _ s;refine a5 (iD (wpAny_ite ?_));split
 ·first
   |exact a5 (a9 (a9 (uX rfl h0)))
   |exact a9 (uX rfl h0)
 ·first
   |exact a5 (ft (a5 (kP (a5 (c6 h (fun it' s' hq=>a9 (uX rfl hq)) fun _ _ x=>x)))))
   |(refine a5 (ft ?_);show ak _ _ (tM iter.pos >>= _) _ _ s;exact a5 (kP (a5 (c6 h (fun it' s' hq=>a9 (uX rfl hq)) fun _ _ x=>x))))
theorem wO (h:Q (.ref s.heap.objs.size) { s with heap:=s.heap.push (jm w) }):ak (az prog w) A (newSet (.type "set")) Q E s:=by
 unfold newSet setsByText;refine a5 (a5 (iD (a9 ?_)));dsimp only;simp only [newObj];exact a5 (Ka (a9 h))
theorem wP     (hS:lX w s.heap a ss) (hr:ss.length+1<fL)
  (h:∀ h' tk',c9 a s.heap h'->lX w h' a (if x∈ss then ss else ss++[x])->Q .none { s with heap:=h',toks:=tk' }) :
  ak (az prog w) A (call (.builtin "set.add") [.ref a,.str x tk]) Q E s:=by
 have hT:s.TypeIs (.ref a) "set":=by obtain ⟨es,ep,t,I,_⟩:=id hS;exact ⟨_,I.at_,rfl⟩
 refine bV F.slot_set_add hT F.entry_set_add ?_ (F.args_set_add_2 _ _);unfold gC.«set.add» Kh;simp only [List.isEmpty_nil,bind_assoc];unfold Ki;refine a5 (a9 ?_);try dsimp only
 refine a5 (a9 ?_);try dsimp only
 refine a5 ?_;refine A9 hS hr fun h' tk' sb hS'=>?_;exact a9 ⟨_,rfl,h h' tk' sb hS'⟩
end
def Sd (w:aY) (D:ac) (o:Obj) (acc:List Str):Prop:=∀ h:ba,h.get? D=some o->lX w h D acc
def Oq (X:Cx) (elt:aP) (env:Env) (D:ac) (K:aa->Prop) (s:aa):Prop:=ak (az X.prog X.w) X.A (bU elt env) (fun x s₄=>ak (az X.prog X.w) X.A (call (.builtin "set.add") [.ref D,x]) (fun _ s₅=>K s₅) (fun _ _=>False) s₄) (fun _ _=>False) s
abbrev PX (te:TE) (σ:St) (H:Hp) (acc:List Str) (m:Nat) (V:Nat->List Str->Hp->Prop):Prop:=te σ H fun y H4=>∃ z m',y=.str z/\m'<m/\V m' (if z∈acc then acc else acc++[z]) H4
theorem HA {X:Cx}{elt:aP}{te:TE}{N':List Str}{scope:dW}{M:St->Prop} (pe:∀ cl C s₀ H₀ ex pn,PE (cX X N' scope cl C s₀ H₀ ex pn) elt te) :
  GY X N' scope M (fun D o acc=>(∀ v,o.data≠.cell v)/\Sd X.w D o acc) (fun acc=>acc.length+1<fL) (PX te) (Oq X elt):=by
 intro cl C s₀ H₀ ex pn D pl o acc σ6 H7 s7 K m V h1 h2 h3 _ hl hP I7 q7 fin
 refine eK (pe cl C s₀ H₀ ex pn _ s7 σ6 H7 _ I7 q7) fun u8 s8 h_5=>?_
 obtain ⟨y,H8,I8,r8,z,m',hy,hm,q8⟩:=h_5
 obtain ⟨pD,pN,_⟩:=I8.pin (D,_) (aN _ aw)
 subst hy
 obtain ⟨tz,rfl⟩:=r8
 refine wP (hP.2 _ pD) hl fun h9 tk9 sb9 hS9=>?_
 obtain ⟨es9,ep9,t9,is9,pm9⟩:=id hS9
 have e9':=is9.at_
 exact fin _ _ H8 _ m' ((I8.swap sb9 e9' (fun _ z=>nomatch z) h1 h2 h3).tok _) ⟨fun _ z=>(nomatch z),fun h e=>hS9.keep fun o eo=>by rw [e9'] at eo;cases eo;exact e⟩ hm q8
theorem HB {X:Cx}{elt:aP}{f:Sem Fin}{a:Code} (hf:f=pure (.again a)) (env:Env) (D:ac) (K:aa->Prop) (s:aa) (h:Oq X elt env D K s):ak (az X.prog X.w) X.A ((do let v <- bU elt env;tM elt.pos;let _ <- call (.builtin "set.add") [.ref D,v]) >>= fun _=>f) (fun f s5=>f=.again a/\K s5) (fun _ _=>False) s:=by
 subst hf;exact a5 (a5 (eK h fun x s4 h4=>a5 (kP (a5 (eK h4 fun _ _ q=>a9 (a9 ⟨rfl,q⟩))))))
theorem Lb {X:Cx}{elt tg iter:aP}{ifs:List aP}{scope:dW}{pos:Pos}{te:TE}{N':List Str}{nt:Nat}{ix:List Nat} (pe:∀ cl C s₀ H₀ ex pn,PE (cX X N' scope cl C s₀ H₀ ex pn) elt te) :
  KZ X N' scope nt nt ix (.SetComp elt [⟨tg,iter,ifs,0⟩] scope pos) tg ifs (newSet (.type "set")) (uq X.w) [] (fun acc=>acc.length+1<fL) (PX te) :=
 ⟨_,_,fun _=>Oq X elt,fun _=>True,fun h=>h.1,rfl,fun _=>⟨fun _ z=>(nomatch z),fun _ e=>xE X.w e⟩,fun _ h e=>Dp (h.2 _ e),wO,fun _=>MB (iter:=iter) (fun _ _=>rfl) fun a b c d h=>HB rfl a b c d h,nJ,⟨al _,fun _ _ _=>trivial⟩,fun _=>HA pe⟩
inductive MF (w:aY) (nt:Nat) (ix:List Nat) (g:TG) (tt:TT) (te:TE) (σ:St) (Q:VK) (J:It) (H1:Hp):Prop
 |mk (W:Nat->Nat->List Str->Hp->Prop) (w0:∃ m,W 0 m [] H1) (turn:∀ i m acc H,W i m acc H ->
 (J.stop i H/\∀ p,H p=none->Q (.ref p) (upd H p (uq w p acc))) \/
 (J.go i H/\acc.length+1<fL/\∀ x H',J.yld i H x H'->g x (kj nt ix σ) H' fun σ2 H2=>tt σ2 H2 fun b H3 =>
  if b=true then te σ2 H3 fun y H4=>∃ z m',y=.str z/\m'<m/\W (i+1) m' (if z∈acc then acc else acc++[z]) H4 else ∃ m',m'<m/\W (i+1) m' acc H3)):MF w nt ix g tt te σ Q J H1
def HC (w:aY) (nt:Nat) (ix:List Nat) (wi:TI) (g:TG) (tt:TT) (te:TE):TE:=fun σ H Q=>wi σ H (MF w nt ix g tt te σ Q)
theorem C7 {X:Cx}{elt tg iter:aP}{ifs:List aP}{scope:dW}{pos:Pos}{wi:TI}{g:TG}{tt:TT}{te:TE}{N':List Str}{nt:Nat}{ix:List Nat}
  (hc:X.calm=true) (S:mD X scope N' nt ix) (lo:Of nt g) (hi:PI X tg iter wi)
  (hb:∀ cl C s₀ H₀ ex pn,PG (cX X N' scope cl C s₀ H₀ ex pn) tg g/\KR (cX X N' scope cl C s₀ H₀ ex pn) ifs tt/\PE (cX X N' scope cl C s₀ H₀ ex pn) elt te)
  (hs:∀ x,dk iter X.env x=pure x:=by intro _;rfl):PE X (.SetComp elt [⟨tg,iter,ifs,0⟩] scope pos) (HC X.w nt ix wi g tt te):=by
 intro pins s σ H Q I h;obtain ⟨cl,hcl,c1,c2⟩:=ql (scope:=scope) (env:=X.env) fun y hy hf=>I.ok.has y.1 (S.free y hy hf);show ak _ _ (comprehension (.SetComp elt [⟨tg,iter,ifs,0⟩] scope pos) scope X.env (firstIterPos [⟨tg,iter,ifs,0⟩] pos) (newSet (.type "set")) (firstAsync [⟨tg,iter,ifs,0⟩]) (firstIter [⟨tg,iter,ifs,0⟩] X.env)) _ _ _;refine nZ (use:=none) rfl hs hcl S.kind S.loc (eK (hi pins s σ H _ I h) fun v s1 h1=>eK h1 fun itv s2 h2=>?_);obtain ⟨it,fp,tn,J,H2,e,I2,T,st2,f2,W,w0,turn⟩:=h2;subst e;refine BY (RR:=fun acc C=>compPost (az X.prog X.w) X.A X.xe none (EP X pins σ Q) acc C) (Lb fun a b c d e f=>(hb a b c d e f).2.2) hc S lo (fun a b c d e f=>⟨(hb a b c d e f).1,(hb a b c d e f).2.1⟩) c1 c2 I2 T st2 f2 w0 turn ?_;intro D C m s' acc H' hD _ q hn hI;exact ⟨m,hn,fun h' sb=>⟨.ref D,_,hI h' sb,rfl,q⟩⟩
section
theorem wQ:j0 X (.builtin "len") (fun xs H Q=>∃ p ss,xs=[.ref p]/\H p=some (uq X.w p ss)/\Q (.int ss.length) H):=by
 intro pins s σ H xs us Q I r h;obtain ⟨p,ss,rfl,hq,q⟩:=h;obtain ⟨u,rfl,rx⟩:=l7 r;cases rx;obtain ⟨es,ep,t,is,pm⟩:=(show cH X.prog X.w H s.heap p (uq X.w p ss) from I.hok p _ hq).1;have hlen:es.size=ss.length:=by rw [<- pm.length_eq,au,aO]
 have hsm:(es.size:Int)<2 ^ 63:=by
  have h1:=is.few;have h2:fL<=2 ^ 62:=by decide
  omega
 refine xk kind_len plain_len entry_len (args_len1 _) (wpAny_len_body_set is.at_ ⟨rfl,rfl,rfl⟩ rfl is.fits hsm ?_);refine ⟨.int _,H,I.tok _,⟨_,rfl⟩,?_⟩;rw [hlen];exact q
end
end
end L2
section
namespace L2
open PySem PySem.Spec PyProof.Rows
section
variable {K:a6}{nt:Nat}{ix:List Nat}{te:TE}{σ:St}{H1:Hp}{Q:VK}{a:ac}{xs:List V}{i:Nat}
end
end L2
namespace L2
open PySem PySem.Spec PyProof.Rows
def Dr (so:dW) (N:List Str) (scope:dW) (N':List Str) (nt:Nat) (ix:List Nat):Bool :=
 (scope.kind == .function)&&(scope.names.all fun y=>y.2 != .cell||scope.names.lookup y.1==some .cell)&&(scope.names.all fun y=>y.2 != .local||scope.names.lookup y.1==some .local) &&
 (scope.names.all fun y=>y.2 != .free||so.names.lookup y.1==some .cell||so.names.lookup y.1==some .free) &&
 ((bW ix.length).all fun k=>match ix[k]? with
  |none=>false
  |some i=>match N[i]? with
   |none=>false
   |some x=>N'[nt+k]? == some x&&scope.names.lookup x==some .free)&&(N'.length==nt+ix.length)
theorem da       (h:Dr so N scope N' nt ix=true) (h1:X.env.scope=so:=by rfl) (h2:X.N=N:=by rfl):mD X scope N' nt ix:=by
 unfold Dr at h;simp only [aC,cc] at h;obtain ⟨⟨⟨⟨⟨a,b⟩,c⟩,d⟩,e⟩,l⟩:=h;refine ⟨by simpa using a,fun y hy z=>?_,fun y hy z=>?_,fun y hy z=>?_,fun k i hk=>?_,by simpa using l⟩
 ·have:=b y hy;simpa [z] using this
 ·have:=c y hy;simpa [z] using this
 ·have:=d y hy;rw [h1];simpa [z] using this
 ·have hl:k<ix.length:=(List.getElem?_eq_some_iff.mp hk).1;have:=e k (List.mem_range.mpr hl);rw [hk] at this;rw [h2];simp only at this;split at this
  ·cases this
  ·rename_i x hx
   simp only [aC] at this;exact ⟨x,hx,by simpa using this.1,by simpa using this.2⟩
end L2
end
namespace L2
open PySem PySem.Spec PyProof.Rows
section
section
variable {K:a6}{nt:Nat}{ix:List Nat}{te:TE}{σ:St}{H1:Hp}{Q:VK}{a b:ac}{xs ys:List V}{i k:Nat}
end
end
end L2
namespace J
open PySem L2
section
abbrev D:=yk
inductive R (α:Type) where
 |ok (a:α)
 |ex (c:Str) (n:Option D)
 |no
def R.bind {α β:Type}:R α->(α->R β)->R β
 |.ok a,f=>f a
 |.ex c n,_=>.ex c n
 |.no,_=>.no
@[simp] theorem bind_ok {α β:Type} (a:α) (f:α->R β):(R.ok a).bind f=f a:=rfl
@[simp] theorem bind_ex {α β:Type} (c:Str) (n:Option D) (f:α->R β):(R.ex c n).bind f=.ex c n:=rfl
@[simp] theorem bind_no {α β:Type} (f:α->R β):(R.no:R α).bind f=.no:=rfl
def kD:fz->D
 |.inl i=>.int i
 |.inr x=>.str x
def tD (ks:List fz):D:=.tuple (ks.map kD)
mutual
inductive RD (K:a6) (H:Hp):V->D->Prop
 |none:RD K H .non .none
 |bool (b:Bool):RD K H (.bl b) (.bool b)
 |int (i:Int):RD K H (.int i) (.int i)
 |str (x:Str):RD K H (.str x) (.str x)
 |list {a:ac}{xs:List V}{ds:List D}:jI K H a xs->RDs K H xs ds->RD K H (.ref a) (.list ds)
 |tuple {a:ac}{xs:List V}{ds:List D}:H a=some (.tup xs)->RDs K H xs ds->RD K H (.ref a) (.tuple ds)
 |dictK {a:ac}{kvs:List (fz×V)}{ds:List (D×D)}:H a=some (.dK kvs)->RDk K H kvs ds->RD K H (.ref a) (.dict ds)
 |dictT {a:ac}{kvs:List (List fz×V)}{ds:List (D×D)}:H a=some (.dT kvs)->kvs≠[]->RDt K H kvs ds->RD K H (.ref a) (.dict ds)
 |dictF {a:ac}{o:Obj}{kvs:List (List fz×V)}{ds:List (D×D)}:H a=some (.frz o (.dT kvs))->kvs≠[]->RDt K H kvs ds->RD K H (.ref a) (.dict ((.none,.none)::ds))
inductive RDs (K:a6) (H:Hp):List V->List D->Prop
 |nil:RDs K H [] []
 |cons {x:V}{xs:List V}{d:D}{ds:List D}:RD K H x d->RDs K H xs ds->RDs K H (x::xs) (d::ds)
inductive RDk (K:a6) (H:Hp):List (fz×V)->List (D×D)->Prop
 |nil:RDk K H [] []
 |cons {k:fz}{x:V}{xs:List (fz×V)}{d:D}{ds:List (D×D)}:RD K H x d->RDk K H xs ds->RDk K H ((k,x)::xs) ((kD k,d)::ds)
inductive RDt (K:a6) (H:Hp):List (List fz×V)->List (D×D)->Prop
 |nil:RDt K H [] []
 |cons {k:List fz}{x:V}{xs:List (List fz×V)}{d:D}{ds:List (D×D)}:RD K H x d->RDt K H xs ds->RDt K H ((k,x)::xs) ((tD k,d)::ds)
end
section
theorem RD.same (e:cR H H')  (h:RD K H v d):RD K H' v d:=RD.rec (motive_1:=fun v d _=>RD K H' v d) (motive_2:=fun v d _=>RDs K H' v d) (motive_3:=fun v d _=>RDk K H' v d) (motive_4:=fun v d _=>RDt K H' v d) .none .bool .int .str (fun h _ r=>.list (e.seq h) r) (fun h _ r=>.tuple (e _ _ h) r) (fun h _ r=>.dictK (e _ _ h) r) (fun h n _ r=>.dictT (e _ _ h) n r) (fun h n _ r=>.dictF (e _ _ h) n r) .nil (fun _ _ a b=>.cons a b) .nil (fun _ _ a b=>.cons a b) .nil (fun _ _ a b=>.cons a b) h
theorem RDs.same (e:cR H H')  (h:RDs K H v d):RDs K H' v d:=RDs.rec (motive_1:=fun v d _=>RD K H' v d) (motive_2:=fun v d _=>RDs K H' v d) (motive_3:=fun v d _=>RDk K H' v d) (motive_4:=fun v d _=>RDt K H' v d) .none .bool .int .str (fun h _ r=>.list (e.seq h) r) (fun h _ r=>.tuple (e _ _ h) r) (fun h _ r=>.dictK (e _ _ h) r) (fun h n _ r=>.dictT (e _ _ h) n r) (fun h n _ r=>.dictF (e _ _ h) n r) .nil (fun _ _ a b=>.cons a b) .nil (fun _ _ a b=>.cons a b) .nil (fun _ _ a b=>.cons a b) h
theorem RDk.same (e:cR H H')  (h:RDk K H v d):RDk K H' v d:=RDk.rec (motive_1:=fun v d _=>RD K H' v d) (motive_2:=fun v d _=>RDs K H' v d) (motive_3:=fun v d _=>RDk K H' v d) (motive_4:=fun v d _=>RDt K H' v d) .none .bool .int .str (fun h _ r=>.list (e.seq h) r) (fun h _ r=>.tuple (e _ _ h) r) (fun h _ r=>.dictK (e _ _ h) r) (fun h n _ r=>.dictT (e _ _ h) n r) (fun h n _ r=>.dictF (e _ _ h) n r) .nil (fun _ _ a b=>.cons a b) .nil (fun _ _ a b=>.cons a b) .nil (fun _ _ a b=>.cons a b) h
theorem RDt.same (e:cR H H')  (h:RDt K H v d):RDt K H' v d:=RDt.rec (motive_1:=fun v d _=>RD K H' v d) (motive_2:=fun v d _=>RDs K H' v d) (motive_3:=fun v d _=>RDk K H' v d) (motive_4:=fun v d _=>RDt K H' v d) .none .bool .int .str (fun h _ r=>.list (e.seq h) r) (fun h _ r=>.tuple (e _ _ h) r) (fun h _ r=>.dictK (e _ _ h) r) (fun h n _ r=>.dictT (e _ _ h) n r) (fun h n _ r=>.dictF (e _ _ h) n r) .nil (fun _ _ a b=>.cons a b) .nil (fun _ _ a b=>.cons a b) .nil (fun _ _ a b=>.cons a b) h
mutual
def oq:D->Bool
 |.dict _=>false
 |.list xs=>noDs xs
 |.tuple xs=>noDs xs
 |_=>true
def noDs:List D->Bool
 |[]=>true
 |x::r=>oq x&&noDs r
end
theorem PY (h:(a&&b)=true):a=true:=(Bool.and_eq_true_iff.mp h).1
theorem PZ (h:(a&&b)=true):b=true:=(Bool.and_eq_true_iff.mp h).2
theorem RD.rep  (h:RD K H v d):oq d=true->C4 K H v d:=RD.rec (motive_1:=fun v d _=>oq d=true->C4 K H v d) (motive_2:=fun v d _=>noDs d=true->Reps K H v d) (motive_3:=fun _ _ _=>True) (motive_4:=fun _ _ _=>True) (fun _=>.none) (fun b _=>.bool b) (fun i _=>.int i) (fun x _=>.str x) (fun h _ r e=>.list h (r e)) (fun h _ r e=>.tuple (.of h) (r e)) (fun _ _ _ e=>jz e) (fun _ _ _ _ e=>jz e) (fun _ _ _ _ e=>jz e) (fun _=>.nil) (fun _ _ a b e=>.cons (a (PY e)) (b (PZ e))) trivial (fun _ _ _ _=>trivial) trivial (fun _ _ _ _=>trivial) h
theorem RDs.length:∀ {ds:List D},RDs K H vs ds->vs.length=ds.length:=by
 induction vs with
 |nil=>intro ds h;cases h;rfl
 |cons x r ih=>intro ds h;cases h with|cons a b=>exact congrArg (· + 1) (ih b)
theorem RDs.get:∀ {ds:List D}{i:Nat}{v:V},RDs K H vs ds->vs[i]?=some v->∃ d,ds[i]?=some d/\RD K H v d:=by
 induction vs with
 |nil=>intro ds i v _ e;cases e
 |cons x r ih =>
  intro ds i v h e;cases h with
  |cons a b =>
   cases i with
   |zero=>cases e;exact ⟨_,rfl,a⟩
   |succ i=>have q:=ih (i:=i) b e;exact q
theorem RDs.get':∀ {ds:List D}{i:Nat}{d:D},RDs K H vs ds->ds[i]?=some d->∃ v,vs[i]?=some v/\RD K H v d:=by
 induction vs with
 |nil=>intro ds i v h e;cases h;cases e
 |cons x r ih =>
  intro ds i v h e;cases h with
  |cons a b =>
   cases i with
   |zero=>cases e;exact ⟨_,rfl,a⟩
   |succ i=>have q:=ih (i:=i) b e;exact q
theorem RDs.append  : ∀ {ds:List D},RDs K H vs ds->RDs K H ws es->RDs K H (vs++ws) (ds++es):=by
 induction vs with
 |nil=>intro ds h s;cases h;exact s
 |cons x r ih=>intro ds h s;cases h with|cons a b=>exact .cons a (ih b s)
theorem RDs.drop:∀ {ds:List D} (n:Nat),RDs K H vs ds->RDs K H (vs.drop n) (ds.drop n):=by
 induction vs with
 |nil=>intro ds n h;cases h;cases n<;>exact .nil
 |cons x r ih =>
  intro ds n h;cases n with
  |zero=>exact h
  |succ n=>cases h with|cons a b=>exact ih n b
theorem RDs.take:∀ {ds:List D} (n:Nat),RDs K H vs ds->RDs K H (vs.take n) (ds.take n):=by
 induction vs with
 |nil=>intro ds n h;cases h;cases n<;>exact .nil
 |cons x r ih =>
  intro ds n h;cases n with
  |zero=>exact .nil
  |succ n=>cases h with|cons a b=>exact .cons a (ih n b)
theorem m5:∀ (ss:List Str),RDs K H (ss.map V.str) (ss.map av)
 |[]=>.nil
 |x::r=>.cons (.str x) (m5 r)
theorem RD.str_inv  (h:RD K H v (.str x)):v=.str x:=by cases h;rfl
theorem RD.bool_inv  (h:RD K H v (.bool x)):v=.bl x:=by cases h;rfl
theorem RD.int_inv  (h:RD K H v (.int x)):v=.int x:=by cases h;rfl
theorem Ds {α:Type}{c:α->D}{k:α->V} (hc:∀ {v x},RD K H v (c x)->v=k x) {ss:List α}:∀ {vs:List V},RDs K H vs (ss.map c)->vs=ss.map k:=by
 induction ss with
 |nil=>intro vs h;cases h;rfl
 |cons x r ih=>intro vs h;cases h with|cons a b=>rw [hc a,ih b];rfl
theorem iL {ss:List Str}{vs:List V}:RDs K H vs (ss.map av)->vs=ss.map V.str:=Ds RD.str_inv
theorem wR {ss:List Bool}{vs:List V}:RDs K H vs (ss.map bZ)->vs=ss.map V.bl:=Ds RD.bool_inv
end
def nt:HO->Bool
 |.tup _=>false
 |_=>true
structure cw (H Hs H' Hs':Hp):Prop where
 all:cR H H'
 sh:cR Hs Hs'
 sub:cR Hs' H'
 out:∀ a o,H a=some o->nt o=true->Hs a=none->Hs' a=none
theorem cw.refl (h:cR Hs H):cw H Hs H Hs:=⟨.refl _,.refl _,h,fun _ _ _ _ e=>e⟩
theorem cw.trans (a:cw H Hs H1 Hs1) (b:cw H1 Hs1 H2 Hs2):cw H Hs H2 Hs2 :=
 ⟨a.all.trans b.all,a.sh.trans b.sh,b.sub,fun c o e t n=>b.out c o (a.all c o e) t (a.out c o e t n)⟩
theorem cw.new   (h:cR Hs H) (n:H p=none):cw H Hs (upd H p o) (upd Hs p o):=by
 have n':Hs p=none:=h.free n;refine ⟨i3 n,i3 n',fun b u e=>?_,fun a u e t z=>?_⟩
 ·by_cases hb:b=p
  ·subst hb;rw [aK] at e ⊢;exact e
  ·rw [aL hb] at e ⊢;exact h b u e
 ·rw [aL (aS e n)];exact z
theorem cw.mine   (h:cR Hs H) (n:H p=none):cw H Hs (upd H p o) Hs:=by
 refine ⟨i3 n,.refl _,fun b u e=>?_,fun a u e t z=>z⟩;have e':=h b u e;rw [aL (aS e' n)];exact e'
inductive kS (K:a6) (Hs:Hp):HO->D->Prop
 |lst {vs:List V}{ds:List D}:RDs K Hs vs ds->kS K Hs (.lst vs) (.list ds)
 |dK {kvs:List (fz×V)}{ds:List (D×D)}:RDk K Hs kvs ds->kS K Hs (.dK kvs) (.dict ds)
 |dT {kvs:List (List fz×V)}{ds:List (D×D)}:kvs≠[]->RDt K Hs kvs ds->kS K Hs (.dT kvs) (.dict ds)
 |dF {o:Obj}{kvs:List (List fz×V)}{ds:List (D×D)}:kvs≠[]->RDt K Hs kvs ds->kS K Hs (.frz o (.dT kvs)) (.dict ((.none,.none)::ds))
theorem kS.same    (e:cR Hs Hs') (h:kS K Hs o d):kS K Hs' o d:=by
 cases h with
 |lst r=>exact .lst (r.same e)
 |dK r=>exact .dK (r.same e)
 |dT n r=>exact .dT n (r.same e)
 |dF n r=>exact .dF n (r.same e)
theorem kS.nt    (h:kS K Hs o d):J.nt o=true:=by cases h<;>rfl
theorem kS.share     (n:Hs a=none) (h:kS K Hs o d):RD K (upd Hs a o) (.ref a) d:=by
 have e:cR Hs (upd Hs a o):=i3 n;cases h with
 |lst r=>exact .list (.of aK) (r.same e)
 |dK r=>exact .dictK aK (r.same e)
 |dT n r=>exact .dictT aK n (r.same e)
 |dF n r=>exact .dictF aK n (r.same e)
inductive Sl where
 |no
 |shr (d:D)
 |own (d:D)
 |lck (d:D)
 |ow2 (dss:List (List D))
abbrev ap:=List Sl
inductive xJ (K:a6) (H Hs:Hp):List ac->List (List D)->Prop
 |nil:xJ K H Hs [] []
 |cons {a:ac}{as:List ac}{vs:List V}{ds:List D}{dss:List (List D)}:H a=some (.lst vs)->RDs K Hs vs ds->xJ K H Hs as dss->xJ K H Hs (a::as) (ds::dss)
theorem xJ.step  (e:cR H H') (e':cR Hs Hs')  (h:xJ K H Hs as dss):xJ K H' Hs' as dss:=by
 induction h with
 |nil=>exact .nil
 |cons h r t ih=>exact .cons (e _ _ h) (r.same e') ih
theorem xJ.upd      (n:b∉as) (h:xJ K H Hs as dss):xJ K (upd H b o) Hs as dss:=by
 induction h with
 |nil=>exact .nil
 |cons h r t ih=>exact .cons (by rw [aL (fun z=>n (by rw [<- z];exact aw))];exact h) r (ih fun z=>n (ao _ z))
theorem xJ.there     (h:xJ K H Hs as dss) (hb:b∈as):∃ o,H b=some o/\nt o=true:=by
 induction h with
 |nil=>cases hb
 |cons h r t ih =>
  rcases List.mem_cons.mp hb with e|hb
  ·exact ⟨_,e ▸ h,rfl⟩
  ·exact ih hb
structure O2 (K:a6) (H0 H Hs:Hp) (ρ:ap) (σ:St) (i:Nat) (dss:List (List D)) (a:ac) (as:List ac):Prop where
 at_:σ[i]?=some (some (V.ref a))
 ob:H a=some (.lst (as.map V.ref))
 nd:(a::as).Nodup
 out:∀ b∈a::as,Hs b=none/\H0 b=none
 dj:∀ b∈a::as,∀ (j:Nat) (e:D),ρ[j]?=some (Sl.own e)->σ[j]?≠some (some (V.ref b))
 inn:xJ K H Hs as dss
structure Fr (K:a6) (H0 Hs0:Hp) (la:Nat->Option ac) (ρ:ap) (σ:St) (H Hs:Hp):Prop where
 st:cw H0 Hs0 H Hs
 len:ρ.length=σ.length
 sh:∀ (i:Nat) (d:D),ρ[i]?=some (Sl.shr d)->∃ v,σ[i]?=some (some v)/\RD K Hs v d
 ow:∀ (i:Nat) (d:D),ρ[i]?=some (Sl.own d)->∃ a o,σ[i]?=some (some (V.ref a))/\H a=some o/\Hs a=none/\H0 a=none/\kS K Hs o d
 lk:∀ (i:Nat) (d:D),ρ[i]?=some (Sl.lck d)->∃ a o,σ[i]?=some (some (V.ref a))/\la i=some a/\H a=some o/\Hs a=none/\H0 a=some o/\kS K Hs o d
 dj:∀ (i j:Nat) (d e:D) (a:ac),ρ[i]?=some (Sl.own d)->ρ[j]?=some (Sl.own e)->σ[i]?=some (some (V.ref a))->σ[j]?=some (some (V.ref a))->i=j
 lh:∀ (i:Nat) (a:ac),la i=some a->∃ o,H0 a=some o
 o2:∀ (i:Nat) (dss:List (List D)),ρ[i]?=some (Sl.ow2 dss)->∃ a as,O2 K H0 H Hs ρ σ i dss a as
 u2:∀ (i j:Nat) (d e:List (List D)),ρ[i]?=some (Sl.ow2 d)->ρ[j]?=some (Sl.ow2 e)->i=j
theorem Fr.step     (f:Fr K H0 Hs0 la ρ σ H Hs) (s:cw H Hs H' Hs'):Fr K H0 Hs0 la ρ σ H' Hs':=by
 refine ⟨f.st.trans s,f.len,fun i d e=>?_,fun i d e=>?_,fun i d e=>?_,f.dj,f.lh,fun i dss e=>?_,f.u2⟩
 ·obtain ⟨v,h1,h2⟩:=f.sh i d e;exact ⟨v,h1,h2.same s.sh⟩
 ·obtain ⟨a,o,h1,h2,h3,h4,h5⟩:=f.ow i d e;exact ⟨a,o,h1,s.all _ _ h2,s.out _ _ h2 h5.nt h3,h4,h5.same s.sh⟩
 ·obtain ⟨a,o,h1,h2,h3,h4,h5,h6⟩:=f.lk i d e;exact ⟨a,o,h1,h2,s.all _ _ h3,s.out _ _ h3 h6.nt h4,h5,h6.same s.sh⟩
 ·obtain ⟨a,as,h⟩:=f.o2 i dss e;refine ⟨a,as,h.at_,s.all _ _ h.ob,h.nd,fun b hb=>⟨?_,(h.out b hb).2⟩,h.dj,h.inn.step s.all s.sh⟩;have there:∃ o,H b=some o/\nt o=true:=by
   rcases List.mem_cons.mp hb with rfl|hb
   ·exact ⟨_,h.ob,rfl⟩
   ·exact h.inn.there hb
  obtain ⟨o,ho,hn⟩:=there;exact s.out b o ho hn (h.out b (by assumption)).1
inductive P_ (K:a6) (H Hs:Hp) (v:V) (d:D):Prop
 |mk (a:ac) (o:HO) (h0:v=.ref a) (h1:H a=some o) (h2:Hs a=none) (h3:kS K Hs o d):P_ K H Hs v d
def RB (K:a6) (H Hs:Hp) (v:V) (d:D):Prop:=RD K Hs v d\/P_ K H Hs v d
theorem RB.step    (h:RB K H Hs v d) (s:cw H Hs H' Hs'):RB K H' Hs' v d:=by
 rcases h with h|⟨a,o,h1,h2,h3,h4⟩
 ·exact .inl (h.same s.sh)
 ·exact .inr ⟨a,o,h1,s.all _ _ h2,s.out _ _ h2 h4.nt h3,h4.same s.sh⟩
theorem RB.full    (sub:cR Hs H) (h:RB K H Hs v d):RD K H v d:=by
 rcases h with h|⟨a,o,rfl,h2,h3,h4⟩
 ·exact h.same sub
 ·have e:cR (upd Hs a o) H:=fun b u q=>by
   by_cases hb:b=a
   ·subst hb;rw [aK] at q;cases q;exact h2
   ·rw [aL hb] at q;exact sub b u q
  exact (h4.share h3).same e
theorem RB.list    (sub:cR Hs H) (h:RB K H Hs v (.list ds)):∃ a vs,v=.ref a/\jI K H a vs/\RDs K Hs vs ds:=by
 rcases h with h|⟨a,o,rfl,h2,h3,h4⟩
 ·cases h with|list q r=>exact ⟨_,_,rfl,sub.seq q,r⟩
 ·cases h4 with|lst r=>exact ⟨a,_,rfl,.of h2,r⟩
theorem RB.tuple    (sub:cR Hs H) (h:RB K H Hs v (.tuple ds)):∃ a vs,v=.ref a/\ic K H a vs/\RDs K Hs vs ds/\Hs a=some (.tup vs):=by
 rcases h with h|⟨a,o,rfl,h2,h3,h4⟩
 ·cases h with|tuple q r=>exact ⟨_,_,rfl,.of (sub _ _ q),r,q⟩
 ·cases h4
theorem RB.str    (h:RB K H Hs v (.str x)):v=.str x:=by
 rcases h with h|⟨a,o,rfl,h2,h3,h4⟩
 ·exact h.str_inv
 ·cases h4
theorem RB.int    (h:RB K H Hs v (.int i)):v=.int i:=by
 rcases h with h|⟨a,o,rfl,h2,h3,h4⟩
 ·exact h.int_inv
 ·cases h4
def XW (K:a6) (cls:Str->ac) (E:XK) (c:Str) (n:Option D) (H Hs:Hp):Prop:=match n with
 |none=>E (.ref (cls c)) none H
 |some d=>∀ dx v,H dx=some (.xd [("number",v)])->RD K Hs v d->E (.ref (cls c)) (some dx) H
def Fin {α:Type} (K:a6) (cls:Str->ac) (E:XK) (H Hs:Hp) (r:R α) (q:α->Prop):Prop:=match r with
 |.ok d=>q d
 |.ex c n=>∀ H' Hs',cw H Hs H' Hs'->XW K cls E c n H' Hs'
 |.no=>False
inductive SE (K:a6) (cls:Str->ac) (E:XK) (ρ:ap) (r:R D) (σ:St) (H:Hp) (Q:VK):Prop
 |mk (H0 Hs0:Hp) (la:Nat->Option ac) (Hs:Hp) (f:Fr K H0 Hs0 la ρ σ H Hs) (q:Fin K cls E H Hs r fun d=>∀ v H' Hs',cw H Hs H' Hs'->RD K Hs' v d->Q v H'):SE K cls E ρ r σ H Q
def TR (K:a6) (cls:Str->ac) (E:XK) (ρ:ap) (r:R D):TE:=SE K cls E ρ r
inductive SF (K:a6) (cls:Str->ac) (E:XK) (ρ:ap) (r:R D) (σ:St) (H:Hp) (Q:VK):Prop
 |mk (H0 Hs0:Hp) (la:Nat->Option ac) (Hs:Hp) (f:Fr K H0 Hs0 la ρ σ H Hs) (q:Fin K cls E H Hs r fun d=>∀ v H' Hs',cw H Hs H' Hs'->RB K H' Hs' v d->Q v H'):SF K cls E ρ r σ H Q
def TB (K:a6) (cls:Str->ac) (E:XK) (ρ:ap) (r:R D):TE:=SF K cls E ρ r
inductive Q0 (K:a6) (cls:Str->ac) (E:XK) (ρ:ap) (r:R Bool) (σ:St) (H:Hp) (Q:Bool->Hp->Prop):Prop
 |mk (H0 Hs0:Hp) (la:Nat->Option ac) (Hs:Hp) (f:Fr K H0 Hs0 la ρ σ H Hs) (q:Fin K cls E H Hs r fun b=>∀ H' Hs',cw H Hs H' Hs'->Q b H'):Q0 K cls E ρ r σ H Q
def G7 (K:a6) (cls:Str->ac) (E:XK) (ρ:ap) (r:R Bool):TT:=Q0 K cls E ρ r
inductive MG (K:a6) (H Hs:Hp):List V->List D->Prop
 |nil:MG K H Hs [] []
 |cons {x:V}{xs:List V}{d:D}{ds:List D}:RB K H Hs x d->MG K H Hs xs ds->MG K H Hs (x::xs) (d::ds)
inductive Q1 (K:a6) (cls:Str->ac) (E:XK) (ρ:ap) (r:R (List D)) (σ:St) (H:Hp) (Q:List V->Hp->Prop):Prop
 |mk (H0 Hs0:Hp) (la:Nat->Option ac) (Hs:Hp) (f:Fr K H0 Hs0 la ρ σ H Hs) (q:Fin K cls E H Hs r fun d=>∀ v H' Hs',cw H Hs H' Hs'->RDs K Hs' v d->Q v H'):Q1 K cls E ρ r σ H Q
def Rm (K:a6) (cls:Str->ac) (E:XK) (ρ:ap) (r:R (List D)):TA:=Q1 K cls E ρ r
inductive Q2 (K:a6) (cls:Str->ac) (E:XK) (ρ:ap) (r:R (List D)) (σ:St) (H:Hp) (Q:List V->Hp->Prop):Prop
 |mk (H0 Hs0:Hp) (la:Nat->Option ac) (Hs:Hp) (f:Fr K H0 Hs0 la ρ σ H Hs) (q:Fin K cls E H Hs r fun d=>∀ v H' Hs',cw H Hs H' Hs'->MG K H' Hs' v d->Q v H'):Q2 K cls E ρ r σ H Q
def Rn (K:a6) (cls:Str->ac) (E:XK) (ρ:ap) (r:R (List D)):TA:=Q2 K cls E ρ r
structure C where
 X:Cx
 cls:Str->ac
 E:XK
structure JE (c:C) (e:aP) (g:ap->R D):Prop where of ::
 run:∀ ρ,PE c.X e (TR c.X.K c.cls c.E ρ (g ρ))
instance {c:C}{e:aP}{g:ap->R D}:CoeFun (JE c e g) (fun _=>∀ ρ,PE c.X e (TR c.X.K c.cls c.E ρ (g ρ))):=⟨JE.run⟩
structure JB (c:C) (e:aP) (g:ap->R D):Prop where of ::
 run:∀ ρ,PE c.X e (TB c.X.K c.cls c.E ρ (g ρ))
instance {c:C}{e:aP}{g:ap->R D}:CoeFun (JB c e g) (fun _=>∀ ρ,PE c.X e (TB c.X.K c.cls c.E ρ (g ρ))):=⟨JB.run⟩
structure JT (c:C) (e:aP) (g:ap->R Bool):Prop where of ::
 run:∀ ρ,PT c.X e (G7 c.X.K c.cls c.E ρ (g ρ))
instance {c:C}{e:aP}{g:ap->R Bool}:CoeFun (JT c e g) (fun _=>∀ ρ,PT c.X e (G7 c.X.K c.cls c.E ρ (g ρ))):=⟨JT.run⟩
structure JW (c:C) (e:aP) (g:ap->R Bool):Prop where of ::
 run:∀ ρ,PW c.X e (G7 c.X.K c.cls c.E ρ (g ρ))
instance {c:C}{e:aP}{g:ap->R Bool}:CoeFun (JW c e g) (fun _=>∀ ρ,PW c.X e (G7 c.X.K c.cls c.E ρ (g ρ))):=⟨JW.run⟩
structure Dt (c:C) (es:List aP) (g:ap->R (List D)):Prop where of ::
 run:∀ ρ,PA c.X es (Rm c.X.K c.cls c.E ρ (g ρ))
instance {c:C}{es:List aP}{g:ap->R (List D)}:CoeFun (Dt c es g) (fun _=>∀ ρ,PA c.X es (Rm c.X.K c.cls c.E ρ (g ρ))):=⟨Dt.run⟩
structure MH (c:C) (es:List aP) (g:ap->R (List D)):Prop where of ::
 run:∀ ρ,PA c.X es (Rn c.X.K c.cls c.E ρ (g ρ))
instance {c:C}{es:List aP}{g:ap->R (List D)}:CoeFun (MH c es g) (fun _=>∀ ρ,PA c.X es (Rn c.X.K c.cls c.E ρ (g ρ))):=⟨MH.run⟩
section
theorem pW   (h:PE X e t) (m:∀ σ H Q,t' σ H Q->t σ H Q):PE X e t':=fun pins s σ H Q I q=>h pins s σ H Q I (m σ H Q q)
theorem Q3   (h:PT X e t) (m:∀ σ H Q,t' σ H Q->t σ H Q):PT X e t':=fun pins s σ H Q I q=>h pins s σ H Q I (m σ H Q q)
theorem SG   (h:PW X e t) (m:∀ σ H Q,t' σ H Q->t σ H Q):PW X e t':=fun wh pins s σ H Q I q=>h wh pins s σ H Q I (m σ H Q q)
theorem Ro {X:Cx}{e:List aP}{t t':TA} (h:PA X e t) (m:∀ σ H Q,t' σ H Q->t σ H Q):PA X e t':=fun pos pins s σ H Q I q=>h pos pins s σ H Q I (m σ H Q q)
theorem zO {X:Cx}{e:du}{t t':TS} (h:PS X e t) (m:∀ D σ H,t' D σ H->t D σ H):PS X e t':=fun pins s σ H Q I q=>h pins s σ H Q I (m Q σ H q)
theorem Se {X:Cx}{e:List du}{t t':TS} (h:zN X e t) (m:∀ D σ H,t' D σ H->t D σ H):zN X e t':=fun pins s σ H Q I q=>h pins s σ H Q I (m Q σ H q)
theorem JE.bor (h:JE c e g):JB c e g:=.of fun ρ=>pW (h ρ) fun σ H Q ⟨H0,Hs0,la,Hs,f,q⟩=>⟨H0,Hs0,la,Hs,f,by
 cases hr:g ρ with
 |ok d=>rw [hr] at q;exact fun v H' Hs' s r=>q v H' Hs' s (.inl r)
 |ex c n=>rw [hr] at q;exact q
 |no=>rw [hr] at q;exact q⟩
theorem one {K:a6}{cls:Str->ac}{E:XK}{ρ:ap}{r:R D}{β:Type}{k:D->R β}{σ:St}{H:Hp}{H0 Hs0 Hs:Hp}{la:Nat->Option ac}{Q:V->Hp->Prop}{q:β->Prop} (f:Fr K H0 Hs0 la ρ σ H Hs)
  (h:Fin K cls E H Hs (r.bind k) q) (m:∀ d v H' Hs',r=.ok d->cw H Hs H' Hs'->Fr K H0 Hs0 la ρ σ H' Hs'->RB K H' Hs' v d->Q v H'):TB K cls E ρ r σ H Q:=by
 refine ⟨H0,Hs0,la,Hs,f,?_⟩;cases r with
 |ok d=>exact fun v H' Hs' s r=>m d v H' Hs' rfl s (f.step s) r
 |ex c n=>exact h
 |no=>exact h
theorem uu {K:a6}{cls:Str->ac}{E:XK}{ρ:ap}{r:R D}{β:Type}{k:D->R β}{σ:St}{H:Hp}{H0 Hs0 Hs:Hp}{la:Nat->Option ac}{Q:V->Hp->Prop}{q:β->Prop} (f:Fr K H0 Hs0 la ρ σ H Hs)
  (h:Fin K cls E H Hs (r.bind k) q) (m:∀ d v H' Hs',r=.ok d->cw H Hs H' Hs'->Fr K H0 Hs0 la ρ σ H' Hs'->RD K Hs' v d->Q v H'):TR K cls E ρ r σ H Q:=by
 refine ⟨H0,Hs0,la,Hs,f,?_⟩;cases r with
 |ok d=>exact fun v H' Hs' s r=>m d v H' Hs' rfl s (f.step s) r
 |ex c n=>exact h
 |no=>exact h
theorem E_ {K:a6}{cls:Str->ac}{E:XK}{ρ:ap}{r:R Bool}{β:Type}{k:Bool->R β}{σ:St}{H:Hp}{H0 Hs0 Hs:Hp}{la:Nat->Option ac}{Q:Bool->Hp->Prop}{q:β->Prop} (f:Fr K H0 Hs0 la ρ σ H Hs)
  (h:Fin K cls E H Hs (r.bind k) q) (m:∀ d H' Hs',r=.ok d->cw H Hs H' Hs'->Fr K H0 Hs0 la ρ σ H' Hs'->Q d H'):G7 K cls E ρ r σ H Q:=by
 refine ⟨H0,Hs0,la,Hs,f,?_⟩;cases r with
 |ok d=>exact fun H' Hs' s=>m d H' Hs' rfl s (f.step s)
 |ex c n=>exact h
 |no=>exact h
theorem Aj {K:a6}{cls:Str->ac}{E:XK}{ρ:ap}{r:R (List D)}{β:Type}{k:List D->R β}{σ:St}{H:Hp}{H0 Hs0 Hs:Hp}{la:Nat->Option ac}{Q:List V->Hp->Prop}{q:β->Prop} (f:Fr K H0 Hs0 la ρ σ H Hs)
  (h:Fin K cls E H Hs (r.bind k) q) (m:∀ d v H' Hs',r=.ok d->cw H Hs H' Hs'->Fr K H0 Hs0 la ρ σ H' Hs'->RDs K Hs' v d->Q v H'):Rm K cls E ρ r σ H Q:=by
 refine ⟨H0,Hs0,la,Hs,f,?_⟩;cases r with
 |ok d=>exact fun v H' Hs' s r=>m d v H' Hs' rfl s (f.step s) r
 |ex c n=>exact h
 |no=>exact h
theorem HD {K:a6}{cls:Str->ac}{E:XK}{ρ:ap}{r:R (List D)}{β:Type}{k:List D->R β}{σ:St}{H:Hp}{H0 Hs0 Hs:Hp}{la:Nat->Option ac}{Q:List V->Hp->Prop}{q:β->Prop} (f:Fr K H0 Hs0 la ρ σ H Hs)
  (h:Fin K cls E H Hs (r.bind k) q) (m:∀ d v H' Hs',r=.ok d->cw H Hs H' Hs'->Fr K H0 Hs0 la ρ σ H' Hs'->MG K H' Hs' v d->Q v H'):Rn K cls E ρ r σ H Q:=by
 refine ⟨H0,Hs0,la,Hs,f,?_⟩;cases r with
 |ok d=>exact fun v H' Hs' s r=>m d v H' Hs' rfl s (f.step s) r
 |ex c n=>exact h
 |no=>exact h
theorem Fin.on {α:Type}{K:a6}{cls:Str->ac}{E:XK}{H Hs H' Hs':Hp}{r:R α}{q q':α->Prop} (h:Fin K cls E H Hs r q) (s:cw H Hs H' Hs') (m:∀ a,q a->q' a):Fin K cls E H' Hs' r q':=by
 cases r with
 |ok a=>exact m a h
 |ex c n=>exact fun H2 Hs2 s2=>h H2 Hs2 (s.trans s2)
 |no=>exact h
end
end
section
def yH (ρ:ap) (i:Nat):R D:=match ρ[i]? with
 |some (Sl.shr d)=>.ok d
 |_=>.no
def zP (ρ:ap) (i:Nat):R D:=match ρ[i]? with
 |some (Sl.shr d)=>.ok d
 |some (Sl.own d)=>.ok d
 |some (Sl.lck d)=>.ok d
 |_=>.no
section
variable {c:C}{e a b:aP}{g ga gb:ap->R D}{pos:Pos}
theorem ar (i:Nat) (hN:c.X.N[i]?=some x:=by rfl) (hv:Kp c.X.env.scope x:=by first|exact fF rfl|exact dX (fF rfl)|exact dX (dX rfl)) (hd:(x==("__debug__" : Str))=false:=by decide)
  (hcd:(x==("__classdict__" : Str))=false:=by decide):JE c (.Name x pos) (fun ρ=>yH ρ i):=.of fun ρ=>pW (o9 hN hv hd hcd) fun σ H Q h_0=>by
 obtain ⟨H0,Hs0,la,Hs,f,q⟩:=h_0;cases hr:ρ[i]? with
 |none=>simp only [yH,hr] at q;exact q.elim
 |some s =>
  cases s with
  |shr d =>
   obtain ⟨v,h1,h2⟩:=f.sh i d hr;simp only [yH,hr] at q;exact ⟨v,h1,q v H Hs (.refl f.st.sub) h2⟩
  |no=>simp only [yH,hr] at q;exact q.elim
  |own d=>simp only [yH,hr] at q;exact q.elim
  |lck d=>simp only [yH,hr] at q;exact q.elim
  |ow2 d=>simp only [yH,hr] at q;exact q.elim
theorem ai (i:Nat) (hN:c.X.N[i]?=some x:=by rfl) (hv:Kp c.X.env.scope x:=by first|exact fF rfl|exact dX (fF rfl)|exact dX (dX rfl)) (hd:(x==("__debug__" : Str))=false:=by decide)
  (hcd:(x==("__classdict__" : Str))=false:=by decide):JB c (.Name x pos) (fun ρ=>zP ρ i):=.of fun ρ=>pW (o9 hN hv hd hcd) fun σ H Q h_1=>by
 obtain ⟨H0,Hs0,la,Hs,f,q⟩:=h_1;cases hr:ρ[i]? with
 |none=>simp only [zP,hr] at q;exact q.elim
 |some s =>
  cases s with
  |shr d =>
   obtain ⟨v,h1,h2⟩:=f.sh i d hr;simp only [zP,hr] at q;exact ⟨v,h1,q v H Hs (.refl f.st.sub) (.inl h2)⟩
  |no=>simp only [zP,hr] at q;exact q.elim
  |own d =>
   obtain ⟨a,o,h1,h2,h3,h4,h5⟩:=f.ow i d hr;simp only [zP,hr] at q;exact ⟨_,h1,q _ H Hs (.refl f.st.sub) (.inr ⟨a,o,rfl,h2,h3,h5⟩)⟩
  |lck d =>
   obtain ⟨a,o,h1,h2,h3,h4,h5,h6⟩:=f.lk i d hr;simp only [zP,hr] at q;exact ⟨_,h1,q _ H Hs (.refl f.st.sub) (.inr ⟨a,o,rfl,h3,h4,h6⟩)⟩
  |ow2 d=>simp only [zP,hr] at q;exact q.elim
theorem m6  (h:PE c.X e (tC v)) (r:∀ Hs,RD c.X.K Hs v d):JE c e (fun _=>.ok d):=.of fun ρ=>pW h fun σ H Q h_2=>by obtain ⟨H0,Hs0,la,Hs,f,q⟩:=h_2;exact q v H Hs (.refl f.st.sub) (r Hs)
theorem aJ  : JE c (.Constant (.int i) j pos) (fun _=>.ok (.int i)):=m6 Gu fun _=>.int i
theorem ou  : JE c (.Constant (.bool i) j pos) (fun _=>.ok (.bool i)):=m6 Gv fun _=>.bool i
theorem Os:JE c (.Constant .none j pos) (fun _=>.ok .none):=m6 NM fun _=>.none
theorem eB  : JE c (.Constant (.str i) j pos) (fun _=>.ok (.str i)):=m6 BH fun _=>.str i
theorem rH  (hg:Gl c.X x) (hm:∃ t,c.X.mg x=some (.int i t)) (hd:(x==("__debug__" : Str))=false:=by decide):JE c (.Name x pos) (fun _=>.ok (.int i)):=by
 obtain ⟨t,hm⟩:=hm;exact m6 (r9 hg hm (v:=.int i) ⟨t,rfl⟩ hd) fun _=>.int i
inductive SH (K:a6) (h:D->D->R D) (x:V) (y:V) (H:Hp) (Q:VK):Prop
 |mk (Hs dx dy:_) (h0:cR Hs H) (h1:RB K H Hs x dx) (h2:RB K H Hs y dy) (h3:∃ d,h dx dy=.ok d/\∀ v H' Hs',cw H Hs H' Hs'->RD K Hs' v d->Q v H'):SH K h x y H Q
def rD (K:a6) (h:D->D->R D):R2:=SH K h
def vq (X:Cx) (f:a8->a8->Sem a8) (h:D->D->R D):Prop:=oZ X f (rD X.K h)/\∀ x y c n,h x y≠.ex c n
def g2 (ga gb:ap->R D) (h:D->D->R D):ap->R D:=fun ρ=>(ga ρ).bind fun x=>(gb ρ).bind fun y=>h x y
theorem two        (hx:∀ x y c n,h x y≠.ex c n) (q:TR K cls E ρ (g2 ga gb h ρ) σ H Q):Pl (rD K h) (TB K cls E ρ (ga ρ)) (TB K cls E ρ (gb ρ)) σ H Q:=by
 obtain ⟨H0,Hs0,la,Hs,f,q⟩:=q;refine one f q fun x v H1 Hs1 e1 s1 f1 r1=>?_;unfold g2 at q;rw [e1,bind_ok] at q;refine one f1 (q.on s1 (q':=fun _=>True) fun _ _=>trivial) fun y u H2 Hs2 e2 s2 f2 r2=>?_;rw [e2,bind_ok] at q;cases hr:h x y with
 |ok d =>
  rw [hr] at q;exact ⟨Hs2,x,y,f2.st.sub,r1.step s2,r2,d,hr,fun w H3 Hs3 s3 r3=>q w H3 Hs3 (s1.trans (s2.trans s3)) r3⟩
 |ex c n=>exact (hx x y c n hr).elim
 |no=>rw [hr] at q;exact q.elim
theorem br  (ho:vq c.X (fc op) h) (ha:JB c a ga) (hb:JB c b gb):JE c (.BinOp a op b pos) (g2 ga gb h):=.of fun ρ=>pW (Pn ho.1 (ha ρ) (hb ρ)) fun σ H Q q=>two ho.2 q
theorem s_  (ho:vq c.X (bG op) h) (ha:JB c a ga) (hb:JB c b gb) (hm:fm op b=false:=by first|exact BO _|rfl):JE c (.Compare a [op] [b] pos) (g2 ga gb h):=.of fun ρ=>pW (Kw ho.1 (ha ρ) (hb ρ) hm) fun σ H Q q=>two ho.2 q
def iU (g:ap->R D):ap->R Bool:=fun ρ=>(g ρ).bind fun d=>match d with
 |.bool b=>.ok b
 |_=>.no
theorem Q4       (q:G7 K cls E ρ (iU g ρ) σ H Q):TR K cls E ρ (g ρ) σ H fun x H'=>∃ k,x=.bl k/\Q k H':=by
 obtain ⟨H0,Hs0,la,Hs,f,q⟩:=q;refine uu f q fun d v H1 Hs1 e1 s1 f1 r1=>?_;unfold iU at q;rw [e1,bind_ok] at q;cases r1 with
 |bool b=>exact ⟨b,rfl,q H1 Hs1 s1⟩
 |_=>exact q.elim
theorem fO  (ho:vq c.X (bG op) h) (ha:JB c a ga) (hb:JB c b gb) (hm:fm op b=false:=by first|exact BO _|rfl):JT c (.Compare a [op] [b] pos) (iU (g2 ga gb h)):=.of fun ρ=>Q3 (D9 ho.1 (ha ρ) (hb ρ) hm) fun σ H Q q=>two ho.2 (Q4 q)
theorem gZ (h:JE c e g) (he:∀ whole,uO e c.X.env whole=(do let v <- whole;tM e.pos;Gf [v] (truthy v)):=by intro _;rfl):JT c e (iU g):=.of fun ρ=>Q3 (Gx (h ρ) he) fun σ H Q q=>Q4 q
def mF (g:ap->R Bool):ap->R Bool:=fun ρ=>(g ρ).bind fun b=>.ok (!b)
def C8 (g h:ap->R Bool):ap->R Bool:=fun ρ=>(g ρ).bind fun b=>if b then h ρ else .ok false
def G8 (g h:ap->R Bool):ap->R Bool:=fun ρ=>(g ρ).bind fun b=>if b then .ok true else h ρ
variable {gt gu:ap->R Bool}{bE:List aP}
theorem g_ (h:JT c e gt):JT c (.UnaryOp .Not e pos) (mF gt):=.of fun ρ=>Q3 (Gz (h ρ)) fun σ H Q q=>by
 obtain ⟨H0,Hs0,la,Hs,f,q⟩:=q;refine E_ f q fun d H1 Hs1 e1 s1 f1=>?_;unfold mF at q;rw [e1,bind_ok] at q;exact q H1 Hs1 s1
theorem yI (h:JT c a gt):JW c (.BoolOp .And [a] pos) gt:=.of fun ρ=>Kq (h ρ)
theorem mG (h:JT c a gt):JW c (.BoolOp .Or [a] pos) gt:=.of fun ρ=>Gy (h ρ)
theorem C9 (h:JT c a gt) (h2:JW c (.BoolOp .And (b::bE) pos) gu):JW c (.BoolOp .And (a::b::bE) pos) (C8 gt gu):=.of fun ρ=>SG (NN (h ρ) (h2 ρ)) fun σ H Q q=>by
 obtain ⟨H0,Hs0,la,Hs,f,q⟩:=q;refine E_ f q fun d H1 Hs1 e1 s1 f1=>?_;unfold C8 at q;rw [e1,bind_ok] at q;cases d with
 |true=>exact A3 ⟨H0,Hs0,la,Hs1,f1,q.on s1 fun b k H2 Hs2 s2=>k H2 Hs2 (s1.trans s2)⟩
 |false=>exact wK (q H1 Hs1 s1)
theorem rJ (h:JT c a gt) (h2:JW c (.BoolOp .Or (b::bE) pos) gu):JW c (.BoolOp .Or (a::b::bE) pos) (G8 gt gu):=.of fun ρ=>SG (Mp (h ρ) (h2 ρ)) fun σ H Q q=>by
 obtain ⟨H0,Hs0,la,Hs,f,q⟩:=q;refine E_ f q fun d H1 Hs1 e1 s1 f1=>?_;unfold G8 at q;rw [e1,bind_ok] at q;cases d with
 |false=>exact wK ⟨H0,Hs0,la,Hs1,f1,q.on s1 fun b k H2 Hs2 s2=>k H2 Hs2 (s1.trans s2)⟩
 |true=>exact A3 (q H1 Hs1 s1)
theorem JW.t (h:JW c e gt):JT c e gt:=.of fun ρ=>(h ρ).pt
def Du (g:ap->R D):ap->R D:=fun ρ=>(iU g ρ).bind fun b=>.ok (.bool (!b))
theorem Ot (h:JE c e g):JE c (.UnaryOp .Not e pos) (Du g):=.of fun ρ=>pW (NR (h ρ)) fun σ H Q q=>by
 refine Q4 ?_;obtain ⟨H0,Hs0,la,Hs,f,q⟩:=q;refine E_ f q fun d H1 Hs1 e1 s1 f1=>?_;unfold Du at q;rw [e1,bind_ok] at q;exact q _ H1 Hs1 s1 (.bool _)
def tY (g h:ap->R D):ap->R D:=fun ρ=>(iU g ρ).bind fun b=>if b then h ρ else .ok (.bool false)
theorem Ca (h:JE c a g):JE c (.BoolOp op [a] pos) g:=.of fun ρ=>NO (h ρ)
theorem Cb (h:JE c a ga) (h2:JE c (.BoolOp .And (b::bE) pos) gb):JE c (.BoolOp .And (a::b::bE) pos) (tY ga gb):=.of fun ρ=>pW (NQ (h ρ) (h2 ρ)) fun σ H Q q=>by
 refine Q4 ?_;obtain ⟨H0,Hs0,la,Hs,f,q⟩:=q;refine E_ f q fun d H1 Hs1 e1 s1 f1=>?_;unfold tY at q;rw [e1,bind_ok] at q;cases d with
 |true=>exact A3 ⟨H0,Hs0,la,Hs1,f1,q.on s1 fun b k v H2 Hs2 s2 r2=>k v H2 Hs2 (s1.trans s2) r2⟩
 |false=>exact wK (q _ H1 Hs1 s1 (.bool _))
def Rp (t:ap->R Bool) (g h:ap->R D):ap->R D:=fun ρ=>(t ρ).bind fun b=>if b then g ρ else h ρ
theorem Q5 (ht:JT c t gt) (ha:JE c a ga) (hb:JE c b gb):JE c (.IfExp t a b pos) (Rp gt ga gb):=.of fun ρ=>pW (GA (ht ρ) (ha ρ) (hb ρ)) fun σ H Q q=>by
 obtain ⟨H0,Hs0,la,Hs,f,q⟩:=q;refine E_ f q fun d H1 Hs1 e1 s1 f1=>?_;unfold Rp at q;rw [e1,bind_ok] at q;cases d with
 |true=>exact A3 ⟨H0,Hs0,la,Hs1,f1,q.on s1 fun b k v H2 Hs2 s2 r2=>k v H2 Hs2 (s1.trans s2) r2⟩
 |false=>exact wK ⟨H0,Hs0,la,Hs1,f1,q.on s1 fun b k v H2 Hs2 s2 r2=>k v H2 Hs2 (s1.trans s2) r2⟩
def oy (ga gb gc:ap->R D) (h h':D->D->R D):ap->R D:=fun ρ=>(ga ρ).bind fun x=>(gb ρ).bind fun y=>(h x y).bind fun z=>match z with
 |.bool true=>(gc ρ).bind fun w=>h' y w
 |.bool false=>.ok (.bool false)
 |_=>.no
def af (g:ap->R D) (gs:ap->R (List D)):ap->R (List D):=fun ρ=>(g ρ).bind fun d=>(gs ρ).bind fun ds=>.ok (d::ds)
def aV:ap->R (List D):=fun _=>.ok []
theorem aT:Dt c [] aV:=.of fun ρ=>Ro dS fun σ H Q h_3=>by obtain ⟨H0,Hs0,la,Hs,f,q⟩:=h_3;exact q [] H Hs (.refl f.st.sub) .nil
theorem cC:MH c [] aV:=.of fun ρ=>Ro dS fun σ H Q h_4=>by obtain ⟨H0,Hs0,la,Hs,f,q⟩:=h_4;exact q [] H Hs (.refl f.st.sub) .nil
theorem ag (h:JE c e g) (hr:Dt c es gs) (hs:aq (e::es) c.X.env=(false,bU e c.X.env)::aq es c.X.env:=by rfl):Dt c (e::es) (af g gs):=.of fun ρ=>Ro (bI (h ρ) (hr ρ) hs) fun σ H Q h_5=>by
 obtain ⟨H0,Hs0,la,Hs,f,q⟩:=h_5;refine uu f q fun d v H1 Hs1 e1 s1 f1 r1=>?_;unfold af at q;rw [e1,bind_ok] at q;refine Aj f1 (q.on s1 (q':=fun _=>True) fun _ _=>trivial) fun ds vs H2 Hs2 e2 s2 f2 r2=>?_;rw [e2,bind_ok] at q;exact q _ H2 Hs2 (s1.trans s2) (.cons (r1.same s2.sh) r2)
theorem bO (h:JB c e g) (hr:MH c es gs) (hs:aq (e::es) c.X.env=(false,bU e c.X.env)::aq es c.X.env:=by rfl):MH c (e::es) (af g gs):=.of fun ρ=>Ro (bI (h ρ) (hr ρ) hs) fun σ H Q h_6=>by
 obtain ⟨H0,Hs0,la,Hs,f,q⟩:=h_6;refine one f q fun d v H1 Hs1 e1 s1 f1 r1=>?_;unfold af at q;rw [e1,bind_ok] at q;refine HD f1 (q.on s1 (q':=fun _=>True) fun _ _=>trivial) fun ds vs H2 Hs2 e2 s2 f2 r2=>?_;rw [e2,bind_ok] at q;exact q _ H2 Hs2 (s1.trans s2) (.cons (r1.step s2) r2)
def eP (gs:ap->R (List D)) (k:List D->D):ap->R D:=fun ρ=>(gs ρ).bind fun ds=>if ds.length<=1000 then .ok (k ds) else .no
theorem ja {x1} (h:Dt c es gs):JE c (.Tuple es x1 pos) (eP gs .tuple):=.of fun ρ=>pW (GK (h ρ)) fun σ H Q h_7=>by
 obtain ⟨H0,Hs0,la,Hs,f,q⟩:=h_7;refine Aj f q fun ds vs H1 Hs1 e1 s1 f1 r1=>?_;unfold eP at q;rw [e1,bind_ok] at q;by_cases hl:ds.length<=1000
 ·rw [if_pos hl] at q;refine ⟨bw (cq (by rw [r1.length];exact hl)),fun p hp=>q _ _ _ (s1.trans (.new f1.st.sub hp)) (.tuple aK (r1.same (cw.new f1.st.sub hp).sh))⟩
 ·rw [if_neg hl] at q;exact q.elim
theorem lI (h:Dt c es gs):JE c (.List es pos) (eP gs .list):=.of fun ρ=>pW (lF (h ρ)) fun σ H Q h_8=>by
 obtain ⟨H0,Hs0,la,Hs,f,q⟩:=h_8;refine Aj f q fun ds vs H1 Hs1 e1 s1 f1 r1=>?_;unfold eP at q;rw [e1,bind_ok] at q;by_cases hl:ds.length<=1000
 ·rw [if_pos hl] at q;refine ⟨bw (cq (by rw [r1.length];exact hl)),fun p hp=>q _ _ _ (s1.trans (.new f1.st.sub hp)) (.list (.of aK) (r1.same (cw.new f1.st.sub hp).sh))⟩
 ·rw [if_neg hl] at q;exact q.elim
end
end
end J
namespace J
open PySem PySem.Spec PyProof.Rows L2
section
section
def df:D->D->R D
 |.int i,.int j=>.ok (.int (i+j))
 |.str x,.str y=>if x.length+y.length<=1000 then .ok (.str (x++y)) else .no
 |.tuple xs,.tuple ys=>if xs.length+ys.length<=1000 then .ok (.tuple (xs++ys)) else .no
 |.list xs,.list ys=>if xs.length+ys.length<=1000 then .ok (.list (xs++ys)) else .no
 |_,_=>.no
inductive HE (K:a6) (x:V) (y:V) (H:Hp) (Q:VK):Prop
 |mk (l b xs zs:_) (h0:x=.ref l) (h1:y=.ref b) (h2:jI K H l xs) (h3:jI K H b zs) (h4:xs.length+zs.length<=sizeLine) (h5:∀ p,H p=none->Q (.ref p) (upd H p (.lst (xs++zs)))):HE K x y H Q
def Q6 (K:a6):R2:=HE K
theorem Lc:oZ X (fc .Add) (Q6 X.K):=by
 intro pins s σ H x y v u Q I rx ry h;obtain ⟨l,b,xs,zs,rfl,rfl,h1,h2,hz,q⟩:=h;cases rx;cases ry;obtain ⟨its,r,⟨o,n,e,c1,c2,c3⟩,z⟩:=I.list h1;obtain ⟨its2,r2,⟨o2,n2,e2,d1,d2,d3⟩,z2⟩:=I.list h2;obtain ⟨k1,k2,k3,k4⟩:=o;obtain ⟨m1,m2,m3,m4⟩:=o2;simp only at c1 c2 c3 d1 d2 d3;subst c1 c2 c3 d1 d2 d3;refine ww ⟨_,e,rfl⟩ ⟨_,e2,rfl⟩ noFill_list_add seq_list_add PySem.F.slot_list_add PySem.F.entry_list_add (PySem.F.args_list_add_2 _ _) (PyProof.Rows.list_addW l b _ _ n n2 _ _ k4 m4 (by rw [aA,aA,<- r.length,<- r2.length];exact hz)) ⟨e,e2,?_⟩;have ea:its.toArray++its2.toArray=(its++its2).toArray:=by simp
 rw [ea];exact ⟨.ref _,_,I.lnew (t':=s.toks) (r.append r2) (by rw [aI];omega),rfl,q _ I.fresh⟩
inductive HF (K:a6) (x:V) (y:V) (H:Hp) (Q:VK):Prop
 |mk (a b ys:_) (h0:x=.ref a) (h1:y=.ref b) (h2:ic K H a []) (h3:ic K H b ys) (h4:Q (.ref b) H):HF K x y H Q
def Q7 (K:a6):R2:=HF K
theorem Ld:oZ X (fc .Add) (Q7 X.K):=by
 intro pins s σ H x y v u Q I rx ry h;obtain ⟨a,b,ys,rfl,rfl,h1,h2,q⟩:=h;cases rx;cases ry;obtain ⟨its,r,⟨⟨k1,k2,k3,k4⟩,e,c1,n,c3⟩,z⟩:=I.tuple h1;obtain ⟨its2,r2,⟨⟨m1,m2,m3,m4⟩,e2,d1,n2,d3⟩,z2⟩:=I.tuple h2;simp only at c1 c3 d1 d3;subst c1 c3 d1 d3;cases r;exact ww ⟨_,e,rfl⟩ ⟨_,e2,rfl⟩ yh Ek mz lQ (lD _ _)
  (PyProof.Rows.tuple_addW0 a b _ _ n n2 _ _ k4 m4 rfl) ⟨e,e2,⟨.ref b,H,I,rfl,q⟩⟩
theorem cA:vq X (fc .Add) df:=by
 refine ⟨fun pins s σ H x y v u Q I rv ru ⟨Hs,dx,dy,sub,rx,ry,d,hd,q⟩=>?_,fun x y c n=>?_⟩
 ·unfold df at hd;split at hd
  ·cases hd;exact NY pins s σ H x y v u Q I rv ru ⟨_,_,rx.int,ry.int,q _ H Hs (.refl sub) (.int _)⟩
  ·split at hd
   ·rename_i hz
    cases hd;exact v7 pins s σ H x y v u Q I rv ru ⟨_,_,rx.str,ry.str,bw (cq hz),q _ H Hs (.refl sub) (.str _)⟩
   ·cases hd
  ·split at hd
   ·rename_i xs ys hz
    cases hd;obtain ⟨a,vs,rfl,qa,ra,_⟩:=rx.tuple sub;obtain ⟨b,ws,rfl,qb,rb,_⟩:=ry.tuple sub;have hz':vs.length+ws.length<=sizeLine:=by rw [ra.length,rb.length];exact bw (cq hz)
    have big:∀ p,H p=none->Q (.ref p) (upd H p (.tup (vs++ws))):=fun p hp=>q _ _ _ (.new sub hp) (.tuple aK ((ra.append rb).same (cw.new sub hp).sh));cases vs with
    |nil =>
     cases ra;refine Ld pins s σ H _ _ v u Q I rv ru ⟨a,b,ws,rfl,rfl,qa,qb,?_⟩;rcases ry with ry|⟨_,_,_,_,_,ow⟩
     ·exact q _ H Hs (.refl sub) (by simpa using ry)
     ·cases ow
    |cons v0 vr =>
     refine KG pins s σ H _ _ v u Q I rv ru ⟨a,b,_,ws,rfl,rfl,qa,qb,by simp,hz',fun e=>?_,fun _=>big⟩;subst e;cases rb;rcases rx with rx|⟨_,_,_,_,_,ow⟩
     ·exact q _ H Hs (.refl sub) (by simpa using rx)
     ·cases ow
   ·cases hd
  ·split at hd
   ·rename_i xs ys hz
    cases hd;obtain ⟨a,vs,rfl,qa,ra⟩:=rx.list sub;obtain ⟨b,ws,rfl,qb,rb⟩:=ry.list sub;have hz':vs.length+ws.length<=sizeLine:=by rw [ra.length,rb.length];exact bw (cq hz)
    exact Lc pins s σ H _ _ v u Q I rv ru ⟨a,b,vs,ws,rfl,rfl,qa,qb,hz',fun p hp=>q _ _ _ (.new sub hp) (.list (.of aK) ((ra.append rb).same (cw.new sub hp).sh))⟩
   ·cases hd
  ·cases hd
 ·unfold df;split<;>(try split)<;>exact fun h=>by cases h
def Cc (C:Int->Int->Bool) (k:Int->Int->D):D->D->R D
 |.int i,.int j=>if C i j then .ok (k i j) else .no
 |_,_=>.no
theorem Cd {f:a8->a8->Sem a8}{C:Int->Int->Bool}{P:Int->Int->Prop}{k:Int->Int->D}{kv:Int->Int->V} (h:oZ X f (rI P kv)) (hC:∀ i j,C i j=true->P i j) (hk:∀ Hs i j,RD X.K Hs (kv i j) (k i j)):vq X f (Cc C k):=by
 refine ⟨fun pins s σ H x y v u Q I rv ru ⟨Hs,dx,dy,sub,rx,ry,d,hd,q⟩=>?_,fun x y c n=>?_⟩
 ·unfold Cc at hd;split at hd
  ·split at hd
   ·rename_i hc
    cases hd;exact h pins s σ H x y v u Q I rv ru ⟨_,_,rx.int,ry.int,hC _ _ hc,q _ H Hs (.refl sub) (hk _ _ _)⟩
   ·cases hd
  ·cases hd
 ·unfold Cc;split<;>(try split)<;>exact fun h=>by cases h
def xK (i j:Int):Bool:=(decide (-(2 ^ 64)<i)&&decide (i<2 ^ 64))||(decide (-(2 ^ 64)<j)&&decide (j<2 ^ 64))
def uv:=Cc xK fun i j=>.int (i*j)
def F4:=Cc (fun _ j=>decide (0<j)) fun i j=>.int (i % j)
def HG:=Cc (fun _ j=>decide (0<j)&&decide (j<1073741824)) fun i j=>.int (i / j)
theorem oz:vq X (fc .Mult) uv:=Cd NZ (fun i j h=>by
 unfold xK at h;simp only [jX,aC,decide_eq_true_eq] at h;exact h) fun _ _ _=>.int _
theorem yJ:vq X (fc .Mod) F4:=Cd N_ (fun i j h=>of_decide_eq_true h) fun _ _ _=>.int _
theorem Le:vq X (fc .FloorDiv) HG:=Cd Kr (fun i j h=>by
 simp only [aC,decide_eq_true_eq] at h;exact h) fun _ _ _=>.int _
def mH (neg:Bool) (x y:D):R D:=if x.canLay0&&y.canLay0&&decide (min x.depth y.depth<=60) then .ok (.bool (if neg then !bf x y else bf x y)) else .no
mutual
theorem yK:∀ d:D,d.canLay0=true->oq d=true
 |.none,_=>rfl
 |.bool _,_=>rfl
 |.int _,_=>rfl
 |.str _,_=>rfl
 |.list xs,h=>by
  simp only [eF] at h;simp only [oq];exact lays_noD xs h
 |.tuple xs,h=>by
  simp only [eF] at h;simp only [oq];exact lays_noD xs h
 |.dict _,h=>by simp [eF] at h
theorem lays_noD:∀ d:List D,cy d=true->noDs d=true
 |[],_=>rfl
 |x::r,h=>by
  simp only [cy,aC] at h;simp only [noDs,aC];exact ⟨yK x h.1,lays_noD r h.2⟩
end
theorem HH  (h:oZ X f (Oj X.K neg)):vq X f (mH neg):=by
 refine ⟨fun pins s σ H x y v u Q I rv ru ⟨Hs,dx,dy,sub,rx,ry,d,hd,q⟩=>?_,fun x y c n=>?_⟩
 ·unfold mH at hd;split at hd
  ·rename_i hc
   simp only [aC,decide_eq_true_eq] at hc;cases hd;exact h pins s σ H x y v u Q I rv ru ⟨dx,dy,(rx.full sub).rep (yK _ hc.1.1),(ry.full sub).rep (yK _ hc.1.2),hc.1.1,hc.1.2,hc.2,q _ H Hs (.refl sub) (.bool _)⟩
  ·cases hd
 ·unfold mH;split<;>exact fun h=>by cases h
theorem rK (hu:X.A.units+64<pQ):vq X (bG .Eq) (mH false):=HH (Ol hu)
theorem xL (hu:X.A.units+64<pQ):vq X (bG .NotEq) (mH true):=HH (Om hu)
def F5 (k:Int->Int->Bool) (t:Str->Str->Bool):D->D->R D
 |.int i,.int j=>.ok (.bool (k i j))
 |.str x,.str y=>.ok (.bool (t x y))
 |_,_=>.no
theorem HI   (h1:oZ X f (NU fun i j=>.bl (k i j))) (h2:oZ X f (fun x y H Q=>∃ i j,x=.str i/\y=.str j/\Q (.bl (t i j)) H)):vq X f (F5 k t):=by
 refine ⟨fun pins s σ H x y v u Q I rv ru ⟨Hs,dx,dy,sub,rx,ry,d,hd,q⟩=>?_,fun x y c n=>?_⟩
 ·unfold F5 at hd;split at hd
  ·cases hd;exact h1 pins s σ H x y v u Q I rv ru ⟨_,_,rx.int,ry.int,q _ H Hs (.refl sub) (.bool _)⟩
  ·cases hd;exact h2 pins s σ H x y v u Q I rv ru ⟨_,_,rx.str,ry.str,q _ H Hs (.refl sub) (.bool _)⟩
  ·cases hd
 ·unfold F5;split<;>exact fun h=>by cases h
def G9:=F5 (fun i j=>decide (i<j)) lZ
def MI:=F5 (fun i j=>decide (i<=j)) fun x y=>!lZ y x
def P7:D->D->R D
 |.int i,.int j=>.ok (.bool (decide (j<i)))
 |_,_=>.no
theorem Dv:vq X (bG .Lt) G9:=HI Pp EE
theorem xM:vq X (bG .LtE) MI:=HI Pq EU
theorem MJ:vq X (bG .Gt) P7:=by
 refine ⟨fun pins s σ H x y v u Q I rv ru ⟨Hs,dx,dy,sub,rx,ry,d,hd,q⟩=>?_,fun x y c n=>?_⟩
 ·unfold P7 at hd;split at hd
  ·cases hd;exact Pr pins s σ H x y v u Q I rv ru ⟨_,_,rx.int,ry.int,q _ H Hs (.refl sub) (.bool _)⟩
  ·cases hd
 ·unfold P7;split<;>exact fun h=>by cases h
def jJ:D->Bool
 |.none=>true
 |.bool _=>true
 |.int _=>true
 |.str _=>true
 |_=>false
def Ga (neg:Bool):D->D->R D
 |x,.list ys=>if jJ x&&ys.all jJ then .ok (.bool (if neg then !(ys.any fun y=>bf y x) else ys.any fun y=>bf y x)) else .no
 |x,.tuple ys=>if jJ x&&ys.all jJ then .ok (.bool (if neg then !(ys.any fun y=>bf y x) else ys.any fun y=>bf y x)) else .no
 |_,_=>.no
theorem Dw {K:a6}{H:Hp}{v:V}{d:D} (h:RD K H v d) (f:jJ d=true):og v=true:=by
 cases h<;>first|rfl|cases f
theorem Ak {K:a6}{H Hs:Hp}{v:V}{d:D} (h:RB K H Hs v d) (f:jJ d=true):og v=true:=by
 rcases h with h|⟨a,o,rfl,_,_,h⟩
 ·exact Dw h f
 ·cases h<;>cases f
theorem Al {K:a6}{H:Hp}{vs:List V}:∀ {ds:List D},RDs K H vs ds->ds.all jJ=true->vs.all og=true:=by
 induction vs with
 |nil=>intro ds _ _;rfl
 |cons x r ih =>
  intro ds h f;cases h with
  |cons h t =>
   rw [qX,aC] at f ⊢;exact ⟨Dw h f.1,ih t f.2⟩
theorem Ou {K:a6}{H H2 Hs:Hp}{v u:V}{d e:D} (h:RD K H v d) (h2:RB K H2 Hs u e) (f:jJ d=true) (f2:jJ e=true):KJ v u=bf d e:=by
 have h2':RD K Hs u e:=by
  rcases h2 with h2|⟨a,o,rfl,_,_,h2⟩
  ·exact h2
  ·cases h2<;>cases f2
 cases h with
 |list _ _=>cases f
 |tuple _ _=>cases f
 |dictK _ _=>cases f
 |dictT _ _ _=>cases f
 |dictF _ _ _=>cases f
 |none=>cases h2'<;>first|rfl|cases f2
 |bool b=>cases h2'<;>first|rfl|cases f2
 |int i=>cases h2'<;>first|rfl|cases f2
 |str x=>cases h2'<;>first|rfl|cases f2
theorem Ce {K:a6}{H H2 Hs:Hp}{u:V}{e:D} (h2:RB K H2 Hs u e) (f2:jJ e=true):∀ {vs:List V}{ds:List D},RDs K H vs ds->ds.all jJ=true->Rg u vs=ds.any fun y=>bf y e
 |_,_,.nil,_=>rfl
 |_,_,.cons h t,f=>by
  rw [qX,aC] at f;have:=Ce h2 f2 t f.2;unfold Rg at this ⊢;rw [eu,eu,this,Ou h h2 f.1 f2]
theorem HJ  (h:oZ X f (S2 X.K neg)):vq X f (Ga neg):=by
 refine ⟨fun pins s σ H x y v u Q I rv ru ⟨Hs,dx,dy,sub,rx,ry,d,hd,q⟩=>?_,fun x y c n=>?_⟩
 ·unfold Ga at hd;split at hd
  ·split at hd
   ·rename_i hc
    simp only [aC] at hc;cases hd;obtain ⟨b,ws,rfl,qb,rb⟩:=ry.list sub;refine h pins s σ H _ _ v u Q I rv ru ⟨b,ws,rfl,.inl qb,Ak rx hc.1,Al rb hc.2,?_⟩;rw [Ce rx hc.1 rb hc.2];exact q _ H Hs (.refl sub) (.bool _)
   ·cases hd
  ·split at hd
   ·rename_i hc
    simp only [aC] at hc;cases hd;obtain ⟨b,ws,rfl,qb,rb,_⟩:=ry.tuple sub;refine h pins s σ H _ _ v u Q I rv ru ⟨b,ws,rfl,.inr qb,Ak rx hc.1,Al rb hc.2,?_⟩;rw [Ce rx hc.1 rb hc.2];exact q _ H Hs (.refl sub) (.bool _)
   ·cases hd
  ·cases hd
 ·unfold Ga;split<;>(try split)<;>exact fun h=>by cases h
theorem MK:vq X (bG .In) (Ga false):=HJ EG
theorem HK:vq X (bG .NotIn) (Ga true):=HJ yu
end
end
end J
namespace J
open PySem L2
section
section
variable {c:C}{e a b:aP}{g ga gb:ap->R D}{pos:Pos}
def F6:D->D->R D
 |.list xs,.int i=>match Be xs i with
  |some d=>.ok d
  |none=>.no
 |.tuple xs,.int i=>match Be xs i with
  |some d=>.ok d
  |none=>.no
 |.str x,.int i=>if x.length<=1000 then (match Be x.cps.toList i with
  |some k=>.ok (.str ⟨#[k]⟩)
  |none=>.no) else .no
 |_,_=>.no
theorem Dx    (h:RDs K H vs ds)  (e:Be ds i=some d):∃ v,Be vs i=some v/\RD K H v d:=by
 unfold Be at e ⊢;rw [h.length];cases hx:O7 ds.length i with
 |none=>rw [hx] at e;cases e
 |some j =>
  rw [hx] at e;exact h.get' e
theorem Sf:Py X (rD X.K F6):=by
 intro va sl pins s σ H x y v u Q I rv ru h;obtain ⟨Hs,dx,dy,sub,rx,ry,d,hd,q⟩:=h;unfold F6 at hd;split at hd
 ·split at hd
  ·rename_i d' he
   cases hd;obtain ⟨p,vs,rfl,qa,ra⟩:=rx.list sub;obtain ⟨w,hw,rw'⟩:=Dx ra he;exact Dg va sl pins s σ H _ _ v u Q I rv ru ⟨p,vs,_,w,rfl,ry.int,qa,hw,q _ H Hs (.refl sub) rw'⟩
  ·cases hd
 ·split at hd
  ·rename_i d' he
   cases hd;obtain ⟨p,vs,rfl,qa,ra,_⟩:=rx.tuple sub;obtain ⟨w,hw,rw'⟩:=Dx ra he;exact O8 va sl pins s σ H _ _ v u Q I rv ru ⟨p,vs,_,w,rfl,ry.int,qa,hw,q _ H Hs (.refl sub) rw'⟩
  ·cases hd
 ·split at hd
  ·rename_i hz
   split at hd
   ·rename_i k he
    cases hd;exact O9 va sl pins s σ H _ _ v u Q I rv ru ⟨_,_,k,rx.str,ry.int,bw (cq hz),he,q _ H Hs (.refl sub) (.str _)⟩
   ·cases hd
  ·cases hd
 ·cases hd
theorem Ov (x y:D) (c:Str) (n:Option D):F6 x y≠.ex c n:=by
 unfold F6;split<;>(try split)<;>(try split)<;>exact fun h=>by cases h
theorem Q8 (ha:JB c a ga) (hb:JB c b gb) (hs:uD b:=by exact fun _ _=>rfl):JE c (.Subscript a b pos) (g2 ga gb F6):=.of fun ρ=>pW (Mt Sf (ha ρ) (hb ρ) hs) fun σ H Q q=>two Ov q
def vt (ds:List D) (lo hi:Option Int):List D:=(ds.drop (HT.gY ds.length 0 lo)).take (HT.gY ds.length ds.length hi-HT.gY ds.length 0 lo)
theorem Dy    (h:RDs K H vs ds) (lo hi:Option Int):RDs K H (z_ vs lo hi) (vt ds lo hi):=by
 unfold z_ vt;rw [h.length];exact (h.drop _).take _
def Cf:D->Option Int->Option Int->R D
 |.list xs,lo,hi=>.ok (.list (vt xs lo hi))
 |.tuple xs,lo,hi=>.ok (.tuple (vt xs lo hi))
 |_,_,_=>.no
inductive ML (K:a6) (x:V) (lo:Option Int) (hi:Option Int) (H:Hp) (Q:VK):Prop
 |mk (Hs dx:_) (h0:cR Hs H) (h1:RB K H Hs x dx) (h2:∃ d,Cf dx lo hi=.ok d/\∀ v H' Hs',cw H Hs H' Hs'->RD K Hs' v d->Q v H'):ML K x lo hi H Q
def Sg (K:a6):V->Option Int->Option Int->Hp->VK->Prop:=ML K
theorem Sh {X:Cx}:Pw X (Sg X.K):=by
 intro pins s σ H x v vl vu lo hi sl Q I rx hs pl pu h;obtain ⟨Hs,dx,sub,rb,d,hd,q⟩:=h;unfold Cf at hd;split at hd
 ·cases hd;obtain ⟨p,vs,rfl,qa,ra⟩:=rb.list sub;exact KI pins s σ H _ v vl vu lo hi sl Q I rx hs pl pu ⟨p,vs,rfl,qa,fun l hl=>q _ _ _ (.new sub hl) (.list (.of aK) ((Dy ra lo hi).same (cw.new sub hl).sh))⟩
 ·cases hd;obtain ⟨p,vs,rfl,qa,ra,_⟩:=rb.tuple sub;by_cases hw:HT.gY vs.length 0 lo=0/\HT.gY vs.length vs.length hi=vs.length
  ·refine L8 pins s σ H _ v vl vu lo hi sl Q I rx hs pl pu ⟨p,vs,rfl,qa,hw,?_⟩;rcases rb with rb|⟨_,_,_,_,_,ow⟩
   ·refine q _ H Hs (.refl sub) ?_;unfold vt;rw [<- ra.length,hw.1,hw.2,ra.length];simpa using rb
   ·cases ow
  ·exact O6 pins s σ H _ v vl vu lo hi sl Q I rx hs pl pu ⟨p,vs,rfl,qa,hw,fun l hl=>q _ _ _ (.new sub hl) (.tuple aK ((Dy ra lo hi).same (cw.new sub hl).sh))⟩
 ·cases hd
inductive Q9 (K:a6) (cls:Str->ac) (E:XK) (ρ:ap) (r:R (Option Int)) (σ:St) (H:Hp) (Q:Option Int->Hp->Prop):Prop
 |mk (H0 Hs0:Hp) (la:Nat->Option ac) (Hs:Hp) (f:Fr K H0 Hs0 la ρ σ H Hs) (q:Fin K cls E H Hs r fun d=>∀ H' Hs',cw H Hs H' Hs'->Q d H'):Q9 K cls E ρ r σ H Q
def Si (K:a6) (cls:Str->ac) (E:XK) (ρ:ap) (r:R (Option Int)):TO:=Q9 K cls E ρ r
structure JO (c:C) (e:Option aP) (g:ap->R (Option Int)):Prop where of ::
 run:∀ ρ,PO c.X e (Si c.X.K c.cls c.E ρ (g ρ))
instance {c:C}{e:Option aP}{g:ap->R (Option Int)}:CoeFun (JO c e g) (fun _=>∀ ρ,PO c.X e (Si c.X.K c.cls c.E ρ (g ρ))):=⟨JO.run⟩
theorem SJ {X:Cx}{e:Option aP}{t t':TO} (h:PO X e t) (m:∀ σ H Q,t' σ H Q->t σ H Q):PO X e t':=fun pins s σ H Q I q=>h pins s σ H Q I (m σ H Q q)
def Ow:ap->R (Option Int):=fun _=>.ok none
def Bg (g:ap->R D):ap->R (Option Int):=fun ρ=>(g ρ).bind fun d=>match d with
 |.int i=>.ok (some i)
 |_=>.no
theorem rL:JO c none Ow:=.of fun ρ=>SJ KC fun σ H Q h_0=>by obtain ⟨H0,Hs0,la,Hs,f,q⟩:=h_0;exact q H Hs (.refl f.st.sub)
theorem jO (h:JE c e g):JO c (some e) (Bg g):=.of fun ρ=>SJ (KD (h ρ)) fun σ H Q h_1=>by
 obtain ⟨H0,Hs0,la,Hs,f,q⟩:=h_1;refine uu f q fun d v H1 Hs1 e1 s1 f1 r1=>?_;unfold Bg at q;rw [e1,bind_ok] at q;cases r1 with
 |int i=>exact ⟨i,rfl,q H1 Hs1 s1⟩
 |_=>exact q.elim
theorem Qa {K:a6}{cls:Str->ac}{E:XK}{ρ:ap}{r:R (Option Int)}{β:Type}{k:Option Int->R β}{σ:St}{H:Hp}{H0 Hs0 Hs:Hp}{la:Nat->Option ac}{Q:Option Int->Hp->Prop}{q:β->Prop} (f:Fr K H0 Hs0 la ρ σ H Hs)
  (h:Fin K cls E H Hs (r.bind k) q) (m:∀ d H' Hs',r=.ok d->cw H Hs H' Hs'->Fr K H0 Hs0 la ρ σ H' Hs'->Q d H'):Si K cls E ρ r σ H Q:=by
 refine ⟨H0,Hs0,la,Hs,f,?_⟩;cases r with
 |ok d=>exact fun H' Hs' s=>m d H' Hs' rfl s (f.step s)
 |ex c n=>exact h
 |no=>exact h
def Gb (g:ap->R D) (gl gh:ap->R (Option Int)):ap->R D:=fun ρ=>(g ρ).bind fun x=>(gl ρ).bind fun l=>(gh ρ).bind fun h=>Cf x l h
theorem kq {lo hi:Option aP}{gl gh:ap->R (Option Int)}{p2:Pos} (he:JB c e g) (hl:JO c lo gl) (hh:JO c hi gh):JE c (.Subscript e (.Slice lo hi none p2) pos) (Gb g gl gh):=.of fun ρ=>pW (GM Sh (he ρ) (hl ρ) (hh ρ)) fun σ H Q h_2=>by
 obtain ⟨H0,Hs0,la,Hs,f,q⟩:=h_2;refine one f q fun d v H1 Hs1 e1 s1 f1 r1=>?_;unfold Gb at q;rw [e1,bind_ok] at q;refine Qa f1 (q.on s1 (q':=fun _=>True) fun _ _=>trivial) fun l H2 Hs2 e2 s2 f2=>?_;rw [e2,bind_ok] at q;refine Qa f2 (q.on (s1.trans s2) (q':=fun _=>True) fun _ _=>trivial) fun h H3 Hs3 e3 s3 f3=>?_;rw [e3,bind_ok] at q;cases hr:Cf d l h with
 |ok z=>rw [hr] at q;exact ⟨Hs3,d,f3.st.sub,(r1.step s2).step s3,z,hr,fun w H4 Hs4 s4 r4=>q w H4 Hs4 (s1.trans (s2.trans (s3.trans s4))) r4⟩
 |ex c n=>unfold Cf at hr;split at hr<;>cases hr
 |no=>rw [hr] at q;exact q.elim
inductive SK (K:a6) (h:List D->R D) (xs:List V) (H:Hp) (Q:VK):Prop
 |mk (Hs ds:_) (h0:cR Hs H) (h1:MG K H Hs xs ds) (h2:∃ d,h ds=.ok d/\∀ v H' Hs',cw H Hs H' Hs'->RD K Hs' v d->Q v H'):SK K h xs H Q
def rC (K:a6) (h:List D->R D):List V->Hp->VK->Prop:=SK K h
def Gc (X:Cx) (f:a8) (h:List D->R D):Prop:=j0 X f (rC X.K h)/\∀ x c n,h x≠.ex c n
def cO (gs:ap->R (List D)) (h:List D->R D):ap->R D:=fun ρ=>(gs ρ).bind h
theorem MM {K:a6}{cls:Str->ac}{E:XK}{h:List D->R D}{gs:ap->R (List D)}{ρ:ap}{σ:St}{H:Hp}{Q:VK} (hx:∀ x c n,h x≠.ex c n) (q:TR K cls E ρ (cO gs h ρ) σ H Q):Pt (rC K h) (Rn K cls E ρ (gs ρ)) σ H Q:=by
 obtain ⟨H0,Hs0,la,Hs,f,q⟩:=q;refine HD f q fun ds vs H1 Hs1 e1 s1 f1 r1=>?_;unfold cO at q;rw [e1,bind_ok] at q;cases hr:h ds with
 |ok d =>
  rw [hr] at q;exact ⟨Hs1,ds,f1.st.sub,r1,d,hr,fun w H3 Hs3 s3 r3=>q w H3 Hs3 (s1.trans s3) r3⟩
 |ex c n=>exact (hx ds c n hr).elim
 |no=>rw [hr] at q;exact q.elim
variable {es:List aP}{gs:ap->R (List D)}{x:Str}{p:Pos}{id T:String}{h:List D->R D}
theorem cP (hc:Gc c.X (.builtin id) h) (hg:Gl c.X x) (hm:c.X.mg x=none) (hv:gq x=some (.builtin id)) (ha:MH c (e::es) gs) (hn:x≠"__name__":=by decide) (hdb:(x==("__debug__" : Str))=false:=by decide)
  (he:aq (e::es) c.X.env=(false,bU e c.X.env)::aq es c.X.env:=by rfl) (hpl:(fK pos (aq es c.X.env)).any (·.1)=false:=by rfl):JE c (.Call (.Name x p) (e::es) [] pos) (cO gs h):=.of fun ρ=>pW (lV hc.1 hg hm hv (ha ρ) hn hdb he hpl) fun σ H Q q=>MM hc.2 q
theorem eZ (hc:Gc c.X (.type T) h) (hg:Gl c.X x) (hm:c.X.mg x=none) (hv:gq x=some (.type T)) (ha:MH c (e::es) gs) (hn:x≠"__name__":=by decide) (hdb:(x==("__debug__" : Str))=false:=by decide)
  (he:aq (e::es) c.X.env=(false,bU e c.X.env)::aq es c.X.env:=by rfl) (hpl:(fK pos (aq es c.X.env)).any (·.1)=false:=by rfl):JE c (.Call (.Name x p) (e::es) [] pos) (cO gs h):=.of fun ρ=>pW (xz hc.1 hg hm hv (ha ρ) hn hdb he hpl) fun σ H Q q=>MM hc.2 q
end
end
section
section
theorem MG.one    (h:MG K H Hs xs [d]):∃ x,xs=[x]/\RB K H Hs x d:=by
 cases h with|cons a t=>cases t;exact ⟨_,rfl,a⟩
def jD (h:D->R D):List D->R D
 |[d]=>h d
 |_=>.no
theorem qp  (hx:∀ d c n,h d≠.ex c n)
  (hr:∀ pins s σ H x u Q Hs d d',bj X pins σ H s->cD x u->cR Hs H->RB X.K H Hs x d->h d=.ok d'->(∀ v H' Hs',cw H Hs H' Hs'->RD X.K Hs' v d'->Q v H')->ak (az X.prog X.w) X.A (call f [u]) (EP X pins σ Q) X.xe s):Gc X f (jD h):=by
 refine ⟨fun pins s σ H xs us Q I r ⟨Hs,ds,sub,rb,d,hd,q⟩=>?_,fun x c n=>?_⟩
 ·unfold jD at hd;split at hd
  ·obtain ⟨x,rfl,rx⟩:=rb.one;obtain ⟨u,rfl,ru⟩:=l7 r;exact hr pins s σ H x u Q Hs _ _ I ru sub rx hd q
  ·cases hd
 ·unfold jD;split
  ·exact hx _ _ _
  ·exact fun h=>by cases h
def nK:D->R D
 |.list xs=>.ok (.int xs.length)
 |.tuple xs=>.ok (.int xs.length)
 |.str x=>if x.length<=1000 then .ok (.int x.length) else .no
 |_=>.no
theorem RDk.length   : ∀ {ds:List (D×D)},RDk K H vs ds->vs.length=ds.length:=by
 induction vs with
 |nil=>intro ds h;cases h;rfl
 |cons x r ih=>intro ds h;cases h with|cons a b=>exact congrArg (· + 1) (ih b)
theorem RB.dict    (sub:cR Hs H) (h:RB K H Hs v (.dict ds)):∃ a,v=.ref a/\((∃ kvs,H a=some (.dK kvs)/\RDk K Hs kvs ds)\/(∃ kvs,H a=some (.dT kvs)/\kvs≠[]/\RDt K Hs kvs ds)\/∃ o kvs es,ds=(.none,.none)::es/\H a=some (.frz o (.dT kvs))/\kvs≠[]/\RDt K Hs kvs es):=by
 rcases h with h|⟨a,o,rfl,h2,h3,h4⟩
 ·cases h with
  |dictK q r=>exact ⟨_,rfl,.inl ⟨_,sub _ _ q,r⟩⟩
  |dictT q n r=>exact ⟨_,rfl,.inr (.inl ⟨_,sub _ _ q,n,r⟩)⟩
  |dictF q n r=>exact ⟨_,rfl,.inr (.inr ⟨_,_,_,rfl,sub _ _ q,n,r⟩)⟩
 ·cases h4 with
  |dK r=>exact ⟨a,rfl,.inl ⟨_,h2,r⟩⟩
  |dT n r=>exact ⟨a,rfl,.inr (.inl ⟨_,h2,n,r⟩)⟩
  |dF n r=>exact ⟨a,rfl,.inr (.inr ⟨_,_,_,rfl,h2,n,r⟩)⟩
theorem jb:Gc X (.builtin "len") (jD nK):=by
 refine qp (fun d c n=>?_) fun pins s σ H x u Q Hs d d' I ru sub rx hd q=>?_
 ·unfold nK;split<;>(try split)<;>exact fun h=>by cases h
 ·unfold nK at hd;split at hd
  ·cases hd;obtain ⟨a,vs,rfl,qa,ra⟩:=rx.list sub;refine rl pins s σ H _ _ Q I (.cons ru .nil) ⟨a,vs,rfl,.inl qa,?_⟩;rw [ra.length];exact q _ H Hs (.refl sub) (.int _)
  ·cases hd;obtain ⟨a,vs,rfl,qa,ra,_⟩:=rx.tuple sub;refine rl pins s σ H _ _ Q I (.cons ru .nil) ⟨a,vs,rfl,.inr qa,?_⟩;rw [ra.length];exact q _ H Hs (.refl sub) (.int _)
  ·split at hd
   ·rename_i hz
    cases hd;exact yv pins s σ H _ _ Q I (.cons ru .nil) ⟨_,by rw [rx.str],bw (cq hz),q _ H Hs (.refl sub) (.int _)⟩
   ·cases hd
  ·cases hd
def yL (T:String) (d:D):Bool:=match T,d with
 | "str",.str _=>true
 | "int",.int _=>true
 | "int",.bool _=>true
 | "bool",.bool _=>true
 | "list",.list _=>true
 | "tuple",.tuple _=>true
 |_,_=>false
def vv (g:ap->R D) (T:String):ap->R D:=fun ρ=>(g ρ).bind fun d=>if oq d then .ok (.bool (yL T d)) else .no
theorem Lf  (T:String) (hT:T="str"\/T="int"\/T="bool"\/T="list"\/T="tuple") (h:oq d=true):cL K (.type (Sc d)) (.type T)=some (yL T d):=by
 rcases hT with rfl|rfl|rfl|rfl|rfl<;>cases d<;>first|rfl|simp [oq] at h
theorem oA      (h:JB c e g) (hgi:Gl c.X "isinstance") (hi:c.X.mg "isinstance"=none) (hgT:Gl c.X T) (hT:c.X.mg T=none) (hv:gq T=some (.type Ts))
  (hTs:Ts="str"\/Ts="int"\/Ts="bool"\/Ts="list"\/Ts="tuple")
  (hn:T≠"__name__":=by decide) (hdb:(T==("__debug__" : Str))=false:=by decide)
  (he:aq [e,.Name T p2] c.X.env=(false,bU e c.X.env)::aq [.Name T p2] c.X.env:=by rfl) (hpl:(fK pos (aq [.Name T p2] c.X.env)).any (·.1)=false:=by rfl) :
  JE c (.Call (.Name "isinstance" p) [e,.Name T p2] [] pos) (vv g Ts):=.of fun ρ=>by
 refine pW (lV Hy hgi hi iZ (bI (h ρ) (bI (D7 hgT hT hv (v:=.ty Ts) rfl hn hdb) dS) he) (by decide) (by decide) he hpl) fun σ H Q h_0=>?_;obtain ⟨H0,Hs0,la,Hs,f,q⟩:=h_0;refine one f q fun d v H1 Hs1 e1 s1 f1 r1=>?_;unfold vv at q;rw [e1,bind_ok] at q;by_cases hd:oq d=true
 ·rw [if_pos hd] at q;exact ⟨v,d,Ts,_,rfl,(r1.full f1.st.sub).rep hd,Lf Ts hTs hd,q _ H1 Hs1 s1 (.bool _)⟩
 ·rw [if_neg hd] at q;exact q.elim
def l9:List D->Option (List Bool)
 |[]=>some []
 |.bool b::r=>(l9 r).map (b::·)
 |_::_=>none
theorem yM:∀ {bs:List Bool},l9 ds=some bs->ds=bs.map bZ:=by
 induction ds with
 |nil=>intro bs h;cases h;rfl
 |cons d r ih =>
  intro bs h;cases d with
  |bool b =>
   have h:(l9 r).map (b::·)=some bs:=h;cases hr:l9 r with
   |none=>rw [hr] at h;cases h
   |some z=>rw [hr] at h;cases h;rw [ih hr];rfl
  |_=>cases h
def ij (k:List Bool->Bool):D->R D
 |.list ds=>match l9 ds with
  |some bs=>.ok (.bool (k bs))
  |none=>.no
 |_=>.no
theorem Am {id:String}{k:List Bool->Bool} (h:j0 X (.builtin id) (fun xs H Q=>∃ p,∃ bs:List Bool,xs=[.ref p]/\jI X.K H p (bs.map V.bl)/\Q (.bl (k bs)) H)):Gc X (.builtin id) (jD (ij k)):=by
 refine qp (fun d c n=>?_) fun pins s σ H x u Q Hs d d' I ru sub rx hd q=>?_
 ·unfold ij;split<;>(try split)<;>exact fun h=>by cases h
 ·unfold ij at hd;split at hd
  ·split at hd
   ·rename_i bs hb
    cases hd;obtain ⟨a,vs,rfl,qa,ra⟩:=rx.list sub;rw [yM hb] at ra;rw [wR ra] at qa;exact h pins s σ H _ _ Q I (.cons ru .nil) ⟨a,bs,rfl,qa,q _ H Hs (.refl sub) (.bool _)⟩
   ·cases hd
  ·cases hd
theorem t5 (hc:X.calm=true):Gc X (.builtin "all") (jD (ij fun bs=>bs.all id)):=Am (vg hc)
theorem Ox (hc:X.calm=true):Gc X (.builtin "any") (jD (ij fun bs=>bs.any id)):=Am (vh hc)
def kr (x:Str):List D:=x.cps.toList.map fun c=>av ⟨#[c]⟩
theorem F7  (x:Str):RDs K H (vp x) (kr x):=by
 unfold vp kr;induction x.cps.toList with
 |nil=>exact .nil
 |cons a r ih=>exact .cons (.str _) ih
def fP:D->R D
 |.list xs=>.ok (.tuple xs)
 |.tuple xs=>.ok (.tuple xs)
 |.str x=>if x.cps.size<=1000 then .ok (.tuple (kr x)) else .no
 |_=>.no
theorem jt (hc:X.calm=true):Gc X (.type "tuple") (jD fP):=by
 refine qp (fun d c n=>?_) fun pins s σ H x u Q Hs d d' I ru sub rx hd q=>?_
 ·unfold fP;split<;>(try split)<;>exact fun h=>by cases h
 ·unfold fP at hd;split at hd
  ·cases hd;obtain ⟨a,vs,rfl,qa,ra⟩:=rx.list sub;exact qd pins s σ H _ _ Q I (.cons ru .nil) ⟨a,vs,rfl,.inl ⟨qa,fun l hl=>q _ _ _ (.new sub hl) (.tuple aK (ra.same (cw.new sub hl).sh))⟩⟩
  ·cases hd;obtain ⟨a,vs,rfl,qa,ra,_⟩:=rx.tuple sub;refine qd pins s σ H _ _ Q I (.cons ru .nil) ⟨a,vs,rfl,.inr ⟨qa,?_⟩⟩;rcases rx with rx|⟨_,_,_,_,_,ow⟩
   ·exact q _ H Hs (.refl sub) rx
   ·cases ow
  ·split at hd
   ·rename_i hz
    cases hd;exact ut hc pins s σ H _ _ Q I (.cons ru .nil) ⟨_,by rw [rx.str],bw (cq hz),fun l hl=>q _ _ _ (.new sub hl) (.tuple aK (F7 _))⟩
   ·cases hd
  ·cases hd
def xN:D->R D
 |.list xs=>.ok (.list xs)
 |.tuple xs=>.ok (.list xs)
 |_=>.no
theorem Lg:Gc X (.type "list") (jD xN):=by
 refine qp (fun d c n=>?_) fun pins s σ H x u Q Hs d d' I ru sub rx hd q=>?_
 ·unfold xN;split<;>exact fun h=>by cases h
 ·unfold xN at hd;split at hd
  ·cases hd;obtain ⟨a,vs,rfl,qa,ra⟩:=rx.list sub;exact rm pins s σ H _ _ Q I (.cons ru .nil) ⟨a,vs,rfl,.inl qa,fun l hl=>q _ _ _ (.new sub hl) (.list (.of aK) (ra.same (cw.new sub hl).sh))⟩
  ·cases hd;obtain ⟨a,vs,rfl,qa,ra,_⟩:=rx.tuple sub;exact rm pins s σ H _ _ Q I (.cons ru .nil) ⟨a,vs,rfl,.inr qa,fun l hl=>q _ _ _ (.new sub hl) (.list (.of aK) (ra.same (cw.new sub hl).sh))⟩
  ·cases hd
def eg:List D->Option (List Str)
 |[]=>some []
 |.str b::r=>(eg r).map (b::·)
 |_::_=>none
theorem ju:∀ {bs:List Str},eg ds=some bs->ds=bs.map av:=by
 induction ds with
 |nil=>intro bs h;cases h;rfl
 |cons d r ih =>
  intro bs h;cases d with
  |str b =>
   have h:(eg r).map (b::·)=some bs:=h;cases hr:eg r with
   |none=>rw [hr] at h;cases h
   |some z=>rw [hr] at h;cases h;rw [ih hr];rfl
  |_=>cases h
@[simp] theorem strsOf_map:∀ bs:List Str,eg (bs.map av)=some bs
 |[]=>rfl
 |b::r=>by show (eg (r.map av)).map (b::·)=_;rw [strsOf_map r];rfl
def pc:D->R D
 |.list ds=>match eg ds with
  |some ss=>if ss.length<64 then .ok (.list ((j4 ss).map .str)) else .no
  |none=>.no
 |_=>.no
theorem F8:Gc X (.builtin "sorted") (jD pc):=by
 refine qp (fun d c n=>?_) fun pins s σ H x u Q Hs d d' I ru sub rx hd q=>?_
 ·unfold pc;split<;>(try split)<;>(try split)<;>exact fun h=>by cases h
 ·unfold pc at hd;split at hd
  ·split at hd
   ·split at hd
    ·rename_i ss hs hz
     cases hd;obtain ⟨a,vs,rfl,qa,ra⟩:=rx.list sub;rw [ju hs] at ra;rw [iL ra] at qa;exact sZ pins s σ H _ _ Q I (.cons ru .nil) ⟨a,ss,rfl,qa,hz,fun l hl=>q _ _ _ (.new sub hl) (.list (.of aK) (m5 _))⟩
    ·cases hd
   ·cases hd
  ·cases hd
end
end
section
inductive Qb (K:a6) (cls:Str->ac) (n:Nat) (F:List D->R D) (vs:List V) (H:Hp) (Q:VK) (E:XK):Prop
 |mk (Hs ds:_) (h0:cR Hs H) (h1:ds.length=n) (h2:RDs K Hs vs ds) (h3:Fin K cls E H Hs (F ds) fun d=>∀ v H' Hs',cw H Hs H' Hs'->RD K Hs' v d->Q v H'):Qb K cls n F vs H Q E
def MN (K:a6) (cls:Str->ac) (n:Nat) (F:List D->R D):Sp:=Qb K cls n F
structure Fn (P:aH) (w:aY) (K:a6) (mg:Str->Option a8) (base:ba) (cls:Str->ac) (x:Str) (k n:Nat) (F:List D->R D):Prop where
 ex:∃ f fd ps,pU P w K mg base (l_ P w) k f fd ps (MN K cls n F)/\mg x=some (.ref f)/\cZ K (.ref f)=true/\j3 K fd ps []
section
def ir (n:Nat) (F:List D->R D) (gs:ap->R (List D)):ap->R D:=fun ρ=>(gs ρ).bind fun ds=>if ds.length=n then F ds else .no
theorem Lh  (G:Fn c.X.prog c.X.w c.X.K c.X.mg c.X.base c.cls x k n F) (hr:j9 k c.X.A) (hg:Gl c.X x) (hx:lG (l_ c.X.prog c.X.w) c.X c.E) (ha:Dt c (e::es) gs)
  (hdb:(x==("__debug__" : Str))=false:=by decide) (he:aq (e::es) c.X.env=(false,bU e c.X.env)::aq es c.X.env:=by rfl) (hpl:(fK pos (aq es c.X.env)).any (·.1)=false:=by rfl) :
  JE c (.Call (.Name x p) (e::es) [] pos) (ir n F gs):=.of fun ρ=>by
 obtain ⟨f,fd,ps,hf,hm,hk,hb⟩:=G.ex;refine pW (Kz (E:=c.E) hf hr hg hm hk hb .nil hx (ha ρ) hdb he hpl) fun σ H Q h_0=>?_;obtain ⟨H0,Hs0,la,Hs,fr,q⟩:=h_0;refine Aj fr q fun ds vs H1 Hs1 e1 s1 f1 r1=>?_;unfold ir at q;rw [e1,bind_ok] at q;by_cases hn:ds.length=n
 ·rw [if_pos hn] at q;show MN _ _ _ _ (vs++[]) _ _ _;rw [bP];exact ⟨Hs1,ds,f1.st.sub,hn,r1,q.on s1 fun d k v H2 Hs2 s2 r2=>k v H2 Hs2 (s1.trans s2) r2⟩
 ·rw [if_neg hn] at q;exact q.elim
end
inductive Fl where
 |nx (ρ:ap)
 |rt (d:D)
 |bk (ρ:ap)
 |ct (ρ:ap)
def nL (K:a6) (cls:Str->ac) (E:XK) (H0 Hs0:Hp) (la:Nat->Option ac) (D:wI) (r:R Fl):Prop:=match r with
 |.ok (.nx ρ')=>∀ σ' H' Hs',Fr K H0 Hs0 la ρ' σ' H' Hs'->D.nx σ' H'
 |.ok (.bk ρ')=>∀ σ' H' Hs',Fr K H0 Hs0 la ρ' σ' H' Hs'->D.bk σ' H'
 |.ok (.ct ρ')=>∀ σ' H' Hs',Fr K H0 Hs0 la ρ' σ' H' Hs'->D.ct σ' H'
 |.ok (.rt d)=>∀ v H' Hs',cw H0 Hs0 H' Hs'->RD K Hs' v d->D.rt v H'
 |.ex c n=>∀ H' Hs',cw H0 Hs0 H' Hs'->XW K cls E c n H' Hs'
 |.no=>False
inductive SL (K:a6) (cls:Str->ac) (E:XK) (ρ:ap) (r:R Fl) (D:wI) (σ:St) (H:Hp):Prop
 |mk (H0 Hs0:Hp) (la:Nat->Option ac) (Hs:Hp) (f:Fr K H0 Hs0 la ρ σ H Hs) (q:nL K cls E H0 Hs0 la D r):SL K cls E ρ r D σ H
def SR (K:a6) (cls:Str->ac) (E:XK) (ρ:ap) (r:R Fl):TS:=SL K cls E ρ r
structure JS (c:C) (s:du) (g:ap->R Fl):Prop where of ::
 run:∀ ρ,PS c.X s (SR c.X.K c.cls c.E ρ (g ρ))
instance {c:C}{s:du}{g:ap->R Fl}:CoeFun (JS c s g) (fun _=>∀ ρ,PS c.X s (SR c.X.K c.cls c.E ρ (g ρ))):=⟨JS.run⟩
structure Dz (c:C) (s:List du) (g:ap->R Fl):Prop where of ::
 run:∀ ρ,zN c.X s (SR c.X.K c.cls c.E ρ (g ρ))
instance {c:C}{s:List du}{g:ap->R Fl}:CoeFun (Dz c s g) (fun _=>∀ ρ,zN c.X s (SR c.X.K c.cls c.E ρ (g ρ))):=⟨Dz.run⟩
theorem Fr.set     (f:Fr K H0 Hs0 la ρ σ H Hs) (i:Nat)  (r:RD K Hs v d):Fr K H0 Hs0 la (ρ.set i (.shr d)) (σ.set i (some v)) H Hs:=by
 have hl:=f.len;have nx:∀ {j:Nat}{s:Sl},(∀ d,s≠.shr d)->(ρ.set i (.shr d))[j]?=some s->ρ[j]?=some s/\i≠j:=fun {j s} hs e=>by
  by_cases hj:i=j
  ·subst hj;by_cases hi:i<ρ.length
   ·rw [ax hi] at e;exact absurd (bt e).symm (hs d)
   ·rw [c7 (by simpa using hi)] at e;cases e
  ·rw [ae hj] at e;exact ⟨e,hj⟩
 refine ⟨f.st,by simp [hl],fun j e h=>?_,fun j e h=>?_,fun j e h=>?_,fun j k d1 d2 a h1 h2 h3 h4=>?_,f.lh,fun j e h=>?_,fun j k d1 d2 h1 h2=>?_⟩
 ·by_cases hj:i=j
  ·subst hj;by_cases hi:i<ρ.length
   ·rw [ax hi] at h;cases h;exact ⟨v,ax (by omega),r⟩
   ·rw [c7 (by simpa using hi)] at h;cases h
  ·rw [ae hj] at h ⊢;exact f.sh j e h
 ·obtain ⟨h,hj⟩:=nx (fun _ z=>by cases z) h;rw [ae hj];exact f.ow j e h
 ·obtain ⟨h,hj⟩:=nx (fun _ z=>by cases z) h;rw [ae hj];exact f.lk j e h
 ·obtain ⟨h1,n1⟩:=nx (fun _ z=>by cases z) h1;obtain ⟨h2,n2⟩:=nx (fun _ z=>by cases z) h2;rw [ae n1] at h3;rw [ae n2] at h4;exact f.dj j k d1 d2 a h1 h2 h3 h4
 ·obtain ⟨h,hj⟩:=nx (fun _ z=>by cases z) h;obtain ⟨a,as,O⟩:=f.o2 j e h;refine ⟨a,as,by rw [ae hj];exact O.at_,O.ob,O.nd,O.out,fun b hb k e' hk=>?_,O.inn⟩;obtain ⟨hk,nk⟩:=nx (fun _ z=>by cases z) hk;rw [ae nk];exact O.dj b hb k e' hk
 ·exact f.u2 j k d1 d2 (nx (fun _ z=>by cases z) h1).1 (nx (fun _ z=>by cases z) h2).1
theorem Fr.setO     (f:Fr K H0 Hs0 la ρ σ H Hs) (i:Nat)   (n:H a=none) (r:kS K Hs o d):Fr K H0 Hs0 la (ρ.set i (.own d)) (σ.set i (some (.ref a))) (upd H a o) Hs:=by
 have f':=f.step (cw.mine (o:=o) f.st.sub n);have hl:=f.len;have n0:H0 a=none:=f.st.all.free n;have ns:Hs a=none:=f.st.sub.free n;have nx:∀ {j:Nat}{s:Sl},(∀ d,s≠.own d)->(ρ.set i (.own d))[j]?=some s->ρ[j]?=some s/\i≠j:=fun {j s} hs e=>by
  by_cases hj:i=j
  ·subst hj;by_cases hi:i<ρ.length
   ·rw [ax hi] at e;exact absurd (bt e).symm (hs d)
   ·rw [c7 (by simpa using hi)] at e;cases e
  ·rw [ae hj] at e;exact ⟨e,hj⟩
 have ne:∀ j e,ρ[j]?=some (Sl.own e)->σ[j]?≠some (some (V.ref a)):=fun j e h z=>by
  obtain ⟨b,o',h1,h2,_⟩:=f.ow j e h;rw [z] at h1;cases h1;rw [n] at h2;cases h2
 refine ⟨f'.st,by simp [hl],fun j e h=>?_,fun j e h=>?_,fun j e h=>?_,fun j k d1 d2 b h1 h2 h3 h4=>?_,f.lh,fun j e h=>?_,fun j k d1 d2 h1 h2=>?_⟩
 ·obtain ⟨h,hj⟩:=nx (fun _ z=>by cases z) h;rw [ae hj];exact f'.sh j e h
 ·by_cases hj:i=j
  ·subst hj;by_cases hi:i<ρ.length
   ·rw [ax hi] at h;cases h;exact ⟨a,o,ax (by omega),aK,ns,n0,r⟩
   ·rw [c7 (by simpa using hi)] at h;cases h
  ·rw [ae hj] at h ⊢;exact f'.ow j e h
 ·obtain ⟨h,hj⟩:=nx (fun _ z=>by cases z) h;rw [ae hj];exact f'.lk j e h
 ·by_cases hj:i=j
  ·by_cases hk:i=k
   ·exact hj.symm.trans hk
   ·rw [ae hk] at h2 h4;subst hj;by_cases hi:i<ρ.length
    ·rw [ax (by omega)] at h3;cases h3;exact (ne k d2 h2 h4).elim
    ·rw [c7 (by simpa using hi)] at h1;cases h1
  ·rw [ae hj] at h1 h3;by_cases hk:i=k
   ·subst hk;by_cases hi:i<ρ.length
    ·rw [ax (by omega)] at h4;cases h4;exact (ne j d1 h1 h3).elim
    ·rw [c7 (by simpa using hi)] at h2;cases h2
   ·rw [ae hk] at h2 h4;exact f.dj j k d1 d2 b h1 h2 h3 h4
 ·obtain ⟨h,hj⟩:=nx (fun _ z=>by cases z) h;obtain ⟨b,as,O⟩:=f.o2 j e h;have nb:∀ c∈b::as,c≠a:=fun c hc z=>by
   subst z;rcases List.mem_cons.mp hc with z|z
   ·have:=O.ob;rw [<- z,n] at this;cases this
   ·obtain ⟨o,ho,_⟩:=O.inn.there z;rw [n] at ho;cases ho
  refine ⟨b,as,by rw [ae hj];exact O.at_,by rw [aL (nb b aw)];exact O.ob,O.nd,O.out,fun c hc k e' hk=>?_,O.inn.upd fun z=>nb a (ao _ z) rfl⟩;by_cases nk:i=k
  ·subst nk;intro z;by_cases hi:i<ρ.length
   ·rw [ax (by omega)] at z;cases z;exact nb _ hc rfl
   ·rw [c7 (by simp;omega)] at hk;cases hk
  ·rw [ae nk] at hk ⊢;exact O.dj c hc k e' hk
 ·exact f.u2 j k d1 d2 (nx (fun _ z=>by cases z) h1).1 (nx (fun _ z=>by cases z) h2).1
theorem Fr.write     (f:Fr K H0 Hs0 la ρ σ H Hs) (i:Nat)   (hi:ρ[i]?=some (Sl.own d)) (hs:σ[i]?=some (some (V.ref a))) (r:kS K Hs o d'):Fr K H0 Hs0 la (ρ.set i (.own d')) σ (upd H a o) Hs:=by
 obtain ⟨a',o',h1,h2,h3,h4,h5⟩:=f.ow i d hi;rw [hs] at h1;cases h1;have hl:=f.len;have hil:i<ρ.length:=(List.getElem?_eq_some_iff.mp hi).1;have nx:∀ {j:Nat}{s:Sl},(∀ d,s≠.own d)->(ρ.set i (.own d'))[j]?=some s->ρ[j]?=some s/\i≠j:=fun {j s} hs e=>by
  by_cases hj:i=j
  ·subst hj;rw [ax hil] at e;exact absurd (bt e).symm (hs d')
  ·rw [ae hj] at e;exact ⟨e,hj⟩
 refine ⟨⟨fun b u e=>?_,f.st.sh,fun b u e=>?_,f.st.out⟩,by simp [hl],fun j e h=>?_,fun j e h=>?_,fun j e h=>?_,fun j k d1 d2 b h1 h2 h3 h4=>?_,f.lh,fun j e h=>?_,fun j k d1 d2 h1 h2=>?_⟩
 ·rw [aL (aS e h4)];exact f.st.all b u e
 ·rw [aL (aS e h3)];exact f.st.sub b u e
 ·obtain ⟨h,hj⟩:=nx (fun _ z=>by cases z) h;exact f.sh j e h
 ·by_cases hj:i=j
  ·subst hj;rw [ax hil] at h;cases h;exact ⟨a,o,hs,aK,h3,h4,r⟩
  ·rw [ae hj] at h;obtain ⟨b,u,k1,k2,k3,k4,k5⟩:=f.ow j e h;refine ⟨b,u,k1,?_,k3,k4,k5⟩;rw [aL (fun z=>hj ?_)]
   ·exact k2
   ·subst z;exact f.dj i j d e b hi h hs k1
 ·obtain ⟨h,hj⟩:=nx (fun _ z=>by cases z) h;obtain ⟨b,u,k1,k2,k3,k4,k5,k6⟩:=f.lk j e h;refine ⟨b,u,k1,k2,?_,k4,k5,k6⟩;rw [aL (aS k5 h4)];exact k3
 ·have own:∀ {j:Nat}{e:D},(ρ.set i (.own d'))[j]?=some (Sl.own e)->∃ e',ρ[j]?=some (Sl.own e'):=fun {j e} h=>by
   by_cases hj:i=j
   ·subst hj;exact ⟨d,hi⟩
   ·rw [ae hj] at h;exact ⟨e,h⟩
  obtain ⟨e1,h1⟩:=own h1;obtain ⟨e2,h2⟩:=own h2;exact f.dj j k e1 e2 b h1 h2 h3 h4
 ·obtain ⟨h,hj⟩:=nx (fun _ z=>by cases z) h;obtain ⟨b,as,O⟩:=f.o2 j e h;have nb:∀ c∈b::as,c≠a:=fun c hc z=>by
   subst z;exact O.dj c hc i d hi hs
  refine ⟨b,as,O.at_,by rw [aL (nb b aw)];exact O.ob,O.nd,O.out,fun c hc k e' hk=>?_,O.inn.upd fun z=>nb a (ao _ z) rfl⟩;by_cases nk:i=k
  ·subst nk;exact O.dj c hc i d hi
  ·rw [ae nk] at hk;exact O.dj c hc k e' hk
 ·exact f.u2 j k d1 d2 (nx (fun _ z=>by cases z) h1).1 (nx (fun _ z=>by cases z) h2).1
def d_ (ρ:ap):ap:=ρ.map fun s=>match s with
 |.own d=>.shr d
 |.ow2 dss=>.shr (.list (dss.map .list))
 |s=>s
open Classical in
theorem Fr.share     (f:Fr K H0 Hs0 la ρ σ H Hs):∃ Hs',Fr K H0 Hs0 la (d_ ρ) σ H Hs'/\cw H Hs H Hs'\/Fr K H0 Hs0 la (d_ ρ) σ H Hs':=by
 let P:ac->Prop:=fun b=>(∃ (i:Nat) (d:D),ρ[i]?=some (Sl.own d)/\σ[i]?=some (some (V.ref b)))\/∃ (i:Nat) (dss:List (List D)) (a:ac) (as:List ac),ρ[i]?=some (Sl.ow2 dss)/\O2 K H0 H Hs ρ σ i dss a as/\b∈a::as
 let Hs':Hp:=fun b=>if P b then H b else Hs b
 have pos:∀ b,P b->Hs' b=H b:=fun b h=>if_pos h;have neg:∀ b,¬ P b->Hs' b=Hs b:=fun b h=>if_neg h;have up:cR Hs Hs':=fun b o e=>by
  by_cases h:P b
  ·rw [pos b h];exact f.st.sub b o e
  ·rw [neg b h];exact e
 have none0:∀ b o,H0 b=some o->¬ P b:=fun b o e hP=>by
  rcases hP with ⟨i,d,h1,h2⟩|⟨i,dss,a,as,h1,O,hb⟩
  ·obtain ⟨a,o',k1,_,_,k4,_⟩:=f.ow i d h1;rw [h2] at k1;cases k1;rw [e] at k4;cases k4
  ·have:=(O.out b hb).2;rw [e] at this;cases this
 have un:∀ {j:Nat}{s:Sl},(d_ ρ)[j]?=some s->(∃ d,s=.shr d/\ρ[j]?=some (Sl.own d))\/(∃ dss:List (List D),s=.shr (.list (dss.map .list))/\ρ[j]?=some (Sl.ow2 dss))\/((∀ d,s≠.own d)/\(∀ d,s≠.ow2 d)/\ρ[j]?=some s):=fun {j s} e=>by
  unfold d_ at e;rw [aF] at e;cases h:ρ[j]? with
  |none=>rw [h] at e;cases e
  |some t =>
   rw [h] at e;cases t with
   |own d=>cases e;exact .inl ⟨d,rfl,rfl⟩
   |no=>cases e;exact .inr (.inr ⟨fun _ z=>(by cases z),fun _ z=>(by cases z),rfl⟩)
   |shr d=>cases e;exact .inr (.inr ⟨fun _ z=>(by cases z),fun _ z=>(by cases z),rfl⟩)
   |lck d=>cases e;exact .inr (.inr ⟨fun _ z=>(by cases z),fun _ z=>(by cases z),rfl⟩)
   |ow2 d=>cases e;exact .inr (.inl ⟨d,rfl,rfl⟩)
 refine ⟨Hs',.inr ⟨⟨f.st.all,f.st.sh.trans up,fun b o e=>?_,fun a o e t z=>?_⟩,by simp [d_,f.len],fun j d h=>?_,fun j d h=>?_,fun j d h=>?_,fun j k d1 d2 a h1 h2 _ _=>?_,f.lh,fun j d h=>?_,fun j k d1 d2 h1 h2=>?_⟩⟩
 ·by_cases h:P b
  ·rw [pos b h] at e;exact e
  ·rw [neg b h] at e;exact f.st.sub b o e
 ·rw [neg a (none0 a o e)];exact f.st.out a o e t z
 ·rcases un h with ⟨d',e,h'⟩|⟨dss,e,h'⟩|⟨_,_,h'⟩
  ·cases e;obtain ⟨a,o,k1,k2,k3,k4,k5⟩:=f.ow j d h';refine ⟨_,k1,?_⟩;have hp:Hs' a=some o:=by rw [pos a (.inl ⟨j,d,h',k1⟩)];exact k2
   have e:cR (upd Hs a o) Hs':=fun b u q=>by
    by_cases hb:b=a
    ·subst hb;rw [aK] at q;cases q;exact hp
    ·rw [aL hb] at q;exact up b u q
   exact (k5.share k3).same e
  ·cases e;obtain ⟨a,as,O⟩:=f.o2 j dss h';refine ⟨_,O.at_,?_⟩;have hp:∀ b∈a::as,∀ o,H b=some o->Hs' b=some o:=fun b hb o ho=>by rw [pos b (.inr ⟨j,dss,a,as,h',O,hb⟩)];exact ho
   refine .list (.of (hp a aw _ O.ob)) ?_;have go:∀ {as':List ac}{dss':List (List D)},(∀ b∈as',b∈a::as)->xJ K H Hs as' dss'->RDs K Hs' (as'.map V.ref) (dss'.map .list):=fun {as' dss'} hs hi=>by
    induction hi with
    |nil=>exact .nil
    |cons h1 h2 _ ih=>exact .cons (.list (.of (hp _ (hs _ aw) _ h1)) (h2.same up)) (ih fun b hb=>hs b (ao _ hb))
   exact go (fun b hb=>ao _ hb) O.inn
  ·obtain ⟨v,k1,k2⟩:=f.sh j d h';exact ⟨v,k1,k2.same up⟩
 ·rcases un h with ⟨d',e,h'⟩|⟨d',e,h'⟩|⟨n,_,h'⟩
  ·cases e
  ·cases e
  ·exact (n d rfl).elim
 ·rcases un h with ⟨d',e,h'⟩|⟨d',e,h'⟩|⟨_,_,h'⟩
  ·cases e
  ·cases e
  ·obtain ⟨a,o,k1,k2,k3,k4,k5,k6⟩:=f.lk j d h';exact ⟨a,o,k1,k2,k3,by rw [neg a (none0 a o k5)];exact k4,k5,k6.same up⟩
 ·rcases un h1 with ⟨d',e,h'⟩|⟨d',e,h'⟩|⟨n,_,h'⟩
  ·cases e
  ·cases e
  ·exact (n d1 rfl).elim
 ·rcases un h with ⟨d',e,h'⟩|⟨d',e,h'⟩|⟨_,n,h'⟩
  ·cases e
  ·cases e
  ·exact (n d rfl).elim
 ·rcases un h1 with ⟨d',e,h'⟩|⟨d',e,h'⟩|⟨_,n,h'⟩
  ·cases e
  ·cases e
  ·exact (n d1 rfl).elim
theorem Fr.shared     (f:Fr K H0 Hs0 la ρ σ H Hs):∃ Hs',Fr K H0 Hs0 la (d_ ρ) σ H Hs':=by
 obtain ⟨Hs',h|h⟩:=f.share
 ·exact ⟨Hs',h.1⟩
 ·exact ⟨Hs',h⟩
section
variable {c:C}{e a b:aP}{g ga gb:ap->R D}{pos:Pos}{x:Str}{st:du}{bE:List du}{gs gr:ap->R Fl}
def bz (g h:ap->R Fl):ap->R Fl:=fun ρ=>(g ρ).bind fun fl=>match fl with
 |.nx ρ'=>h ρ'
 |fl=>.ok fl
theorem dB:Dz c [] (fun ρ=>.ok (.nx ρ)):=.of fun ρ=>Se D8 fun D σ H h_1=>by obtain ⟨H0,Hs0,la,Hs,f,q⟩:=h_1;exact q σ H Hs f
theorem a_ (h:JS c st gs):Dz c [st] gs:=.of fun ρ=>yn (h ρ)
theorem aM (h:JS c st gs) (hr:Dz c bE gr):Dz c (st::bE) (bz gs gr):=.of fun ρ pins s σ H D I h_2=>by
 obtain ⟨H0,Hs0,la,Hs,f,q⟩:=h_2;unfold bz at q;cases hg:gs ρ with
 |no=>rw [hg] at q;exact q.elim
 |ex x n =>
  rw [hg] at q;refine iJ (h ρ) (lT (X:=c.X) (sts:=bE)) pins s σ H D I ⟨H0,Hs0,la,Hs,f,?_⟩;rw [hg];exact q
 |ok fl =>
  rw [hg,bind_ok] at q;cases fl with
  |nx ρ' =>
   refine iJ (h ρ) (hr ρ') pins s σ H D I ⟨H0,Hs0,la,Hs,f,?_⟩;rw [hg];exact fun σ' H' Hs' f'=>⟨H0,Hs0,la,Hs',f',q⟩
  |rt d =>
   refine iJ (h ρ) (lT (X:=c.X) (sts:=bE)) pins s σ H D I ⟨H0,Hs0,la,Hs,f,?_⟩;rw [hg];exact q
  |bk ρ' =>
   refine iJ (h ρ) (lT (X:=c.X) (sts:=bE)) pins s σ H D I ⟨H0,Hs0,la,Hs,f,?_⟩;rw [hg];exact q
  |ct ρ' =>
   refine iJ (h ρ) (lT (X:=c.X) (sts:=bE)) pins s σ H D I ⟨H0,Hs0,la,Hs,f,?_⟩;rw [hg];exact q
theorem sE            (f:Fr K H0 Hs0 la ρ σ H Hs)
  (h:nL K cls E H0 Hs0 la D' (r.bind k)) (m:∀ d v H' Hs',r=.ok d->cw H Hs H' Hs'->Fr K H0 Hs0 la ρ σ H' Hs'->RD K Hs' v d->Q v H'):TR K cls E ρ r σ H Q:=by
 refine ⟨H0,Hs0,la,Hs,f,?_⟩;cases r with
 |ok d=>exact fun v H' Hs' s r=>m d v H' Hs' rfl s (f.step s) r
 |ex c n=>exact fun H' Hs' s=>h H' Hs' (f.st.trans s)
 |no=>exact h
theorem sT            (f:Fr K H0 Hs0 la ρ σ H Hs)
  (h:nL K cls E H0 Hs0 la D' (r.bind k)) (m:∀ d H' Hs',r=.ok d->cw H Hs H' Hs'->Fr K H0 Hs0 la ρ σ H' Hs'->Q d H'):G7 K cls E ρ r σ H Q:=by
 refine ⟨H0,Hs0,la,Hs,f,?_⟩;cases r with
 |ok d=>exact fun H' Hs' s=>m d H' Hs' rfl s (f.step s)
 |ex c n=>exact fun H' Hs' s=>h H' Hs' (f.st.trans s)
 |no=>exact h
def eC (g:ap->R D):ap->R Fl:=fun ρ=>(g (d_ ρ)).bind fun d=>.ok (.rt d)
theorem cg (h:JE c e g):JS c (.Return (some e) pos) (eC g):=.of fun ρ=>zO (BI (h (d_ ρ))) fun D σ H h_3=>by
 obtain ⟨H0,Hs0,la,Hs,f,q⟩:=h_3;obtain ⟨Hs',f'⟩:=f.shared;refine sE f' q fun d v H1 Hs1 e1 s1 f1 r1=>?_;unfold eC at q;rw [e1,bind_ok] at q;exact q v H1 Hs1 f1.st r1
def f_ (t:ap->R Bool) (g h:ap->R Fl):ap->R Fl:=fun ρ=>(t ρ).bind fun b=>if b then g ρ else h ρ
theorem i4    (ht:JT c t gt) (hA:Dz c A gA) (hB:Dz c B gB):JS c (.If t A B pos) (f_ gt gA gB):=.of fun ρ=>zO (Mq (ht ρ) (hA ρ) (hB ρ)) fun D σ H h_5=>by
 obtain ⟨H0,Hs0,la,Hs,f,q⟩:=h_5;refine sT f q fun d H1 Hs1 e1 s1 f1=>?_;unfold f_ at q;rw [e1,bind_ok] at q;cases d with
 |true=>exact A3 ⟨H0,Hs0,la,Hs1,f1,q⟩
 |false=>exact wK ⟨H0,Hs0,la,Hs1,f1,q⟩
def eV (i:Nat) (g:ap->R D):ap->R Fl:=fun ρ=>(g ρ).bind fun d=>.ok (.nx (ρ.set i (.shr d)))
theorem eM (i:Nat) (h:JE c e g) (hN:c.X.N.Nodup) (hi:c.X.N[i]?=some x:=by rfl) (hx:K2 c.X.env.scope x:=by first|exact fF rfl|exact dX rfl) (hs:iB e (some (.Name x pos')) pos.line c.X.env=pure false:=by rfl)
  (hf:c.X.fn x=true\/c.X.env.scope.names.lookup x=some .local:=by first|exact .inl rfl|exact .inr rfl|assumption):JS c (.Assign [.Name x pos'] e pos) (eV i g):=.of fun ρ=>zO (yp hN hi hx (h ρ) hs hf) fun D σ H h_6=>by
 obtain ⟨H0,Hs0,la,Hs,f,q⟩:=h_6;refine sE f q fun d v H1 Hs1 e1 s1 f1 r1=>?_;unfold eV at q;rw [e1,bind_ok] at q;exact q _ H1 Hs1 (f1.set i r1)
def SM (K:a6) (H0 Hs0:Hp) (la:Nat->Option ac) (H Hs:Hp) (Q:St->Hp->Prop) (r:R ap):Prop:=match r with
 |.ok ρ'=>∀ σ',Fr K H0 Hs0 la ρ' σ' H Hs->Q σ' H
 |_=>False
inductive Qc (K:a6) (ρ:ap) (d:D) (r:R ap) (v:V) (σ:St) (H:Hp) (Q:St->Hp->Prop):Prop
 |mk (H0 Hs0:Hp) (la:Nat->Option ac) (Hs:Hp) (f:Fr K H0 Hs0 la ρ σ H Hs) (rd:RD K Hs v d) (q:SM K H0 Hs0 la H Hs Q r):Qc K ρ d r v σ H Q
def Oy (K:a6) (ρ:ap) (d:D) (r:R ap):TG:=Qc K ρ d r
inductive MO (K:a6) (ρ:ap) (ds:List D) (r:R ap) (vs:List V) (σ:St) (H:Hp) (Q:St->Hp->Prop):Prop
 |mk (H0 Hs0:Hp) (la:Nat->Option ac) (Hs:Hp) (f:Fr K H0 Hs0 la ρ σ H Hs) (rd:RDs K Hs vs ds) (q:SM K H0 Hs0 la H Hs Q r):MO K ρ ds r vs σ H Q
def Qd (K:a6) (ρ:ap) (ds:List D) (r:R ap):BJ:=MO K ρ ds r
structure JG (c:C) (t:aP) (k:D->ap->R ap):Prop where of ::
 run:∀ ρ d,PG c.X t (Oy c.X.K ρ d (k d ρ))
instance {c:C}{t:aP}{k:D->ap->R ap}:CoeFun (JG c t k) (fun _=>∀ ρ d,PG c.X t (Oy c.X.K ρ d (k d ρ))):=⟨JG.run⟩
structure P8 (c:C) (t:List aP) (k:List D->ap->R ap):Prop where of ::
 run:∀ ρ d,GB c.X t (Qd c.X.K ρ d (k d ρ))
instance {c:C}{t:List aP}{k:List D->ap->R ap}:CoeFun (P8 c t k) (fun _=>∀ ρ d,GB c.X t (Qd c.X.K ρ d (k d ρ))):=⟨P8.run⟩
theorem SO   (h:PG X e t) (m:∀ v σ H Q,t' v σ H Q->t v σ H Q):PG X e t':=fun pins s σ H v u Q I r q=>h pins s σ H v u Q I r (m v σ H Q q)
theorem Sj {X:Cx}{e:List aP}{t t':BJ} (h:GB X e t) (m:∀ v σ H Q,t' v σ H Q->t v σ H Q):GB X e t':=fun pins s σ H v u Q I r q=>h pins s σ H v u Q I r (m v σ H Q q)
def bR (i:Nat):D->ap->R ap:=fun d ρ=>.ok (ρ.set i (.shr d))
theorem cV (i:Nat) (hN:c.X.N.Nodup) (hi:c.X.N[i]?=some x:=by rfl) (hx:K2 c.X.env.scope x:=by first|exact fF rfl|exact dX rfl) (hf:c.X.fn x=true\/c.X.env.scope.names.lookup x=some .local:=by first|exact .inl rfl|exact .inr rfl|assumption) :
  JG c (.Name x pos) (bR i):=.of fun ρ d=>SO (dQ hN hi hx hf) fun v σ H Q h_11=>by obtain ⟨H0,Hs0,la,Hs,f,r,q⟩:=h_11;exact q _ (f.set i r)
def oB:List D->ap->R ap:=fun ds ρ=>match ds with
 |[]=>.ok ρ
 |_=>.no
def cJ (k:D->ap->R ap) (ks:List D->ap->R ap):List D->ap->R ap:=fun ds ρ=>match ds with
 |d::r=>(k d ρ).bind fun ρ'=>ks r ρ'
 |_=>.no
theorem pd:P8 c [] oB:=.of fun ρ ds=>Sj yo fun vs σ H Q h_12=>by
 obtain ⟨H0,Hs0,la,Hs,f,r,q⟩:=h_12;cases r with
 |nil=>exact ⟨rfl,q σ f⟩
 |cons _ _=>exact q.elim
theorem dG (h:JG c t kt) (hr:P8 c ts kts) (hs:(dh (t::ts) c.X.env).map (·.2)=ms t c.X.env::(dh ts c.X.env).map (·.2):=by rfl):P8 c (t::ts) (cJ kt kts):=.of fun ρ ds pins s σ H vs us Q I rv h_13=>by
 obtain ⟨H0,Hs0,la,Hs,f,r,q⟩:=h_13;cases r with
 |nil=>exact q.elim
 | @cons v vr d dr r1 r2 =>
  unfold cJ at q;cases hk:kt d ρ with
  |ok ρ' =>
   simp only [hk,bind_ok] at q;refine re (h ρ d) (hr ρ' dr) hs pins s σ H _ us Q I rv ⟨v,vr,rfl,H0,Hs0,la,Hs,f,r1,?_⟩;rw [hk];exact fun σ' f'=>⟨H0,Hs0,la,Hs,f',r2,q⟩
  |ex x n=>simp only [hk,bind_ex] at q;exact q.elim
  |no=>simp only [hk,bind_no] at q;exact q.elim
def mI (n:Nat) (ks:List D->ap->R ap):D->ap->R ap:=fun d ρ=>match d with
 |.tuple ds=>if ds.length=n then ks ds ρ else .no
 |_=>.no
theorem t6 (hc:c.X.calm=true) (h:P8 c ts kts) (hn:(dh ts c.X.env).length=n:=by rfl) (hst:(dh ts c.X.env).findIdx? (·.1)=none:=by rfl):JG c (.Tuple ts k pos) (mI n kts):=.of fun ρ d=>by
 cases d with
 |tuple ds =>
  refine SO (GD hc (h ρ ds) hn hst) fun v σ H Q h_14=>?_;obtain ⟨H0,Hs0,la,Hs,f,r,q⟩:=h_14;cases r with
  | @tuple p xs _ hq rs =>
   unfold mI at q;by_cases hl:ds.length=n
   ·simp only [if_pos hl] at q;exact ⟨p,xs,rfl,(ic.of (f.st.sub _ _ hq)),by rw [rs.length];exact hl,H0,Hs0,la,Hs,f,rs,q⟩
   ·simp only [if_neg hl] at q;exact q.elim
 |_=>exact fun pins s σ H v u Q I rv h_15=>by obtain ⟨H0,Hs0,la,Hs,f,r,q⟩:=h_15;exact q.elim
def An (g:ap->R D) (k:D->ap->R ap):ap->R Fl:=fun ρ=>(g ρ).bind fun d=>match k d ρ with
 |.ok ρ'=>.ok (.nx ρ')
 |_=>.no
theorem Cg (h:JE c e g) (hg:JG c t kt) (hs:Ef [t] e pos.line c.X.env=pure false:=by rfl) (hw:Eg [t] e c.X.env=pure none:=by rfl) (h1:(dh [t] c.X.env).map (·.2)=[ms t c.X.env]:=by rfl) :
  JS c (.Assign [t] e pos) (An g kt):=.of fun ρ=>by
 cases hr:g ρ with
 |ok d =>
  refine zO (BK (h ρ) (hg ρ d) hs hw h1) fun D σ H h_16=>?_;obtain ⟨H0,Hs0,la,Hs,f,q⟩:=h_16;refine sE (k:=fun d=>match kt d ρ with | .ok ρ'=>.ok (.nx ρ')|_=>.no) f q fun d' v H1 Hs1 e1 s1 f1 r1=>?_;rw [hr] at e1;cases e1;unfold An at q;rw [hr,bind_ok] at q;refine ⟨H0,Hs0,la,Hs1,f1,r1,?_⟩;cases hk:kt d ρ with
  |ok ρ'=>rw [hk] at q;exact fun σ' f'=>q σ' H1 Hs1 f'
  |ex x n=>rw [hk] at q;exact q.elim
  |no=>rw [hk] at q;exact q.elim
 |ex x n =>
  refine zO (BK (h ρ) (hg ρ .none) hs hw h1) fun D σ H h_17=>?_;obtain ⟨H0,Hs0,la,Hs,f,q⟩:=h_17;refine sE (k:=fun _=>.no) (D':=D) f (by unfold An at q;rw [hr] at q ⊢;exact q) fun d' v H1 Hs1 e1 s1 f1 r1=>?_;rw [hr] at e1;cases e1
 |no =>
  refine fun pins s σ H D I h_18=>?_;obtain ⟨H0,Hs0,la,Hs,f,q⟩:=h_18;unfold An at q;rw [hr] at q;exact q.elim
end
end
section
def K4 (K:a6) (J:It) (ds:List D) (Hn Hs:Hp):Prop:=∀ H2 Hs2,cR Hn H2->cR Hs Hs2->cR Hs2 H2 ->
 (∀ i,i<ds.length->J.go i H2)/\(∀ i,ds.length<=i->J.stop i H2)/\∀ i x H3,i<ds.length->J.yld i H2 x H3->∃ d Hs3,ds[i]?=some d/\cw H2 Hs2 H3 Hs3/\RD K Hs3 x d
theorem yN     (h:jI K Hn a vs) (r:RDs K Hs vs ds):K4 K (RK K a) ds Hn Hs:=fun H2 Hs2 e1 e2 e3=>by
 have q:=e1.seq h;refine ⟨fun i hi=>?_,fun i hi=>⟨vs,q,by rw [r.length];exact hi⟩,fun i x H3 hi y=>?_⟩
 ·have hi':i<vs.length:=by rw [r.length];exact hi
  exact ⟨vs,vs[i],q,b9 hi'⟩
 ·obtain ⟨rfl,y⟩:=y;obtain ⟨d,k1,k2⟩:=r.get (y vs q);exact ⟨d,Hs2,k1,.refl e3,k2.same e2⟩
theorem Ch     (h:ic K Hn a vs) (r:RDs K Hs vs ds):K4 K (RL K a) ds Hn Hs:=fun H2 Hs2 e1 e2 e3=>by
 have q:=e1.tup h;refine ⟨fun i hi=>?_,fun i hi=>⟨vs,q,by rw [r.length];exact hi⟩,fun i x H3 hi y=>?_⟩
 ·have hi':i<vs.length:=by rw [r.length];exact hi
  exact ⟨vs,vs[i],q,b9 hi'⟩
 ·obtain ⟨rfl,y⟩:=y;obtain ⟨d,k1,k2⟩:=r.get (y vs q);exact ⟨d,Hs2,k1,.refl e3,k2.same e2⟩
theorem HL  (x:Str):K4 K (PN x) (kr x) Hn Hs:=fun H2 Hs2 e1 e2 e3=>by
 have hl:(kr x).length=x.cps.size:=by simp [kr]
 refine ⟨fun i hi=>by rw [hl] at hi;exact hi,fun i hi=>by rw [hl] at hi;exact hi,fun i v H3 hi y=>?_⟩;obtain ⟨rfl,c,k1,rfl⟩:=y;refine ⟨.str ⟨#[c]⟩,Hs2,?_,.refl e3,.str _⟩;unfold kr;rw [aF,eI,k1];rfl
def oC (lo:Int) (n:Nat):List D:=(bW n).map fun (k:Nat)=>eG (lo+k)
theorem HM  (lo:Int) (n:Nat):K4 K (Rf lo n) (oC lo n) Hn Hs:=fun H2 Hs2 e1 e2 e3=>by
 have hl:(oC lo n).length=n:=by simp [oC]
 refine ⟨fun i hi=>by rw [hl] at hi;exact hi,fun i hi=>by rw [hl] at hi;exact hi,fun i v H3 hi y=>?_⟩;obtain ⟨rfl,rfl⟩:=y;refine ⟨.int (lo+i),Hs2,?_,.refl e3,.int _⟩;rw [hl] at hi;unfold oC;rw [aF,Es hi];rfl
def nD (n:Nat):List D->List D
 |[]=>[]
 |d::r=>.tuple [.int n,d]::nD (n+1) r
theorem xO:∀ (ds:List D) (n i:Nat),(nD n ds)[i]?=(ds[i]?).map fun d=>dD [.int ((n+i:Nat):Int),d]
 |[],_,_=>by simp [nD]
 |d::r,n,0=>by simp [nD]
 |d::r,n,i+1=>by
  simp only [nD,fh];rw [xO r (n+1) i,show n+1+i=n+(i+1) by omega]
theorem xP:∀ (ds:List D) (n:Nat),(nD n ds).length=ds.length
 |[],_=>rfl
 |d::r,n=>by simp [nD,xP r]
theorem Li     (h:ic K Hn a vs) (r:RDs K Hs vs ds):K4 K (S7 K a) (nD 0 ds) Hn Hs:=fun H2 Hs2 e1 e2 e3=>by
 have q:=e1.tup h;have hl:=xP ds 0;refine ⟨fun i hi=>?_,fun i hi=>⟨vs,q,by rw [r.length];omega⟩,fun i x H3 hi y=>?_⟩
 ·have hi':i<vs.length:=by rw [r.length];omega
  exact ⟨vs,vs[i],q,b9 hi'⟩
 ·obtain ⟨p,hp,rfl,y⟩:=y;obtain ⟨x,k0,rfl⟩:=y vs q;obtain ⟨d,k1,k2⟩:=r.get k0;have st:=cw.new (o:=.tup [.int i,x]) e3 hp;refine ⟨.tuple [.int i,d],_,?_,st,.tuple aK (.cons (.int _) (.cons ((k2.same e2).same st.sh) .nil))⟩;rw [xO,k1];simp
def qq:List D->List D->List D
 |x::xs,y::ys=>.tuple [x,y]::qq xs ys
 |_,_=>[]
theorem vw:∀ (xs ys:List D) (i:Nat) (x y:D),xs[i]?=some x->ys[i]?=some y->(qq xs ys)[i]?=some (.tuple [x,y])
 |x::xs,y::ys,0,_,_,h1,h2=>by simp at h1 h2;subst h1 h2;rfl
 |_::xs,_::ys,i+1,x,y,h1,h2=>by
  simp only [fh] at h1 h2;simp only [qq,fh];exact vw xs ys i x y h1 h2
 |[],_,_,_,_,h1,_=>by simp at h1
 |_::_,[],_,_,_,_,h2=>by simp at h2
theorem vy:∀ (xs ys:List D),(qq xs ys).length=min xs.length ys.length
 |x::xs,y::ys=>by simp [qq,vy xs ys]
 |[],_=>by simp [qq]
 |_::_,[]=>by simp [qq]
theorem HN     (h:ic K Hn a vs) (r:RDs K Hs vs ds) (h':ic K Hn b ws) (r':RDs K Hs ws es):K4 K (S8 K a b) (qq ds es) Hn Hs:=fun H2 Hs2 e1 e2 e3=>by
 have q:=e1.tup h;have q':=e1.tup h';have hl:=vy ds es;refine ⟨fun i hi=>?_,fun i hi=>⟨vs,ws,q,q',by rw [r.length,r'.length];omega⟩,fun i x H3 hi y=>?_⟩
 ·have h1:i<vs.length:=by rw [r.length];omega
  have h2:i<ws.length:=by rw [r'.length];omega
  exact ⟨vs,ws,vs[i],ws[i],q,q',b9 h1,b9 h2⟩
 ·obtain ⟨p,hp,rfl,y⟩:=y;obtain ⟨x,z,k0,k0',rfl⟩:=y vs ws q q';obtain ⟨d,k1,k2⟩:=r.get k0;obtain ⟨d',k1',k2'⟩:=r'.get k0';have st:=cw.new (o:=.tup [x,z]) e3 hp;exact ⟨.tuple [d,d'],_,vw ds es i d d' k1 k1',st,.tuple aK (.cons ((k2.same e2).same st.sh) (.cons ((k2'.same e2).same st.sh) .nil))⟩
inductive Qe (K:a6) (cls:Str->ac) (E:XK) (ρ:ap) (r:R (List D)) (σ:St) (H:Hp) (Q:It->Hp->Prop):Prop
 |mk (H0 Hs0:Hp) (la:Nat->Option ac) (Hs:Hp) (f:Fr K H0 Hs0 la ρ σ H Hs) (q:Fin K cls E H Hs r fun ds=>∀ J H' Hs' Hn,cw H Hs H' Hs'->cR Hn H'->K4 K J ds Hn Hs'->Q J H'):Qe K cls E ρ r σ H Q
def Rq (K:a6) (cls:Str->ac) (E:XK) (ρ:ap) (r:R (List D)):TI:=Qe K cls E ρ r
inductive Qf (K:a6) (cls:Str->ac) (E:XK) (ρ:ap) (r:R (List D)) (σ:St) (H:Hp) (Q:It->Hp->Prop):Prop
 |mk (H0 Hs0:Hp) (la:Nat->Option ac) (Hs:Hp) (f:Fr K H0 Hs0 la ρ σ H Hs) (q:Fin K cls E H Hs r fun ds=>∀ J H' Hs',cw H Hs H' Hs'->K4 K J ds Hs' Hs'->Q J H'):Qf K cls E ρ r σ H Q
def SQ (K:a6) (cls:Str->ac) (E:XK) (ρ:ap) (r:R (List D)):TI:=Qf K cls E ρ r
structure JI (c:C) (tg it:aP) (g:ap->R (List D)):Prop where of ::
 run:∀ ρ,PI c.X tg it (Rq c.X.K c.cls c.E ρ (g ρ))
instance {c:C}{tg it:aP}{g:ap->R (List D)}:CoeFun (JI c tg it g) (fun _=>∀ ρ,PI c.X tg it (Rq c.X.K c.cls c.E ρ (g ρ))):=⟨JI.run⟩
structure Gd (c:C) (tg it:aP) (g:ap->R (List D)):Prop where of ::
 run:∀ ρ,PI c.X tg it (SQ c.X.K c.cls c.E ρ (g ρ))
instance {c:C}{tg it:aP}{g:ap->R (List D)}:CoeFun (Gd c tg it g) (fun _=>∀ ρ,PI c.X tg it (SQ c.X.K c.cls c.E ρ (g ρ))):=⟨Gd.run⟩
theorem Ci   (h:PI X tg e t) (m:∀ σ H Q,t' σ H Q->t σ H Q):PI X tg e t':=fun pins s σ H Q I q=>h pins s σ H Q I (m σ H Q q)
section
def vz:D->R (List D)
 |.list ds=>.ok ds
 |.tuple ds=>.ok ds
 |.str x=>.ok (kr x)
 |_=>.no
def m7 (g:ap->R D):ap->R (List D):=fun ρ=>(g ρ).bind vz
theorem iM (h:JB c l g):JI c tg l (m7 g):=.of fun ρ=>by
 cases hr:g ρ with
 |no=>exact fun pins s σ H Q I h_0=>by obtain ⟨H0,Hs0,la,Hs,f,q⟩:=h_0;exact by unfold m7 at q;rw [hr] at q;exact q.elim
 |ex x n =>
  refine Ci (rf (h ρ)) fun σ H Q h_1=>?_;obtain ⟨H0,Hs0,la,Hs,f,q⟩:=h_1;refine one f q fun d v H1 Hs1 e1 s1 f1 r1=>?_;rw [hr] at e1;cases e1
 |ok d =>
  cases d with
  |list ds =>
   refine Ci (rf (h ρ)) fun σ H Q h_2=>?_;obtain ⟨H0,Hs0,la,Hs,f,q⟩:=h_2;refine one f q fun d v H1 Hs1 e1 s1 f1 r1=>?_;rw [hr] at e1;cases e1;unfold m7 at q;rw [hr,bind_ok] at q;obtain ⟨a,vs,rfl,qa,ra⟩:=r1.list f1.st.sub;exact ⟨a,rfl,⟨vs,qa⟩,q _ H1 Hs1 H1 s1 (.refl _) (yN qa ra)⟩
  |tuple ds =>
   refine Ci (BN (h ρ)) fun σ H Q h_3=>?_;obtain ⟨H0,Hs0,la,Hs,f,q⟩:=h_3;refine one f q fun d v H1 Hs1 e1 s1 f1 r1=>?_;rw [hr] at e1;cases e1;unfold m7 at q;rw [hr,bind_ok] at q;obtain ⟨a,vs,rfl,qa,ra,_⟩:=r1.tuple f1.st.sub;exact ⟨a,rfl,⟨vs,qa⟩,q _ H1 Hs1 H1 s1 (.refl _) (Ch qa ra)⟩
  |str x =>
   refine Ci (Hj (h ρ)) fun σ H Q h_4=>?_;obtain ⟨H0,Hs0,la,Hs,f,q⟩:=h_4;refine one f q fun d v H1 Hs1 e1 s1 f1 r1=>?_;rw [hr] at e1;cases e1;unfold m7 at q;rw [hr,bind_ok] at q;exact ⟨x,r1.str,q _ H1 Hs1 H1 s1 (.refl _) (HL x)⟩
  |none=>exact fun pins s σ H Q I h_5=>by obtain ⟨H0,Hs0,la,Hs,f,q⟩:=h_5;exact by unfold m7 at q;rw [hr] at q;exact q.elim
  |bool _=>exact fun pins s σ H Q I h_6=>by obtain ⟨H0,Hs0,la,Hs,f,q⟩:=h_6;exact by unfold m7 at q;rw [hr] at q;exact q.elim
  |int _=>exact fun pins s σ H Q I h_7=>by obtain ⟨H0,Hs0,la,Hs,f,q⟩:=h_7;exact by unfold m7 at q;rw [hr] at q;exact q.elim
  |dict _=>exact fun pins s σ H Q I h_8=>by obtain ⟨H0,Hs0,la,Hs,f,q⟩:=h_8;exact by unfold m7 at q;rw [hr] at q;exact q.elim
theorem yO (h:JE c l g):Gd c tg l (m7 g):=.of fun ρ=>by
 cases hr:g ρ with
 |no=>exact fun pins s σ H Q I h_9=>by obtain ⟨H0,Hs0,la,Hs,f,q⟩:=h_9;exact by unfold m7 at q;rw [hr] at q;exact q.elim
 |ex x n =>
  refine Ci (rf (h ρ)) fun σ H Q h_10=>?_;obtain ⟨H0,Hs0,la,Hs,f,q⟩:=h_10;refine uu f q fun d v H1 Hs1 e1 s1 f1 r1=>?_;rw [hr] at e1;cases e1
 |ok d =>
  cases d with
  |list ds =>
   refine Ci (rf (h ρ)) fun σ H Q h_11=>?_;obtain ⟨H0,Hs0,la,Hs,f,q⟩:=h_11;refine uu f q fun d v H1 Hs1 e1 s1 f1 r1=>?_;rw [hr] at e1;cases e1;unfold m7 at q;rw [hr,bind_ok] at q;cases r1 with
   |list qa ra=>exact ⟨_,rfl,⟨_,f1.st.sub.seq qa⟩,q _ H1 Hs1 s1 (yN qa ra)⟩
  |tuple ds =>
   refine Ci (BN (h ρ)) fun σ H Q h_12=>?_;obtain ⟨H0,Hs0,la,Hs,f,q⟩:=h_12;refine uu f q fun d v H1 Hs1 e1 s1 f1 r1=>?_;rw [hr] at e1;cases e1;unfold m7 at q;rw [hr,bind_ok] at q;cases r1 with
   |tuple qa ra=>exact ⟨_,rfl,⟨_,(ic.of (f1.st.sub _ _ qa))⟩,q _ H1 Hs1 s1 (Ch (.of qa) ra)⟩
  |str x =>
   refine Ci (Hj (h ρ)) fun σ H Q h_13=>?_;obtain ⟨H0,Hs0,la,Hs,f,q⟩:=h_13;refine uu f q fun d v H1 Hs1 e1 s1 f1 r1=>?_;rw [hr] at e1;cases e1;unfold m7 at q;rw [hr,bind_ok] at q;cases r1 with
   |str _=>exact ⟨x,rfl,q _ H1 Hs1 s1 (HL x)⟩
  |none=>exact fun pins s σ H Q I h_14=>by obtain ⟨H0,Hs0,la,Hs,f,q⟩:=h_14;exact by unfold m7 at q;rw [hr] at q;exact q.elim
  |bool _=>exact fun pins s σ H Q I h_15=>by obtain ⟨H0,Hs0,la,Hs,f,q⟩:=h_15;exact by unfold m7 at q;rw [hr] at q;exact q.elim
  |int _=>exact fun pins s σ H Q I h_16=>by obtain ⟨H0,Hs0,la,Hs,f,q⟩:=h_16;exact by unfold m7 at q;rw [hr] at q;exact q.elim
  |dict _=>exact fun pins s σ H Q I h_17=>by obtain ⟨H0,Hs0,la,Hs,f,q⟩:=h_17;exact by unfold m7 at q;rw [hr] at q;exact q.elim
theorem Gd.i (h:Gd c tg l gs):JI c tg l gs:=.of fun ρ=>Ci (h ρ) fun σ H Q ⟨H0,Hs0,la,Hs,f,q⟩=>⟨H0,Hs0,la,Hs,f,by
 cases hr:gs ρ with
 |ok ds=>rw [hr] at q;exact fun J H' Hs' s i=>q J H' Hs' Hs' s s.sub i
 |ex x n=>rw [hr] at q;exact q
 |no=>rw [hr] at q;exact q⟩
def Cj:List D->R (List D)
 |[.int j]=>if -(2 ^ 62)<=j/\j<2 ^ 62 then .ok (oC 0 j.toNat) else .no
 |_=>.no
def xQ (gs:ap->R (List D)):ap->R (List D):=fun ρ=>(gs ρ).bind Cj
theorem qr (hg:Gl c.X "range") (hm:c.X.mg "range"=none) (ha:MH c [a] gs) (hs:aq [a] c.X.env=[(false,bU a c.X.env)]:=by rfl):Gd c tg (.Call (.Name "range" p) [a] [] pos) (xQ gs):=.of fun ρ=>Ci (ED hg hm (ha ρ) hs) fun σ H Q h_18=>by
 obtain ⟨H0,Hs0,la,Hs,f,q⟩:=h_18;refine HD f q fun ds vs H1 Hs1 e1 s1 f1 r1=>?_;unfold xQ at q;rw [e1,bind_ok] at q;unfold Cj at q;split at q
 ·rename_i j
  by_cases hj:-(2 ^ 62)<=j/\j<2 ^ 62
  ·rw [if_pos hj] at q;obtain ⟨x,rfl,rx⟩:=r1.one;exact ⟨j,by rw [rx.int],hj.1,hj.2,q _ H1 Hs1 s1 (HM 0 _)⟩
  ·rw [if_neg hj] at q;exact q.elim
 ·exact q.elim
def Rr:List D->R (List D)
 |[.tuple ds]=>.ok (nD 0 ds)
 |_=>.no
def HP (gs:ap->R (List D)):ap->R (List D):=fun ρ=>(gs ρ).bind Rr
theorem RDs.one    (h:RDs K H xs [d]):∃ x,xs=[x]/\RD K H x d:=by
 cases h with|cons a t=>cases t;exact ⟨_,rfl,a⟩
theorem RDs.two {K:a6}{H:Hp}{xs:List V}{d e:D} (h:RDs K H xs [d,e]):∃ x y,xs=[x,y]/\RD K H x d/\RD K H y e:=by
 cases h with|cons a t=>cases t with|cons b t=>cases t;exact ⟨_,_,rfl,a,b⟩
theorem HQ {x1} (hg:Gl c.X "enumerate") (hm:c.X.mg "enumerate"=none) (ha:Dt c [a] gs) (hs:aq [a] c.X.env=[(false,bU a c.X.env)]:=by rfl):Gd c (.Tuple elts x1 tpos) (.Call (.Name "enumerate" p) [a] [] pos) (HP gs):=.of fun ρ=>Ci (L3 hg hm (ha ρ) hs) fun σ H Q h_20=>by
 obtain ⟨H0,Hs0,la,Hs,f,q⟩:=h_20;refine Aj f q fun ds vs H1 Hs1 e1 s1 f1 r1=>?_;unfold HP at q;rw [e1,bind_ok] at q;unfold Rr at q;split at q
 ·obtain ⟨x,rfl,rx⟩:=r1.one;cases rx with
  |tuple qa ra=>exact ⟨_,_,rfl,(ic.of (f1.st.sub _ _ qa)),q _ H1 Hs1 s1 (Li (.of qa) ra)⟩
 ·exact q.elim
def zp:List D->R (List D)
 |[.tuple ds,.tuple es]=>.ok (qq ds es)
 |_=>.no
def Lj (gs:ap->R (List D)):ap->R (List D):=fun ρ=>(gs ρ).bind zp
theorem Lk {x1} (hg:Gl c.X "zip") (hm:c.X.mg "zip"=none) (ha:Dt c [a,b] gs) (hs:aq [a,b] c.X.env=[(false,bU a c.X.env),(false,bU b c.X.env)]:=by rfl) (hs2:aq [b] c.X.env=[(false,bU b c.X.env)]:=by rfl) :
  Gd c (.Tuple elts x1 tpos) (.Call (.Name "zip" p) [a,b] [] pos) (Lj gs):=.of fun ρ=>Ci (Ho hg hm (ha ρ) hs hs2) fun σ H Q h_21=>by
 obtain ⟨H0,Hs0,la,Hs,f,q⟩:=h_21;refine Aj f q fun ds vs H1 Hs1 e1 s1 f1 r1=>?_;unfold Lj at q;rw [e1,bind_ok] at q;unfold zp at q;split at q
 ·obtain ⟨x,y,rfl,rx,ry⟩:=r1.two;cases rx with
  |tuple qa ra =>
   cases ry with
   |tuple qb rb=>exact ⟨_,_,_,_,rfl,(ic.of (f1.st.sub _ _ qa)),(ic.of (f1.st.sub _ _ qb)),q _ H1 Hs1 s1 (HN (.of qa) ra (.of qb) rb)⟩
 ·exact q.elim
end
end
section
inductive SS (K:a6) (cls:Str->ac) (E:XK) (ρ:ap) (r:R D) (σ:St) (H:Hp) (Q:VK):Prop
 |mk (H0 Hs0:Hp) (la:Nat->Option ac) (Hs:Hp) (f:Fr K H0 Hs0 la ρ σ H Hs) (q:Fin K cls E H Hs r fun d=>∀ a o H' Hs',cw H Hs H' Hs'->H' a=none->kS K Hs' o d->Q (.ref a) (upd H' a o)):SS K cls E ρ r σ H Q
def TN (K:a6) (cls:Str->ac) (E:XK) (ρ:ap) (r:R D):TE:=SS K cls E ρ r
structure JN (c:C) (e:aP) (g:ap->R D):Prop where of ::
 run:∀ ρ,PE c.X e (TN c.X.K c.cls c.E ρ (g ρ))
instance {c:C}{e:aP}{g:ap->R D}:CoeFun (JN c e g) (fun _=>∀ ρ,PE c.X e (TN c.X.K c.cls c.E ρ (g ρ))):=⟨JN.run⟩
section
variable {c:C}{e a b l tg:aP}{g ga gb:ap->R D}{pos p:Pos}{gs:ap->R (List D)}{es:List aP}{x:Str}
theorem Sk        (q:TR K cls E ρ r σ H Q):TN K cls E ρ r σ H Q:=by
 obtain ⟨H0,Hs0,la,Hs,f,q⟩:=q;refine ⟨H0,Hs0,la,Hs,f,?_⟩;cases r with
 |ok d=>exact fun a o H' Hs' s n r=>q _ _ _ (s.trans (.new s.sub n)) (r.share (s.sub.free n))
 |ex x n=>exact q
 |no=>exact q
theorem JN.je (h:JN c e g):JE c e g:=.of fun ρ=>pW (h ρ) fun σ H Q q=>Sk q
theorem Oz (h:Dt c es gs):JN c (.List es pos) (eP gs .list):=.of fun ρ=>pW (lF (h ρ)) fun σ H Q h_0=>by
 obtain ⟨H0,Hs0,la,Hs,f,q⟩:=h_0;refine Aj f q fun ds vs H1 Hs1 e1 s1 f1 r1=>?_;unfold eP at q;rw [e1,bind_ok] at q;by_cases hl:ds.length<=1000
 ·rw [if_pos hl] at q;exact ⟨bw (cq (by rw [r1.length];exact hl)),fun p hp=>q p _ H1 Hs1 s1 hp (.lst r1)⟩
 ·rw [if_neg hl] at q;exact q.elim
theorem DA:JN c (.Dict [] [] pos) (fun _=>.ok (.dict [])):=.of fun ρ=>pW GU fun σ H Q h_1=>by obtain ⟨H0,Hs0,la,Hs,f,q⟩:=h_1;exact fun p hp=>q p _ H Hs (.refl f.st.sub) hp (.dK .nil)
def nE (i:Nat) (g:ap->R D):ap->R Fl:=fun ρ=>(g ρ).bind fun d=>.ok (.nx (ρ.set i (.own d)))
theorem sN            (f:Fr K H0 Hs0 la ρ σ H Hs)
  (h:nL K cls E H0 Hs0 la D' (r.bind k)) (m:∀ d a o H' Hs',r=.ok d->Fr K H0 Hs0 la ρ σ H' Hs'->H' a=none->kS K Hs' o d->Q (.ref a) (upd H' a o)):TN K cls E ρ r σ H Q:=by
 refine ⟨H0,Hs0,la,Hs,f,?_⟩;cases r with
 |ok d=>exact fun a o H' Hs' s n r=>m d a o H' Hs' rfl (f.step s) n r
 |ex c n=>exact fun H' Hs' s=>h H' Hs' (f.st.trans s)
 |no=>exact h
theorem yP (i:Nat) (h:JN c e g) (hN:c.X.N.Nodup) (hi:c.X.N[i]?=some x:=by rfl) (hx:K2 c.X.env.scope x:=by first|exact fF rfl|exact dX rfl) (hs:iB e (some (.Name x pos')) pos.line c.X.env=pure false:=by rfl)
  (hf:c.X.fn x=true\/c.X.env.scope.names.lookup x=some .local:=by first|exact .inl rfl|exact .inr rfl|assumption):JS c (.Assign [.Name x pos'] e pos) (nE i g):=.of fun ρ=>zO (yp hN hi hx (h ρ) hs hf) fun D σ H h_2=>by
 obtain ⟨H0,Hs0,la,Hs,f,q⟩:=h_2;refine sN f q fun d a o H1 Hs1 e1 f1 n1 r1=>?_;unfold nE at q;rw [e1,bind_ok] at q;exact q _ _ Hs1 (f1.setO i n1 r1)
def HR {α:Type}:R α->R α
 |.ex _ _=>.no
 |r=>r
theorem DB {α:Type}{r:R α}{a:α} (h:HR r=.ok a):r=.ok a:=by
 cases r<;>first|exact h|cases h
def gE (f:D->R (Option D)):List D->R (List D)
 |[]=>.ok []
 |d::r=>(f d).bind fun o=>(gE f r).bind fun ys=>.ok (match o with
  |some y=>y::ys
  |none=>ys)
theorem vA   (h:gE f (d::r)=.ok ys):∃ o zs,f d=.ok o/\gE f r=.ok zs/\ys=o.toList++zs:=by
 unfold gE at h;cases hf:f d with
 |ok o =>
  rw [hf,bind_ok] at h;cases hm:gE f r with
  |ok zs =>
   rw [hm,bind_ok] at h;cases h;cases o<;>exact ⟨_,zs,rfl,rfl,rfl⟩
  |ex x n=>rw [hm] at h;cases h
  |no=>rw [hm] at h;cases h
 |ex x n=>rw [hf] at h;cases h
 |no=>rw [hf] at h;cases h
def Ll:Sl->Sl
 |.own d=>.lck d
 |.ow2 _=>.no
 |s=>s
def m9 (nt:Nat) (ix:List Nat) (ρ:ap):ap:=kW nt Sl.no++ix.map fun i=>Ll ((ρ[i]?).getD .no)
def Qg (nt:Nat):D->ap->R ap:=match nt with
 | 1=>bR 0
 | 2=>mI 2 (cJ (bR 0) (cJ (bR 1) oB))
 |_=>fun _ _=>.no
def i5 (nt:Nat) (ρ:ap) (gt:ap->R Bool) (ge:ap->R D):D->R (Option D):=fun d=>HR ((Qg nt d ρ).bind fun ρ'=>(gt ρ').bind fun b=>if b then (ge ρ').bind fun y=>.ok (some y) else .ok none)
def iu (nt:Nat) (ix:List Nat) (gi:ap->R (List D)) (gt:ap->R Bool) (ge:ap->R D):ap->R D:=fun ρ=>(gi ρ).bind fun ds=>if ds.length<=1000 then (gE (i5 nt (m9 nt ix ρ) gt ge) ds).bind fun ys=>.ok (.list ys) else .no
structure Qh (c:C) (ifs:List aP) (g:ap->R Bool):Prop where of ::
 run:∀ ρ,KR c.X ifs (G7 c.X.K c.cls c.E ρ (g ρ))
instance {c:C}{ifs:List aP}{g:ap->R Bool}:CoeFun (Qh c ifs g) (fun _=>∀ ρ,KR c.X ifs (G7 c.X.K c.cls c.E ρ (g ρ))):=⟨Qh.run⟩
theorem fX:Qh c [] (fun _=>.ok true):=.of fun ρ pins s σ H Q I h_3=>by obtain ⟨H0,Hs0,la,Hs,f,q⟩:=h_3;exact KS pins s σ H Q I (q H Hs (.refl f.st.sub))
theorem DC (h:JT c e gt):Qh c [e] gt:=.of fun ρ=>KU (h ρ)
def F9 (K:a6) (nt:Nat):TG:=match nt with
 | 1=>tT 0
 |_=>NT K 2 (L2.af (tT 0) (L2.af (tT 1) L2.aV))
theorem yQ {K:a6}{nt:Nat} (h:nt=1\/nt=2):Of nt (F9 K nt):=by
 rcases h with rfl|rfl
 ·exact GX (by decide)
 ·exact KY (by decide) (by decide)
theorem Ao {K:a6}{nt:Nat}{H0 Hs0 H Hs:Hp}{la:Nat->Option ac}{ρ ρ':ap}{σ:St}{v:V}{d:D}{Q:St->Hp->Prop} (hnt:nt=1\/nt=2) (f:Fr K H0 Hs0 la ρ σ H Hs) (r:RD K Hs v d) (hb:Qg nt d ρ=.ok ρ')
  (q:∀ σ',Fr K H0 Hs0 la ρ' σ' H Hs->Q σ' H):F9 K nt v σ H Q:=by
 rcases hnt with rfl|rfl
 ·cases hb;exact q _ (f.set 0 r)
 ·unfold Qg mI at hb;simp only at hb;cases r with
  | @tuple p xs ds hq rs =>
   simp only at hb;split at hb
   ·rename_i hl
    cases rs with
    |nil=>cases hl
    |cons r1 rs =>
     cases rs with
     |nil=>cases hl
     |cons r2 rs =>
      cases rs with
      |nil =>
       cases hb;exact ⟨p,_,rfl,(ic.of (f.st.sub _ _ hq)),rfl,_,_,rfl,_,_,rfl,rfl,q _ ((f.set 0 r1).set 1 r2)⟩
      |cons _ _=>simp at hl
   ·cases hb
  |none=>cases hb
  |bool _=>cases hb
  |int _=>cases hb
  |str _=>cases hb
  |list _ _=>cases hb
  |dictK _ _=>cases hb
  |dictT _ _ _=>cases hb
  |dictF _ _ _=>cases hb
theorem Fr.block     (f:Fr K H0 Hs0 la ρ σ H Hs) (nt:Nat) (ix:List Nat):∃ la',Fr K H Hs la' (m9 nt ix ρ) (L2.kj nt ix σ) H Hs:=by
 have lk:∀ (j:Nat) (d:D),(m9 nt ix ρ)[j]?=some (Sl.lck d)->∃ a o,(L2.kj nt ix σ)[j]?=some (some (V.ref a))/\H a=some o/\Hs a=none/\kS K Hs o d:=fun j d h=>by
  unfold m9 at h;by_cases hj:j<nt
  ·rw [bh (by simpa using hj),bD,if_pos hj] at h;cases h
  ·have hj:nt<=j:=by omega
   rw [b6 (by simpa using hj),cx,aF] at h;cases hi:ix[j-nt]? with
   |none=>rw [hi] at h;cases h
   |some i =>
    rw [hi] at h;have at_:∀ v,σ[i]?=some (some v)->(L2.kj nt ix σ)[j]?=some (some v):=fun v k1=>by
     unfold L2.kj;rw [b6 (by simpa using hj),cx,aF,hi];simp [k1]
    cases hr:ρ[i]? with
    |none=>simp only [cQ,hr,f9,Ll] at h;cases h
    |some s =>
     simp only [cQ,hr,jk] at h;cases s with
     |own d' =>
      cases h;obtain ⟨a,o,k1,k2,k3,k4,k5⟩:=f.ow i d hr;exact ⟨a,o,at_ _ k1,k2,k3,k5⟩
     |lck d' =>
      cases h;obtain ⟨a,o,k1,k2,k3,k4,k5,k6⟩:=f.lk i d hr;exact ⟨a,o,at_ _ k1,k3,k4,k6⟩
     |no=>cases h
     |shr _=>cases h
     |ow2 _=>cases h
 have no2:∀ (j:Nat) (d:List (List D)),¬ (m9 nt ix ρ)[j]?=some (Sl.ow2 d):=fun j d h=>by
  unfold m9 at h;by_cases hj:j<nt
  ·rw [bh (by simpa using hj),bD,if_pos hj] at h;cases h
  ·have hj:nt<=j:=by omega
   rw [b6 (by simpa using hj),cx,aF] at h;cases hi:ix[j-nt]? with
   |none=>rw [hi] at h;cases h
   |some i =>
    rw [hi] at h;cases hr:ρ[i]? with
    |none=>simp only [cQ,hr,f9,Ll] at h;cases h
    |some s =>
     simp only [cQ,hr,jk] at h;cases s<;>cases h
 refine ⟨fun j=>match (m9 nt ix ρ)[j]?,(L2.kj nt ix σ)[j]? with
  |some (Sl.lck _),some (some (V.ref a))=>some a
  |_,_=>none,.refl f.st.sub,by simp [m9,L2.kj],fun j d h=>?_,fun j d h=>?_,fun j d h=>?_,fun j k d1 d2 a h1 h2 _ _=>?_,fun j a h=>?_,fun j d h=>(no2 j d h).elim,fun j k d1 d2 h1 _=>(no2 j d1 h1).elim⟩
 case refine_3 =>
  obtain ⟨a,o,k1,k2,k3,k4⟩:=lk j d h;exact ⟨a,o,k1,by rw [h,k1],k2,k3,k2,k4⟩
 case refine_5 =>
  split at h
  ·rename_i d a' h1 h2
   cases h;obtain ⟨a',o,k1,k2,_⟩:=lk j d h1;rw [h2] at k1;cases k1;exact ⟨o,k2⟩
  ·cases h
 all_goals
  unfold m9 at *
 ·have h:=h;by_cases hj:j<nt
  ·rw [bh (by simpa using hj),bD,if_pos hj] at h;cases h
  ·have hj:nt<=j:=by omega
   rw [b6 (by simpa using hj),cx,aF] at h;cases hi:ix[j-nt]? with
   |none=>rw [hi] at h;cases h
   |some i =>
    rw [hi] at h;cases hr:ρ[i]? with
    |none=>simp only [cQ,hr,f9,Ll] at h;cases h
    |some s =>
     simp only [cQ,hr,jk] at h;cases s with
     |shr d' =>
      cases h;obtain ⟨v,k1,k2⟩:=f.sh i d hr;refine ⟨v,?_,k2⟩;unfold L2.kj;rw [b6 (by simpa using hj),cx,aF,hi];simp [k1]
     |no=>cases h
     |own _=>cases h
     |lck _=>cases h
     |ow2 _=>cases h
 ·have h:=h;by_cases hj:j<nt
  ·rw [bh (by simpa using hj),bD,if_pos hj] at h;cases h
  ·have hj:nt<=j:=by omega
   rw [b6 (by simpa using hj),cx,aF] at h;cases hi:ix[j-nt]? with
   |none=>rw [hi] at h;cases h
   |some i =>
    rw [hi] at h;cases hr:ρ[i]? with
    |none=>simp only [cQ,hr,f9,Ll] at h;cases h
    |some s =>
     simp only [cQ,hr,jk] at h;cases s<;>cases h
 ·have h1:=h1;by_cases hj:j<nt
  ·rw [bh (by simpa using hj),bD,if_pos hj] at h1;cases h1
  ·have hj:nt<=j:=by omega
   rw [b6 (by simpa using hj),cx,aF] at h1;cases hi:ix[j-nt]? with
   |none=>rw [hi] at h1;cases h1
   |some i =>
    rw [hi] at h1;cases hr:ρ[i]? with
    |none=>simp only [cQ,hr,f9,Ll] at h1;cases h1
    |some s =>
     simp only [cQ,hr,jk] at h1;cases s<;>cases h1
theorem vB (h:∀ d c n,f d≠.ex c n):∀ (ds:List D) (c:Str) (n:Option D),gE f ds≠.ex c n
 |[],c,n=>fun e=>by cases e
 |d::r,c,n=>fun e=>by
  unfold gE at e;cases hf:f d with
  |ok o =>
   rw [hf,bind_ok] at e;cases hm:gE f r with
   |ok zs=>rw [hm,bind_ok] at e;cases e
   |ex x k=>exact vB h r x k hm
   |no=>rw [hm] at e;cases e
  |ex x k=>exact h d x k hf
  |no=>rw [hf] at e;cases e
theorem Ap (nt:Nat) (ρ:ap) (gt:ap->R Bool) (ge:ap->R D) (d:D) (c:Str) (n:Option D):i5 nt ρ gt ge d≠.ex c n:=by
 unfold i5 HR;split<;>first|exact fun e=>by cases e|skip
 rename_i h
 exact fun e=>h c n e
inductive SU (K:a6) (f:D->R (Option D)) (ds ys:List D) (H1 Hs1:Hp) (i m:Nat) (acc:List V) (H':Hp):Prop
 |mk (done bE zs ya Hs':_) (h0:ds=done++bE) (h1:done.length=i) (h2:bE.length=m) (h3:cw H1 Hs1 H' Hs') (h4:RDs K Hs' acc ya) (h5:ya.length<=i) (h6:gE f bE=.ok zs) (h7:ys=ya++zs):SU K f ds ys H1 Hs1 i m acc H'
theorem DD {K:a6}{cls:Str->ac}{E:XK}{nt:Nat}{ix:List Nat}{gi:ap->R (List D)}{gt:ap->R Bool}{ge:ap->R D}{ρ:ap}{σ:St}{H:Hp}{Q:VK} (hnt:nt=1\/nt=2)
  (q:TN K cls E ρ (iu nt ix gi gt ge ρ) σ H Q) :
  GV nt ix (Rq K cls E ρ (gi ρ)) (F9 K nt) (fun σ H Q=>∃ ρ',G7 K cls E0 ρ' (gt ρ') σ H Q) (fun σ H Q=>∃ ρ',TR K cls E0 ρ' (ge ρ') σ H Q) σ H Q:=by
 obtain ⟨H0,Hs0,la,Hs,f,q⟩:=q;refine ⟨H0,Hs0,la,Hs,f,?_⟩;unfold iu at q;cases hi:gi ρ with
 |no=>rw [hi] at q;exact q
 |ex x n=>rw [hi] at q;exact q
 |ok ds =>
  rw [hi,bind_ok] at q;intro J H1 Hs1 Hn s1 sn it;by_cases hl:ds.length<=1000
  ·rw [if_pos hl] at q;cases hm:gE (i5 nt (m9 nt ix ρ) gt ge) ds with
   |no=>rw [hm] at q;exact q.elim
   |ex x n=>exact (vB (Ap _ _ _ _) _ _ _ hm).elim
   |ok ys =>
    rw [hm,bind_ok] at q;obtain ⟨lb,fb⟩:=(f.step s1).block nt ix;refine ⟨SU K (i5 nt (m9 nt ix ρ) gt ge) ds ys H1 Hs1,
     ⟨ds.length,[],ds,ys,[],Hs1,rfl,rfl,rfl,.refl s1.sub,.nil,bT _,hm,rfl⟩,?_⟩
    rintro i m acc H' ⟨done,bE,zs,ya,Hs',hds,hdl,hrl,st,ra,yl,hz,hy⟩;obtain ⟨igo,istop,iyld⟩:=it H' Hs' (sn.trans st.all) st.sh st.sub;cases bE with
    |nil =>
     left;cases hz;rw [bP] at hds hy;subst hy hds;exact ⟨istop i (by omega),fun p hp=>q p _ H' Hs' (s1.trans st) hp (.lst ra)⟩
    |cons d bE =>
     right;have hil:i<ds.length:=by rw [hds,aI,aD];omega
     refine ⟨igo i hil,cq (by rw [ra.length];omega),fun x H2 hyl=>?_⟩;obtain ⟨d',Hs2,hd,s2,r2⟩:=iyld i x H2 hil hyl;have hdd:d'=d:=by
      rw [hds,b6 (by omega)] at hd;simp [hdl] at hd;exact hd.symm
     subst hdd;obtain ⟨o,zs',hf,hz',rfl⟩:=vA hz;have hf:=DB hf;cases hb:Qg nt d' (m9 nt ix ρ) with
     |no=>rw [hb] at hf;cases hf
     |ex x n=>rw [hb] at hf;cases hf
     |ok ρ' =>
      rw [hb,bind_ok] at hf;refine Ao hnt ((fb.step st).step s2) r2 hb fun σ2 f2=>⟨ρ',?_⟩;refine ⟨_,_,_,Hs2,f2,?_⟩;cases ht:gt ρ' with
      |no=>rw [ht] at hf;cases hf
      |ex x n=>rw [ht] at hf;cases hf
      |ok b =>
       rw [ht,bind_ok] at hf;intro H3 Hs3 s3;cases b with
       |false =>
        rw [if_neg aU] at hf;cases hf;refine wK ⟨bE.length,by rw [<- hrl];simp,done++[d'],bE,zs',ya,Hs3,by rw [hds];simp,by simp [hdl],rfl,(st.trans s2).trans s3,ra.same (s2.trans s3).sh,by omega,hz',by simpa using hy⟩
       |true =>
        rw [if_pos rfl] at hf;refine A3 ⟨ρ',_,_,_,Hs3,f2.step s3,?_⟩;cases he:ge ρ' with
        |no=>rw [he] at hf;cases hf
        |ex x n=>rw [he] at hf;cases hf
        |ok y =>
         rw [he,bind_ok] at hf;cases hf;intro v H4 Hs4 s4 r4;exact ⟨bE.length,by rw [<- hrl];simp,done++[d'],bE,zs',ya++[y],Hs4,by rw [hds];simp,by simp [hdl],rfl,((st.trans s2).trans s3).trans s4,(ra.same ((s2.trans s3).trans s4).sh).append (.cons r4 .nil),by simp;omega,hz',by rw [hy];simp⟩
  ·rw [if_neg hl] at q;exact q.elim
def C.comp (c:C) (N':List Str) (scope:dW) (cl:List (Str×ac)) (A:ac) (s₀:aa) (H₀:Hp) (ex:List ac) (pn:List (ac×Obj)):C:=⟨cX c.X N' scope cl A s₀ H₀ ex pn,c.cls,E0⟩
variable {elt iter:aP}{ifs:List aP}{scope:dW}{N':List Str}{nt:Nat}{ix:List Nat}{gi:ap->R (List D)}{gt:ap->R Bool}{ge:ap->R D}
def rM (c:C) (N':List Str) (scope:dW) (nt:Nat) (tg:aP) (ifs:List aP) (elt:aP) (gt:ap->R Bool) (ge:ap->R D):Prop :=
 ∀ cl A s₀ H₀ ex pn,PG (c.comp N' scope cl A s₀ H₀ ex pn).X tg (F9 c.X.K nt)/\Qh (c.comp N' scope cl A s₀ H₀ ex pn) ifs gt/\JE (c.comp N' scope cl A s₀ H₀ ex pn) elt ge
theorem rM.at (h:rM c N' scope nt tg ifs elt gt ge):∀ cl A s₀ H₀ ex pn,PG (cX c.X N' scope cl A s₀ H₀ ex pn) tg (F9 c.X.K nt)/\KR (cX c.X N' scope cl A s₀ H₀ ex pn) ifs (fun σ H Q=>∃ ρ',G7 c.X.K c.cls E0 ρ' (gt ρ') σ H Q) /\
  PE (cX c.X N' scope cl A s₀ H₀ ex pn) elt (fun σ H Q=>∃ ρ',TR c.X.K c.cls E0 ρ' (ge ρ') σ H Q):=fun cl A s₀ H₀ ex pn=>by
 obtain ⟨h1,h2,h3⟩:=h cl A s₀ H₀ ex pn;exact ⟨h1,fun pins s σ H Q I h_4=>by obtain ⟨ρ',q⟩:=h_4;exact h2 ρ' pins s σ H Q I q,fun pins s σ H Q I h_5=>by obtain ⟨ρ',q⟩:=h_5;exact h3 ρ' pins s σ H Q I q⟩
theorem iN (nt:Nat) (hnt:nt=1\/nt=2) (hc:c.X.calm=true) (S:mD c.X scope N' nt ix) (hi:JI c tg iter gi) (hb:rM c N' scope nt tg ifs elt gt ge) (hs:∀ x,dk iter c.X.env x=pure x:=by intro _;rfl) :
  JN c (.ListComp elt [⟨tg,iter,ifs,0⟩] scope pos) (iu nt ix gi gt ge):=.of fun ρ=>pW (A7 hc S (yQ hnt) (hi ρ) hb.at hs) fun σ H Q q=>DD hnt q
theorem mJ (i:Nat) {spos py:Pos} (nt:Nat) (hnt:nt=1\/nt=2) (hN:c.X.N.Nodup) (hc:c.X.calm=true) (S:mD c.X scope N' nt ix) (hi:JI c tg iter gi) (hb:rM c N' scope nt tg ifs elt gt ge)
  (hiN:c.X.N[i]?=some x:=by rfl) (hy:c.X.env.scope.names.lookup x=some .local:=by rfl)
  (hsw:iB (.ListComp elt [⟨tg,iter,ifs,0⟩] scope pos) (some (.Name x py)) spos.line c.X.env=pure true:=by rfl)
  (hs:∀ x,dk iter c.X.env x=pure x:=by intro _;rfl):JS c (.Assign [.Name x py] (.ListComp elt [⟨tg,iter,ifs,0⟩] scope pos) spos) (nE i (iu nt ix gi gt ge)):=.of fun ρ=>zO (BZ hN hiN hy hc S (yQ hnt) (hi ρ) hb.at hsw hs) fun D σ H h_6=>by
 obtain ⟨H0,Hs0,la,Hs,f,q⟩:=h_6;refine DD (Q:=fun x H1=>D.nx (σ.set i (some x)) H1) hnt (sN f q fun d a o H1 Hs1 e1 f1 n1 r1=>?_);unfold nE at q;rw [e1,bind_ok] at q;exact q _ _ Hs1 (f1.setO i n1 r1)
end
end
section
theorem MP   (h:PS X.nox st t):PS X st t:=fun pins s σ H D I hw =>
 c6 (h pins s σ H D (I.wish _) hw) (fun _ _ q=>q.unwish) fun _ _ z=>dv z
def C.nox (c:C):C:=⟨c.X.nox,c.cls,E0⟩
def fQ (k:D->ap->R ap) (b:ap->R Fl):List D->ap->R Fl
 |[],ρ=>.ok (.nx ρ)
 |d::r,ρ=>match k d ρ with
  |.ok ρ1=>match b ρ1 with
   |.ok (.nx ρ')=>fQ k b r ρ'
   |.ok (.ct ρ')=>fQ k b r ρ'
   |.ok (.bk ρ')=>.ok (.nx ρ')
   |.ok (.rt d)=>.ok (.rt d)
   |_=>.no
  |_=>.no
def yR (i:Nat) (ρ:ap):ap:=match ρ[i]? with
 |some (Sl.own d)=>ρ.set i (.lck d)
 |_=>ρ
def vC (i:Nat) (ρ0 ρ:ap):ap:=match ρ0[i]?,ρ[i]? with
 |some (Sl.own _),some (Sl.lck d)=>ρ.set i (.own d)
 |_,_=>ρ
def Tc (i:Nat) (ρ0:ap):R Fl->R Fl
 |.ok (.nx ρ)=>.ok (.nx (vC i ρ0 ρ))
 |.ok (.bk ρ)=>.no
 |.ok (.ct ρ)=>.no
 |r=>r
section
inductive SW (K:a6) (cls:Str->ac) (E:XK) (H0 Hs0:Hp) (la:Nat->Option ac) (D':wI) (kt:D->ap->R ap) (gb:ap->R Fl) (ds:List D) (i m:Nat) (σ:St) (H:Hp):Prop
 |mk (done bE ρ Hs:_) (h0:ds=done++bE) (h1:done.length=i) (h2:bE.length=m) (h3:Fr K H0 Hs0 la ρ σ H Hs) (h4:nL K cls E H0 Hs0 la D' (fQ kt gb bE ρ)):SW K cls E H0 Hs0 la D' kt gb ds i m σ H
theorem HS
  (it:K4 K J ds Hn Hs0) (hn:cR Hn H0) (f:Fr K H0 Hs0 la ρ σ H Hs)
  (htg:∀ ρ d v σ H Q,Oy K ρ d (kt d ρ) v σ H Q->tg v σ H Q) (htb:∀ ρ D σ H,SR K cls E0 ρ (gb ρ) D σ H->tb D σ H)
  (q:nL K cls E H0 Hs0 la D' (fQ kt gb ds ρ)) :
  RN tg tb D' σ J H:=by
 refine ⟨SW K cls E H0 Hs0 la D' kt gb ds,⟨ds.length,[],ds,ρ,Hs,rfl,rfl,rfl,f,q⟩,?_⟩;rintro i m σ H ⟨done,bE,ρ,Hs,hds,hdl,hrl,f,q⟩;obtain ⟨igo,istop,iyld⟩:=it H Hs (hn.trans f.st.all) f.st.sh f.st.sub;cases bE with
 |nil =>
  rw [bP] at hds;subst hds;exact .inl ⟨istop i (by omega),q σ H Hs f⟩
 |cons d bE =>
  have hil:i<ds.length:=by rw [hds,aI,aD];omega
  refine .inr ⟨igo i hil,fun σ' H'=>∃ ρ' Hs',Fr K H0 Hs0 la ρ' σ' H' Hs'/\nL K cls E H0 Hs0 la D' (fQ kt gb bE ρ'),fun σ' H' ⟨ρ',Hs',f',q'⟩=>⟨bE.length,by rw [<- hrl];simp,done++[d],bE,ρ',Hs',by rw [hds];simp,by simp [hdl],rfl,f',q'⟩,fun x H2 hyl=>?_⟩;obtain ⟨d',Hs2,hd,s2,r2⟩:=iyld i x H2 hil hyl;have hdd:d'=d:=by
   rw [hds,b6 (by omega)] at hd;simp [hdl] at hd;exact hd.symm
  subst hdd;unfold fQ at q;refine htg ρ d' x σ H2 _ ⟨H0,Hs0,la,Hs2,f.step s2,r2,?_⟩;cases hk:kt d' ρ with
  |ex c n=>rw [hk] at q;exact q
  |no=>rw [hk] at q;exact q
  |ok ρ1 =>
   rw [hk] at q;intro σ2 f2;refine htb ρ1 _ σ2 H2 ⟨H0,Hs0,la,Hs2,f2,?_⟩;cases hg:gb ρ1 with
   |no=>simp only [hg] at q;exact q.elim
   |ex c n=>simp only [hg] at q;exact q.elim
   |ok fl =>
    simp only [hg] at q;cases fl with
    |nx ρ'=>exact fun σ' H' Hs' f'=>⟨ρ',Hs',f',q⟩
    |ct ρ'=>exact fun σ' H' Hs' f'=>⟨ρ',Hs',f',q⟩
    |bk ρ'=>exact fun σ' H' Hs' f'=>q σ' H' Hs' f'
    |rt d=>exact q
def pX (A B:Hp):Hp:=fun b=>match A b with
 |some o=>some o
 |none=>B b
theorem iO:cR A (pX A B):=fun b o e=>by unfold pX;rw [e]
theorem iw  (h:A b=none):pX A B b=B b:=by unfold pX;rw [h]
theorem Aq (h1:cR A H) (h2:cR B H):cR (pX A B) H:=fun b o e=>by
 cases h:A b with
 |some u=>unfold pX at e;rw [h] at e;cases e;exact h1 b o h
 |none=>rw [iw h] at e;exact h2 b o e
theorem HU (h1:cR A H) (h2:cR B H):cR B (pX A B):=fun b o e=>by
 cases h:A b with
 |some u =>
  unfold pX;rw [h];have:=h1 b u h;rw [h2 b o e] at this;exact this.symm
 |none=>rw [iw h];exact e
theorem Fr.into    (f:Fr K H0 Hs0 la ρ σ H Hs):Fr K (pX H0 Hs) Hs la ρ σ H Hs:=by
 have sub:=Aq f.st.all f.st.sub;refine ⟨⟨sub,.refl _,f.st.sub,fun a o e _ z=>z⟩,f.len,f.sh,fun i d h=>?_,fun i d h=>?_,f.dj,fun i a e=>let ⟨o,k⟩:=f.lh i a e;⟨o,iO _ _ k⟩,fun i d h=>?_,f.u2⟩
 ·obtain ⟨a,o,h1,h2,h3,h4,h5⟩:=f.ow i d h;exact ⟨a,o,h1,h2,h3,by rw [iw h4];exact h3,h5⟩
 ·obtain ⟨a,o,h1,h2,h3,h4,h5,h6⟩:=f.lk i d h;exact ⟨a,o,h1,h2,h3,h4,iO _ _ h5,h6⟩
 ·obtain ⟨a,as,O⟩:=f.o2 i d h;exact ⟨a,as,O.at_,O.ob,O.nd,fun b hb=>⟨(O.out b hb).1,by rw [iw (O.out b hb).2];exact (O.out b hb).1⟩,O.dj,O.inn⟩
theorem cw.outof (s:cw H0 Hs0 H1 Hs1) (t:cw (pX H0 Hs1) Hs1 H' Hs'):cw H0 Hs0 H' Hs' :=
 ⟨iO.trans t.all,s.sh.trans t.sh,t.sub,fun a o e n z=>t.out a o (iO _ _ e) n (s.out a o e n z)⟩
theorem Fr.outof    (f1:Fr K H0 Hs0 la ρ1 σ1 H1 Hs1) (f:Fr K (pX H0 Hs1) Hs1 la ρ σ H' Hs'):Fr K H0 Hs0 la ρ σ H' Hs':=by
 refine ⟨f1.st.outof f.st,f.len,f.sh,fun i d h=>?_,fun i d h=>?_,f.dj,f1.lh,fun i d h=>?_,f.u2⟩
 ·obtain ⟨a,o,h1,h2,h3,h4,h5⟩:=f.ow i d h;exact ⟨a,o,h1,h2,h3,iO.free h4,h5⟩
 ·obtain ⟨a,o,h1,h2,h3,h4,h5,h6⟩:=f.lk i d h;obtain ⟨o',e⟩:=f1.lh i a h2;have e':=iO (B:=Hs1) _ _ e;rw [h5] at e';cases e';exact ⟨a,o,h1,h2,h3,h4,e,h6⟩
 ·obtain ⟨a,as,O⟩:=f.o2 i d h;exact ⟨a,as,O.at_,O.ob,O.nd,fun b hb=>⟨(O.out b hb).1,iO.free (O.out b hb).2⟩,O.dj,O.inn⟩
end
end
section
section
theorem nL.into      (f1:Fr K H0 Hs0 la ρ1 σ1 H1 Hs1) (q:nL K cls E H0 Hs0 la D' r):nL K cls E (pX H0 Hs1) Hs1 la D' r:=by
 cases r with
 |no=>exact q
 |ex c n=>exact fun H' Hs' s=>q H' Hs' (f1.st.outof s)
 |ok fl =>
  cases fl with
  |nx ρ=>exact fun σ' H' Hs' f=>q σ' H' Hs' (f1.outof f)
  |bk ρ=>exact fun σ' H' Hs' f=>q σ' H' Hs' (f1.outof f)
  |ct ρ=>exact fun σ' H' Hs' f=>q σ' H' Hs' (f1.outof f)
  |rt d=>exact fun v H' Hs' s r=>q v H' Hs' (f1.st.outof s) r
theorem Fr.lock    (f:Fr K H0 Hs0 la ρ σ H Hs)    (hi:ρ[i]?=some (Sl.own d)) (k1:σ[i]?=some (some (V.ref a))) (k2:H a=some o) (k3:Hs a=none) (k4:H0 a=none) (k5:kS K Hs o d) :
  Fr K (pX H0 (upd Hs a o)) Hs (fun j=>if j=i then some a else la j) (ρ.set i (.lck d)) σ H Hs:=by
 have hil:i<ρ.length:=(List.getElem?_eq_some_iff.mp hi).1;have sub:cR (upd Hs a o) H:=fun b u q=>by
  by_cases hb:b=a
  ·subst hb;rw [aK] at q;cases q;exact k2
  ·rw [aL hb] at q;exact f.st.sub b u q
 have nx:∀ {j:Nat}{s:Sl},(∀ d,s≠.lck d)->(ρ.set i (.lck d))[j]?=some s->ρ[j]?=some s/\i≠j:=fun {j s} hs e=>by
  by_cases hj:i=j
  ·subst hj;rw [ax hil] at e;exact absurd (bt e).symm (hs d)
  ·rw [ae hj] at e;exact ⟨e,hj⟩
 refine ⟨⟨Aq f.st.all sub,.refl _,f.st.sub,fun a o e _ z=>z⟩,by simp [f.len],fun j e h=>?_,fun j e h=>?_,fun j e h=>?_,fun j k d1 d2 b h1 h2 h3 h4=>?_,fun j b h=>?_,fun j e h=>?_,fun j k d1 d2 h1 h2=>?_⟩
 ·obtain ⟨h,_⟩:=nx (fun _ z=>by cases z) h;exact f.sh j e h
 ·obtain ⟨h,hj⟩:=nx (fun _ z=>by cases z) h;obtain ⟨b,u,q1,q2,q3,q4,q5⟩:=f.ow j e h;refine ⟨b,u,q1,q2,q3,?_,q5⟩;rw [iw q4,aL (fun z=>hj ?_)]
  ·exact q3
  ·subst z;exact f.dj i j d e b hi h k1 q1
 ·by_cases hj:i=j
  ·subst hj;rw [ax hil] at h;cases h;exact ⟨a,o,k1,if_pos rfl,k2,k3,by rw [iw k4,aK],k5⟩
  ·rw [ae hj] at h;obtain ⟨b,u,q1,q2,q3,q4,q5,q6⟩:=f.lk j e h;exact ⟨b,u,q1,by rw [if_neg (e6 hj)];exact q2,q3,q4,iO _ _ q5,q6⟩
 ·obtain ⟨h1,_⟩:=nx (fun _ z=>by cases z) h1;obtain ⟨h2,_⟩:=nx (fun _ z=>by cases z) h2;exact f.dj j k d1 d2 b h1 h2 h3 h4
 ·by_cases hj:j=i
  ·simp only [if_pos hj] at h;cases h;exact ⟨o,by rw [iw k4,aK]⟩
  ·simp only [if_neg hj] at h;obtain ⟨u,e⟩:=f.lh j b h;exact ⟨u,iO _ _ e⟩
 ·obtain ⟨h,hj⟩:=nx (fun _ z=>by cases z) h;obtain ⟨b,as,O⟩:=f.o2 j e h;refine ⟨b,as,O.at_,O.ob,O.nd,fun c hc=>⟨(O.out c hc).1,?_⟩,fun c hc k e' hk=>O.dj c hc k e' (nx (fun _ z=>by cases z) hk).1,O.inn⟩;rw [iw (O.out c hc).2,aL (fun z=>?_)]
  ·exact (O.out c hc).1
  ·subst z;exact O.dj c hc i d hi k1
 ·exact f.u2 j k d1 d2 (nx (fun _ z=>by cases z) h1).1 (nx (fun _ z=>by cases z) h2).1
theorem cw.unlock   (s:cw H0 Hs0 H Hs) (t:cw (pX H0 (upd Hs a o)) Hs H' Hs'):cw H0 Hs0 H' Hs' :=
 ⟨iO.trans t.all,s.sh.trans t.sh,t.sub,fun b u e n z=>t.out b u (iO _ _ e) n (s.out b u e n z)⟩
theorem Fr.unlock    (f:Fr K H0 Hs0 la ρ σ H Hs)    (hi:ρ[i]?=some (Sl.own d)) (k4:H0 a=none)
  (f':Fr K (pX H0 (upd Hs a o)) Hs (fun j=>if j=i then some a else la j) ρ' σ' H' Hs'):Fr K H0 Hs0 la (vC i ρ ρ') σ' H' Hs':=by
 have st:=f.st.unlock f'.st;have own:∀ (j:Nat) (e:D),ρ'[j]?=some (Sl.own e)->∃ b u,σ'[j]?=some (some (V.ref b))/\H' b=some u/\Hs' b=none/\H0 b=none/\kS K Hs' u e/\(pX H0 (upd Hs a o)) b=none:=fun j e h=>by
  obtain ⟨b,u,q1,q2,q3,q4,q5⟩:=f'.ow j e h;exact ⟨b,u,q1,q2,q3,iO.free q4,q5,q4⟩
 have lck:∀ (j:Nat) (e:D),j≠i->ρ'[j]?=some (Sl.lck e)->∃ b u,σ'[j]?=some (some (V.ref b))/\la j=some b/\H' b=some u/\Hs' b=none/\H0 b=some u/\kS K Hs' u e:=fun j e hj h=>by
  obtain ⟨b,u,q1,q2,q3,q4,q5,q6⟩:=f'.lk j e h;simp only [if_neg hj] at q2;obtain ⟨u',e'⟩:=f.lh j b q2;have:=iO (B:=upd Hs a o) _ _ e';rw [q5] at this;cases this;exact ⟨b,u,q1,q2,q3,q4,e',q6⟩
 have two:∀ (j:Nat) (e:List (List D)),ρ'[j]?=some (Sl.ow2 e)->∃ b as,O2 K H0 H' Hs' ρ' σ' j e b as:=fun j e h=>by
  obtain ⟨b,as,O⟩:=f'.o2 j e h;exact ⟨b,as,O.at_,O.ob,O.nd,fun c hc=>⟨(O.out c hc).1,iO.free (O.out c hc).2⟩,O.dj,O.inn⟩
 unfold vC;cases hl:ρ'[i]? with
 |none =>
  simp only [hi];refine ⟨st,f'.len,f'.sh,fun j e h=>let ⟨b,u,q1,q2,q3,q4,q5,_⟩:=own j e h;⟨b,u,q1,q2,q3,q4,q5⟩,fun j e h=>lck j e (fun z=>by rw [z,hl] at h;cases h) h,f'.dj,f.lh,two,f'.u2⟩
 |some s =>
  cases s with
  |no=>simp only [hi];exact ⟨st,f'.len,f'.sh,fun j e h=>let ⟨b,u,q1,q2,q3,q4,q5,_⟩:=own j e h;⟨b,u,q1,q2,q3,q4,q5⟩,fun j e h=>lck j e (fun z=>by rw [z,hl] at h;cases h) h,f'.dj,f.lh,two,f'.u2⟩
  |shr _=>simp only [hi];exact ⟨st,f'.len,f'.sh,fun j e h=>let ⟨b,u,q1,q2,q3,q4,q5,_⟩:=own j e h;⟨b,u,q1,q2,q3,q4,q5⟩,fun j e h=>lck j e (fun z=>by rw [z,hl] at h;cases h) h,f'.dj,f.lh,two,f'.u2⟩
  |own _=>simp only [hi];exact ⟨st,f'.len,f'.sh,fun j e h=>let ⟨b,u,q1,q2,q3,q4,q5,_⟩:=own j e h;⟨b,u,q1,q2,q3,q4,q5⟩,fun j e h=>lck j e (fun z=>by rw [z,hl] at h;cases h) h,f'.dj,f.lh,two,f'.u2⟩
  |ow2 _=>simp only [hi];exact ⟨st,f'.len,f'.sh,fun j e h=>let ⟨b,u,q1,q2,q3,q4,q5,_⟩:=own j e h;⟨b,u,q1,q2,q3,q4,q5⟩,fun j e h=>lck j e (fun z=>by rw [z,hl] at h;cases h) h,f'.dj,f.lh,two,f'.u2⟩
  |lck d' =>
   simp only [hi];have hil:i<ρ'.length:=(List.getElem?_eq_some_iff.mp hl).1;have nx:∀ {j:Nat}{s:Sl},(∀ d,s≠.own d)->(ρ'.set i (.own d'))[j]?=some s->ρ'[j]?=some s/\i≠j:=fun {j s} hs e=>by
    by_cases hj:i=j
    ·subst hj;rw [ax hil] at e;exact absurd (bt e).symm (hs d')
    ·rw [ae hj] at e;exact ⟨e,hj⟩
   obtain ⟨b,u,q1,q2,q3,q4,q5,q6⟩:=f'.lk i d' hl;simp only [if_pos rfl] at q2;cases q2;have ne:∀ (j:Nat) (e:D),ρ'[j]?=some (Sl.own e)->σ'[j]?≠some (some (V.ref a)):=fun j e h z=>by
    obtain ⟨b,u,p1,_,_,_,_,p6⟩:=own j e h;rw [z] at p1;cases p1;rw [q5] at p6;cases p6
   refine ⟨st,by simp [f'.len],fun j e h=>?_,fun j e h=>?_,fun j e h=>?_,fun j k d1 d2 c h1 h2 h3 h4=>?_,f.lh,fun j e h=>?_,fun j k d1 d2 h1 h2=>?_⟩
   ·obtain ⟨h,_⟩:=nx (fun _ z=>by cases z) h;exact f'.sh j e h
   ·by_cases hj:i=j
    ·subst hj;rw [ax hil] at h;cases h;exact ⟨a,u,q1,q3,q4,k4,q6⟩
    ·rw [ae hj] at h;obtain ⟨b,u,p1,p2,p3,p4,p5,_⟩:=own j e h;exact ⟨b,u,p1,p2,p3,p4,p5⟩
   ·obtain ⟨h,hj⟩:=nx (fun _ z=>by cases z) h;exact lck j e (e6 hj) h
   ·by_cases hj:i=j
    ·by_cases hk:i=k
     ·exact hj.symm.trans hk
     ·rw [ae hk] at h2;subst hj;rw [q1] at h3;cases h3;exact (ne k d2 h2 h4).elim
    ·rw [ae hj] at h1;by_cases hk:i=k
     ·subst hk;rw [q1] at h4;cases h4;exact (ne j d1 h1 h3).elim
     ·rw [ae hk] at h2;exact f'.dj j k d1 d2 c h1 h2 h3 h4
   ·obtain ⟨h,hj⟩:=nx (fun _ z=>by cases z) h;obtain ⟨b,as,O⟩:=two j e h;refine ⟨b,as,O.at_,O.ob,O.nd,O.out,fun c hc k e' hk=>?_,O.inn⟩;by_cases nk:i=k
    ·subst nk;intro z;rw [q1] at z;cases z;obtain ⟨b',as',O'⟩:=f'.o2 j e h;have hh:=O.at_;rw [O'.at_] at hh;cases hh;have hs:as'=as:=by
      have h1:=O.ob;rw [O'.ob] at h1;injection h1 with h1;injection h1 with h1;exact G6 (fun x y z=>by cases z;rfl) |>.mp h1
     subst hs;have:=(O'.out _ hc).2;rw [q5] at this;cases this
    ·rw [ae nk] at hk;exact O.dj c hc k e' hk
   ·exact f'.u2 j k d1 d2 (nx (fun _ z=>by cases z) h1).1 (nx (fun _ z=>by cases z) h2).1
end
section
def mK (gi:ap->R (List D)) (kt:D->ap->R ap) (gb:ap->R Fl):ap->R Fl:=fun ρ=>match gi ρ with
 |.ok ds=>fQ kt gb ds ρ
 |_=>.no
theorem mL (hc:c.X.calm=true) (hi:Gd c.nox tg iter gi) (hg:JG c.nox tg kt) (hb:Dz c.nox body gbd) (hs:∀ x,dk iter c.X.env x=pure x:=by intro _;rfl):JS c (.For tg iter body [] pos) (mK gi kt gbd):=.of fun ρ=>by
 refine MP (zO (GG D6 hc (hi ρ) (g:=fun v σ H Q=>∃ ρ d,Oy c.X.K ρ d (kt d ρ) v σ H Q) (tb:=fun D σ H=>∃ ρ,SR c.X.K c.cls E0 ρ (gbd ρ) D σ H) ?_ ?_ hs) fun D σ H ⟨H0,Hs0,la,Hs,f,q⟩=>?_)
 ·exact fun pins s σ H v u Q I r h_0=>by obtain ⟨ρ,d,q⟩:=h_0;exact hg ρ d pins s σ H v u Q I r q
 ·exact fun pins s σ H D I h_1=>by obtain ⟨ρ,q⟩:=h_1;exact hb ρ pins s σ H D I q
 ·refine ⟨H0,Hs0,la,Hs,f,?_⟩;unfold mK at q;cases hr:gi ρ with
  |no=>rw [hr] at q;exact q
  |ex x n=>rw [hr] at q;exact q.elim
  |ok ds =>
   rw [hr] at q;intro J H1 Hs1 s1 it;have f1:=f.step s1;exact HS (E:=c.E) (cls:=c.cls) (kt:=kt) (gb:=gbd) (tg:=fun v σ H Q=>∃ ρ d,Oy c.X.K ρ d (kt d ρ) v σ H Q) (tb:=fun D σ H=>∃ ρ,SR c.X.K c.cls E0 ρ (gbd ρ) D σ H) it (HU f1.st.all f1.st.sub) f1.into (fun ρ d v σ H Q h=>⟨ρ,d,h⟩) (fun ρ D σ H h=>⟨ρ,h⟩) (nL.into f1 q)
def nF (i:Nat) (kt:D->ap->R ap) (gb:ap->R Fl):ap->R Fl:=fun ρ=>match ρ[i]? with
 |some (Sl.own (.list ds))=>Tc i ρ (fQ kt gb ds (yR i ρ))
 |_=>mK (m7 fun ρ=>yH ρ i) kt gb ρ
theorem vD {kt:D->ap->R ap}{gb:ap->R Fl}:∀ (ds:List D) (ρ:ap) (fl:Fl),fQ kt gb ds ρ=.ok fl->(∃ ρ',fl=.nx ρ')\/∃ d,fl=.rt d
 |[],ρ,fl,h=>by cases h;exact .inl ⟨_,rfl⟩
 |d::r,ρ,fl,h=>by
  unfold fQ at h;split at h
  ·split at h
   ·exact vD r _ _ h
   ·exact vD r _ _ h
   ·cases h;exact .inl ⟨_,rfl⟩
   ·cases h;exact .inr ⟨_,rfl⟩
   ·cases h
  ·cases h
theorem yS {kt:D->ap->R ap}{gb:ap->R Fl}:∀ (ds:List D) (ρ:ap) (c:Str) (n:Option D),fQ kt gb ds ρ≠.ex c n
 |[],ρ,c,n,h=>by cases h
 |d::r,ρ,c,n,h=>by
  unfold fQ at h;split at h
  ·split at h
   ·exact yS r _ _ _ h
   ·exact yS r _ _ _ h
   ·cases h
   ·cases h
   ·cases h
  ·cases h
theorem DE (i:Nat) (hc:c.X.calm=true) (hg:JG c.nox tg kt) (hb:Dz c.nox body gbd) (hN:c.X.N[i]?=some x:=by rfl) (hv:Kp c.X.env.scope x:=by first|exact fF rfl|exact dX (fF rfl)|exact dX (dX rfl)) (hd:(x==("__debug__" : Str))=false:=by decide)
  (hcd:(x==("__classdict__" : Str))=false:=by decide) (hs:∀ y,dk (.Name x p) c.X.env y=pure y:=by intro _;rfl):JS c (.For tg (.Name x p) body [] pos) (nF i kt gbd):=.of fun ρ=>by
 by_cases ho:∃ ds,ρ[i]?=some (Sl.own (.list ds))
 ·obtain ⟨ds,ho⟩:=ho;refine MP (zO (GG (tg:=tg) D6 hc (rf (X:=c.nox.X) (o9 hN hv hd hcd)) (g:=fun v σ H Q=>∃ ρ d,Oy c.X.K ρ d (kt d ρ) v σ H Q) (tb:=fun D σ H=>∃ ρ,SR c.X.K c.cls E0 ρ (gbd ρ) D σ H) ?_ ?_ hs) fun D σ H ⟨H0,Hs0,la,Hs,f,q⟩=>?_)
  ·exact fun pins s σ H v u Q I r h_2=>by obtain ⟨ρ,d,q⟩:=h_2;exact hg ρ d pins s σ H v u Q I r q
  ·exact fun pins s σ H D I h_3=>by obtain ⟨ρ,q⟩:=h_3;exact hb ρ pins s σ H D I q
  ·obtain ⟨a,o,k1,k2,k3,k4,k5⟩:=f.ow i _ ho;cases k5 with
   | @lst vs _ r =>
    refine ⟨_,k1,a,rfl,⟨_,.of k2⟩,?_⟩;have hn:jI c.X.K (upd Hs a (.lst vs)) a vs:=.of aK;unfold nF at q;simp only [ho] at q;have fl:=f.lock ho k1 k2 k3 k4 (.lst r);have sub:cR (upd Hs a (.lst vs)) H:=fun b u q=>by
     by_cases hb:b=a
     ·subst hb;rw [aK] at q;cases q;exact k2
     ·rw [aL hb] at q;exact f.st.sub b u q
    refine HS (E:=c.E) (cls:=c.cls) (kt:=kt) (gb:=gbd) (ρ:=yR i ρ) (Hs:=Hs) (la:=fun i'=>if i'=i then some a else la i') (tg:=fun v σ H Q=>∃ ρ d,Oy c.X.K ρ d (kt d ρ) v σ H Q) (tb:=fun D σ H=>∃ ρ,SR c.X.K c.cls E0 ρ (gbd ρ) D σ H) (yN hn r) (HU f.st.all sub) ?_ (fun ρ d v σ H Q h=>⟨ρ,d,h⟩) (fun ρ D σ H h=>⟨ρ,h⟩) ?_
    ·unfold yR;rw [ho];exact fl
    ·cases hr:fQ kt gbd ds (yR i ρ) with
     |no=>rw [hr] at q;exact q
     |ex c n=>exact (yS _ _ _ _ hr).elim
     |ok fl =>
      rw [hr] at q;rcases vD _ _ _ hr with ⟨ρ',rfl⟩|⟨d,rfl⟩
      ·exact fun σ' H' Hs' f'=>q σ' H' Hs' (f.unlock ho k4 f')
      ·exact fun v H' Hs' s r=>q v H' Hs' (f.st.unlock s) r
 ·have e:nF i kt gbd ρ=mK (m7 fun ρ=>yH ρ i) kt gbd ρ:=by
   unfold nF;split
   ·rename_i ds h;exact (ho ⟨ds,h⟩).elim
   ·rfl
  rw [e];exact mL hc (yO (c:=c.nox) (ar (c:=c.nox) i hN hv hd hcd)) hg hb hs ρ
end
end
section
section
def Ck (i:Nat) (g:ap->R D):ap->R Fl:=fun ρ=>match ρ[i]? with
 |some (Sl.own (.list ds))=>(g ρ).bind fun d=>if ds.length<1000 then .ok (.nx (ρ.set i (.own (.list (ds++[d]))))) else .no
 |_=>.no
theorem Fa (i:Nat) (h:JE c e g) (hN:c.X.N[i]?=some x:=by rfl) (hv:Kp c.X.env.scope x:=by first|exact fF rfl|exact dX (fF rfl)|exact dX (dX rfl)) (hd:(x==("__debug__" : Str))=false:=by decide)
  (hcd:(x==("__classdict__" : Str))=false:=by decide)
  (hbase:fo (.Name x p) "append" c.X.env (bU (.Name x p) c.X.env)=bU (.Name x p) c.X.env:=by rfl)
  (hfew:((fK cpos (aq [e] c.X.env)).all (fun x=>!x.1)&&(backToKw cpos (K8 [] c.X.env)).all (fun x=>x.1.isSome)
   && decide ([e].length+([] : List wv).length+(if ([] : List wv).isEmpty then 0 else 1)<30))=true:=by rfl)
  (hline:(apos.endLine==cpos.line)=true:=by rfl) (hst:aq [e] c.X.env=(false,bU e c.X.env)::aq [] c.X.env:=by rfl) (hplain:(fK cpos (aq [] c.X.env)).any (·.1)=false:=by rfl)
  (hs:iB (.Call (.Attribute (.Name x p) "append" apos) [e] [] cpos) none pos.line c.X.env=pure false:=by rfl) :
  JS c (.Expr (.Call (.Attribute (.Name x p) "append" apos) [e] [] cpos) pos) (Ck i g):=.of fun ρ=>by
 refine zO (uC (xA dO wB wC xB (o9 hN hv hd hcd) (bI (h ρ) dS hst) hbase hfew hline hst hplain) hs) fun D σ H h_0=>?_;obtain ⟨H0,Hs0,la,Hs,f,q⟩:=h_0;replace q:nL c.X.K c.cls c.E H0 Hs0 la D (Ck i g ρ):=q;unfold Ck at q;split at q
 ·rename_i ds ho
  obtain ⟨a,o,k1,k2,k3,k4,k5⟩:=f.ow i _ ho;cases k5 with
  | @lst vs _ r =>
   refine ⟨_,k1,.inl ⟨rfl,_,.of k2⟩,?_⟩;refine sE f q fun d v H1 Hs1 e1 s1 f1 r1=>?_;rw [e1,bind_ok] at q;by_cases hl:ds.length<1000
   ·rw [if_pos hl] at q;have r':=r.same s1.sh;exact ⟨a,vs,v,rfl,rfl,s1.all _ _ k2,cq (by rw [r.length];omega),q _ _ Hs1 (f1.write i ho k1 (.lst (r'.append (.cons r1 .nil))))⟩
   ·rw [if_neg hl] at q;exact q.elim
 ·exact q.elim
def tZ:D->Option fz
 |.int i=>some (.inl i)
 |.str x=>some (.inr x)
 |_=>none
theorem Ar  (h:tZ d=some y):d=kD y:=by
 cases d<;>cases h<;>rfl
def Fb (kvs:List (D×D)) (k d:D):List (D×D):=if kvs.any (fun kv=>bf kv.1 k) then kvs.map (fun kv=>if bf kv.1 k then (kv.1,d) else kv) else kvs++[(k,d)]
theorem Cm (a b:fz):bf (kD a) (kD b)=decide (a=b):=by
 cases a<;>cases b<;>simp [kD,bf,oY]
theorem RDk.any   (y:fz):∀ {ds:List (D×D)},RDk K H kvs ds->(ds.any fun kv=>bf kv.1 (kD y))=kvs.any fun kv=>decide (kv.1=y):=by
 induction kvs with
 |nil=>intro ds h;cases h;rfl
 |cons x r ih=>intro ds h;cases h with|cons h t=>rw [eu,eu,ih t,Cm]
theorem RDk.repl  (y:fz)  (rv:RD K H v d):∀ {kvs:List (fz×V)}{ds:List (D×D)},RDk K H kvs ds ->
  RDk K H (kvs.map fun kv=>if kv.1=y then (kv.1,v) else kv) (ds.map fun kv=>if bf kv.1 (kD y) then (kv.1,d) else kv)
 |_,_,.nil=>.nil
 |_,_,.cons (k:=k) h t=>by
  rw [am,am];have e:=Cm k y;by_cases hk:k=y
  ·subst hk;rw [show (if k=k then (k,v) else (k,_))=(k,v) from if_pos rfl,show (if bf (kD k) (kD k)=true then (kD k,d) else (kD k,_))=(kD k,d) from if_pos (by rw [e];simp)];exact .cons rv (RDk.repl k rv t)
  ·simp only [e,hk,if_neg,decide_false,bg,not_false_eq_true];exact .cons h (RDk.repl y rv t)
theorem RDk.snoc  (y:fz)  (rv:RD K H v d):∀ {kvs:List (fz×V)}{ds:List (D×D)},RDk K H kvs ds->RDk K H (kvs++[(y,v)]) (ds++[(kD y,d)])
 |_,_,.nil=>.cons rv .nil
 |_,_,.cons h t=>.cons h (RDk.snoc y rv t)
theorem RDk.put    (r:RDk K H kvs ds) (y:fz)  (rv:RD K H v d):RDk K H (sU kvs y v) (Fb ds (kD y) d):=by
 unfold sU Fb;rw [r.any y];split
 ·exact r.repl y rv
 ·exact r.snoc y rv
def fG (kvs:List (D×D)):Bool:=kvs.all fun kv=>(tZ kv.1).isSome
def yT (i:Nat) (gk g:ap->R D):ap->R Fl:=fun ρ=>match ρ[i]? with
 |some (Sl.own (.dict kvs))=>(g ρ).bind fun d=>(gk ρ).bind fun k=>match tZ k with
  |some _=>if kvs.length<1000/\fG kvs=true then .ok (.nx (ρ.set i (.own (.dict (Fb kvs k d))))) else .no
  |none=>.no
 |_=>.no
theorem HV    (h:RD K H v (kD y)):v=kV y:=by
 cases y<;>cases h<;>rfl
theorem RDt.flat    (h:RDt K H kvs ds) (f:fG ds=true):kvs=[]/\ds=[]:=by
 cases h with
 |nil=>exact ⟨rfl,rfl⟩
 |cons h t=>simp [fG,tD,tZ] at f
theorem DF (i:Nat) (h:JE c e g) (hk:JE c k gk) (hu:c.X.A.units+1<pQ) (hN:c.X.N[i]?=some x:=by rfl) (hv:Kp c.X.env.scope x:=by first|exact fF rfl|exact dX (fF rfl)|exact dX (dX rfl)) (hd:(x==("__debug__" : Str))=false:=by decide)
  (hcd:(x==("__classdict__" : Str))=false:=by decide) (hs:iB e (some (.Subscript (.Name x p) k apos)) pos.line c.X.env=pure false:=by rfl):JS c (.Assign [.Subscript (.Name x p) k apos] e pos) (yT i gk g):=.of fun ρ=>by
 refine zO (KQ hu (o9 hN hv hd hcd) (hk ρ) (h ρ) hs) fun D σ H h_1=>?_
 obtain ⟨H0,Hs0,la,Hs,f,q⟩:=h_1
 replace q:nL c.X.K c.cls c.E H0 Hs0 la D (yT i gk g ρ):=q
 unfold yT at q
 split at q
 ·rename_i kvs ho
  obtain ⟨a,o,k1,k2,k3,k4,k5⟩:=f.ow i _ ho
  have main:∀ {H:Hp}{vs:List (fz×V)},Fr c.X.K H0 Hs0 la ρ σ H Hs->H a=some (.dK vs)->RDk c.X.K Hs vs kvs->My (EB i) (TR c.X.K c.cls c.E ρ (gk ρ)) (TR c.X.K c.cls c.E ρ (g ρ)) D σ H:=fun {H vs} f k2 r=>by
   refine sE f q fun d v H1 Hs1 e1 s1 f1 r1=>?_
   rw [e1,bind_ok] at q
   refine ⟨_,k1,sE f1 q fun y w H2 Hs2 e2 s2 f2 r2=>?_⟩
   rw [e2,bind_ok] at q
   split at q
   ·rename_i ky hy
    obtain rfl:=Ar hy
    by_cases hl:kvs.length<1000/\fG kvs=true
    ·rw [if_pos hl] at q
     have ha:=s2.all _ _ (s1.all _ _ k2)
     have r':=(r.same s1.sh).same s2.sh
     rw [HV r2]
     exact ⟨a,_,rfl,GS.k ha (cq (by rw [r.length];omega)),q _ _ Hs2 (f2.write i ho k1 (.dK (r'.put ky (r1.same s2.sh))))⟩
    ·rw [if_neg hl] at q;exact q.elim
   ·exact q.elim
  cases k5 with
  |dK r=>exact main f k2 r
  |dT n r =>
   refine sE f q fun d v H1 Hs1 e1 s1 f1 r1=>?_
   rw [e1,bind_ok] at q
   refine ⟨_,k1,sE f1 q fun y w H2 Hs2 e2 s2 f2 r2=>?_⟩
   rw [e2,bind_ok] at q
   split at q
   ·rw [if_neg (fun z=>n (r.flat z.2).1)] at q;exact q.elim
   ·exact q.elim
  |dF n r =>
   refine sE f q fun d v H1 Hs1 e1 s1 f1 r1=>?_
   rw [e1,bind_ok] at q
   refine ⟨_,k1,sE f1 q fun y w H2 Hs2 e2 s2 f2 r2=>?_⟩
   rw [e2,bind_ok] at q
   split at q
   ·rw [if_neg (fun z=>by cases z.2)] at q;exact q.elim
   ·exact q.elim
 ·exact q.elim
def rN (kvs:List (D×D)) (k:D):Option D:=(kvs.find? fun kv=>bf kv.1 k).map (·.2)
theorem RDk.val  : ∀ {kvs:List (fz×V)}{ds:List (D×D)},RDk K H kvs ds->∀ (y:fz),(rn kvs y=none/\rN ds (kD y)=none)\/∃ v d,rn kvs y=some v/\rN ds (kD y)=some d/\RD K H v d
 |_,_,.nil,y=>.inl ⟨rfl,rfl⟩
 |_,_,.cons (k:=k) h t,y=>by
  unfold rn rN;rw [cU,cU,Cm];by_cases hk:k=y
  ·simp only [hk,decide_true,cQ];exact .inr ⟨_,_,rfl,rfl,h⟩
  ·simp only [hk,decide_false];exact RDk.val t y
def bJ:D->D->R D
 |.dict kvs,k=>match tZ k with
  |some _=>if fG kvs=true then (match rN kvs k with
   |some d=>.ok d
   |none=>.no) else .no
  |none=>.no
 |x,k=>F6 x k
theorem dm (hu:c.X.A.units+1<pQ) (ha:JB c a ga) (hb:JB c b gb) (hs:uD b:=by exact fun _ _=>rfl):JE c (.Subscript a b pos) (g2 ga gb bJ):=.of fun ρ=>by
 by_cases hx:∃ kvs,ga ρ=.ok (.dict kvs)
 ·obtain ⟨kvs,hx⟩:=hx;refine pW (KP hu (ha ρ) (hb ρ) hs) fun σ H Q h_2=>?_;obtain ⟨H0,Hs0,la,Hs,f,q⟩:=h_2;refine one f q fun d v H1 Hs1 e1 s1 f1 r1=>?_;rw [hx] at e1;cases e1;unfold g2 at q;rw [hx,bind_ok] at q;refine one f1 (q.on s1 (q':=fun _=>True) fun _ _=>trivial) fun y w H2 Hs2 e2 s2 f2 r2=>?_;rw [e2,bind_ok] at q;unfold bJ at q;simp only at q;split at q
  ·rename_i ky hy
   obtain rfl:=Ar hy;by_cases hf:fG kvs=true
   ·rw [if_pos hf] at q;obtain ⟨p,rfl,h⟩:=(r1.step s2).dict f2.st.sub;have rk:w=kV ky:=by
     rcases r2 with r2|⟨_,o,rfl,_,_,ow⟩
     ·exact HV r2
     ·cases ky<;>cases ow
    subst rk;rcases h with ⟨vs,h1,h2⟩|⟨vs,h1,hn,h2⟩|⟨o,vs,es,rfl,h1,hn,h2⟩
    ·rcases h2.val ky with ⟨_,h3⟩|⟨u,d,h3,h4,h5⟩
     ·rw [h3] at q;exact q.elim
     ·rw [h4] at q;exact ⟨p,u,rfl,by rw [<- h3];exact BW.k h1,q _ H2 Hs2 (s1.trans s2) h5⟩
    ·exact (hn (h2.flat hf).1).elim
    ·cases hf
   ·rw [if_neg hf] at q;exact q.elim
  ·exact q.elim
 ·refine pW (Q8 ha hb hs ρ) fun σ H Q q=>?_;have e:g2 ga gb bJ ρ=g2 ga gb F6 ρ:=by
   unfold g2;cases hr:ga ρ with
   |ok d =>
    cases d with
    |dict kvs=>exact (hx ⟨kvs,hr⟩).elim
    |_=>rfl
   |_=>rfl
  rw [e] at q;exact q
def lc:D->R D
 |.dict kvs=>if fG kvs=true then .ok (.list (kvs.map (·.1))) else .no
 |x=>xN x
theorem As  : ∀ {kvs:List (fz×V)}{ds:List (D×D)},RDk K H kvs ds->RDs K H (kvs.map fun p=>kV p.1) (ds.map (·.1))
 |_,_,.nil=>.nil
 |_,_,.cons (k:=k) h t=>.cons (by cases k<;>constructor) (As t)
theorem Au (hc:X.calm=true):Gc X (.type "list") (jD lc):=by
 refine qp (fun d c n=>?_) fun pins s σ H x u Q Hs d d' I ru sub rx hd q=>?_
 ·unfold lc xN;split<;>(try split)<;>(try split)<;>exact fun h=>by cases h
 ·by_cases hx:∃ kvs,d=.dict kvs
  ·obtain ⟨kvs,rfl⟩:=hx;unfold lc at hd;simp only at hd;split at hd
   ·rename_i hf
    cases hd;obtain ⟨a,rfl,⟨vs,h1,h2⟩|⟨vs,h1,n,h2⟩|⟨o,vs,es,rfl,h1,n,h2⟩⟩:=rx.dict sub
    ·exact vo hc pins s σ H _ _ Q I (.cons ru .nil) ⟨a,vs,rfl,h1,fun l hl=>q _ _ _ (.new sub hl) (.list (.of aK) ((As h2).same (cw.new sub hl).sh))⟩
    ·exact (n (h2.flat hf).1).elim
    ·cases hf
   ·cases hd
  ·have e:lc d=xN d:=by
    cases d with
    |dict kvs=>exact (hx ⟨kvs,rfl⟩).elim
    |_=>rfl
   rw [e] at hd;exact (Lg (X:=X)).1 pins s σ H [x] [u] Q I (.cons ru .nil) ⟨Hs,[d],sub,.cons rx .nil,d',hd,q⟩
end
end
section
open PyProof.Rows (envOfC)
section
variable {c:C}{e a b d:aP}{g ga gb gc:ap->R D}{pos p cpos:Pos}{x:Str}
theorem HW        (hx:∀ x y c n,h x y≠.ex c n) (hx':∀ x y c n,h' x y≠.ex c n) (q:TR K cls E ρ (oy ga gb gc h h' ρ) σ H Q) :
  BP (rD K h) (rD K h') (TB K cls E ρ (ga ρ)) (TB K cls E ρ (gb ρ)) (TB K cls E ρ (gc ρ)) σ H Q:=by
 obtain ⟨H0,Hs0,la,Hs,f,q⟩:=q;refine one f q fun x v H1 Hs1 e1 s1 f1 r1=>?_;unfold oy at q;rw [e1,bind_ok] at q;refine one f1 (q.on s1 (q':=fun _=>True) fun _ _=>trivial) fun y u H2 Hs2 e2 s2 f2 r2=>?_;rw [e2,bind_ok] at q;cases hr:h x y with
 |ex c n=>exact (hx x y c n hr).elim
 |no=>rw [hr] at q;exact q.elim
 |ok z =>
  rw [hr,bind_ok] at q;refine ⟨Hs2,x,y,f2.st.sub,r1.step s2,r2,z,hr,fun w H3 Hs3 s3 r3=>?_⟩;cases r3 with
  |bool k =>
   refine ⟨k,rfl,?_⟩;have f3:=f2.step s3;cases k with
   |false=>exact wK (q _ H3 Hs3 (s1.trans (s2.trans s3)) (.bool _))
   |true =>
    refine A3 (one f3 (q.on (s1.trans (s2.trans s3)) (q':=fun _=>True) fun _ _=>trivial) fun t u' H4 Hs4 e4 s4 f4 r4=>?_);simp only [e4,bind_ok] at q;cases hr':h' y t with
    |ex c n=>exact (hx' y t c n hr').elim
    |no=>rw [hr'] at q;exact q.elim
    |ok z' =>
     rw [hr'] at q;exact ⟨Hs4,y,t,f4.st.sub,(r2.step s3).step s4,r4,z',hr',fun w H5 Hs5 s5 r5=>q w H5 Hs5 (s1.trans (s2.trans (s3.trans (s4.trans s5)))) r5⟩
  |none=>exact q.elim
  |int _=>exact q.elim
  |str _=>exact q.elim
  |list _ _=>exact q.elim
  |tuple _ _=>exact q.elim
  |dictK _ _=>exact q.elim
  |dictT _ _ _=>exact q.elim
  |dictF _ _ _=>exact q.elim
theorem Av  (ho:vq c.X (bG op) h) (ho':vq c.X (bG op') h') (ha:JB c a ga) (hb:JB c b gb) (hc:JB c d gc) (hm:FX [op,op'] [b,d]=false:=by with_unfolding_all rfl):JE c (.Compare a [op,op'] [b,d] pos) (oy ga gb gc h h') :=
 .of fun ρ=>pW (GH ho.1 ho'.1 (ha ρ) (hb ρ) (hc ρ) hm) fun σ H Q q=>HW ho.2 ho'.2 q
theorem HX  (ho:vq c.X (bG op) h) (ho':vq c.X (bG op') h') (ha:JB c a ga) (hb:JB c b gb) (hc:JB c d gc) (hm:FX [op,op'] [b,d]=false:=by with_unfolding_all rfl):JT c (.Compare a [op,op'] [b,d] pos) (iU (oy ga gb gc h h')) :=
 .of fun ρ=>Q3 (GI ho.1 ho'.1 (ha ρ) (hb ρ) (hc ρ) hm) fun σ H Q q=>HW ho.2 ho'.2 (Q4 q)
inductive Qi (K:a6) (w:aY) (cls:Str->ac) (E:XK) (ρ:ap) (r:R (List Str)) (σ:St) (H:Hp) (Q:VK):Prop
 |mk (H0 Hs0:Hp) (la:Nat->Option ac) (Hs:Hp) (f:Fr K H0 Hs0 la ρ σ H Hs) (q:Fin K cls E H Hs r fun ss=>∀ p H' Hs',cw H Hs H' Hs'->H' p=none->Q (.ref p) (upd H' p (uq w p ss))):Qi K w cls E ρ r σ H Q
def Rs (K:a6) (w:aY) (cls:Str->ac) (E:XK) (ρ:ap) (r:R (List Str)):TE:=Qi K w cls E ρ r
structure P9 (c:C) (e:aP) (g:ap->R (List Str)):Prop where of ::
 run:∀ ρ,PE c.X e (Rs c.X.K c.X.w c.cls c.E ρ (g ρ))
instance {c:C}{e:aP}{g:ap->R (List Str)}:CoeFun (P9 c e g) (fun _=>∀ ρ,PE c.X e (Rs c.X.K c.X.w c.cls c.E ρ (g ρ))):=⟨P9.run⟩
theorem MQ {K:a6}{w:aY}{cls:Str->ac}{E:XK}{ρ:ap}{r:R (List Str)}{β:Type}{k:List Str->R β}{σ:St}{H:Hp}{H0 Hs0 Hs:Hp}{la:Nat->Option ac}{Q:V->Hp->Prop}{q:β->Prop} (f:Fr K H0 Hs0 la ρ σ H Hs)
  (h:Fin K cls E H Hs (r.bind k) q) (m:∀ ss p H' Hs',r=.ok ss->cw H Hs H' Hs'->Fr K H0 Hs0 la ρ σ H' Hs'->H' p=none->Q (.ref p) (upd H' p (uq w p ss))):Rs K w cls E ρ r σ H Q:=by
 refine ⟨H0,Hs0,la,Hs,f,?_⟩;cases r with
 |ok d=>exact fun p H' Hs' s n=>m d p H' Hs' rfl s (f.step s) n
 |ex c n=>exact h
 |no=>exact h
variable {gset:ap->R (List Str)}
def vE:D->R (List Str)
 |.list ds=>match eg ds with
  |some ss=>if ss.length<60 then .ok (dE [] ss) else .no
  |none=>.no
 |.tuple ds=>match eg ds with
  |some ss=>if ss.length<60 then .ok (dE [] ss) else .no
  |none=>.no
 |_=>.no
def tf (g:ap->R D):ap->R (List Str):=fun ρ=>(g ρ).bind vE
theorem OA (hc:c.X.calm=true) (h:JB c e g) (hg2:Gl c.X "set") (hm2:c.X.mg "set"=none) (he:aq [e] c.X.env=(false,bU e c.X.env)::aq [] c.X.env:=by rfl) :
  P9 c (.Call (.Name "set" p) [e] [] cpos) (tf g):=.of fun ρ=>by
 refine pW (xz (Af hc) hg2 hm2 PyProof.Rows.boot_set (bI (h ρ) dS he) (he:=he)) fun σ H Q h_1=>?_;obtain ⟨H0,Hs0,la,Hs,f,q⟩:=h_1;refine one f q fun d v H1 Hs1 e1 s1 f1 r1=>?_;unfold tf at q;rw [e1,bind_ok] at q;unfold vE at q;split at q
 ·split at q
  ·rename_i ss hs
   by_cases hz:ss.length<60
   ·rw [if_pos hz] at q;obtain ⟨a,vs,rfl,qa,ra⟩:=r1.list f1.st.sub;rw [ju hs] at ra;rw [iL ra] at qa;exact ⟨a,ss,rfl,.inl qa,ay (Et hz 1) (by decide),fun p hp=>q p H1 Hs1 s1 hp⟩
   ·rw [if_neg hz] at q;exact q.elim
  ·exact q.elim
 ·split at q
  ·rename_i ss hs
   by_cases hz:ss.length<60
   ·rw [if_pos hz] at q;obtain ⟨a,vs,rfl,qa,ra,_⟩:=r1.tuple f1.st.sub;rw [ju hs] at ra;rw [iL ra] at qa;exact ⟨a,ss,rfl,.inr qa,ay (Et hz 1) (by decide),fun p hp=>q p H1 Hs1 s1 hp⟩
   ·rw [if_neg hz] at q;exact q.elim
  ·exact q.elim
 ·exact q.elim
def ma (g:ap->R (List Str)):ap->R D:=fun ρ=>(g ρ).bind fun ss=>if ss.length<64 then .ok (.list ((j4 ss).map .str)) else .no
theorem Co (hc:c.X.calm=true) (h:P9 c e gset) (hg:Gl c.X "sorted") (hm:c.X.mg "sorted"=none) (he:aq [e] c.X.env=(false,bU e c.X.env)::aq [] c.X.env:=by rfl) :
  JE c (.Call (.Name "sorted" p) [e] [] cpos) (ma gset):=.of fun ρ=>by
 refine pW (lV (ur hc) hg hm tR (bI (h ρ) dS he) (he:=he)) fun σ H Q h_2=>?_;obtain ⟨H0,Hs0,la,Hs,f,q⟩:=h_2;dsimp only [L2.Pt,L2.Db,L2.Ky];refine MQ (w:=c.X.w) f q fun ss p H1 Hs1 e1 s1 f1 n1=>?_;unfold ma at q;rw [e1,bind_ok] at q;by_cases hz:ss.length<64
 ·rw [if_pos hz] at q;have st1:cw H1 Hs1 (upd H1 p (uq c.X.w p ss)) Hs1:=.mine f1.st.sub n1;exact ⟨p,ss,rfl,aK,hz,fun l hl=>q _ _ _ (s1.trans (st1.trans (.new st1.sub hl))) (.list (.of aK) (m5 _))⟩
 ·rw [if_neg hz] at q;exact q.elim
def mM (g:ap->R (List Str)):ap->R D:=fun ρ=>(g ρ).bind fun ss=>.ok (.int ss.length)
theorem Fc (h:P9 c e gset) (hg:Gl c.X "len") (hm:c.X.mg "len"=none) (he:aq [e] c.X.env=(false,bU e c.X.env)::aq [] c.X.env:=by rfl) :
  JE c (.Call (.Name "len" p) [e] [] cpos) (mM gset):=.of fun ρ=>by
 refine pW (lV wQ hg hm cp (bI (h ρ) dS he) (he:=he)) fun σ H Q h_3=>?_;obtain ⟨H0,Hs0,la,Hs,f,q⟩:=h_3;dsimp only [L2.Pt,L2.Db,L2.Ky];refine MQ (w:=c.X.w) f q fun ss p H1 Hs1 e1 s1 f1 n1=>?_;unfold mM at q;rw [e1,bind_ok] at q;have st1:cw H1 Hs1 (upd H1 p (uq c.X.w p ss)) Hs1:=.mine f1.st.sub n1;exact ⟨p,ss,rfl,aK,q _ _ _ (s1.trans st1) (.int _)⟩
variable {elt iter tg:aP}{ifs:List aP}{scope:dW}{N':List Str}{nt:Nat}{ix:List Nat}{gi:ap->R (List D)}{gt:ap->R Bool}{ge:ap->R D}
def oE (nt:Nat) (ix:List Nat) (gi:ap->R (List D)) (gt:ap->R Bool) (ge:ap->R D):ap->R (List Str):=fun ρ=>(gi ρ).bind fun ds=>if ds.length<=60 then (gE (i5 nt (m9 nt ix ρ) gt ge) ds).bind fun ys=>match eg ys with
 |some ss=>.ok (dE [] ss)
 |none=>.no else .no
theorem wS  : ∀ {ss:List Str},eg (xs++ys)=some ss->∃ s1 s2,eg xs=some s1/\eg ys=some s2/\ss=s1++s2:=by
 induction xs with
 |nil=>intro ss h;exact ⟨[],ss,rfl,h,rfl⟩
 |cons d r ih =>
  intro ss h;cases d with
  |str b =>
   have h:(eg (r++ys)).map (b::·)=some ss:=h;cases hr:eg (r++ys) with
   |none=>rw [hr] at h;cases h
   |some z =>
    rw [hr] at h;cases h;obtain ⟨s1,s2,h1,h2,rfl⟩:=ih hr;exact ⟨b::s1,s2,by show (eg r).map (b::·)=_;rw [h1];rfl,h2,rfl⟩
  |_=>cases h
theorem vF (z:Str):∀ (l acc:List Str),dE acc (l++[z])=if z∈dE acc l then dE acc l else dE acc l++[z]
 |[],acc=>rfl
 |x::l,acc=>by
  show dE _ (l++[z])=_;rw [vF z l];rfl
inductive SX (f:D->R (Option D)) (ds:List D) (ss:List Str) (H1 Hs1:Hp) (i m:Nat) (acc:List Str) (H':Hp):Prop
 |mk (done bE zs sa sz Hs':_) (h0:ds=done++bE) (h1:done.length=i) (h2:bE.length=m) (h3:cw H1 Hs1 H' Hs') (h4:acc=dE [] sa) (h5:sa.length<=i) (h6:gE f bE=.ok zs) (h7:eg zs=some sz) (h8:ss=sa++sz):SX f ds ss H1 Hs1 i m acc H'
theorem Lm        (hnt:nt=1\/nt=2)
  (q:Rs K w cls E ρ (oE nt ix gi gt ge ρ) σ H Q) :
  HC w nt ix (Rq K cls E ρ (gi ρ)) (F9 K nt) (fun σ H Q=>∃ ρ',G7 K cls E0 ρ' (gt ρ') σ H Q) (fun σ H Q=>∃ ρ',TR K cls E0 ρ' (ge ρ') σ H Q) σ H Q:=by
 obtain ⟨H0,Hs0,la,Hs,f,q⟩:=q;refine ⟨H0,Hs0,la,Hs,f,?_⟩;unfold oE at q;cases hi:gi ρ with
 |no=>rw [hi] at q;exact q
 |ex x n=>rw [hi] at q;exact q
 |ok ds =>
  rw [hi,bind_ok] at q;intro J H1 Hs1 Hn s1 sn it;by_cases hl:ds.length<=60
  ·rw [if_pos hl] at q;cases hm:gE (i5 nt (m9 nt ix ρ) gt ge) ds with
   |no=>rw [hm] at q;exact q.elim
   |ex x n=>exact (vB (Ap _ _ _ _) _ _ _ hm).elim
   |ok ys =>
    rw [hm,bind_ok] at q;cases hs:eg ys with
    |none=>rw [hs] at q;exact q.elim
    |some ss =>
     rw [hs] at q;obtain ⟨lb,fb⟩:=(f.step s1).block nt ix;refine ⟨SX (i5 nt (m9 nt ix ρ) gt ge) ds ss H1 Hs1,
      ⟨ds.length,[],ds,ys,[],ss,Hs1,rfl,rfl,rfl,.refl s1.sub,rfl,bT _,hm,hs,rfl⟩,?_⟩
     rintro i m acc H' ⟨done,bE,zs,sa,sz,Hs',hds,hdl,hrl,st,rfl,yl,hz,hzs,hy⟩;obtain ⟨igo,istop,iyld⟩:=it H' Hs' (sn.trans st.all) st.sh st.sub;cases bE with
     |nil =>
      left;cases hz;cases hzs;rw [bP] at hds hy;subst hy hds;exact ⟨istop i (by omega),fun p hp=>q p H' Hs' (s1.trans st) hp⟩
     |cons d bE =>
      right;have hil:i<ds.length:=by rw [hds,aI,aD];omega
      have hol:=jM sa [];simp at hol;refine ⟨igo i hil,sC (show (dE [] sa).length+1<=61 by omega) (by decide),fun x H2 hyl=>?_⟩;obtain ⟨d',Hs2,hd,s2,r2⟩:=iyld i x H2 hil hyl;have hdd:d'=d:=by
       rw [hds,b6 (by omega)] at hd;simp [hdl] at hd;exact hd.symm
      subst hdd;obtain ⟨o,zs',hf,hz',rfl⟩:=vA hz;have hf:=DB hf;obtain ⟨so,sz',hso,hsz,rfl⟩:=wS hzs;cases hb:Qg nt d' (m9 nt ix ρ) with
      |no=>rw [hb] at hf;cases hf
      |ex x n=>rw [hb] at hf;cases hf
      |ok ρ' =>
       rw [hb,bind_ok] at hf;refine Ao hnt ((fb.step st).step s2) r2 hb fun σ2 f2=>⟨ρ',?_⟩;refine ⟨_,_,_,Hs2,f2,?_⟩;cases ht:gt ρ' with
       |no=>rw [ht] at hf;cases hf
       |ex x n=>rw [ht] at hf;cases hf
       |ok b =>
        rw [ht,bind_ok] at hf;intro H3 Hs3 s3;cases b with
        |false =>
         rw [if_neg aU] at hf;cases hf;cases hso;refine wK ⟨bE.length,by rw [<- hrl];simp,done++[d'],bE,zs',sa,sz',Hs3,by rw [hds];simp,by simp [hdl],rfl,(st.trans s2).trans s3,rfl,by omega,hz',hsz,by simpa using hy⟩
        |true =>
         rw [if_pos rfl] at hf;refine A3 ⟨ρ',_,_,_,Hs3,f2.step s3,?_⟩;cases he:ge ρ' with
         |no=>rw [he] at hf;cases hf
         |ex x n=>rw [he] at hf;cases hf
         |ok y =>
          rw [he,bind_ok] at hf;cases hf;intro v H4 Hs4 s4 r4;cases r4 with
          |str z =>
           cases hso;exact ⟨z,bE.length,rfl,by rw [<- hrl];simp,done++[d'],bE,zs',sa++[z],sz',Hs4,by rw [hds];simp,by simp [hdl],rfl,((st.trans s2).trans s3).trans s4,(vF z sa []).symm,by simp;omega,hz',hsz,by rw [hy];simp⟩
          |none=>cases hso
          |bool _=>cases hso
          |int _=>cases hso
          |list _ _=>cases hso
          |tuple _ _=>cases hso
          |dictK _ _=>cases hso
          |dictT _ _ _=>cases hso
          |dictF _ _ _=>cases hso
  ·rw [if_neg hl] at q;exact q.elim
theorem HY (nt:Nat) (hnt:nt=1\/nt=2) (hc:c.X.calm=true) (S:mD c.X scope N' nt ix) (hi:JI c tg iter gi) (hb:rM c N' scope nt tg ifs elt gt ge) (hs:∀ x,dk iter c.X.env x=pure x:=by intro _;rfl) :
  P9 c (.SetComp elt [⟨tg,iter,ifs,0⟩] scope pos) (oE nt ix gi gt ge):=.of fun ρ=>pW (C7 hc S (yQ hnt) (hi ρ) hb.at hs) fun σ H Q q=>Lm hnt q
end
def bF (n:Nat) (ds:List D):ap:=ds.map Sl.shr++kW (n-ds.length) Sl.no
def hG (n:Nat) (g:ap->R Fl):List D->R D:=fun ds=>match g (bF n ds) with
 |.ok (.nx _)=>.ok .none
 |.ok (.rt d)=>.ok d
 |.ex c m=>.ex c m
 |_=>.no
theorem vG {n:Nat}{ds:List D}{i:Nat}{s:Sl} (h:(bF n ds)[i]?=some s):(∃ d,ds[i]?=some d/\s=.shr d)\/s=.no:=by
 unfold bF at h;by_cases hi:i<ds.length
 ·rw [bh (by simpa using hi),aF] at h;cases hd:ds[i]? with
  |none=>rw [hd] at h;cases h
  |some z=>rw [hd] at h;cases h;exact .inl ⟨z,rfl,rfl⟩
 ·rw [b6 (by simp;omega),bD] at h;split at h<;>cases h;exact .inr rfl
theorem Fd {N:List Str}{vs:List V}{i:Nat}{v:V} (h:vs[i]?=some v):(L2.start N vs)[i]?=some (some v):=by
 unfold L2.start;have hi:i<vs.length:=(List.getElem?_eq_some_iff.mp h).1;rw [bh (by simpa using hi),aF,h];rfl
theorem Fr.start {K : a6} {H Hs : Hp} {N : List Str} {vs : List V} {ds : List D} (sub : cR Hs H) (r : RDs K Hs vs ds) : Fr K H Hs (fun _ => none) (bF N.length ds) (L2.start N vs) H Hs := by
  have hl := r.length;refine ⟨.refl sub, by simp [bF, L2.start, hl], fun i d h => ?_, fun i d h => ?_, fun i d h => ?_, fun i j d e a h _ _ _ => ?_, fun i a h => (nomatch h), fun i d h => ?_, fun i j d e h _ => ?_⟩
  · rcases vG h with ⟨z, hz, e⟩ | e
    · cases e;obtain ⟨v, k1, k2⟩ := r.get' hz;exact ⟨v, Fd k1, k2⟩
    · cases e
  all_goals (rcases vG h with ⟨z, _, e⟩ | e <;> cases e)
theorem MR             (F:Bf K x qual st f fd) (S:bN N ps (aB st))
  (h:∀ (cdv:a8) (A:aZ) (outer:List Env) (s:aa) (H:Hp) (E:XK),j9 k (A.deeper (iH qual (aB st) s.heap.objs.size f cdv))->Dz ⟨iW (l_ P w) P w K mg base N qual (aB st) f cdv A outer s H E,cls,E⟩ (fB st) g) :
  pU P w K mg base (l_ P w) (k+1) f fd ps (MN K cls ps.length (hG N.length g)):=by
 obtain ⟨oc,od,kV,doc,pm,an,cdv,ct,osl,rfl,lk,hcd⟩:=F.ex;refine zY lk hcd S (fun vs H Q E h_4=>by obtain ⟨Hs,ds,sub,hn,r,q⟩:=h_4;exact by rw [r.length];exact hn) fun A outer s H vs Q E hr hsp=>?_;obtain ⟨Hs,ds,sub,hn,r,q⟩:=hsp;refine ⟨_,h cdv A outer s H E hr (bF N.length ds),H,Hs,_,Hs,Fr.start sub r,?_⟩;unfold hG at q;cases hg:g (bF N.length ds) with
 |no=>rw [hg] at q;exact q
 |ex c n=>rw [hg] at q;exact q
 |ok fl =>
  rw [hg] at q;cases fl with
  |nx ρ'=>exact fun σ' H' Hs' f'=>q .non H' Hs' f'.st .none
  |rt d=>exact fun v H' Hs' s r=>q v H' Hs' s r
  |bk ρ'=>exact q.elim
  |ct ρ'=>exact q.elim
theorem Qj             (F:Bf K x qual st f fd) (S:bN N ps (aB st)) (hm:mg x=some (.ref f)) (hb:j3 K fd ps [])
  (h:∀ (cdv:a8) (A:aZ) (outer:List Env) (s:aa) (H:Hp) (E:XK),j9 k (A.deeper (iH qual (aB st) s.heap.objs.size f cdv))->Dz ⟨iW (l_ P w) P w K mg base N qual (aB st) f cdv A outer s H E,cls,E⟩ (fB st) g) :
  Fn P w K mg base cls x (k+1) ps.length (hG N.length g):=⟨f,fd,ps,MR F S h,hm,F.kp,hb⟩
theorem fR:lG (l_ X.prog X.w) X E0:=fun _ _ _ _ _ _ _ h=>by
 obtain ⟨_,_,_,_,_,_,_,_,_,q⟩:=h;exact q.elim
end
section
def clear2 (ρ:ap):ap:=ρ.map fun s=>match s with
 |.ow2 _=>.no
 |s=>s
section
theorem Fr.clear2    (f:Fr K H0 Hs0 la ρ σ H Hs):Fr K H0 Hs0 la (clear2 ρ) σ H Hs/\∀ (j:Nat) (d:List (List D)),¬ (J.clear2 ρ)[j]?=some (Sl.ow2 d):=by
 have un:∀ {j:Nat}{s:Sl},(J.clear2 ρ)[j]?=some s->(∀ d,s≠.ow2 d)/\(ρ[j]?=some s\/s=.no):=fun {j s} e=>by
  unfold J.clear2 at e;rw [aF] at e;cases h:ρ[j]? with
  |none=>rw [h] at e;cases e
  |some t =>
   rw [h] at e;cases t with
   |ow2 d=>cases e;exact ⟨fun _ z=>(by cases z),.inr rfl⟩
   |no=>cases e;exact ⟨fun _ z=>(by cases z),.inl rfl⟩
   |shr d=>cases e;exact ⟨fun _ z=>(by cases z),.inl rfl⟩
   |lck d=>cases e;exact ⟨fun _ z=>(by cases z),.inl rfl⟩
   |own d=>cases e;exact ⟨fun _ z=>(by cases z),.inl rfl⟩
 have is:∀ {j:Nat}{s:Sl},s≠.no->(J.clear2 ρ)[j]?=some s->ρ[j]?=some s:=fun {j s} n e=>(un e).2.resolve_right n;have no2:∀ (j:Nat) (d:List (List D)),¬ (J.clear2 ρ)[j]?=some (Sl.ow2 d):=fun j d e=>(un e).1 d rfl;exact ⟨⟨f.st,by simp [J.clear2,f.len],fun j d h=>f.sh j d (is (fun z=>by cases z) h),fun j d h=>f.ow j d (is (fun z=>by cases z) h),fun j d h=>f.lk j d (is (fun z=>by cases z) h),fun j k d e a h1 h2=>f.dj j k d e a (is (fun z=>by cases z) h1) (is (fun z=>by cases z) h2),f.lh,fun j d h=>(no2 j d h).elim,fun j k d e h _=>(no2 j d h).elim⟩,no2⟩
end
def oF:List ac->Hp->Hp
 |[],H=>H
 |a::as,H=>oF as (upd H a (.lst []))
section
theorem vH:∀ (as:List ac) (H:Hp),(∀ a∈as,H a=none)->as.Nodup->cR H (oF as H)
 |[],H,_,_=>.refl H
 |a::as,H,h,nd=>by
  obtain ⟨n1,n2⟩:=List.nodup_cons.mp nd;refine (i3 (h a aw)).trans (vH as _ (fun b hb=>?_) n2);rw [aL (fun (z:b=a)=>n1 (z ▸ hb))];exact h b (ao _ hb)
theorem Aw:∀ (as:List ac) (H:Hp),as.Nodup->∀ a∈as,oF as H a=some (.lst [])
 |a::as,H,nd,b,hb=>by
  obtain ⟨n1,n2⟩:=List.nodup_cons.mp nd;show oF as (upd H a (.lst [])) b=_;by_cases hm:b∈as
  ·exact Aw as _ n2 b hm
  ·have e:b=a:=(List.mem_cons.mp hb).resolve_right hm;subst e;have:∀ (as:List ac) (H:Hp),b∉as->oF as H b=H b:=by
    intro as;induction as with
    |nil=>intro H _;rfl
    |cons c as ih =>
     intro H h;show oF as (upd H c (.lst [])) b=_;rw [ih _ (fun z=>h (ao _ z)),aL (fun (z:b=c)=>h (by rw [z];exact aw))]
   rw [this as _ hm,aK]
theorem ku:∀ (as:List ac) (H:Hp) (b:ac),oF as H b=none->H b=none/\b∉as
 |[],H,b,h=>⟨h,by simp⟩
 |a::as,H,b,h=>by
  obtain ⟨h1,h2⟩:=ku as (upd H a (.lst [])) b h;by_cases hb:b=a
  ·subst hb;rw [aK] at h1;cases h1
  ·rw [aL hb] at h1;exact ⟨h1,fun z=>(List.mem_cons.mp z).elim hb h2⟩
def Ln (i:Nat):ap->R Fl:=fun ρ=>.ok (.nx ((clear2 ρ).set i (.ow2 [[],[],[],[]])))
theorem OB (i:Nat)  (hN:c.X.N.Nodup) (hi:c.X.N[i]?=some x:=by rfl) (hx:K2 c.X.env.scope x:=by first|exact fF rfl|exact dX rfl)
  (hs:iB (.List [.List [] p1,.List [] p2,.List [] p3,.List [] p4] p) (some (.Name x pos')) spos.line c.X.env=pure false:=by rfl)
  (hf:c.X.fn x=true\/c.X.env.scope.names.lookup x=some .local:=by first|exact .inl rfl|exact .inr rfl|assumption)
  (h1:aq [.List [] p1,.List [] p2,.List [] p3,.List [] p4] c.X.env=(false,bU (.List [] p1) c.X.env)::aq [.List [] p2,.List [] p3,.List [] p4] c.X.env:=by rfl)
  (h2:aq [.List [] p2,.List [] p3,.List [] p4] c.X.env=(false,bU (.List [] p2) c.X.env)::aq [.List [] p3,.List [] p4] c.X.env:=by rfl)
  (h3:aq [.List [] p3,.List [] p4] c.X.env=(false,bU (.List [] p3) c.X.env)::aq [.List [] p4] c.X.env:=by rfl)
  (h4:aq [.List [] p4] c.X.env=(false,bU (.List [] p4) c.X.env)::aq [] c.X.env:=by rfl) :
  JS c (.Assign [.Name x pos'] (.List [.List [] p1,.List [] p2,.List [] p3,.List [] p4] p) spos) (Ln i):=.of fun ρ=>by
 refine zO (yp hN hi hx (lF (bI (lF dS) (bI (lF dS) (bI (lF dS) (bI (lF dS) dS h4) h3) h2) h1)) hs hf) fun D σ H h_0=>?_;obtain ⟨H0,Hs0,la,Hs,f,q⟩:=h_0;replace q:nL c.X.K c.cls c.E H0 Hs0 la D (Ln i ρ):=q;obtain ⟨f,no2⟩:=f.clear2;refine ⟨bT _,fun a1 n1=>⟨bT _,fun a2 n2=>⟨bT _,fun a3 n3=>⟨bT _,fun a4 n4=>⟨bw (cq (show 4<=1000 by decide)),fun a n=>?_⟩⟩⟩⟩⟩;have N:=ku [a1,a2,a3,a4] H a n;have N4:=ku [a1,a2,a3] H a4 n4;have N3:=ku [a1,a2] H a3 n3;have N2:=ku [a1] H a2 n2;simp only [aQ,aG,or_false,not_or] at N N4 N3 N2;have nd:[a1,a2,a3,a4].Nodup:=by
  simp only [List.nodup_cons,aQ,aG,or_false,not_or,kZ,and_true,not_false_eq_true];exact ⟨⟨e6 N2.2,e6 N3.2.1,e6 N4.2.1⟩,⟨e6 N3.2.2,e6 N4.2.2.1⟩,e6 N4.2.2.2⟩
 have free:∀ b∈[a1,a2,a3,a4],H b=none:=fun b hb=>by
  simp only [aQ,aG,or_false] at hb;rcases hb with rfl|rfl|rfl|rfl
  ·exact n1
  ·exact N2.1
  ·exact N3.1
  ·exact N4.1
 have nd5:(a::[a1,a2,a3,a4]).Nodup:=List.nodup_cons.mpr ⟨by simp only [aQ,aG,or_false,not_or];exact N.2,nd⟩;have sm:cR H (oF [a1,a2,a3,a4] H):=vH _ _ free nd;have all:cR H (upd (oF [a1,a2,a3,a4] H) a (.lst [.ref a1,.ref a2,.ref a3,.ref a4])):=sm.trans (i3 n);have free5:∀ b∈a::[a1,a2,a3,a4],H b=none:=fun b hb=>(List.mem_cons.mp hb).elim (fun z=>z ▸ N.1) (free b);have st:cw H Hs (upd (oF [a1,a2,a3,a4] H) a (.lst [.ref a1,.ref a2,.ref a3,.ref a4])) Hs:=⟨all,.refl _,f.st.sub.trans all,fun _ _ _ _ z=>z⟩;have f':=f.step st;have hl:i<σ.length\/¬ i<σ.length:=Decidable.em _;have nx:∀ {j:Nat}{s:Sl},(∀ d,s≠.ow2 d)->((clear2 ρ).set i (.ow2 [[],[],[],[]]))[j]?=some s->(clear2 ρ)[j]?=some s/\i≠j:=fun {j s} hs e=>by
  by_cases hj:i=j
  ·subst hj;by_cases hi:i<(clear2 ρ).length
   ·rw [ax hi] at e;exact absurd (bt e).symm (hs _)
   ·rw [c7 (by simpa using hi)] at e;cases e
  ·rw [ae hj] at e;exact ⟨e,hj⟩
 refine q _ _ Hs ⟨f'.st,by simp [f'.len],fun j d h=>?_,fun j d h=>?_,fun j d h=>?_,fun j k d d' b h1 h2 h3 h4=>?_,f'.lh,fun j d h=>?_,fun j k d d' h1 h2=>?_⟩
 ·obtain ⟨h,hj⟩:=nx (fun _ z=>by cases z) h;rw [ae hj];exact f'.sh j d h
 ·obtain ⟨h,hj⟩:=nx (fun _ z=>by cases z) h;rw [ae hj];exact f'.ow j d h
 ·obtain ⟨h,hj⟩:=nx (fun _ z=>by cases z) h;rw [ae hj];exact f'.lk j d h
 ·obtain ⟨h1,hj⟩:=nx (fun _ z=>by cases z) h1;obtain ⟨h2,hk⟩:=nx (fun _ z=>by cases z) h2;rw [ae hj] at h3;rw [ae hk] at h4;exact f'.dj j k d d' b h1 h2 h3 h4
 ·by_cases hj:i=j
  ·subst hj;by_cases hi:i<(clear2 ρ).length
   ·rw [ax hi] at h;cases h;have at4:=Aw [a1,a2,a3,a4] H nd;have ne:∀ b∈[a1,a2,a3,a4],b≠a:=fun b hb z=>(List.nodup_cons.mp nd5).1 (z ▸ hb);have go:∀ b∈[a1,a2,a3,a4],upd (oF [a1,a2,a3,a4] H) a (.lst [.ref a1,.ref a2,.ref a3,.ref a4]) b=some (.lst []):=fun b hb=>by rw [aL (ne b hb)];exact at4 b hb
    refine ⟨a,[a1,a2,a3,a4],ax (by rw [<- f'.len];exact hi),aK,nd5,fun b hb=>⟨f.st.sub.free (free5 b hb),f.st.all.free (free5 b hb)⟩,fun b hb k e hk=>?_,.cons (go _ (by simp)) .nil (.cons (go _ (by simp)) .nil (.cons (go _ (by simp)) .nil (.cons (go _ (by simp)) .nil .nil)))⟩;obtain ⟨hk,nk⟩:=nx (fun _ z=>by cases z) hk;rw [ae nk];intro z;obtain ⟨b',o,k1,k2,_⟩:=f.ow k e hk;rw [z] at k1;cases k1;rw [free5 b hb] at k2;cases k2
   ·rw [c7 (by simpa using hi)] at h;cases h
  ·rw [ae hj] at h;exact (no2 j d h).elim
 ·by_cases hj:i=j
  ·by_cases hk:i=k
   ·exact hj.symm.trans hk
   ·rw [ae hk] at h2;exact (no2 k d' h2).elim
  ·rw [ae hj] at h1;exact (no2 j d h1).elim
theorem HZ  (h:JS c st gs):JS c st (fun ρ=>gs (d_ ρ)):=.of fun ρ=>zO (h (d_ ρ)) fun D σ H h_1=>by
 obtain ⟨H0,Hs0,la,Hs,f,q⟩:=h_1;obtain ⟨Hs',f'⟩:=f.shared;exact ⟨H0,Hs0,la,Hs',f',q⟩
def shareAt (i:Nat) (ρ:ap):ap:=match ρ[i]? with
 |some (Sl.own d)=>ρ.set i (.shr d)
 |_=>ρ
theorem Fr.shareAt     (f:Fr K H0 Hs0 la ρ σ H Hs) (i:Nat):∃ Hs',Fr K H0 Hs0 la (J.shareAt i ρ) σ H Hs':=by
 unfold J.shareAt;split
 ·rename_i d ho
  obtain ⟨a,o,k1,k2,k3,k4,k5⟩:=f.ow i d ho;have hil:i<ρ.length:=(List.getElem?_eq_some_iff.mp ho).1;have up:cR Hs (upd Hs a o):=i3 k3;have nx:∀ {j:Nat}{s:Sl},(∀ d,s≠.shr d)->(ρ.set i (.shr d))[j]?=some s->ρ[j]?=some s/\i≠j:=fun {j s} hs e=>by
   by_cases hj:i=j
   ·subst hj;rw [ax hil] at e;exact absurd (bt e).symm (hs d)
   ·rw [ae hj] at e;exact ⟨e,hj⟩
  have ne:∀ (j:Nat) (e:D) (b:ac),i≠j->ρ[j]?=some (Sl.own e)->σ[j]?=some (some (V.ref b))->b≠a:=fun j e b hj h hb z=>by
   subst z;exact hj (f.dj i j d e b ho h k1 hb)
  refine ⟨upd Hs a o,⟨f.st.all,f.st.sh.trans up,fun b u e=>?_,fun b u e t z=>?_⟩,by simp [f.len],fun j e h=>?_,fun j e h=>?_,fun j e h=>?_,fun j k d1 d2 b h1 h2 h3 h4=>?_,f.lh,fun j e h=>?_,fun j k d1 d2 h1 h2=>?_⟩
  ·by_cases hb:b=a
   ·subst hb;rw [aK] at e;cases e;exact k2
   ·rw [aL hb] at e;exact f.st.sub b u e
  ·rw [aL (aS e k4)];exact f.st.out b u e t z
  ·by_cases hj:i=j
   ·subst hj;rw [ax hil] at h;cases h;exact ⟨_,k1,k5.share k3⟩
   ·rw [ae hj] at h;obtain ⟨v,q1,q2⟩:=f.sh j e h;exact ⟨v,q1,q2.same up⟩
  ·obtain ⟨h,hj⟩:=nx (fun _ z=>by cases z) h;obtain ⟨b,u,q1,q2,q3,q4,q5⟩:=f.ow j e h;exact ⟨b,u,q1,q2,by rw [aL (ne j e b hj h q1)];exact q3,q4,q5.same up⟩
  ·obtain ⟨h,hj⟩:=nx (fun _ z=>by cases z) h;obtain ⟨b,u,q1,q2,q3,q4,q5,q6⟩:=f.lk j e h;exact ⟨b,u,q1,q2,q3,by rw [aL (aS q5 k4)];exact q4,q5,q6.same up⟩
  ·exact f.dj j k d1 d2 b (nx (fun _ z=>by cases z) h1).1 (nx (fun _ z=>by cases z) h2).1 h3 h4
  ·obtain ⟨h,hj⟩:=nx (fun _ z=>by cases z) h;obtain ⟨b,as,O⟩:=f.o2 j e h;refine ⟨b,as,O.at_,O.ob,O.nd,fun c hc=>⟨?_,(O.out c hc).2⟩,fun c hc k e' hk=>O.dj c hc k e' (nx (fun _ z=>by cases z) hk).1,O.inn.step (.refl _) up⟩;rw [aL (fun z=>O.dj c hc i d ho (by rw [z];exact k1))];exact (O.out c hc).1
  ·exact f.u2 j k d1 d2 (nx (fun _ z=>by cases z) h1).1 (nx (fun _ z=>by cases z) h2).1
 ·exact ⟨Hs,f⟩
theorem Cq (i:Nat)  (h:JS c st gs):JS c st (fun ρ=>gs (shareAt i ρ)):=.of fun ρ=>zO (h (shareAt i ρ)) fun D σ H h_2=>by
 obtain ⟨H0,Hs0,la,Hs,f,q⟩:=h_2;obtain ⟨Hs',f'⟩:=f.shareAt i;exact ⟨H0,Hs0,la,Hs',f',q⟩
theorem xJ.get    (h:xJ K H Hs as dss):∀ {j:Nat}{ds:List D},dss[j]?=some ds->∃ b vs,as[j]?=some b/\H b=some (.lst vs)/\RDs K Hs vs ds:=by
 induction h with
 |nil=>intro j ds e;cases e
 |cons h r t ih =>
  intro j ds e;cases j with
  |zero=>cases e;exact ⟨_,_,rfl,h,r⟩
  |succ j=>have q:=ih (j:=j) e;exact q
theorem xJ.set    (r':RDs K Hs vs' ds'):∀ {as:List ac}{dss:List (List D)}{j:Nat}{b:ac},xJ K H Hs as dss->as[j]?=some b->as.Nodup->xJ K (L2.upd H b (.lst vs')) Hs as (dss.set j ds')
 |_,_,_,_,.nil,h,_=>by simp at h
 |_,_,0,b,.cons h r t,e,nd=>by
  simp at e;subst e;exact .cons aK r' (t.upd (List.nodup_cons.mp nd).1)
 |_,_,j+1,b,.cons (a:=a) h r t,e,nd=>by
  have e':_:=e;simp only [fh] at e';obtain ⟨n1,n2⟩:=List.nodup_cons.mp nd;have hb:b∈_:=dL e';exact .cons (by rw [aL (fun z=>n1 (by rw [z];exact hb))];exact h) r (xJ.set r' t e' n2)
def md (i:Nat) (gi g:ap->R D):ap->R Fl:=fun ρ=>match ρ[i]? with
 |some (Sl.ow2 dss)=>(gi ρ).bind fun k=>match k with
  |.int j=>if 0<=j then (match dss[j.toNat]? with
   |some ds=>(g ρ).bind fun d=>if ds.length<1000 then .ok (.nx (ρ.set i (.ow2 (dss.set j.toNat (ds++[d]))))) else .no
   |none=>.no) else .no
  |_=>.no
 |_=>.no
theorem vI (i:Nat) (hie:JE c ie gi) (h:JE c e g) (hN:c.X.N[i]?=some x:=by rfl) (hv:Kp c.X.env.scope x:=by first|exact fF rfl|exact dX (fF rfl)|exact dX (dX rfl)) (hd:(x==("__debug__" : Str))=false:=by decide)
  (hcd:(x==("__classdict__" : Str))=false:=by decide) (hpx:uD ie:=by exact fun _ _=>rfl)
  (hbase:fo (.Subscript (.Name x p) ie p3) "append" c.X.env (bU (.Subscript (.Name x p) ie p3) c.X.env)=bU (.Subscript (.Name x p) ie p3) c.X.env:=by rfl)
  (hfew:((fK cpos (aq [e] c.X.env)).all (fun x=>!x.1)&&(backToKw cpos (K8 [] c.X.env)).all (fun x=>x.1.isSome)
   && decide ([e].length+([] : List wv).length+(if ([] : List wv).isEmpty then 0 else 1)<30))=true:=by rfl)
  (hline:(apos.endLine==cpos.line)=true:=by rfl) (hst:aq [e] c.X.env=(false,bU e c.X.env)::aq [] c.X.env:=by rfl) (hplain:(fK cpos (aq [] c.X.env)).any (·.1)=false:=by rfl)
  (hs:iB (.Call (.Attribute (.Subscript (.Name x p) ie p3) "append" apos) [e] [] cpos) none pos.line c.X.env=pure false:=by rfl) :
  JS c (.Expr (.Call (.Attribute (.Subscript (.Name x p) ie p3) "append" apos) [e] [] cpos) pos) (md i gi g):=.of fun ρ=>by
 refine zO (uC (xA dO wB wC xB (Mt Dg (o9 hN hv hd hcd) (hie ρ) hpx) (bI (h ρ) dS hst) hbase hfew hline hst hplain) hs) fun D σ H h_3=>?_;obtain ⟨H0,Hs0,la,Hs,f,q⟩:=h_3;replace q:nL c.X.K c.cls c.E H0 Hs0 la D (md i gi g ρ):=q;unfold md at q;split at q
 ·rename_i dss ho
  obtain ⟨a,as,O⟩:=f.o2 i dss ho;refine ⟨_,O.at_,?_⟩;refine sE f q fun k v H1 Hs1 e1 s1 f1 r1=>?_;rw [e1,bind_ok] at q;cases r1 with
  |int j =>
   simp only at q;by_cases hj:0<=j
   ·rw [if_pos hj] at q;split at q
    ·rename_i ds hds
     obtain ⟨b,vs,hb,hH,rv⟩:=O.inn.get hds;have hix:Be (as.map V.ref) j=some (.ref b):=by
      have:=rh (xs:=as.map V.ref) (j:=j.toNat) (v:=V.ref b) (by rw [aF,hb];rfl)
      rwa [cb hj] at this
     refine ⟨a,_,j,_,rfl,rfl,.of (s1.all _ _ O.ob),hix,.inl ⟨rfl,_,.of (s1.all _ _ hH)⟩,?_⟩;refine sE f1 q fun d w H2 Hs2 e2 s2 f2 r2=>?_;rw [e2,bind_ok] at q;by_cases hl:ds.length<1000
     ·rw [if_pos hl] at q;have st:=s1.trans s2;refine ⟨b,vs,w,rfl,rfl,st.all _ _ hH,cq (by rw [rv.length];omega),?_⟩;have hil:i<ρ.length:=(List.getElem?_eq_some_iff.mp ho).1;obtain ⟨a',as',O2'⟩:=f2.o2 i dss ho;have ea:a'=a:=by
       have:=O2'.at_;rw [O.at_] at this;cases this;rfl
      subst ea;have eas:as'=as:=by
       have h1:=O2'.ob;rw [st.all _ _ O.ob] at h1;injection h1 with h1;injection h1 with h1;exact (G6 (fun x y z=>by cases z;rfl) |>.mp h1).symm
      subst eas;have hbm:b∈a'::as':=ao _ (dL hb);have nb:b≠a':=fun z=>(List.nodup_cons.mp O.nd).1 (z ▸ dL hb);obtain ⟨bs,b0⟩:=O2'.out b hbm;have nx:∀ {j':Nat}{s:Sl},(∀ d,s≠.ow2 d)->(ρ.set i (.ow2 (dss.set j.toNat (ds++[d]))))[j']?=some s->ρ[j']?=some s/\i≠j':=fun {j' s} hs e=>by
       by_cases hj:i=j'
       ·subst hj;rw [ax hil] at e;exact absurd (bt e).symm (hs _)
       ·rw [ae hj] at e;exact ⟨e,hj⟩
      refine q _ _ Hs2 ⟨⟨fun c u e=>?_,f2.st.sh,fun c u e=>?_,f2.st.out⟩,by simp [f2.len],fun j' d' h=>f2.sh j' d' (nx (fun _ z=>by cases z) h).1,fun j' d' h=>?_,fun j' d' h=>?_,fun j' k' d' e' a h1 h2=>f2.dj j' k' d' e' a (nx (fun _ z=>by cases z) h1).1 (nx (fun _ z=>by cases z) h2).1,f2.lh,fun j' d' h=>?_,fun j' k' d' e' h1 h2=>?_⟩
      ·rw [aL (aS e b0)];exact f2.st.all c u e
      ·rw [aL (aS e bs)];exact f2.st.sub c u e
      ·obtain ⟨h,_⟩:=nx (fun _ z=>by cases z) h;obtain ⟨c',u,k1,k2,k3,k4,k5⟩:=f2.ow j' d' h;refine ⟨c',u,k1,?_,k3,k4,k5⟩;rw [aL (fun z=>O2'.dj b hbm j' d' h (by rw [<- z];exact k1))];exact k2
      ·obtain ⟨h,_⟩:=nx (fun _ z=>by cases z) h;obtain ⟨c',u,k1,k2,k3,k4,k5,k6⟩:=f2.lk j' d' h;refine ⟨c',u,k1,k2,?_,k4,k5,k6⟩;rw [aL (aS k5 b0)];exact k3
      ·by_cases hj':i=j'
       ·subst hj';rw [ax hil] at h;cases h;refine ⟨a',as',O2'.at_,by rw [aL (e6 nb)];exact O2'.ob,O2'.nd,O2'.out,fun c hc k e' hk=>O2'.dj c hc k e' (nx (fun _ z=>by cases z) hk).1,?_⟩;exact xJ.set ((rv.same st.sh).append (.cons r2 .nil)) O2'.inn hb (List.nodup_cons.mp O2'.nd).2
       ·rw [ae hj'] at h;exact (hj' (f2.u2 i j' _ _ ho h)).elim
      ·by_cases hj':i=j'
       ·by_cases hk':i=k'
        ·exact hj'.symm.trans hk'
        ·rw [ae hk'] at h2;exact (hk' (f2.u2 i k' _ _ ho h2)).elim
       ·rw [ae hj'] at h1;exact (hj' (f2.u2 i j' _ _ ho h1)).elim
     ·rw [if_neg hl] at q;exact q.elim
    ·exact q.elim
   ·rw [if_neg hj] at q;exact q.elim
  |none=>exact q.elim
  |bool _=>exact q.elim
  |str _=>exact q.elim
  |list _ _=>exact q.elim
  |tuple _ _=>exact q.elim
  |dictK _ _=>exact q.elim
  |dictT _ _ _=>exact q.elim
  |dictF _ _ _=>exact q.elim
 ·exact q.elim
end
end
section
open PyProof.Rows (OwnCls)
section
end
section
end
structure Er (mg:Str->Option a8) (base:ba) (cls:Str->ac) (x:Str):Prop where
 ex:∃ bmB newId initId Bn,OwnCls x (cls x) bmB newId mg base/\ExcBaseFacts Bn newId initId bmB
def oG (x:Str) (gs:ap->R (List D)):ap->R Fl:=fun ρ=>(gs ρ).bind fun ds=>if ds.length<=1000 then .ex x none else .no
section
theorem vJ {x:Str}{np cpos pos:Pos}{e0:aP}{bE:List aP}{gs:ap->R (List D)} (R0:Er mg base cls x)
  (hg:Gl (iW (l_ P w) P w K mg base N qual scope f cd A outer s H E) x) (ha:Dt ⟨iW (l_ P w) P w K mg base N qual scope f cd A outer s H E,cls,E⟩ (e0::bE) gs)
  (he:aq (e0::bE) (iW (l_ P w) P w K mg base N qual scope f cd A outer s H E).env=(false,bU e0 (iW (l_ P w) P w K mg base N qual scope f cd A outer s H E).env)::aq bE (iW (l_ P w) P w K mg base N qual scope f cd A outer s H E).env:=by rfl)
  (hdb:(x==("__debug__" : Str))=false:=by decide) (hpl:(fK cpos (aq bE (iW (l_ P w) P w K mg base N qual scope f cd A outer s H E).env)).any (·.1)=false:=by rfl) :
  JS ⟨iW (l_ P w) P w K mg base N qual scope f cd A outer s H E,cls,E⟩ (.Raise (some (.Call (.Name x np) (e0::bE) [] cpos)) none pos) (oG x gs):=.of fun ρ=>by
 obtain ⟨bmB,newId,initId,Bn,O,FB⟩:=R0.ex;refine zO (Ht O FB hg (ha ρ) he hdb hpl) fun D σ H1 h_1=>?_;obtain ⟨H0,Hs0,la,Hs,f,q⟩:=h_1;replace q:nL K cls E H0 Hs0 la D (oG x gs ρ):=q;refine ⟨H0,Hs0,la,Hs,f,?_⟩;unfold oG at q;cases hr:gs ρ with
 |no=>rw [hr] at q;exact q
 |ex y n=>rw [hr] at q;exact fun H' Hs' s=>q H' Hs' (f.st.trans s)
 |ok ds =>
  rw [hr,bind_ok] at q;intro vs H2 Hs2 s2 r2;by_cases hl:ds.length<=1000
  ·rw [if_pos hl] at q;exact ⟨bw (cq (by rw [r2.length];exact hl)),q H2 Hs2 (f.st.trans s2)⟩
  ·rw [if_neg hl] at q;exact q.elim
end
end
section
structure Bi (mg:Str->Option a8):Prop where
 len:mg "len"=none
 isinstance:mg "isinstance"=none
 all:mg "all"=none
 any:mg "any"=none
 zip:mg "zip"=none
 tuple:mg "tuple"=none
 list:mg "list"=none
 sorted:mg "sorted"=none
 set:mg "set"=none
 range:mg "range"=none
 enumerate:mg "enumerate"=none
 dict:mg "dict"=none
 sum:mg "sum"=none
 max:mg "max"=none
 min:mg "min"=none
 reversed:mg "reversed"=none
 str:mg "str"=none
 int:mg "int"=none
 bool:mg "bool"=none
end
section
structure Xf (K:a6) (base:ba) (cls:Str->ac) (names:List Str) (C:ac) (j:Nat):Prop where
 ek:Hv K C
 is:∀ i n,names[i]?=some n->cL K (.ref C) (.ref (cls n))=some (decide (i=j))
 ve:cL K (.ref C) (.type "ValueError")=some true
 ox:∃ bm,yG base C bm/\bm.contains (.ref (cls "PlanError"))=true
 lt:j<11
inductive MS (K:a6) (base:ba) (cls:Str->ac) (names:List Str) (vs:List V) (H:Hp) (Q:VK) (z_3:XK):Prop
 |mk (ea C j:_) (h0:vs=[.ref ea]) (h1:H ea=some (vk ea C)) (h2:Xf K base cls names C j) (h3:∀ t H',cR H H'->H t=none->H' t=some (.tup [.str "refused",.int (j:Nat)])->Q (.ref t) H'):MS K base cls names vs H Q z_3
def OC (K:a6) (base:ba) (cls:Str->ac) (names:List Str):Sp:=MS K base cls names
def uw (j:Nat):List Bool:=[decide (0=j),decide (1=j),decide (2=j),decide (3=j),decide (4=j),decide (5=j),decide (6=j),decide (7=j),decide (8=j),decide (9=j),decide (10=j)]
theorem Cr:∀ j,j<11->(uw j).countP id=1:=by
 intro j h;have:∀ k:_root_.Fin 11,(uw k.val).countP id=1:=by decide
 exact this ⟨j,h⟩
theorem Lo:∀ j,j<11->(uw j)[j]?=some true/\∀ m,m<j->(uw j)[m]?=some false:=by
 intro j h;have:∀ k:_root_.Fin 11,(uw k.val)[k.val]?=some true/\∀ m:_root_.Fin 11,m.val<k.val->(uw k.val)[m.val]?=some false:=by decide
 exact ⟨(this ⟨j,h⟩).1,fun m hm=>(this ⟨j,h⟩).2 ⟨m,by omega⟩ hm⟩
section
theorem kw   (h0:PE X e0 (EB 0)) (hg:Gl X "isinstance") (hm:X.mg "isinstance"=none) (hgn:Gl X n) (hmn:X.mg n=some (.ref (cls n))) (hdb:(n==("__debug__" : Str))=false:=by decide)
  (he:aq [e0,.Name n p2] X.env=(false,bU e0 X.env)::aq [.Name n p2] X.env:=by rfl) (hpl:(fK pos (aq [.Name n p2] X.env)).any (·.1)=false:=by rfl) :
  PE X (.Call (.Name "isinstance" p) [e0,.Name n p2] [] pos) (fun σ H Q=>∃ ea C j i,σ[0]?=some (some (V.ref ea))/\H ea=some (vk ea C)/\Xf X.K base cls names C j/\names[i]?=some n/\Q (.bl (decide (i=j))) H) :=
 pW (lV tX hg hm iZ (bI h0 (bI (r9 hgn hmn (v:=.ref (cls n)) rfl hdb) dS) he) (by decide) (by decide) he hpl) fun σ H Q ⟨ea,C,j,i,h1,h2,x,h3,q⟩ =>
  ⟨_,h1,.ref ea,.ref (cls n),.ref (cls n),_,rfl,.inr ⟨_,rfl,rfl⟩,.inr ⟨ea,C,rfl,h2,x.ek,x.is i n h3⟩,q⟩
theorem Lp  (h0:PE X e0 (EB 0)) (hg:Gl X "isinstance") (hm:X.mg "isinstance"=none) (hgn:Gl X "ValueError") (hmn:X.mg "ValueError"=none)
  (he:aq [e0,.Name "ValueError" p2] X.env=(false,bU e0 X.env)::aq [.Name "ValueError" p2] X.env:=by rfl) (hpl:(fK pos (aq [.Name "ValueError" p2] X.env)).any (·.1)=false:=by rfl) :
  PE X (.Call (.Name "isinstance" p) [e0,.Name "ValueError" p2] [] pos) (fun σ H Q=>∃ ea C j,σ[0]?=some (some (V.ref ea))/\H ea=some (vk ea C)/\Xf X.K base cls names C j/\Q (.bl true) H) :=
 pW (lV tX hg hm iZ (bI h0 (bI (D7 hgn hmn (u:=.type "ValueError") (v:=.ty "ValueError") rfl rfl) dS) he) (by decide) (by decide) he hpl) fun σ H Q ⟨ea,C,j,h1,h2,x,q⟩ =>
  ⟨_,h1,.ref ea,.ty "ValueError",.type "ValueError",_,rfl,.inl ⟨_,rfl,rfl⟩,.inr ⟨ea,C,rfl,h2,x.ek,x.ve⟩,q⟩
end
end
end J
section
namespace J
open PySem L2
def H_ (wh:Str->Option Nat) (gb:ap->R Fl):ap->R Fl:=fun ρ=>match gb ρ with
 |.ok fl=>.ok fl
 |.ex y none=>match wh y with
  |some j=>.ok (.rt (.tuple [.str "refused",.int (j:Nat)]))
  |none=>.no
 |_=>.no
structure Wh (P:aH) (w:aY) (K:a6) (mg:Str->Option a8) (base:ba) (cls:Str->ac) (x:Str) (names:List Str) (wh:Str->Option Nat):Prop where
 fn:∃ f fd ps,Ah P w K mg base 1 f fd ps (OC K base cls names)/\mg x=some (.ref f)/\cZ K (.ref f)=true/\j3 K fd ps []
 pe:mg "PlanError"=some (.ref (cls "PlanError"))
 ox:∃ bp,yG base (cls "PlanError") bp
 xf:∀ y j,wh y=some j->Xf K base cls names (cls y) j
section
theorem Lq (i:Nat) (W:Wh c.X.prog c.X.w c.X.K c.X.mg c.X.base c.cls x names wh) (hb:∀ (E:XK) (xe:a8->aa->Prop) (pn:List (ac×Obj)),lG (l_ c.X.prog c.X.w) (On c.X xe pn) E->Dz ⟨On c.X xe pn,c.cls,E⟩ body gb)
  (hr:ko 1 c.X.A) (hgx:Gl c.X x) (hg:Gl c.X "PlanError") (hN:c.X.N.Nodup) (hi:c.X.N[i]?=some n:=by rfl) (hn:c.X.env.scope.names.lookup n=some .local:=by rfl)
  (hst:∃ l,c.X.stack=c.X.env::l/\c.X.env.frame=some c.X.env.locals:=by exact ⟨_,rfl,rfl⟩) (hex:c.X.ex=[]:=by rfl) (hdb:(x==("__debug__" : Str))=false:=by decide) (hd:(n==("__debug__" : Str))=false:=by decide) (hcd:(n==("__classdict__" : Str))=false:=by decide) :
  JS c (.Try body [.ExceptHandler (some (.Name "PlanError" np)) (some n) [.Return (some (.Call (.Name x np2) [.Name n np3] [] cpos)) rpos] hpos] [] [] pos) (H_ wh gb):=.of fun ρ=>by
 obtain ⟨f,fd,ps,F,hm,hk,hbn⟩:=W.fn;obtain ⟨bp,y⟩:=W.ox;have hs:∀ ea,zN (P6 c.X ea) [.Return (some (.Call (.Name x np2) [.Name n np3] [] cpos)) rpos] (Ph (Dd (OC c.X.K c.X.base c.cls names) [] E0 (Db (EB i) Ky))):=fun ea =>
  yn (BI (Hx (X:=P6 c.X ea) F (hr.mark _) hgx hm hk hbn (bI (o9 hi (.inl hn) hd hcd) dS) hdb))
 refine zO (Oo hg W.pe y hN hi hn hst hex (tb:=fun E D σ H=>SR c.X.K c.cls E ρ (gb ρ) D σ H) (fun E xe pn hp=>hb E xe pn hp ρ) hs) fun D σ H h_0=>?_;obtain ⟨H0,Hs0,la,Hs,fr,q⟩:=h_0;replace q:nL c.X.K c.cls c.E H0 Hs0 la D (H_ wh gb ρ):=q;refine ⟨H0,Hs0,la,Hs,fr,?_⟩;unfold H_ at q;cases hr':gb ρ with
 |no=>rw [hr'] at q;exact q
 |ok fl =>
  rw [hr'] at q;cases fl<;>exact q
 |ex z m =>
  rw [hr'] at q;cases m with
  |some d=>exact q.elim
  |none =>
   simp only at q;cases hw:wh z with
   |none=>rw [hw] at q;exact q.elim
   |some j =>
    rw [hw] at q;have X0:=W.xf z j hw;intro H' Hs' st;obtain ⟨bm,o1,o2⟩:=X0.ox;refine ⟨c.cls z,bm,rfl,o1,o2,fun ea hea=>?_⟩;have hl:i<c.X.N.length:=(List.getElem?_eq_some_iff.mp hi).1;refine ⟨.ref ea,ax (by simpa [vm] using hl),ea,c.cls z,j,rfl,aK,X0,fun t H2 sm ht hT=>?_⟩;have s1:cR H' (upd H' ea (vk ea (c.cls z))):=i3 hea;have ht':H' t=none:=s1.free ht;refine q (.ref t) H2 (upd Hs' t (.tup [.str "refused",.int (j:Nat)])) ?_ (.tuple aK (.cons (.str _) (.cons (.int _) .nil)));refine st.trans ⟨s1.trans sm,i3 (st.sub.free ht'),fun b u e=>?_,fun a o e _ z=>by rw [aL (aS e ht')];exact z⟩;by_cases hb':b=t
    ·subst hb';rw [aK] at e;cases e;exact hT
    ·rw [aL hb'] at e;exact sm b u (s1 b u (st.sub b u e))
end
end J
namespace L2
open PySem
theorem ko.mono1  (r:ko k A) (h:1<=k:=by decide):ko 1 A:=⟨by have:=r.dp;omega,by have:=r.un;omega⟩
end L2
end
namespace J
open PySem L2
section
open PyProof.Rows (OwnCls)
abbrev Lr:List a8:=[.type "ValueError",.type "Exception",.type "BaseException",.type "object"]
theorem Cu {K:a6}{h:ba}{mg:Str->Option a8}{x:Str}{C:ac}{bmB:List a8}{newId:String} (X:K.In h) (G:h.Ns aW mg) (e:dz K aW x=some (some (.ref C))) (q:wD K C bmB newId=true) (m1:bS K C (.type "BaseException")=some true) :
  OwnCls x C bmB newId mg h/\∃ bm,yG h C bm/\∀ v,(v==bL C)=false->bS K C v=some true->bm.contains v=true:=by
 have hmg:=eT X G e;unfold wD at q;split at q
 ·rename_i dd cd sl look
  split at q
  ·rename_i C' bm k0 k1 k2 k3 n k5 hmro hslots
   simp only [aC,beq_iff_eq,Go] at q;obtain ⟨⟨⟨⟨⟨rfl,rfl⟩,nodel⟩,tl⟩,nsok⟩,noinit⟩:=q;have slots:sl=#[k0,k1,k2,k3,some (.builtin n),k5]:=by
    cases sl with|mk l=>simp only at hslots;rw [hslots]
   have inMro:∀ v,bS K C' v=some true->cd.mro.contains v=true:=fun v hv=>by
    unfold bS eS at hv;rw [look] at hv;simp only [Option.bind_some] at hv;split at hv
    ·cases hv
    ·exact bt hv
   have bE:∀ v,(v==bL C')=false->bS K C' v=some true->bm.contains v=true:=fun v nv hv=>by
    have:=inMro v hv;rw [hmro,kY,nv,qY] at this;exact this
   obtain ⟨nm,bs,mro,ns,qn,hd,sn,sub,ab,col,del⟩:=cd;dsimp only at hmro nodel nsok noinit;subst hmro nodel slots;have at_:=X _ _ look;exact ⟨⟨hmg,bm,ns,nm,qn,bs,hd,sn,sub,ab,col,dd,k0,k1,k2,k3,k5,_,at_,.of_isNs (kh X nsok),dA X nsok noinit,PySem.W.tail_of_in X tl⟩,
    bm,⟨⟨nm,qn,ns,bs,hd,sn,sub,ab,col,dd,k0,k1,k2,k3,k5,n,at_⟩,bE _ rfl m1⟩,bE⟩
  ·cases q
 ·cases q
structure TopC (K:a6) (x:Str) (C:ac):Prop where
 ns:dz K aW x=some (some (.ref C))
 ex:wD K C Lr "ValueError.__new__"=true
 mb:bS K C (.type "BaseException")=some true
theorem TopC.er {K:a6}{h:ba}{mg:Str->Option a8}{cls:Str->ac}{x:Str}{C:ac} (T:TopC K x C) (X:K.In h) (G:h.Ns aW mg) (hc:cls x=C):Er mg h cls x:=by
 subst hc;exact ⟨_,_,_,_,(Cu X G T.ns T.ex T.mb).1,PySem.F.excBase_ValueError⟩
theorem Ls {K:a6}{t C:ac}{cd:ClassData}{b:Bool} (h1:eS K C=some cd) (h2:uY K (.ref C)=some (.type "type")) (h3:lE K (.ref t) (.ref C)=some b) (hn:b=false->t≠C):cL K (.ref t) (.ref C)=some b:=by
 unfold cL;split
 ·rename_i he
  have e:t=C:=by have:=eq_of_beq he;cases this;rfl
  cases b with
  |true=>rfl
  |false=>exact (hn rfl e).elim
 ·unfold Gp;simp only [h1,h2,qR,beq_self_eq_true,io,if_true];exact h3
theorem OD  (h3:lE K (.ref t) (.type "ValueError")=some true):cL K (.ref t) (.type "ValueError")=some true:=by
 unfold cL;split
 ·rename_i he
  cases (eq_of_beq he)
 ·unfold Gp;show (if PySem.W.kitMeta "ValueError"=true then _ else none)=some true;rw [if_pos (by decide +kernel)];exact h3
inductive Qk (K:a6) (F:List D->R D) (vs:List V) (H:Hp) (Q:VK) (z_3:XK):Prop
 |mk (Hs ds d:_) (h0:cR Hs H) (h1:ds.length=1) (h2:RDs K Hs vs ds) (h3:F ds=.ok d) (h4:∀ v H' Hs',cw H Hs H' Hs'->RD K Hs' v d->Q v H'):Qk K F vs H Q z_3
def Ql (K:a6) (F:List D->R D):Sp:=Qk K F
theorem OE   : ∀ vs H Q E,Ql K F vs H Q E->MN K cls 1 F vs H Q E:=fun vs H Q E ⟨Hs,ds,d,s,l,r,e,q⟩=>⟨Hs,ds,s,l,r,by rw [e];exact q⟩
def Qm (l:List (Str×ac)):Str->ac:=fun x=>(l.lookup x).getD 0
theorem OF {K:a6}{F:List D->R D}{H:Hp}{a:ac}{ns:List Int} (hF:F [.list (ns.map .int)]=.ok (.bool true)) (h:jI K H a (ns.map V.int)):Ql K F [.ref a] H (fun v _=>v=.bl true) fun _ _ _=>False:=by
 have ri:∀ ns:List Int,RDs K H (ns.map V.int) (ns.map .int):=fun ns=>by
  induction ns with
  |nil=>exact .nil
  |cons x r ih=>exact .cons (.int x) ih
 refine ⟨H,[.list (ns.map .int)],.bool true,.refl H,rfl,.cons (.list h (ri ns)) .nil,hF,?_⟩;intro v H' Hs' _ r;cases r;rfl
theorem OG      (h:l_ P w [] H s (fun _ _ _=>False) e s'):False:=by
 obtain ⟨_,_,_,_,_,_,_,_,_,q⟩:=h;exact q
theorem walkF {l:uk}{k:Nat}{q:aH}{loose:List Str}{XP:(Str->Option a8)->ba->Prop}{YP:aY->ba->Prop}{d:DefRec}{K:Params->a6}{x:Str}{F0:List D->R D}
  (hn:l.most=some 63) (hdf:d.params.defaults=[]) (hr:j9 k tO) (hY:∀ (w:aY) (h:ba),YP w h->(K w.params).In h)
  (F:∀ (w:aY) (mg:Str->Option a8) (fa:ac) (h:ba),(K w.params).In h->h.Ns aW mg->mg d.name=some (.ref fa) ->
   ∃ fd:db,(∀ (s:aa) (u:a8),tN s fd ⟨[u],[]⟩ [(x,u)])/\∀ base:ba,(K w.params).In base->base.Ns aW mg->pU l.prog w (K w.params) mg base (l_ l.prog w) k fa fd [x] (Ql (K w.params) F0))
  (hF:∀ ns:List Int,ns.length<=63->F0 [.list (ns.map .int)]=.ok (.bool true)) :
  JV q loose XP YP l.row.toRowW d [] (fun f vs=>Eo f vs) :=
 L2.KN (n:=63) (k:=k) (x:=x) (CX:=fun w=>l_ l.prog w) (sp:=fun w=>Ql (K w.params) F0) hn (by decide) hdf hr hY F (fun w H a ns hl _ hS=>OF (hF ns hl) hS) fun _ _ _ _ _ h=>OG h
def Rt (i:Nat) (g:ap->R Fl):ap->R Fl:=fun ρ=>g (shareAt i ρ)
theorem I0 (i:Nat)  (h:JS c st gs):JS c st (Rt i gs):=Cq i h
end
section
section
theorem i6 {α β:Type} (a:α) (f:α->R β):(R.ok a).bind f=f a:=id rfl
def Fe (h:ap->R Fl):Fl->R Fl:=fun fl=>match fl with
 |.nx ρ'=>h ρ'
 |fl=>.ok fl
theorem xR (g h:ap->R Fl):bz g h (s::ρ)=(g (s::ρ)).bind (Fe h):=id rfl
theorem oH (h:ap->R Fl) (ρ:ap):Fe h (.nx ρ)=h ρ:=id rfl
theorem Ax (h:ap->R Fl) (d:D):Fe h (.rt d)=.ok (.rt d):=id rfl
def Ru (g h:ap->R Fl) (ρ:ap):Bool->R Fl:=fun b=>bif b then g ρ else h ρ
theorem Lu (t:ap->R Bool) (g h:ap->R Fl):f_ t g h (s::ρ)=(t (s::ρ)).bind (Ru g h (s::ρ)):=by
 show (t (s::ρ)).bind _=_;congr 1;funext b;cases b<;>rfl
theorem I9 (g h:ap->R Fl) (ρ:ap):Ru g h ρ true=g ρ:=id rfl
theorem Cv (g h:ap->R Fl) (ρ:ap):Ru g h ρ false=h ρ:=id rfl
theorem Ia (g h:ap->R Fl) (ρ:ap) (b:Bool):Ru g h ρ b=bif b then g ρ else h ρ:=id rfl
def SY:D->R Fl:=fun d=>.ok (.rt d)
theorem MT (g:ap->R D):eC g (s::ρ)=(g (d_ (s::ρ))).bind SY:=id rfl
theorem Qn (d:D):SY d=.ok (.rt d):=id rfl
def vK:Sl->Sl
 |.own d=>.shr d
 |.ow2 dss=>.shr (.list (dss.map .list))
 |s=>s
theorem DG:d_ (s::ρ)=vK s::d_ ρ:=by cases s<;>rfl
theorem Ay:d_ []=[]:=id rfl
theorem DH:vK .no=.no:=id rfl
theorem Az (d:D):vK (.shr d)=.shr d:=id rfl
theorem AA (d:D):vK (.own d)=.shr d:=id rfl
theorem AB (d:List (List D)):vK (.ow2 d)=.shr (.list (d.map .list)):=id rfl
def Qo (i:Nat) (ρ:ap):D->R Fl:=fun d=>.ok (.nx (ρ.set i (.shr d)))
theorem Ib (i:Nat) (g:ap->R D):eV i g (s::ρ)=(g (s::ρ)).bind (Qo i (s::ρ)):=id rfl
theorem Ic (i:Nat) (ρ:ap) (d:D):Qo i ρ d=.ok (.nx (ρ.set i (.shr d))):=id rfl
def MU (i:Nat) (ρ:ap):D->R Fl:=fun d=>.ok (.nx (ρ.set i (.own d)))
theorem Ie (i:Nat) (g:ap->R D):nE i g (s::ρ)=(g (s::ρ)).bind (MU i (s::ρ)):=id rfl
theorem DI (i:Nat) (ρ:ap) (d:D):MU i ρ d=.ok (.nx (ρ.set i (.own d))):=id rfl
def SZ (gb:ap->R D) (h:D->D->R D) (ρ:ap):D->R D:=fun x=>(gb ρ).bind (h x)
theorem Qp (ga gb:ap->R D) (h:D->D->R D):g2 ga gb h (s::ρ)=(ga (s::ρ)).bind (SZ gb h (s::ρ)):=id rfl
theorem MV (gb:ap->R D) (h:D->D->R D) (ρ:ap) (x:D):SZ gb h ρ x=(gb ρ).bind (h x):=id rfl
def Lv:D->R Bool:=fun d=>match d with
 |.bool b=>.ok b
 |_=>.no
theorem MW (g:ap->R D):iU g (s::ρ)=(g (s::ρ)).bind Lv:=id rfl
theorem Ig (b:Bool):Lv (.bool b)=.ok b:=id rfl
def Qq:Bool->R Bool:=fun b=>.ok (!b)
theorem MX (g:ap->R Bool):mF g (s::ρ)=(g (s::ρ)).bind Qq:=id rfl
theorem Ih (b:Bool):Qq b=.ok (!b):=id rfl
def Qr (h:ap->R Bool) (ρ:ap):Bool->R Bool:=fun b=>bif b then h ρ else .ok false
def S_ (h:ap->R Bool) (ρ:ap):Bool->R Bool:=fun b=>bif b then .ok true else h ρ
theorem MY (g h:ap->R Bool):C8 g h (s::ρ)=(g (s::ρ)).bind (Qr h (s::ρ)):=by
 show (g (s::ρ)).bind _=_;congr 1;funext b;cases b<;>rfl
theorem Qs (g h:ap->R Bool):G8 g h (s::ρ)=(g (s::ρ)).bind (S_ h (s::ρ)):=by
 show (g (s::ρ)).bind _=_;congr 1;funext b;cases b<;>rfl
theorem Ii (h:ap->R Bool) (ρ:ap) (b:Bool):Qr h ρ b=bif b then h ρ else .ok false:=id rfl
theorem MZ (h:ap->R Bool) (ρ:ap) (b:Bool):S_ h ρ b=bif b then .ok true else h ρ:=id rfl
def M_:Bool->R D:=fun b=>.ok (.bool (!b))
theorem Ij (g:ap->R D):Du g (s::ρ)=((g (s::ρ)).bind Lv).bind M_:=id rfl
theorem DJ (b:Bool):M_ b=.ok (.bool (!b)):=id rfl
def N0 (h:ap->R D) (ρ:ap):Bool->R D:=fun b=>bif b then h ρ else .ok (.bool false)
theorem Ik (g h:ap->R D):tY g h (s::ρ)=((g (s::ρ)).bind Lv).bind (N0 h (s::ρ)):=by
 show (iU g (s::ρ)).bind _=(iU g (s::ρ)).bind _;congr 1;funext b;cases b<;>rfl
theorem DK (h:ap->R D) (ρ:ap) (b:Bool):N0 h ρ b=bif b then h ρ else .ok (.bool false):=id rfl
def Qt (g h:ap->R D) (ρ:ap):Bool->R D:=fun b=>bif b then g ρ else h ρ
theorem N1 (t:ap->R Bool) (g h:ap->R D):Rp t g h (s::ρ)=(t (s::ρ)).bind (Qt g h (s::ρ)):=by
 show (t (s::ρ)).bind _=_;congr 1;funext b;cases b<;>rfl
theorem Il (g h:ap->R D) (ρ:ap) (b:Bool):Qt g h ρ b=bif b then g ρ else h ρ:=id rfl
def Qu (gb gc:ap->R D) (h h':D->D->R D) (ρ:ap):D->R D:=fun x=>(gb ρ).bind fun y=>(h x y).bind fun z=>match z with
 |.bool true=>(gc ρ).bind fun w=>h' y w
 |.bool false=>.ok (.bool false)
 |_=>.no
def Qv (gc:ap->R D) (h h':D->D->R D) (ρ:ap) (x:D):D->R D:=fun y=>(h x y).bind fun z=>match z with
 |.bool true=>(gc ρ).bind fun w=>h' y w
 |.bool false=>.ok (.bool false)
 |_=>.no
def Qw (gc:ap->R D) (h':D->D->R D) (ρ:ap) (y:D):D->R D:=fun z=>match z with
 |.bool true=>(gc ρ).bind (h' y)
 |.bool false=>.ok (.bool false)
 |_=>.no
theorem DL (ga gb gc:ap->R D) (h h':D->D->R D):oy ga gb gc h h' (s::ρ)=(ga (s::ρ)).bind (Qu gb gc h h' (s::ρ)):=id rfl
theorem Im (gb gc:ap->R D) (h h':D->D->R D) (ρ:ap) (x:D):Qu gb gc h h' ρ x=(gb ρ).bind (Qv gc h h' ρ x):=id rfl
theorem Io (gc:ap->R D) (h h':D->D->R D) (ρ:ap) (x y:D):Qv gc h h' ρ x y=(h x y).bind (Qw gc h' ρ y):=id rfl
theorem Ip (gc:ap->R D) (h':D->D->R D) (ρ:ap) (y:D) (b:Bool):Qw gc h' ρ y (.bool b)=bif b then (gc ρ).bind (h' y) else .ok (.bool false):=by cases b<;>rfl
def Iq (gs:ap->R (List D)) (ρ:ap):D->R (List D):=fun d=>(gs ρ).bind fun ds=>.ok (d::ds)
def Ir (d:D):List D->R (List D):=fun ds=>.ok (d::ds)
theorem Is (g:ap->R D) (gs:ap->R (List D)):J.af g gs (s::ρ)=(g (s::ρ)).bind (Iq gs (s::ρ)):=id rfl
theorem AC (gs:ap->R (List D)) (ρ:ap) (d:D):Iq gs ρ d=(gs ρ).bind (Ir d):=id rfl
theorem AD (d:D) (ds:List D):Ir d ds=.ok (d::ds):=id rfl
theorem N5 (ρ:ap):J.aV ρ=.ok []:=id rfl
def N6 (k:List D->D):List D->R D:=fun ds=>if ds.length<=1000 then .ok (k ds) else .no
theorem Iu (gs:ap->R (List D)) (k:List D->D):eP gs k (s::ρ)=(gs (s::ρ)).bind (N6 k):=id rfl
theorem DM (k:List D->D) (ds:List D):N6 k ds=if ds.length<=1000 then .ok (k ds) else .no:=id rfl
theorem Iv (gs:ap->R (List D)) (h:List D->R D):cO gs h (s::ρ)=(gs (s::ρ)).bind h:=id rfl
def T2 (n:Nat) (F:List D->R D):List D->R D:=fun ds=>if ds.length=n then F ds else .no
theorem Qx (n:Nat) (F:List D->R D) (gs:ap->R (List D)):ir n F gs (s::ρ)=(gs (s::ρ)).bind (T2 n F):=id rfl
theorem N7 (n:Nat) (F:List D->R D) (ds:List D):T2 n F ds=if ds.length=n then F ds else .no:=id rfl
theorem N8 (h:D->R D) (d:D):jD h [d]=h d:=id rfl
theorem Iw (d:D) (ρ:ap):yH (.shr d::ρ) 0=.ok d:=id rfl
theorem N9 (s:Sl) (ρ:ap) (n:Nat):yH (s::ρ) (n+1)=yH ρ n:=by simp [yH]
theorem Ix (d:D) (ρ:ap):zP (.shr d::ρ) 0=.ok d:=id rfl
theorem Iy (d:D) (ρ:ap):zP (.own d::ρ) 0=.ok d:=id rfl
theorem Na (s:Sl) (ρ:ap) (n:Nat):zP (s::ρ) (n+1)=zP ρ n:=by simp [zP]
def Qy (T:String):D->R D:=fun d=>if oq d then .ok (.bool (yL T d)) else .no
theorem Nb (g:ap->R D) (T:String):vv g T (s::ρ)=(g (s::ρ)).bind (Qy T):=id rfl
theorem Iz (T:String) (d:D):Qy T d=if oq d then .ok (.bool (yL T d)) else .no:=id rfl
def Qz (gl gh:ap->R (Option Int)) (ρ:ap):D->R D:=fun x=>(gl ρ).bind fun l=>(gh ρ).bind fun h=>Cf x l h
def QA (gh:ap->R (Option Int)) (ρ:ap) (x:D):Option Int->R D:=fun l=>(gh ρ).bind fun h=>Cf x l h
theorem QB (g:ap->R D) (gl gh:ap->R (Option Int)):Gb g gl gh (s::ρ)=(g (s::ρ)).bind (Qz gl gh (s::ρ)):=id rfl
theorem IA (gl gh:ap->R (Option Int)) (ρ:ap) (x:D):Qz gl gh ρ x=(gl ρ).bind (QA gh ρ x):=id rfl
theorem IB (gh:ap->R (Option Int)) (ρ:ap) (x:D) (l:Option Int):QA gh ρ x l=(gh ρ).bind (Cf x l):=id rfl
theorem Nc (ρ:ap):Ow ρ=.ok none:=id rfl
def QC:D->R (Option Int):=fun d=>match d with
 |.int i=>.ok (some i)
 |_=>.no
theorem Nd (g:ap->R D):Bg g (s::ρ)=(g (s::ρ)).bind QC:=id rfl
theorem IC (i:Int):QC (.int i)=.ok (some i):=id rfl
theorem Lw (g:ap->R D):m7 g (s::ρ)=(g (s::ρ)).bind vz:=id rfl
theorem ID (gs:ap->R (List D)):xQ gs (s::ρ)=(gs (s::ρ)).bind Cj:=id rfl
theorem Nf (gs:ap->R (List D)):HP gs (s::ρ)=(gs (s::ρ)).bind Rr:=id rfl
theorem Ng (gs:ap->R (List D)):Lj gs (s::ρ)=(gs (s::ρ)).bind zp:=id rfl
def Nh (nt:Nat) (ix:List Nat) (gt:ap->R Bool) (ge:ap->R D) (ρ:ap):List D->R D:=fun ds=>if ds.length<=1000 then (gE (i5 nt (m9 nt ix ρ) gt ge) ds).bind fun ys=>.ok (.list ys) else .no
def Ni:List D->R D:=fun ys=>.ok (.list ys)
theorem IE (nt:Nat) (ix:List Nat) (gi:ap->R (List D)) (gt:ap->R Bool) (ge:ap->R D):iu nt ix gi gt ge (s::ρ)=(gi (s::ρ)).bind (Nh nt ix gt ge (s::ρ)):=id rfl
theorem DN (nt:Nat) (ix:List Nat) (gt:ap->R Bool) (ge:ap->R D) (ρ:ap) (ds:List D):Nh nt ix gt ge ρ ds=if ds.length<=1000 then (gE (i5 nt (m9 nt ix ρ) gt ge) ds).bind Ni else .no:=id rfl
theorem DO (ys:List D):Ni ys=.ok (.list ys):=id rfl
theorem xS (gi:ap->R (List D)) (kt:D->ap->R ap) (gb:ap->R Fl) (ds:List D) (h:gi (s::ρ)=.ok ds):mK gi kt gb (s::ρ)=fQ kt gb ds (s::ρ):=by unfold mK;rw [h]
def Lx (k:D->ap->R ap) (ρ:ap):D->R Fl:=fun d=>match k d ρ with
 |.ok ρ'=>.ok (.nx ρ')
 |_=>.no
theorem Nj (g:ap->R D) (k:D->ap->R ap):An g k (s::ρ)=(g (s::ρ)).bind (Lx k (s::ρ)):=id rfl
theorem xT (ds:List D):vz (.list ds)=.ok ds:=id rfl
theorem xU (ds:List D):vz (.tuple ds)=.ok ds:=id rfl
theorem xV (x:Str):vz (.str x)=.ok (kr x):=id rfl
theorem IF (ds:List D):Rr [.tuple ds]=.ok (nD 0 ds):=id rfl
theorem QD (ds es:List D):zp [.tuple ds,.tuple es]=.ok (qq ds es):=id rfl
def xW (ρ:ap) (i:Nat):Sl:=Ll ((ρ[i]?).getD .no)
def IG (ix:List Nat) (ρ:ap):ap:=ix.map (xW ρ)
theorem IH (ix:List Nat) (ρ:ap):m9 1 ix ρ=.no::IG ix ρ:=id rfl
theorem II (ix:List Nat) (ρ:ap):m9 2 ix ρ=.no::.no::IG ix ρ:=id rfl
theorem IJ (ρ:ap):IG [] ρ=[]:=id rfl
theorem IK (i:Nat) (ix:List Nat) (ρ:ap):IG (i::ix) ρ=xW ρ i::IG ix ρ:=id rfl
theorem IL (s:Sl) (ρ:ap):xW (s::ρ) 0=Ll s:=id rfl
theorem IM (s:Sl) (ρ:ap) (n:Nat):xW (s::ρ) (n+1)=xW ρ n:=by simp [xW]
theorem xX (d:D):Ll (.shr d)=.shr d:=id rfl
theorem IN   (h:ρ[i]?=some (Sl.own d)):shareAt i ρ=ρ.set i (.shr d):=by unfold shareAt;rw [h]
theorem cf {α:Type} (f:D->R (Option D)) (c:α->D) (h:α->D):∀ (xs:List α),(∀ x∈xs,f (c x)=.ok (some (h x)))->gE f (xs.map c)=.ok (xs.map h)
 |[],_=>rfl
 |x::r,e=>by
  rw [am,am];unfold gE;rw [e x aw,bind_ok,cf f c h r fun y hy=>e y (ao _ hy),bind_ok]
theorem Nk    : i5 1 ρ gt ge d=HR (((gt (ρ.set 0 (.shr d)))).bind fun b=>if b then (ge (ρ.set 0 (.shr d))).bind fun y=>.ok (some y) else .ok none):=id rfl
theorem c_    (h1:gt (ρ.set 0 (.shr d))=.ok true) (h2:ge (ρ.set 0 (.shr d))=.ok y):i5 1 ρ gt ge d=.ok (some y):=by
 rw [Nk,h1,bind_ok,if_pos rfl,h2];rfl
theorem Ly     (h1:gt (ρ.set 0 (.shr d))=.ok b) (h2:b=true->ge (ρ.set 0 (.shr d))=.ok y):i5 1 ρ gt ge d=.ok (if b then some y else none):=by
 rw [Nk,h1,bind_ok];cases b with
 |true=>rw [if_pos rfl,h2 rfl];rfl
 |false=>rfl
theorem Lz (h1:-(2 ^ 62)<=j) (h2:j<2 ^ 62):Cj [.int j]=.ok (oC 0 j.toNat):=by
 have h:-(2 ^ 62)<=j/\j<2 ^ 62:=⟨h1,h2⟩;unfold Cj;split
 ·rename_i j' e
  have e':j=j':=by injection e with e;injection e
  subst e';rw [if_pos h]
 ·rename_i hn
  exact (hn j rfl).elim
end
end
end J
section
namespace L2
open PySem PySem.Spec PyProof.Rows
end L2
namespace J
open PySem L2
open PyProof.Rows (envOfC)
section
end
section
variable {c:C}{body:List du}{x n:Str}{np np2 np3 hpos cpos rpos pos:Pos}{gb:ap->R Fl}{names:List Str}{wh:Str->Option Nat}
end
theorem Td {α:Type}{us:List α} (h:us.length=1):∃ a,us=[a]:=by
 rcases us with _|⟨a0,_|⟨z,r⟩⟩
 ·simp at h
 ·exact ⟨_,rfl⟩
 ·simp at h
theorem Te {α:Type}{us:List α} (h:us.length=2):∃ a b,us=[a,b]:=by
 rcases us with _|⟨a0,_|⟨a0,_|⟨z,r⟩⟩⟩
 ·simp at h
 ·simp at h
 ·exact ⟨_,_,rfl⟩
 ·simp at h
theorem Tf {α:Type}{us:List α} (h:us.length=3):∃ a b c,us=[a,b,c]:=by
 rcases us with _|⟨a0,_|⟨a0,_|⟨a0,_|⟨z,r⟩⟩⟩⟩
 ·simp at h
 ·simp at h
 ·simp at h
 ·exact ⟨_,_,_,rfl⟩
 ·simp at h
theorem Tg {α:Type}{us:List α} (h:us.length=4):∃ a b c d,us=[a,b,c,d]:=by
 rcases us with _|⟨a0,_|⟨a0,_|⟨a0,_|⟨a0,_|⟨z,r⟩⟩⟩⟩⟩
 ·simp at h
 ·simp at h
 ·simp at h
 ·simp at h
 ·exact ⟨_,_,_,_,rfl⟩
 ·simp at h
theorem Th {α:Type}{us:List α} (h:us.length=5):∃ a b c d e,us=[a,b,c,d,e]:=by
 rcases us with _|⟨a0,_|⟨a0,_|⟨a0,_|⟨a0,_|⟨a0,_|⟨z,r⟩⟩⟩⟩⟩⟩
 ·simp at h
 ·simp at h
 ·simp at h
 ·simp at h
 ·simp at h
 ·exact ⟨_,_,_,_,_,rfl⟩
 ·simp at h
end J
end
namespace J
open PySem L2
section
section
end
end
end J
section
namespace HT
open PySem PyProof.Rows
section
open PySem.SeqAt
open PySem.AutoSeq1 (wpAny_loadPart')
open PySem.MeetsSeq PySem.MeetsSeq2 PySem.MeetsSeq3
end
end HT
namespace L2
open PySem PySem.Spec PyProof.Rows
section
variable {X:Cx}{e st:aP}{te ts:TE}{pos p2:Pos}
end
end L2
namespace J
open PySem L2
section
variable {c:C}{e:aP}{g:ap->R D}{pos p2 p3 p4:Pos}
end
end J
end
section
namespace L2
open PySem
def T3 (mask:Nat):Nat->Nat×Nat->Nat×Nat
 | 0,x=>x
 |n+1,x=>T3 mask n (SetTable.leap mask x.1 x.2)
def Ti (mask:Nat):Bool:=(bW (mask+1)).all fun i=>(bW (mask+1)).all fun j=>(bW (mask+1)).any fun n=>decide ((T3 mask n (i,0)).1=j)
theorem getD_none {owner:Array (Option Nat)}{k:Nat} (h:owner.getD k (some 0)=none):owner.toList[k]?=some none:=by
 by_cases hk:k<owner.size
 ·rw [wp,xn hk] at h;rw [eI,xn hk];simpa using h
 ·rw [wp,Array.getElem?_eq_none (by omega)] at h;cases h
end L2
namespace L2
open PySem
section
end
end L2
namespace L2
open PySem
section
end
end L2
namespace L2
open PySem
section
end
end L2
namespace L2
open PySem PyProof.Rows
section
variable {P:aH}{w:aY}{A:aZ}{E:a8->aa->Prop}{s:aa}
end
end L2
namespace L2
open PySem PyProof.Rows
end L2
namespace J
open PySem L2
section
end
end J
namespace J
open PySem L2
section
end
end J
namespace J
open PySem L2
end J
end
section
namespace L2
open PySem PySem.Spec PyProof.Rows
section
end
end L2
namespace L2
open PySem PySem.Spec PyProof.Rows
section
end
end L2
namespace L2
open PySem PySem.Spec PyProof.Rows
end L2
namespace J
open PySem L2
section
end
end J
namespace L2
open PySem PySem.Spec PyProof.Rows
end L2
namespace J
open PySem L2
section
end
end J
namespace L2
open PySem PySem.Spec PyProof.Rows
end L2
namespace J
open PySem L2
section
end
end J
namespace J
open PySem L2
end J
end
namespace J
open PySem L2 PyProof.Rows
section
structure En where
 P:aH
 w:aY
 K:a6
 mg:Str->Option a8
 base:ba
 cls:Str->ac
abbrev FN (e:En):=Fn e.P e.w e.K e.mg e.base e.cls
abbrev ER (e:En):=Er e.mg e.base e.cls
abbrev Cn (mg:Str->Option a8) (x:Str) (n:Int):Prop:=∃ t,mg x=some (.int n t)
structure jE (K:a6) (mg:Str->Option a8) (x:Str) (st:du):Prop where
 ex:∃ f fd,Bf K x x st f fd/\mg x=some (.ref f)
section
variable {K:a6}{h:ba}{mg:Str->Option a8}{x:Str}
theorem d_in {st:du}{A:ac}{od an:Option ac}{sl:Array (Option a8)}{oc kV dc pm cv ct:a8} (X:K.In h) (G:h.Ns aW mg) (a:dz K aW x=some (some (.ref A)))
  (l:K.lookup A=some ⟨oc,od,.func (dw x x (jl st) (fB st) (aB st) .none kV dc pm an cv ct),sl⟩) (c:iI K cv x=true) (k:cZ K (.ref A)=true):jE K mg x st :=
 ⟨_,_,GR l c k,eT X G a⟩
theorem cn_in  (X:K.In h) (G:h.Ns aW mg) (t:dz K aW x=some (some (.int n tk))):Cn mg x n:=⟨_,eT X G t⟩
inductive Zs (K:a6):List Str->Prop
 |nil:Zs K []
 |cons {x:Str}{r:List Str}:dz K aW x=some none->Zs K r->Zs K (x::r)
theorem Zs.get (z:Zs K r):∀ x∈r,dz K aW x=some none:=by
 induction z with
 |nil=>exact fun _ h=>nomatch h
 |cons a _ ih =>
  intro y hy;rcases List.mem_cons.mp hy with e|e
  ·rw [e];exact a
  ·exact ih y e
abbrev zn:List Str:=["len","isinstance","all","any","zip","tuple","list","sorted","set","range","enumerate","dict","sum","max","min","reversed","str","int","bool","ValueError"]
theorem QE (X:K.In h) (G:h.Ns aW mg) (z:Zs K zn):Bi mg:=by
 have q:∀ x∈zn,mg x=none:=fun x hx=>BD X G (z.get x hx);exact ⟨q _ (by decide),q _ (by decide),q _ (by decide),q _ (by decide),q _ (by decide),q _ (by decide),q _ (by decide),q _ (by decide),q _ (by decide),q _ (by decide),q _ (by decide),q _ (by decide),q _ (by decide),q _ (by decide),q _ (by decide),q _ (by decide),q _ (by decide),q _ (by decide),q _ (by decide)⟩
theorem QF (X:K.In h) (G:h.Ns aW mg) (z:Zs K zn):mg "ValueError"=none:=BD X G (z.get _ (by decide))
end
section
variable {P:aH}{w:aY}{K:a6}{mg:Str->Option a8}{base:ba}{N:List Str}{qual:Str}{scope:dW}{f:ac}{cd:a8}{A:aZ}{outer:List Env}{s:aa}{H:Hp}{E:XK}
theorem px:lG (l_ P w) (iW (l_ P w) P w K mg base N qual scope f cd A outer s H E) E:=Ag fun _ _ h=>h
end
section
theorem jc  (G:Fn c.X.prog c.X.w c.X.K c.X.mg c.X.base c.cls x k n F) (hr:j9 j c.X.A) (hx:lG (l_ c.X.prog c.X.w) c.X c.E) (ha:Dt c (e::es) gs)
  (hk:k<=j:=by decide) (hg:Gl c.X x:=by exact rfl) (hdb:(x==("__debug__" : Str))=false:=by decide) (he:aq (e::es) c.X.env=(false,bU e c.X.env)::aq es c.X.env:=by rfl) (hpl:(fK pos (aq es c.X.env)).any (·.1)=false:=by rfl) :
  JE c (.Call (.Name x p) (e::es) [] pos) (ir n F gs):=Lh G (hr.mono hk) hg hx ha hdb he hpl
end
abbrev Bq (x:Str) (st:du) (us:List a8) (r:List (Str×a8)):Prop:=∀ (kV doc pm:a8) (an:Option ac) (cdv ct:a8),K7 (dw x x (jl st) (fB st) (aB st) .none kV doc pm an cdv ct) ⟨us,[]⟩=pure r
section
variable {K:a6}{x:Str}{st:du}{f:ac}{fd:db}
theorem b1 (F:Bf K x x st f fd) (h:∀ u,Bq x st [u] [(a,u)]:=by exact fun _ _ _ _ _ _ _=>rfl):j3 K fd [a] []:=F.binds fun _ _ _ _ _ _ us hl=>by obtain ⟨_,rfl⟩:=Td hl;exact h ..
theorem b2 (F:Bf K x x st f fd) (h:∀ u v,Bq x st [u,v] [(a,u),(b,v)]:=by exact fun _ _ _ _ _ _ _ _=>rfl):j3 K fd [a,b] []:=F.binds fun _ _ _ _ _ _ us hl=>by obtain ⟨_,_,rfl⟩:=Te hl;exact h ..
theorem b3 (F:Bf K x x st f fd) (h:∀ u v w,Bq x st [u,v,w] [(a,u),(b,v),(c,w)]:=by exact fun _ _ _ _ _ _ _ _ _=>rfl):j3 K fd [a,b,c] []:=F.binds fun _ _ _ _ _ _ us hl=>by obtain ⟨_,_,_,rfl⟩:=Tf hl;exact h ..
theorem b4 (F:Bf K x x st f fd) (h:∀ u v w z,Bq x st [u,v,w,z] [(a,u),(b,v),(c,w),(d,z)]:=by exact fun _ _ _ _ _ _ _ _ _ _=>rfl):j3 K fd [a,b,c,d] []:=F.binds fun _ _ _ _ _ _ us hl=>by obtain ⟨_,_,_,_,rfl⟩:=Tg hl;exact h ..
theorem b5 (F:Bf K x x st f fd) (h:∀ u v w z y,Bq x st [u,v,w,z,y] [(a,u),(b,v),(c,w),(d,z),(e,y)]:=by exact fun _ _ _ _ _ _ _ _ _ _ _=>rfl):j3 K fd [a,b,c,d,e] []:=F.binds fun _ _ _ _ _ _ us hl=>by obtain ⟨_,_,_,_,_,rfl⟩:=Th hl;exact h ..
end
theorem uF {e:En}{x:Str}{st:du}{N ps:List Str}{k:Nat}{g:ap->R Fl} (D:jE e.K e.mg x st) (S:bN N ps (aB st)) (b:∀ {f:ac}{fd:db},Bf e.K x x st f fd->j3 e.K fd ps [])
  (h:∀ (f:ac) (cdv:a8) (A:aZ) (outer:List Env) (s:aa) (H:Hp) (E:XK),j9 k (A.deeper (iH x (aB st) s.heap.objs.size f cdv))->Dz ⟨iW (l_ e.P e.w) e.P e.w e.K e.mg e.base N x (aB st) f cdv A outer s H E,e.cls,E⟩ (fB st) g) :
  FN e x (k+1) ps.length (hG N.length g):=by
 obtain ⟨f,fd,F,hm⟩:=D.ex;exact Qj F S hm (b F) (h f)
def T4 (N P:List Str) (sc:dW):Bool:=decide (sc.kind=.function) && !sc.isCoroutine && !sc.isGenerator&&decide N.Nodup&&decide (N.take P.length=P)&&P.all (fun x=>decide (sc.names.lookup x=some .local)||decide (sc.names.lookup x=some .cell))&&sc.names.all fun y=>decide (y.2≠.free)
theorem fi  (h:T4 N P sc=true):bN N P sc:=by
 unfold T4 at h;simp only [aC,decide_eq_true_eq,Go,cc,jX] at h;obtain ⟨⟨⟨⟨⟨⟨a,b⟩,c⟩,d⟩,e⟩,f⟩,g⟩:=h;exact ⟨a,b,c,d,e,f,g⟩
structure Cw (K:a6) (x:Str) (C:ac):Prop where
 ns:dz K aW x=some (some (.ref C))
 cl:∃ cd,eS K C=some cd
 ty:uY K (.ref C)=some (.type "type")
theorem cw_in {K:a6}{x:Str}{C:ac}{cd:ClassData} (a:dz K aW x=some (some (.ref C))) (i:eS K C=some cd) (y:uY K (.ref C)=some (.type "type")):Cw K x C:=⟨a,⟨_,i⟩,y⟩
inductive LA (K:a6):List Str->List ac->Prop
 |nil:LA K [] []
 |cons {x:Str}{C:ac}{ns:List Str}{Cs:List ac}:Cw K x C->LA K ns Cs->LA K (x::ns) (C::Cs)
inductive Sb (K:a6) (C:ac):List (ac×Bool)->Prop
 |nil:Sb K C []
 |cons {D:ac}{b:Bool}{l:List (ac×Bool)}:lE K (.ref C) (.ref D)=some b->(b=false->C≠D)->Sb K C l->Sb K C ((D,b)::l)
structure Wy (K:a6) (C CP:ac) (l:List (ac×Bool)):Prop where
 x1:eY K (.ref C) "__getattribute__"=some (some (.builtin "BaseException.__getattribute__"))
 x2:eY K (.ref C) "__getattr__"=some none
 x3:eY K (.ref C) "__class__"=some (some (.builtin "object.__class__"))
 x4:qT K (.builtin "object.__class__") "__get__"=some (some (.builtin "getset_descriptor.__get__"))
 x5:uj K (.builtin "object.__class__")=some true
 x6:bS K C (.type "object")=some true
 x7:bS K C (.ref CP)=some true
 x8:lE K (.ref C) (.type "ValueError")=some true
 x9:(bL CP==bL C)=false
 sb:Sb K C l
theorem LA.at {K:a6}{ns:List Str}{Cs:List ac} (N:LA K ns Cs):∀ (i:Nat) (n:Str),ns[i]?=some n->∃ C,Cs[i]?=some C/\Cw K n C:=by
 induction N with
 |nil=>intro i n h;simp at h
 |cons a _ ih =>
  intro i n h;cases i with
  |zero=>cases h;exact ⟨_,rfl,a⟩
  |succ i=>exact ih i n h
theorem Sb.at {K:a6}{C:ac}{l:List (ac×Bool)} (N:Sb K C l):∀ (i:Nat) (D:ac) (b:Bool),l[i]?=some (D,b)->lE K (.ref C) (.ref D)=some b/\(b=false->C≠D):=by
 induction N with
 |nil=>intro i D b h;simp at h
 |cons a c _ ih =>
  intro i D b h;cases i with
  |zero=>cases h;exact ⟨a,c⟩
  |succ i=>exact ih i D b h
theorem QG {K:a6}{h:ba}{mg:Str->Option a8}{cls:Str->ac}{ns:List Str}{Cs:List ac} (X:K.In h) (G:h.Ns aW mg) (N:LA K ns Cs) (hn:ns.map cls=Cs):∀ n∈ns,mg n=some (.ref (cls n)):=by
 intro n hm;obtain ⟨i,hi,e⟩:=kg hm;have e1:ns[i]?=some n:=by rw [b9 hi,e]
 obtain ⟨C,h1,h2⟩:=N.at i n e1;rw [<- hn,aF,e1] at h1;cases h1;exact eT X G h2.ns
theorem LB {K:a6}{base:ba}{cls:Str->ac}{x:Str}{C CP:ac}{ns:List Str}{Cs:List ac}{l:List (ac×Bool)}{j:Nat} (mb:bS K C (.type "BaseException")=some true) (Q:∃ bm,yG base C bm/\∀ v,(v==bL C)=false->bS K C v=some true->bm.contains v=true) (W:Wy K C CP l) (N:LA K ns Cs)
  (hc:cls x=C) (hp:cls "PlanError"=CP) (hn:ns.map cls=Cs) (hl:l.map (·.1)=Cs) (hb:l.map (·.2)=uw j) (hj:j<11) (hx:x∈ns):Xf K base cls ns (cls x) j:=by
 obtain ⟨bm,o,mm⟩:=Q;subst hc hp;have hcl:(eS K (cls x)).isSome=true:=by
  obtain ⟨i,hi,e⟩:=kg hx;have e1:ns[i]?=some x:=by rw [b9 hi,e]
  obtain ⟨C,h1,h2⟩:=N.at i x e1;rw [<- hn,aF,e1] at h1;cases h1;obtain ⟨cd,h3⟩:=h2.cl;rw [h3];rfl
 refine ⟨⟨W.x1,W.x2,W.x3,W.x4,W.x5,W.x6,mb,hcl⟩,fun i n e=>?_,OD W.x8,⟨bm,o,mm _ W.x9 W.x7⟩,hj⟩;obtain ⟨D,h1,h2⟩:=N.at i n e;have h3:Cs[i]?=some (cls n):=by rw [<- hn,aF,e];rfl
 rw [h1] at h3;cases h3;obtain ⟨cd,h4⟩:=h2.cl;have hi:l[i]?≠none:=fun z=>by
  rw [<- hl,aF,z] at h1;cases h1
 cases hq:l[i]? with
 |none=>exact (hi hq).elim
 |some q =>
  obtain ⟨D,b⟩:=q;have e1:D=cls n:=by rw [<- hl,aF,hq] at h1;cases h1;rfl
  have e2:(uw j)[i]?=some b:=by rw [<- hb,aF,hq];rfl
  subst e1;obtain ⟨s1,s2⟩:=W.sb.at i _ b hq;have e3:b=decide (i=j):=by
   unfold uw at e2
   match i,e2 with
   | 0,e|1,e|2,e|3,e|4,e|5,e|6,e|7,e|8,e|9,e|10,e=>simpa using e.symm
   |(i+11),e=>simp at e
  rw [<- e3];exact Ls h4 h2.ty s1 s2
theorem Nl {K:a6}{base:ba}{mg:Str->Option a8}{cls:Str->ac}{x:Str}{C CP:ac}{ns:List Str}{Cs:List ac}{l:List (ac×Bool)}{j:Nat} (X:K.In base) (G:base.Ns aW mg) (T:TopC K x C) (W:Wy K C CP l) (N:LA K ns Cs)
  (hc:cls x=C) (hp:cls "PlanError"=CP) (hn:ns.map cls=Cs) (hl:l.map (·.1)=Cs) (hb:l.map (·.2)=uw j) (hj:j<11) (hx:x∈ns):Xf K base cls ns (cls x) j:=LB T.mb (Cu X G T.ns T.ex T.mb).2 W N hc hp hn hl hb hj hx
end
end J
section
namespace L2
open PySem PySem.Spec PyProof.Rows
section
end
end L2
namespace J
open PySem L2
def keysOf:List D->Option (List fz)
 |[]=>some []
 |d::r=>(tZ d).bind fun k=>(keysOf r).map (k::·)
def Nm:D->Option (List fz)
 |.tuple ds=>keysOf ds
 |_=>none
def Sm:List (D×D)->List (D×D)
 |(.none,_)::r=>r
 |l=>l
def LC (ds:List (D×D)):Bool:=!ds.isEmpty&&ds.all fun kv=>(Nm kv.1).isSome
section
variable {c:C}{a b e k:aP}{ga gb g gk:ap->R D}{pos p apos:Pos}{x:Str}
def inT (neg:Bool):D->D->R D
 |k,.dict ds=>match Nm k with
  |some _=>if LC (Sm ds)=true then .ok (.bool (if neg then !(rN (Sm ds) k).isSome else (rN (Sm ds) k).isSome)) else .no
  |none=>.no
 |_,_=>.no
end
end J
namespace J
open PySem L2
section
end
end J
namespace L2
open PySem PySem.Spec PyProof.Rows
end L2
namespace J
open PySem L2
end J
namespace J
open PySem L2
end J
namespace J
open PySem L2
end J
namespace J
open PySem L2
def rS (i:Nat) (ρ:ap):R D:=yH ρ i
def rB (i:Nat) (ρ:ap):R D:=zP ρ i
def kI (n:Int) (_:ap):R D:=.ok (.int n)
def kB (b:Bool) (_:ap):R D:=.ok (.bool b)
def kN (_:ap):R D:=.ok .none
def kT (_:ap):R Bool:=.ok true
theorem QH (i:Nat) (ρ:ap):rS i ρ=yH ρ i:=id rfl
theorem LD (i:Nat) (ρ:ap):rB i ρ=zP ρ i:=id rfl
theorem QI (n:Int) (ρ:ap):kI n ρ=.ok (.int n):=id rfl
theorem QJ (b:Bool) (ρ:ap):kB b ρ=.ok (.bool b):=id rfl
theorem QK (ρ:ap):kN ρ=.ok .none:=id rfl
end J
end
section
namespace L2
open PySem PySem.Spec PyProof.Rows
section
end
end L2
namespace J
open PySem L2
section
end
end J
end
namespace L2
open PySem PySem.Spec PyProof.Rows
section
open Builtin Builtin.ObjectAttr
inductive DP (h:ba) (bmB:List a8) (nms:List Str):List a8->Prop
 |base:DP h bmB nms bmB
 |own {A:ac}{c0:a8}{dd:Option ac}{cd:ClassData}{sl:Array (Option a8)}{mA:Str->Option a8}{tl:List a8} :
   h.get? A=some { cls:=c0,dict:=dd,data:=.cls cd,slots:=sl }->h.Ns cd.ns mA->(∀ n∈nms,mA n=none)->DP h bmB nms tl->DP h bmB nms (.ref A::tl)
section
variable {M:K6}{A:aZ}{E:a8->aa->Prop}{h:ba}{g:Array Bl}{d:FV}{t:Nat}{os:OsState}
variable {nm q:Str}{C N x:ac}{bs bm bmB:List a8}{hdct:Bool}{sn:List Str}{sub:List a8}{ab:Bool}{col:Option Bool}{dd:Option ac}{k0 k1 k2 k3 k5:Option a8}{B newId initId sa owner:String}{nms:List Str}{name:Str}{v:a8}{mN:Str->Option a8}
end
section
variable {prog:aH}{w:aY}{A:aZ}{E:a8->aa->Prop}{h:ba}{g:Array Bl}{d:FV}{t:Nat}{os:OsState}
variable {nm q:Str}{C N x:ac}{bs bm bmB:List a8}{sn:List Str}{sub:List a8}{ab:Bool}{col:Option Bool}{dd:Option ac}{k0 k1 k2 k3 k5:Option a8}{B newId initId sa owner:String}{nms:List Str}{name:Str}{v:a8}{mN:Str->Option a8}
end
end
section
section
variable {prog:aH}{w:aY}{A:aZ}{E:a8->aa->Prop}{h:ba}{g:Array Bl}{d:FV}{t:Nat}{os:OsState}
variable {nm q:Str}{C N:ac}{bs bm bmB:List a8}{hdct:Bool}{sn:List Str}{sub:List a8}{ab:Bool}{col:Option Bool}{dd:Option ac}{k0 k1 k2 k3 k5:Option a8}{B newId initId:String}
end
section
end
section
end
end
section
structure OH (h:ba) (fI:ac):Prop where
 ex:∃ (oI:Obj) (fd:db) (p1 p2 p3 p4:Pos),h.get? fI=some oI/\oI.cls=.type "function"/\oI.data=.func fd/\h.CodeRec fd.code fd.qualname/\fd.scope.isCoroutine=false/\fd.scope.isGenerator=false/\fd.scope.kind=.function /\
  fd.scope.names=[(("self" : Str),nU),(("number" : Str),nU)]/\fd.body=.stmts [.Assign [.Attribute (.Name "self" p1) "number" p2] (.Name "number" p3) p4]/\∀ (s:aa) (e v:a8),(∀ b o,h.get? b=some o->s.heap.get? b=some o)->tN s fd ⟨[e,v],[]⟩ [("self",e),("number",v)]
section
end
section
end
end
section
structure Sn (x:Str) (C:ac) (mg:Str->Option a8) (base:ba):Prop where
 bound:mg x=some (.ref C)
 obj:∃ nm q N bs bm sn sub ab col dd k0 k1 k2 k3 k5 mN fI,base.get? C=some (excClassObj nm q C N bs bm true sn sub ab col dd k0 k1 k2 k3 k5 "ValueError.__new__")/\base.Ns N mN/\mN "__init__"=some (.ref fI)/\mN "__setattr__"=none/\mN "number"=none /\
  DP base [.type "ValueError",.type "Exception",.type "BaseException",.type "object"] ["__init__","__setattr__","number"] bm/\OH base fI
section
variable {P:aH}{w:aY}{K:a6}{mg:Str->Option a8}{base:ba}{N:List Str}{qual:Str}{scope:dW}{f:ac}{cd:a8}{A:aZ}{outer:List Env}{s:aa}{H:Hp}{E:XK}
end
end
end L2
namespace J
open PySem L2
section
open PySem.W (nsIn nsOkIn codeIn fnOf)
theorem QL      (X:K.In h) (G:h.Ns N mg) (e:nsIn K N n=some (some v)):mg n=some v:=by
 obtain ⟨o,es,ep,ho,hd,_,hf⟩:=G;unfold dz at e;split at e
 ·rename_i c d es' n' sl q
  have:=X _ _ q;rw [ho] at this;cases this;cases hd;split at e
  ·rename_i he
   rw [<- hf];unfold nsFind findBy;rw [<- Eh,he];cases e;rfl
  ·split at e<;>cases e
 ·cases e
structure So (K:a6) (x:Str) (C:ac) (st:du):Prop where
 ns:nsIn K aW x=some (some (.ref C))
 own:∀ {h:ba}{mg:Str->Option a8},K.In h->h.Ns aW mg->Sn x C mg h
 mb:bS K C (.type "BaseException")=some true
 ox:∀ {h:ba},K.In h->∃ bm,yG h C bm/\∀ v,(v==bL C)=false->bS K C v=some true->bm.contains v=true
theorem topN {K:a6}{x:Str}{C CP fI T0 Nn NP:ac}{st:du}{nm qn nmP qnP fq:Str}{bs bsP mroP subP sub:List a8}{sn snP:List Str}{ab abP hdP delP:Bool}{col colP:Option Bool}{dd dP od dT an:Option ac}{k0 k1 k2 k3 k5:Option a8}{c0 kV doc pm cdv ct cT:a8}{slP slF slT:Array (Option a8)}{nT:Nat}{p1 p2 p3 p4:Pos}{cN cM:a8}{dN dM:Option ac}{esN esM:Array DictEntry}{epN epM:Nat}{slN slM:Array (Option a8)}
  (a1:nsIn K aW x=some (some (.ref C))) (a4:bS K C (.type "BaseException")=some true)
  (a2:K.lookup C=some ⟨.type "type",dd,.cls ⟨nm,bs,[.ref C,.ref CP,.type "ValueError",.type "Exception",.type "BaseException",.type "object"],Nn,qn,true,sn,sub,ab,col,false⟩,#[k0,k1,k2,k3,some (.builtin "ValueError.__new__"),k5]⟩)
  (a3:K.lookup CP=some ⟨c0,dP,.cls ⟨nmP,bsP,mroP,NP,qnP,hdP,snP,subP,abP,colP,delP⟩,slP⟩)
  (b1:nsIn K Nn "__init__"=some (some (.ref fI))) (b2:nsIn K Nn "__setattr__"=some none) (b3:nsIn K Nn "number"=some none)
  (c1:nsIn K NP "__init__"=some none) (c2:nsIn K NP "__setattr__"=some none) (c3:nsIn K NP "number"=some none)
  (d1:K.lookup fI=some ⟨.type "function",od,.func (fnOf "__init__" fq (jl st) (fB st) (aB st) (.ref T0) kV doc pm an cdv ct),slF⟩)
  (d2:K.lookup T0=some ⟨cT,dT,.seq #[.none] nT,slT⟩) (d3:codeIn K cdv fq=true)
  (g1:K.lookup Nn=some ⟨cN,dN,.dict esN epN,slN⟩) (g2:K.lookup NP=some ⟨cM,dM,.dict esM epM,slM⟩) (g3:(esN.toList.all fun e=>match e.key with | .str _ _=>true|_=>false)=true) (g4:(esM.toList.all fun e=>match e.key with | .str _ _=>true|_=>false)=true)
  (f1:fB st=[.Assign [.Attribute (.Name "self" p1) "number" p2] (.Name "number" p3) p4]) (f2:(aB st).names=[(("self" : Str),nU),(("number" : Str),nU)])
  (f3:(aB st).isCoroutine=false) (f4:(aB st).isGenerator=false) (f5:(aB st).kind=.function)
  (f6:∀ e v,∃ k,K7 (fnOf "__init__" fq (jl st) (fB st) (aB st) (.ref T0) kV doc pm an cdv ct) ⟨[e,v],[]⟩=G3 (.ref T0) >>= k/\k (some #[.none])=pure [(("self" : Str),e),(("number" : Str),v)]):So K x C st:=by
 have e1:nsOkIn K Nn=true:=by unfold Gq;rw [g1];show esN.all _=true;rw [<- mC];exact g3
 have e2:nsOkIn K NP=true:=by unfold Gq;rw [g2];show esM.all _=true;rw [<- mC];exact g4
 refine ⟨a1,fun {h mg} X G=>⟨eT X G a1,nm,qn,Nn,bs,_,sn,sub,ab,col,dd,k0,k1,k2,k3,k5,h.nsMap Nn,fI,X _ _ a2,.of_isNs (kh X e1),?_,dA X e1 b2,dA X e1 b3,?_,⟨_,_,p1,p2,p3,p4,X _ _ d1,rfl,rfl,qh X d3,f3,f4,f5,f2,congrArg FuncBody.stmts f1,fun s e v kb=>?_⟩⟩,a4,fun {h} X=>⟨_,⟨⟨nm,qn,Nn,bs,true,sn,sub,ab,col,dd,k0,k1,k2,k3,k5,_,X _ _ a2⟩,rfl⟩,fun v nv hv=>?_⟩⟩
 ·exact QL X (.of_isNs (kh X e1)) b1
 ·refine .own (X _ _ a3) (.of_isNs (kh X e2)) (fun n hn=>?_) .base;rcases List.mem_cons.mp hn with z|hn
  ·rw [z];exact dA X e2 c1
  rcases List.mem_cons.mp hn with z|hn
  ·rw [z];exact dA X e2 c2
  ·rw [List.mem_singleton.mp hn];exact dA X e2 c3
 ·obtain ⟨k,k1,k2⟩:=f6 e v;exact BindsTo.of_defaults rfl (kb _ _ (X _ _ d2)) rfl k1 k2
 ·unfold bS eS at hv;rw [a2] at hv;have:(bL C::[bL CP,.type "ValueError",.type "Exception",.type "BaseException",.type "object"]).contains v=true:=by simpa using hv
  rw [kY,nv,qY] at this;exact this
section
end
end
section
section
end
end
end J
section
namespace L2
open PySem PySem.Spec PyProof.Rows
end L2
namespace L2
open PySem PySem.Spec PyProof.Rows
end L2
namespace J
open PySem L2
end J
end
namespace J
open PySem L2
section
end
end J
namespace L2
open PySem PySem.Spec PyProof.Rows
section
section
end
end
end L2
namespace J
open PySem L2
section
section
variable {c:C}{pos:Pos}{x:Str}{kx vx iter tg:aP}{ifs:List aP}{scope:dW}{N':List Str}{nt:Nat}{ix:List Nat}{gi:ap->R (List D)}{gt:ap->R Bool}{gk gv:ap->R D}
end
end
end J
section
namespace L2
open PySem PySem.Spec PyProof.Rows
end L2
namespace J
open PySem L2
section
end
end J
end
namespace J
open PySem L2
section
end
section
end
section
def Sq (p:HO->Bool) (H Hs:Hp):Hp:=fun b=>match Hs b,H b with
 |some o,_=>some o
 |none,some o=>if p o then some o else none
 |none,none=>none
def Tj (p:HO->Bool) (H Hs Hs1:Hp):Hp:=fun b=>match Hs b,H b with
 |none,some o=>if p o then none else Hs1 b
 |_,_=>Hs1 b
section
end
inductive QM (p:HO->Bool) (K:a6) (cls:Str->ac) (E:XK) (ρ:ap) (r:R (List D)) (σ:St) (H:Hp) (Q:List V->Hp->Prop):Prop
 |mk (H0 Hs0:Hp) (la:Nat->Option ac) (Hs:Hp) (f:Fr K H0 Hs0 la ρ σ H Hs) (q:Fin K cls E H Hs r fun d=>∀ v H' Hs',cw H Hs H' Hs'->RDs K (Sq p H' Hs') v d->Q v H'):QM p K cls E ρ r σ H Q
structure JL (p:HO->Bool) (c:C) (es:List aP) (g:ap->R (List D)):Prop where of ::
 run:∀ ρ,PA c.X es (QM p c.X.K c.cls c.E ρ (g ρ))
section
end
end
section
section
end
end
end J
section
namespace L2
open PySem PySem.Spec PyProof.Rows
end L2
namespace J
open PySem L2
end J
end
namespace J
open PySem L2
section
section
end
end
end J
section
namespace L2
open PySem PySem.Spec PyProof.Rows
inductive QN (X:Cx) (CX:Dc) (E:XK) (t:TA) (σ:St) (Q:VK) (v:V) (H1:Hp):Prop
 |mk (k:Nat) (f:ac) (fd:db) (ps:List Str) (sp:Sp) (h0:v=.ref f) (F:pU X.prog X.w X.K X.mg X.base CX k f fd ps sp) (hr:j9 k X.A) (hk:cZ X.K (.ref f)=true) (hb:j3 X.K fd ps []) (q:Dd sp [] E t σ H1 Q):QN X CX E t σ Q v H1
end L2
namespace J
open PySem L2
inductive AE (c:C) (n j:Nat):List aP->List (List D->R D)->List ac->Prop
 |nil:AE c n j [] [] []
 |cons {x:Str}{p:Pos}{F:List D->R D}{k:Nat}{f:ac}{fd:db}{ps:List Str}{es:List aP}{Fs:List (List D->R D)}{as:List ac} (hf:pU c.X.prog c.X.w c.X.K c.X.mg c.X.base (l_ c.X.prog c.X.w) k f fd ps (MN c.X.K c.cls n F)) (hm:c.X.mg x=some (.ref f)) (hk:cZ c.X.K (.ref f)=true) (hb:j3 c.X.K fd ps []) (hj:k<=j) (hg:Gl c.X x) (hdb:(x==("__debug__" : Str))=false) (r:AE c n j es Fs as):AE c n j (.Name x p::es) (F::Fs) (f::as)
section
inductive IP (c:C) (n j:Nat) (F:List D->R D) (f:ac):Prop
 |mk (k:Nat) (fd:db) (ps:List Str) (hf:pU c.X.prog c.X.w c.X.K c.X.mg c.X.base (l_ c.X.prog c.X.w) k f fd ps (MN c.X.K c.cls n F)) (hk:cZ c.X.K (.ref f)=true) (hb:j3 c.X.K fd ps []) (hj:k<=j):IP c n j F f
theorem Ff (h:AE c n j es Fs as):∀ {i:Nat}{F:List D->R D},Fs[i]?=some F->∃ f,as[i]?=some f/\IP c n j F f:=by
 induction h with
 |nil=>intro i F e;simp at e
 | @cons x p F k f fd ps es Fs as hf hm hk hb hj hg hdb r ih =>
  intro i F e;cases i with
  |zero=>cases e;exact ⟨f,rfl,k,fd,ps,hf,hk,hb,hj⟩
  |succ i=>have q:=ih (i:=i) e;exact q
def No (Fs:List (List D->R D)) (n:Nat) (gi:ap->R D) (gs:ap->R (List D)) (ρ:ap):R Fl:=(gi ρ).bind fun d=>match d with
 |.int k=>if 0<=k then (match Fs[k.toNat]? with
  |some F=>(gs ρ).bind fun ds=>if ds.length=n then (F ds).bind fun d=>.ok (.rt d) else .no
  |none=>.no) else .no
 |_=>.no
theorem yy       (P:AE c n j es Fs as) (hr:j9 j c.X.A) (f:Fr c.X.K H0 Hs0 la ρ σ H Hs) (ha:H a=some (.lst (as.map V.ref))) (q:nL c.X.K c.cls c.E H0 Hs0 la D' (No Fs n gi gs ρ)) :
  TR c.X.K c.cls c.E ρ (gi ρ) σ H fun y H2=>Pz c.X.K (.ref a) y H2 (QN c.X (l_ c.X.prog c.X.w) c.E (Rm c.X.K c.cls c.E ρ (gs ρ)) σ D'.rt):=by
 refine sE f q fun d v H2 Hs2 e1 s1 f2 r1=>?_;unfold No at q;rw [e1,bind_ok] at q;cases r1 with
 |int k =>
  simp only at q;by_cases hk:0<=k
  ·rw [if_pos hk] at q;split at q
   ·rename_i F hF
    obtain ⟨g,h1,k',fd,ps,hf,hkp,hb,hj⟩:=Ff P hF;have hix:Be (as.map V.ref) k=some (.ref g):=by
     have:=rh (xs:=as.map V.ref) (j:=k.toNat) (v:=V.ref g) (by rw [aF,h1];rfl)
     rwa [cb hk] at this
    refine ⟨a,as.map V.ref,k,.ref g,rfl,rfl,.of (s1.all _ _ ha),hix,k',g,fd,ps,_,rfl,hf,hr.mono hj,hkp,hb,H0,Hs0,la,Hs2,f2,?_⟩;cases hg:gs ρ with
    |no=>rw [hg] at q;exact q.elim
    |ex y m=>rw [hg] at q;exact fun H3 Hs3 s3=>q H3 Hs3 (f2.st.trans s3)
    |ok ds =>
     rw [hg,bind_ok] at q;intro vs H3 Hs3 s3 r3;have f3:=f2.step s3;by_cases hn:ds.length=n
     ·rw [if_pos hn] at q;show MN _ _ _ _ (vs++[]) _ _ _;rw [bP];refine ⟨Hs3,ds,f3.st.sub,hn,r3,?_⟩;cases hFd:F ds with
      |no=>rw [hFd] at q;exact q.elim
      |ex y m=>rw [hFd] at q;exact fun H4 Hs4 s4=>q H4 Hs4 (f3.st.trans s4)
      |ok d=>rw [hFd] at q;exact fun v H4 Hs4 s4 r4=>q v H4 Hs4 (f3.st.trans s4) r4
     ·rw [if_neg hn] at q;exact q.elim
   ·exact q.elim
  ·rw [if_neg hk] at q;exact q.elim
 |list _ _=>exact q.elim
 |none=>exact q.elim
 |bool _=>exact q.elim
 |str _=>exact q.elim
 |tuple _ _=>exact q.elim
 |dictK _ _=>exact q.elim
 |dictT _ _ _=>exact q.elim
 |dictF _ _ _=>exact q.elim
end
end J
namespace J
open PySem L2
end J
end
namespace TS
open PySem PyProof.Rows
section
section
variable {prog:aH}{w:aY}{A:aZ}{E:a8->aa->Prop}{s:aa}{kd:sP}{rk:a8->Nat}{L:List iV}
variable {l:Bool}{k:iV}{a:Array iV}{b n h i:Nat}{g:Nat->Nat}{st:BE}
end
end
section
structure Mg {α:Type} (lt:α->α->Prop) (T out ra rb:List α):Prop where
 perm:(out++ra++rb).Perm T
 so:out.Pairwise lt
 sa:ra.Pairwise lt
 sb:rb.Pairwise lt
 oa:∀ x∈out,∀ y∈ra,lt x y
 ob:∀ x∈out,∀ y∈rb,lt x y
section
variable {α:Type}{lt:α->α->Prop}{T out ra rb p:List α}
end
section
variable {a:Array iV}{i k:Nat}{x:iV}
end
section
variable {rk:a8->Nat}{a:Array iV}{L:List iV}
end
end
section
section
variable {prog:aH}{w:aY}{A:aZ}{E:a8->aa->Prop}{s:aa}{kd:sP}{rk:a8->Nat}{L:List iV}{st st':BE}
def Tk (rk:a8->Nat) (x y:iV):Prop:=rk x.1<rk y.1
variable {a b out:Array iV}{ia ib k:Nat}{p q:iV}
end
end
section
section
variable {prog:aH}{w:aY}{A:aZ}{E:a8->aa->Prop}{s:aa}{kd:sP}{rk:a8->Nat}{L:List iV}{st st':BE}
def W (rk:a8->Nat) (a b out:Array iV) (na nb:Nat):Prop:=Mg (fun x y=>Tk rk y x) (a.toList++b.toList) out.toList (a.toList.take na).reverse (b.toList.take nb).reverse
variable {a b out:Array iV}{n m k:Nat}{p q:iV}
end
end
section
section
variable {prog:aH}{w:aY}{A:aZ}{E:a8->aa->Prop}{s:aa}{kd:sP}{rk:a8->Nat}{L:List iV}{st:BE}{a:Array iV}
end
end
section
section
variable {prog:aH}{w:aY}{A:aZ}{E:a8->aa->Prop}{s:aa}{kd:sP}{rk:a8->Nat}{L:List iV}{st:BE}{a:Array iV}
end
end
section
section
variable {prog:aH}{w:aY}{A:aZ}{E:a8->aa->Prop}{s:aa}{kd:sP}{rk:a8->Nat}{L:List iV}{st:BE}{a:Array iV}
end
end
end TS
namespace TS
open PySem PyProof.Rows PySem.W
section
section
variable {prog:aH}{w:aY}{A:aZ}{E:a8->aa->Prop}{s:aa}
end
end
section
section
end
end
section
section
end
end
end TS
namespace L2
open PySem PySem.Spec PyProof.Rows PySem.W
section
section
end
end
section
section
end
section
end
end
end L2
namespace J
open PySem L2
section
end
end J
section
namespace L2
open PySem PySem.Spec PyProof.Rows PySem.W
end L2
namespace J
open PySem L2
end J
end
namespace J
open PySem PySem.Spec PyProof.Rows L2
section
section
end
end
end J
section
namespace L2
open PySem PySem.Spec PyProof.Rows
end L2
namespace J
open PySem L2
end J
end
namespace L2
open PySem PySem.Spec PyProof.Rows
section
section
variable {prog:aH}{w:aY}{A:aZ}{R:Bp->aa->Prop}{s:aa}
end
end
section
section
variable {prog:aH}{w:aY}{A:aZ}{R:Bp->aa->Prop}{s:aa}
end
end
section
end
end L2
namespace J
open PySem L2
section
section
variable {K:a6}{cls:Str->ac}{w:aY}{E:XK}{σ:St}{H:Hp}{Q:VK}{ρ ρ':ap}{H0 Hs0 H1 Hs1 Hn:Hp}{la:Nat->Option ac}{nt:Nat}{ix:List Nat}{gi gi2:ap->R (List D)}{gt gt2:ap->R Bool}{ge:ap->R D}{J:It}{es zs:List D}{ss sa sz tl:List Str}
end
section
variable {c:C}{elt tg iter tg2 iter2:aP}{ifs ifs2:List aP}{scope:dW}{pos:Pos}{N':List Str}{nt:Nat}{ix:List Nat}{gi gi2:ap->R (List D)}{gt gt2:ap->R Bool}{ge:ap->R D}
end
end
section
section
variable {c:C}
end
end
end J
namespace L2
open PySem PySem.Spec PyProof.Rows
section
end
end L2
namespace J
open PySem L2
section
section
variable {c:C}{pos:Pos}{x:Str}{kx vx iter tg:aP}{ifs:List aP}{scope:dW}{N':List Str}{nt:Nat}{ix:List Nat}{gi:ap->R (List D)}{gt:ap->R Bool}{gk gv:ap->R D}
end
end
end J
section
namespace L2
open PySem PySem.Spec PyProof.Rows
end L2
namespace J
open PySem L2
section
end
end J
end
namespace TP
open PySem PyProof.Rows PySem.W TS
section
section
variable {prog:aH}{w:aY}{A:aZ}{E:a8->aa->Prop}{s:aa}{Q:Bool->aa->Prop}{v u:a8}{x y:Str×Int}{a b:ac}
end
end
section
section
variable {prog:aH}{w:aY}{A:aZ}{E:a8->aa->Prop}{s:aa}{kd:sP}{rk:a8->Nat}{L:List iV}{st:BE}{a:Array iV}
end
end
end TP
namespace L2
open PySem PySem.Spec PyProof.Rows PySem.W
section
section
end
end
end L2
namespace J
open PySem L2
section
section
variable {K:a6}{H Hs:Hp}{X:Cx}
end
end
end J
namespace L2
open PySem PySem.Spec PyProof.Rows PySem.W
section
section
variable {X:Cx}{pins:List (ac×Obj)}{σ:St}{H:Hp}{s:aa}
end
end
end L2
namespace J
open PySem L2
section
section
variable {K:a6}{H Hs:Hp}{c:C}{e:aP}{g:ap->R D}{p apos ipos cpos:Pos}
end
end
section
section
variable {c:C}
end
end
end J
section
namespace L2
open PySem PySem.Spec PyProof.Rows
section
variable {prog:aH}{w:aY}{A:aZ}{R:Bp->aa->Prop}{I:ac}{fp wr:List ac}{n:Nat}{P:Nat->a8->Prop}{St:Nat->ba->Prop}{d:a8}
end
section
variable {prog:aH}{w:aY}{A:aZ}{E:a8->aa->Prop}{s:aa}
end
end L2
namespace J
open PySem L2
section
variable {X:Cx}{c:C}
end
end J
end
namespace L2
open PySem PySem.Spec PyProof.Rows
section
end
end L2
namespace J
open PySem L2
section
section
variable {K:a6}{cls:Str->ac}{E:XK}{σ:St}{H:Hp}{Q:VK}{ρ ρ':ap}{H0 Hs0 H1 Hs1 Hn:Hp}{la:Nat->Option ac}{nt:Nat}{ix:List Nat}{gi gi2:ap->R (List D)}{gt gt2:ap->R Bool}{ge:ap->R D}{J:It}{es zs ys ya tl:List D}{va:List V}
end
section
variable {c:C}{elt tg iter tg2 iter2:aP}{ifs ifs2:List aP}{scope:dW}{pos:Pos}{N':List Str}{nt:Nat}{ix:List Nat}{gi gi2:ap->R (List D)}{gt gt2:ap->R Bool}{ge:ap->R D}
end
end
end J
section
namespace L2
open PySem PySem.Spec PyProof.Rows
section
variable {X:Cx}
def Tl (r:Str->V->Hp->VK->Prop) (ta tb:TE):TE:=fun σ H Q=>ta σ H fun x H1=>∃ z,x=.str z/\tb σ H1 fun y H2=>r z y H2 Q
theorem xY {o e:aP}{name:Str}{id:String}{ta tb:TE}{r:Str->V->Hp->VK->Prop}{apos pos:Pos} (slot:Slot "str" name id) (ty:typeOf (.builtin id)=pure (.type "method_descriptor")) (ho:PE X o ta) (he:PE X e tb)
  (hr:∀ pins s σ H x t y u Q,bj X pins σ H s->cD y u->r x y H Q->ak (az X.prog X.w) X.A (call (.builtin id) [.str x t,u]) (EP X pins σ Q) X.xe s)
  (hs:aq [e] X.env=[(false,bU e X.env)]:=by rfl) (hbase:fo o name X.env (bU o X.env)=bU o X.env:=by rfl) (hline:(apos.endLine==pos.line)=true:=by rfl) :
  PE X (.Call (.Attribute o name apos) [e] [] pos) (Tl r ta tb):=by
 intro pins s σ H Q I h
 refine Call_method1 hbase hs hline (eK (ho pins s σ H _ I h) fun ov s1 h1=>?_)
 obtain ⟨x,H1,I1,r1,z,rfl,q⟩:=h1
 obtain ⟨t,rfl⟩:=r1
 refine ⟨"str",id,F.plainAttrs_str,slot,ty,mB _ _ _,(fun _ e=>nomatch e),?_⟩
 have:=callWith_method1 (pos:=pos) (id:=id) (first:=[iF z t]) (e:=e) (env:=X.env) (M:=az X.prog X.w) (A:=X.A) (E:=X.xe) (Q:=EP X pins σ Q) (s:=s1) ?_ hs rfl
 ·rw [hs] at this;exact this
 ·rw [hs]
  refine Ej (eK (he pins s1 σ H1 _ I1 q) fun u s2 h2=>?_)
  obtain ⟨y,H2,I2,r2,q2⟩:=h2
  exact FY (hr pins s2 σ H2 z t y u Q I2 r2 q2)
theorem vL:∀ {ys:List Str}{us:List a8},cF (ys.map V.str) us->nQ us ys
 |[],_,.nil=>.nil
 |_::_,_,.cons a b=>by obtain ⟨t,rfl⟩:=a;exact .cons _ _ (vL b)
def Np (X:Cx) (z:Str) (y:V) (H:Hp) (Q:VK):Prop:=∃ a ys,y=.ref a/\(jI X.K H a (ys.map V.str)\/ic X.K H a (ys.map V.str))/\(ys.map (·.length)).sum+ys.length*z.length<=16777216/\Q (.str (j6 z ys)) H
theorem Fg {pins:List (ac×Obj)}{s:aa}{σ:St}{H:Hp}{x:Str}{t:Tok}{y:V}{u:a8}{Q:VK} (I:bj X pins σ H s) (ru:cD y u) (h:Np X x y H Q):ak (az X.prog X.w) X.A (call (.builtin "str.join") [.str x t,u]) (EP X pins σ Q) X.xe s:=by
 obtain ⟨a,ys,rfl,hq,hl,q⟩:=h
 obtain rfl:u=.ref a:=ru
 rcases hq with hq|hq
 ·obtain ⟨its,r',pl,_⟩:=I.list hq
  exact join_list pl.isList (vL r') hl fun t' k=>⟨.str _,H,I.kept (t':=k) fun _ _ e=>e,⟨t',rfl⟩,q⟩
 ·obtain ⟨its,r',pl,_⟩:=I.tuple hq
  exact join_tuple pl (vL r') hl fun t' k=>⟨.str _,H,I.kept (t':=k) fun _ _ e=>e,⟨t',rfl⟩,q⟩
end
end L2
namespace J
open PySem L2
def t_ (z:Str):D->R D
 |.list ds=>match eg ds with
  |some ys=>if (ys.map (·.length)).sum+ys.length*z.length<=100000 then .ok (.str (j6 z ys)) else .no
  |none=>.no
 |.tuple ds=>match eg ds with
  |some ys=>if (ys.map (·.length)).sum+ys.length*z.length<=100000 then .ok (.str (j6 z ys)) else .no
  |none=>.no
 |_=>.no
def qe (z:Str) (g:ap->R D):ap->R D:=fun ρ=>(g ρ).bind (t_ z)
theorem uG {c:C}{e:aP}{g:ap->R D}{z:Str}{j:Nat}{p apos pos:Pos} (h:JB c e g) (hs:aq [e] c.X.env=[(false,bU e c.X.env)]:=by rfl)
  (hbase:fo (.Constant (.str z) j p) "join" c.X.env (bU (.Constant (.str z) j p) c.X.env)=bU (.Constant (.str z) j p) c.X.env:=by rfl) (hline:(apos.endLine==pos.line)=true:=by rfl) :
  JE c (.Call (.Attribute (.Constant (.str z) j p) "join" apos) [e] [] pos) (qe z g):=.of fun ρ =>
 pW (xY (r:=Np c.X) PySem.F.slot_str_join PySem.F.type_str_join BH (h ρ) (fun _ _ _ _ _ _ _ _ _=>Fg) hs hbase hline) fun σ H Q h_0=>by
  obtain ⟨H0,Hs0,la,Hs,f,q⟩:=h_0
  refine ⟨z,rfl,?_⟩
  refine one f q fun d v H1 Hs1 e1 s1 f1 r1=>?_
  unfold qe at q;rw [e1,bind_ok] at q;unfold t_ at q
  split at q
  ·split at q
   ·rename_i ys hy
    by_cases hl:(ys.map (·.length)).sum+ys.length*z.length<=100000
    ·rw [if_pos hl] at q
     obtain ⟨a,vs,rfl,qa,ra⟩:=r1.list f1.st.sub
     rw [ju hy] at ra
     rw [iL ra] at qa
     exact ⟨a,ys,rfl,.inl qa,by omega,q _ H1 Hs1 s1 (.str _)⟩
    ·rw [if_neg hl] at q;exact q.elim
   ·exact q.elim
  ·split at q
   ·rename_i ys hy
    by_cases hl:(ys.map (·.length)).sum+ys.length*z.length<=100000
    ·rw [if_pos hl] at q
     obtain ⟨a,vs,rfl,qa,ra,_⟩:=r1.tuple f1.st.sub
     rw [ju hy] at ra
     rw [iL ra] at qa
     exact ⟨a,ys,rfl,.inr qa,by omega,q _ H1 Hs1 s1 (.str _)⟩
    ·rw [if_neg hl] at q;exact q.elim
   ·exact q.elim
  ·exact q.elim
end J
end
section
namespace L2
open PySem PySem.Spec PyProof.Rows
def Tn (z:Str) (ta tb:TE):TE:=fun σ H Q=>ta σ H fun x H1=>∃ u,x=.str u/\u.length<=1000/\tb σ H1 fun y H2=>∃ i:Int,y=.int i/\0<=i/\i<=9/\Q (.str (uR++u++z++bc (toString i))) H2
theorem mO {i:Int} (h0:0<=i) (h9:i<=9):(bc (toString i)).length=1:=by
 have:i=0\/i=1\/i=2\/i=3\/i=4\/i=5\/i=6\/i=7\/i=8\/i=9:=by omega
 rcases this with rfl|rfl|rfl|rfl|rfl|rfl|rfl|rfl|rfl|rfl<;>decide +kernel
theorem DQ {i:Int} (h0:0<=i) (h9:i<=9):i.natAbs.log2<1920:=by
 have:i=0\/i=1\/i=2\/i=3\/i=4\/i=5\/i=6\/i=7\/i=8\/i=9:=by omega
 rcases this with rfl|rfl|rfl|rfl|rfl|rfl|rfl|rfl|rfl|rfl<;>decide +kernel
theorem QO {X:Cx}{a b:aP}{z:Str}{j:Nat}{p pa pb pos:Pos}{ta tb:TE} (ha:PE X a ta) (hb:PE X b tb) (hz:z.length<=64) :
  PE X (.JoinedStr [.FormattedValue a (-1) none pa,.Constant (.str z) j p,.FormattedValue b (-1) none pb] pos) (Tn z ta tb):=by
 intro pins s σ H Q I h
 have sl:sizeLine=16777216:=fe
 refine JoinedStr_many (BF (Kj (eK (ha pins s σ H _ I h) fun v s1 h1=>?_)))
 obtain ⟨x,H1,I1,r1,u,rfl,hu,q⟩:=h1
 obtain ⟨t,rfl⟩:=r1
 refine formatField_str (fun t' tk=>⟨?_,?_⟩) (by rw [sl];omega)
 ·rw [cm,sl]
  have:Str.empty.length=0:=rfl
  omega
 refine BF (Ee ⟨?_,?_⟩)
 ·rw [cm,cm,sl]
  have:Str.empty.length=0:=rfl
  omega
 show ak _ _ (joinParts _ [bU (.FormattedValue b (-1) none pb) X.env]) _ _ _
 refine BF (Kj (eK (hb pins _ σ H1 _ (I1.kept fun _ _ e=>e) q) fun v s2 h2=>?_))
 obtain ⟨y,H2,I2,r2,i,rfl,i0,i9,q2⟩:=h2
 obtain ⟨t2,rfl⟩:=r2
 refine formatField_int_small (DQ i0 i9) ⟨?_,?_⟩
 ·rw [cm,cm,cm,sl]
  have:Str.empty.length=0:=rfl
  have:=mO i0 i9
  omega
 refine joinParts_nil ⟨.str _,H2,I2.kept fun _ _ e=>e,⟨_,rfl⟩,q2⟩ ?_
 rw [cm,cm,cm,sl]
 have:Str.empty.length=0:=rfl
 have:=mO i0 i9
 omega
end L2
namespace J
open PySem L2
def QP (z:Str) (ga gb:ap->R D):ap->R D:=fun ρ=>(ga ρ).bind fun x=>match x with
 |.str u=>if u.length<=1000 then (gb ρ).bind fun y=>match y with
  |.int i=>if 0<=i/\i<=9 then .ok (.str (uR++u++z++bc (toString i))) else .no
  |_=>.no else .no
 |_=>.no
theorem QQ {c:C}{a b:aP}{ga gb:ap->R D}{z:Str}{j:Nat}{p pa pb pos:Pos} (ha:JE c a ga) (hb:JE c b gb) (hz:z.length<=64:=by decide) :
  JE c (.JoinedStr [.FormattedValue a (-1) none pa,.Constant (.str z) j p,.FormattedValue b (-1) none pb] pos) (QP z ga gb):=.of fun ρ =>
 pW (QO (ha ρ) (hb ρ) hz) fun σ H Q h=>by
  obtain ⟨H0,Hs0,la,Hs,f,q⟩:=h
  refine uu f q fun d v H1 Hs1 e1 s1 f1 r1=>?_
  unfold QP at q;rw [e1,bind_ok] at q
  cases r1 with
  |str u =>
   by_cases hu:u.length<=1000
   ·simp only [if_pos hu] at q
    refine ⟨u,rfl,hu,?_⟩
    refine uu f1 (q.on s1 (q':=fun _=>True) fun _ _=>trivial) fun y w H2 Hs2 e2 s2 f2 r2=>?_
    rw [e2,bind_ok] at q
    cases r2 with
    |int i =>
     by_cases hi:0<=i/\i<=9
     ·simp only [if_pos hi] at q
      exact ⟨i,rfl,hi.1,hi.2,q _ H2 Hs2 (s1.trans s2) (.str _)⟩
     ·simp only [if_neg hi] at q;exact q.elim
    |_=>exact q.elim
   ·simp only [if_neg hu] at q;exact q.elim
  |_=>exact q.elim
end J
end
section
namespace L2
open PySem PySem.Spec PyProof.Rows PySem.Builtin PySem.Builtin.Str
section
variable {X:Cx}
theorem LF (l:List (Str×Tok)):cF ((l.map (·.1)).map V.str) (strValues l):=by
 induction l with
 |nil=>exact .nil
 |cons p l ih=>exact .cons ⟨p.2,rfl⟩ ih
theorem mf (x y:Str):(bi x y).length<=x.length+2:=by
 unfold bi
 split
 ·simp
 ·split
  ·simp
  ·have e1:=zM x y 0 x.length (x.length+1)
   rw [length_partsBetween];omega
def IQ (z:Str) (y:V) (H:Hp) (Q:VK):Prop:=∃ w,y=.str w/\(w.length==0)=false/\z.length<=100000/\∀ p,H p=none->Q (.ref p) (upd H p (.lst ((bi z w).map V.str)))
theorem Cy {pins:List (ac×Obj)}{s:aa}{σ:St}{H:Hp}{x:Str}{t:Tok}{y:V}{u:a8}{Q:VK} (I:bj X pins σ H s) (ru:cD y u) (h:IQ x y H Q):ak (az X.prog X.w) X.A (call (.builtin "str.split") [.str x t,u]) (EP X pins σ Q) X.xe s:=by
 obtain ⟨w,rfl,hy,hz,q⟩:=h
 obtain ⟨tu,rfl⟩:=ru
 have sl:sizeLine=16777216:=fe
 have key:∀ (l:List (Str×Tok)) k,l.map (·.1)=bi x w->EP X pins σ Q (.ref s.heap.objs.size) { s with heap:=s.heap.push { cls:=.type "list",data:=.seq (strValues l).toArray },toks:=k }:=fun l k e=>by
  have hv:=LF l
  rw [e] at hv
  refine ⟨.ref s.heap.objs.size,_,I.laid (t':=k) (fun _ _ e=>a7 _ e) (al _) (show cH X.prog X.w _ _ _ (.lst ((bi x w).map V.str)) from ⟨?_,strValues l,0,hv,aj _ rfl⟩),rfl,q _ (I.hok.fresh (al _))⟩
  have:=mf x w
  rw [au,sl];omega
 have hn:(partsBetween x (occurrences x w 0 x.length (x.length+1)) w.length).length<=sizeLine:=by
  have e1:=zM x w 0 x.length (x.length+1)
  rw [length_partsBetween];omega
 cases h1:(decide (x.length<w.length)||decide (strKind x<strKind w))
 ·cases hf:(occurrences x w 0 x.length (x.length+1)).isEmpty
  ·refine ke wE (mB _ _ _) uZ (ul _ _) (meets_str_split_sep x w t tu h1 hy hf (by omega) hn) ?_
   show wants _ _ _ { s with toks:=_,heap:=s.heap.push { cls:=.type "list",data:=.seq (strsFrom s.toks (partsBetween x (occurrences x w 0 x.length (x.length+1)) w.length)).toArray } }
   rw [strsFrom_eq]
   exact key (numbered s.toks _) _ ((numbered_texts _ _).trans ((if_neg (ne_true_of_eq_false h1)).trans (if_neg (ne_true_of_eq_false hf))).symm)
  ·exact ke wE (mB _ _ _) uZ (ul _ _) (meets_str_split_not_found x w t tu h1 hy hf)
    (key [(x,t)] s.toks ((if_neg (ne_true_of_eq_false h1)).trans (if_pos hf)).symm)
 ·exact ke wE (mB _ _ _) uZ (ul _ _) (meets_str_split_cannot_occur x w t tu h1)
   (key [(x,t)] s.toks (if_pos h1).symm)
def Nq (z:Str) (y:V) (H:Hp) (Q:VK):Prop:=∃ w,y=.str w/\(w.length==0)=false/\z.length<=100000/\∀ p,H p=none->Q (.ref p) (upd H p (.tup [.str (aR z w).1,.str (aR z w).2.1,.str (aR z w).2.2]))
theorem Fh {pins:List (ac×Obj)}{s:aa}{σ:St}{H:Hp}{x:Str}{t:Tok}{y:V}{u:a8}{Q:VK} (I:bj X pins σ H s) (ru:cD y u) (h:Nq x y H Q):ak (az X.prog X.w) X.A (call (.builtin "str.partition") [.str x t,u]) (EP X pins σ Q) X.xe s:=by
 obtain ⟨w,rfl,hy,hz,q⟩:=h
 obtain ⟨tu,rfl⟩:=ru
 have sl:sizeLine=16777216:=fe
 have key:∀ ta tb tc k,EP X pins σ Q (.ref s.heap.objs.size) { s with heap:=s.heap.push { cls:=.type "tuple",data:=.seq [.str (aR x w).1 ta,.str (aR x w).2.1 tb,.str (aR x w).2.2 tc].toArray },toks:=k }:=fun ta tb tc k=>by
  refine ⟨.ref s.heap.objs.size,_,I.laid (t':=k) (fun _ _ e=>a7 _ e) (al _) (show cH X.prog X.w _ _ _ (.tup [.str (aR x w).1,.str (aR x w).2.1,.str (aR x w).2.2]) from ⟨?_,_,.cons ⟨ta,rfl⟩ (.cons ⟨tb,rfl⟩ (.cons ⟨tc,rfl⟩ .nil)),⟨_,aj _ rfl,rfl,_,rfl⟩⟩),rfl,q _ (I.hok.fresh (al _))⟩
  show 3<=sizeLine
  decide
 refine ke F.slot_str_partition (mB _ _ _) F.entry_str_partition (F.args_str_partition_2 _ _) (meets_str_partition x w t tu hy (by omega)) ?_
 have h':=key
 unfold aR at h'
 revert h'
 cases occurrences x w 0 x.length 1 with
 |nil=>intro h';exact h' _ _ _ _
 |cons i r=>intro h';exact h' _ _ _ _
def Nr (z:Str) (y:V) (H:Hp) (Q:VK):Prop:=∃ w,y=.str w/\Q (.int (um z w)) H
theorem Fi {pins:List (ac×Obj)}{s:aa}{σ:St}{H:Hp}{x:Str}{t:Tok}{y:V}{u:a8}{Q:VK} (I:bj X pins σ H s) (ru:cD y u) (h:Nr x y H Q):ak (az X.prog X.w) X.A (call (.builtin "str.find") [.str x t,u]) (EP X pins σ Q) X.xe s:=by
 obtain ⟨w,rfl,q⟩:=h
 obtain ⟨tu,rfl⟩:=ru
 exact SC.find ⟨.int _,H,I.tok _,⟨_,rfl⟩,q⟩
end
end L2
namespace J
open PySem L2
def DR (ga gb:ap->R D) (f:Str->Str->R D):ap->R D:=fun ρ=>(ga ρ).bind fun x=>match x with
 |.str z=>(gb ρ).bind fun y=>match y with
  |.str w=>f z w
  |_=>.no
 |_=>.no
def Rv (K:a6) (r:Str->V->Hp->VK->Prop) (f:Str->Str->R D):Prop:=(∀ z w H Hs Q d,cR Hs H->f z w=.ok d->(∀ v H' Hs',cw H Hs H' Hs'->RD K Hs' v d->Q v H')->r z (.str w) H Q)/\∀ z w c n,f z w≠.ex c n
theorem IR {c:C}{o e:aP}{ga gb:ap->R D}{f:Str->Str->R D}{name:Str}{id:String}{r:Str->V->Hp->VK->Prop}{apos pos:Pos} (slot:Slot "str" name id) (ty:typeOf (.builtin id)=pure (.type "method_descriptor"))
  (hr:∀ pins s σ H x t y u Q,bj c.X pins σ H s->cD y u->r x y H Q->ak (az c.X.prog c.X.w) c.X.A (call (.builtin id) [.str x t,u]) (EP c.X pins σ Q) c.X.xe s)
  (hf:Rv c.X.K r f) (ho:JE c o ga) (he:JE c e gb) (hs:aq [e] c.X.env=[(false,bU e c.X.env)]:=by rfl) (hbase:fo o name c.X.env (bU o c.X.env)=bU o c.X.env:=by rfl) (hline:(apos.endLine==pos.line)=true:=by rfl) :
  JE c (.Call (.Attribute o name apos) [e] [] pos) (DR ga gb f):=.of fun ρ =>
 pW (xY slot ty (ho ρ) (he ρ) hr hs hbase hline) fun σ H Q h=>by
  obtain ⟨H0,Hs0,la,Hs,fr,q⟩:=h
  refine uu fr q fun d v H1 Hs1 e1 s1 f1 r1=>?_
  unfold DR at q;rw [e1,bind_ok] at q
  cases r1 with
  |str z =>
   simp only at q
   refine ⟨z,rfl,?_⟩
   refine uu f1 (q.on s1 (q':=fun _=>True) fun _ _=>trivial) fun y w H2 Hs2 e2 s2 f2 r2=>?_
   rw [e2,bind_ok] at q
   cases r2 with
   |str w =>
    simp only at q
    cases hd:f z w with
    |ok d=>rw [hd] at q;exact hf.1 z w H2 Hs2 Q d f2.st.sub hd fun v H' Hs' s' r'=>q v H' Hs' ((s1.trans s2).trans s') r'
    |ex x n=>exact (hf.2 z w x n hd).elim
    |no=>rw [hd] at q;exact q.elim
   |_=>exact q.elim
  |_=>exact q.elim
def kz (z w:Str):R D:=if w.length≠0/\z.length<=1000 then .ok (.list ((bi z w).map .str)) else .no
def xZ (z w:Str):R D:=if w.length≠0/\z.length<=1000 then .ok (.tuple [.str (aR z w).1,.str (aR z w).2.1,.str (aR z w).2.2]) else .no
def OI (z w:Str):R D:=.ok (.int (um z w))
theorem IS {K:a6}:Rv K IQ kz:=by
 refine ⟨fun z w H Hs Q d sub hd q=>?_,fun z w c n h=>?_⟩
 ·unfold kz at hd
  split at hd
  ·rename_i hc
   cases hd
   exact ⟨w,rfl,by simpa using hc.1,by omega,fun p hp=>q _ _ _ (.new sub hp) (.list (.of aK) (m5 _))⟩
  ·cases hd
 ·unfold kz at h;split at h<;>cases h
theorem LG {K:a6}:Rv K Nq xZ:=by
 refine ⟨fun z w H Hs Q d sub hd q=>?_,fun z w c n h=>?_⟩
 ·unfold xZ at hd
  split at hd
  ·rename_i hc
   cases hd
   exact ⟨w,rfl,by simpa using hc.1,by omega,fun p hp=>q _ _ _ (.new sub hp) (.tuple aK (.cons (.str _) (.cons (.str _) (.cons (.str _) .nil))))⟩
  ·cases hd
 ·unfold xZ at h;split at h<;>cases h
theorem LH {K:a6}:Rv K Nr OI:=⟨fun z w H Hs Q d sub hd q=>by cases hd;exact ⟨w,rfl,q _ _ _ (.refl sub) (.int _)⟩,fun z w c n h=>by cases h⟩
theorem rO {c:C}{o e:aP}{ga gb:ap->R D}{apos pos:Pos} (ho:JE c o ga) (he:JE c e gb) (hs:aq [e] c.X.env=[(false,bU e c.X.env)]:=by rfl) (hbase:fo o "split" c.X.env (bU o c.X.env)=bU o c.X.env:=by rfl) (hline:(apos.endLine==pos.line)=true:=by rfl) :
  JE c (.Call (.Attribute o "split" apos) [e] [] pos) (DR ga gb kz):=IR PySem.F.slot_str_split PySem.F.type_str_split (fun _ _ _ _ _ _ _ _ _=>Cy) IS ho he hs hbase hline
theorem LJ {c:C}{o e:aP}{ga gb:ap->R D}{apos pos:Pos} (ho:JE c o ga) (he:JE c e gb) (hs:aq [e] c.X.env=[(false,bU e c.X.env)]:=by rfl) (hbase:fo o "partition" c.X.env (bU o c.X.env)=bU o c.X.env:=by rfl) (hline:(apos.endLine==pos.line)=true:=by rfl) :
  JE c (.Call (.Attribute o "partition" apos) [e] [] pos) (DR ga gb xZ):=IR PySem.F.slot_str_partition PySem.F.type_str_partition (fun _ _ _ _ _ _ _ _ _=>Fh) LG ho he hs hbase hline
theorem OJ {c:C}{o e:aP}{ga gb:ap->R D}{apos pos:Pos} (ho:JE c o ga) (he:JE c e gb) (hs:aq [e] c.X.env=[(false,bU e c.X.env)]:=by rfl) (hbase:fo o "find" c.X.env (bU o c.X.env)=bU o c.X.env:=by rfl) (hline:(apos.endLine==pos.line)=true:=by rfl) :
  JE c (.Call (.Attribute o "find" apos) [e] [] pos) (DR ga gb OI):=IR PySem.F.slot_str_find PySem.F.type_str_find (fun _ _ _ _ _ _ _ _ _=>Fi) LH ho he hs hbase hline
theorem IT {c:C}{x s:Str}{pos:Pos} (hg:Gl c.X x) (hm:∃ t,c.X.mg x=some (.str s t)) (hd:(x==("__debug__" : Str))=false:=by decide):JE c (.Name x pos) (fun _=>.ok (.str s)):=by
 obtain ⟨t,hm⟩:=hm;exact m6 (r9 hg hm (v:=.str s) ⟨t,rfl⟩ hd) fun _=>.str s
def vM (g:ap->R D):ap->R Bool:=fun ρ=>(g ρ).bind fun d=>match d with
 |.tuple ds=>.ok (!ds.isEmpty)
 |_=>.no
theorem LK {c:C}{e:aP}{g:ap->R D} (h:JB c e g) (he:∀ whole,uO e c.X.env whole=(do let v <- whole;tM e.pos;Gf [v] (truthy v)):=by intro _;rfl):JT c e (vM g):=.of fun ρ=>Q3 (GJ (h ρ) he) fun σ H Q hh=>by
 obtain ⟨H0,Hs0,la,Hs,f,q⟩:=hh;refine one f q fun d v H1 Hs1 e1 s1 f1 r1=>?_;unfold vM at q;rw [e1,bind_ok] at q;split at q
 ·obtain ⟨a,vs,rfl,qa,ra,_⟩:=r1.tuple f1.st.sub;refine ⟨_,.inr (.inl ⟨vs,qa,rfl⟩),?_⟩;cases ra with
  |nil=>exact q H1 Hs1 s1
  |cons _ _=>exact q H1 Hs1 s1
 ·exact q.elim
end J
end
section
namespace L2
open PySem PySem.Spec PyProof.Rows PySem.W
section
variable {X:Cx}
theorem Fj {prog:aH}{w:aY}{A:aZ}{E:a8->aa->Prop}{s:aa}{l:ac}{items:Array a8}{n i:Nat}{Q:List a8->aa->Prop} (hl:s.heap.IsList l items) (hh:A.handled=none) (hi:i<n) (hn:n<=items.size+1) (hz:items.size<=16384)
  (h:∀ (h₂:ba) tk,(∀ b o,s.heap.get? b=some o->h₂.get? b=some o)->Q (items.toList.take i++[.ref h₂.objs.size]++(items.toList.drop i).drop (items.size+1-n)) { s with heap:=h₂.push { cls:=.type "list",data:=.seq ((items.toList.drop i).take (items.size+1-n)).toArray },toks:=tk }):ak (az prog w) A (unpackItems (.ref l) n (some i)) Q E s:=by
 have hlt:l≠s.heap.objs.size:=by obtain ⟨o,ho,_⟩:=hl;exact aE (ah ho)
 unfold unpackItems
 refine a5 ?_
 unfold notIterableAtAll
 refine a5 (zS hl.typeIs slot_list_iter.lookup ?_)
 refine a9 ?_
 simp only [bg,if_false]
 refine a5 (cG (hJ hl ?_))
 refine a5 (cG (kun_draw hlt i 0 _ _ ⟨_,aj _ rfl,rfl,rfl⟩ (hl.push _) (by omega) fun h₁ hit₁ hs₁=>?_))
 have hl₁:h₁.IsList l items:=(hl.push _).extBut hs₁.extBut hlt
 rw [Nat.zero_add] at hit₁
 have hit₁':=hit₁
 obtain ⟨oi,hoi,_⟩:=hit₁'
 have hl₁':=hl₁
 obtain ⟨ol,hol,_⟩:=hl₁'
 rw [q0]
 have hfl:(items.toList.take i).length=i:=by rw [jx,aO];omega
 rw [if_neg (show ¬ ((items.toList.take i).length<i) by rw [hfl];omega)]
 refine a5 (cG (kun_collect (s:={ s with heap:=h₁ }) (T:="list_iterator") (.inr (.inr (.inl rfl))) (wy (A:=A.in1) hh s.heap.objs.size l hlt items) (fun j u st=>st.1.typeIs) (k:=i) (by omega) ⟨hit₁,hl₁⟩ (ah hoi) (ah hol) (fun h₂ tk hk=>?_) (by rw [fe];omega)))
 have hrl:(items.toList.drop i).length=items.size-i:=by rw [hU,aO]
 have hmid:(items.toList.drop i).length-(n-1-i)=items.size+1-n:=by rw [hrl];omega
 show ak _ _ (if (items.toList.drop i).length<n-1-i then _ else _) _ _ _
 rw [if_neg (by rw [hrl];omega)]
 show ak _ _ (newList ((items.toList.drop i).take ((items.toList.drop i).length-(n-1-i))) >>= fun d=>pure (items.toList.take i++[d]++(items.toList.drop i).drop ((items.toList.drop i).length-(n-1-i)))) _ _ _
 rw [hmid]
 have he:∀ b o,s.heap.get? b=some o->h₂.get? b=some o:=fun b o e=>by
  have hb:b≠s.heap.objs.size:=aE (ah e)
  exact hk b o hb (hs₁.extBut b o hb (a7 _ e))
 refine a5 (wpAny_newList (a9 (h h₂ tk he)) ?_)
 rw [jx,hrl,fe];omega
inductive IU (K:a6) (t:BJ) (v:V) (σ:St) (H:Hp) (Q:St->Hp->Prop):Prop
 |mk (a x xs:_) (h0:v=.ref a) (h1:jI K H a (x::xs)) (h2:xs.length<=16000) (h3:∀ p,H p=none->t [x,.ref p] σ (upd H p (.lst xs)) Q):IU K t v σ H Q
def QR (K:a6) (t:BJ):TG:=IU K t
theorem LL {es:List aP}{k:Nat}{t:BJ}{pos:Pos} (hc:X.calm=true) (h:GB X es t)
  (hn:(dh es X.env).length=2:=by rfl) (hst:(dh es X.env).findIdx? (·.1)=some 1:=by rfl):PG X (.Tuple es k pos) (QR X.K t):=by
 intro pins s σ H v u Q I r hw
 obtain ⟨a,x,xs,rfl,hq,hz,hw⟩:=hw
 cases r
 obtain ⟨its,rv,pl,hl⟩:=I.list hq
 have hlen:=rv.length
 rw [assign_Tuple]
 refine a5 (kP ?_)
 unfold unpack
 rw [hn,hst]
 simp only [aD] at hlen
 refine a5 (cG (Fj pl.isList (I.ok.hd hc) (by decide) (by simp only [aA];omega) (by simp only [aA];omega) fun h₂ tk he=>?_))
 cases rv with
 | @cons _ u0 _ us r0 rr =>
 have e1:(u0::us).toArray.size+1-2=us.length:=by simp
 have I1:bj X pins σ H { s with heap:=h₂,toks:=tk }:=I.kept he
 have I2:=I1.laid (a:=h₂.objs.size) (o:=.lst xs) (h':=h₂.push { cls:=.type "list",data:=.seq us.toArray }) (t':=tk) (fun _ _ e=>a7 _ e) (al _) (show cH X.prog X.w _ _ _ (.lst xs) from ⟨by rw [fe];omega,us,0,rr,aj _ rfl⟩)
 rw [e1]
 simp only [List.take_succ_cons,List.take_zero,List.drop_succ_cons,q0,List.drop_length,List.take_length,bP]
 exact h pins _ σ _ [x,.ref h₂.objs.size] _ Q I2 (.cons r0 (.cons rfl .nil)) (hw _ (I1.hok.fresh (al _)))
theorem Fk {e:aP}{es:List aP}{t:TG}{u:BJ}{sp:Pos} (h1:PG X e t) (h2:GB X es u)
  (hs:(dh (.Starred e sp::es) X.env).map (·.2)=ms e X.env::(dh es X.env).map (·.2):=by rfl):GB X (.Starred e sp::es) (af t u):=by
 intro pins s σ H vs us Q I r h
 obtain ⟨v,vr,e1,h⟩:=h
 subst e1
 cases r with
 |cons r rr =>
  rw [hs]
  refine assignInOrder_cons (eK (h1 pins s σ H _ _ _ I r h) fun _ s1 ⟨σ1,H1,I1,q1⟩=>?_)
  exact h2 pins s1 σ1 H1 _ _ Q I1 rr q1
end
end L2
namespace J
open PySem L2
def oJ (i j:Nat) (g:ap->R D):ap->R Fl:=fun ρ=>(g ρ).bind fun d=>match d with
 |.list (x::r)=>if r.length<=2000 then .ok (.nx ((ρ.set i (.shr x)).set j (.shr (.list r)))) else .no
 |_=>.no
theorem yU {c:C}{e:aP}{g:ap->R D}{x y:Str}{px py sp pt pos:Pos}{k:Nat} (i j:Nat) (hc:c.X.calm=true) (hN:c.X.N.Nodup) (h:JE c e g)
  (hi:c.X.N[i]?=some x:=by rfl) (hx:K2 c.X.env.scope x:=by first|exact fF rfl|exact dX rfl) (hfx:c.X.fn x=true\/c.X.env.scope.names.lookup x=some .local:=by first|exact .inl rfl|exact .inr rfl|assumption)
  (hj:c.X.N[j]?=some y:=by rfl) (hy:K2 c.X.env.scope y:=by first|exact fF rfl|exact dX rfl) (hfy:c.X.fn y=true\/c.X.env.scope.names.lookup y=some .local:=by first|exact .inl rfl|exact .inr rfl|assumption)
  (hs:Ef [.Tuple [.Name x px,.Starred (.Name y py) sp] k pt] e pos.line c.X.env=pure false:=by rfl) (hw:Eg [.Tuple [.Name x px,.Starred (.Name y py) sp] k pt] e c.X.env=pure none:=by rfl)
  (h1:(dh [.Tuple [.Name x px,.Starred (.Name y py) sp] k pt] c.X.env).map (·.2)=[ms (.Tuple [.Name x px,.Starred (.Name y py) sp] k pt) c.X.env]:=by rfl) :
  JS c (.Assign [.Tuple [.Name x px,.Starred (.Name y py) sp] k pt] e pos) (oJ i j g):=.of fun ρ=>by
 refine zO (BK (h ρ) (LL hc (re (dQ hN hi hx hfx) (Fk (dQ hN hj hy hfy) yo))) hs hw h1) fun D σ H h_16=>?_
 obtain ⟨H0,Hs0,la,Hs,f,q⟩:=h_16
 refine sE f q fun d v H1 Hs1 e1 s1 f1 r1=>?_
 unfold oJ at q;rw [e1,bind_ok] at q
 split at q
 ·rename_i x0 rr
  by_cases hl:rr.length<=2000
  ·rw [if_pos hl] at q
   cases r1 with
   |list hq rs =>
    cases rs with
    | @cons v0 vs _ _ r0 rs =>
     refine ⟨_,v0,vs,rfl,f1.st.sub.seq hq,by rw [rs.length];omega,fun p hp=>?_⟩
     have st:=cw.new (o:=.lst vs) f1.st.sub hp
     refine ⟨v0,[.ref p],rfl,.ref p,[],rfl,rfl,?_⟩
     exact q _ _ _ (((f1.step st).set i (r0.same st.sh)).set j (.list (.of aK) (rs.same st.sh)))
  ·rw [if_neg hl] at q;exact q.elim
 ·exact q.elim
inductive Ct (K:a6) (mg:Str->Option a8) (x:Str) (ss:List Str):Prop
 |mk (a:ac) (h0:mg x=some (.ref a)) (h1:RE K a (ss.map V.str)):Ct K mg x ss
theorem IV {c:C}{tg:aP}{x:Str}{ss:List Str}{pos:Pos} (hg:Gl c.X x) (hm:Ct c.X.K c.X.mg x ss) (hd:(x==("__debug__" : Str))=false:=by decide):JI c tg (.Name x pos) (fun _=>.ok (ss.map .str)):=.of fun ρ=>by
 obtain ⟨a,h0,h1⟩:=hm
 refine Ci (BN (r9 hg h0 (v:=.ref a) rfl hd)) fun σ H Q h=>?_
 obtain ⟨H0,Hs0,la,Hs,f,q⟩:=h
 have hq:∀ H',ic c.X.K H' a (ss.map V.str):=fun _=>.inr h1
 exact ⟨a,rfl,⟨_,hq H⟩,q _ H Hs H (.refl f.st.sub) (.refl _) (Ch (hq H) (m5 ss))⟩
def DS (ss:List Str) (g:ap->R D):ap->R (List D):=fun ρ=>(g ρ).bind fun d=>match d with
 |.tuple es=>.ok (qq (ss.map .str) es)
 |_=>.no
theorem IW {c:C}{b:aP}{g:ap->R D}{elts:List aP}{x:Str}{ss:List Str}{x1}{tpos p px pos:Pos} (hg:Gl c.X "zip") (hm:c.X.mg "zip"=none) (hgx:Gl c.X x) (hx:Ct c.X.K c.X.mg x ss) (h:JE c b g) (hd:(x==("__debug__" : Str))=false:=by decide)
  (hs:aq [.Name x px,b] c.X.env=[(false,bU (.Name x px) c.X.env),(false,bU b c.X.env)]:=by rfl) (hs2:aq [b] c.X.env=[(false,bU b c.X.env)]:=by rfl) :
  Gd c (.Tuple elts x1 tpos) (.Call (.Name "zip" p) [.Name x px,b] [] pos) (DS ss g):=.of fun ρ=>by
 obtain ⟨a,h0,h1⟩:=hx
 have hq:∀ H',ic c.X.K H' a (ss.map V.str):=fun _=>.inr h1
 refine Ci (Ho hg hm (bI (r9 hgx h0 (v:=.ref a) rfl hd) (bI (h ρ) dS hs2) (by rw [hs,hs2])) hs hs2) fun σ H Q hh=>?_
 obtain ⟨H0,Hs0,la,Hs,f,q⟩:=hh
 refine uu f q fun d v H1 Hs1 e1 s1 f1 r1=>?_
 unfold DS at q;rw [e1,bind_ok] at q
 cases r1 with
 |tuple qb rb=>exact ⟨a,_,_,_,rfl,hq _,(ic.of (f1.st.sub _ _ qb)),q _ H1 Hs1 s1 (HN (hq _) (m5 ss) (.of qb) rb)⟩
 |_=>exact q.elim
def iX:D->D->R D
 |.str x,.str y=>if x.length+y.length<=100000 then .ok (.str (x++y)) else .no
 |_,_=>.no
theorem jn {X:Cx}:vq X (fc .Add) iX:=by
 refine ⟨fun pins s σ H x y v u Q I rv ru ⟨Hs,dx,dy,sub,rx,ry,d,hd,q⟩=>?_,fun x y c n h=>?_⟩
 ·unfold iX at hd;split at hd
  ·split at hd
   ·rename_i hz
    cases hd;exact v7 pins s σ H x y v u Q I rv ru ⟨_,_,rx.str,ry.str,by rw [fe];omega,q _ H Hs (.refl sub) (.str _)⟩
   ·cases hd
  ·cases hd
 ·unfold iX at h
  split at h
  ·split at h<;>cases h
  ·cases h
end J
namespace L2
open PySem PySem.Spec PyProof.Rows
end L2
namespace J
open PySem L2
end J
namespace J
open PySem L2
def Cs (mg:Str->Option a8) (x s:Str):Prop:=∃ t,mg x=some (.str s t)
theorem cs_in {K:a6}{h:ba}{mg:Str->Option a8}{x n:Str}{tk:Tok} (X:K.In h) (G:h.Ns aW mg) (t:dz K aW x=some (some (.str n tk))):Cs mg x n:=⟨_,eT X G t⟩
theorem ct_in {K:a6}{h:ba}{mg:Str->Option a8}{x:Str}{ss:List Str}{A:ac}{od:Option ac}{sl:Array (Option a8)}{its:Array a8}{n:Nat} (X:K.In h) (G:h.Ns aW mg) (a:dz K aW x=some (some (.ref A)))
  (l:K.lookup A=some ⟨.type "tuple",od,.seq its n,sl⟩) (hz:its.size<=1000) (hv:cF (ss.map V.str) its.toList):Ct K mg x ss :=
 ⟨A,eT X G a,⟨_,its,n,l,rfl,rfl,by rw [fe];omega,hv⟩⟩
end J
end
namespace L2
open PySem PySem.Spec PyProof.Rows
section
section
variable {prog:aH}{w:aY}{A:aZ}{E:a8->aa->Prop}{s:aa}{z TI TO i1 i2 l1 l2:ac}{k1 k2:Nat}{xs ys:Array a8}{x y a b:a8}
theorem Fm {Q:a8->aa->Prop} (D:pR z TI TO i1 i2 l1 l2) (za:hW s.heap z TI TO .none) (pa:cW s.heap TI (.ref i1) (.ref i2)) (pb:cW s.heap TO a b)
  (u1:s.heap.IsListIter i1 l1 k1) (u2:s.heap.IsTupleIter i2 l2 k2) (v1:s.heap.IsList l1 xs) (v2:s.heap.IsTuple l2 ys) (hx:xs[k1]?=some x) (hy:ys[k2]?=some y)
  (q:∀ h',hW h' z TI TO (bM s.heap.objs.size)->cW h' TO x y->h'.IsListIter i1 l1 (k1+1)->h'.IsTupleIter i2 l2 (k2+1)->cW h' s.heap.objs.size x y ->
   (∀ c o,c≠z->c≠TO->c≠i1->c≠i2->s.heap.get? c=some o->h'.get? c=some o)->Q (.ref s.heap.objs.size) { s with heap:=h' }) :
  ak (az prog w) A (gC.«zip.__next__» ⟨[.ref z],[]⟩) (fun fin s'=>∃ v,fin=.done (.ret v)/\Q v s') E s:=by
 show ak _ _ (sM (.ref z) 2 >>= _) _ _ _;refine a5 (bH za rfl (x:=.bool false) rfl ?_);show ak _ _ (sM (.ref z) 3 >>= _) _ _ _;refine a5 (bH za rfl (x:=.ref TI) rfl ?_);refine a5 (bY pa rfl ?_);show ak _ _ (bq (.ref z) >>= _) _ _ _;refine a5 ?_;unfold bq;refine a5 (bH za rfl (x:=.none) rfl (a9 ?_));simp only [if_true];refine a5 (ft ?_);refine a5 (bH za rfl (x:=.ref TO) rfl ?_);refine a5 (c8 za (by simp) fun g1 z1 b1=>?_);replace z1:hW g1 z TI TO .ellipsis:=z1;refine a5 ?_;simp only [ny,n_,iC,kX];refine a5 (a5 (gW ?_));show ak _ _ (bd (.ref i1) >>= _) _ _ _;refine a5 (Gr (u1.extBut b1.extBut D.i1z) (v1.extBut b1.extBut D.l1z) hx fun g2 w1 b2=>a9 ?_);have p2:cW g2 TO a b:=b2.extBut _ _ D.TOi1 (b1.extBut _ _ D.TOz pb);refine a5 (bY p2 rfl (a5 (fg p2 fun g3 p3 b3=>?_)));replace p3:cW g3 TO x b:=p3;refine a5 (nR (a9 (a5 (a5 (gW ?_)))));show ak _ _ (bd (.ref i2) >>= _) _ _ _;refine a5 (om (eA (eA (eA u2 b1 D.i2z) b2 D.i12.symm) b3 D.TOi2.symm) (ii (ii (ii v2 b1 D.l2z) b2 D.l2i1) b3 D.l2TO) hy fun g4 w2 b4=>a9 ?_);have p4:cW g4 TO x b:=b4.extBut _ _ D.TOi2 p3;refine a5 (bY p4 rfl (a5 (fg p4 fun g5 p5 b5=>?_)));replace p5:cW g5 TO x y:=p5;refine a5 (nR (a9 (a9 ?_)));refine a5 (bY p5 rfl (a5 (wpAny_newTuple ?_)));have sz:g5.objs.size=s.heap.objs.size:=by rw [b5.1,b4.1,b3.1,b2.1,b1.1]
 have z5:hW g5 z TI TO .ellipsis:=b5.extBut _ _ D.TOz.symm (b4.extBut _ _ D.i2z.symm (b3.extBut _ _ D.TOz.symm (b2.extBut _ _ D.i1z.symm z1)));have k5:∀ c o,c≠z->c≠TO->c≠i1->c≠i2->s.heap.get? c=some o->g5.get? c=some o:=fun c o n1 n2 n3 n4 e =>
  b5.extBut _ _ n2 (b4.extBut _ _ n4 (b3.extBut _ _ n2 (b2.extBut _ _ n3 (b1.extBut _ _ n1 e))))
 have y1:g5.IsListIter i1 l1 (k1+1):=((w1.extBut b3.extBut D.TOi1.symm).extBut b4.extBut D.i12).extBut b5.extBut D.TOi1.symm;have y2:g5.IsTupleIter i2 l2 (k2+1):=eA w2 b5 D.TOi2.symm;have zl:z<g5.objs.size:=ah z5;show ak _ _ (dg (.ref z) (.ref g5.objs.size) >>= _) _ _ _;refine a5 ?_;unfold dg;have z6:hW (g5.push { cls:=.type "tuple",data:=.seq #[x,y] }) z TI TO .ellipsis:=a7 _ z5;refine a5 (c8 z6 (by simp) fun g7 z7 b7=>?_);replace z7:hW g7 z TI TO (bM g5.objs.size):=z7;refine c8 z7 (by simp) fun g8 z8 b8=>?_;replace z8:hW g8 z TI TO (bM g5.objs.size):=z8;have up:∀ c o,c≠z->g5.get? c=some o->g8.get? c=some o:=fun c o n1 e=>b8.extBut _ _ n1 (b7.extBut _ _ n1 (a7 _ e));have p8:cW g8 g5.objs.size x y:=b8.extBut _ _ (dI zl) (b7.extBut _ _ (dI zl) (aj _ rfl));rw [sz] at z8 p8;refine a9 ⟨_,rfl,?_⟩;show Q (.ref g5.objs.size) _;rw [sz];exact q g8 z8 (up _ _ D.TOz p5) (let ⟨o,e,r⟩:=y1;⟨o,up _ o D.i1z e,r⟩) (let ⟨o,e,r⟩:=y2;⟨o,up _ o D.i2z e,r⟩) p8 fun c o n1 n2 n3 n4 e=>up c o n1 (k5 c o n1 n2 n3 n4 e)
theorem Fo (hh:A.handled=none) (D:pR z TI TO i1 i2 l1 l2) (za:hW s.heap z TI TO .none) (pa:cW s.heap TI (.ref i1) (.ref i2)) (pb:cW s.heap TO a b)
  (u1:s.heap.IsListIter i1 l1 k1) (u2:s.heap.IsTupleIter i2 l2 k2) (v1:s.heap.IsList l1 xs) (v2:s.heap.IsTuple l2 ys) (hend:xs[k1]?=none\/ys[k2]?=none)
  (q:∀ h' e,(∀ c o,c≠z->c≠TO->c≠i1->c≠i2->s.heap.get? c=some o->h'.get? c=some o)->(∃ o,h'.get? e=some o/\o.cls=.type "StopIteration")->E (.ref e) { s with heap:=h' }) :
  ak (az prog w) A (gC.«zip.__next__» ⟨[.ref z],[]⟩) Q E s:=by
 show ak _ _ (sM (.ref z) 2 >>= _) _ _ _;refine a5 (bH za rfl (x:=.bool false) rfl ?_);show ak _ _ (sM (.ref z) 3 >>= _) _ _ _;refine a5 (bH za rfl (x:=.ref TI) rfl ?_);refine a5 (bY pa rfl ?_);show ak _ _ (bq (.ref z) >>= _) _ _ _;refine a5 ?_;unfold bq;refine a5 (bH za rfl (x:=.none) rfl (a9 ?_));simp only [if_true];refine a5 (ft ?_);refine a5 (bH za rfl (x:=.ref TO) rfl ?_);refine a5 (c8 za (by simp) fun g1 z1 b1=>?_);replace z1:hW g1 z TI TO .ellipsis:=z1;refine a5 ?_;simp only [ny,n_,iC,kX];refine a5 (a5 (gW ?_));show ak _ _ (bd (.ref i1) >>= _) _ _ _;cases hx:xs[k1]? with
 |none =>
  refine a5 (wpAny_nextOf_list_end hh (u1.extBut b1.extBut D.i1z) (v1.extBut b1.extBut D.l1z) hx fun g2 e b2 he=>?_);obtain ⟨oe,ee,ce⟩:=he;have z2:hW g2 z TI TO .ellipsis:=b2 _ _ D.i1z.symm z1;have ez:e≠z:=fun n=>by subst n;rw [z2] at ee;cases ee;simp at ce
  refine c8 z2 (by simp) fun g3 _ b3=>q g3 e (fun c o n1 _ n3 _ m=>b3.extBut _ _ n1 (b2 _ _ n3 (b1.extBut _ _ n1 m))) ⟨oe,b3.extBut _ _ ez ee,ce⟩
 |some x =>
  have hy:ys[k2]?=none:=hend.resolve_left fun n=>by rw [hx] at n;cases n
  refine a5 (Gr (u1.extBut b1.extBut D.i1z) (v1.extBut b1.extBut D.l1z) hx fun g2 w1 b2=>a9 ?_);have p2:cW g2 TO a b:=b2.extBut _ _ D.TOi1 (b1.extBut _ _ D.TOz pb);refine a5 (bY p2 rfl (a5 (fg p2 fun g3 p3 b3=>?_)));refine a5 (nR (a9 (a5 (a5 (gW ?_)))));show ak _ _ (bd (.ref i2) >>= _) _ _ _;refine a5 (oo hh (eA (eA (eA u2 b1 D.i2z) b2 D.i12.symm) b3 D.TOi2.symm) (ii (ii (ii v2 b1 D.l2z) b2 D.l2i1) b3 D.l2TO) hy fun g4 e b4 he=>?_);obtain ⟨oe,ee,ce⟩:=he;have z4:hW g4 z TI TO .ellipsis:=b4 _ _ D.i2z.symm (b3.extBut _ _ D.TOz.symm (b2.extBut _ _ D.i1z.symm z1));have ez:e≠z:=fun n=>by subst n;rw [z4] at ee;cases ee;simp at ce
  refine c8 z4 (by simp) fun g5 _ b5=>q g5 e (fun c o n1 n2 n3 n4 m=>b5.extBut _ _ n1 (b4 _ _ n4 (b3.extBut _ _ n2 (b2.extBut _ _ n3 (b1.extBut _ _ n1 m))))) ⟨oe,b5.extBut _ _ ez ee,ce⟩
end
abbrev LM (h:ba) (l1:ac):ba:=h.push { cls:=.type "list_iterator",data:=.fields #[.ref l1,.int 0 0] }
abbrev LN (h:ba) (l1 l2:ac):ba:=(LM h l1).push { cls:=.type "tuple_iterator",data:=.fields #[.ref l2,.int 0 0] }
abbrev LO (h:ba) (l1 l2:ac):ba:=(LN h l1 l2).push { cls:=.type "tuple",data:=.seq #[.ref h.objs.size,.ref (LM h l1).objs.size] }
abbrev LP (h:ba) (l1 l2:ac):ba:=(LO h l1 l2).push { cls:=.type "tuple",data:=.seq #[.none,.none] }
abbrev Fp (h:ba) (l1 l2:ac):ba:=(LP h l1 l2).push { cls:=.type "zip",data:=.fields #[.none,.bool false,.bool false,.ref (LN h l1 l2).objs.size,.ref (LO h l1 l2).objs.size] }
theorem vN (l1 l2:ac) (xs ys:Array a8) :
  Meets (gC.«zip.__new__» ⟨[.type "zip",.ref l1,.ref l2],[]⟩) (fun _ R s=>s.heap.IsList l1 xs/\s.heap.IsTuple l2 ys/\R (.ok (.ret (.ref (LP s.heap l1 l2).objs.size))) { s with heap:=Fp s.heap l1 l2 }) :=
 .of_wp fun prog w A R s h=>by
  obtain ⟨hp,g,d,tk,os⟩:=s;obtain ⟨v1,v2,h⟩:=h;have hsub:=PySem.sub_zip;have L1:Heap.IsList (oX ⟨hp,g,d,tk,os⟩) l1 xs:=v1;have L2:tQ (oX ⟨hp.push { cls:=.type "list_iterator",data:=.fields #[.ref l1,.int 0 0] },g,d,tk,os⟩) l2 ys:=yj v2 _;wp_walk using hJ L1,dR L2;exact ⟨_,rfl,h⟩
section
theorem wT   (v1:s.heap.IsList l1 xs) (v2:s.heap.IsTuple l2 ys)
  (h:∀ h',hW h' (s.heap.objs.size+4) (s.heap.objs.size+2) (s.heap.objs.size+3) .none->cW h' (s.heap.objs.size+2) (.ref s.heap.objs.size) (.ref (s.heap.objs.size+1)) ->
   cW h' (s.heap.objs.size+3) .none .none->h'.IsListIter s.heap.objs.size l1 0->h'.IsTupleIter (s.heap.objs.size+1) l2 0 ->
   (∀ c o,s.heap.get? c=some o->h'.get? c=some o)->Q (.ref (s.heap.objs.size+4)) { s with heap:=h' }):ak (az prog w) A (call (.type "zip") [.ref l1,.ref l2]) Q E s:=by
 refine Gm F.called_zip (by decide) (F.typeCall_zip_2 _ _) (F.newCall_zip_2 _ _) (fun obj=>Gn obj _ _) F.entry_zip_new (vN l1 l2 xs ys) ⟨v1,v2,?_⟩;have n1:(LM s.heap l1).objs.size=s.heap.objs.size+1:=bC ..;have n2:(LN s.heap l1 l2).objs.size=s.heap.objs.size+2:=by rw [bC,n1]
 have n3:(LO s.heap l1 l2).objs.size=s.heap.objs.size+3:=by rw [bC,n2]
 have n4:(LP s.heap l1 l2).objs.size=s.heap.objs.size+4:=by rw [bC,n3]
 have c5:(Fp s.heap l1 l2).get? (LP s.heap l1 l2).objs.size=some _:=aj _ rfl;have c4:(Fp s.heap l1 l2).get? (LO s.heap l1 l2).objs.size=some _:=a7 _ (aj _ rfl);have c3:(Fp s.heap l1 l2).get? (LN s.heap l1 l2).objs.size=some _:=a7 _ (a7 _ (aj _ rfl));have c2:(Fp s.heap l1 l2).get? (LM s.heap l1).objs.size=some _:=a7 _ (a7 _ (a7 _ (aj _ rfl)));have c1:(Fp s.heap l1 l2).get? s.heap.objs.size=some _:=a7 _ (a7 _ (a7 _ (a7 _ (aj _ rfl))));show _/\_;rw [n2,n3,n4] at c5;rw [n1,n2] at c3;rw [n3] at c4;rw [n1] at c2;rw [n4];exact ⟨⟨_,c5,rfl⟩,h _ c5 c3 c4 ⟨_,c1,rfl,rfl⟩ ⟨_,c2,rfl,rfl⟩ fun c o e=>a7 _ (a7 _ (a7 _ (a7 _ (a7 _ e))))⟩
end
theorem jI.ne_fp {X:Cx}{pins:List (ac×Obj)}{σ:St}{H:Hp}{s:aa}{a b:ac}{xs:List V} (I:bj X pins σ H s) (hq:jI X.K H a xs) (hf:pT X pins H b):a≠b:=by
 rintro rfl;rcases hq with (h|⟨o,h⟩)|⟨o,its,n,hk,_⟩
 ·rw [hf.1] at h;cases h
 ·rw [hf.1] at h;cases h
 ·have e:X.base.get? a=some o:=I.mod.kin a o hk;rcases hf.f3 with z|z
  ·exact I.ok.noex a o e z
  ·exact absurd (ay (ah e) (bv I.ok.bsz z)) (cu _)
def OK (K:a6) (a b:ac):It :=
 ⟨fun i H=>∃ xs ys x y,jI K H a xs/\ic K H b ys/\xs[i]?=some x/\ys[i]?=some y,
  fun i H v H'=>∃ p,H p=none/\v=.ref p/\∀ xs ys,jI K H a xs->ic K H b ys->∃ x y,xs[i]?=some x/\ys[i]?=some y/\H'=upd H p (.tup [x,y]),
  fun i H=>∃ xs ys,jI K H a xs/\ic K H b ys/\(xs.length<=i\/ys.length<=i)⟩
theorem Fq {P:aH}{w:aY}{K:a6}{elts:List aP}{x1}{pos:Pos} (l1 l2 z TI TO i1 i2:ac) (Z:PQ z TI TO i1 i2) :
  yq P w K (.Tuple elts x1 pos) (OK K l1 l2) [z,TI,TO,i1,i2] z (fun i h=>hW h z TI TO .none/\cW h TI (.ref i1) (.ref i2)/\(∃ a b,cW h TO a b)/\h.IsListIter i1 l1 i/\h.IsTupleIter i2 l2 i) where
 mem:=by simp
 obj:=fun i h st b hb=>by
  obtain ⟨s1,s2,⟨_,_,s3⟩,⟨o4,e4,_,f4⟩,⟨o5,e5,_,f5⟩⟩:=st;simp only [aQ,aG,or_false] at hb;rcases hb with rfl|rfl|rfl|rfl|rfl
  ·exact ⟨_,s1,fun v q=>by cases q⟩
  ·exact ⟨_,s2,fun v q=>by cases q⟩
  ·exact ⟨_,s3,fun v q=>by cases q⟩
  ·exact ⟨o4,e4,fun v q=>by rw [f4] at q;cases q⟩
  ·exact ⟨o5,e5,fun v q=>by rw [f5] at q;cases q⟩
 keep:=fun i h h' st k=>by
  obtain ⟨s1,s2,⟨u,v,s3⟩,⟨o4,e4,r4⟩,⟨o5,e5,r5⟩⟩:=st;exact ⟨k z (by simp) _ s1,k TI (by simp) _ s2,⟨u,v,k TO (by simp) _ s3⟩,⟨o4,k i1 (by simp) _ e4,r4⟩,⟨o5,k i2 (by simp) _ e5,r5⟩⟩
 item:=by
  intro X hP hw hK hc i pins s σ H E I hf st hg;subst hP hw hK;obtain ⟨xs,ys,x,y,hq1,hq2,hx,hy⟩:=hg;obtain ⟨its1,rv1,p1,_⟩:=I.list hq1;obtain ⟨its2,rv2,p2,_⟩:=I.tuple hq2;obtain ⟨u,hu,ru⟩:=rv1.get hx;obtain ⟨v,hv,rv⟩:=rv2.get hy;obtain ⟨s1,s2,⟨a,b,s3⟩,s4,s5⟩:=st;have ne1:∀ b∈[z,TI,TO,i1,i2],l1≠b:=fun b hb=>jI.ne_fp I hq1 (hf b hb);have ne2:∀ b∈[z,TI,TO,i1,i2],l2≠b:=fun b hb=>hq2.ne_fp I (hf b hb);have D:pR z TI TO i1 i2 l1 l2:=⟨Z.d1,Z.d2,Z.d3,Z.d4,Z.d5,Z.d6,Z.d7,Z.d8,Z.d9,Z.d0,ne1 z (by simp),ne1 TO (by simp),ne1 i1 (by simp),ne1 i2 (by simp),ne2 z (by simp),ne2 TO (by simp),ne2 i1 (by simp),ne2 i2 (by simp)⟩;have zl:=ah s1;have hT:s.TypeIs (.ref z) "zip":=⟨_,s1,rfl⟩;unfold mx;refine a5 (gU (bK (name:=bc "__next__") hT eW ?_));refine bV eW hT o6 (Fm D s1 s2 s3 s4 s5 p1.isList p2 (by simpa using hu) (by simpa using hv) fun h1 z1 t1 y1 y2 pr k1=>?_) (nz _);refine a9 ⟨_,rfl,D5 z1 fun h2 z2 b2=>?_⟩;have szn:s.heap.objs.size≠z:=dI zl;have TIk:cW h1 TI (.ref i1) (.ref i2):=k1 TI _ Z.d1 Z.d5 Z.d6 Z.d7 s2;have I2:bj X pins σ H { s with heap:=h2 }:=I.turnedL (t':=s.toks) (ch:=[z,TI,TO,i1,i2]) (fun b o hb q=>by
   simp only [aQ,aG,or_false,not_or] at hb;exact (b2.2 b hb.1).trans (k1 b o hb.1 hb.2.2.1 hb.2.2.2.1 hb.2.2.2.2 q)) hf
  have fT:=I.fpOk (H':=H) (al _) (I.hok.fresh (al _));have pr2:h2.get? s.heap.objs.size=some { cls:=.type "tuple",data:=.seq #[u,v] }:=(b2.2 _ szn).trans pr;have I3:=I2.track (ho:=.tup [x,y]) fT ⟨by show 2<=sizeLine;decide,[u,v],.cons ru (.cons rv .nil),⟨_,pr2,rfl,0,rfl⟩⟩;refine ⟨.ref s.heap.objs.size,_,I3,rfl,⟨_,fT.1,rfl,fun xs' ys' h1 h2=>?_⟩,⟨z2,(b2.2 TI Z.d1).trans TIk,⟨u,v,(b2.2 TO Z.d2).trans t1⟩,y1.extBut b2.extBut Z.d3,eA y2 b2 Z.d4⟩,fun b hb=>?_⟩
  ·rw [I.list_inj h1 hq1,I.tuple_inj h2 hq2];exact ⟨x,y,hx,hy,rfl⟩
  ·have bl:b<s.heap.objs.size:=by
    simp only [aQ,aG,or_false] at hb;rcases hb with q|q|q|q|q
    ·rw [q];exact zl
    ·rw [q];exact ah s2
    ·rw [q];exact ah s3
    ·obtain ⟨_,e,_⟩:=s4;rw [q];exact ah e
    ·obtain ⟨_,e,_⟩:=s5;rw [q];exact ah e
   rw [aL (aE bl)];exact (hf b hb).1
 done:=by
  intro X hP hw hK hc i pins s σ H E I hf st hg;subst hP hw hK;obtain ⟨xs,ys,hq1,hq2,hend⟩:=hg;obtain ⟨its1,rv1,p1,_⟩:=I.list hq1;obtain ⟨its2,rv2,p2,_⟩:=I.tuple hq2;obtain ⟨s1,s2,⟨a,b,s3⟩,s4,s5⟩:=st;have ne1:∀ b∈[z,TI,TO,i1,i2],l1≠b:=fun b hb=>jI.ne_fp I hq1 (hf b hb);have ne2:∀ b∈[z,TI,TO,i1,i2],l2≠b:=fun b hb=>hq2.ne_fp I (hf b hb);have D:pR z TI TO i1 i2 l1 l2:=⟨Z.d1,Z.d2,Z.d3,Z.d4,Z.d5,Z.d6,Z.d7,Z.d8,Z.d9,Z.d0,ne1 z (by simp),ne1 TO (by simp),ne1 i1 (by simp),ne1 i2 (by simp),ne2 z (by simp),ne2 TO (by simp),ne2 i1 (by simp),ne2 i2 (by simp)⟩;have hT:s.TypeIs (.ref z) "zip":=⟨_,s1,rfl⟩;have n1:=rv1.length;have n2:=rv2.length;unfold mx;refine a5 (gU (bK (name:=bc "__next__") hT eW ?_));refine bV eW hT o6 (Fo (by simpa using I.ok.hd hc) D s1 s2 s3 s4 s5 p1.isList p2 (hend.elim (fun q=>.inl (by simp;omega)) fun q=>.inr (by simp;omega)) fun h' e kp he=>?_) (nz _);obtain ⟨o,eo,co⟩:=he;refine a5 (kf (T:="StopIteration") (b:=true) ⟨o,eo,co⟩ sL ?_);exact a9 ⟨rfl,I.turnedL (t':=s.toks) (ch:=[z,TI,TO,i1,i2]) (fun b o hb q=>by
   simp only [aQ,aG,or_false,not_or] at hb;exact kp b o hb.1 hb.2.2.1 hb.2.2.2.1 hb.2.2.2.2 q) hf⟩
 self:=fun _ _ _ _ _ st h=>pS st.1 h
def QS (K:a6) (ta:TA):TI:=fun σ H R=>ta σ H fun vs H1=>∃ a b xs ys,vs=[.ref a,.ref b]/\jI K H1 a xs/\ic K H1 b ys/\R (OK K a b) H1
theorem LQ {X:Cx}{elts:List aP}{x1}{tpos p pos:Pos}{a b:aP}{ta:TA} (hg:Gl X "zip") (hm:X.mg "zip"=none) (ha:PA X [a,b] ta) (hs:aq [a,b] X.env=[(false,bU a X.env),(false,bU b X.env)]:=by rfl)
  (hs2:aq [b] X.env=[(false,bU b X.env)]:=by rfl):PI X (.Tuple elts x1 tpos) (.Call (.Name "zip" p) [a,b] [] pos) (QS X.K ta):=by
 intro pins s σ H R I h;refine Call_ (qk I hg hm boot_zip (dJ (eK (ha pos pins s σ H _ I h) fun us s1 ⟨vs,H1,I1,r1,q1⟩=>?_) (by rw [hs,hs2]) (by rw [hs2];rfl)));obtain ⟨a1,a2,xs,ys,rfl,hq1,hq2,q⟩:=q1;obtain ⟨u1,u2,rfl,rx1,rx2⟩:=Da r1;cases rx1;cases rx2;obtain ⟨its1,rv1,p1,_⟩:=I1.list hq1;obtain ⟨its2,rv2,p2,_⟩:=I1.tuple hq2;refine wT p1.isList (show s1.heap.IsTuple a2 its2.toArray from p2) fun h' c1 c2 c3 c4 c5 kp=>?_;refine pS c1 ?_;have I2:bj X pins σ H1 { s1 with heap:=h' }:=I1.kept (t':=s1.toks) kp;have ad:∀ k j:Nat,k≠j->s1.heap.objs.size+k≠s1.heap.objs.size+j:=fun k j n e=>n (G5 e);refine ⟨s1.heap.objs.size+4,[s1.heap.objs.size+4,s1.heap.objs.size+2,s1.heap.objs.size+3,s1.heap.objs.size+0,s1.heap.objs.size+1],_,_,H1,rfl,I2,
  Fq a1 a2 _ _ _ _ _ ⟨ad _ _ (by decide),ad _ _ (by decide),ad _ _ (by decide),ad _ _ (by decide),ad _ _ (by decide),ad _ _ (by decide),ad _ _ (by decide),ad _ _ (by decide),ad _ _ (by decide),ad _ _ (by decide)⟩,
  ⟨c1,c2,⟨_,_,c3⟩,c4,c5⟩,fun b hb=>?_,q⟩
 have:∀ k:Nat,pT X pins H1 (s1.heap.objs.size+k):=fun k=>I1.fpOk (nI _ _) (I1.hok.fresh (nI _ _))
 simp only [aQ,aG,or_false] at hb;rcases hb with q|q|q|q|q<;>(rw [q];exact this _)
end
end L2
namespace J
open PySem L2
section
theorem LR {K:a6}{Hn Hs:Hp}{a b:ac}{vs ws:List V}{ds es:List D} (h:jI K Hn a vs) (r:RDs K Hs vs ds) (h':ic K Hn b ws) (r':RDs K Hs ws es):K4 K (OK K a b) (qq ds es) Hn Hs:=fun H2 Hs2 e1 e2 e3=>by
 have q:=e1.seq h;have q':=e1.tup h';have hl:=vy ds es;refine ⟨fun i hi=>?_,fun i hi=>⟨vs,ws,q,q',by rw [r.length,r'.length];omega⟩,fun i x H3 hi y=>?_⟩
 ·have h1:i<vs.length:=by rw [r.length];omega
  have h2:i<ws.length:=by rw [r'.length];omega
  exact ⟨vs,ws,vs[i],ws[i],q,q',b9 h1,b9 h2⟩
 ·obtain ⟨p,hp,rfl,y⟩:=y;obtain ⟨x,z,k0,k0',rfl⟩:=y vs ws q q';obtain ⟨d,k1,k2⟩:=r.get k0;obtain ⟨d',k1',k2'⟩:=r'.get k0';have st:=cw.new (o:=.tup [x,z]) e3 hp;exact ⟨.tuple [d,d'],_,vw ds es i d d' k1 k1',st,.tuple aK (.cons ((k2.same e2).same st.sh) (.cons ((k2'.same e2).same st.sh) .nil))⟩
def T5:List D->R (List D)
 |[.list ds,.tuple es]=>.ok (qq ds es)
 |_=>.no
def DT (gs:ap->R (List D)):ap->R (List D):=fun ρ=>(gs ρ).bind T5
theorem IX {c:C}{a b:aP}{gs:ap->R (List D)}{elts:List aP}{x1}{tpos p pos:Pos} (hg:Gl c.X "zip") (hm:c.X.mg "zip"=none) (ha:Dt c [a,b] gs) (hs:aq [a,b] c.X.env=[(false,bU a c.X.env),(false,bU b c.X.env)]:=by rfl) (hs2:aq [b] c.X.env=[(false,bU b c.X.env)]:=by rfl) :
  Gd c (.Tuple elts x1 tpos) (.Call (.Name "zip" p) [a,b] [] pos) (DT gs):=.of fun ρ=>Ci (LQ hg hm (ha ρ) hs hs2) fun σ H Q h_21=>by
 obtain ⟨H0,Hs0,la,Hs,f,q⟩:=h_21;refine Aj f q fun ds vs H1 Hs1 e1 s1 f1 r1=>?_;unfold DT at q;rw [e1,bind_ok] at q;unfold T5 at q;split at q
 ·obtain ⟨x,y,rfl,rx,ry⟩:=r1.two;cases rx with
  |list qa ra =>
   cases ry with
   |tuple qb rb=>exact ⟨_,_,_,_,rfl,f1.st.sub.seq qa,(ic.of (f1.st.sub _ _ qb)),q _ H1 Hs1 s1 (LR qa ra (.of qb) rb)⟩
 ·exact q.elim
def IY:D->R D
 |.int i=>if 0<=i/\i<=9 then .ok (.str (bc (toString i))) else .no
 |_=>.no
theorem OL {X:Cx}:Gc X (.type "str") (jD IY):=by
 refine qp (fun d c n h=>?_) fun pins s σ H x u Q Hs d d' I ru sub rx hd q=>?_
 ·unfold IY at h
  split at h
  ·split at h<;>cases h
  ·cases h
 ·unfold IY at hd
  split at hd
  ·split at hd
   ·rename_i i hi
    cases hd
    rw [rx.int] at ru
    obtain ⟨t,rfl⟩:=ru
    exact PySem.P.str_of_int (DQ hi.1 hi.2) ⟨.str _,H,I.tok _,⟨_,rfl⟩,q _ H Hs (.refl sub) (.str _)⟩
   ·cases hd
  ·cases hd
end
end J
namespace Z
open PySem L2 J
section
def Rw (y:Str):Option Nat:=if y="NoBook" then some 0 else if y="NoText" then some 10 else none
def iP:ap->R Fl:=(eC (Du (cO (af (iu 1 [1] (m7 (rB 0)) kT (g2 (rB 0) (rB 1) (Ga false))) aV) (jD (ij fun bs=>bs.any id)))))
def eQ:List D->R D:=hG 2 iP
def jd:ap->R Fl:=(bz (f_ (G8 (mF (iU (vv (rB 0) "str"))) (mF (iU (oy (kI 1) (cO (af (rB 0) aV) (jD nK)) (kI 6) MI MI)))) (eC (kB false)) (fun ρ=>.ok (.nx ρ))) (eC (cO (af (iu 1 [] (m7 (rB 0)) kT (oy (fun _=>.ok (.str "a")) (rB 0) (fun _=>.ok (.str "z")) MI MI)) aV) (jD (ij fun bs=>bs.all id)))))
def fJ:List D->R D:=hG 1 jd
def dn:ap->R Fl:=(bz (f_ (G8 (mF (iU (vv (rB 0) "tuple"))) (mF (iU (cO (af (iu 1 [] (m7 (rB 0)) kT (ir 1 fJ (af (rS 0) aV))) aV) (jD (ij fun bs=>bs.all id)))))) (eC (kB false)) (fun ρ=>.ok (.nx ρ))) (eC (cO (af (iu 2 [] (Lj (af (rS 0) (af (Gb (rB 0) (Bg (kI 1)) Ow) aV))) kT (g2 (rB 0) (rB 1) G9)) aV) (jD (ij fun bs=>bs.all id)))))
def cj:List D->R D:=hG 1 dn
def iy:ap->R Fl:=(eC (tY (ir 1 cj (af (rS 1) aV)) (cO (af (iu 1 [0] (m7 (rB 1)) kT (g2 (rB 0) (rB 1) (Ga false))) aV) (jD (ij fun bs=>bs.all id)))))
def el:List D->R D:=hG 2 iy
def jf:ap->R Fl:=(bz (f_ (G8 (mF (iU (vv (rB 0) "int"))) (iU (vv (rB 0) "bool"))) (eC (kB false)) (fun ρ=>.ok (.nx ρ))) (eC (oy (rB 1) (rB 0) (rB 2) MI MI)))
def ik:List D->R D:=hG 3 jf
def iz:ap->R Fl:=(bz (f_ (G8 (mF (iU (vv (rB 1) "tuple"))) (iU (g2 (cO (af (rB 1) aV) (jD nK)) (kI 6) (mH true)))) (eC (kB false)) (fun ρ=>.ok (.nx ρ))) (bz (An (rS 1) (mI 6 (cJ (bR 2) (cJ (bR 3) (cJ (bR 4) (cJ (bR 5) (cJ (bR 6) (cJ (bR 7) oB)))))))) (bz (f_ (G8 (mF (iU (ir 1 fJ (af (rS 2) aV)))) (mF (iU (ir 3 ik (af (rS 7) (af (kI 0) (af (kI 9) aV))))))) (eC (kB false)) (fun ρ=>.ok (.nx ρ))) (bz (f_ (mF (iU (cO (af (iu 1 [0] (m7 (eP (af (rS 3) (af (rS 4) (af (rS 5) (af (rS 6) aV)))) .tuple)) kT (ir 2 el (af (rS 1) (af (rS 0) aV)))) aV) (jD (ij fun bs=>bs.all id))))) (eC (kB false)) (fun ρ=>.ok (.nx ρ))) (eC (tY (ir 2 eQ (af (rS 3) (af (rS 4) aV))) (ir 2 eQ (af (rS 5) (af (rS 6) aV)))))))))
def fj:List D->R D:=hG 8 iz
def j_:ap->R Fl:=(bz (f_ (G8 (mF (iU (vv (rB 0) "tuple"))) (iU (g2 (cO (af (rB 0) aV) (jD nK)) (kI 2) (mH true)))) (eC (kB false)) (fun ρ=>.ok (.nx ρ))) (bz (An (rS 0) (mI 2 (cJ (bR 1) (cJ (bR 2) oB)))) (bz (f_ (G8 (mF (iU (ir 1 cj (af (rS 1) aV)))) (iU (g2 (cO (af (rB 1) aV) (jD nK)) (kI 6) P7))) (eC (kB false)) (fun ρ=>.ok (.nx ρ))) (bz (f_ (G8 (mF (iU (vv (rB 2) "tuple"))) (iU (g2 (cO (af (rB 2) aV) (jD nK)) (kI 6) P7))) (eC (kB false)) (fun ρ=>.ok (.nx ρ))) (bz (f_ (mF (iU (cO (af (iu 1 [1] (m7 (rB 2)) kT (ir 2 fj (af (rS 1) (af (rS 0) aV)))) aV) (jD (ij fun bs=>bs.all id))))) (eC (kB false)) (fun ρ=>.ok (.nx ρ))) (eC (g2 (mM (oE 1 [] (m7 (rB 2)) kT (g2 (rB 0) (kI 0) bJ))) (cO (af (rB 2) aV) (jD nK)) (mH false))))))))
def e_:List D->R D:=hG 3 j_
def pf:ap->R Fl:=(bz (f_ (mF (iU (ir 1 e_ (af (rS 0) aV)))) (oG "NoBook" (af (fun _=>.ok (.str "a book is a tuple of facts and errands, each as the document tells")) aV)) (fun ρ=>.ok (.nx ρ))) (eC (rS 0)))
def ph:List D->R D:=hG 1 pf
def pi:ap->R Fl:=(bz (nE 1 (eP (af (QP " " (g2 (rB 0) (kI 0) bJ) (g2 (rB 0) (kI 5) bJ)) aV) .list)) (bz (mK (DS ["needs","bars","makes","ends"] (Gb (rB 0) (Bg (kI 1)) (Bg (kI 5)))) (mI 2 (cJ (bR 2) (cJ (bR 3) oB))) (f_ (vM (rB 3)) (Ck 1 (qe " " (g2 (eP (af (rS 2) aV) .tuple) (rB 3) df))) (fun ρ=>.ok (.nx ρ)))) (eC (qe ", " (rB 1)))))
def pj:List D->R D:=hG 4 pi
def pp:ap->R Fl:=(bz (eV 1 (qe " " (g2 (eP (af (fun _=>.ok (.str "facts")) aV) .tuple) (g2 (rB 0) (kI 0) bJ) df))) (eC (qe "\n" (g2 (eP (af (rS 1) aV) .list) (iu 1 [] (m7 (g2 (rB 0) (kI 1) bJ)) kT (ir 1 pj (af (rS 0) aV))) df))))
def gR:List D->R D:=hG 2 pp
def iQ:ap->R Fl:=(bz (nF 1 (bR 2) (bz (oJ 3 4 (DR (rS 2) (fun _=>.ok (.str " ")) kz)) (f_ (iU (g2 (rB 3) (rB 0) (mH false))) (eC (cO (af (rB 4) aV) (jD fP))) (fun ρ=>.ok (.nx ρ))))) (eC (eP aV .tuple)))
def gF:List D->R D:=hG 5 iQ
def jP:ap->R Fl:=(eC (Rp (iU (g2 (cO (af (rB 0) aV) (jD nK)) (kI 1) (mH false))) (DR (fun _=>.ok (.str "0123456789")) (rS 0) OI) kN))
def jQ:List D->R D:=hG 1 jP
def le:ap->R Fl:=(bz (oJ 1 2 (DR (rS 0) (fun _=>.ok (.str ", ")) kz)) (bz (An (DR (rS 1) (fun _=>.ok (.str " ")) xZ) (mI 3 (cJ (bR 3) (cJ (bR 4) (cJ (bR 5) oB))))) (eC (g2 (g2 (eP (af (rS 3) aV) .tuple) (cO (af (iu 1 [2] (fun _=>.ok (q9 .str ["needs","bars","makes","ends"])) kT (ir 2 gF (af (rS 0) (af (rS 1) aV)))) aV) (jD fP)) df) (eP (af (ir 1 jQ (af (rS 5) aV)) aV) .tuple) df))))
def lf:List D->R D:=hG 6 le
def uH:ap->R Fl:=(eC (ir 1 gR (af (ir 1 ph (af (rS 0) aV)) aV)))
def rP:List D->R D:=hG 1 uH
def tj:ap->R Fl:=(bz (f_ (mF (iU (vv (rB 0) "str"))) (oG "NoText" (af (fun _=>.ok (.str "it is no text")) aV)) (fun ρ=>.ok (.nx ρ))) (bz (oJ 1 2 (DR (rS 0) (fun _=>.ok (.str "\n")) kz)) (bz (eV 3 (eP (af (cO (af (Gb (DR (rS 1) (fun _=>.ok (.str " ")) kz) (Bg (kI 1)) Ow) aV) (jD fP)) (af (cO (af (iu 1 [] (m7 (rB 2)) kT (ir 1 lf (af (rS 0) aV))) aV) (jD fP)) aV)) .tuple)) (bz (f_ (G8 (mF (iU (ir 1 e_ (af (rS 3) aV)))) (iU (g2 (ir 1 gR (af (rS 3) aV)) (rB 0) (mH true)))) (oG "NoText" (af (fun _=>.ok (.str "it is not written as a book is")) aV)) (fun ρ=>.ok (.nx ρ))) (eC (rS 3))))))
def mP:List D->R D:=hG 4 tj
def jo:ap->R Fl:=(bz (f_ (iU (g2 (rB 1) (cO (af (rB 0) aV) (jD nK)) G9)) (eC (g2 (rB 0) (rB 1) bJ)) (fun ρ=>.ok (.nx ρ))) (bz (f_ (iU (g2 (rB 0) (eP aV .list) (mH false))) (eC (kI 0)) (fun ρ=>.ok (.nx ρ))) (eC (g2 (g2 (g2 (rB 0) (g2 (rB 1) (cO (af (rB 0) aV) (jD nK)) F4) bJ) (kI 31) uv) (rB 1) df))))
def jp:List D->R D:=hG 2 jo
def lg:ap->R Fl:=(bz (eV 3 (g2 (g2 (g2 (g2 (ir 2 jp (af (rS 0) (af (rS 1) aV))) (g2 (kI 7919) (rB 1) uv) df) (kI 1) df) (kI 48271) uv) (kI 2147483647) F4)) (eC (g2 (g2 (g2 (g2 (g2 (rB 3) (rB 3) uv) (g2 (kI 7) (rB 3) uv) df) (rB 1) df) (kI 2147483629) F4) (rB 2) F4)))
def bA:List D->R D:=hG 4 lg
def mQ:ap->R Fl:=(bz (eV 2 (fun _=>.ok (.str ""))) (bz (mK (xQ (af (g2 (eP (af (kI 1) (af (kI 2) (af (kI 3) (af (kI 6) (af (kI 1) (af (kI 4) aV)))))) .list) (ir 3 bA (af (rS 0) (af (rS 1) (af (kI 6) aV)))) bJ) aV)) (bR 3) (eV 2 (g2 (rB 2) (g2 (fun _=>.ok (.str "abcdefghijklmnopqrstuvwxyz")) (ir 3 bA (af (rS 0) (af (g2 (g2 (rB 1) (kI 1) df) (rB 3) df) (af (kI 26) aV)))) bJ) df))) (eC (rS 2))))
def jg:List D->R D:=hG 4 mQ
def li:ap->R Fl:=(bz (nE 3 (fun _=>.ok (.dict []))) (bz (mK (xQ (af (ir 3 bA (af (rS 0) (af (rS 1) (af (g2 (rB 2) (kI 1) df) aV)))) aV)) (bR 4) (yT 3 (ir 2 jg (af (rS 0) (af (g2 (g2 (rB 1) (kI 1) df) (g2 (kI 8) (rB 4) uv) df) aV))) (kB true))) (eC (cO (af (cO (af (cO (af (rB 3) aV) (jD lc)) aV) (jD pc)) aV) (jD fP)))))
def lj:List D->R D:=hG 5 li
def mR:ap->R Fl:=(bz (eV 4 (g2 (rB 2) (ir 3 bA (af (rS 0) (af (g2 (rB 1) (kI 10) df) (af (cO (af (rB 2) aV) (jD nK)) aV)))) bJ)) (bz (eV 5 (g2 (rB 2) (ir 3 bA (af (rS 0) (af (g2 (rB 1) (kI 11) df) (af (cO (af (rB 2) aV) (jD nK)) aV)))) bJ)) (bz (eV 6 (g2 (rB 2) (ir 3 bA (af (rS 0) (af (g2 (rB 1) (kI 12) df) (af (cO (af (rB 2) aV) (jD nK)) aV)))) bJ)) (bz (eV 7 (Gb (eP (af (rS 4) (af (rS 5) aV)) .list) Ow (Bg (g2 (kI 1) (g2 (ir 3 bA (af (rS 0) (af (g2 (rB 1) (kI 13) df) (af (kI 3) aV)))) (kI 2) HG) df)))) (bz (nE 8 (iu 1 [7,0,1] (m7 (eP (af (rS 6) aV) .list)) (C8 (iU (g2 (rB 0) (rB 1) (Ga true))) (iU (g2 (ir 3 bA (af (rS 2) (af (g2 (rB 3) (kI 14) df) (af (kI 4) aV)))) (kI 0) (mH false)))) (rS 0))) (bz (nE 9 (iu 1 [6,0,1] (m7 (eP (af (rS 4) aV) .list)) (C8 (iU (g2 (rB 0) (rB 1) (mH true))) (iU (g2 (ir 3 bA (af (rS 2) (af (g2 (rB 3) (kI 15) df) (af (kI 3) aV)))) (kI 0) (mH false)))) (rS 0))) (bz (Rt 8 (Rt 9 (nE 10 (iu 1 [] (m7 (eP (af (rS 7) (af (rS 8) (af (eP (af (rS 6) aV) .list) (af (rS 9) aV)))) .tuple)) kT (cO (af (ma (tf (rB 0))) aV) (jD fP)))))) (eC (eP (af (rS 3) (af (g2 (rB 10) (kI 0) bJ) (af (g2 (rB 10) (kI 1) bJ) (af (g2 (rB 10) (kI 2) bJ) (af (g2 (rB 10) (kI 3) bJ) (af (ir 3 bA (af (rS 0) (af (rS 1) (af (kI 5) aV)))) aV)))))) .tuple)))))))))
def mS:List D->R D:=hG 11 mR
def gS:ap->R Fl:=(bz (f_ (C8 (iU (g2 (rB 2) (eP aV .tuple) (mH true))) (iU (g2 (ir 3 bA (af (rS 0) (af (kI 97) (af (kI 2) aV)))) (kI 0) (mH false)))) (eC (ir 4 mS (af (rS 0) (af (rS 1) (af (rS 2) (af (rS 3) aV)))))) (fun ρ=>.ok (.nx ρ))) (bz (Ln 4) (bz (mK (HP (af (rS 2) aV)) (mI 2 (cJ (bR 5) (cJ (bR 6) oB))) (bz (eV 7 (ir 3 bA (af (rS 0) (af (g2 (g2 (rB 1) (kI 10) df) (rB 5) df) (af (kI 8) aV))))) (bz (f_ (iU (g2 (rB 7) (kI 3) G9)) (md 4 (g2 (eP (af (kI 0) (af (kI 0) (af (kI 1) aV))) .list) (rB 7) bJ) (rS 6)) (fun ρ=>.ok (.nx ρ))) (bz (eV 7 (ir 3 bA (af (rS 0) (af (g2 (g2 (rB 1) (kI 20) df) (rB 5) df) (af (kI 8) aV))))) (f_ (iU (g2 (rB 7) (kI 4) G9)) (md 4 (g2 (eP (af (kI 2) (af (kI 2) (af (kI 3) (af (kI 3) aV)))) .list) (rB 7) bJ) (rS 6)) (fun ρ=>.ok (.nx ρ))))))) (bz (fun ρ=>(nE 8 (iu 1 [] (m7 (rB 4)) kT (cO (af (rB 0) aV) (jD fP)))) (d_ ρ)) (eC (eP (af (rS 3) (af (g2 (rB 8) (kI 0) bJ) (af (g2 (rB 8) (kI 1) bJ) (af (g2 (rB 8) (kI 2) bJ) (af (g2 (rB 8) (kI 3) bJ) (af (ir 3 bA (af (rS 0) (af (rS 1) (af (kI 5) aV)))) aV)))))) .tuple))))))
def gT:List D->R D:=hG 9 gS
def kA:ap->R Fl:=(bz (eV 4 (ir 3 lj (af (rS 0) (af (rS 1) (af (rS 2) aV))))) (bz (nE 5 (fun _=>.ok (.dict []))) (bz (mK (xQ (af (ir 3 bA (af (rS 0) (af (g2 (rB 1) (kI 60) df) (af (g2 (rB 3) (kI 1) df) aV)))) aV)) (bR 6) (bz (eV 7 (ir 2 jg (af (rS 0) (af (g2 (g2 (rB 1) (kI 70) df) (g2 (kI 40) (rB 6) uv) df) aV)))) (yT 5 (rS 7) (ir 4 gT (af (rS 0) (af (g2 (g2 (rB 1) (kI 80) df) (g2 (kI 40) (rB 6) uv) df) (af (rS 4) (af (rS 7) aV)))))))) (bz (eV 8 (cO (af (rB 5) aV) (jD lc))) (bz (eV 9 (ir 3 bA (af (rS 0) (af (g2 (rB 1) (kI 61) df) (af (g2 (cO (af (rB 8) aV) (jD nK)) (kI 1) df) aV))))) (eC (eP (af (rS 4) (af (cO (af (iu 1 [5] (m7 (g2 (Gb (rB 8) (Bg (rS 9)) Ow) (Gb (rB 8) Ow (Bg (rS 9))) df)) kT (g2 (rB 1) (rB 0) bJ)) aV) (jD fP)) aV)) .tuple)))))))
def kC:List D->R D:=hG 10 kA
def mT:ap->R Fl:=(bz (eV 1 (g2 (g2 (g2 (rB 0) (kI 0) bJ) (fun _=>.ok (.str " ")) iX) (cO (af (g2 (rB 0) (kI 5) bJ) aV) (jD IY)) iX)) (bz (mK (DT (af (eP (af (fun _=>.ok (.str "needs")) (af (fun _=>.ok (.str "bars")) (af (fun _=>.ok (.str "makes")) (af (fun _=>.ok (.str "ends")) aV)))) .list) (af (Gb (rB 0) (Bg (kI 1)) (Bg (kI 5))) aV))) (mI 2 (cJ (bR 2) (cJ (bR 3) oB))) (f_ (iU (g2 (rB 3) (eP aV .tuple) (mH true))) (bz (eV 1 (g2 (g2 (rB 1) (fun _=>.ok (.str ", ")) iX) (rB 2) iX)) (nF 3 (bR 4) (eV 1 (g2 (g2 (rB 1) (fun _=>.ok (.str " ")) iX) (rB 4) iX)))) (fun ρ=>.ok (.nx ρ)))) (eC (rS 1))))
def kE:List D->R D:=hG 5 mT
def mU:ap->R Fl:=(H_ Rw (eC (ir 1 mP (af (rS 0) aV))))
def kF:List D->R D:=hG 2 mU
def DU:ap->R Fl:=(bz (eV 1 (ir 4 kC (af (rS 0) (af (kI 100) (af (kI 6) (af (kI 6) aV)))))) (bz (eV 2 (fun _=>.ok (.str "facts"))) (bz (mK (m7 (g2 (rB 1) (kI 0) bJ)) (bR 3) (eV 2 (g2 (g2 (rB 2) (fun _=>.ok (.str " ")) iX) (rB 3) iX))) (bz (mK (m7 (g2 (rB 1) (kI 1) bJ)) (bR 4) (eV 2 (g2 (g2 (rB 2) (fun _=>.ok (.str "\n")) iX) (ir 1 kE (af (rS 4) aV)) iX))) (eC (tY (g2 (ir 1 rP (af (rS 1) aV)) (rB 2) (mH false)) (g2 (ir 1 kF (af (rS 2) aV)) (rB 1) (mH false))))))))
def F_law:List D->R D:=hG 5 DU
end
end Z
section
set_option hygiene false
namespace Z
open PySem L2 J
local macro_rules | `(tactic| walk_at "zz") => `(tactic| simp only [QH, LD, QI, QJ, QK, xR, oH, Ax, Lu, I9, Cv, Ia, MT, Qn, DG, Ay, DH, Az, AA, AB, Ib, Ic, Ie, DI, Qp, MV, MW, Ig, MX, Ih, MY, Qs, Ii, MZ, Ij, DJ, Ik, DK, N1, Il, DL, Im, Io, Ip, Is, AC, AD, N5, Iu, DM, Iv, Qx, N7, N8, Iw, N9, Ix, Iy, Na, Nb, Iz, QB, IA, IB, Nc, Nd, IC, Lw, ID, Nf, Ng, IE, DN, DO, Nj, xT, xU, xV, IF, QD, IH, II, IJ, IK, IL, IM, xX, i6, df, uv, F4, HG, Cc, G9, MI, P7, F5, nK, am, dH, aD, eR, au, nC, jY, Eu, Ev, sw, sx, Nat.reduceSub, Nat.reduceAdd, Kk, Kl, Nat.sub_self, if_true, if_false, ite_true, ite_false, bg, decide_true, decide_false, cond_true, cond_false, ip, gX, al, bT, BG, Int.reduceLE, Int.reduceAdd, Int.reduceMul, Nat.reduceLT, Int.reduceNeg, reduceIte])
local macro_rules | `(tactic| walk_at "yy") => `(tactic| simp only [QH, LD, QI, QJ, QK, xR, oH, Ax, MT, Qn, DG, Ay, DH, Az, AA, AB, Ib, Ic, Ie, DI, Qp, MV, MW, Ig, MX, Ih, MY, Qs, Ii, MZ, Ij, DJ, Ik, DK, N1, Il, DL, Im, Io, Ip, Is, AC, AD, N5, Iu, DM, Iv, Qx, N7, N8, Iw, N9, Ix, Iy, Na, Nb, Iz, QB, IA, IB, Nc, Nd, IC, Lw, ID, Nf, Ng, IE, DN, DO, Nj, xT, xU, xV, IF, QD, IH, II, IJ, IK, IL, IM, xX, i6, df, nK, am, dH, aD, eR, au, nC, jY, Eu, Ev, sw, sx, Nat.reduceSub, Nat.reduceAdd, Kk, Kl, Nat.sub_self, if_true, if_false, ite_true, ite_false, bg, decide_true, decide_false, cond_true, cond_false, ip, gX, al, bT, BG, Int.reduceLE, Int.reduceAdd, Int.reduceMul, Nat.reduceLT, Int.reduceNeg, reduceIte])
theorem cn {n:Nat}{g:ap->R Fl}{ds:List D}{d:D} (h:g (bF n ds)=.ok (.rt d)):hG n g ds=.ok d:=by unfold hG;rw [h]
theorem IZ {n:Nat}{g:ap->R Fl}{ds:List D}{c:Str}{m:Option D} (h:g (bF n ds)=.ex c m):hG n g ds=.ex c m:=by unfold hG;rw [h]
def DV (ns:List Int) (k:Int):Int:=if k<ns.length then ns.getD k.toNat 0 else if ns=[] then 0 else ns.getD (k % ns.length).toNat 0*31+k
theorem I_ (ns:List Int):cy (ns.map .int)=true:=by
 induction ns with
 |nil=>rfl
 |cons x r ih=>simp [cy,eF,ih]
theorem LS (ns:List Int):bf (.list (ns.map .int)) (.list [])=decide (ns=[]):=by
 cases ns with
 |nil=>rfl
 |cons x r=>simp [bf,i7]
theorem OM (ns:List Int):mH false (.list (ns.map .int)) (.list [])=.ok (.bool (decide (ns=[]))):=by
 unfold mH
 have h1:(iE (ns.map .int)).canLay0=true:=by simp only [eF];exact I_ ns
 have h2:(iE []).canLay0=true:=rfl
 have h3:min (iE (ns.map .int)).depth (iE []).depth<=60:=bv (uT _ _) (by decide)
 rw [h1,h2,decide_eq_true h3,LS]
 rfl
theorem ON (ns:List Int) (k:Int) (h0:0<=k) (h1:k<ns.length):Be (ns.map eG) k=some (.int (ns.getD k.toNat 0)):=by
 have hk:k.toNat<ns.length:=by omega
 have:=rh (xs:=ns.map eG) (j:=k.toNat) (v:=.int (ns.getD k.toNat 0)) (by rw [aF,b9 hk];simp [hk])
 rwa [cb h0] at this
theorem J0 (ns:List Int) (k:Int) (h0:0<=k) (h1:k<ns.length):bJ (.list (ns.map .int)) (.int k)=.ok (.int (ns.getD k.toNat 0)):=by
 have e:∀ xs k,bJ (.list xs) k=F6 (.list xs) k:=fun _ _=>rfl
 rw [e]
 unfold F6
 simp only [ON ns k h0 h1]
theorem DW {i j:Int} (h1:-(2 ^ 64)<j) (h2:j<2 ^ 64):xK i j=true:=by
 unfold xK
 simp only [jX,aC,decide_eq_true_eq]
 exact .inr ⟨h1,h2⟩
theorem pq {i j:Int} (h1:-(2 ^ 64)<i) (h2:i<2 ^ 64):xK i j=true:=by
 unfold xK
 simp only [jX,aC,decide_eq_true_eq]
 exact .inl ⟨h1,h2⟩
theorem LU (ns:List Int) (k:Int) (hk:0<=k):jp [.list (ns.map .int),.int k]=.ok (.int (DV ns k)):=by
 unfold jp
 refine cn ?_
 unfold jo bF DV
 walk_at "zz"
 by_cases h:k<ns.length
 ·simp only [h,decide_true,cond_true,if_true,J0 ns k hk h,bind_ok]
  walk_at "zz"
 ·simp only [h,decide_false,cond_false,if_false]
  walk_at "zz"
  rw [OM]
  walk_at "zz"
  by_cases h2:ns=[]
  ·simp only [h2,decide_true,cond_true,if_true]
   walk_at "zz"
  ·have hl:(0:Int)<ns.length:=by have:0<ns.length:=List.length_pos_iff.mpr h2;omega
   simp only [h2,decide_false,cond_false,if_false,hl,decide_true]
   walk_at "zz"
   simp only [h2,decide_false,cond_false,if_false,hl,decide_true,if_true]
   walk_at "zz"
   rw [J0 ns _ (wF _ (by omega)) (sQ _ hl)]
   walk_at "zz"
   rw [DW (by decide) (by decide)]
   walk_at "zz"
def vO (ns:List Int) (k:Int):Int:=(DV ns k+7919*k+1)*48271 % 2147483647
def fD (ns:List Int) (k m:Int):Int:=(vO ns k*vO ns k+7*vO ns k+k) % 2147483629 % m
theorem eX (ns:List Int) (k m:Int) (h:0<m):0<=fD ns k m:=wF _ (by omega)
theorem fY (ns:List Int) (k m:Int) (h:0<m):fD ns k m<m:=sQ _ h
theorem gG (ns:List Int) (k m:Int) (hk:0<=k) (hm:0<m):bA [.list (ns.map .int),.int k,.int m]=.ok (.int (fD ns k m)):=by
 have d0:0<=vO ns k:=wF _ (by decide)
 have d1:vO ns k<2147483647:=sQ _ (by decide)
 unfold bA
 refine cn ?_
 unfold lg bF
 walk_at "zz"
 rw [LU ns k hk]
 walk_at "zz"
 rw [pq (by decide) (by decide)]
 walk_at "zz"
 rw [DW (by decide) (by decide)]
 walk_at "zz"
 rw [show (DV ns k+7919*k+1)*48271 % 2147483647=vO ns k from rfl,pq (i:=vO ns k) (by omega) (by omega)]
 walk_at "zz"
 rw [pq (i:=7) (by decide) (by decide)]
 walk_at "zz"
 rw [decide_eq_true hm]
 walk_at "zz"
 rfl
theorem rQ {α β:Type}{kt:D->ap->R ap}{gb:ap->R Fl} (c:α->D) (f:β->α->β) (P:List α->β->ap->Prop) (h:∀ x bE b ρ,P (x::bE) b ρ->∃ ρ1 ρ',kt (c x) ρ=.ok ρ1/\gb ρ1=.ok (.nx ρ')/\P bE (f b x) ρ') :
  ∀ (xs:List α) (b:β) (ρ:ap),P xs b ρ->∃ ρ',fQ kt gb (xs.map c) ρ=.ok (.nx ρ')/\P [] (xs.foldl f b) ρ'
 |[],b,ρ,p=>⟨ρ,rfl,p⟩
 |x::r,b,ρ,p=>by
  obtain ⟨ρ1,ρ2,h1,h2,h3⟩:=h x r b ρ p
  obtain ⟨ρ3,h4,h5⟩:=rQ c f P h r (f b x) ρ2 h3
  refine ⟨ρ3,?_,h5⟩
  rw [am]
  unfold fQ
  rw [h1]
  simp only [h2]
  exact h4
theorem DX {α β:Type}{kt:D->ap->R ap}{gb hh:ap->R Fl}{r:R Fl} (c:α->D) (f:β->α->β) (P:List α->β->ap->Prop) {xs:List α} (b:β) {ρ:ap}
  (h:∀ x bE b ρ,P (x::bE) b ρ->∃ ρ1 ρ',kt (c x) ρ=.ok ρ1/\gb ρ1=.ok (.nx ρ')/\P bE (f b x) ρ') (p0:P xs b ρ) (k:∀ ρ',P [] (xs.foldl f b) ρ'->hh ρ'=r):(fQ kt gb (xs.map c) ρ).bind (Fe hh)=r:=by
 obtain ⟨ρ',e,p⟩:=rQ c f P h xs b ρ p0
 rw [e,bind_ok,oH]
 exact k ρ' p
theorem yV (n:Nat) (h:n<=1000):Cj [.int (n:Int)]=.ok ((bW n).map fun (i:Nat)=>eG (i:Int)):=by
 have e:Cj [.int (n:Int)]=.ok (oC 0 (n:Int).toNat):=Lz (by omega) (by omega)
 rw [e]
 unfold oC
 rw [j5]
 exact congrArg R.ok (ki fun a _=>congrArg eG (Int.zero_add _))
def lN (x:Str):Bool:=decide (1<=x.cps.size)&&decide (x.cps.size<=6/\x.cps.size≠5)&&x.cps.toList.all fun c=>decide (97<=c)&&decide (c<=122)
def qf (ns:List Int) (k:Int):Nat:=[1,2,3,6,1,4].getD (fD ns k 6).toNat 0
def yW (ns:List Int) (k:Int) (i:Nat):Nat:=97+(fD ns (k+1+i) 26).toNat
def jv (ns:List Int) (k:Int):Str:=⟨((bW (qf ns k)).map (yW ns k)).toArray⟩
theorem DY (ns:List Int) (k:Int):1<=qf ns k/\(qf ns k<=6/\qf ns k≠5):=by
 have h0:=eX ns k 6 (by decide)
 have h1:=fY ns k 6 (by decide)
 unfold qf
 have:∀ j:_root_.Fin 6,1<=[1,2,3,6,1,4].getD j.val 0/\([1,2,3,6,1,4].getD j.val 0<=6/\[1,2,3,6,1,4].getD j.val 0≠5):=by decide
 exact this ⟨(fD ns k 6).toNat,by omega⟩
theorem LV (ns:List Int) (k:Int) (i:Nat):97<=yW ns k i/\yW ns k i<=122:=by
 have h0:=eX ns (k+1+i) 26 (by decide)
 have h1:=fY ns (k+1+i) 26 (by decide)
 unfold yW
 omega
theorem AF (ns:List Int) (k:Int):lN (jv ns k)=true:=by
 have ⟨h1,h2⟩:=DY ns k
 unfold lN jv
 simp only [aA,au,lR,aC,decide_eq_true_eq,cc]
 refine ⟨⟨h1,h2⟩,fun c hc=>?_⟩
 obtain ⟨i,_,rfl⟩:=List.mem_map.mp hc
 exact LV ns k i
theorem J1 (j:Int) (h0:0<=j) (h1:j<26):bJ (.str "abcdefghijklmnopqrstuvwxyz") (.int j)=.ok (.str ⟨#[97+j.toNat]⟩):=by
 have e:∀ x k,bJ (.str x) k=F6 (.str x) k:=fun _ _=>rfl
 rw [e]
 unfold F6
 have hc:("abcdefghijklmnopqrstuvwxyz" : Str).cps.toList=(bW 26).map (97 + ·):=by decide +kernel
 have hl:("abcdefghijklmnopqrstuvwxyz" : Str).length<=1000:=by decide +kernel
 have hj:j.toNat<26:=by omega
 have hx:=rh (xs:=(bW 26).map (97 + ·)) (j:=j.toNat) (v:=97+j.toNat) (by rw [aF,Es hj];rfl)
 rw [cb h0] at hx
 simp only [hl,if_true,hc,hx]
theorem LW (j:Int) (h0:0<=j) (h1:j<6):bJ (.list [.int 1,.int 2,.int 3,.int 6,.int 1,.int 4]) (.int j)=.ok (.int (([1,2,3,6,1,4].getD j.toNat 0:Nat):Int)):=by
 obtain ⟨n,rfl⟩:=Int.eq_ofNat_of_zero_le h0
 have hn:n<6:=by omega
 match n,hn with
 | 0,_=>rfl
 | 1,_=>rfl
 | 2,_=>rfl
 | 3,_=>rfl
 | 4,_=>rfl
 | 5,_=>rfl
theorem yX (l:List Nat):∀ (acc:Str),l.foldl (fun (a:Str) c=>a++⟨#[c]⟩) acc=⟨(acc.cps.toList++l).toArray⟩:=by
 induction l with
 |nil=>intro acc;simp
 |cons c r ih =>
  intro acc
  rw [jZ,ih]
  show (⟨((acc.cps++#[c]).toList++r).toArray⟩:Str)=_
  simp
theorem Ft:("" : Str).cps.toList=[]:=by decide +kernel
theorem DZ (ns:List Int) (k:Int) (hk:0<=k):jg [.list (ns.map .int),.int k]=.ok (.str (jv ns k)):=by
 have h0:=eX ns k 6 (by decide)
 have h1:=fY ns k 6 (by decide)
 have ⟨w1,w2⟩:=DY ns k
 unfold jg
 refine cn ?_
 unfold mQ bF
 walk_at "zz"
 rw [xS (ds:=(bW (qf ns k)).map fun (i:Nat)=>eG i)]
 ·refine DX (fun (i:Nat)=>eG i) (fun (a:Str) i=>a++⟨#[yW ns k i]⟩) (fun bE a ρ=>a.length+bE.length<=900/\∃ z,ρ=[.shr (.list (ns.map .int)),.shr (.int k),.shr (.str a),z]) "" ?_ ⟨by rw [lR,show ("" : Str).length=0 by decide];omega,_,rfl⟩ ?_
  ·rintro i bE a ρ ⟨hl,z,rfl⟩
   simp only [aD] at hl
   refine ⟨_,[.shr (.list (ns.map .int)),.shr (.int k),.shr (.str (a++⟨#[yW ns k i]⟩)),.shr (.int i)],rfl,?_,?_,_,rfl⟩
   ·walk_at "zz"
    rw [gG ns _ 26 (by omega) (by decide)]
    walk_at "zz"
    rw [J1 _ (eX _ _ _ (by decide)) (fY _ _ _ (by decide))]
    walk_at "zz"
    have hz:a.length+(⟨#[97+(fD ns (k+1+i) 26).toNat]⟩:Str).length<=1000:=by
     show a.length+1<=1000
     omega
    rw [if_pos hz]
    walk_at "zz"
    rw [show 97+(fD ns (k+1+i) 26).toNat=yW ns k i from rfl]
   ·show (a.cps++#[_]).size+bE.length<=900
    rw [Array.size_append]
    show a.cps.size+1+bE.length<=900
    have:a.length=a.cps.size:=rfl
    omega
  ·rintro ρ' ⟨_,z,rfl⟩
   walk_at "zz"
   have:(bW (qf ns k)).foldl (fun (a:Str) i=>a++⟨#[yW ns k i]⟩) ""=jv ns k:=by
    have:=yX ((bW (qf ns k)).map (yW ns k)) ""
    rw [xo] at this
    rw [this,Ft]
    unfold jv
    rw [jY]
   rw [this]
 ·walk_at "zz"
  rw [gG ns k 6 hk (by decide)]
  walk_at "zz"
  have et:=LW (fD ns k 6) h0 h1
  have ew:[1,2,3,6,1,4].getD (fD ns k 6).toNat 0=qf ns k:=rfl
  rw [ew] at et
  rw [et]
  walk_at "zz"
  rw [yV (qf ns k) (by omega)]
def jR (l:List (Str×D)):List (D×D):=l.map fun p=>(.str p.1,p.2)
def rR (l:List (Str×D)) (x:Str) (d:D):List (Str×D):=if l.any (fun p=>decide (p.1=x)) then l.map (fun p=>if p.1=x then (p.1,d) else p) else l++[(x,d)]
theorem jS (x y:Str):bf (.str x) (.str y)=decide (x=y):=by
 show (x==y)=_
 rw [oY]
theorem LX (l:List (Str×D)) (x:Str) (d:D):Fb (jR l) (.str x) d=jR (rR l x d):=by
 unfold Fb rR jR
 rw [List.any_map]
 have e:((fun kv:D×D=>bf kv.1 (.str x))∘fun p:Str×D=>(av p.1,p.2))=fun p=>decide (p.1=x):=by
  funext p
  exact jS p.1 x
 rw [e]
 split
 ·rw [cB,cB]
  apply ki
  intro p _
  simp only [Function.comp,jS]
  by_cases h:p.1=x
  ·simp [h]
  ·simp [h]
 ·simp
theorem vP (l:List (Str×D)):fG (jR l)=true:=by
 unfold fG jR
 rw [List.all_map,cc]
 intro p _
 rfl
theorem AG (l:List (Str×D)) (x:Str) (d:D):(rR l x d).length<=l.length+1:=by
 unfold rR
 split<;>simp
theorem x_ (l:List (Str×D)) (x:Str) (d:D):(rR l x d).map (·.1)=if x∈l.map (·.1) then l.map (·.1) else l.map (·.1)++[x]:=by
 unfold rR
 have e:(l.any fun p=>decide (p.1=x))=decide (x∈l.map (·.1)):=by
  rw [fS]
  simp only [uz,decide_eq_true_eq,Bc]
 rw [e]
 by_cases h:x∈l.map (·.1)
 ·rw [decide_eq_true h,if_pos rfl,if_pos h,cB]
  apply ki
  intro p _
  by_cases hp:p.1=x<;>simp [hp]
 ·rw [decide_eq_false h,if_neg aU,if_neg h,fV]
  rfl
theorem J2 {Q:Str->D->Prop}{l:List (Str×D)}{x:Str}{d:D} (h:∀ p∈l,Q p.1 p.2) (hx:Q x d):∀ p∈rR l x d,Q p.1 p.2:=by
 unfold rR
 split
 ·intro p hp
  obtain ⟨p',hp',rfl⟩:=List.mem_map.mp hp
  by_cases e:p'.1=x
  ·rw [if_pos e];rw [e];exact hx
  ·rw [if_neg e];exact h p' hp'
 ·intro p hp
  rcases List.mem_append.mp hp with hp|hp
  ·exact h p hp
  ·rw [List.mem_singleton.mp hp];exact hx
theorem Fu {l:List Str}{x:Str} (h:l.Nodup):(if x∈l then l else l++[x]).Nodup:=by
 by_cases hx:x∈l
 ·rw [if_pos hx];exact h
 ·rw [if_neg hx];exact Dl h hx
theorem Nt {i:Nat}{gk g:ap->R D}{ρ:ap}{l:List (Str×D)}{x:Str}{d:D} (hi:ρ[i]?=some (Sl.own (.dict (jR l)))) (hg:g ρ=.ok d) (hk:gk ρ=.ok (.str x)) (hl:l.length<1000):yT i gk g ρ=.ok (.nx (ρ.set i (.own (.dict (jR (rR l x d)))))):=by
 have hl':(jR l).length<1000:=by unfold jR;rw [au];exact hl
 have e:yT i gk g ρ=(g ρ).bind fun d=>(gk ρ).bind fun k=>match tZ k with
  |some _=>if (jR l).length<1000/\fG (jR l)=true then .ok (.nx (ρ.set i (.own (.dict (Fb (jR l) k d))))) else .no
  |none=>.no:=by
  unfold yT
  simp only [hi]
  try rfl
 rw [e,hg,i6,hk,i6]
 simp only [tZ,if_pos (uX hl' (vP l)),LX]
theorem AH (l:List (Str×D)):lc (.dict (jR l))=.ok (.list ((l.map (·.1)).map .str)):=by
 have e:∀ kvs,lc (.dict kvs)=if fG kvs=true then .ok (.list (kvs.map (·.1))) else .no:=fun _=>rfl
 rw [e,if_pos (vP l)]
 unfold jR
 rw [cB,cB]
 rfl
theorem sorted_strs (ss:List Str) (h:ss.length<64):pc (.list (ss.map .str))=.ok (.list ((j4 ss).map .str)):=by
 have e:∀ ds,pc (.list ds)=match eg ds with
  |some ss=>if ss.length<64 then .ok (.list ((j4 ss).map .str)) else .no
  |none=>.no:=fun _=>rfl
 rw [e,strsOf_map]
 simp only [if_pos h]
theorem dU (ds:List D):fP (.list ds)=.ok (.tuple ds):=id rfl
def yY (ns:List Int) (k:Int) (n:Nat):List Str:=(bW n).map fun (i:Nat)=>jv ns (k+1+8*(i:Int))
def yZ (ns:List Int) (k m:Int):List Str:=j4 (dE [] (yY ns k (fD ns k (m+1)).toNat))
structure J4 (fs:List Str) (n:Nat):Prop where
 ok:∀ x∈fs,lN x=true
 up:fs.Pairwise fun a b=>lZ a b=true
 len:fs.length<=n
theorem J5 {α:Type}{a b:List α} (h:a.Perm b):a.length=b.length:=h.length_eq
theorem Cz (ns:List Int) (k m:Int) (hm:0<=m):J4 (yZ ns k m) m.toNat:=by
 have h0:=eX ns k (m+1) (by omega)
 have h1:=fY ns k (m+1) (by omega)
 have hp:=ig (dE [] (yY ns k (fD ns k (m+1)).toNat))
 refine ⟨fun x hx=>?_,?_,?_⟩
 ·have hx:=hp.mem_iff.mp hx
  rw [lY] at hx
  rcases hx with hx|hx
  ·cases hx
  ·obtain ⟨i,_,rfl⟩:=List.mem_map.mp hx
   exact AF _ _
 ·exact xH (rE _) (hp.nodup_iff.mpr (l8 _ [] kZ))
 ·unfold yZ
  rw [J5 hp]
  have:=jM (yY ns k (fD ns k (m+1)).toNat) []
  unfold yY at this ⊢
  simp at this
  omega
theorem Fv (f:Nat->Str) (l:List Nat):∀ acc:List (Str×D),((l.foldl (fun (a:List (Str×D)) i=>rR a (f i) (.bool true)) acc).map (·.1))=dE (acc.map (·.1)) (l.map f):=by
 induction l with
 |nil=>intro acc;rfl
 |cons i r ih =>
  intro acc
  rw [jZ,ih,am,x_]
  rfl
theorem J6 (ns:List Int) (k m:Int) (hk:0<=k) (hm:0<=m) (hm2:m<=20):lj [.list (ns.map .int),.int k,.int m]=.ok (.tuple ((yZ ns k m).map .str)):=by
 have h0:=eX ns k (m+1) (by omega)
 have h1:=fY ns k (m+1) (by omega)
 unfold lj
 refine cn ?_
 unfold li bF
 walk_at "zz"
 rw [xS (ds:=(bW (fD ns k (m+1)).toNat).map fun (i:Nat)=>eG i)]
 ·refine DX (fun (i:Nat)=>eG i) (fun (a:List (Str×D)) i=>rR a (jv ns (k+1+8*(i:Int))) (.bool true)) (fun bE a ρ=>a.length+bE.length<=60/\∃ z,ρ=[.shr (.list (ns.map .int)),.shr (.int k),.shr (.int m),.own (.dict (jR a)),z]) [] ?_ ⟨by simp;omega,_,rfl⟩ ?_
  ·rintro i bE a ρ ⟨hl,z,rfl⟩
   simp only [aD] at hl
   refine ⟨_,[.shr (.list (ns.map .int)),.shr (.int k),.shr (.int m),.own (.dict (jR (rR a (jv ns (k+1+8*(i:Int))) (.bool true)))),.shr (.int i)],rfl,?_,?_,_,rfl⟩
   ·refine (Nt (l:=a) (x:=jv ns (k+1+8*(i:Int))) (d:=.bool true) rfl rfl ?_ (by omega)).trans rfl
    walk_at "zz"
    rw [pq (by decide) (by decide)]
    walk_at "zz"
    rw [DZ ns _ (by omega)]
   ·have:=AG a (jv ns (k+1+8*(i:Int))) (.bool true)
    omega
  ·rintro ρ' ⟨hl,z,rfl⟩
   simp only [eR] at hl
   walk_at "zz"
   rw [AH]
   walk_at "zz"
   have ek:=Fv (fun i=>jv ns (k+1+8*(i:Int))) (bW (fD ns k (m+1)).toNat) []
   rw [ek,sorted_strs]
   ·walk_at "zz"
    rw [dU]
    walk_at "zz"
    rfl
   ·rw [<- ek,au];omega
 ·walk_at "zz"
  rw [gG ns k (m+1) hk (by omega)]
  walk_at "zz"
  have:=yV (fD ns k (m+1)).toNat (by omega)
  rw [cb h0] at this
  exact this
structure oK where
 name:Str
 needs:List Str
 bars:List Str
 makes:List Str
 ends:List Str
 price:Int
abbrev bu (xs:List Str):D:=.tuple (xs.map .str)
def eN (e:oK):D:=.tuple [.str e.name,bu e.needs,bu e.bars,bu e.makes,bu e.ends,.int e.price]
structure Fx (fs xs:List Str):Prop where
 up:xs.Pairwise fun a b=>lZ a b=true
 mem:∀ x∈xs,x∈fs
structure jK (fs:List Str) (e:oK):Prop where
 name:lN e.name=true
 needs:Fx fs e.needs
 bars:Fx fs e.bars
 makes:Fx fs e.makes
 ends:Fx fs e.ends
 nb:∀ x∈e.needs,x∉e.bars
 me:∀ x∈e.makes,x∉e.ends
 p0:0<=e.price
 p9:e.price<=9
def D_ (xs:List Str):List Str:=j4 (dE [] xs)
theorem pw {xs:List Str}{x:Str}:x∈D_ xs↔x∈xs:=by
 unfold D_
 rw [(ig _).mem_iff,lY]
 simp
theorem OO (xs:List Str):(D_ xs).Pairwise fun a b=>lZ a b=true:=xH (rE _) ((ig _).nodup_iff.mpr (l8 _ [] kZ))
theorem uI {fs xs:List Str} (h:∀ x∈xs,x∈fs):Fx fs (D_ xs):=⟨OO xs,fun x hx=>h x (pw.mp hx)⟩
theorem y_ (fs:List Str) (j:Int) (h0:0<=j) (h1:j<fs.length):∃ x,x∈fs/\bJ (bu fs) (.int j)=.ok (.str x):=by
 have hj:j.toNat<fs.length:=by omega
 refine ⟨fs[j.toNat],jy hj,?_⟩
 have e:∀ xs k,bJ (.tuple xs) k=F6 (.tuple xs) k:=fun _ _=>rfl
 rw [e]
 have hx:=rh (xs:=fs.map av) (j:=j.toNat) (v:=.str fs[j.toNat]) (by rw [aF,b9 hj];rfl)
 rw [cb h0] at hx
 unfold F6
 simp only [hx]
theorem vQ (x:Str):∀ ys:List Str,((ys.map av).any fun y=>bf y (.str x))=decide (x∈ys)
 |[]=>rfl
 |y::r=>by
  rw [am,eu,vQ x r,jS]
  by_cases h:y=x
  ·subst h;simp
  ·simp [h,e6 h]
theorem vR (ys:List Str):(ys.map av).all jJ=true:=by
 rw [List.all_map,cc];intro _ _;rfl
theorem LY (neg:Bool) (x:Str) (ys:List Str):Ga neg (.str x) (.list (ys.map .str))=.ok (.bool (if neg then !decide (x∈ys) else decide (x∈ys))):=by
 have e:Ga neg (.str x) (.list (ys.map .str))=if jJ (.str x)&&(ys.map av).all jJ then .ok (.bool (if neg then !((ys.map av).any fun y=>bf y (.str x)) else (ys.map av).any fun y=>bf y (.str x))) else .no:=rfl
 rw [e,vR,vQ]
 rfl
theorem z0 (neg:Bool) (x:Str) (ys:List Str):Ga neg (.str x) (bu ys)=.ok (.bool (if neg then !decide (x∈ys) else decide (x∈ys))):=by
 have e:Ga neg (.str x) (bu ys)=if jJ (.str x)&&(ys.map av).all jJ then .ok (.bool (if neg then !((ys.map av).any fun y=>bf y (.str x)) else (ys.map av).any fun y=>bf y (.str x))) else .no:=rfl
 rw [e,vR,vQ]
 rfl
theorem kG (neg:Bool) (a b:Int):mH neg (.int a) (.int b)=.ok (.bool (if neg then !decide (a=b) else decide (a=b))):=by
 have e:mH neg (.int a) (.int b)=.ok (.bool (if neg then !(a==b) else (a==b))):=rfl
 rw [e,oY]
theorem rT {x:Str} (h:lN x=true):(av x).canLay0=true:=by
 unfold lN at h
 simp only [aC,cc,decide_eq_true_eq] at h
 show cz x=true
 unfold cz
 rw [<- mC,cc]
 intro c hc
 have:=h.2 c hc
 exact decide_eq_true (by omega)
theorem LZ (neg:Bool) {x y:Str} (hx:lN x=true) (hy:lN y=true):mH neg (.str x) (.str y)=.ok (.bool (if neg then !decide (x=y) else decide (x=y))):=by
 unfold mH
 rw [rT hx,rT hy,jS]
 rfl
theorem CA (ss:List Str) (h:ss.length<60):vE (.list (ss.map .str))=.ok (dE [] ss):=by
 have e:∀ ds,vE (.list ds)=match eg ds with
  |some ss=>if ss.length<60 then .ok (dE [] ss) else .no
  |none=>.no:=fun _=>rfl
 rw [e,strsOf_map]
 simp only [if_pos h]
theorem L_ (g:ap->R D) (s:Sl) (ρ:ap):tf g (s::ρ)=(g (s::ρ)).bind vE:=id rfl
def Nu:List Str->R D:=fun ss=>if ss.length<64 then .ok (.list ((j4 ss).map .str)) else .no
theorem Fy (g:ap->R (List Str)) (s:Sl) (ρ:ap):ma g (s::ρ)=(g (s::ρ)).bind Nu:=id rfl
theorem J7 (ss:List Str) (h:ss.length<64):Nu ss=.ok (.list ((j4 ss).map .str)):=if_pos h
theorem Fz (ss:List Str) (h:ss.length<60) (ρ:ap):(cO (J.af (ma (tf (rB 0))) J.aV) (jD fP)) (.shr (.list (ss.map .str))::ρ)=.ok (bu (D_ ss)):=by
 walk_at "zz"
 rw [Fy,L_]
 walk_at "zz"
 rw [CA ss h]
 walk_at "zz"
 rw [J7 _ (by have:=jM ss [];simp at this;omega)]
 walk_at "zz"
 rw [dU]
 rfl
theorem AI {ρ:ap}{gt:ap->R Bool}{x:Str}{b:Bool}{s:Sl}{r:ap} (hρ:ρ=s::r) (h:gt (.shr (.str x)::r)=.ok b):gE (i5 1 ρ gt (rS 0)) [.str x]=.ok ((if b then [x] else []).map .str):=by
 subst hρ
 have e:=Ly (ρ:=s::r) (gt:=gt) (ge:=(rS 0)) (d:=.str x) (y:=.str x) (b:=b) h fun _=>rfl
 unfold gE
 rw [e,i6]
 unfold gE
 rw [i6]
 cases b<;>rfl
theorem OP (p q r t:List Str) (hp:p.length<60) (hq:q.length<60) (hr:r.length<60) (ht:t.length<60):gE (i5 1 [Sl.no] kT (cO (J.af (ma (tf (rB 0))) J.aV) (jD fP))) [.list (p.map .str),.list (q.map .str),.list (r.map .str),.list (t.map .str)]=.ok [bu (D_ p),bu (D_ q),bu (D_ r),bu (D_ t)] :=
 cf _ (fun ss:List Str=>iE (ss.map .str)) (fun ss=>bu (D_ ss)) [p,q,r,t] fun ss hs=>c_ rfl (Fz ss (by simp at hs;rcases hs with h|h|h|h<;>(rw [h];assumption)) _)
theorem Nv (a b c d:D):bJ (.list [a,b,c,d]) (.int 0)=.ok a:=id rfl
theorem Nw (a b c d:D):bJ (.list [a,b,c,d]) (.int 1)=.ok b:=id rfl
theorem Nx (a b c d:D):bJ (.list [a,b,c,d]) (.int 2)=.ok c:=id rfl
theorem Ny (a b c d:D):bJ (.list [a,b,c,d]) (.int 3)=.ok d:=id rfl
theorem M0 (ns:List Int) (k:Int) (hk:0<=k) (fs:List Str) (hf:∀ x∈fs,lN x=true) (h0:0<fs.length) (nm:Str) (hn:lN nm=true) :
  ∃ e,mS [.list (ns.map .int),.int k,bu fs,.str nm]=.ok (eN e)/\jK fs e/\e.name=nm:=by
 have hl:(0:Int)<(fs.length:Int):=by omega
 obtain ⟨a,ha,ea⟩:=y_ fs (fD ns (k+10) fs.length) (eX _ _ _ hl) (fY _ _ _ hl)
 obtain ⟨b,hb,eb⟩:=y_ fs (fD ns (k+11) fs.length) (eX _ _ _ hl) (fY _ _ _ hl)
 obtain ⟨c,hc,ec⟩:=y_ fs (fD ns (k+12) fs.length) (eX _ _ _ hl) (fY _ _ _ hl)
 have m13a:=eX ns (k+13) 3 (by decide)
 have m13b:=fY ns (k+13) 3 (by decide)
 obtain ⟨nd,hnd,hnl,end_⟩:∃ nd:List Str,(∀ x∈nd,x∈fs)/\nd.length<60/\Cf (.list [.str a,.str b]) none (some (1+fD ns (k+13) 3 / 2))=.ok (.list (nd.map .str)):=by
  by_cases h2:fD ns (k+13) 3=2
  ·exact ⟨[a,b],by simp [ha,hb],by simp,by rw [h2];rfl⟩
  ·have:fD ns (k+13) 3 / 2=0:=by omega
   exact ⟨[a],by simp [ha],by simp,by rw [this];rfl⟩
 let bb:Bool:=!decide (c∈nd)&&decide (fD ns (k+14) 4=0)
 let be:Bool:=!decide (a=c)&&decide (fD ns (k+15) 3=0)
 have p0:=eX ns k 5 (by decide)
 have p1:=fY ns k 5 (by decide)
 refine ⟨⟨nm,D_ nd,D_ (if bb then [c] else []),D_ [c],D_ (if be then [a] else []),fD ns k 5⟩,?_,⟨hn,uI hnd,uI ?_,uI (by simp [hc]),uI ?_,fun x h1 h2=>?_,fun x h1 h2=>?_,p0,by show fD ns k 5<=9;omega⟩,rfl⟩
 ·unfold mS
  refine cn ?_
  unfold mR bF
  walk_at "zz"
  rw [gG ns _ _ (by omega) hl]
  walk_at "zz"
  rw [ea]
  walk_at "zz"
  rw [gG ns (k+11) _ (by omega) hl]
  walk_at "zz"
  rw [eb]
  walk_at "zz"
  rw [gG ns (k+12) _ (by omega) hl]
  walk_at "zz"
  rw [ec]
  walk_at "zz"
  rw [gG ns (k+13) 3 (by omega) (by decide)]
  walk_at "zz"
  simp only [BG,decide_true,io,if_true]
  walk_at "zz"
  rw [end_]
  walk_at "zz"
  rw [AI (b:=bb) rfl]
  ·walk_at "zz"
   rw [AI (b:=be) rfl]
   ·walk_at "zz"
    simp only [Rt]
    rw [IN rfl,IN rfl]
    walk_at "zz"
    have pk:=OP nd (if bb then [c] else []) [c] (if be then [a] else []) hnl (by cases bb<;>simp) (by simp) (by cases be<;>simp)
    rw [show ([c].map av)=[av c] from rfl] at pk
    rw [pk]
    walk_at "zz"
    rw [Nv]
    walk_at "zz"
    rw [Nw]
    walk_at "zz"
    rw [Nx]
    walk_at "zz"
    rw [Ny]
    walk_at "zz"
    rw [gG ns k 5 hk (by decide)]
    walk_at "zz"
    rfl
   ·walk_at "zz"
    rw [LZ true (hf a ha) (hf c hc)]
    walk_at "zz"
    by_cases hac:a=c
    ·simp only [be,hac,decide_true,ip,xg,if_true,cond_false]
    ·simp only [be,hac,decide_false,gX,q_,if_true,cond_true]
     rw [gG ns (k+15) 3 (by omega) (by decide)]
     walk_at "zz"
     rw [kG]
     walk_at "zz"
  ·walk_at "zz"
   rw [LY]
   walk_at "zz"
   by_cases hcn:c∈nd
   ·simp only [bb,hcn,decide_true,ip,xg,if_true,cond_false]
   ·simp only [bb,hcn,decide_false,gX,q_,if_true,cond_true]
    rw [gG ns (k+14) 4 (by omega) (by decide)]
    walk_at "zz"
    rw [kG]
    walk_at "zz"
 ·intro x hx
  cases hbb:bb
  ·simp [hbb] at hx
  ·simp [hbb] at hx;rw [hx];exact hc
 ·intro x hx
  cases hbe:be
  ·simp [hbe] at hx
  ·simp [hbe] at hx;rw [hx];exact ha
 ·have h2:x∈(if bb then [c] else []):=pw.mp h2
  cases hbb:bb
  ·simp [hbb] at h2
  ·simp [hbb] at h2
   subst h2
   have:(!decide (x∈nd))=true:=by
    have:(!decide (x∈nd)&&decide (fD ns (k+14) 4=0))=true:=hbb
    simp only [aC] at this
    exact this.1
   simp at this
   exact this (pw.mp h1)
 ·cases hbe:be
  ·have h2:x∈(if be then [a] else []):=pw.mp h2
   simp [hbe] at h2
  ·skip
   have h4:x∈[c]:=pw.mp h1
   have h5:x∈(if be then [a] else []):=pw.mp h2
   simp only [dC] at h4
   simp only [hbe,if_true,dC] at h5
   have:(!decide (a=c)&&decide (fD ns (k+15) 3=0))=true:=hbe
   simp only [aC] at this
   have h3:=this.1
   simp at h3
   exact h3 (h5.symm.trans h4)
theorem z9 {i:Nat}{gi g:ap->R D}{ρ:ap}{dss:List (List D)}{ds:List D}{d:D}{j:Int} (hi:ρ[i]?=some (Sl.ow2 dss)) (hj:gi ρ=.ok (.int j)) (h0:0<=j) (hd:dss[j.toNat]?=some ds) (hg:g ρ=.ok d) (hl:ds.length<1000):md i gi g ρ=.ok (.nx (ρ.set i (.ow2 (dss.set j.toNat (ds++[d]))))):=by
 unfold md
 simp only [hi,hj,bind_ok,if_pos h0,hd,hg,if_pos hl]
def vS (n:Nat):List Str->List (Nat×Str)
 |[]=>[]
 |x::r=>(n,x)::vS (n+1) r
abbrev cI (p:Nat×Str):D:=.tuple [.int (p.1:Nat),.str p.2]
theorem E2:∀ (xs:List Str) (n:Nat),nD n (xs.map .str)=(vS n xs).map cI
 |[],_=>rfl
 |x::r,n=>by
  show dD [.int n,.str x]::nD (n+1) (r.map .str)=cI (n,x)::(vS (n+1) r).map cI
  rw [E2 r (n+1)]
theorem y0:∀ (xs:List Str) (n:Nat),(vS n xs).map (·.2)=xs
 |[],_=>rfl
 |x::r,n=>by
  show x::(vS (n+1) r).map (·.2)=x::r
  rw [y0 r]
theorem rU:∀ (fs:List Str),(∀ x∈fs,lN x=true)->cy (fs.map .str)=true
 |[],_=>rfl
 |x::r,h=>by
  have h1:=rT (h x aw)
  have h2:=rU r fun y hy=>h y (ao _ hy)
  simp only [am,cy,h1,h2,io]
theorem zb (fs:List Str) (hf:∀ x∈fs,lN x=true):mH true (bu fs) (.tuple [])=.ok (.bool (!decide (fs=[]))):=by
 unfold mH
 have h1:(bu fs).canLay0=true:=by simp only [eF];exact rU fs hf
 have h2:(dD []).canLay0=true:=rfl
 have h3:min (bu fs).depth (dD []).depth<=60:=bv (uT _ _) (by decide)
 have h4:bf (bu fs) (.tuple [])=decide (fs=[]):=by
  cases fs with
  |nil=>rfl
  |cons x r=>simp [bf,i7]
 rw [h1,h2,decide_eq_true h3,h4]
 rfl
structure mV (pre p q:List Str):Prop where
 sp:p.Sublist pre
 sq:q.Sublist pre
 d:∀ x∈p,x∉q
theorem mV.skip {pre p q:List Str} (h:mV pre p q) (x:Str):mV (pre++[x]) p q:=⟨h.sp.trans (iq _ _),h.sq.trans (iq _ _),h.d⟩
theorem mV.left {pre p q:List Str} (h:mV pre p q) (x:Str) (hx:x∉pre):mV (pre++[x]) (p++[x]) q:=⟨h.sp.append (fu _),h.sq.trans (iq _ _),fun y hy hq=>by
 rcases List.mem_append.mp hy with h1|h1
 ·exact h.d y h1 hq
 ·rw [List.mem_singleton.mp h1] at hq
  exact hx (h.sq.subset hq)⟩
theorem mV.right {pre p q:List Str} (h:mV pre p q) (x:Str) (hx:x∉pre):mV (pre++[x]) p (q++[x]):=⟨h.sp.trans (iq _ _),h.sq.append (fu _),fun y hy hq=>by
 rcases List.mem_append.mp hq with h1|h1
 ·exact h.d y hy h1
 ·rw [List.mem_singleton.mp h1] at hy
  exact hx (h.sp.subset hy)⟩
abbrev o4 (p q r t:List Str):Sl:=.ow2 [p.map .str,q.map .str,r.map .str,t.map .str]
theorem QT (j:Int) (h0:0<=j) (h1:j<3):∃ b:Bool,bJ (.list [.int 0,.int 0,.int 1]) (.int j)=.ok (.int (if b then 0 else 1)):=by
 have:j=0\/j=1\/j=2:=by omega
 rcases this with h|h|h<;>subst h
 ·exact ⟨true,rfl⟩
 ·exact ⟨true,rfl⟩
 ·exact ⟨false,rfl⟩
theorem QU (j:Int) (h0:0<=j) (h1:j<4):∃ b:Bool,bJ (.list [.int 2,.int 2,.int 3,.int 3]) (.int j)=.ok (.int (if b then 2 else 3)):=by
 have:j=0\/j=1\/j=2\/j=3:=by omega
 rcases this with h|h|h|h<;>subst h
 ·exact ⟨true,rfl⟩
 ·exact ⟨true,rfl⟩
 ·exact ⟨false,rfl⟩
 ·exact ⟨false,rfl⟩
theorem rV (p:List Str) (x:Str):(p++[x]).map av=p.map .str++[.str x]:=by simp
theorem J8 {a b c d e f:Sl}{pre p q r t:List Str}{x:Str}{j:Int} (hp:mV pre p q) (hx:x∉pre) (hl:pre.length<900) (h0:0<=j) :
  ∃ p' q',mV (pre++[x]) p' q'/\f_ (iU (g2 (rB 7) (kI 3) G9)) (md 4 (g2 (eP (J.af (kI 0) (J.af (kI 0) (J.af (kI 1) J.aV))) .list) (rB 7) bJ) (rS 6)) (fun ρ=>.ok (.nx ρ)) [a,b,c,d,o4 p q r t,e,.shr (.str x),.shr (.int j),f]=.ok (.nx [a,b,c,d,o4 p' q' r t,e,.shr (.str x),.shr (.int j),f]):=by
 by_cases h3:j<3
 ·obtain ⟨bo,e3⟩:=QT j h0 h3
  have lp:p.length<1000:=by have:=hp.sp.length_le;omega
  have lq:q.length<1000:=by have:=hp.sq.length_le;omega
  cases bo
  ·refine ⟨p,q++[x],hp.right x hx,?_⟩
   walk_at "zz"
   rw [decide_eq_true h3]
   walk_at "zz"
   simp only [o4,rV]
   refine (z9 (j:=1) (ds:=q.map .str) (d:=.str x) rfl ?_ (by decide) rfl rfl (by rw [au];exact lq)).trans rfl
   walk_at "zz"
   rw [e3]
   rfl
  ·refine ⟨p++[x],q,hp.left x hx,?_⟩
   walk_at "zz"
   rw [decide_eq_true h3]
   walk_at "zz"
   simp only [o4,rV]
   refine (z9 (j:=0) (ds:=p.map .str) (d:=.str x) rfl ?_ (by decide) rfl rfl (by rw [au];exact lp)).trans rfl
   walk_at "zz"
   rw [e3]
   rfl
 ·refine ⟨p,q,hp.skip x,?_⟩
  walk_at "zz"
  rw [decide_eq_false h3]
  walk_at "zz"
theorem J9 {a b c d e f:Sl}{pre p q r t:List Str}{x:Str}{j:Int} (hp:mV pre r t) (hx:x∉pre) (hl:pre.length<900) (h0:0<=j) :
  ∃ r' t',mV (pre++[x]) r' t'/\f_ (iU (g2 (rB 7) (kI 4) G9)) (md 4 (g2 (eP (J.af (kI 2) (J.af (kI 2) (J.af (kI 3) (J.af (kI 3) J.aV)))) .list) (rB 7) bJ) (rS 6)) (fun ρ=>.ok (.nx ρ)) [a,b,c,d,o4 p q r t,e,.shr (.str x),.shr (.int j),f]=.ok (.nx [a,b,c,d,o4 p q r' t',e,.shr (.str x),.shr (.int j),f]):=by
 by_cases h3:j<4
 ·obtain ⟨bo,e3⟩:=QU j h0 h3
  have lp:r.length<1000:=by have:=hp.sp.length_le;omega
  have lq:t.length<1000:=by have:=hp.sq.length_le;omega
  cases bo
  ·refine ⟨r,t++[x],hp.right x hx,?_⟩
   walk_at "zz"
   rw [decide_eq_true h3]
   walk_at "zz"
   simp only [o4,rV]
   refine (z9 (j:=3) (ds:=t.map .str) (d:=.str x) rfl ?_ (by decide) rfl rfl (by rw [au];exact lq)).trans rfl
   walk_at "zz"
   rw [e3]
   rfl
  ·refine ⟨r++[x],t,hp.left x hx,?_⟩
   walk_at "zz"
   rw [decide_eq_true h3]
   walk_at "zz"
   simp only [o4,rV]
   refine (z9 (j:=2) (ds:=r.map .str) (d:=.str x) rfl ?_ (by decide) rfl rfl (by rw [au];exact lp)).trans rfl
   walk_at "zz"
   rw [e3]
   rfl
 ·refine ⟨r,t,hp.skip x,?_⟩
  walk_at "zz"
  rw [decide_eq_false h3]
  walk_at "zz"
theorem QV (i:Nat) (ρ:ap):Ln i ρ=.ok (.nx ((clear2 ρ).set i (.ow2 [[],[],[],[]]))):=id rfl
theorem mV.sub {fs p q:List Str} (up:fs.Pairwise fun a b=>lZ a b=true) (h:mV fs p q):Fx fs p/\Fx fs q:=⟨⟨up.sublist h.sp,fun x hx=>h.sp.subset hx⟩,⟨up.sublist h.sq,fun x hx=>h.sq.subset hx⟩⟩
theorem Ja (p:List Str) (ρ:ap):(cO (J.af (rB 0) J.aV) (jD fP)) (.shr (.list (p.map .str))::ρ)=.ok (bu p):=by
 walk_at "zz"
 rw [dU]
theorem QW (p q r t:List Str):gE (i5 1 [Sl.no] kT (cO (J.af (rB 0) J.aV) (jD fP))) [.list (p.map .str),.list (q.map .str),.list (r.map .str),.list (t.map .str)]=.ok [bu p,bu q,bu r,bu t] :=
 cf _ (fun ss:List Str=>iE (ss.map .str)) (fun ss=>bu ss) [p,q,r,t] fun ss hs=>c_ rfl (Ja ss _)
theorem FA (ns:List Int) (k:Int) (hk:0<=k) (fs:List Str) (hf:∀ x∈fs,lN x=true) (up:fs.Pairwise fun a b=>lZ a b=true) (nd:fs.Nodup) (hl:fs.length<=6) (nm:Str) (hn:lN nm=true) :
  ∃ e,gT [.list (ns.map .int),.int k,bu fs,.str nm]=.ok (eN e)/\jK fs e/\e.name=nm:=by
 have p0:=eX ns k 5 (by decide)
 have p1:=fY ns k 5 (by decide)
 have go:∀ ρ:ap,ρ=[.shr (.list (ns.map .int)),.shr (.int k),.shr (bu fs),.shr (.str nm),.no,.no,.no,.no,.no]->(!decide (fs=[])&&decide (fD ns 97 2=0))=false->∃ e,gS ρ=.ok (.rt (eN e))/\jK fs e/\e.name=nm:=by
  rintro ρ rfl hc
  obtain ⟨ρ',h1,p,q,r,t,h2,h3,h4⟩:∃ ρ',(mK (HP (J.af (rS 2) J.aV)) (mI 2 (cJ (bR 5) (cJ (bR 6) oB))) (bz (eV 7 (ir 3 bA (J.af (rS 0) (J.af (g2 (g2 (rB 1) (kI 10) df) (rB 5) df) (J.af (kI 8) J.aV))))) (bz (f_ (iU (g2 (rB 7) (kI 3) G9)) (md 4 (g2 (eP (J.af (kI 0) (J.af (kI 0) (J.af (kI 1) J.aV))) .list) (rB 7) bJ) (rS 6)) (fun ρ=>.ok (.nx ρ))) (bz (eV 7 (ir 3 bA (J.af (rS 0) (J.af (g2 (g2 (rB 1) (kI 20) df) (rB 5) df) (J.af (kI 8) J.aV))))) (f_ (iU (g2 (rB 7) (kI 4) G9)) (md 4 (g2 (eP (J.af (kI 2) (J.af (kI 2) (J.af (kI 3) (J.af (kI 3) J.aV)))) .list) (rB 7) bJ) (rS 6)) (fun ρ=>.ok (.nx ρ))))))) [.shr (.list (ns.map .int)),.shr (.int k),.shr (bu fs),.shr (.str nm),o4 [] [] [] [],.no,.no,.no,.no]=.ok (.nx ρ')/\∃ p q r t,mV fs p q/\mV fs r t/\∃ z5 z6 z7,ρ'=[.shr (.list (ns.map .int)),.shr (.int k),.shr (bu fs),.shr (.str nm),o4 p q r t,z5,z6,z7,.no]:=by
   rw [xS (ds:=(vS 0 fs).map cI)]
   ·have H:=rQ cI (fun (a:Unit) (_:Nat×Str)=>a) (fun bE _ ρ=>∃ pre,pre++bE.map (·.2)=fs/\∃ p q r t,mV pre p q/\mV pre r t/\∃ z5 z6 z7,ρ=[.shr (.list (ns.map .int)),.shr (.int k),.shr (bu fs),.shr (.str nm),o4 p q r t,z5,z6,z7,.no]) (kt:=mI 2 (cJ (bR 5) (cJ (bR 6) oB))) (gb:=(bz (eV 7 (ir 3 bA (J.af (rS 0) (J.af (g2 (g2 (rB 1) (kI 10) df) (rB 5) df) (J.af (kI 8) J.aV))))) (bz (f_ (iU (g2 (rB 7) (kI 3) G9)) (md 4 (g2 (eP (J.af (kI 0) (J.af (kI 0) (J.af (kI 1) J.aV))) .list) (rB 7) bJ) (rS 6)) (fun ρ=>.ok (.nx ρ))) (bz (eV 7 (ir 3 bA (J.af (rS 0) (J.af (g2 (g2 (rB 1) (kI 20) df) (rB 5) df) (J.af (kI 8) J.aV))))) (f_ (iU (g2 (rB 7) (kI 4) G9)) (md 4 (g2 (eP (J.af (kI 2) (J.af (kI 2) (J.af (kI 3) (J.af (kI 3) J.aV)))) .list) (rB 7) bJ) (rS 6)) (fun ρ=>.ok (.nx ρ)))))))
    obtain ⟨ρ',h1,pre,h2,p,q,r,t,h3,h4,h5⟩:=H (by
     rintro ⟨i,x⟩ bE _ ρ ⟨pre,h2,p,q,r,t,h3,h4,z5,z6,z7,rfl⟩
     have hx:x∉pre:=by
      rw [<- h2,am] at nd
      have:=(List.nodup_append.mp nd).2.2
      intro hx
      exact this x hx x aw rfl
     have hpl:pre.length<900:=by
      have:=congrArg lP h2
      rw [aI] at this
      omega
     obtain ⟨p',q',k1,k2⟩:=J8 (a:=.shr (.list (ns.map .int))) (b:=.shr (.int k)) (c:=.shr (bu fs)) (d:=.shr (.str nm)) (e:=.shr (.int (i:Nat))) (f:=.no) (r:=r) (t:=t) (j:=fD ns (k+10+i) 8) h3 hx hpl (eX _ _ _ (by decide))
     obtain ⟨r',t',k3,k4⟩:=J9 (a:=.shr (.list (ns.map .int))) (b:=.shr (.int k)) (c:=.shr (bu fs)) (d:=.shr (.str nm)) (e:=.shr (.int (i:Nat))) (f:=.no) (p:=p') (q:=q') (j:=fD ns (k+20+i) 8) h4 hx hpl (eX _ _ _ (by decide))
     refine ⟨[.shr (.list (ns.map .int)),.shr (.int k),.shr (bu fs),.shr (.str nm),o4 p q r t,.shr (.int (i:Nat)),.shr (.str x),z7,.no],[.shr (.list (ns.map .int)),.shr (.int k),.shr (bu fs),.shr (.str nm),o4 p' q' r' t',.shr (.int (i:Nat)),.shr (.str x),.shr (.int (fD ns (k+20+i) 8)),.no],rfl,?_,pre++[x],?_,p',q',r',t',k1,k3,_,_,_,rfl⟩
     ·rw [xR,Ib]
      walk_at "yy"
      rw [gG ns _ 8 (by omega) (by decide)]
      walk_at "yy"
      rw [k2]
      walk_at "yy"
      rw [gG ns _ 8 (by omega) (by decide)]
      walk_at "yy"
      rw [k4]
     ·rw [<- h2];simp) (vS 0 fs) () [.shr (.list (ns.map .int)),.shr (.int k),.shr (bu fs),.shr (.str nm),o4 [] [] [] [],.no,.no,.no,.no] ⟨[],by rw [y0];rfl,[],[],[],[],⟨fu _,fu _,fun _ h=>nomatch h⟩,⟨fu _,fu _,fun _ h=>nomatch h⟩,_,_,_,rfl⟩
    refine ⟨ρ',h1,p,q,r,t,?_,?_,h5⟩
    ·simp only [dH,bP] at h2
     rw [<- h2];exact h3
    ·simp only [dH,bP] at h2
     rw [<- h2];exact h4
   ·walk_at "zz"
    rw [E2]
  obtain ⟨s1,s2⟩:=h2.sub up
  obtain ⟨s3,s4⟩:=h3.sub up
  obtain ⟨z5,z6,z7,rfl⟩:=h4
  refine ⟨⟨nm,p,q,r,t,fD ns k 5⟩,?_,⟨hn,s1,s2,s3,s4,h2.d,h3.d,p0,by show fD ns k 5<=9;omega⟩,rfl⟩
  unfold gS
  have hand:C8 (iU (g2 (rB 2) (eP J.aV .tuple) (mH true))) (iU (g2 (ir 3 bA (J.af (rS 0) (J.af (kI 97) (J.af (kI 2) J.aV)))) (kI 0) (mH false))) [.shr (.list (ns.map .int)),.shr (.int k),.shr (bu fs),.shr (.str nm),.no,.no,.no,.no,.no]=.ok false:=by
   walk_at "zz"
   rw [zb fs hf]
   walk_at "zz"
   by_cases h:fs=[]
   ·simp only [h,decide_true,ip,cond_false]
   ·simp only [h,decide_false,gX,cond_true,q_] at hc ⊢
    rw [gG ns 97 2 (by decide) (by decide)]
    walk_at "zz"
    rw [kG]
    walk_at "zz"
    rw [hc]
  rw [xR,Lu,hand]
  simp only [i6,Cv,QV,clear2,am,dH,sx,sw,i6,oH,xR]
  rw [show Sl.ow2 [[],[],[],[]]=o4 [] [] [] [] from rfl,h1]
  walk_at "zz"
  rw [QW]
  walk_at "zz"
  rw [Nv]
  walk_at "zz"
  rw [Nw]
  walk_at "zz"
  rw [Nx]
  walk_at "zz"
  rw [Ny]
  walk_at "zz"
  rw [gG ns k 5 hk (by decide)]
  walk_at "zz"
  rfl
 by_cases hc:(!decide (fs=[])&&decide (fD ns 97 2=0))=true
 ·have h0:0<fs.length:=by
   rcases fs with _|⟨x,r⟩
   ·simp at hc
   ·simp
  obtain ⟨e,h1,h2⟩:=M0 ns k hk fs hf h0 nm hn
  refine ⟨e,?_,h2⟩
  unfold gT
  refine cn ?_
  unfold gS bF
  walk_at "zz"
  rw [zb fs hf]
  walk_at "zz"
  simp only [aC] at hc
  rw [hc.1]
  walk_at "zz"
  rw [gG ns 97 2 (by decide) (by decide)]
  walk_at "zz"
  rw [kG]
  walk_at "zz"
  rw [hc.2]
  walk_at "zz"
  rw [h1]
  walk_at "zz"
 ·obtain ⟨e,h1,h2⟩:=go _ rfl (Bool.eq_false_iff.mpr hc)
  exact ⟨e,by unfold gT;exact cn h1,h2⟩
theorem CB (ds:List D) (t:Nat) (h:t<=ds.length):vt ds (some (t:Int)) none=ds.drop t:=by
 unfold vt
 rw [HT.De,HT.zZ,Nat.min_eq_left h,nV (by rw [hU];exact al _)]
theorem OQ (ds:List D) (t:Nat) (h:t<=ds.length):vt ds none (some (t:Int))=ds.take t:=by
 unfold vt
 rw [HT.De,HT.zZ,Nat.min_eq_left h,q0,Nat.sub_zero]
theorem QX (ds:List D) (t:Nat) (h:t<=ds.length):Cf (.list ds) (some (t:Int)) none=.ok (.list (ds.drop t)):=by
 rw [<- CB ds t h];rfl
theorem QY (ds:List D) (t:Nat) (h:t<=ds.length):Cf (.list ds) none (some (t:Int))=.ok (.list (ds.take t)):=by
 rw [<- OQ ds t h];rfl
theorem OR {l:List (Str×D)} (nd:(l.map (·.1)).Nodup) {p:Str×D} (hp:p∈l):bJ (.dict (jR l)) (.str p.1)=.ok p.2:=by
 have e:∀ kvs x,bJ (.dict kvs) (.str x)=if fG kvs=true then (match rN kvs (.str x) with
   |some d=>.ok d
   |none=>.no) else .no:=fun _ _=>rfl
 rw [e,if_pos (vP l)]
 have:rN (jR l) (.str p.1)=some p.2:=by
  unfold rN jR
  clear e
  induction l with
  |nil=>cases hp
  |cons q r ih =>
   rw [am] at nd
   obtain ⟨n1,n2⟩:=List.nodup_cons.mp nd
   rw [am,cU,jS]
   rcases List.mem_cons.mp hp with h|h
   ·subst h;simp
   ·have:q.1≠p.1:=fun z=>n1 (z ▸ List.mem_map_of_mem h)
    rw [decide_eq_false this]
    exact ih n2 h
 rw [this]
structure rW (fs:List Str) (es:List oK):Prop where
 rise:J4 fs 6
 len:es.length<=6
 nd:(es.map (·.name)).Nodup
 ok:∀ e∈es,jK fs e
def iR (fs:List Str) (es:List oK):D:=.tuple [bu fs,.tuple (es.map eN)]
theorem QZ (fs:List Str):∀ (l:List (Str×D)),(∀ p∈l,∃ e,p.2=eN e/\jK fs e/\e.name=p.1)->∃ es:List oK,l.map (·.2)=es.map eN/\es.map (·.name)=l.map (·.1)/\∀ e∈es,jK fs e
 |[],_=>⟨[],rfl,rfl,fun _ h=>nomatch h⟩
 |p::r,h=>by
  obtain ⟨e,h1,h2,h3⟩:=h p aw
  obtain ⟨es,k1,k2,k3⟩:=QZ fs r fun q hq=>h q (ao _ hq)
  refine ⟨e::es,by rw [am,am,h1,k1],by rw [am,am,h3,k2],fun x hx=>?_⟩
  rcases List.mem_cons.mp hx with z|z
  ·rw [z];exact h2
  ·exact k3 x z
theorem FC {α:Type} (l:List α) (t:Nat):(l.drop t++l.take t).Perm l:=by
 refine List.perm_append_comm.trans ?_
 rw [List.take_append_drop]
theorem jw {l:List Str} (h:l.Pairwise fun a b=>lZ a b=true):l.Nodup:=h.imp fun hab z=>by
 rw [z,vd] at hab
 cases hab
theorem M1 (ns:List Int) (k:Int) (hk:0<=k) (m n:Int) (hm0:0<=m) (hm:m<=6) (hn0:0<=n) (hn:n<=6):∃ fs es,kC [.list (ns.map .int),.int k,.int m,.int n]=.ok (iR fs es)/\rW fs es/\fs.length<=m.toNat/\es.length<=n.toNat:=by
 have hr:=Cz ns k m hm0
 generalize hfs:yZ ns k m=fs at hr
 have hrl:=hr.len
 have hr:J4 fs 6:=⟨hr.ok,hr.up,by have:=hr.len;omega⟩
 have nd:=jw hr.up
 have m0:=eX ns (k+60) (n+1) (by omega)
 have m1:=fY ns (k+60) (n+1) (by omega)
 suffices H:∃ es,kC [.list (ns.map .int),.int k,.int m,.int n]=.ok (iR fs es)/\rW fs es/\es.length<=n.toNat from H.elim fun es h=>⟨fs,es,h.1,h.2.1,hrl,h.2.2⟩
 unfold kC
 suffices H:∃ es,kA (bF 10 [.list (ns.map .int),.int k,.int m,.int n])=.ok (.rt (iR fs es))/\rW fs es/\es.length<=n.toNat from H.elim fun es h=>⟨es,cn h.1,h.2⟩
 have H:=rQ (fun (i:Nat)=>eG i) (fun (a:Unit) (_:Nat)=>a) (fun bE _ ρ=>∃ l,l.length+bE.length<=n.toNat/\(l.map (·.1)).Nodup/\(∀ p∈l,∃ e,p.2=eN e/\jK fs e/\e.name=p.1)/\∃ z6 z7,ρ=[.shr (.list (ns.map .int)),.shr (.int k),.shr (.int m),.shr (.int n),.shr (bu fs),.own (.dict (jR l)),z6,z7,.no,.no]) (kt:=bR 6) (gb:=bz (eV 7 (ir 2 jg (J.af (rS 0) (J.af (g2 (g2 (rB 1) (kI 70) df) (g2 (kI 40) (rB 6) uv) df) J.aV)))) (yT 5 (rS 7) (ir 4 gT (J.af (rS 0) (J.af (g2 (g2 (rB 1) (kI 80) df) (g2 (kI 40) (rB 6) uv) df) (J.af (rS 4) (J.af (rS 7) J.aV)))))))
 obtain ⟨ρ',h1,l,h2,h3,h4,z6,z7,h5⟩:=H (by
  rintro i bE _ ρ ⟨l,h2,h3,h4,z6,z7,rfl⟩
  simp only [aD] at h2
  have hw:=AF ns (k+70+40*(i:Int))
  obtain ⟨e,e1,e2,e3⟩:=FA ns (k+80+40*(i:Int)) (by omega) fs hr.ok hr.up nd hr.len (jv ns (k+70+40*(i:Int))) hw
  have pl:=AG l (jv ns (k+70+40*(i:Int))) (eN e)
  refine ⟨[.shr (.list (ns.map .int)),.shr (.int k),.shr (.int m),.shr (.int n),.shr (bu fs),.own (.dict (jR l)),.shr (.int i),z7,.no,.no],[.shr (.list (ns.map .int)),.shr (.int k),.shr (.int m),.shr (.int n),.shr (bu fs),.own (.dict (jR (rR l (jv ns (k+70+40*(i:Int))) (eN e)))),.shr (.int i),.shr (.str (jv ns (k+70+40*(i:Int)))),.no,.no],rfl,?_,rR l (jv ns (k+70+40*(i:Int))) (eN e),by omega,?_,?_,_,_,rfl⟩
  ·walk_at "zz"
   rw [pq (by decide) (by decide)]
   walk_at "zz"
   rw [DZ ns _ (by omega)]
   walk_at "zz"
   refine (Nt (l:=l) (x:=jv ns (k+70+40*(i:Int))) (d:=eN e) rfl ?_ rfl (by omega)).trans rfl
   walk_at "zz"
   rw [pq (by decide) (by decide)]
   walk_at "zz"
   exact e1
  ·rw [x_];exact Fu h3
  ·exact J2 (Q:=fun x d=>∃ e,d=eN e/\jK fs e/\e.name=x) h4 ⟨e,rfl,e2,e3⟩) (bW (fD ns (k+60) (n+1)).toNat) () [.shr (.list (ns.map .int)),.shr (.int k),.shr (.int m),.shr (.int n),.shr (bu fs),.own (.dict (jR [])),.no,.no,.no,.no] ⟨[],by rw [lR];simp only [eR];omega,kZ,fun _ h=>(nomatch h),_,_,rfl⟩
 simp only [eR,Nat.add_zero] at h2
 have t0:=eX ns (k+61) ((l.length:Int)+1) (by omega)
 have t1:=fY ns (k+61) ((l.length:Int)+1) (by omega)
 obtain ⟨t,ht⟩:∃ t:Nat,fD ns (k+61) ((l.length:Int)+1)=t:=⟨_,(cb t0).symm⟩
 have tl:t<=l.length:=by omega
 have pm:=FC l t
 obtain ⟨es,k1,k2,k3⟩:=QZ fs (l.drop t++l.take t) fun p hp=>h4 p (pm.mem_iff.mp hp)
 have kl:es.length=l.length:=by
  have:=congrArg lP k1
  rw [au,au,pm.length_eq] at this
  exact this.symm
 refine ⟨es,?_,⟨hr,by omega,?_,k3⟩,by omega⟩
 ·unfold kA bF
  walk_at "yy"
  rw [J6 ns k m hk hm0 (by omega),hfs]
  walk_at "yy"
  rw [xS (ds:=(bW (fD ns (k+60) (n+1)).toNat).map fun (i:Nat)=>eG i)]
  ·rw [show PyData.dict []=PyData.dict (jR []) from rfl,h1,h5]
   walk_at "yy"
   rw [AH]
   walk_at "yy"
   rw [gG ns _ _ (by omega) (by omega),ht]
   walk_at "yy"
   clear H h1
   rw [QX _ t (by simpa using tl)]
   walk_at "yy"
   rw [QY _ t (by simpa using tl)]
   walk_at "yy"
   have e1:(List.drop t (q9 av (q9 (fun x=>x.fst) l))++List.take t (q9 av (q9 (fun x=>x.fst) l)))=(l.drop t++l.take t).map fun p=>av p.1:=by
    rw [fV,r6,List.map_take,cB];rfl
   rw [e1,if_pos (by rw [<- aI,e1,au,pm.length_eq];omega)]
   have pl:=pm.length_eq
   have px:∀ p∈l.drop t++l.take t,p∈l:=fun p hp=>pm.mem_iff.mp hp
   clear e1 pm k2
   generalize l.drop t++l.take t=L at pl px k1 ⊢
   walk_at "yy"
   rw [if_pos (by omega)]
   rw [cf _ (fun p:Str×D=>av p.1) (fun p=>p.2) L fun p hp=>c_ rfl (by
    walk_at "yy"
    exact OR h3 (px p hp))]
   walk_at "yy"
   rw [dU]
   walk_at "yy"
   rw [k1]
   rfl
  ·walk_at "yy"
   rw [gG ns (k+60) (n+1) (by omega) (by omega)]
   walk_at "yy"
   have:=yV (fD ns (k+60) (n+1)).toNat (by omega)
   rw [cb m0] at this
   exact this
 ·rw [k2]
  exact ((pm.map _).nodup_iff).mpr h3
theorem y3 {α:Type} (b:α->Bool):∀ xs:List α,l9 (xs.map fun x=>bZ (b x))=some (xs.map b)
 |[]=>rfl
 |x::r=>by
  show (l9 (r.map fun x=>bZ (b x))).map (b x::·)=_
  rw [y3 b r]
  rfl
theorem fZ {α:Type} (k:List Bool->Bool) (b:α->Bool) (xs:List α):ij k (.list (xs.map fun x=>bZ (b x)))=.ok (.bool (k (xs.map b))):=by
 have e:∀ ds,ij k (.list ds)=match l9 ds with
  |some bs=>.ok (.bool (k bs))
  |none=>.no:=fun _=>rfl
 rw [e,y3]
theorem AJ {s s':Sl}{ρ:ap}{gt:ap->R Bool}{ge:ap->R D}{d d' y:D} (h1:gt (.shr d::.shr d'::ρ)=.ok true) (h2:ge (.shr d::.shr d'::ρ)=.ok y):i5 2 (s::s'::ρ) gt ge (.tuple [d,d'])=.ok (some y):=by
 have e:i5 2 (s::s'::ρ) gt ge (.tuple [d,d'])=HR ((gt (.shr d::.shr d'::ρ)).bind fun b=>if b then (ge (.shr d::.shr d'::ρ)).bind fun y=>.ok (some y) else .ok none):=id rfl
 rw [e,h1,bind_ok,if_pos rfl,h2];rfl
theorem oM (x:Str):oq (.str x)=true:=id rfl
theorem zc (i:Int):oq (.int i)=true:=id rfl
theorem zd {α:Type} (c:α->D) (h:∀ x,oq (c x)=true):∀ xs:List α,noDs (xs.map c)=true
 |[]=>rfl
 |x::r=>by
  show (oq (c x)&&noDs (r.map c))=true
  rw [h x,zd c h r];rfl
theorem vT (xs:List D):oq (.tuple xs)=noDs xs:=id rfl
theorem jq (xs:List Str):oq (bu xs)=true:=by
 rw [vT]
 exact zd _ (fun _=>rfl) xs
theorem E3 (e:oK):oq (eN e)=true:=by
 have:oq (eN e)=(true&&(oq (bu e.needs)&&(oq (bu e.bars)&&(oq (bu e.makes)&&(oq (bu e.ends)&&(true&&true)))))):=rfl
 rw [this,jq,jq,jq,jq];rfl
theorem Nz (es:List oK):oq (.tuple (es.map eN))=true:=by
 rw [vT]
 exact zd _ E3 es
theorem M2 (fs:List Str) (es:List oK):oq (iR fs es)=true:=by
 have:oq (iR fs es)=(oq (bu fs)&&(oq (.tuple (es.map eN))&&true)):=rfl
 rw [this,jq,Nz];rfl
theorem qu (x:Str):yL "str" (.str x)=true:=id rfl
theorem mW (x:List D):yL "tuple" (.tuple x)=true:=id rfl
theorem Jb (x:Int):yL "int" (.int x)=true:=id rfl
theorem Jc (x:Int):yL "bool" (.int x)=false:=id rfl
theorem M3:∀ c:_root_.Fin 123,97<=c.val->(!lZ ⟨#[c.val]⟩ "a")=true/\(!lZ "z" ⟨#[c.val]⟩)=true:=by decide +kernel
theorem y4 {x:Str} (h:lN x=true):fJ [.str x]=.ok (.bool true):=by
 have hw:=h
 unfold lN at h
 simp only [aC,decide_eq_true_eq,cc] at h
 obtain ⟨⟨h1,h2⟩,h3⟩:=h
 have hl:x.length=x.cps.size:=rfl
 unfold fJ
 refine cn ?_
 unfold jd bF
 walk_at "zz"
 rw [oM,qu]
 walk_at "zz"
 rw [if_pos (by omega)]
 walk_at "zz"
 rw [decide_eq_true (by omega)]
 walk_at "zz"
 rw [decide_eq_true (by omega)]
 walk_at "zz"
 unfold kr
 walk_at "zz"
 rw [if_pos (by rw [aO];omega)]
 rw [cf _ (fun c:Nat=>av ⟨#[c]⟩) (fun _=>bZ true) x.cps.toList fun c hc=>c_ rfl (by
  obtain ⟨a1,a2⟩:=h3 c hc
  obtain ⟨b1,b2⟩:=M3 ⟨c,by omega⟩ a1
  walk_at "zz"
  simp only at b1 b2
  rw [b1]
  walk_at "zz"
  rw [b2])]
 walk_at "zz"
 rw [fZ _ (fun _=>true)]
 walk_at "zz"
 simp
theorem vU:∀ (xs ys:List Str),qq (xs.map .str) (ys.map .str)=(xs.zip ys).map fun p=>dD [.str p.1,.str p.2]
 |[],_=>rfl
 |_::_,[]=>rfl
 |x::r,y::r'=>by
  show dD [.str x,.str y]::qq (r.map .str) (r'.map .str)=_
  rw [vU r r']
  rfl
theorem Jd:∀ {l:List Str},(l.Pairwise fun a b=>lZ a b=true)->∀ p∈l.zip (l.drop 1),lZ p.1 p.2=true
 |[],_,p,hp=>by cases hp
 |[_],_,p,hp=>by cases hp
 |a::b::r,h,p,hp=>by
  obtain ⟨h1,h2⟩:=List.pairwise_cons.mp h
  rcases List.mem_cons.mp hp with z|z
  ·rw [z];exact h1 b aw
  ·exact Jd h2 p z
theorem E4 (xs:List Str):Cf (bu xs) (some 1) none=.ok (bu (xs.drop 1)):=by
 have e:Cf (bu xs) (some 1) none=.ok (.tuple (vt (xs.map .str) (some 1) none)):=rfl
 rw [e]
 cases xs with
 |nil=>rfl
 |cons x r =>
  rw [show (1:Int)=((1:Nat):Int) from rfl,CB _ 1 (by simp)]
  rfl
theorem u3 {xs:List Str} (hw:∀ x∈xs,lN x=true) (up:xs.Pairwise fun a b=>lZ a b=true) (hl:xs.length<=6):cj [bu xs]=.ok (.bool true):=by
 unfold cj
 refine cn ?_
 unfold dn bF
 walk_at "zz"
 rw [jq,mW]
 walk_at "zz"
 rw [if_pos (by omega)]
 rw [cf _ (fun x:Str=>av x) (fun _=>bZ true) xs fun x hx=>c_ rfl (by
  walk_at "zz"
  rw [y4 (hw x hx)])]
 walk_at "zz"
 rw [fZ _ (fun _=>true)]
 walk_at "zz"
 rw [show ((xs.map fun _=>true).all id)=true by simp]
 walk_at "zz"
 rw [E4]
 walk_at "zz"
 rw [vU]
 walk_at "zz"
 rw [if_pos (by simp;omega)]
 rw [cf _ (fun p:Str×Str=>dD [.str p.1,.str p.2]) (fun _=>bZ true) (xs.zip (xs.drop 1)) fun p hp=>AJ rfl (by
  walk_at "zz"
  rw [Jd up p hp])]
 walk_at "zz"
 rw [fZ _ (fun _=>true)]
 walk_at "zz"
 simp
theorem mX {fs xs:List Str} (hw:∀ x∈fs,lN x=true) (h:Fx fs xs) (hl:xs.length<=6):el [bu fs,bu xs]=.ok (.bool true):=by
 unfold el
 refine cn ?_
 unfold iy bF
 walk_at "zz"
 rw [u3 (fun x hx=>hw x (h.mem x hx)) h.up hl]
 walk_at "zz"
 rw [if_pos (by omega)]
 rw [cf _ (fun x:Str=>av x) (fun _=>bZ true) xs fun x hx=>c_ rfl (by
  walk_at "zz"
  rw [z0,decide_eq_true (h.mem x hx)]
  rfl)]
 walk_at "zz"
 rw [fZ _ (fun _=>true)]
 walk_at "zz"
 simp
theorem y6 {xs ys:List Str} (h:∀ x∈xs,x∉ys) (hl:xs.length<=6):eQ [bu xs,bu ys]=.ok (.bool true):=by
 unfold eQ
 refine cn ?_
 unfold iP bF
 walk_at "zz"
 rw [if_pos (by omega)]
 rw [cf _ (fun x:Str=>av x) (fun _=>bZ false) xs fun x hx=>c_ rfl (by
  walk_at "zz"
  rw [z0,decide_eq_false (h x hx)]
  rfl)]
 walk_at "zz"
 rw [fZ _ (fun _=>false)]
 walk_at "zz"
 simp
theorem CC {l i m:Int} (h0:l<=i) (h1:i<=m):ik [.int i,.int l,.int m]=.ok (.bool true):=by
 unfold ik
 refine cn ?_
 unfold jf bF
 walk_at "zz"
 rw [zc,Jb]
 walk_at "zz"
 rw [zc,Jc]
 walk_at "zz"
 rw [decide_eq_true h0]
 walk_at "zz"
 rw [decide_eq_true h1]
theorem tm:∀ (xs fs:List Str),xs.Nodup->(∀ x∈xs,x∈fs)->xs.length<=fs.length
 |[],_,_,_=>bT _
 |x::r,fs,nd,h=>by
  obtain ⟨n1,n2⟩:=List.nodup_cons.mp nd
  have hx:=h x aw
  have:=tm r (fs.erase x) n2 fun y hy=>(List.mem_erase_of_ne fun (z:y=x)=>n1 (z ▸ hy)).mpr (h y (ao _ hy))
  rw [List.length_erase_of_mem hx] at this
  have:0<fs.length:=List.length_pos_of_mem hx
  rw [aD]
  omega
theorem ll {fs xs:List Str} (h:Fx fs xs) (hl:fs.length<=6):xs.length<=6:=by
 exact bv (tm xs fs (jw h.up) h.mem) hl
theorem Q_ (a b c d e f g:D):Lx (mI 6 (cJ (bR 2) (cJ (bR 3) (cJ (bR 4) (cJ (bR 5) (cJ (bR 6) (cJ (bR 7) oB))))))) [Sl.shr a,Sl.shr (.tuple [b,c,d,e,f,g]),.no,.no,.no,.no,.no,.no] (.tuple [b,c,d,e,f,g])=.ok (.nx [Sl.shr a,Sl.shr (.tuple [b,c,d,e,f,g]),.shr b,.shr c,.shr d,.shr e,.shr f,.shr g]):=id rfl
theorem AK {fs:List Str} (hr:J4 fs 6) {e:oK} (g:jK fs e):fj [bu fs,eN e]=.ok (.bool true):=by
 have l1:=ll g.needs hr.len
 have l2:=ll g.bars hr.len
 have l3:=ll g.makes hr.len
 have l4:=ll g.ends hr.len
 unfold fj
 refine cn ?_
 unfold iz bF
 walk_at "zz"
 rw [E3]
 unfold eN
 walk_at "zz"
 rw [mW]
 walk_at "zz"
 rw [kG]
 walk_at "zz"
 rw [show decide (((6:Nat):Int)=6)=true from rfl]
 walk_at "zz"
 rw [Q_]
 ·walk_at "zz"
  rw [y4 g.name]
  walk_at "zz"
  rw [CC g.p0 g.p9]
  walk_at "zz"
  have pk:=cf (i5 1 [Sl.no,Sl.shr (bu fs)] kT (ir 2 el (J.af (rS 1) (J.af (rS 0) J.aV)))) (fun x:List Str=>bu x) (fun _=>bZ true) [e.needs,e.bars,e.makes,e.ends] fun x hx=>c_ rfl (by
   walk_at "zz"
   simp only [aQ,aG,or_false] at hx
   rcases hx with z|z|z|z<;>rw [z]
   ·rw [mX hr.ok g.needs l1]
   ·rw [mX hr.ok g.bars l2]
   ·rw [mX hr.ok g.makes l3]
   ·rw [mX hr.ok g.ends l4])
  simp only [am,dH] at pk
  rw [pk]
  walk_at "zz"
  rw [show ij (fun bs=>bs.all id) (.list [.bool true,.bool true,.bool true,.bool true])=.ok (.bool true) from rfl]
  walk_at "zz"
  rw [y6 g.nb l1]
  walk_at "zz"
  rw [y6 g.me l3]
  walk_at "zz"
theorem Je (l:List Str) (nd:l.Nodup):(dE [] l).length=l.length:=by
 have h1:=tm (dE [] l) l (l8 l [] kZ) fun x hx=>((lY l [] x).mp hx).elim (fun h=>nomatch h) id
 have h2:=tm l (dE [] l) nd fun x hx=>(lY l [] x).mpr (.inr hx)
 omega
theorem FD (es:List oK) (hl:es.length<=6) (nd:(es.map (·.name)).Nodup) (s:Sl) (ρ:ap) (h:(s::ρ)[2]?=some (.shr (.tuple (es.map eN)))):mM (oE 1 [] (m7 (rB 2)) kT (g2 (rB 0) (kI 0) bJ)) (s::ρ)=.ok (.int (es.length:Nat)):=by
 have hr:zP (s::ρ) 2=.ok (.tuple (es.map eN)):=by unfold zP;rw [h]
 unfold mM oE
 rw [Lw,LD,hr]
 walk_at "zz"
 rw [if_pos (by omega)]
 rw [cf _ eN (fun e=>av e.name) es fun e he=>c_ rfl (by
  walk_at "zz"
  rfl)]
 walk_at "zz"
 have:(es.map fun e=>av e.name)=(es.map (·.name)).map .str:=by rw [cB];rfl
 rw [this,strsOf_map]
 simp only [i6,Je _ nd,au]
theorem R1 (b c:D):Lx (mI 2 (cJ (bR 1) (cJ (bR 2) oB))) [Sl.shr (.tuple [b,c]),.no,.no] (.tuple [b,c])=.ok (.nx [Sl.shr (.tuple [b,c]),.shr b,.shr c]):=id rfl
theorem y7 {fs:List Str}{es:List oK} (g:rW fs es):e_ [iR fs es]=.ok (.bool true):=by
 have l1:=g.rise.len
 have l2:=g.len
 unfold e_
 refine cn ?_
 unfold j_ bF
 walk_at "zz"
 rw [M2]
 unfold iR
 walk_at "zz"
 rw [mW]
 walk_at "zz"
 rw [kG]
 walk_at "zz"
 rw [show decide (((2:Nat):Int)=2)=true from rfl]
 walk_at "zz"
 rw [R1]
 walk_at "zz"
 rw [u3 g.rise.ok g.rise.up l1]
 walk_at "zz"
 rw [decide_eq_false (by omega)]
 walk_at "zz"
 rw [Nz,mW]
 walk_at "zz"
 rw [decide_eq_false (by omega)]
 walk_at "zz"
 rw [if_pos (by omega)]
 rw [cf _ eN (fun _=>bZ true) es fun e he=>c_ rfl (by
  walk_at "zz"
  rw [AK g.rise (g.ok e he)])]
 walk_at "zz"
 rw [fZ _ (fun _=>true)]
 walk_at "zz"
 rw [show ((es.map fun _=>true).all id)=true by simp]
 walk_at "zz"
 rw [FD es l2 g.nd _ _ rfl]
 walk_at "zz"
 rw [kG,decide_eq_true rfl]
 rfl
theorem pz {α:Type} (c:α->D) (h:∀ x,bf (c x) (c x)=true):∀ xs:List α,i7 (xs.map c) (xs.map c)=true
 |[]=>by simp [i7]
 |x::r=>by simp [i7,h x,pz c h r]
theorem Jf (e:oK):bf (eN e) (eN e)=true:=by
 unfold eN
 simp only [bf,i7,jS,decide_true,q_,beq_self_eq_true,Bool.and_true]
 have h:=fun xs=>pz av (fun x=>by rw [jS];simp) xs
 simp only [h,io]
theorem Jg (fs:List Str) (es:List oK):bf (iR fs es) (iR fs es)=true:=by
 unfold iR
 simp only [bf,i7]
 rw [pz eN Jf es,pz av (fun x=>by rw [jS];simp) fs]
 rfl
theorem AL {α:Type} (c:α->D):∀ xs:List α,(∀ x∈xs,(c x).canLay0=true)->cy (xs.map c)=true
 |[],_=>rfl
 |x::r,h=>by
  have h1:=h x aw
  have h2:=AL c r fun y hy=>h y (ao _ hy)
  simp only [am,cy,h1,h2,io]
theorem pA {α:Type} (c:α->D) (n:Nat) (h:∀ x,(c x).depth<=n):∀ xs:List α,jH (xs.map c)<=n
 |[]=>by simp [jH]
 |x::r=>by
  simp only [am,jH]
  exact Nat.max_le.mpr ⟨h x,pA c n h r⟩
theorem rX {fs xs:List Str} (hf:∀ x∈fs,lN x=true) (h:Fx fs xs):cy (xs.map .str)=true:=rU xs fun x hx=>hf x (h.mem x hx)
theorem Jh {fs:List Str} (hf:∀ x∈fs,lN x=true) {e:oK} (g:jK fs e):(eN e).canLay0=true:=by
 unfold eN
 simp only [eF,cy]
 have:=rT g.name
 simp only [eF] at this
 rw [rX hf g.needs,rX hf g.bars,rX hf g.makes,rX hf g.ends,this]
 rfl
theorem Ji {fs:List Str}{es:List oK} (g:rW fs es):(iR fs es).canLay0=true:=by
 unfold iR
 simp only [eF,cy]
 rw [rU fs g.rise.ok,AL eN es fun e he=>Jh g.rise.ok (g.ok e he)]
 rfl
theorem FE (e:oK):(eN e).depth<=2:=by
 have h:=fun xs=>pA av 0 (fun x=>by simp [sy]) xs
 have h1:=h e.needs
 have h2:=h e.bars
 have h3:=h e.makes
 have h4:=h e.ends
 unfold eN
 simp only [sy,jH]
 omega
theorem FF (fs:List Str) (es:List oK):(iR fs es).depth<=60:=by
 have h1:=pA av 0 (fun x=>by simp [sy]) fs
 have h2:=pA eN 2 FE es
 unfold iR
 simp only [sy,jH]
 omega
theorem M4 {fs:List Str}{es:List oK} (g:rW fs es):mH false (iR fs es) (iR fs es)=.ok (.bool true):=by
 unfold mH
 rw [Ji g,Jg,decide_eq_true (bv (Nat.min_le_left _ _) (FF fs es))]
 rfl
def nX (n:Nat) (x:Str):Prop:=cz x=true/\x.length<=n
theorem jF (x:Str):cz x=true↔∀ c∈x.cps.toList,c<0x110000:=by
 unfold cz
 rw [<- mC,cc]
 exact ⟨fun h c hc=>by simpa using h c hc,fun h c hc=>by simpa using h c hc⟩
theorem nX.mono {n m:Nat}{x:Str} (h:nX n x) (l:n<=m):nX m x:=⟨h.1,bv h.2 l⟩
theorem uJ {n:Nat}{x:Str} (h:nX n x) (i j:Nat):nX n (e8 x i j):=by
 refine ⟨(jF _).mpr fun c hc=>?_,bv (PyProof.Rows.sub_short x i j) h.2⟩
 rw [fN] at hc
 exact (jF _).mp h.1 c (List.mem_of_mem_drop (List.mem_of_mem_take hc))
theorem y8 {n:Nat}{x:Str} (h:nX n x) (w:Nat):∀ (cuts:List Nat) (a:Nat),∀ p∈k_ x w a cuts,nX n p
 |[],a,p,hp=>by rw [List.mem_singleton.mp hp];exact uJ h _ _
 |c::r,a,p,hp=>by
  rcases List.mem_cons.mp hp with rfl|hp'
  ·exact uJ h _ _
  ·exact y8 h w r _ p hp'
theorem k7 {n:Nat}{x:Str} (h:nX n x) (y:Str):∀ p∈bi x y,nX n p:=by
 intro p hp
 unfold bi at hp
 split at hp
 ·rw [List.mem_singleton.mp hp];exact h
 ·split at hp
  ·rw [List.mem_singleton.mp hp];exact h
  ·rw [lS] at hp
   exact y8 h _ _ _ p hp
theorem kH (x y:Str):∃ p r,bi x y=p::r:=by
 unfold bi
 split
 ·exact ⟨_,_,rfl⟩
 ·split
  ·exact ⟨_,_,rfl⟩
  ·rw [lS];exact StrLaws.partsFrom_ne _ _ _ _
theorem AM {n:Nat}{x y:Str} (h:nX n x):nX n (aR x y).1/\nX n (aR x y).2.2:=by
 unfold aR
 split
 ·exact ⟨uJ h _ _,uJ h _ _⟩
 ·exact ⟨h,⟨(jF _).mpr fun c (hc:c∈Str.empty.cps.toList)=>(nomatch hc),bT _⟩⟩
theorem ze {n m:Nat}{x y:Str} (h:nX n x) (k:nX m y):nX (n+m) (x++y):=by
 refine ⟨(jF _).mpr fun c hc=>?_,?_⟩
 ·rw [fv,de] at hc
  rcases List.mem_append.mp hc with hc|hc
  ·exact (jF _).mp h.1 c hc
  ·exact (jF _).mp k.1 c hc
 ·rw [cm]
  have:=h.2;have:=k.2;omega
theorem oN {sep:Str} (hs:cz sep=true):∀ {xs:List Str},(∀ x∈xs,cz x=true)->cz (aX sep xs)=true
 |[],_=>(jF _).mpr fun c (hc:c∈Str.empty.cps.toList)=>(nomatch hc)
 |[x],h=>h x (by simp)
 |x::y::r,h=>by
  have ih:=oN hs (xs:=y::r) fun z hz=>h z (ao _ hz)
  have hx:=h x (by simp)
  show cz (x++sep++aX sep (y::r))=true
  refine (jF _).mpr fun c hc=>?_
  rw [fv,de,fv,de] at hc
  rcases List.mem_append.mp hc with hc|hc
  ·rcases List.mem_append.mp hc with hc|hc
   ·exact (jF _).mp hx c hc
   ·exact (jF _).mp hs c hc
  ·exact (jF _).mp ih c hc
theorem zf (neg:Bool) {x y:Str} (hx:cz x=true) (hy:cz y=true):mH neg (.str x) (.str y)=.ok (.bool (if neg then !decide (x=y) else decide (x=y))):=by
 unfold mH
 rw [show (av x).canLay0=true from hx,show (av y).canLay0=true from hy,jS]
 rfl
def OS (f:Str->Str->R D) (z:Str):D->R D:=fun y=>match y with
 |.str w=>f z w
 |_=>.no
def T6 (gb:ap->R D) (f:Str->Str->R D) (ρ:ap):D->R D:=fun x=>match x with
 |.str z=>(gb ρ).bind (OS f z)
 |_=>.no
theorem zg (ga gb:ap->R D) (f:Str->Str->R D) (s:Sl) (ρ:ap):DR ga gb f (s::ρ)=(ga (s::ρ)).bind (T6 gb f (s::ρ)):=id rfl
theorem rY (gb:ap->R D) (f:Str->Str->R D) (ρ:ap) (z:Str):T6 gb f ρ (.str z)=(gb ρ).bind (OS f z):=id rfl
theorem mY (f:Str->Str->R D) (z w:Str):OS f z (.str w)=f z w:=id rfl
def NA (i j:Nat) (ρ:ap):D->R Fl:=fun d=>match d with
 |.list (x::r)=>if r.length<=2000 then .ok (.nx ((ρ.set i (.shr x)).set j (.shr (.list r)))) else .no
 |_=>.no
theorem vV (i j:Nat) (g:ap->R D) (s:Sl) (ρ:ap):oJ i j g (s::ρ)=(g (s::ρ)).bind (NA i j (s::ρ)):=id rfl
theorem rZ (i j:Nat) (ρ:ap) (x:D) (r:List D) (h:r.length<=2000):NA i j ρ (.list (x::r))=.ok (.nx ((ρ.set i (.shr x)).set j (.shr (.list r)))):=if_pos h
theorem zh (z:Str) (g:ap->R D) (s:Sl) (ρ:ap):qe z g (s::ρ)=(g (s::ρ)).bind (t_ z):=id rfl
theorem lm {z w:Str} (hw:w.length≠0) (hz:z.length<=1000):kz z w=.ok (.list ((bi z w).map .str)):=if_pos ⟨hw,hz⟩
theorem OT {z w:Str} (hw:w.length≠0) (hz:z.length<=1000):xZ z w=.ok (.tuple [.str (aR z w).1,.str (aR z w).2.1,.str (aR z w).2.2]):=if_pos ⟨hw,hz⟩
theorem Jj {z:Str} (ys:List Str) (h:(ys.map (·.length)).sum+ys.length*z.length<=100000):t_ z (.list (ys.map .str))=.ok (.str (j6 z ys)):=by
 have e:t_ z (.list (ys.map .str))=match eg (ys.map .str) with
  |some ys=>if (ys.map (·.length)).sum+ys.length*z.length<=100000 then .ok (.str (j6 z ys)) else .no
  |none=>.no:=rfl
 rw [e,strsOf_map]
 exact if_pos h
theorem Jk {z:Str} (ys:List Str) (h:(ys.map (·.length)).sum+ys.length*z.length<=100000):t_ z (bu ys)=.ok (.str (j6 z ys)):=by
 have e:t_ z (bu ys)=match eg (ys.map .str) with
  |some ys=>if (ys.map (·.length)).sum+ys.length*z.length<=100000 then .ok (.str (j6 z ys)) else .no
  |none=>.no:=rfl
 rw [e,strsOf_map]
 exact if_pos h
def Jl (P:ap->Prop) (r:R Fl):Prop:=∃ ρ',r=.ok (.nx ρ')/\P ρ'
theorem FG {P:ap->Prop}{r:R Fl}{hh:ap->R Fl}{o:R Fl} (h:Jl P r) (k:∀ ρ,P ρ->hh ρ=o):r.bind (Fe hh)=o:=by
 obtain ⟨ρ',h1,p⟩:=h
 rw [h1,bind_ok,oH]
 exact k ρ' p
theorem AN {α:Type}{kt:D->ap->R ap}{gb:ap->R Fl} (c:α->D) (p:α->Bool) (out:α->D) (P:ap->Prop):∀ (xs:List α) (ρ:ap),(∀ x∈xs,∀ ρ,P ρ->∃ ρ1,kt (c x) ρ=.ok ρ1/\(p x=true->gb ρ1=.ok (.rt (out x)))/\(p x=false->Jl P (gb ρ1)))->P ρ ->
  (∀ x,xs.find? p=some x->fQ kt gb (xs.map c) ρ=.ok (.rt (out x)))/\(xs.find? p=none->Jl P (fQ kt gb (xs.map c) ρ))
 |[],ρ,_,q=>⟨fun x h=>(nomatch h),fun _=>⟨ρ,rfl,q⟩⟩
 |x::r,ρ,h,q=>by
  obtain ⟨ρ1,h1,h2,h3⟩:=h x aw ρ q
  rw [am,cU]
  unfold fQ
  rw [h1]
  cases hp:p x with
  |true =>
   refine ⟨fun y hy=>?_,fun hn=>nomatch hn⟩
   cases hy
   simp only [h2 hp]
  |false =>
   obtain ⟨ρ2,h4,h5⟩:=h3 hp
   simp only [h4]
   exact AN c p out P r ρ2 (fun y hy=>h y (ao _ hy)) h5
abbrev OU (x:Str):Str:=(bi x " ").headD ""
abbrev K5 (x:Str):List Str:=(bi x " ").tail
def wU (w:Str) (ps:List Str):List Str:=match ps.find? fun p=>decide (OU p=w) with
 |some p=>K5 p
 |none=>[]
theorem vW:(" " : Str).length≠0:=by decide
theorem Jm {i:Nat}{kt:D->ap->R ap}{gb:ap->R Fl}{ρ:ap}{ds:List D} (h:ρ[i]?=some (.shr (.list ds))):nF i kt gb ρ=fQ kt gb ds ρ:=by
 unfold nF
 rw [h]
 simp only
 unfold mK m7
 have:yH ρ i=.ok (.list ds):=by unfold yH;rw [h]
 simp only [this,bind_ok]
 rfl
theorem FH (w:Str) (ps:List Str) (hw:cz w=true) (hp:∀ p∈ps,nX 1000 p):gF [.str w,.list (ps.map .str)]=.ok (bu (wU w ps)):=by
 unfold gF
 refine cn ?_
 unfold iQ bF
 have H:=AN (kt:=bR 2) (gb:=bz (oJ 3 4 (DR (rS 2) (fun _=>.ok (.str " ")) kz)) (f_ (iU (g2 (rB 3) (rB 0) (mH false))) (eC (cO (J.af (rB 4) J.aV) (jD fP))) (fun ρ=>.ok (.nx ρ)))) (fun x:Str=>av x) (fun p=>decide (OU p=w)) (fun p=>bu (K5 p))
  (fun ρ=>∃ z2 z3 z4,ρ=[.shr (.str w),.shr (.list (ps.map .str)),z2,z3,z4]) ps [.shr (.str w),.shr (.list (ps.map .str)),.no,.no,.no] (by
   rintro x hx ρ ⟨z2,z3,z4,rfl⟩
   obtain ⟨f,r,e⟩:=kH x " "
   have ok:=k7 (hp x hx) " "
   have hl:=mf x " "
   have hx1:=(hp x hx).2
   rw [e,aD] at hl
   have ef:OU x=f:=by unfold OU;rw [e];rfl
   have er:K5 x=r:=by unfold K5;rw [e];rfl
   have st:bz (oJ 3 4 (DR (rS 2) (fun _=>.ok (.str " ")) kz)) (f_ (iU (g2 (rB 3) (rB 0) (mH false))) (eC (cO (J.af (rB 4) J.aV) (jD fP))) (fun ρ=>.ok (.nx ρ))) [.shr (.str w),.shr (.list (ps.map .str)),.shr (.str x),z3,z4]=if decide (f=w) then .ok (.rt (bu r)) else .ok (.nx [.shr (.str w),.shr (.list (ps.map .str)),.shr (.str x),.shr (.str f),.shr (.list (r.map .str))]):=by
    rw [xR,vV,zg]
    walk_at "zz"
    rw [rY,i6,mY,lm vW hx1,i6,e,am,rZ _ _ _ _ _ (by rw [au];omega)]
    walk_at "zz"
    rw [zf false (ok f (by rw [e];simp)).1 hw]
    walk_at "zz"
    by_cases h:f=w
    ·simp only [h,decide_true,cond_true,if_true]
     rw [dU]
     rfl
    ·simp only [h,decide_false,cond_false,bg,if_false]
   refine ⟨_,rfl,fun h=>?_,fun h=>?_⟩
   ·refine st.trans ?_
    rw [ef] at h
    rw [if_pos h,er]
   ·rw [ef] at h
    exact ⟨_,st.trans (if_neg (by rw [h];decide)),_,_,_,rfl⟩) ⟨_,_,_,rfl⟩
 walk_at "zz"
 rw [Jm rfl]
 unfold wU
 cases hf:ps.find? fun p=>decide (OU p=w) with
 |some p =>
  rw [H.1 p hf]
  rfl
 |none =>
  refine FG (H.2 hf) ?_
  rintro ρ ⟨z2,z3,z4,rfl⟩
  rfl
def E5 (x:Str):D:=if x.length=1 then .int (um "0123456789" x) else .none
theorem Jn {x:Str} (h:x.length<=1000):jQ [.str x]=.ok (E5 x):=by
 unfold jQ
 refine cn ?_
 unfold jP bF
 walk_at "zz"
 rw [if_pos h]
 walk_at "zz"
 rw [kG]
 walk_at "zz"
 unfold E5
 by_cases e:x.length=1
 ·rw [decide_eq_true (by omega)]
  simp only [e,cond_true,if_true]
  rfl
 ·rw [decide_eq_false (by omega)]
  simp only [e,cond_false,if_false]
  rfl
structure qv where
 name:Str
 needs:List Str
 bars:List Str
 makes:List Str
 ends:List Str
 price:D
def g6 (e:qv):D:=.tuple [.str e.name,bu e.needs,bu e.bars,bu e.makes,bu e.ends,e.price]
def E6 (x:Str):qv :=
 let h:=(bi x ", ").headD ""
 let ps:=(bi x ", ").tail
 ⟨(aR h " ").1,wU "needs" ps,wU "bars" ps,wU "makes" ps,wU "ends" ps,E5 (aR h " ").2.2⟩
theorem FI:(", " : Str).length≠0:=by decide
theorem mZ {x:Str} (h:nX 1000 x):lf [.str x]=.ok (g6 (E6 x)):=by
 obtain ⟨f,r,e⟩:=kH x ", "
 have ok:=k7 h ", "
 have hl:=mf x ", "
 have hx1:=h.2
 rw [e,aD] at hl
 have okf:=ok f (by rw [e];simp)
 have okr:∀ p∈r,nX 1000 p:=fun p hp=>ok p (by rw [e];simp [hp])
 have e1:(bi x ", ").headD ""=f:=by rw [e];rfl
 have e2:(bi x ", ").tail=r:=by rw [e];rfl
 unfold lf
 refine cn ?_
 unfold le bF E6
 simp only [e1,e2]
 walk_at "zz"
 rw [vV,zg]
 walk_at "zz"
 rw [rY,i6,mY,lm FI hx1,i6,e,am,rZ _ _ _ _ _ (by rw [au];omega)]
 walk_at "zz"
 rw [zg]
 walk_at "zz"
 rw [rY,i6,mY,OT vW okf.2,i6]
 rw [show Lx (mI 3 (cJ (bR 3) (cJ (bR 4) (cJ (bR 5) oB)))) [Sl.shr (av x),Sl.shr (av f),Sl.shr (iE (q9 av r)),Sl.no,Sl.no,Sl.no] (dD [av (aR f " ").1,av (aR f " ").2.1,av (aR f " ").2.2])=.ok (.nx [Sl.shr (av x),Sl.shr (av f),Sl.shr (iE (q9 av r)),.shr (.str (aR f " ").1),.shr (.str (aR f " ").2.1),.shr (.str (aR f " ").2.2)]) from id rfl]
 walk_at "zz"
 have M:=cf (i5 1 [Sl.no,.shr (.list (r.map .str))] kT (ir 2 gF (J.af (rS 0) (J.af (rS 1) J.aV)))) (fun w:Str=>av w) (fun w=>bu (wU w r)) ["needs","bars","makes","ends"] fun w hw=>c_ rfl (by
  walk_at "zz"
  rw [FH w r ?_ okr]
  simp only [aQ,aG,or_false] at hw
  rcases hw with rfl|rfl|rfl|rfl<;>decide +kernel)
 simp only [am,dH] at M
 rw [M]
 walk_at "zz"
 rw [dU]
 walk_at "zz"
 rw [Jn (AM okf).2.2]
 walk_at "zz"
 rfl
def Pa:R D->Bool
 |.ok (.bool b)=>b
 |_=>false
theorem zi {r:R D} (h:∃ b,r=.ok (.bool b)):r=.ok (.bool (Pa r)):=by
 obtain ⟨b,rfl⟩:=h;rfl
def OV (x:Str):Bool:=Pa (fJ [.str x])
theorem vX {x:Str} (h:x.length<=1000):fJ [.str x]=.ok (.bool (OV x)):=by
 refine zi ?_
 have hl:x.length=x.cps.size:=rfl
 by_cases h1:1<=x.length
 ·by_cases h2:x.length<=6
  ·refine ⟨(x.cps.toList.map fun c=>if (!lZ ⟨#[c]⟩ "a") then (!lZ "z" ⟨#[c]⟩) else false).all id,?_⟩
   unfold fJ
   refine cn ?_
   unfold jd bF
   walk_at "zz"
   rw [oM,qu]
   walk_at "zz"
   rw [if_pos h]
   walk_at "zz"
   rw [decide_eq_true (by omega)]
   walk_at "zz"
   rw [decide_eq_true (by omega)]
   walk_at "zz"
   unfold kr
   walk_at "zz"
   rw [if_pos (by rw [aO];omega)]
   rw [cf _ (fun c:Nat=>av ⟨#[c]⟩) (fun c=>bZ (if (!lZ ⟨#[c]⟩ "a") then (!lZ "z" ⟨#[c]⟩) else false)) x.cps.toList fun c hc=>c_ rfl (by
    walk_at "zz"
    cases (!lZ ⟨#[c]⟩ "a") with
    |true=>walk_at "zz"
    |false=>walk_at "zz")]
   walk_at "zz"
   rw [fZ _ (fun c:Nat=>if (!lZ ⟨#[c]⟩ "a") then (!lZ "z" ⟨#[c]⟩) else false)]
   walk_at "zz"
  ·refine ⟨false,?_⟩
   unfold fJ
   refine cn ?_
   unfold jd bF
   walk_at "zz"
   rw [oM,qu]
   walk_at "zz"
   rw [if_pos h]
   walk_at "zz"
   rw [decide_eq_true (by omega)]
   walk_at "zz"
   rw [decide_eq_false (by omega)]
   walk_at "zz"
 ·refine ⟨false,?_⟩
  unfold fJ
  refine cn ?_
  unfold jd bF
  walk_at "zz"
  rw [oM,qu]
  walk_at "zz"
  rw [if_pos h]
  walk_at "zz"
  rw [decide_eq_false (by omega)]
  walk_at "zz"
structure Bh (xs:List Str):Prop where
 wt:(xs.map (·.length)).sum+xs.length<=990
 ok:∀ x∈xs,nX 1000 x
theorem Bh.len {xs:List Str} (h:Bh xs):xs.length<=1000:=by have:=h.wt;omega
def Sr (xs:List Str):Bool:=Pa (cj [bu xs])
theorem qw {xs:List Str} (h:Bh xs):cj [bu xs]=.ok (.bool (Sr xs)):=by
 refine zi ?_
 have hl:=h.len
 cases hb:((xs.map OV).all id) with
 |false =>
  refine ⟨false,?_⟩
  unfold cj
  refine cn ?_
  unfold dn bF
  walk_at "zz"
  rw [jq,mW]
  walk_at "zz"
  rw [if_pos (by omega)]
  rw [cf _ (fun x:Str=>av x) (fun x=>bZ (OV x)) xs fun x hx=>c_ rfl (by
   walk_at "zz"
   rw [vX (h.ok x hx).2])]
  walk_at "zz"
  rw [fZ _ OV]
  walk_at "zz"
  rw [hb]
  walk_at "zz"
 |true =>
  refine ⟨((xs.zip (xs.drop 1)).map fun p=>lZ p.1 p.2).all id,?_⟩
  unfold cj
  refine cn ?_
  unfold dn bF
  walk_at "zz"
  rw [jq,mW]
  walk_at "zz"
  rw [if_pos (by omega)]
  rw [cf _ (fun x:Str=>av x) (fun x=>bZ (OV x)) xs fun x hx=>c_ rfl (by
   walk_at "zz"
   rw [vX (h.ok x hx).2])]
  walk_at "zz"
  rw [fZ _ OV]
  walk_at "zz"
  rw [hb]
  walk_at "zz"
  rw [E4]
  walk_at "zz"
  rw [vU]
  walk_at "zz"
  rw [if_pos (by simp;omega)]
  rw [cf _ (fun p:Str×Str=>dD [.str p.1,.str p.2]) (fun p=>bZ (lZ p.1 p.2)) (xs.zip (xs.drop 1)) fun p hp=>AJ rfl (by
   walk_at "zz")]
  walk_at "zz"
  rw [fZ _ (fun p:Str×Str=>lZ p.1 p.2)]
  walk_at "zz"
def OW (fs xs:List Str):Bool:=Pa (el [bu fs,bu xs])
theorem pB {fs xs:List Str} (h:Bh xs):el [bu fs,bu xs]=.ok (.bool (OW fs xs)):=by
 refine zi ?_
 have hl:=h.len
 cases hb:Sr xs with
 |false =>
  refine ⟨false,?_⟩
  unfold el
  refine cn ?_
  unfold iy bF
  walk_at "zz"
  rw [qw h,hb]
  walk_at "zz"
 |true =>
  refine ⟨(xs.map fun x=>decide (x∈fs)).all id,?_⟩
  unfold el
  refine cn ?_
  unfold iy bF
  walk_at "zz"
  rw [qw h,hb]
  walk_at "zz"
  rw [if_pos (by omega)]
  rw [cf _ (fun x:Str=>av x) (fun x=>bZ (decide (x∈fs))) xs fun x hx=>c_ rfl (by
   walk_at "zz"
   rw [z0]
   rfl)]
  walk_at "zz"
  rw [fZ _ (fun x:Str=>decide (x∈fs))]
  walk_at "zz"
def Ss (xs ys:List Str):Bool:=Pa (eQ [bu xs,bu ys])
theorem AO {xs ys:List Str} (hl:xs.length<=1000):eQ [bu xs,bu ys]=.ok (.bool (Ss xs ys)):=by
 refine zi ⟨!((xs.map fun x=>decide (x∈ys)).any id),?_⟩
 unfold eQ
 refine cn ?_
 unfold iP bF
 walk_at "zz"
 rw [if_pos (by omega)]
 rw [cf _ (fun x:Str=>av x) (fun x=>bZ (decide (x∈ys))) xs fun x hx=>c_ rfl (by
  walk_at "zz"
  rw [z0]
  rfl)]
 walk_at "zz"
 rw [fZ _ (fun x:Str=>decide (x∈ys))]
 walk_at "zz"
def qx (d:D):Bool:=match d with
 |.int i=>decide (0<=i)&&decide (i<=9)
 |_=>false
theorem M5:yL "int" .none=false:=id rfl
theorem FJ (x:Str):ik [E5 x,.int 0,.int 9]=.ok (.bool (qx (E5 x))):=by
 unfold E5
 by_cases e:x.length=1
 ·rw [if_pos e]
  generalize um "0123456789" x=i
  unfold ik
  refine cn ?_
  unfold jf bF
  walk_at "zz"
  rw [zc,Jb]
  walk_at "zz"
  rw [zc,Jc]
  walk_at "zz"
  unfold qx
  by_cases h0:0<=i
  ·rw [decide_eq_true h0]
   walk_at "zz"
   simp [h0]
  ·rw [decide_eq_false h0]
   walk_at "zz"
   simp [h0]
 ·rw [if_neg e]
  unfold ik
  refine cn ?_
  unfold jf bF
  walk_at "zz"
  rw [show oq .none=true from rfl,M5]
  walk_at "zz"
  rfl
structure M6 (e:qv):Prop where
 name:nX 1000 e.name
 needs:Bh e.needs
 bars:Bh e.bars
 makes:Bh e.makes
 ends:Bh e.ends
 price:∃ x,e.price=E5 x
theorem R4 (x:Str):oq (E5 x)=true:=by unfold E5;split<;>rfl
theorem E7 {e:qv} (h:M6 e):oq (g6 e)=true:=by
 obtain ⟨x,hx⟩:=h.price
 unfold g6
 rw [vT]
 simp only [noDs,oM,jq,hx,R4,io]
def OX (fs:List Str) (e:qv):Bool:=Pa (fj [bu fs,g6 e])
theorem AQ {fs:List Str}{e:qv} (h:M6 e):∃ b,fj [bu fs,g6 e]=.ok (.bool b)/\(b=true->qx e.price=true):=by
 obtain ⟨x,hx⟩:=h.price
 have hd:=E7 h
 unfold fj
 suffices hh:∃ b,iz (bF 8 [bu fs,g6 e])=.ok (.rt (.bool b))/\(b=true->qx e.price=true) by
  obtain ⟨b,h1,h2⟩:=hh
  exact ⟨b,cn h1,h2⟩
 unfold iz bF
 walk_at "zz"
 rw [hd]
 unfold g6
 walk_at "zz"
 rw [mW]
 walk_at "zz"
 rw [kG]
 walk_at "zz"
 rw [show decide (((6:Nat):Int)=6)=true from rfl]
 walk_at "zz"
 rw [Q_]
 walk_at "zz"
 rw [vX h.name.2]
 walk_at "zz"
 cases hw:OV e.name with
 |false =>
  refine ⟨false,?_,fun z=>by cases z⟩
  walk_at "zz"
 |true =>
  walk_at "zz"
  rw [hx,FJ]
  walk_at "zz"
  cases hp:qx (E5 x) with
  |false =>
   refine ⟨false,?_,fun z=>by cases z⟩
   walk_at "zz"
  |true =>
   walk_at "zz"
   have pk:=cf (i5 1 [Sl.no,Sl.shr (bu fs)] kT (ir 2 el (J.af (rS 1) (J.af (rS 0) J.aV)))) (fun x:List Str=>bu x) (fun x=>bZ (OW fs x)) [e.needs,e.bars,e.makes,e.ends] fun x hx=>c_ rfl (by
    walk_at "zz"
    simp only [aQ,aG,or_false] at hx
    rcases hx with z|z|z|z<;>rw [z]
    ·rw [pB h.needs]
    ·rw [pB h.bars]
    ·rw [pB h.makes]
    ·rw [pB h.ends])
   have qt:=fZ (fun bs=>bs.all id) (OW fs) [e.needs,e.bars,e.makes,e.ends]
   simp only [am,dH] at pk qt
   rw [pk]
   walk_at "zz"
   rw [qt]
   walk_at "zz"
   cases ha:([OW fs e.needs,OW fs e.bars,OW fs e.makes,OW fs e.ends].all id) with
   |false =>
    refine ⟨false,?_,fun z=>by cases z⟩
    walk_at "zz"
   |true =>
    walk_at "zz"
    rw [AO h.needs.len]
    walk_at "zz"
    cases hn:Ss e.needs e.bars with
    |false =>
     refine ⟨false,?_,fun z=>by cases z⟩
     walk_at "zz"
    |true =>
     refine ⟨Ss e.makes e.ends,?_,fun _=>trivial⟩
     walk_at "zz"
     rw [AO h.makes.len]
     walk_at "zz"
theorem vY {fs:List Str}{e:qv} (h:M6 e):fj [bu fs,g6 e]=.ok (.bool (OX fs e))/\(OX fs e=true->qx e.price=true):=by
 obtain ⟨b,h1,h2⟩:=AQ (fs:=fs) h
 have:OX fs e=b:=by unfold OX;rw [h1];rfl
 rw [this]
 exact ⟨h1,h2⟩
def iY (fs:List Str) (ls:List qv):D:=.tuple [bu fs,.tuple (ls.map g6)]
structure OY (fs:List Str) (ls:List qv):Prop where
 fs:Bh fs
 len:ls.length<=1000
 ok:∀ l∈ls,M6 l
theorem Jo {ls:List qv} (h:∀ l∈ls,M6 l):noDs (ls.map g6)=true:=by
 induction ls with
 |nil=>rfl
 |cons l r ih =>
  rw [am]
  show (oq (g6 l)&&noDs (r.map g6))=true
  rw [E7 (h l (by simp)),ih fun x hx=>h x (by simp [hx])]
  rfl
theorem M7 {fs:List Str}{ls:List qv} (h:OY fs ls):oq (iY fs ls)=true:=by
 unfold iY
 rw [vT]
 simp only [noDs,jq,show oq (.tuple (ls.map g6))=true from Jo h.ok,io]
theorem CD (es:List qv) (hl:es.length<=6) (s:Sl) (ρ:ap) (h:(s::ρ)[2]?=some (.shr (.tuple (es.map g6)))):mM (oE 1 [] (m7 (rB 2)) kT (g2 (rB 0) (kI 0) bJ)) (s::ρ)=.ok (.int ((dE [] (es.map (·.name))).length:Nat)):=by
 have hr:zP (s::ρ) 2=.ok (.tuple (es.map g6)):=by unfold zP;rw [h]
 unfold mM oE
 rw [Lw,LD,hr]
 walk_at "zz"
 rw [if_pos (by omega)]
 rw [cf _ g6 (fun e=>av e.name) es fun e he=>c_ rfl (by
  walk_at "zz"
  rfl)]
 walk_at "zz"
 have:(es.map fun e=>av e.name)=(es.map (·.name)).map .str:=by rw [cB];rfl
 rw [this,strsOf_map]
 simp only [i6]
theorem FK {fs:List Str}{ls:List qv} (h:OY fs ls):∃ b,e_ [iY fs ls]=.ok (.bool b)/\(b=true->fs.length<=6/\ls.length<=6/\∀ l∈ls,qx l.price=true):=by
 have hd:=M7 h
 unfold e_
 suffices hh:∃ b,j_ (bF 3 [iY fs ls])=.ok (.rt (.bool b))/\(b=true->fs.length<=6/\ls.length<=6/\∀ l∈ls,qx l.price=true) by
  obtain ⟨b,h1,h2⟩:=hh
  exact ⟨b,cn h1,h2⟩
 unfold j_ bF
 walk_at "zz"
 rw [hd]
 unfold iY
 walk_at "zz"
 rw [mW]
 walk_at "zz"
 rw [kG]
 walk_at "zz"
 rw [show decide (((2:Nat):Int)=2)=true from rfl]
 walk_at "zz"
 rw [R1]
 walk_at "zz"
 rw [qw h.fs]
 walk_at "zz"
 cases hr:Sr fs with
 |false =>
  refine ⟨false,?_,fun z=>by cases z⟩
  walk_at "zz"
 |true =>
  walk_at "zz"
  by_cases l1:fs.length<=6
  ·rw [decide_eq_false (show ¬ (6:Int)<(fs.length:Nat) by omega)]
   walk_at "zz"
   rw [vT,Jo h.ok,mW]
   walk_at "zz"
   by_cases l2:ls.length<=6
   ·rw [decide_eq_false (show ¬ (6:Int)<(ls.length:Nat) by omega)]
    walk_at "zz"
    rw [if_pos (by omega)]
    rw [cf _ g6 (fun l=>bZ (OX fs l)) ls fun e he=>c_ rfl (by
     walk_at "zz"
     rw [(vY (h.ok e he)).1])]
    walk_at "zz"
    rw [fZ _ (OX fs)]
    walk_at "zz"
    cases ha:((ls.map (OX fs)).all id) with
    |false =>
     refine ⟨false,?_,fun z=>by cases z⟩
     walk_at "zz"
    |true =>
     walk_at "zz"
     rw [CD ls l2 _ _ rfl]
     walk_at "zz"
     rw [kG]
     refine ⟨_,rfl,fun _=>⟨l1,l2,fun l hl=>(vY (fs:=fs) (h.ok l hl)).2 ?_⟩⟩
     simp only [cc,Bc] at ha
     exact ha _ ⟨l,hl,rfl⟩
   ·rw [decide_eq_true (show (6:Int)<(ls.length:Nat) by omega)]
    refine ⟨false,?_,fun z=>by cases z⟩
    walk_at "zz"
  ·rw [decide_eq_true (show (6:Int)<(fs.length:Nat) by omega)]
   refine ⟨false,?_,fun z=>by cases z⟩
   walk_at "zz"
theorem gH (sep:Str):∀ (r:List Str) (x:Str),(aX sep (x::r)).length=((x::r).map (·.length)).sum+r.length*sep.length
 |[],x=>by simp [aX]
 |y::r,x=>by
  have ih:=gH sep r y
  show (x++sep++aX sep (y::r)).length=_
  rw [cm,cm,ih]
  simp only [am,bX,aD,wq,wu]
  omega
theorem M8 (sep:Str) (xs:List Str):(aX sep xs).length<=(xs.map (·.length)).sum+xs.length*sep.length:=by
 cases xs with
 |nil=>exact bT _
 |cons x r =>
  rw [gH]
  simp only [aD,wq,wu]
  omega
theorem Jp (x:Str):((bi x " ").map (·.length)).sum+(bi x " ").length=x.length+1:=by
 have e:=StrLaws.join_split x " "
 obtain ⟨f,r,h⟩:=kH x " "
 rw [h] at e ⊢
 have:=gH " " r f
 rw [e,show (" " : Str).length=1 by decide] at this
 simp only [aD] at this ⊢
 omega
theorem NB {x:Str} (h:nX 990 x):Bh (K5 x):=by
 have hw:=Jp x
 have h2:=h.2
 have ok:=k7 h " "
 obtain ⟨f,r,e⟩:=kH x " "
 have er:K5 x=r:=by unfold K5;rw [e];rfl
 rw [er]
 rw [e] at hw ok
 simp only [am,bX,aD] at hw
 exact ⟨by omega,fun y hy=>(ok y (by simp [hy])).mono (by decide)⟩
theorem E8 (w:Str) {ps:List Str} (h:∀ p∈ps,nX 990 p):Bh (wU w ps):=by
 unfold wU
 split
 ·rename_i p hp
  exact NB (h p (List.mem_of_find?_eq_some hp))
 ·exact ⟨bT _,fun x hx=>nomatch hx⟩
theorem R5 {x:Str} (h:nX 990 x):M6 (E6 x):=by
 have ok:=k7 h ", "
 obtain ⟨f,r,e⟩:=kH x ", "
 have e1:(bi x ", ").headD ""=f:=by rw [e];rfl
 have e2:(bi x ", ").tail=r:=by rw [e];rfl
 rw [e] at ok
 have okr:∀ p∈r,nX 990 p:=fun p hp=>ok p (by simp [hp])
 unfold E6
 simp only [e1,e2]
 exact ⟨(AM (ok f (by simp))).1.mono (by decide),E8 _ okr,E8 _ okr,E8 _ okr,E8 _ okr,_,rfl⟩
def kJ (w:Str) (xs:List Str):List Str:=if xs.isEmpty then [] else [aX " " (w::xs)]
theorem R6 (xs:List Str) (g:ap->R D) (ρ:ap) (h:g ρ=.ok (bu xs)):vM g ρ=.ok (!xs.isEmpty):=by
 unfold vM
 rw [h,bind_ok]
 cases xs<;>rfl
def wV (l:qv) (i:Int):Str:=uR++l.name++" "++bc (toString i)
def jL (l:qv) (i:Int):List Str:=wV l i::(kJ "needs" l.needs++kJ "bars" l.bars++kJ "makes" l.makes++kJ "ends" l.ends)
theorem pC {w:Str}{xs ps:List Str}{e z2 z3:Sl} (hw:w.length<=10) (h:Bh xs) (hp:ps.length<=10) :
  f_ (vM (rB 3)) (Ck 1 (qe " " (g2 (eP (J.af (rS 2) J.aV) .tuple) (rB 3) df))) (fun ρ=>.ok (.nx ρ)) [e,.own (.list (ps.map .str)),.shr (.str w),.shr (bu xs)]=.ok (.nx [e,.own (.list ((ps++kJ w xs).map .str)),.shr (.str w),.shr (bu xs)]):=by
 rw [Lu,R6 xs _ _ rfl,i6]
 unfold kJ
 cases hx:xs.isEmpty with
 |true =>
  simp only [ip,Cv,if_true,bP]
 |false =>
  simp only [gX,I9,bg,if_false]
  have hl:=h.wt
  have hj:qe " " (g2 (eP (J.af (rS 2) J.aV) .tuple) (rB 3) df) [e,.own (.list (ps.map .str)),.shr (.str w),.shr (bu xs)]=.ok (.str (aX " " (w::xs))):=by
   rw [zh]
   walk_at "zz"
   rw [if_pos (by omega)]
   walk_at "zz"
   have:=Jk (z:=" ") (w::xs) (by rw [show (" " : Str).length=1 by decide];simp only [am,bX,aD];omega)
   rw [show j6 " " (w::xs)=aX " " (w::xs) from i_ _ _] at this
   exact this
  unfold Ck
  simp only [fh,nA,hj,bind_ok]
  rw [if_pos (by rw [au];omega)]
  simp
theorem R7 (l:qv) (i:Int):DS ["needs","bars","makes","ends"] (Gb (rB 0) (Bg (kI 1)) (Bg (kI 5))) [.shr (g6 l),.own (.list [.str (wV l i)]),.no,.no]=.ok [.tuple [.str "needs",bu l.needs],.tuple [.str "bars",bu l.bars],.tuple [.str "makes",bu l.makes],.tuple [.str "ends",bu l.ends]]:=id rfl
theorem R8 {l:qv}{i:Int} (hn:l.name.length<=1000) (hp:l.price=.int i) (h0:0<=i) (h9:i<=9):QP " " (g2 (rB 0) (kI 0) bJ) (g2 (rB 0) (kI 5) bJ) [.shr (g6 l),.no,.no,.no]=.ok (.str (wV l i)):=by
 unfold QP
 rw [show g2 (rB 0) (kI 0) bJ [.shr (g6 l),.no,.no,.no]=.ok (.str l.name) from id rfl,bind_ok]
 simp only [if_pos hn]
 rw [show g2 (rB 0) (kI 5) bJ [.shr (g6 l),.no,.no,.no]=.ok l.price from id rfl,bind_ok,hp]
 simp only [if_pos (show 0<=i/\i<=9 from ⟨h0,h9⟩)]
 rfl
theorem oO (w:Str) (xs:List Str):(kJ w xs).length<=1:=by unfold kJ;split<;>simp
theorem u4 {w:Str}{xs:List Str} (hw:w.length<=10) (h:Bh xs):((kJ w xs).map (·.length)).sum<=1010:=by
 unfold kJ
 split
 ·exact bT _
 ·have:=gH " " xs w
  have:=h.wt
  simp only [am,dH,bX,List.sum_nil]
  rw [‹(aX _ _).length=_›,show (" " : Str).length=1 by decide]
  simp only [am,bX]
  omega
theorem E9 {w:Str}{xs:List Str} (hw:cz w=true) (h:Bh xs):∀ x∈kJ w xs,cz x=true:=by
 unfold kJ
 split
 ·exact fun x hx=>nomatch hx
 ·intro x hx
  rw [List.mem_singleton.mp hx]
  exact oN (by decide +kernel) fun y hy=>by
   rcases List.mem_cons.mp hy with rfl|hy
   ·exact hw
   ·exact (h.ok y hy).1
theorem OZ {i:Int} (h0:0<=i) (h9:i<=9):cz (bc (toString i))=true:=by
 have:i=0\/i=1\/i=2\/i=3\/i=4\/i=5\/i=6\/i=7\/i=8\/i=9:=by omega
 rcases this with rfl|rfl|rfl|rfl|rfl|rfl|rfl|rfl|rfl|rfl<;>decide +kernel
theorem NC {l:qv}{i:Int} (h:nX 1000 l.name) (h0:0<=i) (h9:i<=9):nX 1002 (wV l i):=by
 have e:nX 0 uR:=⟨(jF _).mpr fun c (hc:c∈Str.empty.cps.toList)=>(nomatch hc),al _⟩
 have d:nX 1 (bc (toString i)):=⟨OZ h0 h9,by rw [mO h0 h9];exact al _⟩
 have s:nX 1 (" " : Str):=⟨by decide +kernel,by decide⟩
 exact (ze (ze (ze e h) s) d).mono (by decide)
theorem M9 {l:qv}{i:Int} (h:M6 l) (hp:l.price=.int i) (h0:0<=i) (h9:i<=9):pj [g6 l]=.ok (.str (aX ", " (jL l i))):=by
 have e1:=oO "needs" l.needs
 have e2:=oO "bars" l.bars
 have e3:=oO "makes" l.makes
 have w1:=u4 (w:="needs") (by decide) h.needs
 have w2:=u4 (w:="bars") (by decide) h.bars
 have w3:=u4 (w:="makes") (by decide) h.makes
 have w4:=u4 (w:="ends") (by decide) h.ends
 have e4:=oO "ends" l.ends
 have hh:=(NC (i:=i) h.name h0 h9).2
 have t1:=pC (w:="needs") (xs:=l.needs) (ps:=[wV l i]) (e:=.shr (g6 l)) (z2:=.no) (z3:=.no) (by decide) h.needs (by simp)
 have t2:=pC (w:="bars") (xs:=l.bars) (ps:=[wV l i]++kJ "needs" l.needs) (e:=.shr (g6 l)) (z2:=.no) (z3:=.no) (by decide) h.bars (by simp;omega)
 have t3:=pC (w:="makes") (xs:=l.makes) (ps:=[wV l i]++kJ "needs" l.needs++kJ "bars" l.bars) (e:=.shr (g6 l)) (z2:=.no) (z3:=.no) (by decide) h.makes (by simp;omega)
 have t4:=pC (w:="ends") (xs:=l.ends) (ps:=[wV l i]++kJ "needs" l.needs++kJ "bars" l.bars++kJ "makes" l.makes) (e:=.shr (g6 l)) (z2:=.no) (z3:=.no) (by decide) h.ends (by simp;omega)
 have fr:fQ (mI 2 (cJ (bR 2) (cJ (bR 3) oB))) (f_ (vM (rB 3)) (Ck 1 (qe " " (g2 (eP (J.af (rS 2) J.aV) .tuple) (rB 3) df))) (fun ρ=>.ok (.nx ρ))) [.tuple [.str "needs",bu l.needs],.tuple [.str "bars",bu l.bars],.tuple [.str "makes",bu l.makes],.tuple [.str "ends",bu l.ends]] [.shr (g6 l),.own (.list [.str (wV l i)]),.no,.no]=.ok (.nx [.shr (g6 l),.own (.list ((jL l i).map .str)),.shr (.str "ends"),.shr (bu l.ends)]):=by
  have k:∀ (w:Str) (xs:List Str) (a b c d:Sl),mI 2 (cJ (bR 2) (cJ (bR 3) oB)) (.tuple [.str w,bu xs]) [a,b,c,d]=.ok [a,b,.shr (.str w),.shr (bu xs)]:=fun _ _ _ _ _ _=>id rfl
  unfold fQ
  rw [k]
  simp only
  rw [show [av (wV l i)]=[wV l i].map .str from rfl,t1]
  simp only
  unfold fQ
  rw [k]
  simp only
  rw [t2]
  simp only
  unfold fQ
  rw [k]
  simp only
  rw [t3]
  simp only
  unfold fQ
  rw [k]
  simp only
  rw [t4]
  simp only
  unfold fQ
  unfold jL
  simp only [nC,jY,gz]
 unfold pj
 refine cn ?_
 unfold pi bF
 walk_at "zz"
 rw [R8 h.name.2 hp h0 h9]
 walk_at "zz"
 rw [xS (h:=R7 l i),fr]
 walk_at "zz"
 rw [zh]
 walk_at "zz"
 rw [Jj]
 ·rw [show j6 ", " (jL l i)=aX ", " (jL l i) from i_ _ _]
  walk_at "zz"
 ·rw [show (", " : Str).length=2 by decide]
  unfold jL
  simp only [am,fV,bX,o8,aD,aI]
  omega
def Jq (l:qv):Int:=match l.price with
 |.int i=>i
 |_=>0
theorem Jr {l:qv} (h:qx l.price=true):l.price=.int (Jq l)/\0<=Jq l/\Jq l<=9:=by
 unfold qx at h
 unfold Jq
 split at h
 ·rename_i i e
  simp only [e,aC,decide_eq_true_eq] at h ⊢
  exact ⟨trivial,h.1,h.2⟩
 ·cases h
abbrev zQ (l:qv):Str:=aX ", " (jL l (Jq l))
def Bj (fs:List Str) (ls:List qv):Str:=aX "\n" (aX " " ("facts"::fs)::ls.map zQ)
theorem ND {l:qv} (h:M6 l) (hd:qx l.price=true):nX 6000 (zQ l):=by
 obtain ⟨_,h0,h9⟩:=Jr hd
 have e1:=oO "needs" l.needs
 have e2:=oO "bars" l.bars
 have e3:=oO "makes" l.makes
 have e4:=oO "ends" l.ends
 have w1:=u4 (w:="needs") (by decide) h.needs
 have w2:=u4 (w:="bars") (by decide) h.bars
 have w3:=u4 (w:="makes") (by decide) h.makes
 have w4:=u4 (w:="ends") (by decide) h.ends
 have hh:=NC (i:=Jq l) h.name h0 h9
 refine ⟨oN (by decide +kernel) fun x hx=>?_,bv (M8 _ _) ?_⟩
 ·unfold jL at hx
  rcases List.mem_cons.mp hx with rfl|hx
  ·exact hh.1
  ·rcases List.mem_append.mp hx with hx|hx
   ·rcases List.mem_append.mp hx with hx|hx
    ·rcases List.mem_append.mp hx with hx|hx
     ·exact E9 (by decide +kernel) h.needs x hx
     ·exact E9 (by decide +kernel) h.bars x hx
    ·exact E9 (by decide +kernel) h.makes x hx
   ·exact E9 (by decide +kernel) h.ends x hx
 ·have:=hh.2
  rw [show (", " : Str).length=2 by decide]
  unfold jL
  simp only [am,fV,bX,o8,aD,aI]
  omega
theorem CF (f:qv->Str) (n:Nat):∀ (ls:List qv),(∀ l∈ls,(f l).length<=n)->((ls.map f).map (·.length)).sum<=ls.length*n
 |[],_=>bT _
 |l::r,h=>by
  have h1:=h l (by simp)
  have h2:=CF f n r fun x hx=>h x (by simp [hx])
  simp only [am,bX,aD,wq,wu]
  omega
theorem zj {fs:List Str}{ls:List qv} (h:OY fs ls) (h2:ls.length<=6) (hd:∀ l∈ls,qx l.price=true):gR [iY fs ls]=.ok (.str (Bj fs ls)):=by
 have hl:=h.fs.wt
 unfold gR
 refine cn ?_
 unfold pp bF
 walk_at "zz"
 rw [zh]
 walk_at "zz"
 rw [show bJ (iY fs ls) (.int 0)=.ok (bu fs) from id rfl]
 walk_at "zz"
 rw [if_pos (by omega)]
 walk_at "zz"
 have j1:=Jk (z:=" ") ("facts"::fs) (by rw [show (" " : Str).length=1 by decide];simp only [am,bX,aD];rw [show ("facts" : Str).length=5 by decide];omega)
 rw [show j6 " " ("facts"::fs)=aX " " ("facts"::fs) from i_ _ _] at j1
 have j1':t_ " " (.tuple (.str "facts"::fs.map .str))=.ok (.str (aX " " ("facts"::fs))):=j1
 rw [j1']
 walk_at "zz"
 rw [zh]
 walk_at "zz"
 rw [show bJ (iY fs ls) (.int 1)=.ok (.tuple (ls.map g6)) from id rfl]
 walk_at "zz"
 rw [if_pos (by omega)]
 rw [cf _ g6 (fun l=>av (zQ l)) ls fun e he=>c_ rfl (by
  walk_at "zz"
  obtain ⟨p1,p2,p3⟩:=Jr (hd e he)
  rw [M9 (h.ok e he) p1 p2 p3])]
 walk_at "zz"
 rw [if_pos (by omega)]
 walk_at "zz"
 have hs:=CF zQ 6000 ls fun l hl=>(ND (h.ok l hl) (hd l hl)).2
 have hf:=gH " " fs "facts"
 have j2:=Jj (z:="\n") (aX " " ("facts"::fs)::ls.map zQ) (by
  rw [show ("\n" : Str).length=1 by decide]
  simp only [am,bX,aD,au] at hf hs ⊢
  rw [hf,show ("facts" : Str).length=5 by decide,show (" " : Str).length=1 by decide]
  have:ls.length*6000<=6*6000:=Ew _ h2
  omega)
 rw [show j6 "\n" (aX " " ("facts"::fs)::ls.map zQ)=Bj fs ls from i_ _ _] at j2
 simp only [am,cB,Function.comp_def] at j2
 rw [j2]
 rfl
theorem NE {fs:List Str}{ls:List qv} (h:OY fs ls) (hd:∀ l∈ls,qx l.price=true):cz (Bj fs ls)=true:=by
 refine oN (by decide +kernel) fun x hx=>?_
 rcases List.mem_cons.mp hx with rfl|hx
 ·refine oN (by decide +kernel) fun y hy=>?_
  rcases List.mem_cons.mp hy with rfl|hy
  ·decide +kernel
  ·exact (h.fs.ok y hy).1
 ·obtain ⟨l,hl,rfl⟩:=List.mem_map.mp hx
  exact (ND (h.ok l hl) (hd l hl)).1
def m_ (x:Str):List Str:=(bi ((bi x "\n").headD "") " ").drop 1
def n5 (x:Str):List qv:=((bi x "\n").tail).map E6
theorem R9 {x:Str} (h:nX 990 x):OY (m_ x) (n5 x):=by
 have ok:=k7 h "\n"
 have hl:=mf x "\n"
 have h2:=h.2
 obtain ⟨f,r,e⟩:=kH x "\n"
 have e1:(bi x "\n").headD ""=f:=by rw [e];rfl
 have e2:(bi x "\n").tail=r:=by rw [e];rfl
 rw [e] at ok hl
 unfold m_ n5
 rw [e1,e2]
 refine ⟨?_,by rw [au];simp only [aD] at hl;omega,fun l hl=>?_⟩
 ·have:=NB (ok f (by simp))
  unfold K5 at this
  rw [List.drop_one]
  exact this
 ·obtain ⟨y,hy,rfl⟩:=List.mem_map.mp hl
  exact R5 (ok y (by simp [hy]))
theorem CG:("\n" : Str).length≠0:=by decide
theorem Js (ds:List D):Cf (.list ds) (some 1) none=.ok (.list (ds.drop 1)):=by
 have e:Cf (.list ds) (some 1) none=.ok (.list (vt ds (some 1) none)):=rfl
 rw [e]
 cases ds with
 |nil=>rfl
 |cons x r =>
  rw [show (1:Int)=((1:Nat):Int) from rfl,CB _ 1 (by simp)]
theorem Ea {x:Str}{g:ap->R (List D)}{ρ:ap}{ds:List D} (h:g ρ=.ok ds) (hl:ds.length<=1000):oG x g ρ=.ex x none:=by
 unfold oG
 rw [h,bind_ok,if_pos hl]
theorem Jt {x:Str} (h:nX 990 x):(mP [.str x]=.ex "NoText" none/\¬ (e_ [iY (m_ x) (n5 x)]=.ok (.bool true)/\gR [iY (m_ x) (n5 x)]=.ok (.str x)))\/(mP [.str x]=.ok (iY (m_ x) (n5 x))/\e_ [iY (m_ x) (n5 x)]=.ok (.bool true)/\gR [iY (m_ x) (n5 x)]=.ok (.str x)):=by
 have K:=R9 h
 have ok:=k7 h "\n"
 have hl:=mf x "\n"
 have h2:=h.2
 obtain ⟨f,r,e⟩:=kH x "\n"
 have e1:(bi x "\n").headD ""=f:=by rw [e];rfl
 have e2:(bi x "\n").tail=r:=by rw [e];rfl
 rw [e] at ok hl
 simp only [aD] at hl
 have okf:=ok f (by simp)
 obtain ⟨b,hb,hc⟩:=FK K
 cases b with
 |false =>
  refine .inl ⟨?_,fun hh=>by rw [hb] at hh;cases hh.1⟩
  unfold mP
  refine IZ ?_
  unfold tj bF
  walk_at "zz"
  rw [oM,qu]
  walk_at "zz"
  rw [vV,zg]
  walk_at "zz"
  rw [rY,i6,mY,lm CG (by omega),i6,e,am,rZ _ _ _ _ _ (by rw [au];omega)]
  walk_at "zz"
  rw [zg]
  walk_at "zz"
  rw [rY,i6,mY,lm vW (bv okf.2 (by decide)),i6]
  walk_at "zz"
  rw [Js,i6]
  walk_at "zz"
  rw [dU]
  walk_at "zz"
  rw [if_pos (by omega)]
  rw [cf _ (fun y:Str=>av y) (fun y=>g6 (E6 y)) r fun y hy=>c_ rfl (by
   walk_at "zz"
   rw [mZ ((ok y (by simp [hy])).mono (by decide))])]
  walk_at "zz"
  rw [dU]
  walk_at "zz"
  have ek:dD [.tuple (((bi f " ").map av).drop 1),.tuple (r.map fun y=>g6 (E6 y))]=iY (m_ x) (n5 x):=by
   unfold iY m_ n5
   rw [e1,e2,cB,<- r6]
   rfl
  rw [ek]
  rw [hb]
  walk_at "zz"
  rw [Ea rfl (by decide)]
  rfl
 |true =>
  obtain ⟨l1,l2,hd⟩:=hc rfl
  have ht:=zj K l2 hd
  have ho:=NE K hd
  by_cases hx:Bj (m_ x) (n5 x)=x
  ·refine .inr ⟨?_,hb,by rw [ht,hx]⟩
   unfold mP
   refine cn ?_
   unfold tj bF
   walk_at "zz"
   rw [oM,qu]
   walk_at "zz"
   rw [vV,zg]
   walk_at "zz"
   rw [rY,i6,mY,lm CG (by omega),i6,e,am,rZ _ _ _ _ _ (by rw [au];omega)]
   walk_at "zz"
   rw [zg]
   walk_at "zz"
   rw [rY,i6,mY,lm vW (bv okf.2 (by decide)),i6]
   walk_at "zz"
   rw [Js,i6]
   walk_at "zz"
   rw [dU]
   walk_at "zz"
   rw [if_pos (by omega)]
   rw [cf _ (fun y:Str=>av y) (fun y=>g6 (E6 y)) r fun y hy=>c_ rfl (by
    walk_at "zz"
    rw [mZ ((ok y (by simp [hy])).mono (by decide))])]
   walk_at "zz"
   rw [dU]
   walk_at "zz"
   have ek:dD [.tuple (((bi f " ").map av).drop 1),.tuple (r.map fun y=>g6 (E6 y))]=iY (m_ x) (n5 x):=by
    unfold iY m_ n5
    rw [e1,e2,cB,<- r6]
    rfl
   rw [ek]
   rw [hb]
   walk_at "zz"
   rw [ht]
   walk_at "zz"
   rw [zf true ho h.1,hx]
   walk_at "zz"
  ·refine .inl ⟨?_,fun hh=>by rw [ht] at hh;injection hh.2 with h3;injection h3 with h4;exact hx h4⟩
   unfold mP
   refine IZ ?_
   unfold tj bF
   walk_at "zz"
   rw [oM,qu]
   walk_at "zz"
   rw [vV,zg]
   walk_at "zz"
   rw [rY,i6,mY,lm CG (by omega),i6,e,am,rZ _ _ _ _ _ (by rw [au];omega)]
   walk_at "zz"
   rw [zg]
   walk_at "zz"
   rw [rY,i6,mY,lm vW (bv okf.2 (by decide)),i6]
   walk_at "zz"
   rw [Js,i6]
   walk_at "zz"
   rw [dU]
   walk_at "zz"
   rw [if_pos (by omega)]
   rw [cf _ (fun y:Str=>av y) (fun y=>g6 (E6 y)) r fun y hy=>c_ rfl (by
    walk_at "zz"
    rw [mZ ((ok y (by simp [hy])).mono (by decide))])]
   walk_at "zz"
   rw [dU]
   walk_at "zz"
   have ek:dD [.tuple (((bi f " ").map av).drop 1),.tuple (r.map fun y=>g6 (E6 y))]=iY (m_ x) (n5 x):=by
    unfold iY m_ n5
    rw [e1,e2,cB,<- r6]
    rfl
   rw [ek]
   rw [hb]
   walk_at "zz"
   rw [ht]
   walk_at "zz"
   rw [zf true ho h.1,decide_eq_false hx]
   walk_at "zz"
   rw [Ea rfl (by decide)]
   rfl
theorem Ma {x:Str} (h:nX 990 x) (hb:e_ [iY (m_ x) (n5 x)]=.ok (.bool true)) (ht:gR [iY (m_ x) (n5 x)]=.ok (.str x)):mP [.str x]=.ok (iY (m_ x) (n5 x)):=by
 rcases Jt h with ⟨_,h'⟩|h'
 ·exact (h' ⟨hb,ht⟩).elim
 ·exact h'.1
theorem gI (x:Str):x.length=x.cps.toList.length:=by simp [Str.length]
theorem vZ {x y:Str}{d:Nat}{t:List Nat} (hy:y.cps.toList=d::t) {k:Nat} (h:j7 x y x.length k):x.cps.toList[k]?=some d:=by
 have h2:=h.2
 rw [Ex,beq_iff_eq,hy,gI y,hy,aD] at h2
 have:((x.cps.toList.drop k).take (t.length+1))[0]?=some d:=by rw [h2];rfl
 rw [List.getElem?_take,if_pos (by omega),sA] at this
 simpa using this
theorem NF {x y:Str}{d:Nat}{t bE:List Nat} (hy:y.cps.toList=d::t) {k:Nat} (h:x.cps.toList.drop k=y.cps.toList++bE):j7 x y x.length k:=by
 have hl:=congrArg lP h
 rw [hU,aI] at hl
 have hy':y.cps.toList.length=t.length+1:=by rw [hy];rfl
 refine ⟨by rw [gI x,gI y];omega,?_⟩
 rw [Ex,beq_iff_eq,h,gI y,xp]
theorem CH (y p:Str):(aX y [p]).cps.toList=p.cps.toList:=rfl
theorem qy (y p q:Str) (r:List Str):(aX y (p::q::r)).cps.toList=p.cps.toList++(y.cps.toList++(aX y (q::r)).cps.toList):=by
 show (p++y++aX y (q::r)).cps.toList=_
 rw [fv,de,fv,de,gz]
theorem lr {a b:Str} (h:a.cps.toList=b.cps.toList):a=b:=Str.ext' (Array.toList_inj.mp h)
theorem v_ {x y:Str}{d:Nat}{t:List Nat} (hy:y.cps.toList=d::t):∀ (r:List Str) (p:Str) (cuts:List Nat) (a f:Nat),(∀ q∈p::r,d∉q.cps.toList)->a<=x.length->x.cps.toList.drop a=(aX y (p::r)).cps.toList ->
  StrLaws.ChainG x y x.length a cuts f->(∀ k,f<=k->¬ j7 x y x.length k)->k_ x y.length a cuts=p::r
 |[],p,cuts,a,f,hd,ha,hx,hc,hn=>by
  rw [CH] at hx
  have no:∀ k,a<=k->¬ j7 x y x.length k:=fun k hk h=>by
   have h1:=vZ hy h
   have:(x.cps.toList.drop a)[k-a]?=some d:=by rw [sA,show a+(k-a)=k by omega];exact h1
   rw [hx] at this
   exact hd p (by simp) (dL this)
  cases cuts with
  |cons c r=>exact absurd hc.2.1 (no c hc.1)
  |nil =>
   show [e8 x a x.length]=[p]
   refine congrArg (·::[]) (lr ?_)
   rw [fN,hx,nV]
   have:=congrArg lP hx
   rw [hU] at this
   rw [gI x]
   omega
 |q::r,p,cuts,a,f,hd,ha,hx,hc,hn=>by
  rw [qy] at hx
  have hx2:x.cps.toList.drop (a+p.cps.toList.length)=y.cps.toList++(aX y (q::r)).cps.toList:=by
   rw [<- xq,hx,l5]
  have yes:j7 x y x.length (a+p.cps.toList.length):=NF hy hx2
  have no:∀ k,a<=k->k<a+p.cps.toList.length->¬ j7 x y x.length k:=fun k hk hk2 h=>by
   have h1:=vZ hy h
   have:(x.cps.toList.drop a)[k-a]?=some d:=by rw [sA,show a+(k-a)=k by omega];exact h1
   rw [hx,bh (by omega)] at this
   exact hd p (by simp) (dL this)
  cases cuts with
  |nil =>
   have e:f=a:=hc
   exact absurd yes (hn _ (by omega))
  |cons c cs =>
   obtain ⟨c1,c2,c3,c4⟩:=hc
   have ec:c=a+p.cps.toList.length:=by
    rcases K1 c (a+p.cps.toList.length) with h|h|h
    ·exact absurd c2 (no c c1 h)
    ·exact h
    ·exact absurd yes (c3 _ (by omega) h)
   subst ec
   show e8 x a (a+p.cps.toList.length)::k_ x y.length (a+p.cps.toList.length+y.length) cs=p::q::r
   have e1:e8 x a (a+p.cps.toList.length)=p:=lr (by
    rw [fN,hx,Nat.add_sub_cancel_left,xp])
   have hx3:x.cps.toList.drop (a+p.cps.toList.length+y.length)=(aX y (q::r)).cps.toList:=by
    rw [<- xq,hx2,gI y,l5]
   rw [e1,v_ hy r q cs _ f (fun z hz=>hd z (by simp only [aQ] at hz ⊢;exact .inr hz)) (by have:=c2.1;omega) hx3 c4 hn]
theorem qz {y:Str}{d:Nat}{t:List Nat} (hy:y.cps.toList=d::t) (hk:Builtin.Str.strKind y=1) (p:Str) (r:List Str) (hd:∀ q∈p::r,d∉q.cps.toList):bi (aX y (p::r)) y=p::r:=by
 have ky:=PyProof.Rows.strKind_pos (aX y (p::r))
 have ly:1<=y.length:=by rw [gI y,hy];simp
 obtain ⟨f,h1,h2⟩:=StrLaws.occ_tight (aX y (p::r)) y ly
 have key:=v_ (x:=aX y (p::r)) hy r p _ 0 f hd (bT _) rfl h1 h2
 unfold bi
 split
 ·rename_i h
  simp only [jX,decide_eq_true_eq] at h
  rcases h with h|h
  ·cases r with
   |nil=>rfl
   |cons q r =>
    have:=congrArg lP (qy y p q r)
    rw [aI,aI,<- gI,<- gI y] at this
    omega
  ·omega
 ·split
  ·rename_i h
   have e:=List.isEmpty_iff.mp h
   rw [e] at key
   have e2:k_ (aX y (p::r)) y.length 0 []=[aX y (p::r)]:=by
    show [e8 _ 0 _]=_
    rw [StrLaws.sub_whole]
   rw [<- e2]
   exact key
  ·rw [lS]
   exact key
theorem CI {y a b:Str}{d:Nat}{t:List Nat} (hy:y.cps.toList=d::t) (hd:d∉a.cps.toList):aR (a++y++b) y=(a,y,b):=by
 have hx:(a++y++b).cps.toList=a.cps.toList++(y.cps.toList++b.cps.toList):=by
  rw [fv,de,fv,de,gz]
 have yes:j7 (a++y++b) y (a++y++b).length a.cps.toList.length:=NF (bE:=b.cps.toList) hy (by rw [hx,l5])
 have no:∀ k,k<a.cps.toList.length->¬ j7 (a++y++b) y (a++y++b).length k:=fun k hk h=>by
  have h1:=vZ hy h
  rw [hx,bh hk] at h1
  exact hd (dL h1)
 rcases StrLaws.occ_head (a++y++b) y 1 (al _) with ⟨_,h⟩|⟨i,r,h,h1,h2⟩
 ·exact absurd yes (h _)
 ·have ei:i=a.cps.toList.length:=by
   rcases K1 i a.cps.toList.length with z|z|z
   ·exact absurd h1 (no i z)
   ·exact z
   ·exact absurd yes (h2 _ z)
  unfold aR
  rw [h]
  simp only [ei]
  have e1:e8 (a++y++b) 0 a.cps.toList.length=a:=lr (by rw [fN,hx,q0,Nat.sub_zero,xp])
  have e2:e8 (a++y++b) (a.cps.toList.length+y.length) (a++y++b).length=b:=lr (by
   rw [fN,<- xq,hx,l5,gI y,l5,nV]
   rw [gI (a++y++b),hx,aI,aI]
   omega)
  rw [e1,e2]
def kU (e:oK):qv:=⟨e.name,e.needs,e.bars,e.makes,e.ends,.int e.price⟩
theorem y9 {x:Str} (h:lN x=true):nX 6 x:=by
 refine ⟨rT h,?_⟩
 unfold lN at h
 simp only [aC,decide_eq_true_eq] at h
 exact h.1.2.1
theorem Ju:∀ (xs:List Str),(∀ x∈xs,nX 6 x)->(xs.map (·.length)).sum<=xs.length*6
 |[],_=>bT _
 |x::r,h=>by
  have h1:=(h x (by simp)).2
  have h2:=Ju r fun y hy=>h y (by simp [hy])
  simp only [am,bX,aD,wq,wu]
  omega
theorem w5 {xs:List Str}{n:Nat} (hl:xs.length<=n) (hn:n<=6) (h:∀ x∈xs,lN x=true):Bh xs/\(xs.map (·.length)).sum+xs.length<=7*n:=by
 have w:=Ju xs fun x hx=>y9 (h x hx)
 exact ⟨⟨by omega,fun x hx=>(y9 (h x hx)).mono (by decide)⟩,by omega⟩
theorem Mb {fs:List Str}{n:Nat} (hl:fs.length<=n) (hn:n<=6) (hf:∀ x∈fs,lN x=true) {e:oK} (g:jK fs e):M6 (kU e):=by
 have s:∀ xs,Fx fs xs->Bh xs:=fun xs h=>(w5 (bv (tm xs fs (jw h.up) h.mem) hl) hn fun x hx=>hf x (h.mem x hx)).1
 refine ⟨(y9 g.name).mono (by decide),s _ g.needs,s _ g.bars,s _ g.makes,s _ g.ends,?_⟩
 have d:∀ i:_root_.Fin 10,eG (i.val:Int)=E5 (bc (toString (i.val:Int))):=by
  intro i
  have h1:(bc (toString (i.val:Int))).length=1:=mO (by omega) (by omega)
  unfold E5
  rw [if_pos h1]
  have:∀ i:_root_.Fin 10,(i.val:Int)=um "0123456789" (bc (toString (i.val:Int))):=by decide +kernel
  rw [<- this i]
 have p0:=g.p0
 have p9:=g.p9
 have:=d ⟨e.price.toNat,by omega⟩
 refine ⟨_,Eq.trans ?_ this⟩
 show eG e.price=.int ((e.price.toNat:Nat):Int)
 rw [cb p0]
theorem w6 {fs:List Str}{e:oK} (g:jK fs e):qx (kU e).price=true:=by
 show (decide (0<=e.price)&&decide (e.price<=9))=true
 rw [decide_eq_true g.p0,decide_eq_true g.p9]
 rfl
theorem zk (fs:List Str) (es:List oK):iY fs (es.map kU)=iR fs es:=by
 unfold iY iR
 rw [cB]
 rfl
theorem AR {fs:List Str}{es:List oK} (g:rW fs es):OY fs (es.map kU):=by
 refine ⟨(w5 g.rise.len (by decide) g.rise.ok).1,by rw [au];have:=g.len;omega,fun l hl=>?_⟩
 obtain ⟨e,he,rfl⟩:=List.mem_map.mp hl
 exact Mb g.rise.len (by decide) g.rise.ok (g.ok e he)
theorem Jv {fs:List Str}{ls:List qv} (h:OY fs ls) (h2:ls.length<=6) (hd:∀ l∈ls,qx l.price=true) (hb:e_ [iY fs ls]=.ok (.bool true)):rP [iY fs ls]=.ok (.str (Bj fs ls)):=by
 have hc:ph [iY fs ls]=.ok (iY fs ls):=by
  unfold ph
  refine cn ?_
  unfold pf bF
  walk_at "zz"
  rw [hb]
  walk_at "zz"
 unfold rP
 refine cn ?_
 unfold uH bF
 walk_at "zz"
 rw [hc]
 walk_at "zz"
 rw [zj h h2 hd]
 walk_at "zz"
theorem Jw {w:Str}{xs:List Str}{n:Nat} (hw:w.length<=5) (h:(xs.map (·.length)).sum+xs.length<=n):((kJ w xs).map (·.length)).sum+(kJ w xs).length*2<=n+7:=by
 unfold kJ
 split
 ·exact bT _
 ·have:=gH " " xs w
  simp only [am,dH,bX,List.sum_nil,aD,eR]
  rw [this,show (" " : Str).length=1 by decide]
  simp only [am,bX]
  omega
theorem Jx {fs a b:List Str} (hl:fs.length<=6) (hf:∀ x∈fs,lN x=true) (ha:Fx fs a) (hb:Fx fs b) (hd:∀ x∈a,x∉b):(a.map (·.length)).sum+a.length+((b.map (·.length)).sum+b.length)<=42:=by
 have nd:(a++b).Nodup:=List.nodup_append.mpr ⟨jw ha.up,jw hb.up,fun x hx y hy e=>hd x hx (e ▸ hy)⟩
 have sub:∀ x∈a++b,x∈fs:=fun x hx=>(List.mem_append.mp hx).elim (ha.mem x) (hb.mem x)
 have l:=tm (a++b) fs nd sub
 have w:=Ju (a++b) fun x hx=>y9 (hf x (sub x hx))
 rw [fV,o8] at w
 rw [aI] at l w
 omega
theorem zm {w:Str}{xs:List Str} (hw:w.length<=5):((kJ w xs).map (·.length)).sum+(kJ w xs).length*2<=(xs.map (·.length)).sum+xs.length+7:=Jw hw (al _)
theorem O_ {fs:List Str} (hl:fs.length<=6) (hf:∀ x∈fs,lN x=true) {e:oK} (g:jK fs e):(zQ (kU e)).length<=120:=by
 have s1:=Jx hl hf g.needs g.bars g.nb
 have s2:=Jx hl hf g.makes g.ends g.me
 have w1:=zm (w:="needs") (xs:=e.needs) (by decide)
 have w2:=zm (w:="bars") (xs:=e.bars) (by decide)
 have w3:=zm (w:="makes") (xs:=e.makes) (by decide)
 have w4:=zm (w:="ends") (xs:=e.ends) (by decide)
 have hn:=(y9 g.name).2
 have hh:(wV (kU e) (Jq (kU e))).length<=8:=by
  unfold wV
  rw [cm,cm,cm,mO (show 0<=Jq (kU e) from g.p0) (show Jq (kU e)<=9 from g.p9),show Str.empty.length=0 from rfl,show (" " : Str).length=1 by decide]
  show 0+e.name.length+1+1<=8
  omega
 show (aX ", " (jL (kU e) (Jq (kU e)))).length<=120
 unfold jL
 rw [gH,show (", " : Str).length=2 by decide]
 show ((wV (kU e) (Jq (kU e))::(kJ "needs" e.needs++kJ "bars" e.bars++kJ "makes" e.makes++kJ "ends" e.ends)).map (·.length)).sum+(kJ "needs" e.needs++kJ "bars" e.bars++kJ "makes" e.makes++kJ "ends" e.ends).length*2<=120
 simp only [am,fV,bX,o8,aI]
 omega
theorem Mc {fs:List Str}{es:List oK} (g:rW fs es):nX 900 (Bj fs (es.map kU)):=by
 refine ⟨NE (AR g) fun l hl=>?_,?_⟩
 ·obtain ⟨e,he,rfl⟩:=List.mem_map.mp hl
  exact w6 (g.ok e he)
 ·have hs:=CF zQ 120 (es.map kU) fun l hl=>by
   obtain ⟨e,he,rfl⟩:=List.mem_map.mp hl
   exact O_ g.rise.len g.rise.ok (g.ok e he)
  have hf:=gH " " fs "facts"
  have w:=(w5 g.rise.len (by decide) g.rise.ok).2
  have h4:=g.len
  unfold Bj
  rw [gH,show ("\n" : Str).length=1 by decide]
  simp only [am,bX,au] at hs hf ⊢
  rw [hf,show ("facts" : Str).length=5 by decide,show (" " : Str).length=1 by decide]
  have:es.length*120<=6*120:=Ew _ h4
  omega
def free (d:Nat) (x:Str):Prop:=d∉x.cps.toList
theorem jh {x:Str} (h:lN x=true) {d:Nat} (hd:d<97):free d x:=fun hc=>by
 unfold lN at h
 simp only [aC,cc,decide_eq_true_eq] at h
 have:=(h.2 d hc).1
 omega
theorem pE {d:Nat}{sep:Str} (hs:free d sep):∀ {xs:List Str},(∀ x∈xs,free d x)->free d (aX sep xs)
 |[],_=>fun hc=>(nomatch (show d∈([] : List Nat) from hc))
 |[x],h=>h x (by simp)
 |x::y::r,h=>fun hc=>by
  rw [qy] at hc
  rcases List.mem_append.mp hc with hc|hc
  ·exact h x (by simp) hc
  ·rcases List.mem_append.mp hc with hc|hc
   ·exact hs hc
   ·exact pE hs (xs:=y::r) (fun z hz=>h z (ao _ hz)) hc
theorem w9 {d:Nat}{x y:Str} (hx:free d x) (hy:free d y):free d (x++y):=fun hc=>by
 rw [fv,de] at hc
 exact (List.mem_append.mp hc).elim hx hy
instance (d:Nat) (x:Str):Decidable (free d x):=inferInstanceAs (Decidable (d∉x.cps.toList))
theorem uK:(" " : Str).cps.toList=32::[]:=by decide +kernel
theorem Md:(", " : Str).cps.toList=44::[32]:=by decide +kernel
theorem Me:("\n" : Str).cps.toList=10::[]:=by decide +kernel
theorem AS (w:Str) (xs:List Str) (hw:free 32 w) (h:∀ x∈xs,free 32 x):bi (aX " " (w::xs)) " "=w::xs :=
 qz uK (by decide +kernel) w xs fun q hq=>(List.mem_cons.mp hq).elim (fun e=>e ▸ hw) (h q)
theorem NG {w v:Str}{xs ps:List Str} (hv:free 32 v) (h:∀ x∈xs,free 32 x):wU w (kJ v xs++ps)=if xs.isEmpty then wU w ps else if v=w then xs else wU w ps:=by
 unfold kJ
 cases hx:xs.isEmpty with
 |true=>rfl
 |false =>
  have e:=AS v xs hv h
  have e1:OU (aX " " (v::xs))=v:=by unfold OU;rw [e];rfl
  have e2:K5 (aX " " (v::xs))=xs:=by unfold K5;rw [e];rfl
  simp only [bg,if_false,nC,jY]
  unfold wU
  rw [cU]
  simp only [e1]
  by_cases hvw:v=w
  ·simp only [hvw,decide_true,if_true]
   first|exact e2|(rw [<- hvw,e2])|(rw [<- hvw];exact e2)
  ·simp only [hvw,decide_false,if_false]
structure Jy (e:oK):Prop where
 needs:∀ x∈e.needs,lN x=true
 bars:∀ x∈e.bars,lN x=true
 makes:∀ x∈e.makes,lN x=true
 ends:∀ x∈e.ends,lN x=true
theorem Jz {fs:List Str} (hf:∀ x∈fs,lN x=true) {e:oK} (g:jK fs e):Jy e:=⟨fun x hx=>hf x (g.needs.mem x hx),fun x hx=>hf x (g.bars.mem x hx),fun x hx=>hf x (g.makes.mem x hx),fun x hx=>hf x (g.ends.mem x hx)⟩
abbrev r_ (e:oK):List Str:=kJ "needs" e.needs++kJ "bars" e.bars++kJ "makes" e.makes++kJ "ends" e.ends
theorem nG {w v:Str}{xs ps:List Str} (hv:free 32 v) (h:∀ x∈xs,lN x=true) (n:v≠w):wU w (kJ v xs++ps)=wU w ps:=by
 rw [NG hv fun x hx=>jh (h x hx) (by decide),if_neg n,ite_self]
theorem Eb {w:Str}{xs ps:List Str} (hv:free 32 w) (h:∀ x∈xs,lN x=true) (hp:wU w ps=[]):wU w (kJ w xs++ps)=xs:=by
 rw [NG hv fun x hx=>jh (h x hx) (by decide),if_pos rfl,hp]
 cases xs<;>rfl
theorem P0 {e:oK} (h:Jy e):wU "needs" (r_ e)=e.needs/\wU "bars" (r_ e)=e.bars/\wU "makes" (r_ e)=e.makes/\wU "ends" (r_ e)=e.ends:=by
 have f1:free 32 "needs":=by decide +kernel
 have f2:free 32 "bars":=by decide +kernel
 have f3:free 32 "makes":=by decide +kernel
 have f4:free 32 "ends":=by decide +kernel
 have er:r_ e=kJ "needs" e.needs++(kJ "bars" e.bars++(kJ "makes" e.makes++(kJ "ends" e.ends++[]))):=by
  unfold r_
  simp only [gz,bP]
 rw [er]
 refine ⟨?_,?_,?_,?_⟩
 ·exact Eb f1 h.needs (by rw [nG f2 h.bars (by decide +kernel),nG f3 h.makes (by decide +kernel),nG f4 h.ends (by decide +kernel)];rfl)
 ·rw [nG f1 h.needs (by decide +kernel)]
  exact Eb f2 h.bars (by rw [nG f3 h.makes (by decide +kernel),nG f4 h.ends (by decide +kernel)];rfl)
 ·rw [nG f1 h.needs (by decide +kernel),nG f2 h.bars (by decide +kernel)]
  exact Eb f3 h.makes (by rw [nG f4 h.ends (by decide +kernel)];rfl)
 ·rw [nG f1 h.needs (by decide +kernel),nG f2 h.bars (by decide +kernel),nG f3 h.makes (by decide +kernel)]
  exact Eb f4 h.ends rfl
theorem JA (d:Nat) (hd:d<48) {i:Int} (h0:0<=i) (h9:i<=9):free d (bc (toString i)):=by
 have k:∀ (a:_root_.Fin 10) (b:_root_.Fin 48),free b.val (bc (toString (a.val:Int))):=by decide +kernel
 have:=k ⟨i.toNat,by omega⟩ ⟨d,hd⟩
 simp only [cb h0] at this
 exact this
theorem Mf {e:oK} (hn:lN e.name=true) (h0:0<=e.price) (h9:e.price<=9) {d:Nat} (hd:d<48) (h32:d≠32):free d (wV (kU e) e.price):=by
 refine w9 (w9 (w9 ?_ (jh hn (by omega))) ?_) (JA d hd h0 h9)
 ·exact fun hc=>(nomatch (show d∈([] : List Nat) from hc))
 ·intro hc
  rw [uK] at hc
  exact h32 (List.mem_singleton.mp hc)
theorem uL {w:Str}{xs:List Str}{d:Nat} (hd:d<97) (h32:d≠32) (hw:free d w) (h:∀ x∈xs,lN x=true):∀ x∈kJ w xs,free d x:=by
 unfold kJ
 split
 ·exact fun x hx=>nomatch hx
 ·intro x hx
  rw [List.mem_singleton.mp hx]
  refine pE (fun hc=>h32 (by rw [uK] at hc;exact List.mem_singleton.mp hc)) fun y hy=>?_
  rcases List.mem_cons.mp hy with rfl|hy
  ·exact hw
  ·exact jh (h y hy) hd
theorem yb {e:oK} (hn:lN e.name=true) (h0:0<=e.price) (h9:e.price<=9) (h:Jy e) {d:Nat} (hd:d=44\/d=10):∀ x∈jL (kU e) e.price,free d x:=by
 have w:∀ d,d=44\/d=10->free d "needs"/\free d "bars"/\free d "makes"/\free d "ends":=by
  intro d hd
  rcases hd with rfl|rfl<;>decide +kernel
 obtain ⟨w1,w2,w3,w4⟩:=w d hd
 have d1:d<97:=by omega
 have d2:d≠32:=by omega
 intro x hx
 unfold jL at hx
 rcases List.mem_cons.mp hx with rfl|hx
 ·exact Mf hn h0 h9 (by omega) d2
 ·rcases List.mem_append.mp hx with hx|hx
  ·rcases List.mem_append.mp hx with hx|hx
   ·rcases List.mem_append.mp hx with hx|hx
    ·exact uL d1 d2 w1 h.needs x hx
    ·exact uL d1 d2 w2 h.bars x hx
   ·exact uL d1 d2 w3 h.makes x hx
  ·exact uL d1 d2 w4 h.ends x hx
theorem P1 {i:Int} (h0:0<=i) (h9:i<=9):E5 (bc (toString i))=.int i:=by
 unfold E5
 rw [if_pos (mO h0 h9)]
 have:∀ a:_root_.Fin 10,um "0123456789" (bc (toString (a.val:Int)))=(a.val:Int):=by decide +kernel
 have:=this ⟨i.toNat,by omega⟩
 simp only [cb h0] at this
 rw [this]
theorem Mh {fs:List Str} (hf:∀ x∈fs,lN x=true) {e:oK} (g:jK fs e):E6 (zQ (kU e))=kU e:=by
 have h:=Jz hf g
 have es:bi (zQ (kU e)) ", "=jL (kU e) e.price:=qz Md (by decide +kernel) _ _ (yb g.name g.p0 g.p9 h (.inl rfl))
 unfold E6
 simp only [es]
 have e1:(jL (kU e) e.price).headD ""=wV (kU e) e.price:=rfl
 have e2:(jL (kU e) e.price).tail=r_ e:=rfl
 obtain ⟨b1,b2,b3,b4⟩:=P0 h
 have ep:aR (wV (kU e) e.price) " "=(e.name,(" " : Str),bc (toString e.price)):=by
  unfold wV
  rw [Km]
  exact CI uK (jh g.name (by decide))
 rw [e1,e2,b1,b2,b3,b4,ep]
 simp only [P1 g.p0 g.p9]
 rfl
theorem Mi {fs:List Str}{es:List oK} (g:rW fs es):m_ (Bj fs (es.map kU))=fs/\n5 (Bj fs (es.map kU))=es.map kU:=by
 have e0:bi (Bj fs (es.map kU)) "\n"=aX " " ("facts"::fs)::(es.map kU).map zQ:=by
  refine qz Me (by decide +kernel) _ _ fun q hq=>?_
  rcases List.mem_cons.mp hq with rfl|hq
  ·refine pE (by decide +kernel) fun y hy=>?_
   rcases List.mem_cons.mp hy with rfl|hy
   ·decide +kernel
   ·exact jh (g.rise.ok y hy) (by decide)
  ·rw [cB] at hq
   obtain ⟨e,he,rfl⟩:=List.mem_map.mp hq
   have ge:=g.ok e he
   exact pE (by decide +kernel) (yb ge.name ge.p0 ge.p9 (Jz g.rise.ok ge) (.inr rfl))
 constructor
 ·unfold m_
  rw [e0]
  show (bi (aX " " ("facts"::fs)) " ").drop 1=fs
  rw [AS _ _ (by decide +kernel) fun x hx=>jh (g.rise.ok x hx) (by decide)]
  rfl
 ·unfold n5
  rw [e0]
  show ((es.map kU).map zQ).map E6=es.map kU
  rw [cB,cB]
  exact ki fun e he=>Mh g.rise.ok (g.ok e he)
theorem k8 (sep:Str):∀ (r:List Str) (x:Str),r.foldl (fun a p=>a++sep++p) x=aX sep (x::r)
 |[],x=>rfl
 |y::r,x=>by
  rw [jZ,k8 sep r,StrLaws.join_shift]
  rfl
theorem iS (x y:Str):(x++y).length=x.length+y.length:=cm _ _
theorem jr {x y:Str} (h:x.length+y.length<=100000):iX (.str x) (.str y)=.ok (.str (x++y)):=if_pos h
theorem s9 {α:Type}{kt:D->ap->R ap}{gb:ap->R Fl} (c:α->D) (sep:Str) (w:α->Str) (P:Str->ap->Prop) (n:Nat) :
  ∀ (xs:List α) (a:Str) (ρ:ap),(∀ x∈xs,∀ (a:Str) ρ,a.length+(sep.length+(w x).length)<=n->P a ρ->∃ ρ1 ρ',kt (c x) ρ=.ok ρ1/\gb ρ1=.ok (.nx ρ')/\P (a++sep++w x) ρ')->P a ρ->(xs.foldl (fun a x=>a++sep++w x) a).length<=n->∃ ρ',fQ kt gb (xs.map c) ρ=.ok (.nx ρ')/\P (xs.foldl (fun a x=>a++sep++w x) a) ρ'
 |[],a,ρ,_,p,_=>⟨ρ,rfl,p⟩
 |x::r,a,ρ,h,p,hn=>by
  rw [jZ] at hn ⊢
  have grow:∀ (l:List α) (b:Str),b.length<=(l.foldl (fun a x=>a++sep++w x) b).length:=by
   intro l
   induction l with
   |nil=>intro b;exact al _
   |cons y l ih =>
    intro b
    rw [jZ]
    have:=ih (b++sep++w y)
    rw [iS,iS] at this
    omega
  have hg:=grow r (a++sep++w x)
  rw [iS,iS] at hg
  obtain ⟨ρ1,ρ2,h1,h2,h3⟩:=h x (by simp) a ρ (by omega) p
  obtain ⟨ρ3,h4,h5⟩:=s9 c sep w P n r _ ρ2 (fun y hy=>h y (by simp [hy])) h3 hn
  refine ⟨ρ3,?_,h5⟩
  rw [am]
  unfold fQ
  rw [h1]
  simp only [h2]
  exact h4
theorem JC (sep a w:Str):∀ xs:List Str,aX sep ((a++w)::xs)=a++aX sep (w::xs)
 |[]=>rfl
 |y::r=>by
  show (a++w)++sep++aX sep (y::r)=a++(w++sep++aX sep (y::r))
  simp only [Str.append_assoc]
def zR (a w:Str) (xs:List Str):Str:=if xs.isEmpty then a else xs.foldl (fun a x=>a++(" " : Str)++x) (a++(", " : Str)++w)
theorem sd (a w:Str) (xs:List Str):zR a w xs=(kJ w xs).foldl (fun a x=>a++(", " : Str)++x) a:=by
 unfold zR kJ
 split
 ·rfl
 ·show _=a++(", " : Str)++aX " " (w::xs)
  rw [k8,JC]
theorem zo {a w:Str}{xs:List Str} (hw:w.length<=5) (h:∀ x∈xs,lN x=true) (hl:xs.length<=6):(zR a w xs).length<=a.length+49:=by
 have w2:=Jw (w:=w) (xs:=xs) hw (w5 hl (by decide) h).2
 rw [sd,k8,gH,show (", " : Str).length=2 by decide]
 simp only [am,bX]
 omega
theorem JD {xs:List Str} (h:∀ x∈xs,lN x=true):mH true (bu xs) (.tuple [])=.ok (.bool (!xs.isEmpty)):=by
 rw [zb xs h]
 cases xs<;>rfl
theorem FL {i:Nat}{kt:D->ap->R ap}{gb:ap->R Fl}{ρ:ap}{ds:List D} (h:ρ[i]?=some (.shr (.tuple ds))):nF i kt gb ρ=fQ kt gb ds ρ:=by
 unfold nF
 rw [h]
 simp only
 unfold mK m7
 have:yH ρ i=.ok (.tuple ds):=by unfold yH;rw [h]
 simp only [this,bind_ok]
 rfl
theorem pG {w a:Str}{xs:List Str}{e z4:Sl} (hw:w.length<=5) (ha:a.length<=500) (h:∀ x∈xs,lN x=true) (hl:xs.length<=6):∃ z,
  f_ (iU (g2 (rB 3) (eP J.aV .tuple) (mH true))) (bz (eV 1 (g2 (g2 (rB 1) (fun _=>.ok (.str ", ")) iX) (rB 2) iX)) (nF 3 (bR 4) (eV 1 (g2 (g2 (rB 1) (fun _=>.ok (.str " ")) iX) (rB 4) iX)))) (fun ρ=>.ok (.nx ρ)) [e,.shr (.str a),.shr (.str w),.shr (bu xs),z4]=.ok (.nx [e,.shr (.str (zR a w xs)),.shr (.str w),.shr (bu xs),z]):=by
 have l2:=zo (a:=a) hw h hl
 rw [Lu]
 walk_at "zz"
 rw [JD h]
 walk_at "zz"
 unfold zR at l2 ⊢
 cases hx:xs.isEmpty with
 |true =>
  refine ⟨z4,?_⟩
  simp only [ip,cond_false,if_true]
 |false =>
  simp only [hx,bg,if_false] at l2
  simp only [gX,cond_true,bg,if_false]
  obtain ⟨ρ',h1,z,h2⟩:=s9 (kt:=bR 4) (gb:=eV 1 (g2 (g2 (rB 1) (fun _=>.ok (.str " ")) iX) (rB 4) iX)) (fun x:Str=>av x) " " (fun x=>x) (fun a ρ=>∃ z,ρ=[e,.shr (.str a),.shr (.str w),.shr (bu xs),z]) 1000 xs (a++(", " : Str)++w) [e,.shr (.str (a++(", " : Str)++w)),.shr (.str w),.shr (bu xs),z4] (by
   rintro x _ a ρ hn ⟨z,rfl⟩
   refine ⟨_,[e,.shr (.str (a++(" " : Str)++x)),.shr (.str w),.shr (bu xs),.shr (.str x)],rfl,?_,_,rfl⟩
   show eV 1 _ [e,.shr (.str a),.shr (.str w),.shr (bu xs),.shr (.str x)]=_
   walk_at "zz"
   rw [jr (by omega)]
   walk_at "zz"
   rw [jr (by rw [iS];omega)]
   walk_at "zz") ⟨_,rfl⟩ (by omega)
  refine ⟨z,?_⟩
  rw [jr (by rw [show (", " : Str).length=2 by decide];omega)]
  walk_at "zz"
  rw [jr (by rw [iS,show (", " : Str).length=2 by decide];omega)]
  walk_at "zz"
  rw [FL rfl]
  exact h1.trans (by rw [h2])
theorem Ra (l:oK) (t:Str):DT (J.af (eP (J.af (fun _=>.ok (.str "needs")) (J.af (fun _=>.ok (.str "bars")) (J.af (fun _=>.ok (.str "makes")) (J.af (fun _=>.ok (.str "ends")) J.aV)))) .list) (J.af (Gb (rB 0) (Bg (kI 1)) (Bg (kI 5))) J.aV)) [.shr (eN l),.shr (.str t),.no,.no,.no]=.ok [.tuple [.str "needs",bu l.needs],.tuple [.str "bars",bu l.bars],.tuple [.str "makes",bu l.makes],.tuple [.str "ends",bu l.ends]]:=id rfl
theorem Mj {i:Int} (h0:0<=i) (h9:i<=9):IY (.int i)=.ok (.str (bc (toString i))):=if_pos ⟨h0,h9⟩
theorem JF {fs:List Str} (hr:J4 fs 6) {e:oK} (g:jK fs e):kE [eN e]=.ok (.str (zQ (kU e))):=by
 have h:=Jz hr.ok g
 have l1:=ll g.needs hr.len
 have l2:=ll g.bars hr.len
 have l3:=ll g.makes hr.len
 have l4:=ll g.ends hr.len
 have hn:=(y9 g.name).2
 have dl:=mO g.p0 g.p9
 let t0:Str:=e.name++(" " : Str)++bc (toString e.price)
 have ht0:t0.length<=8:=by
  show (e.name++(" " : Str)++bc (toString e.price)).length<=8
  rw [iS,iS,dl,show (" " : Str).length=1 by decide]
  omega
 have k1:=zo (a:=t0) (w:="needs") (by decide) h.needs l1
 have k2:=zo (a:=zR t0 "needs" e.needs) (w:="bars") (by decide) h.bars l2
 have k3:=zo (a:=zR (zR t0 "needs" e.needs) "bars" e.bars) (w:="makes") (by decide) h.makes l3
 obtain ⟨z1,t1⟩:=pG (w:="needs") (a:=t0) (e:=.shr (eN e)) (z4:=.no) (by decide) (by omega) h.needs l1
 obtain ⟨z2,t2⟩:=pG (w:="bars") (a:=zR t0 "needs" e.needs) (e:=.shr (eN e)) (z4:=z1) (by decide) (by omega) h.bars l2
 obtain ⟨z3,t3⟩:=pG (w:="makes") (a:=zR (zR t0 "needs" e.needs) "bars" e.bars) (e:=.shr (eN e)) (z4:=z2) (by decide) (by omega) h.makes l3
 obtain ⟨z4,t4⟩:=pG (w:="ends") (a:=zR (zR (zR t0 "needs" e.needs) "bars" e.bars) "makes" e.makes) (e:=.shr (eN e)) (z4:=z3) (by decide) (by omega) h.ends l4
 have fr:fQ (mI 2 (cJ (bR 2) (cJ (bR 3) oB))) (f_ (iU (g2 (rB 3) (eP J.aV .tuple) (mH true))) (bz (eV 1 (g2 (g2 (rB 1) (fun _=>.ok (.str ", ")) iX) (rB 2) iX)) (nF 3 (bR 4) (eV 1 (g2 (g2 (rB 1) (fun _=>.ok (.str " ")) iX) (rB 4) iX)))) (fun ρ=>.ok (.nx ρ))) [.tuple [.str "needs",bu e.needs],.tuple [.str "bars",bu e.bars],.tuple [.str "makes",bu e.makes],.tuple [.str "ends",bu e.ends]] [.shr (eN e),.shr (.str t0),.no,.no,.no]=.ok (.nx [.shr (eN e),.shr (.str (zQ (kU e))),.shr (.str "ends"),.shr (bu e.ends),z4]):=by
  have k:∀ (w:Str) (xs:List Str) (a b c d f:Sl),mI 2 (cJ (bR 2) (cJ (bR 3) oB)) (.tuple [.str w,bu xs]) [a,b,c,d,f]=.ok [a,b,.shr (.str w),.shr (bu xs),f]:=fun _ _ _ _ _ _ _=>id rfl
  unfold fQ
  rw [k]
  simp only
  rw [t1]
  simp only
  unfold fQ
  rw [k]
  simp only
  rw [t2]
  simp only
  unfold fQ
  rw [k]
  simp only
  rw [t3]
  simp only
  unfold fQ
  rw [k]
  simp only
  rw [t4]
  simp only
  unfold fQ
  have eh:wV (kU e) e.price=t0:=by
   unfold wV
   rw [Km]
   rfl
  have ee:zR (zR (zR (zR t0 "needs" e.needs) "bars" e.bars) "makes" e.makes) "ends" e.ends=zQ (kU e):=by
   show _=aX ", " (wV (kU e) e.price::r_ e)
   rw [<- k8,eh]
   unfold r_
   rw [tS,tS,tS,sd,sd,sd,sd]
  rw [ee]
 unfold kE
 refine cn ?_
 unfold mT bF
 walk_at "zz"
 rw [show bJ (eN e) (.int 0)=.ok (.str e.name) from id rfl]
 walk_at "zz"
 rw [jr (by rw [show (" " : Str).length=1 by decide];omega)]
 walk_at "zz"
 rw [show bJ (eN e) (.int 5)=.ok (.int e.price) from id rfl]
 walk_at "zz"
 rw [Mj g.p0 g.p9]
 walk_at "zz"
 rw [jr (by rw [iS,show (" " : Str).length=1 by decide,dl];omega)]
 walk_at "zz"
 rw [xS (h:=Ra e _)]
 refine Eq.trans (congrArg (fun r=>R.bind r (Fe (eC (rS 1)))) fr) ?_
 walk_at "zz"
theorem sq {a b:ap->R Fl}{ρ ρ':ap}{r:R Fl} (h1:a ρ=.ok (.nx ρ')) (h2:b ρ'=r):bz a b ρ=r:=by
 unfold bz
 rw [h1]
 exact h2
theorem Rb {g:ap->R D}{ρ:ap}{d:D} (h:g (d_ ρ)=.ok d):eC g ρ=.ok (.rt d):=by
 unfold eC
 rw [h]
 rfl
theorem NH {ga gb:ap->R D}{h:D->D->R D}{ρ:ap}{x y d:D} (h1:ga ρ=.ok x) (h2:gb ρ=.ok y) (h3:h x y=.ok d):g2 ga gb h ρ=.ok d:=by
 unfold g2
 rw [h1,bind_ok,h2,bind_ok,h3]
theorem zY {n:Nat}{F:List D->R D}{gs:ap->R (List D)}{ρ:ap}{ds:List D}{r:R D} (h1:gs ρ=.ok ds) (h2:ds.length=n) (h3:F ds=r):ir n F gs ρ=r:=by
 unfold ir
 rw [h1,bind_ok,if_pos h2,h3]
theorem P2 {i:Nat}{g:ap->R D}{ρ:ap}{d:D} (h:g ρ=.ok d):eV i g ρ=.ok (.nx (ρ.set i (.shr d))):=by
 unfold eV
 rw [h]
 rfl
theorem JH {x y:D} (h:mP [x]=.ok y):kF [x]=.ok y:=by
 unfold kF
 refine cn ?_
 unfold mU bF H_
 walk_at "zz"
 rw [h]
 rfl
theorem JJ {gi:ap->R (List D)}{kt:D->ap->R ap}{gb:ap->R Fl}{ρ:ap}{ds:List D}{r:R Fl} (h:gi ρ=.ok ds) (h2:fQ kt gb ds ρ=r):mK gi kt gb ρ=r:=by
 unfold mK
 rw [h]
 exact h2
theorem Mk {g h:ap->R D}{ρ:ap}{r:R D} (h1:g ρ=.ok (.bool true)) (h2:h ρ=r):tY g h ρ=r:=by
 unfold tY iU
 rw [h1]
 exact h2
theorem law_true (ns:List Int):F_law [.list (ns.map .int)]=.ok (.bool true):=by
 obtain ⟨fs,es,hb,gb,_,_⟩:=M1 ns 100 (by decide) 6 6 (by decide) (by decide) (by decide) (by decide)
 have hK:=AR gb
 have hs:rP [iR fs es]=.ok (.str (Bj fs (es.map kU))):=by
  rw [<- zk]
  refine Jv hK (by rw [au];exact gb.len) (fun l hl=>?_) (by rw [zk];exact y7 gb)
  obtain ⟨e,he,rfl⟩:=List.mem_map.mp hl
  exact w6 (gb.ok e he)
 have hT:=Mc gb
 have hT2:=hT.2
 obtain ⟨b1,b2⟩:=Mi gb
 have htx:gR [iR fs es]=.ok (.str (Bj fs (es.map kU))):=by
  rw [<- zk]
  refine zj hK (by rw [au];exact gb.len) fun l hl=>?_
  obtain ⟨e,he,rfl⟩:=List.mem_map.mp hl
  exact w6 (gb.ok e he)
 have hrd:kF [.str (Bj fs (es.map kU))]=.ok (iR fs es):=by
  refine JH ?_
  have:=Ma (x:=Bj fs (es.map kU)) (hT.mono (by decide))
  rw [b1,b2,zk] at this
  exact this (y7 gb) htx
 have e1:es.foldl (fun a e=>a++("\n" : Str)++zQ (kU e)) (aX " " ("facts"::fs))=Bj fs (es.map kU):=by
  unfold Bj
  rw [<- k8 "\n",xo,xo]
 have e0:fs.foldl (fun a p=>a++(" " : Str)++p) ("facts" : Str)=aX " " ("facts"::fs):=k8 _ _ _
 have hf:=gH " " fs "facts"
 have hw:=(w5 gb.rise.len (by decide) gb.rise.ok).2
 have hfl:(aX " " ("facts"::fs)).length<=100:=by
  rw [hf,show (" " : Str).length=1 by decide]
  simp only [am,bX]
  rw [show ("facts" : Str).length=5 by decide]
  omega
 obtain ⟨ρ1,f1,z3,f2⟩:=s9 (kt:=bR 3) (gb:=eV 2 (g2 (g2 (rB 2) (fun _=>.ok (.str " ")) iX) (rB 3) iX)) (fun x:Str=>av x) " " (fun x=>x) (fun a ρ=>∃ z,ρ=[.shr (.list (ns.map .int)),.shr (iR fs es),.shr (.str a),z,.no]) 1000 fs "facts" [.shr (.list (ns.map .int)),.shr (iR fs es),.shr (.str "facts"),.no,.no] (by
   rintro x _ a ρ hn ⟨z,rfl⟩
   refine ⟨_,[.shr (.list (ns.map .int)),.shr (iR fs es),.shr (.str (a++(" " : Str)++x)),.shr (.str x),.no],rfl,?_,_,rfl⟩
   show eV 2 _ [.shr (.list (ns.map .int)),.shr (iR fs es),.shr (.str a),.shr (.str x),.no]=_
   walk_at "zz"
   rw [jr (by omega)]
   walk_at "zz"
   rw [jr (by rw [iS];omega)]
   walk_at "zz") ⟨_,rfl⟩ (by rw [e0];omega)
 rw [e0] at f2
 subst f2
 obtain ⟨ρ2,g1,z4,g2'⟩:=s9 (kt:=bR 4) (gb:=eV 2 (g2 (g2 (rB 2) (fun _=>.ok (.str "\n")) iX) (ir 1 kE (J.af (rS 4) J.aV)) iX)) eN "\n" (fun e=>zQ (kU e)) (fun a ρ=>∃ z,ρ=[.shr (.list (ns.map .int)),.shr (iR fs es),.shr (.str a),z3,z]) 1000 es (aX " " ("facts"::fs)) [.shr (.list (ns.map .int)),.shr (iR fs es),.shr (.str (aX " " ("facts"::fs))),z3,.no] (by
   rintro e he a ρ hn ⟨z,rfl⟩
   refine ⟨_,[.shr (.list (ns.map .int)),.shr (iR fs es),.shr (.str (a++("\n" : Str)++zQ (kU e))),z3,.shr (eN e)],rfl,?_,_,rfl⟩
   show eV 2 _ [.shr (.list (ns.map .int)),.shr (iR fs es),.shr (.str a),z3,.shr (eN e)]=_
   walk_at "zz"
   rw [jr (by omega)]
   walk_at "zz"
   rw [JF gb.rise (gb.ok e he)]
   walk_at "zz"
   rw [jr (by rw [iS];omega)]
   walk_at "zz") ⟨_,rfl⟩ (by rw [e1];omega)
 rw [e1] at g2'
 subst g2'
 unfold F_law
 refine cn ?_
 unfold DU
 refine sq (P2 (zY rfl rfl hb)) (sq rfl (sq (JJ rfl f1) (sq (JJ rfl g1) (Rb (Mk (NH (zY rfl rfl hs) rfl ?_) (NH (zY rfl rfl hrd) rfl (M4 gb)))))))
 rw [zf false hT.1 hT.1]
 simp
end Z
end
namespace Z
open PySem L2 J
section
def u5 (i:Nat):du:=PySem.Challenge.pw_errands_k35_whole_texts.main.body.getD i (.Pass ⟨0,0,0,0⟩)
section
variable {e:En}
abbrev oP:du:=u5 44
def AT:List Str:=["NoBook","NoState","NoWant","NoErrand","NoRow","NoWay","NoPaper","NoFacts","NoNumber","Nothing","NoText"]
theorem se:bN ["_law_e","_law_own"] ["_law_e"] (aB oP):=fi (by decide +kernel)
theorem wW {f:ac}{fd:db} (F:Bf e.K "_law_which" "_law_which" oP f fd) (B:Bi e.mg) (mv:e.mg "ValueError"=none) (mc:∀ n∈AT,e.mg n=some (.ref (e.cls n))):Ah e.P e.w e.K e.mg e.base 1 f fd ["_law_e"] (OC e.K e.base e.cls AT):=by
 refine F.okH se (fun vs H Q E h=>?_) (fun cdv A outer s H vs Q E hr h=>?_)
 ·obtain ⟨_,_,_,rfl,_⟩:=h;rfl
 obtain ⟨ea,C,j,rfl,hH,x,q⟩:=h
 refine ⟨_,iJ (yp (i:=1) se.nd rfl (fF rfl) (lF (bI (kw (names:=AT) (cls:=e.cls) (base:=e.base) (pv 0) rfl B.isinstance rfl (mc "NoBook" (by decide +kernel))) (bI (kw (names:=AT) (cls:=e.cls) (base:=e.base) (pv 0) rfl B.isinstance rfl (mc "NoState" (by decide +kernel))) (bI (kw (names:=AT) (cls:=e.cls) (base:=e.base) (pv 0) rfl B.isinstance rfl (mc "NoWant" (by decide +kernel))) (bI (kw (names:=AT) (cls:=e.cls) (base:=e.base) (pv 0) rfl B.isinstance rfl (mc "NoErrand" (by decide +kernel))) dS))))))
  (iJ (uC (xA dO wG wH xC (pv 1) (bI (lF (bI (kw (names:=AT) (cls:=e.cls) (base:=e.base) (pv 0) rfl B.isinstance rfl (mc "NoRow" (by decide +kernel))) (bI (kw (names:=AT) (cls:=e.cls) (base:=e.base) (pv 0) rfl B.isinstance rfl (mc "NoWay" (by decide +kernel))) (bI (kw (names:=AT) (cls:=e.cls) (base:=e.base) (pv 0) rfl B.isinstance rfl (mc "NoPaper" (by decide +kernel))) (bI (kw (names:=AT) (cls:=e.cls) (base:=e.base) (pv 0) rfl B.isinstance rfl (mc "NoFacts" (by decide +kernel))) dS))))) dS)))
  (iJ (uC (xA dO wG wH xC (pv 1) (bI (lF (bI (kw (names:=AT) (cls:=e.cls) (base:=e.base) (pv 0) rfl B.isinstance rfl (mc "NoNumber" (by decide +kernel))) (bI (kw (names:=AT) (cls:=e.cls) (base:=e.base) (pv 0) rfl B.isinstance rfl (mc "Nothing" (by decide +kernel))) (bI (kw (names:=AT) (cls:=e.cls) (base:=e.base) (pv 0) rfl B.isinstance rfl (mc "NoText" (by decide +kernel))) dS)))) dS)))
  (iJ (Mq (PW.pt (Mp (D9 Po (xA dO xl PySem.F.type_list_count EY (pv 1) (bI Gv dS)) Gu (BO _)) (Gy (Gz (Gx (Lp (names:=AT) (cls:=e.cls) (base:=e.base) (pv 0) rfl B.isinstance rfl mv)))))) lT D8)
  (yn (BI (GK (bI BH (bI (xA dO xm PySem.F.type_list_index EZ (pv 1) (bI Gv dS)) dS)))))))),?_⟩
 refine ⟨ea,C,j,0,rfl,hH,x,rfl,ea,C,j,1,rfl,hH,x,rfl,ea,C,j,2,rfl,hH,x,rfl,ea,C,j,3,rfl,hH,x,rfl,bw (cq (show 4<=1000 by decide)),fun p hp=>?_⟩
 have np:ea≠p:=aS hH hp
 have hH1:∀ o,upd H p o ea=some (vk ea C):=fun o=>by rw [aL np];exact hH
 refine ⟨_,rfl,.inl ⟨rfl,_,.of aK⟩,?_⟩
 refine ⟨ea,C,j,4,rfl,hH1 _,x,rfl,ea,C,j,5,rfl,hH1 _,x,rfl,ea,C,j,6,rfl,hH1 _,x,rfl,ea,C,j,7,rfl,hH1 _,x,rfl,bw (cq (show 4<=1000 by decide)),fun p2 hp2=>?_⟩
 have np2:p≠p2:=aS aK hp2
 have ne2:ea≠p2:=aS (hH1 _) hp2
 refine ⟨p,p2,([decide (0=j),decide (1=j),decide (2=j),decide (3=j)].map V.bl),_,rfl,rfl,by rw [aL np2];exact aK,aK,bw (cq (show 8<=1000 by decide)),?_⟩
 have hH2:∀ o u,upd (upd (upd H p o) p2 u) p (.lst (([decide (0=j),decide (1=j),decide (2=j),decide (3=j)]++[decide (4=j),decide (5=j),decide (6=j),decide (7=j)]).map V.bl)) ea=some (vk ea C):=fun o u=>by rw [aL np,aL ne2];exact hH1 _
 refine ⟨_,rfl,.inl ⟨rfl,_,.of aK⟩,?_⟩
 refine ⟨ea,C,j,8,rfl,hH2 _ _,x,rfl,ea,C,j,9,rfl,hH2 _ _,x,rfl,ea,C,j,10,rfl,hH2 _ _,x,rfl,bw (cq (show 3<=1000 by decide)),fun p3 hp3=>?_⟩
 have np3:p≠p3:=aS aK hp3
 have ne3:ea≠p3:=aS (hH2 _ _) hp3
 refine ⟨p,p3,(([decide (0=j),decide (1=j),decide (2=j),decide (3=j)]++[decide (4=j),decide (5=j),decide (6=j),decide (7=j)]).map V.bl),_,rfl,rfl,by rw [aL np3];exact aK,aK,bw (cq (show 11<=1000 by decide)),?_⟩
 refine ⟨_,rfl,.inl ⟨rfl,_,.of aK⟩,p,uw j,rfl,rfl,.of aK,?_⟩
 rw [Cr j x.lt]
 refine ⟨rfl,_,rfl,wK ⟨ea,C,j,rfl,?_,x,_,rfl,wK ?_⟩⟩
 ·rw [aL np,aL ne3];exact hH2 _ _
 obtain ⟨b1,b2⟩:=Lo j x.lt
 refine ⟨_,rfl,.inl ⟨rfl,_,.of aK⟩,p,uw j,j,rfl,rfl,.of aK,b1,b2,bw (ay x.lt (by decide)),bw (cq (show 2<=1000 by decide)),fun t ht=>?_⟩
 have s1:cR H _:=i3 (o:=.lst ([decide (0=j),decide (1=j),decide (2=j),decide (3=j)].map V.bl)) hp
 have hpn:∀ b o,H b=some o->b≠p:=fun b o e=>aS e hp
 have hp2n:∀ b o,H b=some o->b≠p2:=fun b o e=>aS (s1 b o e) hp2
 have hp3n:∀ b o,H b=some o->b≠p3:=fun b o e=>aS (by rw [aL (hpn b o e),aL (hp2n b o e)];exact s1 b o e) hp3
 have old:∀ b o,H b=some o->b≠t:=fun b o e=>aS (by rw [aL (hpn b o e),aL (hp3n b o e),aL (hpn b o e),aL (hp2n b o e)];exact s1 b o e) ht
 refine q t _ (fun b o e=>?_) ?_ aK
 ·rw [aL (old b o e),aL (hpn b o e),aL (hp3n b o e),aL (hpn b o e),aL (hp2n b o e)];exact s1 b o e
 ·cases z:H t with
  |none=>rfl
  |some o=>exact (old t o z rfl).elim
abbrev jT:du:=u5 18
abbrev sf:List Str:=["one","other"]
theorem wX:bN sf ["one","other"] (aB jT):=fi (by decide +kernel)
abbrev sg (e:En):=FN e "share_none" 1 2 eQ
theorem wY (D:jE e.K e.mg "share_none" jT) (B:Bi e.mg):sg e:=uF (k:=0) (g:=iP) D wX b2 fun _ _ _ _ _ _ _ hr=>by unfold iP;exact (a_ (cg (Ot (cP (Ox rfl) rfl B.any PyProof.Rows.boot_any (bO (JE.bor (JN.je (iN (N':=["fact","other"]) (ix:=[1]) 1 (by decide) rfl (da (so:=aB jT) (N:=sf) (by decide +kernel)) (iM (ai 0)) (fun cl A0 s0 H0 ex pn=>⟨dQ (i:=0) (by show (["fact","other"] : List Str).Nodup;decide +kernel) rfl (.inl rfl),fX,(s_ (MK) (ai 0) (ai 1))⟩)))) cC)))))
abbrev pH:du:=u5 19
abbrev yc:List Str:=["thing"]
theorem CJ:bN yc ["thing"] (aB pH):=fi (by decide +kernel)
abbrev tq (e:En):=FN e "is_word" 1 1 fJ
theorem CK (D:jE e.K e.mg "is_word" pH) (B:Bi e.mg) (kK:Cn e.mg "MOST_LETTERS" 6):tq e:=uF (k:=0) (g:=jd) D CJ b1 fun _ _ _ _ _ _ _ hr=>by unfold jd;exact (aM (i4 (JW.t (rJ (g_ (gZ (oA (ai 0) rfl B.isinstance rfl B.str lM (by decide)))) (mG (g_ (HX (xM) (xM) (JE.bor aJ) (JE.bor (cP jb rfl B.len cp (bO (ai 0) cC))) (JE.bor (rH rfl kK))))))) (a_ (cg ou)) dB) (a_ (cg (cP (t5 rfl) rfl B.all ed (bO (JE.bor (JN.je (iN (N':=["sign"]) (ix:=[]) 1 (by decide) rfl (da (so:=aB pH) (N:=yc) (by decide +kernel)) (iM (ai 0)) (fun cl A0 s0 H0 ex pn=>⟨dQ (i:=0) (by show (["sign"] : List Str).Nodup;decide +kernel) rfl (.inl rfl),fX,(Av (xM) (xM) (JE.bor eB) (ai 0) (JE.bor eB))⟩)))) cC)))))
abbrev eD:du:=u5 20
abbrev il:List Str:=["thing"]
theorem pY:bN il ["thing"] (aB eD):=fi (by decide +kernel)
abbrev im (e:En):=FN e "are_rising_words" 2 1 cj
theorem pZ (D:jE e.K e.mg "are_rising_words" eD) (B:Bi e.mg) (k9:tq e):im e:=uF (k:=1) (g:=dn) D pY b1 fun _ _ _ _ _ _ _ hr=>by unfold dn;exact (aM (i4 (JW.t (rJ (g_ (gZ (oA (ai 0) rfl B.isinstance rfl B.tuple bx (by decide)))) (mG (g_ (gZ (cP (t5 rfl) rfl B.all ed (bO (JE.bor (JN.je (iN (N':=["word"]) (ix:=[]) 1 (by decide) rfl (da (so:=aB eD) (N:=il) (by decide +kernel)) (iM (ai 0)) (fun cl A0 s0 H0 ex pn=>⟨dQ (i:=0) (by show (["word"] : List Str).Nodup;decide +kernel) rfl (.inl rfl),fX,(jc k9 hr fR (ag (ar 0) aT))⟩)))) cC))))))) (a_ (cg ou)) dB) (a_ (cg (cP (t5 rfl) rfl B.all ed (bO (JE.bor (JN.je (iN (N':=["low","high"]) (ix:=[]) 2 (by decide) rfl (da (so:=aB eD) (N:=il) (by decide +kernel)) (Gd.i (Lk rfl B.zip (ag (ar 0) (ag (kq (ai 0) (jO aJ) rL) aT)))) (fun cl A0 s0 H0 ex pn=>⟨GD rfl (re (dQ (i:=0) (by show (["low","high"] : List Str).Nodup;decide +kernel) rfl (.inl rfl)) (re (dQ (i:=1) (by show (["low","high"] : List Str).Nodup;decide +kernel) rfl (.inl rfl)) yo)),fX,(s_ (Dv) (ai 0) (ai 1))⟩)))) cC)))))
abbrev lu:du:=u5 21
abbrev u6:List Str:=["book_facts","thing"]
theorem zq:bN u6 ["book_facts","thing"] (aB lu):=fi (by decide +kernel)
abbrev u7 (e:En):=FN e "are_facts" 3 2 el
theorem zr (D:jE e.K e.mg "are_facts" lu) (B:Bi e.mg) (dq:im e):u7 e:=uF (k:=2) (g:=iy) D zq b2 fun _ _ _ _ _ _ _ hr=>by unfold iy;exact (a_ (cg (Cb (jc dq hr px (ag (ar 1) aT)) (Ca (cP (t5 rfl) rfl B.all ed (bO (JE.bor (JN.je (iN (N':=["fact","book_facts"]) (ix:=[0]) 1 (by decide) rfl (da (so:=aB lu) (N:=u6) (by decide +kernel)) (iM (ai 1)) (fun cl A0 s0 H0 ex pn=>⟨dQ (i:=0) (by show (["fact","book_facts"] : List Str).Nodup;decide +kernel) rfl (.inl rfl),fX,(s_ (MK) (ai 0) (ai 1))⟩)))) cC))))))
abbrev qA:du:=u5 22
abbrev CL:List Str:=["thing","least","most"]
theorem AU:bN CL ["thing","least","most"] (aB qA):=fi (by decide +kernel)
abbrev wa (e:En):=FN e "is_whole" 1 3 ik
theorem AV (D:jE e.K e.mg "is_whole" qA) (B:Bi e.mg):wa e:=uF (k:=0) (g:=jf) D AU b3 fun _ _ _ _ _ _ _ hr=>by unfold jf;exact (aM (i4 (JW.t (rJ (g_ (gZ (oA (ai 0) rfl B.isinstance rfl B.int PyProof.Rows.boot_int (by decide)))) (mG (gZ (oA (ai 0) rfl B.isinstance rfl B.bool PyProof.Rows.boot_bool (by decide)))))) (a_ (cg ou)) dB) (a_ (cg (Av (xM) (xM) (ai 1) (ai 0) (ai 2)))))
abbrev lv:du:=u5 23
abbrev u9:List Str:=["book_facts","thing","name","needs","bars","makes","ends","price"]
theorem fE:bN u9 ["book_facts","thing"] (aB lv):=fi (by decide +kernel)
abbrev ua (e:En):=FN e "is_errand" 4 2 fj
theorem zt (D:jE e.K e.mg "is_errand" lv) (B:Bi e.mg) (k9:tq e) (qB:wa e) (oQ:u7 e) (jU:sg e) (n6:Cn e.mg "MOST_PRICE" 9):ua e:=uF (k:=3) (g:=iz) D fE b2 fun _ _ _ _ _ _ _ hr=>by have hu64:=hr.units;unfold iz;exact (aM (i4 (JW.t (rJ (g_ (gZ (oA (ai 1) rfl B.isinstance rfl B.tuple bx (by decide)))) (mG (fO (xL hu64) (JE.bor (cP jb rfl B.len cp (bO (ai 1) cC))) (JE.bor aJ))))) (a_ (cg ou)) dB) (aM (Cg (ar 1) (t6 rfl (dG (cV 2 fE.nd) (dG (cV 3 fE.nd) (dG (cV 4 fE.nd) (dG (cV 5 fE.nd) (dG (cV 6 fE.nd) (dG (cV 7 fE.nd) pd)))))))) (aM (i4 (JW.t (rJ (g_ (gZ (jc k9 hr px (ag (ar 2) aT)))) (mG (g_ (gZ (jc qB hr px (ag (ar 7) (ag aJ (ag (rH rfl n6) aT))))))))) (a_ (cg ou)) dB) (aM (i4 (g_ (gZ (cP (t5 rfl) rfl B.all ed (bO (JE.bor (JN.je (iN (N':=["facts","book_facts"]) (ix:=[0]) 1 (by decide) rfl (da (so:=aB lv) (N:=u9) (by decide +kernel)) (iM (JE.bor (ja (ag (ar 3) (ag (ar 4) (ag (ar 5) (ag (ar 6) aT))))))) (fun cl A0 s0 H0 ex pn=>⟨dQ (i:=0) (by show (["facts","book_facts"] : List Str).Nodup;decide +kernel) rfl (.inl rfl),fX,(jc oQ hr fR (ag (ar 1) (ag (ar 0) aT)))⟩)))) cC)))) (a_ (cg ou)) dB) (a_ (cg (Cb (jc jU hr px (ag (ar 3) (ag (ar 4) aT))) (Ca (jc jU hr px (ag (ar 5) (ag (ar 6) aT)))))))))))
abbrev mh:du:=u5 24
abbrev tw:List Str:=["thing","facts","errands"]
theorem qC:bN tw ["thing"] (aB mh):=fi (by decide +kernel)
abbrev tE (e:En):=FN e "is_book" 5 1 e_
theorem CM (D:jE e.K e.mg "is_book" mh) (B:Bi e.mg) (dq:im e) (oR:ua e) (n8:Cn e.mg "MOST_FACTS" 6) (kL:Cn e.mg "MOST_ERRANDS" 6):tE e:=uF (k:=4) (g:=j_) D qC b1 fun _ _ _ _ _ _ _ hr=>by have hu1:=oj hr;have hu64:=hr.units;unfold j_;exact (aM (i4 (JW.t (rJ (g_ (gZ (oA (ai 0) rfl B.isinstance rfl B.tuple bx (by decide)))) (mG (fO (xL hu64) (JE.bor (cP jb rfl B.len cp (bO (ai 0) cC))) (JE.bor aJ))))) (a_ (cg ou)) dB) (aM (Cg (ar 0) (t6 rfl (dG (cV 1 qC.nd) (dG (cV 2 qC.nd) pd)))) (aM (i4 (JW.t (rJ (g_ (gZ (jc dq hr px (ag (ar 1) aT)))) (mG (fO (MJ) (JE.bor (cP jb rfl B.len cp (bO (ai 1) cC))) (JE.bor (rH rfl n8)))))) (a_ (cg ou)) dB) (aM (i4 (JW.t (rJ (g_ (gZ (oA (ai 2) rfl B.isinstance rfl B.tuple bx (by decide)))) (mG (fO (MJ) (JE.bor (cP jb rfl B.len cp (bO (ai 2) cC))) (JE.bor (rH rfl kL)))))) (a_ (cg ou)) dB) (aM (i4 (g_ (gZ (cP (t5 rfl) rfl B.all ed (bO (JE.bor (JN.je (iN (N':=["errand","facts"]) (ix:=[1]) 1 (by decide) rfl (da (so:=aB mh) (N:=tw) (by decide +kernel)) (iM (ai 2)) (fun cl A0 s0 H0 ex pn=>⟨dQ (i:=0) (by show (["errand","facts"] : List Str).Nodup;decide +kernel) rfl (.inl rfl),fX,(jc oR hr fR (ag (ar 1) (ag (ar 0) aT)))⟩)))) cC)))) (a_ (cg ou)) dB) (a_ (cg (s_ (rK hu64) (JE.bor (Fc (HY (N':=["errand"]) (ix:=[]) 1 (by decide) rfl (da (so:=aB mh) (N:=tw) (by decide +kernel)) (iM (ai 2)) (fun cl A0 s0 H0 ex pn=>⟨dQ (i:=0) (by show (["errand"] : List Str).Nodup;decide +kernel) rfl (.inl rfl),fX,(dm hu1 (ai 0) (JE.bor aJ))⟩)) rfl B.len)) (JE.bor (cP jb rfl B.len cp (bO (ai 2) cC)))))))))))
abbrev tF:du:=u5 25
abbrev FM:List Str:=["book"]
theorem CN:bN FM ["book"] (aB tF):=fi (by decide +kernel)
abbrev yd (e:En):=FN e "checked" 6 1 ph
theorem CO (D:jE e.K e.mg "checked" tF) (ka:tE e) (wb:ER e "NoBook"):yd e:=uF (k:=5) (g:=pf) D CN b1 fun _ _ _ _ _ _ _ hr=>by unfold pf;exact (aM (i4 (g_ (gZ (jc ka hr px (ag (ar 0) aT)))) (a_ (vJ wb rfl (ag eB aT))) dB) (a_ (cg (ar 0))))
abbrev tG:du:=u5 29
abbrev FO:List Str:=["errand","parts","word","facts"]
theorem ng:bN FO ["errand"] (aB tG):=fi (by decide +kernel)
abbrev ye (e:En):=FN e "line_of" 1 1 pj
theorem CQ (D:jE e.K e.mg "line_of" tG) (B:Bi e.mg) (pI:Ct e.K e.mg "PARTS" ["needs","bars","makes","ends"]):ye e:=uF (k:=0) (g:=pi) D ng b1 fun _ _ _ _ _ _ _ hr=>by have hu1:=oj hr;unfold pi;exact (aM (yP 1 (Oz (ag (QQ (dm hu1 (ai 0) (JE.bor aJ)) (dm hu1 (ai 0) (JE.bor aJ))) aT)) ng.nd) (aM (mL rfl (IW rfl B.zip rfl pI (kq (ai 0) (jO aJ) (jO aJ))) (t6 rfl (dG (cV 2 ng.nd) (dG (cV 3 ng.nd) pd))) (a_ (i4 (LK (ai 3)) (a_ (Fa 1 (uG (JE.bor (br cA (JE.bor (ja (ag (ar 2) aT))) (ai 3)))))) dB))) (a_ (cg (uG (ai 1))))))
abbrev pJ:du:=u5 30
abbrev yf:List Str:=["book","first"]
theorem wc:bN yf ["book"] (aB pJ):=fi (by decide +kernel)
abbrev tH (e:En):=FN e "text_of" 2 1 gR
theorem CS (D:jE e.K e.mg "text_of" pJ) (tJ:ye e):tH e:=uF (k:=1) (g:=pp) D wc b1 fun _ _ _ _ _ _ _ hr=>by have hu1:=oj hr;unfold pp;exact (aM (eM 1 (uG (JE.bor (br cA (JE.bor (ja (ag eB aT))) (JE.bor (dm hu1 (ai 0) (JE.bor aJ)))))) wc.nd) (a_ (cg (uG (JE.bor (br cA (JE.bor (lI (ag (ar 1) aT))) (JE.bor (JN.je (iN (N':=["errand"]) (ix:=[]) 1 (by decide) rfl (da (so:=aB pJ) (N:=yf) (by decide +kernel)) (iM (JE.bor (dm hu1 (ai 0) (JE.bor aJ)))) (fun cl A0 s0 H0 ex pn=>⟨dQ (i:=0) (by show (["errand"] : List Str).Nodup;decide +kernel) rfl (.inl rfl),fX,(jc tJ hr fR (ag (ar 0) aT))⟩))))))))))
abbrev kM:du:=u5 31
abbrev we:List Str:=["word","parts","part","first","facts"]
theorem jG:bN we ["word","parts"] (aB kM):=fi (by decide +kernel)
abbrev oS (e:En):=FN e "facts_behind" 1 2 gF
theorem ux (D:jE e.K e.mg "facts_behind" kM) (B:Bi e.mg):oS e:=uF (k:=0) (g:=iQ) D jG b2 fun _ _ _ _ _ _ _ hr=>by have hu64:=hr.units;unfold iQ;exact (aM (DE 1 rfl (cV 2 jG.nd) (aM (yU 3 4 rfl jG.nd (rO (ar 2) eB)) (a_ (i4 (fO (rK hu64) (ai 3) (ai 0)) (a_ (cg (eZ (jt rfl) rfl B.tuple bx (bO (ai 4) cC)))) dB)))) (a_ (cg (ja aT))))
abbrev nh:du:=u5 32
abbrev zu:List Str:=["text"]
theorem wZ:bN zu ["text"] (aB nh):=fi (by decide +kernel)
abbrev si (e:En):=FN e "price_told" 1 1 jQ
theorem w_ (D:jE e.K e.mg "price_told" nh) (B:Bi e.mg) (tK:Cs e.mg "FIGURES" "0123456789"):si e:=uF (k:=0) (g:=jP) D wZ b1 fun _ _ _ _ _ _ _ hr=>by have hu64:=hr.units;unfold jP;exact (a_ (cg (Q5 (fO (rK hu64) (JE.bor (cP jb rfl B.len cp (bO (ai 0) cC))) (JE.bor aJ)) (OJ (IT rfl tK) (ar 0)) Os)))
abbrev lw:du:=u5 33
abbrev ub:List Str:=["line","head","parts","name","blank","price"]
theorem iT:bN ub ["line"] (aB lw):=fi (by decide +kernel)
abbrev uc (e:En):=FN e "errand_of" 2 1 lf
theorem zv (D:jE e.K e.mg "errand_of" lw) (B:Bi e.mg) (kO:oS e) (ni:si e) (pI:Ct e.K e.mg "PARTS" ["needs","bars","makes","ends"]):uc e:=uF (k:=1) (g:=le) D iT b1 fun _ _ _ _ _ _ _ hr=>by unfold le;exact (aM (yU 1 2 rfl iT.nd (rO (ar 0) eB)) (aM (Cg (LJ (ar 1) eB) (t6 rfl (dG (cV 3 iT.nd) (dG (cV 4 iT.nd) (dG (cV 5 iT.nd) pd))))) (a_ (cg (br cA (JE.bor (br cA (JE.bor (ja (ag (ar 3) aT))) (JE.bor (eZ (jt rfl) rfl B.tuple bx (bO (JE.bor (JN.je (iN (N':=["word","parts"]) (ix:=[2]) 1 (by decide) rfl (da (so:=aB lw) (N:=ub) (by decide +kernel)) (IV rfl pI) (fun cl A0 s0 H0 ex pn=>⟨dQ (i:=0) (by show (["word","parts"] : List Str).Nodup;decide +kernel) rfl (.inl rfl),fX,(jc kO hr fR (ag (ar 0) (ag (ar 1) aT)))⟩)))) cC))))) (JE.bor (ja (ag (jc ni hr px (ag (ar 5) aT)) aT))))))))
abbrev zw:du:=u5 34
abbrev Ml:List Str:=["book"]
theorem JK:bN Ml ["book"] (aB zw):=fi (by decide +kernel)
abbrev Ec (e:En):=FN e "shown" 7 1 rP
theorem JM (D:jE e.K e.mg "shown" zw) (tL:yd e) (kc:tH e):Ec e:=uF (k:=6) (g:=uH) D JK b1 fun _ _ _ _ _ _ _ hr=>by unfold uH;exact (a_ (cg (jc kc hr px (ag (jc tL hr px (ag (ar 0) aT)) aT))))
abbrev zx:du:=u5 35
abbrev JP:List Str:=["text","first","lines","book"]
theorem zy:bN JP ["text"] (aB zx):=fi (by decide +kernel)
abbrev JQ (e:En):=FN e "read" 6 1 mP
theorem Mm (D:jE e.K e.mg "read" zx) (B:Bi e.mg) (oT:uc e) (ka:tE e) (kc:tH e) (sj:ER e "NoText"):JQ e:=uF (k:=5) (g:=tj) D zy b1 fun _ _ _ _ _ _ _ hr=>by have hu64:=hr.units;unfold tj;exact (aM (i4 (g_ (gZ (oA (ai 0) rfl B.isinstance rfl B.str lM (by decide)))) (a_ (vJ sj rfl (ag eB aT))) dB) (aM (yU 1 2 rfl zy.nd (rO (ar 0) eB)) (aM (eM 3 (ja (ag (eZ (jt rfl) rfl B.tuple bx (bO (JE.bor (kq (JE.bor (rO (ar 1) eB)) (jO aJ) rL)) cC)) (ag (eZ (jt rfl) rfl B.tuple bx (bO (JE.bor (JN.je (iN (N':=["line"]) (ix:=[]) 1 (by decide) rfl (da (so:=aB zx) (N:=JP) (by decide +kernel)) (iM (ai 2)) (fun cl A0 s0 H0 ex pn=>⟨dQ (i:=0) (by show (["line"] : List Str).Nodup;decide +kernel) rfl (.inl rfl),fX,(jc oT hr fR (ag (ar 0) aT))⟩)))) cC)) aT))) zy.nd) (aM (i4 (JW.t (rJ (g_ (gZ (jc ka hr px (ag (ar 3) aT)))) (mG (fO (xL hu64) (JE.bor (jc kc hr px (ag (ar 3) aT))) (ai 0))))) (a_ (vJ sj rfl (ag eB aT))) dB) (a_ (cg (ar 3)))))))
abbrev lJ:du:=u5 37
abbrev xa:List Str:=["_law_script","_law_k"]
theorem wf:bN xa ["_law_script","_law_k"] (aB lJ):=fi (by decide +kernel)
abbrev qg (e:En):=FN e "_law_cell_at" 1 2 jp
theorem wg (D:jE e.K e.mg "_law_cell_at" lJ) (B:Bi e.mg):qg e:=uF (k:=0) (g:=jo) D wf b2 fun _ _ _ _ _ _ _ hr=>by have hu1:=oj hr;have hu64:=hr.units;unfold jo;exact (aM (i4 (fO (Dv) (ai 1) (JE.bor (cP jb rfl B.len cp (bO (ai 0) cC)))) (a_ (cg (dm hu1 (ai 0) (ai 1)))) dB) (aM (i4 (fO (rK hu64) (ai 0) (JE.bor (lI aT))) (a_ (cg aJ)) dB) (a_ (cg (br cA (JE.bor (br oz (JE.bor (dm hu1 (ai 0) (JE.bor (br yJ (ai 1) (JE.bor (cP jb rfl B.len cp (bO (ai 0) cC))))))) (JE.bor aJ))) (ai 1))))))
abbrev oU:du:=u5 38
abbrev AW:List Str:=["_law_script","_law_k","_law_many","_law_drawn"]
theorem sk:bN AW ["_law_script","_law_k","_law_many"] (aB oU):=fi (by decide +kernel)
abbrev iA (e:En):=FN e "_law_mixed" 2 3 bA
theorem zz (D:jE e.K e.mg "_law_mixed" oU) (lK:qg e):iA e:=uF (k:=1) (g:=lg) D sk b3 fun _ _ _ _ _ _ _ hr=>by unfold lg;exact (aM (eM 3 (br yJ (JE.bor (br oz (JE.bor (br cA (JE.bor (br cA (JE.bor (jc lK hr px (ag (ar 0) (ag (ar 1) aT)))) (JE.bor (br oz (JE.bor aJ) (ai 1))))) (JE.bor aJ))) (JE.bor aJ))) (JE.bor aJ)) sk.nd) (a_ (cg (br yJ (JE.bor (br yJ (JE.bor (br cA (JE.bor (br cA (JE.bor (br oz (ai 3) (ai 3))) (JE.bor (br oz (JE.bor aJ) (ai 3))))) (ai 1))) (JE.bor aJ))) (ai 2)))))
abbrev qD:du:=u5 39
abbrev CT:List Str:=["_law_script","_law_at","_law_made","_law_k"]
theorem lz:bN CT ["_law_script","_law_at"] (aB qD):=fi (by decide +kernel)
abbrev qF (e:En):=FN e "_law_word" 3 2 jg
theorem AX (D:jE e.K e.mg "_law_word" qD) (B:Bi e.mg) (bn:iA e):qF e:=uF (k:=2) (g:=mQ) D lz b2 fun _ _ _ _ _ _ _ hr=>by have hu1:=oj hr;unfold mQ;exact (aM (eM 2 eB lz.nd) (aM (mL rfl (qr rfl B.range (bO (JE.bor (dm hu1 (JE.bor (lI (ag aJ (ag aJ (ag aJ (ag aJ (ag aJ (ag aJ aT)))))))) (JE.bor (jc bn hr fR (ag (ar 0) (ag (ar 1) (ag aJ aT))))))) cC)) (cV 3 lz.nd) (a_ (eM 2 (br cA (ai 2) (JE.bor (dm hu1 (JE.bor eB) (JE.bor (jc bn hr fR (ag (ar 0) (ag (br cA (JE.bor (br cA (ai 1) (JE.bor aJ))) (ai 3)) (ag aJ aT)))))))) lz.nd))) (a_ (cg (ar 2)))))
abbrev oV:du:=u5 40
abbrev AY:List Str:=["_law_script","_law_at","_law_most","_law_found","_law_k"]
theorem nj:bN AY ["_law_script","_law_at","_law_most"] (aB oV):=fi (by decide +kernel)
abbrev ud (e:En):=FN e "_law_facts" 4 3 lj
theorem zA (D:jE e.K e.mg "_law_facts" oV) (B:Bi e.mg) (ji:qF e) (bn:iA e):ud e:=uF (k:=3) (g:=li) D nj b3 fun _ _ _ _ _ _ _ hr=>by have hu1:=oj hr;unfold li;exact (aM (yP 3 DA nj.nd) (aM (mL rfl (qr rfl B.range (bO (JE.bor (jc bn hr fR (ag (ar 0) (ag (ar 1) (ag (br cA (ai 2) (JE.bor aJ)) aT))))) cC)) (cV 4 nj.nd) (a_ (DF 3 ou (jc ji hr fR (ag (ar 0) (ag (br cA (JE.bor (br cA (ai 1) (JE.bor aJ))) (JE.bor (br oz (JE.bor aJ) (ai 4)))) aT))) hu1))) (a_ (cg (eZ (jt rfl) rfl B.tuple bx (bO (JE.bor (cP F8 rfl B.sorted tR (bO (JE.bor (eZ (Au rfl) rfl B.list uA (bO (ai 3) cC))) cC))) cC))))))
abbrev jj:du:=u5 41
abbrev nl:List Str:=["_law_script","_law_at","_law_facts_here","_law_name","_law_one","_law_two","_law_goal","_law_needs","_law_bars","_law_ends","_law_parts"]
theorem fk:bN nl ["_law_script","_law_at","_law_facts_here","_law_name"] (aB jj):=fi (by decide +kernel)
abbrev wj (e:En):=FN e "_law_thin" 3 4 mS
theorem AZ (D:jE e.K e.mg "_law_thin" jj) (B:Bi e.mg) (bn:iA e):wj e:=uF (k:=2) (g:=mR) D fk b4 fun _ _ _ _ _ _ _ hr=>by have hu1:=oj hr;have hu64:=hr.units;unfold mR;exact (aM (eM 4 (dm hu1 (ai 2) (JE.bor (jc bn hr px (ag (ar 0) (ag (br cA (ai 1) (JE.bor aJ)) (ag (cP jb rfl B.len cp (bO (ai 2) cC)) aT)))))) fk.nd) (aM (eM 5 (dm hu1 (ai 2) (JE.bor (jc bn hr px (ag (ar 0) (ag (br cA (ai 1) (JE.bor aJ)) (ag (cP jb rfl B.len cp (bO (ai 2) cC)) aT)))))) fk.nd) (aM (eM 6 (dm hu1 (ai 2) (JE.bor (jc bn hr px (ag (ar 0) (ag (br cA (ai 1) (JE.bor aJ)) (ag (cP jb rfl B.len cp (bO (ai 2) cC)) aT)))))) fk.nd) (aM (eM 7 (kq (JE.bor (lI (ag (ar 4) (ag (ar 5) aT)))) rL (jO (br cA (JE.bor aJ) (JE.bor (br Le (JE.bor (jc bn hr px (ag (ar 0) (ag (br cA (ai 1) (JE.bor aJ)) (ag aJ aT))))) (JE.bor aJ)))))) fk.nd) (aM (mJ 8 (N':=["_law_fact","_law_needs","_law_script","_law_at"]) (ix:=[7,0,1]) 1 (by decide) fk.nd rfl (da (so:=aB jj) (N:=nl) (by decide +kernel)) (iM (JE.bor (lI (ag (ar 6) aT)))) (fun cl A0 s0 H0 ex pn=>⟨dQ (i:=0) (by show (["_law_fact","_law_needs","_law_script","_law_at"] : List Str).Nodup;decide +kernel) rfl (.inl rfl),(DC (JW.t (C9 (fO (HK) (ai 0) (ai 1)) (yI (fO (rK hu64) (JE.bor (jc bn hr fR (ag (ar 2) (ag (br cA (ai 3) (JE.bor aJ)) (ag aJ aT))))) (JE.bor aJ)))))),(ar 0)⟩)) (aM (mJ 9 (N':=["_law_fact","_law_goal","_law_script","_law_at"]) (ix:=[6,0,1]) 1 (by decide) fk.nd rfl (da (so:=aB jj) (N:=nl) (by decide +kernel)) (iM (JE.bor (lI (ag (ar 4) aT)))) (fun cl A0 s0 H0 ex pn=>⟨dQ (i:=0) (by show (["_law_fact","_law_goal","_law_script","_law_at"] : List Str).Nodup;decide +kernel) rfl (.inl rfl),(DC (JW.t (C9 (fO (xL hu64) (ai 0) (ai 1)) (yI (fO (rK hu64) (JE.bor (jc bn hr fR (ag (ar 2) (ag (br cA (ai 3) (JE.bor aJ)) (ag aJ aT))))) (JE.bor aJ)))))),(ar 0)⟩)) (aM (I0 8 (I0 9 (mJ 10 (N':=["_law_part"]) (ix:=[]) 1 (by decide) fk.nd rfl (da (so:=aB jj) (N:=nl) (by decide +kernel)) (iM (JE.bor (ja (ag (ar 7) (ag (ar 8) (ag (lI (ag (ar 6) aT)) (ag (ar 9) aT))))))) (fun cl A0 s0 H0 ex pn=>⟨dQ (i:=0) (by show (["_law_part"] : List Str).Nodup;decide +kernel) rfl (.inl rfl),fX,(eZ (jt rfl) rfl B.tuple bx (bO (JE.bor (Co rfl (OA rfl (ai 0) rfl B.set) rfl B.sorted)) cC))⟩)))) (a_ (cg (ja (ag (ar 3) (ag (dm hu1 (ai 10) (JE.bor aJ)) (ag (dm hu1 (ai 10) (JE.bor aJ)) (ag (dm hu1 (ai 10) (JE.bor aJ)) (ag (dm hu1 (ai 10) (JE.bor aJ)) (ag (jc bn hr px (ag (ar 0) (ag (ar 1) (ag aJ aT)))) aT))))))))))))))))
abbrev jV:du:=u5 42
abbrev sr:List Str:=["_law_script","_law_at","_law_facts_here","_law_name","_law_parts","_law_k","_law_fact","_law_way","_law_some"]
theorem eU:bN sr ["_law_script","_law_at","_law_facts_here","_law_name"] (aB jV):=fi (by decide +kernel)
abbrev su (e:En):=FN e "_law_errand" 4 4 gT
theorem xb (D:jE e.K e.mg "_law_errand" jV) (B:Bi e.mg) (bn:iA e) (qG:wj e):su e:=uF (k:=3) (g:=gS) D eU b4 fun _ _ _ _ _ _ _ hr=>by have hu1:=oj hr;have hu64:=hr.units;unfold gS;exact (aM (i4 (JW.t (C9 (fO (xL hu64) (ai 2) (JE.bor (ja aT))) (yI (fO (rK hu64) (JE.bor (jc bn hr px (ag (ar 0) (ag aJ (ag aJ aT))))) (JE.bor aJ))))) (a_ (cg (jc qG hr px (ag (ar 0) (ag (ar 1) (ag (ar 2) (ag (ar 3) aT))))))) dB) (aM (OB 4 eU.nd) (aM (mL rfl (HQ rfl B.enumerate (ag (ar 2) aT)) (t6 rfl (dG (cV 5 eU.nd) (dG (cV 6 eU.nd) pd))) (aM (eM 7 (jc bn hr fR (ag (ar 0) (ag (br cA (JE.bor (br cA (ai 1) (JE.bor aJ))) (ai 5)) (ag aJ aT)))) eU.nd) (aM (i4 (fO (Dv) (ai 7) (JE.bor aJ)) (a_ (vI 4 (dm hu1 (JE.bor (lI (ag aJ (ag aJ (ag aJ aT))))) (ai 7)) (ar 6))) dB) (aM (eM 7 (jc bn hr fR (ag (ar 0) (ag (br cA (JE.bor (br cA (ai 1) (JE.bor aJ))) (ai 5)) (ag aJ aT)))) eU.nd) (a_ (i4 (fO (Dv) (ai 7) (JE.bor aJ)) (a_ (vI 4 (dm hu1 (JE.bor (lI (ag aJ (ag aJ (ag aJ (ag aJ aT)))))) (ai 7)) (ar 6))) dB)))))) (aM (HZ (mJ 8 (N':=["_law_part"]) (ix:=[]) 1 (by decide) eU.nd rfl (da (so:=aB jV) (N:=sr) (by decide +kernel)) (iM (ai 4)) (fun cl A0 s0 H0 ex pn=>⟨dQ (i:=0) (by show (["_law_part"] : List Str).Nodup;decide +kernel) rfl (.inl rfl),fX,(eZ (jt rfl) rfl B.tuple bx (bO (ai 0) cC))⟩))) (a_ (cg (ja (ag (ar 3) (ag (dm hu1 (ai 8) (JE.bor aJ)) (ag (dm hu1 (ai 8) (JE.bor aJ)) (ag (dm hu1 (ai 8) (JE.bor aJ)) (ag (dm hu1 (ai 8) (JE.bor aJ)) (ag (jc bn hr px (ag (ar 0) (ag (ar 1) (ag aJ aT)))) aT)))))))))))))
abbrev nq:du:=u5 43
abbrev wk:List Str:=["_law_script","_law_at","_law_most","_law_many","_law_facts_here","_law_made","_law_k","_law_name","_law_names","_law_turn"]
theorem gJ:bN wk ["_law_script","_law_at","_law_most","_law_many"] (aB nq):=fi (by decide +kernel)
abbrev wl (e:En):=FN e "_law_book" 5 4 kC
theorem A_ (D:jE e.K e.mg "_law_book" nq) (B:Bi e.mg) (oW:ud e) (ji:qF e) (nr:su e) (bn:iA e):wl e:=uF (k:=4) (g:=kA) D gJ b4 fun _ _ _ _ _ _ _ hr=>by have hu1:=oj hr;unfold kA;exact (aM (eM 4 (jc oW hr px (ag (ar 0) (ag (ar 1) (ag (ar 2) aT)))) gJ.nd) (aM (yP 5 DA gJ.nd) (aM (mL rfl (qr rfl B.range (bO (JE.bor (jc bn hr fR (ag (ar 0) (ag (br cA (ai 1) (JE.bor aJ)) (ag (br cA (ai 3) (JE.bor aJ)) aT))))) cC)) (cV 6 gJ.nd) (aM (eM 7 (jc ji hr fR (ag (ar 0) (ag (br cA (JE.bor (br cA (ai 1) (JE.bor aJ))) (JE.bor (br oz (JE.bor aJ) (ai 6)))) aT))) gJ.nd) (a_ (DF 5 (jc nr hr fR (ag (ar 0) (ag (br cA (JE.bor (br cA (ai 1) (JE.bor aJ))) (JE.bor (br oz (JE.bor aJ) (ai 6)))) (ag (ar 4) (ag (ar 7) aT))))) (ar 7) hu1)))) (aM (eM 8 (eZ (Au rfl) rfl B.list uA (bO (ai 5) cC)) gJ.nd) (aM (eM 9 (jc bn hr px (ag (ar 0) (ag (br cA (ai 1) (JE.bor aJ)) (ag (br cA (JE.bor (cP jb rfl B.len cp (bO (ai 8) cC))) (JE.bor aJ)) aT)))) gJ.nd) (a_ (cg (ja (ag (ar 4) (ag (eZ (jt rfl) rfl B.tuple bx (bO (JE.bor (JN.je (iN (N':=["_law_name","_law_made"]) (ix:=[5]) 1 (by decide) rfl (da (so:=aB nq) (N:=wk) (by decide +kernel)) (iM (JE.bor (br cA (JE.bor (kq (ai 8) (jO (ar 9)) rL)) (JE.bor (kq (ai 8) rL (jO (ar 9))))))) (fun cl A0 s0 H0 ex pn=>⟨dQ (i:=0) (by show (["_law_name","_law_made"] : List Str).Nodup;decide +kernel) rfl (.inl rfl),fX,(dm hu1 (ai 1) (ai 0))⟩)))) cC)) aT))))))))))
abbrev qH:du:=u5 45
abbrev CU:List Str:=["_law_errand_here","_law_text","_law_word_here","_law_some","_law_fact"]
theorem gK:bN CU ["_law_errand_here"] (aB qH):=fi (by decide +kernel)
abbrev wm (e:En):=FN e "_law_line" 1 1 kE
theorem B0 (D:jE e.K e.mg "_law_line" qH) (B:Bi e.mg):wm e:=uF (k:=0) (g:=mT) D gK b1 fun _ _ _ _ _ _ _ hr=>by have hu1:=oj hr;have hu64:=hr.units;unfold mT;exact (aM (eM 1 (br jn (JE.bor (br jn (JE.bor (dm hu1 (ai 0) (JE.bor aJ))) (JE.bor eB))) (JE.bor (eZ OL rfl B.str lM (bO (JE.bor (dm hu1 (ai 0) (JE.bor aJ))) cC)))) gK.nd) (aM (mL rfl (IX rfl B.zip (ag (lI (ag eB (ag eB (ag eB (ag eB aT))))) (ag (kq (ai 0) (jO aJ) (jO aJ)) aT))) (t6 rfl (dG (cV 2 gK.nd) (dG (cV 3 gK.nd) pd))) (a_ (i4 (fO (xL hu64) (ai 3) (JE.bor (ja aT))) (aM (eM 1 (br jn (JE.bor (br jn (ai 1) (JE.bor eB))) (ai 2)) gK.nd) (a_ (DE 3 rfl (cV 4 gK.nd) (a_ (eM 1 (br jn (JE.bor (br jn (ai 1) (JE.bor eB))) (ai 4)) gK.nd))))) dB))) (a_ (cg (ar 1)))))
abbrev qI:du:=u5 46
abbrev CV:List Str:=["_law_text","_law_e"]
theorem ue:bN CV ["_law_text"] (aB qI):=fi (by decide +kernel)
abbrev wn (e:En):=FN e "_law_read" 7 1 kF
theorem B1 (D:jE e.K e.mg "_law_read" qI) (CW:JQ e) (W:Wh e.P e.w e.K e.mg e.base e.cls "_law_which" AT Rw):wn e:=uF (k:=6) (g:=mU) D ue b1 fun _ _ _ _ _ _ _ hr=>by unfold mU;exact (a_ (Lq 1 W (fun E1 xe1 pn1 hp=>(a_ (cg (jc CW hr hp (ag (ar 0) aT))))) (hr.h.mono1) rfl rfl ue.nd))
abbrev uf:du:=u5 47
abbrev Rc:List Str:=["_law_script","_law_book_here","_law_text","_law_fact","_law_errand_here"]
theorem qJ:bN Rc ["_law_script"] (aB uf):=fi (by decide +kernel)
theorem P3 {f:ac}{fd:db} (F:Bf e.K "law" "law" uf f fd) (B:Bi e.mg) (qK:wl e) (qL:wm e) (zB:Ec e) (qM:wn e):pU e.P e.w e.K e.mg e.base (l_ e.P e.w) 8 f fd ["_law_script"] (MN e.K e.cls 1 F_law):=by
 refine MR (k:=7) (g:=DU) F qJ fun cdv A outer s H E hr=>?_
 have hu1:=oj hr
 have hu64:=hr.units
 unfold DU
 exact (aM (eM 1 (jc qK hr px (ag (ar 0) (ag aJ (ag aJ (ag aJ aT))))) qJ.nd) (aM (eM 2 eB qJ.nd) (aM (mL rfl (yO (dm hu1 (ai 1) (JE.bor aJ))) (cV 3 qJ.nd) (a_ (eM 2 (br jn (JE.bor (br jn (ai 2) (JE.bor eB))) (ai 3)) qJ.nd))) (aM (mL rfl (yO (dm hu1 (ai 1) (JE.bor aJ))) (cV 4 qJ.nd) (a_ (eM 2 (br jn (JE.bor (br jn (ai 2) (JE.bor eB))) (JE.bor (jc qL hr fR (ag (ar 4) aT)))) qJ.nd))) (a_ (cg (Cb (s_ (rK hu64) (JE.bor (jc zB hr px (ag (ar 1) aT))) (ai 2)) (Ca (s_ (rK hu64) (JE.bor (jc qM hr px (ag (ar 2) aT))) (ai 1))))))))))
end
end
section
theorem all_mk {l:uk}{w:aY}{K:a6}{h:ba}{mg:Str->Option a8}{fa A:ac}{mi:ac}{pK:ac}{sv:ac}{nu:ac}{uM:ac}{uN:ac}{pM:ac}{pO:ac}{nw:ac}{pP:ac}{mj:ac}{lA:ac}{od an:Option ac}{sl:Array (Option a8)}{oc kV dc pm cv ct:a8} (X:K.In h) (G:h.Ns aW mg) (hfa:mg "law"=some (.ref fa))
  (Zz:Zs K zn)
  (kK:Cn mg "MOST_LETTERS" 6)
  (n6:Cn mg "MOST_PRICE" 9)
  (n8:Cn mg "MOST_FACTS" 6)
  (kL:Cn mg "MOST_ERRANDS" 6)
  (pI:Ct K mg "PARTS" ["needs","bars","makes","ends"])
  (tK:Cs mg "FIGURES" "0123456789")
  (Ws:LA K AT [mi,pK,sv,nu,uM,uN,pM,pO,nw,pP,mj])
  (B2:TopC K "NoBook" mi)
  (B3:TopC K "NoText" mj)
  (lB:TopC K "PlanError" lA)
  (w_NoBook:Wy K mi lA [(mi,true),(pK,false),(sv,false),(nu,false),(uM,false),(uN,false),(pM,false),(pO,false),(nw,false),(pP,false),(mj,false)])
  (w_NoText:Wy K mj lA [(mi,false),(pK,false),(sv,false),(nu,false),(uM,false),(uN,false),(pM,false),(pO,false),(nw,false),(pP,false),(mj,true)])
  (B4:jE K mg "_law_which" oP)
  (zC:jE K mg "share_none" jT)
  (FP:jE K mg "is_word" pH)
  (qN:jE K mg "are_rising_words" eD)
  (B5:jE K mg "are_facts" lu)
  (CY:jE K mg "is_whole" qA)
  (B6:jE K mg "is_errand" lv)
  (FQ:jE K mg "is_book" mh)
  (FR:jE K mg "checked" tF)
  (FS:jE K mg "line_of" tG)
  (FT:jE K mg "text_of" pJ)
  (wo:jE K mg "facts_behind" kM)
  (zD:jE K mg "price_told" nh)
  (B7:jE K mg "errand_of" lw)
  (Mn:jE K mg "shown" zw)
  (P4:jE K mg "read" zx)
  (xc:jE K mg "_law_cell_at" lJ)
  (B8:jE K mg "_law_mixed" oU)
  (CZ:jE K mg "_law_word" qD)
  (B9:jE K mg "_law_facts" oV)
  (C_:jE K mg "_law_thin" jj)
  (zE:jE K mg "_law_errand" jV)
  (D0:jE K mg "_law_book" nq)
  (D1:jE K mg "_law_line" qH)
  (D2:jE K mg "_law_read" qI)
  (l0:dz K aW "law"=some (some (.ref A)))
  (l1:K.lookup A=some ⟨oc,od,.func (dw "law" "law" (jl uf) (fB uf) (aB uf) .none kV dc pm an cv ct),sl⟩)
  (l2:iI K cv "law"=true)
  (l3:cZ K (.ref A)=true)
  : ∃ fd:db,(∀ (s:aa) (v:a8),tN s fd ⟨[v],[]⟩ [("_law_script",v)])/\∀ base:ba,K.In base->base.Ns aW mg->pU l.prog w K mg base (l_ l.prog w) 8 fa fd ["_law_script"] (Ql K F_law):=by
 have q:=hfa.symm.trans (eT X G l0)
 cases q
 refine ⟨dw "law" "law" (jl uf) (fB uf) (aB uf) .none kV dc pm an cv ct,fun s v=>.of_eq rfl,fun base X G=>?_⟩
 let e:En:=⟨l.prog,w,K,mg,base,Qm [("NoBook",mi),("NoState",pK),("NoWant",sv),("NoErrand",nu),("NoRow",uM),("NoWay",uN),("NoPaper",pM),("NoFacts",pO),("NoNumber",nw),("Nothing",pP),("NoText",mj),("PlanError",lA)]⟩
 have B:Bi e.mg:=QE X G Zz
 have wb:ER e "NoBook":=B2.er X G rfl
 have sj:ER e "NoText":=B3.er X G rfl
 obtain ⟨fw,fdw,Fw,mw⟩:=B4.ex
 have W:Wh e.P e.w e.K e.mg e.base e.cls "_law_which" AT Rw:=by
  refine ⟨⟨_,_,_,wW (e:=e) Fw B (QF X G Zz) (QG X G Ws rfl),mw,Fw.kp,b1 Fw⟩,eT X G lB.ns,?_,fun y j h=>?_⟩
  ·obtain ⟨bm,o,_⟩:=(Cu X G lB.ns lB.ex lB.mb).2
   exact ⟨bm,o⟩
  unfold Rw at h
  by_cases hy:y="NoBook"
  ·subst hy
   simp at h
   subst h
   exact Nl X G B2 w_NoBook Ws rfl rfl rfl rfl rfl (by decide) (by decide)
  rw [if_neg hy] at h
  by_cases hy:y="NoText"
  ·subst hy
   simp at h
   subst h
   exact Nl X G B3 w_NoText Ws rfl rfl rfl rfl rfl (by decide) (by decide)
  rw [if_neg hy] at h
  cases h
 have jU:=wY (e:=e) zC B
 have k9:=CK (e:=e) FP B kK
 have dq:=pZ (e:=e) qN B k9
 have oQ:=zr (e:=e) B5 B dq
 have qB:=AV (e:=e) CY B
 have oR:=zt (e:=e) B6 B k9 qB oQ jU n6
 have ka:=CM (e:=e) FQ B dq oR n8 kL
 have tL:=CO (e:=e) FR ka wb
 have tJ:=CQ (e:=e) FS B pI
 have kc:=CS (e:=e) FT tJ
 have kO:=ux (e:=e) wo B
 have ni:=w_ (e:=e) zD B tK
 have oT:=zv (e:=e) B7 B kO ni pI
 have zB:=JM (e:=e) Mn tL kc
 have CW:=Mm (e:=e) P4 B oT ka kc sj
 have lK:=wg (e:=e) xc B
 have bn:=zz (e:=e) B8 lK
 have ji:=AX (e:=e) CZ B bn
 have oW:=zA (e:=e) B9 B ji bn
 have qG:=AZ (e:=e) C_ B bn
 have nr:=xb (e:=e) zE B bn qG
 have qK:=A_ (e:=e) D0 B oW ji nr bn
 have qL:=B0 (e:=e) D1 B
 have qM:=B1 (e:=e) D2 CW W
 exact (P3 (e:=e) (GR l1 l2 l3) B qK qL zB qM).imp OE
end
end Z
section
open PySem PySem.W PyProof.Rows
namespace PySem.W.Fast
def tw7496837209488810485:Nat:=0
def tw7392840508128060035:Nat:=0
def tw4672978392654496991:Nat:=0
def tw2213159651004321278:Nat:=0
def tw3637285616156426800:Nat:=0
def tw12376946534989397316:Nat:=0
def tw10048331759847679993:Nat:=0
def tw6199158694196109371:Nat:=0
def tw15438947305856414263:Nat:=0
def tw18163836401365228596:Nat:=0
def tw1723281492311381777:Nat:=0
def tw17754512331419848126:Nat:=0
def tw14175988191001171708:Nat:=0
def tw17490084039647433522:Nat:=0
def tw3872458611120162543:Nat:=0
def tw12376868856348327399:Nat:=0
def tw12846903659606856009:Nat:=0
def tw8328588204689491429:Nat:=0
def tw10786556670260666215:Nat:=0
def tw16790079301104447759:Nat:=0
def tw9550748252217845405:Nat:=0
def tw18011005520104256202:Nat:=0
def tw16176749752406771035:Nat:=0
def tw16634486152319091879:Nat:=0
def tw10313817274824707430:Nat:=0
def tw4303188597564462473:Nat:=0
def tw3787351434507076278:Nat:=0
def tw8872780408512047593:Nat:=0
def tw14702430033019009904:Nat:=0
def tw8719121723807750394:Nat:=0
def tw9660122539681704523:Nat:=0
def tw7566306151038666016:Nat:=0
def tw13506577069777112703:Nat:=0
def tw16828565234484108544:Nat:=0
def tw15752371086949328288:Nat:=0
def tw17505276690259477175:Nat:=0
def tw7431605477493446373:Nat:=0
def tw1858388412010036622:Nat:=0
def tw2707589832098992375:Nat:=0
def tw4577305785782833672:Nat:=0
def tw7193344602611537311:Nat:=0
def tw16129777794697239294:Nat:=0
def tw11704389133938935258:Nat:=0
def tw6249101767841485253:Nat:=0
def tw4850386541201866987:Nat:=0
def tw6727106009046449150:Nat:=0
def tw10320060436132125951:Nat:=0
def tw3687533796435859047:Nat:=0
def tw10647654226201681427:Nat:=0
def tw524858092113432940:Nat:=0
def tw12948222085103087145:Nat:=0
def tw4159362925653013968:Nat:=0
def tw1066080621966138261:Nat:=0
def tw1519964856833474551:Nat:=0
def tw8871654080263975611:Nat:=0
def tw13433612833745467439:Nat:=0
def tw14417855275182917391:Nat:=0
def tw3685978998597576006:Nat:=0
def tw5736655461551283780:Nat:=0
def tw2631567230931150551:Nat:=0
def tw3815774005184100892:Nat:=0
def tw2741759127451326547:Nat:=0
def tw11598756136413084182:Nat:=0
def tw9325088789489529434:Nat:=0
def tw3311275498589859998:Nat:=0
def tw14129572907280004393:Nat:=0
def tw5456121253891628384:Nat:=0
def tw15359937422339296320:Nat:=0
def tw9828152726118966585:Nat:=0
def tw16589248361314637451:Nat:=0
def tw6650287648691495904:Nat:=0
def tw7108732349064297063:Nat:=0
def tw9053366540083363972:Nat:=0
def tw14920686815092047711:Nat:=0
def tw17748964400981967822:Nat:=0
def tw16331390195539307747:Nat:=0
def tw17490304254419616963:Nat:=0
def tw15226995456060392334:Nat:=0
def tw7848621718968866394:Nat:=0
def tw10141831835405565986:Nat:=0
def tw248413846978039008:Nat:=0
def tw12334467428329212122:Nat:=0
def tw7357204197259966958:Nat:=0
def tw2706135962093118799:Nat:=0
def tw3985173562708827737:Nat:=0
def tw4962229878175183975:Nat:=0
def tw14091157880078707119:Nat:=0
def tw2631830442808180567:Nat:=0
def tw16468825473086277965:Nat:=0
def tw14259902642137663645:Nat:=0
end PySem.W.Fast
theorem PySem.Challenge.cw_errands_k35_whole_texts_holds : PySem.Challenge.rw_errands_k35_whole_texts.Holds := by
 w_on;o_law;k_head;(case hw=>w_witness2)
 k_fill
 refine J.walkF (l:=PySem.Challenge.rw_errands_k35_whole_texts) (k:=8) (x:="_law_script") (F0:=Z.F_law) rfl rfl ⟨rfl,by decide,by decide⟩ (fun w h Y=>by first|exact PySem.W.kIn_of Y|exact PySem.W.km_in_of Y) ?F (fun ns _=>Z.law_true ns)
 case F =>
  intro w mg fa h KX G hmg
  refine' Z.all_mk KX G hmg ?_ ?_ ?_ ?_ ?_ ?_ ?_ ?_ ?_ ?_ ?_ ?_ ?_ ?_ ?_ ?_ ?_ ?_ ?_ ?_ ?_ ?_ ?_ ?_ ?_ ?_ ?_ ?_ ?_ ?_ ?_ ?_ ?_ ?_ ?_ ?_ ?_ ?_ ?_ ?_ ?_ ?_
  all_goals first
   |(refine' J.d_in KX G ?_ ?_ ?_ ?_<;>try k_is)
   |(refine' J.cn_in KX G ?_<;>try k_is)
   |k_is
   |(refine' J.cs_in KX G ?_<;>try k_is)
   |(refine' J.ct_in KX G ?_ ?_ ?_ ?_<;>try (first|k_is|decide|(repeat' (first|exact .nil|refine' .cons ⟨_,rfl⟩ ?_))))
   |(refine' J.TopC.mk ?_ ?_ ?_<;>try (first|k_is|k_exc))
   |(refine' J.topN ?_ ?_ ?_ ?_ ?_ ?_ ?_ ?_ ?_ ?_ ?_ ?_ ?_ ?_ ?_ ?_ ?_ ?_ ?_ ?_ ?_ ?_ ?_<;>try (first|k_is|rfl|exact fun _ _=>⟨_,rfl,rfl⟩|decide +kernel))
   |((refine' J.Wy.mk ?_ ?_ ?_ ?_ ?_ ?_ ?_ ?_ ?_ ?_)<;>try (first|k_is|decide|((repeat' (first|exact .nil|refine' .cons ?_ ?_ ?_))<;>try (first|k_is|decide))))
   |((repeat' (first|exact .nil|refine' .cons ?_ ?_))<;>try (first|(refine' J.cw_in ?_ ?_ ?_<;>try k_is)|k_is))
   |skip
end
