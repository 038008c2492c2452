import PyProof.Rows.All
import Wide.All
import OpenK.AllK
import Wide.FinOn
import Lean
import PyProof.EqAt
import PyProof.EqKinds
import PyProof.TupleCall
import KE.KDictOf
import PyProof.AttrMissHeap
import KE.KRevIter
import PyProof.DictWalks
import PyProof.MinMaxWalk
import PyProof.SeqI3
import PyProof.WalkInts
import PyProof.ExcInit
import PyProof.InstStoreFacts
import PyProof.DictCompW
import KE.KItemsList
import KE.KEqDict
import PyProof.Rows.CallKwBuiltin
import PyProof.StrBlock
import PyProof.Rows.StrJoin2
import PyProof.Rows.FStr
import PyProof.Rows.StrSplitAre
import PyProof.StrCalls
import KE.KUnpackStar
import PyProof.StrBlockI
import PySem.Challenge.RW_errands_k36_texts_refused
set_option Elab.async false
set_option linter.all false
set_option maxRecDepth 100000
set_option maxHeartbeats 0
open PySem.W renaming Frag->a5,mroIn->bJ,kia_one->bO,kitOne->cF,keepIn->cU,fnOf->dq,nsIn->dv,nsMap_none_of_in->dw,cellsFrom_some->dW,clsIn->eK,mg_of->eL,findIn->eS,codeIn->ij,isNs_of_in->jI,subIn->kR,looks_findIn->mX,codeRec_of->oR,methodObj->pH,specialIn->pI,kitx_list->pJ,instObj->sP,takesIn->sQ,OpenLaw->sR,lookIn->tV,typeIn->u4,excIn->vA,hideAll_get->Ad,of_hideAll->Am,kitx_tuple->Ao,callWith_K->Ar,mg_none_of->AG,kitx_dict->BX,plainGet->Di,hideAll->EF,kitCls->F9,nsOkIn->Fa,WalkO->IC,Looks->IG
open PySem renaming wpAny_bind->a6,Value->a7,Shared->a9,Addr->aa,wpAny_pure->ae,wpAny->aj,starEach->ap,model->aA,Program->aI,Expr->aO,mainGlobals->aT,Around->aV,World->aW,Heap->bc,cellsFrom->bq,compareOp->bz,strLen_append->bH,eval->bQ,wpAny_mono->bR,rawInt->bS,boot_len->bX,wpAny_newObj_type->cc,wpAny_call_entry->cq,wpAny_callSpecial?_slot->cy,wpAny_holding->cB,mem_of_lookup->cE,wpAny_truthy_bool->cL,wpAny_field->cO,FuncData->cY,assignEach->de,foldedSetIterable->df,Stmt->dC,Scope->dO,wpAny_seqItems->dX,wpAny_setState_of->ed,attributeBase->eE,wpAny_pyIter_tuple->eI,backTo->eR,sizeLine_eq->eW,behindInMarks->e_,binaryOp->fB,scanBound->fD,setField->fE,strIterType->fQ,sysModules->fR,bootBuiltins->fS,codeAny->fU,wpAny_setField_rec->fX,letOwnedTupleGo->gy,codeAny_builtin->gz,swapsWith->gE,wpAny_rule->gT,wpAny_setField->gU,Builtin->i5,wpAny_askSetting->i6,call_meets->iO,IsPair->iP,wpAny_pyIter_list->ji,NameKind->jj,typeIs_str->jG,wpAny_standAt->jZ,wpAny_attempt->j_,sliceBounds->k8,wpAny_passesOwn->kM,codeAny_mono->l5,pickOrder->lH,assign->lJ,wpAny_Call_Name_kw->lK,getItem->mO,fits_of_scanBound->mQ,wpAny_comprehension_free->mW,cLine->oq,wpAny_isInstance->ou,pyNext->oP,Keyword->oQ,IsPart->oS,wpAny_typeOf->oT,wpAny_execs_nil->pC,SetTable->qU,relayAll->qV,wpAny_of_eq->qX,codeAny_call_builtin->qY,raiseNew->qZ,firstArgMember->q_,IsZip->r6,wpAny_updateSeq_pair->r9,standAt->r_,BindsTo->s9,callerA->sd,plainId_quiet->tm,wpAny_onRaise->tw,isTrue->tT,pyIter->tU,wpAny_call->tX,tupleKind_room_in1->tY,newExc->t_,concat_meets->vp,valueAt->vq,tupleKind->xb,noFill_tuple_add->xc,PyData->xh,subscripted->yr,keywordEach->yt,wpAny_specialOf->yB,codeAny_of_tree->yC,wpAny_updateSeq->yD,GenState->An,recursionLimit->Ap,Result->Aq,bindL->As,bindC->At,wpAny_newFunctionEnv_cells->Au,typeLookup->Aw,atKey->Ay,newFunctionEnv->Az,isSubtype_type->AB,isInstance->AC,isSubtype_stop->AD,field->AE,swapsWithSole->Df,swappedStores->Dg,seq_tuple_add->Dk,call->Dn,Drawn->EG,CmpOp->EH,lastMarks->EI,noteFrame->EL,seqItems?->EO,Paired->EY,holding->EZ,setNext->F7,wpAny_isTrue_Compare1->Iz,codeAny_call_function->IA,builtinLookup_eq_fast->IE,Model->IP,bindArgs->IQ,backToKw->IR,wpAny_alloc->IU,Walks->IW,unsupported->I_,ZipApart->J0,wpAny_letGo->J2
open PySem.Heap renaming get?_push_of_some->a8,lt_size->ai,get?_push_size->ar,SameBut->bU,size_push->bY,get?_update_self->fN,get?_update_other->mP,IsTuple->Ag
open List renaming getElem?_set_ne->ag,map_cons->al,mem_cons_of_mem->am,length_map->au,mem_cons_self->av,getElem?_set_self->aw,size_toArray->ax,length_cons->aD,getElem?_map->aE,mem_append_right->aM,not_mem_nil->aR,getElem?_append_right->aX,length_append->aY,mem_cons->b9,getElem?_eq_getElem->bg,getElem?_replicate->bu,getElem?_append_left->bx,range->bL,getElem?_eq_none->bT,append_nil->bW,lookup_cons->cg,all_eq_true->cj,sum_cons->ck,length_replicate->cm,map_map->cZ,find?_cons->db,mem_singleton->dB,map_nil->dG,any_cons->eg,getD_eq_getElem?_getD->eB,length_nil->eJ,getElem?_cons_succ->eX,length_range->fW,mem_of_getElem?->gF,sublist_append_left->hV,map_append->i4,length_singleton->j8,length_take->jf,getElem_mem->jg,getElem_of_mem->jH,replicate->kc,contains_cons->kf,nodup_nil->kg,length_drop->mC,getElem?_cons_zero->mD,of_mem_zip->mU,forIn_cons->mV,nil_append->mZ,mem_append_left->oE,map->oG,filterMap_cons->pB,map_congr_left->pG,all_cons->pO,map_drop->pR,set_cons_zero->qR,set_cons_succ->qS,append_assoc->se,any_eq_true->tq,cons_append->tE,lookup->tZ,sum_append->vn,forIn_nil->v_,length_eraseIdx_of_lt->w5,drop_zero->wc,mem_map->Af,length->BY,getElem?_range->Dp,replicate_succ->Dr,replicate_zero->Ds,lookup_append->EK,map_inj_right->ES,nodup_append->F6,zipIdx_cons->IF,mem_append->IV,zipIdx_nil->J1,foldl_cons->Jb
open Nat renaming le_refl->ao,lt_of_lt_of_le->az,ne_of_lt->aF,le_trans->a_,le_of_lt->bd,zero_le->bV,lt_irrefl->cx,ne_of_gt->fA,lt_succ_of_lt->gj,lt_succ_self->gL,le_succ->lF,min_le_right->mJ,lt_of_le_of_lt->qT,add_mul->vk,one_mul->vm,lt_asymm->AA,add_lt_add_right->Dq,mul_le_mul_right->Dt,lt_succ_of_le->ID,le_of_not_lt->IT,le_add_right->J4,reduceLeDiff->J8,reduceEqDiff->J9
open PySem.PyData renaming str->ay,eqv->bn,bool->bN,strOk->bP,canLayAll0->bZ,tuple->cW,int->ev,canLay0->eV,list->i7,eqvAll->Ja
open Bool renaming and_eq_true->aB,false_ne_true->aP,false_eq_true->bw,eq_iff_iff->fG,and_self->hJ,not_false->iI,noConfusion->jh,not_true->jl,or_eq_true->mY,beq_eq_decide_eq->nM,false_or->pP,not_eq_true'->si,false_and->vX,true_and->yx
open Array renaming length_toList->aN,getElem?_toList->dg,all_toList->lM,toList_append->oV,getD_eq_getD_getElem?->vj,getElem?_eq_getElem->wb,toArray_toList->AF,append_assoc->Dd,find?_toList->Dh,toList_push->EM,size_append->ET
open PySem.Txt renaming partition->aZ,split->bv,slice->dS,join->iQ,find->xi
open Option.some renaming inj->bh,injEq->yv
open PyProof.Rows renaming boot_tuple->bi,boot_all->dY,slot_tuple_getitem->eC,callWith_type1->f9,envOfC->ii,Keyed->iE,boot_isinstance->iH,AllBare->mM,StrsAre->mR,isBoolOf->re,SortKind->rf,boot_sorted->sg,boot_list->tF,boot_str->u6,SortSt->AH,joinParts_cons->AI,subscriptTail->Dl,subscriptTail_builtinR->E_,IntsAre->F5,FormattedValue_plain->J7
open PySem.Value renaming ref->bE,none->dm,bool->gq,type->gx,str->ic,int->lI,isStrOf->pA
open PySem.NameKind renaming free->bI,cell->cS,«local»->mS
open PySem.Builtin.SmallTypes renaming nextOf->bM,ownedTupleIsFree->du,ownedTupleHandOut->ke
open PySem.Str renaming ofString->cf,join->dz,empty->tW,cps_append->xj
open Int renaming toNat_of_nonneg->cn,toNat_natCast->iN,emod_lt_of_pos->rg,emod_nonneg->vC,ediv_one->Av,reduceLT->AJ
open PySem.Heap.SameBut renaming update->cw
open Option renaming map_some->cH,getD_none->eU,getD_some->j0,isSome_some->pE,isSome_map->Do
open PySem.Builtin.Str renaming strSliceIndices->cJ
open PySem.F renaming plainAttrs_list->cP,slot_tuple_iterator_next->gM,args_tuple_add_2->kO,slot_list_extend->kP,type_list_extend->kQ,entry_tuple_add->l7,slot_tuple_add->lL,slot_zip_next->oF,args_str_split_2->sS,entry_str_split->u5,slot_list_append->vy,type_list_append->vz,slot_str_split->vB,slot_list_count->w9,slot_list_index->wa,args_tuple_iterator_next_1->xg,entry_tuple_iterator_next->yu,slot_enumerate_next->EQ,args_list_extend_2->F4,entry_list_extend->IB,slot_list_extend->IS
open Or renaming inr->da,inl->eP
open False renaming elim->dn
open PySem.Heap.FunFrames renaming mem->dQ
open Ne renaming symm->dU
open PySem.Obj renaming mapFields->eu,mapSeq->ik,putSet->qW,data_mapFields->F8
open PySem.AutoSeq1 renaming wpAny_loadPart'->eF
open List.Sublist renaming refl->fc
open PySem.Builtin.Slice renaming slicePlaces->fH,sliceAdjust->jk,sliceApplied->pK
open PyProof.Rows.F renaming plain_set_update_loop->fJ,entry_set_update_loop->lG
open PySem.SetTable renaming grown->fO,below->fP,orStandIn->Ae
open PySem.Builtin.Tuple renaming tupleExact->fV,tupleItemsOf->pM
open PySem.Builtin.List renaming listTooLong->gf,listExtendWith->pQ,listSameRef->sf
open PySem.Around renaming under_plainId->gm
open ForInStep renaming yield->gJ
open True renaming intro->ig
open PySem.StrLaws renaming glued_eq_join->iJ,partsBetween_eq->we,occ_length_le->yw
open PySem.Calls renaming Name_function_global->k7,call_function_entry->w6,loadGlobal_global->yp,evalArgs_plain->Ax,Constant_str->De,spliced_cons->Dj,spliced_nil->EJ
open PySem.Paired renaming length->kZ
open PySem.Builtin.Frozenset renaming sizeOf->oU,newClass->IX,updateFrom->IZ,oneOther->J5,addrOf->J6
open Sum renaming inl->sM,inr->sO
open And renaming intro->u3
open PySem.Walks renaming list->vt
open PySem.pickOrder renaming go->vv
open PySem.SetTable.below renaming go->vw
open PySem.SeqAt.EqAt renaming bool_bool->vY,int_str->yn,str_int->yo
open List.Pairwise renaming nil->vZ
open PyProof.Rows.IsTup renaming new->yq
open PySem.Shared renaming heap->Ah,TypeIs->IY
open PySem.Value.type renaming inj->BZ
open PySem.PassesOwn renaming never->B_
open PySem.SeqAt renaming EqAt->Dm
open PySem.Code renaming quiet_builtin->EN
open PySem.Builtin.ObjectAttr renaming attrName->IH,find->II
section
namespace L2
open PySem PySem.Spec PyProof.Rows
abbrev fe:=Sum Int Str
def u7:fe->a7->Bool
 |.inl k,v=>Value.isInt k v
 |.inr x,v=>pA x v
def Qv (w:aW):fe->Int
 |.inl k=>hashInt k
 |.inr x=>hashStr w x
theorem e7:∀ {k:fe}{v:a7},u7 k v=true->(∃ i t,k=sM i/\v=lI i t)\/(∃ x t,k=sO x/\v=ic x t)
 |.inl i,v,h=>by
  obtain ⟨t,e⟩:=Value.isInt_shape (k:=i) (v:=v) h
  exact .inl ⟨i,t,rfl,e⟩
 |.inr x,v,h=>by
  obtain ⟨t,e⟩:=Value.isStrOf_shape (x:=x) (v:=v) h
  exact .inr ⟨x,t,rfl,e⟩
theorem Du (i:Int) (t:Tok):u7 (.inl i) (.int i t)=true:=by simp [u7,Value.isInt]
theorem Dv (x:Str) (t:Tok):u7 (.inr x) (.str x t)=true:=by simp [u7,pA]
theorem ME (a b:Int):decide ((sM a:fe)=sM b)=(a==b):=by
 by_cases e:a=b
 ·subst e;simp
 ·have h:¬ (sM a:fe)=sM b:=fun q=>e (Sum.inl.inj q)
  rw [decide_eq_false h]
  exact (beq_eq_false_iff_ne.mpr e).symm
theorem MF (a b:Str):decide ((sO a:fe)=sO b)=decide (a=b):=by
 by_cases e:a=b
 ·subst e;simp
 ·have h:¬ (sO a:fe)=sO b:=fun q=>e (Sum.inr.inj q)
  rw [decide_eq_false h,decide_eq_false e]
theorem MG (a:Int) (b:Str):decide ((sM a:fe)=sO b)=false:=decide_eq_false (fun q=>nomatch q)
theorem MH (a:Str) (b:Int):decide ((sO a:fe)=sM b)=false:=decide_eq_false (fun q=>nomatch q)
def fg (prog:aI) (w:aW):PySem.KeyKind prog w fe where
 is:=u7
 hash:=Qv w
 inj:=fun v a b ha hb=>by
  rcases e7 ha with ⟨i,t,rfl,rfl⟩|⟨x,t,rfl,rfl⟩
  ·rcases e7 hb with ⟨j,u,rfl,e⟩|⟨y,u,rfl,e⟩
   ·injection e with e1 _;rw [e1]
   ·exact nomatch e
  ·rcases e7 hb with ⟨j,u,rfl,e⟩|⟨y,u,rfl,e⟩
   ·exact nomatch e
   ·injection e with e1 _;rw [e1]
 byValue:=fun k v h=>by
  rcases e7 h with ⟨i,t,rfl,rfl⟩|⟨x,t,rfl,rfl⟩<;>rfl
 pyHash:=fun hv h=>by
  rcases e7 hv with ⟨i,t,rfl,rfl⟩|⟨x,t,rfl,rfl⟩
  ·exact wpAny_pyHash_int h
  ·exact wpAny_pyHash_str h
 eqBool:=fun hu hv h=>by
  rcases e7 hu with ⟨i,t,rfl,rfl⟩|⟨x,t,rfl,rfl⟩
  ·rcases e7 hv with ⟨j,u,rfl,rfl⟩|⟨y,u,rfl,rfl⟩
   ·rw [ME] at h;exact wpAny_eqBool_int h
   ·rw [MG] at h;exact yn i t y u _ _ _ _ h
  ·rcases e7 hv with ⟨j,u,rfl,rfl⟩|⟨y,u,rfl,rfl⟩
   ·rw [MH] at h;exact yo x t j u _ _ _ _ h
   ·rw [MF] at h;exact wpAny_eqBool_str h
 «strs»:=fun k x t v h=>by
  rcases e7 h with ⟨i,u,rfl,e⟩|⟨y,u,rfl,e⟩
  ·exact nomatch e
  ·injection e with e1 _
   subst e1
   cases v<;>rfl
theorem yE (prog:aI) (w:aW) (i:Int) (t:Tok):(fg prog w).is (.inl i) (.int i t)=true:=Du i t
theorem yF (prog:aI) (w:aW) (x:Str) (t:Tok):(fg prog w).is (.inr x) (.str x t)=true:=Dv x t
end L2
namespace L2
open PySem PySem.Spec PyProof.Rows
inductive V where
 |non|bl (b:Bool)|int (i:Int)|str (x:Str)|byt (b:Array UInt8)|flt (b:UInt64)|ref (a:aa)|ty (n:String)
 deriving DecidableEq
def cu:V->a7->Prop
 |.non,u=>u=dm
 |.bl b,u=>u=gq b
 |.int i,u=>∃ t,u=lI i t
 |.str x,u=>∃ t,u=ic x t
 |.byt b,u=>∃ t,u=Value.bytes b t
 |.flt b,u=>∃ t,u=Value.float b t
 |.ref a,u=>u=bE a
 |.ty n,u=>u=gx n
abbrev cz:List V->List a7->Prop:=EY cu
theorem cz.length {xs:List V}{us:List a7} (r:cz xs us):xs.length=us.length:=kZ r
theorem cz.get {xs:List V}{us:List a7} (h:cz xs us):∀ {i:Nat}{x:V},xs[i]?=some x->∃ u,us[i]?=some u/\cu x u:=by
 induction h with
 |nil=>intro i x e;cases e
 |cons r t ih =>
  intro i x e
  cases i with
  |zero=>cases e;exact ⟨_,rfl,r⟩
  |succ i=>have q:=ih (i:=i) e;exact q
theorem cz.append {xs ys:List V}{us ws:List a7} (h:cz xs us) (s:cz ys ws):cz (xs++ys) (us++ws):=by
 induction h with
 |nil=>exact s
 |cons r t ih=>exact .cons r ih
theorem cz.take:∀ {xs:List V}{us:List a7} (n:Nat),cz xs us->cz (xs.take n) (us.take n)
 |_,_,0,_=>.nil
 |_,_,_+1,.nil=>.nil
 |_,_,n+1,.cons r t=>.cons r (cz.take n t)
theorem cz.drop:∀ {xs:List V}{us:List a7} (n:Nat),cz xs us->cz (xs.drop n) (us.drop n)
 |_,_,0,r=>r
 |_,_,_+1,.nil=>.nil
 |_,_,n+1,.cons _ t=>cz.drop n t
def u9:Option V->Option a7->Prop
 |some v,some u=>cu v u
 |none,none=>True
 |_,_=>False
def KV {κ:Type}:List (κ×V)->List (κ×a7)->Prop:=EY fun (p:κ×V) (q:κ×a7)=>p.1=q.1/\cu p.2 q.2
def kV:fe->V
 |.inl i=>.int i
 |.inr x=>.str x
inductive HO where
 |lst (xs:List V)
 |tup (xs:List V)
 |dK (kvs:List (fe×V))|dT (kvs:List (List fe×V))
 |set (S:Int->Bool) (n:Nat)
 |ins (C dx:aa) (fs:List (Str×V))
 |own (x:aa)
 |xd (fs:List (Str×V))
 |met (f x:aa)
 |rng (lo hi:Int)
 |frz (o:Obj) (u:HO)
 |tbl (ps:Array a7)
 |ext (φ:bc->Prop)
abbrev Hp:=aa->Option HO
def upd (H:Hp) (a:aa) (o:HO):Hp:=fun b=>if b=a then some o else H b
theorem aK {H:Hp}{a:aa}{o:HO}:upd H a o a=some o:=by unfold upd;rw [if_pos rfl]
theorem aJ {H:Hp}{a b:aa}{o:HO} (h:b≠a):upd H a o b=H b:=by unfold upd;rw [if_neg h]
theorem Od {H:Hp}{a b:aa}{o u:HO} (h:H a=some o) (h':H b=some u) (d:o≠u):a≠b:=by
 intro e;subst e;rw [h] at h';exact d (bh h')
theorem aS {H:Hp}{a b:aa}{o:HO} (h:H a=some o) (h':H b=none):a≠b:=by
 intro e;subst e;rw [h] at h';cases h'
section
variable (P:aI) (w:aW)
def cC (H:Hp) (h:bc) (a:aa):HO->Prop
 |.lst xs=>xs.length<=sizeLine/\∃ (its:List a7) (n:Nat),cz xs its/\h.get? a=some { cls:=.type "list",data:=.seq its.toArray n }
 |.tup xs=>xs.length<=sizeLine/\∃ its:List a7,cz xs its/\IsTup h a its.toArray
 |.dK kvs=>kvs.length<=sizeLine/\(a==fR)=false/\∃ vs,KV kvs vs/\h.DictOf (fg P w) a vs
 |.dT kvs=>kvs.length<=sizeLine/\(a==fR)=false/\∃ xs:List (List fe×aa×a7),
   EY (fun (p:List fe×V) (q:List fe×aa×a7)=>p.1=q.1/\H q.2.1=some (.tup (p.1.map kV))/\cu p.2 q.2.2) kvs xs /\
   ∃ o es ep,h.get? a=some o/\o.ExactDict/\o.data=.dict es ep/\es.toList=xs.map (entryOfKey (xb (fg P w)))/\(xs.map (·.1)).Nodup
 |.set S n=>h.SetOf (intKind P w) a S n
 |.ins C dx fs=>H dx=some (.own a)/\fs.length<=1000/\dx≠a/\h.get? a=some (sP C dx) /\
   ∃ mA,h.Ns1 dx mA/\(∀ f,u9 (fs.lookup f) (mA f))/\PySem.Within mA (fs.map (·.1))
 |.own _=>∃ o,h.get? a=some o
 |.xd fs=>∃ mA,h.Ns1 a mA/\∀ f,u9 (fs.lookup f) (mA f)
 |.rng lo hi=>∃ t u v,h.get? a=some { cls:=.type "range",data:=.fields #[.int lo t,.int hi u,.int 1 v] }
 |.frz o u=>h.get? a=some o/\cC H h a u
 |.tbl ps=>h.get? a=some { cls:=.none,data:=.fields ps }
 |.met f x=>h.get? a=some (pH (.ref f) (.ref x))
 |.ext φ=>φ h/\(∃ o,h.get? a=some o)/\∀ h1 h2:bc,φ h1->(∀ o,h1.get? a=some o->h2.get? a=some o)->φ h2
def mT (H:Hp) (h:bc):Prop:=∀ a o,H a=some o->cC P w H h a o
end
section
variable {P:aI}{w:aW}{H H':Hp}{h h':bc}{a:aa}{o:HO}
theorem cC.lt (x:cC P w H h a o):a<h.objs.size:=by
 cases o with
 |lst xs=>obtain ⟨_,_,_,_,e⟩:=x;exact ai e
 |tup xs=>obtain ⟨_,_,_,p⟩:=x;exact p.lt
 |dK kvs=>obtain ⟨_,_,_,_,o,_,_,e,_⟩:=x;exact ai e
 |dT kvs=>obtain ⟨_,_,_,_,o,_,_,e,_⟩:=x;exact ai e
 |set S n=>obtain ⟨o,_,_,_,e,_⟩:=x;exact ai e
 |ins C dx fs=>obtain ⟨_,_,_,e,_⟩:=x;exact ai e
 |own y=>obtain ⟨_,e⟩:=x;exact ai e
 |xd fs=>obtain ⟨_,⟨_,_,_,e,_⟩,_⟩:=x;exact ai e
 |rng lo hi=>obtain ⟨_,_,_,e⟩:=x;exact ai e
 |frz ob u=>obtain ⟨e,_⟩:=x;exact ai e
 |tbl ps=>exact ai (show h.get? a=some _ from x)
 |met f y=>exact ai (show h.get? a=some _ from x)
 |ext φ=>obtain ⟨_,⟨_,e⟩,_⟩:=x;exact ai e
theorem Paired.mapP {α β:Type}{F G:α->β->Prop}{l₁:List α}{l₂:List β} (h:EY F l₁ l₂) (f:∀ a b,F a b->G a b):EY G l₁ l₂:=by
 induction h with
 |nil=>exact .nil
 |cons r t ih=>exact .cons (f _ _ r) ih
theorem cC.stay (x:cC P w H h a o) (k:∀ b u,(b=a\/H b=some (.own a))->h.get? b=some u->h'.get? b=some u)
  (ho:∀ b,H b=some (.own a)->H' b=some (.own a)) (ht:∀ b xs,H b=some (.tup xs)->H' b=some (.tup xs)):cC P w H' h' a o:=by
 induction o with
 |lst xs=>obtain ⟨z,its,n,r,e⟩:=x;exact ⟨z,its,n,r,k _ _ (.inl rfl) e⟩
 |tup xs=>obtain ⟨z,its,r,ob,e,c⟩:=x;exact ⟨z,its,r,ob,k _ _ (.inl rfl) e,c⟩
 |dK kvs=>obtain ⟨z,y,vs,r,ob,es,ep,e,c⟩:=x;exact ⟨z,y,vs,r,ob,es,ep,k _ _ (.inl rfl) e,c⟩
 |dT kvs =>
  obtain ⟨z,y,xs,r,ob,es,ep,e,c⟩:=x
  exact ⟨z,y,xs,Paired.mapP r fun p q z=>⟨z.1,ht _ _ z.2.1,z.2.2⟩,ob,es,ep,k _ _ (.inl rfl) e,c⟩
 |set S n=>obtain ⟨ob,es,ep,t,e,c⟩:=x;exact ⟨ob,es,ep,t,k _ _ (.inl rfl) e,c⟩
 |ins C dx fs =>
  obtain ⟨d,z,ne,e,mA,⟨od,es,ep,e2,c⟩,r⟩:=x
  exact ⟨ho _ d,z,ne,k _ _ (.inl rfl) e,mA,⟨od,es,ep,k _ _ (.inr d) e2,c⟩,r⟩
 |own y=>obtain ⟨ob,e⟩:=x;exact ⟨ob,k _ _ (.inl rfl) e⟩
 |xd fs=>obtain ⟨mA,⟨od,es,ep,e,c⟩,r⟩:=x;exact ⟨mA,⟨od,es,ep,k _ _ (.inl rfl) e,c⟩,r⟩
 |rng lo hi=>obtain ⟨t,u,v,e⟩:=x;exact ⟨t,u,v,k _ _ (.inl rfl) e⟩
 |frz ob u ih=>obtain ⟨e,q⟩:=x;exact ⟨k _ _ (.inl rfl) e,ih q⟩
 |tbl ps =>
  have e:h.get? a=some { cls:=.none,data:=.fields ps }:=x
  show h'.get? a=some { cls:=.none,data:=.fields ps }
  exact k a _ (.inl rfl) e
 |met f y =>
  have e:h.get? a=some (pH (.ref f) (.ref y)):=x
  show h'.get? a=some (pH (.ref f) (.ref y))
  exact k a _ (.inl rfl) e
 |ext φ=>obtain ⟨p,⟨o,e⟩,st⟩:=x;exact ⟨st _ _ p fun o q=>k _ _ (.inl rfl) q,⟨o,k _ _ (.inl rfl) e⟩,st⟩
theorem mT.lt (x:mT P w H h) (e:H a=some o):a<h.objs.size:=(x a o e).lt
theorem mT.fresh (x:mT P w H h) (e:h.objs.size<=a):H a=none:=by
 cases q:H a with
 |none=>rfl
 |some u=>exact absurd (az (x.lt q) e) (cx _)
theorem mT.kept (x:mT P w H h) (k:∀ b u,h.get? b=some u->h'.get? b=some u):mT P w H h':=fun a o e =>
 (x a o e).stay (fun b u _ q=>k b u q) (fun _ q=>q) fun _ _ q=>q
theorem mT.laid (x:mT P w H h) (k:∀ b u,h.get? b=some u->h'.get? b=some u) (hp:h.objs.size<=a) (new:cC P w (upd H a o) h' a o):mT P w (upd H a o) h':=fun b u e=>by
 have hn:=x.fresh hp
 by_cases hb:b=a
 ·subst hb;rw [aK] at e;cases e;exact new
 ·rw [aJ hb] at e
  exact (x b u e).stay (fun c v _ q=>k c v q) (fun c q=>by rw [aJ (aS q hn)];exact q) fun c xs q=>by rw [aJ (aS q hn)];exact q
end
def Rd (H:Hp) (a:aa) (u:HO):Prop:=H a=some u\/∃ o,H a=some (.frz o u)
theorem Rd.ok {P:aI}{w:aW}{H:Hp}{h:bc}{a:aa}{u:HO} (r:Rd H a u) (x:mT P w H h):cC P w H h a u:=by
 rcases r with r|⟨o,r⟩
 ·exact x a u r
 ·obtain ⟨_,q⟩:=x a _ r
  exact q
def Oe:Option HO->Prop
 |some (.lst _)=>True
 |some (.dK _)=>True
 |some (.dT _)=>True
 |some (.set _ _)=>True
 |some (.ins _ _ _)=>True
 |some (.ext _)=>True
 |_=>False
section
variable {P:aI}{w:aW}{H:Hp}{h h':bc}{x e:aa}{o':HO}
theorem mT.write (ok:mT P w H h) (mu:Oe (H x)) (he:e=x\/H e=some (.own x)) (k:∀ b u,b≠e->h.get? b=some u->h'.get? b=some u) (heo:∃ u,h'.get? e=some u)
  (new:cC P w (upd H x o') h' x o'):mT P w (upd H x o') h':=fun b u q=>by
 have nown:∀ c y,H c=some (.own y)->c≠x:=fun c y r z=>by subst z;rw [r] at mu;exact mu
 have ntup:∀ c xs,H c=some (.tup xs)->c≠x:=fun c xs r z=>by subst z;rw [r] at mu;exact mu
 by_cases hb:b=x
 ·subst hb;rw [aK] at q;cases q;exact new
 ·rw [aJ hb] at q
  by_cases hbe:b=e
  ·have q':H b=some (.own x):=by
    rcases he with z|z
    ·exact absurd (hbe.trans z) hb
    ·rw [hbe];exact z
   rw [q] at q';cases q'
   obtain ⟨v,hv⟩:=heo
   exact ⟨v,by rw [hbe];exact hv⟩
  ·refine (ok b u q).stay (fun c v hc r=>k c v ?_ r) (fun c r=>by rw [aJ (nown c b r)];exact r) fun c xs r=>by rw [aJ (ntup c xs r)];exact r
   rcases hc with rfl|hc
   ·exact hbe
   ·rintro rfl
    rcases he with z|z
    ·exact nown c b hc z
    ·rw [hc] at z;cases z;exact hb rfl
end
structure Un (fs ex:List aa) (H H':Hp) (h h':bc):Prop where
 keep:∀ b o,h.get? b=some o->H b=none->b∉fs->b∉ex->h'.get? b=some o
 slot:∀ b o,h.get? b=some o->H b=none->b∈fs->b∉ex->∃ sl,h'.get? b=some { o with slots:=sl }
 free:∀ b o,h.get? b=some o->H b=none->b∉ex->H' b=none
 there:∀ b o,h.get? b=some o->b∉ex->∃ o',h'.get? b=some o'
 tups:∀ b xs,H b=some (.tup xs)->H' b=some (.tup xs)
 frzs:∀ b o u,H b=some (.frz o u)->H' b=some (.frz o u)
 tbls:∀ b ps,H b=some (.tbl ps)->∃ more,H' b=some (.tbl (ps++more))
section
variable {fs fs' ex ex':List aa}{H H1 H2:Hp}{h h1 h2 h':bc}{a x e:aa}{o:HO}
theorem Un.any (u:Un fs ex H H1 h h1) {b:aa}{ob:Obj} (q:h.get? b=some ob) (n:H b=none) (hx:b∉ex):∃ sl,h1.get? b=some { ob with slots:=sl }:=by
 by_cases hb:b∈fs
 ·exact u.slot b ob q n hb hx
 ·exact ⟨ob.slots,u.keep b ob q n hb hx⟩
theorem Un.kept (k:∀ b u,h.get? b=some u->h'.get? b=some u):Un fs ex H H h h' :=
 ⟨fun b ob q _ _ _=>k b ob q,fun b ob q _ _ _=>⟨ob.slots,k b ob q⟩,fun _ _ _ n _=>n,fun b ob q _=>⟨ob,k b ob q⟩,fun _ _ q=>q,fun _ _ _ q=>q,fun _ ps q=>⟨#[],by rw [q];simp⟩⟩
theorem Un.refl:Un fs ex H H h h:=Un.kept fun _ _ q=>q
theorem Un.laid (k:∀ b u,h.get? b=some u->h'.get? b=some u) (hp:h.objs.size<=a) (hn:H a=none):Un fs ex H (upd H a o) h h' where
 keep:=fun b u q _ _ _=>k b u q
 slot:=fun b u q _ _ _=>⟨u.slots,k b u q⟩
 free:=fun b u q n _=>by rw [aJ (aF (az (ai q) hp))];exact n
 there:=fun b u q _=>⟨u,k b u q⟩
 tups:=fun b xs q=>by rw [aJ (aS q hn)];exact q
 frzs:=fun b u xs q=>by rw [aJ (aS q hn)];exact q
 tbls:=fun b ps q=>⟨#[],by rw [aJ (aS q hn),q];simp⟩
theorem Un.write (mu:Oe (H x)) (he:e=x\/H e=some (.own x)) (k:∀ b u,b≠e->h.get? b=some u->h'.get? b=some u) (heo:∃ u,h'.get? e=some u):Un fs ex H (upd H x o) h h':=by
 have hx:∀ b,H b=none->b≠x:=fun b n z=>by subst z;rw [n] at mu;exact mu
 have hb:∀ b,H b=none->b≠e:=fun b n z=>by
  subst z
  rcases he with r|r
  ·exact hx b n r
  ·rw [n] at r;cases r
 have hm:∀ b u,H b=some u->¬ Oe (some u)->b≠x:=fun b u q nm z=>by subst z;rw [q] at mu;exact nm mu
 refine ⟨fun b u q n _ _=>k b u (hb b n) q,fun b u q n _ _=>⟨u.slots,k b u (hb b n) q⟩,fun b u q n _=>by rw [aJ (hx b n)];exact n,fun b u q _=>?_,
  fun b xs q=>by rw [aJ (hm b _ q fun z=>z)];exact q,fun b u xs q=>by rw [aJ (hm b _ q fun z=>z)];exact q,fun b ps q=>⟨#[],by rw [aJ (hm b _ q fun z=>z),q];simp⟩⟩
 by_cases hbe:b=e
 ·subst hbe;exact heo
 ·exact ⟨u,k b u hbe q⟩
end
def Qc (h:bc) (H:Hp):List aa:=(bL h.objs.size).filter fun a=>(H a).isSome
def xk (h:bc) (H:Hp):bc:=EF h (Qc h H)
theorem Dw (h:bc) (H:Hp):(xk h H).objs.size=h.objs.size:=PySem.W.hideAll_size _ _
theorem Fb {h:bc}{H:Hp}{b:aa}{o:Obj} (e:h.get? b=some o) (n:H b=none):(xk h H).get? b=some o :=
 Ad _ e fun hm=>by
  have q:(H b).isSome=true:=(List.mem_filter.mp hm).2
  rw [n] at q;simp at q
theorem Jc {h:bc}{H:Hp}{b:aa}{o:Obj} (e:(xk h H).get? b=some o):h.get? b=some o/\H b=none:=by
 have e':h.get? b=some o:=Am (Qc h H) e
 refine ⟨e',?_⟩
 cases q:H b with
 |none=>rfl
 |some x =>
  have hm:b∈Qc h H:=List.mem_filter.mpr ⟨List.mem_range.mpr (ai e'),by simp [q]⟩
  have z:(xk h H).get? b=none:=PySem.W.hideAll_none (Qc h H) hm
  rw [z] at e;cases e
def Jd (g h:bc) (L:aa):List (aa×Obj):=(bL h.objs.size).filterMap fun a=>if a=L\/(g.get? a).isSome=true then none else (h.get? a).map fun o=>(a,o)
def bB (g h:bc) (L d:aa):List (aa×Obj):=(Jd g h L).filter fun p=>decide (p.1≠d)
end L2
namespace L2
open PySem PySem.Spec PyProof.Rows
structure Mod (K:a5) (mg:Str->Option a7) (base:bc):Prop where
 kin:K.In base
 glob:base.Ns aT mg
 blt:∃ mb,base.Ns builtinsNs mb/\∀ x:Str,x≠"__name__"->mb x=fS x
 nolimit:base.NoLimit
structure Cx where
 prog:aI
 w:aW
 K:a5
 mg:Str->Option a7
 base:bc
 A:aV
 N:List Str
 s₀:a9
 H₀:Hp
 env:Env
 outer:List Env
 stack:List Env
 ex:List aa
 fn:Str->Bool
 calm:Bool
 pn:List (aa×Obj)
 xe:a7->a9->Prop
def oH (l:List Env):List aa:=l.filterMap (·.frame)
abbrev Cx.fs (X:Cx):List aa:=oH X.outer
def IJ (sc:dO) (x:Str):Prop:=sc.names.lookup x=some .local\/sc.names.lookup x=some .cell\/sc.names.lookup x=some .free
def IK (sc:dO) (x:Str):Prop:=sc.names.lookup x=some .local\/sc.names.lookup x=some .cell
def Qw (env:Env) (h:bc) (m:Str->Option a7) (x:Str) (u:a7):Prop :=
 (env.kindOf x=some .local/\m x=some u)\/((env.kindOf x=some .cell\/env.kindOf x=some .free)/\∃ c,env.cells.lookup x=some c/\h.IsCell c (some u))
structure Cx.Ok (X:Cx):Prop where
 mod:Mod X.K X.mg X.base
 kind:X.env.scope.kind=.function
 glob:X.env.globals=aT
 blt:X.env.builtins=builtinsNs
 above:X.s₀.heap.objs.size<=X.env.locals
 inj:∀ x y c,X.env.cells.lookup x=some c->X.env.cells.lookup y=some c->x=y
 has:∀ x,(X.env.kindOf x=some .cell\/X.env.kindOf x=some .free)->∃ c,X.env.cells.lookup x=some c
 cab:∀ x c,X.fn x=true->X.env.cells.lookup x=some c->X.s₀.heap.objs.size<=c
 hd:X.calm=true->X.A.handled=none
 frames:X.A.frames=some X.stack
 stk:X.stack=X.outer\/(X.stack=X.env::X.outer/\X.env.frame=some X.env.locals)
 exf:∀ b∈X.ex,b≠X.env.locals/\∀ x c,X.env.cells.lookup x=some c->c≠b
 bs:∀ b o,X.base.get? b=some o->X.s₀.heap.get? b=some o/\X.H₀ b=none
 bsz:X.base.objs.size<=X.s₀.heap.objs.size
 noex:∀ b o,X.base.get? b=some o->b∉X.ex
 exfs:∀ b∈X.ex,b∉X.fs
 funs:X.s₀.heap.FunFrames X.base X.outer
 frf:∀ b∈X.fs,X.H₀ b=none
structure bf (X:Cx) (pins:List (aa×Obj)) (σ:List (Option V)) (H:Hp) (s:a9):Prop where
 ok:X.Ok
 os:s.os=X.s₀.os
 bare:mM s.gens
 base:Un X.fs X.ex X.H₀ H X.s₀.heap s.heap
 loc:∃ m,s.heap.Ns X.env.locals m/\∀ (i:Nat) (x:Str) (v:V),X.N[i]?=some x->σ[i]?=some (some v)->IJ X.env.scope x->∃ u,cu v u/\Qw X.env s.heap m x u
 cell:∀ x c,X.env.cells.lookup x=some c->∃ v,s.heap.IsCell c v
 free:H X.env.locals=none
 freeC:∀ x c,X.env.cells.lookup x=some c->H c=none
 pin:∀ p∈X.pn++pins,s.heap.get? p.1=some p.2/\H p.1=none/\p.1≠X.env.locals/\p.1∉X.fs/\∀ v,p.2.data≠.cell v
 hok:mT X.prog X.w H s.heap
 len:σ.length=X.N.length
section
variable {X:Cx}{pins:List (aa×Obj)}{σ:List (Option V)}{H H':Hp}{s:a9}{h':bc}
theorem Cx.Ok.nofr (ok:X.Ok) {b:aa}{o:Obj} (e:X.base.get? b=some o):b∉X.fs:=fun hb=>by
 have:=(ok.funs.mem hb).1
 rw [e] at this;cases this
theorem bf.bs (I:bf X pins σ H s):∀ b o,X.base.get? b=some o->s.heap.get? b=some o/\H b=none:=fun b o e =>
 ⟨I.base.keep b o (I.ok.bs b o e).1 (I.ok.bs b o e).2 (I.ok.nofr e) (I.ok.noex b o e),I.base.free b o (I.ok.bs b o e).1 (I.ok.bs b o e).2 (I.ok.noex b o e)⟩
theorem bf.bk (I:bf X pins σ H s):∀ b o,X.base.get? b=some o->s.heap.get? b=some o:=fun b o e=>(I.bs b o e).1
theorem bf.mod (I:bf X pins σ H s):Mod X.K X.mg X.base:=I.ok.mod
theorem bf.kIn (I:bf X pins σ H s):X.K.In s.heap:=I.ok.mod.kin.keeps I.bk
theorem bf.fr (I:bf X pins σ H s):∃ m,Fr X.base X.env.locals s.heap m :=
 let ⟨m,hn,_⟩:=I.loc
 ⟨m,hn,I.bk,a_ I.ok.bsz I.ok.above⟩
theorem bf.lt (I:bf X pins σ H s):X.env.locals<s.heap.objs.size:=let ⟨_,hn,_⟩:=I.loc;hn.lt
theorem bf.sz (I:bf X pins σ H s):X.s₀.heap.objs.size<=s.heap.objs.size:=a_ I.ok.above (bd I.lt)
theorem bf.nofs (I:bf X pins σ H s) {a:aa} (h:s.heap.objs.size<=a):a∉X.fs:=fun hb=>by
 obtain ⟨_,o,ho,_⟩:=I.ok.funs.mem hb
 exact absurd (az (ai ho) (a_ I.sz h)) (cx _)
theorem bf.cne (I:bf X pins σ H s):∀ x c,X.env.cells.lookup x=some c->c≠X.env.locals:=fun x c e z=>by
 obtain ⟨v,o,ho,hd⟩:=I.cell x c e
 obtain ⟨m,⟨o',es,ep,ho',hd',_⟩,_⟩:=I.loc
 rw [z,ho'] at ho;cases ho;rw [hd'] at hd;cases hd
theorem bf.funs (I:bf X pins σ H s):s.heap.FunFrames X.base X.outer:=by
 have all:∀ (l:List Env),(∀ b∈oH l,b∈X.fs)->X.s₀.heap.FunFrames X.base l->s.heap.FunFrames X.base l:=by
  intro l
  induction l with
  |nil=>intro _ _;trivial
  |cons env r ih =>
   intro hs hl
   obtain ⟨hk,⟨L,o,hf,hn,ho,hd⟩,hr⟩:=hl
   have hL:L∈X.fs:=hs L (by unfold oH;rw [pB,hf];exact av)
   obtain ⟨sl,e⟩:=I.base.slot L o ho (I.ok.frf L hL) hL fun z=>I.ok.exfs L z hL
   exact ⟨hk,⟨L,_,hf,hn,e,hd⟩,ih (fun b hb=>hs b (by unfold oH;rw [pB,hf];exact am _ hb)) hr⟩
 exact all X.outer (fun _ hb=>hb) I.ok.funs
theorem bf.stack (I:bf X pins σ H s):s.heap.FunFrames X.base X.stack:=by
 rcases I.ok.stk with e|⟨e,hf⟩
 ·rw [e];exact I.funs
 ·rw [e]
  obtain ⟨m,hn,_⟩:=I.loc
  refine .cons (by rw [I.ok.kind];decide) hf hn ?_ I.funs
  exact Heap.get?_none_of_le (a_ I.ok.bsz I.ok.above)
theorem bf.stkSub (I:bf X pins σ H s):∀ b∈oH X.stack,b∈X.env.locals::X.fs:=fun b hb=>by
 rcases I.ok.stk with e|⟨e,hf⟩
 ·rw [e] at hb;exact am _ hb
 ·rw [e] at hb
  unfold oH at hb
  rw [pB,hf] at hb
  exact hb
theorem bf.stkFree (I:bf X pins σ H s):∀ b∈oH X.stack,H b=none:=fun b hb=>by
 rcases List.mem_cons.mp (I.stkSub b hb) with e|hb
 ·rw [e];exact I.free
 ·obtain ⟨_,o,ho,_⟩:=I.ok.funs.mem hb
  exact I.base.free b o ho (I.ok.frf b hb) fun z=>I.ok.exfs b z hb
theorem bf.step {g':Array An}{t':Nat}{d':EG}{ch:List aa} (I:bf X pins σ H s)
  (hch:∀ b∈ch,(b∈X.ex\/X.s₀.heap.objs.size<=b)/\b≠X.env.locals/\(∀ x c,X.env.cells.lookup x=some c->c≠b)/\∀ p∈X.pn++pins,p.1≠b)
  (keep:∀ b o,b≠X.env.locals->b∉X.fs->b∉ch->s.heap.get? b=some o->H b=none->h'.get? b=some o)
  (slot:∀ b o,b≠X.env.locals->b∈X.fs->b∉ch->s.heap.get? b=some o->H b=none->∃ sl,h'.get? b=some { o with slots:=sl }) (free:∀ b o,b∉ch->s.heap.get? b=some o->H b=none->H' b=none)
  (there:∀ b o,b∉ch->s.heap.get? b=some o->∃ o',h'.get? b=some o')
  (tups:∀ b xs,H b=some (.tup xs)->H' b=some (.tup xs)) (frzs:∀ b o u,H b=some (.frz o u)->H' b=some (.frz o u)) (tbls:∀ b ps,H b=some (.tbl ps)->∃ more,H' b=some (.tbl (ps++more)))
  (ns:∀ m,s.heap.Ns X.env.locals m->h'.Ns X.env.locals m) (hok:mT X.prog X.w H' h') (hg:mM g') :
  bf X pins σ H' { s with heap:=h',gens:=g',drawn:=d',toks:=t' }:=by
 have neL:∀ b o,X.s₀.heap.get? b=some o->b≠X.env.locals:=fun b o e=>aF (az (ai e) I.ok.above)
 have neC:∀ b o,X.s₀.heap.get? b=some o->b∉X.ex->b∉ch:=fun b o e hx hb=>by
  rcases (hch b hb).1 with z|z
  ·exact hx z
  ·exact absurd (az (ai e) z) (cx _)
 have cellK:∀ x c,X.env.cells.lookup x=some c->∀ v,s.heap.IsCell c v->h'.IsCell c v:=fun x c e v h_0=>by
  obtain ⟨o,ho,hd⟩:=h_0
  have nch:c∉ch:=fun z=>(hch c z).2.2.1 x c e rfl
  by_cases hc:c∈X.fs
  ·obtain ⟨sl,q⟩:=slot c o (I.cne x c e) hc nch ho (I.freeC x c e)
   exact ⟨_,q,hd⟩
  ·exact ⟨o,keep c o (I.cne x c e) hc nch ho (I.freeC x c e),hd⟩
 refine ⟨I.ok,I.os,hg,⟨fun b o e n hb hx=>?_,fun b o e n hb hx=>?_,fun b o e n hx=>?_,fun b o e hx=>?_,fun b xs e=>tups b xs (I.base.tups b xs e),fun b o xs e=>frzs b o xs (I.base.frzs b o xs e),fun b ps e=>?_⟩,?_,fun x c e=>?_,?_,fun x c e=>?_,fun p hp=>?_,hok,I.len⟩
 ·exact keep b o (neL b o e) hb (neC b o e hx) (I.base.keep b o e n hb hx) (I.base.free b o e n hx)
 ·obtain ⟨sl,e1⟩:=I.base.slot b o e n hb hx
  obtain ⟨sl',e2⟩:=slot b _ (neL b o e) hb (neC b o e hx) e1 (I.base.free b o e n hx)
  exact ⟨sl',e2⟩
 ·obtain ⟨o',e1⟩:=I.base.there b o e hx
  exact free b o' (neC b o e hx) e1 (I.base.free b o e n hx)
 ·obtain ⟨o',e1⟩:=I.base.there b o e hx
  exact there b o' (neC b o e hx) e1
 ·obtain ⟨m1,e1⟩:=I.base.tbls b ps e
  obtain ⟨m2,e2⟩:=tbls b _ e1
  exact ⟨m1++m2,by rw [e2,Dd]⟩
 ·obtain ⟨m,hn,hl⟩:=I.loc
  refine ⟨m,ns m hn,fun i x v e1 e2 e3=>?_⟩
  obtain ⟨u,r,l⟩:=hl i x v e1 e2 e3
  refine ⟨u,r,?_⟩
  rcases l with l|⟨k,c,e,z⟩
  ·exact .inl l
  ·exact .inr ⟨k,c,e,cellK x c e _ z⟩
 ·obtain ⟨v,z⟩:=I.cell x c e
  exact ⟨v,cellK x c e v z⟩
 ·obtain ⟨m,⟨o,_,_,ho,_⟩,_⟩:=I.loc
  exact free _ o (fun z=>(hch _ z).2.1 rfl) ho I.free
 ·obtain ⟨v,o,ho,hd⟩:=I.cell x c e
  exact free c o (fun z=>(hch c z).2.2.1 x c e rfl) ho (I.freeC x c e)
 ·obtain ⟨e,n,ne,nf,d⟩:=I.pin p hp
  have nch:p.1∉ch:=fun z=>(hch p.1 z).2.2.2 p hp rfl
  exact ⟨keep p.1 p.2 ne nf nch e n,free p.1 p.2 nch e n,ne,nf,d⟩
theorem bf.un {t':Nat} (I:bf X pins σ H s) (u:Un X.fs [] H H' s.heap h') (hok:mT X.prog X.w H' h'):bf X pins σ H' { s with heap:=h',toks:=t' }:=by
 obtain ⟨m,⟨o,es,ep,ho,r⟩,_⟩:=id I.loc
 obtain ⟨sl,hL⟩:=u.any ho I.free (by simp)
 exact I.step (g':=s.gens) (d':=s.drawn) (ch:=[]) (fun _ z=>nomatch z) (fun b o _ hb _ e n=>u.keep b o e n hb (by simp)) (fun b o _ hb _ e n=>u.slot b o e n hb (by simp)) (fun b o _ e n=>u.free b o e n (by simp)) (fun b o _ e=>u.there b o e (by simp)) u.tups u.frzs u.tbls (fun m' hm=>by
  obtain ⟨o',es',ep',ho',r'⟩:=hm
  rw [ho] at ho';cases ho'
  exact ⟨_,es',ep',hL,r'⟩) hok I.bare
theorem bf.call {g':Array An}{t':Nat}{d':EG}{ch:List aa} (I:bf X pins σ H s) (u:Un (oH X.stack) ch H H' s.heap h') (hok:mT X.prog X.w H' h') (hg:mM g')
  (hch:∀ b∈ch,(b∈X.ex\/X.s₀.heap.objs.size<=b)/\b≠X.env.locals/\(∀ x c,X.env.cells.lookup x=some c->c≠b)/\∀ p∈X.pn++pins,p.1≠b) :
  bf X pins σ H' { s with heap:=h',gens:=g',drawn:=d',toks:=t' }:=by
 obtain ⟨m,⟨o,es,ep,ho,r⟩,_⟩:=id I.loc
 obtain ⟨sl,hL⟩:=u.any ho I.free fun z=>(hch _ z).2.1 rfl
 exact I.step (ch:=ch) hch (fun b o hL hb hc e n=>u.keep b o e n (fun z=>(List.mem_cons.mp (I.stkSub b z)).elim hL hb) hc) (fun b o _ _ hc e n=>u.any e n hc) (fun b o hc e n=>u.free b o e n hc) (fun b o hc e=>u.there b o e hc) u.tups u.frzs u.tbls (fun m' hm=>by
  obtain ⟨o',es',ep',ho',r'⟩:=hm
  rw [ho] at ho';cases ho'
  exact ⟨_,es',ep',hL,r'⟩) hok hg
theorem bf.turned {t':Nat}{it:aa} (I:bf X pins σ H s) (k:∀ b o,b≠it->s.heap.get? b=some o->h'.get? b=some o) (hn:H it=none) (hL:it≠X.env.locals)
  (h1:it∈X.ex\/X.s₀.heap.objs.size<=it) (h2:∀ x c,X.env.cells.lookup x=some c->c≠it) (h3:∀ p∈X.pn++pins,p.1≠it):bf X pins σ H { s with heap:=h',toks:=t' }:=by
 have nit:∀ b u,H b=some u->b≠it:=fun b u e z=>by rw [z,hn] at e;cases e
 refine I.step (g':=s.gens) (d':=s.drawn) (ch:=[it]) (fun b hb=>?_) (fun b o _ _ hc e _=>k b o (fun z=>hc (by simp [z])) e) (fun b o _ _ hc e _=>⟨o.slots,k b o (fun z=>hc (by simp [z])) e⟩) (fun _ _ _ _ n=>n)
  (fun b o hc e=>⟨o,k b o (fun z=>hc (by simp [z])) e⟩) (fun _ _ e=>e) (fun _ _ _ e=>e) (fun b ps e=>⟨#[],by rw [e];simp⟩) (fun m hm=>?_) (fun b u e=>?_) I.bare
 ·have e:b=it:=by simpa using hb
  subst e
  exact ⟨h1,hL,h2,h3⟩
 ·obtain ⟨o,es,ep,ho,r⟩:=hm
  exact ⟨o,es,ep,k _ o (dU hL) ho,r⟩
 ·refine (I.hok b u e).stay (fun c v hc q=>k c v ?_ q) (fun _ q=>q) fun _ _ q=>q
  rcases hc with z|z
  ·rw [z];exact nit b u e
  ·exact nit c _ z
theorem bf.tok (I:bf X pins σ H s) (t:Nat):bf X pins σ H { s with toks:=t }:=I.un (h':=s.heap) (t':=t) Un.refl I.hok
theorem bf.kept {t':Nat} (I:bf X pins σ H s) (k:∀ b u,s.heap.get? b=some u->h'.get? b=some u):bf X pins σ H { s with heap:=h',toks:=t' }:=I.un (Un.kept k) (I.hok.kept k)
theorem bf.laid {a:aa}{o:HO}{t':Nat} (I:bf X pins σ H s) (k:∀ b u,s.heap.get? b=some u->h'.get? b=some u) (hp:s.heap.objs.size<=a) (new:cC X.prog X.w (upd H a o) h' a o) :
  bf X pins σ (upd H a o) { s with heap:=h',toks:=t' }:=I.un (Un.laid k hp (I.hok.fresh hp)) (I.hok.laid k hp new)
theorem bf.write {x e:aa}{o:HO}{t':Nat} (I:bf X pins σ H s) (mu:Oe (H x)) (he:e=x\/H e=some (.own x)) (k:∀ b u,b≠e->s.heap.get? b=some u->h'.get? b=some u) (heo:∃ u,h'.get? e=some u)
  (new:cC X.prog X.w (upd H x o) h' x o):bf X pins σ (upd H x o) { s with heap:=h',toks:=t' }:=I.un (Un.write mu he k heo) (I.hok.write mu he k heo new)
theorem bf.weak {σ':List (Option V)} (I:bf X pins σ H s) (hl:σ'.length=σ.length) (w:∀ (i:Nat) v,σ'[i]?=some (some v)->σ[i]?=some (some v)):bf X pins σ' H s :=
 ⟨I.ok,I.os,I.bare,I.base,let ⟨m,hn,hl'⟩:=I.loc;⟨m,hn,fun i x v e1 e2 e3=>hl' i x v e1 (w i v e2) e3⟩,I.cell,I.free,I.freeC,I.pin,I.hok,hl.trans I.len⟩
theorem bf.pins_of {pins':List (aa×Obj)} (I:bf X pins σ H s) (h:∀ p∈pins',s.heap.get? p.1=some p.2/\H p.1=none/\p.1≠X.env.locals/\p.1∉X.fs/\∀ v,p.2.data≠.cell v):bf X pins' σ H s :=
 ⟨I.ok,I.os,I.bare,I.base,I.loc,I.cell,I.free,I.freeC,fun p hp=>(List.mem_append.mp hp).elim (fun z=>I.pin p (oE _ z)) (h p),I.hok,I.len⟩
theorem yG {N:List Str} (hN:N.Nodup) {i j:Nat}{x:Str} (a:N[i]?=some x) (b:N[j]?=some x):i=j:=by
 obtain ⟨h1,e1⟩:=List.getElem?_eq_some_iff.mp a
 obtain ⟨h2,e2⟩:=List.getElem?_eq_some_iff.mp b
 exact (List.getElem_inj hN).mp (e1.trans e2.symm)
theorem wf {M:IP}{A:aV}{E:a7->a9->Prop}{i:Nat}{x:Str}{v:V}{u:a7}{Q:Unit->a9->Prop} (I:bf X pins σ H s) (hN:X.N.Nodup) (hi:X.N[i]?=some x) (hx:IK X.env.scope x) (r:cu v u)
  (h:∀ s',bf X pins (σ.set i (some v)) H s'->(∃ a,bU a s.heap s'.heap/\(a=X.env.locals\/X.env.cells.lookup x=some a))->Q () s') (hf:X.fn x=true\/X.env.scope.names.lookup x=some .local:=by first|exact .inl rfl|exact .inr rfl|assumption):aj M A (storeName X.env x u) Q E s:=by
 obtain ⟨m,hn,hl⟩:=id I.loc
 have hcls:(X.env.scope.kind == .class||(X.env.scope.kind == .module&&X.env.locals != X.env.globals))=false:=by rw [I.ok.kind];rfl
 have hiσ:i<σ.length:=by rw [I.len];exact (List.getElem?_eq_some_iff.mp hi).1
 have cne:=I.cne
 have tracked:∀ {a:aa}{h':bc},(∃ o,s.heap.get? a=some o/\H a=none)->bU a s.heap h'->mT X.prog X.w H h':=fun {a h'} ha hs b ob e=>by
  obtain ⟨_,_,hfree⟩:=ha
  refine (I.hok b ob e).stay (fun c w' hc q=>(hs.2 c ?_).trans q) (fun _ q=>q) fun _ _ q=>q
  rintro rfl
  rcases hc with rfl|hc
  ·rw [hfree] at e;cases e
  ·rw [hfree] at hc;cases hc
 rcases hx with hk|hk
 ·refine wpAny_storeName_local hk hn (fun h' hn' hs=>?_) hcls
  obtain ⟨oL,_,_,hoL,_⟩:=id hn
  refine h _ ⟨I.ok,I.os,I.bare,⟨fun b o e n hb hx=>?_,fun b o e n hb hx=>?_,I.base.free,fun b o e hx=>?_,I.base.tups,I.base.frzs,I.base.tbls⟩,⟨_,hn',fun j y v' e1 e2 e3=>?_⟩,fun y c e=>?_,I.free,I.freeC,fun p hp=>?_,tracked ⟨oL,hoL,I.free⟩ hs,by simpa using I.len⟩ ⟨_,hs,.inl rfl⟩
  ·exact (hs.2 b (aF (az (ai e) I.ok.above))).trans (I.base.keep b o e n hb hx)
  ·obtain ⟨sl,e1⟩:=I.base.slot b o e n hb hx
   exact ⟨sl,(hs.2 b (aF (az (ai e) I.ok.above))).trans e1⟩
  ·obtain ⟨o',e1⟩:=I.base.there b o e hx
   exact ⟨o',(hs.2 b (aF (az (ai e) I.ok.above))).trans e1⟩
  ·by_cases hj:j=i
   ·subst hj
    rw [hi] at e1;cases e1
    rw [aw hiσ] at e2
    cases e2
    exact ⟨u,r,.inl ⟨hk,by simp⟩⟩
   ·rw [ag (dU hj)] at e2
    obtain ⟨u',r',q⟩:=hl j y v' e1 e2 e3
    refine ⟨u',r',?_⟩
    rcases q with ⟨k,e⟩|⟨k,c,e,z⟩
    ·refine .inl ⟨k,?_⟩
     have:y≠x:=fun e=>hj (yG hN e1 (e ▸ hi))
     simp [this,e]
    ·exact .inr ⟨k,c,e,z.sameBut hs (cne y c e)⟩
  ·obtain ⟨w',z⟩:=I.cell y c e
   exact ⟨w',z.sameBut hs (cne y c e)⟩
  ·obtain ⟨e,n,ne,nf,d⟩:=I.pin p hp
   exact ⟨(hs.2 p.1 ne).trans e,n,ne,nf,d⟩
 ·have hfn:X.fn x=true:=by
   rcases hf with z|z
   ·exact z
   ·rw [z] at hk;cases hk
  obtain ⟨c,hc⟩:=I.ok.has x (.inl hk)
  obtain ⟨w',z⟩:=I.cell x c hc
  refine wpAny_storeName_cell I.ok.kind hk hc z (fun h' hc' hs=>?_)
  obtain ⟨oc,hoc,hocd⟩:=id z
  refine h { s with heap:=h' } ⟨I.ok,I.os,I.bare,⟨fun b o e n hb hx=>?_,fun b o e n hb hx=>?_,I.base.free,fun b o e hx=>?_,I.base.tups,I.base.frzs,I.base.tbls⟩,⟨m,hn.sameBut hs (dU (cne x c hc)),fun j y v' e1 e2 e3=>?_⟩,fun y c' e=>?_,I.free,I.freeC,fun p hp=>?_,tracked ⟨oc,hoc,I.freeC x c hc⟩ hs,by simpa using I.len⟩ ⟨c,hs,.inr hc⟩
  ·exact (hs.2 b (aF (az (ai e) (I.ok.cab x c hfn hc)))).trans (I.base.keep b o e n hb hx)
  ·obtain ⟨sl,e1⟩:=I.base.slot b o e n hb hx
   exact ⟨sl,(hs.2 b (aF (az (ai e) (I.ok.cab x c hfn hc)))).trans e1⟩
  ·obtain ⟨o',e1⟩:=I.base.there b o e hx
   exact ⟨o',(hs.2 b (aF (az (ai e) (I.ok.cab x c hfn hc)))).trans e1⟩
  ·by_cases hj:j=i
   ·subst hj
    rw [hi] at e1;cases e1
    rw [aw hiσ] at e2
    cases e2
    exact ⟨u,r,.inr ⟨.inl hk,c,hc,hc'⟩⟩
   ·rw [ag (dU hj)] at e2
    obtain ⟨u',r',q⟩:=hl j y v' e1 e2 e3
    refine ⟨u',r',?_⟩
    rcases q with q|⟨k,c',e,z'⟩
    ·exact .inl q
    ·refine .inr ⟨k,c',e,z'.sameBut hs ?_⟩
     rintro rfl
     exact hj (yG hN e1 (I.ok.inj _ _ _ e hc ▸ hi))
  ·by_cases hcc:c'=c
   ·subst hcc;exact ⟨_,hc'⟩
   ·obtain ⟨w2,z2⟩:=I.cell y c' e
    exact ⟨w2,z2.sameBut hs hcc⟩
  ·obtain ⟨e,n,ne,nf,d⟩:=I.pin p hp
   refine ⟨(hs.2 p.1 ?_).trans e,n,ne,nf,d⟩
   intro q
   rw [q,hoc] at e
   have q':oc=p.2:=bh e
   exact d w' (by rw [<- q'];exact hocd)
theorem ua {M:IP}{A:aV}{E:a7->a9->Prop}{i:Nat}{x:Str}{v:V}{u:a7}{Q:Unit->a9->Prop} (I:bf X pins σ H s) (hN:X.N.Nodup) (hi:X.N[i]?=some x) (hx:IK X.env.scope x) (r:cu v u)
  (h:∀ s',bf X pins (σ.set i (some v)) H s'->Q () s') (hf:X.fn x=true\/X.env.scope.names.lookup x=some .local:=by first|exact .inl rfl|exact .inr rfl|assumption):aj M A (storeName X.env x u) Q E s :=
 wf I hN hi hx r (fun s' I' _=>h s' I') hf
theorem bf.call' {s':a9}{ch:List aa} (I:bf X pins σ H s) (ho:s'.os=s.os) (u:Un (oH X.stack) ch H H' s.heap s'.heap) (hok:mT X.prog X.w H' s'.heap) (hg:mM s'.gens)
  (hch:∀ b∈ch,(b∈X.ex\/X.s₀.heap.objs.size<=b)/\b≠X.env.locals/\(∀ x c,X.env.cells.lookup x=some c->c≠b)/\∀ p∈X.pn++pins,p.1≠b):bf X pins σ H' s':=by
 obtain ⟨h',g',d',t',o'⟩:=s'
 have e:o'=s.os:=ho
 subst e
 exact I.call (g':=g') (t':=t') (d':=d') u hok hg hch
end
abbrev XK:=a7->Option aa->Hp->Prop
abbrev St:=List (Option V)
abbrev VK:=V->Hp->Prop
abbrev TE:=St->Hp->VK->Prop
abbrev TT:=St->Hp->(Bool->Hp->Prop)->Prop
abbrev TA:=St->Hp->(List V->Hp->Prop)->Prop
structure vD where
 nx:St->Hp->Prop
 rt:VK
 bk:St->Hp->Prop:=fun _ _=>False
 ct:St->Hp->Prop:=fun _ _=>False
abbrev TS:=vD->St->Hp->Prop
inductive EP (X:Cx) (pins:List (aa×Obj)) (σ:St) (Q:VK) (u:a7) (s':a9):Prop
 |mk (v H':_) (h0:bf X pins σ H' s') (h1:cu v u) (h2:Q v H'):EP X pins σ Q u s'
inductive TP (X:Cx) (pins:List (aa×Obj)) (σ:St) (Q:Bool->Hp->Prop) (b:Bool) (s':a9):Prop
 |mk (H':_) (h0:bf X pins σ H' s') (h1:Q b H'):TP X pins σ Q b s'
inductive AP (X:Cx) (pins:List (aa×Obj)) (σ:St) (Q:List V->Hp->Prop) (us:List a7) (s':a9):Prop
 |mk (vs H':_) (h0:bf X pins σ H' s') (h1:cz vs us) (h2:Q vs H'):AP X pins σ Q us s'
inductive SN (X:Cx) (pins:List (aa×Obj)) (k:St->Hp->Prop) (s':a9):Prop
 |mk (σ':St) (H':Hp) (I:bf X pins σ' H' s') (q:k σ' H'):SN X pins k s'
inductive SV (X:Cx) (pins:List (aa×Obj)) (k:V->Hp->Prop) (u:a7) (s':a9):Prop
 |mk (v:V) (σ':St) (H':Hp) (I:bf X pins σ' H' s') (r:cu v u) (q:k v H'):SV X pins k u s'
def SP (X:Cx) (pins:List (aa×Obj)) (D:vD) (f:Flow) (s':a9):Prop :=
 match f with
 |.next=>SN X pins D.nx s'
 |.brk=>SN X pins D.bk s'
 |.cont=>SN X pins D.ct s'
 |.ret u=>SV X pins D.rt u s'
def PE (X:Cx) (e:aO) (t:TE):Prop :=
 ∀ (pins:List (aa×Obj)) (s:a9) (σ:St) (H:Hp) (Q:VK),bf X pins σ H s->t σ H Q->aj (aA X.prog X.w) X.A (bQ e X.env) (EP X pins σ Q) X.xe s
def PT (X:Cx) (e:aO) (t:TT):Prop :=
 ∀ (pins:List (aa×Obj)) (s:a9) (σ:St) (H:Hp) (Q:Bool->Hp->Prop),bf X pins σ H s->t σ H Q->aj (aA X.prog X.w) X.A (tT e X.env (bQ e X.env)) (TP X pins σ Q) X.xe s
def PW (X:Cx) (e:aO) (t:TT):Prop :=
 ∀ (whole:Sem a7) (pins:List (aa×Obj)) (s:a9) (σ:St) (H:Hp) (Q:Bool->Hp->Prop),bf X pins σ H s->t σ H Q->aj (aA X.prog X.w) X.A (tT e X.env whole) (TP X pins σ Q) X.xe s
theorem PW.pt {X:Cx}{e:aO}{t:TT} (h:PW X e t):PT X e t:=h _
def PA (X:Cx) (es:List aO) (t:TA):Prop :=
 ∀ (pos:Pos) (pins:List (aa×Obj)) (s:a9) (σ:St) (H:Hp) (Q:List V->Hp->Prop),bf X pins σ H s->t σ H Q->aj (aA X.prog X.w) X.A (spliced (eR pos (ap es X.env))) (AP X pins σ Q) X.xe s
def PS (X:Cx) (st:dC) (t:TS):Prop :=
 ∀ (pins:List (aa×Obj)) (s:a9) (σ:St) (H:Hp) (D:vD),bf X pins σ H s->t D σ H->aj (aA X.prog X.w) X.A (exec st X.env) (SP X pins D) X.xe s
def yy (X:Cx) (st:List dC) (t:TS):Prop :=
 ∀ (pins:List (aa×Obj)) (s:a9) (σ:St) (H:Hp) (D:vD),bf X pins σ H s->t D σ H->aj (aA X.prog X.w) X.A (execs st X.env) (SP X pins D) X.xe s
theorem eD {α:Type}{t:Sem α}{Q Q':α->a9->Prop}{M:IP}{A:aV}{E:a7->a9->Prop}{s:a9} (h:aj M A t Q E s) (hQ:∀ a s,Q a s->Q' a s):aj M A t Q' E s:=bR h hQ fun _ _ x=>x
end L2
namespace L2
open PySem PySem.Spec PyProof.Rows
section
variable {X:Cx}
inductive Le (i:Nat) (σ:St) (H:Hp) (Q:VK):Prop
 |mk (v:_) (h0:σ[i]?=some (some v)) (h1:Q v H):Le i σ H Q
def Dx (i:Nat):TE:=Le i
def tC (v:V):TE:=fun _ H Q=>Q v H
theorem lN {i:Nat}{x:Str}{pos:Pos} (hN:X.N[i]?=some x) (hv:IJ X.env.scope x) (hd:(x==("__debug__" : Str))=false:=by decide) (hcd:(x==("__classdict__" : Str))=false:=by decide):PE X (.Name x pos) (Dx i):=by
 intro pins s σ H Q I h
 obtain ⟨v,e,h⟩:=h
 obtain ⟨m,hn,hl⟩:=I.loc
 obtain ⟨u,r,l⟩:=hl i x v hN e hv
 have fin:EP X pins σ Q u s:=⟨v,H,I,r,h⟩
 rcases l with ⟨hk,hm⟩|⟨hk,c,hc,hcell⟩
 ·exact wpAny_Name (wpAny_loadName_local I.ok.kind hk hn hm fin) hd
 ·rcases hk with hk|hk
  ·exact wpAny_Name (wpAny_loadName_cell I.ok.kind hk hc hcell fin) hd
  ·exact wpAny_Name (wpAny_loadName_free I.ok.kind hk hc hcell fin hcd) hd
theorem Fc {i j pos}:PE X (.Constant (.int i) j pos) (tC (.int i)):=fun _ _ _ H _ I h=>wpAny_Constant_int ⟨.int i,H,I.tok _,⟨_,rfl⟩,h⟩
theorem Fd {b j pos}:PE X (.Constant (.bool b) j pos) (tC (.bl b)):=fun _ _ _ H _ I h=>Constant_bool ⟨.bl b,H,I,rfl,h⟩
theorem MI {j pos}:PE X (.Constant .none j pos) (tC .non):=fun _ _ _ H _ I h=>Constant_none ⟨.non,H,I,rfl,h⟩
theorem AK {x j pos}:PE X (.Constant (.str x) j pos) (tC (.str x)):=fun _ _ _ H _ I h=>De ⟨.str x,H,I.tok _,⟨_,rfl⟩,h⟩
def Gl (X:Cx) (x:Str):Prop:=X.env.kindOf x=some .globalImplicit
theorem tG {E:a7->a9->Prop}{pins:List (aa×Obj)}{s:a9}{σ:St}{H:Hp}{x:Str}{u:a7}{pos:Pos}{Q:a7->a9->Prop} (I:bf X pins σ H s) (hg:Gl X x) (hm:X.mg x=some u) (h:Q u s)
  (hd:(x==("__debug__" : Str))=false:=by decide):aj (aA X.prog X.w) X.A (bQ (.Name x pos) X.env) Q E s :=
 k7 I.ok.kind hg (yp (by rw [I.ok.glob];exact I.mod.glob.keeps I.bk) hm h) hd
theorem rh {E:a7->a9->Prop}{pins:List (aa×Obj)}{s:a9}{σ:St}{H:Hp}{x:Str}{u:a7}{pos:Pos}{Q:a7->a9->Prop} (I:bf X pins σ H s) (hg:Gl X x) (hm:X.mg x=none) (hv:fS x=some u) (h:Q u s)
  (hn:x≠"__name__":=by decide) (hd:(x==("__debug__" : Str))=false:=by decide):aj (aA X.prog X.w) X.A (bQ (.Name x pos) X.env) Q E s:=by
 obtain ⟨mb,h1,h2⟩:=I.mod.blt
 exact k7 I.ok.kind hg (Calls.loadGlobal_builtin (by rw [I.ok.glob];exact I.mod.glob.keeps I.bk) hm (by rw [I.ok.blt];exact h1.keeps I.bk) ((h2 x hn).trans hv) h) hd
theorem pS {x:Str}{v:V}{u:a7}{pos:Pos} (hg:Gl X x) (hm:X.mg x=some u) (r:cu v u) (hd:(x==("__debug__" : Str))=false:=by decide):PE X (.Name x pos) (tC v) :=
 fun _ _ _ H _ I h=>tG I hg hm ⟨v,H,I,r,h⟩ hd
theorem C0 {x:Str}{v:V}{u:a7}{pos:Pos} (hg:Gl X x) (hm:X.mg x=none) (hv:fS x=some u) (r:cu v u) (hn:x≠"__name__":=by decide) (hd:(x==("__debug__" : Str))=false:=by decide):PE X (.Name x pos) (tC v) :=
 fun _ _ _ H _ I h=>rh I hg hm hv ⟨v,H,I,r,h⟩ hn hd
variable {a b:aO}{ta tb:TE}{pos:Pos}
def PC (X:Cx) (op:EH) (a b:aO) (t:TE):Prop :=
 ∀ (pins:List (aa×Obj)) (s:a9) (σ:St) (H:Hp) (Q:VK),bf X pins σ H s->t σ H Q ->
  aj (aA X.prog X.w) X.A (bQ a X.env) (fun v s₁=>aj (aA X.prog X.w) X.A (bQ b X.env) (fun u s₂=>aj (aA X.prog X.w) X.A (bz op v u) (EP X pins σ Q) X.xe s₂) X.xe s₁) X.xe s
theorem Fe (b:aO) {op:EH} (h:op≠.In) (h2:op≠.NotIn):e_ op b=false:=by
 have e1:(op==CmpOp.In)=false:=by cases op<;>first|rfl|exact absurd rfl h
 have e2:(op==CmpOp.NotIn)=false:=by cases op<;>first|rfl|exact absurd rfl h2
 cases b<;>simp [e_,e1,e2]
def tB (t:TE):TT:=fun σ H Q=>t σ H fun x H1=>∃ c,x=.bl c/\Q c H1
theorem Qx {op:EH}{t:TE} (h:PC X op a b t) (h1:e_ op b=false:=by first|exact Fe _ (by decide) (by decide)|rfl):PT X (.Compare a [op] [b] pos) (tB t):=by
 intro pins s σ H Q I hw
 refine Iz (eD (h pins s σ H _ I hw) fun v s1 h1=>eD h1 fun u s2 h2=>eD h2 fun c s3 ⟨x,H1,I1,r1,q1⟩=>?_) h1
 obtain ⟨d,rfl,q⟩:=q1
 cases r1
 exact cL ⟨H1,I1,q⟩
theorem Ff {e:aO}{t:TE} (h:PE X e t) (he:∀ whole,tT e X.env whole=(do let v <- whole;r_ e.pos;EZ [v] (truthy v)):=by intro _;rfl):PT X e (tB t):=by
 intro pins s σ H Q I hw
 refine isTrue_plain (eD (h pins s σ H _ I hw) fun v s1 ⟨x,H1,I1,r1,q1⟩=>?_) (he _)
 obtain ⟨d,rfl,q⟩:=q1
 cases r1
 exact cL ⟨H1,I1,q⟩
variable {tA tB':TT}{bB:List aO}
def Qy (t u:TT):TT:=fun σ H Q=>t σ H fun c H1=>if c=true then u σ H1 Q else Q false H1
def S0 (t u:TT):TT:=fun σ H Q=>t σ H fun c H1=>if c=true then Q true H1 else u σ H1 Q
def Qz (t:TT):TT:=fun σ H Q=>t σ H fun c H1=>Q (!c) H1
theorem Je (ha:PT X a tA):PW X (.BoolOp .And [a] pos) tA:=by
 intro wh pins s σ H Q I h
 refine isTrue_and (eD (ha pins s σ H Q I h) fun c s1 e=>?_)
 cases c with
 |true=>exact isTrue_and_nil e
 |false=>exact e
theorem Fg (ha:PT X a tA):PW X (.BoolOp .Or [a] pos) tA:=by
 intro wh pins s σ H Q I h
 refine isTrue_or (eD (ha pins s σ H Q I h) fun c s1 e=>?_)
 cases c with
 |false=>exact isTrue_or_nil e
 |true=>exact e
theorem MJ (ha:PT X a tA) (hb:PW X (.BoolOp .And (b::bB) pos) tB'):PW X (.BoolOp .And (a::b::bB) pos) (Qy tA tB'):=by
 intro wh pins s σ H Q I h
 refine isTrue_and (eD (ha pins s σ H _ I h) fun c s1 ⟨H1,I1,q1⟩=>?_)
 cases c with
 |true=>exact hb wh pins s1 σ H1 Q I1 q1
 |false=>exact ⟨H1,I1,q1⟩
theorem Lf (ha:PT X a tA) (hb:PW X (.BoolOp .Or (b::bB) pos) tB'):PW X (.BoolOp .Or (a::b::bB) pos) (S0 tA tB'):=by
 intro wh pins s σ H Q I h
 refine isTrue_or (eD (ha pins s σ H _ I h) fun c s1 ⟨H1,I1,q1⟩=>?_)
 cases c with
 |true=>exact ⟨H1,I1,q1⟩
 |false=>exact hb wh pins s1 σ H1 Q I1 q1
theorem Fh (ha:PT X a tA):PT X (.UnaryOp .Not a pos) (Qz tA):=by
 intro pins s σ H Q I h
 exact isTrue_not (eD (ha pins s σ H (fun c H1=>Q (!c) H1) I h) fun _ _ x=>by obtain ⟨a,b,c⟩:=x;exact ⟨a,b,c⟩)
def Of (ta tb:TE):TE:=fun σ H Q=>ta σ H fun x H1=>∃ c,x=.bl c/\if c=true then tb σ H1 Q else Q (.bl false) H1
def Og (ta:TE):TE:=fun σ H Q=>ta σ H fun x H1=>∃ c,x=.bl c/\Q (.bl (!c)) H1
theorem MK {op}{t:TE} (h:PE X a t):PE X (.BoolOp op [a] pos) t:=fun pins s σ H Q I hw=>BoolOp_one (h pins s σ H Q I hw)
theorem ML (ha:PE X a ta) (hb:PE X (.BoolOp .And (b::bB) pos) tb):PE X (.BoolOp .And (a::b::bB) pos) (Of ta tb):=by
 intro pins s σ H Q I h
 refine BoolOp_and (eD (ha pins s σ H _ I h) fun v s1 ⟨x,H1,I1,r1,q1⟩=>?_)
 obtain ⟨c,rfl,q1⟩:=q1
 cases r1
 refine cL ?_
 cases c with
 |true=>exact hb pins s1 σ H1 Q I1 q1
 |false=>exact ⟨.bl false,H1,I1,rfl,q1⟩
theorem MM (ha:PE X a ta):PE X (.UnaryOp .Not a pos) (Og ta):=by
 intro pins s σ H Q I h
 refine UnaryOp_ (eD (ha pins s σ H _ I h) fun v s1 ⟨x,H1,I1,r1,q1⟩=>?_)
 obtain ⟨c,rfl,q1⟩:=q1
 cases r1
 exact not_of (cL ⟨.bl (!c),H1,I1,rfl,q1⟩)
def S1 (t:TT) (ta tb:TE):TE:=fun σ H Q=>t σ H fun c H1=>if c=true then ta σ H1 Q else tb σ H1 Q
theorem Fi {c:aO} (hc:PT X c tA) (ha:PE X a ta) (hb:PE X b tb):PE X (.IfExp c a b pos) (S1 tA ta tb):=by
 intro pins s σ H Q I h
 refine wpAny_IfExp (eD (hc pins s σ H _ I h) fun d s1 ⟨H1,I1,q1⟩=>?_)
 cases d with
 |true=>exact ha pins s1 σ H1 Q I1 q1
 |false=>exact hb pins s1 σ H1 Q I1 q1
end
end L2
namespace L2
open PySem PySem.Spec PyProof.Rows
inductive Rv (K:a5) (a:aa) (xs:List V):Prop
 |mk (o:Obj) (its:Array a7) (n:Nat) (h0:K.lookup a=some o) (h1:o.cls=.type "list") (h2:o.dict=none) (h3:o.data=.seq its n) (h4:its.size<=sizeLine) (h5:cz xs its.toList):Rv K a xs
def k_ (K:a5) (H:Hp) (a:aa) (xs:List V):Prop :=
 Rd H a (.lst xs)\/Rv K a xs
inductive QA (K:a5) (a:aa) (xs:List V):Prop
 |mk (o:Obj) (its:Array a7) (n:Nat) (h0:K.lookup a=some o) (h1:o.cls=.type "tuple") (h3:o.data=.seq its n) (h4:its.size<=sizeLine) (h5:cz xs its.toList):QA K a xs
def iF (K:a5) (H:Hp) (a:aa) (xs:List V):Prop :=
 Rd H a (.tup xs)\/QA K a xs
def QB:a7->Option V
 |.none=>some .non
 |.bool b=>some (.bl b)
 |.int i _=>some (.int i)
 |.str x _=>some (.str x)
 |.bytes b _=>some (.byt b)
 |.float b _=>some (.flt b)
 |.ref a=>some (.ref a)
 |.type n=>some (.ty n)
 |_=>none
theorem cu.abs {x:V}{u:a7} (r:cu x u):QB u=some x:=by
 cases x with
 |non=>cases r;rfl
 |bl _=>cases r;rfl
 |int _=>obtain ⟨t,rfl⟩:=r;rfl
 |str _=>obtain ⟨t,rfl⟩:=r;rfl
 |byt _=>obtain ⟨t,rfl⟩:=r;rfl
 |flt _=>obtain ⟨t,rfl⟩:=r;rfl
 |ref _=>cases r;rfl
 |ty _=>cases r;rfl
theorem cu.inj {x y:V}{u:a7} (r:cu x u) (q:cu y u):x=y:=bh (r.abs.symm.trans q.abs)
theorem cz.inj {xs:List V}{us:List a7} (h:cz xs us):∀ {ys:List V},cz ys us->xs=ys:=by
 induction h with
 |nil=>intro ys k;cases k;rfl
 |cons r t ih=>intro ys k;cases k with|cons r' t'=>rw [r.inj r',ih t']
section
variable {X:Cx}{pins:List (aa×Obj)}{σ:St}{H:Hp}{s:a9}{a:aa}{xs ys:List V}
theorem k_.of {K:a5} (h:H a=some (.lst xs)):k_ K H a xs:=.inl (.inl h)
theorem iF.of {K:a5} (h:H a=some (.tup xs)):iF K H a xs:=.inl (.inl h)
inductive Rw (h:bc) (a:aa) (xs:List V):Prop
 |mk (its:List a7) (r:cz xs its) (p:PlainL h a its.toArray) (z:xs.length<=sizeLine):Rw h a xs
inductive Rx (h:bc) (a:aa) (xs:List V):Prop
 |mk (its:List a7) (r:cz xs its) (p:IsTup h a its.toArray) (z:xs.length<=sizeLine):Rx h a xs
inductive Ry (h:bc) (l:aa) (xs:List V):Prop
 |mk (z:xs.length<=sizeLine) (its:List a7) (n:Nat) (r:cz xs its) (hl:xs.length=its.length) (e:h.get? l=some { cls:=.type "list",data:=.seq its.toArray n }):Ry h l xs
theorem bf.list (I:bf X pins σ H s) (h:k_ X.K H a xs):Rw s.heap a xs:=by
 rcases h with h|⟨o,its,n,hk,hc,hd,hs,hz,r⟩
 ·obtain ⟨z,its,n,r,e⟩:=h.ok I.hok
  exact ⟨its,r,⟨_,n,e,rfl,rfl,rfl⟩,z⟩
 ·refine ⟨its.toList,r,⟨o,n,I.kIn a o hk,hc,hd,by simpa using hs⟩,?_⟩
  have e:=r.length
  simp only [aN] at e
  omega
theorem bf.tuple (I:bf X pins σ H s) (h:iF X.K H a xs):Rx s.heap a xs:=by
 rcases h with h|⟨o,its,n,hk,hc,hs,hz,r⟩
 ·obtain ⟨z,its,r,p⟩:=h.ok I.hok
  exact ⟨its,r,p,z⟩
 ·refine ⟨its.toList,r,⟨o,I.kIn a o hk,hc,n,by simpa using hs⟩,?_⟩
  have e:=r.length
  simp only [aN] at e
  omega
theorem bf.list_inj (I:bf X pins σ H s) (h:k_ X.K H a xs) (h':k_ X.K H a ys):xs=ys:=by
 obtain ⟨its,r,⟨o,n,e,_,_,d⟩,_⟩:=I.list h
 obtain ⟨its',r',⟨o',n',e',_,_,d'⟩,_⟩:=I.list h'
 rw [e] at e';cases e'
 rw [d] at d'
 injection d' with d1 _
 have:its=its':=by simpa using congrArg Array.toList d1
 subst this
 exact r.inj r'
theorem bf.tuple_inj (I:bf X pins σ H s) (h:iF X.K H a xs) (h':iF X.K H a ys):xs=ys:=by
 obtain ⟨its,r,⟨o,e,_,n,d⟩,_⟩:=I.tuple h
 obtain ⟨its',r',⟨o',e',_,n',d'⟩,_⟩:=I.tuple h'
 rw [e] at e';cases e'
 rw [d] at d'
 injection d' with d1 _
 have:its=its':=by simpa using congrArg Array.toList d1
 subst this
 exact r.inj r'
end
abbrev Cx.wish (X:Cx) (E:a7->a9->Prop):Cx:={ X with xe:=E }
abbrev Cx.nox (X:Cx):Cx:=X.wish fun _ _=>False
theorem Cx.Ok.wish {X:Cx} (ok:X.Ok) (E:a7->a9->Prop):(X.wish E).Ok :=
 ⟨ok.mod,ok.kind,ok.glob,ok.blt,ok.above,ok.inj,ok.has,ok.cab,ok.hd,ok.frames,ok.stk,ok.exf,ok.bs,ok.bsz,ok.noex,ok.exfs,ok.funs,ok.frf⟩
theorem Cx.Ok.unwish {X:Cx}{E:a7->a9->Prop} (ok:(X.wish E).Ok):X.Ok :=
 ⟨ok.mod,ok.kind,ok.glob,ok.blt,ok.above,ok.inj,ok.has,ok.cab,ok.hd,ok.frames,ok.stk,ok.exf,ok.bs,ok.bsz,ok.noex,ok.exfs,ok.funs,ok.frf⟩
section
variable {X:Cx}{pins:List (aa×Obj)}{σ:St}{H:Hp}{s:a9}{E:a7->a9->Prop}
theorem bf.wish (I:bf X pins σ H s) (E:a7->a9->Prop):bf (X.wish E) pins σ H s:=⟨I.ok.wish E,I.os,I.bare,I.base,I.loc,I.cell,I.free,I.freeC,I.pin,I.hok,I.len⟩
theorem bf.unwish (I:bf (X.wish E) pins σ H s):bf X pins σ H s:=⟨I.ok.unwish,I.os,I.bare,I.base,I.loc,I.cell,I.free,I.freeC,I.pin,I.hok,I.len⟩
theorem SP.unwish {D:vD}{f:Flow}{s':a9} (h:SP (X.wish E) pins D f s'):SP X pins D f s':=by
 cases f with
 |next=>obtain ⟨σ',H',I,q⟩:=h;exact ⟨σ',H',I.unwish,q⟩
 |brk=>obtain ⟨σ',H',I,q⟩:=h;exact ⟨σ',H',I.unwish,q⟩
 |cont=>obtain ⟨σ',H',I,q⟩:=h;exact ⟨σ',H',I.unwish,q⟩
 |ret u=>obtain ⟨v,σ',H',I,r,q⟩:=h;exact ⟨v,σ',H',I.unwish,r,q⟩
end
section
variable {X:Cx}{st:dC}{bB:List dC}{t u:TS}{e:aO}{te:TE}{pos:Pos}
def Oh:TS:=fun D σ H=>D.nx σ H
def QC (t u:TS):TS:=fun D σ H=>t { D with nx:=u D } σ H
theorem C1:yy X [] Oh:=fun _ _ σ H _ I h=>pC ⟨σ,H,I,h⟩
theorem il (h1:PS X st t) (h2:yy X bB u):yy X (st::bB) (QC t u):=by
 intro pins s σ H D I h
 refine wpAny_execs_cons (eD (h1 pins s σ H { D with nx:=u D } I h) fun f s1 q=>?_)
 cases f with
 |next =>
  obtain ⟨σ',H',I',q⟩:=q
  exact h2 pins s1 σ' H' D I' q
 |ret v=>exact q
 |brk=>exact q
 |cont=>exact q
theorem xl (h1:PS X st t):yy X [st] t:=by
 intro pins s σ H D I h
 refine wpAny_execs_cons (eD (h1 pins s σ H D I h) fun f s1 q=>?_)
 cases f with
 |next=>exact pC q
 |ret v=>exact q
 |brk=>exact q
 |cont=>exact q
theorem bf.quiet {pins:List (aa×Obj)}{σ:St}{H:Hp}{s:a9} (I:bf X pins σ H s):interactive X.env=false:=by simp [interactive,I.ok.kind]
def Oi (te:TE):TS:=fun D σ H=>te σ H fun _ H1=>D.nx σ H1
theorem pT (he:PE X e te) (hs:gE e none pos.line X.env=pure false:=by rfl):PS X (.Expr e pos) (Oi te):=by
 intro pins s σ H D I h
 exact wpAny_Expr_any (eD (he pins s σ H _ I h) fun v s1 h_7=>by obtain ⟨x,H1,I1,r1,q1⟩:=h_7;exact ⟨σ,H1,I1,q1⟩) I.quiet hs
def Oj (te:TE):TS:=fun D σ H=>te σ H D.rt
theorem AL (he:PE X e te):PS X (.Return (some e) pos) (Oj te):=by
 intro pins s σ H D I h
 exact wpAny_Return_some (eD (he pins s σ H _ I h) fun v s1 h_8=>by obtain ⟨x,H1,I1,r1,q1⟩:=h_8;exact ⟨x,σ,H1,I1,r1,q1⟩)
def QD (c:TT) (t u:TS):TS:=fun D σ H=>c σ H fun b H1=>if b=true then t D σ H1 else u D σ H1
theorem Lg {c:aO}{a b:List dC}{tc:TT} (hc:PT X c tc) (ha:yy X a t) (hb:yy X b u):PS X (.If c a b pos) (QD tc t u):=by
 intro pins s σ H D I h
 refine wpAny_If (eD (hc pins s σ H _ I h) fun d s1 ⟨H1,I1,q1⟩=>?_)
 cases d with
 |true=>exact ha pins s1 σ H1 D I1 q1
 |false=>exact hb pins s1 σ H1 D I1 q1
def MN:TS:=fun _ _ _=>False
theorem l8 {sts:List dC}:yy X sts MN:=fun _ _ _ _ _ _ h=>h.elim
end
abbrev TG:=V->St->Hp->(St->Hp->Prop)->Prop
abbrev AM:=List V->St->Hp->(St->Hp->Prop)->Prop
def PG (X:Cx) (target:aO) (t:TG):Prop :=
 ∀ (pins:List (aa×Obj)) (s:a9) (σ:St) (H:Hp) (v:V) (u:a7) (Q:St->Hp->Prop),bf X pins σ H s->cu v u->t v σ H Q ->
  aj (aA X.prog X.w) X.A (lJ target X.env u) (fun _ s'=>SN X pins Q s') X.xe s
def Fj (X:Cx) (ts:List aO) (t:AM):Prop :=
 ∀ (pins:List (aa×Obj)) (s:a9) (σ:St) (H:Hp) (vs:List V) (us:List a7) (Q:St->Hp->Prop),bf X pins σ H s->cz vs us->t vs σ H Q ->
  aj (aA X.prog X.w) X.A (assignInOrder ((de ts X.env).map (·.2)) us) (fun _ s'=>SN X pins Q s') X.xe s
section
variable {X:Cx}{pos:Pos}
def sj (i:Nat):TG:=fun v σ H Q=>Q (σ.set i (some v)) H
theorem dH {i:Nat}{x:Str} (hN:X.N.Nodup) (hi:X.N[i]?=some x) (hx:IK X.env.scope x) (hf:X.fn x=true\/X.env.scope.names.lookup x=some .local:=by first|exact .inl rfl|exact .inr rfl|assumption):PG X (.Name x pos) (sj i):=by
 intro pins s σ H v u Q I r h
 exact wpAny_assign_Name (ua I hN hi hx r (fun s' I'=>⟨_,H,I',h⟩) hf)
def aQ:AM:=fun vs σ H Q=>vs=[]/\Q σ H
inductive Fk (t:TG) (u:AM) (vs:List V) (σ:St) (H:Hp) (Q:St->Hp->Prop):Prop
 |mk (v r:_) (h0:vs=v::r) (h1:t v σ H fun σ' H'=>u r σ' H' Q):Fk t u vs σ H Q
def af (t:TG) (u:AM):AM:=Fk t u
theorem xm:Fj X [] aQ:=by
 intro pins s σ H vs us Q I r h
 obtain ⟨e,h⟩:=h
 subst e
 cases r
 exact assignInOrder_nil ⟨σ,H,I,h⟩
theorem pU {e:aO}{es:List aO}{t:TG}{u:AM} (h1:PG X e t) (h2:Fj X es u)
  (hs:(de (e::es) X.env).map (·.2)=lJ e X.env::(de es X.env).map (·.2):=by rfl):Fj X (e::es) (af t u):=by
 intro pins s σ H vs us Q I r h
 obtain ⟨v,vr,e1,h⟩:=h
 subst e1
 cases r with
 |cons r rr =>
  rw [hs]
  refine assignInOrder_cons (eD (h1 pins s σ H _ _ _ I r h) fun _ s1 ⟨σ1,H1,I1,q1⟩=>?_)
  exact h2 pins s1 σ1 H1 _ _ Q I1 rr q1
inductive Lh (K:a5) (n:Nat) (t:AM) (v:V) (σ:St) (H:Hp) (Q:St->Hp->Prop):Prop
 |mk (a xs:_) (h0:v=.ref a) (h1:iF K H a xs) (h2:xs.length=n) (h3:t xs σ H Q):Lh K n t v σ H Q
def MO (K:a5) (n:Nat) (t:AM):TG:=Lh K n t
theorem Fm {es:List aO}{k:Nat}{t:AM}{n:Nat} (hc:X.calm=true) (h:Fj X es t)
  (hn:(de es X.env).length=n:=by rfl) (hst:(de es X.env).findIdx? (·.1)=none:=by rfl):PG X (.Tuple es k pos) (MO X.K n t):=by
 intro pins s σ H v u Q I r hw
 obtain ⟨a,xs,e1,hq,hl,hw⟩:=hw
 subst e1
 cases r
 obtain ⟨its,rv,ht,hz⟩:=I.tuple hq
 refine assign_Tuple_tuple (I.ok.hd hc) ht (by simp [hn,<- hl,rv.length]) hst fun h' hx=>?_
 have I1:bf X pins σ H { s with heap:=h' }:=I.kept (t':=s.toks) fun b o e=>hx b o (aF (ai e)) e
 exact h pins _ σ H xs _ Q I1 (by simpa using rv) hw
def Ol (te:TE) (g:TG):TS:=fun D σ H=>te σ H fun x H1=>g x σ H1 D.nx
theorem AN {tg e:aO}{te:TE}{g:TG} (he:PE X e te) (hg:PG X tg g) (hs:Df [tg] e pos.line X.env=pure false:=by rfl) (hw:Dg [tg] e X.env=pure none:=by rfl)
  (h1:(de [tg] X.env).map (·.2)=[lJ tg X.env]:=by rfl):PS X (.Assign [tg] e pos) (Ol te g):=by
 intro pins s σ H D I h
 refine wpAny_Assign_stores (eD (he pins s σ H _ I h) fun v s1 ⟨x,H1,I1,r1,q1⟩=>?_) hs hw
 rw [h1]
 exact eD (hg pins s1 σ H1 x v _ I1 r1 q1) fun _ s2 q=>q
theorem xn {i:Nat}{x:Str}{e:aO}{te:TE}{pos':Pos} (hN:X.N.Nodup) (hi:X.N[i]?=some x) (hx:IK X.env.scope x) (he:PE X e te) (hs:gE e (some (.Name x pos')) pos.line X.env=pure false:=by rfl) (hf:X.fn x=true\/X.env.scope.names.lookup x=some .local:=by first|exact .inl rfl|exact .inr rfl|assumption) :
  PS X (.Assign [.Name x pos'] e pos) (Ol te (sj i)):=by
 intro pins s σ H D I h
 refine wpAny_Assign_Name (eD (he pins s σ H _ I h) fun v s1 ⟨y,H1,I1,r1,q1⟩=>?_) hs
 exact ua I1 hN hi hx r1 (fun s2 I2=>⟨_,H1,I2,q1⟩) hf
end
section
variable {X:Cx}{pos:Pos}
end
structure It where
 go:Nat->Hp->Prop
 yld:Nat->Hp->V->Hp->Prop
 stop:Nat->Hp->Prop
structure pV (X:Cx) (pins:List (aa×Obj)) (H:Hp) (b:aa):Prop where
 f0:H b=none
 f1:b≠X.env.locals
 f2:b∉X.fs
 f3:b∈X.ex\/X.s₀.heap.objs.size<=b
 f4:∀ x c,X.env.cells.lookup x=some c->c≠b
 f5:∀ p∈X.pn++pins,p.1≠b
theorem bf.fpOk {X:Cx}{pins:List (aa×Obj)}{σ:St}{H H':Hp}{s:a9}{b:aa} (I:bf X pins σ H s) (hb:s.heap.objs.size<=b) (hn:H' b=none):pV X pins H' b:=by
 refine ⟨hn,fA (az I.lt hb),I.nofs hb,.inr (a_ I.sz hb),fun x c e z=>?_,fun p hp z=>?_⟩
 ·obtain ⟨v,q⟩:=I.cell x c e
  exact absurd (az q.lt (by rw [z];exact hb)) (cx _)
 ·exact absurd (az (ai (I.pin p hp).1) (by rw [z];exact hb)) (cx _)
structure yH (P:aI) (w:aW) (K:a5) (tg:aO) (J:It) (fp:List aa) (it:aa) (tn:Nat->bc->Prop):Prop where
 mem:it∈fp
 obj:∀ i h,tn i h->∀ b∈fp,∃ o,h.get? b=some o/\∀ v,o.data≠.cell v
 keep:∀ i h h',tn i h->(∀ b∈fp,∀ o,h.get? b=some o->h'.get? b=some o)->tn i h'
 item:∀ (X:Cx),X.prog=P->X.w=w->X.K=K->X.calm=true->∀ (i:Nat) (pins:List (aa×Obj)) (s:a9) (σ:St) (H:Hp) (E:a7->a9->Prop),bf X pins σ H s->(∀ b∈fp,pV X pins H b)->tn i s.heap->J.go i H ->
  aj (aA P w) X.A (oP (.ref it)) (fun r s1=>∃ u,r=some u /\
   aj (aA P w) X.A (gy tg (.ref it) u) (fun _ s2=>∃ x H',bf X pins σ H' s2/\cu x u/\J.yld i H x H'/\tn (i+1) s2.heap/\∀ b∈fp,H' b=none) E s1) E s
 done:∀ (X:Cx),X.prog=P->X.w=w->X.K=K->X.calm=true->∀ (i:Nat) (pins:List (aa×Obj)) (s:a9) (σ:St) (H:Hp) (E:a7->a9->Prop),bf X pins σ H s->(∀ b∈fp,pV X pins H b)->tn i s.heap->J.stop i H ->
  aj (aA P w) X.A (oP (.ref it)) (fun r s1=>r=none/\bf X pins σ H s1) E s
 self:∀ (A:aV) (i:Nat) (s:a9) (Q:a7->a9->Prop) (E:a7->a9->Prop),tn i s.heap->Q (.ref it) s->aj (aA P w) A (tU (.ref it)) Q E s
abbrev TI:=St->Hp->(It->Hp->Prop)->Prop
inductive QE (X:Cx) (pins:List (aa×Obj)) (σ:St) (tg:aO) (R:It->Hp->Prop) (itv:a7) (s2:a9):Prop
 |mk (it:aa) (fp:List aa) (tn:Nat->bc->Prop) (J:It) (H':Hp) (h0:itv=.ref it) (I:bf X pins σ H' s2) (T:yH X.prog X.w X.K tg J fp it tn) (t0:tn 0 s2.heap) (f:∀ b∈fp,pV X pins H' b) (q:R J H'):QE X pins σ tg R itv s2
inductive QF (X:Cx) (pins:List (aa×Obj)) (tn:Nat->bc->Prop) (fp:List aa) (W:Nat->Nat->St->Hp->Prop) (n:Nat) (s':a9):Prop
 |mk (i:Nat) (σ':St) (H':Hp) (I:bf X pins σ' H' s') (t:tn i s'.heap) (f:∀ b∈fp,H' b=none) (q:W i n σ' H'):QF X pins tn fp W n s'
def PI (X:Cx) (tg iter:aO) (wi:TI):Prop :=
 ∀ (pins:List (aa×Obj)) (s:a9) (σ:St) (H:Hp) (R:It->Hp->Prop),bf X pins σ H s->wi σ H R ->
  aj (aA X.prog X.w) X.A (bQ iter X.env) (fun v s1=>aj (aA X.prog X.w) X.A (tU v) (QE X pins σ tg R) X.xe s1) X.xe s
theorem Fo {M : IP} {A : aV} {E : a7 -> a9 -> Prop} {s : a9} {tg : aO} {it : aa} {u : a7} {o : Obj} {n : String} {vs : Array a7} {Q : Unit -> a9 -> Prop} (ho : s.heap.get? it = some o) (hc : o.cls = .type n) (hd : o.data = .fields vs)
    (hn : ["enumerate", "zip", "dict_itemiterator", "dict_reverseitemiterator", "odict_iterator", "itertools.zip_longest", "itertools.pairwise"].contains n = false) (hQ : Q () s) : aj M A (gy tg (.ref it) u) Q E s := by
  unfold gy
  cases tg <;> first
    | exact ae hQ
    | (cases u <;> first
        | exact ae hQ
        | (refine a6 (wpAny_load ho ?_)
           rw [hc, hd]
           show aj M A (if (["enumerate", "zip", "dict_itemiterator", "dict_reverseitemiterator", "odict_iterator", "itertools.zip_longest", "itertools.pairwise"].contains n && vs[0]? == some (bS _)) = true then _ else _) Q E s
           rw [if_neg (by intro h; rw [hn, vX] at h; cases h)]
           exact ae hQ))
def QG (K:a5) (a:aa):It :=
 ⟨fun i H=>∃ xs x,k_ K H a xs/\xs[i]?=some x,fun i H x H'=>H'=H/\∀ xs,k_ K H a xs->xs[i]?=some x,fun i H=>∃ xs,k_ K H a xs/\xs.length<=i⟩
def QH (K:a5) (a:aa):It :=
 ⟨fun i H=>∃ xs x,iF K H a xs/\xs[i]?=some x,fun i H x H'=>H'=H/\∀ xs,iF K H a xs->xs[i]?=some x,fun i H=>∃ xs,iF K H a xs/\xs.length<=i⟩
def Qd (lo:Int) (n:Nat):It:=⟨fun i _=>i<n,fun i H x H'=>H'=H/\x=.int (lo+i),fun i _=>n<=i⟩
theorem Dy {P:aI}{w:aW}{K:a5}{tg:aO} (a it:aa):yH P w K tg (QG K a) [it] it (fun i h=>h.IsListIter it a i) where
 mem:=by simp
 obj:=fun i h st b hb=>by
  have e:b=it:=by simpa using hb
  subst e
  obtain ⟨o,e,c,d⟩:=st
  exact ⟨o,e,fun v z=>by rw [d] at z;cases z⟩
 keep:=fun i h h' st k=>st.at fun o e=>k it (by simp) o e
 item:=by
  intro X hP hw hK hc i pins s σ H E I hf st hg
  subst hP hw hK
  obtain ⟨xs,x,hq,hx⟩:=hg
  obtain ⟨its,rv,p,hz⟩:=I.list hq
  obtain ⟨u,hu,ru⟩:=rv.get hx
  obtain ⟨f0,f1,f2,f3,f4,f5⟩:=hf it (by simp)
  refine wpAny_pyNext_list_item st p.isList (x:=u) (by simpa using hu) fun h' st' sb=>?_
  have I1:bf X pins σ H { s with heap:=h' }:=I.turned (t':=s.toks) (fun b o hb e=>(sb.2 b hb).trans e) f0 f1 f3 f4 f5
  obtain ⟨o,e,c,d⟩:=id st'
  exact ⟨u,rfl,Fo (s:={ s with heap:=h' }) e c d (by decide) ⟨x,H,I1,ru,⟨rfl,fun ys hy=>by rw [I.list_inj hy hq];exact hx⟩,st',fun b hb=>(hf b hb).1⟩⟩
 done:=by
  intro X hP hw hK hc i pins s σ H E I hf st hg
  subst hP hw hK
  obtain ⟨xs,hq,hx⟩:=hg
  obtain ⟨its,rv,p,hz⟩:=I.list hq
  obtain ⟨f0,f1,f2,f3,f4,f5⟩:=hf it (by simp)
  have hl:=rv.length
  exact wpAny_pyNext_list_end (I.ok.hd hc) st p.isList (by simp;omega) fun h' eb=>⟨rfl,I.turned (t':=s.toks) (fun b o hb e=>eb b o hb e) f0 f1 f3 f4 f5⟩
 self:=fun _ _ _ _ _ st h=>wpAny_pyIter_listiter st h
theorem AO {P:aI}{w:aW}{K:a5}{tg:aO} (a it:aa):yH P w K tg (QH K a) [it] it (fun i h=>h.IsTupleIter it a i) where
 mem:=by simp
 obj:=fun i h st b hb=>by
  have e:b=it:=by simpa using hb
  subst e
  obtain ⟨o,e,c,d⟩:=st
  exact ⟨o,e,fun v z=>by rw [d] at z;cases z⟩
 keep:=fun i h h' st k=>st.at fun o e=>k it (by simp) o e
 item:=by
  intro X hP hw hK hc i pins s σ H E I hf st hg
  subst hP hw hK
  obtain ⟨xs,x,hq,hx⟩:=hg
  obtain ⟨its,rv,p,hz⟩:=I.tuple hq
  obtain ⟨u,hu,ru⟩:=rv.get hx
  obtain ⟨f0,f1,f2,f3,f4,f5⟩:=hf it (by simp)
  refine wpAny_pyNext_tuple_item st (show s.heap.IsTuple a its.toArray from p) (x:=u) (by simpa using hu) fun h' st' sb=>?_
  have I1:bf X pins σ H { s with heap:=h' }:=I.turned (t':=s.toks) (fun b o hb e=>(sb.2 b hb).trans e) f0 f1 f3 f4 f5
  obtain ⟨o,e,c,d⟩:=id st'
  exact ⟨u,rfl,Fo (s:={ s with heap:=h' }) e c d (by decide) ⟨x,H,I1,ru,⟨rfl,fun ys hy=>by rw [I.tuple_inj hy hq];exact hx⟩,st',fun b hb=>(hf b hb).1⟩⟩
 done:=by
  intro X hP hw hK hc i pins s σ H E I hf st hg
  subst hP hw hK
  obtain ⟨xs,hq,hx⟩:=hg
  obtain ⟨its,rv,p,hz⟩:=I.tuple hq
  obtain ⟨f0,f1,f2,f3,f4,f5⟩:=hf it (by simp)
  have hl:=rv.length
  exact wpAny_pyNext_tuple_end (I.ok.hd hc) st (show s.heap.IsTuple a its.toArray from p) (by simp;omega) fun h' eb=>⟨rfl,I.turned (t':=s.toks) (fun b o hb e=>eb b o hb e) f0 f1 f3 f4 f5⟩
 self:=fun _ _ _ _ _ st h=>wpAny_pyIter_tupleiter st h
theorem AQ {P:aI}{w:aW}{K:a5}{tg:aO} (it:aa) (lo:Int) (n:Nat):yH P w K tg (Qd lo n) [it] it (fun i h=>IsRangeIter h it (lo+(i:Nat)*1) ((n:Int)-(i:Nat)) 1) where
 mem:=by simp
 obj:=fun i h st b hb=>by
  have e:b=it:=by simpa using hb
  subst e
  exact ⟨_,st,fun v z=>by
   have z':Data.fields _=Data.cell v:=z
   cases z'⟩
 keep:=fun i h h' st k=>k it (by simp) _ st
 item:=by
  intro X hP hw hK hc i pins s σ H E I hf st hg
  subst hP hw hK
  obtain ⟨f0,f1,f2,f3,f4,f5⟩:=hf it (by simp)
  have W:=Walks.range (prog:=X.prog) (w:=X.w) (I.ok.hd hc) it lo 1 n
  refine W.item i s _ _ hg st fun v h' tk hv st' kk=>?_
  obtain ⟨t,rfl⟩:=hv
  have I1:bf X pins σ H { s with heap:=h',toks:=tk }:=I.turned (fun b o hb e=>kk b o (by simpa using hb) e) f0 f1 f3 f4 f5
  refine ⟨_,rfl,Fo (s:={ s with heap:=h',toks:=tk }) (n:="range_iterator") st' rfl rfl (by decide) ⟨.int (lo+i),H,I1,⟨t,?_⟩,⟨rfl,rfl⟩,st',fun b hb=>(hf b hb).1⟩⟩
  rw [Int.mul_one]
 done:=by
  intro X hP hw hK hc i pins s σ H E I hf st hg
  subst hP hw hK
  obtain ⟨f0,f1,f2,f3,f4,f5⟩:=hf it (by simp)
  exact wpAny_pyNext_range_end (I.ok.hd hc) st (by have:n<=i:=hg;omega) fun h' eb=>⟨rfl,I.turned (t':=s.toks) (fun b o hb e=>eb b o hb e) f0 f1 f3 f4 f5⟩
 self:=fun _ _ _ _ _ st h=>wpAny_pyIter_rangeiter st h
end L2
namespace L2
open PySem PySem.Spec PyProof.Rows
section
variable {X:Cx}{tg:aO}
def Om (K:a5) (tl:TE):TI:=fun σ H R=>tl σ H fun x H1=>∃ a,x=.ref a/\(∃ xs,k_ K H1 a xs)/\R (QG K a) H1
def QI (K:a5) (tl:TE):TI:=fun σ H R=>tl σ H fun x H1=>∃ a,x=.ref a/\(∃ xs,iF K H1 a xs)/\R (QH K a) H1
theorem pW {l:aO}{tl:TE} (hl:PE X l tl):PI X tg l (Om X.K tl):=by
 intro pins s σ H R I h
 refine eD (hl pins s σ H _ I h) fun v s1 h_16=>?_
 obtain ⟨x,H1,I1,r1,q1⟩:=h_16
 obtain ⟨a,e,⟨xs,hq⟩,q⟩:=q1
 subst e
 cases r1
 obtain ⟨its,rv,p,hz⟩:=I1.list hq
 refine ji p.isList ?_
 refine ⟨s1.heap.objs.size,[s1.heap.objs.size],_,_,H1,rfl,I1.kept (t':=s1.toks) fun b o e=>a8 _ e,Dy a _,⟨_,ar _ rfl,rfl,rfl⟩,fun b hb=>?_,q⟩
 have e:b=s1.heap.objs.size:=by simpa using hb
 subst e
 exact I1.fpOk (ao _) (I1.hok.fresh (ao _))
theorem AR {l:aO}{tl:TE} (hl:PE X l tl):PI X tg l (QI X.K tl):=by
 intro pins s σ H R I h
 refine eD (hl pins s σ H _ I h) fun v s1 h_17=>?_
 obtain ⟨x,H1,I1,r1,q1⟩:=h_17
 obtain ⟨a,e,⟨xs,hq⟩,q⟩:=q1
 subst e
 cases r1
 obtain ⟨its,rv,p,hz⟩:=I1.tuple hq
 refine eI (show s1.heap.IsTuple a its.toArray from p) ?_
 refine ⟨s1.heap.objs.size,[s1.heap.objs.size],_,_,H1,rfl,I1.kept (t':=s1.toks) fun b o e=>a8 _ e,AO a _,⟨_,ar _ rfl,rfl,rfl⟩,fun b hb=>?_,q⟩
 have e:b=s1.heap.objs.size:=by simpa using hb
 subst e
 exact I1.fpOk (ao _) (I1.hok.fresh (ao _))
theorem Fp {pins:List (aa×Obj)}{σ:St}{H:Hp}{s:a9}{R:It->Hp->Prop}{E:a7->a9->Prop}{lo hi:Int}{t u v:Tok}{tk:Nat} (I:bf X pins σ H s) (h1:-(2 ^ 62)<=lo) (h2:lo<2 ^ 62) (h3:-(2 ^ 62)<=hi) (h4:hi<2 ^ 62)
  (q:R (Qd lo (hi-lo).toNat) H):aj (aA X.prog X.w) X.A (tU (.ref s.heap.objs.size)) (QE X pins σ tg R) E { s with heap:=s.heap.push { cls:=.type "range",data:=.fields #[.int lo t,.int hi u,.int 1 v] },toks:=tk }:=by
 refine wpAny_pyIter_range (IsRange.new ..) (small_one h1 h2 h3 h4) ?_
 have I1:bf X pins σ H { s with heap:=s.heap.push { cls:=.type "range",data:=.fields #[.int lo t,.int hi u,.int 1 v] },toks:=tk }:=I.kept fun b o e=>a8 _ e
 refine ⟨(s.heap.push { cls:=.type "range",data:=.fields #[.int lo t,.int hi u,.int 1 v] }).objs.size,[(s.heap.push { cls:=.type "range",data:=.fields #[.int lo t,.int hi u,.int 1 v] }).objs.size],_,_,H,rfl,
  I1.kept (t':=tk) fun b o e=>a8 _ e,AQ _ lo (hi-lo).toNat,?_,fun b hb=>?_,q⟩
 ·have e1:lo+((0:Nat):Int)*1=lo:=by simp
  have e2:(((hi-lo).toNat:Nat):Int)-((0:Nat):Int)=Builtin.Range.rangeSize lo hi 1:=by rw [rangeSize_one];split<;>omega
  show IsRangeIter _ _ (lo+((0:Nat):Int)*1) ((((hi-lo).toNat:Nat):Int)-((0:Nat):Int)) 1
  rw [e1,e2]
  exact ar _ rfl
 ·have e:b=(s.heap.push { cls:=.type "range",data:=.fields #[.int lo t,.int hi u,.int 1 v] }).objs.size:=by simpa using hb
  subst e
  exact I1.fpOk (ao _) (I1.hok.fresh (ao _))
def On (ta:TA):TI:=fun σ H R=>ta σ H fun vs H1=>∃ j:Int,vs=[.int j]/\-(2 ^ 62)<=j/\j<2 ^ 62/\R (Qd 0 j.toNat) H1
theorem Dz {a:aO}{ta:TA}{p pos:Pos} (hg:Gl X "range") (hm:X.mg "range"=none) (ha:PA X [a] ta) (hs:ap [a] X.env=[(false,bQ a X.env)]:=by rfl):PI X tg (.Call (.Name "range" p) [a] [] pos) (On ta):=by
 intro pins s σ H R I h
 refine Call_ (rh I hg hm boot_range (f9 (eD (ha pos pins s σ H _ I h) fun us s1 ⟨vs,H1,I1,r1,q1⟩=>?_) hs rfl))
 obtain ⟨j,e,q1,q2,q⟩:=q1
 subst e
 cases r1 with
 |cons r rr =>
  cases rr
  obtain ⟨t,rfl⟩:=r
  exact call_range_1 (Fp I1 (by omega) (by omega) q1 q2 (by simpa using q))
inductive QJ (g:TG) (tb:TS) (D:vD) (σ:St) (J:It) (H1:Hp):Prop
 |mk (W:Nat->Nat->St->Hp->Prop) (w0:∃ m,W 0 m σ H1) (turn:∀ i m σ H,W i m σ H ->
 (J.stop i H/\D.nx σ H)\/(J.go i H/\∃ N:St->Hp->Prop,(∀ σ' H',N σ' H'->∃ m',m'<m/\W (i+1) m' σ' H')/\∀ x H',J.yld i H x H'->g x σ H' fun σ2 H2=>tb { D with nx:=N,ct:=N,bk:=D.nx } σ2 H2)):QJ g tb D σ J H1
def QK (wi:TI) (g:TG) (tb:TS):TS:=fun D σ H=>wi σ H (QJ g tb D σ)
def ub (fp:List aa) (h:bc):List (aa×Obj):=fp.filterMap fun b=>(h.get? b).map fun o=>(b,o)
theorem iR {fp:List aa}{h:bc}{b:aa}{o:Obj} (hb:b∈fp) (e:h.get? b=some o):(b,o)∈ub fp h:=List.mem_filterMap.mpr ⟨b,hb,by rw [e];rfl⟩
theorem wg {fp:List aa}{h:bc}{p:aa×Obj} (hp:p∈ub fp h):p.1∈fp/\h.get? p.1=some p.2:=by
 obtain ⟨b,hb,e⟩:=List.mem_filterMap.mp hp
 cases q:h.get? b with
 |none=>rw [q] at e;cases e
 |some o =>
  rw [q] at e
  have e':(b,o)=p:=bh e
  subst e'
  exact ⟨hb,q⟩
theorem bf.pinned {pins:List (aa×Obj)}{σ:St}{H:Hp}{s:a9}{fp:List aa} (I:bf X pins σ H s) (hf:∀ b∈fp,pV X pins H b) (ho:∀ b∈fp,∃ o,s.heap.get? b=some o/\∀ v,o.data≠.cell v):bf X (pins++ub fp s.heap) σ H s :=
 I.pins_of fun p hp=>(List.mem_append.mp hp).elim (fun z=>I.pin p (aM _ z)) fun z=>by
  obtain ⟨hb,e⟩:=wg z
  obtain ⟨f0,f1,f2,_⟩:=hf p.1 hb
  obtain ⟨o,e',d⟩:=ho p.1 hb
  rw [e] at e';cases e'
  exact ⟨e,f0,f1,f2,d⟩
theorem bf.unpinned {pins pl:List (aa×Obj)}{σ:St}{H:Hp}{s:a9} (I:bf X (pins++pl) σ H s):bf X pins σ H s:=I.pins_of fun p hp=>I.pin p (aM _ (oE _ hp))
theorem Fq {iter:aO}{body:List dC}{wi:TI}{g:TG}{tb:TS}{pos:Pos} (hp:PassesOwn (aA X.prog X.w) X.A X.env X.xe) (hc:X.calm=true) (hi:PI X tg iter wi) (hg:PG X tg g) (hb:yy X body tb)
  (hs:∀ x,df iter X.env x=pure x:=by intro _;rfl):PS X (.For tg iter body [] pos) (QK wi g tb):=by
 intro pins s σ H D I h
 refine wpAny_For (eD (hi pins s σ H _ I h) fun v s1 h1=>eD h1 fun itv s2 h2=>?_) hs
 obtain ⟨it,fp,tn,J,H2,e,I2,T,st2,f2,W,⟨m0,w0⟩,turn⟩:=h2
 subst e
 have stat:∀ {H':Hp},(∀ b∈fp,H' b=none)->∀ b∈fp,pV X pins H' b:=fun hn b hb=>⟨hn b hb,(f2 b hb).f1,(f2 b hb).f2,(f2 b hb).f3,(f2 b hb).f4,(f2 b hb).f5⟩
 refine codeAny_forLoop_any (QF X pins tn fp W) ?_ m0 ⟨0,σ,H2,I2,st2,fun b hb=>(f2 b hb).1,w0⟩
 rintro n s3 ⟨i,σ3,H3,I3,st3,fr3,w3⟩
 rcases turn i n σ3 H3 w3 with ⟨stop,qn⟩|⟨go,N,hN,step⟩
 ·refine kM hp (eD (T.done X rfl rfl rfl hc i pins s3 σ3 H3 X.xe I3 (stat fr3) st3 stop) fun r s4 ⟨hr,I4⟩=>?_)
  subst hr
  exact pC ⟨σ3,H3,I4,qn⟩
 ·refine kM hp (eD (T.item X rfl rfl rfl hc i pins s3 σ3 H3 X.xe I3 (stat fr3) st3 go) fun r s4 ⟨u,hr,h4⟩=>?_)
  subst hr
  refine kM hp (eD h4 fun _ s5 ⟨x,H5,I5,r5,y5,st5,fr5⟩=>?_)
  have I5':=I5.pinned (stat fr5) (T.obj _ _ st5)
  refine kM hp (eD (hg _ s5 σ3 H5 x u _ I5' r5 (step x H5 y5)) fun _ s6 ⟨σ6,H6,I6,q6⟩=>?_)
  refine kM hp (eD (hb _ s6 σ6 H6 _ I6 q6) fun f s7 q7=>?_)
  have again:∀ {σ7:St}{H7:Hp},bf X (pins++ub fp s5.heap) σ7 H7 s7->N σ7 H7->∃ m,m<n/\QF X pins tn fp W m s7:=fun {σ7 H7} I7 n7=>by
   obtain ⟨m',hm,w7⟩:=hN σ7 H7 n7
   refine ⟨m',hm,i+1,σ7,H7,I7.unpinned,T.keep _ _ _ st5 fun b hb o e=>(I7.pin (b,o) (aM _ (aM _ (iR hb e)))).1,fun b hb=>?_,w7⟩
   obtain ⟨o,e,d⟩:=T.obj _ _ st5 b hb
   exact (I7.pin (b,o) (aM _ (aM _ (iR hb e)))).2.1
  cases f with
  |next=>obtain ⟨σ7,H7,I7,n7⟩:=q7;exact again I7 n7
  |cont=>obtain ⟨σ7,H7,I7,n7⟩:=q7;exact again I7 n7
  |brk=>obtain ⟨σ7,H7,I7,q7⟩:=q7;exact ⟨σ7,H7,I7.unpinned,q7⟩
  |ret v=>obtain ⟨x7,σ7,H7,I7,r7,q7⟩:=q7;exact ⟨x7,σ7,H7,I7.unpinned,r7,q7⟩
end
end L2
namespace L2
open PySem PySem.Spec PyProof.Rows
abbrev R2:=V->V->Hp->VK->Prop
def nN (X:Cx) (f:a7->a7->Sem a7) (r:R2):Prop :=
 ∀ (pins:List (aa×Obj)) (s:a9) (σ:St) (H:Hp) (x y:V) (v u:a7) (Q:VK),bf X pins σ H s->cu x v->cu y u->r x y H Q ->
  aj (aA X.prog X.w) X.A (f v u) (EP X pins σ Q) X.xe s
def iK (X:Cx) (f:a7) (r:List V->Hp->VK->Prop):Prop :=
 ∀ (pins:List (aa×Obj)) (s:a9) (σ:St) (H:Hp) (xs:List V) (us:List a7) (Q:VK),bf X pins σ H s->cz xs us->r xs H Q ->
  aj (aA X.prog X.w) X.A (call f us) (EP X pins σ Q) X.xe s
def QL (X:Cx) (r:V->Hp->(Bool->Hp->Prop)->Prop):Prop :=
 ∀ (pins:List (aa×Obj)) (s:a9) (σ:St) (H:Hp) (x:V) (v:a7) (Q:Bool->Hp->Prop),bf X pins σ H s->cu x v->r x H Q ->
  aj (aA X.prog X.w) X.A (truthy v) (TP X pins σ Q) X.xe s
def Oo (r:R2) (ta tb:TE):TE:=fun σ H Q=>ta σ H fun x H1=>tb σ H1 fun y H2=>r x y H2 Q
inductive Rz (C:Int->Int->Prop) (g:Int->Int->V) (x:V) (y:V) (H:Hp) (Q:VK):Prop
 |mk (i j:_) (h0:x=.int i) (h1:y=.int j) (h2:C i j) (h3:Q (g i j) H):Rz C g x y H Q
def rI (C:Int->Int->Prop) (g:Int->Int->V):R2:=Rz C g
inductive Op (g:Int->Int->V) (x:V) (y:V) (H:Hp) (Q:VK):Prop
 |mk (i j:_) (h0:x=.int i) (h1:y=.int j) (h2:Q (g i j) H):Op g x y H Q
def MP (g:Int->Int->V):R2:=Op g
section
variable {X:Cx}{a b c:aO}{ta tb tc:TE}{pos:Pos}
theorem MQ (ha:PE X a ta) (hb:PE X b tb) {pins:List (aa×Obj)}{s:a9}{σ:St}{H:Hp}{R:V->V->Hp->Prop} (I:bf X pins σ H s)
  (h:ta σ H fun x H1=>tb σ H1 fun y H2=>R x y H2) {Q:a7->a9->Prop}{f:a7->a7->Sem a7}
  (hf:∀ v u s2 x y H2,bf X pins σ H2 s2->cu x v->cu y u->R x y H2->aj (aA X.prog X.w) X.A (f v u) Q X.xe s2) :
  aj (aA X.prog X.w) X.A (bQ a X.env) (fun v s₁=>aj (aA X.prog X.w) X.A (bQ b X.env) (fun u s₂=>aj (aA X.prog X.w) X.A (f v u) Q X.xe s₂) X.xe s₁) X.xe s:=by
 refine eD (ha pins s σ H _ I h) fun v s1 h_19=>?_
 obtain ⟨x,H1,I1,r1,q1⟩:=h_19
 refine eD (hb pins s1 σ H1 _ I1 q1) fun u s2 h_20=>?_
 obtain ⟨y,H2,I2,r2,q2⟩:=h_20
 exact hf v u s2 x y H2 I2 r1 r2 q2
theorem Oq {op:Operator}{r:R2} (ho:nN X (fB op) r) (ha:PE X a ta) (hb:PE X b tb):PE X (.BinOp a op b pos) (Oo r ta tb):=by
 intro pins s σ H Q I h
 exact wpAny_BinOp (MQ ha hb I h fun v u s2 x y H2 I2 rx ry q=>ho pins s2 σ H2 x y v u Q I2 rx ry q)
theorem QM {f:a7->a7->Sem a7}{C:Int->Int->Prop}{g:Int->Int->Int}
  (rule:∀ (i j:Int) (t u:Tok) (s:a9) (Q:a7->a9->Prop) (E:a7->a9->Prop),C i j->Q (.int (g i j) s.toks) { s with toks:=s.toks+1 }->aj (aA X.prog X.w) X.A (f (.int i t) (.int j u)) Q E s) :
  nN X f (rI C fun i j=>.int (g i j)):=by
 intro pins s σ H x y v u Q I rx ry h
 obtain ⟨i,j,rfl,rfl,hc,q⟩:=h
 obtain ⟨t,rfl⟩:=rx
 obtain ⟨t',rfl⟩:=ry
 exact rule i j t t' s _ _ hc ⟨.int (g i j),H,I.tok _,⟨_,rfl⟩,q⟩
theorem QN {f:a7->a7->Sem a7}{g:Int->Int->Int}
  (rule:∀ (i j:Int) (t u:Tok) (s:a9) (Q:a7->a9->Prop) (E:a7->a9->Prop),Q (.int (g i j) s.toks) { s with toks:=s.toks+1 }->aj (aA X.prog X.w) X.A (f (.int i t) (.int j u)) Q E s) :
  nN X f (MP fun i j=>.int (g i j)):=by
 intro pins s σ H x y v u Q I rx ry h
 obtain ⟨i,j,rfl,rfl,q⟩:=h
 obtain ⟨t,rfl⟩:=rx
 obtain ⟨t',rfl⟩:=ry
 exact rule i j t t' s _ _ ⟨.int (g i j),H,I.tok _,⟨_,rfl⟩,q⟩
theorem MR {f:a7->a7->Sem a7}{g:Int->Int->Bool}
  (rule:∀ (i j:Int) (t u:Tok) (s:a9) (Q:a7->a9->Prop) (E:a7->a9->Prop),Q (.bool (g i j)) s->aj (aA X.prog X.w) X.A (f (.int i t) (.int j u)) Q E s) :
  nN X f (MP fun i j=>.bl (g i j)):=by
 intro pins s σ H x y v u Q I rx ry h
 obtain ⟨i,j,rfl,rfl,q⟩:=h
 obtain ⟨t,rfl⟩:=rx
 obtain ⟨t',rfl⟩:=ry
 exact rule i j t t' s _ _ ⟨.bl (g i j),H,I,rfl,q⟩
def QO (i j:Int):Prop:=0<j/\j<1073741824
def MS (i j:Int):Prop:=(-(2 ^ 64)<i/\i<2 ^ 64)\/(-(2 ^ 64)<j/\j<2 ^ 64)
theorem MS.ok {i j:Int} (h:MS i j):IntMulOk i j:=by
 rcases h with ⟨h1,h2⟩|⟨h1,h2⟩
 ·exact .of_left (intBits_le_64 h1 h2)
 ·exact .of_right (intBits_le_64 h1 h2)
theorem MT:nN X (fB .Add) (MP fun i j=>.int (i+j)):=QN fun _ _ _ _ _ _ _ q=>add_int q
theorem MU:nN X (fB .Mult) (rI MS fun i j=>.int (i*j)):=QM fun _ _ _ _ _ _ _ hc q=>mul_int q hc.ok
theorem Jf:nN X (fB .FloorDiv) (rI QO fun i j=>.int (i / j)):=QM fun i j _ _ _ _ _ hc q=>by
 have h1:(0:Int)<j:=hc.1
 have h2:j<1073741824:=hc.2
 exact floordiv_int (by omega) (by rw [Int.fdiv_eq_ediv_of_nonneg i (by omega)];exact q) (.inl (PyProof.noPylong_small (by omega)))
theorem MV:nN X (fB .Mod) (rI (fun _ j=>0<j) fun i j=>.int (i % j)):=QM fun i j _ _ _ _ _ hc q=>by
 have h1:(0:Int)<j:=hc
 exact mod_int' (by omega) (by rw [Int.fmod_eq_emod_of_nonneg i (by omega)];exact q)
end
def QP:V->V->Bool
 |.non,.non=>true | .non,.int _=>true | .int _,.non=>true | .non,.bl _=>true | .bl _,.non=>true | .non,.str _=>true | .str _,.non=>true
 |.int _,.int _=>true | .bl _,.bl _=>true | .str _,.str _=>true | .byt _,.byt _=>true
 |.int _,.str _=>true | .str _,.int _=>true | .bl _,.str _=>true | .str _,.bl _=>true
 |_,_=>false
def S2:R2:=fun x y H Q=>QP x y=true/\Q (.bl (!decide (x=y))) H
theorem Jg {i j:Int}:decide (V.int i=V.int j)=(i==j):=by
 rw [fG]
 simp
theorem MW {i j:Bool}:decide (V.bl i=V.bl j)=(i==j):=by
 rw [fG]
 simp
theorem Jh {i j:Str}:decide (V.str i=V.str j)=(i==j):=by
 rw [fG]
 simp
theorem Ji {i j:Array UInt8}:decide (V.byt i=V.byt j)=(i.toList==j.toList):=by
 rw [fG]
 cases i
 cases j
 simp
section
variable {X:Cx}{a b c:aO}{ta tb tc:TE}{pos:Pos}
theorem fY {pins:List (aa×Obj)}{σ:St}{H:Hp}{s:a9}{Q:VK}{k k':Bool} (I:bf X pins σ H s) (q:Q (.bl k) H) (e:k=k'):EP X pins σ Q (.bool k') s:=by
 subst e
 exact ⟨.bl k,H,I,rfl,q⟩
theorem Os:nN X (bz .NotEq) S2:=by
 intro pins s σ H x y v u Q I rx ry h
 obtain ⟨hs,q⟩:=h
 cases x with
 |non =>
  cases rx
  cases y with
  |non=>cases ry;exact PySem.EqNone.ne_none_none (fY I q (by simp))
  |bl j=>cases ry;exact PySem.EqNone.ne_none_bool (fY I q (by simp))
  |int j=>obtain ⟨t',rfl⟩:=ry;exact PySem.EqNone.ne_none_int (fY I q (by simp))
  |str j=>obtain ⟨t',rfl⟩:=ry;exact PySem.EqNone.ne_none_str (fY I q (by simp))
  |_=>exact absurd (show false=true from hs) aP
 |bl i =>
  cases rx
  cases y with
  |non=>cases ry;exact PySem.EqNone.ne_bool_none (fY I q (by simp))
  |bl j=>cases ry;exact ne_bool (fY I q (congrArg not MW))
  |str j=>obtain ⟨t',rfl⟩:=ry;exact PySem.EqMixed.ne_bool_str (fY I q (by simp))
  |_=>exact absurd (show false=true from hs) aP
 |int i =>
  obtain ⟨t,rfl⟩:=rx
  cases y with
  |non=>cases ry;exact PySem.EqNone.ne_int_none (fY I q (by simp))
  |int j=>obtain ⟨t',rfl⟩:=ry;exact ne_int (fY I q (congrArg not Jg))
  |str j=>obtain ⟨t',rfl⟩:=ry;exact PySem.EqMixed.ne_int_str (fY I q (by simp))
  |_=>exact absurd (show false=true from hs) aP
 |str i =>
  obtain ⟨t,rfl⟩:=rx
  cases y with
  |non=>cases ry;exact PySem.EqNone.ne_str_none (fY I q (by simp))
  |bl j=>cases ry;exact PySem.EqMixed.ne_str_bool (fY I q (by simp))
  |int j=>obtain ⟨t',rfl⟩:=ry;exact PySem.EqMixed.ne_str_int (fY I q (by simp))
  |str j=>obtain ⟨t',rfl⟩:=ry;exact ne_str (fY I q (congrArg not Jh))
  |_=>exact absurd (show false=true from hs) aP
 |byt i =>
  obtain ⟨t,rfl⟩:=rx
  cases y with
  |byt j=>obtain ⟨t',rfl⟩:=ry;exact PySem.W.ne_bytes (fY I q (congrArg not Ji))
  |_=>exact absurd (show false=true from hs) aP
 |_=>cases y<;>exact absurd (show false=true from hs) aP
theorem Ot:nN X (bz .Lt) (MP fun i j=>.bl (decide (i<j))):=MR fun _ _ _ _ _ _ _ q=>lt_int q
theorem Ou:nN X (bz .LtE) (MP fun i j=>.bl (decide (i<=j))):=MR fun _ _ _ _ _ _ _ q=>le_int q
theorem Ov:nN X (bz .Gt) (MP fun i j=>.bl (decide (j<i))):=MR fun _ _ _ _ _ _ _ q=>gt_int q
theorem DA:nN X (bz .Lt) (fun x y H Q=>∃ i j,x=.str i/\y=.str j/\Q (.bl (decide (i.cps.toList<j.cps.toList))) H):=by
 intro pins s σ H x y v u Q I rx ry h
 obtain ⟨i,j,rfl,rfl,q⟩:=h
 obtain ⟨t,rfl⟩:=rx
 obtain ⟨t',rfl⟩:=ry
 exact lt_str (fY I q rfl)
theorem AS (b:aO) {op:EH} (h:op≠.In:=by decide) (h2:op≠.NotIn:=by decide):e_ op b=false:=by
 have e1:(op==CmpOp.In)=false:=by cases op<;>first|rfl|exact absurd rfl h
 have e2:(op==CmpOp.NotIn)=false:=by cases op<;>first|rfl|exact absurd rfl h2
 cases b<;>simp [e_,e1,e2]
theorem Jj {op:EH}{r:R2} (ho:nN X (bz op) r) (ha:PE X a ta) (hb:PE X b tb) (hm:e_ op b=false):PE X (.Compare a [op] [b] pos) (Oo r ta tb):=by
 intro pins s σ H Q I h
 exact wpAny_Compare1 (MQ ha hb I h fun v u s2 x y H2 I2 rx ry q=>ho pins s2 σ H2 x y v u Q I2 rx ry q) hm
def Li (t:TE):TT:=fun σ H Q=>t σ H fun x H'=>∃ k,x=.bl k/\Q k H'
theorem C2 {op:EH}{r:R2} (ho:nN X (bz op) r) (ha:PE X a ta) (hb:PE X b tb) (hm:e_ op b=false):PT X (.Compare a [op] [b] pos) (Li (Oo r ta tb)):=by
 intro pins s σ H Q I h
 refine Iz (eD (ha pins s σ H _ I h) fun v s1 ⟨x,H1,I1,r1,q1⟩=>eD (hb pins s1 σ H1 _ I1 q1) fun u s2 ⟨y,H2,I2,r2,q2⟩ =>
  eD (ho pins s2 σ H2 x y v u _ I2 r1 r2 q2) fun c s3 ⟨z,H3,I3,r3,k,e,q3⟩=>?_) hm
 subst e
 cases r3
 exact cL ⟨H3,I3,q3⟩
def AT (r r':R2) (ta tb tc:TE):TE:=fun σ H Q=>ta σ H fun x H1=>tb σ H1 fun y H2=>r x y H2 fun z H3=>∃ k,z=.bl k /\
 (if k=true then tc σ H3 fun w' H4=>r' y w' H4 Q else Q (.bl false) H3)
theorem Ft {op op':EH}{r r':R2} (ho:nN X (bz op) r) (ho':nN X (bz op') r') (ha:PE X a ta) (hb:PE X b tb) (hc:PE X c tc)
  (hm:EI [op,op'] [b,c]=false:=by with_unfolding_all rfl):PE X (.Compare a [op,op'] [b,c] pos) (AT r r' ta tb tc):=by
 intro pins s σ H Q I h
 refine Compare_chain (eD (ha pins s σ H _ I h) fun v s1 ⟨x,H1,I1,r1,q1⟩=>chain_link (eD (hb pins s1 σ H1 _ I1 q1) fun u s2 ⟨y,H2,I2,r2,q2⟩ =>
  eD (ho pins s2 σ H2 x y v u _ I2 r1 r2 q2) fun d s3 ⟨z,H3,I3,r3,k,e,q3⟩=>?_)) hm
 subst e
 cases r3
 refine cL ?_
 cases k with
 |false=>exact ite_ff ⟨.bl false,H3,I3,rfl,q3⟩
 |true=>exact ite_tt (chain_last (eD (hc pins s3 σ H3 _ I3 q3) fun w' s4 h_22=>by obtain ⟨z',H4,I4,r4,q4⟩:=h_22;exact ho' pins s4 σ H4 y z' u w' Q I4 r2 r4 q4))
theorem Fu {op op':EH}{r r':R2} (ho:nN X (bz op) r) (ho':nN X (bz op') r') (ha:PE X a ta) (hb:PE X b tb) (hc:PE X c tc)
  (hm:EI [op,op'] [b,c]=false:=by with_unfolding_all rfl):PT X (.Compare a [op,op'] [b,c] pos) (Li (AT r r' ta tb tc)):=by
 intro pins s σ H Q I h
 refine isTrue_chain (eD (ha pins s σ H _ I h) fun v s1 ⟨x,H1,I1,r1,q1⟩=>test_link (eD (hb pins s1 σ H1 _ I1 q1) fun u s2 ⟨y,H2,I2,r2,q2⟩ =>
  eD (ho pins s2 σ H2 x y v u _ I2 r1 r2 q2) fun d s3 ⟨z,H3,I3,r3,k,e,q3⟩=>?_)) hm
 subst e
 cases r3
 refine cL ?_
 cases k with
 |false =>
  obtain ⟨k',e',q'⟩:=q3
  cases e'
  exact ite_ff ⟨H3,I3,q'⟩
 |true =>
  refine ite_tt (test_last (eD (hc pins s3 σ H3 _ I3 q3) fun w' s4 ⟨z',H4,I4,r4,q4⟩=>eD (ho' pins s4 σ H4 y z' u w' _ I4 r2 r4 q4) fun d' s5 ⟨z2,H5,I5,r5,k2,e2,q5⟩=>?_))
  subst e2
  cases r5
  exact cL ⟨H5,I5,q5⟩
def Ow (K:a5) (x:V) (H:Hp) (k:Bool):Prop :=
 match x with
 |.non=>k=false
 |.bl b=>k=b
 |.int i=>k=(i != 0)
 |.str y=>y.length<=sizeLine/\k=((y.length:Int) != 0)
 |.byt y=>y.size<=sizeLine/\k=((y.size:Int) != 0)
 |.ref p=>(∃ xs,k_ K H p xs/\k=!xs.isEmpty)\/(∃ xs,iF K H p xs/\k=!xs.isEmpty)\/∃ kvs,H p=some (.dK kvs)/\k=!kvs.isEmpty
 |_=>False
theorem AU {κ:Type}{kvs:List (κ×V)}{vs:List (κ×a7)} (r:KV kvs vs):(!vs.isEmpty)=!kvs.isEmpty:=by
 cases r<;>rfl
theorem uc {xs:List V}{its:List a7} (r:cz xs its):(!its.toArray.isEmpty)=!xs.isEmpty:=by
 cases r<;>simp
theorem rj:(sizeLine:Nat)<2 ^ 63:=by rw [eW];decide
theorem MX:QL X (fun x H Q=>∃ k,Ow X.K x H k/\Q k H):=by
 intro pins s σ H x v Q I rx h
 obtain ⟨k,e,q⟩:=h
 have hl:=rj
 have hs:sizeLine=16777216:=eW
 cases x with
 |non =>
  cases rx
  have e':k=false:=e
  subst e'
  exact truthy_none ⟨H,I,q⟩
 |bl b =>
  cases rx
  have e':k=b:=e
  subst e'
  exact cL ⟨H,I,q⟩
 |int i =>
  obtain ⟨t,rfl⟩:=rx
  have e':k=(i != 0):=e
  subst e'
  exact PySem.P.truthy_int ⟨H,I,q⟩
 |str y =>
  obtain ⟨t,rfl⟩:=rx
  obtain ⟨hy,e'⟩:y.length<=sizeLine/\k=((y.length:Int) != 0):=e
  subst e'
  exact PySem.P.truthy_str (by omega) ⟨H,I.tok _,q⟩
 |byt y =>
  obtain ⟨t,rfl⟩:=rx
  obtain ⟨hy,e'⟩:y.size<=sizeLine/\k=((y.size:Int) != 0):=e
  subst e'
  exact PySem.W.truthy_bytes (by omega) ⟨H,I.tok _,q⟩
 |ref p =>
  cases rx
  have e':(∃ xs,k_ X.K H p xs/\k=!xs.isEmpty)\/(∃ xs,iF X.K H p xs/\k=!xs.isEmpty)\/∃ kvs,H p=some (.dK kvs)/\k=!kvs.isEmpty:=e
  rcases e' with ⟨xs,hx,e'⟩|⟨xs,hx,e'⟩|⟨kvs,hx,e'⟩
  ·subst e'
   obtain ⟨its,r,pl,hz⟩:=I.list hx
   have hlen:=r.length
   exact wpAny_truthy_list pl.isList (by simp only [ax];omega) ⟨H,I.tok _,by rw [uc r];exact q⟩
  ·subst e'
   obtain ⟨its,r,pl,hz⟩:=I.tuple hx
   have hlen:=r.length
   exact truthy_tuple pl (by simp only [ax];omega) ⟨H,I.tok _,by rw [uc r];exact q⟩
  ·subst e'
   obtain ⟨hz,hS,vs,r,m⟩:kvs.length<=sizeLine/\(p==fR)=false/\∃ vs,KV kvs vs/\s.heap.DictOf (fg X.prog X.w) p vs:=I.hok p _ hx
   have hlen:kvs.length=vs.length:=kZ r
   exact wpAny_truthy_dict hS m (by omega) ⟨H,I.tok _,by rw [AU r];exact q⟩
 |_=>exact (show False from e).elim
theorem Fv (ha:PE X a ta) (he:∀ whole,tT a X.env whole=(do let v <- whole;r_ a.pos;EZ [v] (truthy v))) :
  PT X a (fun σ H Q=>ta σ H fun x H'=>∃ k,Ow X.K x H' k/\Q k H'):=by
 intro pins s σ H Q I h
 exact isTrue_plain (eD (ha pins s σ H _ I h) fun v s1 h_23=>by obtain ⟨x,H1,I1,r1,q1⟩:=h_23;exact MX pins s1 σ H1 x v Q I1 r1 q1) (he _)
theorem AV:nN X (fB .Add) (fun x y H Q=>∃ i j,x=.str i/\y=.str j/\i.length+j.length<=sizeLine/\Q (.str (i++j)) H):=by
 intro pins s σ H x y v u Q I rx ry h
 obtain ⟨i,j,rfl,rfl,hz,q⟩:=h
 obtain ⟨t,rfl⟩:=rx
 obtain ⟨t',rfl⟩:=ry
 exact add_str (fun t' tk=>⟨.str (i++j),H,I.tok _,⟨_,rfl⟩,q⟩) hz
theorem kh {x:V}{us:List a7} (r:cz [x] us):∃ u,us=[u]/\cu x u:=by
 cases r with
 |cons r1 r2=>cases r2;exact ⟨_,rfl,r1⟩
theorem Fx {x y:V}{us:List a7} (r:cz [x,y] us):∃ u w',us=[u,w']/\cu x u/\cu y w':=by
 cases r with
 |cons r1 r2 =>
  cases r2 with
  |cons r3 r4=>cases r4;exact ⟨_,_,rfl,r1,r3⟩
end
end L2
namespace L2
open PySem PySem.Spec PyProof.Rows
structure MY (h:bc) (x dx C:aa) (mA:Str->Option a7):Prop where
 obj:h.get? x=some (sP C dx)
 ns:h.Ns1 dx mA
 ne:dx≠x
theorem DB {h:bc}{dx:aa}{mA:Str->Option a7} (n:h.Ns1 dx mA):∃ od,h.get? dx=some od/\∀ name,tV name od=some (mA name):=by
 obtain ⟨o,es,ep,ho,hd,hk,_,hm⟩:=n
 refine ⟨o,ho,fun name=>?_⟩
 have e:=hm name
 unfold nsFind findBy at e
 rw [<- Dh] at e
 unfold tV
 rw [hd]
 dsimp only
 split
 ·rename_i y q
  rw [q] at e
  exact congrArg some e
 ·rename_i q
  rw [q] at e
  have a:es.toList.any (·.refKey)=false:=by
   rw [List.any_eq_false]
   intro y hy
   obtain ⟨z,t,hkey⟩:=hk y (Array.mem_toList_iff.mp hy)
   simp [DictEntry.refKey,hkey]
  have a':¬ es.toList.any (·.refKey)=true:=by rw [a];exact aP
  rw [if_neg a']
  exact congrArg some e
theorem MY.look {h:bc}{x dx C:aa}{mA:Str->Option a7} (I:MY h x dx C mA):∃ od,PySem.W.InstAt h x (sP C dx) C (some od)/\∀ name,tV name od=some (mA name) :=
 let ⟨od,ho,hl⟩:=DB I.ns
 ⟨od,⟨I.obj,rfl,rfl,ho⟩,hl⟩
section
variable {prog:aI}{w:aW}{A:aV}{E:a7->a9->Prop}{s:a9}{K:a5}{x dx C f:aa}{mA:Str->Option a7}{name:Str}{v:a7}
end
theorem u9.some_of {v:V}{o:Option a7} (r:u9 (some v) o):∃ u,o=some u/\cu v u:=by
 cases o with
 |none=>exact (show False from r).elim
 |some u=>exact ⟨u,rfl,r⟩
section
variable {P:aI}{w:aW}{H H':Hp}{h h':bc}{a C dx:aa}{fs fs':List (Str×V)}
theorem Jk (hok:mT P w H h) (e:H a=some (.ins C dx fs)):∃ mA,MY h a dx C mA/\(∀ f,u9 (fs.lookup f) (mA f))/\PySem.Within mA (fs.map (·.1))/\fs.length<=1000/\H dx=some (.own a):=by
 obtain ⟨d,z,ne,ob,mA,n,r,q⟩:=(show cC P w H h a (.ins C dx fs) from hok a _ e)
 exact ⟨mA,⟨ob,n,ne⟩,r,q,z,d⟩
end
structure QQ (K:a5) (C:aa):Prop where
 pg:Di K C tW=true
 hd:PySem.W.hasDictIn K C=true
 po:PySem.W.plainOver K C=true
 sa:eS K (.ref C) "__setattr__"=some (some (.builtin "object.__setattr__"))
theorem QQ.get {K:a5}{C:aa} (c:QQ K C) (f:Str):Di K C f=true:=c.pg
section
variable {X:Cx}{pins:List (aa×Obj)}{σ:St}{H:Hp}{s:a9}{a C dx:aa}{fs:List (Str×V)}{f:Str}{v:V}{A:aV}{E:a7->a9->Prop}
end
section
variable {X:Cx}{o e value:aO}{f:Str}{pos pos' tpos:Pos}{ta tv:TE}
end
section
variable {X:Cx}{pins:List (aa×Obj)}{σ:St}{H:Hp}{s:a9}{A:aV}{E:a7->a9->Prop}{Q:a7->a9->Prop}{c:a7}{b:Bool}
inductive rl (K:a5) (H:Hp):V->a7->Prop where
 |non:rl K H .non (.type "NoneType")
 |bl (x:Bool):rl K H (.bl x) (.type "bool")
 |int (i:Int):rl K H (.int i) (.type "int")
 |str (x:Str):rl K H (.str x) (.type "str")
 |flt (x:UInt64):rl K H (.flt x) (.type "float")
 |lst {a:aa}{xs:List V} (e:H a=some (.lst xs)):rl K H (.ref a) (.type "list")
 |frz {a:aa}{o:Obj}{xs:List V} (e:H a=some (.frz o (.lst xs))):rl K H (.ref a) (.type "list")
 |tup {a:aa}{xs:List V} (e:H a=some (.tup xs)):rl K H (.ref a) (.type "tuple")
 |dK {a:aa}{kvs:List (fe×V)} (e:H a=some (.dK kvs)):rl K H (.ref a) (.type "dict")
 |dT {a:aa}{kvs:List (List fe×V)} (e:H a=some (.dT kvs)):rl K H (.ref a) (.type "dict")
 |ins {a C dx:aa}{fs:List (Str×V)} (e:H a=some (.ins C dx fs)) (cl:QQ K C) (ha:eS K (.ref C) "__class__"=some (some (.builtin "object.__class__")))
   (hn:pI K (.builtin "object.__class__") "__get__"=some (some (.builtin "getset_descriptor.__get__"))) (htk:sQ K (.builtin "object.__class__")=some true)
   (hm:bJ K C (.type "object")=some true):rl K H (.ref a) (.ref C)
theorem l9 {x:V}{u t:a7} (I:bf X pins σ H s) (rx:cu x u) (ty:rl X.K H x t) (e:cF X.K t c=some b) (h:∀ tk,Q (.bool b) { s with toks:=tk }) :
  aj (aA X.prog X.w) A (call (.builtin "isinstance") [u,c]) Q E s:=by
 cases ty with
 |non=>cases (show u=dm from rx);exact bO PySem.W.kitx_none I.kIn ig e (fun z=>nomatch z) h
 |bl y=>cases (show u=gq y from rx);exact bO PySem.W.kitx_bool I.kIn ig e (fun z=>nomatch z) h
 |int i=>obtain ⟨t,q⟩:=(show ∃ t,u=lI i t from rx);cases q;exact bO PySem.W.kitx_int I.kIn ig e (fun z=>nomatch z) h
 |str y=>obtain ⟨t,q⟩:=(show ∃ t,u=ic y t from rx);cases q;exact bO PySem.W.kitx_str I.kIn ig e (fun z=>nomatch z) h
 |flt y=>obtain ⟨t,q⟩:=(show ∃ t,u=Value.float y t from rx);cases q;exact bO PySem.W.kitx_float I.kIn ig e (fun z=>nomatch z) h
 | @lst a xs ea =>
  cases (show u=bE a from rx)
  obtain ⟨_,_,n,_,h1⟩:=(show cC X.prog X.w H s.heap a (.lst xs) from I.hok a _ ea)
  exact bO pJ I.kIn ⟨_,h1,rfl⟩ e (fun z=>nomatch z) h
 | @frz a ob xs ea =>
  cases (show u=bE a from rx)
  obtain ⟨_,_,_,n,_,h1⟩:=(show cC X.prog X.w H s.heap a (.frz ob (.lst xs)) from I.hok a _ ea)
  exact bO pJ I.kIn ⟨_,h1,rfl⟩ e (fun z=>nomatch z) h
 | @tup a xs ea =>
  cases (show u=bE a from rx)
  obtain ⟨_,_,_,p⟩:=(show cC X.prog X.w H s.heap a (.tup xs) from I.hok a _ ea)
  obtain ⟨o,h1,h2,_⟩:=p
  exact bO Ao I.kIn ⟨o,h1,h2⟩ e (fun z=>nomatch z) h
 | @dK a kvs ea =>
  cases (show u=bE a from rx)
  obtain ⟨_,_,vs,_,p⟩:=(show cC X.prog X.w H s.heap a (.dK kvs) from I.hok a _ ea)
  obtain ⟨o,es,ep,h1,h2,_⟩:=p
  exact bO BX I.kIn ⟨o,h1,h2.1⟩ e (fun z=>nomatch z) h
 | @dT a kvs ea =>
  cases (show u=bE a from rx)
  obtain ⟨_,_,xs,_,o,es,ep,h1,h2,_⟩:=(show cC X.prog X.w H s.heap a (.dT kvs) from I.hok a _ ea)
  exact bO BX I.kIn ⟨o,h1,h2.1⟩ e (fun z=>nomatch z) h
 | @ins a C dx fs ea cl ha hn htk hm =>
  cases (show u=bE a from rx)
  obtain ⟨mA,O,_⟩:=Jk I.hok ea
  obtain ⟨od,J,_⟩:=O.look
  exact bO (PySem.W.kitx_own (cl.get _) cl.hd ha hn htk hm) I.kIn J e (fun z=>nomatch z) h
end
end L2
namespace L2
open PySem PySem.Spec PyProof.Rows
structure iS (k:Nat) (A:aV):Prop where
 hd:A.handled=none
 dp:A.depth+3*k+5<Ap
 un:A.units+16*k+200<oq
theorem iS.mono {j k:Nat}{A:aV} (r:iS k A) (h:j<=k):iS j A:=⟨r.hd,by have:=r.dp;omega,by have:=r.un;omega⟩
theorem iS.deeper {k:Nat}{A:aV} (r:iS (k+1) A) (env:Env):iS k (A.deeper env) :=
 ⟨r.hd,by have:=r.dp;show A.depth+1+3*k+5<_;omega,by have:=r.un;show A.units+3+16*k+200<_;omega⟩
theorem iS.depth {k:Nat}{A:aV} (r:iS k A):A.depth<Ap:=by have:=r.dp;omega
theorem iS.units {k:Nat}{A:aV} (r:iS k A):A.units+64<oq:=by have:=r.un;omega
def Jl:TA:=fun _ H Q=>Q [] H
def C3 (ta:TE) (tr:TA):TA:=fun σ H Q=>ta σ H fun x H1=>tr σ H1 fun xs H2=>Q (x::xs) H2
section
variable {X:Cx}{e:aO}{es:List aO}{te:TE}{t:TA}{pos:Pos}
theorem dD:PA X [] Jl:=fun _ _ _ _ H Q I h=>EJ ⟨[],H,I,.nil,h⟩
theorem bC (ha:PE X e te) (hr:PA X es t) (hs:ap (e::es) X.env=(false,bQ e X.env)::ap es X.env:=by rfl):PA X (e::es) (C3 te t):=by
 intro pos pins s σ H Q I h
 rw [hs]
 show aj _ _ (spliced ((false,bQ e X.env)::eR pos (ap es X.env))) _ _ s
 refine Dj (eD (ha pins s σ H _ I h) fun u s1 ⟨x,H1,I1,r1,q1⟩=>?_)
 exact eD (hr pos pins s1 σ H1 _ I1 q1) fun us s2 h_25=>by obtain ⟨xs,H2,I2,r2,q2⟩:=h_25;exact ⟨x::xs,H2,I2,.cons r1 r2,q2⟩
def QR (t:TA):TE:=fun σ H Q=>t σ H fun xs H1=>xs.length<=sizeLine/\∀ p,H1 p=none->Q (.ref p) (upd H1 p (.tup xs))
def QS (t:TA):TE:=fun σ H Q=>t σ H fun xs H1=>xs.length<=sizeLine/\∀ p,H1 p=none->Q (.ref p) (upd H1 p (.lst xs))
theorem Fy {x1} (h:PA X es t):PE X (.Tuple es x1 pos) (QR t):=by
 intro pins s σ H Q I hq
 refine wpAny_Tuple_spliced (eD (h pos pins s σ H _ I hq) fun us s1 ⟨xs,H1,I1,r,z,q⟩=>⟨by rw [<- r.length];exact z,?_⟩)
 have hf:H1 s1.heap.objs.size=none:=I1.hok.fresh (ao _)
 refine ⟨.ref s1.heap.objs.size,upd H1 s1.heap.objs.size (.tup xs),I1.laid (t':=s1.toks) (fun b u e=>a8 _ e) (ao _) ?_,rfl,q _ hf⟩
 exact ⟨z,us,r,⟨_,ar _ rfl,rfl,_,rfl⟩⟩
theorem kS (h:PA X es t):PE X (.List es pos) (QS t):=by
 intro pins s σ H Q I hq
 refine wpAny_List_spliced (eD (h pos pins s σ H _ I hq) fun us s1 ⟨xs,H1,I1,r,z,q⟩=>⟨by rw [<- r.length];exact z,?_⟩)
 have hf:H1 s1.heap.objs.size=none:=I1.hok.fresh (ao _)
 refine ⟨.ref s1.heap.objs.size,upd H1 s1.heap.objs.size (.lst xs),I1.laid (t':=s1.toks) (fun b u e=>a8 _ e) (ao _) ?_,rfl,q _ hf⟩
 exact ⟨z,us,0,r,ar _ rfl⟩
end
abbrev Sp:=List V->Hp->VK->XK->Prop
abbrev C4:=List Env->Hp->a9->XK->a7->a9->Prop
structure AW (P:aI) (w:aW) (K:a5) (mg:Str->Option a7) (base:bc) (A:aV) (outer:List Env) (s:a9) (H:Hp):Prop where
 frames:A.frames=some outer
 mod:Mod K mg base
 bs:∀ b o,base.get? b=some o->s.heap.get? b=some o/\H b=none
 bsz:base.objs.size<=s.heap.objs.size
 funs:s.heap.FunFrames base outer
 frf:∀ b∈oH outer,H b=none
 hok:mT P w H s.heap
 bare:mM s.gens
inductive CE (outer:List Env) (P:aI) (w:aW) (H:Hp) (s:a9) (Q:VK) (u:a7) (s':a9):Prop
 |mk (v H':_) (h0:s'.os=s.os) (h1:mM s'.gens) (h2:Un (oH outer) [] H H' s.heap s'.heap) (h3:mT P w H' s'.heap) (h4:cu v u) (h5:Q v H'):CE outer P w H s Q u s'
def CR (CX:C4) (outer:List Env) (P:aI) (w:aW) (H:Hp) (s:a9) (Q:VK) (E:XK) (r:Aq) (s':a9):Prop :=
 match r with
 |.ok (.ret u)=>CE outer P w H s Q u s'
 |.ok _=>False
 |.error e=>CX outer H s E e s'
structure oy (P:aI) (w:aW) (K:a5) (mg:Str->Option a7) (base:bc) (CX:C4) (k:Nat) (f:aa) (fd:cY) (ps:List Str) (sp:Sp):Prop where
 len:∀ vs H Q E,sp vs H Q E->vs.length=ps.length
 run:∀ (A:aV) (outer:List Env) (s:a9) (H:Hp) (args:Args) (us:List a7) (vs:List V) (Q:VK) (E:XK),iS k A->AW P w K mg base A outer s H->s9 s fd args (ps.zip us)->cz vs us->sp vs H Q E ->
  fU (aA P w) A (.call (.ref f) args) (CR CX outer P w H s Q E) s
theorem oy.imp {P:aI}{w:aW}{K:a5}{mg:Str->Option a7}{base:bc}{CX:C4}{k:Nat}{f:aa}{fd:cY}{ps:List Str}{sp sp':Sp} (F:oy P w K mg base CX k f fd ps sp)
  (h:∀ vs H Q E,sp' vs H Q E->sp vs H Q E):oy P w K mg base CX k f fd ps sp' :=
 ⟨fun vs H Q E q=>F.len vs H Q E (h _ _ _ _ q),fun A outer s H args us vs Q E hr he hb hv hs=>F.run A outer s H args us vs Q E hr he hb hv (h _ _ _ _ hs)⟩
section
variable {X:Cx}{pins:List (aa×Obj)}{σ:St}{H:Hp}{s s':a9}
theorem bf.env0 (I:bf X pins σ H s):AW X.prog X.w X.K X.mg X.base X.A X.stack s H :=
 ⟨I.ok.frames,I.ok.mod,I.bs,a_ I.ok.bsz I.sz,I.stack,I.stkFree,I.hok,I.bare⟩
theorem bf.after {Q:VK}{u:a7} (I:bf X pins σ H s) (h:CE X.stack X.prog X.w H s Q u s'):EP X pins σ Q u s':=by
 obtain ⟨v,H',os,bare,un,hok,r,q⟩:=h
 obtain ⟨hh,g,d,t,os'⟩:=s'
 obtain rfl:os'=s.os:=os
 exact ⟨v,H',I.call (h':=hh) (g':=g) (d':=d) (t':=t) (ch:=[]) un hok bare (fun b z=>absurd z (by simp)),r,q⟩
end
def C5 (sp:Sp) (dvs:List V) (E:XK) (t:TA):TE:=fun σ H Q=>t σ H fun vs H1=>sp (vs++dvs) H1 Q E
def iL (K:a5) (fd:cY) (ps:List Str) (ds:List a7):Prop :=
 ∀ (s:a9) (us:List a7),K.In s.heap->(us++ds).length=ps.length->s9 s fd ⟨us,[]⟩ (ps.zip (us++ds))
theorem iL.all {K:a5}{fd:cY}{ps:List Str} (h:∀ us:List a7,us.length=ps.length->IQ fd ⟨us,[]⟩=pure (ps.zip us)):iL K fd ps []:=fun s us _ hl=>by
 rw [bW] at hl ⊢
 exact .of_eq (h us hl)
def kU (CX:C4) (X:Cx) (E:XK):Prop:=∀ (pins:List (aa×Obj)) (σ:St) (H:Hp) (s:a9) (e:a7) (s':a9),bf X pins σ H s->CX X.stack H s E e s'->X.xe e s'
section
variable {X:Cx}{CX:C4}{k:Nat}{f C:aa}{fd:cY}{ps:List Str}{sp:Sp}{dvs:List V}{ds:List a7}{E:XK}{x m:Str}{p pos apos:Pos}{e o:aO}{es:List aO}{ta:TE}{t:TA}
theorem MZ {pins:List (aa×Obj)}{σ:St}{H:Hp}{s:a9}{Q:VK}{us:List a7}{vs:List V} (F:oy X.prog X.w X.K X.mg X.base CX k f fd ps sp) (hr:iS k X.A) (hb:iL X.K fd ps ds) (hd:cz dvs ds) (hx:kU CX X E)
  (I:bf X pins σ H s) (r:cz vs us) (h:sp (vs++dvs) H Q E):aj (aA X.prog X.w) X.A (call (.ref f) us) (EP X pins σ Q) X.xe s:=by
 have r2:cz (vs++dvs) (us++ds):=r.append hd
 have hl:(us++ds).length=ps.length:=by rw [<- r2.length];exact F.len _ _ _ _ h
 refine tX (l5 (F.run X.A X.stack s H ⟨us,[]⟩ (us++ds) (vs++dvs) Q E hr I.env0 (hb s us I.kIn hl) r2 h) fun r s' hq=>?_)
 cases r with
 |error e=>exact hx pins σ H s e s' I hq
 |ok fl =>
  cases fl with
  |ret u=>exact I.after hq
  |next=>exact dn hq
  |brk=>exact dn hq
  |cont=>exact dn hq
theorem Jm (F:oy X.prog X.w X.K X.mg X.base CX k f fd ps sp) (hr:iS k X.A) (hg:Gl X x) (hm:X.mg x=some (.ref f)) (hk:cU X.K (.ref f)=true) (hb:iL X.K fd ps ds) (hd:cz dvs ds) (hx:kU CX X E)
  (ha:PA X (e::es) t) (hdb:(x==("__debug__" : Str))=false:=by decide) (he:ap (e::es) X.env=(false,bQ e X.env)::ap es X.env:=by rfl) (hpl:(eR pos (ap es X.env)).any (·.1)=false:=by rfl) :
  PE X (.Call (.Name x p) (e::es) [] pos) (C5 sp dvs E t):=by
 intro pins s σ H Q I h
 refine lK (tG I hg hm ?_ hdb)
 refine Ar (h₀:=X.base) I.ok.mod.kin hk (eD (ha pos pins s σ H _ I h) fun us s1 ⟨vs,H1,I1,r,q⟩=>⟨I1.kIn,?_⟩) he hpl
 exact MZ F hr hb hd hx I1 r q
end
section
variable {X:Cx}{CX:C4}{k:Nat}{f C:aa}{fd:cY}{ps ks:List Str}{sp:Sp}{E:XK}{x m:Str}{p pos apos kpos:Pos}{e o:aO}{es:List aO}{kws:List oQ}{te ta:TE}{t tk:TA}{nm:Option Str}
variable {g:List a7->List a7->List a7}{gV:List V->List V->List V}
end
structure bK (N P:List Str) (sc:dO):Prop where
 kind:sc.kind=.function
 co:sc.isCoroutine=false
 gen:sc.isGenerator=false
 nd:N.Nodup
 pre:N.take P.length=P
 par:∀ x∈P,sc.names.lookup x=some .local\/sc.names.lookup x=some .cell
 nofree:∀ y∈sc.names,y.2≠.free
theorem wj {kindOf:Str->Option jj}{x:Str}:∀ {binds:List (Str×a7)}{m:Str->Option a7},(∀ v,(x,v)∉binds)->As kindOf binds m x=m x
 |[],_,_=>rfl
 |(n,v)::r,m,h=>by
  unfold As
  rw [wj fun w hw=>h w (am _ hw)]
  split
  ·have:x≠n:=by rintro rfl;exact h v av
   simp [this]
  ·rfl
theorem wk {kindOf:Str->Option jj}{x:Str}:∀ {binds:List (Str×a7)}{m:Str->Option a7},(∀ v,(x,v)∉binds)->At kindOf binds m x=m x
 |[],_,_=>rfl
 |(n,v)::r,m,h=>by
  unfold At
  rw [wk fun w hw=>h w (am _ hw)]
  split
  ·rfl
  ·have:x≠n:=by rintro rfl;exact h v av
   simp [this]
theorem wl {kindOf:Str->Option jj}{x:Str}{v:a7}:∀ {P:List Str}{vs:List a7}{i:Nat}{m:Str->Option a7},P.Nodup->P[i]?=some x->vs[i]?=some v->kindOf x=some .local ->
  As kindOf (P.zip vs) m x=some v
 |[],_,_,_,_,h,_,_=>by simp at h
 |_::_,[],_,_,_,_,h,_=>by simp at h
 |p::P,w::vs,0,m,nd,h1,h2,hk=>by
  simp at h1 h2;subst h1;subst h2
  show As kindOf ((p,w)::P.zip vs) m p=_
  unfold As
  rw [wj fun v hv=>(List.nodup_cons.mp nd).1 (mU hv).1,if_pos hk]
  simp
 |p::P,w::vs,i+1,m,nd,h1,h2,hk=>by
  show As kindOf ((p,w)::P.zip vs) m x=_
  unfold As
  exact wl (i:=i) (List.nodup_cons.mp nd).2 (by simpa using h1) (by simpa using h2) hk
theorem wm {kindOf:Str->Option jj}{x:Str}{v:a7}:∀ {P:List Str}{vs:List a7}{i:Nat}{m:Str->Option a7},P.Nodup->P[i]?=some x->vs[i]?=some v->kindOf x≠some .local ->
  At kindOf (P.zip vs) m x=some v
 |[],_,_,_,_,h,_,_=>by simp at h
 |_::_,[],_,_,_,_,h,_=>by simp at h
 |p::P,w::vs,0,m,nd,h1,h2,hk=>by
  simp at h1 h2;subst h1;subst h2
  show At kindOf ((p,w)::P.zip vs) m p=_
  unfold At
  rw [wk fun v hv=>(List.nodup_cons.mp nd).1 (mU hv).1,if_neg hk]
  simp
 |p::P,w::vs,i+1,m,nd,h1,h2,hk=>by
  show At kindOf ((p,w)::P.zip vs) m x=_
  unfold At
  exact wm (i:=i) (List.nodup_cons.mp nd).2 (by simpa using h1) (by simpa using h2) hk
def start (N:List Str) (vs:List V):St:=vs.map some++kc (N.length-vs.length) none
def iG (CX:C4) (P:aI) (w:aW) (K:a5) (mg:Str->Option a7) (base:bc) (N:List Str) (qual:Str) (scope:dO) (f:aa) (cd:a7) (A:aV) (outer:List Env) (s:a9) (H:Hp) (E:XK):Cx where
 prog:=P
 w:=w
 K:=K
 mg:=mg
 base:=base
 A:=A.deeper (ii qual scope s.heap.objs.size f cd)
 N:=N
 s₀:=s
 H₀:=H
 env:=ii qual scope s.heap.objs.size f cd
 outer:=outer
 stack:=ii qual scope s.heap.objs.size f cd::outer
 ex:=[]
 calm:=true
 fn:=fun _=>true
 pn:=[]
 xe:=fun e s'=>aj (aA P w) (A.deeper (ii qual scope s.heap.objs.size f cd)) (leaving (ii qual scope s.heap.objs.size f cd) e) (fun _ s''=>CX outer H s E e s'') (fun e' s''=>CX outer H s E e' s'') s'
theorem yI {sc:dO}{n:Nat}{x:Str} (h:sc.names.lookup x=some .cell):∃ c,(bq n sc.names []).lookup x=some c:=by
 have q:=dW sc.names n [] (.inl h)
 exact Option.isSome_iff_exists.mp q
theorem wn {CX:C4}{P:aI}{w:aW}{K:a5}{mg:Str->Option a7}{base:bc}{N ps:List Str}{qual:Str}{scope:dO}{f:aa}{cd:a7}{A:aV}{outer:List Env}{s s1:a9}{H:Hp}{E:XK}{us:List a7}{vs:List V}
  (S:bK N ps scope) (hd:A.handled=none) (e0:AW P w K mg base A outer s H) (hl:vs.length=ps.length) (r:cz vs us)
  (x:InCallC s s.heap.objs.size (As (ii qual scope s.heap.objs.size f cd).kindOf (ps.zip us) fun _=>none) (bq (s.heap.objs.size+1) scope.names []) (At (ii qual scope s.heap.objs.size f cd).kindOf (ps.zip us) fun _=>none) s1) :
  bf (iG CX P w K mg base N qual scope f cd A outer s H E) [] (start N vs) H s1:=by
 have hpl:ps.length<=N.length:=by have:=congrArg BY S.pre;rw [jf] at this;omega
 obtain ⟨h1,tk,rfl,hk⟩:=x.done
 have noA:∀ b:aa,b∉(iG CX P w K mg base N qual scope f cd A outer s H E).ex:=fun b z=>absurd (show b∈([] : List aa) from z) (by simp)
 refine ⟨⟨e0.mod,S.kind,rfl,rfl,ao _,fun y z c h1 h2=>?_,fun y hy=>?_,fun y c _ h=>?_,fun _=>hd,Around.frames_deeper e0.frames,.inr ⟨rfl,rfl⟩,fun b z=>absurd z (noA b),e0.bs,e0.bsz,fun b _ _=>noA b,fun b z=>absurd z (noA b),e0.funs,e0.frf⟩,
  rfl,e0.bare,Un.kept hk,⟨_,x.toInCall.ns,fun i y v h1 h2 h3=>?_⟩,fun y c h=>⟨_,x.cell y c h⟩,e0.hok.fresh (ao _),fun y c h=>?_,fun p hp=>absurd (show p∈([] : List (aa×Obj)) from hp) (by simp),e0.hok.kept hk,?_⟩
 ·exact name_of_addr x.apart (cE h1) (cE h2)
 ·have hy:scope.names.lookup y=some .cell\/scope.names.lookup y=some .free:=hy
  rcases hy with hy|hy
  ·exact yI hy
  ·exact absurd rfl (S.nofree _ (cE hy))
 ·exact bd (x.above y c (cE h))
 ·have hi:i<vs.length:=by
   unfold start at h2
   by_cases hi:i<vs.length
   ·exact hi
   ·rw [aX (by simpa using hi)] at h2
    rw [bu] at h2
    split at h2<;>cases h2
  have ha:vs[i]?=some v:=by
   unfold start at h2
   rw [bx (by simpa using hi),aE] at h2
   cases e:vs[i]? with
   |none=>rw [e] at h2;cases h2
   |some a=>rw [e] at h2;cases h2;rfl
  obtain ⟨u,hu,rv⟩:=r.get ha
  have hp:ps[i]?=some y:=by
   rw [<- S.pre,List.getElem?_take_of_lt (by omega)];exact h1
  have ndP:ps.Nodup:=by rw [<- S.pre];exact S.nd.sublist (List.take_sublist _ _)
  refine ⟨u,rv,?_⟩
  rcases S.par y (gF hp) with k|k
  ·exact .inl ⟨k,wl ndP hp hu k⟩
  ·obtain ⟨c,e⟩:=yI (n:=s.heap.objs.size+1) k
   refine .inr ⟨.inl k,c,e,?_⟩
   have q:=x.cell y c e
   rw [wm ndP hp hu (by show scope.names.lookup y≠_;rw [k];decide)] at q
   exact q
 ·exact e0.hok.fresh (bd (x.above y c (cE h)))
 ·unfold start
  show _=N.length
  rw [aY,au,cm]
  omega
theorem ki {CX:C4}{P:aI}{w:aW}{K:a5}{mg:Str->Option a7}{base:bc}{k:Nat}{f:aa}{name qual:Str}{params:Arguments}{body:List dC}{scope:dO}{dV kV doc pm cdv ct oc:a7}{an od:Option aa}
  {osl:Array (Option a7)}{N ps:List Str}{sp:Sp} (lk:K.lookup f=some ⟨oc,od,.func (dq name qual params body scope dV kV doc pm an cdv ct),osl⟩) (hcd:ij K cdv qual=true) (S:bK N ps scope)
  (len:∀ vs H Q E,sp vs H Q E->vs.length=ps.length)
  (hbody:∀ (A:aV) (outer:List Env) (s:a9) (H:Hp) (vs:List V) (Q:VK) (E:XK),iS k (A.deeper (ii qual scope s.heap.objs.size f cdv))->sp vs H Q E ->
   ∃ t,yy (iG CX P w K mg base N qual scope f cdv A outer s H E) body t/\t { nx:=fun _ H'=>Q .non H',rt:=Q } (start N vs) H) :
  oy P w K mg base CX (k+1) f (dq name qual params body scope dV kV doc pm an cdv ct) ps sp:=by
 refine ⟨len,fun A outer s H args us vs Q E hr e0 hb r hsp=>?_⟩
 have hl:=len _ _ _ _ hsp
 have KX:K.In s.heap:=e0.mod.kin.keeps fun b o e=>(e0.bs b o e).1
 have lim:s.heap.NoLimit:=e0.mod.nolimit.keeps fun b o e=>(e0.bs b o e).1
 have hkind:∀ y∈ps.zip us,scope.names.lookup y.1=some .local\/(scope.names.lookup y.1=some .cell/\((bq (s.heap.objs.size+1) scope.names []).lookup y.1).isSome=true):=fun ⟨n,v⟩ hy=>by
  rcases S.par n (mU hy).1 with q|q
  ·exact .inl q
  ·exact .inr ⟨q,dW _ _ _ (.inl q)⟩
 refine IA hr.depth (KX _ _ lk) rfl S.co S.gen rfl (oR KX hcd) (hb _ _ _ _ ?_)
 refine Au S.kind hkind fun env he s1 x=>?_
 subst he
 refine ⟨lim.keeps x.toInCall.keep,codeAny_func ?_⟩
 obtain ⟨t,ht,hq⟩:=hbody A outer s H vs Q E (hr.deeper _) hsp
 have I:bf (iG CX P w K mg base N qual scope f cdv A outer s H E) [] (start N vs) H s1:=wn S hr.hd e0 hl r x
 refine bR (ht [] s1 (start N vs) H _ I hq) (fun fl s' hs=>?_) fun e s' hs=>hs
 have fin:∀ {σ':St}{H':Hp}{v:V}{u:a7},bf (iG CX P w K mg base N qual scope f cdv A outer s H E) [] σ' H' s'->cu v u->Q v H'->CE outer P w H s Q u s' :=
  fun {σ' H' v u} J rv q=>⟨v,H',J.os,J.bare,J.base,J.hok,rv,q⟩
 cases fl with
 |ret u =>
  obtain ⟨v,σ',H',J,rv,q⟩:=hs
  exact fin J rv q
 |next =>
  obtain ⟨σ',H',J,q⟩:=hs
  exact fin (v:=V.non) (u:=dm) J rfl q
 |brk =>
  obtain ⟨_,_,_,q⟩:=hs
  exact dn q
 |cont =>
  obtain ⟨_,_,_,q⟩:=hs
  exact dn q
end L2
namespace L2
open PySem PySem.Spec PyProof.Rows
section
variable {X:Cx}{x:Str}{p pos:Pos}{e:aO}{es:List aO}{t:TA}{id T:String}{r:List V->Hp->VK->Prop}
def Ox (r:List V->Hp->VK->Prop) (t:TA):TE:=fun σ H Q=>t σ H fun vs H1=>r vs H1 Q
theorem lc (hc:iK X (.builtin id) r) (hg:Gl X x) (hm:X.mg x=none) (hv:fS x=some (.builtin id)) (ha:PA X (e::es) t) (hn:x≠"__name__":=by decide) (hdb:(x==("__debug__" : Str))=false:=by decide)
  (he:ap (e::es) X.env=(false,bQ e X.env)::ap es X.env:=by rfl) (hpl:(eR pos (ap es X.env)).any (·.1)=false:=by rfl):PE X (.Call (.Name x p) (e::es) [] pos) (Ox r t):=by
 intro pins s σ H Q I h
 refine lK (rh I hg hm hv ?_ hn hdb)
 exact PyProof.Rows.callWith_builtin1 (eD (ha pos pins s σ H _ I h) fun us s1 h_27=>by obtain ⟨vs,H1,I1,r1,q1⟩:=h_27;exact hc pins s1 σ H1 vs us Q I1 r1 q1) he hpl
theorem wo (hc:iK X (.type T) r) (hg:Gl X x) (hm:X.mg x=none) (hv:fS x=some (.type T)) (ha:PA X (e::es) t) (hn:x≠"__name__":=by decide) (hdb:(x==("__debug__" : Str))=false:=by decide)
  (he:ap (e::es) X.env=(false,bQ e X.env)::ap es X.env:=by rfl) (hpl:(eR pos (ap es X.env)).any (·.1)=false:=by rfl):PE X (.Call (.Name x p) (e::es) [] pos) (Ox r t):=by
 intro pins s σ H Q I h
 refine lK (rh I hg hm hv ?_ hn hdb)
 exact f9 (eD (ha pos pins s σ H _ I h) fun us s1 h_28=>by obtain ⟨vs,H1,I1,r1,q1⟩:=h_28;exact hc pins s1 σ H1 vs us Q I1 r1 q1) he hpl
end
end L2
namespace HT
open PySem PyProof.Rows
section
open PySem.SeqAt
open PySem.AutoSeq1 (wpAny_loadPart')
open PySem.MeetsSeq PySem.MeetsSeq2 PySem.MeetsSeq3
end
section
variable {prog:aI}{w:aW}{A:aV}{E:a7->a9->Prop}{s:a9}
theorem Jn {t b:aa}{vs ws:List a7}{Q:a7->a9->Prop} (ht:IsTup s.heap t vs.toArray) (hb:IsTup s.heap b ws.toArray) (hv:vs≠[])
  (h1:ws=[]->Q (.ref t) s) (h2:ws≠[]->Q (.ref s.heap.objs.size) { s with heap:=s.heap.push { cls:=.type "tuple",data:=.seq (vs++ws).toArray } })
  (hsz:vs.length+ws.length<=sizeLine):aj (aA prog w) A (fB .Add (.ref t) (.ref b)) Q E s:=by
 obtain ⟨⟨cls,dd,data,sl⟩,ho,hc,n,hd⟩:=id ht
 obtain ⟨⟨cls2,dd2,data2,sl2⟩,ho2,hc2,n2,hd2⟩:=id hb
 simp only at hc hd hc2 hd2
 subst hc hd hc2 hd2
 have e:vs.toArray++ws.toArray=(vs++ws).toArray:=by simp
 by_cases hw:ws=[]
 ·exact vp ⟨_,ho,rfl⟩ ⟨_,ho2,rfl⟩ xc Dk lL l7 (kO _ _)
   (tuple_addW1 t b vs.toArray ws.toArray n n2 dd dd2 sl sl2 (by simpa using hv) (by simp [hw])) ⟨ho,ho2,h1 hw⟩
 ·refine vp ⟨_,ho,rfl⟩ ⟨_,ho2,rfl⟩ xc Dk lL l7 (kO _ _)
   (tuple_addW2 t b vs.toArray ws.toArray n n2 dd dd2 sl sl2 (by simpa using hv) (by simpa using hw) (by rw [ax,ax];exact hsz)) ⟨ho,ho2,?_⟩
  rw [e]
  exact h2 hw
def gG (n d:Nat):Option Int->Nat
 |none=>d
 |some v=>if v<0 then (v+(n:Int)).toNat else min v.toNat n
theorem yJ (n d:Nat):gG n d none=d:=rfl
theorem C6 (n d k:Nat):gG n d (some (k:Int))=min k n:=by
 show (if (k:Int)<0 then ((k:Int)+(n:Int)).toNat else min (k:Int).toNat n)=min k n
 rw [if_neg (by omega),iN]
theorem M_ (n d:Nat) (hd:d<=n) (o:Option Int):gG n d o<=n:=by
 cases o with
 |none=>exact hd
 |some v =>
  show (if v<0 then (v+(n:Int)).toNat else min v.toNat n)<=n
  by_cases hv:v<0
  ·rw [if_pos hv];omega
  ·rw [if_neg hv];exact mJ _ _
theorem C7 (v:Int) (n d:Nat):(if v<0 then max (v+(n:Int)) 0 else min v (n:Int))=((gG n d (some v):Nat):Int):=by
 show (if v<0 then max (v+(n:Int)) 0 else min v (n:Int))=(((if v<0 then (v+(n:Int)).toNat else min v.toNat n):Nat):Int)
 by_cases hv:v<0
 ·simp only [if_pos hv];omega
 ·simp only [if_neg hv];omega
theorem AX (lo hi:Option Int) (n:Nat):jk lo hi 1 (n:Int)=(((gG n 0 lo:Nat):Int),((gG n n hi:Nat):Int)):=by
 have h1:¬ ((1:Int)<0):=by omega
 unfold jk
 simp only [h1,if_false]
 refine Prod.ext ?_ ?_
 ·cases lo with
  |none=>rfl
  |some v=>exact C7 v n 0
 ·cases hi with
  |none=>rfl
  |some v=>exact C7 v n n
theorem AY (i j:Nat):fH (i:Int) (j:Int) 1=j-i:=by
 unfold fH
 have h1:(1:Int) > 0:=by omega
 simp only [h1,if_true,Av]
 split<;>omega
theorem ud {v:a7}{o:Option Int}{Q:Option Int->a9->Prop} (p:oS v o) (h:Q o s):aj (aA prog w) A (Builtin.Slice.slicePartIndex v) Q E s:=by
 cases p with
 |none=>exact slicePart_none h
 |int i t=>exact slicePart_int h
theorem le {sl:aa}{vl vu:a7}{lo hi:Option Int}{n:Nat}{Q:Int×Int×Nat->a9->Prop} (hs:s.heap.IsSliceOf sl vl vu .none) (pl:oS vl lo) (pu:oS vu hi)
  (h:Q (((gG n 0 lo:Nat):Int),1,gG n n hi-gG n 0 lo) s):aj (aA prog w) A (pK (.ref sl) (pure (n:Int))) Q E s:=by
 obtain ⟨os,hos,hcs,hds⟩:=id hs
 unfold pK Builtin.Slice.sliceFields
 refine a6 (a6 (cO hos hds (x:=vl) rfl (a6 (cO hos hds (x:=vu) rfl (a6 (cO hos hds (x:=.none) rfl (ae ?_)))))))
 refine a6 (slicePart_none ?_)
 show aj _ _ (if ((1:Int)==0)=true then _ else _) _ _ s
 rw [if_neg (by decide)]
 refine a6 (ud pl (a6 (ud pu (a6 (ae ?_)))))
 show aj _ _ (match jk lo hi 1 (n:Int) with|(lo,hi)=>pure (lo,(1:Int),fH lo hi 1)) _ _ s
 rw [AX lo hi n]
 show aj _ _ (pure (((gG n 0 lo:Nat):Int),(1:Int),fH ((gG n 0 lo:Nat):Int) ((gG n n hi:Nat):Int) 1)) _ _ s
 rw [AY]
 exact ae h
theorem Fz (xs:Array a7) (i k:Nat):((bL k).filterMap fun (m:Nat)=>xs[((i:Int)+(m:Int)*1).toNat]?).toArray=((xs.toList.drop i).take k).toArray:=by
 have e:(fun (m:Nat)=>xs[((i:Int)+(m:Int)*1).toNat]?)=fun m=>xs[i+m]?:=by
  funext m
  have:((i:Int)+(m:Int)*1).toNat=i+m:=by omega
  rw [this]
 rw [e]
 have:=pick_run xs i k
 rw [List.filterMap_map] at this
 have e2:((fun x=>xs[x]?)∘fun x=>i+x)=fun m=>xs[i+m]?:=rfl
 rw [e2] at this
 rw [this]
theorem pX {t sl:aa}{items:Array a7}{vl vu:a7}{lo hi:Option Int}{Q:a7->a9->Prop} (ht:IsTup s.heap t items) (hs:s.heap.IsSliceOf sl vl vu .none) (pl:oS vl lo) (pu:oS vu hi)
  (hw:¬ (gG items.size 0 lo=0/\gG items.size items.size hi=items.size))
  (h:Q (.ref s.heap.objs.size) { s with heap:=s.heap.push { cls:=.type "tuple",data:=.seq ((items.toList.drop (gG items.size 0 lo)).take (gG items.size items.size hi-gG items.size 0 lo)).toArray } })
  (hsz:items.size<=sizeLine):aj (aA prog w) A (mO (.ref t) (.ref sl)) Q E s:=by
 have htake:sizeOk (.seq ((items.toList.drop (gG items.size 0 lo)).take (gG items.size items.size hi-gG items.size 0 lo)).toArray):=by
  show ((items.toList.drop (gG items.size 0 lo)).take (gG items.size items.size hi-gG items.size 0 lo)).toArray.size<=sizeLine
  rw [ax,jf,mC,aN]
  omega
 have hj:gG items.size items.size hi<=items.size:=M_ _ _ (ao _) hi
 obtain ⟨os,hos,hcs,hds⟩:=id hs
 have hTs:s.TypeIs (.ref sl) "slice":=⟨os,hos,hcs⟩
 unfold mO
 try with_reducible refine cB ?_
 first|refine a6 (ae ?_)|skip
 refine a6 (wpAny_sequenceKey ht.typeIs (by decide) ?_)
 refine a6 (cy (name:=cf "__getitem__") ht.typeIs eC
  (cq eC ht.typeIs entry_tuple_getitem ?_ (args_tuple_getitem _ _)))
 show aj _ _ (pM (.ref t) >>= _) _ _ s
 refine a6 (tupleItemsOf_ ht ?_)
 refine a6 (oT hTs ?_)
 rw [if_pos (by decide)]
 refine a6 (le hs pl pu ?_)
 have hno:¬ ((((gG items.size 0 lo:Nat):Int)==0&&(1:Int)==1&&(gG items.size items.size hi-gG items.size 0 lo)==items.size)=true):=by
  intro q
  rw [aB,aB] at q
  have q1:((gG items.size 0 lo:Nat):Int)=0:=eq_of_beq q.1.1
  have q2:gG items.size items.size hi-gG items.size 0 lo=items.size:=eq_of_beq q.2
  exact hw ⟨by omega,by omega⟩
 show aj _ _ (if (((gG items.size 0 lo:Nat):Int)==0&&(1:Int)==1&&(gG items.size items.size hi-gG items.size 0 lo)==items.size)=true then _ else _) _ _ s
 rw [if_neg hno,Fz]
 first
  |exact a6 (m:=fV _) (cc (ae ⟨_,rfl,ae h⟩) htake)
  |exact a6 (m:=fV _) (cc (a6 (ae (ae ⟨_,rfl,ae h⟩))) htake)
  |exact a6 (a6 (m:=fV _) (cc (ae (ae ⟨_,rfl,ae h⟩)) htake))
  |exact a6 (a6 (m:=fV _) (cc (ae ⟨_,rfl,ae h⟩) htake))
end
end HT
namespace L2
open PySem PySem.Spec PyProof.Rows
abbrev TO:=St->Hp->(Option Int->Hp->Prop)->Prop
def PO (X:Cx) (e:Option aO) (t:TO):Prop :=
 ∀ (pins:List (aa×Obj)) (s:a9) (σ:St) (H:Hp) (Q:Option Int->Hp->Prop),bf X pins σ H s->t σ H Q ->
  aj (aA X.prog X.w) X.A (evalPart e X.env) (fun u s'=>∃ o H',bf X pins σ H' s'/\oS u o/\Q o H') X.xe s
def Jo:TO:=fun _ H Q=>Q none H
def Oy (t:TE):TO:=fun σ H Q=>t σ H fun x H1=>∃ i,x=.int i/\Q (some i) H1
section
variable {X:Cx}{e:aO}{te:TE}{lo hi:Option aO}{tl th:TO}{pos p2:Pos}
theorem Jp:PO X none Jo:=by
 intro pins s σ H Q I h
 rw [evalPart_none]
 exact ae ⟨none,H,I,.none,h⟩
theorem Jq (h:PE X e te):PO X (some e) (Oy te):=by
 intro pins s σ H Q I hw
 rw [evalPart_some]
 refine eD (h pins s σ H _ I hw) fun u s1 h_29=>?_
 obtain ⟨x,H1,I1,r1,q1⟩:=h_29
 obtain ⟨i,rfl,q⟩:=q1
 obtain ⟨t,rfl⟩:=r1
 exact ⟨some i,H1,I1,.int i t,q⟩
def O6 (X:Cx) (r:V->Option Int->Option Int->Hp->VK->Prop):Prop :=
 ∀ (pins:List (aa×Obj)) (s:a9) (σ:St) (H:Hp) (x:V) (v vl vu:a7) (lo hi:Option Int) (sl:aa) (Q:VK),bf X pins σ H s->cu x v->s.heap.IsSliceOf sl vl vu .none->oS vl lo->oS vu hi->r x lo hi H Q ->
  ∃ T id,Aw (.type T) "__getitem__"=pure (some (.builtin id))/\s.TypeIs v T/\aj (aA X.prog X.w) X.A (mO v (.ref sl)) (EP X pins σ Q) X.xe s
def S3 (r:V->Option Int->Option Int->Hp->VK->Prop) (te:TE) (tl th:TO):TE:=fun σ H Q=>te σ H fun x H1=>tl σ H1 fun l H2=>th σ H2 fun u H3=>r x l u H3 Q
theorem yK {r:V->Option Int->Option Int->Hp->VK->Prop} (hr:O6 X r) (he:PE X e te) (hl:PO X lo tl) (hu:PO X hi th):PE X (.Subscript e (.Slice lo hi none p2) pos) (S3 r te tl th):=by
 intro pins s σ H Q I h
 refine Subscript_ (eD (he pins s σ H _ I h) fun v s1 ⟨x,H1,I1,r1,q1⟩=>?_)
 refine wpAny_Slice (eD (hl pins s1 σ H1 _ I1 q1) fun vl s2 ⟨l,H2,I2,pl,q2⟩=>eD (hu pins s2 σ H2 _ I2 q2) fun vu s3 ⟨u,H3,I3,pu,q3⟩=>?_)
 rw [evalPart_none]
 refine ae ?_
 have I4:bf X pins σ H3 { s3 with heap:=s3.heap.push { cls:=.type "slice",data:=.fields #[vl,vu,.none] } }:=I3.kept (t':=s3.toks) fun b ob q=>a8 _ q
 obtain ⟨T,id,hT,ht,hg⟩:=hr pins { s3 with heap:=s3.heap.push { cls:=.type "slice",data:=.fields #[vl,vu,.none] } } σ H3 x v vl vu l u s3.heap.objs.size Q I4 r1 (Heap.IsSliceOf.new ..) pl pu q3
 show aj (aA X.prog X.w) X.A (Dl e (.Slice lo hi none p2) v (.ref s3.heap.objs.size)) (EP X pins σ Q) X.xe { s3 with heap:=s3.heap.push { cls:=.type "slice",data:=.fields #[vl,vu,.none] } }
 exact tail_any (ops:=[.ref s3.heap.objs.size,v]) ht hT hg (by with_unfolding_all rfl)
def yL (xs:List V) (lo hi:Option Int):List V:=(xs.drop (HT.gG xs.length 0 lo)).take (HT.gG xs.length xs.length hi-HT.gG xs.length 0 lo)
theorem sk (xs:List V) (lo hi:Option Int):(yL xs lo hi).length<=xs.length:=by
 unfold yL
 rw [jf,mC]
 omega
def QT (K:a5):V->Option Int->Option Int->Hp->VK->Prop:=fun x lo hi H Q=>∃ a xs,x=.ref a/\iF K H a xs /\
 ¬ (HT.gG xs.length 0 lo=0/\HT.gG xs.length xs.length hi=xs.length)/\∀ p,H p=none->Q (.ref p) (upd H p (.tup (yL xs lo hi)))
theorem N0:O6 X (QT X.K):=by
 intro pins s σ H x v vl vu lo hi sl Q I rx hs pl pu h
 obtain ⟨a,xs,rfl,hx,hw,q⟩:=h
 cases rx
 obtain ⟨its,r,ht,hz⟩:=I.tuple hx
 have hlen:its.toArray.size=xs.length:=by rw [ax];exact r.length.symm
 refine ⟨"tuple",_,PyProof.Rows.slot_tuple_getitem.lookup,ht.typeIs,?_⟩
 refine HT.pX ht hs pl pu (by rw [hlen];exact hw) ?_ (by rw [hlen];exact hz)
 rw [hlen]
 refine ⟨.ref s.heap.objs.size,_,I.laid (t':=s.toks) (o:=.tup (yL xs lo hi)) (fun b ob q=>a8 _ q) (ao _) ?_,rfl,q _ (I.hok.fresh (ao _))⟩
 exact ⟨a_ (sk xs lo hi) hz,_,(r.drop (HT.gG xs.length 0 lo)).take (HT.gG xs.length xs.length hi-HT.gG xs.length 0 lo),yq _ _⟩
inductive FA (K:a5) (x:V) (y:V) (H:Hp) (Q:VK):Prop
 |mk (a b xs ys:_) (h0:x=.ref a) (h1:y=.ref b) (h2:iF K H a xs) (h3:iF K H b ys) (h4:xs≠[]) (h5:xs.length+ys.length<=sizeLine) (h6:(ys=[]->Q (.ref a) H)) (h7:(ys≠[]->∀ p,H p=none->Q (.ref p) (upd H p (.tup (xs++ys))))):FA K x y H Q
def Oz (K:a5):R2:=FA K
theorem cz.nil_iff {xs:List V}{us:List a7} (r:cz xs us):us=[]↔xs=[]:=by
 cases r with
 |nil=>simp
 |cons _ _=>simp
theorem Jr:nN X (fB .Add) (Oz X.K):=by
 intro pins s σ H x y v u Q I rx ry h
 obtain ⟨a,b,xs,ys,rfl,rfl,ha,hb,hx,hz,q1,q2⟩:=h
 cases rx
 cases ry
 obtain ⟨its,r1,p1,_⟩:=I.tuple ha
 obtain ⟨its2,r2,p2,_⟩:=I.tuple hb
 refine HT.Jn p1 p2 (fun z=>hx (r1.nil_iff.mp z)) (fun z=>⟨.ref a,H,I,rfl,q1 (r2.nil_iff.mp z)⟩) (fun z=>?_) (by rw [<- r1.length,<- r2.length];exact hz)
 refine ⟨.ref s.heap.objs.size,_,I.laid (t':=s.toks) (o:=.tup (xs++ys)) (fun b ob q=>a8 _ q) (ao _) ?_,rfl,q2 (fun w=>z (r2.nil_iff.mpr w)) _ (I.hok.fresh (ao _))⟩
 exact ⟨by rw [aY];exact hz,_,r1.append r2,yq _ _⟩
end
end L2
namespace L2
open PySem PySem.Spec PyProof.Rows
def N1 (n:Nat) (i:Int):Option Nat:=if 0<=i then (if i<n then some i.toNat else none) else if -(n:Int)<=i then some (i+n).toNat else none
def Ai {α:Type} (xs:List α) (i:Int):Option α:=(N1 xs.length i).bind fun j=>xs[j]?
theorem Js {n:Nat}{i:Int}{j:Nat} (h:N1 n i=some j):seqIndex? i n=some j/\j<n/\-(n:Int)<=i/\i<n:=by
 unfold N1 at h
 by_cases h0:0<=i
 ·rw [if_pos h0] at h
  by_cases h1:i<n
  ·rw [if_pos h1] at h
   have e:i.toNat=j:=bh h
   exact ⟨by rw [seqIndex_of h0 h1,e],by omega,by omega,h1⟩
  ·rw [if_neg h1] at h;cases h
 ·rw [if_neg h0] at h
  by_cases h1:-(n:Int)<=i
  ·rw [if_pos h1] at h
   have e:(i+n).toNat=j:=bh h
   exact ⟨by rw [seqIndex_neg (by omega) h1,e],by omega,h1,by omega⟩
  ·rw [if_neg h1] at h;cases h
theorem xo {α:Type}{xs:List α}{i:Int}{v:α} (h:Ai xs i=some v):∃ j,seqIndex? i xs.length=some j/\xs[j]?=some v/\j<xs.length/\-(xs.length:Int)<=i/\i<xs.length:=by
 unfold Ai at h
 cases e:N1 xs.length i with
 |none=>rw [e] at h;cases h
 |some j =>
  rw [e] at h
  obtain ⟨h1,h2,h3,h4⟩:=Js e
  exact ⟨j,h1,h,h2,h3,h4⟩
theorem pY {α:Type}{xs:List α}{j:Nat}{v:α} (h:xs[j]?=some v):Ai xs (j:Int)=some v:=by
 have hj:j<xs.length:=(List.getElem?_eq_some_iff.mp h).1
 have e:N1 xs.length (j:Int)=some j:=by
  unfold N1
  rw [if_pos (by omega),if_pos (by omega)];simp
 unfold Ai;rw [e];exact h
def tH (b:aO):Prop:=∀ o i,yr b false o i=operate [o,i] (mO o i)
def OA (X:Cx) (r:R2):Prop :=
 ∀ (value slice:aO) (pins:List (aa×Obj)) (s:a9) (σ:St) (H:Hp) (x y:V) (v u:a7) (Q:VK),bf X pins σ H s->cu x v->cu y u->r x y H Q ->
  yr slice false v u=operate [v,u] (mO v u)->aj (aA X.prog X.w) X.A (Dl value slice v u) (EP X pins σ Q) X.xe s
def QU (X:Cx) (id:String) (r:V->List V->Hp->VK->Prop):Prop :=
 ∀ (pins:List (aa×Obj)) (s:a9) (σ:St) (H:Hp) (x:V) (xs:List V) (v:a7) (us:List a7) (Q:VK),bf X pins σ H s->cu x v->cz xs us->r x xs H Q ->
  aj (aA X.prog X.w) X.A (call (.builtin id) (v::us)) (EP X pins σ Q) X.xe s
section
variable {X:Cx}{a b:aO}{ta tb:TE}{pos:Pos}
theorem Lj {r:R2} (hr:OA X r) (ha:PE X a ta) (hb:PE X b tb) (hs:tH b):PE X (.Subscript a b pos) (Oo r ta tb):=by
 intro pins s σ H Q I h
 exact Subscript_ (MQ ha hb I h fun v u s2 x y H2 I2 rx ry q=>hr a b pins s2 σ H2 x y v u Q I2 rx ry q (hs _ _))
inductive Lk (K:a5) (x:V) (y:V) (H:Hp) (Q:VK):Prop
 |mk (p xs i v:_) (h0:x=.ref p) (h1:y=.int i) (h2:k_ K H p xs) (h3:Ai xs i=some v) (h4:Q v H):Lk K x y H Q
def OB (K:a5):R2:=Lk K
inductive Ll (K:a5) (x:V) (y:V) (H:Hp) (Q:VK):Prop
 |mk (p xs i v:_) (h0:x=.ref p) (h1:y=.int i) (h2:iF K H p xs) (h3:Ai xs i=some v) (h4:Q v H):Ll K x y H Q
def QV (K:a5):R2:=Ll K
inductive Lm (x:V) (y:V) (H:Hp) (Q:VK):Prop
 |mk (z i c:_) (h0:x=.str z) (h1:y=.int i) (h2:z.length<=sizeLine) (h3:Ai z.cps.toList i=some c) (h4:Q (.str ⟨#[c]⟩) H):Lm  x y H Q
def QW:R2:=Lm
theorem C8:OA X (OB X.K):=by
 intro value slice pins s σ H x y v u Q I rx ry h hs
 obtain ⟨p,xs,i,z,rfl,rfl,hq,he,q⟩:=h
 cases rx
 obtain ⟨t,rfl⟩:=ry
 obtain ⟨its,r,pl,hz⟩:=I.list hq
 obtain ⟨j,h1,h2,h3,h4,h5⟩:=xo he
 obtain ⟨w,ew,rw'⟩:=r.get h2
 have hl:=r.length
 have hn:=rj
 have fin:EP X pins σ Q w s:=⟨z,H,I,rw',q⟩
 by_cases h0:0<=i
 ·have hj:i.toNat=j:=by
   rw [seqIndex_of h0 h5] at h1
   exact bh h1
  exact item_listR pl.isList h0 (by omega) (by rw [hj];simpa using ew) fin hs
 ·have hj:(i+(its.toArray.size:Int)).toNat=j:=by
   rw [seqIndex_neg (by omega) h4] at h1
   rw [ax,<- hl]
   exact bh h1
  exact E_ (x:=w) pl.isList.typeIs slot_list_getitem.lookup
   (wpAny_getItem_list_neg (Q:=fun r s'=>r=w/\EP X pins σ Q r s') pl.isList (by omega) (by rw [ax]<;>omega) (by omega) (by rw [hj];simpa using ew) ⟨rfl,fin⟩) hs
theorem N5:OA X (QV X.K):=by
 intro value slice pins s σ H x y v u Q I rx ry h hs
 obtain ⟨p,xs,i,z,rfl,rfl,hq,he,q⟩:=h
 cases rx
 obtain ⟨t,rfl⟩:=ry
 obtain ⟨its,r,pl,hz⟩:=I.tuple hq
 obtain ⟨j,h1,h2,h3,h4,h5⟩:=xo he
 obtain ⟨w,ew,rw'⟩:=r.get h2
 have hl:=r.length
 have hn:=rj
 have fin:EP X pins σ Q w s:=⟨z,H,I,rw',q⟩
 exact E_ (x:=w) pl.typeIs slot_tuple_getitem.lookup
  (getItem_tuple (j:=j) (Q:=fun r s'=>r=w/\EP X pins σ Q r s') pl (by omega) (by omega) (by rw [ax,<- hl];exact h1) (by simpa using ew) ⟨rfl,fin⟩) hs
theorem N6:OA X QW:=by
 intro value slice pins s σ H x y v u Q I rx ry h hs
 obtain ⟨z,i,c,rfl,rfl,hz,he,q⟩:=h
 obtain ⟨t,rfl⟩:=rx
 obtain ⟨t',rfl⟩:=ry
 obtain ⟨j,h1,h2,h3,h4,h5⟩:=xo he
 have hl:z.cps.toList.length=z.length:=by simp [Str.length]
 rw [hl] at h1 h4 h5
 have hn:=rj
 exact tail_any (jG s z t) slot_str_getitem.lookup (getItem_str (c:=c) (by
  have e1:decide (i < -(2 ^ 63:Int))=false:=decide_eq_false (by omega)
  have e2:decide (i ≥ 2 ^ 63)=false:=decide_eq_false (by omega)
  rw [e1,e2,Bool.or_false]) (by rw [h1];simpa using h2) ⟨.str ⟨#[c]⟩,H,I.tok _,⟨_,rfl⟩,q⟩) hs
theorem xp (lo hi:Option Int) (n:Nat):(k8 lo hi none n).1=((HT.gG n 0 lo:Nat):Int)/\(k8 lo hi none n).2.1=((HT.gG n n hi:Nat):Int)/\(k8 lo hi none n).2.2=1:=by
 refine ⟨?_,?_,rfl⟩
 ·cases lo with
  |none=>simp [k8,HT.gG]
  |some i =>
   simp only [k8,HT.gG,eU,show (1:Int) > 0 by decide,if_true]
   by_cases h:i<0
   ·simp only [h,if_true]<;>omega
   ·simp only [h,if_false]<;>omega
 ·cases hi with
  |none=>simp [k8,HT.gG]
  |some i =>
   simp only [k8,HT.gG,eU,show (1:Int) > 0 by decide,if_true]
   by_cases h:i<0
   ·simp only [h,if_true]<;>omega
   ·simp only [h,if_false]<;>omega
theorem vE (its:List a7) (lo hi:Option Int):slicePick its.toArray lo hi none=((its.drop (HT.gG its.length 0 lo)).take (HT.gG its.length its.length hi-HT.gG its.length 0 lo)).toArray:=by
 obtain ⟨h1,h2,h3⟩:=xp lo hi its.toArray.size
 unfold slicePick
 rw [h1,h2,h3]
 simp only [sliceRange_one,pick_run,ax]<;>rfl
def QX (K:a5):V->Option Int->Option Int->Hp->VK->Prop:=fun x lo hi H Q=>∃ a xs,x=.ref a/\k_ K H a xs/\∀ p,H p=none->Q (.ref p) (upd H p (.lst (yL xs lo hi)))
theorem Jt:O6 X (QX X.K):=by
 intro pins s σ H x v vl vu lo hi sl Q I rx hs pl pu h
 obtain ⟨a,xs,rfl,hx,q⟩:=h
 cases rx
 obtain ⟨its,r,ht,hz⟩:=I.list hx
 have hlen:=r.length
 refine ⟨"list",_,slot_list_getitem.lookup,ht.isList.typeIs,?_⟩
 refine wpAny_getItem_list_slice ht.isList hs pl pu .none (by simp) ?_ (by rw [ax]<;>omega)
 rw [vE,<- hlen]
 refine ⟨.ref s.heap.objs.size,_,I.laid (t':=s.toks) (o:=.lst (yL xs lo hi)) (fun b ob q=>a8 _ q) (ao _) ?_,rfl,q _ (I.hok.fresh (ao _))⟩
 exact ⟨a_ (sk xs lo hi) hz,_,0,(r.drop (HT.gG xs.length 0 lo)).take (HT.gG xs.length xs.length hi-HT.gG xs.length 0 lo),ar _ rfl⟩
def m_:V->Bool
 |.non=>true
 |.bl _=>true
 |.int _=>true
 |.str _=>true
 |_=>false
def Ju:V->V->Bool
 |.non,.non=>true
 |.bl a,.bl b=>a==b
 |.bl a,.int b=>(if a then 1 else 0)==b
 |.int a,.bl b=>a==(if b then 1 else 0)
 |.int a,.int b=>a==b
 |.str a,.str b=>a==b
 |_,_=>false
theorem N7 {A:aV}{s:a9}{y x:V}{u v:a7} (ry:cu y u) (rx:cu x v) (fy:m_ y=true) (fx:m_ x=true):Dm A s u v (Ju y x):=by
 cases y with
 |non =>
  cases ry
  cases x with
  |non=>cases rx;exact SeqAt.EqAt.same _
  |bl b=>cases rx;exact SeqAt.EqAt.none_bool b
  |int b=>obtain ⟨t,rfl⟩:=rx;exact SeqAt.EqAt.none_int b t
  |str b=>obtain ⟨t,rfl⟩:=rx;exact SeqAt.EqAt.none_str b t
  |_=>exact absurd (show false=true from fx) aP
 |bl a =>
  cases ry
  cases x with
  |non=>cases rx;exact SeqAt.EqAt.bool_none a
  |bl b=>cases rx;exact vY a b
  |int b=>obtain ⟨t,rfl⟩:=rx;exact SeqAt.EqAt.bool_int a b t
  |str b=>obtain ⟨t,rfl⟩:=rx;exact SeqAt.EqAt.bool_str a b t
  |_=>exact absurd (show false=true from fx) aP
 |int a =>
  obtain ⟨t',rfl⟩:=ry
  cases x with
  |non=>cases rx;exact SeqAt.EqAt.int_none a t'
  |bl b=>cases rx;exact SeqAt.EqAt.int_bool a t' b
  |int b=>obtain ⟨t,rfl⟩:=rx;exact SeqAt.EqAt.int_int a t' b t
  |str b=>obtain ⟨t,rfl⟩:=rx;exact yn a t' b t
  |_=>exact absurd (show false=true from fx) aP
 |str a =>
  obtain ⟨t',rfl⟩:=ry
  cases x with
  |non=>cases rx;exact SeqAt.EqAt.str_none a t'
  |bl b=>cases rx;exact SeqAt.EqAt.str_bool a t' b
  |int b=>obtain ⟨t,rfl⟩:=rx;exact yo a t' b t
  |str b=>obtain ⟨t,rfl⟩:=rx;exact SeqAt.EqAt.str_str a t' b t
  |_=>exact absurd (show false=true from fx) aP
 |_=>exact absurd (show false=true from fy) aP
def AZ (x:V) (u:a7):Bool:=match u with
 |.none=>Ju .non x
 |.bool b=>Ju (.bl b) x
 |.int i _=>Ju (.int i) x
 |.str z _=>Ju (.str z) x
 |_=>false
theorem FC {x y:V}{u:a7} (r:cu y u) (f:m_ y=true):AZ x u=Ju y x:=by
 cases y with
 |non=>cases r;rfl
 |bl b=>cases r;rfl
 |int i=>obtain ⟨t,rfl⟩:=r;rfl
 |str z=>obtain ⟨t,rfl⟩:=r;rfl
 |_=>exact absurd (show false=true from f) aP
theorem pZ {x:V}:∀ {xs:List V}{us:List a7},cz xs us->xs.all m_=true->us.any (AZ x)=xs.any fun y=>Ju y x
 |_,_,.nil,_=>rfl
 |y::xs,u::us,.cons r t,f=>by
  rw [pO,aB] at f
  rw [eg,eg,FC r f.1,pZ t f.2]
theorem n5 {A:aV}{s:a9}{x:V}{v:a7} (rx:cu x v) (fx:m_ x=true):∀ {xs:List V}{us:List a7},cz xs us->xs.all m_=true->∀ u∈us,Dm A s u v (AZ x u)
 |_,_,.nil,_=>fun u hu=>by cases hu
 |y::xs,u::us,.cons r t,f=>fun u' hu=>by
  rw [pO,aB] at f
  rcases List.mem_cons.mp hu with rfl|hu
  ·rw [FC r f.1];exact N7 r rx f.1 fx
  ·exact n5 rx fx t f.2 u' hu
def Qe (x:V) (xs:List V):Bool:=xs.any fun y=>Ju y x
inductive OC (K:a5) (neg:Bool) (x:V) (y:V) (H:Hp) (Q:VK):Prop
 |mk (p xs:_) (h0:y=.ref p) (h1:(k_ K H p xs\/iF K H p xs)) (h2:m_ x=true) (h3:xs.all m_=true) (h4:Q (.bl (if neg then !Qe x xs else Qe x xs)) H):OC K neg x y H Q
def QY (K:a5) (neg:Bool):R2:=OC K neg
theorem DC:nN X (bz .In) (QY X.K false):=by
 intro pins s σ H x y v u Q I rx ry h
 obtain ⟨p,xs,rfl,hq,fx,fs,q⟩:=h
 cases ry
 rcases hq with hq|hq
 ·obtain ⟨its,r,pl,hz⟩:=I.list hq
  refine SeqAt.in_listAt (AZ x) pl.isList (fun w hw=>n5 rx fx r fs w (by simpa using hw)) ⟨.bl _,H,I,rfl,?_⟩
  rw [show its.toArray.any (AZ x)=its.any (AZ x) by simp,pZ r fs]
  exact q
 ·obtain ⟨its,r,pl,hz⟩:=I.tuple hq
  refine SeqAt.in_tupleAt (AZ x) pl (fun w hw=>n5 rx fx r fs w (by simpa using hw)) ⟨.bl _,H,I,rfl,?_⟩
  rw [show its.toArray.any (AZ x)=its.any (AZ x) by simp,pZ r fs]
  exact q
theorem xq:nN X (bz .NotIn) (QY X.K true):=by
 intro pins s σ H x y v u Q I rx ry h
 obtain ⟨p,xs,rfl,hq,fx,fs,q⟩:=h
 cases ry
 rcases hq with hq|hq
 ·obtain ⟨its,r,pl,hz⟩:=I.list hq
  refine SeqAt.notIn_listAt (AZ x) pl.isList (fun w hw=>n5 rx fx r fs w (by simpa using hw)) ⟨.bl _,H,I,rfl,?_⟩
  rw [show its.toArray.any (AZ x)=its.any (AZ x) by simp,pZ r fs]
  exact q
 ·obtain ⟨its,r,pl,hz⟩:=I.tuple hq
  refine SeqAt.notIn_tupleAt (AZ x) pl (fun w hw=>n5 rx fx r fs w (by simpa using hw)) ⟨.bl _,H,I,rfl,?_⟩
  rw [show its.toArray.any (AZ x)=its.any (AZ x) by simp,pZ r fs]
  exact q
theorem p_:iK X (.builtin "len") (fun xs H Q=>∃ p ys,xs=[.ref p]/\(k_ X.K H p ys\/iF X.K H p ys)/\Q (.int ys.length) H):=by
 intro pins s σ H xs us Q I r h
 obtain ⟨p,ys,rfl,hq,q⟩:=h
 obtain ⟨u,rfl,rx⟩:=kh r
 cases rx
 have hn:=rj
 rcases hq with hq|hq
 ·obtain ⟨its,r',pl,hz⟩:=I.list hq
  have hlen:=r'.length
  exact Calls.call_len_list pl.isList (by simp only [ax]<;>omega) ⟨.int ys.length,H,I.tok _,⟨s.toks+1,by rw [ax,hlen]⟩,q⟩
 ·obtain ⟨its,r',pl,hz⟩:=I.tuple hq
  have hlen:=r'.length
  exact len_tuple pl (by simp only [ax]<;>omega) ⟨.int ys.length,H,I.tok _,⟨s.toks+1,by rw [ax,hlen]⟩,q⟩
theorem xr:iK X (.builtin "len") (fun xs H Q=>∃ z,xs=[.str z]/\z.length<=sizeLine/\Q (.int z.length) H):=by
 intro pins s σ H xs us Q I r h
 obtain ⟨z,rfl,hz,q⟩:=h
 obtain ⟨u,rfl,t,rfl⟩:=kh r
 have hn:=rj
 exact len_str (by omega) ⟨.int z.length,H,I.tok _,⟨_,rfl⟩,q⟩
theorem q0:iK X (.type "list") (fun xs H Q=>∃ p ys,xs=[.ref p]/\(k_ X.K H p ys\/iF X.K H p ys)/\∀ l,H l=none->Q (.ref l) (upd H l (.lst ys))):=by
 intro pins s σ H xs us Q I r h
 obtain ⟨p,ys,rfl,hq,q⟩:=h
 obtain ⟨u,rfl,rx⟩:=kh r
 cases rx
 have fin:∀ (its:List a7),cz ys its->ys.length<=sizeLine->∀ (h':bc) (c':Nat),(∀ b o',s.heap.get? b=some o'->h'.get? b=some o') ->
   h'.get? s.heap.objs.size=some { cls:=.type "list",dict:=none,data:=.seq its.toArray c',slots:=#[] }->EP X pins σ Q (.ref s.heap.objs.size) { s with heap:=h' }:=fun its r' hz h' c' kp e =>
  ⟨.ref s.heap.objs.size,_,I.laid (t':=s.toks) kp (ao _) (show cC X.prog X.w _ h' _ (.lst ys) from ⟨hz,its,c',r',e⟩),rfl,q _ (I.hok.fresh (ao _))⟩
 rcases hq with hq|hq
 ·obtain ⟨its,r',pl,hz⟩:=I.list hq
  have hlen:=r'.length
  obtain ⟨o,ho,hc,n,hd⟩:=pl.isList
  exact call_list_seq p (.inl rfl) ho hc hd (fun h' c' kp e=>fin its r' hz h' c' kp e) (by simp only [ax]<;>omega)
 ·obtain ⟨its,r',pl,hz⟩:=I.tuple hq
  have hlen:=r'.length
  obtain ⟨o,ho,hc,n,hd⟩:=pl
  exact call_list_seq p (.inr rfl) ho hc hd (fun h' c' kp e=>fin its r' hz h' c' kp e) (by simp only [ax]<;>omega)
theorem oJ:iK X (.type "tuple") (fun xs H Q=>∃ p ys,xs=[.ref p]/\((k_ X.K H p ys/\∀ l,H l=none->Q (.ref l) (upd H l (.tup ys)))\/(iF X.K H p ys/\Q (.ref p) H))):=by
 intro pins s σ H xs us Q I r h
 obtain ⟨p,ys,rfl,h⟩:=h
 obtain ⟨u,rfl,rx⟩:=kh r
 cases rx
 rcases h with ⟨hq,q⟩|⟨hq,q⟩
 ·obtain ⟨its,r',pl,hz⟩:=I.list hq
  have hlen:=r'.length
  refine call_tuple_list pl.isList (fun h' kp=>?_) (by simp only [ax]<;>omega)
  have I1:bf X pins σ H { s with heap:=h' }:=I.kept (t':=s.toks) kp
  have I2:bf X pins σ (upd H h'.objs.size (.tup ys)) { s with heap:=h'.push { cls:=.type "tuple",data:=.seq its.toArray } } :=
   I1.laid (t':=s.toks) (fun b o e=>a8 _ e) (ao _) (show cC X.prog X.w _ _ _ (.tup ys) from ⟨hz,its,r',yq _ _⟩)
  exact ⟨.ref h'.objs.size,_,I2,rfl,q _ (I1.hok.fresh (ao _))⟩
 ·obtain ⟨its,r',pl,hz⟩:=I.tuple hq
  exact call_tuple_same pl ⟨.ref p,H,I,rfl,q⟩
def RA (K:a5) (T:String) (x:V) (H:Hp):Prop:=match x with
 |.str _=>T="str"
 |.int _=>T="int"
 |.ref p=>(T="list"/\∃ xs,k_ K H p xs)\/(T="tuple"/\∃ o,K.lookup p=some o/\o.cls=.type "tuple"/\o.dict=none) \/
   (T="dict"/\((∃ kvs,H p=some (.dK kvs))\/∃ kvs,H p=some (.dT kvs)))\/(T="set"/\∃ S n,H p=some (.set S n))
 |_=>False
theorem N8 {pins:List (aa×Obj)}{σ:St}{H:Hp}{s:a9}{T:String}{x:V}{v:a7} (I:bf X pins σ H s) (r:cu x v) (ty:RA X.K T x H) :
  s.TypeIs v T/\∀ a,v=.ref a->∃ ob,s.heap.get? a=some ob/\ob.dict=none:=by
 cases x with
 |str z =>
  obtain ⟨t,rfl⟩:=r
  cases (show T="str" from ty)
  exact ⟨jG s z t,fun _ e=>nomatch e⟩
 |int i =>
  obtain ⟨t,rfl⟩:=r
  cases (show T="int" from ty)
  exact ⟨typeIs_int s i t,fun _ e=>nomatch e⟩
 |ref p =>
  cases r
  rcases ty with ⟨rfl,xs,hq⟩|⟨rfl,o,hk,hc,hd⟩|⟨rfl,hk⟩|⟨rfl,S,n,hk⟩
  ·obtain ⟨its,_,pl,_⟩:=I.list hq
   refine ⟨pl.isList.typeIs,fun a e=>?_⟩
   cases e
   obtain ⟨o,n,e,c,hd,_⟩:=pl
   exact ⟨o,e,hd⟩
  ·refine ⟨⟨o,I.kIn p o hk,hc⟩,fun a e=>?_⟩
   cases e
   exact ⟨o,I.kIn _ o hk,hd⟩
  ·have z:∃ o,s.heap.get? p=some o/\o.ExactDict:=by
    rcases hk with ⟨kvs,hk⟩|⟨kvs,hk⟩
    ·obtain ⟨_,_,_,_,o,_,_,e,ex,_⟩:=I.hok p _ hk
     exact ⟨o,e,ex⟩
    ·obtain ⟨_,_,_,_,o,_,_,e,ex,_⟩:=I.hok p _ hk
     exact ⟨o,e,ex⟩
   obtain ⟨o,e,ex⟩:=z
   refine ⟨⟨o,e,ex.1⟩,fun a e2=>?_⟩
   cases e2
   exact ⟨o,e,ex.2.1⟩
  ·obtain ⟨o,_,_,_,e,ex,_⟩:=I.hok p _ hk
   refine ⟨⟨o,e,ex.1⟩,fun a e2=>?_⟩
   cases e2
   exact ⟨o,e,ex.2.1⟩
 |_=>exact dn ty
def S4 (K:a5) (T:String) (r:V->List V->Hp->VK->Prop) (to:TE) (t:TA):TE:=fun σ H Q=>to σ H fun x H1=>RA K T x H1/\t σ H1 fun xs H2=>r x xs H2 Q
variable {o e:aO}{es:List aO}{to:TE}{t:TA}{name:Str}{apos cpos:Pos}{T id:String}{r:V->List V->Hp->VK->Prop}
theorem ue (pa:PlainAttrs T) (slot:Slot T name id) (hty:typeOf (.builtin id)=pure (.type "method_descriptor")) (hm:QU X id r) (ho:PE X o to) (ha:PA X (e::es) t)
  (hbase:eE o name X.env (bQ o X.env)=bQ o X.env:=by rfl)
  (hfew:((eR cpos (ap (e::es) X.env)).all (fun x=>!x.1)&&(IR cpos (yt [] X.env)).all (fun x=>x.1.isSome)
   && decide ((e::es).length+([] : List oQ).length+(if ([] : List oQ).isEmpty then 0 else 1)<30))=true:=by rfl)
  (hline:(apos.endLine==cpos.line)=true:=by rfl) (hs:ap (e::es) X.env=(false,bQ e X.env)::ap es X.env:=by rfl) (hplain:(eR cpos (ap es X.env)).any (·.1)=false:=by rfl) :
  PE X (.Call (.Attribute o name apos) (e::es) [] cpos) (S4 X.K T r to t):=by
 intro pins s σ H Q I h
 refine wpAny_Call_method_late hbase hfew hline rfl (eD (ho pins s σ H _ I h) fun v s1 ⟨x,H1,I1,r1,ty,q1⟩=>?_)
 obtain ⟨h1,h2⟩:=N8 I1 r1 ty
 refine ⟨T,id,pa,slot,hty,h1,h2,?_⟩
 have hA:=ha cpos pins s1 σ H1 _ I1 q1
 rw [hs] at hA ⊢
 refine Calls.callWith_builtin (by show (false||(eR cpos (ap es X.env)).any (·.1))=false;rw [hplain]<;>rfl) (Ax ?_)
 exact eD hA fun us s2 h_30=>by obtain ⟨vs,H2,I2,r2,q2⟩:=h_30;exact hm pins s2 σ H2 x vs v us Q I2 r1 r2 q2
end
end L2
namespace L2
open PySem PySem.Spec PyProof.Rows
def QZ (X:Cx) (id:String) (r:V->List V->Hp->VK->Prop):Prop :=
 ∀ (pins:List (aa×Obj)) (s:a9) (σ:St) (H:Hp) (x:V) (xs:List V) (v:a7) (us:List a7) (Q:VK),bf X pins σ H s->cu x v->cz xs us->r x xs H Q ->
  aj (aA X.prog X.w) X.A (call (.builtin id) (v::us)) (EP X pins σ Q) X.xe s
theorem cz.one {x:V}{us:List a7} (h:cz [x] us):∃ u,us=[u]/\cu x u:=by
 cases h with|cons r t=>cases t;exact ⟨_,rfl,r⟩
section
variable {X:Cx}{pins:List (aa×Obj)}{σ:St}{H:Hp}{s:a9}{l b:aa}{xs ys zs:List V}
theorem bf.lset {its its':List a7}{n:Nat}{f:Array a7->Array a7}{t':Nat} (I:bf X pins σ H s) (hH:H l=some (.lst xs))
  (e:s.heap.get? l=some { cls:=.type "list",data:=.seq its.toArray n }) (hf:f its.toArray=its'.toArray) (hv:cz ys its') (hz:ys.length<=sizeLine) :
  bf X pins σ (upd H l (.lst ys)) { s with heap:=s.heap.update l (ik f),toks:=t' }:=by
 have q:=PySem.IsL.update e f
 rw [hf] at q
 refine I.write (x:=l) (e:=l) (by rw [hH];exact trivial) (.inl rfl) (fun b' u hb hu=>(mP s.heap (ik f) (dU hb)).trans hu) ⟨_,q⟩ ?_
 exact ⟨hz,its',_,hv,q⟩
theorem bf.lnew {its:List a7}{t':Nat} (I:bf X pins σ H s) (hv:cz ys its) (hz:ys.length<=sizeLine) :
  bf X pins σ (upd H s.heap.objs.size (.lst ys)) { s with heap:=s.heap.push { cls:=.type "list",data:=.seq its.toArray },toks:=t' } :=
 I.laid (fun _ _ q=>a8 _ q) (ao _) ⟨hz,its,0,hv,ar _ rfl⟩
theorem bf.fresh (I:bf X pins σ H s):H s.heap.objs.size=none:=I.hok.fresh (ao _)
theorem bf.lstM (I:bf X pins σ H s) (hH:H l=some (.lst xs)):Ry s.heap l xs:=by
 obtain ⟨z,its,n,r,e⟩:=I.hok l _ hH
 exact ⟨z,its,n,r,r.length,e⟩
theorem yM {n:Nat} (h:n<=sizeLine):gf n=false:=by
 unfold gf
 exact decide_eq_false (by omega)
end
section
variable {X:Cx}
inductive yN (x:V) (vs:List V) (H:Hp) (Q:VK):Prop
 |mk (l xs y:_) (h0:x=.ref l) (h1:vs=[y]) (h2:H l=some (.lst xs)) (h3:xs.length<sizeLine) (h4:Q .non (upd H l (.lst (xs++[y])))):yN  x vs H Q
def Jv:V->List V->Hp->VK->Prop:=yN
theorem wp:QZ X "list.append" Jv:=by
 intro pins s σ H x vs v us Q I rx rv h
 obtain ⟨l,xs,y,rfl,rfl,hH,hz,q⟩:=h
 cases rx
 obtain ⟨u,rfl,ru⟩:=rv.one
 obtain ⟨z,its,n,r,hl,e⟩:=I.lstM hH
 refine iO F.slot_list_append ⟨_,e,rfl⟩ F.entry_list_append (F.args_list_append_2 _ _) (PySem.list_append l its.toArray n u (by rw [ax];omega)) ⟨e,?_⟩
 refine ⟨.non,_,I.lset (its':=its++[u]) hH e (by simp) (r.append (.cons ru .nil)) ?_,rfl,q⟩
 rw [aY,j8]
 omega
inductive yO (x:V) (vs:List V) (H:Hp) (Q:VK):Prop
 |mk (l b xs zs:_) (h0:x=.ref l) (h1:vs=[.ref b]) (h2:H l=some (.lst xs)) (h3:H b=some (.lst zs)) (h4:xs.length+zs.length<=sizeLine) (h5:Q .non (upd H l (.lst (xs++zs)))):yO  x vs H Q
def Jw:V->List V->Hp->VK->Prop:=yO
theorem wq:QZ X "list.extend" Jw:=by
 intro pins s σ H x vs v us Q I rx rv h
 obtain ⟨l,b,xs,zs,rfl,rfl,hH,hB,hz,q⟩:=h
 cases rx
 obtain ⟨u,rfl,ru⟩:=rv.one
 cases ru
 obtain ⟨z,its,n,r,hl,e⟩:=I.lstM hH
 obtain ⟨z2,its2,n2,r2,hl2,e2⟩:=I.lstM hB
 have hsz:its.toArray.size+its2.toArray.size<=sizeLine:=by rw [ax,ax];omega
 have hlong:¬ (!its.toArray.isEmpty&&gf (its.toArray.size+its2.toArray.size))=true:=by
  rw [yM hsz,Bool.and_false]
  exact aP
 refine iO IS ⟨_,e,rfl⟩ IB (F4 _ _)
  (AutoSeq1.list_extend_list_list_0 l its.toArray n b its2.toArray n2 hlong (by rw [ax];omega) (by omega)) ⟨e,e2,?_⟩
 refine ⟨.non,_,I.lset (its':=its++its2) hH e (by simp) (r.append r2) ?_,rfl,q⟩
 rw [aY]
 omega
end
section
variable {prog:aI}{w:aW}{A:aV}{E:a7->a9->Prop}{s:a9}
end
section
variable {X:Cx}
end
end L2
namespace Att
open PySem PySem.W PySem.Calls PyProof.Rows
theorem sU {P:Params}{h:bc}:∀ (ns:List Int) (vs:List a7),WellAll P h vs (ns.map WData.int)->F5 vs ns:=by
 intro ns
 induction ns with
 |nil =>
  intro vs w
  rw [dG] at w
  cases w
  exact .nil
 |cons n ns ih =>
  intro vs w
  rw [al] at w
  cases w with
  |cons a b =>
   cases a
   exact .cons _ _ (ih _ b)
theorem DD {l:OpenLaw}{n:Nat} (hn:l.most=some n) {P:Params}{h:bc}{args:List WData}{vals:List a7}
  (hpre:l.row.toRowW.claim.pre args=true) (hwl:WellAll P h vals args) :
  ∃ a vs ns,vals=[bE a]/\args=[WData.list (ns.map WData.int)]/\h.get? a=some { cls:=.type "list",data:=.seq vs.toArray }/\F5 vs ns/\ns.length<=n:=by
 have hsh:WShape.hasAll [] args [.list .int]=true:=(pre_splitW hpre).1
 have hc:l.pre.holds [] { args:=args }=true:=(pre_splitW hpre).2
 obtain ⟨d,r,rfl,h1,h2⟩:=hasAllW_cons hsh
 obtain rfl:=hasAllW_nil h2
 obtain ⟨xs,rfl,h3⟩:=hasW_list h1
 obtain ⟨ns,rfl⟩:=items_int h3
 have hlen:ns.length<=n:=by
  unfold OpenLaw.pre at hc
  have h4:(WTm.not (.lt (.lit (.int (n:Int))) (.len (.arg 0)))).holds [] { args:=[.list (ns.map .int)] }=true:=by
   have h4:=(holds_andW hc).1
   rw [hn] at h4
   exact h4
  have h5:=condW_of h4 (w_not (w_lt w_lit (w_len_list (w_arg rfl))))
  rw [au] at h5
  refine IT fun q=>?_
  have q':(n:Int)<((ns.length:Nat):Int):=by omega
  first
   |(rw [decide_eq_true q'] at h5;exact absurd h5 (by decide))
   |(simp at h5;omega)
 cases hwl with
 |cons w1 w2 =>
  cases w2
  cases w1 with
  |list ho hall=>exact ⟨_,_,ns,rfl,rfl,ho,sU ns _ hall,hlen⟩
theorem DE (l:OpenLaw) (args:List WData):l.row.toRowW.claim.post args (.bool true) args=true :=
 postW_of (r:=l.row.toRowW) (X:=(true==true))
  (show WShape.has [] (.bool true) .bool=true by first|rfl|decide|simp [WShape.has,WShape.arms,WShape.armsAll])
  (show (WTm.eq .res (.lit (.bool true))).value [] { args:=args,res:=some (.bool true),after:=args }=some (.bool (true==true)) from w_eq_bool (w_res rfl) w_lit) rfl
theorem attach_call {l:OpenLaw}{n:Nat}{q:aI}{loose:List Str}{XP:(Str->Option a7)->bc->Prop}{YP:aW->bc->Prop}{d:DefRec}
  (hn:l.most=some n) (hdf:d.params.defaults=[])
  (call:∀ (w:aW) (s₀ s₁:a9) (mg mb:Str->Option a7) (fa:aa) (o:Obj) (pm cd doc:a7) (a:aa) (vs:List a7) (ns:List Int),
   Ground q loose [] XP w s₀ mg mb s₁.heap->YP w s₁.heap ->
   s₁.heap.get? fa=some o->o.data=.func (docDef d.name d.params d.body d.scope pm cd doc)->s₁.heap.CodeRec cd d.name->mg d.name=some (.ref fa) ->
   s₁.heap.get? a=some { cls:=.type "list",data:=.seq vs.toArray }->F5 vs ns->ns.length<=n->s₁.gens=#[] ->
   fU (aA l.prog w) sd (.call (.ref fa) ⟨[.ref a],[]⟩) (fun r s'=>r=.ok (.ret (.bool true))/\OldK s₁.heap s'.heap/\s'.os=s₁.os/\mM s'.gens) s₁) :
  WalkO q loose XP YP l.row.toRowW d [] (fun f vs=>Dn f vs):=by
 intro w s₀ s₁ mg mb G Y fa o pm cd doc dV kV ho hd hcd hD hmg hg args vals as hpre hlay hrd hwl hlo
 obtain rfl:dV=.none:=Dflts.none hD hdf
 obtain rfl:kV=.none:=Dflts.noKw hD
 obtain ⟨a,vs,ns,rfl,rfl,hobj,hints,hlen⟩:=DD hn hpre hwl
 refine enter_call (l5 (call w s₀ s₁ mg mb fa o pm cd doc a vs ns G Y ho (fd_plain hd) hcd hmg hobj hints hlen hg) fun r s' hq=>?_)
 obtain ⟨rfl,h2,h3,h4⟩:=hq
 exact ⟨.inl ⟨.bool true,.bool true,[],rfl,fun _=>rfl,.bool true,DE l _,fun _=>⟨vZ,fun _ hm=>(nomatch hm)⟩⟩,h2,h3,h4⟩
section
variable {prog:aI}{w:aW}{A:aV}{E:a7->a9->Prop}{s:a9}{K:Frag}
def Q_ (h:bc) (L d:aa):List (aa×Obj):=(bL h.objs.size).filterMap fun a=>if a=L\/a=d then none else (h.get? a).map fun o=>(a,o)
end
end Att
namespace L2
open PySem PySem.Spec PyProof.Rows
theorem DF {vs:List a7}{ns:List Int} (h:F5 vs ns):cz (ns.map V.int) vs:=by
 induction h with
 |nil=>exact .nil
 |cons n t h ih=>exact .cons ⟨t,rfl⟩ ih
def N9 (H:Hp):Prop:=∀ b,H b=none\/∃ o xs,H b=some (.frz o (.lst xs))
theorem FD {P:aI}{w:aW}{K:a5}{mg mb:Str->Option a7}{CX:C4}{k:Nat}{fa a:aa}{fd:cY}{x:Str}{sp:Sp}{s₁:a9}{vs:List a7}{ns:List Int}
  (KX:K.In s₁.heap) (hns:s₁.heap.Ns aT mg) (hb:s₁.heap.Ns builtinsNs mb) (hbb:∀ x:Str,x≠"__name__"->mb x=fS x) (hlim:s₁.heap.NoLimit) (hg:s₁.gens=#[])
  (ha:s₁.heap.get? a=some { cls:=.type "list",data:=.seq vs.toArray }) (hi:F5 vs ns) (hl:ns.length<=sizeLine) (hr:iS k sd)
  (F:∀ base:bc,K.In base->base.Ns aT mg->oy P w K mg base CX k fa fd [x] sp) (hbind:∀ (s:a9) (u:a7),s9 s fd ⟨[u],[]⟩ [(x,u)])
  (hsp:∀ H:Hp,N9 H->k_ K H a (ns.map V.int)->sp [.ref a] H (fun v _=>v=.bl true) fun _ _ _=>False)
  (hCX:∀ H e s',CX [] H s₁ (fun _ _ _=>False) e s'->False) :
  fU (aA P w) sd (.call (.ref fa) ⟨[.ref a],[]⟩) (fun r s'=>r=.ok (.ret (.bool true))/\OldK s₁.heap s'.heap/\s'.os=s₁.os/\mM s'.gens) s₁:=by
 have rv:=DF hi
 have lenV:=hi.length
 have core:∀ H:Hp,N9 H->k_ K H a (ns.map V.int)->mT P w H s₁.heap->(∀ b,H b≠none->b=a)->(H a≠none->K.lookup a=none) ->
   fU (aA P w) sd (.call (.ref fa) ⟨[.ref a],[]⟩) (fun r s'=>r=.ok (.ret (.bool true))/\OldK s₁.heap s'.heap/\s'.os=s₁.os/\mM s'.gens) s₁:=by
  intro H hO hS hok hA hK
  have base_of:∀ {b:aa}{o:Obj},s₁.heap.get? b=some o->H b=none->(xk s₁.heap H).get? b=some o:=fun e n=>Fb e n
  have noA:∀ {b:aa}{o:Obj}{es:Array DictEntry}{ep:Nat},s₁.heap.get? b=some o->o.data=.dict es ep->H b=none:=fun {b o es ep} e d=>by
   cases q:H b with
   |none=>rfl
   |some u =>
    have e':b=a:=hA b (by rw [q];simp)
    subst e'
    rw [ha] at e;cases e
    have d':Data.seq vs.toArray _=Data.dict es ep:=d
    cases d'
  have nsK:∀ {b:aa}{m:Str->Option a7},s₁.heap.Ns b m->(xk s₁.heap H).Ns b m:=fun {b m} ⟨o,es,ep,e,d,r⟩=>⟨o,es,ep,base_of e (noA e d),d,r⟩
  have hKb:K.In (xk s₁.heap H):=fun b o e=>base_of (KX b o e) (by
   cases q:H b with
   |none=>rfl
   |some u =>
    have e':b=a:=hA b (by rw [q];simp)
    subst e'
    rw [hK (by rw [q];simp)] at e;cases e)
  have hM:Mod K mg (xk s₁.heap H):=⟨hKb,nsK hns,⟨mb,nsK hb,hbb⟩,let ⟨mc,h1,h2⟩:=hlim;⟨mc,nsK h1,h2⟩⟩
  have e0:AW P w K mg (xk s₁.heap H) sd [] s₁ H:=⟨rfl,hM,fun b o e=>Jc e,Nat.le_of_eq (Dw _ _),trivial,fun b hb=>absurd (show b∈([] : List aa) from hb) (by simp),hok,.of_eq hg⟩
  refine l5 ((F _ hKb (nsK hns)).run sd [] s₁ H ⟨[.ref a],[]⟩ [.ref a] [.ref a] _ _ hr e0 (hbind s₁ (.ref a)) (.cons rfl .nil) (hsp H hO hS)) fun r s' h=>?_
  cases r with
  |error e=>exact (hCX H e s' h).elim
  |ok fl =>
   cases fl with
   |next=>exact dn h
   |brk=>exact dn h
   |cont=>exact dn h
   |ret u =>
    obtain ⟨v,H',os,bare,un,hok',r',q⟩:=h
    have q':v=.bl true:=q
    subst q'
    obtain rfl:u=gq true:=r'
    refine ⟨rfl,OldK.of_keep fun b o e=>?_,os,bare⟩
    cases q:H b with
    |none=>exact un.keep b o e q (by intro z;exact absurd (show b∈([] : List aa) from z) (by simp)) (by simp)
    |some u =>
     rcases hO b with z|⟨ob,xs,z⟩
     ·rw [q] at z;cases z
     ·have z2:=un.frzs b ob _ z
      obtain ⟨e1,_⟩:=hok b _ z
      obtain ⟨e2,_⟩:=hok' b _ z2
      rw [e] at e1;cases e1
      exact e2
 cases hk:K.lookup a with
 |some o =>
  have e:=KX a o hk
  rw [ha] at e
  cases e
  refine core (fun _=>none) (fun _=>.inl rfl) (.inr ⟨_,vs.toArray,_,hk,rfl,rfl,rfl,by rw [ax,lenV];exact hl,by simpa using rv⟩) (fun b u z=>by have z':(none:Option HO)=some u:=z;cases z') (fun b z=>absurd rfl z) fun z=>absurd rfl z
 |none =>
  refine core (fun b=>if b=a then some (.frz { cls:=.type "list",data:=.seq vs.toArray } (.lst (ns.map V.int))) else none) (fun b=>?_) (.inl (.inr ⟨{ cls:=.type "list",data:=.seq vs.toArray },if_pos rfl⟩)) (fun b u z=>?_) (fun b z=>?_) fun _=>hk
  ·by_cases hb:b=a
   ·exact .inr ⟨_,_,if_pos hb⟩
   ·exact .inl (if_neg hb)
  ·by_cases hb:b=a
   ·have z':=(if_pos hb).symm.trans z
    cases z'
    subst hb
    exact ⟨ha,by rw [au];exact hl,vs,_,rv,ha⟩
   ·have z':=(if_neg hb).symm.trans z
    cases z'
  ·by_cases hb:b=a
   ·exact hb
   ·exact absurd (if_neg hb) z
end L2
namespace L2
open PySem PySem.Spec PyProof.Rows
abbrev Si {K:a5}{h:bc} (_:K.In h):a5:=K
theorem Jx {l:sR}{n k:Nat}{q:aI}{loose:List Str}{XP:(Str->Option a7)->bc->Prop}{YP:aW->bc->Prop}{d:DefRec}{K:Params->a5}{CX:aW->C4}{sp:aW->Sp}{x:Str}
  (hn:l.most=some n) (hn2:n<=sizeLine) (hdf:d.params.defaults=[]) (hr:iS k sd)
  (hY:∀ (w:aW) (h:bc),YP w h->(K w.params).In h)
  (F:∀ (w:aW) (mg:Str->Option a7) (fa:aa) (h:bc),(K w.params).In h->h.Ns aT mg->mg d.name=some (.ref fa) ->
   ∃ fd:cY,(∀ (s:a9) (u:a7),s9 s fd ⟨[u],[]⟩ [(x,u)]) /\
    ∀ base:bc,(K w.params).In base->base.Ns aT mg->oy l.prog w (K w.params) mg base (CX w) k fa fd [x] (sp w))
  (hsp:∀ (w:aW) (H:Hp) (a:aa) (ns:List Int),ns.length<=n->N9 H->k_ (K w.params) H a (ns.map V.int)->sp w [.ref a] H (fun v _=>v=.bl true) fun _ _ _=>False)
  (hCX:∀ (w:aW) (H:Hp) (s:a9) (e:a7) (s':a9),CX w [] H s (fun _ _ _=>False) e s'->False) :
  IC q loose XP YP l.row.toRowW d [] (fun f vs=>Dn f vs):=by
 refine Att.attach_call hn hdf fun w s₀ s₁ mg mb fa o pm cd doc a vs ns G Y ho hd hcd hmg hobj hints hlen hg=>?_
 have KX:=hY w _ Y
 obtain ⟨fd,hb,hF⟩:=F w mg fa _ KX G.T.g hmg
 exact FD KX G.T.g G.T.b G.T.builtins G.T.nolimit hg hobj hints (a_ hlen hn2) hr hF hb (fun H hO hS=>hsp w H a ns hlen hO hS) fun H e s'=>hCX w H s₁ e s'
end L2
namespace L2
open PySem PySem.Spec PyProof.Rows
def j3 (s:dC):Arguments:=match s with
 |.FunctionDef _ a _ _ _ _ _ _ _ _=>a
 |_=>{ posonlyargs:=[],args:=[],vararg:=none,kwonlyargs:=[],kw_defaults:=[],kwarg:=none,defaults:=[] }
def fh (s:dC):List dC:=match s with
 |.FunctionDef _ _ b _ _ _ _ _ _ _=>b
 |_=>[]
def aC (s:dC):dO:=match s with
 |.FunctionDef _ _ _ _ _ _ sc _ _ _=>sc
 |_=>{ kind:=.function,names:=[],isGenerator:=false,isCoroutine:=false }
abbrev RC:C4:=fun _ _ _ _ _ _=>False
abbrev E0:XK:=fun _ _ _=>False
structure Aj (K:a5) (x qual:Str) (st:dC) (f:aa) (fd:cY):Prop where
 ex:∃ (oc:a7) (od:Option aa) (kV doc pm:a7) (an:Option aa) (cdv ct:a7) (osl:Array (Option a7)),
  fd=dq x qual (j3 st) (fh st) (aC st) .none kV doc pm an cdv ct/\K.lookup f=some ⟨oc,od,.func fd,osl⟩/\ij K cdv qual=true
 kp:cU K (.ref f)=true
section
variable {P:aI}{w:aW}{K:a5}{mg:Str->Option a7}{base:bc}
theorem Aj.binds {x qual:Str}{st:dC}{f:aa}{fd:cY}{ps:List Str} (F:Aj K x qual st f fd)
  (h:∀ (kV doc pm:a7) (an:Option aa) (cdv ct:a7) (us:List a7),us.length=ps.length->IQ (dq x qual (j3 st) (fh st) (aC st) .none kV doc pm an cdv ct) ⟨us,[]⟩=pure (ps.zip us)):iL K fd ps []:=by
 obtain ⟨oc,od,kV,doc,pm,an,cdv,ct,osl,rfl,lk,hcd⟩:=F.ex
 exact .all (h kV doc pm an cdv ct)
theorem FE {x qual:Str}{st:dC}{f:aa}{oc:a7}{od an:Option aa}{osl:Array (Option a7)}{kV doc pm cdv ct:a7} (l:K.lookup f=some ⟨oc,od,.func (dq x qual (j3 st) (fh st) (aC st) .none kV doc pm an cdv ct),osl⟩)
  (c:ij K cdv qual=true) (k:cU K (.ref f)=true):Aj K x qual st f (dq x qual (j3 st) (fh st) (aC st) .none kV doc pm an cdv ct):=⟨⟨oc,od,kV,doc,pm,an,cdv,ct,osl,rfl,l,c⟩,k⟩
end
theorem oK {A:aV}{k:Nat} (hr:iS k A):A.units+1<oq:=qT (Nat.add_le_add_left (by decide:1<=64) _) hr.units
theorem c8 {n:Nat} (h:n<=1000):n<sizeLine:=qT h (by decide)
section
variable {X:Cx}
theorem pv (i:Nat) {x:Str}{pos:Pos} (hN:X.N[i]?=some x:=by rfl) (hv:IJ X.env.scope x:=by first|exact eP rfl|exact da (eP rfl)|exact da (da rfl)) (hd:(x==("__debug__" : Str))=false:=by decide)
  (hcd:(x==("__classdict__" : Str))=false:=by decide):PE X (.Name x pos) (Dx i):=lN hN hv hd hcd
end
theorem vF {A B:Prop} (h:B):if false=true then A else B:=by
 rw [if_neg aP]
 exact h
theorem yP {A B:Prop} (h:A):if true=true then A else B:=by
 rw [if_pos rfl]
 exact h
def cK (H H':Hp):Prop:=∀ b o,H b=some o->H' b=some o
theorem cK.refl (H:Hp):cK H H:=fun _ _ h=>h
theorem cK.trans {H H1 H2:Hp} (a:cK H H1) (b:cK H1 H2):cK H H2:=fun c o h=>b c o (a c o h)
theorem cK.free {H H':Hp} (e:cK H H') {l:aa} (h:H' l=Option.none):H l=Option.none:=by
 cases q:H l with
 |none=>rfl
 |some o =>
  rw [e l o q] at h
  cases h
theorem cK.seq {K:a5}{H H':Hp}{a:aa}{xs:List V} (e:cK H H') (h:k_ K H a xs):k_ K H' a xs:=by
 rcases h with (h|⟨o,h⟩)|h
 ·exact .inl (.inl (e _ _ h))
 ·exact .inl (.inr ⟨o,e _ _ h⟩)
 ·exact .inr h
end L2
end
section
namespace L2
open PySem PySem.Spec PyProof.Rows
section
variable {κ:Type} [DecidableEq κ]
def q9 (kvs:List (κ×V)) (k:κ):Option V:=(kvs.find? fun kv=>decide (kv.1=k)).map (·.2)
def rm (kvs:List (κ×V)) (k:κ) (v:V):List (κ×V) :=
 if (kvs.any fun kv=>decide (kv.1=k))=true then kvs.map (fun kv=>if kv.1=k then (kv.1,v) else kv) else kvs++[(k,v)]
theorem uf {p:κ×V}{r:List (κ×V)}{k:κ} (e:p.1=k):q9 (p::r) k=some p.2:=by simp [q9,db,e]
theorem ug {p:κ×V}{r:List (κ×V)}{k:κ} (e:¬ p.1=k):q9 (p::r) k=q9 r k:=by simp [q9,db,e]
theorem yQ (k:κ):∀ kvs:List (κ×V),(kvs.any fun kv=>decide (kv.1=k))=(q9 kvs k).isSome
 |[]=>rfl
 |p::r=>by
  rw [eg]
  by_cases e:p.1=k
  ·simp only [uf e,decide_eq_true e,Bool.true_or,pE]
  ·rw [ug e,decide_eq_false e,pP];exact yQ k r
theorem sr (kvs:List (κ×V)) (k:κ) (v:V):(rm kvs k v).length<=kvs.length+1:=by
 unfold rm
 split
 ·rw [au];omega
 ·rw [aY,aD,eJ];omega
theorem u9.isSome_eq {o:Option V}{u:Option a7} (r:u9 o u):o.isSome=u.isSome:=by
 cases o with
 |none=>cases u with
  |none=>rfl
  |some _=>exact (show False from r).elim
 |some _=>cases u with
  |none=>exact (show False from r).elim
  |some _=>rfl
theorem KV.val {kvs:List (κ×V)}{vs:List (κ×a7)} (r:KV kvs vs) (k:κ):u9 (q9 kvs k) (vq vs k):=by
 unfold KV at r
 induction r with
 |nil=>exact ig
 | @cons p q ps qs h t ih =>
  obtain ⟨h1,h2⟩:=h
  by_cases e:p.1=k
  ·have e':q.1=k:=h1.symm.trans e
   have b:vq (q::qs) k=some q.2:=by simp [vq,db,e']
   rw [uf e,b];exact h2
  ·have e':¬ q.1=k:=fun z=>e (h1.trans z)
   have b:vq (q::qs) k=vq qs k:=by simp [vq,db,e']
   rw [ug e,b];exact ih
theorem KV.any {kvs:List (κ×V)}{vs:List (κ×a7)} (r:KV kvs vs) (k:κ):(kvs.any fun kv=>decide (kv.1=k))=vs.any fun kv=>decide (kv.1=k):=by
 unfold KV at r
 induction r with
 |nil=>rfl
 |cons h t ih=>rw [eg,eg,ih,h.1]
theorem KV.repl {kvs:List (κ×V)}{vs:List (κ×a7)} (r:KV kvs vs) (k:κ) {y:V}{u:a7} (ry:cu y u) :
  KV (kvs.map fun kv=>if kv.1=k then (kv.1,y) else kv) (vs.map fun kv=>if kv.1=k then (kv.1,u) else kv):=by
 unfold KV at r ⊢
 induction r with
 |nil=>exact .nil
 | @cons p q ps qs h t ih =>
  rw [al,al]
  refine .cons ?_ ih
  obtain ⟨h1,h2⟩:=h
  by_cases e:p.1=k
  ·rw [if_pos e,if_pos (h1.symm.trans e)];exact ⟨h1,ry⟩
  ·rw [if_neg e,if_neg (fun z=>e (h1.trans z))];exact ⟨h1,h2⟩
theorem KV.put {kvs:List (κ×V)}{vs:List (κ×a7)} (r:KV kvs vs) (k:κ) {y:V}{u:a7} (ry:cu y u):KV (rm kvs k y) (stored vs k u):=by
 unfold rm stored
 rw [r.any k]
 by_cases e:(vs.any fun kv=>decide (kv.1=k))=true
 ·rw [if_pos e,if_pos e];exact r.repl k ry
 ·rw [if_neg e,if_neg e];exact Paired.snoc r ⟨rfl,ry⟩
theorem KV.length {kvs:List (κ×V)}{vs:List (κ×a7)} (r:KV kvs vs):kvs.length=vs.length:=kZ r
end
theorem C9 {P:aI}{w:aW}{k:fe}{u:a7} (r:cu (kV k) u):(fg P w).is k u=true:=by
 cases k with
 |inl i=>obtain ⟨t,e⟩:=(show ∃ t,u=lI i t from r);subst e;exact yE P w i t
 |inr x=>obtain ⟨t,e⟩:=(show ∃ t,u=ic x t from r);subst e;exact yF P w x t
theorem wu {P:aI}{w:aW}:∀ {ks:List fe}{us:List a7},cz (ks.map kV) us->ItemsAre (fg P w) ks us
 |[],_,r=>by rw [dG] at r;cases r;exact .nil
 |k::ks,_,r=>by
  rw [al] at r
  cases r with
  |cons h t=>exact .cons (C9 h) (wu t)
abbrev KT (H:Hp):List (List fe×V)->List (List fe×aa×a7)->Prop:=EY fun p q=>p.1=q.1/\H q.2.1=some (.tup (p.1.map kV))/\cu p.2 q.2.2
theorem KT.val {H:Hp}{kvs:List (List fe×V)}{xs:List (List fe×aa×a7)} (r:KT H kvs xs) (k:List fe):u9 (q9 kvs k) ((Ay xs k).map (·.2)):=by
 induction r with
 |nil=>exact ig
 | @cons p q ps qs h t ih =>
  obtain ⟨h1,_,h2⟩:=h
  by_cases e:p.1=k
  ·have e':q.1=k:=h1.symm.trans e
   have b:Ay (q::qs) k=some q.2:=by simp [Ay,db,e']
   rw [uf e,b];exact h2
  ·have e':¬ q.1=k:=fun z=>e (h1.trans z)
   have b:Ay (q::qs) k=Ay qs k:=by simp [Ay,db,e']
   rw [ug e,b];exact ih
theorem KT.repl {H:Hp}{kvs:List (List fe×V)}{xs:List (List fe×aa×a7)} (r:KT H kvs xs) (k:List fe) {y:V}{u:a7} (ry:cu y u) :
  KT H (kvs.map fun kv=>if kv.1=k then (kv.1,y) else kv) (xs.map (putAt k u)):=by
 induction r with
 |nil=>exact .nil
 | @cons p q ps qs h t ih =>
  rw [al,al]
  refine .cons ?_ ih
  obtain ⟨h1,h2,h3⟩:=h
  unfold putAt
  by_cases e:p.1=k
  ·rw [if_pos e,if_pos (h1.symm.trans e)];exact ⟨h1,h2,ry⟩
  ·rw [if_neg e,if_neg (fun z=>e (h1.trans z))];exact ⟨h1,h2,h3⟩
theorem KT.put {H:Hp}{kvs:List (List fe×V)}{xs:List (List fe×aa×a7)} (r:KT H kvs xs) (k:List fe) {b:aa}{y:V}{u:a7} (hb:H b=some (.tup (k.map kV))) (ry:cu y u) :
  KT H (rm kvs k y) (storedH xs k b u):=by
 have e:(kvs.any fun kv=>decide (kv.1=k))=(Ay xs k).isSome:=by
  rw [yQ,(r.val k).isSome_eq,Do]
 unfold rm storedH
 rw [e]
 by_cases q:(Ay xs k).isSome=true
 ·rw [if_pos q,if_pos q];exact r.repl k ry
 ·rw [if_neg q,if_neg q];exact Paired.snoc r ⟨rfl,hb,ry⟩
theorem KT.keeps {H H':Hp}{kvs:List (List fe×V)}{xs:List (List fe×aa×a7)} (r:KT H kvs xs) (ht:∀ b ys,H b=some (.tup ys)->H' b=some (.tup ys)):KT H' kvs xs :=
 Paired.mapP r fun _ _ z=>⟨z.1,ht _ _ z.2.1,z.2.2⟩
section
variable {P:aI}{w:aW}{H:Hp}{h:bc}{a:aa}
theorem Ln {u:HO} (ok:mT P w H h) (e:Rd H a u):cC P w H h a u:=e.ok ok
theorem Ca {kvs:List (fe×V)} (ok:mT P w H h) (e:Rd H a (.dK kvs)):kvs.length<=sizeLine/\(a==fR)=false/\∃ vs,KV kvs vs/\h.DictOf (fg P w) a vs :=
 show cC P w H h a (.dK kvs) from Ln ok e
theorem OD {kvs:List (fe×V)} (ok:mT P w H h) (e:H a=some (.dK kvs)):kvs.length<=sizeLine/\(a==fR)=false/\∃ vs,KV kvs vs/\h.DictOf (fg P w) a vs:=Ca ok (.inl e)
theorem xt {ks:List fe} (ok:mT P w H h) (e:H a=some (.tup (ks.map kV))):(xb (fg P w)).is h ks a:=by
 obtain ⟨_,its,r,o,h1,h2,n,h3⟩:=(show cC P w H h a (.tup (ks.map kV)) from ok a _ e)
 exact ⟨o,its.toArray,n,h1,h2,h3,by simpa using wu r⟩
theorem Cb {kvs:List (List fe×V)} (ok:mT P w H h) (e:Rd H a (.dT kvs)):kvs.length<=sizeLine/\(a==fR)=false /\
  ∃ xs,KT H kvs xs/\h.DictOfH (xb (fg P w)) a xs:=by
 obtain ⟨z,y,xs,r,o,es,ep,h1,h2,h3,h4,h5⟩:=(show cC P w H h a (.dT kvs) from Ln ok e)
 refine ⟨z,y,xs,r,o,es,ep,h1,h2,h3,h4,fun x hx=>?_,h5⟩
 have all:∀ {l:List (List fe×V)}{m:List (List fe×aa×a7)},KT H l m->∀ x∈m,(xb (fg P w)).is h x.1 x.2.1:=by
  intro l m q
  induction q with
  |nil=>intro x hx;exact nomatch hx
  | @cons p q ps qs hq t ih =>
   intro x hx
   rcases List.mem_cons.mp hx with e|hx
   ·subst e
    exact xt ok (by rw [<- hq.1];exact hq.2.1)
   ·exact ih x hx
 exact all r x hx
theorem OE {kvs:List (List fe×V)} (ok:mT P w H h) (e:H a=some (.dT kvs)):kvs.length<=sizeLine/\(a==fR)=false /\
  ∃ xs,KT H kvs xs/\h.DictOfH (xb (fg P w)) a xs:=Cb ok (.inl e)
end
def A_ (H:Hp) (a:aa) (y:V) (r:Option V):Prop :=
 (∃ kvs k,Rd H a (.dK kvs)/\y=kV k/\r=q9 kvs k)\/∃ kvs k b,Rd H a (.dT kvs)/\y=.ref b/\H b=some (.tup (k.map kV))/\r=q9 kvs k
def FF (H:Hp) (a:aa) (y v:V) (H':Hp):Prop :=
 (∃ kvs k,H a=some (.dK kvs)/\y=kV k/\kvs.length<sizeLine/\H'=upd H a (.dK (rm kvs k v))) \/
 ∃ kvs k b,H a=some (.dT kvs)/\y=.ref b/\H b=some (.tup (k.map kV))/\kvs.length<sizeLine/\H'=upd H a (.dT (rm kvs k v))
theorem A_.k {H:Hp}{a:aa}{kvs:List (fe×V)}{k:fe} (e:H a=some (.dK kvs)):A_ H a (kV k) (q9 kvs k):=.inl ⟨kvs,k,.inl e,rfl,rfl⟩
theorem FF.k {H:Hp}{a:aa}{kvs:List (fe×V)}{k:fe}{v:V} (e:H a=some (.dK kvs)) (hl:kvs.length<sizeLine):FF H a (kV k) v (upd H a (.dK (rm kvs k v))):=.inl ⟨kvs,k,e,rfl,hl,rfl⟩
section
variable {X:Cx}{pins:List (aa×Obj)}{σ:St}{H:Hp}{s:a9}{a:aa}{y v:V}{u r:a7}{o:Option V}{A:aV}{E:a7->a9->Prop}
theorem bf.big (I:bf X pins σ H s):fR<s.heap.objs.size:=by
 have h:aT<s.heap.objs.size:=(I.mod.glob.keeps I.bk).lt
 exact Nat.lt_trans (by decide) h
theorem DG {Q:a7->a9->Prop} (hu:A.units+1<oq) (I:bf X pins σ H s) (g:A_ H a y (some v)) (ry:cu y u) (h:∀ w' s',bf X pins σ H s'->cu v w'->Q w' s') :
  aj (aA X.prog X.w) A (mO (.ref a) u) Q E s:=by
 rcases g with ⟨kvs,k,e,ey,l⟩|⟨kvs,k,b,e,ey,eb,l⟩
 ·subst ey
  obtain ⟨z,hd,vs,rel,dd⟩:=Ca I.hok e
  obtain ⟨w',hw,rw'⟩:=u9.some_of (v:=v) (o:=vq vs k) (by rw [l];exact rel.val k)
  exact wpAny_getItem_of (C9 ry) dd.mapOf hw (h w' _ (I.tok _) rw')
 ·subst ey
  cases (show u=bE b from ry)
  obtain ⟨z,hd,xs,rel,dd⟩:=Cb I.hok e
  obtain ⟨w',hw,rw'⟩:=u9.some_of (v:=v) (o:=(Ay xs k).map (·.2)) (by rw [l];exact rel.val k)
  obtain ⟨p,hp,hp2⟩:=Option.map_eq_some_iff.mp hw
  refine wpAny_getItem_heap (tY hu) (xt I.hok eb) dd hp ?_
  rw [hp2]
  exact h w' _ (I.tok _) rw'
theorem d_in {Q:a7->a9->Prop} (hu:A.units+1<oq) (I:bf X pins σ H s) (g:A_ H a y o) (ry:cu y u) (h:∀ s',bf X pins σ H s'->Q (.bool o.isSome) s') :
  aj (aA X.prog X.w) A (bz .In u (.ref a)) Q E s:=by
 rcases g with ⟨kvs,k,e,ey,l⟩|⟨kvs,k,b,e,ey,eb,l⟩
 ·subst ey
  obtain ⟨z,hd,vs,rel,dd⟩:=Ca I.hok e
  refine wpAny_in_of (C9 ry) hd dd.mapOf ?_
  rw [<- (rel.val k).isSome_eq,<- l]
  exact h _ (I.tok _)
 ·subst ey
  cases (show u=bE b from ry)
  obtain ⟨z,hd,xs,rel,dd⟩:=Cb I.hok e
  refine wpAny_in_heap (tY hu) (xt I.hok eb) hd dd ?_
  have q:=(rel.val k).isSome_eq
  rw [Do] at q
  rw [<- q,<- l]
  exact h _ (I.tok _)
theorem Cc {h':bc}{t':Nat}{ob:HO} (I:bf X pins σ H s) (mu:Oe (H a)) (hs:bU a s.heap h') (he:∃ q,h'.get? a=some q) (new:cC X.prog X.w (upd H a ob) h' a ob) :
  bf X pins σ (upd H a ob) { s with heap:=h',toks:=t' } :=
 I.write (x:=a) (e:=a) mu (.inl rfl) (fun b q hb z=>(hs.2 b hb).trans z) he new
theorem Na {P:aI}{w:aW}{H':Hp}{h':bc}{kvs:List (fe×V)}{vs:List (fe×a7)} (z:kvs.length<=sizeLine) (hd:(a==fR)=false) (rel:KV kvs vs) (dd:h'.DictOf (fg P w) a vs) :
  cC P w H' h' a (.dK kvs):=⟨z,hd,vs,rel,dd⟩
theorem DH {H':Hp}{Q:Unit->a9->Prop} (hu:A.units+1<oq) (I:bf X pins σ H s) (g:FF H a y v H') (ry:cu y u) (rv:cu v r) (h:∀ s',bf X pins σ H' s'->Q () s') :
  aj (aA X.prog X.w) A (setItem (.ref a) u r) Q E s:=by
 rcases g with ⟨kvs,k,e,ey,l,eH⟩|⟨kvs,k,b,e,ey,eb,l,eH⟩
 ·subst ey eH
  obtain ⟨z,hd,vs,rel,dd⟩:=OD I.hok e
  have hz:vs.length<=sizeLine:=by rw [<- rel.length];exact z
  have hl:(rm kvs k v).length<=sizeLine:=by have:=sr kvs k v;omega
  refine wpAny_setItem_pairs (hsz:=hz) (C9 ry) dd fun h' dd' hs=>h _ ?_
  have he:∃ q,h'.get? a=some q:=let ⟨q,_,_,hq,_⟩:=dd';⟨q,hq⟩
  exact Cc I (by rw [e];exact ig) hs he (Na hl hd (rel.put k rv) dd')
 ·subst ey eH
  cases (show u=bE b from ry)
  obtain ⟨z,hd,xs,rel,dd⟩:=OE I.hok e
  have hz:xs.length<=sizeLine:=by rw [<- kZ rel];exact z
  have hl:(rm kvs k v).length<=sizeLine:=by have:=sr kvs k v;omega
  refine wpAny_setItem_heap (hsz:=hz) (tY hu) (xt I.hok eb) dd fun h' dd' hs=>h _ ?_
  obtain ⟨q,es,ep,hq,h2,h3,h4,_,h5⟩:=dd'
  refine Cc I (by rw [e];exact ig) hs ⟨q,hq⟩ ⟨hl,hd,_,(rel.put k eb rv).keeps fun c ys ec=>?_,q,es,ep,hq,h2,h3,h4,h5⟩
  rw [aJ (Od ec e (fun z=>nomatch z))]
  exact ec
end
section
variable {X:Cx}{pins:List (aa×Obj)}{σ:St}{H:Hp}{s:a9}{a:aa}{kvs:List (fe×V)}{k:fe}{u:a7}{A:aV}{E:a7->a9->Prop}
end
def OF (i:aO):Prop:=∀ ov iv,yr i false ov iv=operate [ov,iv] (mO ov iv)
theorem Jy {prog:aI}{w:aW}{A:aV}{E:a7->a9->Prop}{s:a9}{env:Env}{value slice:aO}{pos:Pos}{T id:String}{Q:a7->a9->Prop}
  (hl:Aw (.type T) "__getitem__"=pure (some (.builtin id))) (hs:OF slice)
  (h:aj (aA prog w) A (bQ value env) (fun o s₁=>aj (aA prog w) A (bQ slice env) (fun i s₂=>s₂.TypeIs o T/\aj (aA prog w) A (mO o i) Q E s₂) E s₁) E s) :
  aj (aA prog w) A (bQ (.Subscript value slice pos) env) Q E s:=by
 refine Subscript_ (bR h (fun o s₁ h₁=>bR h₁ (fun i s₂ h₂=>?_) fun _ _ x=>x) fun _ _ x=>x)
 obtain ⟨hT,h₂⟩:=h₂
 unfold Dl
 refine a6 ?_
 rw [getitemInPython_of_ne hT.not_modules]
 refine a6 (yB hT hl ?_)
 have fin:aj (aA prog w) A (yr slice false o i) (fun r s₃=>aj (aA prog w) A (letTemporaryGo value o r >>= fun _=>pure r) Q E s₃) E s₂:=by
  rw [hs o i]
  exact wpAny_operating (bR h₂ (fun r s₃ h₃=>a6 (wpAny_letTemporaryGo (ae h₃))) fun _ _ x=>x)
 first
  |exact ae (a6 fin)
  |exact a6 (ae (a6 fin))
  |exact a6 fin
theorem yR {X:Cx}{pins:List (aa×Obj)}{σ:St}{H:Hp}{s:a9}{a:aa}{y:V}{o:Option V} (I:bf X pins σ H s) (g:A_ H a y o):s.TypeIs (.ref a) "dict":=by
 rcases g with ⟨kvs,k,e,_,_⟩|⟨kvs,k,b,e,_,_,_⟩
 ·obtain ⟨_,_,vs,_,dd⟩:=Ca I.hok e
  exact dd.typeIs
 ·obtain ⟨_,_,xs,_,dd⟩:=Cb I.hok e
  exact dd.typeIs
def OG (td ty:TE):TE:=fun σ H Q=>td σ H fun x H1=>ty σ H1 fun y H2=>∃ a v,x=.ref a/\A_ H2 a y (some v)/\Q v H2
def Lo (td ty tv:TE):TS:=fun D σ H=>tv σ H fun v H1=>td σ H1 fun x H2=>ty σ H2 fun y H3=>∃ a H4,x=.ref a/\FF H3 a y v H4/\D.nx σ H4
section
variable {X:Cx}{o i e value:aO}{pos pos' tpos:Pos}{td ty tv:TE}
theorem Jz (hu:X.A.units+1<oq) (ho:PE X o td) (hi:PE X i ty) (hs:OF i):PE X (.Subscript o i pos) (OG td ty):=by
 intro pins s σ H Q I h
 refine Jy PySem.F.slot_dict_getitem.lookup hs (eD (ho pins s σ H _ I h) fun u s1 ⟨x,H1,I1,rx,q1⟩=>eD (hi pins s1 σ H1 _ I1 q1) fun iv s2 ⟨y,H2,I2,ry,a,v,ex,g,q2⟩=>?_)
 subst ex
 obtain rfl:u=bE a:=rx
 exact ⟨yR I2 g,DG hu I2 g ry fun w' s3 I3 rw'=>⟨v,H2,I3,rw',q2⟩⟩
theorem JA (hu:X.A.units+1<oq) (ho:PE X o td) (hi:PE X i ty) (hv:PE X value tv) (hs:gE value (some (.Subscript o i pos')) pos.line X.env=pure false) :
  PS X (.Assign [.Subscript o i pos'] value pos) (Lo td ty tv):=by
 intro pins s σ H D I h
 refine wpAny_Assign_Subscript (eD (hv pins s σ H _ I h) fun r s1 ⟨v,H1,I1,rv,q1⟩=>eD (ho pins s1 σ H1 _ I1 q1) fun u s2 ⟨x,H2,I2,rx,q2⟩=>eD (hi pins s2 σ H2 _ I2 q2) fun iv s3 ⟨y,H3,I3,ry,a,H4,ex,g,q3⟩=>?_) hs
 subst ex
 obtain rfl:u=bE a:=rx
 exact DH hu I3 g ry rv fun s4 I4=>⟨σ,H4,I4,q3⟩
end
theorem FG {P:aI}{w:aW}{H:Hp} (h:bc) (hb:fR<h.objs.size):cC P w H (h.push { cls:=.type "dict",data:=.dict #[] }) h.objs.size (.dK []) :=
 ⟨bV _,beq_eq_false_iff_ne.mpr (dU (aF hb)),[],.nil,Heap.DictOf.new h⟩
def Nb:TE:=fun _ H Q=>∀ p,H p=none->Q (.ref p) (upd H p (.dK []))
section
variable {X:Cx}{pos:Pos}
theorem FH:PE X (.Dict [] [] pos) Nb:=fun pins s σ H Q I h =>
 wpAny_Dict_empty ⟨.ref s.heap.objs.size,_,I.laid (a:=s.heap.objs.size) (o:=.dK []) (t':=s.toks) (fun _ _ q=>a8 _ q) (ao _) (FG s.heap I.big),rfl,h _ (I.hok.fresh (ao _))⟩
end
section
variable {X:Cx}{pins:List (aa×Obj)}{σ:St}{H:Hp}{s:a9}{a:aa}{y d:V}{u r:a7}{o:Option V}{A:aV}{E:a7->a9->Prop}
end
section
variable {X:Cx}{o e f:aO}{apos cpos:Pos}{td ty tx:TE}
end
section
variable {X:Cx}{pins:List (aa×Obj)}{σ:St}{H:Hp}{s:a9}{a:aa}{kvs:List (fe×V)}{A:aV}{E:a7->a9->Prop}
end
section
variable {X:Cx}{pins:List (aa×Obj)}{σ:St}{H:Hp}{s:a9}{a:aa}{y:V}{u:a7}{A:aV}{E:a7->a9->Prop}
end
end L2
namespace L2
open PySem PySem.Spec PyProof.Rows
section
variable {X:Cx}
end
section
variable {κ:Type} [DecidableEq κ]
theorem Cd:∀ {l:List κ}{k:κ},l.Nodup->¬ k∈l->(l++[k]).Nodup
 |[],k,_,_=>by simp
 |a::r,k,h,hk=>by
  obtain ⟨h1,h2⟩:=List.nodup_cons.mp h
  show (a::(r++[k])).Nodup
  refine List.nodup_cons.mpr ⟨fun m=>?_,Cd h2 fun m=>hk (List.mem_cons.mpr (da m))⟩
  rcases List.mem_append.mp m with q|q
  ·exact h1 q
  ·exact hk (List.mem_cons.mpr (eP (List.mem_singleton.mp q).symm))
end
end L2
end
namespace L2
open PySem PySem.Spec PyProof.Rows
section
section
end
theorem B0 (names : List (Str × jj)) : ∀ (cs : List (Str × aa)), (∀ y ∈ names, y.2 = .free -> ∃ c, env.cells.lookup y.1 = some c) ->
    (∀ x c, cs.lookup x = some c -> env.cells.lookup x = some c) ->
    ∃ cl, (forIn names cs fun (x : Str × jj) (cs : List (Str × aa)) => match x with
        | (name, kind) => if (kind == bI) = true then do let a <- cellOf env name; pure (gJ ((name, a) :: cs)) else pure (gJ cs) : Sem (List (Str × aa))) = pure cl /\
      (∀ x c, cl.lookup x = some c -> env.cells.lookup x = some c) /\ (∀ y ∈ names, y.2 = .free -> ∃ c, cl.lookup y.1 = some c) /\ (∀ x c, cs.lookup x = some c -> ∃ c', cl.lookup x = some c') := by
  induction names with
  | nil => intro cs _ h2; exact ⟨cs, rfl, h2, fun _ h => absurd h (by simp), fun x c h => ⟨c, h⟩⟩
  | cons nk r ih =>
    obtain ⟨n, k⟩ := nk;intro cs h1 h2;by_cases hk : k = .free
    · subst hk;obtain ⟨a, ha⟩ := h1 (n, .free) av rfl;have h2' : ∀ x c, ((n, a) :: cs).lookup x = some c -> env.cells.lookup x = some c := fun x c h => by
        rw [cg] at h;cases e : x == n with
        | true => rw [e] at h; have : x = n := by simpa using e
                  subst this; cases h; exact ha
        | false => rw [e] at h; exact h2 x c h
      obtain ⟨cl, e1, e2, e3, e4⟩ := ih ((n, a) :: cs) (fun y hy => h1 y (am _ hy)) h2';refine ⟨cl, ?_, e2, fun y hy hf => ?_, fun x c h => ?_⟩
      · rw [mV];have hc : cellOf env n = pure a := by unfold cellOf; rw [ha]
        simp only [beq_self_eq_true, if_true, hc];exact e1
      · rcases List.mem_cons.mp hy with rfl | hy
        · exact e4 n a (by simp)
        · exact e3 y hy hf
      · cases e : x == n with
        | true => exact e4 x a (by rw [cg, e])
        | false => exact e4 x c (by rw [cg, e]; exact h)
    · obtain ⟨cl, e1, e2, e3, e4⟩ := ih cs (fun y hy => h1 y (am _ hy)) h2;refine ⟨cl, ?_, e2, fun y hy hf => ?_, e4⟩
      · rw [mV];have hk' : (k == bI) = false := by simpa using hk
        simp only [hk', bw, if_false];exact e1
      · rcases List.mem_cons.mp hy with rfl | hy
        · exact absurd hf hk
        · exact e3 y hy hf
theorem oW  (h:∀ y∈scope.names,y.2=.free->∃ c,env.cells.lookup y.1=some c):∃ cl,closureFor scope env=pure cl /\
  (∀ x c,cl.lookup x=some c->env.cells.lookup x=some c)/\(∀ y∈scope.names,y.2=.free->∃ c,cl.lookup y.1=some c):=by
 obtain ⟨cl,e1,e2,e3,_⟩:=B0 (env:=env) scope.names [] h (fun x c h=>by simp at h);refine ⟨cl,?_,e2,e3⟩;simp only [closureFor];rw [show (forIn scope.names ([] : List (Str×aa)) fun x r=>_)=(pure cl:Sem (List (Str×aa))) from e1];rfl
end
section
def cQ (X:Cx) (N':List Str) (scope:dO) (cl:List (Str×aa)) (C:aa) (s₀:a9) (H₀:Hp) (ex:List aa) (pn:List (aa×Obj)):Cx :=
 { X with N:=N',s₀:=s₀,H₀:=H₀,env:=compEnvC scope cl C X.env,outer:=X.stack,stack:=X.stack,ex:=ex,fn:=fun y=>scope.names.lookup y==some .cell,pn:=pn,xe:=fun _ _=>False }
def JC (X:Cx) (ifs:List aO) (t:TT):Prop :=
 ∀ (pins:List (aa×Obj)) (s:a9) (σ:St) (H:Hp) (Q:Bool->Hp->Prop),bf X pins σ H s->t σ H Q ->
  aj (aA X.prog X.w) X.A (forIn ifs true fun c r=>if r=true then do let ok <- tT c X.env (bQ c X.env);pure (gJ ok) else pure (gJ r)) (TP X pins σ Q) X.xe s
def R1:TT:=fun _ H Q=>Q true H
theorem JD:JC X [] R1:=fun pins s σ H Q I h=>wpAny_tests_nil ⟨H,I,h⟩
theorem JF   (h:PT X c t):JC X [c] t:=fun pins s σ H Q I hw=>wpAny_tests_one (h pins s σ H Q I hw)
structure lO (X:Cx) (scope:dO) (N':List Str) (nt:Nat) (ix:List Nat):Prop where
 kind:scope.kind=.function
 cel:∀ y∈scope.names,y.2=.cell->scope.names.lookup y.1=some .cell
 loc:∀ y∈scope.names,y.2=.local->scope.names.lookup y.1=some .local
 free:∀ y∈scope.names,y.2=.free->X.env.scope.names.lookup y.1=some .cell\/X.env.scope.names.lookup y.1=some .free
 cap:∀ k i,ix[k]?=some i->∃ x,X.N[i]?=some x/\N'[nt+k]?=some x/\scope.names.lookup x=some .free
 len:N'.length=nt+ix.length
def jJ (nt:Nat) (ix:List Nat) (σ:St):St:=kc nt none++ix.map fun i=>(σ[i]?).join
theorem oz {env:Env}{x:Str}{names:List (Str×jj)}:names.lookup x=some .free ->
  (names.map fun (n,k)=>if (k==bI&&env.scope.kind == .function&&env.kindOf n==some .cell) then (n,cS) else (n,k)).lookup x=some .free \/
  (names.map fun (n,k)=>if (k==bI&&env.scope.kind == .function&&env.kindOf n==some .cell) then (n,cS) else (n,k)).lookup x=some .cell:=by
 induction names with
 |nil=>intro h;simp at h
 |cons nk r ih =>
  obtain ⟨n,k⟩:=nk;intro h;show tZ x ((if (k==bI&&env.scope.kind == .function&&env.kindOf n==some .cell)=true then (n,cS) else (n,k))::_)=_ \/
   tZ x ((if (k==bI&&env.scope.kind == .function&&env.kindOf n==some .cell)=true then (n,cS) else (n,k))::_)=_
  cases hx:x==n with
  |true =>
   simp only [cg,hx] at h;cases h;by_cases hc:(bI==bI&&env.scope.kind == .function&&env.kindOf n==some .cell)=true
   ·rw [if_pos hc];right;simp [cg,hx]
   ·rw [if_neg hc];left;simp [cg,hx]
  |false =>
   simp only [cg,hx] at h;by_cases hc:(k==bI&&env.scope.kind == .function&&env.kindOf n==some .cell)=true
   ·rw [if_pos hc];simp only [cg,hx];exact ih h
   ·rw [if_neg hc];simp only [cg,hx];exact ih h
theorem qc {env:Env}{x:Str}{names:List (Str×jj)} :
  ((names.map fun (n,k)=>if (k==bI&&env.scope.kind == .function&&env.kindOf n==some .cell) then (n,cS) else (n,k)).lookup x=some .free \/
  (names.map fun (n,k)=>if (k==bI&&env.scope.kind == .function&&env.kindOf n==some .cell) then (n,cS) else (n,k)).lookup x=some .cell) ->
  (x,bI)∈names\/(x,cS)∈names:=by
 induction names with
 |nil=>intro h;simp at h
 |cons nk r ih =>
  obtain ⟨n,k⟩:=nk;intro h;have h:tZ x ((if (k==bI&&env.scope.kind == .function&&env.kindOf n==some .cell)=true then (n,cS) else (n,k))::_)=_ \/
   tZ x ((if (k==bI&&env.scope.kind == .function&&env.kindOf n==some .cell)=true then (n,cS) else (n,k))::_)=_:=h
  cases hx:x==n with
  |true =>
   have e:x=n:=by simpa using hx
   subst e;by_cases hc:(k==bI&&env.scope.kind == .function&&env.kindOf x==some .cell)=true
   ·have:k=.free:=by simp at hc;exact hc.1.1
    subst this;left;exact av
   ·rw [if_neg hc] at h;simp only [cg,hx] at h;rcases h with h|h
    ·cases h;left;exact av
    ·cases h;right;exact av
  |false =>
   have h':=ih (by
    by_cases hc:(k==bI&&env.scope.kind == .function&&env.kindOf n==some .cell)=true
    ·rw [if_pos hc] at h;simp only [cg,hx] at h;exact h
    ·rw [if_neg hc] at h;simp only [cg,hx] at h;exact h)
   rcases h' with h' | h'
   ·left;exact am _ h'
   ·right;exact am _ h'
inductive Lp (nt:Nat) (ix:List Nat) (g:TG) (tt:TT) (te:TE) (σ:St) (Q:VK) (J:It) (H1:Hp):Prop
 |mk (W:Nat->Nat->List V->Hp->Prop) (w0:∃ m,W 0 m [] H1) (turn:∀ i m acc H,W i m acc H ->
 (J.stop i H/\∀ p,H p=none->Q (.ref p) (upd H p (.lst acc))) \/
 (J.go i H/\acc.length<sizeLine/\∀ x H',J.yld i H x H'->g x (jJ nt ix σ) H' fun σ2 H2=>tt σ2 H2 fun b H3 =>
  if b=true then te σ2 H3 fun y H4=>∃ m',m'<m/\W (i+1) m' (acc++[y]) H4 else ∃ m',m'<m/\W (i+1) m' acc H3)):Lp nt ix g tt te σ Q J H1
def FI (nt:Nat) (ix:List Nat) (wi:TI) (g:TG) (tt:TT) (te:TE):TE:=fun σ H Q=>wi σ H (Lp nt ix g tt te σ Q)
theorem gN:∀ (names:List (Str×jj)) (n:Nat) (acc:List (Str×aa)),bq n names acc=bq n names []++acc
 |[],_,_=>rfl
 |(y,k)::r,n,acc=>by
  unfold bq;split
  ·rw [gN r (n+1) ((y,n)::acc),gN r (n+1) [(y,n)],se];rfl
  ·exact gN r n acc
theorem kW  : ∀ (names:List (Str×jj)) (n:Nat) (acc:List (Str×aa)),(x,c)∈bq n names acc->(x,cS)∈names\/(x,c)∈acc
 |[],_,_,h=>.inr h
 |(y,k)::r,n,acc,h=>by
  unfold bq at h;split at h
  ·rename_i hk
   have hk:k=.cell:=by simpa using hk
   rcases kW r _ _ h with z|z
   ·exact .inl (am _ z)
   ·rcases List.mem_cons.mp z with z|z
    ·cases z;subst hk;exact .inl av
    ·exact .inr z
  ·exact (kW r _ _ h).imp (am _) id
theorem jK     (h:(bq n names cl).lookup x=some c) :
  (x,c)∈bq n names []\/((bq n names []).lookup x=none/\cl.lookup x=some c):=by
 rw [gN,EK] at h;cases e:(bq n names []).lookup x with
 |some d=>rw [e] at h;cases h;exact .inl (cE e)
 |none=>rw [e] at h;exact .inr ⟨rfl,h⟩
theorem JH {M:IP}{A:aV}{E:a7->a9->Prop}{s:a9}{scope:dO}{globals:aa}{cl:List (Str×aa)}{qual:Str}{func:Option aa}{code:a7}{outer:Env}{builtins:aa}{Q:Env->a9->Prop}
  (hQ:∀ h₁,h₁=pushCells (s.heap.push { cls:=.type "dict",data:=.dict #[] }) scope.names->Q (newEnv scope s.heap.objs.size globals (bq (s.heap.objs.size+1) scope.names cl) qual func code (some outer) builtins) { s with heap:=h₁ }) :
  aj M A (Az scope globals cl [] qual func code (some outer) builtins) Q E s:=by
 simp only [Az,pE,if_true];refine a6 (IU ?_);refine a6 (wpAny_layCells _ (fun name kind cells=>by cases hkc:kind==cS<;>simp [hkc]) _ _ _ _ ?_);rw [show ({ s with heap:=s.heap.push { cls:=.type "dict",data:=.dict #[] } }:a9).heap.objs.size=s.heap.objs.size+1 from bY ..];refine a6 ?_;rw [v_];exact ae (ae (hQ _ rfl))
theorem DI (h:bc) (names:List (Str×jj)):CellsOk (pushCells (h.push { cls:=.type "dict",data:=.dict #[] }) names) (h.objs.size+1) (bq (h.objs.size+1) names []):=by
 have ok:=cellsFrom_ok names (h.push { cls:=.type "dict",data:=.dict #[] }) (h.objs.size+1) [] ⟨fun _ _ hm=>(nomatch hm),vZ⟩ (by rw [bY];exact ao _);rw [bY] at ok;exact ok
section
theorem FJ {scope:dO}{N':List Str}{nt:Nat}{ix:List Nat}{cl:List (Str×aa)}{C:aa}{fp:List aa}{h₁:bc}{t':Nat}{m:Str->Option a7}
  (S:lO X scope N' nt ix) (I:bf X pins σ H s) (c1:∀ x c,cl.lookup x=some c->X.env.cells.lookup x=some c) (c2:∀ y∈scope.names,y.2=.free->∃ c,cl.lookup y.1=some c)
  (hf:∀ b∈fp,pV X pins H b) (ff:∀ b∈fp,b<s.heap.objs.size) (hC:s.heap.objs.size<=C) (hns:h₁.Ns C m) (old:∀ b o,s.heap.get? b=some o->h₁.get? b=some o) (ok:CellsOk h₁ (C+1) (bq (C+1) scope.names [])) :
  bf (cQ X N' scope (bq (C+1) scope.names cl) C s H fp (X.pn++pins)) [] (jJ nt ix σ) H { s with heap:=h₁,toks:=t' }:=by
 have cellOld:∀ {c v},s.heap.IsCell c v->h₁.IsCell c v:=fun {c v} ⟨o,ho,hd⟩=>⟨o,old _ _ ho,hd⟩;have up:∀ {x c},(x,c)∈bq (C+1) scope.names []->s.heap.objs.size<c:=fun {x c} h=>az (ID hC) (ok.empty x c h).2;have low:∀ {x c},cl.lookup x=some c->c<s.heap.objs.size:=fun {x c} h=>by
  obtain ⟨v,q⟩:=I.cell x c (c1 x c h);exact q.lt
 refine ⟨⟨I.ok.mod,S.kind,I.ok.glob,I.ok.blt,hC,fun x y c h1 h2=>?_,fun x hx=>?_,fun x c h h2=>?_,I.ok.hd,I.ok.frames,.inl rfl,fun b hb=>⟨?_,fun x c h=>?_⟩,I.bs,a_ I.ok.bsz I.sz,fun b o h hb=>?_,fun b hb z=>?_,I.stack,I.stkFree⟩,
  rfl,I.bare,Un.kept old,⟨m,hns,fun i x v h1 h2 h3=>?_⟩,fun x c h=>?_,I.hok.fresh hC,fun x c h=>?_,fun p hp=>?_,I.hok.kept old,?_⟩
 ·rcases jK h1 with a|⟨_,a⟩<;>rcases jK h2 with b|⟨_,b⟩
  ·exact name_of_addr ok.apart a b
  ·exact absurd (up a) (AA (low b))
  ·exact absurd (up b) (AA (low a))
  ·exact I.ok.inj x y c (c1 x c a) (c1 y c b)
 ·have hx':(x,bI)∈scope.names\/(x,cS)∈scope.names:=qc (env:=X.env) (hx.elim .inr .inl);have hs:((bq (C+1) scope.names cl).lookup x).isSome=true:=by
   rcases hx' with z|z
   ·obtain ⟨c,e⟩:=c2 _ z rfl;exact dW _ _ _ (.inr (by rw [e];rfl))
   ·exact dW _ _ _ (.inl (S.cel _ z rfl))
  exact Option.isSome_iff_exists.mp hs
 ·rcases jK h2 with a|⟨a,_⟩
  ·exact bd (up a)
  ·have:=dW (x:=x) scope.names (C+1) [] (.inl (by simpa [cQ] using h));rw [a] at this;cases this
 ·exact aF (az (ff b hb) hC)
 ·rcases jK h with a|⟨_,a⟩
  ·exact fA (Nat.lt_trans (ff b hb) (up a))
  ·exact (hf b hb).f4 x c (c1 x c a)
 ·rcases (hf b hb).f3 with z|z
  ·exact I.ok.noex b o h z
  ·exact absurd (az (ai h) (a_ I.ok.bsz z)) (cx _)
 ·rcases List.mem_cons.mp (I.stkSub b z) with e|e
  ·exact (hf b hb).f1 e
  ·exact (hf b hb).f2 e
 ·have hnt:nt<=i:=by
   refine IT fun hlt=>?_;have h2':(jJ nt ix σ)[i]?=some (some v):=h2;unfold jJ at h2';rw [bx (by simpa using hlt),bu,if_pos hlt] at h2';cases h2'
  have h2':(jJ nt ix σ)[i]?=some (some v):=h2;unfold jJ at h2';rw [aX (by simpa using hnt),cm,aE] at h2';cases e:ix[i-nt]? with
  |none=>rw [e] at h2';cases h2'
  |some j =>
   rw [e] at h2';have hj:σ[j]?=some (some v):=by
    have q:(σ[j]?).join=some v:=bh h2';cases e3:σ[j]? with
    |none=>rw [e3] at q;cases q
    |some o=>rw [e3] at q;cases o with
     |none=>cases q
     |some v'=>cases q;rfl
   obtain ⟨x',n1,n2,fr⟩:=S.cap _ _ e;rw [Nat.add_sub_cancel' hnt] at n2;have h1':N'[i]?=some x:=h1;rw [h1'] at n2;cases n2;obtain ⟨mm,hn,hl⟩:=I.loc;have hfree:=S.free (x,.free) (cE fr) rfl;obtain ⟨u,r,l⟩:=hl j x v n1 hj (hfree.elim (fun z=>.inr (.inl z)) fun z=>.inr (.inr z));refine ⟨u,r,?_⟩;rcases l with ⟨k,_⟩|⟨k,c,hc,hcell⟩
   ·have k:X.env.scope.names.lookup x=some .local:=k;rcases hfree with z|z<;>(rw [z] at k;cases k)
   ·obtain ⟨c',hc'⟩:=c2 _ (cE fr) rfl;have:=c1 x c' hc';rw [hc] at this;cases this;have hno:(bq (C+1) scope.names []).lookup x=none:=by
     cases e:(bq (C+1) scope.names []).lookup x with
     |none=>rfl
     |some d =>
      rcases kW _ _ _ (cE e) with z|z
      ·have q:=S.cel _ z rfl;rw [fr] at q;cases q
      ·cases z
    refine .inr ⟨?_,c,by show (bq (C+1) scope.names cl).lookup x=some c;rw [gN,EK,hno];exact hc',cellOld hcell⟩;rcases oz (env:=X.env) fr with z|z
    ·exact .inr z
    ·exact .inl z
 ·rcases jK h with a|⟨_,a⟩
  ·exact ⟨none,(ok.empty x c a).1⟩
  ·obtain ⟨v,q⟩:=I.cell x c (c1 x c a);exact ⟨v,cellOld q⟩
 ·rcases jK h with a|⟨_,a⟩
  ·exact I.hok.fresh (bd (up a))
  ·exact I.freeC x c (c1 x c a)
 ·have hp:p∈X.pn++pins:=(List.mem_append.mp hp).elim id fun z=>absurd z (by simp);obtain ⟨e,n,ne,nf,d⟩:=I.pin p hp;refine ⟨old _ _ e,n,aF (az (ai e) hC),fun z=>?_,d⟩;rcases List.mem_cons.mp (I.stkSub p.1 z) with e|e
  ·exact ne e
  ·exact nf e
 ·show (jJ nt ix σ).length=N'.length;rw [S.len];simp [jJ]
end
end
section
theorem Un.grow   (u:Un fs ex H H1 h h1)  (sb:bU C h1 h2) (hC:h.objs.size<=C) (hD:h.objs.size<=D) (hn:H1 D=none):Un fs ex H (upd H1 D o) h h2 where
 keep:=fun b ob q n hb hx=>(sb.2 b (aF (az (ai q) hC))).trans (u.keep b ob q n hb hx)
 slot:=fun b ob q n hb hx=>by
  obtain ⟨sl,e⟩:=u.slot b ob q n hb hx;exact ⟨sl,(sb.2 b (aF (az (ai q) hC))).trans e⟩
 free:=fun b ob q n hx=>by rw [aJ (aF (az (ai q) hD))];exact u.free b ob q n hx
 there:=fun b ob q hx=>by
  obtain ⟨o',e⟩:=u.there b ob q hx;exact ⟨o',(sb.2 b (aF (az (ai q) hC))).trans e⟩
 tups:=fun b xs q=>by have z:=u.tups b xs q;rw [aJ (aS z hn)];exact z
 frzs:=fun b ob xs q=>by have z:=u.frzs b ob xs q;rw [aJ (aS z hn)];exact z
 tbls:=fun b ps q=>by
  obtain ⟨m,z⟩:=u.tbls b ps q;exact ⟨m,by rw [aJ (aS z hn)];exact z⟩
theorem yS     (k:mT P w H h) (hC:H C=none) (sb:bU C h h'):mT P w H h':=fun b ob e=>by
 refine (k b ob e).stay (fun c w' hc q=>(sb.2 c ?_).trans q) (fun _ q=>q) fun _ _ q=>q;rintro rfl;rcases hc with rfl|hc
 ·rw [hC] at e;cases e
 ·rw [hC] at hc;cases hc
theorem rn      (k:mT P w H h) (hD:H D=none) (new:cC P w (upd H D o) h D o):mT P w (upd H D o) h:=fun b ob e=>by
 by_cases hb:b=D
 ·subst hb;rw [aK] at e;cases e;exact new
 ·rw [aJ hb] at e;exact (k b ob e).stay (fun c w' hc q=>q) (fun c q=>by rw [aJ (aS q hD)];exact q) fun c x q=>by rw [aJ (aS q hD)];exact q
theorem nf {M:IP}{A:aV}{α:Type}{t:Sem α}{Q:α->a9->Prop}{E':a7->a9->Prop}{s:a9} (h:aj M A t Q (fun _ _=>False) s):aj M A t Q E' s :=
 bR h (fun _ _ q=>q) fun _ _ f=>f.elim
theorem bf.pin1      (I:bf X [] σ H s) (e:s.heap.get? D=some o) (n:H D=none) (ne:D≠X.env.locals) (nf:D∉X.fs) (d:∀ v,o.data≠.cell v):bf X [(D,o)] σ H s :=
 I.pins_of fun p hp=>by
  have:p=(D,o):=by simpa using hp
  subst this;exact ⟨e,n,ne,nf,d⟩
def Nc (nt:Nat) (g:TG):Prop:=∀ x σ0 H (Q:St->Hp->Prop),g x σ0 H Q->g x σ0 H (fun σ2 H2=>Q σ2 H2/\σ2.length=σ0.length/\∀ j,nt<=j->σ2[j]?=σ0[j]?)
theorem FK (h:i<nt):Nc nt (sj i):=fun x σ0 H Q q=>⟨q,by simp,fun j hj=>ag (by omega)⟩
theorem JJ {nt i k n:Nat}{K:a5} (h:i<nt) (h':k<nt):Nc nt (MO K n (af (sj i) (af (sj k) aQ))):=by
 rintro x σ0 H Q ⟨a,xs,rfl,sq,hl,v,r,rfl,v',r',rfl,rfl,q⟩;exact ⟨a,_,rfl,sq,hl,v,_,rfl,v',_,rfl,rfl,q,by simp,fun j hj=>by rw [ag (by omega),ag (by omega)]⟩
theorem bf.swap {X:Cx}{pl:List (aa×Obj)}{σ:St}{H:Hp}{s:a9}{D:aa}{o o':Obj}{h':bc} (I:bf X ((D,o)::pl) σ H s) (sb:bU D s.heap h') (e':h'.get? D=some o') (nd:∀ v,o'.data≠.cell v) (h1:D∈X.ex\/X.s₀.heap.objs.size<=D) (h2:∀ x c,X.env.cells.lookup x=some c->c≠D) (h3:∀ p∈X.pn++pl,p.1≠D):bf X ((D,o')::pl) σ H { s with heap:=h' }:=by
 obtain ⟨pD,pN,pL,pF,_⟩:=I.pin (D,o) (aM _ av)
 have I1:bf X pl σ H s:=I.pins_of fun p hp=>I.pin p (aM _ (am _ hp))
 have I2:bf X pl σ H { s with heap:=h',toks:=s.toks }:=I1.turned (it:=D) (fun b o hb e=>sb.extBut b o hb e) pN pL h1 h2 h3
 refine I2.pins_of fun p hp=>?_
 rcases b9.1 hp with z|hp
 ·rw [z];exact ⟨e',pN,pL,pF,nd⟩
 ·exact I2.pin p (aM _ hp)
abbrev OH (its:List a7) (nn:Nat):Obj:={ cls:=.type "list",data:=.seq its.toArray nn }
inductive RE (X:Cx) {α:Type} (P:aa->Obj->α->Prop) (pins:List (aa×Obj)) (N':List Str) (scope:dO) (cl:List (Str×aa)) (C:aa) (s2:a9) (H2:Hp) (fp:List aa) (nt:Nat) (ix:List Nat) (σ:St) (tn:Nat->bc->Prop) (W:Nat->Nat->α->Hp->Prop) (n:Nat) (s':a9):Prop
 |mk (i:Nat) (acc:α) (oD:Obj) (H':Hp) (I:bf (cQ X N' scope cl C s2 H2 fp (X.pn++pins)) [(s2.heap.objs.size,oD)] (jJ nt ix σ) H' s') (S:P s2.heap.objs.size oD acc) (t:tn i s'.heap) (f:∀ b∈fp,H' b=none) (w:W i n acc H'):RE X P pins N' scope cl C s2 H2 fp nt ix σ tn W n s'
def Lq (X:Cx) (e0 tg:aO) (ifs:List aO) (it:aa) (d:Nat) (Bd:Env->aa->(a9->Prop)->a9->Prop):Prop :=
 ∀ (env:Env) (D:aa) (R:Aq->a9->Prop) (I:Nat->a9->Prop),(∀ n s,I n s->aj (aA X.prog X.w) X.A (oP (.ref it)) (fun r s₁=>match r with
   |none=>R (.ok .next) s₁
   |some v=>aj (aA X.prog X.w) X.A (gy tg (.ref it) v) (fun _ s₁'=>aj (aA X.prog X.w) X.A (lJ tg env v) (fun _ s₂ =>
     aj (aA X.prog X.w) X.A (forIn ifs true fun c r=>if r=true then do let ok <- tT c env (bQ c env);pure (gJ ok) else pure (gJ r)) (fun ok s₃ =>
      if ok=true then Bd env D (fun s₅=>∃ m,m<n/\I m s₅) s₃ else ∃ m,m<n/\I m s₃) (fun _ _=>False) s₂) (fun _ _=>False) s₁') (fun _ _=>False) s₁) (fun _ _=>False) s) ->
  ∀ n s,I n s->fU (aA X.prog X.w) X.A (.compLoop e0 d (.ref it) (.ref D) env) R s
theorem Lr {X:Cx}{e0 tg iter:aO}{ifs:List aO}{d:Nat}{Bd:Env->aa->(a9->Prop)->a9->Prop}{it:aa}{Kt:Env->aa->Bool->Sem Fin}
  (hT:∀ env D,compTurn e0 d (.ref it) (.ref D) env=(do
   r_ iter.pos
   match <- oP (.ref it) with
   |none=>pure (.done .next)
   |some v =>
    gy tg (.ref it) v
    lJ tg env v
    let mut ok:=true
    for c in ifs do
     if ok then ok <- tT c env (bQ c env)
    Kt env D ok))
  (ht:∀ env D K s,Bd env D K s->aj (aA X.prog X.w) X.A (Kt env D true) (fun f s5=>f=.again (.compLoop e0 d (.ref it) (.ref D) env)/\K s5) (fun _ _=>False) s)
  (hf:∀ env D,Kt env D false=pure (.again (.compLoop e0 d (.ref it) (.ref D) env)):=by intros;rfl) (hA:∀ env D,X.A.under (.compLoop e0 d (.ref it) (.ref D) env)=X.A:=by intros;rfl)
  (hD:∀ env D,(aA X.prog X.w).den (.compLoop e0 d (.ref it) (.ref D) env)=(compTurn e0 d (.ref it) (.ref D) env).onRaise (fun x=>do EL x env;theTreesLotGoes x):=by intros;rfl):Lq X e0 tg ifs it d Bd:=by
 intro env D R I turn n s h
 refine codeAny_loop rfl I (fun n s hI=>?_) n h
 rw [hA,hD]
 refine wpAny_noted ?_
 rw [hT]
 refine a6 (jZ (a6 (nf (bR (turn n s hI) (fun r s₁ h₁=>?_) fun _ _ h'=>h'))))
 cases r with
 |none=>exact ae h₁
 |some v =>
  refine a6 (nf (bR h₁ (fun _ s₁' h₁'=>?_) fun _ _ h'=>h'))
  refine a6 (nf (bR h₁' (fun _ s₂ h₂=>a6 (nf (bR h₂ (fun ok s₃ h₃=>?_) fun _ _ h'=>h'))) fun _ _ h'=>h'))
  cases ok with
  |false=>rw [hf];exact ae ⟨rfl,h₃⟩
  |true =>
   refine nf (bR (ht _ _ _ _ h₃) (fun f s₅ h₅=>?_) fun _ _ h'=>h')
   obtain ⟨e,h₅⟩:=h₅
   subst e
   exact ⟨rfl,h₅⟩
def FL (X:Cx) {α:Type} (N':List Str) (scope:dO) (M:St->Prop) (P:aa->Obj->α->Prop) (L:α->Prop) (U:St->Hp->α->Nat->(Nat->α->Hp->Prop)->Prop) (Bd:Env->aa->(a9->Prop)->a9->Prop):Prop :=
 ∀ cl C s₀ H₀ ex pn (D:aa) (pl:List (aa×Obj)) (o:Obj) (acc:α) (σ:St) (H:Hp) (s:a9) (K:a9->Prop) (m:Nat) (V:Nat->α->Hp->Prop),(D∈ex\/s₀.heap.objs.size<=D)->(∀ x c,cl.lookup x=some c->c≠D)->(∀ p∈pn++pl,p.1≠D)->M σ->L acc->P D o acc ->
  bf (cQ X N' scope cl C s₀ H₀ ex pn) ((D,o)::pl) σ H s->U σ H acc m V->(∀ acc' o' H8 s8 m',bf (cQ X N' scope cl C s₀ H₀ ex pn) ((D,o')::pl) σ H8 s8->P D o' acc'->m'<m->V m' acc' H8->K s8)->Bd (cQ X N' scope cl C s₀ H₀ ex pn).env D K s
inductive JK (X:Cx) (N':List Str) (scope:dO) (nt nc:Nat) (ix:List Nat) (e0 tg:aO) (ifs:List aO) (newA:Sem a7) {α:Type} (O:aa->α->HO) (a0:α) (L:α->Prop) (U:St->Hp->α->Nat->(Nat->α->Hp->Prop)->Prop):Prop
 |mk (P:aa->Obj->α->Prop) (o0:Obj) (Bd:aa->Env->aa->(a9->Prop)->a9->Prop) (M:St->Prop) (nd:∀ {D o acc},P D o acc->∀ v,o.data≠.cell v) (of:o0.isFreed=false) (p0:∀ D,P D o0 a0)
  (tr:∀ {H h D o acc},fR<D->P D o acc->h.get? D=some o->cC X.prog X.w H h D (O D acc))
  (hnew:∀ {E s2}{Q:a7->a9->Prop},Q (.ref s2.heap.objs.size) { s2 with heap:=s2.heap.push o0 }->aj (aA X.prog X.w) X.A newA Q E s2) (loopX:∀ it,Lq X e0 tg ifs it 0 (Bd it))
  (hst:∀ {it acc env R s},fU (aA X.prog X.w) X.A (.compLoop e0 0 (.ref it) acc env) R s->aj (aA X.prog X.w) X.A (tU (.ref it)) (fun it' s'=>fU (aA X.prog X.w) X.A (.compLoop e0 0 it' acc env) R s') (notedBy (aA X.prog X.w) X.A env fun x s'=>R (.error x) s') s->fU (aA X.prog X.w) X.A (.compStart e0 0 (.ref it) acc env) R s)
  (hM:nt<=nc/\∀ σ σ6:St,(∀ j,nt<=j->σ6[j]?=(jJ nc ix σ)[j]?)->M σ6) (hstep:∀ it,FL X N' scope M P L U (Bd it)):JK X N' scope nt nc ix e0 tg ifs newA O a0 L U
theorem B1 {X:Cx}{α:Type}{O:aa->α->HO}{a0:α}{newA:Sem a7}{L:α->Prop}{U:St->Hp->α->Nat->(Nat->α->Hp->Prop)->Prop}{e0 tg:aO}{ifs:List aO}{scope:dO}{g:TG}{tt:TT}{N':List Str}{nt nc:Nat}{ix:List Nat}
  (con:JK X N' scope nt nc ix e0 tg ifs newA O a0 L U) (hc:X.calm=true) (S:lO X scope N' nc ix) (lo:Nc nt g)
  (hb:∀ cl C s₀ H₀ ex pn,PG (cQ X N' scope cl C s₀ H₀ ex pn) tg g/\JC (cQ X N' scope cl C s₀ H₀ ex pn) ifs tt)
  {cl:List (Str×aa)} (c1:∀ x c,cl.lookup x=some c->X.env.cells.lookup x=some c) (c2:∀ y∈scope.names,y.2=.free->∃ c,cl.lookup y.1=some c)
  {pins:List (aa×Obj)}{σ:St}{H2:Hp}{s2:a9}{it:aa}{fp:List aa}{tn:Nat->bc->Prop}{J:It}{Q:VK}{E:a7->a9->Prop}
  (I2:bf X pins σ H2 s2) (T:yH X.prog X.w X.K tg J fp it tn) (st2:tn 0 s2.heap) (f2:∀ b∈fp,pV X pins H2 b)
  {W:Nat->Nat->α->Hp->Prop} (w0:∃ m,W 0 m a0 H2)
  (turn:∀ i m acc H,W i m acc H->(J.stop i H/\∀ p,H p=none->Q (.ref p) (upd H p (O p acc))) \/
   (J.go i H/\L acc/\∀ x H',J.yld i H x H'->g x (jJ nc ix σ) H' fun σ2 H2=>tt σ2 H2 fun b H3 =>
    if b=true then U σ2 H3 acc m (W (i+1)) else ∃ m',m'<m/\W (i+1) m' acc H3))
  {RR:a7->aa->Aq->a9->Prop}
  (hRR:∀ D C m s' (acc:α) H',H' D=none->pV X pins (upd H' D (O D acc)) C->Q (.ref D) (upd H' D (O D acc))->s'.heap.Ns C m->(∀ h',bU C s'.heap h'->bf X pins σ (upd H' D (O D acc)) { s' with heap:=h' })->RR (.ref D) C (.ok .next) s') :
  aj (aA X.prog X.w) X.A newA (fun acc s₃=>aj (aA X.prog X.w) X.A (Az scope X.env.globals cl [] X.env.qual none .none (some X.env)) (fun cenv s₄ =>
   fU (aA X.prog X.w) X.A (.compStart e0 0 (.ref it) acc { cenv with scope:=relabel scope X.env }) (RR acc cenv.locals) s₄) E s₃) E s2:=by
 obtain ⟨P,o0,Bd,M,nd,of,p0,tr,hnew,loopX,hst,⟨hnc,hM⟩,hstep⟩:=con
 refine hnew (JH fun h₁ hh₁=>?_);dsimp only at hh₁ ⊢;generalize hG2:s2.heap.push o0=G2 at hh₁ ⊢;have hC:G2.objs.size=s2.heap.objs.size+1:=by rw [<- hG2,bY]
 have hDC:s2.heap.objs.size≠G2.objs.size:=by rw [hC];exact aF (gL _)
 have hCle:s2.heap.objs.size<=G2.objs.size:=by rw [hC];exact lF _
 have below:∀ b,b<s2.heap.objs.size->b≠G2.objs.size:=fun b hb=>by rw [hC];exact aF (gj hb)
 have kp:∀ b o,G2.get? b=some o->h₁.get? b=some o:=fun b o e=>by rw [hh₁];exact pushCells_keeps _ _ b o (a8 _ e)
 have hns₁:h₁.Ns G2.objs.size (fun _=>none):=by rw [hh₁];exact (Heap.Ns.new G2 (.type "dict")).keeps (pushCells_keeps _ _)
 have ok₁:CellsOk h₁ (G2.objs.size+1) (bq (G2.objs.size+1) scope.names []):=by rw [hh₁];exact DI G2 scope.names
 have cne:∀ x c,(bq (G2.objs.size+1) scope.names cl).lookup x=some c->X.env.cells.lookup x=some c\/s2.heap.objs.size<c:=fun x c e=>by
  rcases jK e with a|⟨_,a⟩
  ·exact .inr (az (ID hCle) (ok₁.empty x c a).2)
  ·exact .inl (c1 x c a)
 have old:∀ b o,s2.heap.get? b=some o->h₁.get? b=some o:=fun b o e=>kp b o (hG2 ▸ a8 _ e);have hacc:h₁.get? s2.heap.objs.size=some o0:=kp _ _ (hG2 ▸ ar _ of);have ff:∀ b∈fp,b<s2.heap.objs.size:=fun b hb=>by
  obtain ⟨o,e,_⟩:=T.obj _ _ st2 b hb;exact ai e
 have I3:bf (cQ X N' scope (bq (G2.objs.size+1) scope.names cl) G2.objs.size s2 H2 fp (X.pn++pins)) [] (jJ nc ix σ) H2 { s2 with heap:=h₁,toks:=s2.toks }:=FJ S I2 c1 c2 f2 ff hCle hns₁ old ok₁;obtain ⟨pg,pt⟩:=hb (bq (G2.objs.size+1) scope.names cl) G2.objs.size s2 H2 fp (X.pn++pins);have hDfs:s2.heap.objs.size∉oH X.stack:=fun z=>by
  rcases List.mem_cons.mp (I2.stkSub _ z) with e|e
  ·exact absurd I2.lt (by rw [<- e];exact cx _)
  ·exact I2.nofs (ao _) e
 have st1:tn 0 h₁:=T.keep _ _ _ st2 fun b _ o e=>old b o e;have hDf:s2.heap.objs.size∉fp:=fun z=>absurd (ff _ z) (cx _);have stat:∀ {H':Hp}{pl:List (aa×Obj)},(∀ p∈pl,p.1∉fp)->(∀ b∈fp,H' b=none)->∀ b∈fp,pV (cQ X N' scope (bq (G2.objs.size+1) scope.names cl) G2.objs.size s2 H2 fp (X.pn++pins)) pl H' b:=fun hpl hn b hb=>by
  obtain ⟨f0,f1,f2',f3,f4,f5⟩:=f2 b hb;refine ⟨hn b hb,below b (ff b hb),fun z=>?_,.inl hb,fun x c e=>(cne x c e).elim (f4 x c) fun q z=>AA q (by rw [z];exact ff b hb),fun p hp z=>?_⟩
  ·rcases List.mem_cons.mp (I2.stkSub _ z) with e|e
   ·exact f1 e
   ·exact f2' e
  ·rcases List.mem_append.mp hp with q|q
   ·exact f5 p q z
   ·exact hpl p q (z ▸ hb)
 obtain ⟨m0,w0⟩:=w0;have loop:fU (aA X.prog X.w) X.A (.compLoop e0 0 (.ref it) (.ref s2.heap.objs.size) (compEnvC scope (bq (G2.objs.size+1) scope.names cl) G2.objs.size X.env))
    (RR (.ref s2.heap.objs.size) G2.objs.size) { s2 with heap:=h₁,toks:=s2.toks }:=by
  refine loopX it _ _ _ (RE X P pins N' scope (bq (G2.objs.size+1) scope.names cl) G2.objs.size s2 H2 fp nc ix σ tn W) ?_ m0 _
   ⟨0,a0,_,H2,I3.pin1 hacc (I2.hok.fresh (ao _)) hDC hDfs (nd (p0 s2.heap.objs.size)),p0 _,st1,fun b hb=>(f2 b hb).1,w0⟩
  rintro n s3 ⟨i,acc,oD,H3,J3,hS3,st3,fr3,w3⟩;have plD:∀ p∈[(s2.heap.objs.size,oD)],p.1∉fp:=fun p hp=>by
   have:p=(s2.heap.objs.size,oD):=by simpa using hp
   rw [this];exact hDf
  rcases turn i n acc H3 w3 with ⟨stop,qn⟩|⟨go,hlt,step⟩
  ·refine eD (T.done (cQ X N' scope (bq (G2.objs.size+1) scope.names cl) G2.objs.size s2 H2 fp (X.pn++pins)) rfl rfl rfl hc i _ s3 _ H3 _ J3 (stat plD fr3) st3 stop) fun r s4 h_0=>?_;obtain ⟨hr,I4⟩:=h_0;subst hr;obtain ⟨pD,pN,_⟩:=I4.pin (s2.heap.objs.size,_) (aM _ (List.mem_singleton.mpr rfl));obtain ⟨mm,hn,_⟩:=I4.loc;have hCn:H3 G2.objs.size=none:=I4.free;refine hRR _ _ mm s4 acc H3 pN (I2.fpOk hCle (by rw [aJ (dU hDC)];exact hCn)) (qn _ pN) hn fun h' sb=>?_;have hu:Un (oH X.stack) fp H2 (upd H3 s2.heap.objs.size (O s2.heap.objs.size acc)) s2.heap h':=Un.grow I4.base sb hCle (ao _) pN;refine I2.call' (s':={ s4 with heap:=h' }) (ch:=fp) I4.os hu ?_ I4.bare fun b hb=>?_
   ·exact rn (yS I4.hok hCn sb) pN (tr I2.big hS3 ((sb.2 _ hDC).trans pD))
   ·obtain ⟨_,f1,_,f3,f4,f5⟩:=f2 b hb;exact ⟨f3,f1,f4,f5⟩
  ·refine eD (T.item (cQ X N' scope (bq (G2.objs.size+1) scope.names cl) G2.objs.size s2 H2 fp (X.pn++pins)) rfl rfl rfl hc i _ s3 _ H3 _ J3 (stat plD fr3) st3 go) fun r s4 h_1=>?_;obtain ⟨u,hr,h4⟩:=h_1;subst hr;refine eD h4 fun _ s5 h_2=>?_;obtain ⟨x,H5,I5,r5,y5,st5,fr5⟩:=h_2;have I5':=I5.pinned (stat plD fr5) (T.obj _ _ st5);refine eD (pg _ s5 _ H5 x u _ I5' r5 (lo _ _ _ _ (step x H5 y5))) fun _ s6 h_3=>?_;obtain ⟨σ6,H6,I6,q6,l6,k6⟩:=h_3;have hw:∀ (j:Nat) v,(jJ nc ix σ)[j]?=some (some v)->σ6[j]?=some (some v):=fun j v e=>by
    by_cases hj:nt<=j
    ·rw [k6 j hj];exact e
    ·unfold jJ at e;rw [bx (by simp;omega),bu,if_pos (by omega)] at e;cases e
   refine eD (pt _ s6 σ6 H6 _ I6 q6) fun b s7 h_4=>?_;obtain ⟨H7,I7,q7⟩:=h_4;have fpk:∀ {s8:a9}{σ8:St}{H8:Hp},bf (cQ X N' scope (bq (G2.objs.size+1) scope.names cl) G2.objs.size s2 H2 fp (X.pn++pins)) ([(s2.heap.objs.size,oD)]++ub fp s5.heap) σ8 H8 s8 ->
     tn (i+1) s8.heap/\∀ b∈fp,H8 b=none:=fun {s8 σ8 H8} I8=>by
    refine ⟨T.keep _ _ _ st5 fun b hb o e=>(I8.pin (b,o) (aM _ (aM _ (iR hb e)))).1,fun b hb=>?_⟩;obtain ⟨o,e,d⟩:=T.obj _ _ st5 b hb;exact (I8.pin (b,o) (aM _ (aM _ (iR hb e)))).2.1
   cases b with
   |false =>
    simp only [bw,if_false] at q7 ⊢;obtain ⟨m',hm,w7⟩:=q7;obtain ⟨t7,f7⟩:=fpk I7;exact ⟨m',hm,i+1,acc,oD,H7,(I7.weak l6.symm hw).unpinned,hS3,t7,f7,w7⟩
   |true =>
    simp only [if_true] at q7 ⊢
    refine hstep it _ _ _ _ _ _ _ _ _ _ _ _ _ _ _ _ (.inr (ao _)) (fun x c e z=>?_) (fun p hp z=>?_) (hM σ σ6 k6) hlt hS3 I7 q7 fun acc' o' H8 s8 m' I8 p8 hm w8=>?_
    ·rcases cne x c e with e|e
     ·obtain ⟨v,q⟩:=I2.cell x c e;exact absurd q.lt (by rw [z];exact cx _)
     ·exact absurd e (by rw [z];exact cx _)
    ·rcases IV.1 hp with hp|hp
     ·exact absurd (ai (I2.pin p hp).1) (by rw [z];exact cx _)
     ·exact hDf (z ▸ (wg hp).1)
    ·obtain ⟨t8,f8⟩:tn (i+1) s8.heap/\∀ b∈fp,H8 b=none:=by
      refine ⟨T.keep _ _ _ st5 fun b hb o e=>(I8.pin (b,o) (aM _ (am _ (iR hb e)))).1,fun b hb=>?_⟩;obtain ⟨o,e,d⟩:=T.obj _ _ st5 b hb;exact (I8.pin (b,o) (aM _ (am _ (iR hb e)))).2.1
     exact ⟨m',hm,i+1,acc',o',H8,(I8.weak (σ':=jJ nc ix σ) l6.symm hw).pins_of fun p hp=>I8.pin p (aM _ (by rw [dB.1 hp];exact av)),p8,t8,f8,w8⟩
 exact hst loop (T.self _ 0 _ _ _ st1 loop)
def OI (_:aa) (o:Obj) (acc:List V):Prop:=∃ its nn,o=OH its nn/\cz acc its/\acc.length<=sizeLine
def Nd (X:Cx) (elt:aO) (env:Env) (D:aa) (K:a9->Prop) (s:a9):Prop:=aj (aA X.prog X.w) X.A (bQ elt env) (fun x s₄=>aj (aA X.prog X.w) X.A (call (.builtin "list.append") [.ref D,x]) (fun _ s₅=>K s₅) (fun _ _=>False) s₄) (fun _ _=>False) s
theorem FM {X:Cx}{elt:aO}{te:TE}{N':List Str}{scope:dO}{M:St->Prop} (pe:∀ cl C s₀ H₀ ex pn,PE (cQ X N' scope cl C s₀ H₀ ex pn) elt te) :
  FL X N' scope M OI (fun acc=>acc.length<sizeLine) (fun σ H acc m V=>te σ H fun y H4=>∃ m',m'<m/\V m' (acc++[y]) H4) (Nd X elt):=by
 intro cl C s₀ H₀ ex pn D pl o acc σ6 H7 s7 K m V h1 h2 h3 _ hl hP I7 q7 fin
 obtain ⟨its,nn,rfl,rv,hz⟩:=hP
 refine eD (pe cl C s₀ H₀ ex pn _ s7 σ6 H7 _ I7 q7) fun u8 s8 h_5=>?_
 obtain ⟨y,H8,I8,r8,m',hm,q8⟩:=h_5
 obtain ⟨pD,pN,_⟩:=I8.pin (D,_) (aM _ av)
 have hv:=rv.length
 refine wpAny_list_append_plain ⟨nn,pD⟩ (hsz:=by rw [ax];omega) ?_
 intro h9 pl9 sb9
 obtain ⟨n9,e9⟩:=pl9
 have e9':h9.get? D=some (OH (its++[u8]) n9):=by rw [e9];simp
 exact fin (acc++[y]) _ H8 _ m' (I8.swap sb9 e9' (fun _ z=>nomatch z) h1 h2 h3) ⟨_,n9,rfl,rv.append (.cons r8 .nil),by rw [aY,j8];omega⟩ hm q8
theorem FO {X:Cx}{elt:aO}{f:Sem Fin}{a:Code} (hf:f=pure (.again a)) (env:Env) (D:aa) (K:a9->Prop) (s:a9) (h:Nd X elt env D K s):aj (aA X.prog X.w) X.A ((do let _ <- call (.builtin "list.append") [.ref D,<- bQ elt env]) >>= fun _=>f) (fun f s5=>f=.again a/\K s5) (fun _ _=>False) s:=by
 subst hf;exact a6 (a6 (eD h fun x s4 h4=>a6 (eD h4 fun _ _ q=>ae (ae ⟨rfl,q⟩))))
theorem Ce {X:Cx}{elt tg iter:aO}{ifs:List aO}{scope:dO}{pos:Pos}{te:TE}{N':List Str}{nt:Nat}{ix:List Nat} (pe:∀ cl C s₀ H₀ ex pn,PE (cQ X N' scope cl C s₀ H₀ ex pn) elt te) :
  JK X N' scope nt nt ix (.ListComp elt [⟨tg,iter,ifs,0⟩] scope pos) tg ifs (newList []) (fun _=>HO.lst) [] (fun acc=>acc.length<sizeLine) (fun σ H acc m V=>te σ H fun y H4=>∃ m',m'<m/\V m' (acc++[y]) H4) :=
 ⟨OI,_,fun _=>Nd X elt,fun _=>True,fun ⟨_,_,h,_⟩ _ z=>(by rw [h] at z;cases z),rfl,fun _=>⟨[],0,rfl,.nil,bV _⟩,fun _ ⟨its,nn,h,rv,hz⟩ e=>⟨hz,its,nn,rv,by rw [e,h]⟩,cc,fun _=>Lr (iter:=iter) (fun _ _=>rfl) fun a b c d h=>FO rfl a b c d h,codeAny_compStart_list,⟨ao _,fun _ _ _=>trivial⟩,fun _=>FM pe⟩
end
section
theorem yT
  (hc:X.calm=true) (S:lO X scope N' nt ix) (lo:Nc nt g) (hi:PI X tg iter wi)
  (hb:∀ cl C s₀ H₀ ex pn,PG (cQ X N' scope cl C s₀ H₀ ex pn) tg g/\JC (cQ X N' scope cl C s₀ H₀ ex pn) ifs tt/\PE (cQ X N' scope cl C s₀ H₀ ex pn) elt te)
  (hs:∀ x,df iter X.env x=pure x:=by intro _;rfl):PE X (.ListComp elt [⟨tg,iter,ifs,0⟩] scope pos) (FI nt ix wi g tt te):=by
 intro pins s σ H Q I h;obtain ⟨cl,hcl,c1,c2⟩:=oW (scope:=scope) (env:=X.env) fun y hy hf=>I.ok.has y.1 (S.free y hy hf);rw [eval_ListComp];refine mW (use:=none) rfl hs hcl S.kind S.loc (eD (hi pins s σ H _ I h) fun v s1 h1=>eD h1 fun itv s2 h2=>?_);obtain ⟨it,fp,tn,J,H2,e,I2,T,st2,f2,W,w0,turn⟩:=h2;subst e;refine B1 (RR:=fun acc C=>compPost (aA X.prog X.w) X.A X.xe none (EP X pins σ Q) acc C) (Ce fun a b c d e f=>(hb a b c d e f).2.2) hc S lo (fun a b c d e f=>⟨(hb a b c d e f).1,(hb a b c d e f).2.1⟩) c1 c2 I2 T st2 f2 w0 turn ?_;intro D C m s' acc H' hD _ q hn hI;exact ⟨m,hn,fun h' sb=>⟨.ref D,_,hI h' sb,rfl,q⟩⟩
def OJ (i:Nat) (te:TE):TS:=fun D σ H=>te σ H fun x H1=>D.nx (σ.set i (some x)) H1
theorem B2
  (hN:X.N.Nodup) (hiN:X.N[i]?=some y) (hy:X.env.scope.names.lookup y=some .local)
  (hc:X.calm=true) (S:lO X scope N' nt ix) (lo:Nc nt g) (hi:PI X tg iter wi)
  (hb:∀ cl C s₀ H₀ ex pn,PG (cQ X N' scope cl C s₀ H₀ ex pn) tg g/\JC (cQ X N' scope cl C s₀ H₀ ex pn) ifs tt/\PE (cQ X N' scope cl C s₀ H₀ ex pn) elt te)
  (hsw:gE (.ListComp elt [⟨tg,iter,ifs,0⟩] scope pos) (some (.Name y py)) spos.line X.env=pure true:=by rfl)
  (hs:∀ x,df iter X.env x=pure x:=by intro _;rfl):PS X (.Assign [.Name y py] (.ListComp elt [⟨tg,iter,ifs,0⟩] scope pos) spos) (OJ i (FI nt ix wi g tt te)):=by
 intro pins s σ H D I h;obtain ⟨cl,hcl,c1,c2⟩:=oW (scope:=scope) (env:=X.env) fun y hy hf=>I.ok.has y.1 (S.free y hy hf);rw [exec_Assign_Name_used _ _ _ _ hsw];refine a6 (jZ (a6 ?_));show aj _ X.A (do let _ <- comprehension (.ListComp elt [⟨tg,iter,ifs,0⟩] scope pos) scope X.env _ (newList []) false (bQ iter X.env) (some (lJ (.Name y py) X.env))) _ _ s;refine a6 (bR (mW (use:=some (lJ (.Name y py) X.env)) (Q:=fun _ s'=>SP X pins D .next s') rfl hs hcl S.kind S.loc
  (eD (hi pins s σ H _ I h) fun v s1 h1=>eD h1 fun itv s2 h2=>?_)) (fun _ s' hq=>ae (ae hq)) fun _ _ e=>e)
 obtain ⟨it,fp,tn,J,H2,e,I2,T,st2,f2,W,w0,turn⟩:=h2;subst e;refine B1 (Q:=fun x H1=>D.nx (σ.set i (some x)) H1) (RR:=fun acc C=>compPost (aA X.prog X.w) X.A X.xe (some (lJ (.Name y py) X.env)) (fun _ s'=>SP X pins D .next s') acc C) (Ce fun a b c d e f=>(hb a b c d e f).2.2) hc S lo (fun a b c d e f=>⟨(hb a b c d e f).1,(hb a b c d e f).2.1⟩) c1 c2 I2 T st2 f2 w0 turn ?_;intro L C m s' acc H' hD fC q hn hI;show aj _ X.A (lJ (.Name y py) X.env (.ref L)) _ _ _;have I3:bf X pins σ (upd H' L (.lst acc)) s':=hI s'.heap (.refl ..);refine wpAny_assign_Name (wf I3 hN hiN (.inl hy) (v:=.ref L) rfl (fun s4 I4 ⟨a,sb,ha⟩=>?_) (.inr hy));obtain ⟨g0,g1,g2,g3,g4,g5⟩:=fC;have hCa:C≠a:=by
  rcases ha with z|z
  ·rw [z];exact g1
  ·exact fun e=>g4 y a z e.symm
 refine ⟨m,hn.sameBut sb hCa,fun h5 sb5=>?_⟩;exact ⟨_,_,I4.turned (t':=s4.toks) (fun b o hb e=>(sb5.2 b hb).trans e) g0 g1 g3 g4 g5,q⟩
end
section
def B3 (e:Int×a7):Str:=match e.2 with
 |.str x _=>x
 |_=>⟨#[]⟩
def uh (w:aW) (e:Int×a7):Prop:=∃ x tk,e=(hashStr w x,ic x tk)
structure im (w:aW) (h:bc) (a:aa) (es:Array (Int×a7)) (ep:Nat) (t:qU):Prop where
 at_:h.get? a=some { cls:=.type "set",dict:=none,data:=.set es ep t }
 txt:∀ e∈es.toList,uh w e
 nd:(es.toList.map B3).Nodup
 few:es.size<fD
 fits:t.fits es.size=true
 led:t.led=!w.params.followText "set-order"
 pl:es.size=0\/t.plain=false
inductive lf (w:aW) (h:bc) (a:aa) (ss:List Str):Prop
 |mk (es ep t:_) (h0:im w h a es ep t) (h1:(es.toList.map B3).Perm ss):lf w h a ss
theorem B4 (t:qU) (es:Array (Int×a7)) (h:Int) (x:a7):(layNew t es h x).2.1.led=t.led:=by
 unfold layNew;cases t.freeSlot h with
 |none=>rfl
 |some p =>
  obtain ⟨slot,d⟩:=p;show ((t.put slot).1.orStandIn _).led=_;unfold Ae;split<;>rfl
theorem xu (t:qU) (es:Array (Int×a7)) (h:Int) (x:a7):t.plain=false->(layNew t es h x).2.1.plain=false:=by
 intro hp;unfold layNew;cases t.freeSlot h with
 |none=>rfl
 |some p =>
  obtain ⟨slot,d⟩:=p;show ((t.put slot).1.orStandIn _).plain=_;unfold Ae;split
  ·exact hp
  ·rfl
theorem yU {t t':qU}{hs:Array Int}{n:Nat}{o:Array Nat} (h:t.relaid hs n=some (t',o)):t'.led=t.led/\t'.plain=t.plain:=by
 unfold SetTable.relaid SetTable.laid at h;cases e:SetTable.layClean (SetTable.sizeAbove n-1) hs with
 |none=>rw [e] at h;cases h
 |some ow =>
  rw [e] at h;have h:=bh h;have h1:=congrArg Prod.fst h;subst h1;exact ⟨rfl,rfl⟩
theorem DJ (t:qU) (es:Array (Int×a7)) (n:Nat):(qV t es n).2.1.led=t.led/\(t.plain=false->(qV t es n).2.1.plain=false):=by
 unfold qV;cases e:t.relaid (es.map (·.1)) n with
 |none=>exact ⟨rfl,fun _=>rfl⟩
 |some p =>
  obtain ⟨t',o⟩:=p;obtain ⟨h1,h2⟩:=yU e;dsimp only;split
  ·exact ⟨h1,fun h=>h2.trans h⟩
  ·exact ⟨rfl,fun _=>rfl⟩
theorem FP   (h:∀ e∈l,uh w e):ElemsOf (strKind P w) l:=fun e he=>by
 obtain ⟨x,tk,rfl⟩:=h e he;exact ⟨⟨x,by simp [PySem.strKind,pA],rfl⟩,rfl⟩
theorem Qf (P:aI) (w:aW) (x:Str) (tk:Tok):(strKind P w).is x (.str x tk)=true:=by simp [PySem.strKind,pA]
theorem Cf   (h:uh w e) (x:Str):(strKind P w).is x e.2=true↔B3 e=x:=by
 obtain ⟨y,tk,rfl⟩:=h;constructor
 ·intro q;have:=(strKind P w).inj _ _ _ q (Qf P w y tk);rw [this];rfl
 ·rintro rfl;exact Qf P w _ tk
section
theorem Cg     (I:im w h a es ep t):(h.update a (qW es' t')).get? a=some { cls:=.type "set",dict:=none,data:=.set es' (ep+1) t' }:=by
 have q:=fN (qW es' t') I.at_ rfl;exact q
theorem DK     (hS:lf w s.heap a ss) (hr:ss.length+1<fD)
  (h:∀ h' tk',bU a s.heap h'->lf w h' a (if x∈ss then ss else ss++[x])->Q (!decide (x∈ss)) { s with heap:=h',toks:=tk' }) :
  aj (aA P w) A (setAddHashed a (.str x tk) ((strKind P w).hash x)) Q E s:=by
 obtain ⟨es,ep,t,I,pm⟩:=hS
 have hlen:es.size=ss.length:=by rw [<- pm.length_eq,au,aN]
 have hel:ElemsOf (strKind P w) es.toList:=FP I.txt
 unfold setAddHashed setAddHashedIn
 refine cB (a6 (ed (s:=s) I.at_ rfl I.fits ?_))
 dsimp only
 rw [byScan_of rfl I.few hel]
 rw [if_pos rfl]
 unfold setAddByScan
 refine a6 (a6 (gT (a6 (wpAny_setScan_of (s:=s) (Qf P w x tk) I.at_ rfl I.fits hel ?_))))
 have inmem:x∈ss↔∃ e∈es.toList,(strKind P w).is x e.2=true:=by
  rw [<- pm.mem_iff,Af]
  constructor
  ·rintro ⟨e,he,q⟩;exact ⟨e,he,(Cf (I.txt e he) x).mpr q⟩
  ·rintro ⟨e,he,q⟩;exact ⟨e,he,(Cf (I.txt e he) x).mp q⟩
 cases hf:List.findIdx? (fun e=>(strKind P w).is x e.2) es.toList with
 |some j =>
  obtain ⟨hj,hp,_⟩:=List.findIdx?_eq_some_iff_getElem.mp hf
  have hin:x∈ss:=inmem.mpr ⟨_,jg hj,hp⟩
  have q:=h s.heap s.toks (.refl ..) (by rw [if_pos hin];exact ⟨es,ep,t,I,pm⟩)
  rw [decide_eq_true hin] at q
  exact ae (ae q)
 |none =>
  have hout:x∉ss:=fun z=>by
   obtain ⟨e,he,q⟩:=inmem.mp z
   rw [List.findIdx?_eq_none_iff.mp hf e he] at q
   cases q
  have h:=fun h' tk' sb=>h h' tk' sb
  rw [decide_eq_false hout,if_neg hout] at h
  have p1:=layNew_perm t es ((strKind P w).hash x) (.str x tk)
  have f1:=layNew_fits t es ((strKind P w).hash x) (.str x tk)
  have l1:=B4 t es ((strKind P w).hash x) (.str x tk)
  have q1:=xu t es ((strKind P w).hash x) (.str x tk)
  generalize layNew t es ((strKind P w).hash x) (.str x tk)=L at p1 f1 l1 q1 ⊢
  obtain ⟨es1,t1,wd,gv⟩:=L
  dsimp only at p1 f1 l1 q1 ⊢
  rw [EM] at p1
  have tx1:∀ e∈es1.toList,uh w e:=fun e he=>by
   rcases List.mem_append.mp (p1.mem_iff.mp he) with z|z
   ·exact I.txt e z
   ·rw [dB] at z;exact ⟨x,tk,z⟩
  have km:(es1.toList.map B3).Perm (ss++[x]):=(p1.map B3).trans (by rw [i4];exact pm.append_right _)
  have nd1:(ss++[x]).Nodup:=by
   rw [F6]
   exact ⟨pm.nodup_iff.mp I.nd,by simp,fun y hy z hz e=>hout (by rw [dB] at hz;rw [<- hz,<- e];exact hy)⟩
  have sz1:es1.size=es.size+1:=by rw [<- aN,p1.length_eq,aY,aN];rfl
  have few1:es1.size<fD:=by omega
  have gw:∀ (b:Bool) {s₁:a9}{Q':Unit->a9->Prop},Q' () s₁->aj (aA P w) A (match b with|true=>rule "set.scan.the-table-gave-way" | false=>pure ()) Q' E s₁ :=
   fun b _ _ z=>by cases b<;>first|exact ae z|exact gT z
  have tail:∀ t2:qU,t2.fits es1.size=true->t2.led=t.led->t2.plain=false->aj (aA P w) A (do
    storeSet a es1 t2
    if (!wd&&t2.tooFull)=true then do
      (match (qV t2 es1 (fO es1.size)).2.2 with|true=>rule "set.scan.the-table-gave-way" | false=>pure ())
      storeSet a (qV t2 es1 (fO es1.size)).1 (qV t2 es1 (fO es1.size)).2.1
      pure (some true)
     else pure (some true)) (fun r s'=>r=some true/\Q true s') E s:=fun t2 f2 l2 n2=>by
   refine a6 (wpAny_storeSet_of (s:=s) I.at_ rfl ?_ (mQ few1))
   have at1:=Cg (es':=es1) (t':=t2) I
   have sb1:=cw s.heap a (qW es1 t2)
   have I1:im w (s.heap.update a (qW es1 t2)) a es1 (ep+1) t2:=⟨at1,tx1,km.nodup_iff.mpr nd1,few1,f2,l2.trans I.led,.inr n2⟩
   split
   ·have p2:=relayAll_perm t2 es1 (fO es1.size)
    have f3:=relayAll_fits t2 es1 (fO es1.size)
    have l3:=DJ t2 es1 (fO es1.size)
    generalize qV t2 es1 (fO es1.size)=R3 at p2 f3 l3 ⊢
    obtain ⟨es2,t3,gv2⟩:=R3
    dsimp only at p2 f3 l3 ⊢
    have few2:es2.size<fD:=by rw [<- aN,p2.length_eq,aN];exact few1
    have km2:=(p2.map B3).trans km
    refine a6 (gw _ (a6 (wpAny_storeSet_of (s:={ s with heap:=s.heap.update a (qW es1 t2) }) I1.at_ rfl ?_ (mQ few2))))
    refine ae ⟨rfl,h _ _ (sb1.trans (cw _ a _)) ⟨es2,ep+1+1,t3,⟨Cg I1,fun e he=>tx1 e (p2.mem_iff.mp he),km2.nodup_iff.mpr nd1,few2,f3,l3.1.trans (l2.trans I.led),.inr (l3.2 n2)⟩,km2⟩⟩
   ·exact ae ⟨rfl,h _ _ sb1 ⟨es1,ep+1,t2,I1,km⟩⟩
  refine a6 (gw gv ?_)
  cases hp:t1.plain with
  |true =>
   simp only [if_true]
   rw [hashByValue_scannable 8 (x:=.str x tk) rfl]
   refine a6 (ae ?_)
   refine bR (tail { t1 with plain:=false } (by cases t1;exact f1) l1 rfl) (fun r s' z=>?_) fun _ _ z=>z
   obtain ⟨rfl,z⟩:=z
   exact ae z
  |false =>
   simp only [bw,if_false]
   refine a6 (ae ?_)
   refine bR (tail t1 f1 l1 hp) (fun r s' z=>?_) fun _ _ z=>z
   obtain ⟨rfl,z⟩:=z
   exact ae z
theorem yV     (hS:lf w s.heap a ss) (hr:ss.length+1<fD)
  (h:∀ h' tk',bU a s.heap h'->lf w h' a (if x∈ss then ss else ss++[x])->Q (!decide (x∈ss)) { s with heap:=h',toks:=tk' }) :
  aj (aA P w) A (setAdd a (.str x tk)) Q E s:=by
 unfold setAdd;refine cB (a6 ((strKind P w).pyHash (k:=x) (Qf P w x tk) ?_));exact DK (s:={ s with toks:=s.toks+1 }) hS hr h
end
end
section
abbrev j4 (w:aW):Obj:={ cls:=.type "set",dict:=none,data:=.set #[] 0 (.fresh 0 0 (!w.params.followText "set-order")) }
theorem wv (w:aW)  (e:h.get? a=some (j4 w)):lf w h a [] :=
 ⟨#[],0,_,⟨e,fun e he=>by simp at he,by simp,by decide,rfl,rfl,.inl rfl⟩,by simp⟩
def dE:List Str->List Str->List Str
 |acc,[]=>acc
 |acc,x::r=>dE (if x∈acc then acc else acc++[x]) r
theorem lg:∀ (l acc:List Str) (x:Str),x∈dE acc l↔x∈acc\/x∈l
 |[],acc,x=>by simp [dE]
 |y::r,acc,x=>by
  rw [dE,lg r];by_cases h:y∈acc
  ·rw [if_pos h];simp only [b9];constructor
   ·exact fun z=>z.elim .inl fun z=>.inr (.inr z)
   ·rintro (z|z|z)
    ·exact .inl z
    ·exact .inl (z ▸ h)
    ·exact .inr z
  ·rw [if_neg h];simp [IV,or_assoc]
theorem kj:∀ (l acc:List Str),acc.Nodup->(dE acc l).Nodup
 |[],acc,h=>h
 |y::r,acc,h=>by
  rw [dE];refine kj r _ ?_;by_cases hy:y∈acc
  ·rw [if_pos hy];exact h
  ·rw [if_neg hy,F6];exact ⟨h,by simp,fun a ha b hb e=>hy (by rw [dB] at hb;rw [<- hb,<- e];exact ha)⟩
theorem jp:∀ (l acc:List Str),(dE acc l).length<=acc.length+l.length
 |[],acc=>by simp [dE]
 |y::r,acc=>by
  rw [dE];have:=jp r (if y∈acc then acc else acc++[y]);by_cases hy:y∈acc
  ·rw [if_pos hy] at this ⊢;simp only [aD];omega
  ·rw [if_neg hy] at this ⊢;simp only [aD,aY,j8,eJ] at this ⊢;omega
section
theorem lf.keep   (x:lf w h a ss) (k:∀ o,h.get? a=some o->h'.get? a=some o):lf w h' a ss :=
 let ⟨es,ep,t,I,p⟩:=x;⟨es,ep,t,⟨k _ I.at_,I.txt,I.nd,I.few,I.fits,I.led,I.pl⟩,p⟩
theorem vG {I:aa}{fp wr:List aa}{n:Nat}{Pv:Nat->a7->Prop}{St:Nat->bc->Prop} (W:IW prog w A.in1 I fp wr n Pv St) (D:aa) (hD:D∉fp) (xs:List Str) (hx:xs.length=n)
  (hv:∀ i v,Pv i v->∃ x t,xs[i]?=some x/\v=.str x t) (hb:n+1<fD) :
  ∀ (k i:Nat) (s:a9) (acc:List Str),n-i=k->i<=n->acc.length<=i->St i s.heap->lf w s.heap D acc ->
   (∀ h' tk,(∀ b o,b∉D::wr->s.heap.get? b=some o->h'.get? b=some o)->lf w h' D (dE acc (xs.drop i))->R (.ok (.ret .none)) { s with heap:=h',toks:=tk }) ->
   fU (aA prog w) A (.builtin "set.update.loop" ⟨[.ref D,.ref I],[]⟩) R s:=by
 have hDw:D∉wr:=fun z=>hD (W.sub _ z);intro k;induction k with
 |zero =>
  intro i s acc hk hi hl st hS hR;obtain rfl:i=n:=by omega
  refine gz lG ?_;rw [gm fJ _];show aj _ A.in1 (oP (.ref I) >>= _) _ _ s;refine a6 (W.done s _ _ st fun h' tk kp=>?_);refine ae (hR h' tk (fun b o hb e=>kp b o (fun z=>hb (am _ z)) e) ?_);rw [List.drop_of_length_le (by omega)];exact hS.keep fun o e=>kp D o hDw e
 |succ k ih =>
  intro i s acc hk hi hl st hS hR;have hlt:i<n:=by omega
  refine gz lG ?_;rw [gm fJ _];show aj _ A.in1 (oP (.ref I) >>= _) _ _ s;refine a6 (W.item i s _ _ hlt st fun v h' tk hP st' kp=>?_);obtain ⟨x,t,hxi,rfl⟩:=hv i v hP;have hS':lf w h' D acc:=hS.keep fun o e=>kp D o hDw e;refine a6 (cB (yV (s:={ s with heap:=h',toks:=tk }) hS' (by omega) fun h2 tk2 sb hS2=>?_));refine ae ⟨tm fJ _,ih (i+1) _ (if x∈acc then acc else acc++[x]) (by omega) hlt ?_ (W.frame _ _ _ st' fun b hb o e=>?_) hS2 fun h3 tk3 k3 hS3=>?_⟩
  ·by_cases z:x∈acc
   ·rw [if_pos z];omega
   ·rw [if_neg z,aY,j8];omega
  ·rw [sb.2 b fun z=>hD (z ▸ hb)];exact e
  ·refine hR h3 tk3 (fun b o hb e=>k3 b o hb ?_) ?_
   ·rw [sb.2 b fun z=>hb (by rw [z];exact av)];exact kp b o (fun z=>hb (am _ z)) e
   ·have hd:xs.drop i=x::xs.drop (i+1):=by
     obtain ⟨h1,h2⟩:=List.getElem?_eq_some_iff.mp hxi;rw [List.drop_eq_getElem_cons h1,h2]
    rw [hd,dE];exact hS3
theorem FQ (a:a7) (h:Q₁ (.ref s.heap.objs.size) { s with heap:=s.heap.push (j4 w) }) :
  fU (aA prog w) A (.call (.builtin "set.__new__") ⟨[.type "set",a],[]⟩) (wants Q₁ E) s:=by
 refine yC ?_;show aj _ A.in1 (do checkBuiltinCall "set.__new__" ⟨[.type "set",a],[]⟩;again (.builtin "set.__new__" ⟨[.type "set",a],[]⟩)) _ _ s;refine a6 (qX (F.newCall_set_1 a) (ae ⟨tm F.plain_set_new _,gz F.entry_set_new ?_⟩));rw [gm F.plain_set_new _];unfold i5.«set.__new__» IX;have hsub:=sub_set_self;obtain ⟨hp,g,d,tk,os⟩:=s;dsimp only;wp_walk;refine i6 (ae ?_);dsimp only;simp only [newObj];refine a6 (IU (ae ?_));exact ae h
structure Nf (prog:aI) (w:aW) (A:aV) (T:String) (l:aa) (o:Obj) (items:Array a7):Prop where
 ty:o.cls=.type T
 s1:isSubtype (.type T) (.type "set")=pure false
 s2:isSubtype (.type T) (.type "frozenset")=pure false
 nd:(gx T==gx "dict")=false
 iter:∀ (s:a9) (Q:a7->a9->Prop) (E:a7->a9->Prop),s.heap.get? l=some o ->
  (∀ ob St,IW prog w A.in1 s.heap.objs.size [s.heap.objs.size,l] [s.heap.objs.size] items.size (fun i v=>items[i]?=some v) St->St 0 (s.heap.push ob)->Q (.ref s.heap.objs.size) { s with heap:=s.heap.push ob })->aj (aA prog w) A (tU (.ref l)) Q E s
theorem qd {T:String}{l:aa}{ol:Obj}{items:Array a7}{xs:List Str}{Q:a7->a9->Prop}
  (src:Nf prog w A.in1.in1 T l ol items) (hol:s.heap.get? l=some ol) (hi:∀ (i:Nat) (v:a7),items[i]?=some v->∃ x t,xs[i]?=some x/\v=ic x t) (hx:xs.length=items.size) (hb:items.size+1<fD)
  (h:∀ (h':bc) (tk:Nat),lf w h' s.heap.objs.size (dE [] xs)->(∀ b o,s.heap.get? b=some o->h'.get? b=some o)->Q (.ref s.heap.objs.size) { s with heap:=h',toks:=tk }) :
  aj (aA prog w) A (call (.type "set") [.ref l]) Q E s:=by
 obtain ⟨c,tl,hmro⟩:=F.called_set.mro;have hmade:=F.called_set.made;have hsub:=F.called_set.sub;refine tX (yC ?_);show aj _ _ (callAny (.type "set") _) _ _ _;refine ae ⟨EN _ (by decide +kernel),gz F.entry_type_call ?_⟩;rw [Around.under_plain (weight_type_call_type "set" [.ref l] []) rfl];have h1:=F.called_set.notType;have h2:=F.called_set.canCreate;have hct:=F.typeCall_set_1 (.ref l);repeat (any_goals (first|assumption|wp_step))
 refine l5 (FQ (.ref l) (E:=E) (Q₁:=fun obj s₁=>obj=.ref s.heap.objs.size/\s₁={ s with heap:=s.heap.push (j4 w) }) ⟨rfl,rfl⟩) fun r s₁ hr=>?_;cases r with
 |error e=>exact hr
 |ok fl =>
  cases fl with
  |ret obj =>
   obtain ⟨rfl,rfl⟩:=hr;have hS:(s.heap.push (j4 w)).get? s.heap.objs.size=some (j4 w):=ar _ rfl;have hT:IY { s with heap:=s.heap.push (j4 w) } (.ref s.heap.objs.size) "set":=⟨_,hS,rfl⟩;have hli:=F.called_set.init.lookup;have hbi:=F.called_set.init.bind (.ref s.heap.objs.size);repeat (any_goals (first|assumption|wp_step))
   refine l5 (qY (R:=wants (fun r s₂=>r=.none/\∃ h' tk,s₂={ s with heap:=h',toks:=tk }/\lf w h' s.heap.objs.size (dE [] xs) /\
     (∀ b o,s.heap.get? b=some o->h'.get? b=some o)) E) F.called_set.init.plain F.entry_set_init (check_set_init_1 hT ?_)) fun r₂ s₂ hr₂=>?_
   ·obtain ⟨oc,od,odt,os'⟩:=ol;obtain ⟨ty,s1,s2,nd,iter⟩:=src;have ty:oc=.type T:=ty;subst ty;have hol':(s.heap.push (j4 w)).get? l=some { cls:=.type T,dict:=od,data:=odt,slots:=os' }:=a8 _ hol;unfold i5.«set.__init__» noKeywords IZ;generalize hPI:tU=PI;wp_walk;subst hPI;refine iter { s with heap:=s.heap.push (j4 w) } _ _ hol' fun ob St W st=>?_;have hlS:l<s.heap.objs.size:=ai hol;refine a6 (wpAny_runValue ?_);have szp:(s.heap.push (j4 w)).objs.size=s.heap.objs.size+1:=bY ..;refine vG (A:=A.in1.in1) W s.heap.objs.size (by rw [szp];simp only [b9,aR,or_false,not_or];exact ⟨aF (gL _),fA hlS⟩) xs hx hi hb items.size 0 _ [] (by omega) (bV _) (ao _) st (wv w (a8 _ hS)) fun h' tk kp hS'=>?_;show aj _ _ _ _ _ _;refine ae ?_;show aj _ _ (ret dm) _ _ _;refine ae ⟨rfl,h',tk,rfl,hS',fun b o e=>kp b o ?_ (a8 _ (a8 _ e))⟩;have:=ai e;rw [szp];simp only [b9,aR,or_false,not_or];exact ⟨aF this,aF (gj this)⟩
   ·cases r₂ with
    |error e=>exact hr₂
    |ok fl₂ =>
     cases fl₂ with
     |ret r =>
      obtain ⟨rfl,h',tk,rfl,hS',hk'⟩:=hr₂;repeat (any_goals (first|assumption|wp_step))
      exact h _ _ hS' hk'
     |next=>exact hr₂.elim
     |brk=>exact hr₂.elim
     |cont=>exact hr₂.elim
  |next=>exact hr.elim
  |brk=>exact hr.elim
  |cont=>exact hr.elim
theorem FR {l:aa}{o:Obj}{its:List a7} (hh:A.handled=none) (e0:o.cls=.type "list") (e1:∃ n,o.data=.seq its.toArray n):Nf prog w A "list" l o its.toArray :=
 ⟨e0,F.sub_list_set,F.sub_list_frozenset,by decide,fun s Q E e h=>ji ⟨_,e,e0,e1⟩
  (h _ _ (vt (by simpa using hh) _ l (aF (ai e)) its.toArray) ⟨⟨_,ar _ rfl,rfl,rfl⟩,⟨_,a8 _ e,e0,e1⟩⟩)⟩
theorem JM {l:aa}{o:Obj}{its:List a7} (hh:A.handled=none) (e0:o.cls=.type "tuple") (e1:∃ n,o.data=.seq its.toArray n):Nf prog w A "tuple" l o its.toArray :=
 ⟨e0,F.sub_tuple_set,F.sub_tuple_frozenset,by decide,fun s Q E e h=>eI ⟨_,e,e0,e1⟩
  (h _ _ (Walks.tuple (by simpa using hh) _ l (aF (ai e)) its.toArray) ⟨⟨_,ar _ rfl,rfl,rfl⟩,⟨_,a8 _ e,e0,e1⟩⟩)⟩
end
end
end L2
section
namespace L2
open PySem PySem.Spec PyProof.Rows
namespace SI
theorem entry_iter:entryFor table "set.__iter__"=some i5.«frozenset.__iter__» :=
 entryFor_alias (id':="frozenset.__iter__") (by kernel_rfl) rfl (by decide +kernel) (by kernel_rfl)
theorem slot_next:Slot "set_iterator" "__next__" "set_iterator.__next__":=by
 refine .of (owner:="set_iterator") (n:="__next__") ?_ ?_ ?_ ?_ ?_ ?_
 ·rw [typeLookup_type,IE];kernel_rfl
 ·decide +kernel
 ·decide +kernel
 ·decide +kernel
 ·first
   |exact .inl (by decide +kernel)
   |exact .inr (by decide +kernel)
 ·rw [AB];kernel_rfl
theorem entry_next:entryFor table "set_iterator.__next__"=some i5.«set_iterator.__next__» :=
 entryFor_of_tree (by kernel_rfl)
theorem yW:Manifest.owners.lookup (String.ofList ['r','o','t','a','r','e','t','i','_','t','e','s'].reverse)=some Manifest.sig_set_iterator:=by kernel_rfl
theorem args_next (a:a7):argsOk "set_iterator.__next__" ⟨[a],[]⟩:=by
 unfold argsOk;rw [signature?_of (id:="set_iterator.__next__") (n:=['_','_','t','x','e','n','_','_']) (o:=['r','o','t','a','r','e','t','i','_','t','e','s']) (by kernel_rfl) yW]
 kernel_rfl
theorem args_iter (a:a7):argsOk "set_iterator.__iter__" ⟨[a],[]⟩:=by
 unfold argsOk;rw [signature?_of (id:="set_iterator.__iter__") (n:=['_','_','r','e','t','i','_','_']) (o:=['r','o','t','a','r','e','t','i','_','t','e','s']) (by kernel_rfl) yW]
 kernel_rfl
theorem entry_self:entryFor table "set_iterator.__iter__"=some i5.«dict_keyiterator.__iter__» :=
 entryFor_alias (id':="dict_keyiterator.__iter__") (by kernel_rfl) rfl (by decide +kernel) (by kernel_rfl)
theorem slot_iter:Slot "set_iterator" "__iter__" "set_iterator.__iter__":=by
 refine .of (owner:="set_iterator") (n:="__iter__") ?_ ?_ ?_ ?_ ?_ ?_
 ·rw [typeLookup_type,IE];kernel_rfl
 ·decide +kernel
 ·decide +kernel
 ·decide +kernel
 ·first
   |exact .inl (by decide +kernel)
   |exact .inr (by decide +kernel)
 ·rw [AB];kernel_rfl
end SI
end L2
end
namespace L2
open PySem PySem.Spec PyProof.Rows
section
theorem oX {α:Type}:∀ {l:List α}{i:Nat} (h:i<l.length),(l[i]::l.eraseIdx i).Perm l
 |x::r,0,_=>.refl _
 |x::r,i+1,h=>by
  have q:=oX (l:=r) (i:=i) (by simpa using h);rw [List.getElem_cons_succ,List.eraseIdx_cons_succ];exact (List.Perm.swap _ _ _).trans (q.cons x)
section
theorem DL   (hn:n≠0) (h:∀ i d,i<n->Q i { s with drawn:=d }):aj M A (choose src n) Q E s :=
 fun _ _ _=>⟨hn,h _ _ (Nat.mod_lt _ (Nat.pos_of_ne_zero hn))⟩
theorem qe {α:Type}:∀ (n:Nat) (xs:List α) (s:a9) (Q:List α->a9->Prop),n=xs.length->(∀ ys d,ys.Perm xs->Q ys { s with drawn:=d })->aj M A (drawOrder n xs) Q E s
 | 0,xs,s,Q,hn,h=>by
  obtain rfl:xs=[]:=List.length_eq_zero_iff.mp hn.symm;exact ae (h [] s.drawn .nil)
 |n+1,[],s,Q,hn,h=>by cases hn
 |n+1,x::r,s,Q,hn,h=>by
  show aj M A (choose .order (x::r).length >>= _) Q E s;refine a6 (DL (by simp) fun i d hi=>?_);rw [bg hi];refine a6 (qe n _ _ _ (by rw [w5 hi];omega) fun ys d' p=>ae ?_);exact h _ _ ((p.cons _).trans (oX hi))
end
theorem xv {α:Type} (next:Nat->Nat):∀ (n k:Nat) (left:List α) (out:Array α),n=left.length->(vv next n k left out).toList.Perm (out.toList++left)
 | 0,k,left,out,hn=>by
  obtain rfl:left=[]:=List.length_eq_zero_iff.mp hn.symm;rw [vv,bW]
 |n+1,k,left,out,hn=>by
  have hl:next k % left.length<left.length:=Nat.mod_lt _ (by omega)
  rw [vv,bg hl];refine (xv next n (k+1) _ _ (by rw [w5 hl];omega)).trans ?_;rw [EM,se];exact (oX hl).append_left _
theorem ww {α:Type} (next:Nat->Nat) (xs:Array α):(lH next xs).toList.Perm xs.toList:=by
 have:=xv next xs.size 0 xs.toList #[] (by simp)
 simpa [lH] using this
def xw (h:bc) (I S:aa) (first:a7) (i n ep:Nat):Prop:=h.get? I=some { cls:=.type "set_iterator",data:=.fields #[first,.int i 0,.ref S,.int n 0,.int ep 0] }
section
theorem xw.put {f f':a7}{j j':Nat}{k:Nat}{x:a7}{h:bc} (hit:xw h I S f j n ep) (e:(#[f,.int j 0,.ref S,.int n 0,.int ep 0] : Array a7).setIfInBounds k x=#[f',.int j' 0,.ref S,.int n 0,.int ep 0]) :
  xw (h.update I (eu (·.setIfInBounds k x))) I S f' j' n ep:=by
 have q:=fN (eu (·.setIfInBounds k x)) hit rfl;unfold xw;rw [q];show some ({ cls:=.type "set_iterator",data:=.fields ((#[f,.int j 0,.ref S,.int n 0,.int ep 0] : Array a7).setIfInBounds k x) }:Obj)=_;rw [e]
theorem nO (hit:xw s.heap I S first i n ep) (hS:im w s.heap S es ep t) (hn:n=es.size)
  (h:aj (aA prog w) A.in1 (do
   if let .int slot _:=first then
    match <- F7 S slot.toNat i ep with
    |some (x,next) =>
     fE (.ref I) 0 (bS next)
     fE (.ref I) 1 (bS (i+1))
     ret x
    |none=>fE (.ref I) 2 .none;qZ (<- t_ (.type "StopIteration") [])
   else
    let some places <- EO first|I_ "internal:set_iterator"
    match places[i]? with
    |some (.int place _) =>
     let x <- setNextDrawn S place.toNat ep
     fE (.ref I) 1 (bS (i+1))
     ret x
    |some _=>I_ "internal:set_iterator"
    |none=>fE (.ref I) 0 (bS 0);fE (.ref I) 2 .none;qZ (<- t_ (.type "StopIteration") []))
   (fun fin s'=>∃ v,fin=.done (.ret v)/\Q (some v) s') (fun e s'=>aj (aA prog w) A (AC e (.type "StopIteration")) (fun b s''=>b=true/\Q none s'') E s') s) :
  aj (aA prog w) A (oP (.ref I)) Q E s:=by
 unfold oP;refine a6 (j_ ?_);refine cy (name:=cf "__next__") ⟨_,hit,rfl⟩ SI.slot_next ?_;refine cq SI.slot_next ⟨_,hit,rfl⟩ SI.entry_next ?_ (SI.args_next _);show aj _ _ (fieldsOf (.ref I) >>= _) _ _ s;refine a6 (wpAny_fieldsOf hit rfl ?_);show aj _ _ (setEntries S >>= _) _ _ s;refine a6 (wpAny_setEntries_of hS.at_ rfl hS.fits ?_);rw [if_neg (by rw [hn];simp)];refine bR h (fun fin s' z=>?_) fun e s' z=>?_
 ·obtain ⟨v,rfl,q⟩:=z;exact ⟨v,rfl,ae q⟩
 ·refine a6 (bR z (fun b s'' ⟨hb,q⟩=>?_) fun _ _ z=>z);subst hb;exact ae q
theorem xx {B:aV}{Q:Option a7->a9->Prop}{Q':Fin->a9->Prop}{o:Obj}{vs:Array a7} (hh:B.handled=none) (ho:s.heap.get? I=some o) (hd:o.data=.fields vs) (hz:2<vs.size)
  (h:∀ h',Heap.ExtBut I s.heap h'->Q none { s with heap:=h' }) :
  aj (aA prog w) B (do fE (.ref I) 2 .none;qZ (<- t_ (.type "StopIteration") []))
   Q' (fun e s'=>aj (aA prog w) A (AC e (.type "StopIteration")) (fun b s''=>b=true/\Q none s'') E s') s:=by
 refine a6 (gU ho hd hz ?_);show aj _ _ (t_ (.type "StopIteration") [] >>= _) _ _ _;refine a6 ?_;simp only [t_,newTuple];refine a6 (cc ?_ (by size_fits));refine a6 (m:=q_ _ _) (qX (a:=dm) ?_ ?_)
 ·first
   |rfl
   |(simp only [q_];rfl)
 refine cc ?_ (by size_fits);simp only [qZ];refine a6 (wpAny_handled ?_);rw [hh];refine a6 (ae (wpAny_throw ?_));refine ou (T:="StopIteration") (b:=true) ⟨_,ar _ rfl,rfl⟩ AD ⟨rfl,?_⟩;exact h _ (((cw ..).extBut.push _).push _)
end
end
section
section
variable {prog:aI}{w:aW}{A:aV}{E:a7->a9->Prop}{s:a9}{I S:aa}{es:Array (Int×a7)}{ep:Nat}{t:qU}{i n:Nat}{first:a7}
theorem im.keep (x:im w h S es ep t) (k:∀ o,h.get? S=some o->h'.get? S=some o):im w h' S es ep t:=⟨k _ x.at_,x.txt,x.nd,x.few,x.fits,x.led,x.pl⟩
theorem xy {Q:a7->a9->Prop} (hit:xw s.heap I S first i n ep) (h:Q (.ref I) s):aj (aA prog w) A (tU (.ref I)) Q E s:=by
 refine wpAny_pyIter_slot ⟨_,hit,rfl⟩ SI.slot_iter (cq SI.slot_iter ⟨_,hit,rfl⟩ SI.entry_self ?_ (SI.args_iter _));show aj _ _ (ret (.ref I)) _ _ s;exact ae ⟨_,rfl,"set_iterator",_,⟨_,hit,rfl⟩,SI.slot_next.lookup,h⟩
theorem ft {Q:Bool->a9->Prop}{B:aV} (h:Q (w.params.followText "set-order") s):aj (aA prog w) B setsByText Q E s:=by
 unfold setsByText;exact a6 (i6 (ae h))
theorem FS {B:aV}{Q':Fin->a9->Prop}{x:a7}{nx:Nat}{E':a7->a9->Prop} (hit:xw s.heap I S first i n ep)
  (h:∀ h',xw h' I S (.int nx 0) (i+1) n ep->bU I s.heap h'->Q' (.done (.ret x)) { s with heap:=h' }) :
  aj (aA prog w) B (do fE (.ref I) 0 (bS nx);fE (.ref I) 1 (bS (i+1));ret x) Q' E' s:=by
 refine a6 (gU hit rfl (by simp) ?_);have h1:xw (s.heap.update I (eu (·.setIfInBounds 0 (bS nx)))) I S (.int nx 0) i n ep:=hit.put (by simp [bS]);refine a6 (gU h1 rfl (by simp) ?_);have h2:xw ((s.heap.update I (eu (·.setIfInBounds 0 (bS nx)))).update I (eu (·.setIfInBounds 1 (bS (i+1))))) I S (.int nx 0) (i+1) n ep:=h1.put (by simp [bS]);exact ae (h _ h2 ((cw ..).trans (cw ..)))
theorem ro (f:Nat->Nat) (es:Array (Int×a7)):(lH f es).size=es.size:=by
 rw [<- aN,(ww f es).length_eq,aN]
theorem B5 (hh:A.handled=none) (hw:w.params.followText "set-order"=true) (hne:S≠I) :
  IW prog w A I [I,S] [I] es.size (fun i v=>((lH (w.params.setOrder S ep) es).toList.map (·.2))[i]?=some v) (fun i h=>xw h I S (.int 0 0) i es.size ep/\im w h S es ep t) where
 sub:=fun b hb=>by simp at hb;simp [hb]
 frame:=fun i h h' st k=>⟨k I (by simp) _ st.1,st.2.keep fun o e=>k S (by simp) o e⟩
 item:=fun i s Q E hi st hQ=>by
  obtain ⟨hit,hS⟩:=st;refine nO hit hS rfl ?_;dsimp only;unfold F7 setWalk;refine a6 (a6 (ed hS.at_ rfl hS.fits (a6 (ft ?_))));rw [hw];simp only [if_true,bne_self_eq_false,bw,if_false];refine a6 (a6 (ed hS.at_ rfl hS.fits (a6 (ft ?_))));rw [hw];simp only [if_true];refine a6 (i6 (ae (ae ?_)));have hi':i<(lH (w.params.setOrder S ep) es).size:=by rw [ro];exact hi
  show aj _ _ (match ((lH (w.params.setOrder S ep) es)[i]?).map fun e=>(e.2,(0:Int).toNat) with
   |some (x,next)=>do fE (.ref I) 0 (bS next);fE (.ref I) 1 (bS (i+1));ret x
   |none=>do fE (.ref I) 2 .none;qZ (<- t_ (.type "StopIteration") [])) _ _ s
  rw [getElem?_pos _ i hi'];refine FS (nx:=0) hit fun h' h1 sb=>⟨_,rfl,hQ _ h' s.toks ?_ ⟨h1,hS.keep fun o e=>(sb.2 S hne).trans e⟩ fun b o hb e=>(sb.2 b fun z=>hb (by simp [z])).trans e⟩;simp [hi']
 done:=fun s Q E st hQ=>by
  obtain ⟨hit,hS⟩:=st;refine nO hit hS rfl ?_;dsimp only;unfold F7 setWalk;refine a6 (a6 (ed hS.at_ rfl hS.fits (a6 (ft ?_))));rw [hw];simp only [if_true,bne_self_eq_false,bw,if_false];refine a6 (a6 (ed hS.at_ rfl hS.fits (a6 (ft ?_))));rw [hw];simp only [if_true];refine a6 (i6 (ae (ae ?_)));show aj _ _ (match ((lH (w.params.setOrder S ep) es)[es.size]?).map fun e=>(e.2,(0:Int).toNat) with
   |some (x,next)=>do fE (.ref I) 0 (bS next);fE (.ref I) 1 (bS (es.size+1));ret x
   |none=>do fE (.ref I) 2 .none;qZ (<- t_ (.type "StopIteration") [])) _ _ s
  rw [getElem?_neg _ es.size (by rw [ro];exact cx _)];exact xx (by simpa using hh) hit rfl (by simp) fun h' eb=>hQ h' s.toks fun b o hb e=>eb b o (fun z=>hb (by simp [z])) e
 self:=fun i s Q E st h=>xy st.1 h
inductive R4 (h:bc) (T:aa) (ps:List Nat):Prop
 |mk (o k:_) (h0:h.get? T=some o) (h1:o.data=.seq (ps.map fun (p:Nat)=>lI (p:Int) 0).toArray k):R4 h T ps
theorem yX (hh:A.handled=none)  (hne:S≠I) (hT:T≠I) (hp:∀ p∈ps,p<es.size) (hn:ps.length=es.size) :
  IW prog w A I [I,S,T] [I] es.size (fun i v=>(ps.map fun p=>(es.getD p (0,.none)).2)[i]?=some v) (fun i h=>xw h I S (.ref T) i es.size ep/\im w h S es ep t/\R4 h T ps) where
 sub:=fun b hb=>by simp at hb;simp [hb]
 frame:=fun i h h' st k=>⟨k I (by simp) _ st.1,st.2.1.keep fun o e=>k S (by simp) o e,let ⟨o,q,e,d⟩:=st.2.2;⟨o,q,k T (by simp) o e,d⟩⟩
 item:=fun i s Q E hi st hQ=>by
  obtain ⟨hit,hS,o,q,e,d⟩:=st;refine nO hit hS rfl ?_;dsimp only;refine a6 (dX e d ?_);have hi':i<ps.length:=by omega
  dsimp only;rw [show ((ps.map fun (p:Nat)=>lI (p:Int) 0).toArray)[i]?=some (.int (ps[i] : Nat) 0) by simp [hi']];dsimp only;unfold setNextDrawn;refine a6 (a6 (ed hS.at_ rfl hS.fits ?_));have hlt:=hp ps[i] (jg hi');simp only [bne_self_eq_false,bw,if_false,iN];rw [getElem?_pos es ps[i] hlt];refine ae ?_;refine a6 (gU hit rfl (by simp) ?_);have h1:xw (s.heap.update I (eu (·.setIfInBounds 1 (bS (i+1))))) I S (.ref T) (i+1) es.size ep:=hit.put (by simp [bS]);have sb:bU I s.heap (s.heap.update I (eu (·.setIfInBounds 1 (bS (i+1))))):=cw ..;refine ae ⟨_,rfl,hQ _ _ s.toks ?_ ⟨h1,hS.keep fun o e=>(sb.2 S hne).trans e,o,q,(sb.2 T hT).trans e,d⟩ fun b o hb e=>(sb.2 b fun z=>hb (by simp [z])).trans e⟩;simp [hi',hlt]
 done:=fun s Q E st hQ=>by
  obtain ⟨hit,hS,o,q,e,d⟩:=st;refine nO hit hS rfl ?_;dsimp only;refine a6 (dX e d ?_);dsimp only;rw [show ((ps.map fun (p:Nat)=>lI (p:Int) 0).toArray)[es.size]?=none by simp [<- hn]];dsimp only;refine a6 (gU hit rfl (by simp) ?_);have h1:xw (s.heap.update I (eu (·.setIfInBounds 0 (bS 0)))) I S (.int 0 0) es.size es.size ep:=hit.put (by simp [bS]);have sb:bU I s.heap (s.heap.update I (eu (·.setIfInBounds 0 (bS 0)))):=cw ..;exact xx (s:={ s with heap:=s.heap.update I (eu (·.setIfInBounds 0 (bS 0))) }) (by simpa using hh) h1 rfl (by simp) fun h' eb=>hQ h' s.toks fun b o hb e=>eb b o (fun z=>hb (by simp [z])) ((sb.2 b fun z=>hb (by simp [z])).trans e)
 self:=fun i s Q E st h=>xy st.1 h
theorem FT  (h:p=#[j]):fP p 0=0:=by subst h;simp [fP,vw]
theorem FU {p:Array Nat}{j:Nat} (h:p=#[j]):fP p (j+1)=1:=by subst h;simp [fP,vw]
theorem DM (h : t.fits 1 = true) : ∃ j, t.place = #[j] := by
  have h1 : t.place.size = 1 := by
    simp only [SetTable.fits, aB, beq_iff_eq] at h; exact h.1
  exact ⟨t.place[0], by apply Array.ext; · simp [h1]
                        · intro i h2 h3; have : i = 0 := by omega
                          subst this; simp⟩
theorem Ng   (hl:t.led=true) (h:aj (aA prog w) B (k ()) Q E s) :
  aj (aA prog w) B ((if (!t.led && !es.isEmpty)=true then I_ "set:maker-not-led" else pure ()) >>= k) Q E s:=by
 rw [if_neg (by rw [hl];simp)];exact a6 (ae h)
theorem qf {B:aV}{slot g:Nat}{Q:Option (a7×Nat)->a9->Prop} (hw:w.params.followText "set-order"=false) (hS:im w s.heap S es ep t) (h1:es.size<=1)
  (h:Q (match es[fP t.place slot]?,t.place[fP t.place slot]? with|some (_,x),some j=>some (x,j+1)|_,_=>none) s):aj (aA prog w) B (F7 S slot g ep) Q E s:=by
 unfold F7;refine a6 (ed hS.at_ rfl hS.fits (a6 (ft ?_)));rw [hw];simp only [bw,if_false];split
 ·rename_i z
  exact absurd (show (!t.plain&&decide (es.size > 1))=true from z) (by simp;omega)
 ·have hl:t.led=true:=by rw [hS.led,hw];rfl
  exact Ng hl (ae h)
theorem DN (hh:A.handled=none) (hw:w.params.followText "set-order"=false) (hne:S≠I) (h1:es.size<=1) :
  IW prog w A I [I,S] [I] es.size (fun i v=>(es.toList.map (·.2))[i]?=some v)
   (fun i h=>∃ k,xw h I S (.int (k:Nat) 0) i es.size ep/\im w h S es ep t/\(i=0->k=0)/\(i=1->es.size=1->∃ j,t.place=#[j]/\k=j+1)) where
 sub:=fun b hb=>by simp at hb;simp [hb]
 frame:=fun i h h' st k=>let ⟨c,a1,a2,a3⟩:=st;⟨c,k I (by simp) _ a1,a2.keep fun o e=>k S (by simp) o e,a3⟩
 item:=fun i s Q E hi st hQ=>by
  obtain ⟨c,hit,hS,c0,c1⟩:=st;have hi0:i=0:=by omega
  subst hi0;obtain rfl:c=0:=c0 rfl;have e1:es.size=1:=by omega
  obtain ⟨j,hj⟩:=DM (t:=t) (by rw [<- e1];exact hS.fits);refine nO hit hS rfl ?_;dsimp only;refine a6 (qf hw hS h1 ?_);rw [show (((0:Nat):Int).toNat)=0 from rfl,FT hj,getElem?_pos es 0 (by omega),hj];refine FS (nx:=j+1) hit fun h' h1 sb=>⟨_,rfl,hQ _ h' s.toks ?_ ⟨j+1,h1,hS.keep fun o e=>(sb.2 S hne).trans e,by simp,fun _ _=>⟨j,hj,rfl⟩⟩ fun b o hb e=>(sb.2 b fun z=>hb (by simp [z])).trans e⟩;simp [e1]
 done:=fun s Q E st hQ=>by
  obtain ⟨c,hit,hS,c0,c1⟩:=st;refine nO hit hS rfl ?_;dsimp only;refine a6 (qf hw hS h1 ?_);have hz:es[fP t.place ((c:Nat):Int).toNat]?=none:=by
   rcases Nat.eq_zero_or_pos es.size with z|z
   ·rw [getElem?_neg];omega
   ·have e1:es.size=1:=by omega
    obtain ⟨j,hj,hc⟩:=c1 e1 e1;rw [hc,show (((j+1:Nat):Int).toNat)=j+1 from rfl,FU hj,getElem?_neg];omega
  rw [hz];exact xx (by simpa using hh) hit rfl (by simp) fun h' eb=>hQ h' s.toks fun b o hb e=>eb b o (fun z=>hb (by simp [z])) e
 self:=fun i s Q E st h=>let ⟨_,a1,_⟩:=st;xy a1 h
theorem B6 {Q:a7->a9->Prop} (hh:A.handled=none) (hS:im w s.heap S es ep t)
  (h:∀ (I:aa) (fp:List aa) (ord:List a7) (St:Nat->bc->Prop) (h':bc) (d:EG),s.heap.objs.size<=I->(∀ b∈fp,b=S\/s.heap.objs.size<=b)->(∀ b∈fp,b<h'.objs.size)->ord.Perm (es.toList.map (·.2))->(∀ B:aV,B.handled=none->IW prog w B I fp [I] ord.length (fun i v=>ord[i]?=some v) St)->St 0 h' ->
   (∀ b o,s.heap.get? b=some o->h'.get? b=some o)->IY { s with heap:=h',drawn:=d } (.ref I) "set_iterator"->Q (.ref I) { s with heap:=h',drawn:=d }):aj (aA prog w) A (tU (.ref S)) Q E s:=by
 have hT:s.TypeIs (.ref S) "set":=⟨_,hS.at_,rfl⟩;have hlt:=ai hS.at_;refine wpAny_pyIter_slot hT F.slot_set_iter (cq F.slot_set_iter hT SI.entry_iter ?_ (F.args_set_iter_1 _));show aj _ _ (oU S >>= _) _ _ s;unfold oU;refine a6 (a6 (wpAny_setEntries_of hS.at_ rfl hS.fits (ae ?_)));show aj _ _ (setDrawn S >>= _) _ _ s;unfold setDrawn;refine a6 (a6 (ed hS.at_ rfl hS.fits (a6 (ft (ae ?_)))));have fin:∀ (first:a7) (fp:List aa) (ord:List a7) (St:Nat->bc->Prop) (h':bc) (d:EG),(∀ b o,s.heap.get? b=some o->h'.get? b=some o)->s.heap.objs.size<=h'.objs.size ->
   (∀ b∈fp,b=S\/b=h'.objs.size\/(s.heap.objs.size<=b/\b<h'.objs.size))->ord.Perm (es.toList.map (·.2))->(∀ B:aV,B.handled=none->IW prog w B h'.objs.size fp [h'.objs.size] ord.length (fun i v=>ord[i]?=some v) St) ->
   (∀ h'':bc,(∀ b o,h'.get? b=some o->h''.get? b=some o)->xw h'' h'.objs.size S first 0 es.size ep->St 0 h'') ->
   aj (aA prog w) A.in1 (setEpoch S >>= fun e=>newFields "set_iterator" [first,bS 0,.ref S,bS es.size,bS e] >>= fun x=>ret x) (fun fin s'=>∃ v,fin=.done (.ret v)/\∃ T' r,s'.TypeIs v T'/\Aw (.type T') "__next__"=pure (some r)/\Q v s') E { s with heap:=h',drawn:=d }:=by
  intro first fp ord St h' d kp hsz hfp pm W st
  have hS':im w h' S es ep t:=hS.keep fun o e=>kp S o e;refine a6 (wpAny_setEpoch_of (s:={ s with heap:=h',drawn:=d }) hS'.at_ rfl hS'.fits ?_);refine a6 (cc ?_ (by size_fits));have gp:∀ b o,h'.get? b=some o->(h'.push { cls:=.type "set_iterator",dict:=none,data:=.fields #[first,bS 0,.ref S,bS es.size,bS ep] }).get? b=some o:=fun b o e=>a8 _ e;have it:(h'.push { cls:=.type "set_iterator",dict:=none,data:=.fields #[first,bS 0,.ref S,bS es.size,bS ep] }).get? h'.objs.size=some { cls:=.type "set_iterator",dict:=none,data:=.fields #[first,bS 0,.ref S,bS es.size,bS ep] }:=ar _ rfl;refine ae ⟨_,rfl,"set_iterator",_,⟨_,it,rfl⟩,SI.slot_next.lookup,h h'.objs.size fp ord St _ d hsz (fun b hb=>?_) (fun b hb=>?_) pm W (st _ gp it) (fun b o e=>gp b o (kp b o e)) ⟨_,it,rfl⟩⟩
  ·rcases hfp b hb with z|z|z
   ·exact .inl z
   ·exact .inr (by rw [z];exact hsz)
   ·exact .inr z.1
  ·rw [bY];rcases hfp b hb with z|z|z
   ·rw [z];exact gj (az hlt hsz)
   ·rw [z];exact gL _
   ·exact gj z.2
 dsimp only;split
 ·rename_i z
  have z:(!w.params.followText "set-order" && (!t.plain&&decide (es.size > 1)))=true:=z;refine a6 (qe _ _ _ _ (by simp) fun ys d pm=>?_);simp only [newTuple];have hyl:ys.length=es.size:=by have:=pm.length_eq;rwa [fW] at this
  have zl:=mQ hS.few;refine a6 (cc ?_ (by show (ys.map fun (i:Nat)=>bS i).toArray.size<=sizeLine;simp;omega));have tp:∀ ob:Obj,(s.heap.push ob).objs.size=s.heap.objs.size+1:=fun ob=>bY ..;refine fin (.ref s.heap.objs.size) [s.heap.objs.size+1,S,s.heap.objs.size] (ys.map fun p=>(es.getD p (0,.none)).2)
   (fun i h=>xw h (s.heap.objs.size+1) S (.ref s.heap.objs.size) i es.size ep/\im w h S es ep t/\R4 h s.heap.objs.size ys) (s.heap.push _) d
   (fun b o e=>a8 _ e) (by rw [tp];exact lF _) (fun b hb=>?_) ?_ (fun B hB=>?_) (fun h'' k it=>⟨by rw [tp] at it;exact it,hS.keep fun o e=>k S o (a8 _ e),_,_,k _ _ (ar _ rfl),rfl⟩)
  ·simp only [b9,aR,or_false] at hb;rcases hb with y|y|y
   ·exact .inr (.inl (by rw [tp];exact y))
   ·exact .inl y
   ·exact .inr (.inr ⟨by rw [y];exact ao _,by rw [tp,y];exact gL _⟩)
  ·refine (pm.map _).trans (.of_eq ?_);apply List.ext_getElem
   ·simp
   ·intro k h1 h2;have:k<es.size:=by simpa using h1
    simp [this]
  ·rw [au,hyl,tp];exact yX hB (aF (gj hlt)) (aF (gL _)) (fun p hp=>List.mem_range.mp (pm.mem_iff.mp hp)) hyl
 ·rename_i z
  have z:¬ (!w.params.followText "set-order" && (!t.plain&&decide (es.size > 1)))=true:=z;refine a6 (ae ?_);have hne:S≠s.heap.objs.size:=aF hlt;cases hw:w.params.followText "set-order" with
  |true =>
   refine fin (bS 0) [s.heap.objs.size,S] ((lH (w.params.setOrder S ep) es).toList.map (·.2)) (fun i h=>xw h s.heap.objs.size S (.int 0 0) i es.size ep/\im w h S es ep t) s.heap s.drawn (fun _ _ e=>e) (ao _) (fun b hb=>?_) ((ww _ es).map _) (fun B hB=>?_) (fun h'' k it=>⟨it,hS.keep fun o e=>k S o e⟩)
   ·simp only [b9,aR,or_false] at hb;exact hb.elim (fun z=>.inr (.inl z)) .inl
   ·rw [au,aN,ro];exact B5 hB hw hne
  |false =>
   have h1:es.size<=1:=by
    rw [hw] at z;rcases hS.pl with y|y
    ·omega
    ·rw [y] at z;simpa using z
   refine fin (bS 0) [s.heap.objs.size,S] (es.toList.map (·.2)) (fun i h=>∃ k,xw h s.heap.objs.size S (.int (k:Nat) 0) i es.size ep/\im w h S es ep t/\(i=0->k=0)/\(i=1->es.size=1->∃ j,t.place=#[j]/\k=j+1)) s.heap s.drawn (fun _ _ e=>e) (ao _) (fun b hb=>?_) (.refl _) (fun B hB=>?_) (fun h'' k it=>⟨0,it,hS.keep fun o e=>k S o e,fun _=>rfl,fun y=>by cases y⟩)
   ·simp only [b9,aR,or_false] at hb;exact hb.elim (fun z=>.inr (.inl z)) .inl
   ·rw [au,aN];exact DN hB hw hne h1
end
end
section
section
theorem yY (hh:A.handled=none) (hS:im w s.heap S es ep t)
  (h:∀ (ord:List a7) (h':bc) (d:EG) (tk:Nat),ord.Perm (es.toList.map (·.2))->(∀ b o,s.heap.get? b=some o->h'.get? b=some o)->s.heap.objs.size<=h'.objs.size->Q ord { s with heap:=h',drawn:=d,toks:=tk }) :
  aj (aA prog w) A (collect (.ref S)) Q E s:=by
 have hlt:=ai hS.at_;unfold collect;refine a6 (wpAny_runValue (gz F.entry_proto_collect ?_));rw [gm F.plain_proto_collect _];show aj _ A.in1 (newList [] >>= fun l=>again (.builtin "list.__iadd__" ⟨[l,.ref S],[]⟩)) _ _ s;refine a6 (cc ?_);refine ae ⟨tm F.plain_list_iadd _,gz F.entry_list_iadd ?_⟩;rw [gm F.plain_list_iadd _];let s1:a9:={ s with heap:=s.heap.push { cls:=.type "list",data:=.seq ([] : List a7).toArray } }
 have sz1:s1.heap.objs.size=s.heap.objs.size+1:=bY ..;have at1:s1.heap.get? s.heap.objs.size=some { cls:=.type "list",data:=.seq ([] : List a7).toArray }:=ar _ rfl;have hS1:im w s1.heap S es ep t:=hS.keep fun o e=>a8 _ e;show aj _ A.in1 (pQ (.ref s.heap.objs.size) (.ref S) (.ref s.heap.objs.size)) _ _ s1;have hT1:s1.TypeIs (.ref S) "set":=⟨_,hS1.at_,rfl⟩;unfold pQ;refine a6 (oT hT1 ?_);have e1:sf (.ref s.heap.objs.size) (.ref S)=false:=by simp [sf,fA hlt]
 have e2:(gx "set" == gx "list")=false:=by decide
 have e3:(gx "set" == gx "tuple")=false:=by decide
 simp only [e1,e2,e3,Bool.or_false,bw,if_false];refine a6 (B6 (A:=A.in1) (by simpa using hh) hS1 fun I fp ord St h' d hI hfp hfl pm W st kp tI=>?_);let s2:a9:={ s1 with heap:=h',drawn:=d }
 have hS2:im w s2.heap S es ep t:=hS1.keep fun o e=>kp S o e;have hT2:s2.TypeIs (.ref S) "set":=⟨_,hS2.at_,rfl⟩;refine a6 (cB ?_);unfold Builtin.List.listLengthHint;refine a6 (yB (s:=s2) hT2 F.slot_set_len.lookup ?_);dsimp only;rw [show splitId "set.__len__"=some ("set","__len__") from by decide +kernel];dsimp only;refine a6 (ou (b:=true) (s:=s2) hT2 (by rw [AB];kernel_rfl) ?_);rw [if_neg (by decide),if_pos (by decide)];refine a6 (oT (s:=s2) hT2 (ae ?_));rw [if_pos (by decide)];refine a6 (gT ?_);have nS:s.heap.objs.size∉fp:=fun z=>by
  rcases hfp _ z with q|q
  ·exact absurd hlt (by rw [<- q];exact cx _)
  ·rw [sz1] at q;exact absurd q (Nat.not_succ_le_self _)
 have at2:s2.heap.get? s.heap.objs.size=some { cls:=.type "list",data:=.seq ([] : List a7).toArray }:=kp _ _ at1;refine a6 ?_;show aj _ A.in1 (updateSeq s.heap.objs.size (·.push .none) >>= fun _=>updateSeq s.heap.objs.size (·.pop)) _ _ s2;refine a6 (yD at2 rfl ?_);have at3:=fN (ik (·.push dm)) at2 rfl;refine yD at3 rfl ?_;have at4:=fN (ik (·.pop)) at3 rfl;have oth:∀ b o,b≠s.heap.objs.size->s2.heap.get? b=some o->((s2.heap.update s.heap.objs.size (ik (·.push dm))).update s.heap.objs.size (ik (·.pop))).get? b=some o :=
  fun b o hb e=>(mP _ _ (dU hb)).trans ((mP _ _ (dU hb)).trans e)
 have zl:ord.length<=sizeLine:=by rw [pm.length_eq,au,aN];exact mQ hS.few
 have W1:=W A.in1 (by simpa using hh);refine ae ⟨tm F.plain_extend_loop _,codeAny_extend_loopS (A:=A) W1.toS zl _ nS _ ord.length 0 { s2 with heap:=(s2.heap.update s.heap.objs.size (ik (·.push dm))).update s.heap.objs.size (ik (·.pop)) } _ _ rfl (bV _) (W1.frame 0 _ _ st fun b hb o e=>oth b o (fun z=>nS (z ▸ hb)) e) at4 (ItemsOf.nil _) fun s' acc' c' hm hS' hacc=>?_⟩;show aj _ A (load s.heap.objs.size >>= _) _ _ s';refine a6 (wpAny_load hS' (ae ?_));have hacc':acc'.toList=ord:=by
  apply List.ext_getElem?;intro j;rw [dg];by_cases hj:j<acc'.size
  ·have:=hacc.2 j acc'[j] (by simp [hj]);rw [this];simp [hj]
  ·rw [getElem?_neg acc' j hj,bT (by rw [<- hacc.1];omega)]
 rw [hacc'];obtain ⟨h3,g3,d3,t3,o3⟩:=s';obtain rfl:g3=s.gens:=hm.gens;obtain rfl:d3=d:=hm.drawn;obtain rfl:o3=s.os:=hm.os;have old:∀ b o,s.heap.get? b=some o->h3.get? b=some o:=fun b o e=>by
  have hb:=ai e;refine hm.heap b o ?_ (oth b o (aF hb) (kp b o (a8 _ e)));simp only [b9,aR,or_false,not_or];exact ⟨aF hb,aF (az hb (by have q:=hI;rw [sz1] at q;exact Nat.le_of_succ_le q))⟩
 refine h ord h3 _ t3 pm old ?_;have:=ai (show h3.get? s.heap.objs.size=some _ from hS');exact bd this
theorem yZ  (hc:aj (aA prog w) A.in1 (collect x) (fun vs s1=>∃ ss,mR vs ss/\vs.length<64 /\
   ∀ (h':bc) (vs':List a7) (ss':List Str) (e:Nat),(∀ b o,s1.heap.get? b=some o->h'.get? b=some o)->h'.get? s1.heap.objs.size=some (seqObj "list" vs'.toArray e)->mR vs' ss'->ss'.Perm ss->sortedS ss'=true ->
    Q (.ref s1.heap.objs.size) { s1 with heap:=h' }) E s):aj (aA prog w) A (call (.builtin "sorted") [x]) Q E s:=by
 refine w6 kind_sorted plain_sorted entry_sorted (args_sorted1 _) ?_;unfold i5.«sorted»;refine a6 (m:=checkCount "sorted" 1 1 _) (ae ?_);refine a6 (bR hc (fun vs s1 z=>?_) fun _ _ z=>z);obtain ⟨ss,hss,h64,hq⟩:=z;refine a6 (wpAny_newList ?_);have at1:(s1.heap.push (seqObj "list" vs.toArray 0)).get? s1.heap.objs.size=some (seqObj "list" vs.toArray 0):=ar _ rfl;show aj _ _ _ _ _ { s1 with heap:=s1.heap.push (seqObj "list" vs.toArray 0) };refine a6 (cB (cq slot_list_sort ⟨_,at1,rfl⟩ entry_list_sort (list_sort_treeK strKind_oneLt at1 hss.keysOf (fun v₁ v₂ bB e=>keyKind_strs (by rw [<- e];exact hss)) h64 fun st' a1 a2=>⟨_,rfl,?_⟩) (args_list_sort _)));obtain ⟨ss',p1,p2,p3⟩:=sorted_out_str hss a1 a2;obtain ⟨e,at2⟩:=sortedHeap_at (out:=(arrOf st').map (·.2)) at1;refine ae ⟨_,rfl,hq _ _ ss' e (fun b o q=>?_) at2 p1 p2 p3⟩;have hb:=ai q;rw [sortedHeap_old (aF hb) (by rw [bY];exact gj hb)];exact a8 _ q
end
end
section
def li (x y:Str):Bool:=decide (x.cps.toList<y.cps.toList)
def B7 (x:Str):List Str->List Str
 |[]=>[x]
 |y::r=>if li y x then y::B7 x r else x::y::r
def iM:List Str->List Str
 |[]=>[]
 |x::r=>B7 x (iM r)
theorem rq (x:Str):∀ l,(B7 x l).Perm (x::l)
 |[]=>.refl _
 |y::r=>by
  rw [B7];split
  ·exact ((rq x r).cons y).trans (.swap ..)
  ·exact .refl _
theorem gW:∀ l,(iM l).Perm l
 |[]=>.refl _
 |x::r=>(rq x _).trans ((gW r).cons x)
theorem ui (x:Str):li x x=false:=decide_eq_false (List.lt_irrefl _)
theorem rz (h1:li x y=true) (h2:li y z=true):li x z=true :=
 decide_eq_true (List.lt_trans (of_decide_eq_true h1) (of_decide_eq_true h2))
theorem tJ (h1:li x y=false) (h2:li y x=false):x=y:=by
 have h1:¬ x.cps.toList<y.cps.toList:=of_decide_eq_false h1;have h2:¬ y.cps.toList<x.cps.toList:=of_decide_eq_false h2;have:x.cps.toList=y.cps.toList:=List.le_antisymm (List.not_lt.mp h2) (List.not_lt.mp h1)
 cases x;cases y;exact congrArg Str.mk (Array.toList_inj.mp this)
abbrev IL (l:List Str):Prop:=l.Pairwise fun a b=>li b a=false
theorem FV (x:Str):∀ l,IL l->IL (B7 x l)
 |[],_=>by simp [B7,IL]
 |y::r,h=>by
  obtain ⟨h1,h2⟩:=List.pairwise_cons.mp h;rw [B7];split
  ·rename_i hy
   refine List.pairwise_cons.mpr ⟨fun z hz=>?_,FV x r h2⟩;rcases List.mem_cons.mp ((rq x r).mem_iff.mp hz) with e|e
   ·subst e;cases q:li z y with
    |false=>rfl
    |true=>exact absurd (rz q hy) (by rw [ui];decide)
   ·exact h1 z e
  ·rename_i hy
   have hy:li y x=false:=by simpa using hy
   refine List.pairwise_cons.mpr ⟨fun z hz=>?_,h⟩;rcases List.mem_cons.mp hz with e|e
   ·subst e;exact hy
   ·cases q:li z x with
    |false=>rfl
    |true =>
     have hzy:=h1 z e;cases q2:li x y with
     |true=>rw [rz q q2] at hzy;cases hzy
     |false=>rw [<- tJ hy q2,hzy] at q;cases q
theorem qg:∀ l,IL (iM l)
 |[]=>.nil
 |x::r=>FV x _ (qg r)
theorem qh:∀ (p:Str) (l:List Str),risingS p l=true->IL (p::l)
 |p,[],_=>by simp [IL]
 |p,x::r,h=>by
  rw [risingS,aB] at h;obtain ⟨h1,h2⟩:=h;have h1:li x p=false:=by
   rw [ltCps_eq] at h1;simpa [li] using h1
  have ih:=qh x r h2;refine List.pairwise_cons.mpr ⟨fun z hz=>?_,ih⟩;rcases List.mem_cons.mp hz with e|e
  ·rw [e];exact h1
  ·have hzx:=(List.pairwise_cons.mp ih).1 z e;cases q:li z p with
   |false=>rfl
   |true =>
    cases q2:li p x with
    |true=>rw [rz q q2] at hzx;cases hzx
    |false=>rw [tJ q2 h1,hzx] at q;cases q
theorem xz:∀ (l:List Str),sortedS l=true->IL l
 |[],_=>.nil
 |x::r,h=>qh x r h
theorem wx:∀ {l l':List Str},l.Perm l'->IL l->IL l'->l=l'
 |[],l',p,_,_=>by rw [List.nil_perm.mp p]
 |x::r,[],p,_,_=>by have:=p.length_eq;simp at this
 |x::r,y::r',p,h,h'=>by
  obtain ⟨a1,a2⟩:=List.pairwise_cons.mp h;obtain ⟨b1,b2⟩:=List.pairwise_cons.mp h';have e:x=y:=by
   have hx:x∈y::r':=p.mem_iff.mp av;have hy:y∈x::r:=p.mem_iff.mpr av;rcases List.mem_cons.mp hx with e|e
   ·exact e
   ·rcases List.mem_cons.mp hy with e' | e'
    ·exact e'.symm
    ·exact tJ (b1 x e) (a1 y e')
  subst e;rw [wx (List.Perm.cons_inv p) a2 b2]
theorem y_ (p:l'.Perm l) (h:sortedS l'=true):l'=iM l:=wx (p.trans (gW l).symm) (xz _ h) (qg l)
theorem wy (h:IL l) (nd:l.Nodup):l.Pairwise fun a b=>li a b=true:=by
 induction l with
 |nil=>exact .nil
 |cons x r ih =>
  obtain ⟨a1,a2⟩:=List.pairwise_cons.mp h;obtain ⟨n1,n2⟩:=List.nodup_cons.mp nd;refine List.pairwise_cons.mpr ⟨fun y hy=>?_,ih a2 n2⟩;cases q:li x y with
  |true=>rfl
  |false=>exact absurd (tJ q (a1 y hy) ▸ hy) n1
theorem jq:∀ {ss:List Str}{us:List a7},cz (ss.map V.str) us->mR us ss
 |[],_,.nil=>.nil
 |x::r,_,.cons h t=>by obtain ⟨tk,rfl⟩:=h;exact .cons x tk (jq t)
theorem lP:∀ {ss:List Str}{us:List a7},mR us ss->cz (ss.map V.str) us
 |_,_,.nil=>.nil
 |_,_,.cons x t h=>.cons ⟨t,rfl⟩ (lP h)
theorem eh:∀ {ss:List Str}{us:List a7},mR us ss->us.length=ss.length
 |_,_,.nil=>rfl
 |_,_,.cons x t h=>by simp [eh h]
theorem uj  (h:mR us ss) (i:Nat) (v:a7) (e:us[i]?=some v):∃ x t,ss[i]?=some x/\v=ic x t:=by
 induction h generalizing i with
 |nil=>simp at e
 |cons y t _ ih =>
  cases i with
  |zero=>simp at e;exact ⟨y,t,by simp,e.symm⟩
  |succ i=>simp at e;simpa using ih i e
theorem qi:∀ {l:List (Int×a7)},(∀ e∈l,uh w e)->mR (l.map (·.2)) (l.map B3)
 |[],_=>.nil
 |e::r,h=>by
  obtain ⟨x,tk,rfl⟩:=h e av;exact .cons x tk (qi fun e he=>h e (am _ he))
theorem xA  (h:mR us ss) (p:us'.Perm us):∃ ss',mR us' ss'/\ss'.Perm ss:=by
 refine ⟨us'.map strOf,strsAre_map _ fun v hv=>h.all v (p.mem_iff.mp hv),?_⟩;rw [<- h.strs];exact p.map _
def sV (w:aW) (a:aa) (ss:List Str):HO:=.ext fun h=>lf w h a ss
theorem Ch      (x:lf w h a ss):cC P w H h a (sV w a ss) :=
 ⟨x,let ⟨_,_,_,I,_⟩:=x;⟨_,I.at_⟩,fun _ _ y k=>y.keep k⟩
section
theorem z0 (hc:X.calm=true):iK X (.type "set") (fun xs H Q=>∃ p ss,xs=[.ref p]/\(k_ X.K H p (ss.map V.str)\/iF X.K H p (ss.map V.str))/\ss.length+1<fD/\∀ a,H a=none->Q (.ref a) (upd H a (sV X.w a (dE [] ss)))):=by
 intro pins s σ H xs us Q I r h;obtain ⟨p,ss,rfl,hq,hz,q⟩:=h;obtain ⟨u,rfl,rx⟩:=kh r;cases rx;have hh:=I.ok.hd hc;have fin:∀ (h':bc) (tk:Nat),lf X.w h' s.heap.objs.size (dE [] ss)->(∀ b o,s.heap.get? b=some o->h'.get? b=some o)->EP X pins σ Q (.ref s.heap.objs.size) { s with heap:=h',toks:=tk }:=fun h' tk hS kp =>
  ⟨.ref s.heap.objs.size,_,I.laid (t':=tk) kp (ao _) (Ch hS),rfl,q _ (I.hok.fresh (ao _))⟩
 rcases hq with hq|hq
 ·obtain ⟨its,r',⟨o,n,ho,h1,h2,h3⟩,_⟩:=I.list hq;have sa:=jq r';exact qd (FR (by simpa using hh) h1 ⟨n,h3⟩) ho (fun i v e=>uj sa i v (by simpa using e)) (by simp [eh sa]) (by simp [eh sa];exact hz) fin
 ·obtain ⟨its,r',⟨o,ho,h1,n,h3⟩,_⟩:=I.tuple hq;have sa:=jq r';exact qd (JM (by simpa using hh) h1 ⟨n,h3⟩) ho (fun i v e=>uj sa i v (by simpa using e)) (by simp [eh sa]) (by simp [eh sa];exact hz) fin
theorem rA:iK X (.builtin "sorted") (fun xs H Q=>∃ p ss,xs=[.ref p]/\k_ X.K H p (ss.map V.str)/\ss.length<64/\∀ l,H l=none->Q (.ref l) (upd H l (.lst ((iM ss).map V.str)))):=by
 intro pins s σ H xs us Q I r h;obtain ⟨p,ss,rfl,hq,hz,q⟩:=h;obtain ⟨u,rfl,rx⟩:=kh r;cases rx;obtain ⟨its,r',pl,hl⟩:=I.list hq;have sa:=jq r';refine sorted_strs pl.isList sa (by rw [eh sa];exact hz) fun out ss' a1 a2 a3=>?_;obtain ⟨e,he⟩:=sortedAll_at s.heap its out;have kp:∀ b o,s.heap.get? b=some o->(sortedAll s.heap its out).get? b=some o:=fun b o=>sortedAll_old;obtain rfl:=y_ a2 a3;refine ⟨.ref (s.heap.objs.size+1),upd H (s.heap.objs.size+1) (.lst ((iM ss).map V.str)),I.laid (t':=s.toks) kp (lF _) (show cC X.prog X.w _ _ _ (.lst _) from ⟨?_,out.toList,e,lP a1,by simpa [seqObj] using he⟩),rfl,q _ (I.hok.fresh (lF _))⟩;rw [au,(gW ss).length_eq];have:=hl;rw [au] at this;exact this
theorem sW (hc:X.calm=true):iK X (.builtin "sorted") (fun xs H Q=>∃ p ss,xs=[.ref p]/\H p=some (sV X.w p ss)/\ss.length<64/\∀ l,H l=none->Q (.ref l) (upd H l (.lst ((iM ss).map V.str)))):=by
 intro pins s σ H xs us Q I r h;obtain ⟨p,ss,rfl,hq,hz,q⟩:=h;obtain ⟨u,rfl,rx⟩:=kh r;cases rx;have hh:=I.ok.hd hc;obtain ⟨⟨es,ep,t,S,pm⟩,_⟩:=(show cC X.prog X.w H s.heap p (sV X.w p ss) from I.hok p _ hq);refine yZ (yY (by simpa using hh) S fun ord h' d tk po kp sz=>?_);obtain ⟨ss1,sa,p1⟩:=xA (qi S.txt) po;have ln:ss1.length=ss.length:=(p1.trans pm).length_eq;refine ⟨ss1,sa,by rw [eh sa,ln];exact hz,fun h2 vs' ss' e kp2 at2 sa2 p2 s2=>?_⟩;have kk:∀ b o,s.heap.get? b=some o->h2.get? b=some o:=fun b o e=>kp2 b o (kp b o e);have es':ss'=iM ss:=y_ (p2.trans (p1.trans pm)) s2;subst es';have fr:=I.hok.fresh sz;have ok2:cC X.prog X.w (upd H h'.objs.size (.lst ((iM ss).map V.str))) h2 h'.objs.size (.lst ((iM ss).map V.str)) :=
  ⟨by rw [au,(gW ss).length_eq];exact a_ (bd hz) (by rw [eW];decide),vs',e,lP sa2,at2⟩
 exact ⟨.ref h'.objs.size,_,I.call' (s':={ s with heap:=h2,drawn:=d,toks:=tk }) (ch:=[]) rfl (Un.laid kk sz fr) (I.hok.laid kk sz ok2) I.bare (fun b z=>absurd z (by simp)),rfl,q _ fr⟩
end
end
section
section
theorem su {prog:aI}{w:aW}{B:aV}{bs:List Bool}{its:List a7} (r:cz (bs.map V.bl) its):TruthOf prog w B (fun i v=>its.toArray[i]?=some v) (fun i=>bs.getD i false):=by
 intro i v s Q E hv hq;have hv:its[i]?=some v:=by simpa using hv
 have hl:=r.length;rw [au] at hl;obtain ⟨hi,_⟩:=List.getElem?_eq_some_iff.mp hv;have hb:bs[i]?=some bs[i]:=bg (by omega);obtain ⟨u,hu,ru⟩:=r.get (i:=i) (x:=.bl bs[i]) (by rw [aE,hb];rfl);rw [hv] at hu;cases hu;cases ru;have hq:Q (bs.getD i false) s:=hq;rw [eB,hb] at hq;exact cL hq
theorem FW (bs:List Bool):(bL bs.length).all (fun i=>bs.getD i false)=bs.all id:=by
 rw [fG,cj,cj];constructor
 ·intro h b hb;obtain ⟨i,hi,rfl⟩:=jH hb;have:=h i (List.mem_range.mpr hi);simpa [eB,hi] using this
 ·intro h i hi;have hi:=List.mem_range.mp hi;have:=h bs[i] (jg hi);simpa [eB,hi] using this
theorem FX (bs:List Bool):(bL bs.length).any (fun i=>bs.getD i false)=bs.any id:=by
 rw [fG,tq,tq];constructor
 ·rintro ⟨i,hi,h⟩;have hi:=List.mem_range.mp hi;exact ⟨bs[i],jg hi,by simpa [eB,hi] using h⟩
 ·rintro ⟨b,hb,h⟩;obtain ⟨i,hi,rfl⟩:=jH hb;exact ⟨i,List.mem_range.mpr hi,by simpa [eB,hi] using h⟩
theorem uk (hc:X.calm=true):iK X (.builtin "all") (fun xs H Q=>∃ p,∃ bs:List Bool,xs=[.ref p]/\k_ X.K H p (bs.map V.bl)/\Q (.bl (bs.all id)) H):=by
 intro pins s σ H xs us Q I r h;obtain ⟨p,bs,rfl,hq,q⟩:=h;obtain ⟨u,rfl,rx⟩:=kh r;cases rx;obtain ⟨its,r',pl,hl⟩:=I.list hq;have ln:its.toArray.size=bs.length:=by have:=r'.length;simp at this ⊢;omega
 obtain ⟨o,ho,hk⟩:=pl.isList;refine call_all_walk (ji pl.isList ⟨_,_,_,_,_,_,_,rfl,vt (by simpa using I.ok.hd hc) _ p (aF (ai ho)) its.toArray,⟨⟨_,ar _ rfl,rfl,rfl⟩,pl.isList.push _⟩,su r',fun h' tk kp=>?_⟩);rw [ln,FW];refine ⟨.bl _,H,I.kept (t':=tk) fun b o e=>kp b o ?_ (a8 _ e),rfl,q⟩;simp only [dB];exact aF (ai e)
theorem ul (hc:X.calm=true):iK X (.builtin "any") (fun xs H Q=>∃ p,∃ bs:List Bool,xs=[.ref p]/\k_ X.K H p (bs.map V.bl)/\Q (.bl (bs.any id)) H):=by
 intro pins s σ H xs us Q I r h;obtain ⟨p,bs,rfl,hq,q⟩:=h;obtain ⟨u,rfl,rx⟩:=kh r;cases rx;obtain ⟨its,r',pl,hl⟩:=I.list hq;have ln:its.toArray.size=bs.length:=by have:=r'.length;simp at this ⊢;omega
 obtain ⟨o,ho,hk⟩:=pl.isList;refine call_any_walk (ji pl.isList ⟨_,_,_,_,_,_,_,rfl,vt (by simpa using I.ok.hd hc) _ p (aF (ai ho)) its.toArray,⟨⟨_,ar _ rfl,rfl,rfl⟩,pl.isList.push _⟩,su r',fun h' tk kp=>?_⟩);rw [ln,FX];refine ⟨.bl _,H,I.kept (t':=tk) fun b o e=>kp b o ?_ (a8 _ e),rfl,q⟩;simp only [dB];exact aF (ai e)
theorem DO:nN X (bz .LtE) (fun x y H Q=>∃ i j,x=.str i/\y=.str j/\Q (.bl (!decide (j.cps.toList<i.cps.toList))) H):=by
 intro pins s σ H x y v u Q I rx ry h;obtain ⟨i,j,rfl,rfl,q⟩:=h;obtain ⟨t,rfl⟩:=rx;obtain ⟨t',rfl⟩:=ry;exact PySem.P.le_str (fY I q rfl)
end
end
section
def OK (x:Str):It:=⟨fun i _=>i<x.cps.size,fun i H v H'=>H'=H/\∃ c,x.cps[i]?=some c/\v=.str ⟨#[c]⟩,fun i _=>x.cps.size<=i⟩
theorem FY {P:aI}{w:aW}{K:a5}{tg:aO} (x:Str) (t:Tok) (it:aa):yH P w K tg (OK x) [it] it (fun i h=>h.IsStrIter it (fQ x) x t i) where
 mem:=by simp
 obj:=fun i h st b hb=>by
  obtain rfl:b=it:=by simpa using hb
  obtain ⟨o,e,c,d⟩:=st;exact ⟨o,e,fun v z=>by rw [d] at z;cases z⟩
 keep:=fun i h h' st k=>let ⟨o,e,r⟩:=st;⟨o,k it (by simp) o e,r⟩
 item:=by
  intro X hP hw hK hc i pins s σ H E I hf st hg;subst hP hw hK;have hg:i<x.cps.size:=hg;obtain ⟨f0,f1,f2,f3,f4,f5⟩:=hf it (by simp);have hx:x.cps[i]?=some x.cps[i]:=getElem?_pos _ i hg;have go:∀ (h':bc) (tk tk':Nat),h'.IsStrIter it (fQ x) x t (i+1)->bU it s.heap h'->∃ u,some (ic ⟨#[x.cps[i]]⟩ tk)=some u /\
    aj (aA X.prog X.w) X.A (gy tg (.ref it) u) (fun _ s2=>∃ v H',bf X pins σ H' s2/\cu v u/\(OK x).yld i H v H'/\s2.heap.IsStrIter it (fQ x) x t (i+1)/\∀ b∈[it],H' b=none) E { s with heap:=h',toks:=tk' }:=fun h' tk tk' st' sb=>by
   have I1:bf X pins σ H { s with heap:=h',toks:=tk' }:=I.turned (fun b o hb e=>(sb.2 b hb).trans e) f0 f1 f3 f4 f5;refine ⟨_,rfl,?_⟩;have q:∃ v H',bf X pins σ H' { s with heap:=h',toks:=tk' }/\cu v (ic ⟨#[x.cps[i]]⟩ tk)/\(OK x).yld i H v H'/\h'.IsStrIter it (fQ x) x t (i+1)/\∀ b∈[it],H' b=none :=
    ⟨.str ⟨#[x.cps[i]]⟩,H,I1,⟨tk,rfl⟩,⟨rfl,_,hx,rfl⟩,st',fun b hb=>(hf b hb).1⟩
   unfold gy;cases tg<;>exact ae q
  cases ha:x.cps.all (·<128)
  ·have ty:fQ x="str_iterator":=by unfold fQ;rw [ha];rfl
   rw [ty] at st;exact wpAny_pyNext_wide_item st hx fun h' st' sb=>go h' _ _ (by rw [ty];exact st') sb
  ·have ty:fQ x="str_ascii_iterator":=by unfold fQ;rw [ha];rfl
   rw [ty] at st;exact wpAny_pyNext_ascii_item st hx fun h' st' sb=>go h' _ _ (by rw [ty];exact st') sb
 done:=by
  intro X hP hw hK hc i pins s σ H E I hf st hg;subst hP hw hK;have hg:x.cps.size<=i:=hg;obtain ⟨f0,f1,f2,f3,f4,f5⟩:=hf it (by simp);have hx:x.cps[i]?=none:=getElem?_neg _ i (Nat.not_lt.mpr hg);unfold fQ at st;cases ha:x.cps.all (·<128)
  ·rw [ha] at st;exact wpAny_pyNext_wide_end (I.ok.hd hc) st hx fun h' eb=>⟨rfl,I.turned (t':=s.toks) (fun b o hb e=>eb b o hb e) f0 f1 f3 f4 f5⟩
  ·rw [ha] at st;exact wpAny_pyNext_ascii_end (I.ok.hd hc) st hx fun h' eb=>⟨rfl,I.turned (t':=s.toks) (fun b o hb e=>eb b o hb e) f0 f1 f3 f4 f5⟩
 self:=fun _ _ _ _ _ st h=>by
  unfold fQ at st;cases ha:x.cps.all (·<128)
  ·rw [ha] at st;exact wpAny_pyIter_striter_wide st h
  ·rw [ha] at st;exact wpAny_pyIter_striter_ascii st h
def R5 (tl:TE):TI:=fun σ H R=>tl σ H fun v H1=>∃ x,v=.str x/\R (OK x) H1
theorem FZ {X:Cx}{tg l:aO}{tl:TE} (hl:PE X l tl):PI X tg l (R5 tl):=by
 intro pins s σ H R I h;refine eD (hl pins s σ H _ I h) fun v s1 h_0=>?_;obtain ⟨y,H1,I1,r1,q1⟩:=h_0;obtain ⟨x,rfl,q⟩:=q1;obtain ⟨t,rfl⟩:=r1;refine wpAny_pyIter_strU ?_;refine ⟨s1.heap.objs.size,[s1.heap.objs.size],_,_,H1,rfl,I1.kept (t':=s1.toks) fun b o e=>a8 _ e,FY x t _,⟨_,ar _ rfl,rfl,rfl⟩,fun b hb=>?_,q⟩;obtain rfl:b=s1.heap.objs.size:=by simpa using hb
 exact I1.fpOk (ao _) (I1.hok.fresh (ao _))
end
section
section
theorem bf.turnedL {t':Nat}{ch:List aa} (I:bf X pins σ H s) (k:∀ b o,b∉ch->s.heap.get? b=some o->h'.get? b=some o) (hf:∀ b∈ch,pV X pins H b):bf X pins σ H { s with heap:=h',toks:=t' }:=by
 have nt:∀ b u,H b=some u->b∉ch:=fun b u e z=>by rw [(hf b z).1] at e;cases e
 refine I.step (g':=s.gens) (d':=s.drawn) (ch:=ch) (fun b hb=>?_) (fun b o _ _ hc e _=>k b o hc e) (fun b o _ _ hc e _=>⟨o.slots,k b o hc e⟩) (fun _ _ _ _ n=>n)
  (fun b o hc e=>⟨o,k b o hc e⟩) (fun _ _ e=>e) (fun _ _ _ e=>e) (fun b ps e=>⟨#[],by rw [e];simp⟩) (fun m hm=>?_) (fun b u e=>?_) I.bare
 ·obtain ⟨f0,f1,f2,f3,f4,f5⟩:=hf b hb;exact ⟨f3,f1,f4,f5⟩
 ·obtain ⟨o,es,ep,ho,r⟩:=hm;exact ⟨o,es,ep,k _ o (fun z=>(hf _ z).f1 rfl) ho,r⟩
 ·refine (I.hok b u e).stay (fun c v hc q=>k c v ?_ q) (fun _ q=>q) fun _ _ q=>q;rcases hc with z|z
  ·rw [z];exact nt b u e
  ·exact nt c _ z
theorem bf.track  (I:bf X pins σ H s) (hf:pV X pins H D) (new:cC X.prog X.w (upd H D ho) s.heap D ho):bf X pins σ (upd H D ho) s:=by
 obtain ⟨f0,f1,f2,f3,f4,f5⟩:=hf;have I':bf X pins σ (upd H D ho) { s with heap:=s.heap,gens:=s.gens,drawn:=s.drawn,toks:=s.toks }:=I.step (ch:=[D]) (fun b hb=>by
   obtain rfl:b=D:=by simpa using hb
   exact ⟨f3,f1,f4,f5⟩) (fun b o _ _ _ e _=>e) (fun b o _ _ _ e _=>⟨o.slots,e⟩) (fun b o hc e n=>by rw [aJ (fun z=>hc (by simp [z]))];exact n) (fun b o _ e=>⟨o,e⟩)
  (fun b xs e=>by rw [aJ (aS e f0)];exact e) (fun b o xs e=>by rw [aJ (aS e f0)];exact e) (fun b ps e=>⟨#[],by rw [aJ (aS e f0),e];simp⟩) (fun m hm=>hm) (rn I.hok f0 new) I.bare
 exact I'
end
section
theorem qj  (ti:s.heap.IsTupleIter it l i) (tl:s.heap.IsTuple l items) (hx:items[i]?=some x)
  (q:∀ h',h'.IsTupleIter it l (i+1)->bU it s.heap h'->Q x { s with heap:=h' }):aj (aA prog w) A (bM (.ref it)) Q E s:=by
 obtain ⟨oi,ei,ci,di⟩:=id ti;obtain ⟨ot,et,_,nt,dt⟩:=tl;unfold bM;refine a6 (cy (name:=cf "__next__") ti.typeIs gM ?_);refine cq gM ti.typeIs yu ?_ (xg _);show aj _ _ (AE (.ref it) 0 >>= _) _ _ s;refine a6 (cO ei di (x:=.ref l) rfl ?_);show aj _ _ (if (bE l==dm)=true then _ else _) _ _ s;rw [if_neg (fun z:(bE l==dm)=true=>aP z)];show aj _ _ (AE (.ref it) 1 >>= _) _ _ s;refine a6 (cO ei di (x:=.int i 0) rfl ?_);show aj _ _ (EO (.ref l) >>= _) _ _ s;refine a6 (dX et dt ?_);simp only [iN,hx];refine a6 (gU ei di (by simp) (ae ⟨x,rfl,ae (q _ ?_ (cw ..))⟩));refine ⟨_,fN _ ei (Obj.isFreed_of_fields (F8 di _)),(Obj.cls_mapFields ..).trans ci,?_⟩;rw [F8 di];simp [bS]
theorem qk (hh:A.handled=none) (ti:s.heap.IsTupleIter it l i) (tl:s.heap.IsTuple l items) (hx:items[i]?=none)
  (q:∀ h' e,Heap.ExtBut it s.heap h'->(∃ o,h'.get? e=some o/\o.cls=.type "StopIteration")->E (.ref e) { s with heap:=h' }):aj (aA prog w) A (bM (.ref it)) Q E s:=by
 obtain ⟨oi,ei,ci,di⟩:=id ti;obtain ⟨ot,et,_,nt,dt⟩:=tl;unfold bM;refine a6 (cy (name:=cf "__next__") ti.typeIs gM ?_);refine cq gM ti.typeIs yu ?_ (xg _);show aj _ _ (AE (.ref it) 0 >>= _) _ _ s;refine a6 (cO ei di (x:=.ref l) rfl ?_);show aj _ _ (if (bE l==dm)=true then _ else _) _ _ s;rw [if_neg (fun z:(bE l==dm)=true=>aP z)];show aj _ _ (AE (.ref it) 1 >>= _) _ _ s;refine a6 (cO ei di (x:=.int i 0) rfl ?_);show aj _ _ (EO (.ref l) >>= _) _ _ s;refine a6 (dX et dt ?_);simp only [iN,hx];refine a6 (gT (a6 (gU ei di (by simp) ?_)));show aj _ _ (t_ (.type "StopIteration") [] >>= _) _ _ _;refine a6 ?_;simp only [t_,newTuple];refine a6 (cc ?_ (by size_fits));refine a6 (m:=q_ _ _) (qX (a:=dm) ?_ ?_)
 ·first
   |rfl
   |(simp only [q_];rfl)
 refine cc ?_ (by size_fits);simp only [qZ];refine a6 (wpAny_handled ?_);rw [show A.in1.handled=none from hh];refine a6 (ae (wpAny_throw ?_));exact q _ _ (((cw ..).extBut.push _).push _) ⟨_,ar _ rfl,rfl⟩
theorem DP (hh:A.handled=none) (it l:aa) (hne:l≠it) (items:Array a7) :
  Draws prog w A it [it,l] items.size (fun i v=>items[i]?=some v) (fun i h=>h.IsTupleIter it l i/\h.IsTuple l items) where
 live:=fun i h st=>let ⟨o,e,_⟩:=st.1;⟨o,e⟩
 frame:=fun i h h' st k=>⟨let ⟨o,e,r⟩:=st.1;⟨o,k it (by simp) o e,r⟩,let ⟨o,e,r⟩:=st.2;⟨o,k l (by simp) o e,r⟩⟩
 item:=fun i s Q E hi st q=>qj st.1 st.2 (x:=items[i]) (by simp [hi]) fun h' t' sb=>q _ h' s.toks (by simp [hi]) ⟨t',st.2.extBut sb.extBut hne⟩ sb
 done:=fun s Q E st q=>qk hh st.1 st.2 (by simp) q
end
theorem um (l:aa) (items:Array a7) (n:Nat) (dct:Option aa) (sl:Array (Option a7)) :
  Meets (i5.«enumerate.__new__» ⟨[.type "enumerate",.ref l],[]⟩) (fun _ R s=>s.heap.get? l=some { cls:=.type "tuple",dict:=dct,data:=.seq items n,slots:=sl } /\
   R (.ok (.ret (.ref (s.heap.push { cls:=.type "tuple_iterator",data:=.fields #[.ref l,.int 0 0] }).objs.size)))
    { s with heap:=(s.heap.push { cls:=.type "tuple_iterator",data:=.fields #[.ref l,.int 0 0] }).push { cls:=.type "enumerate",data:=.fields #[.none,.bool false,.ref s.heap.objs.size,bS 0,.none,.none] } }) :=
 .of_wp fun prog w A R s h=>by
  obtain ⟨hp,g,d,tk,os⟩:=s;obtain ⟨hl,h⟩:=h;have hsub:=PySem.sub_enumerate;have hL:Ag (Ah ⟨hp,g,d,tk,os⟩) l items:=⟨_,hl,rfl,n,rfl⟩;wp_walk using eF hl;refine wpAny_stack_any fun st=>ae ?_;split
  ·rename_i c _ _ _ _ _
   cases (c==gx "enumerate")
   ·wp_walk using eF hl,eI hL;exact ⟨_,rfl,h⟩
   ·wp_walk using eF hl,eI hL;exact ⟨_,rfl,h⟩
  ·wp_walk using eF hl,eI hL;exact ⟨_,rfl,h⟩
end
section
section
theorem vH   (hL:s.heap.IsTuple l items)
  (h:∀ h',IsEnum h' (s.heap.objs.size+1) s.heap.objs.size 0 .none->h'.IsTupleIter s.heap.objs.size l 0->(∀ b o,s.heap.get? b=some o->h'.get? b=some o)->h'.objs.size=s.heap.objs.size+2 ->
   Q (.ref (s.heap.objs.size+1)) { s with heap:=h' }):aj (aA prog w) A (call (.type "enumerate") [.ref l]) Q E s:=by
 obtain ⟨⟨c,dc,dt,sl⟩,hl,hc,n,hd⟩:=hL;obtain rfl:c=.type "tuple":=hc;obtain rfl:dt=.seq items n:=hd;refine callType_new F.called_enumerate (by decide) (F.typeCall_enumerate_1 _) (F.newCall_enumerate_1 _) (fun obj=>F.args_object_init_2 obj _) F.entry_enumerate_new (um l items n dc sl) ⟨hl,?_⟩;have z1:(s.heap.push { cls:=.type "tuple_iterator",data:=.fields #[.ref l,.int 0 0] }).objs.size=s.heap.objs.size+1:=bY ..;show _/\_;rw [z1];have he:IsEnum ((s.heap.push { cls:=.type "tuple_iterator",data:=.fields #[.ref l,.int 0 0] }).push { cls:=.type "enumerate",data:=.fields #[.none,.bool false,.ref s.heap.objs.size,bS 0,.none,.none] }) (s.heap.objs.size+1) s.heap.objs.size 0 .none:=by
  have q:=ar (s.heap.push { cls:=.type "tuple_iterator",data:=.fields #[.ref l,.int 0 0] }) (o:={ cls:=.type "enumerate",data:=.fields #[.none,.bool false,.ref s.heap.objs.size,bS 0,.none,.none] }) rfl;rw [z1] at q;exact q
 exact ⟨⟨_,he,rfl⟩,h _ he ⟨_,a8 _ (ar _ rfl),rfl,rfl⟩ (fun b o e=>a8 _ (a8 _ e)) (by rw [bY,z1])⟩
end
def R6 (K:a5) (a:aa):It :=
 ⟨fun i H=>∃ xs x,iF K H a xs/\xs[i]?=some x,fun i H v H'=>∃ p,H p=none/\v=.ref p/\∀ xs,iF K H a xs->∃ x,xs[i]?=some x/\H'=upd H p (.tup [.int i,x]),fun i H=>∃ xs,iF K H a xs/\xs.length<=i⟩
theorem DQ {P:aI}{w:aW}{K:a5}{elts:List aO}{x1}{pos:Pos} (a e it:aa) (hei:e≠it):yH P w K (.Tuple elts x1 pos) (R6 K a) [e,it] e (fun i h=>(∃ old,IsEnum h e it i old)/\h.IsTupleIter it a i) where
 mem:=by simp
 obj:=fun i h st b hb=>by
  simp only [b9,aR,or_false] at hb;rcases hb with rfl|rfl
  ·obtain ⟨⟨old,q⟩,_⟩:=st;exact ⟨_,q,fun v z=>by cases z⟩
  ·obtain ⟨_,o,q,_,d⟩:=st;exact ⟨o,q,fun v z=>by rw [d] at z;cases z⟩
 keep:=fun i h h' st k=>⟨let ⟨old,q⟩:=st.1;⟨old,k e (by simp) _ q⟩,let ⟨o,q,r⟩:=st.2;⟨o,k it (by simp) o q,r⟩⟩
 item:=by
  intro X hP hw hK hc i pins s σ H E I hf st hg;subst hP hw hK;obtain ⟨xs,x,hq,hx⟩:=hg;obtain ⟨its,rv,p,hz⟩:=I.tuple hq;obtain ⟨u,hu,ru⟩:=rv.get hx;obtain ⟨⟨old,he⟩,hit⟩:=st;have hit0:=hit;obtain ⟨oi,ei,_⟩:=hit0;have hai:a≠it:=fun z=>by
   obtain ⟨o1,e1,c1,_⟩:=p;obtain ⟨o2,e2,c2,_⟩:=hit;rw [z,e2] at e1;cases e1;rw [c2] at c1;exact absurd (BZ c1) (by decide)
  have hae:a≠e:=fun z=>by
   obtain ⟨o1,e1,c1,_⟩:=p;rw [z,he] at e1;cases e1;exact absurd (BZ (show gx "enumerate"=gx "tuple" from c1)) (by decide)
  have hlt:i<its.toArray.size:=by simp;exact (List.getElem?_eq_some_iff.mp hu).1
  have he0:=ai he;refine wpAny_pyNext_enum_itemD (DP (by simpa using I.ok.hd hc) it a hai its.toArray) he ⟨hit,p⟩ hlt hei (by simp [hei,dU hae]) ?_;intro x' h1 tk hx' eo st1 tup sz k1;have hx'':its[i]?=some x':=by simpa using hx'
  rw [hu] at hx'';cases hx'';refine ⟨_,rfl,wpAny_letOwnedTupleGo_enum eo fun h2 e2 sb2=>?_⟩;have szn:s.heap.objs.size≠e:=fA he0;have I2:bf X pins σ H { s with heap:=h2,toks:=tk+1 }:=I.turnedL (ch:=[e,it]) (fun b o hb q=>by
   simp only [b9,aR,or_false,not_or] at hb;exact (sb2.2 b hb.1).trans (k1 b o hb.1 hb.2 q)) hf
  have fT:=I.fpOk (H':=H) (ao _) (I.hok.fresh (ao _));have tup2:h2.get? s.heap.objs.size=some { cls:=.type "tuple",data:=.seq #[.int i tk,u] }:=(sb2.2 _ szn).trans tup;have I3:=I2.track (ho:=.tup [.int i,x]) fT ⟨by show 2<=sizeLine;decide,[.int i tk,u],.cons ⟨tk,rfl⟩ (.cons ru .nil),⟨_,tup2,rfl,0,rfl⟩⟩;refine ⟨.ref s.heap.objs.size,_,I3,rfl,⟨_,fT.1,rfl,fun ys hy=>?_⟩,⟨⟨u,?_⟩,?_⟩,fun b hb=>?_⟩
  ·rw [I.tuple_inj hy hq];exact ⟨x,hx,rfl⟩
  ·have:(((i+1:Nat):Int))=(i:Int)+1:=by omega
   rw [this];exact e2
  ·obtain ⟨o,q,r⟩:=st1.1;exact ⟨o,(sb2.2 it (dU hei)).trans q,r⟩
  ·rw [aJ]
   ·exact (hf b hb).1
   ·simp only [b9,aR,or_false] at hb;rcases hb with z|z
    ·rw [z];exact aF he0
    ·rw [z];exact aF (ai ei)
 done:=by
  intro X hP hw hK hc i pins s σ H E I hf st hg;subst hP hw hK;obtain ⟨xs,hq,hx⟩:=hg;obtain ⟨its,rv,p,hz⟩:=I.tuple hq;obtain ⟨⟨old,he⟩,hit⟩:=st;have hl:=rv.length;have hT:s.TypeIs (.ref e) "enumerate":=⟨_,he,rfl⟩;unfold oP;refine a6 (j_ (cy (name:=cf "__next__") hT EQ ?_));refine cq EQ hT F.entry_enumerate_next ?_ (F.args_enumerate_next_1 _);show aj _ _ (AE (.ref e) 2 >>= _) _ _ _;refine a6 (cO he rfl (x:=.ref it) rfl ?_);refine a6 (qk (by simpa using I.ok.hd hc) hit (show s.heap.IsTuple a its.toArray from p) (by simp;omega) fun h' z eb hz'=>?_);obtain ⟨o,ho,hcl⟩:=hz';refine a6 (ou (T:="StopIteration") (b:=true) ⟨o,ho,hcl⟩ AD ?_);exact ae ⟨rfl,I.turnedL (t':=s.toks) (ch:=[e,it]) (fun b o hb q=>eb b o (by
   simp only [b9,aR,or_false,not_or] at hb;exact hb.2) q) hf⟩
 self:=fun _ _ _ _ _ st h=>let ⟨⟨_,q⟩,_⟩:=st;wpAny_pyIter_enum q h
def OL (K:a5) (ta:TA):TI:=fun σ H R=>ta σ H fun vs H1=>∃ a xs,vs=[.ref a]/\iF K H1 a xs/\R (R6 K a) H1
theorem JP {X:Cx}{elts:List aO}{x1}{tpos p pos:Pos}{a:aO}{ta:TA} (hg:Gl X "enumerate") (hm:X.mg "enumerate"=none) (ha:PA X [a] ta) (hs:ap [a] X.env=[(false,bQ a X.env)]:=by rfl) :
  PI X (.Tuple elts x1 tpos) (.Call (.Name "enumerate" p) [a] [] pos) (OL X.K ta):=by
 intro pins s σ H R I h;refine Call_ (rh I hg hm boot_enumerate (f9 (eD (ha pos pins s σ H _ I h) fun us s1 ⟨vs,H1,I1,r1,q1⟩=>?_) hs rfl));obtain ⟨ad,xs,rfl,hq,q⟩:=q1;obtain ⟨u,rfl,rx⟩:=kh r1;cases rx;obtain ⟨its,rv,tp,hz⟩:=I1.tuple hq;refine vH (show s1.heap.IsTuple ad its.toArray from tp) fun h' e1 t1 kp sz=>?_;refine wpAny_pyIter_enum e1 ?_;have I2:bf X pins σ H1 { s1 with heap:=h' }:=I1.kept (t':=s1.toks) kp;refine ⟨s1.heap.objs.size+1,[s1.heap.objs.size+1,s1.heap.objs.size],_,_,H1,rfl,I2,DQ ad _ _ (fA (gL _)),⟨⟨.none,e1⟩,t1⟩,fun b hb=>?_,q⟩;simp only [b9,aR,or_false] at hb;rcases hb with z|z
 ·rw [z];exact I1.fpOk (lF _) (I1.hok.fresh (lF _))
 ·rw [z];exact I1.fpOk (ao _) (I1.hok.fresh (ao _))
end
section
section
variable {prog:aI}{w:aW}{A:aV}{E:a7->a9->Prop}{s:a9}{z TI TO i1 i2 l1 l2:aa}{k1 k2:Nat}{xs ys:Array a7}{x y a b:a7}
theorem gX    (t:h.IsTupleIter it l k) (sb:bU c h h') (ne:it≠c):h'.IsTupleIter it l k:=t.extBut sb.extBut ne
theorem lQ    (t:h.IsTuple l xs) (sb:bU c h h') (ne:l≠c):h'.IsTuple l xs:=t.extBut sb.extBut ne
theorem F_ {Q:a7->a9->Prop} (D:J0 z TI TO i1 i2 l1 l2) (za:r6 s.heap z TI TO .none) (pa:iP s.heap TI (.ref i1) (.ref i2)) (pb:iP s.heap TO a b)
  (u1:s.heap.IsTupleIter i1 l1 k1) (u2:s.heap.IsTupleIter i2 l2 k2) (v1:s.heap.IsTuple l1 xs) (v2:s.heap.IsTuple l2 ys) (hx:xs[k1]?=some x) (hy:ys[k2]?=some y)
  (q:∀ h',r6 h' z TI TO (bS s.heap.objs.size)->iP h' TO x y->h'.IsTupleIter i1 l1 (k1+1)->h'.IsTupleIter i2 l2 (k2+1)->iP h' s.heap.objs.size x y ->
   (∀ c o,c≠z->c≠TO->c≠i1->c≠i2->s.heap.get? c=some o->h'.get? c=some o)->Q (.ref s.heap.objs.size) { s with heap:=h' }) :
  aj (aA prog w) A (i5.«zip.__next__» ⟨[.ref z],[]⟩) (fun fin s'=>∃ v,fin=.done (.ret v)/\Q v s') E s:=by
 show aj _ _ (AE (.ref z) 2 >>= _) _ _ _;refine a6 (cO za rfl (x:=.bool false) rfl ?_);show aj _ _ (AE (.ref z) 3 >>= _) _ _ _;refine a6 (cO za rfl (x:=.ref TI) rfl ?_);refine a6 (dX pa rfl ?_);show aj _ _ (du (.ref z) >>= _) _ _ _;refine a6 ?_;unfold du;refine a6 (cO za rfl (x:=.none) rfl (ae ?_));simp only [if_true];refine a6 (gT ?_);refine a6 (cO za rfl (x:=.ref TO) rfl ?_);refine a6 (fX za (by simp) fun g1 z1 b1=>?_);replace z1:r6 g1 z TI TO .ellipsis:=z1;refine a6 ?_;simp only [IF,J1,mV,v_];refine a6 (a6 (tw ?_));show aj _ _ (bM (.ref i1) >>= _) _ _ _;refine a6 (qj (gX u1 b1 D.i1z) (lQ v1 b1 D.l1z) hx fun g2 w1 b2=>ae ?_);have p2:iP g2 TO a b:=b2.extBut _ _ D.TOi1 (b1.extBut _ _ D.TOz pb);refine a6 (dX p2 rfl (a6 (r9 p2 fun g3 p3 b3=>?_)));replace p3:iP g3 TO x b:=p3;refine a6 (J2 (ae (a6 (a6 (tw ?_)))));show aj _ _ (bM (.ref i2) >>= _) _ _ _;refine a6 (qj (gX (gX (gX u2 b1 D.i2z) b2 D.i12.symm) b3 D.TOi2.symm) (lQ (lQ (lQ v2 b1 D.l2z) b2 D.l2i1) b3 D.l2TO) hy fun g4 w2 b4=>ae ?_);have p4:iP g4 TO x b:=b4.extBut _ _ D.TOi2 p3;refine a6 (dX p4 rfl (a6 (r9 p4 fun g5 p5 b5=>?_)));replace p5:iP g5 TO x y:=p5;refine a6 (J2 (ae (ae ?_)));refine a6 (dX p5 rfl (a6 (wpAny_newTuple ?_)));have sz:g5.objs.size=s.heap.objs.size:=by rw [b5.1,b4.1,b3.1,b2.1,b1.1]
 have z5:r6 g5 z TI TO .ellipsis:=b5.extBut _ _ D.TOz.symm (b4.extBut _ _ D.i2z.symm (b3.extBut _ _ D.TOz.symm (b2.extBut _ _ D.i1z.symm z1)));have k5:∀ c o,c≠z->c≠TO->c≠i1->c≠i2->s.heap.get? c=some o->g5.get? c=some o:=fun c o n1 n2 n3 n4 e =>
  b5.extBut _ _ n2 (b4.extBut _ _ n4 (b3.extBut _ _ n2 (b2.extBut _ _ n3 (b1.extBut _ _ n1 e))))
 have y1:g5.IsTupleIter i1 l1 (k1+1):=gX (gX (gX w1 b3 D.TOi1.symm) b4 D.i12) b5 D.TOi1.symm;have y2:g5.IsTupleIter i2 l2 (k2+1):=gX w2 b5 D.TOi2.symm;have zl:z<g5.objs.size:=ai z5;show aj _ _ (ke (.ref z) (.ref g5.objs.size) >>= _) _ _ _;refine a6 ?_;unfold ke;have z6:r6 (g5.push { cls:=.type "tuple",data:=.seq #[x,y] }) z TI TO .ellipsis:=a8 _ z5;refine a6 (fX z6 (by simp) fun g7 z7 b7=>?_);replace z7:r6 g7 z TI TO (bS g5.objs.size):=z7;refine fX z7 (by simp) fun g8 z8 b8=>?_;replace z8:r6 g8 z TI TO (bS g5.objs.size):=z8;have up:∀ c o,c≠z->g5.get? c=some o->g8.get? c=some o:=fun c o n1 e=>b8.extBut _ _ n1 (b7.extBut _ _ n1 (a8 _ e));have p8:iP g8 g5.objs.size x y:=b8.extBut _ _ (fA zl) (b7.extBut _ _ (fA zl) (ar _ rfl));rw [sz] at z8 p8;refine ae ⟨_,rfl,?_⟩;show Q (.ref g5.objs.size) _;rw [sz];exact q g8 z8 (up _ _ D.TOz p5) (let ⟨o,e,r⟩:=y1;⟨o,up _ o D.i1z e,r⟩) (let ⟨o,e,r⟩:=y2;⟨o,up _ o D.i2z e,r⟩) p8 fun c o n1 n2 n3 n4 e=>up c o n1 (k5 c o n1 n2 n3 n4 e)
theorem G0 (hh:A.handled=none) (D:J0 z TI TO i1 i2 l1 l2) (za:r6 s.heap z TI TO .none) (pa:iP s.heap TI (.ref i1) (.ref i2)) (pb:iP s.heap TO a b)
  (u1:s.heap.IsTupleIter i1 l1 k1) (u2:s.heap.IsTupleIter i2 l2 k2) (v1:s.heap.IsTuple l1 xs) (v2:s.heap.IsTuple l2 ys) (hend:xs[k1]?=none\/ys[k2]?=none)
  (q:∀ h' e,(∀ c o,c≠z->c≠TO->c≠i1->c≠i2->s.heap.get? c=some o->h'.get? c=some o)->(∃ o,h'.get? e=some o/\o.cls=.type "StopIteration")->E (.ref e) { s with heap:=h' }) :
  aj (aA prog w) A (i5.«zip.__next__» ⟨[.ref z],[]⟩) Q E s:=by
 show aj _ _ (AE (.ref z) 2 >>= _) _ _ _;refine a6 (cO za rfl (x:=.bool false) rfl ?_);show aj _ _ (AE (.ref z) 3 >>= _) _ _ _;refine a6 (cO za rfl (x:=.ref TI) rfl ?_);refine a6 (dX pa rfl ?_);show aj _ _ (du (.ref z) >>= _) _ _ _;refine a6 ?_;unfold du;refine a6 (cO za rfl (x:=.none) rfl (ae ?_));simp only [if_true];refine a6 (gT ?_);refine a6 (cO za rfl (x:=.ref TO) rfl ?_);refine a6 (fX za (by simp) fun g1 z1 b1=>?_);replace z1:r6 g1 z TI TO .ellipsis:=z1;refine a6 ?_;simp only [IF,J1,mV,v_];refine a6 (a6 (tw ?_));show aj _ _ (bM (.ref i1) >>= _) _ _ _;cases hx:xs[k1]? with
 |none =>
  refine a6 (qk hh (gX u1 b1 D.i1z) (lQ v1 b1 D.l1z) hx fun g2 e b2 he=>?_);obtain ⟨oe,ee,ce⟩:=he;have z2:r6 g2 z TI TO .ellipsis:=b2 _ _ D.i1z.symm z1;have ez:e≠z:=fun n=>by subst n;rw [z2] at ee;cases ee;simp at ce
  refine fX z2 (by simp) fun g3 _ b3=>q g3 e (fun c o n1 _ n3 _ m=>b3.extBut _ _ n1 (b2 _ _ n3 (b1.extBut _ _ n1 m))) ⟨oe,b3.extBut _ _ ez ee,ce⟩
 |some x =>
  have hy:ys[k2]?=none:=hend.resolve_left fun n=>by rw [hx] at n;cases n
  refine a6 (qj (gX u1 b1 D.i1z) (lQ v1 b1 D.l1z) hx fun g2 w1 b2=>ae ?_);have p2:iP g2 TO a b:=b2.extBut _ _ D.TOi1 (b1.extBut _ _ D.TOz pb);refine a6 (dX p2 rfl (a6 (r9 p2 fun g3 p3 b3=>?_)));refine a6 (J2 (ae (a6 (a6 (tw ?_)))));show aj _ _ (bM (.ref i2) >>= _) _ _ _;refine a6 (qk hh (gX (gX (gX u2 b1 D.i2z) b2 D.i12.symm) b3 D.TOi2.symm) (lQ (lQ (lQ v2 b1 D.l2z) b2 D.l2i1) b3 D.l2TO) hy fun g4 e b4 he=>?_);obtain ⟨oe,ee,ce⟩:=he;have z4:r6 g4 z TI TO .ellipsis:=b4 _ _ D.i2z.symm (b3.extBut _ _ D.TOz.symm (b2.extBut _ _ D.i1z.symm z1));have ez:e≠z:=fun n=>by subst n;rw [z4] at ee;cases ee;simp at ce
  refine fX z4 (by simp) fun g5 _ b5=>q g5 e (fun c o n1 n2 n3 n4 m=>b5.extBut _ _ n1 (b4 _ _ n4 (b3.extBut _ _ n2 (b2.extBut _ _ n3 (b1.extBut _ _ n1 m))))) ⟨oe,b5.extBut _ _ ez ee,ce⟩
end
abbrev Qg (h:bc) (l1:aa):bc:=h.push { cls:=.type "tuple_iterator",data:=.fields #[.ref l1,.int 0 0] }
abbrev Qh (h:bc) (l1 l2:aa):bc:=(Qg h l1).push { cls:=.type "tuple_iterator",data:=.fields #[.ref l2,.int 0 0] }
abbrev Qi (h:bc) (l1 l2:aa):bc:=(Qh h l1 l2).push { cls:=.type "tuple",data:=.seq #[.ref h.objs.size,.ref (Qg h l1).objs.size] }
abbrev Qj (h:bc) (l1 l2:aa):bc:=(Qi h l1 l2).push { cls:=.type "tuple",data:=.seq #[.none,.none] }
abbrev O7 (h:bc) (l1 l2:aa):bc:=(Qj h l1 l2).push { cls:=.type "zip",data:=.fields #[.none,.bool false,.bool false,.ref (Qh h l1 l2).objs.size,.ref (Qi h l1 l2).objs.size] }
theorem vI (l1 l2:aa) (xs ys:Array a7) :
  Meets (i5.«zip.__new__» ⟨[.type "zip",.ref l1,.ref l2],[]⟩) (fun _ R s=>s.heap.IsTuple l1 xs/\s.heap.IsTuple l2 ys/\R (.ok (.ret (.ref (Qj s.heap l1 l2).objs.size))) { s with heap:=O7 s.heap l1 l2 }) :=
 .of_wp fun prog w A R s h=>by
  obtain ⟨hp,g,d,tk,os⟩:=s;obtain ⟨v1,v2,h⟩:=h;have hsub:=PySem.sub_zip;have L1:Ag (Ah ⟨hp,g,d,tk,os⟩) l1 xs:=v1;have L2:Ag (Ah ⟨hp.push { cls:=.type "tuple_iterator",data:=.fields #[.ref l1,.int 0 0] },g,d,tk,os⟩) l2 ys:=Heap.IsTuple.push v2 _;wp_walk using eI L1,eI L2;exact ⟨_,rfl,h⟩
section
theorem xB   (v1:s.heap.IsTuple l1 xs) (v2:s.heap.IsTuple l2 ys)
  (h:∀ h',r6 h' (s.heap.objs.size+4) (s.heap.objs.size+2) (s.heap.objs.size+3) .none->iP h' (s.heap.objs.size+2) (.ref s.heap.objs.size) (.ref (s.heap.objs.size+1)) ->
   iP h' (s.heap.objs.size+3) .none .none->h'.IsTupleIter s.heap.objs.size l1 0->h'.IsTupleIter (s.heap.objs.size+1) l2 0 ->
   (∀ c o,s.heap.get? c=some o->h'.get? c=some o)->Q (.ref (s.heap.objs.size+4)) { s with heap:=h' }):aj (aA prog w) A (call (.type "zip") [.ref l1,.ref l2]) Q E s:=by
 refine callType_new F.called_zip (by decide) (F.typeCall_zip_2 _ _) (F.newCall_zip_2 _ _) (fun obj=>F.args_object_init_3 obj _ _) F.entry_zip_new (vI l1 l2 xs ys) ⟨v1,v2,?_⟩;have n1:(Qg s.heap l1).objs.size=s.heap.objs.size+1:=bY ..;have n2:(Qh s.heap l1 l2).objs.size=s.heap.objs.size+2:=by rw [bY,n1]
 have n3:(Qi s.heap l1 l2).objs.size=s.heap.objs.size+3:=by rw [bY,n2]
 have n4:(Qj s.heap l1 l2).objs.size=s.heap.objs.size+4:=by rw [bY,n3]
 have c5:(O7 s.heap l1 l2).get? (Qj s.heap l1 l2).objs.size=some _:=ar _ rfl;have c4:(O7 s.heap l1 l2).get? (Qi s.heap l1 l2).objs.size=some _:=a8 _ (ar _ rfl);have c3:(O7 s.heap l1 l2).get? (Qh s.heap l1 l2).objs.size=some _:=a8 _ (a8 _ (ar _ rfl));have c2:(O7 s.heap l1 l2).get? (Qg s.heap l1).objs.size=some _:=a8 _ (a8 _ (a8 _ (ar _ rfl)));have c1:(O7 s.heap l1 l2).get? s.heap.objs.size=some _:=a8 _ (a8 _ (a8 _ (a8 _ (ar _ rfl))));show _/\_;rw [n2,n3,n4] at c5;rw [n1,n2] at c3;rw [n3] at c4;rw [n1] at c2;rw [n4];exact ⟨⟨_,c5,rfl⟩,h _ c5 c3 c4 ⟨_,c1,rfl,rfl⟩ ⟨_,c2,rfl,rfl⟩ fun c o e=>a8 _ (a8 _ (a8 _ (a8 _ (a8 _ e))))⟩
end
theorem iF.ne_fp       (I:bf X pins σ H s) (hq:iF X.K H a xs) (hf:pV X pins H b):a≠b:=by
 rintro rfl;rcases hq with (h|⟨o,h⟩)|⟨o,its,n,hk,_⟩
 ·rw [hf.1] at h;cases h
 ·rw [hf.1] at h;cases h
 ·have e:X.base.get? a=some o:=I.mod.kin a o hk;rcases hf.f3 with z|z
  ·exact I.ok.noex a o e z
  ·exact absurd (az (ai e) (a_ I.ok.bsz z)) (cx _)
def R7 (K:a5) (a b:aa):It :=
 ⟨fun i H=>∃ xs ys x y,iF K H a xs/\iF K H b ys/\xs[i]?=some x/\ys[i]?=some y,
  fun i H v H'=>∃ p,H p=none/\v=.ref p/\∀ xs ys,iF K H a xs->iF K H b ys->∃ x y,xs[i]?=some x/\ys[i]?=some y/\H'=upd H p (.tup [x,y]),
  fun i H=>∃ xs ys,iF K H a xs/\iF K H b ys/\(xs.length<=i\/ys.length<=i)⟩
structure R8 (z TI TO i1 i2:aa):Prop where
 d1:TI≠z
 d2:TO≠z
 d3:i1≠z
 d4:i2≠z
 d5:TI≠TO
 d6:TI≠i1
 d7:TI≠i2
 d8:TO≠i1
 d9:TO≠i2
 d0:i1≠i2
theorem G1 {P:aI}{w:aW}{K:a5}{elts:List aO}{x1}{pos:Pos} (l1 l2 z TI TO i1 i2:aa) (Z:R8 z TI TO i1 i2) :
  yH P w K (.Tuple elts x1 pos) (R7 K l1 l2) [z,TI,TO,i1,i2] z (fun i h=>r6 h z TI TO .none/\iP h TI (.ref i1) (.ref i2)/\(∃ a b,iP h TO a b)/\h.IsTupleIter i1 l1 i/\h.IsTupleIter i2 l2 i) where
 mem:=by simp
 obj:=fun i h st b hb=>by
  obtain ⟨s1,s2,⟨_,_,s3⟩,⟨o4,e4,_,f4⟩,⟨o5,e5,_,f5⟩⟩:=st;simp only [b9,aR,or_false] at hb;rcases hb with rfl|rfl|rfl|rfl|rfl
  ·exact ⟨_,s1,fun v q=>by cases q⟩
  ·exact ⟨_,s2,fun v q=>by cases q⟩
  ·exact ⟨_,s3,fun v q=>by cases q⟩
  ·exact ⟨o4,e4,fun v q=>by rw [f4] at q;cases q⟩
  ·exact ⟨o5,e5,fun v q=>by rw [f5] at q;cases q⟩
 keep:=fun i h h' st k=>by
  obtain ⟨s1,s2,⟨u,v,s3⟩,⟨o4,e4,r4⟩,⟨o5,e5,r5⟩⟩:=st;exact ⟨k z (by simp) _ s1,k TI (by simp) _ s2,⟨u,v,k TO (by simp) _ s3⟩,⟨o4,k i1 (by simp) _ e4,r4⟩,⟨o5,k i2 (by simp) _ e5,r5⟩⟩
 item:=by
  intro X hP hw hK hc i pins s σ H E I hf st hg;subst hP hw hK;obtain ⟨xs,ys,x,y,hq1,hq2,hx,hy⟩:=hg;obtain ⟨its1,rv1,p1,_⟩:=I.tuple hq1;obtain ⟨its2,rv2,p2,_⟩:=I.tuple hq2;obtain ⟨u,hu,ru⟩:=rv1.get hx;obtain ⟨v,hv,rv⟩:=rv2.get hy;obtain ⟨s1,s2,⟨a,b,s3⟩,s4,s5⟩:=st;have ne1:∀ b∈[z,TI,TO,i1,i2],l1≠b:=fun b hb=>hq1.ne_fp I (hf b hb);have ne2:∀ b∈[z,TI,TO,i1,i2],l2≠b:=fun b hb=>hq2.ne_fp I (hf b hb);have D:J0 z TI TO i1 i2 l1 l2:=⟨Z.d1,Z.d2,Z.d3,Z.d4,Z.d5,Z.d6,Z.d7,Z.d8,Z.d9,Z.d0,ne1 z (by simp),ne1 TO (by simp),ne1 i1 (by simp),ne1 i2 (by simp),ne2 z (by simp),ne2 TO (by simp),ne2 i1 (by simp),ne2 i2 (by simp)⟩;have zl:=ai s1;have hT:s.TypeIs (.ref z) "zip":=⟨_,s1,rfl⟩;unfold oP;refine a6 (j_ (cy (name:=cf "__next__") hT oF ?_));refine cq oF hT F.entry_zip_next (F_ D s1 s2 s3 s4 s5 p1 p2 (by simpa using hu) (by simpa using hv) fun h1 z1 t1 y1 y2 pr k1=>?_) (F.args_zip_next_1 _);refine ae ⟨_,rfl,wpAny_letOwnedTupleGo_zip z1 fun h2 z2 b2=>?_⟩;have szn:s.heap.objs.size≠z:=fA zl;have TIk:iP h1 TI (.ref i1) (.ref i2):=k1 TI _ Z.d1 Z.d5 Z.d6 Z.d7 s2;have I2:bf X pins σ H { s with heap:=h2 }:=I.turnedL (t':=s.toks) (ch:=[z,TI,TO,i1,i2]) (fun b o hb q=>by
   simp only [b9,aR,or_false,not_or] at hb;exact (b2.2 b hb.1).trans (k1 b o hb.1 hb.2.2.1 hb.2.2.2.1 hb.2.2.2.2 q)) hf
  have fT:=I.fpOk (H':=H) (ao _) (I.hok.fresh (ao _));have pr2:h2.get? s.heap.objs.size=some { cls:=.type "tuple",data:=.seq #[u,v] }:=(b2.2 _ szn).trans pr;have I3:=I2.track (ho:=.tup [x,y]) fT ⟨by show 2<=sizeLine;decide,[u,v],.cons ru (.cons rv .nil),⟨_,pr2,rfl,0,rfl⟩⟩;refine ⟨.ref s.heap.objs.size,_,I3,rfl,⟨_,fT.1,rfl,fun xs' ys' h1 h2=>?_⟩,⟨z2,(b2.2 TI Z.d1).trans TIk,⟨u,v,(b2.2 TO Z.d2).trans t1⟩,gX y1 b2 Z.d3,gX y2 b2 Z.d4⟩,fun b hb=>?_⟩
  ·rw [I.tuple_inj h1 hq1,I.tuple_inj h2 hq2];exact ⟨x,y,hx,hy,rfl⟩
  ·have bl:b<s.heap.objs.size:=by
    simp only [b9,aR,or_false] at hb;rcases hb with q|q|q|q|q
    ·rw [q];exact zl
    ·rw [q];exact ai s2
    ·rw [q];exact ai s3
    ·obtain ⟨_,e,_⟩:=s4;rw [q];exact ai e
    ·obtain ⟨_,e,_⟩:=s5;rw [q];exact ai e
   rw [aJ (aF bl)];exact (hf b hb).1
 done:=by
  intro X hP hw hK hc i pins s σ H E I hf st hg;subst hP hw hK;obtain ⟨xs,ys,hq1,hq2,hend⟩:=hg;obtain ⟨its1,rv1,p1,_⟩:=I.tuple hq1;obtain ⟨its2,rv2,p2,_⟩:=I.tuple hq2;obtain ⟨s1,s2,⟨a,b,s3⟩,s4,s5⟩:=st;have ne1:∀ b∈[z,TI,TO,i1,i2],l1≠b:=fun b hb=>hq1.ne_fp I (hf b hb);have ne2:∀ b∈[z,TI,TO,i1,i2],l2≠b:=fun b hb=>hq2.ne_fp I (hf b hb);have D:J0 z TI TO i1 i2 l1 l2:=⟨Z.d1,Z.d2,Z.d3,Z.d4,Z.d5,Z.d6,Z.d7,Z.d8,Z.d9,Z.d0,ne1 z (by simp),ne1 TO (by simp),ne1 i1 (by simp),ne1 i2 (by simp),ne2 z (by simp),ne2 TO (by simp),ne2 i1 (by simp),ne2 i2 (by simp)⟩;have hT:s.TypeIs (.ref z) "zip":=⟨_,s1,rfl⟩;have n1:=rv1.length;have n2:=rv2.length;unfold oP;refine a6 (j_ (cy (name:=cf "__next__") hT oF ?_));refine cq oF hT F.entry_zip_next (G0 (by simpa using I.ok.hd hc) D s1 s2 s3 s4 s5 p1 p2 (hend.elim (fun q=>.inl (by simp;omega)) fun q=>.inr (by simp;omega)) fun h' e kp he=>?_) (F.args_zip_next_1 _);obtain ⟨o,eo,co⟩:=he;refine a6 (ou (T:="StopIteration") (b:=true) ⟨o,eo,co⟩ AD ?_);exact ae ⟨rfl,I.turnedL (t':=s.toks) (ch:=[z,TI,TO,i1,i2]) (fun b o hb q=>by
   simp only [b9,aR,or_false,not_or] at hb;exact kp b o hb.1 hb.2.2.1 hb.2.2.2.1 hb.2.2.2.2 q) hf⟩
 self:=fun _ _ _ _ _ st h=>wpAny_pyIter_zip st.1 h
def R9 (K:a5) (ta:TA):TI:=fun σ H R=>ta σ H fun vs H1=>∃ a b xs ys,vs=[.ref a,.ref b]/\iF K H1 a xs/\iF K H1 b ys/\R (R7 K a b) H1
theorem G3 {X:Cx}{elts:List aO}{x1}{tpos p pos:Pos}{a b:aO}{ta:TA} (hg:Gl X "zip") (hm:X.mg "zip"=none) (ha:PA X [a,b] ta) (hs:ap [a,b] X.env=[(false,bQ a X.env),(false,bQ b X.env)]:=by rfl)
  (hs2:ap [b] X.env=[(false,bQ b X.env)]:=by rfl):PI X (.Tuple elts x1 tpos) (.Call (.Name "zip" p) [a,b] [] pos) (R9 X.K ta):=by
 intro pins s σ H R I h;refine Call_ (rh I hg hm boot_zip (f9 (eD (ha pos pins s σ H _ I h) fun us s1 ⟨vs,H1,I1,r1,q1⟩=>?_) (by rw [hs,hs2]) (by rw [hs2];rfl)));obtain ⟨a1,a2,xs,ys,rfl,hq1,hq2,q⟩:=q1;obtain ⟨u1,u2,rfl,rx1,rx2⟩:=Fx r1;cases rx1;cases rx2;obtain ⟨its1,rv1,p1,_⟩:=I1.tuple hq1;obtain ⟨its2,rv2,p2,_⟩:=I1.tuple hq2;refine xB (show s1.heap.IsTuple a1 its1.toArray from p1) (show s1.heap.IsTuple a2 its2.toArray from p2) fun h' c1 c2 c3 c4 c5 kp=>?_;refine wpAny_pyIter_zip c1 ?_;have I2:bf X pins σ H1 { s1 with heap:=h' }:=I1.kept (t':=s1.toks) kp;have ad:∀ k j:Nat,k≠j->s1.heap.objs.size+k≠s1.heap.objs.size+j:=fun k j n e=>n (Nat.add_left_cancel e);refine ⟨s1.heap.objs.size+4,[s1.heap.objs.size+4,s1.heap.objs.size+2,s1.heap.objs.size+3,s1.heap.objs.size+0,s1.heap.objs.size+1],_,_,H1,rfl,I2,
  G1 a1 a2 _ _ _ _ _ ⟨ad _ _ (by decide),ad _ _ (by decide),ad _ _ (by decide),ad _ _ (by decide),ad _ _ (by decide),ad _ _ (by decide),ad _ _ (by decide),ad _ _ (by decide),ad _ _ (by decide),ad _ _ (by decide)⟩,
  ⟨c1,c2,⟨_,_,c3⟩,c4,c5⟩,fun b hb=>?_,q⟩
 have:∀ k:Nat,pV X pins H1 (s1.heap.objs.size+k):=fun k=>I1.fpOk (J4 _ _) (I1.hok.fresh (J4 _ _))
 simp only [b9,aR,or_false] at hb;rcases hb with q|q|q|q|q<;>(rw [q];exact this _)
end
section
mutual
inductive B8 (K:a5) (H:Hp):V->xh->Prop
 |none:B8 K H .non .none
 |bool (b:Bool):B8 K H (.bl b) (.bool b)
 |int (i:Int):B8 K H (.int i) (.int i)
 |str (x:Str):B8 K H (.str x) (.str x)
 |list {a:aa}{xs:List V}{ds:List xh}:k_ K H a xs->Reps K H xs ds->B8 K H (.ref a) (.list ds)
 |tuple {a:aa}{xs:List V}{ds:List xh}:iF K H a xs->Reps K H xs ds->B8 K H (.ref a) (.tuple ds)
inductive Reps (K:a5) (H:Hp):List V->List xh->Prop
 |nil:Reps K H [] []
 |cons {x:V}{xs:List V}{d:xh}{ds:List xh}:B8 K H x d->Reps K H xs ds->Reps K H (x::xs) (d::ds)
end
theorem cK.tup {K:a5}{H H':Hp}{a:aa}{xs:List V} (e:cK H H') (h:iF K H a xs):iF K H' a xs:=by
 rcases h with (h|⟨o,h⟩)|h
 ·exact .inl (.inl (e _ _ h))
 ·exact .inl (.inr ⟨o,e _ _ h⟩)
 ·exact .inr h
section
theorem JQ (I:bf X pins σ H s)    (h:k_ X.K H a xs) (ih:∀ {us:List a7},cz xs us->∃ as,ReadsAll s.heap us ds as) (r:cu (.ref a) u):∃ as,Reads s.heap u (.list ds) as:=by
 cases r;obtain ⟨its,rv,⟨o,n,e,c,_,d⟩,_⟩:=I.list h;obtain ⟨as,ra⟩:=ih rv;exact ⟨_,.list e c d (by simpa using ra)⟩
theorem G4 (I:bf X pins σ H s)    (h:iF X.K H a xs) (ih:∀ {us:List a7},cz xs us->∃ as,ReadsAll s.heap us ds as) (r:cu (.ref a) u):∃ as,Reads s.heap u (.tuple ds) as:=by
 cases r;obtain ⟨its,rv,⟨o,e,c,n,d⟩,_⟩:=I.tuple h;obtain ⟨as,ra⟩:=ih rv;exact ⟨_,.tuple e c d (by simpa using ra)⟩
theorem nP (I:bf X pins σ H s)  (h:B8 X.K H v d):∀ {u:a7},cu v u->∃ as,Reads s.heap u d as :=
 B8.rec (motive_1:=fun v d _=>∀ {u:a7},cu v u->∃ as,Reads s.heap u d as) (motive_2:=fun vs ds _=>∀ {us:List a7},cz vs us->∃ as,ReadsAll s.heap us ds as)
  (fun r=>by cases r;exact ⟨_,.none⟩) (fun b _ r=>by cases r;exact ⟨_,.bool b⟩) (fun i _ r=>by obtain ⟨t,rfl⟩:=r;exact ⟨_,.int i t⟩) (fun x _ r=>by obtain ⟨t,rfl⟩:=r;exact ⟨_,.str x t⟩)
  (fun h _ ih _ r=>JQ I h ih r) (fun h _ ih _ r=>G4 I h ih r) (fun r=>by cases r;exact ⟨_,.nil⟩) (fun _ _ a b _ r=>by
   cases r with
   |cons r rs =>
    obtain ⟨as,ra⟩:=a r;obtain ⟨bs,rb⟩:=b rs;exact ⟨_,.cons ra rb⟩) h
end
section
inductive Ls (K:a5) (neg:Bool) (x:V) (y:V) (H:Hp) (Q:VK):Prop
 |mk (dx dy:_) (h0:B8 K H x dx) (h1:B8 K H y dy) (h2:dx.canLay0=true) (h3:dy.canLay0=true) (h4:min dx.depth dy.depth<=60) (h5:Q (.bl (if neg then !bn dx dy else bn dx dy)) H):Ls K neg x y H Q
def Nh (K:a5) (neg:Bool):R2:=Ls K neg
theorem Ni (hu:X.A.units+64<oq):nN X (bz .Eq) (Nh X.K false):=by
 intro pins s σ H x y v u Q I rx ry h;obtain ⟨dx,dy,hx,hy,lx,ly,dp,q⟩:=h;obtain ⟨as,ra⟩:=nP I hx rx;obtain ⟨bs,rb⟩:=nP I hy ry;exact PySem.SeqAt.compareEq_reads ra rb lx ly (by omega) ⟨.bl _,H,I,rfl,q⟩
theorem Nj (hu:X.A.units+64<oq):nN X (bz .NotEq) (Nh X.K true):=by
 intro pins s σ H x y v u Q I rx ry h;obtain ⟨dx,dy,hx,hy,lx,ly,dp,q⟩:=h;obtain ⟨as,ra⟩:=nP I hx rx;obtain ⟨bs,rb⟩:=nP I hy ry;exact PySem.SeqAt.compareNe_reads ra rb lx ly (by omega) ⟨.bl _,H,I,rfl,q⟩
end
end
section
structure Lu (P:aI) (w:aW) (l:List Env) (H H':Hp) (h h' B:bc) (ea C t:aa):Prop where
 fly:Heap.FlyingW B l ea (.ref C) (.ref t) h'
 cov:∀ b u,H' b=some u->∃ o,B.get? b=some o
 old:∀ b o,h.get? b=some o->H b=none->b∉oH l->B.get? b=some o
 all:∀ b o,h.get? b=some o->b∉oH l->∃ o',B.get? b=some o'
 un:Un (oH l) [] H H' h h'
 hok:mT P w H' h'
inductive OM (P:aI) (w:aW) (outer:List Env) (H:Hp) (s:a9) (E:XK) (e:a7) (s':a9):Prop
 |mk (ea C t H' B:_) (h0:e=.ref ea) (h1:s'.os=s.os) (h2:mM s'.gens) (h3:Lu P w outer H H' s.heap s'.heap B ea C t) (h4:E (.ref C) none H'):OM P w outer H s E e s'
def lj (P:aI) (w:aW):C4:=OM P w
theorem G5      (x:mT P w H h) (e:H b=some u):∃ o,h.get? b=some o:=by
 have y:=x b u e;cases u with
 |lst xs=>obtain ⟨_,_,_,_,k⟩:=y;exact ⟨_,k⟩
 |tup xs=>obtain ⟨_,_,_,o,k,_⟩:=y;exact ⟨o,k⟩
 |dK kvs=>obtain ⟨_,_,_,_,o,_,_,k,_⟩:=y;exact ⟨o,k⟩
 |dT kvs=>obtain ⟨_,_,_,_,o,_,_,k,_⟩:=y;exact ⟨o,k⟩
 |set S n=>obtain ⟨o,_,_,_,k,_⟩:=y;exact ⟨o,k⟩
 |ins C dx fs=>obtain ⟨_,_,_,k,_⟩:=y;exact ⟨_,k⟩
 |own y'=>exact y
 |xd fs=>obtain ⟨_,⟨o,_,_,k,_⟩,_⟩:=y;exact ⟨o,k⟩
 |rng lo hi=>obtain ⟨_,_,_,k⟩:=y;exact ⟨_,k⟩
 |frz o u=>exact ⟨o,y.1⟩
 |tbl ps=>exact ⟨_,y⟩
 |met f y'=>exact ⟨_,y⟩
 |ext φ=>exact y.2.1
theorem Ci   (he:env∈l) (hf:env.frame=some b):b∈oH l:=List.mem_filterMap.mpr ⟨env,he,hf⟩
section
theorem Lu.kp (x:Lu P w l H H' h h' B ea C t) (st:B.StaysIn h'') (b:aa) (u:HO) (o:Obj) (e:H' b=some u) (q:h'.get? b=some o):h''.get? b=some o:=by
 obtain ⟨o',e1⟩:=x.cov b u e;have:=x.fly.1 b o' e1;rw [q] at this;cases this;exact st b o e1
theorem Lu.on (x:Lu P w l H H' h h' B ea C t) (fl:Heap.FlyingW B l ea (.ref C) (.ref t) h'') (up:h'.UpToSlots h''):Lu P w l H H' h h'' B ea C t:=by
 have st:=fl.1;refine ⟨fl,x.cov,x.old,x.all,⟨fun b o q n hb hx=>st b o (x.old b o q n hb),fun b o q n hb hx=>?_,x.un.free,fun b o q hx=>?_,x.un.tups,x.un.frzs,x.un.tbls⟩,fun b u e=>?_⟩
 ·obtain ⟨sl,e1⟩:=x.un.slot b o q n hb hx;obtain ⟨_,o',k1,k2⟩:=dQ x.fly.2.2.1 hb;rw [e1] at k1;cases k1;obtain ⟨sl',e2⟩:=up b _ e1 k2;exact ⟨sl',e2⟩
 ·by_cases hb:b∈oH l
  ·obtain ⟨_,o',k1,_⟩:=dQ fl.2.2.1 hb;exact ⟨o',k1⟩
  ·obtain ⟨o',k⟩:=x.all b o q hb;exact ⟨o',st b o' k⟩
 ·exact (x.hok b u e).stay (fun c o hc q=>by
   rcases hc with z|z
   ·rw [z] at q ⊢;exact x.kp st b u o e q
   ·exact x.kp st c _ o z q) (fun _ q=>q) fun _ _ q=>q
end
section
variable {P:aI}{w:aW}{K:a5}{mg:Str->Option a7}{base:bc}{N:List Str}{qual:Str}{scope:dO}{f:aa}{cd:a7}{A:aV}{outer:List Env}{s:a9}{H:Hp}{E:XK}
theorem xC       (I:bf (iG (lj P w) P w K mg base N qual scope f cd A outer s H E) pins σ H1 s1)
  (hx:Heap.MadeExcOf s1.heap h' ea (.ref C) vs) (q:E (.ref C) none H1):(iG (lj P w) P w K mg base N qual scope f cd A outer s H E).xe (.ref ea) { s1 with heap:=h' }:=by
 let X:=iG (lj P w) P w K mg base N qual scope f cd A outer s H E
 let B:=EF s1.heap (oH X.stack)
 have hin:∀ env∈X.stack,∀ a,env.frame=some a->a∈oH X.stack:=fun env he a hf=>Ci he hf;have stB:B.StaysIn s1.heap:=fun b o e=>Am _ e;have nS:∀ b,b∉oH X.stack->∀ o,s1.heap.get? b=some o->B.get? b=some o:=fun b n o e=>Ad _ e n;show aj _ X.A (leaving X.env (.ref ea)) _ _ _;refine wpAny_leaves_madeW (s:={ s1 with heap:=h' }) (base:=B) (outer:=outer) (L:=X.env.locals) I.ok.frames rfl stB (PySem.W.funFrames_hide I.stack hin) hx fun h2 t fl tup tn up=>?_;have st2:=fl.1;have bl:∀ b o,s.heap.get? b=some o->b∉oH outer->b∉oH X.stack:=fun b o e n z=>by
  rcases List.mem_cons.mp (I.stkSub b z) with y|y
  ·exact absurd (ai e) (by rw [y];exact Nat.not_lt.mpr I.ok.above)
  ·exact n y
 have noex:∀ b:aa,b∉X.ex:=fun b z=>absurd (show b∈([] : List aa) from z) (by simp);have cov:∀ b u,H1 b=some u->∃ o,B.get? b=some o:=fun b u e=>by
  have hb:b∉oH X.stack:=fun z=>by have:=I.stkFree b z;rw [e] at this;cases this
  obtain ⟨o,k⟩:=G5 I.hok e;exact ⟨o,nS b hb o k⟩
 refine ⟨ea,C,t,H1,B,rfl,I.os,I.bare,⟨fl,cov,fun b o e n hb=>?_,fun b o e hb=>?_,⟨fun b o e n hb hx'=>?_,fun b o e n hb hx'=>?_,fun b o e n _=>I.base.free b o e n (noex b),fun b o e _=>?_,I.base.tups,I.base.frzs,I.base.tbls⟩,fun b u e=>?_⟩,q⟩
 ·exact nS b (bl b o e hb) o (I.base.keep b o e n hb (noex b))
 ·obtain ⟨o',k⟩:=I.base.there b o e (noex b);exact ⟨o',nS b (bl b o e hb) o' k⟩
 ·exact st2 b o (nS b (bl b o e hb) o (I.base.keep b o e n hb (noex b)))
 ·obtain ⟨sl,k⟩:=I.base.slot b o e n hb (noex b);obtain ⟨_,o',k1,k2⟩:=dQ I.funs hb;rw [k] at k1;cases k1;obtain ⟨sl',k3⟩:=up b _ (hx.keeps _ _ k) k2;exact ⟨sl',k3⟩
 ·obtain ⟨o',k⟩:=I.base.there b o e (noex b);by_cases hb:b∈oH outer
  ·obtain ⟨_,o2,k1,_⟩:=dQ fl.2.2.1 hb;exact ⟨o2,k1⟩
  ·exact ⟨o',st2 b o' (nS b (bl b o e hb) o' k)⟩
 ·refine (I.hok b u e).stay (fun c o hc k=>?_) (fun _ q=>q) fun _ _ q=>q;have hcs:c∉oH X.stack:=fun z=>by
   have:=I.stkFree c z;rcases hc with y|y
   ·rw [y,e] at this;cases this
   ·rw [y] at this;cases this
  exact st2 c o (nS c hcs o k)
theorem z9 (hE:∀ c H',E' c none H'->E c none H'):kU (lj P w) (iG (lj P w) P w K mg base N qual scope f cd A outer s H E) E':=by
 intro pins σ H1 s1 e s' I h;obtain ⟨ea,C,t,H',B,rfl,os,bare,x,q⟩:=h;let X:=iG (lj P w) P w K mg base N qual scope f cd A outer s H E
 have noex:∀ b:aa,b∉X.ex:=fun b z=>absurd (show b∈([] : List aa) from z) (by simp);have bl:∀ b o,s.heap.get? b=some o->b∉oH outer->b∉oH X.stack:=fun b o e n z=>by
  rcases List.mem_cons.mp (I.stkSub b z) with y|y
  ·exact absurd (ai e) (by rw [y];exact Nat.not_lt.mpr I.ok.above)
  ·exact n y
 have sub:∀ b∈oH outer,b∈oH X.stack:=fun b hb=>by
  obtain ⟨env,he,hf⟩:=List.mem_filterMap.mp hb;exact Ci (am _ he) hf
 show aj _ X.A (leaving X.env (.ref ea)) _ _ _;refine wpAny_leaves_onW (base:=B) (outer:=outer) (L:=X.env.locals) I.ok.frames rfl x.fly fun h2 fl up=>?_;have st2:=fl.1;refine ⟨ea,C,t,H',B,rfl,os.trans I.os,bare,⟨fl,x.cov,fun b o e n hb=>?_,fun b o e hb=>?_,⟨fun b o e n hb hx'=>?_,fun b o e n hb hx'=>?_,fun b o e n _=>?_,fun b o e _=>?_,fun b xs e=>x.un.tups b xs (I.base.tups b xs e),fun b o xs e=>x.un.frzs b o xs (I.base.frzs b o xs e),fun b ps e=>?_⟩,fun b u e=>?_⟩,hE _ _ q⟩
 ·exact x.old b o (I.base.keep b o e n hb (noex b)) (I.base.free b o e n (noex b)) (bl b o e hb)
 ·obtain ⟨o',k⟩:=I.base.there b o e (noex b);exact x.all b o' k (bl b o e hb)
 ·exact st2 b o (x.old b o (I.base.keep b o e n hb (noex b)) (I.base.free b o e n (noex b)) (bl b o e hb))
 ·obtain ⟨sl,k⟩:=I.base.slot b o e n hb (noex b);obtain ⟨sl1,k1⟩:=x.un.slot b _ k (I.base.free b o e n (noex b)) (sub b hb) (by simp);obtain ⟨_,o',k2,k3⟩:=dQ x.fly.2.2.1 (sub b hb);rw [k1] at k2;cases k2;obtain ⟨sl2,k4⟩:=up b _ k1 k3;exact ⟨sl2,k4⟩
 ·obtain ⟨o',k⟩:=I.base.there b o e (noex b);exact x.un.free b o' k (I.base.free b o e n (noex b)) (by simp)
 ·obtain ⟨o',k⟩:=I.base.there b o e (noex b);by_cases hb:b∈oH outer
  ·obtain ⟨_,o2,k1,_⟩:=dQ fl.2.2.1 hb;exact ⟨o2,k1⟩
  ·obtain ⟨o2,k2⟩:=x.all b o' k (bl b o e hb);exact ⟨o2,st2 b o2 k2⟩
 ·obtain ⟨m1,e1⟩:=I.base.tbls b ps e;obtain ⟨m2,e2⟩:=x.un.tbls b _ e1;exact ⟨m1++m2,by rw [e2,Dd]⟩
 ·exact (x.hok b u e).stay (fun c o hc k=>by
   rcases hc with z|z
   ·rw [z] at k ⊢;exact x.kp st2 b u o e k
   ·exact x.kp st2 c _ o z k) (fun _ q=>q) fun _ _ q=>q
end
end
section
section
variable {P:aI}{w:aW}{K:a5}{mg:Str->Option a7}{base:bc}{N:List Str}{qual:Str}{scope:dO}{f:aa}{cd:a7}{A:aV}{outer:List Env}{s:a9}{H:Hp}{E:XK}
theorem G6 {x:Str}{np cpos pos:Pos}{e0:aO}{bB:List aO}{C:aa}{bmB:List a7}{newId initId Bn:String}{ta:TA} (O:OwnCls x C bmB newId mg base) (FB:ExcBaseFacts Bn newId initId bmB)
  (hg:Gl (iG (lj P w) P w K mg base N qual scope f cd A outer s H E) x) (ha:PA (iG (lj P w) P w K mg base N qual scope f cd A outer s H E) (e0::bB) ta)
  (he:ap (e0::bB) (iG (lj P w) P w K mg base N qual scope f cd A outer s H E).env=(false,bQ e0 (iG (lj P w) P w K mg base N qual scope f cd A outer s H E).env)::ap bB (iG (lj P w) P w K mg base N qual scope f cd A outer s H E).env:=by rfl)
  (hdb:(x==("__debug__" : Str))=false:=by decide) (hpl:(eR cpos (ap bB (iG (lj P w) P w K mg base N qual scope f cd A outer s H E).env)).any (·.1)=false:=by rfl) :
  PS (iG (lj P w) P w K mg base N qual scope f cd A outer s H E) (.Raise (some (.Call (.Name x np) (e0::bB) [] cpos)) none pos) (fun D σ H1=>ta σ H1 fun vs H2=>vs.length<=sizeLine/\E (.ref C) none H2):=by
 intro pins s1 σ H1 D I h;obtain ⟨tl,Nn,nm,q,bs,hdct,sn,sub,ab,col,dd,k0,k1,k2,k3,k5,mN,hC,hN,hni,T⟩:=O.obj;refine wpAny_Raise_call_subT (C:=C) (nm:=nm) (q:=q) (N:=Nn) (bs:=bs) (bm:=tl) (hdct:=hdct) (sn:=sn) (sub:=sub) (ab:=ab) (col:=col) (dd:=dd) (k0:=k0) (k1:=k1) (k2:=k2) (k3:=k3) (k5:=k5)
  FB (mN:=mN) (T.hasType FB.hasBase) (I.ok.hd rfl) ?_ hni (tG I hg O.bound ⟨rfl,?_⟩ hdb)
 ·rw [he];show (false||_)=false;rw [pP];exact hpl
 ·have hx:=ha cpos pins s1 σ H1 _ I h;rw [he] at hx ⊢;refine Ax (eD hx fun us s2 ⟨vs,H2,I2,r2,z,qE⟩=>?_);have kb:∀ b o,base.get? b=some o->s2.heap.get? b=some o:=I2.bk;exact ⟨rfl,by show us.length<=sizeLine;rw [<- r2.length];exact z,kb _ _ hC,hN.keeps kb,T.keeps kb,fun h' ea hm=>xC I2 hm qE⟩
end
structure xD (base:bc) (C:aa) (bm:List a7):Prop where
 obj:∃ nm q N bs hdct sn sub ab col dd k0 k1 k2 k3 k5 newId,base.get? C=some (excClassObj nm q C N bs bm hdct sn sub ab col dd k0 k1 k2 k3 k5 newId)
 exc:bm.contains (.type "BaseException")=true
theorem uo         (kb:∀ b o,base.get? b=some o->s.heap.get? b=some o) (x:xD base C bm) (y:xD base Cp bp)
  (hm:bm.contains (.ref Cp)=true) (he:s.heap.get? ea=some oe) (hcls:oe.cls=.ref C) (h:Q true s):aj M A (excMatches (.ref ea) (.ref Cp)) Q E s:=by
 obtain ⟨⟨nm,q,Nn,bs,hdct,sn,sub,ab,col,dd,k0,k1,k2,k3,k5,newId,o1⟩,x2⟩:=x;obtain ⟨⟨nm',q',Nn',bs',hdct',sn',sub',ab',col',dd',k0',k1',k2',k3',k5',newId',o2⟩,y2⟩:=y;have hC:=kb _ _ o1;have hP:=kb _ _ o2;have c1:(bE C::bm).contains (.ref Cp)=true:=by rw [kf,hm,Bool.or_true]
 have c2:(bE Cp::bp).contains (.type "BaseException")=true:=by rw [kf,y2,Bool.or_true]
 have f:=tc_notTuple;obtain ⟨hp,g,d,tk,os⟩:=s;unfold excMatches;repeat (first
  |(with_reducible refine wpAny_loadPart_at he ?_;rw [hcls])
  |with_reducible refine wpAny_loadPart_at hP ?_
  |(with_reducible refine wpAny_isSubtype_exc hC ?_;rw [c1])
  |(with_reducible refine wpAny_isSubtype_exc hP ?_;rw [c2])
  |wp_step)
 exact h
def uq (ea C:aa):HO:=.ext fun h=>∃ o,h.get? ea=some o/\o.cls=.ref C
theorem JR      (e:h.get? ea=some o) (c:o.cls=.ref C):cC P w H h ea (uq ea C) :=
 ⟨⟨o,e,c⟩,⟨o,e⟩,fun h1 h2 ⟨o,e,c⟩ k=>⟨o,k o e,c⟩⟩
def O8 (X:Cx) (ea:aa):Cx:={ X with A:=X.A.mark (some (.ref ea)),calm:=false,xe:=fun _ _=>False }
theorem bf.inH     (I:bf X pins σ H s) (ea:aa):bf (O8 X ea) pins σ H s :=
 ⟨⟨I.ok.mod,I.ok.kind,I.ok.glob,I.ok.blt,I.ok.above,I.ok.inj,I.ok.has,I.ok.cab,(fun z=>jh z),I.ok.frames,I.ok.stk,I.ok.exf,I.ok.bs,I.ok.bsz,I.ok.noex,I.ok.exfs,I.ok.funs,I.ok.frf⟩,I.os,I.bare,I.base,I.loc,I.cell,I.free,I.freeC,I.pin,I.hok,I.len⟩
theorem bf.outH      (ok:X.Ok) (I:bf (O8 X ea) pins σ H s):bf X pins σ H s :=
 ⟨ok,I.os,I.bare,I.base,I.loc,I.cell,I.free,I.freeC,I.pin,I.hok,I.len⟩
def ur (X:Cx):St:=kc X.N.length none
theorem bf.forget        (I:bf X pins σ H s) (hn:h'.Ns X.env.locals m') (sb:bU X.env.locals s.heap h'):bf X pins (ur X) H { s with heap:=h',toks:=t' }:=by
 have ne0:∀ b o,X.s₀.heap.get? b=some o->b≠X.env.locals:=fun b o e=>aF (az (ai e) I.ok.above);refine ⟨I.ok,I.os,I.bare,⟨fun b o e n hb hx=>(sb.2 b (ne0 b o e)).trans (I.base.keep b o e n hb hx),fun b o e n hb hx=>?_,I.base.free,fun b o e hx=>?_,I.base.tups,I.base.frzs,I.base.tbls⟩,⟨m',hn,fun i x v h1 h2 h3=>?_⟩,fun x c e=>?_,I.free,I.freeC,fun p hp=>?_,yS I.hok I.free sb,by simp [ur]⟩
 ·obtain ⟨sl,k⟩:=I.base.slot b o e n hb hx;exact ⟨sl,(sb.2 b (ne0 b o e)).trans k⟩
 ·obtain ⟨o',k⟩:=I.base.there b o e hx;exact ⟨o',(sb.2 b (ne0 b o e)).trans k⟩
 ·have h2:(ur X)[i]?=some (some v):=h2;unfold ur at h2;rw [bu] at h2;split at h2<;>cases h2
 ·obtain ⟨v,z⟩:=I.cell x c e;exact ⟨v,z.sameBut sb (I.cne x c e)⟩
 ·obtain ⟨e,n,ne,nf,d⟩:=I.pin p hp;exact ⟨(sb.2 p.1 ne).trans e,n,ne,nf,d⟩
def Lv (X:Cx) (Cp:aa) (i:Nat) (ts:TS) (D:vD):XK:=fun c _ H'=>∃ C bm,c=.ref C/\xD X.base C bm/\bm.contains (.ref Cp)=true /\
 ∀ ea,H' ea=none->ts { nx:=fun _ H=>D.nx (ur X) H,rt:=D.rt } ((ur X).set i (some (.ref ea))) (upd H' ea (uq ea C))
def Ra (X:Cx) (Cp:aa) (i:Nat) (tb:XK->TS) (ts:TS):TS:=fun D σ H=>tb (Lv X Cp i ts D) D σ H
theorem G7           (I:bf X pins σ H s) (hg:Gl X x) (hm:X.mg x=some u) (h:Q u s)
  (hd:(x==("__debug__" : Str))=false:=by decide):aj (aA X.prog X.w) A (bQ (.Name x pos) X.env) Q E s :=
 k7 I.ok.kind hg (yp (by rw [I.ok.glob];exact I.mod.glob.keeps I.bk) hm h) hd
def Nk (X:Cx) (xe:a7->a9->Prop) (pn:List (aa×Obj)):Cx:={ X with xe:=xe,pn:=pn }
theorem bf.inT     (I:bf X pins σ H s) (xe:a7->a9->Prop):bf (Nk X xe (X.pn++pins)) [] σ H s :=
 ⟨⟨I.ok.mod,I.ok.kind,I.ok.glob,I.ok.blt,I.ok.above,I.ok.inj,I.ok.has,I.ok.cab,I.ok.hd,I.ok.frames,I.ok.stk,I.ok.exf,I.ok.bs,I.ok.bsz,I.ok.noex,I.ok.exfs,I.ok.funs,I.ok.frf⟩,I.os,I.bare,I.base,I.loc,I.cell,I.free,I.freeC,
  fun p hp=>I.pin p ((List.mem_append.mp hp).elim id fun z=>absurd z (by simp)),I.hok,I.len⟩
theorem bf.outT      (ok:X.Ok) (I:bf (Nk X xe (X.pn++pins)) pins' σ H s):bf X pins σ H s :=
 ⟨ok,I.os,I.bare,I.base,I.loc,I.cell,I.free,I.freeC,fun p hp=>I.pin p (oE _ hp),I.hok,I.len⟩
theorem bf.track0       (I:bf X pins σ H s) (h0:X.s₀.heap.get? D=none) (f0:H D=none) (f1:D≠X.env.locals) (f4:∀ x c,X.env.cells.lookup x=some c->c≠D) (f5:∀ p∈X.pn++pins,p.1≠D)
  (new:cC X.prog X.w (upd H D ho) s.heap D ho):bf X pins σ (upd H D ho) s :=
 ⟨I.ok,I.os,I.bare,⟨I.base.keep,I.base.slot,fun b o e n hx=>by rw [aJ (fun z=>by rw [z,h0] at e;cases e)];exact I.base.free b o e n hx,I.base.there,fun b xs e=>by have q:=I.base.tups b xs e;rw [aJ (aS q f0)];exact q,
  fun b o xs e=>by have q:=I.base.frzs b o xs e;rw [aJ (aS q f0)];exact q,fun b ps e=>by obtain ⟨m,q⟩:=I.base.tbls b ps e;exact ⟨m,by rw [aJ (aS q f0)];exact q⟩⟩,I.loc,I.cell,
  by rw [aJ (dU f1)];exact I.free,fun x c e=>by rw [aJ (f4 x c e)];exact I.freeC x c e,fun p hp=>by
  obtain ⟨e,n,r⟩:=I.pin p hp;exact ⟨e,by rw [aJ (f5 p hp)];exact n,r⟩,rn I.hok f0 new,I.len⟩
theorem Nl          (hg:Gl X x) (hm:X.mg x=some (.ref Cp)) (y:xD X.base Cp bp)
  (hN:X.N.Nodup) (hi:X.N[i]?=some n) (hn:X.env.scope.names.lookup n=some .local) (hst:∃ l,X.stack=X.env::l/\X.env.frame=some X.env.locals) (hex:X.ex=[])
  (hb:∀ (E:XK) (xe:a7->a9->Prop) (pn:List (aa×Obj)),kU (lj X.prog X.w) (Nk X xe pn) E->yy (Nk X xe pn) body (tb E)) (hs:∀ ea,yy (O8 X ea) (b0::suite) ts) (hdb:(x==("__debug__" : Str))=false:=by decide) :
  PS X (.Try body [.ExceptHandler (some (.Name x np)) (some n) (b0::suite) hpos] [] [] pos) (Ra X Cp i tb ts):=by
 intro pins s σ H D I h;obtain ⟨l,hl,hfr⟩:=hst;have ok:=I.ok;refine wpAny_Try_except ?_;let xe:a7->a9->Prop:=fun e s₁=>aj (aA X.prog X.w) X.A (EL e X.env) (fun _ s₂=>aj (aA X.prog X.w) X.A (setFlight e none) (fun _ s₃ =>
  aj (aA X.prog X.w) X.A (handleBy e X.env [.ExceptHandler (some (.Name x np)) (some n) (b0::suite) hpos]) (SP X pins D) X.xe s₃) X.xe s₂) X.xe s₁
 have hp:kU (lj X.prog X.w) (Nk X xe (X.pn++pins)) (Lv X Cp i ts D):=by
  intro pins' σ' H1 s1 e s' I' hx;have I1:bf X pins σ' H1 s1:=I'.outT ok;obtain ⟨ea,C,t,H',B,rfl,os,bare,air,C',bm,hCe,ox,hcp,hts⟩:=hx;cases hCe;have air:Lu X.prog X.w X.stack H1 H' s1.heap s'.heap B ea C t:=air;have land:∀ h2,Lu X.prog X.w X.stack H1 H' s1.heap h2 B ea C t->bf X pins σ' H' { s' with heap:=h2 }:=fun h2 a =>
   I1.call' (s':={ s' with heap:=h2 }) (ch:=[]) os a.un a.hok bare (fun b z=>absurd z (by simp))
  have fly:=air.fly;rw [hl] at fly;show aj _ X.A (EL (.ref ea) X.env) _ _ s';refine wpAny_looks_onW (base:=B) (outer:=l) (L:=X.env.locals) (by rw [ok.frames,hl]) hfr fly fun h2 hd2 up2=>?_;refine wpAny_landsW hd2 fun h3 fl3 up3=>?_;have up3':=up2.trans up3;have a3:=air.on (by rw [hl];exact fl3) up3';have I3:=land h3 a3;obtain ⟨oe,he,hcl⟩:=fl3.there;refine wpAny_handleBy_cons (codeAny_handlers_test (G7 I3 hg hm ?_ hdb)) (by intro q;cases q);refine uo (base:=X.base) (s:={ s' with heap:=h3 }) I3.bk ox y hcp he hcl (codeAny_handlers_suite_as ?_);refine lands_againW (s:={ s' with heap:=h3 }) fl3 fun h4 fl4 up4=>?_;have a4:=air.on (by rw [hl];exact fl4) (up3'.trans up4);have I4:=land h4 a4;obtain ⟨oe4,ws,he4,hcl4,hd4,_⟩:=fl4.first;have nB:B.get? ea=none:=fl4.2.1;have nfr:ea∉oH X.stack:=fun z=>by
   obtain ⟨_,o',k1,k2⟩:=dQ fl4.2.2.1 (by rw [<- hl];exact z);rw [he4] at k1;cases k1;exact k2 _ hd4
  have n1:s1.heap.get? ea=none:=by
   cases q:s1.heap.get? ea with
   |none=>rfl
   |some o =>
    obtain ⟨o',k⟩:=air.all ea o q nfr;rw [nB] at k;cases k
  have nH:H' ea=none:=by
   cases q:H' ea with
   |none=>rfl
   |some u =>
    obtain ⟨o',k⟩:=air.cov ea u q;rw [nB] at k;cases k
  have nloc:ea≠X.env.locals:=fun z=>by
   obtain ⟨m,⟨o,_,_,k,_⟩,_⟩:=I1.loc;rw [<- z,n1] at k;cases k
  have ncell:∀ x c,X.env.cells.lookup x=some c->c≠ea:=fun x c e z=>by
   obtain ⟨v,o,k,_⟩:=I1.cell x c e;rw [z,n1] at k;cases k
  have npin:∀ p∈X.pn++pins,p.1≠ea:=fun p hp z=>by
   have k:=(I1.pin p hp).1;rw [z,n1] at k;cases k
  have n0:X.s₀.heap.get? ea=none:=by
   cases q:X.s₀.heap.get? ea with
   |none=>rfl
   |some o =>
    by_cases hx:ea∈X.ex
    ·rw [hex] at hx;cases hx
    ·obtain ⟨o',k⟩:=I1.base.there ea o q hx;rw [n1] at k;cases k
  have I5:=(I4.weak (σ':=ur X) (by rw [I4.len];simp [ur]) (fun j v z=>by
   unfold ur at z;rw [bu] at z;split at z<;>cases z)).track0 (ho:=uq ea C) n0 nH nloc ncell npin (JR he4 hcl4)
  refine ua I5 hN hi (.inl hn) (v:=.ref ea) rfl (fun s6 I6=>?_) (.inr hn);refine bR (hs ea pins s6 _ _ _ (I6.inH ea) (hts ea nH)) (fun f s7 q7=>?_) fun _ _ z=>z.elim;have fin:∀ {σ7:St}{H7:Hp}{Q':St->Hp->Prop},bf (O8 X ea) pins σ7 H7 s7->(∀ s8,bf X pins (ur X) H7 s8->SP X pins D f s8)->aj (aA X.prog X.w) X.A (do bindName X.env n .none;unbindBehindTheSuite X.env n hpos) (fun _ s8=>SP X pins D f s8) X.xe s7:=fun {σ7 H7 Q'} J k=>by
   have J:=J.outH ok;obtain ⟨m,hm7,_⟩:=J.loc;exact wpAny_nameGoes hn hm7 (by rw [ok.kind];rfl) fun h8 m8 hn8 sb8=>k _ (J.forget hn8 sb8)
  cases f with
  |next=>obtain ⟨σ7,H7,J,q⟩:=q7;exact fin (Q':=fun _ _=>True) J fun s8 I8=>⟨_,_,I8,q⟩
  |brk=>obtain ⟨σ7,H7,J,q⟩:=q7;exact q.elim
  |cont=>obtain ⟨σ7,H7,J,q⟩:=q7;exact q.elim
  |ret v=>obtain ⟨z,σ7,H7,J,r,q⟩:=q7;exact fin (Q':=fun _ _=>True) J fun s8 I8=>⟨z,_,_,I8,r,q⟩
 refine bR (hb _ xe (X.pn++pins) hp [] s σ H D (I.inT xe) h) (fun f s1 q=>?_) fun e s1 q=>q;have q:SP X pins D f s1:=by
  cases f with
  |next=>obtain ⟨σ',H',J,q⟩:=q;exact ⟨σ',H',J.outT ok,q⟩
  |brk=>obtain ⟨σ',H',J,q⟩:=q;exact ⟨σ',H',J.outT ok,q⟩
  |cont=>obtain ⟨σ',H',J,q⟩:=q;exact ⟨σ',H',J.outT ok,q⟩
  |ret v=>obtain ⟨z,σ',H',J,r,q⟩:=q;exact ⟨z,σ',H',J.outT ok,r,q⟩
 cases f with
 |next=>exact pC q
 |brk=>exact q
 |cont=>exact q
 |ret v=>exact q
end
section
structure G8 (K:a5) (C:aa):Prop where
 ga:eS K (.ref C) "__getattribute__"=some (some (.builtin "BaseException.__getattribute__"))
 gn:eS K (.ref C) "__getattr__"=some none
 ca:eS K (.ref C) "__class__"=some (some (.builtin "object.__class__"))
 gg:pI K (.builtin "object.__class__") "__get__"=some (some (.builtin "getset_descriptor.__get__"))
 tk:sQ K (.builtin "object.__class__")=some true
 mo:bJ K C (.type "object")=some true
 be:bJ K C (.type "BaseException")=some true
 cl:(eK K C).isSome=true
def wz (x C:aa) (h:bc):Prop:=∃ o,h.get? x=some o/\o.cls=.ref C
theorem wz.type   (p:wz x C h):IG M h (typeOf (.ref x)) (.ref C):=by
 obtain ⟨o,e,c⟩:=p;exact c ▸ (PySem.W.Looks.ld e).andThen .now
section
variable {prog:aI}{w:aW}{A:aV}{E:a7->a9->Prop}{s:a9}{K:a5}{x C:aa}{R:Aq->a9->Prop}
open PySem.W Builtin Builtin.ObjectAttr Builtin.Getset_descriptor in
theorem JU (Z:G8 K C) (X:K.In s.heap) (p:wz x C s.heap) (q:R (.ok (.ret (.ref C))) s):fU (aA prog w) A (.call (.builtin "getset_descriptor.__get__") ⟨[.builtin "object.__class__",.ref x,tp],[]⟩) R s:=by
 obtain ⟨hp,gs,dr,tt,os⟩:=s;have T0:=p.type (M:=aA prog w);have T1:=looks_mroIn (M:=aA prog w) X Z.mo;refine qY KF.slot_gs.plain KF.entry_gs ?_;refine KF.slot_gs.check _ _ _ _ _ _ _ _ KF.type_class (KF.args_gs _ _ _) ?_;unfold i5.«getset_descriptor.__get__» descrGet;rw [dga_obj];refine a6 (ae ?_);unfold descrGetter descrCheckInstance descrNameAndClass AC;simp only [KF.owner_class];repeat lk
 refine ⟨EN _ (by decide +kernel),gz KF.entry_class ?_⟩;unfold i5.«object.__class__» shownTypeOf;repeat lk
 exact q
theorem DR (Z:G8 K C) (X:K.In s.heap) (p:wz x C s.heap) (h:Q (some (.ref C)) { s with toks:=s.toks+1 }):aj (aA prog w) A (getAttr? (.ref x) "__class__") Q E s:=by
 obtain ⟨hh,g,d,t,os⟩:=s;have L0:=p.type (M:=aA prog w);have L1:=mX (M:=aA prog w) X Z.ga;have L2:=mX (M:=aA prog w) X Z.gn;have F1:=mX (M:=aA prog w) X Z.ca;have F2:=PySem.W.looks_specialIn (M:=aA prog w) X Z.gg;have F3:=PySem.W.looks_takesIn (M:=aA prog w) X Z.tk;have L4:=PySem.W.looks_mroIn (M:=aA prog w) X Z.be;unfold getAttr? getAttrBy? getAttrBy;refine a6 (wpAny_mkText (a6 (j_ (cB (a6 (L0.at (a6 (L1.at ?_))))))));show aj _ _ (getAttrByItsOwn (.ref x) (.str "__class__" t) (.ref C) (.builtin "BaseException.__getattribute__") false false) _ _ _;unfold getAttrByItsOwn;show aj _ _ (Aw (.ref C) "__getattr__" >>= _) _ _ _;refine a6 (L2.at (a6 (j_ (cB ?_))));show aj _ _ (boundAndCalled (.builtin "BaseException.__getattribute__") (.ref x) (.str "__class__" t)) _ _ _;unfold boundAndCalled;refine a6 (qX (F.excAttr_ValueError.ga.bind (.ref x)) ?_);show aj _ _ (call (.builtin "BaseException.__getattribute__") [.ref x,.str "__class__" t]) _ _ _;refine tX (qY F.excAttr_ValueError.ga.plain F.entry_bexc_ga ?_);have hk:builtinKind "BaseException.__getattribute__"=some .slot:=by decide +kernel
 have hsp:splitId "BaseException.__getattribute__"=some ("BaseException","__getattribute__"):=by decide +kernel
 have hao:=F.args_bexc_ga (.ref x) (.str "__class__" t);simp only [checkBuiltinCall,hk,hsp];have LI:IG (aA prog w) hh (AC (.ref x) (.type "BaseException")) true:=L0.andThen L4;refine a6 (LI.at ?_);rw [if_neg (by decide)];refine qX (a:=()) (by unfold argsOk at hao;exact hao) ?_;unfold i5.«object.__getattribute__»;refine a6 (m:=slotArgs "__getattribute__" 1 _) (ae ?_);refine a6 (m:=IH _) (ae ?_);refine a6 (L0.at (a6 ?_));unfold II;refine a6 (F1.at (a6 (F2.at (a6 ?_))));refine a6 (F3.at ?_);refine ae (a6 (gT (ae ?_)));show aj _ _ (EZ [.builtin "object.__class__"] (call (.builtin "getset_descriptor.__get__") [.builtin "object.__class__",.ref x,.ref C]) >>= fun v=>ret v) _ _ _;refine a6 (cB (tX (JU (s:=⟨hh,g,d,t+1,os⟩) Z X p ?_)));exact ae (PySem.W.handed_on rfl (ae h))
theorem G9 (Z:G8 K C):PySem.W.KitX K (.ref x) (.ref C) (wz x C) where
 ty:=fun _ _ _ p=>p.type
 it:=fun M h X _=>by
  obtain ⟨cd,hc⟩:=Option.isSome_iff_exists.mp Z.cl;unfold eK at hc;split at hc
  ·rename_i c' d' cd' sl' ho
   intro A' Q' E' s' k q;unfold isType loadHead;exact a6 (wpAny_loadPart (k _ _ (X _ _ ho)) (ae q))
  ·cases hc
 ne:=fun h tp dd its n sl X htp=>by
  refine Bool.eq_false_iff.mpr fun q=>?_;obtain rfl:C=tp:=Value.ref.inj (beq_iff_eq.mp q);obtain ⟨cd,hc⟩:=Option.isSome_iff_exists.mp Z.cl;unfold eK at hc;split at hc
  ·rename_i c' d' cd' sl' ho
   have z:=(X _ _ ho).symm.trans htp;cases z
  ·cases hc
 ca:=fun X p k=>DR Z X p k
end
section
theorem sv:iK X (.builtin "isinstance") (fun xs H Q=>∃ x c cv b,xs=[x,c]/\((∃ n,c=.ty n/\cv=.type n)\/∃ C',c=.ref C'/\cv=.ref C')/\((∃ t,rl X.K H x t/\cF X.K t cv=some b) \/
  ∃ ea C,x=.ref ea/\H ea=some (uq ea C)/\G8 X.K C/\cF X.K (.ref C) cv=some b)/\Q (.bl b) H):=by
 intro pins s σ H xs us Q I r h;obtain ⟨x,c,cv,b,rfl,rc,h,q⟩:=h;obtain ⟨u,v,rfl,ru,rv⟩:=Fx r;obtain rfl:v=cv:=by
  rcases rc with ⟨n,rfl,rfl⟩|⟨C',rfl,rfl⟩
  ·exact rv
  ·exact rv
 rcases h with ⟨t,ty,e⟩|⟨ea,C,rfl,hH,Z,e⟩
 ·exact l9 I ru ty e fun tk=>⟨.bl b,H,I.tok tk,rfl,q⟩
 ·cases ru;have p:wz ea C s.heap:=(show cC X.prog X.w H s.heap ea (uq ea C) from I.hok ea _ hH).1;exact bO (G9 Z) I.kIn p e (fun z=>nomatch z) fun tk=>⟨.bl b,H,I.tok tk,rfl,q⟩
end
end
section
structure jL (k:Nat) (A:aV):Prop where
 dp:A.depth+3*k+5<Ap
 un:A.units+16*k+200<oq
theorem iS.h  (r:iS k A):jL k A:=⟨r.dp,r.un⟩
theorem jL.mark  (r:jL k A) (v:Option a7):jL k (A.mark v):=⟨r.dp,r.un⟩
theorem jL.deeper  (r:jL (k+1) A) (env:Env):jL k (A.deeper env):=⟨by have:=r.dp;show A.depth+1+3*k+5<_;omega,by have:=r.un;show A.units+3+16*k+200<_;omega⟩
structure zb (P:aI) (w:aW) (K:a5) (mg:Str->Option a7) (base:bc) (k:Nat) (f:aa) (fd:cY) (ps:List Str) (sp:Sp):Prop where
 len:∀ vs H Q E,sp vs H Q E->vs.length=ps.length
 run:∀ (A:aV) (outer:List Env) (s:a9) (H:Hp) (args:Args) (us:List a7) (vs:List V) (Q:VK) (E:XK),jL k A->AW P w K mg base A outer s H->s9 s fd args (ps.zip us)->cz vs us->sp vs H Q E ->
  fU (aA P w) A (.call (.ref f) args) (CR RC outer P w H s Q E) s
def ON (P:aI) (w:aW) (K:a5) (mg:Str->Option a7) (base:bc) (N:List Str) (qual:Str) (scope:dO) (f:aa) (cd:a7) (A:aV) (outer:List Env) (s:a9) (H:Hp):Cx where
 prog:=P
 w:=w
 K:=K
 mg:=mg
 base:=base
 A:=A.deeper (ii qual scope s.heap.objs.size f cd)
 N:=N
 s₀:=s
 H₀:=H
 env:=ii qual scope s.heap.objs.size f cd
 outer:=outer
 stack:=ii qual scope s.heap.objs.size f cd::outer
 ex:=[]
 calm:=false
 fn:=fun _=>true
 pn:=[]
 xe:=fun _ _=>False
section
variable {P:aI}{w:aW}{K:a5}{mg:Str->Option a7}{base:bc}
theorem B9
  (S:bK N ps scope) (e0:AW P w K mg base A outer s H) (hl:vs.length=ps.length) (r:cz vs us)
  (x:InCallC s s.heap.objs.size (As (ii qual scope s.heap.objs.size f cd).kindOf (ps.zip us) fun _=>none) (bq (s.heap.objs.size+1) scope.names []) (At (ii qual scope s.heap.objs.size f cd).kindOf (ps.zip us) fun _=>none) s1) :
  bf (ON P w K mg base N qual scope f cd A outer s H) [] (start N vs) H s1:=by
 have e1:AW P w K mg base { A with handled:=none } outer s H:=⟨e0.frames,e0.mod,e0.bs,e0.bsz,e0.funs,e0.frf,e0.hok,e0.bare⟩;have I:=wn (CX:=RC) (E:=E0) S (A:={ A with handled:=none }) rfl e1 hl r x;exact ⟨⟨I.ok.mod,I.ok.kind,I.ok.glob,I.ok.blt,I.ok.above,I.ok.inj,I.ok.has,I.ok.cab,(fun z=>jh z),I.ok.frames,I.ok.stk,I.ok.exf,I.ok.bs,I.ok.bsz,I.ok.noex,I.ok.exfs,I.ok.funs,I.ok.frf⟩,I.os,I.bare,I.base,I.loc,I.cell,I.free,I.freeC,I.pin,I.hok,I.len⟩
theorem Nm {k:Nat}{f:aa}{name qual:Str}{params:Arguments}{body:List dC}{scope:dO}{dV kV doc pm cdv ct oc:a7}{an od:Option aa}
  {osl:Array (Option a7)}{N ps:List Str}{sp:Sp} (lk:K.lookup f=some ⟨oc,od,.func (dq name qual params body scope dV kV doc pm an cdv ct),osl⟩) (hcd:ij K cdv qual=true) (S:bK N ps scope)
  (len:∀ vs H Q E,sp vs H Q E->vs.length=ps.length)
  (hbody:∀ (A:aV) (outer:List Env) (s:a9) (H:Hp) (vs:List V) (Q:VK) (E:XK),jL k (A.deeper (ii qual scope s.heap.objs.size f cdv))->sp vs H Q E ->
   ∃ t,yy (ON P w K mg base N qual scope f cdv A outer s H) body t/\t { nx:=fun _ H'=>Q .non H',rt:=Q } (start N vs) H) :
  zb P w K mg base (k+1) f (dq name qual params body scope dV kV doc pm an cdv ct) ps sp:=by
 refine ⟨len,fun A outer s H args us vs Q E hr e0 hb r hsp=>?_⟩;have hl:=len _ _ _ _ hsp;have KX:K.In s.heap:=e0.mod.kin.keeps fun b o e=>(e0.bs b o e).1;have lim:s.heap.NoLimit:=e0.mod.nolimit.keeps fun b o e=>(e0.bs b o e).1;have hkind:∀ y∈ps.zip us,scope.names.lookup y.1=some .local\/(scope.names.lookup y.1=some .cell/\((bq (s.heap.objs.size+1) scope.names []).lookup y.1).isSome=true):=fun ⟨n,v⟩ hy=>by
  rcases S.par n (mU hy).1 with q|q
  ·exact .inl q
  ·exact .inr ⟨q,dW _ _ _ (.inl q)⟩
 refine IA (by have:=hr.dp;omega) (KX _ _ lk) rfl S.co S.gen rfl (oR KX hcd) (hb _ _ _ _ ?_);refine Au S.kind hkind fun env he s1 x=>?_;subst he;refine ⟨lim.keeps x.toInCall.keep,codeAny_func ?_⟩;obtain ⟨t,ht,hq⟩:=hbody A outer s H vs Q E (hr.deeper _) hsp;have I:bf (ON P w K mg base N qual scope f cdv A outer s H) [] (start N vs) H s1:=B9 S e0 hl r x;refine bR (ht [] s1 (start N vs) H _ I hq) (fun fl s' hs=>?_) fun e s' hs=>(show False from hs).elim;have fin:∀ {σ':St}{H':Hp}{v:V}{u:a7},bf (ON P w K mg base N qual scope f cdv A outer s H) [] σ' H' s'->cu v u->Q v H'->CE outer P w H s Q u s' :=
  fun {σ' H' v u} J rv q=>⟨v,H',J.os,J.bare,J.base,J.hok,rv,q⟩
 cases fl with
 |ret u =>
  obtain ⟨v,σ',H',J,rv,q⟩:=hs;exact fin J rv q
 |next =>
  obtain ⟨σ',H',J,q⟩:=hs;exact fin (v:=V.non) (u:=dm) J rfl q
 |brk =>
  obtain ⟨_,_,_,q⟩:=hs;exact dn q
 |cont =>
  obtain ⟨_,_,_,q⟩:=hs;exact dn q
theorem Aj.okH {x qual:Str}{st:dC}{f:aa}{fd:cY}{N ps:List Str}{k:Nat}{sp:Sp} (F:Aj K x qual st f fd) (S:bK N ps (aC st)) (len:∀ vs H Q E,sp vs H Q E->vs.length=ps.length)
  (hbody:∀ (cdv:a7) (A:aV) (outer:List Env) (s:a9) (H:Hp) (vs:List V) (Q:VK) (E:XK),jL k (A.deeper (ii qual (aC st) s.heap.objs.size f cdv))->sp vs H Q E ->
   ∃ t,yy (ON P w K mg base N qual (aC st) f cdv A outer s H) (fh st) t/\t { nx:=fun _ H'=>Q .non H',rt:=Q } (start N vs) H):zb P w K mg base (k+1) f fd ps sp:=by
 obtain ⟨oc,od,kV,doc,pm,an,cdv,ct,osl,rfl,lk,hcd⟩:=F.ex;exact Nm lk hcd S len fun A outer s H vs Q E hr hsp=>hbody cdv A outer s H vs Q E hr hsp
end
section
theorem Ga (F:zb X.prog X.w X.K X.mg X.base k f fd ps sp) (hr:jL k X.A) (hg:Gl X x) (hm:X.mg x=some (.ref f)) (hk:cU X.K (.ref f)=true) (hb:iL X.K fd ps [])
  (ha:PA X (e::es) t) (hdb:(x==("__debug__" : Str))=false:=by decide) (he:ap (e::es) X.env=(false,bQ e X.env)::ap es X.env:=by rfl) (hpl:(eR pos (ap es X.env)).any (·.1)=false:=by rfl) :
  PE X (.Call (.Name x p) (e::es) [] pos) (C5 sp [] E0 t):=by
 intro pins s σ H Q I h;refine lK (tG I hg hm ?_ hdb);refine Ar (h₀:=X.base) I.ok.mod.kin hk (eD (ha pos pins s σ H _ I h) fun us s1 ⟨vs,H1,I1,r,q⟩=>⟨I1.kIn,?_⟩) he hpl;have q:sp (vs++[]) H1 Q E0:=q;rw [bW] at q;have hl:us.length=ps.length:=by rw [<- r.length];exact F.len _ _ _ _ q
 have hb':=hb s1 us I1.kIn (by rw [bW];exact hl);rw [bW] at hb';refine tX (l5 (F.run X.A X.stack s1 H1 ⟨us,[]⟩ us vs Q E0 hr I1.env0 hb' r q) fun r s' hq=>?_);cases r with
 |error e=>exact (show False from hq).elim
 |ok fl =>
  cases fl with
  |ret u=>exact I1.after hq
  |next=>exact dn hq
  |brk=>exact dn hq
  |cont=>exact dn hq
end
end
section
section
def Rb:xh->String
 |.none=>"NoneType" | .bool _=>"bool" | .int _=>"int" | .str _=>"str" | .list _=>"list" | .tuple _=>"tuple" | .dict _=>"dict"
theorem Ba            (I:bf X pins σ H s) (rx:cu x u) (r:B8 X.K H x d) (e:cF X.K (.type (Rb d)) c=some b) (h:∀ tk,Q (.bool b) { s with toks:=tk }) :
  aj (aA X.prog X.w) A (call (.builtin "isinstance") [u,c]) Q E s:=by
 cases r with
 |none=>exact l9 I rx .non e h
 |bool y=>exact l9 I rx (.bl y) e h
 |int i=>exact l9 I rx (.int i) e h
 |str y=>exact l9 I rx (.str y) e h
 |list hq _ =>
  cases rx;obtain ⟨its,rv,⟨o,n,ho,c,_,dd⟩,_⟩:=I.list hq;exact bO pJ I.kIn ⟨o,ho,c⟩ e (fun z=>nomatch z) h
 |tuple hq _ =>
  cases rx;obtain ⟨its,rv,⟨o,ho,c,n,dd⟩,_⟩:=I.tuple hq;exact bO Ao I.kIn ⟨o,ho,c⟩ e (fun z=>nomatch z) h
theorem Gb:iK X (.builtin "isinstance") (fun xs H Q=>∃ x d T b,xs=[x,.ty T]/\B8 X.K H x d/\cF X.K (.type (Rb d)) (.type T)=some b/\Q (.bl b) H):=by
 intro pins s σ H xs us Q I r h;obtain ⟨x,d,T,b,rfl,rp,e,q⟩:=h;obtain ⟨u,v,rfl,ru,rv⟩:=Fx r;obtain rfl:v=.type T:=rv;exact Ba I ru rp e fun tk=>⟨.bl b,H,I.tok tk,rfl,q⟩
end
end
end L2
section
namespace HT
open PySem PyProof.Rows
section
theorem zc {t sl:aa}{items:Array a7}{vl vu:a7}{lo hi:Option Int}{Q:a7->a9->Prop} (ht:IsTup s.heap t items) (hs:s.heap.IsSliceOf sl vl vu .none) (pl:oS vl lo) (pu:oS vu hi)
  (hw:gG items.size 0 lo=0/\gG items.size items.size hi=items.size) (h:Q (.ref t) s):aj (aA prog w) A (mO (.ref t) (.ref sl)) Q E s:=by
 obtain ⟨os,hos,hcs,hds⟩:=id hs;have hTs:s.TypeIs (.ref sl) "slice":=⟨os,hos,hcs⟩;unfold mO;try with_reducible refine cB ?_
 first|refine a6 (ae ?_)|skip
 refine a6 (wpAny_sequenceKey ht.typeIs (by decide) ?_);refine a6 (cy (name:=cf "__getitem__") ht.typeIs eC
  (cq eC ht.typeIs entry_tuple_getitem ?_ (args_tuple_getitem _ _)))
 show aj _ _ (pM (.ref t) >>= _) _ _ s;refine a6 (tupleItemsOf_ ht ?_);refine a6 (oT hTs ?_);rw [if_pos (by decide)];refine a6 (le hs pl pu ?_);have hyes:((((gG items.size 0 lo:Nat):Int)==0&&(1:Int)==1&&(gG items.size items.size hi-gG items.size 0 lo)==items.size)=true):=by
  rw [hw.1,hw.2];simp
 show aj _ _ (if (((gG items.size 0 lo:Nat):Int)==0&&(1:Int)==1&&(gG items.size items.size hi-gG items.size 0 lo)==items.size)=true then _ else _) _ _ s;rw [if_pos hyes];refine a6 ?_;unfold Builtin.Tuple.tupleIsExact;refine a6 (oT ht.typeIs (ae ?_));rw [if_pos (by decide)];refine a6 (gT ?_);first
  |exact ae (ae ⟨_,rfl,h⟩)
  |exact ae ⟨_,rfl,ae h⟩
  |exact a6 (ae (ae ⟨_,rfl,ae h⟩))
  |exact a6 (ae (ae ⟨_,rfl,h⟩))
end
end HT
namespace L2
open PySem PySem.Spec PyProof.Rows
section
inductive Gc (K:a5) (x:V) (lo:Option Int) (hi:Option Int) (H:Hp) (Q:VK):Prop
 |mk (a xs:_) (h0:x=.ref a) (h1:iF K H a xs) (h2:(HT.gG xs.length 0 lo=0/\HT.gG xs.length xs.length hi=xs.length)) (h3:Q (.ref a) H):Gc K x lo hi H Q
def OO (K:a5):V->Option Int->Option Int->Hp->VK->Prop:=Gc K
theorem JV:O6 X (OO X.K):=by
 intro pins s σ H x v vl vu lo hi sl Q I rx hs pl pu h;obtain ⟨a,xs,rfl,hx,hw,q⟩:=h;cases rx;obtain ⟨its,r,ht,hz⟩:=I.tuple hx;have hlen:its.toArray.size=xs.length:=by rw [ax];exact r.length.symm
 exact ⟨"tuple",_,PyProof.Rows.slot_tuple_getitem.lookup,ht.typeIs,HT.zc ht hs pl pu (by rw [hlen];exact hw) ⟨.ref a,H,I,rfl,q⟩⟩
theorem gO   (h:H p=none):cK H (upd H p o):=fun b u e=>by rw [aJ (aS e h)];exact e
theorem oY:∀ {bs:List Bool}{us:List a7},cz (bs.map V.bl) us->us=bs.map gq
 |[],_,.nil=>rfl
 |b::r,_,.cons h t=>by cases h;rw [oY t];rfl
theorem ut {A:aV}{s:a9}{bs:List Bool}:∀ y,y∈(bs.map gq).toArray->Dm A s y (.bool true) (re true y):=fun y hy=>by
 have hy:y∈bs.map gq:=by simpa using hy
 obtain ⟨b,_,rfl⟩:=List.mem_map.mp hy;exact vY b true
def JX (K:a5):V->List V->Hp->VK->Prop:=fun x vs H Q=>∃ l,∃ bs:List Bool,x=.ref l/\vs=[.bl true]/\k_ K H l (bs.map V.bl)/\Q (.int (bs.countP id:Nat)) H
theorem DS:QU X "list.count" (JX X.K):=by
 intro pins s σ H x vs v us Q I rx rv h;obtain ⟨l,bs,rfl,rfl,hq,q⟩:=h;cases rx;obtain ⟨u,rfl,ru⟩:=rv.one;cases ru;obtain ⟨its,r,⟨o,n,ho,c,hd,dt⟩,hz⟩:=I.list hq;rw [oY r] at dt;obtain ⟨cls,dd,data,sl⟩:=o;simp only at c dt;subst c dt;refine iO w9 ⟨_,ho,rfl⟩ PySem.F.entry_list_count (PySem.F.args_list_count_2 _ _) (SeqAt.list_countAt l (bs.map gq).toArray n dd sl (.bool true) (re true)) ⟨ho,fun y hy=>ut y hy,?_⟩;refine ⟨.int _,H,I.tok _,⟨_,rfl⟩,?_⟩;have e:(bs.map gq).toArray.toList.countP (re true)=bs.countP id:=by
  show (bs.map gq).countP (re true)=_;rw [List.countP_map];congr 1;funext b;cases b<;>rfl
 rw [e];exact q
def JY (K:a5):V->List V->Hp->VK->Prop:=fun x vs H Q=>∃ l,∃ bs:List Bool,∃ j:Nat,x=.ref l/\vs=[.bl true]/\k_ K H l (bs.map V.bl)/\bs[j]?=some true/\(∀ m,m<j->bs[m]?=some false)/\j<=1000/\Q (.int (j:Nat)) H
theorem DT:QU X "list.index" (JY X.K):=by
 intro pins s σ H x vs v us Q I rx rv h;obtain ⟨l,bs,j,rfl,rfl,hq,hj,hno,hsm,q⟩:=h;cases rx;obtain ⟨u,rfl,ru⟩:=rv.one;cases ru;obtain ⟨its,r,⟨o,n,ho,c,hd,dt⟩,hz⟩:=I.list hq;rw [oY r] at dt;obtain ⟨cls,dd,data,sl⟩:=o;simp only at c dt;subst c dt;obtain ⟨hjl,hjv⟩:=List.getElem?_eq_some_iff.mp hj;refine iO wa ⟨_,ho,rfl⟩ PySem.F.entry_list_index (PySem.F.args_list_index_2 _ _) (SeqAt.list_indexAt l (bs.map gq).toArray n dd sl (.bool true) (re true) j (by simpa using hjl) (by omega) ?_ ?_) ⟨ho,fun y hy=>ut y hy,?_⟩
 ·simp [re,hjv]
 ·intro m hm hlt;have:=hno m hlt;obtain ⟨_,hv⟩:=List.getElem?_eq_some_iff.mp this;simp [re,hv]
 ·exact ⟨.int _,H,I.tok _,⟨_,rfl⟩,q⟩
theorem uu (hc:X.calm=true):iK X (.type "list") (fun xs H Q=>∃ a kvs,xs=[.ref a]/\H a=some (.dK kvs)/\∀ l,H l=none->Q (.ref l) (upd H l (.lst (kvs.map fun p=>kV p.1)))):=by
 intro pins s σ H xs us Q I r h;obtain ⟨a,kvs,rfl,hH,q⟩:=h;obtain ⟨u,rfl,rx⟩:=kh r;cases rx;obtain ⟨hz,hs,vs,rk,hd⟩:=(show cC X.prog X.w H s.heap a (.dK kvs) from I.hok a _ hH);obtain ⟨ep,hat⟩:∃ ep,s.heap.DictAt (fg X.prog X.w) a vs ep:=by
  obtain ⟨o,es,ep,h1,h2,h3,h4⟩:=hd;exact ⟨ep,o,es,h1,h2,h3,h4⟩
 have hlen:kvs.length=vs.length:=kZ rk;refine PySem.W.kdl_call (PySem.W.kdl_dict hs) (I.ok.hd hc) hat (by omega) fun h' tk acc' c' kp e hacc=>?_;have rv:cz (kvs.map fun p=>kV p.1) acc'.toList:=by
  have key:∀ {kvs:List (fe×V)}{vs:List (fe×a7)} (acc:List a7),KV kvs vs->acc.length=vs.length->(∀ (j:Nat) (v:a7),acc[j]?=some v->∃ k x,vs[j]?=some (k,x)/\u7 k v=true)->cz (kvs.map fun p=>kV p.1) acc:=by
   intro kvs;induction kvs with
   |nil=>intro vs acc rk hl _;cases rk;cases acc with
    |nil=>exact .nil
    |cons _ _=>simp at hl
   |cons p kvs ih =>
    intro vs acc rk hl hv;cases rk with
    |cons h1 t1 =>
     cases acc with
     |nil=>simp at hl
     |cons v acc =>
      refine .cons ?_ (ih acc t1 (by simpa using hl) fun j v hj=>by simpa using hv (j+1) v (by simpa using hj));obtain ⟨k,x,e1,e2⟩:=hv 0 v rfl;simp only [mD,yv] at e1;subst e1;have hk:p.1=k:=h1.1;rcases e7 e2 with ⟨i,t,e,rfl⟩|⟨i,t,e,rfl⟩
      ·show cu (kV p.1) _;rw [hk,e];exact ⟨t,rfl⟩
      ·show cu (kV p.1) _;rw [hk,e];exact ⟨t,rfl⟩
  exact key acc'.toList rk (by rw [aN];exact hacc.1) fun j v hj=>hacc.2 j v (by rw [<- dg];exact hj)
 exact ⟨.ref s.heap.objs.size,_,I.laid (t':=tk) kp (ao _) (show cC X.prog X.w _ h' _ (.lst _) from ⟨by simpa using hz,acc'.toList,c',rv,by rw [AF];exact e⟩),rfl,q _ (I.hok.fresh (ao _))⟩
def uv (x:Str):List V:=x.cps.toList.map fun c=>V.str ⟨#[c]⟩
theorem sX (hc:X.calm=true):iK X (.type "tuple") (fun xs H Q=>∃ x,xs=[.str x]/\x.cps.size<=sizeLine/\∀ l,H l=none->Q (.ref l) (upd H l (.tup (uv x)))):=by
 intro pins s σ H xs us Q I r h;obtain ⟨x,rfl,hz,q⟩:=h;obtain ⟨u,rfl,rx⟩:=kh r;obtain ⟨t,rfl⟩:=rx;refine call_tuple_str (I.ok.hd hc) x t (fun h' tk acc kp hacc=>?_) hz;have I1:bf X pins σ H { s with heap:=h',toks:=tk }:=I.kept (t':=tk) kp;have rv:cz (uv x) acc.toList:=by
  have key:∀ (cs:List Nat) (acc:List a7),acc.length=cs.length->(∀ (j:Nat) (v:a7),acc[j]?=some v->∃ c u,cs[j]?=some c/\v=.str ⟨#[c]⟩ u)->cz (cs.map fun c=>V.str ⟨#[c]⟩) acc:=by
   intro cs;induction cs with
   |nil=>intro acc hl _;cases acc with
    |nil=>exact .nil
    |cons _ _=>simp at hl
   |cons c cs ih =>
    intro acc hl hv;cases acc with
    |nil=>simp at hl
    |cons v acc =>
     obtain ⟨c',u,e1,rfl⟩:=hv 0 v rfl;simp only [mD,yv] at e1;subst e1;exact .cons ⟨u,rfl⟩ (ih acc (by simpa using hl) fun j v hj=>by simpa using hv (j+1) v (by simpa using hj))
  refine key x.cps.toList acc.toList (by rw [aN,aN];exact hacc.1) fun j v hj=>?_;obtain ⟨c,u,e1,e2⟩:=hacc.2 j v (by rw [<- dg];exact hj);exact ⟨c,u,by rw [dg];exact e1,e2⟩
 have I2:bf X pins σ (upd H h'.objs.size (.tup (uv x))) { s with heap:=h'.push { cls:=.type "tuple",data:=.seq acc },toks:=tk } :=
  I1.laid (t':=tk) (fun b o e=>a8 _ e) (ao _) (show cC X.prog X.w _ _ _ (.tup (uv x)) from ⟨by unfold uv;simpa using hz,acc.toList,rv,by rw [AF];exact yq _ _⟩)
 exact ⟨.ref h'.objs.size,_,I2,rfl,q _ (I1.hok.fresh (ao _))⟩
end
end L2
end
namespace L2
open PySem PySem.Spec PyProof.Rows
section
section
theorem mK {elt target iter ifs bB scope pos it acc env}
  (h0:fU (aA prog w) A (.compLoop (.SetComp elt (⟨target,iter,ifs,0⟩::bB) scope pos) 0 it acc env) R s)
  (h:aj (aA prog w) A (tU it) (fun it' s'=>fU (aA prog w) A (.compLoop (.SetComp elt (⟨target,iter,ifs,0⟩::bB) scope pos) 0 it' acc env) R s')
   (notedBy (aA prog w) A env fun x s'=>R (.error x) s') s) :
  fU (aA prog w) A (.compStart (.SetComp elt (⟨target,iter,ifs,0⟩::bB) scope pos) 0 it acc env) R s:=by
 refine yC ?_;show aj _ _ ((compStart (.SetComp elt (⟨target,iter,ifs,0⟩::bB) scope pos) 0 it acc env).onRaise (fun x=>do EL x env;r_ theWindowsPlace)) _ _ s;refine wpAny_notedAt ?_;unfold compStart;show aj _ _ (ask >>= _) _ _ s;refine a6 (i6 (wpAny_ite ?_));split
 ·first
   |exact a6 (ae (ae (u3 rfl h0)))
   |exact ae (u3 rfl h0)
 ·first
   |exact a6 (gT (a6 (jZ (a6 (bR h (fun it' s' hq=>ae (u3 rfl hq)) fun _ _ x=>x)))))
   |(refine a6 (gT ?_);show aj _ _ (r_ iter.pos >>= _) _ _ s;exact a6 (jZ (a6 (bR h (fun it' s' hq=>ae (u3 rfl hq)) fun _ _ x=>x))))
theorem vJ (h:Q (.ref s.heap.objs.size) { s with heap:=s.heap.push (j4 w) }):aj (aA prog w) A (newSet (.type "set")) Q E s:=by
 unfold newSet setsByText;refine a6 (a6 (i6 (ae ?_)));dsimp only;simp only [newObj];exact a6 (IU (ae h))
theorem vK     (hS:lf w s.heap a ss) (hr:ss.length+1<fD)
  (h:∀ h' tk',bU a s.heap h'->lf w h' a (if x∈ss then ss else ss++[x])->Q .none { s with heap:=h',toks:=tk' }) :
  aj (aA prog w) A (call (.builtin "set.add") [.ref a,.str x tk]) Q E s:=by
 have hT:s.TypeIs (.ref a) "set":=by obtain ⟨es,ep,t,I,_⟩:=id hS;exact ⟨_,I.at_,rfl⟩
 refine cq F.slot_set_add hT F.entry_set_add ?_ (F.args_set_add_2 _ _);unfold i5.«set.add» J5;simp only [List.isEmpty_nil,bind_assoc];unfold J6;refine a6 (ae ?_);try dsimp only
 refine a6 (ae ?_);try dsimp only
 refine a6 ?_;refine yV hS hr fun h' tk' sb hS'=>?_;exact ae ⟨_,rfl,h h' tk' sb hS'⟩
end
def Rc (w:aW) (D:aa) (o:Obj) (acc:List Str):Prop:=∀ h:bc,h.get? D=some o->lf w h D acc
def No (X:Cx) (elt:aO) (env:Env) (D:aa) (K:a9->Prop) (s:a9):Prop:=aj (aA X.prog X.w) X.A (bQ elt env) (fun x s₄=>aj (aA X.prog X.w) X.A (call (.builtin "set.add") [.ref D,x]) (fun _ s₅=>K s₅) (fun _ _=>False) s₄) (fun _ _=>False) s
abbrev OP (te:TE) (σ:St) (H:Hp) (acc:List Str) (m:Nat) (V:Nat->List Str->Hp->Prop):Prop:=te σ H fun y H4=>∃ z m',y=.str z/\m'<m/\V m' (if z∈acc then acc else acc++[z]) H4
theorem Gd {X:Cx}{elt:aO}{te:TE}{N':List Str}{scope:dO}{M:St->Prop} (pe:∀ cl C s₀ H₀ ex pn,PE (cQ X N' scope cl C s₀ H₀ ex pn) elt te) :
  FL X N' scope M (fun D o acc=>(∀ v,o.data≠.cell v)/\Rc X.w D o acc) (fun acc=>acc.length+1<fD) (OP te) (No X elt):=by
 intro cl C s₀ H₀ ex pn D pl o acc σ6 H7 s7 K m V h1 h2 h3 _ hl hP I7 q7 fin
 refine eD (pe cl C s₀ H₀ ex pn _ s7 σ6 H7 _ I7 q7) fun u8 s8 h_5=>?_
 obtain ⟨y,H8,I8,r8,z,m',hy,hm,q8⟩:=h_5
 obtain ⟨pD,pN,_⟩:=I8.pin (D,_) (aM _ av)
 subst hy
 obtain ⟨tz,rfl⟩:=r8
 refine vK (hP.2 _ pD) hl fun h9 tk9 sb9 hS9=>?_
 obtain ⟨es9,ep9,t9,is9,pm9⟩:=id hS9
 have e9':=is9.at_
 exact fin _ _ H8 _ m' ((I8.swap sb9 e9' (fun _ z=>nomatch z) h1 h2 h3).tok _) ⟨fun _ z=>(nomatch z),fun h e=>hS9.keep fun o eo=>by rw [e9'] at eo;cases eo;exact e⟩ hm q8
theorem Ge {X:Cx}{elt:aO}{f:Sem Fin}{a:Code} (hf:f=pure (.again a)) (env:Env) (D:aa) (K:a9->Prop) (s:a9) (h:No X elt env D K s):aj (aA X.prog X.w) X.A ((do let v <- bQ elt env;r_ elt.pos;let _ <- call (.builtin "set.add") [.ref D,v]) >>= fun _=>f) (fun f s5=>f=.again a/\K s5) (fun _ _=>False) s:=by
 subst hf;exact a6 (a6 (eD h fun x s4 h4=>a6 (jZ (a6 (eD h4 fun _ _ q=>ae (ae ⟨rfl,q⟩))))))
theorem JZ {X:Cx}{elt tg iter:aO}{ifs:List aO}{scope:dO}{pos:Pos}{te:TE}{N':List Str}{nt:Nat}{ix:List Nat} (pe:∀ cl C s₀ H₀ ex pn,PE (cQ X N' scope cl C s₀ H₀ ex pn) elt te) :
  JK X N' scope nt nt ix (.SetComp elt [⟨tg,iter,ifs,0⟩] scope pos) tg ifs (newSet (.type "set")) (sV X.w) [] (fun acc=>acc.length+1<fD) (OP te) :=
 ⟨_,_,fun _=>No X elt,fun _=>True,fun h=>h.1,rfl,fun _=>⟨fun _ z=>(nomatch z),fun _ e=>wv X.w e⟩,fun _ h e=>Ch (h.2 _ e),vJ,fun _=>Lr (iter:=iter) (fun _ _=>rfl) fun a b c d h=>Ge rfl a b c d h,mK,⟨ao _,fun _ _ _=>trivial⟩,fun _=>Gd pe⟩
inductive Lw (w:aW) (nt:Nat) (ix:List Nat) (g:TG) (tt:TT) (te:TE) (σ:St) (Q:VK) (J:It) (H1:Hp):Prop
 |mk (W:Nat->Nat->List Str->Hp->Prop) (w0:∃ m,W 0 m [] H1) (turn:∀ i m acc H,W i m acc H ->
 (J.stop i H/\∀ p,H p=none->Q (.ref p) (upd H p (sV w p acc))) \/
 (J.go i H/\acc.length+1<fD/\∀ x H',J.yld i H x H'->g x (jJ nt ix σ) H' fun σ2 H2=>tt σ2 H2 fun b H3 =>
  if b=true then te σ2 H3 fun y H4=>∃ z m',y=.str z/\m'<m/\W (i+1) m' (if z∈acc then acc else acc++[z]) H4 else ∃ m',m'<m/\W (i+1) m' acc H3)):Lw w nt ix g tt te σ Q J H1
def Gf (w:aW) (nt:Nat) (ix:List Nat) (wi:TI) (g:TG) (tt:TT) (te:TE):TE:=fun σ H Q=>wi σ H (Lw w nt ix g tt te σ Q)
theorem Bb {X:Cx}{elt tg iter:aO}{ifs:List aO}{scope:dO}{pos:Pos}{wi:TI}{g:TG}{tt:TT}{te:TE}{N':List Str}{nt:Nat}{ix:List Nat}
  (hc:X.calm=true) (S:lO X scope N' nt ix) (lo:Nc nt g) (hi:PI X tg iter wi)
  (hb:∀ cl C s₀ H₀ ex pn,PG (cQ X N' scope cl C s₀ H₀ ex pn) tg g/\JC (cQ X N' scope cl C s₀ H₀ ex pn) ifs tt/\PE (cQ X N' scope cl C s₀ H₀ ex pn) elt te)
  (hs:∀ x,df iter X.env x=pure x:=by intro _;rfl):PE X (.SetComp elt [⟨tg,iter,ifs,0⟩] scope pos) (Gf X.w nt ix wi g tt te):=by
 intro pins s σ H Q I h;obtain ⟨cl,hcl,c1,c2⟩:=oW (scope:=scope) (env:=X.env) fun y hy hf=>I.ok.has y.1 (S.free y hy hf);show aj _ _ (comprehension (.SetComp elt [⟨tg,iter,ifs,0⟩] scope pos) scope X.env (firstIterPos [⟨tg,iter,ifs,0⟩] pos) (newSet (.type "set")) (firstAsync [⟨tg,iter,ifs,0⟩]) (firstIter [⟨tg,iter,ifs,0⟩] X.env)) _ _ _;refine mW (use:=none) rfl hs hcl S.kind S.loc (eD (hi pins s σ H _ I h) fun v s1 h1=>eD h1 fun itv s2 h2=>?_);obtain ⟨it,fp,tn,J,H2,e,I2,T,st2,f2,W,w0,turn⟩:=h2;subst e;refine B1 (RR:=fun acc C=>compPost (aA X.prog X.w) X.A X.xe none (EP X pins σ Q) acc C) (JZ fun a b c d e f=>(hb a b c d e f).2.2) hc S lo (fun a b c d e f=>⟨(hb a b c d e f).1,(hb a b c d e f).2.1⟩) c1 c2 I2 T st2 f2 w0 turn ?_;intro D C m s' acc H' hD _ q hn hI;exact ⟨m,hn,fun h' sb=>⟨.ref D,_,hI h' sb,rfl,q⟩⟩
section
theorem vL:iK X (.builtin "len") (fun xs H Q=>∃ p ss,xs=[.ref p]/\H p=some (sV X.w p ss)/\Q (.int ss.length) H):=by
 intro pins s σ H xs us Q I r h;obtain ⟨p,ss,rfl,hq,q⟩:=h;obtain ⟨u,rfl,rx⟩:=kh r;cases rx;obtain ⟨es,ep,t,is,pm⟩:=(show cC X.prog X.w H s.heap p (sV X.w p ss) from I.hok p _ hq).1;have hlen:es.size=ss.length:=by rw [<- pm.length_eq,au,aN]
 have hsm:(es.size:Int)<2 ^ 63:=by
  have h1:=is.few;have h2:fD<=2 ^ 62:=by decide
  omega
 refine w6 kind_len plain_len entry_len (args_len1 _) (wpAny_len_body_set is.at_ ⟨rfl,rfl,rfl⟩ rfl is.fits hsm ?_);refine ⟨.int _,H,I.tok _,⟨_,rfl⟩,?_⟩;rw [hlen];exact q
end
end
end L2
section
namespace L2
open PySem PySem.Spec PyProof.Rows
section
variable {K:a5}{nt:Nat}{ix:List Nat}{te:TE}{σ:St}{H1:Hp}{Q:VK}{a:aa}{xs:List V}{i:Nat}
end
end L2
namespace L2
open PySem PySem.Spec PyProof.Rows
def Cj (so:dO) (N:List Str) (scope:dO) (N':List Str) (nt:Nat) (ix:List Nat):Bool :=
 (scope.kind == .function)&&(scope.names.all fun y=>y.2 != .cell||scope.names.lookup y.1==some .cell)&&(scope.names.all fun y=>y.2 != .local||scope.names.lookup y.1==some .local) &&
 (scope.names.all fun y=>y.2 != .free||so.names.lookup y.1==some .cell||so.names.lookup y.1==some .free) &&
 ((bL ix.length).all fun k=>match ix[k]? with
  |none=>false
  |some i=>match N[i]? with
   |none=>false
   |some x=>N'[nt+k]? == some x&&scope.names.lookup x==some .free)&&(N'.length==nt+ix.length)
theorem cX       (h:Cj so N scope N' nt ix=true) (h1:X.env.scope=so:=by rfl) (h2:X.N=N:=by rfl):lO X scope N' nt ix:=by
 unfold Cj at h;simp only [aB,cj] at h;obtain ⟨⟨⟨⟨⟨a,b⟩,c⟩,d⟩,e⟩,l⟩:=h;refine ⟨by simpa using a,fun y hy z=>?_,fun y hy z=>?_,fun y hy z=>?_,fun k i hk=>?_,by simpa using l⟩
 ·have:=b y hy;simpa [z] using this
 ·have:=c y hy;simpa [z] using this
 ·have:=d y hy;rw [h1];simpa [z] using this
 ·have hl:k<ix.length:=(List.getElem?_eq_some_iff.mp hk).1;have:=e k (List.mem_range.mpr hl);rw [hk] at this;rw [h2];simp only at this;split at this
  ·cases this
  ·rename_i x hx
   simp only [aB] at this;exact ⟨x,hx,by simpa using this.1,by simpa using this.2⟩
end L2
end
namespace L2
open PySem PySem.Spec PyProof.Rows
section
section
variable {K:a5}{nt:Nat}{ix:List Nat}{te:TE}{σ:St}{H1:Hp}{Q:VK}{a b:aa}{xs ys:List V}{i k:Nat}
end
end
end L2
namespace J
open PySem L2
section
abbrev D:=xh
inductive R (α:Type) where
 |ok (a:α)
 |ex (c:Str) (n:Option D)
 |no
def R.bind {α β:Type}:R α->(α->R β)->R β
 |.ok a,f=>f a
 |.ex c n,_=>.ex c n
 |.no,_=>.no
@[simp] theorem bind_ok {α β:Type} (a:α) (f:α->R β):(R.ok a).bind f=f a:=rfl
@[simp] theorem bind_ex {α β:Type} (c:Str) (n:Option D) (f:α->R β):(R.ex c n).bind f=.ex c n:=rfl
@[simp] theorem bind_no {α β:Type} (f:α->R β):(R.no:R α).bind f=.no:=rfl
def kD:fe->D
 |.inl i=>.int i
 |.inr x=>.str x
def tD (ks:List fe):D:=.tuple (ks.map kD)
mutual
inductive RD (K:a5) (H:Hp):V->D->Prop
 |none:RD K H .non .none
 |bool (b:Bool):RD K H (.bl b) (.bool b)
 |int (i:Int):RD K H (.int i) (.int i)
 |str (x:Str):RD K H (.str x) (.str x)
 |list {a:aa}{xs:List V}{ds:List D}:k_ K H a xs->RDs K H xs ds->RD K H (.ref a) (.list ds)
 |tuple {a:aa}{xs:List V}{ds:List D}:H a=some (.tup xs)->RDs K H xs ds->RD K H (.ref a) (.tuple ds)
 |dictK {a:aa}{kvs:List (fe×V)}{ds:List (D×D)}:H a=some (.dK kvs)->RDk K H kvs ds->RD K H (.ref a) (.dict ds)
 |dictT {a:aa}{kvs:List (List fe×V)}{ds:List (D×D)}:H a=some (.dT kvs)->kvs≠[]->RDt K H kvs ds->RD K H (.ref a) (.dict ds)
 |dictF {a:aa}{o:Obj}{kvs:List (List fe×V)}{ds:List (D×D)}:H a=some (.frz o (.dT kvs))->kvs≠[]->RDt K H kvs ds->RD K H (.ref a) (.dict ((.none,.none)::ds))
inductive RDs (K:a5) (H:Hp):List V->List D->Prop
 |nil:RDs K H [] []
 |cons {x:V}{xs:List V}{d:D}{ds:List D}:RD K H x d->RDs K H xs ds->RDs K H (x::xs) (d::ds)
inductive RDk (K:a5) (H:Hp):List (fe×V)->List (D×D)->Prop
 |nil:RDk K H [] []
 |cons {k:fe}{x:V}{xs:List (fe×V)}{d:D}{ds:List (D×D)}:RD K H x d->RDk K H xs ds->RDk K H ((k,x)::xs) ((kD k,d)::ds)
inductive RDt (K:a5) (H:Hp):List (List fe×V)->List (D×D)->Prop
 |nil:RDt K H [] []
 |cons {k:List fe}{x:V}{xs:List (List fe×V)}{d:D}{ds:List (D×D)}:RD K H x d->RDt K H xs ds->RDt K H ((k,x)::xs) ((tD k,d)::ds)
end
section
theorem RD.same (e:cK H H')  (h:RD K H v d):RD K H' v d:=RD.rec (motive_1:=fun v d _=>RD K H' v d) (motive_2:=fun v d _=>RDs K H' v d) (motive_3:=fun v d _=>RDk K H' v d) (motive_4:=fun v d _=>RDt K H' v d) .none .bool .int .str (fun h _ r=>.list (e.seq h) r) (fun h _ r=>.tuple (e _ _ h) r) (fun h _ r=>.dictK (e _ _ h) r) (fun h n _ r=>.dictT (e _ _ h) n r) (fun h n _ r=>.dictF (e _ _ h) n r) .nil (fun _ _ a b=>.cons a b) .nil (fun _ _ a b=>.cons a b) .nil (fun _ _ a b=>.cons a b) h
theorem RDs.same (e:cK H H')  (h:RDs K H v d):RDs K H' v d:=RDs.rec (motive_1:=fun v d _=>RD K H' v d) (motive_2:=fun v d _=>RDs K H' v d) (motive_3:=fun v d _=>RDk K H' v d) (motive_4:=fun v d _=>RDt K H' v d) .none .bool .int .str (fun h _ r=>.list (e.seq h) r) (fun h _ r=>.tuple (e _ _ h) r) (fun h _ r=>.dictK (e _ _ h) r) (fun h n _ r=>.dictT (e _ _ h) n r) (fun h n _ r=>.dictF (e _ _ h) n r) .nil (fun _ _ a b=>.cons a b) .nil (fun _ _ a b=>.cons a b) .nil (fun _ _ a b=>.cons a b) h
theorem RDk.same (e:cK H H')  (h:RDk K H v d):RDk K H' v d:=RDk.rec (motive_1:=fun v d _=>RD K H' v d) (motive_2:=fun v d _=>RDs K H' v d) (motive_3:=fun v d _=>RDk K H' v d) (motive_4:=fun v d _=>RDt K H' v d) .none .bool .int .str (fun h _ r=>.list (e.seq h) r) (fun h _ r=>.tuple (e _ _ h) r) (fun h _ r=>.dictK (e _ _ h) r) (fun h n _ r=>.dictT (e _ _ h) n r) (fun h n _ r=>.dictF (e _ _ h) n r) .nil (fun _ _ a b=>.cons a b) .nil (fun _ _ a b=>.cons a b) .nil (fun _ _ a b=>.cons a b) h
theorem RDt.same (e:cK H H')  (h:RDt K H v d):RDt K H' v d:=RDt.rec (motive_1:=fun v d _=>RD K H' v d) (motive_2:=fun v d _=>RDs K H' v d) (motive_3:=fun v d _=>RDk K H' v d) (motive_4:=fun v d _=>RDt K H' v d) .none .bool .int .str (fun h _ r=>.list (e.seq h) r) (fun h _ r=>.tuple (e _ _ h) r) (fun h _ r=>.dictK (e _ _ h) r) (fun h n _ r=>.dictT (e _ _ h) n r) (fun h n _ r=>.dictF (e _ _ h) n r) .nil (fun _ _ a b=>.cons a b) .nil (fun _ _ a b=>.cons a b) .nil (fun _ _ a b=>.cons a b) h
mutual
def n6:D->Bool
 |.dict _=>false
 |.list xs=>noDs xs
 |.tuple xs=>noDs xs
 |_=>true
def noDs:List D->Bool
 |[]=>true
 |x::r=>n6 x&&noDs r
end
theorem OQ (h:(a&&b)=true):a=true:=(Bool.and_eq_true_iff.mp h).1
theorem OR (h:(a&&b)=true):b=true:=(Bool.and_eq_true_iff.mp h).2
theorem RD.rep  (h:RD K H v d):n6 d=true->B8 K H v d:=RD.rec (motive_1:=fun v d _=>n6 d=true->B8 K H v d) (motive_2:=fun v d _=>noDs d=true->Reps K H v d) (motive_3:=fun _ _ _=>True) (motive_4:=fun _ _ _=>True) (fun _=>.none) (fun b _=>.bool b) (fun i _=>.int i) (fun x _=>.str x) (fun h _ r e=>.list h (r e)) (fun h _ r e=>.tuple (.of h) (r e)) (fun _ _ _ e=>jh e) (fun _ _ _ _ e=>jh e) (fun _ _ _ _ e=>jh e) (fun _=>.nil) (fun _ _ a b e=>.cons (a (OQ e)) (b (OR e))) trivial (fun _ _ _ _=>trivial) trivial (fun _ _ _ _=>trivial) h
theorem RDs.length:∀ {ds:List D},RDs K H vs ds->vs.length=ds.length:=by
 induction vs with
 |nil=>intro ds h;cases h;rfl
 |cons x r ih=>intro ds h;cases h with|cons a b=>exact congrArg (· + 1) (ih b)
theorem RDs.get:∀ {ds:List D}{i:Nat}{v:V},RDs K H vs ds->vs[i]?=some v->∃ d,ds[i]?=some d/\RD K H v d:=by
 induction vs with
 |nil=>intro ds i v _ e;cases e
 |cons x r ih =>
  intro ds i v h e;cases h with
  |cons a b =>
   cases i with
   |zero=>cases e;exact ⟨_,rfl,a⟩
   |succ i=>have q:=ih (i:=i) b e;exact q
theorem RDs.get':∀ {ds:List D}{i:Nat}{d:D},RDs K H vs ds->ds[i]?=some d->∃ v,vs[i]?=some v/\RD K H v d:=by
 induction vs with
 |nil=>intro ds i v h e;cases h;cases e
 |cons x r ih =>
  intro ds i v h e;cases h with
  |cons a b =>
   cases i with
   |zero=>cases e;exact ⟨_,rfl,a⟩
   |succ i=>have q:=ih (i:=i) b e;exact q
theorem RDs.append  : ∀ {ds:List D},RDs K H vs ds->RDs K H ws es->RDs K H (vs++ws) (ds++es):=by
 induction vs with
 |nil=>intro ds h s;cases h;exact s
 |cons x r ih=>intro ds h s;cases h with|cons a b=>exact .cons a (ih b s)
theorem RDs.drop:∀ {ds:List D} (n:Nat),RDs K H vs ds->RDs K H (vs.drop n) (ds.drop n):=by
 induction vs with
 |nil=>intro ds n h;cases h;cases n<;>exact .nil
 |cons x r ih =>
  intro ds n h;cases n with
  |zero=>exact h
  |succ n=>cases h with|cons a b=>exact ih n b
theorem RDs.take:∀ {ds:List D} (n:Nat),RDs K H vs ds->RDs K H (vs.take n) (ds.take n):=by
 induction vs with
 |nil=>intro ds n h;cases h;cases n<;>exact .nil
 |cons x r ih =>
  intro ds n h;cases n with
  |zero=>exact .nil
  |succ n=>cases h with|cons a b=>exact .cons a (ih n b)
theorem ll:∀ (ss:List Str),RDs K H (ss.map V.str) (ss.map ay)
 |[]=>.nil
 |x::r=>.cons (.str x) (ll r)
theorem RD.str_inv  (h:RD K H v (.str x)):v=.str x:=by cases h;rfl
theorem RD.bool_inv  (h:RD K H v (.bool x)):v=.bl x:=by cases h;rfl
theorem RD.int_inv  (h:RD K H v (.int x)):v=.int x:=by cases h;rfl
theorem Ck {α:Type}{c:α->D}{k:α->V} (hc:∀ {v x},RD K H v (c x)->v=k x) {ss:List α}:∀ {vs:List V},RDs K H vs (ss.map c)->vs=ss.map k:=by
 induction ss with
 |nil=>intro vs h;cases h;rfl
 |cons x r ih=>intro vs h;cases h with|cons a b=>rw [hc a,ih b];rfl
theorem io {ss:List Str}{vs:List V}:RDs K H vs (ss.map ay)->vs=ss.map V.str:=Ck RD.str_inv
theorem vM {ss:List Bool}{vs:List V}:RDs K H vs (ss.map bN)->vs=ss.map V.bl:=Ck RD.bool_inv
end
def nt:HO->Bool
 |.tup _=>false
 |_=>true
structure cp (H Hs H' Hs':Hp):Prop where
 all:cK H H'
 sh:cK Hs Hs'
 sub:cK Hs' H'
 out:∀ a o,H a=some o->nt o=true->Hs a=none->Hs' a=none
theorem cp.refl (h:cK Hs H):cp H Hs H Hs:=⟨.refl _,.refl _,h,fun _ _ _ _ e=>e⟩
theorem cp.trans (a:cp H Hs H1 Hs1) (b:cp H1 Hs1 H2 Hs2):cp H Hs H2 Hs2 :=
 ⟨a.all.trans b.all,a.sh.trans b.sh,b.sub,fun c o e t n=>b.out c o (a.all c o e) t (a.out c o e t n)⟩
theorem cp.new   (h:cK Hs H) (n:H p=none):cp H Hs (upd H p o) (upd Hs p o):=by
 have n':Hs p=none:=h.free n;refine ⟨gO n,gO n',fun b u e=>?_,fun a u e t z=>?_⟩
 ·by_cases hb:b=p
  ·subst hb;rw [aK] at e ⊢;exact e
  ·rw [aJ hb] at e ⊢;exact h b u e
 ·rw [aJ (aS e n)];exact z
theorem cp.mine   (h:cK Hs H) (n:H p=none):cp H Hs (upd H p o) Hs:=by
 refine ⟨gO n,.refl _,fun b u e=>?_,fun a u e t z=>z⟩;have e':=h b u e;rw [aJ (aS e' n)];exact e'
inductive k9 (K:a5) (Hs:Hp):HO->D->Prop
 |lst {vs:List V}{ds:List D}:RDs K Hs vs ds->k9 K Hs (.lst vs) (.list ds)
 |dK {kvs:List (fe×V)}{ds:List (D×D)}:RDk K Hs kvs ds->k9 K Hs (.dK kvs) (.dict ds)
 |dT {kvs:List (List fe×V)}{ds:List (D×D)}:kvs≠[]->RDt K Hs kvs ds->k9 K Hs (.dT kvs) (.dict ds)
 |dF {o:Obj}{kvs:List (List fe×V)}{ds:List (D×D)}:kvs≠[]->RDt K Hs kvs ds->k9 K Hs (.frz o (.dT kvs)) (.dict ((.none,.none)::ds))
theorem k9.same    (e:cK Hs Hs') (h:k9 K Hs o d):k9 K Hs' o d:=by
 cases h with
 |lst r=>exact .lst (r.same e)
 |dK r=>exact .dK (r.same e)
 |dT n r=>exact .dT n (r.same e)
 |dF n r=>exact .dF n (r.same e)
theorem k9.nt    (h:k9 K Hs o d):J.nt o=true:=by cases h<;>rfl
theorem k9.share     (n:Hs a=none) (h:k9 K Hs o d):RD K (upd Hs a o) (.ref a) d:=by
 have e:cK Hs (upd Hs a o):=gO n;cases h with
 |lst r=>exact .list (.of aK) (r.same e)
 |dK r=>exact .dictK aK (r.same e)
 |dT n r=>exact .dictT aK n (r.same e)
 |dF n r=>exact .dictF aK n (r.same e)
inductive Sl where
 |no
 |shr (d:D)
 |own (d:D)
 |lck (d:D)
 |ow2 (dss:List (List D))
abbrev ak:=List Sl
inductive wA (K:a5) (H Hs:Hp):List aa->List (List D)->Prop
 |nil:wA K H Hs [] []
 |cons {a:aa}{as:List aa}{vs:List V}{ds:List D}{dss:List (List D)}:H a=some (.lst vs)->RDs K Hs vs ds->wA K H Hs as dss->wA K H Hs (a::as) (ds::dss)
theorem wA.step  (e:cK H H') (e':cK Hs Hs')  (h:wA K H Hs as dss):wA K H' Hs' as dss:=by
 induction h with
 |nil=>exact .nil
 |cons h r t ih=>exact .cons (e _ _ h) (r.same e') ih
theorem wA.upd      (n:b∉as) (h:wA K H Hs as dss):wA K (upd H b o) Hs as dss:=by
 induction h with
 |nil=>exact .nil
 |cons h r t ih=>exact .cons (by rw [aJ (fun z=>n (by rw [<- z];exact av))];exact h) r (ih fun z=>n (am _ z))
theorem wA.there     (h:wA K H Hs as dss) (hb:b∈as):∃ o,H b=some o/\nt o=true:=by
 induction h with
 |nil=>cases hb
 |cons h r t ih =>
  rcases List.mem_cons.mp hb with e|hb
  ·exact ⟨_,e ▸ h,rfl⟩
  ·exact ih hb
structure O2 (K:a5) (H0 H Hs:Hp) (ρ:ak) (σ:St) (i:Nat) (dss:List (List D)) (a:aa) (as:List aa):Prop where
 at_:σ[i]?=some (some (V.ref a))
 ob:H a=some (.lst (as.map V.ref))
 nd:(a::as).Nodup
 out:∀ b∈a::as,Hs b=none/\H0 b=none
 dj:∀ b∈a::as,∀ (j:Nat) (e:D),ρ[j]?=some (Sl.own e)->σ[j]?≠some (some (V.ref b))
 inn:wA K H Hs as dss
structure Fr (K:a5) (H0 Hs0:Hp) (la:Nat->Option aa) (ρ:ak) (σ:St) (H Hs:Hp):Prop where
 st:cp H0 Hs0 H Hs
 len:ρ.length=σ.length
 sh:∀ (i:Nat) (d:D),ρ[i]?=some (Sl.shr d)->∃ v,σ[i]?=some (some v)/\RD K Hs v d
 ow:∀ (i:Nat) (d:D),ρ[i]?=some (Sl.own d)->∃ a o,σ[i]?=some (some (V.ref a))/\H a=some o/\Hs a=none/\H0 a=none/\k9 K Hs o d
 lk:∀ (i:Nat) (d:D),ρ[i]?=some (Sl.lck d)->∃ a o,σ[i]?=some (some (V.ref a))/\la i=some a/\H a=some o/\Hs a=none/\H0 a=some o/\k9 K Hs o d
 dj:∀ (i j:Nat) (d e:D) (a:aa),ρ[i]?=some (Sl.own d)->ρ[j]?=some (Sl.own e)->σ[i]?=some (some (V.ref a))->σ[j]?=some (some (V.ref a))->i=j
 lh:∀ (i:Nat) (a:aa),la i=some a->∃ o,H0 a=some o
 o2:∀ (i:Nat) (dss:List (List D)),ρ[i]?=some (Sl.ow2 dss)->∃ a as,O2 K H0 H Hs ρ σ i dss a as
 u2:∀ (i j:Nat) (d e:List (List D)),ρ[i]?=some (Sl.ow2 d)->ρ[j]?=some (Sl.ow2 e)->i=j
theorem Fr.step     (f:Fr K H0 Hs0 la ρ σ H Hs) (s:cp H Hs H' Hs'):Fr K H0 Hs0 la ρ σ H' Hs':=by
 refine ⟨f.st.trans s,f.len,fun i d e=>?_,fun i d e=>?_,fun i d e=>?_,f.dj,f.lh,fun i dss e=>?_,f.u2⟩
 ·obtain ⟨v,h1,h2⟩:=f.sh i d e;exact ⟨v,h1,h2.same s.sh⟩
 ·obtain ⟨a,o,h1,h2,h3,h4,h5⟩:=f.ow i d e;exact ⟨a,o,h1,s.all _ _ h2,s.out _ _ h2 h5.nt h3,h4,h5.same s.sh⟩
 ·obtain ⟨a,o,h1,h2,h3,h4,h5,h6⟩:=f.lk i d e;exact ⟨a,o,h1,h2,s.all _ _ h3,s.out _ _ h3 h6.nt h4,h5,h6.same s.sh⟩
 ·obtain ⟨a,as,h⟩:=f.o2 i dss e;refine ⟨a,as,h.at_,s.all _ _ h.ob,h.nd,fun b hb=>⟨?_,(h.out b hb).2⟩,h.dj,h.inn.step s.all s.sh⟩;have there:∃ o,H b=some o/\nt o=true:=by
   rcases List.mem_cons.mp hb with rfl|hb
   ·exact ⟨_,h.ob,rfl⟩
   ·exact h.inn.there hb
  obtain ⟨o,ho,hn⟩:=there;exact s.out b o ho hn (h.out b (by assumption)).1
inductive OS (K:a5) (H Hs:Hp) (v:V) (d:D):Prop
 |mk (a:aa) (o:HO) (h0:v=.ref a) (h1:H a=some o) (h2:Hs a=none) (h3:k9 K Hs o d):OS K H Hs v d
def RB (K:a5) (H Hs:Hp) (v:V) (d:D):Prop:=RD K Hs v d\/OS K H Hs v d
theorem RB.step    (h:RB K H Hs v d) (s:cp H Hs H' Hs'):RB K H' Hs' v d:=by
 rcases h with h|⟨a,o,h1,h2,h3,h4⟩
 ·exact .inl (h.same s.sh)
 ·exact .inr ⟨a,o,h1,s.all _ _ h2,s.out _ _ h2 h4.nt h3,h4.same s.sh⟩
theorem RB.full    (sub:cK Hs H) (h:RB K H Hs v d):RD K H v d:=by
 rcases h with h|⟨a,o,rfl,h2,h3,h4⟩
 ·exact h.same sub
 ·have e:cK (upd Hs a o) H:=fun b u q=>by
   by_cases hb:b=a
   ·subst hb;rw [aK] at q;cases q;exact h2
   ·rw [aJ hb] at q;exact sub b u q
  exact (h4.share h3).same e
theorem RB.list    (sub:cK Hs H) (h:RB K H Hs v (.list ds)):∃ a vs,v=.ref a/\k_ K H a vs/\RDs K Hs vs ds:=by
 rcases h with h|⟨a,o,rfl,h2,h3,h4⟩
 ·cases h with|list q r=>exact ⟨_,_,rfl,sub.seq q,r⟩
 ·cases h4 with|lst r=>exact ⟨a,_,rfl,.of h2,r⟩
theorem RB.tuple    (sub:cK Hs H) (h:RB K H Hs v (.tuple ds)):∃ a vs,v=.ref a/\iF K H a vs/\RDs K Hs vs ds/\Hs a=some (.tup vs):=by
 rcases h with h|⟨a,o,rfl,h2,h3,h4⟩
 ·cases h with|tuple q r=>exact ⟨_,_,rfl,.of (sub _ _ q),r,q⟩
 ·cases h4
theorem RB.str    (h:RB K H Hs v (.str x)):v=.str x:=by
 rcases h with h|⟨a,o,rfl,h2,h3,h4⟩
 ·exact h.str_inv
 ·cases h4
theorem RB.int    (h:RB K H Hs v (.int i)):v=.int i:=by
 rcases h with h|⟨a,o,rfl,h2,h3,h4⟩
 ·exact h.int_inv
 ·cases h4
def XW (K:a5) (cls:Str->aa) (E:XK) (c:Str) (n:Option D) (H Hs:Hp):Prop:=match n with
 |none=>E (.ref (cls c)) none H
 |some d=>∀ dx v,H dx=some (.xd [("number",v)])->RD K Hs v d->E (.ref (cls c)) (some dx) H
def Fin {α:Type} (K:a5) (cls:Str->aa) (E:XK) (H Hs:Hp) (r:R α) (q:α->Prop):Prop:=match r with
 |.ok d=>q d
 |.ex c n=>∀ H' Hs',cp H Hs H' Hs'->XW K cls E c n H' Hs'
 |.no=>False
inductive RF (K:a5) (cls:Str->aa) (E:XK) (ρ:ak) (r:R D) (σ:St) (H:Hp) (Q:VK):Prop
 |mk (H0 Hs0:Hp) (la:Nat->Option aa) (Hs:Hp) (f:Fr K H0 Hs0 la ρ σ H Hs) (q:Fin K cls E H Hs r fun d=>∀ v H' Hs',cp H Hs H' Hs'->RD K Hs' v d->Q v H'):RF K cls E ρ r σ H Q
def TR (K:a5) (cls:Str->aa) (E:XK) (ρ:ak) (r:R D):TE:=RF K cls E ρ r
inductive RG (K:a5) (cls:Str->aa) (E:XK) (ρ:ak) (r:R D) (σ:St) (H:Hp) (Q:VK):Prop
 |mk (H0 Hs0:Hp) (la:Nat->Option aa) (Hs:Hp) (f:Fr K H0 Hs0 la ρ σ H Hs) (q:Fin K cls E H Hs r fun d=>∀ v H' Hs',cp H Hs H' Hs'->RB K H' Hs' v d->Q v H'):RG K cls E ρ r σ H Q
def TB (K:a5) (cls:Str->aa) (E:XK) (ρ:ak) (r:R D):TE:=RG K cls E ρ r
inductive OT (K:a5) (cls:Str->aa) (E:XK) (ρ:ak) (r:R Bool) (σ:St) (H:Hp) (Q:Bool->Hp->Prop):Prop
 |mk (H0 Hs0:Hp) (la:Nat->Option aa) (Hs:Hp) (f:Fr K H0 Hs0 la ρ σ H Hs) (q:Fin K cls E H Hs r fun b=>∀ H' Hs',cp H Hs H' Hs'->Q b H'):OT K cls E ρ r σ H Q
def EU (K:a5) (cls:Str->aa) (E:XK) (ρ:ak) (r:R Bool):TT:=OT K cls E ρ r
inductive Lx (K:a5) (H Hs:Hp):List V->List D->Prop
 |nil:Lx K H Hs [] []
 |cons {x:V}{xs:List V}{d:D}{ds:List D}:RB K H Hs x d->Lx K H Hs xs ds->Lx K H Hs (x::xs) (d::ds)
inductive OU (K:a5) (cls:Str->aa) (E:XK) (ρ:ak) (r:R (List D)) (σ:St) (H:Hp) (Q:List V->Hp->Prop):Prop
 |mk (H0 Hs0:Hp) (la:Nat->Option aa) (Hs:Hp) (f:Fr K H0 Hs0 la ρ σ H Hs) (q:Fin K cls E H Hs r fun d=>∀ v H' Hs',cp H Hs H' Hs'->RDs K Hs' v d->Q v H'):OU K cls E ρ r σ H Q
def Qk (K:a5) (cls:Str->aa) (E:XK) (ρ:ak) (r:R (List D)):TA:=OU K cls E ρ r
inductive OV (K:a5) (cls:Str->aa) (E:XK) (ρ:ak) (r:R (List D)) (σ:St) (H:Hp) (Q:List V->Hp->Prop):Prop
 |mk (H0 Hs0:Hp) (la:Nat->Option aa) (Hs:Hp) (f:Fr K H0 Hs0 la ρ σ H Hs) (q:Fin K cls E H Hs r fun d=>∀ v H' Hs',cp H Hs H' Hs'->Lx K H' Hs' v d->Q v H'):OV K cls E ρ r σ H Q
def Ql (K:a5) (cls:Str->aa) (E:XK) (ρ:ak) (r:R (List D)):TA:=OV K cls E ρ r
structure C where
 X:Cx
 cls:Str->aa
 E:XK
structure JE (c:C) (e:aO) (g:ak->R D):Prop where of ::
 run:∀ ρ,PE c.X e (TR c.X.K c.cls c.E ρ (g ρ))
instance {c:C}{e:aO}{g:ak->R D}:CoeFun (JE c e g) (fun _=>∀ ρ,PE c.X e (TR c.X.K c.cls c.E ρ (g ρ))):=⟨JE.run⟩
structure JB (c:C) (e:aO) (g:ak->R D):Prop where of ::
 run:∀ ρ,PE c.X e (TB c.X.K c.cls c.E ρ (g ρ))
instance {c:C}{e:aO}{g:ak->R D}:CoeFun (JB c e g) (fun _=>∀ ρ,PE c.X e (TB c.X.K c.cls c.E ρ (g ρ))):=⟨JB.run⟩
structure JT (c:C) (e:aO) (g:ak->R Bool):Prop where of ::
 run:∀ ρ,PT c.X e (EU c.X.K c.cls c.E ρ (g ρ))
instance {c:C}{e:aO}{g:ak->R Bool}:CoeFun (JT c e g) (fun _=>∀ ρ,PT c.X e (EU c.X.K c.cls c.E ρ (g ρ))):=⟨JT.run⟩
structure JW (c:C) (e:aO) (g:ak->R Bool):Prop where of ::
 run:∀ ρ,PW c.X e (EU c.X.K c.cls c.E ρ (g ρ))
instance {c:C}{e:aO}{g:ak->R Bool}:CoeFun (JW c e g) (fun _=>∀ ρ,PW c.X e (EU c.X.K c.cls c.E ρ (g ρ))):=⟨JW.run⟩
structure DU (c:C) (es:List aO) (g:ak->R (List D)):Prop where of ::
 run:∀ ρ,PA c.X es (Qk c.X.K c.cls c.E ρ (g ρ))
instance {c:C}{es:List aO}{g:ak->R (List D)}:CoeFun (DU c es g) (fun _=>∀ ρ,PA c.X es (Qk c.X.K c.cls c.E ρ (g ρ))):=⟨DU.run⟩
structure Ly (c:C) (es:List aO) (g:ak->R (List D)):Prop where of ::
 run:∀ ρ,PA c.X es (Ql c.X.K c.cls c.E ρ (g ρ))
instance {c:C}{es:List aO}{g:ak->R (List D)}:CoeFun (Ly c es g) (fun _=>∀ ρ,PA c.X es (Ql c.X.K c.cls c.E ρ (g ρ))):=⟨Ly.run⟩
section
theorem nQ   (h:PE X e t) (m:∀ σ H Q,t' σ H Q->t σ H Q):PE X e t':=fun pins s σ H Q I q=>h pins s σ H Q I (m σ H Q q)
theorem OW   (h:PT X e t) (m:∀ σ H Q,t' σ H Q->t σ H Q):PT X e t':=fun pins s σ H Q I q=>h pins s σ H Q I (m σ H Q q)
theorem RH   (h:PW X e t) (m:∀ σ H Q,t' σ H Q->t σ H Q):PW X e t':=fun wh pins s σ H Q I q=>h wh pins s σ H Q I (m σ H Q q)
theorem Qm {X:Cx}{e:List aO}{t t':TA} (h:PA X e t) (m:∀ σ H Q,t' σ H Q->t σ H Q):PA X e t':=fun pos pins s σ H Q I q=>h pos pins s σ H Q I (m σ H Q q)
theorem xE {X:Cx}{e:dC}{t t':TS} (h:PS X e t) (m:∀ D σ H,t' D σ H->t D σ H):PS X e t':=fun pins s σ H Q I q=>h pins s σ H Q I (m Q σ H q)
theorem Re {X:Cx}{e:List dC}{t t':TS} (h:yy X e t) (m:∀ D σ H,t' D σ H->t D σ H):yy X e t':=fun pins s σ H Q I q=>h pins s σ H Q I (m Q σ H q)
theorem JE.bor (h:JE c e g):JB c e g:=.of fun ρ=>nQ (h ρ) fun σ H Q ⟨H0,Hs0,la,Hs,f,q⟩=>⟨H0,Hs0,la,Hs,f,by
 cases hr:g ρ with
 |ok d=>rw [hr] at q;exact fun v H' Hs' s r=>q v H' Hs' s (.inl r)
 |ex c n=>rw [hr] at q;exact q
 |no=>rw [hr] at q;exact q⟩
theorem one {K:a5}{cls:Str->aa}{E:XK}{ρ:ak}{r:R D}{β:Type}{k:D->R β}{σ:St}{H:Hp}{H0 Hs0 Hs:Hp}{la:Nat->Option aa}{Q:V->Hp->Prop}{q:β->Prop} (f:Fr K H0 Hs0 la ρ σ H Hs)
  (h:Fin K cls E H Hs (r.bind k) q) (m:∀ d v H' Hs',r=.ok d->cp H Hs H' Hs'->Fr K H0 Hs0 la ρ σ H' Hs'->RB K H' Hs' v d->Q v H'):TB K cls E ρ r σ H Q:=by
 refine ⟨H0,Hs0,la,Hs,f,?_⟩;cases r with
 |ok d=>exact fun v H' Hs' s r=>m d v H' Hs' rfl s (f.step s) r
 |ex c n=>exact h
 |no=>exact h
theorem rE {K:a5}{cls:Str->aa}{E:XK}{ρ:ak}{r:R D}{β:Type}{k:D->R β}{σ:St}{H:Hp}{H0 Hs0 Hs:Hp}{la:Nat->Option aa}{Q:V->Hp->Prop}{q:β->Prop} (f:Fr K H0 Hs0 la ρ σ H Hs)
  (h:Fin K cls E H Hs (r.bind k) q) (m:∀ d v H' Hs',r=.ok d->cp H Hs H' Hs'->Fr K H0 Hs0 la ρ σ H' Hs'->RD K Hs' v d->Q v H'):TR K cls E ρ r σ H Q:=by
 refine ⟨H0,Hs0,la,Hs,f,?_⟩;cases r with
 |ok d=>exact fun v H' Hs' s r=>m d v H' Hs' rfl s (f.step s) r
 |ex c n=>exact h
 |no=>exact h
theorem DV {K:a5}{cls:Str->aa}{E:XK}{ρ:ak}{r:R Bool}{β:Type}{k:Bool->R β}{σ:St}{H:Hp}{H0 Hs0 Hs:Hp}{la:Nat->Option aa}{Q:Bool->Hp->Prop}{q:β->Prop} (f:Fr K H0 Hs0 la ρ σ H Hs)
  (h:Fin K cls E H Hs (r.bind k) q) (m:∀ d H' Hs',r=.ok d->cp H Hs H' Hs'->Fr K H0 Hs0 la ρ σ H' Hs'->Q d H'):EU K cls E ρ r σ H Q:=by
 refine ⟨H0,Hs0,la,Hs,f,?_⟩;cases r with
 |ok d=>exact fun H' Hs' s=>m d H' Hs' rfl s (f.step s)
 |ex c n=>exact h
 |no=>exact h
theorem Bc {K:a5}{cls:Str->aa}{E:XK}{ρ:ak}{r:R (List D)}{β:Type}{k:List D->R β}{σ:St}{H:Hp}{H0 Hs0 Hs:Hp}{la:Nat->Option aa}{Q:List V->Hp->Prop}{q:β->Prop} (f:Fr K H0 Hs0 la ρ σ H Hs)
  (h:Fin K cls E H Hs (r.bind k) q) (m:∀ d v H' Hs',r=.ok d->cp H Hs H' Hs'->Fr K H0 Hs0 la ρ σ H' Hs'->RDs K Hs' v d->Q v H'):Qk K cls E ρ r σ H Q:=by
 refine ⟨H0,Hs0,la,Hs,f,?_⟩;cases r with
 |ok d=>exact fun v H' Hs' s r=>m d v H' Hs' rfl s (f.step s) r
 |ex c n=>exact h
 |no=>exact h
theorem Gg {K:a5}{cls:Str->aa}{E:XK}{ρ:ak}{r:R (List D)}{β:Type}{k:List D->R β}{σ:St}{H:Hp}{H0 Hs0 Hs:Hp}{la:Nat->Option aa}{Q:List V->Hp->Prop}{q:β->Prop} (f:Fr K H0 Hs0 la ρ σ H Hs)
  (h:Fin K cls E H Hs (r.bind k) q) (m:∀ d v H' Hs',r=.ok d->cp H Hs H' Hs'->Fr K H0 Hs0 la ρ σ H' Hs'->Lx K H' Hs' v d->Q v H'):Ql K cls E ρ r σ H Q:=by
 refine ⟨H0,Hs0,la,Hs,f,?_⟩;cases r with
 |ok d=>exact fun v H' Hs' s r=>m d v H' Hs' rfl s (f.step s) r
 |ex c n=>exact h
 |no=>exact h
theorem Fin.on {α:Type}{K:a5}{cls:Str->aa}{E:XK}{H Hs H' Hs':Hp}{r:R α}{q q':α->Prop} (h:Fin K cls E H Hs r q) (s:cp H Hs H' Hs') (m:∀ a,q a->q' a):Fin K cls E H' Hs' r q':=by
 cases r with
 |ok a=>exact m a h
 |ex c n=>exact fun H2 Hs2 s2=>h H2 Hs2 (s.trans s2)
 |no=>exact h
end
end
section
def zd (ρ:ak) (i:Nat):R D:=match ρ[i]? with
 |some (Sl.shr d)=>.ok d
 |_=>.no
def yz (ρ:ak) (i:Nat):R D:=match ρ[i]? with
 |some (Sl.shr d)=>.ok d
 |some (Sl.own d)=>.ok d
 |some (Sl.lck d)=>.ok d
 |_=>.no
section
variable {c:C}{e a b:aO}{g ga gb:ak->R D}{pos:Pos}
theorem aq (i:Nat) (hN:c.X.N[i]?=some x:=by rfl) (hv:IJ c.X.env.scope x:=by first|exact eP rfl|exact da (eP rfl)|exact da (da rfl)) (hd:(x==("__debug__" : Str))=false:=by decide)
  (hcd:(x==("__classdict__" : Str))=false:=by decide):JE c (.Name x pos) (fun ρ=>zd ρ i):=.of fun ρ=>nQ (lN hN hv hd hcd) fun σ H Q h_0=>by
 obtain ⟨H0,Hs0,la,Hs,f,q⟩:=h_0;cases hr:ρ[i]? with
 |none=>simp only [zd,hr] at q;exact q.elim
 |some s =>
  cases s with
  |shr d =>
   obtain ⟨v,h1,h2⟩:=f.sh i d hr;simp only [zd,hr] at q;exact ⟨v,h1,q v H Hs (.refl f.st.sub) h2⟩
  |no=>simp only [zd,hr] at q;exact q.elim
  |own d=>simp only [zd,hr] at q;exact q.elim
  |lck d=>simp only [zd,hr] at q;exact q.elim
  |ow2 d=>simp only [zd,hr] at q;exact q.elim
theorem ah (i:Nat) (hN:c.X.N[i]?=some x:=by rfl) (hv:IJ c.X.env.scope x:=by first|exact eP rfl|exact da (eP rfl)|exact da (da rfl)) (hd:(x==("__debug__" : Str))=false:=by decide)
  (hcd:(x==("__classdict__" : Str))=false:=by decide):JB c (.Name x pos) (fun ρ=>yz ρ i):=.of fun ρ=>nQ (lN hN hv hd hcd) fun σ H Q h_1=>by
 obtain ⟨H0,Hs0,la,Hs,f,q⟩:=h_1;cases hr:ρ[i]? with
 |none=>simp only [yz,hr] at q;exact q.elim
 |some s =>
  cases s with
  |shr d =>
   obtain ⟨v,h1,h2⟩:=f.sh i d hr;simp only [yz,hr] at q;exact ⟨v,h1,q v H Hs (.refl f.st.sub) (.inl h2)⟩
  |no=>simp only [yz,hr] at q;exact q.elim
  |own d =>
   obtain ⟨a,o,h1,h2,h3,h4,h5⟩:=f.ow i d hr;simp only [yz,hr] at q;exact ⟨_,h1,q _ H Hs (.refl f.st.sub) (.inr ⟨a,o,rfl,h2,h3,h5⟩)⟩
  |lck d =>
   obtain ⟨a,o,h1,h2,h3,h4,h5,h6⟩:=f.lk i d hr;simp only [yz,hr] at q;exact ⟨_,h1,q _ H Hs (.refl f.st.sub) (.inr ⟨a,o,rfl,h3,h4,h6⟩)⟩
  |ow2 d=>simp only [yz,hr] at q;exact q.elim
theorem lm  (h:PE c.X e (tC v)) (r:∀ Hs,RD c.X.K Hs v d):JE c e (fun _=>.ok d):=.of fun ρ=>nQ h fun σ H Q h_2=>by obtain ⟨H0,Hs0,la,Hs,f,q⟩:=h_2;exact q v H Hs (.refl f.st.sub) (r Hs)
theorem aG  : JE c (.Constant (.int i) j pos) (fun _=>.ok (.int i)):=lm Fc fun _=>.int i
theorem mE  : JE c (.Constant (.bool i) j pos) (fun _=>.ok (.bool i)):=lm Fd fun _=>.bool i
theorem Gh:JE c (.Constant .none j pos) (fun _=>.ok .none):=lm MI fun _=>.none
theorem bD  : JE c (.Constant (.str i) j pos) (fun _=>.ok (.str i)):=lm AK fun _=>.str i
theorem ql  (hg:Gl c.X x) (hm:∃ t,c.X.mg x=some (.int i t)) (hd:(x==("__debug__" : Str))=false:=by decide):JE c (.Name x pos) (fun _=>.ok (.int i)):=by
 obtain ⟨t,hm⟩:=hm;exact lm (pS hg hm (v:=.int i) ⟨t,rfl⟩ hd) fun _=>.int i
inductive RI (K:a5) (h:D->D->R D) (x:V) (y:V) (H:Hp) (Q:VK):Prop
 |mk (Hs dx dy:_) (h0:cK Hs H) (h1:RB K H Hs x dx) (h2:RB K H Hs y dy) (h3:∃ d,h dx dy=.ok d/\∀ v H' Hs',cp H Hs H' Hs'->RD K Hs' v d->Q v H'):RI K h x y H Q
def rD (K:a5) (h:D->D->R D):R2:=RI K h
def vo (X:Cx) (f:a7->a7->Sem a7) (h:D->D->R D):Prop:=nN X f (rD X.K h)/\∀ x y c n,h x y≠.ex c n
def g2 (ga gb:ak->R D) (h:D->D->R D):ak->R D:=fun ρ=>(ga ρ).bind fun x=>(gb ρ).bind fun y=>h x y
theorem two        (hx:∀ x y c n,h x y≠.ex c n) (q:TR K cls E ρ (g2 ga gb h ρ) σ H Q):Oo (rD K h) (TB K cls E ρ (ga ρ)) (TB K cls E ρ (gb ρ)) σ H Q:=by
 obtain ⟨H0,Hs0,la,Hs,f,q⟩:=q;refine one f q fun x v H1 Hs1 e1 s1 f1 r1=>?_;unfold g2 at q;rw [e1,bind_ok] at q;refine one f1 (q.on s1 (q':=fun _=>True) fun _ _=>trivial) fun y u H2 Hs2 e2 s2 f2 r2=>?_;rw [e2,bind_ok] at q;cases hr:h x y with
 |ok d =>
  rw [hr] at q;exact ⟨Hs2,x,y,f2.st.sub,r1.step s2,r2,d,hr,fun w H3 Hs3 s3 r3=>q w H3 Hs3 (s1.trans (s2.trans s3)) r3⟩
 |ex c n=>exact (hx x y c n hr).elim
 |no=>rw [hr] at q;exact q.elim
theorem br  (ho:vo c.X (fB op) h) (ha:JB c a ga) (hb:JB c b gb):JE c (.BinOp a op b pos) (g2 ga gb h):=.of fun ρ=>nQ (Oq ho.1 (ha ρ) (hb ρ)) fun σ H Q q=>two ho.2 q
theorem uw  (ho:vo c.X (bz op) h) (ha:JB c a ga) (hb:JB c b gb) (hm:e_ op b=false:=by first|exact AS _|rfl):JE c (.Compare a [op] [b] pos) (g2 ga gb h):=.of fun ρ=>nQ (Jj ho.1 (ha ρ) (hb ρ) hm) fun σ H Q q=>two ho.2 q
def iD (g:ak->R D):ak->R Bool:=fun ρ=>(g ρ).bind fun d=>match d with
 |.bool b=>.ok b
 |_=>.no
theorem OX       (q:EU K cls E ρ (iD g ρ) σ H Q):TR K cls E ρ (g ρ) σ H fun x H'=>∃ k,x=.bl k/\Q k H':=by
 obtain ⟨H0,Hs0,la,Hs,f,q⟩:=q;refine rE f q fun d v H1 Hs1 e1 s1 f1 r1=>?_;unfold iD at q;rw [e1,bind_ok] at q;cases r1 with
 |bool b=>exact ⟨b,rfl,q H1 Hs1 s1⟩
 |_=>exact q.elim
theorem fi  (ho:vo c.X (bz op) h) (ha:JB c a ga) (hb:JB c b gb) (hm:e_ op b=false:=by first|exact AS _|rfl):JT c (.Compare a [op] [b] pos) (iD (g2 ga gb h)):=.of fun ρ=>OW (C2 ho.1 (ha ρ) (hb ρ) hm) fun σ H Q q=>two ho.2 (OX q)
theorem gH (h:JE c e g) (he:∀ whole,tT e c.X.env whole=(do let v <- whole;r_ e.pos;EZ [v] (truthy v)):=by intro _;rfl):JT c e (iD g):=.of fun ρ=>OW (Ff (h ρ) he) fun σ H Q q=>OX q
def lR (g:ak->R Bool):ak->R Bool:=fun ρ=>(g ρ).bind fun b=>.ok (!b)
def sY (g h:ak->R Bool):ak->R Bool:=fun ρ=>(g ρ).bind fun b=>if b then h ρ else .ok false
def EV (g h:ak->R Bool):ak->R Bool:=fun ρ=>(g ρ).bind fun b=>if b then .ok true else h ρ
variable {gt gu:ak->R Bool}{bB:List aO}
theorem gI (h:JT c e gt):JT c (.UnaryOp .Not e pos) (lR gt):=.of fun ρ=>OW (Fh (h ρ)) fun σ H Q q=>by
 obtain ⟨H0,Hs0,la,Hs,f,q⟩:=q;refine DV f q fun d H1 Hs1 e1 s1 f1=>?_;unfold lR at q;rw [e1,bind_ok] at q;exact q H1 Hs1 s1
theorem tK (h:JT c a gt):JW c (.BoolOp .And [a] pos) gt:=.of fun ρ=>Je (h ρ)
theorem lS (h:JT c a gt):JW c (.BoolOp .Or [a] pos) gt:=.of fun ρ=>Fg (h ρ)
theorem xF (h:JT c a gt) (h2:JW c (.BoolOp .And (b::bB) pos) gu):JW c (.BoolOp .And (a::b::bB) pos) (sY gt gu):=.of fun ρ=>RH (MJ (h ρ) (h2 ρ)) fun σ H Q q=>by
 obtain ⟨H0,Hs0,la,Hs,f,q⟩:=q;refine DV f q fun d H1 Hs1 e1 s1 f1=>?_;unfold sY at q;rw [e1,bind_ok] at q;cases d with
 |true=>exact yP ⟨H0,Hs0,la,Hs1,f1,q.on s1 fun b k H2 Hs2 s2=>k H2 Hs2 (s1.trans s2)⟩
 |false=>exact vF (q H1 Hs1 s1)
theorem qm (h:JT c a gt) (h2:JW c (.BoolOp .Or (b::bB) pos) gu):JW c (.BoolOp .Or (a::b::bB) pos) (EV gt gu):=.of fun ρ=>RH (Lf (h ρ) (h2 ρ)) fun σ H Q q=>by
 obtain ⟨H0,Hs0,la,Hs,f,q⟩:=q;refine DV f q fun d H1 Hs1 e1 s1 f1=>?_;unfold EV at q;rw [e1,bind_ok] at q;cases d with
 |false=>exact vF ⟨H0,Hs0,la,Hs1,f1,q.on s1 fun b k H2 Hs2 s2=>k H2 Hs2 (s1.trans s2)⟩
 |true=>exact yP (q H1 Hs1 s1)
theorem JW.t (h:JW c e gt):JT c e gt:=.of fun ρ=>(h ρ).pt
def Cm (g:ak->R D):ak->R D:=fun ρ=>(iD g ρ).bind fun b=>.ok (.bool (!b))
theorem Np (h:JE c e g):JE c (.UnaryOp .Not e pos) (Cm g):=.of fun ρ=>nQ (MM (h ρ)) fun σ H Q q=>by
 refine OX ?_;obtain ⟨H0,Hs0,la,Hs,f,q⟩:=q;refine DV f q fun d H1 Hs1 e1 s1 f1=>?_;unfold Cm at q;rw [e1,bind_ok] at q;exact q _ H1 Hs1 s1 (.bool _)
def ze (g h:ak->R D):ak->R D:=fun ρ=>(iD g ρ).bind fun b=>if b then h ρ else .ok (.bool false)
theorem Gi (h:JE c a g):JE c (.BoolOp op [a] pos) g:=.of fun ρ=>MK (h ρ)
theorem Gj (h:JE c a ga) (h2:JE c (.BoolOp .And (b::bB) pos) gb):JE c (.BoolOp .And (a::b::bB) pos) (ze ga gb):=.of fun ρ=>nQ (ML (h ρ) (h2 ρ)) fun σ H Q q=>by
 refine OX ?_;obtain ⟨H0,Hs0,la,Hs,f,q⟩:=q;refine DV f q fun d H1 Hs1 e1 s1 f1=>?_;unfold ze at q;rw [e1,bind_ok] at q;cases d with
 |true=>exact yP ⟨H0,Hs0,la,Hs1,f1,q.on s1 fun b k v H2 Hs2 s2 r2=>k v H2 Hs2 (s1.trans s2) r2⟩
 |false=>exact vF (q _ H1 Hs1 s1 (.bool _))
def Qn (t:ak->R Bool) (g h:ak->R D):ak->R D:=fun ρ=>(t ρ).bind fun b=>if b then g ρ else h ρ
theorem OY (ht:JT c t gt) (ha:JE c a ga) (hb:JE c b gb):JE c (.IfExp t a b pos) (Qn gt ga gb):=.of fun ρ=>nQ (Fi (ht ρ) (ha ρ) (hb ρ)) fun σ H Q q=>by
 obtain ⟨H0,Hs0,la,Hs,f,q⟩:=q;refine DV f q fun d H1 Hs1 e1 s1 f1=>?_;unfold Qn at q;rw [e1,bind_ok] at q;cases d with
 |true=>exact yP ⟨H0,Hs0,la,Hs1,f1,q.on s1 fun b k v H2 Hs2 s2 r2=>k v H2 Hs2 (s1.trans s2) r2⟩
 |false=>exact vF ⟨H0,Hs0,la,Hs1,f1,q.on s1 fun b k v H2 Hs2 s2 r2=>k v H2 Hs2 (s1.trans s2) r2⟩
def n8 (ga gb gc:ak->R D) (h h':D->D->R D):ak->R D:=fun ρ=>(ga ρ).bind fun x=>(gb ρ).bind fun y=>(h x y).bind fun z=>match z with
 |.bool true=>(gc ρ).bind fun w=>h' y w
 |.bool false=>.ok (.bool false)
 |_=>.no
def af (g:ak->R D) (gs:ak->R (List D)):ak->R (List D):=fun ρ=>(g ρ).bind fun d=>(gs ρ).bind fun ds=>.ok (d::ds)
def aQ:ak->R (List D):=fun _=>.ok []
theorem aL:DU c [] aQ:=.of fun ρ=>Qm dD fun σ H Q h_3=>by obtain ⟨H0,Hs0,la,Hs,f,q⟩:=h_3;exact q [] H Hs (.refl f.st.sub) .nil
theorem cr:Ly c [] aQ:=.of fun ρ=>Qm dD fun σ H Q h_4=>by obtain ⟨H0,Hs0,la,Hs,f,q⟩:=h_4;exact q [] H Hs (.refl f.st.sub) .nil
theorem ac (h:JE c e g) (hr:DU c es gs) (hs:ap (e::es) c.X.env=(false,bQ e c.X.env)::ap es c.X.env:=by rfl):DU c (e::es) (af g gs):=.of fun ρ=>Qm (bC (h ρ) (hr ρ) hs) fun σ H Q h_5=>by
 obtain ⟨H0,Hs0,la,Hs,f,q⟩:=h_5;refine rE f q fun d v H1 Hs1 e1 s1 f1 r1=>?_;unfold af at q;rw [e1,bind_ok] at q;refine Bc f1 (q.on s1 (q':=fun _=>True) fun _ _=>trivial) fun ds vs H2 Hs2 e2 s2 f2 r2=>?_;rw [e2,bind_ok] at q;exact q _ H2 Hs2 (s1.trans s2) (.cons (r1.same s2.sh) r2)
theorem bF (h:JB c e g) (hr:Ly c es gs) (hs:ap (e::es) c.X.env=(false,bQ e c.X.env)::ap es c.X.env:=by rfl):Ly c (e::es) (af g gs):=.of fun ρ=>Qm (bC (h ρ) (hr ρ) hs) fun σ H Q h_6=>by
 obtain ⟨H0,Hs0,la,Hs,f,q⟩:=h_6;refine one f q fun d v H1 Hs1 e1 s1 f1 r1=>?_;unfold af at q;rw [e1,bind_ok] at q;refine Gg f1 (q.on s1 (q':=fun _=>True) fun _ _=>trivial) fun ds vs H2 Hs2 e2 s2 f2 r2=>?_;rw [e2,bind_ok] at q;exact q _ H2 Hs2 (s1.trans s2) (.cons (r1.step s2) r2)
def ej (gs:ak->R (List D)) (k:List D->D):ak->R D:=fun ρ=>(gs ρ).bind fun ds=>if ds.length<=1000 then .ok (k ds) else .no
theorem ip {x1} (h:DU c es gs):JE c (.Tuple es x1 pos) (ej gs .tuple):=.of fun ρ=>nQ (Fy (h ρ)) fun σ H Q h_7=>by
 obtain ⟨H0,Hs0,la,Hs,f,q⟩:=h_7;refine Bc f q fun ds vs H1 Hs1 e1 s1 f1 r1=>?_;unfold ej at q;rw [e1,bind_ok] at q;by_cases hl:ds.length<=1000
 ·rw [if_pos hl] at q;refine ⟨bd (c8 (by rw [r1.length];exact hl)),fun p hp=>q _ _ _ (s1.trans (.new f1.st.sub hp)) (.tuple aK (r1.same (cp.new f1.st.sub hp).sh))⟩
 ·rw [if_neg hl] at q;exact q.elim
theorem iT (h:DU c es gs):JE c (.List es pos) (ej gs .list):=.of fun ρ=>nQ (kS (h ρ)) fun σ H Q h_8=>by
 obtain ⟨H0,Hs0,la,Hs,f,q⟩:=h_8;refine Bc f q fun ds vs H1 Hs1 e1 s1 f1 r1=>?_;unfold ej at q;rw [e1,bind_ok] at q;by_cases hl:ds.length<=1000
 ·rw [if_pos hl] at q;refine ⟨bd (c8 (by rw [r1.length];exact hl)),fun p hp=>q _ _ _ (s1.trans (.new f1.st.sub hp)) (.list (.of aK) (r1.same (cp.new f1.st.sub hp).sh))⟩
 ·rw [if_neg hl] at q;exact q.elim
end
end
end J
namespace J
open PySem PySem.Spec PyProof.Rows L2
section
section
def cR:D->D->R D
 |.int i,.int j=>.ok (.int (i+j))
 |.str x,.str y=>if x.length+y.length<=1000 then .ok (.str (x++y)) else .no
 |.tuple xs,.tuple ys=>if xs.length+ys.length<=1000 then .ok (.tuple (xs++ys)) else .no
 |.list xs,.list ys=>if xs.length+ys.length<=1000 then .ok (.list (xs++ys)) else .no
 |_,_=>.no
inductive Gk (K:a5) (x:V) (y:V) (H:Hp) (Q:VK):Prop
 |mk (l b xs zs:_) (h0:x=.ref l) (h1:y=.ref b) (h2:k_ K H l xs) (h3:k_ K H b zs) (h4:xs.length+zs.length<=sizeLine) (h5:∀ p,H p=none->Q (.ref p) (upd H p (.lst (xs++zs)))):Gk K x y H Q
def OZ (K:a5):R2:=Gk K
theorem J_:nN X (fB .Add) (OZ X.K):=by
 intro pins s σ H x y v u Q I rx ry h;obtain ⟨l,b,xs,zs,rfl,rfl,h1,h2,hz,q⟩:=h;cases rx;cases ry;obtain ⟨its,r,⟨o,n,e,c1,c2,c3⟩,z⟩:=I.list h1;obtain ⟨its2,r2,⟨o2,n2,e2,d1,d2,d3⟩,z2⟩:=I.list h2;obtain ⟨k1,k2,k3,k4⟩:=o;obtain ⟨m1,m2,m3,m4⟩:=o2;simp only at c1 c2 c3 d1 d2 d3;subst c1 c2 c3 d1 d2 d3;refine vp ⟨_,e,rfl⟩ ⟨_,e2,rfl⟩ noFill_list_add seq_list_add PySem.F.slot_list_add PySem.F.entry_list_add (PySem.F.args_list_add_2 _ _) (PyProof.Rows.list_addW l b _ _ n n2 _ _ k4 m4 (by rw [ax,ax,<- r.length,<- r2.length];exact hz)) ⟨e,e2,?_⟩;have ea:its.toArray++its2.toArray=(its++its2).toArray:=by simp
 rw [ea];exact ⟨.ref _,_,I.lnew (t':=s.toks) (r.append r2) (by rw [aY];omega),rfl,q _ I.fresh⟩
inductive Gm (K:a5) (x:V) (y:V) (H:Hp) (Q:VK):Prop
 |mk (a b ys:_) (h0:x=.ref a) (h1:y=.ref b) (h2:iF K H a []) (h3:iF K H b ys) (h4:Q (.ref b) H):Gm K x y H Q
def O_ (K:a5):R2:=Gm K
theorem K0:nN X (fB .Add) (O_ X.K):=by
 intro pins s σ H x y v u Q I rx ry h;obtain ⟨a,b,ys,rfl,rfl,h1,h2,q⟩:=h;cases rx;cases ry;obtain ⟨its,r,⟨⟨k1,k2,k3,k4⟩,e,c1,n,c3⟩,z⟩:=I.tuple h1;obtain ⟨its2,r2,⟨⟨m1,m2,m3,m4⟩,e2,d1,n2,d3⟩,z2⟩:=I.tuple h2;simp only at c1 c3 d1 d3;subst c1 c3 d1 d3;cases r;exact vp ⟨_,e,rfl⟩ ⟨_,e2,rfl⟩ xc Dk lL l7 (kO _ _)
  (PyProof.Rows.tuple_addW0 a b _ _ n n2 _ _ k4 m4 rfl) ⟨e,e2,⟨.ref b,H,I,rfl,q⟩⟩
theorem b_:vo X (fB .Add) cR:=by
 refine ⟨fun pins s σ H x y v u Q I rv ru ⟨Hs,dx,dy,sub,rx,ry,d,hd,q⟩=>?_,fun x y c n=>?_⟩
 ·unfold cR at hd;split at hd
  ·cases hd;exact MT pins s σ H x y v u Q I rv ru ⟨_,_,rx.int,ry.int,q _ H Hs (.refl sub) (.int _)⟩
  ·split at hd
   ·rename_i hz
    cases hd;exact AV pins s σ H x y v u Q I rv ru ⟨_,_,rx.str,ry.str,bd (c8 hz),q _ H Hs (.refl sub) (.str _)⟩
   ·cases hd
  ·split at hd
   ·rename_i xs ys hz
    cases hd;obtain ⟨a,vs,rfl,qa,ra,_⟩:=rx.tuple sub;obtain ⟨b,ws,rfl,qb,rb,_⟩:=ry.tuple sub;have hz':vs.length+ws.length<=sizeLine:=by rw [ra.length,rb.length];exact bd (c8 hz)
    have big:∀ p,H p=none->Q (.ref p) (upd H p (.tup (vs++ws))):=fun p hp=>q _ _ _ (.new sub hp) (.tuple aK ((ra.append rb).same (cp.new sub hp).sh));cases vs with
    |nil =>
     cases ra;refine K0 pins s σ H _ _ v u Q I rv ru ⟨a,b,ws,rfl,rfl,qa,qb,?_⟩;rcases ry with ry|⟨_,_,_,_,_,ow⟩
     ·exact q _ H Hs (.refl sub) (by simpa using ry)
     ·cases ow
    |cons v0 vr =>
     refine Jr pins s σ H _ _ v u Q I rv ru ⟨a,b,_,ws,rfl,rfl,qa,qb,by simp,hz',fun e=>?_,fun _=>big⟩;subst e;cases rb;rcases rx with rx|⟨_,_,_,_,_,ow⟩
     ·exact q _ H Hs (.refl sub) (by simpa using rx)
     ·cases ow
   ·cases hd
  ·split at hd
   ·rename_i xs ys hz
    cases hd;obtain ⟨a,vs,rfl,qa,ra⟩:=rx.list sub;obtain ⟨b,ws,rfl,qb,rb⟩:=ry.list sub;have hz':vs.length+ws.length<=sizeLine:=by rw [ra.length,rb.length];exact bd (c8 hz)
    exact J_ pins s σ H _ _ v u Q I rv ru ⟨a,b,vs,ws,rfl,rfl,qa,qb,hz',fun p hp=>q _ _ _ (.new sub hp) (.list (.of aK) ((ra.append rb).same (cp.new sub hp).sh))⟩
   ·cases hd
  ·cases hd
 ·unfold cR;split<;>(try split)<;>exact fun h=>by cases h
def Be (C:Int->Int->Bool) (k:Int->Int->D):D->D->R D
 |.int i,.int j=>if C i j then .ok (k i j) else .no
 |_,_=>.no
theorem Bf {f:a7->a7->Sem a7}{C:Int->Int->Bool}{P:Int->Int->Prop}{k:Int->Int->D}{kv:Int->Int->V} (h:nN X f (rI P kv)) (hC:∀ i j,C i j=true->P i j) (hk:∀ Hs i j,RD X.K Hs (kv i j) (k i j)):vo X f (Be C k):=by
 refine ⟨fun pins s σ H x y v u Q I rv ru ⟨Hs,dx,dy,sub,rx,ry,d,hd,q⟩=>?_,fun x y c n=>?_⟩
 ·unfold Be at hd;split at hd
  ·split at hd
   ·rename_i hc
    cases hd;exact h pins s σ H x y v u Q I rv ru ⟨_,_,rx.int,ry.int,hC _ _ hc,q _ H Hs (.refl sub) (hk _ _ _)⟩
   ·cases hd
  ·cases hd
 ·unfold Be;split<;>(try split)<;>exact fun h=>by cases h
def wB (i j:Int):Bool:=(decide (-(2 ^ 64)<i)&&decide (i<2 ^ 64))||(decide (-(2 ^ 64)<j)&&decide (j<2 ^ 64))
def sZ:=Be wB fun i j=>.int (i*j)
def DW:=Be (fun _ j=>decide (0<j)) fun i j=>.int (i % j)
def Gn:=Be (fun _ j=>decide (0<j)&&decide (j<1073741824)) fun i j=>.int (i / j)
theorem ng:vo X (fB .Mult) sZ:=Bf MU (fun i j h=>by
 unfold wB at h;simp only [mY,aB,decide_eq_true_eq] at h;exact h) fun _ _ _=>.int _
theorem xG:vo X (fB .Mod) DW:=Bf MV (fun i j h=>of_decide_eq_true h) fun _ _ _=>.int _
theorem K1:vo X (fB .FloorDiv) Gn:=Bf Jf (fun i j h=>by
 simp only [aB,decide_eq_true_eq] at h;exact h) fun _ _ _=>.int _
def lT (neg:Bool) (x y:D):R D:=if x.canLay0&&y.canLay0&&decide (min x.depth y.depth<=60) then .ok (.bool (if neg then !bn x y else bn x y)) else .no
mutual
theorem xH:∀ d:D,d.canLay0=true->n6 d=true
 |.none,_=>rfl
 |.bool _,_=>rfl
 |.int _,_=>rfl
 |.str _,_=>rfl
 |.list xs,h=>by
  simp only [eV] at h;simp only [n6];exact lays_noD xs h
 |.tuple xs,h=>by
  simp only [eV] at h;simp only [n6];exact lays_noD xs h
 |.dict _,h=>by simp [eV] at h
theorem lays_noD:∀ d:List D,bZ d=true->noDs d=true
 |[],_=>rfl
 |x::r,h=>by
  simp only [bZ,aB] at h;simp only [noDs,aB];exact ⟨xH x h.1,lays_noD r h.2⟩
end
theorem Go  (h:nN X f (Nh X.K neg)):vo X f (lT neg):=by
 refine ⟨fun pins s σ H x y v u Q I rv ru ⟨Hs,dx,dy,sub,rx,ry,d,hd,q⟩=>?_,fun x y c n=>?_⟩
 ·unfold lT at hd;split at hd
  ·rename_i hc
   simp only [aB,decide_eq_true_eq] at hc;cases hd;exact h pins s σ H x y v u Q I rv ru ⟨dx,dy,(rx.full sub).rep (xH _ hc.1.1),(ry.full sub).rep (xH _ hc.1.2),hc.1.1,hc.1.2,hc.2,q _ H Hs (.refl sub) (.bool _)⟩
  ·cases hd
 ·unfold lT;split<;>exact fun h=>by cases h
theorem sw (hu:X.A.units+64<oq):vo X (bz .Eq) (lT false):=Go (Ni hu)
theorem ux (hu:X.A.units+64<oq):vo X (bz .NotEq) (lT true):=Go (Nj hu)
def DX (k:Int->Int->Bool) (t:Str->Str->Bool):D->D->R D
 |.int i,.int j=>.ok (.bool (k i j))
 |.str x,.str y=>.ok (.bool (t x y))
 |_,_=>.no
theorem Gp   (h1:nN X f (MP fun i j=>.bl (k i j))) (h2:nN X f (fun x y H Q=>∃ i j,x=.str i/\y=.str j/\Q (.bl (t i j)) H)):vo X f (DX k t):=by
 refine ⟨fun pins s σ H x y v u Q I rv ru ⟨Hs,dx,dy,sub,rx,ry,d,hd,q⟩=>?_,fun x y c n=>?_⟩
 ·unfold DX at hd;split at hd
  ·cases hd;exact h1 pins s σ H x y v u Q I rv ru ⟨_,_,rx.int,ry.int,q _ H Hs (.refl sub) (.bool _)⟩
  ·cases hd;exact h2 pins s σ H x y v u Q I rv ru ⟨_,_,rx.str,ry.str,q _ H Hs (.refl sub) (.bool _)⟩
  ·cases hd
 ·unfold DX;split<;>exact fun h=>by cases h
def EW:=DX (fun i j=>decide (i<j)) li
def Lz:=DX (fun i j=>decide (i<=j)) fun x y=>!li y x
def O9:D->D->R D
 |.int i,.int j=>.ok (.bool (decide (j<i)))
 |_,_=>.no
theorem Co:vo X (bz .Lt) EW:=Gp Ot DA
theorem wC:vo X (bz .LtE) Lz:=Gp Ou DO
theorem LA:vo X (bz .Gt) O9:=by
 refine ⟨fun pins s σ H x y v u Q I rv ru ⟨Hs,dx,dy,sub,rx,ry,d,hd,q⟩=>?_,fun x y c n=>?_⟩
 ·unfold O9 at hd;split at hd
  ·cases hd;exact Ov pins s σ H x y v u Q I rv ru ⟨_,_,rx.int,ry.int,q _ H Hs (.refl sub) (.bool _)⟩
  ·cases hd
 ·unfold O9;split<;>exact fun h=>by cases h
def jo:D->Bool
 |.none=>true
 |.bool _=>true
 |.int _=>true
 |.str _=>true
 |_=>false
def EX (neg:Bool):D->D->R D
 |x,.list ys=>if jo x&&ys.all jo then .ok (.bool (if neg then !(ys.any fun y=>bn y x) else ys.any fun y=>bn y x)) else .no
 |x,.tuple ys=>if jo x&&ys.all jo then .ok (.bool (if neg then !(ys.any fun y=>bn y x) else ys.any fun y=>bn y x)) else .no
 |_,_=>.no
theorem Cq {K:a5}{H:Hp}{v:V}{d:D} (h:RD K H v d) (f:jo d=true):m_ v=true:=by
 cases h<;>first|rfl|cases f
theorem zf {K:a5}{H Hs:Hp}{v:V}{d:D} (h:RB K H Hs v d) (f:jo d=true):m_ v=true:=by
 rcases h with h|⟨a,o,rfl,_,_,h⟩
 ·exact Cq h f
 ·cases h<;>cases f
theorem zg {K:a5}{H:Hp}{vs:List V}:∀ {ds:List D},RDs K H vs ds->ds.all jo=true->vs.all m_=true:=by
 induction vs with
 |nil=>intro ds _ _;rfl
 |cons x r ih =>
  intro ds h f;cases h with
  |cons h t =>
   rw [pO,aB] at f ⊢;exact ⟨Cq h f.1,ih t f.2⟩
theorem Nq {K:a5}{H H2 Hs:Hp}{v u:V}{d e:D} (h:RD K H v d) (h2:RB K H2 Hs u e) (f:jo d=true) (f2:jo e=true):Ju v u=bn d e:=by
 have h2':RD K Hs u e:=by
  rcases h2 with h2|⟨a,o,rfl,_,_,h2⟩
  ·exact h2
  ·cases h2<;>cases f2
 cases h with
 |list _ _=>cases f
 |tuple _ _=>cases f
 |dictK _ _=>cases f
 |dictT _ _ _=>cases f
 |dictF _ _ _=>cases f
 |none=>cases h2'<;>first|rfl|cases f2
 |bool b=>cases h2'<;>first|rfl|cases f2
 |int i=>cases h2'<;>first|rfl|cases f2
 |str x=>cases h2'<;>first|rfl|cases f2
theorem Bg {K:a5}{H H2 Hs:Hp}{u:V}{e:D} (h2:RB K H2 Hs u e) (f2:jo e=true):∀ {vs:List V}{ds:List D},RDs K H vs ds->ds.all jo=true->Qe u vs=ds.any fun y=>bn y e
 |_,_,.nil,_=>rfl
 |_,_,.cons h t,f=>by
  rw [pO,aB] at f;have:=Bg h2 f2 t f.2;unfold Qe at this ⊢;rw [eg,eg,this,Nq h h2 f.1 f2]
theorem Gq  (h:nN X f (QY X.K neg)):vo X f (EX neg):=by
 refine ⟨fun pins s σ H x y v u Q I rv ru ⟨Hs,dx,dy,sub,rx,ry,d,hd,q⟩=>?_,fun x y c n=>?_⟩
 ·unfold EX at hd;split at hd
  ·split at hd
   ·rename_i hc
    simp only [aB] at hc;cases hd;obtain ⟨b,ws,rfl,qb,rb⟩:=ry.list sub;refine h pins s σ H _ _ v u Q I rv ru ⟨b,ws,rfl,.inl qb,zf rx hc.1,zg rb hc.2,?_⟩;rw [Bg rx hc.1 rb hc.2];exact q _ H Hs (.refl sub) (.bool _)
   ·cases hd
  ·split at hd
   ·rename_i hc
    simp only [aB] at hc;cases hd;obtain ⟨b,ws,rfl,qb,rb,_⟩:=ry.tuple sub;refine h pins s σ H _ _ v u Q I rv ru ⟨b,ws,rfl,.inr qb,zf rx hc.1,zg rb hc.2,?_⟩;rw [Bg rx hc.1 rb hc.2];exact q _ H Hs (.refl sub) (.bool _)
   ·cases hd
  ·cases hd
 ·unfold EX;split<;>(try split)<;>exact fun h=>by cases h
theorem LB:vo X (bz .In) (EX false):=Gq DC
theorem Gr:vo X (bz .NotIn) (EX true):=Gq xq
end
end
end J
namespace J
open PySem L2
section
section
variable {c:C}{e a b:aO}{g ga gb:ak->R D}{pos:Pos}
def DY:D->D->R D
 |.list xs,.int i=>match Ai xs i with
  |some d=>.ok d
  |none=>.no
 |.tuple xs,.int i=>match Ai xs i with
  |some d=>.ok d
  |none=>.no
 |.str x,.int i=>if x.length<=1000 then (match Ai x.cps.toList i with
  |some k=>.ok (.str ⟨#[k]⟩)
  |none=>.no) else .no
 |_,_=>.no
theorem Cr    (h:RDs K H vs ds)  (e:Ai ds i=some d):∃ v,Ai vs i=some v/\RD K H v d:=by
 unfold Ai at e ⊢;rw [h.length];cases hx:N1 ds.length i with
 |none=>rw [hx] at e;cases e
 |some j =>
  rw [hx] at e;exact h.get' e
theorem Rf:OA X (rD X.K DY):=by
 intro va sl pins s σ H x y v u Q I rv ru h;obtain ⟨Hs,dx,dy,sub,rx,ry,d,hd,q⟩:=h;unfold DY at hd;split at hd
 ·split at hd
  ·rename_i d' he
   cases hd;obtain ⟨p,vs,rfl,qa,ra⟩:=rx.list sub;obtain ⟨w,hw,rw'⟩:=Cr ra he;exact C8 va sl pins s σ H _ _ v u Q I rv ru ⟨p,vs,_,w,rfl,ry.int,qa,hw,q _ H Hs (.refl sub) rw'⟩
  ·cases hd
 ·split at hd
  ·rename_i d' he
   cases hd;obtain ⟨p,vs,rfl,qa,ra,_⟩:=rx.tuple sub;obtain ⟨w,hw,rw'⟩:=Cr ra he;exact N5 va sl pins s σ H _ _ v u Q I rv ru ⟨p,vs,_,w,rfl,ry.int,qa,hw,q _ H Hs (.refl sub) rw'⟩
  ·cases hd
 ·split at hd
  ·rename_i hz
   split at hd
   ·rename_i k he
    cases hd;exact N6 va sl pins s σ H _ _ v u Q I rv ru ⟨_,_,k,rx.str,ry.int,bd (c8 hz),he,q _ H Hs (.refl sub) (.str _)⟩
   ·cases hd
  ·cases hd
 ·cases hd
theorem Nr (x y:D) (c:Str) (n:Option D):DY x y≠.ex c n:=by
 unfold DY;split<;>(try split)<;>(try split)<;>exact fun h=>by cases h
theorem P0 (ha:JB c a ga) (hb:JB c b gb) (hs:tH b:=by exact fun _ _=>rfl):JE c (.Subscript a b pos) (g2 ga gb DY):=.of fun ρ=>nQ (Lj Rf (ha ρ) (hb ρ) hs) fun σ H Q q=>two Nr q
def uy (ds:List D) (lo hi:Option Int):List D:=(ds.drop (HT.gG ds.length 0 lo)).take (HT.gG ds.length ds.length hi-HT.gG ds.length 0 lo)
theorem Cu    (h:RDs K H vs ds) (lo hi:Option Int):RDs K H (yL vs lo hi) (uy ds lo hi):=by
 unfold yL uy;rw [h.length];exact (h.drop _).take _
def Bh:D->Option Int->Option Int->R D
 |.list xs,lo,hi=>.ok (.list (uy xs lo hi))
 |.tuple xs,lo,hi=>.ok (.tuple (uy xs lo hi))
 |_,_,_=>.no
inductive LC (K:a5) (x:V) (lo:Option Int) (hi:Option Int) (H:Hp) (Q:VK):Prop
 |mk (Hs dx:_) (h0:cK Hs H) (h1:RB K H Hs x dx) (h2:∃ d,Bh dx lo hi=.ok d/\∀ v H' Hs',cp H Hs H' Hs'->RD K Hs' v d->Q v H'):LC K x lo hi H Q
def Rg (K:a5):V->Option Int->Option Int->Hp->VK->Prop:=LC K
theorem Rh {X:Cx}:O6 X (Rg X.K):=by
 intro pins s σ H x v vl vu lo hi sl Q I rx hs pl pu h;obtain ⟨Hs,dx,sub,rb,d,hd,q⟩:=h;unfold Bh at hd;split at hd
 ·cases hd;obtain ⟨p,vs,rfl,qa,ra⟩:=rb.list sub;exact Jt pins s σ H _ v vl vu lo hi sl Q I rx hs pl pu ⟨p,vs,rfl,qa,fun l hl=>q _ _ _ (.new sub hl) (.list (.of aK) ((Cu ra lo hi).same (cp.new sub hl).sh))⟩
 ·cases hd;obtain ⟨p,vs,rfl,qa,ra,_⟩:=rb.tuple sub;by_cases hw:HT.gG vs.length 0 lo=0/\HT.gG vs.length vs.length hi=vs.length
  ·refine JV pins s σ H _ v vl vu lo hi sl Q I rx hs pl pu ⟨p,vs,rfl,qa,hw,?_⟩;rcases rb with rb|⟨_,_,_,_,_,ow⟩
   ·refine q _ H Hs (.refl sub) ?_;unfold uy;rw [<- ra.length,hw.1,hw.2,ra.length];simpa using rb
   ·cases ow
  ·exact N0 pins s σ H _ v vl vu lo hi sl Q I rx hs pl pu ⟨p,vs,rfl,qa,hw,fun l hl=>q _ _ _ (.new sub hl) (.tuple aK ((Cu ra lo hi).same (cp.new sub hl).sh))⟩
 ·cases hd
inductive P1 (K:a5) (cls:Str->aa) (E:XK) (ρ:ak) (r:R (Option Int)) (σ:St) (H:Hp) (Q:Option Int->Hp->Prop):Prop
 |mk (H0 Hs0:Hp) (la:Nat->Option aa) (Hs:Hp) (f:Fr K H0 Hs0 la ρ σ H Hs) (q:Fin K cls E H Hs r fun d=>∀ H' Hs',cp H Hs H' Hs'->Q d H'):P1 K cls E ρ r σ H Q
def Ri (K:a5) (cls:Str->aa) (E:XK) (ρ:ak) (r:R (Option Int)):TO:=P1 K cls E ρ r
structure JO (c:C) (e:Option aO) (g:ak->R (Option Int)):Prop where of ::
 run:∀ ρ,PO c.X e (Ri c.X.K c.cls c.E ρ (g ρ))
instance {c:C}{e:Option aO}{g:ak->R (Option Int)}:CoeFun (JO c e g) (fun _=>∀ ρ,PO c.X e (Ri c.X.K c.cls c.E ρ (g ρ))):=⟨JO.run⟩
theorem RJ {X:Cx}{e:Option aO}{t t':TO} (h:PO X e t) (m:∀ σ H Q,t' σ H Q->t σ H Q):PO X e t':=fun pins s σ H Q I q=>h pins s σ H Q I (m σ H Q q)
def K2:ak->R (Option Int):=fun _=>.ok none
def Ak (g:ak->R D):ak->R (Option Int):=fun ρ=>(g ρ).bind fun d=>match d with
 |.int i=>.ok (some i)
 |_=>.no
theorem lU:JO c none K2:=.of fun ρ=>RJ Jp fun σ H Q h_0=>by obtain ⟨H0,Hs0,la,Hs,f,q⟩:=h_0;exact q H Hs (.refl f.st.sub)
theorem jr (h:JE c e g):JO c (some e) (Ak g):=.of fun ρ=>RJ (Jq (h ρ)) fun σ H Q h_1=>by
 obtain ⟨H0,Hs0,la,Hs,f,q⟩:=h_1;refine rE f q fun d v H1 Hs1 e1 s1 f1 r1=>?_;unfold Ak at q;rw [e1,bind_ok] at q;cases r1 with
 |int i=>exact ⟨i,rfl,q H1 Hs1 s1⟩
 |_=>exact q.elim
theorem K3 {K:a5}{cls:Str->aa}{E:XK}{ρ:ak}{r:R (Option Int)}{β:Type}{k:Option Int->R β}{σ:St}{H:Hp}{H0 Hs0 Hs:Hp}{la:Nat->Option aa}{Q:Option Int->Hp->Prop}{q:β->Prop} (f:Fr K H0 Hs0 la ρ σ H Hs)
  (h:Fin K cls E H Hs (r.bind k) q) (m:∀ d H' Hs',r=.ok d->cp H Hs H' Hs'->Fr K H0 Hs0 la ρ σ H' Hs'->Q d H'):Ri K cls E ρ r σ H Q:=by
 refine ⟨H0,Hs0,la,Hs,f,?_⟩;cases r with
 |ok d=>exact fun H' Hs' s=>m d H' Hs' rfl s (f.step s)
 |ex c n=>exact h
 |no=>exact h
def IM (g:ak->R D) (gl gh:ak->R (Option Int)):ak->R D:=fun ρ=>(g ρ).bind fun x=>(gl ρ).bind fun l=>(gh ρ).bind fun h=>Bh x l h
theorem lr {lo hi:Option aO}{gl gh:ak->R (Option Int)}{p2:Pos} (he:JB c e g) (hl:JO c lo gl) (hh:JO c hi gh):JE c (.Subscript e (.Slice lo hi none p2) pos) (IM g gl gh):=.of fun ρ=>nQ (yK Rh (he ρ) (hl ρ) (hh ρ)) fun σ H Q h_2=>by
 obtain ⟨H0,Hs0,la,Hs,f,q⟩:=h_2;refine one f q fun d v H1 Hs1 e1 s1 f1 r1=>?_;unfold IM at q;rw [e1,bind_ok] at q;refine K3 f1 (q.on s1 (q':=fun _=>True) fun _ _=>trivial) fun l H2 Hs2 e2 s2 f2=>?_;rw [e2,bind_ok] at q;refine K3 f2 (q.on (s1.trans s2) (q':=fun _=>True) fun _ _=>trivial) fun h H3 Hs3 e3 s3 f3=>?_;rw [e3,bind_ok] at q;cases hr:Bh d l h with
 |ok z=>rw [hr] at q;exact ⟨Hs3,d,f3.st.sub,(r1.step s2).step s3,z,hr,fun w H4 Hs4 s4 r4=>q w H4 Hs4 (s1.trans (s2.trans (s3.trans s4))) r4⟩
 |ex c n=>unfold Bh at hr;split at hr<;>cases hr
 |no=>rw [hr] at q;exact q.elim
inductive RK (K:a5) (h:List D->R D) (xs:List V) (H:Hp) (Q:VK):Prop
 |mk (Hs ds:_) (h0:cK Hs H) (h1:Lx K H Hs xs ds) (h2:∃ d,h ds=.ok d/\∀ v H' Hs',cp H Hs H' Hs'->RD K Hs' v d->Q v H'):RK K h xs H Q
def rC (K:a5) (h:List D->R D):List V->Hp->VK->Prop:=RK K h
def Gs (X:Cx) (f:a7) (h:List D->R D):Prop:=iK X f (rC X.K h)/\∀ x c n,h x≠.ex c n
def cG (gs:ak->R (List D)) (h:List D->R D):ak->R D:=fun ρ=>(gs ρ).bind h
theorem LD {K:a5}{cls:Str->aa}{E:XK}{h:List D->R D}{gs:ak->R (List D)}{ρ:ak}{σ:St}{H:Hp}{Q:VK} (hx:∀ x c n,h x≠.ex c n) (q:TR K cls E ρ (cG gs h ρ) σ H Q):Ox (rC K h) (Ql K cls E ρ (gs ρ)) σ H Q:=by
 obtain ⟨H0,Hs0,la,Hs,f,q⟩:=q;refine Gg f q fun ds vs H1 Hs1 e1 s1 f1 r1=>?_;unfold cG at q;rw [e1,bind_ok] at q;cases hr:h ds with
 |ok d =>
  rw [hr] at q;exact ⟨Hs1,ds,f1.st.sub,r1,d,hr,fun w H3 Hs3 s3 r3=>q w H3 Hs3 (s1.trans s3) r3⟩
 |ex c n=>exact (hx ds c n hr).elim
 |no=>rw [hr] at q;exact q.elim
variable {es:List aO}{gs:ak->R (List D)}{x:Str}{p:Pos}{id T:String}{h:List D->R D}
theorem cA (hc:Gs c.X (.builtin id) h) (hg:Gl c.X x) (hm:c.X.mg x=none) (hv:fS x=some (.builtin id)) (ha:Ly c (e::es) gs) (hn:x≠"__name__":=by decide) (hdb:(x==("__debug__" : Str))=false:=by decide)
  (he:ap (e::es) c.X.env=(false,bQ e c.X.env)::ap es c.X.env:=by rfl) (hpl:(eR pos (ap es c.X.env)).any (·.1)=false:=by rfl):JE c (.Call (.Name x p) (e::es) [] pos) (cG gs h):=.of fun ρ=>nQ (lc hc.1 hg hm hv (ha ρ) hn hdb he hpl) fun σ H Q q=>LD hc.2 q
theorem fu (hc:Gs c.X (.type T) h) (hg:Gl c.X x) (hm:c.X.mg x=none) (hv:fS x=some (.type T)) (ha:Ly c (e::es) gs) (hn:x≠"__name__":=by decide) (hdb:(x==("__debug__" : Str))=false:=by decide)
  (he:ap (e::es) c.X.env=(false,bQ e c.X.env)::ap es c.X.env:=by rfl) (hpl:(eR pos (ap es c.X.env)).any (·.1)=false:=by rfl):JE c (.Call (.Name x p) (e::es) [] pos) (cG gs h):=.of fun ρ=>nQ (wo hc.1 hg hm hv (ha ρ) hn hdb he hpl) fun σ H Q q=>LD hc.2 q
end
end
section
section
theorem Lx.one    (h:Lx K H Hs xs [d]):∃ x,xs=[x]/\RB K H Hs x d:=by
 cases h with|cons a t=>cases t;exact ⟨_,rfl,a⟩
def jm (h:D->R D):List D->R D
 |[d]=>h d
 |_=>.no
theorem rF  (hx:∀ d c n,h d≠.ex c n)
  (hr:∀ pins s σ H x u Q Hs d d',bf X pins σ H s->cu x u->cK Hs H->RB X.K H Hs x d->h d=.ok d'->(∀ v H' Hs',cp H Hs H' Hs'->RD X.K Hs' v d'->Q v H')->aj (aA X.prog X.w) X.A (call f [u]) (EP X pins σ Q) X.xe s):Gs X f (jm h):=by
 refine ⟨fun pins s σ H xs us Q I r ⟨Hs,ds,sub,rb,d,hd,q⟩=>?_,fun x c n=>?_⟩
 ·unfold jm at hd;split at hd
  ·obtain ⟨x,rfl,rx⟩:=rb.one;obtain ⟨u,rfl,ru⟩:=kh r;exact hr pins s σ H x u Q Hs _ _ I ru sub rx hd q
  ·cases hd
 ·unfold jm;split
  ·exact hx _ _ _
  ·exact fun h=>by cases h
def lu:D->R D
 |.list xs=>.ok (.int xs.length)
 |.tuple xs=>.ok (.int xs.length)
 |.str x=>if x.length<=1000 then .ok (.int x.length) else .no
 |_=>.no
theorem RDk.length   : ∀ {ds:List (D×D)},RDk K H vs ds->vs.length=ds.length:=by
 induction vs with
 |nil=>intro ds h;cases h;rfl
 |cons x r ih=>intro ds h;cases h with|cons a b=>exact congrArg (· + 1) (ih b)
theorem RB.dict    (sub:cK Hs H) (h:RB K H Hs v (.dict ds)):∃ a,v=.ref a/\((∃ kvs,H a=some (.dK kvs)/\RDk K Hs kvs ds)\/(∃ kvs,H a=some (.dT kvs)/\kvs≠[]/\RDt K Hs kvs ds)\/∃ o kvs es,ds=(.none,.none)::es/\H a=some (.frz o (.dT kvs))/\kvs≠[]/\RDt K Hs kvs es):=by
 rcases h with h|⟨a,o,rfl,h2,h3,h4⟩
 ·cases h with
  |dictK q r=>exact ⟨_,rfl,.inl ⟨_,sub _ _ q,r⟩⟩
  |dictT q n r=>exact ⟨_,rfl,.inr (.inl ⟨_,sub _ _ q,n,r⟩)⟩
  |dictF q n r=>exact ⟨_,rfl,.inr (.inr ⟨_,_,_,rfl,sub _ _ q,n,r⟩)⟩
 ·cases h4 with
  |dK r=>exact ⟨a,rfl,.inl ⟨_,h2,r⟩⟩
  |dT n r=>exact ⟨a,rfl,.inr (.inl ⟨_,h2,n,r⟩)⟩
  |dF n r=>exact ⟨a,rfl,.inr (.inr ⟨_,_,_,rfl,h2,n,r⟩)⟩
theorem iq:Gs X (.builtin "len") (jm lu):=by
 refine rF (fun d c n=>?_) fun pins s σ H x u Q Hs d d' I ru sub rx hd q=>?_
 ·unfold lu;split<;>(try split)<;>exact fun h=>by cases h
 ·unfold lu at hd;split at hd
  ·cases hd;obtain ⟨a,vs,rfl,qa,ra⟩:=rx.list sub;refine p_ pins s σ H _ _ Q I (.cons ru .nil) ⟨a,vs,rfl,.inl qa,?_⟩;rw [ra.length];exact q _ H Hs (.refl sub) (.int _)
  ·cases hd;obtain ⟨a,vs,rfl,qa,ra,_⟩:=rx.tuple sub;refine p_ pins s σ H _ _ Q I (.cons ru .nil) ⟨a,vs,rfl,.inr qa,?_⟩;rw [ra.length];exact q _ H Hs (.refl sub) (.int _)
  ·split at hd
   ·rename_i hz
    cases hd;exact xr pins s σ H _ _ Q I (.cons ru .nil) ⟨_,by rw [rx.str],bd (c8 hz),q _ H Hs (.refl sub) (.int _)⟩
   ·cases hd
  ·cases hd
def xI (T:String) (d:D):Bool:=match T,d with
 | "str",.str _=>true
 | "int",.int _=>true
 | "int",.bool _=>true
 | "bool",.bool _=>true
 | "list",.list _=>true
 | "tuple",.tuple _=>true
 |_,_=>false
def uz (g:ak->R D) (T:String):ak->R D:=fun ρ=>(g ρ).bind fun d=>if n6 d then .ok (.bool (xI T d)) else .no
theorem K4  (T:String) (hT:T="str"\/T="int"\/T="bool"\/T="list"\/T="tuple") (h:n6 d=true):cF K (.type (Rb d)) (.type T)=some (xI T d):=by
 rcases hT with rfl|rfl|rfl|rfl|rfl<;>cases d<;>first|rfl|simp [n6] at h
theorem nh      (h:JB c e g) (hgi:Gl c.X "isinstance") (hi:c.X.mg "isinstance"=none) (hgT:Gl c.X T) (hT:c.X.mg T=none) (hv:fS T=some (.type Ts))
  (hTs:Ts="str"\/Ts="int"\/Ts="bool"\/Ts="list"\/Ts="tuple")
  (hn:T≠"__name__":=by decide) (hdb:(T==("__debug__" : Str))=false:=by decide)
  (he:ap [e,.Name T p2] c.X.env=(false,bQ e c.X.env)::ap [.Name T p2] c.X.env:=by rfl) (hpl:(eR pos (ap [.Name T p2] c.X.env)).any (·.1)=false:=by rfl) :
  JE c (.Call (.Name "isinstance" p) [e,.Name T p2] [] pos) (uz g Ts):=.of fun ρ=>by
 refine nQ (lc Gb hgi hi iH (bC (h ρ) (bC (C0 hgT hT hv (v:=.ty Ts) rfl hn hdb) dD) he) (by decide) (by decide) he hpl) fun σ H Q h_0=>?_;obtain ⟨H0,Hs0,la,Hs,f,q⟩:=h_0;refine one f q fun d v H1 Hs1 e1 s1 f1 r1=>?_;unfold uz at q;rw [e1,bind_ok] at q;by_cases hd:n6 d=true
 ·rw [if_pos hd] at q;exact ⟨v,d,Ts,_,rfl,(r1.full f1.st.sub).rep hd,K4 Ts hTs hd,q _ H1 Hs1 s1 (.bool _)⟩
 ·rw [if_neg hd] at q;exact q.elim
def kn:List D->Option (List Bool)
 |[]=>some []
 |.bool b::r=>(kn r).map (b::·)
 |_::_=>none
theorem xJ:∀ {bs:List Bool},kn ds=some bs->ds=bs.map bN:=by
 induction ds with
 |nil=>intro bs h;cases h;rfl
 |cons d r ih =>
  intro bs h;cases d with
  |bool b =>
   have h:(kn r).map (b::·)=some bs:=h;cases hr:kn r with
   |none=>rw [hr] at h;cases h
   |some z=>rw [hr] at h;cases h;rw [ih hr];rfl
  |_=>cases h
def gY (k:List Bool->Bool):D->R D
 |.list ds=>match kn ds with
  |some bs=>.ok (.bool (k bs))
  |none=>.no
 |_=>.no
theorem zh {id:String}{k:List Bool->Bool} (h:iK X (.builtin id) (fun xs H Q=>∃ p,∃ bs:List Bool,xs=[.ref p]/\k_ X.K H p (bs.map V.bl)/\Q (.bl (k bs)) H)):Gs X (.builtin id) (jm (gY k)):=by
 refine rF (fun d c n=>?_) fun pins s σ H x u Q Hs d d' I ru sub rx hd q=>?_
 ·unfold gY;split<;>(try split)<;>exact fun h=>by cases h
 ·unfold gY at hd;split at hd
  ·split at hd
   ·rename_i bs hb
    cases hd;obtain ⟨a,vs,rfl,qa,ra⟩:=rx.list sub;rw [xJ hb] at ra;rw [vM ra] at qa;exact h pins s σ H _ _ Q I (.cons ru .nil) ⟨a,bs,rfl,qa,q _ H Hs (.refl sub) (.bool _)⟩
   ·cases hd
  ·cases hd
theorem rG (hc:X.calm=true):Gs X (.builtin "all") (jm (gY fun bs=>bs.all id)):=zh (uk hc)
theorem Nt (hc:X.calm=true):Gs X (.builtin "any") (jm (gY fun bs=>bs.any id)):=zh (ul hc)
def jM (x:Str):List D:=x.cps.toList.map fun c=>ay ⟨#[c]⟩
theorem DZ  (x:Str):RDs K H (uv x) (jM x):=by
 unfold uv jM;induction x.cps.toList with
 |nil=>exact .nil
 |cons a r ih=>exact .cons (.str _) ih
def fF:D->R D
 |.list xs=>.ok (.tuple xs)
 |.tuple xs=>.ok (.tuple xs)
 |.str x=>if x.cps.size<=1000 then .ok (.tuple (jM x)) else .no
 |_=>.no
theorem j9 (hc:X.calm=true):Gs X (.type "tuple") (jm fF):=by
 refine rF (fun d c n=>?_) fun pins s σ H x u Q Hs d d' I ru sub rx hd q=>?_
 ·unfold fF;split<;>(try split)<;>exact fun h=>by cases h
 ·unfold fF at hd;split at hd
  ·cases hd;obtain ⟨a,vs,rfl,qa,ra⟩:=rx.list sub;exact oJ pins s σ H _ _ Q I (.cons ru .nil) ⟨a,vs,rfl,.inl ⟨qa,fun l hl=>q _ _ _ (.new sub hl) (.tuple aK (ra.same (cp.new sub hl).sh))⟩⟩
  ·cases hd;obtain ⟨a,vs,rfl,qa,ra,_⟩:=rx.tuple sub;refine oJ pins s σ H _ _ Q I (.cons ru .nil) ⟨a,vs,rfl,.inr ⟨qa,?_⟩⟩;rcases rx with rx|⟨_,_,_,_,_,ow⟩
   ·exact q _ H Hs (.refl sub) rx
   ·cases ow
  ·split at hd
   ·rename_i hz
    cases hd;exact sX hc pins s σ H _ _ Q I (.cons ru .nil) ⟨_,by rw [rx.str],bd (c8 hz),fun l hl=>q _ _ _ (.new sub hl) (.tuple aK (DZ _))⟩
   ·cases hd
  ·cases hd
def wD:D->R D
 |.list xs=>.ok (.list xs)
 |.tuple xs=>.ok (.list xs)
 |_=>.no
theorem K5:Gs X (.type "list") (jm wD):=by
 refine rF (fun d c n=>?_) fun pins s σ H x u Q Hs d d' I ru sub rx hd q=>?_
 ·unfold wD;split<;>exact fun h=>by cases h
 ·unfold wD at hd;split at hd
  ·cases hd;obtain ⟨a,vs,rfl,qa,ra⟩:=rx.list sub;exact q0 pins s σ H _ _ Q I (.cons ru .nil) ⟨a,vs,rfl,.inl qa,fun l hl=>q _ _ _ (.new sub hl) (.list (.of aK) (ra.same (cp.new sub hl).sh))⟩
  ·cases hd;obtain ⟨a,vs,rfl,qa,ra,_⟩:=rx.tuple sub;exact q0 pins s σ H _ _ Q I (.cons ru .nil) ⟨a,vs,rfl,.inr qa,fun l hl=>q _ _ _ (.new sub hl) (.list (.of aK) (ra.same (cp.new sub hl).sh))⟩
  ·cases hd
def dZ:List D->Option (List Str)
 |[]=>some []
 |.str b::r=>(dZ r).map (b::·)
 |_::_=>none
theorem ja:∀ {bs:List Str},dZ ds=some bs->ds=bs.map ay:=by
 induction ds with
 |nil=>intro bs h;cases h;rfl
 |cons d r ih =>
  intro bs h;cases d with
  |str b =>
   have h:(dZ r).map (b::·)=some bs:=h;cases hr:dZ r with
   |none=>rw [hr] at h;cases h
   |some z=>rw [hr] at h;cases h;rw [ih hr];rfl
  |_=>cases h
@[simp] theorem strsOf_map:∀ bs:List Str,dZ (bs.map ay)=some bs
 |[]=>rfl
 |b::r=>by show (dZ (r.map ay)).map (b::·)=_;rw [strsOf_map r];rfl
def nR:D->R D
 |.list ds=>match dZ ds with
  |some ss=>if ss.length<64 then .ok (.list ((iM ss).map .str)) else .no
  |none=>.no
 |_=>.no
theorem D_:Gs X (.builtin "sorted") (jm nR):=by
 refine rF (fun d c n=>?_) fun pins s σ H x u Q Hs d d' I ru sub rx hd q=>?_
 ·unfold nR;split<;>(try split)<;>(try split)<;>exact fun h=>by cases h
 ·unfold nR at hd;split at hd
  ·split at hd
   ·split at hd
    ·rename_i ss hs hz
     cases hd;obtain ⟨a,vs,rfl,qa,ra⟩:=rx.list sub;rw [ja hs] at ra;rw [io ra] at qa;exact rA pins s σ H _ _ Q I (.cons ru .nil) ⟨a,ss,rfl,qa,hz,fun l hl=>q _ _ _ (.new sub hl) (.list (.of aK) (ll _))⟩
    ·cases hd
   ·cases hd
  ·cases hd
end
end
section
inductive P2 (K:a5) (cls:Str->aa) (n:Nat) (F:List D->R D) (vs:List V) (H:Hp) (Q:VK) (E:XK):Prop
 |mk (Hs ds:_) (h0:cK Hs H) (h1:ds.length=n) (h2:RDs K Hs vs ds) (h3:Fin K cls E H Hs (F ds) fun d=>∀ v H' Hs',cp H Hs H' Hs'->RD K Hs' v d->Q v H'):P2 K cls n F vs H Q E
def LF (K:a5) (cls:Str->aa) (n:Nat) (F:List D->R D):Sp:=P2 K cls n F
structure Fn (P:aI) (w:aW) (K:a5) (mg:Str->Option a7) (base:bc) (cls:Str->aa) (x:Str) (k n:Nat) (F:List D->R D):Prop where
 ex:∃ f fd ps,oy P w K mg base (lj P w) k f fd ps (LF K cls n F)/\mg x=some (.ref f)/\cU K (.ref f)=true/\iL K fd ps []
section
def gK (n:Nat) (F:List D->R D) (gs:ak->R (List D)):ak->R D:=fun ρ=>(gs ρ).bind fun ds=>if ds.length=n then F ds else .no
theorem K6  (G:Fn c.X.prog c.X.w c.X.K c.X.mg c.X.base c.cls x k n F) (hr:iS k c.X.A) (hg:Gl c.X x) (hx:kU (lj c.X.prog c.X.w) c.X c.E) (ha:DU c (e::es) gs)
  (hdb:(x==("__debug__" : Str))=false:=by decide) (he:ap (e::es) c.X.env=(false,bQ e c.X.env)::ap es c.X.env:=by rfl) (hpl:(eR pos (ap es c.X.env)).any (·.1)=false:=by rfl) :
  JE c (.Call (.Name x p) (e::es) [] pos) (gK n F gs):=.of fun ρ=>by
 obtain ⟨f,fd,ps,hf,hm,hk,hb⟩:=G.ex;refine nQ (Jm (E:=c.E) hf hr hg hm hk hb .nil hx (ha ρ) hdb he hpl) fun σ H Q h_0=>?_;obtain ⟨H0,Hs0,la,Hs,fr,q⟩:=h_0;refine Bc fr q fun ds vs H1 Hs1 e1 s1 f1 r1=>?_;unfold gK at q;rw [e1,bind_ok] at q;by_cases hn:ds.length=n
 ·rw [if_pos hn] at q;show LF _ _ _ _ (vs++[]) _ _ _;rw [bW];exact ⟨Hs1,ds,f1.st.sub,hn,r1,q.on s1 fun d k v H2 Hs2 s2 r2=>k v H2 Hs2 (s1.trans s2) r2⟩
 ·rw [if_neg hn] at q;exact q.elim
end
inductive Fl where
 |nx (ρ:ak)
 |rt (d:D)
 |bk (ρ:ak)
 |ct (ρ:ak)
def lV (K:a5) (cls:Str->aa) (E:XK) (H0 Hs0:Hp) (la:Nat->Option aa) (D:vD) (r:R Fl):Prop:=match r with
 |.ok (.nx ρ')=>∀ σ' H' Hs',Fr K H0 Hs0 la ρ' σ' H' Hs'->D.nx σ' H'
 |.ok (.bk ρ')=>∀ σ' H' Hs',Fr K H0 Hs0 la ρ' σ' H' Hs'->D.bk σ' H'
 |.ok (.ct ρ')=>∀ σ' H' Hs',Fr K H0 Hs0 la ρ' σ' H' Hs'->D.ct σ' H'
 |.ok (.rt d)=>∀ v H' Hs',cp H0 Hs0 H' Hs'->RD K Hs' v d->D.rt v H'
 |.ex c n=>∀ H' Hs',cp H0 Hs0 H' Hs'->XW K cls E c n H' Hs'
 |.no=>False
inductive RL (K:a5) (cls:Str->aa) (E:XK) (ρ:ak) (r:R Fl) (D:vD) (σ:St) (H:Hp):Prop
 |mk (H0 Hs0:Hp) (la:Nat->Option aa) (Hs:Hp) (f:Fr K H0 Hs0 la ρ σ H Hs) (q:lV K cls E H0 Hs0 la D r):RL K cls E ρ r D σ H
def SR (K:a5) (cls:Str->aa) (E:XK) (ρ:ak) (r:R Fl):TS:=RL K cls E ρ r
structure JS (c:C) (s:dC) (g:ak->R Fl):Prop where of ::
 run:∀ ρ,PS c.X s (SR c.X.K c.cls c.E ρ (g ρ))
instance {c:C}{s:dC}{g:ak->R Fl}:CoeFun (JS c s g) (fun _=>∀ ρ,PS c.X s (SR c.X.K c.cls c.E ρ (g ρ))):=⟨JS.run⟩
structure Cv (c:C) (s:List dC) (g:ak->R Fl):Prop where of ::
 run:∀ ρ,yy c.X s (SR c.X.K c.cls c.E ρ (g ρ))
instance {c:C}{s:List dC}{g:ak->R Fl}:CoeFun (Cv c s g) (fun _=>∀ ρ,yy c.X s (SR c.X.K c.cls c.E ρ (g ρ))):=⟨Cv.run⟩
theorem Fr.set     (f:Fr K H0 Hs0 la ρ σ H Hs) (i:Nat)  (r:RD K Hs v d):Fr K H0 Hs0 la (ρ.set i (.shr d)) (σ.set i (some v)) H Hs:=by
 have hl:=f.len;have nx:∀ {j:Nat}{s:Sl},(∀ d,s≠.shr d)->(ρ.set i (.shr d))[j]?=some s->ρ[j]?=some s/\i≠j:=fun {j s} hs e=>by
  by_cases hj:i=j
  ·subst hj;by_cases hi:i<ρ.length
   ·rw [aw hi] at e;exact absurd (bh e).symm (hs d)
   ·rw [bT (by simpa using hi)] at e;cases e
  ·rw [ag hj] at e;exact ⟨e,hj⟩
 refine ⟨f.st,by simp [hl],fun j e h=>?_,fun j e h=>?_,fun j e h=>?_,fun j k d1 d2 a h1 h2 h3 h4=>?_,f.lh,fun j e h=>?_,fun j k d1 d2 h1 h2=>?_⟩
 ·by_cases hj:i=j
  ·subst hj;by_cases hi:i<ρ.length
   ·rw [aw hi] at h;cases h;exact ⟨v,aw (by omega),r⟩
   ·rw [bT (by simpa using hi)] at h;cases h
  ·rw [ag hj] at h ⊢;exact f.sh j e h
 ·obtain ⟨h,hj⟩:=nx (fun _ z=>by cases z) h;rw [ag hj];exact f.ow j e h
 ·obtain ⟨h,hj⟩:=nx (fun _ z=>by cases z) h;rw [ag hj];exact f.lk j e h
 ·obtain ⟨h1,n1⟩:=nx (fun _ z=>by cases z) h1;obtain ⟨h2,n2⟩:=nx (fun _ z=>by cases z) h2;rw [ag n1] at h3;rw [ag n2] at h4;exact f.dj j k d1 d2 a h1 h2 h3 h4
 ·obtain ⟨h,hj⟩:=nx (fun _ z=>by cases z) h;obtain ⟨a,as,O⟩:=f.o2 j e h;refine ⟨a,as,by rw [ag hj];exact O.at_,O.ob,O.nd,O.out,fun b hb k e' hk=>?_,O.inn⟩;obtain ⟨hk,nk⟩:=nx (fun _ z=>by cases z) hk;rw [ag nk];exact O.dj b hb k e' hk
 ·exact f.u2 j k d1 d2 (nx (fun _ z=>by cases z) h1).1 (nx (fun _ z=>by cases z) h2).1
theorem Fr.setO     (f:Fr K H0 Hs0 la ρ σ H Hs) (i:Nat)   (n:H a=none) (r:k9 K Hs o d):Fr K H0 Hs0 la (ρ.set i (.own d)) (σ.set i (some (.ref a))) (upd H a o) Hs:=by
 have f':=f.step (cp.mine (o:=o) f.st.sub n);have hl:=f.len;have n0:H0 a=none:=f.st.all.free n;have ns:Hs a=none:=f.st.sub.free n;have nx:∀ {j:Nat}{s:Sl},(∀ d,s≠.own d)->(ρ.set i (.own d))[j]?=some s->ρ[j]?=some s/\i≠j:=fun {j s} hs e=>by
  by_cases hj:i=j
  ·subst hj;by_cases hi:i<ρ.length
   ·rw [aw hi] at e;exact absurd (bh e).symm (hs d)
   ·rw [bT (by simpa using hi)] at e;cases e
  ·rw [ag hj] at e;exact ⟨e,hj⟩
 have ne:∀ j e,ρ[j]?=some (Sl.own e)->σ[j]?≠some (some (V.ref a)):=fun j e h z=>by
  obtain ⟨b,o',h1,h2,_⟩:=f.ow j e h;rw [z] at h1;cases h1;rw [n] at h2;cases h2
 refine ⟨f'.st,by simp [hl],fun j e h=>?_,fun j e h=>?_,fun j e h=>?_,fun j k d1 d2 b h1 h2 h3 h4=>?_,f.lh,fun j e h=>?_,fun j k d1 d2 h1 h2=>?_⟩
 ·obtain ⟨h,hj⟩:=nx (fun _ z=>by cases z) h;rw [ag hj];exact f'.sh j e h
 ·by_cases hj:i=j
  ·subst hj;by_cases hi:i<ρ.length
   ·rw [aw hi] at h;cases h;exact ⟨a,o,aw (by omega),aK,ns,n0,r⟩
   ·rw [bT (by simpa using hi)] at h;cases h
  ·rw [ag hj] at h ⊢;exact f'.ow j e h
 ·obtain ⟨h,hj⟩:=nx (fun _ z=>by cases z) h;rw [ag hj];exact f'.lk j e h
 ·by_cases hj:i=j
  ·by_cases hk:i=k
   ·exact hj.symm.trans hk
   ·rw [ag hk] at h2 h4;subst hj;by_cases hi:i<ρ.length
    ·rw [aw (by omega)] at h3;cases h3;exact (ne k d2 h2 h4).elim
    ·rw [bT (by simpa using hi)] at h1;cases h1
  ·rw [ag hj] at h1 h3;by_cases hk:i=k
   ·subst hk;by_cases hi:i<ρ.length
    ·rw [aw (by omega)] at h4;cases h4;exact (ne j d1 h1 h3).elim
    ·rw [bT (by simpa using hi)] at h2;cases h2
   ·rw [ag hk] at h2 h4;exact f.dj j k d1 d2 b h1 h2 h3 h4
 ·obtain ⟨h,hj⟩:=nx (fun _ z=>by cases z) h;obtain ⟨b,as,O⟩:=f.o2 j e h;have nb:∀ c∈b::as,c≠a:=fun c hc z=>by
   subst z;rcases List.mem_cons.mp hc with z|z
   ·have:=O.ob;rw [<- z,n] at this;cases this
   ·obtain ⟨o,ho,_⟩:=O.inn.there z;rw [n] at ho;cases ho
  refine ⟨b,as,by rw [ag hj];exact O.at_,by rw [aJ (nb b av)];exact O.ob,O.nd,O.out,fun c hc k e' hk=>?_,O.inn.upd fun z=>nb a (am _ z) rfl⟩;by_cases nk:i=k
  ·subst nk;intro z;by_cases hi:i<ρ.length
   ·rw [aw (by omega)] at z;cases z;exact nb _ hc rfl
   ·rw [bT (by simp;omega)] at hk;cases hk
  ·rw [ag nk] at hk ⊢;exact O.dj c hc k e' hk
 ·exact f.u2 j k d1 d2 (nx (fun _ z=>by cases z) h1).1 (nx (fun _ z=>by cases z) h2).1
theorem Fr.write     (f:Fr K H0 Hs0 la ρ σ H Hs) (i:Nat)   (hi:ρ[i]?=some (Sl.own d)) (hs:σ[i]?=some (some (V.ref a))) (r:k9 K Hs o d'):Fr K H0 Hs0 la (ρ.set i (.own d')) σ (upd H a o) Hs:=by
 obtain ⟨a',o',h1,h2,h3,h4,h5⟩:=f.ow i d hi;rw [hs] at h1;cases h1;have hl:=f.len;have hil:i<ρ.length:=(List.getElem?_eq_some_iff.mp hi).1;have nx:∀ {j:Nat}{s:Sl},(∀ d,s≠.own d)->(ρ.set i (.own d'))[j]?=some s->ρ[j]?=some s/\i≠j:=fun {j s} hs e=>by
  by_cases hj:i=j
  ·subst hj;rw [aw hil] at e;exact absurd (bh e).symm (hs d')
  ·rw [ag hj] at e;exact ⟨e,hj⟩
 refine ⟨⟨fun b u e=>?_,f.st.sh,fun b u e=>?_,f.st.out⟩,by simp [hl],fun j e h=>?_,fun j e h=>?_,fun j e h=>?_,fun j k d1 d2 b h1 h2 h3 h4=>?_,f.lh,fun j e h=>?_,fun j k d1 d2 h1 h2=>?_⟩
 ·rw [aJ (aS e h4)];exact f.st.all b u e
 ·rw [aJ (aS e h3)];exact f.st.sub b u e
 ·obtain ⟨h,hj⟩:=nx (fun _ z=>by cases z) h;exact f.sh j e h
 ·by_cases hj:i=j
  ·subst hj;rw [aw hil] at h;cases h;exact ⟨a,o,hs,aK,h3,h4,r⟩
  ·rw [ag hj] at h;obtain ⟨b,u,k1,k2,k3,k4,k5⟩:=f.ow j e h;refine ⟨b,u,k1,?_,k3,k4,k5⟩;rw [aJ (fun z=>hj ?_)]
   ·exact k2
   ·subst z;exact f.dj i j d e b hi h hs k1
 ·obtain ⟨h,hj⟩:=nx (fun _ z=>by cases z) h;obtain ⟨b,u,k1,k2,k3,k4,k5,k6⟩:=f.lk j e h;refine ⟨b,u,k1,k2,?_,k4,k5,k6⟩;rw [aJ (aS k5 h4)];exact k3
 ·have own:∀ {j:Nat}{e:D},(ρ.set i (.own d'))[j]?=some (Sl.own e)->∃ e',ρ[j]?=some (Sl.own e'):=fun {j e} h=>by
   by_cases hj:i=j
   ·subst hj;exact ⟨d,hi⟩
   ·rw [ag hj] at h;exact ⟨e,h⟩
  obtain ⟨e1,h1⟩:=own h1;obtain ⟨e2,h2⟩:=own h2;exact f.dj j k e1 e2 b h1 h2 h3 h4
 ·obtain ⟨h,hj⟩:=nx (fun _ z=>by cases z) h;obtain ⟨b,as,O⟩:=f.o2 j e h;have nb:∀ c∈b::as,c≠a:=fun c hc z=>by
   subst z;exact O.dj c hc i d hi hs
  refine ⟨b,as,O.at_,by rw [aJ (nb b av)];exact O.ob,O.nd,O.out,fun c hc k e' hk=>?_,O.inn.upd fun z=>nb a (am _ z) rfl⟩;by_cases nk:i=k
  ·subst nk;exact O.dj c hc i d hi
  ·rw [ag nk] at hk;exact O.dj c hc k e' hk
 ·exact f.u2 j k d1 d2 (nx (fun _ z=>by cases z) h1).1 (nx (fun _ z=>by cases z) h2).1
def dR (ρ:ak):ak:=ρ.map fun s=>match s with
 |.own d=>.shr d
 |.ow2 dss=>.shr (.list (dss.map .list))
 |s=>s
open Classical in
theorem Fr.share     (f:Fr K H0 Hs0 la ρ σ H Hs):∃ Hs',Fr K H0 Hs0 la (dR ρ) σ H Hs'/\cp H Hs H Hs'\/Fr K H0 Hs0 la (dR ρ) σ H Hs':=by
 let P:aa->Prop:=fun b=>(∃ (i:Nat) (d:D),ρ[i]?=some (Sl.own d)/\σ[i]?=some (some (V.ref b)))\/∃ (i:Nat) (dss:List (List D)) (a:aa) (as:List aa),ρ[i]?=some (Sl.ow2 dss)/\O2 K H0 H Hs ρ σ i dss a as/\b∈a::as
 let Hs':Hp:=fun b=>if P b then H b else Hs b
 have pos:∀ b,P b->Hs' b=H b:=fun b h=>if_pos h;have neg:∀ b,¬ P b->Hs' b=Hs b:=fun b h=>if_neg h;have up:cK Hs Hs':=fun b o e=>by
  by_cases h:P b
  ·rw [pos b h];exact f.st.sub b o e
  ·rw [neg b h];exact e
 have none0:∀ b o,H0 b=some o->¬ P b:=fun b o e hP=>by
  rcases hP with ⟨i,d,h1,h2⟩|⟨i,dss,a,as,h1,O,hb⟩
  ·obtain ⟨a,o',k1,_,_,k4,_⟩:=f.ow i d h1;rw [h2] at k1;cases k1;rw [e] at k4;cases k4
  ·have:=(O.out b hb).2;rw [e] at this;cases this
 have un:∀ {j:Nat}{s:Sl},(dR ρ)[j]?=some s->(∃ d,s=.shr d/\ρ[j]?=some (Sl.own d))\/(∃ dss:List (List D),s=.shr (.list (dss.map .list))/\ρ[j]?=some (Sl.ow2 dss))\/((∀ d,s≠.own d)/\(∀ d,s≠.ow2 d)/\ρ[j]?=some s):=fun {j s} e=>by
  unfold dR at e;rw [aE] at e;cases h:ρ[j]? with
  |none=>rw [h] at e;cases e
  |some t =>
   rw [h] at e;cases t with
   |own d=>cases e;exact .inl ⟨d,rfl,rfl⟩
   |no=>cases e;exact .inr (.inr ⟨fun _ z=>(by cases z),fun _ z=>(by cases z),rfl⟩)
   |shr d=>cases e;exact .inr (.inr ⟨fun _ z=>(by cases z),fun _ z=>(by cases z),rfl⟩)
   |lck d=>cases e;exact .inr (.inr ⟨fun _ z=>(by cases z),fun _ z=>(by cases z),rfl⟩)
   |ow2 d=>cases e;exact .inr (.inl ⟨d,rfl,rfl⟩)
 refine ⟨Hs',.inr ⟨⟨f.st.all,f.st.sh.trans up,fun b o e=>?_,fun a o e t z=>?_⟩,by simp [dR,f.len],fun j d h=>?_,fun j d h=>?_,fun j d h=>?_,fun j k d1 d2 a h1 h2 _ _=>?_,f.lh,fun j d h=>?_,fun j k d1 d2 h1 h2=>?_⟩⟩
 ·by_cases h:P b
  ·rw [pos b h] at e;exact e
  ·rw [neg b h] at e;exact f.st.sub b o e
 ·rw [neg a (none0 a o e)];exact f.st.out a o e t z
 ·rcases un h with ⟨d',e,h'⟩|⟨dss,e,h'⟩|⟨_,_,h'⟩
  ·cases e;obtain ⟨a,o,k1,k2,k3,k4,k5⟩:=f.ow j d h';refine ⟨_,k1,?_⟩;have hp:Hs' a=some o:=by rw [pos a (.inl ⟨j,d,h',k1⟩)];exact k2
   have e:cK (upd Hs a o) Hs':=fun b u q=>by
    by_cases hb:b=a
    ·subst hb;rw [aK] at q;cases q;exact hp
    ·rw [aJ hb] at q;exact up b u q
   exact (k5.share k3).same e
  ·cases e;obtain ⟨a,as,O⟩:=f.o2 j dss h';refine ⟨_,O.at_,?_⟩;have hp:∀ b∈a::as,∀ o,H b=some o->Hs' b=some o:=fun b hb o ho=>by rw [pos b (.inr ⟨j,dss,a,as,h',O,hb⟩)];exact ho
   refine .list (.of (hp a av _ O.ob)) ?_;have go:∀ {as':List aa}{dss':List (List D)},(∀ b∈as',b∈a::as)->wA K H Hs as' dss'->RDs K Hs' (as'.map V.ref) (dss'.map .list):=fun {as' dss'} hs hi=>by
    induction hi with
    |nil=>exact .nil
    |cons h1 h2 _ ih=>exact .cons (.list (.of (hp _ (hs _ av) _ h1)) (h2.same up)) (ih fun b hb=>hs b (am _ hb))
   exact go (fun b hb=>am _ hb) O.inn
  ·obtain ⟨v,k1,k2⟩:=f.sh j d h';exact ⟨v,k1,k2.same up⟩
 ·rcases un h with ⟨d',e,h'⟩|⟨d',e,h'⟩|⟨n,_,h'⟩
  ·cases e
  ·cases e
  ·exact (n d rfl).elim
 ·rcases un h with ⟨d',e,h'⟩|⟨d',e,h'⟩|⟨_,_,h'⟩
  ·cases e
  ·cases e
  ·obtain ⟨a,o,k1,k2,k3,k4,k5,k6⟩:=f.lk j d h';exact ⟨a,o,k1,k2,k3,by rw [neg a (none0 a o k5)];exact k4,k5,k6.same up⟩
 ·rcases un h1 with ⟨d',e,h'⟩|⟨d',e,h'⟩|⟨n,_,h'⟩
  ·cases e
  ·cases e
  ·exact (n d1 rfl).elim
 ·rcases un h with ⟨d',e,h'⟩|⟨d',e,h'⟩|⟨_,n,h'⟩
  ·cases e
  ·cases e
  ·exact (n d rfl).elim
 ·rcases un h1 with ⟨d',e,h'⟩|⟨d',e,h'⟩|⟨_,n,h'⟩
  ·cases e
  ·cases e
  ·exact (n d1 rfl).elim
theorem Fr.shared     (f:Fr K H0 Hs0 la ρ σ H Hs):∃ Hs',Fr K H0 Hs0 la (dR ρ) σ H Hs':=by
 obtain ⟨Hs',h|h⟩:=f.share
 ·exact ⟨Hs',h.1⟩
 ·exact ⟨Hs',h⟩
section
variable {c:C}{e a b:aO}{g ga gb:ak->R D}{pos:Pos}{x:Str}{st:dC}{bB:List dC}{gs gr:ak->R Fl}
def bj (g h:ak->R Fl):ak->R Fl:=fun ρ=>(g ρ).bind fun fl=>match fl with
 |.nx ρ'=>h ρ'
 |fl=>.ok fl
theorem dA:Cv c [] (fun ρ=>.ok (.nx ρ)):=.of fun ρ=>Re C1 fun D σ H h_1=>by obtain ⟨H0,Hs0,la,Hs,f,q⟩:=h_1;exact q σ H Hs f
theorem b6 (h:JS c st gs):Cv c [st] gs:=.of fun ρ=>xl (h ρ)
theorem aH (h:JS c st gs) (hr:Cv c bB gr):Cv c (st::bB) (bj gs gr):=.of fun ρ pins s σ H D I h_2=>by
 obtain ⟨H0,Hs0,la,Hs,f,q⟩:=h_2;unfold bj at q;cases hg:gs ρ with
 |no=>rw [hg] at q;exact q.elim
 |ex x n =>
  rw [hg] at q;refine il (h ρ) (l8 (X:=c.X) (sts:=bB)) pins s σ H D I ⟨H0,Hs0,la,Hs,f,?_⟩;rw [hg];exact q
 |ok fl =>
  rw [hg,bind_ok] at q;cases fl with
  |nx ρ' =>
   refine il (h ρ) (hr ρ') pins s σ H D I ⟨H0,Hs0,la,Hs,f,?_⟩;rw [hg];exact fun σ' H' Hs' f'=>⟨H0,Hs0,la,Hs',f',q⟩
  |rt d =>
   refine il (h ρ) (l8 (X:=c.X) (sts:=bB)) pins s σ H D I ⟨H0,Hs0,la,Hs,f,?_⟩;rw [hg];exact q
  |bk ρ' =>
   refine il (h ρ) (l8 (X:=c.X) (sts:=bB)) pins s σ H D I ⟨H0,Hs0,la,Hs,f,?_⟩;rw [hg];exact q
  |ct ρ' =>
   refine il (h ρ) (l8 (X:=c.X) (sts:=bB)) pins s σ H D I ⟨H0,Hs0,la,Hs,f,?_⟩;rw [hg];exact q
theorem sE            (f:Fr K H0 Hs0 la ρ σ H Hs)
  (h:lV K cls E H0 Hs0 la D' (r.bind k)) (m:∀ d v H' Hs',r=.ok d->cp H Hs H' Hs'->Fr K H0 Hs0 la ρ σ H' Hs'->RD K Hs' v d->Q v H'):TR K cls E ρ r σ H Q:=by
 refine ⟨H0,Hs0,la,Hs,f,?_⟩;cases r with
 |ok d=>exact fun v H' Hs' s r=>m d v H' Hs' rfl s (f.step s) r
 |ex c n=>exact fun H' Hs' s=>h H' Hs' (f.st.trans s)
 |no=>exact h
theorem sT            (f:Fr K H0 Hs0 la ρ σ H Hs)
  (h:lV K cls E H0 Hs0 la D' (r.bind k)) (m:∀ d H' Hs',r=.ok d->cp H Hs H' Hs'->Fr K H0 Hs0 la ρ σ H' Hs'->Q d H'):EU K cls E ρ r σ H Q:=by
 refine ⟨H0,Hs0,la,Hs,f,?_⟩;cases r with
 |ok d=>exact fun H' Hs' s=>m d H' Hs' rfl s (f.step s)
 |ex c n=>exact fun H' Hs' s=>h H' Hs' (f.st.trans s)
 |no=>exact h
def eA (g:ak->R D):ak->R Fl:=fun ρ=>(g (dR ρ)).bind fun d=>.ok (.rt d)
theorem c9 (h:JE c e g):JS c (.Return (some e) pos) (eA g):=.of fun ρ=>xE (AL (h (dR ρ))) fun D σ H h_3=>by
 obtain ⟨H0,Hs0,la,Hs,f,q⟩:=h_3;obtain ⟨Hs',f'⟩:=f.shared;refine sE f' q fun d v H1 Hs1 e1 s1 f1 r1=>?_;unfold eA at q;rw [e1,bind_ok] at q;exact q v H1 Hs1 f1.st r1
def fM (t:ak->R Bool) (g h:ak->R Fl):ak->R Fl:=fun ρ=>(t ρ).bind fun b=>if b then g ρ else h ρ
theorem gP    (ht:JT c t gt) (hA:Cv c A gA) (hB:Cv c B gB):JS c (.If t A B pos) (fM gt gA gB):=.of fun ρ=>xE (Lg (ht ρ) (hA ρ) (hB ρ)) fun D σ H h_5=>by
 obtain ⟨H0,Hs0,la,Hs,f,q⟩:=h_5;refine sT f q fun d H1 Hs1 e1 s1 f1=>?_;unfold fM at q;rw [e1,bind_ok] at q;cases d with
 |true=>exact yP ⟨H0,Hs0,la,Hs1,f1,q⟩
 |false=>exact vF ⟨H0,Hs0,la,Hs1,f1,q⟩
def i8 (i:Nat) (g:ak->R D):ak->R Fl:=fun ρ=>(g ρ).bind fun d=>.ok (.nx (ρ.set i (.shr d)))
theorem eT (i:Nat) (h:JE c e g) (hN:c.X.N.Nodup) (hi:c.X.N[i]?=some x:=by rfl) (hx:IK c.X.env.scope x:=by first|exact eP rfl|exact da rfl) (hs:gE e (some (.Name x pos')) pos.line c.X.env=pure false:=by rfl)
  (hf:c.X.fn x=true\/c.X.env.scope.names.lookup x=some .local:=by first|exact .inl rfl|exact .inr rfl|assumption):JS c (.Assign [.Name x pos'] e pos) (i8 i g):=.of fun ρ=>xE (xn hN hi hx (h ρ) hs hf) fun D σ H h_6=>by
 obtain ⟨H0,Hs0,la,Hs,f,q⟩:=h_6;refine sE f q fun d v H1 Hs1 e1 s1 f1 r1=>?_;unfold i8 at q;rw [e1,bind_ok] at q;exact q _ H1 Hs1 (f1.set i r1)
def RM (K:a5) (H0 Hs0:Hp) (la:Nat->Option aa) (H Hs:Hp) (Q:St->Hp->Prop) (r:R ak):Prop:=match r with
 |.ok ρ'=>∀ σ',Fr K H0 Hs0 la ρ' σ' H Hs->Q σ' H
 |_=>False
inductive P3 (K:a5) (ρ:ak) (d:D) (r:R ak) (v:V) (σ:St) (H:Hp) (Q:St->Hp->Prop):Prop
 |mk (H0 Hs0:Hp) (la:Nat->Option aa) (Hs:Hp) (f:Fr K H0 Hs0 la ρ σ H Hs) (rd:RD K Hs v d) (q:RM K H0 Hs0 la H Hs Q r):P3 K ρ d r v σ H Q
def Nu (K:a5) (ρ:ak) (d:D) (r:R ak):TG:=P3 K ρ d r
inductive LG (K:a5) (ρ:ak) (ds:List D) (r:R ak) (vs:List V) (σ:St) (H:Hp) (Q:St->Hp->Prop):Prop
 |mk (H0 Hs0:Hp) (la:Nat->Option aa) (Hs:Hp) (f:Fr K H0 Hs0 la ρ σ H Hs) (rd:RDs K Hs vs ds) (q:RM K H0 Hs0 la H Hs Q r):LG K ρ ds r vs σ H Q
def P4 (K:a5) (ρ:ak) (ds:List D) (r:R ak):AM:=LG K ρ ds r
structure JG (c:C) (t:aO) (k:D->ak->R ak):Prop where of ::
 run:∀ ρ d,PG c.X t (Nu c.X.K ρ d (k d ρ))
instance {c:C}{t:aO}{k:D->ak->R ak}:CoeFun (JG c t k) (fun _=>∀ ρ d,PG c.X t (Nu c.X.K ρ d (k d ρ))):=⟨JG.run⟩
structure Oa (c:C) (t:List aO) (k:List D->ak->R ak):Prop where of ::
 run:∀ ρ d,Fj c.X t (P4 c.X.K ρ d (k d ρ))
instance {c:C}{t:List aO}{k:List D->ak->R ak}:CoeFun (Oa c t k) (fun _=>∀ ρ d,Fj c.X t (P4 c.X.K ρ d (k d ρ))):=⟨Oa.run⟩
theorem RN   (h:PG X e t) (m:∀ v σ H Q,t' v σ H Q->t v σ H Q):PG X e t':=fun pins s σ H v u Q I r q=>h pins s σ H v u Q I r (m v σ H Q q)
theorem Rj {X:Cx}{e:List aO}{t t':AM} (h:Fj X e t) (m:∀ v σ H Q,t' v σ H Q->t v σ H Q):Fj X e t':=fun pins s σ H v u Q I r q=>h pins s σ H v u Q I r (m v σ H Q q)
def cD (i:Nat):D->ak->R ak:=fun d ρ=>.ok (ρ.set i (.shr d))
theorem d_ (i:Nat) (hN:c.X.N.Nodup) (hi:c.X.N[i]?=some x:=by rfl) (hx:IK c.X.env.scope x:=by first|exact eP rfl|exact da rfl) (hf:c.X.fn x=true\/c.X.env.scope.names.lookup x=some .local:=by first|exact .inl rfl|exact .inr rfl|assumption) :
  JG c (.Name x pos) (cD i):=.of fun ρ d=>RN (dH hN hi hx hf) fun v σ H Q h_11=>by obtain ⟨H0,Hs0,la,Hs,f,r,q⟩:=h_11;exact q _ (f.set i r)
def qo:List D->ak->R ak:=fun ds ρ=>match ds with
 |[]=>.ok ρ
 |_=>.no
def c_ (k:D->ak->R ak) (ks:List D->ak->R ak):List D->ak->R ak:=fun ds ρ=>match ds with
 |d::r=>(k d ρ).bind fun ρ'=>ks r ρ'
 |_=>.no
theorem qp:Oa c [] qo:=.of fun ρ ds=>Rj xm fun vs σ H Q h_12=>by
 obtain ⟨H0,Hs0,la,Hs,f,r,q⟩:=h_12;cases r with
 |nil=>exact ⟨rfl,q σ f⟩
 |cons _ _=>exact q.elim
theorem el (h:JG c t kt) (hr:Oa c ts kts) (hs:(de (t::ts) c.X.env).map (·.2)=lJ t c.X.env::(de ts c.X.env).map (·.2):=by rfl):Oa c (t::ts) (c_ kt kts):=.of fun ρ ds pins s σ H vs us Q I rv h_13=>by
 obtain ⟨H0,Hs0,la,Hs,f,r,q⟩:=h_13;cases r with
 |nil=>exact q.elim
 | @cons v vr d dr r1 r2 =>
  unfold c_ at q;cases hk:kt d ρ with
  |ok ρ' =>
   simp only [hk,bind_ok] at q;refine pU (h ρ d) (hr ρ' dr) hs pins s σ H _ us Q I rv ⟨v,vr,rfl,H0,Hs0,la,Hs,f,r1,?_⟩;rw [hk];exact fun σ' f'=>⟨H0,Hs0,la,Hs,f',r2,q⟩
  |ex x n=>simp only [hk,bind_ex] at q;exact q.elim
  |no=>simp only [hk,bind_no] at q;exact q.elim
def oA (n:Nat) (ks:List D->ak->R ak):D->ak->R ak:=fun d ρ=>match d with
 |.tuple ds=>if ds.length=n then ks ds ρ else .no
 |_=>.no
theorem uA (hc:c.X.calm=true) (h:Oa c ts kts) (hn:(de ts c.X.env).length=n:=by rfl) (hst:(de ts c.X.env).findIdx? (·.1)=none:=by rfl):JG c (.Tuple ts k pos) (oA n kts):=.of fun ρ d=>by
 cases d with
 |tuple ds =>
  refine RN (Fm hc (h ρ ds) hn hst) fun v σ H Q h_14=>?_;obtain ⟨H0,Hs0,la,Hs,f,r,q⟩:=h_14;cases r with
  | @tuple p xs _ hq rs =>
   unfold oA at q;by_cases hl:ds.length=n
   ·simp only [if_pos hl] at q;exact ⟨p,xs,rfl,(iF.of (f.st.sub _ _ hq)),by rw [rs.length];exact hl,H0,Hs0,la,Hs,f,rs,q⟩
   ·simp only [if_neg hl] at q;exact q.elim
 |_=>exact fun pins s σ H v u Q I rv h_15=>by obtain ⟨H0,Hs0,la,Hs,f,r,q⟩:=h_15;exact q.elim
def zi (g:ak->R D) (k:D->ak->R ak):ak->R Fl:=fun ρ=>(g ρ).bind fun d=>match k d ρ with
 |.ok ρ'=>.ok (.nx ρ')
 |_=>.no
theorem Bj (h:JE c e g) (hg:JG c t kt) (hs:Df [t] e pos.line c.X.env=pure false:=by rfl) (hw:Dg [t] e c.X.env=pure none:=by rfl) (h1:(de [t] c.X.env).map (·.2)=[lJ t c.X.env]:=by rfl) :
  JS c (.Assign [t] e pos) (zi g kt):=.of fun ρ=>by
 cases hr:g ρ with
 |ok d =>
  refine xE (AN (h ρ) (hg ρ d) hs hw h1) fun D σ H h_16=>?_;obtain ⟨H0,Hs0,la,Hs,f,q⟩:=h_16;refine sE (k:=fun d=>match kt d ρ with | .ok ρ'=>.ok (.nx ρ')|_=>.no) f q fun d' v H1 Hs1 e1 s1 f1 r1=>?_;rw [hr] at e1;cases e1;unfold zi at q;rw [hr,bind_ok] at q;refine ⟨H0,Hs0,la,Hs1,f1,r1,?_⟩;cases hk:kt d ρ with
  |ok ρ'=>rw [hk] at q;exact fun σ' f'=>q σ' H1 Hs1 f'
  |ex x n=>rw [hk] at q;exact q.elim
  |no=>rw [hk] at q;exact q.elim
 |ex x n =>
  refine xE (AN (h ρ) (hg ρ .none) hs hw h1) fun D σ H h_17=>?_;obtain ⟨H0,Hs0,la,Hs,f,q⟩:=h_17;refine sE (k:=fun _=>.no) (D':=D) f (by unfold zi at q;rw [hr] at q ⊢;exact q) fun d' v H1 Hs1 e1 s1 f1 r1=>?_;rw [hr] at e1;cases e1
 |no =>
  refine fun pins s σ H D I h_18=>?_;obtain ⟨H0,Hs0,la,Hs,f,q⟩:=h_18;unfold zi at q;rw [hr] at q;exact q.elim
end
end
section
def K7 (K:a5) (J:It) (ds:List D) (Hn Hs:Hp):Prop:=∀ H2 Hs2,cK Hn H2->cK Hs Hs2->cK Hs2 H2 ->
 (∀ i,i<ds.length->J.go i H2)/\(∀ i,ds.length<=i->J.stop i H2)/\∀ i x H3,i<ds.length->J.yld i H2 x H3->∃ d Hs3,ds[i]?=some d/\cp H2 Hs2 H3 Hs3/\RD K Hs3 x d
theorem xK     (h:k_ K Hn a vs) (r:RDs K Hs vs ds):K7 K (QG K a) ds Hn Hs:=fun H2 Hs2 e1 e2 e3=>by
 have q:=e1.seq h;refine ⟨fun i hi=>?_,fun i hi=>⟨vs,q,by rw [r.length];exact hi⟩,fun i x H3 hi y=>?_⟩
 ·have hi':i<vs.length:=by rw [r.length];exact hi
  exact ⟨vs,vs[i],q,bg hi'⟩
 ·obtain ⟨rfl,y⟩:=y;obtain ⟨d,k1,k2⟩:=r.get (y vs q);exact ⟨d,Hs2,k1,.refl e3,k2.same e2⟩
theorem Bk     (h:iF K Hn a vs) (r:RDs K Hs vs ds):K7 K (QH K a) ds Hn Hs:=fun H2 Hs2 e1 e2 e3=>by
 have q:=e1.tup h;refine ⟨fun i hi=>?_,fun i hi=>⟨vs,q,by rw [r.length];exact hi⟩,fun i x H3 hi y=>?_⟩
 ·have hi':i<vs.length:=by rw [r.length];exact hi
  exact ⟨vs,vs[i],q,bg hi'⟩
 ·obtain ⟨rfl,y⟩:=y;obtain ⟨d,k1,k2⟩:=r.get (y vs q);exact ⟨d,Hs2,k1,.refl e3,k2.same e2⟩
theorem Gu  (x:Str):K7 K (OK x) (jM x) Hn Hs:=fun H2 Hs2 e1 e2 e3=>by
 have hl:(jM x).length=x.cps.size:=by simp [jM]
 refine ⟨fun i hi=>by rw [hl] at hi;exact hi,fun i hi=>by rw [hl] at hi;exact hi,fun i v H3 hi y=>?_⟩;obtain ⟨rfl,c,k1,rfl⟩:=y;refine ⟨.str ⟨#[c]⟩,Hs2,?_,.refl e3,.str _⟩;unfold jM;rw [aE,dg,k1];rfl
def ni (lo:Int) (n:Nat):List D:=(bL n).map fun (k:Nat)=>ev (lo+k)
theorem Gv  (lo:Int) (n:Nat):K7 K (Qd lo n) (ni lo n) Hn Hs:=fun H2 Hs2 e1 e2 e3=>by
 have hl:(ni lo n).length=n:=by simp [ni]
 refine ⟨fun i hi=>by rw [hl] at hi;exact hi,fun i hi=>by rw [hl] at hi;exact hi,fun i v H3 hi y=>?_⟩;obtain ⟨rfl,rfl⟩:=y;refine ⟨.int (lo+i),Hs2,?_,.refl e3,.int _⟩;rw [hl] at hi;unfold ni;rw [aE,Dp hi];rfl
def mF (n:Nat):List D->List D
 |[]=>[]
 |d::r=>.tuple [.int n,d]::mF (n+1) r
theorem wE:∀ (ds:List D) (n i:Nat),(mF n ds)[i]?=(ds[i]?).map fun d=>cW [.int ((n+i:Nat):Int),d]
 |[],_,_=>by simp [mF]
 |d::r,n,0=>by simp [mF]
 |d::r,n,i+1=>by
  simp only [mF,eX];rw [wE r (n+1) i,show n+1+i=n+(i+1) by omega]
theorem wF:∀ (ds:List D) (n:Nat),(mF n ds).length=ds.length
 |[],_=>rfl
 |d::r,n=>by simp [mF,wF r]
theorem K8     (h:iF K Hn a vs) (r:RDs K Hs vs ds):K7 K (R6 K a) (mF 0 ds) Hn Hs:=fun H2 Hs2 e1 e2 e3=>by
 have q:=e1.tup h;have hl:=wF ds 0;refine ⟨fun i hi=>?_,fun i hi=>⟨vs,q,by rw [r.length];omega⟩,fun i x H3 hi y=>?_⟩
 ·have hi':i<vs.length:=by rw [r.length];omega
  exact ⟨vs,vs[i],q,bg hi'⟩
 ·obtain ⟨p,hp,rfl,y⟩:=y;obtain ⟨x,k0,rfl⟩:=y vs q;obtain ⟨d,k1,k2⟩:=r.get k0;have st:=cp.new (o:=.tup [.int i,x]) e3 hp;refine ⟨.tuple [.int i,d],_,?_,st,.tuple aK (.cons (.int _) (.cons ((k2.same e2).same st.sh) .nil))⟩;rw [wE,k1];simp
def rH:List D->List D->List D
 |x::xs,y::ys=>.tuple [x,y]::rH xs ys
 |_,_=>[]
theorem zj:∀ (xs ys:List D) (i:Nat) (x y:D),xs[i]?=some x->ys[i]?=some y->(rH xs ys)[i]?=some (.tuple [x,y])
 |x::xs,y::ys,0,_,_,h1,h2=>by simp at h1 h2;subst h1 h2;rfl
 |_::xs,_::ys,i+1,x,y,h1,h2=>by
  simp only [eX] at h1 h2;simp only [rH,eX];exact zj xs ys i x y h1 h2
 |[],_,_,_,_,h1,_=>by simp at h1
 |_::_,[],_,_,_,_,h2=>by simp at h2
theorem zk:∀ (xs ys:List D),(rH xs ys).length=min xs.length ys.length
 |x::xs,y::ys=>by simp [rH,zk xs ys]
 |[],_=>by simp [rH]
 |_::_,[]=>by simp [rH]
theorem Gw     (h:iF K Hn a vs) (r:RDs K Hs vs ds) (h':iF K Hn b ws) (r':RDs K Hs ws es):K7 K (R7 K a b) (rH ds es) Hn Hs:=fun H2 Hs2 e1 e2 e3=>by
 have q:=e1.tup h;have q':=e1.tup h';have hl:=zk ds es;refine ⟨fun i hi=>?_,fun i hi=>⟨vs,ws,q,q',by rw [r.length,r'.length];omega⟩,fun i x H3 hi y=>?_⟩
 ·have h1:i<vs.length:=by rw [r.length];omega
  have h2:i<ws.length:=by rw [r'.length];omega
  exact ⟨vs,ws,vs[i],ws[i],q,q',bg h1,bg h2⟩
 ·obtain ⟨p,hp,rfl,y⟩:=y;obtain ⟨x,z,k0,k0',rfl⟩:=y vs ws q q';obtain ⟨d,k1,k2⟩:=r.get k0;obtain ⟨d',k1',k2'⟩:=r'.get k0';have st:=cp.new (o:=.tup [x,z]) e3 hp;exact ⟨.tuple [d,d'],_,zj ds es i d d' k1 k1',st,.tuple aK (.cons ((k2.same e2).same st.sh) (.cons ((k2'.same e2).same st.sh) .nil))⟩
inductive P5 (K:a5) (cls:Str->aa) (E:XK) (ρ:ak) (r:R (List D)) (σ:St) (H:Hp) (Q:It->Hp->Prop):Prop
 |mk (H0 Hs0:Hp) (la:Nat->Option aa) (Hs:Hp) (f:Fr K H0 Hs0 la ρ σ H Hs) (q:Fin K cls E H Hs r fun ds=>∀ J H' Hs' Hn,cp H Hs H' Hs'->cK Hn H'->K7 K J ds Hn Hs'->Q J H'):P5 K cls E ρ r σ H Q
def Qo (K:a5) (cls:Str->aa) (E:XK) (ρ:ak) (r:R (List D)):TI:=P5 K cls E ρ r
inductive P6 (K:a5) (cls:Str->aa) (E:XK) (ρ:ak) (r:R (List D)) (σ:St) (H:Hp) (Q:It->Hp->Prop):Prop
 |mk (H0 Hs0:Hp) (la:Nat->Option aa) (Hs:Hp) (f:Fr K H0 Hs0 la ρ σ H Hs) (q:Fin K cls E H Hs r fun ds=>∀ J H' Hs',cp H Hs H' Hs'->K7 K J ds Hs' Hs'->Q J H'):P6 K cls E ρ r σ H Q
def RO (K:a5) (cls:Str->aa) (E:XK) (ρ:ak) (r:R (List D)):TI:=P6 K cls E ρ r
structure JI (c:C) (tg it:aO) (g:ak->R (List D)):Prop where of ::
 run:∀ ρ,PI c.X tg it (Qo c.X.K c.cls c.E ρ (g ρ))
instance {c:C}{tg it:aO}{g:ak->R (List D)}:CoeFun (JI c tg it g) (fun _=>∀ ρ,PI c.X tg it (Qo c.X.K c.cls c.E ρ (g ρ))):=⟨JI.run⟩
structure Gx (c:C) (tg it:aO) (g:ak->R (List D)):Prop where of ::
 run:∀ ρ,PI c.X tg it (RO c.X.K c.cls c.E ρ (g ρ))
instance {c:C}{tg it:aO}{g:ak->R (List D)}:CoeFun (Gx c tg it g) (fun _=>∀ ρ,PI c.X tg it (RO c.X.K c.cls c.E ρ (g ρ))):=⟨Gx.run⟩
theorem Cy   (h:PI X tg e t) (m:∀ σ H Q,t' σ H Q->t σ H Q):PI X tg e t':=fun pins s σ H Q I q=>h pins s σ H Q I (m σ H Q q)
section
def uB:D->R (List D)
 |.list ds=>.ok ds
 |.tuple ds=>.ok ds
 |.str x=>.ok (jM x)
 |_=>.no
def mG (g:ak->R D):ak->R (List D):=fun ρ=>(g ρ).bind uB
theorem ir (h:JB c l g):JI c tg l (mG g):=.of fun ρ=>by
 cases hr:g ρ with
 |no=>exact fun pins s σ H Q I h_0=>by obtain ⟨H0,Hs0,la,Hs,f,q⟩:=h_0;exact by unfold mG at q;rw [hr] at q;exact q.elim
 |ex x n =>
  refine Cy (pW (h ρ)) fun σ H Q h_1=>?_;obtain ⟨H0,Hs0,la,Hs,f,q⟩:=h_1;refine one f q fun d v H1 Hs1 e1 s1 f1 r1=>?_;rw [hr] at e1;cases e1
 |ok d =>
  cases d with
  |list ds =>
   refine Cy (pW (h ρ)) fun σ H Q h_2=>?_;obtain ⟨H0,Hs0,la,Hs,f,q⟩:=h_2;refine one f q fun d v H1 Hs1 e1 s1 f1 r1=>?_;rw [hr] at e1;cases e1;unfold mG at q;rw [hr,bind_ok] at q;obtain ⟨a,vs,rfl,qa,ra⟩:=r1.list f1.st.sub;exact ⟨a,rfl,⟨vs,qa⟩,q _ H1 Hs1 H1 s1 (.refl _) (xK qa ra)⟩
  |tuple ds =>
   refine Cy (AR (h ρ)) fun σ H Q h_3=>?_;obtain ⟨H0,Hs0,la,Hs,f,q⟩:=h_3;refine one f q fun d v H1 Hs1 e1 s1 f1 r1=>?_;rw [hr] at e1;cases e1;unfold mG at q;rw [hr,bind_ok] at q;obtain ⟨a,vs,rfl,qa,ra,_⟩:=r1.tuple f1.st.sub;exact ⟨a,rfl,⟨vs,qa⟩,q _ H1 Hs1 H1 s1 (.refl _) (Bk qa ra)⟩
  |str x =>
   refine Cy (FZ (h ρ)) fun σ H Q h_4=>?_;obtain ⟨H0,Hs0,la,Hs,f,q⟩:=h_4;refine one f q fun d v H1 Hs1 e1 s1 f1 r1=>?_;rw [hr] at e1;cases e1;unfold mG at q;rw [hr,bind_ok] at q;exact ⟨x,r1.str,q _ H1 Hs1 H1 s1 (.refl _) (Gu x)⟩
  |none=>exact fun pins s σ H Q I h_5=>by obtain ⟨H0,Hs0,la,Hs,f,q⟩:=h_5;exact by unfold mG at q;rw [hr] at q;exact q.elim
  |bool _=>exact fun pins s σ H Q I h_6=>by obtain ⟨H0,Hs0,la,Hs,f,q⟩:=h_6;exact by unfold mG at q;rw [hr] at q;exact q.elim
  |int _=>exact fun pins s σ H Q I h_7=>by obtain ⟨H0,Hs0,la,Hs,f,q⟩:=h_7;exact by unfold mG at q;rw [hr] at q;exact q.elim
  |dict _=>exact fun pins s σ H Q I h_8=>by obtain ⟨H0,Hs0,la,Hs,f,q⟩:=h_8;exact by unfold mG at q;rw [hr] at q;exact q.elim
theorem K9 (h:JE c l g):Gx c tg l (mG g):=.of fun ρ=>by
 cases hr:g ρ with
 |no=>exact fun pins s σ H Q I h_9=>by obtain ⟨H0,Hs0,la,Hs,f,q⟩:=h_9;exact by unfold mG at q;rw [hr] at q;exact q.elim
 |ex x n =>
  refine Cy (pW (h ρ)) fun σ H Q h_10=>?_;obtain ⟨H0,Hs0,la,Hs,f,q⟩:=h_10;refine rE f q fun d v H1 Hs1 e1 s1 f1 r1=>?_;rw [hr] at e1;cases e1
 |ok d =>
  cases d with
  |list ds =>
   refine Cy (pW (h ρ)) fun σ H Q h_11=>?_;obtain ⟨H0,Hs0,la,Hs,f,q⟩:=h_11;refine rE f q fun d v H1 Hs1 e1 s1 f1 r1=>?_;rw [hr] at e1;cases e1;unfold mG at q;rw [hr,bind_ok] at q;cases r1 with
   |list qa ra=>exact ⟨_,rfl,⟨_,f1.st.sub.seq qa⟩,q _ H1 Hs1 s1 (xK qa ra)⟩
  |tuple ds =>
   refine Cy (AR (h ρ)) fun σ H Q h_12=>?_;obtain ⟨H0,Hs0,la,Hs,f,q⟩:=h_12;refine rE f q fun d v H1 Hs1 e1 s1 f1 r1=>?_;rw [hr] at e1;cases e1;unfold mG at q;rw [hr,bind_ok] at q;cases r1 with
   |tuple qa ra=>exact ⟨_,rfl,⟨_,(iF.of (f1.st.sub _ _ qa))⟩,q _ H1 Hs1 s1 (Bk (.of qa) ra)⟩
  |str x =>
   refine Cy (FZ (h ρ)) fun σ H Q h_13=>?_;obtain ⟨H0,Hs0,la,Hs,f,q⟩:=h_13;refine rE f q fun d v H1 Hs1 e1 s1 f1 r1=>?_;rw [hr] at e1;cases e1;unfold mG at q;rw [hr,bind_ok] at q;cases r1 with
   |str _=>exact ⟨x,rfl,q _ H1 Hs1 s1 (Gu x)⟩
  |none=>exact fun pins s σ H Q I h_14=>by obtain ⟨H0,Hs0,la,Hs,f,q⟩:=h_14;exact by unfold mG at q;rw [hr] at q;exact q.elim
  |bool _=>exact fun pins s σ H Q I h_15=>by obtain ⟨H0,Hs0,la,Hs,f,q⟩:=h_15;exact by unfold mG at q;rw [hr] at q;exact q.elim
  |int _=>exact fun pins s σ H Q I h_16=>by obtain ⟨H0,Hs0,la,Hs,f,q⟩:=h_16;exact by unfold mG at q;rw [hr] at q;exact q.elim
  |dict _=>exact fun pins s σ H Q I h_17=>by obtain ⟨H0,Hs0,la,Hs,f,q⟩:=h_17;exact by unfold mG at q;rw [hr] at q;exact q.elim
theorem Gx.i (h:Gx c tg l gs):JI c tg l gs:=.of fun ρ=>Cy (h ρ) fun σ H Q ⟨H0,Hs0,la,Hs,f,q⟩=>⟨H0,Hs0,la,Hs,f,by
 cases hr:gs ρ with
 |ok ds=>rw [hr] at q;exact fun J H' Hs' s i=>q J H' Hs' Hs' s s.sub i
 |ex x n=>rw [hr] at q;exact q
 |no=>rw [hr] at q;exact q⟩
def Bl:List D->R (List D)
 |[.int j]=>if -(2 ^ 62)<=j/\j<2 ^ 62 then .ok (ni 0 j.toNat) else .no
 |_=>.no
def wG (gs:ak->R (List D)):ak->R (List D):=fun ρ=>(gs ρ).bind Bl
theorem oZ (hg:Gl c.X "range") (hm:c.X.mg "range"=none) (ha:Ly c [a] gs) (hs:ap [a] c.X.env=[(false,bQ a c.X.env)]:=by rfl):Gx c tg (.Call (.Name "range" p) [a] [] pos) (wG gs):=.of fun ρ=>Cy (Dz hg hm (ha ρ) hs) fun σ H Q h_18=>by
 obtain ⟨H0,Hs0,la,Hs,f,q⟩:=h_18;refine Gg f q fun ds vs H1 Hs1 e1 s1 f1 r1=>?_;unfold wG at q;rw [e1,bind_ok] at q;unfold Bl at q;split at q
 ·rename_i j
  by_cases hj:-(2 ^ 62)<=j/\j<2 ^ 62
  ·rw [if_pos hj] at q;obtain ⟨x,rfl,rx⟩:=r1.one;exact ⟨j,by rw [rx.int],hj.1,hj.2,q _ H1 Hs1 s1 (Gv 0 _)⟩
  ·rw [if_neg hj] at q;exact q.elim
 ·exact q.elim
def Qp:List D->R (List D)
 |[.tuple ds]=>.ok (mF 0 ds)
 |_=>.no
def Gy (gs:ak->R (List D)):ak->R (List D):=fun ρ=>(gs ρ).bind Qp
theorem RDs.one    (h:RDs K H xs [d]):∃ x,xs=[x]/\RD K H x d:=by
 cases h with|cons a t=>cases t;exact ⟨_,rfl,a⟩
theorem RDs.two {K:a5}{H:Hp}{xs:List V}{d e:D} (h:RDs K H xs [d,e]):∃ x y,xs=[x,y]/\RD K H x d/\RD K H y e:=by
 cases h with|cons a t=>cases t with|cons b t=>cases t;exact ⟨_,_,rfl,a,b⟩
theorem Gz {x1} (hg:Gl c.X "enumerate") (hm:c.X.mg "enumerate"=none) (ha:DU c [a] gs) (hs:ap [a] c.X.env=[(false,bQ a c.X.env)]:=by rfl):Gx c (.Tuple elts x1 tpos) (.Call (.Name "enumerate" p) [a] [] pos) (Gy gs):=.of fun ρ=>Cy (JP hg hm (ha ρ) hs) fun σ H Q h_20=>by
 obtain ⟨H0,Hs0,la,Hs,f,q⟩:=h_20;refine Bc f q fun ds vs H1 Hs1 e1 s1 f1 r1=>?_;unfold Gy at q;rw [e1,bind_ok] at q;unfold Qp at q;split at q
 ·obtain ⟨x,rfl,rx⟩:=r1.one;cases rx with
  |tuple qa ra=>exact ⟨_,_,rfl,(iF.of (f1.st.sub _ _ qa)),q _ H1 Hs1 s1 (K8 (.of qa) ra)⟩
 ·exact q.elim
def zp:List D->R (List D)
 |[.tuple ds,.tuple es]=>.ok (rH ds es)
 |_=>.no
def Ka (gs:ak->R (List D)):ak->R (List D):=fun ρ=>(gs ρ).bind zp
theorem Kb {x1} (hg:Gl c.X "zip") (hm:c.X.mg "zip"=none) (ha:DU c [a,b] gs) (hs:ap [a,b] c.X.env=[(false,bQ a c.X.env),(false,bQ b c.X.env)]:=by rfl) (hs2:ap [b] c.X.env=[(false,bQ b c.X.env)]:=by rfl) :
  Gx c (.Tuple elts x1 tpos) (.Call (.Name "zip" p) [a,b] [] pos) (Ka gs):=.of fun ρ=>Cy (G3 hg hm (ha ρ) hs hs2) fun σ H Q h_21=>by
 obtain ⟨H0,Hs0,la,Hs,f,q⟩:=h_21;refine Bc f q fun ds vs H1 Hs1 e1 s1 f1 r1=>?_;unfold Ka at q;rw [e1,bind_ok] at q;unfold zp at q;split at q
 ·obtain ⟨x,y,rfl,rx,ry⟩:=r1.two;cases rx with
  |tuple qa ra =>
   cases ry with
   |tuple qb rb=>exact ⟨_,_,_,_,rfl,(iF.of (f1.st.sub _ _ qa)),(iF.of (f1.st.sub _ _ qb)),q _ H1 Hs1 s1 (Gw (.of qa) ra (.of qb) rb)⟩
 ·exact q.elim
end
end
section
inductive RP (K:a5) (cls:Str->aa) (E:XK) (ρ:ak) (r:R D) (σ:St) (H:Hp) (Q:VK):Prop
 |mk (H0 Hs0:Hp) (la:Nat->Option aa) (Hs:Hp) (f:Fr K H0 Hs0 la ρ σ H Hs) (q:Fin K cls E H Hs r fun d=>∀ a o H' Hs',cp H Hs H' Hs'->H' a=none->k9 K Hs' o d->Q (.ref a) (upd H' a o)):RP K cls E ρ r σ H Q
def TN (K:a5) (cls:Str->aa) (E:XK) (ρ:ak) (r:R D):TE:=RP K cls E ρ r
structure JN (c:C) (e:aO) (g:ak->R D):Prop where of ::
 run:∀ ρ,PE c.X e (TN c.X.K c.cls c.E ρ (g ρ))
instance {c:C}{e:aO}{g:ak->R D}:CoeFun (JN c e g) (fun _=>∀ ρ,PE c.X e (TN c.X.K c.cls c.E ρ (g ρ))):=⟨JN.run⟩
section
variable {c:C}{e a b l tg:aO}{g ga gb:ak->R D}{pos p:Pos}{gs:ak->R (List D)}{es:List aO}{x:Str}
theorem Rk        (q:TR K cls E ρ r σ H Q):TN K cls E ρ r σ H Q:=by
 obtain ⟨H0,Hs0,la,Hs,f,q⟩:=q;refine ⟨H0,Hs0,la,Hs,f,?_⟩;cases r with
 |ok d=>exact fun a o H' Hs' s n r=>q _ _ _ (s.trans (.new s.sub n)) (r.share (s.sub.free n))
 |ex x n=>exact q
 |no=>exact q
theorem JN.je (h:JN c e g):JE c e g:=.of fun ρ=>nQ (h ρ) fun σ H Q q=>Rk q
theorem Bm (h:DU c es gs):JN c (.List es pos) (ej gs .list):=.of fun ρ=>nQ (kS (h ρ)) fun σ H Q h_0=>by
 obtain ⟨H0,Hs0,la,Hs,f,q⟩:=h_0;refine Bc f q fun ds vs H1 Hs1 e1 s1 f1 r1=>?_;unfold ej at q;rw [e1,bind_ok] at q;by_cases hl:ds.length<=1000
 ·rw [if_pos hl] at q;exact ⟨bd (c8 (by rw [r1.length];exact hl)),fun p hp=>q p _ H1 Hs1 s1 hp (.lst r1)⟩
 ·rw [if_neg hl] at q;exact q.elim
theorem Cz:JN c (.Dict [] [] pos) (fun _=>.ok (.dict [])):=.of fun ρ=>nQ FH fun σ H Q h_1=>by obtain ⟨H0,Hs0,la,Hs,f,q⟩:=h_1;exact fun p hp=>q p _ H Hs (.refl f.st.sub) hp (.dK .nil)
def ko (i:Nat) (g:ak->R D):ak->R Fl:=fun ρ=>(g ρ).bind fun d=>.ok (.nx (ρ.set i (.own d)))
theorem sN            (f:Fr K H0 Hs0 la ρ σ H Hs)
  (h:lV K cls E H0 Hs0 la D' (r.bind k)) (m:∀ d a o H' Hs',r=.ok d->Fr K H0 Hs0 la ρ σ H' Hs'->H' a=none->k9 K Hs' o d->Q (.ref a) (upd H' a o)):TN K cls E ρ r σ H Q:=by
 refine ⟨H0,Hs0,la,Hs,f,?_⟩;cases r with
 |ok d=>exact fun a o H' Hs' s n r=>m d a o H' Hs' rfl (f.step s) n r
 |ex c n=>exact fun H' Hs' s=>h H' Hs' (f.st.trans s)
 |no=>exact h
theorem qq (i:Nat) (h:JN c e g) (hN:c.X.N.Nodup) (hi:c.X.N[i]?=some x:=by rfl) (hx:IK c.X.env.scope x:=by first|exact eP rfl|exact da rfl) (hs:gE e (some (.Name x pos')) pos.line c.X.env=pure false:=by rfl)
  (hf:c.X.fn x=true\/c.X.env.scope.names.lookup x=some .local:=by first|exact .inl rfl|exact .inr rfl|assumption):JS c (.Assign [.Name x pos'] e pos) (ko i g):=.of fun ρ=>xE (xn hN hi hx (h ρ) hs hf) fun D σ H h_2=>by
 obtain ⟨H0,Hs0,la,Hs,f,q⟩:=h_2;refine sN f q fun d a o H1 Hs1 e1 f1 n1 r1=>?_;unfold ko at q;rw [e1,bind_ok] at q;exact q _ _ Hs1 (f1.setO i n1 r1)
def GA {α:Type}:R α->R α
 |.ex _ _=>.no
 |r=>r
theorem CA {α:Type}{r:R α}{a:α} (h:GA r=.ok a):r=.ok a:=by
 cases r<;>first|exact h|cases h
def fZ (f:D->R (Option D)):List D->R (List D)
 |[]=>.ok []
 |d::r=>(f d).bind fun o=>(fZ f r).bind fun ys=>.ok (match o with
  |some y=>y::ys
  |none=>ys)
theorem uC   (h:fZ f (d::r)=.ok ys):∃ o zs,f d=.ok o/\fZ f r=.ok zs/\ys=o.toList++zs:=by
 unfold fZ at h;cases hf:f d with
 |ok o =>
  rw [hf,bind_ok] at h;cases hm:fZ f r with
  |ok zs =>
   rw [hm,bind_ok] at h;cases h;cases o<;>exact ⟨_,zs,rfl,rfl,rfl⟩
  |ex x n=>rw [hm] at h;cases h
  |no=>rw [hm] at h;cases h
 |ex x n=>rw [hf] at h;cases h
 |no=>rw [hf] at h;cases h
def Kc:Sl->Sl
 |.own d=>.lck d
 |.ow2 _=>.no
 |s=>s
def lv (nt:Nat) (ix:List Nat) (ρ:ak):ak:=kc nt Sl.no++ix.map fun i=>Kc ((ρ[i]?).getD .no)
def P7 (nt:Nat):D->ak->R ak:=match nt with
 | 1=>cD 0
 | 2=>oA 2 (c_ (cD 0) (c_ (cD 1) qo))
 |_=>fun _ _=>.no
def gQ (nt:Nat) (ρ:ak) (gt:ak->R Bool) (ge:ak->R D):D->R (Option D):=fun d=>GA ((P7 nt d ρ).bind fun ρ'=>(gt ρ').bind fun b=>if b then (ge ρ').bind fun y=>.ok (some y) else .ok none)
def hW (nt:Nat) (ix:List Nat) (gi:ak->R (List D)) (gt:ak->R Bool) (ge:ak->R D):ak->R D:=fun ρ=>(gi ρ).bind fun ds=>if ds.length<=1000 then (fZ (gQ nt (lv nt ix ρ) gt ge) ds).bind fun ys=>.ok (.list ys) else .no
structure P8 (c:C) (ifs:List aO) (g:ak->R Bool):Prop where of ::
 run:∀ ρ,JC c.X ifs (EU c.X.K c.cls c.E ρ (g ρ))
instance {c:C}{ifs:List aO}{g:ak->R Bool}:CoeFun (P8 c ifs g) (fun _=>∀ ρ,JC c.X ifs (EU c.X.K c.cls c.E ρ (g ρ))):=⟨P8.run⟩
theorem fK:P8 c [] (fun _=>.ok true):=.of fun ρ pins s σ H Q I h_3=>by obtain ⟨H0,Hs0,la,Hs,f,q⟩:=h_3;exact JD pins s σ H Q I (q H Hs (.refl f.st.sub))
theorem CB (h:JT c e gt):P8 c [e] gt:=.of fun ρ=>JF (h ρ)
def E2 (K:a5) (nt:Nat):TG:=match nt with
 | 1=>sj 0
 |_=>MO K 2 (L2.af (sj 0) (L2.af (sj 1) L2.aQ))
theorem xL {K:a5}{nt:Nat} (h:nt=1\/nt=2):Nc nt (E2 K nt):=by
 rcases h with rfl|rfl
 ·exact FK (by decide)
 ·exact JJ (by decide) (by decide)
theorem zm {K:a5}{nt:Nat}{H0 Hs0 H Hs:Hp}{la:Nat->Option aa}{ρ ρ':ak}{σ:St}{v:V}{d:D}{Q:St->Hp->Prop} (hnt:nt=1\/nt=2) (f:Fr K H0 Hs0 la ρ σ H Hs) (r:RD K Hs v d) (hb:P7 nt d ρ=.ok ρ')
  (q:∀ σ',Fr K H0 Hs0 la ρ' σ' H Hs->Q σ' H):E2 K nt v σ H Q:=by
 rcases hnt with rfl|rfl
 ·cases hb;exact q _ (f.set 0 r)
 ·unfold P7 oA at hb;simp only at hb;cases r with
  | @tuple p xs ds hq rs =>
   simp only at hb;split at hb
   ·rename_i hl
    cases rs with
    |nil=>cases hl
    |cons r1 rs =>
     cases rs with
     |nil=>cases hl
     |cons r2 rs =>
      cases rs with
      |nil =>
       cases hb;exact ⟨p,_,rfl,(iF.of (f.st.sub _ _ hq)),rfl,_,_,rfl,_,_,rfl,rfl,q _ ((f.set 0 r1).set 1 r2)⟩
      |cons _ _=>simp at hl
   ·cases hb
  |none=>cases hb
  |bool _=>cases hb
  |int _=>cases hb
  |str _=>cases hb
  |list _ _=>cases hb
  |dictK _ _=>cases hb
  |dictT _ _ _=>cases hb
  |dictF _ _ _=>cases hb
theorem Fr.block     (f:Fr K H0 Hs0 la ρ σ H Hs) (nt:Nat) (ix:List Nat):∃ la',Fr K H Hs la' (lv nt ix ρ) (L2.jJ nt ix σ) H Hs:=by
 have lk:∀ (j:Nat) (d:D),(lv nt ix ρ)[j]?=some (Sl.lck d)->∃ a o,(L2.jJ nt ix σ)[j]?=some (some (V.ref a))/\H a=some o/\Hs a=none/\k9 K Hs o d:=fun j d h=>by
  unfold lv at h;by_cases hj:j<nt
  ·rw [bx (by simpa using hj),bu,if_pos hj] at h;cases h
  ·have hj:nt<=j:=by omega
   rw [aX (by simpa using hj),cm,aE] at h;cases hi:ix[j-nt]? with
   |none=>rw [hi] at h;cases h
   |some i =>
    rw [hi] at h;have at_:∀ v,σ[i]?=some (some v)->(L2.jJ nt ix σ)[j]?=some (some v):=fun v k1=>by
     unfold L2.jJ;rw [aX (by simpa using hj),cm,aE,hi];simp [k1]
    cases hr:ρ[i]? with
    |none=>simp only [cH,hr,eU,Kc] at h;cases h
    |some s =>
     simp only [cH,hr,j0] at h;cases s with
     |own d' =>
      cases h;obtain ⟨a,o,k1,k2,k3,k4,k5⟩:=f.ow i d hr;exact ⟨a,o,at_ _ k1,k2,k3,k5⟩
     |lck d' =>
      cases h;obtain ⟨a,o,k1,k2,k3,k4,k5,k6⟩:=f.lk i d hr;exact ⟨a,o,at_ _ k1,k3,k4,k6⟩
     |no=>cases h
     |shr _=>cases h
     |ow2 _=>cases h
 have no2:∀ (j:Nat) (d:List (List D)),¬ (lv nt ix ρ)[j]?=some (Sl.ow2 d):=fun j d h=>by
  unfold lv at h;by_cases hj:j<nt
  ·rw [bx (by simpa using hj),bu,if_pos hj] at h;cases h
  ·have hj:nt<=j:=by omega
   rw [aX (by simpa using hj),cm,aE] at h;cases hi:ix[j-nt]? with
   |none=>rw [hi] at h;cases h
   |some i =>
    rw [hi] at h;cases hr:ρ[i]? with
    |none=>simp only [cH,hr,eU,Kc] at h;cases h
    |some s =>
     simp only [cH,hr,j0] at h;cases s<;>cases h
 refine ⟨fun j=>match (lv nt ix ρ)[j]?,(L2.jJ nt ix σ)[j]? with
  |some (Sl.lck _),some (some (V.ref a))=>some a
  |_,_=>none,.refl f.st.sub,by simp [lv,L2.jJ],fun j d h=>?_,fun j d h=>?_,fun j d h=>?_,fun j k d1 d2 a h1 h2 _ _=>?_,fun j a h=>?_,fun j d h=>(no2 j d h).elim,fun j k d1 d2 h1 _=>(no2 j d1 h1).elim⟩
 case refine_3 =>
  obtain ⟨a,o,k1,k2,k3,k4⟩:=lk j d h;exact ⟨a,o,k1,by rw [h,k1],k2,k3,k2,k4⟩
 case refine_5 =>
  split at h
  ·rename_i d a' h1 h2
   cases h;obtain ⟨a',o,k1,k2,_⟩:=lk j d h1;rw [h2] at k1;cases k1;exact ⟨o,k2⟩
  ·cases h
 all_goals
  unfold lv at *
 ·have h:=h;by_cases hj:j<nt
  ·rw [bx (by simpa using hj),bu,if_pos hj] at h;cases h
  ·have hj:nt<=j:=by omega
   rw [aX (by simpa using hj),cm,aE] at h;cases hi:ix[j-nt]? with
   |none=>rw [hi] at h;cases h
   |some i =>
    rw [hi] at h;cases hr:ρ[i]? with
    |none=>simp only [cH,hr,eU,Kc] at h;cases h
    |some s =>
     simp only [cH,hr,j0] at h;cases s with
     |shr d' =>
      cases h;obtain ⟨v,k1,k2⟩:=f.sh i d hr;refine ⟨v,?_,k2⟩;unfold L2.jJ;rw [aX (by simpa using hj),cm,aE,hi];simp [k1]
     |no=>cases h
     |own _=>cases h
     |lck _=>cases h
     |ow2 _=>cases h
 ·have h:=h;by_cases hj:j<nt
  ·rw [bx (by simpa using hj),bu,if_pos hj] at h;cases h
  ·have hj:nt<=j:=by omega
   rw [aX (by simpa using hj),cm,aE] at h;cases hi:ix[j-nt]? with
   |none=>rw [hi] at h;cases h
   |some i =>
    rw [hi] at h;cases hr:ρ[i]? with
    |none=>simp only [cH,hr,eU,Kc] at h;cases h
    |some s =>
     simp only [cH,hr,j0] at h;cases s<;>cases h
 ·have h1:=h1;by_cases hj:j<nt
  ·rw [bx (by simpa using hj),bu,if_pos hj] at h1;cases h1
  ·have hj:nt<=j:=by omega
   rw [aX (by simpa using hj),cm,aE] at h1;cases hi:ix[j-nt]? with
   |none=>rw [hi] at h1;cases h1
   |some i =>
    rw [hi] at h1;cases hr:ρ[i]? with
    |none=>simp only [cH,hr,eU,Kc] at h1;cases h1
    |some s =>
     simp only [cH,hr,j0] at h1;cases s<;>cases h1
theorem uD (h:∀ d c n,f d≠.ex c n):∀ (ds:List D) (c:Str) (n:Option D),fZ f ds≠.ex c n
 |[],c,n=>fun e=>by cases e
 |d::r,c,n=>fun e=>by
  unfold fZ at e;cases hf:f d with
  |ok o =>
   rw [hf,bind_ok] at e;cases hm:fZ f r with
   |ok zs=>rw [hm,bind_ok] at e;cases e
   |ex x k=>exact uD h r x k hm
   |no=>rw [hm] at e;cases e
  |ex x k=>exact h d x k hf
  |no=>rw [hf] at e;cases e
theorem zo (nt:Nat) (ρ:ak) (gt:ak->R Bool) (ge:ak->R D) (d:D) (c:Str) (n:Option D):gQ nt ρ gt ge d≠.ex c n:=by
 unfold gQ GA;split<;>first|exact fun e=>by cases e|skip
 rename_i h
 exact fun e=>h c n e
inductive RQ (K:a5) (f:D->R (Option D)) (ds ys:List D) (H1 Hs1:Hp) (i m:Nat) (acc:List V) (H':Hp):Prop
 |mk (done bB zs ya Hs':_) (h0:ds=done++bB) (h1:done.length=i) (h2:bB.length=m) (h3:cp H1 Hs1 H' Hs') (h4:RDs K Hs' acc ya) (h5:ya.length<=i) (h6:fZ f bB=.ok zs) (h7:ys=ya++zs):RQ K f ds ys H1 Hs1 i m acc H'
theorem CC {K:a5}{cls:Str->aa}{E:XK}{nt:Nat}{ix:List Nat}{gi:ak->R (List D)}{gt:ak->R Bool}{ge:ak->R D}{ρ:ak}{σ:St}{H:Hp}{Q:VK} (hnt:nt=1\/nt=2)
  (q:TN K cls E ρ (hW nt ix gi gt ge ρ) σ H Q) :
  FI nt ix (Qo K cls E ρ (gi ρ)) (E2 K nt) (fun σ H Q=>∃ ρ',EU K cls E0 ρ' (gt ρ') σ H Q) (fun σ H Q=>∃ ρ',TR K cls E0 ρ' (ge ρ') σ H Q) σ H Q:=by
 obtain ⟨H0,Hs0,la,Hs,f,q⟩:=q;refine ⟨H0,Hs0,la,Hs,f,?_⟩;unfold hW at q;cases hi:gi ρ with
 |no=>rw [hi] at q;exact q
 |ex x n=>rw [hi] at q;exact q
 |ok ds =>
  rw [hi,bind_ok] at q;intro J H1 Hs1 Hn s1 sn it;by_cases hl:ds.length<=1000
  ·rw [if_pos hl] at q;cases hm:fZ (gQ nt (lv nt ix ρ) gt ge) ds with
   |no=>rw [hm] at q;exact q.elim
   |ex x n=>exact (uD (zo _ _ _ _) _ _ _ hm).elim
   |ok ys =>
    rw [hm,bind_ok] at q;obtain ⟨lb,fb⟩:=(f.step s1).block nt ix;refine ⟨RQ K (gQ nt (lv nt ix ρ) gt ge) ds ys H1 Hs1,
     ⟨ds.length,[],ds,ys,[],Hs1,rfl,rfl,rfl,.refl s1.sub,.nil,bV _,hm,rfl⟩,?_⟩
    rintro i m acc H' ⟨done,bB,zs,ya,Hs',hds,hdl,hrl,st,ra,yl,hz,hy⟩;obtain ⟨igo,istop,iyld⟩:=it H' Hs' (sn.trans st.all) st.sh st.sub;cases bB with
    |nil =>
     left;cases hz;rw [bW] at hds hy;subst hy hds;exact ⟨istop i (by omega),fun p hp=>q p _ H' Hs' (s1.trans st) hp (.lst ra)⟩
    |cons d bB =>
     right;have hil:i<ds.length:=by rw [hds,aY,aD];omega
     refine ⟨igo i hil,c8 (by rw [ra.length];omega),fun x H2 hyl=>?_⟩;obtain ⟨d',Hs2,hd,s2,r2⟩:=iyld i x H2 hil hyl;have hdd:d'=d:=by
      rw [hds,aX (by omega)] at hd;simp [hdl] at hd;exact hd.symm
     subst hdd;obtain ⟨o,zs',hf,hz',rfl⟩:=uC hz;have hf:=CA hf;cases hb:P7 nt d' (lv nt ix ρ) with
     |no=>rw [hb] at hf;cases hf
     |ex x n=>rw [hb] at hf;cases hf
     |ok ρ' =>
      rw [hb,bind_ok] at hf;refine zm hnt ((fb.step st).step s2) r2 hb fun σ2 f2=>⟨ρ',?_⟩;refine ⟨_,_,_,Hs2,f2,?_⟩;cases ht:gt ρ' with
      |no=>rw [ht] at hf;cases hf
      |ex x n=>rw [ht] at hf;cases hf
      |ok b =>
       rw [ht,bind_ok] at hf;intro H3 Hs3 s3;cases b with
       |false =>
        rw [if_neg aP] at hf;cases hf;refine vF ⟨bB.length,by rw [<- hrl];simp,done++[d'],bB,zs',ya,Hs3,by rw [hds];simp,by simp [hdl],rfl,(st.trans s2).trans s3,ra.same (s2.trans s3).sh,by omega,hz',by simpa using hy⟩
       |true =>
        rw [if_pos rfl] at hf;refine yP ⟨ρ',_,_,_,Hs3,f2.step s3,?_⟩;cases he:ge ρ' with
        |no=>rw [he] at hf;cases hf
        |ex x n=>rw [he] at hf;cases hf
        |ok y =>
         rw [he,bind_ok] at hf;cases hf;intro v H4 Hs4 s4 r4;exact ⟨bB.length,by rw [<- hrl];simp,done++[d'],bB,zs',ya++[y],Hs4,by rw [hds];simp,by simp [hdl],rfl,((st.trans s2).trans s3).trans s4,(ra.same ((s2.trans s3).trans s4).sh).append (.cons r4 .nil),by simp;omega,hz',by rw [hy];simp⟩
  ·rw [if_neg hl] at q;exact q.elim
def C.comp (c:C) (N':List Str) (scope:dO) (cl:List (Str×aa)) (A:aa) (s₀:a9) (H₀:Hp) (ex:List aa) (pn:List (aa×Obj)):C:=⟨cQ c.X N' scope cl A s₀ H₀ ex pn,c.cls,E0⟩
variable {elt iter:aO}{ifs:List aO}{scope:dO}{N':List Str}{nt:Nat}{ix:List Nat}{gi:ak->R (List D)}{gt:ak->R Bool}{ge:ak->R D}
def qr (c:C) (N':List Str) (scope:dO) (nt:Nat) (tg:aO) (ifs:List aO) (elt:aO) (gt:ak->R Bool) (ge:ak->R D):Prop :=
 ∀ cl A s₀ H₀ ex pn,PG (c.comp N' scope cl A s₀ H₀ ex pn).X tg (E2 c.X.K nt)/\P8 (c.comp N' scope cl A s₀ H₀ ex pn) ifs gt/\JE (c.comp N' scope cl A s₀ H₀ ex pn) elt ge
theorem qr.at (h:qr c N' scope nt tg ifs elt gt ge):∀ cl A s₀ H₀ ex pn,PG (cQ c.X N' scope cl A s₀ H₀ ex pn) tg (E2 c.X.K nt)/\JC (cQ c.X N' scope cl A s₀ H₀ ex pn) ifs (fun σ H Q=>∃ ρ',EU c.X.K c.cls E0 ρ' (gt ρ') σ H Q) /\
  PE (cQ c.X N' scope cl A s₀ H₀ ex pn) elt (fun σ H Q=>∃ ρ',TR c.X.K c.cls E0 ρ' (ge ρ') σ H Q):=fun cl A s₀ H₀ ex pn=>by
 obtain ⟨h1,h2,h3⟩:=h cl A s₀ H₀ ex pn;exact ⟨h1,fun pins s σ H Q I h_4=>by obtain ⟨ρ',q⟩:=h_4;exact h2 ρ' pins s σ H Q I q,fun pins s σ H Q I h_5=>by obtain ⟨ρ',q⟩:=h_5;exact h3 ρ' pins s σ H Q I q⟩
theorem iu (nt:Nat) (hnt:nt=1\/nt=2) (hc:c.X.calm=true) (S:lO c.X scope N' nt ix) (hi:JI c tg iter gi) (hb:qr c N' scope nt tg ifs elt gt ge) (hs:∀ x,df iter c.X.env x=pure x:=by intro _;rfl) :
  JN c (.ListComp elt [⟨tg,iter,ifs,0⟩] scope pos) (hW nt ix gi gt ge):=.of fun ρ=>nQ (yT hc S (xL hnt) (hi ρ) hb.at hs) fun σ H Q q=>CC hnt q
theorem lW (i:Nat) {spos py:Pos} (nt:Nat) (hnt:nt=1\/nt=2) (hN:c.X.N.Nodup) (hc:c.X.calm=true) (S:lO c.X scope N' nt ix) (hi:JI c tg iter gi) (hb:qr c N' scope nt tg ifs elt gt ge)
  (hiN:c.X.N[i]?=some x:=by rfl) (hy:c.X.env.scope.names.lookup x=some .local:=by rfl)
  (hsw:gE (.ListComp elt [⟨tg,iter,ifs,0⟩] scope pos) (some (.Name x py)) spos.line c.X.env=pure true:=by rfl)
  (hs:∀ x,df iter c.X.env x=pure x:=by intro _;rfl):JS c (.Assign [.Name x py] (.ListComp elt [⟨tg,iter,ifs,0⟩] scope pos) spos) (ko i (hW nt ix gi gt ge)):=.of fun ρ=>xE (B2 hN hiN hy hc S (xL hnt) (hi ρ) hb.at hsw hs) fun D σ H h_6=>by
 obtain ⟨H0,Hs0,la,Hs,f,q⟩:=h_6;refine CC (Q:=fun x H1=>D.nx (σ.set i (some x)) H1) hnt (sN f q fun d a o H1 Hs1 e1 f1 n1 r1=>?_);unfold ko at q;rw [e1,bind_ok] at q;exact q _ _ Hs1 (f1.setO i n1 r1)
end
end
section
theorem LH   (h:PS X.nox st t):PS X st t:=fun pins s σ H D I hw =>
 bR (h pins s σ H D (I.wish _) hw) (fun _ _ q=>q.unwish) fun _ _ z=>dn z
def C.nox (c:C):C:=⟨c.X.nox,c.cls,E0⟩
def iU (k:D->ak->R ak) (b:ak->R Fl):List D->ak->R Fl
 |[],ρ=>.ok (.nx ρ)
 |d::r,ρ=>match k d ρ with
  |.ok ρ1=>match b ρ1 with
   |.ok (.nx ρ')=>iU k b r ρ'
   |.ok (.ct ρ')=>iU k b r ρ'
   |.ok (.bk ρ')=>.ok (.nx ρ')
   |.ok (.rt d)=>.ok (.rt d)
   |_=>.no
  |_=>.no
def xM (i:Nat) (ρ:ak):ak:=match ρ[i]? with
 |some (Sl.own d)=>ρ.set i (.lck d)
 |_=>ρ
def uE (i:Nat) (ρ0 ρ:ak):ak:=match ρ0[i]?,ρ[i]? with
 |some (Sl.own _),some (Sl.lck d)=>ρ.set i (.own d)
 |_,_=>ρ
def S5 (i:Nat) (ρ0:ak):R Fl->R Fl
 |.ok (.nx ρ)=>.ok (.nx (uE i ρ0 ρ))
 |.ok (.bk ρ)=>.no
 |.ok (.ct ρ)=>.no
 |r=>r
section
inductive RS (K:a5) (cls:Str->aa) (E:XK) (H0 Hs0:Hp) (la:Nat->Option aa) (D':vD) (kt:D->ak->R ak) (gb:ak->R Fl) (ds:List D) (i m:Nat) (σ:St) (H:Hp):Prop
 |mk (done bB ρ Hs:_) (h0:ds=done++bB) (h1:done.length=i) (h2:bB.length=m) (h3:Fr K H0 Hs0 la ρ σ H Hs) (h4:lV K cls E H0 Hs0 la D' (iU kt gb bB ρ)):RS K cls E H0 Hs0 la D' kt gb ds i m σ H
theorem GB
  (it:K7 K J ds Hn Hs0) (hn:cK Hn H0) (f:Fr K H0 Hs0 la ρ σ H Hs)
  (htg:∀ ρ d v σ H Q,Nu K ρ d (kt d ρ) v σ H Q->tg v σ H Q) (htb:∀ ρ D σ H,SR K cls E0 ρ (gb ρ) D σ H->tb D σ H)
  (q:lV K cls E H0 Hs0 la D' (iU kt gb ds ρ)) :
  QJ tg tb D' σ J H:=by
 refine ⟨RS K cls E H0 Hs0 la D' kt gb ds,⟨ds.length,[],ds,ρ,Hs,rfl,rfl,rfl,f,q⟩,?_⟩;rintro i m σ H ⟨done,bB,ρ,Hs,hds,hdl,hrl,f,q⟩;obtain ⟨igo,istop,iyld⟩:=it H Hs (hn.trans f.st.all) f.st.sh f.st.sub;cases bB with
 |nil =>
  rw [bW] at hds;subst hds;exact .inl ⟨istop i (by omega),q σ H Hs f⟩
 |cons d bB =>
  have hil:i<ds.length:=by rw [hds,aY,aD];omega
  refine .inr ⟨igo i hil,fun σ' H'=>∃ ρ' Hs',Fr K H0 Hs0 la ρ' σ' H' Hs'/\lV K cls E H0 Hs0 la D' (iU kt gb bB ρ'),fun σ' H' ⟨ρ',Hs',f',q'⟩=>⟨bB.length,by rw [<- hrl];simp,done++[d],bB,ρ',Hs',by rw [hds];simp,by simp [hdl],rfl,f',q'⟩,fun x H2 hyl=>?_⟩;obtain ⟨d',Hs2,hd,s2,r2⟩:=iyld i x H2 hil hyl;have hdd:d'=d:=by
   rw [hds,aX (by omega)] at hd;simp [hdl] at hd;exact hd.symm
  subst hdd;unfold iU at q;refine htg ρ d' x σ H2 _ ⟨H0,Hs0,la,Hs2,f.step s2,r2,?_⟩;cases hk:kt d' ρ with
  |ex c n=>rw [hk] at q;exact q
  |no=>rw [hk] at q;exact q
  |ok ρ1 =>
   rw [hk] at q;intro σ2 f2;refine htb ρ1 _ σ2 H2 ⟨H0,Hs0,la,Hs2,f2,?_⟩;cases hg:gb ρ1 with
   |no=>simp only [hg] at q;exact q.elim
   |ex c n=>simp only [hg] at q;exact q.elim
   |ok fl =>
    simp only [hg] at q;cases fl with
    |nx ρ'=>exact fun σ' H' Hs' f'=>⟨ρ',Hs',f',q⟩
    |ct ρ'=>exact fun σ' H' Hs' f'=>⟨ρ',Hs',f',q⟩
    |bk ρ'=>exact fun σ' H' Hs' f'=>q σ' H' Hs' f'
    |rt d=>exact q
def mL (A B:Hp):Hp:=fun b=>match A b with
 |some o=>some o
 |none=>B b
theorem iw:cK A (mL A B):=fun b o e=>by unfold mL;rw [e]
theorem hX  (h:A b=none):mL A B b=B b:=by unfold mL;rw [h]
theorem zq (h1:cK A H) (h2:cK B H):cK (mL A B) H:=fun b o e=>by
 cases h:A b with
 |some u=>unfold mL at e;rw [h] at e;cases e;exact h1 b o h
 |none=>rw [hX h] at e;exact h2 b o e
theorem GC (h1:cK A H) (h2:cK B H):cK B (mL A B):=fun b o e=>by
 cases h:A b with
 |some u =>
  unfold mL;rw [h];have:=h1 b u h;rw [h2 b o e] at this;exact this.symm
 |none=>rw [hX h];exact e
theorem Fr.into    (f:Fr K H0 Hs0 la ρ σ H Hs):Fr K (mL H0 Hs) Hs la ρ σ H Hs:=by
 have sub:=zq f.st.all f.st.sub;refine ⟨⟨sub,.refl _,f.st.sub,fun a o e _ z=>z⟩,f.len,f.sh,fun i d h=>?_,fun i d h=>?_,f.dj,fun i a e=>let ⟨o,k⟩:=f.lh i a e;⟨o,iw _ _ k⟩,fun i d h=>?_,f.u2⟩
 ·obtain ⟨a,o,h1,h2,h3,h4,h5⟩:=f.ow i d h;exact ⟨a,o,h1,h2,h3,by rw [hX h4];exact h3,h5⟩
 ·obtain ⟨a,o,h1,h2,h3,h4,h5,h6⟩:=f.lk i d h;exact ⟨a,o,h1,h2,h3,h4,iw _ _ h5,h6⟩
 ·obtain ⟨a,as,O⟩:=f.o2 i d h;exact ⟨a,as,O.at_,O.ob,O.nd,fun b hb=>⟨(O.out b hb).1,by rw [hX (O.out b hb).2];exact (O.out b hb).1⟩,O.dj,O.inn⟩
theorem cp.outof (s:cp H0 Hs0 H1 Hs1) (t:cp (mL H0 Hs1) Hs1 H' Hs'):cp H0 Hs0 H' Hs' :=
 ⟨iw.trans t.all,s.sh.trans t.sh,t.sub,fun a o e n z=>t.out a o (iw _ _ e) n (s.out a o e n z)⟩
theorem Fr.outof    (f1:Fr K H0 Hs0 la ρ1 σ1 H1 Hs1) (f:Fr K (mL H0 Hs1) Hs1 la ρ σ H' Hs'):Fr K H0 Hs0 la ρ σ H' Hs':=by
 refine ⟨f1.st.outof f.st,f.len,f.sh,fun i d h=>?_,fun i d h=>?_,f.dj,f1.lh,fun i d h=>?_,f.u2⟩
 ·obtain ⟨a,o,h1,h2,h3,h4,h5⟩:=f.ow i d h;exact ⟨a,o,h1,h2,h3,iw.free h4,h5⟩
 ·obtain ⟨a,o,h1,h2,h3,h4,h5,h6⟩:=f.lk i d h;obtain ⟨o',e⟩:=f1.lh i a h2;have e':=iw (B:=Hs1) _ _ e;rw [h5] at e';cases e';exact ⟨a,o,h1,h2,h3,h4,e,h6⟩
 ·obtain ⟨a,as,O⟩:=f.o2 i d h;exact ⟨a,as,O.at_,O.ob,O.nd,fun b hb=>⟨(O.out b hb).1,iw.free (O.out b hb).2⟩,O.dj,O.inn⟩
end
end
section
section
theorem lV.into      (f1:Fr K H0 Hs0 la ρ1 σ1 H1 Hs1) (q:lV K cls E H0 Hs0 la D' r):lV K cls E (mL H0 Hs1) Hs1 la D' r:=by
 cases r with
 |no=>exact q
 |ex c n=>exact fun H' Hs' s=>q H' Hs' (f1.st.outof s)
 |ok fl =>
  cases fl with
  |nx ρ=>exact fun σ' H' Hs' f=>q σ' H' Hs' (f1.outof f)
  |bk ρ=>exact fun σ' H' Hs' f=>q σ' H' Hs' (f1.outof f)
  |ct ρ=>exact fun σ' H' Hs' f=>q σ' H' Hs' (f1.outof f)
  |rt d=>exact fun v H' Hs' s r=>q v H' Hs' (f1.st.outof s) r
theorem Fr.lock    (f:Fr K H0 Hs0 la ρ σ H Hs)    (hi:ρ[i]?=some (Sl.own d)) (k1:σ[i]?=some (some (V.ref a))) (k2:H a=some o) (k3:Hs a=none) (k4:H0 a=none) (k5:k9 K Hs o d) :
  Fr K (mL H0 (upd Hs a o)) Hs (fun j=>if j=i then some a else la j) (ρ.set i (.lck d)) σ H Hs:=by
 have hil:i<ρ.length:=(List.getElem?_eq_some_iff.mp hi).1;have sub:cK (upd Hs a o) H:=fun b u q=>by
  by_cases hb:b=a
  ·subst hb;rw [aK] at q;cases q;exact k2
  ·rw [aJ hb] at q;exact f.st.sub b u q
 have nx:∀ {j:Nat}{s:Sl},(∀ d,s≠.lck d)->(ρ.set i (.lck d))[j]?=some s->ρ[j]?=some s/\i≠j:=fun {j s} hs e=>by
  by_cases hj:i=j
  ·subst hj;rw [aw hil] at e;exact absurd (bh e).symm (hs d)
  ·rw [ag hj] at e;exact ⟨e,hj⟩
 refine ⟨⟨zq f.st.all sub,.refl _,f.st.sub,fun a o e _ z=>z⟩,by simp [f.len],fun j e h=>?_,fun j e h=>?_,fun j e h=>?_,fun j k d1 d2 b h1 h2 h3 h4=>?_,fun j b h=>?_,fun j e h=>?_,fun j k d1 d2 h1 h2=>?_⟩
 ·obtain ⟨h,_⟩:=nx (fun _ z=>by cases z) h;exact f.sh j e h
 ·obtain ⟨h,hj⟩:=nx (fun _ z=>by cases z) h;obtain ⟨b,u,q1,q2,q3,q4,q5⟩:=f.ow j e h;refine ⟨b,u,q1,q2,q3,?_,q5⟩;rw [hX q4,aJ (fun z=>hj ?_)]
  ·exact q3
  ·subst z;exact f.dj i j d e b hi h k1 q1
 ·by_cases hj:i=j
  ·subst hj;rw [aw hil] at h;cases h;exact ⟨a,o,k1,if_pos rfl,k2,k3,by rw [hX k4,aK],k5⟩
  ·rw [ag hj] at h;obtain ⟨b,u,q1,q2,q3,q4,q5,q6⟩:=f.lk j e h;exact ⟨b,u,q1,by rw [if_neg (dU hj)];exact q2,q3,q4,iw _ _ q5,q6⟩
 ·obtain ⟨h1,_⟩:=nx (fun _ z=>by cases z) h1;obtain ⟨h2,_⟩:=nx (fun _ z=>by cases z) h2;exact f.dj j k d1 d2 b h1 h2 h3 h4
 ·by_cases hj:j=i
  ·simp only [if_pos hj] at h;cases h;exact ⟨o,by rw [hX k4,aK]⟩
  ·simp only [if_neg hj] at h;obtain ⟨u,e⟩:=f.lh j b h;exact ⟨u,iw _ _ e⟩
 ·obtain ⟨h,hj⟩:=nx (fun _ z=>by cases z) h;obtain ⟨b,as,O⟩:=f.o2 j e h;refine ⟨b,as,O.at_,O.ob,O.nd,fun c hc=>⟨(O.out c hc).1,?_⟩,fun c hc k e' hk=>O.dj c hc k e' (nx (fun _ z=>by cases z) hk).1,O.inn⟩;rw [hX (O.out c hc).2,aJ (fun z=>?_)]
  ·exact (O.out c hc).1
  ·subst z;exact O.dj c hc i d hi k1
 ·exact f.u2 j k d1 d2 (nx (fun _ z=>by cases z) h1).1 (nx (fun _ z=>by cases z) h2).1
theorem cp.unlock   (s:cp H0 Hs0 H Hs) (t:cp (mL H0 (upd Hs a o)) Hs H' Hs'):cp H0 Hs0 H' Hs' :=
 ⟨iw.trans t.all,s.sh.trans t.sh,t.sub,fun b u e n z=>t.out b u (iw _ _ e) n (s.out b u e n z)⟩
theorem Fr.unlock    (f:Fr K H0 Hs0 la ρ σ H Hs)    (hi:ρ[i]?=some (Sl.own d)) (k4:H0 a=none)
  (f':Fr K (mL H0 (upd Hs a o)) Hs (fun j=>if j=i then some a else la j) ρ' σ' H' Hs'):Fr K H0 Hs0 la (uE i ρ ρ') σ' H' Hs':=by
 have st:=f.st.unlock f'.st;have own:∀ (j:Nat) (e:D),ρ'[j]?=some (Sl.own e)->∃ b u,σ'[j]?=some (some (V.ref b))/\H' b=some u/\Hs' b=none/\H0 b=none/\k9 K Hs' u e/\(mL H0 (upd Hs a o)) b=none:=fun j e h=>by
  obtain ⟨b,u,q1,q2,q3,q4,q5⟩:=f'.ow j e h;exact ⟨b,u,q1,q2,q3,iw.free q4,q5,q4⟩
 have lck:∀ (j:Nat) (e:D),j≠i->ρ'[j]?=some (Sl.lck e)->∃ b u,σ'[j]?=some (some (V.ref b))/\la j=some b/\H' b=some u/\Hs' b=none/\H0 b=some u/\k9 K Hs' u e:=fun j e hj h=>by
  obtain ⟨b,u,q1,q2,q3,q4,q5,q6⟩:=f'.lk j e h;simp only [if_neg hj] at q2;obtain ⟨u',e'⟩:=f.lh j b q2;have:=iw (B:=upd Hs a o) _ _ e';rw [q5] at this;cases this;exact ⟨b,u,q1,q2,q3,q4,e',q6⟩
 have two:∀ (j:Nat) (e:List (List D)),ρ'[j]?=some (Sl.ow2 e)->∃ b as,O2 K H0 H' Hs' ρ' σ' j e b as:=fun j e h=>by
  obtain ⟨b,as,O⟩:=f'.o2 j e h;exact ⟨b,as,O.at_,O.ob,O.nd,fun c hc=>⟨(O.out c hc).1,iw.free (O.out c hc).2⟩,O.dj,O.inn⟩
 unfold uE;cases hl:ρ'[i]? with
 |none =>
  simp only [hi];refine ⟨st,f'.len,f'.sh,fun j e h=>let ⟨b,u,q1,q2,q3,q4,q5,_⟩:=own j e h;⟨b,u,q1,q2,q3,q4,q5⟩,fun j e h=>lck j e (fun z=>by rw [z,hl] at h;cases h) h,f'.dj,f.lh,two,f'.u2⟩
 |some s =>
  cases s with
  |no=>simp only [hi];exact ⟨st,f'.len,f'.sh,fun j e h=>let ⟨b,u,q1,q2,q3,q4,q5,_⟩:=own j e h;⟨b,u,q1,q2,q3,q4,q5⟩,fun j e h=>lck j e (fun z=>by rw [z,hl] at h;cases h) h,f'.dj,f.lh,two,f'.u2⟩
  |shr _=>simp only [hi];exact ⟨st,f'.len,f'.sh,fun j e h=>let ⟨b,u,q1,q2,q3,q4,q5,_⟩:=own j e h;⟨b,u,q1,q2,q3,q4,q5⟩,fun j e h=>lck j e (fun z=>by rw [z,hl] at h;cases h) h,f'.dj,f.lh,two,f'.u2⟩
  |own _=>simp only [hi];exact ⟨st,f'.len,f'.sh,fun j e h=>let ⟨b,u,q1,q2,q3,q4,q5,_⟩:=own j e h;⟨b,u,q1,q2,q3,q4,q5⟩,fun j e h=>lck j e (fun z=>by rw [z,hl] at h;cases h) h,f'.dj,f.lh,two,f'.u2⟩
  |ow2 _=>simp only [hi];exact ⟨st,f'.len,f'.sh,fun j e h=>let ⟨b,u,q1,q2,q3,q4,q5,_⟩:=own j e h;⟨b,u,q1,q2,q3,q4,q5⟩,fun j e h=>lck j e (fun z=>by rw [z,hl] at h;cases h) h,f'.dj,f.lh,two,f'.u2⟩
  |lck d' =>
   simp only [hi];have hil:i<ρ'.length:=(List.getElem?_eq_some_iff.mp hl).1;have nx:∀ {j:Nat}{s:Sl},(∀ d,s≠.own d)->(ρ'.set i (.own d'))[j]?=some s->ρ'[j]?=some s/\i≠j:=fun {j s} hs e=>by
    by_cases hj:i=j
    ·subst hj;rw [aw hil] at e;exact absurd (bh e).symm (hs d')
    ·rw [ag hj] at e;exact ⟨e,hj⟩
   obtain ⟨b,u,q1,q2,q3,q4,q5,q6⟩:=f'.lk i d' hl;simp only [if_pos rfl] at q2;cases q2;have ne:∀ (j:Nat) (e:D),ρ'[j]?=some (Sl.own e)->σ'[j]?≠some (some (V.ref a)):=fun j e h z=>by
    obtain ⟨b,u,p1,_,_,_,_,p6⟩:=own j e h;rw [z] at p1;cases p1;rw [q5] at p6;cases p6
   refine ⟨st,by simp [f'.len],fun j e h=>?_,fun j e h=>?_,fun j e h=>?_,fun j k d1 d2 c h1 h2 h3 h4=>?_,f.lh,fun j e h=>?_,fun j k d1 d2 h1 h2=>?_⟩
   ·obtain ⟨h,_⟩:=nx (fun _ z=>by cases z) h;exact f'.sh j e h
   ·by_cases hj:i=j
    ·subst hj;rw [aw hil] at h;cases h;exact ⟨a,u,q1,q3,q4,k4,q6⟩
    ·rw [ag hj] at h;obtain ⟨b,u,p1,p2,p3,p4,p5,_⟩:=own j e h;exact ⟨b,u,p1,p2,p3,p4,p5⟩
   ·obtain ⟨h,hj⟩:=nx (fun _ z=>by cases z) h;exact lck j e (dU hj) h
   ·by_cases hj:i=j
    ·by_cases hk:i=k
     ·exact hj.symm.trans hk
     ·rw [ag hk] at h2;subst hj;rw [q1] at h3;cases h3;exact (ne k d2 h2 h4).elim
    ·rw [ag hj] at h1;by_cases hk:i=k
     ·subst hk;rw [q1] at h4;cases h4;exact (ne j d1 h1 h3).elim
     ·rw [ag hk] at h2;exact f'.dj j k d1 d2 c h1 h2 h3 h4
   ·obtain ⟨h,hj⟩:=nx (fun _ z=>by cases z) h;obtain ⟨b,as,O⟩:=two j e h;refine ⟨b,as,O.at_,O.ob,O.nd,O.out,fun c hc k e' hk=>?_,O.inn⟩;by_cases nk:i=k
    ·subst nk;intro z;rw [q1] at z;cases z;obtain ⟨b',as',O'⟩:=f'.o2 j e h;have hh:=O.at_;rw [O'.at_] at hh;cases hh;have hs:as'=as:=by
      have h1:=O.ob;rw [O'.ob] at h1;injection h1 with h1;injection h1 with h1;exact ES (fun x y z=>by cases z;rfl) |>.mp h1
     subst hs;have:=(O'.out _ hc).2;rw [q5] at this;cases this
    ·rw [ag nk] at hk;exact O.dj c hc k e' hk
   ·exact f'.u2 j k d1 d2 (nx (fun _ z=>by cases z) h1).1 (nx (fun _ z=>by cases z) h2).1
end
section
def rJ (gi:ak->R (List D)) (kt:D->ak->R ak) (gb:ak->R Fl):ak->R Fl:=fun ρ=>match gi ρ with
 |.ok ds=>iU kt gb ds ρ
 |_=>.no
theorem rK (hc:c.X.calm=true) (hi:Gx c.nox tg iter gi) (hg:JG c.nox tg kt) (hb:Cv c.nox body gbd) (hs:∀ x,df iter c.X.env x=pure x:=by intro _;rfl):JS c (.For tg iter body [] pos) (rJ gi kt gbd):=.of fun ρ=>by
 refine LH (xE (Fq B_ hc (hi ρ) (g:=fun v σ H Q=>∃ ρ d,Nu c.X.K ρ d (kt d ρ) v σ H Q) (tb:=fun D σ H=>∃ ρ,SR c.X.K c.cls E0 ρ (gbd ρ) D σ H) ?_ ?_ hs) fun D σ H ⟨H0,Hs0,la,Hs,f,q⟩=>?_)
 ·exact fun pins s σ H v u Q I r h_0=>by obtain ⟨ρ,d,q⟩:=h_0;exact hg ρ d pins s σ H v u Q I r q
 ·exact fun pins s σ H D I h_1=>by obtain ⟨ρ,q⟩:=h_1;exact hb ρ pins s σ H D I q
 ·refine ⟨H0,Hs0,la,Hs,f,?_⟩;unfold rJ at q;cases hr:gi ρ with
  |no=>rw [hr] at q;exact q
  |ex x n=>rw [hr] at q;exact q.elim
  |ok ds =>
   rw [hr] at q;intro J H1 Hs1 s1 it;have f1:=f.step s1;exact GB (E:=c.E) (cls:=c.cls) (kt:=kt) (gb:=gbd) (tg:=fun v σ H Q=>∃ ρ d,Nu c.X.K ρ d (kt d ρ) v σ H Q) (tb:=fun D σ H=>∃ ρ,SR c.X.K c.cls E0 ρ (gbd ρ) D σ H) it (GC f1.st.all f1.st.sub) f1.into (fun ρ d v σ H Q h=>⟨ρ,d,h⟩) (fun ρ D σ H h=>⟨ρ,h⟩) (lV.into f1 q)
def uF (i:Nat) (kt:D->ak->R ak) (gb:ak->R Fl):ak->R Fl:=fun ρ=>match ρ[i]? with
 |some (Sl.own (.list ds))=>S5 i ρ (iU kt gb ds (xM i ρ))
 |_=>rJ (mG fun ρ=>zd ρ i) kt gb ρ
theorem uG {kt:D->ak->R ak}{gb:ak->R Fl}:∀ (ds:List D) (ρ:ak) (fl:Fl),iU kt gb ds ρ=.ok fl->(∃ ρ',fl=.nx ρ')\/∃ d,fl=.rt d
 |[],ρ,fl,h=>by cases h;exact .inl ⟨_,rfl⟩
 |d::r,ρ,fl,h=>by
  unfold iU at h;split at h
  ·split at h
   ·exact uG r _ _ h
   ·exact uG r _ _ h
   ·cases h;exact .inl ⟨_,rfl⟩
   ·cases h;exact .inr ⟨_,rfl⟩
   ·cases h
  ·cases h
theorem xN {kt:D->ak->R ak}{gb:ak->R Fl}:∀ (ds:List D) (ρ:ak) (c:Str) (n:Option D),iU kt gb ds ρ≠.ex c n
 |[],ρ,c,n,h=>by cases h
 |d::r,ρ,c,n,h=>by
  unfold iU at h;split at h
  ·split at h
   ·exact xN r _ _ _ h
   ·exact xN r _ _ _ h
   ·cases h
   ·cases h
   ·cases h
  ·cases h
theorem Kd (i:Nat) (hc:c.X.calm=true) (hg:JG c.nox tg kt) (hb:Cv c.nox body gbd) (hN:c.X.N[i]?=some x:=by rfl) (hv:IJ c.X.env.scope x:=by first|exact eP rfl|exact da (eP rfl)|exact da (da rfl)) (hd:(x==("__debug__" : Str))=false:=by decide)
  (hcd:(x==("__classdict__" : Str))=false:=by decide) (hs:∀ y,df (.Name x p) c.X.env y=pure y:=by intro _;rfl):JS c (.For tg (.Name x p) body [] pos) (uF i kt gbd):=.of fun ρ=>by
 by_cases ho:∃ ds,ρ[i]?=some (Sl.own (.list ds))
 ·obtain ⟨ds,ho⟩:=ho;refine LH (xE (Fq (tg:=tg) B_ hc (pW (X:=c.nox.X) (lN hN hv hd hcd)) (g:=fun v σ H Q=>∃ ρ d,Nu c.X.K ρ d (kt d ρ) v σ H Q) (tb:=fun D σ H=>∃ ρ,SR c.X.K c.cls E0 ρ (gbd ρ) D σ H) ?_ ?_ hs) fun D σ H ⟨H0,Hs0,la,Hs,f,q⟩=>?_)
  ·exact fun pins s σ H v u Q I r h_2=>by obtain ⟨ρ,d,q⟩:=h_2;exact hg ρ d pins s σ H v u Q I r q
  ·exact fun pins s σ H D I h_3=>by obtain ⟨ρ,q⟩:=h_3;exact hb ρ pins s σ H D I q
  ·obtain ⟨a,o,k1,k2,k3,k4,k5⟩:=f.ow i _ ho;cases k5 with
   | @lst vs _ r =>
    refine ⟨_,k1,a,rfl,⟨_,.of k2⟩,?_⟩;have hn:k_ c.X.K (upd Hs a (.lst vs)) a vs:=.of aK;unfold uF at q;simp only [ho] at q;have fl:=f.lock ho k1 k2 k3 k4 (.lst r);have sub:cK (upd Hs a (.lst vs)) H:=fun b u q=>by
     by_cases hb:b=a
     ·subst hb;rw [aK] at q;cases q;exact k2
     ·rw [aJ hb] at q;exact f.st.sub b u q
    refine GB (E:=c.E) (cls:=c.cls) (kt:=kt) (gb:=gbd) (ρ:=xM i ρ) (Hs:=Hs) (la:=fun i'=>if i'=i then some a else la i') (tg:=fun v σ H Q=>∃ ρ d,Nu c.X.K ρ d (kt d ρ) v σ H Q) (tb:=fun D σ H=>∃ ρ,SR c.X.K c.cls E0 ρ (gbd ρ) D σ H) (xK hn r) (GC f.st.all sub) ?_ (fun ρ d v σ H Q h=>⟨ρ,d,h⟩) (fun ρ D σ H h=>⟨ρ,h⟩) ?_
    ·unfold xM;rw [ho];exact fl
    ·cases hr:iU kt gbd ds (xM i ρ) with
     |no=>rw [hr] at q;exact q
     |ex c n=>exact (xN _ _ _ _ hr).elim
     |ok fl =>
      rw [hr] at q;rcases uG _ _ _ hr with ⟨ρ',rfl⟩|⟨d,rfl⟩
      ·exact fun σ' H' Hs' f'=>q σ' H' Hs' (f.unlock ho k4 f')
      ·exact fun v H' Hs' s r=>q v H' Hs' (f.st.unlock s) r
 ·have e:uF i kt gbd ρ=rJ (mG fun ρ=>zd ρ i) kt gbd ρ:=by
   unfold uF;split
   ·rename_i ds h;exact (ho ⟨ds,h⟩).elim
   ·rfl
  rw [e];exact rK hc (K9 (c:=c.nox) (aq (c:=c.nox) i hN hv hd hcd)) hg hb hs ρ
end
end
section
section
def Bo (i:Nat) (g:ak->R D):ak->R Fl:=fun ρ=>match ρ[i]? with
 |some (Sl.own (.list ds))=>(g ρ).bind fun d=>if ds.length<1000 then .ok (.nx (ρ.set i (.own (.list (ds++[d]))))) else .no
 |_=>.no
theorem E3 (i:Nat) (h:JE c e g) (hN:c.X.N[i]?=some x:=by rfl) (hv:IJ c.X.env.scope x:=by first|exact eP rfl|exact da (eP rfl)|exact da (da rfl)) (hd:(x==("__debug__" : Str))=false:=by decide)
  (hcd:(x==("__classdict__" : Str))=false:=by decide)
  (hbase:eE (.Name x p) "append" c.X.env (bQ (.Name x p) c.X.env)=bQ (.Name x p) c.X.env:=by rfl)
  (hfew:((eR cpos (ap [e] c.X.env)).all (fun x=>!x.1)&&(IR cpos (yt [] c.X.env)).all (fun x=>x.1.isSome)
   && decide ([e].length+([] : List oQ).length+(if ([] : List oQ).isEmpty then 0 else 1)<30))=true:=by rfl)
  (hline:(apos.endLine==cpos.line)=true:=by rfl) (hst:ap [e] c.X.env=(false,bQ e c.X.env)::ap [] c.X.env:=by rfl) (hplain:(eR cpos (ap [] c.X.env)).any (·.1)=false:=by rfl)
  (hs:gE (.Call (.Attribute (.Name x p) "append" apos) [e] [] cpos) none pos.line c.X.env=pure false:=by rfl) :
  JS c (.Expr (.Call (.Attribute (.Name x p) "append" apos) [e] [] cpos) pos) (Bo i g):=.of fun ρ=>by
 refine xE (pT (ue cP vy vz wp (lN hN hv hd hcd) (bC (h ρ) dD hst) hbase hfew hline hst hplain) hs) fun D σ H h_0=>?_;obtain ⟨H0,Hs0,la,Hs,f,q⟩:=h_0;replace q:lV c.X.K c.cls c.E H0 Hs0 la D (Bo i g ρ):=q;unfold Bo at q;split at q
 ·rename_i ds ho
  obtain ⟨a,o,k1,k2,k3,k4,k5⟩:=f.ow i _ ho;cases k5 with
  | @lst vs _ r =>
   refine ⟨_,k1,.inl ⟨rfl,_,.of k2⟩,?_⟩;refine sE f q fun d v H1 Hs1 e1 s1 f1 r1=>?_;rw [e1,bind_ok] at q;by_cases hl:ds.length<1000
   ·rw [if_pos hl] at q;have r':=r.same s1.sh;exact ⟨a,vs,v,rfl,rfl,s1.all _ _ k2,c8 (by rw [r.length];omega),q _ _ Hs1 (f1.write i ho k1 (.lst (r'.append (.cons r1 .nil))))⟩
   ·rw [if_neg hl] at q;exact q.elim
 ·exact q.elim
def sx:D->Option fe
 |.int i=>some (.inl i)
 |.str x=>some (.inr x)
 |_=>none
theorem zr  (h:sx d=some y):d=kD y:=by
 cases d<;>cases h<;>rfl
def E4 (kvs:List (D×D)) (k d:D):List (D×D):=if kvs.any (fun kv=>bn kv.1 k) then kvs.map (fun kv=>if bn kv.1 k then (kv.1,d) else kv) else kvs++[(k,d)]
theorem Bp (a b:fe):bn (kD a) (kD b)=decide (a=b):=by
 cases a<;>cases b<;>simp [kD,bn,nM]
theorem RDk.any   (y:fe):∀ {ds:List (D×D)},RDk K H kvs ds->(ds.any fun kv=>bn kv.1 (kD y))=kvs.any fun kv=>decide (kv.1=y):=by
 induction kvs with
 |nil=>intro ds h;cases h;rfl
 |cons x r ih=>intro ds h;cases h with|cons h t=>rw [eg,eg,ih t,Bp]
theorem RDk.repl  (y:fe)  (rv:RD K H v d):∀ {kvs:List (fe×V)}{ds:List (D×D)},RDk K H kvs ds ->
  RDk K H (kvs.map fun kv=>if kv.1=y then (kv.1,v) else kv) (ds.map fun kv=>if bn kv.1 (kD y) then (kv.1,d) else kv)
 |_,_,.nil=>.nil
 |_,_,.cons (k:=k) h t=>by
  rw [al,al];have e:=Bp k y;by_cases hk:k=y
  ·subst hk;rw [show (if k=k then (k,v) else (k,_))=(k,v) from if_pos rfl,show (if bn (kD k) (kD k)=true then (kD k,d) else (kD k,_))=(kD k,d) from if_pos (by rw [e];simp)];exact .cons rv (RDk.repl k rv t)
  ·simp only [e,hk,if_neg,decide_false,bw,not_false_eq_true];exact .cons h (RDk.repl y rv t)
theorem RDk.snoc  (y:fe)  (rv:RD K H v d):∀ {kvs:List (fe×V)}{ds:List (D×D)},RDk K H kvs ds->RDk K H (kvs++[(y,v)]) (ds++[(kD y,d)])
 |_,_,.nil=>.cons rv .nil
 |_,_,.cons h t=>.cons h (RDk.snoc y rv t)
theorem RDk.put    (r:RDk K H kvs ds) (y:fe)  (rv:RD K H v d):RDk K H (rm kvs y v) (E4 ds (kD y) d):=by
 unfold rm E4;rw [r.any y];split
 ·exact r.repl y rv
 ·exact r.snoc y rv
def fm (kvs:List (D×D)):Bool:=kvs.all fun kv=>(sx kv.1).isSome
def xO (i:Nat) (gk g:ak->R D):ak->R Fl:=fun ρ=>match ρ[i]? with
 |some (Sl.own (.dict kvs))=>(g ρ).bind fun d=>(gk ρ).bind fun k=>match sx k with
  |some _=>if kvs.length<1000/\fm kvs=true then .ok (.nx (ρ.set i (.own (.dict (E4 kvs k d))))) else .no
  |none=>.no
 |_=>.no
theorem GD    (h:RD K H v (kD y)):v=kV y:=by
 cases y<;>cases h<;>rfl
theorem RDt.flat    (h:RDt K H kvs ds) (f:fm ds=true):kvs=[]/\ds=[]:=by
 cases h with
 |nil=>exact ⟨rfl,rfl⟩
 |cons h t=>simp [fm,tD,sx] at f
theorem CD (i:Nat) (h:JE c e g) (hk:JE c k gk) (hu:c.X.A.units+1<oq) (hN:c.X.N[i]?=some x:=by rfl) (hv:IJ c.X.env.scope x:=by first|exact eP rfl|exact da (eP rfl)|exact da (da rfl)) (hd:(x==("__debug__" : Str))=false:=by decide)
  (hcd:(x==("__classdict__" : Str))=false:=by decide) (hs:gE e (some (.Subscript (.Name x p) k apos)) pos.line c.X.env=pure false:=by rfl):JS c (.Assign [.Subscript (.Name x p) k apos] e pos) (xO i gk g):=.of fun ρ=>by
 refine xE (JA hu (lN hN hv hd hcd) (hk ρ) (h ρ) hs) fun D σ H h_1=>?_
 obtain ⟨H0,Hs0,la,Hs,f,q⟩:=h_1
 replace q:lV c.X.K c.cls c.E H0 Hs0 la D (xO i gk g ρ):=q
 unfold xO at q
 split at q
 ·rename_i kvs ho
  obtain ⟨a,o,k1,k2,k3,k4,k5⟩:=f.ow i _ ho
  have main:∀ {H:Hp}{vs:List (fe×V)},Fr c.X.K H0 Hs0 la ρ σ H Hs->H a=some (.dK vs)->RDk c.X.K Hs vs kvs->Lo (Dx i) (TR c.X.K c.cls c.E ρ (gk ρ)) (TR c.X.K c.cls c.E ρ (g ρ)) D σ H:=fun {H vs} f k2 r=>by
   refine sE f q fun d v H1 Hs1 e1 s1 f1 r1=>?_
   rw [e1,bind_ok] at q
   refine ⟨_,k1,sE f1 q fun y w H2 Hs2 e2 s2 f2 r2=>?_⟩
   rw [e2,bind_ok] at q
   split at q
   ·rename_i ky hy
    obtain rfl:=zr hy
    by_cases hl:kvs.length<1000/\fm kvs=true
    ·rw [if_pos hl] at q
     have ha:=s2.all _ _ (s1.all _ _ k2)
     have r':=(r.same s1.sh).same s2.sh
     rw [GD r2]
     exact ⟨a,_,rfl,FF.k ha (c8 (by rw [r.length];omega)),q _ _ Hs2 (f2.write i ho k1 (.dK (r'.put ky (r1.same s2.sh))))⟩
    ·rw [if_neg hl] at q;exact q.elim
   ·exact q.elim
  cases k5 with
  |dK r=>exact main f k2 r
  |dT n r =>
   refine sE f q fun d v H1 Hs1 e1 s1 f1 r1=>?_
   rw [e1,bind_ok] at q
   refine ⟨_,k1,sE f1 q fun y w H2 Hs2 e2 s2 f2 r2=>?_⟩
   rw [e2,bind_ok] at q
   split at q
   ·rw [if_neg (fun z=>n (r.flat z.2).1)] at q;exact q.elim
   ·exact q.elim
  |dF n r =>
   refine sE f q fun d v H1 Hs1 e1 s1 f1 r1=>?_
   rw [e1,bind_ok] at q
   refine ⟨_,k1,sE f1 q fun y w H2 Hs2 e2 s2 f2 r2=>?_⟩
   rw [e2,bind_ok] at q
   split at q
   ·rw [if_neg (fun z=>by cases z.2)] at q;exact q.elim
   ·exact q.elim
 ·exact q.elim
def qu (kvs:List (D×D)) (k:D):Option D:=(kvs.find? fun kv=>bn kv.1 k).map (·.2)
theorem RDk.val  : ∀ {kvs:List (fe×V)}{ds:List (D×D)},RDk K H kvs ds->∀ (y:fe),(q9 kvs y=none/\qu ds (kD y)=none)\/∃ v d,q9 kvs y=some v/\qu ds (kD y)=some d/\RD K H v d
 |_,_,.nil,y=>.inl ⟨rfl,rfl⟩
 |_,_,.cons (k:=k) h t,y=>by
  unfold q9 qu;rw [db,db,Bp];by_cases hk:k=y
  ·simp only [hk,decide_true,cH];exact .inr ⟨_,_,rfl,rfl,h⟩
  ·simp only [hk,decide_false];exact RDk.val t y
def bG:D->D->R D
 |.dict kvs,k=>match sx k with
  |some _=>if fm kvs=true then (match qu kvs k with
   |some d=>.ok d
   |none=>.no) else .no
  |none=>.no
 |x,k=>DY x k
theorem dJ (hu:c.X.A.units+1<oq) (ha:JB c a ga) (hb:JB c b gb) (hs:tH b:=by exact fun _ _=>rfl):JE c (.Subscript a b pos) (g2 ga gb bG):=.of fun ρ=>by
 by_cases hx:∃ kvs,ga ρ=.ok (.dict kvs)
 ·obtain ⟨kvs,hx⟩:=hx;refine nQ (Jz hu (ha ρ) (hb ρ) hs) fun σ H Q h_2=>?_;obtain ⟨H0,Hs0,la,Hs,f,q⟩:=h_2;refine one f q fun d v H1 Hs1 e1 s1 f1 r1=>?_;rw [hx] at e1;cases e1;unfold g2 at q;rw [hx,bind_ok] at q;refine one f1 (q.on s1 (q':=fun _=>True) fun _ _=>trivial) fun y w H2 Hs2 e2 s2 f2 r2=>?_;rw [e2,bind_ok] at q;unfold bG at q;simp only at q;split at q
  ·rename_i ky hy
   obtain rfl:=zr hy;by_cases hf:fm kvs=true
   ·rw [if_pos hf] at q;obtain ⟨p,rfl,h⟩:=(r1.step s2).dict f2.st.sub;have rk:w=kV ky:=by
     rcases r2 with r2|⟨_,o,rfl,_,_,ow⟩
     ·exact GD r2
     ·cases ky<;>cases ow
    subst rk;rcases h with ⟨vs,h1,h2⟩|⟨vs,h1,hn,h2⟩|⟨o,vs,es,rfl,h1,hn,h2⟩
    ·rcases h2.val ky with ⟨_,h3⟩|⟨u,d,h3,h4,h5⟩
     ·rw [h3] at q;exact q.elim
     ·rw [h4] at q;exact ⟨p,u,rfl,by rw [<- h3];exact A_.k h1,q _ H2 Hs2 (s1.trans s2) h5⟩
    ·exact (hn (h2.flat hf).1).elim
    ·cases hf
   ·rw [if_neg hf] at q;exact q.elim
  ·exact q.elim
 ·refine nQ (P0 ha hb hs ρ) fun σ H Q q=>?_;have e:g2 ga gb bG ρ=g2 ga gb DY ρ:=by
   unfold g2;cases hr:ga ρ with
   |ok d =>
    cases d with
    |dict kvs=>exact (hx ⟨kvs,hr⟩).elim
    |_=>rfl
   |_=>rfl
  rw [e] at q;exact q
def kq:D->R D
 |.dict kvs=>if fm kvs=true then .ok (.list (kvs.map (·.1))) else .no
 |x=>wD x
theorem zt  : ∀ {kvs:List (fe×V)}{ds:List (D×D)},RDk K H kvs ds->RDs K H (kvs.map fun p=>kV p.1) (ds.map (·.1))
 |_,_,.nil=>.nil
 |_,_,.cons (k:=k) h t=>.cons (by cases k<;>constructor) (zt t)
theorem zu (hc:X.calm=true):Gs X (.type "list") (jm kq):=by
 refine rF (fun d c n=>?_) fun pins s σ H x u Q Hs d d' I ru sub rx hd q=>?_
 ·unfold kq wD;split<;>(try split)<;>(try split)<;>exact fun h=>by cases h
 ·by_cases hx:∃ kvs,d=.dict kvs
  ·obtain ⟨kvs,rfl⟩:=hx;unfold kq at hd;simp only at hd;split at hd
   ·rename_i hf
    cases hd;obtain ⟨a,rfl,⟨vs,h1,h2⟩|⟨vs,h1,n,h2⟩|⟨o,vs,es,rfl,h1,n,h2⟩⟩:=rx.dict sub
    ·exact uu hc pins s σ H _ _ Q I (.cons ru .nil) ⟨a,vs,rfl,h1,fun l hl=>q _ _ _ (.new sub hl) (.list (.of aK) ((zt h2).same (cp.new sub hl).sh))⟩
    ·exact (n (h2.flat hf).1).elim
    ·cases hf
   ·cases hd
  ·have e:kq d=wD d:=by
    cases d with
    |dict kvs=>exact (hx ⟨kvs,rfl⟩).elim
    |_=>rfl
   rw [e] at hd;exact (K5 (X:=X)).1 pins s σ H [x] [u] Q I (.cons ru .nil) ⟨Hs,[d],sub,.cons rx .nil,d',hd,q⟩
end
end
section
open PyProof.Rows (envOfC)
section
variable {c:C}{e a b d:aO}{g ga gb gc:ak->R D}{pos p cpos:Pos}{x:Str}
theorem GE        (hx:∀ x y c n,h x y≠.ex c n) (hx':∀ x y c n,h' x y≠.ex c n) (q:TR K cls E ρ (n8 ga gb gc h h' ρ) σ H Q) :
  AT (rD K h) (rD K h') (TB K cls E ρ (ga ρ)) (TB K cls E ρ (gb ρ)) (TB K cls E ρ (gc ρ)) σ H Q:=by
 obtain ⟨H0,Hs0,la,Hs,f,q⟩:=q;refine one f q fun x v H1 Hs1 e1 s1 f1 r1=>?_;unfold n8 at q;rw [e1,bind_ok] at q;refine one f1 (q.on s1 (q':=fun _=>True) fun _ _=>trivial) fun y u H2 Hs2 e2 s2 f2 r2=>?_;rw [e2,bind_ok] at q;cases hr:h x y with
 |ex c n=>exact (hx x y c n hr).elim
 |no=>rw [hr] at q;exact q.elim
 |ok z =>
  rw [hr,bind_ok] at q;refine ⟨Hs2,x,y,f2.st.sub,r1.step s2,r2,z,hr,fun w H3 Hs3 s3 r3=>?_⟩;cases r3 with
  |bool k =>
   refine ⟨k,rfl,?_⟩;have f3:=f2.step s3;cases k with
   |false=>exact vF (q _ H3 Hs3 (s1.trans (s2.trans s3)) (.bool _))
   |true =>
    refine yP (one f3 (q.on (s1.trans (s2.trans s3)) (q':=fun _=>True) fun _ _=>trivial) fun t u' H4 Hs4 e4 s4 f4 r4=>?_);simp only [e4,bind_ok] at q;cases hr':h' y t with
    |ex c n=>exact (hx' y t c n hr').elim
    |no=>rw [hr'] at q;exact q.elim
    |ok z' =>
     rw [hr'] at q;exact ⟨Hs4,y,t,f4.st.sub,(r2.step s3).step s4,r4,z',hr',fun w H5 Hs5 s5 r5=>q w H5 Hs5 (s1.trans (s2.trans (s3.trans (s4.trans s5)))) r5⟩
  |none=>exact q.elim
  |int _=>exact q.elim
  |str _=>exact q.elim
  |list _ _=>exact q.elim
  |tuple _ _=>exact q.elim
  |dictK _ _=>exact q.elim
  |dictT _ _ _=>exact q.elim
  |dictF _ _ _=>exact q.elim
theorem zv  (ho:vo c.X (bz op) h) (ho':vo c.X (bz op') h') (ha:JB c a ga) (hb:JB c b gb) (hc:JB c d gc) (hm:EI [op,op'] [b,d]=false:=by with_unfolding_all rfl):JE c (.Compare a [op,op'] [b,d] pos) (n8 ga gb gc h h') :=
 .of fun ρ=>nQ (Ft ho.1 ho'.1 (ha ρ) (hb ρ) (hc ρ) hm) fun σ H Q q=>GE ho.2 ho'.2 q
theorem GF  (ho:vo c.X (bz op) h) (ho':vo c.X (bz op') h') (ha:JB c a ga) (hb:JB c b gb) (hc:JB c d gc) (hm:EI [op,op'] [b,d]=false:=by with_unfolding_all rfl):JT c (.Compare a [op,op'] [b,d] pos) (iD (n8 ga gb gc h h')) :=
 .of fun ρ=>OW (Fu ho.1 ho'.1 (ha ρ) (hb ρ) (hc ρ) hm) fun σ H Q q=>GE ho.2 ho'.2 (OX q)
inductive P9 (K:a5) (w:aW) (cls:Str->aa) (E:XK) (ρ:ak) (r:R (List Str)) (σ:St) (H:Hp) (Q:VK):Prop
 |mk (H0 Hs0:Hp) (la:Nat->Option aa) (Hs:Hp) (f:Fr K H0 Hs0 la ρ σ H Hs) (q:Fin K cls E H Hs r fun ss=>∀ p H' Hs',cp H Hs H' Hs'->H' p=none->Q (.ref p) (upd H' p (sV w p ss))):P9 K w cls E ρ r σ H Q
def Qq (K:a5) (w:aW) (cls:Str->aa) (E:XK) (ρ:ak) (r:R (List Str)):TE:=P9 K w cls E ρ r
structure Ob (c:C) (e:aO) (g:ak->R (List Str)):Prop where of ::
 run:∀ ρ,PE c.X e (Qq c.X.K c.X.w c.cls c.E ρ (g ρ))
instance {c:C}{e:aO}{g:ak->R (List Str)}:CoeFun (Ob c e g) (fun _=>∀ ρ,PE c.X e (Qq c.X.K c.X.w c.cls c.E ρ (g ρ))):=⟨Ob.run⟩
theorem LJ {K:a5}{w:aW}{cls:Str->aa}{E:XK}{ρ:ak}{r:R (List Str)}{β:Type}{k:List Str->R β}{σ:St}{H:Hp}{H0 Hs0 Hs:Hp}{la:Nat->Option aa}{Q:V->Hp->Prop}{q:β->Prop} (f:Fr K H0 Hs0 la ρ σ H Hs)
  (h:Fin K cls E H Hs (r.bind k) q) (m:∀ ss p H' Hs',r=.ok ss->cp H Hs H' Hs'->Fr K H0 Hs0 la ρ σ H' Hs'->H' p=none->Q (.ref p) (upd H' p (sV w p ss))):Qq K w cls E ρ r σ H Q:=by
 refine ⟨H0,Hs0,la,Hs,f,?_⟩;cases r with
 |ok d=>exact fun p H' Hs' s n=>m d p H' Hs' rfl s (f.step s) n
 |ex c n=>exact h
 |no=>exact h
variable {gset:ak->R (List Str)}
def uH:D->R (List Str)
 |.list ds=>match dZ ds with
  |some ss=>if ss.length<60 then .ok (dE [] ss) else .no
  |none=>.no
 |.tuple ds=>match dZ ds with
  |some ss=>if ss.length<60 then .ok (dE [] ss) else .no
  |none=>.no
 |_=>.no
def rL (g:ak->R D):ak->R (List Str):=fun ρ=>(g ρ).bind uH
theorem Nv (hc:c.X.calm=true) (h:JB c e g) (hg2:Gl c.X "set") (hm2:c.X.mg "set"=none) (he:ap [e] c.X.env=(false,bQ e c.X.env)::ap [] c.X.env:=by rfl) :
  Ob c (.Call (.Name "set" p) [e] [] cpos) (rL g):=.of fun ρ=>by
 refine nQ (wo (z0 hc) hg2 hm2 PyProof.Rows.boot_set (bC (h ρ) dD he) (he:=he)) fun σ H Q h_1=>?_;obtain ⟨H0,Hs0,la,Hs,f,q⟩:=h_1;refine one f q fun d v H1 Hs1 e1 s1 f1 r1=>?_;unfold rL at q;rw [e1,bind_ok] at q;unfold uH at q;split at q
 ·split at q
  ·rename_i ss hs
   by_cases hz:ss.length<60
   ·rw [if_pos hz] at q;obtain ⟨a,vs,rfl,qa,ra⟩:=r1.list f1.st.sub;rw [ja hs] at ra;rw [io ra] at qa;exact ⟨a,ss,rfl,.inl qa,az (Dq hz 1) (by decide),fun p hp=>q p H1 Hs1 s1 hp⟩
   ·rw [if_neg hz] at q;exact q.elim
  ·exact q.elim
 ·split at q
  ·rename_i ss hs
   by_cases hz:ss.length<60
   ·rw [if_pos hz] at q;obtain ⟨a,vs,rfl,qa,ra,_⟩:=r1.tuple f1.st.sub;rw [ja hs] at ra;rw [io ra] at qa;exact ⟨a,ss,rfl,.inr qa,az (Dq hz 1) (by decide),fun p hp=>q p H1 Hs1 s1 hp⟩
   ·rw [if_neg hz] at q;exact q.elim
  ·exact q.elim
 ·exact q.elim
def lw (g:ak->R (List Str)):ak->R D:=fun ρ=>(g ρ).bind fun ss=>if ss.length<64 then .ok (.list ((iM ss).map .str)) else .no
theorem Br (hc:c.X.calm=true) (h:Ob c e gset) (hg:Gl c.X "sorted") (hm:c.X.mg "sorted"=none) (he:ap [e] c.X.env=(false,bQ e c.X.env)::ap [] c.X.env:=by rfl) :
  JE c (.Call (.Name "sorted" p) [e] [] cpos) (lw gset):=.of fun ρ=>by
 refine nQ (lc (sW hc) hg hm sg (bC (h ρ) dD he) (he:=he)) fun σ H Q h_2=>?_;obtain ⟨H0,Hs0,la,Hs,f,q⟩:=h_2;dsimp only [L2.Ox,L2.C3,L2.Jl];refine LJ (w:=c.X.w) f q fun ss p H1 Hs1 e1 s1 f1 n1=>?_;unfold lw at q;rw [e1,bind_ok] at q;by_cases hz:ss.length<64
 ·rw [if_pos hz] at q;have st1:cp H1 Hs1 (upd H1 p (sV c.X.w p ss)) Hs1:=.mine f1.st.sub n1;exact ⟨p,ss,rfl,aK,hz,fun l hl=>q _ _ _ (s1.trans (st1.trans (.new st1.sub hl))) (.list (.of aK) (ll _))⟩
 ·rw [if_neg hz] at q;exact q.elim
def lX (g:ak->R (List Str)):ak->R D:=fun ρ=>(g ρ).bind fun ss=>.ok (.int ss.length)
theorem E5 (h:Ob c e gset) (hg:Gl c.X "len") (hm:c.X.mg "len"=none) (he:ap [e] c.X.env=(false,bQ e c.X.env)::ap [] c.X.env:=by rfl) :
  JE c (.Call (.Name "len" p) [e] [] cpos) (lX gset):=.of fun ρ=>by
 refine nQ (lc vL hg hm bX (bC (h ρ) dD he) (he:=he)) fun σ H Q h_3=>?_;obtain ⟨H0,Hs0,la,Hs,f,q⟩:=h_3;dsimp only [L2.Ox,L2.C3,L2.Jl];refine LJ (w:=c.X.w) f q fun ss p H1 Hs1 e1 s1 f1 n1=>?_;unfold lX at q;rw [e1,bind_ok] at q;have st1:cp H1 Hs1 (upd H1 p (sV c.X.w p ss)) Hs1:=.mine f1.st.sub n1;exact ⟨p,ss,rfl,aK,q _ _ _ (s1.trans st1) (.int _)⟩
variable {elt iter tg:aO}{ifs:List aO}{scope:dO}{N':List Str}{nt:Nat}{ix:List Nat}{gi:ak->R (List D)}{gt:ak->R Bool}{ge:ak->R D}
def nj (nt:Nat) (ix:List Nat) (gi:ak->R (List D)) (gt:ak->R Bool) (ge:ak->R D):ak->R (List Str):=fun ρ=>(gi ρ).bind fun ds=>if ds.length<=60 then (fZ (gQ nt (lv nt ix ρ) gt ge) ds).bind fun ys=>match dZ ys with
 |some ss=>.ok (dE [] ss)
 |none=>.no else .no
theorem vN  : ∀ {ss:List Str},dZ (xs++ys)=some ss->∃ s1 s2,dZ xs=some s1/\dZ ys=some s2/\ss=s1++s2:=by
 induction xs with
 |nil=>intro ss h;exact ⟨[],ss,rfl,h,rfl⟩
 |cons d r ih =>
  intro ss h;cases d with
  |str b =>
   have h:(dZ (r++ys)).map (b::·)=some ss:=h;cases hr:dZ (r++ys) with
   |none=>rw [hr] at h;cases h
   |some z =>
    rw [hr] at h;cases h;obtain ⟨s1,s2,h1,h2,rfl⟩:=ih hr;exact ⟨b::s1,s2,by show (dZ r).map (b::·)=_;rw [h1];rfl,h2,rfl⟩
  |_=>cases h
theorem uI (z:Str):∀ (l acc:List Str),dE acc (l++[z])=if z∈dE acc l then dE acc l else dE acc l++[z]
 |[],acc=>rfl
 |x::l,acc=>by
  show dE _ (l++[z])=_;rw [uI z l];rfl
inductive RT (f:D->R (Option D)) (ds:List D) (ss:List Str) (H1 Hs1:Hp) (i m:Nat) (acc:List Str) (H':Hp):Prop
 |mk (done bB zs sa sz Hs':_) (h0:ds=done++bB) (h1:done.length=i) (h2:bB.length=m) (h3:cp H1 Hs1 H' Hs') (h4:acc=dE [] sa) (h5:sa.length<=i) (h6:fZ f bB=.ok zs) (h7:dZ zs=some sz) (h8:ss=sa++sz):RT f ds ss H1 Hs1 i m acc H'
theorem Ke        (hnt:nt=1\/nt=2)
  (q:Qq K w cls E ρ (nj nt ix gi gt ge ρ) σ H Q) :
  Gf w nt ix (Qo K cls E ρ (gi ρ)) (E2 K nt) (fun σ H Q=>∃ ρ',EU K cls E0 ρ' (gt ρ') σ H Q) (fun σ H Q=>∃ ρ',TR K cls E0 ρ' (ge ρ') σ H Q) σ H Q:=by
 obtain ⟨H0,Hs0,la,Hs,f,q⟩:=q;refine ⟨H0,Hs0,la,Hs,f,?_⟩;unfold nj at q;cases hi:gi ρ with
 |no=>rw [hi] at q;exact q
 |ex x n=>rw [hi] at q;exact q
 |ok ds =>
  rw [hi,bind_ok] at q;intro J H1 Hs1 Hn s1 sn it;by_cases hl:ds.length<=60
  ·rw [if_pos hl] at q;cases hm:fZ (gQ nt (lv nt ix ρ) gt ge) ds with
   |no=>rw [hm] at q;exact q.elim
   |ex x n=>exact (uD (zo _ _ _ _) _ _ _ hm).elim
   |ok ys =>
    rw [hm,bind_ok] at q;cases hs:dZ ys with
    |none=>rw [hs] at q;exact q.elim
    |some ss =>
     rw [hs] at q;obtain ⟨lb,fb⟩:=(f.step s1).block nt ix;refine ⟨RT (gQ nt (lv nt ix ρ) gt ge) ds ss H1 Hs1,
      ⟨ds.length,[],ds,ys,[],ss,Hs1,rfl,rfl,rfl,.refl s1.sub,rfl,bV _,hm,hs,rfl⟩,?_⟩
     rintro i m acc H' ⟨done,bB,zs,sa,sz,Hs',hds,hdl,hrl,st,rfl,yl,hz,hzs,hy⟩;obtain ⟨igo,istop,iyld⟩:=it H' Hs' (sn.trans st.all) st.sh st.sub;cases bB with
     |nil =>
      left;cases hz;cases hzs;rw [bW] at hds hy;subst hy hds;exact ⟨istop i (by omega),fun p hp=>q p H' Hs' (s1.trans st) hp⟩
     |cons d bB =>
      right;have hil:i<ds.length:=by rw [hds,aY,aD];omega
      have hol:=jp sa [];simp at hol;refine ⟨igo i hil,qT (show (dE [] sa).length+1<=61 by omega) (by decide),fun x H2 hyl=>?_⟩;obtain ⟨d',Hs2,hd,s2,r2⟩:=iyld i x H2 hil hyl;have hdd:d'=d:=by
       rw [hds,aX (by omega)] at hd;simp [hdl] at hd;exact hd.symm
      subst hdd;obtain ⟨o,zs',hf,hz',rfl⟩:=uC hz;have hf:=CA hf;obtain ⟨so,sz',hso,hsz,rfl⟩:=vN hzs;cases hb:P7 nt d' (lv nt ix ρ) with
      |no=>rw [hb] at hf;cases hf
      |ex x n=>rw [hb] at hf;cases hf
      |ok ρ' =>
       rw [hb,bind_ok] at hf;refine zm hnt ((fb.step st).step s2) r2 hb fun σ2 f2=>⟨ρ',?_⟩;refine ⟨_,_,_,Hs2,f2,?_⟩;cases ht:gt ρ' with
       |no=>rw [ht] at hf;cases hf
       |ex x n=>rw [ht] at hf;cases hf
       |ok b =>
        rw [ht,bind_ok] at hf;intro H3 Hs3 s3;cases b with
        |false =>
         rw [if_neg aP] at hf;cases hf;cases hso;refine vF ⟨bB.length,by rw [<- hrl];simp,done++[d'],bB,zs',sa,sz',Hs3,by rw [hds];simp,by simp [hdl],rfl,(st.trans s2).trans s3,rfl,by omega,hz',hsz,by simpa using hy⟩
        |true =>
         rw [if_pos rfl] at hf;refine yP ⟨ρ',_,_,_,Hs3,f2.step s3,?_⟩;cases he:ge ρ' with
         |no=>rw [he] at hf;cases hf
         |ex x n=>rw [he] at hf;cases hf
         |ok y =>
          rw [he,bind_ok] at hf;cases hf;intro v H4 Hs4 s4 r4;cases r4 with
          |str z =>
           cases hso;exact ⟨z,bB.length,rfl,by rw [<- hrl];simp,done++[d'],bB,zs',sa++[z],sz',Hs4,by rw [hds];simp,by simp [hdl],rfl,((st.trans s2).trans s3).trans s4,(uI z sa []).symm,by simp;omega,hz',hsz,by rw [hy];simp⟩
          |none=>cases hso
          |bool _=>cases hso
          |int _=>cases hso
          |list _ _=>cases hso
          |tuple _ _=>cases hso
          |dictK _ _=>cases hso
          |dictT _ _ _=>cases hso
          |dictF _ _ _=>cases hso
  ·rw [if_neg hl] at q;exact q.elim
theorem GG (nt:Nat) (hnt:nt=1\/nt=2) (hc:c.X.calm=true) (S:lO c.X scope N' nt ix) (hi:JI c tg iter gi) (hb:qr c N' scope nt tg ifs elt gt ge) (hs:∀ x,df iter c.X.env x=pure x:=by intro _;rfl) :
  Ob c (.SetComp elt [⟨tg,iter,ifs,0⟩] scope pos) (nj nt ix gi gt ge):=.of fun ρ=>nQ (Bb hc S (xL hnt) (hi ρ) hb.at hs) fun σ H Q q=>Ke hnt q
end
def bt (n:Nat) (ds:List D):ak:=ds.map Sl.shr++kc (n-ds.length) Sl.no
def gR (n:Nat) (g:ak->R Fl):List D->R D:=fun ds=>match g (bt n ds) with
 |.ok (.nx _)=>.ok .none
 |.ok (.rt d)=>.ok d
 |.ex c m=>.ex c m
 |_=>.no
theorem uJ {n:Nat}{ds:List D}{i:Nat}{s:Sl} (h:(bt n ds)[i]?=some s):(∃ d,ds[i]?=some d/\s=.shr d)\/s=.no:=by
 unfold bt at h;by_cases hi:i<ds.length
 ·rw [bx (by simpa using hi),aE] at h;cases hd:ds[i]? with
  |none=>rw [hd] at h;cases h
  |some z=>rw [hd] at h;cases h;exact .inl ⟨z,rfl,rfl⟩
 ·rw [aX (by simp;omega),bu] at h;split at h<;>cases h;exact .inr rfl
theorem E6 {N:List Str}{vs:List V}{i:Nat}{v:V} (h:vs[i]?=some v):(L2.start N vs)[i]?=some (some v):=by
 unfold L2.start;have hi:i<vs.length:=(List.getElem?_eq_some_iff.mp h).1;rw [bx (by simpa using hi),aE,h];rfl
theorem Fr.start {K : a5} {H Hs : Hp} {N : List Str} {vs : List V} {ds : List D} (sub : cK Hs H) (r : RDs K Hs vs ds) : Fr K H Hs (fun _ => none) (bt N.length ds) (L2.start N vs) H Hs := by
  have hl := r.length;refine ⟨.refl sub, by simp [bt, L2.start, hl], fun i d h => ?_, fun i d h => ?_, fun i d h => ?_, fun i j d e a h _ _ _ => ?_, fun i a h => (nomatch h), fun i d h => ?_, fun i j d e h _ => ?_⟩
  · rcases uJ h with ⟨z, hz, e⟩ | e
    · cases e;obtain ⟨v, k1, k2⟩ := r.get' hz;exact ⟨v, E6 k1, k2⟩
    · cases e
  all_goals (rcases uJ h with ⟨z, _, e⟩ | e <;> cases e)
theorem LK             (F:Aj K x qual st f fd) (S:bK N ps (aC st))
  (h:∀ (cdv:a7) (A:aV) (outer:List Env) (s:a9) (H:Hp) (E:XK),iS k (A.deeper (ii qual (aC st) s.heap.objs.size f cdv))->Cv ⟨iG (lj P w) P w K mg base N qual (aC st) f cdv A outer s H E,cls,E⟩ (fh st) g) :
  oy P w K mg base (lj P w) (k+1) f fd ps (LF K cls ps.length (gR N.length g)):=by
 obtain ⟨oc,od,kV,doc,pm,an,cdv,ct,osl,rfl,lk,hcd⟩:=F.ex;refine ki lk hcd S (fun vs H Q E h_4=>by obtain ⟨Hs,ds,sub,hn,r,q⟩:=h_4;exact by rw [r.length];exact hn) fun A outer s H vs Q E hr hsp=>?_;obtain ⟨Hs,ds,sub,hn,r,q⟩:=hsp;refine ⟨_,h cdv A outer s H E hr (bt N.length ds),H,Hs,_,Hs,Fr.start sub r,?_⟩;unfold gR at q;cases hg:g (bt N.length ds) with
 |no=>rw [hg] at q;exact q
 |ex c n=>rw [hg] at q;exact q
 |ok fl =>
  rw [hg] at q;cases fl with
  |nx ρ'=>exact fun σ' H' Hs' f'=>q .non H' Hs' f'.st .none
  |rt d=>exact fun v H' Hs' s r=>q v H' Hs' s r
  |bk ρ'=>exact q.elim
  |ct ρ'=>exact q.elim
theorem Pa             (F:Aj K x qual st f fd) (S:bK N ps (aC st)) (hm:mg x=some (.ref f)) (hb:iL K fd ps [])
  (h:∀ (cdv:a7) (A:aV) (outer:List Env) (s:a9) (H:Hp) (E:XK),iS k (A.deeper (ii qual (aC st) s.heap.objs.size f cdv))->Cv ⟨iG (lj P w) P w K mg base N qual (aC st) f cdv A outer s H E,cls,E⟩ (fh st) g) :
  Fn P w K mg base cls x (k+1) ps.length (gR N.length g):=⟨f,fd,ps,LK F S h,hm,F.kp,hb⟩
theorem f_:kU (lj X.prog X.w) X E0:=fun _ _ _ _ _ _ _ h=>by
 obtain ⟨_,_,_,_,_,_,_,_,_,q⟩:=h;exact q.elim
end
section
def clear2 (ρ:ak):ak:=ρ.map fun s=>match s with
 |.ow2 _=>.no
 |s=>s
section
theorem Fr.clear2    (f:Fr K H0 Hs0 la ρ σ H Hs):Fr K H0 Hs0 la (clear2 ρ) σ H Hs/\∀ (j:Nat) (d:List (List D)),¬ (J.clear2 ρ)[j]?=some (Sl.ow2 d):=by
 have un:∀ {j:Nat}{s:Sl},(J.clear2 ρ)[j]?=some s->(∀ d,s≠.ow2 d)/\(ρ[j]?=some s\/s=.no):=fun {j s} e=>by
  unfold J.clear2 at e;rw [aE] at e;cases h:ρ[j]? with
  |none=>rw [h] at e;cases e
  |some t =>
   rw [h] at e;cases t with
   |ow2 d=>cases e;exact ⟨fun _ z=>(by cases z),.inr rfl⟩
   |no=>cases e;exact ⟨fun _ z=>(by cases z),.inl rfl⟩
   |shr d=>cases e;exact ⟨fun _ z=>(by cases z),.inl rfl⟩
   |lck d=>cases e;exact ⟨fun _ z=>(by cases z),.inl rfl⟩
   |own d=>cases e;exact ⟨fun _ z=>(by cases z),.inl rfl⟩
 have is:∀ {j:Nat}{s:Sl},s≠.no->(J.clear2 ρ)[j]?=some s->ρ[j]?=some s:=fun {j s} n e=>(un e).2.resolve_right n;have no2:∀ (j:Nat) (d:List (List D)),¬ (J.clear2 ρ)[j]?=some (Sl.ow2 d):=fun j d e=>(un e).1 d rfl;exact ⟨⟨f.st,by simp [J.clear2,f.len],fun j d h=>f.sh j d (is (fun z=>by cases z) h),fun j d h=>f.ow j d (is (fun z=>by cases z) h),fun j d h=>f.lk j d (is (fun z=>by cases z) h),fun j k d e a h1 h2=>f.dj j k d e a (is (fun z=>by cases z) h1) (is (fun z=>by cases z) h2),f.lh,fun j d h=>(no2 j d h).elim,fun j k d e h _=>(no2 j d h).elim⟩,no2⟩
end
def nl:List aa->Hp->Hp
 |[],H=>H
 |a::as,H=>nl as (upd H a (.lst []))
section
theorem uK:∀ (as:List aa) (H:Hp),(∀ a∈as,H a=none)->as.Nodup->cK H (nl as H)
 |[],H,_,_=>.refl H
 |a::as,H,h,nd=>by
  obtain ⟨n1,n2⟩:=List.nodup_cons.mp nd;refine (gO (h a av)).trans (uK as _ (fun b hb=>?_) n2);rw [aJ (fun (z:b=a)=>n1 (z ▸ hb))];exact h b (am _ hb)
theorem zw:∀ (as:List aa) (H:Hp),as.Nodup->∀ a∈as,nl as H a=some (.lst [])
 |a::as,H,nd,b,hb=>by
  obtain ⟨n1,n2⟩:=List.nodup_cons.mp nd;show nl as (upd H a (.lst [])) b=_;by_cases hm:b∈as
  ·exact zw as _ n2 b hm
  ·have e:b=a:=(List.mem_cons.mp hb).resolve_right hm;subst e;have:∀ (as:List aa) (H:Hp),b∉as->nl as H b=H b:=by
    intro as;induction as with
    |nil=>intro H _;rfl
    |cons c as ih =>
     intro H h;show nl as (upd H c (.lst [])) b=_;rw [ih _ (fun z=>h (am _ z)),aJ (fun (z:b=c)=>h (by rw [z];exact av))]
   rw [this as _ hm,aK]
theorem jN:∀ (as:List aa) (H:Hp) (b:aa),nl as H b=none->H b=none/\b∉as
 |[],H,b,h=>⟨h,by simp⟩
 |a::as,H,b,h=>by
  obtain ⟨h1,h2⟩:=jN as (upd H a (.lst [])) b h;by_cases hb:b=a
  ·subst hb;rw [aK] at h1;cases h1
  ·rw [aJ hb] at h1;exact ⟨h1,fun z=>(List.mem_cons.mp z).elim hb h2⟩
def Kf (i:Nat):ak->R Fl:=fun ρ=>.ok (.nx ((clear2 ρ).set i (.ow2 [[],[],[],[]])))
theorem Nw (i:Nat)  (hN:c.X.N.Nodup) (hi:c.X.N[i]?=some x:=by rfl) (hx:IK c.X.env.scope x:=by first|exact eP rfl|exact da rfl)
  (hs:gE (.List [.List [] p1,.List [] p2,.List [] p3,.List [] p4] p) (some (.Name x pos')) spos.line c.X.env=pure false:=by rfl)
  (hf:c.X.fn x=true\/c.X.env.scope.names.lookup x=some .local:=by first|exact .inl rfl|exact .inr rfl|assumption)
  (h1:ap [.List [] p1,.List [] p2,.List [] p3,.List [] p4] c.X.env=(false,bQ (.List [] p1) c.X.env)::ap [.List [] p2,.List [] p3,.List [] p4] c.X.env:=by rfl)
  (h2:ap [.List [] p2,.List [] p3,.List [] p4] c.X.env=(false,bQ (.List [] p2) c.X.env)::ap [.List [] p3,.List [] p4] c.X.env:=by rfl)
  (h3:ap [.List [] p3,.List [] p4] c.X.env=(false,bQ (.List [] p3) c.X.env)::ap [.List [] p4] c.X.env:=by rfl)
  (h4:ap [.List [] p4] c.X.env=(false,bQ (.List [] p4) c.X.env)::ap [] c.X.env:=by rfl) :
  JS c (.Assign [.Name x pos'] (.List [.List [] p1,.List [] p2,.List [] p3,.List [] p4] p) spos) (Kf i):=.of fun ρ=>by
 refine xE (xn hN hi hx (kS (bC (kS dD) (bC (kS dD) (bC (kS dD) (bC (kS dD) dD h4) h3) h2) h1)) hs hf) fun D σ H h_0=>?_;obtain ⟨H0,Hs0,la,Hs,f,q⟩:=h_0;replace q:lV c.X.K c.cls c.E H0 Hs0 la D (Kf i ρ):=q;obtain ⟨f,no2⟩:=f.clear2;refine ⟨bV _,fun a1 n1=>⟨bV _,fun a2 n2=>⟨bV _,fun a3 n3=>⟨bV _,fun a4 n4=>⟨bd (c8 (show 4<=1000 by decide)),fun a n=>?_⟩⟩⟩⟩⟩;have N:=jN [a1,a2,a3,a4] H a n;have N4:=jN [a1,a2,a3] H a4 n4;have N3:=jN [a1,a2] H a3 n3;have N2:=jN [a1] H a2 n2;simp only [b9,aR,or_false,not_or] at N N4 N3 N2;have nd:[a1,a2,a3,a4].Nodup:=by
  simp only [List.nodup_cons,b9,aR,or_false,not_or,kg,and_true,not_false_eq_true];exact ⟨⟨dU N2.2,dU N3.2.1,dU N4.2.1⟩,⟨dU N3.2.2,dU N4.2.2.1⟩,dU N4.2.2.2⟩
 have free:∀ b∈[a1,a2,a3,a4],H b=none:=fun b hb=>by
  simp only [b9,aR,or_false] at hb;rcases hb with rfl|rfl|rfl|rfl
  ·exact n1
  ·exact N2.1
  ·exact N3.1
  ·exact N4.1
 have nd5:(a::[a1,a2,a3,a4]).Nodup:=List.nodup_cons.mpr ⟨by simp only [b9,aR,or_false,not_or];exact N.2,nd⟩;have sm:cK H (nl [a1,a2,a3,a4] H):=uK _ _ free nd;have all:cK H (upd (nl [a1,a2,a3,a4] H) a (.lst [.ref a1,.ref a2,.ref a3,.ref a4])):=sm.trans (gO n);have free5:∀ b∈a::[a1,a2,a3,a4],H b=none:=fun b hb=>(List.mem_cons.mp hb).elim (fun z=>z ▸ N.1) (free b);have st:cp H Hs (upd (nl [a1,a2,a3,a4] H) a (.lst [.ref a1,.ref a2,.ref a3,.ref a4])) Hs:=⟨all,.refl _,f.st.sub.trans all,fun _ _ _ _ z=>z⟩;have f':=f.step st;have hl:i<σ.length\/¬ i<σ.length:=Decidable.em _;have nx:∀ {j:Nat}{s:Sl},(∀ d,s≠.ow2 d)->((clear2 ρ).set i (.ow2 [[],[],[],[]]))[j]?=some s->(clear2 ρ)[j]?=some s/\i≠j:=fun {j s} hs e=>by
  by_cases hj:i=j
  ·subst hj;by_cases hi:i<(clear2 ρ).length
   ·rw [aw hi] at e;exact absurd (bh e).symm (hs _)
   ·rw [bT (by simpa using hi)] at e;cases e
  ·rw [ag hj] at e;exact ⟨e,hj⟩
 refine q _ _ Hs ⟨f'.st,by simp [f'.len],fun j d h=>?_,fun j d h=>?_,fun j d h=>?_,fun j k d d' b h1 h2 h3 h4=>?_,f'.lh,fun j d h=>?_,fun j k d d' h1 h2=>?_⟩
 ·obtain ⟨h,hj⟩:=nx (fun _ z=>by cases z) h;rw [ag hj];exact f'.sh j d h
 ·obtain ⟨h,hj⟩:=nx (fun _ z=>by cases z) h;rw [ag hj];exact f'.ow j d h
 ·obtain ⟨h,hj⟩:=nx (fun _ z=>by cases z) h;rw [ag hj];exact f'.lk j d h
 ·obtain ⟨h1,hj⟩:=nx (fun _ z=>by cases z) h1;obtain ⟨h2,hk⟩:=nx (fun _ z=>by cases z) h2;rw [ag hj] at h3;rw [ag hk] at h4;exact f'.dj j k d d' b h1 h2 h3 h4
 ·by_cases hj:i=j
  ·subst hj;by_cases hi:i<(clear2 ρ).length
   ·rw [aw hi] at h;cases h;have at4:=zw [a1,a2,a3,a4] H nd;have ne:∀ b∈[a1,a2,a3,a4],b≠a:=fun b hb z=>(List.nodup_cons.mp nd5).1 (z ▸ hb);have go:∀ b∈[a1,a2,a3,a4],upd (nl [a1,a2,a3,a4] H) a (.lst [.ref a1,.ref a2,.ref a3,.ref a4]) b=some (.lst []):=fun b hb=>by rw [aJ (ne b hb)];exact at4 b hb
    refine ⟨a,[a1,a2,a3,a4],aw (by rw [<- f'.len];exact hi),aK,nd5,fun b hb=>⟨f.st.sub.free (free5 b hb),f.st.all.free (free5 b hb)⟩,fun b hb k e hk=>?_,.cons (go _ (by simp)) .nil (.cons (go _ (by simp)) .nil (.cons (go _ (by simp)) .nil (.cons (go _ (by simp)) .nil .nil)))⟩;obtain ⟨hk,nk⟩:=nx (fun _ z=>by cases z) hk;rw [ag nk];intro z;obtain ⟨b',o,k1,k2,_⟩:=f.ow k e hk;rw [z] at k1;cases k1;rw [free5 b hb] at k2;cases k2
   ·rw [bT (by simpa using hi)] at h;cases h
  ·rw [ag hj] at h;exact (no2 j d h).elim
 ·by_cases hj:i=j
  ·by_cases hk:i=k
   ·exact hj.symm.trans hk
   ·rw [ag hk] at h2;exact (no2 k d' h2).elim
  ·rw [ag hj] at h1;exact (no2 j d h1).elim
theorem GH  (h:JS c st gs):JS c st (fun ρ=>gs (dR ρ)):=.of fun ρ=>xE (h (dR ρ)) fun D σ H h_1=>by
 obtain ⟨H0,Hs0,la,Hs,f,q⟩:=h_1;obtain ⟨Hs',f'⟩:=f.shared;exact ⟨H0,Hs0,la,Hs',f',q⟩
def shareAt (i:Nat) (ρ:ak):ak:=match ρ[i]? with
 |some (Sl.own d)=>ρ.set i (.shr d)
 |_=>ρ
theorem Fr.shareAt     (f:Fr K H0 Hs0 la ρ σ H Hs) (i:Nat):∃ Hs',Fr K H0 Hs0 la (J.shareAt i ρ) σ H Hs':=by
 unfold J.shareAt;split
 ·rename_i d ho
  obtain ⟨a,o,k1,k2,k3,k4,k5⟩:=f.ow i d ho;have hil:i<ρ.length:=(List.getElem?_eq_some_iff.mp ho).1;have up:cK Hs (upd Hs a o):=gO k3;have nx:∀ {j:Nat}{s:Sl},(∀ d,s≠.shr d)->(ρ.set i (.shr d))[j]?=some s->ρ[j]?=some s/\i≠j:=fun {j s} hs e=>by
   by_cases hj:i=j
   ·subst hj;rw [aw hil] at e;exact absurd (bh e).symm (hs d)
   ·rw [ag hj] at e;exact ⟨e,hj⟩
  have ne:∀ (j:Nat) (e:D) (b:aa),i≠j->ρ[j]?=some (Sl.own e)->σ[j]?=some (some (V.ref b))->b≠a:=fun j e b hj h hb z=>by
   subst z;exact hj (f.dj i j d e b ho h k1 hb)
  refine ⟨upd Hs a o,⟨f.st.all,f.st.sh.trans up,fun b u e=>?_,fun b u e t z=>?_⟩,by simp [f.len],fun j e h=>?_,fun j e h=>?_,fun j e h=>?_,fun j k d1 d2 b h1 h2 h3 h4=>?_,f.lh,fun j e h=>?_,fun j k d1 d2 h1 h2=>?_⟩
  ·by_cases hb:b=a
   ·subst hb;rw [aK] at e;cases e;exact k2
   ·rw [aJ hb] at e;exact f.st.sub b u e
  ·rw [aJ (aS e k4)];exact f.st.out b u e t z
  ·by_cases hj:i=j
   ·subst hj;rw [aw hil] at h;cases h;exact ⟨_,k1,k5.share k3⟩
   ·rw [ag hj] at h;obtain ⟨v,q1,q2⟩:=f.sh j e h;exact ⟨v,q1,q2.same up⟩
  ·obtain ⟨h,hj⟩:=nx (fun _ z=>by cases z) h;obtain ⟨b,u,q1,q2,q3,q4,q5⟩:=f.ow j e h;exact ⟨b,u,q1,q2,by rw [aJ (ne j e b hj h q1)];exact q3,q4,q5.same up⟩
  ·obtain ⟨h,hj⟩:=nx (fun _ z=>by cases z) h;obtain ⟨b,u,q1,q2,q3,q4,q5,q6⟩:=f.lk j e h;exact ⟨b,u,q1,q2,q3,by rw [aJ (aS q5 k4)];exact q4,q5,q6.same up⟩
  ·exact f.dj j k d1 d2 b (nx (fun _ z=>by cases z) h1).1 (nx (fun _ z=>by cases z) h2).1 h3 h4
  ·obtain ⟨h,hj⟩:=nx (fun _ z=>by cases z) h;obtain ⟨b,as,O⟩:=f.o2 j e h;refine ⟨b,as,O.at_,O.ob,O.nd,fun c hc=>⟨?_,(O.out c hc).2⟩,fun c hc k e' hk=>O.dj c hc k e' (nx (fun _ z=>by cases z) hk).1,O.inn.step (.refl _) up⟩;rw [aJ (fun z=>O.dj c hc i d ho (by rw [z];exact k1))];exact (O.out c hc).1
  ·exact f.u2 j k d1 d2 (nx (fun _ z=>by cases z) h1).1 (nx (fun _ z=>by cases z) h2).1
 ·exact ⟨Hs,f⟩
theorem Bs (i:Nat)  (h:JS c st gs):JS c st (fun ρ=>gs (shareAt i ρ)):=.of fun ρ=>xE (h (shareAt i ρ)) fun D σ H h_2=>by
 obtain ⟨H0,Hs0,la,Hs,f,q⟩:=h_2;obtain ⟨Hs',f'⟩:=f.shareAt i;exact ⟨H0,Hs0,la,Hs',f',q⟩
theorem wA.get    (h:wA K H Hs as dss):∀ {j:Nat}{ds:List D},dss[j]?=some ds->∃ b vs,as[j]?=some b/\H b=some (.lst vs)/\RDs K Hs vs ds:=by
 induction h with
 |nil=>intro j ds e;cases e
 |cons h r t ih =>
  intro j ds e;cases j with
  |zero=>cases e;exact ⟨_,_,rfl,h,r⟩
  |succ j=>have q:=ih (j:=j) e;exact q
theorem wA.set    (r':RDs K Hs vs' ds'):∀ {as:List aa}{dss:List (List D)}{j:Nat}{b:aa},wA K H Hs as dss->as[j]?=some b->as.Nodup->wA K (L2.upd H b (.lst vs')) Hs as (dss.set j ds')
 |_,_,_,_,.nil,h,_=>by simp at h
 |_,_,0,b,.cons h r t,e,nd=>by
  simp at e;subst e;exact .cons aK r' (t.upd (List.nodup_cons.mp nd).1)
 |_,_,j+1,b,.cons (a:=a) h r t,e,nd=>by
  have e':_:=e;simp only [eX] at e';obtain ⟨n1,n2⟩:=List.nodup_cons.mp nd;have hb:b∈_:=gF e';exact .cons (by rw [aJ (fun z=>n1 (by rw [z];exact hb))];exact h) r (wA.set r' t e' n2)
def lz (i:Nat) (gi g:ak->R D):ak->R Fl:=fun ρ=>match ρ[i]? with
 |some (Sl.ow2 dss)=>(gi ρ).bind fun k=>match k with
  |.int j=>if 0<=j then (match dss[j.toNat]? with
   |some ds=>(g ρ).bind fun d=>if ds.length<1000 then .ok (.nx (ρ.set i (.ow2 (dss.set j.toNat (ds++[d]))))) else .no
   |none=>.no) else .no
  |_=>.no
 |_=>.no
theorem uL (i:Nat) (hie:JE c ie gi) (h:JE c e g) (hN:c.X.N[i]?=some x:=by rfl) (hv:IJ c.X.env.scope x:=by first|exact eP rfl|exact da (eP rfl)|exact da (da rfl)) (hd:(x==("__debug__" : Str))=false:=by decide)
  (hcd:(x==("__classdict__" : Str))=false:=by decide) (hpx:tH ie:=by exact fun _ _=>rfl)
  (hbase:eE (.Subscript (.Name x p) ie p3) "append" c.X.env (bQ (.Subscript (.Name x p) ie p3) c.X.env)=bQ (.Subscript (.Name x p) ie p3) c.X.env:=by rfl)
  (hfew:((eR cpos (ap [e] c.X.env)).all (fun x=>!x.1)&&(IR cpos (yt [] c.X.env)).all (fun x=>x.1.isSome)
   && decide ([e].length+([] : List oQ).length+(if ([] : List oQ).isEmpty then 0 else 1)<30))=true:=by rfl)
  (hline:(apos.endLine==cpos.line)=true:=by rfl) (hst:ap [e] c.X.env=(false,bQ e c.X.env)::ap [] c.X.env:=by rfl) (hplain:(eR cpos (ap [] c.X.env)).any (·.1)=false:=by rfl)
  (hs:gE (.Call (.Attribute (.Subscript (.Name x p) ie p3) "append" apos) [e] [] cpos) none pos.line c.X.env=pure false:=by rfl) :
  JS c (.Expr (.Call (.Attribute (.Subscript (.Name x p) ie p3) "append" apos) [e] [] cpos) pos) (lz i gi g):=.of fun ρ=>by
 refine xE (pT (ue cP vy vz wp (Lj C8 (lN hN hv hd hcd) (hie ρ) hpx) (bC (h ρ) dD hst) hbase hfew hline hst hplain) hs) fun D σ H h_3=>?_;obtain ⟨H0,Hs0,la,Hs,f,q⟩:=h_3;replace q:lV c.X.K c.cls c.E H0 Hs0 la D (lz i gi g ρ):=q;unfold lz at q;split at q
 ·rename_i dss ho
  obtain ⟨a,as,O⟩:=f.o2 i dss ho;refine ⟨_,O.at_,?_⟩;refine sE f q fun k v H1 Hs1 e1 s1 f1 r1=>?_;rw [e1,bind_ok] at q;cases r1 with
  |int j =>
   simp only at q;by_cases hj:0<=j
   ·rw [if_pos hj] at q;split at q
    ·rename_i ds hds
     obtain ⟨b,vs,hb,hH,rv⟩:=O.inn.get hds;have hix:Ai (as.map V.ref) j=some (.ref b):=by
      have:=pY (xs:=as.map V.ref) (j:=j.toNat) (v:=V.ref b) (by rw [aE,hb];rfl)
      rwa [cn hj] at this
     refine ⟨a,_,j,_,rfl,rfl,.of (s1.all _ _ O.ob),hix,.inl ⟨rfl,_,.of (s1.all _ _ hH)⟩,?_⟩;refine sE f1 q fun d w H2 Hs2 e2 s2 f2 r2=>?_;rw [e2,bind_ok] at q;by_cases hl:ds.length<1000
     ·rw [if_pos hl] at q;have st:=s1.trans s2;refine ⟨b,vs,w,rfl,rfl,st.all _ _ hH,c8 (by rw [rv.length];omega),?_⟩;have hil:i<ρ.length:=(List.getElem?_eq_some_iff.mp ho).1;obtain ⟨a',as',O2'⟩:=f2.o2 i dss ho;have ea:a'=a:=by
       have:=O2'.at_;rw [O.at_] at this;cases this;rfl
      subst ea;have eas:as'=as:=by
       have h1:=O2'.ob;rw [st.all _ _ O.ob] at h1;injection h1 with h1;injection h1 with h1;exact (ES (fun x y z=>by cases z;rfl) |>.mp h1).symm
      subst eas;have hbm:b∈a'::as':=am _ (gF hb);have nb:b≠a':=fun z=>(List.nodup_cons.mp O.nd).1 (z ▸ gF hb);obtain ⟨bs,b0⟩:=O2'.out b hbm;have nx:∀ {j':Nat}{s:Sl},(∀ d,s≠.ow2 d)->(ρ.set i (.ow2 (dss.set j.toNat (ds++[d]))))[j']?=some s->ρ[j']?=some s/\i≠j':=fun {j' s} hs e=>by
       by_cases hj:i=j'
       ·subst hj;rw [aw hil] at e;exact absurd (bh e).symm (hs _)
       ·rw [ag hj] at e;exact ⟨e,hj⟩
      refine q _ _ Hs2 ⟨⟨fun c u e=>?_,f2.st.sh,fun c u e=>?_,f2.st.out⟩,by simp [f2.len],fun j' d' h=>f2.sh j' d' (nx (fun _ z=>by cases z) h).1,fun j' d' h=>?_,fun j' d' h=>?_,fun j' k' d' e' a h1 h2=>f2.dj j' k' d' e' a (nx (fun _ z=>by cases z) h1).1 (nx (fun _ z=>by cases z) h2).1,f2.lh,fun j' d' h=>?_,fun j' k' d' e' h1 h2=>?_⟩
      ·rw [aJ (aS e b0)];exact f2.st.all c u e
      ·rw [aJ (aS e bs)];exact f2.st.sub c u e
      ·obtain ⟨h,_⟩:=nx (fun _ z=>by cases z) h;obtain ⟨c',u,k1,k2,k3,k4,k5⟩:=f2.ow j' d' h;refine ⟨c',u,k1,?_,k3,k4,k5⟩;rw [aJ (fun z=>O2'.dj b hbm j' d' h (by rw [<- z];exact k1))];exact k2
      ·obtain ⟨h,_⟩:=nx (fun _ z=>by cases z) h;obtain ⟨c',u,k1,k2,k3,k4,k5,k6⟩:=f2.lk j' d' h;refine ⟨c',u,k1,k2,?_,k4,k5,k6⟩;rw [aJ (aS k5 b0)];exact k3
      ·by_cases hj':i=j'
       ·subst hj';rw [aw hil] at h;cases h;refine ⟨a',as',O2'.at_,by rw [aJ (dU nb)];exact O2'.ob,O2'.nd,O2'.out,fun c hc k e' hk=>O2'.dj c hc k e' (nx (fun _ z=>by cases z) hk).1,?_⟩;exact wA.set ((rv.same st.sh).append (.cons r2 .nil)) O2'.inn hb (List.nodup_cons.mp O2'.nd).2
       ·rw [ag hj'] at h;exact (hj' (f2.u2 i j' _ _ ho h)).elim
      ·by_cases hj':i=j'
       ·by_cases hk':i=k'
        ·exact hj'.symm.trans hk'
        ·rw [ag hk'] at h2;exact (hk' (f2.u2 i k' _ _ ho h2)).elim
       ·rw [ag hj'] at h1;exact (hj' (f2.u2 i j' _ _ ho h1)).elim
     ·rw [if_neg hl] at q;exact q.elim
    ·exact q.elim
   ·rw [if_neg hj] at q;exact q.elim
  |none=>exact q.elim
  |bool _=>exact q.elim
  |str _=>exact q.elim
  |list _ _=>exact q.elim
  |tuple _ _=>exact q.elim
  |dictK _ _=>exact q.elim
  |dictT _ _ _=>exact q.elim
  |dictF _ _ _=>exact q.elim
 ·exact q.elim
end
end
section
open PyProof.Rows (OwnCls)
theorem Kg (l:aa) (items:Array a7) (n:Nat) (b:aa) (dd:Option aa) (items2:Array a7) (n2:Nat) (sl:Array (Option a7)) (door:¬(!items.isEmpty&&gf (items.size+items2.size))=true) (z1:items.size<=sizeLine) (z2:items.size+items2.size<=sizeLine+1) :
  Meets (i5.«list.extend» ⟨[.ref l,.ref b],[]⟩) (fun _ R s=>s.heap.get? l=some { cls:=.type "list",data:=.seq items n }/\s.heap.get? b=some { cls:=.type "list",dict:=dd,data:=.seq items2 n2,slots:=sl } /\
   R (.ok (.ret dm)) { s with heap:=s.heap.update l (ik fun xs=>xs++items2),toks:=s.toks }) :=
 .of_wp fun prog w A R s h=>by
  obtain ⟨hp,gg,dr,tk,os⟩:=s;obtain ⟨hl,hb,h⟩:=h;have f1:=AutoSeq1.idx_int;have f2:=AutoSeq1.sub_tuple_tuple;have f3:=AutoSeq1.sub_list_list;have f4:=AutoSeq1.sub_tuple_list;have f5:=AutoSeq1.sub_list_tuple;have mL:(items++items2).size<=sizeLine+1:=by rw [ET];exact z2
  wp_walk using (yD hl rfl (hz:=z1) (_hz':=mL)),wpAny_loadPart' hl,wpAny_loadPart' hb;exact ⟨_,rfl,h⟩
section
inductive LL (K:a5) (x:V) (vs:List V) (H:Hp) (Q:VK):Prop
 |mk (l b xs zs:_) (h0:x=.ref l) (h1:vs=[.ref b]) (h2:H l=some (.lst xs)) (h3:k_ K H b zs) (h4:xs.length+zs.length<=sizeLine) (h5:Q .non (upd H l (.lst (xs++zs)))):LL K x vs H Q
def Rl (K:a5):V->List V->Hp->VK->Prop:=LL K
theorem Nx:QZ X "list.extend" (Rl X.K):=by
 intro pins s σ H x vs v us Q I rx rv h;obtain ⟨l,b,xs,zs,rfl,rfl,hH,hB,hz,q⟩:=h;cases rx;obtain ⟨u,rfl,ru⟩:=rv.one;cases ru;obtain ⟨z,its,n,r,hl,e⟩:=I.lstM hH;obtain ⟨its2,r2,⟨⟨m1,m2,m3,m4⟩,n2,e2,d1,d2,d3⟩,z2⟩:=I.list hB;simp only at d1 d2 d3;subst d1 d2 d3;have len2:=r2.length;have fit:its.toArray.size+its2.toArray.size<=sizeLine:=by rw [ax,ax];omega
 refine iO IS ⟨_,e,rfl⟩ IB (F4 _ _) (Kg l its.toArray n b _ its2.toArray n2 m4 ?_ (by omega) (by omega)) ⟨e,e2,?_⟩
 ·rw [yM fit,Bool.and_false];exact aP
 ·refine ⟨.non,_,I.lset (its':=its++its2) hH e (by simp) (r.append r2) ?_,rfl,q⟩;rw [aY];omega
end
section
def E7 (i:Nat) (g:ak->R D):ak->R Fl:=fun ρ=>match ρ[i]? with
 |some (Sl.own (.list ds))=>(g ρ).bind fun d=>match d with
  |.list es=>if ds.length+es.length<=1000 then .ok (.nx (ρ.set i (.own (.list (ds++es))))) else .no
  |_=>.no
 |_=>.no
theorem rM (i:Nat) (h:JE c e g) (hN:c.X.N[i]?=some x:=by rfl) (hv:IJ c.X.env.scope x:=by first|exact eP rfl|exact da (eP rfl)|exact da (da rfl)) (hd:(x==("__debug__" : Str))=false:=by decide)
  (hcd:(x==("__classdict__" : Str))=false:=by decide)
  (hbase:eE (.Name x p) "extend" c.X.env (bQ (.Name x p) c.X.env)=bQ (.Name x p) c.X.env:=by rfl)
  (hfew:((eR cpos (ap [e] c.X.env)).all (fun x=>!x.1)&&(IR cpos (yt [] c.X.env)).all (fun x=>x.1.isSome)
   && decide ([e].length+([] : List oQ).length+(if ([] : List oQ).isEmpty then 0 else 1)<30))=true:=by rfl)
  (hline:(apos.endLine==cpos.line)=true:=by rfl) (hst:ap [e] c.X.env=(false,bQ e c.X.env)::ap [] c.X.env:=by rfl) (hplain:(eR cpos (ap [] c.X.env)).any (·.1)=false:=by rfl)
  (hs:gE (.Call (.Attribute (.Name x p) "extend" apos) [e] [] cpos) none pos.line c.X.env=pure false:=by rfl) :
  JS c (.Expr (.Call (.Attribute (.Name x p) "extend" apos) [e] [] cpos) pos) (E7 i g):=.of fun ρ=>by
 refine xE (pT (ue cP kP kQ Nx (lN hN hv hd hcd) (bC (h ρ) dD hst) hbase hfew hline hst hplain) hs) fun D σ H h_0=>?_;obtain ⟨H0,Hs0,la,Hs,f,q⟩:=h_0;replace q:lV c.X.K c.cls c.E H0 Hs0 la D (E7 i g ρ):=q;unfold E7 at q;split at q
 ·rename_i ds ho
  obtain ⟨a,o,k1,k2,k3,k4,k5⟩:=f.ow i _ ho;cases k5 with
  | @lst vs _ r =>
   refine ⟨_,k1,.inl ⟨rfl,_,.of k2⟩,?_⟩;refine sE f q fun d v H1 Hs1 e1 s1 f1 r1=>?_;rw [e1,bind_ok] at q;cases r1 with
   | @list b zs es sq rs =>
    simp only at q;by_cases hl:ds.length+es.length<=1000
    ·rw [if_pos hl] at q;have r':=r.same s1.sh;exact ⟨a,b,vs,zs,rfl,rfl,s1.all _ _ k2,f1.st.sub.seq sq,bd (c8 (by rw [r.length,rs.length];exact hl)),q _ _ Hs1 (f1.write i ho k1 (.lst (r'.append rs)))⟩
    ·rw [if_neg hl] at q;exact q.elim
   |none=>exact q.elim
   |bool _=>exact q.elim
   |int _=>exact q.elim
   |str _=>exact q.elim
   |tuple _ _=>exact q.elim
   |dictK _ _=>exact q.elim
   |dictT _ _ _=>exact q.elim
   |dictF _ _ _=>exact q.elim
 ·exact q.elim
end
structure Er (mg:Str->Option a7) (base:bc) (cls:Str->aa) (x:Str):Prop where
 ex:∃ bmB newId initId Bn,OwnCls x (cls x) bmB newId mg base/\ExcBaseFacts Bn newId initId bmB
def nq (x:Str) (gs:ak->R (List D)):ak->R Fl:=fun ρ=>(gs ρ).bind fun ds=>if ds.length<=1000 then .ex x none else .no
section
theorem uM {x:Str}{np cpos pos:Pos}{e0:aO}{bB:List aO}{gs:ak->R (List D)} (R0:Er mg base cls x)
  (hg:Gl (iG (lj P w) P w K mg base N qual scope f cd A outer s H E) x) (ha:DU ⟨iG (lj P w) P w K mg base N qual scope f cd A outer s H E,cls,E⟩ (e0::bB) gs)
  (he:ap (e0::bB) (iG (lj P w) P w K mg base N qual scope f cd A outer s H E).env=(false,bQ e0 (iG (lj P w) P w K mg base N qual scope f cd A outer s H E).env)::ap bB (iG (lj P w) P w K mg base N qual scope f cd A outer s H E).env:=by rfl)
  (hdb:(x==("__debug__" : Str))=false:=by decide) (hpl:(eR cpos (ap bB (iG (lj P w) P w K mg base N qual scope f cd A outer s H E).env)).any (·.1)=false:=by rfl) :
  JS ⟨iG (lj P w) P w K mg base N qual scope f cd A outer s H E,cls,E⟩ (.Raise (some (.Call (.Name x np) (e0::bB) [] cpos)) none pos) (nq x gs):=.of fun ρ=>by
 obtain ⟨bmB,newId,initId,Bn,O,FB⟩:=R0.ex;refine xE (G6 O FB hg (ha ρ) he hdb hpl) fun D σ H1 h_1=>?_;obtain ⟨H0,Hs0,la,Hs,f,q⟩:=h_1;replace q:lV K cls E H0 Hs0 la D (nq x gs ρ):=q;refine ⟨H0,Hs0,la,Hs,f,?_⟩;unfold nq at q;cases hr:gs ρ with
 |no=>rw [hr] at q;exact q
 |ex y n=>rw [hr] at q;exact fun H' Hs' s=>q H' Hs' (f.st.trans s)
 |ok ds =>
  rw [hr,bind_ok] at q;intro vs H2 Hs2 s2 r2;by_cases hl:ds.length<=1000
  ·rw [if_pos hl] at q;exact ⟨bd (c8 (by rw [r2.length];exact hl)),q H2 Hs2 (f.st.trans s2)⟩
  ·rw [if_neg hl] at q;exact q.elim
end
end
section
structure Bi (mg:Str->Option a7):Prop where
 len:mg "len"=none
 isinstance:mg "isinstance"=none
 all:mg "all"=none
 any:mg "any"=none
 zip:mg "zip"=none
 tuple:mg "tuple"=none
 list:mg "list"=none
 sorted:mg "sorted"=none
 set:mg "set"=none
 range:mg "range"=none
 enumerate:mg "enumerate"=none
 dict:mg "dict"=none
 sum:mg "sum"=none
 max:mg "max"=none
 min:mg "min"=none
 reversed:mg "reversed"=none
 str:mg "str"=none
 int:mg "int"=none
 bool:mg "bool"=none
end
section
structure Xf (K:a5) (base:bc) (cls:Str->aa) (names:List Str) (C:aa) (j:Nat):Prop where
 ek:G8 K C
 is:∀ i n,names[i]?=some n->cF K (.ref C) (.ref (cls n))=some (decide (i=j))
 ve:cF K (.ref C) (.type "ValueError")=some true
 ox:∃ bm,xD base C bm/\bm.contains (.ref (cls "PlanError"))=true
 lt:j<11
inductive LM (K:a5) (base:bc) (cls:Str->aa) (names:List Str) (vs:List V) (H:Hp) (Q:VK) (z_3:XK):Prop
 |mk (ea C j:_) (h0:vs=[.ref ea]) (h1:H ea=some (uq ea C)) (h2:Xf K base cls names C j) (h3:∀ t H',cK H H'->H t=none->H' t=some (.tup [.str "refused",.int (j:Nat)])->Q (.ref t) H'):LM K base cls names vs H Q z_3
def Ny (K:a5) (base:bc) (cls:Str->aa) (names:List Str):Sp:=LM K base cls names
def s_ (j:Nat):List Bool:=[decide (0=j),decide (1=j),decide (2=j),decide (3=j),decide (4=j),decide (5=j),decide (6=j),decide (7=j),decide (8=j),decide (9=j),decide (10=j)]
theorem Bt:∀ j,j<11->(s_ j).countP id=1:=by
 intro j h;have:∀ k:_root_.Fin 11,(s_ k.val).countP id=1:=by decide
 exact this ⟨j,h⟩
theorem Kh:∀ j,j<11->(s_ j)[j]?=some true/\∀ m,m<j->(s_ j)[m]?=some false:=by
 intro j h;have:∀ k:_root_.Fin 11,(s_ k.val)[k.val]?=some true/\∀ m:_root_.Fin 11,m.val<k.val->(s_ k.val)[m.val]?=some false:=by decide
 exact ⟨(this ⟨j,h⟩).1,fun m hm=>(this ⟨j,h⟩).2 ⟨m,by omega⟩ hm⟩
section
theorem jO   (h0:PE X e0 (Dx 0)) (hg:Gl X "isinstance") (hm:X.mg "isinstance"=none) (hgn:Gl X n) (hmn:X.mg n=some (.ref (cls n))) (hdb:(n==("__debug__" : Str))=false:=by decide)
  (he:ap [e0,.Name n p2] X.env=(false,bQ e0 X.env)::ap [.Name n p2] X.env:=by rfl) (hpl:(eR pos (ap [.Name n p2] X.env)).any (·.1)=false:=by rfl) :
  PE X (.Call (.Name "isinstance" p) [e0,.Name n p2] [] pos) (fun σ H Q=>∃ ea C j i,σ[0]?=some (some (V.ref ea))/\H ea=some (uq ea C)/\Xf X.K base cls names C j/\names[i]?=some n/\Q (.bl (decide (i=j))) H) :=
 nQ (lc sv hg hm iH (bC h0 (bC (pS hgn hmn (v:=.ref (cls n)) rfl hdb) dD) he) (by decide) (by decide) he hpl) fun σ H Q ⟨ea,C,j,i,h1,h2,x,h3,q⟩ =>
  ⟨_,h1,.ref ea,.ref (cls n),.ref (cls n),_,rfl,.inr ⟨_,rfl,rfl⟩,.inr ⟨ea,C,rfl,h2,x.ek,x.is i n h3⟩,q⟩
theorem Ki  (h0:PE X e0 (Dx 0)) (hg:Gl X "isinstance") (hm:X.mg "isinstance"=none) (hgn:Gl X "ValueError") (hmn:X.mg "ValueError"=none)
  (he:ap [e0,.Name "ValueError" p2] X.env=(false,bQ e0 X.env)::ap [.Name "ValueError" p2] X.env:=by rfl) (hpl:(eR pos (ap [.Name "ValueError" p2] X.env)).any (·.1)=false:=by rfl) :
  PE X (.Call (.Name "isinstance" p) [e0,.Name "ValueError" p2] [] pos) (fun σ H Q=>∃ ea C j,σ[0]?=some (some (V.ref ea))/\H ea=some (uq ea C)/\Xf X.K base cls names C j/\Q (.bl true) H) :=
 nQ (lc sv hg hm iH (bC h0 (bC (C0 hgn hmn (u:=.type "ValueError") (v:=.ty "ValueError") rfl rfl) dD) he) (by decide) (by decide) he hpl) fun σ H Q ⟨ea,C,j,h1,h2,x,q⟩ =>
  ⟨_,h1,.ref ea,.ty "ValueError",.type "ValueError",_,rfl,.inl ⟨_,rfl,rfl⟩,.inr ⟨ea,C,rfl,h2,x.ek,x.ve⟩,q⟩
end
end
end J
section
namespace J
open PySem L2
def E8 (wh:Str->Option Nat) (gb:ak->R Fl):ak->R Fl:=fun ρ=>match gb ρ with
 |.ok fl=>.ok fl
 |.ex y none=>match wh y with
  |some j=>.ok (.rt (.tuple [.str "refused",.int (j:Nat)]))
  |none=>.no
 |_=>.no
structure Wh (P:aI) (w:aW) (K:a5) (mg:Str->Option a7) (base:bc) (cls:Str->aa) (x:Str) (names:List Str) (wh:Str->Option Nat):Prop where
 fn:∃ f fd ps,zb P w K mg base 1 f fd ps (Ny K base cls names)/\mg x=some (.ref f)/\cU K (.ref f)=true/\iL K fd ps []
 pe:mg "PlanError"=some (.ref (cls "PlanError"))
 ox:∃ bp,xD base (cls "PlanError") bp
 xf:∀ y j,wh y=some j->Xf K base cls names (cls y) j
section
theorem Kj (i:Nat) (W:Wh c.X.prog c.X.w c.X.K c.X.mg c.X.base c.cls x names wh) (hb:∀ (E:XK) (xe:a7->a9->Prop) (pn:List (aa×Obj)),kU (lj c.X.prog c.X.w) (Nk c.X xe pn) E->Cv ⟨Nk c.X xe pn,c.cls,E⟩ body gb)
  (hr:jL 1 c.X.A) (hgx:Gl c.X x) (hg:Gl c.X "PlanError") (hN:c.X.N.Nodup) (hi:c.X.N[i]?=some n:=by rfl) (hn:c.X.env.scope.names.lookup n=some .local:=by rfl)
  (hst:∃ l,c.X.stack=c.X.env::l/\c.X.env.frame=some c.X.env.locals:=by exact ⟨_,rfl,rfl⟩) (hex:c.X.ex=[]:=by rfl) (hdb:(x==("__debug__" : Str))=false:=by decide) (hd:(n==("__debug__" : Str))=false:=by decide) (hcd:(n==("__classdict__" : Str))=false:=by decide) :
  JS c (.Try body [.ExceptHandler (some (.Name "PlanError" np)) (some n) [.Return (some (.Call (.Name x np2) [.Name n np3] [] cpos)) rpos] hpos] [] [] pos) (E8 wh gb):=.of fun ρ=>by
 obtain ⟨f,fd,ps,F,hm,hk,hbn⟩:=W.fn;obtain ⟨bp,y⟩:=W.ox;have hs:∀ ea,yy (O8 c.X ea) [.Return (some (.Call (.Name x np2) [.Name n np3] [] cpos)) rpos] (Oj (C5 (Ny c.X.K c.X.base c.cls names) [] E0 (C3 (Dx i) Jl))):=fun ea =>
  xl (AL (Ga (X:=O8 c.X ea) F (hr.mark _) hgx hm hk hbn (bC (lN hi (.inl hn) hd hcd) dD) hdb))
 refine xE (Nl hg W.pe y hN hi hn hst hex (tb:=fun E D σ H=>SR c.X.K c.cls E ρ (gb ρ) D σ H) (fun E xe pn hp=>hb E xe pn hp ρ) hs) fun D σ H h_0=>?_;obtain ⟨H0,Hs0,la,Hs,fr,q⟩:=h_0;replace q:lV c.X.K c.cls c.E H0 Hs0 la D (E8 wh gb ρ):=q;refine ⟨H0,Hs0,la,Hs,fr,?_⟩;unfold E8 at q;cases hr':gb ρ with
 |no=>rw [hr'] at q;exact q
 |ok fl =>
  rw [hr'] at q;cases fl<;>exact q
 |ex z m =>
  rw [hr'] at q;cases m with
  |some d=>exact q.elim
  |none =>
   simp only at q;cases hw:wh z with
   |none=>rw [hw] at q;exact q.elim
   |some j =>
    rw [hw] at q;have X0:=W.xf z j hw;intro H' Hs' st;obtain ⟨bm,o1,o2⟩:=X0.ox;refine ⟨c.cls z,bm,rfl,o1,o2,fun ea hea=>?_⟩;have hl:i<c.X.N.length:=(List.getElem?_eq_some_iff.mp hi).1;refine ⟨.ref ea,aw (by simpa [ur] using hl),ea,c.cls z,j,rfl,aK,X0,fun t H2 sm ht hT=>?_⟩;have s1:cK H' (upd H' ea (uq ea (c.cls z))):=gO hea;have ht':H' t=none:=s1.free ht;refine q (.ref t) H2 (upd Hs' t (.tup [.str "refused",.int (j:Nat)])) ?_ (.tuple aK (.cons (.str _) (.cons (.int _) .nil)));refine st.trans ⟨s1.trans sm,gO (st.sub.free ht'),fun b u e=>?_,fun a o e _ z=>by rw [aJ (aS e ht')];exact z⟩;by_cases hb':b=t
    ·subst hb';rw [aK] at e;cases e;exact hT
    ·rw [aJ hb'] at e;exact sm b u (s1 b u (st.sub b u e))
end
end J
namespace L2
open PySem
theorem jL.mono1  (r:jL k A) (h:1<=k:=by decide):jL 1 A:=⟨by have:=r.dp;omega,by have:=r.un;omega⟩
end L2
end
namespace J
open PySem L2
section
open PyProof.Rows (OwnCls)
abbrev Kk:List a7:=[.type "ValueError",.type "Exception",.type "BaseException",.type "object"]
theorem Bu {K:a5}{h:bc}{mg:Str->Option a7}{x:Str}{C:aa}{bmB:List a7}{newId:String} (X:K.In h) (G:h.Ns aT mg) (e:dv K aT x=some (some (.ref C))) (q:vA K C bmB newId=true) (m1:bJ K C (.type "BaseException")=some true) :
  OwnCls x C bmB newId mg h/\∃ bm,xD h C bm/\∀ v,(v==bE C)=false->bJ K C v=some true->bm.contains v=true:=by
 have hmg:=eL X G e;unfold vA at q;split at q
 ·rename_i dd cd sl look
  split at q
  ·rename_i C' bm k0 k1 k2 k3 n k5 hmro hslots
   simp only [aB,beq_iff_eq,si] at q;obtain ⟨⟨⟨⟨⟨rfl,rfl⟩,nodel⟩,tl⟩,nsok⟩,noinit⟩:=q;have slots:sl=#[k0,k1,k2,k3,some (.builtin n),k5]:=by
    cases sl with|mk l=>simp only at hslots;rw [hslots]
   have inMro:∀ v,bJ K C' v=some true->cd.mro.contains v=true:=fun v hv=>by
    unfold bJ eK at hv;rw [look] at hv;simp only [Option.bind_some] at hv;split at hv
    ·cases hv
    ·exact bh hv
   have bB:∀ v,(v==bE C')=false->bJ K C' v=some true->bm.contains v=true:=fun v nv hv=>by
    have:=inMro v hv;rw [hmro,kf,nv,pP] at this;exact this
   obtain ⟨nm,bs,mro,ns,qn,hd,sn,sub,ab,col,del⟩:=cd;dsimp only at hmro nodel nsok noinit;subst hmro nodel slots;have at_:=X _ _ look;exact ⟨⟨hmg,bm,ns,nm,qn,bs,hd,sn,sub,ab,col,dd,k0,k1,k2,k3,k5,_,at_,.of_isNs (jI X nsok),dw X nsok noinit,PySem.W.tail_of_in X tl⟩,
    bm,⟨⟨nm,qn,ns,bs,hd,sn,sub,ab,col,dd,k0,k1,k2,k3,k5,n,at_⟩,bB _ rfl m1⟩,bB⟩
  ·cases q
 ·cases q
structure TopC (K:a5) (x:Str) (C:aa):Prop where
 ns:dv K aT x=some (some (.ref C))
 ex:vA K C Kk "ValueError.__new__"=true
 mb:bJ K C (.type "BaseException")=some true
theorem TopC.er {K:a5}{h:bc}{mg:Str->Option a7}{cls:Str->aa}{x:Str}{C:aa} (T:TopC K x C) (X:K.In h) (G:h.Ns aT mg) (hc:cls x=C):Er mg h cls x:=by
 subst hc;exact ⟨_,_,_,_,(Bu X G T.ns T.ex T.mb).1,PySem.F.excBase_ValueError⟩
theorem Kl {K:a5}{t C:aa}{cd:ClassData}{b:Bool} (h1:eK K C=some cd) (h2:u4 K (.ref C)=some (.type "type")) (h3:kR K (.ref t) (.ref C)=some b) (hn:b=false->t≠C):cF K (.ref t) (.ref C)=some b:=by
 unfold cF;split
 ·rename_i he
  have e:t=C:=by have:=eq_of_beq he;cases this;rfl
  cases b with
  |true=>rfl
  |false=>exact (hn rfl e).elim
 ·unfold F9;simp only [h1,h2,pE,beq_self_eq_true,hJ,if_true];exact h3
theorem Nz  (h3:kR K (.ref t) (.type "ValueError")=some true):cF K (.ref t) (.type "ValueError")=some true:=by
 unfold cF;split
 ·rename_i he
  cases (eq_of_beq he)
 ·unfold F9;show (if PySem.W.kitMeta "ValueError"=true then _ else none)=some true;rw [if_pos (by decide +kernel)];exact h3
inductive Pb (K:a5) (F:List D->R D) (vs:List V) (H:Hp) (Q:VK) (z_3:XK):Prop
 |mk (Hs ds d:_) (h0:cK Hs H) (h1:ds.length=1) (h2:RDs K Hs vs ds) (h3:F ds=.ok d) (h4:∀ v H' Hs',cp H Hs H' Hs'->RD K Hs' v d->Q v H'):Pb K F vs H Q z_3
def Pc (K:a5) (F:List D->R D):Sp:=Pb K F
theorem NA   : ∀ vs H Q E,Pc K F vs H Q E->LF K cls 1 F vs H Q E:=fun vs H Q E ⟨Hs,ds,d,s,l,r,e,q⟩=>⟨Hs,ds,s,l,r,by rw [e];exact q⟩
def Pd (l:List (Str×aa)):Str->aa:=fun x=>(l.lookup x).getD 0
theorem NB {K:a5}{F:List D->R D}{H:Hp}{a:aa}{ns:List Int} (hF:F [.list (ns.map .int)]=.ok (.bool true)) (h:k_ K H a (ns.map V.int)):Pc K F [.ref a] H (fun v _=>v=.bl true) fun _ _ _=>False:=by
 have ri:∀ ns:List Int,RDs K H (ns.map V.int) (ns.map .int):=fun ns=>by
  induction ns with
  |nil=>exact .nil
  |cons x r ih=>exact .cons (.int x) ih
 refine ⟨H,[.list (ns.map .int)],.bool true,.refl H,rfl,.cons (.list h (ri ns)) .nil,hF,?_⟩;intro v H' Hs' _ r;cases r;rfl
theorem NC      (h:lj P w [] H s (fun _ _ _=>False) e s'):False:=by
 obtain ⟨_,_,_,_,_,_,_,_,_,q⟩:=h;exact q
theorem walkF {l:sR}{k:Nat}{q:aI}{loose:List Str}{XP:(Str->Option a7)->bc->Prop}{YP:aW->bc->Prop}{d:DefRec}{K:Params->a5}{x:Str}{F0:List D->R D}
  (hn:l.most=some 63) (hdf:d.params.defaults=[]) (hr:iS k sd) (hY:∀ (w:aW) (h:bc),YP w h->(K w.params).In h)
  (F:∀ (w:aW) (mg:Str->Option a7) (fa:aa) (h:bc),(K w.params).In h->h.Ns aT mg->mg d.name=some (.ref fa) ->
   ∃ fd:cY,(∀ (s:a9) (u:a7),s9 s fd ⟨[u],[]⟩ [(x,u)])/\∀ base:bc,(K w.params).In base->base.Ns aT mg->oy l.prog w (K w.params) mg base (lj l.prog w) k fa fd [x] (Pc (K w.params) F0))
  (hF:∀ ns:List Int,ns.length<=63->F0 [.list (ns.map .int)]=.ok (.bool true)) :
  IC q loose XP YP l.row.toRowW d [] (fun f vs=>Dn f vs) :=
 L2.Jx (n:=63) (k:=k) (x:=x) (CX:=fun w=>lj l.prog w) (sp:=fun w=>Pc (K w.params) F0) hn (by decide) hdf hr hY F (fun w H a ns hl _ hS=>NB (hF ns hl) hS) fun _ _ _ _ _ h=>NC h
def Qr (i:Nat) (g:ak->R Fl):ak->R Fl:=fun ρ=>g (shareAt i ρ)
theorem GI (i:Nat)  (h:JS c st gs):JS c st (Qr i gs):=Bs i h
end
section
section
theorem gS {α β:Type} (a:α) (f:α->R β):(R.ok a).bind f=f a:=id rfl
def GJ (h:ak->R Fl):Fl->R Fl:=fun fl=>match fl with
 |.nx ρ'=>h ρ'
 |fl=>.ok fl
theorem wH (g h:ak->R Fl):bj g h (s::ρ)=(g (s::ρ)).bind (GJ h):=id rfl
theorem nr (h:ak->R Fl) (ρ:ak):GJ h (.nx ρ)=h ρ:=id rfl
theorem zx (h:ak->R Fl) (d:D):GJ h (.rt d)=.ok (.rt d):=id rfl
def Qs (g h:ak->R Fl) (ρ:ak):Bool->R Fl:=fun b=>bif b then g ρ else h ρ
theorem ND (t:ak->R Bool) (g h:ak->R Fl):fM t g h (s::ρ)=(t (s::ρ)).bind (Qs g h (s::ρ)):=by
 show (t (s::ρ)).bind _=_;congr 1;funext b;cases b<;>rfl
theorem GK (g h:ak->R Fl) (ρ:ak):Qs g h ρ true=g ρ:=id rfl
theorem Bv (g h:ak->R Fl) (ρ:ak):Qs g h ρ false=h ρ:=id rfl
theorem GL (g h:ak->R Fl) (ρ:ak) (b:Bool):Qs g h ρ b=bif b then g ρ else h ρ:=id rfl
def RU:D->R Fl:=fun d=>.ok (.rt d)
theorem LN (g:ak->R D):eA g (s::ρ)=(g (dR (s::ρ))).bind RU:=id rfl
theorem Pe (d:D):RU d=.ok (.rt d):=id rfl
def uN:Sl->Sl
 |.own d=>.shr d
 |.ow2 dss=>.shr (.list (dss.map .list))
 |s=>s
theorem CF:dR (s::ρ)=uN s::dR ρ:=by cases s<;>rfl
theorem zy:dR []=[]:=id rfl
theorem CG:uN .no=.no:=id rfl
theorem zz (d:D):uN (.shr d)=.shr d:=id rfl
theorem zA (d:D):uN (.own d)=.shr d:=id rfl
theorem zB (d:List (List D)):uN (.ow2 d)=.shr (.list (d.map .list)):=id rfl
def Pf (i:Nat) (ρ:ak):D->R Fl:=fun d=>.ok (.nx (ρ.set i (.shr d)))
theorem GM (i:Nat) (g:ak->R D):i8 i g (s::ρ)=(g (s::ρ)).bind (Pf i (s::ρ)):=id rfl
theorem GN (i:Nat) (ρ:ak) (d:D):Pf i ρ d=.ok (.nx (ρ.set i (.shr d))):=id rfl
def LO (i:Nat) (ρ:ak):D->R Fl:=fun d=>.ok (.nx (ρ.set i (.own d)))
theorem GO (i:Nat) (g:ak->R D):ko i g (s::ρ)=(g (s::ρ)).bind (LO i (s::ρ)):=id rfl
theorem CH (i:Nat) (ρ:ak) (d:D):LO i ρ d=.ok (.nx (ρ.set i (.own d))):=id rfl
def RV (gb:ak->R D) (h:D->D->R D) (ρ:ak):D->R D:=fun x=>(gb ρ).bind (h x)
theorem Pg (ga gb:ak->R D) (h:D->D->R D):g2 ga gb h (s::ρ)=(ga (s::ρ)).bind (RV gb h (s::ρ)):=id rfl
theorem LP (gb:ak->R D) (h:D->D->R D) (ρ:ak) (x:D):RV gb h ρ x=(gb ρ).bind (h x):=id rfl
def Km:D->R Bool:=fun d=>match d with
 |.bool b=>.ok b
 |_=>.no
theorem LQ (g:ak->R D):iD g (s::ρ)=(g (s::ρ)).bind Km:=id rfl
theorem GP (b:Bool):Km (.bool b)=.ok b:=id rfl
def Ph:Bool->R Bool:=fun b=>.ok (!b)
theorem LR (g:ak->R Bool):lR g (s::ρ)=(g (s::ρ)).bind Ph:=id rfl
theorem GQ (b:Bool):Ph b=.ok (!b):=id rfl
def Pi (h:ak->R Bool) (ρ:ak):Bool->R Bool:=fun b=>bif b then h ρ else .ok false
def RW (h:ak->R Bool) (ρ:ak):Bool->R Bool:=fun b=>bif b then .ok true else h ρ
theorem LS (g h:ak->R Bool):sY g h (s::ρ)=(g (s::ρ)).bind (Pi h (s::ρ)):=by
 show (g (s::ρ)).bind _=_;congr 1;funext b;cases b<;>rfl
theorem Pj (g h:ak->R Bool):EV g h (s::ρ)=(g (s::ρ)).bind (RW h (s::ρ)):=by
 show (g (s::ρ)).bind _=_;congr 1;funext b;cases b<;>rfl
theorem GR (h:ak->R Bool) (ρ:ak) (b:Bool):Pi h ρ b=bif b then h ρ else .ok false:=id rfl
theorem LU (h:ak->R Bool) (ρ:ak) (b:Bool):RW h ρ b=bif b then .ok true else h ρ:=id rfl
def LV:Bool->R D:=fun b=>.ok (.bool (!b))
theorem GS (g:ak->R D):Cm g (s::ρ)=((g (s::ρ)).bind Km).bind LV:=id rfl
theorem CI (b:Bool):LV b=.ok (.bool (!b)):=id rfl
def LW (h:ak->R D) (ρ:ak):Bool->R D:=fun b=>bif b then h ρ else .ok (.bool false)
theorem GT (g h:ak->R D):ze g h (s::ρ)=((g (s::ρ)).bind Km).bind (LW h (s::ρ)):=by
 show (iD g (s::ρ)).bind _=(iD g (s::ρ)).bind _;congr 1;funext b;cases b<;>rfl
theorem CJ (h:ak->R D) (ρ:ak) (b:Bool):LW h ρ b=bif b then h ρ else .ok (.bool false):=id rfl
def Pk (g h:ak->R D) (ρ:ak):Bool->R D:=fun b=>bif b then g ρ else h ρ
theorem LX (t:ak->R Bool) (g h:ak->R D):Qn t g h (s::ρ)=(t (s::ρ)).bind (Pk g h (s::ρ)):=by
 show (t (s::ρ)).bind _=_;congr 1;funext b;cases b<;>rfl
theorem GU (g h:ak->R D) (ρ:ak) (b:Bool):Pk g h ρ b=bif b then g ρ else h ρ:=id rfl
def Pl (gb gc:ak->R D) (h h':D->D->R D) (ρ:ak):D->R D:=fun x=>(gb ρ).bind fun y=>(h x y).bind fun z=>match z with
 |.bool true=>(gc ρ).bind fun w=>h' y w
 |.bool false=>.ok (.bool false)
 |_=>.no
def Pm (gc:ak->R D) (h h':D->D->R D) (ρ:ak) (x:D):D->R D:=fun y=>(h x y).bind fun z=>match z with
 |.bool true=>(gc ρ).bind fun w=>h' y w
 |.bool false=>.ok (.bool false)
 |_=>.no
def Pn (gc:ak->R D) (h':D->D->R D) (ρ:ak) (y:D):D->R D:=fun z=>match z with
 |.bool true=>(gc ρ).bind (h' y)
 |.bool false=>.ok (.bool false)
 |_=>.no
theorem CK (ga gb gc:ak->R D) (h h':D->D->R D):n8 ga gb gc h h' (s::ρ)=(ga (s::ρ)).bind (Pl gb gc h h' (s::ρ)):=id rfl
theorem GV (gb gc:ak->R D) (h h':D->D->R D) (ρ:ak) (x:D):Pl gb gc h h' ρ x=(gb ρ).bind (Pm gc h h' ρ x):=id rfl
theorem GW (gc:ak->R D) (h h':D->D->R D) (ρ:ak) (x y:D):Pm gc h h' ρ x y=(h x y).bind (Pn gc h' ρ y):=id rfl
theorem GX (gc:ak->R D) (h':D->D->R D) (ρ:ak) (y:D) (b:Bool):Pn gc h' ρ y (.bool b)=bif b then (gc ρ).bind (h' y) else .ok (.bool false):=by cases b<;>rfl
def GY (gs:ak->R (List D)) (ρ:ak):D->R (List D):=fun d=>(gs ρ).bind fun ds=>.ok (d::ds)
def GZ (d:D):List D->R (List D):=fun ds=>.ok (d::ds)
theorem G_ (g:ak->R D) (gs:ak->R (List D)):J.af g gs (s::ρ)=(g (s::ρ)).bind (GY gs (s::ρ)):=id rfl
theorem zC (gs:ak->R (List D)) (ρ:ak) (d:D):GY gs ρ d=(gs ρ).bind (GZ d):=id rfl
theorem zD (d:D) (ds:List D):GZ d ds=.ok (d::ds):=id rfl
theorem LY (ρ:ak):J.aQ ρ=.ok []:=id rfl
def LZ (k:List D->D):List D->R D:=fun ds=>if ds.length<=1000 then .ok (k ds) else .no
theorem H9 (gs:ak->R (List D)) (k:List D->D):ej gs k (s::ρ)=(gs (s::ρ)).bind (LZ k):=id rfl
theorem CL (k:List D->D) (ds:List D):LZ k ds=if ds.length<=1000 then .ok (k ds) else .no:=id rfl
theorem Ha (gs:ak->R (List D)) (h:List D->R D):cG gs h (s::ρ)=(gs (s::ρ)).bind h:=id rfl
def RX (n:Nat) (F:List D->R D):List D->R D:=fun ds=>if ds.length=n then F ds else .no
theorem Po (n:Nat) (F:List D->R D) (gs:ak->R (List D)):gK n F gs (s::ρ)=(gs (s::ρ)).bind (RX n F):=id rfl
theorem L_ (n:Nat) (F:List D->R D) (ds:List D):RX n F ds=if ds.length=n then F ds else .no:=id rfl
theorem M0 (h:D->R D) (d:D):jm h [d]=h d:=id rfl
theorem Hb (d:D) (ρ:ak):zd (.shr d::ρ) 0=.ok d:=id rfl
theorem M1 (s:Sl) (ρ:ak) (n:Nat):zd (s::ρ) (n+1)=zd ρ n:=by simp [zd]
theorem Hc (d:D) (ρ:ak):yz (.shr d::ρ) 0=.ok d:=id rfl
theorem Hd (d:D) (ρ:ak):yz (.own d::ρ) 0=.ok d:=id rfl
theorem M2 (s:Sl) (ρ:ak) (n:Nat):yz (s::ρ) (n+1)=yz ρ n:=by simp [yz]
def Pp (T:String):D->R D:=fun d=>if n6 d then .ok (.bool (xI T d)) else .no
theorem M3 (g:ak->R D) (T:String):uz g T (s::ρ)=(g (s::ρ)).bind (Pp T):=id rfl
theorem He (T:String) (d:D):Pp T d=if n6 d then .ok (.bool (xI T d)) else .no:=id rfl
def Pq (gl gh:ak->R (Option Int)) (ρ:ak):D->R D:=fun x=>(gl ρ).bind fun l=>(gh ρ).bind fun h=>Bh x l h
def Pr (gh:ak->R (Option Int)) (ρ:ak) (x:D):Option Int->R D:=fun l=>(gh ρ).bind fun h=>Bh x l h
theorem Ps (g:ak->R D) (gl gh:ak->R (Option Int)):IM g gl gh (s::ρ)=(g (s::ρ)).bind (Pq gl gh (s::ρ)):=id rfl
theorem Hf (gl gh:ak->R (Option Int)) (ρ:ak) (x:D):Pq gl gh ρ x=(gl ρ).bind (Pr gh ρ x):=id rfl
theorem Hg (gh:ak->R (Option Int)) (ρ:ak) (x:D) (l:Option Int):Pr gh ρ x l=(gh ρ).bind (Bh x l):=id rfl
theorem M4 (ρ:ak):K2 ρ=.ok none:=id rfl
def Pt:D->R (Option Int):=fun d=>match d with
 |.int i=>.ok (some i)
 |_=>.no
theorem M5 (g:ak->R D):Ak g (s::ρ)=(g (s::ρ)).bind Pt:=id rfl
theorem Hh (i:Int):Pt (.int i)=.ok (some i):=id rfl
theorem Kn (g:ak->R D):mG g (s::ρ)=(g (s::ρ)).bind uB:=id rfl
theorem Hi (gs:ak->R (List D)):wG gs (s::ρ)=(gs (s::ρ)).bind Bl:=id rfl
theorem M6 (gs:ak->R (List D)):Gy gs (s::ρ)=(gs (s::ρ)).bind Qp:=id rfl
theorem M7 (gs:ak->R (List D)):Ka gs (s::ρ)=(gs (s::ρ)).bind zp:=id rfl
def M8 (nt:Nat) (ix:List Nat) (gt:ak->R Bool) (ge:ak->R D) (ρ:ak):List D->R D:=fun ds=>if ds.length<=1000 then (fZ (gQ nt (lv nt ix ρ) gt ge) ds).bind fun ys=>.ok (.list ys) else .no
def M9:List D->R D:=fun ys=>.ok (.list ys)
theorem Hj (nt:Nat) (ix:List Nat) (gi:ak->R (List D)) (gt:ak->R Bool) (ge:ak->R D):hW nt ix gi gt ge (s::ρ)=(gi (s::ρ)).bind (M8 nt ix gt ge (s::ρ)):=id rfl
theorem CM (nt:Nat) (ix:List Nat) (gt:ak->R Bool) (ge:ak->R D) (ρ:ak) (ds:List D):M8 nt ix gt ge ρ ds=if ds.length<=1000 then (fZ (gQ nt (lv nt ix ρ) gt ge) ds).bind M9 else .no:=id rfl
theorem CN (ys:List D):M9 ys=.ok (.list ys):=id rfl
theorem zE (gi:ak->R (List D)) (kt:D->ak->R ak) (gb:ak->R Fl) (ds:List D) (h:gi (s::ρ)=.ok ds):rJ gi kt gb (s::ρ)=iU kt gb ds (s::ρ):=by unfold rJ;rw [h]
def Ko (k:D->ak->R ak) (ρ:ak):D->R Fl:=fun d=>match k d ρ with
 |.ok ρ'=>.ok (.nx ρ')
 |_=>.no
theorem Ma (g:ak->R D) (k:D->ak->R ak):zi g k (s::ρ)=(g (s::ρ)).bind (Ko k (s::ρ)):=id rfl
theorem wI (ds:List D):uB (.list ds)=.ok ds:=id rfl
theorem wJ (ds:List D):uB (.tuple ds)=.ok ds:=id rfl
theorem wK (x:Str):uB (.str x)=.ok (jM x):=id rfl
theorem Hk (ds:List D):Qp [.tuple ds]=.ok (mF 0 ds):=id rfl
theorem Pu (ds es:List D):zp [.tuple ds,.tuple es]=.ok (rH ds es):=id rfl
def wL (ρ:ak) (i:Nat):Sl:=Kc ((ρ[i]?).getD .no)
def Hl (ix:List Nat) (ρ:ak):ak:=ix.map (wL ρ)
theorem Hm (ix:List Nat) (ρ:ak):lv 1 ix ρ=.no::Hl ix ρ:=id rfl
theorem Ho (ix:List Nat) (ρ:ak):lv 2 ix ρ=.no::.no::Hl ix ρ:=id rfl
theorem Hq (ρ:ak):Hl [] ρ=[]:=id rfl
theorem Hr (i:Nat) (ix:List Nat) (ρ:ak):Hl (i::ix) ρ=wL ρ i::Hl ix ρ:=id rfl
theorem Ht (s:Sl) (ρ:ak):wL (s::ρ) 0=Kc s:=id rfl
theorem Hu (s:Sl) (ρ:ak) (n:Nat):wL (s::ρ) (n+1)=wL ρ n:=by simp [wL]
theorem wM (d:D):Kc (.shr d)=.shr d:=id rfl
theorem Hv   (h:ρ[i]?=some (Sl.own d)):shareAt i ρ=ρ.set i (.shr d):=by unfold shareAt;rw [h]
theorem c7 {α:Type} (f:D->R (Option D)) (c:α->D) (h:α->D):∀ (xs:List α),(∀ x∈xs,f (c x)=.ok (some (h x)))->fZ f (xs.map c)=.ok (xs.map h)
 |[],_=>rfl
 |x::r,e=>by
  rw [al,al];unfold fZ;rw [e x av,bind_ok,c7 f c h r fun y hy=>e y (am _ hy),bind_ok]
theorem Mb    : gQ 1 ρ gt ge d=GA (((gt (ρ.set 0 (.shr d)))).bind fun b=>if b then (ge (ρ.set 0 (.shr d))).bind fun y=>.ok (some y) else .ok none):=id rfl
theorem cV    (h1:gt (ρ.set 0 (.shr d))=.ok true) (h2:ge (ρ.set 0 (.shr d))=.ok y):gQ 1 ρ gt ge d=.ok (some y):=by
 rw [Mb,h1,bind_ok,if_pos rfl,h2];rfl
theorem Kp     (h1:gt (ρ.set 0 (.shr d))=.ok b) (h2:b=true->ge (ρ.set 0 (.shr d))=.ok y):gQ 1 ρ gt ge d=.ok (if b then some y else none):=by
 rw [Mb,h1,bind_ok];cases b with
 |true=>rw [if_pos rfl,h2 rfl];rfl
 |false=>rfl
theorem Kq (h1:-(2 ^ 62)<=j) (h2:j<2 ^ 62):Bl [.int j]=.ok (ni 0 j.toNat):=by
 have h:-(2 ^ 62)<=j/\j<2 ^ 62:=⟨h1,h2⟩;unfold Bl;split
 ·rename_i j' e
  have e':j=j':=by injection e with e;injection e
  subst e';rw [if_pos h]
 ·rename_i hn
  exact (hn j rfl).elim
end
end
end J
section
namespace L2
open PySem PySem.Spec PyProof.Rows
end L2
namespace J
open PySem L2
open PyProof.Rows (envOfC)
section
end
section
variable {c:C}{body:List dC}{x n:Str}{np np2 np3 hpos cpos rpos pos:Pos}{gb:ak->R Fl}{names:List Str}{wh:Str->Option Nat}
end
theorem S6 {α:Type}{us:List α} (h:us.length=1):∃ a,us=[a]:=by
 rcases us with _|⟨a0,_|⟨z,r⟩⟩
 ·simp at h
 ·exact ⟨_,rfl⟩
 ·simp at h
theorem S7 {α:Type}{us:List α} (h:us.length=2):∃ a b,us=[a,b]:=by
 rcases us with _|⟨a0,_|⟨a0,_|⟨z,r⟩⟩⟩
 ·simp at h
 ·simp at h
 ·exact ⟨_,_,rfl⟩
 ·simp at h
theorem S8 {α:Type}{us:List α} (h:us.length=3):∃ a b c,us=[a,b,c]:=by
 rcases us with _|⟨a0,_|⟨a0,_|⟨a0,_|⟨z,r⟩⟩⟩⟩
 ·simp at h
 ·simp at h
 ·simp at h
 ·exact ⟨_,_,_,rfl⟩
 ·simp at h
theorem S9 {α:Type}{us:List α} (h:us.length=4):∃ a b c d,us=[a,b,c,d]:=by
 rcases us with _|⟨a0,_|⟨a0,_|⟨a0,_|⟨a0,_|⟨z,r⟩⟩⟩⟩⟩
 ·simp at h
 ·simp at h
 ·simp at h
 ·simp at h
 ·exact ⟨_,_,_,_,rfl⟩
 ·simp at h
theorem Sa {α:Type}{us:List α} (h:us.length=5):∃ a b c d e,us=[a,b,c,d,e]:=by
 rcases us with _|⟨a0,_|⟨a0,_|⟨a0,_|⟨a0,_|⟨a0,_|⟨z,r⟩⟩⟩⟩⟩⟩
 ·simp at h
 ·simp at h
 ·simp at h
 ·simp at h
 ·simp at h
 ·exact ⟨_,_,_,_,_,rfl⟩
 ·simp at h
end J
end
namespace J
open PySem L2
section
section
end
end
end J
section
namespace HT
open PySem PyProof.Rows
section
open PySem.SeqAt
open PySem.AutoSeq1 (wpAny_loadPart')
open PySem.MeetsSeq PySem.MeetsSeq2 PySem.MeetsSeq3
end
end HT
namespace L2
open PySem PySem.Spec PyProof.Rows
section
variable {X:Cx}{e st:aO}{te ts:TE}{pos p2:Pos}
end
end L2
namespace J
open PySem L2
section
variable {c:C}{e:aO}{g:ak->R D}{pos p2 p3 p4:Pos}
end
end J
end
section
namespace L2
open PySem
def RY (mask:Nat):Nat->Nat×Nat->Nat×Nat
 | 0,x=>x
 |n+1,x=>RY mask n (SetTable.leap mask x.1 x.2)
def Sc (mask:Nat):Bool:=(bL (mask+1)).all fun i=>(bL (mask+1)).all fun j=>(bL (mask+1)).any fun n=>decide ((RY mask n (i,0)).1=j)
theorem getD_none {owner:Array (Option Nat)}{k:Nat} (h:owner.getD k (some 0)=none):owner.toList[k]?=some none:=by
 by_cases hk:k<owner.size
 ·rw [vj,wb hk] at h;rw [dg,wb hk];simpa using h
 ·rw [vj,Array.getElem?_eq_none (by omega)] at h;cases h
end L2
namespace L2
open PySem
section
end
end L2
namespace L2
open PySem
section
end
end L2
namespace L2
open PySem
section
end
end L2
namespace L2
open PySem PyProof.Rows
section
variable {P:aI}{w:aW}{A:aV}{E:a7->a9->Prop}{s:a9}
end
end L2
namespace L2
open PySem PyProof.Rows
end L2
namespace J
open PySem L2
section
end
end J
namespace J
open PySem L2
section
end
end J
namespace J
open PySem L2
end J
end
section
namespace L2
open PySem PySem.Spec PyProof.Rows
section
end
end L2
namespace L2
open PySem PySem.Spec PyProof.Rows
section
end
end L2
namespace L2
open PySem PySem.Spec PyProof.Rows
end L2
namespace J
open PySem L2
section
end
end J
namespace L2
open PySem PySem.Spec PyProof.Rows
end L2
namespace J
open PySem L2
section
end
end J
namespace L2
open PySem PySem.Spec PyProof.Rows
end L2
namespace J
open PySem L2
section
end
end J
namespace J
open PySem L2
end J
end
namespace J
open PySem L2 PyProof.Rows
section
structure En where
 P:aI
 w:aW
 K:a5
 mg:Str->Option a7
 base:bc
 cls:Str->aa
abbrev FN (e:En):=Fn e.P e.w e.K e.mg e.base e.cls
abbrev ER (e:En):=Er e.mg e.base e.cls
abbrev Cn (mg:Str->Option a7) (x:Str) (n:Int):Prop:=∃ t,mg x=some (.int n t)
structure js (K:a5) (mg:Str->Option a7) (x:Str) (st:dC):Prop where
 ex:∃ f fd,Aj K x x st f fd/\mg x=some (.ref f)
section
variable {K:a5}{h:bc}{mg:Str->Option a7}{x:Str}
theorem d_in {st:dC}{A:aa}{od an:Option aa}{sl:Array (Option a7)}{oc kV dc pm cv ct:a7} (X:K.In h) (G:h.Ns aT mg) (a:dv K aT x=some (some (.ref A)))
  (l:K.lookup A=some ⟨oc,od,.func (dq x x (j3 st) (fh st) (aC st) .none kV dc pm an cv ct),sl⟩) (c:ij K cv x=true) (k:cU K (.ref A)=true):js K mg x st :=
 ⟨_,_,FE l c k,eL X G a⟩
theorem cn_in  (X:K.In h) (G:h.Ns aT mg) (t:dv K aT x=some (some (.int n tk))):Cn mg x n:=⟨_,eL X G t⟩
inductive Zs (K:a5):List Str->Prop
 |nil:Zs K []
 |cons {x:Str}{r:List Str}:dv K aT x=some none->Zs K r->Zs K (x::r)
theorem Zs.get (z:Zs K r):∀ x∈r,dv K aT x=some none:=by
 induction z with
 |nil=>exact fun _ h=>nomatch h
 |cons a _ ih =>
  intro y hy;rcases List.mem_cons.mp hy with e|e
  ·rw [e];exact a
  ·exact ih y e
abbrev zn:List Str:=["len","isinstance","all","any","zip","tuple","list","sorted","set","range","enumerate","dict","sum","max","min","reversed","str","int","bool","ValueError"]
theorem Pw (X:K.In h) (G:h.Ns aT mg) (z:Zs K zn):Bi mg:=by
 have q:∀ x∈zn,mg x=none:=fun x hx=>AG X G (z.get x hx);exact ⟨q _ (by decide),q _ (by decide),q _ (by decide),q _ (by decide),q _ (by decide),q _ (by decide),q _ (by decide),q _ (by decide),q _ (by decide),q _ (by decide),q _ (by decide),q _ (by decide),q _ (by decide),q _ (by decide),q _ (by decide),q _ (by decide),q _ (by decide),q _ (by decide),q _ (by decide)⟩
theorem Px (X:K.In h) (G:h.Ns aT mg) (z:Zs K zn):mg "ValueError"=none:=AG X G (z.get _ (by decide))
end
section
variable {P:aI}{w:aW}{K:a5}{mg:Str->Option a7}{base:bc}{N:List Str}{qual:Str}{scope:dO}{f:aa}{cd:a7}{A:aV}{outer:List Env}{s:a9}{H:Hp}{E:XK}
theorem px:kU (lj P w) (iG (lj P w) P w K mg base N qual scope f cd A outer s H E) E:=z9 fun _ _ h=>h
end
section
theorem jc  (G:Fn c.X.prog c.X.w c.X.K c.X.mg c.X.base c.cls x k n F) (hr:iS j c.X.A) (hx:kU (lj c.X.prog c.X.w) c.X c.E) (ha:DU c (e::es) gs)
  (hk:k<=j:=by decide) (hg:Gl c.X x:=by exact rfl) (hdb:(x==("__debug__" : Str))=false:=by decide) (he:ap (e::es) c.X.env=(false,bQ e c.X.env)::ap es c.X.env:=by rfl) (hpl:(eR pos (ap es c.X.env)).any (·.1)=false:=by rfl) :
  JE c (.Call (.Name x p) (e::es) [] pos) (gK n F gs):=K6 G (hr.mono hk) hg hx ha hdb he hpl
end
abbrev Bq (x:Str) (st:dC) (us:List a7) (r:List (Str×a7)):Prop:=∀ (kV doc pm:a7) (an:Option aa) (cdv ct:a7),IQ (dq x x (j3 st) (fh st) (aC st) .none kV doc pm an cdv ct) ⟨us,[]⟩=pure r
section
variable {K:a5}{x:Str}{st:dC}{f:aa}{fd:cY}
theorem b1 (F:Aj K x x st f fd) (h:∀ u,Bq x st [u] [(a,u)]:=by exact fun _ _ _ _ _ _ _=>rfl):iL K fd [a] []:=F.binds fun _ _ _ _ _ _ us hl=>by obtain ⟨_,rfl⟩:=S6 hl;exact h ..
theorem b2 (F:Aj K x x st f fd) (h:∀ u v,Bq x st [u,v] [(a,u),(b,v)]:=by exact fun _ _ _ _ _ _ _ _=>rfl):iL K fd [a,b] []:=F.binds fun _ _ _ _ _ _ us hl=>by obtain ⟨_,_,rfl⟩:=S7 hl;exact h ..
theorem b3 (F:Aj K x x st f fd) (h:∀ u v w,Bq x st [u,v,w] [(a,u),(b,v),(c,w)]:=by exact fun _ _ _ _ _ _ _ _ _=>rfl):iL K fd [a,b,c] []:=F.binds fun _ _ _ _ _ _ us hl=>by obtain ⟨_,_,_,rfl⟩:=S8 hl;exact h ..
theorem b4 (F:Aj K x x st f fd) (h:∀ u v w z,Bq x st [u,v,w,z] [(a,u),(b,v),(c,w),(d,z)]:=by exact fun _ _ _ _ _ _ _ _ _ _=>rfl):iL K fd [a,b,c,d] []:=F.binds fun _ _ _ _ _ _ us hl=>by obtain ⟨_,_,_,_,rfl⟩:=S9 hl;exact h ..
theorem b5 (F:Aj K x x st f fd) (h:∀ u v w z y,Bq x st [u,v,w,z,y] [(a,u),(b,v),(c,w),(d,z),(e,y)]:=by exact fun _ _ _ _ _ _ _ _ _ _ _=>rfl):iL K fd [a,b,c,d,e] []:=F.binds fun _ _ _ _ _ _ us hl=>by obtain ⟨_,_,_,_,_,rfl⟩:=Sa hl;exact h ..
end
theorem uO {e:En}{x:Str}{st:dC}{N ps:List Str}{k:Nat}{g:ak->R Fl} (D:js e.K e.mg x st) (S:bK N ps (aC st)) (b:∀ {f:aa}{fd:cY},Aj e.K x x st f fd->iL e.K fd ps [])
  (h:∀ (f:aa) (cdv:a7) (A:aV) (outer:List Env) (s:a9) (H:Hp) (E:XK),iS k (A.deeper (ii x (aC st) s.heap.objs.size f cdv))->Cv ⟨iG (lj e.P e.w) e.P e.w e.K e.mg e.base N x (aC st) f cdv A outer s H E,e.cls,E⟩ (fh st) g) :
  FN e x (k+1) ps.length (gR N.length g):=by
 obtain ⟨f,fd,F,hm⟩:=D.ex;exact Pa F S hm (b F) (h f)
def RZ (N P:List Str) (sc:dO):Bool:=decide (sc.kind=.function) && !sc.isCoroutine && !sc.isGenerator&&decide N.Nodup&&decide (N.take P.length=P)&&P.all (fun x=>decide (sc.names.lookup x=some .local)||decide (sc.names.lookup x=some .cell))&&sc.names.all fun y=>decide (y.2≠.free)
theorem fo  (h:RZ N P sc=true):bK N P sc:=by
 unfold RZ at h;simp only [aB,decide_eq_true_eq,si,cj,mY] at h;obtain ⟨⟨⟨⟨⟨⟨a,b⟩,c⟩,d⟩,e⟩,f⟩,g⟩:=h;exact ⟨a,b,c,d,e,f,g⟩
structure Cw (K:a5) (x:Str) (C:aa):Prop where
 ns:dv K aT x=some (some (.ref C))
 cl:∃ cd,eK K C=some cd
 ty:u4 K (.ref C)=some (.type "type")
theorem cw_in {K:a5}{x:Str}{C:aa}{cd:ClassData} (a:dv K aT x=some (some (.ref C))) (i:eK K C=some cd) (y:u4 K (.ref C)=some (.type "type")):Cw K x C:=⟨a,⟨_,i⟩,y⟩
inductive Kr (K:a5):List Str->List aa->Prop
 |nil:Kr K [] []
 |cons {x:Str}{C:aa}{ns:List Str}{Cs:List aa}:Cw K x C->Kr K ns Cs->Kr K (x::ns) (C::Cs)
inductive Sb (K:a5) (C:aa):List (aa×Bool)->Prop
 |nil:Sb K C []
 |cons {D:aa}{b:Bool}{l:List (aa×Bool)}:kR K (.ref C) (.ref D)=some b->(b=false->C≠D)->Sb K C l->Sb K C ((D,b)::l)
structure Wy (K:a5) (C CP:aa) (l:List (aa×Bool)):Prop where
 x1:eS K (.ref C) "__getattribute__"=some (some (.builtin "BaseException.__getattribute__"))
 x2:eS K (.ref C) "__getattr__"=some none
 x3:eS K (.ref C) "__class__"=some (some (.builtin "object.__class__"))
 x4:pI K (.builtin "object.__class__") "__get__"=some (some (.builtin "getset_descriptor.__get__"))
 x5:sQ K (.builtin "object.__class__")=some true
 x6:bJ K C (.type "object")=some true
 x7:bJ K C (.ref CP)=some true
 x8:kR K (.ref C) (.type "ValueError")=some true
 x9:(bE CP==bE C)=false
 sb:Sb K C l
theorem Kr.at {K:a5}{ns:List Str}{Cs:List aa} (N:Kr K ns Cs):∀ (i:Nat) (n:Str),ns[i]?=some n->∃ C,Cs[i]?=some C/\Cw K n C:=by
 induction N with
 |nil=>intro i n h;simp at h
 |cons a _ ih =>
  intro i n h;cases i with
  |zero=>cases h;exact ⟨_,rfl,a⟩
  |succ i=>exact ih i n h
theorem Sb.at {K:a5}{C:aa}{l:List (aa×Bool)} (N:Sb K C l):∀ (i:Nat) (D:aa) (b:Bool),l[i]?=some (D,b)->kR K (.ref C) (.ref D)=some b/\(b=false->C≠D):=by
 induction N with
 |nil=>intro i D b h;simp at h
 |cons a c _ ih =>
  intro i D b h;cases i with
  |zero=>cases h;exact ⟨a,c⟩
  |succ i=>exact ih i D b h
theorem Py {K:a5}{h:bc}{mg:Str->Option a7}{cls:Str->aa}{ns:List Str}{Cs:List aa} (X:K.In h) (G:h.Ns aT mg) (N:Kr K ns Cs) (hn:ns.map cls=Cs):∀ n∈ns,mg n=some (.ref (cls n)):=by
 intro n hm;obtain ⟨i,hi,e⟩:=jH hm;have e1:ns[i]?=some n:=by rw [bg hi,e]
 obtain ⟨C,h1,h2⟩:=N.at i n e1;rw [<- hn,aE,e1] at h1;cases h1;exact eL X G h2.ns
theorem Ks {K:a5}{base:bc}{cls:Str->aa}{x:Str}{C CP:aa}{ns:List Str}{Cs:List aa}{l:List (aa×Bool)}{j:Nat} (mb:bJ K C (.type "BaseException")=some true) (Q:∃ bm,xD base C bm/\∀ v,(v==bE C)=false->bJ K C v=some true->bm.contains v=true) (W:Wy K C CP l) (N:Kr K ns Cs)
  (hc:cls x=C) (hp:cls "PlanError"=CP) (hn:ns.map cls=Cs) (hl:l.map (·.1)=Cs) (hb:l.map (·.2)=s_ j) (hj:j<11) (hx:x∈ns):Xf K base cls ns (cls x) j:=by
 obtain ⟨bm,o,mm⟩:=Q;subst hc hp;have hcl:(eK K (cls x)).isSome=true:=by
  obtain ⟨i,hi,e⟩:=jH hx;have e1:ns[i]?=some x:=by rw [bg hi,e]
  obtain ⟨C,h1,h2⟩:=N.at i x e1;rw [<- hn,aE,e1] at h1;cases h1;obtain ⟨cd,h3⟩:=h2.cl;rw [h3];rfl
 refine ⟨⟨W.x1,W.x2,W.x3,W.x4,W.x5,W.x6,mb,hcl⟩,fun i n e=>?_,Nz W.x8,⟨bm,o,mm _ W.x9 W.x7⟩,hj⟩;obtain ⟨D,h1,h2⟩:=N.at i n e;have h3:Cs[i]?=some (cls n):=by rw [<- hn,aE,e];rfl
 rw [h1] at h3;cases h3;obtain ⟨cd,h4⟩:=h2.cl;have hi:l[i]?≠none:=fun z=>by
  rw [<- hl,aE,z] at h1;cases h1
 cases hq:l[i]? with
 |none=>exact (hi hq).elim
 |some q =>
  obtain ⟨D,b⟩:=q;have e1:D=cls n:=by rw [<- hl,aE,hq] at h1;cases h1;rfl
  have e2:(s_ j)[i]?=some b:=by rw [<- hb,aE,hq];rfl
  subst e1;obtain ⟨s1,s2⟩:=W.sb.at i _ b hq;have e3:b=decide (i=j):=by
   unfold s_ at e2
   match i,e2 with
   | 0,e|1,e|2,e|3,e|4,e|5,e|6,e|7,e|8,e|9,e|10,e=>simpa using e.symm
   |(i+11),e=>simp at e
  rw [<- e3];exact Kl h4 h2.ty s1 s2
theorem Mc {K:a5}{base:bc}{mg:Str->Option a7}{cls:Str->aa}{x:Str}{C CP:aa}{ns:List Str}{Cs:List aa}{l:List (aa×Bool)}{j:Nat} (X:K.In base) (G:base.Ns aT mg) (T:TopC K x C) (W:Wy K C CP l) (N:Kr K ns Cs)
  (hc:cls x=C) (hp:cls "PlanError"=CP) (hn:ns.map cls=Cs) (hl:l.map (·.1)=Cs) (hb:l.map (·.2)=s_ j) (hj:j<11) (hx:x∈ns):Xf K base cls ns (cls x) j:=Ks T.mb (Bu X G T.ns T.ex T.mb).2 W N hc hp hn hl hb hj hx
end
end J
section
namespace L2
open PySem PySem.Spec PyProof.Rows
section
end
end L2
namespace J
open PySem L2
def keysOf:List D->Option (List fe)
 |[]=>some []
 |d::r=>(sx d).bind fun k=>(keysOf r).map (k::·)
def Md:D->Option (List fe)
 |.tuple ds=>keysOf ds
 |_=>none
def Rm:List (D×D)->List (D×D)
 |(.none,_)::r=>r
 |l=>l
def Ku (ds:List (D×D)):Bool:=!ds.isEmpty&&ds.all fun kv=>(Md kv.1).isSome
section
variable {c:C}{a b e k:aO}{ga gb g gk:ak->R D}{pos p apos:Pos}{x:Str}
def inT (neg:Bool):D->D->R D
 |k,.dict ds=>match Md k with
  |some _=>if Ku (Rm ds)=true then .ok (.bool (if neg then !(qu (Rm ds) k).isSome else (qu (Rm ds) k).isSome)) else .no
  |none=>.no
 |_,_=>.no
end
end J
namespace J
open PySem L2
section
end
end J
namespace L2
open PySem PySem.Spec PyProof.Rows
end L2
namespace J
open PySem L2
end J
namespace J
open PySem L2
end J
namespace J
open PySem L2
end J
namespace J
open PySem L2
def rS (i:Nat) (ρ:ak):R D:=zd ρ i
def rB (i:Nat) (ρ:ak):R D:=yz ρ i
def kI (n:Int) (_:ak):R D:=.ok (.int n)
def kB (b:Bool) (_:ak):R D:=.ok (.bool b)
def kN (_:ak):R D:=.ok .none
def kT (_:ak):R Bool:=.ok true
theorem Pz (i:Nat) (ρ:ak):rS i ρ=zd ρ i:=id rfl
theorem Kv (i:Nat) (ρ:ak):rB i ρ=yz ρ i:=id rfl
theorem PB (n:Int) (ρ:ak):kI n ρ=.ok (.int n):=id rfl
theorem PD (b:Bool) (ρ:ak):kB b ρ=.ok (.bool b):=id rfl
theorem PF (ρ:ak):kN ρ=.ok .none:=id rfl
end J
end
section
namespace L2
open PySem PySem.Spec PyProof.Rows
section
end
end L2
namespace J
open PySem L2
section
end
end J
end
namespace L2
open PySem PySem.Spec PyProof.Rows
section
open Builtin Builtin.ObjectAttr
inductive CO (h:bc) (bmB:List a7) (nms:List Str):List a7->Prop
 |base:CO h bmB nms bmB
 |own {A:aa}{c0:a7}{dd:Option aa}{cd:ClassData}{sl:Array (Option a7)}{mA:Str->Option a7}{tl:List a7} :
   h.get? A=some { cls:=c0,dict:=dd,data:=.cls cd,slots:=sl }->h.Ns cd.ns mA->(∀ n∈nms,mA n=none)->CO h bmB nms tl->CO h bmB nms (.ref A::tl)
section
variable {M:IP}{A:aV}{E:a7->a9->Prop}{h:bc}{g:Array An}{d:EG}{t:Nat}{os:OsState}
variable {nm q:Str}{C N x:aa}{bs bm bmB:List a7}{hdct:Bool}{sn:List Str}{sub:List a7}{ab:Bool}{col:Option Bool}{dd:Option aa}{k0 k1 k2 k3 k5:Option a7}{B newId initId sa owner:String}{nms:List Str}{name:Str}{v:a7}{mN:Str->Option a7}
end
section
variable {prog:aI}{w:aW}{A:aV}{E:a7->a9->Prop}{h:bc}{g:Array An}{d:EG}{t:Nat}{os:OsState}
variable {nm q:Str}{C N x:aa}{bs bm bmB:List a7}{sn:List Str}{sub:List a7}{ab:Bool}{col:Option Bool}{dd:Option aa}{k0 k1 k2 k3 k5:Option a7}{B newId initId sa owner:String}{nms:List Str}{name:Str}{v:a7}{mN:Str->Option a7}
end
end
section
section
variable {prog:aI}{w:aW}{A:aV}{E:a7->a9->Prop}{h:bc}{g:Array An}{d:EG}{t:Nat}{os:OsState}
variable {nm q:Str}{C N:aa}{bs bm bmB:List a7}{hdct:Bool}{sn:List Str}{sub:List a7}{ab:Bool}{col:Option Bool}{dd:Option aa}{k0 k1 k2 k3 k5:Option a7}{B newId initId:String}
end
section
end
section
end
end
section
structure NE (h:bc) (fI:aa):Prop where
 ex:∃ (oI:Obj) (fd:cY) (p1 p2 p3 p4:Pos),h.get? fI=some oI/\oI.cls=.type "function"/\oI.data=.func fd/\h.CodeRec fd.code fd.qualname/\fd.scope.isCoroutine=false/\fd.scope.isGenerator=false/\fd.scope.kind=.function /\
  fd.scope.names=[(("self" : Str),mS),(("number" : Str),mS)]/\fd.body=.stmts [.Assign [.Attribute (.Name "self" p1) "number" p2] (.Name "number" p3) p4]/\∀ (s:a9) (e v:a7),(∀ b o,h.get? b=some o->s.heap.get? b=some o)->s9 s fd ⟨[e,v],[]⟩ [("self",e),("number",v)]
section
end
section
end
end
section
structure Rn (x:Str) (C:aa) (mg:Str->Option a7) (base:bc):Prop where
 bound:mg x=some (.ref C)
 obj:∃ nm q N bs bm sn sub ab col dd k0 k1 k2 k3 k5 mN fI,base.get? C=some (excClassObj nm q C N bs bm true sn sub ab col dd k0 k1 k2 k3 k5 "ValueError.__new__")/\base.Ns N mN/\mN "__init__"=some (.ref fI)/\mN "__setattr__"=none/\mN "number"=none /\
  CO base [.type "ValueError",.type "Exception",.type "BaseException",.type "object"] ["__init__","__setattr__","number"] bm/\NE base fI
section
variable {P:aI}{w:aW}{K:a5}{mg:Str->Option a7}{base:bc}{N:List Str}{qual:Str}{scope:dO}{f:aa}{cd:a7}{A:aV}{outer:List Env}{s:a9}{H:Hp}{E:XK}
end
end
end L2
namespace J
open PySem L2
section
open PySem.W (nsIn nsOkIn codeIn fnOf)
theorem PH      (X:K.In h) (G:h.Ns N mg) (e:nsIn K N n=some (some v)):mg n=some v:=by
 obtain ⟨o,es,ep,ho,hd,_,hf⟩:=G;unfold dv at e;split at e
 ·rename_i c d es' n' sl q
  have:=X _ _ q;rw [ho] at this;cases this;cases hd;split at e
  ·rename_i he
   rw [<- hf];unfold nsFind findBy;rw [<- Dh,he];cases e;rfl
  ·split at e<;>cases e
 ·cases e
structure Ro (K:a5) (x:Str) (C:aa) (st:dC):Prop where
 ns:nsIn K aT x=some (some (.ref C))
 own:∀ {h:bc}{mg:Str->Option a7},K.In h->h.Ns aT mg->Rn x C mg h
 mb:bJ K C (.type "BaseException")=some true
 ox:∀ {h:bc},K.In h->∃ bm,xD h C bm/\∀ v,(v==bE C)=false->bJ K C v=some true->bm.contains v=true
theorem topN {K:a5}{x:Str}{C CP fI T0 Nn NP:aa}{st:dC}{nm qn nmP qnP fq:Str}{bs bsP mroP subP sub:List a7}{sn snP:List Str}{ab abP hdP delP:Bool}{col colP:Option Bool}{dd dP od dT an:Option aa}{k0 k1 k2 k3 k5:Option a7}{c0 kV doc pm cdv ct cT:a7}{slP slF slT:Array (Option a7)}{nT:Nat}{p1 p2 p3 p4:Pos}{cN cM:a7}{dN dM:Option aa}{esN esM:Array DictEntry}{epN epM:Nat}{slN slM:Array (Option a7)}
  (a1:nsIn K aT x=some (some (.ref C))) (a4:bJ K C (.type "BaseException")=some true)
  (a2:K.lookup C=some ⟨.type "type",dd,.cls ⟨nm,bs,[.ref C,.ref CP,.type "ValueError",.type "Exception",.type "BaseException",.type "object"],Nn,qn,true,sn,sub,ab,col,false⟩,#[k0,k1,k2,k3,some (.builtin "ValueError.__new__"),k5]⟩)
  (a3:K.lookup CP=some ⟨c0,dP,.cls ⟨nmP,bsP,mroP,NP,qnP,hdP,snP,subP,abP,colP,delP⟩,slP⟩)
  (b1:nsIn K Nn "__init__"=some (some (.ref fI))) (b2:nsIn K Nn "__setattr__"=some none) (b3:nsIn K Nn "number"=some none)
  (c1:nsIn K NP "__init__"=some none) (c2:nsIn K NP "__setattr__"=some none) (c3:nsIn K NP "number"=some none)
  (d1:K.lookup fI=some ⟨.type "function",od,.func (fnOf "__init__" fq (j3 st) (fh st) (aC st) (.ref T0) kV doc pm an cdv ct),slF⟩)
  (d2:K.lookup T0=some ⟨cT,dT,.seq #[.none] nT,slT⟩) (d3:codeIn K cdv fq=true)
  (g1:K.lookup Nn=some ⟨cN,dN,.dict esN epN,slN⟩) (g2:K.lookup NP=some ⟨cM,dM,.dict esM epM,slM⟩) (g3:(esN.toList.all fun e=>match e.key with | .str _ _=>true|_=>false)=true) (g4:(esM.toList.all fun e=>match e.key with | .str _ _=>true|_=>false)=true)
  (f1:fh st=[.Assign [.Attribute (.Name "self" p1) "number" p2] (.Name "number" p3) p4]) (f2:(aC st).names=[(("self" : Str),mS),(("number" : Str),mS)])
  (f3:(aC st).isCoroutine=false) (f4:(aC st).isGenerator=false) (f5:(aC st).kind=.function)
  (f6:∀ e v,∃ k,IQ (fnOf "__init__" fq (j3 st) (fh st) (aC st) (.ref T0) kV doc pm an cdv ct) ⟨[e,v],[]⟩=EO (.ref T0) >>= k/\k (some #[.none])=pure [(("self" : Str),e),(("number" : Str),v)]):Ro K x C st:=by
 have e1:nsOkIn K Nn=true:=by unfold Fa;rw [g1];show esN.all _=true;rw [<- lM];exact g3
 have e2:nsOkIn K NP=true:=by unfold Fa;rw [g2];show esM.all _=true;rw [<- lM];exact g4
 refine ⟨a1,fun {h mg} X G=>⟨eL X G a1,nm,qn,Nn,bs,_,sn,sub,ab,col,dd,k0,k1,k2,k3,k5,h.nsMap Nn,fI,X _ _ a2,.of_isNs (jI X e1),?_,dw X e1 b2,dw X e1 b3,?_,⟨_,_,p1,p2,p3,p4,X _ _ d1,rfl,rfl,oR X d3,f3,f4,f5,f2,congrArg FuncBody.stmts f1,fun s e v kb=>?_⟩⟩,a4,fun {h} X=>⟨_,⟨⟨nm,qn,Nn,bs,true,sn,sub,ab,col,dd,k0,k1,k2,k3,k5,_,X _ _ a2⟩,rfl⟩,fun v nv hv=>?_⟩⟩
 ·exact PH X (.of_isNs (jI X e1)) b1
 ·refine .own (X _ _ a3) (.of_isNs (jI X e2)) (fun n hn=>?_) .base;rcases List.mem_cons.mp hn with z|hn
  ·rw [z];exact dw X e2 c1
  rcases List.mem_cons.mp hn with z|hn
  ·rw [z];exact dw X e2 c2
  ·rw [List.mem_singleton.mp hn];exact dw X e2 c3
 ·obtain ⟨k,k1,k2⟩:=f6 e v;exact BindsTo.of_defaults rfl (kb _ _ (X _ _ d2)) rfl k1 k2
 ·unfold bJ eK at hv;rw [a2] at hv;have:(bE C::[bE CP,.type "ValueError",.type "Exception",.type "BaseException",.type "object"]).contains v=true:=by simpa using hv
  rw [kf,nv,pP] at this;exact this
section
end
end
section
section
end
end
end J
section
namespace L2
open PySem PySem.Spec PyProof.Rows
end L2
namespace L2
open PySem PySem.Spec PyProof.Rows
end L2
namespace J
open PySem L2
end J
end
namespace J
open PySem L2
section
end
end J
namespace L2
open PySem PySem.Spec PyProof.Rows
section
section
end
end
end L2
namespace J
open PySem L2
section
section
variable {c:C}{pos:Pos}{x:Str}{kx vx iter tg:aO}{ifs:List aO}{scope:dO}{N':List Str}{nt:Nat}{ix:List Nat}{gi:ak->R (List D)}{gt:ak->R Bool}{gk gv:ak->R D}
end
end
end J
section
namespace L2
open PySem PySem.Spec PyProof.Rows
end L2
namespace J
open PySem L2
section
end
end J
end
namespace J
open PySem L2
section
end
section
end
section
def Rp (p:HO->Bool) (H Hs:Hp):Hp:=fun b=>match Hs b,H b with
 |some o,_=>some o
 |none,some o=>if p o then some o else none
 |none,none=>none
def Sd (p:HO->Bool) (H Hs Hs1:Hp):Hp:=fun b=>match Hs b,H b with
 |none,some o=>if p o then none else Hs1 b
 |_,_=>Hs1 b
section
end
inductive PJ (p:HO->Bool) (K:a5) (cls:Str->aa) (E:XK) (ρ:ak) (r:R (List D)) (σ:St) (H:Hp) (Q:List V->Hp->Prop):Prop
 |mk (H0 Hs0:Hp) (la:Nat->Option aa) (Hs:Hp) (f:Fr K H0 Hs0 la ρ σ H Hs) (q:Fin K cls E H Hs r fun d=>∀ v H' Hs',cp H Hs H' Hs'->RDs K (Rp p H' Hs') v d->Q v H'):PJ p K cls E ρ r σ H Q
structure JL (p:HO->Bool) (c:C) (es:List aO) (g:ak->R (List D)):Prop where of ::
 run:∀ ρ,PA c.X es (PJ p c.X.K c.cls c.E ρ (g ρ))
section
end
end
section
section
end
end
end J
section
namespace L2
open PySem PySem.Spec PyProof.Rows
end L2
namespace J
open PySem L2
end J
end
namespace J
open PySem L2
section
section
end
end
end J
section
namespace L2
open PySem PySem.Spec PyProof.Rows
inductive PK (X:Cx) (CX:C4) (E:XK) (t:TA) (σ:St) (Q:VK) (v:V) (H1:Hp):Prop
 |mk (k:Nat) (f:aa) (fd:cY) (ps:List Str) (sp:Sp) (h0:v=.ref f) (F:oy X.prog X.w X.K X.mg X.base CX k f fd ps sp) (hr:iS k X.A) (hk:cU X.K (.ref f)=true) (hb:iL X.K fd ps []) (q:C5 sp [] E t σ H1 Q):PK X CX E t σ Q v H1
end L2
namespace J
open PySem L2
inductive zF (c:C) (n j:Nat):List aO->List (List D->R D)->List aa->Prop
 |nil:zF c n j [] [] []
 |cons {x:Str}{p:Pos}{F:List D->R D}{k:Nat}{f:aa}{fd:cY}{ps:List Str}{es:List aO}{Fs:List (List D->R D)}{as:List aa} (hf:oy c.X.prog c.X.w c.X.K c.X.mg c.X.base (lj c.X.prog c.X.w) k f fd ps (LF c.X.K c.cls n F)) (hm:c.X.mg x=some (.ref f)) (hk:cU c.X.K (.ref f)=true) (hb:iL c.X.K fd ps []) (hj:k<=j) (hg:Gl c.X x) (hdb:(x==("__debug__" : Str))=false) (r:zF c n j es Fs as):zF c n j (.Name x p::es) (F::Fs) (f::as)
section
inductive Hw (c:C) (n j:Nat) (F:List D->R D) (f:aa):Prop
 |mk (k:Nat) (fd:cY) (ps:List Str) (hf:oy c.X.prog c.X.w c.X.K c.X.mg c.X.base (lj c.X.prog c.X.w) k f fd ps (LF c.X.K c.cls n F)) (hk:cU c.X.K (.ref f)=true) (hb:iL c.X.K fd ps []) (hj:k<=j):Hw c n j F f
theorem E9 (h:zF c n j es Fs as):∀ {i:Nat}{F:List D->R D},Fs[i]?=some F->∃ f,as[i]?=some f/\Hw c n j F f:=by
 induction h with
 |nil=>intro i F e;simp at e
 | @cons x p F k f fd ps es Fs as hf hm hk hb hj hg hdb r ih =>
  intro i F e;cases i with
  |zero=>cases e;exact ⟨f,rfl,k,fd,ps,hf,hk,hb,hj⟩
  |succ i=>have q:=ih (i:=i) e;exact q
def Me (Fs:List (List D->R D)) (n:Nat) (gi:ak->R D) (gs:ak->R (List D)) (ρ:ak):R Fl:=(gi ρ).bind fun d=>match d with
 |.int k=>if 0<=k then (match Fs[k.toNat]? with
  |some F=>(gs ρ).bind fun ds=>if ds.length=n then (F ds).bind fun d=>.ok (.rt d) else .no
  |none=>.no) else .no
 |_=>.no
theorem xv       (P:zF c n j es Fs as) (hr:iS j c.X.A) (f:Fr c.X.K H0 Hs0 la ρ σ H Hs) (ha:H a=some (.lst (as.map V.ref))) (q:lV c.X.K c.cls c.E H0 Hs0 la D' (Me Fs n gi gs ρ)) :
  TR c.X.K c.cls c.E ρ (gi ρ) σ H fun y H2=>OB c.X.K (.ref a) y H2 (PK c.X (lj c.X.prog c.X.w) c.E (Qk c.X.K c.cls c.E ρ (gs ρ)) σ D'.rt):=by
 refine sE f q fun d v H2 Hs2 e1 s1 f2 r1=>?_;unfold Me at q;rw [e1,bind_ok] at q;cases r1 with
 |int k =>
  simp only at q;by_cases hk:0<=k
  ·rw [if_pos hk] at q;split at q
   ·rename_i F hF
    obtain ⟨g,h1,k',fd,ps,hf,hkp,hb,hj⟩:=E9 P hF;have hix:Ai (as.map V.ref) k=some (.ref g):=by
     have:=pY (xs:=as.map V.ref) (j:=k.toNat) (v:=V.ref g) (by rw [aE,h1];rfl)
     rwa [cn hk] at this
    refine ⟨a,as.map V.ref,k,.ref g,rfl,rfl,.of (s1.all _ _ ha),hix,k',g,fd,ps,_,rfl,hf,hr.mono hj,hkp,hb,H0,Hs0,la,Hs2,f2,?_⟩;cases hg:gs ρ with
    |no=>rw [hg] at q;exact q.elim
    |ex y m=>rw [hg] at q;exact fun H3 Hs3 s3=>q H3 Hs3 (f2.st.trans s3)
    |ok ds =>
     rw [hg,bind_ok] at q;intro vs H3 Hs3 s3 r3;have f3:=f2.step s3;by_cases hn:ds.length=n
     ·rw [if_pos hn] at q;show LF _ _ _ _ (vs++[]) _ _ _;rw [bW];refine ⟨Hs3,ds,f3.st.sub,hn,r3,?_⟩;cases hFd:F ds with
      |no=>rw [hFd] at q;exact q.elim
      |ex y m=>rw [hFd] at q;exact fun H4 Hs4 s4=>q H4 Hs4 (f3.st.trans s4)
      |ok d=>rw [hFd] at q;exact fun v H4 Hs4 s4 r4=>q v H4 Hs4 (f3.st.trans s4) r4
     ·rw [if_neg hn] at q;exact q.elim
   ·exact q.elim
  ·rw [if_neg hk] at q;exact q.elim
 |list _ _=>exact q.elim
 |none=>exact q.elim
 |bool _=>exact q.elim
 |str _=>exact q.elim
 |tuple _ _=>exact q.elim
 |dictK _ _=>exact q.elim
 |dictT _ _ _=>exact q.elim
 |dictF _ _ _=>exact q.elim
end
end J
namespace J
open PySem L2
end J
end
namespace TS
open PySem PyProof.Rows
section
section
variable {prog:aI}{w:aW}{A:aV}{E:a7->a9->Prop}{s:a9}{kd:rf}{rk:a7->Nat}{L:List iE}
variable {l:Bool}{k:iE}{a:Array iE}{b n h i:Nat}{g:Nat->Nat}{st:AH}
end
end
section
structure Mg {α:Type} (lt:α->α->Prop) (T out ra rb:List α):Prop where
 perm:(out++ra++rb).Perm T
 so:out.Pairwise lt
 sa:ra.Pairwise lt
 sb:rb.Pairwise lt
 oa:∀ x∈out,∀ y∈ra,lt x y
 ob:∀ x∈out,∀ y∈rb,lt x y
section
variable {α:Type}{lt:α->α->Prop}{T out ra rb p:List α}
end
section
variable {a:Array iE}{i k:Nat}{x:iE}
end
section
variable {rk:a7->Nat}{a:Array iE}{L:List iE}
end
end
section
section
variable {prog:aI}{w:aW}{A:aV}{E:a7->a9->Prop}{s:a9}{kd:rf}{rk:a7->Nat}{L:List iE}{st st':AH}
def Se (rk:a7->Nat) (x y:iE):Prop:=rk x.1<rk y.1
variable {a b out:Array iE}{ia ib k:Nat}{p q:iE}
end
end
section
section
variable {prog:aI}{w:aW}{A:aV}{E:a7->a9->Prop}{s:a9}{kd:rf}{rk:a7->Nat}{L:List iE}{st st':AH}
def W (rk:a7->Nat) (a b out:Array iE) (na nb:Nat):Prop:=Mg (fun x y=>Se rk y x) (a.toList++b.toList) out.toList (a.toList.take na).reverse (b.toList.take nb).reverse
variable {a b out:Array iE}{n m k:Nat}{p q:iE}
end
end
section
section
variable {prog:aI}{w:aW}{A:aV}{E:a7->a9->Prop}{s:a9}{kd:rf}{rk:a7->Nat}{L:List iE}{st:AH}{a:Array iE}
end
end
section
section
variable {prog:aI}{w:aW}{A:aV}{E:a7->a9->Prop}{s:a9}{kd:rf}{rk:a7->Nat}{L:List iE}{st:AH}{a:Array iE}
end
end
section
section
variable {prog:aI}{w:aW}{A:aV}{E:a7->a9->Prop}{s:a9}{kd:rf}{rk:a7->Nat}{L:List iE}{st:AH}{a:Array iE}
end
end
end TS
namespace TS
open PySem PyProof.Rows PySem.W
section
section
variable {prog:aI}{w:aW}{A:aV}{E:a7->a9->Prop}{s:a9}
end
end
section
section
end
end
section
section
end
end
end TS
namespace L2
open PySem PySem.Spec PyProof.Rows PySem.W
section
section
end
end
section
section
end
section
end
end
end L2
namespace J
open PySem L2
section
end
end J
section
namespace L2
open PySem PySem.Spec PyProof.Rows PySem.W
end L2
namespace J
open PySem L2
end J
end
namespace J
open PySem PySem.Spec PyProof.Rows L2
section
section
end
end
end J
section
namespace L2
open PySem PySem.Spec PyProof.Rows
end L2
namespace J
open PySem L2
end J
end
namespace L2
open PySem PySem.Spec PyProof.Rows
section
section
variable {prog:aI}{w:aW}{A:aV}{R:Aq->a9->Prop}{s:a9}
end
end
section
section
variable {prog:aI}{w:aW}{A:aV}{R:Aq->a9->Prop}{s:a9}
end
end
section
end
end L2
namespace J
open PySem L2
section
section
variable {K:a5}{cls:Str->aa}{w:aW}{E:XK}{σ:St}{H:Hp}{Q:VK}{ρ ρ':ak}{H0 Hs0 H1 Hs1 Hn:Hp}{la:Nat->Option aa}{nt:Nat}{ix:List Nat}{gi gi2:ak->R (List D)}{gt gt2:ak->R Bool}{ge:ak->R D}{J:It}{es zs:List D}{ss sa sz tl:List Str}
end
section
variable {c:C}{elt tg iter tg2 iter2:aO}{ifs ifs2:List aO}{scope:dO}{pos:Pos}{N':List Str}{nt:Nat}{ix:List Nat}{gi gi2:ak->R (List D)}{gt gt2:ak->R Bool}{ge:ak->R D}
end
end
section
section
variable {c:C}
end
end
end J
namespace L2
open PySem PySem.Spec PyProof.Rows
section
end
end L2
namespace J
open PySem L2
section
section
variable {c:C}{pos:Pos}{x:Str}{kx vx iter tg:aO}{ifs:List aO}{scope:dO}{N':List Str}{nt:Nat}{ix:List Nat}{gi:ak->R (List D)}{gt:ak->R Bool}{gk gv:ak->R D}
end
end
end J
section
namespace L2
open PySem PySem.Spec PyProof.Rows
end L2
namespace J
open PySem L2
section
end
end J
end
namespace TP
open PySem PyProof.Rows PySem.W TS
section
section
variable {prog:aI}{w:aW}{A:aV}{E:a7->a9->Prop}{s:a9}{Q:Bool->a9->Prop}{v u:a7}{x y:Str×Int}{a b:aa}
end
end
section
section
variable {prog:aI}{w:aW}{A:aV}{E:a7->a9->Prop}{s:a9}{kd:rf}{rk:a7->Nat}{L:List iE}{st:AH}{a:Array iE}
end
end
end TP
namespace L2
open PySem PySem.Spec PyProof.Rows PySem.W
section
section
end
end
end L2
namespace J
open PySem L2
section
section
variable {K:a5}{H Hs:Hp}{X:Cx}
end
end
end J
namespace L2
open PySem PySem.Spec PyProof.Rows PySem.W
section
section
variable {X:Cx}{pins:List (aa×Obj)}{σ:St}{H:Hp}{s:a9}
end
end
end L2
namespace J
open PySem L2
section
section
variable {K:a5}{H Hs:Hp}{c:C}{e:aO}{g:ak->R D}{p apos ipos cpos:Pos}
end
end
section
section
variable {c:C}
end
end
end J
section
namespace L2
open PySem PySem.Spec PyProof.Rows
section
variable {prog:aI}{w:aW}{A:aV}{R:Aq->a9->Prop}{I:aa}{fp wr:List aa}{n:Nat}{P:Nat->a7->Prop}{St:Nat->bc->Prop}{d:a7}
end
section
variable {prog:aI}{w:aW}{A:aV}{E:a7->a9->Prop}{s:a9}
end
end L2
namespace J
open PySem L2
section
variable {X:Cx}{c:C}
end
end J
end
namespace L2
open PySem PySem.Spec PyProof.Rows
section
end
end L2
namespace J
open PySem L2
section
section
variable {K:a5}{cls:Str->aa}{E:XK}{σ:St}{H:Hp}{Q:VK}{ρ ρ':ak}{H0 Hs0 H1 Hs1 Hn:Hp}{la:Nat->Option aa}{nt:Nat}{ix:List Nat}{gi gi2:ak->R (List D)}{gt gt2:ak->R Bool}{ge:ak->R D}{J:It}{es zs ys ya tl:List D}{va:List V}
end
section
variable {c:C}{elt tg iter tg2 iter2:aO}{ifs ifs2:List aO}{scope:dO}{pos:Pos}{N':List Str}{nt:Nat}{ix:List Nat}{gi gi2:ak->R (List D)}{gt gt2:ak->R Bool}{ge:ak->R D}
end
end
end J
section
namespace L2
open PySem PySem.Spec PyProof.Rows
section
variable {X:Cx}
def Sf (r:Str->V->Hp->VK->Prop) (ta tb:TE):TE:=fun σ H Q=>ta σ H fun x H1=>∃ z,x=.str z/\tb σ H1 fun y H2=>r z y H2 Q
theorem wN {o e:aO}{name:Str}{id:String}{ta tb:TE}{r:Str->V->Hp->VK->Prop}{apos pos:Pos} (slot:Slot "str" name id) (ty:typeOf (.builtin id)=pure (.type "method_descriptor")) (ho:PE X o ta) (he:PE X e tb)
  (hr:∀ pins s σ H x t y u Q,bf X pins σ H s->cu y u->r x y H Q->aj (aA X.prog X.w) X.A (call (.builtin id) [.str x t,u]) (EP X pins σ Q) X.xe s)
  (hs:ap [e] X.env=[(false,bQ e X.env)]:=by rfl) (hbase:eE o name X.env (bQ o X.env)=bQ o X.env:=by rfl) (hline:(apos.endLine==pos.line)=true:=by rfl) :
  PE X (.Call (.Attribute o name apos) [e] [] pos) (Sf r ta tb):=by
 intro pins s σ H Q I h
 refine Call_method1 hbase hs hline (eD (ho pins s σ H _ I h) fun ov s1 h1=>?_)
 obtain ⟨x,H1,I1,r1,z,rfl,q⟩:=h1
 obtain ⟨t,rfl⟩:=r1
 refine ⟨"str",id,F.plainAttrs_str,slot,ty,jG _ _ _,(fun _ e=>nomatch e),?_⟩
 have:=callWith_method1 (pos:=pos) (id:=id) (first:=[ic z t]) (e:=e) (env:=X.env) (M:=aA X.prog X.w) (A:=X.A) (E:=X.xe) (Q:=EP X pins σ Q) (s:=s1) ?_ hs rfl
 ·rw [hs] at this;exact this
 ·rw [hs]
  refine Dj (eD (he pins s1 σ H1 _ I1 q) fun u s2 h2=>?_)
  obtain ⟨y,H2,I2,r2,q2⟩:=h2
  exact EJ (hr pins s2 σ H2 z t y u Q I2 r2 q2)
theorem uP:∀ {ys:List Str}{us:List a7},cz (ys.map V.str) us->mR us ys
 |[],_,.nil=>.nil
 |_::_,_,.cons a b=>by obtain ⟨t,rfl⟩:=a;exact .cons _ _ (uP b)
def Mf (X:Cx) (z:Str) (y:V) (H:Hp) (Q:VK):Prop:=∃ a ys,y=.ref a/\(k_ X.K H a (ys.map V.str)\/iF X.K H a (ys.map V.str))/\(ys.map (·.length)).sum+ys.length*z.length<=16777216/\Q (.str (iQ z ys)) H
theorem Ea {pins:List (aa×Obj)}{s:a9}{σ:St}{H:Hp}{x:Str}{t:Tok}{y:V}{u:a7}{Q:VK} (I:bf X pins σ H s) (ru:cu y u) (h:Mf X x y H Q):aj (aA X.prog X.w) X.A (call (.builtin "str.join") [.str x t,u]) (EP X pins σ Q) X.xe s:=by
 obtain ⟨a,ys,rfl,hq,hl,q⟩:=h
 obtain rfl:u=.ref a:=ru
 rcases hq with hq|hq
 ·obtain ⟨its,r',pl,_⟩:=I.list hq
  exact join_list pl.isList (uP r') hl fun t' k=>⟨.str _,H,I.kept (t':=k) fun _ _ e=>e,⟨t',rfl⟩,q⟩
 ·obtain ⟨its,r',pl,_⟩:=I.tuple hq
  exact join_tuple pl (uP r') hl fun t' k=>⟨.str _,H,I.kept (t':=k) fun _ _ e=>e,⟨t',rfl⟩,q⟩
end
end L2
namespace J
open PySem L2
def sy (z:Str):D->R D
 |.list ds=>match dZ ds with
  |some ys=>if (ys.map (·.length)).sum+ys.length*z.length<=100000 then .ok (.str (iQ z ys)) else .no
  |none=>.no
 |.tuple ds=>match dZ ds with
  |some ys=>if (ys.map (·.length)).sum+ys.length*z.length<=100000 then .ok (.str (iQ z ys)) else .no
  |none=>.no
 |_=>.no
def oM (z:Str) (g:ak->R D):ak->R D:=fun ρ=>(g ρ).bind (sy z)
theorem tL {c:C}{e:aO}{g:ak->R D}{z:Str}{j:Nat}{p apos pos:Pos} (h:JB c e g) (hs:ap [e] c.X.env=[(false,bQ e c.X.env)]:=by rfl)
  (hbase:eE (.Constant (.str z) j p) "join" c.X.env (bQ (.Constant (.str z) j p) c.X.env)=bQ (.Constant (.str z) j p) c.X.env:=by rfl) (hline:(apos.endLine==pos.line)=true:=by rfl) :
  JE c (.Call (.Attribute (.Constant (.str z) j p) "join" apos) [e] [] pos) (oM z g):=.of fun ρ =>
 nQ (wN (r:=Mf c.X) PySem.F.slot_str_join PySem.F.type_str_join AK (h ρ) (fun _ _ _ _ _ _ _ _ _=>Ea) hs hbase hline) fun σ H Q h_0=>by
  obtain ⟨H0,Hs0,la,Hs,f,q⟩:=h_0
  refine ⟨z,rfl,?_⟩
  refine one f q fun d v H1 Hs1 e1 s1 f1 r1=>?_
  unfold oM at q;rw [e1,bind_ok] at q;unfold sy at q
  split at q
  ·split at q
   ·rename_i ys hy
    by_cases hl:(ys.map (·.length)).sum+ys.length*z.length<=100000
    ·rw [if_pos hl] at q
     obtain ⟨a,vs,rfl,qa,ra⟩:=r1.list f1.st.sub
     rw [ja hy] at ra
     rw [io ra] at qa
     exact ⟨a,ys,rfl,.inl qa,by omega,q _ H1 Hs1 s1 (.str _)⟩
    ·rw [if_neg hl] at q;exact q.elim
   ·exact q.elim
  ·split at q
   ·rename_i ys hy
    by_cases hl:(ys.map (·.length)).sum+ys.length*z.length<=100000
    ·rw [if_pos hl] at q
     obtain ⟨a,vs,rfl,qa,ra,_⟩:=r1.tuple f1.st.sub
     rw [ja hy] at ra
     rw [io ra] at qa
     exact ⟨a,ys,rfl,.inr qa,by omega,q _ H1 Hs1 s1 (.str _)⟩
    ·rw [if_neg hl] at q;exact q.elim
   ·exact q.elim
  ·exact q.elim
end J
end
section
namespace L2
open PySem PySem.Spec PyProof.Rows
def Sg (z:Str) (ta tb:TE):TE:=fun σ H Q=>ta σ H fun x H1=>∃ u,x=.str u/\u.length<=1000/\tb σ H1 fun y H2=>∃ i:Int,y=.int i/\0<=i/\i<=9/\Q (.str (tW++u++z++cf (toString i))) H2
theorem qv {i:Int} (h0:0<=i) (h9:i<=9):(cf (toString i)).length=1:=by
 have:i=0\/i=1\/i=2\/i=3\/i=4\/i=5\/i=6\/i=7\/i=8\/i=9:=by omega
 rcases this with rfl|rfl|rfl|rfl|rfl|rfl|rfl|rfl|rfl|rfl<;>decide +kernel
theorem Kw {i:Int} (h0:0<=i) (h9:i<=9):i.natAbs.log2<1920:=by
 have:i=0\/i=1\/i=2\/i=3\/i=4\/i=5\/i=6\/i=7\/i=8\/i=9:=by omega
 rcases this with rfl|rfl|rfl|rfl|rfl|rfl|rfl|rfl|rfl|rfl<;>decide +kernel
theorem PL {X:Cx}{a b:aO}{z:Str}{j:Nat}{p pa pb pos:Pos}{ta tb:TE} (ha:PE X a ta) (hb:PE X b tb) (hz:z.length<=64) :
  PE X (.JoinedStr [.FormattedValue a (-1) none pa,.Constant (.str z) j p,.FormattedValue b (-1) none pb] pos) (Sg z ta tb):=by
 intro pins s σ H Q I h
 have sl:sizeLine=16777216:=eW
 refine JoinedStr_many (AI (J7 (eD (ha pins s σ H _ I h) fun v s1 h1=>?_)))
 obtain ⟨x,H1,I1,r1,u,rfl,hu,q⟩:=h1
 obtain ⟨t,rfl⟩:=r1
 refine formatField_str (fun t' tk=>⟨?_,?_⟩) (by rw [sl];omega)
 ·rw [bH,sl]
  have:Str.empty.length=0:=rfl
  omega
 refine AI (De ⟨?_,?_⟩)
 ·rw [bH,bH,sl]
  have:Str.empty.length=0:=rfl
  omega
 show aj _ _ (joinParts _ [bQ (.FormattedValue b (-1) none pb) X.env]) _ _ _
 refine AI (J7 (eD (hb pins _ σ H1 _ (I1.kept fun _ _ e=>e) q) fun v s2 h2=>?_))
 obtain ⟨y,H2,I2,r2,i,rfl,i0,i9,q2⟩:=h2
 obtain ⟨t2,rfl⟩:=r2
 refine formatField_int_small (Kw i0 i9) ⟨?_,?_⟩
 ·rw [bH,bH,bH,sl]
  have:Str.empty.length=0:=rfl
  have:=qv i0 i9
  omega
 refine joinParts_nil ⟨.str _,H2,I2.kept fun _ _ e=>e,⟨_,rfl⟩,q2⟩ ?_
 rw [bH,bH,bH,sl]
 have:Str.empty.length=0:=rfl
 have:=qv i0 i9
 omega
end L2
namespace J
open PySem L2
def PM (z:Str) (ga gb:ak->R D):ak->R D:=fun ρ=>(ga ρ).bind fun x=>match x with
 |.str u=>if u.length<=1000 then (gb ρ).bind fun y=>match y with
  |.int i=>if 0<=i/\i<=9 then .ok (.str (tW++u++z++cf (toString i))) else .no
  |_=>.no else .no
 |_=>.no
theorem PN {c:C}{a b:aO}{ga gb:ak->R D}{z:Str}{j:Nat}{p pa pb pos:Pos} (ha:JE c a ga) (hb:JE c b gb) (hz:z.length<=64:=by decide) :
  JE c (.JoinedStr [.FormattedValue a (-1) none pa,.Constant (.str z) j p,.FormattedValue b (-1) none pb] pos) (PM z ga gb):=.of fun ρ =>
 nQ (PL (ha ρ) (hb ρ) hz) fun σ H Q h=>by
  obtain ⟨H0,Hs0,la,Hs,f,q⟩:=h
  refine rE f q fun d v H1 Hs1 e1 s1 f1 r1=>?_
  unfold PM at q;rw [e1,bind_ok] at q
  cases r1 with
  |str u =>
   by_cases hu:u.length<=1000
   ·simp only [if_pos hu] at q
    refine ⟨u,rfl,hu,?_⟩
    refine rE f1 (q.on s1 (q':=fun _=>True) fun _ _=>trivial) fun y w H2 Hs2 e2 s2 f2 r2=>?_
    rw [e2,bind_ok] at q
    cases r2 with
    |int i =>
     by_cases hi:0<=i/\i<=9
     ·simp only [if_pos hi] at q
      exact ⟨i,rfl,hi.1,hi.2,q _ H2 Hs2 (s1.trans s2) (.str _)⟩
     ·simp only [if_neg hi] at q;exact q.elim
    |_=>exact q.elim
   ·simp only [if_neg hu] at q;exact q.elim
  |_=>exact q.elim
end J
end
section
namespace L2
open PySem PySem.Spec PyProof.Rows PySem.Builtin PySem.Builtin.Str
section
variable {X:Cx}
theorem Kx (l:List (Str×Tok)):cz ((l.map (·.1)).map V.str) (strValues l):=by
 induction l with
 |nil=>exact .nil
 |cons p l ih=>exact .cons ⟨p.2,rfl⟩ ih
theorem lA (x y:Str):(bv x y).length<=x.length+2:=by
 unfold bv
 split
 ·simp
 ·split
  ·simp
  ·have e1:=yw x y 0 x.length (x.length+1)
   rw [length_partsBetween];omega
def Hx (z:Str) (y:V) (H:Hp) (Q:VK):Prop:=∃ w,y=.str w/\(w.length==0)=false/\z.length<=100000/\∀ p,H p=none->Q (.ref p) (upd H p (.lst ((bv z w).map V.str)))
theorem Bw {pins:List (aa×Obj)}{s:a9}{σ:St}{H:Hp}{x:Str}{t:Tok}{y:V}{u:a7}{Q:VK} (I:bf X pins σ H s) (ru:cu y u) (h:Hx x y H Q):aj (aA X.prog X.w) X.A (call (.builtin "str.split") [.str x t,u]) (EP X pins σ Q) X.xe s:=by
 obtain ⟨w,rfl,hy,hz,q⟩:=h
 obtain ⟨tu,rfl⟩:=ru
 have sl:sizeLine=16777216:=eW
 have key:∀ (l:List (Str×Tok)) k,l.map (·.1)=bv x w->EP X pins σ Q (.ref s.heap.objs.size) { s with heap:=s.heap.push { cls:=.type "list",data:=.seq (strValues l).toArray },toks:=k }:=fun l k e=>by
  have hv:=Kx l
  rw [e] at hv
  refine ⟨.ref s.heap.objs.size,_,I.laid (t':=k) (fun _ _ e=>a8 _ e) (ao _) (show cC X.prog X.w _ _ _ (.lst ((bv x w).map V.str)) from ⟨?_,strValues l,0,hv,ar _ rfl⟩),rfl,q _ (I.hok.fresh (ao _))⟩
  have:=lA x w
  rw [au,sl];omega
 have hn:(partsBetween x (occurrences x w 0 x.length (x.length+1)) w.length).length<=sizeLine:=by
  have e1:=yw x w 0 x.length (x.length+1)
  rw [length_partsBetween];omega
 cases h1:(decide (x.length<w.length)||decide (strKind x<strKind w))
 ·cases hf:(occurrences x w 0 x.length (x.length+1)).isEmpty
  ·refine iO vB (jG _ _ _) u5 (sS _ _) (meets_str_split_sep x w t tu h1 hy hf (by omega) hn) ?_
   show wants _ _ _ { s with toks:=_,heap:=s.heap.push { cls:=.type "list",data:=.seq (strsFrom s.toks (partsBetween x (occurrences x w 0 x.length (x.length+1)) w.length)).toArray } }
   rw [strsFrom_eq]
   exact key (numbered s.toks _) _ ((numbered_texts _ _).trans ((if_neg (ne_true_of_eq_false h1)).trans (if_neg (ne_true_of_eq_false hf))).symm)
  ·exact iO vB (jG _ _ _) u5 (sS _ _) (meets_str_split_not_found x w t tu h1 hy hf)
    (key [(x,t)] s.toks ((if_neg (ne_true_of_eq_false h1)).trans (if_pos hf)).symm)
 ·exact iO vB (jG _ _ _) u5 (sS _ _) (meets_str_split_cannot_occur x w t tu h1)
   (key [(x,t)] s.toks (if_pos h1).symm)
def Mh (z:Str) (y:V) (H:Hp) (Q:VK):Prop:=∃ w,y=.str w/\(w.length==0)=false/\z.length<=100000/\∀ p,H p=none->Q (.ref p) (upd H p (.tup [.str (aZ z w).1,.str (aZ z w).2.1,.str (aZ z w).2.2]))
theorem Eb {pins:List (aa×Obj)}{s:a9}{σ:St}{H:Hp}{x:Str}{t:Tok}{y:V}{u:a7}{Q:VK} (I:bf X pins σ H s) (ru:cu y u) (h:Mh x y H Q):aj (aA X.prog X.w) X.A (call (.builtin "str.partition") [.str x t,u]) (EP X pins σ Q) X.xe s:=by
 obtain ⟨w,rfl,hy,hz,q⟩:=h
 obtain ⟨tu,rfl⟩:=ru
 have sl:sizeLine=16777216:=eW
 have key:∀ ta tb tc k,EP X pins σ Q (.ref s.heap.objs.size) { s with heap:=s.heap.push { cls:=.type "tuple",data:=.seq [.str (aZ x w).1 ta,.str (aZ x w).2.1 tb,.str (aZ x w).2.2 tc].toArray },toks:=k }:=fun ta tb tc k=>by
  refine ⟨.ref s.heap.objs.size,_,I.laid (t':=k) (fun _ _ e=>a8 _ e) (ao _) (show cC X.prog X.w _ _ _ (.tup [.str (aZ x w).1,.str (aZ x w).2.1,.str (aZ x w).2.2]) from ⟨?_,_,.cons ⟨ta,rfl⟩ (.cons ⟨tb,rfl⟩ (.cons ⟨tc,rfl⟩ .nil)),⟨_,ar _ rfl,rfl,_,rfl⟩⟩),rfl,q _ (I.hok.fresh (ao _))⟩
  show 3<=sizeLine
  decide
 refine iO F.slot_str_partition (jG _ _ _) F.entry_str_partition (F.args_str_partition_2 _ _) (meets_str_partition x w t tu hy (by omega)) ?_
 have h':=key
 unfold aZ at h'
 revert h'
 cases occurrences x w 0 x.length 1 with
 |nil=>intro h';exact h' _ _ _ _
 |cons i r=>intro h';exact h' _ _ _ _
def Mi (z:Str) (y:V) (H:Hp) (Q:VK):Prop:=∃ w,y=.str w/\Q (.int (xi z w)) H
theorem Ec {pins:List (aa×Obj)}{s:a9}{σ:St}{H:Hp}{x:Str}{t:Tok}{y:V}{u:a7}{Q:VK} (I:bf X pins σ H s) (ru:cu y u) (h:Mi x y H Q):aj (aA X.prog X.w) X.A (call (.builtin "str.find") [.str x t,u]) (EP X pins σ Q) X.xe s:=by
 obtain ⟨w,rfl,q⟩:=h
 obtain ⟨tu,rfl⟩:=ru
 exact SC.find ⟨.int _,H,I.tok _,⟨_,rfl⟩,q⟩
end
end L2
namespace J
open PySem L2
def CQ (ga gb:ak->R D) (f:Str->Str->R D):ak->R D:=fun ρ=>(ga ρ).bind fun x=>match x with
 |.str z=>(gb ρ).bind fun y=>match y with
  |.str w=>f z w
  |_=>.no
 |_=>.no
def Qt (K:a5) (r:Str->V->Hp->VK->Prop) (f:Str->Str->R D):Prop:=(∀ z w H Hs Q d,cK Hs H->f z w=.ok d->(∀ v H' Hs',cp H Hs H' Hs'->RD K Hs' v d->Q v H')->r z (.str w) H Q)/\∀ z w c n,f z w≠.ex c n
theorem Hy {c:C}{o e:aO}{ga gb:ak->R D}{f:Str->Str->R D}{name:Str}{id:String}{r:Str->V->Hp->VK->Prop}{apos pos:Pos} (slot:Slot "str" name id) (ty:typeOf (.builtin id)=pure (.type "method_descriptor"))
  (hr:∀ pins s σ H x t y u Q,bf c.X pins σ H s->cu y u->r x y H Q->aj (aA c.X.prog c.X.w) c.X.A (call (.builtin id) [.str x t,u]) (EP c.X pins σ Q) c.X.xe s)
  (hf:Qt c.X.K r f) (ho:JE c o ga) (he:JE c e gb) (hs:ap [e] c.X.env=[(false,bQ e c.X.env)]:=by rfl) (hbase:eE o name c.X.env (bQ o c.X.env)=bQ o c.X.env:=by rfl) (hline:(apos.endLine==pos.line)=true:=by rfl) :
  JE c (.Call (.Attribute o name apos) [e] [] pos) (CQ ga gb f):=.of fun ρ =>
 nQ (wN slot ty (ho ρ) (he ρ) hr hs hbase hline) fun σ H Q h=>by
  obtain ⟨H0,Hs0,la,Hs,fr,q⟩:=h
  refine rE fr q fun d v H1 Hs1 e1 s1 f1 r1=>?_
  unfold CQ at q;rw [e1,bind_ok] at q
  cases r1 with
  |str z =>
   simp only at q
   refine ⟨z,rfl,?_⟩
   refine rE f1 (q.on s1 (q':=fun _=>True) fun _ _=>trivial) fun y w H2 Hs2 e2 s2 f2 r2=>?_
   rw [e2,bind_ok] at q
   cases r2 with
   |str w =>
    simp only at q
    cases hd:f z w with
    |ok d=>rw [hd] at q;exact hf.1 z w H2 Hs2 Q d f2.st.sub hd fun v H' Hs' s' r'=>q v H' Hs' ((s1.trans s2).trans s') r'
    |ex x n=>exact (hf.2 z w x n hd).elim
    |no=>rw [hd] at q;exact q.elim
   |_=>exact q.elim
  |_=>exact q.elim
def jP (z w:Str):R D:=if w.length≠0/\z.length<=1000 then .ok (.list ((bv z w).map .str)) else .no
def wO (z w:Str):R D:=if w.length≠0/\z.length<=1000 then .ok (.tuple [.str (aZ z w).1,.str (aZ z w).2.1,.str (aZ z w).2.2]) else .no
def NF (z w:Str):R D:=.ok (.int (xi z w))
theorem Hz {K:a5}:Qt K Hx jP:=by
 refine ⟨fun z w H Hs Q d sub hd q=>?_,fun z w c n h=>?_⟩
 ·unfold jP at hd
  split at hd
  ·rename_i hc
   cases hd
   exact ⟨w,rfl,by simpa using hc.1,by omega,fun p hp=>q _ _ _ (.new sub hp) (.list (.of aK) (ll _))⟩
  ·cases hd
 ·unfold jP at h;split at h<;>cases h
theorem Ky {K:a5}:Qt K Mh wO:=by
 refine ⟨fun z w H Hs Q d sub hd q=>?_,fun z w c n h=>?_⟩
 ·unfold wO at hd
  split at hd
  ·rename_i hc
   cases hd
   exact ⟨w,rfl,by simpa using hc.1,by omega,fun p hp=>q _ _ _ (.new sub hp) (.tuple aK (.cons (.str _) (.cons (.str _) (.cons (.str _) .nil))))⟩
  ·cases hd
 ·unfold wO at h;split at h<;>cases h
theorem Kz {K:a5}:Qt K Mi NF:=⟨fun z w H Hs Q d sub hd q=>by cases hd;exact ⟨w,rfl,q _ _ _ (.refl sub) (.int _)⟩,fun z w c n h=>by cases h⟩
theorem qw {c:C}{o e:aO}{ga gb:ak->R D}{apos pos:Pos} (ho:JE c o ga) (he:JE c e gb) (hs:ap [e] c.X.env=[(false,bQ e c.X.env)]:=by rfl) (hbase:eE o "split" c.X.env (bQ o c.X.env)=bQ o c.X.env:=by rfl) (hline:(apos.endLine==pos.line)=true:=by rfl) :
  JE c (.Call (.Attribute o "split" apos) [e] [] pos) (CQ ga gb jP):=Hy PySem.F.slot_str_split PySem.F.type_str_split (fun _ _ _ _ _ _ _ _ _=>Bw) Hz ho he hs hbase hline
theorem KA {c:C}{o e:aO}{ga gb:ak->R D}{apos pos:Pos} (ho:JE c o ga) (he:JE c e gb) (hs:ap [e] c.X.env=[(false,bQ e c.X.env)]:=by rfl) (hbase:eE o "partition" c.X.env (bQ o c.X.env)=bQ o c.X.env:=by rfl) (hline:(apos.endLine==pos.line)=true:=by rfl) :
  JE c (.Call (.Attribute o "partition" apos) [e] [] pos) (CQ ga gb wO):=Hy PySem.F.slot_str_partition PySem.F.type_str_partition (fun _ _ _ _ _ _ _ _ _=>Eb) Ky ho he hs hbase hline
theorem NG {c:C}{o e:aO}{ga gb:ak->R D}{apos pos:Pos} (ho:JE c o ga) (he:JE c e gb) (hs:ap [e] c.X.env=[(false,bQ e c.X.env)]:=by rfl) (hbase:eE o "find" c.X.env (bQ o c.X.env)=bQ o c.X.env:=by rfl) (hline:(apos.endLine==pos.line)=true:=by rfl) :
  JE c (.Call (.Attribute o "find" apos) [e] [] pos) (CQ ga gb NF):=Hy PySem.F.slot_str_find PySem.F.type_str_find (fun _ _ _ _ _ _ _ _ _=>Ec) Kz ho he hs hbase hline
theorem HA {c:C}{x s:Str}{pos:Pos} (hg:Gl c.X x) (hm:∃ t,c.X.mg x=some (.str s t)) (hd:(x==("__debug__" : Str))=false:=by decide):JE c (.Name x pos) (fun _=>.ok (.str s)):=by
 obtain ⟨t,hm⟩:=hm;exact lm (pS hg hm (v:=.str s) ⟨t,rfl⟩ hd) fun _=>.str s
def uQ (g:ak->R D):ak->R Bool:=fun ρ=>(g ρ).bind fun d=>match d with
 |.tuple ds=>.ok (!ds.isEmpty)
 |_=>.no
theorem KB {c:C}{e:aO}{g:ak->R D} (h:JB c e g) (he:∀ whole,tT e c.X.env whole=(do let v <- whole;r_ e.pos;EZ [v] (truthy v)):=by intro _;rfl):JT c e (uQ g):=.of fun ρ=>OW (Fv (h ρ) he) fun σ H Q hh=>by
 obtain ⟨H0,Hs0,la,Hs,f,q⟩:=hh;refine one f q fun d v H1 Hs1 e1 s1 f1 r1=>?_;unfold uQ at q;rw [e1,bind_ok] at q;split at q
 ·obtain ⟨a,vs,rfl,qa,ra,_⟩:=r1.tuple f1.st.sub;refine ⟨_,.inr (.inl ⟨vs,qa,rfl⟩),?_⟩;cases ra with
  |nil=>exact q H1 Hs1 s1
  |cons _ _=>exact q H1 Hs1 s1
 ·exact q.elim
end J
end
section
namespace L2
open PySem PySem.Spec PyProof.Rows PySem.W
section
variable {X:Cx}
theorem Ed {prog:aI}{w:aW}{A:aV}{E:a7->a9->Prop}{s:a9}{l:aa}{items:Array a7}{n i:Nat}{Q:List a7->a9->Prop} (hl:s.heap.IsList l items) (hh:A.handled=none) (hi:i<n) (hn:n<=items.size+1) (hz:items.size<=16384)
  (h:∀ (h₂:bc) tk,(∀ b o,s.heap.get? b=some o->h₂.get? b=some o)->Q (items.toList.take i++[.ref h₂.objs.size]++(items.toList.drop i).drop (items.size+1-n)) { s with heap:=h₂.push { cls:=.type "list",data:=.seq ((items.toList.drop i).take (items.size+1-n)).toArray },toks:=tk }):aj (aA prog w) A (unpackItems (.ref l) n (some i)) Q E s:=by
 have hlt:l≠s.heap.objs.size:=by obtain ⟨o,ho,_⟩:=hl;exact aF (ai ho)
 unfold unpackItems
 refine a6 ?_
 unfold notIterableAtAll
 refine a6 (yB hl.typeIs slot_list_iter.lookup ?_)
 refine ae ?_
 simp only [bw,if_false]
 refine a6 (cB (ji hl ?_))
 refine a6 (cB (kun_draw hlt i 0 _ _ ⟨_,ar _ rfl,rfl,rfl⟩ (hl.push _) (by omega) fun h₁ hit₁ hs₁=>?_))
 have hl₁:h₁.IsList l items:=(hl.push _).extBut hs₁.extBut hlt
 rw [Nat.zero_add] at hit₁
 have hit₁':=hit₁
 obtain ⟨oi,hoi,_⟩:=hit₁'
 have hl₁':=hl₁
 obtain ⟨ol,hol,_⟩:=hl₁'
 rw [wc]
 have hfl:(items.toList.take i).length=i:=by rw [jf,aN];omega
 rw [if_neg (show ¬ ((items.toList.take i).length<i) by rw [hfl];omega)]
 refine a6 (cB (kun_collect (s:={ s with heap:=h₁ }) (T:="list_iterator") (.inr (.inr (.inl rfl))) (vt (A:=A.in1) hh s.heap.objs.size l hlt items) (fun j u st=>st.1.typeIs) (k:=i) (by omega) ⟨hit₁,hl₁⟩ (ai hoi) (ai hol) (fun h₂ tk hk=>?_) (by rw [eW];omega)))
 have hrl:(items.toList.drop i).length=items.size-i:=by rw [mC,aN]
 have hmid:(items.toList.drop i).length-(n-1-i)=items.size+1-n:=by rw [hrl];omega
 show aj _ _ (if (items.toList.drop i).length<n-1-i then _ else _) _ _ _
 rw [if_neg (by rw [hrl];omega)]
 show aj _ _ (newList ((items.toList.drop i).take ((items.toList.drop i).length-(n-1-i))) >>= fun d=>pure (items.toList.take i++[d]++(items.toList.drop i).drop ((items.toList.drop i).length-(n-1-i)))) _ _ _
 rw [hmid]
 have he:∀ b o,s.heap.get? b=some o->h₂.get? b=some o:=fun b o e=>by
  have hb:b≠s.heap.objs.size:=aF (ai e)
  exact hk b o hb (hs₁.extBut b o hb (a8 _ e))
 refine a6 (wpAny_newList (ae (h h₂ tk he)) ?_)
 rw [jf,hrl,eW];omega
inductive HB (K:a5) (t:AM) (v:V) (σ:St) (H:Hp) (Q:St->Hp->Prop):Prop
 |mk (a x xs:_) (h0:v=.ref a) (h1:k_ K H a (x::xs)) (h2:xs.length<=16000) (h3:∀ p,H p=none->t [x,.ref p] σ (upd H p (.lst xs)) Q):HB K t v σ H Q
def PP (K:a5) (t:AM):TG:=HB K t
theorem KC {es:List aO}{k:Nat}{t:AM}{pos:Pos} (hc:X.calm=true) (h:Fj X es t)
  (hn:(de es X.env).length=2:=by rfl) (hst:(de es X.env).findIdx? (·.1)=some 1:=by rfl):PG X (.Tuple es k pos) (PP X.K t):=by
 intro pins s σ H v u Q I r hw
 obtain ⟨a,x,xs,rfl,hq,hz,hw⟩:=hw
 cases r
 obtain ⟨its,rv,pl,hl⟩:=I.list hq
 have hlen:=rv.length
 rw [assign_Tuple]
 refine a6 (jZ ?_)
 unfold unpack
 rw [hn,hst]
 simp only [aD] at hlen
 refine a6 (cB (Ed pl.isList (I.ok.hd hc) (by decide) (by simp only [ax];omega) (by simp only [ax];omega) fun h₂ tk he=>?_))
 cases rv with
 | @cons _ u0 _ us r0 rr =>
 have e1:(u0::us).toArray.size+1-2=us.length:=by simp
 have I1:bf X pins σ H { s with heap:=h₂,toks:=tk }:=I.kept he
 have I2:=I1.laid (a:=h₂.objs.size) (o:=.lst xs) (h':=h₂.push { cls:=.type "list",data:=.seq us.toArray }) (t':=tk) (fun _ _ e=>a8 _ e) (ao _) (show cC X.prog X.w _ _ _ (.lst xs) from ⟨by rw [eW];omega,us,0,rr,ar _ rfl⟩)
 rw [e1]
 simp only [List.take_succ_cons,List.take_zero,List.drop_succ_cons,wc,List.drop_length,List.take_length,bW]
 exact h pins _ σ _ [x,.ref h₂.objs.size] _ Q I2 (.cons r0 (.cons rfl .nil)) (hw _ (I1.hok.fresh (ao _)))
theorem Ee {e:aO}{es:List aO}{t:TG}{u:AM}{sp:Pos} (h1:PG X e t) (h2:Fj X es u)
  (hs:(de (.Starred e sp::es) X.env).map (·.2)=lJ e X.env::(de es X.env).map (·.2):=by rfl):Fj X (.Starred e sp::es) (af t u):=by
 intro pins s σ H vs us Q I r h
 obtain ⟨v,vr,e1,h⟩:=h
 subst e1
 cases r with
 |cons r rr =>
  rw [hs]
  refine assignInOrder_cons (eD (h1 pins s σ H _ _ _ I r h) fun _ s1 ⟨σ1,H1,I1,q1⟩=>?_)
  exact h2 pins s1 σ1 H1 _ _ Q I1 rr q1
end
end L2
namespace J
open PySem L2
def nu (i j:Nat) (g:ak->R D):ak->R Fl:=fun ρ=>(g ρ).bind fun d=>match d with
 |.list (x::r)=>if r.length<=2000 then .ok (.nx ((ρ.set i (.shr x)).set j (.shr (.list r)))) else .no
 |_=>.no
theorem xP {c:C}{e:aO}{g:ak->R D}{x y:Str}{px py sp pt pos:Pos}{k:Nat} (i j:Nat) (hc:c.X.calm=true) (hN:c.X.N.Nodup) (h:JE c e g)
  (hi:c.X.N[i]?=some x:=by rfl) (hx:IK c.X.env.scope x:=by first|exact eP rfl|exact da rfl) (hfx:c.X.fn x=true\/c.X.env.scope.names.lookup x=some .local:=by first|exact .inl rfl|exact .inr rfl|assumption)
  (hj:c.X.N[j]?=some y:=by rfl) (hy:IK c.X.env.scope y:=by first|exact eP rfl|exact da rfl) (hfy:c.X.fn y=true\/c.X.env.scope.names.lookup y=some .local:=by first|exact .inl rfl|exact .inr rfl|assumption)
  (hs:Df [.Tuple [.Name x px,.Starred (.Name y py) sp] k pt] e pos.line c.X.env=pure false:=by rfl) (hw:Dg [.Tuple [.Name x px,.Starred (.Name y py) sp] k pt] e c.X.env=pure none:=by rfl)
  (h1:(de [.Tuple [.Name x px,.Starred (.Name y py) sp] k pt] c.X.env).map (·.2)=[lJ (.Tuple [.Name x px,.Starred (.Name y py) sp] k pt) c.X.env]:=by rfl) :
  JS c (.Assign [.Tuple [.Name x px,.Starred (.Name y py) sp] k pt] e pos) (nu i j g):=.of fun ρ=>by
 refine xE (AN (h ρ) (KC hc (pU (dH hN hi hx hfx) (Ee (dH hN hj hy hfy) xm))) hs hw h1) fun D σ H h_16=>?_
 obtain ⟨H0,Hs0,la,Hs,f,q⟩:=h_16
 refine sE f q fun d v H1 Hs1 e1 s1 f1 r1=>?_
 unfold nu at q;rw [e1,bind_ok] at q
 split at q
 ·rename_i x0 rr
  by_cases hl:rr.length<=2000
  ·rw [if_pos hl] at q
   cases r1 with
   |list hq rs =>
    cases rs with
    | @cons v0 vs _ _ r0 rs =>
     refine ⟨_,v0,vs,rfl,f1.st.sub.seq hq,by rw [rs.length];omega,fun p hp=>?_⟩
     have st:=cp.new (o:=.lst vs) f1.st.sub hp
     refine ⟨v0,[.ref p],rfl,.ref p,[],rfl,rfl,?_⟩
     exact q _ _ _ (((f1.step st).set i (r0.same st.sh)).set j (.list (.of aK) (rs.same st.sh)))
  ·rw [if_neg hl] at q;exact q.elim
 ·exact q.elim
inductive Ct (K:a5) (mg:Str->Option a7) (x:Str) (ss:List Str):Prop
 |mk (a:aa) (h0:mg x=some (.ref a)) (h1:QA K a (ss.map V.str)):Ct K mg x ss
theorem HC {c:C}{tg:aO}{x:Str}{ss:List Str}{pos:Pos} (hg:Gl c.X x) (hm:Ct c.X.K c.X.mg x ss) (hd:(x==("__debug__" : Str))=false:=by decide):JI c tg (.Name x pos) (fun _=>.ok (ss.map .str)):=.of fun ρ=>by
 obtain ⟨a,h0,h1⟩:=hm
 refine Cy (AR (pS hg h0 (v:=.ref a) rfl hd)) fun σ H Q h=>?_
 obtain ⟨H0,Hs0,la,Hs,f,q⟩:=h
 have hq:∀ H',iF c.X.K H' a (ss.map V.str):=fun _=>.inr h1
 exact ⟨a,rfl,⟨_,hq H⟩,q _ H Hs H (.refl f.st.sub) (.refl _) (Bk (hq H) (ll ss))⟩
def CS (ss:List Str) (g:ak->R D):ak->R (List D):=fun ρ=>(g ρ).bind fun d=>match d with
 |.tuple es=>.ok (rH (ss.map .str) es)
 |_=>.no
theorem HD {c:C}{b:aO}{g:ak->R D}{elts:List aO}{x:Str}{ss:List Str}{x1}{tpos p px pos:Pos} (hg:Gl c.X "zip") (hm:c.X.mg "zip"=none) (hgx:Gl c.X x) (hx:Ct c.X.K c.X.mg x ss) (h:JE c b g) (hd:(x==("__debug__" : Str))=false:=by decide)
  (hs:ap [.Name x px,b] c.X.env=[(false,bQ (.Name x px) c.X.env),(false,bQ b c.X.env)]:=by rfl) (hs2:ap [b] c.X.env=[(false,bQ b c.X.env)]:=by rfl) :
  Gx c (.Tuple elts x1 tpos) (.Call (.Name "zip" p) [.Name x px,b] [] pos) (CS ss g):=.of fun ρ=>by
 obtain ⟨a,h0,h1⟩:=hx
 have hq:∀ H',iF c.X.K H' a (ss.map V.str):=fun _=>.inr h1
 refine Cy (G3 hg hm (bC (pS hgx h0 (v:=.ref a) rfl hd) (bC (h ρ) dD hs2) (by rw [hs,hs2])) hs hs2) fun σ H Q hh=>?_
 obtain ⟨H0,Hs0,la,Hs,f,q⟩:=hh
 refine rE f q fun d v H1 Hs1 e1 s1 f1 r1=>?_
 unfold CS at q;rw [e1,bind_ok] at q
 cases r1 with
 |tuple qb rb=>exact ⟨a,_,_,_,rfl,hq _,(iF.of (f1.st.sub _ _ qb)),q _ H1 Hs1 s1 (Gw (hq _) (ll ss) (.of qb) rb)⟩
 |_=>exact q.elim
def Sh:D->D->R D
 |.str x,.str y=>if x.length+y.length<=100000 then .ok (.str (x++y)) else .no
 |_,_=>.no
end J
namespace L2
open PySem PySem.Spec PyProof.Rows
def Rq (x:V) (lo hi:Option Int) (H:Hp) (Q:VK):Prop:=∃ z,x=.str z/\z.length<=100000/\Q (.str (dS z lo hi)) H
theorem zG {v:a7}{o:Option Int} (h:oS v o):∃ l,v=partValue l/\o=l.map (·.1):=by
 cases h with
 |none=>exact ⟨none,rfl,rfl⟩
 |int i t=>exact ⟨some (i,t),rfl,rfl⟩
theorem NH {X:Cx}:O6 X Rq:=by
 intro pins s σ H x v vl vu lo hi sl Q I rx hs pl pu h
 obtain ⟨z,rfl,hz,q⟩:=h
 obtain ⟨t,rfl⟩:=rx
 obtain ⟨l,rfl,rfl⟩:=zG pl
 obtain ⟨u,rfl,rfl⟩:=zG pu
 refine ⟨"str",_,F.slot_str_getitem.lookup,jG _ _ _,wpAny_getItem_str_slice (l:=l) (u:=u) (st:=none) hs rfl (post_val_or_str ⟨a_ (Txt.slice_le z _ _) (by rw [eW];omega),fun t' k=>?_⟩)⟩
 exact ⟨.str (dS z (l.map (·.1)) (u.map (·.1))),H,I.tok _,⟨t',rfl⟩,q⟩
end L2
namespace J
open PySem L2
def Rr:D->Option Int->Option Int->R D
 |.str z,lo,hi=>if z.length<=1000 then .ok (.str (dS z lo hi)) else .no
 |_,_,_=>.no
def Ef (g:ak->R D) (gl gh:ak->R (Option Int)):ak->R D:=fun ρ=>(g ρ).bind fun x=>(gl ρ).bind fun l=>(gh ρ).bind fun h=>Rr x l h
theorem wP {c:C}{e:aO}{g:ak->R D}{lo hi:Option aO}{gl gh:ak->R (Option Int)}{p2 pos:Pos} (he:JE c e g) (hl:JO c lo gl) (hh:JO c hi gh):JE c (.Subscript e (.Slice lo hi none p2) pos) (Ef g gl gh):=.of fun ρ=>nQ (yK NH (he ρ) (hl ρ) (hh ρ)) fun σ H Q h_2=>by
 obtain ⟨H0,Hs0,la,Hs,f,q⟩:=h_2;refine rE f q fun d v H1 Hs1 e1 s1 f1 r1=>?_;unfold Ef at q;rw [e1,bind_ok] at q;refine K3 f1 (q.on s1 (q':=fun _=>True) fun _ _=>trivial) fun l H2 Hs2 e2 s2 f2=>?_;rw [e2,bind_ok] at q;refine K3 f2 (q.on (s1.trans s2) (q':=fun _=>True) fun _ _=>trivial) fun u H3 Hs3 e3 s3 f3=>?_;rw [e3,bind_ok] at q
 unfold Rr at q
 split at q
 ·rename_i z
  by_cases hz:z.length<=1000
  ·rw [if_pos hz] at q
   exact ⟨z,r1.str_inv,by omega,q _ H3 Hs3 (s1.trans (s2.trans s3)) (.str _)⟩
  ·rw [if_neg hz] at q;exact q.elim
 ·exact q.elim
end J
namespace J
open PySem L2
def Cs (mg:Str->Option a7) (x s:Str):Prop:=∃ t,mg x=some (.str s t)
theorem cs_in {K:a5}{h:bc}{mg:Str->Option a7}{x n:Str}{tk:Tok} (X:K.In h) (G:h.Ns aT mg) (t:dv K aT x=some (some (.str n tk))):Cs mg x n:=⟨_,eL X G t⟩
theorem ct_in {K:a5}{h:bc}{mg:Str->Option a7}{x:Str}{ss:List Str}{A:aa}{od:Option aa}{sl:Array (Option a7)}{its:Array a7}{n:Nat} (X:K.In h) (G:h.Ns aT mg) (a:dv K aT x=some (some (.ref A)))
  (l:K.lookup A=some ⟨.type "tuple",od,.seq its n,sl⟩) (hz:its.size<=1000) (hv:cz (ss.map V.str) its.toList):Ct K mg x ss :=
 ⟨A,eL X G a,⟨_,its,n,l,rfl,rfl,by rw [eW];omega,hv⟩⟩
end J
end
namespace Z
open PySem L2 J
section
def Qu (y:Str):Option Nat:=if y="NoBook" then some 0 else if y="NoText" then some 10 else none
def iy:ak->R Fl:=(eA (Cm (cG (af (hW 1 [1] (mG (rB 0)) kT (g2 (rB 0) (rB 1) (EX false))) aQ) (jm (gY fun bs=>bs.any id)))))
def eG:List D->R D:=gR 2 iy
def iV:ak->R Fl:=(bj (fM (EV (lR (iD (uz (rB 0) "str"))) (lR (iD (n8 (kI 1) (cG (af (rB 0) aQ) (jm lu)) (kI 6) Lz Lz)))) (eA (kB false)) (fun ρ=>.ok (.nx ρ))) (eA (cG (af (hW 1 [] (mG (rB 0)) kT (n8 (fun _=>.ok (.str "a")) (rB 0) (fun _=>.ok (.str "z")) Lz Lz)) aQ) (jm (gY fun bs=>bs.all id)))))
def fv:List D->R D:=gR 1 iV
def dh:ak->R Fl:=(bj (fM (EV (lR (iD (uz (rB 0) "tuple"))) (lR (iD (cG (af (hW 1 [] (mG (rB 0)) kT (gK 1 fv (af (rS 0) aQ))) aQ) (jm (gY fun bs=>bs.all id)))))) (eA (kB false)) (fun ρ=>.ok (.nx ρ))) (eA (cG (af (hW 2 [] (Ka (af (rS 0) (af (IM (rB 0) (Ak (kI 1)) K2) aQ))) kT (g2 (rB 0) (rB 1) EW)) aQ) (jm (gY fun bs=>bs.all id)))))
def cb:List D->R D:=gR 1 dh
def hZ:ak->R Fl:=(eA (ze (gK 1 cb (af (rS 1) aQ)) (cG (af (hW 1 [0] (mG (rB 1)) kT (g2 (rB 0) (rB 1) (EX false))) aQ) (jm (gY fun bs=>bs.all id)))))
def e8:List D->R D:=gR 2 hZ
def iW:ak->R Fl:=(bj (fM (EV (lR (iD (uz (rB 0) "int"))) (iD (uz (rB 0) "bool"))) (eA (kB false)) (fun ρ=>.ok (.nx ρ))) (eA (n8 (rB 1) (rB 0) (rB 2) Lz Lz)))
def gZ:List D->R D:=gR 3 iW
def h_:ak->R Fl:=(bj (fM (EV (lR (iD (uz (rB 1) "tuple"))) (iD (g2 (cG (af (rB 1) aQ) (jm lu)) (kI 6) (lT true)))) (eA (kB false)) (fun ρ=>.ok (.nx ρ))) (bj (zi (rS 1) (oA 6 (c_ (cD 2) (c_ (cD 3) (c_ (cD 4) (c_ (cD 5) (c_ (cD 6) (c_ (cD 7) qo)))))))) (bj (fM (EV (lR (iD (gK 1 fv (af (rS 2) aQ)))) (lR (iD (gK 3 gZ (af (rS 7) (af (kI 0) (af (kI 9) aQ))))))) (eA (kB false)) (fun ρ=>.ok (.nx ρ))) (bj (fM (lR (iD (cG (af (hW 1 [0] (mG (ej (af (rS 3) (af (rS 4) (af (rS 5) (af (rS 6) aQ)))) .tuple)) kT (gK 2 e8 (af (rS 1) (af (rS 0) aQ)))) aQ) (jm (gY fun bs=>bs.all id))))) (eA (kB false)) (fun ρ=>.ok (.nx ρ))) (eA (ze (gK 2 eG (af (rS 3) (af (rS 4) aQ))) (gK 2 eG (af (rS 5) (af (rS 6) aQ)))))))))
def eY:List D->R D:=gR 8 h_
def jA:ak->R Fl:=(bj (fM (EV (lR (iD (uz (rB 0) "tuple"))) (iD (g2 (cG (af (rB 0) aQ) (jm lu)) (kI 2) (lT true)))) (eA (kB false)) (fun ρ=>.ok (.nx ρ))) (bj (zi (rS 0) (oA 2 (c_ (cD 1) (c_ (cD 2) qo)))) (bj (fM (EV (lR (iD (gK 1 cb (af (rS 1) aQ)))) (iD (g2 (cG (af (rB 1) aQ) (jm lu)) (kI 6) O9))) (eA (kB false)) (fun ρ=>.ok (.nx ρ))) (bj (fM (EV (lR (iD (uz (rB 2) "tuple"))) (iD (g2 (cG (af (rB 2) aQ) (jm lu)) (kI 6) O9))) (eA (kB false)) (fun ρ=>.ok (.nx ρ))) (bj (fM (lR (iD (cG (af (hW 1 [1] (mG (rB 2)) kT (gK 2 eY (af (rS 1) (af (rS 0) aQ)))) aQ) (jm (gY fun bs=>bs.all id))))) (eA (kB false)) (fun ρ=>.ok (.nx ρ))) (eA (g2 (lX (nj 1 [] (mG (rB 2)) kT (g2 (rB 0) (kI 0) bG))) (cG (af (rB 2) aQ) (jm lu)) (lT false))))))))
def fz:List D->R D:=gR 3 jA
def lB:ak->R Fl:=(bj (fM (lR (iD (gK 1 fz (af (rS 0) aQ)))) (nq "NoBook" (af (fun _=>.ok (.str "a book is a tuple of facts and errands, each as the document tells")) aQ)) (fun ρ=>.ok (.nx ρ))) (eA (rS 0)))
def jB:List D->R D:=gR 1 lB
def nU:ak->R Fl:=(bj (ko 1 (ej (af (PM " " (g2 (rB 0) (kI 0) bG) (g2 (rB 0) (kI 5) bG)) aQ) .list)) (bj (rJ (CS ["needs","bars","makes","ends"] (IM (rB 0) (Ak (kI 1)) (Ak (kI 5)))) (oA 2 (c_ (cD 2) (c_ (cD 3) qo))) (fM (uQ (rB 3)) (Bo 1 (oM " " (g2 (ej (af (rS 2) aQ) .tuple) (rB 3) cR))) (fun ρ=>.ok (.nx ρ)))) (eA (oM ", " (rB 1)))))
def nV:List D->R D:=gR 4 nU
def nW:ak->R Fl:=(bj (i8 1 (oM " " (g2 (ej (af (fun _=>.ok (.str "facts")) aQ) .tuple) (g2 (rB 0) (kI 0) bG) cR))) (eA (oM "\n" (g2 (ej (af (rS 1) aQ) .list) (hW 1 [] (mG (g2 (rB 0) (kI 1) bG)) kT (gK 1 nV (af (rS 0) aQ))) cR))))
def iX:List D->R D:=gR 2 nW
def iz:ak->R Fl:=(bj (uF 1 (cD 2) (bj (nu 3 4 (CQ (rS 2) (fun _=>.ok (.str " ")) jP)) (fM (iD (g2 (rB 3) (rB 0) (lT false))) (eA (cG (af (rB 4) aQ) (jm fF))) (fun ρ=>.ok (.nx ρ))))) (eA (ej aQ .tuple)))
def g6:List D->R D:=gR 5 iz
def jt:ak->R Fl:=(eA (Qn (iD (g2 (cG (af (rB 0) aQ) (jm lu)) (kI 1) (lT false))) (CQ (fun _=>.ok (.str "0123456789")) (rS 0) NF) kN))
def ju:List D->R D:=gR 1 jt
def kr:ak->R Fl:=(bj (nu 1 2 (CQ (rS 0) (fun _=>.ok (.str ", ")) jP)) (bj (zi (CQ (rS 1) (fun _=>.ok (.str " ")) wO) (oA 3 (c_ (cD 3) (c_ (cD 4) (c_ (cD 5) qo))))) (eA (g2 (g2 (ej (af (rS 3) aQ) .tuple) (cG (af (hW 1 [2] (fun _=>.ok (oG .str ["needs","bars","makes","ends"])) kT (gK 2 g6 (af (rS 0) (af (rS 1) aQ)))) aQ) (jm fF)) cR) (ej (af (gK 1 ju (af (rS 5) aQ)) aQ) .tuple) cR))))
def ku:List D->R D:=gR 6 kr
def qx:ak->R Fl:=(eA (gK 1 iX (af (gK 1 jB (af (rS 0) aQ)) aQ)))
def jv:List D->R D:=gR 1 qx
def rN:ak->R Fl:=(bj (fM (lR (iD (uz (rB 0) "str"))) (nq "NoText" (af (fun _=>.ok (.str "it is no text")) aQ)) (fun ρ=>.ok (.nx ρ))) (bj (nu 1 2 (CQ (rS 0) (fun _=>.ok (.str "\n")) jP)) (bj (i8 3 (ej (af (cG (af (IM (CQ (rS 1) (fun _=>.ok (.str " ")) jP) (Ak (kI 1)) K2) aQ) (jm fF)) (af (cG (af (hW 1 [] (mG (rB 2)) kT (gK 1 ku (af (rS 0) aQ))) aQ) (jm fF)) aQ)) .tuple)) (bj (fM (EV (lR (iD (gK 1 fz (af (rS 3) aQ)))) (iD (g2 (gK 1 iX (af (rS 3) aQ)) (rB 0) (lT true)))) (nq "NoText" (af (fun _=>.ok (.str "it is not written as a book is")) aQ)) (fun ρ=>.ok (.nx ρ))) (eA (rS 3))))))
def lY:List D->R D:=gR 4 rN
def j5:ak->R Fl:=(bj (fM (iD (g2 (rB 1) (cG (af (rB 0) aQ) (jm lu)) EW)) (eA (g2 (rB 0) (rB 1) bG)) (fun ρ=>.ok (.nx ρ))) (bj (fM (iD (g2 (rB 0) (ej aQ .list) (lT false))) (eA (kI 0)) (fun ρ=>.ok (.nx ρ))) (eA (g2 (g2 (g2 (rB 0) (g2 (rB 1) (cG (af (rB 0) aQ) (jm lu)) DW) bG) (kI 31) sZ) (rB 1) cR))))
def j6:List D->R D:=gR 2 j5
def kw:ak->R Fl:=(bj (i8 3 (g2 (g2 (g2 (g2 (gK 2 j6 (af (rS 0) (af (rS 1) aQ))) (g2 (kI 7919) (rB 1) sZ) cR) (kI 1) cR) (kI 48271) sZ) (kI 2147483647) DW)) (eA (g2 (g2 (g2 (g2 (g2 (rB 3) (rB 3) sZ) (g2 (kI 7) (rB 3) sZ) cR) (rB 1) cR) (kI 2147483629) DW) (rB 2) DW)))
def ba:List D->R D:=gR 4 kw
def lZ:ak->R Fl:=(bj (i8 2 (fun _=>.ok (.str ""))) (bj (rJ (wG (af (g2 (ej (af (kI 1) (af (kI 2) (af (kI 3) (af (kI 6) (af (kI 1) (af (kI 4) aQ)))))) .list) (gK 3 ba (af (rS 0) (af (rS 1) (af (kI 6) aQ)))) bG) aQ)) (cD 3) (i8 2 (g2 (rB 2) (g2 (fun _=>.ok (.str "abcdefghijklmnopqrstuvwxyz")) (gK 3 ba (af (rS 0) (af (g2 (g2 (rB 1) (kI 1) cR) (rB 3) cR) (af (kI 26) aQ)))) bG) cR))) (eA (rS 2))))
def iY:List D->R D:=gR 4 lZ
def kz:ak->R Fl:=(bj (ko 3 (fun _=>.ok (.dict []))) (bj (rJ (wG (af (gK 3 ba (af (rS 0) (af (rS 1) (af (g2 (rB 2) (kI 1) cR) aQ)))) aQ)) (cD 4) (xO 3 (gK 2 iY (af (rS 0) (af (g2 (g2 (rB 1) (kI 1) cR) (g2 (kI 8) (rB 4) sZ) cR) aQ))) (kB true))) (eA (cG (af (cG (af (cG (af (rB 3) aQ) (jm kq)) aQ) (jm nR)) aQ) (jm fF)))))
def kA:List D->R D:=gR 5 kz
def l_:ak->R Fl:=(bj (i8 4 (g2 (rB 2) (gK 3 ba (af (rS 0) (af (g2 (rB 1) (kI 10) cR) (af (cG (af (rB 2) aQ) (jm lu)) aQ)))) bG)) (bj (i8 5 (g2 (rB 2) (gK 3 ba (af (rS 0) (af (g2 (rB 1) (kI 11) cR) (af (cG (af (rB 2) aQ) (jm lu)) aQ)))) bG)) (bj (i8 6 (g2 (rB 2) (gK 3 ba (af (rS 0) (af (g2 (rB 1) (kI 12) cR) (af (cG (af (rB 2) aQ) (jm lu)) aQ)))) bG)) (bj (i8 7 (IM (ej (af (rS 4) (af (rS 5) aQ)) .list) K2 (Ak (g2 (kI 1) (g2 (gK 3 ba (af (rS 0) (af (g2 (rB 1) (kI 13) cR) (af (kI 3) aQ)))) (kI 2) Gn) cR)))) (bj (ko 8 (hW 1 [7,0,1] (mG (ej (af (rS 6) aQ) .list)) (sY (iD (g2 (rB 0) (rB 1) (EX true))) (iD (g2 (gK 3 ba (af (rS 2) (af (g2 (rB 3) (kI 14) cR) (af (kI 4) aQ)))) (kI 0) (lT false)))) (rS 0))) (bj (ko 9 (hW 1 [6,0,1] (mG (ej (af (rS 4) aQ) .list)) (sY (iD (g2 (rB 0) (rB 1) (lT true))) (iD (g2 (gK 3 ba (af (rS 2) (af (g2 (rB 3) (kI 15) cR) (af (kI 3) aQ)))) (kI 0) (lT false)))) (rS 0))) (bj (Qr 8 (Qr 9 (ko 10 (hW 1 [] (mG (ej (af (rS 7) (af (rS 8) (af (ej (af (rS 6) aQ) .list) (af (rS 9) aQ)))) .tuple)) kT (cG (af (lw (rL (rB 0))) aQ) (jm fF)))))) (eA (ej (af (rS 3) (af (g2 (rB 10) (kI 0) bG) (af (g2 (rB 10) (kI 1) bG) (af (g2 (rB 10) (kI 2) bG) (af (g2 (rB 10) (kI 3) bG) (af (gK 3 ba (af (rS 0) (af (rS 1) (af (kI 5) aQ)))) aQ)))))) .tuple)))))))))
def m5:List D->R D:=gR 11 l_
def gC:ak->R Fl:=(bj (fM (sY (iD (g2 (rB 2) (ej aQ .tuple) (lT true))) (iD (g2 (gK 3 ba (af (rS 0) (af (kI 97) (af (kI 2) aQ)))) (kI 0) (lT false)))) (eA (gK 4 m5 (af (rS 0) (af (rS 1) (af (rS 2) (af (rS 3) aQ)))))) (fun ρ=>.ok (.nx ρ))) (bj (Kf 4) (bj (rJ (Gy (af (rS 2) aQ)) (oA 2 (c_ (cD 5) (c_ (cD 6) qo))) (bj (i8 7 (gK 3 ba (af (rS 0) (af (g2 (g2 (rB 1) (kI 10) cR) (rB 5) cR) (af (kI 8) aQ))))) (bj (fM (iD (g2 (rB 7) (kI 3) EW)) (lz 4 (g2 (ej (af (kI 0) (af (kI 0) (af (kI 1) aQ))) .list) (rB 7) bG) (rS 6)) (fun ρ=>.ok (.nx ρ))) (bj (i8 7 (gK 3 ba (af (rS 0) (af (g2 (g2 (rB 1) (kI 20) cR) (rB 5) cR) (af (kI 8) aQ))))) (fM (iD (g2 (rB 7) (kI 4) EW)) (lz 4 (g2 (ej (af (kI 2) (af (kI 2) (af (kI 3) (af (kI 3) aQ)))) .list) (rB 7) bG) (rS 6)) (fun ρ=>.ok (.nx ρ))))))) (bj (fun ρ=>(ko 8 (hW 1 [] (mG (rB 4)) kT (cG (af (rB 0) aQ) (jm fF)))) (dR ρ)) (eA (ej (af (rS 3) (af (g2 (rB 8) (kI 0) bG) (af (g2 (rB 8) (kI 1) bG) (af (g2 (rB 8) (kI 2) bG) (af (g2 (rB 8) (kI 3) bG) (af (gK 3 ba (af (rS 0) (af (rS 1) (af (kI 5) aQ)))) aQ)))))) .tuple))))))
def gD:List D->R D:=gR 9 gC
def jQ:ak->R Fl:=(bj (i8 4 (gK 3 kA (af (rS 0) (af (rS 1) (af (rS 2) aQ))))) (bj (ko 5 (fun _=>.ok (.dict []))) (bj (rJ (wG (af (gK 3 ba (af (rS 0) (af (g2 (rB 1) (kI 60) cR) (af (g2 (rB 3) (kI 1) cR) aQ)))) aQ)) (cD 6) (bj (i8 7 (gK 2 iY (af (rS 0) (af (g2 (g2 (rB 1) (kI 70) cR) (g2 (kI 40) (rB 6) sZ) cR) aQ)))) (xO 5 (rS 7) (gK 4 gD (af (rS 0) (af (g2 (g2 (rB 1) (kI 80) cR) (g2 (kI 40) (rB 6) sZ) cR) (af (rS 4) (af (rS 7) aQ)))))))) (bj (i8 8 (cG (af (rB 5) aQ) (jm kq))) (bj (i8 9 (gK 3 ba (af (rS 0) (af (g2 (rB 1) (kI 61) cR) (af (g2 (cG (af (rB 8) aQ) (jm lu)) (kI 1) cR) aQ))))) (eA (ej (af (rS 4) (af (cG (af (hW 1 [5] (mG (g2 (IM (rB 8) (Ak (rS 9)) K2) (IM (rB 8) K2 (Ak (rS 9))) cR)) kT (g2 (rB 1) (rB 0) bG)) aQ) (jm fF)) aQ)) .tuple)))))))
def jR:List D->R D:=gR 10 jQ
def jS:ak->R Fl:=(E8 Qu (eA (gK 1 lY (af (rS 0) aQ))))
def eM:List D->R D:=gR 2 jS
def CT:ak->R Fl:=(bj (i8 1 (gK 4 jR (af (rS 0) (af (kI 100) (af (kI 5) (af (kI 4) aQ)))))) (bj (i8 2 (gK 1 jv (af (rS 1) aQ))) (bj (i8 3 (gK 3 ba (af (rS 0) (af (kI 0) (af (g2 (cG (af (rB 2) aQ) (jm lu)) (kI 1) cR) aQ))))) (bj (ko 4 (ej (af (fun _=>.ok (.str "")) (af (fun _=>.ok (.str " ")) (af (fun _=>.ok (.str ",")) (af (fun _=>.ok (.str ", ")) (af (fun _=>.ok (.str "\n")) (af (fun _=>.ok (.str "0")) (af (fun _=>.ok (.str "a")) (af (fun _=>.ok (.str " a")) (af (fun _=>.ok (.str "A")) (af (fun _=>.ok (.str ", needs a")) (af (fun _=>.ok (.str ", ends")) (af (fun _=>.ok (.str "facts")) aQ)))))))))))) .list)) (bj (i8 5 (g2 (g2 (Ef (rS 2) K2 (Ak (rS 3))) (g2 (rB 4) (gK 3 ba (af (rS 0) (af (kI 1) (af (kI 12) aQ)))) bG) cR) (Ef (rS 2) (Ak (g2 (rB 3) (gK 3 ba (af (rS 0) (af (kI 2) (af (kI 3) aQ)))) cR)) K2) cR)) (bj (i8 6 (gK 1 eM (af (rS 5) aQ))) (bj (fM (sY (iD (g2 (rB 6) (ej (af (fun _=>.ok (.str "refused")) (af (kI 10) aQ)) .tuple) (lT true))) (iD (g2 (gK 1 jv (af (rS 6) aQ)) (rB 5) (lT true)))) (eA (kB false)) (fun ρ=>.ok (.nx ρ))) (bj (ko 7 (ej (af (fun _=>.ok (.str "")) (af (fun _=>.ok (.str "fact a")) (af (fun _=>.ok (.str "facts b a")) (af (fun _=>.ok (.str "facts a a")) (af (fun _=>.ok (.str "facts a\n")) (af (fun _=>.ok (.str "facts a\nx")) (af (fun _=>.ok (.str "facts a\nx 10")) (af kN (af (kI 5) aQ))))))))) .list)) (bj (E7 7 (ej (af (fun _=>.ok (.str "facts a\nx 1,needs a")) (af (fun _=>.ok (.str "facts a\nx 1, needs")) (af (fun _=>.ok (.str "facts a\nx 1, makes a, needs a")) (af (fun _=>.ok (.str "facts  a")) aQ)))) .list)) (bj (E7 7 (ej (af (fun _=>.ok (.str "facts a\nx 1, needs a, needs a")) (af (fun _=>.ok (.str "facts a\nx 1, needs b")) (af (fun _=>.ok (.str "facts a\nx 1\nx 2")) (af (fun _=>.ok (.str "facts A")) aQ)))) .list)) (bj (E7 7 (ej (af (fun _=>.ok (.str " facts a")) (af (fun _=>.ok (.str "facts a\nx 1, wants a")) (af (ej (af (fun _=>.ok (.str "facts")) aQ) .list) aQ))) .list)) (eA (g2 (gK 1 eM (af (g2 (rB 7) (gK 3 ba (af (rS 0) (af (kI 3) (af (kI 20) aQ)))) bG) aQ)) (ej (af (fun _=>.ok (.str "refused")) (af (kI 10) aQ)) .tuple) (lT false))))))))))))))
def F_law:List D->R D:=gR 8 CT
end
end Z
section
set_option hygiene false
namespace Z
open PySem L2 J
local macro_rules | `(tactic| walk_at "zz") => `(tactic| simp only [Pz, Kv, PB, PD, PF, wH, nr, zx, ND, GK, Bv, GL, LN, Pe, CF, zy, CG, zz, zA, zB, GM, GN, GO, CH, Pg, LP, LQ, GP, LR, GQ, LS, Pj, GR, LU, GS, CI, GT, CJ, LX, GU, CK, GV, GW, GX, G_, zC, zD, LY, H9, CL, Ha, Po, L_, M0, Hb, M1, Hc, Hd, M2, M3, He, Ps, Hf, Hg, M4, M5, Hh, Kn, Hi, M6, M7, Hj, CM, CN, Ma, wI, wJ, wK, Hk, Pu, Hm, Ho, Hq, Hr, Ht, Hu, wM, gS, cR, sZ, DW, Gn, Be, EW, Lz, O9, DX, lu, al, dG, aD, eJ, au, tE, mZ, Dr, Ds, qR, qS, Nat.reduceSub, Nat.reduceAdd, J8, J9, Nat.sub_self, if_true, if_false, ite_true, ite_false, bw, decide_true, decide_false, cond_true, cond_false, jl, iI, ao, bV, AJ, Int.reduceLE, Int.reduceAdd, Int.reduceMul, Nat.reduceLT, Int.reduceNeg, reduceIte])
local macro_rules | `(tactic| walk_at "yy") => `(tactic| simp only [Pz, Kv, PB, PD, PF, wH, nr, zx, LN, Pe, CF, zy, CG, zz, zA, zB, GM, GN, GO, CH, Pg, LP, LQ, GP, LR, GQ, LS, Pj, GR, LU, GS, CI, GT, CJ, LX, GU, CK, GV, GW, GX, G_, zC, zD, LY, H9, CL, Ha, Po, L_, M0, Hb, M1, Hc, Hd, M2, M3, He, Ps, Hf, Hg, M4, M5, Hh, Kn, Hi, M6, M7, Hj, CM, CN, Ma, wI, wJ, wK, Hk, Pu, Hm, Ho, Hq, Hr, Ht, Hu, wM, gS, cR, lu, al, dG, aD, eJ, au, tE, mZ, Dr, Ds, qR, qS, Nat.reduceSub, Nat.reduceAdd, J8, J9, Nat.sub_self, if_true, if_false, ite_true, ite_false, bw, decide_true, decide_false, cond_true, cond_false, jl, iI, ao, bV, AJ, Int.reduceLE, Int.reduceAdd, Int.reduceMul, Nat.reduceLT, Int.reduceNeg, reduceIte])
theorem c6 {n:Nat}{g:ak->R Fl}{ds:List D}{d:D} (h:g (bt n ds)=.ok (.rt d)):gR n g ds=.ok d:=by unfold gR;rw [h]
theorem HE {n:Nat}{g:ak->R Fl}{ds:List D}{c:Str}{m:Option D} (h:g (bt n ds)=.ex c m):gR n g ds=.ex c m:=by unfold gR;rw [h]
def CU (ns:List Int) (k:Int):Int:=if k<ns.length then ns.getD k.toNat 0 else if ns=[] then 0 else ns.getD (k % ns.length).toNat 0*31+k
theorem HF (ns:List Int):bZ (ns.map .int)=true:=by
 induction ns with
 |nil=>rfl
 |cons x r ih=>simp [bZ,eV,ih]
theorem KD (ns:List Int):bn (.list (ns.map .int)) (.list [])=decide (ns=[]):=by
 cases ns with
 |nil=>rfl
 |cons x r=>simp [bn,Ja]
theorem NI (ns:List Int):lT false (.list (ns.map .int)) (.list [])=.ok (.bool (decide (ns=[]))):=by
 unfold lT
 have h1:(i7 (ns.map .int)).canLay0=true:=by simp only [eV];exact HF ns
 have h2:(i7 []).canLay0=true:=rfl
 have h3:min (i7 (ns.map .int)).depth (i7 []).depth<=60:=a_ (mJ _ _) (by decide)
 rw [h1,h2,decide_eq_true h3,KD]
 rfl
theorem NJ (ns:List Int) (k:Int) (h0:0<=k) (h1:k<ns.length):Ai (ns.map ev) k=some (.int (ns.getD k.toNat 0)):=by
 have hk:k.toNat<ns.length:=by omega
 have:=pY (xs:=ns.map ev) (j:=k.toNat) (v:=.int (ns.getD k.toNat 0)) (by rw [aE,bg hk];simp [hk])
 rwa [cn h0] at this
theorem HG (ns:List Int) (k:Int) (h0:0<=k) (h1:k<ns.length):bG (.list (ns.map .int)) (.int k)=.ok (.int (ns.getD k.toNat 0)):=by
 have e:∀ xs k,bG (.list xs) k=DY (.list xs) k:=fun _ _=>rfl
 rw [e]
 unfold DY
 simp only [NJ ns k h0 h1]
theorem CV {i j:Int} (h1:-(2 ^ 64)<j) (h2:j<2 ^ 64):wB i j=true:=by
 unfold wB
 simp only [mY,aB,decide_eq_true_eq]
 exact .inr ⟨h1,h2⟩
theorem nX {i j:Int} (h1:-(2 ^ 64)<i) (h2:i<2 ^ 64):wB i j=true:=by
 unfold wB
 simp only [mY,aB,decide_eq_true_eq]
 exact .inl ⟨h1,h2⟩
theorem KG (ns:List Int) (k:Int) (hk:0<=k):j6 [.list (ns.map .int),.int k]=.ok (.int (CU ns k)):=by
 unfold j6
 refine c6 ?_
 unfold j5 bt CU
 walk_at "zz"
 by_cases h:k<ns.length
 ·simp only [h,decide_true,cond_true,if_true,HG ns k hk h,bind_ok]
  walk_at "zz"
 ·simp only [h,decide_false,cond_false,if_false]
  walk_at "zz"
  rw [NI]
  walk_at "zz"
  by_cases h2:ns=[]
  ·simp only [h2,decide_true,cond_true,if_true]
   walk_at "zz"
  ·have hl:(0:Int)<ns.length:=by have:0<ns.length:=List.length_pos_iff.mpr h2;omega
   simp only [h2,decide_false,cond_false,if_false,hl,decide_true]
   walk_at "zz"
   simp only [h2,decide_false,cond_false,if_false,hl,decide_true,if_true]
   walk_at "zz"
   rw [HG ns _ (vC _ (by omega)) (rg _ hl)]
   walk_at "zz"
   rw [CV (by decide) (by decide)]
   walk_at "zz"
def uR (ns:List Int) (k:Int):Int:=(CU ns k+7919*k+1)*48271 % 2147483647
def e6 (ns:List Int) (k m:Int):Int:=(uR ns k*uR ns k+7*uR ns k+k) % 2147483629 % m
theorem dI (ns:List Int) (k m:Int) (h:0<m):0<=e6 ns k m:=vC _ (by omega)
theorem eQ (ns:List Int) (k m:Int) (h:0<m):e6 ns k m<m:=rg _ h
theorem eN (ns:List Int) (k m:Int) (hk:0<=k) (hm:0<m):ba [.list (ns.map .int),.int k,.int m]=.ok (.int (e6 ns k m)):=by
 have d0:0<=uR ns k:=vC _ (by decide)
 have d1:uR ns k<2147483647:=rg _ (by decide)
 unfold ba
 refine c6 ?_
 unfold kw bt
 walk_at "zz"
 rw [KG ns k hk]
 walk_at "zz"
 rw [nX (by decide) (by decide)]
 walk_at "zz"
 rw [CV (by decide) (by decide)]
 walk_at "zz"
 rw [show (CU ns k+7919*k+1)*48271 % 2147483647=uR ns k from rfl,nX (i:=uR ns k) (by omega) (by omega)]
 walk_at "zz"
 rw [nX (i:=7) (by decide) (by decide)]
 walk_at "zz"
 rw [decide_eq_true hm]
 walk_at "zz"
 rfl
theorem qy {α β:Type}{kt:D->ak->R ak}{gb:ak->R Fl} (c:α->D) (f:β->α->β) (P:List α->β->ak->Prop) (h:∀ x bB b ρ,P (x::bB) b ρ->∃ ρ1 ρ',kt (c x) ρ=.ok ρ1/\gb ρ1=.ok (.nx ρ')/\P bB (f b x) ρ') :
  ∀ (xs:List α) (b:β) (ρ:ak),P xs b ρ->∃ ρ',iU kt gb (xs.map c) ρ=.ok (.nx ρ')/\P [] (xs.foldl f b) ρ'
 |[],b,ρ,p=>⟨ρ,rfl,p⟩
 |x::r,b,ρ,p=>by
  obtain ⟨ρ1,ρ2,h1,h2,h3⟩:=h x r b ρ p
  obtain ⟨ρ3,h4,h5⟩:=qy c f P h r (f b x) ρ2 h3
  refine ⟨ρ3,?_,h5⟩
  rw [al]
  unfold iU
  rw [h1]
  simp only [h2]
  exact h4
theorem CW {α β:Type}{kt:D->ak->R ak}{gb hh:ak->R Fl}{r:R Fl} (c:α->D) (f:β->α->β) (P:List α->β->ak->Prop) {xs:List α} (b:β) {ρ:ak}
  (h:∀ x bB b ρ,P (x::bB) b ρ->∃ ρ1 ρ',kt (c x) ρ=.ok ρ1/\gb ρ1=.ok (.nx ρ')/\P bB (f b x) ρ') (p0:P xs b ρ) (k:∀ ρ',P [] (xs.foldl f b) ρ'->hh ρ'=r):(iU kt gb (xs.map c) ρ).bind (GJ hh)=r:=by
 obtain ⟨ρ',e,p⟩:=qy c f P h xs b ρ p0
 rw [e,bind_ok,nr]
 exact k ρ' p
theorem xQ (n:Nat) (h:n<=1000):Bl [.int (n:Int)]=.ok ((bL n).map fun (i:Nat)=>ev (i:Int)):=by
 have e:Bl [.int (n:Int)]=.ok (ni 0 (n:Int).toNat):=Kq (by omega) (by omega)
 rw [e]
 unfold ni
 rw [iN]
 exact congrArg R.ok (pG fun a _=>congrArg ev (Int.zero_add _))
def uS (x:Str):Bool:=decide (1<=x.cps.size)&&decide (x.cps.size<=6/\x.cps.size≠5)&&x.cps.toList.all fun c=>decide (97<=c)&&decide (c<=122)
def oN (ns:List Int) (k:Int):Nat:=[1,2,3,6,1,4].getD (e6 ns k 6).toNat 0
def xR (ns:List Int) (k:Int) (i:Nat):Nat:=97+(e6 ns (k+1+i) 26).toNat
def jb (ns:List Int) (k:Int):Str:=⟨((bL (oN ns k)).map (xR ns k)).toArray⟩
theorem CY (ns:List Int) (k:Int):1<=oN ns k/\(oN ns k<=6/\oN ns k≠5):=by
 have h0:=dI ns k 6 (by decide)
 have h1:=eQ ns k 6 (by decide)
 unfold oN
 have:∀ j:_root_.Fin 6,1<=[1,2,3,6,1,4].getD j.val 0/\([1,2,3,6,1,4].getD j.val 0<=6/\[1,2,3,6,1,4].getD j.val 0≠5):=by decide
 exact this ⟨(e6 ns k 6).toNat,by omega⟩
theorem KH (ns:List Int) (k:Int) (i:Nat):97<=xR ns k i/\xR ns k i<=122:=by
 have h0:=dI ns (k+1+i) 26 (by decide)
 have h1:=eQ ns (k+1+i) 26 (by decide)
 unfold xR
 omega
theorem zH (ns:List Int) (k:Int):uS (jb ns k)=true:=by
 have ⟨h1,h2⟩:=CY ns k
 unfold uS jb
 simp only [ax,au,fW,aB,decide_eq_true_eq,cj]
 refine ⟨⟨h1,h2⟩,fun c hc=>?_⟩
 obtain ⟨i,_,rfl⟩:=List.mem_map.mp hc
 exact KH ns k i
theorem HH (j:Int) (h0:0<=j) (h1:j<26):bG (.str "abcdefghijklmnopqrstuvwxyz") (.int j)=.ok (.str ⟨#[97+j.toNat]⟩):=by
 have e:∀ x k,bG (.str x) k=DY (.str x) k:=fun _ _=>rfl
 rw [e]
 unfold DY
 have hc:("abcdefghijklmnopqrstuvwxyz" : Str).cps.toList=(bL 26).map (97 + ·):=by decide +kernel
 have hl:("abcdefghijklmnopqrstuvwxyz" : Str).length<=1000:=by decide +kernel
 have hj:j.toNat<26:=by omega
 have hx:=pY (xs:=(bL 26).map (97 + ·)) (j:=j.toNat) (v:=97+j.toNat) (by rw [aE,Dp hj];rfl)
 rw [cn h0] at hx
 simp only [hl,if_true,hc,hx]
theorem KI (j:Int) (h0:0<=j) (h1:j<6):bG (.list [.int 1,.int 2,.int 3,.int 6,.int 1,.int 4]) (.int j)=.ok (.int (([1,2,3,6,1,4].getD j.toNat 0:Nat):Int)):=by
 obtain ⟨n,rfl⟩:=Int.eq_ofNat_of_zero_le h0
 have hn:n<6:=by omega
 match n,hn with
 | 0,_=>rfl
 | 1,_=>rfl
 | 2,_=>rfl
 | 3,_=>rfl
 | 4,_=>rfl
 | 5,_=>rfl
theorem xS (l:List Nat):∀ (acc:Str),l.foldl (fun (a:Str) c=>a++⟨#[c]⟩) acc=⟨(acc.cps.toList++l).toArray⟩:=by
 induction l with
 |nil=>intro acc;simp
 |cons c r ih =>
  intro acc
  rw [Jb,ih]
  show (⟨((acc.cps++#[c]).toList++r).toArray⟩:Str)=_
  simp
theorem Eg:("" : Str).cps.toList=[]:=by decide +kernel
theorem CZ (ns:List Int) (k:Int) (hk:0<=k):iY [.list (ns.map .int),.int k]=.ok (.str (jb ns k)):=by
 have h0:=dI ns k 6 (by decide)
 have h1:=eQ ns k 6 (by decide)
 have ⟨w1,w2⟩:=CY ns k
 unfold iY
 refine c6 ?_
 unfold lZ bt
 walk_at "zz"
 rw [zE (ds:=(bL (oN ns k)).map fun (i:Nat)=>ev i)]
 ·refine CW (fun (i:Nat)=>ev i) (fun (a:Str) i=>a++⟨#[xR ns k i]⟩) (fun bB a ρ=>a.length+bB.length<=900/\∃ z,ρ=[.shr (.list (ns.map .int)),.shr (.int k),.shr (.str a),z]) "" ?_ ⟨by rw [fW,show ("" : Str).length=0 by decide];omega,_,rfl⟩ ?_
  ·rintro i bB a ρ ⟨hl,z,rfl⟩
   simp only [aD] at hl
   refine ⟨_,[.shr (.list (ns.map .int)),.shr (.int k),.shr (.str (a++⟨#[xR ns k i]⟩)),.shr (.int i)],rfl,?_,?_,_,rfl⟩
   ·walk_at "zz"
    rw [eN ns _ 26 (by omega) (by decide)]
    walk_at "zz"
    rw [HH _ (dI _ _ _ (by decide)) (eQ _ _ _ (by decide))]
    walk_at "zz"
    have hz:a.length+(⟨#[97+(e6 ns (k+1+i) 26).toNat]⟩:Str).length<=1000:=by
     show a.length+1<=1000
     omega
    rw [if_pos hz]
    walk_at "zz"
    rw [show 97+(e6 ns (k+1+i) 26).toNat=xR ns k i from rfl]
   ·show (a.cps++#[_]).size+bB.length<=900
    rw [ET]
    show a.cps.size+1+bB.length<=900
    have:a.length=a.cps.size:=rfl
    omega
  ·rintro ρ' ⟨_,z,rfl⟩
   walk_at "zz"
   have:(bL (oN ns k)).foldl (fun (a:Str) i=>a++⟨#[xR ns k i]⟩) ""=jb ns k:=by
    have:=xS ((bL (oN ns k)).map (xR ns k)) ""
    rw [List.foldl_map] at this
    rw [this,Eg]
    unfold jb
    rw [mZ]
   rw [this]
 ·walk_at "zz"
  rw [eN ns k 6 hk (by decide)]
  walk_at "zz"
  have et:=KI (e6 ns k 6) h0 h1
  have ew:[1,2,3,6,1,4].getD (e6 ns k 6).toNat 0=oN ns k:=rfl
  rw [ew] at et
  rw [et]
  walk_at "zz"
  rw [xQ (oN ns k) (by omega)]
def jw (l:List (Str×D)):List (D×D):=l.map fun p=>(.str p.1,p.2)
def qz (l:List (Str×D)) (x:Str) (d:D):List (Str×D):=if l.any (fun p=>decide (p.1=x)) then l.map (fun p=>if p.1=x then (p.1,d) else p) else l++[(x,d)]
theorem nY (x y:Str):bn (.str x) (.str y)=decide (x=y):=by
 show (x==y)=_
 rw [nM]
theorem KJ (l:List (Str×D)) (x:Str) (d:D):E4 (jw l) (.str x) d=jw (qz l x d):=by
 unfold E4 qz jw
 rw [List.any_map]
 have e:((fun kv:D×D=>bn kv.1 (.str x))∘fun p:Str×D=>(ay p.1,p.2))=fun p=>decide (p.1=x):=by
  funext p
  exact nY p.1 x
 rw [e]
 split
 ·rw [cZ,cZ]
  apply pG
  intro p _
  simp only [Function.comp,nY]
  by_cases h:p.1=x
  ·simp [h]
  ·simp [h]
 ·simp
theorem uT (l:List (Str×D)):fm (jw l)=true:=by
 unfold fm jw
 rw [List.all_map,cj]
 intro p _
 rfl
theorem zI (l:List (Str×D)) (x:Str) (d:D):(qz l x d).length<=l.length+1:=by
 unfold qz
 split<;>simp
theorem wQ (l:List (Str×D)) (x:Str) (d:D):(qz l x d).map (·.1)=if x∈l.map (·.1) then l.map (·.1) else l.map (·.1)++[x]:=by
 unfold qz
 have e:(l.any fun p=>decide (p.1=x))=decide (x∈l.map (·.1)):=by
  rw [fG]
  simp only [tq,decide_eq_true_eq,Af]
 rw [e]
 by_cases h:x∈l.map (·.1)
 ·rw [decide_eq_true h,if_pos rfl,if_pos h,cZ]
  apply pG
  intro p _
  by_cases hp:p.1=x<;>simp [hp]
 ·rw [decide_eq_false h,if_neg aP,if_neg h,i4]
  rfl
theorem HI {Q:Str->D->Prop}{l:List (Str×D)}{x:Str}{d:D} (h:∀ p∈l,Q p.1 p.2) (hx:Q x d):∀ p∈qz l x d,Q p.1 p.2:=by
 unfold qz
 split
 ·intro p hp
  obtain ⟨p',hp',rfl⟩:=List.mem_map.mp hp
  by_cases e:p'.1=x
  ·rw [if_pos e];rw [e];exact hx
  ·rw [if_neg e];exact h p' hp'
 ·intro p hp
  rcases List.mem_append.mp hp with hp|hp
  ·exact h p hp
  ·rw [List.mem_singleton.mp hp];exact hx
theorem Eh {l:List Str}{x:Str} (h:l.Nodup):(if x∈l then l else l++[x]).Nodup:=by
 by_cases hx:x∈l
 ·rw [if_pos hx];exact h
 ·rw [if_neg hx];exact Cd h hx
theorem Mj {i:Nat}{gk g:ak->R D}{ρ:ak}{l:List (Str×D)}{x:Str}{d:D} (hi:ρ[i]?=some (Sl.own (.dict (jw l)))) (hg:g ρ=.ok d) (hk:gk ρ=.ok (.str x)) (hl:l.length<1000):xO i gk g ρ=.ok (.nx (ρ.set i (.own (.dict (jw (qz l x d)))))):=by
 have hl':(jw l).length<1000:=by unfold jw;rw [au];exact hl
 have e:xO i gk g ρ=(g ρ).bind fun d=>(gk ρ).bind fun k=>match sx k with
  |some _=>if (jw l).length<1000/\fm (jw l)=true then .ok (.nx (ρ.set i (.own (.dict (E4 (jw l) k d))))) else .no
  |none=>.no:=by
  unfold xO
  simp only [hi]
  try rfl
 rw [e,hg,gS,hk,gS]
 simp only [sx,if_pos (u3 hl' (uT l)),KJ]
theorem zJ (l:List (Str×D)):kq (.dict (jw l))=.ok (.list ((l.map (·.1)).map .str)):=by
 have e:∀ kvs,kq (.dict kvs)=if fm kvs=true then .ok (.list (kvs.map (·.1))) else .no:=fun _=>rfl
 rw [e,if_pos (uT l)]
 unfold jw
 rw [cZ,cZ]
 rfl
theorem sorted_strs (ss:List Str) (h:ss.length<64):nR (.list (ss.map .str))=.ok (.list ((iM ss).map .str)):=by
 have e:∀ ds,nR (.list ds)=match dZ ds with
  |some ss=>if ss.length<64 then .ok (.list ((iM ss).map .str)) else .no
  |none=>.no:=fun _=>rfl
 rw [e,strsOf_map]
 simp only [if_pos h]
theorem dL (ds:List D):fF (.list ds)=.ok (.tuple ds):=id rfl
def xT (ns:List Int) (k:Int) (n:Nat):List Str:=(bL n).map fun (i:Nat)=>jb ns (k+1+8*(i:Int))
def xU (ns:List Int) (k m:Int):List Str:=iM (dE [] (xT ns k (e6 ns k (m+1)).toNat))
structure KL (fs:List Str) (n:Nat):Prop where
 ok:∀ x∈fs,uS x=true
 up:fs.Pairwise fun a b=>li a b=true
 len:fs.length<=n
theorem HJ {α:Type}{a b:List α} (h:a.Perm b):a.length=b.length:=h.length_eq
theorem Bx (ns:List Int) (k m:Int) (hm:0<=m):KL (xU ns k m) m.toNat:=by
 have h0:=dI ns k (m+1) (by omega)
 have h1:=eQ ns k (m+1) (by omega)
 have hp:=gW (dE [] (xT ns k (e6 ns k (m+1)).toNat))
 refine ⟨fun x hx=>?_,?_,?_⟩
 ·have hx:=hp.mem_iff.mp hx
  rw [lg] at hx
  rcases hx with hx|hx
  ·cases hx
  ·obtain ⟨i,_,rfl⟩:=List.mem_map.mp hx
   exact zH _ _
 ·exact wy (qg _) (hp.nodup_iff.mpr (kj _ [] kg))
 ·unfold xU
  rw [HJ hp]
  have:=jp (xT ns k (e6 ns k (m+1)).toNat) []
  unfold xT at this ⊢
  simp at this
  omega
theorem Ei (f:Nat->Str) (l:List Nat):∀ acc:List (Str×D),((l.foldl (fun (a:List (Str×D)) i=>qz a (f i) (.bool true)) acc).map (·.1))=dE (acc.map (·.1)) (l.map f):=by
 induction l with
 |nil=>intro acc;rfl
 |cons i r ih =>
  intro acc
  rw [Jb,ih,al,wQ]
  rfl
theorem HK (ns:List Int) (k m:Int) (hk:0<=k) (hm:0<=m) (hm2:m<=20):kA [.list (ns.map .int),.int k,.int m]=.ok (.tuple ((xU ns k m).map .str)):=by
 have h0:=dI ns k (m+1) (by omega)
 have h1:=eQ ns k (m+1) (by omega)
 unfold kA
 refine c6 ?_
 unfold kz bt
 walk_at "zz"
 rw [zE (ds:=(bL (e6 ns k (m+1)).toNat).map fun (i:Nat)=>ev i)]
 ·refine CW (fun (i:Nat)=>ev i) (fun (a:List (Str×D)) i=>qz a (jb ns (k+1+8*(i:Int))) (.bool true)) (fun bB a ρ=>a.length+bB.length<=60/\∃ z,ρ=[.shr (.list (ns.map .int)),.shr (.int k),.shr (.int m),.own (.dict (jw a)),z]) [] ?_ ⟨by simp;omega,_,rfl⟩ ?_
  ·rintro i bB a ρ ⟨hl,z,rfl⟩
   simp only [aD] at hl
   refine ⟨_,[.shr (.list (ns.map .int)),.shr (.int k),.shr (.int m),.own (.dict (jw (qz a (jb ns (k+1+8*(i:Int))) (.bool true)))),.shr (.int i)],rfl,?_,?_,_,rfl⟩
   ·refine (Mj (l:=a) (x:=jb ns (k+1+8*(i:Int))) (d:=.bool true) rfl rfl ?_ (by omega)).trans rfl
    walk_at "zz"
    rw [nX (by decide) (by decide)]
    walk_at "zz"
    rw [CZ ns _ (by omega)]
   ·have:=zI a (jb ns (k+1+8*(i:Int))) (.bool true)
    omega
  ·rintro ρ' ⟨hl,z,rfl⟩
   simp only [eJ] at hl
   walk_at "zz"
   rw [zJ]
   walk_at "zz"
   have ek:=Ei (fun i=>jb ns (k+1+8*(i:Int))) (bL (e6 ns k (m+1)).toNat) []
   rw [ek,sorted_strs]
   ·walk_at "zz"
    rw [dL]
    walk_at "zz"
    rfl
   ·rw [<- ek,au];omega
 ·walk_at "zz"
  rw [eN ns k (m+1) hk (by omega)]
  walk_at "zz"
  have:=xQ (e6 ns k (m+1)).toNat (by omega)
  rw [cn h0] at this
  exact this
structure yA where
 name:Str
 needs:List Str
 bars:List Str
 makes:List Str
 ends:List Str
 price:Int
abbrev bA (xs:List Str):D:=.tuple (xs.map .str)
def ka (e:yA):D:=.tuple [.str e.name,bA e.needs,bA e.bars,bA e.makes,bA e.ends,.int e.price]
structure HL (fs xs:List Str):Prop where
 up:xs.Pairwise fun a b=>li a b=true
 mem:∀ x∈xs,x∈fs
structure mH (fs:List Str) (e:yA):Prop where
 name:uS e.name=true
 needs:HL fs e.needs
 bars:HL fs e.bars
 makes:HL fs e.makes
 ends:HL fs e.ends
 nb:∀ x∈e.needs,x∉e.bars
 me:∀ x∈e.makes,x∉e.ends
 p0:0<=e.price
 p9:e.price<=9
def C_ (xs:List Str):List Str:=iM (dE [] xs)
theorem nZ {xs:List Str}{x:Str}:x∈C_ xs↔x∈xs:=by
 unfold C_
 rw [(gW _).mem_iff,lg]
 simp
theorem NK (xs:List Str):(C_ xs).Pairwise fun a b=>li a b=true:=wy (qg _) ((gW _).nodup_iff.mpr (kj _ [] kg))
theorem tM {fs xs:List Str} (h:∀ x∈xs,x∈fs):HL fs (C_ xs):=⟨NK xs,fun x hx=>h x (nZ.mp hx)⟩
theorem xV (fs:List Str) (j:Int) (h0:0<=j) (h1:j<fs.length):∃ x,x∈fs/\bG (bA fs) (.int j)=.ok (.str x):=by
 have hj:j.toNat<fs.length:=by omega
 refine ⟨fs[j.toNat],jg hj,?_⟩
 have e:∀ xs k,bG (.tuple xs) k=DY (.tuple xs) k:=fun _ _=>rfl
 rw [e]
 have hx:=pY (xs:=fs.map ay) (j:=j.toNat) (v:=.str fs[j.toNat]) (by rw [aE,bg hj];rfl)
 rw [cn h0] at hx
 unfold DY
 simp only [hx]
theorem uU (x:Str):∀ ys:List Str,((ys.map ay).any fun y=>bn y (.str x))=decide (x∈ys)
 |[]=>rfl
 |y::r=>by
  rw [al,eg,uU x r,nY]
  by_cases h:y=x
  ·subst h;simp
  ·simp [h,dU h]
theorem uV (ys:List Str):(ys.map ay).all jo=true:=by
 rw [List.all_map,cj];intro _ _;rfl
theorem KM (neg:Bool) (x:Str) (ys:List Str):EX neg (.str x) (.list (ys.map .str))=.ok (.bool (if neg then !decide (x∈ys) else decide (x∈ys))):=by
 have e:EX neg (.str x) (.list (ys.map .str))=if jo (.str x)&&(ys.map ay).all jo then .ok (.bool (if neg then !((ys.map ay).any fun y=>bn y (.str x)) else (ys.map ay).any fun y=>bn y (.str x))) else .no:=rfl
 rw [e,uV,uU]
 rfl
theorem xW (neg:Bool) (x:Str) (ys:List Str):EX neg (.str x) (bA ys)=.ok (.bool (if neg then !decide (x∈ys) else decide (x∈ys))):=by
 have e:EX neg (.str x) (bA ys)=if jo (.str x)&&(ys.map ay).all jo then .ok (.bool (if neg then !((ys.map ay).any fun y=>bn y (.str x)) else (ys.map ay).any fun y=>bn y (.str x))) else .no:=rfl
 rw [e,uV,uU]
 rfl
theorem jT (neg:Bool) (a b:Int):lT neg (.int a) (.int b)=.ok (.bool (if neg then !decide (a=b) else decide (a=b))):=by
 have e:lT neg (.int a) (.int b)=.ok (.bool (if neg then !(a==b) else (a==b))):=rfl
 rw [e,nM]
theorem tN {x:Str} (h:uS x=true):(ay x).canLay0=true:=by
 unfold uS at h
 simp only [aB,cj,decide_eq_true_eq] at h
 show bP x=true
 unfold bP
 rw [<- lM,cj]
 intro c hc
 have:=h.2 c hc
 exact decide_eq_true (by omega)
theorem KN (neg:Bool) {x y:Str} (hx:uS x=true) (hy:uS y=true):lT neg (.str x) (.str y)=.ok (.bool (if neg then !decide (x=y) else decide (x=y))):=by
 unfold lT
 rw [tN hx,tN hy,nY]
 rfl
theorem By (ss:List Str) (h:ss.length<60):uH (.list (ss.map .str))=.ok (dE [] ss):=by
 have e:∀ ds,uH (.list ds)=match dZ ds with
  |some ss=>if ss.length<60 then .ok (dE [] ss) else .no
  |none=>.no:=fun _=>rfl
 rw [e,strsOf_map]
 simp only [if_pos h]
theorem KO (g:ak->R D) (s:Sl) (ρ:ak):rL g (s::ρ)=(g (s::ρ)).bind uH:=id rfl
def Mk:List Str->R D:=fun ss=>if ss.length<64 then .ok (.list ((iM ss).map .str)) else .no
theorem Ej (g:ak->R (List Str)) (s:Sl) (ρ:ak):lw g (s::ρ)=(g (s::ρ)).bind Mk:=id rfl
theorem HM (ss:List Str) (h:ss.length<64):Mk ss=.ok (.list ((iM ss).map .str)):=if_pos h
theorem Ek (ss:List Str) (h:ss.length<60) (ρ:ak):(cG (J.af (lw (rL (rB 0))) J.aQ) (jm fF)) (.shr (.list (ss.map .str))::ρ)=.ok (bA (C_ ss)):=by
 walk_at "zz"
 rw [Ej,KO]
 walk_at "zz"
 rw [By ss h]
 walk_at "zz"
 rw [HM _ (by have:=jp ss [];simp at this;omega)]
 walk_at "zz"
 rw [dL]
 rfl
theorem zK {ρ:ak}{gt:ak->R Bool}{x:Str}{b:Bool}{s:Sl}{r:ak} (hρ:ρ=s::r) (h:gt (.shr (.str x)::r)=.ok b):fZ (gQ 1 ρ gt (rS 0)) [.str x]=.ok ((if b then [x] else []).map .str):=by
 subst hρ
 have e:=Kp (ρ:=s::r) (gt:=gt) (ge:=(rS 0)) (d:=.str x) (y:=.str x) (b:=b) h fun _=>rfl
 unfold fZ
 rw [e,gS]
 unfold fZ
 rw [gS]
 cases b<;>rfl
theorem NL (p q r t:List Str) (hp:p.length<60) (hq:q.length<60) (hr:r.length<60) (ht:t.length<60):fZ (gQ 1 [Sl.no] kT (cG (J.af (lw (rL (rB 0))) J.aQ) (jm fF))) [.list (p.map .str),.list (q.map .str),.list (r.map .str),.list (t.map .str)]=.ok [bA (C_ p),bA (C_ q),bA (C_ r),bA (C_ t)] :=
 c7 _ (fun ss:List Str=>i7 (ss.map .str)) (fun ss=>bA (C_ ss)) [p,q,r,t] fun ss hs=>cV rfl (Ek ss (by simp at hs;rcases hs with h|h|h|h<;>(rw [h];assumption)) _)
theorem Ml (a b c d:D):bG (.list [a,b,c,d]) (.int 0)=.ok a:=id rfl
theorem Mm (a b c d:D):bG (.list [a,b,c,d]) (.int 1)=.ok b:=id rfl
theorem Mn (a b c d:D):bG (.list [a,b,c,d]) (.int 2)=.ok c:=id rfl
theorem Mo (a b c d:D):bG (.list [a,b,c,d]) (.int 3)=.ok d:=id rfl
theorem KP (ns:List Int) (k:Int) (hk:0<=k) (fs:List Str) (hf:∀ x∈fs,uS x=true) (h0:0<fs.length) (nm:Str) (hn:uS nm=true) :
  ∃ e,m5 [.list (ns.map .int),.int k,bA fs,.str nm]=.ok (ka e)/\mH fs e/\e.name=nm:=by
 have hl:(0:Int)<(fs.length:Int):=by omega
 obtain ⟨a,ha,ea⟩:=xV fs (e6 ns (k+10) fs.length) (dI _ _ _ hl) (eQ _ _ _ hl)
 obtain ⟨b,hb,eb⟩:=xV fs (e6 ns (k+11) fs.length) (dI _ _ _ hl) (eQ _ _ _ hl)
 obtain ⟨c,hc,ec⟩:=xV fs (e6 ns (k+12) fs.length) (dI _ _ _ hl) (eQ _ _ _ hl)
 have m13a:=dI ns (k+13) 3 (by decide)
 have m13b:=eQ ns (k+13) 3 (by decide)
 obtain ⟨nd,hnd,hnl,end_⟩:∃ nd:List Str,(∀ x∈nd,x∈fs)/\nd.length<60/\Bh (.list [.str a,.str b]) none (some (1+e6 ns (k+13) 3 / 2))=.ok (.list (nd.map .str)):=by
  by_cases h2:e6 ns (k+13) 3=2
  ·exact ⟨[a,b],by simp [ha,hb],by simp,by rw [h2];rfl⟩
  ·have:e6 ns (k+13) 3 / 2=0:=by omega
   exact ⟨[a],by simp [ha],by simp,by rw [this];rfl⟩
 let bb:Bool:=!decide (c∈nd)&&decide (e6 ns (k+14) 4=0)
 let be:Bool:=!decide (a=c)&&decide (e6 ns (k+15) 3=0)
 have p0:=dI ns k 5 (by decide)
 have p1:=eQ ns k 5 (by decide)
 refine ⟨⟨nm,C_ nd,C_ (if bb then [c] else []),C_ [c],C_ (if be then [a] else []),e6 ns k 5⟩,?_,⟨hn,tM hnd,tM ?_,tM (by simp [hc]),tM ?_,fun x h1 h2=>?_,fun x h1 h2=>?_,p0,by show e6 ns k 5<=9;omega⟩,rfl⟩
 ·unfold m5
  refine c6 ?_
  unfold l_ bt
  walk_at "zz"
  rw [eN ns _ _ (by omega) hl]
  walk_at "zz"
  rw [ea]
  walk_at "zz"
  rw [eN ns (k+11) _ (by omega) hl]
  walk_at "zz"
  rw [eb]
  walk_at "zz"
  rw [eN ns (k+12) _ (by omega) hl]
  walk_at "zz"
  rw [ec]
  walk_at "zz"
  rw [eN ns (k+13) 3 (by omega) (by decide)]
  walk_at "zz"
  simp only [AJ,decide_true,hJ,if_true]
  walk_at "zz"
  rw [end_]
  walk_at "zz"
  rw [zK (b:=bb) rfl]
  ·walk_at "zz"
   rw [zK (b:=be) rfl]
   ·walk_at "zz"
    simp only [Qr]
    rw [Hv rfl,Hv rfl]
    walk_at "zz"
    have pk:=NL nd (if bb then [c] else []) [c] (if be then [a] else []) hnl (by cases bb<;>simp) (by simp) (by cases be<;>simp)
    rw [show ([c].map ay)=[ay c] from rfl] at pk
    rw [pk]
    walk_at "zz"
    rw [Ml]
    walk_at "zz"
    rw [Mm]
    walk_at "zz"
    rw [Mn]
    walk_at "zz"
    rw [Mo]
    walk_at "zz"
    rw [eN ns k 5 hk (by decide)]
    walk_at "zz"
    rfl
   ·walk_at "zz"
    rw [KN true (hf a ha) (hf c hc)]
    walk_at "zz"
    by_cases hac:a=c
    ·simp only [be,hac,decide_true,jl,vX,if_true,cond_false]
    ·simp only [be,hac,decide_false,iI,yx,if_true,cond_true]
     rw [eN ns (k+15) 3 (by omega) (by decide)]
     walk_at "zz"
     rw [jT]
     walk_at "zz"
  ·walk_at "zz"
   rw [KM]
   walk_at "zz"
   by_cases hcn:c∈nd
   ·simp only [bb,hcn,decide_true,jl,vX,if_true,cond_false]
   ·simp only [bb,hcn,decide_false,iI,yx,if_true,cond_true]
    rw [eN ns (k+14) 4 (by omega) (by decide)]
    walk_at "zz"
    rw [jT]
    walk_at "zz"
 ·intro x hx
  cases hbb:bb
  ·simp [hbb] at hx
  ·simp [hbb] at hx;rw [hx];exact hc
 ·intro x hx
  cases hbe:be
  ·simp [hbe] at hx
  ·simp [hbe] at hx;rw [hx];exact ha
 ·have h2:x∈(if bb then [c] else []):=nZ.mp h2
  cases hbb:bb
  ·simp [hbb] at h2
  ·simp [hbb] at h2
   subst h2
   have:(!decide (x∈nd))=true:=by
    have:(!decide (x∈nd)&&decide (e6 ns (k+14) 4=0))=true:=hbb
    simp only [aB] at this
    exact this.1
   simp at this
   exact this (nZ.mp h1)
 ·cases hbe:be
  ·have h2:x∈(if be then [a] else []):=nZ.mp h2
   simp [hbe] at h2
  ·skip
   have h4:x∈[c]:=nZ.mp h1
   have h5:x∈(if be then [a] else []):=nZ.mp h2
   simp only [dB] at h4
   simp only [hbe,if_true,dB] at h5
   have:(!decide (a=c)&&decide (e6 ns (k+15) 3=0))=true:=hbe
   simp only [aB] at this
   have h3:=this.1
   simp at h3
   exact h3 (h5.symm.trans h4)
theorem xX {i:Nat}{gi g:ak->R D}{ρ:ak}{dss:List (List D)}{ds:List D}{d:D}{j:Int} (hi:ρ[i]?=some (Sl.ow2 dss)) (hj:gi ρ=.ok (.int j)) (h0:0<=j) (hd:dss[j.toNat]?=some ds) (hg:g ρ=.ok d) (hl:ds.length<1000):lz i gi g ρ=.ok (.nx (ρ.set i (.ow2 (dss.set j.toNat (ds++[d]))))):=by
 unfold lz
 simp only [hi,hj,bind_ok,if_pos h0,hd,hg,if_pos hl]
def uW (n:Nat):List Str->List (Nat×Str)
 |[]=>[]
 |x::r=>(n,x)::uW (n+1) r
abbrev cI (p:Nat×Str):D:=.tuple [.int (p.1:Nat),.str p.2]
theorem D0:∀ (xs:List Str) (n:Nat),mF n (xs.map .str)=(uW n xs).map cI
 |[],_=>rfl
 |x::r,n=>by
  show cW [.int n,.str x]::mF (n+1) (r.map .str)=cI (n,x)::(uW (n+1) r).map cI
  rw [D0 r (n+1)]
theorem wR:∀ (xs:List Str) (n:Nat),(uW n xs).map (·.2)=xs
 |[],_=>rfl
 |x::r,n=>by
  show x::(uW (n+1) r).map (·.2)=x::r
  rw [wR r]
theorem zL:∀ (fs:List Str),(∀ x∈fs,uS x=true)->bZ (fs.map .str)=true
 |[],_=>rfl
 |x::r,h=>by
  have h1:=tN (h x av)
  have h2:=zL r fun y hy=>h y (am _ hy)
  simp only [al,bZ,h1,h2,hJ]
theorem D1 (fs:List Str) (hf:∀ x∈fs,uS x=true):lT true (bA fs) (.tuple [])=.ok (.bool (!decide (fs=[]))):=by
 unfold lT
 have h1:(bA fs).canLay0=true:=by simp only [eV];exact zL fs hf
 have h2:(cW []).canLay0=true:=rfl
 have h3:min (bA fs).depth (cW []).depth<=60:=a_ (mJ _ _) (by decide)
 have h4:bn (bA fs) (.tuple [])=decide (fs=[]):=by
  cases fs with
  |nil=>rfl
  |cons x r=>simp [bn,Ja]
 rw [h1,h2,decide_eq_true h3,h4]
 rfl
structure m6 (pre p q:List Str):Prop where
 sp:p.Sublist pre
 sq:q.Sublist pre
 d:∀ x∈p,x∉q
theorem m6.skip {pre p q:List Str} (h:m6 pre p q) (x:Str):m6 (pre++[x]) p q:=⟨h.sp.trans (hV _ _),h.sq.trans (hV _ _),h.d⟩
theorem m6.left {pre p q:List Str} (h:m6 pre p q) (x:Str) (hx:x∉pre):m6 (pre++[x]) (p++[x]) q:=⟨h.sp.append (fc _),h.sq.trans (hV _ _),fun y hy hq=>by
 rcases List.mem_append.mp hy with h1|h1
 ·exact h.d y h1 hq
 ·rw [List.mem_singleton.mp h1] at hq
  exact hx (h.sq.subset hq)⟩
theorem m6.right {pre p q:List Str} (h:m6 pre p q) (x:Str) (hx:x∉pre):m6 (pre++[x]) p (q++[x]):=⟨h.sp.trans (hV _ _),h.sq.append (fc _),fun y hy hq=>by
 rcases List.mem_append.mp hq with h1|h1
 ·exact h.d y hy h1
 ·rw [List.mem_singleton.mp h1] at hy
  exact hx (h.sp.subset hy)⟩
abbrev o4 (p q r t:List Str):Sl:=.ow2 [p.map .str,q.map .str,r.map .str,t.map .str]
theorem PQ (j:Int) (h0:0<=j) (h1:j<3):∃ b:Bool,bG (.list [.int 0,.int 0,.int 1]) (.int j)=.ok (.int (if b then 0 else 1)):=by
 have:j=0\/j=1\/j=2:=by omega
 rcases this with h|h|h<;>subst h
 ·exact ⟨true,rfl⟩
 ·exact ⟨true,rfl⟩
 ·exact ⟨false,rfl⟩
theorem PR (j:Int) (h0:0<=j) (h1:j<4):∃ b:Bool,bG (.list [.int 2,.int 2,.int 3,.int 3]) (.int j)=.ok (.int (if b then 2 else 3)):=by
 have:j=0\/j=1\/j=2\/j=3:=by omega
 rcases this with h|h|h|h<;>subst h
 ·exact ⟨true,rfl⟩
 ·exact ⟨true,rfl⟩
 ·exact ⟨false,rfl⟩
 ·exact ⟨false,rfl⟩
theorem qA (p:List Str) (x:Str):(p++[x]).map ay=p.map .str++[.str x]:=by simp
theorem HN {a b c d e f:Sl}{pre p q r t:List Str}{x:Str}{j:Int} (hp:m6 pre p q) (hx:x∉pre) (hl:pre.length<900) (h0:0<=j) :
  ∃ p' q',m6 (pre++[x]) p' q'/\fM (iD (g2 (rB 7) (kI 3) EW)) (lz 4 (g2 (ej (J.af (kI 0) (J.af (kI 0) (J.af (kI 1) J.aQ))) .list) (rB 7) bG) (rS 6)) (fun ρ=>.ok (.nx ρ)) [a,b,c,d,o4 p q r t,e,.shr (.str x),.shr (.int j),f]=.ok (.nx [a,b,c,d,o4 p' q' r t,e,.shr (.str x),.shr (.int j),f]):=by
 by_cases h3:j<3
 ·obtain ⟨bo,e3⟩:=PQ j h0 h3
  have lp:p.length<1000:=by have:=hp.sp.length_le;omega
  have lq:q.length<1000:=by have:=hp.sq.length_le;omega
  cases bo
  ·refine ⟨p,q++[x],hp.right x hx,?_⟩
   walk_at "zz"
   rw [decide_eq_true h3]
   walk_at "zz"
   simp only [o4,qA]
   refine (xX (j:=1) (ds:=q.map .str) (d:=.str x) rfl ?_ (by decide) rfl rfl (by rw [au];exact lq)).trans rfl
   walk_at "zz"
   rw [e3]
   rfl
  ·refine ⟨p++[x],q,hp.left x hx,?_⟩
   walk_at "zz"
   rw [decide_eq_true h3]
   walk_at "zz"
   simp only [o4,qA]
   refine (xX (j:=0) (ds:=p.map .str) (d:=.str x) rfl ?_ (by decide) rfl rfl (by rw [au];exact lp)).trans rfl
   walk_at "zz"
   rw [e3]
   rfl
 ·refine ⟨p,q,hp.skip x,?_⟩
  walk_at "zz"
  rw [decide_eq_false h3]
  walk_at "zz"
theorem HP {a b c d e f:Sl}{pre p q r t:List Str}{x:Str}{j:Int} (hp:m6 pre r t) (hx:x∉pre) (hl:pre.length<900) (h0:0<=j) :
  ∃ r' t',m6 (pre++[x]) r' t'/\fM (iD (g2 (rB 7) (kI 4) EW)) (lz 4 (g2 (ej (J.af (kI 2) (J.af (kI 2) (J.af (kI 3) (J.af (kI 3) J.aQ)))) .list) (rB 7) bG) (rS 6)) (fun ρ=>.ok (.nx ρ)) [a,b,c,d,o4 p q r t,e,.shr (.str x),.shr (.int j),f]=.ok (.nx [a,b,c,d,o4 p q r' t',e,.shr (.str x),.shr (.int j),f]):=by
 by_cases h3:j<4
 ·obtain ⟨bo,e3⟩:=PR j h0 h3
  have lp:r.length<1000:=by have:=hp.sp.length_le;omega
  have lq:t.length<1000:=by have:=hp.sq.length_le;omega
  cases bo
  ·refine ⟨r,t++[x],hp.right x hx,?_⟩
   walk_at "zz"
   rw [decide_eq_true h3]
   walk_at "zz"
   simp only [o4,qA]
   refine (xX (j:=3) (ds:=t.map .str) (d:=.str x) rfl ?_ (by decide) rfl rfl (by rw [au];exact lq)).trans rfl
   walk_at "zz"
   rw [e3]
   rfl
  ·refine ⟨r++[x],t,hp.left x hx,?_⟩
   walk_at "zz"
   rw [decide_eq_true h3]
   walk_at "zz"
   simp only [o4,qA]
   refine (xX (j:=2) (ds:=r.map .str) (d:=.str x) rfl ?_ (by decide) rfl rfl (by rw [au];exact lp)).trans rfl
   walk_at "zz"
   rw [e3]
   rfl
 ·refine ⟨r,t,hp.skip x,?_⟩
  walk_at "zz"
  rw [decide_eq_false h3]
  walk_at "zz"
theorem PU (i:Nat) (ρ:ak):Kf i ρ=.ok (.nx ((clear2 ρ).set i (.ow2 [[],[],[],[]]))):=id rfl
theorem m6.sub {fs p q:List Str} (up:fs.Pairwise fun a b=>li a b=true) (h:m6 fs p q):HL fs p/\HL fs q:=⟨⟨up.sublist h.sp,fun x hx=>h.sp.subset hx⟩,⟨up.sublist h.sq,fun x hx=>h.sq.subset hx⟩⟩
theorem HQ (p:List Str) (ρ:ak):(cG (J.af (rB 0) J.aQ) (jm fF)) (.shr (.list (p.map .str))::ρ)=.ok (bA p):=by
 walk_at "zz"
 rw [dL]
theorem PV (p q r t:List Str):fZ (gQ 1 [Sl.no] kT (cG (J.af (rB 0) J.aQ) (jm fF))) [.list (p.map .str),.list (q.map .str),.list (r.map .str),.list (t.map .str)]=.ok [bA p,bA q,bA r,bA t] :=
 c7 _ (fun ss:List Str=>i7 (ss.map .str)) (fun ss=>bA ss) [p,q,r,t] fun ss hs=>cV rfl (HQ ss _)
theorem El (ns:List Int) (k:Int) (hk:0<=k) (fs:List Str) (hf:∀ x∈fs,uS x=true) (up:fs.Pairwise fun a b=>li a b=true) (nd:fs.Nodup) (hl:fs.length<=6) (nm:Str) (hn:uS nm=true) :
  ∃ e,gD [.list (ns.map .int),.int k,bA fs,.str nm]=.ok (ka e)/\mH fs e/\e.name=nm:=by
 have p0:=dI ns k 5 (by decide)
 have p1:=eQ ns k 5 (by decide)
 have go:∀ ρ:ak,ρ=[.shr (.list (ns.map .int)),.shr (.int k),.shr (bA fs),.shr (.str nm),.no,.no,.no,.no,.no]->(!decide (fs=[])&&decide (e6 ns 97 2=0))=false->∃ e,gC ρ=.ok (.rt (ka e))/\mH fs e/\e.name=nm:=by
  rintro ρ rfl hc
  obtain ⟨ρ',h1,p,q,r,t,h2,h3,h4⟩:∃ ρ',(rJ (Gy (J.af (rS 2) J.aQ)) (oA 2 (c_ (cD 5) (c_ (cD 6) qo))) (bj (i8 7 (gK 3 ba (J.af (rS 0) (J.af (g2 (g2 (rB 1) (kI 10) cR) (rB 5) cR) (J.af (kI 8) J.aQ))))) (bj (fM (iD (g2 (rB 7) (kI 3) EW)) (lz 4 (g2 (ej (J.af (kI 0) (J.af (kI 0) (J.af (kI 1) J.aQ))) .list) (rB 7) bG) (rS 6)) (fun ρ=>.ok (.nx ρ))) (bj (i8 7 (gK 3 ba (J.af (rS 0) (J.af (g2 (g2 (rB 1) (kI 20) cR) (rB 5) cR) (J.af (kI 8) J.aQ))))) (fM (iD (g2 (rB 7) (kI 4) EW)) (lz 4 (g2 (ej (J.af (kI 2) (J.af (kI 2) (J.af (kI 3) (J.af (kI 3) J.aQ)))) .list) (rB 7) bG) (rS 6)) (fun ρ=>.ok (.nx ρ))))))) [.shr (.list (ns.map .int)),.shr (.int k),.shr (bA fs),.shr (.str nm),o4 [] [] [] [],.no,.no,.no,.no]=.ok (.nx ρ')/\∃ p q r t,m6 fs p q/\m6 fs r t/\∃ z5 z6 z7,ρ'=[.shr (.list (ns.map .int)),.shr (.int k),.shr (bA fs),.shr (.str nm),o4 p q r t,z5,z6,z7,.no]:=by
   rw [zE (ds:=(uW 0 fs).map cI)]
   ·have H:=qy cI (fun (a:Unit) (_:Nat×Str)=>a) (fun bB _ ρ=>∃ pre,pre++bB.map (·.2)=fs/\∃ p q r t,m6 pre p q/\m6 pre r t/\∃ z5 z6 z7,ρ=[.shr (.list (ns.map .int)),.shr (.int k),.shr (bA fs),.shr (.str nm),o4 p q r t,z5,z6,z7,.no]) (kt:=oA 2 (c_ (cD 5) (c_ (cD 6) qo))) (gb:=(bj (i8 7 (gK 3 ba (J.af (rS 0) (J.af (g2 (g2 (rB 1) (kI 10) cR) (rB 5) cR) (J.af (kI 8) J.aQ))))) (bj (fM (iD (g2 (rB 7) (kI 3) EW)) (lz 4 (g2 (ej (J.af (kI 0) (J.af (kI 0) (J.af (kI 1) J.aQ))) .list) (rB 7) bG) (rS 6)) (fun ρ=>.ok (.nx ρ))) (bj (i8 7 (gK 3 ba (J.af (rS 0) (J.af (g2 (g2 (rB 1) (kI 20) cR) (rB 5) cR) (J.af (kI 8) J.aQ))))) (fM (iD (g2 (rB 7) (kI 4) EW)) (lz 4 (g2 (ej (J.af (kI 2) (J.af (kI 2) (J.af (kI 3) (J.af (kI 3) J.aQ)))) .list) (rB 7) bG) (rS 6)) (fun ρ=>.ok (.nx ρ)))))))
    obtain ⟨ρ',h1,pre,h2,p,q,r,t,h3,h4,h5⟩:=H (by
     rintro ⟨i,x⟩ bB _ ρ ⟨pre,h2,p,q,r,t,h3,h4,z5,z6,z7,rfl⟩
     have hx:x∉pre:=by
      rw [<- h2,al] at nd
      have:=(List.nodup_append.mp nd).2.2
      intro hx
      exact this x hx x av rfl
     have hpl:pre.length<900:=by
      have:=congrArg BY h2
      rw [aY] at this
      omega
     obtain ⟨p',q',k1,k2⟩:=HN (a:=.shr (.list (ns.map .int))) (b:=.shr (.int k)) (c:=.shr (bA fs)) (d:=.shr (.str nm)) (e:=.shr (.int (i:Nat))) (f:=.no) (r:=r) (t:=t) (j:=e6 ns (k+10+i) 8) h3 hx hpl (dI _ _ _ (by decide))
     obtain ⟨r',t',k3,k4⟩:=HP (a:=.shr (.list (ns.map .int))) (b:=.shr (.int k)) (c:=.shr (bA fs)) (d:=.shr (.str nm)) (e:=.shr (.int (i:Nat))) (f:=.no) (p:=p') (q:=q') (j:=e6 ns (k+20+i) 8) h4 hx hpl (dI _ _ _ (by decide))
     refine ⟨[.shr (.list (ns.map .int)),.shr (.int k),.shr (bA fs),.shr (.str nm),o4 p q r t,.shr (.int (i:Nat)),.shr (.str x),z7,.no],[.shr (.list (ns.map .int)),.shr (.int k),.shr (bA fs),.shr (.str nm),o4 p' q' r' t',.shr (.int (i:Nat)),.shr (.str x),.shr (.int (e6 ns (k+20+i) 8)),.no],rfl,?_,pre++[x],?_,p',q',r',t',k1,k3,_,_,_,rfl⟩
     ·rw [wH,GM]
      walk_at "yy"
      rw [eN ns _ 8 (by omega) (by decide)]
      walk_at "yy"
      rw [k2]
      walk_at "yy"
      rw [eN ns _ 8 (by omega) (by decide)]
      walk_at "yy"
      rw [k4]
     ·rw [<- h2];simp) (uW 0 fs) () [.shr (.list (ns.map .int)),.shr (.int k),.shr (bA fs),.shr (.str nm),o4 [] [] [] [],.no,.no,.no,.no] ⟨[],by rw [wR];rfl,[],[],[],[],⟨fc _,fc _,fun _ h=>nomatch h⟩,⟨fc _,fc _,fun _ h=>nomatch h⟩,_,_,_,rfl⟩
    refine ⟨ρ',h1,p,q,r,t,?_,?_,h5⟩
    ·simp only [dG,bW] at h2
     rw [<- h2];exact h3
    ·simp only [dG,bW] at h2
     rw [<- h2];exact h4
   ·walk_at "zz"
    rw [D0]
  obtain ⟨s1,s2⟩:=h2.sub up
  obtain ⟨s3,s4⟩:=h3.sub up
  obtain ⟨z5,z6,z7,rfl⟩:=h4
  refine ⟨⟨nm,p,q,r,t,e6 ns k 5⟩,?_,⟨hn,s1,s2,s3,s4,h2.d,h3.d,p0,by show e6 ns k 5<=9;omega⟩,rfl⟩
  unfold gC
  have hand:sY (iD (g2 (rB 2) (ej J.aQ .tuple) (lT true))) (iD (g2 (gK 3 ba (J.af (rS 0) (J.af (kI 97) (J.af (kI 2) J.aQ)))) (kI 0) (lT false))) [.shr (.list (ns.map .int)),.shr (.int k),.shr (bA fs),.shr (.str nm),.no,.no,.no,.no,.no]=.ok false:=by
   walk_at "zz"
   rw [D1 fs hf]
   walk_at "zz"
   by_cases h:fs=[]
   ·simp only [h,decide_true,jl,cond_false]
   ·simp only [h,decide_false,iI,cond_true,yx] at hc ⊢
    rw [eN ns 97 2 (by decide) (by decide)]
    walk_at "zz"
    rw [jT]
    walk_at "zz"
    rw [hc]
  rw [wH,ND,hand]
  simp only [gS,Bv,PU,clear2,al,dG,qS,qR,gS,nr,wH]
  rw [show Sl.ow2 [[],[],[],[]]=o4 [] [] [] [] from rfl,h1]
  walk_at "zz"
  rw [PV]
  walk_at "zz"
  rw [Ml]
  walk_at "zz"
  rw [Mm]
  walk_at "zz"
  rw [Mn]
  walk_at "zz"
  rw [Mo]
  walk_at "zz"
  rw [eN ns k 5 hk (by decide)]
  walk_at "zz"
  rfl
 by_cases hc:(!decide (fs=[])&&decide (e6 ns 97 2=0))=true
 ·have h0:0<fs.length:=by
   rcases fs with _|⟨x,r⟩
   ·simp at hc
   ·simp
  obtain ⟨e,h1,h2⟩:=KP ns k hk fs hf h0 nm hn
  refine ⟨e,?_,h2⟩
  unfold gD
  refine c6 ?_
  unfold gC bt
  walk_at "zz"
  rw [D1 fs hf]
  walk_at "zz"
  simp only [aB] at hc
  rw [hc.1]
  walk_at "zz"
  rw [eN ns 97 2 (by decide) (by decide)]
  walk_at "zz"
  rw [jT]
  walk_at "zz"
  rw [hc.2]
  walk_at "zz"
  rw [h1]
  walk_at "zz"
 ·obtain ⟨e,h1,h2⟩:=go _ rfl (Bool.eq_false_iff.mpr hc)
  exact ⟨e,by unfold gD;exact c6 h1,h2⟩
theorem Bz (ds:List D) (t:Nat) (h:t<=ds.length):uy ds (some (t:Int)) none=ds.drop t:=by
 unfold uy
 rw [HT.C6,HT.yJ,Nat.min_eq_left h,List.take_of_length_le (by rw [mC];exact ao _)]
theorem NM (ds:List D) (t:Nat) (h:t<=ds.length):uy ds none (some (t:Int))=ds.take t:=by
 unfold uy
 rw [HT.C6,HT.yJ,Nat.min_eq_left h,wc,Nat.sub_zero]
theorem PX (ds:List D) (t:Nat) (h:t<=ds.length):Bh (.list ds) (some (t:Int)) none=.ok (.list (ds.drop t)):=by
 rw [<- Bz ds t h];rfl
theorem PY (ds:List D) (t:Nat) (h:t<=ds.length):Bh (.list ds) none (some (t:Int))=.ok (.list (ds.take t)):=by
 rw [<- NM ds t h];rfl
theorem NN {l:List (Str×D)} (nd:(l.map (·.1)).Nodup) {p:Str×D} (hp:p∈l):bG (.dict (jw l)) (.str p.1)=.ok p.2:=by
 have e:∀ kvs x,bG (.dict kvs) (.str x)=if fm kvs=true then (match qu kvs (.str x) with
   |some d=>.ok d
   |none=>.no) else .no:=fun _ _=>rfl
 rw [e,if_pos (uT l)]
 have:qu (jw l) (.str p.1)=some p.2:=by
  unfold qu jw
  clear e
  induction l with
  |nil=>cases hp
  |cons q r ih =>
   rw [al] at nd
   obtain ⟨n1,n2⟩:=List.nodup_cons.mp nd
   rw [al,db,nY]
   rcases List.mem_cons.mp hp with h|h
   ·subst h;simp
   ·have:q.1≠p.1:=fun z=>n1 (z ▸ List.mem_map_of_mem h)
    rw [decide_eq_false this]
    exact ih n2 h
 rw [this]
structure wS (fs:List Str) (es:List yA):Prop where
 rise:KL fs 6
 len:es.length<=6
 nd:(es.map (·.name)).Nodup
 ok:∀ e∈es,mH fs e
def vO (fs:List Str) (es:List yA):D:=.tuple [bA fs,.tuple (es.map ka)]
theorem PZ (fs:List Str):∀ (l:List (Str×D)),(∀ p∈l,∃ e,p.2=ka e/\mH fs e/\e.name=p.1)->∃ es:List yA,l.map (·.2)=es.map ka/\es.map (·.name)=l.map (·.1)/\∀ e∈es,mH fs e
 |[],_=>⟨[],rfl,rfl,fun _ h=>nomatch h⟩
 |p::r,h=>by
  obtain ⟨e,h1,h2,h3⟩:=h p av
  obtain ⟨es,k1,k2,k3⟩:=PZ fs r fun q hq=>h q (am _ hq)
  refine ⟨e::es,by rw [al,al,h1,k1],by rw [al,al,h3,k2],fun x hx=>?_⟩
  rcases List.mem_cons.mp hx with z|z
  ·rw [z];exact h2
  ·exact k3 x z
theorem Em {α:Type} (l:List α) (t:Nat):(l.drop t++l.take t).Perm l:=by
 refine List.perm_append_comm.trans ?_
 rw [List.take_append_drop]
theorem kC {l:List Str} (h:l.Pairwise fun a b=>li a b=true):l.Nodup:=h.imp fun hab z=>by
 rw [z,ui] at hab
 cases hab
theorem KQ (ns:List Int) (k:Int) (hk:0<=k) (m n:Int) (hm0:0<=m) (hm:m<=6) (hn0:0<=n) (hn:n<=6):∃ fs es,jR [.list (ns.map .int),.int k,.int m,.int n]=.ok (vO fs es)/\wS fs es/\fs.length<=m.toNat/\es.length<=n.toNat:=by
 have hr:=Bx ns k m hm0
 generalize hfs:xU ns k m=fs at hr
 have hrl:=hr.len
 have hr:KL fs 6:=⟨hr.ok,hr.up,by have:=hr.len;omega⟩
 have nd:=kC hr.up
 have m0:=dI ns (k+60) (n+1) (by omega)
 have m1:=eQ ns (k+60) (n+1) (by omega)
 suffices H:∃ es,jR [.list (ns.map .int),.int k,.int m,.int n]=.ok (vO fs es)/\wS fs es/\es.length<=n.toNat from H.elim fun es h=>⟨fs,es,h.1,h.2.1,hrl,h.2.2⟩
 unfold jR
 suffices H:∃ es,jQ (bt 10 [.list (ns.map .int),.int k,.int m,.int n])=.ok (.rt (vO fs es))/\wS fs es/\es.length<=n.toNat from H.elim fun es h=>⟨es,c6 h.1,h.2⟩
 have H:=qy (fun (i:Nat)=>ev i) (fun (a:Unit) (_:Nat)=>a) (fun bB _ ρ=>∃ l,l.length+bB.length<=n.toNat/\(l.map (·.1)).Nodup/\(∀ p∈l,∃ e,p.2=ka e/\mH fs e/\e.name=p.1)/\∃ z6 z7,ρ=[.shr (.list (ns.map .int)),.shr (.int k),.shr (.int m),.shr (.int n),.shr (bA fs),.own (.dict (jw l)),z6,z7,.no,.no]) (kt:=cD 6) (gb:=bj (i8 7 (gK 2 iY (J.af (rS 0) (J.af (g2 (g2 (rB 1) (kI 70) cR) (g2 (kI 40) (rB 6) sZ) cR) J.aQ)))) (xO 5 (rS 7) (gK 4 gD (J.af (rS 0) (J.af (g2 (g2 (rB 1) (kI 80) cR) (g2 (kI 40) (rB 6) sZ) cR) (J.af (rS 4) (J.af (rS 7) J.aQ)))))))
 obtain ⟨ρ',h1,l,h2,h3,h4,z6,z7,h5⟩:=H (by
  rintro i bB _ ρ ⟨l,h2,h3,h4,z6,z7,rfl⟩
  simp only [aD] at h2
  have hw:=zH ns (k+70+40*(i:Int))
  obtain ⟨e,e1,e2,e3⟩:=El ns (k+80+40*(i:Int)) (by omega) fs hr.ok hr.up nd hr.len (jb ns (k+70+40*(i:Int))) hw
  have pl:=zI l (jb ns (k+70+40*(i:Int))) (ka e)
  refine ⟨[.shr (.list (ns.map .int)),.shr (.int k),.shr (.int m),.shr (.int n),.shr (bA fs),.own (.dict (jw l)),.shr (.int i),z7,.no,.no],[.shr (.list (ns.map .int)),.shr (.int k),.shr (.int m),.shr (.int n),.shr (bA fs),.own (.dict (jw (qz l (jb ns (k+70+40*(i:Int))) (ka e)))),.shr (.int i),.shr (.str (jb ns (k+70+40*(i:Int)))),.no,.no],rfl,?_,qz l (jb ns (k+70+40*(i:Int))) (ka e),by omega,?_,?_,_,_,rfl⟩
  ·walk_at "zz"
   rw [nX (by decide) (by decide)]
   walk_at "zz"
   rw [CZ ns _ (by omega)]
   walk_at "zz"
   refine (Mj (l:=l) (x:=jb ns (k+70+40*(i:Int))) (d:=ka e) rfl ?_ rfl (by omega)).trans rfl
   walk_at "zz"
   rw [nX (by decide) (by decide)]
   walk_at "zz"
   exact e1
  ·rw [wQ];exact Eh h3
  ·exact HI (Q:=fun x d=>∃ e,d=ka e/\mH fs e/\e.name=x) h4 ⟨e,rfl,e2,e3⟩) (bL (e6 ns (k+60) (n+1)).toNat) () [.shr (.list (ns.map .int)),.shr (.int k),.shr (.int m),.shr (.int n),.shr (bA fs),.own (.dict (jw [])),.no,.no,.no,.no] ⟨[],by rw [fW];simp only [eJ];omega,kg,fun _ h=>(nomatch h),_,_,rfl⟩
 simp only [eJ,Nat.add_zero] at h2
 have t0:=dI ns (k+61) ((l.length:Int)+1) (by omega)
 have t1:=eQ ns (k+61) ((l.length:Int)+1) (by omega)
 obtain ⟨t,ht⟩:∃ t:Nat,e6 ns (k+61) ((l.length:Int)+1)=t:=⟨_,(cn t0).symm⟩
 have tl:t<=l.length:=by omega
 have pm:=Em l t
 obtain ⟨es,k1,k2,k3⟩:=PZ fs (l.drop t++l.take t) fun p hp=>h4 p (pm.mem_iff.mp hp)
 have kl:es.length=l.length:=by
  have:=congrArg BY k1
  rw [au,au,pm.length_eq] at this
  exact this.symm
 refine ⟨es,?_,⟨hr,by omega,?_,k3⟩,by omega⟩
 ·unfold jQ bt
  walk_at "yy"
  rw [HK ns k m hk hm0 (by omega),hfs]
  walk_at "yy"
  rw [zE (ds:=(bL (e6 ns (k+60) (n+1)).toNat).map fun (i:Nat)=>ev i)]
  ·rw [show PyData.dict []=PyData.dict (jw []) from rfl,h1,h5]
   walk_at "yy"
   rw [zJ]
   walk_at "yy"
   rw [eN ns _ _ (by omega) (by omega),ht]
   walk_at "yy"
   clear H h1
   rw [PX _ t (by simpa using tl)]
   walk_at "yy"
   rw [PY _ t (by simpa using tl)]
   walk_at "yy"
   have e1:(List.drop t (oG ay (oG (fun x=>x.fst) l))++List.take t (oG ay (oG (fun x=>x.fst) l)))=(l.drop t++l.take t).map fun p=>ay p.1:=by
    rw [i4,pR,List.map_take,cZ];rfl
   rw [e1,if_pos (by rw [<- aY,e1,au,pm.length_eq];omega)]
   have pl:=pm.length_eq
   have px:∀ p∈l.drop t++l.take t,p∈l:=fun p hp=>pm.mem_iff.mp hp
   clear e1 pm k2
   generalize l.drop t++l.take t=L at pl px k1 ⊢
   walk_at "yy"
   rw [if_pos (by omega)]
   rw [c7 _ (fun p:Str×D=>ay p.1) (fun p=>p.2) L fun p hp=>cV rfl (by
    walk_at "yy"
    exact NN h3 (px p hp))]
   walk_at "yy"
   rw [dL]
   walk_at "yy"
   rw [k1]
   rfl
  ·walk_at "yy"
   rw [eN ns (k+60) (n+1) (by omega) (by omega)]
   walk_at "yy"
   have:=xQ (e6 ns (k+60) (n+1)).toNat (by omega)
   rw [cn m0] at this
   exact this
 ·rw [k2]
  exact ((pm.map _).nodup_iff).mpr h3
theorem wT {α:Type} (b:α->Bool):∀ xs:List α,kn (xs.map fun x=>bN (b x))=some (xs.map b)
 |[]=>rfl
 |x::r=>by
  show (kn (r.map fun x=>bN (b x))).map (b x::·)=_
  rw [wT b r]
  rfl
theorem fL {α:Type} (k:List Bool->Bool) (b:α->Bool) (xs:List α):gY k (.list (xs.map fun x=>bN (b x)))=.ok (.bool (k (xs.map b))):=by
 have e:∀ ds,gY k (.list ds)=match kn ds with
  |some bs=>.ok (.bool (k bs))
  |none=>.no:=fun _=>rfl
 rw [e,wT]
theorem zM {s s':Sl}{ρ:ak}{gt:ak->R Bool}{ge:ak->R D}{d d' y:D} (h1:gt (.shr d::.shr d'::ρ)=.ok true) (h2:ge (.shr d::.shr d'::ρ)=.ok y):gQ 2 (s::s'::ρ) gt ge (.tuple [d,d'])=.ok (some y):=by
 have e:gQ 2 (s::s'::ρ) gt ge (.tuple [d,d'])=GA ((gt (.shr d::.shr d'::ρ)).bind fun b=>if b then (ge (.shr d::.shr d'::ρ)).bind fun y=>.ok (some y) else .ok none):=id rfl
 rw [e,h1,bind_ok,if_pos rfl,h2];rfl
theorem nw (x:Str):n6 (.str x)=true:=id rfl
theorem xY (i:Int):n6 (.int i)=true:=id rfl
theorem xZ {α:Type} (c:α->D) (h:∀ x,n6 (c x)=true):∀ xs:List α,noDs (xs.map c)=true
 |[]=>rfl
 |x::r=>by
  show (n6 (c x)&&noDs (r.map c))=true
  rw [h x,xZ c h r];rfl
theorem uX (xs:List D):n6 (.tuple xs)=noDs xs:=id rfl
theorem j7 (xs:List Str):n6 (bA xs)=true:=by
 rw [uX]
 exact xZ _ (fun _=>rfl) xs
theorem D2 (e:yA):n6 (ka e)=true:=by
 have:n6 (ka e)=(true&&(n6 (bA e.needs)&&(n6 (bA e.bars)&&(n6 (bA e.makes)&&(n6 (bA e.ends)&&(true&&true)))))):=rfl
 rw [this,j7,j7,j7,j7];rfl
theorem Mp (es:List yA):n6 (.tuple (es.map ka))=true:=by
 rw [uX]
 exact xZ _ D2 es
theorem KR (fs:List Str) (es:List yA):n6 (vO fs es)=true:=by
 have:n6 (vO fs es)=(n6 (bA fs)&&(n6 (.tuple (es.map ka))&&true)):=rfl
 rw [this,j7,Mp];rfl
theorem o_ (x:Str):xI "str" (.str x)=true:=id rfl
theorem m7 (x:List D):xI "tuple" (.tuple x)=true:=id rfl
theorem HR (x:Int):xI "int" (.int x)=true:=id rfl
theorem HS (x:Int):xI "bool" (.int x)=false:=id rfl
theorem KS:∀ c:_root_.Fin 123,97<=c.val->(!li ⟨#[c.val]⟩ "a")=true/\(!li "z" ⟨#[c.val]⟩)=true:=by decide +kernel
theorem wU {x:Str} (h:uS x=true):fv [.str x]=.ok (.bool true):=by
 have hw:=h
 unfold uS at h
 simp only [aB,decide_eq_true_eq,cj] at h
 obtain ⟨⟨h1,h2⟩,h3⟩:=h
 have hl:x.length=x.cps.size:=rfl
 unfold fv
 refine c6 ?_
 unfold iV bt
 walk_at "zz"
 rw [nw,o_]
 walk_at "zz"
 rw [if_pos (by omega)]
 walk_at "zz"
 rw [decide_eq_true (by omega)]
 walk_at "zz"
 rw [decide_eq_true (by omega)]
 walk_at "zz"
 unfold jM
 walk_at "zz"
 rw [if_pos (by rw [aN];omega)]
 rw [c7 _ (fun c:Nat=>ay ⟨#[c]⟩) (fun _=>bN true) x.cps.toList fun c hc=>cV rfl (by
  obtain ⟨a1,a2⟩:=h3 c hc
  obtain ⟨b1,b2⟩:=KS ⟨c,by omega⟩ a1
  walk_at "zz"
  simp only at b1 b2
  rw [b1]
  walk_at "zz"
  rw [b2])]
 walk_at "zz"
 rw [fL _ (fun _=>true)]
 walk_at "zz"
 simp
theorem uY:∀ (xs ys:List Str),rH (xs.map .str) (ys.map .str)=(xs.zip ys).map fun p=>cW [.str p.1,.str p.2]
 |[],_=>rfl
 |_::_,[]=>rfl
 |x::r,y::r'=>by
  show cW [.str x,.str y]::rH (r.map .str) (r'.map .str)=_
  rw [uY r r']
  rfl
theorem HU:∀ {l:List Str},(l.Pairwise fun a b=>li a b=true)->∀ p∈l.zip (l.drop 1),li p.1 p.2=true
 |[],_,p,hp=>by cases hp
 |[_],_,p,hp=>by cases hp
 |a::b::r,h,p,hp=>by
  obtain ⟨h1,h2⟩:=List.pairwise_cons.mp h
  rcases List.mem_cons.mp hp with z|z
  ·rw [z];exact h1 b av
  ·exact HU h2 p z
theorem D3 (xs:List Str):Bh (bA xs) (some 1) none=.ok (bA (xs.drop 1)):=by
 have e:Bh (bA xs) (some 1) none=.ok (.tuple (uy (xs.map .str) (some 1) none)):=rfl
 rw [e]
 cases xs with
 |nil=>rfl
 |cons x r =>
  rw [show (1:Int)=((1:Nat):Int) from rfl,Bz _ 1 (by simp)]
  rfl
theorem sA {xs:List Str} (hw:∀ x∈xs,uS x=true) (up:xs.Pairwise fun a b=>li a b=true) (hl:xs.length<=6):cb [bA xs]=.ok (.bool true):=by
 unfold cb
 refine c6 ?_
 unfold dh bt
 walk_at "zz"
 rw [j7,m7]
 walk_at "zz"
 rw [if_pos (by omega)]
 rw [c7 _ (fun x:Str=>ay x) (fun _=>bN true) xs fun x hx=>cV rfl (by
  walk_at "zz"
  rw [wU (hw x hx)])]
 walk_at "zz"
 rw [fL _ (fun _=>true)]
 walk_at "zz"
 rw [show ((xs.map fun _=>true).all id)=true by simp]
 walk_at "zz"
 rw [D3]
 walk_at "zz"
 rw [uY]
 walk_at "zz"
 rw [if_pos (by simp;omega)]
 rw [c7 _ (fun p:Str×Str=>cW [.str p.1,.str p.2]) (fun _=>bN true) (xs.zip (xs.drop 1)) fun p hp=>zM rfl (by
  walk_at "zz"
  rw [HU up p hp])]
 walk_at "zz"
 rw [fL _ (fun _=>true)]
 walk_at "zz"
 simp
theorem m9 {fs xs:List Str} (hw:∀ x∈fs,uS x=true) (h:HL fs xs) (hl:xs.length<=6):e8 [bA fs,bA xs]=.ok (.bool true):=by
 unfold e8
 refine c6 ?_
 unfold hZ bt
 walk_at "zz"
 rw [sA (fun x hx=>hw x (h.mem x hx)) h.up hl]
 walk_at "zz"
 rw [if_pos (by omega)]
 rw [c7 _ (fun x:Str=>ay x) (fun _=>bN true) xs fun x hx=>cV rfl (by
  walk_at "zz"
  rw [xW,decide_eq_true (h.mem x hx)]
  rfl)]
 walk_at "zz"
 rw [fL _ (fun _=>true)]
 walk_at "zz"
 simp
theorem wV {xs ys:List Str} (h:∀ x∈xs,x∉ys) (hl:xs.length<=6):eG [bA xs,bA ys]=.ok (.bool true):=by
 unfold eG
 refine c6 ?_
 unfold iy bt
 walk_at "zz"
 rw [if_pos (by omega)]
 rw [c7 _ (fun x:Str=>ay x) (fun _=>bN false) xs fun x hx=>cV rfl (by
  walk_at "zz"
  rw [xW,decide_eq_false (h x hx)]
  rfl)]
 walk_at "zz"
 rw [fL _ (fun _=>false)]
 walk_at "zz"
 simp
theorem BA {l i m:Int} (h0:l<=i) (h1:i<=m):gZ [.int i,.int l,.int m]=.ok (.bool true):=by
 unfold gZ
 refine c6 ?_
 unfold iW bt
 walk_at "zz"
 rw [xY,HR]
 walk_at "zz"
 rw [xY,HS]
 walk_at "zz"
 rw [decide_eq_true h0]
 walk_at "zz"
 rw [decide_eq_true h1]
theorem rO:∀ (xs fs:List Str),xs.Nodup->(∀ x∈xs,x∈fs)->xs.length<=fs.length
 |[],_,_,_=>bV _
 |x::r,fs,nd,h=>by
  obtain ⟨n1,n2⟩:=List.nodup_cons.mp nd
  have hx:=h x av
  have:=rO r (fs.erase x) n2 fun y hy=>(List.mem_erase_of_ne fun (z:y=x)=>n1 (z ▸ hy)).mpr (h y (am _ hy))
  rw [List.length_erase_of_mem hx] at this
  have:0<fs.length:=List.length_pos_of_mem hx
  rw [aD]
  omega
theorem tO {fs xs:List Str} (h:HL fs xs) (hl:fs.length<=6):xs.length<=6:=by
 exact a_ (rO xs fs (kC h.up) h.mem) hl
theorem P_ (a b c d e f g:D):Ko (oA 6 (c_ (cD 2) (c_ (cD 3) (c_ (cD 4) (c_ (cD 5) (c_ (cD 6) (c_ (cD 7) qo))))))) [Sl.shr a,Sl.shr (.tuple [b,c,d,e,f,g]),.no,.no,.no,.no,.no,.no] (.tuple [b,c,d,e,f,g])=.ok (.nx [Sl.shr a,Sl.shr (.tuple [b,c,d,e,f,g]),.shr b,.shr c,.shr d,.shr e,.shr f,.shr g]):=id rfl
theorem zN {fs:List Str} (hr:KL fs 6) {e:yA} (g:mH fs e):eY [bA fs,ka e]=.ok (.bool true):=by
 have l1:=tO g.needs hr.len
 have l2:=tO g.bars hr.len
 have l3:=tO g.makes hr.len
 have l4:=tO g.ends hr.len
 unfold eY
 refine c6 ?_
 unfold h_ bt
 walk_at "zz"
 rw [D2]
 unfold ka
 walk_at "zz"
 rw [m7]
 walk_at "zz"
 rw [jT]
 walk_at "zz"
 rw [show decide (((6:Nat):Int)=6)=true from rfl]
 walk_at "zz"
 rw [P_]
 ·walk_at "zz"
  rw [wU g.name]
  walk_at "zz"
  rw [BA g.p0 g.p9]
  walk_at "zz"
  have pk:=c7 (gQ 1 [Sl.no,Sl.shr (bA fs)] kT (gK 2 e8 (J.af (rS 1) (J.af (rS 0) J.aQ)))) (fun x:List Str=>bA x) (fun _=>bN true) [e.needs,e.bars,e.makes,e.ends] fun x hx=>cV rfl (by
   walk_at "zz"
   simp only [b9,aR,or_false] at hx
   rcases hx with z|z|z|z<;>rw [z]
   ·rw [m9 hr.ok g.needs l1]
   ·rw [m9 hr.ok g.bars l2]
   ·rw [m9 hr.ok g.makes l3]
   ·rw [m9 hr.ok g.ends l4])
  simp only [al,dG] at pk
  rw [pk]
  walk_at "zz"
  rw [show gY (fun bs=>bs.all id) (.list [.bool true,.bool true,.bool true,.bool true])=.ok (.bool true) from rfl]
  walk_at "zz"
  rw [wV g.nb l1]
  walk_at "zz"
  rw [wV g.me l3]
  walk_at "zz"
theorem HV (l:List Str) (nd:l.Nodup):(dE [] l).length=l.length:=by
 have h1:=rO (dE [] l) l (kj l [] kg) fun x hx=>((lg l [] x).mp hx).elim (fun h=>nomatch h) id
 have h2:=rO l (dE [] l) nd fun x hx=>(lg l [] x).mpr (.inr hx)
 omega
theorem Eo (es:List yA) (hl:es.length<=6) (nd:(es.map (·.name)).Nodup) (s:Sl) (ρ:ak) (h:(s::ρ)[2]?=some (.shr (.tuple (es.map ka)))):lX (nj 1 [] (mG (rB 2)) kT (g2 (rB 0) (kI 0) bG)) (s::ρ)=.ok (.int (es.length:Nat)):=by
 have hr:yz (s::ρ) 2=.ok (.tuple (es.map ka)):=by unfold yz;rw [h]
 unfold lX nj
 rw [Kn,Kv,hr]
 walk_at "zz"
 rw [if_pos (by omega)]
 rw [c7 _ ka (fun e=>ay e.name) es fun e he=>cV rfl (by
  walk_at "zz"
  rfl)]
 walk_at "zz"
 have:(es.map fun e=>ay e.name)=(es.map (·.name)).map .str:=by rw [cZ];rfl
 rw [this,strsOf_map]
 simp only [gS,HV _ nd,au]
theorem Q0 (b c:D):Ko (oA 2 (c_ (cD 1) (c_ (cD 2) qo))) [Sl.shr (.tuple [b,c]),.no,.no] (.tuple [b,c])=.ok (.nx [Sl.shr (.tuple [b,c]),.shr b,.shr c]):=id rfl
theorem Ep {fs:List Str}{es:List yA} (g:wS fs es):fz [vO fs es]=.ok (.bool true):=by
 have l1:=g.rise.len
 have l2:=g.len
 unfold fz
 refine c6 ?_
 unfold jA bt
 walk_at "zz"
 rw [KR]
 unfold vO
 walk_at "zz"
 rw [m7]
 walk_at "zz"
 rw [jT]
 walk_at "zz"
 rw [show decide (((2:Nat):Int)=2)=true from rfl]
 walk_at "zz"
 rw [Q0]
 walk_at "zz"
 rw [sA g.rise.ok g.rise.up l1]
 walk_at "zz"
 rw [decide_eq_false (by omega)]
 walk_at "zz"
 rw [Mp,m7]
 walk_at "zz"
 rw [decide_eq_false (by omega)]
 walk_at "zz"
 rw [if_pos (by omega)]
 rw [c7 _ ka (fun _=>bN true) es fun e he=>cV rfl (by
  walk_at "zz"
  rw [zN g.rise (g.ok e he)])]
 walk_at "zz"
 rw [fL _ (fun _=>true)]
 walk_at "zz"
 rw [show ((es.map fun _=>true).all id)=true by simp]
 walk_at "zz"
 rw [Eo es l2 g.nd _ _ rfl]
 walk_at "zz"
 rw [jT,decide_eq_true rfl]
 rfl
theorem zO {α:Type} (c:α->D):∀ xs:List α,(∀ x∈xs,(c x).canLay0=true)->bZ (xs.map c)=true
 |[],_=>rfl
 |x::r,h=>by
  have h1:=h x av
  have h2:=zO c r fun y hy=>h y (am _ hy)
  simp only [al,bZ,h1,h2,hJ]
def Q1:Nat->D
 | 0=>.str ""
 | 1=>.str "fact a"
 | 2=>.str "facts b a"
 | 3=>.str "facts a a"
 | 4=>.str "facts a\n"
 | 5=>.str "facts a\nx"
 | 6=>.str "facts a\nx 10"
 | 7=>.none
 | 8=>.int 5
 | 9=>.str "facts a\nx 1,needs a"
 | 10=>.str "facts a\nx 1, needs"
 | 11=>.str "facts a\nx 1, makes a, needs a"
 | 12=>.str "facts  a"
 | 13=>.str "facts a\nx 1, needs a, needs a"
 | 14=>.str "facts a\nx 1, needs b"
 | 15=>.str "facts a\nx 1\nx 2"
 | 16=>.str "facts A"
 | 17=>.str " facts a"
 | 18=>.str "facts a\nx 1, wants a"
 |_=>.list [.str "facts"]
def BB:R D->Bool
 |.ok (.tuple [.str x,.int i])=>x == "refused" && i==10
 |_=>false
theorem Es {r:R D} (h:BB r=true):r=.ok (.tuple [.str "refused",.int 10]):=by
 unfold BB at h
 split at h
 ·simp only [aB,beq_iff_eq] at h
  rw [h.1,h.2]
 ·cases h
theorem HW:∀ (i:_root_.Fin 20),BB (eM [Q1 i.val])=true:=by decide +kernel
def ma (n:Nat) (x:Str):Prop:=bP x=true/\x.length<=n
theorem iA (x:Str):bP x=true↔∀ c∈x.cps.toList,c<0x110000:=by
 unfold bP
 rw [<- lM,cj]
 exact ⟨fun h c hc=>by simpa using h c hc,fun h c hc=>by simpa using h c hc⟩
theorem ma.mono {n m:Nat}{x:Str} (h:ma n x) (l:n<=m):ma m x:=⟨h.1,a_ h.2 l⟩
theorem tP {n:Nat}{x:Str} (h:ma n x) (i j:Nat):ma n (Builtin.Str.strSub x i j):=by
 refine ⟨(iA _).mpr fun c hc=>?_,a_ (PyProof.Rows.sub_short x i j) h.2⟩
 rw [StrLaws.strSub_toList] at hc
 exact (iA _).mp h.1 c (List.mem_of_mem_drop (List.mem_of_mem_take hc))
theorem wW {n:Nat}{x:Str} (h:ma n x) (w:Nat):∀ (cuts:List Nat) (a:Nat),∀ p∈StrLaws.partsFrom x w a cuts,ma n p
 |[],a,p,hp=>by rw [List.mem_singleton.mp hp];exact tP h _ _
 |c::r,a,p,hp=>by
  rcases List.mem_cons.mp hp with rfl|hp'
  ·exact tP h _ _
  ·exact wW h w r _ p hp'
theorem jC {n:Nat}{x:Str} (h:ma n x) (y:Str):∀ p∈bv x y,ma n p:=by
 intro p hp
 unfold bv at hp
 split at hp
 ·rw [List.mem_singleton.mp hp];exact h
 ·split at hp
  ·rw [List.mem_singleton.mp hp];exact h
  ·rw [we] at hp
   exact wW h _ _ _ p hp
theorem jU (x y:Str):∃ p r,bv x y=p::r:=by
 unfold bv
 split
 ·exact ⟨_,_,rfl⟩
 ·split
  ·exact ⟨_,_,rfl⟩
  ·rw [we];exact StrLaws.partsFrom_ne _ _ _ _
theorem zP {n:Nat}{x y:Str} (h:ma n x):ma n (aZ x y).1/\ma n (aZ x y).2.2:=by
 unfold aZ
 split
 ·exact ⟨tP h _ _,tP h _ _⟩
 ·exact ⟨h,⟨(iA _).mpr fun c (hc:c∈Str.empty.cps.toList)=>(nomatch hc),bV _⟩⟩
theorem qB {n m:Nat}{x y:Str} (h:ma n x) (k:ma m y):ma (n+m) (x++y):=by
 refine ⟨(iA _).mpr fun c hc=>?_,?_⟩
 ·rw [xj,oV] at hc
  rcases List.mem_append.mp hc with hc|hc
  ·exact (iA _).mp h.1 c hc
  ·exact (iA _).mp k.1 c hc
 ·rw [bH]
  have:=h.2;have:=k.2;omega
theorem wX {n:Nat}{x:Str} (h:ma n x) (l u:Option Int):ma n (dS x l u):=by
 refine ⟨?_,a_ (Txt.slice_le x l u) h.2⟩
 unfold dS
 split
 ·exact h.1
 ·refine (iA _).mpr fun c hc=>?_
  simp only [List.mem_filterMap] at hc
  obtain ⟨i,_,hi⟩:=hc
  refine (iA _).mp h.1 c ?_
  rw [<- dg] at hi
  exact gF hi
theorem ny {sep:Str} (hs:bP sep=true):∀ {xs:List Str},(∀ x∈xs,bP x=true)->bP (dz sep xs)=true
 |[],_=>(iA _).mpr fun c (hc:c∈Str.empty.cps.toList)=>(nomatch hc)
 |[x],h=>h x (by simp)
 |x::y::r,h=>by
  have ih:=ny hs (xs:=y::r) fun z hz=>h z (am _ hz)
  have hx:=h x (by simp)
  show bP (x++sep++dz sep (y::r))=true
  refine (iA _).mpr fun c hc=>?_
  rw [xj,oV,xj,oV] at hc
  rcases List.mem_append.mp hc with hc|hc
  ·rcases List.mem_append.mp hc with hc|hc
   ·exact (iA _).mp hx c hc
   ·exact (iA _).mp hs c hc
  ·exact (iA _).mp ih c hc
theorem x_ (neg:Bool) {x y:Str} (hx:bP x=true) (hy:bP y=true):lT neg (.str x) (.str y)=.ok (.bool (if neg then !decide (x=y) else decide (x=y))):=by
 unfold lT
 rw [show (ay x).canLay0=true from hx,show (ay y).canLay0=true from hy,nY]
 rfl
def NO (f:Str->Str->R D) (z:Str):D->R D:=fun y=>match y with
 |.str w=>f z w
 |_=>.no
def R_ (gb:ak->R D) (f:Str->Str->R D) (ρ:ak):D->R D:=fun x=>match x with
 |.str z=>(gb ρ).bind (NO f z)
 |_=>.no
theorem y0 (ga gb:ak->R D) (f:Str->Str->R D) (s:Sl) (ρ:ak):CQ ga gb f (s::ρ)=(ga (s::ρ)).bind (R_ gb f (s::ρ)):=id rfl
theorem qC (gb:ak->R D) (f:Str->Str->R D) (ρ:ak) (z:Str):R_ gb f ρ (.str z)=(gb ρ).bind (NO f z):=id rfl
theorem md (f:Str->Str->R D) (z w:Str):NO f z (.str w)=f z w:=id rfl
def Mq (i j:Nat) (ρ:ak):D->R Fl:=fun d=>match d with
 |.list (x::r)=>if r.length<=2000 then .ok (.nx ((ρ.set i (.shr x)).set j (.shr (.list r)))) else .no
 |_=>.no
theorem uZ (i j:Nat) (g:ak->R D) (s:Sl) (ρ:ak):nu i j g (s::ρ)=(g (s::ρ)).bind (Mq i j (s::ρ)):=id rfl
theorem qD (i j:Nat) (ρ:ak) (x:D) (r:List D) (h:r.length<=2000):Mq i j ρ (.list (x::r))=.ok (.nx ((ρ.set i (.shr x)).set j (.shr (.list r)))):=if_pos h
theorem y3 (z:Str) (g:ak->R D) (s:Sl) (ρ:ak):oM z g (s::ρ)=(g (s::ρ)).bind (sy z):=id rfl
theorem kE {z w:Str} (hw:w.length≠0) (hz:z.length<=1000):jP z w=.ok (.list ((bv z w).map .str)):=if_pos ⟨hw,hz⟩
theorem NQ {z w:Str} (hw:w.length≠0) (hz:z.length<=1000):wO z w=.ok (.tuple [.str (aZ z w).1,.str (aZ z w).2.1,.str (aZ z w).2.2]):=if_pos ⟨hw,hz⟩
theorem HX {z:Str} (ys:List Str) (h:(ys.map (·.length)).sum+ys.length*z.length<=100000):sy z (.list (ys.map .str))=.ok (.str (iQ z ys)):=by
 have e:sy z (.list (ys.map .str))=match dZ (ys.map .str) with
  |some ys=>if (ys.map (·.length)).sum+ys.length*z.length<=100000 then .ok (.str (iQ z ys)) else .no
  |none=>.no:=rfl
 rw [e,strsOf_map]
 exact if_pos h
theorem HY {z:Str} (ys:List Str) (h:(ys.map (·.length)).sum+ys.length*z.length<=100000):sy z (bA ys)=.ok (.str (iQ z ys)):=by
 have e:sy z (bA ys)=match dZ (ys.map .str) with
  |some ys=>if (ys.map (·.length)).sum+ys.length*z.length<=100000 then .ok (.str (iQ z ys)) else .no
  |none=>.no:=rfl
 rw [e,strsOf_map]
 exact if_pos h
def HZ (P:ak->Prop) (r:R Fl):Prop:=∃ ρ',r=.ok (.nx ρ')/\P ρ'
theorem Et {P:ak->Prop}{r:R Fl}{hh:ak->R Fl}{o:R Fl} (h:HZ P r) (k:∀ ρ,P ρ->hh ρ=o):r.bind (GJ hh)=o:=by
 obtain ⟨ρ',h1,p⟩:=h
 rw [h1,bind_ok,nr]
 exact k ρ' p
theorem zQ {α:Type}{kt:D->ak->R ak}{gb:ak->R Fl} (c:α->D) (p:α->Bool) (out:α->D) (P:ak->Prop):∀ (xs:List α) (ρ:ak),(∀ x∈xs,∀ ρ,P ρ->∃ ρ1,kt (c x) ρ=.ok ρ1/\(p x=true->gb ρ1=.ok (.rt (out x)))/\(p x=false->HZ P (gb ρ1)))->P ρ ->
  (∀ x,xs.find? p=some x->iU kt gb (xs.map c) ρ=.ok (.rt (out x)))/\(xs.find? p=none->HZ P (iU kt gb (xs.map c) ρ))
 |[],ρ,_,q=>⟨fun x h=>(nomatch h),fun _=>⟨ρ,rfl,q⟩⟩
 |x::r,ρ,h,q=>by
  obtain ⟨ρ1,h1,h2,h3⟩:=h x av ρ q
  rw [al,db]
  unfold iU
  rw [h1]
  cases hp:p x with
  |true =>
   refine ⟨fun y hy=>?_,fun hn=>nomatch hn⟩
   cases hy
   simp only [h2 hp]
  |false =>
   obtain ⟨ρ2,h4,h5⟩:=h3 hp
   simp only [h4]
   exact zQ c p out P r ρ2 (fun y hy=>h y (am _ hy)) h5
abbrev Q2 (x:Str):Str:=(bv x " ").headD ""
abbrev Mr (x:Str):List Str:=(bv x " ").tail
def KU (w:Str) (ps:List Str):List Str:=match ps.find? fun p=>decide (Q2 p=w) with
 |some p=>Mr p
 |none=>[]
theorem u_:(" " : Str).length≠0:=by decide
theorem H_ {i:Nat}{kt:D->ak->R ak}{gb:ak->R Fl}{ρ:ak}{ds:List D} (h:ρ[i]?=some (.shr (.list ds))):uF i kt gb ρ=iU kt gb ds ρ:=by
 unfold uF
 rw [h]
 simp only
 unfold rJ mG
 have:zd ρ i=.ok (.list ds):=by unfold zd;rw [h]
 simp only [this,bind_ok]
 rfl
theorem Eu (w:Str) (ps:List Str) (hw:bP w=true) (hp:∀ p∈ps,ma 1000 p):g6 [.str w,.list (ps.map .str)]=.ok (bA (KU w ps)):=by
 unfold g6
 refine c6 ?_
 unfold iz bt
 have H:=zQ (kt:=cD 2) (gb:=bj (nu 3 4 (CQ (rS 2) (fun _=>.ok (.str " ")) jP)) (fM (iD (g2 (rB 3) (rB 0) (lT false))) (eA (cG (J.af (rB 4) J.aQ) (jm fF))) (fun ρ=>.ok (.nx ρ)))) (fun x:Str=>ay x) (fun p=>decide (Q2 p=w)) (fun p=>bA (Mr p))
  (fun ρ=>∃ z2 z3 z4,ρ=[.shr (.str w),.shr (.list (ps.map .str)),z2,z3,z4]) ps [.shr (.str w),.shr (.list (ps.map .str)),.no,.no,.no] (by
   rintro x hx ρ ⟨z2,z3,z4,rfl⟩
   obtain ⟨f,r,e⟩:=jU x " "
   have ok:=jC (hp x hx) " "
   have hl:=lA x " "
   have hx1:=(hp x hx).2
   rw [e,aD] at hl
   have ef:Q2 x=f:=by unfold Q2;rw [e];rfl
   have er:Mr x=r:=by unfold Mr;rw [e];rfl
   have st:bj (nu 3 4 (CQ (rS 2) (fun _=>.ok (.str " ")) jP)) (fM (iD (g2 (rB 3) (rB 0) (lT false))) (eA (cG (J.af (rB 4) J.aQ) (jm fF))) (fun ρ=>.ok (.nx ρ))) [.shr (.str w),.shr (.list (ps.map .str)),.shr (.str x),z3,z4]=if decide (f=w) then .ok (.rt (bA r)) else .ok (.nx [.shr (.str w),.shr (.list (ps.map .str)),.shr (.str x),.shr (.str f),.shr (.list (r.map .str))]):=by
    rw [wH,uZ,y0]
    walk_at "zz"
    rw [qC,gS,md,kE u_ hx1,gS,e,al,qD _ _ _ _ _ (by rw [au];omega)]
    walk_at "zz"
    rw [x_ false (ok f (by rw [e];simp)).1 hw]
    walk_at "zz"
    by_cases h:f=w
    ·simp only [h,decide_true,cond_true,if_true]
     rw [dL]
     rfl
    ·simp only [h,decide_false,cond_false,bw,if_false]
   refine ⟨_,rfl,fun h=>?_,fun h=>?_⟩
   ·refine st.trans ?_
    rw [ef] at h
    rw [if_pos h,er]
   ·rw [ef] at h
    exact ⟨_,st.trans (if_neg (by rw [h];decide)),_,_,_,rfl⟩) ⟨_,_,_,rfl⟩
 walk_at "zz"
 rw [H_ rfl]
 unfold KU
 cases hf:ps.find? fun p=>decide (Q2 p=w) with
 |some p =>
  rw [H.1 p hf]
  rfl
 |none =>
  refine Et (H.2 hf) ?_
  rintro ρ ⟨z2,z3,z4,rfl⟩
  rfl
def D4 (x:Str):D:=if x.length=1 then .int (xi "0123456789" x) else .none
theorem I0 {x:Str} (h:x.length<=1000):ju [.str x]=.ok (D4 x):=by
 unfold ju
 refine c6 ?_
 unfold jt bt
 walk_at "zz"
 rw [if_pos h]
 walk_at "zz"
 rw [jT]
 walk_at "zz"
 unfold D4
 by_cases e:x.length=1
 ·rw [decide_eq_true (by omega)]
  simp only [e,cond_true,if_true]
  rfl
 ·rw [decide_eq_false (by omega)]
  simp only [e,cond_false,if_false]
  rfl
structure n_ where
 name:Str
 needs:List Str
 bars:List Str
 makes:List Str
 ends:List Str
 price:D
def fj (e:n_):D:=.tuple [.str e.name,bA e.needs,bA e.bars,bA e.makes,bA e.ends,e.price]
def I9 (x:Str):n_ :=
 let h:=(bv x ", ").headD ""
 let ps:=(bv x ", ").tail
 ⟨(aZ h " ").1,KU "needs" ps,KU "bars" ps,KU "makes" ps,KU "ends" ps,D4 (aZ h " ").2.2⟩
theorem Ev:(", " : Str).length≠0:=by decide
theorem mf {x:Str} (h:ma 1000 x):ku [.str x]=.ok (fj (I9 x)):=by
 obtain ⟨f,r,e⟩:=jU x ", "
 have ok:=jC h ", "
 have hl:=lA x ", "
 have hx1:=h.2
 rw [e,aD] at hl
 have okf:=ok f (by rw [e];simp)
 have okr:∀ p∈r,ma 1000 p:=fun p hp=>ok p (by rw [e];simp [hp])
 have e1:(bv x ", ").headD ""=f:=by rw [e];rfl
 have e2:(bv x ", ").tail=r:=by rw [e];rfl
 unfold ku
 refine c6 ?_
 unfold kr bt I9
 simp only [e1,e2]
 walk_at "zz"
 rw [uZ,y0]
 walk_at "zz"
 rw [qC,gS,md,kE Ev hx1,gS,e,al,qD _ _ _ _ _ (by rw [au];omega)]
 walk_at "zz"
 rw [y0]
 walk_at "zz"
 rw [qC,gS,md,NQ u_ okf.2,gS]
 rw [show Ko (oA 3 (c_ (cD 3) (c_ (cD 4) (c_ (cD 5) qo)))) [Sl.shr (ay x),Sl.shr (ay f),Sl.shr (i7 (oG ay r)),Sl.no,Sl.no,Sl.no] (cW [ay (aZ f " ").1,ay (aZ f " ").2.1,ay (aZ f " ").2.2])=.ok (.nx [Sl.shr (ay x),Sl.shr (ay f),Sl.shr (i7 (oG ay r)),.shr (.str (aZ f " ").1),.shr (.str (aZ f " ").2.1),.shr (.str (aZ f " ").2.2)]) from id rfl]
 walk_at "zz"
 have M:=c7 (gQ 1 [Sl.no,.shr (.list (r.map .str))] kT (gK 2 g6 (J.af (rS 0) (J.af (rS 1) J.aQ)))) (fun w:Str=>ay w) (fun w=>bA (KU w r)) ["needs","bars","makes","ends"] fun w hw=>cV rfl (by
  walk_at "zz"
  rw [Eu w r ?_ okr]
  simp only [b9,aR,or_false] at hw
  rcases hw with rfl|rfl|rfl|rfl<;>decide +kernel)
 simp only [al,dG] at M
 rw [M]
 walk_at "zz"
 rw [dL]
 walk_at "zz"
 rw [I0 (zP okf).2.2]
 walk_at "zz"
 rfl
def Oc:R D->Bool
 |.ok (.bool b)=>b
 |_=>false
theorem y4 {r:R D} (h:∃ b,r=.ok (.bool b)):r=.ok (.bool (Oc r)):=by
 obtain ⟨b,rfl⟩:=h;rfl
def NR (x:Str):Bool:=Oc (fv [.str x])
theorem v3 {x:Str} (h:x.length<=1000):fv [.str x]=.ok (.bool (NR x)):=by
 refine y4 ?_
 have hl:x.length=x.cps.size:=rfl
 by_cases h1:1<=x.length
 ·by_cases h2:x.length<=6
  ·refine ⟨(x.cps.toList.map fun c=>if (!li ⟨#[c]⟩ "a") then (!li "z" ⟨#[c]⟩) else false).all id,?_⟩
   unfold fv
   refine c6 ?_
   unfold iV bt
   walk_at "zz"
   rw [nw,o_]
   walk_at "zz"
   rw [if_pos h]
   walk_at "zz"
   rw [decide_eq_true (by omega)]
   walk_at "zz"
   rw [decide_eq_true (by omega)]
   walk_at "zz"
   unfold jM
   walk_at "zz"
   rw [if_pos (by rw [aN];omega)]
   rw [c7 _ (fun c:Nat=>ay ⟨#[c]⟩) (fun c=>bN (if (!li ⟨#[c]⟩ "a") then (!li "z" ⟨#[c]⟩) else false)) x.cps.toList fun c hc=>cV rfl (by
    walk_at "zz"
    cases (!li ⟨#[c]⟩ "a") with
    |true=>walk_at "zz"
    |false=>walk_at "zz")]
   walk_at "zz"
   rw [fL _ (fun c:Nat=>if (!li ⟨#[c]⟩ "a") then (!li "z" ⟨#[c]⟩) else false)]
   walk_at "zz"
  ·refine ⟨false,?_⟩
   unfold fv
   refine c6 ?_
   unfold iV bt
   walk_at "zz"
   rw [nw,o_]
   walk_at "zz"
   rw [if_pos h]
   walk_at "zz"
   rw [decide_eq_true (by omega)]
   walk_at "zz"
   rw [decide_eq_false (by omega)]
   walk_at "zz"
 ·refine ⟨false,?_⟩
  unfold fv
  refine c6 ?_
  unfold iV bt
  walk_at "zz"
  rw [nw,o_]
  walk_at "zz"
  rw [if_pos h]
  walk_at "zz"
  rw [decide_eq_false (by omega)]
  walk_at "zz"
structure Al (xs:List Str):Prop where
 wt:(xs.map (·.length)).sum+xs.length<=990
 ok:∀ x∈xs,ma 1000 x
theorem Al.len {xs:List Str} (h:Al xs):xs.length<=1000:=by have:=h.wt;omega
def Rs (xs:List Str):Bool:=Oc (cb [bA xs])
theorem p7 {xs:List Str} (h:Al xs):cb [bA xs]=.ok (.bool (Rs xs)):=by
 refine y4 ?_
 have hl:=h.len
 cases hb:((xs.map NR).all id) with
 |false =>
  refine ⟨false,?_⟩
  unfold cb
  refine c6 ?_
  unfold dh bt
  walk_at "zz"
  rw [j7,m7]
  walk_at "zz"
  rw [if_pos (by omega)]
  rw [c7 _ (fun x:Str=>ay x) (fun x=>bN (NR x)) xs fun x hx=>cV rfl (by
   walk_at "zz"
   rw [v3 (h.ok x hx).2])]
  walk_at "zz"
  rw [fL _ NR]
  walk_at "zz"
  rw [hb]
  walk_at "zz"
 |true =>
  refine ⟨((xs.zip (xs.drop 1)).map fun p=>li p.1 p.2).all id,?_⟩
  unfold cb
  refine c6 ?_
  unfold dh bt
  walk_at "zz"
  rw [j7,m7]
  walk_at "zz"
  rw [if_pos (by omega)]
  rw [c7 _ (fun x:Str=>ay x) (fun x=>bN (NR x)) xs fun x hx=>cV rfl (by
   walk_at "zz"
   rw [v3 (h.ok x hx).2])]
  walk_at "zz"
  rw [fL _ NR]
  walk_at "zz"
  rw [hb]
  walk_at "zz"
  rw [D3]
  walk_at "zz"
  rw [uY]
  walk_at "zz"
  rw [if_pos (by simp;omega)]
  rw [c7 _ (fun p:Str×Str=>cW [.str p.1,.str p.2]) (fun p=>bN (li p.1 p.2)) (xs.zip (xs.drop 1)) fun p hp=>zM rfl (by
   walk_at "zz")]
  walk_at "zz"
  rw [fL _ (fun p:Str×Str=>li p.1 p.2)]
  walk_at "zz"
def NS (fs xs:List Str):Bool:=Oc (e8 [bA fs,bA xs])
theorem o6 {fs xs:List Str} (h:Al xs):e8 [bA fs,bA xs]=.ok (.bool (NS fs xs)):=by
 refine y4 ?_
 have hl:=h.len
 cases hb:Rs xs with
 |false =>
  refine ⟨false,?_⟩
  unfold e8
  refine c6 ?_
  unfold hZ bt
  walk_at "zz"
  rw [p7 h,hb]
  walk_at "zz"
 |true =>
  refine ⟨(xs.map fun x=>decide (x∈fs)).all id,?_⟩
  unfold e8
  refine c6 ?_
  unfold hZ bt
  walk_at "zz"
  rw [p7 h,hb]
  walk_at "zz"
  rw [if_pos (by omega)]
  rw [c7 _ (fun x:Str=>ay x) (fun x=>bN (decide (x∈fs))) xs fun x hx=>cV rfl (by
   walk_at "zz"
   rw [xW]
   rfl)]
  walk_at "zz"
  rw [fL _ (fun x:Str=>decide (x∈fs))]
  walk_at "zz"
def Rt (xs ys:List Str):Bool:=Oc (eG [bA xs,bA ys])
theorem zR {xs ys:List Str} (hl:xs.length<=1000):eG [bA xs,bA ys]=.ok (.bool (Rt xs ys)):=by
 refine y4 ⟨!((xs.map fun x=>decide (x∈ys)).any id),?_⟩
 unfold eG
 refine c6 ?_
 unfold iy bt
 walk_at "zz"
 rw [if_pos (by omega)]
 rw [c7 _ (fun x:Str=>ay x) (fun x=>bN (decide (x∈ys))) xs fun x hx=>cV rfl (by
  walk_at "zz"
  rw [xW]
  rfl)]
 walk_at "zz"
 rw [fL _ (fun x:Str=>decide (x∈ys))]
 walk_at "zz"
def pc (d:D):Bool:=match d with
 |.int i=>decide (0<=i)&&decide (i<=9)
 |_=>false
theorem KW:xI "int" .none=false:=id rfl
theorem Ew (x:Str):gZ [D4 x,.int 0,.int 9]=.ok (.bool (pc (D4 x))):=by
 unfold D4
 by_cases e:x.length=1
 ·rw [if_pos e]
  generalize xi "0123456789" x=i
  unfold gZ
  refine c6 ?_
  unfold iW bt
  walk_at "zz"
  rw [xY,HR]
  walk_at "zz"
  rw [xY,HS]
  walk_at "zz"
  unfold pc
  by_cases h0:0<=i
  ·rw [decide_eq_true h0]
   walk_at "zz"
   simp [h0]
  ·rw [decide_eq_false h0]
   walk_at "zz"
   simp [h0]
 ·rw [if_neg e]
  unfold gZ
  refine c6 ?_
  unfold iW bt
  walk_at "zz"
  rw [show n6 .none=true from rfl,KW]
  walk_at "zz"
  rfl
structure IN (e:n_):Prop where
 name:ma 1000 e.name
 needs:Al e.needs
 bars:Al e.bars
 makes:Al e.makes
 ends:Al e.ends
 price:∃ x,e.price=D4 x
theorem Q3 (x:Str):n6 (D4 x)=true:=by unfold D4;split<;>rfl
theorem D5 {e:n_} (h:IN e):n6 (fj e)=true:=by
 obtain ⟨x,hx⟩:=h.price
 unfold fj
 rw [uX]
 simp only [noDs,nw,j7,hx,Q3,hJ]
def NT (fs:List Str) (e:n_):Bool:=Oc (eY [bA fs,fj e])
theorem zS {fs:List Str}{e:n_} (h:IN e):∃ b,eY [bA fs,fj e]=.ok (.bool b)/\(b=true->pc e.price=true):=by
 obtain ⟨x,hx⟩:=h.price
 have hd:=D5 h
 unfold eY
 suffices hh:∃ b,h_ (bt 8 [bA fs,fj e])=.ok (.rt (.bool b))/\(b=true->pc e.price=true) by
  obtain ⟨b,h1,h2⟩:=hh
  exact ⟨b,c6 h1,h2⟩
 unfold h_ bt
 walk_at "zz"
 rw [hd]
 unfold fj
 walk_at "zz"
 rw [m7]
 walk_at "zz"
 rw [jT]
 walk_at "zz"
 rw [show decide (((6:Nat):Int)=6)=true from rfl]
 walk_at "zz"
 rw [P_]
 walk_at "zz"
 rw [v3 h.name.2]
 walk_at "zz"
 cases hw:NR e.name with
 |false =>
  refine ⟨false,?_,fun z=>by cases z⟩
  walk_at "zz"
 |true =>
  walk_at "zz"
  rw [hx,Ew]
  walk_at "zz"
  cases hp:pc (D4 x) with
  |false =>
   refine ⟨false,?_,fun z=>by cases z⟩
   walk_at "zz"
  |true =>
   walk_at "zz"
   have pk:=c7 (gQ 1 [Sl.no,Sl.shr (bA fs)] kT (gK 2 e8 (J.af (rS 1) (J.af (rS 0) J.aQ)))) (fun x:List Str=>bA x) (fun x=>bN (NS fs x)) [e.needs,e.bars,e.makes,e.ends] fun x hx=>cV rfl (by
    walk_at "zz"
    simp only [b9,aR,or_false] at hx
    rcases hx with z|z|z|z<;>rw [z]
    ·rw [o6 h.needs]
    ·rw [o6 h.bars]
    ·rw [o6 h.makes]
    ·rw [o6 h.ends])
   have qt:=fL (fun bs=>bs.all id) (NS fs) [e.needs,e.bars,e.makes,e.ends]
   simp only [al,dG] at pk qt
   rw [pk]
   walk_at "zz"
   rw [qt]
   walk_at "zz"
   cases ha:([NS fs e.needs,NS fs e.bars,NS fs e.makes,NS fs e.ends].all id) with
   |false =>
    refine ⟨false,?_,fun z=>by cases z⟩
    walk_at "zz"
   |true =>
    walk_at "zz"
    rw [zR h.needs.len]
    walk_at "zz"
    cases hn:Rt e.needs e.bars with
    |false =>
     refine ⟨false,?_,fun z=>by cases z⟩
     walk_at "zz"
    |true =>
     refine ⟨Rt e.makes e.ends,?_,fun _=>trivial⟩
     walk_at "zz"
     rw [zR h.makes.len]
     walk_at "zz"
theorem v4 {fs:List Str}{e:n_} (h:IN e):eY [bA fs,fj e]=.ok (.bool (NT fs e))/\(NT fs e=true->pc e.price=true):=by
 obtain ⟨b,h1,h2⟩:=zS (fs:=fs) h
 have:NT fs e=b:=by unfold NT;rw [h1];rfl
 rw [this]
 exact ⟨h1,h2⟩
def jd (fs:List Str) (ls:List n_):D:=.tuple [bA fs,.tuple (ls.map fj)]
structure KY (fs:List Str) (ls:List n_):Prop where
 fs:Al fs
 len:ls.length<=1000
 ok:∀ l∈ls,IN l
theorem Ia {ls:List n_} (h:∀ l∈ls,IN l):noDs (ls.map fj)=true:=by
 induction ls with
 |nil=>rfl
 |cons l r ih =>
  rw [al]
  show (n6 (fj l)&&noDs (r.map fj))=true
  rw [D5 (h l (by simp)),ih fun x hx=>h x (by simp [hx])]
  rfl
theorem KZ {fs:List Str}{ls:List n_} (h:KY fs ls):n6 (jd fs ls)=true:=by
 unfold jd
 rw [uX]
 simp only [noDs,j7,show n6 (.tuple (ls.map fj))=true from Ia h.ok,hJ]
theorem BC (es:List n_) (hl:es.length<=6) (s:Sl) (ρ:ak) (h:(s::ρ)[2]?=some (.shr (.tuple (es.map fj)))):lX (nj 1 [] (mG (rB 2)) kT (g2 (rB 0) (kI 0) bG)) (s::ρ)=.ok (.int ((dE [] (es.map (·.name))).length:Nat)):=by
 have hr:yz (s::ρ) 2=.ok (.tuple (es.map fj)):=by unfold yz;rw [h]
 unfold lX nj
 rw [Kn,Kv,hr]
 walk_at "zz"
 rw [if_pos (by omega)]
 rw [c7 _ fj (fun e=>ay e.name) es fun e he=>cV rfl (by
  walk_at "zz"
  rfl)]
 walk_at "zz"
 have:(es.map fun e=>ay e.name)=(es.map (·.name)).map .str:=by rw [cZ];rfl
 rw [this,strsOf_map]
 simp only [gS]
theorem Ex {fs:List Str}{ls:List n_} (h:KY fs ls):∃ b,fz [jd fs ls]=.ok (.bool b)/\(b=true->fs.length<=6/\ls.length<=6/\∀ l∈ls,pc l.price=true):=by
 have hd:=KZ h
 unfold fz
 suffices hh:∃ b,jA (bt 3 [jd fs ls])=.ok (.rt (.bool b))/\(b=true->fs.length<=6/\ls.length<=6/\∀ l∈ls,pc l.price=true) by
  obtain ⟨b,h1,h2⟩:=hh
  exact ⟨b,c6 h1,h2⟩
 unfold jA bt
 walk_at "zz"
 rw [hd]
 unfold jd
 walk_at "zz"
 rw [m7]
 walk_at "zz"
 rw [jT]
 walk_at "zz"
 rw [show decide (((2:Nat):Int)=2)=true from rfl]
 walk_at "zz"
 rw [Q0]
 walk_at "zz"
 rw [p7 h.fs]
 walk_at "zz"
 cases hr:Rs fs with
 |false =>
  refine ⟨false,?_,fun z=>by cases z⟩
  walk_at "zz"
 |true =>
  walk_at "zz"
  by_cases l1:fs.length<=6
  ·rw [decide_eq_false (show ¬ (6:Int)<(fs.length:Nat) by omega)]
   walk_at "zz"
   rw [uX,Ia h.ok,m7]
   walk_at "zz"
   by_cases l2:ls.length<=6
   ·rw [decide_eq_false (show ¬ (6:Int)<(ls.length:Nat) by omega)]
    walk_at "zz"
    rw [if_pos (by omega)]
    rw [c7 _ fj (fun l=>bN (NT fs l)) ls fun e he=>cV rfl (by
     walk_at "zz"
     rw [(v4 (h.ok e he)).1])]
    walk_at "zz"
    rw [fL _ (NT fs)]
    walk_at "zz"
    cases ha:((ls.map (NT fs)).all id) with
    |false =>
     refine ⟨false,?_,fun z=>by cases z⟩
     walk_at "zz"
    |true =>
     walk_at "zz"
     rw [BC ls l2 _ _ rfl]
     walk_at "zz"
     rw [jT]
     refine ⟨_,rfl,fun _=>⟨l1,l2,fun l hl=>(v4 (fs:=fs) (h.ok l hl)).2 ?_⟩⟩
     simp only [cj,Af] at ha
     exact ha _ ⟨l,hl,rfl⟩
   ·rw [decide_eq_true (show (6:Int)<(ls.length:Nat) by omega)]
    refine ⟨false,?_,fun z=>by cases z⟩
    walk_at "zz"
  ·rw [decide_eq_true (show (6:Int)<(fs.length:Nat) by omega)]
   refine ⟨false,?_,fun z=>by cases z⟩
   walk_at "zz"
theorem iB (sep:Str):∀ (r:List Str) (x:Str),(dz sep (x::r)).length=((x::r).map (·.length)).sum+r.length*sep.length
 |[],x=>by simp [dz]
 |y::r,x=>by
  have ih:=iB sep r y
  show (x++sep++dz sep (y::r)).length=_
  rw [bH,bH,ih]
  simp only [al,ck,aD,vk,vm]
  omega
theorem K_ (sep:Str) (xs:List Str):(dz sep xs).length<=(xs.map (·.length)).sum+xs.length*sep.length:=by
 cases xs with
 |nil=>exact bV _
 |cons x r =>
  rw [iB]
  simp only [aD,vk,vm]
  omega
theorem Ib (x:Str):((bv x " ").map (·.length)).sum+(bv x " ").length=x.length+1:=by
 have e:=StrLaws.join_split x " "
 obtain ⟨f,r,h⟩:=jU x " "
 rw [h] at e ⊢
 have:=iB " " r f
 rw [e,show (" " : Str).length=1 by decide] at this
 simp only [aD] at this ⊢
 omega
theorem Ms {x:Str} (h:ma 990 x):Al (Mr x):=by
 have hw:=Ib x
 have h2:=h.2
 have ok:=jC h " "
 obtain ⟨f,r,e⟩:=jU x " "
 have er:Mr x=r:=by unfold Mr;rw [e];rfl
 rw [er]
 rw [e] at hw ok
 simp only [al,ck,aD] at hw
 exact ⟨by omega,fun y hy=>(ok y (by simp [hy])).mono (by decide)⟩
theorem D6 (w:Str) {ps:List Str} (h:∀ p∈ps,ma 990 p):Al (KU w ps):=by
 unfold KU
 split
 ·rename_i p hp
  exact Ms (h p (List.mem_of_find?_eq_some hp))
 ·exact ⟨bV _,fun x hx=>nomatch hx⟩
theorem Q4 {x:Str} (h:ma 990 x):IN (I9 x):=by
 have ok:=jC h ", "
 obtain ⟨f,r,e⟩:=jU x ", "
 have e1:(bv x ", ").headD ""=f:=by rw [e];rfl
 have e2:(bv x ", ").tail=r:=by rw [e];rfl
 rw [e] at ok
 have okr:∀ p∈r,ma 990 p:=fun p hp=>ok p (by simp [hp])
 unfold I9
 simp only [e1,e2]
 exact ⟨(zP (ok f (by simp))).1.mono (by decide),D6 _ okr,D6 _ okr,D6 _ okr,D6 _ okr,_,rfl⟩
def qF (w:Str) (xs:List Str):List Str:=if xs.isEmpty then [] else [dz " " (w::xs)]
theorem Q5 (xs:List Str) (g:ak->R D) (ρ:ak) (h:g ρ=.ok (bA xs)):uQ g ρ=.ok (!xs.isEmpty):=by
 unfold uQ
 rw [h,bind_ok]
 cases xs<;>rfl
def D7 (l:n_) (i:Int):Str:=tW++l.name++" "++cf (toString i)
def nz (l:n_) (i:Int):List Str:=D7 l i::(qF "needs" l.needs++qF "bars" l.bars++qF "makes" l.makes++qF "ends" l.ends)
theorem o7 {w:Str}{xs ps:List Str}{e z2 z3:Sl} (hw:w.length<=10) (h:Al xs) (hp:ps.length<=10) :
  fM (uQ (rB 3)) (Bo 1 (oM " " (g2 (ej (J.af (rS 2) J.aQ) .tuple) (rB 3) cR))) (fun ρ=>.ok (.nx ρ)) [e,.own (.list (ps.map .str)),.shr (.str w),.shr (bA xs)]=.ok (.nx [e,.own (.list ((ps++qF w xs).map .str)),.shr (.str w),.shr (bA xs)]):=by
 rw [ND,Q5 xs _ _ rfl,gS]
 unfold qF
 cases hx:xs.isEmpty with
 |true =>
  simp only [jl,Bv,if_true,bW]
 |false =>
  simp only [iI,GK,bw,if_false]
  have hl:=h.wt
  have hj:oM " " (g2 (ej (J.af (rS 2) J.aQ) .tuple) (rB 3) cR) [e,.own (.list (ps.map .str)),.shr (.str w),.shr (bA xs)]=.ok (.str (dz " " (w::xs))):=by
   rw [y3]
   walk_at "zz"
   rw [if_pos (by omega)]
   walk_at "zz"
   have:=HY (z:=" ") (w::xs) (by rw [show (" " : Str).length=1 by decide];simp only [al,ck,aD];omega)
   rw [show iQ " " (w::xs)=dz " " (w::xs) from iJ _ _] at this
   exact this
  unfold Bo
  simp only [eX,mD,hj,bind_ok]
  rw [if_pos (by rw [au];omega)]
  simp
theorem Q6 (l:n_) (i:Int):CS ["needs","bars","makes","ends"] (IM (rB 0) (Ak (kI 1)) (Ak (kI 5))) [.shr (fj l),.own (.list [.str (D7 l i)]),.no,.no]=.ok [.tuple [.str "needs",bA l.needs],.tuple [.str "bars",bA l.bars],.tuple [.str "makes",bA l.makes],.tuple [.str "ends",bA l.ends]]:=id rfl
theorem Q7 {l:n_}{i:Int} (hn:l.name.length<=1000) (hp:l.price=.int i) (h0:0<=i) (h9:i<=9):PM " " (g2 (rB 0) (kI 0) bG) (g2 (rB 0) (kI 5) bG) [.shr (fj l),.no,.no,.no]=.ok (.str (D7 l i)):=by
 unfold PM
 rw [show g2 (rB 0) (kI 0) bG [.shr (fj l),.no,.no,.no]=.ok (.str l.name) from id rfl,bind_ok]
 simp only [if_pos hn]
 rw [show g2 (rB 0) (kI 5) bG [.shr (fj l),.no,.no,.no]=.ok l.price from id rfl,bind_ok,hp]
 simp only [if_pos (show 0<=i/\i<=9 from ⟨h0,h9⟩)]
 rfl
theorem nA (w:Str) (xs:List Str):(qF w xs).length<=1:=by unfold qF;split<;>simp
theorem sB {w:Str}{xs:List Str} (hw:w.length<=10) (h:Al xs):((qF w xs).map (·.length)).sum<=1010:=by
 unfold qF
 split
 ·exact bV _
 ·have:=iB " " xs w
  have:=h.wt
  simp only [al,dG,ck,List.sum_nil]
  rw [‹(dz _ _).length=_›,show (" " : Str).length=1 by decide]
  simp only [al,ck]
  omega
theorem D8 {w:Str}{xs:List Str} (hw:bP w=true) (h:Al xs):∀ x∈qF w xs,bP x=true:=by
 unfold qF
 split
 ·exact fun x hx=>nomatch hx
 ·intro x hx
  rw [List.mem_singleton.mp hx]
  exact ny (by decide +kernel) fun y hy=>by
   rcases List.mem_cons.mp hy with rfl|hy
   ·exact hw
   ·exact (h.ok y hy).1
theorem NU {i:Int} (h0:0<=i) (h9:i<=9):bP (cf (toString i))=true:=by
 have:i=0\/i=1\/i=2\/i=3\/i=4\/i=5\/i=6\/i=7\/i=8\/i=9:=by omega
 rcases this with rfl|rfl|rfl|rfl|rfl|rfl|rfl|rfl|rfl|rfl<;>decide +kernel
theorem Mt {l:n_}{i:Int} (h:ma 1000 l.name) (h0:0<=i) (h9:i<=9):ma 1002 (D7 l i):=by
 have e:ma 0 tW:=⟨(iA _).mpr fun c (hc:c∈Str.empty.cps.toList)=>(nomatch hc),ao _⟩
 have d:ma 1 (cf (toString i)):=⟨NU h0 h9,by rw [qv h0 h9];exact ao _⟩
 have s:ma 1 (" " : Str):=⟨by decide +kernel,by decide⟩
 exact (qB (qB (qB e h) s) d).mono (by decide)
theorem L3 {l:n_}{i:Int} (h:IN l) (hp:l.price=.int i) (h0:0<=i) (h9:i<=9):nV [fj l]=.ok (.str (dz ", " (nz l i))):=by
 have e1:=nA "needs" l.needs
 have e2:=nA "bars" l.bars
 have e3:=nA "makes" l.makes
 have w1:=sB (w:="needs") (by decide) h.needs
 have w2:=sB (w:="bars") (by decide) h.bars
 have w3:=sB (w:="makes") (by decide) h.makes
 have w4:=sB (w:="ends") (by decide) h.ends
 have e4:=nA "ends" l.ends
 have hh:=(Mt (i:=i) h.name h0 h9).2
 have t1:=o7 (w:="needs") (xs:=l.needs) (ps:=[D7 l i]) (e:=.shr (fj l)) (z2:=.no) (z3:=.no) (by decide) h.needs (by simp)
 have t2:=o7 (w:="bars") (xs:=l.bars) (ps:=[D7 l i]++qF "needs" l.needs) (e:=.shr (fj l)) (z2:=.no) (z3:=.no) (by decide) h.bars (by simp;omega)
 have t3:=o7 (w:="makes") (xs:=l.makes) (ps:=[D7 l i]++qF "needs" l.needs++qF "bars" l.bars) (e:=.shr (fj l)) (z2:=.no) (z3:=.no) (by decide) h.makes (by simp;omega)
 have t4:=o7 (w:="ends") (xs:=l.ends) (ps:=[D7 l i]++qF "needs" l.needs++qF "bars" l.bars++qF "makes" l.makes) (e:=.shr (fj l)) (z2:=.no) (z3:=.no) (by decide) h.ends (by simp;omega)
 have fr:iU (oA 2 (c_ (cD 2) (c_ (cD 3) qo))) (fM (uQ (rB 3)) (Bo 1 (oM " " (g2 (ej (J.af (rS 2) J.aQ) .tuple) (rB 3) cR))) (fun ρ=>.ok (.nx ρ))) [.tuple [.str "needs",bA l.needs],.tuple [.str "bars",bA l.bars],.tuple [.str "makes",bA l.makes],.tuple [.str "ends",bA l.ends]] [.shr (fj l),.own (.list [.str (D7 l i)]),.no,.no]=.ok (.nx [.shr (fj l),.own (.list ((nz l i).map .str)),.shr (.str "ends"),.shr (bA l.ends)]):=by
  have k:∀ (w:Str) (xs:List Str) (a b c d:Sl),oA 2 (c_ (cD 2) (c_ (cD 3) qo)) (.tuple [.str w,bA xs]) [a,b,c,d]=.ok [a,b,.shr (.str w),.shr (bA xs)]:=fun _ _ _ _ _ _=>id rfl
  unfold iU
  rw [k]
  simp only
  rw [show [ay (D7 l i)]=[D7 l i].map .str from rfl,t1]
  simp only
  unfold iU
  rw [k]
  simp only
  rw [t2]
  simp only
  unfold iU
  rw [k]
  simp only
  rw [t3]
  simp only
  unfold iU
  rw [k]
  simp only
  rw [t4]
  simp only
  unfold iU
  unfold nz
  simp only [tE,mZ,se]
 unfold nV
 refine c6 ?_
 unfold nU bt
 walk_at "zz"
 rw [Q7 h.name.2 hp h0 h9]
 walk_at "zz"
 rw [zE (h:=Q6 l i),fr]
 walk_at "zz"
 rw [y3]
 walk_at "zz"
 rw [HX]
 ·rw [show iQ ", " (nz l i)=dz ", " (nz l i) from iJ _ _]
  walk_at "zz"
 ·rw [show (", " : Str).length=2 by decide]
  unfold nz
  simp only [al,i4,ck,vn,aD,aY]
  omega
def Ic (l:n_):Int:=match l.price with
 |.int i=>i
 |_=>0
theorem Ie {l:n_} (h:pc l.price=true):l.price=.int (Ic l)/\0<=Ic l/\Ic l<=9:=by
 unfold pc at h
 unfold Ic
 split at h
 ·rename_i i e
  simp only [e,aB,decide_eq_true_eq] at h ⊢
  exact ⟨trivial,h.1,h.2⟩
 ·cases h
abbrev Mu (l:n_):Str:=dz ", " (nz l (Ic l))
def L5 (fs:List Str) (ls:List n_):Str:=dz "\n" (dz " " ("facts"::fs)::ls.map Mu)
theorem Mv {l:n_} (h:IN l) (hd:pc l.price=true):ma 6000 (Mu l):=by
 obtain ⟨_,h0,h9⟩:=Ie hd
 have e1:=nA "needs" l.needs
 have e2:=nA "bars" l.bars
 have e3:=nA "makes" l.makes
 have e4:=nA "ends" l.ends
 have w1:=sB (w:="needs") (by decide) h.needs
 have w2:=sB (w:="bars") (by decide) h.bars
 have w3:=sB (w:="makes") (by decide) h.makes
 have w4:=sB (w:="ends") (by decide) h.ends
 have hh:=Mt (i:=Ic l) h.name h0 h9
 refine ⟨ny (by decide +kernel) fun x hx=>?_,a_ (K_ _ _) ?_⟩
 ·unfold nz at hx
  rcases List.mem_cons.mp hx with rfl|hx
  ·exact hh.1
  ·rcases List.mem_append.mp hx with hx|hx
   ·rcases List.mem_append.mp hx with hx|hx
    ·rcases List.mem_append.mp hx with hx|hx
     ·exact D8 (by decide +kernel) h.needs x hx
     ·exact D8 (by decide +kernel) h.bars x hx
    ·exact D8 (by decide +kernel) h.makes x hx
   ·exact D8 (by decide +kernel) h.ends x hx
 ·have:=hh.2
  rw [show (", " : Str).length=2 by decide]
  unfold nz
  simp only [al,i4,ck,vn,aD,aY]
  omega
theorem BD (f:n_->Str) (n:Nat):∀ (ls:List n_),(∀ l∈ls,(f l).length<=n)->((ls.map f).map (·.length)).sum<=ls.length*n
 |[],_=>bV _
 |l::r,h=>by
  have h1:=h l (by simp)
  have h2:=BD f n r fun x hx=>h x (by simp [hx])
  simp only [al,ck,aD,vk,vm]
  omega
theorem D9 {fs:List Str}{ls:List n_} (h:KY fs ls) (h2:ls.length<=6) (hd:∀ l∈ls,pc l.price=true):iX [jd fs ls]=.ok (.str (L5 fs ls)):=by
 have hl:=h.fs.wt
 unfold iX
 refine c6 ?_
 unfold nW bt
 walk_at "zz"
 rw [y3]
 walk_at "zz"
 rw [show bG (jd fs ls) (.int 0)=.ok (bA fs) from id rfl]
 walk_at "zz"
 rw [if_pos (by omega)]
 walk_at "zz"
 have j1:=HY (z:=" ") ("facts"::fs) (by rw [show (" " : Str).length=1 by decide];simp only [al,ck,aD];rw [show ("facts" : Str).length=5 by decide];omega)
 rw [show iQ " " ("facts"::fs)=dz " " ("facts"::fs) from iJ _ _] at j1
 have j1':sy " " (.tuple (.str "facts"::fs.map .str))=.ok (.str (dz " " ("facts"::fs))):=j1
 rw [j1']
 walk_at "zz"
 rw [y3]
 walk_at "zz"
 rw [show bG (jd fs ls) (.int 1)=.ok (.tuple (ls.map fj)) from id rfl]
 walk_at "zz"
 rw [if_pos (by omega)]
 rw [c7 _ fj (fun l=>ay (Mu l)) ls fun e he=>cV rfl (by
  walk_at "zz"
  obtain ⟨p1,p2,p3⟩:=Ie (hd e he)
  rw [L3 (h.ok e he) p1 p2 p3])]
 walk_at "zz"
 rw [if_pos (by omega)]
 walk_at "zz"
 have hs:=BD Mu 6000 ls fun l hl=>(Mv (h.ok l hl) (hd l hl)).2
 have hf:=iB " " fs "facts"
 have j2:=HX (z:="\n") (dz " " ("facts"::fs)::ls.map Mu) (by
  rw [show ("\n" : Str).length=1 by decide]
  simp only [al,ck,aD,au] at hf hs ⊢
  rw [hf,show ("facts" : Str).length=5 by decide,show (" " : Str).length=1 by decide]
  have:ls.length*6000<=6*6000:=Dt _ h2
  omega)
 rw [show iQ "\n" (dz " " ("facts"::fs)::ls.map Mu)=L5 fs ls from iJ _ _] at j2
 simp only [al,cZ,Function.comp_def] at j2
 rw [j2]
 rfl
theorem Mw {fs:List Str}{ls:List n_} (h:KY fs ls) (hd:∀ l∈ls,pc l.price=true):bP (L5 fs ls)=true:=by
 refine ny (by decide +kernel) fun x hx=>?_
 rcases List.mem_cons.mp hx with rfl|hx
 ·refine ny (by decide +kernel) fun y hy=>?_
  rcases List.mem_cons.mp hy with rfl|hy
  ·decide +kernel
  ·exact (h.fs.ok y hy).1
 ·obtain ⟨l,hl,rfl⟩:=List.mem_map.mp hx
  exact (Mv (h.ok l hl) (hd l hl)).1
theorem qG {xs:List Str} (h:∀ x∈xs,bP x=true):bZ (xs.map .str)=true:=by
 induction xs with
 |nil=>rfl
 |cons x r ih =>
  have h1:(ay x).canLay0=true:=h x (by simp)
  simp only [al,bZ,h1,ih fun y hy=>h y (by simp [hy]),hJ]
theorem NV (x:Str):(D4 x).canLay0=true:=by unfold D4;split<;>rfl
theorem Q8 {l:n_} (h:IN l):(fj l).canLay0=true:=by
 obtain ⟨x,hx⟩:=h.price
 have hn:(ay l.name).canLay0=true:=h.name.1
 unfold fj
 simp only [eV,bZ] at hn ⊢
 rw [hn,qG fun y hy=>(h.needs.ok y hy).1,qG fun y hy=>(h.bars.ok y hy).1,qG fun y hy=>(h.makes.ok y hy).1,qG fun y hy=>(h.ends.ok y hy).1,hx,NV]
 rfl
theorem Q9 {fs:List Str}{ls:List n_} (h:KY fs ls):(jd fs ls).canLay0=true:=by
 unfold jd
 simp only [eV,bZ]
 rw [qG fun y hy=>(h.fs.ok y hy).1,zO fj ls fun e he=>Q8 (h.ok e he)]
 rfl
theorem NW {fs:List Str}{ls:List n_} (h:KY fs ls):lT true (jd fs ls) (.tuple [.str "refused",.int 10])=.ok (.bool true):=by
 unfold lT
 rw [Q9 h,show (cW [.str "refused",.int 10]).canLay0=true by decide +kernel,decide_eq_true (a_ (mJ _ _) (by decide))]
 rfl
def t5 (x:Str):List Str:=(bv ((bv x "\n").headD "") " ").drop 1
def t6 (x:Str):List n_:=((bv x "\n").tail).map I9
theorem Mx {x:Str} (h:ma 990 x):KY (t5 x) (t6 x):=by
 have ok:=jC h "\n"
 have hl:=lA x "\n"
 have h2:=h.2
 obtain ⟨f,r,e⟩:=jU x "\n"
 have e1:(bv x "\n").headD ""=f:=by rw [e];rfl
 have e2:(bv x "\n").tail=r:=by rw [e];rfl
 rw [e] at ok hl
 unfold t5 t6
 rw [e1,e2]
 refine ⟨?_,by rw [au];simp only [aD] at hl;omega,fun l hl=>?_⟩
 ·have:=Ms (ok f (by simp))
  unfold Mr at this
  rw [List.drop_one]
  exact this
 ·obtain ⟨y,hy,rfl⟩:=List.mem_map.mp hl
  exact Q4 (ok y (by simp [hy]))
theorem BE:("\n" : Str).length≠0:=by decide
theorem Ig (ds:List D):Bh (.list ds) (some 1) none=.ok (.list (ds.drop 1)):=by
 have e:Bh (.list ds) (some 1) none=.ok (.list (uy ds (some 1) none)):=rfl
 rw [e]
 cases ds with
 |nil=>rfl
 |cons x r =>
  rw [show (1:Int)=((1:Nat):Int) from rfl,Bz _ 1 (by simp)]
theorem Da {x:Str}{g:ak->R (List D)}{ρ:ak}{ds:List D} (h:g ρ=.ok ds) (hl:ds.length<=1000):nq x g ρ=.ex x none:=by
 unfold nq
 rw [h,bind_ok,if_pos hl]
theorem Ih {x:Str} (h:ma 990 x):lY [.str x]=.ex "NoText" none\/(lY [.str x]=.ok (jd (t5 x) (t6 x))/\fz [jd (t5 x) (t6 x)]=.ok (.bool true)/\iX [jd (t5 x) (t6 x)]=.ok (.str x)):=by
 have K:=Mx h
 have ok:=jC h "\n"
 have hl:=lA x "\n"
 have h2:=h.2
 obtain ⟨f,r,e⟩:=jU x "\n"
 have e1:(bv x "\n").headD ""=f:=by rw [e];rfl
 have e2:(bv x "\n").tail=r:=by rw [e];rfl
 rw [e] at ok hl
 simp only [aD] at hl
 have okf:=ok f (by simp)
 obtain ⟨b,hb,hc⟩:=Ex K
 cases b with
 |false =>
  refine .inl ?_
  unfold lY
  refine HE ?_
  unfold rN bt
  walk_at "zz"
  rw [nw,o_]
  walk_at "zz"
  rw [uZ,y0]
  walk_at "zz"
  rw [qC,gS,md,kE BE (by omega),gS,e,al,qD _ _ _ _ _ (by rw [au];omega)]
  walk_at "zz"
  rw [y0]
  walk_at "zz"
  rw [qC,gS,md,kE u_ (a_ okf.2 (by decide)),gS]
  walk_at "zz"
  rw [Ig,gS]
  walk_at "zz"
  rw [dL]
  walk_at "zz"
  rw [if_pos (by omega)]
  rw [c7 _ (fun y:Str=>ay y) (fun y=>fj (I9 y)) r fun y hy=>cV rfl (by
   walk_at "zz"
   rw [mf ((ok y (by simp [hy])).mono (by decide))])]
  walk_at "zz"
  rw [dL]
  walk_at "zz"
  have ek:cW [.tuple (((bv f " ").map ay).drop 1),.tuple (r.map fun y=>fj (I9 y))]=jd (t5 x) (t6 x):=by
   unfold jd t5 t6
   rw [e1,e2,cZ,<- pR]
   rfl
  rw [ek]
  rw [hb]
  walk_at "zz"
  rw [Da rfl (by decide)]
  rfl
 |true =>
  obtain ⟨l1,l2,hd⟩:=hc rfl
  have ht:=D9 K l2 hd
  have ho:=Mw K hd
  by_cases hx:L5 (t5 x) (t6 x)=x
  ·refine .inr ⟨?_,hb,by rw [ht,hx]⟩
   unfold lY
   refine c6 ?_
   unfold rN bt
   walk_at "zz"
   rw [nw,o_]
   walk_at "zz"
   rw [uZ,y0]
   walk_at "zz"
   rw [qC,gS,md,kE BE (by omega),gS,e,al,qD _ _ _ _ _ (by rw [au];omega)]
   walk_at "zz"
   rw [y0]
   walk_at "zz"
   rw [qC,gS,md,kE u_ (a_ okf.2 (by decide)),gS]
   walk_at "zz"
   rw [Ig,gS]
   walk_at "zz"
   rw [dL]
   walk_at "zz"
   rw [if_pos (by omega)]
   rw [c7 _ (fun y:Str=>ay y) (fun y=>fj (I9 y)) r fun y hy=>cV rfl (by
    walk_at "zz"
    rw [mf ((ok y (by simp [hy])).mono (by decide))])]
   walk_at "zz"
   rw [dL]
   walk_at "zz"
   have ek:cW [.tuple (((bv f " ").map ay).drop 1),.tuple (r.map fun y=>fj (I9 y))]=jd (t5 x) (t6 x):=by
    unfold jd t5 t6
    rw [e1,e2,cZ,<- pR]
    rfl
   rw [ek]
   rw [hb]
   walk_at "zz"
   rw [ht]
   walk_at "zz"
   rw [x_ true ho h.1,hx]
   walk_at "zz"
  ·refine .inl ?_
   unfold lY
   refine HE ?_
   unfold rN bt
   walk_at "zz"
   rw [nw,o_]
   walk_at "zz"
   rw [uZ,y0]
   walk_at "zz"
   rw [qC,gS,md,kE BE (by omega),gS,e,al,qD _ _ _ _ _ (by rw [au];omega)]
   walk_at "zz"
   rw [y0]
   walk_at "zz"
   rw [qC,gS,md,kE u_ (a_ okf.2 (by decide)),gS]
   walk_at "zz"
   rw [Ig,gS]
   walk_at "zz"
   rw [dL]
   walk_at "zz"
   rw [if_pos (by omega)]
   rw [c7 _ (fun y:Str=>ay y) (fun y=>fj (I9 y)) r fun y hy=>cV rfl (by
    walk_at "zz"
    rw [mf ((ok y (by simp [hy])).mono (by decide))])]
   walk_at "zz"
   rw [dL]
   walk_at "zz"
   have ek:cW [.tuple (((bv f " ").map ay).drop 1),.tuple (r.map fun y=>fj (I9 y))]=jd (t5 x) (t6 x):=by
    unfold jd t5 t6
    rw [e1,e2,cZ,<- pR]
    rfl
   rw [ek]
   rw [hb]
   walk_at "zz"
   rw [ht]
   walk_at "zz"
   rw [x_ true ho h.1,decide_eq_false hx]
   walk_at "zz"
   rw [Da rfl (by decide)]
   rfl
theorem sq {a b:ak->R Fl}{ρ ρ':ak}{r:R Fl} (h1:a ρ=.ok (.nx ρ')) (h2:b ρ'=r):bj a b ρ=r:=by
 unfold bj
 rw [h1]
 exact h2
theorem My {g:ak->R D}{ρ:ak}{d:D} (h:g (dR ρ)=.ok d):eA g ρ=.ok (.rt d):=by
 unfold eA
 rw [h]
 rfl
theorem mI {ga gb:ak->R D}{h:D->D->R D}{ρ:ak}{x y d:D} (h1:ga ρ=.ok x) (h2:gb ρ=.ok y) (h3:h x y=.ok d):g2 ga gb h ρ=.ok d:=by
 unfold g2
 rw [h1,bind_ok,h2,bind_ok,h3]
theorem ki {n:Nat}{F:List D->R D}{gs:ak->R (List D)}{ρ:ak}{ds:List D}{r:R D} (h1:gs ρ=.ok ds) (h2:ds.length=n) (h3:F ds=r):gK n F gs ρ=r:=by
 unfold gK
 rw [h1,bind_ok,if_pos h2,h3]
theorem rP {i:Nat}{g:ak->R D}{ρ:ak}{d:D} (h:g ρ=.ok d):i8 i g ρ=.ok (.nx (ρ.set i (.shr d))):=by
 unfold i8
 rw [h]
 rfl
theorem qH {g:ak->R D}{gs:ak->R (List D)}{ρ:ak}{d:D}{ds:List D} (h:g ρ=.ok d) (h2:gs ρ=.ok ds):J.af g gs ρ=.ok (d::ds):=by
 unfold J.af
 rw [h,bind_ok,h2]
 rfl
def zT (e:yA):n_:=⟨e.name,e.needs,e.bars,e.makes,e.ends,.int e.price⟩
theorem Db {x:Str} (h:uS x=true):ma 6 x:=by
 refine ⟨tN h,?_⟩
 unfold uS at h
 simp only [aB,decide_eq_true_eq] at h
 exact h.1.2.1
theorem Mz:∀ (xs:List Str),(∀ x∈xs,ma 6 x)->(xs.map (·.length)).sum<=xs.length*6
 |[],_=>bV _
 |x::r,h=>by
  have h1:=(h x (by simp)).2
  have h2:=Mz r fun y hy=>h y (by simp [hy])
  simp only [al,ck,aD,vk,vm]
  omega
theorem y6 {xs:List Str}{n:Nat} (hl:xs.length<=n) (hn:n<=6) (h:∀ x∈xs,uS x=true):Al xs/\(xs.map (·.length)).sum+xs.length<=7*n:=by
 have w:=Mz xs fun x hx=>Db (h x hx)
 exact ⟨⟨by omega,fun x hx=>(Db (h x hx)).mono (by decide)⟩,by omega⟩
theorem L6 {fs:List Str}{n:Nat} (hl:fs.length<=n) (hn:n<=6) (hf:∀ x∈fs,uS x=true) {e:yA} (g:mH fs e):IN (zT e):=by
 have s:∀ xs,HL fs xs->Al xs:=fun xs h=>(y6 (a_ (rO xs fs (kC h.up) h.mem) hl) hn fun x hx=>hf x (h.mem x hx)).1
 refine ⟨(Db g.name).mono (by decide),s _ g.needs,s _ g.bars,s _ g.makes,s _ g.ends,?_⟩
 have d:∀ i:_root_.Fin 10,ev (i.val:Int)=D4 (cf (toString (i.val:Int))):=by
  intro i
  have h1:(cf (toString (i.val:Int))).length=1:=qv (by omega) (by omega)
  unfold D4
  rw [if_pos h1]
  have:∀ i:_root_.Fin 10,(i.val:Int)=xi "0123456789" (cf (toString (i.val:Int))):=by decide +kernel
  rw [<- this i]
 have p0:=g.p0
 have p9:=g.p9
 have:=d ⟨e.price.toNat,by omega⟩
 refine ⟨_,Eq.trans ?_ this⟩
 show ev e.price=.int ((e.price.toNat:Nat):Int)
 rw [cn p0]
theorem zU {fs:List Str}{e:yA} (g:mH fs e):pc (zT e).price=true:=by
 show (decide (0<=e.price)&&decide (e.price<=9))=true
 rw [decide_eq_true g.p0,decide_eq_true g.p9]
 rfl
theorem Ii (fs:List Str) (es:List yA):jd fs (es.map zT)=vO fs es:=by
 unfold jd vO
 rw [cZ]
 rfl
theorem zV {fs:List Str}{es:List yA} (g:wS fs es):KY fs (es.map zT):=by
 refine ⟨(y6 g.rise.len (by decide) g.rise.ok).1,by rw [au];have:=g.len;omega,fun l hl=>?_⟩
 obtain ⟨e,he,rfl⟩:=List.mem_map.mp hl
 exact L6 g.rise.len (by decide) g.rise.ok (g.ok e he)
theorem Ij {fs:List Str}{ls:List n_} (h:KY fs ls) (h2:ls.length<=6) (hd:∀ l∈ls,pc l.price=true) (hb:fz [jd fs ls]=.ok (.bool true)):jv [jd fs ls]=.ok (.str (L5 fs ls)):=by
 have hc:jB [jd fs ls]=.ok (jd fs ls):=by
  unfold jB
  refine c6 ?_
  unfold lB bt
  walk_at "zz"
  rw [hb]
  walk_at "zz"
 unfold jv
 refine c6 ?_
 unfold qx bt
 walk_at "zz"
 rw [hc]
 walk_at "zz"
 rw [D9 h h2 hd]
 walk_at "zz"
theorem y7 {w:Str}{xs:List Str}{n:Nat} (hw:w.length<=5) (h:(xs.map (·.length)).sum+xs.length<=n):((qF w xs).map (·.length)).sum+(qF w xs).length*2<=n+7:=by
 unfold qF
 split
 ·exact bV _
 ·have:=iB " " xs w
  simp only [al,dG,ck,List.sum_nil,aD,eJ]
  rw [this,show (" " : Str).length=1 by decide]
  simp only [al,ck]
  omega
theorem NX {fs:List Str} (hl:fs.length<=5) (hf:∀ x∈fs,uS x=true) {e:yA} (g:mH fs e):(Mu (zT e)).length<=176:=by
 have s:∀ xs,HL fs xs->(xs.map (·.length)).sum+xs.length<=35:=fun xs h=>(y6 (a_ (rO xs fs (kC h.up) h.mem) hl) (by decide) fun x hx=>hf x (h.mem x hx)).2
 have w1:=y7 (w:="needs") (by decide) (s _ g.needs)
 have w2:=y7 (w:="bars") (by decide) (s _ g.bars)
 have w3:=y7 (w:="makes") (by decide) (s _ g.makes)
 have w4:=y7 (w:="ends") (by decide) (s _ g.ends)
 have hn:=(Db g.name).2
 have hh:(D7 (zT e) (Ic (zT e))).length<=8:=by
  unfold D7
  rw [bH,bH,bH,qv (show 0<=Ic (zT e) from g.p0) (show Ic (zT e)<=9 from g.p9),show Str.empty.length=0 from rfl,show (" " : Str).length=1 by decide]
  show 0+e.name.length+1+1<=8
  omega
 show (dz ", " (nz (zT e) (Ic (zT e)))).length<=176
 unfold nz
 rw [iB,show (", " : Str).length=2 by decide]
 show ((D7 (zT e) (Ic (zT e))::(qF "needs" e.needs++qF "bars" e.bars++qF "makes" e.makes++qF "ends" e.ends)).map (·.length)).sum+(qF "needs" e.needs++qF "bars" e.bars++qF "makes" e.makes++qF "ends" e.ends).length*2<=176
 simp only [al,i4,ck,vn,aY]
 omega
theorem L7 {fs:List Str}{es:List yA} (g:wS fs es) (h5:fs.length<=5) (h4:es.length<=4):ma 800 (L5 fs (es.map zT)):=by
 refine ⟨Mw (zV g) fun l hl=>?_,?_⟩
 ·obtain ⟨e,he,rfl⟩:=List.mem_map.mp hl
  exact zU (g.ok e he)
 ·have hs:=BD Mu 176 (es.map zT) fun l hl=>by
   obtain ⟨e,he,rfl⟩:=List.mem_map.mp hl
   exact NX h5 g.rise.ok (g.ok e he)
  have hf:=iB " " fs "facts"
  have w:=(y6 h5 (by decide) g.rise.ok).2
  unfold L5
  rw [iB,show ("\n" : Str).length=1 by decide]
  simp only [al,ck,au] at hs hf ⊢
  rw [hf,show ("facts" : Str).length=5 by decide,show (" " : Str).length=1 by decide]
  have:es.length*176<=4*176:=Dt _ h4
  omega
theorem Ik {x:D} (h:lY [x]=.ex "NoText" none):eM [x]=.ok (.tuple [.str "refused",.int 10]):=by
 unfold eM
 refine c6 ?_
 unfold jS bt E8
 walk_at "zz"
 rw [h]
 rfl
theorem Il {x y:D} (h:lY [x]=.ok y):eM [x]=.ok y:=by
 unfold eM
 refine c6 ?_
 unfold jS bt E8
 walk_at "zz"
 rw [h]
 rfl
theorem Im {d:D}{t:Str} (hb:fz [d]=.ok (.bool true)) (ht:iX [d]=.ok (.str t)):jv [d]=.ok (.str t):=by
 have hc:jB [d]=.ok d:=by
  unfold jB
  refine c6 ?_
  unfold lB bt
  walk_at "zz"
  rw [hb]
  walk_at "zz"
 unfold jv
 refine c6 ?_
 unfold qx bt
 walk_at "zz"
 rw [hc]
 walk_at "zz"
 rw [ht]
 walk_at "zz"
def v5:Nat->Str
 | 0=>""
 | 1=>" "
 | 2=>","
 | 3=>", "
 | 4=>"\n"
 | 5=>"0"
 | 6=>"a"
 | 7=>" a"
 | 8=>"A"
 | 9=>", needs a"
 | 10=>", ends"
 |_=>"facts"
theorem L8:∀ i:_root_.Fin 12,(bP (v5 i.val)&&decide ((v5 i.val).length<=9))=true:=by decide +kernel
theorem NY (i:_root_.Fin 12):ma 9 (v5 i.val):=by
 have:=L8 i
 simp only [aB,decide_eq_true_eq] at this
 exact this
theorem NZ (i:_root_.Fin 12):bG (.list [.str "",.str " ",.str ",",.str ", ",.str "\n",.str "0",.str "a",.str " a",.str "A",.str ", needs a",.str ", ends",.str "facts"]) (.int (i.val:Int))=.ok (.str (v5 i.val)):=by
 match i with
 |⟨0,_⟩=>exact id rfl
 |⟨1,_⟩=>exact id rfl
 |⟨2,_⟩=>exact id rfl
 |⟨3,_⟩=>exact id rfl
 |⟨4,_⟩=>exact id rfl
 |⟨5,_⟩=>exact id rfl
 |⟨6,_⟩=>exact id rfl
 |⟨7,_⟩=>exact id rfl
 |⟨8,_⟩=>exact id rfl
 |⟨9,_⟩=>exact id rfl
 |⟨10,_⟩=>exact id rfl
 |⟨11,_⟩=>exact id rfl
 |⟨n+12,h⟩=>omega
def Ru:List D:=[.str "",.str "fact a",.str "facts b a",.str "facts a a",.str "facts a\n",.str "facts a\nx",.str "facts a\nx 10",.none,.int 5,.str "facts a\nx 1,needs a",.str "facts a\nx 1, needs",.str "facts a\nx 1, makes a, needs a",.str "facts  a",.str "facts a\nx 1, needs a, needs a",.str "facts a\nx 1, needs b",.str "facts a\nx 1\nx 2",.str "facts A",.str " facts a",.str "facts a\nx 1, wants a",.list [.str "facts"]]
theorem Io (i:_root_.Fin 20):bG (.list Ru) (.int (i.val:Int))=.ok (Q1 i.val):=by
 match i with
 |⟨0,_⟩=>exact id rfl
 |⟨1,_⟩=>exact id rfl
 |⟨2,_⟩=>exact id rfl
 |⟨3,_⟩=>exact id rfl
 |⟨4,_⟩=>exact id rfl
 |⟨5,_⟩=>exact id rfl
 |⟨6,_⟩=>exact id rfl
 |⟨7,_⟩=>exact id rfl
 |⟨8,_⟩=>exact id rfl
 |⟨9,_⟩=>exact id rfl
 |⟨10,_⟩=>exact id rfl
 |⟨11,_⟩=>exact id rfl
 |⟨12,_⟩=>exact id rfl
 |⟨13,_⟩=>exact id rfl
 |⟨14,_⟩=>exact id rfl
 |⟨15,_⟩=>exact id rfl
 |⟨16,_⟩=>exact id rfl
 |⟨17,_⟩=>exact id rfl
 |⟨18,_⟩=>exact id rfl
 |⟨19,_⟩=>exact id rfl
 |⟨n+20,h⟩=>omega
theorem Ip {j:Int}{n:Nat} (h0:0<=j) (h1:j<n):∃ i:_root_.Fin n,j=(i.val:Int):=⟨⟨j.toNat,by omega⟩,(cn h0).symm⟩
def Qa:R D->Bool
 |.ok (.bool b)=>b
 |_=>false
theorem L9 {r:R D} (h:Qa r=true):r=.ok (.bool true):=by
 unfold Qa at h
 split at h
 ·rw [h]
 ·cases h
theorem Iq:lT false (.tuple [.str "refused",.int 10]) (.tuple [.str "refused",.int 10])=.ok (.bool true):=L9 (by decide +kernel)
def MA:R D->Bool
 |.ok (.bool b)=>!b
 |_=>false
theorem Ir {r:R D} (h:MA r=true):r=.ok (.bool false):=by
 unfold MA at h
 split at h
 ·simp only [si] at h;rw [h]
 ·cases h
theorem N_:lT true (.tuple [.str "refused",.int 10]) (.tuple [.str "refused",.int 10])=.ok (.bool false):=Ir (by decide +kernel)
theorem O0 {z:Str}{l u:Option Int} (h:z.length<=1000):Rr (.str z) l u=.ok (.str (dS z l u)):=if_pos h
theorem MB {x y:Str} (h:x.length+y.length<=1000):cR (.str x) (.str y)=.ok (.str (x++y)):=if_pos h
theorem Is {g:ak->R D}{ρ:ak}{i:Int} (h:g ρ=.ok (.int i)):Ak g ρ=.ok (some i):=by
 unfold Ak
 rw [h]
 rfl
theorem Iu {g:ak->R D}{gl gh:ak->R (Option Int)}{ρ:ak}{z:Str}{l u:Option Int} (h1:g ρ=.ok (.str z)) (h2:gl ρ=.ok l) (h3:gh ρ=.ok u) (h:z.length<=1000):Ef g gl gh ρ=.ok (.str (dS z l u)):=by
 unfold Ef
 rw [h1,bind_ok,h2,bind_ok,h3,bind_ok,O0 h]
theorem MC {t:ak->R Bool}{g h:ak->R Fl}{ρ:ak} (e:t ρ=.ok false):fM t g h ρ=h ρ:=by
 unfold fM
 rw [e]
 rfl
theorem BF {g:ak->R D}{ρ:ak}{b:Bool} (h:g ρ=.ok (.bool b)):iD g ρ=.ok b:=by
 unfold iD
 rw [h]
 rfl
theorem O1 {a b:ak->R Bool}{ρ:ak} (h:a ρ=.ok false):sY a b ρ=.ok false:=by
 unfold sY
 rw [h]
 rfl
theorem La {a b:ak->R Bool}{ρ:ak}{r:R Bool} (h:a ρ=.ok true) (h2:b ρ=r):sY a b ρ=r:=by
 unfold sY
 rw [h]
 exact h2
theorem MD (x:Str) (l u:Option Int):(dS x l u).length<=(cJ l u 1 x.length).length:=by
 unfold dS
 split
 ·rename_i h
  simp only [aB,beq_iff_eq] at h
  omega
 ·show (List.filterMap _ (cJ l u 1 x.length)).toArray.size<=_
  rw [ax]
  exact List.length_filterMap_le _ _
theorem O3 (x:Str) {p q:Int} (h0:0<=p) (h1:p<=q):(dS x none (some p)).length+(dS x (some q) none).length<=x.length:=by
 have a:=MD x none (some p)
 have b:=MD x (some q) none
 have a':(cJ none (some p) 1 x.length).length<=(max 0 (min p x.length)).toNat:=by
  unfold cJ sliceRange
  simp only [show (1:Int) > 0 by decide,if_true,au,fW]
  split<;>(try split)<;>(try simp only [Av])<;>omega
 have b':(cJ (some q) none 1 x.length).length<=(x.length-max 0 (min q x.length)).toNat:=by
  unfold cJ sliceRange
  simp only [show (1:Int) > 0 by decide,if_true,au,fW]
  split<;>(try split)<;>(try simp only [Av])<;>omega
 omega
theorem law_true (ns:List Int):F_law [.list (ns.map .int)]=.ok (.bool true):=by
 obtain ⟨fs,es,hb,gb,hf,he⟩:=KQ ns 100 (by decide) 5 4 (by decide) (by decide) (by decide) (by decide)
 have hK:=zV gb
 have hs:jv [vO fs es]=.ok (.str (L5 fs (es.map zT))):=by
  rw [<- Ii]
  refine Ij hK (by rw [au];exact gb.len) (fun l hl=>?_) (by rw [Ii];exact Ep gb)
  obtain ⟨e,he,rfl⟩:=List.mem_map.mp hl
  exact zU (gb.ok e he)
 have hT:=L7 gb hf he
 generalize L5 fs (es.map zT)=T at hs hT
 obtain ⟨i1,hi1⟩:=Ip (n:=12) (dI ns 1 12 (by decide)) (eQ ns 1 12 (by decide))
 obtain ⟨i3,hi3⟩:=Ip (n:=20) (dI ns 3 20 (by decide)) (eQ ns 3 20 (by decide))
 have m1:=eN ns 1 12 (by decide) (by decide)
 have m3:=eN ns 3 20 (by decide) (by decide)
 have m2:=eN ns 2 3 (by decide) (by decide)
 have m0:=eN ns 0 ((T.length:Nat)+1) (by decide) (by omega)
 rw [hi1] at m1
 rw [hi3] at m3
 have hbad:=Es (HW i3)
 have hlen:T.length<=1000:=a_ hT.2 (by decide)
 generalize hU:dS T none (some (e6 ns 0 ((T.length:Nat)+1)))++v5 i1.val++dS T (some (e6 ns 0 ((T.length:Nat)+1)+e6 ns 2 3)) none=U
 have hp0:=dI ns 0 ((T.length:Nat)+1) (by omega)
 have hp2:=dI ns 2 3 (by decide)
 have hsl:=O3 T hp0 (show e6 ns 0 ((T.length:Nat)+1)<=e6 ns 0 ((T.length:Nat)+1)+e6 ns 2 3 by omega)
 have hsg:=NY i1
 have l2:=hsg.2
 have l1:=hT.2
 have okU:ma 990 U:=by
  rw [<- hU]
  refine ⟨(qB (qB (wX hT _ _) hsg) (wX hT _ _)).1,?_⟩
  rw [bH,bH]
  omega
 have hrd:(eM [.str U]=.ok (.tuple [.str "refused",.int 10])/\True)\/∃ d,eM [.str U]=.ok d/\lT true d (.tuple [.str "refused",.int 10])=.ok (.bool true)/\jv [d]=.ok (.str U):=by
  rcases Ih okU with h|⟨h1,h2,h3⟩
  ·exact .inl ⟨Ik h,trivial⟩
  ·exact .inr ⟨_,Il h1,NW (Mx okU),Im h2 h3⟩
 unfold F_law
 refine c6 ?_
 unfold CT
 refine sq (rP (ki rfl rfl hb)) (sq (rP (ki rfl rfl hs)) (sq (rP (ki (ds:=[.list (ns.map .int),.int 0,.int ((T.length:Nat)+1)]) ?_ rfl m0)) (sq rfl (sq (rP (d:=.str U) ?_) ?_))))
 ·refine qH rfl (qH rfl (qH (mI (x:=.int (T.length:Nat)) ?_ rfl rfl) rfl))
  show jm lu [.str T]=_
  exact if_pos hlen
 ·refine mI (x:=.str (dS T none (some (e6 ns 0 ((T.length:Nat)+1)))++v5 i1.val)) (y:=.str (dS T (some (e6 ns 0 ((T.length:Nat)+1)+e6 ns 2 3)) none)) (mI (x:=.str (dS T none (some (e6 ns 0 ((T.length:Nat)+1))))) (y:=.str (v5 i1.val)) ?_ (mI rfl (ki rfl rfl m1) (NZ i1)) (MB (by omega))) ?_ ?_
  ·exact Iu rfl rfl (Is rfl) hlen
  ·exact Iu rfl (Is (mI rfl (ki rfl rfl m2) rfl)) rfl hlen
  ·rw [MB (by rw [bH];omega),hU]
 rcases hrd with ⟨h1,_⟩|⟨d,h1,h2,h3⟩
 ·refine sq (rP (ki rfl rfl h1)) (sq (MC (O1 (BF (mI rfl rfl N_)))) (sq rfl (sq rfl (sq rfl (sq rfl (My (mI (ki (qH (mI rfl (ki rfl rfl m3) (Io i3)) rfl) rfl hbad) rfl Iq)))))))
 ·refine sq (rP (ki rfl rfl h1)) (sq (MC (La (BF (mI rfl rfl h2)) (BF (mI (ki rfl rfl h3) rfl ?_)))) (sq rfl (sq rfl (sq rfl (sq rfl (My (mI (ki (qH (mI rfl (ki rfl rfl m3) (Io i3)) rfl) rfl hbad) rfl Iq)))))))
  rw [x_ true okU.1 okU.1]
  simp
end Z
end
namespace Z
open PySem L2 J
section
def tf (i:Nat):dC:=PySem.Challenge.pw_errands_k36_texts_refused.main.body.getD i (.Pass ⟨0,0,0,0⟩)
section
variable {e:En}
abbrev nC:dC:=tf 44
def zW:List Str:=["NoBook","NoState","NoWant","NoErrand","NoRow","NoWay","NoPaper","NoFacts","NoNumber","Nothing","NoText"]
theorem qI:bK ["_law_e","_law_own"] ["_law_e"] (aC nC):=fo (by decide +kernel)
theorem vP {f:aa}{fd:cY} (F:Aj e.K "_law_which" "_law_which" nC f fd) (B:Bi e.mg) (mv:e.mg "ValueError"=none) (mc:∀ n∈zW,e.mg n=some (.ref (e.cls n))):zb e.P e.w e.K e.mg e.base 1 f fd ["_law_e"] (Ny e.K e.base e.cls zW):=by
 refine F.okH qI (fun vs H Q E h=>?_) (fun cdv A outer s H vs Q E hr h=>?_)
 ·obtain ⟨_,_,_,rfl,_⟩:=h;rfl
 obtain ⟨ea,C,j,rfl,hH,x,q⟩:=h
 refine ⟨_,il (xn (i:=1) qI.nd rfl (eP rfl) (kS (bC (jO (names:=zW) (cls:=e.cls) (base:=e.base) (pv 0) rfl B.isinstance rfl (mc "NoBook" (by decide +kernel))) (bC (jO (names:=zW) (cls:=e.cls) (base:=e.base) (pv 0) rfl B.isinstance rfl (mc "NoState" (by decide +kernel))) (bC (jO (names:=zW) (cls:=e.cls) (base:=e.base) (pv 0) rfl B.isinstance rfl (mc "NoWant" (by decide +kernel))) (bC (jO (names:=zW) (cls:=e.cls) (base:=e.base) (pv 0) rfl B.isinstance rfl (mc "NoErrand" (by decide +kernel))) dD))))))
  (il (pT (ue cP kP kQ wq (pv 1) (bC (kS (bC (jO (names:=zW) (cls:=e.cls) (base:=e.base) (pv 0) rfl B.isinstance rfl (mc "NoRow" (by decide +kernel))) (bC (jO (names:=zW) (cls:=e.cls) (base:=e.base) (pv 0) rfl B.isinstance rfl (mc "NoWay" (by decide +kernel))) (bC (jO (names:=zW) (cls:=e.cls) (base:=e.base) (pv 0) rfl B.isinstance rfl (mc "NoPaper" (by decide +kernel))) (bC (jO (names:=zW) (cls:=e.cls) (base:=e.base) (pv 0) rfl B.isinstance rfl (mc "NoFacts" (by decide +kernel))) dD))))) dD)))
  (il (pT (ue cP kP kQ wq (pv 1) (bC (kS (bC (jO (names:=zW) (cls:=e.cls) (base:=e.base) (pv 0) rfl B.isinstance rfl (mc "NoNumber" (by decide +kernel))) (bC (jO (names:=zW) (cls:=e.cls) (base:=e.base) (pv 0) rfl B.isinstance rfl (mc "Nothing" (by decide +kernel))) (bC (jO (names:=zW) (cls:=e.cls) (base:=e.base) (pv 0) rfl B.isinstance rfl (mc "NoText" (by decide +kernel))) dD)))) dD)))
  (il (Lg (PW.pt (Lf (C2 Os (ue cP w9 PySem.F.type_list_count DS (pv 1) (bC Fd dD)) Fc (AS _)) (Fg (Fh (Ff (Ki (names:=zW) (cls:=e.cls) (base:=e.base) (pv 0) rfl B.isinstance rfl mv)))))) l8 C1)
  (xl (AL (Fy (bC AK (bC (ue cP wa PySem.F.type_list_index DT (pv 1) (bC Fd dD)) dD)))))))),?_⟩
 refine ⟨ea,C,j,0,rfl,hH,x,rfl,ea,C,j,1,rfl,hH,x,rfl,ea,C,j,2,rfl,hH,x,rfl,ea,C,j,3,rfl,hH,x,rfl,bd (c8 (show 4<=1000 by decide)),fun p hp=>?_⟩
 have np:ea≠p:=aS hH hp
 have hH1:∀ o,upd H p o ea=some (uq ea C):=fun o=>by rw [aJ np];exact hH
 refine ⟨_,rfl,.inl ⟨rfl,_,.of aK⟩,?_⟩
 refine ⟨ea,C,j,4,rfl,hH1 _,x,rfl,ea,C,j,5,rfl,hH1 _,x,rfl,ea,C,j,6,rfl,hH1 _,x,rfl,ea,C,j,7,rfl,hH1 _,x,rfl,bd (c8 (show 4<=1000 by decide)),fun p2 hp2=>?_⟩
 have np2:p≠p2:=aS aK hp2
 have ne2:ea≠p2:=aS (hH1 _) hp2
 refine ⟨p,p2,([decide (0=j),decide (1=j),decide (2=j),decide (3=j)].map V.bl),_,rfl,rfl,by rw [aJ np2];exact aK,aK,bd (c8 (show 8<=1000 by decide)),?_⟩
 have hH2:∀ o u,upd (upd (upd H p o) p2 u) p (.lst (([decide (0=j),decide (1=j),decide (2=j),decide (3=j)]++[decide (4=j),decide (5=j),decide (6=j),decide (7=j)]).map V.bl)) ea=some (uq ea C):=fun o u=>by rw [aJ np,aJ ne2];exact hH1 _
 refine ⟨_,rfl,.inl ⟨rfl,_,.of aK⟩,?_⟩
 refine ⟨ea,C,j,8,rfl,hH2 _ _,x,rfl,ea,C,j,9,rfl,hH2 _ _,x,rfl,ea,C,j,10,rfl,hH2 _ _,x,rfl,bd (c8 (show 3<=1000 by decide)),fun p3 hp3=>?_⟩
 have np3:p≠p3:=aS aK hp3
 have ne3:ea≠p3:=aS (hH2 _ _) hp3
 refine ⟨p,p3,(([decide (0=j),decide (1=j),decide (2=j),decide (3=j)]++[decide (4=j),decide (5=j),decide (6=j),decide (7=j)]).map V.bl),_,rfl,rfl,by rw [aJ np3];exact aK,aK,bd (c8 (show 11<=1000 by decide)),?_⟩
 refine ⟨_,rfl,.inl ⟨rfl,_,.of aK⟩,p,s_ j,rfl,rfl,.of aK,?_⟩
 rw [Bt j x.lt]
 refine ⟨rfl,_,rfl,vF ⟨ea,C,j,rfl,?_,x,_,rfl,vF ?_⟩⟩
 ·rw [aJ np,aJ ne3];exact hH2 _ _
 obtain ⟨b1,b2⟩:=Kh j x.lt
 refine ⟨_,rfl,.inl ⟨rfl,_,.of aK⟩,p,s_ j,j,rfl,rfl,.of aK,b1,b2,bd (az x.lt (by decide)),bd (c8 (show 2<=1000 by decide)),fun t ht=>?_⟩
 have s1:cK H _:=gO (o:=.lst ([decide (0=j),decide (1=j),decide (2=j),decide (3=j)].map V.bl)) hp
 have hpn:∀ b o,H b=some o->b≠p:=fun b o e=>aS e hp
 have hp2n:∀ b o,H b=some o->b≠p2:=fun b o e=>aS (s1 b o e) hp2
 have hp3n:∀ b o,H b=some o->b≠p3:=fun b o e=>aS (by rw [aJ (hpn b o e),aJ (hp2n b o e)];exact s1 b o e) hp3
 have old:∀ b o,H b=some o->b≠t:=fun b o e=>aS (by rw [aJ (hpn b o e),aJ (hp3n b o e),aJ (hpn b o e),aJ (hp2n b o e)];exact s1 b o e) ht
 refine q t _ (fun b o e=>?_) ?_ aK
 ·rw [aJ (old b o e),aJ (hpn b o e),aJ (hp3n b o e),aJ (hpn b o e),aJ (hp2n b o e)];exact s1 b o e
 ·cases z:H t with
  |none=>rfl
  |some o=>exact (old t o z rfl).elim
abbrev jx:dC:=tf 18
abbrev qJ:List Str:=["one","other"]
theorem vQ:bK qJ ["one","other"] (aC jx):=fo (by decide +kernel)
abbrev qK (e:En):=FN e "share_none" 1 2 eG
theorem vR (D:js e.K e.mg "share_none" jx) (B:Bi e.mg):qK e:=uO (k:=0) (g:=iy) D vQ b2 fun _ _ _ _ _ _ _ hr=>by unfold iy;exact (b6 (c9 (Np (cA (Nt rfl) rfl B.any PyProof.Rows.boot_any (bF (JE.bor (JN.je (iu (N':=["fact","other"]) (ix:=[1]) 1 (by decide) rfl (cX (so:=aC jx) (N:=qJ) (by decide +kernel)) (ir (ah 0)) (fun cl A0 s0 H0 ex pn=>⟨dH (i:=0) (by show (["fact","other"] : List Str).Nodup;decide +kernel) rfl (.inl rfl),fK,(uw (LB) (ah 0) (ah 1))⟩)))) cr)))))
abbrev o8:dC:=tf 19
abbrev wY:List Str:=["thing"]
theorem BG:bK wY ["thing"] (aC o8):=fo (by decide +kernel)
abbrev rQ (e:En):=FN e "is_word" 1 1 fv
theorem BH (D:js e.K e.mg "is_word" o8) (B:Bi e.mg) (jV:Cn e.mg "MOST_LETTERS" 6):rQ e:=uO (k:=0) (g:=iV) D BG b1 fun _ _ _ _ _ _ _ hr=>by unfold iV;exact (aH (gP (JW.t (qm (gI (gH (nh (ah 0) rfl B.isinstance rfl B.str u6 (by decide)))) (lS (gI (GF (wC) (wC) (JE.bor aG) (JE.bor (cA iq rfl B.len bX (bF (ah 0) cr))) (JE.bor (ql rfl jV))))))) (b6 (c9 mE)) dA) (b6 (c9 (cA (rG rfl) rfl B.all dY (bF (JE.bor (JN.je (iu (N':=["sign"]) (ix:=[]) 1 (by decide) rfl (cX (so:=aC o8) (N:=wY) (by decide +kernel)) (ir (ah 0)) (fun cl A0 s0 H0 ex pn=>⟨dH (i:=0) (by show (["sign"] : List Str).Nodup;decide +kernel) rfl (.inl rfl),fK,(zv (wC) (wC) (JE.bor bD) (ah 0) (JE.bor bD))⟩)))) cr)))))
abbrev en:dC:=tf 20
abbrev g_:List Str:=["thing"]
theorem oB:bK g_ ["thing"] (aC en):=fo (by decide +kernel)
abbrev hG (e:En):=FN e "are_rising_words" 2 1 cb
theorem oC (D:js e.K e.mg "are_rising_words" en) (B:Bi e.mg) (jD:rQ e):hG e:=uO (k:=1) (g:=dh) D oB b1 fun _ _ _ _ _ _ _ hr=>by unfold dh;exact (aH (gP (JW.t (qm (gI (gH (nh (ah 0) rfl B.isinstance rfl B.tuple bi (by decide)))) (lS (gI (gH (cA (rG rfl) rfl B.all dY (bF (JE.bor (JN.je (iu (N':=["word"]) (ix:=[]) 1 (by decide) rfl (cX (so:=aC en) (N:=g_) (by decide +kernel)) (ir (ah 0)) (fun cl A0 s0 H0 ex pn=>⟨dH (i:=0) (by show (["word"] : List Str).Nodup;decide +kernel) rfl (.inl rfl),fK,(jc jD hr f_ (ac (aq 0) aL))⟩)))) cr))))))) (b6 (c9 mE)) dA) (b6 (c9 (cA (rG rfl) rfl B.all dY (bF (JE.bor (JN.je (iu (N':=["low","high"]) (ix:=[]) 2 (by decide) rfl (cX (so:=aC en) (N:=g_) (by decide +kernel)) (Gx.i (Kb rfl B.zip (ac (aq 0) (ac (lr (ah 0) (jr aG) lU) aL)))) (fun cl A0 s0 H0 ex pn=>⟨Fm rfl (pU (dH (i:=0) (by show (["low","high"] : List Str).Nodup;decide +kernel) rfl (.inl rfl)) (pU (dH (i:=1) (by show (["low","high"] : List Str).Nodup;decide +kernel) rfl (.inl rfl)) xm)),fK,(uw (Co) (ah 0) (ah 1))⟩)))) cr)))))
abbrev kF:dC:=tf 21
abbrev sC:List Str:=["book_facts","thing"]
theorem y8:bK sC ["book_facts","thing"] (aC kF):=fo (by decide +kernel)
abbrev sD (e:En):=FN e "are_facts" 3 2 e8
theorem y9 (D:js e.K e.mg "are_facts" kF) (B:Bi e.mg) (dk:hG e):sD e:=uO (k:=2) (g:=hZ) D y8 b2 fun _ _ _ _ _ _ _ hr=>by unfold hZ;exact (b6 (c9 (Gj (jc dk hr px (ac (aq 1) aL)) (Gi (cA (rG rfl) rfl B.all dY (bF (JE.bor (JN.je (iu (N':=["fact","book_facts"]) (ix:=[0]) 1 (by decide) rfl (cX (so:=aC kF) (N:=sC) (by decide +kernel)) (ir (ah 1)) (fun cl A0 s0 H0 ex pn=>⟨dH (i:=0) (by show (["fact","book_facts"] : List Str).Nodup;decide +kernel) rfl (.inl rfl),fK,(uw (LB) (ah 0) (ah 1))⟩)))) cr))))))
abbrev pd:dC:=tf 22
abbrev BI:List Str:=["thing","least","most"]
theorem zX:bK BI ["thing","least","most"] (aC pd):=fo (by decide +kernel)
abbrev v6 (e:En):=FN e "is_whole" 1 3 gZ
theorem zY (D:js e.K e.mg "is_whole" pd) (B:Bi e.mg):v6 e:=uO (k:=0) (g:=iW) D zX b3 fun _ _ _ _ _ _ _ hr=>by unfold iW;exact (aH (gP (JW.t (qm (gI (gH (nh (ah 0) rfl B.isinstance rfl B.int PyProof.Rows.boot_int (by decide)))) (lS (gH (nh (ah 0) rfl B.isinstance rfl B.bool PyProof.Rows.boot_bool (by decide)))))) (b6 (c9 mE)) dA) (b6 (c9 (zv (wC) (wC) (ah 1) (ah 0) (ah 2)))))
abbrev kG:dC:=tf 23
abbrev sF:List Str:=["book_facts","thing","name","needs","bars","makes","ends","price"]
theorem fk:bK sF ["book_facts","thing"] (aC kG):=fo (by decide +kernel)
abbrev sG (e:En):=FN e "is_errand" 4 2 eY
theorem yb (D:js e.K e.mg "is_errand" kG) (B:Bi e.mg) (jD:rQ e) (pf:v6 e) (nD:sD e) (jy:qK e) (mh:Cn e.mg "MOST_PRICE" 9):sG e:=uO (k:=3) (g:=h_) D fk b2 fun _ _ _ _ _ _ _ hr=>by have hu64:=hr.units;unfold h_;exact (aH (gP (JW.t (qm (gI (gH (nh (ah 1) rfl B.isinstance rfl B.tuple bi (by decide)))) (lS (fi (ux hu64) (JE.bor (cA iq rfl B.len bX (bF (ah 1) cr))) (JE.bor aG))))) (b6 (c9 mE)) dA) (aH (Bj (aq 1) (uA rfl (el (d_ 2 fk.nd) (el (d_ 3 fk.nd) (el (d_ 4 fk.nd) (el (d_ 5 fk.nd) (el (d_ 6 fk.nd) (el (d_ 7 fk.nd) qp)))))))) (aH (gP (JW.t (qm (gI (gH (jc jD hr px (ac (aq 2) aL)))) (lS (gI (gH (jc pf hr px (ac (aq 7) (ac aG (ac (ql rfl mh) aL))))))))) (b6 (c9 mE)) dA) (aH (gP (gI (gH (cA (rG rfl) rfl B.all dY (bF (JE.bor (JN.je (iu (N':=["facts","book_facts"]) (ix:=[0]) 1 (by decide) rfl (cX (so:=aC kG) (N:=sF) (by decide +kernel)) (ir (JE.bor (ip (ac (aq 3) (ac (aq 4) (ac (aq 5) (ac (aq 6) aL))))))) (fun cl A0 s0 H0 ex pn=>⟨dH (i:=0) (by show (["facts","book_facts"] : List Str).Nodup;decide +kernel) rfl (.inl rfl),fK,(jc nD hr f_ (ac (aq 1) (ac (aq 0) aL)))⟩)))) cr)))) (b6 (c9 mE)) dA) (b6 (c9 (Gj (jc jy hr px (ac (aq 3) (ac (aq 4) aL))) (Gi (jc jy hr px (ac (aq 5) (ac (aq 6) aL)))))))))))
abbrev lC:dC:=tf 24
abbrev rR:List Str:=["thing","facts","errands"]
theorem ph:bK rR ["thing"] (aC lC):=fo (by decide +kernel)
abbrev rT (e:En):=FN e "is_book" 5 1 fz
theorem BJ (D:js e.K e.mg "is_book" lC) (B:Bi e.mg) (dk:hG e) (nE:sG e) (mi:Cn e.mg "MOST_FACTS" 6) (jW:Cn e.mg "MOST_ERRANDS" 6):rT e:=uO (k:=4) (g:=jA) D ph b1 fun _ _ _ _ _ _ _ hr=>by have hu1:=oK hr;have hu64:=hr.units;unfold jA;exact (aH (gP (JW.t (qm (gI (gH (nh (ah 0) rfl B.isinstance rfl B.tuple bi (by decide)))) (lS (fi (ux hu64) (JE.bor (cA iq rfl B.len bX (bF (ah 0) cr))) (JE.bor aG))))) (b6 (c9 mE)) dA) (aH (Bj (aq 0) (uA rfl (el (d_ 1 ph.nd) (el (d_ 2 ph.nd) qp)))) (aH (gP (JW.t (qm (gI (gH (jc dk hr px (ac (aq 1) aL)))) (lS (fi (LA) (JE.bor (cA iq rfl B.len bX (bF (ah 1) cr))) (JE.bor (ql rfl mi)))))) (b6 (c9 mE)) dA) (aH (gP (JW.t (qm (gI (gH (nh (ah 2) rfl B.isinstance rfl B.tuple bi (by decide)))) (lS (fi (LA) (JE.bor (cA iq rfl B.len bX (bF (ah 2) cr))) (JE.bor (ql rfl jW)))))) (b6 (c9 mE)) dA) (aH (gP (gI (gH (cA (rG rfl) rfl B.all dY (bF (JE.bor (JN.je (iu (N':=["errand","facts"]) (ix:=[1]) 1 (by decide) rfl (cX (so:=aC lC) (N:=rR) (by decide +kernel)) (ir (ah 2)) (fun cl A0 s0 H0 ex pn=>⟨dH (i:=0) (by show (["errand","facts"] : List Str).Nodup;decide +kernel) rfl (.inl rfl),fK,(jc nE hr f_ (ac (aq 1) (ac (aq 0) aL)))⟩)))) cr)))) (b6 (c9 mE)) dA) (b6 (c9 (uw (sw hu64) (JE.bor (E5 (GG (N':=["errand"]) (ix:=[]) 1 (by decide) rfl (cX (so:=aC lC) (N:=rR) (by decide +kernel)) (ir (ah 2)) (fun cl A0 s0 H0 ex pn=>⟨dH (i:=0) (by show (["errand"] : List Str).Nodup;decide +kernel) rfl (.inl rfl),fK,(dJ hu1 (ah 0) (JE.bor aG))⟩)) rfl B.len)) (JE.bor (cA iq rfl B.len bX (bF (ah 2) cr)))))))))))
abbrev rU:dC:=tf 25
abbrev Ey:List Str:=["book"]
theorem BK:bK Ey ["book"] (aC rU):=fo (by decide +kernel)
abbrev wZ (e:En):=FN e "checked" 6 1 jB
theorem BL (D:js e.K e.mg "checked" rU) (jE:rT e) (v7:ER e "NoBook"):wZ e:=uO (k:=5) (g:=lB) D BK b1 fun _ _ _ _ _ _ _ hr=>by unfold lB;exact (aH (gP (gI (gH (jc jE hr px (ac (aq 0) aL)))) (b6 (uM v7 rfl (ac bD aL))) dA) (b6 (c9 (aq 0))))
abbrev rV:dC:=tf 29
abbrev Ez:List Str:=["errand","parts","word","facts"]
theorem mj:bK Ez ["errand"] (aC rV):=fo (by decide +kernel)
abbrev w_ (e:En):=FN e "line_of" 1 1 nV
theorem BM (D:js e.K e.mg "line_of" rV) (B:Bi e.mg) (o9:Ct e.K e.mg "PARTS" ["needs","bars","makes","ends"]):w_ e:=uO (k:=0) (g:=nU) D mj b1 fun _ _ _ _ _ _ _ hr=>by have hu1:=oK hr;unfold nU;exact (aH (qq 1 (Bm (ac (PN (dJ hu1 (ah 0) (JE.bor aG)) (dJ hu1 (ah 0) (JE.bor aG))) aL)) mj.nd) (aH (rK rfl (HD rfl B.zip rfl o9 (lr (ah 0) (jr aG) (jr aG))) (uA rfl (el (d_ 2 mj.nd) (el (d_ 3 mj.nd) qp))) (b6 (gP (KB (ah 3)) (b6 (E3 1 (tL (JE.bor (br b_ (JE.bor (ip (ac (aq 2) aL))) (ah 3)))))) dA))) (b6 (c9 (tL (ah 1))))))
abbrev og:dC:=tf 30
abbrev xa:List Str:=["book","first"]
theorem v8:bK xa ["book"] (aC og):=fo (by decide +kernel)
abbrev rW (e:En):=FN e "text_of" 2 1 iX
theorem BN (D:js e.K e.mg "text_of" og) (rX:w_ e):rW e:=uO (k:=1) (g:=nW) D v8 b1 fun _ _ _ _ _ _ _ hr=>by have hu1:=oK hr;unfold nW;exact (aH (eT 1 (tL (JE.bor (br b_ (JE.bor (ip (ac bD aL))) (JE.bor (dJ hu1 (ah 0) (JE.bor aG)))))) v8.nd) (b6 (c9 (tL (JE.bor (br b_ (JE.bor (iT (ac (aq 1) aL))) (JE.bor (JN.je (iu (N':=["errand"]) (ix:=[]) 1 (by decide) rfl (cX (so:=aC og) (N:=xa) (by decide +kernel)) (ir (JE.bor (dJ hu1 (ah 0) (JE.bor aG)))) (fun cl A0 s0 H0 ex pn=>⟨dH (i:=0) (by show (["errand"] : List Str).Nodup;decide +kernel) rfl (.inl rfl),fK,(jc rX hr f_ (ac (aq 0) aL))⟩))))))))))
abbrev jX:dC:=tf 31
abbrev v9:List Str:=["word","parts","part","first","facts"]
theorem jn:bK v9 ["word","parts"] (aC jX):=fo (by decide +kernel)
abbrev nF (e:En):=FN e "facts_behind" 1 2 g6
theorem tj (D:js e.K e.mg "facts_behind" jX) (B:Bi e.mg):nF e:=uO (k:=0) (g:=iz) D jn b2 fun _ _ _ _ _ _ _ hr=>by have hu64:=hr.units;unfold iz;exact (aH (Kd 1 rfl (d_ 2 jn.nd) (aH (xP 3 4 rfl jn.nd (qw (aq 2) bD)) (b6 (gP (fi (sw hu64) (ah 3) (ah 0)) (b6 (c9 (fu (j9 rfl) rfl B.tuple bi (bF (ah 4) cr)))) dA)))) (b6 (c9 (ip aL))))
abbrev ml:dC:=tf 32
abbrev yc:List Str:=["text"]
theorem vS:bK yc ["text"] (aC ml):=fo (by decide +kernel)
abbrev qL (e:En):=FN e "price_told" 1 1 ju
theorem vT (D:js e.K e.mg "price_told" ml) (B:Bi e.mg) (rY:Cs e.mg "FIGURES" "0123456789"):qL e:=uO (k:=0) (g:=jt) D vS b1 fun _ _ _ _ _ _ _ hr=>by have hu64:=hr.units;unfold jt;exact (b6 (c9 (OY (fi (sw hu64) (JE.bor (cA iq rfl B.len bX (bF (ah 0) cr))) (JE.bor aG)) (NG (HA rfl rY) (aq 0)) Gh)))
abbrev kH:dC:=tf 33
abbrev sH:List Str:=["line","head","parts","name","blank","price"]
theorem iC:bK sH ["line"] (aC kH):=fo (by decide +kernel)
abbrev sI (e:En):=FN e "errand_of" 2 1 ku
theorem yd (D:js e.K e.mg "errand_of" kH) (B:Bi e.mg) (jY:nF e) (mn:qL e) (o9:Ct e.K e.mg "PARTS" ["needs","bars","makes","ends"]):sI e:=uO (k:=1) (g:=kr) D iC b1 fun _ _ _ _ _ _ _ hr=>by unfold kr;exact (aH (xP 1 2 rfl iC.nd (qw (aq 0) bD)) (aH (Bj (KA (aq 1) bD) (uA rfl (el (d_ 3 iC.nd) (el (d_ 4 iC.nd) (el (d_ 5 iC.nd) qp))))) (b6 (c9 (br b_ (JE.bor (br b_ (JE.bor (ip (ac (aq 3) aL))) (JE.bor (fu (j9 rfl) rfl B.tuple bi (bF (JE.bor (JN.je (iu (N':=["word","parts"]) (ix:=[2]) 1 (by decide) rfl (cX (so:=aC kH) (N:=sH) (by decide +kernel)) (HC rfl o9) (fun cl A0 s0 H0 ex pn=>⟨dH (i:=0) (by show (["word","parts"] : List Str).Nodup;decide +kernel) rfl (.inl rfl),fK,(jc jY hr f_ (ac (aq 0) (ac (aq 1) aL)))⟩)))) cr))))) (JE.bor (ip (ac (jc mn hr px (ac (aq 5) aL)) aL))))))))
abbrev ye:dC:=tf 34
abbrev Lb:List Str:=["book"]
theorem Iv:bK Lb ["book"] (aC ye):=fo (by decide +kernel)
abbrev Dc (e:En):=FN e "shown" 7 1 jv
theorem Iw (D:js e.K e.mg "shown" ye) (rZ:wZ e) (jF:rW e):Dc e:=uO (k:=6) (g:=qx) D Iv b1 fun _ _ _ _ _ _ _ hr=>by unfold qx;exact (b6 (c9 (jc jF hr px (ac (jc rZ hr px (ac (aq 0) aL)) aL))))
abbrev yf:dC:=tf 35
abbrev Ix:List Str:=["text","first","lines","book"]
theorem yg:bK Ix ["text"] (aC yf):=fo (by decide +kernel)
abbrev Iy (e:En):=FN e "read" 6 1 lY
theorem Lc (D:js e.K e.mg "read" yf) (B:Bi e.mg) (nG:sI e) (jE:rT e) (jF:rW e) (qM:ER e "NoText"):Iy e:=uO (k:=5) (g:=rN) D yg b1 fun _ _ _ _ _ _ _ hr=>by have hu64:=hr.units;unfold rN;exact (aH (gP (gI (gH (nh (ah 0) rfl B.isinstance rfl B.str u6 (by decide)))) (b6 (uM qM rfl (ac bD aL))) dA) (aH (xP 1 2 rfl yg.nd (qw (aq 0) bD)) (aH (eT 3 (ip (ac (fu (j9 rfl) rfl B.tuple bi (bF (JE.bor (lr (JE.bor (qw (aq 1) bD)) (jr aG) lU)) cr)) (ac (fu (j9 rfl) rfl B.tuple bi (bF (JE.bor (JN.je (iu (N':=["line"]) (ix:=[]) 1 (by decide) rfl (cX (so:=aC yf) (N:=Ix) (by decide +kernel)) (ir (ah 2)) (fun cl A0 s0 H0 ex pn=>⟨dH (i:=0) (by show (["line"] : List Str).Nodup;decide +kernel) rfl (.inl rfl),fK,(jc nG hr f_ (ac (aq 0) aL))⟩)))) cr)) aL))) yg.nd) (aH (gP (JW.t (qm (gI (gH (jc jE hr px (ac (aq 3) aL)))) (lS (fi (ux hu64) (JE.bor (jc jF hr px (ac (aq 3) aL))) (ah 0))))) (b6 (uM qM rfl (ac bD aL))) dA) (b6 (c9 (aq 3)))))))
abbrev kX:dC:=tf 37
abbrev vU:List Str:=["_law_script","_law_k"]
theorem vb:bK vU ["_law_script","_law_k"] (aC kX):=fo (by decide +kernel)
abbrev oO (e:En):=FN e "_law_cell_at" 1 2 j6
theorem vc (D:js e.K e.mg "_law_cell_at" kX) (B:Bi e.mg):oO e:=uO (k:=0) (g:=j5) D vb b2 fun _ _ _ _ _ _ _ hr=>by have hu1:=oK hr;have hu64:=hr.units;unfold j5;exact (aH (gP (fi (Co) (ah 1) (JE.bor (cA iq rfl B.len bX (bF (ah 0) cr)))) (b6 (c9 (dJ hu1 (ah 0) (ah 1)))) dA) (aH (gP (fi (sw hu64) (ah 0) (JE.bor (iT aL))) (b6 (c9 aG)) dA) (b6 (c9 (br b_ (JE.bor (br ng (JE.bor (dJ hu1 (ah 0) (JE.bor (br xG (ah 1) (JE.bor (cA iq rfl B.len bX (bF (ah 0) cr))))))) (JE.bor aG))) (ah 1))))))
abbrev nI:dC:=tf 38
abbrev zZ:List Str:=["_law_script","_law_k","_law_many","_law_drawn"]
theorem qN:bK zZ ["_law_script","_law_k","_law_many"] (aC nI):=fo (by decide +kernel)
abbrev g9 (e:En):=FN e "_law_mixed" 2 3 ba
theorem yh (D:js e.K e.mg "_law_mixed" nI) (kY:oO e):g9 e:=uO (k:=1) (g:=kw) D qN b3 fun _ _ _ _ _ _ _ hr=>by unfold kw;exact (aH (eT 3 (br xG (JE.bor (br ng (JE.bor (br b_ (JE.bor (br b_ (JE.bor (jc kY hr px (ac (aq 0) (ac (aq 1) aL)))) (JE.bor (br ng (JE.bor aG) (ah 1))))) (JE.bor aG))) (JE.bor aG))) (JE.bor aG)) qN.nd) (b6 (c9 (br xG (JE.bor (br xG (JE.bor (br b_ (JE.bor (br b_ (JE.bor (br ng (ah 3) (ah 3))) (JE.bor (br ng (JE.bor aG) (ah 3))))) (ah 1))) (JE.bor aG))) (ah 2)))))
abbrev pi:dC:=tf 39
abbrev BO:List Str:=["_law_script","_law_at","_law_made","_law_k"]
theorem kJ:bK BO ["_law_script","_law_at"] (aC pi):=fo (by decide +kernel)
abbrev pj (e:En):=FN e "_law_word" 3 2 iY
theorem z_ (D:js e.K e.mg "_law_word" pi) (B:Bi e.mg) (aU:g9 e):pj e:=uO (k:=2) (g:=lZ) D kJ b2 fun _ _ _ _ _ _ _ hr=>by have hu1:=oK hr;unfold lZ;exact (aH (eT 2 bD kJ.nd) (aH (rK rfl (oZ rfl B.range (bF (JE.bor (dJ hu1 (JE.bor (iT (ac aG (ac aG (ac aG (ac aG (ac aG (ac aG aL)))))))) (JE.bor (jc aU hr f_ (ac (aq 0) (ac (aq 1) (ac aG aL))))))) cr)) (d_ 3 kJ.nd) (b6 (eT 2 (br b_ (ah 2) (JE.bor (dJ hu1 (JE.bor bD) (JE.bor (jc aU hr f_ (ac (aq 0) (ac (br b_ (JE.bor (br b_ (ah 1) (JE.bor aG))) (ah 3)) (ac aG aL)))))))) kJ.nd))) (b6 (c9 (aq 2)))))
abbrev nJ:dC:=tf 40
abbrev A1:List Str:=["_law_script","_law_at","_law_most","_law_found","_law_k"]
theorem mq:bK A1 ["_law_script","_law_at","_law_most"] (aC nJ):=fo (by decide +kernel)
abbrev sJ (e:En):=FN e "_law_facts" 4 3 kA
theorem yi (D:js e.K e.mg "_law_facts" nJ) (B:Bi e.mg) (iZ:pj e) (aU:g9 e):sJ e:=uO (k:=3) (g:=kz) D mq b3 fun _ _ _ _ _ _ _ hr=>by have hu1:=oK hr;unfold kz;exact (aH (qq 3 Cz mq.nd) (aH (rK rfl (oZ rfl B.range (bF (JE.bor (jc aU hr f_ (ac (aq 0) (ac (aq 1) (ac (br b_ (ah 2) (JE.bor aG)) aL))))) cr)) (d_ 4 mq.nd) (b6 (CD 3 mE (jc iZ hr f_ (ac (aq 0) (ac (br b_ (JE.bor (br b_ (ah 1) (JE.bor aG))) (JE.bor (br ng (JE.bor aG) (ah 4)))) aL))) hu1))) (b6 (c9 (fu (j9 rfl) rfl B.tuple bi (bF (JE.bor (cA D_ rfl B.sorted sg (bF (JE.bor (fu (zu rfl) rfl B.list tF (bF (ah 3) cr))) cr))) cr))))))
abbrev i_:dC:=tf 41
abbrev mr:List Str:=["_law_script","_law_at","_law_facts_here","_law_name","_law_one","_law_two","_law_goal","_law_needs","_law_bars","_law_ends","_law_parts"]
theorem eZ:bK mr ["_law_script","_law_at","_law_facts_here","_law_name"] (aC i_):=fo (by decide +kernel)
abbrev vd (e:En):=FN e "_law_thin" 3 4 m5
theorem A2 (D:js e.K e.mg "_law_thin" i_) (B:Bi e.mg) (aU:g9 e):vd e:=uO (k:=2) (g:=l_) D eZ b4 fun _ _ _ _ _ _ _ hr=>by have hu1:=oK hr;have hu64:=hr.units;unfold l_;exact (aH (eT 4 (dJ hu1 (ah 2) (JE.bor (jc aU hr px (ac (aq 0) (ac (br b_ (ah 1) (JE.bor aG)) (ac (cA iq rfl B.len bX (bF (ah 2) cr)) aL)))))) eZ.nd) (aH (eT 5 (dJ hu1 (ah 2) (JE.bor (jc aU hr px (ac (aq 0) (ac (br b_ (ah 1) (JE.bor aG)) (ac (cA iq rfl B.len bX (bF (ah 2) cr)) aL)))))) eZ.nd) (aH (eT 6 (dJ hu1 (ah 2) (JE.bor (jc aU hr px (ac (aq 0) (ac (br b_ (ah 1) (JE.bor aG)) (ac (cA iq rfl B.len bX (bF (ah 2) cr)) aL)))))) eZ.nd) (aH (eT 7 (lr (JE.bor (iT (ac (aq 4) (ac (aq 5) aL)))) lU (jr (br b_ (JE.bor aG) (JE.bor (br K1 (JE.bor (jc aU hr px (ac (aq 0) (ac (br b_ (ah 1) (JE.bor aG)) (ac aG aL))))) (JE.bor aG)))))) eZ.nd) (aH (lW 8 (N':=["_law_fact","_law_needs","_law_script","_law_at"]) (ix:=[7,0,1]) 1 (by decide) eZ.nd rfl (cX (so:=aC i_) (N:=mr) (by decide +kernel)) (ir (JE.bor (iT (ac (aq 6) aL)))) (fun cl A0 s0 H0 ex pn=>⟨dH (i:=0) (by show (["_law_fact","_law_needs","_law_script","_law_at"] : List Str).Nodup;decide +kernel) rfl (.inl rfl),(CB (JW.t (xF (fi (Gr) (ah 0) (ah 1)) (tK (fi (sw hu64) (JE.bor (jc aU hr f_ (ac (aq 2) (ac (br b_ (ah 3) (JE.bor aG)) (ac aG aL))))) (JE.bor aG)))))),(aq 0)⟩)) (aH (lW 9 (N':=["_law_fact","_law_goal","_law_script","_law_at"]) (ix:=[6,0,1]) 1 (by decide) eZ.nd rfl (cX (so:=aC i_) (N:=mr) (by decide +kernel)) (ir (JE.bor (iT (ac (aq 4) aL)))) (fun cl A0 s0 H0 ex pn=>⟨dH (i:=0) (by show (["_law_fact","_law_goal","_law_script","_law_at"] : List Str).Nodup;decide +kernel) rfl (.inl rfl),(CB (JW.t (xF (fi (ux hu64) (ah 0) (ah 1)) (tK (fi (sw hu64) (JE.bor (jc aU hr f_ (ac (aq 2) (ac (br b_ (ah 3) (JE.bor aG)) (ac aG aL))))) (JE.bor aG)))))),(aq 0)⟩)) (aH (GI 8 (GI 9 (lW 10 (N':=["_law_part"]) (ix:=[]) 1 (by decide) eZ.nd rfl (cX (so:=aC i_) (N:=mr) (by decide +kernel)) (ir (JE.bor (ip (ac (aq 7) (ac (aq 8) (ac (iT (ac (aq 6) aL)) (ac (aq 9) aL))))))) (fun cl A0 s0 H0 ex pn=>⟨dH (i:=0) (by show (["_law_part"] : List Str).Nodup;decide +kernel) rfl (.inl rfl),fK,(fu (j9 rfl) rfl B.tuple bi (bF (JE.bor (Br rfl (Nv rfl (ah 0) rfl B.set) rfl B.sorted)) cr))⟩)))) (b6 (c9 (ip (ac (aq 3) (ac (dJ hu1 (ah 10) (JE.bor aG)) (ac (dJ hu1 (ah 10) (JE.bor aG)) (ac (dJ hu1 (ah 10) (JE.bor aG)) (ac (dJ hu1 (ah 10) (JE.bor aG)) (ac (jc aU hr px (ac (aq 0) (ac (aq 1) (ac aG aL)))) aL))))))))))))))))
abbrev jz:dC:=tf 42
abbrev qO:List Str:=["_law_script","_law_at","_law_facts_here","_law_name","_law_parts","_law_k","_law_fact","_law_way","_law_some"]
theorem eO:bK qO ["_law_script","_law_at","_law_facts_here","_law_name"] (aC jz):=fo (by decide +kernel)
abbrev qP (e:En):=FN e "_law_errand" 4 4 gD
theorem vV (D:js e.K e.mg "_law_errand" jz) (B:Bi e.mg) (aU:g9 e) (pp:vd e):qP e:=uO (k:=3) (g:=gC) D eO b4 fun _ _ _ _ _ _ _ hr=>by have hu1:=oK hr;have hu64:=hr.units;unfold gC;exact (aH (gP (JW.t (xF (fi (ux hu64) (ah 2) (JE.bor (ip aL))) (tK (fi (sw hu64) (JE.bor (jc aU hr px (ac (aq 0) (ac aG (ac aG aL))))) (JE.bor aG))))) (b6 (c9 (jc pp hr px (ac (aq 0) (ac (aq 1) (ac (aq 2) (ac (aq 3) aL))))))) dA) (aH (Nw 4 eO.nd) (aH (rK rfl (Gz rfl B.enumerate (ac (aq 2) aL)) (uA rfl (el (d_ 5 eO.nd) (el (d_ 6 eO.nd) qp))) (aH (eT 7 (jc aU hr f_ (ac (aq 0) (ac (br b_ (JE.bor (br b_ (ah 1) (JE.bor aG))) (ah 5)) (ac aG aL)))) eO.nd) (aH (gP (fi (Co) (ah 7) (JE.bor aG)) (b6 (uL 4 (dJ hu1 (JE.bor (iT (ac aG (ac aG (ac aG aL))))) (ah 7)) (aq 6))) dA) (aH (eT 7 (jc aU hr f_ (ac (aq 0) (ac (br b_ (JE.bor (br b_ (ah 1) (JE.bor aG))) (ah 5)) (ac aG aL)))) eO.nd) (b6 (gP (fi (Co) (ah 7) (JE.bor aG)) (b6 (uL 4 (dJ hu1 (JE.bor (iT (ac aG (ac aG (ac aG (ac aG aL)))))) (ah 7)) (aq 6))) dA)))))) (aH (GH (lW 8 (N':=["_law_part"]) (ix:=[]) 1 (by decide) eO.nd rfl (cX (so:=aC jz) (N:=qO) (by decide +kernel)) (ir (ah 4)) (fun cl A0 s0 H0 ex pn=>⟨dH (i:=0) (by show (["_law_part"] : List Str).Nodup;decide +kernel) rfl (.inl rfl),fK,(fu (j9 rfl) rfl B.tuple bi (bF (ah 0) cr))⟩))) (b6 (c9 (ip (ac (aq 3) (ac (dJ hu1 (ah 8) (JE.bor aG)) (ac (dJ hu1 (ah 8) (JE.bor aG)) (ac (dJ hu1 (ah 8) (JE.bor aG)) (ac (dJ hu1 (ah 8) (JE.bor aG)) (ac (jc aU hr px (ac (aq 0) (ac (aq 1) (ac aG aL)))) aL)))))))))))))
abbrev ms:dC:=tf 43
abbrev vf:List Str:=["_law_script","_law_at","_law_most","_law_many","_law_facts_here","_law_made","_law_k","_law_name","_law_names","_law_turn"]
theorem gd:bK vf ["_law_script","_law_at","_law_most","_law_many"] (aC ms):=fo (by decide +kernel)
abbrev vg (e:En):=FN e "_law_book" 5 4 jR
theorem A3 (D:js e.K e.mg "_law_book" ms) (B:Bi e.mg) (nK:sJ e) (iZ:pj e) (mx:qP e) (aU:g9 e):vg e:=uO (k:=4) (g:=jQ) D gd b4 fun _ _ _ _ _ _ _ hr=>by have hu1:=oK hr;unfold jQ;exact (aH (eT 4 (jc nK hr px (ac (aq 0) (ac (aq 1) (ac (aq 2) aL)))) gd.nd) (aH (qq 5 Cz gd.nd) (aH (rK rfl (oZ rfl B.range (bF (JE.bor (jc aU hr f_ (ac (aq 0) (ac (br b_ (ah 1) (JE.bor aG)) (ac (br b_ (ah 3) (JE.bor aG)) aL))))) cr)) (d_ 6 gd.nd) (aH (eT 7 (jc iZ hr f_ (ac (aq 0) (ac (br b_ (JE.bor (br b_ (ah 1) (JE.bor aG))) (JE.bor (br ng (JE.bor aG) (ah 6)))) aL))) gd.nd) (b6 (CD 5 (jc mx hr f_ (ac (aq 0) (ac (br b_ (JE.bor (br b_ (ah 1) (JE.bor aG))) (JE.bor (br ng (JE.bor aG) (ah 6)))) (ac (aq 4) (ac (aq 7) aL))))) (aq 7) hu1)))) (aH (eT 8 (fu (zu rfl) rfl B.list tF (bF (ah 5) cr)) gd.nd) (aH (eT 9 (jc aU hr px (ac (aq 0) (ac (br b_ (ah 1) (JE.bor aG)) (ac (br b_ (JE.bor (cA iq rfl B.len bX (bF (ah 8) cr))) (JE.bor aG)) aL)))) gd.nd) (b6 (c9 (ip (ac (aq 4) (ac (fu (j9 rfl) rfl B.tuple bi (bF (JE.bor (JN.je (iu (N':=["_law_name","_law_made"]) (ix:=[5]) 1 (by decide) rfl (cX (so:=aC ms) (N:=vf) (by decide +kernel)) (ir (JE.bor (br b_ (JE.bor (lr (ah 8) (jr (aq 9)) lU)) (JE.bor (lr (ah 8) lU (jr (aq 9))))))) (fun cl A0 s0 H0 ex pn=>⟨dH (i:=0) (by show (["_law_name","_law_made"] : List Str).Nodup;decide +kernel) rfl (.inl rfl),fK,(dJ hu1 (ah 1) (ah 0))⟩)))) cr)) aL))))))))))
abbrev pq:dC:=tf 45
abbrev BP:List Str:=["_law_text","_law_e"]
theorem sK:bK BP ["_law_text"] (aC pq):=fo (by decide +kernel)
abbrev vh (e:En):=FN e "_law_read" 7 1 eM
theorem A4 (D:js e.K e.mg "_law_read" pq) (BQ:Iy e) (W:Wh e.P e.w e.K e.mg e.base e.cls "_law_which" zW Qu):vh e:=uO (k:=6) (g:=jS) D sK b1 fun _ _ _ _ _ _ _ hr=>by unfold jS;exact (b6 (Kj 1 W (fun E1 xe1 pn1 hp=>(b6 (c9 (jc BQ hr hp (ac (aq 0) aL))))) (hr.h.mono1) rfl rfl sK.nd))
abbrev sL:dC:=tf 46
abbrev Qb:List Str:=["_law_script","_law_book_here","_law_text","_law_place","_law_signs","_law_some","_law_answer","_law_bad"]
theorem nL:bK Qb ["_law_script"] (aC sL):=fo (by decide +kernel)
theorem O4 {f:aa}{fd:cY} (F:Aj e.K "law" "law" sL f fd) (B:Bi e.mg) (pw:vg e) (tQ:Dc e) (aU:g9 e) (my:vh e):oy e.P e.w e.K e.mg e.base (lj e.P e.w) 8 f fd ["_law_script"] (LF e.K e.cls 1 F_law):=by
 refine LK (k:=7) (g:=CT) F nL fun cdv A outer s H E hr=>?_
 have hu1:=oK hr
 have hu64:=hr.units
 unfold CT
 exact (aH (eT 1 (jc pw hr px (ac (aq 0) (ac aG (ac aG (ac aG aL))))) nL.nd) (aH (eT 2 (jc tQ hr px (ac (aq 1) aL)) nL.nd) (aH (eT 3 (jc aU hr px (ac (aq 0) (ac aG (ac (br b_ (JE.bor (cA iq rfl B.len bX (bF (ah 2) cr))) (JE.bor aG)) aL)))) nL.nd) (aH (qq 4 (Bm (ac bD (ac bD (ac bD (ac bD (ac bD (ac bD (ac bD (ac bD (ac bD (ac bD (ac bD (ac bD aL))))))))))))) nL.nd) (aH (eT 5 (br b_ (JE.bor (br b_ (JE.bor (wP (aq 2) lU (jr (aq 3)))) (JE.bor (dJ hu1 (ah 4) (JE.bor (jc aU hr px (ac (aq 0) (ac aG (ac aG aL))))))))) (JE.bor (wP (aq 2) (jr (br b_ (ah 3) (JE.bor (jc aU hr px (ac (aq 0) (ac aG (ac aG aL))))))) lU))) nL.nd) (aH (eT 6 (jc my hr px (ac (aq 5) aL)) nL.nd) (aH (gP (JW.t (xF (fi (ux hu64) (ah 6) (JE.bor (ip (ac bD (ac aG aL))))) (tK (fi (ux hu64) (JE.bor (jc tQ hr px (ac (aq 6) aL))) (ah 5))))) (b6 (c9 mE)) dA) (aH (qq 7 (Bm (ac bD (ac bD (ac bD (ac bD (ac bD (ac bD (ac bD (ac Gh (ac aG aL)))))))))) nL.nd) (aH (rM 7 (iT (ac bD (ac bD (ac bD (ac bD aL)))))) (aH (rM 7 (iT (ac bD (ac bD (ac bD (ac bD aL)))))) (aH (rM 7 (iT (ac bD (ac bD (ac (iT (ac bD aL)) aL))))) (b6 (c9 (uw (sw hu64) (JE.bor (jc my hr px (ac (dJ hu1 (ah 7) (JE.bor (jc aU hr px (ac (aq 0) (ac aG (ac aG aL)))))) aL))) (JE.bor (ip (ac bD (ac aG aL))))))))))))))))))
end
end
section
theorem all_mk {l:sR}{w:aW}{K:a5}{h:bc}{mg:Str->Option a7}{fa A:aa}{lD:aa}{oh:aa}{qQ:aa}{mz:aa}{tR:aa}{tS:aa}{oj:aa}{om:aa}{mB:aa}{oo:aa}{lE:aa}{kK:aa}{od an:Option aa}{sl:Array (Option a7)}{oc kV dc pm cv ct:a7} (X:K.In h) (G:h.Ns aT mg) (hfa:mg "law"=some (.ref fa))
  (Zz:Zs K zn)
  (jV:Cn mg "MOST_LETTERS" 6)
  (mh:Cn mg "MOST_PRICE" 9)
  (mi:Cn mg "MOST_FACTS" 6)
  (jW:Cn mg "MOST_ERRANDS" 6)
  (o9:Ct K mg "PARTS" ["needs","bars","makes","ends"])
  (rY:Cs mg "FIGURES" "0123456789")
  (Ws:Kr K zW [lD,oh,qQ,mz,tR,tS,oj,om,mB,oo,lE])
  (A5:TopC K "NoBook" lD)
  (A6:TopC K "NoText" lE)
  (kL:TopC K "PlanError" kK)
  (w_NoBook:Wy K lD kK [(lD,true),(oh,false),(qQ,false),(mz,false),(tR,false),(tS,false),(oj,false),(om,false),(mB,false),(oo,false),(lE,false)])
  (w_NoText:Wy K lE kK [(lD,false),(oh,false),(qQ,false),(mz,false),(tR,false),(tS,false),(oj,false),(om,false),(mB,false),(oo,false),(lE,true)])
  (A7:js K mg "_law_which" nC)
  (yj:js K mg "share_none" jx)
  (EA:js K mg "is_word" o8)
  (pz:js K mg "are_rising_words" en)
  (A8:js K mg "are_facts" kF)
  (BR:js K mg "is_whole" pd)
  (A9:js K mg "is_errand" kG)
  (EB:js K mg "is_book" lC)
  (EC:js K mg "checked" rU)
  (ED:js K mg "line_of" rV)
  (EE:js K mg "text_of" og)
  (vi:js K mg "facts_behind" jX)
  (yk:js K mg "price_told" ml)
  (Aa:js K mg "errand_of" kH)
  (Ld:js K mg "shown" ye)
  (O5:js K mg "read" yf)
  (vW:js K mg "_law_cell_at" kX)
  (Ab:js K mg "_law_mixed" nI)
  (BS:js K mg "_law_word" pi)
  (Ac:js K mg "_law_facts" nJ)
  (BU:js K mg "_law_thin" i_)
  (ym:js K mg "_law_errand" jz)
  (BV:js K mg "_law_book" ms)
  (BW:js K mg "_law_read" pq)
  (l0:dv K aT "law"=some (some (.ref A)))
  (l1:K.lookup A=some ⟨oc,od,.func (dq "law" "law" (j3 sL) (fh sL) (aC sL) .none kV dc pm an cv ct),sl⟩)
  (l2:ij K cv "law"=true)
  (l3:cU K (.ref A)=true)
  : ∃ fd:cY,(∀ (s:a9) (v:a7),s9 s fd ⟨[v],[]⟩ [("_law_script",v)])/\∀ base:bc,K.In base->base.Ns aT mg->oy l.prog w K mg base (lj l.prog w) 8 fa fd ["_law_script"] (Pc K F_law):=by
 have q:=hfa.symm.trans (eL X G l0)
 cases q
 refine ⟨dq "law" "law" (j3 sL) (fh sL) (aC sL) .none kV dc pm an cv ct,fun s v=>.of_eq rfl,fun base X G=>?_⟩
 let e:En:=⟨l.prog,w,K,mg,base,Pd [("NoBook",lD),("NoState",oh),("NoWant",qQ),("NoErrand",mz),("NoRow",tR),("NoWay",tS),("NoPaper",oj),("NoFacts",om),("NoNumber",mB),("Nothing",oo),("NoText",lE),("PlanError",kK)]⟩
 have B:Bi e.mg:=Pw X G Zz
 have v7:ER e "NoBook":=A5.er X G rfl
 have qM:ER e "NoText":=A6.er X G rfl
 obtain ⟨fw,fdw,Fw,mw⟩:=A7.ex
 have W:Wh e.P e.w e.K e.mg e.base e.cls "_law_which" zW Qu:=by
  refine ⟨⟨_,_,_,vP (e:=e) Fw B (Px X G Zz) (Py X G Ws rfl),mw,Fw.kp,b1 Fw⟩,eL X G kL.ns,?_,fun y j h=>?_⟩
  ·obtain ⟨bm,o,_⟩:=(Bu X G kL.ns kL.ex kL.mb).2
   exact ⟨bm,o⟩
  unfold Qu at h
  by_cases hy:y="NoBook"
  ·subst hy
   simp at h
   subst h
   exact Mc X G A5 w_NoBook Ws rfl rfl rfl rfl rfl (by decide) (by decide)
  rw [if_neg hy] at h
  by_cases hy:y="NoText"
  ·subst hy
   simp at h
   subst h
   exact Mc X G A6 w_NoText Ws rfl rfl rfl rfl rfl (by decide) (by decide)
  rw [if_neg hy] at h
  cases h
 have jy:=vR (e:=e) yj B
 have jD:=BH (e:=e) EA B jV
 have dk:=oC (e:=e) pz B jD
 have nD:=y9 (e:=e) A8 B dk
 have pf:=zY (e:=e) BR B
 have nE:=yb (e:=e) A9 B jD pf nD jy mh
 have jE:=BJ (e:=e) EB B dk nE mi jW
 have rZ:=BL (e:=e) EC jE v7
 have rX:=BM (e:=e) ED B o9
 have jF:=BN (e:=e) EE rX
 have jY:=tj (e:=e) vi B
 have mn:=vT (e:=e) yk B rY
 have nG:=yd (e:=e) Aa B jY mn o9
 have tQ:=Iw (e:=e) Ld rZ jF
 have BQ:=Lc (e:=e) O5 B nG jE jF qM
 have kY:=vc (e:=e) vW B
 have aU:=yh (e:=e) Ab kY
 have iZ:=z_ (e:=e) BS B aU
 have nK:=yi (e:=e) Ac B iZ aU
 have pp:=A2 (e:=e) BU B aU
 have mx:=vV (e:=e) ym B aU pp
 have pw:=A3 (e:=e) BV B nK iZ mx aU
 have my:=A4 (e:=e) BW BQ W
 exact (O4 (e:=e) (FE l1 l2 l3) B pw tQ aU my).imp NA
end
end Z
section
open PySem PySem.W PyProof.Rows
namespace PySem.W.Fast
def tw16897001661467572858:Nat:=0
def tw6716734784399513126:Nat:=0
def tw8083437020820920731:Nat:=0
def tw4766007340690372963:Nat:=0
def tw4766015606476996267:Nat:=0
def tw7342636334706515453:Nat:=0
def tw15988450819827222748:Nat:=0
def tw3054021211333900746:Nat:=0
def tw16309325777951833198:Nat:=0
def tw12490838323590789956:Nat:=0
def tw14393894995800888481:Nat:=0
def tw7864184972100290923:Nat:=0
def tw10298819257662176089:Nat:=0
def tw6940256184221545295:Nat:=0
def tw892691332845170578:Nat:=0
def tw6967076555965907482:Nat:=0
def tw12967823033164353503:Nat:=0
def tw9795392588895182732:Nat:=0
def tw9372194505930453146:Nat:=0
def tw6435583276843696973:Nat:=0
def tw1872466956436968392:Nat:=0
def tw10752443397625715139:Nat:=0
def tw4883143994412060876:Nat:=0
def tw17068442848678627639:Nat:=0
def tw10109681246458412432:Nat:=0
def tw3515607579282949966:Nat:=0
def tw14550585680445740506:Nat:=0
def tw8726623876019740402:Nat:=0
def tw12633471089715303539:Nat:=0
def tw12829270054840138860:Nat:=0
def tw2622439519889066557:Nat:=0
def tw1853456150056695559:Nat:=0
def tw18065878137627388126:Nat:=0
def tw6226554915839326381:Nat:=0
def tw6688965371816463362:Nat:=0
def tw14122927558574437389:Nat:=0
def tw17492439494129609034:Nat:=0
def tw13570179626420726171:Nat:=0
def tw1911605760782296458:Nat:=0
def tw8677552306429195229:Nat:=0
def tw5971636538762203685:Nat:=0
def tw6947975739676192456:Nat:=0
def tw40532232612107431:Nat:=0
def tw10068782145343971944:Nat:=0
def tw16401269739936271531:Nat:=0
def tw16119768842911245722:Nat:=0
def tw3541265253066505878:Nat:=0
def tw540659189914751209:Nat:=0
def tw7231719067248471724:Nat:=0
def tw2778767097684577816:Nat:=0
def tw2004554957776406154:Nat:=0
def tw161078532170488302:Nat:=0
def tw12760130022261404626:Nat:=0
def tw1064573552833213682:Nat:=0
def tw4814943645156688913:Nat:=0
def tw8339855447598184291:Nat:=0
def tw10227643670634621226:Nat:=0
def tw17234012907381829858:Nat:=0
def tw5986700480976940089:Nat:=0
def tw4089678934596947603:Nat:=0
def tw11799681978189441750:Nat:=0
def tw16291673029965207591:Nat:=0
def tw4182033660739623947:Nat:=0
def tw9050491258480404396:Nat:=0
def tw11397535595084617421:Nat:=0
def tw3193969184363128813:Nat:=0
def tw13107961389568031821:Nat:=0
def tw16232310269797334300:Nat:=0
def tw2435936120360023582:Nat:=0
def tw12851064928896818257:Nat:=0
def tw16464412490043228570:Nat:=0
def tw17869957493080435874:Nat:=0
def tw237240789541487835:Nat:=0
def tw5378861523497480257:Nat:=0
def tw4978511883720434278:Nat:=0
def tw7646316726820425627:Nat:=0
def tw11848682481245897131:Nat:=0
def tw5466051521541325374:Nat:=0
def tw9917689701054972327:Nat:=0
def tw11110153952796234427:Nat:=0
def tw2592752409650095410:Nat:=0
def tw12711696305601381372:Nat:=0
def tw11779622935571498023:Nat:=0
def tw15471670118703651738:Nat:=0
def tw2038397748023866175:Nat:=0
def tw3304158814374592682:Nat:=0
def tw9313503013137928786:Nat:=0
def tw11801483698774569789:Nat:=0
end PySem.W.Fast
theorem PySem.Challenge.cw_errands_k36_texts_refused_holds : PySem.Challenge.rw_errands_k36_texts_refused.Holds := by
 w_on;o_law;k_head;(case hw=>w_witness2)
 k_fill
 refine J.walkF (l:=PySem.Challenge.rw_errands_k36_texts_refused) (k:=8) (x:="_law_script") (F0:=Z.F_law) rfl rfl ⟨rfl,by decide,by decide⟩ (fun w h Y=>by first|exact PySem.W.kIn_of Y|exact PySem.W.km_in_of Y) ?F (fun ns _=>Z.law_true ns)
 case F =>
  intro w mg fa h KX G hmg
  refine' Z.all_mk KX G hmg ?_ ?_ ?_ ?_ ?_ ?_ ?_ ?_ ?_ ?_ ?_ ?_ ?_ ?_ ?_ ?_ ?_ ?_ ?_ ?_ ?_ ?_ ?_ ?_ ?_ ?_ ?_ ?_ ?_ ?_ ?_ ?_ ?_ ?_ ?_ ?_ ?_ ?_ ?_ ?_ ?_
  all_goals first
   |(refine' J.d_in KX G ?_ ?_ ?_ ?_<;>try k_is)
   |(refine' J.cn_in KX G ?_<;>try k_is)
   |k_is
   |(refine' J.cs_in KX G ?_<;>try k_is)
   |(refine' J.ct_in KX G ?_ ?_ ?_ ?_<;>try (first|k_is|decide|(repeat' (first|exact .nil|refine' .cons ⟨_,rfl⟩ ?_))))
   |(refine' J.TopC.mk ?_ ?_ ?_<;>try (first|k_is|k_exc))
   |(refine' J.topN ?_ ?_ ?_ ?_ ?_ ?_ ?_ ?_ ?_ ?_ ?_ ?_ ?_ ?_ ?_ ?_ ?_ ?_ ?_ ?_ ?_ ?_ ?_<;>try (first|k_is|rfl|exact fun _ _=>⟨_,rfl,rfl⟩|decide +kernel))
   |((refine' J.Wy.mk ?_ ?_ ?_ ?_ ?_ ?_ ?_ ?_ ?_ ?_)<;>try (first|k_is|decide|((repeat' (first|exact .nil|refine' .cons ?_ ?_ ?_))<;>try (first|k_is|decide))))
   |((repeat' (first|exact .nil|refine' .cons ?_ ?_))<;>try (first|(refine' J.cw_in ?_ ?_ ?_<;>try k_is)|k_is))
   |skip
end
