import PyProof.Rows.All
import Wide.All
import OpenK.AllK
import Wide.FinOn
import Lean
import PyProof.EqAt
import PyProof.EqKinds
import PyProof.TupleCall
import KE.KDictOf
import PyProof.AttrMissHeap
import KE.KRevIter
import PyProof.DictWalks
import PyProof.MinMaxWalk
import PyProof.SeqI3
import PyProof.WalkInts
import PyProof.ExcInit
import PyProof.InstStoreFacts
import PyProof.DictCompW
import PySem.Challenge.RW_errands_k23_whole_rounds
set_option Elab.async false
set_option linter.all false
set_option maxRecDepth 100000
set_option maxHeartbeats 0
open PySem.W renaming Frag->a6,kia_one->cH,mroIn->dg,nsMap_none_of_in->eE,fnOf->fR,nsIn->fS,cellsFrom_some->gK,keepIn->jg,findIn->ll,codeIn->lm,isNs_of_in->lu,mg_of->mH,kitOne->pI,clsIn->rH,methodObj->tG,kitx_list->tH,instObj->wc,OpenLaw->wf,lookIn->wY,excIn->z0,hideAll_get->Eb,of_hideAll->Em,kitx_tuple->Ep,codeRec_of->Es,specialIn->G4,kitx_dict->G5,plainGet->HE,hideAll->Jo,takesIn->Jr,typeIn->K1,nsOkIn->K2,WalkO->N0,subIn->N5
open PySem renaming wpAny_bind->a7,Value->a8,Shared->ac,wpAny_pure->ae,Addr->ah,wpAny->au,starEach->aw,Program->aK,model->aP,Expr->aV,World->aY,Around->b6,cellsFrom->bd,Heap->bp,wpAny_setState_of->bv,boot_len->bx,mainGlobals->bB,wpAny_mono->bI,compareOp->bL,wpAny_newObj_type->cr,rawInt->cu,Stmt->cC,wpAny_call_entry->cE,eval->cR,wpAny_callSpecial?_slot->cX,mem_of_lookup->db,wpAny_field->dA,wpAny_holding->e6,Scope->e7,wpAny_truthy_bool->e8,foldedSetIterable->ed,SetTable->ef,wpAny_seqItems->eg,backTo->eT,FuncData->eU,fits_of_scanBound->fk,swapsWith->fQ,wpAny_pyIter_tuple->fY,binaryOp->fZ,letOwnedTupleGo->gz,codeAny_builtin->gD,bootBuiltins->gE,behindInMarks->gI,wpAny_rule->gJ,wpAny_askSetting->gQ,setField->gR,strIterType->hJ,assignEach->hV,wpAny_setField_rec->hX,wpAny_passesOwn->i6,scanBound->io,wpAny_pyIter_list->iw,codeAny->iy,wpAny_storeSet_of->iA,wpAny_setField->iS,wpAny_isInstance->j8,wpAny_standAt->js,NameKind->jt,Builtin->jw,sysModules->jB,IsPair->jD,Keyword->kA,wpAny_typeOf->kE,attributeBase->lR,plainId_quiet->lS,sliceBounds->lT,pyNext->mF,pickOrder->nL,getItem->pj,keywordEach->pq,wpAny_pyIter_enum->pw,assign->pH,wpAny_comprehension_free->pJ,PyData->pM,Result->rZ,codeAny_mono->r_,wpAny_execs_nil->tj,cLine->tm,pushCells_keeps->tq,builtinLookup_eq_fast->tO,IsPart->uO,newFunctionEnv->uQ,relayAll->uR,raiseNew->uS,firstArgMember->uT,IsZip->uU,wpAny_updateSeq_pair->uV,callerA->vG,CmpOp->wC,swapsWithSole->wD,swappedStores->wE,wpAny_attempt->wH,wpAny_onRaise->wJ,wpAny_Call_Name_kw->wZ,tupleKind_room_in1->w_,newExc->xa,Model->yT,BindsTo->yV,concat_meets->yW,backToKw->yX,valueAt->yY,tupleKind->Au,isTrue->Av,pyIter->Aw,noFill_tuple_add->Ax,subscripted->BZ,codeAny_of_tree->C1,typeLookup_type->C2,standAt->Ec,GenState->Eo,typeLookup->Et,atKey->Ev,entryFor->Ew,entryFor_alias->Ex,isSubtype_type->Ey,isSubtype_stop->Ez,field->EA,wpAny_letOwnedTupleGo_enum->EB,assignInOrder->HC,seq_tuple_add->HF,call->HH,Drawn->Jp,lastMarks->Jq,bindL->Js,bindC->Jt,seqIndex?->Ju,Walks->Jx,seqItems?->Jy,Paired->JP,stored->JU,sub_set_self->JX,setNext->JY,wpAny_isTrue_Compare1->M_,bindName->Nf,bindArgs->Ng,wpAny_alloc->Nj,wpAny_of_eq->Nk,unsupported->No,ZipApart->Np,wpAny_letGo->Nr
open PySem.Heap renaming get?_push_of_some->af,lt_size->am,get?_push_size->aC,SameBut->bG,size_push->ck,get?_update_self->gZ,get?_update_other->pv,IsTuple->Eg
open List renaming getElem?_set_ne->ag,mem_cons_of_mem->aj,mem_cons_self->al,length_map->av,getElem?_set_self->az,length_append->aH,getElem?_eq_getElem->aL,size_toArray->aM,map_cons->aO,not_mem_nil->aQ,mem_append_right->aR,getElem?_append_right->aU,length_cons->aW,getElem?_map->aX,mem_cons->aZ,getElem?_append_left->bg,range->bi,getElem?_eq_none->bz,map_append->bN,mem_of_getElem?->b_,length_nil->c7,getD_eq_getElem?_getD->c8,getElem?_replicate->cf,append_nil->cA,all_eq_true->cB,lookup_cons->cL,length_replicate->cQ,length_singleton->du,find?_cons->dB,mem_singleton->dE,map_nil->dQ,append_assoc->dR,length_range->dS,map_map->dU,nil_append->dZ,mem_append_left->eM,any_cons->fm,nodup_nil->ip,getElem_mem->iz,mem_map_of_mem->iK,sublist_append_left->iZ,getElem?_cons_succ->ji,flatten_cons->jy,length_filter_le->kh,any_eq_true->kz,forIn_cons->l9,foldl_cons->lc,getElem_of_mem->lr,filterMap_map->lW,length_eraseIdx_of_lt->lX,perm_ext_iff_of_nodup->m7,set_cons_zero->m8,set_cons_succ->m9,length->n8,all_map->pB,mem_append->pL,replicate->rE,forIn_nil->rF,map->rJ,filterMap_cons->tf,getElem?_range->tw,map_congr_left->tE,all_cons->tL,any_eq_false->vF,ext_getElem?->vI,reverse_cons->vJ,length_filterMap_eq_countP->wl,length_take->wF,length_drop->wG,ext_getElem->wI,getElem_map->wL,lookup->x0,of_mem_zip->yO,mem_filter->yQ,length_set->yR,drop_eq_getElem_cons->Ay,mem_or_eq_of_mem_set->AB,getElem?_cons_zero->C3,drop_of_length_le->Ef,any_map->Ei,take_append_drop->EI,length_reverse->HM,replicate_succ->HN,replicate_zero->HP,flatten_append->HQ,lookup_append->Jv,map_inj_right->JA,contains_cons->JC,getElem_range->JD,nodup_append->JV,all_eq_false->K4,zipIdx_cons->N1,cons_append->N6,zipIdx_nil->Nq
open Nat renaming le_refl->ao,ne_of_lt->aE,lt_of_lt_of_le->aJ,le_trans->bU,lt_irrefl->bV,le_of_lt->cc,zero_le->cn,lt_succ_self->dI,ne_of_gt->eK,lt_succ_of_lt->eS,le_succ->gj,lt_succ_of_le->jC,min_le_right->p7,lt_of_le_of_lt->uP,lt_trans->wg,lt_asymm->wj,le_of_lt_succ->wk,mod_lt->Az,zero_add->ED,succ_pos->EE,lt_of_succ_lt_succ->EF,sub_self->EG,add_lt_add_right->HK,lt_of_lt_of_eq->K3,succ_le_succ->Nh,le_of_not_lt->Ni,le_add_right->Nt,reduceLeDiff->NA,reduceEqDiff->NB
open Array renaming length_toList->ar,getElem?_toList->dn,getD_eq_getD_getElem?->hU,getElem?_eq_getElem->iB,eq_empty_of_size_eq_zero->kg,size_map->rm,all_toList->wo,replicate->xc,toArray_toList->EC,append_assoc->HB,find?_toList->HD,forIn_toList->HL,toList_push->Jw
open PySem.PyData renaming str->aD,eqv->bn,canLayAll0->bJ,int->bT,bool->cJ,canLay0->dO,list->dW,eqvAll->iL,tuple->jr,depth->oX,depthAll->pd
open Bool renaming and_eq_true->aN,false_ne_true->a_,false_eq_true->bM,eq_iff_iff->j9,or_eq_true->ja,not_false->jx,and_false->m6,not_eq_true'->nh,and_self->nN,not_true->nO,beq_eq_decide_eq->qF,false_or->tM,true_and->tQ,noConfusion->wK,false_and->zE,or_eq_false_iff->G8
open PyProof.Rows renaming boot_tuple->bf,boot_all->cp,callWith_type1->dq,slot_tuple_getitem->fM,boot_list->gm,AllBare->pi,envOfC->s9,StrsAre->se,boot_sorted->vK,assignInOrder_cons->wX,boot_any->xf,boot_str->xg,boot_max->xh,subscriptTail->HG,IsTup->Jn,subscriptTail_builtinR->JQ,IntsAre->JR
open Option.some renaming inj->bu,injEq->C0
open PySem.Heap.SameBut renaming update->bS
open PySem.Value renaming ref->c6,none->fG,type->i5,str->jd,int->lQ,isStrOf->t6,bool->HA
open PySem.NameKind renaming free->cj,cell->dH,«local»->pA
open PySem.SetTable renaming sizeAbove->cm,grown->g_,below->hG,fits->lY,bits->l_,turns->pz,layClean->tu,laid->yP,orStandIn->Ee,relaid->HJ,fill->J_,road->K0
open PySem.Builtin.SmallTypes renaming nextOf->cw,ownedTupleIsFree->eC,ownedTupleHandOut->lZ
open Ne renaming symm->cW
open Or renaming inr->c_,inl->fB
open PySem.SetTable.layClean renaming free->dv
open Option renaming map_some->dw,getD_none->gC,getD_some->jV,bind_some->nM,isSome_some->G6,isSome_map->HI
open Int renaming toNat_of_nonneg->dY,toNat_natCast->eR,emod_lt_of_pos->mI,eq_ofNat_of_zero_le->pc,emod_nonneg->qG,reduceLT->EH
open List.Sublist renaming refl->eF
open PySem.Around renaming under_plainId->eJ
open PySem.Obj renaming mapFields->fD,mapSeq->kF,putSet->pK,data_mapFields->JZ
open ForInStep renaming yield->fK
open PySem.AutoSeq1 renaming wpAny_loadPart'->fN
open PySem.F renaming plainAttrs_list->gn,slot_tuple_iterator_next->iD,slot_list_append->iE,type_list_append->iF,args_tuple_add_2->mG,entry_tuple_add->nc,slot_tuple_add->nP,slot_zip_next->rG,args_tuple_iterator_next_1->AA,entry_tuple_iterator_next->B_,slot_enumerate_next->Jz
open PySem.Builtin.Slice renaming slicePlaces->gT,sliceAdjust->kC,sliceApplied->tJ
open PyProof.Rows.F renaming plain_set_update_loop->gU,entry_set_update_loop->nK
open PySem.Builtin.Tuple renaming tupleExact->hW,tupleItemsOf->tK
open False renaming elim->i7
open PySem.Str renaming ofString->iC
open PySem.Builtin.Frozenset renaming updateFrom->j7,isAnySet->rn,sizeOf->sd,copyOf->sf,newClass->Nl,oneOther->Nu,addrOf->Nv,slot1->Nw,baseOf->Nx,merge->Ny,unchanged->Nz
open True renaming intro->jf
open PySem.Heap.FunFrames renaming mem->jU
open PySem.Paired renaming length->rY
open PySem.Walks renaming list->tN
open PySem.Builtin.List renaming listExtendWith->tP,listSameRef->vH
open PySem.PassesOwn renaming never->uW
open Sum renaming inl->w9,inr->wa
open PyProof.Rows.IsTup renaming new->we
open PySem.Builtin.Dict renaming updateFrom->wn
open And renaming intro->xb
open PySem.Calls renaming Name_function_global->yU,call_function_entry->zG,evalArgs_plain->Eu
open PySem.pickOrder renaming go->yZ
open PySem.SetTable.below renaming go->y_
open List.Pairwise renaming nil->zF
open PySem.SeqAt.EqAt renaming int_str->BX,str_int->BY
open PySem.Heap.DictOf renaming new->Ed
open PySem.Shared renaming heap->Eh,TypeIs->Nm
open PySem.Value.type renaming inj->G7
section
namespace L2
open PySem PySem.Spec PyProof.Rows
abbrev fi:=Sum Int Str
def xi:fi->a8->Bool
 | .inl k,v=>Value.isInt k v
 | .inr x,v=>t6 x v
def Ul (w:aY):fi->Int
 | .inl k=>hashInt k
 | .inr x=>hashStr w x
theorem fc:∀ {k:fi}{v:a8},xi k v=true->(∃ i t,k=w9 i/\v=lQ i t)\/(∃ x t,k=wa x/\v=jd x t)
 | .inl i,v,h=>by
  obtain ⟨t,e⟩:=Value.isInt_shape (k:=i) (v:=v) h
  exact .inl ⟨i,t,rfl,e⟩
 | .inr x,v,h=>by
  obtain ⟨t,e⟩:=Value.isStrOf_shape (x:=x) (v:=v) h
  exact .inr ⟨x,t,rfl,e⟩
theorem HR (i:Int) (t:Tok):xi (.inl i) (.int i t)=true:=by simp [xi,Value.isInt]
theorem HS (x:Str) (t:Tok):xi (.inr x) (.str x t)=true:=by simp [xi,t6]
theorem Qj (a b:Int):decide ((w9 a:fi)=w9 b)=(a == b):=by
 by_cases e:a=b
 ·subst e;simp
 ·have h:¬ (w9 a:fi)=w9 b:=fun q=>e (Sum.inl.inj q)
  rw [decide_eq_false h]
  exact (beq_eq_false_iff_ne.mpr e).symm
theorem Qk (a b:Str):decide ((wa a:fi)=wa b)=decide (a=b):=by
 by_cases e:a=b
 ·subst e;simp
 ·have h:¬ (wa a:fi)=wa b:=fun q=>e (Sum.inr.inj q)
  rw [decide_eq_false h,decide_eq_false e]
theorem Ql (a:Int) (b:Str):decide ((w9 a:fi)=wa b)=false:=decide_eq_false (fun q=>nomatch q)
theorem Qm (a:Str) (b:Int):decide ((wa a:fi)=w9 b)=false:=decide_eq_false (fun q=>nomatch q)
def dJ (prog:aK) (w:aY):PySem.KeyKind prog w fi where
 is:=xi
 hash:=Ul w
 inj:=fun v a b ha hb=>by
  rcases fc ha with ⟨i,t,rfl,rfl⟩ | ⟨x,t,rfl,rfl⟩
  ·rcases fc hb with ⟨j,u,rfl,e⟩ | ⟨y,u,rfl,e⟩
   ·injection e with e1 _;rw [e1]
   ·exact nomatch e
  ·rcases fc hb with ⟨j,u,rfl,e⟩ | ⟨y,u,rfl,e⟩
   ·exact nomatch e
   ·injection e with e1 _;rw [e1]
 byValue:=fun k v h=>by
  rcases fc h with ⟨i,t,rfl,rfl⟩ | ⟨x,t,rfl,rfl⟩<;>rfl
 pyHash:=fun hv h=>by
  rcases fc hv with ⟨i,t,rfl,rfl⟩ | ⟨x,t,rfl,rfl⟩
  ·exact wpAny_pyHash_int h
  ·exact wpAny_pyHash_str h
 eqBool:=fun hu hv h=>by
  rcases fc hu with ⟨i,t,rfl,rfl⟩ | ⟨x,t,rfl,rfl⟩
  ·rcases fc hv with ⟨j,u,rfl,rfl⟩ | ⟨y,u,rfl,rfl⟩
   ·rw [Qj] at h;exact wpAny_eqBool_int h
   ·rw [Ql] at h;exact BX i t y u _ _ _ _ h
  ·rcases fc hv with ⟨j,u,rfl,rfl⟩ | ⟨y,u,rfl,rfl⟩
   ·rw [Qm] at h;exact BY x t j u _ _ _ _ h
   ·rw [Qk] at h;exact wpAny_eqBool_str h
 «strs»:=fun k x t v h=>by
  rcases fc h with ⟨i,u,rfl,e⟩ | ⟨y,u,rfl,e⟩
  ·exact nomatch e
  ·injection e with e1 _
   subst e1
   cases v<;>rfl
theorem C4 (prog:aK) (w:aY) (i:Int) (t:Tok):(dJ prog w).is (.inl i) (.int i t)=true:=HR i t
theorem C5 (prog:aK) (w:aY) (x:Str) (t:Tok):(dJ prog w).is (.inr x) (.str x t)=true:=HS x t
end L2
namespace L2
open PySem PySem.Spec PyProof.Rows
inductive V where
 | non | bl (b:Bool) | int (i:Int) | str (x:Str) | byt (b:Array UInt8) | flt (b:UInt64) | ref (a:ah) | ty (n:String)
 deriving DecidableEq
def de:V->a8->Prop
 | .non,u=>u=fG
 | .bl b,u=>u=HA b
 | .int i,u=>∃ t,u=lQ i t
 | .str x,u=>∃ t,u=jd x t
 | .byt b,u=>∃ t,u=Value.bytes b t
 | .flt b,u=>∃ t,u=Value.float b t
 | .ref a,u=>u=c6 a
 | .ty n,u=>u=i5 n
abbrev cV:List V->List a8->Prop:=JP de
theorem cV.length {xs:List V}{us:List a8} (r:cV xs us):xs.length=us.length:=rY r
theorem cV.get {xs:List V}{us:List a8} (h:cV xs us):∀ {i:Nat}{x:V},xs[i]?=some x->∃ u,us[i]?=some u/\de x u:=by
 induction h with
 | nil=>intro i x e;cases e
 | cons r t ih =>
  intro i x e
  cases i with
  | zero=>cases e;exact ⟨_,rfl,r⟩
  | succ i=>have q:=ih (i:=i) e;exact q
theorem cV.set {x:V}{u:a8} (r:de x u):∀ {xs:List V}{us:List a8} (i:Nat),cV xs us->cV (xs.set i x) (us.set i u)
 | _,_,_,.nil=>.nil
 | _,_,0,.cons _ t=>.cons r t
 | _,_,i + 1,.cons q t=>.cons q (cV.set r i t)
theorem cV.append {xs ys:List V}{us ws:List a8} (h:cV xs us) (s:cV ys ws):cV (xs++ys) (us++ws):=by
 induction h with
 | nil=>exact s
 | cons r t ih=>exact .cons r ih
theorem cV.take:∀ {xs:List V}{us:List a8} (n:Nat),cV xs us->cV (xs.take n) (us.take n)
 | _,_,0,_=>.nil
 | _,_,_ + 1,.nil=>.nil
 | _,_,n + 1,.cons r t=>.cons r (cV.take n t)
theorem cV.drop:∀ {xs:List V}{us:List a8} (n:Nat),cV xs us->cV (xs.drop n) (us.drop n)
 | _,_,0,r=>r
 | _,_,_ + 1,.nil=>.nil
 | _,_,n + 1,.cons _ t=>cV.drop n t
def xj:Option V->Option a8->Prop
 | some v,some u=>de v u
 | none,none=>True
 | _,_=>False
def KV {κ:Type}:List (κ×V)->List (κ×a8)->Prop:=JP fun (p:κ×V) (q:κ×a8)=>p.1=q.1/\de p.2 q.2
def kV:fi->V
 | .inl i=>.int i
 | .inr x=>.str x
inductive HO where
 | lst (xs:List V)
 | tup (xs:List V)
 | dK (kvs:List (fi×V)) | dT (kvs:List (List fi×V))
 | set (S:Int->Bool) (n:Nat)
 | ins (C dx:ah) (fs:List (Str×V))
 | own (x:ah)
 | xd (fs:List (Str×V))
 | met (f x:ah)
 | rng (lo hi:Int)
 | frz (o:Obj) (u:HO)
 | tbl (ps:Array a8)
 | ext (φ:bp->Prop)
abbrev Hp:=ah->Option HO
def upd (H:Hp) (a:ah) (o:HO):Hp:=fun b=>if b=a then some o else H b
theorem bq {H:Hp}{a:ah}{o:HO}:upd H a o a=some o:=by unfold upd;rw [if_pos rfl]
theorem bj {H:Hp}{a b:ah}{o:HO} (h:b≠a):upd H a o b=H b:=by unfold upd;rw [if_neg h]
theorem RU {H:Hp}{a b:ah}{o u:HO} (h:H a=some o) (h':H b=some u) (d:o≠u):a≠b:=by
 intro e;subst e;rw [h] at h';exact d (bu h')
theorem bA {H:Hp}{a b:ah}{o:HO} (h:H a=some o) (h':H b=none):a≠b:=by
 intro e;subst e;rw [h] at h';cases h'
section
variable (P:aK) (w:aY)
def dL (H:Hp) (h:bp) (a:ah):HO->Prop
 | .lst xs=>xs.length<=sizeLine/\∃ (its:List a8) (n:Nat),cV xs its/\h.get? a=some { cls:=.type "list",data:=.seq its.toArray n }
 | .tup xs=>xs.length<=sizeLine/\∃ its:List a8,cV xs its/\Jn h a its.toArray
 | .dK kvs=>kvs.length<=sizeLine/\(a == jB)=false/\∃ vs,KV kvs vs/\h.DictOf (dJ P w) a vs
 | .dT kvs=>kvs.length<=sizeLine/\(a == jB)=false/\∃ xs:List (List fi×ah×a8),
   JP (fun (p:List fi×V) (q:List fi×ah×a8)=>p.1=q.1/\H q.2.1=some (.tup (p.1.map kV))/\de p.2 q.2.2) kvs xs /\
   ∃ o es ep,h.get? a=some o/\o.ExactDict/\o.data=.dict es ep/\es.toList=xs.map (entryOfKey (Au (dJ P w)))/\(xs.map (·.1)).Nodup
 | .set S n=>h.SetOf (intKind P w) a S n
 | .ins C dx fs=>H dx=some (.own a)/\fs.length<=1000/\dx≠a/\h.get? a=some (wc C dx) /\
   ∃ mA,h.Ns1 dx mA/\(∀ f,xj (fs.lookup f) (mA f))/\PySem.Within mA (fs.map (·.1))
 | .own _=>∃ o,h.get? a=some o
 | .xd fs=>∃ mA,h.Ns1 a mA/\∀ f,xj (fs.lookup f) (mA f)
 | .rng lo hi=>∃ t u v,h.get? a=some { cls:=.type "range",data:=.fields #[.int lo t,.int hi u,.int 1 v] }
 | .frz o u=>h.get? a=some o/\dL H h a u
 | .tbl ps=>h.get? a=some { cls:=.none,data:=.fields ps }
 | .met f x=>h.get? a=some (tG (.ref f) (.ref x))
 | .ext φ=>φ h/\(∃ o,h.get? a=some o)/\∀ h1 h2:bp,φ h1->(∀ o,h1.get? a=some o->h2.get? a=some o)->φ h2
def pC (H:Hp) (h:bp):Prop:=∀ a o,H a=some o->dL P w H h a o
end
section
variable {P:aK}{w:aY}{H H':Hp}{h h':bp}{a:ah}{o:HO}
theorem dL.lt (x:dL P w H h a o):a<h.objs.size:=by
 cases o with
 | lst xs=>obtain ⟨_,_,_,_,e⟩:=x;exact am e
 | tup xs=>obtain ⟨_,_,_,p⟩:=x;exact p.lt
 | dK kvs=>obtain ⟨_,_,_,_,o,_,_,e,_⟩:=x;exact am e
 | dT kvs=>obtain ⟨_,_,_,_,o,_,_,e,_⟩:=x;exact am e
 | set S n=>obtain ⟨o,_,_,_,e,_⟩:=x;exact am e
 | ins C dx fs=>obtain ⟨_,_,_,e,_⟩:=x;exact am e
 | own y=>obtain ⟨_,e⟩:=x;exact am e
 | xd fs=>obtain ⟨_,⟨_,_,_,e,_⟩,_⟩:=x;exact am e
 | rng lo hi=>obtain ⟨_,_,_,e⟩:=x;exact am e
 | frz ob u=>obtain ⟨e,_⟩:=x;exact am e
 | tbl ps=>exact am (show h.get? a=some _ from x)
 | met f y=>exact am (show h.get? a=some _ from x)
 | ext φ=>obtain ⟨_,⟨_,e⟩,_⟩:=x;exact am e
theorem Paired.mapP {α β:Type}{F G:α->β->Prop}{l₁:List α}{l₂:List β} (h:JP F l₁ l₂) (f:∀ a b,F a b->G a b):JP G l₁ l₂:=by
 induction h with
 | nil=>exact .nil
 | cons r t ih=>exact .cons (f _ _ r) ih
theorem dL.stay (x:dL P w H h a o) (k:∀ b u,(b=a\/H b=some (.own a))->h.get? b=some u->h'.get? b=some u)
  (ho:∀ b,H b=some (.own a)->H' b=some (.own a)) (ht:∀ b xs,H b=some (.tup xs)->H' b=some (.tup xs)):dL P w H' h' a o:=by
 induction o with
 | lst xs=>obtain ⟨z,its,n,r,e⟩:=x;exact ⟨z,its,n,r,k _ _ (.inl rfl) e⟩
 | tup xs=>obtain ⟨z,its,r,ob,e,c⟩:=x;exact ⟨z,its,r,ob,k _ _ (.inl rfl) e,c⟩
 | dK kvs=>obtain ⟨z,y,vs,r,ob,es,ep,e,c⟩:=x;exact ⟨z,y,vs,r,ob,es,ep,k _ _ (.inl rfl) e,c⟩
 | dT kvs =>
  obtain ⟨z,y,xs,r,ob,es,ep,e,c⟩:=x
  exact ⟨z,y,xs,Paired.mapP r fun p q z=>⟨z.1,ht _ _ z.2.1,z.2.2⟩,ob,es,ep,k _ _ (.inl rfl) e,c⟩
 | set S n=>obtain ⟨ob,es,ep,t,e,c⟩:=x;exact ⟨ob,es,ep,t,k _ _ (.inl rfl) e,c⟩
 | ins C dx fs =>
  obtain ⟨d,z,ne,e,mA,⟨od,es,ep,e2,c⟩,r⟩:=x
  exact ⟨ho _ d,z,ne,k _ _ (.inl rfl) e,mA,⟨od,es,ep,k _ _ (.inr d) e2,c⟩,r⟩
 | own y=>obtain ⟨ob,e⟩:=x;exact ⟨ob,k _ _ (.inl rfl) e⟩
 | xd fs=>obtain ⟨mA,⟨od,es,ep,e,c⟩,r⟩:=x;exact ⟨mA,⟨od,es,ep,k _ _ (.inl rfl) e,c⟩,r⟩
 | rng lo hi=>obtain ⟨t,u,v,e⟩:=x;exact ⟨t,u,v,k _ _ (.inl rfl) e⟩
 | frz ob u ih=>obtain ⟨e,q⟩:=x;exact ⟨k _ _ (.inl rfl) e,ih q⟩
 | tbl ps =>
  have e:h.get? a=some { cls:=.none,data:=.fields ps }:=x
  show h'.get? a=some { cls:=.none,data:=.fields ps }
  exact k a _ (.inl rfl) e
 | met f y =>
  have e:h.get? a=some (tG (.ref f) (.ref y)):=x
  show h'.get? a=some (tG (.ref f) (.ref y))
  exact k a _ (.inl rfl) e
 | ext φ=>obtain ⟨p,⟨o,e⟩,st⟩:=x;exact ⟨st _ _ p fun o q=>k _ _ (.inl rfl) q,⟨o,k _ _ (.inl rfl) e⟩,st⟩
theorem pC.lt (x:pC P w H h) (e:H a=some o):a<h.objs.size:=(x a o e).lt
theorem pC.fresh (x:pC P w H h) (e:h.objs.size<=a):H a=none:=by
 cases q:H a with
 | none=>rfl
 | some u=>exact absurd (aJ (x.lt q) e) (bV _)
theorem pC.kept (x:pC P w H h) (k:∀ b u,h.get? b=some u->h'.get? b=some u):pC P w H h':=fun a o e =>
 (x a o e).stay (fun b u _ q=>k b u q) (fun _ q=>q) fun _ _ q=>q
theorem pC.laid (x:pC P w H h) (k:∀ b u,h.get? b=some u->h'.get? b=some u) (hp:h.objs.size<=a) (new:dL P w (upd H a o) h' a o):pC P w (upd H a o) h':=fun b u e=>by
 have hn:=x.fresh hp
 by_cases hb:b=a
 ·subst hb;rw [bq] at e;cases e;exact new
 ·rw [bj hb] at e
  exact (x b u e).stay (fun c v _ q=>k c v q) (fun c q=>by rw [bj (bA q hn)];exact q) fun c xs q=>by rw [bj (bA q hn)];exact q
end
def Rd (H:Hp) (a:ah) (u:HO):Prop:=H a=some u\/∃ o,H a=some (.frz o u)
theorem Rd.ok {P:aK}{w:aY}{H:Hp}{h:bp}{a:ah}{u:HO} (r:Rd H a u) (x:pC P w H h):dL P w H h a u:=by
 rcases r with r | ⟨o,r⟩
 ·exact x a u r
 ·obtain ⟨_,q⟩:=x a _ r
  exact q
def RV:Option HO->Prop
 | some (.lst _)=>True
 | some (.dK _)=>True
 | some (.dT _)=>True
 | some (.set _ _)=>True
 | some (.ins _ _ _)=>True
 | some (.ext _)=>True
 | _=>False
section
variable {P:aK}{w:aY}{H:Hp}{h h':bp}{x e:ah}{o':HO}
theorem pC.write (ok:pC P w H h) (mu:RV (H x)) (he:e=x\/H e=some (.own x)) (k:∀ b u,b≠e->h.get? b=some u->h'.get? b=some u) (heo:∃ u,h'.get? e=some u)
  (new:dL P w (upd H x o') h' x o'):pC P w (upd H x o') h':=fun b u q=>by
 have nown:∀ c y,H c=some (.own y)->c≠x:=fun c y r z=>by subst z;rw [r] at mu;exact mu
 have ntup:∀ c xs,H c=some (.tup xs)->c≠x:=fun c xs r z=>by subst z;rw [r] at mu;exact mu
 by_cases hb:b=x
 ·subst hb;rw [bq] at q;cases q;exact new
 ·rw [bj hb] at q
  by_cases hbe:b=e
  ·have q':H b=some (.own x):=by
    rcases he with z | z
    ·exact absurd (hbe.trans z) hb
    ·rw [hbe];exact z
   rw [q] at q';cases q'
   obtain ⟨v,hv⟩:=heo
   exact ⟨v,by rw [hbe];exact hv⟩
  ·refine (ok b u q).stay (fun c v hc r=>k c v ?_ r) (fun c r=>by rw [bj (nown c b r)];exact r) fun c xs r=>by rw [bj (ntup c xs r)];exact r
   rcases hc with rfl | hc
   ·exact hbe
   ·rintro rfl
    rcases he with z | z
    ·exact nown c b hc z
    ·rw [hc] at z;cases z;exact hb rfl
end
structure Un (fs ex:List ah) (H H':Hp) (h h':bp):Prop where
 keep:∀ b o,h.get? b=some o->H b=none->b∉fs->b∉ex->h'.get? b=some o
 slot:∀ b o,h.get? b=some o->H b=none->b∈fs->b∉ex->∃ sl,h'.get? b=some { o with slots:=sl }
 free:∀ b o,h.get? b=some o->H b=none->b∉ex->H' b=none
 there:∀ b o,h.get? b=some o->b∉ex->∃ o',h'.get? b=some o'
 tups:∀ b xs,H b=some (.tup xs)->H' b=some (.tup xs)
 frzs:∀ b o u,H b=some (.frz o u)->H' b=some (.frz o u)
 tbls:∀ b ps,H b=some (.tbl ps)->∃ more,H' b=some (.tbl (ps++more))
section
variable {fs fs' ex ex':List ah}{H H1 H2:Hp}{h h1 h2 h':bp}{a x e:ah}{o:HO}
theorem Un.any (u:Un fs ex H H1 h h1) {b:ah}{ob:Obj} (q:h.get? b=some ob) (n:H b=none) (hx:b∉ex):∃ sl,h1.get? b=some { ob with slots:=sl }:=by
 by_cases hb:b∈fs
 ·exact u.slot b ob q n hb hx
 ·exact ⟨ob.slots,u.keep b ob q n hb hx⟩
theorem Un.kept (k:∀ b u,h.get? b=some u->h'.get? b=some u):Un fs ex H H h h' :=
 ⟨fun b ob q _ _ _=>k b ob q,fun b ob q _ _ _=>⟨ob.slots,k b ob q⟩,fun _ _ _ n _=>n,fun b ob q _=>⟨ob,k b ob q⟩,fun _ _ q=>q,fun _ _ _ q=>q,fun _ ps q=>⟨#[],by rw [q];simp⟩⟩
theorem Un.refl:Un fs ex H H h h:=Un.kept fun _ _ q=>q
theorem Un.laid (k:∀ b u,h.get? b=some u->h'.get? b=some u) (hp:h.objs.size<=a) (hn:H a=none):Un fs ex H (upd H a o) h h' where
 keep:=fun b u q _ _ _=>k b u q
 slot:=fun b u q _ _ _=>⟨u.slots,k b u q⟩
 free:=fun b u q n _=>by rw [bj (aE (aJ (am q) hp))];exact n
 there:=fun b u q _=>⟨u,k b u q⟩
 tups:=fun b xs q=>by rw [bj (bA q hn)];exact q
 frzs:=fun b u xs q=>by rw [bj (bA q hn)];exact q
 tbls:=fun b ps q=>⟨#[],by rw [bj (bA q hn),q];simp⟩
theorem Un.write (mu:RV (H x)) (he:e=x\/H e=some (.own x)) (k:∀ b u,b≠e->h.get? b=some u->h'.get? b=some u) (heo:∃ u,h'.get? e=some u):Un fs ex H (upd H x o) h h':=by
 have hx:∀ b,H b=none->b≠x:=fun b n z=>by subst z;rw [n] at mu;exact mu
 have hb:∀ b,H b=none->b≠e:=fun b n z=>by
  subst z
  rcases he with r | r
  ·exact hx b n r
  ·rw [n] at r;cases r
 have hm:∀ b u,H b=some u->¬ RV (some u)->b≠x:=fun b u q nm z=>by subst z;rw [q] at mu;exact nm mu
 refine ⟨fun b u q n _ _=>k b u (hb b n) q,fun b u q n _ _=>⟨u.slots,k b u (hb b n) q⟩,fun b u q n _=>by rw [bj (hx b n)];exact n,fun b u q _=>?_,
  fun b xs q=>by rw [bj (hm b _ q fun z=>z)];exact q,fun b u xs q=>by rw [bj (hm b _ q fun z=>z)];exact q,fun b ps q=>⟨#[],by rw [bj (hm b _ q fun z=>z),q];simp⟩⟩
 by_cases hbe:b=e
 ·subst hbe;exact heo
 ·exact ⟨u,k b u hbe q⟩
end
def U5 (h:bp) (H:Hp):List ah:=(bi h.objs.size).filter fun a=>(H a).isSome
def AC (h:bp) (H:Hp):bp:=Jo h (U5 h H)
theorem HU (h:bp) (H:Hp):(AC h H).objs.size=h.objs.size:=PySem.W.hideAll_size _ _
theorem K5 {h:bp}{H:Hp}{b:ah}{o:Obj} (e:h.get? b=some o) (n:H b=none):(AC h H).get? b=some o :=
 Eb _ e fun hm=>by
  have q:(H b).isSome=true:=(List.mem_filter.mp hm).2
  rw [n] at q;simp at q
theorem NC {h:bp}{H:Hp}{b:ah}{o:Obj} (e:(AC h H).get? b=some o):h.get? b=some o/\H b=none:=by
 have e':h.get? b=some o:=Em (U5 h H) e
 refine ⟨e',?_⟩
 cases q:H b with
 | none=>rfl
 | some x =>
  have hm:b∈U5 h H:=List.mem_filter.mpr ⟨List.mem_range.mpr (am e'),by simp [q]⟩
  have z:(AC h H).get? b=none:=PySem.W.hideAll_none (U5 h H) hm
  rw [z] at e;cases e
def ND (g h:bp) (L:ah):List (ah×Obj):=(bi h.objs.size).filterMap fun a=>if a=L\/(g.get? a).isSome=true then none else (h.get? a).map fun o=>(a,o)
def bY (g h:bp) (L d:ah):List (ah×Obj):=(ND g h L).filter fun p=>decide (p.1≠d)
end L2
namespace L2
open PySem PySem.Spec PyProof.Rows
structure Mod (K:a6) (mg:Str->Option a8) (base:bp):Prop where
 kin:K.In base
 glob:base.Ns bB mg
 blt:∃ mb,base.Ns builtinsNs mb/\∀ x:Str,x≠"__name__"->mb x=gE x
 nolimit:base.NoLimit
structure Cx where
 prog:aK
 w:aY
 K:a6
 mg:Str->Option a8
 base:bp
 A:b6
 N:List Str
 s₀:ac
 H₀:Hp
 env:Env
 outer:List Env
 stack:List Env
 ex:List ah
 fn:Str->Bool
 calm:Bool
 pn:List (ah×Obj)
 xe:a8->ac->Prop
def rK (l:List Env):List ah:=l.filterMap (·.frame)
abbrev Cx.fs (X:Cx):List ah:=rK X.outer
def JF (sc:e7) (x:Str):Prop:=sc.names.lookup x=some .local\/sc.names.lookup x=some .cell\/sc.names.lookup x=some .free
def NE (sc:e7) (x:Str):Prop:=sc.names.lookup x=some .local\/sc.names.lookup x=some .cell
def Um (env:Env) (h:bp) (m:Str->Option a8) (x:Str) (u:a8):Prop :=
 (env.kindOf x=some .local/\m x=some u)\/((env.kindOf x=some .cell\/env.kindOf x=some .free)/\∃ c,env.cells.lookup x=some c/\h.IsCell c (some u))
structure Cx.Ok (X:Cx):Prop where
 mod:Mod X.K X.mg X.base
 kind:X.env.scope.kind=.function
 glob:X.env.globals=bB
 blt:X.env.builtins=builtinsNs
 above:X.s₀.heap.objs.size<=X.env.locals
 inj:∀ x y c,X.env.cells.lookup x=some c->X.env.cells.lookup y=some c->x=y
 has:∀ x,(X.env.kindOf x=some .cell\/X.env.kindOf x=some .free)->∃ c,X.env.cells.lookup x=some c
 cab:∀ x c,X.fn x=true->X.env.cells.lookup x=some c->X.s₀.heap.objs.size<=c
 hd:X.calm=true->X.A.handled=none
 frames:X.A.frames=some X.stack
 stk:X.stack=X.outer\/(X.stack=X.env::X.outer/\X.env.frame=some X.env.locals)
 exf:∀ b∈X.ex,b≠X.env.locals/\∀ x c,X.env.cells.lookup x=some c->c≠b
 bs:∀ b o,X.base.get? b=some o->X.s₀.heap.get? b=some o/\X.H₀ b=none
 bsz:X.base.objs.size<=X.s₀.heap.objs.size
 noex:∀ b o,X.base.get? b=some o->b∉X.ex
 exfs:∀ b∈X.ex,b∉X.fs
 funs:X.s₀.heap.FunFrames X.base X.outer
 frf:∀ b∈X.fs,X.H₀ b=none
structure bQ (X:Cx) (pins:List (ah×Obj)) (σ:List (Option V)) (H:Hp) (s:ac):Prop where
 ok:X.Ok
 os:s.os=X.s₀.os
 bare:pi s.gens
 base:Un X.fs X.ex X.H₀ H X.s₀.heap s.heap
 loc:∃ m,s.heap.Ns X.env.locals m/\∀ (i:Nat) (x:Str) (v:V),X.N[i]?=some x->σ[i]?=some (some v)->JF X.env.scope x->∃ u,de v u/\Um X.env s.heap m x u
 cell:∀ x c,X.env.cells.lookup x=some c->∃ v,s.heap.IsCell c v
 free:H X.env.locals=none
 freeC:∀ x c,X.env.cells.lookup x=some c->H c=none
 pin:∀ p∈X.pn++pins,s.heap.get? p.1=some p.2/\H p.1=none/\p.1≠X.env.locals/\p.1∉X.fs/\∀ v,p.2.data≠.cell v
 hok:pC X.prog X.w H s.heap
 len:σ.length=X.N.length
section
variable {X:Cx}{pins:List (ah×Obj)}{σ:List (Option V)}{H H':Hp}{s:ac}{h':bp}
theorem Cx.Ok.nofr (ok:X.Ok) {b:ah}{o:Obj} (e:X.base.get? b=some o):b∉X.fs:=fun hb=>by
 have:=(ok.funs.mem hb).1
 rw [e] at this;cases this
theorem bQ.bs (I:bQ X pins σ H s):∀ b o,X.base.get? b=some o->s.heap.get? b=some o/\H b=none:=fun b o e =>
 ⟨I.base.keep b o (I.ok.bs b o e).1 (I.ok.bs b o e).2 (I.ok.nofr e) (I.ok.noex b o e),I.base.free b o (I.ok.bs b o e).1 (I.ok.bs b o e).2 (I.ok.noex b o e)⟩
theorem bQ.bk (I:bQ X pins σ H s):∀ b o,X.base.get? b=some o->s.heap.get? b=some o:=fun b o e=>(I.bs b o e).1
theorem bQ.mod (I:bQ X pins σ H s):Mod X.K X.mg X.base:=I.ok.mod
theorem bQ.kIn (I:bQ X pins σ H s):X.K.In s.heap:=I.ok.mod.kin.keeps I.bk
theorem bQ.fr (I:bQ X pins σ H s):∃ m,Fr X.base X.env.locals s.heap m :=
 let ⟨m,hn,_⟩:=I.loc
 ⟨m,hn,I.bk,bU I.ok.bsz I.ok.above⟩
theorem bQ.lt (I:bQ X pins σ H s):X.env.locals<s.heap.objs.size:=let ⟨_,hn,_⟩:=I.loc;hn.lt
theorem bQ.sz (I:bQ X pins σ H s):X.s₀.heap.objs.size<=s.heap.objs.size:=bU I.ok.above (cc I.lt)
theorem bQ.nofs (I:bQ X pins σ H s) {a:ah} (h:s.heap.objs.size<=a):a∉X.fs:=fun hb=>by
 obtain ⟨_,o,ho,_⟩:=I.ok.funs.mem hb
 exact absurd (aJ (am ho) (bU I.sz h)) (bV _)
theorem bQ.cne (I:bQ X pins σ H s):∀ x c,X.env.cells.lookup x=some c->c≠X.env.locals:=fun x c e z=>by
 obtain ⟨v,o,ho,hd⟩:=I.cell x c e
 obtain ⟨m,⟨o',es,ep,ho',hd',_⟩,_⟩:=I.loc
 rw [z,ho'] at ho;cases ho;rw [hd'] at hd;cases hd
theorem bQ.funs (I:bQ X pins σ H s):s.heap.FunFrames X.base X.outer:=by
 have all:∀ (l:List Env),(∀ b∈rK l,b∈X.fs)->X.s₀.heap.FunFrames X.base l->s.heap.FunFrames X.base l:=by
  intro l
  induction l with
  | nil=>intro _ _;trivial
  | cons env r ih =>
   intro hs hl
   obtain ⟨hk,⟨L,o,hf,hn,ho,hd⟩,hr⟩:=hl
   have hL:L∈X.fs:=hs L (by unfold rK;rw [tf,hf];exact al)
   obtain ⟨sl,e⟩:=I.base.slot L o ho (I.ok.frf L hL) hL fun z=>I.ok.exfs L z hL
   exact ⟨hk,⟨L,_,hf,hn,e,hd⟩,ih (fun b hb=>hs b (by unfold rK;rw [tf,hf];exact aj _ hb)) hr⟩
 exact all X.outer (fun _ hb=>hb) I.ok.funs
theorem bQ.stack (I:bQ X pins σ H s):s.heap.FunFrames X.base X.stack:=by
 rcases I.ok.stk with e | ⟨e,hf⟩
 ·rw [e];exact I.funs
 ·rw [e]
  obtain ⟨m,hn,_⟩:=I.loc
  refine .cons (by rw [I.ok.kind];decide) hf hn ?_ I.funs
  exact Heap.get?_none_of_le (bU I.ok.bsz I.ok.above)
theorem bQ.stkSub (I:bQ X pins σ H s):∀ b∈rK X.stack,b∈X.env.locals::X.fs:=fun b hb=>by
 rcases I.ok.stk with e | ⟨e,hf⟩
 ·rw [e] at hb;exact aj _ hb
 ·rw [e] at hb
  unfold rK at hb
  rw [tf,hf] at hb
  exact hb
theorem bQ.stkFree (I:bQ X pins σ H s):∀ b∈rK X.stack,H b=none:=fun b hb=>by
 rcases List.mem_cons.mp (I.stkSub b hb) with e | hb
 ·rw [e];exact I.free
 ·obtain ⟨_,o,ho,_⟩:=I.ok.funs.mem hb
  exact I.base.free b o ho (I.ok.frf b hb) fun z=>I.ok.exfs b z hb
theorem bQ.step {g':Array Eo}{t':Nat}{d':Jp}{ch:List ah} (I:bQ X pins σ H s)
  (hch:∀ b∈ch,(b∈X.ex\/X.s₀.heap.objs.size<=b)/\b≠X.env.locals/\(∀ x c,X.env.cells.lookup x=some c->c≠b)/\∀ p∈X.pn++pins,p.1≠b)
  (keep:∀ b o,b≠X.env.locals->b∉X.fs->b∉ch->s.heap.get? b=some o->H b=none->h'.get? b=some o)
  (slot:∀ b o,b≠X.env.locals->b∈X.fs->b∉ch->s.heap.get? b=some o->H b=none->∃ sl,h'.get? b=some { o with slots:=sl }) (free:∀ b o,b∉ch->s.heap.get? b=some o->H b=none->H' b=none)
  (there:∀ b o,b∉ch->s.heap.get? b=some o->∃ o',h'.get? b=some o')
  (tups:∀ b xs,H b=some (.tup xs)->H' b=some (.tup xs)) (frzs:∀ b o u,H b=some (.frz o u)->H' b=some (.frz o u)) (tbls:∀ b ps,H b=some (.tbl ps)->∃ more,H' b=some (.tbl (ps++more)))
  (ns:∀ m,s.heap.Ns X.env.locals m->h'.Ns X.env.locals m) (hok:pC X.prog X.w H' h') (hg:pi g') :
  bQ X pins σ H' { s with heap:=h',gens:=g',drawn:=d',toks:=t' }:=by
 have neL:∀ b o,X.s₀.heap.get? b=some o->b≠X.env.locals:=fun b o e=>aE (aJ (am e) I.ok.above)
 have neC:∀ b o,X.s₀.heap.get? b=some o->b∉X.ex->b∉ch:=fun b o e hx hb=>by
  rcases (hch b hb).1 with z | z
  ·exact hx z
  ·exact absurd (aJ (am e) z) (bV _)
 have cellK:∀ x c,X.env.cells.lookup x=some c->∀ v,s.heap.IsCell c v->h'.IsCell c v:=fun x c e v h_0=>by
  obtain ⟨o,ho,hd⟩:=h_0
  have nch:c∉ch:=fun z=>(hch c z).2.2.1 x c e rfl
  by_cases hc:c∈X.fs
  ·obtain ⟨sl,q⟩:=slot c o (I.cne x c e) hc nch ho (I.freeC x c e)
   exact ⟨_,q,hd⟩
  ·exact ⟨o,keep c o (I.cne x c e) hc nch ho (I.freeC x c e),hd⟩
 refine ⟨I.ok,I.os,hg,⟨fun b o e n hb hx=>?_,fun b o e n hb hx=>?_,fun b o e n hx=>?_,fun b o e hx=>?_,fun b xs e=>tups b xs (I.base.tups b xs e),fun b o xs e=>frzs b o xs (I.base.frzs b o xs e),fun b ps e=>?_⟩,?_,fun x c e=>?_,?_,fun x c e=>?_,fun p hp=>?_,hok,I.len⟩
 ·exact keep b o (neL b o e) hb (neC b o e hx) (I.base.keep b o e n hb hx) (I.base.free b o e n hx)
 ·obtain ⟨sl,e1⟩:=I.base.slot b o e n hb hx
  obtain ⟨sl',e2⟩:=slot b _ (neL b o e) hb (neC b o e hx) e1 (I.base.free b o e n hx)
  exact ⟨sl',e2⟩
 ·obtain ⟨o',e1⟩:=I.base.there b o e hx
  exact free b o' (neC b o e hx) e1 (I.base.free b o e n hx)
 ·obtain ⟨o',e1⟩:=I.base.there b o e hx
  exact there b o' (neC b o e hx) e1
 ·obtain ⟨m1,e1⟩:=I.base.tbls b ps e
  obtain ⟨m2,e2⟩:=tbls b _ e1
  exact ⟨m1++m2,by rw [e2,HB]⟩
 ·obtain ⟨m,hn,hl⟩:=I.loc
  refine ⟨m,ns m hn,fun i x v e1 e2 e3=>?_⟩
  obtain ⟨u,r,l⟩:=hl i x v e1 e2 e3
  refine ⟨u,r,?_⟩
  rcases l with l | ⟨k,c,e,z⟩
  ·exact .inl l
  ·exact .inr ⟨k,c,e,cellK x c e _ z⟩
 ·obtain ⟨v,z⟩:=I.cell x c e
  exact ⟨v,cellK x c e v z⟩
 ·obtain ⟨m,⟨o,_,_,ho,_⟩,_⟩:=I.loc
  exact free _ o (fun z=>(hch _ z).2.1 rfl) ho I.free
 ·obtain ⟨v,o,ho,hd⟩:=I.cell x c e
  exact free c o (fun z=>(hch c z).2.2.1 x c e rfl) ho (I.freeC x c e)
 ·obtain ⟨e,n,ne,nf,d⟩:=I.pin p hp
  have nch:p.1∉ch:=fun z=>(hch p.1 z).2.2.2 p hp rfl
  exact ⟨keep p.1 p.2 ne nf nch e n,free p.1 p.2 nch e n,ne,nf,d⟩
theorem bQ.un {t':Nat} (I:bQ X pins σ H s) (u:Un X.fs [] H H' s.heap h') (hok:pC X.prog X.w H' h'):bQ X pins σ H' { s with heap:=h',toks:=t' }:=by
 obtain ⟨m,⟨o,es,ep,ho,r⟩,_⟩:=id I.loc
 obtain ⟨sl,hL⟩:=u.any ho I.free (by simp)
 exact I.step (g':=s.gens) (d':=s.drawn) (ch:=[]) (fun _ z=>nomatch z) (fun b o _ hb _ e n=>u.keep b o e n hb (by simp)) (fun b o _ hb _ e n=>u.slot b o e n hb (by simp)) (fun b o _ e n=>u.free b o e n (by simp)) (fun b o _ e=>u.there b o e (by simp)) u.tups u.frzs u.tbls (fun m' hm=>by
  obtain ⟨o',es',ep',ho',r'⟩:=hm
  rw [ho] at ho';cases ho'
  exact ⟨_,es',ep',hL,r'⟩) hok I.bare
theorem bQ.call {g':Array Eo}{t':Nat}{d':Jp}{ch:List ah} (I:bQ X pins σ H s) (u:Un (rK X.stack) ch H H' s.heap h') (hok:pC X.prog X.w H' h') (hg:pi g')
  (hch:∀ b∈ch,(b∈X.ex\/X.s₀.heap.objs.size<=b)/\b≠X.env.locals/\(∀ x c,X.env.cells.lookup x=some c->c≠b)/\∀ p∈X.pn++pins,p.1≠b) :
  bQ X pins σ H' { s with heap:=h',gens:=g',drawn:=d',toks:=t' }:=by
 obtain ⟨m,⟨o,es,ep,ho,r⟩,_⟩:=id I.loc
 obtain ⟨sl,hL⟩:=u.any ho I.free fun z=>(hch _ z).2.1 rfl
 exact I.step (ch:=ch) hch (fun b o hL hb hc e n=>u.keep b o e n (fun z=>(List.mem_cons.mp (I.stkSub b z)).elim hL hb) hc) (fun b o _ _ hc e n=>u.any e n hc) (fun b o hc e n=>u.free b o e n hc) (fun b o hc e=>u.there b o e hc) u.tups u.frzs u.tbls (fun m' hm=>by
  obtain ⟨o',es',ep',ho',r'⟩:=hm
  rw [ho] at ho';cases ho'
  exact ⟨_,es',ep',hL,r'⟩) hok hg
theorem bQ.turned {t':Nat}{it:ah} (I:bQ X pins σ H s) (k:∀ b o,b≠it->s.heap.get? b=some o->h'.get? b=some o) (hn:H it=none) (hL:it≠X.env.locals)
  (h1:it∈X.ex\/X.s₀.heap.objs.size<=it) (h2:∀ x c,X.env.cells.lookup x=some c->c≠it) (h3:∀ p∈X.pn++pins,p.1≠it):bQ X pins σ H { s with heap:=h',toks:=t' }:=by
 have nit:∀ b u,H b=some u->b≠it:=fun b u e z=>by rw [z,hn] at e;cases e
 refine I.step (g':=s.gens) (d':=s.drawn) (ch:=[it]) (fun b hb=>?_) (fun b o _ _ hc e _=>k b o (fun z=>hc (by simp [z])) e) (fun b o _ _ hc e _=>⟨o.slots,k b o (fun z=>hc (by simp [z])) e⟩) (fun _ _ _ _ n=>n)
  (fun b o hc e=>⟨o,k b o (fun z=>hc (by simp [z])) e⟩) (fun _ _ e=>e) (fun _ _ _ e=>e) (fun b ps e=>⟨#[],by rw [e];simp⟩) (fun m hm=>?_) (fun b u e=>?_) I.bare
 ·have e:b=it:=by simpa using hb
  subst e
  exact ⟨h1,hL,h2,h3⟩
 ·obtain ⟨o,es,ep,ho,r⟩:=hm
  exact ⟨o,es,ep,k _ o (cW hL) ho,r⟩
 ·refine (I.hok b u e).stay (fun c v hc q=>k c v ?_ q) (fun _ q=>q) fun _ _ q=>q
  rcases hc with z | z
  ·rw [z];exact nit b u e
  ·exact nit c _ z
theorem bQ.tok (I:bQ X pins σ H s) (t:Nat):bQ X pins σ H { s with toks:=t }:=I.un (h':=s.heap) (t':=t) Un.refl I.hok
theorem bQ.kept {t':Nat} (I:bQ X pins σ H s) (k:∀ b u,s.heap.get? b=some u->h'.get? b=some u):bQ X pins σ H { s with heap:=h',toks:=t' }:=I.un (Un.kept k) (I.hok.kept k)
theorem bQ.laid {a:ah}{o:HO}{t':Nat} (I:bQ X pins σ H s) (k:∀ b u,s.heap.get? b=some u->h'.get? b=some u) (hp:s.heap.objs.size<=a) (new:dL X.prog X.w (upd H a o) h' a o) :
  bQ X pins σ (upd H a o) { s with heap:=h',toks:=t' }:=I.un (Un.laid k hp (I.hok.fresh hp)) (I.hok.laid k hp new)
theorem bQ.write {x e:ah}{o:HO}{t':Nat} (I:bQ X pins σ H s) (mu:RV (H x)) (he:e=x\/H e=some (.own x)) (k:∀ b u,b≠e->s.heap.get? b=some u->h'.get? b=some u) (heo:∃ u,h'.get? e=some u)
  (new:dL X.prog X.w (upd H x o) h' x o):bQ X pins σ (upd H x o) { s with heap:=h',toks:=t' }:=I.un (Un.write mu he k heo) (I.hok.write mu he k heo new)
theorem bQ.weak {σ':List (Option V)} (I:bQ X pins σ H s) (hl:σ'.length=σ.length) (w:∀ (i:Nat) v,σ'[i]?=some (some v)->σ[i]?=some (some v)):bQ X pins σ' H s :=
 ⟨I.ok,I.os,I.bare,I.base,let ⟨m,hn,hl'⟩:=I.loc;⟨m,hn,fun i x v e1 e2 e3=>hl' i x v e1 (w i v e2) e3⟩,I.cell,I.free,I.freeC,I.pin,I.hok,hl.trans I.len⟩
theorem bQ.pins_of {pins':List (ah×Obj)} (I:bQ X pins σ H s) (h:∀ p∈pins',s.heap.get? p.1=some p.2/\H p.1=none/\p.1≠X.env.locals/\p.1∉X.fs/\∀ v,p.2.data≠.cell v):bQ X pins' σ H s :=
 ⟨I.ok,I.os,I.bare,I.base,I.loc,I.cell,I.free,I.freeC,fun p hp=>(List.mem_append.mp hp).elim (fun z=>I.pin p (eM _ z)) (h p),I.hok,I.len⟩
theorem C6 {N:List Str} (hN:N.Nodup) {i j:Nat}{x:Str} (a:N[i]?=some x) (b:N[j]?=some x):i=j:=by
 obtain ⟨h1,e1⟩:=List.getElem?_eq_some_iff.mp a
 obtain ⟨h2,e2⟩:=List.getElem?_eq_some_iff.mp b
 exact (List.getElem_inj hN).mp (e1.trans e2.symm)
theorem zH {M:yT}{A:b6}{E:a8->ac->Prop}{i:Nat}{x:Str}{v:V}{u:a8}{Q:Unit->ac->Prop} (I:bQ X pins σ H s) (hN:X.N.Nodup) (hi:X.N[i]?=some x) (hx:NE X.env.scope x) (r:de v u)
  (h:∀ s',bQ X pins (σ.set i (some v)) H s'->(∃ a,bG a s.heap s'.heap/\(a=X.env.locals\/X.env.cells.lookup x=some a))->Q () s') (hf:X.fn x=true\/X.env.scope.names.lookup x=some .local:=by first | exact .inl rfl | exact .inr rfl | assumption):au M A (storeName X.env x u) Q E s:=by
 obtain ⟨m,hn,hl⟩:=id I.loc
 have hcls:(X.env.scope.kind == .class || (X.env.scope.kind == .module && X.env.locals != X.env.globals))=false:=by rw [I.ok.kind];rfl
 have hiσ:i<σ.length:=by rw [I.len];exact (List.getElem?_eq_some_iff.mp hi).1
 have cne:=I.cne
 have tracked:∀ {a:ah}{h':bp},(∃ o,s.heap.get? a=some o/\H a=none)->bG a s.heap h'->pC X.prog X.w H h':=fun {a h'} ha hs b ob e=>by
  obtain ⟨_,_,hfree⟩:=ha
  refine (I.hok b ob e).stay (fun c w' hc q=>(hs.2 c ?_).trans q) (fun _ q=>q) fun _ _ q=>q
  rintro rfl
  rcases hc with rfl | hc
  ·rw [hfree] at e;cases e
  ·rw [hfree] at hc;cases hc
 rcases hx with hk | hk
 ·refine wpAny_storeName_local hk hn (fun h' hn' hs=>?_) hcls
  obtain ⟨oL,_,_,hoL,_⟩:=id hn
  refine h _ ⟨I.ok,I.os,I.bare,⟨fun b o e n hb hx=>?_,fun b o e n hb hx=>?_,I.base.free,fun b o e hx=>?_,I.base.tups,I.base.frzs,I.base.tbls⟩,⟨_,hn',fun j y v' e1 e2 e3=>?_⟩,fun y c e=>?_,I.free,I.freeC,fun p hp=>?_,tracked ⟨oL,hoL,I.free⟩ hs,by simpa using I.len⟩ ⟨_,hs,.inl rfl⟩
  ·exact (hs.2 b (aE (aJ (am e) I.ok.above))).trans (I.base.keep b o e n hb hx)
  ·obtain ⟨sl,e1⟩:=I.base.slot b o e n hb hx
   exact ⟨sl,(hs.2 b (aE (aJ (am e) I.ok.above))).trans e1⟩
  ·obtain ⟨o',e1⟩:=I.base.there b o e hx
   exact ⟨o',(hs.2 b (aE (aJ (am e) I.ok.above))).trans e1⟩
  ·by_cases hj:j=i
   ·subst hj
    rw [hi] at e1;cases e1
    rw [az hiσ] at e2
    cases e2
    exact ⟨u,r,.inl ⟨hk,by simp⟩⟩
   ·rw [ag (cW hj)] at e2
    obtain ⟨u',r',q⟩:=hl j y v' e1 e2 e3
    refine ⟨u',r',?_⟩
    rcases q with ⟨k,e⟩ | ⟨k,c,e,z⟩
    ·refine .inl ⟨k,?_⟩
     have:y≠x:=fun e=>hj (C6 hN e1 (e ▸ hi))
     simp [this,e]
    ·exact .inr ⟨k,c,e,z.sameBut hs (cne y c e)⟩
  ·obtain ⟨w',z⟩:=I.cell y c e
   exact ⟨w',z.sameBut hs (cne y c e)⟩
  ·obtain ⟨e,n,ne,nf,d⟩:=I.pin p hp
   exact ⟨(hs.2 p.1 ne).trans e,n,ne,nf,d⟩
 ·have hfn:X.fn x=true:=by
   rcases hf with z | z
   ·exact z
   ·rw [z] at hk;cases hk
  obtain ⟨c,hc⟩:=I.ok.has x (.inl hk)
  obtain ⟨w',z⟩:=I.cell x c hc
  refine wpAny_storeName_cell I.ok.kind hk hc z (fun h' hc' hs=>?_)
  obtain ⟨oc,hoc,hocd⟩:=id z
  refine h { s with heap:=h' } ⟨I.ok,I.os,I.bare,⟨fun b o e n hb hx=>?_,fun b o e n hb hx=>?_,I.base.free,fun b o e hx=>?_,I.base.tups,I.base.frzs,I.base.tbls⟩,⟨m,hn.sameBut hs (cW (cne x c hc)),fun j y v' e1 e2 e3=>?_⟩,fun y c' e=>?_,I.free,I.freeC,fun p hp=>?_,tracked ⟨oc,hoc,I.freeC x c hc⟩ hs,by simpa using I.len⟩ ⟨c,hs,.inr hc⟩
  ·exact (hs.2 b (aE (aJ (am e) (I.ok.cab x c hfn hc)))).trans (I.base.keep b o e n hb hx)
  ·obtain ⟨sl,e1⟩:=I.base.slot b o e n hb hx
   exact ⟨sl,(hs.2 b (aE (aJ (am e) (I.ok.cab x c hfn hc)))).trans e1⟩
  ·obtain ⟨o',e1⟩:=I.base.there b o e hx
   exact ⟨o',(hs.2 b (aE (aJ (am e) (I.ok.cab x c hfn hc)))).trans e1⟩
  ·by_cases hj:j=i
   ·subst hj
    rw [hi] at e1;cases e1
    rw [az hiσ] at e2
    cases e2
    exact ⟨u,r,.inr ⟨.inl hk,c,hc,hc'⟩⟩
   ·rw [ag (cW hj)] at e2
    obtain ⟨u',r',q⟩:=hl j y v' e1 e2 e3
    refine ⟨u',r',?_⟩
    rcases q with q | ⟨k,c',e,z'⟩
    ·exact .inl q
    ·refine .inr ⟨k,c',e,z'.sameBut hs ?_⟩
     rintro rfl
     exact hj (C6 hN e1 (I.ok.inj _ _ _ e hc ▸ hi))
  ·by_cases hcc:c'=c
   ·subst hcc;exact ⟨_,hc'⟩
   ·obtain ⟨w2,z2⟩:=I.cell y c' e
    exact ⟨w2,z2.sameBut hs hcc⟩
  ·obtain ⟨e,n,ne,nf,d⟩:=I.pin p hp
   refine ⟨(hs.2 p.1 ?_).trans e,n,ne,nf,d⟩
   intro q
   rw [q,hoc] at e
   have q':oc=p.2:=bu e
   exact d w' (by rw [<- q'];exact hocd)
theorem tR {M:yT}{A:b6}{E:a8->ac->Prop}{i:Nat}{x:Str}{v:V}{u:a8}{Q:Unit->ac->Prop} (I:bQ X pins σ H s) (hN:X.N.Nodup) (hi:X.N[i]?=some x) (hx:NE X.env.scope x) (r:de v u)
  (h:∀ s',bQ X pins (σ.set i (some v)) H s'->Q () s') (hf:X.fn x=true\/X.env.scope.names.lookup x=some .local:=by first | exact .inl rfl | exact .inr rfl | assumption):au M A (storeName X.env x u) Q E s :=
 zH I hN hi hx r (fun s' I' _=>h s' I') hf
theorem bQ.call' {s':ac}{ch:List ah} (I:bQ X pins σ H s) (ho:s'.os=s.os) (u:Un (rK X.stack) ch H H' s.heap s'.heap) (hok:pC X.prog X.w H' s'.heap) (hg:pi s'.gens)
  (hch:∀ b∈ch,(b∈X.ex\/X.s₀.heap.objs.size<=b)/\b≠X.env.locals/\(∀ x c,X.env.cells.lookup x=some c->c≠b)/\∀ p∈X.pn++pins,p.1≠b):bQ X pins σ H' s':=by
 obtain ⟨h',g',d',t',o'⟩:=s'
 have e:o'=s.os:=ho
 subst e
 exact I.call (g':=g') (t':=t') (d':=d') u hok hg hch
end
abbrev XK:=a8->Option ah->Hp->Prop
abbrev St:=List (Option V)
abbrev VK:=V->Hp->Prop
abbrev TE:=St->Hp->VK->Prop
abbrev TT:=St->Hp->(Bool->Hp->Prop)->Prop
abbrev TA:=St->Hp->(List V->Hp->Prop)->Prop
structure tS where
 nx:St->Hp->Prop
 rt:VK
 bk:St->Hp->Prop:=fun _ _=>False
 ct:St->Hp->Prop:=fun _ _=>False
abbrev TS:=tS->St->Hp->Prop
inductive EP (X:Cx) (pins:List (ah×Obj)) (σ:St) (Q:VK) (u:a8) (s':ac):Prop
 | mk (v H':_) (h0:bQ X pins σ H' s') (h1:de v u) (h2:Q v H'):EP X pins σ Q u s'
inductive TP (X:Cx) (pins:List (ah×Obj)) (σ:St) (Q:Bool->Hp->Prop) (b:Bool) (s':ac):Prop
 | mk (H':_) (h0:bQ X pins σ H' s') (h1:Q b H'):TP X pins σ Q b s'
inductive AP (X:Cx) (pins:List (ah×Obj)) (σ:St) (Q:List V->Hp->Prop) (us:List a8) (s':ac):Prop
 | mk (vs H':_) (h0:bQ X pins σ H' s') (h1:cV vs us) (h2:Q vs H'):AP X pins σ Q us s'
inductive SN (X:Cx) (pins:List (ah×Obj)) (k:St->Hp->Prop) (s':ac):Prop
 | mk (σ':St) (H':Hp) (I:bQ X pins σ' H' s') (q:k σ' H'):SN X pins k s'
inductive SV (X:Cx) (pins:List (ah×Obj)) (k:V->Hp->Prop) (u:a8) (s':ac):Prop
 | mk (v:V) (σ':St) (H':Hp) (I:bQ X pins σ' H' s') (r:de v u) (q:k v H'):SV X pins k u s'
def SP (X:Cx) (pins:List (ah×Obj)) (D:tS) (f:Flow) (s':ac):Prop :=
 match f with
 | .next=>SN X pins D.nx s'
 | .brk=>SN X pins D.bk s'
 | .cont=>SN X pins D.ct s'
 | .ret u=>SV X pins D.rt u s'
def PE (X:Cx) (e:aV) (t:TE):Prop :=
 ∀ (pins:List (ah×Obj)) (s:ac) (σ:St) (H:Hp) (Q:VK),bQ X pins σ H s->t σ H Q->au (aP X.prog X.w) X.A (cR e X.env) (EP X pins σ Q) X.xe s
def PT (X:Cx) (e:aV) (t:TT):Prop :=
 ∀ (pins:List (ah×Obj)) (s:ac) (σ:St) (H:Hp) (Q:Bool->Hp->Prop),bQ X pins σ H s->t σ H Q->au (aP X.prog X.w) X.A (Av e X.env (cR e X.env)) (TP X pins σ Q) X.xe s
def PW (X:Cx) (e:aV) (t:TT):Prop :=
 ∀ (whole:Sem a8) (pins:List (ah×Obj)) (s:ac) (σ:St) (H:Hp) (Q:Bool->Hp->Prop),bQ X pins σ H s->t σ H Q->au (aP X.prog X.w) X.A (Av e X.env whole) (TP X pins σ Q) X.xe s
theorem PW.pt {X:Cx}{e:aV}{t:TT} (h:PW X e t):PT X e t:=h _
def PA (X:Cx) (es:List aV) (t:TA):Prop :=
 ∀ (pos:Pos) (pins:List (ah×Obj)) (s:ac) (σ:St) (H:Hp) (Q:List V->Hp->Prop),bQ X pins σ H s->t σ H Q->au (aP X.prog X.w) X.A (spliced (eT pos (aw es X.env))) (AP X pins σ Q) X.xe s
def PS (X:Cx) (st:cC) (t:TS):Prop :=
 ∀ (pins:List (ah×Obj)) (s:ac) (σ:St) (H:Hp) (D:tS),bQ X pins σ H s->t D σ H->au (aP X.prog X.w) X.A (exec st X.env) (SP X pins D) X.xe s
def G9 (X:Cx) (st:List cC) (t:TS):Prop :=
 ∀ (pins:List (ah×Obj)) (s:ac) (σ:St) (H:Hp) (D:tS),bQ X pins σ H s->t D σ H->au (aP X.prog X.w) X.A (execs st X.env) (SP X pins D) X.xe s
theorem fO {α:Type}{t:Sem α}{Q Q':α->ac->Prop}{M:yT}{A:b6}{E:a8->ac->Prop}{s:ac} (h:au M A t Q E s) (hQ:∀ a s,Q a s->Q' a s):au M A t Q' E s:=bI h hQ fun _ _ x=>x
end L2
namespace L2
open PySem PySem.Spec PyProof.Rows
section
variable {X:Cx}
inductive Pg (i:Nat) (σ:St) (H:Hp) (Q:VK):Prop
 | mk (v:_) (h0:σ[i]?=some (some v)) (h1:Q v H):Pg i σ H Q
def RW (i:Nat):TE:=Pg i
def tC (v:V):TE:=fun _ H Q=>Q v H
theorem mJ {i:Nat}{x:Str}{pos:Pos} (hN:X.N[i]?=some x) (hv:JF X.env.scope x) (hd:(x == ("__debug__" : Str))=false:=by decide) (hcd:(x == ("__classdict__" : Str))=false:=by decide):PE X (.Name x pos) (RW i):=by
 intro pins s σ H Q I h
 obtain ⟨v,e,h⟩:=h
 obtain ⟨m,hn,hl⟩:=I.loc
 obtain ⟨u,r,l⟩:=hl i x v hN e hv
 have fin:EP X pins σ Q u s:=⟨v,H,I,r,h⟩
 rcases l with ⟨hk,hm⟩ | ⟨hk,c,hc,hcell⟩
 ·exact wpAny_Name (wpAny_loadName_local I.ok.kind hk hn hm fin) hd
 ·rcases hk with hk | hk
  ·exact wpAny_Name (wpAny_loadName_cell I.ok.kind hk hc hcell fin) hd
  ·exact wpAny_Name (wpAny_loadName_free I.ok.kind hk hc hcell fin hcd) hd
theorem Qn {i j pos}:PE X (.Constant (.int i) j pos) (tC (.int i)):=fun _ _ _ H _ I h=>wpAny_Constant_int ⟨.int i,H,I.tok _,⟨_,rfl⟩,h⟩
theorem RX {b j pos}:PE X (.Constant (.bool b) j pos) (tC (.bl b)):=fun _ _ _ H _ I h=>Constant_bool ⟨.bl b,H,I,rfl,h⟩
theorem Qo {j pos}:PE X (.Constant .none j pos) (tC .non):=fun _ _ _ H _ I h=>Constant_none ⟨.non,H,I,rfl,h⟩
theorem Qp {x j pos}:PE X (.Constant (.str x) j pos) (tC (.str x)):=fun _ _ _ H _ I h=>Calls.Constant_str ⟨.str x,H,I.tok _,⟨_,rfl⟩,h⟩
def Gl (X:Cx) (x:Str):Prop:=X.env.kindOf x=some .globalImplicit
theorem AD {E:a8->ac->Prop}{pins:List (ah×Obj)}{s:ac}{σ:St}{H:Hp}{x:Str}{u:a8}{pos:Pos}{Q:a8->ac->Prop} (I:bQ X pins σ H s) (hg:Gl X x) (hm:X.mg x=some u) (h:Q u s)
  (hd:(x == ("__debug__" : Str))=false:=by decide):au (aP X.prog X.w) X.A (cR (.Name x pos) X.env) Q E s :=
 yU I.ok.kind hg (Calls.loadGlobal_global (by rw [I.ok.glob];exact I.mod.glob.keeps I.bk) hm h) hd
theorem pO {E:a8->ac->Prop}{pins:List (ah×Obj)}{s:ac}{σ:St}{H:Hp}{x:Str}{u:a8}{pos:Pos}{Q:a8->ac->Prop} (I:bQ X pins σ H s) (hg:Gl X x) (hm:X.mg x=none) (hv:gE x=some u) (h:Q u s)
  (hn:x≠"__name__":=by decide) (hd:(x == ("__debug__" : Str))=false:=by decide):au (aP X.prog X.w) X.A (cR (.Name x pos) X.env) Q E s:=by
 obtain ⟨mb,h1,h2⟩:=I.mod.blt
 exact yU I.ok.kind hg (Calls.loadGlobal_builtin (by rw [I.ok.glob];exact I.mod.glob.keeps I.bk) hm (by rw [I.ok.blt];exact h1.keeps I.bk) ((h2 x hn).trans hv) h) hd
theorem NF {x:Str}{v:V}{u:a8}{pos:Pos} (hg:Gl X x) (hm:X.mg x=some u) (r:de v u) (hd:(x == ("__debug__" : Str))=false:=by decide):PE X (.Name x pos) (tC v) :=
 fun _ _ _ H _ I h=>AD I hg hm ⟨v,H,I,r,h⟩ hd
theorem NG {x:Str}{v:V}{u:a8}{pos:Pos} (hg:Gl X x) (hm:X.mg x=none) (hv:gE x=some u) (r:de v u) (hn:x≠"__name__":=by decide) (hd:(x == ("__debug__" : Str))=false:=by decide):PE X (.Name x pos) (tC v) :=
 fun _ _ _ H _ I h=>pO I hg hm hv ⟨v,H,I,r,h⟩ hn hd
variable {a b:aV}{ta tb:TE}{pos:Pos}
def PC (X:Cx) (op:wC) (a b:aV) (t:TE):Prop :=
 ∀ (pins:List (ah×Obj)) (s:ac) (σ:St) (H:Hp) (Q:VK),bQ X pins σ H s->t σ H Q ->
  au (aP X.prog X.w) X.A (cR a X.env) (fun v s₁=>au (aP X.prog X.w) X.A (cR b X.env) (fun u s₂=>au (aP X.prog X.w) X.A (bL op v u) (EP X pins σ Q) X.xe s₂) X.xe s₁) X.xe s
theorem K6 (b:aV) {op:wC} (h:op≠.In) (h2:op≠.NotIn):gI op b=false:=by
 have e1:(op == CmpOp.In)=false:=by cases op<;>first | rfl | exact absurd rfl h
 have e2:(op == CmpOp.NotIn)=false:=by cases op<;>first | rfl | exact absurd rfl h2
 cases b<;>simp [gI,e1,e2]
def tB (t:TE):TT:=fun σ H Q=>t σ H fun x H1=>∃ c,x=.bl c/\Q c H1
theorem Uo {op:wC}{t:TE} (h:PC X op a b t) (h1:gI op b=false:=by first | exact K6 _ (by decide) (by decide) | rfl):PT X (.Compare a [op] [b] pos) (tB t):=by
 intro pins s σ H Q I hw
 refine M_ (fO (h pins s σ H _ I hw) fun v s1 h1=>fO h1 fun u s2 h2=>fO h2 fun c s3 ⟨x,H1,I1,r1,q1⟩=>?_) h1
 obtain ⟨d,rfl,q⟩:=q1
 cases r1
 exact e8 ⟨H1,I1,q⟩
theorem Qq {e:aV}{t:TE} (h:PE X e t) (he:∀ whole,Av e X.env whole=(do let v <- whole;Ec e.pos;holding [v] (truthy v)):=by intro _;rfl):PT X e (tB t):=by
 intro pins s σ H Q I hw
 refine isTrue_plain (fO (h pins s σ H _ I hw) fun v s1 ⟨x,H1,I1,r1,q1⟩=>?_) (he _)
 obtain ⟨d,rfl,q⟩:=q1
 cases r1
 exact e8 ⟨H1,I1,q⟩
variable {tA tB':TT}{bY:List aV}
def Up (t u:TT):TT:=fun σ H Q=>t σ H fun c H1=>if c=true then u σ H1 Q else Q false H1
def VR (t u:TT):TT:=fun σ H Q=>t σ H fun c H1=>if c=true then Q true H1 else u σ H1 Q
def Uq (t:TT):TT:=fun σ H Q=>t σ H fun c H1=>Q (!c) H1
theorem NH (ha:PT X a tA):PW X (.BoolOp .And [a] pos) tA:=by
 intro wh pins s σ H Q I h
 refine isTrue_and (fO (ha pins s σ H Q I h) fun c s1 e=>?_)
 cases c with
 | true=>exact isTrue_and_nil e
 | false=>exact e
theorem Qr (ha:PT X a tA):PW X (.BoolOp .Or [a] pos) tA:=by
 intro wh pins s σ H Q I h
 refine isTrue_or (fO (ha pins s σ H Q I h) fun c s1 e=>?_)
 cases c with
 | false=>exact isTrue_or_nil e
 | true=>exact e
theorem Qs (ha:PT X a tA) (hb:PW X (.BoolOp .And (b::bY) pos) tB'):PW X (.BoolOp .And (a::b::bY) pos) (Up tA tB'):=by
 intro wh pins s σ H Q I h
 refine isTrue_and (fO (ha pins s σ H _ I h) fun c s1 ⟨H1,I1,q1⟩=>?_)
 cases c with
 | true=>exact hb wh pins s1 σ H1 Q I1 q1
 | false=>exact ⟨H1,I1,q1⟩
theorem RY (ha:PT X a tA) (hb:PW X (.BoolOp .Or (b::bY) pos) tB'):PW X (.BoolOp .Or (a::b::bY) pos) (VR tA tB'):=by
 intro wh pins s σ H Q I h
 refine isTrue_or (fO (ha pins s σ H _ I h) fun c s1 ⟨H1,I1,q1⟩=>?_)
 cases c with
 | true=>exact ⟨H1,I1,q1⟩
 | false=>exact hb wh pins s1 σ H1 Q I1 q1
theorem Qt (ha:PT X a tA):PT X (.UnaryOp .Not a pos) (Uq tA):=by
 intro pins s σ H Q I h
 exact isTrue_not (fO (ha pins s σ H (fun c H1=>Q (!c) H1) I h) fun _ _ x=>by obtain ⟨a,b,c⟩:=x;exact ⟨a,b,c⟩)
def RZ (ta tb:TE):TE:=fun σ H Q=>ta σ H fun x H1=>∃ c,x=.bl c/\if c=true then tb σ H1 Q else Q (.bl false) H1
def R_ (ta:TE):TE:=fun σ H Q=>ta σ H fun x H1=>∃ c,x=.bl c/\Q (.bl (!c)) H1
theorem Qu {op}{t:TE} (h:PE X a t):PE X (.BoolOp op [a] pos) t:=fun pins s σ H Q I hw=>BoolOp_one (h pins s σ H Q I hw)
theorem Qv (ha:PE X a ta) (hb:PE X (.BoolOp .And (b::bY) pos) tb):PE X (.BoolOp .And (a::b::bY) pos) (RZ ta tb):=by
 intro pins s σ H Q I h
 refine BoolOp_and (fO (ha pins s σ H _ I h) fun v s1 ⟨x,H1,I1,r1,q1⟩=>?_)
 obtain ⟨c,rfl,q1⟩:=q1
 cases r1
 refine e8 ?_
 cases c with
 | true=>exact hb pins s1 σ H1 Q I1 q1
 | false=>exact ⟨.bl false,H1,I1,rfl,q1⟩
theorem Qw (ha:PE X a ta):PE X (.UnaryOp .Not a pos) (R_ ta):=by
 intro pins s σ H Q I h
 refine UnaryOp_ (fO (ha pins s σ H _ I h) fun v s1 ⟨x,H1,I1,r1,q1⟩=>?_)
 obtain ⟨c,rfl,q1⟩:=q1
 cases r1
 exact not_of (e8 ⟨.bl (!c),H1,I1,rfl,q1⟩)
end
end L2
namespace L2
open PySem PySem.Spec PyProof.Rows
inductive Vm (K:a6) (a:ah) (xs:List V):Prop
 | mk (o:Obj) (its:Array a8) (n:Nat) (h0:K.lookup a=some o) (h1:o.cls=.type "list") (h2:o.dict=none) (h3:o.data=.seq its n) (h4:its.size<=sizeLine) (h5:cV xs its.toList):Vm K a xs
def lU (K:a6) (H:Hp) (a:ah) (xs:List V):Prop :=
 Rd H a (.lst xs)\/Vm K a xs
inductive Vn (K:a6) (a:ah) (xs:List V):Prop
 | mk (o:Obj) (its:Array a8) (n:Nat) (h0:K.lookup a=some o) (h1:o.cls=.type "tuple") (h3:o.data=.seq its n) (h4:its.size<=sizeLine) (h5:cV xs its.toList):Vn K a xs
def kG (K:a6) (H:Hp) (a:ah) (xs:List V):Prop :=
 Rd H a (.tup xs)\/Vn K a xs
def Ur:a8->Option V
 | .none=>some .non
 | .bool b=>some (.bl b)
 | .int i _=>some (.int i)
 | .str x _=>some (.str x)
 | .bytes b _=>some (.byt b)
 | .float b _=>some (.flt b)
 | .ref a=>some (.ref a)
 | .type n=>some (.ty n)
 | _=>none
theorem de.abs {x:V}{u:a8} (r:de x u):Ur u=some x:=by
 cases x with
 | non=>cases r;rfl
 | bl _=>cases r;rfl
 | int _=>obtain ⟨t,rfl⟩:=r;rfl
 | str _=>obtain ⟨t,rfl⟩:=r;rfl
 | byt _=>obtain ⟨t,rfl⟩:=r;rfl
 | flt _=>obtain ⟨t,rfl⟩:=r;rfl
 | ref _=>cases r;rfl
 | ty _=>cases r;rfl
theorem de.inj {x y:V}{u:a8} (r:de x u) (q:de y u):x=y:=bu (r.abs.symm.trans q.abs)
theorem cV.inj {xs:List V}{us:List a8} (h:cV xs us):∀ {ys:List V},cV ys us->xs=ys:=by
 induction h with
 | nil=>intro ys k;cases k;rfl
 | cons r t ih=>intro ys k;cases k with | cons r' t'=>rw [r.inj r',ih t']
section
variable {X:Cx}{pins:List (ah×Obj)}{σ:St}{H:Hp}{s:ac}{a:ah}{xs ys:List V}
theorem lU.of {K:a6} (h:H a=some (.lst xs)):lU K H a xs:=.inl (.inl h)
theorem kG.of {K:a6} (h:H a=some (.tup xs)):kG K H a xs:=.inl (.inl h)
inductive Vo (h:bp) (a:ah) (xs:List V):Prop
 | mk (its:List a8) (r:cV xs its) (p:PlainL h a its.toArray) (z:xs.length<=sizeLine):Vo h a xs
inductive Vp (h:bp) (a:ah) (xs:List V):Prop
 | mk (its:List a8) (r:cV xs its) (p:Jn h a its.toArray) (z:xs.length<=sizeLine):Vp h a xs
inductive Vq (h:bp) (l:ah) (xs:List V):Prop
 | mk (z:xs.length<=sizeLine) (its:List a8) (n:Nat) (r:cV xs its) (hl:xs.length=its.length) (e:h.get? l=some { cls:=.type "list",data:=.seq its.toArray n }):Vq h l xs
theorem bQ.list (I:bQ X pins σ H s) (h:lU X.K H a xs):Vo s.heap a xs:=by
 rcases h with h | ⟨o,its,n,hk,hc,hd,hs,hz,r⟩
 ·obtain ⟨z,its,n,r,e⟩:=h.ok I.hok
  exact ⟨its,r,⟨_,n,e,rfl,rfl,rfl⟩,z⟩
 ·refine ⟨its.toList,r,⟨o,n,I.kIn a o hk,hc,hd,by simpa using hs⟩,?_⟩
  have e:=r.length
  simp only [ar] at e
  omega
theorem bQ.tuple (I:bQ X pins σ H s) (h:kG X.K H a xs):Vp s.heap a xs:=by
 rcases h with h | ⟨o,its,n,hk,hc,hs,hz,r⟩
 ·obtain ⟨z,its,r,p⟩:=h.ok I.hok
  exact ⟨its,r,p,z⟩
 ·refine ⟨its.toList,r,⟨o,I.kIn a o hk,hc,n,by simpa using hs⟩,?_⟩
  have e:=r.length
  simp only [ar] at e
  omega
theorem bQ.list_inj (I:bQ X pins σ H s) (h:lU X.K H a xs) (h':lU X.K H a ys):xs=ys:=by
 obtain ⟨its,r,⟨o,n,e,_,_,d⟩,_⟩:=I.list h
 obtain ⟨its',r',⟨o',n',e',_,_,d'⟩,_⟩:=I.list h'
 rw [e] at e';cases e'
 rw [d] at d'
 injection d' with d1 _
 have:its=its':=by simpa using congrArg Array.toList d1
 subst this
 exact r.inj r'
theorem bQ.tuple_inj (I:bQ X pins σ H s) (h:kG X.K H a xs) (h':kG X.K H a ys):xs=ys:=by
 obtain ⟨its,r,⟨o,e,_,n,d⟩,_⟩:=I.tuple h
 obtain ⟨its',r',⟨o',e',_,n',d'⟩,_⟩:=I.tuple h'
 rw [e] at e';cases e'
 rw [d] at d'
 injection d' with d1 _
 have:its=its':=by simpa using congrArg Array.toList d1
 subst this
 exact r.inj r'
end
abbrev Cx.wish (X:Cx) (E:a8->ac->Prop):Cx:={ X with xe:=E }
abbrev Cx.nox (X:Cx):Cx:=X.wish fun _ _=>False
theorem Cx.Ok.wish {X:Cx} (ok:X.Ok) (E:a8->ac->Prop):(X.wish E).Ok :=
 ⟨ok.mod,ok.kind,ok.glob,ok.blt,ok.above,ok.inj,ok.has,ok.cab,ok.hd,ok.frames,ok.stk,ok.exf,ok.bs,ok.bsz,ok.noex,ok.exfs,ok.funs,ok.frf⟩
theorem Cx.Ok.unwish {X:Cx}{E:a8->ac->Prop} (ok:(X.wish E).Ok):X.Ok :=
 ⟨ok.mod,ok.kind,ok.glob,ok.blt,ok.above,ok.inj,ok.has,ok.cab,ok.hd,ok.frames,ok.stk,ok.exf,ok.bs,ok.bsz,ok.noex,ok.exfs,ok.funs,ok.frf⟩
section
variable {X:Cx}{pins:List (ah×Obj)}{σ:St}{H:Hp}{s:ac}{E:a8->ac->Prop}
theorem bQ.wish (I:bQ X pins σ H s) (E:a8->ac->Prop):bQ (X.wish E) pins σ H s:=⟨I.ok.wish E,I.os,I.bare,I.base,I.loc,I.cell,I.free,I.freeC,I.pin,I.hok,I.len⟩
theorem bQ.unwish (I:bQ (X.wish E) pins σ H s):bQ X pins σ H s:=⟨I.ok.unwish,I.os,I.bare,I.base,I.loc,I.cell,I.free,I.freeC,I.pin,I.hok,I.len⟩
theorem SP.unwish {D:tS}{f:Flow}{s':ac} (h:SP (X.wish E) pins D f s'):SP X pins D f s':=by
 cases f with
 | next=>obtain ⟨σ',H',I,q⟩:=h;exact ⟨σ',H',I.unwish,q⟩
 | brk=>obtain ⟨σ',H',I,q⟩:=h;exact ⟨σ',H',I.unwish,q⟩
 | cont=>obtain ⟨σ',H',I,q⟩:=h;exact ⟨σ',H',I.unwish,q⟩
 | ret u=>obtain ⟨v,σ',H',I,r,q⟩:=h;exact ⟨v,σ',H',I.unwish,r,q⟩
end
section
variable {X:Cx}{st:cC}{bY:List cC}{t u:TS}{e:aV}{te:TE}{pos:Pos}
def S0:TS:=fun D σ H=>D.nx σ H
def Us (t u:TS):TS:=fun D σ H=>t { D with nx:=u D } σ H
theorem NI:G9 X [] S0:=fun _ _ σ H _ I h=>tj ⟨σ,H,I,h⟩
theorem pP (h1:PS X st t) (h2:G9 X bY u):G9 X (st::bY) (Us t u):=by
 intro pins s σ H D I h
 refine wpAny_execs_cons (fO (h1 pins s σ H { D with nx:=u D } I h) fun f s1 q=>?_)
 cases f with
 | next =>
  obtain ⟨σ',H',I',q⟩:=q
  exact h2 pins s1 σ' H' D I' q
 | ret v=>exact q
 | brk=>exact q
 | cont=>exact q
theorem NJ (h1:PS X st t):G9 X [st] t:=by
 intro pins s σ H D I h
 refine wpAny_execs_cons (fO (h1 pins s σ H D I h) fun f s1 q=>?_)
 cases f with
 | next=>exact tj q
 | ret v=>exact q
 | brk=>exact q
 | cont=>exact q
theorem bQ.quiet {pins:List (ah×Obj)}{σ:St}{H:Hp}{s:ac} (I:bQ X pins σ H s):interactive X.env=false:=by simp [interactive,I.ok.kind]
def S1 (te:TE):TS:=fun D σ H=>te σ H fun _ H1=>D.nx σ H1
theorem tT (he:PE X e te) (hs:fQ e none pos.line X.env=pure false:=by rfl):PS X (.Expr e pos) (S1 te):=by
 intro pins s σ H D I h
 exact wpAny_Expr_any (fO (he pins s σ H _ I h) fun v s1 h_7=>by obtain ⟨x,H1,I1,r1,q1⟩:=h_7;exact ⟨σ,H1,I1,q1⟩) I.quiet hs
def Ut (te:TE):TS:=fun D σ H=>te σ H D.rt
theorem Qx (he:PE X e te):PS X (.Return (some e) pos) (Ut te):=by
 intro pins s σ H D I h
 exact wpAny_Return_some (fO (he pins s σ H _ I h) fun v s1 h_8=>by obtain ⟨x,H1,I1,r1,q1⟩:=h_8;exact ⟨x,σ,H1,I1,r1,q1⟩)
def Uu (c:TT) (t u:TS):TS:=fun D σ H=>c σ H fun b H1=>if b=true then t D σ H1 else u D σ H1
theorem S2 {c:aV}{a b:List cC}{tc:TT} (hc:PT X c tc) (ha:G9 X a t) (hb:G9 X b u):PS X (.If c a b pos) (Uu tc t u):=by
 intro pins s σ H D I h
 refine wpAny_If (fO (hc pins s σ H _ I h) fun d s1 ⟨H1,I1,q1⟩=>?_)
 cases d with
 | true=>exact ha pins s1 σ H1 D I1 q1
 | false=>exact hb pins s1 σ H1 D I1 q1
def Qy:TS:=fun _ _ _=>False
theorem qH {sts:List cC}:G9 X sts Qy:=fun _ _ _ _ _ _ h=>h.elim
end
abbrev TG:=V->St->Hp->(St->Hp->Prop)->Prop
abbrev K7:=List V->St->Hp->(St->Hp->Prop)->Prop
def PG (X:Cx) (target:aV) (t:TG):Prop :=
 ∀ (pins:List (ah×Obj)) (s:ac) (σ:St) (H:Hp) (v:V) (u:a8) (Q:St->Hp->Prop),bQ X pins σ H s->de v u->t v σ H Q ->
  au (aP X.prog X.w) X.A (pH target X.env u) (fun _ s'=>SN X pins Q s') X.xe s
def Ph (X:Cx) (ts:List aV) (t:K7):Prop :=
 ∀ (pins:List (ah×Obj)) (s:ac) (σ:St) (H:Hp) (vs:List V) (us:List a8) (Q:St->Hp->Prop),bQ X pins σ H s->cV vs us->t vs σ H Q ->
  au (aP X.prog X.w) X.A (HC ((hV ts X.env).map (·.2)) us) (fun _ s'=>SN X pins Q s') X.xe s
section
variable {X:Cx}{pos:Pos}
def vL (i:Nat):TG:=fun v σ H Q=>Q (σ.set i (some v)) H
theorem cO {i:Nat}{x:Str} (hN:X.N.Nodup) (hi:X.N[i]?=some x) (hx:NE X.env.scope x) (hf:X.fn x=true\/X.env.scope.names.lookup x=some .local:=by first | exact .inl rfl | exact .inr rfl | assumption):PG X (.Name x pos) (vL i):=by
 intro pins s σ H v u Q I r h
 exact wpAny_assign_Name (tR I hN hi hx r (fun s' I'=>⟨_,H,I',h⟩) hf)
def aG:K7:=fun vs σ H Q=>vs=[]/\Q σ H
inductive K8 (t:TG) (u:K7) (vs:List V) (σ:St) (H:Hp) (Q:St->Hp->Prop):Prop
 | mk (v r:_) (h0:vs=v::r) (h1:t v σ H fun σ' H'=>u r σ' H' Q):K8 t u vs σ H Q
def aa (t:TG) (u:K7):K7:=K8 t u
theorem AE:Ph X [] aG:=by
 intro pins s σ H vs us Q I r h
 obtain ⟨e,h⟩:=h
 subst e
 cases r
 exact assignInOrder_nil ⟨σ,H,I,h⟩
theorem pQ {e:aV}{es:List aV}{t:TG}{u:K7} (h1:PG X e t) (h2:Ph X es u)
  (hs:(hV (e::es) X.env).map (·.2)=pH e X.env::(hV es X.env).map (·.2):=by rfl):Ph X (e::es) (aa t u):=by
 intro pins s σ H vs us Q I r h
 obtain ⟨v,vr,e1,h⟩:=h
 subst e1
 cases r with
 | cons r rr =>
  rw [hs]
  refine wX (fO (h1 pins s σ H _ _ _ I r h) fun _ s1 ⟨σ1,H1,I1,q1⟩=>?_)
  exact h2 pins s1 σ1 H1 _ _ Q I1 rr q1
inductive Pi (K:a6) (n:Nat) (t:K7) (v:V) (σ:St) (H:Hp) (Q:St->Hp->Prop):Prop
 | mk (a xs:_) (h0:v=.ref a) (h1:kG K H a xs) (h2:xs.length=n) (h3:t xs σ H Q):Pi K n t v σ H Q
def Qz (K:a6) (n:Nat) (t:K7):TG:=Pi K n t
theorem EJ {es:List aV}{k:Nat}{t:K7}{n:Nat} (hc:X.calm=true) (h:Ph X es t)
  (hn:(hV es X.env).length=n:=by rfl) (hst:(hV es X.env).findIdx? (·.1)=none:=by rfl):PG X (.Tuple es k pos) (Qz X.K n t):=by
 intro pins s σ H v u Q I r hw
 obtain ⟨a,xs,e1,hq,hl,hw⟩:=hw
 subst e1
 cases r
 obtain ⟨its,rv,ht,hz⟩:=I.tuple hq
 refine assign_Tuple_tuple (I.ok.hd hc) ht (by simp [hn,<- hl,rv.length]) hst fun h' hx=>?_
 have I1:bQ X pins σ H { s with heap:=h' }:=I.kept (t':=s.toks) fun b o e=>hx b o (aE (am e)) e
 exact h pins _ σ H xs _ Q I1 (by simpa using rv) hw
def S3 (te:TE) (g:TG):TS:=fun D σ H=>te σ H fun x H1=>g x σ H1 D.nx
theorem K9 {tg e:aV}{te:TE}{g:TG} (he:PE X e te) (hg:PG X tg g) (hs:wD [tg] e pos.line X.env=pure false:=by rfl) (hw:wE [tg] e X.env=pure none:=by rfl)
  (h1:(hV [tg] X.env).map (·.2)=[pH tg X.env]:=by rfl):PS X (.Assign [tg] e pos) (S3 te g):=by
 intro pins s σ H D I h
 refine wpAny_Assign_stores (fO (he pins s σ H _ I h) fun v s1 ⟨x,H1,I1,r1,q1⟩=>?_) hs hw
 rw [h1]
 exact fO (hg pins s1 σ H1 x v _ I1 r1 q1) fun _ s2 q=>q
theorem AF {i:Nat}{x:Str}{e:aV}{te:TE}{pos':Pos} (hN:X.N.Nodup) (hi:X.N[i]?=some x) (hx:NE X.env.scope x) (he:PE X e te) (hs:fQ e (some (.Name x pos')) pos.line X.env=pure false:=by rfl) (hf:X.fn x=true\/X.env.scope.names.lookup x=some .local:=by first | exact .inl rfl | exact .inr rfl | assumption) :
  PS X (.Assign [.Name x pos'] e pos) (S3 te (vL i)):=by
 intro pins s σ H D I h
 refine wpAny_Assign_Name (fO (he pins s σ H _ I h) fun v s1 ⟨y,H1,I1,r1,q1⟩=>?_) hs
 exact tR I1 hN hi hx r1 (fun s2 I2=>⟨_,H1,I2,q1⟩) hf
def Uv (i j:Nat) (ta:TA):TS:=fun D σ H=>ta σ H fun vs H1=>∃ v w,vs=[v,w]/\D.nx ((σ.set i (some v)).set j (some w)) H1
theorem QA {i j:Nat}{x y:Str}{a b:aV}{ta:TA}{px py pt:Pos}{kt k2 pt2} (hc:X.calm=true) (hN:X.N.Nodup) (hi:X.N[i]?=some x) (hj:X.N[j]?=some y) (hij:i≠j)
  (hx:X.env.scope.names.lookup x=some .local) (hy:X.env.scope.names.lookup y=some .local) (ha:PA X [a,b] ta)
  (hw:wE [.Tuple [.Name x px,.Name y py] kt pt] (.Tuple [a,b] k2 pt2) X.env=pure (some [x,y]))
  (hs:wD [.Tuple [.Name x px,.Name y py] kt pt] (.Tuple [a,b] k2 pt2) pos.line X.env=pure false:=by rfl) :
  PS X (.Assign [.Tuple [.Name x px,.Name y py] kt pt] (.Tuple [a,b] k2 pt2) pos) (Uv i j ta):=by
 intro pins s σ H D I h
 rw [exec_Assign_arm]
 refine a7 (js ?_)
 rw [hs]
 refine a7 (ae ?_)
 rw [if_neg (by decide)]
 refine a7 (Tuple_ (fO (ha _ pins s σ H _ I h) fun us s1 ⟨vs,H1,I1,r1,q1⟩=>?_))
 obtain ⟨v,w,e1,q1⟩:=q1
 subst e1
 obtain ⟨u1,u2,rfl,rv,rw'⟩:∃ u1 u2,us=[u1,u2]/\de v u1/\de w u2:=by
  cases r1 with
  | cons p q =>
   cases q with
   | cons p' q' =>
    cases q'
    exact ⟨_,_,rfl,p,p'⟩
 refine cr ?_ (by show 2<=sizeLine;decide)
 have I2:bQ X pins σ H1 { s1 with heap:=s1.heap.push { cls:=.type "tuple",data:=.seq [u1,u2].toArray } }:=I1.kept (t':=s1.toks) fun b o e=>af _ e
 rw [hw]
 refine a7 (ae ?_)
 show au (aP X.prog X.w) X.A (do rule "assign.swapped-stores";let items <- unpackItems (.ref s1.heap.objs.size) 2 none;HC [fun v=>Nf X.env y v,fun v=>Nf X.env x v] items.reverse;pure Flow.next) _ _ _
 refine a7 (gJ (a7 (unpackItems_tuple (items:=#[u1,u2]) (I.ok.hd hc) (we s1.heap _) fun h' hx'=>?_)))
 have I3:=I2.kept (h':=h') (t':=s1.toks) fun b o e=>hx' b o (aE (am e)) e
 show au _ _ (HC [fun v=>Nf X.env y v,fun v=>Nf X.env x v] [u2,u1] >>= fun _=>pure Flow.next) _ _ _
 refine a7 (wX (wpAny_bindName (tR I3 hN hj (.inl hy) rw' (fun s2 I4=>?_) (.inr hy))))
 refine wX (wpAny_bindName (tR I4 hN hi (.inl hx) rv (fun s3 I5=>assignInOrder_nil (ae ?_)) (.inr hx)))
 rw [List.set_comm _ _ (cW hij)] at I5
 exact ⟨_,H1,I5,q1⟩
end
section
variable {X:Cx}{pos:Pos}
def QB (c:TT) (tb:TS):TS:=fun D σ H=>∃ W:Nat->St->Hp->Prop,(∃ m,W m σ H)/\∀ m σ H,W m σ H ->
 c σ H fun b H1=>if b=true then ∃ N:St->Hp->Prop,(∀ σ' H',N σ' H'->∃ m',m'<m/\W m' σ' H')/\tb { D with nx:=N,ct:=N,bk:=D.nx } σ H1 else D.nx σ H1
theorem Ka {c:aV}{body:List cC}{tc:TT}{tb:TS} (hp:PassesOwn (aP X.prog X.w) X.A X.env X.xe) (hc:PT X c tc) (hb:G9 X body tb):PS X (.While c body [] pos) (QB tc tb):=by
 intro pins s σ H D I h
 obtain ⟨W,⟨m0,w0⟩,turn⟩:=h
 refine wpAny_While (codeAny_whileLoop (fun n s'=>∃ σ' H',bQ X pins σ' H' s'/\W n σ' H') ?_ m0 ⟨σ,H,I,w0⟩)
 rintro n s1 ⟨σ1,H1,I1,w1⟩
 refine i6 hp (fO (hc pins s1 σ1 H1 _ I1 (turn n σ1 H1 w1)) fun b s2 ⟨H2,I2,q2⟩=>?_)
 cases b with
 | true =>
  obtain ⟨N,hN,q2⟩:=q2
  rw [if_pos rfl]
  refine i6 hp (fO (hb pins s2 σ1 H2 _ I2 q2) fun f s3 q3=>?_)
  cases f with
  | next =>
   obtain ⟨σ3,H3,I3,n3⟩:=q3
   obtain ⟨m',hm,w3⟩:=hN σ3 H3 n3
   exact ⟨m',hm,σ3,H3,I3,w3⟩
  | cont =>
   obtain ⟨σ3,H3,I3,n3⟩:=q3
   obtain ⟨m',hm,w3⟩:=hN σ3 H3 n3
   exact ⟨m',hm,σ3,H3,I3,w3⟩
  | brk=>exact q3
  | ret v=>exact q3
 | false =>
  rw [if_neg a_]
  exact tj ⟨σ1,H2,I2,q2⟩
end
structure It where
 go:Nat->Hp->Prop
 yld:Nat->Hp->V->Hp->Prop
 stop:Nat->Hp->Prop
structure pR (X:Cx) (pins:List (ah×Obj)) (H:Hp) (b:ah):Prop where
 f0:H b=none
 f1:b≠X.env.locals
 f2:b∉X.fs
 f3:b∈X.ex\/X.s₀.heap.objs.size<=b
 f4:∀ x c,X.env.cells.lookup x=some c->c≠b
 f5:∀ p∈X.pn++pins,p.1≠b
theorem bQ.fpOk {X:Cx}{pins:List (ah×Obj)}{σ:St}{H H':Hp}{s:ac}{b:ah} (I:bQ X pins σ H s) (hb:s.heap.objs.size<=b) (hn:H' b=none):pR X pins H' b:=by
 refine ⟨hn,eK (aJ I.lt hb),I.nofs hb,.inr (bU I.sz hb),fun x c e z=>?_,fun p hp z=>?_⟩
 ·obtain ⟨v,q⟩:=I.cell x c e
  exact absurd (aJ q.lt (by rw [z];exact hb)) (bV _)
 ·exact absurd (aJ (am (I.pin p hp).1) (by rw [z];exact hb)) (bV _)
structure xk (P:aK) (w:aY) (K:a6) (tg:aV) (J:It) (fp:List ah) (it:ah) (tn:Nat->bp->Prop):Prop where
 mem:it∈fp
 obj:∀ i h,tn i h->∀ b∈fp,∃ o,h.get? b=some o/\∀ v,o.data≠.cell v
 keep:∀ i h h',tn i h->(∀ b∈fp,∀ o,h.get? b=some o->h'.get? b=some o)->tn i h'
 item:∀ (X:Cx),X.prog=P->X.w=w->X.K=K->X.calm=true->∀ (i:Nat) (pins:List (ah×Obj)) (s:ac) (σ:St) (H:Hp) (E:a8->ac->Prop),bQ X pins σ H s->(∀ b∈fp,pR X pins H b)->tn i s.heap->J.go i H ->
  au (aP P w) X.A (mF (.ref it)) (fun r s1=>∃ u,r=some u /\
   au (aP P w) X.A (gz tg (.ref it) u) (fun _ s2=>∃ x H',bQ X pins σ H' s2/\de x u/\J.yld i H x H'/\tn (i + 1) s2.heap/\∀ b∈fp,H' b=none) E s1) E s
 done:∀ (X:Cx),X.prog=P->X.w=w->X.K=K->X.calm=true->∀ (i:Nat) (pins:List (ah×Obj)) (s:ac) (σ:St) (H:Hp) (E:a8->ac->Prop),bQ X pins σ H s->(∀ b∈fp,pR X pins H b)->tn i s.heap->J.stop i H ->
  au (aP P w) X.A (mF (.ref it)) (fun r s1=>r=none/\bQ X pins σ H s1) E s
 self:∀ (A:b6) (i:Nat) (s:ac) (Q:a8->ac->Prop) (E:a8->ac->Prop),tn i s.heap->Q (.ref it) s->au (aP P w) A (Aw (.ref it)) Q E s
abbrev TI:=St->Hp->(It->Hp->Prop)->Prop
inductive Uw (X:Cx) (pins:List (ah×Obj)) (σ:St) (tg:aV) (R:It->Hp->Prop) (itv:a8) (s2:ac):Prop
 | mk (it:ah) (fp:List ah) (tn:Nat->bp->Prop) (J:It) (H':Hp) (h0:itv=.ref it) (I:bQ X pins σ H' s2) (T:xk X.prog X.w X.K tg J fp it tn) (t0:tn 0 s2.heap) (f:∀ b∈fp,pR X pins H' b) (q:R J H'):Uw X pins σ tg R itv s2
inductive Ux (X:Cx) (pins:List (ah×Obj)) (tn:Nat->bp->Prop) (fp:List ah) (W:Nat->Nat->St->Hp->Prop) (n:Nat) (s':ac):Prop
 | mk (i:Nat) (σ':St) (H':Hp) (I:bQ X pins σ' H' s') (t:tn i s'.heap) (f:∀ b∈fp,H' b=none) (q:W i n σ' H'):Ux X pins tn fp W n s'
def PI (X:Cx) (tg iter:aV) (wi:TI):Prop :=
 ∀ (pins:List (ah×Obj)) (s:ac) (σ:St) (H:Hp) (R:It->Hp->Prop),bQ X pins σ H s->wi σ H R ->
  au (aP X.prog X.w) X.A (cR iter X.env) (fun v s1=>au (aP X.prog X.w) X.A (Aw v) (Uw X pins σ tg R) X.xe s1) X.xe s
theorem Ga {M : yT} {A : b6} {E : a8 -> ac -> Prop} {s : ac} {tg : aV} {it : ah} {u : a8} {o : Obj} {n : String} {vs : Array a8} {Q : Unit -> ac -> Prop} (ho : s.heap.get? it = some o) (hc : o.cls = .type n) (hd : o.data = .fields vs)
    (hn : ["enumerate", "zip", "dict_itemiterator", "dict_reverseitemiterator", "odict_iterator", "itertools.zip_longest", "itertools.pairwise"].contains n = false) (hQ : Q () s) : au M A (gz tg (.ref it) u) Q E s := by
  unfold gz
  cases tg <;> first
    | exact ae hQ
    | (cases u <;> first
        | exact ae hQ
        | (refine a7 (wpAny_load ho ?_)
           rw [hc, hd]
           show au M A (if (["enumerate", "zip", "dict_itemiterator", "dict_reverseitemiterator", "odict_iterator", "itertools.zip_longest", "itertools.pairwise"].contains n && vs[0]? == some (cu _)) = true then _ else _) Q E s
           rw [if_neg (by intro h; rw [hn, zE] at h; cases h)]
           exact ae hQ))
def Uy (K:a6) (a:ah):It :=
 ⟨fun i H=>∃ xs x,lU K H a xs/\xs[i]?=some x,fun i H x H'=>H'=H/\∀ xs,lU K H a xs->xs[i]?=some x,fun i H=>∃ xs,lU K H a xs/\xs.length<=i⟩
def Uz (K:a6) (a:ah):It :=
 ⟨fun i H=>∃ xs x,kG K H a xs/\xs[i]?=some x,fun i H x H'=>H'=H/\∀ xs,kG K H a xs->xs[i]?=some x,fun i H=>∃ xs,kG K H a xs/\xs.length<=i⟩
def U6 (lo:Int) (n:Nat):It:=⟨fun i _=>i<n,fun i H x H'=>H'=H/\x=.int (lo + i),fun i _=>n<=i⟩
theorem HV {P:aK}{w:aY}{K:a6}{tg:aV} (a it:ah):xk P w K tg (Uy K a) [it] it (fun i h=>h.IsListIter it a i) where
 mem:=by simp
 obj:=fun i h st b hb=>by
  have e:b=it:=by simpa using hb
  subst e
  obtain ⟨o,e,c,d⟩:=st
  exact ⟨o,e,fun v z=>by rw [d] at z;cases z⟩
 keep:=fun i h h' st k=>st.at fun o e=>k it (by simp) o e
 item:=by
  intro X hP hw hK hc i pins s σ H E I hf st hg
  subst hP hw hK
  obtain ⟨xs,x,hq,hx⟩:=hg
  obtain ⟨its,rv,p,hz⟩:=I.list hq
  obtain ⟨u,hu,ru⟩:=rv.get hx
  obtain ⟨f0,f1,f2,f3,f4,f5⟩:=hf it (by simp)
  refine wpAny_pyNext_list_item st p.isList (x:=u) (by simpa using hu) fun h' st' sb=>?_
  have I1:bQ X pins σ H { s with heap:=h' }:=I.turned (t':=s.toks) (fun b o hb e=>(sb.2 b hb).trans e) f0 f1 f3 f4 f5
  obtain ⟨o,e,c,d⟩:=id st'
  exact ⟨u,rfl,Ga (s:={ s with heap:=h' }) e c d (by decide) ⟨x,H,I1,ru,⟨rfl,fun ys hy=>by rw [I.list_inj hy hq];exact hx⟩,st',fun b hb=>(hf b hb).1⟩⟩
 done:=by
  intro X hP hw hK hc i pins s σ H E I hf st hg
  subst hP hw hK
  obtain ⟨xs,hq,hx⟩:=hg
  obtain ⟨its,rv,p,hz⟩:=I.list hq
  obtain ⟨f0,f1,f2,f3,f4,f5⟩:=hf it (by simp)
  have hl:=rv.length
  exact wpAny_pyNext_list_end (I.ok.hd hc) st p.isList (by simp;omega) fun h' eb=>⟨rfl,I.turned (t':=s.toks) (fun b o hb e=>eb b o hb e) f0 f1 f3 f4 f5⟩
 self:=fun _ _ _ _ _ st h=>wpAny_pyIter_listiter st h
theorem EK {P:aK}{w:aY}{K:a6}{tg:aV} (a it:ah):xk P w K tg (Uz K a) [it] it (fun i h=>h.IsTupleIter it a i) where
 mem:=by simp
 obj:=fun i h st b hb=>by
  have e:b=it:=by simpa using hb
  subst e
  obtain ⟨o,e,c,d⟩:=st
  exact ⟨o,e,fun v z=>by rw [d] at z;cases z⟩
 keep:=fun i h h' st k=>st.at fun o e=>k it (by simp) o e
 item:=by
  intro X hP hw hK hc i pins s σ H E I hf st hg
  subst hP hw hK
  obtain ⟨xs,x,hq,hx⟩:=hg
  obtain ⟨its,rv,p,hz⟩:=I.tuple hq
  obtain ⟨u,hu,ru⟩:=rv.get hx
  obtain ⟨f0,f1,f2,f3,f4,f5⟩:=hf it (by simp)
  refine wpAny_pyNext_tuple_item st (show s.heap.IsTuple a its.toArray from p) (x:=u) (by simpa using hu) fun h' st' sb=>?_
  have I1:bQ X pins σ H { s with heap:=h' }:=I.turned (t':=s.toks) (fun b o hb e=>(sb.2 b hb).trans e) f0 f1 f3 f4 f5
  obtain ⟨o,e,c,d⟩:=id st'
  exact ⟨u,rfl,Ga (s:={ s with heap:=h' }) e c d (by decide) ⟨x,H,I1,ru,⟨rfl,fun ys hy=>by rw [I.tuple_inj hy hq];exact hx⟩,st',fun b hb=>(hf b hb).1⟩⟩
 done:=by
  intro X hP hw hK hc i pins s σ H E I hf st hg
  subst hP hw hK
  obtain ⟨xs,hq,hx⟩:=hg
  obtain ⟨its,rv,p,hz⟩:=I.tuple hq
  obtain ⟨f0,f1,f2,f3,f4,f5⟩:=hf it (by simp)
  have hl:=rv.length
  exact wpAny_pyNext_tuple_end (I.ok.hd hc) st (show s.heap.IsTuple a its.toArray from p) (by simp;omega) fun h' eb=>⟨rfl,I.turned (t':=s.toks) (fun b o hb e=>eb b o hb e) f0 f1 f3 f4 f5⟩
 self:=fun _ _ _ _ _ st h=>wpAny_pyIter_tupleiter st h
theorem EL {P:aK}{w:aY}{K:a6}{tg:aV} (it:ah) (lo:Int) (n:Nat):xk P w K tg (U6 lo n) [it] it (fun i h=>IsRangeIter h it (lo + (i:Nat) * 1) ((n:Int) - (i:Nat)) 1) where
 mem:=by simp
 obj:=fun i h st b hb=>by
  have e:b=it:=by simpa using hb
  subst e
  exact ⟨_,st,fun v z=>by
   have z':Data.fields _=Data.cell v:=z
   cases z'⟩
 keep:=fun i h h' st k=>k it (by simp) _ st
 item:=by
  intro X hP hw hK hc i pins s σ H E I hf st hg
  subst hP hw hK
  obtain ⟨f0,f1,f2,f3,f4,f5⟩:=hf it (by simp)
  have W:=Walks.range (prog:=X.prog) (w:=X.w) (I.ok.hd hc) it lo 1 n
  refine W.item i s _ _ hg st fun v h' tk hv st' kk=>?_
  obtain ⟨t,rfl⟩:=hv
  have I1:bQ X pins σ H { s with heap:=h',toks:=tk }:=I.turned (fun b o hb e=>kk b o (by simpa using hb) e) f0 f1 f3 f4 f5
  refine ⟨_,rfl,Ga (s:={ s with heap:=h',toks:=tk }) (n:="range_iterator") st' rfl rfl (by decide) ⟨.int (lo + i),H,I1,⟨t,?_⟩,⟨rfl,rfl⟩,st',fun b hb=>(hf b hb).1⟩⟩
  rw [Int.mul_one]
 done:=by
  intro X hP hw hK hc i pins s σ H E I hf st hg
  subst hP hw hK
  obtain ⟨f0,f1,f2,f3,f4,f5⟩:=hf it (by simp)
  exact wpAny_pyNext_range_end (I.ok.hd hc) st (by have:n<=i:=hg;omega) fun h' eb=>⟨rfl,I.turned (t':=s.toks) (fun b o hb e=>eb b o hb e) f0 f1 f3 f4 f5⟩
 self:=fun _ _ _ _ _ st h=>wpAny_pyIter_rangeiter st h
end L2
namespace L2
open PySem PySem.Spec PyProof.Rows
section
variable {X:Cx}{tg:aV}
def S4 (K:a6) (tl:TE):TI:=fun σ H R=>tl σ H fun x H1=>∃ a,x=.ref a/\(∃ xs,lU K H1 a xs)/\R (Uy K a) H1
def UA (K:a6) (tl:TE):TI:=fun σ H R=>tl σ H fun x H1=>∃ a,x=.ref a/\(∃ xs,kG K H1 a xs)/\R (Uz K a) H1
theorem tU {l:aV}{tl:TE} (hl:PE X l tl):PI X tg l (S4 X.K tl):=by
 intro pins s σ H R I h
 refine fO (hl pins s σ H _ I h) fun v s1 h_16=>?_
 obtain ⟨x,H1,I1,r1,q1⟩:=h_16
 obtain ⟨a,e,⟨xs,hq⟩,q⟩:=q1
 subst e
 cases r1
 obtain ⟨its,rv,p,hz⟩:=I1.list hq
 refine iw p.isList ?_
 refine ⟨s1.heap.objs.size,[s1.heap.objs.size],_,_,H1,rfl,I1.kept (t':=s1.toks) fun b o e=>af _ e,HV a _,⟨_,aC _ rfl,rfl,rfl⟩,fun b hb=>?_,q⟩
 have e:b=s1.heap.objs.size:=by simpa using hb
 subst e
 exact I1.fpOk (ao _) (I1.hok.fresh (ao _))
theorem Kb {l:aV}{tl:TE} (hl:PE X l tl):PI X tg l (UA X.K tl):=by
 intro pins s σ H R I h
 refine fO (hl pins s σ H _ I h) fun v s1 h_17=>?_
 obtain ⟨x,H1,I1,r1,q1⟩:=h_17
 obtain ⟨a,e,⟨xs,hq⟩,q⟩:=q1
 subst e
 cases r1
 obtain ⟨its,rv,p,hz⟩:=I1.tuple hq
 refine fY (show s1.heap.IsTuple a its.toArray from p) ?_
 refine ⟨s1.heap.objs.size,[s1.heap.objs.size],_,_,H1,rfl,I1.kept (t':=s1.toks) fun b o e=>af _ e,EK a _,⟨_,aC _ rfl,rfl,rfl⟩,fun b hb=>?_,q⟩
 have e:b=s1.heap.objs.size:=by simpa using hb
 subst e
 exact I1.fpOk (ao _) (I1.hok.fresh (ao _))
theorem Kc {pins:List (ah×Obj)}{σ:St}{H:Hp}{s:ac}{R:It->Hp->Prop}{E:a8->ac->Prop}{lo hi:Int}{t u v:Tok}{tk:Nat} (I:bQ X pins σ H s) (h1:-(2 ^ 62)<=lo) (h2:lo<2 ^ 62) (h3:-(2 ^ 62)<=hi) (h4:hi<2 ^ 62)
  (q:R (U6 lo (hi - lo).toNat) H):au (aP X.prog X.w) X.A (Aw (.ref s.heap.objs.size)) (Uw X pins σ tg R) E { s with heap:=s.heap.push { cls:=.type "range",data:=.fields #[.int lo t,.int hi u,.int 1 v] },toks:=tk }:=by
 refine wpAny_pyIter_range (IsRange.new ..) (small_one h1 h2 h3 h4) ?_
 have I1:bQ X pins σ H { s with heap:=s.heap.push { cls:=.type "range",data:=.fields #[.int lo t,.int hi u,.int 1 v] },toks:=tk }:=I.kept fun b o e=>af _ e
 refine ⟨(s.heap.push { cls:=.type "range",data:=.fields #[.int lo t,.int hi u,.int 1 v] }).objs.size,[(s.heap.push { cls:=.type "range",data:=.fields #[.int lo t,.int hi u,.int 1 v] }).objs.size],_,_,H,rfl,
  I1.kept (t':=tk) fun b o e=>af _ e,EL _ lo (hi - lo).toNat,?_,fun b hb=>?_,q⟩
 ·have e1:lo + ((0:Nat):Int) * 1=lo:=by simp
  have e2:(((hi - lo).toNat:Nat):Int) - ((0:Nat):Int)=Builtin.Range.rangeSize lo hi 1:=by rw [rangeSize_one];split<;>omega
  show IsRangeIter _ _ (lo + ((0:Nat):Int) * 1) ((((hi - lo).toNat:Nat):Int) - ((0:Nat):Int)) 1
  rw [e1,e2]
  exact aC _ rfl
 ·have e:b=(s.heap.push { cls:=.type "range",data:=.fields #[.int lo t,.int hi u,.int 1 v] }).objs.size:=by simpa using hb
  subst e
  exact I1.fpOk (ao _) (I1.hok.fresh (ao _))
def S5 (ta:TA):TI:=fun σ H R=>ta σ H fun vs H1=>∃ j:Int,vs=[.int j]/\-(2 ^ 62)<=j/\j<2 ^ 62/\R (U6 0 j.toNat) H1
theorem HW {a:aV}{ta:TA}{p pos:Pos} (hg:Gl X "range") (hm:X.mg "range"=none) (ha:PA X [a] ta) (hs:aw [a] X.env=[(false,cR a X.env)]:=by rfl):PI X tg (.Call (.Name "range" p) [a] [] pos) (S5 ta):=by
 intro pins s σ H R I h
 refine Call_ (pO I hg hm boot_range (dq (fO (ha pos pins s σ H _ I h) fun us s1 ⟨vs,H1,I1,r1,q1⟩=>?_) hs rfl))
 obtain ⟨j,e,q1,q2,q⟩:=q1
 subst e
 cases r1 with
 | cons r rr =>
  cases rr
  obtain ⟨t,rfl⟩:=r
  exact call_range_1 (Kc I1 (by omega) (by omega) q1 q2 (by simpa using q))
inductive UB (g:TG) (tb:TS) (D:tS) (σ:St) (J:It) (H1:Hp):Prop
 | mk (W:Nat->Nat->St->Hp->Prop) (w0:∃ m,W 0 m σ H1) (turn:∀ i m σ H,W i m σ H ->
 (J.stop i H/\D.nx σ H)\/(J.go i H/\∃ N:St->Hp->Prop,(∀ σ' H',N σ' H'->∃ m',m'<m/\W (i + 1) m' σ' H')/\∀ x H',J.yld i H x H'->g x σ H' fun σ2 H2=>tb { D with nx:=N,ct:=N,bk:=D.nx } σ2 H2)):UB g tb D σ J H1
def UC (wi:TI) (g:TG) (tb:TS):TS:=fun D σ H=>wi σ H (UB g tb D σ)
def uX (fp:List ah) (h:bp):List (ah×Obj):=fp.filterMap fun b=>(h.get? b).map fun o=>(b,o)
theorem jE {fp:List ah}{h:bp}{b:ah}{o:Obj} (hb:b∈fp) (e:h.get? b=some o):(b,o)∈uX fp h:=List.mem_filterMap.mpr ⟨b,hb,by rw [e];rfl⟩
theorem HX {fp:List ah}{h:bp}{p:ah×Obj} (hp:p∈uX fp h):p.1∈fp/\h.get? p.1=some p.2:=by
 obtain ⟨b,hb,e⟩:=List.mem_filterMap.mp hp
 cases q:h.get? b with
 | none=>rw [q] at e;cases e
 | some o =>
  rw [q] at e
  have e':(b,o)=p:=bu e
  subst e'
  exact ⟨hb,q⟩
theorem bQ.pinned {pins:List (ah×Obj)}{σ:St}{H:Hp}{s:ac}{fp:List ah} (I:bQ X pins σ H s) (hf:∀ b∈fp,pR X pins H b) (ho:∀ b∈fp,∃ o,s.heap.get? b=some o/\∀ v,o.data≠.cell v):bQ X (pins++uX fp s.heap) σ H s :=
 I.pins_of fun p hp=>(List.mem_append.mp hp).elim (fun z=>I.pin p (aR _ z)) fun z=>by
  obtain ⟨hb,e⟩:=HX z
  obtain ⟨f0,f1,f2,_⟩:=hf p.1 hb
  obtain ⟨o,e',d⟩:=ho p.1 hb
  rw [e] at e';cases e'
  exact ⟨e,f0,f1,f2,d⟩
theorem bQ.unpinned {pins pl:List (ah×Obj)}{σ:St}{H:Hp}{s:ac} (I:bQ X (pins++pl) σ H s):bQ X pins σ H s:=I.pins_of fun p hp=>I.pin p (aR _ (eM _ hp))
theorem Kd {iter:aV}{body:List cC}{wi:TI}{g:TG}{tb:TS}{pos:Pos} (hp:PassesOwn (aP X.prog X.w) X.A X.env X.xe) (hc:X.calm=true) (hi:PI X tg iter wi) (hg:PG X tg g) (hb:G9 X body tb)
  (hs:∀ x,ed iter X.env x=pure x:=by intro _;rfl):PS X (.For tg iter body [] pos) (UC wi g tb):=by
 intro pins s σ H D I h
 refine wpAny_For (fO (hi pins s σ H _ I h) fun v s1 h1=>fO h1 fun itv s2 h2=>?_) hs
 obtain ⟨it,fp,tn,J,H2,e,I2,T,st2,f2,W,⟨m0,w0⟩,turn⟩:=h2
 subst e
 have stat:∀ {H':Hp},(∀ b∈fp,H' b=none)->∀ b∈fp,pR X pins H' b:=fun hn b hb=>⟨hn b hb,(f2 b hb).f1,(f2 b hb).f2,(f2 b hb).f3,(f2 b hb).f4,(f2 b hb).f5⟩
 refine codeAny_forLoop_any (Ux X pins tn fp W) ?_ m0 ⟨0,σ,H2,I2,st2,fun b hb=>(f2 b hb).1,w0⟩
 rintro n s3 ⟨i,σ3,H3,I3,st3,fr3,w3⟩
 rcases turn i n σ3 H3 w3 with ⟨stop,qn⟩ | ⟨go,N,hN,step⟩
 ·refine i6 hp (fO (T.done X rfl rfl rfl hc i pins s3 σ3 H3 X.xe I3 (stat fr3) st3 stop) fun r s4 ⟨hr,I4⟩=>?_)
  subst hr
  exact tj ⟨σ3,H3,I4,qn⟩
 ·refine i6 hp (fO (T.item X rfl rfl rfl hc i pins s3 σ3 H3 X.xe I3 (stat fr3) st3 go) fun r s4 ⟨u,hr,h4⟩=>?_)
  subst hr
  refine i6 hp (fO h4 fun _ s5 ⟨x,H5,I5,r5,y5,st5,fr5⟩=>?_)
  have I5':=I5.pinned (stat fr5) (T.obj _ _ st5)
  refine i6 hp (fO (hg _ s5 σ3 H5 x u _ I5' r5 (step x H5 y5)) fun _ s6 ⟨σ6,H6,I6,q6⟩=>?_)
  refine i6 hp (fO (hb _ s6 σ6 H6 _ I6 q6) fun f s7 q7=>?_)
  have again:∀ {σ7:St}{H7:Hp},bQ X (pins++uX fp s5.heap) σ7 H7 s7->N σ7 H7->∃ m,m<n/\Ux X pins tn fp W m s7:=fun {σ7 H7} I7 n7=>by
   obtain ⟨m',hm,w7⟩:=hN σ7 H7 n7
   refine ⟨m',hm,i + 1,σ7,H7,I7.unpinned,T.keep _ _ _ st5 fun b hb o e=>(I7.pin (b,o) (aR _ (aR _ (jE hb e)))).1,fun b hb=>?_,w7⟩
   obtain ⟨o,e,d⟩:=T.obj _ _ st5 b hb
   exact (I7.pin (b,o) (aR _ (aR _ (jE hb e)))).2.1
  cases f with
  | next=>obtain ⟨σ7,H7,I7,n7⟩:=q7;exact again I7 n7
  | cont=>obtain ⟨σ7,H7,I7,n7⟩:=q7;exact again I7 n7
  | brk=>obtain ⟨σ7,H7,I7,q7⟩:=q7;exact ⟨σ7,H7,I7.unpinned,q7⟩
  | ret v=>obtain ⟨x7,σ7,H7,I7,r7,q7⟩:=q7;exact ⟨x7,σ7,H7,I7.unpinned,r7,q7⟩
end
end L2
namespace L2
open PySem PySem.Spec PyProof.Rows
abbrev R2:=V->V->Hp->VK->Prop
def pE (X:Cx) (f:a8->a8->Sem a8) (r:R2):Prop :=
 ∀ (pins:List (ah×Obj)) (s:ac) (σ:St) (H:Hp) (x y:V) (v u:a8) (Q:VK),bQ X pins σ H s->de x v->de y u->r x y H Q ->
  au (aP X.prog X.w) X.A (f v u) (EP X pins σ Q) X.xe s
def UD (X:Cx) (f:a8->Sem a8) (r:V->Hp->VK->Prop):Prop :=
 ∀ (pins:List (ah×Obj)) (s:ac) (σ:St) (H:Hp) (x:V) (v:a8) (Q:VK),bQ X pins σ H s->de x v->r x H Q ->
  au (aP X.prog X.w) X.A (f v) (EP X pins σ Q) X.xe s
def jz (X:Cx) (f:a8) (r:List V->Hp->VK->Prop):Prop :=
 ∀ (pins:List (ah×Obj)) (s:ac) (σ:St) (H:Hp) (xs:List V) (us:List a8) (Q:VK),bQ X pins σ H s->cV xs us->r xs H Q ->
  au (aP X.prog X.w) X.A (call f us) (EP X pins σ Q) X.xe s
def S6 (r:R2) (ta tb:TE):TE:=fun σ H Q=>ta σ H fun x H1=>tb σ H1 fun y H2=>r x y H2 Q
def VS (r:V->Hp->VK->Prop) (ta:TE):TE:=fun σ H Q=>ta σ H fun x H1=>r x H1 Q
inductive Vr (C:Int->Int->Prop) (g:Int->Int->V) (x:V) (y:V) (H:Hp) (Q:VK):Prop
 | mk (i j:_) (h0:x=.int i) (h1:y=.int j) (h2:C i j) (h3:Q (g i j) H):Vr C g x y H Q
def rI (C:Int->Int->Prop) (g:Int->Int->V):R2:=Vr C g
inductive S7 (g:Int->Int->V) (x:V) (y:V) (H:Hp) (Q:VK):Prop
 | mk (i j:_) (h0:x=.int i) (h1:y=.int j) (h2:Q (g i j) H):S7 g x y H Q
def QC (g:Int->Int->V):R2:=S7 g
inductive Vs (g:Int->V) (x:V) (H:Hp) (Q:VK):Prop
 | mk (i:_) (h0:x=.int i) (h1:Q (g i) H):Vs g x H Q
def rU (g:Int->V):V->Hp->VK->Prop:=Vs g
section
variable {X:Cx}{a b c:aV}{ta tb tc:TE}{pos:Pos}
theorem QD (ha:PE X a ta) (hb:PE X b tb) {pins:List (ah×Obj)}{s:ac}{σ:St}{H:Hp}{R:V->V->Hp->Prop} (I:bQ X pins σ H s)
  (h:ta σ H fun x H1=>tb σ H1 fun y H2=>R x y H2) {Q:a8->ac->Prop}{f:a8->a8->Sem a8}
  (hf:∀ v u s2 x y H2,bQ X pins σ H2 s2->de x v->de y u->R x y H2->au (aP X.prog X.w) X.A (f v u) Q X.xe s2) :
  au (aP X.prog X.w) X.A (cR a X.env) (fun v s₁=>au (aP X.prog X.w) X.A (cR b X.env) (fun u s₂=>au (aP X.prog X.w) X.A (f v u) Q X.xe s₂) X.xe s₁) X.xe s:=by
 refine fO (ha pins s σ H _ I h) fun v s1 h_19=>?_
 obtain ⟨x,H1,I1,r1,q1⟩:=h_19
 refine fO (hb pins s1 σ H1 _ I1 q1) fun u s2 h_20=>?_
 obtain ⟨y,H2,I2,r2,q2⟩:=h_20
 exact hf v u s2 x y H2 I2 r1 r2 q2
theorem Pj {op:Operator}{r:R2} (ho:pE X (fZ op) r) (ha:PE X a ta) (hb:PE X b tb):PE X (.BinOp a op b pos) (S6 r ta tb):=by
 intro pins s σ H Q I h
 exact wpAny_BinOp (QD ha hb I h fun v u s2 x y H2 I2 rx ry q=>ho pins s2 σ H2 x y v u Q I2 rx ry q)
theorem S8 {op:UnaryOp}{r:V->Hp->VK->Prop} (ho:UD X (unaryOp op) r) (ha:PE X a ta):PE X (.UnaryOp op a pos) (VS r ta):=by
 intro pins s σ H Q I h
 exact UnaryOp_ (fO (ha pins s σ H _ I h) fun v s1 h_21=>by obtain ⟨x,H1,I1,r1,q1⟩:=h_21;exact ho pins s1 σ H1 x v Q I1 r1 q1)
theorem UE {f:a8->a8->Sem a8}{C:Int->Int->Prop}{g:Int->Int->Int}
  (rule:∀ (i j:Int) (t u:Tok) (s:ac) (Q:a8->ac->Prop) (E:a8->ac->Prop),C i j->Q (.int (g i j) s.toks) { s with toks:=s.toks + 1 }->au (aP X.prog X.w) X.A (f (.int i t) (.int j u)) Q E s) :
  pE X f (rI C fun i j=>.int (g i j)):=by
 intro pins s σ H x y v u Q I rx ry h
 obtain ⟨i,j,rfl,rfl,hc,q⟩:=h
 obtain ⟨t,rfl⟩:=rx
 obtain ⟨t',rfl⟩:=ry
 exact rule i j t t' s _ _ hc ⟨.int (g i j),H,I.tok _,⟨_,rfl⟩,q⟩
theorem UF {f:a8->a8->Sem a8}{g:Int->Int->Int}
  (rule:∀ (i j:Int) (t u:Tok) (s:ac) (Q:a8->ac->Prop) (E:a8->ac->Prop),Q (.int (g i j) s.toks) { s with toks:=s.toks + 1 }->au (aP X.prog X.w) X.A (f (.int i t) (.int j u)) Q E s) :
  pE X f (QC fun i j=>.int (g i j)):=by
 intro pins s σ H x y v u Q I rx ry h
 obtain ⟨i,j,rfl,rfl,q⟩:=h
 obtain ⟨t,rfl⟩:=rx
 obtain ⟨t',rfl⟩:=ry
 exact rule i j t t' s _ _ ⟨.int (g i j),H,I.tok _,⟨_,rfl⟩,q⟩
theorem QE {f:a8->a8->Sem a8}{g:Int->Int->Bool}
  (rule:∀ (i j:Int) (t u:Tok) (s:ac) (Q:a8->ac->Prop) (E:a8->ac->Prop),Q (.bool (g i j)) s->au (aP X.prog X.w) X.A (f (.int i t) (.int j u)) Q E s) :
  pE X f (QC fun i j=>.bl (g i j)):=by
 intro pins s σ H x y v u Q I rx ry h
 obtain ⟨i,j,rfl,rfl,q⟩:=h
 obtain ⟨t,rfl⟩:=rx
 obtain ⟨t',rfl⟩:=ry
 exact rule i j t t' s _ _ ⟨.bl (g i j),H,I,rfl,q⟩
def UG (i j:Int):Prop:=0<j/\j<1073741824
def QF (i j:Int):Prop:=(-(2 ^ 64)<i/\i<2 ^ 64)\/(-(2 ^ 64)<j/\j<2 ^ 64)
theorem QF.ok {i j:Int} (h:QF i j):IntMulOk i j:=by
 rcases h with ⟨h1,h2⟩ | ⟨h1,h2⟩
 ·exact .of_left (intBits_le_64 h1 h2)
 ·exact .of_right (intBits_le_64 h1 h2)
theorem QG:pE X (fZ .Add) (QC fun i j=>.int (i + j)):=UF fun _ _ _ _ _ _ _ q=>add_int q
theorem QH:pE X (fZ .Mult) (rI QF fun i j=>.int (i * j)):=UE fun _ _ _ _ _ _ _ hc q=>mul_int q hc.ok
theorem NK:pE X (fZ .FloorDiv) (rI UG fun i j=>.int (i / j)):=UE fun i j _ _ _ _ _ hc q=>by
 have h1:(0:Int)<j:=hc.1
 have h2:j<1073741824:=hc.2
 exact floordiv_int (by omega) (by rw [Int.fdiv_eq_ediv_of_nonneg i (by omega)];exact q) (.inl (PyProof.noPylong_small (by omega)))
theorem QI:pE X (fZ .Mod) (rI (fun _ j=>0<j) fun i j=>.int (i % j)):=UE fun i j _ _ _ _ _ hc q=>by
 have h1:(0:Int)<j:=hc
 exact mod_int' (by omega) (by rw [Int.fmod_eq_emod_of_nonneg i (by omega)];exact q)
theorem VT {f:a8->Sem a8}{g:Int->Int}
  (rule:∀ (i:Int) (t:Tok) (s:ac) (Q:a8->ac->Prop) (E:a8->ac->Prop),Q (.int (g i) s.toks) { s with toks:=s.toks + 1 }->au (aP X.prog X.w) X.A (f (.int i t)) Q E s) :
  UD X f (rU fun i=>.int (g i)):=by
 intro pins s σ H x v Q I rx h
 obtain ⟨i,rfl,q⟩:=h
 obtain ⟨t,rfl⟩:=rx
 exact rule i t s _ _ ⟨.int (g i),H,I.tok _,⟨_,rfl⟩,q⟩
theorem QJ:UD X (unaryOp .USub) (rU fun i=>.int (-i)):=VT fun _ _ _ _ _ q=>neg_int q
end
section
variable {X:Cx}{a b c:aV}{ta tb tc:TE}{pos:Pos}
theorem AG {pins:List (ah×Obj)}{σ:St}{H:Hp}{s:ac}{Q:VK}{k k':Bool} (I:bQ X pins σ H s) (q:Q (.bl k) H) (e:k=k'):EP X pins σ Q (.bool k') s:=by
 subst e
 exact ⟨.bl k,H,I,rfl,q⟩
theorem S9:pE X (bL .Lt) (QC fun i j=>.bl (decide (i<j))):=QE fun _ _ _ _ _ _ _ q=>lt_int q
theorem Sc:pE X (bL .LtE) (QC fun i j=>.bl (decide (i<=j))):=QE fun _ _ _ _ _ _ _ q=>le_int q
theorem Sd:pE X (bL .Gt) (QC fun i j=>.bl (decide (j<i))):=QE fun _ _ _ _ _ _ _ q=>gt_int q
theorem HY:pE X (bL .Lt) (fun x y H Q=>∃ i j,x=.str i/\y=.str j/\Q (.bl (decide (i.cps.toList<j.cps.toList))) H):=by
 intro pins s σ H x y v u Q I rx ry h
 obtain ⟨i,j,rfl,rfl,q⟩:=h
 obtain ⟨t,rfl⟩:=rx
 obtain ⟨t',rfl⟩:=ry
 exact lt_str (AG I q rfl)
theorem QK:pE X (bL .Is) (fun x y H Q=>y=.non/\Q (.bl (decide (x=.non))) H):=by
 intro pins s σ H x y v u Q I rx ry h
 obtain ⟨rfl,q⟩:=h
 cases ry
 refine is_none_gen (AG I q ?_)
 cases x<;>first
  | (cases rx;rfl)
  | (obtain ⟨t,rfl⟩:=rx;rfl)
theorem NL:pE X (bL .IsNot) (fun x y H Q=>y=.non/\Q (.bl (!decide (x=.non))) H):=by
 intro pins s σ H x y v u Q I rx ry h
 obtain ⟨rfl,q⟩:=h
 cases ry
 refine isnot_none_gen (AG I q ?_)
 cases x<;>first
  | (cases rx;rfl)
  | (obtain ⟨t,rfl⟩:=rx;rfl)
theorem Ke (b:aV) {op:wC} (h:op≠.In:=by decide) (h2:op≠.NotIn:=by decide):gI op b=false:=by
 have e1:(op == CmpOp.In)=false:=by cases op<;>first | rfl | exact absurd rfl h
 have e2:(op == CmpOp.NotIn)=false:=by cases op<;>first | rfl | exact absurd rfl h2
 cases b<;>simp [gI,e1,e2]
theorem NM {op:wC}{r:R2} (ho:pE X (bL op) r) (ha:PE X a ta) (hb:PE X b tb) (hm:gI op b=false):PE X (.Compare a [op] [b] pos) (S6 r ta tb):=by
 intro pins s σ H Q I h
 exact wpAny_Compare1 (QD ha hb I h fun v u s2 x y H2 I2 rx ry q=>ho pins s2 σ H2 x y v u Q I2 rx ry q) hm
def Pk (t:TE):TT:=fun σ H Q=>t σ H fun x H'=>∃ k,x=.bl k/\Q k H'
theorem NN {op:wC}{r:R2} (ho:pE X (bL op) r) (ha:PE X a ta) (hb:PE X b tb) (hm:gI op b=false):PT X (.Compare a [op] [b] pos) (Pk (S6 r ta tb)):=by
 intro pins s σ H Q I h
 refine M_ (fO (ha pins s σ H _ I h) fun v s1 ⟨x,H1,I1,r1,q1⟩=>fO (hb pins s1 σ H1 _ I1 q1) fun u s2 ⟨y,H2,I2,r2,q2⟩ =>
  fO (ho pins s2 σ H2 x y v u _ I2 r1 r2 q2) fun c s3 ⟨z,H3,I3,r3,k,e,q3⟩=>?_) hm
 subst e
 cases r3
 exact e8 ⟨H3,I3,q3⟩
def EM (r r':R2) (ta tb tc:TE):TE:=fun σ H Q=>ta σ H fun x H1=>tb σ H1 fun y H2=>r x y H2 fun z H3=>∃ k,z=.bl k /\
 (if k=true then tc σ H3 fun w' H4=>r' y w' H4 Q else Q (.bl false) H3)
theorem Kf {op op':wC}{r r':R2} (ho:pE X (bL op) r) (ho':pE X (bL op') r') (ha:PE X a ta) (hb:PE X b tb) (hc:PE X c tc)
  (hm:Jq [op,op'] [b,c]=false:=by with_unfolding_all rfl):PE X (.Compare a [op,op'] [b,c] pos) (EM r r' ta tb tc):=by
 intro pins s σ H Q I h
 refine Compare_chain (fO (ha pins s σ H _ I h) fun v s1 ⟨x,H1,I1,r1,q1⟩=>chain_link (fO (hb pins s1 σ H1 _ I1 q1) fun u s2 ⟨y,H2,I2,r2,q2⟩ =>
  fO (ho pins s2 σ H2 x y v u _ I2 r1 r2 q2) fun d s3 ⟨z,H3,I3,r3,k,e,q3⟩=>?_)) hm
 subst e
 cases r3
 refine e8 ?_
 cases k with
 | false=>exact ite_ff ⟨.bl false,H3,I3,rfl,q3⟩
 | true=>exact ite_tt (chain_last (fO (hc pins s3 σ H3 _ I3 q3) fun w' s4 h_22=>by obtain ⟨z',H4,I4,r4,q4⟩:=h_22;exact ho' pins s4 σ H4 y z' u w' Q I4 r2 r4 q4))
theorem Kg {op op':wC}{r r':R2} (ho:pE X (bL op) r) (ho':pE X (bL op') r') (ha:PE X a ta) (hb:PE X b tb) (hc:PE X c tc)
  (hm:Jq [op,op'] [b,c]=false:=by with_unfolding_all rfl):PT X (.Compare a [op,op'] [b,c] pos) (Pk (EM r r' ta tb tc)):=by
 intro pins s σ H Q I h
 refine isTrue_chain (fO (ha pins s σ H _ I h) fun v s1 ⟨x,H1,I1,r1,q1⟩=>test_link (fO (hb pins s1 σ H1 _ I1 q1) fun u s2 ⟨y,H2,I2,r2,q2⟩ =>
  fO (ho pins s2 σ H2 x y v u _ I2 r1 r2 q2) fun d s3 ⟨z,H3,I3,r3,k,e,q3⟩=>?_)) hm
 subst e
 cases r3
 refine e8 ?_
 cases k with
 | false =>
  obtain ⟨k',e',q'⟩:=q3
  cases e'
  exact ite_ff ⟨H3,I3,q'⟩
 | true =>
  refine ite_tt (test_last (fO (hc pins s3 σ H3 _ I3 q3) fun w' s4 ⟨z',H4,I4,r4,q4⟩=>fO (ho' pins s4 σ H4 y z' u w' _ I4 r2 r4 q4) fun d' s5 ⟨z2,H5,I5,r5,k2,e2,q5⟩=>?_))
  subst e2
  cases r5
  exact e8 ⟨H5,I5,q5⟩
theorem xl:(sizeLine:Nat)<2 ^ 63:=by rw [sizeLine_eq];decide
theorem EN:pE X (fZ .Add) (fun x y H Q=>∃ i j,x=.str i/\y=.str j/\i.length + j.length<=sizeLine/\Q (.str (i++j)) H):=by
 intro pins s σ H x y v u Q I rx ry h
 obtain ⟨i,j,rfl,rfl,hz,q⟩:=h
 obtain ⟨t,rfl⟩:=rx
 obtain ⟨t',rfl⟩:=ry
 exact add_str (fun t' tk=>⟨.str (i++j),H,I.tok _,⟨_,rfl⟩,q⟩) hz
theorem ki {x:V}{us:List a8} (r:cV [x] us):∃ u,us=[u]/\de x u:=by
 cases r with
 | cons r1 r2=>cases r2;exact ⟨_,rfl,r1⟩
theorem Pl {x y:V}{us:List a8} (r:cV [x,y] us):∃ u w',us=[u,w']/\de x u/\de y w':=by
 cases r with
 | cons r1 r2 =>
  cases r2 with
  | cons r3 r4=>cases r4;exact ⟨_,_,rfl,r1,r3⟩
end
end L2
namespace L2
open PySem PySem.Spec PyProof.Rows
structure QL (h:bp) (x dx C:ah) (mA:Str->Option a8):Prop where
 obj:h.get? x=some (wc C dx)
 ns:h.Ns1 dx mA
 ne:dx≠x
theorem HZ {h:bp}{dx:ah}{mA:Str->Option a8} (n:h.Ns1 dx mA):∃ od,h.get? dx=some od/\∀ name,wY name od=some (mA name):=by
 obtain ⟨o,es,ep,ho,hd,hk,_,hm⟩:=n
 refine ⟨o,ho,fun name=>?_⟩
 have e:=hm name
 unfold nsFind findBy at e
 rw [<- HD] at e
 unfold wY
 rw [hd]
 dsimp only
 split
 ·rename_i y q
  rw [q] at e
  exact congrArg some e
 ·rename_i q
  rw [q] at e
  have a:es.toList.any (·.refKey)=false:=by
   rw [vF]
   intro y hy
   obtain ⟨z,t,hkey⟩:=hk y (Array.mem_toList_iff.mp hy)
   simp [DictEntry.refKey,hkey]
  have a':¬ es.toList.any (·.refKey)=true:=by rw [a];exact a_
  rw [if_neg a']
  exact congrArg some e
theorem QL.look {h:bp}{x dx C:ah}{mA:Str->Option a8} (I:QL h x dx C mA):∃ od,PySem.W.InstAt h x (wc C dx) C (some od)/\∀ name,wY name od=some (mA name) :=
 let ⟨od,ho,hl⟩:=HZ I.ns
 ⟨od,⟨I.obj,rfl,rfl,ho⟩,hl⟩
section
variable {prog:aK}{w:aY}{A:b6}{E:a8->ac->Prop}{s:ac}{K:a6}{x dx C f:ah}{mA:Str->Option a8}{name:Str}{v:a8}
end
theorem xj.some_of {v:V}{o:Option a8} (r:xj (some v) o):∃ u,o=some u/\de v u:=by
 cases o with
 | none=>exact (show False from r).elim
 | some u=>exact ⟨u,rfl,r⟩
section
variable {P:aK}{w:aY}{H H':Hp}{h h':bp}{a C dx:ah}{fs fs':List (Str×V)}
theorem NO (hok:pC P w H h) (e:H a=some (.ins C dx fs)):∃ mA,QL h a dx C mA/\(∀ f,xj (fs.lookup f) (mA f))/\PySem.Within mA (fs.map (·.1))/\fs.length<=1000/\H dx=some (.own a):=by
 obtain ⟨d,z,ne,ob,mA,n,r,q⟩:=(show dL P w H h a (.ins C dx fs) from hok a _ e)
 exact ⟨mA,⟨ob,n,ne⟩,r,q,z,d⟩
end
structure UH (K:a6) (C:ah):Prop where
 pg:HE K C Str.empty=true
 hd:PySem.W.hasDictIn K C=true
 po:PySem.W.plainOver K C=true
 sa:ll K (.ref C) "__setattr__"=some (some (.builtin "object.__setattr__"))
theorem UH.get {K:a6}{C:ah} (c:UH K C) (f:Str):HE K C f=true:=c.pg
section
variable {X:Cx}{pins:List (ah×Obj)}{σ:St}{H:Hp}{s:ac}{a C dx:ah}{fs:List (Str×V)}{f:Str}{v:V}{A:b6}{E:a8->ac->Prop}
end
section
variable {X:Cx}{o e value:aV}{f:Str}{pos pos' tpos:Pos}{ta tv:TE}
end
section
variable {X:Cx}{pins:List (ah×Obj)}{σ:St}{H:Hp}{s:ac}{A:b6}{E:a8->ac->Prop}{Q:a8->ac->Prop}{c:a8}{b:Bool}
inductive wp (K:a6) (H:Hp):V->a8->Prop where
 | non:wp K H .non (.type "NoneType")
 | bl (x:Bool):wp K H (.bl x) (.type "bool")
 | int (i:Int):wp K H (.int i) (.type "int")
 | str (x:Str):wp K H (.str x) (.type "str")
 | flt (x:UInt64):wp K H (.flt x) (.type "float")
 | lst {a:ah}{xs:List V} (e:H a=some (.lst xs)):wp K H (.ref a) (.type "list")
 | frz {a:ah}{o:Obj}{xs:List V} (e:H a=some (.frz o (.lst xs))):wp K H (.ref a) (.type "list")
 | tup {a:ah}{xs:List V} (e:H a=some (.tup xs)):wp K H (.ref a) (.type "tuple")
 | dK {a:ah}{kvs:List (fi×V)} (e:H a=some (.dK kvs)):wp K H (.ref a) (.type "dict")
 | dT {a:ah}{kvs:List (List fi×V)} (e:H a=some (.dT kvs)):wp K H (.ref a) (.type "dict")
 | ins {a C dx:ah}{fs:List (Str×V)} (e:H a=some (.ins C dx fs)) (cl:UH K C) (ha:ll K (.ref C) "__class__"=some (some (.builtin "object.__class__")))
   (hn:G4 K (.builtin "object.__class__") "__get__"=some (some (.builtin "getset_descriptor.__get__"))) (htk:Jr K (.builtin "object.__class__")=some true)
   (hm:dg K C (.type "object")=some true):wp K H (.ref a) (.ref C)
theorem qI {x:V}{u t:a8} (I:bQ X pins σ H s) (rx:de x u) (ty:wp X.K H x t) (e:pI X.K t c=some b) (h:∀ tk,Q (.bool b) { s with toks:=tk }) :
  au (aP X.prog X.w) A (call (.builtin "isinstance") [u,c]) Q E s:=by
 cases ty with
 | non=>cases (show u=fG from rx);exact cH PySem.W.kitx_none I.kIn jf e (fun z=>nomatch z) h
 | bl y=>cases (show u=HA y from rx);exact cH PySem.W.kitx_bool I.kIn jf e (fun z=>nomatch z) h
 | int i=>obtain ⟨t,q⟩:=(show ∃ t,u=lQ i t from rx);cases q;exact cH PySem.W.kitx_int I.kIn jf e (fun z=>nomatch z) h
 | str y=>obtain ⟨t,q⟩:=(show ∃ t,u=jd y t from rx);cases q;exact cH PySem.W.kitx_str I.kIn jf e (fun z=>nomatch z) h
 | flt y=>obtain ⟨t,q⟩:=(show ∃ t,u=Value.float y t from rx);cases q;exact cH PySem.W.kitx_float I.kIn jf e (fun z=>nomatch z) h
 | @lst a xs ea =>
  cases (show u=c6 a from rx)
  obtain ⟨_,_,n,_,h1⟩:=(show dL X.prog X.w H s.heap a (.lst xs) from I.hok a _ ea)
  exact cH tH I.kIn ⟨_,h1,rfl⟩ e (fun z=>nomatch z) h
 | @frz a ob xs ea =>
  cases (show u=c6 a from rx)
  obtain ⟨_,_,_,n,_,h1⟩:=(show dL X.prog X.w H s.heap a (.frz ob (.lst xs)) from I.hok a _ ea)
  exact cH tH I.kIn ⟨_,h1,rfl⟩ e (fun z=>nomatch z) h
 | @tup a xs ea =>
  cases (show u=c6 a from rx)
  obtain ⟨_,_,_,p⟩:=(show dL X.prog X.w H s.heap a (.tup xs) from I.hok a _ ea)
  obtain ⟨o,h1,h2,_⟩:=p
  exact cH Ep I.kIn ⟨o,h1,h2⟩ e (fun z=>nomatch z) h
 | @dK a kvs ea =>
  cases (show u=c6 a from rx)
  obtain ⟨_,_,vs,_,p⟩:=(show dL X.prog X.w H s.heap a (.dK kvs) from I.hok a _ ea)
  obtain ⟨o,es,ep,h1,h2,_⟩:=p
  exact cH G5 I.kIn ⟨o,h1,h2.1⟩ e (fun z=>nomatch z) h
 | @dT a kvs ea =>
  cases (show u=c6 a from rx)
  obtain ⟨_,_,xs,_,o,es,ep,h1,h2,_⟩:=(show dL X.prog X.w H s.heap a (.dT kvs) from I.hok a _ ea)
  exact cH G5 I.kIn ⟨o,h1,h2.1⟩ e (fun z=>nomatch z) h
 | @ins a C dx fs ea cl ha hn htk hm =>
  cases (show u=c6 a from rx)
  obtain ⟨mA,O,_⟩:=NO I.hok ea
  obtain ⟨od,J,_⟩:=O.look
  exact cH (PySem.W.kitx_own (cl.get _) cl.hd ha hn htk hm) I.kIn J e (fun z=>nomatch z) h
end
end L2
namespace L2
open PySem PySem.Spec PyProof.Rows
structure kQ (k:Nat) (A:b6):Prop where
 hd:A.handled=none
 dp:A.depth + 3 * k + 5<recursionLimit
 un:A.units + 16 * k + 200<tm
theorem kQ.mono {j k:Nat}{A:b6} (r:kQ k A) (h:j<=k):kQ j A:=⟨r.hd,by have:=r.dp;omega,by have:=r.un;omega⟩
theorem kQ.deeper {k:Nat}{A:b6} (r:kQ (k + 1) A) (env:Env):kQ k (A.deeper env) :=
 ⟨r.hd,by have:=r.dp;show A.depth + 1 + 3 * k + 5<_;omega,by have:=r.un;show A.units + 3 + 16 * k + 200<_;omega⟩
theorem kQ.depth {k:Nat}{A:b6} (r:kQ k A):A.depth<recursionLimit:=by have:=r.dp;omega
theorem kQ.units {k:Nat}{A:b6} (r:kQ k A):A.units + 64<tm:=by have:=r.un;omega
def NQ:TA:=fun _ H Q=>Q [] H
def Gb (ta:TE) (tr:TA):TA:=fun σ H Q=>ta σ H fun x H1=>tr σ H1 fun xs H2=>Q (x::xs) H2
section
variable {X:Cx}{e:aV}{es:List aV}{te:TE}{t:TA}{pos:Pos}
theorem gq:PA X [] NQ:=fun _ _ _ _ H Q I h=>Calls.spliced_nil ⟨[],H,I,.nil,h⟩
theorem eV (ha:PE X e te) (hr:PA X es t) (hs:aw (e::es) X.env=(false,cR e X.env)::aw es X.env:=by rfl):PA X (e::es) (Gb te t):=by
 intro pos pins s σ H Q I h
 rw [hs]
 show au _ _ (spliced ((false,cR e X.env)::eT pos (aw es X.env))) _ _ s
 refine Calls.spliced_cons (fO (ha pins s σ H _ I h) fun u s1 ⟨x,H1,I1,r1,q1⟩=>?_)
 exact fO (hr pos pins s1 σ H1 _ I1 q1) fun us s2 h_25=>by obtain ⟨xs,H2,I2,r2,q2⟩:=h_25;exact ⟨x::xs,H2,I2,.cons r1 r2,q2⟩
def UI (t:TA):TE:=fun σ H Q=>t σ H fun xs H1=>xs.length<=sizeLine/\∀ p,H1 p=none->Q (.ref p) (upd H1 p (.tup xs))
def UJ (t:TA):TE:=fun σ H Q=>t σ H fun xs H1=>xs.length<=sizeLine/\∀ p,H1 p=none->Q (.ref p) (upd H1 p (.lst xs))
theorem QM {x1} (h:PA X es t):PE X (.Tuple es x1 pos) (UI t):=by
 intro pins s σ H Q I hq
 refine wpAny_Tuple_spliced (fO (h pos pins s σ H _ I hq) fun us s1 ⟨xs,H1,I1,r,z,q⟩=>⟨by rw [<- r.length];exact z,?_⟩)
 have hf:H1 s1.heap.objs.size=none:=I1.hok.fresh (ao _)
 refine ⟨.ref s1.heap.objs.size,upd H1 s1.heap.objs.size (.tup xs),I1.laid (t':=s1.toks) (fun b u e=>af _ e) (ao _) ?_,rfl,q _ hf⟩
 exact ⟨z,us,r,⟨_,aC _ rfl,rfl,_,rfl⟩⟩
theorem nQ (h:PA X es t):PE X (.List es pos) (UJ t):=by
 intro pins s σ H Q I hq
 refine wpAny_List_spliced (fO (h pos pins s σ H _ I hq) fun us s1 ⟨xs,H1,I1,r,z,q⟩=>⟨by rw [<- r.length];exact z,?_⟩)
 have hf:H1 s1.heap.objs.size=none:=I1.hok.fresh (ao _)
 refine ⟨.ref s1.heap.objs.size,upd H1 s1.heap.objs.size (.lst xs),I1.laid (t':=s1.toks) (fun b u e=>af _ e) (ao _) ?_,rfl,q _ hf⟩
 exact ⟨z,us,0,r,aC _ rfl⟩
end
abbrev Sp:=List V->Hp->VK->XK->Prop
abbrev JH:=List Env->Hp->ac->XK->a8->ac->Prop
structure NR (P:aK) (w:aY) (K:a6) (mg:Str->Option a8) (base:bp) (A:b6) (outer:List Env) (s:ac) (H:Hp):Prop where
 frames:A.frames=some outer
 mod:Mod K mg base
 bs:∀ b o,base.get? b=some o->s.heap.get? b=some o/\H b=none
 bsz:base.objs.size<=s.heap.objs.size
 funs:s.heap.FunFrames base outer
 frf:∀ b∈rK outer,H b=none
 hok:pC P w H s.heap
 bare:pi s.gens
inductive CE (outer:List Env) (P:aK) (w:aY) (H:Hp) (s:ac) (Q:VK) (u:a8) (s':ac):Prop
 | mk (v H':_) (h0:s'.os=s.os) (h1:pi s'.gens) (h2:Un (rK outer) [] H H' s.heap s'.heap) (h3:pC P w H' s'.heap) (h4:de v u) (h5:Q v H'):CE outer P w H s Q u s'
def CR (CX:JH) (outer:List Env) (P:aK) (w:aY) (H:Hp) (s:ac) (Q:VK) (E:XK) (r:rZ) (s':ac):Prop :=
 match r with
 | .ok (.ret u)=>CE outer P w H s Q u s'
 | .ok _=>False
 | .error e=>CX outer H s E e s'
structure uY (P:aK) (w:aY) (K:a6) (mg:Str->Option a8) (base:bp) (CX:JH) (k:Nat) (f:ah) (fd:eU) (ps:List Str) (sp:Sp):Prop where
 len:∀ vs H Q E,sp vs H Q E->vs.length=ps.length
 run:∀ (A:b6) (outer:List Env) (s:ac) (H:Hp) (args:Args) (us:List a8) (vs:List V) (Q:VK) (E:XK),kQ k A->NR P w K mg base A outer s H->yV s fd args (ps.zip us)->cV vs us->sp vs H Q E ->
  iy (aP P w) A (.call (.ref f) args) (CR CX outer P w H s Q E) s
theorem uY.imp {P:aK}{w:aY}{K:a6}{mg:Str->Option a8}{base:bp}{CX:JH}{k:Nat}{f:ah}{fd:eU}{ps:List Str}{sp sp':Sp} (F:uY P w K mg base CX k f fd ps sp)
  (h:∀ vs H Q E,sp' vs H Q E->sp vs H Q E):uY P w K mg base CX k f fd ps sp' :=
 ⟨fun vs H Q E q=>F.len vs H Q E (h _ _ _ _ q),fun A outer s H args us vs Q E hr he hb hv hs=>F.run A outer s H args us vs Q E hr he hb hv (h _ _ _ _ hs)⟩
section
variable {X:Cx}{pins:List (ah×Obj)}{σ:St}{H:Hp}{s s':ac}
theorem bQ.env0 (I:bQ X pins σ H s):NR X.prog X.w X.K X.mg X.base X.A X.stack s H :=
 ⟨I.ok.frames,I.ok.mod,I.bs,bU I.ok.bsz I.sz,I.stack,I.stkFree,I.hok,I.bare⟩
theorem bQ.after {Q:VK}{u:a8} (I:bQ X pins σ H s) (h:CE X.stack X.prog X.w H s Q u s'):EP X pins σ Q u s':=by
 obtain ⟨v,H',os,bare,un,hok,r,q⟩:=h
 obtain ⟨hh,g,d,t,os'⟩:=s'
 obtain rfl:os'=s.os:=os
 exact ⟨v,H',I.call (h':=hh) (g':=g) (d':=d) (t':=t) (ch:=[]) un hok bare (fun b z=>absurd z (by simp)),r,q⟩
end
def Se (sp:Sp) (dvs:List V) (E:XK) (t:TA):TE:=fun σ H Q=>t σ H fun vs H1=>sp (vs++dvs) H1 Q E
def ni (K:a6) (fd:eU) (ps:List Str) (ds:List a8):Prop :=
 ∀ (s:ac) (us:List a8),K.In s.heap->(us++ds).length=ps.length->yV s fd ⟨us,[]⟩ (ps.zip (us++ds))
theorem ni.all {K:a6}{fd:eU}{ps:List Str} (h:∀ us:List a8,us.length=ps.length->Ng fd ⟨us,[]⟩=pure (ps.zip us)):ni K fd ps []:=fun s us _ hl=>by
 rw [cA] at hl ⊢
 exact .of_eq (h us hl)
def pS (CX:JH) (X:Cx) (E:XK):Prop:=∀ (pins:List (ah×Obj)) (σ:St) (H:Hp) (s:ac) (e:a8) (s':ac),bQ X pins σ H s->CX X.stack H s E e s'->X.xe e s'
section
variable {X:Cx}{CX:JH}{k:Nat}{f C:ah}{fd:eU}{ps:List Str}{sp:Sp}{dvs:List V}{ds:List a8}{E:XK}{x m:Str}{p pos apos:Pos}{e o:aV}{es:List aV}{ta:TE}{t:TA}
theorem QN {pins:List (ah×Obj)}{σ:St}{H:Hp}{s:ac}{Q:VK}{us:List a8}{vs:List V} (F:uY X.prog X.w X.K X.mg X.base CX k f fd ps sp) (hr:kQ k X.A) (hb:ni X.K fd ps ds) (hd:cV dvs ds) (hx:pS CX X E)
  (I:bQ X pins σ H s) (r:cV vs us) (h:sp (vs++dvs) H Q E):au (aP X.prog X.w) X.A (call (.ref f) us) (EP X pins σ Q) X.xe s:=by
 have r2:cV (vs++dvs) (us++ds):=r.append hd
 have hl:(us++ds).length=ps.length:=by rw [<- r2.length];exact F.len _ _ _ _ h
 refine wpAny_call (r_ (F.run X.A X.stack s H ⟨us,[]⟩ (us++ds) (vs++dvs) Q E hr I.env0 (hb s us I.kIn hl) r2 h) fun r s' hq=>?_)
 cases r with
 | error e=>exact hx pins σ H s e s' I hq
 | ok fl =>
  cases fl with
  | ret u=>exact I.after hq
  | next=>exact i7 hq
  | brk=>exact i7 hq
  | cont=>exact i7 hq
theorem Gc (F:uY X.prog X.w X.K X.mg X.base CX k f fd ps sp) (hr:kQ k X.A) (hg:Gl X x) (hm:X.mg x=some (.ref f)) (hk:jg X.K (.ref f)=true) (hb:ni X.K fd ps ds) (hd:cV dvs ds) (hx:pS CX X E)
  (ha:PA X (e::es) t) (hdb:(x == ("__debug__" : Str))=false:=by decide) (he:aw (e::es) X.env=(false,cR e X.env)::aw es X.env:=by rfl) (hpl:(eT pos (aw es X.env)).any (·.1)=false:=by rfl) :
  PE X (.Call (.Name x p) (e::es) [] pos) (Se sp dvs E t):=by
 intro pins s σ H Q I h
 refine wZ (AD I hg hm ?_ hdb)
 refine PySem.W.callWith_K (h₀:=X.base) I.ok.mod.kin hk (fO (ha pos pins s σ H _ I h) fun us s1 ⟨vs,H1,I1,r,q⟩=>⟨I1.kIn,?_⟩) he hpl
 exact QN F hr hb hd hx I1 r q
end
section
variable {X:Cx}{CX:JH}{k:Nat}{f C:ah}{fd:eU}{ps ks:List Str}{sp:Sp}{E:XK}{x m:Str}{p pos apos kpos:Pos}{e o:aV}{es:List aV}{kws:List kA}{te ta:TE}{t tk:TA}{nm:Option Str}
variable {g:List a8->List a8->List a8}{gV:List V->List V->List V}
end
structure bw (N P:List Str) (sc:e7):Prop where
 kind:sc.kind=.function
 co:sc.isCoroutine=false
 gen:sc.isGenerator=false
 nd:N.Nodup
 pre:N.take P.length=P
 par:∀ x∈P,sc.names.lookup x=some .local\/sc.names.lookup x=some .cell
 nofree:∀ y∈sc.names,y.2≠.free
theorem zI {kindOf:Str->Option jt}{x:Str}:∀ {binds:List (Str×a8)}{m:Str->Option a8},(∀ v,(x,v)∉binds)->Js kindOf binds m x=m x
 | [],_,_=>rfl
 | (n,v)::r,m,h=>by
  unfold Js
  rw [zI fun w hw=>h w (aj _ hw)]
  split
  ·have:x≠n:=by rintro rfl;exact h v al
   simp [this]
  ·rfl
theorem zJ {kindOf:Str->Option jt}{x:Str}:∀ {binds:List (Str×a8)}{m:Str->Option a8},(∀ v,(x,v)∉binds)->Jt kindOf binds m x=m x
 | [],_,_=>rfl
 | (n,v)::r,m,h=>by
  unfold Jt
  rw [zJ fun w hw=>h w (aj _ hw)]
  split
  ·rfl
  ·have:x≠n:=by rintro rfl;exact h v al
   simp [this]
theorem zK {kindOf:Str->Option jt}{x:Str}{v:a8}:∀ {P:List Str}{vs:List a8}{i:Nat}{m:Str->Option a8},P.Nodup->P[i]?=some x->vs[i]?=some v->kindOf x=some .local ->
  Js kindOf (P.zip vs) m x=some v
 | [],_,_,_,_,h,_,_=>by simp at h
 | _::_,[],_,_,_,_,h,_=>by simp at h
 | p::P,w::vs,0,m,nd,h1,h2,hk=>by
  simp at h1 h2;subst h1;subst h2
  show Js kindOf ((p,w)::P.zip vs) m p=_
  unfold Js
  rw [zI fun v hv=>(List.nodup_cons.mp nd).1 (yO hv).1,if_pos hk]
  simp
 | p::P,w::vs,i + 1,m,nd,h1,h2,hk=>by
  show Js kindOf ((p,w)::P.zip vs) m x=_
  unfold Js
  exact zK (i:=i) (List.nodup_cons.mp nd).2 (by simpa using h1) (by simpa using h2) hk
theorem zL {kindOf:Str->Option jt}{x:Str}{v:a8}:∀ {P:List Str}{vs:List a8}{i:Nat}{m:Str->Option a8},P.Nodup->P[i]?=some x->vs[i]?=some v->kindOf x≠some .local ->
  Jt kindOf (P.zip vs) m x=some v
 | [],_,_,_,_,h,_,_=>by simp at h
 | _::_,[],_,_,_,_,h,_=>by simp at h
 | p::P,w::vs,0,m,nd,h1,h2,hk=>by
  simp at h1 h2;subst h1;subst h2
  show Jt kindOf ((p,w)::P.zip vs) m p=_
  unfold Jt
  rw [zJ fun v hv=>(List.nodup_cons.mp nd).1 (yO hv).1,if_neg hk]
  simp
 | p::P,w::vs,i + 1,m,nd,h1,h2,hk=>by
  show Jt kindOf ((p,w)::P.zip vs) m x=_
  unfold Jt
  exact zL (i:=i) (List.nodup_cons.mp nd).2 (by simpa using h1) (by simpa using h2) hk
def start (N:List Str) (vs:List V):St:=vs.map some++rE (N.length - vs.length) none
def ju (CX:JH) (P:aK) (w:aY) (K:a6) (mg:Str->Option a8) (base:bp) (N:List Str) (qual:Str) (scope:e7) (f:ah) (cd:a8) (A:b6) (outer:List Env) (s:ac) (H:Hp) (E:XK):Cx where
 prog:=P
 w:=w
 K:=K
 mg:=mg
 base:=base
 A:=A.deeper (s9 qual scope s.heap.objs.size f cd)
 N:=N
 s₀:=s
 H₀:=H
 env:=s9 qual scope s.heap.objs.size f cd
 outer:=outer
 stack:=s9 qual scope s.heap.objs.size f cd::outer
 ex:=[]
 calm:=true
 fn:=fun _=>true
 pn:=[]
 xe:=fun e s'=>au (aP P w) (A.deeper (s9 qual scope s.heap.objs.size f cd)) (leaving (s9 qual scope s.heap.objs.size f cd) e) (fun _ s''=>CX outer H s E e s'') (fun e' s''=>CX outer H s E e' s'') s'
theorem C7 {sc:e7}{n:Nat}{x:Str} (h:sc.names.lookup x=some .cell):∃ c,(bd n sc.names []).lookup x=some c:=by
 have q:=gK sc.names n [] (.inl h)
 exact Option.isSome_iff_exists.mp q
theorem H_ {CX:JH}{P:aK}{w:aY}{K:a6}{mg:Str->Option a8}{base:bp}{N ps:List Str}{qual:Str}{scope:e7}{f:ah}{cd:a8}{A:b6}{outer:List Env}{s s1:ac}{H:Hp}{E:XK}{us:List a8}{vs:List V}
  (S:bw N ps scope) (hd:A.handled=none) (e0:NR P w K mg base A outer s H) (hl:vs.length=ps.length) (r:cV vs us)
  (x:InCallC s s.heap.objs.size (Js (s9 qual scope s.heap.objs.size f cd).kindOf (ps.zip us) fun _=>none) (bd (s.heap.objs.size + 1) scope.names []) (Jt (s9 qual scope s.heap.objs.size f cd).kindOf (ps.zip us) fun _=>none) s1) :
  bQ (ju CX P w K mg base N qual scope f cd A outer s H E) [] (start N vs) H s1:=by
 have hpl:ps.length<=N.length:=by have:=congrArg n8 S.pre;rw [wF] at this;omega
 obtain ⟨h1,tk,rfl,hk⟩:=x.done
 have noA:∀ b:ah,b∉(ju CX P w K mg base N qual scope f cd A outer s H E).ex:=fun b z=>absurd (show b∈([] : List ah) from z) (by simp)
 refine ⟨⟨e0.mod,S.kind,rfl,rfl,ao _,fun y z c h1 h2=>?_,fun y hy=>?_,fun y c _ h=>?_,fun _=>hd,Around.frames_deeper e0.frames,.inr ⟨rfl,rfl⟩,fun b z=>absurd z (noA b),e0.bs,e0.bsz,fun b _ _=>noA b,fun b z=>absurd z (noA b),e0.funs,e0.frf⟩,
  rfl,e0.bare,Un.kept hk,⟨_,x.toInCall.ns,fun i y v h1 h2 h3=>?_⟩,fun y c h=>⟨_,x.cell y c h⟩,e0.hok.fresh (ao _),fun y c h=>?_,fun p hp=>absurd (show p∈([] : List (ah×Obj)) from hp) (by simp),e0.hok.kept hk,?_⟩
 ·exact name_of_addr x.apart (db h1) (db h2)
 ·have hy:scope.names.lookup y=some .cell\/scope.names.lookup y=some .free:=hy
  rcases hy with hy | hy
  ·exact C7 hy
  ·exact absurd rfl (S.nofree _ (db hy))
 ·exact cc (x.above y c (db h))
 ·have hi:i<vs.length:=by
   unfold start at h2
   by_cases hi:i<vs.length
   ·exact hi
   ·rw [aU (by simpa using hi)] at h2
    rw [cf] at h2
    split at h2<;>cases h2
  have ha:vs[i]?=some v:=by
   unfold start at h2
   rw [bg (by simpa using hi),aX] at h2
   cases e:vs[i]? with
   | none=>rw [e] at h2;cases h2
   | some a=>rw [e] at h2;cases h2;rfl
  obtain ⟨u,hu,rv⟩:=r.get ha
  have hp:ps[i]?=some y:=by
   rw [<- S.pre,List.getElem?_take_of_lt (by omega)];exact h1
  have ndP:ps.Nodup:=by rw [<- S.pre];exact S.nd.sublist (List.take_sublist _ _)
  refine ⟨u,rv,?_⟩
  rcases S.par y (b_ hp) with k | k
  ·exact .inl ⟨k,zK ndP hp hu k⟩
  ·obtain ⟨c,e⟩:=C7 (n:=s.heap.objs.size + 1) k
   refine .inr ⟨.inl k,c,e,?_⟩
   have q:=x.cell y c e
   rw [zL ndP hp hu (by show scope.names.lookup y≠_;rw [k];decide)] at q
   exact q
 ·exact e0.hok.fresh (cc (x.above y c (db h)))
 ·unfold start
  show _=N.length
  rw [aH,av,cQ]
  omega
theorem Sf {CX:JH}{P:aK}{w:aY}{K:a6}{mg:Str->Option a8}{base:bp}{k:Nat}{f:ah}{name qual:Str}{params:Arguments}{body:List cC}{scope:e7}{dV kV doc pm cdv ct oc:a8}{an od:Option ah}
  {osl:Array (Option a8)}{N ps:List Str}{sp:Sp} (lk:K.lookup f=some ⟨oc,od,.func (fR name qual params body scope dV kV doc pm an cdv ct),osl⟩) (hcd:lm K cdv qual=true) (S:bw N ps scope)
  (len:∀ vs H Q E,sp vs H Q E->vs.length=ps.length)
  (hbody:∀ (A:b6) (outer:List Env) (s:ac) (H:Hp) (vs:List V) (Q:VK) (E:XK),kQ k (A.deeper (s9 qual scope s.heap.objs.size f cdv))->sp vs H Q E ->
   ∃ t,G9 (ju CX P w K mg base N qual scope f cdv A outer s H E) body t/\t { nx:=fun _ H'=>Q .non H',rt:=Q } (start N vs) H) :
  uY P w K mg base CX (k + 1) f (fR name qual params body scope dV kV doc pm an cdv ct) ps sp:=by
 refine ⟨len,fun A outer s H args us vs Q E hr e0 hb r hsp=>?_⟩
 have hl:=len _ _ _ _ hsp
 have KX:K.In s.heap:=e0.mod.kin.keeps fun b o e=>(e0.bs b o e).1
 have lim:s.heap.NoLimit:=e0.mod.nolimit.keeps fun b o e=>(e0.bs b o e).1
 have hkind:∀ y∈ps.zip us,scope.names.lookup y.1=some .local\/(scope.names.lookup y.1=some .cell/\((bd (s.heap.objs.size + 1) scope.names []).lookup y.1).isSome=true):=fun ⟨n,v⟩ hy=>by
  rcases S.par n (yO hy).1 with q | q
  ·exact .inl q
  ·exact .inr ⟨q,gK _ _ _ (.inl q)⟩
 refine codeAny_call_function hr.depth (KX _ _ lk) rfl S.co S.gen rfl (Es KX hcd) (hb _ _ _ _ ?_)
 refine wpAny_newFunctionEnv_cells S.kind hkind fun env he s1 x=>?_
 subst he
 refine ⟨lim.keeps x.toInCall.keep,codeAny_func ?_⟩
 obtain ⟨t,ht,hq⟩:=hbody A outer s H vs Q E (hr.deeper _) hsp
 have I:bQ (ju CX P w K mg base N qual scope f cdv A outer s H E) [] (start N vs) H s1:=H_ S hr.hd e0 hl r x
 refine bI (ht [] s1 (start N vs) H _ I hq) (fun fl s' hs=>?_) fun e s' hs=>hs
 have fin:∀ {σ':St}{H':Hp}{v:V}{u:a8},bQ (ju CX P w K mg base N qual scope f cdv A outer s H E) [] σ' H' s'->de v u->Q v H'->CE outer P w H s Q u s' :=
  fun {σ' H' v u} J rv q=>⟨v,H',J.os,J.bare,J.base,J.hok,rv,q⟩
 cases fl with
 | ret u =>
  obtain ⟨v,σ',H',J,rv,q⟩:=hs
  exact fin J rv q
 | next =>
  obtain ⟨σ',H',J,q⟩:=hs
  exact fin (v:=V.non) (u:=fG) J rfl q
 | brk =>
  obtain ⟨_,_,_,q⟩:=hs
  exact i7 q
 | cont =>
  obtain ⟨_,_,_,q⟩:=hs
  exact i7 q
end L2
namespace L2
open PySem PySem.Spec PyProof.Rows
section
variable {X:Cx}{x:Str}{p pos:Pos}{e:aV}{es:List aV}{t:TA}{id T:String}{r:List V->Hp->VK->Prop}
def RN (r:List V->Hp->VK->Prop) (t:TA):TE:=fun σ H Q=>t σ H fun vs H1=>r vs H1 Q
theorem pT (hc:jz X (.builtin id) r) (hg:Gl X x) (hm:X.mg x=none) (hv:gE x=some (.builtin id)) (ha:PA X (e::es) t) (hn:x≠"__name__":=by decide) (hdb:(x == ("__debug__" : Str))=false:=by decide)
  (he:aw (e::es) X.env=(false,cR e X.env)::aw es X.env:=by rfl) (hpl:(eT pos (aw es X.env)).any (·.1)=false:=by rfl):PE X (.Call (.Name x p) (e::es) [] pos) (RN r t):=by
 intro pins s σ H Q I h
 refine wZ (pO I hg hm hv ?_ hn hdb)
 exact PyProof.Rows.callWith_builtin1 (fO (ha pos pins s σ H _ I h) fun us s1 h_27=>by obtain ⟨vs,H1,I1,r1,q1⟩:=h_27;exact hc pins s1 σ H1 vs us Q I1 r1 q1) he hpl
theorem uZ (hc:jz X (.type T) r) (hg:Gl X x) (hm:X.mg x=none) (hv:gE x=some (.type T)) (ha:PA X (e::es) t) (hn:x≠"__name__":=by decide) (hdb:(x == ("__debug__" : Str))=false:=by decide)
  (he:aw (e::es) X.env=(false,cR e X.env)::aw es X.env:=by rfl) (hpl:(eT pos (aw es X.env)).any (·.1)=false:=by rfl):PE X (.Call (.Name x p) (e::es) [] pos) (RN r t):=by
 intro pins s σ H Q I h
 refine wZ (pO I hg hm hv ?_ hn hdb)
 exact dq (fO (ha pos pins s σ H _ I h) fun us s1 h_28=>by obtain ⟨vs,H1,I1,r1,q1⟩:=h_28;exact hc pins s1 σ H1 vs us Q I1 r1 q1) he hpl
end
end L2
namespace HT
open PySem PyProof.Rows
section
open PySem.SeqAt
open PySem.AutoSeq1 (wpAny_loadPart')
open PySem.MeetsSeq PySem.MeetsSeq2 PySem.MeetsSeq3
end
section
variable {prog:aK}{w:aY}{A:b6}{E:a8->ac->Prop}{s:ac}
theorem NS {t b:ah}{vs ws:List a8}{Q:a8->ac->Prop} (ht:Jn s.heap t vs.toArray) (hb:Jn s.heap b ws.toArray) (hv:vs≠[])
  (h1:ws=[]->Q (.ref t) s) (h2:ws≠[]->Q (.ref s.heap.objs.size) { s with heap:=s.heap.push { cls:=.type "tuple",data:=.seq (vs++ws).toArray } })
  (hsz:vs.length + ws.length<=sizeLine):au (aP prog w) A (fZ .Add (.ref t) (.ref b)) Q E s:=by
 obtain ⟨⟨cls,dd,data,sl⟩,ho,hc,n,hd⟩:=id ht
 obtain ⟨⟨cls2,dd2,data2,sl2⟩,ho2,hc2,n2,hd2⟩:=id hb
 simp only at hc hd hc2 hd2
 subst hc hd hc2 hd2
 have e:vs.toArray++ws.toArray=(vs++ws).toArray:=by simp
 by_cases hw:ws=[]
 ·exact yW ⟨_,ho,rfl⟩ ⟨_,ho2,rfl⟩ Ax HF nP nc (mG _ _)
   (tuple_addW1 t b vs.toArray ws.toArray n n2 dd dd2 sl sl2 (by simpa using hv) (by simp [hw])) ⟨ho,ho2,h1 hw⟩
 ·refine yW ⟨_,ho,rfl⟩ ⟨_,ho2,rfl⟩ Ax HF nP nc (mG _ _)
   (tuple_addW2 t b vs.toArray ws.toArray n n2 dd dd2 sl sl2 (by simpa using hv) (by simpa using hw) (by rw [aM,aM];exact hsz)) ⟨ho,ho2,?_⟩
  rw [e]
  exact h2 hw
def iq (n d:Nat):Option Int->Nat
 | none=>d
 | some v=>if v<0 then (v + (n:Int)).toNat else min v.toNat n
theorem C8 (n d:Nat):iq n d none=d:=rfl
theorem Gd (n d k:Nat):iq n d (some (k:Int))=min k n:=by
 show (if (k:Int)<0 then ((k:Int) + (n:Int)).toNat else min (k:Int).toNat n)=min k n
 rw [if_neg (by omega),eR]
theorem QO (n d:Nat) (hd:d<=n) (o:Option Int):iq n d o<=n:=by
 cases o with
 | none=>exact hd
 | some v =>
  show (if v<0 then (v + (n:Int)).toNat else min v.toNat n)<=n
  by_cases hv:v<0
  ·rw [if_pos hv];omega
  ·rw [if_neg hv];exact p7 _ _
theorem Ge (v:Int) (n d:Nat):(if v<0 then max (v + (n:Int)) 0 else min v (n:Int))=((iq n d (some v):Nat):Int):=by
 show (if v<0 then max (v + (n:Int)) 0 else min v (n:Int))=(((if v<0 then (v + (n:Int)).toNat else min v.toNat n):Nat):Int)
 by_cases hv:v<0
 ·simp only [if_pos hv];omega
 ·simp only [if_neg hv];omega
theorem EO (lo hi:Option Int) (n:Nat):kC lo hi 1 (n:Int)=(((iq n 0 lo:Nat):Int),((iq n n hi:Nat):Int)):=by
 have h1:¬ ((1:Int)<0):=by omega
 unfold kC
 simp only [h1,if_false]
 refine Prod.ext ?_ ?_
 ·cases lo with
  | none=>rfl
  | some v=>exact Ge v n 0
 ·cases hi with
  | none=>rfl
  | some v=>exact Ge v n n
theorem EQ (i j:Nat):gT (i:Int) (j:Int) 1=j - i:=by
 unfold gT
 have h1:(1:Int) > 0:=by omega
 simp only [h1,if_true,Int.ediv_one]
 split<;>omega
theorem xm {v:a8}{o:Option Int}{Q:Option Int->ac->Prop} (p:uO v o) (h:Q o s):au (aP prog w) A (Builtin.Slice.slicePartIndex v) Q E s:=by
 cases p with
 | none=>exact slicePart_none h
 | int i t=>exact slicePart_int h
theorem nj {sl:ah}{vl vu:a8}{lo hi:Option Int}{n:Nat}{Q:Int×Int×Nat->ac->Prop} (hs:s.heap.IsSliceOf sl vl vu .none) (pl:uO vl lo) (pu:uO vu hi)
  (h:Q (((iq n 0 lo:Nat):Int),1,iq n n hi - iq n 0 lo) s):au (aP prog w) A (tJ (.ref sl) (pure (n:Int))) Q E s:=by
 obtain ⟨os,hos,hcs,hds⟩:=id hs
 unfold tJ Builtin.Slice.sliceFields
 refine a7 (a7 (dA hos hds (x:=vl) rfl (a7 (dA hos hds (x:=vu) rfl (a7 (dA hos hds (x:=.none) rfl (ae ?_)))))))
 refine a7 (slicePart_none ?_)
 show au _ _ (if ((1:Int) == 0)=true then _ else _) _ _ s
 rw [if_neg (by decide)]
 refine a7 (xm pl (a7 (xm pu (a7 (ae ?_)))))
 show au _ _ (match kC lo hi 1 (n:Int) with | (lo,hi)=>pure (lo,(1:Int),gT lo hi 1)) _ _ s
 rw [EO lo hi n]
 show au _ _ (pure (((iq n 0 lo:Nat):Int),(1:Int),gT ((iq n 0 lo:Nat):Int) ((iq n n hi:Nat):Int) 1)) _ _ s
 rw [EQ]
 exact ae h
theorem Kh (xs:Array a8) (i k:Nat):((bi k).filterMap fun (m:Nat)=>xs[((i:Int) + (m:Int) * 1).toNat]?).toArray=((xs.toList.drop i).take k).toArray:=by
 have e:(fun (m:Nat)=>xs[((i:Int) + (m:Int) * 1).toNat]?)=fun m=>xs[i + m]?:=by
  funext m
  have:((i:Int) + (m:Int) * 1).toNat=i + m:=by omega
  rw [this]
 rw [e]
 have:=pick_run xs i k
 rw [lW] at this
 have e2:((fun x=>xs[x]?)∘fun x=>i + x)=fun m=>xs[i + m]?:=rfl
 rw [e2] at this
 rw [this]
theorem tV {t sl:ah}{items:Array a8}{vl vu:a8}{lo hi:Option Int}{Q:a8->ac->Prop} (ht:Jn s.heap t items) (hs:s.heap.IsSliceOf sl vl vu .none) (pl:uO vl lo) (pu:uO vu hi)
  (hw:¬ (iq items.size 0 lo=0/\iq items.size items.size hi=items.size))
  (h:Q (.ref s.heap.objs.size) { s with heap:=s.heap.push { cls:=.type "tuple",data:=.seq ((items.toList.drop (iq items.size 0 lo)).take (iq items.size items.size hi - iq items.size 0 lo)).toArray } })
  (hsz:items.size<=sizeLine):au (aP prog w) A (pj (.ref t) (.ref sl)) Q E s:=by
 have htake:sizeOk (.seq ((items.toList.drop (iq items.size 0 lo)).take (iq items.size items.size hi - iq items.size 0 lo)).toArray):=by
  show ((items.toList.drop (iq items.size 0 lo)).take (iq items.size items.size hi - iq items.size 0 lo)).toArray.size<=sizeLine
  rw [aM,wF,wG,ar]
  omega
 have hj:iq items.size items.size hi<=items.size:=QO _ _ (ao _) hi
 obtain ⟨os,hos,hcs,hds⟩:=id hs
 have hTs:s.TypeIs (.ref sl) "slice":=⟨os,hos,hcs⟩
 unfold pj
 try with_reducible refine e6 ?_
 first | refine a7 (ae ?_) | skip
 refine a7 (wpAny_sequenceKey ht.typeIs (by decide) ?_)
 refine a7 (cX (name:=iC "__getitem__") ht.typeIs fM
  (cE fM ht.typeIs entry_tuple_getitem ?_ (args_tuple_getitem _ _)))
 show au _ _ (tK (.ref t) >>= _) _ _ s
 refine a7 (tupleItemsOf_ ht ?_)
 refine a7 (kE hTs ?_)
 rw [if_pos (by decide)]
 refine a7 (nj hs pl pu ?_)
 have hno:¬ ((((iq items.size 0 lo:Nat):Int) == 0 && (1:Int) == 1 && (iq items.size items.size hi - iq items.size 0 lo) == items.size)=true):=by
  intro q
  rw [aN,aN] at q
  have q1:((iq items.size 0 lo:Nat):Int)=0:=eq_of_beq q.1.1
  have q2:iq items.size items.size hi - iq items.size 0 lo=items.size:=eq_of_beq q.2
  exact hw ⟨by omega,by omega⟩
 show au _ _ (if (((iq items.size 0 lo:Nat):Int) == 0 && (1:Int) == 1 && (iq items.size items.size hi - iq items.size 0 lo) == items.size)=true then _ else _) _ _ s
 rw [if_neg hno,Kh]
 first
  | exact a7 (m:=hW _) (cr (ae ⟨_,rfl,ae h⟩) htake)
  | exact a7 (m:=hW _) (cr (a7 (ae (ae ⟨_,rfl,ae h⟩))) htake)
  | exact a7 (a7 (m:=hW _) (cr (ae (ae ⟨_,rfl,ae h⟩)) htake))
  | exact a7 (a7 (m:=hW _) (cr (ae ⟨_,rfl,ae h⟩) htake))
end
end HT
namespace L2
open PySem PySem.Spec PyProof.Rows
abbrev TO:=St->Hp->(Option Int->Hp->Prop)->Prop
def PO (X:Cx) (e:Option aV) (t:TO):Prop :=
 ∀ (pins:List (ah×Obj)) (s:ac) (σ:St) (H:Hp) (Q:Option Int->Hp->Prop),bQ X pins σ H s->t σ H Q ->
  au (aP X.prog X.w) X.A (evalPart e X.env) (fun u s'=>∃ o H',bQ X pins σ H' s'/\uO u o/\Q o H') X.xe s
def NT:TO:=fun _ H Q=>Q none H
def Sg (t:TE):TO:=fun σ H Q=>t σ H fun x H1=>∃ i,x=.int i/\Q (some i) H1
section
variable {X:Cx}{e:aV}{te:TE}{lo hi:Option aV}{tl th:TO}{pos p2:Pos}
theorem NU:PO X none NT:=by
 intro pins s σ H Q I h
 rw [evalPart_none]
 exact ae ⟨none,H,I,.none,h⟩
theorem NV (h:PE X e te):PO X (some e) (Sg te):=by
 intro pins s σ H Q I hw
 rw [evalPart_some]
 refine fO (h pins s σ H _ I hw) fun u s1 h_29=>?_
 obtain ⟨x,H1,I1,r1,q1⟩:=h_29
 obtain ⟨i,rfl,q⟩:=q1
 obtain ⟨t,rfl⟩:=r1
 exact ⟨some i,H1,I1,.int i t,q⟩
def Sh (X:Cx) (r:V->Option Int->Option Int->Hp->VK->Prop):Prop :=
 ∀ (pins:List (ah×Obj)) (s:ac) (σ:St) (H:Hp) (x:V) (v vl vu:a8) (lo hi:Option Int) (sl:ah) (Q:VK),bQ X pins σ H s->de x v->s.heap.IsSliceOf sl vl vu .none->uO vl lo->uO vu hi->r x lo hi H Q ->
  ∃ T id,Et (.type T) "__getitem__"=pure (some (.builtin id))/\s.TypeIs v T/\au (aP X.prog X.w) X.A (pj v (.ref sl)) (EP X pins σ Q) X.xe s
def VU (r:V->Option Int->Option Int->Hp->VK->Prop) (te:TE) (tl th:TO):TE:=fun σ H Q=>te σ H fun x H1=>tl σ H1 fun l H2=>th σ H2 fun u H3=>r x l u H3 Q
theorem Ki {r:V->Option Int->Option Int->Hp->VK->Prop} (hr:Sh X r) (he:PE X e te) (hl:PO X lo tl) (hu:PO X hi th):PE X (.Subscript e (.Slice lo hi none p2) pos) (VU r te tl th):=by
 intro pins s σ H Q I h
 refine Subscript_ (fO (he pins s σ H _ I h) fun v s1 ⟨x,H1,I1,r1,q1⟩=>?_)
 refine wpAny_Slice (fO (hl pins s1 σ H1 _ I1 q1) fun vl s2 ⟨l,H2,I2,pl,q2⟩=>fO (hu pins s2 σ H2 _ I2 q2) fun vu s3 ⟨u,H3,I3,pu,q3⟩=>?_)
 rw [evalPart_none]
 refine ae ?_
 have I4:bQ X pins σ H3 { s3 with heap:=s3.heap.push { cls:=.type "slice",data:=.fields #[vl,vu,.none] } }:=I3.kept (t':=s3.toks) fun b ob q=>af _ q
 obtain ⟨T,id,hT,ht,hg⟩:=hr pins { s3 with heap:=s3.heap.push { cls:=.type "slice",data:=.fields #[vl,vu,.none] } } σ H3 x v vl vu l u s3.heap.objs.size Q I4 r1 (Heap.IsSliceOf.new ..) pl pu q3
 show au (aP X.prog X.w) X.A (HG e (.Slice lo hi none p2) v (.ref s3.heap.objs.size)) (EP X pins σ Q) X.xe { s3 with heap:=s3.heap.push { cls:=.type "slice",data:=.fields #[vl,vu,.none] } }
 exact tail_any (ops:=[.ref s3.heap.objs.size,v]) ht hT hg (by with_unfolding_all rfl)
def C9 (xs:List V) (lo hi:Option Int):List V:=(xs.drop (HT.iq xs.length 0 lo)).take (HT.iq xs.length xs.length hi - HT.iq xs.length 0 lo)
theorem vM (xs:List V) (lo hi:Option Int):(C9 xs lo hi).length<=xs.length:=by
 unfold C9
 rw [wF,wG]
 omega
def UK (K:a6):V->Option Int->Option Int->Hp->VK->Prop:=fun x lo hi H Q=>∃ a xs,x=.ref a/\kG K H a xs /\
 ¬ (HT.iq xs.length 0 lo=0/\HT.iq xs.length xs.length hi=xs.length)/\∀ p,H p=none->Q (.ref p) (upd H p (.tup (C9 xs lo hi)))
theorem QP:Sh X (UK X.K):=by
 intro pins s σ H x v vl vu lo hi sl Q I rx hs pl pu h
 obtain ⟨a,xs,rfl,hx,hw,q⟩:=h
 cases rx
 obtain ⟨its,r,ht,hz⟩:=I.tuple hx
 have hlen:its.toArray.size=xs.length:=by rw [aM];exact r.length.symm
 refine ⟨"tuple",_,PyProof.Rows.slot_tuple_getitem.lookup,ht.typeIs,?_⟩
 refine HT.tV ht hs pl pu (by rw [hlen];exact hw) ?_ (by rw [hlen];exact hz)
 rw [hlen]
 refine ⟨.ref s.heap.objs.size,_,I.laid (t':=s.toks) (o:=.tup (C9 xs lo hi)) (fun b ob q=>af _ q) (ao _) ?_,rfl,q _ (I.hok.fresh (ao _))⟩
 exact ⟨bU (vM xs lo hi) hz,_,(r.drop (HT.iq xs.length 0 lo)).take (HT.iq xs.length xs.length hi - HT.iq xs.length 0 lo),we _ _⟩
inductive Kj (K:a6) (x:V) (y:V) (H:Hp) (Q:VK):Prop
 | mk (a b xs ys:_) (h0:x=.ref a) (h1:y=.ref b) (h2:kG K H a xs) (h3:kG K H b ys) (h4:xs≠[]) (h5:xs.length + ys.length<=sizeLine) (h6:(ys=[]->Q (.ref a) H)) (h7:(ys≠[]->∀ p,H p=none->Q (.ref p) (upd H p (.tup (xs++ys))))):Kj K x y H Q
def Si (K:a6):R2:=Kj K
theorem cV.nil_iff {xs:List V}{us:List a8} (r:cV xs us):us=[]↔xs=[]:=by
 cases r with
 | nil=>simp
 | cons _ _=>simp
theorem NW:pE X (fZ .Add) (Si X.K):=by
 intro pins s σ H x y v u Q I rx ry h
 obtain ⟨a,b,xs,ys,rfl,rfl,ha,hb,hx,hz,q1,q2⟩:=h
 cases rx
 cases ry
 obtain ⟨its,r1,p1,_⟩:=I.tuple ha
 obtain ⟨its2,r2,p2,_⟩:=I.tuple hb
 refine HT.NS p1 p2 (fun z=>hx (r1.nil_iff.mp z)) (fun z=>⟨.ref a,H,I,rfl,q1 (r2.nil_iff.mp z)⟩) (fun z=>?_) (by rw [<- r1.length,<- r2.length];exact hz)
 refine ⟨.ref s.heap.objs.size,_,I.laid (t':=s.toks) (o:=.tup (xs++ys)) (fun b ob q=>af _ q) (ao _) ?_,rfl,q2 (fun w=>z (r2.nil_iff.mpr w)) _ (I.hok.fresh (ao _))⟩
 exact ⟨by rw [aH];exact hz,_,r1.append r2,we _ _⟩
end
end L2
namespace L2
open PySem PySem.Spec PyProof.Rows
def Pm (n:Nat) (i:Int):Option Nat:=if 0<=i then (if i<n then some i.toNat else none) else if -(n:Int)<=i then some (i + n).toNat else none
def Ca {α:Type} (xs:List α) (i:Int):Option α:=(Pm xs.length i).bind fun j=>xs[j]?
theorem NX {n:Nat}{i:Int}{j:Nat} (h:Pm n i=some j):Ju i n=some j/\j<n/\-(n:Int)<=i/\i<n:=by
 unfold Pm at h
 by_cases h0:0<=i
 ·rw [if_pos h0] at h
  by_cases h1:i<n
  ·rw [if_pos h1] at h
   have e:i.toNat=j:=bu h
   exact ⟨by rw [seqIndex_of h0 h1,e],by omega,by omega,h1⟩
  ·rw [if_neg h1] at h;cases h
 ·rw [if_neg h0] at h
  by_cases h1:-(n:Int)<=i
  ·rw [if_pos h1] at h
   have e:(i + n).toNat=j:=bu h
   exact ⟨by rw [seqIndex_neg (by omega) h1,e],by omega,h1,by omega⟩
  ·rw [if_neg h1] at h;cases h
theorem AH {α:Type}{xs:List α}{i:Int}{v:α} (h:Ca xs i=some v):∃ j,Ju i xs.length=some j/\xs[j]?=some v/\j<xs.length/\-(xs.length:Int)<=i/\i<xs.length:=by
 unfold Ca at h
 cases e:Pm xs.length i with
 | none=>rw [e] at h;cases h
 | some j =>
  rw [e] at h
  obtain ⟨h1,h2,h3,h4⟩:=NX e
  exact ⟨j,h1,h,h2,h3,h4⟩
theorem tW {α:Type}{xs:List α}{j:Nat}{v:α} (h:xs[j]?=some v):Ca xs (j:Int)=some v:=by
 have hj:j<xs.length:=(List.getElem?_eq_some_iff.mp h).1
 have e:Pm xs.length (j:Int)=some j:=by
  unfold Pm
  rw [if_pos (by omega),if_pos (by omega)];simp
 unfold Ca;rw [e];exact h
def wM (b:aV):Prop:=∀ o i,BZ b false o i=operate [o,i] (pj o i)
def Sj (X:Cx) (r:R2):Prop :=
 ∀ (value slice:aV) (pins:List (ah×Obj)) (s:ac) (σ:St) (H:Hp) (x y:V) (v u:a8) (Q:VK),bQ X pins σ H s->de x v->de y u->r x y H Q ->
  BZ slice false v u=operate [v,u] (pj v u)->au (aP X.prog X.w) X.A (HG value slice v u) (EP X pins σ Q) X.xe s
def VV (X:Cx) (id:String) (r:V->List V->Hp->VK->Prop):Prop :=
 ∀ (pins:List (ah×Obj)) (s:ac) (σ:St) (H:Hp) (x:V) (xs:List V) (v:a8) (us:List a8) (Q:VK),bQ X pins σ H s->de x v->cV xs us->r x xs H Q ->
  au (aP X.prog X.w) X.A (call (.builtin id) (v::us)) (EP X pins σ Q) X.xe s
section
variable {X:Cx}{a b:aV}{ta tb:TE}{pos:Pos}
theorem Pn {r:R2} (hr:Sj X r) (ha:PE X a ta) (hb:PE X b tb) (hs:wM b):PE X (.Subscript a b pos) (S6 r ta tb):=by
 intro pins s σ H Q I h
 exact Subscript_ (QD ha hb I h fun v u s2 x y H2 I2 rx ry q=>hr a b pins s2 σ H2 x y v u Q I2 rx ry q (hs _ _))
inductive Po (K:a6) (x:V) (y:V) (H:Hp) (Q:VK):Prop
 | mk (p xs i v:_) (h0:x=.ref p) (h1:y=.int i) (h2:lU K H p xs) (h3:Ca xs i=some v) (h4:Q v H):Po K x y H Q
def UL (K:a6):R2:=Po K
inductive Pp (K:a6) (x:V) (y:V) (H:Hp) (Q:VK):Prop
 | mk (p xs i v:_) (h0:x=.ref p) (h1:y=.int i) (h2:kG K H p xs) (h3:Ca xs i=some v) (h4:Q v H):Pp K x y H Q
def UM (K:a6):R2:=Pp K
inductive Pq (x:V) (y:V) (H:Hp) (Q:VK):Prop
 | mk (z i c:_) (h0:x=.str z) (h1:y=.int i) (h2:z.length<=sizeLine) (h3:Ca z.cps.toList i=some c) (h4:Q (.str ⟨#[c]⟩) H):Pq  x y H Q
def UN:R2:=Pq
theorem qJ:Sj X (UL X.K):=by
 intro value slice pins s σ H x y v u Q I rx ry h hs
 obtain ⟨p,xs,i,z,rfl,rfl,hq,he,q⟩:=h
 cases rx
 obtain ⟨t,rfl⟩:=ry
 obtain ⟨its,r,pl,hz⟩:=I.list hq
 obtain ⟨j,h1,h2,h3,h4,h5⟩:=AH he
 obtain ⟨w,ew,rw'⟩:=r.get h2
 have hl:=r.length
 have hn:=xl
 have fin:EP X pins σ Q w s:=⟨z,H,I,rw',q⟩
 by_cases h0:0<=i
 ·have hj:i.toNat=j:=by
   rw [seqIndex_of h0 h5] at h1
   exact bu h1
  exact item_listR pl.isList h0 (by omega) (by rw [hj];simpa using ew) fin hs
 ·have hj:(i + (its.toArray.size:Int)).toNat=j:=by
   rw [seqIndex_neg (by omega) h4] at h1
   rw [aM,<- hl]
   exact bu h1
  exact JQ (x:=w) pl.isList.typeIs slot_list_getitem.lookup
   (wpAny_getItem_list_neg (Q:=fun r s'=>r=w/\EP X pins σ Q r s') pl.isList (by omega) (by rw [aM]<;>omega) (by omega) (by rw [hj];simpa using ew) ⟨rfl,fin⟩) hs
theorem QQ:Sj X (UM X.K):=by
 intro value slice pins s σ H x y v u Q I rx ry h hs
 obtain ⟨p,xs,i,z,rfl,rfl,hq,he,q⟩:=h
 cases rx
 obtain ⟨t,rfl⟩:=ry
 obtain ⟨its,r,pl,hz⟩:=I.tuple hq
 obtain ⟨j,h1,h2,h3,h4,h5⟩:=AH he
 obtain ⟨w,ew,rw'⟩:=r.get h2
 have hl:=r.length
 have hn:=xl
 have fin:EP X pins σ Q w s:=⟨z,H,I,rw',q⟩
 exact JQ (x:=w) pl.typeIs slot_tuple_getitem.lookup
  (getItem_tuple (j:=j) (Q:=fun r s'=>r=w/\EP X pins σ Q r s') pl (by omega) (by omega) (by rw [aM,<- hl];exact h1) (by simpa using ew) ⟨rfl,fin⟩) hs
theorem QR:Sj X UN:=by
 intro value slice pins s σ H x y v u Q I rx ry h hs
 obtain ⟨z,i,c,rfl,rfl,hz,he,q⟩:=h
 obtain ⟨t,rfl⟩:=rx
 obtain ⟨t',rfl⟩:=ry
 obtain ⟨j,h1,h2,h3,h4,h5⟩:=AH he
 have hl:z.cps.toList.length=z.length:=by simp [Str.length]
 rw [hl] at h1 h4 h5
 have hn:=xl
 exact tail_any (typeIs_str s z t) slot_str_getitem.lookup (getItem_str (c:=c) (by
  have e1:decide (i < -(2 ^ 63:Int))=false:=decide_eq_false (by omega)
  have e2:decide (i ≥ 2 ^ 63)=false:=decide_eq_false (by omega)
  rw [e1,e2,Bool.or_false]) (by rw [h1];simpa using h2) ⟨.str ⟨#[c]⟩,H,I.tok _,⟨_,rfl⟩,q⟩) hs
theorem AI (lo hi:Option Int) (n:Nat):(lT lo hi none n).1=((HT.iq n 0 lo:Nat):Int)/\(lT lo hi none n).2.1=((HT.iq n n hi:Nat):Int)/\(lT lo hi none n).2.2=1:=by
 refine ⟨?_,?_,rfl⟩
 ·cases lo with
  | none=>simp [lT,HT.iq]
  | some i =>
   simp only [lT,HT.iq,gC,show (1:Int) > 0 by decide,if_true]
   by_cases h:i<0
   ·simp only [h,if_true]<;>omega
   ·simp only [h,if_false]<;>omega
 ·cases hi with
  | none=>simp [lT,HT.iq]
  | some i =>
   simp only [lT,HT.iq,gC,show (1:Int) > 0 by decide,if_true]
   by_cases h:i<0
   ·simp only [h,if_true]<;>omega
   ·simp only [h,if_false]<;>omega
theorem zb (its:List a8) (lo hi:Option Int):slicePick its.toArray lo hi none=((its.drop (HT.iq its.length 0 lo)).take (HT.iq its.length its.length hi - HT.iq its.length 0 lo)).toArray:=by
 obtain ⟨h1,h2,h3⟩:=AI lo hi its.toArray.size
 unfold slicePick
 rw [h1,h2,h3]
 simp only [sliceRange_one,pick_run,aM]<;>rfl
def UO (K:a6):V->Option Int->Option Int->Hp->VK->Prop:=fun x lo hi H Q=>∃ a xs,x=.ref a/\lU K H a xs/\∀ p,H p=none->Q (.ref p) (upd H p (.lst (C9 xs lo hi)))
theorem NY:Sh X (UO X.K):=by
 intro pins s σ H x v vl vu lo hi sl Q I rx hs pl pu h
 obtain ⟨a,xs,rfl,hx,q⟩:=h
 cases rx
 obtain ⟨its,r,ht,hz⟩:=I.list hx
 have hlen:=r.length
 refine ⟨"list",_,slot_list_getitem.lookup,ht.isList.typeIs,?_⟩
 refine wpAny_getItem_list_slice ht.isList hs pl pu .none (by simp) ?_ (by rw [aM]<;>omega)
 rw [zb,<- hlen]
 refine ⟨.ref s.heap.objs.size,_,I.laid (t':=s.toks) (o:=.lst (C9 xs lo hi)) (fun b ob q=>af _ q) (ao _) ?_,rfl,q _ (I.hok.fresh (ao _))⟩
 exact ⟨bU (vM xs lo hi) hz,_,0,(r.drop (HT.iq xs.length 0 lo)).take (HT.iq xs.length xs.length hi - HT.iq xs.length 0 lo),aC _ rfl⟩
def pU:V->Bool
 | .non=>true
 | .bl _=>true
 | .int _=>true
 | .str _=>true
 | _=>false
def NZ:V->V->Bool
 | .non,.non=>true
 | .bl a,.bl b=>a == b
 | .bl a,.int b=>(if a then 1 else 0) == b
 | .int a,.bl b=>a == (if b then 1 else 0)
 | .int a,.int b=>a == b
 | .str a,.str b=>a == b
 | _,_=>false
theorem QS {A:b6}{s:ac}{y x:V}{u v:a8} (ry:de y u) (rx:de x v) (fy:pU y=true) (fx:pU x=true):SeqAt.EqAt A s u v (NZ y x):=by
 cases y with
 | non =>
  cases ry
  cases x with
  | non=>cases rx;exact SeqAt.EqAt.same _
  | bl b=>cases rx;exact SeqAt.EqAt.none_bool b
  | int b=>obtain ⟨t,rfl⟩:=rx;exact SeqAt.EqAt.none_int b t
  | str b=>obtain ⟨t,rfl⟩:=rx;exact SeqAt.EqAt.none_str b t
  | _=>exact absurd (show false=true from fx) a_
 | bl a =>
  cases ry
  cases x with
  | non=>cases rx;exact SeqAt.EqAt.bool_none a
  | bl b=>cases rx;exact SeqAt.EqAt.bool_bool a b
  | int b=>obtain ⟨t,rfl⟩:=rx;exact SeqAt.EqAt.bool_int a b t
  | str b=>obtain ⟨t,rfl⟩:=rx;exact SeqAt.EqAt.bool_str a b t
  | _=>exact absurd (show false=true from fx) a_
 | int a =>
  obtain ⟨t',rfl⟩:=ry
  cases x with
  | non=>cases rx;exact SeqAt.EqAt.int_none a t'
  | bl b=>cases rx;exact SeqAt.EqAt.int_bool a t' b
  | int b=>obtain ⟨t,rfl⟩:=rx;exact SeqAt.EqAt.int_int a t' b t
  | str b=>obtain ⟨t,rfl⟩:=rx;exact BX a t' b t
  | _=>exact absurd (show false=true from fx) a_
 | str a =>
  obtain ⟨t',rfl⟩:=ry
  cases x with
  | non=>cases rx;exact SeqAt.EqAt.str_none a t'
  | bl b=>cases rx;exact SeqAt.EqAt.str_bool a t' b
  | int b=>obtain ⟨t,rfl⟩:=rx;exact BY a t' b t
  | str b=>obtain ⟨t,rfl⟩:=rx;exact SeqAt.EqAt.str_str a t' b t
  | _=>exact absurd (show false=true from fx) a_
 | _=>exact absurd (show false=true from fy) a_
def ES (x:V) (u:a8):Bool:=match u with
 | .none=>NZ .non x
 | .bool b=>NZ (.bl b) x
 | .int i _=>NZ (.int i) x
 | .str z _=>NZ (.str z) x
 | _=>false
theorem Kk {x y:V}{u:a8} (r:de y u) (f:pU y=true):ES x u=NZ y x:=by
 cases y with
 | non=>cases r;rfl
 | bl b=>cases r;rfl
 | int i=>obtain ⟨t,rfl⟩:=r;rfl
 | str z=>obtain ⟨t,rfl⟩:=r;rfl
 | _=>exact absurd (show false=true from f) a_
theorem tX {x:V}:∀ {xs:List V}{us:List a8},cV xs us->xs.all pU=true->us.any (ES x)=xs.any fun y=>NZ y x
 | _,_,.nil,_=>rfl
 | y::xs,u::us,.cons r t,f=>by
  rw [tL,aN] at f
  rw [fm,fm,Kk r f.1,tX t f.2]
theorem pV {A:b6}{s:ac}{x:V}{v:a8} (rx:de x v) (fx:pU x=true):∀ {xs:List V}{us:List a8},cV xs us->xs.all pU=true->∀ u∈us,SeqAt.EqAt A s u v (ES x u)
 | _,_,.nil,_=>fun u hu=>by cases hu
 | y::xs,u::us,.cons r t,f=>fun u' hu=>by
  rw [tL,aN] at f
  rcases List.mem_cons.mp hu with rfl | hu
  ·rw [Kk r f.1];exact QS r rx f.1 fx
  ·exact pV rx fx t f.2 u' hu
def U7 (x:V) (xs:List V):Bool:=xs.any fun y=>NZ y x
inductive Sk (K:a6) (neg:Bool) (x:V) (y:V) (H:Hp) (Q:VK):Prop
 | mk (p xs:_) (h0:y=.ref p) (h1:(lU K H p xs\/kG K H p xs)) (h2:pU x=true) (h3:xs.all pU=true) (h4:Q (.bl (if neg then !U7 x xs else U7 x xs)) H):Sk K neg x y H Q
def UP (K:a6) (neg:Bool):R2:=Sk K neg
theorem I0:pE X (bL .In) (UP X.K false):=by
 intro pins s σ H x y v u Q I rx ry h
 obtain ⟨p,xs,rfl,hq,fx,fs,q⟩:=h
 cases ry
 rcases hq with hq | hq
 ·obtain ⟨its,r,pl,hz⟩:=I.list hq
  refine SeqAt.in_listAt (ES x) pl.isList (fun w hw=>pV rx fx r fs w (by simpa using hw)) ⟨.bl _,H,I,rfl,?_⟩
  rw [show its.toArray.any (ES x)=its.any (ES x) by simp,tX r fs]
  exact q
 ·obtain ⟨its,r,pl,hz⟩:=I.tuple hq
  refine SeqAt.in_tupleAt (ES x) pl (fun w hw=>pV rx fx r fs w (by simpa using hw)) ⟨.bl _,H,I,rfl,?_⟩
  rw [show its.toArray.any (ES x)=its.any (ES x) by simp,tX r fs]
  exact q
theorem AJ:pE X (bL .NotIn) (UP X.K true):=by
 intro pins s σ H x y v u Q I rx ry h
 obtain ⟨p,xs,rfl,hq,fx,fs,q⟩:=h
 cases ry
 rcases hq with hq | hq
 ·obtain ⟨its,r,pl,hz⟩:=I.list hq
  refine SeqAt.notIn_listAt (ES x) pl.isList (fun w hw=>pV rx fx r fs w (by simpa using hw)) ⟨.bl _,H,I,rfl,?_⟩
  rw [show its.toArray.any (ES x)=its.any (ES x) by simp,tX r fs]
  exact q
 ·obtain ⟨its,r,pl,hz⟩:=I.tuple hq
  refine SeqAt.notIn_tupleAt (ES x) pl (fun w hw=>pV rx fx r fs w (by simpa using hw)) ⟨.bl _,H,I,rfl,?_⟩
  rw [show its.toArray.any (ES x)=its.any (ES x) by simp,tX r fs]
  exact q
theorem tY:jz X (.builtin "len") (fun xs H Q=>∃ p ys,xs=[.ref p]/\(lU X.K H p ys\/kG X.K H p ys)/\Q (.int ys.length) H):=by
 intro pins s σ H xs us Q I r h
 obtain ⟨p,ys,rfl,hq,q⟩:=h
 obtain ⟨u,rfl,rx⟩:=ki r
 cases rx
 have hn:=xl
 rcases hq with hq | hq
 ·obtain ⟨its,r',pl,hz⟩:=I.list hq
  have hlen:=r'.length
  exact Calls.call_len_list pl.isList (by simp only [aM]<;>omega) ⟨.int ys.length,H,I.tok _,⟨s.toks + 1,by rw [aM,hlen]⟩,q⟩
 ·obtain ⟨its,r',pl,hz⟩:=I.tuple hq
  have hlen:=r'.length
  exact len_tuple pl (by simp only [aM]<;>omega) ⟨.int ys.length,H,I.tok _,⟨s.toks + 1,by rw [aM,hlen]⟩,q⟩
theorem AK:jz X (.builtin "len") (fun xs H Q=>∃ z,xs=[.str z]/\z.length<=sizeLine/\Q (.int z.length) H):=by
 intro pins s σ H xs us Q I r h
 obtain ⟨z,rfl,hz,q⟩:=h
 obtain ⟨u,rfl,t,rfl⟩:=ki r
 have hn:=xl
 exact len_str (by omega) ⟨.int z.length,H,I.tok _,⟨_,rfl⟩,q⟩
theorem nR:jz X (.type "list") (fun xs H Q=>∃ p ys,xs=[.ref p]/\(lU X.K H p ys\/kG X.K H p ys)/\∀ l,H l=none->Q (.ref l) (upd H l (.lst ys))):=by
 intro pins s σ H xs us Q I r h
 obtain ⟨p,ys,rfl,hq,q⟩:=h
 obtain ⟨u,rfl,rx⟩:=ki r
 cases rx
 have fin:∀ (its:List a8),cV ys its->ys.length<=sizeLine->∀ (h':bp) (c':Nat),(∀ b o',s.heap.get? b=some o'->h'.get? b=some o') ->
   h'.get? s.heap.objs.size=some { cls:=.type "list",dict:=none,data:=.seq its.toArray c',slots:=#[] }->EP X pins σ Q (.ref s.heap.objs.size) { s with heap:=h' }:=fun its r' hz h' c' kp e =>
  ⟨.ref s.heap.objs.size,_,I.laid (t':=s.toks) kp (ao _) (show dL X.prog X.w _ h' _ (.lst ys) from ⟨hz,its,c',r',e⟩),rfl,q _ (I.hok.fresh (ao _))⟩
 rcases hq with hq | hq
 ·obtain ⟨its,r',pl,hz⟩:=I.list hq
  have hlen:=r'.length
  obtain ⟨o,ho,hc,n,hd⟩:=pl.isList
  exact call_list_seq p (.inl rfl) ho hc hd (fun h' c' kp e=>fin its r' hz h' c' kp e) (by simp only [aM]<;>omega)
 ·obtain ⟨its,r',pl,hz⟩:=I.tuple hq
  have hlen:=r'.length
  obtain ⟨o,ho,hc,n,hd⟩:=pl
  exact call_list_seq p (.inr rfl) ho hc hd (fun h' c' kp e=>fin its r' hz h' c' kp e) (by simp only [aM]<;>omega)
theorem rL:jz X (.type "tuple") (fun xs H Q=>∃ p ys,xs=[.ref p]/\((lU X.K H p ys/\∀ l,H l=none->Q (.ref l) (upd H l (.tup ys)))\/(kG X.K H p ys/\Q (.ref p) H))):=by
 intro pins s σ H xs us Q I r h
 obtain ⟨p,ys,rfl,h⟩:=h
 obtain ⟨u,rfl,rx⟩:=ki r
 cases rx
 rcases h with ⟨hq,q⟩ | ⟨hq,q⟩
 ·obtain ⟨its,r',pl,hz⟩:=I.list hq
  have hlen:=r'.length
  refine call_tuple_list pl.isList (fun h' kp=>?_) (by simp only [aM]<;>omega)
  have I1:bQ X pins σ H { s with heap:=h' }:=I.kept (t':=s.toks) kp
  have I2:bQ X pins σ (upd H h'.objs.size (.tup ys)) { s with heap:=h'.push { cls:=.type "tuple",data:=.seq its.toArray } } :=
   I1.laid (t':=s.toks) (fun b o e=>af _ e) (ao _) (show dL X.prog X.w _ _ _ (.tup ys) from ⟨hz,its,r',we _ _⟩)
  exact ⟨.ref h'.objs.size,_,I2,rfl,q _ (I1.hok.fresh (ao _))⟩
 ·obtain ⟨its,r',pl,hz⟩:=I.tuple hq
  exact call_tuple_same pl ⟨.ref p,H,I,rfl,q⟩
def Vt (K:a6) (T:String) (x:V) (H:Hp):Prop:=match x with
 | .str _=>T="str"
 | .int _=>T="int"
 | .ref p=>(T="list"/\∃ xs,lU K H p xs)\/(T="tuple"/\∃ o,K.lookup p=some o/\o.cls=.type "tuple"/\o.dict=none) \/
   (T="dict"/\((∃ kvs,H p=some (.dK kvs))\/∃ kvs,H p=some (.dT kvs)))\/(T="set"/\∃ S n,H p=some (.set S n))
 | _=>False
theorem QT {pins:List (ah×Obj)}{σ:St}{H:Hp}{s:ac}{T:String}{x:V}{v:a8} (I:bQ X pins σ H s) (r:de x v) (ty:Vt X.K T x H) :
  s.TypeIs v T/\∀ a,v=.ref a->∃ ob,s.heap.get? a=some ob/\ob.dict=none:=by
 cases x with
 | str z =>
  obtain ⟨t,rfl⟩:=r
  cases (show T="str" from ty)
  exact ⟨typeIs_str s z t,fun _ e=>nomatch e⟩
 | int i =>
  obtain ⟨t,rfl⟩:=r
  cases (show T="int" from ty)
  exact ⟨typeIs_int s i t,fun _ e=>nomatch e⟩
 | ref p =>
  cases r
  rcases ty with ⟨rfl,xs,hq⟩ | ⟨rfl,o,hk,hc,hd⟩ | ⟨rfl,hk⟩ | ⟨rfl,S,n,hk⟩
  ·obtain ⟨its,_,pl,_⟩:=I.list hq
   refine ⟨pl.isList.typeIs,fun a e=>?_⟩
   cases e
   obtain ⟨o,n,e,c,hd,_⟩:=pl
   exact ⟨o,e,hd⟩
  ·refine ⟨⟨o,I.kIn p o hk,hc⟩,fun a e=>?_⟩
   cases e
   exact ⟨o,I.kIn _ o hk,hd⟩
  ·have z:∃ o,s.heap.get? p=some o/\o.ExactDict:=by
    rcases hk with ⟨kvs,hk⟩ | ⟨kvs,hk⟩
    ·obtain ⟨_,_,_,_,o,_,_,e,ex,_⟩:=I.hok p _ hk
     exact ⟨o,e,ex⟩
    ·obtain ⟨_,_,_,_,o,_,_,e,ex,_⟩:=I.hok p _ hk
     exact ⟨o,e,ex⟩
   obtain ⟨o,e,ex⟩:=z
   refine ⟨⟨o,e,ex.1⟩,fun a e2=>?_⟩
   cases e2
   exact ⟨o,e,ex.2.1⟩
  ·obtain ⟨o,_,_,_,e,ex,_⟩:=I.hok p _ hk
   refine ⟨⟨o,e,ex.1⟩,fun a e2=>?_⟩
   cases e2
   exact ⟨o,e,ex.2.1⟩
 | _=>exact i7 ty
def VW (K:a6) (T:String) (r:V->List V->Hp->VK->Prop) (to:TE) (t:TA):TE:=fun σ H Q=>to σ H fun x H1=>Vt K T x H1/\t σ H1 fun xs H2=>r x xs H2 Q
variable {o e:aV}{es:List aV}{to:TE}{t:TA}{name:Str}{apos cpos:Pos}{T id:String}{r:V->List V->Hp->VK->Prop}
theorem Cb (pa:PlainAttrs T) (slot:Slot T name id) (hty:typeOf (.builtin id)=pure (.type "method_descriptor")) (hm:VV X id r) (ho:PE X o to) (ha:PA X (e::es) t)
  (hbase:lR o name X.env (cR o X.env)=cR o X.env:=by rfl)
  (hfew:((eT cpos (aw (e::es) X.env)).all (fun x=>!x.1) && (yX cpos (pq [] X.env)).all (fun x=>x.1.isSome)
   && decide ((e::es).length + ([] : List kA).length + (if ([] : List kA).isEmpty then 0 else 1)<30))=true:=by rfl)
  (hline:(apos.endLine == cpos.line)=true:=by rfl) (hs:aw (e::es) X.env=(false,cR e X.env)::aw es X.env:=by rfl) (hplain:(eT cpos (aw es X.env)).any (·.1)=false:=by rfl) :
  PE X (.Call (.Attribute o name apos) (e::es) [] cpos) (VW X.K T r to t):=by
 intro pins s σ H Q I h
 refine wpAny_Call_method_late hbase hfew hline rfl (fO (ho pins s σ H _ I h) fun v s1 ⟨x,H1,I1,r1,ty,q1⟩=>?_)
 obtain ⟨h1,h2⟩:=QT I1 r1 ty
 refine ⟨T,id,pa,slot,hty,h1,h2,?_⟩
 have hA:=ha cpos pins s1 σ H1 _ I1 q1
 rw [hs] at hA ⊢
 refine Calls.callWith_builtin (by show (false || (eT cpos (aw es X.env)).any (·.1))=false;rw [hplain]<;>rfl) (Eu ?_)
 exact fO hA fun us s2 h_30=>by obtain ⟨vs,H2,I2,r2,q2⟩:=h_30;exact hm pins s2 σ H2 x vs v us Q I2 r1 r2 q2
end
end L2
namespace L2
open PySem PySem.Spec PyProof.Rows
def Vu (X:Cx) (id:String) (r:V->List V->Hp->VK->Prop):Prop :=
 ∀ (pins:List (ah×Obj)) (s:ac) (σ:St) (H:Hp) (x:V) (xs:List V) (v:a8) (us:List a8) (Q:VK),bQ X pins σ H s->de x v->cV xs us->r x xs H Q ->
  au (aP X.prog X.w) X.A (call (.builtin id) (v::us)) (EP X pins σ Q) X.xe s
theorem cV.one {x:V}{us:List a8} (h:cV [x] us):∃ u,us=[u]/\de x u:=by
 cases h with | cons r t=>cases t;exact ⟨_,rfl,r⟩
theorem cV.eraseIdx:∀ {xs:List V}{us:List a8} (i:Nat),cV xs us->cV (xs.eraseIdx i) (us.eraseIdx i)
 | _,_,_,.nil=>.nil
 | _,_,0,.cons _ t=>t
 | _,_,i + 1,.cons r t=>.cons r (cV.eraseIdx i t)
theorem zM {α:Type}:∀ (l:List α) (i:Nat),(l.eraseIdx i).length<=l.length
 | [],_=>ao _
 | _::_,0=>gj _
 | _::r,i + 1=>Nh (zM r i)
section
variable {X:Cx}{pins:List (ah×Obj)}{σ:St}{H:Hp}{s:ac}{l b:ah}{xs ys zs:List V}
theorem bQ.lset {its its':List a8}{n:Nat}{f:Array a8->Array a8}{t':Nat} (I:bQ X pins σ H s) (hH:H l=some (.lst xs))
  (e:s.heap.get? l=some { cls:=.type "list",data:=.seq its.toArray n }) (hf:f its.toArray=its'.toArray) (hv:cV ys its') (hz:ys.length<=sizeLine) :
  bQ X pins σ (upd H l (.lst ys)) { s with heap:=s.heap.update l (kF f),toks:=t' }:=by
 have q:=PySem.IsL.update e f
 rw [hf] at q
 refine I.write (x:=l) (e:=l) (by rw [hH];exact trivial) (.inl rfl) (fun b' u hb hu=>(pv s.heap (kF f) (cW hb)).trans hu) ⟨_,q⟩ ?_
 exact ⟨hz,its',_,hv,q⟩
theorem bQ.lnew {its:List a8}{t':Nat} (I:bQ X pins σ H s) (hv:cV ys its) (hz:ys.length<=sizeLine) :
  bQ X pins σ (upd H s.heap.objs.size (.lst ys)) { s with heap:=s.heap.push { cls:=.type "list",data:=.seq its.toArray },toks:=t' } :=
 I.laid (fun _ _ q=>af _ q) (ao _) ⟨hz,its,0,hv,aC _ rfl⟩
theorem bQ.fresh (I:bQ X pins σ H s):H s.heap.objs.size=none:=I.hok.fresh (ao _)
theorem bQ.lstM (I:bQ X pins σ H s) (hH:H l=some (.lst xs)):Vq s.heap l xs:=by
 obtain ⟨z,its,n,r,e⟩:=I.hok l _ hH
 exact ⟨z,its,n,r,r.length,e⟩
end
section
variable {X:Cx}
inductive Cc (x:V) (vs:List V) (H:Hp) (Q:VK):Prop
 | mk (l xs y:_) (h0:x=.ref l) (h1:vs=[y]) (h2:H l=some (.lst xs)) (h3:xs.length<sizeLine) (h4:Q .non (upd H l (.lst (xs++[y])))):Cc  x vs H Q
def N_:V->List V->Hp->VK->Prop:=Cc
theorem qK:Vu X "list.append" N_:=by
 intro pins s σ H x vs v us Q I rx rv h
 obtain ⟨l,xs,y,rfl,rfl,hH,hz,q⟩:=h
 cases rx
 obtain ⟨u,rfl,ru⟩:=rv.one
 obtain ⟨z,its,n,r,hl,e⟩:=I.lstM hH
 refine call_meets F.slot_list_append ⟨_,e,rfl⟩ F.entry_list_append (F.args_list_append_2 _ _) (PySem.list_append l its.toArray n u (by rw [aM];omega)) ⟨e,?_⟩
 refine ⟨.non,_,I.lset (its':=its++[u]) hH e (by simp) (r.append (.cons ru .nil)) ?_,rfl,q⟩
 rw [aH,du]
 omega
def QU:V->List V->Hp->VK->Prop:=fun x vs H Q=>∃ l xs i k y,x=.ref l/\vs=[.int i]/\H l=some (.lst xs)/\-(2 ^ 63)<=i/\i<2 ^ 63/\Ju i xs.length=some k/\xs[k]?=some y/\Q y (upd H l (.lst (xs.eraseIdx k)))
theorem Kl:Vu X "list.pop" QU:=by
 intro pins s σ H x vs v us Q I rx rv h
 obtain ⟨l,xs,i,k,y,rfl,rfl,hH,h1,h2,hk,hy,q⟩:=h
 cases rx
 obtain ⟨u,rfl,ru⟩:=rv.one
 obtain ⟨t,rfl⟩:=ru
 obtain ⟨z,its,n,r,hl,e⟩:=I.lstM hH
 obtain ⟨w,hw,rw'⟩:=r.get hy
 refine call_meets F.slot_list_pop ⟨_,e,rfl⟩ F.entry_list_pop (F.args_list_pop_2 _ _)
  (MeetsSeq.list_pop_at l its.toArray n i t k w (fitsIndex_both h1 h2) (by rw [aM,<- hl];exact hk) (by rw [<- dn];exact hw) (by rw [aM];omega)) ⟨e,?_⟩
 refine ⟨y,_,I.lset (its':=its.eraseIdx k) hH e ?_ (r.eraseIdx k) ?_,rw',q⟩
 ·show its.toArray.eraseIdxIfInBounds k=(its.eraseIdx k).toArray
  rw [List.eraseIdxIfInBounds_toArray]
 ·have:=zM xs k
  omega
end
section
variable {prog:aK}{w:aY}{A:b6}{E:a8->ac->Prop}{s:ac}
end
section
variable {X:Cx}
end
end L2
namespace Att
open PySem PySem.W PySem.Calls PyProof.Rows
theorem wq {P:Params}{h:bp}:∀ (ns:List Int) (vs:List a8),WellAll P h vs (ns.map WData.int)->JR vs ns:=by
 intro ns
 induction ns with
 | nil =>
  intro vs w
  rw [dQ] at w
  cases w
  exact .nil
 | cons n ns ih =>
  intro vs w
  rw [aO] at w
  cases w with
  | cons a b =>
   cases a
   exact .cons _ _ (ih _ b)
theorem Ic {l:OpenLaw}{n:Nat} (hn:l.most=some n) {P:Params}{h:bp}{args:List WData}{vals:List a8}
  (hpre:l.row.toRowW.claim.pre args=true) (hwl:WellAll P h vals args) :
  ∃ a vs ns,vals=[c6 a]/\args=[WData.list (ns.map WData.int)]/\h.get? a=some { cls:=.type "list",data:=.seq vs.toArray }/\JR vs ns/\ns.length<=n:=by
 have hsh:WShape.hasAll [] args [.list .int]=true:=(pre_splitW hpre).1
 have hc:l.pre.holds [] { args:=args }=true:=(pre_splitW hpre).2
 obtain ⟨d,r,rfl,h1,h2⟩:=hasAllW_cons hsh
 obtain rfl:=hasAllW_nil h2
 obtain ⟨xs,rfl,h3⟩:=hasW_list h1
 obtain ⟨ns,rfl⟩:=items_int h3
 have hlen:ns.length<=n:=by
  unfold OpenLaw.pre at hc
  have h4:(WTm.not (.lt (.lit (.int (n:Int))) (.len (.arg 0)))).holds [] { args:=[.list (ns.map .int)] }=true:=by
   have h4:=(holds_andW hc).1
   rw [hn] at h4
   exact h4
  have h5:=condW_of h4 (w_not (w_lt w_lit (w_len_list (w_arg rfl))))
  rw [av] at h5
  refine Ni fun q=>?_
  have q':(n:Int)<((ns.length:Nat):Int):=by omega
  first
   | (rw [decide_eq_true q'] at h5;exact absurd h5 (by decide))
   | (simp at h5;omega)
 cases hwl with
 | cons w1 w2 =>
  cases w2
  cases w1 with
  | list ho hall=>exact ⟨_,_,ns,rfl,rfl,ho,wq ns _ hall,hlen⟩
theorem Ie (l:OpenLaw) (args:List WData):l.row.toRowW.claim.post args (.bool true) args=true :=
 postW_of (r:=l.row.toRowW) (X:=(true == true))
  (show WShape.has [] (.bool true) .bool=true by first | rfl | decide | simp [WShape.has,WShape.arms,WShape.armsAll])
  (show (WTm.eq .res (.lit (.bool true))).value [] { args:=args,res:=some (.bool true),after:=args }=some (.bool (true == true)) from w_eq_bool (w_res rfl) w_lit) rfl
theorem attach_call {l:OpenLaw}{n:Nat}{q:aK}{loose:List Str}{XP:(Str->Option a8)->bp->Prop}{YP:aY->bp->Prop}{d:DefRec}
  (hn:l.most=some n) (hdf:d.params.defaults=[])
  (call:∀ (w:aY) (s₀ s₁:ac) (mg mb:Str->Option a8) (fa:ah) (o:Obj) (pm cd doc:a8) (a:ah) (vs:List a8) (ns:List Int),
   Ground q loose [] XP w s₀ mg mb s₁.heap->YP w s₁.heap ->
   s₁.heap.get? fa=some o->o.data=.func (docDef d.name d.params d.body d.scope pm cd doc)->s₁.heap.CodeRec cd d.name->mg d.name=some (.ref fa) ->
   s₁.heap.get? a=some { cls:=.type "list",data:=.seq vs.toArray }->JR vs ns->ns.length<=n->s₁.gens=#[] ->
   iy (aP l.prog w) vG (.call (.ref fa) ⟨[.ref a],[]⟩) (fun r s'=>r=.ok (.ret (.bool true))/\OldK s₁.heap s'.heap/\s'.os=s₁.os/\pi s'.gens) s₁) :
  WalkO q loose XP YP l.row.toRowW d [] (fun f vs=>HH f vs):=by
 intro w s₀ s₁ mg mb G Y fa o pm cd doc dV kV ho hd hcd hD hmg hg args vals as hpre hlay hrd hwl hlo
 obtain rfl:dV=.none:=Dflts.none hD hdf
 obtain rfl:kV=.none:=Dflts.noKw hD
 obtain ⟨a,vs,ns,rfl,rfl,hobj,hints,hlen⟩:=Ic hn hpre hwl
 refine enter_call (r_ (call w s₀ s₁ mg mb fa o pm cd doc a vs ns G Y ho (fd_plain hd) hcd hmg hobj hints hlen hg) fun r s' hq=>?_)
 obtain ⟨rfl,h2,h3,h4⟩:=hq
 exact ⟨.inl ⟨.bool true,.bool true,[],rfl,fun _=>rfl,.bool true,Ie l _,fun _=>⟨zF,fun _ hm=>(nomatch hm)⟩⟩,h2,h3,h4⟩
section
variable {prog:aK}{w:aY}{A:b6}{E:a8->ac->Prop}{s:ac}{K:Frag}
def UQ (h:bp) (L d:ah):List (ah×Obj):=(bi h.objs.size).filterMap fun a=>if a=L\/a=d then none else (h.get? a).map fun o=>(a,o)
end
end Att
namespace L2
open PySem PySem.Spec PyProof.Rows
theorem Ig {vs:List a8}{ns:List Int} (h:JR vs ns):cV (ns.map V.int) vs:=by
 induction h with
 | nil=>exact .nil
 | cons n t h ih=>exact .cons ⟨t,rfl⟩ ih
def QV (H:Hp):Prop:=∀ b,H b=none\/∃ o xs,H b=some (.frz o (.lst xs))
theorem Km {P:aK}{w:aY}{K:a6}{mg mb:Str->Option a8}{CX:JH}{k:Nat}{fa a:ah}{fd:eU}{x:Str}{sp:Sp}{s₁:ac}{vs:List a8}{ns:List Int}
  (KX:K.In s₁.heap) (hns:s₁.heap.Ns bB mg) (hb:s₁.heap.Ns builtinsNs mb) (hbb:∀ x:Str,x≠"__name__"->mb x=gE x) (hlim:s₁.heap.NoLimit) (hg:s₁.gens=#[])
  (ha:s₁.heap.get? a=some { cls:=.type "list",data:=.seq vs.toArray }) (hi:JR vs ns) (hl:ns.length<=sizeLine) (hr:kQ k vG)
  (F:∀ base:bp,K.In base->base.Ns bB mg->uY P w K mg base CX k fa fd [x] sp) (hbind:∀ (s:ac) (u:a8),yV s fd ⟨[u],[]⟩ [(x,u)])
  (hsp:∀ H:Hp,QV H->lU K H a (ns.map V.int)->sp [.ref a] H (fun v _=>v=.bl true) fun _ _ _=>False)
  (hCX:∀ H e s',CX [] H s₁ (fun _ _ _=>False) e s'->False) :
  iy (aP P w) vG (.call (.ref fa) ⟨[.ref a],[]⟩) (fun r s'=>r=.ok (.ret (.bool true))/\OldK s₁.heap s'.heap/\s'.os=s₁.os/\pi s'.gens) s₁:=by
 have rv:=Ig hi
 have lenV:=hi.length
 have core:∀ H:Hp,QV H->lU K H a (ns.map V.int)->pC P w H s₁.heap->(∀ b,H b≠none->b=a)->(H a≠none->K.lookup a=none) ->
   iy (aP P w) vG (.call (.ref fa) ⟨[.ref a],[]⟩) (fun r s'=>r=.ok (.ret (.bool true))/\OldK s₁.heap s'.heap/\s'.os=s₁.os/\pi s'.gens) s₁:=by
  intro H hO hS hok hA hK
  have base_of:∀ {b:ah}{o:Obj},s₁.heap.get? b=some o->H b=none->(AC s₁.heap H).get? b=some o:=fun e n=>K5 e n
  have noA:∀ {b:ah}{o:Obj}{es:Array DictEntry}{ep:Nat},s₁.heap.get? b=some o->o.data=.dict es ep->H b=none:=fun {b o es ep} e d=>by
   cases q:H b with
   | none=>rfl
   | some u =>
    have e':b=a:=hA b (by rw [q];simp)
    subst e'
    rw [ha] at e;cases e
    have d':Data.seq vs.toArray _=Data.dict es ep:=d
    cases d'
  have nsK:∀ {b:ah}{m:Str->Option a8},s₁.heap.Ns b m->(AC s₁.heap H).Ns b m:=fun {b m} ⟨o,es,ep,e,d,r⟩=>⟨o,es,ep,base_of e (noA e d),d,r⟩
  have hKb:K.In (AC s₁.heap H):=fun b o e=>base_of (KX b o e) (by
   cases q:H b with
   | none=>rfl
   | some u =>
    have e':b=a:=hA b (by rw [q];simp)
    subst e'
    rw [hK (by rw [q];simp)] at e;cases e)
  have hM:Mod K mg (AC s₁.heap H):=⟨hKb,nsK hns,⟨mb,nsK hb,hbb⟩,let ⟨mc,h1,h2⟩:=hlim;⟨mc,nsK h1,h2⟩⟩
  have e0:NR P w K mg (AC s₁.heap H) vG [] s₁ H:=⟨rfl,hM,fun b o e=>NC e,Nat.le_of_eq (HU _ _),trivial,fun b hb=>absurd (show b∈([] : List ah) from hb) (by simp),hok,.of_eq hg⟩
  refine r_ ((F _ hKb (nsK hns)).run vG [] s₁ H ⟨[.ref a],[]⟩ [.ref a] [.ref a] _ _ hr e0 (hbind s₁ (.ref a)) (.cons rfl .nil) (hsp H hO hS)) fun r s' h=>?_
  cases r with
  | error e=>exact (hCX H e s' h).elim
  | ok fl =>
   cases fl with
   | next=>exact i7 h
   | brk=>exact i7 h
   | cont=>exact i7 h
   | ret u =>
    obtain ⟨v,H',os,bare,un,hok',r',q⟩:=h
    have q':v=.bl true:=q
    subst q'
    obtain rfl:u=HA true:=r'
    refine ⟨rfl,OldK.of_keep fun b o e=>?_,os,bare⟩
    cases q:H b with
    | none=>exact un.keep b o e q (by intro z;exact absurd (show b∈([] : List ah) from z) (by simp)) (by simp)
    | some u =>
     rcases hO b with z | ⟨ob,xs,z⟩
     ·rw [q] at z;cases z
     ·have z2:=un.frzs b ob _ z
      obtain ⟨e1,_⟩:=hok b _ z
      obtain ⟨e2,_⟩:=hok' b _ z2
      rw [e] at e1;cases e1
      exact e2
 cases hk:K.lookup a with
 | some o =>
  have e:=KX a o hk
  rw [ha] at e
  cases e
  refine core (fun _=>none) (fun _=>.inl rfl) (.inr ⟨_,vs.toArray,_,hk,rfl,rfl,rfl,by rw [aM,lenV];exact hl,by simpa using rv⟩) (fun b u z=>by have z':(none:Option HO)=some u:=z;cases z') (fun b z=>absurd rfl z) fun z=>absurd rfl z
 | none =>
  refine core (fun b=>if b=a then some (.frz { cls:=.type "list",data:=.seq vs.toArray } (.lst (ns.map V.int))) else none) (fun b=>?_) (.inl (.inr ⟨{ cls:=.type "list",data:=.seq vs.toArray },if_pos rfl⟩)) (fun b u z=>?_) (fun b z=>?_) fun _=>hk
  ·by_cases hb:b=a
   ·exact .inr ⟨_,_,if_pos hb⟩
   ·exact .inl (if_neg hb)
  ·by_cases hb:b=a
   ·have z':=(if_pos hb).symm.trans z
    cases z'
    subst hb
    exact ⟨ha,by rw [av];exact hl,vs,_,rv,ha⟩
   ·have z':=(if_neg hb).symm.trans z
    cases z'
  ·by_cases hb:b=a
   ·exact hb
   ·exact absurd (if_neg hb) z
end L2
namespace L2
open PySem PySem.Spec PyProof.Rows
abbrev W5 {K:a6}{h:bp} (_:K.In h):a6:=K
theorem O0 {l:wf}{n k:Nat}{q:aK}{loose:List Str}{XP:(Str->Option a8)->bp->Prop}{YP:aY->bp->Prop}{d:DefRec}{K:Params->a6}{CX:aY->JH}{sp:aY->Sp}{x:Str}
  (hn:l.most=some n) (hn2:n<=sizeLine) (hdf:d.params.defaults=[]) (hr:kQ k vG)
  (hY:∀ (w:aY) (h:bp),YP w h->(K w.params).In h)
  (F:∀ (w:aY) (mg:Str->Option a8) (fa:ah) (h:bp),(K w.params).In h->h.Ns bB mg->mg d.name=some (.ref fa) ->
   ∃ fd:eU,(∀ (s:ac) (u:a8),yV s fd ⟨[u],[]⟩ [(x,u)]) /\
    ∀ base:bp,(K w.params).In base->base.Ns bB mg->uY l.prog w (K w.params) mg base (CX w) k fa fd [x] (sp w))
  (hsp:∀ (w:aY) (H:Hp) (a:ah) (ns:List Int),ns.length<=n->QV H->lU (K w.params) H a (ns.map V.int)->sp w [.ref a] H (fun v _=>v=.bl true) fun _ _ _=>False)
  (hCX:∀ (w:aY) (H:Hp) (s:ac) (e:a8) (s':ac),CX w [] H s (fun _ _ _=>False) e s'->False) :
  N0 q loose XP YP l.row.toRowW d [] (fun f vs=>HH f vs):=by
 refine Att.attach_call hn hdf fun w s₀ s₁ mg mb fa o pm cd doc a vs ns G Y ho hd hcd hmg hobj hints hlen hg=>?_
 have KX:=hY w _ Y
 obtain ⟨fd,hb,hF⟩:=F w mg fa _ KX G.T.g hmg
 exact Km KX G.T.g G.T.b G.T.builtins G.T.nolimit hg hobj hints (bU hlen hn2) hr hF hb (fun H hO hS=>hsp w H a ns hlen hO hS) fun H e s'=>hCX w H s₁ e s'
end L2
namespace L2
open PySem PySem.Spec PyProof.Rows
def jW (s:cC):Arguments:=match s with
 | .FunctionDef _ a _ _ _ _ _ _ _ _=>a
 | _=>{ posonlyargs:=[],args:=[],vararg:=none,kwonlyargs:=[],kw_defaults:=[],kwarg:=none,defaults:=[] }
def gW (s:cC):List cC:=match s with
 | .FunctionDef _ _ b _ _ _ _ _ _ _=>b
 | _=>[]
def aA (s:cC):e7:=match s with
 | .FunctionDef _ _ _ _ _ _ sc _ _ _=>sc
 | _=>{ kind:=.function,names:=[],isGenerator:=false,isCoroutine:=false }
abbrev E0:XK:=fun _ _ _=>False
structure Ih (K:a6) (x qual:Str) (st:cC) (f:ah) (fd:eU):Prop where
 ex:∃ (oc:a8) (od:Option ah) (kV doc pm:a8) (an:Option ah) (cdv ct:a8) (osl:Array (Option a8)),
  fd=fR x qual (jW st) (gW st) (aA st) .none kV doc pm an cdv ct/\K.lookup f=some ⟨oc,od,.func fd,osl⟩/\lm K cdv qual=true
 kp:jg K (.ref f)=true
section
variable {P:aK}{w:aY}{K:a6}{mg:Str->Option a8}{base:bp}
theorem Ih.binds {x qual:Str}{st:cC}{f:ah}{fd:eU}{ps:List Str} (F:Ih K x qual st f fd)
  (h:∀ (kV doc pm:a8) (an:Option ah) (cdv ct:a8) (us:List a8),us.length=ps.length->Ng (fR x qual (jW st) (gW st) (aA st) .none kV doc pm an cdv ct) ⟨us,[]⟩=pure (ps.zip us)):ni K fd ps []:=by
 obtain ⟨oc,od,kV,doc,pm,an,cdv,ct,osl,rfl,lk,hcd⟩:=F.ex
 exact .all (h kV doc pm an cdv ct)
theorem Kn {x qual:Str}{st:cC}{f:ah}{oc:a8}{od an:Option ah}{osl:Array (Option a8)}{kV doc pm cdv ct:a8} (l:K.lookup f=some ⟨oc,od,.func (fR x qual (jW st) (gW st) (aA st) .none kV doc pm an cdv ct),osl⟩)
  (c:lm K cdv qual=true) (k:jg K (.ref f)=true):Ih K x qual st f (fR x qual (jW st) (gW st) (aA st) .none kV doc pm an cdv ct):=⟨⟨oc,od,kV,doc,pm,an,cdv,ct,osl,rfl,l,c⟩,k⟩
end
theorem iG {A:b6}{k:Nat} (hr:kQ k A):A.units + 1<tm:=uP (Nat.add_le_add_left (by decide:1<=64) _) hr.units
theorem df {n:Nat} (h:n<=1000):n<sizeLine:=uP h (by decide)
section
variable {X:Cx}
end
theorem Cd {A B:Prop} (h:B):if false=true then A else B:=by
 rw [if_neg a_]
 exact h
theorem Ce {A B:Prop} (h:A):if true=true then A else B:=by
 rw [if_pos rfl]
 exact h
def cZ (H H':Hp):Prop:=∀ b o,H b=some o->H' b=some o
theorem cZ.refl (H:Hp):cZ H H:=fun _ _ h=>h
theorem cZ.trans {H H1 H2:Hp} (a:cZ H H1) (b:cZ H1 H2):cZ H H2:=fun c o h=>b c o (a c o h)
theorem cZ.free {H H':Hp} (e:cZ H H') {l:ah} (h:H' l=Option.none):H l=Option.none:=by
 cases q:H l with
 | none=>rfl
 | some o =>
  rw [e l o q] at h
  cases h
theorem cZ.seq {K:a6}{H H':Hp}{a:ah}{xs:List V} (e:cZ H H') (h:lU K H a xs):lU K H' a xs:=by
 rcases h with (h | ⟨o,h⟩) | h
 ·exact .inl (.inl (e _ _ h))
 ·exact .inl (.inr ⟨o,e _ _ h⟩)
 ·exact .inr h
end L2
end
section
namespace L2
open PySem PySem.Spec PyProof.Rows
section
variable {κ:Type} [DecidableEq κ]
def tZ (kvs:List (κ×V)) (k:κ):Option V:=(kvs.find? fun kv=>decide (kv.1=k)).map (·.2)
def u_ (kvs:List (κ×V)) (k:κ) (v:V):List (κ×V) :=
 if (kvs.any fun kv=>decide (kv.1=k))=true then kvs.map (fun kv=>if kv.1=k then (kv.1,v) else kv) else kvs++[(k,v)]
def Ko (kvs:List (κ×V)) (k:κ):List (κ×V):=kvs.filter fun kv=>decide (kv.1≠k)
theorem xn {p:κ×V}{r:List (κ×V)}{k:κ} (e:p.1=k):tZ (p::r) k=some p.2:=by simp [tZ,dB,e]
theorem xo {p:κ×V}{r:List (κ×V)}{k:κ} (e:¬ p.1=k):tZ (p::r) k=tZ r k:=by simp [tZ,dB,e]
theorem Cf (k:κ):∀ kvs:List (κ×V),(kvs.any fun kv=>decide (kv.1=k))=(tZ kvs k).isSome
 | []=>rfl
 | p::r=>by
  rw [fm]
  by_cases e:p.1=k
  ·simp only [xn e,decide_eq_true e,Bool.true_or,G6]
  ·rw [xo e,decide_eq_false e,tM];exact Cf k r
theorem vN (kvs:List (κ×V)) (k:κ) (v:V):(u_ kvs k v).length<=kvs.length + 1:=by
 unfold u_
 split
 ·rw [av];omega
 ·rw [aH,aW,c7];omega
theorem xj.isSome_eq {o:Option V}{u:Option a8} (r:xj o u):o.isSome=u.isSome:=by
 cases o with
 | none=>cases u with
  | none=>rfl
  | some _=>exact (show False from r).elim
 | some _=>cases u with
  | none=>exact (show False from r).elim
  | some _=>rfl
theorem KV.val {kvs:List (κ×V)}{vs:List (κ×a8)} (r:KV kvs vs) (k:κ):xj (tZ kvs k) (yY vs k):=by
 unfold KV at r
 induction r with
 | nil=>exact jf
 | @cons p q ps qs h t ih =>
  obtain ⟨h1,h2⟩:=h
  by_cases e:p.1=k
  ·have e':q.1=k:=h1.symm.trans e
   have b:yY (q::qs) k=some q.2:=by simp [yY,dB,e']
   rw [xn e,b];exact h2
  ·have e':¬ q.1=k:=fun z=>e (h1.trans z)
   have b:yY (q::qs) k=yY qs k:=by simp [yY,dB,e']
   rw [xo e,b];exact ih
theorem KV.any {kvs:List (κ×V)}{vs:List (κ×a8)} (r:KV kvs vs) (k:κ):(kvs.any fun kv=>decide (kv.1=k))=vs.any fun kv=>decide (kv.1=k):=by
 unfold KV at r
 induction r with
 | nil=>rfl
 | cons h t ih=>rw [fm,fm,ih,h.1]
theorem KV.repl {kvs:List (κ×V)}{vs:List (κ×a8)} (r:KV kvs vs) (k:κ) {y:V}{u:a8} (ry:de y u) :
  KV (kvs.map fun kv=>if kv.1=k then (kv.1,y) else kv) (vs.map fun kv=>if kv.1=k then (kv.1,u) else kv):=by
 unfold KV at r ⊢
 induction r with
 | nil=>exact .nil
 | @cons p q ps qs h t ih =>
  rw [aO,aO]
  refine .cons ?_ ih
  obtain ⟨h1,h2⟩:=h
  by_cases e:p.1=k
  ·rw [if_pos e,if_pos (h1.symm.trans e)];exact ⟨h1,ry⟩
  ·rw [if_neg e,if_neg (fun z=>e (h1.trans z))];exact ⟨h1,h2⟩
theorem KV.put {kvs:List (κ×V)}{vs:List (κ×a8)} (r:KV kvs vs) (k:κ) {y:V}{u:a8} (ry:de y u):KV (u_ kvs k y) (JU vs k u):=by
 unfold u_ JU
 rw [r.any k]
 by_cases e:(vs.any fun kv=>decide (kv.1=k))=true
 ·rw [if_pos e,if_pos e];exact r.repl k ry
 ·rw [if_neg e,if_neg e];exact Paired.snoc r ⟨rfl,ry⟩
theorem KV.length {kvs:List (κ×V)}{vs:List (κ×a8)} (r:KV kvs vs):kvs.length=vs.length:=rY r
end
theorem Gf {P:aK}{w:aY}{k:fi}{u:a8} (r:de (kV k) u):(dJ P w).is k u=true:=by
 cases k with
 | inl i=>obtain ⟨t,e⟩:=(show ∃ t,u=lQ i t from r);subst e;exact C4 P w i t
 | inr x=>obtain ⟨t,e⟩:=(show ∃ t,u=jd x t from r);subst e;exact C5 P w x t
theorem zN {P:aK}{w:aY}:∀ {ks:List fi}{us:List a8},cV (ks.map kV) us->ItemsAre (dJ P w) ks us
 | [],_,r=>by rw [dQ] at r;cases r;exact .nil
 | k::ks,_,r=>by
  rw [aO] at r
  cases r with
  | cons h t=>exact .cons (Gf h) (zN t)
abbrev KT (H:Hp):List (List fi×V)->List (List fi×ah×a8)->Prop:=JP fun p q=>p.1=q.1/\H q.2.1=some (.tup (p.1.map kV))/\de p.2 q.2.2
theorem KT.val {H:Hp}{kvs:List (List fi×V)}{xs:List (List fi×ah×a8)} (r:KT H kvs xs) (k:List fi):xj (tZ kvs k) ((Ev xs k).map (·.2)):=by
 induction r with
 | nil=>exact jf
 | @cons p q ps qs h t ih =>
  obtain ⟨h1,_,h2⟩:=h
  by_cases e:p.1=k
  ·have e':q.1=k:=h1.symm.trans e
   have b:Ev (q::qs) k=some q.2:=by simp [Ev,dB,e']
   rw [xn e,b];exact h2
  ·have e':¬ q.1=k:=fun z=>e (h1.trans z)
   have b:Ev (q::qs) k=Ev qs k:=by simp [Ev,dB,e']
   rw [xo e,b];exact ih
theorem KT.repl {H:Hp}{kvs:List (List fi×V)}{xs:List (List fi×ah×a8)} (r:KT H kvs xs) (k:List fi) {y:V}{u:a8} (ry:de y u) :
  KT H (kvs.map fun kv=>if kv.1=k then (kv.1,y) else kv) (xs.map (putAt k u)):=by
 induction r with
 | nil=>exact .nil
 | @cons p q ps qs h t ih =>
  rw [aO,aO]
  refine .cons ?_ ih
  obtain ⟨h1,h2,h3⟩:=h
  unfold putAt
  by_cases e:p.1=k
  ·rw [if_pos e,if_pos (h1.symm.trans e)];exact ⟨h1,h2,ry⟩
  ·rw [if_neg e,if_neg (fun z=>e (h1.trans z))];exact ⟨h1,h2,h3⟩
theorem KT.put {H:Hp}{kvs:List (List fi×V)}{xs:List (List fi×ah×a8)} (r:KT H kvs xs) (k:List fi) {b:ah}{y:V}{u:a8} (hb:H b=some (.tup (k.map kV))) (ry:de y u) :
  KT H (u_ kvs k y) (storedH xs k b u):=by
 have e:(kvs.any fun kv=>decide (kv.1=k))=(Ev xs k).isSome:=by
  rw [Cf,(r.val k).isSome_eq,HI]
 unfold u_ storedH
 rw [e]
 by_cases q:(Ev xs k).isSome=true
 ·rw [if_pos q,if_pos q];exact r.repl k ry
 ·rw [if_neg q,if_neg q];exact Paired.snoc r ⟨rfl,hb,ry⟩
theorem KT.keeps {H H':Hp}{kvs:List (List fi×V)}{xs:List (List fi×ah×a8)} (r:KT H kvs xs) (ht:∀ b ys,H b=some (.tup ys)->H' b=some (.tup ys)):KT H' kvs xs :=
 Paired.mapP r fun _ _ z=>⟨z.1,ht _ _ z.2.1,z.2.2⟩
section
variable {P:aK}{w:aY}{H:Hp}{h:bp}{a:ah}
theorem Pr {u:HO} (ok:pC P w H h) (e:Rd H a u):dL P w H h a u:=e.ok ok
theorem Gg {kvs:List (fi×V)} (ok:pC P w H h) (e:Rd H a (.dK kvs)):kvs.length<=sizeLine/\(a == jB)=false/\∃ vs,KV kvs vs/\h.DictOf (dJ P w) a vs :=
 show dL P w H h a (.dK kvs) from Pr ok e
theorem Sm {kvs:List (fi×V)} (ok:pC P w H h) (e:H a=some (.dK kvs)):kvs.length<=sizeLine/\(a == jB)=false/\∃ vs,KV kvs vs/\h.DictOf (dJ P w) a vs:=Gg ok (.inl e)
theorem AL {ks:List fi} (ok:pC P w H h) (e:H a=some (.tup (ks.map kV))):(Au (dJ P w)).is h ks a:=by
 obtain ⟨_,its,r,o,h1,h2,n,h3⟩:=(show dL P w H h a (.tup (ks.map kV)) from ok a _ e)
 exact ⟨o,its.toArray,n,h1,h2,h3,by simpa using zN r⟩
theorem Gh {kvs:List (List fi×V)} (ok:pC P w H h) (e:Rd H a (.dT kvs)):kvs.length<=sizeLine/\(a == jB)=false /\
  ∃ xs,KT H kvs xs/\h.DictOfH (Au (dJ P w)) a xs:=by
 obtain ⟨z,y,xs,r,o,es,ep,h1,h2,h3,h4,h5⟩:=(show dL P w H h a (.dT kvs) from Pr ok e)
 refine ⟨z,y,xs,r,o,es,ep,h1,h2,h3,h4,fun x hx=>?_,h5⟩
 have all:∀ {l:List (List fi×V)}{m:List (List fi×ah×a8)},KT H l m->∀ x∈m,(Au (dJ P w)).is h x.1 x.2.1:=by
  intro l m q
  induction q with
  | nil=>intro x hx;exact nomatch hx
  | @cons p q ps qs hq t ih =>
   intro x hx
   rcases List.mem_cons.mp hx with e | hx
   ·subst e
    exact AL ok (by rw [<- hq.1];exact hq.2.1)
   ·exact ih x hx
 exact all r x hx
theorem Sn {kvs:List (List fi×V)} (ok:pC P w H h) (e:H a=some (.dT kvs)):kvs.length<=sizeLine/\(a == jB)=false /\
  ∃ xs,KT H kvs xs/\h.DictOfH (Au (dJ P w)) a xs:=Gh ok (.inl e)
end
def ET (H:Hp) (a:ah) (y:V) (r:Option V):Prop :=
 (∃ kvs k,Rd H a (.dK kvs)/\y=kV k/\r=tZ kvs k)\/∃ kvs k b,Rd H a (.dT kvs)/\y=.ref b/\H b=some (.tup (k.map kV))/\r=tZ kvs k
def Kp (H:Hp) (a:ah) (y v:V) (H':Hp):Prop :=
 (∃ kvs k,H a=some (.dK kvs)/\y=kV k/\kvs.length<sizeLine/\H'=upd H a (.dK (u_ kvs k v))) \/
 ∃ kvs k b,H a=some (.dT kvs)/\y=.ref b/\H b=some (.tup (k.map kV))/\kvs.length<sizeLine/\H'=upd H a (.dT (u_ kvs k v))
theorem ET.k {H:Hp}{a:ah}{kvs:List (fi×V)}{k:fi} (e:H a=some (.dK kvs)):ET H a (kV k) (tZ kvs k):=.inl ⟨kvs,k,.inl e,rfl,rfl⟩
theorem Kp.k {H:Hp}{a:ah}{kvs:List (fi×V)}{k:fi}{v:V} (e:H a=some (.dK kvs)) (hl:kvs.length<sizeLine):Kp H a (kV k) v (upd H a (.dK (u_ kvs k v))):=.inl ⟨kvs,k,e,rfl,hl,rfl⟩
section
variable {X:Cx}{pins:List (ah×Obj)}{σ:St}{H:Hp}{s:ac}{a:ah}{y v:V}{u r:a8}{o:Option V}{A:b6}{E:a8->ac->Prop}
theorem bQ.big (I:bQ X pins σ H s):jB<s.heap.objs.size:=by
 have h:bB<s.heap.objs.size:=(I.mod.glob.keeps I.bk).lt
 exact wg (by decide) h
theorem Ii {Q:a8->ac->Prop} (hu:A.units + 1<tm) (I:bQ X pins σ H s) (g:ET H a y (some v)) (ry:de y u) (h:∀ w' s',bQ X pins σ H s'->de v w'->Q w' s') :
  au (aP X.prog X.w) A (pj (.ref a) u) Q E s:=by
 rcases g with ⟨kvs,k,e,ey,l⟩ | ⟨kvs,k,b,e,ey,eb,l⟩
 ·subst ey
  obtain ⟨z,hd,vs,rel,dd⟩:=Gg I.hok e
  obtain ⟨w',hw,rw'⟩:=xj.some_of (v:=v) (o:=yY vs k) (by rw [l];exact rel.val k)
  exact wpAny_getItem_of (Gf ry) dd.mapOf hw (h w' _ (I.tok _) rw')
 ·subst ey
  cases (show u=c6 b from ry)
  obtain ⟨z,hd,xs,rel,dd⟩:=Gh I.hok e
  obtain ⟨w',hw,rw'⟩:=xj.some_of (v:=v) (o:=(Ev xs k).map (·.2)) (by rw [l];exact rel.val k)
  obtain ⟨p,hp,hp2⟩:=Option.map_eq_some_iff.mp hw
  refine wpAny_getItem_heap (w_ hu) (AL I.hok eb) dd hp ?_
  rw [hp2]
  exact h w' _ (I.tok _) rw'
theorem d_in {Q:a8->ac->Prop} (hu:A.units + 1<tm) (I:bQ X pins σ H s) (g:ET H a y o) (ry:de y u) (h:∀ s',bQ X pins σ H s'->Q (.bool o.isSome) s') :
  au (aP X.prog X.w) A (bL .In u (.ref a)) Q E s:=by
 rcases g with ⟨kvs,k,e,ey,l⟩ | ⟨kvs,k,b,e,ey,eb,l⟩
 ·subst ey
  obtain ⟨z,hd,vs,rel,dd⟩:=Gg I.hok e
  refine wpAny_in_of (Gf ry) hd dd.mapOf ?_
  rw [<- (rel.val k).isSome_eq,<- l]
  exact h _ (I.tok _)
 ·subst ey
  cases (show u=c6 b from ry)
  obtain ⟨z,hd,xs,rel,dd⟩:=Gh I.hok e
  refine wpAny_in_heap (w_ hu) (AL I.hok eb) hd dd ?_
  have q:=(rel.val k).isSome_eq
  rw [HI] at q
  rw [<- q,<- l]
  exact h _ (I.tok _)
theorem Gi {h':bp}{t':Nat}{ob:HO} (I:bQ X pins σ H s) (mu:RV (H a)) (hs:bG a s.heap h') (he:∃ q,h'.get? a=some q) (new:dL X.prog X.w (upd H a ob) h' a ob) :
  bQ X pins σ (upd H a ob) { s with heap:=h',toks:=t' } :=
 I.write (x:=a) (e:=a) mu (.inl rfl) (fun b q hb z=>(hs.2 b hb).trans z) he new
theorem QW {P:aK}{w:aY}{H':Hp}{h':bp}{kvs:List (fi×V)}{vs:List (fi×a8)} (z:kvs.length<=sizeLine) (hd:(a == jB)=false) (rel:KV kvs vs) (dd:h'.DictOf (dJ P w) a vs) :
  dL P w H' h' a (.dK kvs):=⟨z,hd,vs,rel,dd⟩
theorem Ij {H':Hp}{Q:Unit->ac->Prop} (hu:A.units + 1<tm) (I:bQ X pins σ H s) (g:Kp H a y v H') (ry:de y u) (rv:de v r) (h:∀ s',bQ X pins σ H' s'->Q () s') :
  au (aP X.prog X.w) A (setItem (.ref a) u r) Q E s:=by
 rcases g with ⟨kvs,k,e,ey,l,eH⟩ | ⟨kvs,k,b,e,ey,eb,l,eH⟩
 ·subst ey eH
  obtain ⟨z,hd,vs,rel,dd⟩:=Sm I.hok e
  have hz:vs.length<=sizeLine:=by rw [<- rel.length];exact z
  have hl:(u_ kvs k v).length<=sizeLine:=by have:=vN kvs k v;omega
  refine wpAny_setItem_pairs (hsz:=hz) (Gf ry) dd fun h' dd' hs=>h _ ?_
  have he:∃ q,h'.get? a=some q:=let ⟨q,_,_,hq,_⟩:=dd';⟨q,hq⟩
  exact Gi I (by rw [e];exact jf) hs he (QW hl hd (rel.put k rv) dd')
 ·subst ey eH
  cases (show u=c6 b from ry)
  obtain ⟨z,hd,xs,rel,dd⟩:=Sn I.hok e
  have hz:xs.length<=sizeLine:=by rw [<- rY rel];exact z
  have hl:(u_ kvs k v).length<=sizeLine:=by have:=vN kvs k v;omega
  refine wpAny_setItem_heap (hsz:=hz) (w_ hu) (AL I.hok eb) dd fun h' dd' hs=>h _ ?_
  obtain ⟨q,es,ep,hq,h2,h3,h4,_,h5⟩:=dd'
  refine Gi I (by rw [e];exact jf) hs ⟨q,hq⟩ ⟨hl,hd,_,(rel.put k eb rv).keeps fun c ys ec=>?_,q,es,ep,hq,h2,h3,h4,h5⟩
  rw [bj (RU ec e (fun z=>nomatch z))]
  exact ec
end
section
variable {X:Cx}{pins:List (ah×Obj)}{σ:St}{H:Hp}{s:ac}{a:ah}{kvs:List (fi×V)}{k:fi}{u:a8}{A:b6}{E:a8->ac->Prop}
end
def So (i:aV):Prop:=∀ ov iv,BZ i false ov iv=operate [ov,iv] (pj ov iv)
theorem O1 {prog:aK}{w:aY}{A:b6}{E:a8->ac->Prop}{s:ac}{env:Env}{value slice:aV}{pos:Pos}{T id:String}{Q:a8->ac->Prop}
  (hl:Et (.type T) "__getitem__"=pure (some (.builtin id))) (hs:So slice)
  (h:au (aP prog w) A (cR value env) (fun o s₁=>au (aP prog w) A (cR slice env) (fun i s₂=>s₂.TypeIs o T/\au (aP prog w) A (pj o i) Q E s₂) E s₁) E s) :
  au (aP prog w) A (cR (.Subscript value slice pos) env) Q E s:=by
 refine Subscript_ (bI h (fun o s₁ h₁=>bI h₁ (fun i s₂ h₂=>?_) fun _ _ x=>x) fun _ _ x=>x)
 obtain ⟨hT,h₂⟩:=h₂
 unfold HG
 refine a7 ?_
 rw [getitemInPython_of_ne hT.not_modules]
 refine a7 (wpAny_specialOf hT hl ?_)
 have fin:au (aP prog w) A (BZ slice false o i) (fun r s₃=>au (aP prog w) A (letTemporaryGo value o r >>= fun _=>pure r) Q E s₃) E s₂:=by
  rw [hs o i]
  exact wpAny_operating (bI h₂ (fun r s₃ h₃=>a7 (wpAny_letTemporaryGo (ae h₃))) fun _ _ x=>x)
 first
  | exact ae (a7 fin)
  | exact a7 (ae (a7 fin))
  | exact a7 fin
theorem Cg {X:Cx}{pins:List (ah×Obj)}{σ:St}{H:Hp}{s:ac}{a:ah}{y:V}{o:Option V} (I:bQ X pins σ H s) (g:ET H a y o):s.TypeIs (.ref a) "dict":=by
 rcases g with ⟨kvs,k,e,_,_⟩ | ⟨kvs,k,b,e,_,_,_⟩
 ·obtain ⟨_,_,vs,_,dd⟩:=Gg I.hok e
  exact dd.typeIs
 ·obtain ⟨_,_,xs,_,dd⟩:=Gh I.hok e
  exact dd.typeIs
def Sq (td ty:TE):TE:=fun σ H Q=>td σ H fun x H1=>ty σ H1 fun y H2=>∃ a v,x=.ref a/\ET H2 a y (some v)/\Q v H2
def Ps (td ty tv:TE):TS:=fun D σ H=>tv σ H fun v H1=>td σ H1 fun x H2=>ty σ H2 fun y H3=>∃ a H4,x=.ref a/\Kp H3 a y v H4/\D.nx σ H4
section
variable {X:Cx}{o i e value:aV}{pos pos' tpos:Pos}{td ty tv:TE}
theorem O3 (hu:X.A.units + 1<tm) (ho:PE X o td) (hi:PE X i ty) (hs:So i):PE X (.Subscript o i pos) (Sq td ty):=by
 intro pins s σ H Q I h
 refine O1 PySem.F.slot_dict_getitem.lookup hs (fO (ho pins s σ H _ I h) fun u s1 ⟨x,H1,I1,rx,q1⟩=>fO (hi pins s1 σ H1 _ I1 q1) fun iv s2 ⟨y,H2,I2,ry,a,v,ex,g,q2⟩=>?_)
 subst ex
 obtain rfl:u=c6 a:=rx
 exact ⟨Cg I2 g,Ii hu I2 g ry fun w' s3 I3 rw'=>⟨v,H2,I3,rw',q2⟩⟩
theorem O4 (hu:X.A.units + 1<tm) (ho:PE X o td) (hi:PE X i ty) (hv:PE X value tv) (hs:fQ value (some (.Subscript o i pos')) pos.line X.env=pure false) :
  PS X (.Assign [.Subscript o i pos'] value pos) (Ps td ty tv):=by
 intro pins s σ H D I h
 refine wpAny_Assign_Subscript (fO (hv pins s σ H _ I h) fun r s1 ⟨v,H1,I1,rv,q1⟩=>fO (ho pins s1 σ H1 _ I1 q1) fun u s2 ⟨x,H2,I2,rx,q2⟩=>fO (hi pins s2 σ H2 _ I2 q2) fun iv s3 ⟨y,H3,I3,ry,a,H4,ex,g,q3⟩=>?_) hs
 subst ex
 obtain rfl:u=c6 a:=rx
 exact Ij hu I3 g ry rv fun s4 I4=>⟨σ,H4,I4,q3⟩
end
theorem Kq {P:aK}{w:aY}{H:Hp} (h:bp) (hb:jB<h.objs.size):dL P w H (h.push { cls:=.type "dict",data:=.dict #[] }) h.objs.size (.dK []) :=
 ⟨cn _,beq_eq_false_iff_ne.mpr (cW (aE hb)),[],.nil,Ed h⟩
def QX:TE:=fun _ H Q=>∀ p,H p=none->Q (.ref p) (upd H p (.dK []))
section
variable {X:Cx}{pos:Pos}
theorem Kr:PE X (.Dict [] [] pos) QX:=fun pins s σ H Q I h =>
 wpAny_Dict_empty ⟨.ref s.heap.objs.size,_,I.laid (a:=s.heap.objs.size) (o:=.dK []) (t':=s.toks) (fun _ _ q=>af _ q) (ao _) (Kq s.heap I.big),rfl,h _ (I.hok.fresh (ao _))⟩
end
section
variable {X:Cx}{pins:List (ah×Obj)}{σ:St}{H:Hp}{s:ac}{a:ah}{y d:V}{u r:a8}{o:Option V}{A:b6}{E:a8->ac->Prop}
end
section
variable {X:Cx}{o e f:aV}{apos cpos:Pos}{td ty tx:TE}
end
section
variable {X:Cx}{pins:List (ah×Obj)}{σ:St}{H:Hp}{s:ac}{a:ah}{kvs:List (fi×V)}{A:b6}{E:a8->ac->Prop}
end
section
variable {X:Cx}{pins:List (ah×Obj)}{σ:St}{H:Hp}{s:ac}{a:ah}{y:V}{u:a8}{A:b6}{E:a8->ac->Prop}
end
end L2
namespace L2
open PySem PySem.Spec PyProof.Rows
section
variable {X:Cx}
end
section
variable {κ:Type} [DecidableEq κ]
theorem Gj:∀ {l:List κ}{k:κ},l.Nodup->¬ k∈l->(l++[k]).Nodup
 | [],k,_,_=>by simp
 | a::r,k,h,hk=>by
  obtain ⟨h1,h2⟩:=List.nodup_cons.mp h
  show (a::(r++[k])).Nodup
  refine List.nodup_cons.mpr ⟨fun m=>?_,Gj h2 fun m=>hk (List.mem_cons.mpr (c_ m))⟩
  rcases List.mem_append.mp m with q | q
  ·exact h1 q
  ·exact hk (List.mem_cons.mpr (fB (List.mem_singleton.mp q).symm))
end
end L2
end
namespace L2
open PySem PySem.Spec PyProof.Rows
section
section
variable {prog:aK}{w:aY}{A:b6}{R:rZ->ac->Prop}{s:ac}
theorem AM {elt target iter:aV}{ifs:List aV}{scope:e7}{pos:Pos}{it acc:a8}{env:Env} (I:Nat->ac->Prop)
  (turn:∀ n s,I n s->au (aP prog w) A (mF it) (fun r s₁=>match r with
   | none=>R (.ok .next) s₁
   | some v=>au (aP prog w) A (gz target it v) (fun _ s₁'=>au (aP prog w) A (pH target env v) (fun _ s₂ =>
     au (aP prog w) A (forIn ifs true fun c r=>if r=true then do let ok <- Av c env (cR c env);pure (fK ok) else pure (fK r)) (fun ok s₃ =>
      if ok=true then au (aP prog w) A (cR elt env) (fun x s₄ =>
       au (aP prog w) A (call (.builtin "list.append") [acc,x]) (fun _ s₅=>∃ m,m<n/\I m s₅) (fun _ _=>False) s₄) (fun _ _=>False) s₃
      else ∃ m,m<n/\I m s₃) (fun _ _=>False) s₂) (fun _ _=>False) s₁') (fun _ _=>False) s₁) (fun _ _=>False) s)
  (n:Nat) (h:I n s) :
  iy (aP prog w) A (.compLoop (.ListComp elt [⟨target,iter,ifs,0⟩] scope pos) 0 it acc env) R s:=by
 refine codeAny_loop rfl I (fun n s hI=>?_) n h
 show au _ A ((compTurn (.ListComp elt [⟨target,iter,ifs,0⟩] scope pos) 0 it acc env).onRaise (fun x=>do noteFrame x env;theTreesLotGoes x)) _ _ s
 refine wpAny_noted ?_
 rw [compTurn_list]
 have nf:∀ {α:Type}{t:Sem α}{Q:α->ac->Prop}{E':a8->ac->Prop}{s:ac},au (aP prog w) A t Q (fun _ _=>False) s->au (aP prog w) A t Q E' s :=
  fun h=>bI h (fun _ _ q=>q) fun _ _ f=>f.elim
 refine a7 (js (a7 (nf (bI (turn n s hI) (fun r s₁ h₁=>?_) fun _ _ h'=>h'))))
 cases r with
 | none=>exact ae h₁
 | some v =>
  refine a7 (nf (bI h₁ (fun _ s₁' h₁'=>?_) fun _ _ h'=>h'))
  refine a7 (nf (bI h₁' (fun _ s₂ h₂=>a7 (nf (bI h₂ (fun ok s₃ h₃=>?_) fun _ _ h'=>h'))) fun _ _ h'=>h'))
  cases ok with
  | false=>exact ae ⟨rfl,h₃⟩
  | true =>
   exact a7 (a7 (nf (bI h₃ (fun x s₄ h₄=>a7 (nf (bI h₄ (fun _ s₅ h₅=>ae (ae ⟨rfl,h₅⟩)) fun _ _ h'=>h'))) fun _ _ h'=>h')))
end
theorem EU {env : Env} (names : List (Str × jt)) : ∀ (cs : List (Str × ah)), (∀ y ∈ names, y.2 = .free -> ∃ c, env.cells.lookup y.1 = some c) ->
    (∀ x c, cs.lookup x = some c -> env.cells.lookup x = some c) ->
    ∃ cl, (forIn names cs fun (x : Str × jt) (cs : List (Str × ah)) => match x with
        | (name, kind) => if (kind == cj) = true then do let a <- cellOf env name; pure (fK ((name, a) :: cs)) else pure (fK cs) : Sem (List (Str × ah))) = pure cl /\
      (∀ x c, cl.lookup x = some c -> env.cells.lookup x = some c) /\ (∀ y ∈ names, y.2 = .free -> ∃ c, cl.lookup y.1 = some c) /\ (∀ x c, cs.lookup x = some c -> ∃ c', cl.lookup x = some c') := by
  induction names with
  | nil => intro cs _ h2; exact ⟨cs, rfl, h2, fun _ h => absurd h (by simp), fun x c h => ⟨c, h⟩⟩
  | cons nk r ih =>
    obtain ⟨n, k⟩ := nk
    intro cs h1 h2
    by_cases hk : k = .free
    · subst hk
      obtain ⟨a, ha⟩ := h1 (n, .free) al rfl
      have h2' : ∀ x c, ((n, a) :: cs).lookup x = some c -> env.cells.lookup x = some c := fun x c h => by
        rw [cL] at h
        cases e : x == n with
        | true => rw [e] at h; have : x = n := by simpa using e
                  subst this; cases h; exact ha
        | false => rw [e] at h; exact h2 x c h
      obtain ⟨cl, e1, e2, e3, e4⟩ := ih ((n, a) :: cs) (fun y hy => h1 y (aj _ hy)) h2'
      refine ⟨cl, ?_, e2, fun y hy hf => ?_, fun x c h => ?_⟩
      · rw [l9]
        have hc : cellOf env n = pure a := by unfold cellOf; rw [ha]
        simp only [beq_self_eq_true, if_true, hc]
        exact e1
      · rcases List.mem_cons.mp hy with rfl | hy
        · exact e4 n a (by simp)
        · exact e3 y hy hf
      · cases e : x == n with
        | true => exact e4 x a (by rw [cL, e])
        | false => exact e4 x c (by rw [cL, e]; exact h)
    · obtain ⟨cl, e1, e2, e3, e4⟩ := ih cs (fun y hy => h1 y (aj _ hy)) h2
      refine ⟨cl, ?_, e2, fun y hy hf => ?_, e4⟩
      · rw [l9]
        have hk' : (k == cj) = false := by simpa using hk
        simp only [hk', bM, if_false]
        exact e1
      · rcases List.mem_cons.mp hy with rfl | hy
        · exact absurd hf hk
        · exact e3 y hy hf
theorem sg {scope:e7}{env:Env} (h:∀ y∈scope.names,y.2=.free->∃ c,env.cells.lookup y.1=some c):∃ cl,closureFor scope env=pure cl /\
  (∀ x c,cl.lookup x=some c->env.cells.lookup x=some c)/\(∀ y∈scope.names,y.2=.free->∃ c,cl.lookup y.1=some c):=by
 obtain ⟨cl,e1,e2,e3,_⟩:=EU (env:=env) scope.names [] h (fun x c h=>by simp at h)
 refine ⟨cl,?_,e2,e3⟩
 simp only [closureFor]
 rw [show (forIn scope.names ([] : List (Str×ah)) fun x r=>_)=(pure cl:Sem (List (Str×ah))) from e1]
 rfl
end
section
def cK (X:Cx) (N':List Str) (scope:e7) (cl:List (Str×ah)) (C:ah) (s₀:ac) (H₀:Hp) (ex:List ah) (pn:List (ah×Obj)):Cx :=
 { X with N:=N',s₀:=s₀,H₀:=H₀,env:=compEnvC scope cl C X.env,outer:=X.stack,stack:=X.stack,ex:=ex,fn:=fun y=>scope.names.lookup y == some .cell,pn:=pn,xe:=fun _ _=>False }
def N7 (X:Cx) (ifs:List aV) (t:TT):Prop :=
 ∀ (pins:List (ah×Obj)) (s:ac) (σ:St) (H:Hp) (Q:Bool->Hp->Prop),bQ X pins σ H s->t σ H Q ->
  au (aP X.prog X.w) X.A (forIn ifs true fun c r=>if r=true then do let ok <- Av c X.env (cR c X.env);pure (fK ok) else pure (fK r)) (TP X pins σ Q) X.xe s
def UR:TT:=fun _ H Q=>Q true H
theorem O5 {X:Cx}:N7 X [] UR:=fun pins s σ H Q I h=>wpAny_tests_nil ⟨H,I,h⟩
theorem O6 {X:Cx}{c:aV}{t:TT} (h:PT X c t):N7 X [c] t:=fun pins s σ H Q I hw=>wpAny_tests_one (h pins s σ H Q I hw)
structure mK (X:Cx) (scope:e7) (N':List Str) (nt:Nat) (ix:List Nat):Prop where
 kind:scope.kind=.function
 cel:∀ y∈scope.names,y.2=.cell->scope.names.lookup y.1=some .cell
 loc:∀ y∈scope.names,y.2=.local->scope.names.lookup y.1=some .local
 free:∀ y∈scope.names,y.2=.free->X.env.scope.names.lookup y.1=some .cell\/X.env.scope.names.lookup y.1=some .free
 cap:∀ k i,ix[k]?=some i->∃ x,X.N[i]?=some x/\N'[nt + k]?=some x/\scope.names.lookup x=some .free
 len:N'.length=nt + ix.length
def jb (nt:Nat) (ix:List Nat) (σ:St):St:=rE nt none++ix.map fun i=>(σ[i]?).join
theorem ro {env:Env}{x:Str}{names:List (Str×jt)}:names.lookup x=some .free ->
  (names.map fun (n,k)=>if (k == cj && env.scope.kind == .function && env.kindOf n == some .cell) then (n,dH) else (n,k)).lookup x=some .free \/
  (names.map fun (n,k)=>if (k == cj && env.scope.kind == .function && env.kindOf n == some .cell) then (n,dH) else (n,k)).lookup x=some .cell:=by
 induction names with
 | nil=>intro h;simp at h
 | cons nk r ih =>
  obtain ⟨n,k⟩:=nk
  intro h
  show x0 x ((if (k == cj && env.scope.kind == .function && env.kindOf n == some .cell)=true then (n,dH) else (n,k))::_)=_ \/
   x0 x ((if (k == cj && env.scope.kind == .function && env.kindOf n == some .cell)=true then (n,dH) else (n,k))::_)=_
  cases hx:x == n with
  | true =>
   simp only [cL,hx] at h
   cases h
   by_cases hc:(cj == cj && env.scope.kind == .function && env.kindOf n == some .cell)=true
   ·rw [if_pos hc];right;simp [cL,hx]
   ·rw [if_neg hc];left;simp [cL,hx]
  | false =>
   simp only [cL,hx] at h
   by_cases hc:(k == cj && env.scope.kind == .function && env.kindOf n == some .cell)=true
   ·rw [if_pos hc];simp only [cL,hx];exact ih h
   ·rw [if_neg hc];simp only [cL,hx];exact ih h
theorem t_ {env:Env}{x:Str}{names:List (Str×jt)} :
  ((names.map fun (n,k)=>if (k == cj && env.scope.kind == .function && env.kindOf n == some .cell) then (n,dH) else (n,k)).lookup x=some .free \/
  (names.map fun (n,k)=>if (k == cj && env.scope.kind == .function && env.kindOf n == some .cell) then (n,dH) else (n,k)).lookup x=some .cell) ->
  (x,cj)∈names\/(x,dH)∈names:=by
 induction names with
 | nil=>intro h;simp at h
 | cons nk r ih =>
  obtain ⟨n,k⟩:=nk
  intro h
  have h:x0 x ((if (k == cj && env.scope.kind == .function && env.kindOf n == some .cell)=true then (n,dH) else (n,k))::_)=_ \/
   x0 x ((if (k == cj && env.scope.kind == .function && env.kindOf n == some .cell)=true then (n,dH) else (n,k))::_)=_:=h
  cases hx:x == n with
  | true =>
   have e:x=n:=by simpa using hx
   subst e
   by_cases hc:(k == cj && env.scope.kind == .function && env.kindOf x == some .cell)=true
   ·have:k=.free:=by simp at hc;exact hc.1.1
    subst this;left;exact al
   ·rw [if_neg hc] at h;simp only [cL,hx] at h
    rcases h with h | h
    ·cases h;left;exact al
    ·cases h;right;exact al
  | false =>
   have h':=ih (by
    by_cases hc:(k == cj && env.scope.kind == .function && env.kindOf n == some .cell)=true
    ·rw [if_pos hc] at h;simp only [cL,hx] at h;exact h
    ·rw [if_neg hc] at h;simp only [cL,hx] at h;exact h)
   rcases h' with h' | h'
   ·left;exact aj _ h'
   ·right;exact aj _ h'
inductive Pt (nt:Nat) (ix:List Nat) (g:TG) (tt:TT) (te:TE) (σ:St) (Q:VK) (J:It) (H1:Hp):Prop
 | mk (W:Nat->Nat->List V->Hp->Prop) (w0:∃ m,W 0 m [] H1) (turn:∀ i m acc H,W i m acc H ->
 (J.stop i H/\∀ p,H p=none->Q (.ref p) (upd H p (.lst acc))) \/
 (J.go i H/\acc.length<sizeLine/\∀ x H',J.yld i H x H'->g x (jb nt ix σ) H' fun σ2 H2=>tt σ2 H2 fun b H3 =>
  if b=true then te σ2 H3 fun y H4=>∃ m',m'<m/\W (i + 1) m' (acc++[y]) H4 else ∃ m',m'<m/\W (i + 1) m' acc H3)):Pt nt ix g tt te σ Q J H1
def Ks (nt:Nat) (ix:List Nat) (wi:TI) (g:TG) (tt:TT) (te:TE):TE:=fun σ H Q=>wi σ H (Pt nt ix g tt te σ Q)
theorem iH:∀ (names:List (Str×jt)) (n:Nat) (acc:List (Str×ah)),bd n names acc=bd n names []++acc
 | [],_,_=>rfl
 | (y,k)::r,n,acc=>by
  unfold bd
  split
  ·rw [iH r (n + 1) ((y,n)::acc),iH r (n + 1) [(y,n)],dR];rfl
  ·exact iH r n acc
theorem mL {x:Str}{c:ah}:∀ (names:List (Str×jt)) (n:Nat) (acc:List (Str×ah)),(x,c)∈bd n names acc->(x,dH)∈names\/(x,c)∈acc
 | [],_,_,h=>.inr h
 | (y,k)::r,n,acc,h=>by
  unfold bd at h
  split at h
  ·rename_i hk
   have hk:k=.cell:=by simpa using hk
   rcases mL r _ _ h with z | z
   ·exact .inl (aj _ z)
   ·rcases List.mem_cons.mp z with z | z
    ·cases z;subst hk;exact .inl al
    ·exact .inr z
  ·exact (mL r _ _ h).imp (aj _) id
theorem kj {names:List (Str×jt)}{n:Nat}{cl:List (Str×ah)}{x:Str}{c:ah} (h:(bd n names cl).lookup x=some c) :
  (x,c)∈bd n names []\/((bd n names []).lookup x=none/\cl.lookup x=some c):=by
 rw [iH,Jv] at h
 cases e:(bd n names []).lookup x with
 | some d=>rw [e] at h;cases h;exact .inl (db e)
 | none=>rw [e] at h;exact .inr ⟨rfl,h⟩
theorem Gk {M:yT}{A:b6}{E:a8->ac->Prop}{s:ac}{scope:e7}{globals:ah}{cl:List (Str×ah)}{qual:Str}{func:Option ah}{code:a8}{outer:Env}{builtins:ah}{Q:Env->ac->Prop}
  (hQ:∀ h₁,h₁=pushCells (s.heap.push { cls:=.type "dict",data:=.dict #[] }) scope.names->Q (newEnv scope s.heap.objs.size globals (bd (s.heap.objs.size + 1) scope.names cl) qual func code (some outer) builtins) { s with heap:=h₁ }) :
  au M A (uQ scope globals cl [] qual func code (some outer) builtins) Q E s:=by
 simp only [uQ,G6,if_true]
 refine a7 (Nj ?_)
 refine a7 (wpAny_layCells _ (fun name kind cells=>by cases hkc:kind == dH<;>simp [hkc]) _ _ _ _ ?_)
 rw [show ({ s with heap:=s.heap.push { cls:=.type "dict",data:=.dict #[] } }:ac).heap.objs.size=s.heap.objs.size + 1 from ck ..]
 refine a7 ?_
 rw [rF]
 exact ae (ae (hQ _ rfl))
theorem zO (h:bp) (names:List (Str×jt)):CellsOk (pushCells (h.push { cls:=.type "dict",data:=.dict #[] }) names) (h.objs.size + 1) (bd (h.objs.size + 1) names []):=by
 have ok:=cellsFrom_ok names (h.push { cls:=.type "dict",data:=.dict #[] }) (h.objs.size + 1) [] ⟨fun _ _ hm=>(nomatch hm),zF⟩ (by rw [ck];exact ao _)
 rw [ck] at ok
 exact ok
section
variable {X:Cx}{pins:List (ah×Obj)}{σ:St}{H:Hp}{s:ac}
theorem Ch {scope:e7}{N':List Str}{nt:Nat}{ix:List Nat}{cl:List (Str×ah)}{C:ah}{fp:List ah}{h₁:bp}{t':Nat}{m:Str->Option a8}
  (S:mK X scope N' nt ix) (I:bQ X pins σ H s) (c1:∀ x c,cl.lookup x=some c->X.env.cells.lookup x=some c) (c2:∀ y∈scope.names,y.2=.free->∃ c,cl.lookup y.1=some c)
  (hf:∀ b∈fp,pR X pins H b) (ff:∀ b∈fp,b<s.heap.objs.size) (hC:s.heap.objs.size<=C) (hns:h₁.Ns C m) (old:∀ b o,s.heap.get? b=some o->h₁.get? b=some o) (ok:CellsOk h₁ (C + 1) (bd (C + 1) scope.names [])) :
  bQ (cK X N' scope (bd (C + 1) scope.names cl) C s H fp (X.pn++pins)) [] (jb nt ix σ) H { s with heap:=h₁,toks:=t' }:=by
 have cellOld:∀ {c v},s.heap.IsCell c v->h₁.IsCell c v:=fun {c v} ⟨o,ho,hd⟩=>⟨o,old _ _ ho,hd⟩
 have up:∀ {x c},(x,c)∈bd (C + 1) scope.names []->s.heap.objs.size<c:=fun {x c} h=>aJ (jC hC) (ok.empty x c h).2
 have low:∀ {x c},cl.lookup x=some c->c<s.heap.objs.size:=fun {x c} h=>by
  obtain ⟨v,q⟩:=I.cell x c (c1 x c h)
  exact q.lt
 refine ⟨⟨I.ok.mod,S.kind,I.ok.glob,I.ok.blt,hC,fun x y c h1 h2=>?_,fun x hx=>?_,fun x c h h2=>?_,I.ok.hd,I.ok.frames,.inl rfl,fun b hb=>⟨?_,fun x c h=>?_⟩,I.bs,bU I.ok.bsz I.sz,fun b o h hb=>?_,fun b hb z=>?_,I.stack,I.stkFree⟩,
  rfl,I.bare,Un.kept old,⟨m,hns,fun i x v h1 h2 h3=>?_⟩,fun x c h=>?_,I.hok.fresh hC,fun x c h=>?_,fun p hp=>?_,I.hok.kept old,?_⟩
 ·rcases kj h1 with a | ⟨_,a⟩<;>rcases kj h2 with b | ⟨_,b⟩
  ·exact name_of_addr ok.apart a b
  ·exact absurd (up a) (wj (low b))
  ·exact absurd (up b) (wj (low a))
  ·exact I.ok.inj x y c (c1 x c a) (c1 y c b)
 ·have hx':(x,cj)∈scope.names\/(x,dH)∈scope.names:=t_ (env:=X.env) (hx.elim .inr .inl)
  have hs:((bd (C + 1) scope.names cl).lookup x).isSome=true:=by
   rcases hx' with z | z
   ·obtain ⟨c,e⟩:=c2 _ z rfl
    exact gK _ _ _ (.inr (by rw [e];rfl))
   ·exact gK _ _ _ (.inl (S.cel _ z rfl))
  exact Option.isSome_iff_exists.mp hs
 ·rcases kj h2 with a | ⟨a,_⟩
  ·exact cc (up a)
  ·have:=gK (x:=x) scope.names (C + 1) [] (.inl (by simpa [cK] using h))
   rw [a] at this;cases this
 ·exact aE (aJ (ff b hb) hC)
 ·rcases kj h with a | ⟨_,a⟩
  ·exact eK (wg (ff b hb) (up a))
  ·exact (hf b hb).f4 x c (c1 x c a)
 ·rcases (hf b hb).f3 with z | z
  ·exact I.ok.noex b o h z
  ·exact absurd (aJ (am h) (bU I.ok.bsz z)) (bV _)
 ·rcases List.mem_cons.mp (I.stkSub b z) with e | e
  ·exact (hf b hb).f1 e
  ·exact (hf b hb).f2 e
 ·have hnt:nt<=i:=by
   refine Ni fun hlt=>?_
   have h2':(jb nt ix σ)[i]?=some (some v):=h2
   unfold jb at h2'
   rw [bg (by simpa using hlt),cf,if_pos hlt] at h2'
   cases h2'
  have h2':(jb nt ix σ)[i]?=some (some v):=h2
  unfold jb at h2'
  rw [aU (by simpa using hnt),cQ,aX] at h2'
  cases e:ix[i - nt]? with
  | none=>rw [e] at h2';cases h2'
  | some j =>
   rw [e] at h2'
   have hj:σ[j]?=some (some v):=by
    have q:(σ[j]?).join=some v:=bu h2'
    cases e3:σ[j]? with
    | none=>rw [e3] at q;cases q
    | some o=>rw [e3] at q;cases o with
     | none=>cases q
     | some v'=>cases q;rfl
   obtain ⟨x',n1,n2,fr⟩:=S.cap _ _ e
   rw [Nat.add_sub_cancel' hnt] at n2
   have h1':N'[i]?=some x:=h1
   rw [h1'] at n2
   cases n2
   obtain ⟨mm,hn,hl⟩:=I.loc
   have hfree:=S.free (x,.free) (db fr) rfl
   obtain ⟨u,r,l⟩:=hl j x v n1 hj (hfree.elim (fun z=>.inr (.inl z)) fun z=>.inr (.inr z))
   refine ⟨u,r,?_⟩
   rcases l with ⟨k,_⟩ | ⟨k,c,hc,hcell⟩
   ·have k:X.env.scope.names.lookup x=some .local:=k
    rcases hfree with z | z<;>(rw [z] at k;cases k)
   ·obtain ⟨c',hc'⟩:=c2 _ (db fr) rfl
    have:=c1 x c' hc'
    rw [hc] at this
    cases this
    have hno:(bd (C + 1) scope.names []).lookup x=none:=by
     cases e:(bd (C + 1) scope.names []).lookup x with
     | none=>rfl
     | some d =>
      rcases mL _ _ _ (db e) with z | z
      ·have q:=S.cel _ z rfl
       rw [fr] at q;cases q
      ·cases z
    refine .inr ⟨?_,c,by show (bd (C + 1) scope.names cl).lookup x=some c;rw [iH,Jv,hno];exact hc',cellOld hcell⟩
    rcases ro (env:=X.env) fr with z | z
    ·exact .inr z
    ·exact .inl z
 ·rcases kj h with a | ⟨_,a⟩
  ·exact ⟨none,(ok.empty x c a).1⟩
  ·obtain ⟨v,q⟩:=I.cell x c (c1 x c a)
   exact ⟨v,cellOld q⟩
 ·rcases kj h with a | ⟨_,a⟩
  ·exact I.hok.fresh (cc (up a))
  ·exact I.freeC x c (c1 x c a)
 ·have hp:p∈X.pn++pins:=(List.mem_append.mp hp).elim id fun z=>absurd z (by simp)
  obtain ⟨e,n,ne,nf,d⟩:=I.pin p hp
  refine ⟨old _ _ e,n,aE (aJ (am e) hC),fun z=>?_,d⟩
  rcases List.mem_cons.mp (I.stkSub p.1 z) with e | e
  ·exact ne e
  ·exact nf e
 ·show (jb nt ix σ).length=N'.length
  rw [S.len];simp [jb]
end
end
section
theorem Un.grow {fs ex:List ah}{H H1:Hp}{h h1 h2:bp} (u:Un fs ex H H1 h h1) {C D:ah}{o:HO} (sb:bG C h1 h2) (hC:h.objs.size<=C) (hD:h.objs.size<=D) (hn:H1 D=none):Un fs ex H (upd H1 D o) h h2 where
 keep:=fun b ob q n hb hx=>(sb.2 b (aE (aJ (am q) hC))).trans (u.keep b ob q n hb hx)
 slot:=fun b ob q n hb hx=>by
  obtain ⟨sl,e⟩:=u.slot b ob q n hb hx
  exact ⟨sl,(sb.2 b (aE (aJ (am q) hC))).trans e⟩
 free:=fun b ob q n hx=>by rw [bj (aE (aJ (am q) hD))];exact u.free b ob q n hx
 there:=fun b ob q hx=>by
  obtain ⟨o',e⟩:=u.there b ob q hx
  exact ⟨o',(sb.2 b (aE (aJ (am q) hC))).trans e⟩
 tups:=fun b xs q=>by have z:=u.tups b xs q;rw [bj (bA z hn)];exact z
 frzs:=fun b ob xs q=>by have z:=u.frzs b ob xs q;rw [bj (bA z hn)];exact z
 tbls:=fun b ps q=>by
  obtain ⟨m,z⟩:=u.tbls b ps q
  exact ⟨m,by rw [bj (bA z hn)];exact z⟩
theorem Ci {P:aK}{w:aY}{H:Hp}{h h':bp}{C:ah} (k:pC P w H h) (hC:H C=none) (sb:bG C h h'):pC P w H h':=fun b ob e=>by
 refine (k b ob e).stay (fun c w' hc q=>(sb.2 c ?_).trans q) (fun _ q=>q) fun _ _ q=>q
 rintro rfl
 rcases hc with rfl | hc
 ·rw [hC] at e;cases e
 ·rw [hC] at hc;cases hc
theorem v3 {P:aK}{w:aY}{H:Hp}{h:bp}{D:ah}{o:HO} (k:pC P w H h) (hD:H D=none) (new:dL P w (upd H D o) h D o):pC P w (upd H D o) h:=fun b ob e=>by
 by_cases hb:b=D
 ·subst hb;rw [bq] at e;cases e;exact new
 ·rw [bj hb] at e
  exact (k b ob e).stay (fun c w' hc q=>q) (fun c q=>by rw [bj (bA q hD)];exact q) fun c x q=>by rw [bj (bA q hD)];exact q
theorem nf {M:yT}{A:b6}{α:Type}{t:Sem α}{Q:α->ac->Prop}{E':a8->ac->Prop}{s:ac} (h:au M A t Q (fun _ _=>False) s):au M A t Q E' s :=
 bI h (fun _ _ q=>q) fun _ _ f=>f.elim
theorem bQ.pin1 {X:Cx}{σ:St}{H:Hp}{s:ac}{D:ah}{o:Obj} (I:bQ X [] σ H s) (e:s.heap.get? D=some o) (n:H D=none) (ne:D≠X.env.locals) (nf:D∉X.fs) (d:∀ v,o.data≠.cell v):bQ X [(D,o)] σ H s :=
 I.pins_of fun p hp=>by
  have:p=(D,o):=by simpa using hp
  subst this
  exact ⟨e,n,ne,nf,d⟩
def Pu (nt:Nat) (g:TG):Prop:=∀ x σ0 H (Q:St->Hp->Prop),g x σ0 H Q->g x σ0 H (fun σ2 H2=>Q σ2 H2/\σ2.length=σ0.length/\∀ j,nt<=j->σ2[j]?=σ0[j]?)
theorem Kt {nt i:Nat} (h:i<nt):Pu nt (vL i):=fun x σ0 H Q q=>⟨q,by simp,fun j hj=>ag (by omega)⟩
theorem O7 {nt i k n:Nat}{K:a6} (h:i<nt) (h':k<nt):Pu nt (Qz K n (aa (vL i) (aa (vL k) aG))):=by
 rintro x σ0 H Q ⟨a,xs,rfl,sq,hl,v,r,rfl,v',r',rfl,rfl,q⟩
 exact ⟨a,_,rfl,sq,hl,v,_,rfl,v',_,rfl,rfl,q,by simp,fun j hj=>by rw [ag (by omega),ag (by omega)]⟩
inductive Vv (X:Cx) (pins:List (ah×Obj)) (N':List Str) (scope:e7) (cl:List (Str×ah)) (C:ah) (s2:ac) (H2:Hp) (fp:List ah) (nt:Nat) (ix:List Nat) (σ:St) (tn:Nat->bp->Prop) (W:Nat->Nat->List V->Hp->Prop) (n:Nat) (s':ac):Prop
 | mk (i:Nat) (acc:List V) (its:List a8) (nn:Nat) (H':Hp) (I:bQ (cK X N' scope cl C s2 H2 fp (X.pn++pins)) [(s2.heap.objs.size,{ cls:=.type "list",data:=.seq its.toArray nn })] (jb nt ix σ) H' s') (v:cV acc its) (l:acc.length<=sizeLine) (t:tn i s'.heap) (f:∀ b∈fp,H' b=none) (w:W i n acc H'):Vv X pins N' scope cl C s2 H2 fp nt ix σ tn W n s'
theorem xp {X:Cx}{elt tg iter:aV}{ifs:List aV}{scope:e7}{pos:Pos}{g:TG}{tt:TT}{te:TE}{N':List Str}{nt:Nat}{ix:List Nat}
  (hc:X.calm=true) (S:mK X scope N' nt ix) (lo:Pu nt g)
  (hb:∀ cl C s₀ H₀ ex pn,PG (cK X N' scope cl C s₀ H₀ ex pn) tg g/\N7 (cK X N' scope cl C s₀ H₀ ex pn) ifs tt/\PE (cK X N' scope cl C s₀ H₀ ex pn) elt te)
  {cl:List (Str×ah)} (c1:∀ x c,cl.lookup x=some c->X.env.cells.lookup x=some c) (c2:∀ y∈scope.names,y.2=.free->∃ c,cl.lookup y.1=some c)
  {pins:List (ah×Obj)}{σ:St}{H2:Hp}{s2:ac}{it:ah}{fp:List ah}{tn:Nat->bp->Prop}{J:It}{Q:VK}{E:a8->ac->Prop}
  (I2:bQ X pins σ H2 s2) (T:xk X.prog X.w X.K tg J fp it tn) (st2:tn 0 s2.heap) (f2:∀ b∈fp,pR X pins H2 b)
  {W:Nat->Nat->List V->Hp->Prop} (w0:∃ m,W 0 m [] H2)
  (turn:∀ i m acc H,W i m acc H->(J.stop i H/\∀ p,H p=none->Q (.ref p) (upd H p (.lst acc))) \/
   (J.go i H/\acc.length<sizeLine/\∀ x H',J.yld i H x H'->g x (jb nt ix σ) H' fun σ2 H2=>tt σ2 H2 fun b H3 =>
    if b=true then te σ2 H3 fun y H4=>∃ m',m'<m/\W (i + 1) m' (acc++[y]) H4 else ∃ m',m'<m/\W (i + 1) m' acc H3))
  {RR:a8->ah->rZ->ac->Prop}
  (hRR:∀ D C m s' (acc:List V) H',H' D=none->pR X pins (upd H' D (.lst acc)) C->Q (.ref D) (upd H' D (.lst acc))->s'.heap.Ns C m->(∀ h',bG C s'.heap h'->bQ X pins σ (upd H' D (.lst acc)) { s' with heap:=h' })->RR (.ref D) C (.ok .next) s') :
  au (aP X.prog X.w) X.A (newList []) (fun acc s₃=>au (aP X.prog X.w) X.A (uQ scope X.env.globals cl [] X.env.qual none .none (some X.env)) (fun cenv s₄ =>
   iy (aP X.prog X.w) X.A (.compStart (.ListComp elt [⟨tg,iter,ifs,0⟩] scope pos) 0 (.ref it) acc { cenv with scope:=relabel scope X.env }) (RR acc cenv.locals) s₄) E s₃) E s2:=by
 refine cr (Gk fun h₁ hh₁=>?_)
 dsimp only at hh₁ ⊢
 generalize hG2:s2.heap.push { cls:=.type "list",dict:=none,data:=.seq ([] : List a8).toArray }=G2 at hh₁ ⊢
 have hC:G2.objs.size=s2.heap.objs.size + 1:=by rw [<- hG2,ck]
 have hDC:s2.heap.objs.size≠G2.objs.size:=by rw [hC];exact aE (dI _)
 have hCle:s2.heap.objs.size<=G2.objs.size:=by rw [hC];exact gj _
 have below:∀ b,b<s2.heap.objs.size->b≠G2.objs.size:=fun b hb=>by rw [hC];exact aE (eS hb)
 have kp:∀ b o,G2.get? b=some o->h₁.get? b=some o:=fun b o e=>by rw [hh₁];exact tq _ _ b o (af _ e)
 have hns₁:h₁.Ns G2.objs.size (fun _=>none):=by rw [hh₁];exact (Heap.Ns.new G2 (.type "dict")).keeps (tq _ _)
 have ok₁:CellsOk h₁ (G2.objs.size + 1) (bd (G2.objs.size + 1) scope.names []):=by rw [hh₁];exact zO G2 scope.names
 have cne:∀ x c,(bd (G2.objs.size + 1) scope.names cl).lookup x=some c->X.env.cells.lookup x=some c\/s2.heap.objs.size<c:=fun x c e=>by
  rcases kj e with a | ⟨_,a⟩
  ·exact .inr (aJ (jC hCle) (ok₁.empty x c a).2)
  ·exact .inl (c1 x c a)
 have old:∀ b o,s2.heap.get? b=some o->h₁.get? b=some o:=fun b o e=>kp b o (hG2 ▸ af _ e)
 have hacc:h₁.get? s2.heap.objs.size=some { cls:=.type "list",dict:=none,data:=.seq ([] : List a8).toArray }:=kp _ _ (hG2 ▸ aC _ rfl)
 have ff:∀ b∈fp,b<s2.heap.objs.size:=fun b hb=>by
  obtain ⟨o,e,_⟩:=T.obj _ _ st2 b hb
  exact am e
 have I3:bQ (cK X N' scope (bd (G2.objs.size + 1) scope.names cl) G2.objs.size s2 H2 fp (X.pn++pins)) [] (jb nt ix σ) H2 { s2 with heap:=h₁,toks:=s2.toks }:=Ch S I2 c1 c2 f2 ff hCle hns₁ old ok₁
 obtain ⟨pg,pt,pe⟩:=hb (bd (G2.objs.size + 1) scope.names cl) G2.objs.size s2 H2 fp (X.pn++pins)
 have hDfs:s2.heap.objs.size∉rK X.stack:=fun z=>by
  rcases List.mem_cons.mp (I2.stkSub _ z) with e | e
  ·exact absurd I2.lt (by rw [<- e];exact bV _)
  ·exact I2.nofs (ao _) e
 have nod:∀ (its:List a8) (n:Nat) v,({ cls:=.type "list",data:=.seq its.toArray n }:Obj).data≠.cell v:=fun _ _ _ z=>nomatch z
 have st1:tn 0 h₁:=T.keep _ _ _ st2 fun b _ o e=>old b o e
 have hDf:s2.heap.objs.size∉fp:=fun z=>absurd (ff _ z) (bV _)
 have stat:∀ {H':Hp}{pl:List (ah×Obj)},(∀ p∈pl,p.1∉fp)->(∀ b∈fp,H' b=none)->∀ b∈fp,pR (cK X N' scope (bd (G2.objs.size + 1) scope.names cl) G2.objs.size s2 H2 fp (X.pn++pins)) pl H' b:=fun hpl hn b hb=>by
  obtain ⟨f0,f1,f2',f3,f4,f5⟩:=f2 b hb
  refine ⟨hn b hb,below b (ff b hb),fun z=>?_,.inl hb,fun x c e=>(cne x c e).elim (f4 x c) fun q z=>wj q (by rw [z];exact ff b hb),fun p hp z=>?_⟩
  ·rcases List.mem_cons.mp (I2.stkSub _ z) with e | e
   ·exact f1 e
   ·exact f2' e
  ·rcases List.mem_append.mp hp with q | q
   ·exact f5 p q z
   ·exact hpl p q (z ▸ hb)
 obtain ⟨m0,w0⟩:=w0
 have loop:iy (aP X.prog X.w) X.A (.compLoop (.ListComp elt [⟨tg,iter,ifs,0⟩] scope pos) 0 (.ref it) (.ref s2.heap.objs.size) (compEnvC scope (bd (G2.objs.size + 1) scope.names cl) G2.objs.size X.env))
    (RR (.ref s2.heap.objs.size) G2.objs.size) { s2 with heap:=h₁,toks:=s2.toks }:=by
  refine AM (Vv X pins N' scope (bd (G2.objs.size + 1) scope.names cl) G2.objs.size s2 H2 fp nt ix σ tn W) ?_ m0
   ⟨0,[],[],0,H2,I3.pin1 hacc (I2.hok.fresh (ao _)) hDC hDfs (nod _ _),.nil,cn _,st1,fun b hb=>(f2 b hb).1,w0⟩
  rintro n s3 ⟨i,acc,its,nn,H3,J3,rv,hz,st3,fr3,w3⟩
  have plD:∀ p∈[(s2.heap.objs.size,({ cls:=.type "list",data:=.seq its.toArray nn }:Obj))],p.1∉fp:=fun p hp=>by
   have:p=(s2.heap.objs.size,({ cls:=.type "list",data:=.seq its.toArray nn }:Obj)):=by simpa using hp
   rw [this];exact hDf
  rcases turn i n acc H3 w3 with ⟨stop,qn⟩ | ⟨go,hlt,step⟩
  ·refine fO (T.done (cK X N' scope (bd (G2.objs.size + 1) scope.names cl) G2.objs.size s2 H2 fp (X.pn++pins)) rfl rfl rfl hc i _ s3 _ H3 _ J3 (stat plD fr3) st3 stop) fun r s4 h_0=>?_
   obtain ⟨hr,I4⟩:=h_0
   subst hr
   obtain ⟨pD,pN,_⟩:=I4.pin (s2.heap.objs.size,_) (aR _ (List.mem_singleton.mpr rfl))
   obtain ⟨mm,hn,_⟩:=I4.loc
   have hCn:H3 G2.objs.size=none:=I4.free
   refine hRR _ _ mm s4 acc H3 pN (I2.fpOk hCle (by rw [bj (cW hDC)];exact hCn)) (qn _ pN) hn fun h' sb=>?_
   have hu:Un (rK X.stack) fp H2 (upd H3 s2.heap.objs.size (.lst acc)) s2.heap h':=Un.grow I4.base sb hCle (ao _) pN
   refine I2.call' (s':={ s4 with heap:=h' }) (ch:=fp) I4.os hu ?_ I4.bare fun b hb=>?_
   ·refine v3 (Ci I4.hok hCn sb) pN ⟨hz,its,nn,rv,(sb.2 _ hDC).trans pD⟩
   ·obtain ⟨_,f1,_,f3,f4,f5⟩:=f2 b hb
    exact ⟨f3,f1,f4,f5⟩
  ·refine fO (T.item (cK X N' scope (bd (G2.objs.size + 1) scope.names cl) G2.objs.size s2 H2 fp (X.pn++pins)) rfl rfl rfl hc i _ s3 _ H3 _ J3 (stat plD fr3) st3 go) fun r s4 h_1=>?_
   obtain ⟨u,hr,h4⟩:=h_1
   subst hr
   refine fO h4 fun _ s5 h_2=>?_
   obtain ⟨x,H5,I5,r5,y5,st5,fr5⟩:=h_2
   have I5':=I5.pinned (stat plD fr5) (T.obj _ _ st5)
   refine fO (pg _ s5 _ H5 x u _ I5' r5 (lo _ _ _ _ (step x H5 y5))) fun _ s6 h_3=>?_
   obtain ⟨σ6,H6,I6,q6,l6,k6⟩:=h_3
   have hw:∀ (j:Nat) v,(jb nt ix σ)[j]?=some (some v)->σ6[j]?=some (some v):=fun j v e=>by
    by_cases hj:nt<=j
    ·rw [k6 j hj];exact e
    ·unfold jb at e
     rw [bg (by simpa using hj),cf,if_pos (by omega)] at e
     cases e
   refine fO (pt _ s6 σ6 H6 _ I6 q6) fun b s7 h_4=>?_
   obtain ⟨H7,I7,q7⟩:=h_4
   have fpk:∀ {s8:ac}{σ8:St}{H8:Hp},bQ (cK X N' scope (bd (G2.objs.size + 1) scope.names cl) G2.objs.size s2 H2 fp (X.pn++pins)) ([(s2.heap.objs.size,{ cls:=.type "list",data:=.seq its.toArray nn })]++uX fp s5.heap) σ8 H8 s8 ->
     tn (i + 1) s8.heap/\∀ b∈fp,H8 b=none:=fun {s8 σ8 H8} I8=>by
    refine ⟨T.keep _ _ _ st5 fun b hb o e=>(I8.pin (b,o) (aR _ (aR _ (jE hb e)))).1,fun b hb=>?_⟩
    obtain ⟨o,e,d⟩:=T.obj _ _ st5 b hb
    exact (I8.pin (b,o) (aR _ (aR _ (jE hb e)))).2.1
   cases b with
   | false =>
    simp only [bM,if_false] at q7 ⊢
    obtain ⟨m',hm,w7⟩:=q7
    obtain ⟨t7,f7⟩:=fpk I7
    exact ⟨m',hm,i + 1,acc,its,nn,H7,(I7.weak l6.symm hw).unpinned,rv,hz,t7,f7,w7⟩
   | true =>
    simp only [if_true] at q7 ⊢
    refine fO (pe _ s7 σ6 H7 _ I7 q7) fun u8 s8 h_5=>?_
    obtain ⟨y,H8,I8,r8,m',hm,w8⟩:=h_5
    obtain ⟨t8,f8⟩:=fpk I8
    obtain ⟨pD,pN,_⟩:=I8.pin (s2.heap.objs.size,_) (aR _ (eM _ (List.mem_singleton.mpr rfl)))
    have hl:=rv.length
    refine wpAny_list_append_plain ⟨nn,pD⟩ (hsz:=by rw [aM];omega) ?_
    intro h9 pl9 sb9
    obtain ⟨n9,e9⟩:=pl9
    have e9':h9.get? s2.heap.objs.size=some { cls:=.type "list",data:=.seq (its++[u8]).toArray n9 }:=by rw [e9];simp
    refine ⟨m',hm,i + 1,acc++[y],its++[u8],n9,H8,?_,rv.append (.cons r8 .nil),by rw [aH,du];omega,T.keep _ _ _ t8 fun b hb o e=>sb9.extBut b o (fun z=>hDf (z ▸ hb)) e,f8,w8⟩
    have I8':bQ (cK X N' scope (bd (G2.objs.size + 1) scope.names cl) G2.objs.size s2 H2 fp (X.pn++pins)) [] (jb nt ix σ) H8 s8:=(I8.weak l6.symm hw).pins_of fun p hp=>absurd hp (by simp)
    have I9:bQ (cK X N' scope (bd (G2.objs.size + 1) scope.names cl) G2.objs.size s2 H2 fp (X.pn++pins)) [] (jb nt ix σ) H8 { s8 with heap:=h9,toks:=s8.toks } :=
     I8'.turned (it:=s2.heap.objs.size) (fun b o hb e=>sb9.extBut b o hb e) pN hDC (.inr (ao _)) (fun x c e z=>by
      rcases cne x c e with e | e
      ·obtain ⟨v,q⟩:=I2.cell x c e
       exact absurd q.lt (by rw [z];exact bV _)
      ·exact absurd e (by rw [z];exact bV _)) fun p hp z=>by
      have hp:p∈X.pn++pins:=(List.mem_append.mp hp).elim id fun z=>absurd z (by simp)
      exact absurd (am (I2.pin p hp).1) (by rw [z];exact bV _)
    exact I9.pin1 e9' pN hDC hDfs (nod _ _)
 exact codeAny_compStart_list loop (T.self _ 0 _ _ _ st1 loop)
end
section
theorem Cj {X:Cx}{elt tg iter:aV}{ifs:List aV}{scope:e7}{pos:Pos}{wi:TI}{g:TG}{tt:TT}{te:TE}{N':List Str}{nt:Nat}{ix:List Nat}
  (hc:X.calm=true) (S:mK X scope N' nt ix) (lo:Pu nt g) (hi:PI X tg iter wi)
  (hb:∀ cl C s₀ H₀ ex pn,PG (cK X N' scope cl C s₀ H₀ ex pn) tg g/\N7 (cK X N' scope cl C s₀ H₀ ex pn) ifs tt/\PE (cK X N' scope cl C s₀ H₀ ex pn) elt te)
  (hs:∀ x,ed iter X.env x=pure x:=by intro _;rfl):PE X (.ListComp elt [⟨tg,iter,ifs,0⟩] scope pos) (Ks nt ix wi g tt te):=by
 intro pins s σ H Q I h
 obtain ⟨cl,hcl,c1,c2⟩:=sg (scope:=scope) (env:=X.env) fun y hy hf=>I.ok.has y.1 (S.free y hy hf)
 rw [eval_ListComp]
 refine pJ (use:=none) rfl hs hcl S.kind S.loc (fO (hi pins s σ H _ I h) fun v s1 h1=>fO h1 fun itv s2 h2=>?_)
 obtain ⟨it,fp,tn,J,H2,e,I2,T,st2,f2,W,w0,turn⟩:=h2
 subst e
 refine xp (RR:=fun acc C=>compPost (aP X.prog X.w) X.A X.xe none (EP X pins σ Q) acc C) hc S lo hb c1 c2 I2 T st2 f2 w0 turn ?_
 intro D C m s' acc H' hD _ q hn hI
 exact ⟨m,hn,fun h' sb=>⟨.ref D,_,hI h' sb,rfl,q⟩⟩
def Sr (i:Nat) (te:TE):TS:=fun D σ H=>te σ H fun x H1=>D.nx (σ.set i (some x)) H1
theorem EV {X:Cx}{elt tg iter:aV}{ifs:List aV}{scope:e7}{pos spos py:Pos}{wi:TI}{g:TG}{tt:TT}{te:TE}{N':List Str}{nt:Nat}{ix:List Nat}{i:Nat}{y:Str}
  (hN:X.N.Nodup) (hiN:X.N[i]?=some y) (hy:X.env.scope.names.lookup y=some .local)
  (hc:X.calm=true) (S:mK X scope N' nt ix) (lo:Pu nt g) (hi:PI X tg iter wi)
  (hb:∀ cl C s₀ H₀ ex pn,PG (cK X N' scope cl C s₀ H₀ ex pn) tg g/\N7 (cK X N' scope cl C s₀ H₀ ex pn) ifs tt/\PE (cK X N' scope cl C s₀ H₀ ex pn) elt te)
  (hsw:fQ (.ListComp elt [⟨tg,iter,ifs,0⟩] scope pos) (some (.Name y py)) spos.line X.env=pure true:=by rfl)
  (hs:∀ x,ed iter X.env x=pure x:=by intro _;rfl):PS X (.Assign [.Name y py] (.ListComp elt [⟨tg,iter,ifs,0⟩] scope pos) spos) (Sr i (Ks nt ix wi g tt te)):=by
 intro pins s σ H D I h
 obtain ⟨cl,hcl,c1,c2⟩:=sg (scope:=scope) (env:=X.env) fun y hy hf=>I.ok.has y.1 (S.free y hy hf)
 rw [exec_Assign_Name_used _ _ _ _ hsw]
 refine a7 (js (a7 ?_))
 show au _ X.A (do let _ <- comprehension (.ListComp elt [⟨tg,iter,ifs,0⟩] scope pos) scope X.env _ (newList []) false (cR iter X.env) (some (pH (.Name y py) X.env))) _ _ s
 refine a7 (bI (pJ (use:=some (pH (.Name y py) X.env)) (Q:=fun _ s'=>SP X pins D .next s') rfl hs hcl S.kind S.loc
  (fO (hi pins s σ H _ I h) fun v s1 h1=>fO h1 fun itv s2 h2=>?_)) (fun _ s' hq=>ae (ae hq)) fun _ _ e=>e)
 obtain ⟨it,fp,tn,J,H2,e,I2,T,st2,f2,W,w0,turn⟩:=h2
 subst e
 refine xp (Q:=fun x H1=>D.nx (σ.set i (some x)) H1) (RR:=fun acc C=>compPost (aP X.prog X.w) X.A X.xe (some (pH (.Name y py) X.env)) (fun _ s'=>SP X pins D .next s') acc C) hc S lo hb c1 c2 I2 T st2 f2 w0 turn ?_
 intro L C m s' acc H' hD fC q hn hI
 show au _ X.A (pH (.Name y py) X.env (.ref L)) _ _ _
 have I3:bQ X pins σ (upd H' L (.lst acc)) s':=hI s'.heap (.refl ..)
 refine wpAny_assign_Name (zH I3 hN hiN (.inl hy) (v:=.ref L) rfl (fun s4 I4 ⟨a,sb,ha⟩=>?_) (.inr hy))
 obtain ⟨g0,g1,g2,g3,g4,g5⟩:=fC
 have hCa:C≠a:=by
  rcases ha with z | z
  ·rw [z];exact g1
  ·exact fun e=>g4 y a z e.symm
 refine ⟨m,hn.sameBut sb hCa,fun h5 sb5=>?_⟩
 exact ⟨_,_,I4.turned (t':=s4.toks) (fun b o hb e=>(sb5.2 b hb).trans e) g0 g1 g3 g4 g5,q⟩
end
section
def jv (e:Int×a8):Str:=match e.2 with
 | .str x _=>x
 | _=>⟨#[]⟩
def si (w:aY) (e:Int×a8):Prop:=∃ x tk,e=(hashStr w x,jd x tk)
structure cP (w:aY) (h:bp) (a:ah) (es:Array (Int×a8)) (ep:Nat) (t:ef):Prop where
 at_:h.get? a=some { cls:=.type "set",dict:=none,data:=.set es ep t }
 txt:∀ e∈es.toList,si w e
 nd:(es.toList.map jv).Nodup
 few:es.size<io
 fits:t.fits es.size=true
 led:t.led=!w.params.followText "set-order"
 pl:es.size=0\/t.plain=false
inductive kH (w:aY) (h:bp) (a:ah) (ss:List Str):Prop
 | mk (es ep t:_) (h0:cP w h a es ep t) (h1:(es.toList.map jv).Perm ss):kH w h a ss
theorem EW (t:ef) (es:Array (Int×a8)) (h:Int) (x:a8):(layNew t es h x).2.1.led=t.led:=by
 unfold layNew
 cases t.freeSlot h with
 | none=>rfl
 | some p =>
  obtain ⟨slot,d⟩:=p
  show ((t.put slot).1.orStandIn _).led=_
  unfold Ee
  split<;>rfl
theorem AN (t:ef) (es:Array (Int×a8)) (h:Int) (x:a8):t.plain=false->(layNew t es h x).2.1.plain=false:=by
 intro hp
 unfold layNew
 cases t.freeSlot h with
 | none=>rfl
 | some p =>
  obtain ⟨slot,d⟩:=p
  show ((t.put slot).1.orStandIn _).plain=_
  unfold Ee
  split
  ·exact hp
  ·rfl
theorem Ck {t t':ef}{hs:Array Int}{n:Nat}{o:Array Nat} (h:t.relaid hs n=some (t',o)):t'.led=t.led/\t'.plain=t.plain:=by
 unfold HJ yP at h
 cases e:tu (cm n - 1) hs with
 | none=>rw [e] at h;cases h
 | some ow =>
  rw [e] at h
  have h:=bu h
  have h1:=congrArg Prod.fst h
  subst h1
  exact ⟨rfl,rfl⟩
theorem Ik (t:ef) (es:Array (Int×a8)) (n:Nat):(uR t es n).2.1.led=t.led/\(t.plain=false->(uR t es n).2.1.plain=false):=by
 unfold uR
 cases e:t.relaid (es.map (·.1)) n with
 | none=>exact ⟨rfl,fun _=>rfl⟩
 | some p =>
  obtain ⟨t',o⟩:=p
  obtain ⟨h1,h2⟩:=Ck e
  dsimp only
  split
  ·exact ⟨h1,fun h=>h2.trans h⟩
  ·exact ⟨rfl,fun _=>rfl⟩
theorem Ku {w:aY}{P:aK}{l:List (Int×a8)} (h:∀ e∈l,si w e):ElemsOf (strKind P w) l:=fun e he=>by
 obtain ⟨x,tk,rfl⟩:=h e he
 exact ⟨⟨x,by simp [PySem.strKind,t6],rfl⟩,rfl⟩
theorem U8 (P:aK) (w:aY) (x:Str) (tk:Tok):(strKind P w).is x (.str x tk)=true:=by simp [PySem.strKind,t6]
theorem Gm {P:aK}{w:aY}{e:Int×a8} (h:si w e) (x:Str):(strKind P w).is x e.2=true↔jv e=x:=by
 obtain ⟨y,tk,rfl⟩:=h
 constructor
 ·intro q
  have:=(strKind P w).inj _ _ _ q (U8 P w y tk)
  rw [this];rfl
 ·rintro rfl
  exact U8 P w _ tk
section
variable {P:aK}{w:aY}{A:b6}{E:a8->ac->Prop}{s:ac}
theorem qL {h:bp}{a:ah}{es es':Array (Int×a8)}{ep:Nat}{t t':ef} (I:cP w h a es ep t):(h.update a (pK es' t')).get? a=some { cls:=.type "set",dict:=none,data:=.set es' (ep + 1) t' }:=by
 have q:=gZ (pK es' t') I.at_ rfl
 exact q
theorem zP {a:ah}{ss:List Str}{x:Str}{tk:Tok}{Q:Bool->ac->Prop} (hS:kH w s.heap a ss) (hr:ss.length + 1<io)
  (h:∀ h' tk',bG a s.heap h'->kH w h' a (if x∈ss then ss else ss++[x])->Q (!decide (x∈ss)) { s with heap:=h',toks:=tk' }) :
  au (aP P w) A (setAddHashed a (.str x tk) ((strKind P w).hash x)) Q E s:=by
 obtain ⟨es,ep,t,I,pm⟩:=hS
 have hlen:es.size=ss.length:=by rw [<- pm.length_eq,av,ar]
 have hel:ElemsOf (strKind P w) es.toList:=Ku I.txt
 unfold setAddHashed setAddHashedIn
 refine e6 (a7 (bv (s:=s) I.at_ rfl I.fits ?_))
 dsimp only
 rw [byScan_of rfl I.few hel]
 rw [if_pos rfl]
 unfold setAddByScan
 refine a7 (a7 (gJ (a7 (wpAny_setScan_of (s:=s) (U8 P w x tk) I.at_ rfl I.fits hel ?_))))
 have inmem:x∈ss↔∃ e∈es.toList,(strKind P w).is x e.2=true:=by
  rw [<- pm.mem_iff,List.mem_map]
  constructor
  ·rintro ⟨e,he,q⟩;exact ⟨e,he,(Gm (I.txt e he) x).mpr q⟩
  ·rintro ⟨e,he,q⟩;exact ⟨e,he,(Gm (I.txt e he) x).mp q⟩
 cases hf:List.findIdx? (fun e=>(strKind P w).is x e.2) es.toList with
 | some j =>
  obtain ⟨hj,hp,_⟩:=List.findIdx?_eq_some_iff_getElem.mp hf
  have hin:x∈ss:=inmem.mpr ⟨_,iz hj,hp⟩
  have q:=h s.heap s.toks (.refl ..) (by rw [if_pos hin];exact ⟨es,ep,t,I,pm⟩)
  rw [decide_eq_true hin] at q
  exact ae (ae q)
 | none =>
  have hout:x∉ss:=fun z=>by
   obtain ⟨e,he,q⟩:=inmem.mp z
   rw [List.findIdx?_eq_none_iff.mp hf e he] at q
   cases q
  have h:=fun h' tk' sb=>h h' tk' sb
  rw [decide_eq_false hout,if_neg hout] at h
  have p1:=layNew_perm t es ((strKind P w).hash x) (.str x tk)
  have f1:=layNew_fits t es ((strKind P w).hash x) (.str x tk)
  have l1:=EW t es ((strKind P w).hash x) (.str x tk)
  have q1:=AN t es ((strKind P w).hash x) (.str x tk)
  generalize layNew t es ((strKind P w).hash x) (.str x tk)=L at p1 f1 l1 q1 ⊢
  obtain ⟨es1,t1,wd,gv⟩:=L
  dsimp only at p1 f1 l1 q1 ⊢
  rw [Jw] at p1
  have tx1:∀ e∈es1.toList,si w e:=fun e he=>by
   rcases List.mem_append.mp (p1.mem_iff.mp he) with z | z
   ·exact I.txt e z
   ·rw [dE] at z;exact ⟨x,tk,z⟩
  have km:(es1.toList.map jv).Perm (ss++[x]):=(p1.map jv).trans (by rw [bN];exact pm.append_right _)
  have nd1:(ss++[x]).Nodup:=by
   rw [JV]
   exact ⟨pm.nodup_iff.mp I.nd,by simp,fun y hy z hz e=>hout (by rw [dE] at hz;rw [<- hz,<- e];exact hy)⟩
  have sz1:es1.size=es.size + 1:=by rw [<- ar,p1.length_eq,aH,ar];rfl
  have few1:es1.size<io:=by omega
  have gw:∀ (b:Bool) {s₁:ac}{Q':Unit->ac->Prop},Q' () s₁->au (aP P w) A (match b with | true=>rule "set.scan.the-table-gave-way" | false=>pure ()) Q' E s₁ :=
   fun b _ _ z=>by cases b<;>first | exact ae z | exact gJ z
  have tail:∀ t2:ef,t2.fits es1.size=true->t2.led=t.led->t2.plain=false->au (aP P w) A (do
    storeSet a es1 t2
    if (!wd && t2.tooFull)=true then do
      (match (uR t2 es1 (g_ es1.size)).2.2 with | true=>rule "set.scan.the-table-gave-way" | false=>pure ())
      storeSet a (uR t2 es1 (g_ es1.size)).1 (uR t2 es1 (g_ es1.size)).2.1
      pure (some true)
     else pure (some true)) (fun r s'=>r=some true/\Q true s') E s:=fun t2 f2 l2 n2=>by
   refine a7 (iA (s:=s) I.at_ rfl ?_ (fk few1))
   have at1:=qL (es':=es1) (t':=t2) I
   have sb1:=bS s.heap a (pK es1 t2)
   have I1:cP w (s.heap.update a (pK es1 t2)) a es1 (ep + 1) t2:=⟨at1,tx1,km.nodup_iff.mpr nd1,few1,f2,l2.trans I.led,.inr n2⟩
   split
   ·have p2:=relayAll_perm t2 es1 (g_ es1.size)
    have f3:=relayAll_fits t2 es1 (g_ es1.size)
    have l3:=Ik t2 es1 (g_ es1.size)
    generalize uR t2 es1 (g_ es1.size)=R3 at p2 f3 l3 ⊢
    obtain ⟨es2,t3,gv2⟩:=R3
    dsimp only at p2 f3 l3 ⊢
    have few2:es2.size<io:=by rw [<- ar,p2.length_eq,ar];exact few1
    have km2:=(p2.map jv).trans km
    refine a7 (gw _ (a7 (iA (s:={ s with heap:=s.heap.update a (pK es1 t2) }) I1.at_ rfl ?_ (fk few2))))
    refine ae ⟨rfl,h _ _ (sb1.trans (bS _ a _)) ⟨es2,ep + 1 + 1,t3,⟨qL I1,fun e he=>tx1 e (p2.mem_iff.mp he),km2.nodup_iff.mpr nd1,few2,f3,l3.1.trans (l2.trans I.led),.inr (l3.2 n2)⟩,km2⟩⟩
   ·exact ae ⟨rfl,h _ _ sb1 ⟨es1,ep + 1,t2,I1,km⟩⟩
  refine a7 (gw gv ?_)
  cases hp:t1.plain with
  | true =>
   simp only [if_true]
   rw [hashByValue_scannable 8 (x:=.str x tk) rfl]
   refine a7 (ae ?_)
   refine bI (tail { t1 with plain:=false } (by cases t1;exact f1) l1 rfl) (fun r s' z=>?_) fun _ _ z=>z
   obtain ⟨rfl,z⟩:=z
   exact ae z
  | false =>
   simp only [bM,if_false]
   refine a7 (ae ?_)
   refine bI (tail t1 f1 l1 hp) (fun r s' z=>?_) fun _ _ z=>z
   obtain ⟨rfl,z⟩:=z
   exact ae z
theorem Cm {a:ah}{ss:List Str}{x:Str}{tk:Tok}{Q:Bool->ac->Prop} (hS:kH w s.heap a ss) (hr:ss.length + 1<io)
  (h:∀ h' tk',bG a s.heap h'->kH w h' a (if x∈ss then ss else ss++[x])->Q (!decide (x∈ss)) { s with heap:=h',toks:=tk' }) :
  au (aP P w) A (setAdd a (.str x tk)) Q E s:=by
 unfold setAdd
 refine e6 (a7 ((strKind P w).pyHash (k:=x) (U8 P w x tk) ?_))
 exact zP (s:={ s with toks:=s.toks + 1 }) hS hr h
end
end
section
abbrev eW (w:aY):Obj:={ cls:=.type "set",dict:=none,data:=.set #[] 0 (.fresh 0 0 (!w.params.followText "set-order")) }
theorem zQ (w:aY) {h:bp}{a:ah} (e:h.get? a=some (eW w)):kH w h a [] :=
 ⟨#[],0,_,⟨e,fun e he=>by simp at he,by simp,by decide,rfl,rfl,.inl rfl⟩,by simp⟩
def cY:List Str->List Str->List Str
 | acc,[]=>acc
 | acc,x::r=>cY (if x∈acc then acc else acc++[x]) r
theorem i8:∀ (l acc:List Str) (x:Str),x∈cY acc l↔x∈acc\/x∈l
 | [],acc,x=>by simp [cY]
 | y::r,acc,x=>by
  rw [cY,i8 r]
  by_cases h:y∈acc
  ·rw [if_pos h];simp only [aZ]
   constructor
   ·exact fun z=>z.elim .inl fun z=>.inr (.inr z)
   ·rintro (z | z | z)
    ·exact .inl z
    ·exact .inl (z ▸ h)
    ·exact .inr z
  ·rw [if_neg h];simp [pL,or_assoc]
theorem hZ:∀ (l acc:List Str),acc.Nodup->(cY acc l).Nodup
 | [],acc,h=>h
 | y::r,acc,h=>by
  rw [cY]
  refine hZ r _ ?_
  by_cases hy:y∈acc
  ·rw [if_pos hy];exact h
  ·rw [if_neg hy,JV]
   exact ⟨h,by simp,fun a ha b hb e=>hy (by rw [dE] at hb;rw [<- hb,<- e];exact ha)⟩
theorem eX:∀ (l acc:List Str),(cY acc l).length<=acc.length + l.length
 | [],acc=>by simp [cY]
 | y::r,acc=>by
  rw [cY]
  have:=eX r (if y∈acc then acc else acc++[y])
  by_cases hy:y∈acc
  ·rw [if_pos hy] at this ⊢;simp only [aW];omega
  ·rw [if_neg hy] at this ⊢;simp only [aW,aH,du,c7] at this ⊢;omega
section
variable {prog:aK}{w:aY}{A:b6}{E:a8->ac->Prop}{s:ac}{R:rZ->ac->Prop}
theorem kH.keep {h h':bp}{a:ah}{ss:List Str} (x:kH w h a ss) (k:∀ o,h.get? a=some o->h'.get? a=some o):kH w h' a ss :=
 let ⟨es,ep,t,I,p⟩:=x;⟨es,ep,t,⟨k _ I.at_,I.txt,I.nd,I.few,I.fits,I.led,I.pl⟩,p⟩
theorem zc {I:ah}{fp wr:List ah}{n:Nat}{Pv:Nat->a8->Prop}{St:Nat->bp->Prop} (W:Jx prog w A.in1 I fp wr n Pv St) (D:ah) (hD:D∉fp) (xs:List Str) (hx:xs.length=n)
  (hv:∀ i v,Pv i v->∃ x t,xs[i]?=some x/\v=.str x t) (hb:n + 1<io) :
  ∀ (k i:Nat) (s:ac) (acc:List Str),n - i=k->i<=n->acc.length<=i->St i s.heap->kH w s.heap D acc ->
   (∀ h' tk,(∀ b o,b∉D::wr->s.heap.get? b=some o->h'.get? b=some o)->kH w h' D (cY acc (xs.drop i))->R (.ok (.ret .none)) { s with heap:=h',toks:=tk }) ->
   iy (aP prog w) A (.builtin "set.update.loop" ⟨[.ref D,.ref I],[]⟩) R s:=by
 have hDw:D∉wr:=fun z=>hD (W.sub _ z)
 intro k
 induction k with
 | zero =>
  intro i s acc hk hi hl st hS hR
  obtain rfl:i=n:=by omega
  refine gD nK ?_
  rw [eJ gU _]
  show au _ A.in1 (mF (.ref I) >>= _) _ _ s
  refine a7 (W.done s _ _ st fun h' tk kp=>?_)
  refine ae (hR h' tk (fun b o hb e=>kp b o (fun z=>hb (aj _ z)) e) ?_)
  rw [Ef (by omega)]
  exact hS.keep fun o e=>kp D o hDw e
 | succ k ih =>
  intro i s acc hk hi hl st hS hR
  have hlt:i<n:=by omega
  refine gD nK ?_
  rw [eJ gU _]
  show au _ A.in1 (mF (.ref I) >>= _) _ _ s
  refine a7 (W.item i s _ _ hlt st fun v h' tk hP st' kp=>?_)
  obtain ⟨x,t,hxi,rfl⟩:=hv i v hP
  have hS':kH w h' D acc:=hS.keep fun o e=>kp D o hDw e
  refine a7 (e6 (Cm (s:={ s with heap:=h',toks:=tk }) hS' (by omega) fun h2 tk2 sb hS2=>?_))
  refine ae ⟨lS gU _,ih (i + 1) _ (if x∈acc then acc else acc++[x]) (by omega) hlt ?_ (W.frame _ _ _ st' fun b hb o e=>?_) hS2 fun h3 tk3 k3 hS3=>?_⟩
  ·by_cases z:x∈acc
   ·rw [if_pos z];omega
   ·rw [if_neg z,aH,du];omega
  ·rw [sb.2 b fun z=>hD (z ▸ hb)];exact e
  ·refine hR h3 tk3 (fun b o hb e=>k3 b o hb ?_) ?_
   ·rw [sb.2 b fun z=>hb (by rw [z];exact al)]
    exact kp b o (fun z=>hb (aj _ z)) e
   ·have hd:xs.drop i=x::xs.drop (i + 1):=by
     obtain ⟨h1,h2⟩:=List.getElem?_eq_some_iff.mp hxi
     rw [Ay h1,h2]
    rw [hd,cY];exact hS3
theorem Kv (a:a8) {Q₁:a8->ac->Prop} (h:Q₁ (.ref s.heap.objs.size) { s with heap:=s.heap.push (eW w) }) :
  iy (aP prog w) A (.call (.builtin "set.__new__") ⟨[.type "set",a],[]⟩) (wants Q₁ E) s:=by
 refine C1 ?_
 show au _ A.in1 (do checkBuiltinCall "set.__new__" ⟨[.type "set",a],[]⟩;again (.builtin "set.__new__" ⟨[.type "set",a],[]⟩)) _ _ s
 refine a7 (Nk (F.newCall_set_1 a) (ae ⟨lS F.plain_set_new _,gD F.entry_set_new ?_⟩))
 rw [eJ F.plain_set_new _]
 unfold jw.«set.__new__» Nl
 have hsub:=JX
 obtain ⟨hp,g,d,tk,os⟩:=s
 dsimp only
 wp_walk
 refine gQ (ae ?_)
 dsimp only
 simp only [newObj]
 refine a7 (Nj (ae ?_))
 exact ae h
structure QY (prog:aK) (w:aY) (A:b6) (T:String) (l:ah) (o:Obj) (items:Array a8):Prop where
 ty:o.cls=.type T
 s1:isSubtype (.type T) (.type "set")=pure false
 s2:isSubtype (.type T) (.type "frozenset")=pure false
 nd:(i5 T == i5 "dict")=false
 iter:∀ (s:ac) (Q:a8->ac->Prop) (E:a8->ac->Prop),s.heap.get? l=some o ->
  (∀ ob St,Jx prog w A.in1 s.heap.objs.size [s.heap.objs.size,l] [s.heap.objs.size] items.size (fun i v=>items[i]?=some v) St->St 0 (s.heap.push ob)->Q (.ref s.heap.objs.size) { s with heap:=s.heap.push ob })->au (aP prog w) A (Aw (.ref l)) Q E s
theorem u0 {T:String}{l:ah}{ol:Obj}{items:Array a8}{xs:List Str}{Q:a8->ac->Prop}
  (src:QY prog w A.in1.in1 T l ol items) (hol:s.heap.get? l=some ol) (hi:∀ (i:Nat) (v:a8),items[i]?=some v->∃ x t,xs[i]?=some x/\v=jd x t) (hx:xs.length=items.size) (hb:items.size + 1<io)
  (h:∀ (h':bp) (tk:Nat),kH w h' s.heap.objs.size (cY [] xs)->(∀ b o,s.heap.get? b=some o->h'.get? b=some o)->Q (.ref s.heap.objs.size) { s with heap:=h',toks:=tk }) :
  au (aP prog w) A (call (.type "set") [.ref l]) Q E s:=by
 obtain ⟨c,tl,hmro⟩:=F.called_set.mro
 have hmade:=F.called_set.made
 have hsub:=F.called_set.sub
 refine wpAny_call (C1 ?_)
 show au _ _ (callAny (.type "set") _) _ _ _
 refine ae ⟨Code.quiet_builtin _ (by decide +kernel),gD F.entry_type_call ?_⟩
 rw [Around.under_plain (weight_type_call_type "set" [.ref l] []) rfl]
 have h1:=F.called_set.notType
 have h2:=F.called_set.canCreate
 have hct:=F.typeCall_set_1 (.ref l)
 repeat (any_goals (first | assumption | wp_step))
 refine r_ (Kv (.ref l) (E:=E) (Q₁:=fun obj s₁=>obj=.ref s.heap.objs.size/\s₁={ s with heap:=s.heap.push (eW w) }) ⟨rfl,rfl⟩) fun r s₁ hr=>?_
 cases r with
 | error e=>exact hr
 | ok fl =>
  cases fl with
  | ret obj =>
   obtain ⟨rfl,rfl⟩:=hr
   have hS:(s.heap.push (eW w)).get? s.heap.objs.size=some (eW w):=aC _ rfl
   have hT:Nm { s with heap:=s.heap.push (eW w) } (.ref s.heap.objs.size) "set":=⟨_,hS,rfl⟩
   have hli:=F.called_set.init.lookup
   have hbi:=F.called_set.init.bind (.ref s.heap.objs.size)
   repeat (any_goals (first | assumption | wp_step))
   refine r_ (codeAny_call_builtin (R:=wants (fun r s₂=>r=.none/\∃ h' tk,s₂={ s with heap:=h',toks:=tk }/\kH w h' s.heap.objs.size (cY [] xs) /\
     (∀ b o,s.heap.get? b=some o->h'.get? b=some o)) E) F.called_set.init.plain F.entry_set_init (check_set_init_1 hT ?_)) fun r₂ s₂ hr₂=>?_
   ·obtain ⟨oc,od,odt,os'⟩:=ol
    obtain ⟨ty,s1,s2,nd,iter⟩:=src
    have ty:oc=.type T:=ty
    subst ty
    have hol':(s.heap.push (eW w)).get? l=some { cls:=.type T,dict:=od,data:=odt,slots:=os' }:=af _ hol
    unfold jw.«set.__init__» noKeywords j7
    generalize hPI:Aw=PI
    wp_walk
    subst hPI
    refine iter { s with heap:=s.heap.push (eW w) } _ _ hol' fun ob St W st=>?_
    have hlS:l<s.heap.objs.size:=am hol
    refine a7 (wpAny_runValue ?_)
    have szp:(s.heap.push (eW w)).objs.size=s.heap.objs.size + 1:=ck ..
    refine zc (A:=A.in1.in1) W s.heap.objs.size (by rw [szp];simp only [aZ,aQ,or_false,not_or];exact ⟨aE (dI _),eK hlS⟩) xs hx hi hb items.size 0 _ [] (by omega) (cn _) (ao _) st (zQ w (af _ hS)) fun h' tk kp hS'=>?_
    show au _ _ _ _ _ _
    refine ae ?_
    show au _ _ (ret fG) _ _ _
    refine ae ⟨rfl,h',tk,rfl,hS',fun b o e=>kp b o ?_ (af _ (af _ e))⟩
    have:=am e
    rw [szp]
    simp only [aZ,aQ,or_false,not_or]
    exact ⟨aE this,aE (eS this)⟩
   ·cases r₂ with
    | error e=>exact hr₂
    | ok fl₂ =>
     cases fl₂ with
     | ret r =>
      obtain ⟨rfl,h',tk,rfl,hS',hk'⟩:=hr₂
      repeat (any_goals (first | assumption | wp_step))
      exact h _ _ hS' hk'
     | next=>exact hr₂.elim
     | brk=>exact hr₂.elim
     | cont=>exact hr₂.elim
  | next=>exact hr.elim
  | brk=>exact hr.elim
  | cont=>exact hr.elim
theorem Kw {l:ah}{o:Obj}{its:List a8} (hh:A.handled=none) (e0:o.cls=.type "list") (e1:∃ n,o.data=.seq its.toArray n):QY prog w A "list" l o its.toArray :=
 ⟨e0,F.sub_list_set,F.sub_list_frozenset,by decide,fun s Q E e h=>iw ⟨_,e,e0,e1⟩
  (h _ _ (tN (by simpa using hh) _ l (aE (am e)) its.toArray) ⟨⟨_,aC _ rfl,rfl,rfl⟩,⟨_,af _ e,e0,e1⟩⟩)⟩
theorem O8 {l:ah}{o:Obj}{its:List a8} (hh:A.handled=none) (e0:o.cls=.type "tuple") (e1:∃ n,o.data=.seq its.toArray n):QY prog w A "tuple" l o its.toArray :=
 ⟨e0,F.sub_tuple_set,F.sub_tuple_frozenset,by decide,fun s Q E e h=>fY ⟨_,e,e0,e1⟩
  (h _ _ (Walks.tuple (by simpa using hh) _ l (aE (am e)) its.toArray) ⟨⟨_,aC _ rfl,rfl,rfl⟩,⟨_,af _ e,e0,e1⟩⟩)⟩
end
end
end L2
section
namespace L2
open PySem PySem.Spec PyProof.Rows
namespace SI
theorem entry_iter:Ew table "set.__iter__"=some jw.«frozenset.__iter__» :=
 Ex (id':="frozenset.__iter__") (by kernel_rfl) rfl (by decide +kernel) (by kernel_rfl)
theorem slot_next:Slot "set_iterator" "__next__" "set_iterator.__next__":=by
 refine .of (owner:="set_iterator") (n:="__next__") ?_ ?_ ?_ ?_ ?_ ?_
 ·rw [C2,tO];kernel_rfl
 ·decide +kernel
 ·decide +kernel
 ·decide +kernel
 ·first
   | exact .inl (by decide +kernel)
   | exact .inr (by decide +kernel)
 ·rw [Ey];kernel_rfl
theorem entry_next:Ew table "set_iterator.__next__"=some jw.«set_iterator.__next__» :=
 entryFor_of_tree (by kernel_rfl)
theorem Co:Manifest.owners.lookup (String.ofList ['r','o','t','a','r','e','t','i','_','t','e','s'].reverse)=some Manifest.sig_set_iterator:=by kernel_rfl
theorem args_next (a:a8):argsOk "set_iterator.__next__" ⟨[a],[]⟩:=by
 unfold argsOk
 rw [signature?_of (id:="set_iterator.__next__") (n:=['_','_','t','x','e','n','_','_']) (o:=['r','o','t','a','r','e','t','i','_','t','e','s']) (by kernel_rfl) Co]
 kernel_rfl
theorem args_iter (a:a8):argsOk "set_iterator.__iter__" ⟨[a],[]⟩:=by
 unfold argsOk
 rw [signature?_of (id:="set_iterator.__iter__") (n:=['_','_','r','e','t','i','_','_']) (o:=['r','o','t','a','r','e','t','i','_','t','e','s']) (by kernel_rfl) Co]
 kernel_rfl
theorem entry_self:Ew table "set_iterator.__iter__"=some jw.«dict_keyiterator.__iter__» :=
 Ex (id':="dict_keyiterator.__iter__") (by kernel_rfl) rfl (by decide +kernel) (by kernel_rfl)
theorem slot_iter:Slot "set_iterator" "__iter__" "set_iterator.__iter__":=by
 refine .of (owner:="set_iterator") (n:="__iter__") ?_ ?_ ?_ ?_ ?_ ?_
 ·rw [C2,tO];kernel_rfl
 ·decide +kernel
 ·decide +kernel
 ·decide +kernel
 ·first
   | exact .inl (by decide +kernel)
   | exact .inr (by decide +kernel)
 ·rw [Ey];kernel_rfl
end SI
end L2
end
namespace L2
open PySem PySem.Spec PyProof.Rows
section
theorem jF {α:Type}:∀ {l:List α}{i:Nat} (h:i<l.length),(l[i]::l.eraseIdx i).Perm l
 | x::r,0,_=>.refl _
 | x::r,i + 1,h=>by
  have q:=jF (l:=r) (i:=i) (by simpa using h)
  rw [List.getElem_cons_succ,List.eraseIdx_cons_succ]
  exact (List.Perm.swap _ _ _).trans (q.cons x)
section
variable {M:yT}{A:b6}{E:a8->ac->Prop}{s:ac}
theorem Il {src:Source}{n:Nat}{Q:Nat->ac->Prop} (hn:n≠0) (h:∀ i d,i<n->Q i { s with drawn:=d }):au M A (choose src n) Q E s :=
 fun _ _ _=>⟨hn,h _ _ (Az _ (Nat.pos_of_ne_zero hn))⟩
theorem u3 {α:Type}:∀ (n:Nat) (xs:List α) (s:ac) (Q:List α->ac->Prop),n=xs.length->(∀ ys d,ys.Perm xs->Q ys { s with drawn:=d })->au M A (drawOrder n xs) Q E s
 | 0,xs,s,Q,hn,h=>by
  obtain rfl:xs=[]:=List.length_eq_zero_iff.mp hn.symm
  exact ae (h [] s.drawn .nil)
 | n + 1,[],s,Q,hn,h=>by cases hn
 | n + 1,x::r,s,Q,hn,h=>by
  show au M A (choose .order (x::r).length >>= _) Q E s
  refine a7 (Il (by simp) fun i d hi=>?_)
  rw [aL hi]
  refine a7 (u3 n _ _ _ (by rw [lX hi];omega) fun ys d' p=>ae ?_)
  exact h _ _ ((p.cons _).trans (jF hi))
end
theorem Gn {α:Type} (next:Nat->Nat):∀ (n k:Nat) (left:List α) (out:Array α),n=left.length->(yZ next n k left out).toList.Perm (out.toList++left)
 | 0,k,left,out,hn=>by
  obtain rfl:left=[]:=List.length_eq_zero_iff.mp hn.symm
  rw [yZ,cA]
 | n + 1,k,left,out,hn=>by
  have hl:next k % left.length<left.length:=Az _ (by omega)
  rw [yZ,aL hl]
  refine (Gn next n (k + 1) _ _ (by rw [lX hl];omega)).trans ?_
  rw [Jw,dR]
  exact (jF hl).append_left _
theorem v4 {α:Type} (next:Nat->Nat) (xs:Array α):(nL next xs).toList.Perm xs.toList:=by
 have:=Gn next xs.size 0 xs.toList #[] (by simp)
 simpa [nL] using this
def AO (h:bp) (I S:ah) (first:a8) (i n ep:Nat):Prop:=h.get? I=some { cls:=.type "set_iterator",data:=.fields #[first,.int i 0,.ref S,.int n 0,.int ep 0] }
section
variable {prog:aK}{w:aY}{A:b6}{E:a8->ac->Prop}{s:ac}{I S:ah}{es:Array (Int×a8)}{ep:Nat}{t:ef}{i n:Nat}{first:a8}
theorem AO.put {f f':a8}{j j':Nat}{k:Nat}{x:a8}{h:bp} (hit:AO h I S f j n ep) (e:(#[f,.int j 0,.ref S,.int n 0,.int ep 0] : Array a8).setIfInBounds k x=#[f',.int j' 0,.ref S,.int n 0,.int ep 0]) :
  AO (h.update I (fD (·.setIfInBounds k x))) I S f' j' n ep:=by
 have q:=gZ (fD (·.setIfInBounds k x)) hit rfl
 unfold AO
 rw [q]
 show some ({ cls:=.type "set_iterator",data:=.fields ((#[f,.int j 0,.ref S,.int n 0,.int ep 0] : Array a8).setIfInBounds k x) }:Obj)=_
 rw [e]
theorem qM {Q:Option a8->ac->Prop} (hit:AO s.heap I S first i n ep) (hS:cP w s.heap S es ep t) (hn:n=es.size)
  (h:au (aP prog w) A.in1 (do
   if let .int slot _:=first then
    match <- JY S slot.toNat i ep with
    | some (x,next) =>
     gR (.ref I) 0 (cu next)
     gR (.ref I) 1 (cu (i + 1))
     ret x
    | none=>gR (.ref I) 2 .none;uS (<- xa (.type "StopIteration") [])
   else
    let some places <- Jy first | No "internal:set_iterator"
    match places[i]? with
    | some (.int place _) =>
     let x <- setNextDrawn S place.toNat ep
     gR (.ref I) 1 (cu (i + 1))
     ret x
    | some _=>No "internal:set_iterator"
    | none=>gR (.ref I) 0 (cu 0);gR (.ref I) 2 .none;uS (<- xa (.type "StopIteration") []))
   (fun fin s'=>∃ v,fin=.done (.ret v)/\Q (some v) s') (fun e s'=>au (aP prog w) A (isInstance e (.type "StopIteration")) (fun b s''=>b=true/\Q none s'') E s') s) :
  au (aP prog w) A (mF (.ref I)) Q E s:=by
 unfold mF
 refine a7 (wH ?_)
 refine cX (name:=iC "__next__") ⟨_,hit,rfl⟩ SI.slot_next ?_
 refine cE SI.slot_next ⟨_,hit,rfl⟩ SI.entry_next ?_ (SI.args_next _)
 show au _ _ (fieldsOf (.ref I) >>= _) _ _ s
 refine a7 (wpAny_fieldsOf hit rfl ?_)
 show au _ _ (setEntries S >>= _) _ _ s
 refine a7 (wpAny_setEntries_of hS.at_ rfl hS.fits ?_)
 rw [if_neg (by rw [hn];simp)]
 refine bI h (fun fin s' z=>?_) fun e s' z=>?_
 ·obtain ⟨v,rfl,q⟩:=z
  exact ⟨v,rfl,ae q⟩
 ·refine a7 (bI z (fun b s'' ⟨hb,q⟩=>?_) fun _ _ z=>z)
  subst hb
  exact ae q
theorem AQ {B:b6}{Q:Option a8->ac->Prop}{Q':Fin->ac->Prop}{o:Obj}{vs:Array a8} (hh:B.handled=none) (ho:s.heap.get? I=some o) (hd:o.data=.fields vs) (hz:2<vs.size)
  (h:∀ h',Heap.ExtBut I s.heap h'->Q none { s with heap:=h' }) :
  au (aP prog w) B (do gR (.ref I) 2 .none;uS (<- xa (.type "StopIteration") []))
   Q' (fun e s'=>au (aP prog w) A (isInstance e (.type "StopIteration")) (fun b s''=>b=true/\Q none s'') E s') s:=by
 refine a7 (iS ho hd hz ?_)
 show au _ _ (xa (.type "StopIteration") [] >>= _) _ _ _
 refine a7 ?_
 simp only [xa,newTuple]
 refine a7 (cr ?_ (by size_fits))
 refine a7 (m:=uT _ _) (Nk (a:=fG) ?_ ?_)
 ·first
   | rfl
   | (simp only [uT];rfl)
 refine cr ?_ (by size_fits)
 simp only [uS]
 refine a7 (wpAny_handled ?_)
 rw [hh]
 refine a7 (ae (wpAny_throw ?_))
 refine j8 (T:="StopIteration") (b:=true) ⟨_,aC _ rfl,rfl⟩ Ez ⟨rfl,?_⟩
 exact h _ (((bS ..).extBut.push _).push _)
end
end
section
section
variable {prog:aK}{w:aY}{A:b6}{E:a8->ac->Prop}{s:ac}{I S:ah}{es:Array (Int×a8)}{ep:Nat}{t:ef}{i n:Nat}{first:a8}
theorem cP.keep {h h':bp} (x:cP w h S es ep t) (k:∀ o,h.get? S=some o->h'.get? S=some o):cP w h' S es ep t:=⟨k _ x.at_,x.txt,x.nd,x.few,x.fits,x.led,x.pl⟩
theorem AR {Q:a8->ac->Prop} (hit:AO s.heap I S first i n ep) (h:Q (.ref I) s):au (aP prog w) A (Aw (.ref I)) Q E s:=by
 refine wpAny_pyIter_slot ⟨_,hit,rfl⟩ SI.slot_iter (cE SI.slot_iter ⟨_,hit,rfl⟩ SI.entry_self ?_ (SI.args_iter _))
 show au _ _ (ret (.ref I)) _ _ s
 exact ae ⟨_,rfl,"set_iterator",_,⟨_,hit,rfl⟩,SI.slot_next.lookup,h⟩
theorem fe {Q:Bool->ac->Prop}{B:b6} (h:Q (w.params.followText "set-order") s):au (aP prog w) B setsByText Q E s:=by
 unfold setsByText
 exact a7 (gQ (ae h))
theorem Kx {B:b6}{Q':Fin->ac->Prop}{x:a8}{nx:Nat}{E':a8->ac->Prop} (hit:AO s.heap I S first i n ep)
  (h:∀ h',AO h' I S (.int nx 0) (i + 1) n ep->bG I s.heap h'->Q' (.done (.ret x)) { s with heap:=h' }) :
  au (aP prog w) B (do gR (.ref I) 0 (cu nx);gR (.ref I) 1 (cu (i + 1));ret x) Q' E' s:=by
 refine a7 (iS hit rfl (by simp) ?_)
 have h1:AO (s.heap.update I (fD (·.setIfInBounds 0 (cu nx)))) I S (.int nx 0) i n ep:=hit.put (by simp [cu])
 refine a7 (iS h1 rfl (by simp) ?_)
 have h2:AO ((s.heap.update I (fD (·.setIfInBounds 0 (cu nx)))).update I (fD (·.setIfInBounds 1 (cu (i + 1))))) I S (.int nx 0) (i + 1) n ep:=h1.put (by simp [cu])
 exact ae (h _ h2 ((bS ..).trans (bS ..)))
theorem v5 (f:Nat->Nat) (es:Array (Int×a8)):(nL f es).size=es.size:=by
 rw [<- ar,(v4 f es).length_eq,ar]
theorem EX (hh:A.handled=none) (hw:w.params.followText "set-order"=true) (hne:S≠I) :
  Jx prog w A I [I,S] [I] es.size (fun i v=>((nL (w.params.setOrder S ep) es).toList.map (·.2))[i]?=some v) (fun i h=>AO h I S (.int 0 0) i es.size ep/\cP w h S es ep t) where
 sub:=fun b hb=>by simp at hb;simp [hb]
 frame:=fun i h h' st k=>⟨k I (by simp) _ st.1,st.2.keep fun o e=>k S (by simp) o e⟩
 item:=fun i s Q E hi st hQ=>by
  obtain ⟨hit,hS⟩:=st
  refine qM hit hS rfl ?_
  dsimp only
  unfold JY setWalk
  refine a7 (a7 (bv hS.at_ rfl hS.fits (a7 (fe ?_))))
  rw [hw]
  simp only [if_true,bne_self_eq_false,bM,if_false]
  refine a7 (a7 (bv hS.at_ rfl hS.fits (a7 (fe ?_))))
  rw [hw]
  simp only [if_true]
  refine a7 (gQ (ae (ae ?_)))
  have hi':i<(nL (w.params.setOrder S ep) es).size:=by rw [v5];exact hi
  show au _ _ (match ((nL (w.params.setOrder S ep) es)[i]?).map fun e=>(e.2,(0:Int).toNat) with
   | some (x,next)=>do gR (.ref I) 0 (cu next);gR (.ref I) 1 (cu (i + 1));ret x
   | none=>do gR (.ref I) 2 .none;uS (<- xa (.type "StopIteration") [])) _ _ s
  rw [getElem?_pos _ i hi']
  refine Kx (nx:=0) hit fun h' h1 sb=>⟨_,rfl,hQ _ h' s.toks ?_ ⟨h1,hS.keep fun o e=>(sb.2 S hne).trans e⟩ fun b o hb e=>(sb.2 b fun z=>hb (by simp [z])).trans e⟩
  simp [hi']
 done:=fun s Q E st hQ=>by
  obtain ⟨hit,hS⟩:=st
  refine qM hit hS rfl ?_
  dsimp only
  unfold JY setWalk
  refine a7 (a7 (bv hS.at_ rfl hS.fits (a7 (fe ?_))))
  rw [hw]
  simp only [if_true,bne_self_eq_false,bM,if_false]
  refine a7 (a7 (bv hS.at_ rfl hS.fits (a7 (fe ?_))))
  rw [hw]
  simp only [if_true]
  refine a7 (gQ (ae (ae ?_)))
  show au _ _ (match ((nL (w.params.setOrder S ep) es)[es.size]?).map fun e=>(e.2,(0:Int).toNat) with
   | some (x,next)=>do gR (.ref I) 0 (cu next);gR (.ref I) 1 (cu (es.size + 1));ret x
   | none=>do gR (.ref I) 2 .none;uS (<- xa (.type "StopIteration") [])) _ _ s
  rw [getElem?_neg _ es.size (by rw [v5];exact bV _)]
  exact AQ (by simpa using hh) hit rfl (by simp) fun h' eb=>hQ h' s.toks fun b o hb e=>eb b o (fun z=>hb (by simp [z])) e
 self:=fun i s Q E st h=>AR st.1 h
inductive US (h:bp) (T:ah) (ps:List Nat):Prop
 | mk (o k:_) (h0:h.get? T=some o) (h1:o.data=.seq (ps.map fun (p:Nat)=>lQ (p:Int) 0).toArray k):US h T ps
theorem Cp (hh:A.handled=none) {T:ah}{ps:List Nat} (hne:S≠I) (hT:T≠I) (hp:∀ p∈ps,p<es.size) (hn:ps.length=es.size) :
  Jx prog w A I [I,S,T] [I] es.size (fun i v=>(ps.map fun p=>(es.getD p (0,.none)).2)[i]?=some v) (fun i h=>AO h I S (.ref T) i es.size ep/\cP w h S es ep t/\US h T ps) where
 sub:=fun b hb=>by simp at hb;simp [hb]
 frame:=fun i h h' st k=>⟨k I (by simp) _ st.1,st.2.1.keep fun o e=>k S (by simp) o e,let ⟨o,q,e,d⟩:=st.2.2;⟨o,q,k T (by simp) o e,d⟩⟩
 item:=fun i s Q E hi st hQ=>by
  obtain ⟨hit,hS,o,q,e,d⟩:=st
  refine qM hit hS rfl ?_
  dsimp only
  refine a7 (eg e d ?_)
  have hi':i<ps.length:=by omega
  dsimp only
  rw [show ((ps.map fun (p:Nat)=>lQ (p:Int) 0).toArray)[i]?=some (.int (ps[i] : Nat) 0) by simp [hi']]
  dsimp only
  unfold setNextDrawn
  refine a7 (a7 (bv hS.at_ rfl hS.fits ?_))
  have hlt:=hp ps[i] (iz hi')
  simp only [bne_self_eq_false,bM,if_false,eR]
  rw [getElem?_pos es ps[i] hlt]
  refine ae ?_
  refine a7 (iS hit rfl (by simp) ?_)
  have h1:AO (s.heap.update I (fD (·.setIfInBounds 1 (cu (i + 1))))) I S (.ref T) (i + 1) es.size ep:=hit.put (by simp [cu])
  have sb:bG I s.heap (s.heap.update I (fD (·.setIfInBounds 1 (cu (i + 1))))):=bS ..
  refine ae ⟨_,rfl,hQ _ _ s.toks ?_ ⟨h1,hS.keep fun o e=>(sb.2 S hne).trans e,o,q,(sb.2 T hT).trans e,d⟩ fun b o hb e=>(sb.2 b fun z=>hb (by simp [z])).trans e⟩
  simp [hi',hlt]
 done:=fun s Q E st hQ=>by
  obtain ⟨hit,hS,o,q,e,d⟩:=st
  refine qM hit hS rfl ?_
  dsimp only
  refine a7 (eg e d ?_)
  dsimp only
  rw [show ((ps.map fun (p:Nat)=>lQ (p:Int) 0).toArray)[es.size]?=none by simp [<- hn]]
  dsimp only
  refine a7 (iS hit rfl (by simp) ?_)
  have h1:AO (s.heap.update I (fD (·.setIfInBounds 0 (cu 0)))) I S (.int 0 0) es.size es.size ep:=hit.put (by simp [cu])
  have sb:bG I s.heap (s.heap.update I (fD (·.setIfInBounds 0 (cu 0)))):=bS ..
  exact AQ (s:={ s with heap:=s.heap.update I (fD (·.setIfInBounds 0 (cu 0))) }) (by simpa using hh) h1 rfl (by simp) fun h' eb=>hQ h' s.toks fun b o hb e=>eb b o (fun z=>hb (by simp [z])) ((sb.2 b fun z=>hb (by simp [z])).trans e)
 self:=fun i s Q E st h=>AR st.1 h
theorem Ky {p:Array Nat}{j:Nat} (h:p=#[j]):hG p 0=0:=by subst h;simp [hG,y_]
theorem Kz {p:Array Nat}{j:Nat} (h:p=#[j]):hG p (j + 1)=1:=by subst h;simp [hG,y_]
theorem Im {t : ef} (h : t.fits 1 = true) : ∃ j, t.place = #[j] := by
  have h1 : t.place.size = 1 := by
    simp only [lY, aN, beq_iff_eq] at h; exact h.1
  exact ⟨t.place[0], by apply Array.ext; · simp [h1]
                        · intro i h2 h3; have : i = 0 := by omega
                          subst this; simp⟩
theorem QZ {B:b6}{k:Unit->Sem (Option (a8×Nat))}{Q:Option (a8×Nat)->ac->Prop} (hl:t.led=true) (h:au (aP prog w) B (k ()) Q E s) :
  au (aP prog w) B ((if (!t.led && !es.isEmpty)=true then No "set:maker-not-led" else pure ()) >>= k) Q E s:=by
 rw [if_neg (by rw [hl];simp)]
 exact a7 (ae h)
theorem u4 {B:b6}{slot g:Nat}{Q:Option (a8×Nat)->ac->Prop} (hw:w.params.followText "set-order"=false) (hS:cP w s.heap S es ep t) (h1:es.size<=1)
  (h:Q (match es[hG t.place slot]?,t.place[hG t.place slot]? with | some (_,x),some j=>some (x,j + 1) | _,_=>none) s):au (aP prog w) B (JY S slot g ep) Q E s:=by
 unfold JY
 refine a7 (bv hS.at_ rfl hS.fits (a7 (fe ?_)))
 rw [hw]
 simp only [bM,if_false]
 split
 ·rename_i z
  exact absurd (show (!t.plain && decide (es.size > 1))=true from z) (by simp;omega)
 ·have hl:t.led=true:=by rw [hS.led,hw];rfl
  exact QZ hl (ae h)
theorem Io (hh:A.handled=none) (hw:w.params.followText "set-order"=false) (hne:S≠I) (h1:es.size<=1) :
  Jx prog w A I [I,S] [I] es.size (fun i v=>(es.toList.map (·.2))[i]?=some v)
   (fun i h=>∃ k,AO h I S (.int (k:Nat) 0) i es.size ep/\cP w h S es ep t/\(i=0->k=0)/\(i=1->es.size=1->∃ j,t.place=#[j]/\k=j + 1)) where
 sub:=fun b hb=>by simp at hb;simp [hb]
 frame:=fun i h h' st k=>let ⟨c,a1,a2,a3⟩:=st;⟨c,k I (by simp) _ a1,a2.keep fun o e=>k S (by simp) o e,a3⟩
 item:=fun i s Q E hi st hQ=>by
  obtain ⟨c,hit,hS,c0,c1⟩:=st
  have hi0:i=0:=by omega
  subst hi0
  obtain rfl:c=0:=c0 rfl
  have e1:es.size=1:=by omega
  obtain ⟨j,hj⟩:=Im (t:=t) (by rw [<- e1];exact hS.fits)
  refine qM hit hS rfl ?_
  dsimp only
  refine a7 (u4 hw hS h1 ?_)
  rw [show (((0:Nat):Int).toNat)=0 from rfl,Ky hj,getElem?_pos es 0 (by omega),hj]
  refine Kx (nx:=j + 1) hit fun h' h1 sb=>⟨_,rfl,hQ _ h' s.toks ?_ ⟨j + 1,h1,hS.keep fun o e=>(sb.2 S hne).trans e,by simp,fun _ _=>⟨j,hj,rfl⟩⟩ fun b o hb e=>(sb.2 b fun z=>hb (by simp [z])).trans e⟩
  simp [e1]
 done:=fun s Q E st hQ=>by
  obtain ⟨c,hit,hS,c0,c1⟩:=st
  refine qM hit hS rfl ?_
  dsimp only
  refine a7 (u4 hw hS h1 ?_)
  have hz:es[hG t.place ((c:Nat):Int).toNat]?=none:=by
   rcases Nat.eq_zero_or_pos es.size with z | z
   ·rw [getElem?_neg];omega
   ·have e1:es.size=1:=by omega
    obtain ⟨j,hj,hc⟩:=c1 e1 e1
    rw [hc,show (((j + 1:Nat):Int).toNat)=j + 1 from rfl,Kz hj,getElem?_neg];omega
  rw [hz]
  exact AQ (by simpa using hh) hit rfl (by simp) fun h' eb=>hQ h' s.toks fun b o hb e=>eb b o (fun z=>hb (by simp [z])) e
 self:=fun i s Q E st h=>let ⟨_,a1,_⟩:=st;AR a1 h
theorem EY {Q:a8->ac->Prop} (hh:A.handled=none) (hS:cP w s.heap S es ep t)
  (h:∀ (I:ah) (fp:List ah) (ord:List a8) (St:Nat->bp->Prop) (h':bp) (d:Jp),s.heap.objs.size<=I->(∀ b∈fp,b=S\/s.heap.objs.size<=b)->(∀ b∈fp,b<h'.objs.size)->ord.Perm (es.toList.map (·.2))->(∀ B:b6,B.handled=none->Jx prog w B I fp [I] ord.length (fun i v=>ord[i]?=some v) St)->St 0 h' ->
   (∀ b o,s.heap.get? b=some o->h'.get? b=some o)->Nm { s with heap:=h',drawn:=d } (.ref I) "set_iterator"->Q (.ref I) { s with heap:=h',drawn:=d }):au (aP prog w) A (Aw (.ref S)) Q E s:=by
 have hT:s.TypeIs (.ref S) "set":=⟨_,hS.at_,rfl⟩
 have hlt:=am hS.at_
 refine wpAny_pyIter_slot hT F.slot_set_iter (cE F.slot_set_iter hT SI.entry_iter ?_ (F.args_set_iter_1 _))
 show au _ _ (sd S >>= _) _ _ s
 unfold sd
 refine a7 (a7 (wpAny_setEntries_of hS.at_ rfl hS.fits (ae ?_)))
 show au _ _ (setDrawn S >>= _) _ _ s
 unfold setDrawn
 refine a7 (a7 (bv hS.at_ rfl hS.fits (a7 (fe (ae ?_)))))
 have fin:∀ (first:a8) (fp:List ah) (ord:List a8) (St:Nat->bp->Prop) (h':bp) (d:Jp),(∀ b o,s.heap.get? b=some o->h'.get? b=some o)->s.heap.objs.size<=h'.objs.size ->
   (∀ b∈fp,b=S\/b=h'.objs.size\/(s.heap.objs.size<=b/\b<h'.objs.size))->ord.Perm (es.toList.map (·.2))->(∀ B:b6,B.handled=none->Jx prog w B h'.objs.size fp [h'.objs.size] ord.length (fun i v=>ord[i]?=some v) St) ->
   (∀ h'':bp,(∀ b o,h'.get? b=some o->h''.get? b=some o)->AO h'' h'.objs.size S first 0 es.size ep->St 0 h'') ->
   au (aP prog w) A.in1 (setEpoch S >>= fun e=>newFields "set_iterator" [first,cu 0,.ref S,cu es.size,cu e] >>= fun x=>ret x) (fun fin s'=>∃ v,fin=.done (.ret v)/\∃ T' r,s'.TypeIs v T'/\Et (.type T') "__next__"=pure (some r)/\Q v s') E { s with heap:=h',drawn:=d }:=by
  intro first fp ord St h' d kp hsz hfp pm W st
  have hS':cP w h' S es ep t:=hS.keep fun o e=>kp S o e
  refine a7 (wpAny_setEpoch_of (s:={ s with heap:=h',drawn:=d }) hS'.at_ rfl hS'.fits ?_)
  refine a7 (cr ?_ (by size_fits))
  have gp:∀ b o,h'.get? b=some o->(h'.push { cls:=.type "set_iterator",dict:=none,data:=.fields #[first,cu 0,.ref S,cu es.size,cu ep] }).get? b=some o:=fun b o e=>af _ e
  have it:(h'.push { cls:=.type "set_iterator",dict:=none,data:=.fields #[first,cu 0,.ref S,cu es.size,cu ep] }).get? h'.objs.size=some { cls:=.type "set_iterator",dict:=none,data:=.fields #[first,cu 0,.ref S,cu es.size,cu ep] }:=aC _ rfl
  refine ae ⟨_,rfl,"set_iterator",_,⟨_,it,rfl⟩,SI.slot_next.lookup,h h'.objs.size fp ord St _ d hsz (fun b hb=>?_) (fun b hb=>?_) pm W (st _ gp it) (fun b o e=>gp b o (kp b o e)) ⟨_,it,rfl⟩⟩
  ·rcases hfp b hb with z | z | z
   ·exact .inl z
   ·exact .inr (by rw [z];exact hsz)
   ·exact .inr z.1
  ·rw [ck]
   rcases hfp b hb with z | z | z
   ·rw [z];exact eS (aJ hlt hsz)
   ·rw [z];exact dI _
   ·exact eS z.2
 dsimp only
 split
 ·rename_i z
  have z:(!w.params.followText "set-order" && (!t.plain && decide (es.size > 1)))=true:=z
  refine a7 (u3 _ _ _ _ (by simp) fun ys d pm=>?_)
  simp only [newTuple]
  have hyl:ys.length=es.size:=by have:=pm.length_eq;rwa [dS] at this
  have zl:=fk hS.few
  refine a7 (cr ?_ (by show (ys.map fun (i:Nat)=>cu i).toArray.size<=sizeLine;simp;omega))
  have tp:∀ ob:Obj,(s.heap.push ob).objs.size=s.heap.objs.size + 1:=fun ob=>ck ..
  refine fin (.ref s.heap.objs.size) [s.heap.objs.size + 1,S,s.heap.objs.size] (ys.map fun p=>(es.getD p (0,.none)).2)
   (fun i h=>AO h (s.heap.objs.size + 1) S (.ref s.heap.objs.size) i es.size ep/\cP w h S es ep t/\US h s.heap.objs.size ys) (s.heap.push _) d
   (fun b o e=>af _ e) (by rw [tp];exact gj _) (fun b hb=>?_) ?_ (fun B hB=>?_) (fun h'' k it=>⟨by rw [tp] at it;exact it,hS.keep fun o e=>k S o (af _ e),_,_,k _ _ (aC _ rfl),rfl⟩)
  ·simp only [aZ,aQ,or_false] at hb
   rcases hb with y | y | y
   ·exact .inr (.inl (by rw [tp];exact y))
   ·exact .inl y
   ·exact .inr (.inr ⟨by rw [y];exact ao _,by rw [tp,y];exact dI _⟩)
  ·refine (pm.map _).trans (.of_eq ?_)
   apply wI
   ·simp
   ·intro k h1 h2
    have:k<es.size:=by simpa using h1
    simp [this]
  ·rw [av,hyl,tp]
   exact Cp hB (aE (eS hlt)) (aE (dI _)) (fun p hp=>List.mem_range.mp (pm.mem_iff.mp hp)) hyl
 ·rename_i z
  have z:¬ (!w.params.followText "set-order" && (!t.plain && decide (es.size > 1)))=true:=z
  refine a7 (ae ?_)
  have hne:S≠s.heap.objs.size:=aE hlt
  cases hw:w.params.followText "set-order" with
  | true =>
   refine fin (cu 0) [s.heap.objs.size,S] ((nL (w.params.setOrder S ep) es).toList.map (·.2)) (fun i h=>AO h s.heap.objs.size S (.int 0 0) i es.size ep/\cP w h S es ep t) s.heap s.drawn (fun _ _ e=>e) (ao _) (fun b hb=>?_) ((v4 _ es).map _) (fun B hB=>?_) (fun h'' k it=>⟨it,hS.keep fun o e=>k S o e⟩)
   ·simp only [aZ,aQ,or_false] at hb
    exact hb.elim (fun z=>.inr (.inl z)) .inl
   ·rw [av,ar,v5]
    exact EX hB hw hne
  | false =>
   have h1:es.size<=1:=by
    rw [hw] at z
    rcases hS.pl with y | y
    ·omega
    ·rw [y] at z;simpa using z
   refine fin (cu 0) [s.heap.objs.size,S] (es.toList.map (·.2)) (fun i h=>∃ k,AO h s.heap.objs.size S (.int (k:Nat) 0) i es.size ep/\cP w h S es ep t/\(i=0->k=0)/\(i=1->es.size=1->∃ j,t.place=#[j]/\k=j + 1)) s.heap s.drawn (fun _ _ e=>e) (ao _) (fun b hb=>?_) (.refl _) (fun B hB=>?_) (fun h'' k it=>⟨0,it,hS.keep fun o e=>k S o e,fun _=>rfl,fun y=>by cases y⟩)
   ·simp only [aZ,aQ,or_false] at hb
    exact hb.elim (fun z=>.inr (.inl z)) .inl
   ·rw [av,ar]
    exact Io hB hw hne h1
end
end
section
section
variable {prog:aK}{w:aY}{A:b6}{E:a8->ac->Prop}{s:ac}{S:ah}{es:Array (Int×a8)}{ep:Nat}{t:ef}
theorem Cq {Q:List a8->ac->Prop} (hh:A.handled=none) (hS:cP w s.heap S es ep t)
  (h:∀ (ord:List a8) (h':bp) (d:Jp) (tk:Nat),ord.Perm (es.toList.map (·.2))->(∀ b o,s.heap.get? b=some o->h'.get? b=some o)->s.heap.objs.size<=h'.objs.size->Q ord { s with heap:=h',drawn:=d,toks:=tk }) :
  au (aP prog w) A (collect (.ref S)) Q E s:=by
 have hlt:=am hS.at_
 unfold collect
 refine a7 (wpAny_runValue (gD F.entry_proto_collect ?_))
 rw [eJ F.plain_proto_collect _]
 show au _ A.in1 (newList [] >>= fun l=>again (.builtin "list.__iadd__" ⟨[l,.ref S],[]⟩)) _ _ s
 refine a7 (cr ?_)
 refine ae ⟨lS F.plain_list_iadd _,gD F.entry_list_iadd ?_⟩
 rw [eJ F.plain_list_iadd _]
 let s1:ac:={ s with heap:=s.heap.push { cls:=.type "list",data:=.seq ([] : List a8).toArray } }
 have sz1:s1.heap.objs.size=s.heap.objs.size + 1:=ck ..
 have at1:s1.heap.get? s.heap.objs.size=some { cls:=.type "list",data:=.seq ([] : List a8).toArray }:=aC _ rfl
 have hS1:cP w s1.heap S es ep t:=hS.keep fun o e=>af _ e
 show au _ A.in1 (tP (.ref s.heap.objs.size) (.ref S) (.ref s.heap.objs.size)) _ _ s1
 have hT1:s1.TypeIs (.ref S) "set":=⟨_,hS1.at_,rfl⟩
 unfold tP
 refine a7 (kE hT1 ?_)
 have e1:vH (.ref s.heap.objs.size) (.ref S)=false:=by simp [vH,eK hlt]
 have e2:(i5 "set" == i5 "list")=false:=by decide
 have e3:(i5 "set" == i5 "tuple")=false:=by decide
 simp only [e1,e2,e3,Bool.or_false,bM,if_false]
 refine a7 (EY (A:=A.in1) (by simpa using hh) hS1 fun I fp ord St h' d hI hfp hfl pm W st kp tI=>?_)
 let s2:ac:={ s1 with heap:=h',drawn:=d }
 have hS2:cP w s2.heap S es ep t:=hS1.keep fun o e=>kp S o e
 have hT2:s2.TypeIs (.ref S) "set":=⟨_,hS2.at_,rfl⟩
 refine a7 (e6 ?_)
 unfold Builtin.List.listLengthHint
 refine a7 (wpAny_specialOf (s:=s2) hT2 F.slot_set_len.lookup ?_)
 dsimp only
 rw [show splitId "set.__len__"=some ("set","__len__") from by decide +kernel]
 dsimp only
 refine a7 (j8 (b:=true) (s:=s2) hT2 (by rw [Ey];kernel_rfl) ?_)
 rw [if_neg (by decide),if_pos (by decide)]
 refine a7 (kE (s:=s2) hT2 (ae ?_))
 rw [if_pos (by decide)]
 refine a7 (gJ ?_)
 have nS:s.heap.objs.size∉fp:=fun z=>by
  rcases hfp _ z with q | q
  ·exact absurd hlt (by rw [<- q];exact bV _)
  ·rw [sz1] at q;exact absurd q (Nat.not_succ_le_self _)
 have at2:s2.heap.get? s.heap.objs.size=some { cls:=.type "list",data:=.seq ([] : List a8).toArray }:=kp _ _ at1
 refine a7 ?_
 show au _ A.in1 (updateSeq s.heap.objs.size (·.push .none) >>= fun _=>updateSeq s.heap.objs.size (·.pop)) _ _ s2
 refine a7 (wpAny_updateSeq at2 rfl ?_)
 have at3:=gZ (kF (·.push fG)) at2 rfl
 refine wpAny_updateSeq at3 rfl ?_
 have at4:=gZ (kF (·.pop)) at3 rfl
 have oth:∀ b o,b≠s.heap.objs.size->s2.heap.get? b=some o->((s2.heap.update s.heap.objs.size (kF (·.push fG))).update s.heap.objs.size (kF (·.pop))).get? b=some o :=
  fun b o hb e=>(pv _ _ (cW hb)).trans ((pv _ _ (cW hb)).trans e)
 have zl:ord.length<=sizeLine:=by rw [pm.length_eq,av,ar];exact fk hS.few
 have W1:=W A.in1 (by simpa using hh)
 refine ae ⟨lS F.plain_extend_loop _,codeAny_extend_loopS (A:=A) W1.toS zl _ nS _ ord.length 0 { s2 with heap:=(s2.heap.update s.heap.objs.size (kF (·.push fG))).update s.heap.objs.size (kF (·.pop)) } _ _ rfl (cn _) (W1.frame 0 _ _ st fun b hb o e=>oth b o (fun z=>nS (z ▸ hb)) e) at4 (ItemsOf.nil _) fun s' acc' c' hm hS' hacc=>?_⟩
 show au _ A (load s.heap.objs.size >>= _) _ _ s'
 refine a7 (wpAny_load hS' (ae ?_))
 have hacc':acc'.toList=ord:=by
  apply vI
  intro j
  rw [dn]
  by_cases hj:j<acc'.size
  ·have:=hacc.2 j acc'[j] (by simp [hj])
   rw [this];simp [hj]
  ·rw [getElem?_neg acc' j hj,bz (by rw [<- hacc.1];omega)]
 rw [hacc']
 obtain ⟨h3,g3,d3,t3,o3⟩:=s'
 obtain rfl:g3=s.gens:=hm.gens
 obtain rfl:d3=d:=hm.drawn
 obtain rfl:o3=s.os:=hm.os
 have old:∀ b o,s.heap.get? b=some o->h3.get? b=some o:=fun b o e=>by
  have hb:=am e
  refine hm.heap b o ?_ (oth b o (aE hb) (kp b o (af _ e)))
  simp only [aZ,aQ,or_false,not_or]
  exact ⟨aE hb,aE (aJ hb (by have q:=hI;rw [sz1] at q;exact Nat.le_of_succ_le q))⟩
 refine h ord h3 _ t3 pm old ?_
 have:=am (show h3.get? s.heap.objs.size=some _ from hS')
 exact cc this
theorem Cr {x:a8}{Q:a8->ac->Prop} (hc:au (aP prog w) A.in1 (collect x) (fun vs s1=>∃ ss,se vs ss/\vs.length<64 /\
   ∀ (h':bp) (vs':List a8) (ss':List Str) (e:Nat),(∀ b o,s1.heap.get? b=some o->h'.get? b=some o)->h'.get? s1.heap.objs.size=some (seqObj "list" vs'.toArray e)->se vs' ss'->ss'.Perm ss->sortedS ss'=true ->
    Q (.ref s1.heap.objs.size) { s1 with heap:=h' }) E s):au (aP prog w) A (call (.builtin "sorted") [x]) Q E s:=by
 refine zG kind_sorted plain_sorted entry_sorted (args_sorted1 _) ?_
 unfold jw.«sorted»
 refine a7 (m:=checkCount "sorted" 1 1 _) (ae ?_)
 refine a7 (bI hc (fun vs s1 z=>?_) fun _ _ z=>z)
 obtain ⟨ss,hss,h64,hq⟩:=z
 refine a7 (wpAny_newList ?_)
 have at1:(s1.heap.push (seqObj "list" vs.toArray 0)).get? s1.heap.objs.size=some (seqObj "list" vs.toArray 0):=aC _ rfl
 show au _ _ _ _ _ { s1 with heap:=s1.heap.push (seqObj "list" vs.toArray 0) }
 refine a7 (e6 (cE slot_list_sort ⟨_,at1,rfl⟩ entry_list_sort (list_sort_treeK strKind_oneLt at1 hss.keysOf (fun v₁ v₂ bY e=>keyKind_strs (by rw [<- e];exact hss)) h64 fun st' a1 a2=>⟨_,rfl,?_⟩) (args_list_sort _)))
 obtain ⟨ss',p1,p2,p3⟩:=sorted_out_str hss a1 a2
 obtain ⟨e,at2⟩:=sortedHeap_at (out:=(arrOf st').map (·.2)) at1
 refine ae ⟨_,rfl,hq _ _ ss' e (fun b o q=>?_) at2 p1 p2 p3⟩
 have hb:=am q
 rw [sortedHeap_old (aE hb) (by rw [ck];exact eS hb)]
 exact af _ q
end
end
section
def pF (x y:Str):Bool:=decide (x.cps.toList<y.cps.toList)
def EZ (x:Str):List Str->List Str
 | []=>[x]
 | y::r=>if pF y x then y::EZ x r else x::y::r
def jj:List Str->List Str
 | []=>[]
 | x::r=>EZ x (jj r)
theorem v6 (x:Str):∀ l,(EZ x l).Perm (x::l)
 | []=>.refl _
 | y::r=>by
  rw [EZ]
  split
  ·exact ((v6 x r).cons y).trans (.swap ..)
  ·exact .refl _
theorem f_:∀ l,(jj l).Perm l
 | []=>.refl _
 | x::r=>(v6 x _).trans ((f_ r).cons x)
theorem sj (x:Str):pF x x=false:=decide_eq_false (List.lt_irrefl _)
theorem qN {x y z:Str} (h1:pF x y=true) (h2:pF y z=true):pF x z=true :=
 decide_eq_true (List.lt_trans (of_decide_eq_true h1) (of_decide_eq_true h2))
theorem wN {x y:Str} (h1:pF x y=false) (h2:pF y x=false):x=y:=by
 have h1:¬ x.cps.toList<y.cps.toList:=of_decide_eq_false h1
 have h2:¬ y.cps.toList<x.cps.toList:=of_decide_eq_false h2
 have:x.cps.toList=y.cps.toList:=List.le_antisymm (List.not_lt.mp h2) (List.not_lt.mp h1)
 cases x;cases y
 exact congrArg Str.mk (Array.toList_inj.mp this)
abbrev N8 (l:List Str):Prop:=l.Pairwise fun a b=>pF b a=false
theorem KA (x:Str):∀ l,N8 l->N8 (EZ x l)
 | [],_=>by simp [EZ,N8]
 | y::r,h=>by
  obtain ⟨h1,h2⟩:=List.pairwise_cons.mp h
  rw [EZ]
  split
  ·rename_i hy
   refine List.pairwise_cons.mpr ⟨fun z hz=>?_,KA x r h2⟩
   rcases List.mem_cons.mp ((v6 x r).mem_iff.mp hz) with e | e
   ·subst e
    cases q:pF z y with
    | false=>rfl
    | true=>exact absurd (qN q hy) (by rw [sj];decide)
   ·exact h1 z e
  ·rename_i hy
   have hy:pF y x=false:=by simpa using hy
   refine List.pairwise_cons.mpr ⟨fun z hz=>?_,h⟩
   rcases List.mem_cons.mp hz with e | e
   ·subst e;exact hy
   ·cases q:pF z x with
    | false=>rfl
    | true =>
     have hzy:=h1 z e
     cases q2:pF x y with
     | true=>rw [qN q q2] at hzy;cases hzy
     | false=>rw [<- wN hy q2,hzy] at q;cases q
theorem pW:∀ l,N8 (jj l)
 | []=>.nil
 | x::r=>KA x _ (pW r)
theorem u5:∀ (p:Str) (l:List Str),risingS p l=true->N8 (p::l)
 | p,[],_=>by simp [N8]
 | p,x::r,h=>by
  rw [risingS,aN] at h
  obtain ⟨h1,h2⟩:=h
  have h1:pF x p=false:=by
   rw [ltCps_eq] at h1
   simpa [pF] using h1
  have ih:=u5 x r h2
  refine List.pairwise_cons.mpr ⟨fun z hz=>?_,ih⟩
  rcases List.mem_cons.mp hz with e | e
  ·rw [e];exact h1
  ·have hzx:=(List.pairwise_cons.mp ih).1 z e
   cases q:pF z p with
   | false=>rfl
   | true =>
    cases q2:pF p x with
    | true=>rw [qN q q2] at hzx;cases hzx
    | false=>rw [wN q2 h1,hzx] at q;cases q
theorem AS:∀ (l:List Str),sortedS l=true->N8 l
 | [],_=>.nil
 | x::r,h=>u5 x r h
theorem zR:∀ {l l':List Str},l.Perm l'->N8 l->N8 l'->l=l'
 | [],l',p,_,_=>by rw [List.nil_perm.mp p]
 | x::r,[],p,_,_=>by have:=p.length_eq;simp at this
 | x::r,y::r',p,h,h'=>by
  obtain ⟨a1,a2⟩:=List.pairwise_cons.mp h
  obtain ⟨b1,b2⟩:=List.pairwise_cons.mp h'
  have e:x=y:=by
   have hx:x∈y::r':=p.mem_iff.mp al
   have hy:y∈x::r:=p.mem_iff.mpr al
   rcases List.mem_cons.mp hx with e | e
   ·exact e
   ·rcases List.mem_cons.mp hy with e' | e'
    ·exact e'.symm
    ·exact wN (b1 x e) (a1 y e')
  subst e
  rw [zR (List.Perm.cons_inv p) a2 b2]
theorem Cs {l l':List Str} (p:l'.Perm l) (h:sortedS l'=true):l'=jj l:=zR (p.trans (f_ l).symm) (AS _ h) (pW l)
theorem v7 {l:List Str} (h:N8 l) (nd:l.Nodup):l.Pairwise fun a b=>pF a b=true:=by
 induction l with
 | nil=>exact .nil
 | cons x r ih =>
  obtain ⟨a1,a2⟩:=List.pairwise_cons.mp h
  obtain ⟨n1,n2⟩:=List.nodup_cons.mp nd
  refine List.pairwise_cons.mpr ⟨fun y hy=>?_,ih a2 n2⟩
  cases q:pF x y with
  | true=>rfl
  | false=>exact absurd (wN q (a1 y hy) ▸ hy) n1
theorem kR:∀ {ss:List Str}{us:List a8},cV (ss.map V.str) us->se us ss
 | [],_,.nil=>.nil
 | x::r,_,.cons h t=>by obtain ⟨tk,rfl⟩:=h;exact .cons x tk (kR t)
theorem nU:∀ {ss:List Str}{us:List a8},se us ss->cV (ss.map V.str) us
 | _,_,.nil=>.nil
 | _,_,.cons x t h=>.cons ⟨t,rfl⟩ (nU h)
theorem fo:∀ {ss:List Str}{us:List a8},se us ss->us.length=ss.length
 | _,_,.nil=>rfl
 | _,_,.cons x t h=>by simp [fo h]
theorem xq {ss:List Str}{us:List a8} (h:se us ss) (i:Nat) (v:a8) (e:us[i]?=some v):∃ x t,ss[i]?=some x/\v=jd x t:=by
 induction h generalizing i with
 | nil=>simp at e
 | cons y t _ ih =>
  cases i with
  | zero=>simp at e;exact ⟨y,t,by simp,e.symm⟩
  | succ i=>simp at e;simpa using ih i e
theorem u6 {w:aY}:∀ {l:List (Int×a8)},(∀ e∈l,si w e)->se (l.map (·.2)) (l.map jv)
 | [],_=>.nil
 | e::r,h=>by
  obtain ⟨x,tk,rfl⟩:=h e al
  exact .cons x tk (u6 fun e he=>h e (aj _ he))
theorem AT {us us':List a8}{ss:List Str} (h:se us ss) (p:us'.Perm us):∃ ss',se us' ss'/\ss'.Perm ss:=by
 refine ⟨us'.map strOf,strsAre_map _ fun v hv=>h.all v (p.mem_iff.mp hv),?_⟩
 rw [<- h.strs]
 exact p.map _
def kS (w:aY) (a:ah) (ss:List Str):HO:=.ext fun h=>kH w h a ss
theorem AU {P:aK}{w:aY}{H:Hp}{h:bp}{a:ah}{ss:List Str} (x:kH w h a ss):dL P w H h a (kS w a ss) :=
 ⟨x,let ⟨_,_,_,I,_⟩:=x;⟨_,I.at_⟩,fun _ _ y k=>y.keep k⟩
section
variable {X:Cx}
theorem Ct (hc:X.calm=true):jz X (.type "set") (fun xs H Q=>∃ p ss,xs=[.ref p]/\(lU X.K H p (ss.map V.str)\/kG X.K H p (ss.map V.str))/\ss.length + 1<io/\∀ a,H a=none->Q (.ref a) (upd H a (kS X.w a (cY [] ss)))):=by
 intro pins s σ H xs us Q I r h
 obtain ⟨p,ss,rfl,hq,hz,q⟩:=h
 obtain ⟨u,rfl,rx⟩:=ki r
 cases rx
 have hh:=I.ok.hd hc
 have fin:∀ (h':bp) (tk:Nat),kH X.w h' s.heap.objs.size (cY [] ss)->(∀ b o,s.heap.get? b=some o->h'.get? b=some o)->EP X pins σ Q (.ref s.heap.objs.size) { s with heap:=h',toks:=tk }:=fun h' tk hS kp =>
  ⟨.ref s.heap.objs.size,_,I.laid (t':=tk) kp (ao _) (AU hS),rfl,q _ (I.hok.fresh (ao _))⟩
 rcases hq with hq | hq
 ·obtain ⟨its,r',⟨o,n,ho,h1,h2,h3⟩,_⟩:=I.list hq
  have sa:=kR r'
  exact u0 (Kw (by simpa using hh) h1 ⟨n,h3⟩) ho (fun i v e=>xq sa i v (by simpa using e)) (by simp [fo sa]) (by simp [fo sa];exact hz) fin
 ·obtain ⟨its,r',⟨o,ho,h1,n,h3⟩,_⟩:=I.tuple hq
  have sa:=kR r'
  exact u0 (O8 (by simpa using hh) h1 ⟨n,h3⟩) ho (fun i v e=>xq sa i v (by simpa using e)) (by simp [fo sa]) (by simp [fo sa];exact hz) fin
theorem v8:jz X (.builtin "sorted") (fun xs H Q=>∃ p ss,xs=[.ref p]/\lU X.K H p (ss.map V.str)/\ss.length<64/\∀ l,H l=none->Q (.ref l) (upd H l (.lst ((jj ss).map V.str)))):=by
 intro pins s σ H xs us Q I r h
 obtain ⟨p,ss,rfl,hq,hz,q⟩:=h
 obtain ⟨u,rfl,rx⟩:=ki r
 cases rx
 obtain ⟨its,r',pl,hl⟩:=I.list hq
 have sa:=kR r'
 refine sorted_strs pl.isList sa (by rw [fo sa];exact hz) fun out ss' a1 a2 a3=>?_
 obtain ⟨e,he⟩:=sortedAll_at s.heap its out
 have kp:∀ b o,s.heap.get? b=some o->(sortedAll s.heap its out).get? b=some o:=fun b o=>sortedAll_old
 obtain rfl:=Cs a2 a3
 refine ⟨.ref (s.heap.objs.size + 1),upd H (s.heap.objs.size + 1) (.lst ((jj ss).map V.str)),I.laid (t':=s.toks) kp (gj _) (show dL X.prog X.w _ _ _ (.lst _) from ⟨?_,out.toList,e,nU a1,by simpa [seqObj] using he⟩),rfl,q _ (I.hok.fresh (gj _))⟩
 rw [av,(f_ ss).length_eq]
 have:=hl
 rw [av] at this
 exact this
theorem wt (hc:X.calm=true):jz X (.builtin "sorted") (fun xs H Q=>∃ p ss,xs=[.ref p]/\H p=some (kS X.w p ss)/\ss.length<64/\∀ l,H l=none->Q (.ref l) (upd H l (.lst ((jj ss).map V.str)))):=by
 intro pins s σ H xs us Q I r h
 obtain ⟨p,ss,rfl,hq,hz,q⟩:=h
 obtain ⟨u,rfl,rx⟩:=ki r
 cases rx
 have hh:=I.ok.hd hc
 obtain ⟨⟨es,ep,t,S,pm⟩,_⟩:=(show dL X.prog X.w H s.heap p (kS X.w p ss) from I.hok p _ hq)
 refine Cr (Cq (by simpa using hh) S fun ord h' d tk po kp sz=>?_)
 obtain ⟨ss1,sa,p1⟩:=AT (u6 S.txt) po
 have ln:ss1.length=ss.length:=(p1.trans pm).length_eq
 refine ⟨ss1,sa,by rw [fo sa,ln];exact hz,fun h2 vs' ss' e kp2 at2 sa2 p2 s2=>?_⟩
 have kk:∀ b o,s.heap.get? b=some o->h2.get? b=some o:=fun b o e=>kp2 b o (kp b o e)
 have es':ss'=jj ss:=Cs (p2.trans (p1.trans pm)) s2
 subst es'
 have fr:=I.hok.fresh sz
 have ok2:dL X.prog X.w (upd H h'.objs.size (.lst ((jj ss).map V.str))) h2 h'.objs.size (.lst ((jj ss).map V.str)) :=
  ⟨by rw [av,(f_ ss).length_eq];exact bU (cc hz) (by rw [sizeLine_eq];decide),vs',e,nU sa2,at2⟩
 exact ⟨.ref h'.objs.size,_,I.call' (s':={ s with heap:=h2,drawn:=d,toks:=tk }) (ch:=[]) rfl (Un.laid kk sz fr) (I.hok.laid kk sz ok2) I.bare (fun b z=>absurd z (by simp)),rfl,q _ fr⟩
end
end
section
section
variable {X:Cx}
theorem vO {prog:aK}{w:aY}{B:b6}{bs:List Bool}{its:List a8} (r:cV (bs.map V.bl) its):TruthOf prog w B (fun i v=>its.toArray[i]?=some v) (fun i=>bs.getD i false):=by
 intro i v s Q E hv hq
 have hv:its[i]?=some v:=by simpa using hv
 have hl:=r.length
 rw [av] at hl
 obtain ⟨hi,_⟩:=List.getElem?_eq_some_iff.mp hv
 have hb:bs[i]?=some bs[i]:=aL (by omega)
 obtain ⟨u,hu,ru⟩:=r.get (i:=i) (x:=.bl bs[i]) (by rw [aX,hb];rfl)
 rw [hv] at hu;cases hu
 cases ru
 have hq:Q (bs.getD i false) s:=hq
 rw [c8,hb] at hq
 exact e8 hq
theorem KB (bs:List Bool):(bi bs.length).all (fun i=>bs.getD i false)=bs.all id:=by
 rw [j9,cB,cB]
 constructor
 ·intro h b hb
  obtain ⟨i,hi,rfl⟩:=lr hb
  have:=h i (List.mem_range.mpr hi)
  simpa [c8,hi] using this
 ·intro h i hi
  have hi:=List.mem_range.mp hi
  have:=h bs[i] (iz hi)
  simpa [c8,hi] using this
theorem KC (bs:List Bool):(bi bs.length).any (fun i=>bs.getD i false)=bs.any id:=by
 rw [j9,kz,kz]
 constructor
 ·rintro ⟨i,hi,h⟩
  have hi:=List.mem_range.mp hi
  exact ⟨bs[i],iz hi,by simpa [c8,hi] using h⟩
 ·rintro ⟨b,hb,h⟩
  obtain ⟨i,hi,rfl⟩:=lr hb
  exact ⟨i,List.mem_range.mpr hi,by simpa [c8,hi] using h⟩
theorem xr (hc:X.calm=true):jz X (.builtin "all") (fun xs H Q=>∃ p,∃ bs:List Bool,xs=[.ref p]/\lU X.K H p (bs.map V.bl)/\Q (.bl (bs.all id)) H):=by
 intro pins s σ H xs us Q I r h
 obtain ⟨p,bs,rfl,hq,q⟩:=h
 obtain ⟨u,rfl,rx⟩:=ki r
 cases rx
 obtain ⟨its,r',pl,hl⟩:=I.list hq
 have ln:its.toArray.size=bs.length:=by have:=r'.length;simp at this ⊢;omega
 obtain ⟨o,ho,hk⟩:=pl.isList
 refine call_all_walk (iw pl.isList ⟨_,_,_,_,_,_,_,rfl,tN (by simpa using I.ok.hd hc) _ p (aE (am ho)) its.toArray,⟨⟨_,aC _ rfl,rfl,rfl⟩,pl.isList.push _⟩,vO r',fun h' tk kp=>?_⟩)
 rw [ln,KB]
 refine ⟨.bl _,H,I.kept (t':=tk) fun b o e=>kp b o ?_ (af _ e),rfl,q⟩
 simp only [dE]
 exact aE (am e)
theorem xt (hc:X.calm=true):jz X (.builtin "any") (fun xs H Q=>∃ p,∃ bs:List Bool,xs=[.ref p]/\lU X.K H p (bs.map V.bl)/\Q (.bl (bs.any id)) H):=by
 intro pins s σ H xs us Q I r h
 obtain ⟨p,bs,rfl,hq,q⟩:=h
 obtain ⟨u,rfl,rx⟩:=ki r
 cases rx
 obtain ⟨its,r',pl,hl⟩:=I.list hq
 have ln:its.toArray.size=bs.length:=by have:=r'.length;simp at this ⊢;omega
 obtain ⟨o,ho,hk⟩:=pl.isList
 refine call_any_walk (iw pl.isList ⟨_,_,_,_,_,_,_,rfl,tN (by simpa using I.ok.hd hc) _ p (aE (am ho)) its.toArray,⟨⟨_,aC _ rfl,rfl,rfl⟩,pl.isList.push _⟩,vO r',fun h' tk kp=>?_⟩)
 rw [ln,KC]
 refine ⟨.bl _,H,I.kept (t':=tk) fun b o e=>kp b o ?_ (af _ e),rfl,q⟩
 simp only [dE]
 exact aE (am e)
theorem Ip:pE X (bL .LtE) (fun x y H Q=>∃ i j,x=.str i/\y=.str j/\Q (.bl (!decide (j.cps.toList<i.cps.toList))) H):=by
 intro pins s σ H x y v u Q I rx ry h
 obtain ⟨i,j,rfl,rfl,q⟩:=h
 obtain ⟨t,rfl⟩:=rx
 obtain ⟨t',rfl⟩:=ry
 exact PySem.P.le_str (AG I q rfl)
end
end
section
def Ss (x:Str):It:=⟨fun i _=>i<x.cps.size,fun i H v H'=>H'=H/\∃ c,x.cps[i]?=some c/\v=.str ⟨#[c]⟩,fun i _=>x.cps.size<=i⟩
theorem KD {P:aK}{w:aY}{K:a6}{tg:aV} (x:Str) (t:Tok) (it:ah):xk P w K tg (Ss x) [it] it (fun i h=>h.IsStrIter it (hJ x) x t i) where
 mem:=by simp
 obj:=fun i h st b hb=>by
  obtain rfl:b=it:=by simpa using hb
  obtain ⟨o,e,c,d⟩:=st
  exact ⟨o,e,fun v z=>by rw [d] at z;cases z⟩
 keep:=fun i h h' st k=>let ⟨o,e,r⟩:=st;⟨o,k it (by simp) o e,r⟩
 item:=by
  intro X hP hw hK hc i pins s σ H E I hf st hg
  subst hP hw hK
  have hg:i<x.cps.size:=hg
  obtain ⟨f0,f1,f2,f3,f4,f5⟩:=hf it (by simp)
  have hx:x.cps[i]?=some x.cps[i]:=getElem?_pos _ i hg
  have go:∀ (h':bp) (tk tk':Nat),h'.IsStrIter it (hJ x) x t (i + 1)->bG it s.heap h'->∃ u,some (jd ⟨#[x.cps[i]]⟩ tk)=some u /\
    au (aP X.prog X.w) X.A (gz tg (.ref it) u) (fun _ s2=>∃ v H',bQ X pins σ H' s2/\de v u/\(Ss x).yld i H v H'/\s2.heap.IsStrIter it (hJ x) x t (i + 1)/\∀ b∈[it],H' b=none) E { s with heap:=h',toks:=tk' }:=fun h' tk tk' st' sb=>by
   have I1:bQ X pins σ H { s with heap:=h',toks:=tk' }:=I.turned (fun b o hb e=>(sb.2 b hb).trans e) f0 f1 f3 f4 f5
   refine ⟨_,rfl,?_⟩
   have q:∃ v H',bQ X pins σ H' { s with heap:=h',toks:=tk' }/\de v (jd ⟨#[x.cps[i]]⟩ tk)/\(Ss x).yld i H v H'/\h'.IsStrIter it (hJ x) x t (i + 1)/\∀ b∈[it],H' b=none :=
    ⟨.str ⟨#[x.cps[i]]⟩,H,I1,⟨tk,rfl⟩,⟨rfl,_,hx,rfl⟩,st',fun b hb=>(hf b hb).1⟩
   unfold gz
   cases tg<;>exact ae q
  cases ha:x.cps.all (·<128)
  ·have ty:hJ x="str_iterator":=by unfold hJ;rw [ha];rfl
   rw [ty] at st
   exact wpAny_pyNext_wide_item st hx fun h' st' sb=>go h' _ _ (by rw [ty];exact st') sb
  ·have ty:hJ x="str_ascii_iterator":=by unfold hJ;rw [ha];rfl
   rw [ty] at st
   exact wpAny_pyNext_ascii_item st hx fun h' st' sb=>go h' _ _ (by rw [ty];exact st') sb
 done:=by
  intro X hP hw hK hc i pins s σ H E I hf st hg
  subst hP hw hK
  have hg:x.cps.size<=i:=hg
  obtain ⟨f0,f1,f2,f3,f4,f5⟩:=hf it (by simp)
  have hx:x.cps[i]?=none:=getElem?_neg _ i (Nat.not_lt.mpr hg)
  unfold hJ at st
  cases ha:x.cps.all (·<128)
  ·rw [ha] at st
   exact wpAny_pyNext_wide_end (I.ok.hd hc) st hx fun h' eb=>⟨rfl,I.turned (t':=s.toks) (fun b o hb e=>eb b o hb e) f0 f1 f3 f4 f5⟩
  ·rw [ha] at st
   exact wpAny_pyNext_ascii_end (I.ok.hd hc) st hx fun h' eb=>⟨rfl,I.turned (t':=s.toks) (fun b o hb e=>eb b o hb e) f0 f1 f3 f4 f5⟩
 self:=fun _ _ _ _ _ st h=>by
  unfold hJ at st
  cases ha:x.cps.all (·<128)
  ·rw [ha] at st;exact wpAny_pyIter_striter_wide st h
  ·rw [ha] at st;exact wpAny_pyIter_striter_ascii st h
def UT (tl:TE):TI:=fun σ H R=>tl σ H fun v H1=>∃ x,v=.str x/\R (Ss x) H1
theorem KF {X:Cx}{tg l:aV}{tl:TE} (hl:PE X l tl):PI X tg l (UT tl):=by
 intro pins s σ H R I h
 refine fO (hl pins s σ H _ I h) fun v s1 h_0=>?_
 obtain ⟨y,H1,I1,r1,q1⟩:=h_0
 obtain ⟨x,rfl,q⟩:=q1
 obtain ⟨t,rfl⟩:=r1
 refine wpAny_pyIter_strU ?_
 refine ⟨s1.heap.objs.size,[s1.heap.objs.size],_,_,H1,rfl,I1.kept (t':=s1.toks) fun b o e=>af _ e,KD x t _,⟨_,aC _ rfl,rfl,rfl⟩,fun b hb=>?_,q⟩
 obtain rfl:b=s1.heap.objs.size:=by simpa using hb
 exact I1.fpOk (ao _) (I1.hok.fresh (ao _))
end
section
section
variable {X:Cx}{pins:List (ah×Obj)}{σ:St}{H H':Hp}{s:ac}{h':bp}
theorem bQ.turnedL {t':Nat}{ch:List ah} (I:bQ X pins σ H s) (k:∀ b o,b∉ch->s.heap.get? b=some o->h'.get? b=some o) (hf:∀ b∈ch,pR X pins H b):bQ X pins σ H { s with heap:=h',toks:=t' }:=by
 have nt:∀ b u,H b=some u->b∉ch:=fun b u e z=>by rw [(hf b z).1] at e;cases e
 refine I.step (g':=s.gens) (d':=s.drawn) (ch:=ch) (fun b hb=>?_) (fun b o _ _ hc e _=>k b o hc e) (fun b o _ _ hc e _=>⟨o.slots,k b o hc e⟩) (fun _ _ _ _ n=>n)
  (fun b o hc e=>⟨o,k b o hc e⟩) (fun _ _ e=>e) (fun _ _ _ e=>e) (fun b ps e=>⟨#[],by rw [e];simp⟩) (fun m hm=>?_) (fun b u e=>?_) I.bare
 ·obtain ⟨f0,f1,f2,f3,f4,f5⟩:=hf b hb
  exact ⟨f3,f1,f4,f5⟩
 ·obtain ⟨o,es,ep,ho,r⟩:=hm
  exact ⟨o,es,ep,k _ o (fun z=>(hf _ z).f1 rfl) ho,r⟩
 ·refine (I.hok b u e).stay (fun c v hc q=>k c v ?_ q) (fun _ q=>q) fun _ _ q=>q
  rcases hc with z | z
  ·rw [z];exact nt b u e
  ·exact nt c _ z
theorem bQ.track {D:ah}{ho:HO} (I:bQ X pins σ H s) (hf:pR X pins H D) (new:dL X.prog X.w (upd H D ho) s.heap D ho):bQ X pins σ (upd H D ho) s:=by
 obtain ⟨f0,f1,f2,f3,f4,f5⟩:=hf
 have I':bQ X pins σ (upd H D ho) { s with heap:=s.heap,gens:=s.gens,drawn:=s.drawn,toks:=s.toks }:=I.step (ch:=[D]) (fun b hb=>by
   obtain rfl:b=D:=by simpa using hb
   exact ⟨f3,f1,f4,f5⟩) (fun b o _ _ _ e _=>e) (fun b o _ _ _ e _=>⟨o.slots,e⟩) (fun b o hc e n=>by rw [bj (fun z=>hc (by simp [z]))];exact n) (fun b o _ e=>⟨o,e⟩)
  (fun b xs e=>by rw [bj (bA e f0)];exact e) (fun b o xs e=>by rw [bj (bA e f0)];exact e) (fun b ps e=>⟨#[],by rw [bj (bA e f0),e];simp⟩) (fun m hm=>hm) (v3 I.hok f0 new) I.bare
 exact I'
end
section
variable {prog:aK}{w:aY}{A:b6}{E:a8->ac->Prop}{s:ac}{it l:ah}{i:Nat}{items:Array a8}
theorem u7 {x:a8}{Q:a8->ac->Prop} (ti:s.heap.IsTupleIter it l i) (tl:s.heap.IsTuple l items) (hx:items[i]?=some x)
  (q:∀ h',h'.IsTupleIter it l (i + 1)->bG it s.heap h'->Q x { s with heap:=h' }):au (aP prog w) A (cw (.ref it)) Q E s:=by
 obtain ⟨oi,ei,ci,di⟩:=id ti
 obtain ⟨ot,et,_,nt,dt⟩:=tl
 unfold cw
 refine a7 (cX (name:=iC "__next__") ti.typeIs iD ?_)
 refine cE iD ti.typeIs B_ ?_ (AA _)
 show au _ _ (EA (.ref it) 0 >>= _) _ _ s
 refine a7 (dA ei di (x:=.ref l) rfl ?_)
 show au _ _ (if (c6 l == fG)=true then _ else _) _ _ s
 rw [if_neg (fun z:(c6 l == fG)=true=>a_ z)]
 show au _ _ (EA (.ref it) 1 >>= _) _ _ s
 refine a7 (dA ei di (x:=.int i 0) rfl ?_)
 show au _ _ (Jy (.ref l) >>= _) _ _ s
 refine a7 (eg et dt ?_)
 simp only [eR,hx]
 refine a7 (iS ei di (by simp) (ae ⟨x,rfl,ae (q _ ?_ (bS ..))⟩))
 refine ⟨_,gZ _ ei (Obj.isFreed_of_fields (JZ di _)),(Obj.cls_mapFields ..).trans ci,?_⟩
 rw [JZ di];simp [cu]
theorem u9 {Q:a8->ac->Prop} (hh:A.handled=none) (ti:s.heap.IsTupleIter it l i) (tl:s.heap.IsTuple l items) (hx:items[i]?=none)
  (q:∀ h' e,Heap.ExtBut it s.heap h'->(∃ o,h'.get? e=some o/\o.cls=.type "StopIteration")->E (.ref e) { s with heap:=h' }):au (aP prog w) A (cw (.ref it)) Q E s:=by
 obtain ⟨oi,ei,ci,di⟩:=id ti
 obtain ⟨ot,et,_,nt,dt⟩:=tl
 unfold cw
 refine a7 (cX (name:=iC "__next__") ti.typeIs iD ?_)
 refine cE iD ti.typeIs B_ ?_ (AA _)
 show au _ _ (EA (.ref it) 0 >>= _) _ _ s
 refine a7 (dA ei di (x:=.ref l) rfl ?_)
 show au _ _ (if (c6 l == fG)=true then _ else _) _ _ s
 rw [if_neg (fun z:(c6 l == fG)=true=>a_ z)]
 show au _ _ (EA (.ref it) 1 >>= _) _ _ s
 refine a7 (dA ei di (x:=.int i 0) rfl ?_)
 show au _ _ (Jy (.ref l) >>= _) _ _ s
 refine a7 (eg et dt ?_)
 simp only [eR,hx]
 refine a7 (gJ (a7 (iS ei di (by simp) ?_)))
 show au _ _ (xa (.type "StopIteration") [] >>= _) _ _ _
 refine a7 ?_
 simp only [xa,newTuple]
 refine a7 (cr ?_ (by size_fits))
 refine a7 (m:=uT _ _) (Nk (a:=fG) ?_ ?_)
 ·first
   | rfl
   | (simp only [uT];rfl)
 refine cr ?_ (by size_fits)
 simp only [uS]
 refine a7 (wpAny_handled ?_)
 rw [show A.in1.handled=none from hh]
 refine a7 (ae (wpAny_throw ?_))
 exact q _ _ (((bS ..).extBut.push _).push _) ⟨_,aC _ rfl,rfl⟩
theorem Iq (hh:A.handled=none) (it l:ah) (hne:l≠it) (items:Array a8) :
  Draws prog w A it [it,l] items.size (fun i v=>items[i]?=some v) (fun i h=>h.IsTupleIter it l i/\h.IsTuple l items) where
 live:=fun i h st=>let ⟨o,e,_⟩:=st.1;⟨o,e⟩
 frame:=fun i h h' st k=>⟨let ⟨o,e,r⟩:=st.1;⟨o,k it (by simp) o e,r⟩,let ⟨o,e,r⟩:=st.2;⟨o,k l (by simp) o e,r⟩⟩
 item:=fun i s Q E hi st q=>u7 st.1 st.2 (x:=items[i]) (by simp [hi]) fun h' t' sb=>q _ h' s.toks (by simp [hi]) ⟨t',st.2.extBut sb.extBut hne⟩ sb
 done:=fun s Q E st q=>u9 hh st.1 st.2 (by simp) q
end
theorem xu (l:ah) (items:Array a8) (n:Nat) (dct:Option ah) (sl:Array (Option a8)) :
  Meets (jw.«enumerate.__new__» ⟨[.type "enumerate",.ref l],[]⟩) (fun _ R s=>s.heap.get? l=some { cls:=.type "tuple",dict:=dct,data:=.seq items n,slots:=sl } /\
   R (.ok (.ret (.ref (s.heap.push { cls:=.type "tuple_iterator",data:=.fields #[.ref l,.int 0 0] }).objs.size)))
    { s with heap:=(s.heap.push { cls:=.type "tuple_iterator",data:=.fields #[.ref l,.int 0 0] }).push { cls:=.type "enumerate",data:=.fields #[.none,.bool false,.ref s.heap.objs.size,cu 0,.none,.none] } }) :=
 .of_wp fun prog w A R s h=>by
  obtain ⟨hp,g,d,tk,os⟩:=s
  obtain ⟨hl,h⟩:=h
  have hsub:=PySem.sub_enumerate
  have hL:Eg (Eh ⟨hp,g,d,tk,os⟩) l items:=⟨_,hl,rfl,n,rfl⟩
  wp_walk using fN hl
  refine wpAny_stack_any fun st=>ae ?_
  split
  ·rename_i c _ _ _ _ _
   cases (c == i5 "enumerate")
   ·wp_walk using fN hl,fY hL
    exact ⟨_,rfl,h⟩
   ·wp_walk using fN hl,fY hL
    exact ⟨_,rfl,h⟩
  ·wp_walk using fN hl,fY hL
   exact ⟨_,rfl,h⟩
end
section
section
variable {prog:aK}{w:aY}{A:b6}{E:a8->ac->Prop}{s:ac}
theorem zd {l:ah}{items:Array a8}{Q:a8->ac->Prop} (hL:s.heap.IsTuple l items)
  (h:∀ h',IsEnum h' (s.heap.objs.size + 1) s.heap.objs.size 0 .none->h'.IsTupleIter s.heap.objs.size l 0->(∀ b o,s.heap.get? b=some o->h'.get? b=some o)->h'.objs.size=s.heap.objs.size + 2 ->
   Q (.ref (s.heap.objs.size + 1)) { s with heap:=h' }):au (aP prog w) A (call (.type "enumerate") [.ref l]) Q E s:=by
 obtain ⟨⟨c,dc,dt,sl⟩,hl,hc,n,hd⟩:=hL
 obtain rfl:c=.type "tuple":=hc
 obtain rfl:dt=.seq items n:=hd
 refine callType_new F.called_enumerate (by decide) (F.typeCall_enumerate_1 _) (F.newCall_enumerate_1 _) (fun obj=>F.args_object_init_2 obj _) F.entry_enumerate_new (xu l items n dc sl) ⟨hl,?_⟩
 have z1:(s.heap.push { cls:=.type "tuple_iterator",data:=.fields #[.ref l,.int 0 0] }).objs.size=s.heap.objs.size + 1:=ck ..
 show _/\_
 rw [z1]
 have he:IsEnum ((s.heap.push { cls:=.type "tuple_iterator",data:=.fields #[.ref l,.int 0 0] }).push { cls:=.type "enumerate",data:=.fields #[.none,.bool false,.ref s.heap.objs.size,cu 0,.none,.none] }) (s.heap.objs.size + 1) s.heap.objs.size 0 .none:=by
  have q:=aC (s.heap.push { cls:=.type "tuple_iterator",data:=.fields #[.ref l,.int 0 0] }) (o:={ cls:=.type "enumerate",data:=.fields #[.none,.bool false,.ref s.heap.objs.size,cu 0,.none,.none] }) rfl
  rw [z1] at q
  exact q
 exact ⟨⟨_,he,rfl⟩,h _ he ⟨_,af _ (aC _ rfl),rfl,rfl⟩ (fun b o e=>af _ (af _ e)) (by rw [ck,z1])⟩
end
def UU (K:a6) (a:ah):It :=
 ⟨fun i H=>∃ xs x,kG K H a xs/\xs[i]?=some x,fun i H v H'=>∃ p,H p=none/\v=.ref p/\∀ xs,kG K H a xs->∃ x,xs[i]?=some x/\H'=upd H p (.tup [.int i,x]),fun i H=>∃ xs,kG K H a xs/\xs.length<=i⟩
theorem Ir {P:aK}{w:aY}{K:a6}{elts:List aV}{x1}{pos:Pos} (a e it:ah) (hei:e≠it):xk P w K (.Tuple elts x1 pos) (UU K a) [e,it] e (fun i h=>(∃ old,IsEnum h e it i old)/\h.IsTupleIter it a i) where
 mem:=by simp
 obj:=fun i h st b hb=>by
  simp only [aZ,aQ,or_false] at hb
  rcases hb with rfl | rfl
  ·obtain ⟨⟨old,q⟩,_⟩:=st
   exact ⟨_,q,fun v z=>by cases z⟩
  ·obtain ⟨_,o,q,_,d⟩:=st
   exact ⟨o,q,fun v z=>by rw [d] at z;cases z⟩
 keep:=fun i h h' st k=>⟨let ⟨old,q⟩:=st.1;⟨old,k e (by simp) _ q⟩,let ⟨o,q,r⟩:=st.2;⟨o,k it (by simp) o q,r⟩⟩
 item:=by
  intro X hP hw hK hc i pins s σ H E I hf st hg
  subst hP hw hK
  obtain ⟨xs,x,hq,hx⟩:=hg
  obtain ⟨its,rv,p,hz⟩:=I.tuple hq
  obtain ⟨u,hu,ru⟩:=rv.get hx
  obtain ⟨⟨old,he⟩,hit⟩:=st
  have hit0:=hit
  obtain ⟨oi,ei,_⟩:=hit0
  have hai:a≠it:=fun z=>by
   obtain ⟨o1,e1,c1,_⟩:=p
   obtain ⟨o2,e2,c2,_⟩:=hit
   rw [z,e2] at e1;cases e1;rw [c2] at c1;exact absurd (G7 c1) (by decide)
  have hae:a≠e:=fun z=>by
   obtain ⟨o1,e1,c1,_⟩:=p
   rw [z,he] at e1;cases e1;exact absurd (G7 (show i5 "enumerate"=i5 "tuple" from c1)) (by decide)
  have hlt:i<its.toArray.size:=by simp;exact (List.getElem?_eq_some_iff.mp hu).1
  have he0:=am he
  refine wpAny_pyNext_enum_itemD (Iq (by simpa using I.ok.hd hc) it a hai its.toArray) he ⟨hit,p⟩ hlt hei (by simp [hei,cW hae]) ?_
  intro x' h1 tk hx' eo st1 tup sz k1
  have hx'':its[i]?=some x':=by simpa using hx'
  rw [hu] at hx'';cases hx''
  refine ⟨_,rfl,EB eo fun h2 e2 sb2=>?_⟩
  have szn:s.heap.objs.size≠e:=eK he0
  have I2:bQ X pins σ H { s with heap:=h2,toks:=tk + 1 }:=I.turnedL (ch:=[e,it]) (fun b o hb q=>by
   simp only [aZ,aQ,or_false,not_or] at hb
   exact (sb2.2 b hb.1).trans (k1 b o hb.1 hb.2 q)) hf
  have fT:=I.fpOk (H':=H) (ao _) (I.hok.fresh (ao _))
  have tup2:h2.get? s.heap.objs.size=some { cls:=.type "tuple",data:=.seq #[.int i tk,u] }:=(sb2.2 _ szn).trans tup
  have I3:=I2.track (ho:=.tup [.int i,x]) fT ⟨by show 2<=sizeLine;decide,[.int i tk,u],.cons ⟨tk,rfl⟩ (.cons ru .nil),⟨_,tup2,rfl,0,rfl⟩⟩
  refine ⟨.ref s.heap.objs.size,_,I3,rfl,⟨_,fT.1,rfl,fun ys hy=>?_⟩,⟨⟨u,?_⟩,?_⟩,fun b hb=>?_⟩
  ·rw [I.tuple_inj hy hq];exact ⟨x,hx,rfl⟩
  ·have:(((i + 1:Nat):Int))=(i:Int) + 1:=by omega
   rw [this];exact e2
  ·obtain ⟨o,q,r⟩:=st1.1
   exact ⟨o,(sb2.2 it (cW hei)).trans q,r⟩
  ·rw [bj]
   ·exact (hf b hb).1
   ·simp only [aZ,aQ,or_false] at hb
    rcases hb with z | z
    ·rw [z];exact aE he0
    ·rw [z];exact aE (am ei)
 done:=by
  intro X hP hw hK hc i pins s σ H E I hf st hg
  subst hP hw hK
  obtain ⟨xs,hq,hx⟩:=hg
  obtain ⟨its,rv,p,hz⟩:=I.tuple hq
  obtain ⟨⟨old,he⟩,hit⟩:=st
  have hl:=rv.length
  have hT:s.TypeIs (.ref e) "enumerate":=⟨_,he,rfl⟩
  unfold mF
  refine a7 (wH (cX (name:=iC "__next__") hT Jz ?_))
  refine cE Jz hT F.entry_enumerate_next ?_ (F.args_enumerate_next_1 _)
  show au _ _ (EA (.ref e) 2 >>= _) _ _ _
  refine a7 (dA he rfl (x:=.ref it) rfl ?_)
  refine a7 (u9 (by simpa using I.ok.hd hc) hit (show s.heap.IsTuple a its.toArray from p) (by simp;omega) fun h' z eb hz'=>?_)
  obtain ⟨o,ho,hcl⟩:=hz'
  refine a7 (j8 (T:="StopIteration") (b:=true) ⟨o,ho,hcl⟩ Ez ?_)
  exact ae ⟨rfl,I.turnedL (t':=s.toks) (ch:=[e,it]) (fun b o hb q=>eb b o (by
   simp only [aZ,aQ,or_false,not_or] at hb;exact hb.2) q) hf⟩
 self:=fun _ _ _ _ _ st h=>let ⟨⟨_,q⟩,_⟩:=st;pw q h
def Su (K:a6) (ta:TA):TI:=fun σ H R=>ta σ H fun vs H1=>∃ a xs,vs=[.ref a]/\kG K H1 a xs/\R (UU K a) H1
theorem O9 {X:Cx}{elts:List aV}{x1}{tpos p pos:Pos}{a:aV}{ta:TA} (hg:Gl X "enumerate") (hm:X.mg "enumerate"=none) (ha:PA X [a] ta) (hs:aw [a] X.env=[(false,cR a X.env)]:=by rfl) :
  PI X (.Tuple elts x1 tpos) (.Call (.Name "enumerate" p) [a] [] pos) (Su X.K ta):=by
 intro pins s σ H R I h
 refine Call_ (pO I hg hm boot_enumerate (dq (fO (ha pos pins s σ H _ I h) fun us s1 ⟨vs,H1,I1,r1,q1⟩=>?_) hs rfl))
 obtain ⟨ad,xs,rfl,hq,q⟩:=q1
 obtain ⟨u,rfl,rx⟩:=ki r1
 cases rx
 obtain ⟨its,rv,tp,hz⟩:=I1.tuple hq
 refine zd (show s1.heap.IsTuple ad its.toArray from tp) fun h' e1 t1 kp sz=>?_
 refine pw e1 ?_
 have I2:bQ X pins σ H1 { s1 with heap:=h' }:=I1.kept (t':=s1.toks) kp
 refine ⟨s1.heap.objs.size + 1,[s1.heap.objs.size + 1,s1.heap.objs.size],_,_,H1,rfl,I2,Ir ad _ _ (eK (dI _)),⟨⟨.none,e1⟩,t1⟩,fun b hb=>?_,q⟩
 simp only [aZ,aQ,or_false] at hb
 rcases hb with z | z
 ·rw [z];exact I1.fpOk (gj _) (I1.hok.fresh (gj _))
 ·rw [z];exact I1.fpOk (ao _) (I1.hok.fresh (ao _))
end
section
section
variable {prog:aK}{w:aY}{A:b6}{E:a8->ac->Prop}{s:ac}{z TI TO i1 i2 l1 l2:ah}{k1 k2:Nat}{xs ys:Array a8}{x y a b:a8}
theorem iT {h h':bp}{it l:ah}{k:Nat}{c:ah} (t:h.IsTupleIter it l k) (sb:bG c h h') (ne:it≠c):h'.IsTupleIter it l k:=t.extBut sb.extBut ne
theorem nV {h h':bp}{l:ah}{xs:Array a8}{c:ah} (t:h.IsTuple l xs) (sb:bG c h h') (ne:l≠c):h'.IsTuple l xs:=t.extBut sb.extBut ne
theorem KG {Q:a8->ac->Prop} (D:Np z TI TO i1 i2 l1 l2) (za:uU s.heap z TI TO .none) (pa:jD s.heap TI (.ref i1) (.ref i2)) (pb:jD s.heap TO a b)
  (u1:s.heap.IsTupleIter i1 l1 k1) (u2:s.heap.IsTupleIter i2 l2 k2) (v1:s.heap.IsTuple l1 xs) (v2:s.heap.IsTuple l2 ys) (hx:xs[k1]?=some x) (hy:ys[k2]?=some y)
  (q:∀ h',uU h' z TI TO (cu s.heap.objs.size)->jD h' TO x y->h'.IsTupleIter i1 l1 (k1 + 1)->h'.IsTupleIter i2 l2 (k2 + 1)->jD h' s.heap.objs.size x y ->
   (∀ c o,c≠z->c≠TO->c≠i1->c≠i2->s.heap.get? c=some o->h'.get? c=some o)->Q (.ref s.heap.objs.size) { s with heap:=h' }) :
  au (aP prog w) A (jw.«zip.__next__» ⟨[.ref z],[]⟩) (fun fin s'=>∃ v,fin=.done (.ret v)/\Q v s') E s:=by
 show au _ _ (EA (.ref z) 2 >>= _) _ _ _
 refine a7 (dA za rfl (x:=.bool false) rfl ?_)
 show au _ _ (EA (.ref z) 3 >>= _) _ _ _
 refine a7 (dA za rfl (x:=.ref TI) rfl ?_)
 refine a7 (eg pa rfl ?_)
 show au _ _ (eC (.ref z) >>= _) _ _ _
 refine a7 ?_
 unfold eC
 refine a7 (dA za rfl (x:=.none) rfl (ae ?_))
 simp only [if_true]
 refine a7 (gJ ?_)
 refine a7 (dA za rfl (x:=.ref TO) rfl ?_)
 refine a7 (hX za (by simp) fun g1 z1 b1=>?_)
 replace z1:uU g1 z TI TO .ellipsis:=z1
 refine a7 ?_
 simp only [N1,Nq,l9,rF]
 refine a7 (a7 (wJ ?_))
 show au _ _ (cw (.ref i1) >>= _) _ _ _
 refine a7 (u7 (iT u1 b1 D.i1z) (nV v1 b1 D.l1z) hx fun g2 w1 b2=>ae ?_)
 have p2:jD g2 TO a b:=b2.extBut _ _ D.TOi1 (b1.extBut _ _ D.TOz pb)
 refine a7 (eg p2 rfl (a7 (uV p2 fun g3 p3 b3=>?_)))
 replace p3:jD g3 TO x b:=p3
 refine a7 (Nr (ae (a7 (a7 (wJ ?_)))))
 show au _ _ (cw (.ref i2) >>= _) _ _ _
 refine a7 (u7 (iT (iT (iT u2 b1 D.i2z) b2 D.i12.symm) b3 D.TOi2.symm) (nV (nV (nV v2 b1 D.l2z) b2 D.l2i1) b3 D.l2TO) hy fun g4 w2 b4=>ae ?_)
 have p4:jD g4 TO x b:=b4.extBut _ _ D.TOi2 p3
 refine a7 (eg p4 rfl (a7 (uV p4 fun g5 p5 b5=>?_)))
 replace p5:jD g5 TO x y:=p5
 refine a7 (Nr (ae (ae ?_)))
 refine a7 (eg p5 rfl (a7 (wpAny_newTuple ?_)))
 have sz:g5.objs.size=s.heap.objs.size:=by rw [b5.1,b4.1,b3.1,b2.1,b1.1]
 have z5:uU g5 z TI TO .ellipsis:=b5.extBut _ _ D.TOz.symm (b4.extBut _ _ D.i2z.symm (b3.extBut _ _ D.TOz.symm (b2.extBut _ _ D.i1z.symm z1)))
 have k5:∀ c o,c≠z->c≠TO->c≠i1->c≠i2->s.heap.get? c=some o->g5.get? c=some o:=fun c o n1 n2 n3 n4 e =>
  b5.extBut _ _ n2 (b4.extBut _ _ n4 (b3.extBut _ _ n2 (b2.extBut _ _ n3 (b1.extBut _ _ n1 e))))
 have y1:g5.IsTupleIter i1 l1 (k1 + 1):=iT (iT (iT w1 b3 D.TOi1.symm) b4 D.i12) b5 D.TOi1.symm
 have y2:g5.IsTupleIter i2 l2 (k2 + 1):=iT w2 b5 D.TOi2.symm
 have zl:z<g5.objs.size:=am z5
 show au _ _ (lZ (.ref z) (.ref g5.objs.size) >>= _) _ _ _
 refine a7 ?_
 unfold lZ
 have z6:uU (g5.push { cls:=.type "tuple",data:=.seq #[x,y] }) z TI TO .ellipsis:=af _ z5
 refine a7 (hX z6 (by simp) fun g7 z7 b7=>?_)
 replace z7:uU g7 z TI TO (cu g5.objs.size):=z7
 refine hX z7 (by simp) fun g8 z8 b8=>?_
 replace z8:uU g8 z TI TO (cu g5.objs.size):=z8
 have up:∀ c o,c≠z->g5.get? c=some o->g8.get? c=some o:=fun c o n1 e=>b8.extBut _ _ n1 (b7.extBut _ _ n1 (af _ e))
 have p8:jD g8 g5.objs.size x y:=b8.extBut _ _ (eK zl) (b7.extBut _ _ (eK zl) (aC _ rfl))
 rw [sz] at z8 p8
 refine ae ⟨_,rfl,?_⟩
 show Q (.ref g5.objs.size) _
 rw [sz]
 exact q g8 z8 (up _ _ D.TOz p5) (let ⟨o,e,r⟩:=y1;⟨o,up _ o D.i1z e,r⟩) (let ⟨o,e,r⟩:=y2;⟨o,up _ o D.i2z e,r⟩) p8 fun c o n1 n2 n3 n4 e=>up c o n1 (k5 c o n1 n2 n3 n4 e)
theorem KH {Q:Fin->ac->Prop} (hh:A.handled=none) (D:Np z TI TO i1 i2 l1 l2) (za:uU s.heap z TI TO .none) (pa:jD s.heap TI (.ref i1) (.ref i2)) (pb:jD s.heap TO a b)
  (u1:s.heap.IsTupleIter i1 l1 k1) (u2:s.heap.IsTupleIter i2 l2 k2) (v1:s.heap.IsTuple l1 xs) (v2:s.heap.IsTuple l2 ys) (hend:xs[k1]?=none\/ys[k2]?=none)
  (q:∀ h' e,(∀ c o,c≠z->c≠TO->c≠i1->c≠i2->s.heap.get? c=some o->h'.get? c=some o)->(∃ o,h'.get? e=some o/\o.cls=.type "StopIteration")->E (.ref e) { s with heap:=h' }) :
  au (aP prog w) A (jw.«zip.__next__» ⟨[.ref z],[]⟩) Q E s:=by
 show au _ _ (EA (.ref z) 2 >>= _) _ _ _
 refine a7 (dA za rfl (x:=.bool false) rfl ?_)
 show au _ _ (EA (.ref z) 3 >>= _) _ _ _
 refine a7 (dA za rfl (x:=.ref TI) rfl ?_)
 refine a7 (eg pa rfl ?_)
 show au _ _ (eC (.ref z) >>= _) _ _ _
 refine a7 ?_
 unfold eC
 refine a7 (dA za rfl (x:=.none) rfl (ae ?_))
 simp only [if_true]
 refine a7 (gJ ?_)
 refine a7 (dA za rfl (x:=.ref TO) rfl ?_)
 refine a7 (hX za (by simp) fun g1 z1 b1=>?_)
 replace z1:uU g1 z TI TO .ellipsis:=z1
 refine a7 ?_
 simp only [N1,Nq,l9,rF]
 refine a7 (a7 (wJ ?_))
 show au _ _ (cw (.ref i1) >>= _) _ _ _
 cases hx:xs[k1]? with
 | none =>
  refine a7 (u9 hh (iT u1 b1 D.i1z) (nV v1 b1 D.l1z) hx fun g2 e b2 he=>?_)
  obtain ⟨oe,ee,ce⟩:=he
  have z2:uU g2 z TI TO .ellipsis:=b2 _ _ D.i1z.symm z1
  have ez:e≠z:=fun n=>by subst n;rw [z2] at ee;cases ee;simp at ce
  refine hX z2 (by simp) fun g3 _ b3=>q g3 e (fun c o n1 _ n3 _ m=>b3.extBut _ _ n1 (b2 _ _ n3 (b1.extBut _ _ n1 m))) ⟨oe,b3.extBut _ _ ez ee,ce⟩
 | some x =>
  have hy:ys[k2]?=none:=hend.resolve_left fun n=>by rw [hx] at n;cases n
  refine a7 (u7 (iT u1 b1 D.i1z) (nV v1 b1 D.l1z) hx fun g2 w1 b2=>ae ?_)
  have p2:jD g2 TO a b:=b2.extBut _ _ D.TOi1 (b1.extBut _ _ D.TOz pb)
  refine a7 (eg p2 rfl (a7 (uV p2 fun g3 p3 b3=>?_)))
  refine a7 (Nr (ae (a7 (a7 (wJ ?_)))))
  show au _ _ (cw (.ref i2) >>= _) _ _ _
  refine a7 (u9 hh (iT (iT (iT u2 b1 D.i2z) b2 D.i12.symm) b3 D.TOi2.symm) (nV (nV (nV v2 b1 D.l2z) b2 D.l2i1) b3 D.l2TO) hy fun g4 e b4 he=>?_)
  obtain ⟨oe,ee,ce⟩:=he
  have z4:uU g4 z TI TO .ellipsis:=b4 _ _ D.i2z.symm (b3.extBut _ _ D.TOz.symm (b2.extBut _ _ D.i1z.symm z1))
  have ez:e≠z:=fun n=>by subst n;rw [z4] at ee;cases ee;simp at ce
  refine hX z4 (by simp) fun g5 _ b5=>q g5 e (fun c o n1 n2 n3 n4 m=>b5.extBut _ _ n1 (b4 _ _ n4 (b3.extBut _ _ n2 (b2.extBut _ _ n3 (b1.extBut _ _ n1 m))))) ⟨oe,b5.extBut _ _ ez ee,ce⟩
end
abbrev U9 (h:bp) (l1:ah):bp:=h.push { cls:=.type "tuple_iterator",data:=.fields #[.ref l1,.int 0 0] }
abbrev Ua (h:bp) (l1 l2:ah):bp:=(U9 h l1).push { cls:=.type "tuple_iterator",data:=.fields #[.ref l2,.int 0 0] }
abbrev Ub (h:bp) (l1 l2:ah):bp:=(Ua h l1 l2).push { cls:=.type "tuple",data:=.seq #[.ref h.objs.size,.ref (U9 h l1).objs.size] }
abbrev Uc (h:bp) (l1 l2:ah):bp:=(Ub h l1 l2).push { cls:=.type "tuple",data:=.seq #[.none,.none] }
abbrev RO (h:bp) (l1 l2:ah):bp:=(Uc h l1 l2).push { cls:=.type "zip",data:=.fields #[.none,.bool false,.bool false,.ref (Ua h l1 l2).objs.size,.ref (Ub h l1 l2).objs.size] }
theorem ze (l1 l2:ah) (xs ys:Array a8) :
  Meets (jw.«zip.__new__» ⟨[.type "zip",.ref l1,.ref l2],[]⟩) (fun _ R s=>s.heap.IsTuple l1 xs/\s.heap.IsTuple l2 ys/\R (.ok (.ret (.ref (Uc s.heap l1 l2).objs.size))) { s with heap:=RO s.heap l1 l2 }) :=
 .of_wp fun prog w A R s h=>by
  obtain ⟨hp,g,d,tk,os⟩:=s
  obtain ⟨v1,v2,h⟩:=h
  have hsub:=PySem.sub_zip
  have L1:Eg (Eh ⟨hp,g,d,tk,os⟩) l1 xs:=v1
  have L2:Eg (Eh ⟨hp.push { cls:=.type "tuple_iterator",data:=.fields #[.ref l1,.int 0 0] },g,d,tk,os⟩) l2 ys:=Heap.IsTuple.push v2 _
  wp_walk using fY L1,fY L2
  exact ⟨_,rfl,h⟩
section
variable {prog:aK}{w:aY}{A:b6}{E:a8->ac->Prop}{s:ac}
theorem AV {l1 l2:ah}{xs ys:Array a8}{Q:a8->ac->Prop} (v1:s.heap.IsTuple l1 xs) (v2:s.heap.IsTuple l2 ys)
  (h:∀ h',uU h' (s.heap.objs.size + 4) (s.heap.objs.size + 2) (s.heap.objs.size + 3) .none->jD h' (s.heap.objs.size + 2) (.ref s.heap.objs.size) (.ref (s.heap.objs.size + 1)) ->
   jD h' (s.heap.objs.size + 3) .none .none->h'.IsTupleIter s.heap.objs.size l1 0->h'.IsTupleIter (s.heap.objs.size + 1) l2 0 ->
   (∀ c o,s.heap.get? c=some o->h'.get? c=some o)->Q (.ref (s.heap.objs.size + 4)) { s with heap:=h' }):au (aP prog w) A (call (.type "zip") [.ref l1,.ref l2]) Q E s:=by
 refine callType_new F.called_zip (by decide) (F.typeCall_zip_2 _ _) (F.newCall_zip_2 _ _) (fun obj=>F.args_object_init_3 obj _ _) F.entry_zip_new (ze l1 l2 xs ys) ⟨v1,v2,?_⟩
 have n1:(U9 s.heap l1).objs.size=s.heap.objs.size + 1:=ck ..
 have n2:(Ua s.heap l1 l2).objs.size=s.heap.objs.size + 2:=by rw [ck,n1]
 have n3:(Ub s.heap l1 l2).objs.size=s.heap.objs.size + 3:=by rw [ck,n2]
 have n4:(Uc s.heap l1 l2).objs.size=s.heap.objs.size + 4:=by rw [ck,n3]
 have c5:(RO s.heap l1 l2).get? (Uc s.heap l1 l2).objs.size=some _:=aC _ rfl
 have c4:(RO s.heap l1 l2).get? (Ub s.heap l1 l2).objs.size=some _:=af _ (aC _ rfl)
 have c3:(RO s.heap l1 l2).get? (Ua s.heap l1 l2).objs.size=some _:=af _ (af _ (aC _ rfl))
 have c2:(RO s.heap l1 l2).get? (U9 s.heap l1).objs.size=some _:=af _ (af _ (af _ (aC _ rfl)))
 have c1:(RO s.heap l1 l2).get? s.heap.objs.size=some _:=af _ (af _ (af _ (af _ (aC _ rfl))))
 show _/\_
 rw [n2,n3,n4] at c5
 rw [n1,n2] at c3
 rw [n3] at c4
 rw [n1] at c2
 rw [n4]
 exact ⟨⟨_,c5,rfl⟩,h _ c5 c3 c4 ⟨_,c1,rfl,rfl⟩ ⟨_,c2,rfl,rfl⟩ fun c o e=>af _ (af _ (af _ (af _ (af _ e))))⟩
end
theorem kG.ne_fp {X:Cx}{pins:List (ah×Obj)}{σ:St}{H:Hp}{s:ac}{a b:ah}{xs:List V} (I:bQ X pins σ H s) (hq:kG X.K H a xs) (hf:pR X pins H b):a≠b:=by
 rintro rfl
 rcases hq with (h | ⟨o,h⟩) | ⟨o,its,n,hk,_⟩
 ·rw [hf.1] at h;cases h
 ·rw [hf.1] at h;cases h
 ·have e:X.base.get? a=some o:=I.mod.kin a o hk
  rcases hf.f3 with z | z
  ·exact I.ok.noex a o e z
  ·exact absurd (aJ (am e) (bU I.ok.bsz z)) (bV _)
def UV (K:a6) (a b:ah):It :=
 ⟨fun i H=>∃ xs ys x y,kG K H a xs/\kG K H b ys/\xs[i]?=some x/\ys[i]?=some y,
  fun i H v H'=>∃ p,H p=none/\v=.ref p/\∀ xs ys,kG K H a xs->kG K H b ys->∃ x y,xs[i]?=some x/\ys[i]?=some y/\H'=upd H p (.tup [x,y]),
  fun i H=>∃ xs ys,kG K H a xs/\kG K H b ys/\(xs.length<=i\/ys.length<=i)⟩
structure UW (z TI TO i1 i2:ah):Prop where
 d1:TI≠z
 d2:TO≠z
 d3:i1≠z
 d4:i2≠z
 d5:TI≠TO
 d6:TI≠i1
 d7:TI≠i2
 d8:TO≠i1
 d9:TO≠i2
 d0:i1≠i2
theorem KI {P:aK}{w:aY}{K:a6}{elts:List aV}{x1}{pos:Pos} (l1 l2 z TI TO i1 i2:ah) (Z:UW z TI TO i1 i2) :
  xk P w K (.Tuple elts x1 pos) (UV K l1 l2) [z,TI,TO,i1,i2] z (fun i h=>uU h z TI TO .none/\jD h TI (.ref i1) (.ref i2)/\(∃ a b,jD h TO a b)/\h.IsTupleIter i1 l1 i/\h.IsTupleIter i2 l2 i) where
 mem:=by simp
 obj:=fun i h st b hb=>by
  obtain ⟨s1,s2,⟨_,_,s3⟩,⟨o4,e4,_,f4⟩,⟨o5,e5,_,f5⟩⟩:=st
  simp only [aZ,aQ,or_false] at hb
  rcases hb with rfl | rfl | rfl | rfl | rfl
  ·exact ⟨_,s1,fun v q=>by cases q⟩
  ·exact ⟨_,s2,fun v q=>by cases q⟩
  ·exact ⟨_,s3,fun v q=>by cases q⟩
  ·exact ⟨o4,e4,fun v q=>by rw [f4] at q;cases q⟩
  ·exact ⟨o5,e5,fun v q=>by rw [f5] at q;cases q⟩
 keep:=fun i h h' st k=>by
  obtain ⟨s1,s2,⟨u,v,s3⟩,⟨o4,e4,r4⟩,⟨o5,e5,r5⟩⟩:=st
  exact ⟨k z (by simp) _ s1,k TI (by simp) _ s2,⟨u,v,k TO (by simp) _ s3⟩,⟨o4,k i1 (by simp) _ e4,r4⟩,⟨o5,k i2 (by simp) _ e5,r5⟩⟩
 item:=by
  intro X hP hw hK hc i pins s σ H E I hf st hg
  subst hP hw hK
  obtain ⟨xs,ys,x,y,hq1,hq2,hx,hy⟩:=hg
  obtain ⟨its1,rv1,p1,_⟩:=I.tuple hq1
  obtain ⟨its2,rv2,p2,_⟩:=I.tuple hq2
  obtain ⟨u,hu,ru⟩:=rv1.get hx
  obtain ⟨v,hv,rv⟩:=rv2.get hy
  obtain ⟨s1,s2,⟨a,b,s3⟩,s4,s5⟩:=st
  have ne1:∀ b∈[z,TI,TO,i1,i2],l1≠b:=fun b hb=>hq1.ne_fp I (hf b hb)
  have ne2:∀ b∈[z,TI,TO,i1,i2],l2≠b:=fun b hb=>hq2.ne_fp I (hf b hb)
  have D:Np z TI TO i1 i2 l1 l2:=⟨Z.d1,Z.d2,Z.d3,Z.d4,Z.d5,Z.d6,Z.d7,Z.d8,Z.d9,Z.d0,ne1 z (by simp),ne1 TO (by simp),ne1 i1 (by simp),ne1 i2 (by simp),ne2 z (by simp),ne2 TO (by simp),ne2 i1 (by simp),ne2 i2 (by simp)⟩
  have zl:=am s1
  have hT:s.TypeIs (.ref z) "zip":=⟨_,s1,rfl⟩
  unfold mF
  refine a7 (wH (cX (name:=iC "__next__") hT rG ?_))
  refine cE rG hT F.entry_zip_next (KG D s1 s2 s3 s4 s5 p1 p2 (by simpa using hu) (by simpa using hv) fun h1 z1 t1 y1 y2 pr k1=>?_) (F.args_zip_next_1 _)
  refine ae ⟨_,rfl,wpAny_letOwnedTupleGo_zip z1 fun h2 z2 b2=>?_⟩
  have szn:s.heap.objs.size≠z:=eK zl
  have TIk:jD h1 TI (.ref i1) (.ref i2):=k1 TI _ Z.d1 Z.d5 Z.d6 Z.d7 s2
  have I2:bQ X pins σ H { s with heap:=h2 }:=I.turnedL (t':=s.toks) (ch:=[z,TI,TO,i1,i2]) (fun b o hb q=>by
   simp only [aZ,aQ,or_false,not_or] at hb
   exact (b2.2 b hb.1).trans (k1 b o hb.1 hb.2.2.1 hb.2.2.2.1 hb.2.2.2.2 q)) hf
  have fT:=I.fpOk (H':=H) (ao _) (I.hok.fresh (ao _))
  have pr2:h2.get? s.heap.objs.size=some { cls:=.type "tuple",data:=.seq #[u,v] }:=(b2.2 _ szn).trans pr
  have I3:=I2.track (ho:=.tup [x,y]) fT ⟨by show 2<=sizeLine;decide,[u,v],.cons ru (.cons rv .nil),⟨_,pr2,rfl,0,rfl⟩⟩
  refine ⟨.ref s.heap.objs.size,_,I3,rfl,⟨_,fT.1,rfl,fun xs' ys' h1 h2=>?_⟩,⟨z2,(b2.2 TI Z.d1).trans TIk,⟨u,v,(b2.2 TO Z.d2).trans t1⟩,iT y1 b2 Z.d3,iT y2 b2 Z.d4⟩,fun b hb=>?_⟩
  ·rw [I.tuple_inj h1 hq1,I.tuple_inj h2 hq2];exact ⟨x,y,hx,hy,rfl⟩
  ·have bl:b<s.heap.objs.size:=by
    simp only [aZ,aQ,or_false] at hb
    rcases hb with q | q | q | q | q
    ·rw [q];exact zl
    ·rw [q];exact am s2
    ·rw [q];exact am s3
    ·obtain ⟨_,e,_⟩:=s4;rw [q];exact am e
    ·obtain ⟨_,e,_⟩:=s5;rw [q];exact am e
   rw [bj (aE bl)];exact (hf b hb).1
 done:=by
  intro X hP hw hK hc i pins s σ H E I hf st hg
  subst hP hw hK
  obtain ⟨xs,ys,hq1,hq2,hend⟩:=hg
  obtain ⟨its1,rv1,p1,_⟩:=I.tuple hq1
  obtain ⟨its2,rv2,p2,_⟩:=I.tuple hq2
  obtain ⟨s1,s2,⟨a,b,s3⟩,s4,s5⟩:=st
  have ne1:∀ b∈[z,TI,TO,i1,i2],l1≠b:=fun b hb=>hq1.ne_fp I (hf b hb)
  have ne2:∀ b∈[z,TI,TO,i1,i2],l2≠b:=fun b hb=>hq2.ne_fp I (hf b hb)
  have D:Np z TI TO i1 i2 l1 l2:=⟨Z.d1,Z.d2,Z.d3,Z.d4,Z.d5,Z.d6,Z.d7,Z.d8,Z.d9,Z.d0,ne1 z (by simp),ne1 TO (by simp),ne1 i1 (by simp),ne1 i2 (by simp),ne2 z (by simp),ne2 TO (by simp),ne2 i1 (by simp),ne2 i2 (by simp)⟩
  have hT:s.TypeIs (.ref z) "zip":=⟨_,s1,rfl⟩
  have n1:=rv1.length
  have n2:=rv2.length
  unfold mF
  refine a7 (wH (cX (name:=iC "__next__") hT rG ?_))
  refine cE rG hT F.entry_zip_next (KH (by simpa using I.ok.hd hc) D s1 s2 s3 s4 s5 p1 p2 (hend.elim (fun q=>.inl (by simp;omega)) fun q=>.inr (by simp;omega)) fun h' e kp he=>?_) (F.args_zip_next_1 _)
  obtain ⟨o,eo,co⟩:=he
  refine a7 (j8 (T:="StopIteration") (b:=true) ⟨o,eo,co⟩ Ez ?_)
  exact ae ⟨rfl,I.turnedL (t':=s.toks) (ch:=[z,TI,TO,i1,i2]) (fun b o hb q=>by
   simp only [aZ,aQ,or_false,not_or] at hb
   exact kp b o hb.1 hb.2.2.1 hb.2.2.2.1 hb.2.2.2.2 q) hf⟩
 self:=fun _ _ _ _ _ st h=>wpAny_pyIter_zip st.1 h
def UX (K:a6) (ta:TA):TI:=fun σ H R=>ta σ H fun vs H1=>∃ a b xs ys,vs=[.ref a,.ref b]/\kG K H1 a xs/\kG K H1 b ys/\R (UV K a b) H1
theorem Q_ {X:Cx}{elts:List aV}{x1}{tpos p pos:Pos}{a b:aV}{ta:TA} (hg:Gl X "zip") (hm:X.mg "zip"=none) (ha:PA X [a,b] ta) (hs:aw [a,b] X.env=[(false,cR a X.env),(false,cR b X.env)]:=by rfl)
  (hs2:aw [b] X.env=[(false,cR b X.env)]:=by rfl):PI X (.Tuple elts x1 tpos) (.Call (.Name "zip" p) [a,b] [] pos) (UX X.K ta):=by
 intro pins s σ H R I h
 refine Call_ (pO I hg hm boot_zip (dq (fO (ha pos pins s σ H _ I h) fun us s1 ⟨vs,H1,I1,r1,q1⟩=>?_) (by rw [hs,hs2]) (by rw [hs2];rfl)))
 obtain ⟨a1,a2,xs,ys,rfl,hq1,hq2,q⟩:=q1
 obtain ⟨u1,u2,rfl,rx1,rx2⟩:=Pl r1
 cases rx1
 cases rx2
 obtain ⟨its1,rv1,p1,_⟩:=I1.tuple hq1
 obtain ⟨its2,rv2,p2,_⟩:=I1.tuple hq2
 refine AV (show s1.heap.IsTuple a1 its1.toArray from p1) (show s1.heap.IsTuple a2 its2.toArray from p2) fun h' c1 c2 c3 c4 c5 kp=>?_
 refine wpAny_pyIter_zip c1 ?_
 have I2:bQ X pins σ H1 { s1 with heap:=h' }:=I1.kept (t':=s1.toks) kp
 have ad:∀ k j:Nat,k≠j->s1.heap.objs.size + k≠s1.heap.objs.size + j:=fun k j n e=>n (Nat.add_left_cancel e)
 refine ⟨s1.heap.objs.size + 4,[s1.heap.objs.size + 4,s1.heap.objs.size + 2,s1.heap.objs.size + 3,s1.heap.objs.size + 0,s1.heap.objs.size + 1],_,_,H1,rfl,I2,
  KI a1 a2 _ _ _ _ _ ⟨ad _ _ (by decide),ad _ _ (by decide),ad _ _ (by decide),ad _ _ (by decide),ad _ _ (by decide),ad _ _ (by decide),ad _ _ (by decide),ad _ _ (by decide),ad _ _ (by decide),ad _ _ (by decide)⟩,
  ⟨c1,c2,⟨_,_,c3⟩,c4,c5⟩,fun b hb=>?_,q⟩
 have:∀ k:Nat,pR X pins H1 (s1.heap.objs.size + k):=fun k=>I1.fpOk (Nt _ _) (I1.hok.fresh (Nt _ _))
 simp only [aZ,aQ,or_false] at hb
 rcases hb with q | q | q | q | q<;>(rw [q];exact this _)
end
section
mutual
inductive E_ (K:a6) (H:Hp):V->pM->Prop
 | none:E_ K H .non .none
 | bool (b:Bool):E_ K H (.bl b) (.bool b)
 | int (i:Int):E_ K H (.int i) (.int i)
 | str (x:Str):E_ K H (.str x) (.str x)
 | list {a:ah}{xs:List V}{ds:List pM}:lU K H a xs->Reps K H xs ds->E_ K H (.ref a) (.list ds)
 | tuple {a:ah}{xs:List V}{ds:List pM}:kG K H a xs->Reps K H xs ds->E_ K H (.ref a) (.tuple ds)
inductive Reps (K:a6) (H:Hp):List V->List pM->Prop
 | nil:Reps K H [] []
 | cons {x:V}{xs:List V}{d:pM}{ds:List pM}:E_ K H x d->Reps K H xs ds->Reps K H (x::xs) (d::ds)
end
theorem cZ.tup {K:a6}{H H':Hp}{a:ah}{xs:List V} (e:cZ H H') (h:kG K H a xs):kG K H' a xs:=by
 rcases h with (h | ⟨o,h⟩) | h
 ·exact .inl (.inl (e _ _ h))
 ·exact .inl (.inr ⟨o,e _ _ h⟩)
 ·exact .inr h
section
variable {X:Cx}{pins:List (ah×Obj)}{σ:St}{H:Hp}{s:ac}
theorem Oa (I:bQ X pins σ H s) {a:ah}{xs:List V}{ds:List pM}{u:a8} (h:lU X.K H a xs) (ih:∀ {us:List a8},cV xs us->∃ as,ReadsAll s.heap us ds as) (r:de (.ref a) u):∃ as,Reads s.heap u (.list ds) as:=by
 cases r
 obtain ⟨its,rv,⟨o,n,e,c,_,d⟩,_⟩:=I.list h
 obtain ⟨as,ra⟩:=ih rv
 exact ⟨_,.list e c d (by simpa using ra)⟩
theorem KJ (I:bQ X pins σ H s) {a:ah}{xs:List V}{ds:List pM}{u:a8} (h:kG X.K H a xs) (ih:∀ {us:List a8},cV xs us->∃ as,ReadsAll s.heap us ds as) (r:de (.ref a) u):∃ as,Reads s.heap u (.tuple ds) as:=by
 cases r
 obtain ⟨its,rv,⟨o,e,c,n,d⟩,_⟩:=I.tuple h
 obtain ⟨as,ra⟩:=ih rv
 exact ⟨_,.tuple e c d (by simpa using ra)⟩
theorem qO (I:bQ X pins σ H s) {v:V}{d:pM} (h:E_ X.K H v d):∀ {u:a8},de v u->∃ as,Reads s.heap u d as :=
 E_.rec (motive_1:=fun v d _=>∀ {u:a8},de v u->∃ as,Reads s.heap u d as) (motive_2:=fun vs ds _=>∀ {us:List a8},cV vs us->∃ as,ReadsAll s.heap us ds as)
  (fun r=>by cases r;exact ⟨_,.none⟩) (fun b _ r=>by cases r;exact ⟨_,.bool b⟩) (fun i _ r=>by obtain ⟨t,rfl⟩:=r;exact ⟨_,.int i t⟩) (fun x _ r=>by obtain ⟨t,rfl⟩:=r;exact ⟨_,.str x t⟩)
  (fun h _ ih _ r=>Oa I h ih r) (fun h _ ih _ r=>KJ I h ih r) (fun r=>by cases r;exact ⟨_,.nil⟩) (fun _ _ a b _ r=>by
   cases r with
   | cons r rs =>
    obtain ⟨as,ra⟩:=a r
    obtain ⟨bs,rb⟩:=b rs
    exact ⟨_,.cons ra rb⟩) h
end
section
variable {X:Cx}
inductive Pw (K:a6) (neg:Bool) (x:V) (y:V) (H:Hp) (Q:VK):Prop
 | mk (dx dy:_) (h0:E_ K H x dx) (h1:E_ K H y dy) (h2:dx.canLay0=true) (h3:dy.canLay0=true) (h4:min dx.depth dy.depth<=60) (h5:Q (.bl (if neg then !bn dx dy else bn dx dy)) H):Pw K neg x y H Q
def R1 (K:a6) (neg:Bool):R2:=Pw K neg
theorem R4 (hu:X.A.units + 64<tm):pE X (bL .Eq) (R1 X.K false):=by
 intro pins s σ H x y v u Q I rx ry h
 obtain ⟨dx,dy,hx,hy,lx,ly,dp,q⟩:=h
 obtain ⟨as,ra⟩:=qO I hx rx
 obtain ⟨bs,rb⟩:=qO I hy ry
 exact PySem.SeqAt.compareEq_reads ra rb lx ly (by omega) ⟨.bl _,H,I,rfl,q⟩
theorem R5 (hu:X.A.units + 64<tm):pE X (bL .NotEq) (R1 X.K true):=by
 intro pins s σ H x y v u Q I rx ry h
 obtain ⟨dx,dy,hx,hy,lx,ly,dp,q⟩:=h
 obtain ⟨as,ra⟩:=qO I hx rx
 obtain ⟨bs,rb⟩:=qO I hy ry
 exact PySem.SeqAt.compareNe_reads ra rb lx ly (by omega) ⟨.bl _,H,I,rfl,q⟩
end
end
section
structure UY (P:aK) (w:aY) (l:List Env) (H H':Hp) (h h' B:bp) (ea C t:ah):Prop where
 fly:Heap.FlyingW B l ea (.ref C) (.ref t) h'
 cov:∀ b u,H' b=some u->∃ o,B.get? b=some o
 old:∀ b o,h.get? b=some o->H b=none->b∉rK l->B.get? b=some o
 all:∀ b o,h.get? b=some o->b∉rK l->∃ o',B.get? b=some o'
 un:Un (rK l) [] H H' h h'
 hok:pC P w H' h'
inductive Sv (P:aK) (w:aY) (outer:List Env) (H:Hp) (s:ac) (E:XK) (e:a8) (s':ac):Prop
 | mk (ea C t H' B:_) (h0:e=.ref ea) (h1:s'.os=s.os) (h2:pi s'.gens) (h3:UY P w outer H H' s.heap s'.heap B ea C t) (h4:E (.ref C) none H'):Sv P w outer H s E e s'
def pG (P:aK) (w:aY):JH:=Sv P w
theorem KL {P:aK}{w:aY}{H:Hp}{h:bp}{b:ah}{u:HO} (x:pC P w H h) (e:H b=some u):∃ o,h.get? b=some o:=by
 have y:=x b u e
 cases u with
 | lst xs=>obtain ⟨_,_,_,_,k⟩:=y;exact ⟨_,k⟩
 | tup xs=>obtain ⟨_,_,_,o,k,_⟩:=y;exact ⟨o,k⟩
 | dK kvs=>obtain ⟨_,_,_,_,o,_,_,k,_⟩:=y;exact ⟨o,k⟩
 | dT kvs=>obtain ⟨_,_,_,_,o,_,_,k,_⟩:=y;exact ⟨o,k⟩
 | set S n=>obtain ⟨o,_,_,_,k,_⟩:=y;exact ⟨o,k⟩
 | ins C dx fs=>obtain ⟨_,_,_,k,_⟩:=y;exact ⟨_,k⟩
 | own y'=>exact y
 | xd fs=>obtain ⟨_,⟨o,_,_,k,_⟩,_⟩:=y;exact ⟨o,k⟩
 | rng lo hi=>obtain ⟨_,_,_,k⟩:=y;exact ⟨_,k⟩
 | frz o u=>exact ⟨o,y.1⟩
 | tbl ps=>exact ⟨_,y⟩
 | met f y'=>exact ⟨_,y⟩
 | ext φ=>exact y.2.1
theorem Go {l:List Env}{env:Env}{b:ah} (he:env∈l) (hf:env.frame=some b):b∈rK l:=List.mem_filterMap.mpr ⟨env,he,hf⟩
section
variable {P:aK}{w:aY}{l:List Env}{H H':Hp}{h h' h'' B:bp}{ea C t:ah}
theorem UY.kp (x:UY P w l H H' h h' B ea C t) (st:B.StaysIn h'') (b:ah) (u:HO) (o:Obj) (e:H' b=some u) (q:h'.get? b=some o):h''.get? b=some o:=by
 obtain ⟨o',e1⟩:=x.cov b u e
 have:=x.fly.1 b o' e1
 rw [q] at this;cases this
 exact st b o e1
end
section
variable {P:aK}{w:aY}{K:a6}{mg:Str->Option a8}{base:bp}{N:List Str}{qual:Str}{scope:e7}{f:ah}{cd:a8}{A:b6}{outer:List Env}{s:ac}{H:Hp}{E:XK}
theorem AW {pins:List (ah×Obj)}{σ:St}{H1:Hp}{s1:ac}{h':bp}{ea C:ah}{vs:List a8} (I:bQ (ju (pG P w) P w K mg base N qual scope f cd A outer s H E) pins σ H1 s1)
  (hx:Heap.MadeExcOf s1.heap h' ea (.ref C) vs) (q:E (.ref C) none H1):(ju (pG P w) P w K mg base N qual scope f cd A outer s H E).xe (.ref ea) { s1 with heap:=h' }:=by
 let X:=ju (pG P w) P w K mg base N qual scope f cd A outer s H E
 let B:=Jo s1.heap (rK X.stack)
 have hin:∀ env∈X.stack,∀ a,env.frame=some a->a∈rK X.stack:=fun env he a hf=>Go he hf
 have stB:B.StaysIn s1.heap:=fun b o e=>Em _ e
 have nS:∀ b,b∉rK X.stack->∀ o,s1.heap.get? b=some o->B.get? b=some o:=fun b n o e=>Eb _ e n
 show au _ X.A (leaving X.env (.ref ea)) _ _ _
 refine wpAny_leaves_madeW (s:={ s1 with heap:=h' }) (base:=B) (outer:=outer) (L:=X.env.locals) I.ok.frames rfl stB (PySem.W.funFrames_hide I.stack hin) hx fun h2 t fl tup tn up=>?_
 have st2:=fl.1
 have bl:∀ b o,s.heap.get? b=some o->b∉rK outer->b∉rK X.stack:=fun b o e n z=>by
  rcases List.mem_cons.mp (I.stkSub b z) with y | y
  ·exact absurd (am e) (by rw [y];exact Nat.not_lt.mpr I.ok.above)
  ·exact n y
 have noex:∀ b:ah,b∉X.ex:=fun b z=>absurd (show b∈([] : List ah) from z) (by simp)
 have cov:∀ b u,H1 b=some u->∃ o,B.get? b=some o:=fun b u e=>by
  have hb:b∉rK X.stack:=fun z=>by have:=I.stkFree b z;rw [e] at this;cases this
  obtain ⟨o,k⟩:=KL I.hok e
  exact ⟨o,nS b hb o k⟩
 refine ⟨ea,C,t,H1,B,rfl,I.os,I.bare,⟨fl,cov,fun b o e n hb=>?_,fun b o e hb=>?_,⟨fun b o e n hb hx'=>?_,fun b o e n hb hx'=>?_,fun b o e n _=>I.base.free b o e n (noex b),fun b o e _=>?_,I.base.tups,I.base.frzs,I.base.tbls⟩,fun b u e=>?_⟩,q⟩
 ·exact nS b (bl b o e hb) o (I.base.keep b o e n hb (noex b))
 ·obtain ⟨o',k⟩:=I.base.there b o e (noex b)
  exact ⟨o',nS b (bl b o e hb) o' k⟩
 ·exact st2 b o (nS b (bl b o e hb) o (I.base.keep b o e n hb (noex b)))
 ·obtain ⟨sl,k⟩:=I.base.slot b o e n hb (noex b)
  obtain ⟨_,o',k1,k2⟩:=jU I.funs hb
  rw [k] at k1;cases k1
  obtain ⟨sl',k3⟩:=up b _ (hx.keeps _ _ k) k2
  exact ⟨sl',k3⟩
 ·obtain ⟨o',k⟩:=I.base.there b o e (noex b)
  by_cases hb:b∈rK outer
  ·obtain ⟨_,o2,k1,_⟩:=jU fl.2.2.1 hb
   exact ⟨o2,k1⟩
  ·exact ⟨o',st2 b o' (nS b (bl b o e hb) o' k)⟩
 ·refine (I.hok b u e).stay (fun c o hc k=>?_) (fun _ q=>q) fun _ _ q=>q
  have hcs:c∉rK X.stack:=fun z=>by
   have:=I.stkFree c z
   rcases hc with y | y
   ·rw [y,e] at this;cases this
   ·rw [y] at this;cases this
  exact st2 c o (nS c hcs o k)
theorem Cu {E':XK} (hE:∀ c H',E' c none H'->E c none H'):pS (pG P w) (ju (pG P w) P w K mg base N qual scope f cd A outer s H E) E':=by
 intro pins σ H1 s1 e s' I h
 obtain ⟨ea,C,t,H',B,rfl,os,bare,x,q⟩:=h
 let X:=ju (pG P w) P w K mg base N qual scope f cd A outer s H E
 have noex:∀ b:ah,b∉X.ex:=fun b z=>absurd (show b∈([] : List ah) from z) (by simp)
 have bl:∀ b o,s.heap.get? b=some o->b∉rK outer->b∉rK X.stack:=fun b o e n z=>by
  rcases List.mem_cons.mp (I.stkSub b z) with y | y
  ·exact absurd (am e) (by rw [y];exact Nat.not_lt.mpr I.ok.above)
  ·exact n y
 have sub:∀ b∈rK outer,b∈rK X.stack:=fun b hb=>by
  obtain ⟨env,he,hf⟩:=List.mem_filterMap.mp hb
  exact Go (aj _ he) hf
 show au _ X.A (leaving X.env (.ref ea)) _ _ _
 refine wpAny_leaves_onW (base:=B) (outer:=outer) (L:=X.env.locals) I.ok.frames rfl x.fly fun h2 fl up=>?_
 have st2:=fl.1
 refine ⟨ea,C,t,H',B,rfl,os.trans I.os,bare,⟨fl,x.cov,fun b o e n hb=>?_,fun b o e hb=>?_,⟨fun b o e n hb hx'=>?_,fun b o e n hb hx'=>?_,fun b o e n _=>?_,fun b o e _=>?_,fun b xs e=>x.un.tups b xs (I.base.tups b xs e),fun b o xs e=>x.un.frzs b o xs (I.base.frzs b o xs e),fun b ps e=>?_⟩,fun b u e=>?_⟩,hE _ _ q⟩
 ·exact x.old b o (I.base.keep b o e n hb (noex b)) (I.base.free b o e n (noex b)) (bl b o e hb)
 ·obtain ⟨o',k⟩:=I.base.there b o e (noex b)
  exact x.all b o' k (bl b o e hb)
 ·exact st2 b o (x.old b o (I.base.keep b o e n hb (noex b)) (I.base.free b o e n (noex b)) (bl b o e hb))
 ·obtain ⟨sl,k⟩:=I.base.slot b o e n hb (noex b)
  obtain ⟨sl1,k1⟩:=x.un.slot b _ k (I.base.free b o e n (noex b)) (sub b hb) (by simp)
  obtain ⟨_,o',k2,k3⟩:=jU x.fly.2.2.1 (sub b hb)
  rw [k1] at k2;cases k2
  obtain ⟨sl2,k4⟩:=up b _ k1 k3
  exact ⟨sl2,k4⟩
 ·obtain ⟨o',k⟩:=I.base.there b o e (noex b)
  exact x.un.free b o' k (I.base.free b o e n (noex b)) (by simp)
 ·obtain ⟨o',k⟩:=I.base.there b o e (noex b)
  by_cases hb:b∈rK outer
  ·obtain ⟨_,o2,k1,_⟩:=jU fl.2.2.1 hb
   exact ⟨o2,k1⟩
  ·obtain ⟨o2,k2⟩:=x.all b o' k (bl b o e hb)
   exact ⟨o2,st2 b o2 k2⟩
 ·obtain ⟨m1,e1⟩:=I.base.tbls b ps e
  obtain ⟨m2,e2⟩:=x.un.tbls b _ e1
  exact ⟨m1++m2,by rw [e2,HB]⟩
 ·exact (x.hok b u e).stay (fun c o hc k=>by
   rcases hc with z | z
   ·rw [z] at k ⊢;exact x.kp st2 b u o e k
   ·exact x.kp st2 c _ o z k) (fun _ q=>q) fun _ _ q=>q
end
end
section
section
variable {P:aK}{w:aY}{K:a6}{mg:Str->Option a8}{base:bp}{N:List Str}{qual:Str}{scope:e7}{f:ah}{cd:a8}{A:b6}{outer:List Env}{s:ac}{H:Hp}{E:XK}
theorem KM {x:Str}{np cpos pos:Pos}{e0:aV}{bY:List aV}{C:ah}{bmB:List a8}{newId initId Bn:String}{ta:TA} (O:OwnCls x C bmB newId mg base) (FB:ExcBaseFacts Bn newId initId bmB)
  (hg:Gl (ju (pG P w) P w K mg base N qual scope f cd A outer s H E) x) (ha:PA (ju (pG P w) P w K mg base N qual scope f cd A outer s H E) (e0::bY) ta)
  (he:aw (e0::bY) (ju (pG P w) P w K mg base N qual scope f cd A outer s H E).env=(false,cR e0 (ju (pG P w) P w K mg base N qual scope f cd A outer s H E).env)::aw bY (ju (pG P w) P w K mg base N qual scope f cd A outer s H E).env:=by rfl)
  (hdb:(x == ("__debug__" : Str))=false:=by decide) (hpl:(eT cpos (aw bY (ju (pG P w) P w K mg base N qual scope f cd A outer s H E).env)).any (·.1)=false:=by rfl) :
  PS (ju (pG P w) P w K mg base N qual scope f cd A outer s H E) (.Raise (some (.Call (.Name x np) (e0::bY) [] cpos)) none pos) (fun D σ H1=>ta σ H1 fun vs H2=>vs.length<=sizeLine/\E (.ref C) none H2):=by
 intro pins s1 σ H1 D I h
 obtain ⟨tl,Nn,nm,q,bs,hdct,sn,sub,ab,col,dd,k0,k1,k2,k3,k5,mN,hC,hN,hni,T⟩:=O.obj
 refine wpAny_Raise_call_subT (C:=C) (nm:=nm) (q:=q) (N:=Nn) (bs:=bs) (bm:=tl) (hdct:=hdct) (sn:=sn) (sub:=sub) (ab:=ab) (col:=col) (dd:=dd) (k0:=k0) (k1:=k1) (k2:=k2) (k3:=k3) (k5:=k5)
  FB (mN:=mN) (T.hasType FB.hasBase) (I.ok.hd rfl) ?_ hni (AD I hg O.bound ⟨rfl,?_⟩ hdb)
 ·rw [he]
  show (false || _)=false
  rw [tM];exact hpl
 ·have hx:=ha cpos pins s1 σ H1 _ I h
  rw [he] at hx ⊢
  refine Eu (fO hx fun us s2 ⟨vs,H2,I2,r2,z,qE⟩=>?_)
  have kb:∀ b o,base.get? b=some o->s2.heap.get? b=some o:=I2.bk
  exact ⟨rfl,by show us.length<=sizeLine;rw [<- r2.length];exact z,kb _ _ hC,hN.keeps kb,T.keeps kb,fun h' ea hm=>AW I2 hm qE⟩
end
structure Sx (base:bp) (C:ah) (bm:List a8):Prop where
 obj:∃ nm q N bs hdct sn sub ab col dd k0 k1 k2 k3 k5 newId,base.get? C=some (excClassObj nm q C N bs bm hdct sn sub ab col dd k0 k1 k2 k3 k5 newId)
 exc:bm.contains (.type "BaseException")=true
end
section
section
variable {prog:aK}{w:aY}{A:b6}{E:a8->ac->Prop}{s:ac}{K:a6}{x C:ah}{R:rZ->ac->Prop}
end
section
variable {X:Cx}
end
end
section
section
variable {P:aK}{w:aY}{K:a6}{mg:Str->Option a8}{base:bp}
end
section
variable {X:Cx}{k:Nat}{f:ah}{fd:eU}{ps:List Str}{sp:Sp}{x:Str}{p pos:Pos}{e:aV}{es:List aV}{t:TA}
end
end
section
section
variable {X:Cx}
def UZ:pM->String
 | .none=>"NoneType" | .bool _=>"bool" | .int _=>"int" | .str _=>"str" | .list _=>"list" | .tuple _=>"tuple" | .dict _=>"dict"
theorem F1 {pins:List (ah×Obj)}{σ:St}{H:Hp}{s:ac}{A:b6}{E:a8->ac->Prop}{Q:a8->ac->Prop}{c:a8}{b:Bool}{x:V}{d:pM}{u:a8} (I:bQ X pins σ H s) (rx:de x u) (r:E_ X.K H x d) (e:pI X.K (.type (UZ d)) c=some b) (h:∀ tk,Q (.bool b) { s with toks:=tk }) :
  au (aP X.prog X.w) A (call (.builtin "isinstance") [u,c]) Q E s:=by
 cases r with
 | none=>exact qI I rx .non e h
 | bool y=>exact qI I rx (.bl y) e h
 | int i=>exact qI I rx (.int i) e h
 | str y=>exact qI I rx (.str y) e h
 | list hq _ =>
  cases rx
  obtain ⟨its,rv,⟨o,n,ho,c,_,dd⟩,_⟩:=I.list hq
  exact cH tH I.kIn ⟨o,ho,c⟩ e (fun z=>nomatch z) h
 | tuple hq _ =>
  cases rx
  obtain ⟨its,rv,⟨o,ho,c,n,dd⟩,_⟩:=I.tuple hq
  exact cH Ep I.kIn ⟨o,ho,c⟩ e (fun z=>nomatch z) h
theorem KN:jz X (.builtin "isinstance") (fun xs H Q=>∃ x d T b,xs=[x,.ty T]/\E_ X.K H x d/\pI X.K (.type (UZ d)) (.type T)=some b/\Q (.bl b) H):=by
 intro pins s σ H xs us Q I r h
 obtain ⟨x,d,T,b,rfl,rp,e,q⟩:=h
 obtain ⟨u,v,rfl,ru,rv⟩:=Pl r
 obtain rfl:v=.type T:=rv
 exact F1 I ru rp e fun tk=>⟨.bl b,H,I.tok tk,rfl,q⟩
end
end
end L2
section
namespace HT
open PySem PyProof.Rows
section
variable {prog:aK}{w:aY}{A:b6}{E:a8->ac->Prop}{s:ac}
theorem Cv {t sl:ah}{items:Array a8}{vl vu:a8}{lo hi:Option Int}{Q:a8->ac->Prop} (ht:Jn s.heap t items) (hs:s.heap.IsSliceOf sl vl vu .none) (pl:uO vl lo) (pu:uO vu hi)
  (hw:iq items.size 0 lo=0/\iq items.size items.size hi=items.size) (h:Q (.ref t) s):au (aP prog w) A (pj (.ref t) (.ref sl)) Q E s:=by
 obtain ⟨os,hos,hcs,hds⟩:=id hs
 have hTs:s.TypeIs (.ref sl) "slice":=⟨os,hos,hcs⟩
 unfold pj
 try with_reducible refine e6 ?_
 first | refine a7 (ae ?_) | skip
 refine a7 (wpAny_sequenceKey ht.typeIs (by decide) ?_)
 refine a7 (cX (name:=iC "__getitem__") ht.typeIs fM
  (cE fM ht.typeIs entry_tuple_getitem ?_ (args_tuple_getitem _ _)))
 show au _ _ (tK (.ref t) >>= _) _ _ s
 refine a7 (tupleItemsOf_ ht ?_)
 refine a7 (kE hTs ?_)
 rw [if_pos (by decide)]
 refine a7 (nj hs pl pu ?_)
 have hyes:((((iq items.size 0 lo:Nat):Int) == 0 && (1:Int) == 1 && (iq items.size items.size hi - iq items.size 0 lo) == items.size)=true):=by
  rw [hw.1,hw.2];simp
 show au _ _ (if (((iq items.size 0 lo:Nat):Int) == 0 && (1:Int) == 1 && (iq items.size items.size hi - iq items.size 0 lo) == items.size)=true then _ else _) _ _ s
 rw [if_pos hyes]
 refine a7 ?_
 unfold Builtin.Tuple.tupleIsExact
 refine a7 (kE ht.typeIs (ae ?_))
 rw [if_pos (by decide)]
 refine a7 (gJ ?_)
 first
  | exact ae (ae ⟨_,rfl,h⟩)
  | exact ae ⟨_,rfl,ae h⟩
  | exact a7 (ae (ae ⟨_,rfl,ae h⟩))
  | exact a7 (ae (ae ⟨_,rfl,h⟩))
end
end HT
namespace L2
open PySem PySem.Spec PyProof.Rows
section
variable {X:Cx}
inductive KO (K:a6) (x:V) (lo:Option Int) (hi:Option Int) (H:Hp) (Q:VK):Prop
 | mk (a xs:_) (h0:x=.ref a) (h1:kG K H a xs) (h2:(HT.iq xs.length 0 lo=0/\HT.iq xs.length xs.length hi=xs.length)) (h3:Q (.ref a) H):KO K x lo hi H Q
def Sy (K:a6):V->Option Int->Option Int->Hp->VK->Prop:=KO K
theorem Ob:Sh X (Sy X.K):=by
 intro pins s σ H x v vl vu lo hi sl Q I rx hs pl pu h
 obtain ⟨a,xs,rfl,hx,hw,q⟩:=h
 cases rx
 obtain ⟨its,r,ht,hz⟩:=I.tuple hx
 have hlen:its.toArray.size=xs.length:=by rw [aM];exact r.length.symm
 exact ⟨"tuple",_,PyProof.Rows.slot_tuple_getitem.lookup,ht.typeIs,HT.Cv ht hs pl pu (by rw [hlen];exact hw) ⟨.ref a,H,I,rfl,q⟩⟩
theorem lv {H:Hp}{p:ah}{o:HO} (h:H p=none):cZ H (upd H p o):=fun b u e=>by rw [bj (bA e h)];exact e
theorem xv (hc:X.calm=true):jz X (.type "list") (fun xs H Q=>∃ a kvs,xs=[.ref a]/\H a=some (.dK kvs)/\∀ l,H l=none->Q (.ref l) (upd H l (.lst (kvs.map fun p=>kV p.1)))):=by
 intro pins s σ H xs us Q I r h
 obtain ⟨a,kvs,rfl,hH,q⟩:=h
 obtain ⟨u,rfl,rx⟩:=ki r
 cases rx
 obtain ⟨hz,hs,vs,rk,hd⟩:=(show dL X.prog X.w H s.heap a (.dK kvs) from I.hok a _ hH)
 obtain ⟨ep,hat⟩:∃ ep,s.heap.DictAt (dJ X.prog X.w) a vs ep:=by
  obtain ⟨o,es,ep,h1,h2,h3,h4⟩:=hd
  exact ⟨ep,o,es,h1,h2,h3,h4⟩
 have hlen:kvs.length=vs.length:=rY rk
 refine PySem.W.kdl_call (PySem.W.kdl_dict hs) (I.ok.hd hc) hat (by omega) fun h' tk acc' c' kp e hacc=>?_
 have rv:cV (kvs.map fun p=>kV p.1) acc'.toList:=by
  have key:∀ {kvs:List (fi×V)}{vs:List (fi×a8)} (acc:List a8),KV kvs vs->acc.length=vs.length->(∀ (j:Nat) (v:a8),acc[j]?=some v->∃ k x,vs[j]?=some (k,x)/\xi k v=true)->cV (kvs.map fun p=>kV p.1) acc:=by
   intro kvs
   induction kvs with
   | nil=>intro vs acc rk hl _;cases rk;cases acc with
    | nil=>exact .nil
    | cons _ _=>simp at hl
   | cons p kvs ih =>
    intro vs acc rk hl hv
    cases rk with
    | cons h1 t1 =>
     cases acc with
     | nil=>simp at hl
     | cons v acc =>
      refine .cons ?_ (ih acc t1 (by simpa using hl) fun j v hj=>by simpa using hv (j + 1) v (by simpa using hj))
      obtain ⟨k,x,e1,e2⟩:=hv 0 v rfl
      simp only [C3,C0] at e1
      subst e1
      have hk:p.1=k:=h1.1
      rcases fc e2 with ⟨i,t,e,rfl⟩ | ⟨i,t,e,rfl⟩
      ·show de (kV p.1) _;rw [hk,e];exact ⟨t,rfl⟩
      ·show de (kV p.1) _;rw [hk,e];exact ⟨t,rfl⟩
  exact key acc'.toList rk (by rw [ar];exact hacc.1) fun j v hj=>hacc.2 j v (by rw [<- dn];exact hj)
 exact ⟨.ref s.heap.objs.size,_,I.laid (t':=tk) kp (ao _) (show dL X.prog X.w _ h' _ (.lst _) from ⟨by simpa using hz,acc'.toList,c',rv,by rw [EC];exact e⟩),rfl,q _ (I.hok.fresh (ao _))⟩
def xw (x:Str):List V:=x.cps.toList.map fun c=>V.str ⟨#[c]⟩
theorem wu (hc:X.calm=true):jz X (.type "tuple") (fun xs H Q=>∃ x,xs=[.str x]/\x.cps.size<=sizeLine/\∀ l,H l=none->Q (.ref l) (upd H l (.tup (xw x)))):=by
 intro pins s σ H xs us Q I r h
 obtain ⟨x,rfl,hz,q⟩:=h
 obtain ⟨u,rfl,rx⟩:=ki r
 obtain ⟨t,rfl⟩:=rx
 refine call_tuple_str (I.ok.hd hc) x t (fun h' tk acc kp hacc=>?_) hz
 have I1:bQ X pins σ H { s with heap:=h',toks:=tk }:=I.kept (t':=tk) kp
 have rv:cV (xw x) acc.toList:=by
  have key:∀ (cs:List Nat) (acc:List a8),acc.length=cs.length->(∀ (j:Nat) (v:a8),acc[j]?=some v->∃ c u,cs[j]?=some c/\v=.str ⟨#[c]⟩ u)->cV (cs.map fun c=>V.str ⟨#[c]⟩) acc:=by
   intro cs
   induction cs with
   | nil=>intro acc hl _;cases acc with
    | nil=>exact .nil
    | cons _ _=>simp at hl
   | cons c cs ih =>
    intro acc hl hv
    cases acc with
    | nil=>simp at hl
    | cons v acc =>
     obtain ⟨c',u,e1,rfl⟩:=hv 0 v rfl
     simp only [C3,C0] at e1
     subst e1
     exact .cons ⟨u,rfl⟩ (ih acc (by simpa using hl) fun j v hj=>by simpa using hv (j + 1) v (by simpa using hj))
  refine key x.cps.toList acc.toList (by rw [ar,ar];exact hacc.1) fun j v hj=>?_
  obtain ⟨c,u,e1,e2⟩:=hacc.2 j v (by rw [<- dn];exact hj)
  exact ⟨c,u,by rw [dn];exact e1,e2⟩
 have I2:bQ X pins σ (upd H h'.objs.size (.tup (xw x))) { s with heap:=h'.push { cls:=.type "tuple",data:=.seq acc },toks:=tk } :=
  I1.laid (t':=tk) (fun b o e=>af _ e) (ao _) (show dL X.prog X.w _ _ _ (.tup (xw x)) from ⟨by unfold xw;simpa using hz,acc.toList,rv,by rw [EC];exact we _ _⟩)
 exact ⟨.ref h'.objs.size,_,I2,rfl,q _ (I1.hok.fresh (ao _))⟩
end
end L2
end
namespace L2
open PySem PySem.Spec PyProof.Rows
section
theorem AX (elt target iter:aV) (ifs:List aV) (scope:e7) (pos:Pos) (it acc:a8) (env:Env) :
  compTurn (.SetComp elt [⟨target,iter,ifs,0⟩] scope pos) 0 it acc env=(do
   Ec iter.pos
   let r <- mF it
   match r with
   | none=>pure (.done .next)
   | some v =>
    gz target it v
    pH target env v
    let mut ok:=true
    for c in ifs do
     if ok then ok <- Av c env (cR c env)
    if ok then
     (do let v <- cR elt env;Ec elt.pos;let _ <- call (.builtin "set.add") [acc,v])
    again (.compLoop (.SetComp elt [⟨target,iter,ifs,0⟩] scope pos) 0 it acc env)):=by rfl
section
variable {prog:aK}{w:aY}{A:b6}{E:a8->ac->Prop}{R:rZ->ac->Prop}{s:ac}
theorem ph {elt target iter ifs bY scope pos it acc env}
  (h0:iy (aP prog w) A (.compLoop (.SetComp elt (⟨target,iter,ifs,0⟩::bY) scope pos) 0 it acc env) R s)
  (h:au (aP prog w) A (Aw it) (fun it' s'=>iy (aP prog w) A (.compLoop (.SetComp elt (⟨target,iter,ifs,0⟩::bY) scope pos) 0 it' acc env) R s')
   (notedBy (aP prog w) A env fun x s'=>R (.error x) s') s) :
  iy (aP prog w) A (.compStart (.SetComp elt (⟨target,iter,ifs,0⟩::bY) scope pos) 0 it acc env) R s:=by
 refine C1 ?_
 show au _ _ ((compStart (.SetComp elt (⟨target,iter,ifs,0⟩::bY) scope pos) 0 it acc env).onRaise (fun x=>do noteFrame x env;Ec theWindowsPlace)) _ _ s
 refine wpAny_notedAt ?_
 unfold compStart
 show au _ _ (ask >>= _) _ _ s
 refine a7 (gQ (wpAny_ite ?_))
 split
 ·first
   | exact a7 (ae (ae (xb rfl h0)))
   | exact ae (xb rfl h0)
 ·first
   | exact a7 (gJ (a7 (js (a7 (bI h (fun it' s' hq=>ae (xb rfl hq)) fun _ _ x=>x)))))
   | (refine a7 (gJ ?_);show au _ _ (Ec iter.pos >>= _) _ _ s;exact a7 (js (a7 (bI h (fun it' s' hq=>ae (xb rfl hq)) fun _ _ x=>x))))
theorem rM {Q:a8->ac->Prop} (h:Q (.ref s.heap.objs.size) { s with heap:=s.heap.push (eW w) }):au (aP prog w) A (newSet (.type "set")) Q E s:=by
 unfold newSet setsByText
 refine a7 (a7 (gQ (ae ?_)))
 dsimp only
 simp only [newObj]
 exact a7 (Nj (ae h))
theorem zf {a:ah}{ss:List Str}{x:Str}{tk:Tok}{Q:a8->ac->Prop} (hS:kH w s.heap a ss) (hr:ss.length + 1<io)
  (h:∀ h' tk',bG a s.heap h'->kH w h' a (if x∈ss then ss else ss++[x])->Q .none { s with heap:=h',toks:=tk' }) :
  au (aP prog w) A (call (.builtin "set.add") [.ref a,.str x tk]) Q E s:=by
 have hT:s.TypeIs (.ref a) "set":=by obtain ⟨es,ep,t,I,_⟩:=id hS;exact ⟨_,I.at_,rfl⟩
 refine cE F.slot_set_add hT F.entry_set_add ?_ (F.args_set_add_2 _ _)
 unfold jw.«set.add» Nu
 simp only [List.isEmpty_nil,bind_assoc]
 unfold Nv
 refine a7 (ae ?_)
 try dsimp only
 refine a7 (ae ?_)
 try dsimp only
 refine a7 ?_
 refine Cm hS hr fun h' tk' sb hS'=>?_
 exact ae ⟨_,rfl,h h' tk' sb hS'⟩
end
section
variable {prog:aK}{w:aY}{A:b6}{R:rZ->ac->Prop}{s:ac}
theorem Cy {elt target iter:aV}{ifs:List aV}{scope:e7}{pos:Pos}{it acc:a8}{env:Env} (I:Nat->ac->Prop)
  (turn:∀ n s,I n s->au (aP prog w) A (mF it) (fun r s₁=>match r with
   | none=>R (.ok .next) s₁
   | some v=>au (aP prog w) A (gz target it v) (fun _ s₁'=>au (aP prog w) A (pH target env v) (fun _ s₂ =>
     au (aP prog w) A (forIn ifs true fun c r=>if r=true then do let ok <- Av c env (cR c env);pure (fK ok) else pure (fK r)) (fun ok s₃ =>
      if ok=true then au (aP prog w) A (cR elt env) (fun x s₄ =>
       au (aP prog w) A (call (.builtin "set.add") [acc,x]) (fun _ s₅=>∃ m,m<n/\I m s₅) (fun _ _=>False) s₄) (fun _ _=>False) s₃
      else ∃ m,m<n/\I m s₃) (fun _ _=>False) s₂) (fun _ _=>False) s₁') (fun _ _=>False) s₁) (fun _ _=>False) s)
  (n:Nat) (h:I n s) :
  iy (aP prog w) A (.compLoop (.SetComp elt [⟨target,iter,ifs,0⟩] scope pos) 0 it acc env) R s:=by
 refine codeAny_loop rfl I (fun n s hI=>?_) n h
 show au _ A ((compTurn (.SetComp elt [⟨target,iter,ifs,0⟩] scope pos) 0 it acc env).onRaise (fun x=>do noteFrame x env;theTreesLotGoes x)) _ _ s
 refine wpAny_noted ?_
 rw [AX]
 have nf:∀ {α:Type}{t:Sem α}{Q:α->ac->Prop}{E':a8->ac->Prop}{s:ac},au (aP prog w) A t Q (fun _ _=>False) s->au (aP prog w) A t Q E' s :=
  fun h=>bI h (fun _ _ q=>q) fun _ _ f=>f.elim
 refine a7 (js (a7 (nf (bI (turn n s hI) (fun r s₁ h₁=>?_) fun _ _ h'=>h'))))
 cases r with
 | none=>exact ae h₁
 | some v =>
  refine a7 (nf (bI h₁ (fun _ s₁' h₁'=>?_) fun _ _ h'=>h'))
  refine a7 (nf (bI h₁' (fun _ s₂ h₂=>a7 (nf (bI h₂ (fun ok s₃ h₃=>?_) fun _ _ h'=>h'))) fun _ _ h'=>h'))
  cases ok with
  | false=>exact ae ⟨rfl,h₃⟩
  | true =>
   exact a7 (a7 (nf (bI h₃ (fun x s₄ h₄=>a7 (js (a7 (nf (bI h₄ (fun _ s₅ h₅=>ae (ae ⟨rfl,h₅⟩)) fun _ _ h'=>h'))))) fun _ _ h'=>h')))
end
inductive Vw (X:Cx) (pins:List (ah×Obj)) (N':List Str) (scope:e7) (cl:List (Str×ah)) (C:ah) (s2:ac) (H2:Hp) (fp:List ah) (nt:Nat) (ix:List Nat) (σ:St) (tn:Nat->bp->Prop) (W:Nat->Nat->List Str->Hp->Prop) (n:Nat) (s':ac):Prop
 | mk (i:Nat) (acc:List Str) (oD:Obj) (H':Hp) (I:bQ (cK X N' scope cl C s2 H2 fp (X.pn++pins)) [(s2.heap.objs.size,oD)] (jb nt ix σ) H' s') (S:kH X.w s'.heap s2.heap.objs.size acc) (t:tn i s'.heap) (f:∀ b∈fp,H' b=none) (w:W i n acc H'):Vw X pins N' scope cl C s2 H2 fp nt ix σ tn W n s'
theorem Iu {X:Cx}{elt tg iter:aV}{ifs:List aV}{scope:e7}{pos:Pos}{g:TG}{tt:TT}{te:TE}{N':List Str}{nt:Nat}{ix:List Nat}
  (hc:X.calm=true) (S:mK X scope N' nt ix) (lo:Pu nt g)
  (hb:∀ cl C s₀ H₀ ex pn,PG (cK X N' scope cl C s₀ H₀ ex pn) tg g/\N7 (cK X N' scope cl C s₀ H₀ ex pn) ifs tt/\PE (cK X N' scope cl C s₀ H₀ ex pn) elt te)
  {cl:List (Str×ah)} (c1:∀ x c,cl.lookup x=some c->X.env.cells.lookup x=some c) (c2:∀ y∈scope.names,y.2=.free->∃ c,cl.lookup y.1=some c)
  {pins:List (ah×Obj)}{σ:St}{H2:Hp}{s2:ac}{it:ah}{fp:List ah}{tn:Nat->bp->Prop}{J:It}{Q:VK}{E:a8->ac->Prop}
  (I2:bQ X pins σ H2 s2) (T:xk X.prog X.w X.K tg J fp it tn) (st2:tn 0 s2.heap) (f2:∀ b∈fp,pR X pins H2 b)
  {W:Nat->Nat->List Str->Hp->Prop} (w0:∃ m,W 0 m [] H2)
  (turn:∀ i m acc H,W i m acc H->(J.stop i H/\∀ p,H p=none->Q (.ref p) (upd H p (kS X.w p acc))) \/
   (J.go i H/\acc.length + 1<io/\∀ x H',J.yld i H x H'->g x (jb nt ix σ) H' fun σ2 H2=>tt σ2 H2 fun b H3 =>
    if b=true then te σ2 H3 fun y H4=>∃ z m',y=.str z/\m'<m/\W (i + 1) m' (if z∈acc then acc else acc++[z]) H4 else ∃ m',m'<m/\W (i + 1) m' acc H3))
  {RR:a8->ah->rZ->ac->Prop}
  (hRR:∀ D C m s' (acc:List Str) H',H' D=none->pR X pins (upd H' D (kS X.w D acc)) C->Q (.ref D) (upd H' D (kS X.w D acc))->s'.heap.Ns C m->(∀ h',bG C s'.heap h'->bQ X pins σ (upd H' D (kS X.w D acc)) { s' with heap:=h' })->RR (.ref D) C (.ok .next) s') :
  au (aP X.prog X.w) X.A (newSet (.type "set")) (fun acc s₃=>au (aP X.prog X.w) X.A (uQ scope X.env.globals cl [] X.env.qual none .none (some X.env)) (fun cenv s₄ =>
   iy (aP X.prog X.w) X.A (.compStart (.SetComp elt [⟨tg,iter,ifs,0⟩] scope pos) 0 (.ref it) acc { cenv with scope:=relabel scope X.env }) (RR acc cenv.locals) s₄) E s₃) E s2:=by
 refine rM (Gk fun h₁ hh₁=>?_)
 dsimp only at hh₁ ⊢
 generalize hG2:s2.heap.push (eW X.w)=G2 at hh₁ ⊢
 have hC:G2.objs.size=s2.heap.objs.size + 1:=by rw [<- hG2,ck]
 have hDC:s2.heap.objs.size≠G2.objs.size:=by rw [hC];exact aE (dI _)
 have hCle:s2.heap.objs.size<=G2.objs.size:=by rw [hC];exact gj _
 have below:∀ b,b<s2.heap.objs.size->b≠G2.objs.size:=fun b hb=>by rw [hC];exact aE (eS hb)
 have kp:∀ b o,G2.get? b=some o->h₁.get? b=some o:=fun b o e=>by rw [hh₁];exact tq _ _ b o (af _ e)
 have hns₁:h₁.Ns G2.objs.size (fun _=>none):=by rw [hh₁];exact (Heap.Ns.new G2 (.type "dict")).keeps (tq _ _)
 have ok₁:CellsOk h₁ (G2.objs.size + 1) (bd (G2.objs.size + 1) scope.names []):=by rw [hh₁];exact zO G2 scope.names
 have cne:∀ x c,(bd (G2.objs.size + 1) scope.names cl).lookup x=some c->X.env.cells.lookup x=some c\/s2.heap.objs.size<c:=fun x c e=>by
  rcases kj e with a | ⟨_,a⟩
  ·exact .inr (aJ (jC hCle) (ok₁.empty x c a).2)
  ·exact .inl (c1 x c a)
 have old:∀ b o,s2.heap.get? b=some o->h₁.get? b=some o:=fun b o e=>kp b o (hG2 ▸ af _ e)
 have hacc:h₁.get? s2.heap.objs.size=some (eW X.w):=kp _ _ (hG2 ▸ aC _ rfl)
 have ff:∀ b∈fp,b<s2.heap.objs.size:=fun b hb=>by
  obtain ⟨o,e,_⟩:=T.obj _ _ st2 b hb
  exact am e
 have I3:bQ (cK X N' scope (bd (G2.objs.size + 1) scope.names cl) G2.objs.size s2 H2 fp (X.pn++pins)) [] (jb nt ix σ) H2 { s2 with heap:=h₁,toks:=s2.toks }:=Ch S I2 c1 c2 f2 ff hCle hns₁ old ok₁
 obtain ⟨pg,pt,pe⟩:=hb (bd (G2.objs.size + 1) scope.names cl) G2.objs.size s2 H2 fp (X.pn++pins)
 have hDfs:s2.heap.objs.size∉rK X.stack:=fun z=>by
  rcases List.mem_cons.mp (I2.stkSub _ z) with e | e
  ·exact absurd I2.lt (by rw [<- e];exact bV _)
  ·exact I2.nofs (ao _) e
 have st1:tn 0 h₁:=T.keep _ _ _ st2 fun b _ o e=>old b o e
 have hDf:s2.heap.objs.size∉fp:=fun z=>absurd (ff _ z) (bV _)
 have stat:∀ {H':Hp}{pl:List (ah×Obj)},(∀ p∈pl,p.1∉fp)->(∀ b∈fp,H' b=none)->∀ b∈fp,pR (cK X N' scope (bd (G2.objs.size + 1) scope.names cl) G2.objs.size s2 H2 fp (X.pn++pins)) pl H' b:=fun hpl hn b hb=>by
  obtain ⟨f0,f1,f2',f3,f4,f5⟩:=f2 b hb
  refine ⟨hn b hb,below b (ff b hb),fun z=>?_,.inl hb,fun x c e=>(cne x c e).elim (f4 x c) fun q z=>wj q (by rw [z];exact ff b hb),fun p hp z=>?_⟩
  ·rcases List.mem_cons.mp (I2.stkSub _ z) with e | e
   ·exact f1 e
   ·exact f2' e
  ·rcases List.mem_append.mp hp with q | q
   ·exact f5 p q z
   ·exact hpl p q (z ▸ hb)
 obtain ⟨m0,w0⟩:=w0
 have loop:iy (aP X.prog X.w) X.A (.compLoop (.SetComp elt [⟨tg,iter,ifs,0⟩] scope pos) 0 (.ref it) (.ref s2.heap.objs.size) (compEnvC scope (bd (G2.objs.size + 1) scope.names cl) G2.objs.size X.env))
    (RR (.ref s2.heap.objs.size) G2.objs.size) { s2 with heap:=h₁,toks:=s2.toks }:=by
  refine Cy (Vw X pins N' scope (bd (G2.objs.size + 1) scope.names cl) G2.objs.size s2 H2 fp nt ix σ tn W) ?_ m0
   ⟨0,[],_,H2,I3.pin1 hacc (I2.hok.fresh (ao _)) hDC hDfs (fun v z=>nomatch z),zQ X.w hacc,st1,fun b hb=>(f2 b hb).1,w0⟩
  rintro n s3 ⟨i,acc,oD,H3,J3,hS3,st3,fr3,w3⟩
  have plD:∀ p∈[(s2.heap.objs.size,oD)],p.1∉fp:=fun p hp=>by
   have:p=(s2.heap.objs.size,oD):=by simpa using hp
   rw [this];exact hDf
  have stS:∀ {s8:ac},s8.heap.get? s2.heap.objs.size=some oD->kH X.w s8.heap s2.heap.objs.size acc:=fun {s8} e=>hS3.keep fun o eo=>by
   have q:=(J3.pin (s2.heap.objs.size,oD) (aR _ (List.mem_singleton.mpr rfl))).1
   rw [q] at eo;cases eo;exact e
  rcases turn i n acc H3 w3 with ⟨stop,qn⟩ | ⟨go,hlt,step⟩
  ·refine fO (T.done (cK X N' scope (bd (G2.objs.size + 1) scope.names cl) G2.objs.size s2 H2 fp (X.pn++pins)) rfl rfl rfl hc i _ s3 _ H3 _ J3 (stat plD fr3) st3 stop) fun r s4 h_0=>?_
   obtain ⟨hr,I4⟩:=h_0
   subst hr
   obtain ⟨pD,pN,_⟩:=I4.pin (s2.heap.objs.size,_) (aR _ (List.mem_singleton.mpr rfl))
   obtain ⟨mm,hn,_⟩:=I4.loc
   have hCn:H3 G2.objs.size=none:=I4.free
   refine hRR _ _ mm s4 acc H3 pN (I2.fpOk hCle (by rw [bj (cW hDC)];exact hCn)) (qn _ pN) hn fun h' sb=>?_
   have hu:Un (rK X.stack) fp H2 (upd H3 s2.heap.objs.size (kS X.w s2.heap.objs.size acc)) s2.heap h':=Un.grow I4.base sb hCle (ao _) pN
   refine I2.call' (s':={ s4 with heap:=h' }) (ch:=fp) I4.os hu ?_ I4.bare fun b hb=>?_
   ·exact v3 (Ci I4.hok hCn sb) pN (AU ((stS pD).keep fun o e=>(sb.2 _ hDC).trans e))
   ·obtain ⟨_,f1,_,f3,f4,f5⟩:=f2 b hb
    exact ⟨f3,f1,f4,f5⟩
  ·refine fO (T.item (cK X N' scope (bd (G2.objs.size + 1) scope.names cl) G2.objs.size s2 H2 fp (X.pn++pins)) rfl rfl rfl hc i _ s3 _ H3 _ J3 (stat plD fr3) st3 go) fun r s4 h_1=>?_
   obtain ⟨u,hr,h4⟩:=h_1
   subst hr
   refine fO h4 fun _ s5 h_2=>?_
   obtain ⟨x,H5,I5,r5,y5,st5,fr5⟩:=h_2
   have I5':=I5.pinned (stat plD fr5) (T.obj _ _ st5)
   refine fO (pg _ s5 _ H5 x u _ I5' r5 (lo _ _ _ _ (step x H5 y5))) fun _ s6 h_3=>?_
   obtain ⟨σ6,H6,I6,q6,l6,k6⟩:=h_3
   have hw:∀ (j:Nat) v,(jb nt ix σ)[j]?=some (some v)->σ6[j]?=some (some v):=fun j v e=>by
    by_cases hj:nt<=j
    ·rw [k6 j hj];exact e
    ·unfold jb at e
     rw [bg (by simpa using hj),cf,if_pos (by omega)] at e
     cases e
   refine fO (pt _ s6 σ6 H6 _ I6 q6) fun b s7 h_4=>?_
   obtain ⟨H7,I7,q7⟩:=h_4
   have fpk:∀ {s8:ac}{σ8:St}{H8:Hp},bQ (cK X N' scope (bd (G2.objs.size + 1) scope.names cl) G2.objs.size s2 H2 fp (X.pn++pins)) ([(s2.heap.objs.size,oD)]++uX fp s5.heap) σ8 H8 s8 ->
     tn (i + 1) s8.heap/\∀ b∈fp,H8 b=none:=fun {s8 σ8 H8} I8=>by
    refine ⟨T.keep _ _ _ st5 fun b hb o e=>(I8.pin (b,o) (aR _ (aR _ (jE hb e)))).1,fun b hb=>?_⟩
    obtain ⟨o,e,d⟩:=T.obj _ _ st5 b hb
    exact (I8.pin (b,o) (aR _ (aR _ (jE hb e)))).2.1
   cases b with
   | false =>
    simp only [bM,if_false] at q7 ⊢
    obtain ⟨m',hm,w7⟩:=q7
    obtain ⟨t7,f7⟩:=fpk I7
    obtain ⟨pD,_⟩:=I7.pin (s2.heap.objs.size,oD) (aR _ (eM _ (List.mem_singleton.mpr rfl)))
    exact ⟨m',hm,i + 1,acc,oD,H7,(I7.weak l6.symm hw).unpinned,stS pD,t7,f7,w7⟩
   | true =>
    simp only [if_true] at q7 ⊢
    refine fO (pe _ s7 σ6 H7 _ I7 q7) fun u8 s8 h_5=>?_
    obtain ⟨y,H8,I8,r8,z,m',hy,hm,w8⟩:=h_5
    obtain ⟨t8,f8⟩:=fpk I8
    obtain ⟨pD,pN,_⟩:=I8.pin (s2.heap.objs.size,_) (aR _ (eM _ (List.mem_singleton.mpr rfl)))
    subst hy
    obtain ⟨tz,rfl⟩:=r8
    refine zf (stS pD) hlt fun h9 tk9 sb9 hS9=>?_
    obtain ⟨es9,ep9,t9,is9,pm9⟩:=id hS9
    have e9':=is9.at_
    refine ⟨m',hm,i + 1,_,{ cls:=.type "set",dict:=none,data:=.set es9 ep9 t9 },H8,?_,hS9,T.keep _ _ _ t8 fun b hb o e=>sb9.extBut b o (fun z=>hDf (z ▸ hb)) e,f8,w8⟩
    have I8':bQ (cK X N' scope (bd (G2.objs.size + 1) scope.names cl) G2.objs.size s2 H2 fp (X.pn++pins)) [] (jb nt ix σ) H8 s8:=(I8.weak l6.symm hw).pins_of fun p hp=>absurd hp (by simp)
    have I9:bQ (cK X N' scope (bd (G2.objs.size + 1) scope.names cl) G2.objs.size s2 H2 fp (X.pn++pins)) [] (jb nt ix σ) H8 { s8 with heap:=h9,toks:=tk9 } :=
     I8'.turned (it:=s2.heap.objs.size) (fun b o hb e=>sb9.extBut b o hb e) pN hDC (.inr (ao _)) (fun x c e z=>by
      rcases cne x c e with e | e
      ·obtain ⟨v,q⟩:=I2.cell x c e
       exact absurd q.lt (by rw [z];exact bV _)
      ·exact absurd e (by rw [z];exact bV _)) fun p hp z=>by
      have hp:p∈X.pn++pins:=(List.mem_append.mp hp).elim id fun z=>absurd z (by simp)
      exact absurd (am (I2.pin p hp).1) (by rw [z];exact bV _)
    exact I9.pin1 e9' pN hDC hDfs (fun v z=>nomatch z)
 exact ph loop (T.self _ 0 _ _ _ st1 loop)
inductive Px (w:aY) (nt:Nat) (ix:List Nat) (g:TG) (tt:TT) (te:TE) (σ:St) (Q:VK) (J:It) (H1:Hp):Prop
 | mk (W:Nat->Nat->List Str->Hp->Prop) (w0:∃ m,W 0 m [] H1) (turn:∀ i m acc H,W i m acc H ->
 (J.stop i H/\∀ p,H p=none->Q (.ref p) (upd H p (kS w p acc))) \/
 (J.go i H/\acc.length + 1<io/\∀ x H',J.yld i H x H'->g x (jb nt ix σ) H' fun σ2 H2=>tt σ2 H2 fun b H3 =>
  if b=true then te σ2 H3 fun y H4=>∃ z m',y=.str z/\m'<m/\W (i + 1) m' (if z∈acc then acc else acc++[z]) H4 else ∃ m',m'<m/\W (i + 1) m' acc H3)):Px w nt ix g tt te σ Q J H1
def KP (w:aY) (nt:Nat) (ix:List Nat) (wi:TI) (g:TG) (tt:TT) (te:TE):TE:=fun σ H Q=>wi σ H (Px w nt ix g tt te σ Q)
theorem F2 {X:Cx}{elt tg iter:aV}{ifs:List aV}{scope:e7}{pos:Pos}{wi:TI}{g:TG}{tt:TT}{te:TE}{N':List Str}{nt:Nat}{ix:List Nat}
  (hc:X.calm=true) (S:mK X scope N' nt ix) (lo:Pu nt g) (hi:PI X tg iter wi)
  (hb:∀ cl C s₀ H₀ ex pn,PG (cK X N' scope cl C s₀ H₀ ex pn) tg g/\N7 (cK X N' scope cl C s₀ H₀ ex pn) ifs tt/\PE (cK X N' scope cl C s₀ H₀ ex pn) elt te)
  (hs:∀ x,ed iter X.env x=pure x:=by intro _;rfl):PE X (.SetComp elt [⟨tg,iter,ifs,0⟩] scope pos) (KP X.w nt ix wi g tt te):=by
 intro pins s σ H Q I h
 obtain ⟨cl,hcl,c1,c2⟩:=sg (scope:=scope) (env:=X.env) fun y hy hf=>I.ok.has y.1 (S.free y hy hf)
 show au _ _ (comprehension (.SetComp elt [⟨tg,iter,ifs,0⟩] scope pos) scope X.env (firstIterPos [⟨tg,iter,ifs,0⟩] pos) (newSet (.type "set")) (firstAsync [⟨tg,iter,ifs,0⟩]) (firstIter [⟨tg,iter,ifs,0⟩] X.env)) _ _ _
 refine pJ (use:=none) rfl hs hcl S.kind S.loc (fO (hi pins s σ H _ I h) fun v s1 h1=>fO h1 fun itv s2 h2=>?_)
 obtain ⟨it,fp,tn,J,H2,e,I2,T,st2,f2,W,w0,turn⟩:=h2
 subst e
 refine Iu (RR:=fun acc C=>compPost (aP X.prog X.w) X.A X.xe none (EP X pins σ Q) acc C) hc S lo hb c1 c2 I2 T st2 f2 w0 turn ?_
 intro D C m s' acc H' hD _ q hn hI
 exact ⟨m,hn,fun h' sb=>⟨.ref D,_,hI h' sb,rfl,q⟩⟩
section
variable {X:Cx}
theorem zg:jz X (.builtin "len") (fun xs H Q=>∃ p ss,xs=[.ref p]/\H p=some (kS X.w p ss)/\Q (.int ss.length) H):=by
 intro pins s σ H xs us Q I r h
 obtain ⟨p,ss,rfl,hq,q⟩:=h
 obtain ⟨u,rfl,rx⟩:=ki r
 cases rx
 obtain ⟨es,ep,t,is,pm⟩:=(show dL X.prog X.w H s.heap p (kS X.w p ss) from I.hok p _ hq).1
 have hlen:es.size=ss.length:=by rw [<- pm.length_eq,av,ar]
 have hsm:(es.size:Int)<2 ^ 63:=by
  have h1:=is.few
  have h2:io<=2 ^ 62:=by decide
  omega
 refine zG kind_len plain_len entry_len (args_len1 _) (wpAny_len_body_set is.at_ ⟨rfl,rfl,rfl⟩ rfl is.fits hsm ?_)
 refine ⟨.int _,H,I.tok _,⟨_,rfl⟩,?_⟩
 rw [hlen];exact q
end
end
end L2
section
namespace L2
open PySem PySem.Spec PyProof.Rows
section
variable {K:a6}{nt:Nat}{ix:List Nat}{te:TE}{σ:St}{H1:Hp}{Q:VK}{a:ah}{xs:List V}{i:Nat}
end
end L2
namespace L2
open PySem PySem.Spec PyProof.Rows
def Gp (so:e7) (N:List Str) (scope:e7) (N':List Str) (nt:Nat) (ix:List Nat):Bool :=
 (scope.kind == .function) && (scope.names.all fun y=>y.2 != .cell || scope.names.lookup y.1 == some .cell) && (scope.names.all fun y=>y.2 != .local || scope.names.lookup y.1 == some .local) &&
 (scope.names.all fun y=>y.2 != .free || so.names.lookup y.1 == some .cell || so.names.lookup y.1 == some .free) &&
 ((bi ix.length).all fun k=>match ix[k]? with
  | none=>false
  | some i=>match N[i]? with
   | none=>false
   | some x=>N'[nt + k]? == some x && scope.names.lookup x == some .free) && (N'.length == nt + ix.length)
theorem c9 {X:Cx}{so:e7}{N:List Str}{scope:e7}{N':List Str}{nt:Nat}{ix:List Nat} (h:Gp so N scope N' nt ix=true) (h1:X.env.scope=so:=by rfl) (h2:X.N=N:=by rfl):mK X scope N' nt ix:=by
 unfold Gp at h
 simp only [aN,cB] at h
 obtain ⟨⟨⟨⟨⟨a,b⟩,c⟩,d⟩,e⟩,l⟩:=h
 refine ⟨by simpa using a,fun y hy z=>?_,fun y hy z=>?_,fun y hy z=>?_,fun k i hk=>?_,by simpa using l⟩
 ·have:=b y hy;simpa [z] using this
 ·have:=c y hy;simpa [z] using this
 ·have:=d y hy
  rw [h1]
  simpa [z] using this
 ·have hl:k<ix.length:=(List.getElem?_eq_some_iff.mp hk).1
  have:=e k (List.mem_range.mpr hl)
  rw [hk] at this
  rw [h2]
  simp only at this
  split at this
  ·cases this
  ·rename_i x hx
   simp only [aN] at this
   exact ⟨x,hx,by simpa using this.1,by simpa using this.2⟩
end L2
end
namespace L2
open PySem PySem.Spec PyProof.Rows
section
section
variable {K:a6}{nt:Nat}{ix:List Nat}{te:TE}{σ:St}{H1:Hp}{Q:VK}{a b:ah}{xs ys:List V}{i k:Nat}
end
end
end L2
namespace J
open PySem L2
section
abbrev D:=pM
inductive R (α:Type) where
 | ok (a:α)
 | ex (c:Str) (n:Option D)
 | no
def R.bind {α β:Type}:R α->(α->R β)->R β
 | .ok a,f=>f a
 | .ex c n,_=>.ex c n
 | .no,_=>.no
@[simp] theorem bind_ok {α β:Type} (a:α) (f:α->R β):(R.ok a).bind f=f a:=rfl
@[simp] theorem bind_ex {α β:Type} (c:Str) (n:Option D) (f:α->R β):(R.ex c n).bind f=.ex c n:=rfl
@[simp] theorem bind_no {α β:Type} (f:α->R β):(R.no:R α).bind f=.no:=rfl
def kD:fi->D
 | .inl i=>.int i
 | .inr x=>.str x
def tD (ks:List fi):D:=.tuple (ks.map kD)
mutual
inductive RD (K:a6) (H:Hp):V->D->Prop
 | none:RD K H .non .none
 | bool (b:Bool):RD K H (.bl b) (.bool b)
 | int (i:Int):RD K H (.int i) (.int i)
 | str (x:Str):RD K H (.str x) (.str x)
 | list {a:ah}{xs:List V}{ds:List D}:lU K H a xs->RDs K H xs ds->RD K H (.ref a) (.list ds)
 | tuple {a:ah}{xs:List V}{ds:List D}:H a=some (.tup xs)->RDs K H xs ds->RD K H (.ref a) (.tuple ds)
 | dictK {a:ah}{kvs:List (fi×V)}{ds:List (D×D)}:H a=some (.dK kvs)->RDk K H kvs ds->RD K H (.ref a) (.dict ds)
 | dictT {a:ah}{kvs:List (List fi×V)}{ds:List (D×D)}:H a=some (.dT kvs)->kvs≠[]->RDt K H kvs ds->RD K H (.ref a) (.dict ds)
 | dictF {a:ah}{o:Obj}{kvs:List (List fi×V)}{ds:List (D×D)}:H a=some (.frz o (.dT kvs))->kvs≠[]->RDt K H kvs ds->RD K H (.ref a) (.dict ((.none,.none)::ds))
inductive RDs (K:a6) (H:Hp):List V->List D->Prop
 | nil:RDs K H [] []
 | cons {x:V}{xs:List V}{d:D}{ds:List D}:RD K H x d->RDs K H xs ds->RDs K H (x::xs) (d::ds)
inductive RDk (K:a6) (H:Hp):List (fi×V)->List (D×D)->Prop
 | nil:RDk K H [] []
 | cons {k:fi}{x:V}{xs:List (fi×V)}{d:D}{ds:List (D×D)}:RD K H x d->RDk K H xs ds->RDk K H ((k,x)::xs) ((kD k,d)::ds)
inductive RDt (K:a6) (H:Hp):List (List fi×V)->List (D×D)->Prop
 | nil:RDt K H [] []
 | cons {k:List fi}{x:V}{xs:List (List fi×V)}{d:D}{ds:List (D×D)}:RD K H x d->RDt K H xs ds->RDt K H ((k,x)::xs) ((tD k,d)::ds)
end
section
variable {K:a6}{H H':Hp}
theorem RD.same (e:cZ H H') {v:V}{d:D} (h:RD K H v d):RD K H' v d:=RD.rec (motive_1:=fun v d _=>RD K H' v d) (motive_2:=fun v d _=>RDs K H' v d) (motive_3:=fun v d _=>RDk K H' v d) (motive_4:=fun v d _=>RDt K H' v d) .none .bool .int .str (fun h _ r=>.list (e.seq h) r) (fun h _ r=>.tuple (e _ _ h) r) (fun h _ r=>.dictK (e _ _ h) r) (fun h n _ r=>.dictT (e _ _ h) n r) (fun h n _ r=>.dictF (e _ _ h) n r) .nil (fun _ _ a b=>.cons a b) .nil (fun _ _ a b=>.cons a b) .nil (fun _ _ a b=>.cons a b) h
theorem RDs.same (e:cZ H H') {v:List V}{d:List D} (h:RDs K H v d):RDs K H' v d:=RDs.rec (motive_1:=fun v d _=>RD K H' v d) (motive_2:=fun v d _=>RDs K H' v d) (motive_3:=fun v d _=>RDk K H' v d) (motive_4:=fun v d _=>RDt K H' v d) .none .bool .int .str (fun h _ r=>.list (e.seq h) r) (fun h _ r=>.tuple (e _ _ h) r) (fun h _ r=>.dictK (e _ _ h) r) (fun h n _ r=>.dictT (e _ _ h) n r) (fun h n _ r=>.dictF (e _ _ h) n r) .nil (fun _ _ a b=>.cons a b) .nil (fun _ _ a b=>.cons a b) .nil (fun _ _ a b=>.cons a b) h
theorem RDk.same (e:cZ H H') {v:List (fi×V)}{d:List (D×D)} (h:RDk K H v d):RDk K H' v d:=RDk.rec (motive_1:=fun v d _=>RD K H' v d) (motive_2:=fun v d _=>RDs K H' v d) (motive_3:=fun v d _=>RDk K H' v d) (motive_4:=fun v d _=>RDt K H' v d) .none .bool .int .str (fun h _ r=>.list (e.seq h) r) (fun h _ r=>.tuple (e _ _ h) r) (fun h _ r=>.dictK (e _ _ h) r) (fun h n _ r=>.dictT (e _ _ h) n r) (fun h n _ r=>.dictF (e _ _ h) n r) .nil (fun _ _ a b=>.cons a b) .nil (fun _ _ a b=>.cons a b) .nil (fun _ _ a b=>.cons a b) h
theorem RDt.same (e:cZ H H') {v:List (List fi×V)}{d:List (D×D)} (h:RDt K H v d):RDt K H' v d:=RDt.rec (motive_1:=fun v d _=>RD K H' v d) (motive_2:=fun v d _=>RDs K H' v d) (motive_3:=fun v d _=>RDk K H' v d) (motive_4:=fun v d _=>RDt K H' v d) .none .bool .int .str (fun h _ r=>.list (e.seq h) r) (fun h _ r=>.tuple (e _ _ h) r) (fun h _ r=>.dictK (e _ _ h) r) (fun h n _ r=>.dictT (e _ _ h) n r) (fun h n _ r=>.dictF (e _ _ h) n r) .nil (fun _ _ a b=>.cons a b) .nil (fun _ _ a b=>.cons a b) .nil (fun _ _ a b=>.cons a b) h
mutual
def pX:D->Bool
 | .dict _=>false
 | .list xs=>noDs xs
 | .tuple xs=>noDs xs
 | _=>true
def noDs:List D->Bool
 | []=>true
 | x::r=>pX x && noDs r
end
theorem Sz {a b:Bool} (h:(a && b)=true):a=true:=(Bool.and_eq_true_iff.mp h).1
theorem SA {a b:Bool} (h:(a && b)=true):b=true:=(Bool.and_eq_true_iff.mp h).2
theorem RD.rep {v:V}{d:D} (h:RD K H v d):pX d=true->E_ K H v d:=RD.rec (motive_1:=fun v d _=>pX d=true->E_ K H v d) (motive_2:=fun v d _=>noDs d=true->Reps K H v d) (motive_3:=fun _ _ _=>True) (motive_4:=fun _ _ _=>True) (fun _=>.none) (fun b _=>.bool b) (fun i _=>.int i) (fun x _=>.str x) (fun h _ r e=>.list h (r e)) (fun h _ r e=>.tuple (.of h) (r e)) (fun _ _ _ e=>wK e) (fun _ _ _ _ e=>wK e) (fun _ _ _ _ e=>wK e) (fun _=>.nil) (fun _ _ a b e=>.cons (a (Sz e)) (b (SA e))) trivial (fun _ _ _ _=>trivial) trivial (fun _ _ _ _=>trivial) h
theorem RDs.length {vs:List V}:∀ {ds:List D},RDs K H vs ds->vs.length=ds.length:=by
 induction vs with
 | nil=>intro ds h;cases h;rfl
 | cons x r ih=>intro ds h;cases h with | cons a b=>exact congrArg (· + 1) (ih b)
theorem RDs.get {vs:List V}:∀ {ds:List D}{i:Nat}{v:V},RDs K H vs ds->vs[i]?=some v->∃ d,ds[i]?=some d/\RD K H v d:=by
 induction vs with
 | nil=>intro ds i v _ e;cases e
 | cons x r ih =>
  intro ds i v h e
  cases h with
  | cons a b =>
   cases i with
   | zero=>cases e;exact ⟨_,rfl,a⟩
   | succ i=>have q:=ih (i:=i) b e;exact q
theorem RDs.get' {vs:List V}:∀ {ds:List D}{i:Nat}{d:D},RDs K H vs ds->ds[i]?=some d->∃ v,vs[i]?=some v/\RD K H v d:=by
 induction vs with
 | nil=>intro ds i v h e;cases h;cases e
 | cons x r ih =>
  intro ds i v h e
  cases h with
  | cons a b =>
   cases i with
   | zero=>cases e;exact ⟨_,rfl,a⟩
   | succ i=>have q:=ih (i:=i) b e;exact q
theorem RDs.append {vs ws:List V}{es:List D}:∀ {ds:List D},RDs K H vs ds->RDs K H ws es->RDs K H (vs++ws) (ds++es):=by
 induction vs with
 | nil=>intro ds h s;cases h;exact s
 | cons x r ih=>intro ds h s;cases h with | cons a b=>exact .cons a (ih b s)
theorem RDs.drop {vs:List V}:∀ {ds:List D} (n:Nat),RDs K H vs ds->RDs K H (vs.drop n) (ds.drop n):=by
 induction vs with
 | nil=>intro ds n h;cases h;cases n<;>exact .nil
 | cons x r ih =>
  intro ds n h
  cases n with
  | zero=>exact h
  | succ n=>cases h with | cons a b=>exact ih n b
theorem RDs.take {vs:List V}:∀ {ds:List D} (n:Nat),RDs K H vs ds->RDs K H (vs.take n) (ds.take n):=by
 induction vs with
 | nil=>intro ds n h;cases h;cases n<;>exact .nil
 | cons x r ih =>
  intro ds n h
  cases n with
  | zero=>exact .nil
  | succ n=>cases h with | cons a b=>exact .cons a (ih n b)
theorem RDs.reverse {vs:List V}{ds:List D} (h:RDs K H vs ds):RDs K H vs.reverse ds.reverse:=by
 induction vs generalizing ds with
 | nil=>cases h;exact .nil
 | cons x r ih=>cases h with | cons a b=>rw [vJ,vJ];exact (ih b).append (.cons a .nil)
theorem xx:∀ (ss:List Str),RDs K H (ss.map V.str) (ss.map aD)
 | []=>.nil
 | x::r=>.cons (.str x) (xx r)
theorem RD.str_inv {v:V}{x:Str} (h:RD K H v (.str x)):v=.str x:=by cases h;rfl
theorem RD.bool_inv {v:V}{x:Bool} (h:RD K H v (.bool x)):v=.bl x:=by cases h;rfl
theorem RD.int_inv {v:V}{x:Int} (h:RD K H v (.int x)):v=.int x:=by cases h;rfl
theorem AY {α:Type}{c:α->D}{k:α->V} (hc:∀ {v x},RD K H v (c x)->v=k x) {ss:List α}:∀ {vs:List V},RDs K H vs (ss.map c)->vs=ss.map k:=by
 induction ss with
 | nil=>intro vs h;cases h;rfl
 | cons x r ih=>intro vs h;cases h with | cons a b=>rw [hc a,ih b];rfl
theorem nW {ss:List Str}{vs:List V}:RDs K H vs (ss.map aD)->vs=ss.map V.str:=AY RD.str_inv
theorem zh {ss:List Bool}{vs:List V}:RDs K H vs (ss.map cJ)->vs=ss.map V.bl:=AY RD.bool_inv
theorem AZ {ss:List Int}{vs:List V}:RDs K H vs (ss.map bT)->vs=ss.map V.int:=AY RD.int_inv
end
def nt:HO->Bool
 | .tup _=>false
 | _=>true
structure cD (H Hs H' Hs':Hp):Prop where
 all:cZ H H'
 sh:cZ Hs Hs'
 sub:cZ Hs' H'
 out:∀ a o,H a=some o->nt o=true->Hs a=none->Hs' a=none
theorem cD.refl {H Hs:Hp} (h:cZ Hs H):cD H Hs H Hs:=⟨.refl _,.refl _,h,fun _ _ _ _ e=>e⟩
theorem cD.trans {H Hs H1 Hs1 H2 Hs2:Hp} (a:cD H Hs H1 Hs1) (b:cD H1 Hs1 H2 Hs2):cD H Hs H2 Hs2 :=
 ⟨a.all.trans b.all,a.sh.trans b.sh,b.sub,fun c o e t n=>b.out c o (a.all c o e) t (a.out c o e t n)⟩
theorem cD.new {H Hs:Hp}{p:ah}{o:HO} (h:cZ Hs H) (n:H p=none):cD H Hs (upd H p o) (upd Hs p o):=by
 have n':Hs p=none:=h.free n
 refine ⟨lv n,lv n',fun b u e=>?_,fun a u e t z=>?_⟩
 ·by_cases hb:b=p
  ·subst hb;rw [bq] at e ⊢;exact e
  ·rw [bj hb] at e ⊢;exact h b u e
 ·rw [bj (bA e n)];exact z
theorem cD.mine {H Hs:Hp}{p:ah}{o:HO} (h:cZ Hs H) (n:H p=none):cD H Hs (upd H p o) Hs:=by
 refine ⟨lv n,.refl _,fun b u e=>?_,fun a u e t z=>z⟩
 have e':=h b u e
 rw [bj (bA e' n)];exact e'
inductive lV (K:a6) (Hs:Hp):HO->D->Prop
 | lst {vs:List V}{ds:List D}:RDs K Hs vs ds->lV K Hs (.lst vs) (.list ds)
 | dK {kvs:List (fi×V)}{ds:List (D×D)}:RDk K Hs kvs ds->lV K Hs (.dK kvs) (.dict ds)
 | dT {kvs:List (List fi×V)}{ds:List (D×D)}:kvs≠[]->RDt K Hs kvs ds->lV K Hs (.dT kvs) (.dict ds)
 | dF {o:Obj}{kvs:List (List fi×V)}{ds:List (D×D)}:kvs≠[]->RDt K Hs kvs ds->lV K Hs (.frz o (.dT kvs)) (.dict ((.none,.none)::ds))
theorem lV.same {K:a6}{Hs Hs':Hp}{o:HO}{d:D} (e:cZ Hs Hs') (h:lV K Hs o d):lV K Hs' o d:=by
 cases h with
 | lst r=>exact .lst (r.same e)
 | dK r=>exact .dK (r.same e)
 | dT n r=>exact .dT n (r.same e)
 | dF n r=>exact .dF n (r.same e)
theorem lV.nt {K:a6}{Hs:Hp}{o:HO}{d:D} (h:lV K Hs o d):J.nt o=true:=by cases h<;>rfl
theorem lV.share {K:a6}{Hs:Hp}{o:HO}{d:D}{a:ah} (n:Hs a=none) (h:lV K Hs o d):RD K (upd Hs a o) (.ref a) d:=by
 have e:cZ Hs (upd Hs a o):=lv n
 cases h with
 | lst r=>exact .list (.of bq) (r.same e)
 | dK r=>exact .dictK bq (r.same e)
 | dT n r=>exact .dictT bq n (r.same e)
 | dF n r=>exact .dictF bq n (r.same e)
inductive Sl where
 | no
 | shr (d:D)
 | own (d:D)
 | lck (d:D)
 | ow2 (dss:List (List D))
abbrev ap:=List Sl
inductive v9 (K:a6) (H Hs:Hp):List ah->List (List D)->Prop
 | nil:v9 K H Hs [] []
 | cons {a:ah}{as:List ah}{vs:List V}{ds:List D}{dss:List (List D)}:H a=some (.lst vs)->RDs K Hs vs ds->v9 K H Hs as dss->v9 K H Hs (a::as) (ds::dss)
theorem v9.step {K:a6}{H Hs H' Hs':Hp} (e:cZ H H') (e':cZ Hs Hs') {as:List ah}{dss:List (List D)} (h:v9 K H Hs as dss):v9 K H' Hs' as dss:=by
 induction h with
 | nil=>exact .nil
 | cons h r t ih=>exact .cons (e _ _ h) (r.same e') ih
theorem v9.upd {K:a6}{H Hs:Hp}{b:ah}{o:HO}{as:List ah}{dss:List (List D)} (n:b∉as) (h:v9 K H Hs as dss):v9 K (upd H b o) Hs as dss:=by
 induction h with
 | nil=>exact .nil
 | cons h r t ih=>exact .cons (by rw [bj (fun z=>n (by rw [<- z];exact al))];exact h) r (ih fun z=>n (aj _ z))
theorem v9.there {K:a6}{H Hs:Hp}{b:ah}{as:List ah}{dss:List (List D)} (h:v9 K H Hs as dss) (hb:b∈as):∃ o,H b=some o/\nt o=true:=by
 induction h with
 | nil=>cases hb
 | cons h r t ih =>
  rcases List.mem_cons.mp hb with e | hb
  ·exact ⟨_,e ▸ h,rfl⟩
  ·exact ih hb
structure O2 (K:a6) (H0 H Hs:Hp) (ρ:ap) (σ:St) (i:Nat) (dss:List (List D)) (a:ah) (as:List ah):Prop where
 at_:σ[i]?=some (some (V.ref a))
 ob:H a=some (.lst (as.map V.ref))
 nd:(a::as).Nodup
 out:∀ b∈a::as,Hs b=none/\H0 b=none
 dj:∀ b∈a::as,∀ (j:Nat) (e:D),ρ[j]?=some (Sl.own e)->σ[j]?≠some (some (V.ref b))
 inn:v9 K H Hs as dss
structure Fr (K:a6) (H0 Hs0:Hp) (la:Nat->Option ah) (ρ:ap) (σ:St) (H Hs:Hp):Prop where
 st:cD H0 Hs0 H Hs
 len:ρ.length=σ.length
 sh:∀ (i:Nat) (d:D),ρ[i]?=some (Sl.shr d)->∃ v,σ[i]?=some (some v)/\RD K Hs v d
 ow:∀ (i:Nat) (d:D),ρ[i]?=some (Sl.own d)->∃ a o,σ[i]?=some (some (V.ref a))/\H a=some o/\Hs a=none/\H0 a=none/\lV K Hs o d
 lk:∀ (i:Nat) (d:D),ρ[i]?=some (Sl.lck d)->∃ a o,σ[i]?=some (some (V.ref a))/\la i=some a/\H a=some o/\Hs a=none/\H0 a=some o/\lV K Hs o d
 dj:∀ (i j:Nat) (d e:D) (a:ah),ρ[i]?=some (Sl.own d)->ρ[j]?=some (Sl.own e)->σ[i]?=some (some (V.ref a))->σ[j]?=some (some (V.ref a))->i=j
 lh:∀ (i:Nat) (a:ah),la i=some a->∃ o,H0 a=some o
 o2:∀ (i:Nat) (dss:List (List D)),ρ[i]?=some (Sl.ow2 dss)->∃ a as,O2 K H0 H Hs ρ σ i dss a as
 u2:∀ (i j:Nat) (d e:List (List D)),ρ[i]?=some (Sl.ow2 d)->ρ[j]?=some (Sl.ow2 e)->i=j
theorem Fr.step {K:a6}{H0 Hs0 H Hs H' Hs':Hp}{la:Nat->Option ah}{ρ:ap}{σ:St} (f:Fr K H0 Hs0 la ρ σ H Hs) (s:cD H Hs H' Hs'):Fr K H0 Hs0 la ρ σ H' Hs':=by
 refine ⟨f.st.trans s,f.len,fun i d e=>?_,fun i d e=>?_,fun i d e=>?_,f.dj,f.lh,fun i dss e=>?_,f.u2⟩
 ·obtain ⟨v,h1,h2⟩:=f.sh i d e
  exact ⟨v,h1,h2.same s.sh⟩
 ·obtain ⟨a,o,h1,h2,h3,h4,h5⟩:=f.ow i d e
  exact ⟨a,o,h1,s.all _ _ h2,s.out _ _ h2 h5.nt h3,h4,h5.same s.sh⟩
 ·obtain ⟨a,o,h1,h2,h3,h4,h5,h6⟩:=f.lk i d e
  exact ⟨a,o,h1,h2,s.all _ _ h3,s.out _ _ h3 h6.nt h4,h5,h6.same s.sh⟩
 ·obtain ⟨a,as,h⟩:=f.o2 i dss e
  refine ⟨a,as,h.at_,s.all _ _ h.ob,h.nd,fun b hb=>⟨?_,(h.out b hb).2⟩,h.dj,h.inn.step s.all s.sh⟩
  have there:∃ o,H b=some o/\nt o=true:=by
   rcases List.mem_cons.mp hb with rfl | hb
   ·exact ⟨_,h.ob,rfl⟩
   ·exact h.inn.there hb
  obtain ⟨o,ho,hn⟩:=there
  exact s.out b o ho hn (h.out b (by assumption)).1
inductive SB (K:a6) (H Hs:Hp) (v:V) (d:D):Prop
 | mk (a:ah) (o:HO) (h0:v=.ref a) (h1:H a=some o) (h2:Hs a=none) (h3:lV K Hs o d):SB K H Hs v d
def RB (K:a6) (H Hs:Hp) (v:V) (d:D):Prop:=RD K Hs v d\/SB K H Hs v d
theorem RB.step {K:a6}{H Hs H' Hs':Hp}{v:V}{d:D} (h:RB K H Hs v d) (s:cD H Hs H' Hs'):RB K H' Hs' v d:=by
 rcases h with h | ⟨a,o,h1,h2,h3,h4⟩
 ·exact .inl (h.same s.sh)
 ·exact .inr ⟨a,o,h1,s.all _ _ h2,s.out _ _ h2 h4.nt h3,h4.same s.sh⟩
theorem RB.full {K:a6}{H Hs:Hp}{v:V}{d:D} (sub:cZ Hs H) (h:RB K H Hs v d):RD K H v d:=by
 rcases h with h | ⟨a,o,rfl,h2,h3,h4⟩
 ·exact h.same sub
 ·have e:cZ (upd Hs a o) H:=fun b u q=>by
   by_cases hb:b=a
   ·subst hb;rw [bq] at q;cases q;exact h2
   ·rw [bj hb] at q;exact sub b u q
  exact (h4.share h3).same e
theorem RB.list {K:a6}{H Hs:Hp}{v:V}{ds:List D} (sub:cZ Hs H) (h:RB K H Hs v (.list ds)):∃ a vs,v=.ref a/\lU K H a vs/\RDs K Hs vs ds:=by
 rcases h with h | ⟨a,o,rfl,h2,h3,h4⟩
 ·cases h with | list q r=>exact ⟨_,_,rfl,sub.seq q,r⟩
 ·cases h4 with | lst r=>exact ⟨a,_,rfl,.of h2,r⟩
theorem RB.tuple {K:a6}{H Hs:Hp}{v:V}{ds:List D} (sub:cZ Hs H) (h:RB K H Hs v (.tuple ds)):∃ a vs,v=.ref a/\kG K H a vs/\RDs K Hs vs ds/\Hs a=some (.tup vs):=by
 rcases h with h | ⟨a,o,rfl,h2,h3,h4⟩
 ·cases h with | tuple q r=>exact ⟨_,_,rfl,.of (sub _ _ q),r,q⟩
 ·cases h4
theorem RB.str {K:a6}{H Hs:Hp}{v:V}{x:Str} (h:RB K H Hs v (.str x)):v=.str x:=by
 rcases h with h | ⟨a,o,rfl,h2,h3,h4⟩
 ·exact h.str_inv
 ·cases h4
theorem RB.int {K:a6}{H Hs:Hp}{v:V}{i:Int} (h:RB K H Hs v (.int i)):v=.int i:=by
 rcases h with h | ⟨a,o,rfl,h2,h3,h4⟩
 ·exact h.int_inv
 ·cases h4
theorem RB.non {K:a6}{H Hs:Hp}{v:V} (h:RB K H Hs v .none):v=.non:=by
 rcases h with h | ⟨a,o,rfl,h2,h3,h4⟩
 ·cases h;rfl
 ·cases h4
def XW (K:a6) (cls:Str->ah) (E:XK) (c:Str) (n:Option D) (H Hs:Hp):Prop:=match n with
 | none=>E (.ref (cls c)) none H
 | some d=>∀ dx v,H dx=some (.xd [("number",v)])->RD K Hs v d->E (.ref (cls c)) (some dx) H
def Fin {α:Type} (K:a6) (cls:Str->ah) (E:XK) (H Hs:Hp) (r:R α) (q:α->Prop):Prop:=match r with
 | .ok d=>q d
 | .ex c n=>∀ H' Hs',cD H Hs H' Hs'->XW K cls E c n H' Hs'
 | .no=>False
inductive Vx (K:a6) (cls:Str->ah) (E:XK) (ρ:ap) (r:R D) (σ:St) (H:Hp) (Q:VK):Prop
 | mk (H0 Hs0:Hp) (la:Nat->Option ah) (Hs:Hp) (f:Fr K H0 Hs0 la ρ σ H Hs) (q:Fin K cls E H Hs r fun d=>∀ v H' Hs',cD H Hs H' Hs'->RD K Hs' v d->Q v H'):Vx K cls E ρ r σ H Q
def TR (K:a6) (cls:Str->ah) (E:XK) (ρ:ap) (r:R D):TE:=Vx K cls E ρ r
inductive Vy (K:a6) (cls:Str->ah) (E:XK) (ρ:ap) (r:R D) (σ:St) (H:Hp) (Q:VK):Prop
 | mk (H0 Hs0:Hp) (la:Nat->Option ah) (Hs:Hp) (f:Fr K H0 Hs0 la ρ σ H Hs) (q:Fin K cls E H Hs r fun d=>∀ v H' Hs',cD H Hs H' Hs'->RB K H' Hs' v d->Q v H'):Vy K cls E ρ r σ H Q
def TB (K:a6) (cls:Str->ah) (E:XK) (ρ:ap) (r:R D):TE:=Vy K cls E ρ r
inductive SC (K:a6) (cls:Str->ah) (E:XK) (ρ:ap) (r:R Bool) (σ:St) (H:Hp) (Q:Bool->Hp->Prop):Prop
 | mk (H0 Hs0:Hp) (la:Nat->Option ah) (Hs:Hp) (f:Fr K H0 Hs0 la ρ σ H Hs) (q:Fin K cls E H Hs r fun b=>∀ H' Hs',cD H Hs H' Hs'->Q b H'):SC K cls E ρ r σ H Q
def Iv (K:a6) (cls:Str->ah) (E:XK) (ρ:ap) (r:R Bool):TT:=SC K cls E ρ r
inductive Oc (K:a6) (H Hs:Hp):List V->List D->Prop
 | nil:Oc K H Hs [] []
 | cons {x:V}{xs:List V}{d:D}{ds:List D}:RB K H Hs x d->Oc K H Hs xs ds->Oc K H Hs (x::xs) (d::ds)
inductive SD (K:a6) (cls:Str->ah) (E:XK) (ρ:ap) (r:R (List D)) (σ:St) (H:Hp) (Q:List V->Hp->Prop):Prop
 | mk (H0 Hs0:Hp) (la:Nat->Option ah) (Hs:Hp) (f:Fr K H0 Hs0 la ρ σ H Hs) (q:Fin K cls E H Hs r fun d=>∀ v H' Hs',cD H Hs H' Hs'->RDs K Hs' v d->Q v H'):SD K cls E ρ r σ H Q
def U_ (K:a6) (cls:Str->ah) (E:XK) (ρ:ap) (r:R (List D)):TA:=SD K cls E ρ r
inductive SE (K:a6) (cls:Str->ah) (E:XK) (ρ:ap) (r:R (List D)) (σ:St) (H:Hp) (Q:List V->Hp->Prop):Prop
 | mk (H0 Hs0:Hp) (la:Nat->Option ah) (Hs:Hp) (f:Fr K H0 Hs0 la ρ σ H Hs) (q:Fin K cls E H Hs r fun d=>∀ v H' Hs',cD H Hs H' Hs'->Oc K H' Hs' v d->Q v H'):SE K cls E ρ r σ H Q
def Ud (K:a6) (cls:Str->ah) (E:XK) (ρ:ap) (r:R (List D)):TA:=SE K cls E ρ r
structure C where
 X:Cx
 cls:Str->ah
 E:XK
structure JE (c:C) (e:aV) (g:ap->R D):Prop where of ::
 run:∀ ρ,PE c.X e (TR c.X.K c.cls c.E ρ (g ρ))
instance {c:C}{e:aV}{g:ap->R D}:CoeFun (JE c e g) (fun _=>∀ ρ,PE c.X e (TR c.X.K c.cls c.E ρ (g ρ))):=⟨JE.run⟩
structure JB (c:C) (e:aV) (g:ap->R D):Prop where of ::
 run:∀ ρ,PE c.X e (TB c.X.K c.cls c.E ρ (g ρ))
instance {c:C}{e:aV}{g:ap->R D}:CoeFun (JB c e g) (fun _=>∀ ρ,PE c.X e (TB c.X.K c.cls c.E ρ (g ρ))):=⟨JB.run⟩
structure JT (c:C) (e:aV) (g:ap->R Bool):Prop where of ::
 run:∀ ρ,PT c.X e (Iv c.X.K c.cls c.E ρ (g ρ))
instance {c:C}{e:aV}{g:ap->R Bool}:CoeFun (JT c e g) (fun _=>∀ ρ,PT c.X e (Iv c.X.K c.cls c.E ρ (g ρ))):=⟨JT.run⟩
structure JW (c:C) (e:aV) (g:ap->R Bool):Prop where of ::
 run:∀ ρ,PW c.X e (Iv c.X.K c.cls c.E ρ (g ρ))
instance {c:C}{e:aV}{g:ap->R Bool}:CoeFun (JW c e g) (fun _=>∀ ρ,PW c.X e (Iv c.X.K c.cls c.E ρ (g ρ))):=⟨JW.run⟩
structure Ej (c:C) (es:List aV) (g:ap->R (List D)):Prop where of ::
 run:∀ ρ,PA c.X es (U_ c.X.K c.cls c.E ρ (g ρ))
instance {c:C}{es:List aV}{g:ap->R (List D)}:CoeFun (Ej c es g) (fun _=>∀ ρ,PA c.X es (U_ c.X.K c.cls c.E ρ (g ρ))):=⟨Ej.run⟩
structure Py (c:C) (es:List aV) (g:ap->R (List D)):Prop where of ::
 run:∀ ρ,PA c.X es (Ud c.X.K c.cls c.E ρ (g ρ))
instance {c:C}{es:List aV}{g:ap->R (List D)}:CoeFun (Py c es g) (fun _=>∀ ρ,PA c.X es (Ud c.X.K c.cls c.E ρ (g ρ))):=⟨Py.run⟩
section
variable {c:C}{e a b:aV}{g ga gb:ap->R D}{pos:Pos}
theorem rN {X:Cx}{e:aV}{t t':TE} (h:PE X e t) (m:∀ σ H Q,t' σ H Q->t σ H Q):PE X e t':=fun pins s σ H Q I q=>h pins s σ H Q I (m σ H Q q)
theorem Ue {X:Cx}{e:aV}{t t':TT} (h:PT X e t) (m:∀ σ H Q,t' σ H Q->t σ H Q):PT X e t':=fun pins s σ H Q I q=>h pins s σ H Q I (m σ H Q q)
theorem Vz {X:Cx}{e:aV}{t t':TT} (h:PW X e t) (m:∀ σ H Q,t' σ H Q->t σ H Q):PW X e t':=fun wh pins s σ H Q I q=>h wh pins s σ H Q I (m σ H Q q)
theorem R6 {X:Cx}{e:List aV}{t t':TA} (h:PA X e t) (m:∀ σ H Q,t' σ H Q->t σ H Q):PA X e t':=fun pos pins s σ H Q I q=>h pos pins s σ H Q I (m σ H Q q)
theorem yS {X:Cx}{e:cC}{t t':TS} (h:PS X e t) (m:∀ D σ H,t' D σ H->t D σ H):PS X e t':=fun pins s σ H Q I q=>h pins s σ H Q I (m Q σ H q)
theorem V0 {X:Cx}{e:List cC}{t t':TS} (h:G9 X e t) (m:∀ D σ H,t' D σ H->t D σ H):G9 X e t':=fun pins s σ H Q I q=>h pins s σ H Q I (m Q σ H q)
theorem JE.bor (h:JE c e g):JB c e g:=.of fun ρ=>rN (h ρ) fun σ H Q ⟨H0,Hs0,la,Hs,f,q⟩=>⟨H0,Hs0,la,Hs,f,by
 cases hr:g ρ with
 | ok d=>rw [hr] at q;exact fun v H' Hs' s r=>q v H' Hs' s (.inl r)
 | ex c n=>rw [hr] at q;exact q
 | no=>rw [hr] at q;exact q⟩
theorem one {K:a6}{cls:Str->ah}{E:XK}{ρ:ap}{r:R D}{β:Type}{k:D->R β}{σ:St}{H:Hp}{H0 Hs0 Hs:Hp}{la:Nat->Option ah}{Q:V->Hp->Prop}{q:β->Prop} (f:Fr K H0 Hs0 la ρ σ H Hs)
  (h:Fin K cls E H Hs (r.bind k) q) (m:∀ d v H' Hs',r=.ok d->cD H Hs H' Hs'->Fr K H0 Hs0 la ρ σ H' Hs'->RB K H' Hs' v d->Q v H'):TB K cls E ρ r σ H Q:=by
 refine ⟨H0,Hs0,la,Hs,f,?_⟩
 cases r with
 | ok d=>exact fun v H' Hs' s r=>m d v H' Hs' rfl s (f.step s) r
 | ex c n=>exact h
 | no=>exact h
theorem A_ {K:a6}{cls:Str->ah}{E:XK}{ρ:ap}{r:R D}{β:Type}{k:D->R β}{σ:St}{H:Hp}{H0 Hs0 Hs:Hp}{la:Nat->Option ah}{Q:V->Hp->Prop}{q:β->Prop} (f:Fr K H0 Hs0 la ρ σ H Hs)
  (h:Fin K cls E H Hs (r.bind k) q) (m:∀ d v H' Hs',r=.ok d->cD H Hs H' Hs'->Fr K H0 Hs0 la ρ σ H' Hs'->RD K Hs' v d->Q v H'):TR K cls E ρ r σ H Q:=by
 refine ⟨H0,Hs0,la,Hs,f,?_⟩
 cases r with
 | ok d=>exact fun v H' Hs' s r=>m d v H' Hs' rfl s (f.step s) r
 | ex c n=>exact h
 | no=>exact h
theorem KQ {K:a6}{cls:Str->ah}{E:XK}{ρ:ap}{r:R Bool}{β:Type}{k:Bool->R β}{σ:St}{H:Hp}{H0 Hs0 Hs:Hp}{la:Nat->Option ah}{Q:Bool->Hp->Prop}{q:β->Prop} (f:Fr K H0 Hs0 la ρ σ H Hs)
  (h:Fin K cls E H Hs (r.bind k) q) (m:∀ d H' Hs',r=.ok d->cD H Hs H' Hs'->Fr K H0 Hs0 la ρ σ H' Hs'->Q d H'):Iv K cls E ρ r σ H Q:=by
 refine ⟨H0,Hs0,la,Hs,f,?_⟩
 cases r with
 | ok d=>exact fun H' Hs' s=>m d H' Hs' rfl s (f.step s)
 | ex c n=>exact h
 | no=>exact h
theorem B0 {K:a6}{cls:Str->ah}{E:XK}{ρ:ap}{r:R (List D)}{β:Type}{k:List D->R β}{σ:St}{H:Hp}{H0 Hs0 Hs:Hp}{la:Nat->Option ah}{Q:List V->Hp->Prop}{q:β->Prop} (f:Fr K H0 Hs0 la ρ σ H Hs)
  (h:Fin K cls E H Hs (r.bind k) q) (m:∀ d v H' Hs',r=.ok d->cD H Hs H' Hs'->Fr K H0 Hs0 la ρ σ H' Hs'->RDs K Hs' v d->Q v H'):U_ K cls E ρ r σ H Q:=by
 refine ⟨H0,Hs0,la,Hs,f,?_⟩
 cases r with
 | ok d=>exact fun v H' Hs' s r=>m d v H' Hs' rfl s (f.step s) r
 | ex c n=>exact h
 | no=>exact h
theorem KR {K:a6}{cls:Str->ah}{E:XK}{ρ:ap}{r:R (List D)}{β:Type}{k:List D->R β}{σ:St}{H:Hp}{H0 Hs0 Hs:Hp}{la:Nat->Option ah}{Q:List V->Hp->Prop}{q:β->Prop} (f:Fr K H0 Hs0 la ρ σ H Hs)
  (h:Fin K cls E H Hs (r.bind k) q) (m:∀ d v H' Hs',r=.ok d->cD H Hs H' Hs'->Fr K H0 Hs0 la ρ σ H' Hs'->Oc K H' Hs' v d->Q v H'):Ud K cls E ρ r σ H Q:=by
 refine ⟨H0,Hs0,la,Hs,f,?_⟩
 cases r with
 | ok d=>exact fun v H' Hs' s r=>m d v H' Hs' rfl s (f.step s) r
 | ex c n=>exact h
 | no=>exact h
theorem Fin.on {α:Type}{K:a6}{cls:Str->ah}{E:XK}{H Hs H' Hs':Hp}{r:R α}{q q':α->Prop} (h:Fin K cls E H Hs r q) (s:cD H Hs H' Hs') (m:∀ a,q a->q' a):Fin K cls E H' Hs' r q':=by
 cases r with
 | ok a=>exact m a h
 | ex c n=>exact fun H2 Hs2 s2=>h H2 Hs2 (s.trans s2)
 | no=>exact h
end
end
section
def Ek (ρ:ap) (i:Nat):R D:=match ρ[i]? with
 | some (Sl.shr d)=>.ok d
 | _=>.no
def Cz (ρ:ap) (i:Nat):R D:=match ρ[i]? with
 | some (Sl.shr d)=>.ok d
 | some (Sl.own d)=>.ok d
 | some (Sl.lck d)=>.ok d
 | _=>.no
section
variable {c:C}{e a b:aV}{g ga gb:ap->R D}{pos:Pos}
theorem ai (i:Nat) {x:Str} (hN:c.X.N[i]?=some x:=by rfl) (hv:JF c.X.env.scope x:=by first | exact fB rfl | exact c_ (fB rfl) | exact c_ (c_ rfl)) (hd:(x == ("__debug__" : Str))=false:=by decide)
  (hcd:(x == ("__classdict__" : Str))=false:=by decide):JE c (.Name x pos) (fun ρ=>Ek ρ i):=.of fun ρ=>rN (mJ hN hv hd hcd) fun σ H Q h_0=>by
 obtain ⟨H0,Hs0,la,Hs,f,q⟩:=h_0
 cases hr:ρ[i]? with
 | none=>simp only [Ek,hr] at q;exact q.elim
 | some s =>
  cases s with
  | shr d =>
   obtain ⟨v,h1,h2⟩:=f.sh i d hr
   simp only [Ek,hr] at q
   exact ⟨v,h1,q v H Hs (.refl f.st.sub) h2⟩
  | no=>simp only [Ek,hr] at q;exact q.elim
  | own d=>simp only [Ek,hr] at q;exact q.elim
  | lck d=>simp only [Ek,hr] at q;exact q.elim
  | ow2 d=>simp only [Ek,hr] at q;exact q.elim
theorem ak (i:Nat) {x:Str} (hN:c.X.N[i]?=some x:=by rfl) (hv:JF c.X.env.scope x:=by first | exact fB rfl | exact c_ (fB rfl) | exact c_ (c_ rfl)) (hd:(x == ("__debug__" : Str))=false:=by decide)
  (hcd:(x == ("__classdict__" : Str))=false:=by decide):JB c (.Name x pos) (fun ρ=>Cz ρ i):=.of fun ρ=>rN (mJ hN hv hd hcd) fun σ H Q h_1=>by
 obtain ⟨H0,Hs0,la,Hs,f,q⟩:=h_1
 cases hr:ρ[i]? with
 | none=>simp only [Cz,hr] at q;exact q.elim
 | some s =>
  cases s with
  | shr d =>
   obtain ⟨v,h1,h2⟩:=f.sh i d hr
   simp only [Cz,hr] at q
   exact ⟨v,h1,q v H Hs (.refl f.st.sub) (.inl h2)⟩
  | no=>simp only [Cz,hr] at q;exact q.elim
  | own d =>
   obtain ⟨a,o,h1,h2,h3,h4,h5⟩:=f.ow i d hr
   simp only [Cz,hr] at q
   exact ⟨_,h1,q _ H Hs (.refl f.st.sub) (.inr ⟨a,o,rfl,h2,h3,h5⟩)⟩
  | lck d =>
   obtain ⟨a,o,h1,h2,h3,h4,h5,h6⟩:=f.lk i d hr
   simp only [Cz,hr] at q
   exact ⟨_,h1,q _ H Hs (.refl f.st.sub) (.inr ⟨a,o,rfl,h3,h4,h6⟩)⟩
  | ow2 d=>simp only [Cz,hr] at q;exact q.elim
theorem pY {v:V}{d:D} (h:PE c.X e (tC v)) (r:∀ Hs,RD c.X.K Hs v d):JE c e (fun _=>.ok d):=.of fun ρ=>rN h fun σ H Q h_2=>by obtain ⟨H0,Hs0,la,Hs,f,q⟩:=h_2;exact q v H Hs (.refl f.st.sub) (r Hs)
theorem aF {i:Int}{j:Nat}:JE c (.Constant (.int i) j pos) (fun _=>.ok (.int i)):=pY Qn fun _=>.int i
theorem lw {i:Bool}{j:Nat}:JE c (.Constant (.bool i) j pos) (fun _=>.ok (.bool i)):=pY RX fun _=>.bool i
theorem lz {j:Nat}:JE c (.Constant .none j pos) (fun _=>.ok .none):=pY Qo fun _=>.none
theorem pZ {i:Str}{j:Nat}:JE c (.Constant (.str i) j pos) (fun _=>.ok (.str i)):=pY Qp fun _=>.str i
theorem p_ {x:Str}{i:Int} (hg:Gl c.X x) (hm:∃ t,c.X.mg x=some (.int i t)) (hd:(x == ("__debug__" : Str))=false:=by decide):JE c (.Name x pos) (fun _=>.ok (.int i)):=by
 obtain ⟨t,hm⟩:=hm
 exact pY (NF hg hm (v:=.int i) ⟨t,rfl⟩ hd) fun _=>.int i
inductive VA (K:a6) (h:D->D->R D) (x:V) (y:V) (H:Hp) (Q:VK):Prop
 | mk (Hs dx dy:_) (h0:cZ Hs H) (h1:RB K H Hs x dx) (h2:RB K H Hs y dy) (h3:∃ d,h dx dy=.ok d/\∀ v H' Hs',cD H Hs H' Hs'->RD K Hs' v d->Q v H'):VA K h x y H Q
def rD (K:a6) (h:D->D->R D):R2:=VA K h
def wO (X:Cx) (f:a8->a8->Sem a8) (h:D->D->R D):Prop:=pE X f (rD X.K h)/\∀ x y c n,h x y≠.ex c n
def g2 (ga gb:ap->R D) (h:D->D->R D):ap->R D:=fun ρ=>(ga ρ).bind fun x=>(gb ρ).bind fun y=>h x y
theorem two {K:a6}{cls:Str->ah}{E:XK}{h:D->D->R D}{ρ:ap}{σ:St}{H:Hp}{Q:VK} (hx:∀ x y c n,h x y≠.ex c n) (q:TR K cls E ρ (g2 ga gb h ρ) σ H Q):S6 (rD K h) (TB K cls E ρ (ga ρ)) (TB K cls E ρ (gb ρ)) σ H Q:=by
 obtain ⟨H0,Hs0,la,Hs,f,q⟩:=q
 refine one f q fun x v H1 Hs1 e1 s1 f1 r1=>?_
 unfold g2 at q
 rw [e1,bind_ok] at q
 refine one f1 (q.on s1 (q':=fun _=>True) fun _ _=>trivial) fun y u H2 Hs2 e2 s2 f2 r2=>?_
 rw [e2,bind_ok] at q
 cases hr:h x y with
 | ok d =>
  rw [hr] at q
  exact ⟨Hs2,x,y,f2.st.sub,r1.step s2,r2,d,hr,fun w H3 Hs3 s3 r3=>q w H3 Hs3 (s1.trans (s2.trans s3)) r3⟩
 | ex c n=>exact (hx x y c n hr).elim
 | no=>rw [hr] at q;exact q.elim
theorem bK {op:Operator}{h:D->D->R D} (ho:wO c.X (fZ op) h) (ha:JB c a ga) (hb:JB c b gb):JE c (.BinOp a op b pos) (g2 ga gb h):=.of fun ρ=>rN (Pj ho.1 (ha ρ) (hb ρ)) fun σ H Q q=>two ho.2 q
theorem nX {op:wC}{h:D->D->R D} (ho:wO c.X (bL op) h) (ha:JB c a ga) (hb:JB c b gb) (hm:gI op b=false:=by first | exact Ke _ | rfl):JE c (.Compare a [op] [b] pos) (g2 ga gb h):=.of fun ρ=>rN (NM ho.1 (ha ρ) (hb ρ) hm) fun σ H Q q=>two ho.2 q
def fE (g:ap->R D):ap->R Bool:=fun ρ=>(g ρ).bind fun d=>match d with
 | .bool b=>.ok b
 | _=>.no
theorem SF {K:a6}{cls:Str->ah}{E:XK}{ρ:ap}{σ:St}{H:Hp}{Q:Bool->Hp->Prop} (q:Iv K cls E ρ (fE g ρ) σ H Q):TR K cls E ρ (g ρ) σ H fun x H'=>∃ k,x=.bl k/\Q k H':=by
 obtain ⟨H0,Hs0,la,Hs,f,q⟩:=q
 refine A_ f q fun d v H1 Hs1 e1 s1 f1 r1=>?_
 unfold fE at q
 rw [e1,bind_ok] at q
 cases r1 with
 | bool b=>exact ⟨b,rfl,q H1 Hs1 s1⟩
 | _=>exact q.elim
theorem dh {op:wC}{h:D->D->R D} (ho:wO c.X (bL op) h) (ha:JB c a ga) (hb:JB c b gb) (hm:gI op b=false:=by first | exact Ke _ | rfl):JT c (.Compare a [op] [b] pos) (fE (g2 ga gb h)):=.of fun ρ=>Ue (NN ho.1 (ha ρ) (hb ρ) hm) fun σ H Q q=>two ho.2 (SF q)
theorem eh (h:JE c e g) (he:∀ whole,Av e c.X.env whole=(do let v <- whole;Ec e.pos;holding [v] (truthy v)):=by intro _;rfl):JT c e (fE g):=.of fun ρ=>Ue (Qq (h ρ) he) fun σ H Q q=>SF q
def gY (g:ap->R Bool):ap->R Bool:=fun ρ=>(g ρ).bind fun b=>.ok (!b)
def F3 (g h:ap->R Bool):ap->R Bool:=fun ρ=>(g ρ).bind fun b=>if b then h ρ else .ok false
def F4 (g h:ap->R Bool):ap->R Bool:=fun ρ=>(g ρ).bind fun b=>if b then .ok true else h ρ
variable {gt gu:ap->R Bool}{bY:List aV}
theorem en (h:JT c e gt):JT c (.UnaryOp .Not e pos) (gY gt):=.of fun ρ=>Ue (Qt (h ρ)) fun σ H Q q=>by
 obtain ⟨H0,Hs0,la,Hs,f,q⟩:=q
 refine KQ f q fun d H1 Hs1 e1 s1 f1=>?_
 unfold gY at q
 rw [e1,bind_ok] at q
 exact q H1 Hs1 s1
theorem B1 (h:JT c a gt):JW c (.BoolOp .And [a] pos) gt:=.of fun ρ=>NH (h ρ)
theorem kJ (h:JT c a gt):JW c (.BoolOp .Or [a] pos) gt:=.of fun ρ=>Qr (h ρ)
theorem F5 (h:JT c a gt) (h2:JW c (.BoolOp .And (b::bY) pos) gu):JW c (.BoolOp .And (a::b::bY) pos) (F3 gt gu):=.of fun ρ=>Vz (Qs (h ρ) (h2 ρ)) fun σ H Q q=>by
 obtain ⟨H0,Hs0,la,Hs,f,q⟩:=q
 refine KQ f q fun d H1 Hs1 e1 s1 f1=>?_
 unfold F3 at q
 rw [e1,bind_ok] at q
 cases d with
 | true=>exact Ce ⟨H0,Hs0,la,Hs1,f1,q.on s1 fun b k H2 Hs2 s2=>k H2 Hs2 (s1.trans s2)⟩
 | false=>exact Cd (q H1 Hs1 s1)
theorem oY (h:JT c a gt) (h2:JW c (.BoolOp .Or (b::bY) pos) gu):JW c (.BoolOp .Or (a::b::bY) pos) (F4 gt gu):=.of fun ρ=>Vz (RY (h ρ) (h2 ρ)) fun σ H Q q=>by
 obtain ⟨H0,Hs0,la,Hs,f,q⟩:=q
 refine KQ f q fun d H1 Hs1 e1 s1 f1=>?_
 unfold F4 at q
 rw [e1,bind_ok] at q
 cases d with
 | false=>exact Cd ⟨H0,Hs0,la,Hs1,f1,q.on s1 fun b k H2 Hs2 s2=>k H2 Hs2 (s1.trans s2)⟩
 | true=>exact Ce (q H1 Hs1 s1)
theorem JW.t (h:JW c e gt):JT c e gt:=.of fun ρ=>(h ρ).pt
def CA (g:ap->R D):ap->R D:=fun ρ=>(fE g ρ).bind fun b=>.ok (.bool (!b))
theorem KS (h:JE c e g):JE c (.UnaryOp .Not e pos) (CA g):=.of fun ρ=>rN (Qw (h ρ)) fun σ H Q q=>by
 refine SF ?_
 obtain ⟨H0,Hs0,la,Hs,f,q⟩:=q
 refine KQ f q fun d H1 Hs1 e1 s1 f1=>?_
 unfold CA at q
 rw [e1,bind_ok] at q
 exact q _ H1 Hs1 s1 (.bool _)
def q0 (g h:ap->R D):ap->R D:=fun ρ=>(fE g ρ).bind fun b=>if b then h ρ else .ok (.bool false)
theorem sk {op:BoolOp} (h:JE c a g):JE c (.BoolOp op [a] pos) g:=.of fun ρ=>Qu (h ρ)
theorem q8 (h:JE c a ga) (h2:JE c (.BoolOp .And (b::bY) pos) gb):JE c (.BoolOp .And (a::b::bY) pos) (q0 ga gb):=.of fun ρ=>rN (Qv (h ρ) (h2 ρ)) fun σ H Q q=>by
 refine SF ?_
 obtain ⟨H0,Hs0,la,Hs,f,q⟩:=q
 refine KQ f q fun d H1 Hs1 e1 s1 f1=>?_
 unfold q0 at q
 rw [e1,bind_ok] at q
 cases d with
 | true=>exact Ce ⟨H0,Hs0,la,Hs1,f1,q.on s1 fun b k v H2 Hs2 s2 r2=>k v H2 Hs2 (s1.trans s2) r2⟩
 | false=>exact Cd (q _ H1 Hs1 s1 (.bool _))
def q9 (ga gb gc:ap->R D) (h h':D->D->R D):ap->R D:=fun ρ=>(ga ρ).bind fun x=>(gb ρ).bind fun y=>(h x y).bind fun z=>match z with
 | .bool true=>(gc ρ).bind fun w=>h' y w
 | .bool false=>.ok (.bool false)
 | _=>.no
variable {es:List aV}{gs:ap->R (List D)}
def aa (g:ap->R D) (gs:ap->R (List D)):ap->R (List D):=fun ρ=>(g ρ).bind fun d=>(gs ρ).bind fun ds=>.ok (d::ds)
def aG:ap->R (List D):=fun _=>.ok []
theorem aB:Ej c [] aG:=.of fun ρ=>R6 gq fun σ H Q h_3=>by obtain ⟨H0,Hs0,la,Hs,f,q⟩:=h_3;exact q [] H Hs (.refl f.st.sub) .nil
theorem bO:Py c [] aG:=.of fun ρ=>R6 gq fun σ H Q h_4=>by obtain ⟨H0,Hs0,la,Hs,f,q⟩:=h_4;exact q [] H Hs (.refl f.st.sub) .nil
theorem a9 (h:JE c e g) (hr:Ej c es gs) (hs:aw (e::es) c.X.env=(false,cR e c.X.env)::aw es c.X.env:=by rfl):Ej c (e::es) (aa g gs):=.of fun ρ=>R6 (eV (h ρ) (hr ρ) hs) fun σ H Q h_5=>by
 obtain ⟨H0,Hs0,la,Hs,f,q⟩:=h_5
 refine A_ f q fun d v H1 Hs1 e1 s1 f1 r1=>?_
 unfold aa at q
 rw [e1,bind_ok] at q
 refine B0 f1 (q.on s1 (q':=fun _=>True) fun _ _=>trivial) fun ds vs H2 Hs2 e2 s2 f2 r2=>?_
 rw [e2,bind_ok] at q
 exact q _ H2 Hs2 (s1.trans s2) (.cons (r1.same s2.sh) r2)
theorem br (h:JB c e g) (hr:Py c es gs) (hs:aw (e::es) c.X.env=(false,cR e c.X.env)::aw es c.X.env:=by rfl):Py c (e::es) (aa g gs):=.of fun ρ=>R6 (eV (h ρ) (hr ρ) hs) fun σ H Q h_6=>by
 obtain ⟨H0,Hs0,la,Hs,f,q⟩:=h_6
 refine one f q fun d v H1 Hs1 e1 s1 f1 r1=>?_
 unfold aa at q
 rw [e1,bind_ok] at q
 refine KR f1 (q.on s1 (q':=fun _=>True) fun _ _=>trivial) fun ds vs H2 Hs2 e2 s2 f2 r2=>?_
 rw [e2,bind_ok] at q
 exact q _ H2 Hs2 (s1.trans s2) (.cons (r1.step s2) r2)
def fH (gs:ap->R (List D)) (k:List D->D):ap->R D:=fun ρ=>(gs ρ).bind fun ds=>if ds.length<=1000 then .ok (k ds) else .no
theorem mM {x1} (h:Ej c es gs):JE c (.Tuple es x1 pos) (fH gs .tuple):=.of fun ρ=>rN (QM (h ρ)) fun σ H Q h_7=>by
 obtain ⟨H0,Hs0,la,Hs,f,q⟩:=h_7
 refine B0 f q fun ds vs H1 Hs1 e1 s1 f1 r1=>?_
 unfold fH at q
 rw [e1,bind_ok] at q
 by_cases hl:ds.length<=1000
 ·rw [if_pos hl] at q
  refine ⟨cc (df (by rw [r1.length];exact hl)),fun p hp=>q _ _ _ (s1.trans (.new f1.st.sub hp)) (.tuple bq (r1.same (cD.new f1.st.sub hp).sh))⟩
 ·rw [if_neg hl] at q;exact q.elim
theorem jG (h:Ej c es gs):JE c (.List es pos) (fH gs .list):=.of fun ρ=>rN (nQ (h ρ)) fun σ H Q h_8=>by
 obtain ⟨H0,Hs0,la,Hs,f,q⟩:=h_8
 refine B0 f q fun ds vs H1 Hs1 e1 s1 f1 r1=>?_
 unfold fH at q
 rw [e1,bind_ok] at q
 by_cases hl:ds.length<=1000
 ·rw [if_pos hl] at q
  refine ⟨cc (df (by rw [r1.length];exact hl)),fun p hp=>q _ _ _ (s1.trans (.new f1.st.sub hp)) (.list (.of bq) (r1.same (cD.new f1.st.sub hp).sh))⟩
 ·rw [if_neg hl] at q;exact q.elim
end
end
end J
namespace J
open PySem PySem.Spec PyProof.Rows L2
section
section
variable {X:Cx}
def dk:D->D->R D
 | .int i,.int j=>.ok (.int (i + j))
 | .str x,.str y=>if x.length + y.length<=1000 then .ok (.str (x++y)) else .no
 | .tuple xs,.tuple ys=>if xs.length + ys.length<=1000 then .ok (.tuple (xs++ys)) else .no
 | .list xs,.list ys=>if xs.length + ys.length<=1000 then .ok (.list (xs++ys)) else .no
 | _,_=>.no
inductive KU (K:a6) (x:V) (y:V) (H:Hp) (Q:VK):Prop
 | mk (l b xs zs:_) (h0:x=.ref l) (h1:y=.ref b) (h2:lU K H l xs) (h3:lU K H b zs) (h4:xs.length + zs.length<=sizeLine) (h5:∀ p,H p=none->Q (.ref p) (upd H p (.lst (xs++zs)))):KU K x y H Q
def SG (K:a6):R2:=KU K
theorem Od:pE X (fZ .Add) (SG X.K):=by
 intro pins s σ H x y v u Q I rx ry h
 obtain ⟨l,b,xs,zs,rfl,rfl,h1,h2,hz,q⟩:=h
 cases rx;cases ry
 obtain ⟨its,r,⟨o,n,e,c1,c2,c3⟩,z⟩:=I.list h1
 obtain ⟨its2,r2,⟨o2,n2,e2,d1,d2,d3⟩,z2⟩:=I.list h2
 obtain ⟨k1,k2,k3,k4⟩:=o
 obtain ⟨m1,m2,m3,m4⟩:=o2
 simp only at c1 c2 c3 d1 d2 d3
 subst c1 c2 c3 d1 d2 d3
 refine yW ⟨_,e,rfl⟩ ⟨_,e2,rfl⟩ noFill_list_add seq_list_add PySem.F.slot_list_add PySem.F.entry_list_add (PySem.F.args_list_add_2 _ _) (PyProof.Rows.list_addW l b _ _ n n2 _ _ k4 m4 (by rw [aM,aM,<- r.length,<- r2.length];exact hz)) ⟨e,e2,?_⟩
 have ea:its.toArray++its2.toArray=(its++its2).toArray:=by simp
 rw [ea]
 exact ⟨.ref _,_,I.lnew (t':=s.toks) (r.append r2) (by rw [aH];omega),rfl,q _ I.fresh⟩
inductive KW (K:a6) (x:V) (y:V) (H:Hp) (Q:VK):Prop
 | mk (a b ys:_) (h0:x=.ref a) (h1:y=.ref b) (h2:kG K H a []) (h3:kG K H b ys) (h4:Q (.ref b) H):KW K x y H Q
def SH (K:a6):R2:=KW K
theorem Oe:pE X (fZ .Add) (SH X.K):=by
 intro pins s σ H x y v u Q I rx ry h
 obtain ⟨a,b,ys,rfl,rfl,h1,h2,q⟩:=h
 cases rx;cases ry
 obtain ⟨its,r,⟨⟨k1,k2,k3,k4⟩,e,c1,n,c3⟩,z⟩:=I.tuple h1
 obtain ⟨its2,r2,⟨⟨m1,m2,m3,m4⟩,e2,d1,n2,d3⟩,z2⟩:=I.tuple h2
 simp only at c1 c3 d1 d3
 subst c1 c3 d1 d3
 cases r
 exact yW ⟨_,e,rfl⟩ ⟨_,e2,rfl⟩ Ax HF nP nc (mG _ _)
  (PyProof.Rows.tuple_addW0 a b _ _ n n2 _ _ k4 m4 rfl) ⟨e,e2,⟨.ref b,H,I,rfl,q⟩⟩
theorem cy:wO X (fZ .Add) dk:=by
 refine ⟨fun pins s σ H x y v u Q I rv ru ⟨Hs,dx,dy,sub,rx,ry,d,hd,q⟩=>?_,fun x y c n=>?_⟩
 ·unfold dk at hd
  split at hd
  ·cases hd
   exact QG pins s σ H x y v u Q I rv ru ⟨_,_,rx.int,ry.int,q _ H Hs (.refl sub) (.int _)⟩
  ·split at hd
   ·rename_i hz
    cases hd
    exact EN pins s σ H x y v u Q I rv ru ⟨_,_,rx.str,ry.str,cc (df hz),q _ H Hs (.refl sub) (.str _)⟩
   ·cases hd
  ·split at hd
   ·rename_i xs ys hz
    cases hd
    obtain ⟨a,vs,rfl,qa,ra,_⟩:=rx.tuple sub
    obtain ⟨b,ws,rfl,qb,rb,_⟩:=ry.tuple sub
    have hz':vs.length + ws.length<=sizeLine:=by rw [ra.length,rb.length];exact cc (df hz)
    have big:∀ p,H p=none->Q (.ref p) (upd H p (.tup (vs++ws))):=fun p hp=>q _ _ _ (.new sub hp) (.tuple bq ((ra.append rb).same (cD.new sub hp).sh))
    cases vs with
    | nil =>
     cases ra
     refine Oe pins s σ H _ _ v u Q I rv ru ⟨a,b,ws,rfl,rfl,qa,qb,?_⟩
     rcases ry with ry | ⟨_,_,_,_,_,ow⟩
     ·exact q _ H Hs (.refl sub) (by simpa using ry)
     ·cases ow
    | cons v0 vr =>
     refine NW pins s σ H _ _ v u Q I rv ru ⟨a,b,_,ws,rfl,rfl,qa,qb,by simp,hz',fun e=>?_,fun _=>big⟩
     subst e
     cases rb
     rcases rx with rx | ⟨_,_,_,_,_,ow⟩
     ·exact q _ H Hs (.refl sub) (by simpa using rx)
     ·cases ow
   ·cases hd
  ·split at hd
   ·rename_i xs ys hz
    cases hd
    obtain ⟨a,vs,rfl,qa,ra⟩:=rx.list sub
    obtain ⟨b,ws,rfl,qb,rb⟩:=ry.list sub
    have hz':vs.length + ws.length<=sizeLine:=by rw [ra.length,rb.length];exact cc (df hz)
    exact Od pins s σ H _ _ v u Q I rv ru ⟨a,b,vs,ws,rfl,rfl,qa,qb,hz',fun p hp=>q _ _ _ (.new sub hp) (.list (.of bq) ((ra.append rb).same (cD.new sub hp).sh))⟩
   ·cases hd
  ·cases hd
 ·unfold dk
  split<;>(try split)<;>exact fun h=>by cases h
def F6 (C:Int->Int->Bool) (k:Int->Int->D):D->D->R D
 | .int i,.int j=>if C i j then .ok (k i j) else .no
 | _,_=>.no
theorem F7 {f:a8->a8->Sem a8}{C:Int->Int->Bool}{P:Int->Int->Prop}{k:Int->Int->D}{kv:Int->Int->V} (h:pE X f (rI P kv)) (hC:∀ i j,C i j=true->P i j) (hk:∀ Hs i j,RD X.K Hs (kv i j) (k i j)):wO X f (F6 C k):=by
 refine ⟨fun pins s σ H x y v u Q I rv ru ⟨Hs,dx,dy,sub,rx,ry,d,hd,q⟩=>?_,fun x y c n=>?_⟩
 ·unfold F6 at hd
  split at hd
  ·split at hd
   ·rename_i hc
    cases hd
    exact h pins s σ H x y v u Q I rv ru ⟨_,_,rx.int,ry.int,hC _ _ hc,q _ H Hs (.refl sub) (hk _ _ _)⟩
   ·cases hd
  ·cases hd
 ·unfold F6
  split<;>(try split)<;>exact fun h=>by cases h
def zS (i j:Int):Bool:=(decide (-(2 ^ 64)<i) && decide (i<2 ^ 64)) || (decide (-(2 ^ 64)<j) && decide (j<2 ^ 64))
def wv:=F6 zS fun i j=>.int (i * j)
def Iw:=F6 (fun _ j=>decide (0<j)) fun i j=>.int (i % j)
def KY:=F6 (fun _ j=>decide (0<j) && decide (j<1073741824)) fun i j=>.int (i / j)
theorem qc:wO X (fZ .Mult) wv:=F7 QH (fun i j h=>by
 unfold zS at h
 simp only [ja,aN,decide_eq_true_eq] at h
 exact h) fun _ _ _=>.int _
theorem B2:wO X (fZ .Mod) Iw:=F7 QI (fun i j h=>of_decide_eq_true h) fun _ _ _=>.int _
theorem Of:wO X (fZ .FloorDiv) KY:=F7 NK (fun i j h=>by
 simp only [aN,decide_eq_true_eq] at h
 exact h) fun _ _ _=>.int _
def lA (neg:Bool) (x y:D):R D:=if x.canLay0 && y.canLay0 && decide (min x.depth y.depth<=60) then .ok (.bool (if neg then !bn x y else bn x y)) else .no
mutual
theorem B3:∀ d:D,d.canLay0=true->pX d=true
 | .none,_=>rfl
 | .bool _,_=>rfl
 | .int _,_=>rfl
 | .str _,_=>rfl
 | .list xs,h=>by
  simp only [dO] at h
  simp only [pX]
  exact lays_noD xs h
 | .tuple xs,h=>by
  simp only [dO] at h
  simp only [pX]
  exact lays_noD xs h
 | .dict _,h=>by simp [dO] at h
theorem lays_noD:∀ d:List D,bJ d=true->noDs d=true
 | [],_=>rfl
 | x::r,h=>by
  simp only [bJ,aN] at h
  simp only [noDs,aN]
  exact ⟨B3 x h.1,lays_noD r h.2⟩
end
theorem KZ {neg:Bool}{f:a8->a8->Sem a8} (h:pE X f (R1 X.K neg)):wO X f (lA neg):=by
 refine ⟨fun pins s σ H x y v u Q I rv ru ⟨Hs,dx,dy,sub,rx,ry,d,hd,q⟩=>?_,fun x y c n=>?_⟩
 ·unfold lA at hd
  split at hd
  ·rename_i hc
   simp only [aN,decide_eq_true_eq] at hc
   cases hd
   exact h pins s σ H x y v u Q I rv ru ⟨dx,dy,(rx.full sub).rep (B3 _ hc.1.1),(ry.full sub).rep (B3 _ hc.1.2),hc.1.1,hc.1.2,hc.2,q _ H Hs (.refl sub) (.bool _)⟩
  ·cases hd
 ·unfold lA
  split<;>exact fun h=>by cases h
theorem rO (hu:X.A.units + 64<tm):wO X (bL .Eq) (lA false):=KZ (R4 hu)
theorem vP (hu:X.A.units + 64<tm):wO X (bL .NotEq) (lA true):=KZ (R5 hu)
def Ix (k:Int->Int->Bool) (t:Str->Str->Bool):D->D->R D
 | .int i,.int j=>.ok (.bool (k i j))
 | .str x,.str y=>.ok (.bool (t x y))
 | _,_=>.no
theorem K_ {f:a8->a8->Sem a8}{k:Int->Int->Bool}{t:Str->Str->Bool} (h1:pE X f (QC fun i j=>.bl (k i j))) (h2:pE X f (fun x y H Q=>∃ i j,x=.str i/\y=.str j/\Q (.bl (t i j)) H)):wO X f (Ix k t):=by
 refine ⟨fun pins s σ H x y v u Q I rv ru ⟨Hs,dx,dy,sub,rx,ry,d,hd,q⟩=>?_,fun x y c n=>?_⟩
 ·unfold Ix at hd
  split at hd
  ·cases hd
   exact h1 pins s σ H x y v u Q I rv ru ⟨_,_,rx.int,ry.int,q _ H Hs (.refl sub) (.bool _)⟩
  ·cases hd
   exact h2 pins s σ H x y v u Q I rv ru ⟨_,_,rx.str,ry.str,q _ H Hs (.refl sub) (.bool _)⟩
  ·cases hd
 ·unfold Ix
  split<;>exact fun h=>by cases h
def F8:=Ix (fun i j=>decide (i<j)) pF
def Og:=Ix (fun i j=>decide (i<=j)) fun x y=>!pF y x
def R7:D->D->R D
 | .int i,.int j=>.ok (.bool (decide (j<i)))
 | _,_=>.no
theorem zT:wO X (bL .Lt) F8:=K_ S9 HY
theorem xy:wO X (bL .LtE) Og:=K_ Sc Ip
theorem L0:wO X (bL .Gt) R7:=by
 refine ⟨fun pins s σ H x y v u Q I rv ru ⟨Hs,dx,dy,sub,rx,ry,d,hd,q⟩=>?_,fun x y c n=>?_⟩
 ·unfold R7 at hd
  split at hd
  ·cases hd
   exact Sd pins s σ H x y v u Q I rv ru ⟨_,_,rx.int,ry.int,q _ H Hs (.refl sub) (.bool _)⟩
  ·cases hd
 ·unfold R7
  split<;>exact fun h=>by cases h
def F9:D->Bool
 | .none=>true
 | _=>false
def B4 (neg:Bool):D->D->R D
 | x,.none=>.ok (.bool (if neg then !F9 x else F9 x))
 | _,_=>.no
theorem Gq {K:a6}{H Hs:Hp}{v:V}{d:D} (h:RB K H Hs v d):decide (v=.non)=F9 d:=by
 rcases h with h | ⟨a,o,rfl,_,_,h⟩
 ·cases h<;>rfl
 ·cases h<;>rfl
theorem L3:wO X (bL .Is) (B4 false):=by
 refine ⟨fun pins s σ H x y v u Q I rv ru ⟨Hs,dx,dy,sub,rx,ry,d,hd,q⟩=>?_,fun x y c n=>?_⟩
 ·unfold B4 at hd
  split at hd
  ·cases hd
   exact QK pins s σ H x y v u Q I rv ru ⟨ry.non,by rw [Gq rx];exact q _ H Hs (.refl sub) (.bool _)⟩
  ·cases hd
 ·unfold B4
  split<;>exact fun h=>by cases h
theorem CB:wO X (bL .IsNot) (B4 true):=by
 refine ⟨fun pins s σ H x y v u Q I rv ru ⟨Hs,dx,dy,sub,rx,ry,d,hd,q⟩=>?_,fun x y c n=>?_⟩
 ·unfold B4 at hd
  split at hd
  ·cases hd
   exact NL pins s σ H x y v u Q I rv ru ⟨ry.non,by rw [Gq rx];exact q _ H Hs (.refl sub) (.bool _)⟩
  ·cases hd
 ·unfold B4
  split<;>exact fun h=>by cases h
def kO:D->Bool
 | .none=>true
 | .bool _=>true
 | .int _=>true
 | .str _=>true
 | _=>false
def CC (neg:Bool):D->D->R D
 | x,.list ys=>if kO x && ys.all kO then .ok (.bool (if neg then !(ys.any fun y=>bn y x) else ys.any fun y=>bn y x)) else .no
 | x,.tuple ys=>if kO x && ys.all kO then .ok (.bool (if neg then !(ys.any fun y=>bn y x) else ys.any fun y=>bn y x)) else .no
 | _,_=>.no
theorem Gr {K:a6}{H:Hp}{v:V}{d:D} (h:RD K H v d) (f:kO d=true):pU v=true:=by
 cases h<;>first | rfl | cases f
theorem CD {K:a6}{H Hs:Hp}{v:V}{d:D} (h:RB K H Hs v d) (f:kO d=true):pU v=true:=by
 rcases h with h | ⟨a,o,rfl,_,_,h⟩
 ·exact Gr h f
 ·cases h<;>cases f
theorem CF {K:a6}{H:Hp}{vs:List V}:∀ {ds:List D},RDs K H vs ds->ds.all kO=true->vs.all pU=true:=by
 induction vs with
 | nil=>intro ds _ _;rfl
 | cons x r ih =>
  intro ds h f
  cases h with
  | cons h t =>
   rw [tL,aN] at f ⊢
   exact ⟨Gr h f.1,ih t f.2⟩
theorem R8 {K:a6}{H H2 Hs:Hp}{v u:V}{d e:D} (h:RD K H v d) (h2:RB K H2 Hs u e) (f:kO d=true) (f2:kO e=true):NZ v u=bn d e:=by
 have h2':RD K Hs u e:=by
  rcases h2 with h2 | ⟨a,o,rfl,_,_,h2⟩
  ·exact h2
  ·cases h2<;>cases f2
 cases h with
 | list _ _=>cases f
 | tuple _ _=>cases f
 | dictK _ _=>cases f
 | dictT _ _ _=>cases f
 | dictF _ _ _=>cases f
 | none=>cases h2'<;>first | rfl | cases f2
 | bool b=>cases h2'<;>first | rfl | cases f2
 | int i=>cases h2'<;>first | rfl | cases f2
 | str x=>cases h2'<;>first | rfl | cases f2
theorem Fa {K:a6}{H H2 Hs:Hp}{u:V}{e:D} (h2:RB K H2 Hs u e) (f2:kO e=true):∀ {vs:List V}{ds:List D},RDs K H vs ds->ds.all kO=true->U7 u vs=ds.any fun y=>bn y e
 | _,_,.nil,_=>rfl
 | _,_,.cons h t,f=>by
  rw [tL,aN] at f
  have:=Fa h2 f2 t f.2
  unfold U7 at this ⊢
  rw [fm,fm,this,R8 h h2 f.1 f2]
theorem L4 {neg:Bool}{f:a8->a8->Sem a8} (h:pE X f (UP X.K neg)):wO X f (CC neg):=by
 refine ⟨fun pins s σ H x y v u Q I rv ru ⟨Hs,dx,dy,sub,rx,ry,d,hd,q⟩=>?_,fun x y c n=>?_⟩
 ·unfold CC at hd
  split at hd
  ·split at hd
   ·rename_i hc
    simp only [aN] at hc
    cases hd
    obtain ⟨b,ws,rfl,qb,rb⟩:=ry.list sub
    refine h pins s σ H _ _ v u Q I rv ru ⟨b,ws,rfl,.inl qb,CD rx hc.1,CF rb hc.2,?_⟩
    rw [Fa rx hc.1 rb hc.2]
    exact q _ H Hs (.refl sub) (.bool _)
   ·cases hd
  ·split at hd
   ·rename_i hc
    simp only [aN] at hc
    cases hd
    obtain ⟨b,ws,rfl,qb,rb,_⟩:=ry.tuple sub
    refine h pins s σ H _ _ v u Q I rv ru ⟨b,ws,rfl,.inr qb,CD rx hc.1,CF rb hc.2,?_⟩
    rw [Fa rx hc.1 rb hc.2]
    exact q _ H Hs (.refl sub) (.bool _)
   ·cases hd
  ·cases hd
 ·unfold CC
  split<;>(try split)<;>exact fun h=>by cases h
theorem CG:wO X (bL .In) (CC false):=L4 I0
theorem xz:wO X (bL .NotIn) (CC true):=L4 AJ
end
end
end J
namespace J
open PySem L2
section
section
variable {c:C}{e a b:aV}{g ga gb:ap->R D}{pos:Pos}
def CH:D->D->R D
 | .list xs,.int i=>match Ca xs i with
  | some d=>.ok d
  | none=>.no
 | .tuple xs,.int i=>match Ca xs i with
  | some d=>.ok d
  | none=>.no
 | .str x,.int i=>if x.length<=1000 then (match Ca x.cps.toList i with
  | some k=>.ok (.str ⟨#[k]⟩)
  | none=>.no) else .no
 | _,_=>.no
theorem Gs {K:a6}{H:Hp}{vs:List V}{ds:List D} (h:RDs K H vs ds) {i:Int}{d:D} (e:Ca ds i=some d):∃ v,Ca vs i=some v/\RD K H v d:=by
 unfold Ca at e ⊢
 rw [h.length]
 cases hx:Pm ds.length i with
 | none=>rw [hx] at e;cases e
 | some j =>
  rw [hx] at e
  exact h.get' e
theorem V1 {X:Cx}:Sj X (rD X.K CH):=by
 intro va sl pins s σ H x y v u Q I rv ru h
 obtain ⟨Hs,dx,dy,sub,rx,ry,d,hd,q⟩:=h
 unfold CH at hd
 split at hd
 ·split at hd
  ·rename_i d' he
   cases hd
   obtain ⟨p,vs,rfl,qa,ra⟩:=rx.list sub
   obtain ⟨w,hw,rw'⟩:=Gs ra he
   exact qJ va sl pins s σ H _ _ v u Q I rv ru ⟨p,vs,_,w,rfl,ry.int,qa,hw,q _ H Hs (.refl sub) rw'⟩
  ·cases hd
 ·split at hd
  ·rename_i d' he
   cases hd
   obtain ⟨p,vs,rfl,qa,ra,_⟩:=rx.tuple sub
   obtain ⟨w,hw,rw'⟩:=Gs ra he
   exact QQ va sl pins s σ H _ _ v u Q I rv ru ⟨p,vs,_,w,rfl,ry.int,qa,hw,q _ H Hs (.refl sub) rw'⟩
  ·cases hd
 ·split at hd
  ·rename_i hz
   split at hd
   ·rename_i k he
    cases hd
    exact QR va sl pins s σ H _ _ v u Q I rv ru ⟨_,_,k,rx.str,ry.int,cc (df hz),he,q _ H Hs (.refl sub) (.str _)⟩
   ·cases hd
  ·cases hd
 ·cases hd
theorem R9 (x y:D) (c:Str) (n:Option D):CH x y≠.ex c n:=by
 unfold CH
 split<;>(try split)<;>(try split)<;>exact fun h=>by cases h
theorem SJ (ha:JB c a ga) (hb:JB c b gb) (hs:wM b:=by exact fun _ _=>rfl):JE c (.Subscript a b pos) (g2 ga gb CH):=.of fun ρ=>rN (Pn V1 (ha ρ) (hb ρ) hs) fun σ H Q q=>two R9 q
def zi (ds:List D) (lo hi:Option Int):List D:=(ds.drop (HT.iq ds.length 0 lo)).take (HT.iq ds.length ds.length hi - HT.iq ds.length 0 lo)
theorem Gu {K:a6}{H:Hp}{vs:List V}{ds:List D} (h:RDs K H vs ds) (lo hi:Option Int):RDs K H (C9 vs lo hi) (zi ds lo hi):=by
 unfold C9 zi
 rw [h.length]
 exact (h.drop _).take _
def El:D->Option Int->Option Int->R D
 | .list xs,lo,hi=>.ok (.list (zi xs lo hi))
 | .tuple xs,lo,hi=>.ok (.tuple (zi xs lo hi))
 | _,_,_=>.no
inductive Pz (K:a6) (x:V) (lo:Option Int) (hi:Option Int) (H:Hp) (Q:VK):Prop
 | mk (Hs dx:_) (h0:cZ Hs H) (h1:RB K H Hs x dx) (h2:∃ d,El dx lo hi=.ok d/\∀ v H' Hs',cD H Hs H' Hs'->RD K Hs' v d->Q v H'):Pz K x lo hi H Q
def V2 (K:a6):V->Option Int->Option Int->Hp->VK->Prop:=Pz K
theorem V3 {X:Cx}:Sh X (V2 X.K):=by
 intro pins s σ H x v vl vu lo hi sl Q I rx hs pl pu h
 obtain ⟨Hs,dx,sub,rb,d,hd,q⟩:=h
 unfold El at hd
 split at hd
 ·cases hd
  obtain ⟨p,vs,rfl,qa,ra⟩:=rb.list sub
  exact NY pins s σ H _ v vl vu lo hi sl Q I rx hs pl pu ⟨p,vs,rfl,qa,fun l hl=>q _ _ _ (.new sub hl) (.list (.of bq) ((Gu ra lo hi).same (cD.new sub hl).sh))⟩
 ·cases hd
  obtain ⟨p,vs,rfl,qa,ra,_⟩:=rb.tuple sub
  by_cases hw:HT.iq vs.length 0 lo=0/\HT.iq vs.length vs.length hi=vs.length
  ·refine Ob pins s σ H _ v vl vu lo hi sl Q I rx hs pl pu ⟨p,vs,rfl,qa,hw,?_⟩
   rcases rb with rb | ⟨_,_,_,_,_,ow⟩
   ·refine q _ H Hs (.refl sub) ?_
    unfold zi
    rw [<- ra.length,hw.1,hw.2,ra.length]
    simpa using rb
   ·cases ow
  ·exact QP pins s σ H _ v vl vu lo hi sl Q I rx hs pl pu ⟨p,vs,rfl,qa,hw,fun l hl=>q _ _ _ (.new sub hl) (.tuple bq ((Gu ra lo hi).same (cD.new sub hl).sh))⟩
 ·cases hd
inductive SK (K:a6) (cls:Str->ah) (E:XK) (ρ:ap) (r:R (Option Int)) (σ:St) (H:Hp) (Q:Option Int->Hp->Prop):Prop
 | mk (H0 Hs0:Hp) (la:Nat->Option ah) (Hs:Hp) (f:Fr K H0 Hs0 la ρ σ H Hs) (q:Fin K cls E H Hs r fun d=>∀ H' Hs',cD H Hs H' Hs'->Q d H'):SK K cls E ρ r σ H Q
def V4 (K:a6) (cls:Str->ah) (E:XK) (ρ:ap) (r:R (Option Int)):TO:=SK K cls E ρ r
structure JO (c:C) (e:Option aV) (g:ap->R (Option Int)):Prop where of ::
 run:∀ ρ,PO c.X e (V4 c.X.K c.cls c.E ρ (g ρ))
instance {c:C}{e:Option aV}{g:ap->R (Option Int)}:CoeFun (JO c e g) (fun _=>∀ ρ,PO c.X e (V4 c.X.K c.cls c.E ρ (g ρ))):=⟨JO.run⟩
theorem VB {X:Cx}{e:Option aV}{t t':TO} (h:PO X e t) (m:∀ σ H Q,t' σ H Q->t σ H Q):PO X e t':=fun pins s σ H Q I q=>h pins s σ H Q I (m σ H Q q)
def RP:ap->R (Option Int):=fun _=>.ok none
def Fb (g:ap->R D):ap->R (Option Int):=fun ρ=>(g ρ).bind fun d=>match d with
 | .int i=>.ok (some i)
 | _=>.no
theorem wP:JO c none RP:=.of fun ρ=>VB NU fun σ H Q h_0=>by obtain ⟨H0,Hs0,la,Hs,f,q⟩:=h_0;exact q H Hs (.refl f.st.sub)
theorem iM (h:JE c e g):JO c (some e) (Fb g):=.of fun ρ=>VB (NV (h ρ)) fun σ H Q h_1=>by
 obtain ⟨H0,Hs0,la,Hs,f,q⟩:=h_1
 refine A_ f q fun d v H1 Hs1 e1 s1 f1 r1=>?_
 unfold Fb at q
 rw [e1,bind_ok] at q
 cases r1 with
 | int i=>exact ⟨i,rfl,q H1 Hs1 s1⟩
 | _=>exact q.elim
theorem SL {K:a6}{cls:Str->ah}{E:XK}{ρ:ap}{r:R (Option Int)}{β:Type}{k:Option Int->R β}{σ:St}{H:Hp}{H0 Hs0 Hs:Hp}{la:Nat->Option ah}{Q:Option Int->Hp->Prop}{q:β->Prop} (f:Fr K H0 Hs0 la ρ σ H Hs)
  (h:Fin K cls E H Hs (r.bind k) q) (m:∀ d H' Hs',r=.ok d->cD H Hs H' Hs'->Fr K H0 Hs0 la ρ σ H' Hs'->Q d H'):V4 K cls E ρ r σ H Q:=by
 refine ⟨H0,Hs0,la,Hs,f,?_⟩
 cases r with
 | ok d=>exact fun H' Hs' s=>m d H' Hs' rfl s (f.step s)
 | ex c n=>exact h
 | no=>exact h
def L5 (g:ap->R D) (gl gh:ap->R (Option Int)):ap->R D:=fun ρ=>(g ρ).bind fun x=>(gl ρ).bind fun l=>(gh ρ).bind fun h=>El x l h
theorem kn {lo hi:Option aV}{gl gh:ap->R (Option Int)}{p2:Pos} (he:JB c e g) (hl:JO c lo gl) (hh:JO c hi gh):JE c (.Subscript e (.Slice lo hi none p2) pos) (L5 g gl gh):=.of fun ρ=>rN (Ki V3 (he ρ) (hl ρ) (hh ρ)) fun σ H Q h_2=>by
 obtain ⟨H0,Hs0,la,Hs,f,q⟩:=h_2
 refine one f q fun d v H1 Hs1 e1 s1 f1 r1=>?_
 unfold L5 at q
 rw [e1,bind_ok] at q
 refine SL f1 (q.on s1 (q':=fun _=>True) fun _ _=>trivial) fun l H2 Hs2 e2 s2 f2=>?_
 rw [e2,bind_ok] at q
 refine SL f2 (q.on (s1.trans s2) (q':=fun _=>True) fun _ _=>trivial) fun h H3 Hs3 e3 s3 f3=>?_
 rw [e3,bind_ok] at q
 cases hr:El d l h with
 | ok z=>rw [hr] at q;exact ⟨Hs3,d,f3.st.sub,(r1.step s2).step s3,z,hr,fun w H4 Hs4 s4 r4=>q w H4 Hs4 (s1.trans (s2.trans (s3.trans s4))) r4⟩
 | ex c n=>unfold El at hr;split at hr<;>cases hr
 | no=>rw [hr] at q;exact q.elim
inductive VC (K:a6) (h:List D->R D) (xs:List V) (H:Hp) (Q:VK):Prop
 | mk (Hs ds:_) (h0:cZ Hs H) (h1:Oc K H Hs xs ds) (h2:∃ d,h ds=.ok d/\∀ v H' Hs',cD H Hs H' Hs'->RD K Hs' v d->Q v H'):VC K h xs H Q
def rC (K:a6) (h:List D->R D):List V->Hp->VK->Prop:=VC K h
def Iy (X:Cx) (f:a8) (h:List D->R D):Prop:=jz X f (rC X.K h)/\∀ x c n,h x≠.ex c n
def ca (gs:ap->R (List D)) (h:List D->R D):ap->R D:=fun ρ=>(gs ρ).bind h
theorem PB {K:a6}{cls:Str->ah}{E:XK}{h:List D->R D}{gs:ap->R (List D)}{ρ:ap}{σ:St}{H:Hp}{Q:VK} (hx:∀ x c n,h x≠.ex c n) (q:TR K cls E ρ (ca gs h ρ) σ H Q):RN (rC K h) (Ud K cls E ρ (gs ρ)) σ H Q:=by
 obtain ⟨H0,Hs0,la,Hs,f,q⟩:=q
 refine KR f q fun ds vs H1 Hs1 e1 s1 f1 r1=>?_
 unfold ca at q
 rw [e1,bind_ok] at q
 cases hr:h ds with
 | ok d =>
  rw [hr] at q
  exact ⟨Hs1,ds,f1.st.sub,r1,d,hr,fun w H3 Hs3 s3 r3=>q w H3 Hs3 (s1.trans s3) r3⟩
 | ex c n=>exact (hx ds c n hr).elim
 | no=>rw [hr] at q;exact q.elim
variable {es:List aV}{gs:ap->R (List D)}{x:Str}{p:Pos}{id T:String}{h:List D->R D}
theorem bP (hc:Iy c.X (.builtin id) h) (hg:Gl c.X x) (hm:c.X.mg x=none) (hv:gE x=some (.builtin id)) (ha:Py c (e::es) gs) (hn:x≠"__name__":=by decide) (hdb:(x == ("__debug__" : Str))=false:=by decide)
  (he:aw (e::es) c.X.env=(false,cR e c.X.env)::aw es c.X.env:=by rfl) (hpl:(eT pos (aw es c.X.env)).any (·.1)=false:=by rfl):JE c (.Call (.Name x p) (e::es) [] pos) (ca gs h):=.of fun ρ=>rN (pT hc.1 hg hm hv (ha ρ) hn hdb he hpl) fun σ H Q q=>PB hc.2 q
theorem fj (hc:Iy c.X (.type T) h) (hg:Gl c.X x) (hm:c.X.mg x=none) (hv:gE x=some (.type T)) (ha:Py c (e::es) gs) (hn:x≠"__name__":=by decide) (hdb:(x == ("__debug__" : Str))=false:=by decide)
  (he:aw (e::es) c.X.env=(false,cR e c.X.env)::aw es c.X.env:=by rfl) (hpl:(eT pos (aw es c.X.env)).any (·.1)=false:=by rfl):JE c (.Call (.Name x p) (e::es) [] pos) (ca gs h):=.of fun ρ=>rN (uZ hc.1 hg hm hv (ha ρ) hn hdb he hpl) fun σ H Q q=>PB hc.2 q
end
end
section
section
variable {X:Cx}
theorem Oc.one {K:a6}{H Hs:Hp}{xs:List V}{d:D} (h:Oc K H Hs xs [d]):∃ x,xs=[x]/\RB K H Hs x d:=by
 cases h with | cons a t=>cases t;exact ⟨_,rfl,a⟩
def gX (h:D->R D):List D->R D
 | [d]=>h d
 | _=>.no
theorem sr {f:a8}{h:D->R D} (hx:∀ d c n,h d≠.ex c n)
  (hr:∀ pins s σ H x u Q Hs d d',bQ X pins σ H s->de x u->cZ Hs H->RB X.K H Hs x d->h d=.ok d'->(∀ v H' Hs',cD H Hs H' Hs'->RD X.K Hs' v d'->Q v H')->au (aP X.prog X.w) X.A (call f [u]) (EP X pins σ Q) X.xe s):Iy X f (gX h):=by
 refine ⟨fun pins s σ H xs us Q I r ⟨Hs,ds,sub,rb,d,hd,q⟩=>?_,fun x c n=>?_⟩
 ·unfold gX at hd
  split at hd
  ·obtain ⟨x,rfl,rx⟩:=rb.one
   obtain ⟨u,rfl,ru⟩:=ki r
   exact hr pins s σ H x u Q Hs _ _ I ru sub rx hd q
  ·cases hd
 ·unfold gX
  split
  ·exact hx _ _ _
  ·exact fun h=>by cases h
def iI:D->R D
 | .list xs=>.ok (.int xs.length)
 | .tuple xs=>.ok (.int xs.length)
 | .str x=>if x.length<=1000 then .ok (.int x.length) else .no
 | _=>.no
theorem RDk.length {K:a6}{H:Hp}{vs:List (fi×V)}:∀ {ds:List (D×D)},RDk K H vs ds->vs.length=ds.length:=by
 induction vs with
 | nil=>intro ds h;cases h;rfl
 | cons x r ih=>intro ds h;cases h with | cons a b=>exact congrArg (· + 1) (ih b)
theorem RB.dict {K:a6}{H Hs:Hp}{v:V}{ds:List (D×D)} (sub:cZ Hs H) (h:RB K H Hs v (.dict ds)):∃ a,v=.ref a/\((∃ kvs,H a=some (.dK kvs)/\RDk K Hs kvs ds)\/(∃ kvs,H a=some (.dT kvs)/\kvs≠[]/\RDt K Hs kvs ds)\/∃ o kvs es,ds=(.none,.none)::es/\H a=some (.frz o (.dT kvs))/\kvs≠[]/\RDt K Hs kvs es):=by
 rcases h with h | ⟨a,o,rfl,h2,h3,h4⟩
 ·cases h with
  | dictK q r=>exact ⟨_,rfl,.inl ⟨_,sub _ _ q,r⟩⟩
  | dictT q n r=>exact ⟨_,rfl,.inr (.inl ⟨_,sub _ _ q,n,r⟩)⟩
  | dictF q n r=>exact ⟨_,rfl,.inr (.inr ⟨_,_,_,rfl,sub _ _ q,n,r⟩)⟩
 ·cases h4 with
  | dK r=>exact ⟨a,rfl,.inl ⟨_,h2,r⟩⟩
  | dT n r=>exact ⟨a,rfl,.inr (.inl ⟨_,h2,n,r⟩)⟩
  | dF n r=>exact ⟨a,rfl,.inr (.inr ⟨_,_,_,rfl,h2,n,r⟩)⟩
theorem g6:Iy X (.builtin "len") (gX iI):=by
 refine sr (fun d c n=>?_) fun pins s σ H x u Q Hs d d' I ru sub rx hd q=>?_
 ·unfold iI
  split<;>(try split)<;>exact fun h=>by cases h
 ·unfold iI at hd
  split at hd
  ·cases hd
   obtain ⟨a,vs,rfl,qa,ra⟩:=rx.list sub
   refine tY pins s σ H _ _ Q I (.cons ru .nil) ⟨a,vs,rfl,.inl qa,?_⟩
   rw [ra.length]
   exact q _ H Hs (.refl sub) (.int _)
  ·cases hd
   obtain ⟨a,vs,rfl,qa,ra,_⟩:=rx.tuple sub
   refine tY pins s σ H _ _ Q I (.cons ru .nil) ⟨a,vs,rfl,.inr qa,?_⟩
   rw [ra.length]
   exact q _ H Hs (.refl sub) (.int _)
  ·split at hd
   ·rename_i hz
    cases hd
    exact AK pins s σ H _ _ Q I (.cons ru .nil) ⟨_,by rw [rx.str],cc (df hz),q _ H Hs (.refl sub) (.int _)⟩
   ·cases hd
  ·cases hd
def B5 (T:String) (d:D):Bool:=match T,d with
 | "str",.str _=>true
 | "int",.int _=>true
 | "int",.bool _=>true
 | "bool",.bool _=>true
 | "list",.list _=>true
 | "tuple",.tuple _=>true
 | _,_=>false
def vb (g:ap->R D) (T:String):ap->R D:=fun ρ=>(g ρ).bind fun d=>if pX d then .ok (.bool (B5 T d)) else .no
theorem Oh {K:a6}{d:D} (T:String) (hT:T="str"\/T="int"\/T="bool"\/T="list"\/T="tuple") (h:pX d=true):pI K (.type (UZ d)) (.type T)=some (B5 T d):=by
 rcases hT with rfl | rfl | rfl | rfl | rfl<;>cases d<;>first | rfl | simp [pX] at h
theorem mO {c:C}{e:aV}{g:ap->R D}{p p2 pos:Pos}{T:Str}{Ts:String} (h:JB c e g) (hgi:Gl c.X "isinstance") (hi:c.X.mg "isinstance"=none) (hgT:Gl c.X T) (hT:c.X.mg T=none) (hv:gE T=some (.type Ts))
  (hTs:Ts="str"\/Ts="int"\/Ts="bool"\/Ts="list"\/Ts="tuple")
  (hn:T≠"__name__":=by decide) (hdb:(T == ("__debug__" : Str))=false:=by decide)
  (he:aw [e,.Name T p2] c.X.env=(false,cR e c.X.env)::aw [.Name T p2] c.X.env:=by rfl) (hpl:(eT pos (aw [.Name T p2] c.X.env)).any (·.1)=false:=by rfl) :
  JE c (.Call (.Name "isinstance" p) [e,.Name T p2] [] pos) (vb g Ts):=.of fun ρ=>by
 refine rN (pT KN hgi hi PyProof.Rows.boot_isinstance (eV (h ρ) (eV (NG hgT hT hv (v:=.ty Ts) rfl hn hdb) gq) he) (by decide) (by decide) he hpl) fun σ H Q h_0=>?_
 obtain ⟨H0,Hs0,la,Hs,f,q⟩:=h_0
 refine one f q fun d v H1 Hs1 e1 s1 f1 r1=>?_
 unfold vb at q
 rw [e1,bind_ok] at q
 by_cases hd:pX d=true
 ·rw [if_pos hd] at q
  exact ⟨v,d,Ts,_,rfl,(r1.full f1.st.sub).rep hd,Oh Ts hTs hd,q _ H1 Hs1 s1 (.bool _)⟩
 ·rw [if_neg hd] at q;exact q.elim
def md:List D->Option (List Bool)
 | []=>some []
 | .bool b::r=>(md r).map (b::·)
 | _::_=>none
theorem B6 {ds:List D}:∀ {bs:List Bool},md ds=some bs->ds=bs.map cJ:=by
 induction ds with
 | nil=>intro bs h;cases h;rfl
 | cons d r ih =>
  intro bs h
  cases d with
  | bool b =>
   have h:(md r).map (b::·)=some bs:=h
   cases hr:md r with
   | none=>rw [hr] at h;cases h
   | some z=>rw [hr] at h;cases h;rw [ih hr];rfl
  | _=>cases h
def g9 (k:List Bool->Bool):D->R D
 | .list ds=>match md ds with
  | some bs=>.ok (.bool (k bs))
  | none=>.no
 | _=>.no
theorem CI {id:String}{k:List Bool->Bool} (h:jz X (.builtin id) (fun xs H Q=>∃ p,∃ bs:List Bool,xs=[.ref p]/\lU X.K H p (bs.map V.bl)/\Q (.bl (k bs)) H)):Iy X (.builtin id) (gX (g9 k)):=by
 refine sr (fun d c n=>?_) fun pins s σ H x u Q Hs d d' I ru sub rx hd q=>?_
 ·unfold g9
  split<;>(try split)<;>exact fun h=>by cases h
 ·unfold g9 at hd
  split at hd
  ·split at hd
   ·rename_i bs hb
    cases hd
    obtain ⟨a,vs,rfl,qa,ra⟩:=rx.list sub
    rw [B6 hb] at ra
    rw [zh ra] at qa
    exact h pins s σ H _ _ Q I (.cons ru .nil) ⟨a,bs,rfl,qa,q _ H Hs (.refl sub) (.bool _)⟩
   ·cases hd
  ·cases hd
theorem mP (hc:X.calm=true):Iy X (.builtin "all") (gX (g9 fun bs=>bs.all id)):=CI (xr hc)
theorem L6 (hc:X.calm=true):Iy X (.builtin "any") (gX (g9 fun bs=>bs.any id)):=CI (xt hc)
def mQ (x:Str):List D:=x.cps.toList.map fun c=>aD ⟨#[c]⟩
theorem Iz {K:a6}{H:Hp} (x:Str):RDs K H (xw x) (mQ x):=by
 unfold xw mQ
 induction x.cps.toList with
 | nil=>exact .nil
 | cons a r ih=>exact .cons (.str _) ih
def gS:D->R D
 | .list xs=>.ok (.tuple xs)
 | .tuple xs=>.ok (.tuple xs)
 | .str x=>if x.cps.size<=1000 then .ok (.tuple (mQ x)) else .no
 | _=>.no
theorem iJ (hc:X.calm=true):Iy X (.type "tuple") (gX gS):=by
 refine sr (fun d c n=>?_) fun pins s σ H x u Q Hs d d' I ru sub rx hd q=>?_
 ·unfold gS
  split<;>(try split)<;>exact fun h=>by cases h
 ·unfold gS at hd
  split at hd
  ·cases hd
   obtain ⟨a,vs,rfl,qa,ra⟩:=rx.list sub
   exact rL pins s σ H _ _ Q I (.cons ru .nil) ⟨a,vs,rfl,.inl ⟨qa,fun l hl=>q _ _ _ (.new sub hl) (.tuple bq (ra.same (cD.new sub hl).sh))⟩⟩
  ·cases hd
   obtain ⟨a,vs,rfl,qa,ra,_⟩:=rx.tuple sub
   refine rL pins s σ H _ _ Q I (.cons ru .nil) ⟨a,vs,rfl,.inr ⟨qa,?_⟩⟩
   rcases rx with rx | ⟨_,_,_,_,_,ow⟩
   ·exact q _ H Hs (.refl sub) rx
   ·cases ow
  ·split at hd
   ·rename_i hz
    cases hd
    exact wu hc pins s σ H _ _ Q I (.cons ru .nil) ⟨_,by rw [rx.str],cc (df hz),fun l hl=>q _ _ _ (.new sub hl) (.tuple bq (Iz _))⟩
   ·cases hd
  ·cases hd
def zU:D->R D
 | .list xs=>.ok (.list xs)
 | .tuple xs=>.ok (.list xs)
 | _=>.no
theorem Oi:Iy X (.type "list") (gX zU):=by
 refine sr (fun d c n=>?_) fun pins s σ H x u Q Hs d d' I ru sub rx hd q=>?_
 ·unfold zU
  split<;>exact fun h=>by cases h
 ·unfold zU at hd
  split at hd
  ·cases hd
   obtain ⟨a,vs,rfl,qa,ra⟩:=rx.list sub
   exact nR pins s σ H _ _ Q I (.cons ru .nil) ⟨a,vs,rfl,.inl qa,fun l hl=>q _ _ _ (.new sub hl) (.list (.of bq) (ra.same (cD.new sub hl).sh))⟩
  ·cases hd
   obtain ⟨a,vs,rfl,qa,ra,_⟩:=rx.tuple sub
   exact nR pins s σ H _ _ Q I (.cons ru .nil) ⟨a,vs,rfl,.inr qa,fun l hl=>q _ _ _ (.new sub hl) (.list (.of bq) (ra.same (cD.new sub hl).sh))⟩
  ·cases hd
def gd:List D->Option (List Str)
 | []=>some []
 | .str b::r=>(gd r).map (b::·)
 | _::_=>none
theorem qd {ds:List D}:∀ {bs:List Str},gd ds=some bs->ds=bs.map aD:=by
 induction ds with
 | nil=>intro bs h;cases h;rfl
 | cons d r ih =>
  intro bs h
  cases d with
  | str b =>
   have h:(gd r).map (b::·)=some bs:=h
   cases hr:gd r with
   | none=>rw [hr] at h;cases h
   | some z=>rw [hr] at h;cases h;rw [ih hr];rfl
  | _=>cases h
@[simp] theorem strsOf_map:∀ bs:List Str,gd (bs.map aD)=some bs
 | []=>rfl
 | b::r=>by show (gd (r.map aD)).map (b::·)=_;rw [strsOf_map r];rfl
def qP:D->R D
 | .list ds=>match gd ds with
  | some ss=>if ss.length<64 then .ok (.list ((jj ss).map .str)) else .no
  | none=>.no
 | _=>.no
theorem IA:Iy X (.builtin "sorted") (gX qP):=by
 refine sr (fun d c n=>?_) fun pins s σ H x u Q Hs d d' I ru sub rx hd q=>?_
 ·unfold qP
  split<;>(try split)<;>(try split)<;>exact fun h=>by cases h
 ·unfold qP at hd
  split at hd
  ·split at hd
   ·split at hd
    ·rename_i ss hs hz
     cases hd
     obtain ⟨a,vs,rfl,qa,ra⟩:=rx.list sub
     rw [qd hs] at ra
     rw [nW ra] at qa
     exact v8 pins s σ H _ _ Q I (.cons ru .nil) ⟨a,ss,rfl,qa,hz,fun l hl=>q _ _ _ (.new sub hl) (.list (.of bq) (xx _))⟩
    ·cases hd
   ·cases hd
  ·cases hd
end
end
section
inductive SM (K:a6) (cls:Str->ah) (n:Nat) (F:List D->R D) (vs:List V) (H:Hp) (Q:VK) (E:XK):Prop
 | mk (Hs ds:_) (h0:cZ Hs H) (h1:ds.length=n) (h2:RDs K Hs vs ds) (h3:Fin K cls E H Hs (F ds) fun d=>∀ v H' Hs',cD H Hs H' Hs'->RD K Hs' v d->Q v H'):SM K cls n F vs H Q E
def RQ (K:a6) (cls:Str->ah) (n:Nat) (F:List D->R D):Sp:=SM K cls n F
structure Fn (P:aK) (w:aY) (K:a6) (mg:Str->Option a8) (base:bp) (cls:Str->ah) (x:Str) (k n:Nat) (F:List D->R D):Prop where
 ex:∃ f fd ps,uY P w K mg base (pG P w) k f fd ps (RQ K cls n F)/\mg x=some (.ref f)/\jg K (.ref f)=true/\ni K fd ps []
section
variable {c:C}{e a b:aV}{g ga gb:ap->R D}{pos:Pos}{es:List aV}{gs:ap->R (List D)}{x:Str}{p:Pos}
def dC (n:Nat) (F:List D->R D) (gs:ap->R (List D)):ap->R D:=fun ρ=>(gs ρ).bind fun ds=>if ds.length=n then F ds else .no
theorem Oj {k n:Nat}{F:List D->R D} (G:Fn c.X.prog c.X.w c.X.K c.X.mg c.X.base c.cls x k n F) (hr:kQ k c.X.A) (hg:Gl c.X x) (hx:pS (pG c.X.prog c.X.w) c.X c.E) (ha:Ej c (e::es) gs)
  (hdb:(x == ("__debug__" : Str))=false:=by decide) (he:aw (e::es) c.X.env=(false,cR e c.X.env)::aw es c.X.env:=by rfl) (hpl:(eT pos (aw es c.X.env)).any (·.1)=false:=by rfl) :
  JE c (.Call (.Name x p) (e::es) [] pos) (dC n F gs):=.of fun ρ=>by
 obtain ⟨f,fd,ps,hf,hm,hk,hb⟩:=G.ex
 refine rN (Gc (E:=c.E) hf hr hg hm hk hb .nil hx (ha ρ) hdb he hpl) fun σ H Q h_0=>?_
 obtain ⟨H0,Hs0,la,Hs,fr,q⟩:=h_0
 refine B0 fr q fun ds vs H1 Hs1 e1 s1 f1 r1=>?_
 unfold dC at q
 rw [e1,bind_ok] at q
 by_cases hn:ds.length=n
 ·rw [if_pos hn] at q
  show RQ _ _ _ _ (vs++[]) _ _ _
  rw [cA]
  exact ⟨Hs1,ds,f1.st.sub,hn,r1,q.on s1 fun d k v H2 Hs2 s2 r2=>k v H2 Hs2 (s1.trans s2) r2⟩
 ·rw [if_neg hn] at q;exact q.elim
end
inductive Fl where
 | nx (ρ:ap)
 | rt (d:D)
 | bk (ρ:ap)
 | ct (ρ:ap)
def mR (K:a6) (cls:Str->ah) (E:XK) (H0 Hs0:Hp) (la:Nat->Option ah) (D:tS) (r:R Fl):Prop:=match r with
 | .ok (.nx ρ')=>∀ σ' H' Hs',Fr K H0 Hs0 la ρ' σ' H' Hs'->D.nx σ' H'
 | .ok (.bk ρ')=>∀ σ' H' Hs',Fr K H0 Hs0 la ρ' σ' H' Hs'->D.bk σ' H'
 | .ok (.ct ρ')=>∀ σ' H' Hs',Fr K H0 Hs0 la ρ' σ' H' Hs'->D.ct σ' H'
 | .ok (.rt d)=>∀ v H' Hs',cD H0 Hs0 H' Hs'->RD K Hs' v d->D.rt v H'
 | .ex c n=>∀ H' Hs',cD H0 Hs0 H' Hs'->XW K cls E c n H' Hs'
 | .no=>False
inductive VD (K:a6) (cls:Str->ah) (E:XK) (ρ:ap) (r:R Fl) (D:tS) (σ:St) (H:Hp):Prop
 | mk (H0 Hs0:Hp) (la:Nat->Option ah) (Hs:Hp) (f:Fr K H0 Hs0 la ρ σ H Hs) (q:mR K cls E H0 Hs0 la D r):VD K cls E ρ r D σ H
def SR (K:a6) (cls:Str->ah) (E:XK) (ρ:ap) (r:R Fl):TS:=VD K cls E ρ r
structure JS (c:C) (s:cC) (g:ap->R Fl):Prop where of ::
 run:∀ ρ,PS c.X s (SR c.X.K c.cls c.E ρ (g ρ))
instance {c:C}{s:cC}{g:ap->R Fl}:CoeFun (JS c s g) (fun _=>∀ ρ,PS c.X s (SR c.X.K c.cls c.E ρ (g ρ))):=⟨JS.run⟩
structure Gv (c:C) (s:List cC) (g:ap->R Fl):Prop where of ::
 run:∀ ρ,G9 c.X s (SR c.X.K c.cls c.E ρ (g ρ))
instance {c:C}{s:List cC}{g:ap->R Fl}:CoeFun (Gv c s g) (fun _=>∀ ρ,G9 c.X s (SR c.X.K c.cls c.E ρ (g ρ))):=⟨Gv.run⟩
theorem Fr.set {K:a6}{H0 Hs0 H Hs:Hp}{la:Nat->Option ah}{ρ:ap}{σ:St} (f:Fr K H0 Hs0 la ρ σ H Hs) (i:Nat) {v:V}{d:D} (r:RD K Hs v d):Fr K H0 Hs0 la (ρ.set i (.shr d)) (σ.set i (some v)) H Hs:=by
 have hl:=f.len
 have nx:∀ {j:Nat}{s:Sl},(∀ d,s≠.shr d)->(ρ.set i (.shr d))[j]?=some s->ρ[j]?=some s/\i≠j:=fun {j s} hs e=>by
  by_cases hj:i=j
  ·subst hj
   by_cases hi:i<ρ.length
   ·rw [az hi] at e;exact absurd (bu e).symm (hs d)
   ·rw [bz (by simpa using hi)] at e;cases e
  ·rw [ag hj] at e;exact ⟨e,hj⟩
 refine ⟨f.st,by simp [hl],fun j e h=>?_,fun j e h=>?_,fun j e h=>?_,fun j k d1 d2 a h1 h2 h3 h4=>?_,f.lh,fun j e h=>?_,fun j k d1 d2 h1 h2=>?_⟩
 ·by_cases hj:i=j
  ·subst hj
   by_cases hi:i<ρ.length
   ·rw [az hi] at h
    cases h
    exact ⟨v,az (by omega),r⟩
   ·rw [bz (by simpa using hi)] at h;cases h
  ·rw [ag hj] at h ⊢
   exact f.sh j e h
 ·obtain ⟨h,hj⟩:=nx (fun _ z=>by cases z) h
  rw [ag hj]
  exact f.ow j e h
 ·obtain ⟨h,hj⟩:=nx (fun _ z=>by cases z) h
  rw [ag hj]
  exact f.lk j e h
 ·obtain ⟨h1,n1⟩:=nx (fun _ z=>by cases z) h1
  obtain ⟨h2,n2⟩:=nx (fun _ z=>by cases z) h2
  rw [ag n1] at h3
  rw [ag n2] at h4
  exact f.dj j k d1 d2 a h1 h2 h3 h4
 ·obtain ⟨h,hj⟩:=nx (fun _ z=>by cases z) h
  obtain ⟨a,as,O⟩:=f.o2 j e h
  refine ⟨a,as,by rw [ag hj];exact O.at_,O.ob,O.nd,O.out,fun b hb k e' hk=>?_,O.inn⟩
  obtain ⟨hk,nk⟩:=nx (fun _ z=>by cases z) hk
  rw [ag nk]
  exact O.dj b hb k e' hk
 ·exact f.u2 j k d1 d2 (nx (fun _ z=>by cases z) h1).1 (nx (fun _ z=>by cases z) h2).1
theorem Fr.setO {K:a6}{H0 Hs0 H Hs:Hp}{la:Nat->Option ah}{ρ:ap}{σ:St} (f:Fr K H0 Hs0 la ρ σ H Hs) (i:Nat) {a:ah}{o:HO}{d:D} (n:H a=none) (r:lV K Hs o d):Fr K H0 Hs0 la (ρ.set i (.own d)) (σ.set i (some (.ref a))) (upd H a o) Hs:=by
 have f':=f.step (cD.mine (o:=o) f.st.sub n)
 have hl:=f.len
 have n0:H0 a=none:=f.st.all.free n
 have ns:Hs a=none:=f.st.sub.free n
 have nx:∀ {j:Nat}{s:Sl},(∀ d,s≠.own d)->(ρ.set i (.own d))[j]?=some s->ρ[j]?=some s/\i≠j:=fun {j s} hs e=>by
  by_cases hj:i=j
  ·subst hj
   by_cases hi:i<ρ.length
   ·rw [az hi] at e;exact absurd (bu e).symm (hs d)
   ·rw [bz (by simpa using hi)] at e;cases e
  ·rw [ag hj] at e;exact ⟨e,hj⟩
 have ne:∀ j e,ρ[j]?=some (Sl.own e)->σ[j]?≠some (some (V.ref a)):=fun j e h z=>by
  obtain ⟨b,o',h1,h2,_⟩:=f.ow j e h
  rw [z] at h1
  cases h1
  rw [n] at h2;cases h2
 refine ⟨f'.st,by simp [hl],fun j e h=>?_,fun j e h=>?_,fun j e h=>?_,fun j k d1 d2 b h1 h2 h3 h4=>?_,f.lh,fun j e h=>?_,fun j k d1 d2 h1 h2=>?_⟩
 ·obtain ⟨h,hj⟩:=nx (fun _ z=>by cases z) h
  rw [ag hj]
  exact f'.sh j e h
 ·by_cases hj:i=j
  ·subst hj
   by_cases hi:i<ρ.length
   ·rw [az hi] at h
    cases h
    exact ⟨a,o,az (by omega),bq,ns,n0,r⟩
   ·rw [bz (by simpa using hi)] at h;cases h
  ·rw [ag hj] at h ⊢
   exact f'.ow j e h
 ·obtain ⟨h,hj⟩:=nx (fun _ z=>by cases z) h
  rw [ag hj]
  exact f'.lk j e h
 ·by_cases hj:i=j
  ·by_cases hk:i=k
   ·exact hj.symm.trans hk
   ·rw [ag hk] at h2 h4
    subst hj
    by_cases hi:i<ρ.length
    ·rw [az (by omega)] at h3
     cases h3
     exact (ne k d2 h2 h4).elim
    ·rw [bz (by simpa using hi)] at h1;cases h1
  ·rw [ag hj] at h1 h3
   by_cases hk:i=k
   ·subst hk
    by_cases hi:i<ρ.length
    ·rw [az (by omega)] at h4
     cases h4
     exact (ne j d1 h1 h3).elim
    ·rw [bz (by simpa using hi)] at h2;cases h2
   ·rw [ag hk] at h2 h4
    exact f.dj j k d1 d2 b h1 h2 h3 h4
 ·obtain ⟨h,hj⟩:=nx (fun _ z=>by cases z) h
  obtain ⟨b,as,O⟩:=f.o2 j e h
  have nb:∀ c∈b::as,c≠a:=fun c hc z=>by
   subst z
   rcases List.mem_cons.mp hc with z | z
   ·have:=O.ob;rw [<- z,n] at this;cases this
   ·obtain ⟨o,ho,_⟩:=O.inn.there z;rw [n] at ho;cases ho
  refine ⟨b,as,by rw [ag hj];exact O.at_,by rw [bj (nb b al)];exact O.ob,O.nd,O.out,fun c hc k e' hk=>?_,O.inn.upd fun z=>nb a (aj _ z) rfl⟩
  by_cases nk:i=k
  ·subst nk
   intro z
   by_cases hi:i<ρ.length
   ·rw [az (by omega)] at z
    cases z
    exact nb _ hc rfl
   ·rw [bz (by simp;omega)] at hk;cases hk
  ·rw [ag nk] at hk ⊢
   exact O.dj c hc k e' hk
 ·exact f.u2 j k d1 d2 (nx (fun _ z=>by cases z) h1).1 (nx (fun _ z=>by cases z) h2).1
theorem Fr.write {K:a6}{H0 Hs0 H Hs:Hp}{la:Nat->Option ah}{ρ:ap}{σ:St} (f:Fr K H0 Hs0 la ρ σ H Hs) (i:Nat) {a:ah}{o:HO}{d d':D} (hi:ρ[i]?=some (Sl.own d)) (hs:σ[i]?=some (some (V.ref a))) (r:lV K Hs o d'):Fr K H0 Hs0 la (ρ.set i (.own d')) σ (upd H a o) Hs:=by
 obtain ⟨a',o',h1,h2,h3,h4,h5⟩:=f.ow i d hi
 rw [hs] at h1
 cases h1
 have hl:=f.len
 have hil:i<ρ.length:=(List.getElem?_eq_some_iff.mp hi).1
 have nx:∀ {j:Nat}{s:Sl},(∀ d,s≠.own d)->(ρ.set i (.own d'))[j]?=some s->ρ[j]?=some s/\i≠j:=fun {j s} hs e=>by
  by_cases hj:i=j
  ·subst hj
   rw [az hil] at e;exact absurd (bu e).symm (hs d')
  ·rw [ag hj] at e;exact ⟨e,hj⟩
 refine ⟨⟨fun b u e=>?_,f.st.sh,fun b u e=>?_,f.st.out⟩,by simp [hl],fun j e h=>?_,fun j e h=>?_,fun j e h=>?_,fun j k d1 d2 b h1 h2 h3 h4=>?_,f.lh,fun j e h=>?_,fun j k d1 d2 h1 h2=>?_⟩
 ·rw [bj (bA e h4)];exact f.st.all b u e
 ·rw [bj (bA e h3)];exact f.st.sub b u e
 ·obtain ⟨h,hj⟩:=nx (fun _ z=>by cases z) h
  exact f.sh j e h
 ·by_cases hj:i=j
  ·subst hj
   rw [az hil] at h
   cases h
   exact ⟨a,o,hs,bq,h3,h4,r⟩
  ·rw [ag hj] at h
   obtain ⟨b,u,k1,k2,k3,k4,k5⟩:=f.ow j e h
   refine ⟨b,u,k1,?_,k3,k4,k5⟩
   rw [bj (fun z=>hj ?_)]
   ·exact k2
   ·subst z
    exact f.dj i j d e b hi h hs k1
 ·obtain ⟨h,hj⟩:=nx (fun _ z=>by cases z) h
  obtain ⟨b,u,k1,k2,k3,k4,k5,k6⟩:=f.lk j e h
  refine ⟨b,u,k1,k2,?_,k4,k5,k6⟩
  rw [bj (bA k5 h4)]
  exact k3
 ·have own:∀ {j:Nat}{e:D},(ρ.set i (.own d'))[j]?=some (Sl.own e)->∃ e',ρ[j]?=some (Sl.own e'):=fun {j e} h=>by
   by_cases hj:i=j
   ·subst hj;exact ⟨d,hi⟩
   ·rw [ag hj] at h;exact ⟨e,h⟩
  obtain ⟨e1,h1⟩:=own h1
  obtain ⟨e2,h2⟩:=own h2
  exact f.dj j k e1 e2 b h1 h2 h3 h4
 ·obtain ⟨h,hj⟩:=nx (fun _ z=>by cases z) h
  obtain ⟨b,as,O⟩:=f.o2 j e h
  have nb:∀ c∈b::as,c≠a:=fun c hc z=>by
   subst z
   exact O.dj c hc i d hi hs
  refine ⟨b,as,O.at_,by rw [bj (nb b al)];exact O.ob,O.nd,O.out,fun c hc k e' hk=>?_,O.inn.upd fun z=>nb a (aj _ z) rfl⟩
  by_cases nk:i=k
  ·subst nk
   exact O.dj c hc i d hi
  ·rw [ag nk] at hk
   exact O.dj c hc k e' hk
 ·exact f.u2 j k d1 d2 (nx (fun _ z=>by cases z) h1).1 (nx (fun _ z=>by cases z) h2).1
def ft (ρ:ap):ap:=ρ.map fun s=>match s with
 | .own d=>.shr d
 | .ow2 dss=>.shr (.list (dss.map .list))
 | s=>s
open Classical in
theorem Fr.share {K:a6}{H0 Hs0 H Hs:Hp}{la:Nat->Option ah}{ρ:ap}{σ:St} (f:Fr K H0 Hs0 la ρ σ H Hs):∃ Hs',Fr K H0 Hs0 la (ft ρ) σ H Hs'/\cD H Hs H Hs'\/Fr K H0 Hs0 la (ft ρ) σ H Hs':=by
 let P:ah->Prop:=fun b=>(∃ (i:Nat) (d:D),ρ[i]?=some (Sl.own d)/\σ[i]?=some (some (V.ref b)))\/∃ (i:Nat) (dss:List (List D)) (a:ah) (as:List ah),ρ[i]?=some (Sl.ow2 dss)/\O2 K H0 H Hs ρ σ i dss a as/\b∈a::as
 let Hs':Hp:=fun b=>if P b then H b else Hs b
 have pos:∀ b,P b->Hs' b=H b:=fun b h=>if_pos h
 have neg:∀ b,¬ P b->Hs' b=Hs b:=fun b h=>if_neg h
 have up:cZ Hs Hs':=fun b o e=>by
  by_cases h:P b
  ·rw [pos b h];exact f.st.sub b o e
  ·rw [neg b h];exact e
 have none0:∀ b o,H0 b=some o->¬ P b:=fun b o e hP=>by
  rcases hP with ⟨i,d,h1,h2⟩ | ⟨i,dss,a,as,h1,O,hb⟩
  ·obtain ⟨a,o',k1,_,_,k4,_⟩:=f.ow i d h1
   rw [h2] at k1;cases k1
   rw [e] at k4;cases k4
  ·have:=(O.out b hb).2
   rw [e] at this;cases this
 have un:∀ {j:Nat}{s:Sl},(ft ρ)[j]?=some s->(∃ d,s=.shr d/\ρ[j]?=some (Sl.own d))\/(∃ dss:List (List D),s=.shr (.list (dss.map .list))/\ρ[j]?=some (Sl.ow2 dss))\/((∀ d,s≠.own d)/\(∀ d,s≠.ow2 d)/\ρ[j]?=some s):=fun {j s} e=>by
  unfold ft at e
  rw [aX] at e
  cases h:ρ[j]? with
  | none=>rw [h] at e;cases e
  | some t =>
   rw [h] at e
   cases t with
   | own d=>cases e;exact .inl ⟨d,rfl,rfl⟩
   | no=>cases e;exact .inr (.inr ⟨fun _ z=>(by cases z),fun _ z=>(by cases z),rfl⟩)
   | shr d=>cases e;exact .inr (.inr ⟨fun _ z=>(by cases z),fun _ z=>(by cases z),rfl⟩)
   | lck d=>cases e;exact .inr (.inr ⟨fun _ z=>(by cases z),fun _ z=>(by cases z),rfl⟩)
   | ow2 d=>cases e;exact .inr (.inl ⟨d,rfl,rfl⟩)
 refine ⟨Hs',.inr ⟨⟨f.st.all,f.st.sh.trans up,fun b o e=>?_,fun a o e t z=>?_⟩,by simp [ft,f.len],fun j d h=>?_,fun j d h=>?_,fun j d h=>?_,fun j k d1 d2 a h1 h2 _ _=>?_,f.lh,fun j d h=>?_,fun j k d1 d2 h1 h2=>?_⟩⟩
 ·by_cases h:P b
  ·rw [pos b h] at e;exact e
  ·rw [neg b h] at e;exact f.st.sub b o e
 ·rw [neg a (none0 a o e)];exact f.st.out a o e t z
 ·rcases un h with ⟨d',e,h'⟩ | ⟨dss,e,h'⟩ | ⟨_,_,h'⟩
  ·cases e
   obtain ⟨a,o,k1,k2,k3,k4,k5⟩:=f.ow j d h'
   refine ⟨_,k1,?_⟩
   have hp:Hs' a=some o:=by rw [pos a (.inl ⟨j,d,h',k1⟩)];exact k2
   have e:cZ (upd Hs a o) Hs':=fun b u q=>by
    by_cases hb:b=a
    ·subst hb;rw [bq] at q;cases q;exact hp
    ·rw [bj hb] at q;exact up b u q
   exact (k5.share k3).same e
  ·cases e
   obtain ⟨a,as,O⟩:=f.o2 j dss h'
   refine ⟨_,O.at_,?_⟩
   have hp:∀ b∈a::as,∀ o,H b=some o->Hs' b=some o:=fun b hb o ho=>by rw [pos b (.inr ⟨j,dss,a,as,h',O,hb⟩)];exact ho
   refine .list (.of (hp a al _ O.ob)) ?_
   have go:∀ {as':List ah}{dss':List (List D)},(∀ b∈as',b∈a::as)->v9 K H Hs as' dss'->RDs K Hs' (as'.map V.ref) (dss'.map .list):=fun {as' dss'} hs hi=>by
    induction hi with
    | nil=>exact .nil
    | cons h1 h2 _ ih=>exact .cons (.list (.of (hp _ (hs _ al) _ h1)) (h2.same up)) (ih fun b hb=>hs b (aj _ hb))
   exact go (fun b hb=>aj _ hb) O.inn
  ·obtain ⟨v,k1,k2⟩:=f.sh j d h'
   exact ⟨v,k1,k2.same up⟩
 ·rcases un h with ⟨d',e,h'⟩ | ⟨d',e,h'⟩ | ⟨n,_,h'⟩
  ·cases e
  ·cases e
  ·exact (n d rfl).elim
 ·rcases un h with ⟨d',e,h'⟩ | ⟨d',e,h'⟩ | ⟨_,_,h'⟩
  ·cases e
  ·cases e
  ·obtain ⟨a,o,k1,k2,k3,k4,k5,k6⟩:=f.lk j d h'
   exact ⟨a,o,k1,k2,k3,by rw [neg a (none0 a o k5)];exact k4,k5,k6.same up⟩
 ·rcases un h1 with ⟨d',e,h'⟩ | ⟨d',e,h'⟩ | ⟨n,_,h'⟩
  ·cases e
  ·cases e
  ·exact (n d1 rfl).elim
 ·rcases un h with ⟨d',e,h'⟩ | ⟨d',e,h'⟩ | ⟨_,n,h'⟩
  ·cases e
  ·cases e
  ·exact (n d rfl).elim
 ·rcases un h1 with ⟨d',e,h'⟩ | ⟨d',e,h'⟩ | ⟨_,n,h'⟩
  ·cases e
  ·cases e
  ·exact (n d1 rfl).elim
theorem Fr.shared {K:a6}{H0 Hs0 H Hs:Hp}{la:Nat->Option ah}{ρ:ap}{σ:St} (f:Fr K H0 Hs0 la ρ σ H Hs):∃ Hs',Fr K H0 Hs0 la (ft ρ) σ H Hs':=by
 obtain ⟨Hs',h | h⟩:=f.share
 ·exact ⟨Hs',h.1⟩
 ·exact ⟨Hs',h⟩
section
variable {c:C}{e a b:aV}{g ga gb:ap->R D}{pos:Pos}{x:Str}{st:cC}{bY:List cC}{gs gr:ap->R Fl}
def aS (g h:ap->R Fl):ap->R Fl:=fun ρ=>(g ρ).bind fun fl=>match fl with
 | .nx ρ'=>h ρ'
 | fl=>.ok fl
theorem cg:Gv c [] (fun ρ=>.ok (.nx ρ)):=.of fun ρ=>V0 NI fun D σ H h_1=>by obtain ⟨H0,Hs0,la,Hs,f,q⟩:=h_1;exact q σ H Hs f
theorem aI (h:JS c st gs):Gv c [st] gs:=.of fun ρ=>NJ (h ρ)
theorem aq (h:JS c st gs) (hr:Gv c bY gr):Gv c (st::bY) (aS gs gr):=.of fun ρ pins s σ H D I h_2=>by
 obtain ⟨H0,Hs0,la,Hs,f,q⟩:=h_2
 unfold aS at q
 cases hg:gs ρ with
 | no=>rw [hg] at q;exact q.elim
 | ex x n =>
  rw [hg] at q
  refine pP (h ρ) (qH (X:=c.X) (sts:=bY)) pins s σ H D I ⟨H0,Hs0,la,Hs,f,?_⟩
  rw [hg]
  exact q
 | ok fl =>
  rw [hg,bind_ok] at q
  cases fl with
  | nx ρ' =>
   refine pP (h ρ) (hr ρ') pins s σ H D I ⟨H0,Hs0,la,Hs,f,?_⟩
   rw [hg]
   exact fun σ' H' Hs' f'=>⟨H0,Hs0,la,Hs',f',q⟩
  | rt d =>
   refine pP (h ρ) (qH (X:=c.X) (sts:=bY)) pins s σ H D I ⟨H0,Hs0,la,Hs,f,?_⟩
   rw [hg]
   exact q
  | bk ρ' =>
   refine pP (h ρ) (qH (X:=c.X) (sts:=bY)) pins s σ H D I ⟨H0,Hs0,la,Hs,f,?_⟩
   rw [hg]
   exact q
  | ct ρ' =>
   refine pP (h ρ) (qH (X:=c.X) (sts:=bY)) pins s σ H D I ⟨H0,Hs0,la,Hs,f,?_⟩
   rw [hg]
   exact q
theorem sE {K:a6}{cls:Str->ah}{E:XK}{ρ:ap}{r:R D}{k:D->R Fl}{σ:St}{H:Hp}{H0 Hs0 Hs:Hp}{la:Nat->Option ah}{D':tS}{Q:V->Hp->Prop} (f:Fr K H0 Hs0 la ρ σ H Hs)
  (h:mR K cls E H0 Hs0 la D' (r.bind k)) (m:∀ d v H' Hs',r=.ok d->cD H Hs H' Hs'->Fr K H0 Hs0 la ρ σ H' Hs'->RD K Hs' v d->Q v H'):TR K cls E ρ r σ H Q:=by
 refine ⟨H0,Hs0,la,Hs,f,?_⟩
 cases r with
 | ok d=>exact fun v H' Hs' s r=>m d v H' Hs' rfl s (f.step s) r
 | ex c n=>exact fun H' Hs' s=>h H' Hs' (f.st.trans s)
 | no=>exact h
theorem sT {K:a6}{cls:Str->ah}{E:XK}{ρ:ap}{r:R Bool}{k:Bool->R Fl}{σ:St}{H:Hp}{H0 Hs0 Hs:Hp}{la:Nat->Option ah}{D':tS}{Q:Bool->Hp->Prop} (f:Fr K H0 Hs0 la ρ σ H Hs)
  (h:mR K cls E H0 Hs0 la D' (r.bind k)) (m:∀ d H' Hs',r=.ok d->cD H Hs H' Hs'->Fr K H0 Hs0 la ρ σ H' Hs'->Q d H'):Iv K cls E ρ r σ H Q:=by
 refine ⟨H0,Hs0,la,Hs,f,?_⟩
 cases r with
 | ok d=>exact fun H' Hs' s=>m d H' Hs' rfl s (f.step s)
 | ex c n=>exact fun H' Hs' s=>h H' Hs' (f.st.trans s)
 | no=>exact h
def cG (g:ap->R D):ap->R Fl:=fun ρ=>(g (ft ρ)).bind fun d=>.ok (.rt d)
theorem bt (h:JE c e g):JS c (.Return (some e) pos) (cG g):=.of fun ρ=>yS (Qx (h (ft ρ))) fun D σ H h_3=>by
 obtain ⟨H0,Hs0,la,Hs,f,q⟩:=h_3
 obtain ⟨Hs',f'⟩:=f.shared
 refine sE f' q fun d v H1 Hs1 e1 s1 f1 r1=>?_
 unfold cG at q
 rw [e1,bind_ok] at q
 exact q v H1 Hs1 f1.st r1
def dX (t:ap->R Bool) (g h:ap->R Fl):ap->R Fl:=fun ρ=>(t ρ).bind fun b=>if b then g ρ else h ρ
theorem d_ {t:aV}{gt:ap->R Bool}{A B:List cC}{gA gB:ap->R Fl} (ht:JT c t gt) (hA:Gv c A gA) (hB:Gv c B gB):JS c (.If t A B pos) (dX gt gA gB):=.of fun ρ=>yS (S2 (ht ρ) (hA ρ) (hB ρ)) fun D σ H h_5=>by
 obtain ⟨H0,Hs0,la,Hs,f,q⟩:=h_5
 refine sT f q fun d H1 Hs1 e1 s1 f1=>?_
 unfold dX at q
 rw [e1,bind_ok] at q
 cases d with
 | true=>exact Ce ⟨H0,Hs0,la,Hs1,f1,q⟩
 | false=>exact Cd ⟨H0,Hs0,la,Hs1,f1,q⟩
def fJ (i:Nat) (g:ap->R D):ap->R Fl:=fun ρ=>(g ρ).bind fun d=>.ok (.nx (ρ.set i (.shr d)))
theorem dz (i:Nat) {pos':Pos} (h:JE c e g) (hN:c.X.N.Nodup) (hi:c.X.N[i]?=some x:=by rfl) (hx:NE c.X.env.scope x:=by first | exact fB rfl | exact c_ rfl) (hs:fQ e (some (.Name x pos')) pos.line c.X.env=pure false:=by rfl)
  (hf:c.X.fn x=true\/c.X.env.scope.names.lookup x=some .local:=by first | exact .inl rfl | exact .inr rfl | assumption):JS c (.Assign [.Name x pos'] e pos) (fJ i g):=.of fun ρ=>yS (AF hN hi hx (h ρ) hs hf) fun D σ H h_6=>by
 obtain ⟨H0,Hs0,la,Hs,f,q⟩:=h_6
 refine sE f q fun d v H1 Hs1 e1 s1 f1 r1=>?_
 unfold fJ at q
 rw [e1,bind_ok] at q
 exact q _ H1 Hs1 (f1.set i r1)
def qe (g:ap->R D):ap->R Fl:=fun ρ=>(g ρ).bind fun _=>.ok (.nx ρ)
theorem nY (h:JE c e g) (hs:fQ e none pos.line c.X.env=pure false:=by rfl):JS c (.Expr e pos) (qe g):=.of fun ρ=>yS (tT (h ρ) hs) fun D σ H h_7=>by
 obtain ⟨H0,Hs0,la,Hs,f,q⟩:=h_7
 refine sE f q fun d v H1 Hs1 e1 s1 f1 r1=>?_
 unfold qe at q
 rw [e1,bind_ok] at q
 exact q _ H1 Hs1 f1
def VE (K:a6) (H0 Hs0:Hp) (la:Nat->Option ah) (H Hs:Hp) (Q:St->Hp->Prop) (r:R ap):Prop:=match r with
 | .ok ρ'=>∀ σ',Fr K H0 Hs0 la ρ' σ' H Hs->Q σ' H
 | _=>False
inductive SO (K:a6) (ρ:ap) (d:D) (r:R ap) (v:V) (σ:St) (H:Hp) (Q:St->Hp->Prop):Prop
 | mk (H0 Hs0:Hp) (la:Nat->Option ah) (Hs:Hp) (f:Fr K H0 Hs0 la ρ σ H Hs) (rd:RD K Hs v d) (q:VE K H0 Hs0 la H Hs Q r):SO K ρ d r v σ H Q
def Ra (K:a6) (ρ:ap) (d:D) (r:R ap):TG:=SO K ρ d r
inductive PD (K:a6) (ρ:ap) (ds:List D) (r:R ap) (vs:List V) (σ:St) (H:Hp) (Q:St->Hp->Prop):Prop
 | mk (H0 Hs0:Hp) (la:Nat->Option ah) (Hs:Hp) (f:Fr K H0 Hs0 la ρ σ H Hs) (rd:RDs K Hs vs ds) (q:VE K H0 Hs0 la H Hs Q r):PD K ρ ds r vs σ H Q
def SQ (K:a6) (ρ:ap) (ds:List D) (r:R ap):K7:=PD K ρ ds r
structure JG (c:C) (t:aV) (k:D->ap->R ap):Prop where of ::
 run:∀ ρ d,PG c.X t (Ra c.X.K ρ d (k d ρ))
instance {c:C}{t:aV}{k:D->ap->R ap}:CoeFun (JG c t k) (fun _=>∀ ρ d,PG c.X t (Ra c.X.K ρ d (k d ρ))):=⟨JG.run⟩
structure RS (c:C) (t:List aV) (k:List D->ap->R ap):Prop where of ::
 run:∀ ρ d,Ph c.X t (SQ c.X.K ρ d (k d ρ))
instance {c:C}{t:List aV}{k:List D->ap->R ap}:CoeFun (RS c t k) (fun _=>∀ ρ d,Ph c.X t (SQ c.X.K ρ d (k d ρ))):=⟨RS.run⟩
theorem VF {X:Cx}{e:aV}{t t':TG} (h:PG X e t) (m:∀ v σ H Q,t' v σ H Q->t v σ H Q):PG X e t':=fun pins s σ H v u Q I r q=>h pins s σ H v u Q I r (m v σ H Q q)
theorem V5 {X:Cx}{e:List aV}{t t':K7} (h:Ph X e t) (m:∀ v σ H Q,t' v σ H Q->t v σ H Q):Ph X e t':=fun pins s σ H v u Q I r q=>h pins s σ H v u Q I r (m v σ H Q q)
def bc (i:Nat):D->ap->R ap:=fun d ρ=>.ok (ρ.set i (.shr d))
theorem bR (i:Nat) (hN:c.X.N.Nodup) (hi:c.X.N[i]?=some x:=by rfl) (hx:NE c.X.env.scope x:=by first | exact fB rfl | exact c_ rfl) (hf:c.X.fn x=true\/c.X.env.scope.names.lookup x=some .local:=by first | exact .inl rfl | exact .inr rfl | assumption) :
  JG c (.Name x pos) (bc i):=.of fun ρ d=>VF (cO hN hi hx hf) fun v σ H Q h_11=>by obtain ⟨H0,Hs0,la,Hs,f,r,q⟩:=h_11;exact q _ (f.set i r)
variable {kt:D->ap->R ap}{kts:List D->ap->R ap}{t:aV}{ts:List aV}
def iU:List D->ap->R ap:=fun ds ρ=>match ds with
 | []=>.ok ρ
 | _=>.no
def bC (k:D->ap->R ap) (ks:List D->ap->R ap):List D->ap->R ap:=fun ds ρ=>match ds with
 | d::r=>(k d ρ).bind fun ρ'=>ks r ρ'
 | _=>.no
theorem i9:RS c [] iU:=.of fun ρ ds=>V5 AE fun vs σ H Q h_12=>by
 obtain ⟨H0,Hs0,la,Hs,f,r,q⟩:=h_12
 cases r with
 | nil=>exact ⟨rfl,q σ f⟩
 | cons _ _=>exact q.elim
theorem bX (h:JG c t kt) (hr:RS c ts kts) (hs:(hV (t::ts) c.X.env).map (·.2)=pH t c.X.env::(hV ts c.X.env).map (·.2):=by rfl):RS c (t::ts) (bC kt kts):=.of fun ρ ds pins s σ H vs us Q I rv h_13=>by
 obtain ⟨H0,Hs0,la,Hs,f,r,q⟩:=h_13
 cases r with
 | nil=>exact q.elim
 | @cons v vr d dr r1 r2 =>
  unfold bC at q
  cases hk:kt d ρ with
  | ok ρ' =>
   simp only [hk,bind_ok] at q
   refine pQ (h ρ d) (hr ρ' dr) hs pins s σ H _ us Q I rv ⟨v,vr,rfl,H0,Hs0,la,Hs,f,r1,?_⟩
   rw [hk]
   exact fun σ' f'=>⟨H0,Hs0,la,Hs,f',r2,q⟩
  | ex x n=>simp only [hk,bind_ex] at q;exact q.elim
  | no=>simp only [hk,bind_no] at q;exact q.elim
def iu (n:Nat) (ks:List D->ap->R ap):D->ap->R ap:=fun d ρ=>match d with
 | .tuple ds=>if ds.length=n then ks ds ρ else .no
 | _=>.no
theorem jH {k n:Nat} (hc:c.X.calm=true) (h:RS c ts kts) (hn:(hV ts c.X.env).length=n:=by rfl) (hst:(hV ts c.X.env).findIdx? (·.1)=none:=by rfl):JG c (.Tuple ts k pos) (iu n kts):=.of fun ρ d=>by
 cases d with
 | tuple ds =>
  refine VF (EJ hc (h ρ ds) hn hst) fun v σ H Q h_14=>?_
  obtain ⟨H0,Hs0,la,Hs,f,r,q⟩:=h_14
  cases r with
  | @tuple p xs _ hq rs =>
   unfold iu at q
   by_cases hl:ds.length=n
   ·simp only [if_pos hl] at q
    exact ⟨p,xs,rfl,(kG.of (f.st.sub _ _ hq)),by rw [rs.length];exact hl,H0,Hs0,la,Hs,f,rs,q⟩
   ·simp only [if_neg hl] at q;exact q.elim
 | _=>exact fun pins s σ H v u Q I rv h_15=>by obtain ⟨H0,Hs0,la,Hs,f,r,q⟩:=h_15;exact q.elim
def ua (g:ap->R D) (k:D->ap->R ap):ap->R Fl:=fun ρ=>(g ρ).bind fun d=>match k d ρ with
 | .ok ρ'=>.ok (.nx ρ')
 | _=>.no
theorem nZ (h:JE c e g) (hg:JG c t kt) (hs:wD [t] e pos.line c.X.env=pure false:=by rfl) (hw:wE [t] e c.X.env=pure none:=by rfl) (h1:(hV [t] c.X.env).map (·.2)=[pH t c.X.env]:=by rfl) :
  JS c (.Assign [t] e pos) (ua g kt):=.of fun ρ=>by
 cases hr:g ρ with
 | ok d =>
  refine yS (K9 (h ρ) (hg ρ d) hs hw h1) fun D σ H h_16=>?_
  obtain ⟨H0,Hs0,la,Hs,f,q⟩:=h_16
  refine sE (k:=fun d=>match kt d ρ with | .ok ρ'=>.ok (.nx ρ') | _=>.no) f q fun d' v H1 Hs1 e1 s1 f1 r1=>?_
  rw [hr] at e1
  cases e1
  unfold ua at q
  rw [hr,bind_ok] at q
  refine ⟨H0,Hs0,la,Hs1,f1,r1,?_⟩
  cases hk:kt d ρ with
  | ok ρ'=>rw [hk] at q;exact fun σ' f'=>q σ' H1 Hs1 f'
  | ex x n=>rw [hk] at q;exact q.elim
  | no=>rw [hk] at q;exact q.elim
 | ex x n =>
  refine yS (K9 (h ρ) (hg ρ .none) hs hw h1) fun D σ H h_17=>?_
  obtain ⟨H0,Hs0,la,Hs,f,q⟩:=h_17
  refine sE (k:=fun _=>.no) (D':=D) f (by unfold ua at q;rw [hr] at q ⊢;exact q) fun d' v H1 Hs1 e1 s1 f1 r1=>?_
  rw [hr] at e1;cases e1
 | no =>
  refine fun pins s σ H D I h_18=>?_
  obtain ⟨H0,Hs0,la,Hs,f,q⟩:=h_18
  unfold ua at q
  rw [hr] at q
  exact q.elim
end
end
section
def L7 (K:a6) (J:It) (ds:List D) (Hn Hs:Hp):Prop:=∀ H2 Hs2,cZ Hn H2->cZ Hs Hs2->cZ Hs2 H2 ->
 (∀ i,i<ds.length->J.go i H2)/\(∀ i,ds.length<=i->J.stop i H2)/\∀ i x H3,i<ds.length->J.yld i H2 x H3->∃ d Hs3,ds[i]?=some d/\cD H2 Hs2 H3 Hs3/\RD K Hs3 x d
theorem B7 {K:a6}{Hn Hs:Hp}{a:ah}{vs:List V}{ds:List D} (h:lU K Hn a vs) (r:RDs K Hs vs ds):L7 K (Uy K a) ds Hn Hs:=fun H2 Hs2 e1 e2 e3=>by
 have q:=e1.seq h
 refine ⟨fun i hi=>?_,fun i hi=>⟨vs,q,by rw [r.length];exact hi⟩,fun i x H3 hi y=>?_⟩
 ·have hi':i<vs.length:=by rw [r.length];exact hi
  exact ⟨vs,vs[i],q,aL hi'⟩
 ·obtain ⟨rfl,y⟩:=y
  obtain ⟨d,k1,k2⟩:=r.get (y vs q)
  exact ⟨d,Hs2,k1,.refl e3,k2.same e2⟩
theorem L8 {K:a6}{Hn Hs:Hp}{a:ah}{vs:List V}{ds:List D} (h:kG K Hn a vs) (r:RDs K Hs vs ds):L7 K (Uz K a) ds Hn Hs:=fun H2 Hs2 e1 e2 e3=>by
 have q:=e1.tup h
 refine ⟨fun i hi=>?_,fun i hi=>⟨vs,q,by rw [r.length];exact hi⟩,fun i x H3 hi y=>?_⟩
 ·have hi':i<vs.length:=by rw [r.length];exact hi
  exact ⟨vs,vs[i],q,aL hi'⟩
 ·obtain ⟨rfl,y⟩:=y
  obtain ⟨d,k1,k2⟩:=r.get (y vs q)
  exact ⟨d,Hs2,k1,.refl e3,k2.same e2⟩
theorem L9 {K:a6}{Hn Hs:Hp} (x:Str):L7 K (Ss x) (mQ x) Hn Hs:=fun H2 Hs2 e1 e2 e3=>by
 have hl:(mQ x).length=x.cps.size:=by simp [mQ]
 refine ⟨fun i hi=>by rw [hl] at hi;exact hi,fun i hi=>by rw [hl] at hi;exact hi,fun i v H3 hi y=>?_⟩
 obtain ⟨rfl,c,k1,rfl⟩:=y
 refine ⟨.str ⟨#[c]⟩,Hs2,?_,.refl e3,.str _⟩
 unfold mQ
 rw [aX,dn,k1]
 rfl
def qf (lo:Int) (n:Nat):List D:=(bi n).map fun (k:Nat)=>bT (lo + k)
theorem La {K:a6}{Hn Hs:Hp} (lo:Int) (n:Nat):L7 K (U6 lo n) (qf lo n) Hn Hs:=fun H2 Hs2 e1 e2 e3=>by
 have hl:(qf lo n).length=n:=by simp [qf]
 refine ⟨fun i hi=>by rw [hl] at hi;exact hi,fun i hi=>by rw [hl] at hi;exact hi,fun i v H3 hi y=>?_⟩
 obtain ⟨rfl,rfl⟩:=y
 refine ⟨.int (lo + i),Hs2,?_,.refl e3,.int _⟩
 rw [hl] at hi
 unfold qf
 rw [aX,tw hi]
 rfl
def gF (n:Nat):List D->List D
 | []=>[]
 | d::r=>.tuple [.int n,d]::gF (n + 1) r
theorem vc:∀ (ds:List D) (n i:Nat),(gF n ds)[i]?=(ds[i]?).map fun d=>jr [.int ((n + i:Nat):Int),d]
 | [],_,_=>by simp [gF]
 | d::r,n,0=>by simp [gF]
 | d::r,n,i + 1=>by
  simp only [gF,ji]
  rw [vc r (n + 1) i,show n + 1 + i=n + (i + 1) by omega]
theorem vd:∀ (ds:List D) (n:Nat),(gF n ds).length=ds.length
 | [],_=>rfl
 | d::r,n=>by simp [gF,vd r]
theorem Ol {K:a6}{Hn Hs:Hp}{a:ah}{vs:List V}{ds:List D} (h:kG K Hn a vs) (r:RDs K Hs vs ds):L7 K (UU K a) (gF 0 ds) Hn Hs:=fun H2 Hs2 e1 e2 e3=>by
 have q:=e1.tup h
 have hl:=vd ds 0
 refine ⟨fun i hi=>?_,fun i hi=>⟨vs,q,by rw [r.length];omega⟩,fun i x H3 hi y=>?_⟩
 ·have hi':i<vs.length:=by rw [r.length];omega
  exact ⟨vs,vs[i],q,aL hi'⟩
 ·obtain ⟨p,hp,rfl,y⟩:=y
  obtain ⟨x,k0,rfl⟩:=y vs q
  obtain ⟨d,k1,k2⟩:=r.get k0
  have st:=cD.new (o:=.tup [.int i,x]) e3 hp
  refine ⟨.tuple [.int i,d],_,?_,st,.tuple bq (.cons (.int _) (.cons ((k2.same e2).same st.sh) .nil))⟩
  rw [vc,k1]
  simp
def ww:List D->List D->List D
 | x::xs,y::ys=>.tuple [x,y]::ww xs ys
 | _,_=>[]
theorem CJ:∀ (xs ys:List D) (i:Nat) (x y:D),xs[i]?=some x->ys[i]?=some y->(ww xs ys)[i]?=some (.tuple [x,y])
 | x::xs,y::ys,0,_,_,h1,h2=>by simp at h1 h2;subst h1 h2;rfl
 | _::xs,_::ys,i + 1,x,y,h1,h2=>by
  simp only [ji] at h1 h2
  simp only [ww,ji]
  exact CJ xs ys i x y h1 h2
 | [],_,_,_,_,h1,_=>by simp at h1
 | _::_,[],_,_,_,_,h2=>by simp at h2
theorem CK:∀ (xs ys:List D),(ww xs ys).length=min xs.length ys.length
 | x::xs,y::ys=>by simp [ww,CK xs ys]
 | [],_=>by simp [ww]
 | _::_,[]=>by simp [ww]
theorem Rb {K:a6}{Hn Hs:Hp}{a b:ah}{vs ws:List V}{ds es:List D} (h:kG K Hn a vs) (r:RDs K Hs vs ds) (h':kG K Hn b ws) (r':RDs K Hs ws es):L7 K (UV K a b) (ww ds es) Hn Hs:=fun H2 Hs2 e1 e2 e3=>by
 have q:=e1.tup h
 have q':=e1.tup h'
 have hl:=CK ds es
 refine ⟨fun i hi=>?_,fun i hi=>⟨vs,ws,q,q',by rw [r.length,r'.length];omega⟩,fun i x H3 hi y=>?_⟩
 ·have h1:i<vs.length:=by rw [r.length];omega
  have h2:i<ws.length:=by rw [r'.length];omega
  exact ⟨vs,ws,vs[i],ws[i],q,q',aL h1,aL h2⟩
 ·obtain ⟨p,hp,rfl,y⟩:=y
  obtain ⟨x,z,k0,k0',rfl⟩:=y vs ws q q'
  obtain ⟨d,k1,k2⟩:=r.get k0
  obtain ⟨d',k1',k2'⟩:=r'.get k0'
  have st:=cD.new (o:=.tup [x,z]) e3 hp
  exact ⟨.tuple [d,d'],_,CJ ds es i d d' k1 k1',st,.tuple bq (.cons ((k2.same e2).same st.sh) (.cons ((k2'.same e2).same st.sh) .nil))⟩
inductive SS (K:a6) (cls:Str->ah) (E:XK) (ρ:ap) (r:R (List D)) (σ:St) (H:Hp) (Q:It->Hp->Prop):Prop
 | mk (H0 Hs0:Hp) (la:Nat->Option ah) (Hs:Hp) (f:Fr K H0 Hs0 la ρ σ H Hs) (q:Fin K cls E H Hs r fun ds=>∀ J H' Hs' Hn,cD H Hs H' Hs'->cZ Hn H'->L7 K J ds Hn Hs'->Q J H'):SS K cls E ρ r σ H Q
def Uf (K:a6) (cls:Str->ah) (E:XK) (ρ:ap) (r:R (List D)):TI:=SS K cls E ρ r
inductive SU (K:a6) (cls:Str->ah) (E:XK) (ρ:ap) (r:R (List D)) (σ:St) (H:Hp) (Q:It->Hp->Prop):Prop
 | mk (H0 Hs0:Hp) (la:Nat->Option ah) (Hs:Hp) (f:Fr K H0 Hs0 la ρ σ H Hs) (q:Fin K cls E H Hs r fun ds=>∀ J H' Hs',cD H Hs H' Hs'->L7 K J ds Hs' Hs'->Q J H'):SU K cls E ρ r σ H Q
def VG (K:a6) (cls:Str->ah) (E:XK) (ρ:ap) (r:R (List D)):TI:=SU K cls E ρ r
structure JI (c:C) (tg it:aV) (g:ap->R (List D)):Prop where of ::
 run:∀ ρ,PI c.X tg it (Uf c.X.K c.cls c.E ρ (g ρ))
instance {c:C}{tg it:aV}{g:ap->R (List D)}:CoeFun (JI c tg it g) (fun _=>∀ ρ,PI c.X tg it (Uf c.X.K c.cls c.E ρ (g ρ))):=⟨JI.run⟩
structure Gw (c:C) (tg it:aV) (g:ap->R (List D)):Prop where of ::
 run:∀ ρ,PI c.X tg it (VG c.X.K c.cls c.E ρ (g ρ))
instance {c:C}{tg it:aV}{g:ap->R (List D)}:CoeFun (Gw c tg it g) (fun _=>∀ ρ,PI c.X tg it (VG c.X.K c.cls c.E ρ (g ρ))):=⟨Gw.run⟩
theorem Gx {X:Cx}{tg e:aV}{t t':TI} (h:PI X tg e t) (m:∀ σ H Q,t' σ H Q->t σ H Q):PI X tg e t':=fun pins s σ H Q I q=>h pins s σ H Q I (m σ H Q q)
section
variable {c:C}{e a b l tg:aV}{g ga gb:ap->R D}{pos p:Pos}{gs:ap->R (List D)}
def ve:D->R (List D)
 | .list ds=>.ok ds
 | .tuple ds=>.ok ds
 | .str x=>.ok (mQ x)
 | _=>.no
def jX (g:ap->R D):ap->R (List D):=fun ρ=>(g ρ).bind ve
theorem fu (h:JB c l g):JI c tg l (jX g):=.of fun ρ=>by
 cases hr:g ρ with
 | no=>exact fun pins s σ H Q I h_0=>by obtain ⟨H0,Hs0,la,Hs,f,q⟩:=h_0;exact by unfold jX at q;rw [hr] at q;exact q.elim
 | ex x n =>
  refine Gx (tU (h ρ)) fun σ H Q h_1=>?_
  obtain ⟨H0,Hs0,la,Hs,f,q⟩:=h_1
  refine one f q fun d v H1 Hs1 e1 s1 f1 r1=>?_
  rw [hr] at e1;cases e1
 | ok d =>
  cases d with
  | list ds =>
   refine Gx (tU (h ρ)) fun σ H Q h_2=>?_
   obtain ⟨H0,Hs0,la,Hs,f,q⟩:=h_2
   refine one f q fun d v H1 Hs1 e1 s1 f1 r1=>?_
   rw [hr] at e1;cases e1
   unfold jX at q
   rw [hr,bind_ok] at q
   obtain ⟨a,vs,rfl,qa,ra⟩:=r1.list f1.st.sub
   exact ⟨a,rfl,⟨vs,qa⟩,q _ H1 Hs1 H1 s1 (.refl _) (B7 qa ra)⟩
  | tuple ds =>
   refine Gx (Kb (h ρ)) fun σ H Q h_3=>?_
   obtain ⟨H0,Hs0,la,Hs,f,q⟩:=h_3
   refine one f q fun d v H1 Hs1 e1 s1 f1 r1=>?_
   rw [hr] at e1;cases e1
   unfold jX at q
   rw [hr,bind_ok] at q
   obtain ⟨a,vs,rfl,qa,ra,_⟩:=r1.tuple f1.st.sub
   exact ⟨a,rfl,⟨vs,qa⟩,q _ H1 Hs1 H1 s1 (.refl _) (L8 qa ra)⟩
  | str x =>
   refine Gx (KF (h ρ)) fun σ H Q h_4=>?_
   obtain ⟨H0,Hs0,la,Hs,f,q⟩:=h_4
   refine one f q fun d v H1 Hs1 e1 s1 f1 r1=>?_
   rw [hr] at e1;cases e1
   unfold jX at q
   rw [hr,bind_ok] at q
   exact ⟨x,r1.str,q _ H1 Hs1 H1 s1 (.refl _) (L9 x)⟩
  | none=>exact fun pins s σ H Q I h_5=>by obtain ⟨H0,Hs0,la,Hs,f,q⟩:=h_5;exact by unfold jX at q;rw [hr] at q;exact q.elim
  | bool _=>exact fun pins s σ H Q I h_6=>by obtain ⟨H0,Hs0,la,Hs,f,q⟩:=h_6;exact by unfold jX at q;rw [hr] at q;exact q.elim
  | int _=>exact fun pins s σ H Q I h_7=>by obtain ⟨H0,Hs0,la,Hs,f,q⟩:=h_7;exact by unfold jX at q;rw [hr] at q;exact q.elim
  | dict _=>exact fun pins s σ H Q I h_8=>by obtain ⟨H0,Hs0,la,Hs,f,q⟩:=h_8;exact by unfold jX at q;rw [hr] at q;exact q.elim
theorem B8 (h:JE c l g):Gw c tg l (jX g):=.of fun ρ=>by
 cases hr:g ρ with
 | no=>exact fun pins s σ H Q I h_9=>by obtain ⟨H0,Hs0,la,Hs,f,q⟩:=h_9;exact by unfold jX at q;rw [hr] at q;exact q.elim
 | ex x n =>
  refine Gx (tU (h ρ)) fun σ H Q h_10=>?_
  obtain ⟨H0,Hs0,la,Hs,f,q⟩:=h_10
  refine A_ f q fun d v H1 Hs1 e1 s1 f1 r1=>?_
  rw [hr] at e1;cases e1
 | ok d =>
  cases d with
  | list ds =>
   refine Gx (tU (h ρ)) fun σ H Q h_11=>?_
   obtain ⟨H0,Hs0,la,Hs,f,q⟩:=h_11
   refine A_ f q fun d v H1 Hs1 e1 s1 f1 r1=>?_
   rw [hr] at e1;cases e1
   unfold jX at q
   rw [hr,bind_ok] at q
   cases r1 with
   | list qa ra=>exact ⟨_,rfl,⟨_,f1.st.sub.seq qa⟩,q _ H1 Hs1 s1 (B7 qa ra)⟩
  | tuple ds =>
   refine Gx (Kb (h ρ)) fun σ H Q h_12=>?_
   obtain ⟨H0,Hs0,la,Hs,f,q⟩:=h_12
   refine A_ f q fun d v H1 Hs1 e1 s1 f1 r1=>?_
   rw [hr] at e1;cases e1
   unfold jX at q
   rw [hr,bind_ok] at q
   cases r1 with
   | tuple qa ra=>exact ⟨_,rfl,⟨_,(kG.of (f1.st.sub _ _ qa))⟩,q _ H1 Hs1 s1 (L8 (.of qa) ra)⟩
  | str x =>
   refine Gx (KF (h ρ)) fun σ H Q h_13=>?_
   obtain ⟨H0,Hs0,la,Hs,f,q⟩:=h_13
   refine A_ f q fun d v H1 Hs1 e1 s1 f1 r1=>?_
   rw [hr] at e1;cases e1
   unfold jX at q
   rw [hr,bind_ok] at q
   cases r1 with
   | str _=>exact ⟨x,rfl,q _ H1 Hs1 s1 (L9 x)⟩
  | none=>exact fun pins s σ H Q I h_14=>by obtain ⟨H0,Hs0,la,Hs,f,q⟩:=h_14;exact by unfold jX at q;rw [hr] at q;exact q.elim
  | bool _=>exact fun pins s σ H Q I h_15=>by obtain ⟨H0,Hs0,la,Hs,f,q⟩:=h_15;exact by unfold jX at q;rw [hr] at q;exact q.elim
  | int _=>exact fun pins s σ H Q I h_16=>by obtain ⟨H0,Hs0,la,Hs,f,q⟩:=h_16;exact by unfold jX at q;rw [hr] at q;exact q.elim
  | dict _=>exact fun pins s σ H Q I h_17=>by obtain ⟨H0,Hs0,la,Hs,f,q⟩:=h_17;exact by unfold jX at q;rw [hr] at q;exact q.elim
theorem Gw.i (h:Gw c tg l gs):JI c tg l gs:=.of fun ρ=>Gx (h ρ) fun σ H Q ⟨H0,Hs0,la,Hs,f,q⟩=>⟨H0,Hs0,la,Hs,f,by
 cases hr:gs ρ with
 | ok ds=>rw [hr] at q;exact fun J H' Hs' s i=>q J H' Hs' Hs' s s.sub i
 | ex x n=>rw [hr] at q;exact q
 | no=>rw [hr] at q;exact q⟩
def Fc:List D->R (List D)
 | [.int j]=>if -(2 ^ 62)<=j/\j<2 ^ 62 then .ok (qf 0 j.toNat) else .no
 | _=>.no
def ub (gs:ap->R (List D)):ap->R (List D):=fun ρ=>(gs ρ).bind Fc
theorem lB (hg:Gl c.X "range") (hm:c.X.mg "range"=none) (ha:Py c [a] gs) (hs:aw [a] c.X.env=[(false,cR a c.X.env)]:=by rfl):Gw c tg (.Call (.Name "range" p) [a] [] pos) (ub gs):=.of fun ρ=>Gx (HW hg hm (ha ρ) hs) fun σ H Q h_18=>by
 obtain ⟨H0,Hs0,la,Hs,f,q⟩:=h_18
 refine KR f q fun ds vs H1 Hs1 e1 s1 f1 r1=>?_
 unfold ub at q
 rw [e1,bind_ok] at q
 unfold Fc at q
 split at q
 ·rename_i j
  by_cases hj:-(2 ^ 62)<=j/\j<2 ^ 62
  ·rw [if_pos hj] at q
   obtain ⟨x,rfl,rx⟩:=r1.one
   exact ⟨j,by rw [rx.int],hj.1,hj.2,q _ H1 Hs1 s1 (La 0 _)⟩
  ·rw [if_neg hj] at q;exact q.elim
 ·exact q.elim
def Ug:List D->R (List D)
 | [.tuple ds]=>.ok (gF 0 ds)
 | _=>.no
def Fd (gs:ap->R (List D)):ap->R (List D):=fun ρ=>(gs ρ).bind Ug
theorem RDs.one {K:a6}{H:Hp}{xs:List V}{d:D} (h:RDs K H xs [d]):∃ x,xs=[x]/\RD K H x d:=by
 cases h with | cons a t=>cases t;exact ⟨_,rfl,a⟩
theorem RDs.two {K:a6}{H:Hp}{xs:List V}{d e:D} (h:RDs K H xs [d,e]):∃ x y,xs=[x,y]/\RD K H x d/\RD K H y e:=by
 cases h with | cons a t=>cases t with | cons b t=>cases t;exact ⟨_,_,rfl,a,b⟩
theorem xA {elts:List aV}{x1}{tpos:Pos} (hg:Gl c.X "enumerate") (hm:c.X.mg "enumerate"=none) (ha:Ej c [a] gs) (hs:aw [a] c.X.env=[(false,cR a c.X.env)]:=by rfl):Gw c (.Tuple elts x1 tpos) (.Call (.Name "enumerate" p) [a] [] pos) (Fd gs):=.of fun ρ=>Gx (O9 hg hm (ha ρ) hs) fun σ H Q h_20=>by
 obtain ⟨H0,Hs0,la,Hs,f,q⟩:=h_20
 refine B0 f q fun ds vs H1 Hs1 e1 s1 f1 r1=>?_
 unfold Fd at q
 rw [e1,bind_ok] at q
 unfold Ug at q
 split at q
 ·obtain ⟨x,rfl,rx⟩:=r1.one
  cases rx with
  | tuple qa ra=>exact ⟨_,_,rfl,(kG.of (f1.st.sub _ _ qa)),q _ H1 Hs1 s1 (Ol (.of qa) ra)⟩
 ·exact q.elim
def zp:List D->R (List D)
 | [.tuple ds,.tuple es]=>.ok (ww ds es)
 | _=>.no
def Om (gs:ap->R (List D)):ap->R (List D):=fun ρ=>(gs ρ).bind zp
theorem On {elts:List aV}{x1}{tpos:Pos} (hg:Gl c.X "zip") (hm:c.X.mg "zip"=none) (ha:Ej c [a,b] gs) (hs:aw [a,b] c.X.env=[(false,cR a c.X.env),(false,cR b c.X.env)]:=by rfl) (hs2:aw [b] c.X.env=[(false,cR b c.X.env)]:=by rfl) :
  Gw c (.Tuple elts x1 tpos) (.Call (.Name "zip" p) [a,b] [] pos) (Om gs):=.of fun ρ=>Gx (Q_ hg hm (ha ρ) hs hs2) fun σ H Q h_21=>by
 obtain ⟨H0,Hs0,la,Hs,f,q⟩:=h_21
 refine B0 f q fun ds vs H1 Hs1 e1 s1 f1 r1=>?_
 unfold Om at q
 rw [e1,bind_ok] at q
 unfold zp at q
 split at q
 ·obtain ⟨x,y,rfl,rx,ry⟩:=r1.two
  cases rx with
  | tuple qa ra =>
   cases ry with
   | tuple qb rb=>exact ⟨_,_,_,_,rfl,(kG.of (f1.st.sub _ _ qa)),(kG.of (f1.st.sub _ _ qb)),q _ H1 Hs1 s1 (Rb (.of qa) ra (.of qb) rb)⟩
 ·exact q.elim
end
end
section
inductive VH (K:a6) (cls:Str->ah) (E:XK) (ρ:ap) (r:R D) (σ:St) (H:Hp) (Q:VK):Prop
 | mk (H0 Hs0:Hp) (la:Nat->Option ah) (Hs:Hp) (f:Fr K H0 Hs0 la ρ σ H Hs) (q:Fin K cls E H Hs r fun d=>∀ a o H' Hs',cD H Hs H' Hs'->H' a=none->lV K Hs' o d->Q (.ref a) (upd H' a o)):VH K cls E ρ r σ H Q
def TN (K:a6) (cls:Str->ah) (E:XK) (ρ:ap) (r:R D):TE:=VH K cls E ρ r
structure JN (c:C) (e:aV) (g:ap->R D):Prop where of ::
 run:∀ ρ,PE c.X e (TN c.X.K c.cls c.E ρ (g ρ))
instance {c:C}{e:aV}{g:ap->R D}:CoeFun (JN c e g) (fun _=>∀ ρ,PE c.X e (TN c.X.K c.cls c.E ρ (g ρ))):=⟨JN.run⟩
section
variable {c:C}{e a b l tg:aV}{g ga gb:ap->R D}{pos p:Pos}{gs:ap->R (List D)}{es:List aV}{x:Str}
theorem V6 {K:a6}{cls:Str->ah}{E:XK}{ρ:ap}{r:R D}{σ:St}{H:Hp}{Q:VK} (q:TR K cls E ρ r σ H Q):TN K cls E ρ r σ H Q:=by
 obtain ⟨H0,Hs0,la,Hs,f,q⟩:=q
 refine ⟨H0,Hs0,la,Hs,f,?_⟩
 cases r with
 | ok d=>exact fun a o H' Hs' s n r=>q _ _ _ (s.trans (.new s.sub n)) (r.share (s.sub.free n))
 | ex x n=>exact q
 | no=>exact q
theorem JN.je (h:JN c e g):JE c e g:=.of fun ρ=>rN (h ρ) fun σ H Q q=>V6 q
theorem vf (h:Ej c es gs):JN c (.List es pos) (fH gs .list):=.of fun ρ=>rN (nQ (h ρ)) fun σ H Q h_0=>by
 obtain ⟨H0,Hs0,la,Hs,f,q⟩:=h_0
 refine B0 f q fun ds vs H1 Hs1 e1 s1 f1 r1=>?_
 unfold fH at q
 rw [e1,bind_ok] at q
 by_cases hl:ds.length<=1000
 ·rw [if_pos hl] at q
  exact ⟨cc (df (by rw [r1.length];exact hl)),fun p hp=>q p _ H1 Hs1 s1 hp (.lst r1)⟩
 ·rw [if_neg hl] at q;exact q.elim
theorem Gy:JN c (.Dict [] [] pos) (fun _=>.ok (.dict [])):=.of fun ρ=>rN Kr fun σ H Q h_1=>by obtain ⟨H0,Hs0,la,Hs,f,q⟩:=h_1;exact fun p hp=>q p _ H Hs (.refl f.st.sub) hp (.dK .nil)
def gO (i:Nat) (g:ap->R D):ap->R Fl:=fun ρ=>(g ρ).bind fun d=>.ok (.nx (ρ.set i (.own d)))
theorem sN {K:a6}{cls:Str->ah}{E:XK}{ρ:ap}{r:R D}{k:D->R Fl}{σ:St}{H:Hp}{H0 Hs0 Hs:Hp}{la:Nat->Option ah}{D':tS}{Q:V->Hp->Prop} (f:Fr K H0 Hs0 la ρ σ H Hs)
  (h:mR K cls E H0 Hs0 la D' (r.bind k)) (m:∀ d a o H' Hs',r=.ok d->Fr K H0 Hs0 la ρ σ H' Hs'->H' a=none->lV K Hs' o d->Q (.ref a) (upd H' a o)):TN K cls E ρ r σ H Q:=by
 refine ⟨H0,Hs0,la,Hs,f,?_⟩
 cases r with
 | ok d=>exact fun a o H' Hs' s n r=>m d a o H' Hs' rfl (f.step s) n r
 | ex c n=>exact fun H' Hs' s=>h H' Hs' (f.st.trans s)
 | no=>exact h
theorem kU (i:Nat) {pos':Pos} (h:JN c e g) (hN:c.X.N.Nodup) (hi:c.X.N[i]?=some x:=by rfl) (hx:NE c.X.env.scope x:=by first | exact fB rfl | exact c_ rfl) (hs:fQ e (some (.Name x pos')) pos.line c.X.env=pure false:=by rfl)
  (hf:c.X.fn x=true\/c.X.env.scope.names.lookup x=some .local:=by first | exact .inl rfl | exact .inr rfl | assumption):JS c (.Assign [.Name x pos'] e pos) (gO i g):=.of fun ρ=>yS (AF hN hi hx (h ρ) hs hf) fun D σ H h_2=>by
 obtain ⟨H0,Hs0,la,Hs,f,q⟩:=h_2
 refine sN f q fun d a o H1 Hs1 e1 f1 n1 r1=>?_
 unfold gO at q
 rw [e1,bind_ok] at q
 exact q _ _ Hs1 (f1.setO i n1 r1)
def IB {α:Type}:R α->R α
 | .ex _ _=>.no
 | r=>r
theorem Gz {α:Type}{r:R α}{a:α} (h:IB r=.ok a):r=.ok a:=by
 cases r<;>first | exact h | cases h
def gG (f:D->R (Option D)):List D->R (List D)
 | []=>.ok []
 | d::r=>(f d).bind fun o=>(gG f r).bind fun ys=>.ok (match o with
  | some y=>y::ys
  | none=>ys)
theorem xB {f:D->R (Option D)}{d:D}{r ys:List D} (h:gG f (d::r)=.ok ys):∃ o zs,f d=.ok o/\gG f r=.ok zs/\ys=o.toList++zs:=by
 unfold gG at h
 cases hf:f d with
 | ok o =>
  rw [hf,bind_ok] at h
  cases hm:gG f r with
  | ok zs =>
   rw [hm,bind_ok] at h
   cases h
   cases o<;>exact ⟨_,zs,rfl,rfl,rfl⟩
  | ex x n=>rw [hm] at h;cases h
  | no=>rw [hm] at h;cases h
 | ex x n=>rw [hf] at h;cases h
 | no=>rw [hf] at h;cases h
def N9:Sl->Sl
 | .own d=>.lck d
 | .ow2 _=>.no
 | s=>s
def nl (nt:Nat) (ix:List Nat) (ρ:ap):ap:=rE nt Sl.no++ix.map fun i=>N9 ((ρ[i]?).getD .no)
def SW (nt:Nat):D->ap->R ap:=match nt with
 | 1=>bc 0
 | 2=>iu 2 (bC (bc 0) (bC (bc 1) iU))
 | _=>fun _ _=>.no
def ir (nt:Nat) (ρ:ap) (gt:ap->R Bool) (ge:ap->R D):D->R (Option D):=fun d=>IB ((SW nt d ρ).bind fun ρ'=>(gt ρ').bind fun b=>if b then (ge ρ').bind fun y=>.ok (some y) else .ok none)
def eB (nt:Nat) (ix:List Nat) (gi:ap->R (List D)) (gt:ap->R Bool) (ge:ap->R D):ap->R D:=fun ρ=>(gi ρ).bind fun ds=>if ds.length<=1000 then (gG (ir nt (nl nt ix ρ) gt ge) ds).bind fun ys=>.ok (.list ys) else .no
structure SX (c:C) (ifs:List aV) (g:ap->R Bool):Prop where of ::
 run:∀ ρ,N7 c.X ifs (Iv c.X.K c.cls c.E ρ (g ρ))
instance {c:C}{ifs:List aV}{g:ap->R Bool}:CoeFun (SX c ifs g) (fun _=>∀ ρ,N7 c.X ifs (Iv c.X.K c.cls c.E ρ (g ρ))):=⟨SX.run⟩
theorem eY:SX c [] (fun _=>.ok true):=.of fun ρ pins s σ H Q I h_3=>by obtain ⟨H0,Hs0,la,Hs,f,q⟩:=h_3;exact O5 pins s σ H Q I (q H Hs (.refl f.st.sub))
theorem n_ {gt:ap->R Bool} (h:JT c e gt):SX c [e] gt:=.of fun ρ=>O6 (h ρ)
def IC (K:a6) (nt:Nat):TG:=match nt with
 | 1=>vL 0
 | _=>Qz K 2 (L2.aa (vL 0) (L2.aa (vL 1) L2.aG))
theorem B9 {K:a6}{nt:Nat} (h:nt=1\/nt=2):Pu nt (IC K nt):=by
 rcases h with rfl | rfl
 ·exact Kt (by decide)
 ·exact O7 (by decide) (by decide)
theorem CL {K:a6}{nt:Nat}{H0 Hs0 H Hs:Hp}{la:Nat->Option ah}{ρ ρ':ap}{σ:St}{v:V}{d:D}{Q:St->Hp->Prop} (hnt:nt=1\/nt=2) (f:Fr K H0 Hs0 la ρ σ H Hs) (r:RD K Hs v d) (hb:SW nt d ρ=.ok ρ')
  (q:∀ σ',Fr K H0 Hs0 la ρ' σ' H Hs->Q σ' H):IC K nt v σ H Q:=by
 rcases hnt with rfl | rfl
 ·cases hb
  exact q _ (f.set 0 r)
 ·unfold SW iu at hb
  simp only at hb
  cases r with
  | @tuple p xs ds hq rs =>
   simp only at hb
   split at hb
   ·rename_i hl
    cases rs with
    | nil=>cases hl
    | cons r1 rs =>
     cases rs with
     | nil=>cases hl
     | cons r2 rs =>
      cases rs with
      | nil =>
       cases hb
       exact ⟨p,_,rfl,(kG.of (f.st.sub _ _ hq)),rfl,_,_,rfl,_,_,rfl,rfl,q _ ((f.set 0 r1).set 1 r2)⟩
      | cons _ _=>simp at hl
   ·cases hb
  | none=>cases hb
  | bool _=>cases hb
  | int _=>cases hb
  | str _=>cases hb
  | list _ _=>cases hb
  | dictK _ _=>cases hb
  | dictT _ _ _=>cases hb
  | dictF _ _ _=>cases hb
theorem Fr.block {K:a6}{H0 Hs0 H Hs:Hp}{la:Nat->Option ah}{ρ:ap}{σ:St} (f:Fr K H0 Hs0 la ρ σ H Hs) (nt:Nat) (ix:List Nat):∃ la',Fr K H Hs la' (nl nt ix ρ) (L2.jb nt ix σ) H Hs:=by
 have lk:∀ (j:Nat) (d:D),(nl nt ix ρ)[j]?=some (Sl.lck d)->∃ a o,(L2.jb nt ix σ)[j]?=some (some (V.ref a))/\H a=some o/\Hs a=none/\lV K Hs o d:=fun j d h=>by
  unfold nl at h
  by_cases hj:j<nt
  ·rw [bg (by simpa using hj),cf,if_pos hj] at h;cases h
  ·have hj:nt<=j:=by omega
   rw [aU (by simpa using hj),cQ,aX] at h
   cases hi:ix[j - nt]? with
   | none=>rw [hi] at h;cases h
   | some i =>
    rw [hi] at h
    have at_:∀ v,σ[i]?=some (some v)->(L2.jb nt ix σ)[j]?=some (some v):=fun v k1=>by
     unfold L2.jb
     rw [aU (by simpa using hj),cQ,aX,hi]
     simp [k1]
    cases hr:ρ[i]? with
    | none=>simp only [dw,hr,gC,N9] at h;cases h
    | some s =>
     simp only [dw,hr,jV] at h
     cases s with
     | own d' =>
      cases h
      obtain ⟨a,o,k1,k2,k3,k4,k5⟩:=f.ow i d hr
      exact ⟨a,o,at_ _ k1,k2,k3,k5⟩
     | lck d' =>
      cases h
      obtain ⟨a,o,k1,k2,k3,k4,k5,k6⟩:=f.lk i d hr
      exact ⟨a,o,at_ _ k1,k3,k4,k6⟩
     | no=>cases h
     | shr _=>cases h
     | ow2 _=>cases h
 have no2:∀ (j:Nat) (d:List (List D)),¬ (nl nt ix ρ)[j]?=some (Sl.ow2 d):=fun j d h=>by
  unfold nl at h
  by_cases hj:j<nt
  ·rw [bg (by simpa using hj),cf,if_pos hj] at h;cases h
  ·have hj:nt<=j:=by omega
   rw [aU (by simpa using hj),cQ,aX] at h
   cases hi:ix[j - nt]? with
   | none=>rw [hi] at h;cases h
   | some i =>
    rw [hi] at h
    cases hr:ρ[i]? with
    | none=>simp only [dw,hr,gC,N9] at h;cases h
    | some s =>
     simp only [dw,hr,jV] at h
     cases s<;>cases h
 refine ⟨fun j=>match (nl nt ix ρ)[j]?,(L2.jb nt ix σ)[j]? with
  | some (Sl.lck _),some (some (V.ref a))=>some a
  | _,_=>none,.refl f.st.sub,by simp [nl,L2.jb],fun j d h=>?_,fun j d h=>?_,fun j d h=>?_,fun j k d1 d2 a h1 h2 _ _=>?_,fun j a h=>?_,fun j d h=>(no2 j d h).elim,fun j k d1 d2 h1 _=>(no2 j d1 h1).elim⟩
 case refine_3 =>
  obtain ⟨a,o,k1,k2,k3,k4⟩:=lk j d h
  exact ⟨a,o,k1,by rw [h,k1],k2,k3,k2,k4⟩
 case refine_5 =>
  split at h
  ·rename_i d a' h1 h2
   cases h
   obtain ⟨a',o,k1,k2,_⟩:=lk j d h1
   rw [h2] at k1
   cases k1
   exact ⟨o,k2⟩
  ·cases h
 all_goals
  unfold nl at *
 ·have h:=h
  by_cases hj:j<nt
  ·rw [bg (by simpa using hj),cf,if_pos hj] at h;cases h
  ·have hj:nt<=j:=by omega
   rw [aU (by simpa using hj),cQ,aX] at h
   cases hi:ix[j - nt]? with
   | none=>rw [hi] at h;cases h
   | some i =>
    rw [hi] at h
    cases hr:ρ[i]? with
    | none=>simp only [dw,hr,gC,N9] at h;cases h
    | some s =>
     simp only [dw,hr,jV] at h
     cases s with
     | shr d' =>
      cases h
      obtain ⟨v,k1,k2⟩:=f.sh i d hr
      refine ⟨v,?_,k2⟩
      unfold L2.jb
      rw [aU (by simpa using hj),cQ,aX,hi]
      simp [k1]
     | no=>cases h
     | own _=>cases h
     | lck _=>cases h
     | ow2 _=>cases h
 ·have h:=h
  by_cases hj:j<nt
  ·rw [bg (by simpa using hj),cf,if_pos hj] at h;cases h
  ·have hj:nt<=j:=by omega
   rw [aU (by simpa using hj),cQ,aX] at h
   cases hi:ix[j - nt]? with
   | none=>rw [hi] at h;cases h
   | some i =>
    rw [hi] at h
    cases hr:ρ[i]? with
    | none=>simp only [dw,hr,gC,N9] at h;cases h
    | some s =>
     simp only [dw,hr,jV] at h
     cases s<;>cases h
 ·have h1:=h1
  by_cases hj:j<nt
  ·rw [bg (by simpa using hj),cf,if_pos hj] at h1;cases h1
  ·have hj:nt<=j:=by omega
   rw [aU (by simpa using hj),cQ,aX] at h1
   cases hi:ix[j - nt]? with
   | none=>rw [hi] at h1;cases h1
   | some i =>
    rw [hi] at h1
    cases hr:ρ[i]? with
    | none=>simp only [dw,hr,gC,N9] at h1;cases h1
    | some s =>
     simp only [dw,hr,jV] at h1
     cases s<;>cases h1
theorem xC {f:D->R (Option D)} (h:∀ d c n,f d≠.ex c n):∀ (ds:List D) (c:Str) (n:Option D),gG f ds≠.ex c n
 | [],c,n=>fun e=>by cases e
 | d::r,c,n=>fun e=>by
  unfold gG at e
  cases hf:f d with
  | ok o =>
   rw [hf,bind_ok] at e
   cases hm:gG f r with
   | ok zs=>rw [hm,bind_ok] at e;cases e
   | ex x k=>exact xC h r x k hm
   | no=>rw [hm] at e;cases e
  | ex x k=>exact h d x k hf
  | no=>rw [hf] at e;cases e
theorem CM (nt:Nat) (ρ:ap) (gt:ap->R Bool) (ge:ap->R D) (d:D) (c:Str) (n:Option D):ir nt ρ gt ge d≠.ex c n:=by
 unfold ir IB
 split<;>first | exact fun e=>by cases e | skip
 rename_i h
 exact fun e=>h c n e
inductive VI (K:a6) (f:D->R (Option D)) (ds ys:List D) (H1 Hs1:Hp) (i m:Nat) (acc:List V) (H':Hp):Prop
 | mk (done bY zs ya Hs':_) (h0:ds=done++bY) (h1:done.length=i) (h2:bY.length=m) (h3:cD H1 Hs1 H' Hs') (h4:RDs K Hs' acc ya) (h5:ya.length<=i) (h6:gG f bY=.ok zs) (h7:ys=ya++zs):VI K f ds ys H1 Hs1 i m acc H'
theorem GA {K:a6}{cls:Str->ah}{E:XK}{nt:Nat}{ix:List Nat}{gi:ap->R (List D)}{gt:ap->R Bool}{ge:ap->R D}{ρ:ap}{σ:St}{H:Hp}{Q:VK} (hnt:nt=1\/nt=2)
  (q:TN K cls E ρ (eB nt ix gi gt ge ρ) σ H Q) :
  Ks nt ix (Uf K cls E ρ (gi ρ)) (IC K nt) (fun σ H Q=>∃ ρ',Iv K cls E0 ρ' (gt ρ') σ H Q) (fun σ H Q=>∃ ρ',TR K cls E0 ρ' (ge ρ') σ H Q) σ H Q:=by
 obtain ⟨H0,Hs0,la,Hs,f,q⟩:=q
 refine ⟨H0,Hs0,la,Hs,f,?_⟩
 unfold eB at q
 cases hi:gi ρ with
 | no=>rw [hi] at q;exact q
 | ex x n=>rw [hi] at q;exact q
 | ok ds =>
  rw [hi,bind_ok] at q
  intro J H1 Hs1 Hn s1 sn it
  by_cases hl:ds.length<=1000
  ·rw [if_pos hl] at q
   cases hm:gG (ir nt (nl nt ix ρ) gt ge) ds with
   | no=>rw [hm] at q;exact q.elim
   | ex x n=>exact (xC (CM _ _ _ _) _ _ _ hm).elim
   | ok ys =>
    rw [hm,bind_ok] at q
    obtain ⟨lb,fb⟩:=(f.step s1).block nt ix
    refine ⟨VI K (ir nt (nl nt ix ρ) gt ge) ds ys H1 Hs1,
     ⟨ds.length,[],ds,ys,[],Hs1,rfl,rfl,rfl,.refl s1.sub,.nil,cn _,hm,rfl⟩,?_⟩
    rintro i m acc H' ⟨done,bY,zs,ya,Hs',hds,hdl,hrl,st,ra,yl,hz,hy⟩
    obtain ⟨igo,istop,iyld⟩:=it H' Hs' (sn.trans st.all) st.sh st.sub
    cases bY with
    | nil =>
     left
     cases hz
     rw [cA] at hds hy
     subst hy hds
     exact ⟨istop i (by omega),fun p hp=>q p _ H' Hs' (s1.trans st) hp (.lst ra)⟩
    | cons d bY =>
     right
     have hil:i<ds.length:=by rw [hds,aH,aW];omega
     refine ⟨igo i hil,df (by rw [ra.length];omega),fun x H2 hyl=>?_⟩
     obtain ⟨d',Hs2,hd,s2,r2⟩:=iyld i x H2 hil hyl
     have hdd:d'=d:=by
      rw [hds,aU (by omega)] at hd
      simp [hdl] at hd
      exact hd.symm
     subst hdd
     obtain ⟨o,zs',hf,hz',rfl⟩:=xB hz
     have hf:=Gz hf
     cases hb:SW nt d' (nl nt ix ρ) with
     | no=>rw [hb] at hf;cases hf
     | ex x n=>rw [hb] at hf;cases hf
     | ok ρ' =>
      rw [hb,bind_ok] at hf
      refine CL hnt ((fb.step st).step s2) r2 hb fun σ2 f2=>⟨ρ',?_⟩
      refine ⟨_,_,_,Hs2,f2,?_⟩
      cases ht:gt ρ' with
      | no=>rw [ht] at hf;cases hf
      | ex x n=>rw [ht] at hf;cases hf
      | ok b =>
       rw [ht,bind_ok] at hf
       intro H3 Hs3 s3
       cases b with
       | false =>
        rw [if_neg a_] at hf
        cases hf
        refine Cd ⟨bY.length,by rw [<- hrl];simp,done++[d'],bY,zs',ya,Hs3,by rw [hds];simp,by simp [hdl],rfl,(st.trans s2).trans s3,ra.same (s2.trans s3).sh,by omega,hz',by simpa using hy⟩
       | true =>
        rw [if_pos rfl] at hf
        refine Ce ⟨ρ',_,_,_,Hs3,f2.step s3,?_⟩
        cases he:ge ρ' with
        | no=>rw [he] at hf;cases hf
        | ex x n=>rw [he] at hf;cases hf
        | ok y =>
         rw [he,bind_ok] at hf
         cases hf
         intro v H4 Hs4 s4 r4
         exact ⟨bY.length,by rw [<- hrl];simp,done++[d'],bY,zs',ya++[y],Hs4,by rw [hds];simp,by simp [hdl],rfl,((st.trans s2).trans s3).trans s4,(ra.same ((s2.trans s3).trans s4).sh).append (.cons r4 .nil),by simp;omega,hz',by rw [hy];simp⟩
  ·rw [if_neg hl] at q;exact q.elim
def C.comp (c:C) (N':List Str) (scope:e7) (cl:List (Str×ah)) (A:ah) (s₀:ac) (H₀:Hp) (ex:List ah) (pn:List (ah×Obj)):C:=⟨cK c.X N' scope cl A s₀ H₀ ex pn,c.cls,E0⟩
variable {elt iter:aV}{ifs:List aV}{scope:e7}{N':List Str}{nt:Nat}{ix:List Nat}{gi:ap->R (List D)}{gt:ap->R Bool}{ge:ap->R D}
def uc (c:C) (N':List Str) (scope:e7) (nt:Nat) (tg:aV) (ifs:List aV) (elt:aV) (gt:ap->R Bool) (ge:ap->R D):Prop :=
 ∀ cl A s₀ H₀ ex pn,PG (c.comp N' scope cl A s₀ H₀ ex pn).X tg (IC c.X.K nt)/\SX (c.comp N' scope cl A s₀ H₀ ex pn) ifs gt/\JE (c.comp N' scope cl A s₀ H₀ ex pn) elt ge
theorem uc.at (h:uc c N' scope nt tg ifs elt gt ge):∀ cl A s₀ H₀ ex pn,PG (cK c.X N' scope cl A s₀ H₀ ex pn) tg (IC c.X.K nt)/\N7 (cK c.X N' scope cl A s₀ H₀ ex pn) ifs (fun σ H Q=>∃ ρ',Iv c.X.K c.cls E0 ρ' (gt ρ') σ H Q) /\
  PE (cK c.X N' scope cl A s₀ H₀ ex pn) elt (fun σ H Q=>∃ ρ',TR c.X.K c.cls E0 ρ' (ge ρ') σ H Q):=fun cl A s₀ H₀ ex pn=>by
 obtain ⟨h1,h2,h3⟩:=h cl A s₀ H₀ ex pn
 exact ⟨h1,fun pins s σ H Q I h_4=>by obtain ⟨ρ',q⟩:=h_4;exact h2 ρ' pins s σ H Q I q,fun pins s σ H Q I h_5=>by obtain ⟨ρ',q⟩:=h_5;exact h3 ρ' pins s σ H Q I q⟩
theorem eZ (nt:Nat) (hnt:nt=1\/nt=2) (hc:c.X.calm=true) (S:mK c.X scope N' nt ix) (hi:JI c tg iter gi) (hb:uc c N' scope nt tg ifs elt gt ge) (hs:∀ x,ed iter c.X.env x=pure x:=by intro _;rfl) :
  JN c (.ListComp elt [⟨tg,iter,ifs,0⟩] scope pos) (eB nt ix gi gt ge):=.of fun ρ=>rN (Cj hc S (B9 hnt) (hi ρ) hb.at hs) fun σ H Q q=>GA hnt q
theorem jI (i:Nat) {spos py:Pos} (nt:Nat) (hnt:nt=1\/nt=2) (hN:c.X.N.Nodup) (hc:c.X.calm=true) (S:mK c.X scope N' nt ix) (hi:JI c tg iter gi) (hb:uc c N' scope nt tg ifs elt gt ge)
  (hiN:c.X.N[i]?=some x:=by rfl) (hy:c.X.env.scope.names.lookup x=some .local:=by rfl)
  (hsw:fQ (.ListComp elt [⟨tg,iter,ifs,0⟩] scope pos) (some (.Name x py)) spos.line c.X.env=pure true:=by rfl)
  (hs:∀ x,ed iter c.X.env x=pure x:=by intro _;rfl):JS c (.Assign [.Name x py] (.ListComp elt [⟨tg,iter,ifs,0⟩] scope pos) spos) (gO i (eB nt ix gi gt ge)):=.of fun ρ=>yS (EV hN hiN hy hc S (B9 hnt) (hi ρ) hb.at hsw hs) fun D σ H h_6=>by
 obtain ⟨H0,Hs0,la,Hs,f,q⟩:=h_6
 refine GA (Q:=fun x H1=>D.nx (σ.set i (some x)) H1) hnt (sN f q fun d a o H1 Hs1 e1 f1 n1 r1=>?_)
 unfold gO at q
 rw [e1,bind_ok] at q
 exact q _ _ Hs1 (f1.setO i n1 r1)
end
end
section
theorem Lb {X:Cx}{st:cC}{t:TS} (h:PS X.nox st t):PS X st t:=fun pins s σ H D I hw =>
 bI (h pins s σ H D (I.wish _) hw) (fun _ _ q=>q.unwish) fun _ _ z=>i7 z
def C.nox (c:C):C:=⟨c.X.nox,c.cls,E0⟩
def gx (k:D->ap->R ap) (b:ap->R Fl):List D->ap->R Fl
 | [],ρ=>.ok (.nx ρ)
 | d::r,ρ=>match k d ρ with
  | .ok ρ1=>match b ρ1 with
   | .ok (.nx ρ')=>gx k b r ρ'
   | .ok (.ct ρ')=>gx k b r ρ'
   | .ok (.bk ρ')=>.ok (.nx ρ')
   | .ok (.rt d)=>.ok (.rt d)
   | _=>.no
  | _=>.no
def Ba (i:Nat) (ρ:ap):ap:=match ρ[i]? with
 | some (Sl.own d)=>ρ.set i (.lck d)
 | _=>ρ
def xD (i:Nat) (ρ0 ρ:ap):ap:=match ρ0[i]?,ρ[i]? with
 | some (Sl.own _),some (Sl.lck d)=>ρ.set i (.own d)
 | _,_=>ρ
def VX (i:Nat) (ρ0:ap):R Fl->R Fl
 | .ok (.nx ρ)=>.ok (.nx (xD i ρ0 ρ))
 | .ok (.bk ρ)=>.no
 | .ok (.ct ρ)=>.no
 | r=>r
section
variable {K:a6}{cls:Str->ah}{E:XK}
inductive VJ (K:a6) (cls:Str->ah) (E:XK) (H0 Hs0:Hp) (la:Nat->Option ah) (D':tS) (kt:D->ap->R ap) (gb:ap->R Fl) (ds:List D) (i m:Nat) (σ:St) (H:Hp):Prop
 | mk (done bY ρ Hs:_) (h0:ds=done++bY) (h1:done.length=i) (h2:bY.length=m) (h3:Fr K H0 Hs0 la ρ σ H Hs) (h4:mR K cls E H0 Hs0 la D' (gx kt gb bY ρ)):VJ K cls E H0 Hs0 la D' kt gb ds i m σ H
theorem Lc {J:It}{Hn H0 Hs0:Hp}{la:Nat->Option ah}{ds:List D}{kt:D->ap->R ap}{gb:ap->R Fl}{ρ:ap}{σ:St}{H Hs:Hp}{D':tS}{tg:TG}{tb:TS}
  (it:L7 K J ds Hn Hs0) (hn:cZ Hn H0) (f:Fr K H0 Hs0 la ρ σ H Hs)
  (htg:∀ ρ d v σ H Q,Ra K ρ d (kt d ρ) v σ H Q->tg v σ H Q) (htb:∀ ρ D σ H,SR K cls E0 ρ (gb ρ) D σ H->tb D σ H)
  (q:mR K cls E H0 Hs0 la D' (gx kt gb ds ρ)) :
  UB tg tb D' σ J H:=by
 refine ⟨VJ K cls E H0 Hs0 la D' kt gb ds,⟨ds.length,[],ds,ρ,Hs,rfl,rfl,rfl,f,q⟩,?_⟩
 rintro i m σ H ⟨done,bY,ρ,Hs,hds,hdl,hrl,f,q⟩
 obtain ⟨igo,istop,iyld⟩:=it H Hs (hn.trans f.st.all) f.st.sh f.st.sub
 cases bY with
 | nil =>
  rw [cA] at hds
  subst hds
  exact .inl ⟨istop i (by omega),q σ H Hs f⟩
 | cons d bY =>
  have hil:i<ds.length:=by rw [hds,aH,aW];omega
  refine .inr ⟨igo i hil,fun σ' H'=>∃ ρ' Hs',Fr K H0 Hs0 la ρ' σ' H' Hs'/\mR K cls E H0 Hs0 la D' (gx kt gb bY ρ'),fun σ' H' ⟨ρ',Hs',f',q'⟩=>⟨bY.length,by rw [<- hrl];simp,done++[d],bY,ρ',Hs',by rw [hds];simp,by simp [hdl],rfl,f',q'⟩,fun x H2 hyl=>?_⟩
  obtain ⟨d',Hs2,hd,s2,r2⟩:=iyld i x H2 hil hyl
  have hdd:d'=d:=by
   rw [hds,aU (by omega)] at hd
   simp [hdl] at hd
   exact hd.symm
  subst hdd
  unfold gx at q
  refine htg ρ d' x σ H2 _ ⟨H0,Hs0,la,Hs2,f.step s2,r2,?_⟩
  cases hk:kt d' ρ with
  | ex c n=>rw [hk] at q;exact q
  | no=>rw [hk] at q;exact q
  | ok ρ1 =>
   rw [hk] at q
   intro σ2 f2
   refine htb ρ1 _ σ2 H2 ⟨H0,Hs0,la,Hs2,f2,?_⟩
   cases hg:gb ρ1 with
   | no=>simp only [hg] at q;exact q.elim
   | ex c n=>simp only [hg] at q;exact q.elim
   | ok fl =>
    simp only [hg] at q
    cases fl with
    | nx ρ'=>exact fun σ' H' Hs' f'=>⟨ρ',Hs',f',q⟩
    | ct ρ'=>exact fun σ' H' Hs' f'=>⟨ρ',Hs',f',q⟩
    | bk ρ'=>exact fun σ' H' Hs' f'=>q σ' H' Hs' f'
    | rt d=>exact q
def rq (A B:Hp):Hp:=fun b=>match A b with
 | some o=>some o
 | none=>B b
theorem jk {A B:Hp}:cZ A (rq A B):=fun b o e=>by unfold rq;rw [e]
theorem i_ {A B:Hp}{b:ah} (h:A b=none):rq A B b=B b:=by unfold rq;rw [h]
theorem CN {A B H:Hp} (h1:cZ A H) (h2:cZ B H):cZ (rq A B) H:=fun b o e=>by
 cases h:A b with
 | some u=>unfold rq at e;rw [h] at e;cases e;exact h1 b o h
 | none=>rw [i_ h] at e;exact h2 b o e
theorem Ld {A B H:Hp} (h1:cZ A H) (h2:cZ B H):cZ B (rq A B):=fun b o e=>by
 cases h:A b with
 | some u =>
  unfold rq
  rw [h]
  have:=h1 b u h
  rw [h2 b o e] at this
  exact this.symm
 | none=>rw [i_ h];exact e
theorem Fr.into {H0 Hs0 H Hs:Hp}{la:Nat->Option ah}{ρ:ap}{σ:St} (f:Fr K H0 Hs0 la ρ σ H Hs):Fr K (rq H0 Hs) Hs la ρ σ H Hs:=by
 have sub:=CN f.st.all f.st.sub
 refine ⟨⟨sub,.refl _,f.st.sub,fun a o e _ z=>z⟩,f.len,f.sh,fun i d h=>?_,fun i d h=>?_,f.dj,fun i a e=>let ⟨o,k⟩:=f.lh i a e;⟨o,jk _ _ k⟩,fun i d h=>?_,f.u2⟩
 ·obtain ⟨a,o,h1,h2,h3,h4,h5⟩:=f.ow i d h
  exact ⟨a,o,h1,h2,h3,by rw [i_ h4];exact h3,h5⟩
 ·obtain ⟨a,o,h1,h2,h3,h4,h5,h6⟩:=f.lk i d h
  exact ⟨a,o,h1,h2,h3,h4,jk _ _ h5,h6⟩
 ·obtain ⟨a,as,O⟩:=f.o2 i d h
  exact ⟨a,as,O.at_,O.ob,O.nd,fun b hb=>⟨(O.out b hb).1,by rw [i_ (O.out b hb).2];exact (O.out b hb).1⟩,O.dj,O.inn⟩
theorem cD.outof {H0 Hs0 H1 Hs1 H' Hs':Hp} (s:cD H0 Hs0 H1 Hs1) (t:cD (rq H0 Hs1) Hs1 H' Hs'):cD H0 Hs0 H' Hs' :=
 ⟨jk.trans t.all,s.sh.trans t.sh,t.sub,fun a o e n z=>t.out a o (jk _ _ e) n (s.out a o e n z)⟩
theorem Fr.outof {H0 Hs0 H1 Hs1 H' Hs':Hp}{la:Nat->Option ah}{ρ1 ρ:ap}{σ1 σ:St} (f1:Fr K H0 Hs0 la ρ1 σ1 H1 Hs1) (f:Fr K (rq H0 Hs1) Hs1 la ρ σ H' Hs'):Fr K H0 Hs0 la ρ σ H' Hs':=by
 refine ⟨f1.st.outof f.st,f.len,f.sh,fun i d h=>?_,fun i d h=>?_,f.dj,f1.lh,fun i d h=>?_,f.u2⟩
 ·obtain ⟨a,o,h1,h2,h3,h4,h5⟩:=f.ow i d h
  exact ⟨a,o,h1,h2,h3,jk.free h4,h5⟩
 ·obtain ⟨a,o,h1,h2,h3,h4,h5,h6⟩:=f.lk i d h
  obtain ⟨o',e⟩:=f1.lh i a h2
  have e':=jk (B:=Hs1) _ _ e
  rw [h5] at e'
  cases e'
  exact ⟨a,o,h1,h2,h3,h4,e,h6⟩
 ·obtain ⟨a,as,O⟩:=f.o2 i d h
  exact ⟨a,as,O.at_,O.ob,O.nd,fun b hb=>⟨(O.out b hb).1,jk.free (O.out b hb).2⟩,O.dj,O.inn⟩
end
end
section
section
variable {K:a6}{cls:Str->ah}{E:XK}
theorem mR.into {H0 Hs0 H1 Hs1:Hp}{la:Nat->Option ah}{ρ1:ap}{σ1:St}{D':tS}{r:R Fl} (f1:Fr K H0 Hs0 la ρ1 σ1 H1 Hs1) (q:mR K cls E H0 Hs0 la D' r):mR K cls E (rq H0 Hs1) Hs1 la D' r:=by
 cases r with
 | no=>exact q
 | ex c n=>exact fun H' Hs' s=>q H' Hs' (f1.st.outof s)
 | ok fl =>
  cases fl with
  | nx ρ=>exact fun σ' H' Hs' f=>q σ' H' Hs' (f1.outof f)
  | bk ρ=>exact fun σ' H' Hs' f=>q σ' H' Hs' (f1.outof f)
  | ct ρ=>exact fun σ' H' Hs' f=>q σ' H' Hs' (f1.outof f)
  | rt d=>exact fun v H' Hs' s r=>q v H' Hs' (f1.st.outof s) r
theorem Fr.lock {H0 Hs0 H Hs:Hp}{la:Nat->Option ah}{ρ:ap}{σ:St} (f:Fr K H0 Hs0 la ρ σ H Hs) {i:Nat}{d:D}{a:ah}{o:HO} (hi:ρ[i]?=some (Sl.own d)) (k1:σ[i]?=some (some (V.ref a))) (k2:H a=some o) (k3:Hs a=none) (k4:H0 a=none) (k5:lV K Hs o d) :
  Fr K (rq H0 (upd Hs a o)) Hs (fun j=>if j=i then some a else la j) (ρ.set i (.lck d)) σ H Hs:=by
 have hil:i<ρ.length:=(List.getElem?_eq_some_iff.mp hi).1
 have sub:cZ (upd Hs a o) H:=fun b u q=>by
  by_cases hb:b=a
  ·subst hb;rw [bq] at q;cases q;exact k2
  ·rw [bj hb] at q;exact f.st.sub b u q
 have nx:∀ {j:Nat}{s:Sl},(∀ d,s≠.lck d)->(ρ.set i (.lck d))[j]?=some s->ρ[j]?=some s/\i≠j:=fun {j s} hs e=>by
  by_cases hj:i=j
  ·subst hj
   rw [az hil] at e;exact absurd (bu e).symm (hs d)
  ·rw [ag hj] at e;exact ⟨e,hj⟩
 refine ⟨⟨CN f.st.all sub,.refl _,f.st.sub,fun a o e _ z=>z⟩,by simp [f.len],fun j e h=>?_,fun j e h=>?_,fun j e h=>?_,fun j k d1 d2 b h1 h2 h3 h4=>?_,fun j b h=>?_,fun j e h=>?_,fun j k d1 d2 h1 h2=>?_⟩
 ·obtain ⟨h,_⟩:=nx (fun _ z=>by cases z) h
  exact f.sh j e h
 ·obtain ⟨h,hj⟩:=nx (fun _ z=>by cases z) h
  obtain ⟨b,u,q1,q2,q3,q4,q5⟩:=f.ow j e h
  refine ⟨b,u,q1,q2,q3,?_,q5⟩
  rw [i_ q4,bj (fun z=>hj ?_)]
  ·exact q3
  ·subst z
   exact f.dj i j d e b hi h k1 q1
 ·by_cases hj:i=j
  ·subst hj
   rw [az hil] at h
   cases h
   exact ⟨a,o,k1,if_pos rfl,k2,k3,by rw [i_ k4,bq],k5⟩
  ·rw [ag hj] at h
   obtain ⟨b,u,q1,q2,q3,q4,q5,q6⟩:=f.lk j e h
   exact ⟨b,u,q1,by rw [if_neg (cW hj)];exact q2,q3,q4,jk _ _ q5,q6⟩
 ·obtain ⟨h1,_⟩:=nx (fun _ z=>by cases z) h1
  obtain ⟨h2,_⟩:=nx (fun _ z=>by cases z) h2
  exact f.dj j k d1 d2 b h1 h2 h3 h4
 ·by_cases hj:j=i
  ·simp only [if_pos hj] at h
   cases h
   exact ⟨o,by rw [i_ k4,bq]⟩
  ·simp only [if_neg hj] at h
   obtain ⟨u,e⟩:=f.lh j b h
   exact ⟨u,jk _ _ e⟩
 ·obtain ⟨h,hj⟩:=nx (fun _ z=>by cases z) h
  obtain ⟨b,as,O⟩:=f.o2 j e h
  refine ⟨b,as,O.at_,O.ob,O.nd,fun c hc=>⟨(O.out c hc).1,?_⟩,fun c hc k e' hk=>O.dj c hc k e' (nx (fun _ z=>by cases z) hk).1,O.inn⟩
  rw [i_ (O.out c hc).2,bj (fun z=>?_)]
  ·exact (O.out c hc).1
  ·subst z
   exact O.dj c hc i d hi k1
 ·exact f.u2 j k d1 d2 (nx (fun _ z=>by cases z) h1).1 (nx (fun _ z=>by cases z) h2).1
theorem cD.unlock {H0 Hs0 H Hs H' Hs':Hp}{a:ah}{o:HO} (s:cD H0 Hs0 H Hs) (t:cD (rq H0 (upd Hs a o)) Hs H' Hs'):cD H0 Hs0 H' Hs' :=
 ⟨jk.trans t.all,s.sh.trans t.sh,t.sub,fun b u e n z=>t.out b u (jk _ _ e) n (s.out b u e n z)⟩
theorem Fr.unlock {H0 Hs0 H Hs H' Hs':Hp}{la:Nat->Option ah}{ρ ρ':ap}{σ σ':St} (f:Fr K H0 Hs0 la ρ σ H Hs) {i:Nat}{d:D}{a:ah}{o:HO} (hi:ρ[i]?=some (Sl.own d)) (k4:H0 a=none)
  (f':Fr K (rq H0 (upd Hs a o)) Hs (fun j=>if j=i then some a else la j) ρ' σ' H' Hs'):Fr K H0 Hs0 la (xD i ρ ρ') σ' H' Hs':=by
 have st:=f.st.unlock f'.st
 have own:∀ (j:Nat) (e:D),ρ'[j]?=some (Sl.own e)->∃ b u,σ'[j]?=some (some (V.ref b))/\H' b=some u/\Hs' b=none/\H0 b=none/\lV K Hs' u e/\(rq H0 (upd Hs a o)) b=none:=fun j e h=>by
  obtain ⟨b,u,q1,q2,q3,q4,q5⟩:=f'.ow j e h
  exact ⟨b,u,q1,q2,q3,jk.free q4,q5,q4⟩
 have lck:∀ (j:Nat) (e:D),j≠i->ρ'[j]?=some (Sl.lck e)->∃ b u,σ'[j]?=some (some (V.ref b))/\la j=some b/\H' b=some u/\Hs' b=none/\H0 b=some u/\lV K Hs' u e:=fun j e hj h=>by
  obtain ⟨b,u,q1,q2,q3,q4,q5,q6⟩:=f'.lk j e h
  simp only [if_neg hj] at q2
  obtain ⟨u',e'⟩:=f.lh j b q2
  have:=jk (B:=upd Hs a o) _ _ e'
  rw [q5] at this
  cases this
  exact ⟨b,u,q1,q2,q3,q4,e',q6⟩
 have two:∀ (j:Nat) (e:List (List D)),ρ'[j]?=some (Sl.ow2 e)->∃ b as,O2 K H0 H' Hs' ρ' σ' j e b as:=fun j e h=>by
  obtain ⟨b,as,O⟩:=f'.o2 j e h
  exact ⟨b,as,O.at_,O.ob,O.nd,fun c hc=>⟨(O.out c hc).1,jk.free (O.out c hc).2⟩,O.dj,O.inn⟩
 unfold xD
 cases hl:ρ'[i]? with
 | none =>
  simp only [hi]
  refine ⟨st,f'.len,f'.sh,fun j e h=>let ⟨b,u,q1,q2,q3,q4,q5,_⟩:=own j e h;⟨b,u,q1,q2,q3,q4,q5⟩,fun j e h=>lck j e (fun z=>by rw [z,hl] at h;cases h) h,f'.dj,f.lh,two,f'.u2⟩
 | some s =>
  cases s with
  | no=>simp only [hi];exact ⟨st,f'.len,f'.sh,fun j e h=>let ⟨b,u,q1,q2,q3,q4,q5,_⟩:=own j e h;⟨b,u,q1,q2,q3,q4,q5⟩,fun j e h=>lck j e (fun z=>by rw [z,hl] at h;cases h) h,f'.dj,f.lh,two,f'.u2⟩
  | shr _=>simp only [hi];exact ⟨st,f'.len,f'.sh,fun j e h=>let ⟨b,u,q1,q2,q3,q4,q5,_⟩:=own j e h;⟨b,u,q1,q2,q3,q4,q5⟩,fun j e h=>lck j e (fun z=>by rw [z,hl] at h;cases h) h,f'.dj,f.lh,two,f'.u2⟩
  | own _=>simp only [hi];exact ⟨st,f'.len,f'.sh,fun j e h=>let ⟨b,u,q1,q2,q3,q4,q5,_⟩:=own j e h;⟨b,u,q1,q2,q3,q4,q5⟩,fun j e h=>lck j e (fun z=>by rw [z,hl] at h;cases h) h,f'.dj,f.lh,two,f'.u2⟩
  | ow2 _=>simp only [hi];exact ⟨st,f'.len,f'.sh,fun j e h=>let ⟨b,u,q1,q2,q3,q4,q5,_⟩:=own j e h;⟨b,u,q1,q2,q3,q4,q5⟩,fun j e h=>lck j e (fun z=>by rw [z,hl] at h;cases h) h,f'.dj,f.lh,two,f'.u2⟩
  | lck d' =>
   simp only [hi]
   have hil:i<ρ'.length:=(List.getElem?_eq_some_iff.mp hl).1
   have nx:∀ {j:Nat}{s:Sl},(∀ d,s≠.own d)->(ρ'.set i (.own d'))[j]?=some s->ρ'[j]?=some s/\i≠j:=fun {j s} hs e=>by
    by_cases hj:i=j
    ·subst hj
     rw [az hil] at e;exact absurd (bu e).symm (hs d')
    ·rw [ag hj] at e;exact ⟨e,hj⟩
   obtain ⟨b,u,q1,q2,q3,q4,q5,q6⟩:=f'.lk i d' hl
   simp only [if_pos rfl] at q2
   cases q2
   have ne:∀ (j:Nat) (e:D),ρ'[j]?=some (Sl.own e)->σ'[j]?≠some (some (V.ref a)):=fun j e h z=>by
    obtain ⟨b,u,p1,_,_,_,_,p6⟩:=own j e h
    rw [z] at p1
    cases p1
    rw [q5] at p6;cases p6
   refine ⟨st,by simp [f'.len],fun j e h=>?_,fun j e h=>?_,fun j e h=>?_,fun j k d1 d2 c h1 h2 h3 h4=>?_,f.lh,fun j e h=>?_,fun j k d1 d2 h1 h2=>?_⟩
   ·obtain ⟨h,_⟩:=nx (fun _ z=>by cases z) h
    exact f'.sh j e h
   ·by_cases hj:i=j
    ·subst hj
     rw [az hil] at h
     cases h
     exact ⟨a,u,q1,q3,q4,k4,q6⟩
    ·rw [ag hj] at h
     obtain ⟨b,u,p1,p2,p3,p4,p5,_⟩:=own j e h
     exact ⟨b,u,p1,p2,p3,p4,p5⟩
   ·obtain ⟨h,hj⟩:=nx (fun _ z=>by cases z) h
    exact lck j e (cW hj) h
   ·by_cases hj:i=j
    ·by_cases hk:i=k
     ·exact hj.symm.trans hk
     ·rw [ag hk] at h2
      subst hj
      rw [q1] at h3
      cases h3
      exact (ne k d2 h2 h4).elim
    ·rw [ag hj] at h1
     by_cases hk:i=k
     ·subst hk
      rw [q1] at h4
      cases h4
      exact (ne j d1 h1 h3).elim
     ·rw [ag hk] at h2
      exact f'.dj j k d1 d2 c h1 h2 h3 h4
   ·obtain ⟨h,hj⟩:=nx (fun _ z=>by cases z) h
    obtain ⟨b,as,O⟩:=two j e h
    refine ⟨b,as,O.at_,O.ob,O.nd,O.out,fun c hc k e' hk=>?_,O.inn⟩
    by_cases nk:i=k
    ·subst nk
     intro z
     rw [q1] at z
     cases z
     obtain ⟨b',as',O'⟩:=f'.o2 j e h
     have hh:=O.at_
     rw [O'.at_] at hh
     cases hh
     have hs:as'=as:=by
      have h1:=O.ob
      rw [O'.ob] at h1
      injection h1 with h1
      injection h1 with h1
      exact JA (fun x y z=>by cases z;rfl) |>.mp h1
     subst hs
     have:=(O'.out _ hc).2
     rw [q5] at this;cases this
    ·rw [ag nk] at hk
     exact O.dj c hc k e' hk
   ·exact f'.u2 j k d1 d2 (nx (fun _ z=>by cases z) h1).1 (nx (fun _ z=>by cases z) h2).1
end
section
variable {c:C}{e a b iter tg:aV}{g ga gb:ap->R D}{pos p:Pos}{gi:ap->R (List D)}{body:List cC}{x:Str}{kt:D->ap->R ap}{gbd:ap->R Fl}
def nq (gi:ap->R (List D)) (kt:D->ap->R ap) (gb:ap->R Fl):ap->R Fl:=fun ρ=>match gi ρ with
 | .ok ds=>gx kt gb ds ρ
 | _=>.no
theorem kK (hc:c.X.calm=true) (hi:Gw c.nox tg iter gi) (hg:JG c.nox tg kt) (hb:Gv c.nox body gbd) (hs:∀ x,ed iter c.X.env x=pure x:=by intro _;rfl):JS c (.For tg iter body [] pos) (nq gi kt gbd):=.of fun ρ=>by
 refine Lb (yS (Kd uW hc (hi ρ) (g:=fun v σ H Q=>∃ ρ d,Ra c.X.K ρ d (kt d ρ) v σ H Q) (tb:=fun D σ H=>∃ ρ,SR c.X.K c.cls E0 ρ (gbd ρ) D σ H) ?_ ?_ hs) fun D σ H ⟨H0,Hs0,la,Hs,f,q⟩=>?_)
 ·exact fun pins s σ H v u Q I r h_0=>by obtain ⟨ρ,d,q⟩:=h_0;exact hg ρ d pins s σ H v u Q I r q
 ·exact fun pins s σ H D I h_1=>by obtain ⟨ρ,q⟩:=h_1;exact hb ρ pins s σ H D I q
 ·refine ⟨H0,Hs0,la,Hs,f,?_⟩
  unfold nq at q
  cases hr:gi ρ with
  | no=>rw [hr] at q;exact q
  | ex x n=>rw [hr] at q;exact q.elim
  | ok ds =>
   rw [hr] at q
   intro J H1 Hs1 s1 it
   have f1:=f.step s1
   exact Lc (E:=c.E) (cls:=c.cls) (kt:=kt) (gb:=gbd) (tg:=fun v σ H Q=>∃ ρ d,Ra c.X.K ρ d (kt d ρ) v σ H Q) (tb:=fun D σ H=>∃ ρ,SR c.X.K c.cls E0 ρ (gbd ρ) D σ H) it (Ld f1.st.all f1.st.sub) f1.into (fun ρ d v σ H Q h=>⟨ρ,d,h⟩) (fun ρ D σ H h=>⟨ρ,h⟩) (mR.into f1 q)
def vQ (i:Nat) (kt:D->ap->R ap) (gb:ap->R Fl):ap->R Fl:=fun ρ=>match ρ[i]? with
 | some (Sl.own (.list ds))=>VX i ρ (gx kt gb ds (Ba i ρ))
 | _=>nq (jX fun ρ=>Ek ρ i) kt gb ρ
theorem xE {kt:D->ap->R ap}{gb:ap->R Fl}:∀ (ds:List D) (ρ:ap) (fl:Fl),gx kt gb ds ρ=.ok fl->(∃ ρ',fl=.nx ρ')\/∃ d,fl=.rt d
 | [],ρ,fl,h=>by cases h;exact .inl ⟨_,rfl⟩
 | d::r,ρ,fl,h=>by
  unfold gx at h
  split at h
  ·split at h
   ·exact xE r _ _ h
   ·exact xE r _ _ h
   ·cases h;exact .inl ⟨_,rfl⟩
   ·cases h;exact .inr ⟨_,rfl⟩
   ·cases h
  ·cases h
theorem Bb {kt:D->ap->R ap}{gb:ap->R Fl}:∀ (ds:List D) (ρ:ap) (c:Str) (n:Option D),gx kt gb ds ρ≠.ex c n
 | [],ρ,c,n,h=>by cases h
 | d::r,ρ,c,n,h=>by
  unfold gx at h
  split at h
  ·split at h
   ·exact Bb r _ _ _ h
   ·exact Bb r _ _ _ h
   ·cases h
   ·cases h
   ·cases h
  ·cases h
theorem GB (i:Nat) (hc:c.X.calm=true) (hg:JG c.nox tg kt) (hb:Gv c.nox body gbd) (hN:c.X.N[i]?=some x:=by rfl) (hv:JF c.X.env.scope x:=by first | exact fB rfl | exact c_ (fB rfl) | exact c_ (c_ rfl)) (hd:(x == ("__debug__" : Str))=false:=by decide)
  (hcd:(x == ("__classdict__" : Str))=false:=by decide) (hs:∀ y,ed (.Name x p) c.X.env y=pure y:=by intro _;rfl):JS c (.For tg (.Name x p) body [] pos) (vQ i kt gbd):=.of fun ρ=>by
 by_cases ho:∃ ds,ρ[i]?=some (Sl.own (.list ds))
 ·obtain ⟨ds,ho⟩:=ho
  refine Lb (yS (Kd (tg:=tg) uW hc (tU (X:=c.nox.X) (mJ hN hv hd hcd)) (g:=fun v σ H Q=>∃ ρ d,Ra c.X.K ρ d (kt d ρ) v σ H Q) (tb:=fun D σ H=>∃ ρ,SR c.X.K c.cls E0 ρ (gbd ρ) D σ H) ?_ ?_ hs) fun D σ H ⟨H0,Hs0,la,Hs,f,q⟩=>?_)
  ·exact fun pins s σ H v u Q I r h_2=>by obtain ⟨ρ,d,q⟩:=h_2;exact hg ρ d pins s σ H v u Q I r q
  ·exact fun pins s σ H D I h_3=>by obtain ⟨ρ,q⟩:=h_3;exact hb ρ pins s σ H D I q
  ·obtain ⟨a,o,k1,k2,k3,k4,k5⟩:=f.ow i _ ho
   cases k5 with
   | @lst vs _ r =>
    refine ⟨_,k1,a,rfl,⟨_,.of k2⟩,?_⟩
    have hn:lU c.X.K (upd Hs a (.lst vs)) a vs:=.of bq
    unfold vQ at q
    simp only [ho] at q
    have fl:=f.lock ho k1 k2 k3 k4 (.lst r)
    have sub:cZ (upd Hs a (.lst vs)) H:=fun b u q=>by
     by_cases hb:b=a
     ·subst hb;rw [bq] at q;cases q;exact k2
     ·rw [bj hb] at q;exact f.st.sub b u q
    refine Lc (E:=c.E) (cls:=c.cls) (kt:=kt) (gb:=gbd) (ρ:=Ba i ρ) (Hs:=Hs) (la:=fun i'=>if i'=i then some a else la i') (tg:=fun v σ H Q=>∃ ρ d,Ra c.X.K ρ d (kt d ρ) v σ H Q) (tb:=fun D σ H=>∃ ρ,SR c.X.K c.cls E0 ρ (gbd ρ) D σ H) (B7 hn r) (Ld f.st.all sub) ?_ (fun ρ d v σ H Q h=>⟨ρ,d,h⟩) (fun ρ D σ H h=>⟨ρ,h⟩) ?_
    ·unfold Ba
     rw [ho]
     exact fl
    ·cases hr:gx kt gbd ds (Ba i ρ) with
     | no=>rw [hr] at q;exact q
     | ex c n=>exact (Bb _ _ _ _ hr).elim
     | ok fl =>
      rw [hr] at q
      rcases xE _ _ _ hr with ⟨ρ',rfl⟩ | ⟨d,rfl⟩
      ·exact fun σ' H' Hs' f'=>q σ' H' Hs' (f.unlock ho k4 f')
      ·exact fun v H' Hs' s r=>q v H' Hs' (f.st.unlock s) r
 ·have e:vQ i kt gbd ρ=nq (jX fun ρ=>Ek ρ i) kt gbd ρ:=by
   unfold vQ
   split
   ·rename_i ds h;exact (ho ⟨ds,h⟩).elim
   ·rfl
  rw [e]
  exact kK hc (B8 (c:=c.nox) (ai (c:=c.nox) i hN hv hd hcd)) hg hb hs ρ
def mS (t:ap->R Bool) (b:ap->R Fl):Nat->ap->R Fl
 | 0,_=>.no
 | n + 1,ρ=>match t ρ with
  | .ok true=>match b ρ with
   | .ok (.nx ρ')=>mS t b n ρ'
   | .ok (.ct ρ')=>mS t b n ρ'
   | .ok (.bk ρ')=>.ok (.nx ρ')
   | .ok (.rt d)=>.ok (.rt d)
   | _=>.no
  | .ok false=>.ok (.nx ρ)
  | _=>.no
theorem Le (n:Nat) {t:aV}{gt:ap->R Bool} (ht:JT c.nox t gt) (hb:Gv c.nox body gbd):JS c (.While t body [] pos) (mS gt gbd n):=.of fun ρ=>by
 refine Lb (yS (Ka uW (tc:=fun σ H Q=>∃ ρ,Iv c.X.K c.cls E0 ρ (gt ρ) σ H Q) (tb:=fun D σ H=>∃ ρ,SR c.X.K c.cls E0 ρ (gbd ρ) D σ H) ?_ ?_) fun D σ H ⟨H0,Hs0,la,Hs,f,q⟩=>?_)
 ·exact fun pins s σ H Q I h_4=>by obtain ⟨ρ,q⟩:=h_4;exact ht ρ pins s σ H Q I q
 ·exact fun pins s σ H D I h_5=>by obtain ⟨ρ,q⟩:=h_5;exact hb ρ pins s σ H D I q
 ·refine ⟨fun m σ H=>∃ ρ Hs,Fr c.X.K H0 Hs0 la ρ σ H Hs/\mR c.X.K c.cls c.E H0 Hs0 la D (mS gt gbd m ρ),⟨n,ρ,Hs,f,q⟩,?_⟩
  rintro m σ H ⟨ρ,Hs,f,q⟩
  cases m with
  | zero=>exact q.elim
  | succ m =>
   unfold mS at q
   refine ⟨ρ,H0,Hs0,la,Hs,f,?_⟩
   cases hg:gt ρ with
   | no=>rw [hg] at q;exact q
   | ex x n=>rw [hg] at q;exact q.elim
   | ok b =>
    rw [hg] at q
    intro H1 Hs1 s1
    cases b with
    | false=>exact Cd (q σ H1 Hs1 (f.step s1))
    | true =>
     refine Ce ⟨fun σ' H'=>∃ ρ' Hs',Fr c.X.K H0 Hs0 la ρ' σ' H' Hs'/\mR c.X.K c.cls c.E H0 Hs0 la D (mS gt gbd m ρ'),fun σ' H' h=>⟨m,dI _,h⟩,ρ,H0,Hs0,la,Hs1,f.step s1,?_⟩
     cases hb':gbd ρ with
     | no=>simp only [hb'] at q;exact q
     | ex x n=>simp only [hb'] at q;exact q.elim
     | ok fl =>
      simp only [hb'] at q
      cases fl with
      | nx ρ'=>exact fun σ' H' Hs' f'=>⟨ρ',Hs',f',q⟩
      | ct ρ'=>exact fun σ' H' Hs' f'=>⟨ρ',Hs',f',q⟩
      | bk ρ'=>exact fun σ' H' Hs' f'=>q σ' H' Hs' f'
      | rt d=>exact q
end
end
section
section
variable {c:C}{e k:aV}{g gk:ap->R D}{pos p apos cpos:Pos}{x:Str}
def qg (i:Nat) (g:ap->R D):ap->R Fl:=fun ρ=>match ρ[i]? with
 | some (Sl.own (.list ds))=>(g ρ).bind fun d=>if ds.length<1000 then .ok (.nx (ρ.set i (.own (.list (ds++[d]))))) else .no
 | _=>.no
theorem nr (i:Nat) (h:JE c e g) (hN:c.X.N[i]?=some x:=by rfl) (hv:JF c.X.env.scope x:=by first | exact fB rfl | exact c_ (fB rfl) | exact c_ (c_ rfl)) (hd:(x == ("__debug__" : Str))=false:=by decide)
  (hcd:(x == ("__classdict__" : Str))=false:=by decide)
  (hbase:lR (.Name x p) "append" c.X.env (cR (.Name x p) c.X.env)=cR (.Name x p) c.X.env:=by rfl)
  (hfew:((eT cpos (aw [e] c.X.env)).all (fun x=>!x.1) && (yX cpos (pq [] c.X.env)).all (fun x=>x.1.isSome)
   && decide ([e].length + ([] : List kA).length + (if ([] : List kA).isEmpty then 0 else 1)<30))=true:=by rfl)
  (hline:(apos.endLine == cpos.line)=true:=by rfl) (hst:aw [e] c.X.env=(false,cR e c.X.env)::aw [] c.X.env:=by rfl) (hplain:(eT cpos (aw [] c.X.env)).any (·.1)=false:=by rfl)
  (hs:fQ (.Call (.Attribute (.Name x p) "append" apos) [e] [] cpos) none pos.line c.X.env=pure false:=by rfl) :
  JS c (.Expr (.Call (.Attribute (.Name x p) "append" apos) [e] [] cpos) pos) (qg i g):=.of fun ρ=>by
 refine yS (tT (Cb gn iE iF qK (mJ hN hv hd hcd) (eV (h ρ) gq hst) hbase hfew hline hst hplain) hs) fun D σ H h_0=>?_
 obtain ⟨H0,Hs0,la,Hs,f,q⟩:=h_0
 replace q:mR c.X.K c.cls c.E H0 Hs0 la D (qg i g ρ):=q
 unfold qg at q
 split at q
 ·rename_i ds ho
  obtain ⟨a,o,k1,k2,k3,k4,k5⟩:=f.ow i _ ho
  cases k5 with
  | @lst vs _ r =>
   refine ⟨_,k1,.inl ⟨rfl,_,.of k2⟩,?_⟩
   refine sE f q fun d v H1 Hs1 e1 s1 f1 r1=>?_
   rw [e1,bind_ok] at q
   by_cases hl:ds.length<1000
   ·rw [if_pos hl] at q
    have r':=r.same s1.sh
    exact ⟨a,vs,v,rfl,rfl,s1.all _ _ k2,df (by rw [r.length];omega),q _ _ Hs1 (f1.write i ho k1 (.lst (r'.append (.cons r1 .nil))))⟩
   ·rw [if_neg hl] at q;exact q.elim
 ·exact q.elim
def ud:D->Option fi
 | .int i=>some (.inl i)
 | .str x=>some (.inr x)
 | _=>none
theorem CO {d:D}{y:fi} (h:ud d=some y):d=kD y:=by
 cases d<;>cases h<;>rfl
def Fe (kvs:List (D×D)) (k d:D):List (D×D):=if kvs.any (fun kv=>bn kv.1 k) then kvs.map (fun kv=>if bn kv.1 k then (kv.1,d) else kv) else kvs++[(k,d)]
theorem Ff (a b:fi):bn (kD a) (kD b)=decide (a=b):=by
 cases a<;>cases b<;>simp [kD,bn,qF]
theorem RDk.any {K:a6}{H:Hp}{kvs:List (fi×V)} (y:fi):∀ {ds:List (D×D)},RDk K H kvs ds->(ds.any fun kv=>bn kv.1 (kD y))=kvs.any fun kv=>decide (kv.1=y):=by
 induction kvs with
 | nil=>intro ds h;cases h;rfl
 | cons x r ih=>intro ds h;cases h with | cons h t=>rw [fm,fm,ih t,Ff]
theorem RDk.repl {K:a6}{H:Hp} (y:fi) {v:V}{d:D} (rv:RD K H v d):∀ {kvs:List (fi×V)}{ds:List (D×D)},RDk K H kvs ds ->
  RDk K H (kvs.map fun kv=>if kv.1=y then (kv.1,v) else kv) (ds.map fun kv=>if bn kv.1 (kD y) then (kv.1,d) else kv)
 | _,_,.nil=>.nil
 | _,_,.cons (k:=k) h t=>by
  rw [aO,aO]
  have e:=Ff k y
  by_cases hk:k=y
  ·subst hk
   rw [show (if k=k then (k,v) else (k,_))=(k,v) from if_pos rfl,show (if bn (kD k) (kD k)=true then (kD k,d) else (kD k,_))=(kD k,d) from if_pos (by rw [e];simp)]
   exact .cons rv (RDk.repl k rv t)
  ·simp only [e,hk,if_neg,decide_false,bM,not_false_eq_true]
   exact .cons h (RDk.repl y rv t)
theorem RDk.snoc {K:a6}{H:Hp} (y:fi) {v:V}{d:D} (rv:RD K H v d):∀ {kvs:List (fi×V)}{ds:List (D×D)},RDk K H kvs ds->RDk K H (kvs++[(y,v)]) (ds++[(kD y,d)])
 | _,_,.nil=>.cons rv .nil
 | _,_,.cons h t=>.cons h (RDk.snoc y rv t)
theorem RDk.put {K:a6}{H:Hp}{kvs:List (fi×V)}{ds:List (D×D)} (r:RDk K H kvs ds) (y:fi) {v:V}{d:D} (rv:RD K H v d):RDk K H (u_ kvs y v) (Fe ds (kD y) d):=by
 unfold u_ Fe
 rw [r.any y]
 split
 ·exact r.repl y rv
 ·exact r.snoc y rv
def gP (kvs:List (D×D)):Bool:=kvs.all fun kv=>(ud kv.1).isSome
def Bc (i:Nat) (gk g:ap->R D):ap->R Fl:=fun ρ=>match ρ[i]? with
 | some (Sl.own (.dict kvs))=>(g ρ).bind fun d=>(gk ρ).bind fun k=>match ud k with
  | some _=>if kvs.length<1000/\gP kvs=true then .ok (.nx (ρ.set i (.own (.dict (Fe kvs k d))))) else .no
  | none=>.no
 | _=>.no
theorem Lf {K:a6}{H:Hp}{v:V}{y:fi} (h:RD K H v (kD y)):v=kV y:=by
 cases y<;>cases h<;>rfl
theorem RDt.flat {K:a6}{H:Hp}{kvs:List (List fi×V)}{ds:List (D×D)} (h:RDt K H kvs ds) (f:gP ds=true):kvs=[]/\ds=[]:=by
 cases h with
 | nil=>exact ⟨rfl,rfl⟩
 | cons h t=>simp [gP,tD,ud] at f
theorem GC (i:Nat) (h:JE c e g) (hk:JE c k gk) (hu:c.X.A.units + 1<tm) (hN:c.X.N[i]?=some x:=by rfl) (hv:JF c.X.env.scope x:=by first | exact fB rfl | exact c_ (fB rfl) | exact c_ (c_ rfl)) (hd:(x == ("__debug__" : Str))=false:=by decide)
  (hcd:(x == ("__classdict__" : Str))=false:=by decide) (hs:fQ e (some (.Subscript (.Name x p) k apos)) pos.line c.X.env=pure false:=by rfl):JS c (.Assign [.Subscript (.Name x p) k apos] e pos) (Bc i gk g):=.of fun ρ=>by
 refine yS (O4 hu (mJ hN hv hd hcd) (hk ρ) (h ρ) hs) fun D σ H h_1=>?_
 obtain ⟨H0,Hs0,la,Hs,f,q⟩:=h_1
 replace q:mR c.X.K c.cls c.E H0 Hs0 la D (Bc i gk g ρ):=q
 unfold Bc at q
 split at q
 ·rename_i kvs ho
  obtain ⟨a,o,k1,k2,k3,k4,k5⟩:=f.ow i _ ho
  have main:∀ {H:Hp}{vs:List (fi×V)},Fr c.X.K H0 Hs0 la ρ σ H Hs->H a=some (.dK vs)->RDk c.X.K Hs vs kvs->Ps (RW i) (TR c.X.K c.cls c.E ρ (gk ρ)) (TR c.X.K c.cls c.E ρ (g ρ)) D σ H:=fun {H vs} f k2 r=>by
   refine sE f q fun d v H1 Hs1 e1 s1 f1 r1=>?_
   rw [e1,bind_ok] at q
   refine ⟨_,k1,sE f1 q fun y w H2 Hs2 e2 s2 f2 r2=>?_⟩
   rw [e2,bind_ok] at q
   split at q
   ·rename_i ky hy
    obtain rfl:=CO hy
    by_cases hl:kvs.length<1000/\gP kvs=true
    ·rw [if_pos hl] at q
     have ha:=s2.all _ _ (s1.all _ _ k2)
     have r':=(r.same s1.sh).same s2.sh
     rw [Lf r2]
     exact ⟨a,_,rfl,Kp.k ha (df (by rw [r.length];omega)),q _ _ Hs2 (f2.write i ho k1 (.dK (r'.put ky (r1.same s2.sh))))⟩
    ·rw [if_neg hl] at q;exact q.elim
   ·exact q.elim
  cases k5 with
  | dK r=>exact main f k2 r
  | dT n r =>
   refine sE f q fun d v H1 Hs1 e1 s1 f1 r1=>?_
   rw [e1,bind_ok] at q
   refine ⟨_,k1,sE f1 q fun y w H2 Hs2 e2 s2 f2 r2=>?_⟩
   rw [e2,bind_ok] at q
   split at q
   ·rw [if_neg (fun z=>n (r.flat z.2).1)] at q;exact q.elim
   ·exact q.elim
  | dF n r =>
   refine sE f q fun d v H1 Hs1 e1 s1 f1 r1=>?_
   rw [e1,bind_ok] at q
   refine ⟨_,k1,sE f1 q fun y w H2 Hs2 e2 s2 f2 r2=>?_⟩
   rw [e2,bind_ok] at q
   split at q
   ·rw [if_neg (fun z=>by cases z.2)] at q;exact q.elim
   ·exact q.elim
 ·exact q.elim
def xF (kvs:List (D×D)) (k:D):Option D:=(kvs.find? fun kv=>bn kv.1 k).map (·.2)
theorem RDk.val {K:a6}{H:Hp}:∀ {kvs:List (fi×V)}{ds:List (D×D)},RDk K H kvs ds->∀ (y:fi),(tZ kvs y=none/\xF ds (kD y)=none)\/∃ v d,tZ kvs y=some v/\xF ds (kD y)=some d/\RD K H v d
 | _,_,.nil,y=>.inl ⟨rfl,rfl⟩
 | _,_,.cons (k:=k) h t,y=>by
  unfold tZ xF
  rw [dB,dB,Ff]
  by_cases hk:k=y
  ·simp only [hk,decide_true,dw]
   exact .inr ⟨_,_,rfl,rfl,h⟩
  ·simp only [hk,decide_false]
   exact RDk.val t y
def b9:D->D->R D
 | .dict kvs,k=>match ud k with
  | some _=>if gP kvs=true then (match xF kvs k with
   | some d=>.ok d
   | none=>.no) else .no
  | none=>.no
 | x,k=>CH x k
variable {a b:aV}{ga gb:ap->R D}
theorem cb (hu:c.X.A.units + 1<tm) (ha:JB c a ga) (hb:JB c b gb) (hs:wM b:=by exact fun _ _=>rfl):JE c (.Subscript a b pos) (g2 ga gb b9):=.of fun ρ=>by
 by_cases hx:∃ kvs,ga ρ=.ok (.dict kvs)
 ·obtain ⟨kvs,hx⟩:=hx
  refine rN (O3 hu (ha ρ) (hb ρ) hs) fun σ H Q h_2=>?_
  obtain ⟨H0,Hs0,la,Hs,f,q⟩:=h_2
  refine one f q fun d v H1 Hs1 e1 s1 f1 r1=>?_
  rw [hx] at e1
  cases e1
  unfold g2 at q
  rw [hx,bind_ok] at q
  refine one f1 (q.on s1 (q':=fun _=>True) fun _ _=>trivial) fun y w H2 Hs2 e2 s2 f2 r2=>?_
  rw [e2,bind_ok] at q
  unfold b9 at q
  simp only at q
  split at q
  ·rename_i ky hy
   obtain rfl:=CO hy
   by_cases hf:gP kvs=true
   ·rw [if_pos hf] at q
    obtain ⟨p,rfl,h⟩:=(r1.step s2).dict f2.st.sub
    have rk:w=kV ky:=by
     rcases r2 with r2 | ⟨_,o,rfl,_,_,ow⟩
     ·exact Lf r2
     ·cases ky<;>cases ow
    subst rk
    rcases h with ⟨vs,h1,h2⟩ | ⟨vs,h1,hn,h2⟩ | ⟨o,vs,es,rfl,h1,hn,h2⟩
    ·rcases h2.val ky with ⟨_,h3⟩ | ⟨u,d,h3,h4,h5⟩
     ·rw [h3] at q;exact q.elim
     ·rw [h4] at q
      exact ⟨p,u,rfl,by rw [<- h3];exact ET.k h1,q _ H2 Hs2 (s1.trans s2) h5⟩
    ·exact (hn (h2.flat hf).1).elim
    ·cases hf
   ·rw [if_neg hf] at q;exact q.elim
  ·exact q.elim
 ·refine rN (SJ ha hb hs ρ) fun σ H Q q=>?_
  have e:g2 ga gb b9 ρ=g2 ga gb CH ρ:=by
   unfold g2
   cases hr:ga ρ with
   | ok d =>
    cases d with
    | dict kvs=>exact (hx ⟨kvs,hr⟩).elim
    | _=>rfl
   | _=>rfl
  rw [e] at q
  exact q
def jY:D->R D
 | .dict kvs=>if gP kvs=true then .ok (.list (kvs.map (·.1))) else .no
 | x=>zU x
theorem CQ {K:a6}{H:Hp}:∀ {kvs:List (fi×V)}{ds:List (D×D)},RDk K H kvs ds->RDs K H (kvs.map fun p=>kV p.1) (ds.map (·.1))
 | _,_,.nil=>.nil
 | _,_,.cons (k:=k) h t=>.cons (by cases k<;>constructor) (CQ t)
theorem xG {X:Cx} (hc:X.calm=true):Iy X (.type "list") (gX jY):=by
 refine sr (fun d c n=>?_) fun pins s σ H x u Q Hs d d' I ru sub rx hd q=>?_
 ·unfold jY zU
  split<;>(try split)<;>(try split)<;>exact fun h=>by cases h
 ·by_cases hx:∃ kvs,d=.dict kvs
  ·obtain ⟨kvs,rfl⟩:=hx
   unfold jY at hd
   simp only at hd
   split at hd
   ·rename_i hf
    cases hd
    obtain ⟨a,rfl,⟨vs,h1,h2⟩ | ⟨vs,h1,n,h2⟩ | ⟨o,vs,es,rfl,h1,n,h2⟩⟩:=rx.dict sub
    ·exact xv hc pins s σ H _ _ Q I (.cons ru .nil) ⟨a,vs,rfl,h1,fun l hl=>q _ _ _ (.new sub hl) (.list (.of bq) ((CQ h2).same (cD.new sub hl).sh))⟩
    ·exact (n (h2.flat hf).1).elim
    ·cases hf
   ·cases hd
  ·have e:jY d=zU d:=by
    cases d with
    | dict kvs=>exact (hx ⟨kvs,rfl⟩).elim
    | _=>rfl
   rw [e] at hd
   exact (Oi (X:=X)).1 pins s σ H [x] [u] Q I (.cons ru .nil) ⟨Hs,[d],sub,.cons rx .nil,d',hd,q⟩
end
end
section
open PyProof.Rows (envOfC)
section
variable {c:C}{e a b d:aV}{g ga gb gc:ap->R D}{pos p cpos:Pos}{x:Str}
theorem Lg {K:a6}{cls:Str->ah}{E:XK}{h h':D->D->R D}{ρ:ap}{σ:St}{H:Hp}{Q:VK} (hx:∀ x y c n,h x y≠.ex c n) (hx':∀ x y c n,h' x y≠.ex c n) (q:TR K cls E ρ (q9 ga gb gc h h' ρ) σ H Q) :
  EM (rD K h) (rD K h') (TB K cls E ρ (ga ρ)) (TB K cls E ρ (gb ρ)) (TB K cls E ρ (gc ρ)) σ H Q:=by
 obtain ⟨H0,Hs0,la,Hs,f,q⟩:=q
 refine one f q fun x v H1 Hs1 e1 s1 f1 r1=>?_
 unfold q9 at q
 rw [e1,bind_ok] at q
 refine one f1 (q.on s1 (q':=fun _=>True) fun _ _=>trivial) fun y u H2 Hs2 e2 s2 f2 r2=>?_
 rw [e2,bind_ok] at q
 cases hr:h x y with
 | ex c n=>exact (hx x y c n hr).elim
 | no=>rw [hr] at q;exact q.elim
 | ok z =>
  rw [hr,bind_ok] at q
  refine ⟨Hs2,x,y,f2.st.sub,r1.step s2,r2,z,hr,fun w H3 Hs3 s3 r3=>?_⟩
  cases r3 with
  | bool k =>
   refine ⟨k,rfl,?_⟩
   have f3:=f2.step s3
   cases k with
   | false=>exact Cd (q _ H3 Hs3 (s1.trans (s2.trans s3)) (.bool _))
   | true =>
    refine Ce (one f3 (q.on (s1.trans (s2.trans s3)) (q':=fun _=>True) fun _ _=>trivial) fun t u' H4 Hs4 e4 s4 f4 r4=>?_)
    simp only [e4,bind_ok] at q
    cases hr':h' y t with
    | ex c n=>exact (hx' y t c n hr').elim
    | no=>rw [hr'] at q;exact q.elim
    | ok z' =>
     rw [hr'] at q
     exact ⟨Hs4,y,t,f4.st.sub,(r2.step s3).step s4,r4,z',hr',fun w H5 Hs5 s5 r5=>q w H5 Hs5 (s1.trans (s2.trans (s3.trans (s4.trans s5)))) r5⟩
  | none=>exact q.elim
  | int _=>exact q.elim
  | str _=>exact q.elim
  | list _ _=>exact q.elim
  | tuple _ _=>exact q.elim
  | dictK _ _=>exact q.elim
  | dictT _ _ _=>exact q.elim
  | dictF _ _ _=>exact q.elim
theorem CS {op op':wC}{h h':D->D->R D} (ho:wO c.X (bL op) h) (ho':wO c.X (bL op') h') (ha:JB c a ga) (hb:JB c b gb) (hc:JB c d gc) (hm:Jq [op,op'] [b,d]=false:=by with_unfolding_all rfl):JE c (.Compare a [op,op'] [b,d] pos) (q9 ga gb gc h h') :=
 .of fun ρ=>rN (Kf ho.1 ho'.1 (ha ρ) (hb ρ) (hc ρ) hm) fun σ H Q q=>Lg ho.2 ho'.2 q
theorem Lh {op op':wC}{h h':D->D->R D} (ho:wO c.X (bL op) h) (ho':wO c.X (bL op') h') (ha:JB c a ga) (hb:JB c b gb) (hc:JB c d gc) (hm:Jq [op,op'] [b,d]=false:=by with_unfolding_all rfl):JT c (.Compare a [op,op'] [b,d] pos) (fE (q9 ga gb gc h h')) :=
 .of fun ρ=>Ue (Kg ho.1 ho'.1 (ha ρ) (hb ρ) (hc ρ) hm) fun σ H Q q=>Lg ho.2 ho'.2 (SF q)
def Rc:D->R D
 | .int i=>.ok (.int (-i))
 | _=>.no
def vg (g:ap->R D):ap->R D:=fun ρ=>(g ρ).bind Rc
theorem Bd (h:JE c e g):JE c (.UnaryOp .USub e pos) (vg g):=.of fun ρ=>rN (S8 QJ (h ρ)) fun σ H Q h_0=>by
 obtain ⟨H0,Hs0,la,Hs,f,q⟩:=h_0
 refine A_ f q fun d v H1 Hs1 e1 s1 f1 r1=>?_
 unfold vg at q
 rw [e1,bind_ok] at q
 cases r1 with
 | int i=>exact ⟨i,rfl,q _ H1 Hs1 s1 (.int _)⟩
 | _=>exact q.elim
inductive SY (K:a6) (w:aY) (cls:Str->ah) (E:XK) (ρ:ap) (r:R (List Str)) (σ:St) (H:Hp) (Q:VK):Prop
 | mk (H0 Hs0:Hp) (la:Nat->Option ah) (Hs:Hp) (f:Fr K H0 Hs0 la ρ σ H Hs) (q:Fin K cls E H Hs r fun ss=>∀ p H' Hs',cD H Hs H' Hs'->H' p=none->Q (.ref p) (upd H' p (kS w p ss))):SY K w cls E ρ r σ H Q
def Uh (K:a6) (w:aY) (cls:Str->ah) (E:XK) (ρ:ap) (r:R (List Str)):TE:=SY K w cls E ρ r
structure Oo (c:C) (e:aV) (g:ap->R (List Str)):Prop where of ::
 run:∀ ρ,PE c.X e (Uh c.X.K c.X.w c.cls c.E ρ (g ρ))
instance {c:C}{e:aV}{g:ap->R (List Str)}:CoeFun (Oo c e g) (fun _=>∀ ρ,PE c.X e (Uh c.X.K c.X.w c.cls c.E ρ (g ρ))):=⟨Oo.run⟩
theorem GD {K:a6}{w:aY}{cls:Str->ah}{E:XK}{ρ:ap}{r:R (List Str)}{β:Type}{k:List Str->R β}{σ:St}{H:Hp}{H0 Hs0 Hs:Hp}{la:Nat->Option ah}{Q:V->Hp->Prop}{q:β->Prop} (f:Fr K H0 Hs0 la ρ σ H Hs)
  (h:Fin K cls E H Hs (r.bind k) q) (m:∀ ss p H' Hs',r=.ok ss->cD H Hs H' Hs'->Fr K H0 Hs0 la ρ σ H' Hs'->H' p=none->Q (.ref p) (upd H' p (kS w p ss))):Uh K w cls E ρ r σ H Q:=by
 refine ⟨H0,Hs0,la,Hs,f,?_⟩
 cases r with
 | ok d=>exact fun p H' Hs' s n=>m d p H' Hs' rfl s (f.step s) n
 | ex c n=>exact h
 | no=>exact h
variable {gset:ap->R (List Str)}
def su:D->R (List Str)
 | .list ds=>match gd ds with
  | some ss=>if ss.length<60 then .ok (cY [] ss) else .no
  | none=>.no
 | .tuple ds=>match gd ds with
  | some ss=>if ss.length<60 then .ok (cY [] ss) else .no
  | none=>.no
 | _=>.no
def o0 (g:ap->R D):ap->R (List Str):=fun ρ=>(g ρ).bind su
theorem Be (hc:c.X.calm=true) (h:JB c e g) (hg2:Gl c.X "set") (hm2:c.X.mg "set"=none) (he:aw [e] c.X.env=(false,cR e c.X.env)::aw [] c.X.env:=by rfl) :
  Oo c (.Call (.Name "set" p) [e] [] cpos) (o0 g):=.of fun ρ=>by
 refine rN (uZ (Ct hc) hg2 hm2 PyProof.Rows.boot_set (eV (h ρ) gq he) (he:=he)) fun σ H Q h_1=>?_
 obtain ⟨H0,Hs0,la,Hs,f,q⟩:=h_1
 refine one f q fun d v H1 Hs1 e1 s1 f1 r1=>?_
 unfold o0 at q
 rw [e1,bind_ok] at q
 unfold su at q
 split at q
 ·split at q
  ·rename_i ss hs
   by_cases hz:ss.length<60
   ·rw [if_pos hz] at q
    obtain ⟨a,vs,rfl,qa,ra⟩:=r1.list f1.st.sub
    rw [qd hs] at ra
    rw [nW ra] at qa
    exact ⟨a,ss,rfl,.inl qa,aJ (HK hz 1) (by decide),fun p hp=>q p H1 Hs1 s1 hp⟩
   ·rw [if_neg hz] at q;exact q.elim
  ·exact q.elim
 ·split at q
  ·rename_i ss hs
   by_cases hz:ss.length<60
   ·rw [if_pos hz] at q
    obtain ⟨a,vs,rfl,qa,ra,_⟩:=r1.tuple f1.st.sub
    rw [qd hs] at ra
    rw [nW ra] at qa
    exact ⟨a,ss,rfl,.inr qa,aJ (HK hz 1) (by decide),fun p hp=>q p H1 Hs1 s1 hp⟩
   ·rw [if_neg hz] at q;exact q.elim
  ·exact q.elim
 ·exact q.elim
def ko (g:ap->R (List Str)):ap->R D:=fun ρ=>(g ρ).bind fun ss=>if ss.length<64 then .ok (.list ((jj ss).map .str)) else .no
theorem sv (hc:c.X.calm=true) (h:Oo c e gset) (hg:Gl c.X "sorted") (hm:c.X.mg "sorted"=none) (he:aw [e] c.X.env=(false,cR e c.X.env)::aw [] c.X.env:=by rfl) :
  JE c (.Call (.Name "sorted" p) [e] [] cpos) (ko gset):=.of fun ρ=>by
 refine rN (pT (wt hc) hg hm vK (eV (h ρ) gq he) (he:=he)) fun σ H Q h_2=>?_
 obtain ⟨H0,Hs0,la,Hs,f,q⟩:=h_2
 dsimp only [L2.RN,L2.Gb,L2.NQ]
 refine GD (w:=c.X.w) f q fun ss p H1 Hs1 e1 s1 f1 n1=>?_
 unfold ko at q
 rw [e1,bind_ok] at q
 by_cases hz:ss.length<64
 ·rw [if_pos hz] at q
  have st1:cD H1 Hs1 (upd H1 p (kS c.X.w p ss)) Hs1:=.mine f1.st.sub n1
  exact ⟨p,ss,rfl,bq,hz,fun l hl=>q _ _ _ (s1.trans (st1.trans (.new st1.sub hl))) (.list (.of bq) (xx _))⟩
 ·rw [if_neg hz] at q;exact q.elim
def ue (g:ap->R (List Str)):ap->R D:=fun ρ=>(g ρ).bind fun ss=>.ok (.int ss.length)
theorem ID (h:Oo c e gset) (hg:Gl c.X "len") (hm:c.X.mg "len"=none) (he:aw [e] c.X.env=(false,cR e c.X.env)::aw [] c.X.env:=by rfl) :
  JE c (.Call (.Name "len" p) [e] [] cpos) (ue gset):=.of fun ρ=>by
 refine rN (pT zg hg hm bx (eV (h ρ) gq he) (he:=he)) fun σ H Q h_3=>?_
 obtain ⟨H0,Hs0,la,Hs,f,q⟩:=h_3
 dsimp only [L2.RN,L2.Gb,L2.NQ]
 refine GD (w:=c.X.w) f q fun ss p H1 Hs1 e1 s1 f1 n1=>?_
 unfold ue at q
 rw [e1,bind_ok] at q
 have st1:cD H1 Hs1 (upd H1 p (kS c.X.w p ss)) Hs1:=.mine f1.st.sub n1
 exact ⟨p,ss,rfl,bq,q _ _ _ (s1.trans st1) (.int _)⟩
variable {elt iter tg:aV}{ifs:List aV}{scope:e7}{N':List Str}{nt:Nat}{ix:List Nat}{gi:ap->R (List D)}{gt:ap->R Bool}{ge:ap->R D}
def vh (nt:Nat) (ix:List Nat) (gi:ap->R (List D)) (gt:ap->R Bool) (ge:ap->R D):ap->R (List Str):=fun ρ=>(gi ρ).bind fun ds=>if ds.length<=60 then (gG (ir nt (nl nt ix ρ) gt ge) ds).bind fun ys=>match gd ys with
 | some ss=>.ok (cY [] ss)
 | none=>.no else .no
theorem zj {ys:List D}{xs:List D}:∀ {ss:List Str},gd (xs++ys)=some ss->∃ s1 s2,gd xs=some s1/\gd ys=some s2/\ss=s1++s2:=by
 induction xs with
 | nil=>intro ss h;exact ⟨[],ss,rfl,h,rfl⟩
 | cons d r ih =>
  intro ss h
  cases d with
  | str b =>
   have h:(gd (r++ys)).map (b::·)=some ss:=h
   cases hr:gd (r++ys) with
   | none=>rw [hr] at h;cases h
   | some z =>
    rw [hr] at h
    cases h
    obtain ⟨s1,s2,h1,h2,rfl⟩:=ih hr
    exact ⟨b::s1,s2,by show (gd r).map (b::·)=_;rw [h1];rfl,h2,rfl⟩
  | _=>cases h
theorem xH (z:Str):∀ (l acc:List Str),cY acc (l++[z])=if z∈cY acc l then cY acc l else cY acc l++[z]
 | [],acc=>rfl
 | x::l,acc=>by
  show cY _ (l++[z])=_
  rw [xH z l]
  rfl
inductive VL (f:D->R (Option D)) (ds:List D) (ss:List Str) (H1 Hs1:Hp) (i m:Nat) (acc:List Str) (H':Hp):Prop
 | mk (done bY zs sa sz Hs':_) (h0:ds=done++bY) (h1:done.length=i) (h2:bY.length=m) (h3:cD H1 Hs1 H' Hs') (h4:acc=cY [] sa) (h5:sa.length<=i) (h6:gG f bY=.ok zs) (h7:gd zs=some sz) (h8:ss=sa++sz):VL f ds ss H1 Hs1 i m acc H'
theorem Op {K:a6}{w:aY}{cls:Str->ah}{E:XK}{ρ:ap}{σ:St}{H:Hp}{Q:VK} (hnt:nt=1\/nt=2)
  (q:Uh K w cls E ρ (vh nt ix gi gt ge ρ) σ H Q) :
  KP w nt ix (Uf K cls E ρ (gi ρ)) (IC K nt) (fun σ H Q=>∃ ρ',Iv K cls E0 ρ' (gt ρ') σ H Q) (fun σ H Q=>∃ ρ',TR K cls E0 ρ' (ge ρ') σ H Q) σ H Q:=by
 obtain ⟨H0,Hs0,la,Hs,f,q⟩:=q
 refine ⟨H0,Hs0,la,Hs,f,?_⟩
 unfold vh at q
 cases hi:gi ρ with
 | no=>rw [hi] at q;exact q
 | ex x n=>rw [hi] at q;exact q
 | ok ds =>
  rw [hi,bind_ok] at q
  intro J H1 Hs1 Hn s1 sn it
  by_cases hl:ds.length<=60
  ·rw [if_pos hl] at q
   cases hm:gG (ir nt (nl nt ix ρ) gt ge) ds with
   | no=>rw [hm] at q;exact q.elim
   | ex x n=>exact (xC (CM _ _ _ _) _ _ _ hm).elim
   | ok ys =>
    rw [hm,bind_ok] at q
    cases hs:gd ys with
    | none=>rw [hs] at q;exact q.elim
    | some ss =>
     rw [hs] at q
     obtain ⟨lb,fb⟩:=(f.step s1).block nt ix
     refine ⟨VL (ir nt (nl nt ix ρ) gt ge) ds ss H1 Hs1,
      ⟨ds.length,[],ds,ys,[],ss,Hs1,rfl,rfl,rfl,.refl s1.sub,rfl,cn _,hm,hs,rfl⟩,?_⟩
     rintro i m acc H' ⟨done,bY,zs,sa,sz,Hs',hds,hdl,hrl,st,rfl,yl,hz,hzs,hy⟩
     obtain ⟨igo,istop,iyld⟩:=it H' Hs' (sn.trans st.all) st.sh st.sub
     cases bY with
     | nil =>
      left
      cases hz
      cases hzs
      rw [cA] at hds hy
      subst hy hds
      exact ⟨istop i (by omega),fun p hp=>q p H' Hs' (s1.trans st) hp⟩
     | cons d bY =>
      right
      have hil:i<ds.length:=by rw [hds,aH,aW];omega
      have hol:=eX sa []
      simp at hol
      refine ⟨igo i hil,uP (show (cY [] sa).length + 1<=61 by omega) (by decide),fun x H2 hyl=>?_⟩
      obtain ⟨d',Hs2,hd,s2,r2⟩:=iyld i x H2 hil hyl
      have hdd:d'=d:=by
       rw [hds,aU (by omega)] at hd
       simp [hdl] at hd
       exact hd.symm
      subst hdd
      obtain ⟨o,zs',hf,hz',rfl⟩:=xB hz
      have hf:=Gz hf
      obtain ⟨so,sz',hso,hsz,rfl⟩:=zj hzs
      cases hb:SW nt d' (nl nt ix ρ) with
      | no=>rw [hb] at hf;cases hf
      | ex x n=>rw [hb] at hf;cases hf
      | ok ρ' =>
       rw [hb,bind_ok] at hf
       refine CL hnt ((fb.step st).step s2) r2 hb fun σ2 f2=>⟨ρ',?_⟩
       refine ⟨_,_,_,Hs2,f2,?_⟩
       cases ht:gt ρ' with
       | no=>rw [ht] at hf;cases hf
       | ex x n=>rw [ht] at hf;cases hf
       | ok b =>
        rw [ht,bind_ok] at hf
        intro H3 Hs3 s3
        cases b with
        | false =>
         rw [if_neg a_] at hf
         cases hf
         cases hso
         refine Cd ⟨bY.length,by rw [<- hrl];simp,done++[d'],bY,zs',sa,sz',Hs3,by rw [hds];simp,by simp [hdl],rfl,(st.trans s2).trans s3,rfl,by omega,hz',hsz,by simpa using hy⟩
        | true =>
         rw [if_pos rfl] at hf
         refine Ce ⟨ρ',_,_,_,Hs3,f2.step s3,?_⟩
         cases he:ge ρ' with
         | no=>rw [he] at hf;cases hf
         | ex x n=>rw [he] at hf;cases hf
         | ok y =>
          rw [he,bind_ok] at hf
          cases hf
          intro v H4 Hs4 s4 r4
          cases r4 with
          | str z =>
           cases hso
           exact ⟨z,bY.length,rfl,by rw [<- hrl];simp,done++[d'],bY,zs',sa++[z],sz',Hs4,by rw [hds];simp,by simp [hdl],rfl,((st.trans s2).trans s3).trans s4,(xH z sa []).symm,by simp;omega,hz',hsz,by rw [hy];simp⟩
          | none=>cases hso
          | bool _=>cases hso
          | int _=>cases hso
          | list _ _=>cases hso
          | tuple _ _=>cases hso
          | dictK _ _=>cases hso
          | dictT _ _ _=>cases hso
          | dictF _ _ _=>cases hso
  ·rw [if_neg hl] at q;exact q.elim
theorem Li (nt:Nat) (hnt:nt=1\/nt=2) (hc:c.X.calm=true) (S:mK c.X scope N' nt ix) (hi:JI c tg iter gi) (hb:uc c N' scope nt tg ifs elt gt ge) (hs:∀ x,ed iter c.X.env x=pure x:=by intro _;rfl) :
  Oo c (.SetComp elt [⟨tg,iter,ifs,0⟩] scope pos) (vh nt ix gi gt ge):=.of fun ρ=>rN (F2 hc S (B9 hnt) (hi ρ) hb.at hs) fun σ H Q q=>Op hnt q
end
def bF (n:Nat) (ds:List D):ap:=ds.map Sl.shr++rE (n - ds.length) Sl.no
def eL (n:Nat) (g:ap->R Fl):List D->R D:=fun ds=>match g (bF n ds) with
 | .ok (.nx _)=>.ok .none
 | .ok (.rt d)=>.ok d
 | .ex c m=>.ex c m
 | _=>.no
theorem xI {n:Nat}{ds:List D}{i:Nat}{s:Sl} (h:(bF n ds)[i]?=some s):(∃ d,ds[i]?=some d/\s=.shr d)\/s=.no:=by
 unfold bF at h
 by_cases hi:i<ds.length
 ·rw [bg (by simpa using hi),aX] at h
  cases hd:ds[i]? with
  | none=>rw [hd] at h;cases h
  | some z=>rw [hd] at h;cases h;exact .inl ⟨z,rfl,rfl⟩
 ·rw [aU (by simp;omega),cf] at h
  split at h<;>cases h
  exact .inr rfl
theorem IE {N:List Str}{vs:List V}{i:Nat}{v:V} (h:vs[i]?=some v):(L2.start N vs)[i]?=some (some v):=by
 unfold L2.start
 have hi:i<vs.length:=(List.getElem?_eq_some_iff.mp h).1
 rw [bg (by simpa using hi),aX,h]
 rfl
theorem Fr.start {K : a6} {H Hs : Hp} {N : List Str} {vs : List V} {ds : List D} (sub : cZ Hs H) (r : RDs K Hs vs ds) : Fr K H Hs (fun _ => none) (bF N.length ds) (L2.start N vs) H Hs := by
  have hl := r.length
  refine ⟨.refl sub, by simp [bF, L2.start, hl], fun i d h => ?_, fun i d h => ?_, fun i d h => ?_, fun i j d e a h _ _ _ => ?_, fun i a h => (nomatch h), fun i d h => ?_, fun i j d e h _ => ?_⟩
  · rcases xI h with ⟨z, hz, e⟩ | e
    · cases e
      obtain ⟨v, k1, k2⟩ := r.get' hz
      exact ⟨v, IE k1, k2⟩
    · cases e
  all_goals (rcases xI h with ⟨z, _, e⟩ | e <;> cases e)
theorem PF {P:aK}{w:aY}{K:a6}{mg:Str->Option a8}{base:bp}{cls:Str->ah}{x qual:Str}{st:cC}{f:ah}{fd:eU}{N ps:List Str}{k:Nat}{g:ap->R Fl} (F:Ih K x qual st f fd) (S:bw N ps (aA st))
  (h:∀ (cdv:a8) (A:b6) (outer:List Env) (s:ac) (H:Hp) (E:XK),kQ k (A.deeper (s9 qual (aA st) s.heap.objs.size f cdv))->Gv ⟨ju (pG P w) P w K mg base N qual (aA st) f cdv A outer s H E,cls,E⟩ (gW st) g) :
  uY P w K mg base (pG P w) (k + 1) f fd ps (RQ K cls ps.length (eL N.length g)):=by
 obtain ⟨oc,od,kV,doc,pm,an,cdv,ct,osl,rfl,lk,hcd⟩:=F.ex
 refine Sf lk hcd S (fun vs H Q E h_4=>by obtain ⟨Hs,ds,sub,hn,r,q⟩:=h_4;exact by rw [r.length];exact hn) fun A outer s H vs Q E hr hsp=>?_
 obtain ⟨Hs,ds,sub,hn,r,q⟩:=hsp
 refine ⟨_,h cdv A outer s H E hr (bF N.length ds),H,Hs,_,Hs,Fr.start sub r,?_⟩
 unfold eL at q
 cases hg:g (bF N.length ds) with
 | no=>rw [hg] at q;exact q
 | ex c n=>rw [hg] at q;exact q
 | ok fl =>
  rw [hg] at q
  cases fl with
  | nx ρ'=>exact fun σ' H' Hs' f'=>q .non H' Hs' f'.st .none
  | rt d=>exact fun v H' Hs' s r=>q v H' Hs' s r
  | bk ρ'=>exact q.elim
  | ct ρ'=>exact q.elim
theorem SZ {P:aK}{w:aY}{K:a6}{mg:Str->Option a8}{base:bp}{cls:Str->ah}{x qual:Str}{st:cC}{f:ah}{fd:eU}{N ps:List Str}{k:Nat}{g:ap->R Fl} (F:Ih K x qual st f fd) (S:bw N ps (aA st)) (hm:mg x=some (.ref f)) (hb:ni K fd ps [])
  (h:∀ (cdv:a8) (A:b6) (outer:List Env) (s:ac) (H:Hp) (E:XK),kQ k (A.deeper (s9 qual (aA st) s.heap.objs.size f cdv))->Gv ⟨ju (pG P w) P w K mg base N qual (aA st) f cdv A outer s H E,cls,E⟩ (gW st) g) :
  Fn P w K mg base cls x (k + 1) ps.length (eL N.length g):=⟨f,fd,ps,PF F S h,hm,F.kp,hb⟩
theorem dG {X:Cx}:pS (pG X.prog X.w) X E0:=fun _ _ _ _ _ _ _ h=>by
 obtain ⟨_,_,_,_,_,_,_,_,_,q⟩:=h
 exact q.elim
end
section
def clear2 (ρ:ap):ap:=ρ.map fun s=>match s with
 | .ow2 _=>.no
 | s=>s
section
variable {K:a6}
theorem Fr.clear2 {H0 Hs0 H Hs:Hp}{la:Nat->Option ah}{ρ:ap}{σ:St} (f:Fr K H0 Hs0 la ρ σ H Hs):Fr K H0 Hs0 la (clear2 ρ) σ H Hs/\∀ (j:Nat) (d:List (List D)),¬ (J.clear2 ρ)[j]?=some (Sl.ow2 d):=by
 have un:∀ {j:Nat}{s:Sl},(J.clear2 ρ)[j]?=some s->(∀ d,s≠.ow2 d)/\(ρ[j]?=some s\/s=.no):=fun {j s} e=>by
  unfold J.clear2 at e
  rw [aX] at e
  cases h:ρ[j]? with
  | none=>rw [h] at e;cases e
  | some t =>
   rw [h] at e
   cases t with
   | ow2 d=>cases e;exact ⟨fun _ z=>(by cases z),.inr rfl⟩
   | no=>cases e;exact ⟨fun _ z=>(by cases z),.inl rfl⟩
   | shr d=>cases e;exact ⟨fun _ z=>(by cases z),.inl rfl⟩
   | lck d=>cases e;exact ⟨fun _ z=>(by cases z),.inl rfl⟩
   | own d=>cases e;exact ⟨fun _ z=>(by cases z),.inl rfl⟩
 have is:∀ {j:Nat}{s:Sl},s≠.no->(J.clear2 ρ)[j]?=some s->ρ[j]?=some s:=fun {j s} n e=>(un e).2.resolve_right n
 have no2:∀ (j:Nat) (d:List (List D)),¬ (J.clear2 ρ)[j]?=some (Sl.ow2 d):=fun j d e=>(un e).1 d rfl
 exact ⟨⟨f.st,by simp [J.clear2,f.len],fun j d h=>f.sh j d (is (fun z=>by cases z) h),fun j d h=>f.ow j d (is (fun z=>by cases z) h),fun j d h=>f.lk j d (is (fun z=>by cases z) h),fun j k d e a h1 h2=>f.dj j k d e a (is (fun z=>by cases z) h1) (is (fun z=>by cases z) h2),f.lh,fun j d h=>(no2 j d h).elim,fun j k d e h _=>(no2 j d h).elim⟩,no2⟩
end
def qh:List ah->Hp->Hp
 | [],H=>H
 | a::as,H=>qh as (upd H a (.lst []))
section
variable {c:C}{e:aV}{g gi:ap->R D}{pos p apos cpos spos:Pos}{x:Str}
theorem xJ:∀ (as:List ah) (H:Hp),(∀ a∈as,H a=none)->as.Nodup->cZ H (qh as H)
 | [],H,_,_=>.refl H
 | a::as,H,h,nd=>by
  obtain ⟨n1,n2⟩:=List.nodup_cons.mp nd
  refine (lv (h a al)).trans (xJ as _ (fun b hb=>?_) n2)
  rw [bj (fun (z:b=a)=>n1 (z ▸ hb))]
  exact h b (aj _ hb)
theorem CT:∀ (as:List ah) (H:Hp),as.Nodup->∀ a∈as,qh as H a=some (.lst [])
 | a::as,H,nd,b,hb=>by
  obtain ⟨n1,n2⟩:=List.nodup_cons.mp nd
  show qh as (upd H a (.lst [])) b=_
  by_cases hm:b∈as
  ·exact CT as _ n2 b hm
  ·have e:b=a:=(List.mem_cons.mp hb).resolve_right hm
   subst e
   have:∀ (as:List ah) (H:Hp),b∉as->qh as H b=H b:=by
    intro as
    induction as with
    | nil=>intro H _;rfl
    | cons c as ih =>
     intro H h
     show qh as (upd H c (.lst [])) b=_
     rw [ih _ (fun z=>h (aj _ z)),bj (fun (z:b=c)=>h (by rw [z];exact al))]
   rw [this as _ hm,bq]
theorem lC:∀ (as:List ah) (H:Hp) (b:ah),qh as H b=none->H b=none/\b∉as
 | [],H,b,h=>⟨h,by simp⟩
 | a::as,H,b,h=>by
  obtain ⟨h1,h2⟩:=lC as (upd H a (.lst [])) b h
  by_cases hb:b=a
  ·subst hb;rw [bq] at h1;cases h1
  ·rw [bj hb] at h1
   exact ⟨h1,fun z=>(List.mem_cons.mp z).elim hb h2⟩
def Oq (i:Nat):ap->R Fl:=fun ρ=>.ok (.nx ((clear2 ρ).set i (.ow2 [[],[],[],[]])))
theorem Re (i:Nat) {p1 p2 p3 p4:Pos}{pos':Pos} (hN:c.X.N.Nodup) (hi:c.X.N[i]?=some x:=by rfl) (hx:NE c.X.env.scope x:=by first | exact fB rfl | exact c_ rfl)
  (hs:fQ (.List [.List [] p1,.List [] p2,.List [] p3,.List [] p4] p) (some (.Name x pos')) spos.line c.X.env=pure false:=by rfl)
  (hf:c.X.fn x=true\/c.X.env.scope.names.lookup x=some .local:=by first | exact .inl rfl | exact .inr rfl | assumption)
  (h1:aw [.List [] p1,.List [] p2,.List [] p3,.List [] p4] c.X.env=(false,cR (.List [] p1) c.X.env)::aw [.List [] p2,.List [] p3,.List [] p4] c.X.env:=by rfl)
  (h2:aw [.List [] p2,.List [] p3,.List [] p4] c.X.env=(false,cR (.List [] p2) c.X.env)::aw [.List [] p3,.List [] p4] c.X.env:=by rfl)
  (h3:aw [.List [] p3,.List [] p4] c.X.env=(false,cR (.List [] p3) c.X.env)::aw [.List [] p4] c.X.env:=by rfl)
  (h4:aw [.List [] p4] c.X.env=(false,cR (.List [] p4) c.X.env)::aw [] c.X.env:=by rfl) :
  JS c (.Assign [.Name x pos'] (.List [.List [] p1,.List [] p2,.List [] p3,.List [] p4] p) spos) (Oq i):=.of fun ρ=>by
 refine yS (AF hN hi hx (nQ (eV (nQ gq) (eV (nQ gq) (eV (nQ gq) (eV (nQ gq) gq h4) h3) h2) h1)) hs hf) fun D σ H h_0=>?_
 obtain ⟨H0,Hs0,la,Hs,f,q⟩:=h_0
 replace q:mR c.X.K c.cls c.E H0 Hs0 la D (Oq i ρ):=q
 obtain ⟨f,no2⟩:=f.clear2
 refine ⟨cn _,fun a1 n1=>⟨cn _,fun a2 n2=>⟨cn _,fun a3 n3=>⟨cn _,fun a4 n4=>⟨cc (df (show 4<=1000 by decide)),fun a n=>?_⟩⟩⟩⟩⟩
 have N:=lC [a1,a2,a3,a4] H a n
 have N4:=lC [a1,a2,a3] H a4 n4
 have N3:=lC [a1,a2] H a3 n3
 have N2:=lC [a1] H a2 n2
 simp only [aZ,aQ,or_false,not_or] at N N4 N3 N2
 have nd:[a1,a2,a3,a4].Nodup:=by
  simp only [List.nodup_cons,aZ,aQ,or_false,not_or,ip,and_true,not_false_eq_true]
  exact ⟨⟨cW N2.2,cW N3.2.1,cW N4.2.1⟩,⟨cW N3.2.2,cW N4.2.2.1⟩,cW N4.2.2.2⟩
 have free:∀ b∈[a1,a2,a3,a4],H b=none:=fun b hb=>by
  simp only [aZ,aQ,or_false] at hb
  rcases hb with rfl | rfl | rfl | rfl
  ·exact n1
  ·exact N2.1
  ·exact N3.1
  ·exact N4.1
 have nd5:(a::[a1,a2,a3,a4]).Nodup:=List.nodup_cons.mpr ⟨by simp only [aZ,aQ,or_false,not_or];exact N.2,nd⟩
 have sm:cZ H (qh [a1,a2,a3,a4] H):=xJ _ _ free nd
 have all:cZ H (upd (qh [a1,a2,a3,a4] H) a (.lst [.ref a1,.ref a2,.ref a3,.ref a4])):=sm.trans (lv n)
 have free5:∀ b∈a::[a1,a2,a3,a4],H b=none:=fun b hb=>(List.mem_cons.mp hb).elim (fun z=>z ▸ N.1) (free b)
 have st:cD H Hs (upd (qh [a1,a2,a3,a4] H) a (.lst [.ref a1,.ref a2,.ref a3,.ref a4])) Hs:=⟨all,.refl _,f.st.sub.trans all,fun _ _ _ _ z=>z⟩
 have f':=f.step st
 have hl:i<σ.length\/¬ i<σ.length:=Decidable.em _
 have nx:∀ {j:Nat}{s:Sl},(∀ d,s≠.ow2 d)->((clear2 ρ).set i (.ow2 [[],[],[],[]]))[j]?=some s->(clear2 ρ)[j]?=some s/\i≠j:=fun {j s} hs e=>by
  by_cases hj:i=j
  ·subst hj
   by_cases hi:i<(clear2 ρ).length
   ·rw [az hi] at e;exact absurd (bu e).symm (hs _)
   ·rw [bz (by simpa using hi)] at e;cases e
  ·rw [ag hj] at e;exact ⟨e,hj⟩
 refine q _ _ Hs ⟨f'.st,by simp [f'.len],fun j d h=>?_,fun j d h=>?_,fun j d h=>?_,fun j k d d' b h1 h2 h3 h4=>?_,f'.lh,fun j d h=>?_,fun j k d d' h1 h2=>?_⟩
 ·obtain ⟨h,hj⟩:=nx (fun _ z=>by cases z) h
  rw [ag hj];exact f'.sh j d h
 ·obtain ⟨h,hj⟩:=nx (fun _ z=>by cases z) h
  rw [ag hj];exact f'.ow j d h
 ·obtain ⟨h,hj⟩:=nx (fun _ z=>by cases z) h
  rw [ag hj];exact f'.lk j d h
 ·obtain ⟨h1,hj⟩:=nx (fun _ z=>by cases z) h1
  obtain ⟨h2,hk⟩:=nx (fun _ z=>by cases z) h2
  rw [ag hj] at h3
  rw [ag hk] at h4
  exact f'.dj j k d d' b h1 h2 h3 h4
 ·by_cases hj:i=j
  ·subst hj
   by_cases hi:i<(clear2 ρ).length
   ·rw [az hi] at h
    cases h
    have at4:=CT [a1,a2,a3,a4] H nd
    have ne:∀ b∈[a1,a2,a3,a4],b≠a:=fun b hb z=>(List.nodup_cons.mp nd5).1 (z ▸ hb)
    have go:∀ b∈[a1,a2,a3,a4],upd (qh [a1,a2,a3,a4] H) a (.lst [.ref a1,.ref a2,.ref a3,.ref a4]) b=some (.lst []):=fun b hb=>by rw [bj (ne b hb)];exact at4 b hb
    refine ⟨a,[a1,a2,a3,a4],az (by rw [<- f'.len];exact hi),bq,nd5,fun b hb=>⟨f.st.sub.free (free5 b hb),f.st.all.free (free5 b hb)⟩,fun b hb k e hk=>?_,.cons (go _ (by simp)) .nil (.cons (go _ (by simp)) .nil (.cons (go _ (by simp)) .nil (.cons (go _ (by simp)) .nil .nil)))⟩
    obtain ⟨hk,nk⟩:=nx (fun _ z=>by cases z) hk
    rw [ag nk]
    intro z
    obtain ⟨b',o,k1,k2,_⟩:=f.ow k e hk
    rw [z] at k1
    cases k1
    rw [free5 b hb] at k2;cases k2
   ·rw [bz (by simpa using hi)] at h;cases h
  ·rw [ag hj] at h;exact (no2 j d h).elim
 ·by_cases hj:i=j
  ·by_cases hk:i=k
   ·exact hj.symm.trans hk
   ·rw [ag hk] at h2;exact (no2 k d' h2).elim
  ·rw [ag hj] at h1;exact (no2 j d h1).elim
theorem Lj {st:cC}{gs:ap->R Fl} (h:JS c st gs):JS c st (fun ρ=>gs (ft ρ)):=.of fun ρ=>yS (h (ft ρ)) fun D σ H h_1=>by
 obtain ⟨H0,Hs0,la,Hs,f,q⟩:=h_1
 obtain ⟨Hs',f'⟩:=f.shared
 exact ⟨H0,Hs0,la,Hs',f',q⟩
def shareAt (i:Nat) (ρ:ap):ap:=match ρ[i]? with
 | some (Sl.own d)=>ρ.set i (.shr d)
 | _=>ρ
theorem Fr.shareAt {K:a6}{H0 Hs0 H Hs:Hp}{la:Nat->Option ah}{ρ:ap}{σ:St} (f:Fr K H0 Hs0 la ρ σ H Hs) (i:Nat):∃ Hs',Fr K H0 Hs0 la (J.shareAt i ρ) σ H Hs':=by
 unfold J.shareAt
 split
 ·rename_i d ho
  obtain ⟨a,o,k1,k2,k3,k4,k5⟩:=f.ow i d ho
  have hil:i<ρ.length:=(List.getElem?_eq_some_iff.mp ho).1
  have up:cZ Hs (upd Hs a o):=lv k3
  have nx:∀ {j:Nat}{s:Sl},(∀ d,s≠.shr d)->(ρ.set i (.shr d))[j]?=some s->ρ[j]?=some s/\i≠j:=fun {j s} hs e=>by
   by_cases hj:i=j
   ·subst hj
    rw [az hil] at e;exact absurd (bu e).symm (hs d)
   ·rw [ag hj] at e;exact ⟨e,hj⟩
  have ne:∀ (j:Nat) (e:D) (b:ah),i≠j->ρ[j]?=some (Sl.own e)->σ[j]?=some (some (V.ref b))->b≠a:=fun j e b hj h hb z=>by
   subst z
   exact hj (f.dj i j d e b ho h k1 hb)
  refine ⟨upd Hs a o,⟨f.st.all,f.st.sh.trans up,fun b u e=>?_,fun b u e t z=>?_⟩,by simp [f.len],fun j e h=>?_,fun j e h=>?_,fun j e h=>?_,fun j k d1 d2 b h1 h2 h3 h4=>?_,f.lh,fun j e h=>?_,fun j k d1 d2 h1 h2=>?_⟩
  ·by_cases hb:b=a
   ·subst hb;rw [bq] at e;cases e;exact k2
   ·rw [bj hb] at e;exact f.st.sub b u e
  ·rw [bj (bA e k4)];exact f.st.out b u e t z
  ·by_cases hj:i=j
   ·subst hj
    rw [az hil] at h
    cases h
    exact ⟨_,k1,k5.share k3⟩
   ·rw [ag hj] at h
    obtain ⟨v,q1,q2⟩:=f.sh j e h
    exact ⟨v,q1,q2.same up⟩
  ·obtain ⟨h,hj⟩:=nx (fun _ z=>by cases z) h
   obtain ⟨b,u,q1,q2,q3,q4,q5⟩:=f.ow j e h
   exact ⟨b,u,q1,q2,by rw [bj (ne j e b hj h q1)];exact q3,q4,q5.same up⟩
  ·obtain ⟨h,hj⟩:=nx (fun _ z=>by cases z) h
   obtain ⟨b,u,q1,q2,q3,q4,q5,q6⟩:=f.lk j e h
   exact ⟨b,u,q1,q2,q3,by rw [bj (bA q5 k4)];exact q4,q5,q6.same up⟩
  ·exact f.dj j k d1 d2 b (nx (fun _ z=>by cases z) h1).1 (nx (fun _ z=>by cases z) h2).1 h3 h4
  ·obtain ⟨h,hj⟩:=nx (fun _ z=>by cases z) h
   obtain ⟨b,as,O⟩:=f.o2 j e h
   refine ⟨b,as,O.at_,O.ob,O.nd,fun c hc=>⟨?_,(O.out c hc).2⟩,fun c hc k e' hk=>O.dj c hc k e' (nx (fun _ z=>by cases z) hk).1,O.inn.step (.refl _) up⟩
   rw [bj (fun z=>O.dj c hc i d ho (by rw [z];exact k1))]
   exact (O.out c hc).1
  ·exact f.u2 j k d1 d2 (nx (fun _ z=>by cases z) h1).1 (nx (fun _ z=>by cases z) h2).1
 ·exact ⟨Hs,f⟩
theorem Fg (i:Nat) {st:cC}{gs:ap->R Fl} (h:JS c st gs):JS c st (fun ρ=>gs (shareAt i ρ)):=.of fun ρ=>yS (h (shareAt i ρ)) fun D σ H h_2=>by
 obtain ⟨H0,Hs0,la,Hs,f,q⟩:=h_2
 obtain ⟨Hs',f'⟩:=f.shareAt i
 exact ⟨H0,Hs0,la,Hs',f',q⟩
theorem v9.get {K:a6}{H Hs:Hp}{as:List ah}{dss:List (List D)} (h:v9 K H Hs as dss):∀ {j:Nat}{ds:List D},dss[j]?=some ds->∃ b vs,as[j]?=some b/\H b=some (.lst vs)/\RDs K Hs vs ds:=by
 induction h with
 | nil=>intro j ds e;cases e
 | cons h r t ih =>
  intro j ds e
  cases j with
  | zero=>cases e;exact ⟨_,_,rfl,h,r⟩
  | succ j=>have q:=ih (j:=j) e;exact q
theorem v9.length {K:a6}{H Hs:Hp}{as:List ah}{dss:List (List D)} (h:v9 K H Hs as dss):as.length=dss.length:=by
 induction h with
 | nil=>rfl
 | cons _ _ _ ih=>exact congrArg (· + 1) ih
theorem v9.set {K:a6}{H Hs:Hp}{vs':List V}{ds':List D} (r':RDs K Hs vs' ds'):∀ {as:List ah}{dss:List (List D)}{j:Nat}{b:ah},v9 K H Hs as dss->as[j]?=some b->as.Nodup->v9 K (L2.upd H b (.lst vs')) Hs as (dss.set j ds')
 | _,_,_,_,.nil,h,_=>by simp at h
 | _,_,0,b,.cons h r t,e,nd=>by
  simp at e
  subst e
  exact .cons bq r' (t.upd (List.nodup_cons.mp nd).1)
 | _,_,j + 1,b,.cons (a:=a) h r t,e,nd=>by
  have e':_:=e
  simp only [ji] at e'
  obtain ⟨n1,n2⟩:=List.nodup_cons.mp nd
  have hb:b∈_:=b_ e'
  exact .cons (by rw [bj (fun z=>n1 (by rw [z];exact hb))];exact h) r (v9.set r' t e' n2)
def jA (i:Nat) (gi g:ap->R D):ap->R Fl:=fun ρ=>match ρ[i]? with
 | some (Sl.ow2 dss)=>(gi ρ).bind fun k=>match k with
  | .int j=>if 0<=j then (match dss[j.toNat]? with
   | some ds=>(g ρ).bind fun d=>if ds.length<1000 then .ok (.nx (ρ.set i (.ow2 (dss.set j.toNat (ds++[d]))))) else .no
   | none=>.no) else .no
  | _=>.no
 | _=>.no
variable {ie:aV}
theorem sx (i:Nat) (hie:JE c ie gi) (h:JE c e g) (hN:c.X.N[i]?=some x:=by rfl) (hv:JF c.X.env.scope x:=by first | exact fB rfl | exact c_ (fB rfl) | exact c_ (c_ rfl)) (hd:(x == ("__debug__" : Str))=false:=by decide)
  (hcd:(x == ("__classdict__" : Str))=false:=by decide) {p3:Pos} (hpx:wM ie:=by exact fun _ _=>rfl)
  (hbase:lR (.Subscript (.Name x p) ie p3) "append" c.X.env (cR (.Subscript (.Name x p) ie p3) c.X.env)=cR (.Subscript (.Name x p) ie p3) c.X.env:=by rfl)
  (hfew:((eT cpos (aw [e] c.X.env)).all (fun x=>!x.1) && (yX cpos (pq [] c.X.env)).all (fun x=>x.1.isSome)
   && decide ([e].length + ([] : List kA).length + (if ([] : List kA).isEmpty then 0 else 1)<30))=true:=by rfl)
  (hline:(apos.endLine == cpos.line)=true:=by rfl) (hst:aw [e] c.X.env=(false,cR e c.X.env)::aw [] c.X.env:=by rfl) (hplain:(eT cpos (aw [] c.X.env)).any (·.1)=false:=by rfl)
  (hs:fQ (.Call (.Attribute (.Subscript (.Name x p) ie p3) "append" apos) [e] [] cpos) none pos.line c.X.env=pure false:=by rfl) :
  JS c (.Expr (.Call (.Attribute (.Subscript (.Name x p) ie p3) "append" apos) [e] [] cpos) pos) (jA i gi g):=.of fun ρ=>by
 refine yS (tT (Cb gn iE iF qK (Pn qJ (mJ hN hv hd hcd) (hie ρ) hpx) (eV (h ρ) gq hst) hbase hfew hline hst hplain) hs) fun D σ H h_3=>?_
 obtain ⟨H0,Hs0,la,Hs,f,q⟩:=h_3
 replace q:mR c.X.K c.cls c.E H0 Hs0 la D (jA i gi g ρ):=q
 unfold jA at q
 split at q
 ·rename_i dss ho
  obtain ⟨a,as,O⟩:=f.o2 i dss ho
  refine ⟨_,O.at_,?_⟩
  refine sE f q fun k v H1 Hs1 e1 s1 f1 r1=>?_
  rw [e1,bind_ok] at q
  cases r1 with
  | int j =>
   simp only at q
   by_cases hj:0<=j
   ·rw [if_pos hj] at q
    split at q
    ·rename_i ds hds
     obtain ⟨b,vs,hb,hH,rv⟩:=O.inn.get hds
     have hix:Ca (as.map V.ref) j=some (.ref b):=by
      have:=tW (xs:=as.map V.ref) (j:=j.toNat) (v:=V.ref b) (by rw [aX,hb];rfl)
      rwa [dY hj] at this
     refine ⟨a,_,j,_,rfl,rfl,.of (s1.all _ _ O.ob),hix,.inl ⟨rfl,_,.of (s1.all _ _ hH)⟩,?_⟩
     refine sE f1 q fun d w H2 Hs2 e2 s2 f2 r2=>?_
     rw [e2,bind_ok] at q
     by_cases hl:ds.length<1000
     ·rw [if_pos hl] at q
      have st:=s1.trans s2
      refine ⟨b,vs,w,rfl,rfl,st.all _ _ hH,df (by rw [rv.length];omega),?_⟩
      have hil:i<ρ.length:=(List.getElem?_eq_some_iff.mp ho).1
      obtain ⟨a',as',O2'⟩:=f2.o2 i dss ho
      have ea:a'=a:=by
       have:=O2'.at_
       rw [O.at_] at this
       cases this;rfl
      subst ea
      have eas:as'=as:=by
       have h1:=O2'.ob
       rw [st.all _ _ O.ob] at h1
       injection h1 with h1
       injection h1 with h1
       exact (JA (fun x y z=>by cases z;rfl) |>.mp h1).symm
      subst eas
      have hbm:b∈a'::as':=aj _ (b_ hb)
      have nb:b≠a':=fun z=>(List.nodup_cons.mp O.nd).1 (z ▸ b_ hb)
      obtain ⟨bs,b0⟩:=O2'.out b hbm
      have nx:∀ {j':Nat}{s:Sl},(∀ d,s≠.ow2 d)->(ρ.set i (.ow2 (dss.set j.toNat (ds++[d]))))[j']?=some s->ρ[j']?=some s/\i≠j':=fun {j' s} hs e=>by
       by_cases hj:i=j'
       ·subst hj
        rw [az hil] at e;exact absurd (bu e).symm (hs _)
       ·rw [ag hj] at e;exact ⟨e,hj⟩
      refine q _ _ Hs2 ⟨⟨fun c u e=>?_,f2.st.sh,fun c u e=>?_,f2.st.out⟩,by simp [f2.len],fun j' d' h=>f2.sh j' d' (nx (fun _ z=>by cases z) h).1,fun j' d' h=>?_,fun j' d' h=>?_,fun j' k' d' e' a h1 h2=>f2.dj j' k' d' e' a (nx (fun _ z=>by cases z) h1).1 (nx (fun _ z=>by cases z) h2).1,f2.lh,fun j' d' h=>?_,fun j' k' d' e' h1 h2=>?_⟩
      ·rw [bj (bA e b0)];exact f2.st.all c u e
      ·rw [bj (bA e bs)];exact f2.st.sub c u e
      ·obtain ⟨h,_⟩:=nx (fun _ z=>by cases z) h
       obtain ⟨c',u,k1,k2,k3,k4,k5⟩:=f2.ow j' d' h
       refine ⟨c',u,k1,?_,k3,k4,k5⟩
       rw [bj (fun z=>O2'.dj b hbm j' d' h (by rw [<- z];exact k1))]
       exact k2
      ·obtain ⟨h,_⟩:=nx (fun _ z=>by cases z) h
       obtain ⟨c',u,k1,k2,k3,k4,k5,k6⟩:=f2.lk j' d' h
       refine ⟨c',u,k1,k2,?_,k4,k5,k6⟩
       rw [bj (bA k5 b0)]
       exact k3
      ·by_cases hj':i=j'
       ·subst hj'
        rw [az hil] at h
        cases h
        refine ⟨a',as',O2'.at_,by rw [bj (cW nb)];exact O2'.ob,O2'.nd,O2'.out,fun c hc k e' hk=>O2'.dj c hc k e' (nx (fun _ z=>by cases z) hk).1,?_⟩
        exact v9.set ((rv.same st.sh).append (.cons r2 .nil)) O2'.inn hb (List.nodup_cons.mp O2'.nd).2
       ·rw [ag hj'] at h
        exact (hj' (f2.u2 i j' _ _ ho h)).elim
      ·by_cases hj':i=j'
       ·by_cases hk':i=k'
        ·exact hj'.symm.trans hk'
        ·rw [ag hk'] at h2
         exact (hk' (f2.u2 i k' _ _ ho h2)).elim
       ·rw [ag hj'] at h1
        exact (hj' (f2.u2 i j' _ _ ho h1)).elim
     ·rw [if_neg hl] at q;exact q.elim
    ·exact q.elim
   ·rw [if_neg hj] at q;exact q.elim
  | none=>exact q.elim
  | bool _=>exact q.elim
  | str _=>exact q.elim
  | list _ _=>exact q.elim
  | tuple _ _=>exact q.elim
  | dictK _ _=>exact q.elim
  | dictT _ _ _=>exact q.elim
  | dictF _ _ _=>exact q.elim
 ·exact q.elim
end
end
section
open PyProof.Rows (OwnCls)
section
variable {X:Cx}
end
section
variable {c:C}{e:aV}{g:ap->R D}{pos p apos cpos:Pos}{x:Str}
end
structure Er (mg:Str->Option a8) (base:bp) (cls:Str->ah) (x:Str):Prop where
 ex:∃ bmB newId initId Bn,OwnCls x (cls x) bmB newId mg base/\ExcBaseFacts Bn newId initId bmB
def sy (x:Str) (gs:ap->R (List D)):ap->R Fl:=fun ρ=>(gs ρ).bind fun ds=>if ds.length<=1000 then .ex x none else .no
section
variable {P:aK}{w:aY}{K:a6}{mg:Str->Option a8}{base:bp}{N:List Str}{qual:Str}{scope:e7}{f:ah}{cd:a8}{A:b6}{outer:List Env}{s:ac}{H:Hp}{E:XK}{cls:Str->ah}
theorem uf {x:Str}{np cpos pos:Pos}{e0:aV}{bY:List aV}{gs:ap->R (List D)} (R0:Er mg base cls x)
  (hg:Gl (ju (pG P w) P w K mg base N qual scope f cd A outer s H E) x) (ha:Ej ⟨ju (pG P w) P w K mg base N qual scope f cd A outer s H E,cls,E⟩ (e0::bY) gs)
  (he:aw (e0::bY) (ju (pG P w) P w K mg base N qual scope f cd A outer s H E).env=(false,cR e0 (ju (pG P w) P w K mg base N qual scope f cd A outer s H E).env)::aw bY (ju (pG P w) P w K mg base N qual scope f cd A outer s H E).env:=by rfl)
  (hdb:(x == ("__debug__" : Str))=false:=by decide) (hpl:(eT cpos (aw bY (ju (pG P w) P w K mg base N qual scope f cd A outer s H E).env)).any (·.1)=false:=by rfl) :
  JS ⟨ju (pG P w) P w K mg base N qual scope f cd A outer s H E,cls,E⟩ (.Raise (some (.Call (.Name x np) (e0::bY) [] cpos)) none pos) (sy x gs):=.of fun ρ=>by
 obtain ⟨bmB,newId,initId,Bn,O,FB⟩:=R0.ex
 refine yS (KM O FB hg (ha ρ) he hdb hpl) fun D σ H1 h_1=>?_
 obtain ⟨H0,Hs0,la,Hs,f,q⟩:=h_1
 replace q:mR K cls E H0 Hs0 la D (sy x gs ρ):=q
 refine ⟨H0,Hs0,la,Hs,f,?_⟩
 unfold sy at q
 cases hr:gs ρ with
 | no=>rw [hr] at q;exact q
 | ex y n=>rw [hr] at q;exact fun H' Hs' s=>q H' Hs' (f.st.trans s)
 | ok ds =>
  rw [hr,bind_ok] at q
  intro vs H2 Hs2 s2 r2
  by_cases hl:ds.length<=1000
  ·rw [if_pos hl] at q
   exact ⟨cc (df (by rw [r2.length];exact hl)),q H2 Hs2 (f.st.trans s2)⟩
  ·rw [if_neg hl] at q;exact q.elim
end
end
section
structure Bi (mg:Str->Option a8):Prop where
 len:mg "len"=none
 isinstance:mg "isinstance"=none
 all:mg "all"=none
 any:mg "any"=none
 zip:mg "zip"=none
 tuple:mg "tuple"=none
 list:mg "list"=none
 sorted:mg "sorted"=none
 set:mg "set"=none
 range:mg "range"=none
 enumerate:mg "enumerate"=none
 dict:mg "dict"=none
 sum:mg "sum"=none
 max:mg "max"=none
 min:mg "min"=none
 reversed:mg "reversed"=none
 str:mg "str"=none
 int:mg "int"=none
 bool:mg "bool"=none
end
section
def bits (j:Nat):List Bool:=[decide (0=j),decide (1=j),decide (2=j),decide (3=j),decide (4=j),decide (5=j),decide (6=j),decide (7=j),decide (8=j),decide (9=j),decide (10=j)]
section
variable {X:Cx}{cls:Str->ah}{names:List Str}{base:bp}
end
end
end J
section
namespace J
open PySem L2
section
variable {c:C}{body:List cC}{x n:Str}{np np2 np3 hpos cpos rpos pos:Pos}{gb:ap->R Fl}{names:List Str}{wh:Str->Option Nat}
end
end J
namespace L2
open PySem
end L2
end
namespace J
open PySem L2
section
open PyProof.Rows (OwnCls)
abbrev Os:List a8:=[.type "ValueError",.type "Exception",.type "BaseException",.type "object"]
theorem Rf {K:a6}{h:bp}{mg:Str->Option a8}{x:Str}{C:ah}{bmB:List a8}{newId:String} (X:K.In h) (G:h.Ns bB mg) (e:fS K bB x=some (some (.ref C))) (q:z0 K C bmB newId=true) (m1:dg K C (.type "BaseException")=some true) :
  OwnCls x C bmB newId mg h/\∃ bm,Sx h C bm/\∀ v,(v == c6 C)=false->dg K C v=some true->bm.contains v=true:=by
 have hmg:=mH X G e
 unfold z0 at q
 split at q
 ·rename_i dd cd sl look
  split at q
  ·rename_i C' bm k0 k1 k2 k3 n k5 hmro hslots
   simp only [aN,beq_iff_eq,nh] at q
   obtain ⟨⟨⟨⟨⟨rfl,rfl⟩,nodel⟩,tl⟩,nsok⟩,noinit⟩:=q
   have slots:sl=#[k0,k1,k2,k3,some (.builtin n),k5]:=by
    cases sl with | mk l=>simp only at hslots;rw [hslots]
   have inMro:∀ v,dg K C' v=some true->cd.mro.contains v=true:=fun v hv=>by
    unfold dg rH at hv
    rw [look] at hv
    simp only [nM] at hv
    split at hv
    ·cases hv
    ·exact bu hv
   have bY:∀ v,(v == c6 C')=false->dg K C' v=some true->bm.contains v=true:=fun v nv hv=>by
    have:=inMro v hv
    rw [hmro,JC,nv,tM] at this
    exact this
   obtain ⟨nm,bs,mro,ns,qn,hd,sn,sub,ab,col,del⟩:=cd
   dsimp only at hmro nodel nsok noinit
   subst hmro nodel slots
   have at_:=X _ _ look
   exact ⟨⟨hmg,bm,ns,nm,qn,bs,hd,sn,sub,ab,col,dd,k0,k1,k2,k3,k5,_,at_,.of_isNs (lu X nsok),eE X nsok noinit,PySem.W.tail_of_in X tl⟩,
    bm,⟨⟨nm,qn,ns,bs,hd,sn,sub,ab,col,dd,k0,k1,k2,k3,k5,n,at_⟩,bY _ rfl m1⟩,bY⟩
  ·cases q
 ·cases q
structure TopC (K:a6) (x:Str) (C:ah):Prop where
 ns:fS K bB x=some (some (.ref C))
 ex:z0 K C Os "ValueError.__new__"=true
 mb:dg K C (.type "BaseException")=some true
theorem TopC.er {K:a6}{h:bp}{mg:Str->Option a8}{cls:Str->ah}{x:Str}{C:ah} (T:TopC K x C) (X:K.In h) (G:h.Ns bB mg) (hc:cls x=C):Er mg h cls x:=by
 subst hc
 exact ⟨_,_,_,_,(Rf X G T.ns T.ex T.mb).1,PySem.F.excBase_ValueError⟩
inductive S_ (K:a6) (F:List D->R D) (vs:List V) (H:Hp) (Q:VK) (z_3:XK):Prop
 | mk (Hs ds d:_) (h0:cZ Hs H) (h1:ds.length=1) (h2:RDs K Hs vs ds) (h3:F ds=.ok d) (h4:∀ v H' Hs',cD H Hs H' Hs'->RD K Hs' v d->Q v H'):S_ K F vs H Q z_3
def T1 (K:a6) (F:List D->R D):Sp:=S_ K F
theorem Rg {K:a6}{cls:Str->ah}{F:List D->R D}:∀ vs H Q E,T1 K F vs H Q E->RQ K cls 1 F vs H Q E:=fun vs H Q E ⟨Hs,ds,d,s,l,r,e,q⟩=>⟨Hs,ds,s,l,r,by rw [e];exact q⟩
def T2 (l:List (Str×ah)):Str->ah:=fun x=>(l.lookup x).getD 0
theorem Rh {K:a6}{F:List D->R D}{H:Hp}{a:ah}{ns:List Int} (hF:F [.list (ns.map .int)]=.ok (.bool true)) (h:lU K H a (ns.map V.int)):T1 K F [.ref a] H (fun v _=>v=.bl true) fun _ _ _=>False:=by
 have ri:∀ ns:List Int,RDs K H (ns.map V.int) (ns.map .int):=fun ns=>by
  induction ns with
  | nil=>exact .nil
  | cons x r ih=>exact .cons (.int x) ih
 refine ⟨H,[.list (ns.map .int)],.bool true,.refl H,rfl,.cons (.list h (ri ns)) .nil,hF,?_⟩
 intro v H' Hs' _ r
 cases r
 rfl
theorem Ri {P:aK}{w:aY}{H:Hp}{s:ac}{e:a8}{s':ac} (h:pG P w [] H s (fun _ _ _=>False) e s'):False:=by
 obtain ⟨_,_,_,_,_,_,_,_,_,q⟩:=h
 exact q
theorem walkF {l:wf}{k:Nat}{q:aK}{loose:List Str}{XP:(Str->Option a8)->bp->Prop}{YP:aY->bp->Prop}{d:DefRec}{K:Params->a6}{x:Str}{F0:List D->R D}
  (hn:l.most=some 63) (hdf:d.params.defaults=[]) (hr:kQ k vG) (hY:∀ (w:aY) (h:bp),YP w h->(K w.params).In h)
  (F:∀ (w:aY) (mg:Str->Option a8) (fa:ah) (h:bp),(K w.params).In h->h.Ns bB mg->mg d.name=some (.ref fa) ->
   ∃ fd:eU,(∀ (s:ac) (u:a8),yV s fd ⟨[u],[]⟩ [(x,u)])/\∀ base:bp,(K w.params).In base->base.Ns bB mg->uY l.prog w (K w.params) mg base (pG l.prog w) k fa fd [x] (T1 (K w.params) F0))
  (hF:∀ ns:List Int,ns.length<=63->F0 [.list (ns.map .int)]=.ok (.bool true)) :
  N0 q loose XP YP l.row.toRowW d [] (fun f vs=>HH f vs) :=
 L2.O0 (n:=63) (k:=k) (x:=x) (CX:=fun w=>pG l.prog w) (sp:=fun w=>T1 (K w.params) F0) hn (by decide) hdf hr hY F (fun w H a ns hl _ hS=>Rh (hF ns hl) hS) fun _ _ _ _ _ h=>Ri h
def RT (i:Nat) (g:ap->R Fl):ap->R Fl:=fun ρ=>g (shareAt i ρ)
theorem Fh {c:C} (i:Nat) {st:cC}{gs:ap->R Fl} (h:JS c st gs):JS c st (RT i gs):=Fg i h
end
section
section
variable {s:Sl}{ρ:ap}{d x y:D}{ds:List D}
theorem Bf {α β:Type} (a:α) (f:α->R β):(R.ok a).bind f=f a:=id rfl
def Lk (h:ap->R Fl):Fl->R Fl:=fun fl=>match fl with
 | .nx ρ'=>h ρ'
 | fl=>.ok fl
theorem vR (g h:ap->R Fl):aS g h (s::ρ)=(g (s::ρ)).bind (Lk h):=id rfl
theorem qi (h:ap->R Fl) (ρ:ap):Lk h (.nx ρ)=h ρ:=id rfl
theorem CU (h:ap->R Fl) (d:D):Lk h (.rt d)=.ok (.rt d):=id rfl
def V7 (g h:ap->R Fl) (ρ:ap):Bool->R Fl:=fun b=>bif b then g ρ else h ρ
theorem T3 (t:ap->R Bool) (g h:ap->R Fl):dX t g h (s::ρ)=(t (s::ρ)).bind (V7 g h (s::ρ)):=by
 show (t (s::ρ)).bind _=_
 congr 1
 funext b
 cases b<;>rfl
theorem Ll (g h:ap->R Fl) (ρ:ap):V7 g h ρ false=h ρ:=id rfl
theorem Lm (g h:ap->R Fl) (ρ:ap) (b:Bool):V7 g h ρ b=bif b then g ρ else h ρ:=id rfl
def VM:D->R Fl:=fun d=>.ok (.rt d)
theorem PH (g:ap->R D):cG g (s::ρ)=(g (ft (s::ρ))).bind VM:=id rfl
theorem T4 (d:D):VM d=.ok (.rt d):=id rfl
def xK:Sl->Sl
 | .own d=>.shr d
 | .ow2 dss=>.shr (.list (dss.map .list))
 | s=>s
theorem GE:ft (s::ρ)=xK s::ft ρ:=by cases s<;>rfl
theorem CV:ft []=[]:=id rfl
theorem GF:xK .no=.no:=id rfl
theorem CW (d:D):xK (.shr d)=.shr d:=id rfl
theorem CY (d:D):xK (.own d)=.shr d:=id rfl
theorem CZ (d:List (List D)):xK (.ow2 d)=.shr (.list (d.map .list)):=id rfl
def T5 (i:Nat) (ρ:ap):D->R Fl:=fun d=>.ok (.nx (ρ.set i (.shr d)))
theorem Ln (i:Nat) (g:ap->R D):fJ i g (s::ρ)=(g (s::ρ)).bind (T5 i (s::ρ)):=id rfl
theorem Lo (i:Nat) (ρ:ap) (d:D):T5 i ρ d=.ok (.nx (ρ.set i (.shr d))):=id rfl
def PJ (i:Nat) (ρ:ap):D->R Fl:=fun d=>.ok (.nx (ρ.set i (.own d)))
theorem Lp (i:Nat) (g:ap->R D):gO i g (s::ρ)=(g (s::ρ)).bind (PJ i (s::ρ)):=id rfl
theorem GG (i:Nat) (ρ:ap) (d:D):PJ i ρ d=.ok (.nx (ρ.set i (.own d))):=id rfl
def Ko (ρ:ap):D->R Fl:=fun _=>.ok (.nx ρ)
theorem Lq (g:ap->R D):qe g (s::ρ)=(g (s::ρ)).bind (J.Ko (s::ρ)):=id rfl
theorem GH (ρ:ap) (d:D):J.Ko ρ d=.ok (.nx ρ):=id rfl
def VN (gb:ap->R D) (h:D->D->R D) (ρ:ap):D->R D:=fun x=>(gb ρ).bind (h x)
theorem T6 (ga gb:ap->R D) (h:D->D->R D):g2 ga gb h (s::ρ)=(ga (s::ρ)).bind (VN gb h (s::ρ)):=id rfl
theorem PK (gb:ap->R D) (h:D->D->R D) (ρ:ap) (x:D):VN gb h ρ x=(gb ρ).bind (h x):=id rfl
def Ot:D->R Bool:=fun d=>match d with
 | .bool b=>.ok b
 | _=>.no
theorem PL (g:ap->R D):fE g (s::ρ)=(g (s::ρ)).bind Ot:=id rfl
theorem Lr (b:Bool):Ot (.bool b)=.ok b:=id rfl
def T7:Bool->R Bool:=fun b=>.ok (!b)
theorem PM (g:ap->R Bool):gY g (s::ρ)=(g (s::ρ)).bind T7:=id rfl
theorem Ls (b:Bool):T7 b=.ok (!b):=id rfl
def T8 (h:ap->R Bool) (ρ:ap):Bool->R Bool:=fun b=>bif b then h ρ else .ok false
def VO (h:ap->R Bool) (ρ:ap):Bool->R Bool:=fun b=>bif b then .ok true else h ρ
theorem PN (g h:ap->R Bool):F3 g h (s::ρ)=(g (s::ρ)).bind (T8 h (s::ρ)):=by
 show (g (s::ρ)).bind _=_
 congr 1;funext b;cases b<;>rfl
theorem T9 (g h:ap->R Bool):F4 g h (s::ρ)=(g (s::ρ)).bind (VO h (s::ρ)):=by
 show (g (s::ρ)).bind _=_
 congr 1;funext b;cases b<;>rfl
theorem Lu (h:ap->R Bool) (ρ:ap) (b:Bool):T8 h ρ b=bif b then h ρ else .ok false:=id rfl
theorem PP (h:ap->R Bool) (ρ:ap) (b:Bool):VO h ρ b=bif b then .ok true else h ρ:=id rfl
def PQ:Bool->R D:=fun b=>.ok (.bool (!b))
theorem Lv (g:ap->R D):CA g (s::ρ)=((g (s::ρ)).bind Ot).bind PQ:=id rfl
theorem GI (b:Bool):PQ b=.ok (.bool (!b)):=id rfl
def PR (h:ap->R D) (ρ:ap):Bool->R D:=fun b=>bif b then h ρ else .ok (.bool false)
theorem Lw (g h:ap->R D):q0 g h (s::ρ)=((g (s::ρ)).bind Ot).bind (PR h (s::ρ)):=by
 show (fE g (s::ρ)).bind _=(fE g (s::ρ)).bind _
 congr 1;funext b;cases b<;>rfl
theorem GJ (h:ap->R D) (ρ:ap) (b:Bool):PR h ρ b=bif b then h ρ else .ok (.bool false):=id rfl
def Ta (gb gc:ap->R D) (h h':D->D->R D) (ρ:ap):D->R D:=fun x=>(gb ρ).bind fun y=>(h x y).bind fun z=>match z with
 | .bool true=>(gc ρ).bind fun w=>h' y w
 | .bool false=>.ok (.bool false)
 | _=>.no
def Tb (gc:ap->R D) (h h':D->D->R D) (ρ:ap) (x:D):D->R D:=fun y=>(h x y).bind fun z=>match z with
 | .bool true=>(gc ρ).bind fun w=>h' y w
 | .bool false=>.ok (.bool false)
 | _=>.no
def Tc (gc:ap->R D) (h':D->D->R D) (ρ:ap) (y:D):D->R D:=fun z=>match z with
 | .bool true=>(gc ρ).bind (h' y)
 | .bool false=>.ok (.bool false)
 | _=>.no
theorem GK (ga gb gc:ap->R D) (h h':D->D->R D):q9 ga gb gc h h' (s::ρ)=(ga (s::ρ)).bind (Ta gb gc h h' (s::ρ)):=id rfl
theorem Lx (gb gc:ap->R D) (h h':D->D->R D) (ρ:ap) (x:D):Ta gb gc h h' ρ x=(gb ρ).bind (Tb gc h h' ρ x):=id rfl
theorem Ly (gc:ap->R D) (h h':D->D->R D) (ρ:ap) (x y:D):Tb gc h h' ρ x y=(h x y).bind (Tc gc h' ρ y):=id rfl
theorem Lz (gc:ap->R D) (h':D->D->R D) (ρ:ap) (y:D) (b:Bool):Tc gc h' ρ y (.bool b)=bif b then (gc ρ).bind (h' y) else .ok (.bool false):=by cases b<;>rfl
def LA (gs:ap->R (List D)) (ρ:ap):D->R (List D):=fun d=>(gs ρ).bind fun ds=>.ok (d::ds)
def LB (d:D):List D->R (List D):=fun ds=>.ok (d::ds)
theorem LC (g:ap->R D) (gs:ap->R (List D)):J.aa g gs (s::ρ)=(g (s::ρ)).bind (LA gs (s::ρ)):=id rfl
theorem C_ (gs:ap->R (List D)) (ρ:ap) (d:D):LA gs ρ d=(gs ρ).bind (LB d):=id rfl
theorem D1 (d:D) (ds:List D):LB d ds=.ok (d::ds):=id rfl
theorem PU (ρ:ap):J.aG ρ=.ok []:=id rfl
def PV (k:List D->D):List D->R D:=fun ds=>if ds.length<=1000 then .ok (k ds) else .no
theorem LD (gs:ap->R (List D)) (k:List D->D):fH gs k (s::ρ)=(gs (s::ρ)).bind (PV k):=id rfl
theorem GL (k:List D->D) (ds:List D):PV k ds=if ds.length<=1000 then .ok (k ds) else .no:=id rfl
theorem LF (gs:ap->R (List D)) (h:List D->R D):ca gs h (s::ρ)=(gs (s::ρ)).bind h:=id rfl
def VP (n:Nat) (F:List D->R D):List D->R D:=fun ds=>if ds.length=n then F ds else .no
theorem Td (n:Nat) (F:List D->R D) (gs:ap->R (List D)):dC n F gs (s::ρ)=(gs (s::ρ)).bind (VP n F):=id rfl
theorem PX (n:Nat) (F:List D->R D) (ds:List D):VP n F ds=if ds.length=n then F ds else .no:=id rfl
theorem PY (h:D->R D) (d:D):gX h [d]=h d:=id rfl
theorem LG (d:D) (ρ:ap):Ek (.shr d::ρ) 0=.ok d:=id rfl
theorem PZ (s:Sl) (ρ:ap) (n:Nat):Ek (s::ρ) (n + 1)=Ek ρ n:=by simp [Ek]
theorem LH (d:D) (ρ:ap):Cz (.shr d::ρ) 0=.ok d:=id rfl
theorem LI (d:D) (ρ:ap):Cz (.own d::ρ) 0=.ok d:=id rfl
theorem LJ (d:D) (ρ:ap):Cz (.lck d::ρ) 0=.ok d:=id rfl
theorem P_ (s:Sl) (ρ:ap) (n:Nat):Cz (s::ρ) (n + 1)=Cz ρ n:=by simp [Cz]
def Te (T:String):D->R D:=fun d=>if pX d then .ok (.bool (B5 T d)) else .no
theorem Q0 (g:ap->R D) (T:String):vb g T (s::ρ)=(g (s::ρ)).bind (Te T):=id rfl
theorem LK (T:String) (d:D):Te T d=if pX d then .ok (.bool (B5 T d)) else .no:=id rfl
def Tf (gl gh:ap->R (Option Int)) (ρ:ap):D->R D:=fun x=>(gl ρ).bind fun l=>(gh ρ).bind fun h=>El x l h
def Tg (gh:ap->R (Option Int)) (ρ:ap) (x:D):Option Int->R D:=fun l=>(gh ρ).bind fun h=>El x l h
theorem Th (g:ap->R D) (gl gh:ap->R (Option Int)):L5 g gl gh (s::ρ)=(g (s::ρ)).bind (Tf gl gh (s::ρ)):=id rfl
theorem LL (gl gh:ap->R (Option Int)) (ρ:ap) (x:D):Tf gl gh ρ x=(gl ρ).bind (Tg gh ρ x):=id rfl
theorem LM (gh:ap->R (Option Int)) (ρ:ap) (x:D) (l:Option Int):Tg gh ρ x l=(gh ρ).bind (El x l):=id rfl
theorem Q1 (ρ:ap):RP ρ=.ok none:=id rfl
def Ti:D->R (Option Int):=fun d=>match d with
 | .int i=>.ok (some i)
 | _=>.no
theorem Q2 (g:ap->R D):Fb g (s::ρ)=(g (s::ρ)).bind Ti:=id rfl
theorem LN (i:Int):Ti (.int i)=.ok (some i):=id rfl
theorem Rj (g:ap->R D):jX g (s::ρ)=(g (s::ρ)).bind ve:=id rfl
theorem LO (gs:ap->R (List D)):ub gs (s::ρ)=(gs (s::ρ)).bind Fc:=id rfl
theorem Q3 (gs:ap->R (List D)):Fd gs (s::ρ)=(gs (s::ρ)).bind Ug:=id rfl
theorem Q4 (gs:ap->R (List D)):Om gs (s::ρ)=(gs (s::ρ)).bind zp:=id rfl
def Q5 (nt:Nat) (ix:List Nat) (gt:ap->R Bool) (ge:ap->R D) (ρ:ap):List D->R D:=fun ds=>if ds.length<=1000 then (gG (ir nt (nl nt ix ρ) gt ge) ds).bind fun ys=>.ok (.list ys) else .no
def Q6:List D->R D:=fun ys=>.ok (.list ys)
theorem LP (nt:Nat) (ix:List Nat) (gi:ap->R (List D)) (gt:ap->R Bool) (ge:ap->R D):eB nt ix gi gt ge (s::ρ)=(gi (s::ρ)).bind (Q5 nt ix gt ge (s::ρ)):=id rfl
theorem GM (nt:Nat) (ix:List Nat) (gt:ap->R Bool) (ge:ap->R D) (ρ:ap) (ds:List D):Q5 nt ix gt ge ρ ds=if ds.length<=1000 then (gG (ir nt (nl nt ix ρ) gt ge) ds).bind Q6 else .no:=id rfl
theorem GN (ys:List D):Q6 ys=.ok (.list ys):=id rfl
theorem nu (gi:ap->R (List D)) (kt:D->ap->R ap) (gb:ap->R Fl) (ds:List D) (h:gi (s::ρ)=.ok ds):nq gi kt gb (s::ρ)=gx kt gb ds (s::ρ):=by unfold nq;rw [h]
def Bg (k:D->ap->R ap) (ρ:ap):D->R Fl:=fun d=>match k d ρ with
 | .ok ρ'=>.ok (.nx ρ')
 | _=>.no
theorem Q7 (g:ap->R D) (k:D->ap->R ap):ua g k (s::ρ)=(g (s::ρ)).bind (Bg k (s::ρ)):=id rfl
theorem zV (ds:List D):ve (.list ds)=.ok ds:=id rfl
theorem zW (ds:List D):ve (.tuple ds)=.ok ds:=id rfl
theorem zX (x:Str):ve (.str x)=.ok (mQ x):=id rfl
theorem LQ (ds:List D):Ug [.tuple ds]=.ok (gF 0 ds):=id rfl
theorem Tj (ds es:List D):zp [.tuple ds,.tuple es]=.ok (ww ds es):=id rfl
def zY (ρ:ap) (i:Nat):Sl:=N9 ((ρ[i]?).getD .no)
def LR (ix:List Nat) (ρ:ap):ap:=ix.map (zY ρ)
theorem LS (ix:List Nat) (ρ:ap):nl 1 ix ρ=.no::LR ix ρ:=id rfl
theorem LU (ix:List Nat) (ρ:ap):nl 2 ix ρ=.no::.no::LR ix ρ:=id rfl
theorem LV (ρ:ap):LR [] ρ=[]:=id rfl
theorem LW (i:Nat) (ix:List Nat) (ρ:ap):LR (i::ix) ρ=zY ρ i::LR ix ρ:=id rfl
theorem LX (s:Sl) (ρ:ap):zY (s::ρ) 0=N9 s:=id rfl
theorem LY (s:Sl) (ρ:ap) (n:Nat):zY (s::ρ) (n + 1)=zY ρ n:=by simp [zY]
theorem zZ (d:D):N9 (.shr d)=.shr d:=id rfl
theorem z_ (d:D):N9 (.own d)=.lck d:=id rfl
theorem Fi {i:Nat}{ρ:ap}{d:D} (h:ρ[i]?=some (Sl.own d)):shareAt i ρ=ρ.set i (.shr d):=by unfold shareAt;rw [h]
theorem dm {α:Type} (f:D->R (Option D)) (c:α->D) (h:α->D):∀ (xs:List α),(∀ x∈xs,f (c x)=.ok (some (h x)))->gG f (xs.map c)=.ok (xs.map h)
 | [],_=>rfl
 | x::r,e=>by
  rw [aO,aO]
  unfold gG
  rw [e x al,bind_ok,dm f c h r fun y hy=>e y (aj _ hy),bind_ok]
theorem ia {α:Type} (f:D->R (Option D)) (c:α->D) (h:α->D) (p:α->Bool):∀ (xs:List α),(∀ x∈xs,f (c x)=.ok (if p x then some (h x) else none))->gG f (xs.map c)=.ok ((xs.filter p).map h)
 | [],_=>rfl
 | x::r,e=>by
  rw [aO]
  unfold gG
  rw [e x al,bind_ok,ia f c h p r fun y hy=>e y (aj _ hy),bind_ok]
  cases hp:p x<;>simp [hp]
theorem Q8 {ρ:ap}{gt:ap->R Bool}{ge:ap->R D}{d:D}:ir 1 ρ gt ge d=IB (((gt (ρ.set 0 (.shr d)))).bind fun b=>if b then (ge (ρ.set 0 (.shr d))).bind fun y=>.ok (some y) else .ok none):=id rfl
theorem e_ {ρ:ap}{gt:ap->R Bool}{ge:ap->R D}{d y:D} (h1:gt (ρ.set 0 (.shr d))=.ok true) (h2:ge (ρ.set 0 (.shr d))=.ok y):ir 1 ρ gt ge d=.ok (some y):=by
 rw [Q8,h1,bind_ok,if_pos rfl,h2];rfl
theorem ug {ρ:ap}{gt:ap->R Bool}{ge:ap->R D}{d y:D}{b:Bool} (h1:gt (ρ.set 0 (.shr d))=.ok b) (h2:b=true->ge (ρ.set 0 (.shr d))=.ok y):ir 1 ρ gt ge d=.ok (if b then some y else none):=by
 rw [Q8,h1,bind_ok]
 cases b with
 | true=>rw [if_pos rfl,h2 rfl];rfl
 | false=>rfl
theorem Ou {j:Int} (h1:-(2 ^ 62)<=j) (h2:j<2 ^ 62):Fc [.int j]=.ok (qf 0 j.toNat):=by
 have h:-(2 ^ 62)<=j/\j<2 ^ 62:=⟨h1,h2⟩
 unfold Fc
 split
 ·rename_i j' e
  have e':j=j':=by injection e with e;injection e
  subst e'
  rw [if_pos h]
 ·rename_i hn
  exact (hn j rfl).elim
end
end
end J
section
namespace L2
open PySem PySem.Spec PyProof.Rows
end L2
namespace J
open PySem L2
open PyProof.Rows (envOfC)
section
variable {c:C}{e a b:aV}{g ga gb:ap->R D}{pos rpos:Pos}{es:List aV}{gs:ap->R (List D)}{x y:Str}{p q:Pos}
end
section
variable {c:C}{body:List cC}{x n:Str}{np np2 np3 hpos cpos rpos pos:Pos}{gb:ap->R Fl}{names:List Str}{wh:Str->Option Nat}
end
theorem VY {α:Type}{us:List α} (h:us.length=1):∃ a,us=[a]:=by
 rcases us with _ | ⟨a0,_ | ⟨z,r⟩⟩
 ·simp at h
 ·exact ⟨_,rfl⟩
 ·simp at h
theorem VZ {α:Type}{us:List α} (h:us.length=2):∃ a b,us=[a,b]:=by
 rcases us with _ | ⟨a0,_ | ⟨a0,_ | ⟨z,r⟩⟩⟩
 ·simp at h
 ·simp at h
 ·exact ⟨_,_,rfl⟩
 ·simp at h
theorem V_ {α:Type}{us:List α} (h:us.length=3):∃ a b c,us=[a,b,c]:=by
 rcases us with _ | ⟨a0,_ | ⟨a0,_ | ⟨a0,_ | ⟨z,r⟩⟩⟩⟩
 ·simp at h
 ·simp at h
 ·simp at h
 ·exact ⟨_,_,_,rfl⟩
 ·simp at h
theorem W0 {α:Type}{us:List α} (h:us.length=4):∃ a b c d,us=[a,b,c,d]:=by
 rcases us with _ | ⟨a0,_ | ⟨a0,_ | ⟨a0,_ | ⟨a0,_ | ⟨z,r⟩⟩⟩⟩⟩
 ·simp at h
 ·simp at h
 ·simp at h
 ·simp at h
 ·exact ⟨_,_,_,_,rfl⟩
 ·simp at h
theorem W2 {α:Type}{us:List α} (h:us.length=5):∃ a b c d e,us=[a,b,c,d,e]:=by
 rcases us with _ | ⟨a0,_ | ⟨a0,_ | ⟨a0,_ | ⟨a0,_ | ⟨a0,_ | ⟨z,r⟩⟩⟩⟩⟩⟩
 ·simp at h
 ·simp at h
 ·simp at h
 ·simp at h
 ·simp at h
 ·exact ⟨_,_,_,_,_,rfl⟩
 ·simp at h
end J
end
namespace J
open PySem L2
section
section
variable {c:C}{e a b l tg:aV}{g ga gb:ap->R D}{pos p:Pos}{gs:ap->R (List D)}{es:List aV}{x:Str}
end
end
end J
section
namespace HT
open PySem PyProof.Rows
section
open PySem.SeqAt
open PySem.AutoSeq1 (wpAny_loadPart')
open PySem.MeetsSeq PySem.MeetsSeq2 PySem.MeetsSeq3
variable {prog:aK}{w:aY}{A:b6}{E:a8->ac->Prop}{s:ac}
end
end HT
namespace L2
open PySem PySem.Spec PyProof.Rows
section
variable {X:Cx}{e st:aV}{te ts:TE}{pos p2:Pos}
end
end L2
namespace J
open PySem L2
section
variable {c:C}{e:aV}{g:ap->R D}{pos p2 p3 p4:Pos}
end
end J
end
section
namespace L2
open PySem
def JJ (mask:Nat):Nat->Nat×Nat->Nat×Nat
 | 0,x=>x
 | n + 1,x=>JJ mask n (SetTable.leap mask x.1 x.2)
theorem GO (mask:Nat):∀ (n m:Nat) (x:Nat×Nat),JJ mask (n + m) x=JJ mask m (JJ mask n x)
 | 0,m,x=>by rw [ED];rfl
 | n + 1,m,x=>by
  rw [Nat.succ_add]
  exact GO mask n m _
theorem GP (mask:Nat):∀ (n:Nat) (x:Nat×Nat),(JJ mask n x).2=x.2 / 32 ^ n
 | 0,x=>by simp [JJ]
 | n + 1,x=>by
  show (JJ mask n _).2=_
  rw [GP mask n]
  show x.2 / 32 / 32 ^ n=_
  rw [Nat.div_div_eq_div_mul,Nat.pow_succ,Nat.mul_comm]
theorem GQ (mask:Nat):∀ (n:Nat) (x:Nat×Nat),x.1<=mask->(JJ mask n x).1<=mask
 | 0,x,h=>h
 | n + 1,x,h=>GQ mask n _ (by
  show (x.1 * 5 + 1 + x.2 / 32) % (mask + 1)<=mask
  exact wk (Az _ (EE _)))
theorem A6 {mask:Nat}{owner:Array (Option Nat)}:∀ (fuel i p:Nat),dv mask owner fuel i p=none->∀ n,n<fuel->(owner.getD (JJ mask n (i,p)).1 (some 0)).isSome=true
 | 0,_,_,_,n,h=>absurd h (Nat.not_lt_zero n)
 | fuel + 1,i,p,e,n,h=>by
  unfold dv at e
  split at e
  ·cases e
  ·rename_i hf
   cases n with
   | zero =>
    have h0:=List.find?_eq_none.mp hf 0 (List.mem_range.mpr (by unfold SetTable.runEnd;split<;>omega))
    simp only [Nat.add_zero] at h0
    show (owner.getD i (some 0)).isSome=true
    cases q:owner.getD i (some 0) with
    | none=>rw [q] at h0;exact absurd rfl h0
    | some _=>rfl
   | succ n=>exact A6 fuel _ _ e n (EF h)
theorem A8 {mask:Nat}{owner:Array (Option Nat)}:∀ (fuel i p k:Nat),dv mask owner fuel i p=some k->owner.getD k (some 0)=none
 | 0,_,_,_,e=>nomatch e
 | fuel + 1,i,p,k,e=>by
  unfold dv at e
  split at e
  ·rename_i k' hf
   cases e
   have:=List.find?_some hf
   cases q:owner.getD (i + k') (some 0) with
   | none=>rfl
   | some _=>rw [q] at this;cases this
  ·exact A8 fuel _ _ k e
def JK (mask:Nat):Prop:=mask=7\/mask=15\/mask=31
def Tk (mask:Nat):Bool:=(bi (mask + 1)).all fun i=>(bi (mask + 1)).all fun j=>(bi (mask + 1)).any fun n=>decide ((JJ mask n (i,0)).1=j)
theorem Ov {mask:Nat} (h:JK mask):Tk mask=true:=by
 rcases h with h | h | h<;>subst h<;>decide +kernel
theorem getD_none {owner:Array (Option Nat)}{k:Nat} (h:owner.getD k (some 0)=none):owner.toList[k]?=some none:=by
 by_cases hk:k<owner.size
 ·rw [hU,iB hk] at h
  rw [dn,iB hk]
  simpa using h
 ·rw [hU,Array.getElem?_eq_none (by omega)] at h
  cases h
theorem IF {mask:Nat} (hm:JK mask) {owner:Array (Option Nat)}{j:Nat} (hj:j<=mask) (hn:owner.toList[j]?=some none) {i p:Nat} (hi:i<=mask) (hp:p<2 ^ 64) :
  ∃ k,dv mask owner (pz mask) i p=some k/\owner.toList[k]?=some none:=by
 cases e:dv mask owner (pz mask) i p with
 | some k=>exact ⟨k,rfl,getD_none (A8 _ _ _ _ e)⟩
 | none =>
  exfalso
  have hz:(JJ mask 13 (i,p)).2=0:=by
   rw [GP]
   exact Nat.div_eq_of_lt (aJ hp (by decide))
  have h1:=GQ mask 13 (i,p) hi
  have g:=Ov hm
  unfold Tk at g
  rw [cB] at g
  have g:=g _ (List.mem_range.mpr (jC h1))
  rw [cB] at g
  have g:=g j (List.mem_range.mpr (jC hj))
  rw [kz] at g
  obtain ⟨n,hn1,hn2⟩:=g
  have hn1:=List.mem_range.mp hn1
  have hn2:=of_decide_eq_true hn2
  have hs:(JJ mask (13 + n) (i,p)).1=j:=by
   rw [GO,<- hn2,<- hz]
  have:=A6 _ _ _ e (13 + n) (by unfold pz;omega)
  rw [hs] at this
  have hq:owner.getD j (some 0)=none:=by
   rw [dn] at hn
   rw [hU,hn]
   rfl
  rw [hq] at this
  cases this
theorem Ow (h:Int):l_ h<2 ^ 64:=by
 unfold l_
 have:=mI h (show (0:Int)<2 ^ 64 by decide)
 have:=qG h (show (2 ^ 64:Int)≠0 by decide)
 omega
theorem D2 {k:Nat}:∀ {l:List (Option Nat)}{j:Nat},l[j]?=some none->((l.set j (some k)).filterMap id).Perm (k::l.filterMap id)
 | [],_,h=>nomatch h
 | x::r,0,h=>by
  cases h
  exact .refl _
 | x::r,j + 1,h=>by
  have ih:=D2 (k:=k) (l:=r) (j:=j) h
  cases x with
  | none=>exact ih
  | some y=>exact (ih.cons y).trans (.swap k y _)
theorem D3:∀ {l:List (Option Nat)},(l.filterMap id).length<l.length->∃ j,j<l.length/\l[j]?=some none
 | [],h=>absurd h (bV 0)
 | none::r,_=>⟨0,EE _,rfl⟩
 | some y::r,h=>by
  obtain ⟨j,h1,h2⟩:=D3 (l:=r) (EF h)
  exact ⟨j + 1,Nat.succ_lt_succ h1,h2⟩
def GR (mask:Nat) (acc:Option (Array (Option Nat)×Nat)) (h:Int):Option (Array (Option Nat)×Nat):=acc.bind fun x=>(dv mask x.1 (pz mask) (l_ h % (mask + 1)) (l_ h)).bind fun j=>some (x.1.setIfInBounds j (some x.2),x.2 + 1)
theorem D4 (mask:Nat) (hs:Array Int):tu mask hs=(hs.toList.foldl (GR mask) (some (xc (mask + 1) none,0))).map (·.1):=by
 rw [Array.foldl_toList]
 rfl
theorem GS {mask:Nat} (hm:JK mask):∀ (l:List Int) (owner:Array (Option Nat)) (k:Nat),owner.size=mask + 1->(owner.toList.filterMap id).Perm (bi k)->k + l.length<=mask ->
  ∃ o',l.foldl (GR mask) (some (owner,k))=some (o',k + l.length)/\o'.size=mask + 1/\(o'.toList.filterMap id).Perm (bi (k + l.length))
 | [],owner,k,h1,h2,_=>⟨owner,rfl,h1,h2⟩
 | h::r,owner,k,h1,h2,h3=>by
  simp only [aW] at h3 ⊢
  obtain ⟨j,j1,j2⟩:=D3 (l:=owner.toList) (by rw [h2.length_eq,dS,ar,h1];omega)
  rw [ar,h1] at j1
  obtain ⟨m,m1,m2⟩:=IF hm (wk j1) j2 (i:=l_ h % (mask + 1)) (wk (Az _ (EE _))) (Ow h)
  have e:GR mask (some (owner,k)) h=some (owner.setIfInBounds m (some k),k + 1):=by
   unfold GR
   simp only [nM,m1]
  rw [lc,e]
  obtain ⟨o',a1,a2,a3⟩:=GS hm r (owner.setIfInBounds m (some k)) (k + 1) (by rw [Array.size_setIfInBounds];exact h1) (by
   rw [Array.toList_setIfInBounds]
   refine (D2 m2).trans ?_
   rw [List.range_succ]
   exact ((h2.cons k).trans (List.perm_append_singleton k _).symm)) (by omega)
  rw [show k + 1 + r.length=k + (r.length + 1) by omega] at a1 a3
  exact ⟨o',a1,a2,a3⟩
theorem GT {n:Nat}{o:Array (Option Nat)} (h:o.size=n):(bi n).filterMap (fun j=>o.getD j none)=o.toList.filterMap id:=by
 have e:(bi n).map (fun j=>o.getD j none)=o.toList:=by
  refine wI (by simp [h]) fun i h1 h2=>?_
  simp only [av,dS] at h1
  rw [wL,JD,hU,iB (by omega)]
  simp
 rw [<- e,lW]
 rfl
theorem GU {mask finger moves:Nat}{led plain:Bool}{hs:Array Int} (hm:JK mask) (hl:hs.size<=mask):∃ place order,yP mask finger moves led plain hs=some ({ mask,place,dummies:=#[],finger,led,moves,plain },order)/\place.size=hs.size/\order.toList.Perm (bi hs.size):=by
 obtain ⟨o,h1,h2,h3⟩:=GS hm hs.toList (xc (mask + 1) none) 0 (by simp) (by
  have:(xc (mask + 1) (none:Option Nat)).toList.filterMap id=[]:=by
   rw [Array.toList_replicate,List.filterMap_eq_nil_iff]
   intro x hx
   rw [(List.mem_replicate.mp hx).2]
   rfl
  rw [this]
  exact .refl _) (by rw [ar];omega)
 have hc:tu mask hs=some o:=by
  rw [D4,h1]
  rfl
 rw [ED,ar] at h3
 refine ⟨_,_,by unfold yP;rw [hc];rfl,?_,?_⟩
 ·have e:=congrArg n8 (GT h2)
  rw [h3.length_eq,dS] at e
  rw [aM,av,<- e]
  rw [wl,wl]
  congr 1
  funext j
  cases o.getD j none<;>rfl
 ·rw [List.map_filterMap]
  refine .trans (.of_eq ?_) h3
  rw [<- GT h2]
  show List.filterMap _ _=List.filterMap _ _
  congr 1
  funext j
  cases o.getD j none<;>rfl
end L2
namespace L2
open PySem
section
variable {P:aK}{w:aY}{A:b6}{E:a8->ac->Prop}{s:ac}
theorem LZ:∀ n:_root_.Fin 31,n.val<cm n.val/\(cm n.val=8\/cm n.val=16\/cm n.val=32):=by decide +kernel
theorem L_ {n:Nat} (h:n<=30):n<=cm n - 1/\JK (cm n - 1)/\cm n<=32:=by
 obtain ⟨h1,h2⟩:=LZ ⟨n,by omega⟩
 simp only at h1 h2
 unfold JK
 omega
theorem xL {es:Array (Int×a8)}{order:Array Nat} (h:order.toList.Perm (bi es.size)):(order.filterMap (es[·]?)).toList.Perm es.toList:=by
 rw [Array.toList_filterMap]
 refine (h.filterMap _).trans (.of_eq ?_)
 have e:(bi es.size).map (fun i=>es[i]?)=es.toList.map some:=by
  refine wI (by simp) fun i h1 h2=>?_
  simp only [av,dS] at h1
  rw [wL,JD,wL,Array.getElem_toList]
  exact iB h1
 have e2:(bi es.size).filterMap (fun i=>es[i]?)=((bi es.size).map (fun i=>es[i]?)).filterMap id:=by rw [lW];rfl
 rw [e2,e,lW]
 simp
theorem cP.of {h:bp}{a:ah}{es es':Array (Int×a8)}{ep:Nat}{t t':ef} (I:cP w h a es ep t) (p:es'.toList.Perm es.toList) (f:t'.fits es'.size=true) (l:t'.led=t.led) (pl:t'.plain=t.plain):cP w (h.update a (pK es' t')) a es' (ep + 1) t':=by
 have sz:es'.size=es.size:=by rw [<- ar,p.length_eq,ar]
 refine ⟨qL I,fun e he=>I.txt e (p.mem_iff.mp he),(p.map jv).nodup_iff.mpr I.nd,by rw [sz];exact I.few,f,l.trans I.led,?_⟩
 rw [sz,pl]
 exact I.pl
theorem xM {t:ef}{n:Nat} (h:t.fits n=true):t.place.size=n/\t.fill<=t.mask:=by
 unfold lY at h
 rw [aN] at h
 exact ⟨eq_of_beq h.1,of_decide_eq_true h.2⟩
theorem GV {mask finger moves:Nat}{led plain:Bool}{place:Array Nat}{n:Nat} (h:place.size=n) (hm:n<=mask):lY { mask,place,dummies:=#[],finger,led,moves,plain } n=true:=by
 unfold lY J_
 subst h
 simp only [beq_self_eq_true,tQ,decide_eq_true_eq]
 exact hm
theorem Fj {a:ah}{es:Array (Int×a8)}{ep:Nat}{t:ef}{wanted:Nat}{Q:Unit->ac->Prop} (I:cP w s.heap a es ep t) (hw:wanted<=30) (hz:es.size<=wanted)
  (h:∀ h' es' ep' t',bG a s.heap h'->cP w h' a es' ep' t'->es'.toList.Perm es.toList->JK t'.mask->wanted<=t'.mask->Q () { s with heap:=h' }):au (aP P w) A (setRelay a wanted) Q E s:=by
 obtain ⟨w1,w2,w3⟩:=L_ hw
 obtain ⟨place,order,e,hp,ho⟩:=GU (finger:=t.finger) (moves:=t.movedTo (cm wanted - 1)) (led:=t.led) (plain:=t.plain) (hs:=es.map (·.1)) w2 (by rw [rm];omega)
 rw [rm] at hp ho
 have pm:=xL ho
 have sz:(order.filterMap (es[·]?)).size=es.size:=by rw [<- ar,pm.length_eq,ar]
 unfold setRelay
 refine a7 (bv I.at_ rfl I.fits ?_)
 show au _ _ (if cm wanted > sizeLine then _ else _) _ _ s
 have h32:(32:Nat)<=sizeLine:=by decide
 rw [if_neg (by omega)]
 refine a7 ?_
 unfold HJ
 rw [e]
 show au _ _ (if ((order.filterMap (es[·]?)).size != es.size)=true then _ else pure (order.filterMap (es[·]?),_)) _ _ s
 rw [if_neg (by rw [sz];simp)]
 refine ae ?_
 have fit:lY { mask:=cm wanted - 1,place,dummies:=#[],finger:=t.finger,led:=t.led,moves:=t.movedTo (cm wanted - 1),plain:=t.plain } (order.filterMap (es[·]?)).size=true:=GV (by rw [sz];exact hp) (by rw [sz];omega)
 refine iA I.at_ rfl ?_ (by rw [sz];exact fk I.few)
 exact h _ _ _ _ (bS s.heap a _) (I.of pm fit rfl rfl) pm w2 w1
theorem Bh {a:ah}{es:Array (Int×a8)}{ep:Nat}{t:ef}{more:Nat}{Q:Unit->ac->Prop} (I:cP w s.heap a es ep t) (hz:es.size + more<=15) (hm:es.size≠0\/JK t.mask)
  (h:∀ h' es' ep' t',bG a s.heap h'->cP w h' a es' ep' t'->es'.toList.Perm es.toList->(es.size≠0\/JK t'.mask)->more<=t'.mask->Q () { s with heap:=h' }):au (aP P w) A (setRoomFor a more) Q E s:=by
 obtain ⟨f1,f2⟩:=xM I.fits
 unfold setRoomFor
 refine a7 (bv I.at_ rfl I.fits ?_)
 dsimp only
 unfold SetTable.roomFor
 by_cases hc:(t.fill + more) * 5 ≥ t.mask * 3
 ·rw [if_pos hc]
  refine Fj I (by rw [f1];omega) (by rw [f1];omega) fun h' es' ep' t' a1 a2 a3 a4 a5=>?_
  exact h h' es' ep' t' a1 a2 a3 (.inr a4) (by rw [f1] at a5;omega)
 ·rw [if_neg hc]
  exact ae (h s.heap es ep t (.refl ..) I (.refl _) hm (by omega))
end
end L2
namespace L2
open PySem
theorem wQ {α σ:Type}{M:yT}{A:b6}{E:a8->ac->Prop}{Q:σ->ac->Prop}{f:α->σ->Sem (ForInStep σ)}{b:σ} (I:List α->ac->Prop)
  (step:∀ x r s,I (x::r) s->au M A (f x b) (fun st s'=>st=.yield b/\I r s') E s) (fin:∀ s,I [] s->Q b s):∀ (l:List α) (s:ac),I l s->au M A (forIn l b f) Q E s
 | [],s,h=>by rw [rF];exact ae (fin s h)
 | x::r,s,h=>by
  rw [l9]
  refine a7 (bI (step x r s h) (fun st s' q=>?_) fun _ _ e=>e)
  obtain ⟨rfl,q⟩:=q
  exact wQ I step fin r s' q
section
variable {P:aK}{w:aY}{A:b6}{E:a8->ac->Prop}{s:ac}
theorem D5 {l:List ah}{Q:Bool->ac->Prop} (h:∀ a∈l,∃ es ep t,cP w s.heap a es ep t) (q:Q true s):au (aP P w) A (setsQuiet l) Q E s:=by
 unfold setsQuiet
 refine a7 (wQ (fun r s'=>s'=s/\∀ a∈r,∃ es ep t,cP w s.heap a es ep t) (fun a r s' hI=>?_) (fun s' hI=>?_) l s ⟨rfl,h⟩)
 ·obtain ⟨rfl,hI⟩:=hI
  obtain ⟨es,ep,t,I⟩:=hI a al
  unfold setEntries
  refine a7 (a7 (bv I.at_ rfl I.fits (ae ?_)))
  dsimp only
  rw [<- HL]
  refine a7 (wQ (fun r2 s2=>s2=s'/\∀ e∈r2,si w e) (fun e r2 s2 h2=>?_) (fun s2 h2=>?_) es.toList s' ⟨rfl,I.txt⟩)
  ·obtain ⟨rfl,h2⟩:=h2
   obtain ⟨x,tk,rfl⟩:=h2 e al
   exact ae ⟨rfl,rfl,fun e he=>h2 e (aj _ he)⟩
  ·obtain ⟨rfl,_⟩:=h2
   exact ae ⟨rfl,rfl,fun b hb=>hI b (aj _ hb)⟩
 ·obtain ⟨rfl,_⟩:=hI
  exact ae q
theorem IG {o:ah}{es:Array (Int×a8)}{ep:Nat}{t:ef}{Q:Array (Int×a8)->ac->Prop} (I:cP w s.heap o es ep t) (hb:w.params.followText "set-order"=true\/t.plain=true\/es.size<=1)
  (q:∀ es',es'.toList.Perm es.toList->Q es' s):au (aP P w) A (setWalk o) Q E s:=by
 unfold setWalk
 refine a7 (bv I.at_ rfl I.fits (a7 (fe ?_)))
 cases hw:w.params.followText "set-order" with
 | true =>
  simp only [if_true]
  exact a7 (gQ (ae (q _ (v4 _ _))))
 | false =>
  simp only [bM,if_false]
  have hd:(!t.plain && decide (es.size > 1))=false:=by
   rcases hb with h | h | h
   ·rw [hw] at h;cases h
   ·rw [h];rfl
   ·rw [decide_eq_false (by omega),m6]
  have hl:t.led=true:=by rw [I.led,hw];rfl
  show au _ _ (if (!t.plain && decide (es.size > 1))=true then _ else _) _ _ s
  rw [hd,if_neg a_]
  refine a7 ?_
  show au _ _ (if (!t.led && decide (es.size > 1))=true then _ else pure ()) _ _ s
  rw [hl,if_neg (by simp)]
  exact ae (ae (q _ (.refl _)))
theorem wx {o a:ah}{eo es:Array (Int×a8)}{epo ep:Nat}{to t:ef}{Q:Array (Int×a8)->ac->Prop} (I:cP w s.heap o eo epo to) (J:cP w s.heap a es ep t)
  (q:∀ h' es' ep' t',bG a s.heap h'->cP w h' a es ep' t'->es'.toList.Perm eo.toList->Q es' { s with heap:=h' }):au (aP P w) A (setWalkUnseen o [a] (some a)) Q E s:=by
 unfold setWalkUnseen
 refine a7 (bv I.at_ rfl I.fits (a7 (fe ?_)))
 cases hc:(w.params.followText "set-order" || to.led && to.plain || decide (eo.size<=1)) with
 | true =>
  rw [if_pos rfl]
  refine IG I ?_ fun es' p=>q s.heap es' ep t (.refl ..) J p
  rw [ja,ja,aN,decide_eq_true_eq] at hc
  rcases hc with (h | h) | h
  ·exact .inl h
  ·exact .inr (.inl h.2)
  ·exact .inr (.inr h)
 | false =>
  rw [if_neg a_]
  rw [G8,G8,decide_eq_false_iff_not] at hc
  obtain ⟨⟨c1,_⟩,c3⟩:=hc
  refine a7 (D5 (fun b hb=>?_) ?_)
  ·rcases List.mem_cons.mp hb with h | h
   ·rw [h];exact ⟨_,_,_,I⟩
   ·rw [List.mem_singleton.mp h];exact ⟨_,_,_,J⟩
  rw [if_neg (by simp)]
  refine a7 (gJ ?_)
  dsimp only
  refine a7 (bv J.at_ rfl J.fits ?_)
  dsimp only
  have hpl:to.plain=false:=I.pl.resolve_left (by omega)
  have hled:(t.led && to.led)=t.led:=by rw [I.led,J.led,nN]
  split
  ·refine a7 (iA J.at_ rfl ?_ (fk J.few))
   refine ae (q _ _ _ _ (bS s.heap a _) (⟨qL J,J.txt,J.nd,J.few,?_,?_,?_⟩:cP w _ a es (ep + 1) _) (.refl _))
   ·exact J.fits
   ·exact hled.trans J.led
   ·exact .inr (by show (t.plain && to.plain)=false;rw [hpl,m6])
  ·exact ae (q s.heap eo ep t (.refl ..) J (.refl _))
end
end L2
namespace L2
open PySem
section
variable {P:aK}{w:aY}{A:b6}{E:a8->ac->Prop}{s:ac}
theorem cP.but {h h':bp}{a o:ah}{eo:Array (Int×a8)}{epo:Nat}{to:ef} (I:cP w h o eo epo to) (ne:a≠o) (sb:bG a h h'):cP w h' o eo epo to:=I.keep fun _ e=>(sb.2 o (cW ne)).trans e
theorem xN {a o:ah}{es eo:Array (Int×a8)}{ep epo:Nat}{t to:ef}{each:Sem Unit}{Q:Unit->ac->Prop} (ne:a≠o) (J:cP w s.heap a es ep t) (I:cP w s.heap o eo epo to)
  (hz:es.size + eo.size<=15) (hm:es.size≠0\/JK t.mask) (he:∀ (s':ac) (Q':Unit->ac->Prop),cP w s'.heap o eo epo to->Q' () s'->au (aP P w) A each Q' E s')
  (q:∀ h' tk' es' ep' t',bG a s.heap h'->cP w h' a es' ep' t'->(∀ x,x∈es'.toList.map jv↔x∈es.toList.map jv\/x∈eo.toList.map jv)->(es'.size≠0\/JK t'.mask)->Q () { s with heap:=h',toks:=tk' }) :
  au (aP P w) A (setMerge a o each) Q E s:=by
 unfold setMerge
 rw [if_neg (by simpa using ne)]
 refine a7 (bv I.at_ rfl I.fits ?_)
 dsimp only
 by_cases h0:eo.size=0
 ·rw [if_pos (by simpa [Array.isEmpty] using h0)]
  have e0:eo=#[]:=kg h0
  exact ae (q s.heap s.toks es ep t (.refl ..) J (fun x=>by rw [e0];simp) hm)
 rw [if_neg (by simpa [Array.isEmpty] using h0)]
 refine a7 (Bh J hz hm fun h1 es1 ep1 t1 sb1 J1 p1 m1 r1=>?_)
 have I1:=I.but ne sb1
 have sz1:es1.size=es.size:=by rw [<- ar,p1.length_eq,ar]
 refine a7 (bv (s:={ s with heap:=h1 }) J1.at_ rfl J1.fits ?_)
 dsimp only
 obtain ⟨f1,f2⟩:=xM J1.fits
 have hpl:to.plain=false:=I.pl.resolve_left h0
 have hled:(t1.led && to.led)=t1.led:=by rw [I.led,J1.led,nN]
 have kp:∀ x,x∈es1.toList.map jv↔x∈es.toList.map jv:=fun x=>(p1.map jv).mem_iff
 by_cases hf:t1.fill=0
 ·have e1:es.size=0:=by
   unfold J_ at hf
   omega
  have mk:JK t1.mask:=m1.resolve_left (by omega)
  have ee:es=#[]:=kg e1
  unfold K0
  rw [if_neg (by rw [hf];decide)]
  split
  ·refine iA (s:={ s with heap:=h1 }) J1.at_ rfl ?_ (fk I.few)
   refine q _ s.toks _ _ _ (sb1.trans (bS h1 a _)) (⟨qL J1,I.txt,I.nd,I.few,?_,?_,?_⟩:cP w _ a eo (ep1 + 1) _) (fun x=>by rw [ee];simp) (.inl h0)
   ·exact I.fits
   ·exact hled.trans J1.led
   ·exact .inr (by show (t1.plain && to.plain)=false;rw [hpl,m6])
  ·obtain ⟨place,order,e,hp,ho⟩:=GU (finger:=t1.finger) (moves:=t1.moves) (led:=t1.led && to.led) (plain:=t1.plain && to.plain) (hs:=eo.map (·.1)) mk (by rw [rm];exact r1)
   rw [rm] at hp ho
   have pm:=xL ho
   have sz:(order.filterMap (eo[·]?)).size=eo.size:=by rw [<- ar,pm.length_eq,ar]
   refine a7 ?_
   rw [e]
   show au _ _ (if ((order.filterMap (eo[·]?)).size != eo.size)=true then _ else pure (order.filterMap (eo[·]?),_)) _ _ _
   rw [if_neg (by rw [sz];simp)]
   refine ae ?_
   refine iA (s:={ s with heap:=h1 }) J1.at_ rfl ?_ (by rw [sz];exact fk I.few)
   refine q _ s.toks _ _ _ (sb1.trans (bS h1 a _)) (⟨qL J1,fun x hx=>I.txt x (pm.mem_iff.mp hx),(pm.map jv).nodup_iff.mpr I.nd,by rw [sz];exact I.few,GV (by rw [sz];exact hp) (by rw [sz];exact r1),hled.trans J1.led,.inr ?_⟩:cP w _ a (order.filterMap (eo[·]?)) (ep1 + 1) _) (fun x=>?_) (.inl (by rw [sz];exact h0))
   ·show (t1.plain && to.plain)=false;rw [hpl,m6]
   ·rw [(pm.map jv).mem_iff,ee];simp
  ·rename_i hq
   split at hq<;>cases hq
 ·unfold K0
  rw [if_pos (by simpa using hf)]
  dsimp only
  refine a7 (wx (s:={ s with heap:=h1 }) I1 J1 fun h2 es2 ep2 t2 sb2 J2 p2=>?_)
  rw [<- HL]
  have hl:es2.toList.length=eo.size:=by rw [p2.length_eq,ar]
  refine a7 (wQ (fun r s'=>∃ h' tk' e' p' t',s'={ s with heap:=h',toks:=tk' }/\bG a s.heap h'/\cP w h' a e' p' t'/\e'.size + r.length<=15/\(∀ e∈r,si w e)/\∀ x,(x∈e'.toList.map jv\/x∈r.map jv)↔x∈es.toList.map jv\/x∈eo.toList.map jv) ?_ ?_ es2.toList _ ⟨h2,s.toks,es1,ep2,t2,rfl,sb1.trans sb2,J2,by omega,fun e he=>I.txt e (p2.mem_iff.mp he),fun x=>by rw [kp,(p2.map jv).mem_iff]⟩)
  ·rintro e r s' ⟨h',tk',e',p',t',rfl,sb',J',z',tx',k'⟩
   obtain ⟨x,tk,rfl⟩:=tx' e al
   simp only [aW] at z'
   dsimp only
   refine a7 (e6 (zP (s:={ s with heap:=h',toks:=tk' }) (⟨e',p',t',J',.refl _⟩:kH w h' a (e'.toList.map jv)) (by rw [av,ar];exact aJ (show e'.size + 1<100 by omega) (by decide)) fun h'' tk'' sb'' S''=>?_))
   obtain ⟨e'',p'',t'',J'',pm''⟩:=S''
   have sb3:=sb'.trans sb''
   have I3:=I.but ne sb3
   refine a7 (he _ _ I3 ?_)
   refine a7 (bv (s:={ s with heap:=h'',toks:=tk'' }) I3.at_ rfl I3.fits ?_)
   dsimp only
   rw [if_neg (by simp)]
   refine ae ⟨rfl,h'',tk'',e'',p'',t'',rfl,sb3,J'',?_,fun e he=>tx' e (aj _ he),fun y=>?_⟩
   ·have:=pm''.length_eq
    rw [av,ar] at this
    have l2:(if x∈e'.toList.map jv then e'.toList.map jv else e'.toList.map jv++[x]).length<=e'.size + 1:=by
     split<;>simp
    omega
   ·rw [<- k' y,pm''.mem_iff]
    have ek:jv (hashStr w x,jd x tk)=x:=rfl
    rw [aO,aZ,ek]
    split
    ·rename_i hx
     constructor
     ·rintro (h | h)
      ·exact .inl h
      ·exact .inr (.inr h)
     ·rintro (h | h | h)
      ·exact .inl h
      ·rw [h];exact .inl hx
      ·exact .inr h
    ·rw [pL,dE]
     constructor
     ·rintro ((h | h) | h)
      ·exact .inl h
      ·exact .inr (.inl h)
      ·exact .inr (.inr h)
     ·rintro (h | h | h)
      ·exact .inl (.inl h)
      ·exact .inl (.inr h)
      ·exact .inr h
  ·rintro s' ⟨h',tk',e',p',t',rfl,sb',J',z',tx',k'⟩
   refine ae (q h' tk' e' p' t' sb' J' (fun x=>?_) (.inl ?_))
   ·rw [<- k' x];simp
   ·intro e0
    obtain ⟨e,hh⟩:∃ e,e∈eo.toList:=by
     cases hq:eo.toList with
     | nil=>rw [<- ar,hq] at h0;exact absurd rfl h0
     | cons e r=>exact ⟨e,al⟩
    have:=(k' (jv e)).mpr (.inr (iK hh))
    rw [kg e0] at this
    simp at this
end
end L2
namespace L2
open PySem PyProof.Rows
theorem Bj:Ew table "set.__or__"=some jw.«frozenset.__or__»:=Ex (id':="frozenset.__or__") (by kernel_rfl) rfl (by decide +kernel) (by kernel_rfl)
section
variable {P:aK}{w:aY}{A:b6}{E:a8->ac->Prop}{s:ac}
theorem cP.ty {a:ah}{es:Array (Int×a8)}{ep:Nat}{t:ef} (I:cP w s.heap a es ep t):s.TypeIs (.ref a) "set":=⟨_,I.at_,rfl⟩
theorem sA {a:ah}{es:Array (Int×a8)}{ep:Nat}{t:ef}{Q:Bool->ac->Prop} (I:cP w s.heap a es ep t) (q:Q true s):au (aP P w) A (rn (.ref a)) Q E s:=by
 unfold rn
 refine a7 (j8 I.ty JX ?_)
 exact ae q
theorem M0 {h:bp}{a:ah} (e:h.get? a=some (eW w)):cP w h a #[] 0 (.fresh 0 0 (!w.params.followText "set-order")) :=
 ⟨e,(fun _ h=>nomatch h),ip,by decide,rfl,rfl,.inl rfl⟩
theorem Ox {a b:ah}{xs ys:List Str}{Q:a8->ac->Prop} (ha:kH w s.heap a xs) (hb:kH w s.heap b ys) (ne:a≠b) (hz:xs.length + ys.length<=15)
  (q:∀ h' tk',bG s.heap.objs.size (s.heap.push (eW w)) h'->kH w h' s.heap.objs.size (cY xs ys)->Q (.ref s.heap.objs.size) { s with heap:=h',toks:=tk' }) :
  au (aP P w) A (fZ .BitOr (.ref a) (.ref b)) Q E s:=by
 obtain ⟨ea,pa,ta,Ia,ma⟩:=ha
 obtain ⟨eb,pb,tb,Ib,mb⟩:=hb
 have sa:ea.size=xs.length:=by rw [<- ma.length_eq,av,ar]
 have sb:eb.size=ys.length:=by rw [<- mb.length_eq,av,ar]
 refine wpAny_binaryOp_same Ia.ty Ib.ty F.fills_set_or F.slot_set_or (cE F.slot_set_or Ia.ty Bj ?_ (F.args_set_or_2 _ _))
 have lt1:a<s.heap.objs.size:=am Ia.at_
 have lt2:b<s.heap.objs.size:=am Ib.at_
 show au _ _ (Nw "__or__" ⟨[.ref a,.ref b],[]⟩ >>= _) _ _ s
 refine a7 (a7 (ae (ae ?_)))
 dsimp only
 refine a7 (a7 (sA Ia (sA Ib ?_)))
 rw [if_neg (by simp)]
 refine a7 (ae (a7 ?_))
 show au _ _ (sf a >>= _) _ _ s
 refine a7 ?_
 unfold sf Nx
 refine a7 (a7 (j8 Ia.ty JX (ae ?_)))
 rw [if_pos rfl]
 refine a7 (rM ?_)
 have g0:(s.heap.push (eW w)).get? s.heap.objs.size=some (eW w):=aC _ rfl
 have J0:=M0 g0
 have Ia1:cP w (s.heap.push (eW w)) a ea pa ta:=Ia.keep fun _ e=>af _ e
 have Ib1:cP w (s.heap.push (eW w)) b eb pb tb:=Ib.keep fun _ e=>af _ e
 have na:s.heap.objs.size≠a:=cW (aE lt1)
 have nb:s.heap.objs.size≠b:=cW (aE lt2)
 refine a7 (ae (a7 (xN (s:={ s with heap:=s.heap.push (eW w) }) na J0 Ia1 (by show 0 + ea.size<=15;omega) (.inr (.inl rfl)) (fun _ _ _ q=>ae q) fun h1 tk1 e1 p1 t1 sb1 J1 k1 m1=>ae ?_)))
 have Ib2:=Ib1.but nb sb1
 have n1:(e1.toList.map jv).length<=ea.size:=by
  have:=(m7 J1.nd Ia.nd).mpr fun x=>by rw [k1];simp
  rw [this.length_eq,av,ar]
  exact ao _
 rw [av,ar] at n1
 show au _ _ (if (c6 b != c6 a)=true then _ else _) _ _ _
 rw [if_pos (by simp;exact cW ne)]
 refine a7 (ae (a7 (e6 ?_)))
 show au _ _ (j7 _ s.heap.objs.size (c6 b)) _ _ _
 unfold j7
 refine a7 (sA (s:={ s with heap:=h1,toks:=tk1 }) Ib2 ?_)
 rw [if_pos rfl]
 refine a7 (ae ?_)
 unfold Ny setEpoch
 refine a7 (a7 (bv (s:={ s with heap:=h1,toks:=tk1 }) Ib2.at_ rfl Ib2.fits (ae ?_)))
 refine xN (s:={ s with heap:=h1,toks:=tk1 }) nb J1 Ib2 (by omega) m1 (fun s' Q' I' q'=>?_) fun h2 tk2 e2 p2 t2 sb2 J2 k2 m2=>?_
 ·unfold Nz setEpoch
  refine a7 (a7 (bv I'.at_ rfl I'.fits (ae ?_)))
  dsimp only
  rw [if_neg (by simp)]
  exact ae q'
 ·refine ae (ae ⟨_,rfl,(fun z=>nomatch z),q h2 tk2 (sb1.trans sb2) ⟨e2,p2,t2,J2,?_⟩⟩)
  refine (m7 J2.nd (hZ _ _ (ma.nodup_iff.mp Ia.nd))).mpr fun x=>?_
  rw [k2,i8,k1,ma.mem_iff,mb.mem_iff]
  simp
end
end L2
namespace L2
open PySem PyProof.Rows
theorem Rk {X:Cx}:pE X (fZ .BitOr) (fun x y H Q=>∃ a b xs ys,x=.ref a/\y=.ref b/\a≠b/\H a=some (kS X.w a xs)/\H b=some (kS X.w b ys)/\xs.length + ys.length<=15/\∀ p,H p=none->Q (.ref p) (upd H p (kS X.w p (cY xs ys)))):=by
 intro pins s σ H x y v u Q I rx ry h
 obtain ⟨a,b,xs,ys,rfl,rfl,ne,ha,hb,hz,q⟩:=h
 cases rx
 cases ry
 have Sa:=(show dL X.prog X.w H s.heap a (kS X.w a xs) from I.hok a _ ha).1
 have Sb:=(show dL X.prog X.w H s.heap b (kS X.w b ys) from I.hok b _ hb).1
 refine Ox Sa Sb ne hz fun h' tk' sb S=>?_
 refine ⟨.ref s.heap.objs.size,_,I.laid (t':=tk') (fun b o e=>?_) (ao _) (AU S),rfl,q _ (I.hok.fresh (ao _))⟩
 exact (sb.2 b (aE (am e))).trans (af _ e)
end L2
namespace J
open PySem L2
section
variable {c:C}{a b:aV}{ga gb:ap->R (List Str)}{pos:Pos}
def Rl (xs ys:List Str):R (List Str):=if xs.length + ys.length<=15 then .ok (cY xs ys) else .no
def M1 (ga gb:ap->R (List Str)):ap->R (List Str):=fun ρ=>(ga ρ).bind fun xs=>(gb ρ).bind (J.Rl xs)
theorem Rm (ha:Oo c a ga) (hb:Oo c b gb):Oo c (.BinOp a .BitOr b pos) (M1 ga gb):=.of fun ρ=>rN (Pj Rk (ha ρ) (hb ρ)) fun σ H Q h_0=>by
 obtain ⟨H0,Hs0,la,Hs,f,q⟩:=h_0
 refine GD (w:=c.X.w) f q fun xs p H1 Hs1 e1 s1 f1 n1=>?_
 unfold M1 at q
 rw [e1,bind_ok] at q
 have s2:cD H1 Hs1 (upd H1 p (kS c.X.w p xs)) Hs1:=.mine f1.st.sub n1
 refine GD (w:=c.X.w) (f1.step s2) (q.on (s1.trans s2) (q':=fun _=>True) fun _ _=>trivial) fun ys p2 H2 Hs2 e2 s3 f2 n2=>?_
 rw [e2,bind_ok] at q
 unfold J.Rl at q
 by_cases hz:xs.length + ys.length<=15
 ·rw [if_pos hz] at q
  have k1:H2 p=some (kS c.X.w p xs):=s3.all p _ bq
  have ne:p≠p2:=fun z=>by rw [z,n2] at k1;cases k1
  have s4:cD H2 Hs2 (upd H2 p2 (kS c.X.w p2 ys)) Hs2:=.mine f2.st.sub n2
  exact ⟨p,p2,xs,ys,rfl,rfl,ne,by rw [bj ne];exact k1,bq,hz,fun l hl=>q l _ _ (s1.trans (s2.trans (s3.trans s4))) hl⟩
 ·rw [if_neg hz] at q;exact q.elim
end
end J
namespace J
open PySem L2
section
variable {c:C}{a b:aV}{gs:ap->R (List D)}{pos px py pt pt2:Pos}{x y:Str}
def V8 (i j:Nat) (ρ:ap):List D->R Fl
 | [d,e]=>.ok (.nx ((ρ.set i (.shr d)).set j (.shr e)))
 | _=>.no
def M2 (i j:Nat) (gs:ap->R (List D)):ap->R Fl:=fun ρ=>(gs ρ).bind (V8 i j ρ)
theorem Rn (i j:Nat) {kt k2:_} (hc:c.X.calm=true) (hN:c.X.N.Nodup) (ha:Ej c [a,b] gs) (hi:c.X.N[i]?=some x:=by rfl) (hj:c.X.N[j]?=some y:=by rfl) (hij:i≠j:=by decide)
  (hx:c.X.env.scope.names.lookup x=some .local:=by rfl) (hy:c.X.env.scope.names.lookup y=some .local:=by rfl) (hw:wE [.Tuple [.Name x px,.Name y py] kt pt] (.Tuple [a,b] k2 pt2) c.X.env=pure (some [x,y]):=by rfl)
  (hs:wD [.Tuple [.Name x px,.Name y py] kt pt] (.Tuple [a,b] k2 pt2) pos.line c.X.env=pure false:=by rfl):JS c (.Assign [.Tuple [.Name x px,.Name y py] kt pt] (.Tuple [a,b] k2 pt2) pos) (M2 i j gs):=.of fun ρ=>yS (QA hc hN hi hj hij hx hy (ha ρ) hw hs) fun D σ H h_0=>by
 obtain ⟨H0,Hs0,la,Hs,f,q⟩:=h_0
 refine ⟨H0,Hs0,la,Hs,f,?_⟩
 unfold M2 at q
 cases hr:gs ρ with
 | ok ds =>
  rw [hr,bind_ok] at q
  intro vs H' Hs' s r
  match ds,r,q with
  | [],_,q=>exact q.elim
  | [_],_,q=>exact q.elim
  | [d,e],.cons r1 (.cons r2 .nil),q=>exact ⟨_,_,rfl,q _ _ Hs' (((f.step s).set i r1).set j r2)⟩
  | _::_::_::_,_,q=>exact q.elim
 | ex z n =>
  rw [hr] at q
  exact fun H' Hs' s=>q H' Hs' (f.st.trans s)
 | no=>rw [hr] at q;exact q.elim
end
end J
namespace J
open PySem L2
end J
end
section
namespace L2
open PySem PySem.Spec PyProof.Rows
theorem Bk:Et (.type "list") "keys"=pure none:=by rw [C2,tO];kernel_rfl
theorem A9:Ew table "dict.update.loop"=some jw.«dict.update.loop»:=entryFor_of_tree (by kernel_rfl)
theorem qQ:plainId "dict.update.loop"=true:=by decide +kernel
section
variable {prog:aK}{w:aY}{A:b6}{E:a8->ac->Prop}{s:ac}{R:rZ->ac->Prop}
theorem xO {a:ah}{o:Obj}{xs:Array a8}{k:Nat}{Q:Option a8->ac->Prop}
  (hx:s.heap.get? a=some o) (hc:o.cls=.type "list") (hdat:o.data=.seq xs k) (hd:o.dict=none) (hA:A.handled=none)
  (h:∀ h' tk,(∀ b o,s.heap.get? b=some o->h'.get? b=some o)->Q none { s with heap:=h',toks:=tk }) :
  au (aP prog w) A (getAttr? (.ref a) "keys") Q E s:=by
 obtain ⟨c,dct,dat,sl⟩:=o
 simp only at hc hdat hd
 subst hc hdat hd
 obtain ⟨hp,g,d,tk,os⟩:=s
 have hT:∀ tk',(⟨hp,g,d,tk',os⟩:ac).TypeIs (.ref a) "list":=fun _=>⟨_,hx,rfl⟩
 have f1:=sub_AttributeError
 have f3:=F.slot_list_getattribute.lookup
 have f4:=F.slot_list_getattribute.bind (.ref a)
 have f5:=am_list_getattr_none
 have hname:(["__module__","__name__","__qualname__","__doc__","__annotations__"] : List Str).contains "keys"=false:=by decide +kernel
 unfold getAttr? getAttrBy? getAttrBy
 repeat (any_goals (first | assumption | exact hT _ | ((with_reducible show au _ _ (call (Value.builtin "list.__getattribute__") _ _) _ _ _);refine call_meets F.slot_list_getattribute (hT _) am_entry_list_getattribute (F.args_list_getattribute_2 _ _) (meets_getattribute_miss_list a xs k sl "keys" _ Bk hname (by size_fits)) ⟨hx,hA,fun h' tk' e hx'=>?_⟩) | wp_step))
 have ha:=hx'.of
 obtain ⟨ob,vs,he,hc,_⟩:=ha.there
 have hTe:(⟨h',g,d,tk',os⟩:ac).TypeIs (.ref e) "AttributeError":=⟨_,he,hc⟩
 show au _ _ (getattributeRaised _ _ _ _ _ _ _) _ _ _
 unfold getattributeRaised
 repeat (any_goals (first | assumption | wp_step))
 exact h _ _ ha.keeps
end
end L2
namespace L2
open PySem PySem.Spec PyProof.Rows
def Q9 (acc:List (fi×a8)) (l:List (fi×a8×a8)):List (fi×a8):=l.foldl (fun a t=>JU a t.1 t.2.2) acc
theorem Fk (kvs:List (fi×a8)) (k:fi) (v:a8):(JU kvs k v).length<=kvs.length + 1:=by
 unfold JU
 split<;>simp
section
variable {prog:aK}{w:aY}{A:b6}{E:a8->ac->Prop}{s:ac}{R:rZ->ac->Prop}
theorem zk {I:ah}{fp wr:List ah}{n:Nat}{Pv:Nat->a8->Prop}{St:Nat->bp->Prop} (W:Jx prog w A.in1 I fp wr n Pv St) (D:ah) (hD:D∉fp) (xs:List (fi×a8×a8)) (pa:List ah) (hx:xs.length=n)
  (hv:∀ i v,Pv i v->∃ p x,pa[i]?=some p/\xs[i]?=some x/\v=.ref p) (hk:∀ x∈xs,(dJ prog w).is x.1 x.2.1=true) (hp:∀ p∈pa,p∉D::wr) (hb:n<=1000) :
  ∀ (k i:Nat) (s:ac) (acc:List (fi×a8)) (j:Int),n - i=k->i<=n->acc.length<=i->St i s.heap->s.heap.DictOf (dJ prog w) D acc->(∀ (i:Nat) (p:ah) (x:fi×a8×a8),pa[i]?=some p->xs[i]?=some x->Jn s.heap p #[x.2.1,x.2.2]) ->
   (∀ h' tk,(∀ b o,b∉D::wr->s.heap.get? b=some o->h'.get? b=some o)->h'.DictOf (dJ prog w) D (Q9 acc (xs.drop i))->R (.ok (.ret .none)) { s with heap:=h',toks:=tk }) ->
   iy (aP prog w) A (.builtin "dict.update.loop" ⟨[.ref D,.ref I,cu j,.none],[]⟩) R s:=by
 have hDw:D∉wr:=fun z=>hD (W.sub _ z)
 intro k
 induction k with
 | zero =>
  intro i s acc j hk' hi hl st hS hT hR
  obtain rfl:i=n:=by omega
  refine gD A9 ?_
  rw [eJ qQ _]
  show au _ A.in1 (mF (.ref I) >>= _) _ _ s
  refine a7 (W.done s _ _ st fun h' tk kp=>?_)
  show au _ _ (Builtin.Dict.addKeywords D [] >>= _) _ _ _
  refine a7 (ae (ae (hR h' tk (fun b o hb e=>kp b o (fun z=>hb (aj _ z)) e) ?_)))
  rw [Ef (by omega)]
  obtain ⟨o,es,ep,e,r⟩:=hS
  exact ⟨o,es,ep,kp D o hDw e,r⟩
 | succ k ih =>
  intro i s acc j hk' hi hl st hS hT hR
  have hlt:i<n:=by omega
  refine gD A9 ?_
  rw [eJ qQ _]
  show au _ A.in1 (mF (.ref I) >>= _) _ _ s
  refine a7 (W.item i s _ _ hlt st fun v h' tk hP st' kp=>?_)
  obtain ⟨p,x,hpi,hxi,rfl⟩:=hv i v hP
  have hpm:=hp p (b_ hpi)
  have hS':h'.DictOf (dJ prog w) D acc:=by
   obtain ⟨o,es,ep,e,r⟩:=hS
   exact ⟨o,es,ep,kp D o hDw e,r⟩
  obtain ⟨ot,et,ct,nt,dt⟩:=hT i p x hpi hxi
  have et':h'.get? p=some ot:=kp p ot (fun z=>hpm (aj _ z)) et
  have hkx:=hk x (b_ hxi)
  refine a7 (e6 (a7 (wpAny_tryCatch ?_)))
  unfold Builtin.Dict.pairItems
  refine a7 (kE (T:="tuple") (s:={ s with heap:=h',toks:=tk }) ⟨_,et',ct⟩ ?_)
  rw [if_pos (by decide)]
  refine a7 (eg (s:={ s with heap:=h',toks:=tk }) et' dt (ae ?_))
  show au _ _ (holding [x.2.1,x.2.2] (dictSet D x.2.1 x.2.2)) _ _ _
  refine e6 ?_
  unfold dictSet
  refine e6 (a7 ((dJ prog w).pyHash (k:=x.1) hkx ?_))
  refine wpAny_dictSetHashed_pairs (s:={ s with heap:=h',toks:=tk + 1 }) hkx hS' (fun h2 hS2 sb=>?_) (bU hl (bU hi (bU hb (cc (df (ao _))))))
  refine ae ⟨lS qQ _,ih (i + 1) _ (JU acc x.1 x.2.2) _ (by omega) hlt ?_ (W.frame _ _ _ st' fun b hb o e=>?_) hS2 (fun i2 p2 x2 e1 e2=>?_) fun h3 tk3 k3 hS3=>?_⟩
  ·have:=Fk acc x.1 x.2.2
   omega
  ·rw [sb.2 b fun z=>hD (z ▸ hb)];exact e
  ·obtain ⟨o2,g2,r2⟩:=hT i2 p2 x2 e1 e2
   have hm:=hp p2 (b_ e1)
   exact ⟨o2,(sb.2 p2 fun z=>hm (by rw [z];exact al)).trans (kp p2 o2 (fun z=>hm (aj _ z)) g2),r2⟩
  ·refine hR h3 tk3 (fun b o hb e=>k3 b o hb ?_) ?_
   ·show h2.get? b=_
    rw [sb.2 b fun z=>hb (by rw [z];exact al)]
    exact kp b o (fun z=>hb (aj _ z)) e
   ·have hd:xs.drop i=x::xs.drop (i + 1):=by
     obtain ⟨h1,h2⟩:=List.getElem?_eq_some_iff.mp hxi
     rw [Ay h1,h2]
    rw [hd];exact hS3
theorem Na {l:ah}{ol:Obj}{its:List a8}{n:Nat}{xs:List (fi×a8×a8)}{pa:List ah}{Q:a8->ac->Prop} (hh:A.handled=none)
  (hol:s.heap.get? l=some ol) (hc:ol.cls=.type "list") (hdd:ol.dict=none) (hdt:ol.data=.seq its.toArray n) (hi:∀ (i:Nat) (v:a8),its[i]?=some v->∃ p x,pa[i]?=some p/\xs[i]?=some x/\v=.ref p) (hx:xs.length=its.length) (hk:∀ x∈xs,(dJ prog w).is x.1 x.2.1=true) (hb:its.length<=1000)
  (hT:∀ (i:Nat) (p:ah) (x:fi×a8×a8),pa[i]?=some p->xs[i]?=some x->Jn s.heap p #[x.2.1,x.2.2]) (hpa:∀ p∈pa,p<s.heap.objs.size)
  (h:∀ (h':bp) (tk:Nat),h'.DictOf (dJ prog w) s.heap.objs.size (Q9 [] xs)->(∀ b o,s.heap.get? b=some o->h'.get? b=some o)->Q (.ref s.heap.objs.size) { s with heap:=h',toks:=tk }) :
  au (aP prog w) A (call (.type "dict") [.ref l]) Q E s:=by
 refine callType_codes (Q₁:=fun obj s₁=>obj=.ref s.heap.objs.size/\s₁={ s with heap:=s.heap.push { cls:=.type "dict",data:=.dict #[] } }) F.kt_called_dict (F.kt_typeCall_dict_1 _) F.entry_dict_init (kt_code_dict_new _ ⟨rfl,rfl⟩) ?_
 rintro obj s₁ ⟨rfl,rfl⟩
 have hnew:(s.heap.push { cls:=.type "dict",data:=.dict #[] }).DictOf (dJ prog w) s.heap.objs.size []:=Ed s.heap
 have hol':(s.heap.push { cls:=.type "dict",data:=.dict #[] }).get? l=some ol:=af _ hol
 have hlS:l<s.heap.objs.size:=am hol
 refine ⟨hnew.typeIs,F.args_dict_init_2 _ _,?_⟩
 unfold jw.«dict.__init__»
 refine a7 ?_
 unfold Builtin.Dict.selfAndRest
 refine a7 (wpAny_notOrdered_dict hnew.typeIs ?_)
 show au _ _ (pure (s.heap.objs.size,[c6 l])) _ _ _
 refine ae ?_
 show au _ _ (wn "dict.__init__" s.heap.objs.size (.ref l) [] .none) _ _ _
 unfold wn
 refine a7 (kE (T:="list") ⟨_,hol',hc⟩ ?_)
 rw [if_pos (by decide)]
 refine a7 (xO (s:={ s with heap:=s.heap.push { cls:=.type "dict",data:=.dict #[] } }) hol' hc hdt hdd (by simpa using hh) fun h1 tk1 k1=>?_)
 rw [if_pos (by rfl)]
 refine a7 (gJ ?_)
 have hol1:=k1 l ol hol'
 refine a7 (iw (s:={ s with heap:=h1,toks:=tk1 }) ⟨_,hol1,hc,⟨_,hdt⟩⟩ ?_)
 have hD1:∃ o,h1.get? s.heap.objs.size=some o:=by
  obtain ⟨o,es,ep,e,_⟩:=hnew
  exact ⟨o,k1 _ _ e⟩
 obtain ⟨oD,eD⟩:=hD1
 have lD:=am eD
 have W:=tN (prog:=prog) (w:=w) (A:=A.in1.in1) (by simpa using hh) h1.objs.size l (aE (am hol1)) its.toArray
 have k2:∀ b o,h1.get? b=some o->(h1.push { cls:=.type "list_iterator",data:=.fields #[.ref l,.int 0 0] }).get? b=some o:=fun b o e=>af _ e
 have hD2:(h1.push { cls:=.type "list_iterator",data:=.fields #[.ref l,.int 0 0] }).DictOf (dJ prog w) s.heap.objs.size []:=by
  obtain ⟨o,es,ep,e,r⟩:=hnew
  exact ⟨o,es,ep,k2 _ _ (k1 _ _ e),r⟩
 refine ae ⟨lS qQ _,zk (A:=A.in1) W s.heap.objs.size ?_ xs pa (by rw [hx,aM]) (fun i v e=>hi i v (by simpa using e)) hk (fun p hp=>?_) (by rw [aM];exact hb) its.length 0 _ [] 0 (by rw [aM];omega) (cn _) (ao _) ⟨⟨_,aC _ rfl,rfl,rfl⟩,⟨_,k2 _ _ hol1,hc,⟨_,hdt⟩⟩⟩ hD2 (fun i p x e1 e2=>?_) fun h' tk kp hS'=>?_⟩
 ·simp only [aZ,aQ,or_false,not_or]
  exact ⟨aE lD,eK hlS⟩
 ·have:=hpa p hp
  simp only [aZ,aQ,or_false,not_or]
  exact ⟨aE this,aE (wg this lD)⟩
 ·obtain ⟨o,g,r⟩:=hT i p x e1 e2
  exact ⟨o,k2 _ _ (k1 _ _ (af _ g)),r⟩
 ·refine ⟨rfl,h h' tk hS' fun b o e=>kp b o ?_ (k2 _ _ (k1 _ _ (af _ e)))⟩
  have:=am e
  simp only [aZ,aQ,or_false,not_or]
  exact ⟨aE this,aE (wg this lD)⟩
end
end L2
namespace L2
open PySem PySem.Spec PyProof.Rows
end L2
namespace J
open PySem L2
def GW:List D->Option (List (fi×D))
 | []=>some []
 | .tuple [k,v]::r=>(ud k).bind fun y=>(GW r).map ((y,v)::·)
 | _::_=>none
def Ui:D->R D
 | .list ds=>if ds.length<=1000 then (match GW ds with
  | some ps=>.ok (.dict (ps.foldl (fun a p=>Fe a (kD p.1) p.2) []))
  | none=>.no) else .no
 | _=>.no
section
variable {c:C}{e:aV}{g:ap->R D}{p cpos:Pos}
end
end J
namespace L2
open PySem PySem.Spec PyProof.Rows
def Ro (K:a6) (a:ah):It :=
 ⟨fun i H=>∃ xs x,lU K H a xs/\xs[i]?=some x,fun i H v H'=>∃ p,H p=none/\v=.ref p/\∀ xs,lU K H a xs->∃ x,xs[i]?=some x/\H'=upd H p (.tup [.int i,x]),fun i H=>∃ xs,lU K H a xs/\xs.length<=i⟩
theorem Fm {P:aK}{w:aY}{K:a6}{elts:List aV}{x1}{pos:Pos} (a e it:ah) (hei:e≠it):xk P w K (.Tuple elts x1 pos) (Ro K a) [e,it] e (fun i h=>(∃ old,IsEnum h e it i old)/\h.IsListIter it a i) where
 mem:=by simp
 obj:=fun i h st b hb=>by
  simp only [aZ,aQ,or_false] at hb
  rcases hb with rfl | rfl
  ·obtain ⟨⟨old,q⟩,_⟩:=st
   exact ⟨_,q,fun v z=>by cases z⟩
  ·obtain ⟨_,o,q,_,d⟩:=st
   exact ⟨o,q,fun v z=>by rw [d] at z;cases z⟩
 keep:=fun i h h' st k=>⟨let ⟨old,q⟩:=st.1;⟨old,k e (by simp) _ q⟩,let ⟨o,q,r⟩:=st.2;⟨o,k it (by simp) o q,r⟩⟩
 item:=by
  intro X hP hw hK hc i pins s σ H E I hf st hg
  subst hP hw hK
  obtain ⟨xs,x,hq,hx⟩:=hg
  obtain ⟨its,rv,p,hz⟩:=I.list hq
  obtain ⟨u,hu,ru⟩:=rv.get hx
  obtain ⟨⟨old,he⟩,hit⟩:=st
  have hit0:=hit
  obtain ⟨oi,ei,_⟩:=hit0
  have he0:=am he
  refine wpAny_pyNext_enum_item he hit p.isList (by simpa using hu) hei ?_
  intro h1 eo st1 tup sz k1
  refine ⟨_,rfl,EB eo fun h2 e2 sb2=>?_⟩
  have szn:s.heap.objs.size≠e:=eK he0
  have I2:bQ X pins σ H { s with heap:=h2,toks:=s.toks + 1 }:=I.turnedL (ch:=[e,it]) (fun b o hb q=>by
   simp only [aZ,aQ,or_false,not_or] at hb
   exact (sb2.2 b hb.1).trans (k1 b o hb.1 hb.2 q)) hf
  have fT:=I.fpOk (H':=H) (ao _) (I.hok.fresh (ao _))
  have tup2:h2.get? s.heap.objs.size=some { cls:=.type "tuple",data:=.seq #[.int i s.toks,u] }:=(sb2.2 _ szn).trans tup
  have I3:=I2.track (ho:=.tup [.int i,x]) fT ⟨by show 2<=sizeLine;decide,[.int i s.toks,u],.cons ⟨s.toks,rfl⟩ (.cons ru .nil),⟨_,tup2,rfl,0,rfl⟩⟩
  refine ⟨.ref s.heap.objs.size,_,I3,rfl,⟨_,fT.1,rfl,fun ys hy=>?_⟩,⟨⟨u,?_⟩,?_⟩,fun b hb=>?_⟩
  ·rw [I.list_inj hy hq];exact ⟨x,hx,rfl⟩
  ·have:(((i + 1:Nat):Int))=(i:Int) + 1:=by omega
   rw [this];exact e2
  ·obtain ⟨o,q,r⟩:=st1
   exact ⟨o,(sb2.2 it (cW hei)).trans q,r⟩
  ·rw [bj]
   ·exact (hf b hb).1
   ·simp only [aZ,aQ,or_false] at hb
    rcases hb with z | z
    ·rw [z];exact aE he0
    ·rw [z];exact aE (am ei)
 done:=by
  intro X hP hw hK hc i pins s σ H E I hf st hg
  subst hP hw hK
  obtain ⟨xs,hq,hx⟩:=hg
  obtain ⟨its,rv,p,hz⟩:=I.list hq
  obtain ⟨⟨old,he⟩,hit⟩:=st
  have hl:=rv.length
  refine wpAny_pyNext_enum_end (by simpa using I.ok.hd hc) he hit p.isList (by simp;omega) fun h' eb=>?_
  exact ⟨rfl,I.turnedL (t':=s.toks) (ch:=[e,it]) (fun b o hb q=>eb b o (by
   simp only [aZ,aQ,or_false,not_or] at hb;exact hb.2) q) hf⟩
 self:=fun _ _ _ _ _ st h=>let ⟨⟨_,q⟩,_⟩:=st;pw q h
def Rp (K:a6) (ta:TA):TI:=fun σ H R=>ta σ H fun vs H1=>∃ a xs,vs=[.ref a]/\lU K H1 a xs/\R (Ro K a) H1
theorem M3 {X:Cx}{elts:List aV}{x1}{tpos p pos:Pos}{a:aV}{ta:TA} (hg:Gl X "enumerate") (hm:X.mg "enumerate"=none) (ha:PA X [a] ta) (hs:aw [a] X.env=[(false,cR a X.env)]:=by rfl) :
  PI X (.Tuple elts x1 tpos) (.Call (.Name "enumerate" p) [a] [] pos) (Rp X.K ta):=by
 intro pins s σ H R I h
 refine Call_ (pO I hg hm boot_enumerate (dq (fO (ha pos pins s σ H _ I h) fun us s1 h1=>?_) hs rfl))
 obtain ⟨vs,H1,I1,r1,q1⟩:=h1
 obtain ⟨ad,xs,rfl,hq,q⟩:=q1
 obtain ⟨u,rfl,rx⟩:=ki r1
 cases rx
 obtain ⟨its,rv,tp,hz⟩:=I1.list hq
 refine call_enumerate_list tp.isList fun h' e1 t1 sz kp=>?_
 refine pw e1 ?_
 have I2:bQ X pins σ H1 { s1 with heap:=h' }:=I1.kept (t':=s1.toks) kp
 refine ⟨s1.heap.objs.size + 1,[s1.heap.objs.size + 1,s1.heap.objs.size],_,_,H1,rfl,I2,Fm ad _ _ (eK (dI _)),⟨⟨.none,e1⟩,t1⟩,fun b hb=>?_,q⟩
 simp only [aZ,aQ,or_false] at hb
 rcases hb with z | z
 ·rw [z];exact I1.fpOk (gj _) (I1.hok.fresh (gj _))
 ·rw [z];exact I1.fpOk (ao _) (I1.hok.fresh (ao _))
end L2
namespace J
open PySem L2
theorem M4 {K:a6}{Hn Hs:Hp}{a:ah}{vs:List V}{ds:List D} (h:lU K Hn a vs) (r:RDs K Hs vs ds):L7 K (Ro K a) (gF 0 ds) Hn Hs:=fun H2 Hs2 e1 e2 e3=>by
 have q:=e1.seq h
 have hl:=vd ds 0
 refine ⟨fun i hi=>?_,fun i hi=>⟨vs,q,by rw [r.length];omega⟩,fun i x H3 hi y=>?_⟩
 ·have hi':i<vs.length:=by rw [r.length];omega
  exact ⟨vs,vs[i],q,aL hi'⟩
 ·obtain ⟨p,hp,rfl,y⟩:=y
  obtain ⟨x,k0,rfl⟩:=y vs q
  obtain ⟨d,k1,k2⟩:=r.get k0
  have st:=cD.new (o:=.tup [.int i,x]) e3 hp
  refine ⟨.tuple [.int i,d],_,?_,st,.tuple bq (.cons (.int _) (.cons ((k2.same e2).same st.sh) .nil))⟩
  rw [vc,k1]
  simp
section
variable {c:C}{a:aV}{gs:ap->R (List D)}{p pos:Pos}
def Oy:List D->R (List D)
 | [.list ds]=>.ok (gF 0 ds)
 | _=>.no
def D6 (gs:ap->R (List D)):ap->R (List D):=fun ρ=>(gs ρ).bind Oy
theorem Aa {elts:List aV}{x1}{tpos:Pos} (hg:Gl c.X "enumerate") (hm:c.X.mg "enumerate"=none) (ha:Ej c [a] gs) (hs:aw [a] c.X.env=[(false,cR a c.X.env)]:=by rfl):Gw c (.Tuple elts x1 tpos) (.Call (.Name "enumerate" p) [a] [] pos) (D6 gs):=.of fun ρ=>Gx (M3 hg hm (ha ρ) hs) fun σ H Q h_20=>by
 obtain ⟨H0,Hs0,la,Hs,f,q⟩:=h_20
 refine B0 f q fun ds vs H1 Hs1 e1 s1 f1 r1=>?_
 unfold D6 at q
 rw [e1,bind_ok] at q
 unfold Oy at q
 split at q
 ·obtain ⟨x,rfl,rx⟩:=r1.one
  cases rx with
  | list qa ra=>exact ⟨_,_,rfl,cZ.seq f1.st.sub qa,q _ H1 Hs1 s1 (M4 qa ra)⟩
 ·exact q.elim
end
end J
namespace L2
open PySem PySem.Spec PyProof.Rows
def V9 (K:a6) (a:ah) (n:Nat):It :=
 ⟨fun i H=>i<n/\∃ xs,lU K H a xs/\xs.length=n,fun i H x H'=>H'=H/\∀ xs,lU K H a xs->xs.reverse[i]?=some x,fun i H=>n<=i⟩
theorem D7 {P:aK}{w:aY}{K:a6}{tg:aV} (a it:ah) (n:Nat):xk P w K tg (V9 K a n) [it] it (fun i h=>h.IsRevIter it a ((n:Int) - 1 - i)/\i<=n) where
 mem:=by simp
 obj:=fun i h st b hb=>by
  have e:b=it:=by simpa using hb
  subst e
  obtain ⟨⟨o,e,c,d⟩,_⟩:=st
  exact ⟨o,e,fun v z=>by rw [d] at z;cases z⟩
 keep:=fun i h h' st k=>⟨st.1.at fun o e=>k it (by simp) o e,st.2⟩
 item:=by
  intro X hP hw hK hc i pins s σ H E I hf st hg
  subst hP hw hK
  obtain ⟨hi,xs,hq,hn⟩:=hg
  obtain ⟨st,_⟩:=st
  obtain ⟨its,rv,p,hz⟩:=I.list hq
  have hj:n - 1 - i<xs.length:=by omega
  obtain ⟨u,hu,ru⟩:=rv.get (aL hj)
  obtain ⟨f0,f1,f2,f3,f4,f5⟩:=hf it (by simp)
  have ej:((n:Int) - 1 - i)=((n - 1 - i:Nat):Int):=by omega
  rw [ej] at st
  refine wpAny_pyNext_rev_item st p.isList (x:=u) (by simpa using hu) fun h' st' sb=>?_
  have I1:bQ X pins σ H { s with heap:=h' }:=I.turned (t':=s.toks) (fun b o hb e=>(sb.2 b hb).trans e) f0 f1 f3 f4 f5
  obtain ⟨o,e,c,d⟩:=id st'
  have ej2:(((n - 1 - i:Nat):Int) - 1)=((n:Int) - 1 - ((i + 1:Nat):Int)):=by omega
  rw [ej2] at st'
  refine ⟨u,rfl,Ga (s:={ s with heap:=h' }) e c d (by decide) ⟨_,H,I1,ru,⟨rfl,fun ys hy=>?_⟩,⟨st',hi⟩,fun b hb=>(hf b hb).1⟩⟩
  rw [I.list_inj hy hq,List.getElem?_reverse (by omega),hn]
  exact aL hj
 done:=by
  intro X hP hw hK hc i pins s σ H E I hf st hg
  subst hP hw hK
  obtain ⟨st,hi⟩:=st
  obtain rfl:i=n:=Nat.le_antisymm hi hg
  obtain ⟨f0,f1,f2,f3,f4,f5⟩:=hf it (by simp)
  have ej:((i:Int) - 1 - i)=-1:=by omega
  rw [ej] at st
  exact wpAny_pyNext_rev_end (I.ok.hd hc) st fun h' eb=>⟨rfl,I.turned (t':=s.toks) (fun b o hb e=>eb b o hb e) f0 f1 f3 f4 f5⟩
 self:=fun _ _ _ _ _ st h=>wpAny_pyIter_revIter st.1 h
def Va (K:a6) (ta:TA):TI:=fun σ H R=>ta σ H fun vs H1=>∃ a xs,vs=[.ref a]/\lU K H1 a xs/\R (V9 K a xs.length) H1
theorem Rq {X:Cx}{tg:aV}{p pos:Pos}{a:aV}{ta:TA} (hg:Gl X "reversed") (hm:X.mg "reversed"=none) (ha:PA X [a] ta) (hs:aw [a] X.env=[(false,cR a X.env)]:=by rfl) :
  PI X tg (.Call (.Name "reversed" p) [a] [] pos) (Va X.K ta):=by
 intro pins s σ H R I h
 refine Call_ (pO I hg hm boot_reversed (dq (fO (ha pos pins s σ H _ I h) fun us s1 h1=>?_) hs rfl))
 obtain ⟨vs,H1,I1,r1,q1⟩:=h1
 obtain ⟨ad,xs,rfl,hq,q⟩:=q1
 obtain ⟨u,rfl,rx⟩:=ki r1
 cases rx
 obtain ⟨its,rv,tp,hz⟩:=I1.list hq
 refine call_reversed_list tp.isList ?_
 have hsz:(its.toArray.size:Int) - 1=(xs.length:Int) - 1 - ((0:Nat):Int):=by
  rw [aM,<- rv.length];omega
 have st:(s1.heap.push (revObj ad ((its.toArray.size:Int) - 1))).IsRevIter s1.heap.objs.size ad ((xs.length:Int) - 1 - ((0:Nat):Int)):=by
  rw [<- hsz]
  exact ⟨_,aC _ rfl,rfl,rfl⟩
 have I2:bQ X pins σ H1 { s1 with heap:=s1.heap.push (revObj ad ((its.toArray.size:Int) - 1)) }:=I1.kept (t':=s1.toks) fun b o e=>af _ e
 refine (D7 (P:=X.prog) (w:=X.w) (K:=X.K) (tg:=tg) ad s1.heap.objs.size xs.length).self _ 0 _ _ _ ⟨st,cn _⟩ ?_
 refine ⟨s1.heap.objs.size,[s1.heap.objs.size],_,_,H1,rfl,I2,D7 ad _ xs.length,⟨st,cn _⟩,fun b hb=>?_,q⟩
 rw [List.mem_singleton.mp hb]
 exact I1.fpOk (ao _) (I1.hok.fresh (ao _))
end L2
namespace J
open PySem L2
theorem Rr {K:a6}{Hn Hs:Hp}{a:ah}{vs:List V}{ds:List D} (h:lU K Hn a vs) (r:RDs K Hs vs ds):L7 K (V9 K a vs.length) ds.reverse Hn Hs:=fun H2 Hs2 e1 e2 e3=>by
 have q:=e1.seq h
 have hl:=r.length
 refine ⟨fun i hi=>?_,fun i hi=>?_,fun i x H3 hi y=>?_⟩
 ·rw [HM] at hi
  exact ⟨by omega,vs,q,rfl⟩
 ·rw [HM] at hi
  show vs.length<=i
  omega
 ·obtain ⟨rfl,y⟩:=y
  obtain ⟨d,k1,k2⟩:=r.reverse.get (y vs q)
  exact ⟨d,Hs2,k1,.refl e3,k2.same e2⟩
section
variable {c:C}{tg a:aV}{gs:ap->R (List D)}{p pos:Pos}
def Oz:List D->R (List D)
 | [.list ds]=>.ok ds.reverse
 | _=>.no
def GX (gs:ap->R (List D)):ap->R (List D):=fun ρ=>(gs ρ).bind Oz
theorem OA (hg:Gl c.X "reversed") (hm:c.X.mg "reversed"=none) (ha:Ej c [a] gs) (hs:aw [a] c.X.env=[(false,cR a c.X.env)]:=by rfl):Gw c tg (.Call (.Name "reversed" p) [a] [] pos) (GX gs):=.of fun ρ=>Gx (Rq hg hm (ha ρ) hs) fun σ H Q h_20=>by
 obtain ⟨H0,Hs0,la,Hs,f,q⟩:=h_20
 refine B0 f q fun ds vs H1 Hs1 e1 s1 f1 r1=>?_
 unfold GX at q
 rw [e1,bind_ok] at q
 unfold Oz at q
 split at q
 ·obtain ⟨x,rfl,rx⟩:=r1.one
  cases rx with
  | list qa ra=>exact ⟨_,_,rfl,cZ.seq f1.st.sub qa,q _ H1 Hs1 s1 (Rr qa ra)⟩
 ·exact q.elim
end
end J
namespace J
open PySem L2
theorem D8 {c:C}{s:cC}:JS c s (fun _=>.no):=.of fun ρ pins s σ H D I h=>by
 obtain ⟨H0,Hs0,la,Hs,f,q⟩:=h
 exact q.elim
end J
end
namespace J
open PySem L2 PyProof.Rows
section
structure En where
 P:aK
 w:aY
 K:a6
 mg:Str->Option a8
 base:bp
 cls:Str->ah
abbrev FN (e:En):=Fn e.P e.w e.K e.mg e.base e.cls
abbrev ER (e:En):=Er e.mg e.base e.cls
abbrev Cn (mg:Str->Option a8) (x:Str) (n:Int):Prop:=∃ t,mg x=some (.int n t)
structure fX (K:a6) (mg:Str->Option a8) (x:Str) (st:cC):Prop where
 ex:∃ f fd,Ih K x x st f fd/\mg x=some (.ref f)
section
variable {K:a6}{h:bp}{mg:Str->Option a8}{x:Str}
theorem d_in {st:cC}{A:ah}{od an:Option ah}{sl:Array (Option a8)}{oc kV dc pm cv ct:a8} (X:K.In h) (G:h.Ns bB mg) (a:fS K bB x=some (some (.ref A)))
  (l:K.lookup A=some ⟨oc,od,.func (fR x x (jW st) (gW st) (aA st) .none kV dc pm an cv ct),sl⟩) (c:lm K cv x=true) (k:jg K (.ref A)=true):fX K mg x st :=
 ⟨_,_,Kn l c k,mH X G a⟩
theorem cn_in {n:Int}{tk:Tok} (X:K.In h) (G:h.Ns bB mg) (t:fS K bB x=some (some (.int n tk))):Cn mg x n:=⟨_,mH X G t⟩
inductive Zs (K:a6):List Str->Prop
 | nil:Zs K []
 | cons {x:Str}{r:List Str}:fS K bB x=some none->Zs K r->Zs K (x::r)
theorem Zs.get {r:List Str} (z:Zs K r):∀ x∈r,fS K bB x=some none:=by
 induction z with
 | nil=>exact fun _ h=>nomatch h
 | cons a _ ih =>
  intro y hy
  rcases List.mem_cons.mp hy with e | e
  ·rw [e];exact a
  ·exact ih y e
abbrev zn:List Str:=["len","isinstance","all","any","zip","tuple","list","sorted","set","range","enumerate","dict","sum","max","min","reversed","str","int","bool","ValueError"]
theorem Tl (X:K.In h) (G:h.Ns bB mg) (z:Zs K zn):Bi mg:=by
 have q:∀ x∈zn,mg x=none:=fun x hx=>PySem.W.mg_none_of X G (z.get x hx)
 exact ⟨q _ (by decide),q _ (by decide),q _ (by decide),q _ (by decide),q _ (by decide),q _ (by decide),q _ (by decide),q _ (by decide),q _ (by decide),q _ (by decide),q _ (by decide),q _ (by decide),q _ (by decide),q _ (by decide),q _ (by decide),q _ (by decide),q _ (by decide),q _ (by decide),q _ (by decide)⟩
end
section
variable {P:aK}{w:aY}{K:a6}{mg:Str->Option a8}{base:bp}{N:List Str}{qual:Str}{scope:e7}{f:ah}{cd:a8}{A:b6}{outer:List Env}{s:ac}{H:Hp}{E:XK}
theorem px:pS (pG P w) (ju (pG P w) P w K mg base N qual scope f cd A outer s H E) E:=Cu fun _ _ h=>h
end
section
variable {c:C}{x y:Str}{e:aV}{es:List aV}{gs:ap->R (List D)}{p q pos:Pos}
theorem jc {k j n:Nat}{F:List D->R D} (G:Fn c.X.prog c.X.w c.X.K c.X.mg c.X.base c.cls x k n F) (hr:kQ j c.X.A) (hx:pS (pG c.X.prog c.X.w) c.X c.E) (ha:Ej c (e::es) gs)
  (hk:k<=j:=by decide) (hg:Gl c.X x:=by exact rfl) (hdb:(x == ("__debug__" : Str))=false:=by decide) (he:aw (e::es) c.X.env=(false,cR e c.X.env)::aw es c.X.env:=by rfl) (hpl:(eT pos (aw es c.X.env)).any (·.1)=false:=by rfl) :
  JE c (.Call (.Name x p) (e::es) [] pos) (dC n F gs):=Oj G (hr.mono hk) hg hx ha hdb he hpl
end
abbrev Bq (x:Str) (st:cC) (us:List a8) (r:List (Str×a8)):Prop:=∀ (kV doc pm:a8) (an:Option ah) (cdv ct:a8),Ng (fR x x (jW st) (gW st) (aA st) .none kV doc pm an cdv ct) ⟨us,[]⟩=pure r
section
variable {K:a6}{x:Str}{st:cC}{f:ah}{fd:eU}
theorem b1 {a:Str} (F:Ih K x x st f fd) (h:∀ u,Bq x st [u] [(a,u)]:=by exact fun _ _ _ _ _ _ _=>rfl):ni K fd [a] []:=F.binds fun _ _ _ _ _ _ us hl=>by obtain ⟨_,rfl⟩:=VY hl;exact h ..
theorem b2 {a b:Str} (F:Ih K x x st f fd) (h:∀ u v,Bq x st [u,v] [(a,u),(b,v)]:=by exact fun _ _ _ _ _ _ _ _=>rfl):ni K fd [a,b] []:=F.binds fun _ _ _ _ _ _ us hl=>by obtain ⟨_,_,rfl⟩:=VZ hl;exact h ..
theorem b3 {a b c:Str} (F:Ih K x x st f fd) (h:∀ u v w,Bq x st [u,v,w] [(a,u),(b,v),(c,w)]:=by exact fun _ _ _ _ _ _ _ _ _=>rfl):ni K fd [a,b,c] []:=F.binds fun _ _ _ _ _ _ us hl=>by obtain ⟨_,_,_,rfl⟩:=V_ hl;exact h ..
theorem b4 {a b c d:Str} (F:Ih K x x st f fd) (h:∀ u v w z,Bq x st [u,v,w,z] [(a,u),(b,v),(c,w),(d,z)]:=by exact fun _ _ _ _ _ _ _ _ _ _=>rfl):ni K fd [a,b,c,d] []:=F.binds fun _ _ _ _ _ _ us hl=>by obtain ⟨_,_,_,_,rfl⟩:=W0 hl;exact h ..
theorem b5 {a b c d e:Str} (F:Ih K x x st f fd) (h:∀ u v w z y,Bq x st [u,v,w,z,y] [(a,u),(b,v),(c,w),(d,z),(e,y)]:=by exact fun _ _ _ _ _ _ _ _ _ _ _=>rfl):ni K fd [a,b,c,d,e] []:=F.binds fun _ _ _ _ _ _ us hl=>by obtain ⟨_,_,_,_,_,rfl⟩:=W2 hl;exact h ..
end
theorem mT {e:En}{x:Str}{st:cC}{N ps:List Str}{k:Nat}{g:ap->R Fl} (D:fX e.K e.mg x st) (S:bw N ps (aA st)) (b:∀ {f:ah}{fd:eU},Ih e.K x x st f fd->ni e.K fd ps [])
  (h:∀ (f:ah) (cdv:a8) (A:b6) (outer:List Env) (s:ac) (H:Hp) (E:XK),kQ k (A.deeper (s9 x (aA st) s.heap.objs.size f cdv))->Gv ⟨ju (pG e.P e.w) e.P e.w e.K e.mg e.base N x (aA st) f cdv A outer s H E,e.cls,E⟩ (gW st) g) :
  FN e x (k + 1) ps.length (eL N.length g):=by
 obtain ⟨f,fd,F,hm⟩:=D.ex
 exact SZ F S hm (b F) (h f)
def VQ (N P:List Str) (sc:e7):Bool:=decide (sc.kind=.function) && !sc.isCoroutine && !sc.isGenerator && decide N.Nodup && decide (N.take P.length=P) && P.all (fun x=>decide (sc.names.lookup x=some .local) || decide (sc.names.lookup x=some .cell)) && sc.names.all fun y=>decide (y.2≠.free)
theorem da {N P:List Str}{sc:e7} (h:VQ N P sc=true):bw N P sc:=by
 unfold VQ at h
 simp only [aN,decide_eq_true_eq,nh,cB,ja] at h
 obtain ⟨⟨⟨⟨⟨⟨a,b⟩,c⟩,d⟩,e⟩,f⟩,g⟩:=h
 exact ⟨a,b,c,d,e,f,g⟩
structure Cw (K:a6) (x:Str) (C:ah):Prop where
 ns:fS K bB x=some (some (.ref C))
 cl:∃ cd,rH K C=some cd
 ty:K1 K (.ref C)=some (.type "type")
theorem cw_in {K:a6}{x:Str}{C:ah}{cd:ClassData} (a:fS K bB x=some (some (.ref C))) (i:rH K C=some cd) (y:K1 K (.ref C)=some (.type "type")):Cw K x C:=⟨a,⟨_,i⟩,y⟩
inductive Sb (K:a6) (C:ah):List (ah×Bool)->Prop
 | nil:Sb K C []
 | cons {D:ah}{b:Bool}{l:List (ah×Bool)}:N5 K (.ref C) (.ref D)=some b->(b=false->C≠D)->Sb K C l->Sb K C ((D,b)::l)
structure Wy (K:a6) (C CP:ah) (l:List (ah×Bool)):Prop where
 x1:ll K (.ref C) "__getattribute__"=some (some (.builtin "BaseException.__getattribute__"))
 x2:ll K (.ref C) "__getattr__"=some none
 x3:ll K (.ref C) "__class__"=some (some (.builtin "object.__class__"))
 x4:G4 K (.builtin "object.__class__") "__get__"=some (some (.builtin "getset_descriptor.__get__"))
 x5:Jr K (.builtin "object.__class__")=some true
 x6:dg K C (.type "object")=some true
 x7:dg K C (.ref CP)=some true
 x8:N5 K (.ref C) (.type "ValueError")=some true
 x9:(c6 CP == c6 C)=false
 sb:Sb K C l
end
end J
section
namespace L2
open PySem PySem.Spec PyProof.Rows
section
variable {prog:aK}{w:aY}{A:b6}{E:a8->ac->Prop}{s:ac}{it d:ah}{i n ep:Nat}{o:Obj}{es:Array DictEntry}
end
end L2
namespace J
open PySem L2
def keysOf:List D->Option (List fi)
 | []=>some []
 | d::r=>(ud d).bind fun k=>(keysOf r).map (k::·)
section
variable {c:C}{a b e k:aV}{ga gb g gk:ap->R D}{pos p apos:Pos}{x:Str}
end
end J
namespace J
open PySem L2
section
variable {c:C}{tg l k v e:aV}{g gk gv:ap->R D}{pos:Pos}
end
end J
namespace L2
open PySem PySem.Spec PyProof.Rows
theorem D9 {ns:List Int}:∀ {its:List a8},cV (ns.map V.int) its->∀ {i:Nat}{v:a8},its[i]?=some v->∃ n t,ns[i]?=some n/\v=.int n t:=by
 induction ns with
 | nil=>intro its r i v e;cases r;simp at e
 | cons x r ih =>
  intro its rr i v e
  cases rr with
  | cons a b =>
   cases i with
   | zero=>cases e;obtain ⟨t,rfl⟩:=a;exact ⟨x,t,rfl,rfl⟩
   | succ i=>have q:=ih b (i:=i) e;exact q
end L2
namespace J
open PySem L2
def qj:List D->Option (List Int)
 | []=>some []
 | .int b::r=>(qj r).map (b::·)
 | _::_=>none
theorem Da {ds:List D}:∀ {bs:List Int},qj ds=some bs->ds=bs.map bT:=by
 induction ds with
 | nil=>intro bs h;cases h;rfl
 | cons d r ih =>
  intro bs h
  cases d with
  | int b =>
   have h:(qj r).map (b::·)=some bs:=h
   cases hr:qj r with
   | none=>rw [hr] at h;cases h
   | some z=>rw [hr] at h;cases h;rw [ih hr];rfl
  | _=>cases h
theorem xP:∀ bs:List Int,qj (bs.map bT)=some bs
 | []=>rfl
 | b::r=>by show (qj (r.map bT)).map (b::·)=_;rw [xP r];rfl
end J
namespace J
open PySem L2
end J
namespace J
open PySem L2
end J
namespace J
open PySem L2
def rS (i:Nat) (ρ:ap):R D:=Ek ρ i
def rB (i:Nat) (ρ:ap):R D:=Cz ρ i
def kI (n:Int) (_:ap):R D:=.ok (.int n)
def kB (b:Bool) (_:ap):R D:=.ok (.bool b)
def kN (_:ap):R D:=.ok .none
def kT (_:ap):R Bool:=.ok true
theorem Tn (i:Nat) (ρ:ap):rS i ρ=Ek ρ i:=id rfl
theorem Rs (i:Nat) (ρ:ap):rB i ρ=Cz ρ i:=id rfl
theorem To (n:Int) (ρ:ap):kI n ρ=.ok (.int n):=id rfl
theorem Tp (b:Bool) (ρ:ap):kB b ρ=.ok (.bool b):=id rfl
theorem Tq (ρ:ap):kN ρ=.ok .none:=id rfl
end J
end
section
namespace L2
open PySem PySem.Spec PyProof.Rows
section
variable {X:Cx}{tg:aV}
end
end L2
namespace J
open PySem L2
section
variable {c:C}{tg a b d:aV}{p pos:Pos}{gs:ap->R (List D)}
end
end J
end
namespace L2
open PySem PySem.Spec PyProof.Rows
section
open Builtin Builtin.ObjectAttr
inductive GY (h:bp) (bmB:List a8) (nms:List Str):List a8->Prop
 | base:GY h bmB nms bmB
 | own {A:ah}{c0:a8}{dd:Option ah}{cd:ClassData}{sl:Array (Option a8)}{mA:Str->Option a8}{tl:List a8} :
   h.get? A=some { cls:=c0,dict:=dd,data:=.cls cd,slots:=sl }->h.Ns cd.ns mA->(∀ n∈nms,mA n=none)->GY h bmB nms tl->GY h bmB nms (.ref A::tl)
section
variable {M:yT}{A:b6}{E:a8->ac->Prop}{h:bp}{g:Array Eo}{d:Jp}{t:Nat}{os:OsState}
variable {nm q:Str}{C N x:ah}{bs bm bmB:List a8}{hdct:Bool}{sn:List Str}{sub:List a8}{ab:Bool}{col:Option Bool}{dd:Option ah}{k0 k1 k2 k3 k5:Option a8}{B newId initId sa owner:String}{nms:List Str}{name:Str}{v:a8}{mN:Str->Option a8}
end
section
variable {prog:aK}{w:aY}{A:b6}{E:a8->ac->Prop}{h:bp}{g:Array Eo}{d:Jp}{t:Nat}{os:OsState}
variable {nm q:Str}{C N x:ah}{bs bm bmB:List a8}{sn:List Str}{sub:List a8}{ab:Bool}{col:Option Bool}{dd:Option ah}{k0 k1 k2 k3 k5:Option a8}{B newId initId sa owner:String}{nms:List Str}{name:Str}{v:a8}{mN:Str->Option a8}
end
end
section
section
variable {prog:aK}{w:aY}{A:b6}{E:a8->ac->Prop}{h:bp}{g:Array Eo}{d:Jp}{t:Nat}{os:OsState}
variable {nm q:Str}{C N:ah}{bs bm bmB:List a8}{hdct:Bool}{sn:List Str}{sub:List a8}{ab:Bool}{col:Option Bool}{dd:Option ah}{k0 k1 k2 k3 k5:Option a8}{B newId initId:String}
end
section
variable {M:yT}{A:b6}{E:a8->ac->Prop}{env:Env}
variable {nm q:Str}{C N:ah}{bs bm:List a8}{hdct:Bool}{sn:List Str}{sub:List a8}{ab:Bool}{col:Option Bool}{dd:Option ah}{k0 k1 k2 k3 k5:Option a8}{newId:String}
end
section
variable {prog:aK}{w:aY}{A:b6}{E:a8->ac->Prop}{s:ac}{env:Env}
variable {nm q:Str}{C N:ah}{bs bm bmB:List a8}{hdct:Bool}{sn:List Str}{sub:List a8}{ab:Bool}{col:Option Bool}{dd:Option ah}{k0 k1 k2 k3 k5:Option a8}{B newId initId:String}
end
end
section
structure Rt (h:bp) (fI:ah):Prop where
 ex:∃ (oI:Obj) (fd:eU) (p1 p2 p3 p4:Pos),h.get? fI=some oI/\oI.cls=.type "function"/\oI.data=.func fd/\h.CodeRec fd.code fd.qualname/\fd.scope.isCoroutine=false/\fd.scope.isGenerator=false/\fd.scope.kind=.function /\
  fd.scope.names=[(("self" : Str),pA),(("number" : Str),pA)]/\fd.body=.stmts [.Assign [.Attribute (.Name "self" p1) "number" p2] (.Name "number" p3) p4]/\∀ (s:ac) (e v:a8),(∀ b o,h.get? b=some o->s.heap.get? b=some o)->yV s fd ⟨[e,v],[]⟩ [("self",e),("number",v)]
section
variable {prog:aK}{w:aY}{A:b6}{E:a8->ac->Prop}{s:ac}
variable {nm q:Str}{C N e fI:ah}{bs bm bmB:List a8}{sn:List Str}{sub:List a8}{ab:Bool}{col:Option Bool}{dd:Option ah}{k0 k1 k2 k3 k5:Option a8}{B newId initId sa owner:String}{nms:List Str}{v:a8}{mN:Str->Option a8}
end
section
variable {M:yT}{A:b6}{E:a8->ac->Prop}{s:ac}
end
end
section
structure Vb (x:Str) (C:ah) (mg:Str->Option a8) (base:bp):Prop where
 bound:mg x=some (.ref C)
 obj:∃ nm q N bs bm sn sub ab col dd k0 k1 k2 k3 k5 mN fI,base.get? C=some (excClassObj nm q C N bs bm true sn sub ab col dd k0 k1 k2 k3 k5 "ValueError.__new__")/\base.Ns N mN/\mN "__init__"=some (.ref fI)/\mN "__setattr__"=none/\mN "number"=none /\
  GY base [.type "ValueError",.type "Exception",.type "BaseException",.type "object"] ["__init__","__setattr__","number"] bm/\Rt base fI
section
variable {P:aK}{w:aY}{K:a6}{mg:Str->Option a8}{base:bp}{N:List Str}{qual:Str}{scope:e7}{f:ah}{cd:a8}{A:b6}{outer:List Env}{s:ac}{H:Hp}{E:XK}
end
end
end L2
namespace J
open PySem L2
section
open PySem.W (nsIn nsOkIn codeIn fnOf)
theorem Tr {K:a6}{h:bp}{N:ah}{mg:Str->Option a8}{n:Str}{v:a8} (X:K.In h) (G:h.Ns N mg) (e:nsIn K N n=some (some v)):mg n=some v:=by
 obtain ⟨o,es,ep,ho,hd,_,hf⟩:=G
 unfold fS at e
 split at e
 ·rename_i c d es' n' sl q
  have:=X _ _ q
  rw [ho] at this
  cases this
  cases hd
  split at e
  ·rename_i he
   rw [<- hf]
   unfold nsFind findBy
   rw [<- HD,he]
   cases e
   rfl
  ·split at e<;>cases e
 ·cases e
structure Vc (K:a6) (x:Str) (C:ah) (st:cC):Prop where
 ns:nsIn K bB x=some (some (.ref C))
 own:∀ {h:bp}{mg:Str->Option a8},K.In h->h.Ns bB mg->Vb x C mg h
 mb:dg K C (.type "BaseException")=some true
 ox:∀ {h:bp},K.In h->∃ bm,Sx h C bm/\∀ v,(v == c6 C)=false->dg K C v=some true->bm.contains v=true
theorem topN {K:a6}{x:Str}{C CP fI T0 Nn NP:ah}{st:cC}{nm qn nmP qnP fq:Str}{bs bsP mroP subP sub:List a8}{sn snP:List Str}{ab abP hdP delP:Bool}{col colP:Option Bool}{dd dP od dT an:Option ah}{k0 k1 k2 k3 k5:Option a8}{c0 kV doc pm cdv ct cT:a8}{slP slF slT:Array (Option a8)}{nT:Nat}{p1 p2 p3 p4:Pos}{cN cM:a8}{dN dM:Option ah}{esN esM:Array DictEntry}{epN epM:Nat}{slN slM:Array (Option a8)}
  (a1:nsIn K bB x=some (some (.ref C))) (a4:dg K C (.type "BaseException")=some true)
  (a2:K.lookup C=some ⟨.type "type",dd,.cls ⟨nm,bs,[.ref C,.ref CP,.type "ValueError",.type "Exception",.type "BaseException",.type "object"],Nn,qn,true,sn,sub,ab,col,false⟩,#[k0,k1,k2,k3,some (.builtin "ValueError.__new__"),k5]⟩)
  (a3:K.lookup CP=some ⟨c0,dP,.cls ⟨nmP,bsP,mroP,NP,qnP,hdP,snP,subP,abP,colP,delP⟩,slP⟩)
  (b1:nsIn K Nn "__init__"=some (some (.ref fI))) (b2:nsIn K Nn "__setattr__"=some none) (b3:nsIn K Nn "number"=some none)
  (c1:nsIn K NP "__init__"=some none) (c2:nsIn K NP "__setattr__"=some none) (c3:nsIn K NP "number"=some none)
  (d1:K.lookup fI=some ⟨.type "function",od,.func (fnOf "__init__" fq (jW st) (gW st) (aA st) (.ref T0) kV doc pm an cdv ct),slF⟩)
  (d2:K.lookup T0=some ⟨cT,dT,.seq #[.none] nT,slT⟩) (d3:codeIn K cdv fq=true)
  (g1:K.lookup Nn=some ⟨cN,dN,.dict esN epN,slN⟩) (g2:K.lookup NP=some ⟨cM,dM,.dict esM epM,slM⟩) (g3:(esN.toList.all fun e=>match e.key with | .str _ _=>true | _=>false)=true) (g4:(esM.toList.all fun e=>match e.key with | .str _ _=>true | _=>false)=true)
  (f1:gW st=[.Assign [.Attribute (.Name "self" p1) "number" p2] (.Name "number" p3) p4]) (f2:(aA st).names=[(("self" : Str),pA),(("number" : Str),pA)])
  (f3:(aA st).isCoroutine=false) (f4:(aA st).isGenerator=false) (f5:(aA st).kind=.function)
  (f6:∀ e v,∃ k,Ng (fnOf "__init__" fq (jW st) (gW st) (aA st) (.ref T0) kV doc pm an cdv ct) ⟨[e,v],[]⟩=Jy (.ref T0) >>= k/\k (some #[.none])=pure [(("self" : Str),e),(("number" : Str),v)]):Vc K x C st:=by
 have e1:nsOkIn K Nn=true:=by unfold K2;rw [g1];show esN.all _=true;rw [<- wo];exact g3
 have e2:nsOkIn K NP=true:=by unfold K2;rw [g2];show esM.all _=true;rw [<- wo];exact g4
 refine ⟨a1,fun {h mg} X G=>⟨mH X G a1,nm,qn,Nn,bs,_,sn,sub,ab,col,dd,k0,k1,k2,k3,k5,h.nsMap Nn,fI,X _ _ a2,.of_isNs (lu X e1),?_,eE X e1 b2,eE X e1 b3,?_,⟨_,_,p1,p2,p3,p4,X _ _ d1,rfl,rfl,Es X d3,f3,f4,f5,f2,congrArg FuncBody.stmts f1,fun s e v kb=>?_⟩⟩,a4,fun {h} X=>⟨_,⟨⟨nm,qn,Nn,bs,true,sn,sub,ab,col,dd,k0,k1,k2,k3,k5,_,X _ _ a2⟩,rfl⟩,fun v nv hv=>?_⟩⟩
 ·exact Tr X (.of_isNs (lu X e1)) b1
 ·refine .own (X _ _ a3) (.of_isNs (lu X e2)) (fun n hn=>?_) .base
  rcases List.mem_cons.mp hn with z | hn
  ·rw [z];exact eE X e2 c1
  rcases List.mem_cons.mp hn with z | hn
  ·rw [z];exact eE X e2 c2
  ·rw [List.mem_singleton.mp hn];exact eE X e2 c3
 ·obtain ⟨k,k1,k2⟩:=f6 e v
  exact BindsTo.of_defaults rfl (kb _ _ (X _ _ d2)) rfl k1 k2
 ·unfold dg rH at hv
  rw [a2] at hv
  have:(c6 C::[c6 CP,.type "ValueError",.type "Exception",.type "BaseException",.type "object"]).contains v=true:=by simpa using hv
  rw [JC,nv,tM] at this
  exact this
section
variable {P:aK}{w:aY}{K:a6}{mg:Str->Option a8}{base:bp}{N:List Str}{qual:Str}{scope:e7}{f:ah}{cd:a8}{A:b6}{outer:List Env}{s:ac}{H:Hp}{E:XK}{cls:Str->ah}
end
end
section
section
variable {c:C}{e:aV}{g:ap->R D}{pos p:Pos}
end
end
end J
section
namespace L2
open PySem PySem.Spec PyProof.Rows
end L2
namespace L2
open PySem PySem.Spec PyProof.Rows
theorem zm {X:Cx} (hc:X.calm=true):jz X (.builtin "max") (fun xs H Q=>∃ p,∃ ns:List Int,xs=[.ref p]/\lU X.K H p (ns.map V.int)/\0<ns.length/\∀ m,m∈ns->(∀ a∈ns,a<=m)->Q (.int m) H):=by
 intro pins s σ H xs us Q I r h
 obtain ⟨p,ns,rfl,hq,hz,q⟩:=h
 obtain ⟨u,rfl,rx⟩:=ki r
 cases rx
 obtain ⟨its,r',pl,hl⟩:=I.list hq
 have ln:its.toArray.size=ns.length:=by have:=r'.length;simp at this ⊢;omega
 obtain ⟨o,ho,hk⟩:=pl.isList
 refine call_max_walk (iw pl.isList ⟨_,_,_,_,_,_,fun i j=>decide (ns.getD i 0 > ns.getD j 0),rfl,tN (by simpa using I.ok.hd hc) _ p (aE (am ho)) its.toArray,⟨⟨_,aC _ rfl,rfl,rfl⟩,pl.isList.push _⟩,?_,?_,?_,fun v h' tk hv kp=>?_⟩)
 ·intro b hb
  simp only [aZ,aQ,or_false] at hb
  have hp:=am ho
  have hs:(s.heap.push { cls:=.type "list_iterator",data:=.fields #[c6 p,lQ 0 0] }).objs.size=s.heap.objs.size + 1:=Array.size_push ..
  rcases hb with rfl | rfl
  ·exact K3 (dI _) hs.symm
  ·exact K3 (eS hp) hs.symm
 ·omega
 ·refine CmpOf.ints_gt (fun i=>ns.getD i 0) fun i v hi=>?_
  obtain ⟨n,t,e1,rfl⟩:=D9 r' (i:=i) (by simpa using hi)
  exact ⟨t,by simp [c8,e1]⟩
 ·rw [ln] at hv
  obtain ⟨b1,b2⟩:=argBest_gt (fun i=>ns.getD i 0) (ns.length - 1)
  obtain ⟨n,t,e1,rfl⟩:=D9 r' (by simpa using hv)
  refine ⟨.int n,H,I.kept (t':=tk) fun b o e=>kp b o ?_ (af _ e),⟨t,rfl⟩,q n (b_ e1) fun a ha=>?_⟩
  ·simp only [dE]
   exact aE (am e)
  ·obtain ⟨j,hj,e⟩:=lr ha
   have:=b2 j (by omega)
   simpa [c8,e1,hj,e] using this
end L2
namespace J
open PySem L2
def W3:D->R D
 | .list ds=>match qj ds with
  | some ns=>.ok (.int ns.sum)
  | none=>.no
 | _=>.no
def Db:List Int->Int
 | []=>0
 | x::r=>r.foldl max x
theorem Dc:∀ (r:List Int) (x:Int),(r.foldl max x∈x::r)/\∀ a∈x::r,a<=r.foldl max x
 | [],x=>⟨by simp,fun a ha=>by simp at ha;subst ha;exact Int.le_refl _⟩
 | y::r,x=>by
  obtain ⟨h1,h2⟩:=Dc r (max x y)
  rw [lc]
  refine ⟨?_,fun a ha=>?_⟩
  ·rcases List.mem_cons.mp h1 with h | h
   ·rw [h]
    by_cases hxy:x<=y
    ·rw [Int.max_eq_right hxy];simp
    ·rw [Int.max_eq_left (by omega)];simp
   ·exact aj _ (aj _ h)
  ·have h0:=h2 (max x y) al
   rcases List.mem_cons.mp ha with h | h
   ·subst h
    exact Int.le_trans (Int.le_max_left _ _) h0
   ·rcases List.mem_cons.mp h with h | h
    ·subst h
     exact Int.le_trans (Int.le_max_right _ _) h0
    ·exact h2 a (aj _ h)
theorem Bl {ns:List Int}{m:Int} (h1:m∈ns) (h2:∀ a∈ns,a<=m):m=Db ns:=by
 cases ns with
 | nil=>cases h1
 | cons x r =>
  obtain ⟨k1,k2⟩:=Dc r x
  exact Int.le_antisymm (k2 _ h1) (h2 _ k1)
def Dd:D->R D
 | .list ds=>match qj ds with
  | some ns=>if 0<ns.length then .ok (.int (Db ns)) else .no
  | none=>.no
 | _=>.no
theorem M5 {X:Cx} (hc:X.calm=true):Iy X (.builtin "max") (gX Dd):=by
 refine sr (fun d c n=>?_) fun pins s σ H x u Q Hs d d' I ru sub rx hd q=>?_
 ·unfold Dd
  split<;>(try split)<;>(try split)<;>exact fun h=>by cases h
 ·unfold Dd at hd
  split at hd
  ·split at hd
   ·split at hd
    ·rename_i ns hs hz
     cases hd
     obtain ⟨a,vs,rfl,qa,ra⟩:=rx.list sub
     rw [Da hs] at ra
     rw [AZ ra] at qa
     exact zm hc pins s σ H _ _ Q I (.cons ru .nil) ⟨a,ns,rfl,qa,hz,fun m h1 h2=>by rw [Bl h1 h2];exact q _ H Hs (.refl sub) (.int _)⟩
    ·cases hd
   ·cases hd
  ·cases hd
end J
end
namespace J
open PySem L2
section
end
end J
namespace L2
open PySem PySem.Spec PyProof.Rows
section
section
variable {prog:aK}{w:aY}{A:b6}{R:rZ->ac->Prop}{s:ac}
end
end
end L2
namespace J
open PySem L2
section
section
variable {c:C}{pos:Pos}{x:Str}{kx vx iter tg:aV}{ifs:List aV}{scope:e7}{N':List Str}{nt:Nat}{ix:List Nat}{gi:ap->R (List D)}{gt:ap->R Bool}{gk gv:ap->R D}
end
end
end J
section
namespace L2
open PySem PySem.Spec PyProof.Rows
end L2
namespace J
open PySem L2
section
variable {c:C}{pos:Pos}{x:Str}{kx vx iter tg:aV}{ifs:List aV}{scope:e7}{N':List Str}{nt:Nat}{ix:List Nat}{gi:ap->R (List D)}{gt:ap->R Bool}{gk gv:ap->R D}
end
end J
end
namespace J
open PySem L2
section
end
section
end
section
def qk (p:HO->Bool) (H Hs:Hp):Hp:=fun b=>match Hs b,H b with
 | some o,_=>some o
 | none,some o=>if p o then some o else none
 | none,none=>none
def Bm (p:HO->Bool) (H Hs Hs1:Hp):Hp:=fun b=>match Hs b,H b with
 | none,some o=>if p o then none else Hs1 b
 | _,_=>Hs1 b
section
variable {p:HO->Bool}{H Hs H' Hs' Hs1:Hp}{K:a6}
theorem nw:cZ Hs (qk p H Hs):=fun b o e=>by
 unfold qk
 rw [e]
theorem xQ {b:ah}{o:HO} (h:H b=some o) (n:Hs b=none) (hp:p o=true):qk p H Hs b=some o:=by
 unfold qk
 rw [n,h]
 exact if_pos hp
theorem xR {b:ah}{o:HO} (h:qk p H Hs b=some o):Hs b=some o\/(Hs b=none/\H b=some o/\p o=true):=by
 unfold qk at h
 split at h
 ·rename_i e;exact .inl (e.trans h)
 ·rename_i u n e
  split at h
  ·rename_i hp;cases h;exact .inr ⟨n,e,hp⟩
  ·cases h
 ·cases h
theorem De (s:cZ Hs H):cZ (qk p H Hs) H:=fun b o e=>by
 rcases xR e with h | ⟨_,h,_⟩
 ·exact s b o h
 ·exact h
theorem OB (s:cD H Hs H' Hs'):cZ (qk p H Hs) (qk p H' Hs'):=fun b o e=>by
 rcases xR e with h | ⟨n,h,hp⟩
 ·exact nw b o (s.sh b o h)
 ·have h':=s.all b o h
  cases n':Hs' b with
  | none=>exact xQ h' n' hp
  | some u =>
   have:=s.sub b u n'
   rw [h'] at this
   cases this
   exact nw b o n'
theorem OC {b:ah}{o:HO} (n:Hs b=none) (h:H b=some o) (hp:p o=true):Bm p H Hs Hs1 b=none:=by
 unfold Bm
 rw [n,h]
 exact if_pos hp
theorem GZ {b:ah} (h:∀ o,Hs b=none->H b=some o->p o=false):Bm p H Hs Hs1 b=Hs1 b:=by
 unfold Bm
 split
 ·rename_i o n e
  rw [h o n e]
  rfl
 ·rfl
theorem M6:cZ (Bm p H Hs Hs1) Hs1:=fun b o e=>by
 unfold Bm at e
 split at e
 ·split at e
  ·cases e
  ·exact e
 ·exact e
theorem vi (sub:cZ Hs H) (s:cD H (qk p H Hs) H' Hs1):cD H Hs H' (Bm p H Hs Hs1):=by
 refine ⟨s.all,fun b o e=>?_,M6.trans s.sub,fun a o e t n=>?_⟩
 ·rw [GZ fun o' n _=>by rw [e] at n;cases n]
  exact s.sh b o (nw b o e)
 ·cases hp:p o with
  | true=>exact OC n e hp
  | false =>
   rw [GZ fun o' _ e'=>by rw [e] at e';cases e';exact hp]
   refine s.out a o e t ?_
   unfold qk
   rw [n,e]
   simp only [hp]
   rfl
end
structure Ru (p:HO->Bool) (ok:D->Bool):Prop where
 rd:∀ {K:a6}{H Hs H' Hs1:Hp},cD H (qk p H Hs) H' Hs1->∀ {v d},ok d=true->RD K Hs1 v d->RD K (Bm p H Hs Hs1) v d
def rP:D->Bool
 | .int _=>true
 | .bool _=>true
 | .none=>true
 | .str _=>true
 | _=>false
theorem Df:Ru (fun _=>true) rP:=.mk fun {K H Hs H' Hs1} s {v d} hd r=>by
 cases r with
 | none=>exact .none
 | bool b=>exact .bool b
 | int b=>exact .int b
 | str b=>exact .str b
 | list _ _=>cases hd
 | tuple _ _=>cases hd
 | dictK _ _=>cases hd
 | dictT _ _ _=>cases hd
 | dictF _ _ _=>cases hd
inductive Rv (p:HO->Bool) (K:a6) (cls:Str->ah) (E:XK) (ρ:ap) (r:R (List D)) (σ:St) (H:Hp) (Q:List V->Hp->Prop):Prop
 | mk (H0 Hs0:Hp) (la:Nat->Option ah) (Hs:Hp) (f:Fr K H0 Hs0 la ρ σ H Hs) (q:Fin K cls E H Hs r fun d=>∀ v H' Hs',cD H Hs H' Hs'->RDs K (qk p H' Hs') v d->Q v H'):Rv p K cls E ρ r σ H Q
structure JL (p:HO->Bool) (c:C) (es:List aV) (g:ap->R (List D)):Prop where of ::
 run:∀ ρ,PA c.X es (Rv p c.X.K c.cls c.E ρ (g ρ))
section
variable {p:HO->Bool}{c:C}{e:aV}{es:List aV}{g:ap->R D}{gs:ap->R (List D)}{pos:Pos}
theorem OD {K:a6}{cls:Str->ah}{E:XK}{ρ:ap}{r:R (List D)}{β:Type}{k:List D->R β}{σ:St}{H:Hp}{H0 Hs0 Hs:Hp}{la:Nat->Option ah}{Q:List V->Hp->Prop}{q:β->Prop} (f:Fr K H0 Hs0 la ρ σ H Hs)
  (h:Fin K cls E H Hs (r.bind k) q) (m:∀ d v H' Hs',r=.ok d->cD H Hs H' Hs'->Fr K H0 Hs0 la ρ σ H' Hs'->RDs K (qk p H' Hs') v d->Q v H'):Rv p K cls E ρ r σ H Q:=by
 refine ⟨H0,Hs0,la,Hs,f,?_⟩
 cases r with
 | ok d=>exact fun v H' Hs' s r=>m d v H' Hs' rfl s (f.step s) r
 | ex c n=>exact h
 | no=>exact h
theorem M7:JL p c [] aG:=.of fun ρ=>R6 gq fun σ H Q h=>by obtain ⟨H0,Hs0,la,Hs,f,q⟩:=h;exact q [] H Hs (.refl f.st.sub) .nil
theorem OE (h:JE c e g) (hr:JL p c es gs) (hs:aw (e::es) c.X.env=(false,cR e c.X.env)::aw es c.X.env:=by rfl):JL p c (e::es) (aa g gs):=.of fun ρ=>R6 (eV (h ρ) (hr.run ρ) hs) fun σ H Q h=>by
 obtain ⟨H0,Hs0,la,Hs,f,q⟩:=h
 refine A_ f q fun d v H1 Hs1 e1 s1 f1 r1=>?_
 unfold aa at q
 rw [e1,bind_ok] at q
 refine OD f1 (q.on s1 (q':=fun _=>True) fun _ _=>trivial) fun ds vs H2 Hs2 e2 s2 f2 r2=>?_
 rw [e2,bind_ok] at q
 exact q _ H2 Hs2 (s1.trans s2) (.cons ((r1.same s2.sh).same nw) r2)
def Nb (i:Nat) (ρ:ap):R D:=match ρ[i]? with
 | some (Sl.ow2 dss)=>.ok (.list (dss.map .list))
 | _=>.no
theorem OF {K:a6}{H Hs:Hp}{as:List ah}{dss:List (List D)} (h:v9 K H Hs as dss) (n:∀ b∈as,Hs b=none):RDs K (qk (fun _=>true) H Hs) (as.map V.ref) (dss.map .list):=by
 induction h with
 | nil=>exact .nil
 | cons h r t ih=>exact .cons (.list (.of (xQ h (n _ al) rfl)) (r.same nw)) (ih fun b hb=>n b (aj _ hb))
theorem G_ (i:Nat) {x:Str}{ps:Pos} (hr:JL (fun _=>true) c es gs) (hN:c.X.N[i]?=some x:=by rfl) (hv:JF c.X.env.scope x:=by first | exact fB rfl | exact c_ (fB rfl) | exact c_ (c_ rfl)) (hd:(x == ("__debug__" : Str))=false:=by decide)
  (hcd:(x == ("__classdict__" : Str))=false:=by decide) (hs:aw (.Name x ps::es) c.X.env=(false,cR (.Name x ps) c.X.env)::aw es c.X.env:=by rfl):JL (fun _=>true) c (.Name x ps::es) (aa (Nb i) gs):=.of fun ρ=>R6 (eV (mJ hN hv hd hcd) (hr.run ρ) hs) fun σ H Q h=>by
 obtain ⟨H0,Hs0,la,Hs,f,q⟩:=h
 unfold aa Nb at q
 cases hr:ρ[i]? with
 | none=>simp only [hr] at q;exact q.elim
 | some s =>
  cases s with
  | ow2 dss =>
   obtain ⟨a,as,O⟩:=f.o2 i dss hr
   simp only [hr,bind_ok] at q
   refine ⟨_,O.at_,?_⟩
   refine OD f q fun ds vs H2 Hs2 e2 s2 f2 r2=>?_
   rw [e2,bind_ok] at q
   exact q _ H2 Hs2 s2 (.cons (RD.same (OB s2) (.list (.of (xQ O.ob (O.out a al).1 rfl)) (OF O.inn fun b hb=>(O.out b (aj _ hb)).1))) r2)
  | shr d=>simp only [hr] at q;exact q.elim
  | no=>simp only [hr] at q;exact q.elim
  | lck d=>simp only [hr] at q;exact q.elim
  | own d=>simp only [hr] at q;exact q.elim
def Rw (ok:D->Bool):R D->R D
 | .ok d=>if ok d then .ok d else .no
 | .ex c none=>.ex c none
 | _=>.no
def Fo (ok:D->Bool) (n:Nat) (F:List D->R D) (gs:ap->R (List D)):ap->R D:=fun ρ=>(gs ρ).bind fun ds=>if ds.length=n then Rw ok (F ds) else .no
theorem W4 {x:Str}{pn:Pos}{ok:D->Bool} (L:Ru p ok) {k j n:Nat}{F:List D->R D} (G:Fn c.X.prog c.X.w c.X.K c.X.mg c.X.base c.cls x k n F) (hr:kQ j c.X.A) (hx:pS (pG c.X.prog c.X.w) c.X c.E) (ha:JL p c (e::es) gs)
  (hk:k<=j:=by decide) (hg:Gl c.X x:=by exact rfl) (hdb:(x == ("__debug__" : Str))=false:=by decide) (he:aw (e::es) c.X.env=(false,cR e c.X.env)::aw es c.X.env:=by rfl) (hpl:(eT pos (aw es c.X.env)).any (·.1)=false:=by rfl) :
  JE c (.Call (.Name x pn) (e::es) [] pos) (Fo ok n F gs):=.of fun ρ=>by
 obtain ⟨f,fd,ps,hf,hm,hk',hb⟩:=G.ex
 refine rN (Gc (E:=c.E) hf (hr.mono hk) hg hm hk' hb .nil hx (ha.run ρ) hdb he hpl) fun σ H Q h_0=>?_
 obtain ⟨H0,Hs0,la,Hs,fr,q⟩:=h_0
 refine OD fr q fun ds vs H1 Hs1 e1 s1 f1 r1=>?_
 unfold Fo at q
 rw [e1,bind_ok] at q
 by_cases hn:ds.length=n
 ·rw [if_pos hn] at q
  show RQ _ _ _ _ (vs++[]) _ _ _
  rw [cA]
  refine ⟨qk p H1 Hs1,ds,De f1.st.sub,hn,r1,?_⟩
  cases hF:F ds with
  | no=>rw [hF] at q;exact q.elim
  | ex y m =>
   rw [hF] at q
   cases m with
   | some d=>exact q.elim
   | none=>exact fun H2 Hs2 s2=>by have z:=q H2 (Bm p H1 Hs1 Hs2) (s1.trans (vi f1.st.sub s2));exact z
  | ok d =>
   rw [hF] at q
   unfold Rw at q
   simp only at q
   by_cases ho:ok d=true
   ·rw [if_pos ho] at q
    exact fun v H2 Hs2 s2 r2=>q v H2 _ (s1.trans (vi f1.st.sub s2)) (L.rd s2 ho r2)
   ·rw [if_neg ho] at q;exact q.elim
 ·rw [if_neg hn] at q;exact q.elim
end
end
section
section
variable {p:HO->Bool}{c:C}{e:aV}{es:List aV}{g:ap->R D}{gs:ap->R (List D)}{pos spos pn apos cpos:Pos}{x:Str}
theorem Rx {K:a6}{H Hs:Hp}{vs:List V}{ds:List D} (h:RDs K Hs vs ds):Oc K H Hs vs ds:=by
 induction ds generalizing vs with
 | nil=>cases h;exact .nil
 | cons d r ih=>cases h with | cons a b=>exact .cons (.inl a) (ih b)
def sB (ok:D->Bool) (gs:ap->R (List D)) (h:List D->R D):ap->R D:=fun ρ=>(gs ρ).bind fun ds=>Rw ok (h ds)
theorem M8 {id:String}{h:List D->R D}{ok:D->Bool} (L:Ru p ok) (hc:Iy c.X (.builtin id) h) (hg:Gl c.X x) (hm:c.X.mg x=none) (hv:gE x=some (.builtin id)) (ha:JL p c (e::es) gs) (hn:x≠"__name__":=by decide) (hdb:(x == ("__debug__" : Str))=false:=by decide)
  (he:aw (e::es) c.X.env=(false,cR e c.X.env)::aw es c.X.env:=by rfl) (hpl:(eT pos (aw es c.X.env)).any (·.1)=false:=by rfl):JE c (.Call (.Name x pn) (e::es) [] pos) (sB ok gs h):=.of fun ρ=>rN (pT hc.1 hg hm hv (ha.run ρ) hn hdb he hpl) fun σ H Q q=>by
 obtain ⟨H0,Hs0,la,Hs,f,q⟩:=q
 refine OD f q fun ds vs H1 Hs1 e1 s1 f1 r1=>?_
 unfold sB at q
 rw [e1,bind_ok] at q
 cases hr:h ds with
 | ok d =>
  rw [hr] at q
  unfold Rw at q
  simp only at q
  by_cases ho:ok d=true
  ·rw [if_pos ho] at q
   exact ⟨qk p H1 Hs1,ds,De f1.st.sub,Rx r1,d,hr,fun v H2 Hs2 s2 r2=>q v H2 _ (s1.trans (vi f1.st.sub s2)) (L.rd s2 ho r2)⟩
  ·rw [if_neg ho] at q;exact q.elim
 | ex c n=>exact (hc.2 ds c n hr).elim
 | no=>rw [hr] at q;exact q.elim
def M9 (i:Nat):ap->R Fl:=fun ρ=>.ok (.nx ((clear2 ρ).set i (.ow2 [])))
theorem Ry (i:Nat) {pos':Pos} (hN:c.X.N.Nodup) (hi:c.X.N[i]?=some x:=by rfl) (hx:NE c.X.env.scope x:=by first | exact fB rfl | exact c_ rfl)
  (hs:fQ (.List [] pn) (some (.Name x pos')) spos.line c.X.env=pure false:=by rfl)
  (hf:c.X.fn x=true\/c.X.env.scope.names.lookup x=some .local:=by first | exact .inl rfl | exact .inr rfl | assumption) :
  JS c (.Assign [.Name x pos'] (.List [] pn) spos) (M9 i):=.of fun ρ=>by
 refine yS (AF hN hi hx (nQ gq) hs hf) fun D σ H h_0=>?_
 obtain ⟨H0,Hs0,la,Hs,f,q⟩:=h_0
 replace q:mR c.X.K c.cls c.E H0 Hs0 la D (M9 i ρ):=q
 obtain ⟨f,no2⟩:=f.clear2
 refine ⟨cn _,fun a n=>?_⟩
 have st:cD H Hs (upd H a (.lst [])) Hs:=.mine f.st.sub n
 have f':=f.step st
 have nx:∀ {j:Nat}{s:Sl},(∀ d,s≠.ow2 d)->((clear2 ρ).set i (.ow2 []))[j]?=some s->(clear2 ρ)[j]?=some s/\i≠j:=fun {j s} hs e=>by
  by_cases hj:i=j
  ·subst hj
   by_cases hi:i<(clear2 ρ).length
   ·rw [az hi] at e;exact absurd (bu e).symm (hs _)
   ·rw [bz (by simpa using hi)] at e;cases e
  ·rw [ag hj] at e;exact ⟨e,hj⟩
 refine q _ _ Hs ⟨f'.st,by simp [f'.len],fun j d h=>?_,fun j d h=>?_,fun j d h=>?_,fun j k d d' b h1 h2 h3 h4=>?_,f'.lh,fun j d h=>?_,fun j k d d' h1 h2=>?_⟩
 ·obtain ⟨h,hj⟩:=nx (fun _ z=>by cases z) h
  rw [ag hj];exact f'.sh j d h
 ·obtain ⟨h,hj⟩:=nx (fun _ z=>by cases z) h
  rw [ag hj];exact f'.ow j d h
 ·obtain ⟨h,hj⟩:=nx (fun _ z=>by cases z) h
  rw [ag hj];exact f'.lk j d h
 ·obtain ⟨h1,hj⟩:=nx (fun _ z=>by cases z) h1
  obtain ⟨h2,hk⟩:=nx (fun _ z=>by cases z) h2
  rw [ag hj] at h3
  rw [ag hk] at h4
  exact f'.dj j k d d' b h1 h2 h3 h4
 ·by_cases hj:i=j
  ·subst hj
   by_cases hi:i<(clear2 ρ).length
   ·rw [az hi] at h
    cases h
    refine ⟨a,[],az (by rw [<- f'.len];exact hi),bq,List.nodup_cons.mpr ⟨by simp,.nil⟩,fun b hb=>?_,fun b hb k e hk=>?_,.nil⟩
    ·rw [List.mem_singleton.mp hb]
     exact ⟨f.st.sub.free n,f.st.all.free n⟩
    ·obtain ⟨hk,nk⟩:=nx (fun _ z=>by cases z) hk
     rw [ag nk]
     intro z
     obtain ⟨b',o,k1,k2,_⟩:=f.ow k e hk
     rw [z] at k1
     cases k1
     rw [List.mem_singleton.mp hb,n] at k2;cases k2
   ·rw [bz (by simpa using hi)] at h;cases h
  ·rw [ag hj] at h;exact (no2 j d h).elim
 ·by_cases hj:i=j
  ·by_cases hk:i=k
   ·exact hj.symm.trans hk
   ·rw [ag hk] at h2;exact (no2 k d' h2).elim
  ·rw [ag hj] at h1;exact (no2 j d h1).elim
theorem v9.snoc {K:a6}{H Hs:Hp}{b:ah} (hb:H b=some (.lst [])) {as:List ah}{dss:List (List D)} (h:v9 K H Hs as dss):v9 K H Hs (as++[b]) (dss++[[]]):=by
 induction h with
 | nil=>exact .cons hb .nil .nil
 | cons h r t ih=>exact .cons h r ih
def xS (i:Nat):ap->R Fl:=fun ρ=>match ρ[i]? with
 | some (Sl.ow2 dss)=>if dss.length<1000 then .ok (.nx (ρ.set i (.ow2 (dss++[[]])))) else .no
 | _=>.no
theorem Fp (i:Nat) {pp pl:Pos} (hN:c.X.N[i]?=some x:=by rfl) (hv:JF c.X.env.scope x:=by first | exact fB rfl | exact c_ (fB rfl) | exact c_ (c_ rfl)) (hd:(x == ("__debug__" : Str))=false:=by decide)
  (hcd:(x == ("__classdict__" : Str))=false:=by decide)
  (hbase:lR (.Name x pp) "append" c.X.env (cR (.Name x pp) c.X.env)=cR (.Name x pp) c.X.env:=by rfl)
  (hfew:((eT cpos (aw [.List [] pl] c.X.env)).all (fun x=>!x.1) && (yX cpos (pq [] c.X.env)).all (fun x=>x.1.isSome)
   && decide ([Expr.List [] pl].length + ([] : List kA).length + (if ([] : List kA).isEmpty then 0 else 1)<30))=true:=by rfl)
  (hline:(apos.endLine == cpos.line)=true:=by rfl) (hst:aw [.List [] pl] c.X.env=(false,cR (.List [] pl) c.X.env)::aw [] c.X.env:=by rfl) (hplain:(eT cpos (aw [] c.X.env)).any (·.1)=false:=by rfl)
  (hs:fQ (.Call (.Attribute (.Name x pp) "append" apos) [.List [] pl] [] cpos) none pos.line c.X.env=pure false:=by rfl) :
  JS c (.Expr (.Call (.Attribute (.Name x pp) "append" apos) [.List [] pl] [] cpos) pos) (xS i):=.of fun ρ=>by
 refine yS (tT (Cb gn iE iF qK (mJ hN hv hd hcd) (eV (nQ gq) gq hst) hbase hfew hline hst hplain) hs) fun D σ H h_0=>?_
 obtain ⟨H0,Hs0,la,Hs,f,q⟩:=h_0
 replace q:mR c.X.K c.cls c.E H0 Hs0 la D (xS i ρ):=q
 unfold xS at q
 split at q
 ·rename_i dss ho
  by_cases hl:dss.length<1000
  ·rw [if_pos hl] at q
   obtain ⟨a,as,O⟩:=f.o2 i dss ho
   refine ⟨_,O.at_,.inl ⟨rfl,_,.of O.ob⟩,cn _,fun b nb=>?_⟩
   have hab:a≠b:=bA O.ob nb
   have ha1:upd H b (.lst []) a=some (.lst (as.map V.ref)):=by rw [bj hab];exact O.ob
   have hlen:=O.inn.length
   refine ⟨a,as.map V.ref,.ref b,rfl,rfl,ha1,df (by rw [av];omega),?_⟩
   have hil:i<ρ.length:=(List.getElem?_eq_some_iff.mp ho).1
   have f1:=f.step (.mine (o:=.lst []) f.st.sub nb)
   have o1:∀ b'∈a::as,upd H b (.lst []) b'=H b':=fun b' hb'=>by
    have:∃ o,H b'=some o:=by
     rcases List.mem_cons.mp hb' with rfl | h
     ·exact ⟨_,O.ob⟩
     ·obtain ⟨o,h1,_⟩:=O.inn.there h;exact ⟨o,h1⟩
    obtain ⟨o,h1⟩:=this
    rw [bj (bA h1 nb)]
   have nbm:b∉a::as:=fun z=>by
    rcases List.mem_cons.mp z with h | h
    ·exact hab h.symm
    ·obtain ⟨o,h1,_⟩:=O.inn.there h
     rw [nb] at h1;cases h1
   obtain ⟨as0,a0⟩:=O.out a al
   have nx:∀ {j':Nat}{s:Sl},(∀ d,s≠.ow2 d)->(ρ.set i (.ow2 (dss++[[]])))[j']?=some s->ρ[j']?=some s/\i≠j':=fun {j' s} hs e=>by
    by_cases hj:i=j'
    ·subst hj
     rw [az hil] at e;exact absurd (bu e).symm (hs _)
    ·rw [ag hj] at e;exact ⟨e,hj⟩
   refine q _ _ Hs ⟨⟨fun c u e=>?_,f1.st.sh,fun c u e=>?_,f1.st.out⟩,by simp [f1.len],fun j' d' h=>f1.sh j' d' (nx (fun _ z=>by cases z) h).1,fun j' d' h=>?_,fun j' d' h=>?_,fun j' k' d' e' a h1 h2=>f1.dj j' k' d' e' a (nx (fun _ z=>by cases z) h1).1 (nx (fun _ z=>by cases z) h2).1,f1.lh,fun j' d' h=>?_,fun j' k' d' e' h1 h2=>?_⟩
   ·rw [bj (bA e a0)];exact f1.st.all c u e
   ·rw [bj (bA e as0)];exact f1.st.sub c u e
   ·obtain ⟨h,_⟩:=nx (fun _ z=>by cases z) h
    obtain ⟨c',u,k1,k2,k3,k4,k5⟩:=f1.ow j' d' h
    refine ⟨c',u,k1,?_,k3,k4,k5⟩
    rw [bj (fun z=>O.dj a al j' d' h (by rw [<- z];exact k1))]
    exact k2
   ·obtain ⟨h,_⟩:=nx (fun _ z=>by cases z) h
    obtain ⟨c',u,k1,k2,k3,k4,k5,k6⟩:=f1.lk j' d' h
    refine ⟨c',u,k1,k2,?_,k4,k5,k6⟩
    rw [bj (bA k5 a0)]
    exact k3
   ·by_cases hj':i=j'
    ·subst hj'
     rw [az hil] at h
     cases h
     refine ⟨a,as++[b],O.at_,by rw [bq];simp,?_,fun c hc=>?_,fun c hc k e' hk=>?_,?_⟩
     ·rw [show a::(as++[b])=(a::as)++[b] from rfl]
      refine List.nodup_append.mpr ⟨O.nd,by simp,fun u hu v hv z=>?_⟩
      rw [List.mem_singleton.mp hv] at z
      exact nbm (z ▸ hu)
     ·rw [show a::(as++[b])=(a::as)++[b] from rfl] at hc
      rcases List.mem_append.mp hc with z | z
      ·exact O.out c z
      ·rw [List.mem_singleton.mp z];exact ⟨f.st.sub.free nb,f.st.all.free nb⟩
     ·rw [show a::(as++[b])=(a::as)++[b] from rfl] at hc
      have hk:=(nx (fun _ z=>by cases z) hk).1
      rcases List.mem_append.mp hc with z | z
      ·exact O.dj c z k e' hk
      ·rw [List.mem_singleton.mp z]
       intro w
       obtain ⟨b',o,k1,k2,_⟩:=f.ow k e' hk
       rw [w] at k1
       cases k1
       rw [nb] at k2;cases k2
     ·refine v9.snoc (by rw [bj (cW hab)];exact bq) ?_
      exact (O.inn.upd (o:=.lst []) fun z=>nbm (aj _ z)).upd (List.nodup_cons.mp O.nd).1
    ·rw [ag hj'] at h
     exact (hj' (f.u2 i j' _ _ ho h)).elim
   ·by_cases hj':i=j'
    ·by_cases hk':i=k'
     ·exact hj'.symm.trans hk'
     ·rw [ag hk'] at h2
      exact (hk' (f.u2 i k' _ _ ho h2)).elim
    ·rw [ag hj'] at h1
     exact (hj' (f.u2 i j' _ _ ho h1)).elim
  ·rw [if_neg hl] at q;exact q.elim
 ·exact q.elim
end
end
end J
section
namespace L2
open PySem PySem.Spec PyProof.Rows
end L2
namespace J
open PySem L2
end J
end
namespace J
open PySem L2
section
section
variable {c:C}{e:aV}{g:ap->R D}{pn cpos pos:Pos}
def xT (g:ap->R D):ap->R D:=fun ρ=>(g ρ).bind fun d=>match d with
 | .list ds=>.ok (.list ds)
 | .tuple ds=>.ok (.list ds)
 | _=>.no
theorem Ma (h:JB c e g) (hg:Gl c.X "list") (hm:c.X.mg "list"=none) (he:aw [e] c.X.env=(false,cR e c.X.env)::aw [] c.X.env:=by rfl) (hpl:(eT cpos (aw [] c.X.env)).any (·.1)=false:=by rfl) :
  JN c (.Call (.Name "list" pn) [e] [] cpos) (xT g):=.of fun ρ=>by
 refine rN (uZ nR hg hm gm (eV (h ρ) gq he) (he:=he) (hpl:=hpl)) fun σ H Q h_1=>?_
 obtain ⟨H0,Hs0,la,Hs,f,q⟩:=h_1
 dsimp only [L2.RN,L2.Gb,L2.NQ]
 refine one f q fun d v H1 Hs1 e1 s1 f1 r1=>?_
 unfold xT at q
 rw [e1,bind_ok] at q
 cases d with
 | list ds =>
  obtain ⟨a,vs,rfl,qa,ra⟩:=r1.list f1.st.sub
  exact ⟨a,vs,rfl,.inl qa,fun l hl=>q l _ H1 Hs1 s1 hl (.lst ra)⟩
 | tuple ds =>
  obtain ⟨a,vs,rfl,qa,ra,_⟩:=r1.tuple f1.st.sub
  exact ⟨a,vs,rfl,.inr qa,fun l hl=>q l _ H1 Hs1 s1 hl (.lst ra)⟩
 | none=>exact q.elim
 | bool _=>exact q.elim
 | int _=>exact q.elim
 | str _=>exact q.elim
 | dict _=>exact q.elim
theorem RDs.erase {K:a6}{H:Hp}{vs:List V}:∀ {ds:List D} (k:Nat),RDs K H vs ds->RDs K H (vs.eraseIdx k) (ds.eraseIdx k):=by
 induction vs with
 | nil=>intro ds k h;cases h;exact .nil
 | cons x r ih =>
  intro ds k h
  cases h with
  | cons a b =>
   cases k with
   | zero=>exact b
   | succ k=>exact .cons a (ih k b)
def o6 (i j:Nat) (g:ap->R D):ap->R Fl:=fun ρ=>match ρ[i]?,ρ[j]? with
 | some (Sl.own (.list ys)),some (Sl.own (.list xs))=>if i=j then .no else (g ρ).bind fun d=>match d with
  | .int k=>if 0<=k/\k<1000/\ys.length<1000 then (match xs[k.toNat]? with
   | some y=>.ok (.nx ((ρ.set j (.own (.list (xs.eraseIdx k.toNat)))).set i (.own (.list (ys++[y])))))
   | none=>.no) else .no
  | _=>.no
 | _,_=>.no
theorem IH (i j:Nat) {x y:Str}{px py ax ay cx:Pos} (h:JE c e g)
  (hi:c.X.N[i]?=some x:=by rfl) (hvx:JF c.X.env.scope x:=by first | exact fB rfl | exact c_ (fB rfl) | exact c_ (c_ rfl)) (hdx:(x == ("__debug__" : Str))=false:=by decide) (hcx:(x == ("__classdict__" : Str))=false:=by decide)
  (hj:c.X.N[j]?=some y:=by rfl) (hvy:JF c.X.env.scope y:=by first | exact fB rfl | exact c_ (fB rfl) | exact c_ (c_ rfl)) (hdy:(y == ("__debug__" : Str))=false:=by decide) (hcy:(y == ("__classdict__" : Str))=false:=by decide)
  (b1:lR (.Name x px) "append" c.X.env (cR (.Name x px) c.X.env)=cR (.Name x px) c.X.env:=by rfl)
  (b2:lR (.Name y py) "pop" c.X.env (cR (.Name y py) c.X.env)=cR (.Name y py) c.X.env:=by rfl)
  (f1:((eT cx (aw [e] c.X.env)).all (fun x=>!x.1) && (yX cx (pq [] c.X.env)).all (fun x=>x.1.isSome)
   && decide ([e].length + ([] : List kA).length + (if ([] : List kA).isEmpty then 0 else 1)<30))=true:=by rfl)
  (l1:(ay.endLine == cx.line)=true:=by rfl) (s1:aw [e] c.X.env=(false,cR e c.X.env)::aw [] c.X.env:=by rfl) (p1:(eT cx (aw [] c.X.env)).any (·.1)=false:=by rfl)
  (f2:((eT cpos (aw [.Call (.Attribute (.Name y py) "pop" ay) [e] [] cx] c.X.env)).all (fun x=>!x.1) && (yX cpos (pq [] c.X.env)).all (fun x=>x.1.isSome)
   && decide ([Expr.Call (.Attribute (.Name y py) "pop" ay) [e] [] cx].length + ([] : List kA).length + (if ([] : List kA).isEmpty then 0 else 1)<30))=true:=by rfl)
  (l2:(ax.endLine == cpos.line)=true:=by rfl) (s2:aw [.Call (.Attribute (.Name y py) "pop" ay) [e] [] cx] c.X.env=(false,cR (.Call (.Attribute (.Name y py) "pop" ay) [e] [] cx) c.X.env)::aw [] c.X.env:=by rfl) (p2:(eT cpos (aw [] c.X.env)).any (·.1)=false:=by rfl)
  (hs:fQ (.Call (.Attribute (.Name x px) "append" ax) [.Call (.Attribute (.Name y py) "pop" ay) [e] [] cx] [] cpos) none pos.line c.X.env=pure false:=by rfl) :
  JS c (.Expr (.Call (.Attribute (.Name x px) "append" ax) [.Call (.Attribute (.Name y py) "pop" ay) [e] [] cx] [] cpos) pos) (o6 i j g):=.of fun ρ=>by
 refine yS (tT (Cb gn iE iF qK (mJ hi hvx hdx hcx) (eV (Cb gn PySem.F.slot_list_pop PySem.F.type_list_pop Kl (mJ hj hvy hdy hcy) (eV (h ρ) gq s1) b2 f1 l1 s1 p1) gq s2) b1 f2 l2 s2 p2) hs) fun D σ H h_0=>?_
 obtain ⟨H0,Hs0,la,Hs,f,q⟩:=h_0
 replace q:mR c.X.K c.cls c.E H0 Hs0 la D (o6 i j g ρ):=q
 unfold o6 at q
 split at q
 ·rename_i ys xs ho hp
  by_cases hij:i=j
  ·rw [if_pos hij] at q;exact q.elim
  ·rw [if_neg hij] at q
   obtain ⟨a,o,k1,k2,k3,k4,k5⟩:=f.ow i _ ho
   obtain ⟨b,u,m1,m2,m3,m4,m5⟩:=f.ow j _ hp
   cases k5 with
   | @lst vs _ r =>
    cases m5 with
    | @lst ws _ t =>
     refine ⟨_,k1,.inl ⟨rfl,_,.of k2⟩,_,m1,.inl ⟨rfl,_,.of m2⟩,?_⟩
     refine sE f q fun d v H1 Hs1 e1 st1 fr1 r1=>?_
     rw [e1,bind_ok] at q
     cases r1 with
     | int k =>
      simp only at q
      by_cases hk:0<=k/\k<1000/\ys.length<1000
      ·rw [if_pos hk] at q
       cases hy:xs[k.toNat]? with
       | none=>rw [hy] at q;exact q.elim
       | some z =>
        rw [hy] at q
        have t':=t.same st1.sh
        have r':=r.same st1.sh
        obtain ⟨w,w1,w2⟩:=t'.get' hy
        have hkl:k.toNat<ws.length:=(List.getElem?_eq_some_iff.mp w1).1
        have hab:a≠b:=fun z=>hij (f.dj i j _ _ a ho hp k1 (by rw [z];exact m1))
        have fw:=fr1.write j hp m1 (.lst (RDs.erase k.toNat t'))
        have hi2:(ρ.set j (.own (.list (xs.eraseIdx k.toNat))))[i]?=some (Sl.own (.list ys)):=by rw [ag (cW hij)];exact ho
        refine ⟨b,ws,k,k.toNat,w,rfl,rfl,st1.all _ _ m2,by omega,by omega,?_,w1,a,vs,w,rfl,rfl,?_,df (by rw [r.length];omega),?_⟩
        ·have e1:(if k<0 then k + ws.length else k)=k:=if_neg (by omega)
         have e2:(decide (0<=k) && decide (k<ws.length))=true:=by
          rw [decide_eq_true hk.1,decide_eq_true (by omega)]
          rfl
         unfold Ju
         simp only [e1,e2,if_true]
        ·rw [bj hab];exact st1.all _ _ k2
        ·exact q _ _ Hs1 (fw.write i hi2 k1 (.lst (r'.append (.cons w2 .nil))))
      ·rw [if_neg hk] at q;exact q.elim
     | list _ _=>exact q.elim
     | none=>exact q.elim
     | bool _=>exact q.elim
     | str _=>exact q.elim
     | tuple _ _=>exact q.elim
     | dictK _ _=>exact q.elim
     | dictT _ _ _=>exact q.elim
     | dictF _ _ _=>exact q.elim
 ·exact q.elim
end
end
end J
namespace Z
open PySem L2 J
section
def jl:ap->R Fl:=(cG (CA (ca (aa (eB 1 [1] (jX (rB 0)) kT (g2 (rB 0) (rB 1) (CC false))) aG) (gX (g9 fun bs=>bs.any id)))))
def cz:List D->R D:=eL 2 jl
def qR:ap->R Fl:=(cG (ca (aa (eB 1 [1] (jX (rB 0)) (fE (g2 (rB 0) (rB 1) (CC true))) (rS 0)) aG) (gX gS)))
def jJ:List D->R D:=eL 2 qR
def uh:ap->R Fl:=(cG (ca (aa (ko (M1 (o0 (rB 0)) (o0 (rB 1)))) aG) (gX gS)))
def ny:List D->R D:=eL 2 uh
def qS:ap->R Fl:=(aS (dX (F4 (gY (fE (vb (rB 0) "str"))) (gY (fE (q9 (kI 1) (ca (aa (rB 0) aG) (gX iI)) (kI 6) Og Og)))) (cG (kB false)) (fun ρ=>.ok (.nx ρ))) (cG (ca (aa (eB 1 [] (jX (rB 0)) kT (q9 (fun _=>.ok (.str "a")) (rB 0) (fun _=>.ok (.str "z")) Og Og)) aG) (gX (g9 fun bs=>bs.all id)))))
def nz:List D->R D:=eL 1 qS
def gL:ap->R Fl:=(aS (dX (F4 (gY (fE (vb (rB 0) "tuple"))) (gY (fE (ca (aa (eB 1 [] (jX (rB 0)) kT (dC 1 nz (aa (rS 0) aG))) aG) (gX (g9 fun bs=>bs.all id)))))) (cG (kB false)) (fun ρ=>.ok (.nx ρ))) (cG (ca (aa (eB 2 [] (Om (aa (rS 0) (aa (L5 (rB 0) (Fb (kI 1)) RP) aG))) kT (g2 (rB 0) (rB 1) F8)) aG) (gX (g9 fun bs=>bs.all id)))))
def fv:List D->R D:=eL 1 gL
def mf:ap->R Fl:=(cG (q0 (dC 1 fv (aa (rS 1) aG)) (ca (aa (eB 1 [0] (jX (rB 1)) kT (g2 (rB 0) (rB 1) (CC false))) aG) (gX (g9 fun bs=>bs.all id)))))
def fg:List D->R D:=eL 2 mf
def o7:ap->R Fl:=(aS (dX (F4 (gY (fE (vb (rB 0) "int"))) (fE (vb (rB 0) "bool"))) (cG (kB false)) (fun ρ=>.ok (.nx ρ))) (cG (q9 (rB 1) (rB 0) (rB 2) Og Og)))
def o8:List D->R D:=eL 3 o7
def mh:ap->R Fl:=(aS (dX (F4 (gY (fE (vb (rB 1) "tuple"))) (fE (g2 (ca (aa (rB 1) aG) (gX iI)) (kI 6) (lA true)))) (cG (kB false)) (fun ρ=>.ok (.nx ρ))) (aS (ua (rS 1) (iu 6 (bC (bc 2) (bC (bc 3) (bC (bc 4) (bC (bc 5) (bC (bc 6) (bC (bc 7) iU)))))))) (aS (dX (F4 (gY (fE (dC 1 nz (aa (rS 2) aG)))) (gY (fE (dC 3 o8 (aa (rS 7) (aa (kI 0) (aa (kI 9) aG))))))) (cG (kB false)) (fun ρ=>.ok (.nx ρ))) (aS (dX (gY (fE (ca (aa (eB 1 [0] (jX (fH (aa (rS 3) (aa (rS 4) (aa (rS 5) (aa (rS 6) aG)))) .tuple)) kT (dC 2 fg (aa (rS 1) (aa (rS 0) aG)))) aG) (gX (g9 fun bs=>bs.all id))))) (cG (kB false)) (fun ρ=>.ok (.nx ρ))) (cG (q0 (dC 2 cz (aa (rS 3) (aa (rS 4) aG))) (dC 2 cz (aa (rS 5) (aa (rS 6) aG)))))))))
def mi:List D->R D:=eL 8 mh
def qT:ap->R Fl:=(aS (dX (F4 (gY (fE (vb (rB 0) "tuple"))) (fE (g2 (ca (aa (rB 0) aG) (gX iI)) (kI 2) (lA true)))) (cG (kB false)) (fun ρ=>.ok (.nx ρ))) (aS (ua (rS 0) (iu 2 (bC (bc 1) (bC (bc 2) iU)))) (aS (dX (F4 (gY (fE (dC 1 fv (aa (rS 1) aG)))) (fE (g2 (ca (aa (rB 1) aG) (gX iI)) (kI 6) R7))) (cG (kB false)) (fun ρ=>.ok (.nx ρ))) (aS (dX (F4 (gY (fE (vb (rB 2) "tuple"))) (fE (g2 (ca (aa (rB 2) aG) (gX iI)) (kI 6) R7))) (cG (kB false)) (fun ρ=>.ok (.nx ρ))) (aS (dX (gY (fE (ca (aa (eB 1 [1] (jX (rB 2)) kT (dC 2 mi (aa (rS 1) (aa (rS 0) aG)))) aG) (gX (g9 fun bs=>bs.all id))))) (cG (kB false)) (fun ρ=>.ok (.nx ρ))) (cG (g2 (ue (vh 1 [] (jX (rB 2)) kT (g2 (rB 0) (kI 0) b9))) (ca (aa (rB 2) aG) (gX iI)) (lA false))))))))
def qU:List D->R D:=eL 3 qT
def qV:ap->R Fl:=(aS (dX (F4 (gY (fE (vb (rB 1) "tuple"))) (fE (g2 (ca (aa (rB 1) aG) (gX iI)) (kI 2) (lA true)))) (cG (kB false)) (fun ρ=>.ok (.nx ρ))) (aS (ua (rS 1) (iu 2 (bC (bc 2) (bC (bc 3) iU)))) (cG (q0 (dC 2 fg (aa (g2 (rB 0) (kI 0) b9) (aa (rS 2) aG))) (q0 (dC 2 fg (aa (g2 (rB 0) (kI 0) b9) (aa (rS 3) aG))) (dC 2 cz (aa (rS 2) (aa (rS 3) aG))))))))
def qW:List D->R D:=eL 4 qV
def jZ:ap->R Fl:=(dX (gY (fE (dC 2 fg (aa (g2 (rB 0) (kI 0) b9) (aa (rS 1) aG))))) (sy "NoState" (aa (fun _=>.ok (.str "a state is a rising tuple of the book's facts, none twice")) aG)) (fun ρ=>.ok (.nx ρ)))
def j_:List D->R D:=eL 2 jZ
def kW:ap->R Fl:=(dX (gY (fE (dC 2 qW (aa (rS 0) (aa (rS 1) aG))))) (sy "NoWant" (aa (fun _=>.ok (.str "a want is a tuple of two states with nothing in common")) aG)) (fun ρ=>.ok (.nx ρ)))
def kX:List D->R D:=eL 2 kW
def iN:ap->R Fl:=(aS (dX (gY (fE (vb (rB 1) "str"))) (cG kN) (fun ρ=>.ok (.nx ρ))) (aS (nq (jX (g2 (rB 0) (kI 1) b9)) (bc 2) (dX (fE (g2 (g2 (rB 2) (kI 0) b9) (rB 1) (lA false))) (cG (rS 2)) (fun ρ=>.ok (.nx ρ)))) (cG kN)))
def eO:List D->R D:=eL 3 iN
def qX:ap->R Fl:=(aS (ua (rS 1) (iu 2 (bC (bc 2) (bC (bc 3) iU)))) (cG (q0 (ca (aa (eB 1 [0] (jX (rB 2)) kT (g2 (rB 0) (rB 1) (CC false))) aG) (gX (g9 fun bs=>bs.all id))) (dC 2 cz (aa (rS 3) (aa (rS 0) aG))))))
def qY:List D->R D:=eL 4 qX
def mj:ap->R Fl:=(cG (dC 2 qY (aa (rS 1) (aa (fH (aa (g2 (rB 0) (kI 1) b9) (aa (g2 (rB 0) (kI 2) b9) aG)) .tuple) aG))))
def h_:List D->R D:=eL 2 mj
def jm:ap->R Fl:=(aS (M2 2 3 (aa (g2 (rB 0) (kI 3) b9) (aa (g2 (rB 0) (kI 4) b9) aG))) (cG (dC 2 ny (aa (dC 2 jJ (aa (rS 1) (aa (rS 3) aG))) (aa (rS 2) aG)))))
def fz:List D->R D:=eL 4 jm
def qZ:ap->R Fl:=(aS (dX (gY (fE (dC 1 qU (aa (rS 0) aG)))) (sy "NoBook" (aa (fun _=>.ok (.str "a book is a tuple of facts and errands, each as the document tells")) aG)) (fun ρ=>.ok (.nx ρ))) (cG (rS 0)))
def j0:List D->R D:=eL 1 qZ
def k7:ap->R Fl:=(aS (qe (dC 1 j0 (aa (rS 0) aG))) (qe (dC 2 j_ (aa (rS 0) (aa (rS 1) aG)))))
def k8:List D->R D:=eL 2 k7
def ui:ap->R Fl:=(aS (dX (F4 (gY (fE (vb (rB 1) "list"))) (fE (g2 (ca (aa (rB 1) aG) (gX iI)) (kI 64) R7))) (cG (kB false)) (fun ρ=>.ok (.nx ρ))) (cG (ca (aa (eB 1 [0] (jX (rB 1)) kT (g2 (dC 2 eO (aa (rS 1) (aa (rS 0) aG))) kN (B4 true))) aG) (gX (g9 fun bs=>bs.all id)))))
def uj:List D->R D:=eL 2 ui
def kY:ap->R Fl:=(aS (dX (gY (fE (dC 2 uj (aa (rS 0) (aa (rS 1) aG))))) (fun _=>.no) (fun ρ=>.ok (.nx ρ))) (cG (eB 1 [0] (jX (rB 1)) kT (dC 2 eO (aa (rS 1) (aa (rS 0) aG))))))
def fU:List D->R D:=eL 2 kY
def ib:ap->R Fl:=(aS (gO 2 (fH (aa (rS 1) aG) .list)) (aS (vQ 0 (bc 3) (aS (dX (gY (fE (dC 2 h_ (aa (rS 3) (aa (g2 (rB 2) (vg (kI 1)) b9) aG))))) (cG (rS 2)) (fun ρ=>.ok (.nx ρ))) (qg 2 (dC 2 fz (aa (rS 3) (aa (g2 (rB 2) (vg (kI 1)) b9) aG)))))) (cG (rS 2))))
def ic:List D->R D:=eL 4 ib
def o9:ap->R Fl:=(aS (ua (L5 (rB 0) (Fb (kI 1)) (Fb (kI 5))) (iu 4 (bC (bc 2) (bC (bc 3) (bC (bc 4) (bC (bc 5) iU)))))) (aS (ua (rS 1) (iu 2 (bC (bc 6) (bC (bc 7) iU)))) (aS (dX (F4 (gY (fE (dC 2 cz (aa (rS 4) (aa (rS 7) aG))))) (gY (fE (dC 2 cz (aa (rS 5) (aa (rS 6) aG)))))) (cG kN) (fun ρ=>.ok (.nx ρ))) (aS (fJ 8 (dC 2 ny (aa (rS 2) (aa (dC 2 jJ (aa (rS 6) (aa (rS 4) aG))) aG)))) (aS (fJ 9 (dC 2 ny (aa (rS 3) (aa (dC 2 jJ (aa (rS 7) (aa (rS 5) aG))) aG)))) (aS (dX (gY (fE (dC 2 cz (aa (rS 8) (aa (rS 9) aG))))) (cG kN) (fun ρ=>.ok (.nx ρ))) (cG (fH (aa (rS 8) (aa (rS 9) aG)) .tuple))))))))
def jK:List D->R D:=eL 10 o9
def wR:ap->R Fl:=(aS (qe (dC 2 k8 (aa (rS 0) (aa (rS 1) aG)))) (aS (fJ 3 (dC 2 fU (aa (rS 0) (aa (rS 2) aG)))) (aS (fJ 4 (dC 2 ic (aa (rS 3) (aa (rS 1) aG)))) (aS (dX (fE (g2 (ca (aa (rB 4) aG) (gX iI)) (ca (aa (rB 3) aG) (gX iI)) Og)) (fun _=>.no) (fun ρ=>.ok (.nx ρ))) (cG (rS 4))))))
def uk:List D->R D:=eL 5 wR
def wS:ap->R Fl:=(aS (qe (dC 1 j0 (aa (rS 0) aG))) (aS (qe (dC 2 kX (aa (rS 0) (aa (rS 1) aG)))) (aS (fJ 3 (rS 1)) (aS (nq (GX (aa (dC 2 fU (aa (rS 0) (aa (rS 2) aG))) aG)) (bc 4) (aS (fJ 3 (dC 2 jK (aa (rS 4) (aa (rS 3) aG)))) (dX (fE (g2 (rB 3) kN (B4 false))) (cG kN) (fun ρ=>.ok (.nx ρ))))) (cG (rS 3))))))
def ul:List D->R D:=eL 5 wS
def ml:ap->R Fl:=(aS (ua (L5 (rB 0) (Fb (kI 3)) (Fb (kI 5))) (iu 2 (bC (bc 2) (bC (bc 3) iU)))) (aS (ua (L5 (rB 1) (Fb (kI 1)) (Fb (kI 3))) (iu 2 (bC (bc 4) (bC (bc 5) iU)))) (cG (q0 (dC 2 cz (aa (g2 (rB 2) (rB 3) dk) (aa (g2 (rB 4) (rB 5) dk) aG))) (dC 2 cz (aa (rS 2) (aa (g2 (rB 1) (kI 4) b9) aG)))))))
def kq:List D->R D:=eL 6 ml
def mn:ap->R Fl:=(cG (q0 (dC 2 kq (aa (rS 0) (aa (rS 1) aG))) (dC 2 kq (aa (rS 1) (aa (rS 0) aG)))))
def j3:List D->R D:=eL 2 mn
def um:ap->R Fl:=(aS (qe (dC 1 j0 (aa (rS 0) aG))) (aS (fJ 3 (dC 2 eO (aa (rS 0) (aa (rS 1) aG)))) (aS (fJ 4 (dC 2 eO (aa (rS 0) (aa (rS 2) aG)))) (aS (dX (F4 (fE (g2 (rB 3) kN (B4 false))) (fE (g2 (rB 4) kN (B4 false)))) (sy "NoErrand" (aa (fun _=>.ok (.str "it is no name of an errand")) aG)) (fun ρ=>.ok (.nx ρ))) (cG (dC 2 j3 (aa (rS 3) (aa (rS 4) aG))))))))
def nA:List D->R D:=eL 5 um
def ig:ap->R Fl:=(aS (fJ 2 (kI 0)) (aS (nq (D6 (aa (rS 0) aG)) (iu 2 (bC (bc 3) (bC (bc 4) iU))) (dX (gY (fE (ca (aa (eB 1 [1] (jX (rB 4)) kT (dC 2 j3 (aa (rS 1) (aa (rS 0) aG)))) aG) (gX (g9 fun bs=>bs.all id))))) (fJ 2 (g2 (rB 3) (kI 1) dk)) (fun ρ=>.ok (.nx ρ)))) (cG (rS 2))))
def eu:List D->R D:=eL 5 ig
def uo:ap->R Fl:=(aS (qe (dC 1 j0 (aa (rS 0) aG))) (aS (M9 2) (aS (nq (jX (dC 2 fU (aa (rS 0) (aa (rS 1) aG)))) (bc 3) (aS (fJ 4 (Fo rP 2 eu (aa (Nb 2) (aa (rS 3) aG)))) (aS (dX (fE (g2 (rB 4) (sB rP (aa (Nb 2) aG) (gX iI)) (lA false))) (xS 2) (fun ρ=>.ok (.nx ρ))) (jA 2 (rS 4) (rS 3))))) (cG (eB 1 [] (jX (rB 2)) kT (eB 1 [] (jX (rB 0)) kT (g2 (rB 0) (kI 0) b9)))))))
def uq:List D->R D:=eL 5 uo
def k9:ap->R Fl:=(aS (dX (fE (g2 (rB 1) (ca (aa (rB 0) aG) (gX iI)) F8)) (cG (g2 (rB 0) (rB 1) b9)) (fun ρ=>.ok (.nx ρ))) (aS (dX (fE (g2 (rB 0) (fH aG .list) (lA false))) (cG (kI 0)) (fun ρ=>.ok (.nx ρ))) (cG (g2 (g2 (g2 (rB 0) (g2 (rB 1) (ca (aa (rB 0) aG) (gX iI)) Iw) b9) (kI 31) wv) (rB 1) dk))))
def ka:List D->R D:=eL 2 k9
def mo:ap->R Fl:=(aS (fJ 3 (g2 (g2 (g2 (g2 (dC 2 ka (aa (rS 0) (aa (rS 1) aG))) (g2 (kI 7919) (rB 1) wv) dk) (kI 1) dk) (kI 48271) wv) (kI 2147483647) Iw)) (cG (g2 (g2 (g2 (g2 (g2 (rB 3) (rB 3) wv) (g2 (kI 7) (rB 3) wv) dk) (rB 1) dk) (kI 2147483629) Iw) (rB 2) Iw)))
def ba:List D->R D:=eL 4 mo
def oa:ap->R Fl:=(aS (fJ 2 (fun _=>.ok (.str ""))) (aS (nq (ub (aa (g2 (fH (aa (kI 1) (aa (kI 2) (aa (kI 3) (aa (kI 6) (aa (kI 1) (aa (kI 4) aG)))))) .list) (dC 3 ba (aa (rS 0) (aa (rS 1) (aa (kI 6) aG)))) b9) aG)) (bc 3) (fJ 2 (g2 (rB 2) (g2 (fun _=>.ok (.str "abcdefghijklmnopqrstuvwxyz")) (dC 3 ba (aa (rS 0) (aa (g2 (g2 (rB 1) (kI 1) dk) (rB 3) dk) (aa (kI 26) aG)))) b9) dk))) (cG (rS 2))))
def jL:List D->R D:=eL 4 oa
def mq:ap->R Fl:=(aS (gO 3 (fun _=>.ok (.dict []))) (aS (nq (ub (aa (dC 3 ba (aa (rS 0) (aa (rS 1) (aa (g2 (rB 2) (kI 1) dk) aG)))) aG)) (bc 4) (Bc 3 (dC 2 jL (aa (rS 0) (aa (g2 (g2 (rB 1) (kI 1) dk) (g2 (kI 8) (rB 4) wv) dk) aG))) (kB true))) (cG (ca (aa (ca (aa (ca (aa (rB 3) aG) (gX jY)) aG) (gX qP)) aG) (gX gS)))))
def mr:List D->R D:=eL 5 mq
def oh:ap->R Fl:=(cG (ca (aa (eB 2 [0,1,3] (Fd (aa (rS 2) aG)) (fE (g2 (dC 3 ba (aa (rS 2) (aa (g2 (rB 3) (rB 0) dk) (aa (kI 12) aG)))) (rB 4) F8)) (rS 1)) aG) (gX gS)))
def oj:List D->R D:=eL 4 oh
def om:ap->R Fl:=(aS (fJ 4 (g2 (rB 2) (dC 3 ba (aa (rS 0) (aa (g2 (rB 1) (kI 10) dk) (aa (ca (aa (rB 2) aG) (gX iI)) aG)))) b9)) (aS (fJ 5 (g2 (rB 2) (dC 3 ba (aa (rS 0) (aa (g2 (rB 1) (kI 11) dk) (aa (ca (aa (rB 2) aG) (gX iI)) aG)))) b9)) (aS (fJ 6 (g2 (rB 2) (dC 3 ba (aa (rS 0) (aa (g2 (rB 1) (kI 12) dk) (aa (ca (aa (rB 2) aG) (gX iI)) aG)))) b9)) (aS (fJ 7 (L5 (fH (aa (rS 4) (aa (rS 5) aG)) .list) RP (Fb (g2 (kI 1) (g2 (dC 3 ba (aa (rS 0) (aa (g2 (rB 1) (kI 13) dk) (aa (kI 3) aG)))) (kI 2) KY) dk)))) (aS (gO 8 (eB 1 [7,0,1] (jX (fH (aa (rS 6) aG) .list)) (F3 (fE (g2 (rB 0) (rB 1) (CC true))) (fE (g2 (dC 3 ba (aa (rS 2) (aa (g2 (rB 3) (kI 14) dk) (aa (kI 4) aG)))) (kI 0) (lA false)))) (rS 0))) (aS (gO 9 (eB 1 [6,0,1] (jX (fH (aa (rS 4) aG) .list)) (F3 (fE (g2 (rB 0) (rB 1) (lA true))) (fE (g2 (dC 3 ba (aa (rS 2) (aa (g2 (rB 3) (kI 15) dk) (aa (kI 3) aG)))) (kI 0) (lA false)))) (rS 0))) (aS (RT 8 (RT 9 (gO 10 (eB 1 [] (jX (fH (aa (rS 7) (aa (rS 8) (aa (fH (aa (rS 6) aG) .list) (aa (rS 9) aG)))) .tuple)) kT (ca (aa (ko (o0 (rB 0))) aG) (gX gS)))))) (cG (fH (aa (rS 3) (aa (g2 (rB 10) (kI 0) b9) (aa (g2 (rB 10) (kI 1) b9) (aa (g2 (rB 10) (kI 2) b9) (aa (g2 (rB 10) (kI 3) b9) (aa (dC 3 ba (aa (rS 0) (aa (rS 1) (aa (kI 5) aG)))) aG)))))) .tuple)))))))))
def oo:List D->R D:=eL 11 om
def ii:ap->R Fl:=(aS (dX (F3 (fE (g2 (rB 2) (fH aG .tuple) (lA true))) (fE (g2 (dC 3 ba (aa (rS 0) (aa (kI 97) (aa (kI 2) aG)))) (kI 0) (lA false)))) (cG (dC 4 oo (aa (rS 0) (aa (rS 1) (aa (rS 2) (aa (rS 3) aG)))))) (fun ρ=>.ok (.nx ρ))) (aS (Oq 4) (aS (nq (Fd (aa (rS 2) aG)) (iu 2 (bC (bc 5) (bC (bc 6) iU))) (aS (fJ 7 (dC 3 ba (aa (rS 0) (aa (g2 (g2 (rB 1) (kI 10) dk) (rB 5) dk) (aa (kI 8) aG))))) (aS (dX (fE (g2 (rB 7) (kI 3) F8)) (jA 4 (g2 (fH (aa (kI 0) (aa (kI 0) (aa (kI 1) aG))) .list) (rB 7) b9) (rS 6)) (fun ρ=>.ok (.nx ρ))) (aS (fJ 7 (dC 3 ba (aa (rS 0) (aa (g2 (g2 (rB 1) (kI 20) dk) (rB 5) dk) (aa (kI 8) aG))))) (dX (fE (g2 (rB 7) (kI 4) F8)) (jA 4 (g2 (fH (aa (kI 2) (aa (kI 2) (aa (kI 3) (aa (kI 3) aG)))) .list) (rB 7) b9) (rS 6)) (fun ρ=>.ok (.nx ρ))))))) (aS (fun ρ=>(gO 8 (eB 1 [] (jX (rB 4)) kT (ca (aa (rB 0) aG) (gX gS)))) (ft ρ)) (cG (fH (aa (rS 3) (aa (g2 (rB 8) (kI 0) b9) (aa (g2 (rB 8) (kI 1) b9) (aa (g2 (rB 8) (kI 2) b9) (aa (g2 (rB 8) (kI 3) b9) (aa (dC 3 ba (aa (rS 0) (aa (rS 1) (aa (kI 5) aG)))) aG)))))) .tuple))))))
def ij:List D->R D:=eL 9 ii
def lE:ap->R Fl:=(aS (fJ 4 (dC 3 mr (aa (rS 0) (aa (rS 1) (aa (rS 2) aG))))) (aS (gO 5 (fun _=>.ok (.dict []))) (aS (nq (ub (aa (dC 3 ba (aa (rS 0) (aa (g2 (rB 1) (kI 60) dk) (aa (g2 (rB 3) (kI 1) dk) aG)))) aG)) (bc 6) (aS (fJ 7 (dC 2 jL (aa (rS 0) (aa (g2 (g2 (rB 1) (kI 70) dk) (g2 (kI 40) (rB 6) wv) dk) aG)))) (Bc 5 (rS 7) (dC 4 ij (aa (rS 0) (aa (g2 (g2 (rB 1) (kI 80) dk) (g2 (kI 40) (rB 6) wv) dk) (aa (rS 4) (aa (rS 7) aG)))))))) (aS (fJ 8 (ca (aa (rB 5) aG) (gX jY))) (aS (fJ 9 (dC 3 ba (aa (rS 0) (aa (g2 (rB 1) (kI 61) dk) (aa (g2 (ca (aa (rB 8) aG) (gX iI)) (kI 1) dk) aG))))) (cG (fH (aa (rS 4) (aa (ca (aa (eB 1 [5] (jX (g2 (L5 (rB 8) (Fb (rS 9)) RP) (L5 (rB 8) RP (Fb (rS 9))) dk)) kT (g2 (rB 1) (rB 0) b9)) aG) (gX gS)) aG)) .tuple)))))))
def lF:List D->R D:=eL 10 lE
def lG:ap->R Fl:=(aS (gO 3 (fH aG .list)) (aS (gO 4 (fH aG .list)) (aS (nq (Fd (aa (rS 2) aG)) (iu 2 (bC (bc 5) (bC (bc 6) iU))) (aS (fJ 7 (dC 3 ba (aa (rS 0) (aa (g2 (rB 1) (rB 5) dk) (aa (kI 8) aG))))) (dX (fE (g2 (rB 7) (kI 2) F8)) (qg 3 (rS 6)) (dX (fE (g2 (rB 7) (kI 2) (lA false))) (qg 4 (rS 6)) (fun ρ=>.ok (.nx ρ)))))) (cG (fH (aa (ca (aa (rB 3) aG) (gX gS)) (aa (ca (aa (rB 4) aG) (gX gS)) aG)) .tuple)))))
def sC:List D->R D:=eL 8 lG
def oq:ap->R Fl:=(aS (fJ 3 (dC 4 lF (aa (rS 0) (aa (kI 100) (aa (rS 1) (aa (rS 2) aG)))))) (aS (fJ 4 (dC 4 oj (aa (rS 0) (aa (kI 20) (aa (g2 (rB 3) (kI 0) b9) (aa (g2 (fH (aa (kI 2) (aa (kI 4) aG)) .list) (dC 3 ba (aa (rS 0) (aa (kI 97) (aa (kI 2) aG)))) b9) aG)))))) (cG (fH (aa (rS 3) (aa (rS 4) (aa (dC 3 sC (aa (rS 0) (aa (kI 30) (aa (g2 (rB 3) (kI 0) b9) aG)))) aG))) .tuple))))
def ou:List D->R D:=eL 5 oq
def oy:ap->R Fl:=(cG (q0 (ca (aa (eB 1 [0] (jX (g2 (rB 1) (kI 0) b9)) kT (g2 (rB 0) (rB 1) (CC false))) aG) (gX (g9 fun bs=>bs.all id))) (CA (ca (aa (eB 1 [0] (jX (g2 (rB 1) (kI 1) b9)) kT (g2 (rB 0) (rB 1) (CC false))) aG) (gX (g9 fun bs=>bs.any id))))))
def oz:List D->R D:=eL 2 oy
def oA:ap->R Fl:=(aS (dX (gY (fE (dC 2 oz (aa (rS 1) (aa (L5 (rB 0) (Fb (kI 1)) (Fb (kI 3))) aG))))) (cG kN) (fun ρ=>.ok (.nx ρ))) (aS (gO 2 (eB 1 [0] (jX (rB 1)) (fE (g2 (rB 0) (g2 (rB 1) (kI 4) b9) (CC true))) (rS 0))) (cG (ca (aa (ko (o0 (g2 (rB 2) (ca (aa (g2 (rB 0) (kI 3) b9) aG) (gX jY)) dk))) aG) (gX gS)))))
def i0:List D->R D:=eL 3 oA
def oB:ap->R Fl:=(aS (gO 5 (fH aG .list)) (aS (nq (ub (aa (rB 4) aG)) (bc 6) (aS (gO 7 (eB 1 [3] (jX (g2 (rB 2) (kI 1) b9)) (fE (g2 (dC 2 i0 (aa (rS 0) (aa (rS 1) aG))) kN (B4 true))) (rS 0))) (aS (dX (fE (g2 (rB 7) (fH aG .list) (lA false))) (cG (rS 5)) (fun ρ=>.ok (.nx ρ))) (aS (fJ 8 (g2 (rB 7) (dC 3 ba (aa (rS 0) (aa (g2 (rB 1) (rB 6) dk) (aa (ca (aa (rB 7) aG) (gX iI)) aG)))) b9)) (aS (qg 5 (g2 (rB 8) (kI 0) b9)) (fJ 3 (dC 2 i0 (aa (rS 8) (aa (rS 3) aG))))))))) (cG (rS 5))))
def oC:List D->R D:=eL 9 oB
def kc:ap->R Fl:=(aS (gO 2 (fH aG .list)) (aS (nq (D6 (aa (rS 1) aG)) (iu 2 (bC (bc 3) (bC (bc 4) iU))) (qg 2 (g2 (kI 1) (ca (aa (g2 (fH (aa (kI 0) aG) .list) (eB 1 [0,1,4,2] (ub (aa (rB 3) aG)) (gY (fE (dC 3 nA (aa (rS 1) (aa (g2 (rB 2) (rB 0) b9) (aa (rS 3) aG)))))) (g2 (rB 4) (rB 0) b9)) dk) aG) (gX Dd)) dk))) (cG (ca (aa (g2 (fH (aa (kI 0) aG) .list) (rB 2) dk) aG) (gX Dd)))))
def kd:List D->R D:=eL 5 kc
def H9:ap->R Fl:=(aS (ua (dC 3 ou (aa (rS 0) (aa (kI 6) (aa (kI 6) aG)))) (iu 3 (bC (bc 1) (bC (bc 2) (bC (bc 3) iU))))) (aS (fJ 4 (dC 5 oC (aa (rS 0) (aa (kI 300) (aa (rS 1) (aa (rS 2) (aa (dC 3 ba (aa (rS 0) (aa (kI 0) (aa (kI 11) aG)))) aG))))))) (aS (fJ 5 (dC 2 uq (aa (rS 1) (aa (rS 4) aG)))) (aS (dX (fE (g2 (ca (aa (rB 5) aG) (gX iI)) (dC 2 kd (aa (rS 1) (aa (rS 4) aG))) (lA true))) (cG (kB false)) (fun ρ=>.ok (.nx ρ))) (aS (gO 6 (fH aG .list)) (aS (vQ 5 (bc 7) (aS (gO 8 (xT (rB 7))) (mS (fE (g2 (rB 8) (fH aG .list) (lA true))) (o6 6 8 (dC 3 ba (aa (rS 0) (aa (g2 (kI 400) (ca (aa (rB 6) aG) (gX iI)) dk) (aa (ca (aa (rB 8) aG) (gX iI)) aG))))) 100000))) (aS (RT 6 (dX (fE (g2 (g2 (dC 3 uk (aa (rS 1) (aa (rS 2) (aa (rS 6) aG)))) (vg (kI 1)) b9) (g2 (dC 3 uk (aa (rS 1) (aa (rS 2) (aa (rS 4) aG)))) (vg (kI 1)) b9) (lA true))) (cG (kB false)) (fun ρ=>.ok (.nx ρ)))) (cG (g2 (dC 3 ul (aa (rS 1) (aa (rS 3) (aa (rS 6) aG)))) (dC 3 ul (aa (rS 1) (aa (rS 3) (aa (rS 4) aG)))) (lA false))))))))))
def F_law:List D->R D:=eL 9 H9
end
end Z
section
set_option hygiene false
namespace Z
open PySem L2 J
local macro_rules | `(tactic| walk_at "zz") => `(tactic| simp only [Tn, Rs, To, Tp, Tq, vR, qi, CU, T3, Ll, Lm, PH, T4, GE, CV, GF, CW, CY, CZ, Ln, Lo, Lp, GG, Lq, GH, T6, PK, PL, Lr, PM, Ls, PN, T9, Lu, PP, Lv, GI, Lw, GJ, GK, Lx, Ly, Lz, LC, C_, D1, PU, LD, GL, LF, Td, PX, PY, LG, PZ, LH, LI, LJ, P_, Q0, LK, Th, LL, LM, Q1, Q2, LN, Rj, LO, Q3, Q4, LP, GM, GN, Q7, zV, zW, zX, LQ, Tj, LS, LU, LV, LW, LX, LY, zZ, z_, Bf, dk, wv, Iw, KY, F6, F8, Og, R7, Ix, iI, aO, dQ, aW, c7, av, N6, dZ, HN, HP, m8, m9, Nat.reduceSub, Nat.reduceAdd, NA, NB, EG, if_true, if_false, ite_true, ite_false, bM, decide_true, decide_false, cond_true, cond_false, nO, jx, ao, cn, EH, Int.reduceLE, Int.reduceAdd, Int.reduceMul, Nat.reduceLT, Int.reduceNeg, reduceIte])
local macro_rules | `(tactic| walk_at "yy") => `(tactic| simp only [Tn, Rs, To, Tp, Tq, vR, qi, CU, PH, T4, GE, CV, GF, CW, CY, CZ, Ln, Lo, Lp, GG, Lq, GH, T6, PK, PL, Lr, PM, Ls, PN, T9, Lu, PP, Lv, GI, Lw, GJ, GK, Lx, Ly, Lz, LC, C_, D1, PU, LD, GL, LF, Td, PX, PY, LG, PZ, LH, LI, LJ, P_, Q0, LK, Th, LL, LM, Q1, Q2, LN, Rj, LO, Q3, Q4, LP, GM, GN, Q7, zV, zW, zX, LQ, Tj, LS, LU, LV, LW, LX, LY, zZ, z_, Bf, dk, iI, aO, dQ, aW, c7, av, N6, dZ, HN, HP, m8, m9, Nat.reduceSub, Nat.reduceAdd, NA, NB, EG, if_true, if_false, ite_true, ite_false, bM, decide_true, decide_false, cond_true, cond_false, nO, jx, ao, cn, EH, Int.reduceLE, Int.reduceAdd, Int.reduceMul, Nat.reduceLT, Int.reduceNeg, reduceIte])
theorem cq {n:Nat}{g:ap->R Fl}{ds:List D}{d:D} (h:g (bF n ds)=.ok (.rt d)):eL n g ds=.ok d:=by unfold eL;rw [h]
def Ha (ns:List Int) (k:Int):Int:=if k<ns.length then ns.getD k.toNat 0 else if ns=[] then 0 else ns.getD (k % ns.length).toNat 0 * 31 + k
theorem Mb (ns:List Int):bJ (ns.map .int)=true:=by
 induction ns with
 | nil=>rfl
 | cons x r ih=>simp [bJ,dO,ih]
theorem OG (ns:List Int):bn (.list (ns.map .int)) (.list [])=decide (ns=[]):=by
 cases ns with
 | nil=>rfl
 | cons x r=>simp [bn,iL]
theorem Rz (ns:List Int):lA false (.list (ns.map .int)) (.list [])=.ok (.bool (decide (ns=[]))):=by
 unfold lA
 have h1:(dW (ns.map .int)).canLay0=true:=by simp only [dO];exact Mb ns
 have h2:(dW []).canLay0=true:=rfl
 have h3:min (dW (ns.map .int)).depth (dW []).depth<=60:=bU (p7 _ _) (by decide)
 rw [h1,h2,decide_eq_true h3,OG]
 rfl
theorem RA (ns:List Int) (k:Int) (h0:0<=k) (h1:k<ns.length):Ca (ns.map bT) k=some (.int (ns.getD k.toNat 0)):=by
 have hk:k.toNat<ns.length:=by omega
 have:=tW (xs:=ns.map bT) (j:=k.toNat) (v:=.int (ns.getD k.toNat 0)) (by rw [aX,aL hk];simp [hk])
 rwa [dY h0] at this
theorem Mc (ns:List Int) (k:Int) (h0:0<=k) (h1:k<ns.length):b9 (.list (ns.map .int)) (.int k)=.ok (.int (ns.getD k.toNat 0)):=by
 have e:∀ xs k,b9 (.list xs) k=CH (.list xs) k:=fun _ _=>rfl
 rw [e]
 unfold CH
 simp only [RA ns k h0 h1]
theorem Hb {i j:Int} (h1:-(2 ^ 64)<j) (h2:j<2 ^ 64):zS i j=true:=by
 unfold zS
 simp only [ja,aN,decide_eq_true_eq]
 exact .inr ⟨h1,h2⟩
theorem q_ {i j:Int} (h1:-(2 ^ 64)<i) (h2:i<2 ^ 64):zS i j=true:=by
 unfold zS
 simp only [ja,aN,decide_eq_true_eq]
 exact .inl ⟨h1,h2⟩
theorem OH (ns:List Int) (k:Int) (hk:0<=k):ka [.list (ns.map .int),.int k]=.ok (.int (Ha ns k)):=by
 unfold ka
 refine cq ?_
 unfold k9 bF Ha
 walk_at "zz"
 by_cases h:k<ns.length
 ·simp only [h,decide_true,cond_true,if_true,Mc ns k hk h,bind_ok]
  walk_at "zz"
 ·simp only [h,decide_false,cond_false,if_false]
  walk_at "zz"
  rw [Rz]
  walk_at "zz"
  by_cases h2:ns=[]
  ·simp only [h2,decide_true,cond_true,if_true]
   walk_at "zz"
  ·have hl:(0:Int)<ns.length:=by have:0<ns.length:=List.length_pos_iff.mpr h2;omega
   simp only [h2,decide_false,cond_false,if_false,hl,decide_true]
   walk_at "zz"
   simp only [h2,decide_false,cond_false,if_false,hl,decide_true,if_true]
   walk_at "zz"
   rw [Mc ns _ (qG _ (by omega)) (mI _ hl)]
   walk_at "zz"
   rw [Hb (by decide) (by decide)]
   walk_at "zz"
def xU (ns:List Int) (k:Int):Int:=(Ha ns k + 7919 * k + 1) * 48271 % 2147483647
def eQ (ns:List Int) (k m:Int):Int:=(xU ns k * xU ns k + 7 * xU ns k + k) % 2147483629 % m
theorem eN (ns:List Int) (k m:Int) (h:0<m):0<=eQ ns k m:=qG _ (by omega)
theorem fF (ns:List Int) (k m:Int) (h:0<m):eQ ns k m<m:=mI _ h
theorem eP (ns:List Int) (k m:Int) (hk:0<=k) (hm:0<m):ba [.list (ns.map .int),.int k,.int m]=.ok (.int (eQ ns k m)):=by
 have d0:0<=xU ns k:=qG _ (by decide)
 have d1:xU ns k<2147483647:=mI _ (by decide)
 unfold ba
 refine cq ?_
 unfold mo bF
 walk_at "zz"
 rw [OH ns k hk]
 walk_at "zz"
 rw [q_ (by decide) (by decide)]
 walk_at "zz"
 rw [Hb (by decide) (by decide)]
 walk_at "zz"
 rw [show (Ha ns k + 7919 * k + 1) * 48271 % 2147483647=xU ns k from rfl,q_ (i:=xU ns k) (by omega) (by omega)]
 walk_at "zz"
 rw [q_ (i:=7) (by decide) (by decide)]
 walk_at "zz"
 rw [decide_eq_true hm]
 walk_at "zz"
 rfl
theorem ql {α β:Type}{kt:D->ap->R ap}{gb:ap->R Fl} (c:α->D) (f:β->α->β) (P:List α->β->ap->Prop) (h:∀ x bY b ρ,P (x::bY) b ρ->∃ ρ1 ρ',kt (c x) ρ=.ok ρ1/\gb ρ1=.ok (.nx ρ')/\P bY (f b x) ρ') :
  ∀ (xs:List α) (b:β) (ρ:ap),P xs b ρ->∃ ρ',gx kt gb (xs.map c) ρ=.ok (.nx ρ')/\P [] (xs.foldl f b) ρ'
 | [],b,ρ,p=>⟨ρ,rfl,p⟩
 | x::r,b,ρ,p=>by
  obtain ⟨ρ1,ρ2,h1,h2,h3⟩:=h x r b ρ p
  obtain ⟨ρ3,h4,h5⟩:=ql c f P h r (f b x) ρ2 h3
  refine ⟨ρ3,?_,h5⟩
  rw [aO]
  unfold gx
  rw [h1]
  simp only [h2]
  exact h4
theorem Hc {α β:Type}{kt:D->ap->R ap}{gb hh:ap->R Fl}{r:R Fl} (c:α->D) (f:β->α->β) (P:List α->β->ap->Prop) {xs:List α} (b:β) {ρ:ap}
  (h:∀ x bY b ρ,P (x::bY) b ρ->∃ ρ1 ρ',kt (c x) ρ=.ok ρ1/\gb ρ1=.ok (.nx ρ')/\P bY (f b x) ρ') (p0:P xs b ρ) (k:∀ ρ',P [] (xs.foldl f b) ρ'->hh ρ'=r):(gx kt gb (xs.map c) ρ).bind (Lk hh)=r:=by
 obtain ⟨ρ',e,p⟩:=ql c f P h xs b ρ p0
 rw [e,bind_ok,qi]
 exact k ρ' p
theorem ur (n:Nat) (h:n<=1000):Fc [.int (n:Int)]=.ok ((bi n).map fun (i:Nat)=>bT (i:Int)):=by
 have e:Fc [.int (n:Int)]=.ok (qf 0 (n:Int).toNat):=Ou (by omega) (by omega)
 rw [e]
 unfold qf
 rw [eR]
 exact congrArg R.ok (tE fun a _=>congrArg bT (Int.zero_add _))
def xV (x:Str):Bool:=decide (1<=x.cps.size) && decide (x.cps.size<=6/\x.cps.size≠5) && x.cps.toList.all fun c=>decide (97<=c) && decide (c<=122)
def rQ (ns:List Int) (k:Int):Nat:=[1,2,3,6,1,4].getD (eQ ns k 6).toNat 0
def Bo (ns:List Int) (k:Int) (i:Nat):Nat:=97 + (eQ ns (k + 1 + i) 26).toNat
def kr (ns:List Int) (k:Int):Str:=⟨((bi (rQ ns k)).map (Bo ns k)).toArray⟩
theorem Hd (ns:List Int) (k:Int):1<=rQ ns k/\(rQ ns k<=6/\rQ ns k≠5):=by
 have h0:=eN ns k 6 (by decide)
 have h1:=fF ns k 6 (by decide)
 unfold rQ
 have:∀ j:_root_.Fin 6,1<=[1,2,3,6,1,4].getD j.val 0/\([1,2,3,6,1,4].getD j.val 0<=6/\[1,2,3,6,1,4].getD j.val 0≠5):=by decide
 exact this ⟨(eQ ns k 6).toNat,by omega⟩
theorem OI (ns:List Int) (k:Int) (i:Nat):97<=Bo ns k i/\Bo ns k i<=122:=by
 have h0:=eN ns (k + 1 + i) 26 (by decide)
 have h1:=fF ns (k + 1 + i) 26 (by decide)
 unfold Bo
 omega
theorem Dg (ns:List Int) (k:Int):xV (kr ns k)=true:=by
 have ⟨h1,h2⟩:=Hd ns k
 unfold xV kr
 simp only [aM,av,dS,aN,decide_eq_true_eq,cB]
 refine ⟨⟨h1,h2⟩,fun c hc=>?_⟩
 obtain ⟨i,_,rfl⟩:=List.mem_map.mp hc
 exact OI ns k i
theorem Md (j:Int) (h0:0<=j) (h1:j<26):b9 (.str "abcdefghijklmnopqrstuvwxyz") (.int j)=.ok (.str ⟨#[97 + j.toNat]⟩):=by
 have e:∀ x k,b9 (.str x) k=CH (.str x) k:=fun _ _=>rfl
 rw [e]
 unfold CH
 have hc:("abcdefghijklmnopqrstuvwxyz" : Str).cps.toList=(bi 26).map (97 + ·):=by decide +kernel
 have hl:("abcdefghijklmnopqrstuvwxyz" : Str).length<=1000:=by decide +kernel
 have hj:j.toNat<26:=by omega
 have hx:=tW (xs:=(bi 26).map (97 + ·)) (j:=j.toNat) (v:=97 + j.toNat) (by rw [aX,tw hj];rfl)
 rw [dY h0] at hx
 simp only [hl,if_true,hc,hx]
theorem OJ (j:Int) (h0:0<=j) (h1:j<6):b9 (.list [.int 1,.int 2,.int 3,.int 6,.int 1,.int 4]) (.int j)=.ok (.int (([1,2,3,6,1,4].getD j.toNat 0:Nat):Int)):=by
 obtain ⟨n,rfl⟩:=pc h0
 have hn:n<6:=by omega
 match n,hn with
 | 0,_=>rfl
 | 1,_=>rfl
 | 2,_=>rfl
 | 3,_=>rfl
 | 4,_=>rfl
 | 5,_=>rfl
theorem Bp (l:List Nat):∀ (acc:Str),l.foldl (fun (a:Str) c=>a++⟨#[c]⟩) acc=⟨(acc.cps.toList++l).toArray⟩:=by
 induction l with
 | nil=>intro acc;simp
 | cons c r ih =>
  intro acc
  rw [lc,ih]
  show (⟨((acc.cps++#[c]).toList++r).toArray⟩:Str)=_
  simp
theorem II:("" : Str).cps.toList=[]:=by decide +kernel
theorem He (ns:List Int) (k:Int) (hk:0<=k):jL [.list (ns.map .int),.int k]=.ok (.str (kr ns k)):=by
 have h0:=eN ns k 6 (by decide)
 have h1:=fF ns k 6 (by decide)
 have ⟨w1,w2⟩:=Hd ns k
 unfold jL
 refine cq ?_
 unfold oa bF
 walk_at "zz"
 rw [nu (ds:=(bi (rQ ns k)).map fun (i:Nat)=>bT i)]
 ·refine Hc (fun (i:Nat)=>bT i) (fun (a:Str) i=>a++⟨#[Bo ns k i]⟩) (fun bY a ρ=>a.length + bY.length<=900/\∃ z,ρ=[.shr (.list (ns.map .int)),.shr (.int k),.shr (.str a),z]) "" ?_ ⟨by rw [dS,show ("" : Str).length=0 by decide];omega,_,rfl⟩ ?_
  ·rintro i bY a ρ ⟨hl,z,rfl⟩
   simp only [aW] at hl
   refine ⟨_,[.shr (.list (ns.map .int)),.shr (.int k),.shr (.str (a++⟨#[Bo ns k i]⟩)),.shr (.int i)],rfl,?_,?_,_,rfl⟩
   ·walk_at "zz"
    rw [eP ns _ 26 (by omega) (by decide)]
    walk_at "zz"
    rw [Md _ (eN _ _ _ (by decide)) (fF _ _ _ (by decide))]
    walk_at "zz"
    have hz:a.length + (⟨#[97 + (eQ ns (k + 1 + i) 26).toNat]⟩:Str).length<=1000:=by
     show a.length + 1<=1000
     omega
    rw [if_pos hz]
    walk_at "zz"
    rw [show 97 + (eQ ns (k + 1 + i) 26).toNat=Bo ns k i from rfl]
   ·show (a.cps++#[_]).size + bY.length<=900
    rw [Array.size_append]
    show a.cps.size + 1 + bY.length<=900
    have:a.length=a.cps.size:=rfl
    omega
  ·rintro ρ' ⟨_,z,rfl⟩
   walk_at "zz"
   have:(bi (rQ ns k)).foldl (fun (a:Str) i=>a++⟨#[Bo ns k i]⟩) ""=kr ns k:=by
    have:=Bp ((bi (rQ ns k)).map (Bo ns k)) ""
    rw [List.foldl_map] at this
    rw [this,II]
    unfold kr
    rw [dZ]
   rw [this]
 ·walk_at "zz"
  rw [eP ns k 6 hk (by decide)]
  walk_at "zz"
  have et:=OJ (eQ ns k 6) h0 h1
  have ew:[1,2,3,6,1,4].getD (eQ ns k 6).toNat 0=rQ ns k:=rfl
  rw [ew] at et
  rw [et]
  walk_at "zz"
  rw [ur (rQ ns k) (by omega)]
def kZ (l:List (Str×D)):List (D×D):=l.map fun p=>(.str p.1,p.2)
def ut (l:List (Str×D)) (x:Str) (d:D):List (Str×D):=if l.any (fun p=>decide (p.1=x)) then l.map (fun p=>if p.1=x then (p.1,d) else p) else l++[(x,d)]
theorem ms (x y:Str):bn (.str x) (.str y)=decide (x=y):=by
 show (x == y)=_
 rw [qF]
theorem OK (l:List (Str×D)) (x:Str) (d:D):Fe (kZ l) (.str x) d=kZ (ut l x d):=by
 unfold Fe ut kZ
 rw [Ei]
 have e:((fun kv:D×D=>bn kv.1 (.str x))∘fun p:Str×D=>(aD p.1,p.2))=fun p=>decide (p.1=x):=by
  funext p
  exact ms p.1 x
 rw [e]
 split
 ·rw [dU,dU]
  apply tE
  intro p _
  simp only [Function.comp,ms]
  by_cases h:p.1=x
  ·simp [h]
  ·simp [h]
 ·simp
theorem xW (l:List (Str×D)):gP (kZ l)=true:=by
 unfold gP kZ
 rw [pB,cB]
 intro p _
 rfl
theorem Dh (l:List (Str×D)) (x:Str) (d:D):(ut l x d).length<=l.length + 1:=by
 unfold ut
 split<;>simp
theorem Ab (l:List (Str×D)) (x:Str) (d:D):(ut l x d).map (·.1)=if x∈l.map (·.1) then l.map (·.1) else l.map (·.1)++[x]:=by
 unfold ut
 have e:(l.any fun p=>decide (p.1=x))=decide (x∈l.map (·.1)):=by
  rw [j9]
  simp only [kz,decide_eq_true_eq,List.mem_map]
 rw [e]
 by_cases h:x∈l.map (·.1)
 ·rw [decide_eq_true h,if_pos rfl,if_pos h,dU]
  apply tE
  intro p _
  by_cases hp:p.1=x<;>simp [hp]
 ·rw [decide_eq_false h,if_neg a_,if_neg h,bN]
  rfl
theorem Me {Q:Str->D->Prop}{l:List (Str×D)}{x:Str}{d:D} (h:∀ p∈l,Q p.1 p.2) (hx:Q x d):∀ p∈ut l x d,Q p.1 p.2:=by
 unfold ut
 split
 ·intro p hp
  obtain ⟨p',hp',rfl⟩:=List.mem_map.mp hp
  by_cases e:p'.1=x
  ·rw [if_pos e];rw [e];exact hx
  ·rw [if_neg e];exact h p' hp'
 ·intro p hp
  rcases List.mem_append.mp hp with hp | hp
  ·exact h p hp
  ·rw [List.mem_singleton.mp hp];exact hx
theorem IJ {l:List Str}{x:Str} (h:l.Nodup):(if x∈l then l else l++[x]).Nodup:=by
 by_cases hx:x∈l
 ·rw [if_pos hx];exact h
 ·rw [if_neg hx];exact Gj h hx
theorem Qa {i:Nat}{gk g:ap->R D}{ρ:ap}{l:List (Str×D)}{x:Str}{d:D} (hi:ρ[i]?=some (Sl.own (.dict (kZ l)))) (hg:g ρ=.ok d) (hk:gk ρ=.ok (.str x)) (hl:l.length<1000):Bc i gk g ρ=.ok (.nx (ρ.set i (.own (.dict (kZ (ut l x d)))))):=by
 have hl':(kZ l).length<1000:=by unfold kZ;rw [av];exact hl
 have e:Bc i gk g ρ=(g ρ).bind fun d=>(gk ρ).bind fun k=>match ud k with
  | some _=>if (kZ l).length<1000/\gP (kZ l)=true then .ok (.nx (ρ.set i (.own (.dict (Fe (kZ l) k d))))) else .no
  | none=>.no:=by
  unfold Bc
  simp only [hi]
  try rfl
 rw [e,hg,Bf,hk,Bf]
 simp only [ud,if_pos (xb hl' (xW l)),OK]
theorem Di (l:List (Str×D)):jY (.dict (kZ l))=.ok (.list ((l.map (·.1)).map .str)):=by
 have e:∀ kvs,jY (.dict kvs)=if gP kvs=true then .ok (.list (kvs.map (·.1))) else .no:=fun _=>rfl
 rw [e,if_pos (xW l)]
 unfold kZ
 rw [dU,dU]
 rfl
theorem sorted_strs (ss:List Str) (h:ss.length<64):qP (.list (ss.map .str))=.ok (.list ((jj ss).map .str)):=by
 have e:∀ ds,qP (.list ds)=match gd ds with
  | some ss=>if ss.length<64 then .ok (.list ((jj ss).map .str)) else .no
  | none=>.no:=fun _=>rfl
 rw [e,strsOf_map]
 simp only [if_pos h]
theorem gf (ds:List D):gS (.list ds)=.ok (.tuple ds):=id rfl
def Br (ns:List Int) (k:Int) (n:Nat):List Str:=(bi n).map fun (i:Nat)=>kr ns (k + 1 + 8 * (i:Int))
def Bs (ns:List Int) (k m:Int):List Str:=jj (cY [] (Br ns k (eQ ns k (m + 1)).toNat))
structure OL (fs:List Str) (n:Nat):Prop where
 ok:∀ x∈fs,xV x=true
 up:fs.Pairwise fun a b=>pF a b=true
 len:fs.length<=n
theorem Mf {α:Type}{a b:List α} (h:a.Perm b):a.length=b.length:=h.length_eq
theorem Fq (ns:List Int) (k m:Int) (hm:0<=m):OL (Bs ns k m) m.toNat:=by
 have h0:=eN ns k (m + 1) (by omega)
 have h1:=fF ns k (m + 1) (by omega)
 have hp:=f_ (cY [] (Br ns k (eQ ns k (m + 1)).toNat))
 refine ⟨fun x hx=>?_,?_,?_⟩
 ·have hx:=hp.mem_iff.mp hx
  rw [i8] at hx
  rcases hx with hx | hx
  ·cases hx
  ·obtain ⟨i,_,rfl⟩:=List.mem_map.mp hx
   exact Dg _ _
 ·exact v7 (pW _) (hp.nodup_iff.mpr (hZ _ [] ip))
 ·unfold Bs
  rw [Mf hp]
  have:=eX (Br ns k (eQ ns k (m + 1)).toNat) []
  unfold Br at this ⊢
  simp at this
  omega
theorem IK (f:Nat->Str) (l:List Nat):∀ acc:List (Str×D),((l.foldl (fun (a:List (Str×D)) i=>ut a (f i) (.bool true)) acc).map (·.1))=cY (acc.map (·.1)) (l.map f):=by
 induction l with
 | nil=>intro acc;rfl
 | cons i r ih =>
  intro acc
  rw [lc,ih,aO,Ab]
  rfl
theorem Mg (ns:List Int) (k m:Int) (hk:0<=k) (hm:0<=m) (hm2:m<=20):mr [.list (ns.map .int),.int k,.int m]=.ok (.tuple ((Bs ns k m).map .str)):=by
 have h0:=eN ns k (m + 1) (by omega)
 have h1:=fF ns k (m + 1) (by omega)
 unfold mr
 refine cq ?_
 unfold mq bF
 walk_at "zz"
 rw [nu (ds:=(bi (eQ ns k (m + 1)).toNat).map fun (i:Nat)=>bT i)]
 ·refine Hc (fun (i:Nat)=>bT i) (fun (a:List (Str×D)) i=>ut a (kr ns (k + 1 + 8 * (i:Int))) (.bool true)) (fun bY a ρ=>a.length + bY.length<=60/\∃ z,ρ=[.shr (.list (ns.map .int)),.shr (.int k),.shr (.int m),.own (.dict (kZ a)),z]) [] ?_ ⟨by simp;omega,_,rfl⟩ ?_
  ·rintro i bY a ρ ⟨hl,z,rfl⟩
   simp only [aW] at hl
   refine ⟨_,[.shr (.list (ns.map .int)),.shr (.int k),.shr (.int m),.own (.dict (kZ (ut a (kr ns (k + 1 + 8 * (i:Int))) (.bool true)))),.shr (.int i)],rfl,?_,?_,_,rfl⟩
   ·refine (Qa (l:=a) (x:=kr ns (k + 1 + 8 * (i:Int))) (d:=.bool true) rfl rfl ?_ (by omega)).trans rfl
    walk_at "zz"
    rw [q_ (by decide) (by decide)]
    walk_at "zz"
    rw [He ns _ (by omega)]
   ·have:=Dh a (kr ns (k + 1 + 8 * (i:Int))) (.bool true)
    omega
  ·rintro ρ' ⟨hl,z,rfl⟩
   simp only [c7] at hl
   walk_at "zz"
   rw [Di]
   walk_at "zz"
   have ek:=IK (fun i=>kr ns (k + 1 + 8 * (i:Int))) (bi (eQ ns k (m + 1)).toNat) []
   rw [ek,sorted_strs]
   ·walk_at "zz"
    rw [gf]
    walk_at "zz"
    rfl
   ·rw [<- ek,av];omega
 ·walk_at "zz"
  rw [eP ns k (m + 1) hk (by omega)]
  walk_at "zz"
  have:=ur (eQ ns k (m + 1)).toNat (by omega)
  rw [dY h0] at this
  exact this
structure bD where
 name:Str
 needs:List Str
 bars:List Str
 makes:List Str
 ends:List Str
 price:Int
abbrev bh (xs:List Str):D:=.tuple (xs.map .str)
def bE (e:bD):D:=.tuple [.str e.name,bh e.needs,bh e.bars,bh e.makes,bh e.ends,.int e.price]
structure wy (fs xs:List Str):Prop where
 up:xs.Pairwise fun a b=>pF a b=true
 mem:∀ x∈xs,x∈fs
structure nB (fs:List Str) (e:bD):Prop where
 name:xV e.name=true
 needs:wy fs e.needs
 bars:wy fs e.bars
 makes:wy fs e.makes
 ends:wy fs e.ends
 nb:∀ x∈e.needs,x∉e.bars
 me:∀ x∈e.makes,x∉e.ends
 p0:0<=e.price
 p9:e.price<=9
def tF (xs:List Str):List Str:=jj (cY [] xs)
theorem iO {xs:List Str}{x:Str}:x∈tF xs↔x∈xs:=by
 unfold tF
 rw [(f_ _).mem_iff,i8]
 simp
theorem xX (xs:List Str):(tF xs).Pairwise fun a b=>pF a b=true:=v7 (pW _) ((f_ _).nodup_iff.mpr (hZ _ [] ip))
theorem r0 {fs xs:List Str} (h:∀ x∈xs,x∈fs):wy fs (tF xs):=⟨xX xs,fun x hx=>h x (iO.mp hx)⟩
theorem Bt (fs:List Str) (j:Int) (h0:0<=j) (h1:j<fs.length):∃ x,x∈fs/\b9 (bh fs) (.int j)=.ok (.str x):=by
 have hj:j.toNat<fs.length:=by omega
 refine ⟨fs[j.toNat],iz hj,?_⟩
 have e:∀ xs k,b9 (.tuple xs) k=CH (.tuple xs) k:=fun _ _=>rfl
 rw [e]
 have hx:=tW (xs:=fs.map aD) (j:=j.toNat) (v:=.str fs[j.toNat]) (by rw [aX,aL hj];rfl)
 rw [dY h0] at hx
 unfold CH
 simp only [hx]
theorem xY (x:Str):∀ ys:List Str,((ys.map aD).any fun y=>bn y (.str x))=decide (x∈ys)
 | []=>rfl
 | y::r=>by
  rw [aO,fm,xY x r,ms]
  by_cases h:y=x
  ·subst h;simp
  ·simp [h,cW h]
theorem xZ (ys:List Str):(ys.map aD).all kO=true:=by
 rw [pB,cB];intro _ _;rfl
theorem OM (neg:Bool) (x:Str) (ys:List Str):CC neg (.str x) (.list (ys.map .str))=.ok (.bool (if neg then !decide (x∈ys) else decide (x∈ys))):=by
 have e:CC neg (.str x) (.list (ys.map .str))=if kO (.str x) && (ys.map aD).all kO then .ok (.bool (if neg then !((ys.map aD).any fun y=>bn y (.str x)) else (ys.map aD).any fun y=>bn y (.str x))) else .no:=rfl
 rw [e,xZ,xY]
 rfl
theorem qm (neg:Bool) (x:Str) (ys:List Str):CC neg (.str x) (bh ys)=.ok (.bool (if neg then !decide (x∈ys) else decide (x∈ys))):=by
 have e:CC neg (.str x) (bh ys)=if kO (.str x) && (ys.map aD).all kO then .ok (.bool (if neg then !((ys.map aD).any fun y=>bn y (.str x)) else (ys.map aD).any fun y=>bn y (.str x))) else .no:=rfl
 rw [e,xZ,xY]
 rfl
theorem kL (neg:Bool) (a b:Int):lA neg (.int a) (.int b)=.ok (.bool (if neg then !decide (a=b) else decide (a=b))):=by
 have e:lA neg (.int a) (.int b)=.ok (.bool (if neg then !(a == b) else (a == b))):=rfl
 rw [e,qF]
theorem uu {x:Str} (h:xV x=true):(aD x).canLay0=true:=by
 unfold xV at h
 simp only [aN,cB,decide_eq_true_eq] at h
 show PyData.strOk x=true
 unfold PyData.strOk
 rw [<- wo,cB]
 intro c hc
 have:=h.2 c hc
 exact decide_eq_true (by omega)
theorem Bu (neg:Bool) {x y:Str} (hx:xV x=true) (hy:xV y=true):lA neg (.str x) (.str y)=.ok (.bool (if neg then !decide (x=y) else decide (x=y))):=by
 unfold lA
 rw [uu hx,uu hy,ms]
 rfl
theorem x_ (ss:List Str) (h:ss.length<60):su (.list (ss.map .str))=.ok (cY [] ss):=by
 have e:∀ ds,su (.list ds)=match gd ds with
  | some ss=>if ss.length<60 then .ok (cY [] ss) else .no
  | none=>.no:=fun _=>rfl
 rw [e,strsOf_map]
 simp only [if_pos h]
theorem Hf (g:ap->R D) (s:Sl) (ρ:ap):o0 g (s::ρ)=(g (s::ρ)).bind su:=id rfl
def Qb:List Str->R D:=fun ss=>if ss.length<64 then .ok (.list ((jj ss).map .str)) else .no
theorem vj (g:ap->R (List Str)) (s:Sl) (ρ:ap):ko g (s::ρ)=(g (s::ρ)).bind Qb:=id rfl
theorem y0 (ss:List Str) (h:ss.length<64):Qb ss=.ok (.list ((jj ss).map .str)):=if_pos h
theorem IL (ss:List Str) (h:ss.length<60) (ρ:ap):(ca (J.aa (ko (o0 (rB 0))) J.aG) (gX gS)) (.shr (.list (ss.map .str))::ρ)=.ok (bh (tF ss)):=by
 walk_at "zz"
 rw [vj,Hf]
 walk_at "zz"
 rw [x_ ss h]
 walk_at "zz"
 rw [y0 _ (by have:=eX ss [];simp at this;omega)]
 walk_at "zz"
 rw [gf]
 rfl
theorem Dj {ρ:ap}{gt:ap->R Bool}{x:Str}{b:Bool}{s:Sl}{r:ap} (hρ:ρ=s::r) (h:gt (.shr (.str x)::r)=.ok b):gG (ir 1 ρ gt (rS 0)) [.str x]=.ok ((if b then [x] else []).map .str):=by
 subst hρ
 have e:=ug (ρ:=s::r) (gt:=gt) (ge:=(rS 0)) (d:=.str x) (y:=.str x) (b:=b) h fun _=>rfl
 unfold gG
 rw [e,Bf]
 unfold gG
 rw [Bf]
 cases b<;>rfl
theorem RC (p q r t:List Str) (hp:p.length<60) (hq:q.length<60) (hr:r.length<60) (ht:t.length<60):gG (ir 1 [Sl.no] kT (ca (J.aa (ko (o0 (rB 0))) J.aG) (gX gS))) [.list (p.map .str),.list (q.map .str),.list (r.map .str),.list (t.map .str)]=.ok [bh (tF p),bh (tF q),bh (tF r),bh (tF t)] :=
 dm _ (fun ss:List Str=>dW (ss.map .str)) (fun ss=>bh (tF ss)) [p,q,r,t] fun ss hs=>e_ rfl (IL ss (by simp at hs;rcases hs with h | h | h | h<;>(rw [h];assumption)) _)
theorem Qc (a b c d:D):b9 (.list [a,b,c,d]) (.int 0)=.ok a:=id rfl
theorem Qd (a b c d:D):b9 (.list [a,b,c,d]) (.int 1)=.ok b:=id rfl
theorem Qe (a b c d:D):b9 (.list [a,b,c,d]) (.int 2)=.ok c:=id rfl
theorem Qf (a b c d:D):b9 (.list [a,b,c,d]) (.int 3)=.ok d:=id rfl
theorem ON (ns:List Int) (k:Int) (hk:0<=k) (fs:List Str) (hf:∀ x∈fs,xV x=true) (h0:0<fs.length) (nm:Str) (hn:xV nm=true) :
  ∃ e,oo [.list (ns.map .int),.int k,bh fs,.str nm]=.ok (bE e)/\nB fs e/\e.name=nm:=by
 have hl:(0:Int)<(fs.length:Int):=by omega
 obtain ⟨a,ha,ea⟩:=Bt fs (eQ ns (k + 10) fs.length) (eN _ _ _ hl) (fF _ _ _ hl)
 obtain ⟨b,hb,eb⟩:=Bt fs (eQ ns (k + 11) fs.length) (eN _ _ _ hl) (fF _ _ _ hl)
 obtain ⟨c,hc,ec⟩:=Bt fs (eQ ns (k + 12) fs.length) (eN _ _ _ hl) (fF _ _ _ hl)
 have m13a:=eN ns (k + 13) 3 (by decide)
 have m13b:=fF ns (k + 13) 3 (by decide)
 obtain ⟨nd,hnd,hnl,end_⟩:∃ nd:List Str,(∀ x∈nd,x∈fs)/\nd.length<60/\El (.list [.str a,.str b]) none (some (1 + eQ ns (k + 13) 3 / 2))=.ok (.list (nd.map .str)):=by
  by_cases h2:eQ ns (k + 13) 3=2
  ·exact ⟨[a,b],by simp [ha,hb],by simp,by rw [h2];rfl⟩
  ·have:eQ ns (k + 13) 3 / 2=0:=by omega
   exact ⟨[a],by simp [ha],by simp,by rw [this];rfl⟩
 let bb:Bool:=!decide (c∈nd) && decide (eQ ns (k + 14) 4=0)
 let be:Bool:=!decide (a=c) && decide (eQ ns (k + 15) 3=0)
 have p0:=eN ns k 5 (by decide)
 have p1:=fF ns k 5 (by decide)
 refine ⟨⟨nm,tF nd,tF (if bb then [c] else []),tF [c],tF (if be then [a] else []),eQ ns k 5⟩,?_,⟨hn,r0 hnd,r0 ?_,r0 (by simp [hc]),r0 ?_,fun x h1 h2=>?_,fun x h1 h2=>?_,p0,by show eQ ns k 5<=9;omega⟩,rfl⟩
 ·unfold oo
  refine cq ?_
  unfold om bF
  walk_at "zz"
  rw [eP ns _ _ (by omega) hl]
  walk_at "zz"
  rw [ea]
  walk_at "zz"
  rw [eP ns (k + 11) _ (by omega) hl]
  walk_at "zz"
  rw [eb]
  walk_at "zz"
  rw [eP ns (k + 12) _ (by omega) hl]
  walk_at "zz"
  rw [ec]
  walk_at "zz"
  rw [eP ns (k + 13) 3 (by omega) (by decide)]
  walk_at "zz"
  simp only [EH,decide_true,nN,if_true]
  walk_at "zz"
  rw [end_]
  walk_at "zz"
  rw [Dj (b:=bb) rfl]
  ·walk_at "zz"
   rw [Dj (b:=be) rfl]
   ·walk_at "zz"
    simp only [RT]
    rw [Fi rfl,Fi rfl]
    walk_at "zz"
    have pk:=RC nd (if bb then [c] else []) [c] (if be then [a] else []) hnl (by cases bb<;>simp) (by simp) (by cases be<;>simp)
    rw [show ([c].map aD)=[aD c] from rfl] at pk
    rw [pk]
    walk_at "zz"
    rw [Qc]
    walk_at "zz"
    rw [Qd]
    walk_at "zz"
    rw [Qe]
    walk_at "zz"
    rw [Qf]
    walk_at "zz"
    rw [eP ns k 5 hk (by decide)]
    walk_at "zz"
    rfl
   ·walk_at "zz"
    rw [Bu true (hf a ha) (hf c hc)]
    walk_at "zz"
    by_cases hac:a=c
    ·simp only [be,hac,decide_true,nO,zE,if_true,cond_false]
    ·simp only [be,hac,decide_false,jx,tQ,if_true,cond_true]
     rw [eP ns (k + 15) 3 (by omega) (by decide)]
     walk_at "zz"
     rw [kL]
     walk_at "zz"
  ·walk_at "zz"
   rw [OM]
   walk_at "zz"
   by_cases hcn:c∈nd
   ·simp only [bb,hcn,decide_true,nO,zE,if_true,cond_false]
   ·simp only [bb,hcn,decide_false,jx,tQ,if_true,cond_true]
    rw [eP ns (k + 14) 4 (by omega) (by decide)]
    walk_at "zz"
    rw [kL]
    walk_at "zz"
 ·intro x hx
  cases hbb:bb
  ·simp [hbb] at hx
  ·simp [hbb] at hx;rw [hx];exact hc
 ·intro x hx
  cases hbe:be
  ·simp [hbe] at hx
  ·simp [hbe] at hx;rw [hx];exact ha
 ·have h2:x∈(if bb then [c] else []):=iO.mp h2
  cases hbb:bb
  ·simp [hbb] at h2
  ·simp [hbb] at h2
   subst h2
   have:(!decide (x∈nd))=true:=by
    have:(!decide (x∈nd) && decide (eQ ns (k + 14) 4=0))=true:=hbb
    simp only [aN] at this
    exact this.1
   simp at this
   exact this (iO.mp h1)
 ·cases hbe:be
  ·have h2:x∈(if be then [a] else []):=iO.mp h2
   simp [hbe] at h2
  ·skip
   have h4:x∈[c]:=iO.mp h1
   have h5:x∈(if be then [a] else []):=iO.mp h2
   simp only [dE] at h4
   simp only [hbe,if_true,dE] at h5
   have:(!decide (a=c) && decide (eQ ns (k + 15) 3=0))=true:=hbe
   simp only [aN] at this
   have h3:=this.1
   simp at h3
   exact h3 (h5.symm.trans h4)
theorem y6 {i:Nat}{gi g:ap->R D}{ρ:ap}{dss:List (List D)}{ds:List D}{d:D}{j:Int} (hi:ρ[i]?=some (Sl.ow2 dss)) (hj:gi ρ=.ok (.int j)) (h0:0<=j) (hd:dss[j.toNat]?=some ds) (hg:g ρ=.ok d) (hl:ds.length<1000):jA i gi g ρ=.ok (.nx (ρ.set i (.ow2 (dss.set j.toNat (ds++[d]))))):=by
 unfold jA
 simp only [hi,hj,bind_ok,if_pos h0,hd,hg,if_pos hl]
def mv (n:Nat):List Str->List (Nat×Str)
 | []=>[]
 | x::r=>(n,x)::mv (n + 1) r
abbrev cI (p:Nat×Str):D:=.tuple [.int (p.1:Nat),.str p.2]
theorem wT:∀ (xs:List Str) (n:Nat),gF n (xs.map .str)=(mv n xs).map cI
 | [],_=>rfl
 | x::r,n=>by
  show jr [.int n,.str x]::gF (n + 1) (r.map .str)=cI (n,x)::(mv (n + 1) r).map cI
  rw [wT r (n + 1)]
theorem r6:∀ (xs:List Str) (n:Nat),(mv n xs).map (·.2)=xs
 | [],_=>rfl
 | x::r,n=>by
  show x::(mv (n + 1) r).map (·.2)=x::r
  rw [r6 r]
theorem nC:∀ (fs:List Str),(∀ x∈fs,xV x=true)->bJ (fs.map .str)=true
 | [],_=>rfl
 | x::r,h=>by
  have h1:=uu (h x al)
  have h2:=nC r fun y hy=>h y (aj _ hy)
  simp only [aO,bJ,h1,h2,nN]
theorem Hg (fs:List Str) (hf:∀ x∈fs,xV x=true):lA true (bh fs) (.tuple [])=.ok (.bool (!decide (fs=[]))):=by
 unfold lA
 have h1:(bh fs).canLay0=true:=by simp only [dO];exact nC fs hf
 have h2:(jr []).canLay0=true:=rfl
 have h3:min (bh fs).depth (jr []).depth<=60:=bU (p7 _ _) (by decide)
 have h4:bn (bh fs) (.tuple [])=decide (fs=[]):=by
  cases fs with
  | nil=>rfl
  | cons x r=>simp [bn,iL]
 rw [h1,h2,decide_eq_true h3,h4]
 rfl
structure mU (pre p q:List Str):Prop where
 sp:p.Sublist pre
 sq:q.Sublist pre
 d:∀ x∈p,x∉q
theorem mU.skip {pre p q:List Str} (h:mU pre p q) (x:Str):mU (pre++[x]) p q:=⟨h.sp.trans (iZ _ _),h.sq.trans (iZ _ _),h.d⟩
theorem mU.left {pre p q:List Str} (h:mU pre p q) (x:Str) (hx:x∉pre):mU (pre++[x]) (p++[x]) q:=⟨h.sp.append (eF _),h.sq.trans (iZ _ _),fun y hy hq=>by
 rcases List.mem_append.mp hy with h1 | h1
 ·exact h.d y h1 hq
 ·rw [List.mem_singleton.mp h1] at hq
  exact hx (h.sq.subset hq)⟩
theorem mU.right {pre p q:List Str} (h:mU pre p q) (x:Str) (hx:x∉pre):mU (pre++[x]) p (q++[x]):=⟨h.sp.trans (iZ _ _),h.sq.append (eF _),fun y hy hq=>by
 rcases List.mem_append.mp hq with h1 | h1
 ·exact h.d y hy h1
 ·rw [List.mem_singleton.mp h1] at hy
  exact hx (h.sp.subset hy)⟩
abbrev o4 (p q r t:List Str):Sl:=.ow2 [p.map .str,q.map .str,r.map .str,t.map .str]
theorem Tt (j:Int) (h0:0<=j) (h1:j<3):∃ b:Bool,b9 (.list [.int 0,.int 0,.int 1]) (.int j)=.ok (.int (if b then 0 else 1)):=by
 have:j=0\/j=1\/j=2:=by omega
 rcases this with h | h | h<;>subst h
 ·exact ⟨true,rfl⟩
 ·exact ⟨true,rfl⟩
 ·exact ⟨false,rfl⟩
theorem Tu (j:Int) (h0:0<=j) (h1:j<4):∃ b:Bool,b9 (.list [.int 2,.int 2,.int 3,.int 3]) (.int j)=.ok (.int (if b then 2 else 3)):=by
 have:j=0\/j=1\/j=2\/j=3:=by omega
 rcases this with h | h | h | h<;>subst h
 ·exact ⟨true,rfl⟩
 ·exact ⟨true,rfl⟩
 ·exact ⟨false,rfl⟩
 ·exact ⟨false,rfl⟩
theorem uv (p:List Str) (x:Str):(p++[x]).map aD=p.map .str++[.str x]:=by simp
theorem Mh {a b c d e f:Sl}{pre p q r t:List Str}{x:Str}{j:Int} (hp:mU pre p q) (hx:x∉pre) (hl:pre.length<900) (h0:0<=j) :
  ∃ p' q',mU (pre++[x]) p' q'/\dX (fE (g2 (rB 7) (kI 3) F8)) (jA 4 (g2 (fH (J.aa (kI 0) (J.aa (kI 0) (J.aa (kI 1) J.aG))) .list) (rB 7) b9) (rS 6)) (fun ρ=>.ok (.nx ρ)) [a,b,c,d,o4 p q r t,e,.shr (.str x),.shr (.int j),f]=.ok (.nx [a,b,c,d,o4 p' q' r t,e,.shr (.str x),.shr (.int j),f]):=by
 by_cases h3:j<3
 ·obtain ⟨bo,e3⟩:=Tt j h0 h3
  have lp:p.length<1000:=by have:=hp.sp.length_le;omega
  have lq:q.length<1000:=by have:=hp.sq.length_le;omega
  cases bo
  ·refine ⟨p,q++[x],hp.right x hx,?_⟩
   walk_at "zz"
   rw [decide_eq_true h3]
   walk_at "zz"
   simp only [o4,uv]
   refine (y6 (j:=1) (ds:=q.map .str) (d:=.str x) rfl ?_ (by decide) rfl rfl (by rw [av];exact lq)).trans rfl
   walk_at "zz"
   rw [e3]
   rfl
  ·refine ⟨p++[x],q,hp.left x hx,?_⟩
   walk_at "zz"
   rw [decide_eq_true h3]
   walk_at "zz"
   simp only [o4,uv]
   refine (y6 (j:=0) (ds:=p.map .str) (d:=.str x) rfl ?_ (by decide) rfl rfl (by rw [av];exact lp)).trans rfl
   walk_at "zz"
   rw [e3]
   rfl
 ·refine ⟨p,q,hp.skip x,?_⟩
  walk_at "zz"
  rw [decide_eq_false h3]
  walk_at "zz"
theorem Mi {a b c d e f:Sl}{pre p q r t:List Str}{x:Str}{j:Int} (hp:mU pre r t) (hx:x∉pre) (hl:pre.length<900) (h0:0<=j) :
  ∃ r' t',mU (pre++[x]) r' t'/\dX (fE (g2 (rB 7) (kI 4) F8)) (jA 4 (g2 (fH (J.aa (kI 2) (J.aa (kI 2) (J.aa (kI 3) (J.aa (kI 3) J.aG)))) .list) (rB 7) b9) (rS 6)) (fun ρ=>.ok (.nx ρ)) [a,b,c,d,o4 p q r t,e,.shr (.str x),.shr (.int j),f]=.ok (.nx [a,b,c,d,o4 p q r' t',e,.shr (.str x),.shr (.int j),f]):=by
 by_cases h3:j<4
 ·obtain ⟨bo,e3⟩:=Tu j h0 h3
  have lp:r.length<1000:=by have:=hp.sp.length_le;omega
  have lq:t.length<1000:=by have:=hp.sq.length_le;omega
  cases bo
  ·refine ⟨r,t++[x],hp.right x hx,?_⟩
   walk_at "zz"
   rw [decide_eq_true h3]
   walk_at "zz"
   simp only [o4,uv]
   refine (y6 (j:=3) (ds:=t.map .str) (d:=.str x) rfl ?_ (by decide) rfl rfl (by rw [av];exact lq)).trans rfl
   walk_at "zz"
   rw [e3]
   rfl
  ·refine ⟨r++[x],t,hp.left x hx,?_⟩
   walk_at "zz"
   rw [decide_eq_true h3]
   walk_at "zz"
   simp only [o4,uv]
   refine (y6 (j:=2) (ds:=r.map .str) (d:=.str x) rfl ?_ (by decide) rfl rfl (by rw [av];exact lp)).trans rfl
   walk_at "zz"
   rw [e3]
   rfl
 ·refine ⟨r,t,hp.skip x,?_⟩
  walk_at "zz"
  rw [decide_eq_false h3]
  walk_at "zz"
theorem Tv (i:Nat) (ρ:ap):Oq i ρ=.ok (.nx ((clear2 ρ).set i (.ow2 [[],[],[],[]]))):=id rfl
theorem mU.sub {fs p q:List Str} (up:fs.Pairwise fun a b=>pF a b=true) (h:mU fs p q):wy fs p/\wy fs q:=⟨⟨up.sublist h.sp,fun x hx=>h.sp.subset hx⟩,⟨up.sublist h.sq,fun x hx=>h.sq.subset hx⟩⟩
theorem Mj (p:List Str) (ρ:ap):(ca (J.aa (rB 0) J.aG) (gX gS)) (.shr (.list (p.map .str))::ρ)=.ok (bh p):=by
 walk_at "zz"
 rw [gf]
theorem Tw (p q r t:List Str):gG (ir 1 [Sl.no] kT (ca (J.aa (rB 0) J.aG) (gX gS))) [.list (p.map .str),.list (q.map .str),.list (r.map .str),.list (t.map .str)]=.ok [bh p,bh q,bh r,bh t] :=
 dm _ (fun ss:List Str=>dW (ss.map .str)) (fun ss=>bh ss) [p,q,r,t] fun ss hs=>e_ rfl (Mj ss _)
theorem IM (ns:List Int) (k:Int) (hk:0<=k) (fs:List Str) (hf:∀ x∈fs,xV x=true) (up:fs.Pairwise fun a b=>pF a b=true) (nd:fs.Nodup) (hl:fs.length<=6) (nm:Str) (hn:xV nm=true) :
  ∃ e,ij [.list (ns.map .int),.int k,bh fs,.str nm]=.ok (bE e)/\nB fs e/\e.name=nm:=by
 have p0:=eN ns k 5 (by decide)
 have p1:=fF ns k 5 (by decide)
 have go:∀ ρ:ap,ρ=[.shr (.list (ns.map .int)),.shr (.int k),.shr (bh fs),.shr (.str nm),.no,.no,.no,.no,.no]->(!decide (fs=[]) && decide (eQ ns 97 2=0))=false->∃ e,ii ρ=.ok (.rt (bE e))/\nB fs e/\e.name=nm:=by
  rintro ρ rfl hc
  obtain ⟨ρ',h1,p,q,r,t,h2,h3,h4⟩:∃ ρ',(nq (Fd (J.aa (rS 2) J.aG)) (iu 2 (bC (bc 5) (bC (bc 6) iU))) (aS (fJ 7 (dC 3 ba (J.aa (rS 0) (J.aa (g2 (g2 (rB 1) (kI 10) dk) (rB 5) dk) (J.aa (kI 8) J.aG))))) (aS (dX (fE (g2 (rB 7) (kI 3) F8)) (jA 4 (g2 (fH (J.aa (kI 0) (J.aa (kI 0) (J.aa (kI 1) J.aG))) .list) (rB 7) b9) (rS 6)) (fun ρ=>.ok (.nx ρ))) (aS (fJ 7 (dC 3 ba (J.aa (rS 0) (J.aa (g2 (g2 (rB 1) (kI 20) dk) (rB 5) dk) (J.aa (kI 8) J.aG))))) (dX (fE (g2 (rB 7) (kI 4) F8)) (jA 4 (g2 (fH (J.aa (kI 2) (J.aa (kI 2) (J.aa (kI 3) (J.aa (kI 3) J.aG)))) .list) (rB 7) b9) (rS 6)) (fun ρ=>.ok (.nx ρ))))))) [.shr (.list (ns.map .int)),.shr (.int k),.shr (bh fs),.shr (.str nm),o4 [] [] [] [],.no,.no,.no,.no]=.ok (.nx ρ')/\∃ p q r t,mU fs p q/\mU fs r t/\∃ z5 z6 z7,ρ'=[.shr (.list (ns.map .int)),.shr (.int k),.shr (bh fs),.shr (.str nm),o4 p q r t,z5,z6,z7,.no]:=by
   rw [nu (ds:=(mv 0 fs).map cI)]
   ·have H:=ql cI (fun (a:Unit) (_:Nat×Str)=>a) (fun bY _ ρ=>∃ pre,pre++bY.map (·.2)=fs/\∃ p q r t,mU pre p q/\mU pre r t/\∃ z5 z6 z7,ρ=[.shr (.list (ns.map .int)),.shr (.int k),.shr (bh fs),.shr (.str nm),o4 p q r t,z5,z6,z7,.no]) (kt:=iu 2 (bC (bc 5) (bC (bc 6) iU))) (gb:=(aS (fJ 7 (dC 3 ba (J.aa (rS 0) (J.aa (g2 (g2 (rB 1) (kI 10) dk) (rB 5) dk) (J.aa (kI 8) J.aG))))) (aS (dX (fE (g2 (rB 7) (kI 3) F8)) (jA 4 (g2 (fH (J.aa (kI 0) (J.aa (kI 0) (J.aa (kI 1) J.aG))) .list) (rB 7) b9) (rS 6)) (fun ρ=>.ok (.nx ρ))) (aS (fJ 7 (dC 3 ba (J.aa (rS 0) (J.aa (g2 (g2 (rB 1) (kI 20) dk) (rB 5) dk) (J.aa (kI 8) J.aG))))) (dX (fE (g2 (rB 7) (kI 4) F8)) (jA 4 (g2 (fH (J.aa (kI 2) (J.aa (kI 2) (J.aa (kI 3) (J.aa (kI 3) J.aG)))) .list) (rB 7) b9) (rS 6)) (fun ρ=>.ok (.nx ρ)))))))
    obtain ⟨ρ',h1,pre,h2,p,q,r,t,h3,h4,h5⟩:=H (by
     rintro ⟨i,x⟩ bY _ ρ ⟨pre,h2,p,q,r,t,h3,h4,z5,z6,z7,rfl⟩
     have hx:x∉pre:=by
      rw [<- h2,aO] at nd
      have:=(List.nodup_append.mp nd).2.2
      intro hx
      exact this x hx x al rfl
     have hpl:pre.length<900:=by
      have:=congrArg n8 h2
      rw [aH] at this
      omega
     obtain ⟨p',q',k1,k2⟩:=Mh (a:=.shr (.list (ns.map .int))) (b:=.shr (.int k)) (c:=.shr (bh fs)) (d:=.shr (.str nm)) (e:=.shr (.int (i:Nat))) (f:=.no) (r:=r) (t:=t) (j:=eQ ns (k + 10 + i) 8) h3 hx hpl (eN _ _ _ (by decide))
     obtain ⟨r',t',k3,k4⟩:=Mi (a:=.shr (.list (ns.map .int))) (b:=.shr (.int k)) (c:=.shr (bh fs)) (d:=.shr (.str nm)) (e:=.shr (.int (i:Nat))) (f:=.no) (p:=p') (q:=q') (j:=eQ ns (k + 20 + i) 8) h4 hx hpl (eN _ _ _ (by decide))
     refine ⟨[.shr (.list (ns.map .int)),.shr (.int k),.shr (bh fs),.shr (.str nm),o4 p q r t,.shr (.int (i:Nat)),.shr (.str x),z7,.no],[.shr (.list (ns.map .int)),.shr (.int k),.shr (bh fs),.shr (.str nm),o4 p' q' r' t',.shr (.int (i:Nat)),.shr (.str x),.shr (.int (eQ ns (k + 20 + i) 8)),.no],rfl,?_,pre++[x],?_,p',q',r',t',k1,k3,_,_,_,rfl⟩
     ·rw [vR,Ln]
      walk_at "yy"
      rw [eP ns _ 8 (by omega) (by decide)]
      walk_at "yy"
      rw [k2]
      walk_at "yy"
      rw [eP ns _ 8 (by omega) (by decide)]
      walk_at "yy"
      rw [k4]
     ·rw [<- h2];simp) (mv 0 fs) () [.shr (.list (ns.map .int)),.shr (.int k),.shr (bh fs),.shr (.str nm),o4 [] [] [] [],.no,.no,.no,.no] ⟨[],by rw [r6];rfl,[],[],[],[],⟨eF _,eF _,fun _ h=>nomatch h⟩,⟨eF _,eF _,fun _ h=>nomatch h⟩,_,_,_,rfl⟩
    refine ⟨ρ',h1,p,q,r,t,?_,?_,h5⟩
    ·simp only [dQ,cA] at h2
     rw [<- h2];exact h3
    ·simp only [dQ,cA] at h2
     rw [<- h2];exact h4
   ·walk_at "zz"
    rw [wT]
  obtain ⟨s1,s2⟩:=h2.sub up
  obtain ⟨s3,s4⟩:=h3.sub up
  obtain ⟨z5,z6,z7,rfl⟩:=h4
  refine ⟨⟨nm,p,q,r,t,eQ ns k 5⟩,?_,⟨hn,s1,s2,s3,s4,h2.d,h3.d,p0,by show eQ ns k 5<=9;omega⟩,rfl⟩
  unfold ii
  have hand:F3 (fE (g2 (rB 2) (fH J.aG .tuple) (lA true))) (fE (g2 (dC 3 ba (J.aa (rS 0) (J.aa (kI 97) (J.aa (kI 2) J.aG)))) (kI 0) (lA false))) [.shr (.list (ns.map .int)),.shr (.int k),.shr (bh fs),.shr (.str nm),.no,.no,.no,.no,.no]=.ok false:=by
   walk_at "zz"
   rw [Hg fs hf]
   walk_at "zz"
   by_cases h:fs=[]
   ·simp only [h,decide_true,nO,cond_false]
   ·simp only [h,decide_false,jx,cond_true,tQ] at hc ⊢
    rw [eP ns 97 2 (by decide) (by decide)]
    walk_at "zz"
    rw [kL]
    walk_at "zz"
    rw [hc]
  rw [vR,T3,hand]
  simp only [Bf,Ll,Tv,clear2,aO,dQ,m9,m8,Bf,qi,vR]
  rw [show Sl.ow2 [[],[],[],[]]=o4 [] [] [] [] from rfl,h1]
  walk_at "zz"
  rw [Tw]
  walk_at "zz"
  rw [Qc]
  walk_at "zz"
  rw [Qd]
  walk_at "zz"
  rw [Qe]
  walk_at "zz"
  rw [Qf]
  walk_at "zz"
  rw [eP ns k 5 hk (by decide)]
  walk_at "zz"
  rfl
 by_cases hc:(!decide (fs=[]) && decide (eQ ns 97 2=0))=true
 ·have h0:0<fs.length:=by
   rcases fs with _ | ⟨x,r⟩
   ·simp at hc
   ·simp
  obtain ⟨e,h1,h2⟩:=ON ns k hk fs hf h0 nm hn
  refine ⟨e,?_,h2⟩
  unfold ij
  refine cq ?_
  unfold ii bF
  walk_at "zz"
  rw [Hg fs hf]
  walk_at "zz"
  simp only [aN] at hc
  rw [hc.1]
  walk_at "zz"
  rw [eP ns 97 2 (by decide) (by decide)]
  walk_at "zz"
  rw [kL]
  walk_at "zz"
  rw [hc.2]
  walk_at "zz"
  rw [h1]
  walk_at "zz"
 ·obtain ⟨e,h1,h2⟩:=go _ rfl (Bool.eq_false_iff.mpr hc)
  exact ⟨e,by unfold ij;exact cq h1,h2⟩
theorem Mk (ds:List D) (t:Nat) (h:t<=ds.length):zi ds (some (t:Int)) none=ds.drop t:=by
 unfold zi
 rw [HT.Gd,HT.C8,Nat.min_eq_left h,List.take_of_length_le (by rw [wG];exact ao _)]
theorem RE (ds:List D) (t:Nat) (h:t<=ds.length):zi ds none (some (t:Int))=ds.take t:=by
 unfold zi
 rw [HT.Gd,HT.C8,Nat.min_eq_left h,List.drop_zero,Nat.sub_zero]
theorem Tx (ds:List D) (t:Nat) (h:t<=ds.length):El (.list ds) (some (t:Int)) none=.ok (.list (ds.drop t)):=by
 rw [<- Mk ds t h];rfl
theorem Tz (ds:List D) (t:Nat) (h:t<=ds.length):El (.list ds) none (some (t:Int))=.ok (.list (ds.take t)):=by
 rw [<- RE ds t h];rfl
theorem RF {l:List (Str×D)} (nd:(l.map (·.1)).Nodup) {p:Str×D} (hp:p∈l):b9 (.dict (kZ l)) (.str p.1)=.ok p.2:=by
 have e:∀ kvs x,b9 (.dict kvs) (.str x)=if gP kvs=true then (match xF kvs (.str x) with
   | some d=>.ok d
   | none=>.no) else .no:=fun _ _=>rfl
 rw [e,if_pos (xW l)]
 have:xF (kZ l) (.str p.1)=some p.2:=by
  unfold xF kZ
  clear e
  induction l with
  | nil=>cases hp
  | cons q r ih =>
   rw [aO] at nd
   obtain ⟨n1,n2⟩:=List.nodup_cons.mp nd
   rw [aO,dB,ms]
   rcases List.mem_cons.mp hp with h | h
   ·subst h;simp
   ·have:q.1≠p.1:=fun z=>n1 (z ▸ iK h)
    rw [decide_eq_false this]
    exact ih n2 h
 rw [this]
structure eG (fs:List Str) (es:List bD):Prop where
 rise:OL fs 6
 len:es.length<=6
 nd:(es.map (·.name)).Nodup
 ok:∀ e∈es,nB fs e
def ev (fs:List Str) (es:List bD):D:=.tuple [bh fs,.tuple (es.map bE)]
theorem TC (fs:List Str):∀ (l:List (Str×D)),(∀ p∈l,∃ e,p.2=bE e/\nB fs e/\e.name=p.1)->∃ es:List bD,l.map (·.2)=es.map bE/\es.map (·.name)=l.map (·.1)/\∀ e∈es,nB fs e
 | [],_=>⟨[],rfl,rfl,fun _ h=>nomatch h⟩
 | p::r,h=>by
  obtain ⟨e,h1,h2,h3⟩:=h p al
  obtain ⟨es,k1,k2,k3⟩:=TC fs r fun q hq=>h q (aj _ hq)
  refine ⟨e::es,by rw [aO,aO,h1,k1],by rw [aO,aO,h3,k2],fun x hx=>?_⟩
  rcases List.mem_cons.mp hx with z | z
  ·rw [z];exact h2
  ·exact k3 x z
theorem IN {α:Type} (l:List α) (t:Nat):(l.drop t++l.take t).Perm l:=by
 refine List.perm_append_comm.trans ?_
 rw [EI]
theorem ku {l:List Str} (h:l.Pairwise fun a b=>pF a b=true):l.Nodup:=h.imp fun hab z=>by
 rw [z,sj] at hab
 cases hab
theorem OO (ns:List Int) (k:Int) (hk:0<=k) (m n:Int) (hm0:0<=m) (hm:m<=6) (hn0:0<=n) (hn:n<=6):∃ fs es,lF [.list (ns.map .int),.int k,.int m,.int n]=.ok (ev fs es)/\eG fs es:=by
 have hr:=Fq ns k m hm0
 generalize hfs:Bs ns k m=fs at hr
 have hr:OL fs 6:=⟨hr.ok,hr.up,by have:=hr.len;omega⟩
 have nd:=ku hr.up
 have m0:=eN ns (k + 60) (n + 1) (by omega)
 have m1:=fF ns (k + 60) (n + 1) (by omega)
 suffices H:∃ es,lF [.list (ns.map .int),.int k,.int m,.int n]=.ok (ev fs es)/\eG fs es from H.elim fun es h=>⟨fs,es,h⟩
 unfold lF
 suffices H:∃ es,lE (bF 10 [.list (ns.map .int),.int k,.int m,.int n])=.ok (.rt (ev fs es))/\eG fs es from H.elim fun es h=>⟨es,cq h.1,h.2⟩
 have H:=ql (fun (i:Nat)=>bT i) (fun (a:Unit) (_:Nat)=>a) (fun bY _ ρ=>∃ l,l.length + bY.length<=6/\(l.map (·.1)).Nodup/\(∀ p∈l,∃ e,p.2=bE e/\nB fs e/\e.name=p.1)/\∃ z6 z7,ρ=[.shr (.list (ns.map .int)),.shr (.int k),.shr (.int m),.shr (.int n),.shr (bh fs),.own (.dict (kZ l)),z6,z7,.no,.no]) (kt:=bc 6) (gb:=aS (fJ 7 (dC 2 jL (J.aa (rS 0) (J.aa (g2 (g2 (rB 1) (kI 70) dk) (g2 (kI 40) (rB 6) wv) dk) J.aG)))) (Bc 5 (rS 7) (dC 4 ij (J.aa (rS 0) (J.aa (g2 (g2 (rB 1) (kI 80) dk) (g2 (kI 40) (rB 6) wv) dk) (J.aa (rS 4) (J.aa (rS 7) J.aG)))))))
 obtain ⟨ρ',h1,l,h2,h3,h4,z6,z7,h5⟩:=H (by
  rintro i bY _ ρ ⟨l,h2,h3,h4,z6,z7,rfl⟩
  simp only [aW] at h2
  have hw:=Dg ns (k + 70 + 40 * (i:Int))
  obtain ⟨e,e1,e2,e3⟩:=IM ns (k + 80 + 40 * (i:Int)) (by omega) fs hr.ok hr.up nd hr.len (kr ns (k + 70 + 40 * (i:Int))) hw
  have pl:=Dh l (kr ns (k + 70 + 40 * (i:Int))) (bE e)
  refine ⟨[.shr (.list (ns.map .int)),.shr (.int k),.shr (.int m),.shr (.int n),.shr (bh fs),.own (.dict (kZ l)),.shr (.int i),z7,.no,.no],[.shr (.list (ns.map .int)),.shr (.int k),.shr (.int m),.shr (.int n),.shr (bh fs),.own (.dict (kZ (ut l (kr ns (k + 70 + 40 * (i:Int))) (bE e)))),.shr (.int i),.shr (.str (kr ns (k + 70 + 40 * (i:Int)))),.no,.no],rfl,?_,ut l (kr ns (k + 70 + 40 * (i:Int))) (bE e),by omega,?_,?_,_,_,rfl⟩
  ·walk_at "zz"
   rw [q_ (by decide) (by decide)]
   walk_at "zz"
   rw [He ns _ (by omega)]
   walk_at "zz"
   refine (Qa (l:=l) (x:=kr ns (k + 70 + 40 * (i:Int))) (d:=bE e) rfl ?_ rfl (by omega)).trans rfl
   walk_at "zz"
   rw [q_ (by decide) (by decide)]
   walk_at "zz"
   exact e1
  ·rw [Ab];exact IJ h3
  ·exact Me (Q:=fun x d=>∃ e,d=bE e/\nB fs e/\e.name=x) h4 ⟨e,rfl,e2,e3⟩) (bi (eQ ns (k + 60) (n + 1)).toNat) () [.shr (.list (ns.map .int)),.shr (.int k),.shr (.int m),.shr (.int n),.shr (bh fs),.own (.dict (kZ [])),.no,.no,.no,.no] ⟨[],by rw [dS];simp only [c7];omega,ip,fun _ h=>(nomatch h),_,_,rfl⟩
 simp only [c7,Nat.add_zero] at h2
 have t0:=eN ns (k + 61) ((l.length:Int) + 1) (by omega)
 have t1:=fF ns (k + 61) ((l.length:Int) + 1) (by omega)
 obtain ⟨t,ht⟩:∃ t:Nat,eQ ns (k + 61) ((l.length:Int) + 1)=t:=⟨_,(dY t0).symm⟩
 have tl:t<=l.length:=by omega
 have pm:=IN l t
 obtain ⟨es,k1,k2,k3⟩:=TC fs (l.drop t++l.take t) fun p hp=>h4 p (pm.mem_iff.mp hp)
 have kl:es.length=l.length:=by
  have:=congrArg n8 k1
  rw [av,av,pm.length_eq] at this
  exact this.symm
 refine ⟨es,?_,hr,by omega,?_,k3⟩
 ·unfold lE bF
  walk_at "yy"
  rw [Mg ns k m hk hm0 (by omega),hfs]
  walk_at "yy"
  rw [nu (ds:=(bi (eQ ns (k + 60) (n + 1)).toNat).map fun (i:Nat)=>bT i)]
  ·rw [show PyData.dict []=PyData.dict (kZ []) from rfl,h1,h5]
   walk_at "yy"
   rw [Di]
   walk_at "yy"
   rw [eP ns _ _ (by omega) (by omega),ht]
   walk_at "yy"
   clear H h1
   rw [Tx _ t (by simpa using tl)]
   walk_at "yy"
   rw [Tz _ t (by simpa using tl)]
   walk_at "yy"
   have e1:(List.drop t (rJ aD (rJ (fun x=>x.fst) l))++List.take t (rJ aD (rJ (fun x=>x.fst) l)))=(l.drop t++l.take t).map fun p=>aD p.1:=by
    rw [bN,List.map_drop,List.map_take,dU];rfl
   rw [e1,if_pos (by rw [<- aH,e1,av,pm.length_eq];omega)]
   have pl:=pm.length_eq
   have px:∀ p∈l.drop t++l.take t,p∈l:=fun p hp=>pm.mem_iff.mp hp
   clear e1 pm k2
   generalize l.drop t++l.take t=L at pl px k1 ⊢
   walk_at "yy"
   rw [if_pos (by omega)]
   rw [dm _ (fun p:Str×D=>aD p.1) (fun p=>p.2) L fun p hp=>e_ rfl (by
    walk_at "yy"
    exact RF h3 (px p hp))]
   walk_at "yy"
   rw [gf]
   walk_at "yy"
   rw [k1]
   rfl
  ·walk_at "yy"
   rw [eP ns (k + 60) (n + 1) (by omega) (by omega)]
   walk_at "yy"
   have:=ur (eQ ns (k + 60) (n + 1)).toNat (by omega)
   rw [dY m0] at this
   exact this
 ·rw [k2]
  exact ((pm.map _).nodup_iff).mpr h3
theorem Ac {α:Type} (b:α->Bool):∀ xs:List α,md (xs.map fun x=>cJ (b x))=some (xs.map b)
 | []=>rfl
 | x::r=>by
  show (md (r.map fun x=>cJ (b x))).map (b x::·)=_
  rw [Ac b r]
  rfl
theorem iP {α:Type} (k:List Bool->Bool) (b:α->Bool) (xs:List α):g9 k (.list (xs.map fun x=>cJ (b x)))=.ok (.bool (k (xs.map b))):=by
 have e:∀ ds,g9 k (.list ds)=match md ds with
  | some bs=>.ok (.bool (k bs))
  | none=>.no:=fun _=>rfl
 rw [e,Ac]
theorem Ml {s s':Sl}{ρ:ap}{gt:ap->R Bool}{ge:ap->R D}{d d' y:D} (h1:gt (.shr d::.shr d'::ρ)=.ok true) (h2:ge (.shr d::.shr d'::ρ)=.ok y):ir 2 (s::s'::ρ) gt ge (.tuple [d,d'])=.ok (some y):=by
 have e:ir 2 (s::s'::ρ) gt ge (.tuple [d,d'])=IB ((gt (.shr d::.shr d'::ρ)).bind fun b=>if b then (ge (.shr d::.shr d'::ρ)).bind fun y=>.ok (some y) else .ok none):=id rfl
 rw [e,h1,bind_ok,if_pos rfl,h2];rfl
theorem Mm (x:Str):pX (.str x)=true:=id rfl
theorem Mn (i:Int):pX (.int i)=true:=id rfl
theorem wU {α:Type} (c:α->D) (h:∀ x,pX (c x)=true):∀ xs:List α,noDs (xs.map c)=true
 | []=>rfl
 | x::r=>by
  show (pX (c x) && noDs (r.map c))=true
  rw [h x,wU c h r];rfl
theorem Mo (xs:List D):pX (.tuple xs)=noDs xs:=id rfl
theorem mw (xs:List Str):pX (bh xs)=true:=by
 rw [Mo]
 exact wU _ (fun _=>rfl) xs
theorem Hh (e:bD):pX (bE e)=true:=by
 have:pX (bE e)=(true && (pX (bh e.needs) && (pX (bh e.bars) && (pX (bh e.makes) && (pX (bh e.ends) && (true && true)))))):=rfl
 rw [this,mw,mw,mw,mw];rfl
theorem Qg (es:List bD):pX (.tuple (es.map bE))=true:=by
 rw [Mo]
 exact wU _ Hh es
theorem OP (fs:List Str) (es:List bD):pX (ev fs es)=true:=by
 have:pX (ev fs es)=(pX (bh fs) && (pX (.tuple (es.map bE)) && true)):=rfl
 rw [this,mw,Qg];rfl
theorem Mp (x:Str):B5 "str" (.str x)=true:=id rfl
theorem y9 (x:List D):B5 "tuple" (.tuple x)=true:=id rfl
theorem RG (x:Int):B5 "int" (.int x)=true:=id rfl
theorem RH (x:Int):B5 "bool" (.int x)=false:=id rfl
theorem OQ:∀ c:_root_.Fin 123,97<=c.val->(!pF ⟨#[c.val]⟩ "a")=true/\(!pF "z" ⟨#[c.val]⟩)=true:=by decide +kernel
theorem Ad {x:Str} (h:xV x=true):nz [.str x]=.ok (.bool true):=by
 have hw:=h
 unfold xV at h
 simp only [aN,decide_eq_true_eq,cB] at h
 obtain ⟨⟨h1,h2⟩,h3⟩:=h
 have hl:x.length=x.cps.size:=rfl
 unfold nz
 refine cq ?_
 unfold qS bF
 walk_at "zz"
 rw [Mm,Mp]
 walk_at "zz"
 rw [if_pos (by omega)]
 walk_at "zz"
 rw [decide_eq_true (by omega)]
 walk_at "zz"
 rw [decide_eq_true (by omega)]
 walk_at "zz"
 unfold mQ
 walk_at "zz"
 rw [if_pos (by rw [ar];omega)]
 rw [dm _ (fun c:Nat=>aD ⟨#[c]⟩) (fun _=>cJ true) x.cps.toList fun c hc=>e_ rfl (by
  obtain ⟨a1,a2⟩:=h3 c hc
  obtain ⟨b1,b2⟩:=OQ ⟨c,by omega⟩ a1
  walk_at "zz"
  simp only at b1 b2
  rw [b1]
  walk_at "zz"
  rw [b2])]
 walk_at "zz"
 rw [iP _ (fun _=>true)]
 walk_at "zz"
 simp
theorem Dk:∀ (xs ys:List Str),ww (xs.map .str) (ys.map .str)=(xs.zip ys).map fun p=>jr [.str p.1,.str p.2]
 | [],_=>rfl
 | _::_,[]=>rfl
 | x::r,y::r'=>by
  show jr [.str x,.str y]::ww (r.map .str) (r'.map .str)=_
  rw [Dk r r']
  rfl
theorem Mq:∀ {l:List Str},(l.Pairwise fun a b=>pF a b=true)->∀ p∈l.zip (l.drop 1),pF p.1 p.2=true
 | [],_,p,hp=>by cases hp
 | [_],_,p,hp=>by cases hp
 | a::b::r,h,p,hp=>by
  obtain ⟨h1,h2⟩:=List.pairwise_cons.mp h
  rcases List.mem_cons.mp hp with z | z
  ·rw [z];exact h1 b al
  ·exact Mq h2 p z
theorem OR (xs:List Str):El (bh xs) (some 1) none=.ok (bh (xs.drop 1)):=by
 have e:El (bh xs) (some 1) none=.ok (.tuple (zi (xs.map .str) (some 1) none)):=rfl
 rw [e]
 cases xs with
 | nil=>rfl
 | cons x r =>
  rw [show (1:Int)=((1:Nat):Int) from rfl,Mk _ 1 (by simp)]
  rfl
theorem vS {xs:List Str} (hw:∀ x∈xs,xV x=true) (up:xs.Pairwise fun a b=>pF a b=true) (hl:xs.length<=6):fv [bh xs]=.ok (.bool true):=by
 unfold fv
 refine cq ?_
 unfold gL bF
 walk_at "zz"
 rw [mw,y9]
 walk_at "zz"
 rw [if_pos (by omega)]
 rw [dm _ (fun x:Str=>aD x) (fun _=>cJ true) xs fun x hx=>e_ rfl (by
  walk_at "zz"
  rw [Ad (hw x hx)])]
 walk_at "zz"
 rw [iP _ (fun _=>true)]
 walk_at "zz"
 rw [show ((xs.map fun _=>true).all id)=true by simp]
 walk_at "zz"
 rw [OR]
 walk_at "zz"
 rw [Dk]
 walk_at "zz"
 rw [if_pos (by simp;omega)]
 rw [dm _ (fun p:Str×Str=>jr [.str p.1,.str p.2]) (fun _=>cJ true) (xs.zip (xs.drop 1)) fun p hp=>Ml rfl (by
  walk_at "zz"
  rw [Mq up p hp])]
 walk_at "zz"
 rw [iP _ (fun _=>true)]
 walk_at "zz"
 simp
theorem iV {fs xs:List Str} (hw:∀ x∈fs,xV x=true) (h:wy fs xs) (hl:xs.length<=6):fg [bh fs,bh xs]=.ok (.bool true):=by
 unfold fg
 refine cq ?_
 unfold mf bF
 walk_at "zz"
 rw [vS (fun x hx=>hw x (h.mem x hx)) h.up hl]
 walk_at "zz"
 rw [if_pos (by omega)]
 rw [dm _ (fun x:Str=>aD x) (fun _=>cJ true) xs fun x hx=>e_ rfl (by
  walk_at "zz"
  rw [qm,decide_eq_true (h.mem x hx)]
  rfl)]
 walk_at "zz"
 rw [iP _ (fun _=>true)]
 walk_at "zz"
 simp
theorem vk {xs ys:List Str} (h:∀ x∈xs,x∉ys) (hl:xs.length<=6):cz [bh xs,bh ys]=.ok (.bool true):=by
 unfold cz
 refine cq ?_
 unfold jl bF
 walk_at "zz"
 rw [if_pos (by omega)]
 rw [dm _ (fun x:Str=>aD x) (fun _=>cJ false) xs fun x hx=>e_ rfl (by
  walk_at "zz"
  rw [qm,decide_eq_false (h x hx)]
  rfl)]
 walk_at "zz"
 rw [iP _ (fun _=>false)]
 walk_at "zz"
 simp
theorem Fs {l i m:Int} (h0:l<=i) (h1:i<=m):o8 [.int i,.int l,.int m]=.ok (.bool true):=by
 unfold o8
 refine cq ?_
 unfold o7 bF
 walk_at "zz"
 rw [Mn,RG]
 walk_at "zz"
 rw [Mn,RH]
 walk_at "zz"
 rw [decide_eq_true h0]
 walk_at "zz"
 rw [decide_eq_true h1]
theorem Bv:∀ (xs fs:List Str),xs.Nodup->(∀ x∈xs,x∈fs)->xs.length<=fs.length
 | [],_,_,_=>cn _
 | x::r,fs,nd,h=>by
  obtain ⟨n1,n2⟩:=List.nodup_cons.mp nd
  have hx:=h x al
  have:=Bv r (fs.erase x) n2 fun y hy=>(List.mem_erase_of_ne fun (z:y=x)=>n1 (z ▸ hy)).mpr (h y (aj _ hy))
  rw [List.length_erase_of_mem hx] at this
  have:0<fs.length:=List.length_pos_of_mem hx
  rw [aW]
  omega
theorem gM {fs xs:List Str} (h:wy fs xs) (hl:fs.length<=6):xs.length<=6:=by
 exact bU (Bv xs fs (ku h.up) h.mem) hl
theorem Vd (a b c d e f g:D):Bg (iu 6 (bC (bc 2) (bC (bc 3) (bC (bc 4) (bC (bc 5) (bC (bc 6) (bC (bc 7) iU))))))) [Sl.shr a,Sl.shr (.tuple [b,c,d,e,f,g]),.no,.no,.no,.no,.no,.no] (.tuple [b,c,d,e,f,g])=.ok (.nx [Sl.shr a,Sl.shr (.tuple [b,c,d,e,f,g]),.shr b,.shr c,.shr d,.shr e,.shr f,.shr g]):=id rfl
theorem Dl {fs:List Str} (hr:OL fs 6) {e:bD} (g:nB fs e):mi [bh fs,bE e]=.ok (.bool true):=by
 have l1:=gM g.needs hr.len
 have l2:=gM g.bars hr.len
 have l3:=gM g.makes hr.len
 have l4:=gM g.ends hr.len
 unfold mi
 refine cq ?_
 unfold mh bF
 walk_at "zz"
 rw [Hh]
 unfold bE
 walk_at "zz"
 rw [y9]
 walk_at "zz"
 rw [kL]
 walk_at "zz"
 rw [show decide (((6:Nat):Int)=6)=true from rfl]
 walk_at "zz"
 rw [Vd]
 ·walk_at "zz"
  rw [Ad g.name]
  walk_at "zz"
  rw [Fs g.p0 g.p9]
  walk_at "zz"
  have pk:=dm (ir 1 [Sl.no,Sl.shr (bh fs)] kT (dC 2 fg (J.aa (rS 1) (J.aa (rS 0) J.aG)))) (fun x:List Str=>bh x) (fun _=>cJ true) [e.needs,e.bars,e.makes,e.ends] fun x hx=>e_ rfl (by
   walk_at "zz"
   simp only [aZ,aQ,or_false] at hx
   rcases hx with z | z | z | z<;>rw [z]
   ·rw [iV hr.ok g.needs l1]
   ·rw [iV hr.ok g.bars l2]
   ·rw [iV hr.ok g.makes l3]
   ·rw [iV hr.ok g.ends l4])
  simp only [aO,dQ] at pk
  rw [pk]
  walk_at "zz"
  rw [show g9 (fun bs=>bs.all id) (.list [.bool true,.bool true,.bool true,.bool true])=.ok (.bool true) from rfl]
  walk_at "zz"
  rw [vk g.nb l1]
  walk_at "zz"
  rw [vk g.me l3]
  walk_at "zz"
theorem Mr (l:List Str) (nd:l.Nodup):(cY [] l).length=l.length:=by
 have h1:=Bv (cY [] l) l (hZ l [] ip) fun x hx=>((i8 l [] x).mp hx).elim (fun h=>nomatch h) id
 have h2:=Bv l (cY [] l) nd fun x hx=>(i8 l [] x).mpr (.inr hx)
 omega
theorem IP (es:List bD) (hl:es.length<=6) (nd:(es.map (·.name)).Nodup) (s:Sl) (ρ:ap) (h:(s::ρ)[2]?=some (.shr (.tuple (es.map bE)))):ue (vh 1 [] (jX (rB 2)) kT (g2 (rB 0) (kI 0) b9)) (s::ρ)=.ok (.int (es.length:Nat)):=by
 have hr:Cz (s::ρ) 2=.ok (.tuple (es.map bE)):=by unfold Cz;rw [h]
 unfold ue vh
 rw [Rj,Rs,hr]
 walk_at "zz"
 rw [if_pos (by omega)]
 rw [dm _ bE (fun e=>aD e.name) es fun e he=>e_ rfl (by
  walk_at "zz"
  rfl)]
 walk_at "zz"
 have:(es.map fun e=>aD e.name)=(es.map (·.name)).map .str:=by rw [dU];rfl
 rw [this,strsOf_map]
 simp only [Bf,Mr _ nd,av]
theorem Ve (b c:D):Bg (iu 2 (bC (bc 1) (bC (bc 2) iU))) [Sl.shr (.tuple [b,c]),.no,.no] (.tuple [b,c])=.ok (.nx [Sl.shr (.tuple [b,c]),.shr b,.shr c]):=id rfl
theorem IQ {fs:List Str}{es:List bD} (g:eG fs es):qU [ev fs es]=.ok (.bool true):=by
 have l1:=g.rise.len
 have l2:=g.len
 unfold qU
 refine cq ?_
 unfold qT bF
 walk_at "zz"
 rw [OP]
 unfold ev
 walk_at "zz"
 rw [y9]
 walk_at "zz"
 rw [kL]
 walk_at "zz"
 rw [show decide (((2:Nat):Int)=2)=true from rfl]
 walk_at "zz"
 rw [Ve]
 walk_at "zz"
 rw [vS g.rise.ok g.rise.up l1]
 walk_at "zz"
 rw [decide_eq_false (by omega)]
 walk_at "zz"
 rw [Qg,y9]
 walk_at "zz"
 rw [decide_eq_false (by omega)]
 walk_at "zz"
 rw [if_pos (by omega)]
 rw [dm _ bE (fun _=>cJ true) es fun e he=>e_ rfl (by
  walk_at "zz"
  rw [Dl g.rise (g.ok e he)])]
 walk_at "zz"
 rw [iP _ (fun _=>true)]
 walk_at "zz"
 rw [show ((es.map fun _=>true).all id)=true by simp]
 walk_at "zz"
 rw [IP es l2 g.nd _ _ rfl]
 walk_at "zz"
 rw [kL,decide_eq_true rfl]
 rfl
theorem oE {fs:List Str}{es:List bD} (g:eG fs es):j0 [ev fs es]=.ok (ev fs es):=by
 unfold j0
 refine cq ?_
 unfold qZ bF
 walk_at "zz"
 rw [IQ g]
 walk_at "zz"
theorem r9 {α:Type} (c:α->D) (h:∀ x,bn (c x) (c x)=true):∀ xs:List α,iL (xs.map c) (xs.map c)=true
 | []=>by simp [iL]
 | x::r=>by simp [iL,h x,r9 c h r]
theorem Ms (xs:List Str):bn (bh xs) (bh xs)=true:=by
 simp only [bn]
 exact r9 _ (fun x=>by rw [ms];simp) xs
theorem yb {α:Type} (c:α->D):∀ xs:List α,(∀ x∈xs,(c x).canLay0=true)->bJ (xs.map c)=true
 | [],_=>rfl
 | x::r,h=>by
  have h1:=h x al
  have h2:=yb c r fun y hy=>h y (aj _ hy)
  simp only [aO,bJ,h1,h2,nN]
theorem rc {α:Type} (c:α->D) (n:Nat) (h:∀ x,(c x).depth<=n):∀ xs:List α,pd (xs.map c)<=n
 | []=>by simp [pd]
 | x::r=>by
  simp only [aO,pd]
  exact Nat.max_le.mpr ⟨h x,rc c n h r⟩
theorem uw {fs xs:List Str} (hf:∀ x∈fs,xV x=true) (h:wy fs xs):bJ (xs.map .str)=true:=nC xs fun x hx=>hf x (h.mem x hx)
theorem Mt {fs:List Str} (hf:∀ x∈fs,xV x=true) {e:bD} (g:nB fs e):(bE e).canLay0=true:=by
 unfold bE
 simp only [dO,bJ]
 have:=uu g.name
 simp only [dO] at this
 rw [uw hf g.needs,uw hf g.bars,uw hf g.makes,uw hf g.ends,this]
 rfl
theorem Dm {i:Nat}{g:ap->R D}{ρ:ap}{ds:List D}{d:D} (hi:ρ[i]?=some (Sl.own (.list ds))) (hg:g ρ=.ok d) (hl:ds.length<1000):qg i g ρ=.ok (.nx (ρ.set i (.own (.list (ds++[d]))))):=by
 unfold qg
 simp only [hi,hg,bind_ok,if_pos hl]
theorem Mu {s s':Sl}{ρ:ap}{gt:ap->R Bool}{ge:ap->R D}{d d' y:D}{b:Bool} (h1:gt (.shr d::.shr d'::ρ)=.ok b) (h2:b=true->ge (.shr d::.shr d'::ρ)=.ok y):ir 2 (s::s'::ρ) gt ge (.tuple [d,d'])=.ok (if b then some y else none):=by
 have e:ir 2 (s::s'::ρ) gt ge (.tuple [d,d'])=IB ((gt (.shr d::.shr d'::ρ)).bind fun b=>if b then (ge (.shr d::.shr d'::ρ)).bind fun y=>.ok (some y) else .ok none):=id rfl
 rw [e,h1,bind_ok]
 cases b with
 | true=>rw [if_pos rfl,h2 rfl];rfl
 | false=>rfl
theorem Ae:∀ (xs:List Str) (n:Nat),(mv n xs).length=xs.length
 | [],_=>rfl
 | x::r,n=>by
  show (mv (n + 1) r).length + 1=r.length + 1
  rw [Ae r]
theorem OS (ns:List Int) (k:Int) (hk:0<=k) (fs:List Str) (hl:fs.length<=6) (m:Int):∃ ss:List Str,oj [.list (ns.map .int),.int k,bh fs,.int m]=.ok (bh ss)/\ss.Sublist fs:=by
 refine ⟨((mv 0 fs).filter fun q=>decide (eQ ns (k + (q.1:Int)) 12<m)).map (·.2),?_,?_⟩
 ·unfold oj
  refine cq ?_
  unfold oh bF
  walk_at "zz"
  rw [wT]
  walk_at "zz"
  rw [if_pos (by rw [Ae];omega)]
  rw [ia _ cI (fun q=>aD q.2) (fun q=>decide (eQ ns (k + (q.1:Int)) 12<m)) (mv 0 fs) fun q hq=>Mu (by
   walk_at "zz"
   rw [eP ns _ 12 (by omega) (by decide)]
   walk_at "zz") fun _=>rfl]
  walk_at "zz"
  rw [gf]
  walk_at "zz"
  unfold bh
  rw [dU]
  rfl
 ·have:=(List.filter_sublist (l:=mv 0 fs) (p:=fun q=>decide (eQ ns (k + (q.1:Int)) 12<m))).map (·.2)
  rw [r6] at this
  exact this
theorem Ft {fs xs:List Str} (up:fs.Pairwise fun a b=>pF a b=true) (h:xs.Sublist fs):wy fs xs:=⟨up.sublist h,fun x hx=>h.subset hx⟩
def Qh (P:ap->Prop) (r:R Fl):Prop:=∃ ρ',r=.ok (.nx ρ')/\P ρ'
theorem Dn {α:Type}{kt:D->ap->R ap}{gb:ap->R Fl} (c:α->D) (p:α->Bool) (out:α->D) (P:ap->Prop):∀ (xs:List α) (ρ:ap),(∀ x∈xs,∀ ρ,P ρ->∃ ρ1,kt (c x) ρ=.ok ρ1/\(p x=true->gb ρ1=.ok (.rt (out x)))/\(p x=false->Qh P (gb ρ1)))->P ρ ->
  (∀ x,xs.find? p=some x->gx kt gb (xs.map c) ρ=.ok (.rt (out x)))/\(xs.find? p=none->Qh P (gx kt gb (xs.map c) ρ))
 | [],ρ,_,q=>⟨fun x h=>(nomatch h),fun _=>⟨ρ,rfl,q⟩⟩
 | x::r,ρ,h,q=>by
  obtain ⟨ρ1,h1,h2,h3⟩:=h x al ρ q
  rw [aO,dB]
  unfold gx
  rw [h1]
  cases hp:p x with
  | true =>
   refine ⟨fun y hy=>?_,fun hn=>nomatch hn⟩
   cases hy
   simp only [h2 hp]
  | false =>
   obtain ⟨ρ2,h4,h5⟩:=h3 hp
   simp only [h4]
   exact Dn c p out P r ρ2 (fun y hy=>h y (aj _ hy)) h5
structure jn (fs m b:List Str):Prop where
 must:wy fs m
 bars:wy fs b
 mb:∀ x∈m,x∉b
abbrev i3 (m b:List Str):D:=.tuple [bh m,bh b]
theorem Hi (p:List Str) (x:Str):p.map aD++[aD x]=(p++[x]).map .str:=by simp
theorem OT (ns:List Int) (k:Int) (hk:0<=k) (fs:List Str) (up:fs.Pairwise fun a b=>pF a b=true) (hl:fs.length<=6):∃ m b,sC [.list (ns.map .int),.int k,bh fs]=.ok (i3 m b)/\jn fs m b:=by
 have nd:=ku up
 suffices H:∃ p q,lG (bF 8 [.list (ns.map .int),.int k,bh fs])=.ok (.rt (i3 p q))/\mU fs p q by
  obtain ⟨p,q,h1,h2⟩:=H
  exact ⟨p,q,cq h1,Ft up h2.sp,Ft up h2.sq,h2.d⟩
 unfold lG bF
 walk_at "yy"
 rw [nu (ds:=(mv 0 fs).map cI)]
 ·have H:=ql cI (fun (a:Unit) (_:Nat×Str)=>a) (fun bY _ ρ=>∃ pre,pre++bY.map (·.2)=fs/\∃ p q,mU pre p q/\∃ z5 z6 z7,ρ=[.shr (.list (ns.map .int)),.shr (.int k),.shr (bh fs),.own (.list (p.map .str)),.own (.list (q.map .str)),z5,z6,z7]) (kt:=iu 2 (bC (bc 5) (bC (bc 6) iU))) (gb:=aS (fJ 7 (dC 3 ba (J.aa (rS 0) (J.aa (g2 (rB 1) (rB 5) dk) (J.aa (kI 8) J.aG))))) (dX (fE (g2 (rB 7) (kI 2) F8)) (qg 3 (rS 6)) (dX (fE (g2 (rB 7) (kI 2) (lA false))) (qg 4 (rS 6)) (fun ρ=>.ok (.nx ρ)))))
  obtain ⟨ρ',h1,pre,h2,p,q,h3,z5,z6,z7,h4⟩:=H (by
   rintro ⟨i,x⟩ bY _ ρ ⟨pre,h2,p,q,h3,z5,z6,z7,rfl⟩
   have hx:x∉pre:=by
    rw [<- h2,aO] at nd
    have:=(List.nodup_append.mp nd).2.2
    intro hx
    exact this x hx x al rfl
   have hpl:pre.length<900:=by
    have:=congrArg n8 h2
    rw [aH] at this
    omega
   have lp:=h3.sp.length_le
   have lq:=h3.sq.length_le
   refine ⟨[.shr (.list (ns.map .int)),.shr (.int k),.shr (bh fs),.own (.list (p.map .str)),.own (.list (q.map .str)),.shr (.int (i:Nat)),.shr (.str x),z7],?_⟩
   by_cases c1:eQ ns (k + (i:Nat)) 8<2
   ·refine ⟨[.shr (.list (ns.map .int)),.shr (.int k),.shr (bh fs),.own (.list ((p++[x]).map .str)),.own (.list (q.map .str)),.shr (.int (i:Nat)),.shr (.str x),.shr (.int (eQ ns (k + (i:Nat)) 8))],rfl,?_,pre++[x],by rw [<- h2];simp,_,_,h3.left x hx,_,_,_,rfl⟩
    walk_at "zz"
    rw [eP ns _ 8 (by omega) (by decide)]
    walk_at "zz"
    rw [decide_eq_true c1]
    walk_at "zz"
    rw [<- Hi]
    exact Dm (ds:=p.map .str) rfl rfl (by rw [av];omega)
   ·by_cases c2:eQ ns (k + (i:Nat)) 8=2
    ·refine ⟨[.shr (.list (ns.map .int)),.shr (.int k),.shr (bh fs),.own (.list (p.map .str)),.own (.list ((q++[x]).map .str)),.shr (.int (i:Nat)),.shr (.str x),.shr (.int (eQ ns (k + (i:Nat)) 8))],rfl,?_,pre++[x],by rw [<- h2];simp,_,_,h3.right x hx,_,_,_,rfl⟩
     walk_at "zz"
     rw [eP ns _ 8 (by omega) (by decide)]
     walk_at "zz"
     rw [decide_eq_false c1]
     walk_at "zz"
     rw [kL]
     walk_at "zz"
     rw [decide_eq_true c2]
     walk_at "zz"
     rw [<- Hi]
     exact Dm (ds:=q.map .str) rfl rfl (by rw [av];omega)
    ·refine ⟨[.shr (.list (ns.map .int)),.shr (.int k),.shr (bh fs),.own (.list (p.map .str)),.own (.list (q.map .str)),.shr (.int (i:Nat)),.shr (.str x),.shr (.int (eQ ns (k + (i:Nat)) 8))],rfl,?_,pre++[x],by rw [<- h2];simp,_,_,h3.skip x,_,_,_,rfl⟩
     walk_at "zz"
     rw [eP ns _ 8 (by omega) (by decide)]
     walk_at "zz"
     rw [decide_eq_false c1]
     walk_at "zz"
     rw [kL]
     walk_at "zz"
     rw [decide_eq_false c2]
     walk_at "zz") (mv 0 fs) () [.shr (.list (ns.map .int)),.shr (.int k),.shr (bh fs),.own (.list []),.own (.list []),.no,.no,.no] ⟨[],by rw [r6];rfl,[],[],⟨eF _,eF _,fun _ h=>nomatch h⟩,_,_,_,rfl⟩
  refine ⟨p,q,?_,?_⟩
  ·rw [h1,h4]
   walk_at "zz"
   rw [gf]
   walk_at "zz"
   rw [gf]
   walk_at "zz"
  ·simp only [dQ,cA] at h2
   rw [<- h2];exact h3
 ·walk_at "zz"
  rw [wT]
theorem RI (j:Int) (h0:0<=j) (h1:j<2):∃ m:Int,b9 (.list [.int 2,.int 4]) (.int j)=.ok (.int m):=by
 have:j=0\/j=1:=by omega
 rcases this with h | h<;>subst h
 ·exact ⟨2,rfl⟩
 ·exact ⟨4,rfl⟩
theorem Mv (fs:List Str) (es:List bD):b9 (ev fs es) (.int 0)=.ok (bh fs):=id rfl
theorem TD (fs:List Str) (es:List bD):b9 (ev fs es) (.int 1)=.ok (.tuple (es.map bE)):=id rfl
theorem OU (ns:List Int) (m n:Int) (hm0:0<=m) (hm:m<=6) (hn0:0<=n) (hn:n<=6):∃ fs es ss wm wb,ou [.list (ns.map .int),.int m,.int n]=.ok (.tuple [ev fs es,bh ss,i3 wm wb])/\eG fs es/\wy fs ss/\jn fs wm wb:=by
 obtain ⟨fs,es,hb,gb⟩:=OO ns 100 (by decide) m n hm0 hm hn0 hn
 obtain ⟨pt,hp⟩:=RI (eQ ns 97 2) (eN _ _ _ (by decide)) (fF _ _ _ (by decide))
 obtain ⟨ss,hs,gs⟩:=OS ns 20 (by decide) fs gb.rise.len pt
 obtain ⟨wm,wb,hw,gw⟩:=OT ns 30 (by decide) fs gb.rise.up gb.rise.len
 refine ⟨fs,es,ss,wm,wb,?_,gb,Ft gb.rise.up gs,gw⟩
 unfold ou
 refine cq ?_
 unfold oq bF
 walk_at "zz"
 rw [hb]
 walk_at "zz"
 rw [Mv]
 walk_at "zz"
 rw [eP ns 97 2 (by decide) (by decide)]
 walk_at "zz"
 rw [hp]
 walk_at "zz"
 rw [hs]
 walk_at "zz"
 rw [Mv]
 walk_at "zz"
 rw [hw]
 walk_at "zz"
theorem ux {xs ys:List Str} (hl:xs.length<=60):cz [bh xs,bh ys]=.ok (.bool (!xs.any fun x=>decide (x∈ys))):=by
 unfold cz
 refine cq ?_
 unfold jl bF
 walk_at "zz"
 rw [if_pos (by omega)]
 rw [dm _ (fun x:Str=>aD x) (fun x=>cJ (decide (x∈ys))) xs fun x hx=>e_ rfl (by
  walk_at "zz"
  rw [qm]
  rfl)]
 walk_at "zz"
 rw [iP _ (fun x=>decide (x∈ys))]
 walk_at "zz"
 rw [Ei]
 rfl
theorem Mw (neg:Bool) (e:bD):B4 neg (bE e) .none=.ok (.bool neg):=by cases neg<;>rfl
theorem TF (neg:Bool):B4 neg .none .none=.ok (.bool (!neg)):=by cases neg<;>rfl
theorem OV (e:bD):b9 (bE e) (.int 0)=.ok (.str e.name):=id rfl
theorem Vf (e:bD):b9 (bE e) (.int 3)=.ok (bh e.makes):=id rfl
theorem TH (e:bD):b9 (bE e) (.int 4)=.ok (bh e.ends):=id rfl
theorem Qi (e:bD):El (bE e) (some 1) (some 3)=.ok (i3 e.needs e.bars):=id rfl
theorem TJ (e:bD):El (bE e) (some 3) (some 5)=.ok (i3 e.makes e.ends):=id rfl
theorem qJ {xs:List D}{j:Nat}{v:D} (h:xs[j]?=some v):b9 (.list xs) (.int (j:Nat))=.ok v:=by
 have e:b9 (.list xs) (.int (j:Nat))=CH (.list xs) (.int (j:Nat)):=rfl
 rw [e]
 unfold CH
 simp only [tW h]
def TK:R D->Bool
 | .ok (.bool b)=>b
 | _=>false
theorem OW {r:R D} (h:TK r=true):r=.ok (.bool true):=by
 unfold TK at h
 split at h
 ·rw [h]
 ·cases h
theorem Vg (a x y z:D) (r:ap):Bg (iu 3 (bC (bc 1) (bC (bc 2) (bC (bc 3) iU)))) (Sl.shr a::.no::.no::.no::r) (.tuple [x,y,z])=.ok (.nx (.shr a::.shr x::.shr y::.shr z::r)):=id rfl
def cF (st a b:List Str):Bool:=(a.all fun x=>decide (x∈st)) && !b.any fun x=>decide (x∈st)
theorem Vh (m b:List Str):b9 (i3 m b) (.int 0)=.ok (bh m):=id rfl
theorem Vi (m b:List Str):b9 (i3 m b) (.int 1)=.ok (bh b):=id rfl
theorem OX {st a b:List Str} (ha:a.length<=60) (hb:b.length<=60):oz [bh st,i3 a b]=.ok (.bool (cF st a b)):=by
 unfold oz
 refine cq ?_
 unfold oy bF
 walk_at "zz"
 rw [Vh]
 walk_at "zz"
 rw [if_pos (by omega)]
 rw [dm _ (fun x:Str=>aD x) (fun x=>cJ (decide (x∈st))) a fun x hx=>e_ rfl (by
  walk_at "zz"
  rw [qm]
  rfl)]
 walk_at "zz"
 rw [iP _ (fun x=>decide (x∈st))]
 walk_at "zz"
 rw [Vi]
 walk_at "zz"
 rw [if_pos (by omega)]
 rw [dm _ (fun x:Str=>aD x) (fun x=>cJ (decide (x∈st))) b fun x hx=>e_ rfl (by
  walk_at "zz"
  rw [qm]
  rfl)]
 walk_at "zz"
 rw [iP _ (fun x=>decide (x∈st))]
 walk_at "zz"
 unfold cF
 rw [pB,Ei]
 have e:(id∘fun x=>decide (x∈st))=fun x=>decide (x∈st):=rfl
 rw [e]
 cases (a.all fun x=>decide (x∈st))<;>rfl
theorem Fu {n:Nat}{g:ap->R Fl}{ds:List D}{ρ:ap} (h:g (bF n ds)=.ok (.nx ρ)):eL n g ds=.ok .none:=by unfold eL;rw [h]
theorem TL (a x y:D):Bg (iu 2 (bC (bc 2) (bC (bc 3) iU))) [Sl.shr a,.shr (.tuple [x,y]),.no,.no] (.tuple [x,y])=.ok (.nx [.shr a,.shr (.tuple [x,y]),.shr x,.shr y]):=id rfl
theorem Fv {st a b:List Str} (ha:a.length<=60) (hb:b.length<=60):qY [bh st,i3 a b]=.ok (.bool (cF st a b)):=by
 unfold qY
 refine cq ?_
 unfold qX bF i3
 walk_at "zz"
 rw [TL]
 walk_at "zz"
 rw [if_pos (by omega)]
 rw [dm _ (fun x:Str=>aD x) (fun x=>cJ (decide (x∈st))) a fun x hx=>e_ rfl (by
  walk_at "zz"
  rw [qm]
  rfl)]
 walk_at "zz"
 rw [iP _ (fun x=>decide (x∈st))]
 walk_at "zz"
 rw [ux (by omega)]
 unfold cF
 rw [pB]
 have e:(id∘fun x=>decide (x∈st))=fun x=>decide (x∈st):=rfl
 rw [e]
 cases (a.all fun x=>decide (x∈st))<;>rfl
theorem IR {fs ss:List Str}{es:List bD} (g:eG fs es) (h:wy fs ss):j_ [ev fs es,bh ss]=.ok .none:=by
 unfold j_
 refine Fu (ρ:=[.shr (ev fs es),.shr (bh ss)]) ?_
 unfold jZ bF
 walk_at "zz"
 rw [Mv]
 walk_at "zz"
 rw [iV g.rise.ok h (gM h g.rise.len)]
 walk_at "zz"
theorem Mx {fs ss:List Str}{es:List bD} (g:eG fs es) (h:wy fs ss):k8 [ev fs es,bh ss]=.ok .none:=by
 unfold k8
 refine Fu (ρ:=[.shr (ev fs es),.shr (bh ss)]) ?_
 unfold k7 bF
 walk_at "zz"
 rw [oE g]
 walk_at "zz"
 rw [IR g h]
 walk_at "zz"
theorem My {fs:List Str}{es:List bD}{x y:D}{p q r:Bool} (n:pX (.tuple [x,y])=true) (hx:fg [bh fs,x]=.ok (.bool p)) (hy:p=true->fg [bh fs,y]=.ok (.bool q)) (hs:p=true->q=true->cz [x,y]=.ok (.bool r)):qW [ev fs es,.tuple [x,y]]=.ok (.bool (p && (q && r))):=by
 unfold qW
 refine cq ?_
 unfold qV bF
 walk_at "zz"
 rw [n,y9]
 walk_at "zz"
 rw [kL]
 walk_at "zz"
 rw [show decide (((2:Nat):Int)=2)=true from rfl]
 walk_at "zz"
 rw [TL]
 walk_at "zz"
 rw [Mv]
 walk_at "zz"
 rw [hx]
 cases p with
 | false=>rfl
 | true =>
  walk_at "zz"
  rw [Mv]
  walk_at "zz"
  rw [hy rfl]
  cases q with
  | false=>rfl
  | true =>
   walk_at "zz"
   rw [hs rfl rfl]
   cases r<;>rfl
theorem Mz {fs m b:List Str}{es:List bD} (g:eG fs es) (h:jn fs m b):kX [ev fs es,i3 m b]=.ok .none:=by
 have n:pX (i3 m b)=true:=by
  have:pX (i3 m b)=(pX (bh m) && (pX (bh b) && true)):=rfl
  rw [this,mw,mw];rfl
 have l1:=gM h.must g.rise.len
 have l2:=gM h.bars g.rise.len
 unfold kX
 refine Fu (ρ:=[.shr (ev fs es),.shr (i3 m b)]) ?_
 unfold kW bF
 walk_at "zz"
 rw [My n (iV g.rise.ok h.must l1) (fun _=>iV g.rise.ok h.bars l2) (fun _ _=>vk h.mb l1)]
 walk_at "zz"
 rfl
theorem MA (xs:List D):jY (.tuple xs)=.ok (.list xs):=id rfl
def uy (es:List bD) (nm:Str):Option bD:=es.find? fun e=>decide (e.name=nm)
def OY:Option bD->D
 | none=>.none
 | some e=>bE e
theorem rf {fs:List Str}{es:List bD} (g:eG fs es) {nm:Str} (hn:xV nm=true):eO [ev fs es,.str nm]=.ok (OY (uy es nm)):=by
 unfold eO
 refine cq ?_
 unfold iN bF
 walk_at "zz"
 rw [Mm,Mp]
 walk_at "zz"
 rw [nu (ds:=es.map bE)]
 ·obtain ⟨h1,h2⟩:=Dn bE (fun e=>decide (e.name=nm)) bE (fun ρ=>∃ z,ρ=[Sl.shr (ev fs es),.shr (.str nm),z]) (kt:=bc 2) (gb:=dX (fE (g2 (g2 (rB 2) (kI 0) b9) (rB 1) (lA false))) (cG (rS 2)) (fun ρ=>.ok (.nx ρ))) es [Sl.shr (ev fs es),.shr (.str nm),.no] (by
   rintro e he ρ ⟨z,rfl⟩
   refine ⟨[.shr (ev fs es),.shr (.str nm),.shr (bE e)],rfl,fun hp=>?_,fun hp=>⟨[.shr (ev fs es),.shr (.str nm),.shr (bE e)],?_,_,rfl⟩⟩
   ·walk_at "zz"
    rw [OV]
    walk_at "zz"
    rw [Bu false (g.ok e he).name hn]
    walk_at "zz"
    rw [hp]
    walk_at "zz"
   ·walk_at "zz"
    rw [OV]
    walk_at "zz"
    rw [Bu false (g.ok e he).name hn]
    walk_at "zz"
    rw [hp]
    walk_at "zz") ⟨_,rfl⟩
  cases hf:es.find? (fun e=>decide (e.name=nm)) with
  | some e =>
   rw [h1 e hf]
   walk_at "zz"
   unfold uy
   rw [hf]
   rfl
  | none =>
   obtain ⟨ρ',e1,z,rfl⟩:=h2 hf
   rw [e1]
   walk_at "zz"
   unfold uy
   rw [hf]
   rfl
 ·walk_at "zz"
  rw [TD]
  walk_at "zz"
theorem lH:∀ {es:List bD},(es.map (·.name)).Nodup->∀ {e:bD},e∈es->uy es e.name=some e
 | x::r,nd,e,he=>by
  obtain ⟨n1,n2⟩:=List.nodup_cons.mp nd
  unfold uy
  rw [dB]
  rcases List.mem_cons.mp he with h | h
  ·subst h;simp
  ·have:x.name≠e.name:=fun z=>n1 (by show x.name∈_;rw [z];exact iK h)
   rw [decide_eq_false this]
   exact lH n2 h
structure uz (e:bD):Prop where
 needs:e.needs.length<=6
 bars:e.bars.length<=6
 makes:e.makes.length<=6
 ends:e.ends.length<=6
theorem kw {fs:List Str}{es:List bD} (g:eG fs es) {e:bD} (he:e∈es):uz e :=
 ⟨gM (g.ok e he).needs g.rise.len,gM (g.ok e he).bars g.rise.len,gM (g.ok e he).makes g.rise.len,gM (g.ok e he).ends g.rise.len⟩
theorem Vj (e:bD):b9 (bE e) (.int 1)=.ok (bh e.needs):=id rfl
theorem Vk (e:bD):b9 (bE e) (.int 2)=.ok (bh e.bars):=id rfl
def Do (e:bD) (st:List Str):Option (List Str):=if cF st e.needs e.bars then some (tF ((st.filter fun x=>!decide (x∈e.ends))++e.makes)) else none
def TM:Option (List Str)->D
 | none=>.none
 | some s=>bh s
theorem Hj {e:bD} (he:uz e) {st:List Str} (hs:st.length<=30):i0 [bE e,bh st]=.ok (TM (Do e st)):=by
 have:=he.needs
 have:=he.bars
 have:=he.makes
 unfold i0
 refine cq ?_
 unfold oA bF
 walk_at "zz"
 rw [Qi]
 walk_at "zz"
 rw [OX (by omega) (by omega)]
 walk_at "zz"
 unfold Do
 cases hg:cF st e.needs e.bars with
 | false =>
  walk_at "zz"
  rfl
 | true =>
  walk_at "zz"
  rw [if_pos (by omega)]
  rw [ia _ (fun x:Str=>aD x) (fun x=>aD x) (fun x=>!decide (x∈e.ends)) st fun x hx=>ug (by
   walk_at "zz"
   rw [TH]
   walk_at "zz"
   rw [qm]
   rfl) fun _=>rfl]
  have hf:(st.filter fun x=>!decide (x∈e.ends)).length<=st.length:=kh _ _
  walk_at "zz"
  rw [vj,Hf]
  walk_at "zz"
  rw [Vf]
  walk_at "zz"
  rw [MA]
  walk_at "zz"
  rw [if_pos (by omega)]
  walk_at "zz"
  rw [<- bN,x_ _ (by rw [aH];omega)]
  walk_at "zz"
  rw [y0 _ (by have:=eX ((st.filter fun x=>!decide (x∈e.ends))++e.makes) [];simp only [c7,aH] at this;omega)]
  walk_at "zz"
  rw [gf]
  rfl
theorem Bw:∀ {a b:List Str},(a.Pairwise fun x y=>pF x y=true)->(b.Pairwise fun x y=>pF x y=true)->(∀ x,x∈a↔x∈b)->a=b:=by
 intro a b ha hb h
 have na:=ku ha
 have nb:=ku hb
 have p:a.Perm b:=(m7 na nb).mpr h
 exact p.eq_of_pairwise (fun x y _ _ h1 h2=>by
  have:=qN h1 h2
  rw [sj] at this
  cases this) ha hb
def bW (e:bD) (st:List Str):List Str:=tF ((st.filter fun x=>!decide (x∈e.ends))++e.makes)
theorem iW {e:bD}{st:List Str}{x:Str}:x∈bW e st↔(x∈st/\x∉e.ends)\/x∈e.makes:=by
 unfold bW
 rw [iO]
 simp [yQ]
theorem IS (e:bD) (st:List Str):Do e st=if cF st e.needs e.bars then some (bW e st) else none:=rfl
theorem Dp {xs:List Str} (h:∀ x∈xs,xV x=true) (neg:Bool):lA neg (bh xs) (bh xs)=.ok (.bool (!neg)):=by
 unfold lA
 have h1:(bh xs).canLay0=true:=by simp only [dO];exact nC xs h
 have h2:(bh xs).depth<=60:=by
  have:=rc aD 0 (fun x=>by simp [oX]) xs
  simp only [oX]
  omega
 rw [h1,Ms,decide_eq_true (bU (Nat.min_le_left _ _) h2)]
 cases neg<;>rfl
theorem TQ (ga gb:ap->R (List Str)) (s:Sl) (ρ:ap) {xs ys:List Str} (h1:ga (s::ρ)=.ok xs) (h2:gb (s::ρ)=.ok ys) (hl:xs.length + ys.length<=15):M1 ga gb (s::ρ)=.ok (cY xs ys):=by
 unfold M1 J.Rl
 rw [h1,bind_ok,h2,bind_ok,if_pos hl]
theorem Af (ss:List Str) (h:ss.length<60):su (bh ss)=.ok (cY [] ss):=by
 have e:∀ ds,su (.tuple ds)=match gd ds with
  | some ss=>if ss.length<60 then .ok (cY [] ss) else .no
  | none=>.no:=fun _=>rfl
 rw [e,strsOf_map]
 simp only [if_pos h]
theorem RJ (xs ys:List Str):jj (cY (cY [] xs) (cY [] ys))=tF (xs++ys):=by
 refine Bw (v7 (pW _) ((f_ _).nodup_iff.mpr (hZ _ _ (hZ _ [] ip)))) (xX _) fun x=>?_
 rw [(f_ _).mem_iff,i8,i8,i8,iO,pL]
 simp
theorem vm {xs ys:List Str} (h:xs.length + ys.length<=12):ny [bh xs,bh ys]=.ok (bh (tF (xs++ys))):=by
 have l1:=eX xs []
 have l2:=eX ys []
 simp only [c7] at l1 l2
 have l3:=eX (cY [] ys) (cY [] xs)
 unfold ny
 refine cq ?_
 unfold uh bF
 walk_at "zz"
 rw [vj,TQ _ _ _ _ (Af xs (by omega)) (Af ys (by omega)) (by omega)]
 walk_at "zz"
 rw [y0 _ (by omega),RJ]
 walk_at "zz"
 rw [gf]
 walk_at "zz"
theorem yc {xs ys:List Str} (h:xs.length<=60):jJ [bh xs,bh ys]=.ok (bh (xs.filter fun x=>!decide (x∈ys))):=by
 unfold jJ
 refine cq ?_
 unfold qR bF
 walk_at "zz"
 rw [if_pos (by omega)]
 rw [ia _ (fun x:Str=>aD x) (fun x=>aD x) (fun x=>!decide (x∈ys)) xs fun x hx=>ug (by
  walk_at "zz"
  rw [qm]
  rfl) fun _=>rfl]
 walk_at "zz"
 rw [gf]
 walk_at "zz"
theorem TU {i j:Nat}{gs:ap->R (List D)}{s:Sl}{ρ:ap}{d e:D} (h:gs (s::ρ)=.ok [d,e]):M2 i j gs (s::ρ)=.ok (.nx (((s::ρ).set i (.shr d)).set j (.shr e))):=by
 unfold M2
 rw [h]
 rfl
theorem IT {e:bD} (he:uz e) {st:List Str} (hs:st.length<=6):fz [bE e,bh st]=.ok (bh (bW e st)):=by
 have:=he.makes
 have hf:(st.filter fun x=>!decide (x∈e.ends)).length<=st.length:=kh _ _
 unfold fz
 refine cq ?_
 unfold jm bF
 walk_at "zz"
 rw [TU (d:=bh e.makes) (e:=bh e.ends) rfl]
 walk_at "zz"
 rw [yc (by omega)]
 walk_at "zz"
 rw [vm (by omega)]
 rfl
theorem Ag {e:bD} (he:uz e) {st:List Str}:h_ [bE e,bh st]=.ok (.bool (cF st e.needs e.bars)):=by
 have:=he.needs
 have:=he.bars
 unfold h_
 refine cq ?_
 unfold mj bF
 walk_at "zz"
 rw [Vj]
 walk_at "zz"
 rw [Vk]
 walk_at "zz"
 rw [Fv (by omega) (by omega)]
 walk_at "zz"
def jM:List bD->List Str->Option (List Str)
 | [],st=>some st
 | e::r,st=>if cF st e.needs e.bars then jM r (bW e st) else none
def jN:List bD->List Str->List (List Str)
 | [],st=>[st]
 | e::r,st=>if cF st e.needs e.bars then st::jN r (bW e st) else [st]
def oF (st m b:List Str) (rs:List bD):Bool:=match jM rs st with
 | some s=>cF s m b
 | none=>false
theorem sD {fs st:List Str}{e:bD} (hf:fs.Pairwise fun a b=>pF a b=true) (g:nB fs e) (h:wy fs st):wy fs (bW e st):=by
 refine ⟨xX _,fun x hx=>?_⟩
 rcases iW.mp hx with z | z
 ·exact h.mem x z.1
 ·exact g.makes.mem x z
theorem IU:∀ (rs:List bD) (st:List Str),(jN rs st).length<=rs.length + 1
 | [],_=>ao _
 | e::r,st=>by
  unfold jN
  split
  ·have:=IU r (bW e st)
   simp only [aW]
   omega
  ·simp
theorem Ah:∀ (rs:List bD) (st:List Str),decide (((rs.length:Nat):Int)<((jN rs st).length:Nat))=(jM rs st).isSome
 | [],_=>rfl
 | e::r,st=>by
  unfold jN jM
  cases cF st e.needs e.bars with
  | true =>
   rw [if_pos rfl,if_pos rfl,<- Ah r]
   simp only [aW]
   congr 1
   simp only [eq_iff_iff]
   omega
  | false =>
   rw [if_neg a_,if_neg a_]
   simp only [aW,c7]
   exact decide_eq_false (by omega)
theorem yd:∀ (rs:List bD) (st s:List Str),jM rs st=some s->∃ pre,jN rs st=pre++[s]
 | [],st,s,h=>by cases h;exact ⟨[],rfl⟩
 | e::r,st,s,h=>by
  unfold jM at h
  unfold jN
  cases hg:cF st e.needs e.bars with
  | true =>
   rw [hg,if_pos rfl] at h
   rw [if_pos rfl]
   obtain ⟨pre,hp⟩:=yd r _ _ h
   exact ⟨st::pre,by rw [hp];rfl⟩
  | false=>rw [hg] at h;cases h
theorem Bx (xs:List D) (x:D):b9 (.list (xs++[x])) (.int (-1))=.ok x:=by
 have e:b9 (.list (xs++[x])) (.int (-1))=CH (.list (xs++[x])) (.int (-1)):=rfl
 rw [e]
 unfold CH
 have:Ca (xs++[x]) (-1)=some x:=by
  unfold Ca Pm
  rw [if_neg (by decide),if_pos (by simp only [aH,aW,c7];omega)]
  have hj:(-1 + ((xs++[x]).length:Int)).toNat=xs.length:=by simp only [aH,aW,c7];omega
  simp only [nM,hj]
  rw [aU (ao _)]
  simp
 simp only [this]
theorem MB {i:Nat}{kt:D->ap->R ap}{gb:ap->R Fl}{ρ:ap}{d:D} (h:ρ[i]?=some (Sl.shr d)):vQ i kt gb ρ=nq (jX fun ρ=>Ek ρ i) kt gb ρ:=by
 unfold vQ
 rw [h]
structure JM (es rs:List bD):Prop where
 mem:∀ e∈rs,e∈es
 len:rs.length<=20
abbrev dD (rs:List bD):D:=.list (rs.map fun e=>aD e.name)
theorem MC (rs:List bD):noDs (rs.map fun e=>aD e.name)=true:=wU _ (fun _=>rfl) rs
theorem MD {fs:List Str}{es rs:List bD} (g:eG fs es) (h:JM es rs):uj [ev fs es,dD rs]=.ok (.bool true):=by
 have hl:=h.len
 unfold uj
 refine cq ?_
 unfold ui bF
 walk_at "zz"
 rw [show pX (dD rs)=true from MC rs,show B5 "list" (dD rs)=true from rfl]
 walk_at "zz"
 rw [decide_eq_false (by omega)]
 walk_at "zz"
 rw [if_pos (by omega)]
 rw [dm _ (fun e:bD=>aD e.name) (fun _=>cJ true) rs fun e he=>e_ rfl (by
  walk_at "zz"
  rw [rf g (g.ok e (h.mem e he)).name,lH g.nd (h.mem e he)]
  simp only [OY]
  walk_at "zz"
  rw [Mw])]
 walk_at "zz"
 rw [iP _ (fun _=>true)]
 walk_at "zz"
 simp
theorem sF {fs:List Str}{es rs:List bD} (g:eG fs es) (h:JM es rs):fU [ev fs es,dD rs]=.ok (.list (rs.map bE)):=by
 have hl:=h.len
 unfold fU
 refine cq ?_
 unfold kY bF
 walk_at "zz"
 rw [MD g h]
 walk_at "zz"
 rw [if_pos (by omega)]
 rw [dm _ (fun e:bD=>aD e.name) bE rs fun e he=>e_ rfl (by
  walk_at "zz"
  rw [rf g (g.ok e (h.mem e he)).name,lH g.nd (h.mem e he)]
  rfl)]
 walk_at "zz"
theorem uA:Rc (.int 1)=.ok (.int (-1)):=rfl
theorem Dq (g:ap->R D) (s:Sl) (ρ:ap):vg g (s::ρ)=(g (s::ρ)).bind Rc:=id rfl
theorem oG {kt:D->ap->R ap}{gb:ap->R Fl}{d:D}{r:List D}{ρ ρ1 ρ2:ap} (h1:kt d ρ=.ok ρ1) (h2:gb ρ1=.ok (.nx ρ2)):gx kt gb (d::r) ρ=gx kt gb r ρ2:=by
 rw [gx,h1]
 simp only [h2]
theorem By {kt:D->ap->R ap}{gb:ap->R Fl}{d x:D}{r:List D}{ρ ρ1:ap} (h1:kt d ρ=.ok ρ1) (h2:gb ρ1=.ok (.rt x)):gx kt gb (d::r) ρ=.ok (.rt x):=by
 rw [gx,h1]
 simp only [h2]
theorem vT {fs:List Str}{es:List bD} (g:eG fs es) (A B:D):∀ (rs:List bD) (pre:List (List Str)) (st:List Str) (z:Sl),(∀ e∈rs,e∈es)->wy fs st->pre.length + rs.length<=100 ->
  (∃ z',gx (bc 3) (aS (dX (gY (fE (dC 2 h_ (J.aa (rS 3) (J.aa (g2 (rB 2) (vg (kI 1)) b9) J.aG))))) (cG (rS 2)) (fun ρ=>.ok (.nx ρ))) (qg 2 (dC 2 fz (J.aa (rS 3) (J.aa (g2 (rB 2) (vg (kI 1)) b9) J.aG))))) (rs.map bE) [.shr A,.shr B,.own (.list ((pre++[st]).map bh)),z]=.ok (.nx [.shr A,.shr B,.own (.list ((pre++jN rs st).map bh)),z'])) \/
  gx (bc 3) (aS (dX (gY (fE (dC 2 h_ (J.aa (rS 3) (J.aa (g2 (rB 2) (vg (kI 1)) b9) J.aG))))) (cG (rS 2)) (fun ρ=>.ok (.nx ρ))) (qg 2 (dC 2 fz (J.aa (rS 3) (J.aa (g2 (rB 2) (vg (kI 1)) b9) J.aG))))) (rs.map bE) [.shr A,.shr B,.own (.list ((pre++[st]).map bh)),z]=.ok (.rt (.list ((pre++jN rs st).map bh)))
 | [],pre,st,z,_,_,_=>.inl ⟨z,rfl⟩
 | e::r,pre,st,z,hm,hs,hl=>by
  have he:=hm e al
  have sh:=kw g he
  simp only [aW] at hl
  have hix:b9 (.list ((pre++[st]).map bh)) (.int (-1))=.ok (bh st):=by
   rw [bN]
   exact Bx _ _
  unfold jN
  cases hg:cF st e.needs e.bars with
  | true =>
   rw [if_pos rfl]
   have e2:pre++st::jN r (bW e st)=(pre++[st])++jN r (bW e st):=by simp
   rw [e2,aO]
   have hb:=vT g A B r (pre++[st]) (bW e st) (.shr (bE e)) (fun x hx=>hm x (aj _ hx)) (sD g.rise.up (g.ok e he) hs) (by rw [aH];simp only [aW,c7];omega)
   have hbody:(aS (dX (gY (fE (dC 2 h_ (J.aa (rS 3) (J.aa (g2 (rB 2) (vg (kI 1)) b9) J.aG))))) (cG (rS 2)) (fun ρ=>.ok (.nx ρ))) (qg 2 (dC 2 fz (J.aa (rS 3) (J.aa (g2 (rB 2) (vg (kI 1)) b9) J.aG))))) [.shr A,.shr B,.own (.list ((pre++[st]).map bh)),.shr (bE e)]=.ok (.nx [.shr A,.shr B,.own (.list ((pre++[st]++[bW e st]).map bh)),.shr (bE e)]):=by
    walk_at "zz"
    rw [Dq]
    walk_at "zz"
    rw [uA]
    walk_at "zz"
    rw [hix]
    walk_at "zz"
    rw [Ag sh,hg]
    walk_at "zz"
    rw [bN (l₁:=pre++[st])]
    refine Dm (ds:=(pre++[st]).map bh) (d:=bh (bW e st)) rfl ?_ (by rw [av,aH];simp only [aW,c7];omega)
    walk_at "zz"
    rw [Dq]
    walk_at "zz"
    rw [uA]
    walk_at "zz"
    rw [hix]
    walk_at "zz"
    rw [IT sh (gM hs g.rise.len)]
   rw [oG (ρ1:=[.shr A,.shr B,.own (.list ((pre++[st]).map bh)),.shr (bE e)]) rfl hbody]
   exact hb
  | false =>
   rw [if_neg a_,aO]
   refine .inr (By (ρ1:=[.shr A,.shr B,.own (.list ((pre++[st]).map bh)),.shr (bE e)]) rfl ?_)
   walk_at "zz"
   rw [Dq]
   walk_at "zz"
   rw [uA]
   walk_at "zz"
   rw [hix]
   walk_at "zz"
   rw [Ag sh,hg]
   walk_at "zz"
theorem Fw {fs st:List Str}{es rs:List bD} (g:eG fs es) (h:JM es rs) (hs:wy fs st):ic [.list (rs.map bE),bh st]=.ok (.list ((jN rs st).map bh)):=by
 have hl:=h.len
 unfold ic
 refine cq ?_
 unfold ib bF
 walk_at "zz"
 rw [MB (d:=.list (rs.map bE)) rfl,nu (ds:=rs.map bE)]
 ·rcases vT g (.list (rs.map bE)) (bh st) rs [] st .no h.mem hs (by simp only [c7];omega) with ⟨z,e⟩ | e
  ·rw [dZ,dZ] at e
   simp only [aO,dQ] at e
   rw [e]
   walk_at "zz"
  ·rw [dZ,dZ] at e
   simp only [aO,dQ] at e
   rw [e]
   walk_at "zz"
 ·walk_at "zz"
def oZ (xs ys:List Str):Bool:=xs.any fun x=>decide (x∈ys)
def lI (xs ys:List Str):List Str:=xs.filter fun x=>!decide (x∈ys)
def oH (e:bD) (w:List Str×List Str):Option (List Str×List Str) :=
 if oZ e.makes w.2 || oZ e.ends w.1 then none
 else if oZ (tF (e.needs++lI w.1 e.makes)) (tF (e.bars++lI w.2 e.ends)) then none
 else some (tF (e.needs++lI w.1 e.makes),tF (e.bars++lI w.2 e.ends))
def IV:Option (List Str×List Str)->D
 | none=>.none
 | some w=>i3 w.1 w.2
theorem lf {xs ys:List Str}:oZ xs ys=true↔∃ x,x∈xs/\x∈ys:=by
 unfold oZ
 simp only [kz,decide_eq_true_eq]
theorem nD {xs ys:List Str}{x:Str}:x∈lI xs ys↔x∈xs/\x∉ys:=by
 unfold lI
 simp [yQ]
theorem Dr (xs ys:List Str):(lI xs ys).length<=xs.length:=kh _ _
theorem OZ (xs:List Str):(tF xs).length<=xs.length:=by
 unfold tF
 rw [(f_ _).length_eq]
 have:=eX xs []
 simpa using this
theorem Vl (a b x y u v:D):Bg (iu 4 (bC (bc 2) (bC (bc 3) (bC (bc 4) (bC (bc 5) iU))))) [Sl.shr a,.shr b,.no,.no,.no,.no,.no,.no,.no,.no] (.tuple [x,y,u,v])=.ok (.nx [.shr a,.shr b,.shr x,.shr y,.shr u,.shr v,.no,.no,.no,.no]):=id rfl
theorem TV (a x y u v d f:D):Bg (iu 2 (bC (bc 6) (bC (bc 7) iU))) [Sl.shr a,.shr (.tuple [d,f]),.shr x,.shr y,.shr u,.shr v,.no,.no,.no,.no] (.tuple [d,f])=.ok (.nx [.shr a,.shr (.tuple [d,f]),.shr x,.shr y,.shr u,.shr v,.shr d,.shr f,.no,.no]):=id rfl
theorem TW (e:bD):El (bE e) (some 1) (some 5)=.ok (.tuple [bh e.needs,bh e.bars,bh e.makes,bh e.ends]):=id rfl
theorem Bz {xs ys:List Str} (hl:xs.length<=60):cz [bh xs,bh ys]=.ok (.bool (!oZ xs ys)):=ux hl
theorem Ai {xs ys:List Str} (h:xs.length<=60):jJ [bh xs,bh ys]=.ok (bh (lI xs ys)):=yc h
theorem Ds {e:bD} (he:uz e) {m b:List Str} (hm:m.length<=6) (hb:b.length<=6):jK [bE e,i3 m b]=.ok (IV (oH e (m,b))):=by
 have h1:=he.needs
 have h2:=he.bars
 have h3:=he.makes
 have h4:=he.ends
 have h5:=Dr m e.makes
 have h6:=Dr b e.ends
 have h7:=OZ (e.needs++lI m e.makes)
 rw [aH] at h7
 unfold jK
 refine cq ?_
 unfold o9 bF i3
 walk_at "zz"
 rw [TW]
 walk_at "zz"
 rw [Vl]
 walk_at "zz"
 rw [TV]
 walk_at "zz"
 rw [Bz (by omega)]
 walk_at "zz"
 unfold oH
 cases c1:oZ e.makes b with
 | true=>walk_at "zz";rfl
 | false =>
  walk_at "zz"
  rw [Bz (by omega)]
  cases c2:oZ e.ends m with
  | true=>walk_at "zz";rfl
  | false =>
   walk_at "zz"
   rw [Ai (by omega)]
   walk_at "zz"
   rw [vm (by omega)]
   walk_at "zz"
   rw [Ai (by omega)]
   walk_at "zz"
   rw [vm (by omega)]
   walk_at "zz"
   rw [Bz (by omega)]
   cases c3:oZ (tF (e.needs++lI m e.makes)) (tF (e.bars++lI b e.ends)) with
   | true =>
    walk_at "zz"
    rfl
   | false =>
    walk_at "zz"
    rfl
theorem ik {st a b:List Str}:cF st a b=true↔(∀ x∈a,x∈st)/\∀ x∈b,x∉st:=by
 unfold cF
 simp only [aN,cB,decide_eq_true_eq,nh,vF]
def kP:List bD->List Str×List Str->Option (List Str×List Str)
 | [],w=>some w
 | e::r,w=>(kP r w).bind (oH e)
theorem Dt {fs m b m' b':List Str}{e:bD} (g:nB fs e) (h:jn fs m b) (ha:oH e (m,b)=some (m',b')):jn fs m' b':=by
 unfold oH at ha
 split at ha
 ·cases ha
 ·split at ha
  ·cases ha
  ·rename_i c1 c2
   cases ha
   refine ⟨r0 fun x hx=>?_,r0 fun x hx=>?_,fun x h1 h2=>c2 (lf.mpr ⟨x,h1,h2⟩)⟩
   ·rcases List.mem_append.mp hx with z | z
    ·exact g.needs.mem x z
    ·exact h.must.mem x (nD.mp z).1
   ·rcases List.mem_append.mp hx with z | z
    ·exact g.bars.mem x z
    ·exact h.bars.mem x (nD.mp z).1
theorem li {fs m b:List Str}{es:List bD} (g:eG fs es) (h:jn fs m b):∀ {rs:List bD}{w:List Str×List Str},(∀ e∈rs,e∈es)->kP rs (m,b)=some w->jn fs w.1 w.2
 | [],w,_,e=>by cases e;exact h
 | x::r,w,hm,e=>by
  unfold kP at e
  cases hr:kP r (m,b) with
  | none=>rw [hr] at e;cases e
  | some v =>
   rw [hr] at e
   obtain ⟨m1,b1⟩:=v
   obtain ⟨m2,b2⟩:=w
   exact Dt (g.ok x (hm x al)) (li g h (fun y hy=>hm y (aj _ hy)) hr) e
theorem O_ {fs st m b:List Str}{e:bD} (g:nB fs e):(cF st e.needs e.bars && cF (bW e st) m b)=(match oH e (m,b) with
  | some w=>cF st w.1 w.2
  | none=>false):=by
 rw [j9,aN,ik,ik]
 unfold oH
 have ng:∀ x,x∈bW e st↔(x∈st/\x∉e.ends)\/x∈e.makes:=fun x=>iW
 by_cases c1:oZ e.makes b=true
 ·obtain ⟨x,x1,x2⟩:=lf.mp c1
  simp only [c1,Bool.true_or,if_true]
  constructor
  ·rintro ⟨_,_,h⟩
   exact absurd ((ng x).mpr (.inr x1)) (h x x2)
  ·exact fun h=>nomatch h
 by_cases c2:oZ e.ends m=true
 ·obtain ⟨x,x1,x2⟩:=lf.mp c2
  simp only [c2,Bool.or_true,if_true]
  constructor
  ·rintro ⟨_,h,_⟩
   rcases (ng x).mp (h x x2) with z | z
   ·exact absurd x1 z.2
   ·exact absurd x1 (g.me x z)
  ·exact fun h=>nomatch h
 have d1:∀ x,x∈e.makes->x∉b:=fun x h1 h2=>c1 (lf.mpr ⟨x,h1,h2⟩)
 have d2:∀ x,x∈e.ends->x∉m:=fun x h1 h2=>c2 (lf.mpr ⟨x,h1,h2⟩)
 have key:((∀ x∈e.needs,x∈st)/\∀ x∈e.bars,x∉st)/\((∀ x∈m,x∈bW e st)/\∀ x∈b,x∉bW e st)↔(∀ x∈tF (e.needs++lI m e.makes),x∈st)/\∀ x∈tF (e.bars++lI b e.ends),x∉st:=by
  constructor
  ·rintro ⟨⟨h1,h2⟩,h3,h4⟩
   refine ⟨fun x hx=>?_,fun x hx=>?_⟩
   ·rcases List.mem_append.mp (iO.mp hx) with z | z
    ·exact h1 x z
    ·obtain ⟨z1,z2⟩:=nD.mp z
     rcases (ng x).mp (h3 x z1) with y | y
     ·exact y.1
     ·exact absurd y z2
   ·rcases List.mem_append.mp (iO.mp hx) with z | z
    ·exact h2 x z
    ·obtain ⟨z1,z2⟩:=nD.mp z
     exact fun y=>h4 x z1 ((ng x).mpr (.inl ⟨y,z2⟩))
  ·rintro ⟨h1,h2⟩
   have k1:∀ x,x∈e.needs\/(x∈m/\x∉e.makes)->x∈st:=fun x hx=>h1 x (iO.mpr (List.mem_append.mpr (hx.imp id nD.mpr)))
   have k2:∀ x,x∈e.bars\/(x∈b/\x∉e.ends)->x∉st:=fun x hx=>h2 x (iO.mpr (List.mem_append.mpr (hx.imp id nD.mpr)))
   refine ⟨⟨fun x hx=>k1 x (.inl hx),fun x hx=>k2 x (.inl hx)⟩,fun x hx=>(ng x).mpr ?_,fun x hx z=>?_⟩
   ·by_cases y:x∈e.makes
    ·exact .inr y
    ·exact .inl ⟨k1 x (.inr ⟨hx,y⟩),fun q=>d2 x q hx⟩
   ·rcases (ng x).mp z with y | y
    ·exact k2 x (.inr ⟨hx,y.2⟩) y.1
    ·exact d1 x y hx
 rw [key]
 simp only [c1,c2,Bool.or_self,bM,if_false]
 by_cases c3:oZ (tF (e.needs++lI m e.makes)) (tF (e.bars++lI b e.ends))=true
 ·obtain ⟨x,x1,x2⟩:=lf.mp c3
  simp only [c3,if_true]
  constructor
  ·rintro ⟨h1,h2⟩
   exact absurd (h1 x x1) (h2 x x2)
  ·exact fun h=>nomatch h
 ·simp only [c3,bM,if_false]
  rw [ik]
theorem lJ {fs m b:List Str}{es:List bD} (g:eG fs es):∀ (rs:List bD) (st:List Str),(∀ e∈rs,e∈es)->oF st m b rs=(match kP rs (m,b) with
  | some w=>cF st w.1 w.2
  | none=>false)
 | [],st,_=>rfl
 | e::r,st,hm=>by
  have ih:=lJ (m:=m) (b:=b) g r (bW e st) fun x hx=>hm x (aj _ hx)
  have ge:=g.ok e (hm e al)
  have e1:oF st m b (e::r)=(cF st e.needs e.bars && oF (bW e st) m b r):=by
   unfold oF
   rw [jM]
   cases cF st e.needs e.bars<;>rfl
  rw [e1,ih,show kP (e::r) (m,b)=(kP r (m,b)).bind (oH e) from rfl]
  cases kP r (m,b) with
  | none=>exact m6 _
  | some w =>
   obtain ⟨m1,b1⟩:=w
   exact O_ ge
def BA:List bD->List Str×List Str->Option (List Str×List Str)
 | [],w=>some w
 | e::r,w=>(oH e w).bind (BA r)
theorem Du (e:bD):∀ (q:List bD) (w:List Str×List Str),BA (q++[e]) w=(BA q w).bind (oH e)
 | [],w=>by
  show (oH e w).bind (BA [])=oH e w
  cases oH e w<;>rfl
 | x::q,w=>by
  show (oH x w).bind (BA (q++[e]))=((oH x w).bind (BA q)).bind (oH e)
  cases oH x w with
  | none=>rfl
  | some v=>exact Du e q v
theorem Dv:∀ (rs:List bD) (w:List Str×List Str),BA rs.reverse w=kP rs w
 | [],_=>rfl
 | e::r,w=>by
  rw [vJ,Du,Dv r w]
  rfl
theorem TX (neg:Bool) (m b:List Str):B4 neg (i3 m b) .none=.ok (.bool neg):=by cases neg<;>rfl
theorem ye {fs:List Str}{es:List bD} (g:eG fs es) (A B D0:D):∀ (rs:List bD) (m b:List Str) (z:Sl),(∀ e∈rs,e∈es)->jn fs m b ->
  (match BA rs (m,b) with
  | some w=>∃ z',gx (bc 4) (aS (fJ 3 (dC 2 jK (J.aa (rS 4) (J.aa (rS 3) J.aG)))) (dX (fE (g2 (rB 3) kN (B4 false))) (cG kN) (fun ρ=>.ok (.nx ρ)))) (rs.map bE) [.shr A,.shr B,.shr D0,.shr (i3 m b),z]=.ok (.nx [.shr A,.shr B,.shr D0,.shr (i3 w.1 w.2),z'])
  | none=>gx (bc 4) (aS (fJ 3 (dC 2 jK (J.aa (rS 4) (J.aa (rS 3) J.aG)))) (dX (fE (g2 (rB 3) kN (B4 false))) (cG kN) (fun ρ=>.ok (.nx ρ)))) (rs.map bE) [.shr A,.shr B,.shr D0,.shr (i3 m b),z]=.ok (.rt .none))
 | [],m,b,z,_,_=>⟨z,rfl⟩
 | e::r,m,b,z,hm,hw=>by
  have he:=hm e al
  have sh:=kw g he
  have l1:=gM hw.must g.rise.len
  have l2:=gM hw.bars g.rise.len
  show match (oH e (m,b)).bind (BA r) with
   | some w=>_
   | none=>_
  rw [aO]
  cases ha:oH e (m,b) with
  | none =>
   rw [Option.bind_none]
   refine By (ρ1:=[.shr A,.shr B,.shr D0,.shr (i3 m b),.shr (bE e)]) rfl ?_
   walk_at "zz"
   rw [Ds sh l1 l2,ha]
   simp only [IV]
   walk_at "zz"
   rw [TF]
   walk_at "zz"
  | some v =>
   obtain ⟨m1,b1⟩:=v
   have ih:=ye g A B D0 r m1 b1 (.shr (bE e)) (fun x hx=>hm x (aj _ hx)) (Dt (g.ok e he) hw ha)
   rw [nM]
   rw [oG (ρ1:=[.shr A,.shr B,.shr D0,.shr (i3 m b),.shr (bE e)]) (ρ2:=[.shr A,.shr B,.shr D0,.shr (i3 m1 b1),.shr (bE e)]) rfl (by
    walk_at "zz"
    rw [Ds sh l1 l2,ha]
    simp only [IV]
    walk_at "zz"
    rw [TX]
    walk_at "zz")]
   exact ih
theorem RK (gs:ap->R (List D)) (s:Sl) (ρ:ap):J.GX gs (s::ρ)=(gs (s::ρ)).bind J.Oz:=id rfl
theorem P0 (ds:List D):J.Oz [.list ds]=.ok ds.reverse:=rfl
theorem Dw {fs m b:List Str}{es rs:List bD} (g:eG fs es) (h:JM es rs) (hw:jn fs m b):ul [ev fs es,i3 m b,dD rs]=.ok (IV (kP rs (m,b))):=by
 unfold ul
 refine cq ?_
 unfold wS bF
 walk_at "zz"
 rw [oE g]
 walk_at "zz"
 rw [Mz g hw]
 walk_at "zz"
 rw [nu (ds:=(rs.reverse).map bE)]
 ·have hl:=ye g (ev fs es) (i3 m b) (dD rs) rs.reverse m b .no (fun e he=>h.mem e (List.mem_reverse.mp he)) hw
  rw [Dv] at hl
  cases ha:kP rs (m,b) with
  | none =>
   rw [ha] at hl
   simp only at hl
   rw [hl]
   walk_at "zz"
   rfl
  | some w =>
   rw [ha] at hl
   obtain ⟨z,hl⟩:=hl
   rw [hl]
   walk_at "zz"
   rfl
 ·rw [RK]
  walk_at "zz"
  rw [sF g h]
  walk_at "zz"
  rw [P0,List.map_reverse]
theorem Hk (neg:Bool) (ds:List D) (h:bJ ds=true):lA neg (.list ds) (.list [])=.ok (.bool (neg != decide (ds=[]))):=by
 unfold lA
 have h1:(dW ds).canLay0=true:=by simp only [dO];exact h
 have h3:min (dW ds).depth (dW []).depth<=60:=bU (p7 _ _) (by decide)
 have h4:bn (.list ds) (.list [])=decide (ds=[]):=by
  cases ds with
  | nil=>rfl
  | cons x r=>simp [bn,iL]
 rw [h1,show (dW []).canLay0=true from rfl,decide_eq_true h3,h4]
 cases neg<;>cases decide (ds=[])<;>rfl
theorem Hl (ds:List D) (h:bJ ds=true):lA false (.list ds) (.list [])=.ok (.bool (decide (ds=[]))):=by rw [Hk false ds h,Bool.false_bne]
theorem P1 (ds:List D) (h:bJ ds=true):lA true (.list ds) (.list [])=.ok (.bool (!decide (ds=[]))):=by rw [Hk true ds h,Bool.true_bne]
theorem ME (neg:Bool) (o:Option (List Str)):B4 neg (TM o) .none=.ok (.bool (neg == o.isSome)):=by cases o<;>cases neg<;>rfl
theorem P2 {L:List bD}{j:Int} (h0:0<=j) (h1:j<(L.length:Nat)):∃ e∈L,b9 (.list (L.map bE)) (.int j)=.ok (bE e):=by
 obtain ⟨n,rfl⟩:=pc h0
 have hn:n<L.length:=by omega
 refine ⟨L[n],iz hn,qJ ?_⟩
 rw [aX,aL hn]
 rfl
theorem Fx (e:bD) (st:List Str):(Do e st).isSome=cF st e.needs e.bars:=by
 unfold Do
 cases cF st e.needs e.bars<;>rfl
theorem Dx (e:bD):∀ (rs:List bD) (st x:List Str),jM rs st=some x->cF x e.needs e.bars=true->jM (rs++[e]) st=some (bW e x)
 | [],st,x,h,g=>by cases h;show (if cF st e.needs e.bars then jM [] (bW e st) else none)=_;rw [g];rfl
 | a::r,st,x,h,g=>by
  show (if cF st a.needs a.bars then jM (r++[e]) (bW a st) else none)=_
  have h':(if cF st a.needs a.bars then jM r (bW a st) else none)=some x:=h
  split at h'
  ·rename_i hg
   rw [if_pos hg]
   exact Dx e r _ _ h' g
  ·cases h'
theorem Aj {fs s0:List Str}{es:List bD} (g:eG fs es) (ns:List Int) (at0:Int) (h0:0<=at0) (M:D):∀ (ks:List Nat) (rs:List bD) (st:List Str) (z7 z8 z9:Sl),(∀ e∈rs,e∈es)->wy fs st->jM rs s0=some st->rs.length + ks.length<=20 ->
  ∃ rs',(JM es rs'/\∃ x,jM rs' s0=some x)/\(gx (bc 6) (aS (gO 7 (eB 1 [3] (jX (g2 (rB 2) (kI 1) b9)) (fE (g2 (dC 2 i0 (J.aa (rS 0) (J.aa (rS 1) J.aG))) kN (B4 true))) (rS 0))) (aS (dX (fE (g2 (rB 7) (fH J.aG .list) (lA false))) (cG (rS 5)) (fun ρ=>.ok (.nx ρ))) (aS (fJ 8 (g2 (rB 7) (dC 3 ba (J.aa (rS 0) (J.aa (g2 (rB 1) (rB 6) dk) (J.aa (ca (J.aa (rB 7) J.aG) (gX iI)) J.aG)))) b9)) (aS (qg 5 (g2 (rB 8) (kI 0) b9)) (fJ 3 (dC 2 i0 (J.aa (rS 8) (J.aa (rS 3) J.aG)))))))) (ks.map fun (i:Nat)=>bT (i:Int)) [.shr (.list (ns.map .int)),.shr (.int at0),.shr (ev fs es),.shr (bh st),.shr M,.own (dD rs),z7,z8,z9]).bind (Lk (cG (rS 5)))=.ok (.rt (dD rs'))
 | [],rs,st,z7,z8,z9,hm,hs,hr,hl=>by
  refine ⟨rs,⟨⟨hm,by simpa using hl⟩,st,hr⟩,?_⟩
  rw [dQ,gx]
  walk_at "zz"
 | k::ks,rs,st,z7,z8,z9,hm,hs,hr,hl=>by
  have ls:=gM hs g.rise.len
  have lg:=g.len
  simp only [aW] at hl
  let L:=es.filter fun e=>cF st e.needs e.bars
  have hL:∀ e∈L,e∈es/\cF st e.needs e.bars=true:=fun e he=>List.mem_filter.mp he
  have hc:∀ (z:Sl),eB 1 [3] (jX (g2 (rB 2) (kI 1) b9)) (fE (g2 (dC 2 i0 (J.aa (rS 0) (J.aa (rS 1) J.aG))) kN (B4 true))) (rS 0) [.shr (.list (ns.map .int)),.shr (.int at0),.shr (ev fs es),.shr (bh st),.shr M,.own (dD rs),.shr (.int (k:Int)),z8,z]=.ok (.list (L.map bE)):=by
   intro z
   walk_at "zz"
   rw [TD]
   walk_at "zz"
   rw [if_pos (by omega)]
   rw [ia _ bE bE (fun e=>cF st e.needs e.bars) es fun e he=>ug (by
    walk_at "zz"
    rw [Hj (kw g he) (by omega)]
    walk_at "zz"
    rw [ME,Fx]
    walk_at "zz"
    rw [Bool.true_beq]) fun _=>rfl]
   walk_at "zz"
   rfl
  have lay:bJ (L.map bE)=true:=yb bE L fun e he=>Mt g.rise.ok (g.ok e (hL e he).1)
  rw [aO]
  by_cases hn:L=[]
  ·refine ⟨rs,⟨⟨hm,by omega⟩,st,hr⟩,?_⟩
   rw [By (x:=dD rs) (ρ1:=[.shr (.list (ns.map .int)),.shr (.int at0),.shr (ev fs es),.shr (bh st),.shr M,.own (dD rs),.shr (.int (k:Int)),z8,z9]) rfl ?_]
   ·walk_at "zz"
   ·rw [vR]
    unfold gO
    rw [hc]
    walk_at "zz"
    rw [Hl _ lay,hn]
    walk_at "zz"
  ·have hp:0<L.length:=List.length_pos_iff.mpr hn
   have hk:((L.length:Nat):Int) > 0:=by omega
   obtain ⟨e,he,hix⟩:=P2 (L:=L) (eN ns (at0 + k) (L.length:Nat) (by omega)) (fF ns (at0 + k) (L.length:Nat) (by omega))
   obtain ⟨he1,he2⟩:=hL e he
   obtain ⟨rs',r1,r2⟩:=Aj g ns at0 h0 M ks (rs++[e]) (bW e st) (.shr (.int (k:Int))) (.own (.list (L.map bE))) (.shr (bE e)) (fun x hx=>by
    rcases List.mem_append.mp hx with h | h
    ·exact hm x h
    ·rw [List.mem_singleton.mp h];exact he1) (sD g.rise.up (g.ok e he1) hs) (Dx e rs s0 st hr he2) (by rw [aH,du];omega)
   refine ⟨rs',r1,?_⟩
   rw [oG (ρ1:=[.shr (.list (ns.map .int)),.shr (.int at0),.shr (ev fs es),.shr (bh st),.shr M,.own (dD rs),.shr (.int (k:Int)),z8,z9]) (ρ2:=[.shr (.list (ns.map .int)),.shr (.int at0),.shr (ev fs es),.shr (bh (bW e st)),.shr M,.own (dD (rs++[e])),.shr (.int (k:Int)),.own (.list (L.map bE)),.shr (bE e)]) rfl ?_]
   ·exact r2
   ·rw [vR]
    unfold gO
    rw [hc]
    walk_at "zz"
    rw [Hl _ lay,decide_eq_false (by simpa using hn)]
    walk_at "zz"
    rw [eP ns (at0 + k) (L.length:Nat) (by omega) (by omega)]
    walk_at "zz"
    rw [hix]
    walk_at "zz"
    rw [Dm (ds:=rs.map fun e=>aD e.name) (d:=.str e.name) rfl (by
     walk_at "zz"
     rw [OV]) (by rw [av];omega)]
    walk_at "zz"
    rw [Hj (kw g he1) (by omega),IS,he2]
    walk_at "zz"
    simp only [dD,bN]
    rfl
theorem P3 {fs st:List Str}{es:List bD} (g:eG fs es) (ns:List Int) (k n:Int) (h0:0<=k) (hn:0<=n) (h20:n<=20) (hs:wy fs st):∃ rs,JM es rs/\(∃ x,jM rs st=some x)/\oC [.list (ns.map .int),.int k,ev fs es,bh st,.int n]=.ok (dD rs):=by
 obtain ⟨j,rfl⟩:=pc hn
 obtain ⟨rs,h1,h2⟩:=Aj g ns k h0 (.int (j:Int)) (bi j) [] st .no .no .no (fun _ h=>nomatch h) hs rfl (by simp;omega)
 refine ⟨rs,h1.1,h1.2,?_⟩
 unfold oC
 refine cq ?_
 unfold oB bF
 walk_at "zz"
 rw [nu (ds:=(bi j).map fun (i:Nat)=>bT (i:Int))]
 ·exact h2
 ·walk_at "zz"
  exact ur j (by omega)
def iQ (a b:bD):Bool:=(!(a.makes++a.ends).any fun x=>decide (x∈b.needs++b.bars)) && !a.makes.any fun x=>decide (x∈b.ends)
def bH (a b:bD):Bool:=iQ a b && iQ b a
theorem TY (a b x y:D):Bg (iu 2 (bC (bc 2) (bC (bc 3) iU))) [Sl.shr a,.shr b,.no,.no,.no,.no] (.tuple [x,y])=.ok (.nx [.shr a,.shr b,.shr x,.shr y,.no,.no]):=id rfl
theorem TZ (a b x y z w:D):Bg (iu 2 (bC (bc 4) (bC (bc 5) iU))) [Sl.shr a,.shr b,.shr z,.shr w,.no,.no] (.tuple [x,y])=.ok (.nx [.shr a,.shr b,.shr z,.shr w,.shr x,.shr y]):=id rfl
theorem Ak {a b:bD} (ha:uz a) (hb:uz b):kq [bE a,bE b]=.ok (.bool (iQ a b)):=by
 have:=ha.makes
 have:=ha.ends
 have:=hb.needs
 have:=hb.bars
 unfold kq
 refine cq ?_
 unfold ml bF
 walk_at "zz"
 rw [TJ]
 walk_at "zz"
 rw [TY]
 walk_at "zz"
 rw [Qi]
 walk_at "zz"
 rw [TZ]
 walk_at "zz"
 rw [if_pos (by omega)]
 walk_at "zz"
 rw [if_pos (by omega)]
 walk_at "zz"
 rw [<- bN,<- bN,ux (by rw [aH];omega)]
 walk_at "zz"
 rw [TH]
 walk_at "zz"
 rw [ux (by omega)]
 unfold iQ
 cases ((a.makes++a.ends).any fun x=>decide (x∈b.needs++b.bars))<;>rfl
theorem vU {a b:bD} (ha:uz a) (hb:uz b):j3 [bE a,bE b]=.ok (.bool (bH a b)):=by
 unfold j3
 refine cq ?_
 unfold mn bF
 walk_at "zz"
 rw [Ak ha hb]
 walk_at "zz"
 rw [Ak hb ha]
 unfold bH
 cases iQ a b<;>rfl
theorem IW {fs:List Str}{es:List bD} (g:eG fs es) {a b:bD} (ha:a∈es) (hb:b∈es):nA [ev fs es,.str a.name,.str b.name]=.ok (.bool (bH a b)):=by
 unfold nA
 refine cq ?_
 unfold um bF
 walk_at "zz"
 rw [oE g]
 walk_at "zz"
 rw [rf g (g.ok a ha).name,lH g.nd ha]
 simp only [OY]
 walk_at "zz"
 rw [rf g (g.ok b hb).name,lH g.nd hb]
 simp only [OY]
 walk_at "zz"
 rw [Mw]
 walk_at "zz"
 rw [Mw]
 walk_at "zz"
 rw [vU (kw g ha) (kw g hb)]
 walk_at "zz"
theorem qo {a b:bD}:iQ a b=true↔(∀ x,x∈a.makes\/x∈a.ends->¬(x∈b.needs\/x∈b.bars))/\∀ x∈a.makes,x∉b.ends:=by
 unfold iQ
 simp only [aN,nh,vF,pL,decide_eq_true_eq]
theorem vV {a b:bD} (h:iQ a b=true) (st:List Str):cF (bW a st) b.needs b.bars=cF st b.needs b.bars:=by
 obtain ⟨h1,h2⟩:=qo.mp h
 rw [j9,ik,ik]
 have k:∀ x,x∈b.needs\/x∈b.bars->(x∈bW a st↔x∈st):=fun x hx=>by
  rw [iW]
  have n1:x∉a.makes:=fun z=>h1 x (.inl z) hx
  have n2:x∉a.ends:=fun z=>h1 x (.inr z) hx
  simp [n1,n2]
 constructor
 ·rintro ⟨g1,g2⟩
  exact ⟨fun x hx=>(k x (.inl hx)).mp (g1 x hx),fun x hx z=>g2 x hx ((k x (.inr hx)).mpr z)⟩
 ·rintro ⟨g1,g2⟩
  exact ⟨fun x hx=>(k x (.inl hx)).mpr (g1 x hx),fun x hx z=>g2 x hx ((k x (.inr hx)).mp z)⟩
theorem Dy {a b:bD} (h1:iQ a b=true) (h2:iQ b a=true) (st:List Str):bW a (bW b st)=bW b (bW a st):=by
 obtain ⟨_,k1⟩:=qo.mp h1
 obtain ⟨_,k2⟩:=qo.mp h2
 refine Bw (xX _) (xX _) fun x=>?_
 rw [iW,iW,iW,iW]
 have:=k1 x
 have:=k2 x
 by_cases c1:x∈a.makes<;>by_cases c2:x∈b.makes<;>by_cases c3:x∈a.ends<;>by_cases c4:x∈b.ends<;>simp_all
theorem MF (gs:ap->R (List D)) (s:Sl) (ρ:ap):J.D6 gs (s::ρ)=(gs (s::ρ)).bind J.Oy:=id rfl
theorem Hm (ds:List D):J.Oy [.list ds]=.ok (gF 0 ds):=rfl
def IX (e:bD):Nat->Nat->List (List bD)->Nat
 | _,pl,[]=>pl
 | n,pl,p::r=>IX e (n + 1) (if p.all (bH e) then pl else n + 1) r
abbrev cS (pp:List (List bD)) (e:bD):Nat:=IX e 0 0 pp
abbrev qp (pp:List (List bD)):List D:=pp.map fun p=>.list (p.map bE)
theorem Ho {fs:List Str}{es:List bD} (g:eG fs es) {e:bD} (he:e∈es) (A:D):∀ (pp:List (List bD)) (n pl:Nat) (z3 z4:Sl),(∀ p∈pp,p.length<=1000/\∀ a∈p,a∈es) ->
  ∃ y3 y4,gx (iu 2 (bC (bc 3) (bC (bc 4) iU))) (dX (gY (fE (ca (J.aa (eB 1 [1] (jX (rB 4)) kT (dC 2 j3 (J.aa (rS 1) (J.aa (rS 0) J.aG)))) J.aG) (gX (g9 fun bs=>bs.all id))))) (fJ 2 (g2 (rB 3) (kI 1) dk)) (fun ρ=>.ok (.nx ρ))) (gF n (qp pp)) [.shr A,.shr (bE e),.shr (.int (pl:Nat)),z3,z4]=.ok (.nx [.shr A,.shr (bE e),.shr (.int (IX e n pl pp:Nat)),y3,y4])
 | [],n,pl,z3,z4,_=>⟨z3,z4,rfl⟩
 | p::r,n,pl,z3,z4,h=>by
  obtain ⟨h1,h2⟩:=h p al
  obtain ⟨y3,y4,q⟩:=Ho g he A r (n + 1) (if p.all (bH e) then pl else n + 1) (.shr (.int (n:Nat))) (.shr (.list (p.map bE))) fun a ha=>h a (aj _ ha)
  refine ⟨y3,y4,?_⟩
  rw [show gF n (qp (p::r))=.tuple [.int (n:Nat),.list (p.map bE)]::gF (n + 1) (qp r) from rfl]
  rw [oG (ρ1:=[.shr A,.shr (bE e),.shr (.int (pl:Nat)),.shr (.int (n:Nat)),.shr (.list (p.map bE))]) (ρ2:=[.shr A,.shr (bE e),.shr (.int ((if p.all (bH e) then pl else n + 1:Nat))),.shr (.int (n:Nat)),.shr (.list (p.map bE))]) rfl]
  ·exact q
  ·walk_at "zz"
   rw [if_pos h1]
   rw [dm _ bE (fun a=>cJ (bH e a)) p fun a ha=>e_ rfl (by
    walk_at "zz"
    rw [vU (kw g he) (kw g (h2 a ha))])]
   walk_at "zz"
   rw [iP _ (bH e)]
   walk_at "zz"
   rw [pB,show (id∘bH e)=bH e from rfl]
   cases p.all (bH e) with
   | true=>rfl
   | false=>rfl
theorem MG {fs:List Str}{es:List bD} (g:eG fs es) {e:bD} (he:e∈es) {pp:List (List bD)} (h:∀ p∈pp,p.length<=1000/\∀ a∈p,a∈es):eu [.list (qp pp),bE e]=.ok (.int (cS pp e:Nat)):=by
 obtain ⟨y3,y4,q⟩:=Ho g he (.list (qp pp)) pp 0 0 .no .no h
 unfold eu
 refine cq ?_
 unfold ig bF
 walk_at "zz"
 rw [nu (ds:=gF 0 (qp pp))]
 ·have q':=q
  rw [show ((0:Nat):Int)=0 from rfl] at q'
  rw [q']
  walk_at "zz"
 ·rw [MF]
  walk_at "zz"
  rw [Hm]
def fL (pp:List (List bD)) (e:bD):List (List bD):=if cS pp e=pp.length then pp++[[]] else pp
def gy (pp:List (List bD)) (e:bD):List (List bD):=(fL pp e).modify (cS pp e) (·++[e])
theorem MH (e:bD):∀ (pp:List (List bD)) (n pl:Nat),pl<=n->IX e n pl pp<=n + pp.length
 | [],n,pl,h=>by simpa [IX] using h
 | p::r,n,pl,h=>by
  have:=MH e r (n + 1) (if p.all (bH e) then pl else n + 1) (by split<;>omega)
  rw [aW]
  unfold IX
  omega
theorem MI (pp:List (List bD)) (e:bD):cS pp e<=pp.length:=by
 have:=MH e pp 0 0 (ao _)
 rw [ED] at this
 exact this
theorem uB (pp:List (List bD)) (e:bD):∃ p,(fL pp e)[cS pp e]?=some p/\(fL pp e).length<=pp.length + 1:=by
 have h:=MI pp e
 unfold fL
 by_cases hk:cS pp e=pp.length
 ·rw [if_pos hk,hk]
  exact ⟨[],by simp,by simp⟩
 ·rw [if_neg hk]
  have:cS pp e<pp.length:=by omega
  exact ⟨_,aL this,gj _⟩
abbrev e2 (pp:List (List bD)):List (List D):=pp.map fun p=>p.map bE
theorem RL {i:Nat}{ρ:ap}{dss:List (List D)} (hi:ρ[i]?=some (Sl.ow2 dss)) (hl:dss.length<1000):xS i ρ=.ok (.nx (ρ.set i (.ow2 (dss++[[]])))):=by
 unfold xS
 simp only [hi,if_pos hl]
theorem qr {pp:List (List bD)}{e:bD}{p:List bD} (h:(fL pp e)[cS pp e]?=some p):gy pp e=(fL pp e).set (cS pp e) (p++[e]):=by
 unfold gy
 refine vI fun i=>?_
 rw [List.getElem?_modify,List.getElem?_set]
 by_cases hi:cS pp e=i
 ·subst hi
  rw [if_pos rfl,h,if_pos (List.getElem?_eq_some_iff.mp h).1]
  simp
 ·rw [if_neg hi]
  simp only [if_neg hi]
  cases (fL pp e)[i]?<;>rfl
def IY:ap->R Fl:=aS (fJ 4 (Fo rP 2 eu (J.aa (Nb 2) (J.aa (rS 3) J.aG)))) (aS (dX (fE (g2 (rB 4) (sB rP (J.aa (Nb 2) J.aG) (gX iI)) (lA false))) (xS 2) (fun ρ=>.ok (.nx ρ))) (jA 2 (rS 4) (rS 3)))
theorem T_ (ok:D->Bool) (n:Nat) (F:List D->R D) (gs:ap->R (List D)) (ρ:ap) {ds:List D} (h:gs ρ=.ok ds) (hn:ds.length=n):Fo ok n F gs ρ=Rw ok (F ds):=by
 unfold Fo
 rw [h,bind_ok,if_pos hn]
theorem P4 (ok:D->Bool) (h:List D->R D) (gs:ap->R (List D)) (ρ:ap) {ds:List D} (hg:gs ρ=.ok ds):sB ok gs h ρ=Rw ok (h ds):=by
 unfold sB
 rw [hg,bind_ok]
theorem BB (pp:List (List bD)):(e2 pp).map dW=qp pp:=by
 show rJ dW (rJ _ pp)=_
 rw [dU]
 rfl
theorem P5 {fs:List Str}{es:List bD} (g:eG fs es) {e:bD} (he:e∈es) {pp:List (List bD)} (h:∀ p∈pp,p.length<1000/\∀ a∈p,a∈es) (hl:pp.length<900) (A B:D) (z4:Sl) :
  IY [.shr A,.shr B,.ow2 (e2 pp),.shr (bE e),z4]=.ok (.nx [.shr A,.shr B,.ow2 (e2 (gy pp e)),.shr (bE e),.shr (.int (cS pp e:Nat))]):=by
 obtain ⟨p,o1,o2⟩:=uB pp e
 have hp:p.length<1000:=by
  unfold fL at o1
  split at o1
  ·rename_i hk
   rw [aU (by omega),hk,EG] at o1
   cases o1
   exact (by decide)
  ·exact (h p (b_ o1)).1
 have e1:Fo rP 2 eu (J.aa (Nb 2) (J.aa (rS 3) J.aG)) [.shr A,.shr B,.ow2 (e2 pp),.shr (bE e),z4]=.ok (.int (cS pp e:Nat)):=by
  rw [T_ (ds:=[.list (qp pp),bE e]) rP 2 eu (J.aa (Nb 2) (J.aa (rS 3) J.aG)) [.shr A,.shr B,.ow2 (e2 pp),.shr (bE e),z4] (by rw [<- BB];rfl) rfl,MG g he fun p hp=>⟨cc (h p hp).1,(h p hp).2⟩]
  rfl
 have e3:sB rP (J.aa (Nb 2) J.aG) (gX iI) [.shr A,.shr B,.ow2 (e2 pp),.shr (bE e),.shr (.int (cS pp e:Nat))]=.ok (.int (pp.length:Nat)):=by
  rw [P4 (ds:=[.list (qp pp)]) rP (gX iI) (J.aa (Nb 2) J.aG) [.shr A,.shr B,.ow2 (e2 pp),.shr (bE e),.shr (.int (cS pp e:Nat))] (by rw [<- BB];rfl)]
  show Rw rP (.ok (.int ((qp pp).length:Nat)))=_
  rw [av]
  rfl
 have fin:∀ qq,qq=fL pp e->jA 2 (rS 4) (rS 3) [.shr A,.shr B,.ow2 (e2 qq),.shr (bE e),.shr (.int (cS pp e:Nat))]=.ok (.nx [.shr A,.shr B,.ow2 (e2 (gy pp e)),.shr (bE e),.shr (.int (cS pp e:Nat))]):=by
  rintro qq rfl
  rw [y6 (dss:=e2 (fL pp e)) (ds:=p.map bE) (d:=bE e) (j:=(cS pp e:Nat)) rfl rfl (Int.natCast_nonneg _) (by rw [eR,aX,o1];rfl) rfl (by rw [av];exact hp)]
  rw [eR,qr o1]
  show R.ok (Fl.nx [_,_,Sl.ow2 _,_,_])=_
  rw [show e2 ((fL pp e).set (cS pp e) (p++[e]))=(e2 (fL pp e)).set (cS pp e) (p.map bE++[bE e]) from by
   show rJ _ _=_
   rw [List.map_set,bN]
   rfl]
 unfold IY
 walk_at "zz"
 rw [e1]
 walk_at "zz"
 rw [e3]
 walk_at "zz"
 rw [kL]
 walk_at "zz"
 simp only [Int.natCast_inj]
 by_cases hk:cS pp e=pp.length
 ·rw [decide_eq_true hk]
  walk_at "zz"
  rw [RL (dss:=e2 pp) rfl (by rw [av];omega)]
  walk_at "zz"
  exact fin (pp++[[]]) (by unfold fL;rw [if_pos hk]) ▸ (by
   show jA 2 _ _ [.shr A,.shr B,.ow2 (e2 pp++[[]]),.shr (bE e),.shr (.int (cS pp e:Nat))]=jA 2 _ _ [.shr A,.shr B,.ow2 (e2 (pp++[[]])),.shr (bE e),.shr (.int (cS pp e:Nat))]
   rw [show e2 (pp++[[]])=e2 pp++[[]] from bN ..])
 ·rw [decide_eq_false hk]
  walk_at "zz"
  exact fin pp (by unfold fL;rw [if_neg hk])
theorem P6 {es:List bD}{e:bD} (he:e∈es) {pp:List (List bD)}{m:Nat} (h:∀ p∈pp,p.length<=m/\∀ a∈p,a∈es):∀ p∈gy pp e,p.length<=m + 1/\∀ a∈p,a∈es:=by
 obtain ⟨q,o1,o2⟩:=uB pp e
 have ho:∀ p∈fL pp e,p.length<=m/\∀ a∈p,a∈es:=fun p hp=>by
  unfold fL at hp
  split at hp
  ·rcases List.mem_append.mp hp with z | z
   ·exact h p z
   ·rw [List.mem_singleton.mp z];exact ⟨cn _,fun _ h=>(nomatch h)⟩
  ·exact h p hp
 rw [qr o1]
 intro p hp
 rcases AB hp with z | z
 ·exact ⟨Nat.le_succ_of_le (ho p z).1,(ho p z).2⟩
 ·have:=ho q (b_ o1)
  rw [z,aH,du]
  refine ⟨Nh this.1,fun a ha=>?_⟩
  rcases List.mem_append.mp ha with w | w
  ·exact this.2 a w
  ·rw [List.mem_singleton.mp w];exact he
theorem MJ (pp:List (List bD)) (e:bD):(gy pp e).length<=pp.length + 1:=by
 obtain ⟨q,o1,o2⟩:=uB pp e
 rw [qr o1,yR]
 exact o2
theorem BC {fs:List Str}{es:List bD} (g:eG fs es) (A B:D):∀ (rs:List bD) (pp:List (List bD)) (m:Nat) (z3 z4:Sl),(∀ e∈rs,e∈es)->(∀ p∈pp,p.length<=m/\∀ a∈p,a∈es)->m + rs.length<=100->pp.length<=m ->
  ∃ y3 y4,(∀ p∈rs.foldl gy pp,p.length<=m + rs.length/\∀ a∈p,a∈es)/\(rs.foldl gy pp).length<=m + rs.length/\gx (bc 3) IY (rs.map bE) [.shr A,.shr B,.ow2 (e2 pp),z3,z4]=.ok (.nx [.shr A,.shr B,.ow2 (e2 (rs.foldl gy pp)),y3,y4])
 | [],pp,m,z3,z4,_,h,_,hp=>⟨z3,z4,h,hp,rfl⟩
 | e::r,pp,m,z3,z4,he,h,hl,hp=>by
  rw [aW] at hl
  have hm:=he e al
  have sl:=MJ pp e
  obtain ⟨y3,y4,a1,a2,q⟩:=BC g A B r (gy pp e) (m + 1) (.shr (bE e)) (.shr (.int (cS pp e:Nat))) (fun a ha=>he a (aj _ ha)) (P6 hm h) (by omega) (by omega)
  refine ⟨y3,y4,fun p hp=>?_,?_,?_⟩
  ·have:=a1 p hp
   rw [aW]
   exact ⟨by omega,this.2⟩
  ·rw [aW,lc];omega
  ·rw [aO,oG (ρ1:=[.shr A,.shr B,.ow2 (e2 pp),.shr (bE e),z4]) rfl (P5 g hm (fun p hp=>⟨by have:=(h p hp).1;omega,(h p hp).2⟩) (by omega) A B z4)]
   exact q
theorem MK:uo=aS (qe (dC 1 j0 (J.aa (rS 0) J.aG))) (aS (M9 2) (aS (nq (jX (dC 2 fU (J.aa (rS 0) (J.aa (rS 1) J.aG)))) (bc 3) IY) (cG (eB 1 [] (jX (rB 2)) kT (eB 1 [] (jX (rB 0)) kT (g2 (rB 0) (kI 0) b9)))))):=rfl
theorem U0 (a b:D):M9 2 [.shr a,.shr b,.no,.no,.no]=.ok (.nx [.shr a,.shr b,.ow2 [],.no,.no]):=rfl
abbrev ke (pp:List (List bD)):List D:=pp.map fun p=>.list (p.map fun e=>aD e.name)
theorem IZ {fs:List Str}{es rs:List bD} (g:eG fs es) (h:JM es rs):uq [ev fs es,dD rs]=.ok (.list (ke (rs.foldl gy []))):=by
 have hl:=h.len
 obtain ⟨y3,y4,a1,a2,q⟩:=BC g (ev fs es) (dD rs) rs [] 0 .no .no h.mem (fun _ h=>(nomatch h)) (by omega) (cn _)
 unfold uq
 refine cq ?_
 rw [MK]
 unfold bF
 walk_at "zz"
 rw [oE g]
 walk_at "zz"
 rw [U0]
 walk_at "zz"
 rw [nu (ds:=rs.map bE)]
 ·have q':gx (bc 3) IY (rs.map bE) [.shr (ev fs es),.shr (dD rs),.ow2 [],.no,.no]=_:=q
  show ((gx (bc 3) IY (rs.map bE) [.shr (ev fs es),.shr (dD rs),.ow2 [],.no,.no]).bind _)=_
  rw [q']
  walk_at "zz"
  rw [show ((e2 (rs.foldl gy [])).map dW)=qp (rs.foldl gy []) from BB _]
  rw [if_pos (by omega)]
  rw [dm _ (fun p:List bD=>dW (p.map bE)) (fun p=>.list (p.map fun e=>aD e.name)) (rs.foldl gy []) fun p hp=>e_ rfl (by
   have:=(a1 p hp).1
   walk_at "zz"
   rw [if_pos (by omega)]
   rw [dm _ bE (fun e=>aD e.name) p fun e he=>e_ rfl (by
    walk_at "zz"
    rw [OV])]
   walk_at "zz")]
  walk_at "zz"
 ·walk_at "zz"
  show ((fU [ev fs es,dD rs]).bind ve)=_
  rw [sF g h]
  rfl
theorem my (a b:bD):bH a b=bH b a:=Bool.and_comm ..
def U1 (acc:List (bD×Nat)) (e:bD) (n:Nat):Prop:=(n=0\/∃ q∈acc,bH q.1 e=false/\n=q.2 + 1)/\∀ q∈acc,bH q.1 e=false->q.2 + 1<=n
theorem BD (e:bD):∀ (pp:List (List bD)) (n pl:Nat),(IX e n pl pp=pl\/∃ t p,pp[t]?=some p/\p.all (bH e)=false/\IX e n pl pp=n + t + 1)/\∀ t p,pp[t]?=some p->p.all (bH e)=false->n + t + 1<=IX e n pl pp
 | [],n,pl=>⟨.inl rfl,fun t p h=>by simp at h⟩
 | p::r,n,pl=>by
  obtain ⟨h1,h2⟩:=BD e r (n + 1) (if p.all (bH e) then pl else n + 1)
  have e0:IX e n pl (p::r)=IX e (n + 1) (if p.all (bH e) then pl else n + 1) r:=rfl
  rw [<- e0] at h1 h2
  refine ⟨?_,fun t q hq hb=>?_⟩
  ·rcases h1 with h | ⟨t,q,a,b,c⟩
   ·cases hp:p.all (bH e) with
    | true=>rw [hp,if_pos rfl] at h;exact .inl h
    | false=>rw [hp,if_neg a_] at h;exact .inr ⟨0,p,rfl,hp,h⟩
   ·exact .inr ⟨t + 1,q,a,b,by omega⟩
  ·cases t with
   | zero =>
    cases hq
    rw [hb,if_neg a_] at h1
    rcases h1 with h | ⟨t,q,a,b,c⟩<;>omega
   | succ t =>
    have:=h2 t q hq hb
    omega
structure Nc (pp:List (List bD)) (acc:List (bD×Nat)):Prop where
 at_:∀ t p,pp[t]?=some p->p=(acc.filter fun q=>decide (q.2=t)).map (·.1)
 lt:∀ q∈acc,q.2<pp.length
 top:pp.length=0\/∃ q∈acc,q.2 + 1=pp.length
theorem I_ {pp:List (List bD)}{acc:List (bD×Nat)} (G:Nc pp acc) (e:bD):U1 acc e (cS pp e):=by
 obtain ⟨h1,h2⟩:=BD e pp 0 0
 constructor
 ·rcases h1 with h | ⟨t,p,a,b,c⟩
  ·exact .inl h
  ·right
   rw [K4] at b
   obtain ⟨x,hx,hb⟩:=b
   rw [G.at_ t p a] at hx
   obtain ⟨q,hq,rfl⟩:=List.mem_map.mp hx
   obtain ⟨q1,q2⟩:=List.mem_filter.mp hq
   have q2:=of_decide_eq_true q2
   exact ⟨q,q1,by rw [my];exact Bool.eq_false_iff.mpr hb,by show IX e 0 0 pp=_;omega⟩
 ·intro q hq hb
  have hl:=G.lt q hq
  have hp:=aL hl
  have:=h2 q.2 _ hp (by
   rw [K4]
   refine ⟨q.1,?_,by rw [my,hb];exact a_⟩
   rw [G.at_ _ _ hp]
   exact iK (f:=(·.1)) (yQ (p:=fun s:bD×Nat=>decide (s.2=q.2)) |>.mpr ⟨hq,decide_eq_true rfl⟩))
  show q.2 + 1<=IX e 0 0 pp
  omega
theorem ML {pp:List (List bD)}{acc:List (bD×Nat)} (G:Nc pp acc) (e:bD):∀ t p,(fL pp e)[t]?=some p->p=(acc.filter fun q=>decide (q.2=t)).map (·.1):=by
 intro t p h
 unfold fL at h
 split at h
 ·by_cases ht:t<pp.length
  ·rw [bg ht] at h
   exact G.at_ t p h
  ·rw [aU (by omega)] at h
   have hp:p=[]:=by
    cases hk:t - pp.length with
    | zero=>rw [hk] at h;cases h;rfl
    | succ k=>rw [hk] at h;simp at h
   rw [hp,List.filter_eq_nil_iff.mpr fun q hq=>by
    have:=G.lt q hq
    simp
    omega]
   rfl
 ·exact G.at_ t p h
theorem Dz {pp:List (List bD)}{acc:List (bD×Nat)} (G:Nc pp acc) (e:bD):Nc (gy pp e) (acc++[(e,cS pp e)]):=by
 obtain ⟨p,o1,o2⟩:=uB pp e
 have og:=ML G e
 have hk:=(List.getElem?_eq_some_iff.mp o1).1
 have hle:pp.length<=(fL pp e).length:=by
  unfold fL
  split
  ·simp
  ·exact ao _
 rw [qr o1]
 refine ⟨fun t q h=>?_,fun q hq=>?_,?_⟩
 ·rw [List.filter_append,bN]
  by_cases ht:cS pp e=t
  ·subst ht
   rw [az hk] at h
   cases h
   rw [<- og _ _ o1,List.filter_cons_of_pos (by simp)]
   rfl
  ·rw [ag ht] at h
   rw [List.filter_cons_of_neg (by simpa using ht),<- og _ _ h]
   simp
 ·rw [yR]
  rcases List.mem_append.mp hq with z | z
  ·have:=G.lt q z
   omega
  ·rw [List.mem_singleton.mp z];exact hk
 ·right
  rw [yR]
  by_cases hp:cS pp e=pp.length
  ·refine ⟨(e,cS pp e),aR _ al,?_⟩
   unfold fL
   rw [if_pos hp]
   simp [hp]
  ·have h0:fL pp e=pp:=by unfold fL;rw [if_neg hp]
   rw [h0] at hk ⊢
   rcases G.top with z | ⟨q,q1,q2⟩
   ·omega
   ·exact ⟨q,eM _ q1,q2⟩
def DA:List bD->List (List bD)->List (bD×Nat)->List (bD×Nat)
 | [],_,acc=>acc
 | e::r,pp,acc=>DA r (gy pp e) (acc++[(e,cS pp e)])
theorem Hq:∀ (rs:List bD) (pp:List (List bD)) (acc:List (bD×Nat)),Nc pp acc->Nc (rs.foldl gy pp) (DA rs pp acc)
 | [],_,_,h=>h
 | e::r,pp,acc,h=>Hq r (gy pp e) _ (Dz h e)
theorem Hr:∀ (rs:List bD) (pp:List (List bD)) (acc:List (bD×Nat)),(DA rs pp acc).map (·.1)=acc.map (·.1)++rs
 | [],_,acc=>(cA _).symm
 | e::r,pp,acc=>by
  unfold DA
  rw [Hr r,bN,dR]
  rfl
theorem Ht:Nc [] []:=⟨fun t p h=>by simp at h,fun _ h=>(nomatch h),.inl rfl⟩
theorem J4 {α:Type} (d:α):∀ l:List α,(bi l.length).map (fun j=>l.getD j d)=l:=fun l=>by
 refine vI fun i=>?_
 rw [aX]
 by_cases hi:i<l.length
 ·rw [tw hi,aL hi]
  show some (l.getD i d)=_
  rw [c8,aL hi]
  rfl
 ·rw [bz (by simpa using hi),bz (by omega)]
  rfl
theorem MM {acc:List (bD×Nat)}{e:bD}{n:Nat} (h:U1 acc e n):J.Db (0::(acc.filter fun q=>!bH q.1 e).map fun q=>((q.2:Int) + 1))=(n:Int):=by
 refine (Bl (m:=(n:Int)) ?_ fun a ha=>?_).symm
 ·rcases h.1 with z | ⟨q,a,b,c⟩
  ·rw [z];exact al
  ·exact aj _ (List.mem_map.mpr ⟨q,List.mem_filter.mpr ⟨a,by rw [b];rfl⟩,by omega⟩)
 ·rcases List.mem_cons.mp ha with z | z
  ·omega
  ·obtain ⟨q,hq,rfl⟩:=List.mem_map.mp z
   obtain ⟨q1,q2⟩:=List.mem_filter.mp hq
   have:=h.2 q q1 (by simpa using q2)
   omega
inductive Sw:List bD->List bD->Prop
 | refl (l:List bD):Sw l l
 | swap (a b:bD) (l:List bD) (h:bH a b=true):Sw (a::b::l) (b::a::l)
 | cons (a:bD) {l m:List bD} (h:Sw l m):Sw (a::l) (a::m)
 | trans {l m n:List bD} (h:Sw l m) (k:Sw m n):Sw l n
theorem Fy {a b:bD} (h:bH a b=true):iQ a b=true/\iQ b a=true:=Bool.and_eq_true_iff.mp h
theorem Sw.run {l m:List bD} (h:Sw l m):∀ st,jM l st=jM m st:=by
 induction h with
 | refl l=>exact fun _=>rfl
 | swap a b l h =>
  intro st
  obtain ⟨h1,h2⟩:=Fy h
  show (if cF st a.needs a.bars then (if cF (bW a st) b.needs b.bars then jM l (bW b (bW a st)) else none) else none)=(if cF st b.needs b.bars then (if cF (bW b st) a.needs a.bars then jM l (bW a (bW b st)) else none) else none)
  rw [vV h1,vV h2,Dy h1 h2]
  cases cF st a.needs a.bars<;>cases cF st b.needs b.bars<;>rfl
 | cons a h ih =>
  intro st
  rename_i l m
  show (if cF st a.needs a.bars then jM l (bW a st) else none)=(if cF st a.needs a.bars then jM m (bW a st) else none)
  rw [ih]
 | trans h k ih jh=>exact fun st=>(ih st).trans (jh st)
theorem Sw.left (x:List bD) {l m:List bD} (h:Sw l m):Sw (x++l) (x++m):=by
 induction x with
 | nil=>exact h
 | cons a r ih=>exact .cons a ih
theorem Sw.right (y:List bD) {l m:List bD} (h:Sw l m):Sw (l++y) (m++y):=by
 induction h with
 | refl l=>exact .refl _
 | swap a b l h=>exact .swap a b (l++y) h
 | cons a h ih=>exact .cons a ih
 | trans h k ih jh=>exact .trans ih jh
theorem Hu (e:bD):∀ (l:List bD),(∀ a∈l,bH a e=true)->Sw (l++[e]) (e::l)
 | [],_=>.refl _
 | a::l,h=>.trans (.cons a (Hu e l fun b hb=>h b (aj _ hb))) (.swap a e l (h a al))
theorem P7 {l m:List bD} (p:l.Perm m):(l.Pairwise fun a b=>bH a b=true)->Sw l m:=by
 induction p with
 | nil=>exact fun _=>.refl _
 | cons x p ih=>exact fun h=>.cons x (ih (List.pairwise_cons.mp h).2)
 | swap x y l=>exact fun h=>.swap y x l ((List.pairwise_cons.mp h).1 x al)
 | trans p q ih jh=>exact fun h=>.trans (ih h) (jh ((p.pairwise_iff fun {x y} z=>by rw [my];exact z).mp h))
theorem Fz {p:List bD}{e:bD} (h:p.Pairwise fun a b=>bH a b=true) (k:∀ a∈p,bH a e=true):(p++[e]).Pairwise fun a b=>bH a b=true :=
 List.pairwise_append.mpr ⟨h,List.pairwise_singleton _ _,fun a ha b hb=>by rw [List.mem_singleton.mp hb];exact k a ha⟩
theorem FA {pp:List (List bD)}{e:bD}:∀ t p,(fL pp e)[t]?=some p->cS pp e<=t->∀ a∈p,bH a e=true:=by
 intro t p h ht a ha
 unfold fL at h
 have old:pp[t]?=some p->bH a e=true:=fun h=>by
  cases hb:p.all (bH e) with
  | true=>rw [my];exact List.all_eq_true.mp hb a ha
  | false =>
   have:=(BD e pp 0 0).2 t p h hb
   have:0 + t + 1<=cS pp e:=this
   omega
 split at h
 ·by_cases hl:t<pp.length
  ·rw [bg hl] at h
   exact old h
  ·rw [aU (by omega)] at h
   cases hk:t - pp.length with
   | zero=>rw [hk] at h;cases h;cases ha
   | succ k=>rw [hk] at h;simp at h
 ·exact old h
theorem J5 (pp:List (List bD)) (e:bD):(fL pp e).flatten=pp.flatten:=by
 unfold fL
 split
 ·simp
 ·rfl
theorem P8 {pp:List (List bD)} (hp:∀ p∈pp,p.Pairwise fun a b=>bH a b=true) (e:bD):Sw (pp.flatten++[e]) (gy pp e).flatten/\∀ p∈gy pp e,p.Pairwise fun a b=>bH a b=true:=by
 obtain ⟨p,o1,o2⟩:=uB pp e
 have ho:∀ p∈fL pp e,p.Pairwise fun a b=>bH a b=true:=fun p h=>by
  unfold fL at h
  split at h
  ·rcases List.mem_append.mp h with z | z
   ·exact hp p z
   ·rw [List.mem_singleton.mp z];exact .nil
  ·exact hp p h
 have pf:=FA (pp:=pp) (e:=e)
 obtain ⟨hl,hpe⟩:=List.getElem?_eq_some_iff.mp o1
 rw [qr o1,<- J5 pp e]
 generalize fL pp e=qq at *
 generalize cS pp e=k at *
 constructor
 ·have e1:qq=qq.take k++p::qq.drop (k + 1):=by
   rw [<- hpe,List.getElem_cons_drop,EI]
  have e2:qq.set k (p++[e])=qq.take k++(p++[e])::qq.drop (k + 1):=by
   rw [List.set_eq_take_append_cons_drop,if_pos hl]
  rw [e2]
  have:qq.flatten=(qq.take k).flatten++(p++(qq.drop (k + 1)).flatten):=by
   conv=>lhs;rw [e1]
   rw [HQ,jy]
  rw [this,HQ,jy,dR,dR,dR]
  refine Sw.left _ (Sw.left _ (Hu e _ fun a ha=>?_))
  obtain ⟨q,hq,haq⟩:=List.mem_flatten.mp ha
  obtain ⟨i,hi,hx⟩:=lr hq
  refine pf (k + 1 + i) q ?_ (by omega) a haq
  rw [<- hx,<- List.getElem?_drop,aL hi]
 ·intro q hq
  rcases AB hq with z | z
  ·exact ho q z
  ·rw [z]
   exact Fz (ho p (b_ o1)) (pf k p o1 (ao _))
theorem Al:∀ (rs:List bD) (pp:List (List bD)),(∀ p∈pp,p.Pairwise fun a b=>bH a b=true)->Sw (pp.flatten++rs) (rs.foldl gy pp).flatten/\∀ p∈rs.foldl gy pp,p.Pairwise fun a b=>bH a b=true
 | [],pp,h=>⟨by rw [cA];exact .refl _,h⟩
 | e::r,pp,h=>by
  obtain ⟨s1,s2⟩:=P8 h e
  obtain ⟨r1,r2⟩:=Al r (gy pp e) s2
  refine ⟨?_,r2⟩
  rw [show pp.flatten++e::r=(pp.flatten++[e])++r by simp]
  exact .trans (s1.right r) r1
inductive Nd:List (List bD)->List bD->Prop
 | nil:Nd [] []
 | cons {p q:List bD}{pp:List (List bD)}{m:List bD} (h:p.Perm q) (r:Nd pp m):Nd (p::pp) (q++m)
theorem Nd.sw {pp:List (List bD)}{m:List bD} (h:Nd pp m) (hp:∀ p∈pp,p.Pairwise fun a b=>bH a b=true):Sw pp.flatten m:=by
 induction h with
 | nil=>exact .refl _
 | @cons p q pp m h r ih =>
  rw [jy]
  exact .trans ((P7 h (hp p al)).right _) ((ih fun a ha=>hp a (aj _ ha)).left q)
theorem Nd.mem {pp:List (List bD)}{m:List bD} (h:Nd pp m):∀ a∈m,∃ p∈pp,a∈p:=by
 induction h with
 | nil=>exact fun _ h=>(nomatch h)
 | @cons p q pp m h r ih =>
  intro a ha
  rcases List.mem_append.mp ha with z | z
  ·exact ⟨p,al,h.mem_iff.mpr z⟩
  ·obtain ⟨p',k1,k2⟩:=ih a z
   exact ⟨p',aj _ k1,k2⟩
theorem Nd.len {pp:List (List bD)}{m:List bD} (h:Nd pp m):m.length=pp.flatten.length:=by
 induction h with
 | nil=>rfl
 | @cons p q pp m h r ih=>rw [aH,jy,aH,ih,h.length_eq]
theorem Sw.len {l m:List bD} (h:Sw l m):l.length=m.length:=by
 induction h with
 | refl l=>rfl
 | swap a b l h=>rfl
 | cons a h ih=>simp [ih]
 | trans h k ih jh=>exact ih.trans jh
theorem jF {α:Type}:∀ (l:List α) (k:Nat) (x:α),l[k]?=some x->l.Perm (x::l.eraseIdx k)
 | [],k,x,h=>by simp at h
 | a::l,0,x,h=>by cases h;exact .refl _
 | a::l,k + 1,x,h=>by
  have h':l[k]?=some x:=h
  exact ((jF l k x h').cons a).trans (.swap x a _)
theorem J6 {fs:List Str}{w v:List Str×List Str} (hw:jn fs w.1 w.2) (hv:jn fs v.1 v.2) (h:∀ st,cF st w.1 w.2=cF st v.1 v.2):w=v:=by
 have self:∀ {w:List Str×List Str},jn fs w.1 w.2->∀ st,(∀ x∈w.1,x∈st)->(∀ x∈w.2,x∉st)->cF st w.1 w.2=true:=fun _ st h1 h2=>ik.mpr ⟨h1,h2⟩
 have sub1:∀ {w v:List Str×List Str},jn fs w.1 w.2->jn fs v.1 v.2->(∀ st,cF st w.1 w.2=cF st v.1 v.2)->∀ x∈v.1,x∈w.1:=fun {w v} hw hv h x hx=>by
  have:=self hw w.1 (fun _ z=>z) fun y hy z=>hw.mb y z hy
  rw [h] at this
  exact (ik.mp this).1 x hx
 have sub2:∀ {w v:List Str×List Str},jn fs w.1 w.2->jn fs v.1 v.2->(∀ st,cF st w.1 w.2=cF st v.1 v.2)->∀ x∈w.2,x∈v.2:=fun {w v} hw hv h x hx=>by
  refine Classical.byContradiction fun hn=>?_
  have:=self hv (x::v.1) (fun _ z=>aj _ z) fun y hy z=>by
   rcases List.mem_cons.mp z with e | e
   ·exact hn (e ▸ hy)
   ·exact hv.mb y e hy
  rw [<- h] at this
  exact (ik.mp this).2 x hx al
 have h':=fun st=>(h st).symm
 have e1:w.1=v.1:=Bw hw.must.up hv.must.up fun x=>⟨sub1 hv hw h' x,sub1 hw hv h x⟩
 have e2:w.2=v.2:=Bw hw.bars.up hv.bars.up fun x=>⟨sub2 hw hv h x,sub2 hv hw h' x⟩
 exact Prod.ext e1 e2
theorem J7 {fs m b:List Str}{es rs qs:List bD} (g:eG fs es) (hw:jn fs m b) (hr:∀ e∈rs,e∈es) (hq:∀ e∈qs,e∈es) (h:∀ st,jM rs st=jM qs st):kP rs (m,b)=kP qs (m,b):=by
 have k:∀ st,oF st m b rs=oF st m b qs:=fun st=>by unfold oF;rw [h st]
 have no:∀ {w:List Str×List Str},jn fs w.1 w.2->cF w.1 w.1 w.2=true:=fun hw=>ik.mpr ⟨fun _ z=>z,fun y hy z=>hw.mb y z hy⟩
 cases h1:kP rs (m,b) with
 | none =>
  cases h2:kP qs (m,b) with
  | none=>rfl
  | some v =>
   have:=k v.1
   rw [lJ g rs v.1 hr,lJ g qs v.1 hq,h1,h2] at this
   have z:false=cF v.1 v.1 v.2:=this
   rw [no (li g hw hq h2)] at z
   cases z
 | some w =>
  cases h2:kP qs (m,b) with
  | none =>
   have:=k w.1
   rw [lJ g rs w.1 hr,lJ g qs w.1 hq,h1,h2] at this
   have z:cF w.1 w.1 w.2=false:=this
   rw [no (li g hw hr h1)] at z
   cases z
  | some v =>
   refine congrArg some (J6 (li g hw hr h1) (li g hw hq h2) fun st=>?_)
   have:=k st
   rw [lJ g rs st hr,lJ g qs st hq,h1,h2] at this
   exact this
theorem DB {ns:List Int} (h:ns≠[]):Dd (.list (ns.map .int))=.ok (.int (J.Db ns)):=by
 unfold Dd
 simp only [xP,if_pos (List.length_pos_iff.mpr h)]
def MN:bD×Nat:=(⟨"",[],[],[],[],0⟩,0)
theorem BE {α:Type}{l:List α}{j:Nat} (d:α) (h:j<l.length):l[j]?=some (l.getD j d):=by
 rw [c8,aL h]
 rfl
theorem FC {acc:List (bD×Nat)} (p:bD×Nat->Bool) (f:bD×Nat->D):((bi acc.length).filter fun j=>p (acc.getD j MN)).map (fun j=>f (acc.getD j MN))=(acc.filter p).map f:=by
 have h:=J4 MN acc
 have e:=congrArg (fun l=>(l.filter p).map f) h
 rw [List.filter_map,dU] at e
 exact e
def U2:ap->R Fl:=qg 2 (g2 (kI 1) (ca (J.aa (g2 (fH (J.aa (kI 0) J.aG) .list) (eB 1 [0,1,4,2] (ub (J.aa (rB 3) J.aG)) (gY (fE (dC 3 nA (J.aa (rS 1) (J.aa (g2 (rB 2) (rB 0) b9) (J.aa (rS 3) J.aG)))))) (g2 (rB 4) (rB 0) b9)) dk) J.aG) (gX Dd)) dk)
abbrev uC (acc:List (bD×Nat)):D:=.list (acc.map fun q=>bT ((q.2:Int) + 1))
theorem P9 {fs:List Str}{es rs:List bD} (g:eG fs es) (hr:JM es rs) {acc:List (bD×Nat)}{e:bD}{r:List bD}{pp:List (List bD)} (G:Nc pp acc) (hs:rs=acc.map (·.1)++e::r) :
  U2 [.shr (ev fs es),.shr (dD rs),.own (uC acc),.shr (.int (acc.length:Nat)),.shr (.str e.name)]=.ok (.nx [.shr (ev fs es),.shr (dD rs),.own (uC (acc++[(e,cS pp e)])),.shr (.int (acc.length:Nat)),.shr (.str e.name)]):=by
 have hl:=hr.len
 have hlen:acc.length<rs.length:=by rw [hs,aH,av,aW];omega
 have hee:e∈es:=hr.mem e (by rw [hs];exact aR _ al)
 have hmem:∀ j,j<acc.length->(acc.getD j MN).1∈es:=fun j hj=>hr.mem _ (by
  rw [hs]
  exact eM _ (iK (f:=(·.1)) (b_ (BE MN hj))))
 have hrow:∀ j,j<acc.length->b9 (dD rs) (.int (j:Nat))=.ok (.str (acc.getD j MN).1.name):=fun j hj=>qJ (by
  rw [hs,bN,dU,bg (by rw [av];exact hj),aX,BE MN hj]
  rfl)
 have hnum:∀ j,j<acc.length->b9 (uC acc) (.int (j:Nat))=.ok (.int (((acc.getD j MN).2:Int) + 1)):=fun j hj=>qJ (by
  rw [aX,BE MN hj]
  rfl)
 have key:gG (ir 1 [.no,.shr (ev fs es),.shr (dD rs),.shr (.str e.name),.lck (uC acc)] (gY (fE (dC 3 nA (J.aa (rS 1) (J.aa (g2 (rB 2) (rB 0) b9) (J.aa (rS 3) J.aG)))))) (g2 (rB 4) (rB 0) b9)) ((bi acc.length).map fun (j:Nat)=>bT (j:Int))=.ok (((acc.filter fun q=>!bH q.1 e).map fun q=>((q.2:Int) + 1)).map .int):=by
  rw [ia _ (fun (j:Nat)=>bT (j:Int)) (fun j=>bT (((acc.getD j MN).2:Int) + 1)) (fun j=>!bH (acc.getD j MN).1 e) (bi acc.length) fun j hj=>ug (by
   have hj:=List.mem_range.mp hj
   walk_at "zz"
   rw [hrow j hj]
   walk_at "zz"
   rw [IW g (hmem j hj) hee]
   walk_at "zz") fun _=>(by
   have hj:=List.mem_range.mp hj
   walk_at "zz"
   rw [hnum j hj])]
  rw [FC (fun q=>!bH q.1 e) (fun q=>bT ((q.2:Int) + 1)),dU]
  rfl
 have la:(acc.filter fun q=>!bH q.1 e).length<=acc.length:=kh _ _
 unfold U2
 rw [Dm (ds:=acc.map fun q=>bT ((q.2:Int) + 1)) (d:=.int ((cS pp e:Int) + 1)) rfl ?_ (by rw [av];omega)]
 ·show R.ok (Fl.nx [_,_,Sl.own (.list _),_,_])=_
  unfold uC
  rw [bN]
  rfl
 ·walk_at "zz"
  rw [ur _ (by omega)]
  walk_at "zz"
  rw [dS,if_pos (by omega),key]
  walk_at "zz"
  rw [if_pos (by omega)]
  walk_at "zz"
  rw [show (bT 0::((acc.filter fun q=>!bH q.1 e).map fun q=>((q.2:Int) + 1)).map bT)=(0::(acc.filter fun q=>!bH q.1 e).map fun q=>((q.2:Int) + 1)).map .int from rfl]
  rw [DB (by simp),MM (I_ G e)]
  walk_at "zz"
  rw [Int.add_comm]
theorem Hv {fs:List Str}{es rs:List bD} (g:eG fs es) (hr:JM es rs):∀ (r:List bD) (acc:List (bD×Nat)) (pp:List (List bD)) (z3 z4:Sl),Nc pp acc->rs=acc.map (·.1)++r ->
  ∃ y3 y4,gx (iu 2 (bC (bc 3) (bC (bc 4) iU))) U2 (gF acc.length (r.map fun e=>aD e.name)) [.shr (ev fs es),.shr (dD rs),.own (uC acc),z3,z4]=.ok (.nx [.shr (ev fs es),.shr (dD rs),.own (uC (DA r pp acc)),y3,y4])
 | [],acc,pp,z3,z4,_,_=>⟨z3,z4,rfl⟩
 | e::r,acc,pp,z3,z4,G,hs=>by
  have q1:=P9 g hr G hs
  obtain ⟨y3,y4,q⟩:=Hv g hr r (acc++[(e,cS pp e)]) (gy pp e) (.shr (.int (acc.length:Nat))) (.shr (.str e.name)) (Dz G e) (by rw [hs,bN,dR];rfl)
  refine ⟨y3,y4,?_⟩
  rw [aO,show gF acc.length (aD e.name::r.map fun e=>aD e.name)=.tuple [.int (acc.length:Nat),.str e.name]::gF (acc.length + 1) (r.map fun e=>aD e.name) from rfl]
  rw [aH,du] at q
  have hk:iu 2 (bC (bc 3) (bC (bc 4) iU)) (.tuple [.int (acc.length:Nat),.str e.name]) [.shr (ev fs es),.shr (dD rs),.own (uC acc),z3,z4]=.ok [.shr (ev fs es),.shr (dD rs),.own (uC acc),.shr (.int (acc.length:Nat)),.shr (.str e.name)]:=rfl
  have h2:=oG (r:=gF (acc.length + 1) (r.map fun e=>aD e.name)) hk q1
  exact h2.trans q
theorem MO {pp:List (List bD)}{acc:List (bD×Nat)} (G:Nc pp acc):J.Db (0::acc.map fun q=>((q.2:Int) + 1))=(pp.length:Int):=by
 refine (Bl (m:=(pp.length:Int)) ?_ fun a ha=>?_).symm
 ·rcases G.top with z | ⟨q,q1,q2⟩
  ·rw [z];exact al
  ·exact aj _ (List.mem_map.mpr ⟨q,q1,by omega⟩)
 ·rcases List.mem_cons.mp ha with z | z
  ·omega
  ·obtain ⟨q,hq,rfl⟩:=List.mem_map.mp z
   have:=G.lt q hq
   omega
theorem Pa {fs:List Str}{es rs:List bD} (g:eG fs es) (hr:JM es rs):kd [ev fs es,dD rs]=.ok (.int ((rs.foldl gy []).length:Nat)):=by
 have hl:=hr.len
 have G:=Hq rs [] [] Ht
 have hf:=Hr rs [] []
 rw [dQ,dZ] at hf
 have hlen:(DA rs [] []).length=rs.length:=by
  have:=congrArg n8 hf
  rwa [av] at this
 obtain ⟨y3,y4,q⟩:=Hv g hr rs [] [] .no .no Ht rfl
 unfold kd
 refine cq ?_
 unfold kc bF
 walk_at "zz"
 rw [nu (ds:=gF 0 (rs.map fun e=>aD e.name))]
 ·have q':gx (iu 2 (bC (bc 3) (bC (bc 4) iU))) U2 (gF 0 (rs.map fun e=>aD e.name)) [.shr (ev fs es),.shr (dD rs),.own (.list []),.no,.no]=_:=q
  show ((gx (iu 2 (bC (bc 3) (bC (bc 4) iU))) U2 (gF 0 (rs.map fun e=>aD e.name)) [.shr (ev fs es),.shr (dD rs),.own (.list []),.no,.no]).bind _)=_
  rw [q']
  walk_at "zz"
  rw [if_pos (by omega)]
  walk_at "zz"
  rw [show (bT 0::(DA rs [] []).map fun q=>bT ((q.2:Int) + 1))=(0::(DA rs [] []).map fun q=>((q.2:Int) + 1)).map .int from by rw [aO,dU];rfl]
  rw [DB (by simp),MO G]
  walk_at "zz"
 ·rw [MF]
  walk_at "zz"
  rw [Hm]
theorem DC {fs st:List Str}{es rs:List bD} (g:eG fs es) (h:JM es rs) (hs:wy fs st) {x:List Str} (hx:jM rs st=some x):∃ pre:List (List Str),uk [ev fs es,bh st,dD rs]=.ok (.list (pre.map bh++[bh x])):=by
 obtain ⟨pre,hp⟩:=yd rs st x hx
 refine ⟨pre,?_⟩
 have ht:=Ah rs st
 rw [hx] at ht
 have ht:=of_decide_eq_true ht
 unfold uk
 refine cq ?_
 unfold wR bF
 walk_at "zz"
 rw [Mx g hs]
 walk_at "zz"
 rw [sF g h]
 walk_at "zz"
 rw [Fw g h hs]
 walk_at "zz"
 rw [decide_eq_false (by omega)]
 walk_at "zz"
 rw [hp,bN]
 rfl
def Uj:ap->R Fl:=o6 6 8 (dC 3 ba (J.aa (rS 0) (J.aa (g2 (kI 400) (ca (J.aa (rB 6) J.aG) (gX iI)) dk) (J.aa (ca (J.aa (rB 8) J.aG) (gX iI)) J.aG))))
def Uk:ap->R Bool:=fE (g2 (rB 8) (fH J.aG .list) (lA true))
def U3:ap->R Fl:=aS (gO 8 (xT (rB 7))) (mS Uk Uj 100000)
theorem MP {i j:Nat}{g:ap->R D}{ρ:ap}{ys xs:List D}{k:Nat}{y:D} (hi:ρ[i]?=some (Sl.own (.list ys))) (hj:ρ[j]?=some (Sl.own (.list xs))) (hn:i≠j) (hg:g ρ=.ok (.int (k:Nat))) (hk:k<1000) (hl:ys.length<1000) (hy:xs[k]?=some y):o6 i j g ρ=.ok (.nx ((ρ.set j (.own (.list (xs.eraseIdx k)))).set i (.own (.list (ys++[y]))))):=by
 unfold o6
 simp only [hi,hj,if_neg hn,hg,bind_ok]
 rw [if_pos ⟨by omega,by omega,hl⟩]
 simp only [eR,hy]
theorem Am {α β:Type} (f:α->β):∀ (l:List α) (k:Nat),(l.map f).eraseIdx k=(l.eraseIdx k).map f
 | [],_=>rfl
 | a::l,0=>rfl
 | a::l,k + 1=>congrArg (f a::·) (Am f l k)
theorem DD {fs:List Str}{es:List bD} (g:eG fs es) (ns:List Int) (A1 A2 A3 A4 A5 A7:Sl):∀ (n fuel:Nat) (l M:List bD),l.length=n->n<fuel->(∀ e∈l,e∈es)->l.length<=100->M.length + l.length<=900 ->
  ∃ q,l.Perm q/\mS Uk Uj fuel [.shr (.list (ns.map .int)),A1,A2,A3,A4,A5,.own (dD M),A7,.own (dD l)]=.ok (.nx [.shr (.list (ns.map .int)),A1,A2,A3,A4,A5,.own (dD (M++q)),A7,.own (.list [])])
 | _,0,_,_,_,hf,_,_,_=>absurd hf (Nat.not_lt_zero _)
 | n,fuel + 1,l,M,hn,hf,hm,hl,hM=>by
  have lay:bJ (l.map fun e=>aD e.name)=true:=yb _ l fun e he=>uu (g.ok e (hm e he)).name
  have ht:Uk [.shr (.list (ns.map .int)),A1,A2,A3,A4,A5,.own (dD M),A7,.own (dD l)]=.ok (!decide (l=[])):=by
   unfold Uk
   walk_at "zz"
   rw [P1 _ lay]
   walk_at "zz"
   rw [show decide ((l.map fun e=>aD e.name)=[])=decide (l=[]) by rw [j9];simp]
  rw [mS,ht]
  by_cases hz:l=[]
  ·subst hz
   exact ⟨[],.nil,by rw [cA];rfl⟩
  ·rw [decide_eq_false hz]
   simp only [jx]
   have hp:0<l.length:=List.length_pos_iff.mpr hz
   have m0:=eN ns (400 + (M.length:Nat)) (l.length:Nat) (by omega)
   have m1:=fF ns (400 + (M.length:Nat)) (l.length:Nat) (by omega)
   obtain ⟨k,hk⟩:∃ k:Nat,eQ ns (400 + (M.length:Nat)) (l.length:Nat)=k:=⟨_,(dY m0).symm⟩
   have hkl:k<l.length:=by omega
   have hx:=aL hkl
   have el:(l.eraseIdx k).length=l.length - 1:=lX hkl
   obtain ⟨q,q1,q2⟩:=DD g ns A1 A2 A3 A4 A5 A7 (n - 1) fuel (l.eraseIdx k) (M++[l[k]]) (by omega) (by omega) (fun e he=>hm e (List.mem_of_mem_eraseIdx he)) (by omega) (by rw [aH,du];omega)
   refine ⟨l[k]::q,(jF l k _ hx).trans (q1.cons _),?_⟩
   have hb:Uj [.shr (.list (ns.map .int)),A1,A2,A3,A4,A5,.own (dD M),A7,.own (dD l)]=.ok (.nx [.shr (.list (ns.map .int)),A1,A2,A3,A4,A5,.own (dD (M++[l[k]])),A7,.own (dD (l.eraseIdx k))]):=by
    unfold Uj
    rw [MP (ys:=M.map fun e=>aD e.name) (xs:=l.map fun e=>aD e.name) (k:=k) (y:=.str (l[k]).name) rfl rfl (by decide) ?_ (by omega) (by rw [av];omega) (by rw [aX,hx];rfl)]
    ·rw [Am]
     show R.ok (Fl.nx [_,_,_,_,_,_,Sl.own (.list _),_,Sl.own (.list _)])=_
     unfold dD
     rw [bN]
     rfl
    ·walk_at "zz"
     rw [eP ns _ _ (by omega) (by omega),hk]
   rw [hb]
   simp only
   rw [q2,dR]
   rfl
theorem Hw {fs:List Str}{es:List bD} (g:eG fs es) (ns:List Int) (A1 A2 A3 A4 A5:Sl):∀ (pp:List (List bD)) (M:List bD) (z7 z8:Sl),(∀ p∈pp,p.length<=100/\∀ e∈p,e∈es)->M.length + pp.flatten.length<=800 ->
  ∃ m y7 y8,Nd pp m/\gx (bc 7) U3 (ke pp) [.shr (.list (ns.map .int)),A1,A2,A3,A4,A5,.own (dD M),z7,z8]=.ok (.nx [.shr (.list (ns.map .int)),A1,A2,A3,A4,A5,.own (dD (M++m)),y7,y8])
 | [],M,z7,z8,_,_=>⟨[],z7,z8,.nil,by rw [cA];rfl⟩
 | p::pp,M,z7,z8,h,hM=>by
  rw [jy,aH] at hM
  obtain ⟨h1,h2⟩:=h p al
  obtain ⟨q,q1,q2⟩:=DD g ns A1 A2 A3 A4 A5 (.shr (dD p)) p.length 100000 p M rfl (by omega) h2 h1 (by omega)
  obtain ⟨m,y7,y8,r1,r2⟩:=Hw g ns A1 A2 A3 A4 A5 pp (M++q) (.shr (dD p)) (.own (.list [])) (fun a ha=>h a (aj _ ha)) (by rw [aH,<- q1.length_eq];omega)
  refine ⟨q++m,y7,y8,.cons q1 r1,?_⟩
  have hb:U3 [.shr (.list (ns.map .int)),A1,A2,A3,A4,A5,.own (dD M),.shr (dD p),z8]=.ok (.nx [.shr (.list (ns.map .int)),A1,A2,A3,A4,A5,.own (dD (M++q)),.shr (dD p),.own (.list [])]):=by
   unfold U3
   rw [vR,show gO 8 (xT (rB 7)) [.shr (.list (ns.map .int)),A1,A2,A3,A4,A5,.own (dD M),.shr (dD p),z8]=.ok (.nx [.shr (.list (ns.map .int)),A1,A2,A3,A4,A5,.own (dD M),.shr (dD p),.own (dD p)]) from rfl,bind_ok,qi]
   exact q2
  have hk:bc 7 (.list (p.map fun e=>aD e.name)) [.shr (.list (ns.map .int)),A1,A2,A3,A4,A5,.own (dD M),z7,z8]=.ok [.shr (.list (ns.map .int)),A1,A2,A3,A4,A5,.own (dD M),.shr (dD p),z8]:=rfl
  have h3:=oG (r:=ke pp) hk hb
  rw [<- dR]
  exact h3.trans r2
theorem Pb {fs:List Str} (hf:∀ x∈fs,xV x=true) {o:Option (List Str×List Str)} (h:∀ w,o=some w->jn fs w.1 w.2):lA false (IV o) (IV o)=.ok (.bool true):=by
 cases o with
 | none=>exact OW (by decide +kernel)
 | some w =>
  have gw:=h w rfl
  show lA false (i3 w.1 w.2) (i3 w.1 w.2)=_
  have h1:(i3 w.1 w.2).canLay0=true:=by
   simp only [dO,bJ]
   rw [nC w.1 fun x hx=>hf x (gw.must.mem x hx),nC w.2 fun x hx=>hf x (gw.bars.mem x hx)]
   rfl
  have h2:(i3 w.1 w.2).depth<=60:=by
   have d1:=rc aD 0 (fun x=>by simp [oX]) w.1
   have d2:=rc aD 0 (fun x=>by simp [oX]) w.2
   simp only [oX,pd]
   omega
  have h3:bn (i3 w.1 w.2) (i3 w.1 w.2)=true:=by
   simp only [bn,iL]
   rw [r9 aD (fun x=>by rw [ms];simp) w.1,r9 aD (fun x=>by rw [ms];simp) w.2]
   rfl
  unfold lA
  rw [h1,h3,decide_eq_true (bU (Nat.min_le_left _ _) h2)]
  rfl
theorem Hx {fs:List Str}{es:List bD} (g:eG fs es):∀ (rs:List bD) (st x:List Str),wy fs st->(∀ e∈rs,e∈es)->jM rs st=some x->wy fs x
 | [],st,x,hs,_,h=>by cases h;exact hs
 | e::r,st,x,hs,hm,h=>by
  replace h:(if cF st e.needs e.bars then jM r (bW e st) else none)=some x:=h
  split at h
  ·exact Hx g r _ x (sD g.rise.up (g.ok e (hm e al)) hs) (fun a ha=>hm a (aj _ ha)) h
  ·cases h
theorem law_true (ns:List Int):F_law [.list (ns.map .int)]=.ok (.bool true):=by
 obtain ⟨fs,es,ss,wm,wb,hc,gb,gs,gw⟩:=OU ns 6 6 (by decide) (by decide) (by decide) (by decide)
 have m0:=eN ns 0 11 (by decide)
 have m1:=fF ns 0 11 (by decide)
 obtain ⟨rs,r1,⟨x,rx⟩,r2⟩:=P3 gb ns 300 (eQ ns 0 11) (by decide) m0 (by omega) gs
 have hl:=r1.len
 obtain ⟨_,_,a1,a2,_⟩:=BC gb (ev fs es) (dD rs) rs [] 0 .no .no r1.mem (fun _ h=>(nomatch h)) (by omega) (cn _)
 obtain ⟨s1,s2⟩:=Al rs [] (fun _ h=>(nomatch h))
 rw [List.flatten_nil,dZ] at s1
 have fl:(rs.foldl gy []).flatten.length=rs.length:=s1.len.symm
 have le:=Pa gb r1
 have re:=IZ gb r1
 generalize rs.foldl gy []=pp at *
 obtain ⟨m,y7,y8,mx,q⟩:=Hw gb ns (.shr (ev fs es)) (.shr (bh ss)) (.shr (i3 wm wb)) (.shr (dD rs)) (.shr (.list (ke pp))) pp [] .no .no (fun p hp=>⟨by have:=(a1 p hp).1;omega,(a1 p hp).2⟩) (by rw [c7];omega)
 have sw:=s1.trans (mx.sw s2)
 have hm:JM es m:=⟨fun a ha=>by obtain ⟨p,p1,p2⟩:=mx.mem a ha;exact (a1 p p1).2 a p2,by rw [mx.len,fl];exact hl⟩
 have rx':jM m ss=some x:=(sw.run ss).symm.trans rx
 obtain ⟨pre,e1⟩:=DC gb r1 gs rx
 obtain ⟨pre',e2⟩:=DC gb hm gs rx'
 have hsx:=Hx gb rs ss x gs r1.mem rx
 have as:=J7 gb gw r1.mem hm.mem sw.run
 unfold F_law
 refine cq ?_
 unfold H9 bF
 walk_at "yy"
 rw [hc]
 walk_at "yy"
 rw [Vg]
 walk_at "yy"
 rw [eP ns 0 11 (by decide) (by decide)]
 walk_at "yy"
 rw [r2]
 walk_at "yy"
 rw [re]
 walk_at "zz"
 rw [le]
 walk_at "zz"
 rw [kL]
 walk_at "zz"
 rw [MB (d:=.list (ke pp)) rfl,nu (ds:=ke pp)]
 ·have q':gx (bc 7) U3 (ke pp) [.shr (.list (ns.map .int)),.shr (ev fs es),.shr (bh ss),.shr (i3 wm wb),.shr (dD rs),.shr (.list (ke pp)),.own (.list []),.no,.no]=_:=q
  show ((gx (bc 7) U3 (ke pp) [.shr (.list (ns.map .int)),.shr (ev fs es),.shr (bh ss),.shr (i3 wm wb),.shr (dD rs),.shr (.list (ke pp)),.own (.list []),.no,.no]).bind _)=_
  rw [q',dZ]
  walk_at "zz"
  simp only [RT]
  rw [Fi rfl]
  simp only [m9,m8]
  walk_at "zz"
  rw [e2]
  walk_at "zz"
  rw [Dq]
  walk_at "zz"
  rw [uA]
  walk_at "zz"
  rw [Bx]
  walk_at "zz"
  rw [e1]
  walk_at "zz"
  rw [Dq]
  walk_at "zz"
  rw [uA]
  walk_at "zz"
  rw [Bx]
  walk_at "zz"
  rw [Dp fun y hy=>gb.rise.ok y (hsx.mem y hy)]
  walk_at "zz"
  rw [Dw gb hm gw,<- as]
  walk_at "zz"
  rw [Dw gb r1 gw]
  walk_at "zz"
  rw [Pb gb.rise.ok fun w hw=>li gb gw r1.mem hw]
  walk_at "zz"
 ·walk_at "zz"
end Z
end
namespace Z
open PySem L2 J
section
def top (i:Nat):cC:=PySem.Challenge.pw_errands_k23_whole_rounds.main.body.getD i (.Pass ⟨0,0,0,0⟩)
section
variable {e:En}
abbrev k_:cC:=top 12
abbrev uD:List Str:=["one","other"]
theorem zo:bw uD ["one","other"] (aA k_):=da (by decide +kernel)
abbrev il (e:En):=FN e "share_none" 1 2 cz
theorem zq (D:fX e.K e.mg "share_none" k_) (B:Bi e.mg):il e:=mT (k:=0) (g:=jl) D zo b2 fun _ _ _ _ _ _ _ hr=>by unfold jl;exact (aI (bt (KS (bP (L6 rfl) rfl B.any xf (br (JE.bor (JN.je (eZ (N':=["fact","other"]) (ix:=[1]) 1 (by decide) rfl (c9 (so:=aA k_) (N:=uD) (by decide +kernel)) (fu (ak 0)) (fun cl A0 s0 H0 ex pn=>⟨cO (i:=0) (by show (["fact","other"] : List Str).Nodup;decide +kernel) rfl (.inl rfl),eY,(nX (CG) (ak 0) (ak 1))⟩)))) bO)))))
abbrev rg:cC:=top 13
abbrev An:List Str:=["facts","others"]
theorem FD:bw An ["facts","others"] (aA rg):=da (by decide +kernel)
abbrev vn (e:En):=FN e "without" 1 2 jJ
theorem FE (D:fX e.K e.mg "without" rg) (B:Bi e.mg):vn e:=mT (k:=0) (g:=qR) D FD b2 fun _ _ _ _ _ _ _ hr=>by unfold qR;exact (aI (bt (fj (iJ rfl) rfl B.tuple bf (br (JE.bor (JN.je (eZ (N':=["fact","others"]) (ix:=[1]) 1 (by decide) rfl (c9 (so:=aA rg) (N:=An) (by decide +kernel)) (fu (ak 0)) (fun cl A0 s0 H0 ex pn=>⟨cO (i:=0) (by show (["fact","others"] : List Str).Nodup;decide +kernel) rfl (.inl rfl),(n_ (dh (xz) (ak 0) (ak 1))),(ai 0)⟩)))) bO))))
abbrev yf:cC:=top 14
abbrev MQ:List Str:=["one","other"]
theorem J8:bw MQ ["one","other"] (aA yf):=da (by decide +kernel)
abbrev yg (e:En):=FN e "joined" 1 2 ny
theorem J9 (D:fX e.K e.mg "joined" yf) (B:Bi e.mg):yg e:=mT (k:=0) (g:=uh) D J8 b2 fun _ _ _ _ _ _ _ hr=>by unfold uh;exact (aI (bt (fj (iJ rfl) rfl B.tuple bf (br (JE.bor (sv rfl (Rm (Be rfl (ak 0) rfl B.set) (Be rfl (ak 1) rfl B.set)) rfl B.sorted)) bO))))
abbrev rh:cC:=top 15
abbrev Ao:List Str:=["thing"]
theorem FF:bw Ao ["thing"] (aA rh):=da (by decide +kernel)
abbrev vo (e:En):=FN e "is_word" 1 1 nz
theorem FG (D:fX e.K e.mg "is_word" rh) (B:Bi e.mg) (lK:Cn e.mg "MOST_LETTERS" 6):vo e:=mT (k:=0) (g:=qS) D FF b1 fun _ _ _ _ _ _ _ hr=>by unfold qS;exact (aq (d_ (JW.t (oY (en (eh (mO (ak 0) rfl B.isinstance rfl B.str xg (by decide)))) (kJ (en (Lh (xy) (xy) (JE.bor aF) (JE.bor (bP g6 rfl B.len bx (br (ak 0) bO))) (JE.bor (p_ rfl lK))))))) (aI (bt lw)) cg) (aI (bt (bP (mP rfl) rfl B.all cp (br (JE.bor (JN.je (eZ (N':=["sign"]) (ix:=[]) 1 (by decide) rfl (c9 (so:=aA rh) (N:=Ao) (by decide +kernel)) (fu (ak 0)) (fun cl A0 s0 H0 ex pn=>⟨cO (i:=0) (by show (["sign"] : List Str).Nodup;decide +kernel) rfl (.inl rfl),eY,(CS (xy) (xy) (JE.bor pZ) (ak 0) (JE.bor pZ))⟩)))) bO)))))
abbrev fA:cC:=top 16
abbrev iX:List Str:=["thing"]
theorem rz:bw iX ["thing"] (aA fA):=da (by decide +kernel)
abbrev iY (e:En):=FN e "are_rising_words" 2 1 fv
theorem rA (D:fX e.K e.mg "are_rising_words" fA) (B:Bi e.mg) (lj:vo e):iY e:=mT (k:=1) (g:=gL) D rz b1 fun _ _ _ _ _ _ _ hr=>by unfold gL;exact (aq (d_ (JW.t (oY (en (eh (mO (ak 0) rfl B.isinstance rfl B.tuple bf (by decide)))) (kJ (en (eh (bP (mP rfl) rfl B.all cp (br (JE.bor (JN.je (eZ (N':=["word"]) (ix:=[]) 1 (by decide) rfl (c9 (so:=aA fA) (N:=iX) (by decide +kernel)) (fu (ak 0)) (fun cl A0 s0 H0 ex pn=>⟨cO (i:=0) (by show (["word"] : List Str).Nodup;decide +kernel) rfl (.inl rfl),eY,(jc lj hr dG (a9 (ai 0) aB))⟩)))) bO))))))) (aI (bt lw)) cg) (aI (bt (bP (mP rfl) rfl B.all cp (br (JE.bor (JN.je (eZ (N':=["low","high"]) (ix:=[]) 2 (by decide) rfl (c9 (so:=aA fA) (N:=iX) (by decide +kernel)) (Gw.i (On rfl B.zip (a9 (ai 0) (a9 (kn (ak 0) (iM aF) wP) aB)))) (fun cl A0 s0 H0 ex pn=>⟨EJ rfl (pQ (cO (i:=0) (by show (["low","high"] : List Str).Nodup;decide +kernel) rfl (.inl rfl)) (pQ (cO (i:=1) (by show (["low","high"] : List Str).Nodup;decide +kernel) rfl (.inl rfl)) AE)),eY,(nX (zT) (ak 0) (ak 1))⟩)))) bO)))))
abbrev mz:cC:=top 17
abbrev vW:List Str:=["book_facts","thing"]
theorem BF:bw vW ["book_facts","thing"] (aA mz):=da (by decide +kernel)
abbrev mB (e:En):=FN e "are_facts" 3 2 fg
theorem BG (D:fX e.K e.mg "are_facts" mz) (B:Bi e.mg) (eA:iY e):mB e:=mT (k:=2) (g:=mf) D BF b2 fun _ _ _ _ _ _ _ hr=>by unfold mf;exact (aI (bt (q8 (jc eA hr px (a9 (ai 1) aB)) (sk (bP (mP rfl) rfl B.all cp (br (JE.bor (JN.je (eZ (N':=["fact","book_facts"]) (ix:=[0]) 1 (by decide) rfl (c9 (so:=aA mz) (N:=vW) (by decide +kernel)) (fu (ak 1)) (fun cl A0 s0 H0 ex pn=>⟨cO (i:=0) (by show (["fact","book_facts"] : List Str).Nodup;decide +kernel) rfl (.inl rfl),eY,(nX (CG) (ak 0) (ak 1))⟩)))) bO))))))
abbrev sG:cC:=top 18
abbrev FH:List Str:=["thing","least","most"]
theorem DE:bw FH ["thing","least","most"] (aA sG):=da (by decide +kernel)
abbrev yh (e:En):=FN e "is_whole" 1 3 o8
theorem DF (D:fX e.K e.mg "is_whole" sG) (B:Bi e.mg):yh e:=mT (k:=0) (g:=o7) D DE b3 fun _ _ _ _ _ _ _ hr=>by unfold o7;exact (aq (d_ (JW.t (oY (en (eh (mO (ak 0) rfl B.isinstance rfl B.int PyProof.Rows.boot_int (by decide)))) (kJ (eh (mO (ak 0) rfl B.isinstance rfl B.bool PyProof.Rows.boot_bool (by decide)))))) (aI (bt lw)) cg) (aI (bt (CS (xy) (xy) (ak 1) (ak 0) (ak 2)))))
abbrev mC:cC:=top 19
abbrev vX:List Str:=["book_facts","thing","name","needs","bars","makes","ends","price"]
theorem gN:bw vX ["book_facts","thing"] (aA mC):=da (by decide +kernel)
abbrev vY (e:En):=FN e "is_errand" 4 2 mi
theorem BH (D:fX e.K e.mg "is_errand" mC) (B:Bi e.mg) (lj:vo e) (sH:yh e) (fh:mB e) (bZ:il e) (oJ:Cn e.mg "MOST_PRICE" 9):vY e:=mT (k:=3) (g:=mh) D gN b2 fun _ _ _ _ _ _ _ hr=>by have hu64:=hr.units;unfold mh;exact (aq (d_ (JW.t (oY (en (eh (mO (ak 1) rfl B.isinstance rfl B.tuple bf (by decide)))) (kJ (dh (vP hu64) (JE.bor (bP g6 rfl B.len bx (br (ak 1) bO))) (JE.bor aF))))) (aI (bt lw)) cg) (aq (nZ (ai 1) (jH rfl (bX (bR 2 gN.nd) (bX (bR 3 gN.nd) (bX (bR 4 gN.nd) (bX (bR 5 gN.nd) (bX (bR 6 gN.nd) (bX (bR 7 gN.nd) i9)))))))) (aq (d_ (JW.t (oY (en (eh (jc lj hr px (a9 (ai 2) aB)))) (kJ (en (eh (jc sH hr px (a9 (ai 7) (a9 aF (a9 (p_ rfl oJ) aB))))))))) (aI (bt lw)) cg) (aq (d_ (en (eh (bP (mP rfl) rfl B.all cp (br (JE.bor (JN.je (eZ (N':=["facts","book_facts"]) (ix:=[0]) 1 (by decide) rfl (c9 (so:=aA mC) (N:=vX) (by decide +kernel)) (fu (JE.bor (mM (a9 (ai 3) (a9 (ai 4) (a9 (ai 5) (a9 (ai 6) aB))))))) (fun cl A0 s0 H0 ex pn=>⟨cO (i:=0) (by show (["facts","book_facts"] : List Str).Nodup;decide +kernel) rfl (.inl rfl),eY,(jc fh hr dG (a9 (ai 1) (a9 (ai 0) aB)))⟩)))) bO)))) (aI (bt lw)) cg) (aI (bt (q8 (jc bZ hr px (a9 (ai 3) (a9 (ai 4) aB))) (sk (jc bZ hr px (a9 (ai 5) (a9 (ai 6) aB)))))))))))
abbrev nE:cC:=top 20
abbrev vp:List Str:=["thing","facts","errands"]
theorem sI:bw vp ["thing"] (aA nE):=da (by decide +kernel)
abbrev Ap (e:En):=FN e "is_book" 5 1 qU
theorem FI (D:fX e.K e.mg "is_book" nE) (B:Bi e.mg) (eA:iY e) (qt:vY e) (oK:Cn e.mg "MOST_FACTS" 6) (lL:Cn e.mg "MOST_ERRANDS" 6):Ap e:=mT (k:=4) (g:=qT) D sI b1 fun _ _ _ _ _ _ _ hr=>by have hu1:=iG hr;have hu64:=hr.units;unfold qT;exact (aq (d_ (JW.t (oY (en (eh (mO (ak 0) rfl B.isinstance rfl B.tuple bf (by decide)))) (kJ (dh (vP hu64) (JE.bor (bP g6 rfl B.len bx (br (ak 0) bO))) (JE.bor aF))))) (aI (bt lw)) cg) (aq (nZ (ai 0) (jH rfl (bX (bR 1 sI.nd) (bX (bR 2 sI.nd) i9)))) (aq (d_ (JW.t (oY (en (eh (jc eA hr px (a9 (ai 1) aB)))) (kJ (dh (L0) (JE.bor (bP g6 rfl B.len bx (br (ak 1) bO))) (JE.bor (p_ rfl oK)))))) (aI (bt lw)) cg) (aq (d_ (JW.t (oY (en (eh (mO (ak 2) rfl B.isinstance rfl B.tuple bf (by decide)))) (kJ (dh (L0) (JE.bor (bP g6 rfl B.len bx (br (ak 2) bO))) (JE.bor (p_ rfl lL)))))) (aI (bt lw)) cg) (aq (d_ (en (eh (bP (mP rfl) rfl B.all cp (br (JE.bor (JN.je (eZ (N':=["errand","facts"]) (ix:=[1]) 1 (by decide) rfl (c9 (so:=aA nE) (N:=vp) (by decide +kernel)) (fu (ak 2)) (fun cl A0 s0 H0 ex pn=>⟨cO (i:=0) (by show (["errand","facts"] : List Str).Nodup;decide +kernel) rfl (.inl rfl),eY,(jc qt hr dG (a9 (ai 1) (a9 (ai 0) aB)))⟩)))) bO)))) (aI (bt lw)) cg) (aI (bt (nX (rO hu64) (JE.bor (ID (Li (N':=["errand"]) (ix:=[]) 1 (by decide) rfl (c9 (so:=aA nE) (N:=vp) (by decide +kernel)) (fu (ak 2)) (fun cl A0 s0 H0 ex pn=>⟨cO (i:=0) (by show (["errand"] : List Str).Nodup;decide +kernel) rfl (.inl rfl),eY,(cb hu1 (ak 0) (JE.bor aF))⟩)) rfl B.len)) (JE.bor (bP g6 rfl B.len bx (br (ak 2) bO)))))))))))
abbrev vq:cC:=top 21
abbrev Ja:List Str:=["book","thing","must","bars"]
theorem sJ:bw Ja ["book","thing"] (aA vq):=da (by decide +kernel)
abbrev Aq (e:En):=FN e "is_want" 4 2 qW
theorem FJ (D:fX e.K e.mg "is_want" vq) (B:Bi e.mg) (fh:mB e) (bZ:il e):Aq e:=mT (k:=3) (g:=qV) D sJ b2 fun _ _ _ _ _ _ _ hr=>by have hu1:=iG hr;have hu64:=hr.units;unfold qV;exact (aq (d_ (JW.t (oY (en (eh (mO (ak 1) rfl B.isinstance rfl B.tuple bf (by decide)))) (kJ (dh (vP hu64) (JE.bor (bP g6 rfl B.len bx (br (ak 1) bO))) (JE.bor aF))))) (aI (bt lw)) cg) (aq (nZ (ai 1) (jH rfl (bX (bR 2 sJ.nd) (bX (bR 3 sJ.nd) i9)))) (aI (bt (q8 (jc fh hr px (a9 (cb hu1 (ak 0) (JE.bor aF)) (a9 (ai 2) aB))) (q8 (jc fh hr px (a9 (cb hu1 (ak 0) (JE.bor aF)) (a9 (ai 3) aB))) (sk (jc bZ hr px (a9 (ai 2) (a9 (ai 3) aB))))))))))
abbrev mV:cC:=top 22
abbrev zr:List Str:=["book","state"]
theorem yi:bw zr ["book","state"] (aA mV):=da (by decide +kernel)
abbrev rR (e:En):=FN e "check_state" 4 2 j_
theorem yj (D:fX e.K e.mg "check_state" mV) (fh:mB e) (vt:ER e "NoState"):rR e:=mT (k:=3) (g:=jZ) D yi b2 fun _ _ _ _ _ _ _ hr=>by have hu1:=iG hr;unfold jZ;exact (aI (d_ (en (eh (jc fh hr px (a9 (cb hu1 (ak 0) (JE.bor aF)) (a9 (ai 1) aB))))) (aI (uf vt rfl (a9 pZ aB))) cg))
abbrev oM:cC:=top 23
abbrev BI:List Str:=["book","want"]
theorem zt:bw BI ["book","want"] (aA oM):=da (by decide +kernel)
abbrev uE (e:En):=FN e "check_want" 5 2 kX
theorem zu (D:fX e.K e.mg "check_want" oM) (vv:Aq e) (yk:ER e "NoWant"):uE e:=mT (k:=4) (g:=kW) D zt b2 fun _ _ _ _ _ _ _ hr=>by unfold kW;exact (aI (d_ (en (eh (jc vv hr px (a9 (ai 0) (a9 (ai 1) aB))))) (aI (uf yk rfl (a9 pZ aB))) cg))
abbrev kM:cC:=top 24
abbrev wz:List Str:=["book","name","errand"]
theorem nF:bw wz ["book","name"] (aA kM):=da (by decide +kernel)
abbrev iR (e:En):=FN e "errand_called" 1 2 eO
theorem vw (D:fX e.K e.mg "errand_called" kM) (B:Bi e.mg):iR e:=mT (k:=0) (g:=iN) D nF b2 fun _ _ _ _ _ _ _ hr=>by have hu1:=iG hr;have hu64:=hr.units;unfold iN;exact (aq (d_ (en (eh (mO (ak 1) rfl B.isinstance rfl B.str xg (by decide)))) (aI (bt lz)) cg) (aq (kK rfl (B8 (cb hu1 (ak 0) (JE.bor aF))) (bR 2 nF.nd) (aI (d_ (dh (rO hu64) (JE.bor (cb hu1 (ak 2) (JE.bor aF))) (ak 1)) (aI (bt (ai 2))) cg))) (aI (bt lz))))
abbrev rj:cC:=top 25
abbrev Ar:List Str:=["state","want","must","bars"]
theorem sK:bw Ar ["state","want"] (aA rj):=da (by decide +kernel)
abbrev As (e:En):=FN e "fulfils" 2 2 qY
theorem FK (D:fX e.K e.mg "fulfils" rj) (B:Bi e.mg) (bZ:il e):As e:=mT (k:=1) (g:=qX) D sK b2 fun _ _ _ _ _ _ _ hr=>by unfold qX;exact (aq (nZ (ai 1) (jH rfl (bX (bR 2 sK.nd) (bX (bR 3 sK.nd) i9)))) (aI (bt (q8 (bP (mP rfl) rfl B.all cp (br (JE.bor (JN.je (eZ (N':=["fact","state"]) (ix:=[0]) 1 (by decide) rfl (c9 (so:=aA rj) (N:=Ar) (by decide +kernel)) (fu (ak 2)) (fun cl A0 s0 H0 ex pn=>⟨cO (i:=0) (by show (["fact","state"] : List Str).Nodup;decide +kernel) rfl (.inl rfl),eY,(nX (CG) (ak 0) (ak 1))⟩)))) bO)) (sk (jc bZ hr px (a9 (ai 3) (a9 (ai 0) aB))))))))
abbrev qu:cC:=top 26
abbrev DG:List Str:=["errand","state"]
theorem BJ:bw DG ["errand","state"] (aA qu):=da (by decide +kernel)
abbrev vZ (e:En):=FN e "is_doable" 3 2 h_
theorem BK (D:fX e.K e.mg "is_doable" qu) (vy:As e):vZ e:=mT (k:=2) (g:=mj) D BJ b2 fun _ _ _ _ _ _ _ hr=>by have hu1:=iG hr;unfold mj;exact (aI (bt (jc vy hr px (a9 (ai 1) (a9 (mM (a9 (cb hu1 (ak 0) (JE.bor aF)) (a9 (cb hu1 (ak 0) (JE.bor aF)) aB))) aB)))))
abbrev lM:cC:=top 27
abbrev ym:List Str:=["errand","state","makes","ends"]
theorem o_:bw ym ["errand","state"] (aA lM):=da (by decide +kernel)
abbrev qv (e:En):=FN e "state_behind" 2 2 fz
theorem wA (D:fX e.K e.mg "state_behind" lM) (jO:vn e) (lN:yg e):qv e:=mT (k:=1) (g:=jm) D o_ b2 fun _ _ _ _ _ _ _ hr=>by have hu1:=iG hr;unfold jm;exact (aq (Rn 2 3 rfl o_.nd (a9 (cb hu1 (ak 0) (JE.bor aF)) (a9 (cb hu1 (ak 0) (JE.bor aF)) aB))) (aI (bt (jc lN hr px (a9 (jc jO hr px (a9 (ai 1) (a9 (ai 3) aB))) (a9 (ai 2) aB))))))
abbrev vz:cC:=top 28
abbrev Jb:List Str:=["book"]
theorem FL:bw Jb ["book"] (aA vz):=da (by decide +kernel)
abbrev nG (e:En):=FN e "checked" 6 1 j0
theorem FM (D:fX e.K e.mg "checked" vz) (vA:Ap e) (yn:ER e "NoBook"):nG e:=mT (k:=5) (g:=qZ) D FL b1 fun _ _ _ _ _ _ _ hr=>by unfold qZ;exact (aq (d_ (en (eh (jc vA hr px (a9 (ai 0) aB)))) (aI (uf yn rfl (a9 pZ aB))) cg) (aI (bt (ai 0))))
abbrev mW:cC:=top 29
abbrev zv:List Str:=["book","state"]
theorem yo:bw zv ["book","state"] (aA mW):=da (by decide +kernel)
abbrev rT (e:En):=FN e "check_place" 7 2 k8
theorem yp (D:fX e.K e.mg "check_place" mW) (fP:nG e) (mX:rR e):rT e:=mT (k:=6) (g:=k7) D yo b2 fun _ _ _ _ _ _ _ hr=>by unfold k7;exact (aq (nY (jc fP hr px (a9 (ai 0) aB))) (aI (nY (jc mX hr px (a9 (ai 0) (a9 (ai 1) aB))))))
abbrev uF:cC:=top 32
abbrev DH:List Str:=["book","thing"]
theorem Jc:bw DH ["book","thing"] (aA uF):=da (by decide +kernel)
abbrev DI (e:En):=FN e "is_row" 2 2 uj
theorem Jd (D:fX e.K e.mg "is_row" uF) (B:Bi e.mg) (cU:iR e) (mY:Cn e.mg "MOST_IN_ROW" 64):DI e:=mT (k:=1) (g:=ui) D Jc b2 fun _ _ _ _ _ _ _ hr=>by unfold ui;exact (aq (d_ (JW.t (oY (en (eh (mO (ak 1) rfl B.isinstance rfl B.list gm (by decide)))) (kJ (dh (L0) (JE.bor (bP g6 rfl B.len bx (br (ak 1) bO))) (JE.bor (p_ rfl mY)))))) (aI (bt lw)) cg) (aI (bt (bP (mP rfl) rfl B.all cp (br (JE.bor (JN.je (eZ (N':=["name","book"]) (ix:=[0]) 1 (by decide) rfl (c9 (so:=aA uF) (N:=DH) (by decide +kernel)) (fu (ak 1)) (fun cl A0 s0 H0 ex pn=>⟨cO (i:=0) (by show (["name","book"] : List Str).Nodup;decide +kernel) rfl (.inl rfl),eY,(nX (CB) (JE.bor (jc cU hr dG (a9 (ai 1) (a9 (ai 0) aB)))) (JE.bor lz))⟩)))) bO)))))
abbrev l5:cC:=top 33
abbrev uG:List Str:=["book","row"]
theorem zw:bw uG ["book","row"] (aA l5):=da (by decide +kernel)
abbrev l7 (e:En):=FN e "errands_of" 3 2 fU
theorem zx (D:fX e.K e.mg "errands_of" l5) (yq:DI e) (cU:iR e):l7 e:=mT (k:=2) (g:=kY) D zw b2 fun _ _ _ _ _ _ _ hr=>by unfold kY;exact (aq (d_ (en (eh (jc yq hr px (a9 (ai 0) (a9 (ai 1) aB))))) (aI D8) cg) (aI (bt (JN.je (eZ (N':=["name","book"]) (ix:=[0]) 1 (by decide) rfl (c9 (so:=aA l5) (N:=uG) (by decide +kernel)) (fu (ak 1)) (fun cl A0 s0 H0 ex pn=>⟨cO (i:=0) (by show (["name","book"] : List Str).Nodup;decide +kernel) rfl (.inl rfl),eY,(jc cU hr dG (a9 (ai 1) (a9 (ai 0) aB)))⟩))))))
abbrev jP:cC:=top 34
abbrev vB:List Str:=["errands","state","states","errand"]
theorem jo:bw vB ["errands","state"] (aA jP):=da (by decide +kernel)
abbrev nH (e:En):=FN e "states_through" 4 2 ic
theorem uH (D:fX e.K e.mg "states_through" jP) (qw:vZ e) (lO:qv e):nH e:=mT (k:=3) (g:=ib) D jo b2 fun _ _ _ _ _ _ _ hr=>by have hu1:=iG hr;unfold ib;exact (aq (kU 2 (vf (a9 (ai 1) aB)) jo.nd) (aq (GB 0 rfl (bR 3 jo.nd) (aq (d_ (en (eh (jc qw hr dG (a9 (ai 3) (a9 (cb hu1 (ak 2) (JE.bor (Bd aF))) aB))))) (aI (bt (ai 2))) cg) (aI (nr 2 (jc lO hr dG (a9 (ai 3) (a9 (cb hu1 (ak 2) (JE.bor (Bd aF))) aB))))))) (aI (bt (ai 2)))))
abbrev sL:cC:=top 35
abbrev FO:List Str:=["errand","want","needs","bars","makes","ends","must","barred","must_ahead","barred_ahead"]
theorem fV:bw FO ["errand","want"] (aA sL):=da (by decide +kernel)
abbrev yr (e:En):=FN e "asked_by" 2 2 jK
theorem DJ (D:fX e.K e.mg "asked_by" sL) (bZ:il e) (jO:vn e) (lN:yg e):yr e:=mT (k:=1) (g:=o9) D fV b2 fun _ _ _ _ _ _ _ hr=>by unfold o9;exact (aq (nZ (kn (ak 0) (iM aF) (iM aF)) (jH rfl (bX (bR 2 fV.nd) (bX (bR 3 fV.nd) (bX (bR 4 fV.nd) (bX (bR 5 fV.nd) i9)))))) (aq (nZ (ai 1) (jH rfl (bX (bR 6 fV.nd) (bX (bR 7 fV.nd) i9)))) (aq (d_ (JW.t (oY (en (eh (jc bZ hr px (a9 (ai 4) (a9 (ai 7) aB))))) (kJ (en (eh (jc bZ hr px (a9 (ai 5) (a9 (ai 6) aB)))))))) (aI (bt lz)) cg) (aq (dz 8 (jc lN hr px (a9 (ai 2) (a9 (jc jO hr px (a9 (ai 6) (a9 (ai 4) aB))) aB))) fV.nd) (aq (dz 9 (jc lN hr px (a9 (ai 3) (a9 (jc jO hr px (a9 (ai 7) (a9 (ai 5) aB))) aB))) fV.nd) (aq (d_ (en (eh (jc bZ hr px (a9 (ai 8) (a9 (ai 9) aB))))) (aI (bt lz)) cg) (aI (bt (mM (a9 (ai 8) (a9 (ai 9) aB)))))))))))
abbrev BL:cC:=top 36
abbrev Pc:List Str:=["book","state","row","errands","states"]
theorem yt:bw Pc ["book","state","row"] (aA BL):=da (by decide +kernel)
abbrev Hy (e:En):=FN e "leads" 8 3 uk
theorem MR (D:fX e.K e.mg "leads" BL) (B:Bi e.mg) (mZ:rT e) (f9:l7 e) (jQ:nH e):Hy e:=mT (k:=7) (g:=wR) D yt b3 fun _ _ _ _ _ _ _ hr=>by unfold wR;exact (aq (nY (jc mZ hr px (a9 (ai 0) (a9 (ai 1) aB)))) (aq (dz 3 (jc f9 hr px (a9 (ai 0) (a9 (ai 2) aB))) yt.nd) (aq (dz 4 (jc jQ hr px (a9 (ai 3) (a9 (ai 1) aB))) yt.nd) (aq (d_ (dh (xy) (JE.bor (bP g6 rfl B.len bx (br (ak 4) bO))) (JE.bor (bP g6 rfl B.len bx (br (ak 3) bO)))) (aI D8) cg) (aI (bt (ai 4)))))))
abbrev BM:cC:=top 37
abbrev Pd:List Str:=["book","want","row","want_ahead","errand"]
theorem uI:bw Pd ["book","want","row"] (aA BM):=da (by decide +kernel)
abbrev Hz (e:En):=FN e "asked" 7 3 ul
theorem MS (D:fX e.K e.mg "asked" BM) (B:Bi e.mg) (fP:nG e) (oN:uE e) (sM:yr e) (f9:l7 e):Hz e:=mT (k:=6) (g:=wS) D uI b3 fun _ _ _ _ _ _ _ hr=>by unfold wS;exact (aq (nY (jc fP hr px (a9 (ai 0) aB))) (aq (nY (jc oN hr px (a9 (ai 0) (a9 (ai 1) aB)))) (aq (dz 3 (ai 1) uI.nd) (aq (kK rfl (OA rfl B.reversed (a9 (jc f9 hr dG (a9 (ai 0) (a9 (ai 2) aB))) aB)) (bR 4 uI.nd) (aq (dz 3 (jc sM hr dG (a9 (ai 4) (a9 (ai 3) aB))) uI.nd) (aI (d_ (dh (L3) (ak 3) (JE.bor lz)) (aI (bt lz)) cg)))) (aI (bt (ai 3)))))))
abbrev qx:cC:=top 39
abbrev DK:List Str:=["one","other","makes","ends","needs","bars"]
theorem jp:bw DK ["one","other"] (aA qx):=da (by decide +kernel)
abbrev v_ (e:En):=FN e "leaves_be" 2 2 kq
theorem BN (D:fX e.K e.mg "leaves_be" qx) (bZ:il e):v_ e:=mT (k:=1) (g:=ml) D jp b2 fun _ _ _ _ _ _ _ hr=>by have hu1:=iG hr;unfold ml;exact (aq (nZ (kn (ak 0) (iM aF) (iM aF)) (jH rfl (bX (bR 2 jp.nd) (bX (bR 3 jp.nd) i9)))) (aq (nZ (kn (ak 1) (iM aF) (iM aF)) (jH rfl (bX (bR 4 jp.nd) (bX (bR 5 jp.nd) i9)))) (aI (bt (q8 (jc bZ hr px (a9 (bK cy (ak 2) (ak 3)) (a9 (bK cy (ak 4) (ak 5)) aB))) (sk (jc bZ hr px (a9 (ai 2) (a9 (cb hu1 (ak 1) (JE.bor aF)) aB)))))))))
abbrev qy:cC:=top 40
abbrev DL:List Str:=["one","other"]
theorem BO:bw DL ["one","other"] (aA qy):=da (by decide +kernel)
abbrev qz (e:En):=FN e "go_beside" 3 2 j3
theorem BP (D:fX e.K e.mg "go_beside" qy) (mD:v_ e):qz e:=mT (k:=2) (g:=mn) D BO b2 fun _ _ _ _ _ _ _ hr=>by unfold mn;exact (aI (bt (q8 (jc mD hr px (a9 (ai 0) (a9 (ai 1) aB))) (sk (jc mD hr px (a9 (ai 1) (a9 (ai 0) aB)))))))
abbrev yu:cC:=top 41
abbrev MT:List Str:=["book","one","other","first","second"]
theorem vC:bw MT ["book","one","other"] (aA yu):=da (by decide +kernel)
abbrev DM (e:En):=FN e "beside" 7 3 nA
theorem Je (D:fX e.K e.mg "beside" yu) (fP:nG e) (cU:iR e) (j4:qz e) (sO:ER e "NoErrand"):DM e:=mT (k:=6) (g:=um) D vC b3 fun _ _ _ _ _ _ _ hr=>by unfold um;exact (aq (nY (jc fP hr px (a9 (ai 0) aB))) (aq (dz 3 (jc cU hr px (a9 (ai 0) (a9 (ai 1) aB))) vC.nd) (aq (dz 4 (jc cU hr px (a9 (ai 0) (a9 (ai 2) aB))) vC.nd) (aq (d_ (JW.t (oY (dh (L3) (ak 3) (JE.bor lz)) (kJ (dh (L3) (ak 4) (JE.bor lz))))) (aI (uf sO rfl (a9 pZ aB))) cg) (aI (bt (jc j4 hr px (a9 (ai 3) (a9 (ai 4) aB)))))))))
abbrev im:cC:=top 42
abbrev nI:List Str:=["parts","errand","place","at","part"]
theorem fW:bw nI ["parts","errand"] (aA im):=da (by decide +kernel)
abbrev nJ (e:En):=FN e "earliest_round" 4 2 eu
theorem uJ (D:fX e.K e.mg "earliest_round" im) (B:Bi e.mg) (j4:qz e):nJ e:=mT (k:=3) (g:=ig) D fW b2 fun _ _ _ _ _ _ _ hr=>by unfold ig;exact (aq (dz 2 aF fW.nd) (aq (kK rfl (Aa rfl B.enumerate (a9 (ai 0) aB)) (jH rfl (bX (bR 3 fW.nd) (bX (bR 4 fW.nd) i9))) (aI (d_ (en (eh (bP (mP rfl) rfl B.all cp (br (JE.bor (JN.je (eZ (N':=["other","errand"]) (ix:=[1]) 1 (by decide) rfl (c9 (so:=aA im) (N:=nI) (by decide +kernel)) (fu (ak 4)) (fun cl A0 s0 H0 ex pn=>⟨cO (i:=0) (by show (["other","errand"] : List Str).Nodup;decide +kernel) rfl (.inl rfl),eY,(jc j4 hr dG (a9 (ai 1) (a9 (ai 0) aB)))⟩)))) bO)))) (aI (dz 2 (bK cy (ak 3) (JE.bor aF)) fW.nd)) cg))) (aI (bt (ai 2)))))
abbrev uK:cC:=top 43
abbrev DN:List Str:=["book","row","parts","errand","place"]
theorem rl:bw DN ["book","row"] (aA uK):=da (by decide +kernel)
abbrev DO (e:En):=FN e "rounds" 7 2 uq
theorem Jf (D:fX e.K e.mg "rounds" uK) (B:Bi e.mg) (fP:nG e) (jR:nJ e) (f9:l7 e):DO e:=mT (k:=6) (g:=uo) D rl b2 fun _ _ _ _ _ _ _ hr=>by have hu1:=iG hr;have hu64:=hr.units;unfold uo;exact (aq (nY (jc fP hr px (a9 (ai 0) aB))) (aq (Ry 2 rl.nd) (aq (kK rfl (B8 (jc f9 hr dG (a9 (ai 0) (a9 (ai 1) aB)))) (bR 3 rl.nd) (aq (dz 4 (W4 Df jR hr dG (G_ 2 (OE (ai 3) M7))) rl.nd) (aq (d_ (dh (rO hu64) (ak 4) (JE.bor (M8 Df g6 rfl B.len bx (G_ 2 M7)))) (aI (Fp 2)) cg) (aI (sx 2 (ai 4) (ai 3)))))) (aI (bt (JN.je (eZ (N':=["part"]) (ix:=[]) 1 (by decide) rfl (c9 (so:=aA uK) (N:=DN) (by decide +kernel)) (fu (ak 2)) (fun cl A0 s0 H0 ex pn=>⟨cO (i:=0) (by show (["part"] : List Str).Nodup;decide +kernel) rfl (.inl rfl),eY,(JN.je (eZ (N':=["errand"]) (ix:=[]) 1 (by decide) rfl (c9 (N:=["part"]) (by kernel_rfl) rfl) (fu (ak 0)) (fun cl A0 s0 H0 ex pn=>⟨cO (i:=0) (by show (["errand"] : List Str).Nodup;decide +kernel) rfl (.inl rfl),eY,(cb hu1 (ak 0) (JE.bor aF))⟩)))⟩))))))))
abbrev m_:cC:=top 45
abbrev zy:List Str:=["_law_script","_law_k"]
theorem yv:bw zy ["_law_script","_law_k"] (aA m_):=da (by decide +kernel)
abbrev rV (e:En):=FN e "_law_cell_at" 1 2 ka
theorem yw (D:fX e.K e.mg "_law_cell_at" m_) (B:Bi e.mg):rV e:=mT (k:=0) (g:=k9) D yv b2 fun _ _ _ _ _ _ _ hr=>by have hu1:=iG hr;have hu64:=hr.units;unfold k9;exact (aq (d_ (dh (zT) (ak 1) (JE.bor (bP g6 rfl B.len bx (br (ak 0) bO)))) (aI (bt (cb hu1 (ak 0) (ak 1)))) cg) (aq (d_ (dh (rO hu64) (ak 0) (JE.bor (jG aB))) (aI (bt aF)) cg) (aI (bt (bK cy (JE.bor (bK qc (JE.bor (cb hu1 (ak 0) (JE.bor (bK B2 (ak 1) (JE.bor (bP g6 rfl B.len bx (br (ak 0) bO))))))) (JE.bor aF))) (ak 1))))))
abbrev qA:cC:=top 46
abbrev DP:List Str:=["_law_script","_law_k","_law_many","_law_drawn"]
theorem uL:bw DP ["_law_script","_law_k","_law_many"] (aA qA):=da (by decide +kernel)
abbrev eI (e:En):=FN e "_law_mixed" 2 3 ba
theorem BQ (D:fX e.K e.mg "_law_mixed" qA) (n5:rV e):eI e:=mT (k:=1) (g:=mo) D uL b3 fun _ _ _ _ _ _ _ hr=>by unfold mo;exact (aq (dz 3 (bK B2 (JE.bor (bK qc (JE.bor (bK cy (JE.bor (bK cy (JE.bor (jc n5 hr px (a9 (ai 0) (a9 (ai 1) aB)))) (JE.bor (bK qc (JE.bor aF) (ak 1))))) (JE.bor aF))) (JE.bor aF))) (JE.bor aF)) uL.nd) (aI (bt (bK B2 (JE.bor (bK B2 (JE.bor (bK cy (JE.bor (bK cy (JE.bor (bK qc (ak 3) (ak 3))) (JE.bor (bK qc (JE.bor aF) (ak 3))))) (ak 1))) (JE.bor aF))) (ak 2)))))
abbrev sP:cC:=top 47
abbrev FP:List Str:=["_law_script","_law_at","_law_made","_law_k"]
theorem mE:bw FP ["_law_script","_law_at"] (aA sP):=da (by decide +kernel)
abbrev sQ (e:En):=FN e "_law_word" 3 2 jL
theorem DQ (D:fX e.K e.mg "_law_word" sP) (B:Bi e.mg) (aT:eI e):sQ e:=mT (k:=2) (g:=oa) D mE b2 fun _ _ _ _ _ _ _ hr=>by have hu1:=iG hr;unfold oa;exact (aq (dz 2 pZ mE.nd) (aq (kK rfl (lB rfl B.range (br (JE.bor (cb hu1 (JE.bor (jG (a9 aF (a9 aF (a9 aF (a9 aF (a9 aF (a9 aF aB)))))))) (JE.bor (jc aT hr dG (a9 (ai 0) (a9 (ai 1) (a9 aF aB))))))) bO)) (bR 3 mE.nd) (aI (dz 2 (bK cy (ak 2) (JE.bor (cb hu1 (JE.bor pZ) (JE.bor (jc aT hr dG (a9 (ai 0) (a9 (bK cy (JE.bor (bK cy (ak 1) (JE.bor aF))) (ak 3)) (a9 aF aB)))))))) mE.nd))) (aI (bt (ai 2)))))
abbrev qB:cC:=top 48
abbrev DR:List Str:=["_law_script","_law_at","_law_most","_law_found","_law_k"]
theorem oO:bw DR ["_law_script","_law_at","_law_most"] (aA qB):=da (by decide +kernel)
abbrev w4 (e:En):=FN e "_law_facts" 4 3 mr
theorem BR (D:fX e.K e.mg "_law_facts" qB) (B:Bi e.mg) (jS:sQ e) (aT:eI e):w4 e:=mT (k:=3) (g:=mq) D oO b3 fun _ _ _ _ _ _ _ hr=>by have hu1:=iG hr;unfold mq;exact (aq (kU 3 Gy oO.nd) (aq (kK rfl (lB rfl B.range (br (JE.bor (jc aT hr dG (a9 (ai 0) (a9 (ai 1) (a9 (bK cy (ak 2) (JE.bor aF)) aB))))) bO)) (bR 4 oO.nd) (aI (GC 3 lw (jc jS hr dG (a9 (ai 0) (a9 (bK cy (JE.bor (bK cy (ak 1) (JE.bor aF))) (JE.bor (bK qc (JE.bor aF) (ak 4)))) aB))) hu1))) (aI (bt (fj (iJ rfl) rfl B.tuple bf (br (JE.bor (bP IA rfl B.sorted vK (br (JE.bor (fj (xG rfl) rfl B.list gm (br (ak 3) bO))) bO))) bO))))))
abbrev oP:cC:=top 49
abbrev yx:List Str:=["_law_script","_law_at","_law_facts_here","_law_part"]
theorem DS:bw yx ["_law_script","_law_at","_law_facts_here","_law_part"] (aA oP):=da (by decide +kernel)
abbrev yy (e:En):=FN e "_law_some" 3 4 oj
theorem DT (D:fX e.K e.mg "_law_some" oP) (B:Bi e.mg) (aT:eI e):yy e:=mT (k:=2) (g:=oh) D DS b4 fun _ _ _ _ _ _ _ hr=>by unfold oh;exact (aI (bt (fj (iJ rfl) rfl B.tuple bf (br (JE.bor (JN.je (eZ (N':=["_law_k","_law_fact","_law_script","_law_at","_law_part"]) (ix:=[0,1,3]) 2 (by decide) rfl (c9 (so:=aA oP) (N:=yx) (by decide +kernel)) (Gw.i (xA rfl B.enumerate (a9 (ai 2) aB))) (fun cl A0 s0 H0 ex pn=>⟨EJ rfl (pQ (cO (i:=0) (by show (["_law_k","_law_fact","_law_script","_law_at","_law_part"] : List Str).Nodup;decide +kernel) rfl (.inl rfl)) (pQ (cO (i:=1) (by show (["_law_k","_law_fact","_law_script","_law_at","_law_part"] : List Str).Nodup;decide +kernel) rfl (.inl rfl)) AE)),(n_ (dh (zT) (JE.bor (jc aT hr dG (a9 (ai 2) (a9 (bK cy (ak 3) (ak 0)) (a9 aF aB))))) (ak 4))),(ai 1)⟩)))) bO))))
abbrev jT:cC:=top 50
abbrev oQ:List Str:=["_law_script","_law_at","_law_facts_here","_law_name","_law_one","_law_two","_law_goal","_law_needs","_law_bars","_law_ends","_law_parts"]
theorem gH:bw oQ ["_law_script","_law_at","_law_facts_here","_law_name"] (aA jT):=da (by decide +kernel)
abbrev yz (e:En):=FN e "_law_thin" 3 4 oo
theorem DU (D:fX e.K e.mg "_law_thin" jT) (B:Bi e.mg) (aT:eI e):yz e:=mT (k:=2) (g:=om) D gH b4 fun _ _ _ _ _ _ _ hr=>by have hu1:=iG hr;have hu64:=hr.units;unfold om;exact (aq (dz 4 (cb hu1 (ak 2) (JE.bor (jc aT hr px (a9 (ai 0) (a9 (bK cy (ak 1) (JE.bor aF)) (a9 (bP g6 rfl B.len bx (br (ak 2) bO)) aB)))))) gH.nd) (aq (dz 5 (cb hu1 (ak 2) (JE.bor (jc aT hr px (a9 (ai 0) (a9 (bK cy (ak 1) (JE.bor aF)) (a9 (bP g6 rfl B.len bx (br (ak 2) bO)) aB)))))) gH.nd) (aq (dz 6 (cb hu1 (ak 2) (JE.bor (jc aT hr px (a9 (ai 0) (a9 (bK cy (ak 1) (JE.bor aF)) (a9 (bP g6 rfl B.len bx (br (ak 2) bO)) aB)))))) gH.nd) (aq (dz 7 (kn (JE.bor (jG (a9 (ai 4) (a9 (ai 5) aB)))) wP (iM (bK cy (JE.bor aF) (JE.bor (bK Of (JE.bor (jc aT hr px (a9 (ai 0) (a9 (bK cy (ak 1) (JE.bor aF)) (a9 aF aB))))) (JE.bor aF)))))) gH.nd) (aq (jI 8 (N':=["_law_fact","_law_needs","_law_script","_law_at"]) (ix:=[7,0,1]) 1 (by decide) gH.nd rfl (c9 (so:=aA jT) (N:=oQ) (by decide +kernel)) (fu (JE.bor (jG (a9 (ai 6) aB)))) (fun cl A0 s0 H0 ex pn=>⟨cO (i:=0) (by show (["_law_fact","_law_needs","_law_script","_law_at"] : List Str).Nodup;decide +kernel) rfl (.inl rfl),(n_ (JW.t (F5 (dh (xz) (ak 0) (ak 1)) (B1 (dh (rO hu64) (JE.bor (jc aT hr dG (a9 (ai 2) (a9 (bK cy (ak 3) (JE.bor aF)) (a9 aF aB))))) (JE.bor aF)))))),(ai 0)⟩)) (aq (jI 9 (N':=["_law_fact","_law_goal","_law_script","_law_at"]) (ix:=[6,0,1]) 1 (by decide) gH.nd rfl (c9 (so:=aA jT) (N:=oQ) (by decide +kernel)) (fu (JE.bor (jG (a9 (ai 4) aB)))) (fun cl A0 s0 H0 ex pn=>⟨cO (i:=0) (by show (["_law_fact","_law_goal","_law_script","_law_at"] : List Str).Nodup;decide +kernel) rfl (.inl rfl),(n_ (JW.t (F5 (dh (vP hu64) (ak 0) (ak 1)) (B1 (dh (rO hu64) (JE.bor (jc aT hr dG (a9 (ai 2) (a9 (bK cy (ak 3) (JE.bor aF)) (a9 aF aB))))) (JE.bor aF)))))),(ai 0)⟩)) (aq (Fh 8 (Fh 9 (jI 10 (N':=["_law_part"]) (ix:=[]) 1 (by decide) gH.nd rfl (c9 (so:=aA jT) (N:=oQ) (by decide +kernel)) (fu (JE.bor (mM (a9 (ai 7) (a9 (ai 8) (a9 (jG (a9 (ai 6) aB)) (a9 (ai 9) aB))))))) (fun cl A0 s0 H0 ex pn=>⟨cO (i:=0) (by show (["_law_part"] : List Str).Nodup;decide +kernel) rfl (.inl rfl),eY,(fj (iJ rfl) rfl B.tuple bf (br (JE.bor (sv rfl (Be rfl (ak 0) rfl B.set) rfl B.sorted)) bO))⟩)))) (aI (bt (mM (a9 (ai 3) (a9 (cb hu1 (ak 10) (JE.bor aF)) (a9 (cb hu1 (ak 10) (JE.bor aF)) (a9 (cb hu1 (ak 10) (JE.bor aF)) (a9 (cb hu1 (ak 10) (JE.bor aF)) (a9 (jc aT hr px (a9 (ai 0) (a9 (ai 1) (a9 aF aB)))) aB))))))))))))))))
abbrev l8:cC:=top 51
abbrev uM:List Str:=["_law_script","_law_at","_law_facts_here","_law_name","_law_parts","_law_k","_law_fact","_law_way","_law_some_here"]
theorem gg:bw uM ["_law_script","_law_at","_law_facts_here","_law_name"] (aA l8):=da (by decide +kernel)
abbrev uN (e:En):=FN e "_law_errand" 4 4 ij
theorem zz (D:fX e.K e.mg "_law_errand" l8) (B:Bi e.mg) (aT:eI e) (sR:yz e):uN e:=mT (k:=3) (g:=ii) D gg b4 fun _ _ _ _ _ _ _ hr=>by have hu1:=iG hr;have hu64:=hr.units;unfold ii;exact (aq (d_ (JW.t (F5 (dh (vP hu64) (ak 2) (JE.bor (mM aB))) (B1 (dh (rO hu64) (JE.bor (jc aT hr px (a9 (ai 0) (a9 aF (a9 aF aB))))) (JE.bor aF))))) (aI (bt (jc sR hr px (a9 (ai 0) (a9 (ai 1) (a9 (ai 2) (a9 (ai 3) aB))))))) cg) (aq (Re 4 gg.nd) (aq (kK rfl (xA rfl B.enumerate (a9 (ai 2) aB)) (jH rfl (bX (bR 5 gg.nd) (bX (bR 6 gg.nd) i9))) (aq (dz 7 (jc aT hr dG (a9 (ai 0) (a9 (bK cy (JE.bor (bK cy (ak 1) (JE.bor aF))) (ak 5)) (a9 aF aB)))) gg.nd) (aq (d_ (dh (zT) (ak 7) (JE.bor aF)) (aI (sx 4 (cb hu1 (JE.bor (jG (a9 aF (a9 aF (a9 aF aB))))) (ak 7)) (ai 6))) cg) (aq (dz 7 (jc aT hr dG (a9 (ai 0) (a9 (bK cy (JE.bor (bK cy (ak 1) (JE.bor aF))) (ak 5)) (a9 aF aB)))) gg.nd) (aI (d_ (dh (zT) (ak 7) (JE.bor aF)) (aI (sx 4 (cb hu1 (JE.bor (jG (a9 aF (a9 aF (a9 aF (a9 aF aB)))))) (ak 7)) (ai 6))) cg)))))) (aq (Lj (jI 8 (N':=["_law_part"]) (ix:=[]) 1 (by decide) gg.nd rfl (c9 (so:=aA l8) (N:=uM) (by decide +kernel)) (fu (ak 4)) (fun cl A0 s0 H0 ex pn=>⟨cO (i:=0) (by show (["_law_part"] : List Str).Nodup;decide +kernel) rfl (.inl rfl),eY,(fj (iJ rfl) rfl B.tuple bf (br (ak 0) bO))⟩))) (aI (bt (mM (a9 (ai 3) (a9 (cb hu1 (ak 8) (JE.bor aF)) (a9 (cb hu1 (ak 8) (JE.bor aF)) (a9 (cb hu1 (ak 8) (JE.bor aF)) (a9 (cb hu1 (ak 8) (JE.bor aF)) (a9 (jc aT hr px (a9 (ai 0) (a9 (ai 1) (a9 aF aB)))) aB)))))))))))))
abbrev oR:cC:=top 52
abbrev yA:List Str:=["_law_script","_law_at","_law_most","_law_many","_law_facts_here","_law_made","_law_k","_law_name","_law_names","_law_turn"]
theorem i4:bw yA ["_law_script","_law_at","_law_most","_law_many"] (aA oR):=da (by decide +kernel)
abbrev yB (e:En):=FN e "_law_book" 5 4 lF
theorem DV (D:fX e.K e.mg "_law_book" oR) (B:Bi e.mg) (qC:w4 e) (jS:sQ e) (oS:uN e) (aT:eI e):yB e:=mT (k:=4) (g:=lE) D i4 b4 fun _ _ _ _ _ _ _ hr=>by have hu1:=iG hr;unfold lE;exact (aq (dz 4 (jc qC hr px (a9 (ai 0) (a9 (ai 1) (a9 (ai 2) aB)))) i4.nd) (aq (kU 5 Gy i4.nd) (aq (kK rfl (lB rfl B.range (br (JE.bor (jc aT hr dG (a9 (ai 0) (a9 (bK cy (ak 1) (JE.bor aF)) (a9 (bK cy (ak 3) (JE.bor aF)) aB))))) bO)) (bR 6 i4.nd) (aq (dz 7 (jc jS hr dG (a9 (ai 0) (a9 (bK cy (JE.bor (bK cy (ak 1) (JE.bor aF))) (JE.bor (bK qc (JE.bor aF) (ak 6)))) aB))) i4.nd) (aI (GC 5 (jc oS hr dG (a9 (ai 0) (a9 (bK cy (JE.bor (bK cy (ak 1) (JE.bor aF))) (JE.bor (bK qc (JE.bor aF) (ak 6)))) (a9 (ai 4) (a9 (ai 7) aB))))) (ai 7) hu1)))) (aq (dz 8 (fj (xG rfl) rfl B.list gm (br (ak 5) bO)) i4.nd) (aq (dz 9 (jc aT hr px (a9 (ai 0) (a9 (bK cy (ak 1) (JE.bor aF)) (a9 (bK cy (JE.bor (bP g6 rfl B.len bx (br (ak 8) bO))) (JE.bor aF)) aB)))) i4.nd) (aI (bt (mM (a9 (ai 4) (a9 (fj (iJ rfl) rfl B.tuple bf (br (JE.bor (JN.je (eZ (N':=["_law_name","_law_made"]) (ix:=[5]) 1 (by decide) rfl (c9 (so:=aA oR) (N:=yA) (by decide +kernel)) (fu (JE.bor (bK cy (JE.bor (kn (ak 8) (iM (ai 9)) wP)) (JE.bor (kn (ak 8) wP (iM (ai 9))))))) (fun cl A0 s0 H0 ex pn=>⟨cO (i:=0) (by show (["_law_name","_law_made"] : List Str).Nodup;decide +kernel) rfl (.inl rfl),eY,(cb hu1 (ak 1) (ak 0))⟩)))) bO)) aB))))))))))
abbrev sS:cC:=top 53
abbrev FQ:List Str:=["_law_script","_law_at","_law_facts_here","_law_must","_law_bars","_law_k","_law_fact","_law_way"]
theorem j5:bw FQ ["_law_script","_law_at","_law_facts_here"] (aA sS):=da (by decide +kernel)
abbrev yC (e:En):=FN e "_law_want" 3 3 sC
theorem DW (D:fX e.K e.mg "_law_want" sS) (B:Bi e.mg) (aT:eI e):yC e:=mT (k:=2) (g:=lG) D j5 b3 fun _ _ _ _ _ _ _ hr=>by have hu64:=hr.units;unfold lG;exact (aq (kU 3 (vf aB) j5.nd) (aq (kU 4 (vf aB) j5.nd) (aq (kK rfl (xA rfl B.enumerate (a9 (ai 2) aB)) (jH rfl (bX (bR 5 j5.nd) (bX (bR 6 j5.nd) i9))) (aq (dz 7 (jc aT hr dG (a9 (ai 0) (a9 (bK cy (ak 1) (ak 5)) (a9 aF aB)))) j5.nd) (aI (d_ (dh (zT) (ak 7) (JE.bor aF)) (aI (nr 3 (ai 6))) (aI (d_ (dh (rO hu64) (ak 7) (JE.bor aF)) (aI (nr 4 (ai 6))) cg)))))) (aI (bt (mM (a9 (fj (iJ rfl) rfl B.tuple bf (br (ak 3) bO)) (a9 (fj (iJ rfl) rfl B.tuple bf (br (ak 4) bO)) aB))))))))
abbrev sU:cC:=top 54
abbrev FR:List Str:=["_law_script","_law_most","_law_many","_law_book_here","_law_state"]
theorem qD:bw FR ["_law_script","_law_most","_law_many"] (aA sU):=da (by decide +kernel)
abbrev yD (e:En):=FN e "_law_case" 6 3 ou
theorem DX (D:fX e.K e.mg "_law_case" sU) (sV:yB e) (aT:eI e) (sW:yy e) (sX:yC e):yD e:=mT (k:=5) (g:=oq) D qD b3 fun _ _ _ _ _ _ _ hr=>by have hu1:=iG hr;unfold oq;exact (aq (dz 3 (jc sV hr px (a9 (ai 0) (a9 aF (a9 (ai 1) (a9 (ai 2) aB))))) qD.nd) (aq (dz 4 (jc sW hr px (a9 (ai 0) (a9 aF (a9 (cb hu1 (ak 3) (JE.bor aF)) (a9 (cb hu1 (JE.bor (jG (a9 aF (a9 aF aB)))) (JE.bor (jc aT hr px (a9 (ai 0) (a9 aF (a9 aF aB)))))) aB))))) qD.nd) (aI (bt (mM (a9 (ai 3) (a9 (ai 4) (a9 (jc sX hr px (a9 (ai 0) (a9 aF (a9 (cb hu1 (ak 3) (JE.bor aF)) aB)))) aB))))))))
abbrev lP:cC:=top 55
abbrev sY:List Str:=["_law_state","_law_want_here"]
theorem DY:bw sY ["_law_state","_law_want_here"] (aA lP):=da (by decide +kernel)
abbrev yE (e:En):=FN e "_law_good" 1 2 oz
theorem DZ (D:fX e.K e.mg "_law_good" lP) (B:Bi e.mg):yE e:=mT (k:=0) (g:=oy) D DY b2 fun _ _ _ _ _ _ _ hr=>by have hu1:=iG hr;unfold oy;exact (aI (bt (q8 (bP (mP rfl) rfl B.all cp (br (JE.bor (JN.je (eZ (N':=["_law_fact","_law_state"]) (ix:=[0]) 1 (by decide) rfl (c9 (so:=aA lP) (N:=sY) (by decide +kernel)) (fu (JE.bor (cb hu1 (ak 1) (JE.bor aF)))) (fun cl A0 s0 H0 ex pn=>⟨cO (i:=0) (by show (["_law_fact","_law_state"] : List Str).Nodup;decide +kernel) rfl (.inl rfl),eY,(nX (CG) (ak 0) (ak 1))⟩)))) bO)) (sk (KS (bP (L6 rfl) rfl B.any xf (br (JE.bor (JN.je (eZ (N':=["_law_fact","_law_state"]) (ix:=[0]) 1 (by decide) rfl (c9 (so:=aA lP) (N:=sY) (by decide +kernel)) (fu (JE.bor (cb hu1 (ak 1) (JE.bor aF)))) (fun cl A0 s0 H0 ex pn=>⟨cO (i:=0) (by show (["_law_fact","_law_state"] : List Str).Nodup;decide +kernel) rfl (.inl rfl),eY,(nX (CG) (ak 0) (ak 1))⟩)))) bO)))))))
abbrev oT:cC:=top 56
abbrev yF:List Str:=["_law_errand_here","_law_state","_law_left"]
theorem w5:bw yF ["_law_errand_here","_law_state"] (aA oT):=da (by decide +kernel)
abbrev yG (e:En):=FN e "_law_step" 2 2 i0
theorem D_ (D:fX e.K e.mg "_law_step" oT) (B:Bi e.mg) (sZ:yE e):yG e:=mT (k:=1) (g:=oA) D w5 b2 fun _ _ _ _ _ _ _ hr=>by have hu1:=iG hr;unfold oA;exact (aq (d_ (en (eh (jc sZ hr px (a9 (ai 1) (a9 (kn (ak 0) (iM aF) (iM aF)) aB))))) (aI (bt lz)) cg) (aq (jI 2 (N':=["_law_fact","_law_errand_here"]) (ix:=[0]) 1 (by decide) w5.nd rfl (c9 (so:=aA oT) (N:=yF) (by decide +kernel)) (fu (ak 1)) (fun cl A0 s0 H0 ex pn=>⟨cO (i:=0) (by show (["_law_fact","_law_errand_here"] : List Str).Nodup;decide +kernel) rfl (.inl rfl),(n_ (dh (xz) (ak 0) (JE.bor (cb hu1 (ak 1) (JE.bor aF))))),(ai 0)⟩)) (aI (bt (fj (iJ rfl) rfl B.tuple bf (br (JE.bor (sv rfl (Be rfl (JE.bor (bK cy (ak 2) (JE.bor (fj (xG rfl) rfl B.list gm (br (JE.bor (cb hu1 (ak 0) (JE.bor aF))) bO))))) rfl B.set) rfl B.sorted)) bO))))))
abbrev oU:cC:=top 57
abbrev yH:List Str:=["_law_script","_law_at","_law_book_here","_law_state","_law_many","_law_row","_law_k","_law_some_here","_law_errand_here"]
theorem j6:bw yH ["_law_script","_law_at","_law_book_here","_law_state","_law_many"] (aA oU):=da (by decide +kernel)
abbrev yI (e:En):=FN e "_law_walk" 3 5 oC
theorem E1 (D:fX e.K e.mg "_law_walk" oU) (B:Bi e.mg) (oV:yG e) (aT:eI e):yI e:=mT (k:=2) (g:=oB) D j6 b5 fun _ _ _ _ _ _ _ hr=>by have hu1:=iG hr;have hu64:=hr.units;unfold oB;exact (aq (kU 5 (vf aB) j6.nd) (aq (kK rfl (lB rfl B.range (br (ak 4) bO)) (bR 6 j6.nd) (aq (jI 7 (N':=["_law_errand_here","_law_state"]) (ix:=[3]) 1 (by decide) j6.nd rfl (c9 (so:=aA oU) (N:=yH) (by decide +kernel)) (fu (JE.bor (cb hu1 (ak 2) (JE.bor aF)))) (fun cl A0 s0 H0 ex pn=>⟨cO (i:=0) (by show (["_law_errand_here","_law_state"] : List Str).Nodup;decide +kernel) rfl (.inl rfl),(n_ (dh (CB) (JE.bor (jc oV hr dG (a9 (ai 0) (a9 (ai 1) aB)))) (JE.bor lz))),(ai 0)⟩)) (aq (d_ (dh (rO hu64) (ak 7) (JE.bor (jG aB))) (aI (bt (ai 5))) cg) (aq (dz 8 (cb hu1 (ak 7) (JE.bor (jc aT hr dG (a9 (ai 0) (a9 (bK cy (ak 1) (ak 6)) (a9 (bP g6 rfl B.len bx (br (ak 7) bO)) aB)))))) j6.nd) (aq (nr 5 (cb hu1 (ak 8) (JE.bor aF))) (aI (dz 3 (jc oV hr dG (a9 (ai 8) (a9 (ai 3) aB))) j6.nd))))))) (aI (bt (ai 5)))))
abbrev kf:cC:=top 58
abbrev rW:List Str:=["_law_book_here","_law_row","_law_sizes","_law_k","_law_name"]
theorem jq:bw rW ["_law_book_here","_law_row"] (aA kf):=da (by decide +kernel)
abbrev rX (e:En):=FN e "_law_longest" 8 2 kd
theorem yJ (D:fX e.K e.mg "_law_longest" kf) (B:Bi e.mg) (yK:DM e):rX e:=mT (k:=7) (g:=kc) D jq b2 fun _ _ _ _ _ _ _ hr=>by have hu1:=iG hr;unfold kc;exact (aq (kU 2 (vf aB) jq.nd) (aq (kK rfl (Aa rfl B.enumerate (a9 (ai 1) aB)) (jH rfl (bX (bR 3 jq.nd) (bX (bR 4 jq.nd) i9))) (aI (nr 2 (bK cy (JE.bor aF) (JE.bor (bP (M5 rfl) rfl B.max xh (br (JE.bor (bK cy (JE.bor (jG (a9 aF aB))) (JE.bor (JN.je (eZ (N':=["_law_j","_law_book_here","_law_row","_law_name","_law_sizes"]) (ix:=[0,1,4,2]) 1 (by decide) rfl (c9 (so:=aA kf) (N:=rW) (by decide +kernel)) (Gw.i (lB rfl B.range (br (ak 3) bO))) (fun cl A0 s0 H0 ex pn=>⟨cO (i:=0) (by show (["_law_j","_law_book_here","_law_row","_law_name","_law_sizes"] : List Str).Nodup;decide +kernel) rfl (.inl rfl),(n_ (en (eh (jc yK hr dG (a9 (ai 1) (a9 (cb hu1 (ak 2) (ak 0)) (a9 (ai 3) aB))))))),(cb hu1 (ak 4) (ak 0))⟩)))))) bO))))))) (aI (bt (bP (M5 rfl) rfl B.max xh (br (JE.bor (bK cy (JE.bor (jG (a9 aF aB))) (ak 2))) bO))))))
abbrev w6:cC:=top 59
abbrev U4:List Str:=["_law_script","_law_book_here","_law_state","_law_want_here","_law_row","_law_told","_law_mixed_here","_law_turn","_law_left"]
theorem oW:bw U4 ["_law_script"] (aA w6):=da (by decide +kernel)
theorem RM {f:ah}{fd:eU} (F:Ih e.K "law" "law" w6 f fd) (B:Bi e.mg) (s_:yD e) (aT:eI e) (t4:yI e) (yL:DO e) (n6:rX e) (wV:Hy e) (wW:Hz e):uY e.P e.w e.K e.mg e.base (pG e.P e.w) 9 f fd ["_law_script"] (RQ e.K e.cls 1 F_law):=by
 refine PF (k:=8) (g:=H9) F oW fun cdv A outer s H E hr=>?_
 have hu1:=iG hr
 have hu64:=hr.units
 unfold H9
 exact (aq (nZ (jc s_ hr px (a9 (ai 0) (a9 aF (a9 aF aB)))) (jH rfl (bX (bR 1 oW.nd) (bX (bR 2 oW.nd) (bX (bR 3 oW.nd) i9))))) (aq (dz 4 (jc t4 hr px (a9 (ai 0) (a9 aF (a9 (ai 1) (a9 (ai 2) (a9 (jc aT hr px (a9 (ai 0) (a9 aF (a9 aF aB)))) aB)))))) oW.nd) (aq (dz 5 (jc yL hr px (a9 (ai 1) (a9 (ai 4) aB))) oW.nd) (aq (d_ (dh (vP hu64) (JE.bor (bP g6 rfl B.len bx (br (ak 5) bO))) (JE.bor (jc n6 hr px (a9 (ai 1) (a9 (ai 4) aB))))) (aI (bt lw)) cg) (aq (kU 6 (vf aB) oW.nd) (aq (GB 5 rfl (bR 7 oW.nd) (aq (kU 8 (Ma (ak 7) rfl B.list) oW.nd) (aI (Le 100000 (dh (vP hu64) (ak 8) (JE.bor (jG aB))) (aI (IH 6 8 (jc aT hr dG (a9 (ai 0) (a9 (bK cy (JE.bor aF) (JE.bor (bP g6 rfl B.len bx (br (ak 6) bO)))) (a9 (bP g6 rfl B.len bx (br (ak 8) bO)) aB)))))))))) (aq (Fh 6 (d_ (dh (vP hu64) (JE.bor (cb hu1 (JE.bor (jc wV hr px (a9 (ai 1) (a9 (ai 2) (a9 (ai 6) aB))))) (JE.bor (Bd aF)))) (JE.bor (cb hu1 (JE.bor (jc wV hr px (a9 (ai 1) (a9 (ai 2) (a9 (ai 4) aB))))) (JE.bor (Bd aF))))) (aI (bt lw)) cg)) (aI (bt (nX (rO hu64) (JE.bor (jc wW hr px (a9 (ai 1) (a9 (ai 3) (a9 (ai 6) aB))))) (JE.bor (jc wW hr px (a9 (ai 1) (a9 (ai 3) (a9 (ai 4) aB)))))))))))))))
end
end
section
theorem all_mk {l:wf}{w:aY}{K:a6}{h:bp}{mg:Str->Option a8}{fa A:ah}{At:ah}{E2:ah}{E3:ah}{yM:ah}{od an:Option ah}{sl:Array (Option a8)}{oc kV dc pm cv ct:a8} (X:K.In h) (G:h.Ns bB mg) (hfa:mg "law"=some (.ref fa))
  (Zz:Zs K zn)
  (lK:Cn mg "MOST_LETTERS" 6)
  (oJ:Cn mg "MOST_PRICE" 9)
  (oK:Cn mg "MOST_FACTS" 6)
  (lL:Cn mg "MOST_ERRANDS" 6)
  (mY:Cn mg "MOST_IN_ROW" 64)
  (Jg:TopC K "NoState" At)
  (MU:TopC K "NoWant" E2)
  (MV:TopC K "NoBook" E3)
  (FS:TopC K "NoErrand" yM)
  (BS:fX K mg "share_none" k_)
  (Jh:fX K mg "without" rg)
  (MW:fX K mg "joined" yf)
  (Ji:fX K mg "is_word" rh)
  (t5:fX K mg "are_rising_words" fA)
  (E4:fX K mg "are_facts" mz)
  (FT:fX K mg "is_whole" sG)
  (E5:fX K mg "is_errand" mC)
  (Jj:fX K mg "is_book" nE)
  (Jk:fX K mg "is_want" vq)
  (zA:fX K mg "check_state" mV)
  (BU:fX K mg "check_want" oM)
  (wB:fX K mg "errand_called" kM)
  (Jl:fX K mg "fulfils" rj)
  (E6:fX K mg "is_doable" qu)
  (yN:fX K mg "state_behind" lM)
  (Jm:fX K mg "checked" vz)
  (zB:fX K mg "check_place" mW)
  (MX:fX K mg "is_row" uF)
  (BV:fX K mg "errands_of" l5)
  (vD:fX K mg "states_through" jP)
  (FU:fX K mg "asked_by" sL)
  (Pe:fX K mg "leads" BL)
  (Pf:fX K mg "asked" BM)
  (E7:fX K mg "leaves_be" qx)
  (E8:fX K mg "go_beside" qy)
  (MY:fX K mg "beside" yu)
  (vE:fX K mg "earliest_round" im)
  (MZ:fX K mg "rounds" uK)
  (zC:fX K mg "_law_cell_at" m_)
  (E9:fX K mg "_law_mixed" qA)
  (FV:fX K mg "_law_word" sP)
  (Ea:fX K mg "_law_facts" qB)
  (FW:fX K mg "_law_some" oP)
  (FX:fX K mg "_law_thin" jT)
  (BW:fX K mg "_law_errand" l8)
  (FY:fX K mg "_law_book" oR)
  (FZ:fX K mg "_law_want" sS)
  (F_:fX K mg "_law_case" sU)
  (G0:fX K mg "_law_good" lP)
  (G1:fX K mg "_law_step" oT)
  (G3:fX K mg "_law_walk" oU)
  (zD:fX K mg "_law_longest" kf)
  (l0:fS K bB "law"=some (some (.ref A)))
  (l1:K.lookup A=some ⟨oc,od,.func (fR "law" "law" (jW w6) (gW w6) (aA w6) .none kV dc pm an cv ct),sl⟩)
  (l2:lm K cv "law"=true)
  (l3:jg K (.ref A)=true)
  : ∃ fd:eU,(∀ (s:ac) (v:a8),yV s fd ⟨[v],[]⟩ [("_law_script",v)])/\∀ base:bp,K.In base->base.Ns bB mg->uY l.prog w K mg base (pG l.prog w) 9 fa fd ["_law_script"] (T1 K F_law):=by
 have q:=hfa.symm.trans (mH X G l0)
 cases q
 refine ⟨fR "law" "law" (jW w6) (gW w6) (aA w6) .none kV dc pm an cv ct,fun s v=>.of_eq rfl,fun base X G=>?_⟩
 let e:En:=⟨l.prog,w,K,mg,base,T2 [("NoState",At),("NoWant",E2),("NoBook",E3),("NoErrand",yM)]⟩
 have B:Bi e.mg:=Tl X G Zz
 have vt:ER e "NoState":=Jg.er X G rfl
 have yk:ER e "NoWant":=MU.er X G rfl
 have yn:ER e "NoBook":=MV.er X G rfl
 have sO:ER e "NoErrand":=FS.er X G rfl
 have bZ:=zq (e:=e) BS B
 have jO:=FE (e:=e) Jh B
 have lN:=J9 (e:=e) MW B
 have lj:=FG (e:=e) Ji B lK
 have eA:=rA (e:=e) t5 B lj
 have fh:=BG (e:=e) E4 B eA
 have sH:=DF (e:=e) FT B
 have qt:=BH (e:=e) E5 B lj sH fh bZ oJ
 have vA:=FI (e:=e) Jj B eA qt oK lL
 have vv:=FJ (e:=e) Jk B fh bZ
 have mX:=yj (e:=e) zA fh vt
 have oN:=zu (e:=e) BU vv yk
 have cU:=vw (e:=e) wB B
 have vy:=FK (e:=e) Jl B bZ
 have qw:=BK (e:=e) E6 vy
 have lO:=wA (e:=e) yN jO lN
 have fP:=FM (e:=e) Jm vA yn
 have mZ:=yp (e:=e) zB fP mX
 have yq:=Jd (e:=e) MX B cU mY
 have f9:=zx (e:=e) BV yq cU
 have jQ:=uH (e:=e) vD qw lO
 have sM:=DJ (e:=e) FU bZ jO lN
 have wV:=MR (e:=e) Pe B mZ f9 jQ
 have wW:=MS (e:=e) Pf B fP oN sM f9
 have mD:=BN (e:=e) E7 bZ
 have j4:=BP (e:=e) E8 mD
 have yK:=Je (e:=e) MY fP cU j4 sO
 have jR:=uJ (e:=e) vE B j4
 have yL:=Jf (e:=e) MZ B fP jR f9
 have n5:=yw (e:=e) zC B
 have aT:=BQ (e:=e) E9 n5
 have jS:=DQ (e:=e) FV B aT
 have qC:=BR (e:=e) Ea B jS aT
 have sW:=DT (e:=e) FW B aT
 have sR:=DU (e:=e) FX B aT
 have oS:=zz (e:=e) BW B aT sR
 have sV:=DV (e:=e) FY B qC jS oS aT
 have sX:=DW (e:=e) FZ B aT
 have s_:=DX (e:=e) F_ sV aT sW sX
 have sZ:=DZ (e:=e) G0 B
 have oV:=D_ (e:=e) G1 B sZ
 have t4:=E1 (e:=e) G3 B oV aT
 have n6:=yJ (e:=e) zD B yK
 exact (RM (e:=e) (Kn l1 l2 l3) B s_ aT t4 yL n6 wV wW).imp Rg
end
end Z
section
open PySem PySem.W PyProof.Rows
def PySem.W.Fast.tw4875538147903708515:Nat:=0
def PySem.W.Fast.tw15419254755465449844:Nat:=0
def PySem.W.Fast.tw18041748923377494312:Nat:=0
def PySem.W.Fast.tw11315298909867536341:Nat:=0
def PySem.W.Fast.tw14044029629257398198:Nat:=0
def PySem.W.Fast.tw1251223417808394425:Nat:=0
def PySem.W.Fast.tw10867905833644159213:Nat:=0
def PySem.W.Fast.tw9698461053246760715:Nat:=0
def PySem.W.Fast.tw17180410076300829333:Nat:=0
def PySem.W.Fast.tw6537358554776214313:Nat:=0
def PySem.W.Fast.tw9188607318796695087:Nat:=0
def PySem.W.Fast.tw8441398471469456670:Nat:=0
def PySem.W.Fast.tw2605035039476737737:Nat:=0
def PySem.W.Fast.tw9162520720181921028:Nat:=0
def PySem.W.Fast.tw16090087525448755917:Nat:=0
def PySem.W.Fast.tw11049085146789551170:Nat:=0
def PySem.W.Fast.tw5187606712558778104:Nat:=0
def PySem.W.Fast.tw5066693417948396958:Nat:=0
def PySem.W.Fast.tw10588845715635042337:Nat:=0
def PySem.W.Fast.tw5956233276948892587:Nat:=0
def PySem.W.Fast.tw6419810722648552729:Nat:=0
def PySem.W.Fast.tw11007094526820987628:Nat:=0
def PySem.W.Fast.tw14768993430608691960:Nat:=0
def PySem.W.Fast.tw3210819684192239361:Nat:=0
def PySem.W.Fast.tw18057858746587678872:Nat:=0
def PySem.W.Fast.tw15836742260454010588:Nat:=0
def PySem.W.Fast.tw2340960101153098059:Nat:=0
def PySem.W.Fast.tw14253969396257010442:Nat:=0
def PySem.W.Fast.tw4117132195238856243:Nat:=0
def PySem.W.Fast.tw8520743410044720193:Nat:=0
def PySem.W.Fast.tw2279568944635534496:Nat:=0
def PySem.W.Fast.tw426476838677395471:Nat:=0
def PySem.W.Fast.tw8885387506826752549:Nat:=0
def PySem.W.Fast.tw11393884329235907413:Nat:=0
def PySem.W.Fast.tw5769298439051547116:Nat:=0
def PySem.W.Fast.tw2867297385857589091:Nat:=0
def PySem.W.Fast.tw1916861810253355639:Nat:=0
def PySem.W.Fast.tw15538078545159032833:Nat:=0
def PySem.W.Fast.tw3321470293353821670:Nat:=0
def PySem.W.Fast.tw4862105878337028784:Nat:=0
def PySem.W.Fast.tw7664872612573949557:Nat:=0
def PySem.W.Fast.tw16282760823208228546:Nat:=0
def PySem.W.Fast.tw5875568792906128118:Nat:=0
def PySem.W.Fast.tw10024801745955558389:Nat:=0
theorem PySem.Challenge.cw_errands_k23_whole_rounds_holds : PySem.Challenge.rw_errands_k23_whole_rounds.Holds := by
 w_on;o_law;k_head;(case hw=>w_witness2)
 k_fill
 refine J.walkF (l:=PySem.Challenge.rw_errands_k23_whole_rounds) (k:=9) (x:="_law_script") (F0:=Z.F_law) rfl rfl ⟨rfl,by decide,by decide⟩ (fun w h Y=>PySem.W.kIn_of Y) ?F (fun ns _=>Z.law_true ns)
 case F =>
  intro w mg fa h KX G hmg
  refine' Z.all_mk KX G hmg ?_ ?_ ?_ ?_ ?_ ?_ ?_ ?_ ?_ ?_ ?_ ?_ ?_ ?_ ?_ ?_ ?_ ?_ ?_ ?_ ?_ ?_ ?_ ?_ ?_ ?_ ?_ ?_ ?_ ?_ ?_ ?_ ?_ ?_ ?_ ?_ ?_ ?_ ?_ ?_ ?_ ?_ ?_ ?_ ?_ ?_ ?_ ?_ ?_ ?_ ?_ ?_ ?_ ?_ ?_ ?_ ?_
  all_goals first
   | (refine' J.d_in KX G ?_ ?_ ?_ ?_<;>try k_is)
   | (refine' J.cn_in KX G ?_<;>try k_is)
   | k_is
   | (refine' J.TopC.mk ?_ ?_ ?_<;>try (first | k_is | k_exc))
   | (refine' J.topN ?_ ?_ ?_ ?_ ?_ ?_ ?_ ?_ ?_ ?_ ?_ ?_ ?_ ?_ ?_ ?_ ?_ ?_ ?_ ?_ ?_ ?_ ?_<;>try (first | k_is | rfl | exact fun _ _=>⟨_,rfl,rfl⟩ | decide +kernel))
   | ((refine' J.Wy.mk ?_ ?_ ?_ ?_ ?_ ?_ ?_ ?_ ?_ ?_)<;>try (first | k_is | decide | ((repeat' (first | exact .nil | refine' .cons ?_ ?_ ?_))<;>try (first | k_is | decide))))
   | ((repeat' (first | exact .nil | refine' .cons ?_ ?_))<;>try (first | (refine' J.cw_in ?_ ?_ ?_<;>try k_is) | k_is))
   | skip
end
