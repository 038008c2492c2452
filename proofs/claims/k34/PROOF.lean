import PyProof.Rows.All
import Wide.All
import OpenK.AllK
import Wide.FinOn
import Lean
import PyProof.EqAt
import PyProof.EqKinds
import PyProof.TupleCall
import KE.KDictOf
import PyProof.AttrMissHeap
import KE.KRevIter
import PyProof.DictWalks
import PyProof.MinMaxWalk
import PyProof.SeqI3
import PyProof.WalkInts
import PyProof.ExcInit
import PyProof.InstStoreFacts
import PyProof.DictCompW
import PySem.Challenge.RW_errands_k34_desk_refused
set_option Elab.async false
set_option linter.all false
set_option maxRecDepth 100000
set_option maxHeartbeats 0
open PySem renaming wpAny_bind->a6,Value->a9,wpAny_pure->aa,Addr->ac,Shared->ag,starEach->am,wpAny->aq,model->aD,Program->aR,mainGlobals->ba,Expr->bc,Around->bf,World->bh,Heap->br,compareOp->bC,wpAny_newObj_type->bG,cellsFrom->bH,boot_len->bR,eval->bY,Stmt->c8,wpAny_mono->cc,rawInt->cf,wpAny_callSpecial?_slot->cr,wpAny_call_entry->cu,wpAny_field->cB,FuncData->cP,mem_of_lookup->cZ,backTo->da,wpAny_truthy_bool->du,wpAny_holding->eE,wpAny_seqItems->eI,foldedSetIterable->eP,wpAny_setState_of->eQ,Scope->eY,swapsWith->fm,wpAny_pyIter_tuple->ft,binaryOp->fN,codeAny->fO,keywordEach->fP,behindInMarks->fR,scanBound->gF,setField->gG,strIterType->gS,sysModules->gT,bootBuiltins->gU,assignEach->gW,wpAny_setField_rec->gZ,letOwnedTupleGo->i9,codeAny_builtin->ic,attributeBase->iq,wpAny_rule->iR,wpAny_setField->iS,Builtin->j8,wpAny_askSetting->j9,wpAny_Call_Name_kw->jD,IsPair->jF,standAt->ko,backToKw->kr,codeAny_mono->ku,NameKind->kz,getItem->lT,wpAny_attempt->lU,sliceBounds->lY,wpAny_passesOwn->mH,Keyword->nh,wpAny_typeOf->nj,pickOrder->nW,call_meets->n_,holding->pz,wpAny_pyIter_list->pA,fits_of_scanBound->pC,wpAny_standAt->pQ,wpAny_comprehension_free->pR,getMethod->qR,cLine->qS,wpAny_isInstance->qT,assign->rj,pyNext->rl,wpAny_call->rm,wpAny_execs_nil->sK,IsPart->um,SetTable->ur,relayAll->ut,wpAny_of_eq->uv,codeAny_call_builtin->uw,raiseNew->ux,firstArgMember->uy,IsZip->uz,wpAny_updateSeq_pair->uA,BindsTo->vq,callerA->vw,plainId_quiet->wy,wpAny_onRaise->wA,isTrue->wP,pyIter->wQ,tupleKind_room_in1->wU,newExc->wV,callWith->yz,concat_meets->yA,wpAny_sequenceKey->yB,valueAt->yC,tupleKind->As,noFill_tuple_add->At,PyData->Av,sizeLine_eq->BH,subscripted->BJ,Within->BQ,codeAny_of_tree->BR,wpAny_updateSeq->BS,GenState->DL,recursionLimit->DO,bindArgs->DP,bindL->DQ,bindC->DR,wpAny_newFunctionEnv_cells->DS,typeLookup->DT,atKey->DW,newFunctionEnv->DX,isSubtype_type->DZ,isInstance->D_,isSubtype_stop->E2,field->E3,seq_tuple_add->G_,evalPart_none->Ha,call->Hc,Drawn->ID,CmpOp->IE,lastMarks->IF,noteFrame->II,seqItems?->IL,Paired->IT,setNext->IY,wpAny_isTrue_Compare1->Mh,codeAny_call_function->Mi,builtinLookup_eq_fast->Mn,Model->My,wpAny_alloc->MB,Walks->MD,unsupported->MH,ZipApart->MI,wpAny_letGo->MK
open PySem.W renaming Frag->a7,findIn->bz,keepIn->bQ,mroIn->bZ,kia_one->cb,kitOne->de,fnOf->dh,emptyDict->dD,nsIn->dE,nsMap_none_of_in->e7,cellsFrom_some->eG,instObj->fg,clsIn->fu,mg_of->gx,codeIn->gX,looks_findIn->kg,makesIn->kq,callWith_K->li,isNs_of_in->ll,subIn->mO,plainGet->ng,methodCall_KW->pj,lookIn->pJ,typeIn->pK,plainGet_of->qQ,codeRec_of->rn,methodObj->sP,hasDictIn->sQ,isFn->sR,specialIn->sS,kitx_list->sU,takerIn->vV,takesIn->vW,OpenLaw->vZ,excIn->yF,hideAll_get->Dy,of_hideAll->DK,kitx_tuple->DN,mg_none_of->E5,plainOver->FU,kitx_dict->FV,handedIn->GZ,hideAll->IC,kitCls->J0,nsOkIn->J1,WalkO->Ml,Looks->Mq
open PySem.Heap renaming get?_push_of_some->ae,lt_size->ax,get?_push_size->aA,size_push->bS,SameBut->bW,get?_update_self->gP,get?_update_other->pB,IsTuple->DB
open List renaming getElem?_set_ne->aj,mem_cons_self->ao,mem_cons_of_mem->ar,size_toArray->aC,getElem?_map->aK,getElem?_set_self->aL,not_mem_nil->aN,length_map->aO,mem_append_right->aQ,map_cons->aT,mem_cons->aV,lookup_cons->aW,length_append->a_,getElem?_append_right->bd,getElem?_eq_getElem->bn,length_cons->bt,replicate->bD,getElem?_replicate->bK,getElem?_append_left->bL,range->bN,getElem?_eq_none->cg,append_nil->cj,length_replicate->cF,replicate_succ->c_,all_eq_true->dA,mem_singleton->eh,find?_cons->eF,any_cons->eS,getD_eq_getElem?_getD->fc,lookup->fB,map_nil->fD,length_nil->gI,flatten_cons->gY,getElem_mem->iC,map_map->iE,filterMap_cons->iM,sublist_append_left->j0,contains_cons->jd,zip_cons_cons->jf,getElem?_cons_succ->jh,length_range->jA,length_singleton->ki,mem_of_getElem?->kL,map_append->l7,getElem_of_mem->lj,nodup_nil->m6,reverse_cons->nl,of_mem_zip->pM,nil_append->pO,forIn_cons->pP,mem_append_left->qY,length_reverse->sM,map_congr_left->sO,all_cons->sV,set_cons_zero->uk,set_cons_succ->ul,append_assoc->vv,all_map->vA,length_take->wv,length_drop->ww,any_eq_true->wz,length->wR,foldl_cons->yw,forIn_nil->zx,length_eraseIdx_of_lt->zy,getElem?_cons_zero->BU,pairwise_singleton->BV,take_of_length_le->DD,map->FX,getElem?_range->Hf,replicate_zero->Hh,foldl->IG,lookup_append->IH,nodup_append->IX,ext_getElem->Mo,zipIdx_cons->Mp,cons_append->Mt,mem_append->MC,zipIdx_nil->MJ
open Nat renaming le_refl->az,lt_of_lt_of_le->aF,ne_of_lt->aP,le_of_lt->bi,le_trans->bT,lt_irrefl->cS,zero_le->dg,lt_succ_self->eZ,ne_of_gt->gD,lt_succ_of_lt->i6,le_succ->kO,lt_of_le_of_lt->uq,min_le_right->wS,lt_asymm->DY,add_lt_add_right->Hg,lt_succ_of_le->Mm,le_of_not_lt->MA,le_add_right->ML,reduceLeDiff->MO,reduceEqDiff->MP
open Bool renaming and_eq_true->aJ,false_ne_true->aM,false_eq_true->cy,eq_iff_iff->gH,not_false->ir,noConfusion->iD,not_true->nX,or_eq_true->pS,beq_eq_decide_eq->qB,false_or->sW,false_and->zt,and_false->zv,and_self->BM,true_and->BN,not_eq_true'->I_
open PySem.PyData renaming str->aX,eqv->bu,bool->cO,int->dZ,tuple->f_,canLayAll0->gN,canLay0->i8,list->ja,eqvAll->n6,depthAll->wB
open Array renaming length_toList->aZ,getElem?_toList->f9,getElem?_eq_getElem->mP,all_toList->v_,getD_eq_getD_getElem?->yx,toArray_toList->E4,append_assoc->GX,find?_toList->GY,toList_push->IJ,size_append->IN
open PyProof.Rows renaming boot_tuple->bg,slot_tuple_getitem->cC,boot_all->dO,boot_list->fE,callWith_type1->fS,envOfC->iy,boot_isinstance->jB,Keyed->kC,boot_str->n8,AllBare->pw,StrsAre->rq,slicePart_none->uo,isBoolOf->uB,boot_sorted->vz,entry_tuple_getitem->vX,subscriptTail->wx,args_tuple_getitem->wT,SortKind->yG,Subscript_->DU,tupleItemsOf_->H9,subscriptTail_builtinR->IU,IntsAre->IW,SortSt->J2,IsTup->Mx
open PySem.Value renaming ref->bq,none->cX,bool->g6,type->g9,str->jb,int->lS,isStrOf->sJ,float->DJ
open Option.some renaming inj->bJ,injEq->BL
open PySem.NameKind renaming free->bX,cell->dC,«local»->pE
open PySem.Builtin.SmallTypes renaming nextOf->c9,ownedTupleIsFree->d_,ownedTupleHandOut->m5
open PySem.Builtin.Tuple renaming tupleExact->cw,tupleItemsOf->kh
open Int renaming toNat_of_nonneg->cG,toNat_natCast->jE,emod_lt_of_pos->uC,emod_nonneg->yH,eq_ofNat_of_zero_le->DE,reduceLT->E6
open PySem.F renaming plainAttrs_list->cJ,slot_tuple_iterator_next->iF,args_tuple_add_2->mI,slot_list_append->mJ,type_list_append->mK,slot_list_extend->mL,type_list_extend->mM,entry_tuple_add->ni,slot_tuple_add->nZ,slot_zip_next->qZ,slot_list_count->zA,slot_list_index->zB,args_tuple_iterator_next_1->Au,entry_tuple_iterator_next->BK,slot_enumerate_next->IM,args_list_extend_2->IV,entry_list_extend->Mj,slot_list_extend->Mz
open PySem.Builtin.Slice renaming slicePlaces->cL,sliceApplied->gd,sliceAdjust->kA,sliceFields->uj
open PySem.Heap.SameBut renaming update->cQ
open False renaming elim->cY
open Option renaming map_some->dn,getD_none->fM,getD_some->jZ,isSome_some->sL,isSome_map->Hd
open List.Sublist renaming refl->e8
open PySem.Heap.FunFrames renaming mem->eD
open Ne renaming symm->eV
open Or renaming inr->eW,inl->i5
open PySem.Obj renaming mapFields->eX,mapSeq->jg,putSet->uu,data_mapFields->IZ
open PySem.Builtin.List renaming listTooLong->e_,listExtendWith->sX,listSameRef->vy
open PySem.AutoSeq1 renaming wpAny_loadPart'->fh
open True renaming intro->gq
open PySem.Str renaming ofString->gE
open PyProof.Rows.F renaming plain_set_update_loop->gJ,entry_set_update_loop->nV
open PySem.SetTable renaming grown->gQ,below->gR,orStandIn->DA
open PySem.Around renaming under_plainId->i7,under->BI
open ForInStep renaming yield->iB
open PySem.Calls renaming Name_function_global->lX,call_function_entry->zz,loadGlobal_global->BG,evalArgs_plain->DV
open PySem.Paired renaming length->n5
open PySem.Builtin.Frozenset renaming sizeOf->ro,newClass->ME,updateFrom->MG,oneOther->MM,addrOf->MN
open Sum renaming inl->vT,inr->vU
open PyProof.Rows.IsTup renaming new->vY
open And renaming intro->wW
open PySem.Heap.IsSliceOf renaming new->yv
open PySem.pickOrder renaming go->yD
open PySem.SetTable.below renaming go->yE
open PySem.SeqAt.EqAt renaming bool_bool->zu,int_str->BE,str_int->BF
open List.Pairwise renaming nil->zw
open PySem.Code renaming isFrame->Dz,quiet_builtin->IK
open PySem.Shared renaming heap->DC,TypeIs->MF
open PySem.Value.type renaming inj->FW
open PySem.SeqAt renaming EqAt->Hb
open PySem.Walks renaming list->He
open PySem.Builtin.ObjectAttr renaming attrName->Mr,find->Ms
section
namespace L2
open PySem PySem.Spec PyProof.Rows
abbrev fU:=Sum Int Str
def wX:fU->a9->Bool
 |.inl k,v=>Value.isInt k v
 |.inr x,v=>sJ x v
def U7 (w:bh):fU->Int
 |.inl k=>hashInt k
 |.inr x=>hashStr w x
theorem eL:∀ {k:fU}{v:a9},wX k v=true->(∃ i t,k=vT i/\v=lS i t)\/(∃ x t,k=vU x/\v=jb x t)
 |.inl i,v,h=>by
  obtain ⟨t,e⟩:=Value.isInt_shape (k:=i) (v:=v) h
  exact .inl ⟨i,t,rfl,e⟩
 |.inr x,v,h=>by
  obtain ⟨t,e⟩:=Value.isStrOf_shape (x:=x) (v:=v) h
  exact .inr ⟨x,t,rfl,e⟩
theorem Hi (i:Int) (t:Tok):wX (.inl i) (.int i t)=true:=by simp [wX,Value.isInt]
theorem Hj (x:Str) (t:Tok):wX (.inr x) (.str x t)=true:=by simp [wX,sJ]
theorem PZ (a b:Int):decide ((vT a:fU)=vT b)=(a==b):=by
 by_cases e:a=b
 ·subst e;simp
 ·have h:¬ (vT a:fU)=vT b:=fun q=>e (Sum.inl.inj q)
  rw [decide_eq_false h]
  exact (beq_eq_false_iff_ne.mpr e).symm
theorem P_ (a b:Str):decide ((vU a:fU)=vU b)=decide (a=b):=by
 by_cases e:a=b
 ·subst e;simp
 ·have h:¬ (vU a:fU)=vU b:=fun q=>e (Sum.inr.inj q)
  rw [decide_eq_false h,decide_eq_false e]
theorem Q0 (a:Int) (b:Str):decide ((vT a:fU)=vU b)=false:=decide_eq_false (fun q=>nomatch q)
theorem Q1 (a:Str) (b:Int):decide ((vU a:fU)=vT b)=false:=decide_eq_false (fun q=>nomatch q)
def fV (prog:aR) (w:bh):PySem.KeyKind prog w fU where
 is:=wX
 hash:=U7 w
 inj:=fun v a b ha hb=>by
  rcases eL ha with ⟨i,t,rfl,rfl⟩|⟨x,t,rfl,rfl⟩
  ·rcases eL hb with ⟨j,u,rfl,e⟩|⟨y,u,rfl,e⟩
   ·injection e with e1 _;rw [e1]
   ·exact nomatch e
  ·rcases eL hb with ⟨j,u,rfl,e⟩|⟨y,u,rfl,e⟩
   ·exact nomatch e
   ·injection e with e1 _;rw [e1]
 byValue:=fun k v h=>by
  rcases eL h with ⟨i,t,rfl,rfl⟩|⟨x,t,rfl,rfl⟩<;>rfl
 pyHash:=fun hv h=>by
  rcases eL hv with ⟨i,t,rfl,rfl⟩|⟨x,t,rfl,rfl⟩
  ·exact wpAny_pyHash_int h
  ·exact wpAny_pyHash_str h
 eqBool:=fun hu hv h=>by
  rcases eL hu with ⟨i,t,rfl,rfl⟩|⟨x,t,rfl,rfl⟩
  ·rcases eL hv with ⟨j,u,rfl,rfl⟩|⟨y,u,rfl,rfl⟩
   ·rw [PZ] at h;exact wpAny_eqBool_int h
   ·rw [Q0] at h;exact BE i t y u _ _ _ _ h
  ·rcases eL hv with ⟨j,u,rfl,rfl⟩|⟨y,u,rfl,rfl⟩
   ·rw [Q1] at h;exact BF x t j u _ _ _ _ h
   ·rw [P_] at h;exact wpAny_eqBool_str h
 «strs»:=fun k x t v h=>by
  rcases eL h with ⟨i,u,rfl,e⟩|⟨y,u,rfl,e⟩
  ·exact nomatch e
  ·injection e with e1 _
   subst e1
   cases v<;>rfl
theorem BW (prog:aR) (w:bh) (i:Int) (t:Tok):(fV prog w).is (.inl i) (.int i t)=true:=Hi i t
theorem BX (prog:aR) (w:bh) (x:Str) (t:Tok):(fV prog w).is (.inr x) (.str x t)=true:=Hj x t
end L2
namespace L2
open PySem PySem.Spec PyProof.Rows
inductive V where
 |non|bl (b:Bool)|int (i:Int)|str (x:Str)|byt (b:Array UInt8)|flt (b:UInt64)|ref (a:ac)|ty (n:String)
 deriving DecidableEq
def cU:V->a9->Prop
 |.non,u=>u=cX
 |.bl b,u=>u=g6 b
 |.int i,u=>∃ t,u=lS i t
 |.str x,u=>∃ t,u=jb x t
 |.byt b,u=>∃ t,u=Value.bytes b t
 |.flt b,u=>∃ t,u=DJ b t
 |.ref a,u=>u=bq a
 |.ty n,u=>u=g9 n
abbrev cn:List V->List a9->Prop:=IT cU
theorem cn.length {xs:List V}{us:List a9} (r:cn xs us):xs.length=us.length:=n5 r
theorem cn.get {xs:List V}{us:List a9} (h:cn xs us):∀ {i:Nat}{x:V},xs[i]?=some x->∃ u,us[i]?=some u/\cU x u:=by
 induction h with
 |nil=>intro i x e;cases e
 |cons r t ih =>
  intro i x e
  cases i with
  |zero=>cases e;exact ⟨_,rfl,r⟩
  |succ i=>have q:=ih (i:=i) e;exact q
theorem cn.append {xs ys:List V}{us ws:List a9} (h:cn xs us) (s:cn ys ws):cn (xs++ys) (us++ws):=by
 induction h with
 |nil=>exact s
 |cons r t ih=>exact .cons r ih
theorem cn.take:∀ {xs:List V}{us:List a9} (n:Nat),cn xs us->cn (xs.take n) (us.take n)
 |_,_,0,_=>.nil
 |_,_,_+1,.nil=>.nil
 |_,_,n+1,.cons r t=>.cons r (cn.take n t)
theorem cn.drop:∀ {xs:List V}{us:List a9} (n:Nat),cn xs us->cn (xs.drop n) (us.drop n)
 |_,_,0,r=>r
 |_,_,_+1,.nil=>.nil
 |_,_,n+1,.cons _ t=>cn.drop n t
def qU:Option V->Option a9->Prop
 |some v,some u=>cU v u
 |none,none=>True
 |_,_=>False
def KV {κ:Type}:List (κ×V)->List (κ×a9)->Prop:=IT fun (p:κ×V) (q:κ×a9)=>p.1=q.1/\cU p.2 q.2
def kV:fU->V
 |.inl i=>.int i
 |.inr x=>.str x
inductive HO where
 |lst (xs:List V)
 |tup (xs:List V)
 |dK (kvs:List (fU×V))|dT (kvs:List (List fU×V))
 |set (S:Int->Bool) (n:Nat)
 |ins (C dx:ac) (fs:List (Str×V))
 |own (x:ac)
 |xd (fs:List (Str×V))
 |met (f x:ac)
 |rng (lo hi:Int)
 |frz (o:Obj) (u:HO)
 |tbl (ps:Array a9)
 |ext (φ:br->Prop)
abbrev Hp:=ac->Option HO
def upd (H:Hp) (a:ac) (o:HO):Hp:=fun b=>if b=a then some o else H b
theorem aB {H:Hp}{a:ac}{o:HO}:upd H a o a=some o:=by unfold upd;rw [if_pos rfl]
theorem av {H:Hp}{a b:ac}{o:HO} (h:b≠a):upd H a o b=H b:=by unfold upd;rw [if_neg h]
theorem Rv {H:Hp}{a b:ac}{o u:HO} (h:H a=some o) (h':H b=some u) (d:o≠u):a≠b:=by
 intro e;subst e;rw [h] at h';exact d (bJ h')
theorem aE {H:Hp}{a b:ac}{o:HO} (h:H a=some o) (h':H b=none):a≠b:=by
 intro e;subst e;rw [h] at h';cases h'
section
variable (P:aR) (w:bh)
def dv (H:Hp) (h:br) (a:ac):HO->Prop
 |.lst xs=>xs.length<=sizeLine/\∃ (its:List a9) (n:Nat),cn xs its/\h.get? a=some { cls:=.type "list",data:=.seq its.toArray n }
 |.tup xs=>xs.length<=sizeLine/\∃ its:List a9,cn xs its/\Mx h a its.toArray
 |.dK kvs=>kvs.length<=sizeLine/\(a==gT)=false/\∃ vs,KV kvs vs/\h.DictOf (fV P w) a vs
 |.dT kvs=>kvs.length<=sizeLine/\(a==gT)=false/\∃ xs:List (List fU×ac×a9),
   IT (fun (p:List fU×V) (q:List fU×ac×a9)=>p.1=q.1/\H q.2.1=some (.tup (p.1.map kV))/\cU p.2 q.2.2) kvs xs /\
   ∃ o es ep,h.get? a=some o/\o.ExactDict/\o.data=.dict es ep/\es.toList=xs.map (entryOfKey (As (fV P w)))/\(xs.map (·.1)).Nodup
 |.set S n=>h.SetOf (intKind P w) a S n
 |.ins C dx fs=>H dx=some (.own a)/\fs.length<=1000/\dx≠a/\h.get? a=some (fg C dx) /\
   ∃ mA,h.Ns1 dx mA/\(∀ f,qU (fs.lookup f) (mA f))/\BQ mA (fs.map (·.1))
 |.own _=>∃ o,h.get? a=some o
 |.xd fs=>∃ mA,h.Ns1 a mA/\∀ f,qU (fs.lookup f) (mA f)
 |.rng lo hi=>∃ t u v,h.get? a=some { cls:=.type "range",data:=.fields #[.int lo t,.int hi u,.int 1 v] }
 |.frz o u=>h.get? a=some o/\dv H h a u
 |.tbl ps=>h.get? a=some { cls:=.none,data:=.fields ps }
 |.met f x=>h.get? a=some (sP (.ref f) (.ref x))
 |.ext φ=>φ h/\(∃ o,h.get? a=some o)/\∀ h1 h2:br,φ h1->(∀ o,h1.get? a=some o->h2.get? a=some o)->φ h2
def pG (H:Hp) (h:br):Prop:=∀ a o,H a=some o->dv P w H h a o
end
section
variable {P:aR}{w:bh}{H H':Hp}{h h':br}{a:ac}{o:HO}
theorem dv.lt (x:dv P w H h a o):a<h.objs.size:=by
 cases o with
 |lst xs=>obtain ⟨_,_,_,_,e⟩:=x;exact ax e
 |tup xs=>obtain ⟨_,_,_,p⟩:=x;exact p.lt
 |dK kvs=>obtain ⟨_,_,_,_,o,_,_,e,_⟩:=x;exact ax e
 |dT kvs=>obtain ⟨_,_,_,_,o,_,_,e,_⟩:=x;exact ax e
 |set S n=>obtain ⟨o,_,_,_,e,_⟩:=x;exact ax e
 |ins C dx fs=>obtain ⟨_,_,_,e,_⟩:=x;exact ax e
 |own y=>obtain ⟨_,e⟩:=x;exact ax e
 |xd fs=>obtain ⟨_,⟨_,_,_,e,_⟩,_⟩:=x;exact ax e
 |rng lo hi=>obtain ⟨_,_,_,e⟩:=x;exact ax e
 |frz ob u=>obtain ⟨e,_⟩:=x;exact ax e
 |tbl ps=>exact ax (show h.get? a=some _ from x)
 |met f y=>exact ax (show h.get? a=some _ from x)
 |ext φ=>obtain ⟨_,⟨_,e⟩,_⟩:=x;exact ax e
theorem Paired.mapP {α β:Type}{F G:α->β->Prop}{l₁:List α}{l₂:List β} (h:IT F l₁ l₂) (f:∀ a b,F a b->G a b):IT G l₁ l₂:=by
 induction h with
 |nil=>exact .nil
 |cons r t ih=>exact .cons (f _ _ r) ih
theorem dv.stay (x:dv P w H h a o) (k:∀ b u,(b=a\/H b=some (.own a))->h.get? b=some u->h'.get? b=some u)
  (ho:∀ b,H b=some (.own a)->H' b=some (.own a)) (ht:∀ b xs,H b=some (.tup xs)->H' b=some (.tup xs)):dv P w H' h' a o:=by
 induction o with
 |lst xs=>obtain ⟨z,its,n,r,e⟩:=x;exact ⟨z,its,n,r,k _ _ (.inl rfl) e⟩
 |tup xs=>obtain ⟨z,its,r,ob,e,c⟩:=x;exact ⟨z,its,r,ob,k _ _ (.inl rfl) e,c⟩
 |dK kvs=>obtain ⟨z,y,vs,r,ob,es,ep,e,c⟩:=x;exact ⟨z,y,vs,r,ob,es,ep,k _ _ (.inl rfl) e,c⟩
 |dT kvs =>
  obtain ⟨z,y,xs,r,ob,es,ep,e,c⟩:=x
  exact ⟨z,y,xs,Paired.mapP r fun p q z=>⟨z.1,ht _ _ z.2.1,z.2.2⟩,ob,es,ep,k _ _ (.inl rfl) e,c⟩
 |set S n=>obtain ⟨ob,es,ep,t,e,c⟩:=x;exact ⟨ob,es,ep,t,k _ _ (.inl rfl) e,c⟩
 |ins C dx fs =>
  obtain ⟨d,z,ne,e,mA,⟨od,es,ep,e2,c⟩,r⟩:=x
  exact ⟨ho _ d,z,ne,k _ _ (.inl rfl) e,mA,⟨od,es,ep,k _ _ (.inr d) e2,c⟩,r⟩
 |own y=>obtain ⟨ob,e⟩:=x;exact ⟨ob,k _ _ (.inl rfl) e⟩
 |xd fs=>obtain ⟨mA,⟨od,es,ep,e,c⟩,r⟩:=x;exact ⟨mA,⟨od,es,ep,k _ _ (.inl rfl) e,c⟩,r⟩
 |rng lo hi=>obtain ⟨t,u,v,e⟩:=x;exact ⟨t,u,v,k _ _ (.inl rfl) e⟩
 |frz ob u ih=>obtain ⟨e,q⟩:=x;exact ⟨k _ _ (.inl rfl) e,ih q⟩
 |tbl ps =>
  have e:h.get? a=some { cls:=.none,data:=.fields ps }:=x
  show h'.get? a=some { cls:=.none,data:=.fields ps }
  exact k a _ (.inl rfl) e
 |met f y =>
  have e:h.get? a=some (sP (.ref f) (.ref y)):=x
  show h'.get? a=some (sP (.ref f) (.ref y))
  exact k a _ (.inl rfl) e
 |ext φ=>obtain ⟨p,⟨o,e⟩,st⟩:=x;exact ⟨st _ _ p fun o q=>k _ _ (.inl rfl) q,⟨o,k _ _ (.inl rfl) e⟩,st⟩
theorem pG.lt (x:pG P w H h) (e:H a=some o):a<h.objs.size:=(x a o e).lt
theorem pG.fresh (x:pG P w H h) (e:h.objs.size<=a):H a=none:=by
 cases q:H a with
 |none=>rfl
 |some u=>exact absurd (aF (x.lt q) e) (cS _)
theorem pG.kept (x:pG P w H h) (k:∀ b u,h.get? b=some u->h'.get? b=some u):pG P w H h':=fun a o e =>
 (x a o e).stay (fun b u _ q=>k b u q) (fun _ q=>q) fun _ _ q=>q
theorem pG.laid (x:pG P w H h) (k:∀ b u,h.get? b=some u->h'.get? b=some u) (hp:h.objs.size<=a) (new:dv P w (upd H a o) h' a o):pG P w (upd H a o) h':=fun b u e=>by
 have hn:=x.fresh hp
 by_cases hb:b=a
 ·subst hb;rw [aB] at e;cases e;exact new
 ·rw [av hb] at e
  exact (x b u e).stay (fun c v _ q=>k c v q) (fun c q=>by rw [av (aE q hn)];exact q) fun c xs q=>by rw [av (aE q hn)];exact q
end
def Rd (H:Hp) (a:ac) (u:HO):Prop:=H a=some u\/∃ o,H a=some (.frz o u)
theorem Rd.ok {P:aR}{w:bh}{H:Hp}{h:br}{a:ac}{u:HO} (r:Rd H a u) (x:pG P w H h):dv P w H h a u:=by
 rcases r with r|⟨o,r⟩
 ·exact x a u r
 ·obtain ⟨_,q⟩:=x a _ r
  exact q
def Rw:Option HO->Prop
 |some (.lst _)=>True
 |some (.dK _)=>True
 |some (.dT _)=>True
 |some (.set _ _)=>True
 |some (.ins _ _ _)=>True
 |some (.ext _)=>True
 |_=>False
section
variable {P:aR}{w:bh}{H:Hp}{h h':br}{x e:ac}{o':HO}
theorem pG.write (ok:pG P w H h) (mu:Rw (H x)) (he:e=x\/H e=some (.own x)) (k:∀ b u,b≠e->h.get? b=some u->h'.get? b=some u) (heo:∃ u,h'.get? e=some u)
  (new:dv P w (upd H x o') h' x o'):pG P w (upd H x o') h':=fun b u q=>by
 have nown:∀ c y,H c=some (.own y)->c≠x:=fun c y r z=>by subst z;rw [r] at mu;exact mu
 have ntup:∀ c xs,H c=some (.tup xs)->c≠x:=fun c xs r z=>by subst z;rw [r] at mu;exact mu
 by_cases hb:b=x
 ·subst hb;rw [aB] at q;cases q;exact new
 ·rw [av hb] at q
  by_cases hbe:b=e
  ·have q':H b=some (.own x):=by
    rcases he with z|z
    ·exact absurd (hbe.trans z) hb
    ·rw [hbe];exact z
   rw [q] at q';cases q'
   obtain ⟨v,hv⟩:=heo
   exact ⟨v,by rw [hbe];exact hv⟩
  ·refine (ok b u q).stay (fun c v hc r=>k c v ?_ r) (fun c r=>by rw [av (nown c b r)];exact r) fun c xs r=>by rw [av (ntup c xs r)];exact r
   rcases hc with rfl|hc
   ·exact hbe
   ·rintro rfl
    rcases he with z|z
    ·exact nown c b hc z
    ·rw [hc] at z;cases z;exact hb rfl
end
structure Un (fs ex:List ac) (H H':Hp) (h h':br):Prop where
 keep:∀ b o,h.get? b=some o->H b=none->b∉fs->b∉ex->h'.get? b=some o
 slot:∀ b o,h.get? b=some o->H b=none->b∈fs->b∉ex->∃ sl,h'.get? b=some { o with slots:=sl }
 free:∀ b o,h.get? b=some o->H b=none->b∉ex->H' b=none
 there:∀ b o,h.get? b=some o->b∉ex->∃ o',h'.get? b=some o'
 tups:∀ b xs,H b=some (.tup xs)->H' b=some (.tup xs)
 frzs:∀ b o u,H b=some (.frz o u)->H' b=some (.frz o u)
 tbls:∀ b ps,H b=some (.tbl ps)->∃ more,H' b=some (.tbl (ps++more))
section
variable {fs fs' ex ex':List ac}{H H1 H2:Hp}{h h1 h2 h':br}{a x e:ac}{o:HO}
theorem Un.any (u:Un fs ex H H1 h h1) {b:ac}{ob:Obj} (q:h.get? b=some ob) (n:H b=none) (hx:b∉ex):∃ sl,h1.get? b=some { ob with slots:=sl }:=by
 by_cases hb:b∈fs
 ·exact u.slot b ob q n hb hx
 ·exact ⟨ob.slots,u.keep b ob q n hb hx⟩
theorem Un.kept (k:∀ b u,h.get? b=some u->h'.get? b=some u):Un fs ex H H h h' :=
 ⟨fun b ob q _ _ _=>k b ob q,fun b ob q _ _ _=>⟨ob.slots,k b ob q⟩,fun _ _ _ n _=>n,fun b ob q _=>⟨ob,k b ob q⟩,fun _ _ q=>q,fun _ _ _ q=>q,fun _ ps q=>⟨#[],by rw [q];simp⟩⟩
theorem Un.refl:Un fs ex H H h h:=Un.kept fun _ _ q=>q
theorem Un.laid (k:∀ b u,h.get? b=some u->h'.get? b=some u) (hp:h.objs.size<=a) (hn:H a=none):Un fs ex H (upd H a o) h h' where
 keep:=fun b u q _ _ _=>k b u q
 slot:=fun b u q _ _ _=>⟨u.slots,k b u q⟩
 free:=fun b u q n _=>by rw [av (aP (aF (ax q) hp))];exact n
 there:=fun b u q _=>⟨u,k b u q⟩
 tups:=fun b xs q=>by rw [av (aE q hn)];exact q
 frzs:=fun b u xs q=>by rw [av (aE q hn)];exact q
 tbls:=fun b ps q=>⟨#[],by rw [av (aE q hn),q];simp⟩
theorem Un.write (mu:Rw (H x)) (he:e=x\/H e=some (.own x)) (k:∀ b u,b≠e->h.get? b=some u->h'.get? b=some u) (heo:∃ u,h'.get? e=some u):Un fs ex H (upd H x o) h h':=by
 have hx:∀ b,H b=none->b≠x:=fun b n z=>by subst z;rw [n] at mu;exact mu
 have hb:∀ b,H b=none->b≠e:=fun b n z=>by
  subst z
  rcases he with r|r
  ·exact hx b n r
  ·rw [n] at r;cases r
 have hm:∀ b u,H b=some u->¬ Rw (some u)->b≠x:=fun b u q nm z=>by subst z;rw [q] at mu;exact nm mu
 refine ⟨fun b u q n _ _=>k b u (hb b n) q,fun b u q n _ _=>⟨u.slots,k b u (hb b n) q⟩,fun b u q n _=>by rw [av (hx b n)];exact n,fun b u q _=>?_,
  fun b xs q=>by rw [av (hm b _ q fun z=>z)];exact q,fun b u xs q=>by rw [av (hm b _ q fun z=>z)];exact q,fun b ps q=>⟨#[],by rw [av (hm b _ q fun z=>z),q];simp⟩⟩
 by_cases hbe:b=e
 ·subst hbe;exact heo
 ·exact ⟨u,k b u hbe q⟩
end
def TL (h:br) (H:Hp):List ac:=(bN h.objs.size).filter fun a=>(H a).isSome
def Aw (h:br) (H:Hp):br:=IC h (TL h H)
theorem Hk (h:br) (H:Hp):(Aw h H).objs.size=h.objs.size:=PySem.W.hideAll_size _ _
theorem J4 {h:br}{H:Hp}{b:ac}{o:Obj} (e:h.get? b=some o) (n:H b=none):(Aw h H).get? b=some o :=
 Dy _ e fun hm=>by
  have q:(H b).isSome=true:=(List.mem_filter.mp hm).2
  rw [n] at q;simp at q
theorem MQ {h:br}{H:Hp}{b:ac}{o:Obj} (e:(Aw h H).get? b=some o):h.get? b=some o/\H b=none:=by
 have e':h.get? b=some o:=DK (TL h H) e
 refine ⟨e',?_⟩
 cases q:H b with
 |none=>rfl
 |some x =>
  have hm:b∈TL h H:=List.mem_filter.mpr ⟨List.mem_range.mpr (ax e'),by simp [q]⟩
  have z:(Aw h H).get? b=none:=PySem.W.hideAll_none (TL h H) hm
  rw [z] at e;cases e
def MR (g h:br) (L:ac):List (ac×Obj):=(bN h.objs.size).filterMap fun a=>if a=L\/(g.get? a).isSome=true then none else (h.get? a).map fun o=>(a,o)
def bM (g h:br) (L d:ac):List (ac×Obj):=(MR g h L).filter fun p=>decide (p.1≠d)
end L2
namespace L2
open PySem PySem.Spec PyProof.Rows
structure Mod (K:a7) (mg:Str->Option a9) (base:br):Prop where
 kin:K.In base
 glob:base.Ns ba mg
 blt:∃ mb,base.Ns builtinsNs mb/\∀ x:Str,x≠"__name__"->mb x=gU x
 nolimit:base.NoLimit
structure Cx where
 prog:aR
 w:bh
 K:a7
 mg:Str->Option a9
 base:br
 A:bf
 N:List Str
 s₀:ag
 H₀:Hp
 env:Env
 outer:List Env
 stack:List Env
 ex:List ac
 fn:Str->Bool
 calm:Bool
 pn:List (ac×Obj)
 xe:a9->ag->Prop
def q_ (l:List Env):List ac:=l.filterMap (·.frame)
abbrev Cx.fs (X:Cx):List ac:=q_ X.outer
def MS (sc:eY) (x:Str):Prop:=sc.names.lookup x=some .local\/sc.names.lookup x=some .cell\/sc.names.lookup x=some .free
def OH (sc:eY) (x:Str):Prop:=sc.names.lookup x=some .local\/sc.names.lookup x=some .cell
def U8 (env:Env) (h:br) (m:Str->Option a9) (x:Str) (u:a9):Prop :=
 (env.kindOf x=some .local/\m x=some u)\/((env.kindOf x=some .cell\/env.kindOf x=some .free)/\∃ c,env.cells.lookup x=some c/\h.IsCell c (some u))
structure Cx.Ok (X:Cx):Prop where
 mod:Mod X.K X.mg X.base
 kind:X.env.scope.kind=.function
 glob:X.env.globals=ba
 blt:X.env.builtins=builtinsNs
 above:X.s₀.heap.objs.size<=X.env.locals
 inj:∀ x y c,X.env.cells.lookup x=some c->X.env.cells.lookup y=some c->x=y
 has:∀ x,(X.env.kindOf x=some .cell\/X.env.kindOf x=some .free)->∃ c,X.env.cells.lookup x=some c
 cab:∀ x c,X.fn x=true->X.env.cells.lookup x=some c->X.s₀.heap.objs.size<=c
 hd:X.calm=true->X.A.handled=none
 frames:X.A.frames=some X.stack
 stk:X.stack=X.outer\/(X.stack=X.env::X.outer/\X.env.frame=some X.env.locals)
 exf:∀ b∈X.ex,b≠X.env.locals/\∀ x c,X.env.cells.lookup x=some c->c≠b
 bs:∀ b o,X.base.get? b=some o->X.s₀.heap.get? b=some o/\X.H₀ b=none
 bsz:X.base.objs.size<=X.s₀.heap.objs.size
 noex:∀ b o,X.base.get? b=some o->b∉X.ex
 exfs:∀ b∈X.ex,b∉X.fs
 funs:X.s₀.heap.FunFrames X.base X.outer
 frf:∀ b∈X.fs,X.H₀ b=none
structure bv (X:Cx) (pins:List (ac×Obj)) (σ:List (Option V)) (H:Hp) (s:ag):Prop where
 ok:X.Ok
 os:s.os=X.s₀.os
 bare:pw s.gens
 base:Un X.fs X.ex X.H₀ H X.s₀.heap s.heap
 loc:∃ m,s.heap.Ns X.env.locals m/\∀ (i:Nat) (x:Str) (v:V),X.N[i]?=some x->σ[i]?=some (some v)->MS X.env.scope x->∃ u,cU v u/\U8 X.env s.heap m x u
 cell:∀ x c,X.env.cells.lookup x=some c->∃ v,s.heap.IsCell c v
 free:H X.env.locals=none
 freeC:∀ x c,X.env.cells.lookup x=some c->H c=none
 pin:∀ p∈X.pn++pins,s.heap.get? p.1=some p.2/\H p.1=none/\p.1≠X.env.locals/\p.1∉X.fs/\∀ v,p.2.data≠.cell v
 hok:pG X.prog X.w H s.heap
 len:σ.length=X.N.length
section
variable {X:Cx}{pins:List (ac×Obj)}{σ:List (Option V)}{H H':Hp}{s:ag}{h':br}
theorem Cx.Ok.nofr (ok:X.Ok) {b:ac}{o:Obj} (e:X.base.get? b=some o):b∉X.fs:=fun hb=>by
 have:=(ok.funs.mem hb).1
 rw [e] at this;cases this
theorem bv.bs (I:bv X pins σ H s):∀ b o,X.base.get? b=some o->s.heap.get? b=some o/\H b=none:=fun b o e =>
 ⟨I.base.keep b o (I.ok.bs b o e).1 (I.ok.bs b o e).2 (I.ok.nofr e) (I.ok.noex b o e),I.base.free b o (I.ok.bs b o e).1 (I.ok.bs b o e).2 (I.ok.noex b o e)⟩
theorem bv.bk (I:bv X pins σ H s):∀ b o,X.base.get? b=some o->s.heap.get? b=some o:=fun b o e=>(I.bs b o e).1
theorem bv.mod (I:bv X pins σ H s):Mod X.K X.mg X.base:=I.ok.mod
theorem bv.kIn (I:bv X pins σ H s):X.K.In s.heap:=I.ok.mod.kin.keeps I.bk
theorem bv.fr (I:bv X pins σ H s):∃ m,Fr X.base X.env.locals s.heap m :=
 let ⟨m,hn,_⟩:=I.loc
 ⟨m,hn,I.bk,bT I.ok.bsz I.ok.above⟩
theorem bv.lt (I:bv X pins σ H s):X.env.locals<s.heap.objs.size:=let ⟨_,hn,_⟩:=I.loc;hn.lt
theorem bv.sz (I:bv X pins σ H s):X.s₀.heap.objs.size<=s.heap.objs.size:=bT I.ok.above (bi I.lt)
theorem bv.nofs (I:bv X pins σ H s) {a:ac} (h:s.heap.objs.size<=a):a∉X.fs:=fun hb=>by
 obtain ⟨_,o,ho,_⟩:=I.ok.funs.mem hb
 exact absurd (aF (ax ho) (bT I.sz h)) (cS _)
theorem bv.cne (I:bv X pins σ H s):∀ x c,X.env.cells.lookup x=some c->c≠X.env.locals:=fun x c e z=>by
 obtain ⟨v,o,ho,hd⟩:=I.cell x c e
 obtain ⟨m,⟨o',es,ep,ho',hd',_⟩,_⟩:=I.loc
 rw [z,ho'] at ho;cases ho;rw [hd'] at hd;cases hd
theorem bv.funs (I:bv X pins σ H s):s.heap.FunFrames X.base X.outer:=by
 have all:∀ (l:List Env),(∀ b∈q_ l,b∈X.fs)->X.s₀.heap.FunFrames X.base l->s.heap.FunFrames X.base l:=by
  intro l
  induction l with
  |nil=>intro _ _;trivial
  |cons env r ih =>
   intro hs hl
   obtain ⟨hk,⟨L,o,hf,hn,ho,hd⟩,hr⟩:=hl
   have hL:L∈X.fs:=hs L (by unfold q_;rw [iM,hf];exact ao)
   obtain ⟨sl,e⟩:=I.base.slot L o ho (I.ok.frf L hL) hL fun z=>I.ok.exfs L z hL
   exact ⟨hk,⟨L,_,hf,hn,e,hd⟩,ih (fun b hb=>hs b (by unfold q_;rw [iM,hf];exact ar _ hb)) hr⟩
 exact all X.outer (fun _ hb=>hb) I.ok.funs
theorem bv.stack (I:bv X pins σ H s):s.heap.FunFrames X.base X.stack:=by
 rcases I.ok.stk with e|⟨e,hf⟩
 ·rw [e];exact I.funs
 ·rw [e]
  obtain ⟨m,hn,_⟩:=I.loc
  refine .cons (by rw [I.ok.kind];decide) hf hn ?_ I.funs
  exact Heap.get?_none_of_le (bT I.ok.bsz I.ok.above)
theorem bv.stkSub (I:bv X pins σ H s):∀ b∈q_ X.stack,b∈X.env.locals::X.fs:=fun b hb=>by
 rcases I.ok.stk with e|⟨e,hf⟩
 ·rw [e] at hb;exact ar _ hb
 ·rw [e] at hb
  unfold q_ at hb
  rw [iM,hf] at hb
  exact hb
theorem bv.stkFree (I:bv X pins σ H s):∀ b∈q_ X.stack,H b=none:=fun b hb=>by
 rcases List.mem_cons.mp (I.stkSub b hb) with e|hb
 ·rw [e];exact I.free
 ·obtain ⟨_,o,ho,_⟩:=I.ok.funs.mem hb
  exact I.base.free b o ho (I.ok.frf b hb) fun z=>I.ok.exfs b z hb
theorem bv.step {g':Array DL}{t':Nat}{d':ID}{ch:List ac} (I:bv X pins σ H s)
  (hch:∀ b∈ch,(b∈X.ex\/X.s₀.heap.objs.size<=b)/\b≠X.env.locals/\(∀ x c,X.env.cells.lookup x=some c->c≠b)/\∀ p∈X.pn++pins,p.1≠b)
  (keep:∀ b o,b≠X.env.locals->b∉X.fs->b∉ch->s.heap.get? b=some o->H b=none->h'.get? b=some o)
  (slot:∀ b o,b≠X.env.locals->b∈X.fs->b∉ch->s.heap.get? b=some o->H b=none->∃ sl,h'.get? b=some { o with slots:=sl }) (free:∀ b o,b∉ch->s.heap.get? b=some o->H b=none->H' b=none)
  (there:∀ b o,b∉ch->s.heap.get? b=some o->∃ o',h'.get? b=some o')
  (tups:∀ b xs,H b=some (.tup xs)->H' b=some (.tup xs)) (frzs:∀ b o u,H b=some (.frz o u)->H' b=some (.frz o u)) (tbls:∀ b ps,H b=some (.tbl ps)->∃ more,H' b=some (.tbl (ps++more)))
  (ns:∀ m,s.heap.Ns X.env.locals m->h'.Ns X.env.locals m) (hok:pG X.prog X.w H' h') (hg:pw g') :
  bv X pins σ H' { s with heap:=h',gens:=g',drawn:=d',toks:=t' }:=by
 have neL:∀ b o,X.s₀.heap.get? b=some o->b≠X.env.locals:=fun b o e=>aP (aF (ax e) I.ok.above)
 have neC:∀ b o,X.s₀.heap.get? b=some o->b∉X.ex->b∉ch:=fun b o e hx hb=>by
  rcases (hch b hb).1 with z|z
  ·exact hx z
  ·exact absurd (aF (ax e) z) (cS _)
 have cellK:∀ x c,X.env.cells.lookup x=some c->∀ v,s.heap.IsCell c v->h'.IsCell c v:=fun x c e v h_0=>by
  obtain ⟨o,ho,hd⟩:=h_0
  have nch:c∉ch:=fun z=>(hch c z).2.2.1 x c e rfl
  by_cases hc:c∈X.fs
  ·obtain ⟨sl,q⟩:=slot c o (I.cne x c e) hc nch ho (I.freeC x c e)
   exact ⟨_,q,hd⟩
  ·exact ⟨o,keep c o (I.cne x c e) hc nch ho (I.freeC x c e),hd⟩
 refine ⟨I.ok,I.os,hg,⟨fun b o e n hb hx=>?_,fun b o e n hb hx=>?_,fun b o e n hx=>?_,fun b o e hx=>?_,fun b xs e=>tups b xs (I.base.tups b xs e),fun b o xs e=>frzs b o xs (I.base.frzs b o xs e),fun b ps e=>?_⟩,?_,fun x c e=>?_,?_,fun x c e=>?_,fun p hp=>?_,hok,I.len⟩
 ·exact keep b o (neL b o e) hb (neC b o e hx) (I.base.keep b o e n hb hx) (I.base.free b o e n hx)
 ·obtain ⟨sl,e1⟩:=I.base.slot b o e n hb hx
  obtain ⟨sl',e2⟩:=slot b _ (neL b o e) hb (neC b o e hx) e1 (I.base.free b o e n hx)
  exact ⟨sl',e2⟩
 ·obtain ⟨o',e1⟩:=I.base.there b o e hx
  exact free b o' (neC b o e hx) e1 (I.base.free b o e n hx)
 ·obtain ⟨o',e1⟩:=I.base.there b o e hx
  exact there b o' (neC b o e hx) e1
 ·obtain ⟨m1,e1⟩:=I.base.tbls b ps e
  obtain ⟨m2,e2⟩:=tbls b _ e1
  exact ⟨m1++m2,by rw [e2,GX]⟩
 ·obtain ⟨m,hn,hl⟩:=I.loc
  refine ⟨m,ns m hn,fun i x v e1 e2 e3=>?_⟩
  obtain ⟨u,r,l⟩:=hl i x v e1 e2 e3
  refine ⟨u,r,?_⟩
  rcases l with l|⟨k,c,e,z⟩
  ·exact .inl l
  ·exact .inr ⟨k,c,e,cellK x c e _ z⟩
 ·obtain ⟨v,z⟩:=I.cell x c e
  exact ⟨v,cellK x c e v z⟩
 ·obtain ⟨m,⟨o,_,_,ho,_⟩,_⟩:=I.loc
  exact free _ o (fun z=>(hch _ z).2.1 rfl) ho I.free
 ·obtain ⟨v,o,ho,hd⟩:=I.cell x c e
  exact free c o (fun z=>(hch c z).2.2.1 x c e rfl) ho (I.freeC x c e)
 ·obtain ⟨e,n,ne,nf,d⟩:=I.pin p hp
  have nch:p.1∉ch:=fun z=>(hch p.1 z).2.2.2 p hp rfl
  exact ⟨keep p.1 p.2 ne nf nch e n,free p.1 p.2 nch e n,ne,nf,d⟩
theorem bv.un {t':Nat} (I:bv X pins σ H s) (u:Un X.fs [] H H' s.heap h') (hok:pG X.prog X.w H' h'):bv X pins σ H' { s with heap:=h',toks:=t' }:=by
 obtain ⟨m,⟨o,es,ep,ho,r⟩,_⟩:=id I.loc
 obtain ⟨sl,hL⟩:=u.any ho I.free (by simp)
 exact I.step (g':=s.gens) (d':=s.drawn) (ch:=[]) (fun _ z=>nomatch z) (fun b o _ hb _ e n=>u.keep b o e n hb (by simp)) (fun b o _ hb _ e n=>u.slot b o e n hb (by simp)) (fun b o _ e n=>u.free b o e n (by simp)) (fun b o _ e=>u.there b o e (by simp)) u.tups u.frzs u.tbls (fun m' hm=>by
  obtain ⟨o',es',ep',ho',r'⟩:=hm
  rw [ho] at ho';cases ho'
  exact ⟨_,es',ep',hL,r'⟩) hok I.bare
theorem bv.call {g':Array DL}{t':Nat}{d':ID}{ch:List ac} (I:bv X pins σ H s) (u:Un (q_ X.stack) ch H H' s.heap h') (hok:pG X.prog X.w H' h') (hg:pw g')
  (hch:∀ b∈ch,(b∈X.ex\/X.s₀.heap.objs.size<=b)/\b≠X.env.locals/\(∀ x c,X.env.cells.lookup x=some c->c≠b)/\∀ p∈X.pn++pins,p.1≠b) :
  bv X pins σ H' { s with heap:=h',gens:=g',drawn:=d',toks:=t' }:=by
 obtain ⟨m,⟨o,es,ep,ho,r⟩,_⟩:=id I.loc
 obtain ⟨sl,hL⟩:=u.any ho I.free fun z=>(hch _ z).2.1 rfl
 exact I.step (ch:=ch) hch (fun b o hL hb hc e n=>u.keep b o e n (fun z=>(List.mem_cons.mp (I.stkSub b z)).elim hL hb) hc) (fun b o _ _ hc e n=>u.any e n hc) (fun b o hc e n=>u.free b o e n hc) (fun b o hc e=>u.there b o e hc) u.tups u.frzs u.tbls (fun m' hm=>by
  obtain ⟨o',es',ep',ho',r'⟩:=hm
  rw [ho] at ho';cases ho'
  exact ⟨_,es',ep',hL,r'⟩) hok hg
theorem bv.turned {t':Nat}{it:ac} (I:bv X pins σ H s) (k:∀ b o,b≠it->s.heap.get? b=some o->h'.get? b=some o) (hn:H it=none) (hL:it≠X.env.locals)
  (h1:it∈X.ex\/X.s₀.heap.objs.size<=it) (h2:∀ x c,X.env.cells.lookup x=some c->c≠it) (h3:∀ p∈X.pn++pins,p.1≠it):bv X pins σ H { s with heap:=h',toks:=t' }:=by
 have nit:∀ b u,H b=some u->b≠it:=fun b u e z=>by rw [z,hn] at e;cases e
 refine I.step (g':=s.gens) (d':=s.drawn) (ch:=[it]) (fun b hb=>?_) (fun b o _ _ hc e _=>k b o (fun z=>hc (by simp [z])) e) (fun b o _ _ hc e _=>⟨o.slots,k b o (fun z=>hc (by simp [z])) e⟩) (fun _ _ _ _ n=>n)
  (fun b o hc e=>⟨o,k b o (fun z=>hc (by simp [z])) e⟩) (fun _ _ e=>e) (fun _ _ _ e=>e) (fun b ps e=>⟨#[],by rw [e];simp⟩) (fun m hm=>?_) (fun b u e=>?_) I.bare
 ·have e:b=it:=by simpa using hb
  subst e
  exact ⟨h1,hL,h2,h3⟩
 ·obtain ⟨o,es,ep,ho,r⟩:=hm
  exact ⟨o,es,ep,k _ o (eV hL) ho,r⟩
 ·refine (I.hok b u e).stay (fun c v hc q=>k c v ?_ q) (fun _ q=>q) fun _ _ q=>q
  rcases hc with z|z
  ·rw [z];exact nit b u e
  ·exact nit c _ z
theorem bv.tok (I:bv X pins σ H s) (t:Nat):bv X pins σ H { s with toks:=t }:=I.un (h':=s.heap) (t':=t) Un.refl I.hok
theorem bv.kept {t':Nat} (I:bv X pins σ H s) (k:∀ b u,s.heap.get? b=some u->h'.get? b=some u):bv X pins σ H { s with heap:=h',toks:=t' }:=I.un (Un.kept k) (I.hok.kept k)
theorem bv.laid {a:ac}{o:HO}{t':Nat} (I:bv X pins σ H s) (k:∀ b u,s.heap.get? b=some u->h'.get? b=some u) (hp:s.heap.objs.size<=a) (new:dv X.prog X.w (upd H a o) h' a o) :
  bv X pins σ (upd H a o) { s with heap:=h',toks:=t' }:=I.un (Un.laid k hp (I.hok.fresh hp)) (I.hok.laid k hp new)
theorem bv.write {x e:ac}{o:HO}{t':Nat} (I:bv X pins σ H s) (mu:Rw (H x)) (he:e=x\/H e=some (.own x)) (k:∀ b u,b≠e->s.heap.get? b=some u->h'.get? b=some u) (heo:∃ u,h'.get? e=some u)
  (new:dv X.prog X.w (upd H x o) h' x o):bv X pins σ (upd H x o) { s with heap:=h',toks:=t' }:=I.un (Un.write mu he k heo) (I.hok.write mu he k heo new)
theorem bv.weak {σ':List (Option V)} (I:bv X pins σ H s) (hl:σ'.length=σ.length) (w:∀ (i:Nat) v,σ'[i]?=some (some v)->σ[i]?=some (some v)):bv X pins σ' H s :=
 ⟨I.ok,I.os,I.bare,I.base,let ⟨m,hn,hl'⟩:=I.loc;⟨m,hn,fun i x v e1 e2 e3=>hl' i x v e1 (w i v e2) e3⟩,I.cell,I.free,I.freeC,I.pin,I.hok,hl.trans I.len⟩
theorem bv.pins_of {pins':List (ac×Obj)} (I:bv X pins σ H s) (h:∀ p∈pins',s.heap.get? p.1=some p.2/\H p.1=none/\p.1≠X.env.locals/\p.1∉X.fs/\∀ v,p.2.data≠.cell v):bv X pins' σ H s :=
 ⟨I.ok,I.os,I.bare,I.base,I.loc,I.cell,I.free,I.freeC,fun p hp=>(List.mem_append.mp hp).elim (fun z=>I.pin p (qY _ z)) (h p),I.hok,I.len⟩
theorem BY {N:List Str} (hN:N.Nodup) {i j:Nat}{x:Str} (a:N[i]?=some x) (b:N[j]?=some x):i=j:=by
 obtain ⟨h1,e1⟩:=List.getElem?_eq_some_iff.mp a
 obtain ⟨h2,e2⟩:=List.getElem?_eq_some_iff.mp b
 exact (List.getElem_inj hN).mp (e1.trans e2.symm)
theorem zC {M:My}{A:bf}{E:a9->ag->Prop}{i:Nat}{x:Str}{v:V}{u:a9}{Q:Unit->ag->Prop} (I:bv X pins σ H s) (hN:X.N.Nodup) (hi:X.N[i]?=some x) (hx:OH X.env.scope x) (r:cU v u)
  (h:∀ s',bv X pins (σ.set i (some v)) H s'->(∃ a,bW a s.heap s'.heap/\(a=X.env.locals\/X.env.cells.lookup x=some a))->Q () s') (hf:X.fn x=true\/X.env.scope.names.lookup x=some .local:=by first|exact .inl rfl|exact .inr rfl|assumption):aq M A (storeName X.env x u) Q E s:=by
 obtain ⟨m,hn,hl⟩:=id I.loc
 have hcls:(X.env.scope.kind == .class||(X.env.scope.kind == .module&&X.env.locals != X.env.globals))=false:=by rw [I.ok.kind];rfl
 have hiσ:i<σ.length:=by rw [I.len];exact (List.getElem?_eq_some_iff.mp hi).1
 have cne:=I.cne
 have tracked:∀ {a:ac}{h':br},(∃ o,s.heap.get? a=some o/\H a=none)->bW a s.heap h'->pG X.prog X.w H h':=fun {a h'} ha hs b ob e=>by
  obtain ⟨_,_,hfree⟩:=ha
  refine (I.hok b ob e).stay (fun c w' hc q=>(hs.2 c ?_).trans q) (fun _ q=>q) fun _ _ q=>q
  rintro rfl
  rcases hc with rfl|hc
  ·rw [hfree] at e;cases e
  ·rw [hfree] at hc;cases hc
 rcases hx with hk|hk
 ·refine wpAny_storeName_local hk hn (fun h' hn' hs=>?_) hcls
  obtain ⟨oL,_,_,hoL,_⟩:=id hn
  refine h _ ⟨I.ok,I.os,I.bare,⟨fun b o e n hb hx=>?_,fun b o e n hb hx=>?_,I.base.free,fun b o e hx=>?_,I.base.tups,I.base.frzs,I.base.tbls⟩,⟨_,hn',fun j y v' e1 e2 e3=>?_⟩,fun y c e=>?_,I.free,I.freeC,fun p hp=>?_,tracked ⟨oL,hoL,I.free⟩ hs,by simpa using I.len⟩ ⟨_,hs,.inl rfl⟩
  ·exact (hs.2 b (aP (aF (ax e) I.ok.above))).trans (I.base.keep b o e n hb hx)
  ·obtain ⟨sl,e1⟩:=I.base.slot b o e n hb hx
   exact ⟨sl,(hs.2 b (aP (aF (ax e) I.ok.above))).trans e1⟩
  ·obtain ⟨o',e1⟩:=I.base.there b o e hx
   exact ⟨o',(hs.2 b (aP (aF (ax e) I.ok.above))).trans e1⟩
  ·by_cases hj:j=i
   ·subst hj
    rw [hi] at e1;cases e1
    rw [aL hiσ] at e2
    cases e2
    exact ⟨u,r,.inl ⟨hk,by simp⟩⟩
   ·rw [aj (eV hj)] at e2
    obtain ⟨u',r',q⟩:=hl j y v' e1 e2 e3
    refine ⟨u',r',?_⟩
    rcases q with ⟨k,e⟩|⟨k,c,e,z⟩
    ·refine .inl ⟨k,?_⟩
     have:y≠x:=fun e=>hj (BY hN e1 (e ▸ hi))
     simp [this,e]
    ·exact .inr ⟨k,c,e,z.sameBut hs (cne y c e)⟩
  ·obtain ⟨w',z⟩:=I.cell y c e
   exact ⟨w',z.sameBut hs (cne y c e)⟩
  ·obtain ⟨e,n,ne,nf,d⟩:=I.pin p hp
   exact ⟨(hs.2 p.1 ne).trans e,n,ne,nf,d⟩
 ·have hfn:X.fn x=true:=by
   rcases hf with z|z
   ·exact z
   ·rw [z] at hk;cases hk
  obtain ⟨c,hc⟩:=I.ok.has x (.inl hk)
  obtain ⟨w',z⟩:=I.cell x c hc
  refine wpAny_storeName_cell I.ok.kind hk hc z (fun h' hc' hs=>?_)
  obtain ⟨oc,hoc,hocd⟩:=id z
  refine h { s with heap:=h' } ⟨I.ok,I.os,I.bare,⟨fun b o e n hb hx=>?_,fun b o e n hb hx=>?_,I.base.free,fun b o e hx=>?_,I.base.tups,I.base.frzs,I.base.tbls⟩,⟨m,hn.sameBut hs (eV (cne x c hc)),fun j y v' e1 e2 e3=>?_⟩,fun y c' e=>?_,I.free,I.freeC,fun p hp=>?_,tracked ⟨oc,hoc,I.freeC x c hc⟩ hs,by simpa using I.len⟩ ⟨c,hs,.inr hc⟩
  ·exact (hs.2 b (aP (aF (ax e) (I.ok.cab x c hfn hc)))).trans (I.base.keep b o e n hb hx)
  ·obtain ⟨sl,e1⟩:=I.base.slot b o e n hb hx
   exact ⟨sl,(hs.2 b (aP (aF (ax e) (I.ok.cab x c hfn hc)))).trans e1⟩
  ·obtain ⟨o',e1⟩:=I.base.there b o e hx
   exact ⟨o',(hs.2 b (aP (aF (ax e) (I.ok.cab x c hfn hc)))).trans e1⟩
  ·by_cases hj:j=i
   ·subst hj
    rw [hi] at e1;cases e1
    rw [aL hiσ] at e2
    cases e2
    exact ⟨u,r,.inr ⟨.inl hk,c,hc,hc'⟩⟩
   ·rw [aj (eV hj)] at e2
    obtain ⟨u',r',q⟩:=hl j y v' e1 e2 e3
    refine ⟨u',r',?_⟩
    rcases q with q|⟨k,c',e,z'⟩
    ·exact .inl q
    ·refine .inr ⟨k,c',e,z'.sameBut hs ?_⟩
     rintro rfl
     exact hj (BY hN e1 (I.ok.inj _ _ _ e hc ▸ hi))
  ·by_cases hcc:c'=c
   ·subst hcc;exact ⟨_,hc'⟩
   ·obtain ⟨w2,z2⟩:=I.cell y c' e
    exact ⟨w2,z2.sameBut hs hcc⟩
  ·obtain ⟨e,n,ne,nf,d⟩:=I.pin p hp
   refine ⟨(hs.2 p.1 ?_).trans e,n,ne,nf,d⟩
   intro q
   rw [q,hoc] at e
   have q':oc=p.2:=bJ e
   exact d w' (by rw [<- q'];exact hocd)
theorem wY {M:My}{A:bf}{E:a9->ag->Prop}{i:Nat}{x:Str}{v:V}{u:a9}{Q:Unit->ag->Prop} (I:bv X pins σ H s) (hN:X.N.Nodup) (hi:X.N[i]?=some x) (hx:OH X.env.scope x) (r:cU v u)
  (h:∀ s',bv X pins (σ.set i (some v)) H s'->Q () s') (hf:X.fn x=true\/X.env.scope.names.lookup x=some .local:=by first|exact .inl rfl|exact .inr rfl|assumption):aq M A (storeName X.env x u) Q E s :=
 zC I hN hi hx r (fun s' I' _=>h s' I') hf
theorem bv.call' {s':ag}{ch:List ac} (I:bv X pins σ H s) (ho:s'.os=s.os) (u:Un (q_ X.stack) ch H H' s.heap s'.heap) (hok:pG X.prog X.w H' s'.heap) (hg:pw s'.gens)
  (hch:∀ b∈ch,(b∈X.ex\/X.s₀.heap.objs.size<=b)/\b≠X.env.locals/\(∀ x c,X.env.cells.lookup x=some c->c≠b)/\∀ p∈X.pn++pins,p.1≠b):bv X pins σ H' s':=by
 obtain ⟨h',g',d',t',o'⟩:=s'
 have e:o'=s.os:=ho
 subst e
 exact I.call (g':=g') (t':=t') (d':=d') u hok hg hch
end
abbrev XK:=a9->Option ac->Hp->Prop
abbrev St:=List (Option V)
abbrev VK:=V->Hp->Prop
abbrev TE:=St->Hp->VK->Prop
abbrev TT:=St->Hp->(Bool->Hp->Prop)->Prop
abbrev TA:=St->Hp->(List V->Hp->Prop)->Prop
structure wZ where
 nx:St->Hp->Prop
 rt:VK
 bk:St->Hp->Prop:=fun _ _=>False
 ct:St->Hp->Prop:=fun _ _=>False
abbrev TS:=wZ->St->Hp->Prop
inductive EP (X:Cx) (pins:List (ac×Obj)) (σ:St) (Q:VK) (u:a9) (s':ag):Prop
 |mk (v H':_) (h0:bv X pins σ H' s') (h1:cU v u) (h2:Q v H'):EP X pins σ Q u s'
inductive TP (X:Cx) (pins:List (ac×Obj)) (σ:St) (Q:Bool->Hp->Prop) (b:Bool) (s':ag):Prop
 |mk (H':_) (h0:bv X pins σ H' s') (h1:Q b H'):TP X pins σ Q b s'
inductive AP (X:Cx) (pins:List (ac×Obj)) (σ:St) (Q:List V->Hp->Prop) (us:List a9) (s':ag):Prop
 |mk (vs H':_) (h0:bv X pins σ H' s') (h1:cn vs us) (h2:Q vs H'):AP X pins σ Q us s'
inductive SN (X:Cx) (pins:List (ac×Obj)) (k:St->Hp->Prop) (s':ag):Prop
 |mk (σ':St) (H':Hp) (I:bv X pins σ' H' s') (q:k σ' H'):SN X pins k s'
inductive SV (X:Cx) (pins:List (ac×Obj)) (k:V->Hp->Prop) (u:a9) (s':ag):Prop
 |mk (v:V) (σ':St) (H':Hp) (I:bv X pins σ' H' s') (r:cU v u) (q:k v H'):SV X pins k u s'
def SP (X:Cx) (pins:List (ac×Obj)) (D:wZ) (f:Flow) (s':ag):Prop :=
 match f with
 |.next=>SN X pins D.nx s'
 |.brk=>SN X pins D.bk s'
 |.cont=>SN X pins D.ct s'
 |.ret u=>SV X pins D.rt u s'
def PE (X:Cx) (e:bc) (t:TE):Prop :=
 ∀ (pins:List (ac×Obj)) (s:ag) (σ:St) (H:Hp) (Q:VK),bv X pins σ H s->t σ H Q->aq (aD X.prog X.w) X.A (bY e X.env) (EP X pins σ Q) X.xe s
def PT (X:Cx) (e:bc) (t:TT):Prop :=
 ∀ (pins:List (ac×Obj)) (s:ag) (σ:St) (H:Hp) (Q:Bool->Hp->Prop),bv X pins σ H s->t σ H Q->aq (aD X.prog X.w) X.A (wP e X.env (bY e X.env)) (TP X pins σ Q) X.xe s
def PW (X:Cx) (e:bc) (t:TT):Prop :=
 ∀ (whole:Sem a9) (pins:List (ac×Obj)) (s:ag) (σ:St) (H:Hp) (Q:Bool->Hp->Prop),bv X pins σ H s->t σ H Q->aq (aD X.prog X.w) X.A (wP e X.env whole) (TP X pins σ Q) X.xe s
theorem PW.pt {X:Cx}{e:bc}{t:TT} (h:PW X e t):PT X e t:=h _
def PA (X:Cx) (es:List bc) (t:TA):Prop :=
 ∀ (pos:Pos) (pins:List (ac×Obj)) (s:ag) (σ:St) (H:Hp) (Q:List V->Hp->Prop),bv X pins σ H s->t σ H Q->aq (aD X.prog X.w) X.A (spliced (da pos (am es X.env))) (AP X pins σ Q) X.xe s
def PS (X:Cx) (st:c8) (t:TS):Prop :=
 ∀ (pins:List (ac×Obj)) (s:ag) (σ:St) (H:Hp) (D:wZ),bv X pins σ H s->t D σ H->aq (aD X.prog X.w) X.A (exec st X.env) (SP X pins D) X.xe s
def Ax (X:Cx) (st:List c8) (t:TS):Prop :=
 ∀ (pins:List (ac×Obj)) (s:ag) (σ:St) (H:Hp) (D:wZ),bv X pins σ H s->t D σ H->aq (aD X.prog X.w) X.A (execs st X.env) (SP X pins D) X.xe s
theorem eR {α:Type}{t:Sem α}{Q Q':α->ag->Prop}{M:My}{A:bf}{E:a9->ag->Prop}{s:ag} (h:aq M A t Q E s) (hQ:∀ a s,Q a s->Q' a s):aq M A t Q' E s:=cc h hQ fun _ _ x=>x
end L2
namespace L2
open PySem PySem.Spec PyProof.Rows
section
variable {X:Cx}
inductive OI (i:Nat) (σ:St) (H:Hp) (Q:VK):Prop
 |mk (v:_) (h0:σ[i]?=some (some v)) (h1:Q v H):OI i σ H Q
def w4 (i:Nat):TE:=OI i
def tC (v:V):TE:=fun _ H Q=>Q v H
theorem pT {i:Nat}{x:Str}{pos:Pos} (hN:X.N[i]?=some x) (hv:MS X.env.scope x) (hd:(x==("__debug__" : Str))=false:=by decide) (hcd:(x==("__classdict__" : Str))=false:=by decide):PE X (.Name x pos) (w4 i):=by
 intro pins s σ H Q I h
 obtain ⟨v,e,h⟩:=h
 obtain ⟨m,hn,hl⟩:=I.loc
 obtain ⟨u,r,l⟩:=hl i x v hN e hv
 have fin:EP X pins σ Q u s:=⟨v,H,I,r,h⟩
 rcases l with ⟨hk,hm⟩|⟨hk,c,hc,hcell⟩
 ·exact wpAny_Name (wpAny_loadName_local I.ok.kind hk hn hm fin) hd
 ·rcases hk with hk|hk
  ·exact wpAny_Name (wpAny_loadName_cell I.ok.kind hk hc hcell fin) hd
  ·exact wpAny_Name (wpAny_loadName_free I.ok.kind hk hc hcell fin hcd) hd
theorem Ay {i j pos}:PE X (.Constant (.int i) j pos) (tC (.int i)):=fun _ _ _ H _ I h=>wpAny_Constant_int ⟨.int i,H,I.tok _,⟨_,rfl⟩,h⟩
theorem J5 {b j pos}:PE X (.Constant (.bool b) j pos) (tC (.bl b)):=fun _ _ _ H _ I h=>Constant_bool ⟨.bl b,H,I,rfl,h⟩
theorem Q2 {j pos}:PE X (.Constant .none j pos) (tC .non):=fun _ _ _ H _ I h=>Constant_none ⟨.non,H,I,rfl,h⟩
theorem J6 {x j pos}:PE X (.Constant (.str x) j pos) (tC (.str x)):=fun _ _ _ H _ I h=>Calls.Constant_str ⟨.str x,H,I.tok _,⟨_,rfl⟩,h⟩
def Gl (X:Cx) (x:Str):Prop:=X.env.kindOf x=some .globalImplicit
theorem sY {E:a9->ag->Prop}{pins:List (ac×Obj)}{s:ag}{σ:St}{H:Hp}{x:Str}{u:a9}{pos:Pos}{Q:a9->ag->Prop} (I:bv X pins σ H s) (hg:Gl X x) (hm:X.mg x=some u) (h:Q u s)
  (hd:(x==("__debug__" : Str))=false:=by decide):aq (aD X.prog X.w) X.A (bY (.Name x pos) X.env) Q E s :=
 lX I.ok.kind hg (BG (by rw [I.ok.glob];exact I.mod.glob.keeps I.bk) hm h) hd
theorem uD {E:a9->ag->Prop}{pins:List (ac×Obj)}{s:ag}{σ:St}{H:Hp}{x:Str}{u:a9}{pos:Pos}{Q:a9->ag->Prop} (I:bv X pins σ H s) (hg:Gl X x) (hm:X.mg x=none) (hv:gU x=some u) (h:Q u s)
  (hn:x≠"__name__":=by decide) (hd:(x==("__debug__" : Str))=false:=by decide):aq (aD X.prog X.w) X.A (bY (.Name x pos) X.env) Q E s:=by
 obtain ⟨mb,h1,h2⟩:=I.mod.blt
 exact lX I.ok.kind hg (Calls.loadGlobal_builtin (by rw [I.ok.glob];exact I.mod.glob.keeps I.bk) hm (by rw [I.ok.blt];exact h1.keeps I.bk) ((h2 x hn).trans hv) h) hd
theorem FY {x:Str}{v:V}{u:a9}{pos:Pos} (hg:Gl X x) (hm:X.mg x=some u) (r:cU v u) (hd:(x==("__debug__" : Str))=false:=by decide):PE X (.Name x pos) (tC v) :=
 fun _ _ _ H _ I h=>sY I hg hm ⟨v,H,I,r,h⟩ hd
theorem FZ {x:Str}{v:V}{u:a9}{pos:Pos} (hg:Gl X x) (hm:X.mg x=none) (hv:gU x=some u) (r:cU v u) (hn:x≠"__name__":=by decide) (hd:(x==("__debug__" : Str))=false:=by decide):PE X (.Name x pos) (tC v) :=
 fun _ _ _ H _ I h=>uD I hg hm hv ⟨v,H,I,r,h⟩ hn hd
variable {a b:bc}{ta tb:TE}{pos:Pos}
def PC (X:Cx) (op:IE) (a b:bc) (t:TE):Prop :=
 ∀ (pins:List (ac×Obj)) (s:ag) (σ:St) (H:Hp) (Q:VK),bv X pins σ H s->t σ H Q ->
  aq (aD X.prog X.w) X.A (bY a X.env) (fun v s₁=>aq (aD X.prog X.w) X.A (bY b X.env) (fun u s₂=>aq (aD X.prog X.w) X.A (bC op v u) (EP X pins σ Q) X.xe s₂) X.xe s₁) X.xe s
theorem J7 (b:bc) {op:IE} (h:op≠.In) (h2:op≠.NotIn):fR op b=false:=by
 have e1:(op==CmpOp.In)=false:=by cases op<;>first|rfl|exact absurd rfl h
 have e2:(op==CmpOp.NotIn)=false:=by cases op<;>first|rfl|exact absurd rfl h2
 cases b<;>simp [fR,e1,e2]
def tB (t:TE):TT:=fun σ H Q=>t σ H fun x H1=>∃ c,x=.bl c/\Q c H1
theorem U9 {op:IE}{t:TE} (h:PC X op a b t) (h1:fR op b=false:=by first|exact J7 _ (by decide) (by decide)|rfl):PT X (.Compare a [op] [b] pos) (tB t):=by
 intro pins s σ H Q I hw
 refine Mh (eR (h pins s σ H _ I hw) fun v s1 h1=>eR h1 fun u s2 h2=>eR h2 fun c s3 ⟨x,H1,I1,r1,q1⟩=>?_) h1
 obtain ⟨d,rfl,q⟩:=q1
 cases r1
 exact du ⟨H1,I1,q⟩
theorem J8 {e:bc}{t:TE} (h:PE X e t) (he:∀ whole,wP e X.env whole=(do let v <- whole;ko e.pos;pz [v] (truthy v)):=by intro _;rfl):PT X e (tB t):=by
 intro pins s σ H Q I hw
 refine isTrue_plain (eR (h pins s σ H _ I hw) fun v s1 ⟨x,H1,I1,r1,q1⟩=>?_) (he _)
 obtain ⟨d,rfl,q⟩:=q1
 cases r1
 exact du ⟨H1,I1,q⟩
variable {tA tB':TT}{bM:List bc}
def Ua (t u:TT):TT:=fun σ H Q=>t σ H fun c H1=>if c=true then u σ H1 Q else Q false H1
def VP (t u:TT):TT:=fun σ H Q=>t σ H fun c H1=>if c=true then Q true H1 else u σ H1 Q
def Ub (t:TT):TT:=fun σ H Q=>t σ H fun c H1=>Q (!c) H1
theorem MT (ha:PT X a tA):PW X (.BoolOp .And [a] pos) tA:=by
 intro wh pins s σ H Q I h
 refine isTrue_and (eR (ha pins s σ H Q I h) fun c s1 e=>?_)
 cases c with
 |true=>exact isTrue_and_nil e
 |false=>exact e
theorem J9 (ha:PT X a tA):PW X (.BoolOp .Or [a] pos) tA:=by
 intro wh pins s σ H Q I h
 refine isTrue_or (eR (ha pins s σ H Q I h) fun c s1 e=>?_)
 cases c with
 |false=>exact isTrue_or_nil e
 |true=>exact e
theorem Q3 (ha:PT X a tA) (hb:PW X (.BoolOp .And (b::bM) pos) tB'):PW X (.BoolOp .And (a::b::bM) pos) (Ua tA tB'):=by
 intro wh pins s σ H Q I h
 refine isTrue_and (eR (ha pins s σ H _ I h) fun c s1 ⟨H1,I1,q1⟩=>?_)
 cases c with
 |true=>exact hb wh pins s1 σ H1 Q I1 q1
 |false=>exact ⟨H1,I1,q1⟩
theorem OJ (ha:PT X a tA) (hb:PW X (.BoolOp .Or (b::bM) pos) tB'):PW X (.BoolOp .Or (a::b::bM) pos) (VP tA tB'):=by
 intro wh pins s σ H Q I h
 refine isTrue_or (eR (ha pins s σ H _ I h) fun c s1 ⟨H1,I1,q1⟩=>?_)
 cases c with
 |true=>exact ⟨H1,I1,q1⟩
 |false=>exact hb wh pins s1 σ H1 Q I1 q1
theorem Ja (ha:PT X a tA):PT X (.UnaryOp .Not a pos) (Ub tA):=by
 intro pins s σ H Q I h
 exact isTrue_not (eR (ha pins s σ H (fun c H1=>Q (!c) H1) I h) fun _ _ x=>by obtain ⟨a,b,c⟩:=x;exact ⟨a,b,c⟩)
def Rx (ta tb:TE):TE:=fun σ H Q=>ta σ H fun x H1=>∃ c,x=.bl c/\if c=true then tb σ H1 Q else Q (.bl false) H1
def Ry (ta:TE):TE:=fun σ H Q=>ta σ H fun x H1=>∃ c,x=.bl c/\Q (.bl (!c)) H1
theorem Q4 {op}{t:TE} (h:PE X a t):PE X (.BoolOp op [a] pos) t:=fun pins s σ H Q I hw=>BoolOp_one (h pins s σ H Q I hw)
theorem Q5 (ha:PE X a ta) (hb:PE X (.BoolOp .And (b::bM) pos) tb):PE X (.BoolOp .And (a::b::bM) pos) (Rx ta tb):=by
 intro pins s σ H Q I h
 refine BoolOp_and (eR (ha pins s σ H _ I h) fun v s1 ⟨x,H1,I1,r1,q1⟩=>?_)
 obtain ⟨c,rfl,q1⟩:=q1
 cases r1
 refine du ?_
 cases c with
 |true=>exact hb pins s1 σ H1 Q I1 q1
 |false=>exact ⟨.bl false,H1,I1,rfl,q1⟩
theorem Q6 (ha:PE X a ta):PE X (.UnaryOp .Not a pos) (Ry ta):=by
 intro pins s σ H Q I h
 refine UnaryOp_ (eR (ha pins s σ H _ I h) fun v s1 ⟨x,H1,I1,r1,q1⟩=>?_)
 obtain ⟨c,rfl,q1⟩:=q1
 cases r1
 exact not_of (du ⟨.bl (!c),H1,I1,rfl,q1⟩)
end
end L2
namespace L2
open PySem PySem.Spec PyProof.Rows
inductive Vf (K:a7) (a:ac) (xs:List V):Prop
 |mk (o:Obj) (its:Array a9) (n:Nat) (h0:K.lookup a=some o) (h1:o.cls=.type "list") (h2:o.dict=none) (h3:o.data=.seq its n) (h4:its.size<=sizeLine) (h5:cn xs its.toList):Vf K a xs
def nY (K:a7) (H:Hp) (a:ac) (xs:List V):Prop :=
 Rd H a (.lst xs)\/Vf K a xs
inductive Vg (K:a7) (a:ac) (xs:List V):Prop
 |mk (o:Obj) (its:Array a9) (n:Nat) (h0:K.lookup a=some o) (h1:o.cls=.type "tuple") (h3:o.data=.seq its n) (h4:its.size<=sizeLine) (h5:cn xs its.toList):Vg K a xs
def j_ (K:a7) (H:Hp) (a:ac) (xs:List V):Prop :=
 Rd H a (.tup xs)\/Vg K a xs
def Uc:a9->Option V
 |.none=>some .non
 |.bool b=>some (.bl b)
 |.int i _=>some (.int i)
 |.str x _=>some (.str x)
 |.bytes b _=>some (.byt b)
 |.float b _=>some (.flt b)
 |.ref a=>some (.ref a)
 |.type n=>some (.ty n)
 |_=>none
theorem cU.abs {x:V}{u:a9} (r:cU x u):Uc u=some x:=by
 cases x with
 |non=>cases r;rfl
 |bl _=>cases r;rfl
 |int _=>obtain ⟨t,rfl⟩:=r;rfl
 |str _=>obtain ⟨t,rfl⟩:=r;rfl
 |byt _=>obtain ⟨t,rfl⟩:=r;rfl
 |flt _=>obtain ⟨t,rfl⟩:=r;rfl
 |ref _=>cases r;rfl
 |ty _=>cases r;rfl
theorem cU.inj {x y:V}{u:a9} (r:cU x u) (q:cU y u):x=y:=bJ (r.abs.symm.trans q.abs)
theorem cn.inj {xs:List V}{us:List a9} (h:cn xs us):∀ {ys:List V},cn ys us->xs=ys:=by
 induction h with
 |nil=>intro ys k;cases k;rfl
 |cons r t ih=>intro ys k;cases k with|cons r' t'=>rw [r.inj r',ih t']
section
variable {X:Cx}{pins:List (ac×Obj)}{σ:St}{H:Hp}{s:ag}{a:ac}{xs ys:List V}
theorem nY.of {K:a7} (h:H a=some (.lst xs)):nY K H a xs:=.inl (.inl h)
theorem j_.of {K:a7} (h:H a=some (.tup xs)):j_ K H a xs:=.inl (.inl h)
inductive Vh (h:br) (a:ac) (xs:List V):Prop
 |mk (its:List a9) (r:cn xs its) (p:PlainL h a its.toArray) (z:xs.length<=sizeLine):Vh h a xs
inductive Vi (h:br) (a:ac) (xs:List V):Prop
 |mk (its:List a9) (r:cn xs its) (p:Mx h a its.toArray) (z:xs.length<=sizeLine):Vi h a xs
inductive Vj (h:br) (l:ac) (xs:List V):Prop
 |mk (z:xs.length<=sizeLine) (its:List a9) (n:Nat) (r:cn xs its) (hl:xs.length=its.length) (e:h.get? l=some { cls:=.type "list",data:=.seq its.toArray n }):Vj h l xs
theorem bv.list (I:bv X pins σ H s) (h:nY X.K H a xs):Vh s.heap a xs:=by
 rcases h with h|⟨o,its,n,hk,hc,hd,hs,hz,r⟩
 ·obtain ⟨z,its,n,r,e⟩:=h.ok I.hok
  exact ⟨its,r,⟨_,n,e,rfl,rfl,rfl⟩,z⟩
 ·refine ⟨its.toList,r,⟨o,n,I.kIn a o hk,hc,hd,by simpa using hs⟩,?_⟩
  have e:=r.length
  simp only [aZ] at e
  omega
theorem bv.tuple (I:bv X pins σ H s) (h:j_ X.K H a xs):Vi s.heap a xs:=by
 rcases h with h|⟨o,its,n,hk,hc,hs,hz,r⟩
 ·obtain ⟨z,its,r,p⟩:=h.ok I.hok
  exact ⟨its,r,p,z⟩
 ·refine ⟨its.toList,r,⟨o,I.kIn a o hk,hc,n,by simpa using hs⟩,?_⟩
  have e:=r.length
  simp only [aZ] at e
  omega
theorem bv.list_inj (I:bv X pins σ H s) (h:nY X.K H a xs) (h':nY X.K H a ys):xs=ys:=by
 obtain ⟨its,r,⟨o,n,e,_,_,d⟩,_⟩:=I.list h
 obtain ⟨its',r',⟨o',n',e',_,_,d'⟩,_⟩:=I.list h'
 rw [e] at e';cases e'
 rw [d] at d'
 injection d' with d1 _
 have:its=its':=by simpa using congrArg Array.toList d1
 subst this
 exact r.inj r'
theorem bv.tuple_inj (I:bv X pins σ H s) (h:j_ X.K H a xs) (h':j_ X.K H a ys):xs=ys:=by
 obtain ⟨its,r,⟨o,e,_,n,d⟩,_⟩:=I.tuple h
 obtain ⟨its',r',⟨o',e',_,n',d'⟩,_⟩:=I.tuple h'
 rw [e] at e';cases e'
 rw [d] at d'
 injection d' with d1 _
 have:its=its':=by simpa using congrArg Array.toList d1
 subst this
 exact r.inj r'
end
abbrev Cx.wish (X:Cx) (E:a9->ag->Prop):Cx:={ X with xe:=E }
abbrev Cx.nox (X:Cx):Cx:=X.wish fun _ _=>False
theorem Cx.Ok.wish {X:Cx} (ok:X.Ok) (E:a9->ag->Prop):(X.wish E).Ok :=
 ⟨ok.mod,ok.kind,ok.glob,ok.blt,ok.above,ok.inj,ok.has,ok.cab,ok.hd,ok.frames,ok.stk,ok.exf,ok.bs,ok.bsz,ok.noex,ok.exfs,ok.funs,ok.frf⟩
theorem Cx.Ok.unwish {X:Cx}{E:a9->ag->Prop} (ok:(X.wish E).Ok):X.Ok :=
 ⟨ok.mod,ok.kind,ok.glob,ok.blt,ok.above,ok.inj,ok.has,ok.cab,ok.hd,ok.frames,ok.stk,ok.exf,ok.bs,ok.bsz,ok.noex,ok.exfs,ok.funs,ok.frf⟩
section
variable {X:Cx}{pins:List (ac×Obj)}{σ:St}{H:Hp}{s:ag}{E:a9->ag->Prop}
theorem bv.wish (I:bv X pins σ H s) (E:a9->ag->Prop):bv (X.wish E) pins σ H s:=⟨I.ok.wish E,I.os,I.bare,I.base,I.loc,I.cell,I.free,I.freeC,I.pin,I.hok,I.len⟩
theorem bv.unwish (I:bv (X.wish E) pins σ H s):bv X pins σ H s:=⟨I.ok.unwish,I.os,I.bare,I.base,I.loc,I.cell,I.free,I.freeC,I.pin,I.hok,I.len⟩
theorem SP.unwish {D:wZ}{f:Flow}{s':ag} (h:SP (X.wish E) pins D f s'):SP X pins D f s':=by
 cases f with
 |next=>obtain ⟨σ',H',I,q⟩:=h;exact ⟨σ',H',I.unwish,q⟩
 |brk=>obtain ⟨σ',H',I,q⟩:=h;exact ⟨σ',H',I.unwish,q⟩
 |cont=>obtain ⟨σ',H',I,q⟩:=h;exact ⟨σ',H',I.unwish,q⟩
 |ret u=>obtain ⟨v,σ',H',I,r,q⟩:=h;exact ⟨v,σ',H',I.unwish,r,q⟩
end
section
variable {X:Cx}{st:c8}{bM:List c8}{t u:TS}{e:bc}{te:TE}{pos:Pos}
def Rz:TS:=fun D σ H=>D.nx σ H
def Jb (t u:TS):TS:=fun D σ H=>t { D with nx:=u D } σ H
theorem F_:Ax X [] Rz:=fun _ _ σ H _ I h=>sK ⟨σ,H,I,h⟩
theorem fG (h1:PS X st t) (h2:Ax X bM u):Ax X (st::bM) (Jb t u):=by
 intro pins s σ H D I h
 refine wpAny_execs_cons (eR (h1 pins s σ H { D with nx:=u D } I h) fun f s1 q=>?_)
 cases f with
 |next =>
  obtain ⟨σ',H',I',q⟩:=q
  exact h2 pins s1 σ' H' D I' q
 |ret v=>exact q
 |brk=>exact q
 |cont=>exact q
theorem wC (h1:PS X st t):Ax X [st] t:=by
 intro pins s σ H D I h
 refine wpAny_execs_cons (eR (h1 pins s σ H D I h) fun f s1 q=>?_)
 cases f with
 |next=>exact sK q
 |ret v=>exact q
 |brk=>exact q
 |cont=>exact q
theorem bv.quiet {pins:List (ac×Obj)}{σ:St}{H:Hp}{s:ag} (I:bv X pins σ H s):interactive X.env=false:=by simp [interactive,I.ok.kind]
def OK (te:TE):TS:=fun D σ H=>te σ H fun _ H1=>D.nx σ H1
theorem m7 (he:PE X e te) (hs:fm e none pos.line X.env=pure false:=by rfl):PS X (.Expr e pos) (OK te):=by
 intro pins s σ H D I h
 exact wpAny_Expr_any (eR (he pins s σ H _ I h) fun v s1 h_7=>by obtain ⟨x,H1,I1,r1,q1⟩:=h_7;exact ⟨σ,H1,I1,q1⟩) I.quiet hs
def RA (te:TE):TS:=fun D σ H=>te σ H D.rt
theorem E7 (he:PE X e te):PS X (.Return (some e) pos) (RA te):=by
 intro pins s σ H D I h
 exact wpAny_Return_some (eR (he pins s σ H _ I h) fun v s1 h_8=>by obtain ⟨x,H1,I1,r1,q1⟩:=h_8;exact ⟨x,σ,H1,I1,r1,q1⟩)
def Ud (c:TT) (t u:TS):TS:=fun D σ H=>c σ H fun b H1=>if b=true then t D σ H1 else u D σ H1
theorem OL {c:bc}{a b:List c8}{tc:TT} (hc:PT X c tc) (ha:Ax X a t) (hb:Ax X b u):PS X (.If c a b pos) (Ud tc t u):=by
 intro pins s σ H D I h
 refine wpAny_If (eR (hc pins s σ H _ I h) fun d s1 ⟨H1,I1,q1⟩=>?_)
 cases d with
 |true=>exact ha pins s1 σ H1 D I1 q1
 |false=>exact hb pins s1 σ H1 D I1 q1
def Q7:TS:=fun _ _ _=>False
theorem nq {sts:List c8}:Ax X sts Q7:=fun _ _ _ _ _ _ h=>h.elim
end
abbrev TG:=V->St->Hp->(St->Hp->Prop)->Prop
abbrev Jc:=List V->St->Hp->(St->Hp->Prop)->Prop
def PG (X:Cx) (target:bc) (t:TG):Prop :=
 ∀ (pins:List (ac×Obj)) (s:ag) (σ:St) (H:Hp) (v:V) (u:a9) (Q:St->Hp->Prop),bv X pins σ H s->cU v u->t v σ H Q ->
  aq (aD X.prog X.w) X.A (rj target X.env u) (fun _ s'=>SN X pins Q s') X.xe s
def OM (X:Cx) (ts:List bc) (t:Jc):Prop :=
 ∀ (pins:List (ac×Obj)) (s:ag) (σ:St) (H:Hp) (vs:List V) (us:List a9) (Q:St->Hp->Prop),bv X pins σ H s->cn vs us->t vs σ H Q ->
  aq (aD X.prog X.w) X.A (assignInOrder ((gW ts X.env).map (·.2)) us) (fun _ s'=>SN X pins Q s') X.xe s
section
variable {X:Cx}{pos:Pos}
def vB (i:Nat):TG:=fun v σ H Q=>Q (σ.set i (some v)) H
theorem eu {i:Nat}{x:Str} (hN:X.N.Nodup) (hi:X.N[i]?=some x) (hx:OH X.env.scope x) (hf:X.fn x=true\/X.env.scope.names.lookup x=some .local:=by first|exact .inl rfl|exact .inr rfl|assumption):PG X (.Name x pos) (vB i):=by
 intro pins s σ H v u Q I r h
 exact wpAny_assign_Name (wY I hN hi hx r (fun s' I'=>⟨_,H,I',h⟩) hf)
def al:Jc:=fun vs σ H Q=>vs=[]/\Q σ H
inductive Jd (t:TG) (u:Jc) (vs:List V) (σ:St) (H:Hp) (Q:St->Hp->Prop):Prop
 |mk (v r:_) (h0:vs=v::r) (h1:t v σ H fun σ' H'=>u r σ' H' Q):Jd t u vs σ H Q
def a8 (t:TG) (u:Jc):Jc:=Jd t u
theorem Az:OM X [] al:=by
 intro pins s σ H vs us Q I r h
 obtain ⟨e,h⟩:=h
 subst e
 cases r
 exact assignInOrder_nil ⟨σ,H,I,h⟩
theorem pU {e:bc}{es:List bc}{t:TG}{u:Jc} (h1:PG X e t) (h2:OM X es u)
  (hs:(gW (e::es) X.env).map (·.2)=rj e X.env::(gW es X.env).map (·.2):=by rfl):OM X (e::es) (a8 t u):=by
 intro pins s σ H vs us Q I r h
 obtain ⟨v,vr,e1,h⟩:=h
 subst e1
 cases r with
 |cons r rr =>
  rw [hs]
  refine assignInOrder_cons (eR (h1 pins s σ H _ _ _ I r h) fun _ s1 ⟨σ1,H1,I1,q1⟩=>?_)
  exact h2 pins s1 σ1 H1 _ _ Q I1 rr q1
inductive ON (K:a7) (n:Nat) (t:Jc) (v:V) (σ:St) (H:Hp) (Q:St->Hp->Prop):Prop
 |mk (a xs:_) (h0:v=.ref a) (h1:j_ K H a xs) (h2:xs.length=n) (h3:t xs σ H Q):ON K n t v σ H Q
def Q8 (K:a7) (n:Nat) (t:Jc):TG:=ON K n t
theorem E8 {es:List bc}{k:Nat}{t:Jc}{n:Nat} (hc:X.calm=true) (h:OM X es t)
  (hn:(gW es X.env).length=n:=by rfl) (hst:(gW es X.env).findIdx? (·.1)=none:=by rfl):PG X (.Tuple es k pos) (Q8 X.K n t):=by
 intro pins s σ H v u Q I r hw
 obtain ⟨a,xs,e1,hq,hl,hw⟩:=hw
 subst e1
 cases r
 obtain ⟨its,rv,ht,hz⟩:=I.tuple hq
 refine assign_Tuple_tuple (I.ok.hd hc) ht (by simp [hn,<- hl,rv.length]) hst fun h' hx=>?_
 have I1:bv X pins σ H { s with heap:=h' }:=I.kept (t':=s.toks) fun b o e=>hx b o (aP (ax e)) e
 exact h pins _ σ H xs _ Q I1 (by simpa using rv) hw
def RC (te:TE) (g:TG):TS:=fun D σ H=>te σ H fun x H1=>g x σ H1 D.nx
theorem Je {tg e:bc}{te:TE}{g:TG} (he:PE X e te) (hg:PG X tg g) (hs:swapsWithSole [tg] e pos.line X.env=pure false:=by rfl) (hw:swappedStores [tg] e X.env=pure none:=by rfl)
  (h1:(gW [tg] X.env).map (·.2)=[rj tg X.env]:=by rfl):PS X (.Assign [tg] e pos) (RC te g):=by
 intro pins s σ H D I h
 refine wpAny_Assign_stores (eR (he pins s σ H _ I h) fun v s1 ⟨x,H1,I1,r1,q1⟩=>?_) hs hw
 rw [h1]
 exact eR (hg pins s1 σ H1 x v _ I1 r1 q1) fun _ s2 q=>q
theorem AA {i:Nat}{x:Str}{e:bc}{te:TE}{pos':Pos} (hN:X.N.Nodup) (hi:X.N[i]?=some x) (hx:OH X.env.scope x) (he:PE X e te) (hs:fm e (some (.Name x pos')) pos.line X.env=pure false:=by rfl) (hf:X.fn x=true\/X.env.scope.names.lookup x=some .local:=by first|exact .inl rfl|exact .inr rfl|assumption) :
  PS X (.Assign [.Name x pos'] e pos) (RC te (vB i)):=by
 intro pins s σ H D I h
 refine wpAny_Assign_Name (eR (he pins s σ H _ I h) fun v s1 ⟨y,H1,I1,r1,q1⟩=>?_) hs
 exact wY I1 hN hi hx r1 (fun s2 I2=>⟨_,H1,I2,q1⟩) hf
end
section
variable {X:Cx}{pos:Pos}
end
structure It where
 go:Nat->Hp->Prop
 yld:Nat->Hp->V->Hp->Prop
 stop:Nat->Hp->Prop
structure sZ (X:Cx) (pins:List (ac×Obj)) (H:Hp) (b:ac):Prop where
 f0:H b=none
 f1:b≠X.env.locals
 f2:b∉X.fs
 f3:b∈X.ex\/X.s₀.heap.objs.size<=b
 f4:∀ x c,X.env.cells.lookup x=some c->c≠b
 f5:∀ p∈X.pn++pins,p.1≠b
theorem bv.fpOk {X:Cx}{pins:List (ac×Obj)}{σ:St}{H H':Hp}{s:ag}{b:ac} (I:bv X pins σ H s) (hb:s.heap.objs.size<=b) (hn:H' b=none):sZ X pins H' b:=by
 refine ⟨hn,gD (aF I.lt hb),I.nofs hb,.inr (bT I.sz hb),fun x c e z=>?_,fun p hp z=>?_⟩
 ·obtain ⟨v,q⟩:=I.cell x c e
  exact absurd (aF q.lt (by rw [z];exact hb)) (cS _)
 ·exact absurd (aF (ax (I.pin p hp).1) (by rw [z];exact hb)) (cS _)
structure BZ (P:aR) (w:bh) (K:a7) (tg:bc) (J:It) (fp:List ac) (it:ac) (tn:Nat->br->Prop):Prop where
 mem:it∈fp
 obj:∀ i h,tn i h->∀ b∈fp,∃ o,h.get? b=some o/\∀ v,o.data≠.cell v
 keep:∀ i h h',tn i h->(∀ b∈fp,∀ o,h.get? b=some o->h'.get? b=some o)->tn i h'
 item:∀ (X:Cx),X.prog=P->X.w=w->X.K=K->X.calm=true->∀ (i:Nat) (pins:List (ac×Obj)) (s:ag) (σ:St) (H:Hp) (E:a9->ag->Prop),bv X pins σ H s->(∀ b∈fp,sZ X pins H b)->tn i s.heap->J.go i H ->
  aq (aD P w) X.A (rl (.ref it)) (fun r s1=>∃ u,r=some u /\
   aq (aD P w) X.A (i9 tg (.ref it) u) (fun _ s2=>∃ x H',bv X pins σ H' s2/\cU x u/\J.yld i H x H'/\tn (i+1) s2.heap/\∀ b∈fp,H' b=none) E s1) E s
 done:∀ (X:Cx),X.prog=P->X.w=w->X.K=K->X.calm=true->∀ (i:Nat) (pins:List (ac×Obj)) (s:ag) (σ:St) (H:Hp) (E:a9->ag->Prop),bv X pins σ H s->(∀ b∈fp,sZ X pins H b)->tn i s.heap->J.stop i H ->
  aq (aD P w) X.A (rl (.ref it)) (fun r s1=>r=none/\bv X pins σ H s1) E s
 self:∀ (A:bf) (i:Nat) (s:ag) (Q:a9->ag->Prop) (E:a9->ag->Prop),tn i s.heap->Q (.ref it) s->aq (aD P w) A (wQ (.ref it)) Q E s
abbrev TI:=St->Hp->(It->Hp->Prop)->Prop
inductive Ue (X:Cx) (pins:List (ac×Obj)) (σ:St) (tg:bc) (R:It->Hp->Prop) (itv:a9) (s2:ag):Prop
 |mk (it:ac) (fp:List ac) (tn:Nat->br->Prop) (J:It) (H':Hp) (h0:itv=.ref it) (I:bv X pins σ H' s2) (T:BZ X.prog X.w X.K tg J fp it tn) (t0:tn 0 s2.heap) (f:∀ b∈fp,sZ X pins H' b) (q:R J H'):Ue X pins σ tg R itv s2
inductive Uf (X:Cx) (pins:List (ac×Obj)) (tn:Nat->br->Prop) (fp:List ac) (W:Nat->Nat->St->Hp->Prop) (n:Nat) (s':ag):Prop
 |mk (i:Nat) (σ':St) (H':Hp) (I:bv X pins σ' H' s') (t:tn i s'.heap) (f:∀ b∈fp,H' b=none) (q:W i n σ' H'):Uf X pins tn fp W n s'
def PI (X:Cx) (tg iter:bc) (wi:TI):Prop :=
 ∀ (pins:List (ac×Obj)) (s:ag) (σ:St) (H:Hp) (R:It->Hp->Prop),bv X pins σ H s->wi σ H R ->
  aq (aD X.prog X.w) X.A (bY iter X.env) (fun v s1=>aq (aD X.prog X.w) X.A (wQ v) (Ue X pins σ tg R) X.xe s1) X.xe s
theorem Jf {M : My} {A : bf} {E : a9 -> ag -> Prop} {s : ag} {tg : bc} {it : ac} {u : a9} {o : Obj} {n : String} {vs : Array a9} {Q : Unit -> ag -> Prop} (ho : s.heap.get? it = some o) (hc : o.cls = .type n) (hd : o.data = .fields vs)
    (hn : ["enumerate", "zip", "dict_itemiterator", "dict_reverseitemiterator", "odict_iterator", "itertools.zip_longest", "itertools.pairwise"].contains n = false) (hQ : Q () s) : aq M A (i9 tg (.ref it) u) Q E s := by
  unfold i9
  cases tg <;> first
    | exact aa hQ
    | (cases u <;> first
        | exact aa hQ
        | (refine a6 (wpAny_load ho ?_)
           rw [hc, hd]
           show aq M A (if (["enumerate", "zip", "dict_itemiterator", "dict_reverseitemiterator", "odict_iterator", "itertools.zip_longest", "itertools.pairwise"].contains n && vs[0]? == some (cf _)) = true then _ else _) Q E s
           rw [if_neg (by intro h; rw [hn, zt] at h; cases h)]
           exact aa hQ))
def Ug (K:a7) (a:ac):It :=
 ⟨fun i H=>∃ xs x,nY K H a xs/\xs[i]?=some x,fun i H x H'=>H'=H/\∀ xs,nY K H a xs->xs[i]?=some x,fun i H=>∃ xs,nY K H a xs/\xs.length<=i⟩
def Uh (K:a7) (a:ac):It :=
 ⟨fun i H=>∃ xs x,j_ K H a xs/\xs[i]?=some x,fun i H x H'=>H'=H/\∀ xs,j_ K H a xs->xs[i]?=some x,fun i H=>∃ xs,j_ K H a xs/\xs.length<=i⟩
def TM (lo:Int) (n:Nat):It:=⟨fun i _=>i<n,fun i H x H'=>H'=H/\x=.int (lo+i),fun i _=>n<=i⟩
theorem Hl {P:aR}{w:bh}{K:a7}{tg:bc} (a it:ac):BZ P w K tg (Ug K a) [it] it (fun i h=>h.IsListIter it a i) where
 mem:=by simp
 obj:=fun i h st b hb=>by
  have e:b=it:=by simpa using hb
  subst e
  obtain ⟨o,e,c,d⟩:=st
  exact ⟨o,e,fun v z=>by rw [d] at z;cases z⟩
 keep:=fun i h h' st k=>st.at fun o e=>k it (by simp) o e
 item:=by
  intro X hP hw hK hc i pins s σ H E I hf st hg
  subst hP hw hK
  obtain ⟨xs,x,hq,hx⟩:=hg
  obtain ⟨its,rv,p,hz⟩:=I.list hq
  obtain ⟨u,hu,ru⟩:=rv.get hx
  obtain ⟨f0,f1,f2,f3,f4,f5⟩:=hf it (by simp)
  refine wpAny_pyNext_list_item st p.isList (x:=u) (by simpa using hu) fun h' st' sb=>?_
  have I1:bv X pins σ H { s with heap:=h' }:=I.turned (t':=s.toks) (fun b o hb e=>(sb.2 b hb).trans e) f0 f1 f3 f4 f5
  obtain ⟨o,e,c,d⟩:=id st'
  exact ⟨u,rfl,Jf (s:={ s with heap:=h' }) e c d (by decide) ⟨x,H,I1,ru,⟨rfl,fun ys hy=>by rw [I.list_inj hy hq];exact hx⟩,st',fun b hb=>(hf b hb).1⟩⟩
 done:=by
  intro X hP hw hK hc i pins s σ H E I hf st hg
  subst hP hw hK
  obtain ⟨xs,hq,hx⟩:=hg
  obtain ⟨its,rv,p,hz⟩:=I.list hq
  obtain ⟨f0,f1,f2,f3,f4,f5⟩:=hf it (by simp)
  have hl:=rv.length
  exact wpAny_pyNext_list_end (I.ok.hd hc) st p.isList (by simp;omega) fun h' eb=>⟨rfl,I.turned (t':=s.toks) (fun b o hb e=>eb b o hb e) f0 f1 f3 f4 f5⟩
 self:=fun _ _ _ _ _ st h=>wpAny_pyIter_listiter st h
theorem E9 {P:aR}{w:bh}{K:a7}{tg:bc} (a it:ac):BZ P w K tg (Uh K a) [it] it (fun i h=>h.IsTupleIter it a i) where
 mem:=by simp
 obj:=fun i h st b hb=>by
  have e:b=it:=by simpa using hb
  subst e
  obtain ⟨o,e,c,d⟩:=st
  exact ⟨o,e,fun v z=>by rw [d] at z;cases z⟩
 keep:=fun i h h' st k=>st.at fun o e=>k it (by simp) o e
 item:=by
  intro X hP hw hK hc i pins s σ H E I hf st hg
  subst hP hw hK
  obtain ⟨xs,x,hq,hx⟩:=hg
  obtain ⟨its,rv,p,hz⟩:=I.tuple hq
  obtain ⟨u,hu,ru⟩:=rv.get hx
  obtain ⟨f0,f1,f2,f3,f4,f5⟩:=hf it (by simp)
  refine wpAny_pyNext_tuple_item st (show s.heap.IsTuple a its.toArray from p) (x:=u) (by simpa using hu) fun h' st' sb=>?_
  have I1:bv X pins σ H { s with heap:=h' }:=I.turned (t':=s.toks) (fun b o hb e=>(sb.2 b hb).trans e) f0 f1 f3 f4 f5
  obtain ⟨o,e,c,d⟩:=id st'
  exact ⟨u,rfl,Jf (s:={ s with heap:=h' }) e c d (by decide) ⟨x,H,I1,ru,⟨rfl,fun ys hy=>by rw [I.tuple_inj hy hq];exact hx⟩,st',fun b hb=>(hf b hb).1⟩⟩
 done:=by
  intro X hP hw hK hc i pins s σ H E I hf st hg
  subst hP hw hK
  obtain ⟨xs,hq,hx⟩:=hg
  obtain ⟨its,rv,p,hz⟩:=I.tuple hq
  obtain ⟨f0,f1,f2,f3,f4,f5⟩:=hf it (by simp)
  have hl:=rv.length
  exact wpAny_pyNext_tuple_end (I.ok.hd hc) st (show s.heap.IsTuple a its.toArray from p) (by simp;omega) fun h' eb=>⟨rfl,I.turned (t':=s.toks) (fun b o hb e=>eb b o hb e) f0 f1 f3 f4 f5⟩
 self:=fun _ _ _ _ _ st h=>wpAny_pyIter_tupleiter st h
theorem Ea {P:aR}{w:bh}{K:a7}{tg:bc} (it:ac) (lo:Int) (n:Nat):BZ P w K tg (TM lo n) [it] it (fun i h=>IsRangeIter h it (lo+(i:Nat)*1) ((n:Int)-(i:Nat)) 1) where
 mem:=by simp
 obj:=fun i h st b hb=>by
  have e:b=it:=by simpa using hb
  subst e
  exact ⟨_,st,fun v z=>by
   have z':Data.fields _=Data.cell v:=z
   cases z'⟩
 keep:=fun i h h' st k=>k it (by simp) _ st
 item:=by
  intro X hP hw hK hc i pins s σ H E I hf st hg
  subst hP hw hK
  obtain ⟨f0,f1,f2,f3,f4,f5⟩:=hf it (by simp)
  have W:=Walks.range (prog:=X.prog) (w:=X.w) (I.ok.hd hc) it lo 1 n
  refine W.item i s _ _ hg st fun v h' tk hv st' kk=>?_
  obtain ⟨t,rfl⟩:=hv
  have I1:bv X pins σ H { s with heap:=h',toks:=tk }:=I.turned (fun b o hb e=>kk b o (by simpa using hb) e) f0 f1 f3 f4 f5
  refine ⟨_,rfl,Jf (s:={ s with heap:=h',toks:=tk }) (n:="range_iterator") st' rfl rfl (by decide) ⟨.int (lo+i),H,I1,⟨t,?_⟩,⟨rfl,rfl⟩,st',fun b hb=>(hf b hb).1⟩⟩
  rw [Int.mul_one]
 done:=by
  intro X hP hw hK hc i pins s σ H E I hf st hg
  subst hP hw hK
  obtain ⟨f0,f1,f2,f3,f4,f5⟩:=hf it (by simp)
  exact wpAny_pyNext_range_end (I.ok.hd hc) st (by have:n<=i:=hg;omega) fun h' eb=>⟨rfl,I.turned (t':=s.toks) (fun b o hb e=>eb b o hb e) f0 f1 f3 f4 f5⟩
 self:=fun _ _ _ _ _ st h=>wpAny_pyIter_rangeiter st h
end L2
namespace L2
open PySem PySem.Spec PyProof.Rows
section
variable {X:Cx}{tg:bc}
def RE (K:a7) (tl:TE):TI:=fun σ H R=>tl σ H fun x H1=>∃ a,x=.ref a/\(∃ xs,nY K H1 a xs)/\R (Ug K a) H1
def Ui (K:a7) (tl:TE):TI:=fun σ H R=>tl σ H fun x H1=>∃ a,x=.ref a/\(∃ xs,j_ K H1 a xs)/\R (Uh K a) H1
theorem wD {l:bc}{tl:TE} (hl:PE X l tl):PI X tg l (RE X.K tl):=by
 intro pins s σ H R I h
 refine eR (hl pins s σ H _ I h) fun v s1 h_16=>?_
 obtain ⟨x,H1,I1,r1,q1⟩:=h_16
 obtain ⟨a,e,⟨xs,hq⟩,q⟩:=q1
 subst e
 cases r1
 obtain ⟨its,rv,p,hz⟩:=I1.list hq
 refine pA p.isList ?_
 refine ⟨s1.heap.objs.size,[s1.heap.objs.size],_,_,H1,rfl,I1.kept (t':=s1.toks) fun b o e=>ae _ e,Hl a _,⟨_,aA _ rfl,rfl,rfl⟩,fun b hb=>?_,q⟩
 have e:b=s1.heap.objs.size:=by simpa using hb
 subst e
 exact I1.fpOk (az _) (I1.hok.fresh (az _))
theorem Jg {l:bc}{tl:TE} (hl:PE X l tl):PI X tg l (Ui X.K tl):=by
 intro pins s σ H R I h
 refine eR (hl pins s σ H _ I h) fun v s1 h_17=>?_
 obtain ⟨x,H1,I1,r1,q1⟩:=h_17
 obtain ⟨a,e,⟨xs,hq⟩,q⟩:=q1
 subst e
 cases r1
 obtain ⟨its,rv,p,hz⟩:=I1.tuple hq
 refine ft (show s1.heap.IsTuple a its.toArray from p) ?_
 refine ⟨s1.heap.objs.size,[s1.heap.objs.size],_,_,H1,rfl,I1.kept (t':=s1.toks) fun b o e=>ae _ e,E9 a _,⟨_,aA _ rfl,rfl,rfl⟩,fun b hb=>?_,q⟩
 have e:b=s1.heap.objs.size:=by simpa using hb
 subst e
 exact I1.fpOk (az _) (I1.hok.fresh (az _))
theorem Jh {pins:List (ac×Obj)}{σ:St}{H:Hp}{s:ag}{R:It->Hp->Prop}{E:a9->ag->Prop}{lo hi:Int}{t u v:Tok}{tk:Nat} (I:bv X pins σ H s) (h1:-(2 ^ 62)<=lo) (h2:lo<2 ^ 62) (h3:-(2 ^ 62)<=hi) (h4:hi<2 ^ 62)
  (q:R (TM lo (hi-lo).toNat) H):aq (aD X.prog X.w) X.A (wQ (.ref s.heap.objs.size)) (Ue X pins σ tg R) E { s with heap:=s.heap.push { cls:=.type "range",data:=.fields #[.int lo t,.int hi u,.int 1 v] },toks:=tk }:=by
 refine wpAny_pyIter_range (IsRange.new ..) (small_one h1 h2 h3 h4) ?_
 have I1:bv X pins σ H { s with heap:=s.heap.push { cls:=.type "range",data:=.fields #[.int lo t,.int hi u,.int 1 v] },toks:=tk }:=I.kept fun b o e=>ae _ e
 refine ⟨(s.heap.push { cls:=.type "range",data:=.fields #[.int lo t,.int hi u,.int 1 v] }).objs.size,[(s.heap.push { cls:=.type "range",data:=.fields #[.int lo t,.int hi u,.int 1 v] }).objs.size],_,_,H,rfl,
  I1.kept (t':=tk) fun b o e=>ae _ e,Ea _ lo (hi-lo).toNat,?_,fun b hb=>?_,q⟩
 ·have e1:lo+((0:Nat):Int)*1=lo:=by simp
  have e2:(((hi-lo).toNat:Nat):Int)-((0:Nat):Int)=Builtin.Range.rangeSize lo hi 1:=by rw [rangeSize_one];split<;>omega
  show IsRangeIter _ _ (lo+((0:Nat):Int)*1) ((((hi-lo).toNat:Nat):Int)-((0:Nat):Int)) 1
  rw [e1,e2]
  exact aA _ rfl
 ·have e:b=(s.heap.push { cls:=.type "range",data:=.fields #[.int lo t,.int hi u,.int 1 v] }).objs.size:=by simpa using hb
  subst e
  exact I1.fpOk (az _) (I1.hok.fresh (az _))
def RF (ta:TA):TI:=fun σ H R=>ta σ H fun vs H1=>∃ j:Int,vs=[.int j]/\-(2 ^ 62)<=j/\j<2 ^ 62/\R (TM 0 j.toNat) H1
theorem Hm {a:bc}{ta:TA}{p pos:Pos} (hg:Gl X "range") (hm:X.mg "range"=none) (ha:PA X [a] ta) (hs:am [a] X.env=[(false,bY a X.env)]:=by rfl):PI X tg (.Call (.Name "range" p) [a] [] pos) (RF ta):=by
 intro pins s σ H R I h
 refine Call_ (uD I hg hm boot_range (fS (eR (ha pos pins s σ H _ I h) fun us s1 ⟨vs,H1,I1,r1,q1⟩=>?_) hs rfl))
 obtain ⟨j,e,q1,q2,q⟩:=q1
 subst e
 cases r1 with
 |cons r rr =>
  cases rr
  obtain ⟨t,rfl⟩:=r
  exact call_range_1 (Jh I1 (by omega) (by omega) q1 q2 (by simpa using q))
inductive Uj (g:TG) (tb:TS) (D:wZ) (σ:St) (J:It) (H1:Hp):Prop
 |mk (W:Nat->Nat->St->Hp->Prop) (w0:∃ m,W 0 m σ H1) (turn:∀ i m σ H,W i m σ H ->
 (J.stop i H/\D.nx σ H)\/(J.go i H/\∃ N:St->Hp->Prop,(∀ σ' H',N σ' H'->∃ m',m'<m/\W (i+1) m' σ' H')/\∀ x H',J.yld i H x H'->g x σ H' fun σ2 H2=>tb { D with nx:=N,ct:=N,bk:=D.nx } σ2 H2)):Uj g tb D σ J H1
def Uk (wi:TI) (g:TG) (tb:TS):TS:=fun D σ H=>wi σ H (Uj g tb D σ)
def w_ (fp:List ac) (h:br):List (ac×Obj):=fp.filterMap fun b=>(h.get? b).map fun o=>(b,o)
theorem jG {fp:List ac}{h:br}{b:ac}{o:Obj} (hb:b∈fp) (e:h.get? b=some o):(b,o)∈w_ fp h:=List.mem_filterMap.mpr ⟨b,hb,by rw [e];rfl⟩
theorem zD {fp:List ac}{h:br}{p:ac×Obj} (hp:p∈w_ fp h):p.1∈fp/\h.get? p.1=some p.2:=by
 obtain ⟨b,hb,e⟩:=List.mem_filterMap.mp hp
 cases q:h.get? b with
 |none=>rw [q] at e;cases e
 |some o =>
  rw [q] at e
  have e':(b,o)=p:=bJ e
  subst e'
  exact ⟨hb,q⟩
theorem bv.pinned {pins:List (ac×Obj)}{σ:St}{H:Hp}{s:ag}{fp:List ac} (I:bv X pins σ H s) (hf:∀ b∈fp,sZ X pins H b) (ho:∀ b∈fp,∃ o,s.heap.get? b=some o/\∀ v,o.data≠.cell v):bv X (pins++w_ fp s.heap) σ H s :=
 I.pins_of fun p hp=>(List.mem_append.mp hp).elim (fun z=>I.pin p (aQ _ z)) fun z=>by
  obtain ⟨hb,e⟩:=zD z
  obtain ⟨f0,f1,f2,_⟩:=hf p.1 hb
  obtain ⟨o,e',d⟩:=ho p.1 hb
  rw [e] at e';cases e'
  exact ⟨e,f0,f1,f2,d⟩
theorem bv.unpinned {pins pl:List (ac×Obj)}{σ:St}{H:Hp}{s:ag} (I:bv X (pins++pl) σ H s):bv X pins σ H s:=I.pins_of fun p hp=>I.pin p (aQ _ (qY _ hp))
theorem Q9 {iter:bc}{body:List c8}{wi:TI}{g:TG}{tb:TS}{pos:Pos} (hp:PassesOwn (aD X.prog X.w) X.A X.env X.xe) (hc:X.calm=true) (hi:PI X tg iter wi) (hg:PG X tg g) (hb:Ax X body tb)
  (hs:∀ x,eP iter X.env x=pure x:=by intro _;rfl):PS X (.For tg iter body [] pos) (Uk wi g tb):=by
 intro pins s σ H D I h
 refine wpAny_For (eR (hi pins s σ H _ I h) fun v s1 h1=>eR h1 fun itv s2 h2=>?_) hs
 obtain ⟨it,fp,tn,J,H2,e,I2,T,st2,f2,W,⟨m0,w0⟩,turn⟩:=h2
 subst e
 have stat:∀ {H':Hp},(∀ b∈fp,H' b=none)->∀ b∈fp,sZ X pins H' b:=fun hn b hb=>⟨hn b hb,(f2 b hb).f1,(f2 b hb).f2,(f2 b hb).f3,(f2 b hb).f4,(f2 b hb).f5⟩
 refine codeAny_forLoop_any (Uf X pins tn fp W) ?_ m0 ⟨0,σ,H2,I2,st2,fun b hb=>(f2 b hb).1,w0⟩
 rintro n s3 ⟨i,σ3,H3,I3,st3,fr3,w3⟩
 rcases turn i n σ3 H3 w3 with ⟨stop,qn⟩|⟨go,N,hN,step⟩
 ·refine mH hp (eR (T.done X rfl rfl rfl hc i pins s3 σ3 H3 X.xe I3 (stat fr3) st3 stop) fun r s4 ⟨hr,I4⟩=>?_)
  subst hr
  exact sK ⟨σ3,H3,I4,qn⟩
 ·refine mH hp (eR (T.item X rfl rfl rfl hc i pins s3 σ3 H3 X.xe I3 (stat fr3) st3 go) fun r s4 ⟨u,hr,h4⟩=>?_)
  subst hr
  refine mH hp (eR h4 fun _ s5 ⟨x,H5,I5,r5,y5,st5,fr5⟩=>?_)
  have I5':=I5.pinned (stat fr5) (T.obj _ _ st5)
  refine mH hp (eR (hg _ s5 σ3 H5 x u _ I5' r5 (step x H5 y5)) fun _ s6 ⟨σ6,H6,I6,q6⟩=>?_)
  refine mH hp (eR (hb _ s6 σ6 H6 _ I6 q6) fun f s7 q7=>?_)
  have again:∀ {σ7:St}{H7:Hp},bv X (pins++w_ fp s5.heap) σ7 H7 s7->N σ7 H7->∃ m,m<n/\Uf X pins tn fp W m s7:=fun {σ7 H7} I7 n7=>by
   obtain ⟨m',hm,w7⟩:=hN σ7 H7 n7
   refine ⟨m',hm,i+1,σ7,H7,I7.unpinned,T.keep _ _ _ st5 fun b hb o e=>(I7.pin (b,o) (aQ _ (aQ _ (jG hb e)))).1,fun b hb=>?_,w7⟩
   obtain ⟨o,e,d⟩:=T.obj _ _ st5 b hb
   exact (I7.pin (b,o) (aQ _ (aQ _ (jG hb e)))).2.1
  cases f with
  |next=>obtain ⟨σ7,H7,I7,n7⟩:=q7;exact again I7 n7
  |cont=>obtain ⟨σ7,H7,I7,n7⟩:=q7;exact again I7 n7
  |brk=>obtain ⟨σ7,H7,I7,q7⟩:=q7;exact ⟨σ7,H7,I7.unpinned,q7⟩
  |ret v=>obtain ⟨x7,σ7,H7,I7,r7,q7⟩:=q7;exact ⟨x7,σ7,H7,I7.unpinned,r7,q7⟩
end
end L2
namespace L2
open PySem PySem.Spec PyProof.Rows
abbrev R2:=V->V->Hp->VK->Prop
def pp (X:Cx) (f:a9->a9->Sem a9) (r:R2):Prop :=
 ∀ (pins:List (ac×Obj)) (s:ag) (σ:St) (H:Hp) (x y:V) (v u:a9) (Q:VK),bv X pins σ H s->cU x v->cU y u->r x y H Q ->
  aq (aD X.prog X.w) X.A (f v u) (EP X pins σ Q) X.xe s
def Ul (X:Cx) (f:a9->Sem a9) (r:V->Hp->VK->Prop):Prop :=
 ∀ (pins:List (ac×Obj)) (s:ag) (σ:St) (H:Hp) (x:V) (v:a9) (Q:VK),bv X pins σ H s->cU x v->r x H Q ->
  aq (aD X.prog X.w) X.A (f v) (EP X pins σ Q) X.xe s
def ji (X:Cx) (f:a9) (r:List V->Hp->VK->Prop):Prop :=
 ∀ (pins:List (ac×Obj)) (s:ag) (σ:St) (H:Hp) (xs:List V) (us:List a9) (Q:VK),bv X pins σ H s->cn xs us->r xs H Q ->
  aq (aD X.prog X.w) X.A (call f us) (EP X pins σ Q) X.xe s
def Um (X:Cx) (r:V->Hp->(Bool->Hp->Prop)->Prop):Prop :=
 ∀ (pins:List (ac×Obj)) (s:ag) (σ:St) (H:Hp) (x:V) (v:a9) (Q:Bool->Hp->Prop),bv X pins σ H s->cU x v->r x H Q ->
  aq (aD X.prog X.w) X.A (truthy v) (TP X pins σ Q) X.xe s
def RG (r:R2) (ta tb:TE):TE:=fun σ H Q=>ta σ H fun x H1=>tb σ H1 fun y H2=>r x y H2 Q
def VQ (r:V->Hp->VK->Prop) (ta:TE):TE:=fun σ H Q=>ta σ H fun x H1=>r x H1 Q
inductive Vk (C:Int->Int->Prop) (g:Int->Int->V) (x:V) (y:V) (H:Hp) (Q:VK):Prop
 |mk (i j:_) (h0:x=.int i) (h1:y=.int j) (h2:C i j) (h3:Q (g i j) H):Vk C g x y H Q
def rI (C:Int->Int->Prop) (g:Int->Int->V):R2:=Vk C g
inductive RH (g:Int->Int->V) (x:V) (y:V) (H:Hp) (Q:VK):Prop
 |mk (i j:_) (h0:x=.int i) (h1:y=.int j) (h2:Q (g i j) H):RH g x y H Q
def Qa (g:Int->Int->V):R2:=RH g
inductive Vl (g:Int->V) (x:V) (H:Hp) (Q:VK):Prop
 |mk (i:_) (h0:x=.int i) (h1:Q (g i) H):Vl g x H Q
def rU (g:Int->V):V->Hp->VK->Prop:=Vl g
section
variable {X:Cx}{a b c:bc}{ta tb tc:TE}{pos:Pos}
theorem Qb (ha:PE X a ta) (hb:PE X b tb) {pins:List (ac×Obj)}{s:ag}{σ:St}{H:Hp}{R:V->V->Hp->Prop} (I:bv X pins σ H s)
  (h:ta σ H fun x H1=>tb σ H1 fun y H2=>R x y H2) {Q:a9->ag->Prop}{f:a9->a9->Sem a9}
  (hf:∀ v u s2 x y H2,bv X pins σ H2 s2->cU x v->cU y u->R x y H2->aq (aD X.prog X.w) X.A (f v u) Q X.xe s2) :
  aq (aD X.prog X.w) X.A (bY a X.env) (fun v s₁=>aq (aD X.prog X.w) X.A (bY b X.env) (fun u s₂=>aq (aD X.prog X.w) X.A (f v u) Q X.xe s₂) X.xe s₁) X.xe s:=by
 refine eR (ha pins s σ H _ I h) fun v s1 h_19=>?_
 obtain ⟨x,H1,I1,r1,q1⟩:=h_19
 refine eR (hb pins s1 σ H1 _ I1 q1) fun u s2 h_20=>?_
 obtain ⟨y,H2,I2,r2,q2⟩:=h_20
 exact hf v u s2 x y H2 I2 r1 r2 q2
theorem OO {op:Operator}{r:R2} (ho:pp X (fN op) r) (ha:PE X a ta) (hb:PE X b tb):PE X (.BinOp a op b pos) (RG r ta tb):=by
 intro pins s σ H Q I h
 exact wpAny_BinOp (Qb ha hb I h fun v u s2 x y H2 I2 rx ry q=>ho pins s2 σ H2 x y v u Q I2 rx ry q)
theorem OP {op:UnaryOp}{r:V->Hp->VK->Prop} (ho:Ul X (unaryOp op) r) (ha:PE X a ta):PE X (.UnaryOp op a pos) (VQ r ta):=by
 intro pins s σ H Q I h
 exact UnaryOp_ (eR (ha pins s σ H _ I h) fun v s1 h_21=>by obtain ⟨x,H1,I1,r1,q1⟩:=h_21;exact ho pins s1 σ H1 x v Q I1 r1 q1)
theorem Uo {f:a9->a9->Sem a9}{C:Int->Int->Prop}{g:Int->Int->Int}
  (rule:∀ (i j:Int) (t u:Tok) (s:ag) (Q:a9->ag->Prop) (E:a9->ag->Prop),C i j->Q (.int (g i j) s.toks) { s with toks:=s.toks+1 }->aq (aD X.prog X.w) X.A (f (.int i t) (.int j u)) Q E s) :
  pp X f (rI C fun i j=>.int (g i j)):=by
 intro pins s σ H x y v u Q I rx ry h
 obtain ⟨i,j,rfl,rfl,hc,q⟩:=h
 obtain ⟨t,rfl⟩:=rx
 obtain ⟨t',rfl⟩:=ry
 exact rule i j t t' s _ _ hc ⟨.int (g i j),H,I.tok _,⟨_,rfl⟩,q⟩
theorem Up {f:a9->a9->Sem a9}{g:Int->Int->Int}
  (rule:∀ (i j:Int) (t u:Tok) (s:ag) (Q:a9->ag->Prop) (E:a9->ag->Prop),Q (.int (g i j) s.toks) { s with toks:=s.toks+1 }->aq (aD X.prog X.w) X.A (f (.int i t) (.int j u)) Q E s) :
  pp X f (Qa fun i j=>.int (g i j)):=by
 intro pins s σ H x y v u Q I rx ry h
 obtain ⟨i,j,rfl,rfl,q⟩:=h
 obtain ⟨t,rfl⟩:=rx
 obtain ⟨t',rfl⟩:=ry
 exact rule i j t t' s _ _ ⟨.int (g i j),H,I.tok _,⟨_,rfl⟩,q⟩
theorem Qc {f:a9->a9->Sem a9}{g:Int->Int->Bool}
  (rule:∀ (i j:Int) (t u:Tok) (s:ag) (Q:a9->ag->Prop) (E:a9->ag->Prop),Q (.bool (g i j)) s->aq (aD X.prog X.w) X.A (f (.int i t) (.int j u)) Q E s) :
  pp X f (Qa fun i j=>.bl (g i j)):=by
 intro pins s σ H x y v u Q I rx ry h
 obtain ⟨i,j,rfl,rfl,q⟩:=h
 obtain ⟨t,rfl⟩:=rx
 obtain ⟨t',rfl⟩:=ry
 exact rule i j t t' s _ _ ⟨.bl (g i j),H,I,rfl,q⟩
def Uq (i j:Int):Prop:=0<j/\j<1073741824
def Qd (i j:Int):Prop:=(-(2 ^ 64)<i/\i<2 ^ 64)\/(-(2 ^ 64)<j/\j<2 ^ 64)
theorem Qd.ok {i j:Int} (h:Qd i j):IntMulOk i j:=by
 rcases h with ⟨h1,h2⟩|⟨h1,h2⟩
 ·exact .of_left (intBits_le_64 h1 h2)
 ·exact .of_right (intBits_le_64 h1 h2)
theorem Qe:pp X (fN .Add) (Qa fun i j=>.int (i+j)):=Up fun _ _ _ _ _ _ _ q=>add_int q
theorem Qf:pp X (fN .Mult) (rI Qd fun i j=>.int (i*j)):=Uo fun _ _ _ _ _ _ _ hc q=>mul_int q hc.ok
theorem MU:pp X (fN .FloorDiv) (rI Uq fun i j=>.int (i / j)):=Uo fun i j _ _ _ _ _ hc q=>by
 have h1:(0:Int)<j:=hc.1
 have h2:j<1073741824:=hc.2
 exact floordiv_int (by omega) (by rw [Int.fdiv_eq_ediv_of_nonneg i (by omega)];exact q) (.inl (PyProof.noPylong_small (by omega)))
theorem Qg:pp X (fN .Mod) (rI (fun _ j=>0<j) fun i j=>.int (i % j)):=Uo fun i j _ _ _ _ _ hc q=>by
 have h1:(0:Int)<j:=hc
 exact mod_int' (by omega) (by rw [Int.fmod_eq_emod_of_nonneg i (by omega)];exact q)
theorem VR {f:a9->Sem a9}{g:Int->Int}
  (rule:∀ (i:Int) (t:Tok) (s:ag) (Q:a9->ag->Prop) (E:a9->ag->Prop),Q (.int (g i) s.toks) { s with toks:=s.toks+1 }->aq (aD X.prog X.w) X.A (f (.int i t)) Q E s) :
  Ul X f (rU fun i=>.int (g i)):=by
 intro pins s σ H x v Q I rx h
 obtain ⟨i,rfl,q⟩:=h
 obtain ⟨t,rfl⟩:=rx
 exact rule i t s _ _ ⟨.int (g i),H,I.tok _,⟨_,rfl⟩,q⟩
theorem Ji:Ul X (unaryOp .USub) (rU fun i=>.int (-i)):=VR fun _ _ _ _ _ q=>neg_int q
end
def Ur:V->V->Bool
 |.non,.non=>true | .non,.int _=>true | .int _,.non=>true | .non,.bl _=>true | .bl _,.non=>true | .non,.str _=>true | .str _,.non=>true
 |.int _,.int _=>true | .bl _,.bl _=>true | .str _,.str _=>true | .byt _,.byt _=>true
 |.int _,.str _=>true | .str _,.int _=>true | .bl _,.str _=>true | .str _,.bl _=>true
 |_,_=>false
def VS:R2:=fun x y H Q=>Ur x y=true/\Q (.bl (!decide (x=y))) H
theorem MV {i j:Int}:decide (V.int i=V.int j)=(i==j):=by
 rw [gH]
 simp
theorem Qh {i j:Bool}:decide (V.bl i=V.bl j)=(i==j):=by
 rw [gH]
 simp
theorem MW {i j:Str}:decide (V.str i=V.str j)=(i==j):=by
 rw [gH]
 simp
theorem MX {i j:Array UInt8}:decide (V.byt i=V.byt j)=(i.toList==j.toList):=by
 rw [gH]
 cases i
 cases j
 simp
section
variable {X:Cx}{a b c:bc}{ta tb tc:TE}{pos:Pos}
theorem fW {pins:List (ac×Obj)}{σ:St}{H:Hp}{s:ag}{Q:VK}{k k':Bool} (I:bv X pins σ H s) (q:Q (.bl k) H) (e:k=k'):EP X pins σ Q (.bool k') s:=by
 subst e
 exact ⟨.bl k,H,I,rfl,q⟩
theorem RI:pp X (bC .NotEq) VS:=by
 intro pins s σ H x y v u Q I rx ry h
 obtain ⟨hs,q⟩:=h
 cases x with
 |non =>
  cases rx
  cases y with
  |non=>cases ry;exact PySem.EqNone.ne_none_none (fW I q (by simp))
  |bl j=>cases ry;exact PySem.EqNone.ne_none_bool (fW I q (by simp))
  |int j=>obtain ⟨t',rfl⟩:=ry;exact PySem.EqNone.ne_none_int (fW I q (by simp))
  |str j=>obtain ⟨t',rfl⟩:=ry;exact PySem.EqNone.ne_none_str (fW I q (by simp))
  |_=>exact absurd (show false=true from hs) aM
 |bl i =>
  cases rx
  cases y with
  |non=>cases ry;exact PySem.EqNone.ne_bool_none (fW I q (by simp))
  |bl j=>cases ry;exact ne_bool (fW I q (congrArg not Qh))
  |str j=>obtain ⟨t',rfl⟩:=ry;exact PySem.EqMixed.ne_bool_str (fW I q (by simp))
  |_=>exact absurd (show false=true from hs) aM
 |int i =>
  obtain ⟨t,rfl⟩:=rx
  cases y with
  |non=>cases ry;exact PySem.EqNone.ne_int_none (fW I q (by simp))
  |int j=>obtain ⟨t',rfl⟩:=ry;exact ne_int (fW I q (congrArg not MV))
  |str j=>obtain ⟨t',rfl⟩:=ry;exact PySem.EqMixed.ne_int_str (fW I q (by simp))
  |_=>exact absurd (show false=true from hs) aM
 |str i =>
  obtain ⟨t,rfl⟩:=rx
  cases y with
  |non=>cases ry;exact PySem.EqNone.ne_str_none (fW I q (by simp))
  |bl j=>cases ry;exact PySem.EqMixed.ne_str_bool (fW I q (by simp))
  |int j=>obtain ⟨t',rfl⟩:=ry;exact PySem.EqMixed.ne_str_int (fW I q (by simp))
  |str j=>obtain ⟨t',rfl⟩:=ry;exact ne_str (fW I q (congrArg not MW))
  |_=>exact absurd (show false=true from hs) aM
 |byt i =>
  obtain ⟨t,rfl⟩:=rx
  cases y with
  |byt j=>obtain ⟨t',rfl⟩:=ry;exact PySem.W.ne_bytes (fW I q (congrArg not MX))
  |_=>exact absurd (show false=true from hs) aM
 |_=>cases y<;>exact absurd (show false=true from hs) aM
theorem RJ:pp X (bC .Lt) (Qa fun i j=>.bl (decide (i<j))):=Qc fun _ _ _ _ _ _ _ q=>lt_int q
theorem RK:pp X (bC .LtE) (Qa fun i j=>.bl (decide (i<=j))):=Qc fun _ _ _ _ _ _ _ q=>le_int q
theorem RL:pp X (bC .Gt) (Qa fun i j=>.bl (decide (j<i))):=Qc fun _ _ _ _ _ _ _ q=>gt_int q
theorem Ho:pp X (bC .Lt) (fun x y H Q=>∃ i j,x=.str i/\y=.str j/\Q (.bl (decide (i.cps.toList<j.cps.toList))) H):=by
 intro pins s σ H x y v u Q I rx ry h
 obtain ⟨i,j,rfl,rfl,q⟩:=h
 obtain ⟨t,rfl⟩:=rx
 obtain ⟨t',rfl⟩:=ry
 exact lt_str (fW I q rfl)
theorem Qi:pp X (bC .Is) (fun x y H Q=>y=.non/\Q (.bl (decide (x=.non))) H):=by
 intro pins s σ H x y v u Q I rx ry h
 obtain ⟨rfl,q⟩:=h
 cases ry
 refine is_none_gen (fW I q ?_)
 cases x<;>first
  |(cases rx;rfl)
  |(obtain ⟨t,rfl⟩:=rx;rfl)
theorem MY:pp X (bC .IsNot) (fun x y H Q=>y=.non/\Q (.bl (!decide (x=.non))) H):=by
 intro pins s σ H x y v u Q I rx ry h
 obtain ⟨rfl,q⟩:=h
 cases ry
 refine isnot_none_gen (fW I q ?_)
 cases x<;>first
  |(cases rx;rfl)
  |(obtain ⟨t,rfl⟩:=rx;rfl)
theorem Eb (b:bc) {op:IE} (h:op≠.In:=by decide) (h2:op≠.NotIn:=by decide):fR op b=false:=by
 have e1:(op==CmpOp.In)=false:=by cases op<;>first|rfl|exact absurd rfl h
 have e2:(op==CmpOp.NotIn)=false:=by cases op<;>first|rfl|exact absurd rfl h2
 cases b<;>simp [fR,e1,e2]
theorem MZ {op:IE}{r:R2} (ho:pp X (bC op) r) (ha:PE X a ta) (hb:PE X b tb) (hm:fR op b=false):PE X (.Compare a [op] [b] pos) (RG r ta tb):=by
 intro pins s σ H Q I h
 exact wpAny_Compare1 (Qb ha hb I h fun v u s2 x y H2 I2 rx ry q=>ho pins s2 σ H2 x y v u Q I2 rx ry q) hm
def OQ (t:TE):TT:=fun σ H Q=>t σ H fun x H'=>∃ k,x=.bl k/\Q k H'
theorem G0 {op:IE}{r:R2} (ho:pp X (bC op) r) (ha:PE X a ta) (hb:PE X b tb) (hm:fR op b=false):PT X (.Compare a [op] [b] pos) (OQ (RG r ta tb)):=by
 intro pins s σ H Q I h
 refine Mh (eR (ha pins s σ H _ I h) fun v s1 ⟨x,H1,I1,r1,q1⟩=>eR (hb pins s1 σ H1 _ I1 q1) fun u s2 ⟨y,H2,I2,r2,q2⟩ =>
  eR (ho pins s2 σ H2 x y v u _ I2 r1 r2 q2) fun c s3 ⟨z,H3,I3,r3,k,e,q3⟩=>?_) hm
 subst e
 cases r3
 exact du ⟨H3,I3,q3⟩
def Ec (r r':R2) (ta tb tc:TE):TE:=fun σ H Q=>ta σ H fun x H1=>tb σ H1 fun y H2=>r x y H2 fun z H3=>∃ k,z=.bl k /\
 (if k=true then tc σ H3 fun w' H4=>r' y w' H4 Q else Q (.bl false) H3)
theorem Jj {op op':IE}{r r':R2} (ho:pp X (bC op) r) (ho':pp X (bC op') r') (ha:PE X a ta) (hb:PE X b tb) (hc:PE X c tc)
  (hm:IF [op,op'] [b,c]=false:=by with_unfolding_all rfl):PE X (.Compare a [op,op'] [b,c] pos) (Ec r r' ta tb tc):=by
 intro pins s σ H Q I h
 refine Compare_chain (eR (ha pins s σ H _ I h) fun v s1 ⟨x,H1,I1,r1,q1⟩=>chain_link (eR (hb pins s1 σ H1 _ I1 q1) fun u s2 ⟨y,H2,I2,r2,q2⟩ =>
  eR (ho pins s2 σ H2 x y v u _ I2 r1 r2 q2) fun d s3 ⟨z,H3,I3,r3,k,e,q3⟩=>?_)) hm
 subst e
 cases r3
 refine du ?_
 cases k with
 |false=>exact ite_ff ⟨.bl false,H3,I3,rfl,q3⟩
 |true=>exact ite_tt (chain_last (eR (hc pins s3 σ H3 _ I3 q3) fun w' s4 h_22=>by obtain ⟨z',H4,I4,r4,q4⟩:=h_22;exact ho' pins s4 σ H4 y z' u w' Q I4 r2 r4 q4))
theorem Jk {op op':IE}{r r':R2} (ho:pp X (bC op) r) (ho':pp X (bC op') r') (ha:PE X a ta) (hb:PE X b tb) (hc:PE X c tc)
  (hm:IF [op,op'] [b,c]=false:=by with_unfolding_all rfl):PT X (.Compare a [op,op'] [b,c] pos) (OQ (Ec r r' ta tb tc)):=by
 intro pins s σ H Q I h
 refine isTrue_chain (eR (ha pins s σ H _ I h) fun v s1 ⟨x,H1,I1,r1,q1⟩=>test_link (eR (hb pins s1 σ H1 _ I1 q1) fun u s2 ⟨y,H2,I2,r2,q2⟩ =>
  eR (ho pins s2 σ H2 x y v u _ I2 r1 r2 q2) fun d s3 ⟨z,H3,I3,r3,k,e,q3⟩=>?_)) hm
 subst e
 cases r3
 refine du ?_
 cases k with
 |false =>
  obtain ⟨k',e',q'⟩:=q3
  cases e'
  exact ite_ff ⟨H3,I3,q'⟩
 |true =>
  refine ite_tt (test_last (eR (hc pins s3 σ H3 _ I3 q3) fun w' s4 ⟨z',H4,I4,r4,q4⟩=>eR (ho' pins s4 σ H4 y z' u w' _ I4 r2 r4 q4) fun d' s5 ⟨z2,H5,I5,r5,k2,e2,q5⟩=>?_))
  subst e2
  cases r5
  exact du ⟨H5,I5,q5⟩
def RM (K:a7) (x:V) (H:Hp) (k:Bool):Prop :=
 match x with
 |.non=>k=false
 |.bl b=>k=b
 |.int i=>k=(i != 0)
 |.str y=>y.length<=sizeLine/\k=((y.length:Int) != 0)
 |.byt y=>y.size<=sizeLine/\k=((y.size:Int) != 0)
 |.ref p=>(∃ xs,nY K H p xs/\k=!xs.isEmpty)\/(∃ xs,j_ K H p xs/\k=!xs.isEmpty)\/∃ kvs,H p=some (.dK kvs)/\k=!kvs.isEmpty
 |_=>False
theorem Ed {κ:Type}{kvs:List (κ×V)}{vs:List (κ×a9)} (r:KV kvs vs):(!vs.isEmpty)=!kvs.isEmpty:=by
 cases r<;>rfl
theorem xa {xs:List V}{its:List a9} (r:cn xs its):(!its.toArray.isEmpty)=!xs.isEmpty:=by
 cases r<;>simp
theorem uE:(sizeLine:Nat)<2 ^ 63:=by rw [BH];decide
theorem Qj:Um X (fun x H Q=>∃ k,RM X.K x H k/\Q k H):=by
 intro pins s σ H x v Q I rx h
 obtain ⟨k,e,q⟩:=h
 have hl:=uE
 have hs:sizeLine=16777216:=BH
 cases x with
 |non =>
  cases rx
  have e':k=false:=e
  subst e'
  exact truthy_none ⟨H,I,q⟩
 |bl b =>
  cases rx
  have e':k=b:=e
  subst e'
  exact du ⟨H,I,q⟩
 |int i =>
  obtain ⟨t,rfl⟩:=rx
  have e':k=(i != 0):=e
  subst e'
  exact PySem.P.truthy_int ⟨H,I,q⟩
 |str y =>
  obtain ⟨t,rfl⟩:=rx
  obtain ⟨hy,e'⟩:y.length<=sizeLine/\k=((y.length:Int) != 0):=e
  subst e'
  exact PySem.P.truthy_str (by omega) ⟨H,I.tok _,q⟩
 |byt y =>
  obtain ⟨t,rfl⟩:=rx
  obtain ⟨hy,e'⟩:y.size<=sizeLine/\k=((y.size:Int) != 0):=e
  subst e'
  exact PySem.W.truthy_bytes (by omega) ⟨H,I.tok _,q⟩
 |ref p =>
  cases rx
  have e':(∃ xs,nY X.K H p xs/\k=!xs.isEmpty)\/(∃ xs,j_ X.K H p xs/\k=!xs.isEmpty)\/∃ kvs,H p=some (.dK kvs)/\k=!kvs.isEmpty:=e
  rcases e' with ⟨xs,hx,e'⟩|⟨xs,hx,e'⟩|⟨kvs,hx,e'⟩
  ·subst e'
   obtain ⟨its,r,pl,hz⟩:=I.list hx
   have hlen:=r.length
   exact wpAny_truthy_list pl.isList (by simp only [aC];omega) ⟨H,I.tok _,by rw [xa r];exact q⟩
  ·subst e'
   obtain ⟨its,r,pl,hz⟩:=I.tuple hx
   have hlen:=r.length
   exact truthy_tuple pl (by simp only [aC];omega) ⟨H,I.tok _,by rw [xa r];exact q⟩
  ·subst e'
   obtain ⟨hz,hS,vs,r,m⟩:kvs.length<=sizeLine/\(p==gT)=false/\∃ vs,KV kvs vs/\s.heap.DictOf (fV X.prog X.w) p vs:=I.hok p _ hx
   have hlen:kvs.length=vs.length:=n5 r
   exact wpAny_truthy_dict hS m (by omega) ⟨H,I.tok _,by rw [Ed r];exact q⟩
 |_=>exact (show False from e).elim
theorem Jl (ha:PE X a ta) (he:∀ whole,wP a X.env whole=(do let v <- whole;ko a.pos;pz [v] (truthy v))) :
  PT X a (fun σ H Q=>ta σ H fun x H'=>∃ k,RM X.K x H' k/\Q k H'):=by
 intro pins s σ H Q I h
 exact isTrue_plain (eR (ha pins s σ H _ I h) fun v s1 h_23=>by obtain ⟨x,H1,I1,r1,q1⟩:=h_23;exact Qj pins s1 σ H1 x v Q I1 r1 q1) (he _)
theorem Ee:pp X (fN .Add) (fun x y H Q=>∃ i j,x=.str i/\y=.str j/\i.length+j.length<=sizeLine/\Q (.str (i++j)) H):=by
 intro pins s σ H x y v u Q I rx ry h
 obtain ⟨i,j,rfl,rfl,hz,q⟩:=h
 obtain ⟨t,rfl⟩:=rx
 obtain ⟨t',rfl⟩:=ry
 exact add_str (fun t' tk=>⟨.str (i++j),H,I.tok _,⟨_,rfl⟩,q⟩) hz
theorem lm {x:V}{us:List a9} (r:cn [x] us):∃ u,us=[u]/\cU x u:=by
 cases r with
 |cons r1 r2=>cases r2;exact ⟨_,rfl,r1⟩
theorem Jm {x y:V}{us:List a9} (r:cn [x,y] us):∃ u w',us=[u,w']/\cU x u/\cU y w':=by
 cases r with
 |cons r1 r2 =>
  cases r2 with
  |cons r3 r4=>cases r4;exact ⟨_,_,rfl,r1,r3⟩
end
end L2
namespace L2
open PySem PySem.Spec PyProof.Rows
structure Ef (h:br) (x dx C:ac) (mA:Str->Option a9):Prop where
 obj:h.get? x=some (fg C dx)
 ns:h.Ns1 dx mA
 ne:dx≠x
theorem Hq {h:br}{dx:ac}{mA:Str->Option a9} (n:h.Ns1 dx mA):∃ od,h.get? dx=some od/\∀ name,pJ name od=some (mA name):=by
 obtain ⟨o,es,ep,ho,hd,hk,_,hm⟩:=n
 refine ⟨o,ho,fun name=>?_⟩
 have e:=hm name
 unfold nsFind findBy at e
 rw [<- GY] at e
 unfold pJ
 rw [hd]
 dsimp only
 split
 ·rename_i y q
  rw [q] at e
  exact congrArg some e
 ·rename_i q
  rw [q] at e
  have a:es.toList.any (·.refKey)=false:=by
   rw [List.any_eq_false]
   intro y hy
   obtain ⟨z,t,hkey⟩:=hk y (Array.mem_toList_iff.mp hy)
   simp [DictEntry.refKey,hkey]
  have a':¬ es.toList.any (·.refKey)=true:=by rw [a];exact aM
  rw [if_neg a']
  exact congrArg some e
theorem Ef.look {h:br}{x dx C:ac}{mA:Str->Option a9} (I:Ef h x dx C mA):∃ od,PySem.W.InstAt h x (fg C dx) C (some od)/\∀ name,pJ name od=some (mA name) :=
 let ⟨od,ho,hl⟩:=Hq I.ns
 ⟨od,⟨I.obj,rfl,rfl,ho⟩,hl⟩
section
variable {prog:aR}{w:bh}{A:bf}{E:a9->ag->Prop}{s:ag}{K:a7}{x dx C f:ac}{mA:Str->Option a9}{name:Str}{v:a9}
theorem M_ {expr:Bool}{Q:a9->ag->Prop} (X:K.In s.heap) (I:Ef s.heap x dx C mA) (hg:ng K C name=true) (hh:sQ K C=true)
  (ha:bz K (.ref C) name=some none) (hv:mA name=some v) (hv':GZ v=true) (h:Q v { s with toks:=s.toks+1 }) :
  aq (aD prog w) A (getAttr (.ref x) name expr) Q E s:=by
 obtain ⟨od,J,hl⟩:=I.look
 exact PySem.W.get_value X J (qQ hg).1 (PySem.W.findObj_own hh ha rfl (by rw [hl,hv])) hv' h
theorem Jn {pl:Sem Bool}{Q:a9×List a9->ag->Prop} (X:K.In s.heap) (I:Ef s.heap x dx C mA) (hg:ng K C name=true)
  (hf:bz K (.ref C) name=some (some (.ref f))) (ht:sR K (.ref f)=true) (hv:mA name=none) (h:Q (.ref f,[.ref x]) s) :
  aq (aD prog w) A (qR (.ref x) name pl) Q E s:=by
 obtain ⟨od,J,hl⟩:=I.look
 exact PySem.W.method_fn X J (qQ hg).1 (qQ hg).2 hf (beq_iff_eq.mp ht) (by show (pJ name od).map (·.isSome)=some false;rw [hl,hv];rfl) h
theorem N0 {ns:List Str}{Q:Unit->ag->Prop} (X:K.In s.heap) (I:Ef s.heap x dx C mA)
  (hs:bz K (.ref C) "__setattr__"=some (some (.builtin "object.__setattr__"))) (hp:FU K C=true) (ht:vV K C name=some none) (hh:sQ K C=true)
  (hw:BQ mA ns) (hsz:ns.length<=sizeLine)
  (h:∀ h',Ef h' x dx C (fun y=>if y=name then some v else mA y)->bW dx s.heap h'->Q () { s with heap:=h',toks:=s.toks+2 }) :
  aq (aD prog w) A (setAttr (.ref x) name v) Q E s:=by
 obtain ⟨od,J,hl⟩:=I.look
 refine PySem.W.set_plain X J hs (PySem.W.osa_open (s:={ s with toks:=s.toks+1 }) (r:=none) X J hp ht fun b=>?_)
 obtain ⟨cd,hc,hd'⟩:=PySem.W.any_some hh
 have hx:s.heap.get? x=some ⟨.ref C,some dx,.plain,#[]⟩:=I.obj
 refine a6 (aa (a6 (a6 (wpAny_loadPart hx (a6 (PySem.W.Looks.here (s:={ s with toks:=s.toks+1 }) (PySem.W.looks_clsIn X hc) ?_))))))
 rw [hd']
 refine aa (a:=some dx) (a6 (aa (a6 ?_)))
 refine wpAny_nsSet1 (s:={ s with toks:=s.toks+1 }) I.ns fun h' hn2 hs2=>?_
 obtain ⟨oD,esD,epD,hoD,hdD,hcD⟩:=hn2.count (PySem.Within.cons name v hw)
 refine a6 (wpAny_lookBehind hoD (by rw [hdD];exact pastItsLine_dict (bT hcD (by rw [bt];omega))) ?_)
 exact aa (h _ ⟨(hs2.2 _ (eV I.ne)).trans I.obj,hn2,I.ne⟩ hs2)
theorem Jo {R:Result->ag->Prop}{vs:List a9}{kw:List (Str×a9)} (X:K.In s.heap) (hm:kq K C=true)
  (hi:bz K (.ref C) "__init__"=some (some (.ref f))) (hf:pK K (.ref f)=some (.type "function"))
  (h:fO (aD prog w) (A.under (.builtin "type.__call__" ⟨.ref C::vs,kw⟩)) (.call (.ref f) ⟨.ref (s.heap.objs.size+1)::vs,kw⟩) (PySem.W.InitBack (s.heap.objs.size+1) R)
   { s with heap:=(s.heap.push dD).push (fg C s.heap.objs.size) }) :
  fO (aD prog w) A (.call (.ref C) ⟨vs,kw⟩) R s:=by
 obtain ⟨hh,g,d,t,os⟩:=s
 exact PySem.W.make_core (PySem.W.makes_of X hm) (kg X hi) (fun self=>PySem.W.bind_fn X self hf) (.inl rfl) h
end
def lZ (f:Str) (v:V):List (Str×V)->List (Str×V)
 |[]=>[(f,v)]
 |(g,x)::r=>if g=f then (g,v)::r else (g,x)::lZ f v r
theorem vC (f g:Str) (v:V):∀ fs:List (Str×V),(lZ f v fs).lookup g=if g=f then some v else fs.lookup g
 |[]=>by
  show fB g [(f,v)]=_
  by_cases h:g=f
  ·have hb:(g==f)=true:=beq_iff_eq.mpr h
   simp only [fB,hb,if_pos h]
  ·have hb:(g==f)=false:=beq_eq_false_iff_ne.mpr h
   simp only [fB,hb,if_neg h]
 |(k,x)::r=>by
  have ih:=vC f g v r
  rw [show lZ f v ((k,x)::r)=(if k=f then (k,v)::r else (k,x)::lZ f v r) from rfl]
  by_cases hk:k=f
  ·rw [if_pos hk]
   by_cases h:g=k
   ·have hb:(g==k)=true:=beq_iff_eq.mpr h
    simp only [fB,hb,if_pos (h.trans hk)]
   ·have hb:(g==k)=false:=beq_eq_false_iff_ne.mpr h
    simp only [fB,hb,if_neg (fun e:g=f=>h (e.trans hk.symm))]
  ·rw [if_neg hk]
   by_cases h:g=k
   ·have hb:(g==k)=true:=beq_iff_eq.mpr h
    simp only [fB,hb,if_neg (fun e:g=f=>hk (h.symm.trans e))]
   ·have hb:(g==k)=false:=beq_eq_false_iff_ne.mpr h
    simp only [fB,hb]
    exact ih
theorem uF (f:Str) (v:V):∀ fs:List (Str×V),f∈(lZ f v fs).map (·.1)/\∀ g,g∈fs.map (·.1)->g∈(lZ f v fs).map (·.1)
 |[]=>⟨by simp [lZ],fun g h=>by simp at h⟩
 |(k,x)::r=>by
  obtain ⟨i1,i2⟩:=uF f v r
  rw [show lZ f v ((k,x)::r)=(if k=f then (k,v)::r else (k,x)::lZ f v r) from rfl]
  by_cases hk:k=f
  ·rw [if_pos hk]
   subst hk
   exact ⟨by simp,fun g h=>by simpa using h⟩
  ·rw [if_neg hk]
   refine ⟨?_,fun g h=>?_⟩
   ·rw [aT]
    exact ar _ i1
   ·rw [aT] at h ⊢
    rcases List.mem_cons.mp h with e|e
    ·exact List.mem_cons.mpr (.inl e)
    ·exact ar _ (i2 g e)
theorem vD (f:Str) (v:V):∀ fs:List (Str×V),(lZ f v fs).length<=fs.length+1
 |[]=>by simp [lZ]
 |(k,x)::r=>by
  have ih:=vD f v r
  rw [show lZ f v ((k,x)::r)=(if k=f then (k,v)::r else (k,x)::lZ f v r) from rfl]
  by_cases hk:k=f
  ·rw [if_pos hk,bt,bt];omega
  ·rw [if_neg hk,bt,bt];omega
theorem qU.some_of {v:V}{o:Option a9} (r:qU (some v) o):∃ u,o=some u/\cU v u:=by
 cases o with
 |none=>exact (show False from r).elim
 |some u=>exact ⟨u,rfl,r⟩
theorem qU.none_of {o:Option a9} (r:qU none o):o=none:=by
 cases o with
 |none=>rfl
 |some u=>exact (show False from r).elim
theorem Hr {v:V}{u:a9} (r:cU v u):GZ u=true:=by
 cases v with
 |non=>cases (show u=cX from r);rfl
 |bl b=>cases (show u=g6 b from r);rfl
 |int i=>obtain ⟨t,e⟩:=(show ∃ t,u=lS i t from r);cases e;rfl
 |str x=>obtain ⟨t,e⟩:=(show ∃ t,u=jb x t from r);cases e;rfl
 |byt b=>obtain ⟨t,e⟩:=(show ∃ t,u=Value.bytes b t from r);cases e;rfl
 |flt b=>obtain ⟨t,e⟩:=(show ∃ t,u=DJ b t from r);cases e;rfl
 |ref a=>cases (show u=bq a from r);rfl
 |ty n=>cases (show u=g9 n from r);rfl
section
variable {P:aR}{w:bh}{H H':Hp}{h h':br}{a C dx:ac}{fs fs':List (Str×V)}
theorem wE (hok:pG P w H h) (e:H a=some (.ins C dx fs)):∃ mA,Ef h a dx C mA/\(∀ f,qU (fs.lookup f) (mA f))/\BQ mA (fs.map (·.1))/\fs.length<=1000/\H dx=some (.own a):=by
 obtain ⟨d,z,ne,ob,mA,n,r,q⟩:=(show dv P w H h a (.ins C dx fs) from hok a _ e)
 exact ⟨mA,⟨ob,n,ne⟩,r,q,z,d⟩
end
structure Cls (K:a7) (C:ac):Prop where
 pg:ng K C Str.empty=true
 hd:sQ K C=true
 po:FU K C=true
 sa:bz K (.ref C) "__setattr__"=some (some (.builtin "object.__setattr__"))
theorem Cls.get {K:a7}{C:ac} (c:Cls K C) (f:Str):ng K C f=true:=c.pg
def rz (K:a7) (C:ac) (f:Str):Prop:=bz K (.ref C) f=some none
theorem rz.taker {K:a7}{C:ac}{f:Str} (n:rz K C f):vV K C f=some none:=by
 unfold vV
 rw [show bz K (.ref C) f=some none from n]
 rfl
structure Ht (K:a7) (C:ac) (m:Str) (f:ac):Prop where
 at_:bz K (.ref C) m=some (some (.ref f))
 fn:sR K (.ref f)=true
 kp:bQ K (.ref f)=true
section
variable {X:Cx}{pins:List (ac×Obj)}{σ:St}{H:Hp}{s:ag}{a C dx:ac}{fs:List (Str×V)}{f:Str}{v:V}{A:bf}{E:a9->ag->Prop}
theorem Eg {b:Bool}{Q:a9->ag->Prop} (I:bv X pins σ H s) (e:H a=some (.ins C dx fs)) (c:Cls X.K C) (n:rz X.K C f) (l:fs.lookup f=some v)
  (h:∀ u s',bv X pins σ H s'->cU v u->Q u s'):aq (aD X.prog X.w) A (getAttr (.ref a) f b) Q E s:=by
 obtain ⟨mA,O,r,_,_,_⟩:=wE I.hok e
 obtain ⟨u,hu,ru⟩:=qU.some_of (v:=v) (o:=mA f) (by rw [<- l];exact r f)
 exact M_ I.kIn O (c.get f) c.hd n hu (Hr ru) (h u _ (I.tok _) ru)
theorem rA {m:Str}{g:ac}{pl:Sem Bool}{Q:a9×List a9->ag->Prop} (I:bv X pins σ H s) (e:H a=some (.ins C dx fs)) (c:Cls X.K C) (k:Ht X.K C m g) (l:fs.lookup m=none)
  (h:Q (.ref g,[.ref a]) s):aq (aD X.prog X.w) A (qR (.ref a) m pl) Q E s:=by
 obtain ⟨mA,O,r,_,_,_⟩:=wE I.hok e
 have hn:mA m=none:=qU.none_of (by rw [<- l];exact r m)
 exact Jn I.kIn O (c.get m) k.at_ k.fn hn h
theorem Eh {y:V}{u:a9}{Q:Unit->ag->Prop} (I:bv X pins σ H s) (e:H a=some (.ins C dx fs)) (c:Cls X.K C) (n:rz X.K C f) (hl:fs.length<1000) (ry:cU y u)
  (h:∀ s',bv X pins σ (upd H a (.ins C dx (lZ f y fs))) s'->Q () s'):aq (aD X.prog X.w) A (setAttr (.ref a) f u) Q E s:=by
 obtain ⟨mA,O,r,wi,_,ho⟩:=wE I.hok e
 have hz:(fs.map (·.1)).length<=sizeLine:=by rw [aO,BH];omega
 refine N0 I.kIn O c.sa c.po n.taker c.hd wi hz fun h' O' sb=>h _ ?_
 have hd:∃ o,h'.get? dx=some o:=let ⟨o,_,_,e',_⟩:=O'.ns;⟨o,e'⟩
 refine I.write (x:=a) (e:=dx) (by rw [e];exact gq) (.inr ho) (fun b q hb z=>(sb.2 b hb).trans z) hd ?_
 refine ⟨by rw [av O.ne];exact ho,?_,O.ne,O'.obj,_,O'.ns,fun g=>?_,fun g hg=>?_⟩
 ·have:=vD f y fs;omega
 ·show qU ((lZ f y fs).lookup g) (if g=f then some u else mA g)
  rw [vC]
  by_cases q:g=f
  ·rw [if_pos q,if_pos q];exact ry
  ·rw [if_neg q,if_neg q];exact r g
 ·by_cases q:g=f
  ·rw [q];exact (uF f y fs).1
  ·refine (uF f y fs).2 g (wi g fun z=>hg ?_)
   show (if g=f then some u else mA g)=none
   rw [if_neg q];exact z
theorem bv.made (I:bv X pins σ H s):bv X pins σ (upd (upd H s.heap.objs.size (.own (s.heap.objs.size+1))) (s.heap.objs.size+1) (.ins C s.heap.objs.size []))
  { s with heap:=(s.heap.push dD).push (fg C s.heap.objs.size) }:=by
 have e1:(s.heap.push dD).get? s.heap.objs.size=some dD:=aA s.heap rfl
 have e2:((s.heap.push dD).push (fg C s.heap.objs.size)).get? (s.heap.objs.size+1)=some (fg C s.heap.objs.size):=by
  have:=aA (s.heap.push dD) (o:=fg C s.heap.objs.size) rfl
  rwa [bS] at this
 have e3:(s.heap.push dD).Ns s.heap.objs.size (fun _=>none):=⟨dD,#[],_,e1,rfl,(fun e he=>absurd he (by simp)),fun _=>rfl⟩
 have I1:=I.laid (a:=s.heap.objs.size) (o:=.own (s.heap.objs.size+1)) (h':=s.heap.push dD) (t':=s.toks) (fun b u q=>ae _ q) (az _) ⟨_,e1⟩
 refine I1.laid (a:=s.heap.objs.size+1) (o:=.ins C s.heap.objs.size []) (t':=s.toks) (fun b u q=>ae _ q) (Nat.le_of_eq (bS _ _)) ?_
 have ne:s.heap.objs.size≠s.heap.objs.size+1:=aP (eZ _)
 refine ⟨by rw [av ne,aB],dg _,ne,e2,fun _=>none,(Heap.Ns1.of_empty e3).at fun o q=>ae _ q,fun _=>gq,fun y hy=>absurd rfl hy⟩
theorem N1 {prog:aR}{w:bh}{env:Env}{e:bc}{f:Str}{pos:Pos}{s:ag}{Q:a9->ag->Prop} (hb:iq e f env (bY e env)=bY e env)
  (h:aq (aD prog w) A (bY e env) (fun o s₁=>aq (aD prog w) A (getAttr o f true) Q E s₁) E s):aq (aD prog w) A (bY (.Attribute e f pos) env) Q E s :=
 Attribute_any_ h (by rw [arm_eval_Attribute,hb])
end
def Us (K:a7) (ta:TE) (f:Str):TE:=fun σ H Q=>ta σ H fun x H1=>∃ a C dx fs v,x=.ref a/\H1 a=some (.ins C dx fs)/\Cls K C/\rz K C f/\fs.lookup f=some v/\Q v H1
def Jp (K:a7) (ta tv:TE) (f:Str):TS:=fun D σ H=>tv σ H fun y H1=>ta σ H1 fun x H2=>∃ a C dx fs,x=.ref a/\H2 a=some (.ins C dx fs)/\Cls K C/\rz K C f/\fs.length<1000 /\
 D.nx σ (upd H2 a (.ins C dx (lZ f y fs)))
section
variable {X:Cx}{o e value:bc}{f:Str}{pos pos' tpos:Pos}{ta tv:TE}
theorem Qk (he:PE X e ta) (hb:iq e f X.env (bY e X.env)=bY e X.env):PE X (.Attribute e f pos) (Us X.K ta f):=by
 intro pins s σ H Q I h
 refine N1 hb (eR (he pins s σ H _ I h) fun u s1 ⟨x,H1,I1,rx,a,C,dx,fs,v,ex,ea,c,n,l,q⟩=>?_)
 subst ex
 obtain rfl:u=bq a:=rx
 exact Eg I1 ea c n l fun u' s2 I2 ru=>⟨v,H1,I2,ru,q⟩
theorem AB (ha:PE X o ta) (hv:PE X value tv) (hs:fm value (some (.Attribute o f pos')) pos.line X.env=pure false):PS X (.Assign [.Attribute o f pos'] value pos) (Jp X.K ta tv f):=by
 intro pins s σ H D I h
 refine plainObj_wpAny_Assign_Attribute (eR (hv pins s σ H _ I h) fun u s1 ⟨y,H1,I1,ry,q⟩=>eR (ha pins s1 σ H1 _ I1 q) fun ov s2 ⟨x,H2,I2,rx,a,C,dx,fs,ex,ea,c,n,l,q2⟩=>?_) hs
 subst ex
 obtain rfl:ov=bq a:=rx
 exact Eh I2 ea c n l ry fun s3 I3=>⟨σ,_,I3,q2⟩
theorem OR {pl:Sem Bool}{m:Str}{apos:Pos}{args:List bc}{pins:List (ac×Obj)}{s:ag}{σ:St}{H:Hp}{Q:a9->ag->Prop}{te:TE} (he:PE X e te) (I:bv X pins σ H s)
  (h:te σ H fun x H1=>∃ a C dx fs g,x=.ref a/\H1 a=some (.ins C dx fs)/\Cls X.K C/\Ht X.K C m g/\fs.lookup m=none /\
   ∀ s1,bv X pins σ H1 s1->aq (aD X.prog X.w) X.A (yz pos (.ref g) [.ref a] (da pos (am args X.env)) (kr pos (fP [] X.env))) Q X.xe s1)
  (ht:bY (.Call (.Attribute e m apos) args [] pos) X.env=(do
   let ov <- bY e X.env
   ko apos.atName
   let (f,first) <- pz [ov] (qR ov m pl)
   yz pos f first (da pos (am args X.env)) (kr pos (fP [] X.env)))) :
  aq (aD X.prog X.w) X.A (bY (.Call (.Attribute e m apos) args [] pos) X.env) Q X.xe s:=by
 refine pj (pl:=pl) (eR (he pins s σ H _ I h) fun u s1 ⟨x,H1,I1,rx,a,C,dx,fs,g,ex,ea,c,k,l,q⟩=>?_) ht
 subst ex
 obtain rfl:u=bq a:=rx
 exact rA I1 ea c k l (q s1 I1)
end
section
variable {X:Cx}{pins:List (ac×Obj)}{σ:St}{H:Hp}{s:ag}{A:bf}{E:a9->ag->Prop}{Q:a9->ag->Prop}{c:a9}{b:Bool}
inductive uG (K:a7) (H:Hp):V->a9->Prop where
 |non:uG K H .non (.type "NoneType")
 |bl (x:Bool):uG K H (.bl x) (.type "bool")
 |int (i:Int):uG K H (.int i) (.type "int")
 |str (x:Str):uG K H (.str x) (.type "str")
 |flt (x:UInt64):uG K H (.flt x) (.type "float")
 |lst {a:ac}{xs:List V} (e:H a=some (.lst xs)):uG K H (.ref a) (.type "list")
 |frz {a:ac}{o:Obj}{xs:List V} (e:H a=some (.frz o (.lst xs))):uG K H (.ref a) (.type "list")
 |tup {a:ac}{xs:List V} (e:H a=some (.tup xs)):uG K H (.ref a) (.type "tuple")
 |dK {a:ac}{kvs:List (fU×V)} (e:H a=some (.dK kvs)):uG K H (.ref a) (.type "dict")
 |dT {a:ac}{kvs:List (List fU×V)} (e:H a=some (.dT kvs)):uG K H (.ref a) (.type "dict")
 |ins {a C dx:ac}{fs:List (Str×V)} (e:H a=some (.ins C dx fs)) (cl:Cls K C) (ha:bz K (.ref C) "__class__"=some (some (.builtin "object.__class__")))
   (hn:sS K (.builtin "object.__class__") "__get__"=some (some (.builtin "getset_descriptor.__get__"))) (htk:vW K (.builtin "object.__class__")=some true)
   (hm:bZ K C (.type "object")=some true):uG K H (.ref a) (.ref C)
theorem nr {x:V}{u t:a9} (I:bv X pins σ H s) (rx:cU x u) (ty:uG X.K H x t) (e:de X.K t c=some b) (h:∀ tk,Q (.bool b) { s with toks:=tk }) :
  aq (aD X.prog X.w) A (call (.builtin "isinstance") [u,c]) Q E s:=by
 cases ty with
 |non=>cases (show u=cX from rx);exact cb PySem.W.kitx_none I.kIn gq e (fun z=>nomatch z) h
 |bl y=>cases (show u=g6 y from rx);exact cb PySem.W.kitx_bool I.kIn gq e (fun z=>nomatch z) h
 |int i=>obtain ⟨t,q⟩:=(show ∃ t,u=lS i t from rx);cases q;exact cb PySem.W.kitx_int I.kIn gq e (fun z=>nomatch z) h
 |str y=>obtain ⟨t,q⟩:=(show ∃ t,u=jb y t from rx);cases q;exact cb PySem.W.kitx_str I.kIn gq e (fun z=>nomatch z) h
 |flt y=>obtain ⟨t,q⟩:=(show ∃ t,u=DJ y t from rx);cases q;exact cb PySem.W.kitx_float I.kIn gq e (fun z=>nomatch z) h
 | @lst a xs ea =>
  cases (show u=bq a from rx)
  obtain ⟨_,_,n,_,h1⟩:=(show dv X.prog X.w H s.heap a (.lst xs) from I.hok a _ ea)
  exact cb sU I.kIn ⟨_,h1,rfl⟩ e (fun z=>nomatch z) h
 | @frz a ob xs ea =>
  cases (show u=bq a from rx)
  obtain ⟨_,_,_,n,_,h1⟩:=(show dv X.prog X.w H s.heap a (.frz ob (.lst xs)) from I.hok a _ ea)
  exact cb sU I.kIn ⟨_,h1,rfl⟩ e (fun z=>nomatch z) h
 | @tup a xs ea =>
  cases (show u=bq a from rx)
  obtain ⟨_,_,_,p⟩:=(show dv X.prog X.w H s.heap a (.tup xs) from I.hok a _ ea)
  obtain ⟨o,h1,h2,_⟩:=p
  exact cb DN I.kIn ⟨o,h1,h2⟩ e (fun z=>nomatch z) h
 | @dK a kvs ea =>
  cases (show u=bq a from rx)
  obtain ⟨_,_,vs,_,p⟩:=(show dv X.prog X.w H s.heap a (.dK kvs) from I.hok a _ ea)
  obtain ⟨o,es,ep,h1,h2,_⟩:=p
  exact cb FV I.kIn ⟨o,h1,h2.1⟩ e (fun z=>nomatch z) h
 | @dT a kvs ea =>
  cases (show u=bq a from rx)
  obtain ⟨_,_,xs,_,o,es,ep,h1,h2,_⟩:=(show dv X.prog X.w H s.heap a (.dT kvs) from I.hok a _ ea)
  exact cb FV I.kIn ⟨o,h1,h2.1⟩ e (fun z=>nomatch z) h
 | @ins a C dx fs ea cl ha hn htk hm =>
  cases (show u=bq a from rx)
  obtain ⟨mA,O,_⟩:=wE I.hok ea
  obtain ⟨od,J,_⟩:=O.look
  exact cb (PySem.W.kitx_own (cl.get _) cl.hd ha hn htk hm) I.kIn J e (fun z=>nomatch z) h
end
end L2
namespace L2
open PySem PySem.Spec PyProof.Rows
structure fX (k:Nat) (A:bf):Prop where
 hd:A.handled=none
 dp:A.depth+3*k+5<DO
 un:A.units+16*k+200<qS
theorem fX.mono {j k:Nat}{A:bf} (r:fX k A) (h:j<=k):fX j A:=⟨r.hd,by have:=r.dp;omega,by have:=r.un;omega⟩
theorem fX.deeper {k:Nat}{A:bf} (r:fX (k+1) A) (env:Env):fX k (A.deeper env) :=
 ⟨r.hd,by have:=r.dp;show A.depth+1+3*k+5<_;omega,by have:=r.un;show A.units+3+16*k+200<_;omega⟩
theorem Ei {A:bf}{C:ac}{us:List a9}{kw:List (Str×a9)}:(A.under (.builtin "type.__call__" ⟨.ref C::us,kw⟩)).depth=A.depth+1:=by
 first|rfl|simp [BI,Code.weight,Code.isCreation,Code.isGuard,Code.isCaller,Code.frames,Dz,guardIds]
theorem Ej {A:bf}{C:ac}{us:List a9}{kw:List (Str×a9)}:(A.under (.builtin "type.__call__" ⟨.ref C::us,kw⟩)).units=A.units+1:=by
 first|rfl|simp [BI,Code.cUnits,Code.frames,Dz]
theorem fX.make {k:Nat}{A:bf} (r:fX (k+1) A) (C:ac) (us:List a9) (kw:List (Str×a9)):fX k (A.under (.builtin "type.__call__" ⟨.ref C::us,kw⟩)) :=
 ⟨r.hd,by have:=r.dp;rw [Ei];omega,by have:=r.un;rw [Ej];omega⟩
theorem fX.depth {k:Nat}{A:bf} (r:fX k A):A.depth<DO:=by have:=r.dp;omega
theorem fX.units {k:Nat}{A:bf} (r:fX k A):A.units+64<qS:=by have:=r.un;omega
def B_:TA:=fun _ H Q=>Q [] H
def C0 (ta:TE) (tr:TA):TA:=fun σ H Q=>ta σ H fun x H1=>tr σ H1 fun xs H2=>Q (x::xs) H2
section
variable {X:Cx}{e:bc}{es:List bc}{te:TE}{t:TA}{pos:Pos}
theorem dG:PA X [] B_:=fun _ _ _ _ H Q I h=>Calls.spliced_nil ⟨[],H,I,.nil,h⟩
theorem bO (ha:PE X e te) (hr:PA X es t) (hs:am (e::es) X.env=(false,bY e X.env)::am es X.env:=by rfl):PA X (e::es) (C0 te t):=by
 intro pos pins s σ H Q I h
 rw [hs]
 show aq _ _ (spliced ((false,bY e X.env)::da pos (am es X.env))) _ _ s
 refine Calls.spliced_cons (eR (ha pins s σ H _ I h) fun u s1 ⟨x,H1,I1,r1,q1⟩=>?_)
 exact eR (hr pos pins s1 σ H1 _ I1 q1) fun us s2 h_25=>by obtain ⟨xs,H2,I2,r2,q2⟩:=h_25;exact ⟨x::xs,H2,I2,.cons r1 r2,q2⟩
def Ut (t:TA):TE:=fun σ H Q=>t σ H fun xs H1=>xs.length<=sizeLine/\∀ p,H1 p=none->Q (.ref p) (upd H1 p (.tup xs))
def N5 (t:TA):TE:=fun σ H Q=>t σ H fun xs H1=>xs.length<=sizeLine/\∀ p,H1 p=none->Q (.ref p) (upd H1 p (.lst xs))
theorem Jq {x1} (h:PA X es t):PE X (.Tuple es x1 pos) (Ut t):=by
 intro pins s σ H Q I hq
 refine wpAny_Tuple_spliced (eR (h pos pins s σ H _ I hq) fun us s1 ⟨xs,H1,I1,r,z,q⟩=>⟨by rw [<- r.length];exact z,?_⟩)
 have hf:H1 s1.heap.objs.size=none:=I1.hok.fresh (az _)
 refine ⟨.ref s1.heap.objs.size,upd H1 s1.heap.objs.size (.tup xs),I1.laid (t':=s1.toks) (fun b u e=>ae _ e) (az _) ?_,rfl,q _ hf⟩
 exact ⟨z,us,r,⟨_,aA _ rfl,rfl,_,rfl⟩⟩
theorem jj (h:PA X es t):PE X (.List es pos) (N5 t):=by
 intro pins s σ H Q I hq
 refine wpAny_List_spliced (eR (h pos pins s σ H _ I hq) fun us s1 ⟨xs,H1,I1,r,z,q⟩=>⟨by rw [<- r.length];exact z,?_⟩)
 have hf:H1 s1.heap.objs.size=none:=I1.hok.fresh (az _)
 refine ⟨.ref s1.heap.objs.size,upd H1 s1.heap.objs.size (.lst xs),I1.laid (t':=s1.toks) (fun b u e=>ae _ e) (az _) ?_,rfl,q _ hf⟩
 exact ⟨z,us,0,r,aA _ rfl⟩
end
abbrev Sp:=List V->Hp->VK->XK->Prop
abbrev G1:=List Env->Hp->ag->XK->a9->ag->Prop
structure yI (P:aR) (w:bh) (K:a7) (mg:Str->Option a9) (base:br) (A:bf) (outer:List Env) (s:ag) (H:Hp):Prop where
 frames:A.frames=some outer
 mod:Mod K mg base
 bs:∀ b o,base.get? b=some o->s.heap.get? b=some o/\H b=none
 bsz:base.objs.size<=s.heap.objs.size
 funs:s.heap.FunFrames base outer
 frf:∀ b∈q_ outer,H b=none
 hok:pG P w H s.heap
 bare:pw s.gens
inductive CE (outer:List Env) (P:aR) (w:bh) (H:Hp) (s:ag) (Q:VK) (u:a9) (s':ag):Prop
 |mk (v H':_) (h0:s'.os=s.os) (h1:pw s'.gens) (h2:Un (q_ outer) [] H H' s.heap s'.heap) (h3:pG P w H' s'.heap) (h4:cU v u) (h5:Q v H'):CE outer P w H s Q u s'
def CR (CX:G1) (outer:List Env) (P:aR) (w:bh) (H:Hp) (s:ag) (Q:VK) (E:XK) (r:Result) (s':ag):Prop :=
 match r with
 |.ok (.ret u)=>CE outer P w H s Q u s'
 |.ok _=>False
 |.error e=>CX outer H s E e s'
structure l_ (P:aR) (w:bh) (K:a7) (mg:Str->Option a9) (base:br) (CX:G1) (k:Nat) (f:ac) (fd:cP) (ps:List Str) (sp:Sp):Prop where
 len:∀ vs H Q E,sp vs H Q E->vs.length=ps.length
 run:∀ (A:bf) (outer:List Env) (s:ag) (H:Hp) (args:Args) (us:List a9) (vs:List V) (Q:VK) (E:XK),fX k A->yI P w K mg base A outer s H->vq s fd args (ps.zip us)->cn vs us->sp vs H Q E ->
  fO (aD P w) A (.call (.ref f) args) (CR CX outer P w H s Q E) s
theorem l_.imp {P:aR}{w:bh}{K:a7}{mg:Str->Option a9}{base:br}{CX:G1}{k:Nat}{f:ac}{fd:cP}{ps:List Str}{sp sp':Sp} (F:l_ P w K mg base CX k f fd ps sp)
  (h:∀ vs H Q E,sp' vs H Q E->sp vs H Q E):l_ P w K mg base CX k f fd ps sp' :=
 ⟨fun vs H Q E q=>F.len vs H Q E (h _ _ _ _ q),fun A outer s H args us vs Q E hr he hb hv hs=>F.run A outer s H args us vs Q E hr he hb hv (h _ _ _ _ hs)⟩
theorem yI.make {P:aR}{w:bh}{K:a7}{mg:Str->Option a9}{base:br}{A:bf}{outer:List Env}{s:ag}{H:Hp} (e:yI P w K mg base A outer s H) (C:ac) (us:List a9) (kw:List (Str×a9)) :
  yI P w K mg base (A.under (.builtin "type.__call__" ⟨.ref C::us,kw⟩)) outer s H:=⟨by first|exact e.frames|(simpa [BI,Code.envs,Dz,pushEnvs] using e.frames),e.mod,e.bs,e.bsz,e.funs,e.frf,e.hok,e.bare⟩
section
variable {X:Cx}{pins:List (ac×Obj)}{σ:St}{H:Hp}{s s':ag}
theorem bv.env0 (I:bv X pins σ H s):yI X.prog X.w X.K X.mg X.base X.A X.stack s H :=
 ⟨I.ok.frames,I.ok.mod,I.bs,bT I.ok.bsz I.sz,I.stack,I.stkFree,I.hok,I.bare⟩
theorem bv.after {Q:VK}{u:a9} (I:bv X pins σ H s) (h:CE X.stack X.prog X.w H s Q u s'):EP X pins σ Q u s':=by
 obtain ⟨v,H',os,bare,un,hok,r,q⟩:=h
 obtain ⟨hh,g,d,t,os'⟩:=s'
 obtain rfl:os'=s.os:=os
 exact ⟨v,H',I.call (h':=hh) (g':=g) (d':=d) (t':=t) (ch:=[]) un hok bare (fun b z=>absurd z (by simp)),r,q⟩
end
def G3 (sp:Sp) (dvs:List V) (E:XK) (t:TA):TE:=fun σ H Q=>t σ H fun vs H1=>sp (vs++dvs) H1 Q E
def OS (C:ac) (m:Str) (sp:Sp) (dvs:List V) (E:XK) (ta:TE) (t:TA):TE:=fun σ H Q=>ta σ H fun x H1=>∃ a dx fs,x=.ref a/\H1 a=some (.ins C dx fs)/\fs.lookup m=none /\
 t σ H1 fun vs H2=>sp (x::(vs++dvs)) H2 Q E
def RN (C:ac) (sp:Sp) (dvs:List V) (E:XK) (t:TA):TE:=fun σ H Q=>t σ H fun vs H1=>∀ x dx,H1 x=none->H1 dx=none->dx≠x ->
 sp (.ref x::(vs++dvs)) (upd (upd H1 dx (.own x)) x (.ins C dx [])) (fun v H2=>v=.non/\Q (.ref x) H2) E
def fo (K:a7) (fd:cP) (ps:List Str) (ds:List a9):Prop :=
 ∀ (s:ag) (us:List a9),K.In s.heap->(us++ds).length=ps.length->vq s fd ⟨us,[]⟩ (ps.zip (us++ds))
theorem fo.all {K:a7}{fd:cP}{ps:List Str} (h:∀ us:List a9,us.length=ps.length->DP fd ⟨us,[]⟩=pure (ps.zip us)):fo K fd ps []:=fun s us _ hl=>by
 rw [cj] at hl ⊢
 exact .of_eq (h us hl)
def g_ (CX:G1) (X:Cx) (E:XK):Prop:=∀ (pins:List (ac×Obj)) (σ:St) (H:Hp) (s:ag) (e:a9) (s':ag),bv X pins σ H s->CX X.stack H s E e s'->X.xe e s'
section
variable {X:Cx}{CX:G1}{k:Nat}{f C:ac}{fd:cP}{ps:List Str}{sp:Sp}{dvs:List V}{ds:List a9}{E:XK}{x m:Str}{p pos apos:Pos}{e o:bc}{es:List bc}{ta:TE}{t:TA}
theorem Ek {pins:List (ac×Obj)}{σ:St}{H:Hp}{s:ag}{Q:VK}{us:List a9}{vs:List V} (F:l_ X.prog X.w X.K X.mg X.base CX k f fd ps sp) (hr:fX k X.A) (hb:fo X.K fd ps ds) (hd:cn dvs ds) (hx:g_ CX X E)
  (I:bv X pins σ H s) (r:cn vs us) (h:sp (vs++dvs) H Q E):aq (aD X.prog X.w) X.A (call (.ref f) us) (EP X pins σ Q) X.xe s:=by
 have r2:cn (vs++dvs) (us++ds):=r.append hd
 have hl:(us++ds).length=ps.length:=by rw [<- r2.length];exact F.len _ _ _ _ h
 refine rm (ku (F.run X.A X.stack s H ⟨us,[]⟩ (us++ds) (vs++dvs) Q E hr I.env0 (hb s us I.kIn hl) r2 h) fun r s' hq=>?_)
 cases r with
 |error e=>exact hx pins σ H s e s' I hq
 |ok fl =>
  cases fl with
  |ret u=>exact I.after hq
  |next=>exact cY hq
  |brk=>exact cY hq
  |cont=>exact cY hq
theorem N6 (F:l_ X.prog X.w X.K X.mg X.base CX k f fd ps sp) (hr:fX k X.A) (hg:Gl X x) (hm:X.mg x=some (.ref f)) (hk:bQ X.K (.ref f)=true) (hb:fo X.K fd ps ds) (hd:cn dvs ds) (hx:g_ CX X E)
  (ha:PA X (e::es) t) (hdb:(x==("__debug__" : Str))=false:=by decide) (he:am (e::es) X.env=(false,bY e X.env)::am es X.env:=by rfl) (hpl:(da pos (am es X.env)).any (·.1)=false:=by rfl) :
  PE X (.Call (.Name x p) (e::es) [] pos) (G3 sp dvs E t):=by
 intro pins s σ H Q I h
 refine jD (sY I hg hm ?_ hdb)
 refine li (h₀:=X.base) I.ok.mod.kin hk (eR (ha pos pins s σ H _ I h) fun us s1 ⟨vs,H1,I1,r,q⟩=>⟨I1.kIn,?_⟩) he hpl
 exact Ek F hr hb hd hx I1 r q
theorem N7 {pl:Sem Bool} (he:PE X o ta) (c:Cls X.K C) (hm:Ht X.K C m f) (F:l_ X.prog X.w X.K X.mg X.base CX k f fd ps sp) (hr:fX k X.A) (hb:fo X.K fd ps ds) (hd:cn dvs ds) (hx:g_ CX X E) (ha:PA X (e::es) t)
  (hst:am (e::es) X.env=(false,bY e X.env)::am es X.env:=by rfl) (hpl:(da pos (am es X.env)).any (·.1)=false:=by rfl)
  (ht:bY (.Call (.Attribute o m apos) (e::es) [] pos) X.env=(do
   let ov <- bY o X.env
   ko apos.atName
   let (f,first) <- pz [ov] (qR ov m pl)
   yz pos f first (da pos (am (e::es) X.env)) (kr pos (fP [] X.env))):=by rfl) :
  PE X (.Call (.Attribute o m apos) (e::es) [] pos) (OS C m sp dvs E ta t):=by
 intro pins s σ H Q I h
 refine pj (pl:=pl) (eR (he pins s σ H _ I h) fun u s1 ⟨x,H1,I1,rx,a,dx,fs,ex,ea,l,q⟩=>?_) ht
 subst ex
 obtain rfl:u=bq a:=rx
 refine rA I1 ea c hm l ?_
 refine li (first:=[.ref a]) (h₀:=X.base) I.ok.mod.kin hm.kp (eR (ha pos pins s1 σ H1 _ I1 q) fun us s2 ⟨vs,H2,I2,r,q2⟩=>⟨I2.kIn,?_⟩) hst hpl
 exact Ek (us:=.ref a::us) (vs:=.ref a::vs) F hr hb hd hx I2 (.cons rfl r) q2
theorem Jr {pl:Sem Bool} (he:PE X o ta) (c:Cls X.K C) (hm:Ht X.K C m f) (F:l_ X.prog X.w X.K X.mg X.base CX k f fd ps sp) (hr:fX k X.A) (hb:fo X.K fd ps ds) (hd:cn dvs ds) (hx:g_ CX X E)
  (ht:bY (.Call (.Attribute o m apos) [] [] pos) X.env=(do
   let ov <- bY o X.env
   ko apos.atName
   let (f,first) <- pz [ov] (qR ov m pl)
   yz pos f first (da pos (am [] X.env)) (kr pos (fP [] X.env))):=by rfl) :
  PE X (.Call (.Attribute o m apos) [] [] pos) (OS C m sp dvs E ta B_):=by
 intro pins s σ H Q I h
 refine pj (pl:=pl) (eR (he pins s σ H _ I h) fun u s1 ⟨x,H1,I1,rx,a,dx,fs,ex,ea,l,q⟩=>?_) ht
 subst ex
 obtain rfl:u=bq a:=rx
 refine rA I1 ea c hm l ?_
 exact PySem.W.callWith_K0 (first:=[.ref a]) I1.kIn hm.kp (Ek (us:=[.ref a]) (vs:=[.ref a]) F hr hb hd hx I1 (.cons rfl .nil) q)
structure Mk (K:a7) (C f:ac):Prop where
 makes:kq K C=true
 init:bz K (.ref C) "__init__"=some (some (.ref f))
 fn:sR K (.ref f)=true
 kp:bQ K (.ref C)=true
theorem Js {pins:List (ac×Obj)}{σ:St}{H:Hp}{s:ag}{Q:VK}{us:List a9}{vs:List V} (M:Mk X.K C f) (F:l_ X.prog X.w X.K X.mg X.base CX k f fd ps sp) (hr:fX (k+1) X.A) (hb:fo X.K fd ps ds) (hd:cn dvs ds)
  (hx:g_ CX X E) (I:bv X pins σ H s) (r:cn vs us)
  (h:∀ x dx,H x=none->H dx=none->dx≠x->sp (.ref x::(vs++dvs)) (upd (upd H dx (.own x)) x (.ins C dx [])) (fun v H2=>v=.non/\Q (.ref x) H2) E) :
  aq (aD X.prog X.w) X.A (call (.ref C) us) (EP X pins σ Q) X.xe s:=by
 have hq:=h (s.heap.objs.size+1) s.heap.objs.size (I.hok.fresh (kO _)) (I.hok.fresh (az _)) (aP (eZ _))
 have I2:=bv.made (C:=C) I
 have r2:cn (V.ref (s.heap.objs.size+1)::(vs++dvs)) (bq (s.heap.objs.size+1)::(us++ds)):=.cons rfl (r.append hd)
 have hl:(bq (s.heap.objs.size+1)::us++ds).length=ps.length:=by
  have e:=r2.length
  rw [F.len _ _ _ _ hq] at e
  exact e.symm
 refine rm (Jo (f:=f) I.kIn M.makes M.init (beq_iff_eq.mp M.fn) (ku (F.run _ X.stack _ _ ⟨bq (s.heap.objs.size+1)::us,[]⟩ (bq (s.heap.objs.size+1)::(us++ds)) _ _ E (hr.make C us [])
  (I2.env0.make C us []) (hb _ (bq (s.heap.objs.size+1)::us) I2.kIn hl) r2 hq) fun r s' hq'=>?_))
 cases r with
 |error e=>exact hx pins σ _ _ e s' I2 hq'
 |ok fl =>
  cases fl with
  |ret u =>
   obtain ⟨v,H',I3,rv,ev,q3⟩:=I2.after hq'
   subst ev
   exact ⟨rv,⟨V.ref (s.heap.objs.size+1),H',I3,rfl,q3⟩⟩
  |next=>exact cY hq'
  |brk=>exact cY hq'
  |cont=>exact cY hq'
theorem N8 (M:Mk X.K C f) (F:l_ X.prog X.w X.K X.mg X.base CX k f fd ps sp) (hr:fX (k+1) X.A) (hg:Gl X x) (hm:X.mg x=some (.ref C)) (hb:fo X.K fd ps ds) (hd:cn dvs ds) (hx:g_ CX X E)
  (ha:PA X (e::es) t) (hdb:(x==("__debug__" : Str))=false:=by decide) (he:am (e::es) X.env=(false,bY e X.env)::am es X.env:=by rfl) (hpl:(da pos (am es X.env)).any (·.1)=false:=by rfl) :
  PE X (.Call (.Name x p) (e::es) [] pos) (RN C sp dvs E t):=by
 intro pins s σ H Q I h
 refine jD (sY I hg hm ?_ hdb)
 refine li (h₀:=X.base) I.ok.mod.kin M.kp (eR (ha pos pins s σ H _ I h) fun us s1 ⟨vs,H1,I1,r,q⟩=>⟨I1.kIn,?_⟩) he hpl
 exact Js M F hr hb hd hx I1 r q
end
section
variable {X:Cx}{CX:G1}{k:Nat}{f C:ac}{fd:cP}{ps ks:List Str}{sp:Sp}{E:XK}{x m:Str}{p pos apos kpos:Pos}{e o:bc}{es:List bc}{kws:List nh}{te ta:TE}{t tk:TA}{nm:Option Str}
variable {g:List a9->List a9->List a9}{gV:List V->List V->List V}
end
structure b6 (N P:List Str) (sc:eY):Prop where
 kind:sc.kind=.function
 co:sc.isCoroutine=false
 gen:sc.isGenerator=false
 nd:N.Nodup
 pre:N.take P.length=P
 par:∀ x∈P,sc.names.lookup x=some .local\/sc.names.lookup x=some .cell
 nofree:∀ y∈sc.names,y.2≠.free
theorem zE {kindOf:Str->Option kz}{x:Str}:∀ {binds:List (Str×a9)}{m:Str->Option a9},(∀ v,(x,v)∉binds)->DQ kindOf binds m x=m x
 |[],_,_=>rfl
 |(n,v)::r,m,h=>by
  unfold DQ
  rw [zE fun w hw=>h w (ar _ hw)]
  split
  ·have:x≠n:=by rintro rfl;exact h v ao
   simp [this]
  ·rfl
theorem zF {kindOf:Str->Option kz}{x:Str}:∀ {binds:List (Str×a9)}{m:Str->Option a9},(∀ v,(x,v)∉binds)->DR kindOf binds m x=m x
 |[],_,_=>rfl
 |(n,v)::r,m,h=>by
  unfold DR
  rw [zF fun w hw=>h w (ar _ hw)]
  split
  ·rfl
  ·have:x≠n:=by rintro rfl;exact h v ao
   simp [this]
theorem zG {kindOf:Str->Option kz}{x:Str}{v:a9}:∀ {P:List Str}{vs:List a9}{i:Nat}{m:Str->Option a9},P.Nodup->P[i]?=some x->vs[i]?=some v->kindOf x=some .local ->
  DQ kindOf (P.zip vs) m x=some v
 |[],_,_,_,_,h,_,_=>by simp at h
 |_::_,[],_,_,_,_,h,_=>by simp at h
 |p::P,w::vs,0,m,nd,h1,h2,hk=>by
  simp at h1 h2;subst h1;subst h2
  show DQ kindOf ((p,w)::P.zip vs) m p=_
  unfold DQ
  rw [zE fun v hv=>(List.nodup_cons.mp nd).1 (pM hv).1,if_pos hk]
  simp
 |p::P,w::vs,i+1,m,nd,h1,h2,hk=>by
  show DQ kindOf ((p,w)::P.zip vs) m x=_
  unfold DQ
  exact zG (i:=i) (List.nodup_cons.mp nd).2 (by simpa using h1) (by simpa using h2) hk
theorem zH {kindOf:Str->Option kz}{x:Str}{v:a9}:∀ {P:List Str}{vs:List a9}{i:Nat}{m:Str->Option a9},P.Nodup->P[i]?=some x->vs[i]?=some v->kindOf x≠some .local ->
  DR kindOf (P.zip vs) m x=some v
 |[],_,_,_,_,h,_,_=>by simp at h
 |_::_,[],_,_,_,_,h,_=>by simp at h
 |p::P,w::vs,0,m,nd,h1,h2,hk=>by
  simp at h1 h2;subst h1;subst h2
  show DR kindOf ((p,w)::P.zip vs) m p=_
  unfold DR
  rw [zF fun v hv=>(List.nodup_cons.mp nd).1 (pM hv).1,if_neg hk]
  simp
 |p::P,w::vs,i+1,m,nd,h1,h2,hk=>by
  show DR kindOf ((p,w)::P.zip vs) m x=_
  unfold DR
  exact zH (i:=i) (List.nodup_cons.mp nd).2 (by simpa using h1) (by simpa using h2) hk
def start (N:List Str) (vs:List V):St:=vs.map some++bD (N.length-vs.length) none
def iT (CX:G1) (P:aR) (w:bh) (K:a7) (mg:Str->Option a9) (base:br) (N:List Str) (qual:Str) (scope:eY) (f:ac) (cd:a9) (A:bf) (outer:List Env) (s:ag) (H:Hp) (E:XK):Cx where
 prog:=P
 w:=w
 K:=K
 mg:=mg
 base:=base
 A:=A.deeper (iy qual scope s.heap.objs.size f cd)
 N:=N
 s₀:=s
 H₀:=H
 env:=iy qual scope s.heap.objs.size f cd
 outer:=outer
 stack:=iy qual scope s.heap.objs.size f cd::outer
 ex:=[]
 calm:=true
 fn:=fun _=>true
 pn:=[]
 xe:=fun e s'=>aq (aD P w) (A.deeper (iy qual scope s.heap.objs.size f cd)) (leaving (iy qual scope s.heap.objs.size f cd) e) (fun _ s''=>CX outer H s E e s'') (fun e' s''=>CX outer H s E e' s'') s'
theorem C1 {sc:eY}{n:Nat}{x:Str} (h:sc.names.lookup x=some .cell):∃ c,(bH n sc.names []).lookup x=some c:=by
 have q:=eG sc.names n [] (.inl h)
 exact Option.isSome_iff_exists.mp q
theorem zI {CX:G1}{P:aR}{w:bh}{K:a7}{mg:Str->Option a9}{base:br}{N ps:List Str}{qual:Str}{scope:eY}{f:ac}{cd:a9}{A:bf}{outer:List Env}{s s1:ag}{H:Hp}{E:XK}{us:List a9}{vs:List V}
  (S:b6 N ps scope) (hd:A.handled=none) (e0:yI P w K mg base A outer s H) (hl:vs.length=ps.length) (r:cn vs us)
  (x:InCallC s s.heap.objs.size (DQ (iy qual scope s.heap.objs.size f cd).kindOf (ps.zip us) fun _=>none) (bH (s.heap.objs.size+1) scope.names []) (DR (iy qual scope s.heap.objs.size f cd).kindOf (ps.zip us) fun _=>none) s1) :
  bv (iT CX P w K mg base N qual scope f cd A outer s H E) [] (start N vs) H s1:=by
 have hpl:ps.length<=N.length:=by have:=congrArg wR S.pre;rw [wv] at this;omega
 obtain ⟨h1,tk,rfl,hk⟩:=x.done
 have noA:∀ b:ac,b∉(iT CX P w K mg base N qual scope f cd A outer s H E).ex:=fun b z=>absurd (show b∈([] : List ac) from z) (by simp)
 refine ⟨⟨e0.mod,S.kind,rfl,rfl,az _,fun y z c h1 h2=>?_,fun y hy=>?_,fun y c _ h=>?_,fun _=>hd,Around.frames_deeper e0.frames,.inr ⟨rfl,rfl⟩,fun b z=>absurd z (noA b),e0.bs,e0.bsz,fun b _ _=>noA b,fun b z=>absurd z (noA b),e0.funs,e0.frf⟩,
  rfl,e0.bare,Un.kept hk,⟨_,x.toInCall.ns,fun i y v h1 h2 h3=>?_⟩,fun y c h=>⟨_,x.cell y c h⟩,e0.hok.fresh (az _),fun y c h=>?_,fun p hp=>absurd (show p∈([] : List (ac×Obj)) from hp) (by simp),e0.hok.kept hk,?_⟩
 ·exact name_of_addr x.apart (cZ h1) (cZ h2)
 ·have hy:scope.names.lookup y=some .cell\/scope.names.lookup y=some .free:=hy
  rcases hy with hy|hy
  ·exact C1 hy
  ·exact absurd rfl (S.nofree _ (cZ hy))
 ·exact bi (x.above y c (cZ h))
 ·have hi:i<vs.length:=by
   unfold start at h2
   by_cases hi:i<vs.length
   ·exact hi
   ·rw [bd (by simpa using hi)] at h2
    rw [bK] at h2
    split at h2<;>cases h2
  have ha:vs[i]?=some v:=by
   unfold start at h2
   rw [bL (by simpa using hi),aK] at h2
   cases e:vs[i]? with
   |none=>rw [e] at h2;cases h2
   |some a=>rw [e] at h2;cases h2;rfl
  obtain ⟨u,hu,rv⟩:=r.get ha
  have hp:ps[i]?=some y:=by
   rw [<- S.pre,List.getElem?_take_of_lt (by omega)];exact h1
  have ndP:ps.Nodup:=by rw [<- S.pre];exact S.nd.sublist (List.take_sublist _ _)
  refine ⟨u,rv,?_⟩
  rcases S.par y (kL hp) with k|k
  ·exact .inl ⟨k,zG ndP hp hu k⟩
  ·obtain ⟨c,e⟩:=C1 (n:=s.heap.objs.size+1) k
   refine .inr ⟨.inl k,c,e,?_⟩
   have q:=x.cell y c e
   rw [zH ndP hp hu (by show scope.names.lookup y≠_;rw [k];decide)] at q
   exact q
 ·exact e0.hok.fresh (bi (x.above y c (cZ h)))
 ·unfold start
  show _=N.length
  rw [a_,aO,cF]
  omega
theorem j1 {CX:G1}{P:aR}{w:bh}{K:a7}{mg:Str->Option a9}{base:br}{k:Nat}{f:ac}{name qual:Str}{params:Arguments}{body:List c8}{scope:eY}{dV kV doc pm cdv ct oc:a9}{an od:Option ac}
  {osl:Array (Option a9)}{N ps:List Str}{sp:Sp} (lk:K.lookup f=some ⟨oc,od,.func (dh name qual params body scope dV kV doc pm an cdv ct),osl⟩) (hcd:gX K cdv qual=true) (S:b6 N ps scope)
  (len:∀ vs H Q E,sp vs H Q E->vs.length=ps.length)
  (hbody:∀ (A:bf) (outer:List Env) (s:ag) (H:Hp) (vs:List V) (Q:VK) (E:XK),fX k (A.deeper (iy qual scope s.heap.objs.size f cdv))->sp vs H Q E ->
   ∃ t,Ax (iT CX P w K mg base N qual scope f cdv A outer s H E) body t/\t { nx:=fun _ H'=>Q .non H',rt:=Q } (start N vs) H) :
  l_ P w K mg base CX (k+1) f (dh name qual params body scope dV kV doc pm an cdv ct) ps sp:=by
 refine ⟨len,fun A outer s H args us vs Q E hr e0 hb r hsp=>?_⟩
 have hl:=len _ _ _ _ hsp
 have KX:K.In s.heap:=e0.mod.kin.keeps fun b o e=>(e0.bs b o e).1
 have lim:s.heap.NoLimit:=e0.mod.nolimit.keeps fun b o e=>(e0.bs b o e).1
 have hkind:∀ y∈ps.zip us,scope.names.lookup y.1=some .local\/(scope.names.lookup y.1=some .cell/\((bH (s.heap.objs.size+1) scope.names []).lookup y.1).isSome=true):=fun ⟨n,v⟩ hy=>by
  rcases S.par n (pM hy).1 with q|q
  ·exact .inl q
  ·exact .inr ⟨q,eG _ _ _ (.inl q)⟩
 refine Mi hr.depth (KX _ _ lk) rfl S.co S.gen rfl (rn KX hcd) (hb _ _ _ _ ?_)
 refine DS S.kind hkind fun env he s1 x=>?_
 subst he
 refine ⟨lim.keeps x.toInCall.keep,codeAny_func ?_⟩
 obtain ⟨t,ht,hq⟩:=hbody A outer s H vs Q E (hr.deeper _) hsp
 have I:bv (iT CX P w K mg base N qual scope f cdv A outer s H E) [] (start N vs) H s1:=zI S hr.hd e0 hl r x
 refine cc (ht [] s1 (start N vs) H _ I hq) (fun fl s' hs=>?_) fun e s' hs=>hs
 have fin:∀ {σ':St}{H':Hp}{v:V}{u:a9},bv (iT CX P w K mg base N qual scope f cdv A outer s H E) [] σ' H' s'->cU v u->Q v H'->CE outer P w H s Q u s' :=
  fun {σ' H' v u} J rv q=>⟨v,H',J.os,J.bare,J.base,J.hok,rv,q⟩
 cases fl with
 |ret u =>
  obtain ⟨v,σ',H',J,rv,q⟩:=hs
  exact fin J rv q
 |next =>
  obtain ⟨σ',H',J,q⟩:=hs
  exact fin (v:=V.non) (u:=cX) J rfl q
 |brk =>
  obtain ⟨_,_,_,q⟩:=hs
  exact cY q
 |cont =>
  obtain ⟨_,_,_,q⟩:=hs
  exact cY q
end L2
namespace L2
open PySem PySem.Spec PyProof.Rows
section
variable {X:Cx}{x:Str}{p pos:Pos}{e:bc}{es:List bc}{t:TA}{id T:String}{r:List V->Hp->VK->Prop}
def RO (r:List V->Hp->VK->Prop) (t:TA):TE:=fun σ H Q=>t σ H fun vs H1=>r vs H1 Q
theorem nu (hc:ji X (.builtin id) r) (hg:Gl X x) (hm:X.mg x=none) (hv:gU x=some (.builtin id)) (ha:PA X (e::es) t) (hn:x≠"__name__":=by decide) (hdb:(x==("__debug__" : Str))=false:=by decide)
  (he:am (e::es) X.env=(false,bY e X.env)::am es X.env:=by rfl) (hpl:(da pos (am es X.env)).any (·.1)=false:=by rfl):PE X (.Call (.Name x p) (e::es) [] pos) (RO r t):=by
 intro pins s σ H Q I h
 refine jD (uD I hg hm hv ?_ hn hdb)
 exact PyProof.Rows.callWith_builtin1 (eR (ha pos pins s σ H _ I h) fun us s1 h_27=>by obtain ⟨vs,H1,I1,r1,q1⟩:=h_27;exact hc pins s1 σ H1 vs us Q I1 r1 q1) he hpl
theorem zJ (hc:ji X (.type T) r) (hg:Gl X x) (hm:X.mg x=none) (hv:gU x=some (.type T)) (ha:PA X (e::es) t) (hn:x≠"__name__":=by decide) (hdb:(x==("__debug__" : Str))=false:=by decide)
  (he:am (e::es) X.env=(false,bY e X.env)::am es X.env:=by rfl) (hpl:(da pos (am es X.env)).any (·.1)=false:=by rfl):PE X (.Call (.Name x p) (e::es) [] pos) (RO r t):=by
 intro pins s σ H Q I h
 refine jD (uD I hg hm hv ?_ hn hdb)
 exact fS (eR (ha pos pins s σ H _ I h) fun us s1 h_28=>by obtain ⟨vs,H1,I1,r1,q1⟩:=h_28;exact hc pins s1 σ H1 vs us Q I1 r1 q1) he hpl
end
end L2
namespace HT
open PySem PyProof.Rows
section
open PySem.SeqAt
open PySem.AutoSeq1 (wpAny_loadPart')
open PySem.MeetsSeq PySem.MeetsSeq2 PySem.MeetsSeq3
end
section
variable {prog:aR}{w:bh}{A:bf}{E:a9->ag->Prop}{s:ag}
theorem N9 {t b:ac}{vs ws:List a9}{Q:a9->ag->Prop} (ht:Mx s.heap t vs.toArray) (hb:Mx s.heap b ws.toArray) (hv:vs≠[])
  (h1:ws=[]->Q (.ref t) s) (h2:ws≠[]->Q (.ref s.heap.objs.size) { s with heap:=s.heap.push { cls:=.type "tuple",data:=.seq (vs++ws).toArray } })
  (hsz:vs.length+ws.length<=sizeLine):aq (aD prog w) A (fN .Add (.ref t) (.ref b)) Q E s:=by
 obtain ⟨⟨cls,dd,data,sl⟩,ho,hc,n,hd⟩:=id ht
 obtain ⟨⟨cls2,dd2,data2,sl2⟩,ho2,hc2,n2,hd2⟩:=id hb
 simp only at hc hd hc2 hd2
 subst hc hd hc2 hd2
 have e:vs.toArray++ws.toArray=(vs++ws).toArray:=by simp
 by_cases hw:ws=[]
 ·exact yA ⟨_,ho,rfl⟩ ⟨_,ho2,rfl⟩ At G_ nZ ni (mI _ _)
   (tuple_addW1 t b vs.toArray ws.toArray n n2 dd dd2 sl sl2 (by simpa using hv) (by simp [hw])) ⟨ho,ho2,h1 hw⟩
 ·refine yA ⟨_,ho,rfl⟩ ⟨_,ho2,rfl⟩ At G_ nZ ni (mI _ _)
   (tuple_addW2 t b vs.toArray ws.toArray n n2 dd dd2 sl sl2 (by simpa using hv) (by simpa using hw) (by rw [aC,aC];exact hsz)) ⟨ho,ho2,?_⟩
  rw [e]
  exact h2 hw
def iu (n d:Nat):Option Int->Nat
 |none=>d
 |some v=>if v<0 then (v+(n:Int)).toNat else min v.toNat n
theorem C2 (n d:Nat):iu n d none=d:=rfl
theorem G4 (n d k:Nat):iu n d (some (k:Int))=min k n:=by
 show (if (k:Int)<0 then ((k:Int)+(n:Int)).toNat else min (k:Int).toNat n)=min k n
 rw [if_neg (by omega),jE]
theorem Ql (n d:Nat) (hd:d<=n) (o:Option Int):iu n d o<=n:=by
 cases o with
 |none=>exact hd
 |some v =>
  show (if v<0 then (v+(n:Int)).toNat else min v.toNat n)<=n
  by_cases hv:v<0
  ·rw [if_pos hv];omega
  ·rw [if_neg hv];exact wS _ _
theorem G5 (v:Int) (n d:Nat):(if v<0 then max (v+(n:Int)) 0 else min v (n:Int))=((iu n d (some v):Nat):Int):=by
 show (if v<0 then max (v+(n:Int)) 0 else min v (n:Int))=(((if v<0 then (v+(n:Int)).toNat else min v.toNat n):Nat):Int)
 by_cases hv:v<0
 ·simp only [if_pos hv];omega
 ·simp only [if_neg hv];omega
theorem El (lo hi:Option Int) (n:Nat):kA lo hi 1 (n:Int)=(((iu n 0 lo:Nat):Int),((iu n n hi:Nat):Int)):=by
 have h1:¬ ((1:Int)<0):=by omega
 unfold kA
 simp only [h1,if_false]
 refine Prod.ext ?_ ?_
 ·cases lo with
  |none=>rfl
  |some v=>exact G5 v n 0
 ·cases hi with
  |none=>rfl
  |some v=>exact G5 v n n
theorem Em (i j:Nat):cL (i:Int) (j:Int) 1=j-i:=by
 unfold cL
 have h1:(1:Int) > 0:=by omega
 simp only [h1,if_true,Int.ediv_one]
 split<;>omega
theorem xb {v:a9}{o:Option Int}{Q:Option Int->ag->Prop} (p:um v o) (h:Q o s):aq (aD prog w) A (Builtin.Slice.slicePartIndex v) Q E s:=by
 cases p with
 |none=>exact uo h
 |int i t=>exact slicePart_int h
theorem nw {sl:ac}{vl vu:a9}{lo hi:Option Int}{n:Nat}{Q:Int×Int×Nat->ag->Prop} (hs:s.heap.IsSliceOf sl vl vu .none) (pl:um vl lo) (pu:um vu hi)
  (h:Q (((iu n 0 lo:Nat):Int),1,iu n n hi-iu n 0 lo) s):aq (aD prog w) A (gd (.ref sl) (pure (n:Int))) Q E s:=by
 obtain ⟨os,hos,hcs,hds⟩:=id hs
 unfold gd uj
 refine a6 (a6 (cB hos hds (x:=vl) rfl (a6 (cB hos hds (x:=vu) rfl (a6 (cB hos hds (x:=.none) rfl (aa ?_)))))))
 refine a6 (uo ?_)
 show aq _ _ (if ((1:Int)==0)=true then _ else _) _ _ s
 rw [if_neg (by decide)]
 refine a6 (xb pl (a6 (xb pu (a6 (aa ?_)))))
 show aq _ _ (match kA lo hi 1 (n:Int) with|(lo,hi)=>pure (lo,(1:Int),cL lo hi 1)) _ _ s
 rw [El lo hi n]
 show aq _ _ (pure (((iu n 0 lo:Nat):Int),(1:Int),cL ((iu n 0 lo:Nat):Int) ((iu n n hi:Nat):Int) 1)) _ _ s
 rw [Em]
 exact aa h
theorem Jt (xs:Array a9) (i k:Nat):((bN k).filterMap fun (m:Nat)=>xs[((i:Int)+(m:Int)*1).toNat]?).toArray=((xs.toList.drop i).take k).toArray:=by
 have e:(fun (m:Nat)=>xs[((i:Int)+(m:Int)*1).toNat]?)=fun m=>xs[i+m]?:=by
  funext m
  have:((i:Int)+(m:Int)*1).toNat=i+m:=by omega
  rw [this]
 rw [e]
 have:=pick_run xs i k
 rw [List.filterMap_map] at this
 have e2:((fun x=>xs[x]?)∘fun x=>i+x)=fun m=>xs[i+m]?:=rfl
 rw [e2] at this
 rw [this]
theorem s_ {t sl:ac}{items:Array a9}{vl vu:a9}{lo hi:Option Int}{Q:a9->ag->Prop} (ht:Mx s.heap t items) (hs:s.heap.IsSliceOf sl vl vu .none) (pl:um vl lo) (pu:um vu hi)
  (hw:¬ (iu items.size 0 lo=0/\iu items.size items.size hi=items.size))
  (h:Q (.ref s.heap.objs.size) { s with heap:=s.heap.push { cls:=.type "tuple",data:=.seq ((items.toList.drop (iu items.size 0 lo)).take (iu items.size items.size hi-iu items.size 0 lo)).toArray } })
  (hsz:items.size<=sizeLine):aq (aD prog w) A (lT (.ref t) (.ref sl)) Q E s:=by
 have htake:sizeOk (.seq ((items.toList.drop (iu items.size 0 lo)).take (iu items.size items.size hi-iu items.size 0 lo)).toArray):=by
  show ((items.toList.drop (iu items.size 0 lo)).take (iu items.size items.size hi-iu items.size 0 lo)).toArray.size<=sizeLine
  rw [aC,wv,ww,aZ]
  omega
 have hj:iu items.size items.size hi<=items.size:=Ql _ _ (az _) hi
 obtain ⟨os,hos,hcs,hds⟩:=id hs
 have hTs:s.TypeIs (.ref sl) "slice":=⟨os,hos,hcs⟩
 unfold lT
 try with_reducible refine eE ?_
 first|refine a6 (aa ?_)|skip
 refine a6 (yB ht.typeIs (by decide) ?_)
 refine a6 (cr (name:=gE "__getitem__") ht.typeIs cC
  (cu cC ht.typeIs vX ?_ (wT _ _)))
 show aq _ _ (kh (.ref t) >>= _) _ _ s
 refine a6 (H9 ht ?_)
 refine a6 (nj hTs ?_)
 rw [if_pos (by decide)]
 refine a6 (nw hs pl pu ?_)
 have hno:¬ ((((iu items.size 0 lo:Nat):Int)==0&&(1:Int)==1&&(iu items.size items.size hi-iu items.size 0 lo)==items.size)=true):=by
  intro q
  rw [aJ,aJ] at q
  have q1:((iu items.size 0 lo:Nat):Int)=0:=eq_of_beq q.1.1
  have q2:iu items.size items.size hi-iu items.size 0 lo=items.size:=eq_of_beq q.2
  exact hw ⟨by omega,by omega⟩
 show aq _ _ (if (((iu items.size 0 lo:Nat):Int)==0&&(1:Int)==1&&(iu items.size items.size hi-iu items.size 0 lo)==items.size)=true then _ else _) _ _ s
 rw [if_neg hno,Jt]
 first
  |exact a6 (m:=cw _) (bG (aa ⟨_,rfl,aa h⟩) htake)
  |exact a6 (m:=cw _) (bG (a6 (aa (aa ⟨_,rfl,aa h⟩))) htake)
  |exact a6 (a6 (m:=cw _) (bG (aa (aa ⟨_,rfl,aa h⟩)) htake))
  |exact a6 (a6 (m:=cw _) (bG (aa ⟨_,rfl,aa h⟩) htake))
end
end HT
namespace L2
open PySem PySem.Spec PyProof.Rows
abbrev TO:=St->Hp->(Option Int->Hp->Prop)->Prop
def PO (X:Cx) (e:Option bc) (t:TO):Prop :=
 ∀ (pins:List (ac×Obj)) (s:ag) (σ:St) (H:Hp) (Q:Option Int->Hp->Prop),bv X pins σ H s->t σ H Q ->
  aq (aD X.prog X.w) X.A (evalPart e X.env) (fun u s'=>∃ o H',bv X pins σ H' s'/\um u o/\Q o H') X.xe s
def Na:TO:=fun _ H Q=>Q none H
def RP (t:TE):TO:=fun σ H Q=>t σ H fun x H1=>∃ i,x=.int i/\Q (some i) H1
section
variable {X:Cx}{e:bc}{te:TE}{lo hi:Option bc}{tl th:TO}{pos p2:Pos}
theorem Nb:PO X none Na:=by
 intro pins s σ H Q I h
 rw [Ha]
 exact aa ⟨none,H,I,.none,h⟩
theorem Nc (h:PE X e te):PO X (some e) (RP te):=by
 intro pins s σ H Q I hw
 rw [evalPart_some]
 refine eR (h pins s σ H _ I hw) fun u s1 h_29=>?_
 obtain ⟨x,H1,I1,r1,q1⟩:=h_29
 obtain ⟨i,rfl,q⟩:=q1
 obtain ⟨t,rfl⟩:=r1
 exact ⟨some i,H1,I1,.int i t,q⟩
def RQ (X:Cx) (r:V->Option Int->Option Int->Hp->VK->Prop):Prop :=
 ∀ (pins:List (ac×Obj)) (s:ag) (σ:St) (H:Hp) (x:V) (v vl vu:a9) (lo hi:Option Int) (sl:ac) (Q:VK),bv X pins σ H s->cU x v->s.heap.IsSliceOf sl vl vu .none->um vl lo->um vu hi->r x lo hi H Q ->
  ∃ T id,DT (.type T) "__getitem__"=pure (some (.builtin id))/\s.TypeIs v T/\aq (aD X.prog X.w) X.A (lT v (.ref sl)) (EP X pins σ Q) X.xe s
def VT (r:V->Option Int->Option Int->Hp->VK->Prop) (te:TE) (tl th:TO):TE:=fun σ H Q=>te σ H fun x H1=>tl σ H1 fun l H2=>th σ H2 fun u H3=>r x l u H3 Q
theorem Ju {r:V->Option Int->Option Int->Hp->VK->Prop} (hr:RQ X r) (he:PE X e te) (hl:PO X lo tl) (hu:PO X hi th):PE X (.Subscript e (.Slice lo hi none p2) pos) (VT r te tl th):=by
 intro pins s σ H Q I h
 refine DU (eR (he pins s σ H _ I h) fun v s1 ⟨x,H1,I1,r1,q1⟩=>?_)
 refine wpAny_Slice (eR (hl pins s1 σ H1 _ I1 q1) fun vl s2 ⟨l,H2,I2,pl,q2⟩=>eR (hu pins s2 σ H2 _ I2 q2) fun vu s3 ⟨u,H3,I3,pu,q3⟩=>?_)
 rw [Ha]
 refine aa ?_
 have I4:bv X pins σ H3 { s3 with heap:=s3.heap.push { cls:=.type "slice",data:=.fields #[vl,vu,.none] } }:=I3.kept (t':=s3.toks) fun b ob q=>ae _ q
 obtain ⟨T,id,hT,ht,hg⟩:=hr pins { s3 with heap:=s3.heap.push { cls:=.type "slice",data:=.fields #[vl,vu,.none] } } σ H3 x v vl vu l u s3.heap.objs.size Q I4 r1 (yv ..) pl pu q3
 show aq (aD X.prog X.w) X.A (wx e (.Slice lo hi none p2) v (.ref s3.heap.objs.size)) (EP X pins σ Q) X.xe { s3 with heap:=s3.heap.push { cls:=.type "slice",data:=.fields #[vl,vu,.none] } }
 exact tail_any (ops:=[.ref s3.heap.objs.size,v]) ht hT hg (by with_unfolding_all rfl)
def C3 (xs:List V) (lo hi:Option Int):List V:=(xs.drop (HT.iu xs.length 0 lo)).take (HT.iu xs.length xs.length hi-HT.iu xs.length 0 lo)
theorem vE (xs:List V) (lo hi:Option Int):(C3 xs lo hi).length<=xs.length:=by
 unfold C3
 rw [wv,ww]
 omega
def Uu (K:a7):V->Option Int->Option Int->Hp->VK->Prop:=fun x lo hi H Q=>∃ a xs,x=.ref a/\j_ K H a xs /\
 ¬ (HT.iu xs.length 0 lo=0/\HT.iu xs.length xs.length hi=xs.length)/\∀ p,H p=none->Q (.ref p) (upd H p (.tup (C3 xs lo hi)))
theorem Qm:RQ X (Uu X.K):=by
 intro pins s σ H x v vl vu lo hi sl Q I rx hs pl pu h
 obtain ⟨a,xs,rfl,hx,hw,q⟩:=h
 cases rx
 obtain ⟨its,r,ht,hz⟩:=I.tuple hx
 have hlen:its.toArray.size=xs.length:=by rw [aC];exact r.length.symm
 refine ⟨"tuple",_,PyProof.Rows.slot_tuple_getitem.lookup,ht.typeIs,?_⟩
 refine HT.s_ ht hs pl pu (by rw [hlen];exact hw) ?_ (by rw [hlen];exact hz)
 rw [hlen]
 refine ⟨.ref s.heap.objs.size,_,I.laid (t':=s.toks) (o:=.tup (C3 xs lo hi)) (fun b ob q=>ae _ q) (az _) ?_,rfl,q _ (I.hok.fresh (az _))⟩
 exact ⟨bT (vE xs lo hi) hz,_,(r.drop (HT.iu xs.length 0 lo)).take (HT.iu xs.length xs.length hi-HT.iu xs.length 0 lo),vY _ _⟩
inductive Jv (K:a7) (x:V) (y:V) (H:Hp) (Q:VK):Prop
 |mk (a b xs ys:_) (h0:x=.ref a) (h1:y=.ref b) (h2:j_ K H a xs) (h3:j_ K H b ys) (h4:xs≠[]) (h5:xs.length+ys.length<=sizeLine) (h6:(ys=[]->Q (.ref a) H)) (h7:(ys≠[]->∀ p,H p=none->Q (.ref p) (upd H p (.tup (xs++ys))))):Jv K x y H Q
def RS (K:a7):R2:=Jv K
theorem cn.nil_iff {xs:List V}{us:List a9} (r:cn xs us):us=[]↔xs=[]:=by
 cases r with
 |nil=>simp
 |cons _ _=>simp
theorem Nd:pp X (fN .Add) (RS X.K):=by
 intro pins s σ H x y v u Q I rx ry h
 obtain ⟨a,b,xs,ys,rfl,rfl,ha,hb,hx,hz,q1,q2⟩:=h
 cases rx
 cases ry
 obtain ⟨its,r1,p1,_⟩:=I.tuple ha
 obtain ⟨its2,r2,p2,_⟩:=I.tuple hb
 refine HT.N9 p1 p2 (fun z=>hx (r1.nil_iff.mp z)) (fun z=>⟨.ref a,H,I,rfl,q1 (r2.nil_iff.mp z)⟩) (fun z=>?_) (by rw [<- r1.length,<- r2.length];exact hz)
 refine ⟨.ref s.heap.objs.size,_,I.laid (t':=s.toks) (o:=.tup (xs++ys)) (fun b ob q=>ae _ q) (az _) ?_,rfl,q2 (fun w=>z (r2.nil_iff.mpr w)) _ (I.hok.fresh (az _))⟩
 exact ⟨by rw [a_];exact hz,_,r1.append r2,vY _ _⟩
end
end L2
namespace L2
open PySem PySem.Spec PyProof.Rows
def Qn (n:Nat) (i:Int):Option Nat:=if 0<=i then (if i<n then some i.toNat else none) else if -(n:Int)<=i then some (i+n).toNat else none
def DF {α:Type} (xs:List α) (i:Int):Option α:=(Qn xs.length i).bind fun j=>xs[j]?
theorem Nf {n:Nat}{i:Int}{j:Nat} (h:Qn n i=some j):seqIndex? i n=some j/\j<n/\-(n:Int)<=i/\i<n:=by
 unfold Qn at h
 by_cases h0:0<=i
 ·rw [if_pos h0] at h
  by_cases h1:i<n
  ·rw [if_pos h1] at h
   have e:i.toNat=j:=bJ h
   exact ⟨by rw [seqIndex_of h0 h1,e],by omega,by omega,h1⟩
  ·rw [if_neg h1] at h;cases h
 ·rw [if_neg h0] at h
  by_cases h1:-(n:Int)<=i
  ·rw [if_pos h1] at h
   have e:(i+n).toNat=j:=bJ h
   exact ⟨by rw [seqIndex_neg (by omega) h1,e],by omega,h1,by omega⟩
  ·rw [if_neg h1] at h;cases h
theorem AC {α:Type}{xs:List α}{i:Int}{v:α} (h:DF xs i=some v):∃ j,seqIndex? i xs.length=some j/\xs[j]?=some v/\j<xs.length/\-(xs.length:Int)<=i/\i<xs.length:=by
 unfold DF at h
 cases e:Qn xs.length i with
 |none=>rw [e] at h;cases h
 |some j =>
  rw [e] at h
  obtain ⟨h1,h2,h3,h4⟩:=Nf e
  exact ⟨j,h1,h,h2,h3,h4⟩
theorem o6 {α:Type}{xs:List α}{j:Nat}{v:α} (h:xs[j]?=some v):DF xs (j:Int)=some v:=by
 have hj:j<xs.length:=(List.getElem?_eq_some_iff.mp h).1
 have e:Qn xs.length (j:Int)=some j:=by
  unfold Qn
  rw [if_pos (by omega),if_pos (by omega)];simp
 unfold DF;rw [e];exact h
def wF (b:bc):Prop:=∀ o i,BJ b false o i=operate [o,i] (lT o i)
def RT (X:Cx) (r:R2):Prop :=
 ∀ (value slice:bc) (pins:List (ac×Obj)) (s:ag) (σ:St) (H:Hp) (x y:V) (v u:a9) (Q:VK),bv X pins σ H s->cU x v->cU y u->r x y H Q ->
  BJ slice false v u=operate [v,u] (lT v u)->aq (aD X.prog X.w) X.A (wx value slice v u) (EP X pins σ Q) X.xe s
def Uv (X:Cx) (id:String) (r:V->List V->Hp->VK->Prop):Prop :=
 ∀ (pins:List (ac×Obj)) (s:ag) (σ:St) (H:Hp) (x:V) (xs:List V) (v:a9) (us:List a9) (Q:VK),bv X pins σ H s->cU x v->cn xs us->r x xs H Q ->
  aq (aD X.prog X.w) X.A (call (.builtin id) (v::us)) (EP X pins σ Q) X.xe s
section
variable {X:Cx}{a b:bc}{ta tb:TE}{pos:Pos}
theorem OT {r:R2} (hr:RT X r) (ha:PE X a ta) (hb:PE X b tb) (hs:wF b):PE X (.Subscript a b pos) (RG r ta tb):=by
 intro pins s σ H Q I h
 exact DU (Qb ha hb I h fun v u s2 x y H2 I2 rx ry q=>hr a b pins s2 σ H2 x y v u Q I2 rx ry q (hs _ _))
inductive OU (K:a7) (x:V) (y:V) (H:Hp) (Q:VK):Prop
 |mk (p xs i v:_) (h0:x=.ref p) (h1:y=.int i) (h2:nY K H p xs) (h3:DF xs i=some v) (h4:Q v H):OU K x y H Q
def RU (K:a7):R2:=OU K
inductive OV (K:a7) (x:V) (y:V) (H:Hp) (Q:VK):Prop
 |mk (p xs i v:_) (h0:x=.ref p) (h1:y=.int i) (h2:j_ K H p xs) (h3:DF xs i=some v) (h4:Q v H):OV K x y H Q
def Uw (K:a7):R2:=OV K
inductive OW (x:V) (y:V) (H:Hp) (Q:VK):Prop
 |mk (z i c:_) (h0:x=.str z) (h1:y=.int i) (h2:z.length<=sizeLine) (h3:DF z.cps.toList i=some c) (h4:Q (.str ⟨#[c]⟩) H):OW  x y H Q
def Ux:R2:=OW
theorem wG:RT X (RU X.K):=by
 intro value slice pins s σ H x y v u Q I rx ry h hs
 obtain ⟨p,xs,i,z,rfl,rfl,hq,he,q⟩:=h
 cases rx
 obtain ⟨t,rfl⟩:=ry
 obtain ⟨its,r,pl,hz⟩:=I.list hq
 obtain ⟨j,h1,h2,h3,h4,h5⟩:=AC he
 obtain ⟨w,ew,rw'⟩:=r.get h2
 have hl:=r.length
 have hn:=uE
 have fin:EP X pins σ Q w s:=⟨z,H,I,rw',q⟩
 by_cases h0:0<=i
 ·have hj:i.toNat=j:=by
   rw [seqIndex_of h0 h5] at h1
   exact bJ h1
  exact item_listR pl.isList h0 (by omega) (by rw [hj];simpa using ew) fin hs
 ·have hj:(i+(its.toArray.size:Int)).toNat=j:=by
   rw [seqIndex_neg (by omega) h4] at h1
   rw [aC,<- hl]
   exact bJ h1
  exact IU (x:=w) pl.isList.typeIs slot_list_getitem.lookup
   (wpAny_getItem_list_neg (Q:=fun r s'=>r=w/\EP X pins σ Q r s') pl.isList (by omega) (by rw [aC]<;>omega) (by omega) (by rw [hj];simpa using ew) ⟨rfl,fin⟩) hs
theorem Qo:RT X (Uw X.K):=by
 intro value slice pins s σ H x y v u Q I rx ry h hs
 obtain ⟨p,xs,i,z,rfl,rfl,hq,he,q⟩:=h
 cases rx
 obtain ⟨t,rfl⟩:=ry
 obtain ⟨its,r,pl,hz⟩:=I.tuple hq
 obtain ⟨j,h1,h2,h3,h4,h5⟩:=AC he
 obtain ⟨w,ew,rw'⟩:=r.get h2
 have hl:=r.length
 have hn:=uE
 have fin:EP X pins σ Q w s:=⟨z,H,I,rw',q⟩
 exact IU (x:=w) pl.typeIs slot_tuple_getitem.lookup
  (getItem_tuple (j:=j) (Q:=fun r s'=>r=w/\EP X pins σ Q r s') pl (by omega) (by omega) (by rw [aC,<- hl];exact h1) (by simpa using ew) ⟨rfl,fin⟩) hs
theorem Qp:RT X Ux:=by
 intro value slice pins s σ H x y v u Q I rx ry h hs
 obtain ⟨z,i,c,rfl,rfl,hz,he,q⟩:=h
 obtain ⟨t,rfl⟩:=rx
 obtain ⟨t',rfl⟩:=ry
 obtain ⟨j,h1,h2,h3,h4,h5⟩:=AC he
 have hl:z.cps.toList.length=z.length:=by simp [Str.length]
 rw [hl] at h1 h4 h5
 have hn:=uE
 exact tail_any (typeIs_str s z t) slot_str_getitem.lookup (getItem_str (c:=c) (by
  have e1:decide (i < -(2 ^ 63:Int))=false:=decide_eq_false (by omega)
  have e2:decide (i ≥ 2 ^ 63)=false:=decide_eq_false (by omega)
  rw [e1,e2,Bool.or_false]) (by rw [h1];simpa using h2) ⟨.str ⟨#[c]⟩,H,I.tok _,⟨_,rfl⟩,q⟩) hs
theorem AD (lo hi:Option Int) (n:Nat):(lY lo hi none n).1=((HT.iu n 0 lo:Nat):Int)/\(lY lo hi none n).2.1=((HT.iu n n hi:Nat):Int)/\(lY lo hi none n).2.2=1:=by
 refine ⟨?_,?_,rfl⟩
 ·cases lo with
  |none=>simp [lY,HT.iu]
  |some i =>
   simp only [lY,HT.iu,fM,show (1:Int) > 0 by decide,if_true]
   by_cases h:i<0
   ·simp only [h,if_true]<;>omega
   ·simp only [h,if_false]<;>omega
 ·cases hi with
  |none=>simp [lY,HT.iu]
  |some i =>
   simp only [lY,HT.iu,fM,show (1:Int) > 0 by decide,if_true]
   by_cases h:i<0
   ·simp only [h,if_true]<;>omega
   ·simp only [h,if_false]<;>omega
theorem yJ (its:List a9) (lo hi:Option Int):slicePick its.toArray lo hi none=((its.drop (HT.iu its.length 0 lo)).take (HT.iu its.length its.length hi-HT.iu its.length 0 lo)).toArray:=by
 obtain ⟨h1,h2,h3⟩:=AD lo hi its.toArray.size
 unfold slicePick
 rw [h1,h2,h3]
 simp only [sliceRange_one,pick_run,aC]<;>rfl
def Uy (K:a7):V->Option Int->Option Int->Hp->VK->Prop:=fun x lo hi H Q=>∃ a xs,x=.ref a/\nY K H a xs/\∀ p,H p=none->Q (.ref p) (upd H p (.lst (C3 xs lo hi)))
theorem Ng:RQ X (Uy X.K):=by
 intro pins s σ H x v vl vu lo hi sl Q I rx hs pl pu h
 obtain ⟨a,xs,rfl,hx,q⟩:=h
 cases rx
 obtain ⟨its,r,ht,hz⟩:=I.list hx
 have hlen:=r.length
 refine ⟨"list",_,slot_list_getitem.lookup,ht.isList.typeIs,?_⟩
 refine wpAny_getItem_list_slice ht.isList hs pl pu .none (by simp) ?_ (by rw [aC]<;>omega)
 rw [yJ,<- hlen]
 refine ⟨.ref s.heap.objs.size,_,I.laid (t':=s.toks) (o:=.lst (C3 xs lo hi)) (fun b ob q=>ae _ q) (az _) ?_,rfl,q _ (I.hok.fresh (az _))⟩
 exact ⟨bT (vE xs lo hi) hz,_,0,(r.drop (HT.iu xs.length 0 lo)).take (HT.iu xs.length xs.length hi-HT.iu xs.length 0 lo),aA _ rfl⟩
def pV:V->Bool
 |.non=>true
 |.bl _=>true
 |.int _=>true
 |.str _=>true
 |_=>false
def Nh:V->V->Bool
 |.non,.non=>true
 |.bl a,.bl b=>a==b
 |.bl a,.int b=>(if a then 1 else 0)==b
 |.int a,.bl b=>a==(if b then 1 else 0)
 |.int a,.int b=>a==b
 |.str a,.str b=>a==b
 |_,_=>false
theorem Qq {A:bf}{s:ag}{y x:V}{u v:a9} (ry:cU y u) (rx:cU x v) (fy:pV y=true) (fx:pV x=true):Hb A s u v (Nh y x):=by
 cases y with
 |non =>
  cases ry
  cases x with
  |non=>cases rx;exact SeqAt.EqAt.same _
  |bl b=>cases rx;exact SeqAt.EqAt.none_bool b
  |int b=>obtain ⟨t,rfl⟩:=rx;exact SeqAt.EqAt.none_int b t
  |str b=>obtain ⟨t,rfl⟩:=rx;exact SeqAt.EqAt.none_str b t
  |_=>exact absurd (show false=true from fx) aM
 |bl a =>
  cases ry
  cases x with
  |non=>cases rx;exact SeqAt.EqAt.bool_none a
  |bl b=>cases rx;exact zu a b
  |int b=>obtain ⟨t,rfl⟩:=rx;exact SeqAt.EqAt.bool_int a b t
  |str b=>obtain ⟨t,rfl⟩:=rx;exact SeqAt.EqAt.bool_str a b t
  |_=>exact absurd (show false=true from fx) aM
 |int a =>
  obtain ⟨t',rfl⟩:=ry
  cases x with
  |non=>cases rx;exact SeqAt.EqAt.int_none a t'
  |bl b=>cases rx;exact SeqAt.EqAt.int_bool a t' b
  |int b=>obtain ⟨t,rfl⟩:=rx;exact SeqAt.EqAt.int_int a t' b t
  |str b=>obtain ⟨t,rfl⟩:=rx;exact BE a t' b t
  |_=>exact absurd (show false=true from fx) aM
 |str a =>
  obtain ⟨t',rfl⟩:=ry
  cases x with
  |non=>cases rx;exact SeqAt.EqAt.str_none a t'
  |bl b=>cases rx;exact SeqAt.EqAt.str_bool a t' b
  |int b=>obtain ⟨t,rfl⟩:=rx;exact BF a t' b t
  |str b=>obtain ⟨t,rfl⟩:=rx;exact SeqAt.EqAt.str_str a t' b t
  |_=>exact absurd (show false=true from fx) aM
 |_=>exact absurd (show false=true from fy) aM
def Eo (x:V) (u:a9):Bool:=match u with
 |.none=>Nh .non x
 |.bool b=>Nh (.bl b) x
 |.int i _=>Nh (.int i) x
 |.str z _=>Nh (.str z) x
 |_=>false
theorem Jw {x y:V}{u:a9} (r:cU y u) (f:pV y=true):Eo x u=Nh y x:=by
 cases y with
 |non=>cases r;rfl
 |bl b=>cases r;rfl
 |int i=>obtain ⟨t,rfl⟩:=r;rfl
 |str z=>obtain ⟨t,rfl⟩:=r;rfl
 |_=>exact absurd (show false=true from f) aM
theorem t4 {x:V}:∀ {xs:List V}{us:List a9},cn xs us->xs.all pV=true->us.any (Eo x)=xs.any fun y=>Nh y x
 |_,_,.nil,_=>rfl
 |y::xs,u::us,.cons r t,f=>by
  rw [sV,aJ] at f
  rw [eS,eS,Jw r f.1,t4 t f.2]
theorem pW {A:bf}{s:ag}{x:V}{v:a9} (rx:cU x v) (fx:pV x=true):∀ {xs:List V}{us:List a9},cn xs us->xs.all pV=true->∀ u∈us,Hb A s u v (Eo x u)
 |_,_,.nil,_=>fun u hu=>by cases hu
 |y::xs,u::us,.cons r t,f=>fun u' hu=>by
  rw [sV,aJ] at f
  rcases List.mem_cons.mp hu with rfl|hu
  ·rw [Jw r f.1];exact Qq r rx f.1 fx
  ·exact pW rx fx t f.2 u' hu
def TQ (x:V) (xs:List V):Bool:=xs.any fun y=>Nh y x
inductive RV (K:a7) (neg:Bool) (x:V) (y:V) (H:Hp) (Q:VK):Prop
 |mk (p xs:_) (h0:y=.ref p) (h1:(nY K H p xs\/j_ K H p xs)) (h2:pV x=true) (h3:xs.all pV=true) (h4:Q (.bl (if neg then !TQ x xs else TQ x xs)) H):RV K neg x y H Q
def Uz (K:a7) (neg:Bool):R2:=RV K neg
theorem Hu:pp X (bC .In) (Uz X.K false):=by
 intro pins s σ H x y v u Q I rx ry h
 obtain ⟨p,xs,rfl,hq,fx,fs,q⟩:=h
 cases ry
 rcases hq with hq|hq
 ·obtain ⟨its,r,pl,hz⟩:=I.list hq
  refine SeqAt.in_listAt (Eo x) pl.isList (fun w hw=>pW rx fx r fs w (by simpa using hw)) ⟨.bl _,H,I,rfl,?_⟩
  rw [show its.toArray.any (Eo x)=its.any (Eo x) by simp,t4 r fs]
  exact q
 ·obtain ⟨its,r,pl,hz⟩:=I.tuple hq
  refine SeqAt.in_tupleAt (Eo x) pl (fun w hw=>pW rx fx r fs w (by simpa using hw)) ⟨.bl _,H,I,rfl,?_⟩
  rw [show its.toArray.any (Eo x)=its.any (Eo x) by simp,t4 r fs]
  exact q
theorem AE:pp X (bC .NotIn) (Uz X.K true):=by
 intro pins s σ H x y v u Q I rx ry h
 obtain ⟨p,xs,rfl,hq,fx,fs,q⟩:=h
 cases ry
 rcases hq with hq|hq
 ·obtain ⟨its,r,pl,hz⟩:=I.list hq
  refine SeqAt.notIn_listAt (Eo x) pl.isList (fun w hw=>pW rx fx r fs w (by simpa using hw)) ⟨.bl _,H,I,rfl,?_⟩
  rw [show its.toArray.any (Eo x)=its.any (Eo x) by simp,t4 r fs]
  exact q
 ·obtain ⟨its,r,pl,hz⟩:=I.tuple hq
  refine SeqAt.notIn_tupleAt (Eo x) pl (fun w hw=>pW rx fx r fs w (by simpa using hw)) ⟨.bl _,H,I,rfl,?_⟩
  rw [show its.toArray.any (Eo x)=its.any (Eo x) by simp,t4 r fs]
  exact q
theorem t5:ji X (.builtin "len") (fun xs H Q=>∃ p ys,xs=[.ref p]/\(nY X.K H p ys\/j_ X.K H p ys)/\Q (.int ys.length) H):=by
 intro pins s σ H xs us Q I r h
 obtain ⟨p,ys,rfl,hq,q⟩:=h
 obtain ⟨u,rfl,rx⟩:=lm r
 cases rx
 have hn:=uE
 rcases hq with hq|hq
 ·obtain ⟨its,r',pl,hz⟩:=I.list hq
  have hlen:=r'.length
  exact Calls.call_len_list pl.isList (by simp only [aC]<;>omega) ⟨.int ys.length,H,I.tok _,⟨s.toks+1,by rw [aC,hlen]⟩,q⟩
 ·obtain ⟨its,r',pl,hz⟩:=I.tuple hq
  have hlen:=r'.length
  exact len_tuple pl (by simp only [aC]<;>omega) ⟨.int ys.length,H,I.tok _,⟨s.toks+1,by rw [aC,hlen]⟩,q⟩
theorem AF:ji X (.builtin "len") (fun xs H Q=>∃ z,xs=[.str z]/\z.length<=sizeLine/\Q (.int z.length) H):=by
 intro pins s σ H xs us Q I r h
 obtain ⟨z,rfl,hz,q⟩:=h
 obtain ⟨u,rfl,t,rfl⟩:=lm r
 have hn:=uE
 exact len_str (by omega) ⟨.int z.length,H,I.tok _,⟨_,rfl⟩,q⟩
theorem t6:ji X (.type "list") (fun xs H Q=>∃ p ys,xs=[.ref p]/\(nY X.K H p ys\/j_ X.K H p ys)/\∀ l,H l=none->Q (.ref l) (upd H l (.lst ys))):=by
 intro pins s σ H xs us Q I r h
 obtain ⟨p,ys,rfl,hq,q⟩:=h
 obtain ⟨u,rfl,rx⟩:=lm r
 cases rx
 have fin:∀ (its:List a9),cn ys its->ys.length<=sizeLine->∀ (h':br) (c':Nat),(∀ b o',s.heap.get? b=some o'->h'.get? b=some o') ->
   h'.get? s.heap.objs.size=some { cls:=.type "list",dict:=none,data:=.seq its.toArray c',slots:=#[] }->EP X pins σ Q (.ref s.heap.objs.size) { s with heap:=h' }:=fun its r' hz h' c' kp e =>
  ⟨.ref s.heap.objs.size,_,I.laid (t':=s.toks) kp (az _) (show dv X.prog X.w _ h' _ (.lst ys) from ⟨hz,its,c',r',e⟩),rfl,q _ (I.hok.fresh (az _))⟩
 rcases hq with hq|hq
 ·obtain ⟨its,r',pl,hz⟩:=I.list hq
  have hlen:=r'.length
  obtain ⟨o,ho,hc,n,hd⟩:=pl.isList
  exact call_list_seq p (.inl rfl) ho hc hd (fun h' c' kp e=>fin its r' hz h' c' kp e) (by simp only [aC]<;>omega)
 ·obtain ⟨its,r',pl,hz⟩:=I.tuple hq
  have hlen:=r'.length
  obtain ⟨o,ho,hc,n,hd⟩:=pl
  exact call_list_seq p (.inr rfl) ho hc hd (fun h' c' kp e=>fin its r' hz h' c' kp e) (by simp only [aC]<;>omega)
theorem r0:ji X (.type "tuple") (fun xs H Q=>∃ p ys,xs=[.ref p]/\((nY X.K H p ys/\∀ l,H l=none->Q (.ref l) (upd H l (.tup ys)))\/(j_ X.K H p ys/\Q (.ref p) H))):=by
 intro pins s σ H xs us Q I r h
 obtain ⟨p,ys,rfl,h⟩:=h
 obtain ⟨u,rfl,rx⟩:=lm r
 cases rx
 rcases h with ⟨hq,q⟩|⟨hq,q⟩
 ·obtain ⟨its,r',pl,hz⟩:=I.list hq
  have hlen:=r'.length
  refine call_tuple_list pl.isList (fun h' kp=>?_) (by simp only [aC]<;>omega)
  have I1:bv X pins σ H { s with heap:=h' }:=I.kept (t':=s.toks) kp
  have I2:bv X pins σ (upd H h'.objs.size (.tup ys)) { s with heap:=h'.push { cls:=.type "tuple",data:=.seq its.toArray } } :=
   I1.laid (t':=s.toks) (fun b o e=>ae _ e) (az _) (show dv X.prog X.w _ _ _ (.tup ys) from ⟨hz,its,r',vY _ _⟩)
  exact ⟨.ref h'.objs.size,_,I2,rfl,q _ (I1.hok.fresh (az _))⟩
 ·obtain ⟨its,r',pl,hz⟩:=I.tuple hq
  exact call_tuple_same pl ⟨.ref p,H,I,rfl,q⟩
def Vm (K:a7) (T:String) (x:V) (H:Hp):Prop:=match x with
 |.str _=>T="str"
 |.int _=>T="int"
 |.ref p=>(T="list"/\∃ xs,nY K H p xs)\/(T="tuple"/\∃ o,K.lookup p=some o/\o.cls=.type "tuple"/\o.dict=none) \/
   (T="dict"/\((∃ kvs,H p=some (.dK kvs))\/∃ kvs,H p=some (.dT kvs)))\/(T="set"/\∃ S n,H p=some (.set S n))
 |_=>False
theorem Qr {pins:List (ac×Obj)}{σ:St}{H:Hp}{s:ag}{T:String}{x:V}{v:a9} (I:bv X pins σ H s) (r:cU x v) (ty:Vm X.K T x H) :
  s.TypeIs v T/\∀ a,v=.ref a->∃ ob,s.heap.get? a=some ob/\ob.dict=none:=by
 cases x with
 |str z =>
  obtain ⟨t,rfl⟩:=r
  cases (show T="str" from ty)
  exact ⟨typeIs_str s z t,fun _ e=>nomatch e⟩
 |int i =>
  obtain ⟨t,rfl⟩:=r
  cases (show T="int" from ty)
  exact ⟨typeIs_int s i t,fun _ e=>nomatch e⟩
 |ref p =>
  cases r
  rcases ty with ⟨rfl,xs,hq⟩|⟨rfl,o,hk,hc,hd⟩|⟨rfl,hk⟩|⟨rfl,S,n,hk⟩
  ·obtain ⟨its,_,pl,_⟩:=I.list hq
   refine ⟨pl.isList.typeIs,fun a e=>?_⟩
   cases e
   obtain ⟨o,n,e,c,hd,_⟩:=pl
   exact ⟨o,e,hd⟩
  ·refine ⟨⟨o,I.kIn p o hk,hc⟩,fun a e=>?_⟩
   cases e
   exact ⟨o,I.kIn _ o hk,hd⟩
  ·have z:∃ o,s.heap.get? p=some o/\o.ExactDict:=by
    rcases hk with ⟨kvs,hk⟩|⟨kvs,hk⟩
    ·obtain ⟨_,_,_,_,o,_,_,e,ex,_⟩:=I.hok p _ hk
     exact ⟨o,e,ex⟩
    ·obtain ⟨_,_,_,_,o,_,_,e,ex,_⟩:=I.hok p _ hk
     exact ⟨o,e,ex⟩
   obtain ⟨o,e,ex⟩:=z
   refine ⟨⟨o,e,ex.1⟩,fun a e2=>?_⟩
   cases e2
   exact ⟨o,e,ex.2.1⟩
  ·obtain ⟨o,_,_,_,e,ex,_⟩:=I.hok p _ hk
   refine ⟨⟨o,e,ex.1⟩,fun a e2=>?_⟩
   cases e2
   exact ⟨o,e,ex.2.1⟩
 |_=>exact cY ty
def VU (K:a7) (T:String) (r:V->List V->Hp->VK->Prop) (to:TE) (t:TA):TE:=fun σ H Q=>to σ H fun x H1=>Vm K T x H1/\t σ H1 fun xs H2=>r x xs H2 Q
variable {o e:bc}{es:List bc}{to:TE}{t:TA}{name:Str}{apos cpos:Pos}{T id:String}{r:V->List V->Hp->VK->Prop}
theorem vF (pa:PlainAttrs T) (slot:Slot T name id) (hty:typeOf (.builtin id)=pure (.type "method_descriptor")) (hm:Uv X id r) (ho:PE X o to) (ha:PA X (e::es) t)
  (hbase:iq o name X.env (bY o X.env)=bY o X.env:=by rfl)
  (hfew:((da cpos (am (e::es) X.env)).all (fun x=>!x.1)&&(kr cpos (fP [] X.env)).all (fun x=>x.1.isSome)
   && decide ((e::es).length+([] : List nh).length+(if ([] : List nh).isEmpty then 0 else 1)<30))=true:=by rfl)
  (hline:(apos.endLine==cpos.line)=true:=by rfl) (hs:am (e::es) X.env=(false,bY e X.env)::am es X.env:=by rfl) (hplain:(da cpos (am es X.env)).any (·.1)=false:=by rfl) :
  PE X (.Call (.Attribute o name apos) (e::es) [] cpos) (VU X.K T r to t):=by
 intro pins s σ H Q I h
 refine wpAny_Call_method_late hbase hfew hline rfl (eR (ho pins s σ H _ I h) fun v s1 ⟨x,H1,I1,r1,ty,q1⟩=>?_)
 obtain ⟨h1,h2⟩:=Qr I1 r1 ty
 refine ⟨T,id,pa,slot,hty,h1,h2,?_⟩
 have hA:=ha cpos pins s1 σ H1 _ I1 q1
 rw [hs] at hA ⊢
 refine Calls.callWith_builtin (by show (false||(da cpos (am es X.env)).any (·.1))=false;rw [hplain]<;>rfl) (DV ?_)
 exact eR hA fun us s2 h_30=>by obtain ⟨vs,H2,I2,r2,q2⟩:=h_30;exact hm pins s2 σ H2 x vs v us Q I2 r1 r2 q2
end
end L2
namespace L2
open PySem PySem.Spec PyProof.Rows
def UA (X:Cx) (id:String) (r:V->List V->Hp->VK->Prop):Prop :=
 ∀ (pins:List (ac×Obj)) (s:ag) (σ:St) (H:Hp) (x:V) (xs:List V) (v:a9) (us:List a9) (Q:VK),bv X pins σ H s->cU x v->cn xs us->r x xs H Q ->
  aq (aD X.prog X.w) X.A (call (.builtin id) (v::us)) (EP X pins σ Q) X.xe s
theorem cn.one {x:V}{us:List a9} (h:cn [x] us):∃ u,us=[u]/\cU x u:=by
 cases h with|cons r t=>cases t;exact ⟨_,rfl,r⟩
theorem cn.rep {xs:List V}{us:List a9} (h:cn xs us):∀ k:Nat,cn (bD k xs).flatten (bD k us).flatten
 | 0=>.nil
 |k+1=>by
  rw [c_,c_,gY,gY]
  exact cn.append h (cn.rep h k)
theorem zK (its:List a9):∀ (k:Nat) (acc:List a9),
  IG (fun x1 x2=>x1++x2) acc.toArray (bD k its.toArray)=(acc++(bD k its).flatten).toArray
 | 0,acc=>by simp
 |k+1,acc=>by
  have e:acc.toArray++its.toArray=(acc++its).toArray:=by simp
  have e2:(acc++its)++(bD k its).flatten=acc++(bD (k+1) its).flatten:=by
   rw [c_,gY,vv]
  rw [<- e2,<- zK its k (acc++its),<- e,c_,yw]
section
variable {X:Cx}{pins:List (ac×Obj)}{σ:St}{H:Hp}{s:ag}{l b:ac}{xs ys zs:List V}
theorem bv.lset {its its':List a9}{n:Nat}{f:Array a9->Array a9}{t':Nat} (I:bv X pins σ H s) (hH:H l=some (.lst xs))
  (e:s.heap.get? l=some { cls:=.type "list",data:=.seq its.toArray n }) (hf:f its.toArray=its'.toArray) (hv:cn ys its') (hz:ys.length<=sizeLine) :
  bv X pins σ (upd H l (.lst ys)) { s with heap:=s.heap.update l (jg f),toks:=t' }:=by
 have q:=PySem.IsL.update e f
 rw [hf] at q
 refine I.write (x:=l) (e:=l) (by rw [hH];exact trivial) (.inl rfl) (fun b' u hb hu=>(pB s.heap (jg f) (eV hb)).trans hu) ⟨_,q⟩ ?_
 exact ⟨hz,its',_,hv,q⟩
theorem bv.lnew {its:List a9}{t':Nat} (I:bv X pins σ H s) (hv:cn ys its) (hz:ys.length<=sizeLine) :
  bv X pins σ (upd H s.heap.objs.size (.lst ys)) { s with heap:=s.heap.push { cls:=.type "list",data:=.seq its.toArray },toks:=t' } :=
 I.laid (fun _ _ q=>ae _ q) (az _) ⟨hz,its,0,hv,aA _ rfl⟩
theorem bv.fresh (I:bv X pins σ H s):H s.heap.objs.size=none:=I.hok.fresh (az _)
theorem bv.lstM (I:bv X pins σ H s) (hH:H l=some (.lst xs)):Vj s.heap l xs:=by
 obtain ⟨z,its,n,r,e⟩:=I.hok l _ hH
 exact ⟨z,its,n,r,r.length,e⟩
theorem xc {n:Nat} (h:n<=sizeLine):e_ n=false:=by
 unfold e_
 exact decide_eq_false (by omega)
end
section
variable {X:Cx}
inductive C4 (x:V) (vs:List V) (H:Hp) (Q:VK):Prop
 |mk (l xs y:_) (h0:x=.ref l) (h1:vs=[y]) (h2:H l=some (.lst xs)) (h3:xs.length<sizeLine) (h4:Q .non (upd H l (.lst (xs++[y])))):C4  x vs H Q
def Ni:V->List V->Hp->VK->Prop:=C4
theorem uH:UA X "list.append" Ni:=by
 intro pins s σ H x vs v us Q I rx rv h
 obtain ⟨l,xs,y,rfl,rfl,hH,hz,q⟩:=h
 cases rx
 obtain ⟨u,rfl,ru⟩:=rv.one
 obtain ⟨z,its,n,r,hl,e⟩:=I.lstM hH
 refine n_ F.slot_list_append ⟨_,e,rfl⟩ F.entry_list_append (F.args_list_append_2 _ _) (PySem.list_append l its.toArray n u (by rw [aC];omega)) ⟨e,?_⟩
 refine ⟨.non,_,I.lset (its':=its++[u]) hH e (by simp) (r.append (.cons ru .nil)) ?_,rfl,q⟩
 rw [a_,ki]
 omega
inductive C5 (x:V) (vs:List V) (H:Hp) (Q:VK):Prop
 |mk (l b xs zs:_) (h0:x=.ref l) (h1:vs=[.ref b]) (h2:H l=some (.lst xs)) (h3:H b=some (.lst zs)) (h4:xs.length+zs.length<=sizeLine) (h5:Q .non (upd H l (.lst (xs++zs)))):C5  x vs H Q
def Nj:V->List V->Hp->VK->Prop:=C5
theorem zL:UA X "list.extend" Nj:=by
 intro pins s σ H x vs v us Q I rx rv h
 obtain ⟨l,b,xs,zs,rfl,rfl,hH,hB,hz,q⟩:=h
 cases rx
 obtain ⟨u,rfl,ru⟩:=rv.one
 cases ru
 obtain ⟨z,its,n,r,hl,e⟩:=I.lstM hH
 obtain ⟨z2,its2,n2,r2,hl2,e2⟩:=I.lstM hB
 have hsz:its.toArray.size+its2.toArray.size<=sizeLine:=by rw [aC,aC];omega
 have hlong:¬ (!its.toArray.isEmpty&&e_ (its.toArray.size+its2.toArray.size))=true:=by
  rw [xc hsz,zv]
  exact aM
 refine n_ Mz ⟨_,e,rfl⟩ Mj (IV _ _)
  (AutoSeq1.list_extend_list_list_0 l its.toArray n b its2.toArray n2 hlong (by rw [aC];omega) (by omega)) ⟨e,e2,?_⟩
 refine ⟨.non,_,I.lset (its':=its++its2) hH e (by simp) (r.append r2) ?_,rfl,q⟩
 rw [a_]
 omega
def UB:R2:=fun x y H Q=>∃ l k xs,x=.ref l/\y=.int k/\H l=some (.lst xs)/\-(2 ^ 63)<=k/\k<2 ^ 63/\xs.length*k.toNat<=sizeLine /\
 ∀ p,H p=none->Q (.ref p) (upd H p (.lst (bD k.toNat xs).flatten))
theorem Nk {α:Type} (xs:List α) (k:Nat):(bD k xs).flatten.length=k*xs.length:=by
 induction k with
 |zero=>simp
 |succ k ih=>rw [c_,gY,a_,ih,Nat.succ_mul,Nat.add_comm]
theorem Qs:pp X (fN .Mult) UB:=by
 intro pins s σ H x y v u Q I rx ry h
 obtain ⟨l,k,xs,rfl,rfl,hH,h1,h2,hz,q⟩:=h
 cases rx
 obtain ⟨t,rfl⟩:=ry
 obtain ⟨z,its,n,r,hl,e⟩:=I.lstM hH
 have hlen:its.toArray.size*k.toNat<=sizeLine:=by rw [aC,<- hl];exact hz
 have hcap:¬ its.toArray.size*k.toNat > (2 ^ 63-1) / 8:=by
  have:(sizeLine:Nat)<=(2 ^ 63-1) / 8:=by decide
  omega
 have hfit:¬ (!Builtin.List.listFitsIndex k)=true:=by
  rw [fitsIndex_both h1 h2]
  exact aM
 have hlong:¬ e_ (its.toArray.size*k.toNat)=true:=by
  rw [xc hlen]
  exact aM
 have hnew:IG (fun x1 x2=>x1++x2) #[] (bD (if its.toArray.isEmpty=true then 0 else k.toNat) its.toArray)=(bD k.toNat its).flatten.toArray:=by
  have f0:∀ m:Nat,IG (fun x1 x2=>x1++x2) #[] (bD m its.toArray)=(bD m its).flatten.toArray:=fun m=>by
   have:=zK its m []
   rw [pO] at this
   exact this
  rw [f0]
  cases its with
  |nil=>simp
  |cons a r'=>rw [if_neg (by simp)]
 refine wpAny_binaryOp_repeat_ref (T:="list") (U:="int") (by decide) ⟨_,e,rfl⟩ (fun s'=>typeIs_int s' k t) noFill_list_mul F.fills_int_mul F.slot_int_rmul repeat_list F.slot_int_index.lookup
  (n_ F.slot_int_rmul (typeIs_int s k t) F.entry_int_rmul (F.args_int_rmul_2 _ _) (int___rmul___int_list k t l its.toArray n)
   ⟨e,rfl,⟨_,e,rfl⟩,n_ F.slot_list_mul ⟨_,e,rfl⟩ F.entry_list_mul (F.args_list_mul_2 _ _) (AutoListH.list___mul___list_int_3 l its.toArray n k t hfit hcap hlong) ⟨e,?_⟩⟩)
 rw [hnew]
 exact ⟨.ref _,_,I.lnew (t':=s.toks) (r.rep k.toNat) (by rw [Nk,Nat.mul_comm];exact hz),rfl,q _ I.fresh⟩
end
section
variable {prog:aR}{w:bh}{A:bf}{E:a9->ag->Prop}{s:ag}
end
section
variable {X:Cx}
end
end L2
namespace Att
open PySem PySem.W PySem.Calls PyProof.Rows
theorem w5 {P:Params}{h:br}:∀ (ns:List Int) (vs:List a9),WellAll P h vs (ns.map WData.int)->IW vs ns:=by
 intro ns
 induction ns with
 |nil =>
  intro vs w
  rw [fD] at w
  cases w
  exact .nil
 |cons n ns ih =>
  intro vs w
  rw [aT] at w
  cases w with
  |cons a b =>
   cases a
   exact .cons _ _ (ih _ b)
theorem Hv {l:OpenLaw}{n:Nat} (hn:l.most=some n) {P:Params}{h:br}{args:List WData}{vals:List a9}
  (hpre:l.row.toRowW.claim.pre args=true) (hwl:WellAll P h vals args) :
  ∃ a vs ns,vals=[bq a]/\args=[WData.list (ns.map WData.int)]/\h.get? a=some { cls:=.type "list",data:=.seq vs.toArray }/\IW vs ns/\ns.length<=n:=by
 have hsh:WShape.hasAll [] args [.list .int]=true:=(pre_splitW hpre).1
 have hc:l.pre.holds [] { args:=args }=true:=(pre_splitW hpre).2
 obtain ⟨d,r,rfl,h1,h2⟩:=hasAllW_cons hsh
 obtain rfl:=hasAllW_nil h2
 obtain ⟨xs,rfl,h3⟩:=hasW_list h1
 obtain ⟨ns,rfl⟩:=items_int h3
 have hlen:ns.length<=n:=by
  unfold OpenLaw.pre at hc
  have h4:(WTm.not (.lt (.lit (.int (n:Int))) (.len (.arg 0)))).holds [] { args:=[.list (ns.map .int)] }=true:=by
   have h4:=(holds_andW hc).1
   rw [hn] at h4
   exact h4
  have h5:=condW_of h4 (w_not (w_lt w_lit (w_len_list (w_arg rfl))))
  rw [aO] at h5
  refine MA fun q=>?_
  have q':(n:Int)<((ns.length:Nat):Int):=by omega
  first
   |(rw [decide_eq_true q'] at h5;exact absurd h5 (by decide))
   |(simp at h5;omega)
 cases hwl with
 |cons w1 w2 =>
  cases w2
  cases w1 with
  |list ho hall=>exact ⟨_,_,ns,rfl,rfl,ho,w5 ns _ hall,hlen⟩
theorem Hw (l:OpenLaw) (args:List WData):l.row.toRowW.claim.post args (.bool true) args=true :=
 postW_of (r:=l.row.toRowW) (X:=(true==true))
  (show WShape.has [] (.bool true) .bool=true by first|rfl|decide|simp [WShape.has,WShape.arms,WShape.armsAll])
  (show (WTm.eq .res (.lit (.bool true))).value [] { args:=args,res:=some (.bool true),after:=args }=some (.bool (true==true)) from w_eq_bool (w_res rfl) w_lit) rfl
theorem attach_call {l:OpenLaw}{n:Nat}{q:aR}{loose:List Str}{XP:(Str->Option a9)->br->Prop}{YP:bh->br->Prop}{d:DefRec}
  (hn:l.most=some n) (hdf:d.params.defaults=[])
  (call:∀ (w:bh) (s₀ s₁:ag) (mg mb:Str->Option a9) (fa:ac) (o:Obj) (pm cd doc:a9) (a:ac) (vs:List a9) (ns:List Int),
   Ground q loose [] XP w s₀ mg mb s₁.heap->YP w s₁.heap ->
   s₁.heap.get? fa=some o->o.data=.func (docDef d.name d.params d.body d.scope pm cd doc)->s₁.heap.CodeRec cd d.name->mg d.name=some (.ref fa) ->
   s₁.heap.get? a=some { cls:=.type "list",data:=.seq vs.toArray }->IW vs ns->ns.length<=n->s₁.gens=#[] ->
   fO (aD l.prog w) vw (.call (.ref fa) ⟨[.ref a],[]⟩) (fun r s'=>r=.ok (.ret (.bool true))/\OldK s₁.heap s'.heap/\s'.os=s₁.os/\pw s'.gens) s₁) :
  WalkO q loose XP YP l.row.toRowW d [] (fun f vs=>Hc f vs):=by
 intro w s₀ s₁ mg mb G Y fa o pm cd doc dV kV ho hd hcd hD hmg hg args vals as hpre hlay hrd hwl hlo
 obtain rfl:dV=.none:=Dflts.none hD hdf
 obtain rfl:kV=.none:=Dflts.noKw hD
 obtain ⟨a,vs,ns,rfl,rfl,hobj,hints,hlen⟩:=Hv hn hpre hwl
 refine enter_call (ku (call w s₀ s₁ mg mb fa o pm cd doc a vs ns G Y ho (fd_plain hd) hcd hmg hobj hints hlen hg) fun r s' hq=>?_)
 obtain ⟨rfl,h2,h3,h4⟩:=hq
 exact ⟨.inl ⟨.bool true,.bool true,[],rfl,fun _=>rfl,.bool true,Hw l _,fun _=>⟨zw,fun _ hm=>(nomatch hm)⟩⟩,h2,h3,h4⟩
section
variable {prog:aR}{w:bh}{A:bf}{E:a9->ag->Prop}{s:ag}{K:Frag}
def UC (h:br) (L d:ac):List (ac×Obj):=(bN h.objs.size).filterMap fun a=>if a=L\/a=d then none else (h.get? a).map fun o=>(a,o)
end
end Att
namespace L2
open PySem PySem.Spec PyProof.Rows
theorem Hx {vs:List a9}{ns:List Int} (h:IW vs ns):cn (ns.map V.int) vs:=by
 induction h with
 |nil=>exact .nil
 |cons n t h ih=>exact .cons ⟨t,rfl⟩ ih
def Qt (H:Hp):Prop:=∀ b,H b=none\/∃ o xs,H b=some (.frz o (.lst xs))
theorem Jx {P:aR}{w:bh}{K:a7}{mg mb:Str->Option a9}{CX:G1}{k:Nat}{fa a:ac}{fd:cP}{x:Str}{sp:Sp}{s₁:ag}{vs:List a9}{ns:List Int}
  (KX:K.In s₁.heap) (hns:s₁.heap.Ns ba mg) (hb:s₁.heap.Ns builtinsNs mb) (hbb:∀ x:Str,x≠"__name__"->mb x=gU x) (hlim:s₁.heap.NoLimit) (hg:s₁.gens=#[])
  (ha:s₁.heap.get? a=some { cls:=.type "list",data:=.seq vs.toArray }) (hi:IW vs ns) (hl:ns.length<=sizeLine) (hr:fX k vw)
  (F:∀ base:br,K.In base->base.Ns ba mg->l_ P w K mg base CX k fa fd [x] sp) (hbind:∀ (s:ag) (u:a9),vq s fd ⟨[u],[]⟩ [(x,u)])
  (hsp:∀ H:Hp,Qt H->nY K H a (ns.map V.int)->sp [.ref a] H (fun v _=>v=.bl true) fun _ _ _=>False)
  (hCX:∀ H e s',CX [] H s₁ (fun _ _ _=>False) e s'->False) :
  fO (aD P w) vw (.call (.ref fa) ⟨[.ref a],[]⟩) (fun r s'=>r=.ok (.ret (.bool true))/\OldK s₁.heap s'.heap/\s'.os=s₁.os/\pw s'.gens) s₁:=by
 have rv:=Hx hi
 have lenV:=hi.length
 have core:∀ H:Hp,Qt H->nY K H a (ns.map V.int)->pG P w H s₁.heap->(∀ b,H b≠none->b=a)->(H a≠none->K.lookup a=none) ->
   fO (aD P w) vw (.call (.ref fa) ⟨[.ref a],[]⟩) (fun r s'=>r=.ok (.ret (.bool true))/\OldK s₁.heap s'.heap/\s'.os=s₁.os/\pw s'.gens) s₁:=by
  intro H hO hS hok hA hK
  have base_of:∀ {b:ac}{o:Obj},s₁.heap.get? b=some o->H b=none->(Aw s₁.heap H).get? b=some o:=fun e n=>J4 e n
  have noA:∀ {b:ac}{o:Obj}{es:Array DictEntry}{ep:Nat},s₁.heap.get? b=some o->o.data=.dict es ep->H b=none:=fun {b o es ep} e d=>by
   cases q:H b with
   |none=>rfl
   |some u =>
    have e':b=a:=hA b (by rw [q];simp)
    subst e'
    rw [ha] at e;cases e
    have d':Data.seq vs.toArray _=Data.dict es ep:=d
    cases d'
  have nsK:∀ {b:ac}{m:Str->Option a9},s₁.heap.Ns b m->(Aw s₁.heap H).Ns b m:=fun {b m} ⟨o,es,ep,e,d,r⟩=>⟨o,es,ep,base_of e (noA e d),d,r⟩
  have hKb:K.In (Aw s₁.heap H):=fun b o e=>base_of (KX b o e) (by
   cases q:H b with
   |none=>rfl
   |some u =>
    have e':b=a:=hA b (by rw [q];simp)
    subst e'
    rw [hK (by rw [q];simp)] at e;cases e)
  have hM:Mod K mg (Aw s₁.heap H):=⟨hKb,nsK hns,⟨mb,nsK hb,hbb⟩,let ⟨mc,h1,h2⟩:=hlim;⟨mc,nsK h1,h2⟩⟩
  have e0:yI P w K mg (Aw s₁.heap H) vw [] s₁ H:=⟨rfl,hM,fun b o e=>MQ e,Nat.le_of_eq (Hk _ _),trivial,fun b hb=>absurd (show b∈([] : List ac) from hb) (by simp),hok,.of_eq hg⟩
  refine ku ((F _ hKb (nsK hns)).run vw [] s₁ H ⟨[.ref a],[]⟩ [.ref a] [.ref a] _ _ hr e0 (hbind s₁ (.ref a)) (.cons rfl .nil) (hsp H hO hS)) fun r s' h=>?_
  cases r with
  |error e=>exact (hCX H e s' h).elim
  |ok fl =>
   cases fl with
   |next=>exact cY h
   |brk=>exact cY h
   |cont=>exact cY h
   |ret u =>
    obtain ⟨v,H',os,bare,un,hok',r',q⟩:=h
    have q':v=.bl true:=q
    subst q'
    obtain rfl:u=g6 true:=r'
    refine ⟨rfl,OldK.of_keep fun b o e=>?_,os,bare⟩
    cases q:H b with
    |none=>exact un.keep b o e q (by intro z;exact absurd (show b∈([] : List ac) from z) (by simp)) (by simp)
    |some u =>
     rcases hO b with z|⟨ob,xs,z⟩
     ·rw [q] at z;cases z
     ·have z2:=un.frzs b ob _ z
      obtain ⟨e1,_⟩:=hok b _ z
      obtain ⟨e2,_⟩:=hok' b _ z2
      rw [e] at e1;cases e1
      exact e2
 cases hk:K.lookup a with
 |some o =>
  have e:=KX a o hk
  rw [ha] at e
  cases e
  refine core (fun _=>none) (fun _=>.inl rfl) (.inr ⟨_,vs.toArray,_,hk,rfl,rfl,rfl,by rw [aC,lenV];exact hl,by simpa using rv⟩) (fun b u z=>by have z':(none:Option HO)=some u:=z;cases z') (fun b z=>absurd rfl z) fun z=>absurd rfl z
 |none =>
  refine core (fun b=>if b=a then some (.frz { cls:=.type "list",data:=.seq vs.toArray } (.lst (ns.map V.int))) else none) (fun b=>?_) (.inl (.inr ⟨{ cls:=.type "list",data:=.seq vs.toArray },if_pos rfl⟩)) (fun b u z=>?_) (fun b z=>?_) fun _=>hk
  ·by_cases hb:b=a
   ·exact .inr ⟨_,_,if_pos hb⟩
   ·exact .inl (if_neg hb)
  ·by_cases hb:b=a
   ·have z':=(if_pos hb).symm.trans z
    cases z'
    subst hb
    exact ⟨ha,by rw [aO];exact hl,vs,_,rv,ha⟩
   ·have z':=(if_neg hb).symm.trans z
    cases z'
  ·by_cases hb:b=a
   ·exact hb
   ·exact absurd (if_neg hb) z
end L2
namespace L2
open PySem PySem.Spec PyProof.Rows
abbrev W2 {K:a7}{h:br} (_:K.In h):a7:=K
theorem Nl {l:vZ}{n k:Nat}{q:aR}{loose:List Str}{XP:(Str->Option a9)->br->Prop}{YP:bh->br->Prop}{d:DefRec}{K:Params->a7}{CX:bh->G1}{sp:bh->Sp}{x:Str}
  (hn:l.most=some n) (hn2:n<=sizeLine) (hdf:d.params.defaults=[]) (hr:fX k vw)
  (hY:∀ (w:bh) (h:br),YP w h->(K w.params).In h)
  (F:∀ (w:bh) (mg:Str->Option a9) (fa:ac) (h:br),(K w.params).In h->h.Ns ba mg->mg d.name=some (.ref fa) ->
   ∃ fd:cP,(∀ (s:ag) (u:a9),vq s fd ⟨[u],[]⟩ [(x,u)]) /\
    ∀ base:br,(K w.params).In base->base.Ns ba mg->l_ l.prog w (K w.params) mg base (CX w) k fa fd [x] (sp w))
  (hsp:∀ (w:bh) (H:Hp) (a:ac) (ns:List Int),ns.length<=n->Qt H->nY (K w.params) H a (ns.map V.int)->sp w [.ref a] H (fun v _=>v=.bl true) fun _ _ _=>False)
  (hCX:∀ (w:bh) (H:Hp) (s:ag) (e:a9) (s':ag),CX w [] H s (fun _ _ _=>False) e s'->False) :
  Ml q loose XP YP l.row.toRowW d [] (fun f vs=>Hc f vs):=by
 refine Att.attach_call hn hdf fun w s₀ s₁ mg mb fa o pm cd doc a vs ns G Y ho hd hcd hmg hobj hints hlen hg=>?_
 have KX:=hY w _ Y
 obtain ⟨fd,hb,hF⟩:=F w mg fa _ KX G.T.g hmg
 exact Jx KX G.T.g G.T.b G.T.builtins G.T.nolimit hg hobj hints (bT hlen hn2) hr hF hb (fun H hO hS=>hsp w H a ns hlen hO hS) fun H e s'=>hCX w H s₁ e s'
end L2
namespace L2
open PySem PySem.Spec PyProof.Rows
def jk (s:c8) (j:Nat):c8:=match s with
 |.ClassDef _ _ _ body _ _ _ _ _ _ _=>body.getD j (.Pass ⟨0,0,0,0⟩)
 |_=>.Pass ⟨0,0,0,0⟩
def iN (s:c8):Arguments:=match s with
 |.FunctionDef _ a _ _ _ _ _ _ _ _=>a
 |_=>{ posonlyargs:=[],args:=[],vararg:=none,kwonlyargs:=[],kw_defaults:=[],kwarg:=none,defaults:=[] }
def eJ (s:c8):List c8:=match s with
 |.FunctionDef _ _ b _ _ _ _ _ _ _=>b
 |_=>[]
def ap (s:c8):eY:=match s with
 |.FunctionDef _ _ _ _ _ _ sc _ _ _=>sc
 |_=>{ kind:=.function,names:=[],isGenerator:=false,isCoroutine:=false }
abbrev Vn:G1:=fun _ _ _ _ _ _=>False
abbrev E0:XK:=fun _ _ _=>False
structure yy (K:a7) (x qual:Str) (st:c8) (f:ac) (fd:cP):Prop where
 ex:∃ (oc:a9) (od:Option ac) (kV doc pm:a9) (an:Option ac) (cdv ct:a9) (osl:Array (Option a9)),
  fd=dh x qual (iN st) (eJ st) (ap st) .none kV doc pm an cdv ct/\K.lookup f=some ⟨oc,od,.func fd,osl⟩/\gX K cdv qual=true
 kp:bQ K (.ref f)=true
section
variable {P:aR}{w:bh}{K:a7}{mg:Str->Option a9}{base:br}
theorem yy.binds {x qual:Str}{st:c8}{f:ac}{fd:cP}{ps:List Str} (F:yy K x qual st f fd)
  (h:∀ (kV doc pm:a9) (an:Option ac) (cdv ct:a9) (us:List a9),us.length=ps.length->DP (dh x qual (iN st) (eJ st) (ap st) .none kV doc pm an cdv ct) ⟨us,[]⟩=pure (ps.zip us)):fo K fd ps []:=by
 obtain ⟨oc,od,kV,doc,pm,an,cdv,ct,osl,rfl,lk,hcd⟩:=F.ex
 exact .all (h kV doc pm an cdv ct)
theorem Ep {x qual:Str}{st:c8}{f:ac}{oc:a9}{od an:Option ac}{osl:Array (Option a9)}{kV doc pm cdv ct:a9} (l:K.lookup f=some ⟨oc,od,.func (dh x qual (iN st) (eJ st) (ap st) .none kV doc pm an cdv ct),osl⟩)
  (c:gX K cdv qual=true) (k:bQ K (.ref f)=true):yy K x qual st f (dh x qual (iN st) (eJ st) (ap st) .none kV doc pm an cdv ct):=⟨⟨oc,od,kV,doc,pm,an,cdv,ct,osl,rfl,l,c⟩,k⟩
end
theorem jl {A:bf}{k:Nat} (hr:fX k A):A.units+1<qS:=uq (Nat.add_le_add_left (by decide:1<=64) _) hr.units
theorem bU {n:Nat} (h:n<=1000):n<sizeLine:=uq h (by decide)
section
variable {X:Cx}
theorem pv (i:Nat) {x:Str}{pos:Pos} (hN:X.N[i]?=some x:=by rfl) (hv:MS X.env.scope x:=by first|exact i5 rfl|exact eW (i5 rfl)|exact eW (eW rfl)) (hd:(x==("__debug__" : Str))=false:=by decide)
  (hcd:(x==("__classdict__" : Str))=false:=by decide):PE X (.Name x pos) (w4 i):=pT hN hv hd hcd
end
theorem AG {A B:Prop} (h:B):if false=true then A else B:=by
 rw [if_neg aM]
 exact h
theorem Es {A B:Prop} (h:A):if true=true then A else B:=by
 rw [if_pos rfl]
 exact h
def df (H H':Hp):Prop:=∀ b o,H b=some o->H' b=some o
theorem df.refl (H:Hp):df H H:=fun _ _ h=>h
theorem df.trans {H H1 H2:Hp} (a:df H H1) (b:df H1 H2):df H H2:=fun c o h=>b c o (a c o h)
theorem df.free {H H':Hp} (e:df H H') {l:ac} (h:H' l=Option.none):H l=Option.none:=by
 cases q:H l with
 |none=>rfl
 |some o =>
  rw [e l o q] at h
  cases h
theorem df.seq {K:a7}{H H':Hp}{a:ac}{xs:List V} (e:df H H') (h:nY K H a xs):nY K H' a xs:=by
 rcases h with (h|⟨o,h⟩)|h
 ·exact .inl (.inl (e _ _ h))
 ·exact .inl (.inr ⟨o,e _ _ h⟩)
 ·exact .inr h
end L2
end
section
namespace L2
open PySem PySem.Spec PyProof.Rows
section
variable {κ:Type} [DecidableEq κ]
def tf (kvs:List (κ×V)) (k:κ):Option V:=(kvs.find? fun kv=>decide (kv.1=k)).map (·.2)
def uI (kvs:List (κ×V)) (k:κ) (v:V):List (κ×V) :=
 if (kvs.any fun kv=>decide (kv.1=k))=true then kvs.map (fun kv=>if kv.1=k then (kv.1,v) else kv) else kvs++[(k,v)]
def Jy (kvs:List (κ×V)) (k:κ):List (κ×V):=kvs.filter fun kv=>decide (kv.1≠k)
theorem xg {p:κ×V}{r:List (κ×V)}{k:κ} (e:p.1=k):tf (p::r) k=some p.2:=by simp [tf,eF,e]
theorem xh {p:κ×V}{r:List (κ×V)}{k:κ} (e:¬ p.1=k):tf (p::r) k=tf r k:=by simp [tf,eF,e]
theorem C6 (k:κ):∀ kvs:List (κ×V),(kvs.any fun kv=>decide (kv.1=k))=(tf kvs k).isSome
 |[]=>rfl
 |p::r=>by
  rw [eS]
  by_cases e:p.1=k
  ·simp only [xg e,decide_eq_true e,Bool.true_or,sL]
  ·rw [xh e,decide_eq_false e,sW];exact C6 k r
theorem vG (kvs:List (κ×V)) (k:κ) (v:V):(uI kvs k v).length<=kvs.length+1:=by
 unfold uI
 split
 ·rw [aO];omega
 ·rw [a_,bt,gI];omega
theorem qU.isSome_eq {o:Option V}{u:Option a9} (r:qU o u):o.isSome=u.isSome:=by
 cases o with
 |none=>cases u with
  |none=>rfl
  |some _=>exact (show False from r).elim
 |some _=>cases u with
  |none=>exact (show False from r).elim
  |some _=>rfl
theorem KV.val {kvs:List (κ×V)}{vs:List (κ×a9)} (r:KV kvs vs) (k:κ):qU (tf kvs k) (yC vs k):=by
 unfold KV at r
 induction r with
 |nil=>exact gq
 | @cons p q ps qs h t ih =>
  obtain ⟨h1,h2⟩:=h
  by_cases e:p.1=k
  ·have e':q.1=k:=h1.symm.trans e
   have b:yC (q::qs) k=some q.2:=by simp [yC,eF,e']
   rw [xg e,b];exact h2
  ·have e':¬ q.1=k:=fun z=>e (h1.trans z)
   have b:yC (q::qs) k=yC qs k:=by simp [yC,eF,e']
   rw [xh e,b];exact ih
theorem KV.any {kvs:List (κ×V)}{vs:List (κ×a9)} (r:KV kvs vs) (k:κ):(kvs.any fun kv=>decide (kv.1=k))=vs.any fun kv=>decide (kv.1=k):=by
 unfold KV at r
 induction r with
 |nil=>rfl
 |cons h t ih=>rw [eS,eS,ih,h.1]
theorem KV.repl {kvs:List (κ×V)}{vs:List (κ×a9)} (r:KV kvs vs) (k:κ) {y:V}{u:a9} (ry:cU y u) :
  KV (kvs.map fun kv=>if kv.1=k then (kv.1,y) else kv) (vs.map fun kv=>if kv.1=k then (kv.1,u) else kv):=by
 unfold KV at r ⊢
 induction r with
 |nil=>exact .nil
 | @cons p q ps qs h t ih =>
  rw [aT,aT]
  refine .cons ?_ ih
  obtain ⟨h1,h2⟩:=h
  by_cases e:p.1=k
  ·rw [if_pos e,if_pos (h1.symm.trans e)];exact ⟨h1,ry⟩
  ·rw [if_neg e,if_neg (fun z=>e (h1.trans z))];exact ⟨h1,h2⟩
theorem KV.put {kvs:List (κ×V)}{vs:List (κ×a9)} (r:KV kvs vs) (k:κ) {y:V}{u:a9} (ry:cU y u):KV (uI kvs k y) (stored vs k u):=by
 unfold uI stored
 rw [r.any k]
 by_cases e:(vs.any fun kv=>decide (kv.1=k))=true
 ·rw [if_pos e,if_pos e];exact r.repl k ry
 ·rw [if_neg e,if_neg e];exact Paired.snoc r ⟨rfl,ry⟩
theorem KV.length {kvs:List (κ×V)}{vs:List (κ×a9)} (r:KV kvs vs):kvs.length=vs.length:=n5 r
end
theorem G6 {P:aR}{w:bh}{k:fU}{u:a9} (r:cU (kV k) u):(fV P w).is k u=true:=by
 cases k with
 |inl i=>obtain ⟨t,e⟩:=(show ∃ t,u=lS i t from r);subst e;exact BW P w i t
 |inr x=>obtain ⟨t,e⟩:=(show ∃ t,u=jb x t from r);subst e;exact BX P w x t
theorem zM {P:aR}{w:bh}:∀ {ks:List fU}{us:List a9},cn (ks.map kV) us->ItemsAre (fV P w) ks us
 |[],_,r=>by rw [fD] at r;cases r;exact .nil
 |k::ks,_,r=>by
  rw [aT] at r
  cases r with
  |cons h t=>exact .cons (G6 h) (zM t)
abbrev KT (H:Hp):List (List fU×V)->List (List fU×ac×a9)->Prop:=IT fun p q=>p.1=q.1/\H q.2.1=some (.tup (p.1.map kV))/\cU p.2 q.2.2
theorem KT.val {H:Hp}{kvs:List (List fU×V)}{xs:List (List fU×ac×a9)} (r:KT H kvs xs) (k:List fU):qU (tf kvs k) ((DW xs k).map (·.2)):=by
 induction r with
 |nil=>exact gq
 | @cons p q ps qs h t ih =>
  obtain ⟨h1,_,h2⟩:=h
  by_cases e:p.1=k
  ·have e':q.1=k:=h1.symm.trans e
   have b:DW (q::qs) k=some q.2:=by simp [DW,eF,e']
   rw [xg e,b];exact h2
  ·have e':¬ q.1=k:=fun z=>e (h1.trans z)
   have b:DW (q::qs) k=DW qs k:=by simp [DW,eF,e']
   rw [xh e,b];exact ih
theorem KT.repl {H:Hp}{kvs:List (List fU×V)}{xs:List (List fU×ac×a9)} (r:KT H kvs xs) (k:List fU) {y:V}{u:a9} (ry:cU y u) :
  KT H (kvs.map fun kv=>if kv.1=k then (kv.1,y) else kv) (xs.map (putAt k u)):=by
 induction r with
 |nil=>exact .nil
 | @cons p q ps qs h t ih =>
  rw [aT,aT]
  refine .cons ?_ ih
  obtain ⟨h1,h2,h3⟩:=h
  unfold putAt
  by_cases e:p.1=k
  ·rw [if_pos e,if_pos (h1.symm.trans e)];exact ⟨h1,h2,ry⟩
  ·rw [if_neg e,if_neg (fun z=>e (h1.trans z))];exact ⟨h1,h2,h3⟩
theorem KT.put {H:Hp}{kvs:List (List fU×V)}{xs:List (List fU×ac×a9)} (r:KT H kvs xs) (k:List fU) {b:ac}{y:V}{u:a9} (hb:H b=some (.tup (k.map kV))) (ry:cU y u) :
  KT H (uI kvs k y) (storedH xs k b u):=by
 have e:(kvs.any fun kv=>decide (kv.1=k))=(DW xs k).isSome:=by
  rw [C6,(r.val k).isSome_eq,Hd]
 unfold uI storedH
 rw [e]
 by_cases q:(DW xs k).isSome=true
 ·rw [if_pos q,if_pos q];exact r.repl k ry
 ·rw [if_neg q,if_neg q];exact Paired.snoc r ⟨rfl,hb,ry⟩
theorem KT.keeps {H H':Hp}{kvs:List (List fU×V)}{xs:List (List fU×ac×a9)} (r:KT H kvs xs) (ht:∀ b ys,H b=some (.tup ys)->H' b=some (.tup ys)):KT H' kvs xs :=
 Paired.mapP r fun _ _ z=>⟨z.1,ht _ _ z.2.1,z.2.2⟩
section
variable {P:aR}{w:bh}{H:Hp}{h:br}{a:ac}
theorem OX {u:HO} (ok:pG P w H h) (e:Rd H a u):dv P w H h a u:=e.ok ok
theorem G7 {kvs:List (fU×V)} (ok:pG P w H h) (e:Rd H a (.dK kvs)):kvs.length<=sizeLine/\(a==gT)=false/\∃ vs,KV kvs vs/\h.DictOf (fV P w) a vs :=
 show dv P w H h a (.dK kvs) from OX ok e
theorem RW {kvs:List (fU×V)} (ok:pG P w H h) (e:H a=some (.dK kvs)):kvs.length<=sizeLine/\(a==gT)=false/\∃ vs,KV kvs vs/\h.DictOf (fV P w) a vs:=G7 ok (.inl e)
theorem AH {ks:List fU} (ok:pG P w H h) (e:H a=some (.tup (ks.map kV))):(As (fV P w)).is h ks a:=by
 obtain ⟨_,its,r,o,h1,h2,n,h3⟩:=(show dv P w H h a (.tup (ks.map kV)) from ok a _ e)
 exact ⟨o,its.toArray,n,h1,h2,h3,by simpa using zM r⟩
theorem G8 {kvs:List (List fU×V)} (ok:pG P w H h) (e:Rd H a (.dT kvs)):kvs.length<=sizeLine/\(a==gT)=false /\
  ∃ xs,KT H kvs xs/\h.DictOfH (As (fV P w)) a xs:=by
 obtain ⟨z,y,xs,r,o,es,ep,h1,h2,h3,h4,h5⟩:=(show dv P w H h a (.dT kvs) from OX ok e)
 refine ⟨z,y,xs,r,o,es,ep,h1,h2,h3,h4,fun x hx=>?_,h5⟩
 have all:∀ {l:List (List fU×V)}{m:List (List fU×ac×a9)},KT H l m->∀ x∈m,(As (fV P w)).is h x.1 x.2.1:=by
  intro l m q
  induction q with
  |nil=>intro x hx;exact nomatch hx
  | @cons p q ps qs hq t ih =>
   intro x hx
   rcases List.mem_cons.mp hx with e|hx
   ·subst e
    exact AH ok (by rw [<- hq.1];exact hq.2.1)
   ·exact ih x hx
 exact all r x hx
theorem RX {kvs:List (List fU×V)} (ok:pG P w H h) (e:H a=some (.dT kvs)):kvs.length<=sizeLine/\(a==gT)=false /\
  ∃ xs,KT H kvs xs/\h.DictOfH (As (fV P w)) a xs:=G8 ok (.inl e)
end
def Et (H:Hp) (a:ac) (y:V) (r:Option V):Prop :=
 (∃ kvs k,Rd H a (.dK kvs)/\y=kV k/\r=tf kvs k)\/∃ kvs k b,Rd H a (.dT kvs)/\y=.ref b/\H b=some (.tup (k.map kV))/\r=tf kvs k
def Jz (H:Hp) (a:ac) (y v:V) (H':Hp):Prop :=
 (∃ kvs k,H a=some (.dK kvs)/\y=kV k/\kvs.length<sizeLine/\H'=upd H a (.dK (uI kvs k v))) \/
 ∃ kvs k b,H a=some (.dT kvs)/\y=.ref b/\H b=some (.tup (k.map kV))/\kvs.length<sizeLine/\H'=upd H a (.dT (uI kvs k v))
theorem Et.k {H:Hp}{a:ac}{kvs:List (fU×V)}{k:fU} (e:H a=some (.dK kvs)):Et H a (kV k) (tf kvs k):=.inl ⟨kvs,k,.inl e,rfl,rfl⟩
theorem Jz.k {H:Hp}{a:ac}{kvs:List (fU×V)}{k:fU}{v:V} (e:H a=some (.dK kvs)) (hl:kvs.length<sizeLine):Jz H a (kV k) v (upd H a (.dK (uI kvs k v))):=.inl ⟨kvs,k,e,rfl,hl,rfl⟩
section
variable {X:Cx}{pins:List (ac×Obj)}{σ:St}{H:Hp}{s:ag}{a:ac}{y v:V}{u r:a9}{o:Option V}{A:bf}{E:a9->ag->Prop}
theorem bv.big (I:bv X pins σ H s):gT<s.heap.objs.size:=by
 have h:ba<s.heap.objs.size:=(I.mod.glob.keeps I.bk).lt
 exact Nat.lt_trans (by decide) h
theorem Hy {Q:a9->ag->Prop} (hu:A.units+1<qS) (I:bv X pins σ H s) (g:Et H a y (some v)) (ry:cU y u) (h:∀ w' s',bv X pins σ H s'->cU v w'->Q w' s') :
  aq (aD X.prog X.w) A (lT (.ref a) u) Q E s:=by
 rcases g with ⟨kvs,k,e,ey,l⟩|⟨kvs,k,b,e,ey,eb,l⟩
 ·subst ey
  obtain ⟨z,hd,vs,rel,dd⟩:=G7 I.hok e
  obtain ⟨w',hw,rw'⟩:=qU.some_of (v:=v) (o:=yC vs k) (by rw [l];exact rel.val k)
  exact wpAny_getItem_of (G6 ry) dd.mapOf hw (h w' _ (I.tok _) rw')
 ·subst ey
  cases (show u=bq b from ry)
  obtain ⟨z,hd,xs,rel,dd⟩:=G8 I.hok e
  obtain ⟨w',hw,rw'⟩:=qU.some_of (v:=v) (o:=(DW xs k).map (·.2)) (by rw [l];exact rel.val k)
  obtain ⟨p,hp,hp2⟩:=Option.map_eq_some_iff.mp hw
  refine wpAny_getItem_heap (wU hu) (AH I.hok eb) dd hp ?_
  rw [hp2]
  exact h w' _ (I.tok _) rw'
theorem d_in {Q:a9->ag->Prop} (hu:A.units+1<qS) (I:bv X pins σ H s) (g:Et H a y o) (ry:cU y u) (h:∀ s',bv X pins σ H s'->Q (.bool o.isSome) s') :
  aq (aD X.prog X.w) A (bC .In u (.ref a)) Q E s:=by
 rcases g with ⟨kvs,k,e,ey,l⟩|⟨kvs,k,b,e,ey,eb,l⟩
 ·subst ey
  obtain ⟨z,hd,vs,rel,dd⟩:=G7 I.hok e
  refine wpAny_in_of (G6 ry) hd dd.mapOf ?_
  rw [<- (rel.val k).isSome_eq,<- l]
  exact h _ (I.tok _)
 ·subst ey
  cases (show u=bq b from ry)
  obtain ⟨z,hd,xs,rel,dd⟩:=G8 I.hok e
  refine wpAny_in_heap (wU hu) (AH I.hok eb) hd dd ?_
  have q:=(rel.val k).isSome_eq
  rw [Hd] at q
  rw [<- q,<- l]
  exact h _ (I.tok _)
theorem G9 {h':br}{t':Nat}{ob:HO} (I:bv X pins σ H s) (mu:Rw (H a)) (hs:bW a s.heap h') (he:∃ q,h'.get? a=some q) (new:dv X.prog X.w (upd H a ob) h' a ob) :
  bv X pins σ (upd H a ob) { s with heap:=h',toks:=t' } :=
 I.write (x:=a) (e:=a) mu (.inl rfl) (fun b q hb z=>(hs.2 b hb).trans z) he new
theorem Qu {P:aR}{w:bh}{H':Hp}{h':br}{kvs:List (fU×V)}{vs:List (fU×a9)} (z:kvs.length<=sizeLine) (hd:(a==gT)=false) (rel:KV kvs vs) (dd:h'.DictOf (fV P w) a vs) :
  dv P w H' h' a (.dK kvs):=⟨z,hd,vs,rel,dd⟩
theorem Hz {H':Hp}{Q:Unit->ag->Prop} (hu:A.units+1<qS) (I:bv X pins σ H s) (g:Jz H a y v H') (ry:cU y u) (rv:cU v r) (h:∀ s',bv X pins σ H' s'->Q () s') :
  aq (aD X.prog X.w) A (setItem (.ref a) u r) Q E s:=by
 rcases g with ⟨kvs,k,e,ey,l,eH⟩|⟨kvs,k,b,e,ey,eb,l,eH⟩
 ·subst ey eH
  obtain ⟨z,hd,vs,rel,dd⟩:=RW I.hok e
  have hz:vs.length<=sizeLine:=by rw [<- rel.length];exact z
  have hl:(uI kvs k v).length<=sizeLine:=by have:=vG kvs k v;omega
  refine wpAny_setItem_pairs (hsz:=hz) (G6 ry) dd fun h' dd' hs=>h _ ?_
  have he:∃ q,h'.get? a=some q:=let ⟨q,_,_,hq,_⟩:=dd';⟨q,hq⟩
  exact G9 I (by rw [e];exact gq) hs he (Qu hl hd (rel.put k rv) dd')
 ·subst ey eH
  cases (show u=bq b from ry)
  obtain ⟨z,hd,xs,rel,dd⟩:=RX I.hok e
  have hz:xs.length<=sizeLine:=by rw [<- n5 rel];exact z
  have hl:(uI kvs k v).length<=sizeLine:=by have:=vG kvs k v;omega
  refine wpAny_setItem_heap (hsz:=hz) (wU hu) (AH I.hok eb) dd fun h' dd' hs=>h _ ?_
  obtain ⟨q,es,ep,hq,h2,h3,h4,_,h5⟩:=dd'
  refine G9 I (by rw [e];exact gq) hs ⟨q,hq⟩ ⟨hl,hd,_,(rel.put k eb rv).keeps fun c ys ec=>?_,q,es,ep,hq,h2,h3,h4,h5⟩
  rw [av (Rv ec e (fun z=>nomatch z))]
  exact ec
end
section
variable {X:Cx}{pins:List (ac×Obj)}{σ:St}{H:Hp}{s:ag}{a:ac}{kvs:List (fU×V)}{k:fU}{u:a9}{A:bf}{E:a9->ag->Prop}
end
def RY (i:bc):Prop:=∀ ov iv,BJ i false ov iv=operate [ov,iv] (lT ov iv)
theorem Nm {prog:aR}{w:bh}{A:bf}{E:a9->ag->Prop}{s:ag}{env:Env}{value slice:bc}{pos:Pos}{T id:String}{Q:a9->ag->Prop}
  (hl:DT (.type T) "__getitem__"=pure (some (.builtin id))) (hs:RY slice)
  (h:aq (aD prog w) A (bY value env) (fun o s₁=>aq (aD prog w) A (bY slice env) (fun i s₂=>s₂.TypeIs o T/\aq (aD prog w) A (lT o i) Q E s₂) E s₁) E s) :
  aq (aD prog w) A (bY (.Subscript value slice pos) env) Q E s:=by
 refine DU (cc h (fun o s₁ h₁=>cc h₁ (fun i s₂ h₂=>?_) fun _ _ x=>x) fun _ _ x=>x)
 obtain ⟨hT,h₂⟩:=h₂
 unfold wx
 refine a6 ?_
 rw [getitemInPython_of_ne hT.not_modules]
 refine a6 (wpAny_specialOf hT hl ?_)
 have fin:aq (aD prog w) A (BJ slice false o i) (fun r s₃=>aq (aD prog w) A (letTemporaryGo value o r >>= fun _=>pure r) Q E s₃) E s₂:=by
  rw [hs o i]
  exact wpAny_operating (cc h₂ (fun r s₃ h₃=>a6 (wpAny_letTemporaryGo (aa h₃))) fun _ _ x=>x)
 first
  |exact aa (a6 fin)
  |exact a6 (aa (a6 fin))
  |exact a6 fin
theorem C7 {X:Cx}{pins:List (ac×Obj)}{σ:St}{H:Hp}{s:ag}{a:ac}{y:V}{o:Option V} (I:bv X pins σ H s) (g:Et H a y o):s.TypeIs (.ref a) "dict":=by
 rcases g with ⟨kvs,k,e,_,_⟩|⟨kvs,k,b,e,_,_,_⟩
 ·obtain ⟨_,_,vs,_,dd⟩:=G7 I.hok e
  exact dd.typeIs
 ·obtain ⟨_,_,xs,_,dd⟩:=G8 I.hok e
  exact dd.typeIs
def RZ (td ty:TE):TE:=fun σ H Q=>td σ H fun x H1=>ty σ H1 fun y H2=>∃ a v,x=.ref a/\Et H2 a y (some v)/\Q v H2
def OY (td ty tv:TE):TS:=fun D σ H=>tv σ H fun v H1=>td σ H1 fun x H2=>ty σ H2 fun y H3=>∃ a H4,x=.ref a/\Jz H3 a y v H4/\D.nx σ H4
section
variable {X:Cx}{o i e value:bc}{pos pos' tpos:Pos}{td ty tv:TE}
theorem No (hu:X.A.units+1<qS) (ho:PE X o td) (hi:PE X i ty) (hs:RY i):PE X (.Subscript o i pos) (RZ td ty):=by
 intro pins s σ H Q I h
 refine Nm PySem.F.slot_dict_getitem.lookup hs (eR (ho pins s σ H _ I h) fun u s1 ⟨x,H1,I1,rx,q1⟩=>eR (hi pins s1 σ H1 _ I1 q1) fun iv s2 ⟨y,H2,I2,ry,a,v,ex,g,q2⟩=>?_)
 subst ex
 obtain rfl:u=bq a:=rx
 exact ⟨C7 I2 g,Hy hu I2 g ry fun w' s3 I3 rw'=>⟨v,H2,I3,rw',q2⟩⟩
theorem Np (hu:X.A.units+1<qS) (ho:PE X o td) (hi:PE X i ty) (hv:PE X value tv) (hs:fm value (some (.Subscript o i pos')) pos.line X.env=pure false) :
  PS X (.Assign [.Subscript o i pos'] value pos) (OY td ty tv):=by
 intro pins s σ H D I h
 refine wpAny_Assign_Subscript (eR (hv pins s σ H _ I h) fun r s1 ⟨v,H1,I1,rv,q1⟩=>eR (ho pins s1 σ H1 _ I1 q1) fun u s2 ⟨x,H2,I2,rx,q2⟩=>eR (hi pins s2 σ H2 _ I2 q2) fun iv s3 ⟨y,H3,I3,ry,a,H4,ex,g,q3⟩=>?_) hs
 subst ex
 obtain rfl:u=bq a:=rx
 exact Hz hu I3 g ry rv fun s4 I4=>⟨σ,H4,I4,q3⟩
end
theorem JA {P:aR}{w:bh}{H:Hp} (h:br) (hb:gT<h.objs.size):dv P w H (h.push { cls:=.type "dict",data:=.dict #[] }) h.objs.size (.dK []) :=
 ⟨dg _,beq_eq_false_iff_ne.mpr (eV (aP hb)),[],.nil,Heap.DictOf.new h⟩
def Qv:TE:=fun _ H Q=>∀ p,H p=none->Q (.ref p) (upd H p (.dK []))
section
variable {X:Cx}{pos:Pos}
theorem JC:PE X (.Dict [] [] pos) Qv:=fun pins s σ H Q I h =>
 wpAny_Dict_empty ⟨.ref s.heap.objs.size,_,I.laid (a:=s.heap.objs.size) (o:=.dK []) (t':=s.toks) (fun _ _ q=>ae _ q) (az _) (JA s.heap I.big),rfl,h _ (I.hok.fresh (az _))⟩
end
section
variable {X:Cx}{pins:List (ac×Obj)}{σ:St}{H:Hp}{s:ag}{a:ac}{y d:V}{u r:a9}{o:Option V}{A:bf}{E:a9->ag->Prop}
end
section
variable {X:Cx}{o e f:bc}{apos cpos:Pos}{td ty tx:TE}
end
section
variable {X:Cx}{pins:List (ac×Obj)}{σ:St}{H:Hp}{s:ag}{a:ac}{kvs:List (fU×V)}{A:bf}{E:a9->ag->Prop}
end
section
variable {X:Cx}{pins:List (ac×Obj)}{σ:St}{H:Hp}{s:ag}{a:ac}{y:V}{u:a9}{A:bf}{E:a9->ag->Prop}
end
end L2
namespace L2
open PySem PySem.Spec PyProof.Rows
section
variable {X:Cx}
end
section
variable {κ:Type} [DecidableEq κ]
theorem Ga:∀ {l:List κ}{k:κ},l.Nodup->¬ k∈l->(l++[k]).Nodup
 |[],k,_,_=>by simp
 |a::r,k,h,hk=>by
  obtain ⟨h1,h2⟩:=List.nodup_cons.mp h
  show (a::(r++[k])).Nodup
  refine List.nodup_cons.mpr ⟨fun m=>?_,Ga h2 fun m=>hk (List.mem_cons.mpr (eW m))⟩
  rcases List.mem_append.mp m with q|q
  ·exact h1 q
  ·exact hk (List.mem_cons.mpr (i5 (List.mem_singleton.mp q).symm))
end
end L2
end
namespace L2
open PySem PySem.Spec PyProof.Rows
section
section
end
theorem Eu (names : List (Str × kz)) : ∀ (cs : List (Str × ac)), (∀ y ∈ names, y.2 = .free -> ∃ c, env.cells.lookup y.1 = some c) ->
    (∀ x c, cs.lookup x = some c -> env.cells.lookup x = some c) ->
    ∃ cl, (forIn names cs fun (x : Str × kz) (cs : List (Str × ac)) => match x with
        | (name, kind) => if (kind == bX) = true then do let a <- cellOf env name; pure (iB ((name, a) :: cs)) else pure (iB cs) : Sem (List (Str × ac))) = pure cl /\
      (∀ x c, cl.lookup x = some c -> env.cells.lookup x = some c) /\ (∀ y ∈ names, y.2 = .free -> ∃ c, cl.lookup y.1 = some c) /\ (∀ x c, cs.lookup x = some c -> ∃ c', cl.lookup x = some c') := by
  induction names with
  | nil => intro cs _ h2; exact ⟨cs, rfl, h2, fun _ h => absurd h (by simp), fun x c h => ⟨c, h⟩⟩
  | cons nk r ih =>
    obtain ⟨n, k⟩ := nk;intro cs h1 h2;by_cases hk : k = .free
    · subst hk;obtain ⟨a, ha⟩ := h1 (n, .free) ao rfl;have h2' : ∀ x c, ((n, a) :: cs).lookup x = some c -> env.cells.lookup x = some c := fun x c h => by
        rw [aW] at h;cases e : x == n with
        | true => rw [e] at h; have : x = n := by simpa using e
                  subst this; cases h; exact ha
        | false => rw [e] at h; exact h2 x c h
      obtain ⟨cl, e1, e2, e3, e4⟩ := ih ((n, a) :: cs) (fun y hy => h1 y (ar _ hy)) h2';refine ⟨cl, ?_, e2, fun y hy hf => ?_, fun x c h => ?_⟩
      · rw [pP];have hc : cellOf env n = pure a := by unfold cellOf; rw [ha]
        simp only [beq_self_eq_true, if_true, hc];exact e1
      · rcases List.mem_cons.mp hy with rfl | hy
        · exact e4 n a (by simp)
        · exact e3 y hy hf
      · cases e : x == n with
        | true => exact e4 x a (by rw [aW, e])
        | false => exact e4 x c (by rw [aW, e]; exact h)
    · obtain ⟨cl, e1, e2, e3, e4⟩ := ih cs (fun y hy => h1 y (ar _ hy)) h2;refine ⟨cl, ?_, e2, fun y hy hf => ?_, e4⟩
      · rw [pP];have hk' : (k == bX) = false := by simpa using hk
        simp only [hk', cy, if_false];exact e1
      · rcases List.mem_cons.mp hy with rfl | hy
        · exact absurd hf hk
        · exact e3 y hy hf
theorem rE  (h:∀ y∈scope.names,y.2=.free->∃ c,env.cells.lookup y.1=some c):∃ cl,closureFor scope env=pure cl /\
  (∀ x c,cl.lookup x=some c->env.cells.lookup x=some c)/\(∀ y∈scope.names,y.2=.free->∃ c,cl.lookup y.1=some c):=by
 obtain ⟨cl,e1,e2,e3,_⟩:=Eu (env:=env) scope.names [] h (fun x c h=>by simp at h);refine ⟨cl,?_,e2,e3⟩;simp only [closureFor];rw [show (forIn scope.names ([] : List (Str×ac)) fun x r=>_)=(pure cl:Sem (List (Str×ac))) from e1];rfl
end
section
def dz (X:Cx) (N':List Str) (scope:eY) (cl:List (Str×ac)) (C:ac) (s₀:ag) (H₀:Hp) (ex:List ac) (pn:List (ac×Obj)):Cx :=
 { X with N:=N',s₀:=s₀,H₀:=H₀,env:=compEnvC scope cl C X.env,outer:=X.stack,stack:=X.stack,ex:=ex,fn:=fun y=>scope.names.lookup y==some .cell,pn:=pn,xe:=fun _ _=>False }
def Nq (X:Cx) (ifs:List bc) (t:TT):Prop :=
 ∀ (pins:List (ac×Obj)) (s:ag) (σ:St) (H:Hp) (Q:Bool->Hp->Prop),bv X pins σ H s->t σ H Q ->
  aq (aD X.prog X.w) X.A (forIn ifs true fun c r=>if r=true then do let ok <- wP c X.env (bY c X.env);pure (iB ok) else pure (iB r)) (TP X pins σ Q) X.xe s
def UD:TT:=fun _ H Q=>Q true H
theorem Nr:Nq X [] UD:=fun pins s σ H Q I h=>wpAny_tests_nil ⟨H,I,h⟩
theorem Nt   (h:PT X c t):Nq X [c] t:=fun pins s σ H Q I hw=>wpAny_tests_one (h pins s σ H Q I hw)
structure o7 (X:Cx) (scope:eY) (N':List Str) (nt:Nat) (ix:List Nat):Prop where
 kind:scope.kind=.function
 cel:∀ y∈scope.names,y.2=.cell->scope.names.lookup y.1=some .cell
 loc:∀ y∈scope.names,y.2=.local->scope.names.lookup y.1=some .local
 free:∀ y∈scope.names,y.2=.free->X.env.scope.names.lookup y.1=some .cell\/X.env.scope.names.lookup y.1=some .free
 cap:∀ k i,ix[k]?=some i->∃ x,X.N[i]?=some x/\N'[nt+k]?=some x/\scope.names.lookup x=some .free
 len:N'.length=nt+ix.length
def lr (nt:Nat) (ix:List Nat) (σ:St):St:=bD nt none++ix.map fun i=>(σ[i]?).join
theorem qV {env:Env}{x:Str}{names:List (Str×kz)}:names.lookup x=some .free ->
  (names.map fun (n,k)=>if (k==bX&&env.scope.kind == .function&&env.kindOf n==some .cell) then (n,dC) else (n,k)).lookup x=some .free \/
  (names.map fun (n,k)=>if (k==bX&&env.scope.kind == .function&&env.kindOf n==some .cell) then (n,dC) else (n,k)).lookup x=some .cell:=by
 induction names with
 |nil=>intro h;simp at h
 |cons nk r ih =>
  obtain ⟨n,k⟩:=nk;intro h;show fB x ((if (k==bX&&env.scope.kind == .function&&env.kindOf n==some .cell)=true then (n,dC) else (n,k))::_)=_ \/
   fB x ((if (k==bX&&env.scope.kind == .function&&env.kindOf n==some .cell)=true then (n,dC) else (n,k))::_)=_
  cases hx:x==n with
  |true =>
   simp only [aW,hx] at h;cases h;by_cases hc:(bX==bX&&env.scope.kind == .function&&env.kindOf n==some .cell)=true
   ·rw [if_pos hc];right;simp [aW,hx]
   ·rw [if_neg hc];left;simp [aW,hx]
  |false =>
   simp only [aW,hx] at h;by_cases hc:(k==bX&&env.scope.kind == .function&&env.kindOf n==some .cell)=true
   ·rw [if_pos hc];simp only [aW,hx];exact ih h
   ·rw [if_neg hc];simp only [aW,hx];exact ih h
theorem tj {env:Env}{x:Str}{names:List (Str×kz)} :
  ((names.map fun (n,k)=>if (k==bX&&env.scope.kind == .function&&env.kindOf n==some .cell) then (n,dC) else (n,k)).lookup x=some .free \/
  (names.map fun (n,k)=>if (k==bX&&env.scope.kind == .function&&env.kindOf n==some .cell) then (n,dC) else (n,k)).lookup x=some .cell) ->
  (x,bX)∈names\/(x,dC)∈names:=by
 induction names with
 |nil=>intro h;simp at h
 |cons nk r ih =>
  obtain ⟨n,k⟩:=nk;intro h;have h:fB x ((if (k==bX&&env.scope.kind == .function&&env.kindOf n==some .cell)=true then (n,dC) else (n,k))::_)=_ \/
   fB x ((if (k==bX&&env.scope.kind == .function&&env.kindOf n==some .cell)=true then (n,dC) else (n,k))::_)=_:=h
  cases hx:x==n with
  |true =>
   have e:x=n:=by simpa using hx
   subst e;by_cases hc:(k==bX&&env.scope.kind == .function&&env.kindOf x==some .cell)=true
   ·have:k=.free:=by simp at hc;exact hc.1.1
    subst this;left;exact ao
   ·rw [if_neg hc] at h;simp only [aW,hx] at h;rcases h with h|h
    ·cases h;left;exact ao
    ·cases h;right;exact ao
  |false =>
   have h':=ih (by
    by_cases hc:(k==bX&&env.scope.kind == .function&&env.kindOf n==some .cell)=true
    ·rw [if_pos hc] at h;simp only [aW,hx] at h;exact h
    ·rw [if_neg hc] at h;simp only [aW,hx] at h;exact h)
   rcases h' with h' | h'
   ·left;exact ar _ h'
   ·right;exact ar _ h'
inductive OZ (nt:Nat) (ix:List Nat) (g:TG) (tt:TT) (te:TE) (σ:St) (Q:VK) (J:It) (H1:Hp):Prop
 |mk (W:Nat->Nat->List V->Hp->Prop) (w0:∃ m,W 0 m [] H1) (turn:∀ i m acc H,W i m acc H ->
 (J.stop i H/\∀ p,H p=none->Q (.ref p) (upd H p (.lst acc))) \/
 (J.go i H/\acc.length<sizeLine/\∀ x H',J.yld i H x H'->g x (lr nt ix σ) H' fun σ2 H2=>tt σ2 H2 fun b H3 =>
  if b=true then te σ2 H3 fun y H4=>∃ m',m'<m/\W (i+1) m' (acc++[y]) H4 else ∃ m',m'<m/\W (i+1) m' acc H3)):OZ nt ix g tt te σ Q J H1
def JD (nt:Nat) (ix:List Nat) (wi:TI) (g:TG) (tt:TT) (te:TE):TE:=fun σ H Q=>wi σ H (OZ nt ix g tt te σ Q)
theorem iG:∀ (names:List (Str×kz)) (n:Nat) (acc:List (Str×ac)),bH n names acc=bH n names []++acc
 |[],_,_=>rfl
 |(y,k)::r,n,acc=>by
  unfold bH;split
  ·rw [iG r (n+1) ((y,n)::acc),iG r (n+1) [(y,n)],vv];rfl
  ·exact iG r n acc
theorem mQ  : ∀ (names:List (Str×kz)) (n:Nat) (acc:List (Str×ac)),(x,c)∈bH n names acc->(x,dC)∈names\/(x,c)∈acc
 |[],_,_,h=>.inr h
 |(y,k)::r,n,acc,h=>by
  unfold bH at h;split at h
  ·rename_i hk
   have hk:k=.cell:=by simpa using hk
   rcases mQ r _ _ h with z|z
   ·exact .inl (ar _ z)
   ·rcases List.mem_cons.mp z with z|z
    ·cases z;subst hk;exact .inl ao
    ·exact .inr z
  ·exact (mQ r _ _ h).imp (ar _) id
theorem ls     (h:(bH n names cl).lookup x=some c) :
  (x,c)∈bH n names []\/((bH n names []).lookup x=none/\cl.lookup x=some c):=by
 rw [iG,IH] at h;cases e:(bH n names []).lookup x with
 |some d=>rw [e] at h;cases h;exact .inl (cZ e)
 |none=>rw [e] at h;exact .inr ⟨rfl,h⟩
theorem Nu {M:My}{A:bf}{E:a9->ag->Prop}{s:ag}{scope:eY}{globals:ac}{cl:List (Str×ac)}{qual:Str}{func:Option ac}{code:a9}{outer:Env}{builtins:ac}{Q:Env->ag->Prop}
  (hQ:∀ h₁,h₁=pushCells (s.heap.push { cls:=.type "dict",data:=.dict #[] }) scope.names->Q (newEnv scope s.heap.objs.size globals (bH (s.heap.objs.size+1) scope.names cl) qual func code (some outer) builtins) { s with heap:=h₁ }) :
  aq M A (DX scope globals cl [] qual func code (some outer) builtins) Q E s:=by
 simp only [DX,sL,if_true];refine a6 (MB ?_);refine a6 (wpAny_layCells _ (fun name kind cells=>by cases hkc:kind==dC<;>simp [hkc]) _ _ _ _ ?_);rw [show ({ s with heap:=s.heap.push { cls:=.type "dict",data:=.dict #[] } }:ag).heap.objs.size=s.heap.objs.size+1 from bS ..];refine a6 ?_;rw [zx];exact aa (aa (hQ _ rfl))
theorem HA (h:br) (names:List (Str×kz)):CellsOk (pushCells (h.push { cls:=.type "dict",data:=.dict #[] }) names) (h.objs.size+1) (bH (h.objs.size+1) names []):=by
 have ok:=cellsFrom_ok names (h.push { cls:=.type "dict",data:=.dict #[] }) (h.objs.size+1) [] ⟨fun _ _ hm=>(nomatch hm),zw⟩ (by rw [bS];exact az _);rw [bS] at ok;exact ok
section
theorem JF {scope:eY}{N':List Str}{nt:Nat}{ix:List Nat}{cl:List (Str×ac)}{C:ac}{fp:List ac}{h₁:br}{t':Nat}{m:Str->Option a9}
  (S:o7 X scope N' nt ix) (I:bv X pins σ H s) (c1:∀ x c,cl.lookup x=some c->X.env.cells.lookup x=some c) (c2:∀ y∈scope.names,y.2=.free->∃ c,cl.lookup y.1=some c)
  (hf:∀ b∈fp,sZ X pins H b) (ff:∀ b∈fp,b<s.heap.objs.size) (hC:s.heap.objs.size<=C) (hns:h₁.Ns C m) (old:∀ b o,s.heap.get? b=some o->h₁.get? b=some o) (ok:CellsOk h₁ (C+1) (bH (C+1) scope.names [])) :
  bv (dz X N' scope (bH (C+1) scope.names cl) C s H fp (X.pn++pins)) [] (lr nt ix σ) H { s with heap:=h₁,toks:=t' }:=by
 have cellOld:∀ {c v},s.heap.IsCell c v->h₁.IsCell c v:=fun {c v} ⟨o,ho,hd⟩=>⟨o,old _ _ ho,hd⟩;have up:∀ {x c},(x,c)∈bH (C+1) scope.names []->s.heap.objs.size<c:=fun {x c} h=>aF (Mm hC) (ok.empty x c h).2;have low:∀ {x c},cl.lookup x=some c->c<s.heap.objs.size:=fun {x c} h=>by
  obtain ⟨v,q⟩:=I.cell x c (c1 x c h);exact q.lt
 refine ⟨⟨I.ok.mod,S.kind,I.ok.glob,I.ok.blt,hC,fun x y c h1 h2=>?_,fun x hx=>?_,fun x c h h2=>?_,I.ok.hd,I.ok.frames,.inl rfl,fun b hb=>⟨?_,fun x c h=>?_⟩,I.bs,bT I.ok.bsz I.sz,fun b o h hb=>?_,fun b hb z=>?_,I.stack,I.stkFree⟩,
  rfl,I.bare,Un.kept old,⟨m,hns,fun i x v h1 h2 h3=>?_⟩,fun x c h=>?_,I.hok.fresh hC,fun x c h=>?_,fun p hp=>?_,I.hok.kept old,?_⟩
 ·rcases ls h1 with a|⟨_,a⟩<;>rcases ls h2 with b|⟨_,b⟩
  ·exact name_of_addr ok.apart a b
  ·exact absurd (up a) (DY (low b))
  ·exact absurd (up b) (DY (low a))
  ·exact I.ok.inj x y c (c1 x c a) (c1 y c b)
 ·have hx':(x,bX)∈scope.names\/(x,dC)∈scope.names:=tj (env:=X.env) (hx.elim .inr .inl);have hs:((bH (C+1) scope.names cl).lookup x).isSome=true:=by
   rcases hx' with z|z
   ·obtain ⟨c,e⟩:=c2 _ z rfl;exact eG _ _ _ (.inr (by rw [e];rfl))
   ·exact eG _ _ _ (.inl (S.cel _ z rfl))
  exact Option.isSome_iff_exists.mp hs
 ·rcases ls h2 with a|⟨a,_⟩
  ·exact bi (up a)
  ·have:=eG (x:=x) scope.names (C+1) [] (.inl (by simpa [dz] using h));rw [a] at this;cases this
 ·exact aP (aF (ff b hb) hC)
 ·rcases ls h with a|⟨_,a⟩
  ·exact gD (Nat.lt_trans (ff b hb) (up a))
  ·exact (hf b hb).f4 x c (c1 x c a)
 ·rcases (hf b hb).f3 with z|z
  ·exact I.ok.noex b o h z
  ·exact absurd (aF (ax h) (bT I.ok.bsz z)) (cS _)
 ·rcases List.mem_cons.mp (I.stkSub b z) with e|e
  ·exact (hf b hb).f1 e
  ·exact (hf b hb).f2 e
 ·have hnt:nt<=i:=by
   refine MA fun hlt=>?_;have h2':(lr nt ix σ)[i]?=some (some v):=h2;unfold lr at h2';rw [bL (by simpa using hlt),bK,if_pos hlt] at h2';cases h2'
  have h2':(lr nt ix σ)[i]?=some (some v):=h2;unfold lr at h2';rw [bd (by simpa using hnt),cF,aK] at h2';cases e:ix[i-nt]? with
  |none=>rw [e] at h2';cases h2'
  |some j =>
   rw [e] at h2';have hj:σ[j]?=some (some v):=by
    have q:(σ[j]?).join=some v:=bJ h2';cases e3:σ[j]? with
    |none=>rw [e3] at q;cases q
    |some o=>rw [e3] at q;cases o with
     |none=>cases q
     |some v'=>cases q;rfl
   obtain ⟨x',n1,n2,fr⟩:=S.cap _ _ e;rw [Nat.add_sub_cancel' hnt] at n2;have h1':N'[i]?=some x:=h1;rw [h1'] at n2;cases n2;obtain ⟨mm,hn,hl⟩:=I.loc;have hfree:=S.free (x,.free) (cZ fr) rfl;obtain ⟨u,r,l⟩:=hl j x v n1 hj (hfree.elim (fun z=>.inr (.inl z)) fun z=>.inr (.inr z));refine ⟨u,r,?_⟩;rcases l with ⟨k,_⟩|⟨k,c,hc,hcell⟩
   ·have k:X.env.scope.names.lookup x=some .local:=k;rcases hfree with z|z<;>(rw [z] at k;cases k)
   ·obtain ⟨c',hc'⟩:=c2 _ (cZ fr) rfl;have:=c1 x c' hc';rw [hc] at this;cases this;have hno:(bH (C+1) scope.names []).lookup x=none:=by
     cases e:(bH (C+1) scope.names []).lookup x with
     |none=>rfl
     |some d =>
      rcases mQ _ _ _ (cZ e) with z|z
      ·have q:=S.cel _ z rfl;rw [fr] at q;cases q
      ·cases z
    refine .inr ⟨?_,c,by show (bH (C+1) scope.names cl).lookup x=some c;rw [iG,IH,hno];exact hc',cellOld hcell⟩;rcases qV (env:=X.env) fr with z|z
    ·exact .inr z
    ·exact .inl z
 ·rcases ls h with a|⟨_,a⟩
  ·exact ⟨none,(ok.empty x c a).1⟩
  ·obtain ⟨v,q⟩:=I.cell x c (c1 x c a);exact ⟨v,cellOld q⟩
 ·rcases ls h with a|⟨_,a⟩
  ·exact I.hok.fresh (bi (up a))
  ·exact I.freeC x c (c1 x c a)
 ·have hp:p∈X.pn++pins:=(List.mem_append.mp hp).elim id fun z=>absurd z (by simp);obtain ⟨e,n,ne,nf,d⟩:=I.pin p hp;refine ⟨old _ _ e,n,aP (aF (ax e) hC),fun z=>?_,d⟩;rcases List.mem_cons.mp (I.stkSub p.1 z) with e|e
  ·exact ne e
  ·exact nf e
 ·show (lr nt ix σ).length=N'.length;rw [S.len];simp [lr]
end
end
section
theorem Un.grow   (u:Un fs ex H H1 h h1)  (sb:bW C h1 h2) (hC:h.objs.size<=C) (hD:h.objs.size<=D) (hn:H1 D=none):Un fs ex H (upd H1 D o) h h2 where
 keep:=fun b ob q n hb hx=>(sb.2 b (aP (aF (ax q) hC))).trans (u.keep b ob q n hb hx)
 slot:=fun b ob q n hb hx=>by
  obtain ⟨sl,e⟩:=u.slot b ob q n hb hx;exact ⟨sl,(sb.2 b (aP (aF (ax q) hC))).trans e⟩
 free:=fun b ob q n hx=>by rw [av (aP (aF (ax q) hD))];exact u.free b ob q n hx
 there:=fun b ob q hx=>by
  obtain ⟨o',e⟩:=u.there b ob q hx;exact ⟨o',(sb.2 b (aP (aF (ax q) hC))).trans e⟩
 tups:=fun b xs q=>by have z:=u.tups b xs q;rw [av (aE z hn)];exact z
 frzs:=fun b ob xs q=>by have z:=u.frzs b ob xs q;rw [av (aE z hn)];exact z
 tbls:=fun b ps q=>by
  obtain ⟨m,z⟩:=u.tbls b ps q;exact ⟨m,by rw [av (aE z hn)];exact z⟩
theorem C8     (k:pG P w H h) (hC:H C=none) (sb:bW C h h'):pG P w H h':=fun b ob e=>by
 refine (k b ob e).stay (fun c w' hc q=>(sb.2 c ?_).trans q) (fun _ q=>q) fun _ _ q=>q;rintro rfl;rcases hc with rfl|hc
 ·rw [hC] at e;cases e
 ·rw [hC] at hc;cases hc
theorem uJ      (k:pG P w H h) (hD:H D=none) (new:dv P w (upd H D o) h D o):pG P w (upd H D o) h:=fun b ob e=>by
 by_cases hb:b=D
 ·subst hb;rw [aB] at e;cases e;exact new
 ·rw [av hb] at e;exact (k b ob e).stay (fun c w' hc q=>q) (fun c q=>by rw [av (aE q hD)];exact q) fun c x q=>by rw [av (aE q hD)];exact q
theorem nf {M:My}{A:bf}{α:Type}{t:Sem α}{Q:α->ag->Prop}{E':a9->ag->Prop}{s:ag} (h:aq M A t Q (fun _ _=>False) s):aq M A t Q E' s :=
 cc h (fun _ _ q=>q) fun _ _ f=>f.elim
theorem bv.pin1      (I:bv X [] σ H s) (e:s.heap.get? D=some o) (n:H D=none) (ne:D≠X.env.locals) (nf:D∉X.fs) (d:∀ v,o.data≠.cell v):bv X [(D,o)] σ H s :=
 I.pins_of fun p hp=>by
  have:p=(D,o):=by simpa using hp
  subst this;exact ⟨e,n,ne,nf,d⟩
def Qw (nt:Nat) (g:TG):Prop:=∀ x σ0 H (Q:St->Hp->Prop),g x σ0 H Q->g x σ0 H (fun σ2 H2=>Q σ2 H2/\σ2.length=σ0.length/\∀ j,nt<=j->σ2[j]?=σ0[j]?)
theorem JH (h:i<nt):Qw nt (vB i):=fun x σ0 H Q q=>⟨q,by simp,fun j hj=>aj (by omega)⟩
theorem Nv {nt i k n:Nat}{K:a7} (h:i<nt) (h':k<nt):Qw nt (Q8 K n (a8 (vB i) (a8 (vB k) al))):=by
 rintro x σ0 H Q ⟨a,xs,rfl,sq,hl,v,r,rfl,v',r',rfl,rfl,q⟩;exact ⟨a,_,rfl,sq,hl,v,_,rfl,v',_,rfl,rfl,q,by simp,fun j hj=>by rw [aj (by omega),aj (by omega)]⟩
theorem bv.swap {X:Cx}{pl:List (ac×Obj)}{σ:St}{H:Hp}{s:ag}{D:ac}{o o':Obj}{h':br} (I:bv X ((D,o)::pl) σ H s) (sb:bW D s.heap h') (e':h'.get? D=some o') (nd:∀ v,o'.data≠.cell v) (h1:D∈X.ex\/X.s₀.heap.objs.size<=D) (h2:∀ x c,X.env.cells.lookup x=some c->c≠D) (h3:∀ p∈X.pn++pl,p.1≠D):bv X ((D,o')::pl) σ H { s with heap:=h' }:=by
 obtain ⟨pD,pN,pL,pF,_⟩:=I.pin (D,o) (aQ _ ao)
 have I1:bv X pl σ H s:=I.pins_of fun p hp=>I.pin p (aQ _ (ar _ hp))
 have I2:bv X pl σ H { s with heap:=h',toks:=s.toks }:=I1.turned (it:=D) (fun b o hb e=>sb.extBut b o hb e) pN pL h1 h2 h3
 refine I2.pins_of fun p hp=>?_
 rcases aV.1 hp with z|hp
 ·rw [z];exact ⟨e',pN,pL,pF,nd⟩
 ·exact I2.pin p (aQ _ hp)
abbrev R_ (its:List a9) (nn:Nat):Obj:={ cls:=.type "list",data:=.seq its.toArray nn }
inductive Vo (X:Cx) {α:Type} (P:ac->Obj->α->Prop) (pins:List (ac×Obj)) (N':List Str) (scope:eY) (cl:List (Str×ac)) (C:ac) (s2:ag) (H2:Hp) (fp:List ac) (nt:Nat) (ix:List Nat) (σ:St) (tn:Nat->br->Prop) (W:Nat->Nat->α->Hp->Prop) (n:Nat) (s':ag):Prop
 |mk (i:Nat) (acc:α) (oD:Obj) (H':Hp) (I:bv (dz X N' scope cl C s2 H2 fp (X.pn++pins)) [(s2.heap.objs.size,oD)] (lr nt ix σ) H' s') (S:P s2.heap.objs.size oD acc) (t:tn i s'.heap) (f:∀ b∈fp,H' b=none) (w:W i n acc H'):Vo X P pins N' scope cl C s2 H2 fp nt ix σ tn W n s'
def O_ (X:Cx) (e0 tg:bc) (ifs:List bc) (it:ac) (d:Nat) (Bd:Env->ac->(ag->Prop)->ag->Prop):Prop :=
 ∀ (env:Env) (D:ac) (R:Result->ag->Prop) (I:Nat->ag->Prop),(∀ n s,I n s->aq (aD X.prog X.w) X.A (rl (.ref it)) (fun r s₁=>match r with
   |none=>R (.ok .next) s₁
   |some v=>aq (aD X.prog X.w) X.A (i9 tg (.ref it) v) (fun _ s₁'=>aq (aD X.prog X.w) X.A (rj tg env v) (fun _ s₂ =>
     aq (aD X.prog X.w) X.A (forIn ifs true fun c r=>if r=true then do let ok <- wP c env (bY c env);pure (iB ok) else pure (iB r)) (fun ok s₃ =>
      if ok=true then Bd env D (fun s₅=>∃ m,m<n/\I m s₅) s₃ else ∃ m,m<n/\I m s₃) (fun _ _=>False) s₂) (fun _ _=>False) s₁') (fun _ _=>False) s₁) (fun _ _=>False) s) ->
  ∀ n s,I n s->fO (aD X.prog X.w) X.A (.compLoop e0 d (.ref it) (.ref D) env) R s
theorem P0 {X:Cx}{e0 tg iter:bc}{ifs:List bc}{d:Nat}{Bd:Env->ac->(ag->Prop)->ag->Prop}{it:ac}{Kt:Env->ac->Bool->Sem Fin}
  (hT:∀ env D,compTurn e0 d (.ref it) (.ref D) env=(do
   ko iter.pos
   match <- rl (.ref it) with
   |none=>pure (.done .next)
   |some v =>
    i9 tg (.ref it) v
    rj tg env v
    let mut ok:=true
    for c in ifs do
     if ok then ok <- wP c env (bY c env)
    Kt env D ok))
  (ht:∀ env D K s,Bd env D K s->aq (aD X.prog X.w) X.A (Kt env D true) (fun f s5=>f=.again (.compLoop e0 d (.ref it) (.ref D) env)/\K s5) (fun _ _=>False) s)
  (hf:∀ env D,Kt env D false=pure (.again (.compLoop e0 d (.ref it) (.ref D) env)):=by intros;rfl) (hA:∀ env D,X.A.under (.compLoop e0 d (.ref it) (.ref D) env)=X.A:=by intros;rfl)
  (hD:∀ env D,(aD X.prog X.w).den (.compLoop e0 d (.ref it) (.ref D) env)=(compTurn e0 d (.ref it) (.ref D) env).onRaise (fun x=>do II x env;theTreesLotGoes x):=by intros;rfl):O_ X e0 tg ifs it d Bd:=by
 intro env D R I turn n s h
 refine codeAny_loop rfl I (fun n s hI=>?_) n h
 rw [hA,hD]
 refine wpAny_noted ?_
 rw [hT]
 refine a6 (pQ (a6 (nf (cc (turn n s hI) (fun r s₁ h₁=>?_) fun _ _ h'=>h'))))
 cases r with
 |none=>exact aa h₁
 |some v =>
  refine a6 (nf (cc h₁ (fun _ s₁' h₁'=>?_) fun _ _ h'=>h'))
  refine a6 (nf (cc h₁' (fun _ s₂ h₂=>a6 (nf (cc h₂ (fun ok s₃ h₃=>?_) fun _ _ h'=>h'))) fun _ _ h'=>h'))
  cases ok with
  |false=>rw [hf];exact aa ⟨rfl,h₃⟩
  |true =>
   refine nf (cc (ht _ _ _ _ h₃) (fun f s₅ h₅=>?_) fun _ _ h'=>h')
   obtain ⟨e,h₅⟩:=h₅
   subst e
   exact ⟨rfl,h₅⟩
def JJ (X:Cx) {α:Type} (N':List Str) (scope:eY) (M:St->Prop) (P:ac->Obj->α->Prop) (L:α->Prop) (U:St->Hp->α->Nat->(Nat->α->Hp->Prop)->Prop) (Bd:Env->ac->(ag->Prop)->ag->Prop):Prop :=
 ∀ cl C s₀ H₀ ex pn (D:ac) (pl:List (ac×Obj)) (o:Obj) (acc:α) (σ:St) (H:Hp) (s:ag) (K:ag->Prop) (m:Nat) (V:Nat->α->Hp->Prop),(D∈ex\/s₀.heap.objs.size<=D)->(∀ x c,cl.lookup x=some c->c≠D)->(∀ p∈pn++pl,p.1≠D)->M σ->L acc->P D o acc ->
  bv (dz X N' scope cl C s₀ H₀ ex pn) ((D,o)::pl) σ H s->U σ H acc m V->(∀ acc' o' H8 s8 m',bv (dz X N' scope cl C s₀ H₀ ex pn) ((D,o')::pl) σ H8 s8->P D o' acc'->m'<m->V m' acc' H8->K s8)->Bd (dz X N' scope cl C s₀ H₀ ex pn).env D K s
inductive Nw (X:Cx) (N':List Str) (scope:eY) (nt nc:Nat) (ix:List Nat) (e0 tg:bc) (ifs:List bc) (newA:Sem a9) {α:Type} (O:ac->α->HO) (a0:α) (L:α->Prop) (U:St->Hp->α->Nat->(Nat->α->Hp->Prop)->Prop):Prop
 |mk (P:ac->Obj->α->Prop) (o0:Obj) (Bd:ac->Env->ac->(ag->Prop)->ag->Prop) (M:St->Prop) (nd:∀ {D o acc},P D o acc->∀ v,o.data≠.cell v) (of:o0.isFreed=false) (p0:∀ D,P D o0 a0)
  (tr:∀ {H h D o acc},gT<D->P D o acc->h.get? D=some o->dv X.prog X.w H h D (O D acc))
  (hnew:∀ {E s2}{Q:a9->ag->Prop},Q (.ref s2.heap.objs.size) { s2 with heap:=s2.heap.push o0 }->aq (aD X.prog X.w) X.A newA Q E s2) (loopX:∀ it,O_ X e0 tg ifs it 0 (Bd it))
  (hst:∀ {it acc env R s},fO (aD X.prog X.w) X.A (.compLoop e0 0 (.ref it) acc env) R s->aq (aD X.prog X.w) X.A (wQ (.ref it)) (fun it' s'=>fO (aD X.prog X.w) X.A (.compLoop e0 0 it' acc env) R s') (notedBy (aD X.prog X.w) X.A env fun x s'=>R (.error x) s') s->fO (aD X.prog X.w) X.A (.compStart e0 0 (.ref it) acc env) R s)
  (hM:nt<=nc/\∀ σ σ6:St,(∀ j,nt<=j->σ6[j]?=(lr nc ix σ)[j]?)->M σ6) (hstep:∀ it,JJ X N' scope M P L U (Bd it)):Nw X N' scope nt nc ix e0 tg ifs newA O a0 L U
theorem Ev {X:Cx}{α:Type}{O:ac->α->HO}{a0:α}{newA:Sem a9}{L:α->Prop}{U:St->Hp->α->Nat->(Nat->α->Hp->Prop)->Prop}{e0 tg:bc}{ifs:List bc}{scope:eY}{g:TG}{tt:TT}{N':List Str}{nt nc:Nat}{ix:List Nat}
  (con:Nw X N' scope nt nc ix e0 tg ifs newA O a0 L U) (hc:X.calm=true) (S:o7 X scope N' nc ix) (lo:Qw nt g)
  (hb:∀ cl C s₀ H₀ ex pn,PG (dz X N' scope cl C s₀ H₀ ex pn) tg g/\Nq (dz X N' scope cl C s₀ H₀ ex pn) ifs tt)
  {cl:List (Str×ac)} (c1:∀ x c,cl.lookup x=some c->X.env.cells.lookup x=some c) (c2:∀ y∈scope.names,y.2=.free->∃ c,cl.lookup y.1=some c)
  {pins:List (ac×Obj)}{σ:St}{H2:Hp}{s2:ag}{it:ac}{fp:List ac}{tn:Nat->br->Prop}{J:It}{Q:VK}{E:a9->ag->Prop}
  (I2:bv X pins σ H2 s2) (T:BZ X.prog X.w X.K tg J fp it tn) (st2:tn 0 s2.heap) (f2:∀ b∈fp,sZ X pins H2 b)
  {W:Nat->Nat->α->Hp->Prop} (w0:∃ m,W 0 m a0 H2)
  (turn:∀ i m acc H,W i m acc H->(J.stop i H/\∀ p,H p=none->Q (.ref p) (upd H p (O p acc))) \/
   (J.go i H/\L acc/\∀ x H',J.yld i H x H'->g x (lr nc ix σ) H' fun σ2 H2=>tt σ2 H2 fun b H3 =>
    if b=true then U σ2 H3 acc m (W (i+1)) else ∃ m',m'<m/\W (i+1) m' acc H3))
  {RR:a9->ac->Result->ag->Prop}
  (hRR:∀ D C m s' (acc:α) H',H' D=none->sZ X pins (upd H' D (O D acc)) C->Q (.ref D) (upd H' D (O D acc))->s'.heap.Ns C m->(∀ h',bW C s'.heap h'->bv X pins σ (upd H' D (O D acc)) { s' with heap:=h' })->RR (.ref D) C (.ok .next) s') :
  aq (aD X.prog X.w) X.A newA (fun acc s₃=>aq (aD X.prog X.w) X.A (DX scope X.env.globals cl [] X.env.qual none .none (some X.env)) (fun cenv s₄ =>
   fO (aD X.prog X.w) X.A (.compStart e0 0 (.ref it) acc { cenv with scope:=relabel scope X.env }) (RR acc cenv.locals) s₄) E s₃) E s2:=by
 obtain ⟨P,o0,Bd,M,nd,of,p0,tr,hnew,loopX,hst,⟨hnc,hM⟩,hstep⟩:=con
 refine hnew (Nu fun h₁ hh₁=>?_);dsimp only at hh₁ ⊢;generalize hG2:s2.heap.push o0=G2 at hh₁ ⊢;have hC:G2.objs.size=s2.heap.objs.size+1:=by rw [<- hG2,bS]
 have hDC:s2.heap.objs.size≠G2.objs.size:=by rw [hC];exact aP (eZ _)
 have hCle:s2.heap.objs.size<=G2.objs.size:=by rw [hC];exact kO _
 have below:∀ b,b<s2.heap.objs.size->b≠G2.objs.size:=fun b hb=>by rw [hC];exact aP (i6 hb)
 have kp:∀ b o,G2.get? b=some o->h₁.get? b=some o:=fun b o e=>by rw [hh₁];exact pushCells_keeps _ _ b o (ae _ e)
 have hns₁:h₁.Ns G2.objs.size (fun _=>none):=by rw [hh₁];exact (Heap.Ns.new G2 (.type "dict")).keeps (pushCells_keeps _ _)
 have ok₁:CellsOk h₁ (G2.objs.size+1) (bH (G2.objs.size+1) scope.names []):=by rw [hh₁];exact HA G2 scope.names
 have cne:∀ x c,(bH (G2.objs.size+1) scope.names cl).lookup x=some c->X.env.cells.lookup x=some c\/s2.heap.objs.size<c:=fun x c e=>by
  rcases ls e with a|⟨_,a⟩
  ·exact .inr (aF (Mm hCle) (ok₁.empty x c a).2)
  ·exact .inl (c1 x c a)
 have old:∀ b o,s2.heap.get? b=some o->h₁.get? b=some o:=fun b o e=>kp b o (hG2 ▸ ae _ e);have hacc:h₁.get? s2.heap.objs.size=some o0:=kp _ _ (hG2 ▸ aA _ of);have ff:∀ b∈fp,b<s2.heap.objs.size:=fun b hb=>by
  obtain ⟨o,e,_⟩:=T.obj _ _ st2 b hb;exact ax e
 have I3:bv (dz X N' scope (bH (G2.objs.size+1) scope.names cl) G2.objs.size s2 H2 fp (X.pn++pins)) [] (lr nc ix σ) H2 { s2 with heap:=h₁,toks:=s2.toks }:=JF S I2 c1 c2 f2 ff hCle hns₁ old ok₁;obtain ⟨pg,pt⟩:=hb (bH (G2.objs.size+1) scope.names cl) G2.objs.size s2 H2 fp (X.pn++pins);have hDfs:s2.heap.objs.size∉q_ X.stack:=fun z=>by
  rcases List.mem_cons.mp (I2.stkSub _ z) with e|e
  ·exact absurd I2.lt (by rw [<- e];exact cS _)
  ·exact I2.nofs (az _) e
 have st1:tn 0 h₁:=T.keep _ _ _ st2 fun b _ o e=>old b o e;have hDf:s2.heap.objs.size∉fp:=fun z=>absurd (ff _ z) (cS _);have stat:∀ {H':Hp}{pl:List (ac×Obj)},(∀ p∈pl,p.1∉fp)->(∀ b∈fp,H' b=none)->∀ b∈fp,sZ (dz X N' scope (bH (G2.objs.size+1) scope.names cl) G2.objs.size s2 H2 fp (X.pn++pins)) pl H' b:=fun hpl hn b hb=>by
  obtain ⟨f0,f1,f2',f3,f4,f5⟩:=f2 b hb;refine ⟨hn b hb,below b (ff b hb),fun z=>?_,.inl hb,fun x c e=>(cne x c e).elim (f4 x c) fun q z=>DY q (by rw [z];exact ff b hb),fun p hp z=>?_⟩
  ·rcases List.mem_cons.mp (I2.stkSub _ z) with e|e
   ·exact f1 e
   ·exact f2' e
  ·rcases List.mem_append.mp hp with q|q
   ·exact f5 p q z
   ·exact hpl p q (z ▸ hb)
 obtain ⟨m0,w0⟩:=w0;have loop:fO (aD X.prog X.w) X.A (.compLoop e0 0 (.ref it) (.ref s2.heap.objs.size) (compEnvC scope (bH (G2.objs.size+1) scope.names cl) G2.objs.size X.env))
    (RR (.ref s2.heap.objs.size) G2.objs.size) { s2 with heap:=h₁,toks:=s2.toks }:=by
  refine loopX it _ _ _ (Vo X P pins N' scope (bH (G2.objs.size+1) scope.names cl) G2.objs.size s2 H2 fp nc ix σ tn W) ?_ m0 _
   ⟨0,a0,_,H2,I3.pin1 hacc (I2.hok.fresh (az _)) hDC hDfs (nd (p0 s2.heap.objs.size)),p0 _,st1,fun b hb=>(f2 b hb).1,w0⟩
  rintro n s3 ⟨i,acc,oD,H3,J3,hS3,st3,fr3,w3⟩;have plD:∀ p∈[(s2.heap.objs.size,oD)],p.1∉fp:=fun p hp=>by
   have:p=(s2.heap.objs.size,oD):=by simpa using hp
   rw [this];exact hDf
  rcases turn i n acc H3 w3 with ⟨stop,qn⟩|⟨go,hlt,step⟩
  ·refine eR (T.done (dz X N' scope (bH (G2.objs.size+1) scope.names cl) G2.objs.size s2 H2 fp (X.pn++pins)) rfl rfl rfl hc i _ s3 _ H3 _ J3 (stat plD fr3) st3 stop) fun r s4 h_0=>?_;obtain ⟨hr,I4⟩:=h_0;subst hr;obtain ⟨pD,pN,_⟩:=I4.pin (s2.heap.objs.size,_) (aQ _ (List.mem_singleton.mpr rfl));obtain ⟨mm,hn,_⟩:=I4.loc;have hCn:H3 G2.objs.size=none:=I4.free;refine hRR _ _ mm s4 acc H3 pN (I2.fpOk hCle (by rw [av (eV hDC)];exact hCn)) (qn _ pN) hn fun h' sb=>?_;have hu:Un (q_ X.stack) fp H2 (upd H3 s2.heap.objs.size (O s2.heap.objs.size acc)) s2.heap h':=Un.grow I4.base sb hCle (az _) pN;refine I2.call' (s':={ s4 with heap:=h' }) (ch:=fp) I4.os hu ?_ I4.bare fun b hb=>?_
   ·exact uJ (C8 I4.hok hCn sb) pN (tr I2.big hS3 ((sb.2 _ hDC).trans pD))
   ·obtain ⟨_,f1,_,f3,f4,f5⟩:=f2 b hb;exact ⟨f3,f1,f4,f5⟩
  ·refine eR (T.item (dz X N' scope (bH (G2.objs.size+1) scope.names cl) G2.objs.size s2 H2 fp (X.pn++pins)) rfl rfl rfl hc i _ s3 _ H3 _ J3 (stat plD fr3) st3 go) fun r s4 h_1=>?_;obtain ⟨u,hr,h4⟩:=h_1;subst hr;refine eR h4 fun _ s5 h_2=>?_;obtain ⟨x,H5,I5,r5,y5,st5,fr5⟩:=h_2;have I5':=I5.pinned (stat plD fr5) (T.obj _ _ st5);refine eR (pg _ s5 _ H5 x u _ I5' r5 (lo _ _ _ _ (step x H5 y5))) fun _ s6 h_3=>?_;obtain ⟨σ6,H6,I6,q6,l6,k6⟩:=h_3;have hw:∀ (j:Nat) v,(lr nc ix σ)[j]?=some (some v)->σ6[j]?=some (some v):=fun j v e=>by
    by_cases hj:nt<=j
    ·rw [k6 j hj];exact e
    ·unfold lr at e;rw [bL (by simp;omega),bK,if_pos (by omega)] at e;cases e
   refine eR (pt _ s6 σ6 H6 _ I6 q6) fun b s7 h_4=>?_;obtain ⟨H7,I7,q7⟩:=h_4;have fpk:∀ {s8:ag}{σ8:St}{H8:Hp},bv (dz X N' scope (bH (G2.objs.size+1) scope.names cl) G2.objs.size s2 H2 fp (X.pn++pins)) ([(s2.heap.objs.size,oD)]++w_ fp s5.heap) σ8 H8 s8 ->
     tn (i+1) s8.heap/\∀ b∈fp,H8 b=none:=fun {s8 σ8 H8} I8=>by
    refine ⟨T.keep _ _ _ st5 fun b hb o e=>(I8.pin (b,o) (aQ _ (aQ _ (jG hb e)))).1,fun b hb=>?_⟩;obtain ⟨o,e,d⟩:=T.obj _ _ st5 b hb;exact (I8.pin (b,o) (aQ _ (aQ _ (jG hb e)))).2.1
   cases b with
   |false =>
    simp only [cy,if_false] at q7 ⊢;obtain ⟨m',hm,w7⟩:=q7;obtain ⟨t7,f7⟩:=fpk I7;exact ⟨m',hm,i+1,acc,oD,H7,(I7.weak l6.symm hw).unpinned,hS3,t7,f7,w7⟩
   |true =>
    simp only [if_true] at q7 ⊢
    refine hstep it _ _ _ _ _ _ _ _ _ _ _ _ _ _ _ _ (.inr (az _)) (fun x c e z=>?_) (fun p hp z=>?_) (hM σ σ6 k6) hlt hS3 I7 q7 fun acc' o' H8 s8 m' I8 p8 hm w8=>?_
    ·rcases cne x c e with e|e
     ·obtain ⟨v,q⟩:=I2.cell x c e;exact absurd q.lt (by rw [z];exact cS _)
     ·exact absurd e (by rw [z];exact cS _)
    ·rcases MC.1 hp with hp|hp
     ·exact absurd (ax (I2.pin p hp).1) (by rw [z];exact cS _)
     ·exact hDf (z ▸ (zD hp).1)
    ·obtain ⟨t8,f8⟩:tn (i+1) s8.heap/\∀ b∈fp,H8 b=none:=by
      refine ⟨T.keep _ _ _ st5 fun b hb o e=>(I8.pin (b,o) (aQ _ (ar _ (jG hb e)))).1,fun b hb=>?_⟩;obtain ⟨o,e,d⟩:=T.obj _ _ st5 b hb;exact (I8.pin (b,o) (aQ _ (ar _ (jG hb e)))).2.1
     exact ⟨m',hm,i+1,acc',o',H8,(I8.weak (σ':=lr nc ix σ) l6.symm hw).pins_of fun p hp=>I8.pin p (aQ _ (by rw [eh.1 hp];exact ao)),p8,t8,f8,w8⟩
 exact hst loop (T.self _ 0 _ _ _ st1 loop)
def S0 (_:ac) (o:Obj) (acc:List V):Prop:=∃ its nn,o=R_ its nn/\cn acc its/\acc.length<=sizeLine
def Qx (X:Cx) (elt:bc) (env:Env) (D:ac) (K:ag->Prop) (s:ag):Prop:=aq (aD X.prog X.w) X.A (bY elt env) (fun x s₄=>aq (aD X.prog X.w) X.A (call (.builtin "list.append") [.ref D,x]) (fun _ s₅=>K s₅) (fun _ _=>False) s₄) (fun _ _=>False) s
theorem JK {X:Cx}{elt:bc}{te:TE}{N':List Str}{scope:eY}{M:St->Prop} (pe:∀ cl C s₀ H₀ ex pn,PE (dz X N' scope cl C s₀ H₀ ex pn) elt te) :
  JJ X N' scope M S0 (fun acc=>acc.length<sizeLine) (fun σ H acc m V=>te σ H fun y H4=>∃ m',m'<m/\V m' (acc++[y]) H4) (Qx X elt):=by
 intro cl C s₀ H₀ ex pn D pl o acc σ6 H7 s7 K m V h1 h2 h3 _ hl hP I7 q7 fin
 obtain ⟨its,nn,rfl,rv,hz⟩:=hP
 refine eR (pe cl C s₀ H₀ ex pn _ s7 σ6 H7 _ I7 q7) fun u8 s8 h_5=>?_
 obtain ⟨y,H8,I8,r8,m',hm,q8⟩:=h_5
 obtain ⟨pD,pN,_⟩:=I8.pin (D,_) (aQ _ ao)
 have hv:=rv.length
 refine wpAny_list_append_plain ⟨nn,pD⟩ (hsz:=by rw [aC];omega) ?_
 intro h9 pl9 sb9
 obtain ⟨n9,e9⟩:=pl9
 have e9':h9.get? D=some (R_ (its++[u8]) n9):=by rw [e9];simp
 exact fin (acc++[y]) _ H8 _ m' (I8.swap sb9 e9' (fun _ z=>nomatch z) h1 h2 h3) ⟨_,n9,rfl,rv.append (.cons r8 .nil),by rw [a_,ki];omega⟩ hm q8
theorem JM {X:Cx}{elt:bc}{f:Sem Fin}{a:Code} (hf:f=pure (.again a)) (env:Env) (D:ac) (K:ag->Prop) (s:ag) (h:Qx X elt env D K s):aq (aD X.prog X.w) X.A ((do let _ <- call (.builtin "list.append") [.ref D,<- bY elt env]) >>= fun _=>f) (fun f s5=>f=.again a/\K s5) (fun _ _=>False) s:=by
 subst hf;exact a6 (a6 (eR h fun x s4 h4=>a6 (eR h4 fun _ _ q=>aa (aa ⟨rfl,q⟩))))
theorem Gb {X:Cx}{elt tg iter:bc}{ifs:List bc}{scope:eY}{pos:Pos}{te:TE}{N':List Str}{nt:Nat}{ix:List Nat} (pe:∀ cl C s₀ H₀ ex pn,PE (dz X N' scope cl C s₀ H₀ ex pn) elt te) :
  Nw X N' scope nt nt ix (.ListComp elt [⟨tg,iter,ifs,0⟩] scope pos) tg ifs (newList []) (fun _=>HO.lst) [] (fun acc=>acc.length<sizeLine) (fun σ H acc m V=>te σ H fun y H4=>∃ m',m'<m/\V m' (acc++[y]) H4) :=
 ⟨S0,_,fun _=>Qx X elt,fun _=>True,fun ⟨_,_,h,_⟩ _ z=>(by rw [h] at z;cases z),rfl,fun _=>⟨[],0,rfl,.nil,dg _⟩,fun _ ⟨its,nn,h,rv,hz⟩ e=>⟨hz,its,nn,rv,by rw [e,h]⟩,bG,fun _=>P0 (iter:=iter) (fun _ _=>rfl) fun a b c d h=>JM rfl a b c d h,codeAny_compStart_list,⟨az _,fun _ _ _=>trivial⟩,fun _=>JK pe⟩
end
section
theorem C9
  (hc:X.calm=true) (S:o7 X scope N' nt ix) (lo:Qw nt g) (hi:PI X tg iter wi)
  (hb:∀ cl C s₀ H₀ ex pn,PG (dz X N' scope cl C s₀ H₀ ex pn) tg g/\Nq (dz X N' scope cl C s₀ H₀ ex pn) ifs tt/\PE (dz X N' scope cl C s₀ H₀ ex pn) elt te)
  (hs:∀ x,eP iter X.env x=pure x:=by intro _;rfl):PE X (.ListComp elt [⟨tg,iter,ifs,0⟩] scope pos) (JD nt ix wi g tt te):=by
 intro pins s σ H Q I h;obtain ⟨cl,hcl,c1,c2⟩:=rE (scope:=scope) (env:=X.env) fun y hy hf=>I.ok.has y.1 (S.free y hy hf);rw [eval_ListComp];refine pR (use:=none) rfl hs hcl S.kind S.loc (eR (hi pins s σ H _ I h) fun v s1 h1=>eR h1 fun itv s2 h2=>?_);obtain ⟨it,fp,tn,J,H2,e,I2,T,st2,f2,W,w0,turn⟩:=h2;subst e;refine Ev (RR:=fun acc C=>compPost (aD X.prog X.w) X.A X.xe none (EP X pins σ Q) acc C) (Gb fun a b c d e f=>(hb a b c d e f).2.2) hc S lo (fun a b c d e f=>⟨(hb a b c d e f).1,(hb a b c d e f).2.1⟩) c1 c2 I2 T st2 f2 w0 turn ?_;intro D C m s' acc H' hD _ q hn hI;exact ⟨m,hn,fun h' sb=>⟨.ref D,_,hI h' sb,rfl,q⟩⟩
def S1 (i:Nat) (te:TE):TS:=fun D σ H=>te σ H fun x H1=>D.nx (σ.set i (some x)) H1
theorem Ew
  (hN:X.N.Nodup) (hiN:X.N[i]?=some y) (hy:X.env.scope.names.lookup y=some .local)
  (hc:X.calm=true) (S:o7 X scope N' nt ix) (lo:Qw nt g) (hi:PI X tg iter wi)
  (hb:∀ cl C s₀ H₀ ex pn,PG (dz X N' scope cl C s₀ H₀ ex pn) tg g/\Nq (dz X N' scope cl C s₀ H₀ ex pn) ifs tt/\PE (dz X N' scope cl C s₀ H₀ ex pn) elt te)
  (hsw:fm (.ListComp elt [⟨tg,iter,ifs,0⟩] scope pos) (some (.Name y py)) spos.line X.env=pure true:=by rfl)
  (hs:∀ x,eP iter X.env x=pure x:=by intro _;rfl):PS X (.Assign [.Name y py] (.ListComp elt [⟨tg,iter,ifs,0⟩] scope pos) spos) (S1 i (JD nt ix wi g tt te)):=by
 intro pins s σ H D I h;obtain ⟨cl,hcl,c1,c2⟩:=rE (scope:=scope) (env:=X.env) fun y hy hf=>I.ok.has y.1 (S.free y hy hf);rw [exec_Assign_Name_used _ _ _ _ hsw];refine a6 (pQ (a6 ?_));show aq _ X.A (do let _ <- comprehension (.ListComp elt [⟨tg,iter,ifs,0⟩] scope pos) scope X.env _ (newList []) false (bY iter X.env) (some (rj (.Name y py) X.env))) _ _ s;refine a6 (cc (pR (use:=some (rj (.Name y py) X.env)) (Q:=fun _ s'=>SP X pins D .next s') rfl hs hcl S.kind S.loc
  (eR (hi pins s σ H _ I h) fun v s1 h1=>eR h1 fun itv s2 h2=>?_)) (fun _ s' hq=>aa (aa hq)) fun _ _ e=>e)
 obtain ⟨it,fp,tn,J,H2,e,I2,T,st2,f2,W,w0,turn⟩:=h2;subst e;refine Ev (Q:=fun x H1=>D.nx (σ.set i (some x)) H1) (RR:=fun acc C=>compPost (aD X.prog X.w) X.A X.xe (some (rj (.Name y py) X.env)) (fun _ s'=>SP X pins D .next s') acc C) (Gb fun a b c d e f=>(hb a b c d e f).2.2) hc S lo (fun a b c d e f=>⟨(hb a b c d e f).1,(hb a b c d e f).2.1⟩) c1 c2 I2 T st2 f2 w0 turn ?_;intro L C m s' acc H' hD fC q hn hI;show aq _ X.A (rj (.Name y py) X.env (.ref L)) _ _ _;have I3:bv X pins σ (upd H' L (.lst acc)) s':=hI s'.heap (.refl ..);refine wpAny_assign_Name (zC I3 hN hiN (.inl hy) (v:=.ref L) rfl (fun s4 I4 ⟨a,sb,ha⟩=>?_) (.inr hy));obtain ⟨g0,g1,g2,g3,g4,g5⟩:=fC;have hCa:C≠a:=by
  rcases ha with z|z
  ·rw [z];exact g1
  ·exact fun e=>g4 y a z e.symm
 refine ⟨m,hn.sameBut sb hCa,fun h5 sb5=>?_⟩;exact ⟨_,_,I4.turned (t':=s4.toks) (fun b o hb e=>(sb5.2 b hb).trans e) g0 g1 g3 g4 g5,q⟩
end
section
def Ex (e:Int×a9):Str:=match e.2 with
 |.str x _=>x
 |_=>⟨#[]⟩
def xi (w:bh) (e:Int×a9):Prop:=∃ x tk,e=(hashStr w x,jb x tk)
structure jm (w:bh) (h:br) (a:ac) (es:Array (Int×a9)) (ep:Nat) (t:ur):Prop where
 at_:h.get? a=some { cls:=.type "set",dict:=none,data:=.set es ep t }
 txt:∀ e∈es.toList,xi w e
 nd:(es.toList.map Ex).Nodup
 few:es.size<gF
 fits:t.fits es.size=true
 led:t.led=!w.params.followText "set-order"
 pl:es.size=0\/t.plain=false
inductive ny (w:bh) (h:br) (a:ac) (ss:List Str):Prop
 |mk (es ep t:_) (h0:jm w h a es ep t) (h1:(es.toList.map Ex).Perm ss):ny w h a ss
theorem Ey (t:ur) (es:Array (Int×a9)) (h:Int) (x:a9):(layNew t es h x).2.1.led=t.led:=by
 unfold layNew;cases t.freeSlot h with
 |none=>rfl
 |some p =>
  obtain ⟨slot,d⟩:=p;show ((t.put slot).1.orStandIn _).led=_;unfold DA;split<;>rfl
theorem AI (t:ur) (es:Array (Int×a9)) (h:Int) (x:a9):t.plain=false->(layNew t es h x).2.1.plain=false:=by
 intro hp;unfold layNew;cases t.freeSlot h with
 |none=>rfl
 |some p =>
  obtain ⟨slot,d⟩:=p;show ((t.put slot).1.orStandIn _).plain=_;unfold DA;split
  ·exact hp
  ·rfl
theorem Ca {t t':ur}{hs:Array Int}{n:Nat}{o:Array Nat} (h:t.relaid hs n=some (t',o)):t'.led=t.led/\t'.plain=t.plain:=by
 unfold SetTable.relaid SetTable.laid at h;cases e:SetTable.layClean (SetTable.sizeAbove n-1) hs with
 |none=>rw [e] at h;cases h
 |some ow =>
  rw [e] at h;have h:=bJ h;have h1:=congrArg Prod.fst h;subst h1;exact ⟨rfl,rfl⟩
theorem HB (t:ur) (es:Array (Int×a9)) (n:Nat):(ut t es n).2.1.led=t.led/\(t.plain=false->(ut t es n).2.1.plain=false):=by
 unfold ut;cases e:t.relaid (es.map (·.1)) n with
 |none=>exact ⟨rfl,fun _=>rfl⟩
 |some p =>
  obtain ⟨t',o⟩:=p;obtain ⟨h1,h2⟩:=Ca e;dsimp only;split
  ·exact ⟨h1,fun h=>h2.trans h⟩
  ·exact ⟨rfl,fun _=>rfl⟩
theorem JP   (h:∀ e∈l,xi w e):ElemsOf (strKind P w) l:=fun e he=>by
 obtain ⟨x,tk,rfl⟩:=h e he;exact ⟨⟨x,by simp [PySem.strKind,sJ],rfl⟩,rfl⟩
theorem TU (P:aR) (w:bh) (x:Str) (tk:Tok):(strKind P w).is x (.str x tk)=true:=by simp [PySem.strKind,sJ]
theorem Gc   (h:xi w e) (x:Str):(strKind P w).is x e.2=true↔Ex e=x:=by
 obtain ⟨y,tk,rfl⟩:=h;constructor
 ·intro q;have:=(strKind P w).inj _ _ _ q (TU P w y tk);rw [this];rfl
 ·rintro rfl;exact TU P w _ tk
section
theorem Gd     (I:jm w h a es ep t):(h.update a (uu es' t')).get? a=some { cls:=.type "set",dict:=none,data:=.set es' (ep+1) t' }:=by
 have q:=gP (uu es' t') I.at_ rfl;exact q
theorem HC     (hS:ny w s.heap a ss) (hr:ss.length+1<gF)
  (h:∀ h' tk',bW a s.heap h'->ny w h' a (if x∈ss then ss else ss++[x])->Q (!decide (x∈ss)) { s with heap:=h',toks:=tk' }) :
  aq (aD P w) A (setAddHashed a (.str x tk) ((strKind P w).hash x)) Q E s:=by
 obtain ⟨es,ep,t,I,pm⟩:=hS
 have hlen:es.size=ss.length:=by rw [<- pm.length_eq,aO,aZ]
 have hel:ElemsOf (strKind P w) es.toList:=JP I.txt
 unfold setAddHashed setAddHashedIn
 refine eE (a6 (eQ (s:=s) I.at_ rfl I.fits ?_))
 dsimp only
 rw [byScan_of rfl I.few hel]
 rw [if_pos rfl]
 unfold setAddByScan
 refine a6 (a6 (iR (a6 (wpAny_setScan_of (s:=s) (TU P w x tk) I.at_ rfl I.fits hel ?_))))
 have inmem:x∈ss↔∃ e∈es.toList,(strKind P w).is x e.2=true:=by
  rw [<- pm.mem_iff,List.mem_map]
  constructor
  ·rintro ⟨e,he,q⟩;exact ⟨e,he,(Gc (I.txt e he) x).mpr q⟩
  ·rintro ⟨e,he,q⟩;exact ⟨e,he,(Gc (I.txt e he) x).mp q⟩
 cases hf:List.findIdx? (fun e=>(strKind P w).is x e.2) es.toList with
 |some j =>
  obtain ⟨hj,hp,_⟩:=List.findIdx?_eq_some_iff_getElem.mp hf
  have hin:x∈ss:=inmem.mpr ⟨_,iC hj,hp⟩
  have q:=h s.heap s.toks (.refl ..) (by rw [if_pos hin];exact ⟨es,ep,t,I,pm⟩)
  rw [decide_eq_true hin] at q
  exact aa (aa q)
 |none =>
  have hout:x∉ss:=fun z=>by
   obtain ⟨e,he,q⟩:=inmem.mp z
   rw [List.findIdx?_eq_none_iff.mp hf e he] at q
   cases q
  have h:=fun h' tk' sb=>h h' tk' sb
  rw [decide_eq_false hout,if_neg hout] at h
  have p1:=layNew_perm t es ((strKind P w).hash x) (.str x tk)
  have f1:=layNew_fits t es ((strKind P w).hash x) (.str x tk)
  have l1:=Ey t es ((strKind P w).hash x) (.str x tk)
  have q1:=AI t es ((strKind P w).hash x) (.str x tk)
  generalize layNew t es ((strKind P w).hash x) (.str x tk)=L at p1 f1 l1 q1 ⊢
  obtain ⟨es1,t1,wd,gv⟩:=L
  dsimp only at p1 f1 l1 q1 ⊢
  rw [IJ] at p1
  have tx1:∀ e∈es1.toList,xi w e:=fun e he=>by
   rcases List.mem_append.mp (p1.mem_iff.mp he) with z|z
   ·exact I.txt e z
   ·rw [eh] at z;exact ⟨x,tk,z⟩
  have km:(es1.toList.map Ex).Perm (ss++[x]):=(p1.map Ex).trans (by rw [l7];exact pm.append_right _)
  have nd1:(ss++[x]).Nodup:=by
   rw [IX]
   exact ⟨pm.nodup_iff.mp I.nd,by simp,fun y hy z hz e=>hout (by rw [eh] at hz;rw [<- hz,<- e];exact hy)⟩
  have sz1:es1.size=es.size+1:=by rw [<- aZ,p1.length_eq,a_,aZ];rfl
  have few1:es1.size<gF:=by omega
  have gw:∀ (b:Bool) {s₁:ag}{Q':Unit->ag->Prop},Q' () s₁->aq (aD P w) A (match b with|true=>rule "set.scan.the-table-gave-way" | false=>pure ()) Q' E s₁ :=
   fun b _ _ z=>by cases b<;>first|exact aa z|exact iR z
  have tail:∀ t2:ur,t2.fits es1.size=true->t2.led=t.led->t2.plain=false->aq (aD P w) A (do
    storeSet a es1 t2
    if (!wd&&t2.tooFull)=true then do
      (match (ut t2 es1 (gQ es1.size)).2.2 with|true=>rule "set.scan.the-table-gave-way" | false=>pure ())
      storeSet a (ut t2 es1 (gQ es1.size)).1 (ut t2 es1 (gQ es1.size)).2.1
      pure (some true)
     else pure (some true)) (fun r s'=>r=some true/\Q true s') E s:=fun t2 f2 l2 n2=>by
   refine a6 (wpAny_storeSet_of (s:=s) I.at_ rfl ?_ (pC few1))
   have at1:=Gd (es':=es1) (t':=t2) I
   have sb1:=cQ s.heap a (uu es1 t2)
   have I1:jm w (s.heap.update a (uu es1 t2)) a es1 (ep+1) t2:=⟨at1,tx1,km.nodup_iff.mpr nd1,few1,f2,l2.trans I.led,.inr n2⟩
   split
   ·have p2:=relayAll_perm t2 es1 (gQ es1.size)
    have f3:=relayAll_fits t2 es1 (gQ es1.size)
    have l3:=HB t2 es1 (gQ es1.size)
    generalize ut t2 es1 (gQ es1.size)=R3 at p2 f3 l3 ⊢
    obtain ⟨es2,t3,gv2⟩:=R3
    dsimp only at p2 f3 l3 ⊢
    have few2:es2.size<gF:=by rw [<- aZ,p2.length_eq,aZ];exact few1
    have km2:=(p2.map Ex).trans km
    refine a6 (gw _ (a6 (wpAny_storeSet_of (s:={ s with heap:=s.heap.update a (uu es1 t2) }) I1.at_ rfl ?_ (pC few2))))
    refine aa ⟨rfl,h _ _ (sb1.trans (cQ _ a _)) ⟨es2,ep+1+1,t3,⟨Gd I1,fun e he=>tx1 e (p2.mem_iff.mp he),km2.nodup_iff.mpr nd1,few2,f3,l3.1.trans (l2.trans I.led),.inr (l3.2 n2)⟩,km2⟩⟩
   ·exact aa ⟨rfl,h _ _ sb1 ⟨es1,ep+1,t2,I1,km⟩⟩
  refine a6 (gw gv ?_)
  cases hp:t1.plain with
  |true =>
   simp only [if_true]
   rw [hashByValue_scannable 8 (x:=.str x tk) rfl]
   refine a6 (aa ?_)
   refine cc (tail { t1 with plain:=false } (by cases t1;exact f1) l1 rfl) (fun r s' z=>?_) fun _ _ z=>z
   obtain ⟨rfl,z⟩:=z
   exact aa z
  |false =>
   simp only [cy,if_false]
   refine a6 (aa ?_)
   refine cc (tail t1 f1 l1 hp) (fun r s' z=>?_) fun _ _ z=>z
   obtain ⟨rfl,z⟩:=z
   exact aa z
theorem Cb     (hS:ny w s.heap a ss) (hr:ss.length+1<gF)
  (h:∀ h' tk',bW a s.heap h'->ny w h' a (if x∈ss then ss else ss++[x])->Q (!decide (x∈ss)) { s with heap:=h',toks:=tk' }) :
  aq (aD P w) A (setAdd a (.str x tk)) Q E s:=by
 unfold setAdd;refine eE (a6 ((strKind P w).pyHash (k:=x) (TU P w x tk) ?_));exact HC (s:={ s with toks:=s.toks+1 }) hS hr h
end
end
section
abbrev k7 (w:bh):Obj:={ cls:=.type "set",dict:=none,data:=.set #[] 0 (.fresh 0 0 (!w.params.followText "set-order")) }
theorem zN (w:bh)  (e:h.get? a=some (k7 w)):ny w h a [] :=
 ⟨#[],0,_,⟨e,fun e he=>by simp at he,by simp,by decide,rfl,rfl,.inl rfl⟩,by simp⟩
def eA:List Str->List Str->List Str
 |acc,[]=>acc
 |acc,x::r=>eA (if x∈acc then acc else acc++[x]) r
theorem nA:∀ (l acc:List Str) (x:Str),x∈eA acc l↔x∈acc\/x∈l
 |[],acc,x=>by simp [eA]
 |y::r,acc,x=>by
  rw [eA,nA r];by_cases h:y∈acc
  ·rw [if_pos h];simp only [aV];constructor
   ·exact fun z=>z.elim .inl fun z=>.inr (.inr z)
   ·rintro (z|z|z)
    ·exact .inl z
    ·exact .inl (z ▸ h)
    ·exact .inr z
  ·rw [if_neg h];simp [MC,or_assoc]
theorem m9:∀ (l acc:List Str),acc.Nodup->(eA acc l).Nodup
 |[],acc,h=>h
 |y::r,acc,h=>by
  rw [eA];refine m9 r _ ?_;by_cases hy:y∈acc
  ·rw [if_pos hy];exact h
  ·rw [if_neg hy,IX];exact ⟨h,by simp,fun a ha b hb e=>hy (by rw [eh] at hb;rw [<- hb,<- e];exact ha)⟩
theorem kP:∀ (l acc:List Str),(eA acc l).length<=acc.length+l.length
 |[],acc=>by simp [eA]
 |y::r,acc=>by
  rw [eA];have:=kP r (if y∈acc then acc else acc++[y]);by_cases hy:y∈acc
  ·rw [if_pos hy] at this ⊢;simp only [bt];omega
  ·rw [if_neg hy] at this ⊢;simp only [bt,a_,ki,gI] at this ⊢;omega
section
theorem ny.keep   (x:ny w h a ss) (k:∀ o,h.get? a=some o->h'.get? a=some o):ny w h' a ss :=
 let ⟨es,ep,t,I,p⟩:=x;⟨es,ep,t,⟨k _ I.at_,I.txt,I.nd,I.few,I.fits,I.led,I.pl⟩,p⟩
theorem yK {I:ac}{fp wr:List ac}{n:Nat}{Pv:Nat->a9->Prop}{St:Nat->br->Prop} (W:MD prog w A.in1 I fp wr n Pv St) (D:ac) (hD:D∉fp) (xs:List Str) (hx:xs.length=n)
  (hv:∀ i v,Pv i v->∃ x t,xs[i]?=some x/\v=.str x t) (hb:n+1<gF) :
  ∀ (k i:Nat) (s:ag) (acc:List Str),n-i=k->i<=n->acc.length<=i->St i s.heap->ny w s.heap D acc ->
   (∀ h' tk,(∀ b o,b∉D::wr->s.heap.get? b=some o->h'.get? b=some o)->ny w h' D (eA acc (xs.drop i))->R (.ok (.ret .none)) { s with heap:=h',toks:=tk }) ->
   fO (aD prog w) A (.builtin "set.update.loop" ⟨[.ref D,.ref I],[]⟩) R s:=by
 have hDw:D∉wr:=fun z=>hD (W.sub _ z);intro k;induction k with
 |zero =>
  intro i s acc hk hi hl st hS hR;obtain rfl:i=n:=by omega
  refine ic nV ?_;rw [i7 gJ _];show aq _ A.in1 (rl (.ref I) >>= _) _ _ s;refine a6 (W.done s _ _ st fun h' tk kp=>?_);refine aa (hR h' tk (fun b o hb e=>kp b o (fun z=>hb (ar _ z)) e) ?_);rw [List.drop_of_length_le (by omega)];exact hS.keep fun o e=>kp D o hDw e
 |succ k ih =>
  intro i s acc hk hi hl st hS hR;have hlt:i<n:=by omega
  refine ic nV ?_;rw [i7 gJ _];show aq _ A.in1 (rl (.ref I) >>= _) _ _ s;refine a6 (W.item i s _ _ hlt st fun v h' tk hP st' kp=>?_);obtain ⟨x,t,hxi,rfl⟩:=hv i v hP;have hS':ny w h' D acc:=hS.keep fun o e=>kp D o hDw e;refine a6 (eE (Cb (s:={ s with heap:=h',toks:=tk }) hS' (by omega) fun h2 tk2 sb hS2=>?_));refine aa ⟨wy gJ _,ih (i+1) _ (if x∈acc then acc else acc++[x]) (by omega) hlt ?_ (W.frame _ _ _ st' fun b hb o e=>?_) hS2 fun h3 tk3 k3 hS3=>?_⟩
  ·by_cases z:x∈acc
   ·rw [if_pos z];omega
   ·rw [if_neg z,a_,ki];omega
  ·rw [sb.2 b fun z=>hD (z ▸ hb)];exact e
  ·refine hR h3 tk3 (fun b o hb e=>k3 b o hb ?_) ?_
   ·rw [sb.2 b fun z=>hb (by rw [z];exact ao)];exact kp b o (fun z=>hb (ar _ z)) e
   ·have hd:xs.drop i=x::xs.drop (i+1):=by
     obtain ⟨h1,h2⟩:=List.getElem?_eq_some_iff.mp hxi;rw [List.drop_eq_getElem_cons h1,h2]
    rw [hd,eA];exact hS3
theorem JQ (a:a9) (h:Q₁ (.ref s.heap.objs.size) { s with heap:=s.heap.push (k7 w) }) :
  fO (aD prog w) A (.call (.builtin "set.__new__") ⟨[.type "set",a],[]⟩) (wants Q₁ E) s:=by
 refine BR ?_;show aq _ A.in1 (do checkBuiltinCall "set.__new__" ⟨[.type "set",a],[]⟩;again (.builtin "set.__new__" ⟨[.type "set",a],[]⟩)) _ _ s;refine a6 (uv (F.newCall_set_1 a) (aa ⟨wy F.plain_set_new _,ic F.entry_set_new ?_⟩));rw [i7 F.plain_set_new _];unfold j8.«set.__new__» ME;have hsub:=sub_set_self;obtain ⟨hp,g,d,tk,os⟩:=s;dsimp only;wp_walk;refine j9 (aa ?_);dsimp only;simp only [newObj];refine a6 (MB (aa ?_));exact aa h
structure Qy (prog:aR) (w:bh) (A:bf) (T:String) (l:ac) (o:Obj) (items:Array a9):Prop where
 ty:o.cls=.type T
 s1:isSubtype (.type T) (.type "set")=pure false
 s2:isSubtype (.type T) (.type "frozenset")=pure false
 nd:(g9 T==g9 "dict")=false
 iter:∀ (s:ag) (Q:a9->ag->Prop) (E:a9->ag->Prop),s.heap.get? l=some o ->
  (∀ ob St,MD prog w A.in1 s.heap.objs.size [s.heap.objs.size,l] [s.heap.objs.size] items.size (fun i v=>items[i]?=some v) St->St 0 (s.heap.push ob)->Q (.ref s.heap.objs.size) { s with heap:=s.heap.push ob })->aq (aD prog w) A (wQ (.ref l)) Q E s
theorem tm {T:String}{l:ac}{ol:Obj}{items:Array a9}{xs:List Str}{Q:a9->ag->Prop}
  (src:Qy prog w A.in1.in1 T l ol items) (hol:s.heap.get? l=some ol) (hi:∀ (i:Nat) (v:a9),items[i]?=some v->∃ x t,xs[i]?=some x/\v=jb x t) (hx:xs.length=items.size) (hb:items.size+1<gF)
  (h:∀ (h':br) (tk:Nat),ny w h' s.heap.objs.size (eA [] xs)->(∀ b o,s.heap.get? b=some o->h'.get? b=some o)->Q (.ref s.heap.objs.size) { s with heap:=h',toks:=tk }) :
  aq (aD prog w) A (call (.type "set") [.ref l]) Q E s:=by
 obtain ⟨c,tl,hmro⟩:=F.called_set.mro;have hmade:=F.called_set.made;have hsub:=F.called_set.sub;refine rm (BR ?_);show aq _ _ (callAny (.type "set") _) _ _ _;refine aa ⟨IK _ (by decide +kernel),ic F.entry_type_call ?_⟩;rw [Around.under_plain (weight_type_call_type "set" [.ref l] []) rfl];have h1:=F.called_set.notType;have h2:=F.called_set.canCreate;have hct:=F.typeCall_set_1 (.ref l);repeat (any_goals (first|assumption|wp_step))
 refine ku (JQ (.ref l) (E:=E) (Q₁:=fun obj s₁=>obj=.ref s.heap.objs.size/\s₁={ s with heap:=s.heap.push (k7 w) }) ⟨rfl,rfl⟩) fun r s₁ hr=>?_;cases r with
 |error e=>exact hr
 |ok fl =>
  cases fl with
  |ret obj =>
   obtain ⟨rfl,rfl⟩:=hr;have hS:(s.heap.push (k7 w)).get? s.heap.objs.size=some (k7 w):=aA _ rfl;have hT:MF { s with heap:=s.heap.push (k7 w) } (.ref s.heap.objs.size) "set":=⟨_,hS,rfl⟩;have hli:=F.called_set.init.lookup;have hbi:=F.called_set.init.bind (.ref s.heap.objs.size);repeat (any_goals (first|assumption|wp_step))
   refine ku (uw (R:=wants (fun r s₂=>r=.none/\∃ h' tk,s₂={ s with heap:=h',toks:=tk }/\ny w h' s.heap.objs.size (eA [] xs) /\
     (∀ b o,s.heap.get? b=some o->h'.get? b=some o)) E) F.called_set.init.plain F.entry_set_init (check_set_init_1 hT ?_)) fun r₂ s₂ hr₂=>?_
   ·obtain ⟨oc,od,odt,os'⟩:=ol;obtain ⟨ty,s1,s2,nd,iter⟩:=src;have ty:oc=.type T:=ty;subst ty;have hol':(s.heap.push (k7 w)).get? l=some { cls:=.type T,dict:=od,data:=odt,slots:=os' }:=ae _ hol;unfold j8.«set.__init__» noKeywords MG;generalize hPI:wQ=PI;wp_walk;subst hPI;refine iter { s with heap:=s.heap.push (k7 w) } _ _ hol' fun ob St W st=>?_;have hlS:l<s.heap.objs.size:=ax hol;refine a6 (wpAny_runValue ?_);have szp:(s.heap.push (k7 w)).objs.size=s.heap.objs.size+1:=bS ..;refine yK (A:=A.in1.in1) W s.heap.objs.size (by rw [szp];simp only [aV,aN,or_false,not_or];exact ⟨aP (eZ _),gD hlS⟩) xs hx hi hb items.size 0 _ [] (by omega) (dg _) (az _) st (zN w (ae _ hS)) fun h' tk kp hS'=>?_;show aq _ _ _ _ _ _;refine aa ?_;show aq _ _ (ret cX) _ _ _;refine aa ⟨rfl,h',tk,rfl,hS',fun b o e=>kp b o ?_ (ae _ (ae _ e))⟩;have:=ax e;rw [szp];simp only [aV,aN,or_false,not_or];exact ⟨aP this,aP (i6 this)⟩
   ·cases r₂ with
    |error e=>exact hr₂
    |ok fl₂ =>
     cases fl₂ with
     |ret r =>
      obtain ⟨rfl,h',tk,rfl,hS',hk'⟩:=hr₂;repeat (any_goals (first|assumption|wp_step))
      exact h _ _ hS' hk'
     |next=>exact hr₂.elim
     |brk=>exact hr₂.elim
     |cont=>exact hr₂.elim
  |next=>exact hr.elim
  |brk=>exact hr.elim
  |cont=>exact hr.elim
theorem JR {l:ac}{o:Obj}{its:List a9} (hh:A.handled=none) (e0:o.cls=.type "list") (e1:∃ n,o.data=.seq its.toArray n):Qy prog w A "list" l o its.toArray :=
 ⟨e0,F.sub_list_set,F.sub_list_frozenset,by decide,fun s Q E e h=>pA ⟨_,e,e0,e1⟩
  (h _ _ (He (by simpa using hh) _ l (aP (ax e)) its.toArray) ⟨⟨_,aA _ rfl,rfl,rfl⟩,⟨_,ae _ e,e0,e1⟩⟩)⟩
theorem Nx {l:ac}{o:Obj}{its:List a9} (hh:A.handled=none) (e0:o.cls=.type "tuple") (e1:∃ n,o.data=.seq its.toArray n):Qy prog w A "tuple" l o its.toArray :=
 ⟨e0,F.sub_tuple_set,F.sub_tuple_frozenset,by decide,fun s Q E e h=>ft ⟨_,e,e0,e1⟩
  (h _ _ (Walks.tuple (by simpa using hh) _ l (aP (ax e)) its.toArray) ⟨⟨_,aA _ rfl,rfl,rfl⟩,⟨_,ae _ e,e0,e1⟩⟩)⟩
end
end
end L2
section
namespace L2
open PySem PySem.Spec PyProof.Rows
namespace SI
theorem entry_iter:entryFor table "set.__iter__"=some j8.«frozenset.__iter__» :=
 entryFor_alias (id':="frozenset.__iter__") (by kernel_rfl) rfl (by decide +kernel) (by kernel_rfl)
theorem slot_next:Slot "set_iterator" "__next__" "set_iterator.__next__":=by
 refine .of (owner:="set_iterator") (n:="__next__") ?_ ?_ ?_ ?_ ?_ ?_
 ·rw [typeLookup_type,Mn];kernel_rfl
 ·decide +kernel
 ·decide +kernel
 ·decide +kernel
 ·first
   |exact .inl (by decide +kernel)
   |exact .inr (by decide +kernel)
 ·rw [DZ];kernel_rfl
theorem entry_next:entryFor table "set_iterator.__next__"=some j8.«set_iterator.__next__» :=
 entryFor_of_tree (by kernel_rfl)
theorem Cc:Manifest.owners.lookup (String.ofList ['r','o','t','a','r','e','t','i','_','t','e','s'].reverse)=some Manifest.sig_set_iterator:=by kernel_rfl
theorem args_next (a:a9):argsOk "set_iterator.__next__" ⟨[a],[]⟩:=by
 unfold argsOk;rw [signature?_of (id:="set_iterator.__next__") (n:=['_','_','t','x','e','n','_','_']) (o:=['r','o','t','a','r','e','t','i','_','t','e','s']) (by kernel_rfl) Cc]
 kernel_rfl
theorem args_iter (a:a9):argsOk "set_iterator.__iter__" ⟨[a],[]⟩:=by
 unfold argsOk;rw [signature?_of (id:="set_iterator.__iter__") (n:=['_','_','r','e','t','i','_','_']) (o:=['r','o','t','a','r','e','t','i','_','t','e','s']) (by kernel_rfl) Cc]
 kernel_rfl
theorem entry_self:entryFor table "set_iterator.__iter__"=some j8.«dict_keyiterator.__iter__» :=
 entryFor_alias (id':="dict_keyiterator.__iter__") (by kernel_rfl) rfl (by decide +kernel) (by kernel_rfl)
theorem slot_iter:Slot "set_iterator" "__iter__" "set_iterator.__iter__":=by
 refine .of (owner:="set_iterator") (n:="__iter__") ?_ ?_ ?_ ?_ ?_ ?_
 ·rw [typeLookup_type,Mn];kernel_rfl
 ·decide +kernel
 ·decide +kernel
 ·decide +kernel
 ·first
   |exact .inl (by decide +kernel)
   |exact .inr (by decide +kernel)
 ·rw [DZ];kernel_rfl
end SI
end L2
end
namespace L2
open PySem PySem.Spec PyProof.Rows
section
theorem rF {α:Type}:∀ {l:List α}{i:Nat} (h:i<l.length),(l[i]::l.eraseIdx i).Perm l
 |x::r,0,_=>.refl _
 |x::r,i+1,h=>by
  have q:=rF (l:=r) (i:=i) (by simpa using h);rw [List.getElem_cons_succ,List.eraseIdx_cons_succ];exact (List.Perm.swap _ _ _).trans (q.cons x)
section
theorem HD   (hn:n≠0) (h:∀ i d,i<n->Q i { s with drawn:=d }):aq M A (choose src n) Q E s :=
 fun _ _ _=>⟨hn,h _ _ (Nat.mod_lt _ (Nat.pos_of_ne_zero hn))⟩
theorem tq {α:Type}:∀ (n:Nat) (xs:List α) (s:ag) (Q:List α->ag->Prop),n=xs.length->(∀ ys d,ys.Perm xs->Q ys { s with drawn:=d })->aq M A (drawOrder n xs) Q E s
 | 0,xs,s,Q,hn,h=>by
  obtain rfl:xs=[]:=List.length_eq_zero_iff.mp hn.symm;exact aa (h [] s.drawn .nil)
 |n+1,[],s,Q,hn,h=>by cases hn
 |n+1,x::r,s,Q,hn,h=>by
  show aq M A (choose .order (x::r).length >>= _) Q E s;refine a6 (HD (by simp) fun i d hi=>?_);rw [bn hi];refine a6 (tq n _ _ _ (by rw [zy hi];omega) fun ys d' p=>aa ?_);exact h _ _ ((p.cons _).trans (rF hi))
end
theorem AJ {α:Type} (next:Nat->Nat):∀ (n k:Nat) (left:List α) (out:Array α),n=left.length->(yD next n k left out).toList.Perm (out.toList++left)
 | 0,k,left,out,hn=>by
  obtain rfl:left=[]:=List.length_eq_zero_iff.mp hn.symm;rw [yD,cj]
 |n+1,k,left,out,hn=>by
  have hl:next k % left.length<left.length:=Nat.mod_lt _ (by omega)
  rw [yD,bn hl];refine (AJ next n (k+1) _ _ (by rw [zy hl];omega)).trans ?_;rw [IJ,vv];exact (rF hl).append_left _
theorem zO {α:Type} (next:Nat->Nat) (xs:Array α):(nW next xs).toList.Perm xs.toList:=by
 have:=AJ next xs.size 0 xs.toList #[] (by simp)
 simpa [nW] using this
def AK (h:br) (I S:ac) (first:a9) (i n ep:Nat):Prop:=h.get? I=some { cls:=.type "set_iterator",data:=.fields #[first,.int i 0,.ref S,.int n 0,.int ep 0] }
section
theorem AK.put {f f':a9}{j j':Nat}{k:Nat}{x:a9}{h:br} (hit:AK h I S f j n ep) (e:(#[f,.int j 0,.ref S,.int n 0,.int ep 0] : Array a9).setIfInBounds k x=#[f',.int j' 0,.ref S,.int n 0,.int ep 0]) :
  AK (h.update I (eX (·.setIfInBounds k x))) I S f' j' n ep:=by
 have q:=gP (eX (·.setIfInBounds k x)) hit rfl;unfold AK;rw [q];show some ({ cls:=.type "set_iterator",data:=.fields ((#[f,.int j 0,.ref S,.int n 0,.int ep 0] : Array a9).setIfInBounds k x) }:Obj)=_;rw [e]
theorem qC (hit:AK s.heap I S first i n ep) (hS:jm w s.heap S es ep t) (hn:n=es.size)
  (h:aq (aD prog w) A.in1 (do
   if let .int slot _:=first then
    match <- IY S slot.toNat i ep with
    |some (x,next) =>
     gG (.ref I) 0 (cf next)
     gG (.ref I) 1 (cf (i+1))
     ret x
    |none=>gG (.ref I) 2 .none;ux (<- wV (.type "StopIteration") [])
   else
    let some places <- IL first|MH "internal:set_iterator"
    match places[i]? with
    |some (.int place _) =>
     let x <- setNextDrawn S place.toNat ep
     gG (.ref I) 1 (cf (i+1))
     ret x
    |some _=>MH "internal:set_iterator"
    |none=>gG (.ref I) 0 (cf 0);gG (.ref I) 2 .none;ux (<- wV (.type "StopIteration") []))
   (fun fin s'=>∃ v,fin=.done (.ret v)/\Q (some v) s') (fun e s'=>aq (aD prog w) A (D_ e (.type "StopIteration")) (fun b s''=>b=true/\Q none s'') E s') s) :
  aq (aD prog w) A (rl (.ref I)) Q E s:=by
 unfold rl;refine a6 (lU ?_);refine cr (name:=gE "__next__") ⟨_,hit,rfl⟩ SI.slot_next ?_;refine cu SI.slot_next ⟨_,hit,rfl⟩ SI.entry_next ?_ (SI.args_next _);show aq _ _ (fieldsOf (.ref I) >>= _) _ _ s;refine a6 (wpAny_fieldsOf hit rfl ?_);show aq _ _ (setEntries S >>= _) _ _ s;refine a6 (wpAny_setEntries_of hS.at_ rfl hS.fits ?_);rw [if_neg (by rw [hn];simp)];refine cc h (fun fin s' z=>?_) fun e s' z=>?_
 ·obtain ⟨v,rfl,q⟩:=z;exact ⟨v,rfl,aa q⟩
 ·refine a6 (cc z (fun b s'' ⟨hb,q⟩=>?_) fun _ _ z=>z);subst hb;exact aa q
theorem AL {B:bf}{Q:Option a9->ag->Prop}{Q':Fin->ag->Prop}{o:Obj}{vs:Array a9} (hh:B.handled=none) (ho:s.heap.get? I=some o) (hd:o.data=.fields vs) (hz:2<vs.size)
  (h:∀ h',Heap.ExtBut I s.heap h'->Q none { s with heap:=h' }) :
  aq (aD prog w) B (do gG (.ref I) 2 .none;ux (<- wV (.type "StopIteration") []))
   Q' (fun e s'=>aq (aD prog w) A (D_ e (.type "StopIteration")) (fun b s''=>b=true/\Q none s'') E s') s:=by
 refine a6 (iS ho hd hz ?_);show aq _ _ (wV (.type "StopIteration") [] >>= _) _ _ _;refine a6 ?_;simp only [wV,newTuple];refine a6 (bG ?_ (by size_fits));refine a6 (m:=uy _ _) (uv (a:=cX) ?_ ?_)
 ·first
   |rfl
   |(simp only [uy];rfl)
 refine bG ?_ (by size_fits);simp only [ux];refine a6 (wpAny_handled ?_);rw [hh];refine a6 (aa (wpAny_throw ?_));refine qT (T:="StopIteration") (b:=true) ⟨_,aA _ rfl,rfl⟩ E2 ⟨rfl,?_⟩;exact h _ (((cQ ..).extBut.push _).push _)
end
end
section
section
variable {prog:aR}{w:bh}{A:bf}{E:a9->ag->Prop}{s:ag}{I S:ac}{es:Array (Int×a9)}{ep:Nat}{t:ur}{i n:Nat}{first:a9}
theorem jm.keep (x:jm w h S es ep t) (k:∀ o,h.get? S=some o->h'.get? S=some o):jm w h' S es ep t:=⟨k _ x.at_,x.txt,x.nd,x.few,x.fits,x.led,x.pl⟩
theorem AM {Q:a9->ag->Prop} (hit:AK s.heap I S first i n ep) (h:Q (.ref I) s):aq (aD prog w) A (wQ (.ref I)) Q E s:=by
 refine wpAny_pyIter_slot ⟨_,hit,rfl⟩ SI.slot_iter (cu SI.slot_iter ⟨_,hit,rfl⟩ SI.entry_self ?_ (SI.args_iter _));show aq _ _ (ret (.ref I)) _ _ s;exact aa ⟨_,rfl,"set_iterator",_,⟨_,hit,rfl⟩,SI.slot_next.lookup,h⟩
theorem gy {Q:Bool->ag->Prop}{B:bf} (h:Q (w.params.followText "set-order") s):aq (aD prog w) B setsByText Q E s:=by
 unfold setsByText;exact a6 (j9 (aa h))
theorem JU {B:bf}{Q':Fin->ag->Prop}{x:a9}{nx:Nat}{E':a9->ag->Prop} (hit:AK s.heap I S first i n ep)
  (h:∀ h',AK h' I S (.int nx 0) (i+1) n ep->bW I s.heap h'->Q' (.done (.ret x)) { s with heap:=h' }) :
  aq (aD prog w) B (do gG (.ref I) 0 (cf nx);gG (.ref I) 1 (cf (i+1));ret x) Q' E' s:=by
 refine a6 (iS hit rfl (by simp) ?_);have h1:AK (s.heap.update I (eX (·.setIfInBounds 0 (cf nx)))) I S (.int nx 0) i n ep:=hit.put (by simp [cf]);refine a6 (iS h1 rfl (by simp) ?_);have h2:AK ((s.heap.update I (eX (·.setIfInBounds 0 (cf nx)))).update I (eX (·.setIfInBounds 1 (cf (i+1))))) I S (.int nx 0) (i+1) n ep:=h1.put (by simp [cf]);exact aa (h _ h2 ((cQ ..).trans (cQ ..)))
theorem uK (f:Nat->Nat) (es:Array (Int×a9)):(nW f es).size=es.size:=by
 rw [<- aZ,(zO f es).length_eq,aZ]
theorem Ez (hh:A.handled=none) (hw:w.params.followText "set-order"=true) (hne:S≠I) :
  MD prog w A I [I,S] [I] es.size (fun i v=>((nW (w.params.setOrder S ep) es).toList.map (·.2))[i]?=some v) (fun i h=>AK h I S (.int 0 0) i es.size ep/\jm w h S es ep t) where
 sub:=fun b hb=>by simp at hb;simp [hb]
 frame:=fun i h h' st k=>⟨k I (by simp) _ st.1,st.2.keep fun o e=>k S (by simp) o e⟩
 item:=fun i s Q E hi st hQ=>by
  obtain ⟨hit,hS⟩:=st;refine qC hit hS rfl ?_;dsimp only;unfold IY setWalk;refine a6 (a6 (eQ hS.at_ rfl hS.fits (a6 (gy ?_))));rw [hw];simp only [if_true,bne_self_eq_false,cy,if_false];refine a6 (a6 (eQ hS.at_ rfl hS.fits (a6 (gy ?_))));rw [hw];simp only [if_true];refine a6 (j9 (aa (aa ?_)));have hi':i<(nW (w.params.setOrder S ep) es).size:=by rw [uK];exact hi
  show aq _ _ (match ((nW (w.params.setOrder S ep) es)[i]?).map fun e=>(e.2,(0:Int).toNat) with
   |some (x,next)=>do gG (.ref I) 0 (cf next);gG (.ref I) 1 (cf (i+1));ret x
   |none=>do gG (.ref I) 2 .none;ux (<- wV (.type "StopIteration") [])) _ _ s
  rw [getElem?_pos _ i hi'];refine JU (nx:=0) hit fun h' h1 sb=>⟨_,rfl,hQ _ h' s.toks ?_ ⟨h1,hS.keep fun o e=>(sb.2 S hne).trans e⟩ fun b o hb e=>(sb.2 b fun z=>hb (by simp [z])).trans e⟩;simp [hi']
 done:=fun s Q E st hQ=>by
  obtain ⟨hit,hS⟩:=st;refine qC hit hS rfl ?_;dsimp only;unfold IY setWalk;refine a6 (a6 (eQ hS.at_ rfl hS.fits (a6 (gy ?_))));rw [hw];simp only [if_true,bne_self_eq_false,cy,if_false];refine a6 (a6 (eQ hS.at_ rfl hS.fits (a6 (gy ?_))));rw [hw];simp only [if_true];refine a6 (j9 (aa (aa ?_)));show aq _ _ (match ((nW (w.params.setOrder S ep) es)[es.size]?).map fun e=>(e.2,(0:Int).toNat) with
   |some (x,next)=>do gG (.ref I) 0 (cf next);gG (.ref I) 1 (cf (es.size+1));ret x
   |none=>do gG (.ref I) 2 .none;ux (<- wV (.type "StopIteration") [])) _ _ s
  rw [getElem?_neg _ es.size (by rw [uK];exact cS _)];exact AL (by simpa using hh) hit rfl (by simp) fun h' eb=>hQ h' s.toks fun b o hb e=>eb b o (fun z=>hb (by simp [z])) e
 self:=fun i s Q E st h=>AM st.1 h
inductive UE (h:br) (T:ac) (ps:List Nat):Prop
 |mk (o k:_) (h0:h.get? T=some o) (h1:o.data=.seq (ps.map fun (p:Nat)=>lS (p:Int) 0).toArray k):UE h T ps
theorem Cd (hh:A.handled=none)  (hne:S≠I) (hT:T≠I) (hp:∀ p∈ps,p<es.size) (hn:ps.length=es.size) :
  MD prog w A I [I,S,T] [I] es.size (fun i v=>(ps.map fun p=>(es.getD p (0,.none)).2)[i]?=some v) (fun i h=>AK h I S (.ref T) i es.size ep/\jm w h S es ep t/\UE h T ps) where
 sub:=fun b hb=>by simp at hb;simp [hb]
 frame:=fun i h h' st k=>⟨k I (by simp) _ st.1,st.2.1.keep fun o e=>k S (by simp) o e,let ⟨o,q,e,d⟩:=st.2.2;⟨o,q,k T (by simp) o e,d⟩⟩
 item:=fun i s Q E hi st hQ=>by
  obtain ⟨hit,hS,o,q,e,d⟩:=st;refine qC hit hS rfl ?_;dsimp only;refine a6 (eI e d ?_);have hi':i<ps.length:=by omega
  dsimp only;rw [show ((ps.map fun (p:Nat)=>lS (p:Int) 0).toArray)[i]?=some (.int (ps[i] : Nat) 0) by simp [hi']];dsimp only;unfold setNextDrawn;refine a6 (a6 (eQ hS.at_ rfl hS.fits ?_));have hlt:=hp ps[i] (iC hi');simp only [bne_self_eq_false,cy,if_false,jE];rw [getElem?_pos es ps[i] hlt];refine aa ?_;refine a6 (iS hit rfl (by simp) ?_);have h1:AK (s.heap.update I (eX (·.setIfInBounds 1 (cf (i+1))))) I S (.ref T) (i+1) es.size ep:=hit.put (by simp [cf]);have sb:bW I s.heap (s.heap.update I (eX (·.setIfInBounds 1 (cf (i+1))))):=cQ ..;refine aa ⟨_,rfl,hQ _ _ s.toks ?_ ⟨h1,hS.keep fun o e=>(sb.2 S hne).trans e,o,q,(sb.2 T hT).trans e,d⟩ fun b o hb e=>(sb.2 b fun z=>hb (by simp [z])).trans e⟩;simp [hi',hlt]
 done:=fun s Q E st hQ=>by
  obtain ⟨hit,hS,o,q,e,d⟩:=st;refine qC hit hS rfl ?_;dsimp only;refine a6 (eI e d ?_);dsimp only;rw [show ((ps.map fun (p:Nat)=>lS (p:Int) 0).toArray)[es.size]?=none by simp [<- hn]];dsimp only;refine a6 (iS hit rfl (by simp) ?_);have h1:AK (s.heap.update I (eX (·.setIfInBounds 0 (cf 0)))) I S (.int 0 0) es.size es.size ep:=hit.put (by simp [cf]);have sb:bW I s.heap (s.heap.update I (eX (·.setIfInBounds 0 (cf 0)))):=cQ ..;exact AL (s:={ s with heap:=s.heap.update I (eX (·.setIfInBounds 0 (cf 0))) }) (by simpa using hh) h1 rfl (by simp) fun h' eb=>hQ h' s.toks fun b o hb e=>eb b o (fun z=>hb (by simp [z])) ((sb.2 b fun z=>hb (by simp [z])).trans e)
 self:=fun i s Q E st h=>AM st.1 h
theorem JV  (h:p=#[j]):gR p 0=0:=by subst h;simp [gR,yE]
theorem JX {p:Array Nat}{j:Nat} (h:p=#[j]):gR p (j+1)=1:=by subst h;simp [gR,yE]
theorem HE (h : t.fits 1 = true) : ∃ j, t.place = #[j] := by
  have h1 : t.place.size = 1 := by
    simp only [SetTable.fits, aJ, beq_iff_eq] at h; exact h.1
  exact ⟨t.place[0], by apply Array.ext; · simp [h1]
                        · intro i h2 h3; have : i = 0 := by omega
                          subst this; simp⟩
theorem Qz   (hl:t.led=true) (h:aq (aD prog w) B (k ()) Q E s) :
  aq (aD prog w) B ((if (!t.led && !es.isEmpty)=true then MH "set:maker-not-led" else pure ()) >>= k) Q E s:=by
 rw [if_neg (by rw [hl];simp)];exact a6 (aa h)
theorem tu {B:bf}{slot g:Nat}{Q:Option (a9×Nat)->ag->Prop} (hw:w.params.followText "set-order"=false) (hS:jm w s.heap S es ep t) (h1:es.size<=1)
  (h:Q (match es[gR t.place slot]?,t.place[gR t.place slot]? with|some (_,x),some j=>some (x,j+1)|_,_=>none) s):aq (aD prog w) B (IY S slot g ep) Q E s:=by
 unfold IY;refine a6 (eQ hS.at_ rfl hS.fits (a6 (gy ?_)));rw [hw];simp only [cy,if_false];split
 ·rename_i z
  exact absurd (show (!t.plain&&decide (es.size > 1))=true from z) (by simp;omega)
 ·have hl:t.led=true:=by rw [hS.led,hw];rfl
  exact Qz hl (aa h)
theorem HF (hh:A.handled=none) (hw:w.params.followText "set-order"=false) (hne:S≠I) (h1:es.size<=1) :
  MD prog w A I [I,S] [I] es.size (fun i v=>(es.toList.map (·.2))[i]?=some v)
   (fun i h=>∃ k,AK h I S (.int (k:Nat) 0) i es.size ep/\jm w h S es ep t/\(i=0->k=0)/\(i=1->es.size=1->∃ j,t.place=#[j]/\k=j+1)) where
 sub:=fun b hb=>by simp at hb;simp [hb]
 frame:=fun i h h' st k=>let ⟨c,a1,a2,a3⟩:=st;⟨c,k I (by simp) _ a1,a2.keep fun o e=>k S (by simp) o e,a3⟩
 item:=fun i s Q E hi st hQ=>by
  obtain ⟨c,hit,hS,c0,c1⟩:=st;have hi0:i=0:=by omega
  subst hi0;obtain rfl:c=0:=c0 rfl;have e1:es.size=1:=by omega
  obtain ⟨j,hj⟩:=HE (t:=t) (by rw [<- e1];exact hS.fits);refine qC hit hS rfl ?_;dsimp only;refine a6 (tu hw hS h1 ?_);rw [show (((0:Nat):Int).toNat)=0 from rfl,JV hj,getElem?_pos es 0 (by omega),hj];refine JU (nx:=j+1) hit fun h' h1 sb=>⟨_,rfl,hQ _ h' s.toks ?_ ⟨j+1,h1,hS.keep fun o e=>(sb.2 S hne).trans e,by simp,fun _ _=>⟨j,hj,rfl⟩⟩ fun b o hb e=>(sb.2 b fun z=>hb (by simp [z])).trans e⟩;simp [e1]
 done:=fun s Q E st hQ=>by
  obtain ⟨c,hit,hS,c0,c1⟩:=st;refine qC hit hS rfl ?_;dsimp only;refine a6 (tu hw hS h1 ?_);have hz:es[gR t.place ((c:Nat):Int).toNat]?=none:=by
   rcases Nat.eq_zero_or_pos es.size with z|z
   ·rw [getElem?_neg];omega
   ·have e1:es.size=1:=by omega
    obtain ⟨j,hj,hc⟩:=c1 e1 e1;rw [hc,show (((j+1:Nat):Int).toNat)=j+1 from rfl,JX hj,getElem?_neg];omega
  rw [hz];exact AL (by simpa using hh) hit rfl (by simp) fun h' eb=>hQ h' s.toks fun b o hb e=>eb b o (fun z=>hb (by simp [z])) e
 self:=fun i s Q E st h=>let ⟨_,a1,_⟩:=st;AM a1 h
theorem EA {Q:a9->ag->Prop} (hh:A.handled=none) (hS:jm w s.heap S es ep t)
  (h:∀ (I:ac) (fp:List ac) (ord:List a9) (St:Nat->br->Prop) (h':br) (d:ID),s.heap.objs.size<=I->(∀ b∈fp,b=S\/s.heap.objs.size<=b)->(∀ b∈fp,b<h'.objs.size)->ord.Perm (es.toList.map (·.2))->(∀ B:bf,B.handled=none->MD prog w B I fp [I] ord.length (fun i v=>ord[i]?=some v) St)->St 0 h' ->
   (∀ b o,s.heap.get? b=some o->h'.get? b=some o)->MF { s with heap:=h',drawn:=d } (.ref I) "set_iterator"->Q (.ref I) { s with heap:=h',drawn:=d }):aq (aD prog w) A (wQ (.ref S)) Q E s:=by
 have hT:s.TypeIs (.ref S) "set":=⟨_,hS.at_,rfl⟩;have hlt:=ax hS.at_;refine wpAny_pyIter_slot hT F.slot_set_iter (cu F.slot_set_iter hT SI.entry_iter ?_ (F.args_set_iter_1 _));show aq _ _ (ro S >>= _) _ _ s;unfold ro;refine a6 (a6 (wpAny_setEntries_of hS.at_ rfl hS.fits (aa ?_)));show aq _ _ (setDrawn S >>= _) _ _ s;unfold setDrawn;refine a6 (a6 (eQ hS.at_ rfl hS.fits (a6 (gy (aa ?_)))));have fin:∀ (first:a9) (fp:List ac) (ord:List a9) (St:Nat->br->Prop) (h':br) (d:ID),(∀ b o,s.heap.get? b=some o->h'.get? b=some o)->s.heap.objs.size<=h'.objs.size ->
   (∀ b∈fp,b=S\/b=h'.objs.size\/(s.heap.objs.size<=b/\b<h'.objs.size))->ord.Perm (es.toList.map (·.2))->(∀ B:bf,B.handled=none->MD prog w B h'.objs.size fp [h'.objs.size] ord.length (fun i v=>ord[i]?=some v) St) ->
   (∀ h'':br,(∀ b o,h'.get? b=some o->h''.get? b=some o)->AK h'' h'.objs.size S first 0 es.size ep->St 0 h'') ->
   aq (aD prog w) A.in1 (setEpoch S >>= fun e=>newFields "set_iterator" [first,cf 0,.ref S,cf es.size,cf e] >>= fun x=>ret x) (fun fin s'=>∃ v,fin=.done (.ret v)/\∃ T' r,s'.TypeIs v T'/\DT (.type T') "__next__"=pure (some r)/\Q v s') E { s with heap:=h',drawn:=d }:=by
  intro first fp ord St h' d kp hsz hfp pm W st
  have hS':jm w h' S es ep t:=hS.keep fun o e=>kp S o e;refine a6 (wpAny_setEpoch_of (s:={ s with heap:=h',drawn:=d }) hS'.at_ rfl hS'.fits ?_);refine a6 (bG ?_ (by size_fits));have gp:∀ b o,h'.get? b=some o->(h'.push { cls:=.type "set_iterator",dict:=none,data:=.fields #[first,cf 0,.ref S,cf es.size,cf ep] }).get? b=some o:=fun b o e=>ae _ e;have it:(h'.push { cls:=.type "set_iterator",dict:=none,data:=.fields #[first,cf 0,.ref S,cf es.size,cf ep] }).get? h'.objs.size=some { cls:=.type "set_iterator",dict:=none,data:=.fields #[first,cf 0,.ref S,cf es.size,cf ep] }:=aA _ rfl;refine aa ⟨_,rfl,"set_iterator",_,⟨_,it,rfl⟩,SI.slot_next.lookup,h h'.objs.size fp ord St _ d hsz (fun b hb=>?_) (fun b hb=>?_) pm W (st _ gp it) (fun b o e=>gp b o (kp b o e)) ⟨_,it,rfl⟩⟩
  ·rcases hfp b hb with z|z|z
   ·exact .inl z
   ·exact .inr (by rw [z];exact hsz)
   ·exact .inr z.1
  ·rw [bS];rcases hfp b hb with z|z|z
   ·rw [z];exact i6 (aF hlt hsz)
   ·rw [z];exact eZ _
   ·exact i6 z.2
 dsimp only;split
 ·rename_i z
  have z:(!w.params.followText "set-order" && (!t.plain&&decide (es.size > 1)))=true:=z;refine a6 (tq _ _ _ _ (by simp) fun ys d pm=>?_);simp only [newTuple];have hyl:ys.length=es.size:=by have:=pm.length_eq;rwa [jA] at this
  have zl:=pC hS.few;refine a6 (bG ?_ (by show (ys.map fun (i:Nat)=>cf i).toArray.size<=sizeLine;simp;omega));have tp:∀ ob:Obj,(s.heap.push ob).objs.size=s.heap.objs.size+1:=fun ob=>bS ..;refine fin (.ref s.heap.objs.size) [s.heap.objs.size+1,S,s.heap.objs.size] (ys.map fun p=>(es.getD p (0,.none)).2)
   (fun i h=>AK h (s.heap.objs.size+1) S (.ref s.heap.objs.size) i es.size ep/\jm w h S es ep t/\UE h s.heap.objs.size ys) (s.heap.push _) d
   (fun b o e=>ae _ e) (by rw [tp];exact kO _) (fun b hb=>?_) ?_ (fun B hB=>?_) (fun h'' k it=>⟨by rw [tp] at it;exact it,hS.keep fun o e=>k S o (ae _ e),_,_,k _ _ (aA _ rfl),rfl⟩)
  ·simp only [aV,aN,or_false] at hb;rcases hb with y|y|y
   ·exact .inr (.inl (by rw [tp];exact y))
   ·exact .inl y
   ·exact .inr (.inr ⟨by rw [y];exact az _,by rw [tp,y];exact eZ _⟩)
  ·refine (pm.map _).trans (.of_eq ?_);apply Mo
   ·simp
   ·intro k h1 h2;have:k<es.size:=by simpa using h1
    simp [this]
  ·rw [aO,hyl,tp];exact Cd hB (aP (i6 hlt)) (aP (eZ _)) (fun p hp=>List.mem_range.mp (pm.mem_iff.mp hp)) hyl
 ·rename_i z
  have z:¬ (!w.params.followText "set-order" && (!t.plain&&decide (es.size > 1)))=true:=z;refine a6 (aa ?_);have hne:S≠s.heap.objs.size:=aP hlt;cases hw:w.params.followText "set-order" with
  |true =>
   refine fin (cf 0) [s.heap.objs.size,S] ((nW (w.params.setOrder S ep) es).toList.map (·.2)) (fun i h=>AK h s.heap.objs.size S (.int 0 0) i es.size ep/\jm w h S es ep t) s.heap s.drawn (fun _ _ e=>e) (az _) (fun b hb=>?_) ((zO _ es).map _) (fun B hB=>?_) (fun h'' k it=>⟨it,hS.keep fun o e=>k S o e⟩)
   ·simp only [aV,aN,or_false] at hb;exact hb.elim (fun z=>.inr (.inl z)) .inl
   ·rw [aO,aZ,uK];exact Ez hB hw hne
  |false =>
   have h1:es.size<=1:=by
    rw [hw] at z;rcases hS.pl with y|y
    ·omega
    ·rw [y] at z;simpa using z
   refine fin (cf 0) [s.heap.objs.size,S] (es.toList.map (·.2)) (fun i h=>∃ k,AK h s.heap.objs.size S (.int (k:Nat) 0) i es.size ep/\jm w h S es ep t/\(i=0->k=0)/\(i=1->es.size=1->∃ j,t.place=#[j]/\k=j+1)) s.heap s.drawn (fun _ _ e=>e) (az _) (fun b hb=>?_) (.refl _) (fun B hB=>?_) (fun h'' k it=>⟨0,it,hS.keep fun o e=>k S o e,fun _=>rfl,fun y=>by cases y⟩)
   ·simp only [aV,aN,or_false] at hb;exact hb.elim (fun z=>.inr (.inl z)) .inl
   ·rw [aO,aZ];exact HF hB hw hne h1
end
end
section
section
theorem Ce (hh:A.handled=none) (hS:jm w s.heap S es ep t)
  (h:∀ (ord:List a9) (h':br) (d:ID) (tk:Nat),ord.Perm (es.toList.map (·.2))->(∀ b o,s.heap.get? b=some o->h'.get? b=some o)->s.heap.objs.size<=h'.objs.size->Q ord { s with heap:=h',drawn:=d,toks:=tk }) :
  aq (aD prog w) A (collect (.ref S)) Q E s:=by
 have hlt:=ax hS.at_;unfold collect;refine a6 (wpAny_runValue (ic F.entry_proto_collect ?_));rw [i7 F.plain_proto_collect _];show aq _ A.in1 (newList [] >>= fun l=>again (.builtin "list.__iadd__" ⟨[l,.ref S],[]⟩)) _ _ s;refine a6 (bG ?_);refine aa ⟨wy F.plain_list_iadd _,ic F.entry_list_iadd ?_⟩;rw [i7 F.plain_list_iadd _];let s1:ag:={ s with heap:=s.heap.push { cls:=.type "list",data:=.seq ([] : List a9).toArray } }
 have sz1:s1.heap.objs.size=s.heap.objs.size+1:=bS ..;have at1:s1.heap.get? s.heap.objs.size=some { cls:=.type "list",data:=.seq ([] : List a9).toArray }:=aA _ rfl;have hS1:jm w s1.heap S es ep t:=hS.keep fun o e=>ae _ e;show aq _ A.in1 (sX (.ref s.heap.objs.size) (.ref S) (.ref s.heap.objs.size)) _ _ s1;have hT1:s1.TypeIs (.ref S) "set":=⟨_,hS1.at_,rfl⟩;unfold sX;refine a6 (nj hT1 ?_);have e1:vy (.ref s.heap.objs.size) (.ref S)=false:=by simp [vy,gD hlt]
 have e2:(g9 "set" == g9 "list")=false:=by decide
 have e3:(g9 "set" == g9 "tuple")=false:=by decide
 simp only [e1,e2,e3,Bool.or_false,cy,if_false];refine a6 (EA (A:=A.in1) (by simpa using hh) hS1 fun I fp ord St h' d hI hfp hfl pm W st kp tI=>?_);let s2:ag:={ s1 with heap:=h',drawn:=d }
 have hS2:jm w s2.heap S es ep t:=hS1.keep fun o e=>kp S o e;have hT2:s2.TypeIs (.ref S) "set":=⟨_,hS2.at_,rfl⟩;refine a6 (eE ?_);unfold Builtin.List.listLengthHint;refine a6 (wpAny_specialOf (s:=s2) hT2 F.slot_set_len.lookup ?_);dsimp only;rw [show splitId "set.__len__"=some ("set","__len__") from by decide +kernel];dsimp only;refine a6 (qT (b:=true) (s:=s2) hT2 (by rw [DZ];kernel_rfl) ?_);rw [if_neg (by decide),if_pos (by decide)];refine a6 (nj (s:=s2) hT2 (aa ?_));rw [if_pos (by decide)];refine a6 (iR ?_);have nS:s.heap.objs.size∉fp:=fun z=>by
  rcases hfp _ z with q|q
  ·exact absurd hlt (by rw [<- q];exact cS _)
  ·rw [sz1] at q;exact absurd q (Nat.not_succ_le_self _)
 have at2:s2.heap.get? s.heap.objs.size=some { cls:=.type "list",data:=.seq ([] : List a9).toArray }:=kp _ _ at1;refine a6 ?_;show aq _ A.in1 (updateSeq s.heap.objs.size (·.push .none) >>= fun _=>updateSeq s.heap.objs.size (·.pop)) _ _ s2;refine a6 (BS at2 rfl ?_);have at3:=gP (jg (·.push cX)) at2 rfl;refine BS at3 rfl ?_;have at4:=gP (jg (·.pop)) at3 rfl;have oth:∀ b o,b≠s.heap.objs.size->s2.heap.get? b=some o->((s2.heap.update s.heap.objs.size (jg (·.push cX))).update s.heap.objs.size (jg (·.pop))).get? b=some o :=
  fun b o hb e=>(pB _ _ (eV hb)).trans ((pB _ _ (eV hb)).trans e)
 have zl:ord.length<=sizeLine:=by rw [pm.length_eq,aO,aZ];exact pC hS.few
 have W1:=W A.in1 (by simpa using hh);refine aa ⟨wy F.plain_extend_loop _,codeAny_extend_loopS (A:=A) W1.toS zl _ nS _ ord.length 0 { s2 with heap:=(s2.heap.update s.heap.objs.size (jg (·.push cX))).update s.heap.objs.size (jg (·.pop)) } _ _ rfl (dg _) (W1.frame 0 _ _ st fun b hb o e=>oth b o (fun z=>nS (z ▸ hb)) e) at4 (ItemsOf.nil _) fun s' acc' c' hm hS' hacc=>?_⟩;show aq _ A (load s.heap.objs.size >>= _) _ _ s';refine a6 (wpAny_load hS' (aa ?_));have hacc':acc'.toList=ord:=by
  apply List.ext_getElem?;intro j;rw [f9];by_cases hj:j<acc'.size
  ·have:=hacc.2 j acc'[j] (by simp [hj]);rw [this];simp [hj]
  ·rw [getElem?_neg acc' j hj,cg (by rw [<- hacc.1];omega)]
 rw [hacc'];obtain ⟨h3,g3,d3,t3,o3⟩:=s';obtain rfl:g3=s.gens:=hm.gens;obtain rfl:d3=d:=hm.drawn;obtain rfl:o3=s.os:=hm.os;have old:∀ b o,s.heap.get? b=some o->h3.get? b=some o:=fun b o e=>by
  have hb:=ax e;refine hm.heap b o ?_ (oth b o (aP hb) (kp b o (ae _ e)));simp only [aV,aN,or_false,not_or];exact ⟨aP hb,aP (aF hb (by have q:=hI;rw [sz1] at q;exact Nat.le_of_succ_le q))⟩
 refine h ord h3 _ t3 pm old ?_;have:=ax (show h3.get? s.heap.objs.size=some _ from hS');exact bi this
theorem Cf  (hc:aq (aD prog w) A.in1 (collect x) (fun vs s1=>∃ ss,rq vs ss/\vs.length<64 /\
   ∀ (h':br) (vs':List a9) (ss':List Str) (e:Nat),(∀ b o,s1.heap.get? b=some o->h'.get? b=some o)->h'.get? s1.heap.objs.size=some (seqObj "list" vs'.toArray e)->rq vs' ss'->ss'.Perm ss->sortedS ss'=true ->
    Q (.ref s1.heap.objs.size) { s1 with heap:=h' }) E s):aq (aD prog w) A (call (.builtin "sorted") [x]) Q E s:=by
 refine zz kind_sorted plain_sorted entry_sorted (args_sorted1 _) ?_;unfold j8.«sorted»;refine a6 (m:=checkCount "sorted" 1 1 _) (aa ?_);refine a6 (cc hc (fun vs s1 z=>?_) fun _ _ z=>z);obtain ⟨ss,hss,h64,hq⟩:=z;refine a6 (wpAny_newList ?_);have at1:(s1.heap.push (seqObj "list" vs.toArray 0)).get? s1.heap.objs.size=some (seqObj "list" vs.toArray 0):=aA _ rfl;show aq _ _ _ _ _ { s1 with heap:=s1.heap.push (seqObj "list" vs.toArray 0) };refine a6 (eE (cu slot_list_sort ⟨_,at1,rfl⟩ entry_list_sort (list_sort_treeK strKind_oneLt at1 hss.keysOf (fun v₁ v₂ bM e=>keyKind_strs (by rw [<- e];exact hss)) h64 fun st' a1 a2=>⟨_,rfl,?_⟩) (args_list_sort _)));obtain ⟨ss',p1,p2,p3⟩:=sorted_out_str hss a1 a2;obtain ⟨e,at2⟩:=sortedHeap_at (out:=(arrOf st').map (·.2)) at1;refine aa ⟨_,rfl,hq _ _ ss' e (fun b o q=>?_) at2 p1 p2 p3⟩;have hb:=ax q;rw [sortedHeap_old (aP hb) (by rw [bS];exact i6 hb)];exact ae _ q
end
end
section
def lV (x y:Str):Bool:=decide (x.cps.toList<y.cps.toList)
def EB (x:Str):List Str->List Str
 |[]=>[x]
 |y::r=>if lV y x then y::EB x r else x::y::r
def jC:List Str->List Str
 |[]=>[]
 |x::r=>EB x (jC r)
theorem uL (x:Str):∀ l,(EB x l).Perm (x::l)
 |[]=>.refl _
 |y::r=>by
  rw [EB];split
  ·exact ((uL x r).cons y).trans (.swap ..)
  ·exact .refl _
theorem iU:∀ l,(jC l).Perm l
 |[]=>.refl _
 |x::r=>(uL x _).trans ((iU r).cons x)
theorem o8 (x:Str):lV x x=false:=decide_eq_false (List.lt_irrefl _)
theorem nC (h1:lV x y=true) (h2:lV y z=true):lV x z=true :=
 decide_eq_true (List.lt_trans (of_decide_eq_true h1) (of_decide_eq_true h2))
theorem wH (h1:lV x y=false) (h2:lV y x=false):x=y:=by
 have h1:¬ x.cps.toList<y.cps.toList:=of_decide_eq_false h1;have h2:¬ y.cps.toList<x.cps.toList:=of_decide_eq_false h2;have:x.cps.toList=y.cps.toList:=List.le_antisymm (List.not_lt.mp h2) (List.not_lt.mp h1)
 cases x;cases y;exact congrArg Str.mk (Array.toList_inj.mp this)
abbrev Mu (l:List Str):Prop:=l.Pairwise fun a b=>lV b a=false
theorem JY (x:Str):∀ l,Mu l->Mu (EB x l)
 |[],_=>by simp [EB,Mu]
 |y::r,h=>by
  obtain ⟨h1,h2⟩:=List.pairwise_cons.mp h;rw [EB];split
  ·rename_i hy
   refine List.pairwise_cons.mpr ⟨fun z hz=>?_,JY x r h2⟩;rcases List.mem_cons.mp ((uL x r).mem_iff.mp hz) with e|e
   ·subst e;cases q:lV z y with
    |false=>rfl
    |true=>exact absurd (nC q hy) (by rw [o8];decide)
   ·exact h1 z e
  ·rename_i hy
   have hy:lV y x=false:=by simpa using hy
   refine List.pairwise_cons.mpr ⟨fun z hz=>?_,h⟩;rcases List.mem_cons.mp hz with e|e
   ·subst e;exact hy
   ·cases q:lV z x with
    |false=>rfl
    |true =>
     have hzy:=h1 z e;cases q2:lV x y with
     |true=>rw [nC q q2] at hzy;cases hzy
     |false=>rw [<- wH hy q2,hzy] at q;cases q
theorem tw:∀ l,Mu (jC l)
 |[]=>.nil
 |x::r=>JY x _ (tw r)
theorem tE:∀ (p:Str) (l:List Str),risingS p l=true->Mu (p::l)
 |p,[],_=>by simp [Mu]
 |p,x::r,h=>by
  rw [risingS,aJ] at h;obtain ⟨h1,h2⟩:=h;have h1:lV x p=false:=by
   rw [ltCps_eq] at h1;simpa [lV] using h1
  have ih:=tE x r h2;refine List.pairwise_cons.mpr ⟨fun z hz=>?_,ih⟩;rcases List.mem_cons.mp hz with e|e
  ·rw [e];exact h1
  ·have hzx:=(List.pairwise_cons.mp ih).1 z e;cases q:lV z p with
   |false=>rfl
   |true =>
    cases q2:lV p x with
    |true=>rw [nC q q2] at hzx;cases hzx
    |false=>rw [wH q2 h1,hzx] at q;cases q
theorem AN:∀ (l:List Str),sortedS l=true->Mu l
 |[],_=>.nil
 |x::r,h=>tE x r h
theorem zP:∀ {l l':List Str},l.Perm l'->Mu l->Mu l'->l=l'
 |[],l',p,_,_=>by rw [List.nil_perm.mp p]
 |x::r,[],p,_,_=>by have:=p.length_eq;simp at this
 |x::r,y::r',p,h,h'=>by
  obtain ⟨a1,a2⟩:=List.pairwise_cons.mp h;obtain ⟨b1,b2⟩:=List.pairwise_cons.mp h';have e:x=y:=by
   have hx:x∈y::r':=p.mem_iff.mp ao;have hy:y∈x::r:=p.mem_iff.mpr ao;rcases List.mem_cons.mp hx with e|e
   ·exact e
   ·rcases List.mem_cons.mp hy with e' | e'
    ·exact e'.symm
    ·exact wH (b1 x e) (a1 y e')
  subst e;rw [zP (List.Perm.cons_inv p) a2 b2]
theorem Cg (p:l'.Perm l) (h:sortedS l'=true):l'=jC l:=zP (p.trans (iU l).symm) (AN _ h) (tw l)
theorem zQ (h:Mu l) (nd:l.Nodup):l.Pairwise fun a b=>lV a b=true:=by
 induction l with
 |nil=>exact .nil
 |cons x r ih =>
  obtain ⟨a1,a2⟩:=List.pairwise_cons.mp h;obtain ⟨n1,n2⟩:=List.nodup_cons.mp nd;refine List.pairwise_cons.mpr ⟨fun y hy=>?_,ih a2 n2⟩;cases q:lV x y with
  |true=>rfl
  |false=>exact absurd (wH q (a1 y hy) ▸ hy) n1
theorem kQ:∀ {ss:List Str}{us:List a9},cn (ss.map V.str) us->rq us ss
 |[],_,.nil=>.nil
 |x::r,_,.cons h t=>by obtain ⟨tk,rfl⟩:=h;exact .cons x tk (kQ t)
theorem o9:∀ {ss:List Str}{us:List a9},rq us ss->cn (ss.map V.str) us
 |_,_,.nil=>.nil
 |_,_,.cons x t h=>.cons ⟨t,rfl⟩ (o9 h)
theorem eT:∀ {ss:List Str}{us:List a9},rq us ss->us.length=ss.length
 |_,_,.nil=>rfl
 |_,_,.cons x t h=>by simp [eT h]
theorem xj  (h:rq us ss) (i:Nat) (v:a9) (e:us[i]?=some v):∃ x t,ss[i]?=some x/\v=jb x t:=by
 induction h generalizing i with
 |nil=>simp at e
 |cons y t _ ih =>
  cases i with
  |zero=>simp at e;exact ⟨y,t,by simp,e.symm⟩
  |succ i=>simp at e;simpa using ih i e
theorem tF:∀ {l:List (Int×a9)},(∀ e∈l,xi w e)->rq (l.map (·.2)) (l.map Ex)
 |[],_=>.nil
 |e::r,h=>by
  obtain ⟨x,tk,rfl⟩:=h e ao;exact .cons x tk (tF fun e he=>h e (ar _ he))
theorem AO  (h:rq us ss) (p:us'.Perm us):∃ ss',rq us' ss'/\ss'.Perm ss:=by
 refine ⟨us'.map strOf,strsAre_map _ fun v hv=>h.all v (p.mem_iff.mp hv),?_⟩;rw [<- h.strs];exact p.map _
def w6 (w:bh) (a:ac) (ss:List Str):HO:=.ext fun h=>ny w h a ss
theorem Ge      (x:ny w h a ss):dv P w H h a (w6 w a ss) :=
 ⟨x,let ⟨_,_,_,I,_⟩:=x;⟨_,I.at_⟩,fun _ _ y k=>y.keep k⟩
section
theorem Ch (hc:X.calm=true):ji X (.type "set") (fun xs H Q=>∃ p ss,xs=[.ref p]/\(nY X.K H p (ss.map V.str)\/j_ X.K H p (ss.map V.str))/\ss.length+1<gF/\∀ a,H a=none->Q (.ref a) (upd H a (w6 X.w a (eA [] ss)))):=by
 intro pins s σ H xs us Q I r h;obtain ⟨p,ss,rfl,hq,hz,q⟩:=h;obtain ⟨u,rfl,rx⟩:=lm r;cases rx;have hh:=I.ok.hd hc;have fin:∀ (h':br) (tk:Nat),ny X.w h' s.heap.objs.size (eA [] ss)->(∀ b o,s.heap.get? b=some o->h'.get? b=some o)->EP X pins σ Q (.ref s.heap.objs.size) { s with heap:=h',toks:=tk }:=fun h' tk hS kp =>
  ⟨.ref s.heap.objs.size,_,I.laid (t':=tk) kp (az _) (Ge hS),rfl,q _ (I.hok.fresh (az _))⟩
 rcases hq with hq|hq
 ·obtain ⟨its,r',⟨o,n,ho,h1,h2,h3⟩,_⟩:=I.list hq;have sa:=kQ r';exact tm (JR (by simpa using hh) h1 ⟨n,h3⟩) ho (fun i v e=>xj sa i v (by simpa using e)) (by simp [eT sa]) (by simp [eT sa];exact hz) fin
 ·obtain ⟨its,r',⟨o,ho,h1,n,h3⟩,_⟩:=I.tuple hq;have sa:=kQ r';exact tm (Nx (by simpa using hh) h1 ⟨n,h3⟩) ho (fun i v e=>xj sa i v (by simpa using e)) (by simp [eT sa]) (by simp [eT sa];exact hz) fin
theorem uM:ji X (.builtin "sorted") (fun xs H Q=>∃ p ss,xs=[.ref p]/\nY X.K H p (ss.map V.str)/\ss.length<64/\∀ l,H l=none->Q (.ref l) (upd H l (.lst ((jC ss).map V.str)))):=by
 intro pins s σ H xs us Q I r h;obtain ⟨p,ss,rfl,hq,hz,q⟩:=h;obtain ⟨u,rfl,rx⟩:=lm r;cases rx;obtain ⟨its,r',pl,hl⟩:=I.list hq;have sa:=kQ r';refine sorted_strs pl.isList sa (by rw [eT sa];exact hz) fun out ss' a1 a2 a3=>?_;obtain ⟨e,he⟩:=sortedAll_at s.heap its out;have kp:∀ b o,s.heap.get? b=some o->(sortedAll s.heap its out).get? b=some o:=fun b o=>sortedAll_old;obtain rfl:=Cg a2 a3;refine ⟨.ref (s.heap.objs.size+1),upd H (s.heap.objs.size+1) (.lst ((jC ss).map V.str)),I.laid (t':=s.toks) kp (kO _) (show dv X.prog X.w _ _ _ (.lst _) from ⟨?_,out.toList,e,o9 a1,by simpa [seqObj] using he⟩),rfl,q _ (I.hok.fresh (kO _))⟩;rw [aO,(iU ss).length_eq];have:=hl;rw [aO] at this;exact this
theorem wa (hc:X.calm=true):ji X (.builtin "sorted") (fun xs H Q=>∃ p ss,xs=[.ref p]/\H p=some (w6 X.w p ss)/\ss.length<64/\∀ l,H l=none->Q (.ref l) (upd H l (.lst ((jC ss).map V.str)))):=by
 intro pins s σ H xs us Q I r h;obtain ⟨p,ss,rfl,hq,hz,q⟩:=h;obtain ⟨u,rfl,rx⟩:=lm r;cases rx;have hh:=I.ok.hd hc;obtain ⟨⟨es,ep,t,S,pm⟩,_⟩:=(show dv X.prog X.w H s.heap p (w6 X.w p ss) from I.hok p _ hq);refine Cf (Ce (by simpa using hh) S fun ord h' d tk po kp sz=>?_);obtain ⟨ss1,sa,p1⟩:=AO (tF S.txt) po;have ln:ss1.length=ss.length:=(p1.trans pm).length_eq;refine ⟨ss1,sa,by rw [eT sa,ln];exact hz,fun h2 vs' ss' e kp2 at2 sa2 p2 s2=>?_⟩;have kk:∀ b o,s.heap.get? b=some o->h2.get? b=some o:=fun b o e=>kp2 b o (kp b o e);have es':ss'=jC ss:=Cg (p2.trans (p1.trans pm)) s2;subst es';have fr:=I.hok.fresh sz;have ok2:dv X.prog X.w (upd H h'.objs.size (.lst ((jC ss).map V.str))) h2 h'.objs.size (.lst ((jC ss).map V.str)) :=
  ⟨by rw [aO,(iU ss).length_eq];exact bT (bi hz) (by rw [BH];decide),vs',e,o9 sa2,at2⟩
 exact ⟨.ref h'.objs.size,_,I.call' (s':={ s with heap:=h2,drawn:=d,toks:=tk }) (ch:=[]) rfl (Un.laid kk sz fr) (I.hok.laid kk sz ok2) I.bare (fun b z=>absurd z (by simp)),rfl,q _ fr⟩
end
end
section
section
theorem vH {prog:aR}{w:bh}{B:bf}{bs:List Bool}{its:List a9} (r:cn (bs.map V.bl) its):TruthOf prog w B (fun i v=>its.toArray[i]?=some v) (fun i=>bs.getD i false):=by
 intro i v s Q E hv hq;have hv:its[i]?=some v:=by simpa using hv
 have hl:=r.length;rw [aO] at hl;obtain ⟨hi,_⟩:=List.getElem?_eq_some_iff.mp hv;have hb:bs[i]?=some bs[i]:=bn (by omega);obtain ⟨u,hu,ru⟩:=r.get (i:=i) (x:=.bl bs[i]) (by rw [aK,hb];rfl);rw [hv] at hu;cases hu;cases ru;have hq:Q (bs.getD i false) s:=hq;rw [fc,hb] at hq;exact du hq
theorem JZ (bs:List Bool):(bN bs.length).all (fun i=>bs.getD i false)=bs.all id:=by
 rw [gH,dA,dA];constructor
 ·intro h b hb;obtain ⟨i,hi,rfl⟩:=lj hb;have:=h i (List.mem_range.mpr hi);simpa [fc,hi] using this
 ·intro h i hi;have hi:=List.mem_range.mp hi;have:=h bs[i] (iC hi);simpa [fc,hi] using this
theorem J_ (bs:List Bool):(bN bs.length).any (fun i=>bs.getD i false)=bs.any id:=by
 rw [gH,wz,wz];constructor
 ·rintro ⟨i,hi,h⟩;have hi:=List.mem_range.mp hi;exact ⟨bs[i],iC hi,by simpa [fc,hi] using h⟩
 ·rintro ⟨b,hb,h⟩;obtain ⟨i,hi,rfl⟩:=lj hb;exact ⟨i,List.mem_range.mpr hi,by simpa [fc,hi] using h⟩
theorem xk (hc:X.calm=true):ji X (.builtin "all") (fun xs H Q=>∃ p,∃ bs:List Bool,xs=[.ref p]/\nY X.K H p (bs.map V.bl)/\Q (.bl (bs.all id)) H):=by
 intro pins s σ H xs us Q I r h;obtain ⟨p,bs,rfl,hq,q⟩:=h;obtain ⟨u,rfl,rx⟩:=lm r;cases rx;obtain ⟨its,r',pl,hl⟩:=I.list hq;have ln:its.toArray.size=bs.length:=by have:=r'.length;simp at this ⊢;omega
 obtain ⟨o,ho,hk⟩:=pl.isList;refine call_all_walk (pA pl.isList ⟨_,_,_,_,_,_,_,rfl,He (by simpa using I.ok.hd hc) _ p (aP (ax ho)) its.toArray,⟨⟨_,aA _ rfl,rfl,rfl⟩,pl.isList.push _⟩,vH r',fun h' tk kp=>?_⟩);rw [ln,JZ];refine ⟨.bl _,H,I.kept (t':=tk) fun b o e=>kp b o ?_ (ae _ e),rfl,q⟩;simp only [eh];exact aP (ax e)
theorem xl (hc:X.calm=true):ji X (.builtin "any") (fun xs H Q=>∃ p,∃ bs:List Bool,xs=[.ref p]/\nY X.K H p (bs.map V.bl)/\Q (.bl (bs.any id)) H):=by
 intro pins s σ H xs us Q I r h;obtain ⟨p,bs,rfl,hq,q⟩:=h;obtain ⟨u,rfl,rx⟩:=lm r;cases rx;obtain ⟨its,r',pl,hl⟩:=I.list hq;have ln:its.toArray.size=bs.length:=by have:=r'.length;simp at this ⊢;omega
 obtain ⟨o,ho,hk⟩:=pl.isList;refine call_any_walk (pA pl.isList ⟨_,_,_,_,_,_,_,rfl,He (by simpa using I.ok.hd hc) _ p (aP (ax ho)) its.toArray,⟨⟨_,aA _ rfl,rfl,rfl⟩,pl.isList.push _⟩,vH r',fun h' tk kp=>?_⟩);rw [ln,J_];refine ⟨.bl _,H,I.kept (t':=tk) fun b o e=>kp b o ?_ (ae _ e),rfl,q⟩;simp only [eh];exact aP (ax e)
theorem HG:pp X (bC .LtE) (fun x y H Q=>∃ i j,x=.str i/\y=.str j/\Q (.bl (!decide (j.cps.toList<i.cps.toList))) H):=by
 intro pins s σ H x y v u Q I rx ry h;obtain ⟨i,j,rfl,rfl,q⟩:=h;obtain ⟨t,rfl⟩:=rx;obtain ⟨t',rfl⟩:=ry;exact PySem.P.le_str (fW I q rfl)
end
end
section
def S2 (x:Str):It:=⟨fun i _=>i<x.cps.size,fun i H v H'=>H'=H/\∃ c,x.cps[i]?=some c/\v=.str ⟨#[c]⟩,fun i _=>x.cps.size<=i⟩
theorem K0 {P:aR}{w:bh}{K:a7}{tg:bc} (x:Str) (t:Tok) (it:ac):BZ P w K tg (S2 x) [it] it (fun i h=>h.IsStrIter it (gS x) x t i) where
 mem:=by simp
 obj:=fun i h st b hb=>by
  obtain rfl:b=it:=by simpa using hb
  obtain ⟨o,e,c,d⟩:=st;exact ⟨o,e,fun v z=>by rw [d] at z;cases z⟩
 keep:=fun i h h' st k=>let ⟨o,e,r⟩:=st;⟨o,k it (by simp) o e,r⟩
 item:=by
  intro X hP hw hK hc i pins s σ H E I hf st hg;subst hP hw hK;have hg:i<x.cps.size:=hg;obtain ⟨f0,f1,f2,f3,f4,f5⟩:=hf it (by simp);have hx:x.cps[i]?=some x.cps[i]:=getElem?_pos _ i hg;have go:∀ (h':br) (tk tk':Nat),h'.IsStrIter it (gS x) x t (i+1)->bW it s.heap h'->∃ u,some (jb ⟨#[x.cps[i]]⟩ tk)=some u /\
    aq (aD X.prog X.w) X.A (i9 tg (.ref it) u) (fun _ s2=>∃ v H',bv X pins σ H' s2/\cU v u/\(S2 x).yld i H v H'/\s2.heap.IsStrIter it (gS x) x t (i+1)/\∀ b∈[it],H' b=none) E { s with heap:=h',toks:=tk' }:=fun h' tk tk' st' sb=>by
   have I1:bv X pins σ H { s with heap:=h',toks:=tk' }:=I.turned (fun b o hb e=>(sb.2 b hb).trans e) f0 f1 f3 f4 f5;refine ⟨_,rfl,?_⟩;have q:∃ v H',bv X pins σ H' { s with heap:=h',toks:=tk' }/\cU v (jb ⟨#[x.cps[i]]⟩ tk)/\(S2 x).yld i H v H'/\h'.IsStrIter it (gS x) x t (i+1)/\∀ b∈[it],H' b=none :=
    ⟨.str ⟨#[x.cps[i]]⟩,H,I1,⟨tk,rfl⟩,⟨rfl,_,hx,rfl⟩,st',fun b hb=>(hf b hb).1⟩
   unfold i9;cases tg<;>exact aa q
  cases ha:x.cps.all (·<128)
  ·have ty:gS x="str_iterator":=by unfold gS;rw [ha];rfl
   rw [ty] at st;exact wpAny_pyNext_wide_item st hx fun h' st' sb=>go h' _ _ (by rw [ty];exact st') sb
  ·have ty:gS x="str_ascii_iterator":=by unfold gS;rw [ha];rfl
   rw [ty] at st;exact wpAny_pyNext_ascii_item st hx fun h' st' sb=>go h' _ _ (by rw [ty];exact st') sb
 done:=by
  intro X hP hw hK hc i pins s σ H E I hf st hg;subst hP hw hK;have hg:x.cps.size<=i:=hg;obtain ⟨f0,f1,f2,f3,f4,f5⟩:=hf it (by simp);have hx:x.cps[i]?=none:=getElem?_neg _ i (Nat.not_lt.mpr hg);unfold gS at st;cases ha:x.cps.all (·<128)
  ·rw [ha] at st;exact wpAny_pyNext_wide_end (I.ok.hd hc) st hx fun h' eb=>⟨rfl,I.turned (t':=s.toks) (fun b o hb e=>eb b o hb e) f0 f1 f3 f4 f5⟩
  ·rw [ha] at st;exact wpAny_pyNext_ascii_end (I.ok.hd hc) st hx fun h' eb=>⟨rfl,I.turned (t':=s.toks) (fun b o hb e=>eb b o hb e) f0 f1 f3 f4 f5⟩
 self:=fun _ _ _ _ _ st h=>by
  unfold gS at st;cases ha:x.cps.all (·<128)
  ·rw [ha] at st;exact wpAny_pyIter_striter_wide st h
  ·rw [ha] at st;exact wpAny_pyIter_striter_ascii st h
def UF (tl:TE):TI:=fun σ H R=>tl σ H fun v H1=>∃ x,v=.str x/\R (S2 x) H1
theorem K1 {X:Cx}{tg l:bc}{tl:TE} (hl:PE X l tl):PI X tg l (UF tl):=by
 intro pins s σ H R I h;refine eR (hl pins s σ H _ I h) fun v s1 h_0=>?_;obtain ⟨y,H1,I1,r1,q1⟩:=h_0;obtain ⟨x,rfl,q⟩:=q1;obtain ⟨t,rfl⟩:=r1;refine wpAny_pyIter_strU ?_;refine ⟨s1.heap.objs.size,[s1.heap.objs.size],_,_,H1,rfl,I1.kept (t':=s1.toks) fun b o e=>ae _ e,K0 x t _,⟨_,aA _ rfl,rfl,rfl⟩,fun b hb=>?_,q⟩;obtain rfl:b=s1.heap.objs.size:=by simpa using hb
 exact I1.fpOk (az _) (I1.hok.fresh (az _))
end
section
section
theorem bv.turnedL {t':Nat}{ch:List ac} (I:bv X pins σ H s) (k:∀ b o,b∉ch->s.heap.get? b=some o->h'.get? b=some o) (hf:∀ b∈ch,sZ X pins H b):bv X pins σ H { s with heap:=h',toks:=t' }:=by
 have nt:∀ b u,H b=some u->b∉ch:=fun b u e z=>by rw [(hf b z).1] at e;cases e
 refine I.step (g':=s.gens) (d':=s.drawn) (ch:=ch) (fun b hb=>?_) (fun b o _ _ hc e _=>k b o hc e) (fun b o _ _ hc e _=>⟨o.slots,k b o hc e⟩) (fun _ _ _ _ n=>n)
  (fun b o hc e=>⟨o,k b o hc e⟩) (fun _ _ e=>e) (fun _ _ _ e=>e) (fun b ps e=>⟨#[],by rw [e];simp⟩) (fun m hm=>?_) (fun b u e=>?_) I.bare
 ·obtain ⟨f0,f1,f2,f3,f4,f5⟩:=hf b hb;exact ⟨f3,f1,f4,f5⟩
 ·obtain ⟨o,es,ep,ho,r⟩:=hm;exact ⟨o,es,ep,k _ o (fun z=>(hf _ z).f1 rfl) ho,r⟩
 ·refine (I.hok b u e).stay (fun c v hc q=>k c v ?_ q) (fun _ q=>q) fun _ _ q=>q;rcases hc with z|z
  ·rw [z];exact nt b u e
  ·exact nt c _ z
theorem bv.track  (I:bv X pins σ H s) (hf:sZ X pins H D) (new:dv X.prog X.w (upd H D ho) s.heap D ho):bv X pins σ (upd H D ho) s:=by
 obtain ⟨f0,f1,f2,f3,f4,f5⟩:=hf;have I':bv X pins σ (upd H D ho) { s with heap:=s.heap,gens:=s.gens,drawn:=s.drawn,toks:=s.toks }:=I.step (ch:=[D]) (fun b hb=>by
   obtain rfl:b=D:=by simpa using hb
   exact ⟨f3,f1,f4,f5⟩) (fun b o _ _ _ e _=>e) (fun b o _ _ _ e _=>⟨o.slots,e⟩) (fun b o hc e n=>by rw [av (fun z=>hc (by simp [z]))];exact n) (fun b o _ e=>⟨o,e⟩)
  (fun b xs e=>by rw [av (aE e f0)];exact e) (fun b o xs e=>by rw [av (aE e f0)];exact e) (fun b ps e=>⟨#[],by rw [av (aE e f0),e];simp⟩) (fun m hm=>hm) (uJ I.hok f0 new) I.bare
 exact I'
end
section
theorem tG  (ti:s.heap.IsTupleIter it l i) (tl:s.heap.IsTuple l items) (hx:items[i]?=some x)
  (q:∀ h',h'.IsTupleIter it l (i+1)->bW it s.heap h'->Q x { s with heap:=h' }):aq (aD prog w) A (c9 (.ref it)) Q E s:=by
 obtain ⟨oi,ei,ci,di⟩:=id ti;obtain ⟨ot,et,_,nt,dt⟩:=tl;unfold c9;refine a6 (cr (name:=gE "__next__") ti.typeIs iF ?_);refine cu iF ti.typeIs BK ?_ (Au _);show aq _ _ (E3 (.ref it) 0 >>= _) _ _ s;refine a6 (cB ei di (x:=.ref l) rfl ?_);show aq _ _ (if (bq l==cX)=true then _ else _) _ _ s;rw [if_neg (fun z:(bq l==cX)=true=>aM z)];show aq _ _ (E3 (.ref it) 1 >>= _) _ _ s;refine a6 (cB ei di (x:=.int i 0) rfl ?_);show aq _ _ (IL (.ref l) >>= _) _ _ s;refine a6 (eI et dt ?_);simp only [jE,hx];refine a6 (iS ei di (by simp) (aa ⟨x,rfl,aa (q _ ?_ (cQ ..))⟩));refine ⟨_,gP _ ei (Obj.isFreed_of_fields (IZ di _)),(Obj.cls_mapFields ..).trans ci,?_⟩;rw [IZ di];simp [cf]
theorem tH (hh:A.handled=none) (ti:s.heap.IsTupleIter it l i) (tl:s.heap.IsTuple l items) (hx:items[i]?=none)
  (q:∀ h' e,Heap.ExtBut it s.heap h'->(∃ o,h'.get? e=some o/\o.cls=.type "StopIteration")->E (.ref e) { s with heap:=h' }):aq (aD prog w) A (c9 (.ref it)) Q E s:=by
 obtain ⟨oi,ei,ci,di⟩:=id ti;obtain ⟨ot,et,_,nt,dt⟩:=tl;unfold c9;refine a6 (cr (name:=gE "__next__") ti.typeIs iF ?_);refine cu iF ti.typeIs BK ?_ (Au _);show aq _ _ (E3 (.ref it) 0 >>= _) _ _ s;refine a6 (cB ei di (x:=.ref l) rfl ?_);show aq _ _ (if (bq l==cX)=true then _ else _) _ _ s;rw [if_neg (fun z:(bq l==cX)=true=>aM z)];show aq _ _ (E3 (.ref it) 1 >>= _) _ _ s;refine a6 (cB ei di (x:=.int i 0) rfl ?_);show aq _ _ (IL (.ref l) >>= _) _ _ s;refine a6 (eI et dt ?_);simp only [jE,hx];refine a6 (iR (a6 (iS ei di (by simp) ?_)));show aq _ _ (wV (.type "StopIteration") [] >>= _) _ _ _;refine a6 ?_;simp only [wV,newTuple];refine a6 (bG ?_ (by size_fits));refine a6 (m:=uy _ _) (uv (a:=cX) ?_ ?_)
 ·first
   |rfl
   |(simp only [uy];rfl)
 refine bG ?_ (by size_fits);simp only [ux];refine a6 (wpAny_handled ?_);rw [show A.in1.handled=none from hh];refine a6 (aa (wpAny_throw ?_));exact q _ _ (((cQ ..).extBut.push _).push _) ⟨_,aA _ rfl,rfl⟩
theorem HH (hh:A.handled=none) (it l:ac) (hne:l≠it) (items:Array a9) :
  Draws prog w A it [it,l] items.size (fun i v=>items[i]?=some v) (fun i h=>h.IsTupleIter it l i/\h.IsTuple l items) where
 live:=fun i h st=>let ⟨o,e,_⟩:=st.1;⟨o,e⟩
 frame:=fun i h h' st k=>⟨let ⟨o,e,r⟩:=st.1;⟨o,k it (by simp) o e,r⟩,let ⟨o,e,r⟩:=st.2;⟨o,k l (by simp) o e,r⟩⟩
 item:=fun i s Q E hi st q=>tG st.1 st.2 (x:=items[i]) (by simp [hi]) fun h' t' sb=>q _ h' s.toks (by simp [hi]) ⟨t',st.2.extBut sb.extBut hne⟩ sb
 done:=fun s Q E st q=>tH hh st.1 st.2 (by simp) q
end
theorem xm (l:ac) (items:Array a9) (n:Nat) (dct:Option ac) (sl:Array (Option a9)) :
  Meets (j8.«enumerate.__new__» ⟨[.type "enumerate",.ref l],[]⟩) (fun _ R s=>s.heap.get? l=some { cls:=.type "tuple",dict:=dct,data:=.seq items n,slots:=sl } /\
   R (.ok (.ret (.ref (s.heap.push { cls:=.type "tuple_iterator",data:=.fields #[.ref l,.int 0 0] }).objs.size)))
    { s with heap:=(s.heap.push { cls:=.type "tuple_iterator",data:=.fields #[.ref l,.int 0 0] }).push { cls:=.type "enumerate",data:=.fields #[.none,.bool false,.ref s.heap.objs.size,cf 0,.none,.none] } }) :=
 .of_wp fun prog w A R s h=>by
  obtain ⟨hp,g,d,tk,os⟩:=s;obtain ⟨hl,h⟩:=h;have hsub:=PySem.sub_enumerate;have hL:DB (DC ⟨hp,g,d,tk,os⟩) l items:=⟨_,hl,rfl,n,rfl⟩;wp_walk using fh hl;refine wpAny_stack_any fun st=>aa ?_;split
  ·rename_i c _ _ _ _ _
   cases (c==g9 "enumerate")
   ·wp_walk using fh hl,ft hL;exact ⟨_,rfl,h⟩
   ·wp_walk using fh hl,ft hL;exact ⟨_,rfl,h⟩
  ·wp_walk using fh hl,ft hL;exact ⟨_,rfl,h⟩
end
section
section
theorem yL   (hL:s.heap.IsTuple l items)
  (h:∀ h',IsEnum h' (s.heap.objs.size+1) s.heap.objs.size 0 .none->h'.IsTupleIter s.heap.objs.size l 0->(∀ b o,s.heap.get? b=some o->h'.get? b=some o)->h'.objs.size=s.heap.objs.size+2 ->
   Q (.ref (s.heap.objs.size+1)) { s with heap:=h' }):aq (aD prog w) A (call (.type "enumerate") [.ref l]) Q E s:=by
 obtain ⟨⟨c,dc,dt,sl⟩,hl,hc,n,hd⟩:=hL;obtain rfl:c=.type "tuple":=hc;obtain rfl:dt=.seq items n:=hd;refine callType_new F.called_enumerate (by decide) (F.typeCall_enumerate_1 _) (F.newCall_enumerate_1 _) (fun obj=>F.args_object_init_2 obj _) F.entry_enumerate_new (xm l items n dc sl) ⟨hl,?_⟩;have z1:(s.heap.push { cls:=.type "tuple_iterator",data:=.fields #[.ref l,.int 0 0] }).objs.size=s.heap.objs.size+1:=bS ..;show _/\_;rw [z1];have he:IsEnum ((s.heap.push { cls:=.type "tuple_iterator",data:=.fields #[.ref l,.int 0 0] }).push { cls:=.type "enumerate",data:=.fields #[.none,.bool false,.ref s.heap.objs.size,cf 0,.none,.none] }) (s.heap.objs.size+1) s.heap.objs.size 0 .none:=by
  have q:=aA (s.heap.push { cls:=.type "tuple_iterator",data:=.fields #[.ref l,.int 0 0] }) (o:={ cls:=.type "enumerate",data:=.fields #[.none,.bool false,.ref s.heap.objs.size,cf 0,.none,.none] }) rfl;rw [z1] at q;exact q
 exact ⟨⟨_,he,rfl⟩,h _ he ⟨_,ae _ (aA _ rfl),rfl,rfl⟩ (fun b o e=>ae _ (ae _ e)) (by rw [bS,z1])⟩
end
def UG (K:a7) (a:ac):It :=
 ⟨fun i H=>∃ xs x,j_ K H a xs/\xs[i]?=some x,fun i H v H'=>∃ p,H p=none/\v=.ref p/\∀ xs,j_ K H a xs->∃ x,xs[i]?=some x/\H'=upd H p (.tup [.int i,x]),fun i H=>∃ xs,j_ K H a xs/\xs.length<=i⟩
theorem HI {P:aR}{w:bh}{K:a7}{elts:List bc}{x1}{pos:Pos} (a e it:ac) (hei:e≠it):BZ P w K (.Tuple elts x1 pos) (UG K a) [e,it] e (fun i h=>(∃ old,IsEnum h e it i old)/\h.IsTupleIter it a i) where
 mem:=by simp
 obj:=fun i h st b hb=>by
  simp only [aV,aN,or_false] at hb;rcases hb with rfl|rfl
  ·obtain ⟨⟨old,q⟩,_⟩:=st;exact ⟨_,q,fun v z=>by cases z⟩
  ·obtain ⟨_,o,q,_,d⟩:=st;exact ⟨o,q,fun v z=>by rw [d] at z;cases z⟩
 keep:=fun i h h' st k=>⟨let ⟨old,q⟩:=st.1;⟨old,k e (by simp) _ q⟩,let ⟨o,q,r⟩:=st.2;⟨o,k it (by simp) o q,r⟩⟩
 item:=by
  intro X hP hw hK hc i pins s σ H E I hf st hg;subst hP hw hK;obtain ⟨xs,x,hq,hx⟩:=hg;obtain ⟨its,rv,p,hz⟩:=I.tuple hq;obtain ⟨u,hu,ru⟩:=rv.get hx;obtain ⟨⟨old,he⟩,hit⟩:=st;have hit0:=hit;obtain ⟨oi,ei,_⟩:=hit0;have hai:a≠it:=fun z=>by
   obtain ⟨o1,e1,c1,_⟩:=p;obtain ⟨o2,e2,c2,_⟩:=hit;rw [z,e2] at e1;cases e1;rw [c2] at c1;exact absurd (FW c1) (by decide)
  have hae:a≠e:=fun z=>by
   obtain ⟨o1,e1,c1,_⟩:=p;rw [z,he] at e1;cases e1;exact absurd (FW (show g9 "enumerate"=g9 "tuple" from c1)) (by decide)
  have hlt:i<its.toArray.size:=by simp;exact (List.getElem?_eq_some_iff.mp hu).1
  have he0:=ax he;refine wpAny_pyNext_enum_itemD (HH (by simpa using I.ok.hd hc) it a hai its.toArray) he ⟨hit,p⟩ hlt hei (by simp [hei,eV hae]) ?_;intro x' h1 tk hx' eo st1 tup sz k1;have hx'':its[i]?=some x':=by simpa using hx'
  rw [hu] at hx'';cases hx'';refine ⟨_,rfl,wpAny_letOwnedTupleGo_enum eo fun h2 e2 sb2=>?_⟩;have szn:s.heap.objs.size≠e:=gD he0;have I2:bv X pins σ H { s with heap:=h2,toks:=tk+1 }:=I.turnedL (ch:=[e,it]) (fun b o hb q=>by
   simp only [aV,aN,or_false,not_or] at hb;exact (sb2.2 b hb.1).trans (k1 b o hb.1 hb.2 q)) hf
  have fT:=I.fpOk (H':=H) (az _) (I.hok.fresh (az _));have tup2:h2.get? s.heap.objs.size=some { cls:=.type "tuple",data:=.seq #[.int i tk,u] }:=(sb2.2 _ szn).trans tup;have I3:=I2.track (ho:=.tup [.int i,x]) fT ⟨by show 2<=sizeLine;decide,[.int i tk,u],.cons ⟨tk,rfl⟩ (.cons ru .nil),⟨_,tup2,rfl,0,rfl⟩⟩;refine ⟨.ref s.heap.objs.size,_,I3,rfl,⟨_,fT.1,rfl,fun ys hy=>?_⟩,⟨⟨u,?_⟩,?_⟩,fun b hb=>?_⟩
  ·rw [I.tuple_inj hy hq];exact ⟨x,hx,rfl⟩
  ·have:(((i+1:Nat):Int))=(i:Int)+1:=by omega
   rw [this];exact e2
  ·obtain ⟨o,q,r⟩:=st1.1;exact ⟨o,(sb2.2 it (eV hei)).trans q,r⟩
  ·rw [av]
   ·exact (hf b hb).1
   ·simp only [aV,aN,or_false] at hb;rcases hb with z|z
    ·rw [z];exact aP he0
    ·rw [z];exact aP (ax ei)
 done:=by
  intro X hP hw hK hc i pins s σ H E I hf st hg;subst hP hw hK;obtain ⟨xs,hq,hx⟩:=hg;obtain ⟨its,rv,p,hz⟩:=I.tuple hq;obtain ⟨⟨old,he⟩,hit⟩:=st;have hl:=rv.length;have hT:s.TypeIs (.ref e) "enumerate":=⟨_,he,rfl⟩;unfold rl;refine a6 (lU (cr (name:=gE "__next__") hT IM ?_));refine cu IM hT F.entry_enumerate_next ?_ (F.args_enumerate_next_1 _);show aq _ _ (E3 (.ref e) 2 >>= _) _ _ _;refine a6 (cB he rfl (x:=.ref it) rfl ?_);refine a6 (tH (by simpa using I.ok.hd hc) hit (show s.heap.IsTuple a its.toArray from p) (by simp;omega) fun h' z eb hz'=>?_);obtain ⟨o,ho,hcl⟩:=hz';refine a6 (qT (T:="StopIteration") (b:=true) ⟨o,ho,hcl⟩ E2 ?_);exact aa ⟨rfl,I.turnedL (t':=s.toks) (ch:=[e,it]) (fun b o hb q=>eb b o (by
   simp only [aV,aN,or_false,not_or] at hb;exact hb.2) q) hf⟩
 self:=fun _ _ _ _ _ st h=>let ⟨⟨_,q⟩,_⟩:=st;wpAny_pyIter_enum q h
def S3 (K:a7) (ta:TA):TI:=fun σ H R=>ta σ H fun vs H1=>∃ a xs,vs=[.ref a]/\j_ K H1 a xs/\R (UG K a) H1
theorem Ny {X:Cx}{elts:List bc}{x1}{tpos p pos:Pos}{a:bc}{ta:TA} (hg:Gl X "enumerate") (hm:X.mg "enumerate"=none) (ha:PA X [a] ta) (hs:am [a] X.env=[(false,bY a X.env)]:=by rfl) :
  PI X (.Tuple elts x1 tpos) (.Call (.Name "enumerate" p) [a] [] pos) (S3 X.K ta):=by
 intro pins s σ H R I h;refine Call_ (uD I hg hm boot_enumerate (fS (eR (ha pos pins s σ H _ I h) fun us s1 ⟨vs,H1,I1,r1,q1⟩=>?_) hs rfl));obtain ⟨ad,xs,rfl,hq,q⟩:=q1;obtain ⟨u,rfl,rx⟩:=lm r1;cases rx;obtain ⟨its,rv,tp,hz⟩:=I1.tuple hq;refine yL (show s1.heap.IsTuple ad its.toArray from tp) fun h' e1 t1 kp sz=>?_;refine wpAny_pyIter_enum e1 ?_;have I2:bv X pins σ H1 { s1 with heap:=h' }:=I1.kept (t':=s1.toks) kp;refine ⟨s1.heap.objs.size+1,[s1.heap.objs.size+1,s1.heap.objs.size],_,_,H1,rfl,I2,HI ad _ _ (gD (eZ _)),⟨⟨.none,e1⟩,t1⟩,fun b hb=>?_,q⟩;simp only [aV,aN,or_false] at hb;rcases hb with z|z
 ·rw [z];exact I1.fpOk (kO _) (I1.hok.fresh (kO _))
 ·rw [z];exact I1.fpOk (az _) (I1.hok.fresh (az _))
end
section
section
variable {prog:aR}{w:bh}{A:bf}{E:a9->ag->Prop}{s:ag}{z TI TO i1 i2 l1 l2:ac}{k1 k2:Nat}{xs ys:Array a9}{x y a b:a9}
theorem iV    (t:h.IsTupleIter it l k) (sb:bW c h h') (ne:it≠c):h'.IsTupleIter it l k:=t.extBut sb.extBut ne
theorem og    (t:h.IsTuple l xs) (sb:bW c h h') (ne:l≠c):h'.IsTuple l xs:=t.extBut sb.extBut ne
theorem K2 {Q:a9->ag->Prop} (D:MI z TI TO i1 i2 l1 l2) (za:uz s.heap z TI TO .none) (pa:jF s.heap TI (.ref i1) (.ref i2)) (pb:jF s.heap TO a b)
  (u1:s.heap.IsTupleIter i1 l1 k1) (u2:s.heap.IsTupleIter i2 l2 k2) (v1:s.heap.IsTuple l1 xs) (v2:s.heap.IsTuple l2 ys) (hx:xs[k1]?=some x) (hy:ys[k2]?=some y)
  (q:∀ h',uz h' z TI TO (cf s.heap.objs.size)->jF h' TO x y->h'.IsTupleIter i1 l1 (k1+1)->h'.IsTupleIter i2 l2 (k2+1)->jF h' s.heap.objs.size x y ->
   (∀ c o,c≠z->c≠TO->c≠i1->c≠i2->s.heap.get? c=some o->h'.get? c=some o)->Q (.ref s.heap.objs.size) { s with heap:=h' }) :
  aq (aD prog w) A (j8.«zip.__next__» ⟨[.ref z],[]⟩) (fun fin s'=>∃ v,fin=.done (.ret v)/\Q v s') E s:=by
 show aq _ _ (E3 (.ref z) 2 >>= _) _ _ _;refine a6 (cB za rfl (x:=.bool false) rfl ?_);show aq _ _ (E3 (.ref z) 3 >>= _) _ _ _;refine a6 (cB za rfl (x:=.ref TI) rfl ?_);refine a6 (eI pa rfl ?_);show aq _ _ (d_ (.ref z) >>= _) _ _ _;refine a6 ?_;unfold d_;refine a6 (cB za rfl (x:=.none) rfl (aa ?_));simp only [if_true];refine a6 (iR ?_);refine a6 (cB za rfl (x:=.ref TO) rfl ?_);refine a6 (gZ za (by simp) fun g1 z1 b1=>?_);replace z1:uz g1 z TI TO .ellipsis:=z1;refine a6 ?_;simp only [Mp,MJ,pP,zx];refine a6 (a6 (wA ?_));show aq _ _ (c9 (.ref i1) >>= _) _ _ _;refine a6 (tG (iV u1 b1 D.i1z) (og v1 b1 D.l1z) hx fun g2 w1 b2=>aa ?_);have p2:jF g2 TO a b:=b2.extBut _ _ D.TOi1 (b1.extBut _ _ D.TOz pb);refine a6 (eI p2 rfl (a6 (uA p2 fun g3 p3 b3=>?_)));replace p3:jF g3 TO x b:=p3;refine a6 (MK (aa (a6 (a6 (wA ?_)))));show aq _ _ (c9 (.ref i2) >>= _) _ _ _;refine a6 (tG (iV (iV (iV u2 b1 D.i2z) b2 D.i12.symm) b3 D.TOi2.symm) (og (og (og v2 b1 D.l2z) b2 D.l2i1) b3 D.l2TO) hy fun g4 w2 b4=>aa ?_);have p4:jF g4 TO x b:=b4.extBut _ _ D.TOi2 p3;refine a6 (eI p4 rfl (a6 (uA p4 fun g5 p5 b5=>?_)));replace p5:jF g5 TO x y:=p5;refine a6 (MK (aa (aa ?_)));refine a6 (eI p5 rfl (a6 (wpAny_newTuple ?_)));have sz:g5.objs.size=s.heap.objs.size:=by rw [b5.1,b4.1,b3.1,b2.1,b1.1]
 have z5:uz g5 z TI TO .ellipsis:=b5.extBut _ _ D.TOz.symm (b4.extBut _ _ D.i2z.symm (b3.extBut _ _ D.TOz.symm (b2.extBut _ _ D.i1z.symm z1)));have k5:∀ c o,c≠z->c≠TO->c≠i1->c≠i2->s.heap.get? c=some o->g5.get? c=some o:=fun c o n1 n2 n3 n4 e =>
  b5.extBut _ _ n2 (b4.extBut _ _ n4 (b3.extBut _ _ n2 (b2.extBut _ _ n3 (b1.extBut _ _ n1 e))))
 have y1:g5.IsTupleIter i1 l1 (k1+1):=iV (iV (iV w1 b3 D.TOi1.symm) b4 D.i12) b5 D.TOi1.symm;have y2:g5.IsTupleIter i2 l2 (k2+1):=iV w2 b5 D.TOi2.symm;have zl:z<g5.objs.size:=ax z5;show aq _ _ (m5 (.ref z) (.ref g5.objs.size) >>= _) _ _ _;refine a6 ?_;unfold m5;have z6:uz (g5.push { cls:=.type "tuple",data:=.seq #[x,y] }) z TI TO .ellipsis:=ae _ z5;refine a6 (gZ z6 (by simp) fun g7 z7 b7=>?_);replace z7:uz g7 z TI TO (cf g5.objs.size):=z7;refine gZ z7 (by simp) fun g8 z8 b8=>?_;replace z8:uz g8 z TI TO (cf g5.objs.size):=z8;have up:∀ c o,c≠z->g5.get? c=some o->g8.get? c=some o:=fun c o n1 e=>b8.extBut _ _ n1 (b7.extBut _ _ n1 (ae _ e));have p8:jF g8 g5.objs.size x y:=b8.extBut _ _ (gD zl) (b7.extBut _ _ (gD zl) (aA _ rfl));rw [sz] at z8 p8;refine aa ⟨_,rfl,?_⟩;show Q (.ref g5.objs.size) _;rw [sz];exact q g8 z8 (up _ _ D.TOz p5) (let ⟨o,e,r⟩:=y1;⟨o,up _ o D.i1z e,r⟩) (let ⟨o,e,r⟩:=y2;⟨o,up _ o D.i2z e,r⟩) p8 fun c o n1 n2 n3 n4 e=>up c o n1 (k5 c o n1 n2 n3 n4 e)
theorem K3 (hh:A.handled=none) (D:MI z TI TO i1 i2 l1 l2) (za:uz s.heap z TI TO .none) (pa:jF s.heap TI (.ref i1) (.ref i2)) (pb:jF s.heap TO a b)
  (u1:s.heap.IsTupleIter i1 l1 k1) (u2:s.heap.IsTupleIter i2 l2 k2) (v1:s.heap.IsTuple l1 xs) (v2:s.heap.IsTuple l2 ys) (hend:xs[k1]?=none\/ys[k2]?=none)
  (q:∀ h' e,(∀ c o,c≠z->c≠TO->c≠i1->c≠i2->s.heap.get? c=some o->h'.get? c=some o)->(∃ o,h'.get? e=some o/\o.cls=.type "StopIteration")->E (.ref e) { s with heap:=h' }) :
  aq (aD prog w) A (j8.«zip.__next__» ⟨[.ref z],[]⟩) Q E s:=by
 show aq _ _ (E3 (.ref z) 2 >>= _) _ _ _;refine a6 (cB za rfl (x:=.bool false) rfl ?_);show aq _ _ (E3 (.ref z) 3 >>= _) _ _ _;refine a6 (cB za rfl (x:=.ref TI) rfl ?_);refine a6 (eI pa rfl ?_);show aq _ _ (d_ (.ref z) >>= _) _ _ _;refine a6 ?_;unfold d_;refine a6 (cB za rfl (x:=.none) rfl (aa ?_));simp only [if_true];refine a6 (iR ?_);refine a6 (cB za rfl (x:=.ref TO) rfl ?_);refine a6 (gZ za (by simp) fun g1 z1 b1=>?_);replace z1:uz g1 z TI TO .ellipsis:=z1;refine a6 ?_;simp only [Mp,MJ,pP,zx];refine a6 (a6 (wA ?_));show aq _ _ (c9 (.ref i1) >>= _) _ _ _;cases hx:xs[k1]? with
 |none =>
  refine a6 (tH hh (iV u1 b1 D.i1z) (og v1 b1 D.l1z) hx fun g2 e b2 he=>?_);obtain ⟨oe,ee,ce⟩:=he;have z2:uz g2 z TI TO .ellipsis:=b2 _ _ D.i1z.symm z1;have ez:e≠z:=fun n=>by subst n;rw [z2] at ee;cases ee;simp at ce
  refine gZ z2 (by simp) fun g3 _ b3=>q g3 e (fun c o n1 _ n3 _ m=>b3.extBut _ _ n1 (b2 _ _ n3 (b1.extBut _ _ n1 m))) ⟨oe,b3.extBut _ _ ez ee,ce⟩
 |some x =>
  have hy:ys[k2]?=none:=hend.resolve_left fun n=>by rw [hx] at n;cases n
  refine a6 (tG (iV u1 b1 D.i1z) (og v1 b1 D.l1z) hx fun g2 w1 b2=>aa ?_);have p2:jF g2 TO a b:=b2.extBut _ _ D.TOi1 (b1.extBut _ _ D.TOz pb);refine a6 (eI p2 rfl (a6 (uA p2 fun g3 p3 b3=>?_)));refine a6 (MK (aa (a6 (a6 (wA ?_)))));show aq _ _ (c9 (.ref i2) >>= _) _ _ _;refine a6 (tH hh (iV (iV (iV u2 b1 D.i2z) b2 D.i12.symm) b3 D.TOi2.symm) (og (og (og v2 b1 D.l2z) b2 D.l2i1) b3 D.l2TO) hy fun g4 e b4 he=>?_);obtain ⟨oe,ee,ce⟩:=he;have z4:uz g4 z TI TO .ellipsis:=b4 _ _ D.i2z.symm (b3.extBut _ _ D.TOz.symm (b2.extBut _ _ D.i1z.symm z1));have ez:e≠z:=fun n=>by subst n;rw [z4] at ee;cases ee;simp at ce
  refine gZ z4 (by simp) fun g5 _ b5=>q g5 e (fun c o n1 n2 n3 n4 m=>b5.extBut _ _ n1 (b4 _ _ n4 (b3.extBut _ _ n2 (b2.extBut _ _ n3 (b1.extBut _ _ n1 m))))) ⟨oe,b5.extBut _ _ ez ee,ce⟩
end
abbrev TV (h:br) (l1:ac):br:=h.push { cls:=.type "tuple_iterator",data:=.fields #[.ref l1,.int 0 0] }
abbrev TW (h:br) (l1 l2:ac):br:=(TV h l1).push { cls:=.type "tuple_iterator",data:=.fields #[.ref l2,.int 0 0] }
abbrev TX (h:br) (l1 l2:ac):br:=(TW h l1 l2).push { cls:=.type "tuple",data:=.seq #[.ref h.objs.size,.ref (TV h l1).objs.size] }
abbrev TY (h:br) (l1 l2:ac):br:=(TX h l1 l2).push { cls:=.type "tuple",data:=.seq #[.none,.none] }
abbrev Rq (h:br) (l1 l2:ac):br:=(TY h l1 l2).push { cls:=.type "zip",data:=.fields #[.none,.bool false,.bool false,.ref (TW h l1 l2).objs.size,.ref (TX h l1 l2).objs.size] }
theorem yM (l1 l2:ac) (xs ys:Array a9) :
  Meets (j8.«zip.__new__» ⟨[.type "zip",.ref l1,.ref l2],[]⟩) (fun _ R s=>s.heap.IsTuple l1 xs/\s.heap.IsTuple l2 ys/\R (.ok (.ret (.ref (TY s.heap l1 l2).objs.size))) { s with heap:=Rq s.heap l1 l2 }) :=
 .of_wp fun prog w A R s h=>by
  obtain ⟨hp,g,d,tk,os⟩:=s;obtain ⟨v1,v2,h⟩:=h;have hsub:=PySem.sub_zip;have L1:DB (DC ⟨hp,g,d,tk,os⟩) l1 xs:=v1;have L2:DB (DC ⟨hp.push { cls:=.type "tuple_iterator",data:=.fields #[.ref l1,.int 0 0] },g,d,tk,os⟩) l2 ys:=Heap.IsTuple.push v2 _;wp_walk using ft L1,ft L2;exact ⟨_,rfl,h⟩
section
theorem AQ   (v1:s.heap.IsTuple l1 xs) (v2:s.heap.IsTuple l2 ys)
  (h:∀ h',uz h' (s.heap.objs.size+4) (s.heap.objs.size+2) (s.heap.objs.size+3) .none->jF h' (s.heap.objs.size+2) (.ref s.heap.objs.size) (.ref (s.heap.objs.size+1)) ->
   jF h' (s.heap.objs.size+3) .none .none->h'.IsTupleIter s.heap.objs.size l1 0->h'.IsTupleIter (s.heap.objs.size+1) l2 0 ->
   (∀ c o,s.heap.get? c=some o->h'.get? c=some o)->Q (.ref (s.heap.objs.size+4)) { s with heap:=h' }):aq (aD prog w) A (call (.type "zip") [.ref l1,.ref l2]) Q E s:=by
 refine callType_new F.called_zip (by decide) (F.typeCall_zip_2 _ _) (F.newCall_zip_2 _ _) (fun obj=>F.args_object_init_3 obj _ _) F.entry_zip_new (yM l1 l2 xs ys) ⟨v1,v2,?_⟩;have n1:(TV s.heap l1).objs.size=s.heap.objs.size+1:=bS ..;have n2:(TW s.heap l1 l2).objs.size=s.heap.objs.size+2:=by rw [bS,n1]
 have n3:(TX s.heap l1 l2).objs.size=s.heap.objs.size+3:=by rw [bS,n2]
 have n4:(TY s.heap l1 l2).objs.size=s.heap.objs.size+4:=by rw [bS,n3]
 have c5:(Rq s.heap l1 l2).get? (TY s.heap l1 l2).objs.size=some _:=aA _ rfl;have c4:(Rq s.heap l1 l2).get? (TX s.heap l1 l2).objs.size=some _:=ae _ (aA _ rfl);have c3:(Rq s.heap l1 l2).get? (TW s.heap l1 l2).objs.size=some _:=ae _ (ae _ (aA _ rfl));have c2:(Rq s.heap l1 l2).get? (TV s.heap l1).objs.size=some _:=ae _ (ae _ (ae _ (aA _ rfl)));have c1:(Rq s.heap l1 l2).get? s.heap.objs.size=some _:=ae _ (ae _ (ae _ (ae _ (aA _ rfl))));show _/\_;rw [n2,n3,n4] at c5;rw [n1,n2] at c3;rw [n3] at c4;rw [n1] at c2;rw [n4];exact ⟨⟨_,c5,rfl⟩,h _ c5 c3 c4 ⟨_,c1,rfl,rfl⟩ ⟨_,c2,rfl,rfl⟩ fun c o e=>ae _ (ae _ (ae _ (ae _ (ae _ e))))⟩
end
theorem j_.ne_fp       (I:bv X pins σ H s) (hq:j_ X.K H a xs) (hf:sZ X pins H b):a≠b:=by
 rintro rfl;rcases hq with (h|⟨o,h⟩)|⟨o,its,n,hk,_⟩
 ·rw [hf.1] at h;cases h
 ·rw [hf.1] at h;cases h
 ·have e:X.base.get? a=some o:=I.mod.kin a o hk;rcases hf.f3 with z|z
  ·exact I.ok.noex a o e z
  ·exact absurd (aF (ax e) (bT I.ok.bsz z)) (cS _)
def UH (K:a7) (a b:ac):It :=
 ⟨fun i H=>∃ xs ys x y,j_ K H a xs/\j_ K H b ys/\xs[i]?=some x/\ys[i]?=some y,
  fun i H v H'=>∃ p,H p=none/\v=.ref p/\∀ xs ys,j_ K H a xs->j_ K H b ys->∃ x y,xs[i]?=some x/\ys[i]?=some y/\H'=upd H p (.tup [x,y]),
  fun i H=>∃ xs ys,j_ K H a xs/\j_ K H b ys/\(xs.length<=i\/ys.length<=i)⟩
structure UI (z TI TO i1 i2:ac):Prop where
 d1:TI≠z
 d2:TO≠z
 d3:i1≠z
 d4:i2≠z
 d5:TI≠TO
 d6:TI≠i1
 d7:TI≠i2
 d8:TO≠i1
 d9:TO≠i2
 d0:i1≠i2
theorem K4 {P:aR}{w:bh}{K:a7}{elts:List bc}{x1}{pos:Pos} (l1 l2 z TI TO i1 i2:ac) (Z:UI z TI TO i1 i2) :
  BZ P w K (.Tuple elts x1 pos) (UH K l1 l2) [z,TI,TO,i1,i2] z (fun i h=>uz h z TI TO .none/\jF h TI (.ref i1) (.ref i2)/\(∃ a b,jF h TO a b)/\h.IsTupleIter i1 l1 i/\h.IsTupleIter i2 l2 i) where
 mem:=by simp
 obj:=fun i h st b hb=>by
  obtain ⟨s1,s2,⟨_,_,s3⟩,⟨o4,e4,_,f4⟩,⟨o5,e5,_,f5⟩⟩:=st;simp only [aV,aN,or_false] at hb;rcases hb with rfl|rfl|rfl|rfl|rfl
  ·exact ⟨_,s1,fun v q=>by cases q⟩
  ·exact ⟨_,s2,fun v q=>by cases q⟩
  ·exact ⟨_,s3,fun v q=>by cases q⟩
  ·exact ⟨o4,e4,fun v q=>by rw [f4] at q;cases q⟩
  ·exact ⟨o5,e5,fun v q=>by rw [f5] at q;cases q⟩
 keep:=fun i h h' st k=>by
  obtain ⟨s1,s2,⟨u,v,s3⟩,⟨o4,e4,r4⟩,⟨o5,e5,r5⟩⟩:=st;exact ⟨k z (by simp) _ s1,k TI (by simp) _ s2,⟨u,v,k TO (by simp) _ s3⟩,⟨o4,k i1 (by simp) _ e4,r4⟩,⟨o5,k i2 (by simp) _ e5,r5⟩⟩
 item:=by
  intro X hP hw hK hc i pins s σ H E I hf st hg;subst hP hw hK;obtain ⟨xs,ys,x,y,hq1,hq2,hx,hy⟩:=hg;obtain ⟨its1,rv1,p1,_⟩:=I.tuple hq1;obtain ⟨its2,rv2,p2,_⟩:=I.tuple hq2;obtain ⟨u,hu,ru⟩:=rv1.get hx;obtain ⟨v,hv,rv⟩:=rv2.get hy;obtain ⟨s1,s2,⟨a,b,s3⟩,s4,s5⟩:=st;have ne1:∀ b∈[z,TI,TO,i1,i2],l1≠b:=fun b hb=>hq1.ne_fp I (hf b hb);have ne2:∀ b∈[z,TI,TO,i1,i2],l2≠b:=fun b hb=>hq2.ne_fp I (hf b hb);have D:MI z TI TO i1 i2 l1 l2:=⟨Z.d1,Z.d2,Z.d3,Z.d4,Z.d5,Z.d6,Z.d7,Z.d8,Z.d9,Z.d0,ne1 z (by simp),ne1 TO (by simp),ne1 i1 (by simp),ne1 i2 (by simp),ne2 z (by simp),ne2 TO (by simp),ne2 i1 (by simp),ne2 i2 (by simp)⟩;have zl:=ax s1;have hT:s.TypeIs (.ref z) "zip":=⟨_,s1,rfl⟩;unfold rl;refine a6 (lU (cr (name:=gE "__next__") hT qZ ?_));refine cu qZ hT F.entry_zip_next (K2 D s1 s2 s3 s4 s5 p1 p2 (by simpa using hu) (by simpa using hv) fun h1 z1 t1 y1 y2 pr k1=>?_) (F.args_zip_next_1 _);refine aa ⟨_,rfl,wpAny_letOwnedTupleGo_zip z1 fun h2 z2 b2=>?_⟩;have szn:s.heap.objs.size≠z:=gD zl;have TIk:jF h1 TI (.ref i1) (.ref i2):=k1 TI _ Z.d1 Z.d5 Z.d6 Z.d7 s2;have I2:bv X pins σ H { s with heap:=h2 }:=I.turnedL (t':=s.toks) (ch:=[z,TI,TO,i1,i2]) (fun b o hb q=>by
   simp only [aV,aN,or_false,not_or] at hb;exact (b2.2 b hb.1).trans (k1 b o hb.1 hb.2.2.1 hb.2.2.2.1 hb.2.2.2.2 q)) hf
  have fT:=I.fpOk (H':=H) (az _) (I.hok.fresh (az _));have pr2:h2.get? s.heap.objs.size=some { cls:=.type "tuple",data:=.seq #[u,v] }:=(b2.2 _ szn).trans pr;have I3:=I2.track (ho:=.tup [x,y]) fT ⟨by show 2<=sizeLine;decide,[u,v],.cons ru (.cons rv .nil),⟨_,pr2,rfl,0,rfl⟩⟩;refine ⟨.ref s.heap.objs.size,_,I3,rfl,⟨_,fT.1,rfl,fun xs' ys' h1 h2=>?_⟩,⟨z2,(b2.2 TI Z.d1).trans TIk,⟨u,v,(b2.2 TO Z.d2).trans t1⟩,iV y1 b2 Z.d3,iV y2 b2 Z.d4⟩,fun b hb=>?_⟩
  ·rw [I.tuple_inj h1 hq1,I.tuple_inj h2 hq2];exact ⟨x,y,hx,hy,rfl⟩
  ·have bl:b<s.heap.objs.size:=by
    simp only [aV,aN,or_false] at hb;rcases hb with q|q|q|q|q
    ·rw [q];exact zl
    ·rw [q];exact ax s2
    ·rw [q];exact ax s3
    ·obtain ⟨_,e,_⟩:=s4;rw [q];exact ax e
    ·obtain ⟨_,e,_⟩:=s5;rw [q];exact ax e
   rw [av (aP bl)];exact (hf b hb).1
 done:=by
  intro X hP hw hK hc i pins s σ H E I hf st hg;subst hP hw hK;obtain ⟨xs,ys,hq1,hq2,hend⟩:=hg;obtain ⟨its1,rv1,p1,_⟩:=I.tuple hq1;obtain ⟨its2,rv2,p2,_⟩:=I.tuple hq2;obtain ⟨s1,s2,⟨a,b,s3⟩,s4,s5⟩:=st;have ne1:∀ b∈[z,TI,TO,i1,i2],l1≠b:=fun b hb=>hq1.ne_fp I (hf b hb);have ne2:∀ b∈[z,TI,TO,i1,i2],l2≠b:=fun b hb=>hq2.ne_fp I (hf b hb);have D:MI z TI TO i1 i2 l1 l2:=⟨Z.d1,Z.d2,Z.d3,Z.d4,Z.d5,Z.d6,Z.d7,Z.d8,Z.d9,Z.d0,ne1 z (by simp),ne1 TO (by simp),ne1 i1 (by simp),ne1 i2 (by simp),ne2 z (by simp),ne2 TO (by simp),ne2 i1 (by simp),ne2 i2 (by simp)⟩;have hT:s.TypeIs (.ref z) "zip":=⟨_,s1,rfl⟩;have n1:=rv1.length;have n2:=rv2.length;unfold rl;refine a6 (lU (cr (name:=gE "__next__") hT qZ ?_));refine cu qZ hT F.entry_zip_next (K3 (by simpa using I.ok.hd hc) D s1 s2 s3 s4 s5 p1 p2 (hend.elim (fun q=>.inl (by simp;omega)) fun q=>.inr (by simp;omega)) fun h' e kp he=>?_) (F.args_zip_next_1 _);obtain ⟨o,eo,co⟩:=he;refine a6 (qT (T:="StopIteration") (b:=true) ⟨o,eo,co⟩ E2 ?_);exact aa ⟨rfl,I.turnedL (t':=s.toks) (ch:=[z,TI,TO,i1,i2]) (fun b o hb q=>by
   simp only [aV,aN,or_false,not_or] at hb;exact kp b o hb.1 hb.2.2.1 hb.2.2.2.1 hb.2.2.2.2 q) hf⟩
 self:=fun _ _ _ _ _ st h=>wpAny_pyIter_zip st.1 h
def UJ (K:a7) (ta:TA):TI:=fun σ H R=>ta σ H fun vs H1=>∃ a b xs ys,vs=[.ref a,.ref b]/\j_ K H1 a xs/\j_ K H1 b ys/\R (UH K a b) H1
theorem QA {X:Cx}{elts:List bc}{x1}{tpos p pos:Pos}{a b:bc}{ta:TA} (hg:Gl X "zip") (hm:X.mg "zip"=none) (ha:PA X [a,b] ta) (hs:am [a,b] X.env=[(false,bY a X.env),(false,bY b X.env)]:=by rfl)
  (hs2:am [b] X.env=[(false,bY b X.env)]:=by rfl):PI X (.Tuple elts x1 tpos) (.Call (.Name "zip" p) [a,b] [] pos) (UJ X.K ta):=by
 intro pins s σ H R I h;refine Call_ (uD I hg hm boot_zip (fS (eR (ha pos pins s σ H _ I h) fun us s1 ⟨vs,H1,I1,r1,q1⟩=>?_) (by rw [hs,hs2]) (by rw [hs2];rfl)));obtain ⟨a1,a2,xs,ys,rfl,hq1,hq2,q⟩:=q1;obtain ⟨u1,u2,rfl,rx1,rx2⟩:=Jm r1;cases rx1;cases rx2;obtain ⟨its1,rv1,p1,_⟩:=I1.tuple hq1;obtain ⟨its2,rv2,p2,_⟩:=I1.tuple hq2;refine AQ (show s1.heap.IsTuple a1 its1.toArray from p1) (show s1.heap.IsTuple a2 its2.toArray from p2) fun h' c1 c2 c3 c4 c5 kp=>?_;refine wpAny_pyIter_zip c1 ?_;have I2:bv X pins σ H1 { s1 with heap:=h' }:=I1.kept (t':=s1.toks) kp;have ad:∀ k j:Nat,k≠j->s1.heap.objs.size+k≠s1.heap.objs.size+j:=fun k j n e=>n (Nat.add_left_cancel e);refine ⟨s1.heap.objs.size+4,[s1.heap.objs.size+4,s1.heap.objs.size+2,s1.heap.objs.size+3,s1.heap.objs.size+0,s1.heap.objs.size+1],_,_,H1,rfl,I2,
  K4 a1 a2 _ _ _ _ _ ⟨ad _ _ (by decide),ad _ _ (by decide),ad _ _ (by decide),ad _ _ (by decide),ad _ _ (by decide),ad _ _ (by decide),ad _ _ (by decide),ad _ _ (by decide),ad _ _ (by decide),ad _ _ (by decide)⟩,
  ⟨c1,c2,⟨_,_,c3⟩,c4,c5⟩,fun b hb=>?_,q⟩
 have:∀ k:Nat,sZ X pins H1 (s1.heap.objs.size+k):=fun k=>I1.fpOk (ML _ _) (I1.hok.fresh (ML _ _))
 simp only [aV,aN,or_false] at hb;rcases hb with q|q|q|q|q<;>(rw [q];exact this _)
end
section
mutual
inductive EC (K:a7) (H:Hp):V->Av->Prop
 |none:EC K H .non .none
 |bool (b:Bool):EC K H (.bl b) (.bool b)
 |int (i:Int):EC K H (.int i) (.int i)
 |str (x:Str):EC K H (.str x) (.str x)
 |list {a:ac}{xs:List V}{ds:List Av}:nY K H a xs->Reps K H xs ds->EC K H (.ref a) (.list ds)
 |tuple {a:ac}{xs:List V}{ds:List Av}:j_ K H a xs->Reps K H xs ds->EC K H (.ref a) (.tuple ds)
inductive Reps (K:a7) (H:Hp):List V->List Av->Prop
 |nil:Reps K H [] []
 |cons {x:V}{xs:List V}{d:Av}{ds:List Av}:EC K H x d->Reps K H xs ds->Reps K H (x::xs) (d::ds)
end
theorem df.tup {K:a7}{H H':Hp}{a:ac}{xs:List V} (e:df H H') (h:j_ K H a xs):j_ K H' a xs:=by
 rcases h with (h|⟨o,h⟩)|h
 ·exact .inl (.inl (e _ _ h))
 ·exact .inl (.inr ⟨o,e _ _ h⟩)
 ·exact .inr h
section
theorem Nz (I:bv X pins σ H s)    (h:nY X.K H a xs) (ih:∀ {us:List a9},cn xs us->∃ as,ReadsAll s.heap us ds as) (r:cU (.ref a) u):∃ as,Reads s.heap u (.list ds) as:=by
 cases r;obtain ⟨its,rv,⟨o,n,e,c,_,d⟩,_⟩:=I.list h;obtain ⟨as,ra⟩:=ih rv;exact ⟨_,.list e c d (by simpa using ra)⟩
theorem K5 (I:bv X pins σ H s)    (h:j_ X.K H a xs) (ih:∀ {us:List a9},cn xs us->∃ as,ReadsAll s.heap us ds as) (r:cU (.ref a) u):∃ as,Reads s.heap u (.tuple ds) as:=by
 cases r;obtain ⟨its,rv,⟨o,e,c,n,d⟩,_⟩:=I.tuple h;obtain ⟨as,ra⟩:=ih rv;exact ⟨_,.tuple e c d (by simpa using ra)⟩
theorem qD (I:bv X pins σ H s)  (h:EC X.K H v d):∀ {u:a9},cU v u->∃ as,Reads s.heap u d as :=
 EC.rec (motive_1:=fun v d _=>∀ {u:a9},cU v u->∃ as,Reads s.heap u d as) (motive_2:=fun vs ds _=>∀ {us:List a9},cn vs us->∃ as,ReadsAll s.heap us ds as)
  (fun r=>by cases r;exact ⟨_,.none⟩) (fun b _ r=>by cases r;exact ⟨_,.bool b⟩) (fun i _ r=>by obtain ⟨t,rfl⟩:=r;exact ⟨_,.int i t⟩) (fun x _ r=>by obtain ⟨t,rfl⟩:=r;exact ⟨_,.str x t⟩)
  (fun h _ ih _ r=>Nz I h ih r) (fun h _ ih _ r=>K5 I h ih r) (fun r=>by cases r;exact ⟨_,.nil⟩) (fun _ _ a b _ r=>by
   cases r with
   |cons r rs =>
    obtain ⟨as,ra⟩:=a r;obtain ⟨bs,rb⟩:=b rs;exact ⟨_,.cons ra rb⟩) h
end
section
inductive P1 (K:a7) (neg:Bool) (x:V) (y:V) (H:Hp) (Q:VK):Prop
 |mk (dx dy:_) (h0:EC K H x dx) (h1:EC K H y dy) (h2:dx.canLay0=true) (h3:dy.canLay0=true) (h4:min dx.depth dy.depth<=60) (h5:Q (.bl (if neg then !bu dx dy else bu dx dy)) H):P1 K neg x y H Q
def QB (K:a7) (neg:Bool):R2:=P1 K neg
theorem QC (hu:X.A.units+64<qS):pp X (bC .Eq) (QB X.K false):=by
 intro pins s σ H x y v u Q I rx ry h;obtain ⟨dx,dy,hx,hy,lx,ly,dp,q⟩:=h;obtain ⟨as,ra⟩:=qD I hx rx;obtain ⟨bs,rb⟩:=qD I hy ry;exact PySem.SeqAt.compareEq_reads ra rb lx ly (by omega) ⟨.bl _,H,I,rfl,q⟩
theorem QD (hu:X.A.units+64<qS):pp X (bC .NotEq) (QB X.K true):=by
 intro pins s σ H x y v u Q I rx ry h;obtain ⟨dx,dy,hx,hy,lx,ly,dp,q⟩:=h;obtain ⟨as,ra⟩:=qD I hx rx;obtain ⟨bs,rb⟩:=qD I hy ry;exact PySem.SeqAt.compareNe_reads ra rb lx ly (by omega) ⟨.bl _,H,I,rfl,q⟩
end
end
section
structure P2 (P:aR) (w:bh) (l:List Env) (H H':Hp) (h h' B:br) (ea C t:ac):Prop where
 fly:Heap.FlyingW B l ea (.ref C) (.ref t) h'
 cov:∀ b u,H' b=some u->∃ o,B.get? b=some o
 old:∀ b o,h.get? b=some o->H b=none->b∉q_ l->B.get? b=some o
 all:∀ b o,h.get? b=some o->b∉q_ l->∃ o',B.get? b=some o'
 un:Un (q_ l) [] H H' h h'
 hok:pG P w H' h'
inductive S4 (P:aR) (w:bh) (outer:List Env) (H:Hp) (s:ag) (E:XK) (e:a9) (s':ag):Prop
 |mk (ea C t H' B:_) (h0:e=.ref ea) (h1:s'.os=s.os) (h2:pw s'.gens) (h3:P2 P w outer H H' s.heap s'.heap B ea C t) (h4:E (.ref C) none H'):S4 P w outer H s E e s'
def kR (P:aR) (w:bh):G1:=S4 P w
theorem K6      (x:pG P w H h) (e:H b=some u):∃ o,h.get? b=some o:=by
 have y:=x b u e;cases u with
 |lst xs=>obtain ⟨_,_,_,_,k⟩:=y;exact ⟨_,k⟩
 |tup xs=>obtain ⟨_,_,_,o,k,_⟩:=y;exact ⟨o,k⟩
 |dK kvs=>obtain ⟨_,_,_,_,o,_,_,k,_⟩:=y;exact ⟨o,k⟩
 |dT kvs=>obtain ⟨_,_,_,_,o,_,_,k,_⟩:=y;exact ⟨o,k⟩
 |set S n=>obtain ⟨o,_,_,_,k,_⟩:=y;exact ⟨o,k⟩
 |ins C dx fs=>obtain ⟨_,_,_,k,_⟩:=y;exact ⟨_,k⟩
 |own y'=>exact y
 |xd fs=>obtain ⟨_,⟨o,_,_,k,_⟩,_⟩:=y;exact ⟨o,k⟩
 |rng lo hi=>obtain ⟨_,_,_,k⟩:=y;exact ⟨_,k⟩
 |frz o u=>exact ⟨o,y.1⟩
 |tbl ps=>exact ⟨_,y⟩
 |met f y'=>exact ⟨_,y⟩
 |ext φ=>exact y.2.1
theorem Gf   (he:env∈l) (hf:env.frame=some b):b∈q_ l:=List.mem_filterMap.mpr ⟨env,he,hf⟩
section
theorem P2.kp (x:P2 P w l H H' h h' B ea C t) (st:B.StaysIn h'') (b:ac) (u:HO) (o:Obj) (e:H' b=some u) (q:h'.get? b=some o):h''.get? b=some o:=by
 obtain ⟨o',e1⟩:=x.cov b u e;have:=x.fly.1 b o' e1;rw [q] at this;cases this;exact st b o e1
theorem P2.on (x:P2 P w l H H' h h' B ea C t) (fl:Heap.FlyingW B l ea (.ref C) (.ref t) h'') (up:h'.UpToSlots h''):P2 P w l H H' h h'' B ea C t:=by
 have st:=fl.1;refine ⟨fl,x.cov,x.old,x.all,⟨fun b o q n hb hx=>st b o (x.old b o q n hb),fun b o q n hb hx=>?_,x.un.free,fun b o q hx=>?_,x.un.tups,x.un.frzs,x.un.tbls⟩,fun b u e=>?_⟩
 ·obtain ⟨sl,e1⟩:=x.un.slot b o q n hb hx;obtain ⟨_,o',k1,k2⟩:=eD x.fly.2.2.1 hb;rw [e1] at k1;cases k1;obtain ⟨sl',e2⟩:=up b _ e1 k2;exact ⟨sl',e2⟩
 ·by_cases hb:b∈q_ l
  ·obtain ⟨_,o',k1,_⟩:=eD fl.2.2.1 hb;exact ⟨o',k1⟩
  ·obtain ⟨o',k⟩:=x.all b o q hb;exact ⟨o',st b o' k⟩
 ·exact (x.hok b u e).stay (fun c o hc q=>by
   rcases hc with z|z
   ·rw [z] at q ⊢;exact x.kp st b u o e q
   ·exact x.kp st c _ o z q) (fun _ q=>q) fun _ _ q=>q
end
section
variable {P:aR}{w:bh}{K:a7}{mg:Str->Option a9}{base:br}{N:List Str}{qual:Str}{scope:eY}{f:ac}{cd:a9}{A:bf}{outer:List Env}{s:ag}{H:Hp}{E:XK}
theorem AR       (I:bv (iT (kR P w) P w K mg base N qual scope f cd A outer s H E) pins σ H1 s1)
  (hx:Heap.MadeExcOf s1.heap h' ea (.ref C) vs) (q:E (.ref C) none H1):(iT (kR P w) P w K mg base N qual scope f cd A outer s H E).xe (.ref ea) { s1 with heap:=h' }:=by
 let X:=iT (kR P w) P w K mg base N qual scope f cd A outer s H E
 let B:=IC s1.heap (q_ X.stack)
 have hin:∀ env∈X.stack,∀ a,env.frame=some a->a∈q_ X.stack:=fun env he a hf=>Gf he hf;have stB:B.StaysIn s1.heap:=fun b o e=>DK _ e;have nS:∀ b,b∉q_ X.stack->∀ o,s1.heap.get? b=some o->B.get? b=some o:=fun b n o e=>Dy _ e n;show aq _ X.A (leaving X.env (.ref ea)) _ _ _;refine wpAny_leaves_madeW (s:={ s1 with heap:=h' }) (base:=B) (outer:=outer) (L:=X.env.locals) I.ok.frames rfl stB (PySem.W.funFrames_hide I.stack hin) hx fun h2 t fl tup tn up=>?_;have st2:=fl.1;have bl:∀ b o,s.heap.get? b=some o->b∉q_ outer->b∉q_ X.stack:=fun b o e n z=>by
  rcases List.mem_cons.mp (I.stkSub b z) with y|y
  ·exact absurd (ax e) (by rw [y];exact Nat.not_lt.mpr I.ok.above)
  ·exact n y
 have noex:∀ b:ac,b∉X.ex:=fun b z=>absurd (show b∈([] : List ac) from z) (by simp);have cov:∀ b u,H1 b=some u->∃ o,B.get? b=some o:=fun b u e=>by
  have hb:b∉q_ X.stack:=fun z=>by have:=I.stkFree b z;rw [e] at this;cases this
  obtain ⟨o,k⟩:=K6 I.hok e;exact ⟨o,nS b hb o k⟩
 refine ⟨ea,C,t,H1,B,rfl,I.os,I.bare,⟨fl,cov,fun b o e n hb=>?_,fun b o e hb=>?_,⟨fun b o e n hb hx'=>?_,fun b o e n hb hx'=>?_,fun b o e n _=>I.base.free b o e n (noex b),fun b o e _=>?_,I.base.tups,I.base.frzs,I.base.tbls⟩,fun b u e=>?_⟩,q⟩
 ·exact nS b (bl b o e hb) o (I.base.keep b o e n hb (noex b))
 ·obtain ⟨o',k⟩:=I.base.there b o e (noex b);exact ⟨o',nS b (bl b o e hb) o' k⟩
 ·exact st2 b o (nS b (bl b o e hb) o (I.base.keep b o e n hb (noex b)))
 ·obtain ⟨sl,k⟩:=I.base.slot b o e n hb (noex b);obtain ⟨_,o',k1,k2⟩:=eD I.funs hb;rw [k] at k1;cases k1;obtain ⟨sl',k3⟩:=up b _ (hx.keeps _ _ k) k2;exact ⟨sl',k3⟩
 ·obtain ⟨o',k⟩:=I.base.there b o e (noex b);by_cases hb:b∈q_ outer
  ·obtain ⟨_,o2,k1,_⟩:=eD fl.2.2.1 hb;exact ⟨o2,k1⟩
  ·exact ⟨o',st2 b o' (nS b (bl b o e hb) o' k)⟩
 ·refine (I.hok b u e).stay (fun c o hc k=>?_) (fun _ q=>q) fun _ _ q=>q;have hcs:c∉q_ X.stack:=fun z=>by
   have:=I.stkFree c z;rcases hc with y|y
   ·rw [y,e] at this;cases this
   ·rw [y] at this;cases this
  exact st2 c o (nS c hcs o k)
theorem Ci (hE:∀ c H',E' c none H'->E c none H'):g_ (kR P w) (iT (kR P w) P w K mg base N qual scope f cd A outer s H E) E':=by
 intro pins σ H1 s1 e s' I h;obtain ⟨ea,C,t,H',B,rfl,os,bare,x,q⟩:=h;let X:=iT (kR P w) P w K mg base N qual scope f cd A outer s H E
 have noex:∀ b:ac,b∉X.ex:=fun b z=>absurd (show b∈([] : List ac) from z) (by simp);have bl:∀ b o,s.heap.get? b=some o->b∉q_ outer->b∉q_ X.stack:=fun b o e n z=>by
  rcases List.mem_cons.mp (I.stkSub b z) with y|y
  ·exact absurd (ax e) (by rw [y];exact Nat.not_lt.mpr I.ok.above)
  ·exact n y
 have sub:∀ b∈q_ outer,b∈q_ X.stack:=fun b hb=>by
  obtain ⟨env,he,hf⟩:=List.mem_filterMap.mp hb;exact Gf (ar _ he) hf
 show aq _ X.A (leaving X.env (.ref ea)) _ _ _;refine wpAny_leaves_onW (base:=B) (outer:=outer) (L:=X.env.locals) I.ok.frames rfl x.fly fun h2 fl up=>?_;have st2:=fl.1;refine ⟨ea,C,t,H',B,rfl,os.trans I.os,bare,⟨fl,x.cov,fun b o e n hb=>?_,fun b o e hb=>?_,⟨fun b o e n hb hx'=>?_,fun b o e n hb hx'=>?_,fun b o e n _=>?_,fun b o e _=>?_,fun b xs e=>x.un.tups b xs (I.base.tups b xs e),fun b o xs e=>x.un.frzs b o xs (I.base.frzs b o xs e),fun b ps e=>?_⟩,fun b u e=>?_⟩,hE _ _ q⟩
 ·exact x.old b o (I.base.keep b o e n hb (noex b)) (I.base.free b o e n (noex b)) (bl b o e hb)
 ·obtain ⟨o',k⟩:=I.base.there b o e (noex b);exact x.all b o' k (bl b o e hb)
 ·exact st2 b o (x.old b o (I.base.keep b o e n hb (noex b)) (I.base.free b o e n (noex b)) (bl b o e hb))
 ·obtain ⟨sl,k⟩:=I.base.slot b o e n hb (noex b);obtain ⟨sl1,k1⟩:=x.un.slot b _ k (I.base.free b o e n (noex b)) (sub b hb) (by simp);obtain ⟨_,o',k2,k3⟩:=eD x.fly.2.2.1 (sub b hb);rw [k1] at k2;cases k2;obtain ⟨sl2,k4⟩:=up b _ k1 k3;exact ⟨sl2,k4⟩
 ·obtain ⟨o',k⟩:=I.base.there b o e (noex b);exact x.un.free b o' k (I.base.free b o e n (noex b)) (by simp)
 ·obtain ⟨o',k⟩:=I.base.there b o e (noex b);by_cases hb:b∈q_ outer
  ·obtain ⟨_,o2,k1,_⟩:=eD fl.2.2.1 hb;exact ⟨o2,k1⟩
  ·obtain ⟨o2,k2⟩:=x.all b o' k (bl b o e hb);exact ⟨o2,st2 b o2 k2⟩
 ·obtain ⟨m1,e1⟩:=I.base.tbls b ps e;obtain ⟨m2,e2⟩:=x.un.tbls b _ e1;exact ⟨m1++m2,by rw [e2,GX]⟩
 ·exact (x.hok b u e).stay (fun c o hc k=>by
   rcases hc with z|z
   ·rw [z] at k ⊢;exact x.kp st2 b u o e k
   ·exact x.kp st2 c _ o z k) (fun _ q=>q) fun _ _ q=>q
end
end
section
section
variable {P:aR}{w:bh}{K:a7}{mg:Str->Option a9}{base:br}{N:List Str}{qual:Str}{scope:eY}{f:ac}{cd:a9}{A:bf}{outer:List Env}{s:ag}{H:Hp}{E:XK}
theorem K7 {x:Str}{np cpos pos:Pos}{e0:bc}{bM:List bc}{C:ac}{bmB:List a9}{newId initId Bn:String}{ta:TA} (O:OwnCls x C bmB newId mg base) (FB:ExcBaseFacts Bn newId initId bmB)
  (hg:Gl (iT (kR P w) P w K mg base N qual scope f cd A outer s H E) x) (ha:PA (iT (kR P w) P w K mg base N qual scope f cd A outer s H E) (e0::bM) ta)
  (he:am (e0::bM) (iT (kR P w) P w K mg base N qual scope f cd A outer s H E).env=(false,bY e0 (iT (kR P w) P w K mg base N qual scope f cd A outer s H E).env)::am bM (iT (kR P w) P w K mg base N qual scope f cd A outer s H E).env:=by rfl)
  (hdb:(x==("__debug__" : Str))=false:=by decide) (hpl:(da cpos (am bM (iT (kR P w) P w K mg base N qual scope f cd A outer s H E).env)).any (·.1)=false:=by rfl) :
  PS (iT (kR P w) P w K mg base N qual scope f cd A outer s H E) (.Raise (some (.Call (.Name x np) (e0::bM) [] cpos)) none pos) (fun D σ H1=>ta σ H1 fun vs H2=>vs.length<=sizeLine/\E (.ref C) none H2):=by
 intro pins s1 σ H1 D I h;obtain ⟨tl,Nn,nm,q,bs,hdct,sn,sub,ab,col,dd,k0,k1,k2,k3,k5,mN,hC,hN,hni,T⟩:=O.obj;refine wpAny_Raise_call_subT (C:=C) (nm:=nm) (q:=q) (N:=Nn) (bs:=bs) (bm:=tl) (hdct:=hdct) (sn:=sn) (sub:=sub) (ab:=ab) (col:=col) (dd:=dd) (k0:=k0) (k1:=k1) (k2:=k2) (k3:=k3) (k5:=k5)
  FB (mN:=mN) (T.hasType FB.hasBase) (I.ok.hd rfl) ?_ hni (sY I hg O.bound ⟨rfl,?_⟩ hdb)
 ·rw [he];show (false||_)=false;rw [sW];exact hpl
 ·have hx:=ha cpos pins s1 σ H1 _ I h;rw [he] at hx ⊢;refine DV (eR hx fun us s2 ⟨vs,H2,I2,r2,z,qE⟩=>?_);have kb:∀ b o,base.get? b=some o->s2.heap.get? b=some o:=I2.bk;exact ⟨rfl,by show us.length<=sizeLine;rw [<- r2.length];exact z,kb _ _ hC,hN.keeps kb,T.keeps kb,fun h' ea hm=>AR I2 hm qE⟩
end
structure AS (base:br) (C:ac) (bm:List a9):Prop where
 obj:∃ nm q N bs hdct sn sub ab col dd k0 k1 k2 k3 k5 newId,base.get? C=some (excClassObj nm q C N bs bm hdct sn sub ab col dd k0 k1 k2 k3 k5 newId)
 exc:bm.contains (.type "BaseException")=true
theorem xn         (kb:∀ b o,base.get? b=some o->s.heap.get? b=some o) (x:AS base C bm) (y:AS base Cp bp)
  (hm:bm.contains (.ref Cp)=true) (he:s.heap.get? ea=some oe) (hcls:oe.cls=.ref C) (h:Q true s):aq M A (excMatches (.ref ea) (.ref Cp)) Q E s:=by
 obtain ⟨⟨nm,q,Nn,bs,hdct,sn,sub,ab,col,dd,k0,k1,k2,k3,k5,newId,o1⟩,x2⟩:=x;obtain ⟨⟨nm',q',Nn',bs',hdct',sn',sub',ab',col',dd',k0',k1',k2',k3',k5',newId',o2⟩,y2⟩:=y;have hC:=kb _ _ o1;have hP:=kb _ _ o2;have c1:(bq C::bm).contains (.ref Cp)=true:=by rw [jd,hm,Bool.or_true]
 have c2:(bq Cp::bp).contains (.type "BaseException")=true:=by rw [jd,y2,Bool.or_true]
 have f:=tc_notTuple;obtain ⟨hp,g,d,tk,os⟩:=s;unfold excMatches;repeat (first
  |(with_reducible refine wpAny_loadPart_at he ?_;rw [hcls])
  |with_reducible refine wpAny_loadPart_at hP ?_
  |(with_reducible refine wpAny_isSubtype_exc hC ?_;rw [c1])
  |(with_reducible refine wpAny_isSubtype_exc hP ?_;rw [c2])
  |wp_step)
 exact h
def xo (ea C:ac):HO:=.ext fun h=>∃ o,h.get? ea=some o/\o.cls=.ref C
theorem NA      (e:h.get? ea=some o) (c:o.cls=.ref C):dv P w H h ea (xo ea C) :=
 ⟨⟨o,e,c⟩,⟨o,e⟩,fun h1 h2 ⟨o,e,c⟩ k=>⟨o,k o e,c⟩⟩
def Rr (X:Cx) (ea:ac):Cx:={ X with A:=X.A.mark (some (.ref ea)),calm:=false,xe:=fun _ _=>False }
theorem bv.inH     (I:bv X pins σ H s) (ea:ac):bv (Rr X ea) pins σ H s :=
 ⟨⟨I.ok.mod,I.ok.kind,I.ok.glob,I.ok.blt,I.ok.above,I.ok.inj,I.ok.has,I.ok.cab,(fun z=>iD z),I.ok.frames,I.ok.stk,I.ok.exf,I.ok.bs,I.ok.bsz,I.ok.noex,I.ok.exfs,I.ok.funs,I.ok.frf⟩,I.os,I.bare,I.base,I.loc,I.cell,I.free,I.freeC,I.pin,I.hok,I.len⟩
theorem bv.outH      (ok:X.Ok) (I:bv (Rr X ea) pins σ H s):bv X pins σ H s :=
 ⟨ok,I.os,I.bare,I.base,I.loc,I.cell,I.free,I.freeC,I.pin,I.hok,I.len⟩
def xp (X:Cx):St:=bD X.N.length none
theorem bv.forget        (I:bv X pins σ H s) (hn:h'.Ns X.env.locals m') (sb:bW X.env.locals s.heap h'):bv X pins (xp X) H { s with heap:=h',toks:=t' }:=by
 have ne0:∀ b o,X.s₀.heap.get? b=some o->b≠X.env.locals:=fun b o e=>aP (aF (ax e) I.ok.above);refine ⟨I.ok,I.os,I.bare,⟨fun b o e n hb hx=>(sb.2 b (ne0 b o e)).trans (I.base.keep b o e n hb hx),fun b o e n hb hx=>?_,I.base.free,fun b o e hx=>?_,I.base.tups,I.base.frzs,I.base.tbls⟩,⟨m',hn,fun i x v h1 h2 h3=>?_⟩,fun x c e=>?_,I.free,I.freeC,fun p hp=>?_,C8 I.hok I.free sb,by simp [xp]⟩
 ·obtain ⟨sl,k⟩:=I.base.slot b o e n hb hx;exact ⟨sl,(sb.2 b (ne0 b o e)).trans k⟩
 ·obtain ⟨o',k⟩:=I.base.there b o e hx;exact ⟨o',(sb.2 b (ne0 b o e)).trans k⟩
 ·have h2:(xp X)[i]?=some (some v):=h2;unfold xp at h2;rw [bK] at h2;split at h2<;>cases h2
 ·obtain ⟨v,z⟩:=I.cell x c e;exact ⟨v,z.sameBut sb (I.cne x c e)⟩
 ·obtain ⟨e,n,ne,nf,d⟩:=I.pin p hp;exact ⟨(sb.2 p.1 ne).trans e,n,ne,nf,d⟩
def P3 (X:Cx) (Cp:ac) (i:Nat) (ts:TS) (D:wZ):XK:=fun c _ H'=>∃ C bm,c=.ref C/\AS X.base C bm/\bm.contains (.ref Cp)=true /\
 ∀ ea,H' ea=none->ts { nx:=fun _ H=>D.nx (xp X) H,rt:=D.rt } ((xp X).set i (some (.ref ea))) (upd H' ea (xo ea C))
def UK (X:Cx) (Cp:ac) (i:Nat) (tb:XK->TS) (ts:TS):TS:=fun D σ H=>tb (P3 X Cp i ts D) D σ H
theorem K8           (I:bv X pins σ H s) (hg:Gl X x) (hm:X.mg x=some u) (h:Q u s)
  (hd:(x==("__debug__" : Str))=false:=by decide):aq (aD X.prog X.w) A (bY (.Name x pos) X.env) Q E s :=
 lX I.ok.kind hg (BG (by rw [I.ok.glob];exact I.mod.glob.keeps I.bk) hm h) hd
def QE (X:Cx) (xe:a9->ag->Prop) (pn:List (ac×Obj)):Cx:={ X with xe:=xe,pn:=pn }
theorem bv.inT     (I:bv X pins σ H s) (xe:a9->ag->Prop):bv (QE X xe (X.pn++pins)) [] σ H s :=
 ⟨⟨I.ok.mod,I.ok.kind,I.ok.glob,I.ok.blt,I.ok.above,I.ok.inj,I.ok.has,I.ok.cab,I.ok.hd,I.ok.frames,I.ok.stk,I.ok.exf,I.ok.bs,I.ok.bsz,I.ok.noex,I.ok.exfs,I.ok.funs,I.ok.frf⟩,I.os,I.bare,I.base,I.loc,I.cell,I.free,I.freeC,
  fun p hp=>I.pin p ((List.mem_append.mp hp).elim id fun z=>absurd z (by simp)),I.hok,I.len⟩
theorem bv.outT      (ok:X.Ok) (I:bv (QE X xe (X.pn++pins)) pins' σ H s):bv X pins σ H s :=
 ⟨ok,I.os,I.bare,I.base,I.loc,I.cell,I.free,I.freeC,fun p hp=>I.pin p (qY _ hp),I.hok,I.len⟩
theorem bv.track0       (I:bv X pins σ H s) (h0:X.s₀.heap.get? D=none) (f0:H D=none) (f1:D≠X.env.locals) (f4:∀ x c,X.env.cells.lookup x=some c->c≠D) (f5:∀ p∈X.pn++pins,p.1≠D)
  (new:dv X.prog X.w (upd H D ho) s.heap D ho):bv X pins σ (upd H D ho) s :=
 ⟨I.ok,I.os,I.bare,⟨I.base.keep,I.base.slot,fun b o e n hx=>by rw [av (fun z=>by rw [z,h0] at e;cases e)];exact I.base.free b o e n hx,I.base.there,fun b xs e=>by have q:=I.base.tups b xs e;rw [av (aE q f0)];exact q,
  fun b o xs e=>by have q:=I.base.frzs b o xs e;rw [av (aE q f0)];exact q,fun b ps e=>by obtain ⟨m,q⟩:=I.base.tbls b ps e;exact ⟨m,by rw [av (aE q f0)];exact q⟩⟩,I.loc,I.cell,
  by rw [av (eV f1)];exact I.free,fun x c e=>by rw [av (f4 x c e)];exact I.freeC x c e,fun p hp=>by
  obtain ⟨e,n,r⟩:=I.pin p hp;exact ⟨e,by rw [av (f5 p hp)];exact n,r⟩,uJ I.hok f0 new,I.len⟩
theorem QF          (hg:Gl X x) (hm:X.mg x=some (.ref Cp)) (y:AS X.base Cp bp)
  (hN:X.N.Nodup) (hi:X.N[i]?=some n) (hn:X.env.scope.names.lookup n=some .local) (hst:∃ l,X.stack=X.env::l/\X.env.frame=some X.env.locals) (hex:X.ex=[])
  (hb:∀ (E:XK) (xe:a9->ag->Prop) (pn:List (ac×Obj)),g_ (kR X.prog X.w) (QE X xe pn) E->Ax (QE X xe pn) body (tb E)) (hs:∀ ea,Ax (Rr X ea) (b0::suite) ts) (hdb:(x==("__debug__" : Str))=false:=by decide) :
  PS X (.Try body [.ExceptHandler (some (.Name x np)) (some n) (b0::suite) hpos] [] [] pos) (UK X Cp i tb ts):=by
 intro pins s σ H D I h;obtain ⟨l,hl,hfr⟩:=hst;have ok:=I.ok;refine wpAny_Try_except ?_;let xe:a9->ag->Prop:=fun e s₁=>aq (aD X.prog X.w) X.A (II e X.env) (fun _ s₂=>aq (aD X.prog X.w) X.A (setFlight e none) (fun _ s₃ =>
  aq (aD X.prog X.w) X.A (handleBy e X.env [.ExceptHandler (some (.Name x np)) (some n) (b0::suite) hpos]) (SP X pins D) X.xe s₃) X.xe s₂) X.xe s₁
 have hp:g_ (kR X.prog X.w) (QE X xe (X.pn++pins)) (P3 X Cp i ts D):=by
  intro pins' σ' H1 s1 e s' I' hx;have I1:bv X pins σ' H1 s1:=I'.outT ok;obtain ⟨ea,C,t,H',B,rfl,os,bare,air,C',bm,hCe,ox,hcp,hts⟩:=hx;cases hCe;have air:P2 X.prog X.w X.stack H1 H' s1.heap s'.heap B ea C t:=air;have land:∀ h2,P2 X.prog X.w X.stack H1 H' s1.heap h2 B ea C t->bv X pins σ' H' { s' with heap:=h2 }:=fun h2 a =>
   I1.call' (s':={ s' with heap:=h2 }) (ch:=[]) os a.un a.hok bare (fun b z=>absurd z (by simp))
  have fly:=air.fly;rw [hl] at fly;show aq _ X.A (II (.ref ea) X.env) _ _ s';refine wpAny_looks_onW (base:=B) (outer:=l) (L:=X.env.locals) (by rw [ok.frames,hl]) hfr fly fun h2 hd2 up2=>?_;refine wpAny_landsW hd2 fun h3 fl3 up3=>?_;have up3':=up2.trans up3;have a3:=air.on (by rw [hl];exact fl3) up3';have I3:=land h3 a3;obtain ⟨oe,he,hcl⟩:=fl3.there;refine wpAny_handleBy_cons (codeAny_handlers_test (K8 I3 hg hm ?_ hdb)) (by intro q;cases q);refine xn (base:=X.base) (s:={ s' with heap:=h3 }) I3.bk ox y hcp he hcl (codeAny_handlers_suite_as ?_);refine lands_againW (s:={ s' with heap:=h3 }) fl3 fun h4 fl4 up4=>?_;have a4:=air.on (by rw [hl];exact fl4) (up3'.trans up4);have I4:=land h4 a4;obtain ⟨oe4,ws,he4,hcl4,hd4,_⟩:=fl4.first;have nB:B.get? ea=none:=fl4.2.1;have nfr:ea∉q_ X.stack:=fun z=>by
   obtain ⟨_,o',k1,k2⟩:=eD fl4.2.2.1 (by rw [<- hl];exact z);rw [he4] at k1;cases k1;exact k2 _ hd4
  have n1:s1.heap.get? ea=none:=by
   cases q:s1.heap.get? ea with
   |none=>rfl
   |some o =>
    obtain ⟨o',k⟩:=air.all ea o q nfr;rw [nB] at k;cases k
  have nH:H' ea=none:=by
   cases q:H' ea with
   |none=>rfl
   |some u =>
    obtain ⟨o',k⟩:=air.cov ea u q;rw [nB] at k;cases k
  have nloc:ea≠X.env.locals:=fun z=>by
   obtain ⟨m,⟨o,_,_,k,_⟩,_⟩:=I1.loc;rw [<- z,n1] at k;cases k
  have ncell:∀ x c,X.env.cells.lookup x=some c->c≠ea:=fun x c e z=>by
   obtain ⟨v,o,k,_⟩:=I1.cell x c e;rw [z,n1] at k;cases k
  have npin:∀ p∈X.pn++pins,p.1≠ea:=fun p hp z=>by
   have k:=(I1.pin p hp).1;rw [z,n1] at k;cases k
  have n0:X.s₀.heap.get? ea=none:=by
   cases q:X.s₀.heap.get? ea with
   |none=>rfl
   |some o =>
    by_cases hx:ea∈X.ex
    ·rw [hex] at hx;cases hx
    ·obtain ⟨o',k⟩:=I1.base.there ea o q hx;rw [n1] at k;cases k
  have I5:=(I4.weak (σ':=xp X) (by rw [I4.len];simp [xp]) (fun j v z=>by
   unfold xp at z;rw [bK] at z;split at z<;>cases z)).track0 (ho:=xo ea C) n0 nH nloc ncell npin (NA he4 hcl4)
  refine wY I5 hN hi (.inl hn) (v:=.ref ea) rfl (fun s6 I6=>?_) (.inr hn);refine cc (hs ea pins s6 _ _ _ (I6.inH ea) (hts ea nH)) (fun f s7 q7=>?_) fun _ _ z=>z.elim;have fin:∀ {σ7:St}{H7:Hp}{Q':St->Hp->Prop},bv (Rr X ea) pins σ7 H7 s7->(∀ s8,bv X pins (xp X) H7 s8->SP X pins D f s8)->aq (aD X.prog X.w) X.A (do bindName X.env n .none;unbindBehindTheSuite X.env n hpos) (fun _ s8=>SP X pins D f s8) X.xe s7:=fun {σ7 H7 Q'} J k=>by
   have J:=J.outH ok;obtain ⟨m,hm7,_⟩:=J.loc;exact wpAny_nameGoes hn hm7 (by rw [ok.kind];rfl) fun h8 m8 hn8 sb8=>k _ (J.forget hn8 sb8)
  cases f with
  |next=>obtain ⟨σ7,H7,J,q⟩:=q7;exact fin (Q':=fun _ _=>True) J fun s8 I8=>⟨_,_,I8,q⟩
  |brk=>obtain ⟨σ7,H7,J,q⟩:=q7;exact q.elim
  |cont=>obtain ⟨σ7,H7,J,q⟩:=q7;exact q.elim
  |ret v=>obtain ⟨z,σ7,H7,J,r,q⟩:=q7;exact fin (Q':=fun _ _=>True) J fun s8 I8=>⟨z,_,_,I8,r,q⟩
 refine cc (hb _ xe (X.pn++pins) hp [] s σ H D (I.inT xe) h) (fun f s1 q=>?_) fun e s1 q=>q;have q:SP X pins D f s1:=by
  cases f with
  |next=>obtain ⟨σ',H',J,q⟩:=q;exact ⟨σ',H',J.outT ok,q⟩
  |brk=>obtain ⟨σ',H',J,q⟩:=q;exact ⟨σ',H',J.outT ok,q⟩
  |cont=>obtain ⟨σ',H',J,q⟩:=q;exact ⟨σ',H',J.outT ok,q⟩
  |ret v=>obtain ⟨z,σ',H',J,r,q⟩:=q;exact ⟨z,σ',H',J.outT ok,r,q⟩
 cases f with
 |next=>exact sK q
 |brk=>exact q
 |cont=>exact q
 |ret v=>exact q
end
section
structure K9 (K:a7) (C:ac):Prop where
 ga:bz K (.ref C) "__getattribute__"=some (some (.builtin "BaseException.__getattribute__"))
 gn:bz K (.ref C) "__getattr__"=some none
 ca:bz K (.ref C) "__class__"=some (some (.builtin "object.__class__"))
 gg:sS K (.builtin "object.__class__") "__get__"=some (some (.builtin "getset_descriptor.__get__"))
 tk:vW K (.builtin "object.__class__")=some true
 mo:bZ K C (.type "object")=some true
 be:bZ K C (.type "BaseException")=some true
 cl:(fu K C).isSome=true
def zR (x C:ac) (h:br):Prop:=∃ o,h.get? x=some o/\o.cls=.ref C
theorem zR.type   (p:zR x C h):Mq M h (typeOf (.ref x)) (.ref C):=by
 obtain ⟨o,e,c⟩:=p;exact c ▸ (PySem.W.Looks.ld e).andThen .now
section
variable {prog:aR}{w:bh}{A:bf}{E:a9->ag->Prop}{s:ag}{K:a7}{x C:ac}{R:Result->ag->Prop}
open PySem.W Builtin Builtin.ObjectAttr Builtin.Getset_descriptor in
theorem NB (Z:K9 K C) (X:K.In s.heap) (p:zR x C s.heap) (q:R (.ok (.ret (.ref C))) s):fO (aD prog w) A (.call (.builtin "getset_descriptor.__get__") ⟨[.builtin "object.__class__",.ref x,tp],[]⟩) R s:=by
 obtain ⟨hp,gs,dr,tt,os⟩:=s;have T0:=p.type (M:=aD prog w);have T1:=looks_mroIn (M:=aD prog w) X Z.mo;refine uw KF.slot_gs.plain KF.entry_gs ?_;refine KF.slot_gs.check _ _ _ _ _ _ _ _ KF.type_class (KF.args_gs _ _ _) ?_;unfold j8.«getset_descriptor.__get__» descrGet;rw [dga_obj];refine a6 (aa ?_);unfold descrGetter descrCheckInstance descrNameAndClass D_;simp only [KF.owner_class];repeat lk
 refine ⟨IK _ (by decide +kernel),ic KF.entry_class ?_⟩;unfold j8.«object.__class__» shownTypeOf;repeat lk
 exact q
theorem HJ (Z:K9 K C) (X:K.In s.heap) (p:zR x C s.heap) (h:Q (some (.ref C)) { s with toks:=s.toks+1 }):aq (aD prog w) A (getAttr? (.ref x) "__class__") Q E s:=by
 obtain ⟨hh,g,d,t,os⟩:=s;have L0:=p.type (M:=aD prog w);have L1:=kg (M:=aD prog w) X Z.ga;have L2:=kg (M:=aD prog w) X Z.gn;have F1:=kg (M:=aD prog w) X Z.ca;have F2:=PySem.W.looks_specialIn (M:=aD prog w) X Z.gg;have F3:=PySem.W.looks_takesIn (M:=aD prog w) X Z.tk;have L4:=PySem.W.looks_mroIn (M:=aD prog w) X Z.be;unfold getAttr? getAttrBy? getAttrBy;refine a6 (wpAny_mkText (a6 (lU (eE (a6 (L0.at (a6 (L1.at ?_))))))));show aq _ _ (getAttrByItsOwn (.ref x) (.str "__class__" t) (.ref C) (.builtin "BaseException.__getattribute__") false false) _ _ _;unfold getAttrByItsOwn;show aq _ _ (DT (.ref C) "__getattr__" >>= _) _ _ _;refine a6 (L2.at (a6 (lU (eE ?_))));show aq _ _ (boundAndCalled (.builtin "BaseException.__getattribute__") (.ref x) (.str "__class__" t)) _ _ _;unfold boundAndCalled;refine a6 (uv (F.excAttr_ValueError.ga.bind (.ref x)) ?_);show aq _ _ (call (.builtin "BaseException.__getattribute__") [.ref x,.str "__class__" t]) _ _ _;refine rm (uw F.excAttr_ValueError.ga.plain F.entry_bexc_ga ?_);have hk:builtinKind "BaseException.__getattribute__"=some .slot:=by decide +kernel
 have hsp:splitId "BaseException.__getattribute__"=some ("BaseException","__getattribute__"):=by decide +kernel
 have hao:=F.args_bexc_ga (.ref x) (.str "__class__" t);simp only [checkBuiltinCall,hk,hsp];have LI:Mq (aD prog w) hh (D_ (.ref x) (.type "BaseException")) true:=L0.andThen L4;refine a6 (LI.at ?_);rw [if_neg (by decide)];refine uv (a:=()) (by unfold argsOk at hao;exact hao) ?_;unfold j8.«object.__getattribute__»;refine a6 (m:=slotArgs "__getattribute__" 1 _) (aa ?_);refine a6 (m:=Mr _) (aa ?_);refine a6 (L0.at (a6 ?_));unfold Ms;refine a6 (F1.at (a6 (F2.at (a6 ?_))));refine a6 (F3.at ?_);refine aa (a6 (iR (aa ?_)));show aq _ _ (pz [.builtin "object.__class__"] (call (.builtin "getset_descriptor.__get__") [.builtin "object.__class__",.ref x,.ref C]) >>= fun v=>ret v) _ _ _;refine a6 (eE (rm (NB (s:=⟨hh,g,d,t+1,os⟩) Z X p ?_)));exact aa (PySem.W.handed_on rfl (aa h))
theorem Ka (Z:K9 K C):PySem.W.KitX K (.ref x) (.ref C) (zR x C) where
 ty:=fun _ _ _ p=>p.type
 it:=fun M h X _=>by
  obtain ⟨cd,hc⟩:=Option.isSome_iff_exists.mp Z.cl;unfold fu at hc;split at hc
  ·rename_i c' d' cd' sl' ho
   intro A' Q' E' s' k q;unfold isType loadHead;exact a6 (wpAny_loadPart (k _ _ (X _ _ ho)) (aa q))
  ·cases hc
 ne:=fun h tp dd its n sl X htp=>by
  refine Bool.eq_false_iff.mpr fun q=>?_;obtain rfl:C=tp:=Value.ref.inj (beq_iff_eq.mp q);obtain ⟨cd,hc⟩:=Option.isSome_iff_exists.mp Z.cl;unfold fu at hc;split at hc
  ·rename_i c' d' cd' sl' ho
   have z:=(X _ _ ho).symm.trans htp;cases z
  ·cases hc
 ca:=fun X p k=>HJ Z X p k
end
section
theorem vI:ji X (.builtin "isinstance") (fun xs H Q=>∃ x c cv b,xs=[x,c]/\((∃ n,c=.ty n/\cv=.type n)\/∃ C',c=.ref C'/\cv=.ref C')/\((∃ t,uG X.K H x t/\de X.K t cv=some b) \/
  ∃ ea C,x=.ref ea/\H ea=some (xo ea C)/\K9 X.K C/\de X.K (.ref C) cv=some b)/\Q (.bl b) H):=by
 intro pins s σ H xs us Q I r h;obtain ⟨x,c,cv,b,rfl,rc,h,q⟩:=h;obtain ⟨u,v,rfl,ru,rv⟩:=Jm r;obtain rfl:v=cv:=by
  rcases rc with ⟨n,rfl,rfl⟩|⟨C',rfl,rfl⟩
  ·exact rv
  ·exact rv
 rcases h with ⟨t,ty,e⟩|⟨ea,C,rfl,hH,Z,e⟩
 ·exact nr I ru ty e fun tk=>⟨.bl b,H,I.tok tk,rfl,q⟩
 ·cases ru;have p:zR ea C s.heap:=(show dv X.prog X.w H s.heap ea (xo ea C) from I.hok ea _ hH).1;exact cb (Ka Z) I.kIn p e (fun z=>nomatch z) fun tk=>⟨.bl b,H,I.tok tk,rfl,q⟩
end
end
section
structure lu (k:Nat) (A:bf):Prop where
 dp:A.depth+3*k+5<DO
 un:A.units+16*k+200<qS
theorem fX.h  (r:fX k A):lu k A:=⟨r.dp,r.un⟩
theorem lu.mark  (r:lu k A) (v:Option a9):lu k (A.mark v):=⟨r.dp,r.un⟩
theorem lu.deeper  (r:lu (k+1) A) (env:Env):lu k (A.deeper env):=⟨by have:=r.dp;show A.depth+1+3*k+5<_;omega,by have:=r.un;show A.units+3+16*k+200<_;omega⟩
structure Cj (P:aR) (w:bh) (K:a7) (mg:Str->Option a9) (base:br) (k:Nat) (f:ac) (fd:cP) (ps:List Str) (sp:Sp):Prop where
 len:∀ vs H Q E,sp vs H Q E->vs.length=ps.length
 run:∀ (A:bf) (outer:List Env) (s:ag) (H:Hp) (args:Args) (us:List a9) (vs:List V) (Q:VK) (E:XK),lu k A->yI P w K mg base A outer s H->vq s fd args (ps.zip us)->cn vs us->sp vs H Q E ->
  fO (aD P w) A (.call (.ref f) args) (CR Vn outer P w H s Q E) s
def S5 (P:aR) (w:bh) (K:a7) (mg:Str->Option a9) (base:br) (N:List Str) (qual:Str) (scope:eY) (f:ac) (cd:a9) (A:bf) (outer:List Env) (s:ag) (H:Hp):Cx where
 prog:=P
 w:=w
 K:=K
 mg:=mg
 base:=base
 A:=A.deeper (iy qual scope s.heap.objs.size f cd)
 N:=N
 s₀:=s
 H₀:=H
 env:=iy qual scope s.heap.objs.size f cd
 outer:=outer
 stack:=iy qual scope s.heap.objs.size f cd::outer
 ex:=[]
 calm:=false
 fn:=fun _=>true
 pn:=[]
 xe:=fun _ _=>False
section
variable {P:aR}{w:bh}{K:a7}{mg:Str->Option a9}{base:br}
theorem ED
  (S:b6 N ps scope) (e0:yI P w K mg base A outer s H) (hl:vs.length=ps.length) (r:cn vs us)
  (x:InCallC s s.heap.objs.size (DQ (iy qual scope s.heap.objs.size f cd).kindOf (ps.zip us) fun _=>none) (bH (s.heap.objs.size+1) scope.names []) (DR (iy qual scope s.heap.objs.size f cd).kindOf (ps.zip us) fun _=>none) s1) :
  bv (S5 P w K mg base N qual scope f cd A outer s H) [] (start N vs) H s1:=by
 have e1:yI P w K mg base { A with handled:=none } outer s H:=⟨e0.frames,e0.mod,e0.bs,e0.bsz,e0.funs,e0.frf,e0.hok,e0.bare⟩;have I:=zI (CX:=Vn) (E:=E0) S (A:={ A with handled:=none }) rfl e1 hl r x;exact ⟨⟨I.ok.mod,I.ok.kind,I.ok.glob,I.ok.blt,I.ok.above,I.ok.inj,I.ok.has,I.ok.cab,(fun z=>iD z),I.ok.frames,I.ok.stk,I.ok.exf,I.ok.bs,I.ok.bsz,I.ok.noex,I.ok.exfs,I.ok.funs,I.ok.frf⟩,I.os,I.bare,I.base,I.loc,I.cell,I.free,I.freeC,I.pin,I.hok,I.len⟩
theorem QG {k:Nat}{f:ac}{name qual:Str}{params:Arguments}{body:List c8}{scope:eY}{dV kV doc pm cdv ct oc:a9}{an od:Option ac}
  {osl:Array (Option a9)}{N ps:List Str}{sp:Sp} (lk:K.lookup f=some ⟨oc,od,.func (dh name qual params body scope dV kV doc pm an cdv ct),osl⟩) (hcd:gX K cdv qual=true) (S:b6 N ps scope)
  (len:∀ vs H Q E,sp vs H Q E->vs.length=ps.length)
  (hbody:∀ (A:bf) (outer:List Env) (s:ag) (H:Hp) (vs:List V) (Q:VK) (E:XK),lu k (A.deeper (iy qual scope s.heap.objs.size f cdv))->sp vs H Q E ->
   ∃ t,Ax (S5 P w K mg base N qual scope f cdv A outer s H) body t/\t { nx:=fun _ H'=>Q .non H',rt:=Q } (start N vs) H) :
  Cj P w K mg base (k+1) f (dh name qual params body scope dV kV doc pm an cdv ct) ps sp:=by
 refine ⟨len,fun A outer s H args us vs Q E hr e0 hb r hsp=>?_⟩;have hl:=len _ _ _ _ hsp;have KX:K.In s.heap:=e0.mod.kin.keeps fun b o e=>(e0.bs b o e).1;have lim:s.heap.NoLimit:=e0.mod.nolimit.keeps fun b o e=>(e0.bs b o e).1;have hkind:∀ y∈ps.zip us,scope.names.lookup y.1=some .local\/(scope.names.lookup y.1=some .cell/\((bH (s.heap.objs.size+1) scope.names []).lookup y.1).isSome=true):=fun ⟨n,v⟩ hy=>by
  rcases S.par n (pM hy).1 with q|q
  ·exact .inl q
  ·exact .inr ⟨q,eG _ _ _ (.inl q)⟩
 refine Mi (by have:=hr.dp;omega) (KX _ _ lk) rfl S.co S.gen rfl (rn KX hcd) (hb _ _ _ _ ?_);refine DS S.kind hkind fun env he s1 x=>?_;subst he;refine ⟨lim.keeps x.toInCall.keep,codeAny_func ?_⟩;obtain ⟨t,ht,hq⟩:=hbody A outer s H vs Q E (hr.deeper _) hsp;have I:bv (S5 P w K mg base N qual scope f cdv A outer s H) [] (start N vs) H s1:=ED S e0 hl r x;refine cc (ht [] s1 (start N vs) H _ I hq) (fun fl s' hs=>?_) fun e s' hs=>(show False from hs).elim;have fin:∀ {σ':St}{H':Hp}{v:V}{u:a9},bv (S5 P w K mg base N qual scope f cdv A outer s H) [] σ' H' s'->cU v u->Q v H'->CE outer P w H s Q u s' :=
  fun {σ' H' v u} J rv q=>⟨v,H',J.os,J.bare,J.base,J.hok,rv,q⟩
 cases fl with
 |ret u =>
  obtain ⟨v,σ',H',J,rv,q⟩:=hs;exact fin J rv q
 |next =>
  obtain ⟨σ',H',J,q⟩:=hs;exact fin (v:=V.non) (u:=cX) J rfl q
 |brk =>
  obtain ⟨_,_,_,q⟩:=hs;exact cY q
 |cont =>
  obtain ⟨_,_,_,q⟩:=hs;exact cY q
theorem yy.okH {x qual:Str}{st:c8}{f:ac}{fd:cP}{N ps:List Str}{k:Nat}{sp:Sp} (F:yy K x qual st f fd) (S:b6 N ps (ap st)) (len:∀ vs H Q E,sp vs H Q E->vs.length=ps.length)
  (hbody:∀ (cdv:a9) (A:bf) (outer:List Env) (s:ag) (H:Hp) (vs:List V) (Q:VK) (E:XK),lu k (A.deeper (iy qual (ap st) s.heap.objs.size f cdv))->sp vs H Q E ->
   ∃ t,Ax (S5 P w K mg base N qual (ap st) f cdv A outer s H) (eJ st) t/\t { nx:=fun _ H'=>Q .non H',rt:=Q } (start N vs) H):Cj P w K mg base (k+1) f fd ps sp:=by
 obtain ⟨oc,od,kV,doc,pm,an,cdv,ct,osl,rfl,lk,hcd⟩:=F.ex;exact QG lk hcd S len fun A outer s H vs Q E hr hsp=>hbody cdv A outer s H vs Q E hr hsp
end
section
theorem Kb (F:Cj X.prog X.w X.K X.mg X.base k f fd ps sp) (hr:lu k X.A) (hg:Gl X x) (hm:X.mg x=some (.ref f)) (hk:bQ X.K (.ref f)=true) (hb:fo X.K fd ps [])
  (ha:PA X (e::es) t) (hdb:(x==("__debug__" : Str))=false:=by decide) (he:am (e::es) X.env=(false,bY e X.env)::am es X.env:=by rfl) (hpl:(da pos (am es X.env)).any (·.1)=false:=by rfl) :
  PE X (.Call (.Name x p) (e::es) [] pos) (G3 sp [] E0 t):=by
 intro pins s σ H Q I h;refine jD (sY I hg hm ?_ hdb);refine li (h₀:=X.base) I.ok.mod.kin hk (eR (ha pos pins s σ H _ I h) fun us s1 ⟨vs,H1,I1,r,q⟩=>⟨I1.kIn,?_⟩) he hpl;have q:sp (vs++[]) H1 Q E0:=q;rw [cj] at q;have hl:us.length=ps.length:=by rw [<- r.length];exact F.len _ _ _ _ q
 have hb':=hb s1 us I1.kIn (by rw [cj];exact hl);rw [cj] at hb';refine rm (ku (F.run X.A X.stack s1 H1 ⟨us,[]⟩ us vs Q E0 hr I1.env0 hb' r q) fun r s' hq=>?_);cases r with
 |error e=>exact (show False from hq).elim
 |ok fl =>
  cases fl with
  |ret u=>exact I1.after hq
  |next=>exact cY hq
  |brk=>exact cY hq
  |cont=>exact cY hq
end
end
section
section
def UL:Av->String
 |.none=>"NoneType" | .bool _=>"bool" | .int _=>"int" | .str _=>"str" | .list _=>"list" | .tuple _=>"tuple" | .dict _=>"dict"
theorem EE            (I:bv X pins σ H s) (rx:cU x u) (r:EC X.K H x d) (e:de X.K (.type (UL d)) c=some b) (h:∀ tk,Q (.bool b) { s with toks:=tk }) :
  aq (aD X.prog X.w) A (call (.builtin "isinstance") [u,c]) Q E s:=by
 cases r with
 |none=>exact nr I rx .non e h
 |bool y=>exact nr I rx (.bl y) e h
 |int i=>exact nr I rx (.int i) e h
 |str y=>exact nr I rx (.str y) e h
 |list hq _ =>
  cases rx;obtain ⟨its,rv,⟨o,n,ho,c,_,dd⟩,_⟩:=I.list hq;exact cb sU I.kIn ⟨o,ho,c⟩ e (fun z=>nomatch z) h
 |tuple hq _ =>
  cases rx;obtain ⟨its,rv,⟨o,ho,c,n,dd⟩,_⟩:=I.tuple hq;exact cb DN I.kIn ⟨o,ho,c⟩ e (fun z=>nomatch z) h
theorem Kc:ji X (.builtin "isinstance") (fun xs H Q=>∃ x d T b,xs=[x,.ty T]/\EC X.K H x d/\de X.K (.type (UL d)) (.type T)=some b/\Q (.bl b) H):=by
 intro pins s σ H xs us Q I r h;obtain ⟨x,d,T,b,rfl,rp,e,q⟩:=h;obtain ⟨u,v,rfl,ru,rv⟩:=Jm r;obtain rfl:v=.type T:=rv;exact EE I ru rp e fun tk=>⟨.bl b,H,I.tok tk,rfl,q⟩
end
end
end L2
section
namespace HT
open PySem PyProof.Rows
section
theorem Ck {t sl:ac}{items:Array a9}{vl vu:a9}{lo hi:Option Int}{Q:a9->ag->Prop} (ht:Mx s.heap t items) (hs:s.heap.IsSliceOf sl vl vu .none) (pl:um vl lo) (pu:um vu hi)
  (hw:iu items.size 0 lo=0/\iu items.size items.size hi=items.size) (h:Q (.ref t) s):aq (aD prog w) A (lT (.ref t) (.ref sl)) Q E s:=by
 obtain ⟨os,hos,hcs,hds⟩:=id hs;have hTs:s.TypeIs (.ref sl) "slice":=⟨os,hos,hcs⟩;unfold lT;try with_reducible refine eE ?_
 first|refine a6 (aa ?_)|skip
 refine a6 (yB ht.typeIs (by decide) ?_);refine a6 (cr (name:=gE "__getitem__") ht.typeIs cC
  (cu cC ht.typeIs vX ?_ (wT _ _)))
 show aq _ _ (kh (.ref t) >>= _) _ _ s;refine a6 (H9 ht ?_);refine a6 (nj hTs ?_);rw [if_pos (by decide)];refine a6 (nw hs pl pu ?_);have hyes:((((iu items.size 0 lo:Nat):Int)==0&&(1:Int)==1&&(iu items.size items.size hi-iu items.size 0 lo)==items.size)=true):=by
  rw [hw.1,hw.2];simp
 show aq _ _ (if (((iu items.size 0 lo:Nat):Int)==0&&(1:Int)==1&&(iu items.size items.size hi-iu items.size 0 lo)==items.size)=true then _ else _) _ _ s;rw [if_pos hyes];refine a6 ?_;unfold Builtin.Tuple.tupleIsExact;refine a6 (nj ht.typeIs (aa ?_));rw [if_pos (by decide)];refine a6 (iR ?_);first
  |exact aa (aa ⟨_,rfl,h⟩)
  |exact aa ⟨_,rfl,aa h⟩
  |exact a6 (aa (aa ⟨_,rfl,aa h⟩))
  |exact a6 (aa (aa ⟨_,rfl,h⟩))
end
end HT
namespace L2
open PySem PySem.Spec PyProof.Rows
section
inductive Kd (K:a7) (x:V) (lo:Option Int) (hi:Option Int) (H:Hp) (Q:VK):Prop
 |mk (a xs:_) (h0:x=.ref a) (h1:j_ K H a xs) (h2:(HT.iu xs.length 0 lo=0/\HT.iu xs.length xs.length hi=xs.length)) (h3:Q (.ref a) H):Kd K x lo hi H Q
def S6 (K:a7):V->Option Int->Option Int->Hp->VK->Prop:=Kd K
theorem NC:RQ X (S6 X.K):=by
 intro pins s σ H x v vl vu lo hi sl Q I rx hs pl pu h;obtain ⟨a,xs,rfl,hx,hw,q⟩:=h;cases rx;obtain ⟨its,r,ht,hz⟩:=I.tuple hx;have hlen:its.toArray.size=xs.length:=by rw [aC];exact r.length.symm
 exact ⟨"tuple",_,PyProof.Rows.slot_tuple_getitem.lookup,ht.typeIs,HT.Ck ht hs pl pu (by rw [hlen];exact hw) ⟨.ref a,H,I,rfl,q⟩⟩
theorem iH   (h:H p=none):df H (upd H p o):=fun b u e=>by rw [av (aE e h)];exact e
theorem rG:∀ {bs:List Bool}{us:List a9},cn (bs.map V.bl) us->us=bs.map g6
 |[],_,.nil=>rfl
 |b::r,_,.cons h t=>by cases h;rw [rG t];rfl
theorem xq {A:bf}{s:ag}{bs:List Bool}:∀ y,y∈(bs.map g6).toArray->Hb A s y (.bool true) (uB true y):=fun y hy=>by
 have hy:y∈bs.map g6:=by simpa using hy
 obtain ⟨b,_,rfl⟩:=List.mem_map.mp hy;exact zu b true
def ND (K:a7):V->List V->Hp->VK->Prop:=fun x vs H Q=>∃ l,∃ bs:List Bool,x=.ref l/\vs=[.bl true]/\nY K H l (bs.map V.bl)/\Q (.int (bs.countP id:Nat)) H
theorem HK:Uv X "list.count" (ND X.K):=by
 intro pins s σ H x vs v us Q I rx rv h;obtain ⟨l,bs,rfl,rfl,hq,q⟩:=h;cases rx;obtain ⟨u,rfl,ru⟩:=rv.one;cases ru;obtain ⟨its,r,⟨o,n,ho,c,hd,dt⟩,hz⟩:=I.list hq;rw [rG r] at dt;obtain ⟨cls,dd,data,sl⟩:=o;simp only at c dt;subst c dt;refine n_ zA ⟨_,ho,rfl⟩ PySem.F.entry_list_count (PySem.F.args_list_count_2 _ _) (SeqAt.list_countAt l (bs.map g6).toArray n dd sl (.bool true) (uB true)) ⟨ho,fun y hy=>xq y hy,?_⟩;refine ⟨.int _,H,I.tok _,⟨_,rfl⟩,?_⟩;have e:(bs.map g6).toArray.toList.countP (uB true)=bs.countP id:=by
  show (bs.map g6).countP (uB true)=_;rw [List.countP_map];congr 1;funext b;cases b<;>rfl
 rw [e];exact q
def NE (K:a7):V->List V->Hp->VK->Prop:=fun x vs H Q=>∃ l,∃ bs:List Bool,∃ j:Nat,x=.ref l/\vs=[.bl true]/\nY K H l (bs.map V.bl)/\bs[j]?=some true/\(∀ m,m<j->bs[m]?=some false)/\j<=1000/\Q (.int (j:Nat)) H
theorem HL:Uv X "list.index" (NE X.K):=by
 intro pins s σ H x vs v us Q I rx rv h;obtain ⟨l,bs,j,rfl,rfl,hq,hj,hno,hsm,q⟩:=h;cases rx;obtain ⟨u,rfl,ru⟩:=rv.one;cases ru;obtain ⟨its,r,⟨o,n,ho,c,hd,dt⟩,hz⟩:=I.list hq;rw [rG r] at dt;obtain ⟨cls,dd,data,sl⟩:=o;simp only at c dt;subst c dt;obtain ⟨hjl,hjv⟩:=List.getElem?_eq_some_iff.mp hj;refine n_ zB ⟨_,ho,rfl⟩ PySem.F.entry_list_index (PySem.F.args_list_index_2 _ _) (SeqAt.list_indexAt l (bs.map g6).toArray n dd sl (.bool true) (uB true) j (by simpa using hjl) (by omega) ?_ ?_) ⟨ho,fun y hy=>xq y hy,?_⟩
 ·simp [uB,hjv]
 ·intro m hm hlt;have:=hno m hlt;obtain ⟨_,hv⟩:=List.getElem?_eq_some_iff.mp this;simp [uB,hv]
 ·exact ⟨.int _,H,I.tok _,⟨_,rfl⟩,q⟩
theorem xr (hc:X.calm=true):ji X (.type "list") (fun xs H Q=>∃ a kvs,xs=[.ref a]/\H a=some (.dK kvs)/\∀ l,H l=none->Q (.ref l) (upd H l (.lst (kvs.map fun p=>kV p.1)))):=by
 intro pins s σ H xs us Q I r h;obtain ⟨a,kvs,rfl,hH,q⟩:=h;obtain ⟨u,rfl,rx⟩:=lm r;cases rx;obtain ⟨hz,hs,vs,rk,hd⟩:=(show dv X.prog X.w H s.heap a (.dK kvs) from I.hok a _ hH);obtain ⟨ep,hat⟩:∃ ep,s.heap.DictAt (fV X.prog X.w) a vs ep:=by
  obtain ⟨o,es,ep,h1,h2,h3,h4⟩:=hd;exact ⟨ep,o,es,h1,h2,h3,h4⟩
 have hlen:kvs.length=vs.length:=n5 rk;refine PySem.W.kdl_call (PySem.W.kdl_dict hs) (I.ok.hd hc) hat (by omega) fun h' tk acc' c' kp e hacc=>?_;have rv:cn (kvs.map fun p=>kV p.1) acc'.toList:=by
  have key:∀ {kvs:List (fU×V)}{vs:List (fU×a9)} (acc:List a9),KV kvs vs->acc.length=vs.length->(∀ (j:Nat) (v:a9),acc[j]?=some v->∃ k x,vs[j]?=some (k,x)/\wX k v=true)->cn (kvs.map fun p=>kV p.1) acc:=by
   intro kvs;induction kvs with
   |nil=>intro vs acc rk hl _;cases rk;cases acc with
    |nil=>exact .nil
    |cons _ _=>simp at hl
   |cons p kvs ih =>
    intro vs acc rk hl hv;cases rk with
    |cons h1 t1 =>
     cases acc with
     |nil=>simp at hl
     |cons v acc =>
      refine .cons ?_ (ih acc t1 (by simpa using hl) fun j v hj=>by simpa using hv (j+1) v (by simpa using hj));obtain ⟨k,x,e1,e2⟩:=hv 0 v rfl;simp only [BU,BL] at e1;subst e1;have hk:p.1=k:=h1.1;rcases eL e2 with ⟨i,t,e,rfl⟩|⟨i,t,e,rfl⟩
      ·show cU (kV p.1) _;rw [hk,e];exact ⟨t,rfl⟩
      ·show cU (kV p.1) _;rw [hk,e];exact ⟨t,rfl⟩
  exact key acc'.toList rk (by rw [aZ];exact hacc.1) fun j v hj=>hacc.2 j v (by rw [<- f9];exact hj)
 exact ⟨.ref s.heap.objs.size,_,I.laid (t':=tk) kp (az _) (show dv X.prog X.w _ h' _ (.lst _) from ⟨by simpa using hz,acc'.toList,c',rv,by rw [E4];exact e⟩),rfl,q _ (I.hok.fresh (az _))⟩
def xt (x:Str):List V:=x.cps.toList.map fun c=>V.str ⟨#[c]⟩
theorem wc (hc:X.calm=true):ji X (.type "tuple") (fun xs H Q=>∃ x,xs=[.str x]/\x.cps.size<=sizeLine/\∀ l,H l=none->Q (.ref l) (upd H l (.tup (xt x)))):=by
 intro pins s σ H xs us Q I r h;obtain ⟨x,rfl,hz,q⟩:=h;obtain ⟨u,rfl,rx⟩:=lm r;obtain ⟨t,rfl⟩:=rx;refine call_tuple_str (I.ok.hd hc) x t (fun h' tk acc kp hacc=>?_) hz;have I1:bv X pins σ H { s with heap:=h',toks:=tk }:=I.kept (t':=tk) kp;have rv:cn (xt x) acc.toList:=by
  have key:∀ (cs:List Nat) (acc:List a9),acc.length=cs.length->(∀ (j:Nat) (v:a9),acc[j]?=some v->∃ c u,cs[j]?=some c/\v=.str ⟨#[c]⟩ u)->cn (cs.map fun c=>V.str ⟨#[c]⟩) acc:=by
   intro cs;induction cs with
   |nil=>intro acc hl _;cases acc with
    |nil=>exact .nil
    |cons _ _=>simp at hl
   |cons c cs ih =>
    intro acc hl hv;cases acc with
    |nil=>simp at hl
    |cons v acc =>
     obtain ⟨c',u,e1,rfl⟩:=hv 0 v rfl;simp only [BU,BL] at e1;subst e1;exact .cons ⟨u,rfl⟩ (ih acc (by simpa using hl) fun j v hj=>by simpa using hv (j+1) v (by simpa using hj))
  refine key x.cps.toList acc.toList (by rw [aZ,aZ];exact hacc.1) fun j v hj=>?_;obtain ⟨c,u,e1,e2⟩:=hacc.2 j v (by rw [<- f9];exact hj);exact ⟨c,u,by rw [f9];exact e1,e2⟩
 have I2:bv X pins σ (upd H h'.objs.size (.tup (xt x))) { s with heap:=h'.push { cls:=.type "tuple",data:=.seq acc },toks:=tk } :=
  I1.laid (t':=tk) (fun b o e=>ae _ e) (az _) (show dv X.prog X.w _ _ _ (.tup (xt x)) from ⟨by unfold xt;simpa using hz,acc.toList,rv,by rw [E4];exact vY _ _⟩)
 exact ⟨.ref h'.objs.size,_,I2,rfl,q _ (I1.hok.fresh (az _))⟩
end
end L2
end
namespace L2
open PySem PySem.Spec PyProof.Rows
section
section
theorem pq {elt target iter ifs bM scope pos it acc env}
  (h0:fO (aD prog w) A (.compLoop (.SetComp elt (⟨target,iter,ifs,0⟩::bM) scope pos) 0 it acc env) R s)
  (h:aq (aD prog w) A (wQ it) (fun it' s'=>fO (aD prog w) A (.compLoop (.SetComp elt (⟨target,iter,ifs,0⟩::bM) scope pos) 0 it' acc env) R s')
   (notedBy (aD prog w) A env fun x s'=>R (.error x) s') s) :
  fO (aD prog w) A (.compStart (.SetComp elt (⟨target,iter,ifs,0⟩::bM) scope pos) 0 it acc env) R s:=by
 refine BR ?_;show aq _ _ ((compStart (.SetComp elt (⟨target,iter,ifs,0⟩::bM) scope pos) 0 it acc env).onRaise (fun x=>do II x env;ko theWindowsPlace)) _ _ s;refine wpAny_notedAt ?_;unfold compStart;show aq _ _ (ask >>= _) _ _ s;refine a6 (j9 (wpAny_ite ?_));split
 ·first
   |exact a6 (aa (aa (wW rfl h0)))
   |exact aa (wW rfl h0)
 ·first
   |exact a6 (iR (a6 (pQ (a6 (cc h (fun it' s' hq=>aa (wW rfl hq)) fun _ _ x=>x)))))
   |(refine a6 (iR ?_);show aq _ _ (ko iter.pos >>= _) _ _ s;exact a6 (pQ (a6 (cc h (fun it' s' hq=>aa (wW rfl hq)) fun _ _ x=>x))))
theorem yN (h:Q (.ref s.heap.objs.size) { s with heap:=s.heap.push (k7 w) }):aq (aD prog w) A (newSet (.type "set")) Q E s:=by
 unfold newSet setsByText;refine a6 (a6 (j9 (aa ?_)));dsimp only;simp only [newObj];exact a6 (MB (aa h))
theorem yO     (hS:ny w s.heap a ss) (hr:ss.length+1<gF)
  (h:∀ h' tk',bW a s.heap h'->ny w h' a (if x∈ss then ss else ss++[x])->Q .none { s with heap:=h',toks:=tk' }) :
  aq (aD prog w) A (call (.builtin "set.add") [.ref a,.str x tk]) Q E s:=by
 have hT:s.TypeIs (.ref a) "set":=by obtain ⟨es,ep,t,I,_⟩:=id hS;exact ⟨_,I.at_,rfl⟩
 refine cu F.slot_set_add hT F.entry_set_add ?_ (F.args_set_add_2 _ _);unfold j8.«set.add» MM;simp only [List.isEmpty_nil,bind_assoc];unfold MN;refine a6 (aa ?_);try dsimp only
 refine a6 (aa ?_);try dsimp only
 refine a6 ?_;refine Cb hS hr fun h' tk' sb hS'=>?_;exact aa ⟨_,rfl,h h' tk' sb hS'⟩
end
def UM (w:bh) (D:ac) (o:Obj) (acc:List Str):Prop:=∀ h:br,h.get? D=some o->ny w h D acc
def QH (X:Cx) (elt:bc) (env:Env) (D:ac) (K:ag->Prop) (s:ag):Prop:=aq (aD X.prog X.w) X.A (bY elt env) (fun x s₄=>aq (aD X.prog X.w) X.A (call (.builtin "set.add") [.ref D,x]) (fun _ s₅=>K s₅) (fun _ _=>False) s₄) (fun _ _=>False) s
abbrev S7 (te:TE) (σ:St) (H:Hp) (acc:List Str) (m:Nat) (V:Nat->List Str->Hp->Prop):Prop:=te σ H fun y H4=>∃ z m',y=.str z/\m'<m/\V m' (if z∈acc then acc else acc++[z]) H4
theorem Ke {X:Cx}{elt:bc}{te:TE}{N':List Str}{scope:eY}{M:St->Prop} (pe:∀ cl C s₀ H₀ ex pn,PE (dz X N' scope cl C s₀ H₀ ex pn) elt te) :
  JJ X N' scope M (fun D o acc=>(∀ v,o.data≠.cell v)/\UM X.w D o acc) (fun acc=>acc.length+1<gF) (S7 te) (QH X elt):=by
 intro cl C s₀ H₀ ex pn D pl o acc σ6 H7 s7 K m V h1 h2 h3 _ hl hP I7 q7 fin
 refine eR (pe cl C s₀ H₀ ex pn _ s7 σ6 H7 _ I7 q7) fun u8 s8 h_5=>?_
 obtain ⟨y,H8,I8,r8,z,m',hy,hm,q8⟩:=h_5
 obtain ⟨pD,pN,_⟩:=I8.pin (D,_) (aQ _ ao)
 subst hy
 obtain ⟨tz,rfl⟩:=r8
 refine yO (hP.2 _ pD) hl fun h9 tk9 sb9 hS9=>?_
 obtain ⟨es9,ep9,t9,is9,pm9⟩:=id hS9
 have e9':=is9.at_
 exact fin _ _ H8 _ m' ((I8.swap sb9 e9' (fun _ z=>nomatch z) h1 h2 h3).tok _) ⟨fun _ z=>(nomatch z),fun h e=>hS9.keep fun o eo=>by rw [e9'] at eo;cases eo;exact e⟩ hm q8
theorem Kf {X:Cx}{elt:bc}{f:Sem Fin}{a:Code} (hf:f=pure (.again a)) (env:Env) (D:ac) (K:ag->Prop) (s:ag) (h:QH X elt env D K s):aq (aD X.prog X.w) X.A ((do let v <- bY elt env;ko elt.pos;let _ <- call (.builtin "set.add") [.ref D,v]) >>= fun _=>f) (fun f s5=>f=.again a/\K s5) (fun _ _=>False) s:=by
 subst hf;exact a6 (a6 (eR h fun x s4 h4=>a6 (pQ (a6 (eR h4 fun _ _ q=>aa (aa ⟨rfl,q⟩))))))
theorem NF {X:Cx}{elt tg iter:bc}{ifs:List bc}{scope:eY}{pos:Pos}{te:TE}{N':List Str}{nt:Nat}{ix:List Nat} (pe:∀ cl C s₀ H₀ ex pn,PE (dz X N' scope cl C s₀ H₀ ex pn) elt te) :
  Nw X N' scope nt nt ix (.SetComp elt [⟨tg,iter,ifs,0⟩] scope pos) tg ifs (newSet (.type "set")) (w6 X.w) [] (fun acc=>acc.length+1<gF) (S7 te) :=
 ⟨_,_,fun _=>QH X elt,fun _=>True,fun h=>h.1,rfl,fun _=>⟨fun _ z=>(nomatch z),fun _ e=>zN X.w e⟩,fun _ h e=>Ge (h.2 _ e),yN,fun _=>P0 (iter:=iter) (fun _ _=>rfl) fun a b c d h=>Kf rfl a b c d h,pq,⟨az _,fun _ _ _=>trivial⟩,fun _=>Ke pe⟩
inductive P4 (w:bh) (nt:Nat) (ix:List Nat) (g:TG) (tt:TT) (te:TE) (σ:St) (Q:VK) (J:It) (H1:Hp):Prop
 |mk (W:Nat->Nat->List Str->Hp->Prop) (w0:∃ m,W 0 m [] H1) (turn:∀ i m acc H,W i m acc H ->
 (J.stop i H/\∀ p,H p=none->Q (.ref p) (upd H p (w6 w p acc))) \/
 (J.go i H/\acc.length+1<gF/\∀ x H',J.yld i H x H'->g x (lr nt ix σ) H' fun σ2 H2=>tt σ2 H2 fun b H3 =>
  if b=true then te σ2 H3 fun y H4=>∃ z m',y=.str z/\m'<m/\W (i+1) m' (if z∈acc then acc else acc++[z]) H4 else ∃ m',m'<m/\W (i+1) m' acc H3)):P4 w nt ix g tt te σ Q J H1
def Kg (w:bh) (nt:Nat) (ix:List Nat) (wi:TI) (g:TG) (tt:TT) (te:TE):TE:=fun σ H Q=>wi σ H (P4 w nt ix g tt te σ Q)
theorem EF {X:Cx}{elt tg iter:bc}{ifs:List bc}{scope:eY}{pos:Pos}{wi:TI}{g:TG}{tt:TT}{te:TE}{N':List Str}{nt:Nat}{ix:List Nat}
  (hc:X.calm=true) (S:o7 X scope N' nt ix) (lo:Qw nt g) (hi:PI X tg iter wi)
  (hb:∀ cl C s₀ H₀ ex pn,PG (dz X N' scope cl C s₀ H₀ ex pn) tg g/\Nq (dz X N' scope cl C s₀ H₀ ex pn) ifs tt/\PE (dz X N' scope cl C s₀ H₀ ex pn) elt te)
  (hs:∀ x,eP iter X.env x=pure x:=by intro _;rfl):PE X (.SetComp elt [⟨tg,iter,ifs,0⟩] scope pos) (Kg X.w nt ix wi g tt te):=by
 intro pins s σ H Q I h;obtain ⟨cl,hcl,c1,c2⟩:=rE (scope:=scope) (env:=X.env) fun y hy hf=>I.ok.has y.1 (S.free y hy hf);show aq _ _ (comprehension (.SetComp elt [⟨tg,iter,ifs,0⟩] scope pos) scope X.env (firstIterPos [⟨tg,iter,ifs,0⟩] pos) (newSet (.type "set")) (firstAsync [⟨tg,iter,ifs,0⟩]) (firstIter [⟨tg,iter,ifs,0⟩] X.env)) _ _ _;refine pR (use:=none) rfl hs hcl S.kind S.loc (eR (hi pins s σ H _ I h) fun v s1 h1=>eR h1 fun itv s2 h2=>?_);obtain ⟨it,fp,tn,J,H2,e,I2,T,st2,f2,W,w0,turn⟩:=h2;subst e;refine Ev (RR:=fun acc C=>compPost (aD X.prog X.w) X.A X.xe none (EP X pins σ Q) acc C) (NF fun a b c d e f=>(hb a b c d e f).2.2) hc S lo (fun a b c d e f=>⟨(hb a b c d e f).1,(hb a b c d e f).2.1⟩) c1 c2 I2 T st2 f2 w0 turn ?_;intro D C m s' acc H' hD _ q hn hI;exact ⟨m,hn,fun h' sb=>⟨.ref D,_,hI h' sb,rfl,q⟩⟩
section
theorem yP:ji X (.builtin "len") (fun xs H Q=>∃ p ss,xs=[.ref p]/\H p=some (w6 X.w p ss)/\Q (.int ss.length) H):=by
 intro pins s σ H xs us Q I r h;obtain ⟨p,ss,rfl,hq,q⟩:=h;obtain ⟨u,rfl,rx⟩:=lm r;cases rx;obtain ⟨es,ep,t,is,pm⟩:=(show dv X.prog X.w H s.heap p (w6 X.w p ss) from I.hok p _ hq).1;have hlen:es.size=ss.length:=by rw [<- pm.length_eq,aO,aZ]
 have hsm:(es.size:Int)<2 ^ 63:=by
  have h1:=is.few;have h2:gF<=2 ^ 62:=by decide
  omega
 refine zz kind_len plain_len entry_len (args_len1 _) (wpAny_len_body_set is.at_ ⟨rfl,rfl,rfl⟩ rfl is.fits hsm ?_);refine ⟨.int _,H,I.tok _,⟨_,rfl⟩,?_⟩;rw [hlen];exact q
end
end
end L2
section
namespace L2
open PySem PySem.Spec PyProof.Rows
section
variable {K:a7}{nt:Nat}{ix:List Nat}{te:TE}{σ:St}{H1:Hp}{Q:VK}{a:ac}{xs:List V}{i:Nat}
end
end L2
namespace L2
open PySem PySem.Spec PyProof.Rows
def Gg (so:eY) (N:List Str) (scope:eY) (N':List Str) (nt:Nat) (ix:List Nat):Bool :=
 (scope.kind == .function)&&(scope.names.all fun y=>y.2 != .cell||scope.names.lookup y.1==some .cell)&&(scope.names.all fun y=>y.2 != .local||scope.names.lookup y.1==some .local) &&
 (scope.names.all fun y=>y.2 != .free||so.names.lookup y.1==some .cell||so.names.lookup y.1==some .free) &&
 ((bN ix.length).all fun k=>match ix[k]? with
  |none=>false
  |some i=>match N[i]? with
   |none=>false
   |some x=>N'[nt+k]? == some x&&scope.names.lookup x==some .free)&&(N'.length==nt+ix.length)
theorem dw       (h:Gg so N scope N' nt ix=true) (h1:X.env.scope=so:=by rfl) (h2:X.N=N:=by rfl):o7 X scope N' nt ix:=by
 unfold Gg at h;simp only [aJ,dA] at h;obtain ⟨⟨⟨⟨⟨a,b⟩,c⟩,d⟩,e⟩,l⟩:=h;refine ⟨by simpa using a,fun y hy z=>?_,fun y hy z=>?_,fun y hy z=>?_,fun k i hk=>?_,by simpa using l⟩
 ·have:=b y hy;simpa [z] using this
 ·have:=c y hy;simpa [z] using this
 ·have:=d y hy;rw [h1];simpa [z] using this
 ·have hl:k<ix.length:=(List.getElem?_eq_some_iff.mp hk).1;have:=e k (List.mem_range.mpr hl);rw [hk] at this;rw [h2];simp only at this;split at this
  ·cases this
  ·rename_i x hx
   simp only [aJ] at this;exact ⟨x,hx,by simpa using this.1,by simpa using this.2⟩
end L2
end
namespace L2
open PySem PySem.Spec PyProof.Rows
section
section
variable {K:a7}{nt:Nat}{ix:List Nat}{te:TE}{σ:St}{H1:Hp}{Q:VK}{a b:ac}{xs ys:List V}{i k:Nat}
end
end
end L2
namespace J
open PySem L2
section
abbrev D:=Av
inductive R (α:Type) where
 |ok (a:α)
 |ex (c:Str) (n:Option D)
 |no
def R.bind {α β:Type}:R α->(α->R β)->R β
 |.ok a,f=>f a
 |.ex c n,_=>.ex c n
 |.no,_=>.no
@[simp] theorem bind_ok {α β:Type} (a:α) (f:α->R β):(R.ok a).bind f=f a:=rfl
@[simp] theorem bind_ex {α β:Type} (c:Str) (n:Option D) (f:α->R β):(R.ex c n).bind f=.ex c n:=rfl
@[simp] theorem bind_no {α β:Type} (f:α->R β):(R.no:R α).bind f=.no:=rfl
def kD:fU->D
 |.inl i=>.int i
 |.inr x=>.str x
def tD (ks:List fU):D:=.tuple (ks.map kD)
def BO:List Str:=["book","states","names","undone"]
def TZ (ds:List D):List (D×D):=(.bool true,.none)::ds.map fun d=>(.bool true,d)
def T_:List (D×D)->Bool
 |(.bool true,_)::_=>true
 |_=>false
mutual
inductive RD (K:a7) (H:Hp):V->D->Prop
 |none:RD K H .non .none
 |bool (b:Bool):RD K H (.bl b) (.bool b)
 |int (i:Int):RD K H (.int i) (.int i)
 |str (x:Str):RD K H (.str x) (.str x)
 |list {a:ac}{xs:List V}{ds:List D}:nY K H a xs->RDs K H xs ds->RD K H (.ref a) (.list ds)
 |tuple {a:ac}{xs:List V}{ds:List D}:H a=some (.tup xs)->RDs K H xs ds->RD K H (.ref a) (.tuple ds)
 |dictK {a:ac}{kvs:List (fU×V)}{ds:List (D×D)}:H a=some (.dK kvs)->RDk K H kvs ds->RD K H (.ref a) (.dict ds)
 |dictT {a:ac}{kvs:List (List fU×V)}{ds:List (D×D)}:H a=some (.dT kvs)->kvs≠[]->RDt K H kvs ds->RD K H (.ref a) (.dict ds)
 |dictF {a:ac}{o:Obj}{kvs:List (List fU×V)}{ds:List (D×D)}:H a=some (.frz o (.dT kvs))->kvs≠[]->RDt K H kvs ds->RD K H (.ref a) (.dict ((.none,.none)::ds))
 |desk {x C dx:ac}{vs:List V}{ds:List D}:dE K ba "Desk"=some (some (.ref C))->H x=some (.ins C dx (BO.zip vs))->vs.length=4->RDs K H vs ds->RD K H (.ref x) (.dict (TZ ds))
inductive RDs (K:a7) (H:Hp):List V->List D->Prop
 |nil:RDs K H [] []
 |cons {x:V}{xs:List V}{d:D}{ds:List D}:RD K H x d->RDs K H xs ds->RDs K H (x::xs) (d::ds)
inductive RDk (K:a7) (H:Hp):List (fU×V)->List (D×D)->Prop
 |nil:RDk K H [] []
 |cons {k:fU}{x:V}{xs:List (fU×V)}{d:D}{ds:List (D×D)}:RD K H x d->RDk K H xs ds->RDk K H ((k,x)::xs) ((kD k,d)::ds)
inductive RDt (K:a7) (H:Hp):List (List fU×V)->List (D×D)->Prop
 |nil:RDt K H [] []
 |cons {k:List fU}{x:V}{xs:List (List fU×V)}{d:D}{ds:List (D×D)}:RD K H x d->RDt K H xs ds->RDt K H ((k,x)::xs) ((tD k,d)::ds)
end
section
theorem RD.same (e:df H H')  (h:RD K H v d):RD K H' v d:=RD.rec (motive_1:=fun v d _=>RD K H' v d) (motive_2:=fun v d _=>RDs K H' v d) (motive_3:=fun v d _=>RDk K H' v d) (motive_4:=fun v d _=>RDt K H' v d) .none .bool .int .str (fun h _ r=>.list (e.seq h) r) (fun h _ r=>.tuple (e _ _ h) r) (fun h _ r=>.dictK (e _ _ h) r) (fun h n _ r=>.dictT (e _ _ h) n r) (fun h n _ r=>.dictF (e _ _ h) n r) (fun hc h n _ r=>.desk hc (e _ _ h) n r) .nil (fun _ _ a b=>.cons a b) .nil (fun _ _ a b=>.cons a b) .nil (fun _ _ a b=>.cons a b) h
theorem RDs.same (e:df H H')  (h:RDs K H v d):RDs K H' v d:=RDs.rec (motive_1:=fun v d _=>RD K H' v d) (motive_2:=fun v d _=>RDs K H' v d) (motive_3:=fun v d _=>RDk K H' v d) (motive_4:=fun v d _=>RDt K H' v d) .none .bool .int .str (fun h _ r=>.list (e.seq h) r) (fun h _ r=>.tuple (e _ _ h) r) (fun h _ r=>.dictK (e _ _ h) r) (fun h n _ r=>.dictT (e _ _ h) n r) (fun h n _ r=>.dictF (e _ _ h) n r) (fun hc h n _ r=>.desk hc (e _ _ h) n r) .nil (fun _ _ a b=>.cons a b) .nil (fun _ _ a b=>.cons a b) .nil (fun _ _ a b=>.cons a b) h
theorem RDk.same (e:df H H')  (h:RDk K H v d):RDk K H' v d:=RDk.rec (motive_1:=fun v d _=>RD K H' v d) (motive_2:=fun v d _=>RDs K H' v d) (motive_3:=fun v d _=>RDk K H' v d) (motive_4:=fun v d _=>RDt K H' v d) .none .bool .int .str (fun h _ r=>.list (e.seq h) r) (fun h _ r=>.tuple (e _ _ h) r) (fun h _ r=>.dictK (e _ _ h) r) (fun h n _ r=>.dictT (e _ _ h) n r) (fun h n _ r=>.dictF (e _ _ h) n r) (fun hc h n _ r=>.desk hc (e _ _ h) n r) .nil (fun _ _ a b=>.cons a b) .nil (fun _ _ a b=>.cons a b) .nil (fun _ _ a b=>.cons a b) h
theorem RDt.same (e:df H H')  (h:RDt K H v d):RDt K H' v d:=RDt.rec (motive_1:=fun v d _=>RD K H' v d) (motive_2:=fun v d _=>RDs K H' v d) (motive_3:=fun v d _=>RDk K H' v d) (motive_4:=fun v d _=>RDt K H' v d) .none .bool .int .str (fun h _ r=>.list (e.seq h) r) (fun h _ r=>.tuple (e _ _ h) r) (fun h _ r=>.dictK (e _ _ h) r) (fun h n _ r=>.dictT (e _ _ h) n r) (fun h n _ r=>.dictF (e _ _ h) n r) (fun hc h n _ r=>.desk hc (e _ _ h) n r) .nil (fun _ _ a b=>.cons a b) .nil (fun _ _ a b=>.cons a b) .nil (fun _ _ a b=>.cons a b) h
mutual
def mR:D->Bool
 |.dict _=>false
 |.list xs=>noDs xs
 |.tuple xs=>noDs xs
 |_=>true
def noDs:List D->Bool
 |[]=>true
 |x::r=>mR x&&noDs r
end
theorem S8 (h:(a&&b)=true):a=true:=(Bool.and_eq_true_iff.mp h).1
theorem S9 (h:(a&&b)=true):b=true:=(Bool.and_eq_true_iff.mp h).2
theorem RD.rep  (h:RD K H v d):mR d=true->EC K H v d:=RD.rec (motive_1:=fun v d _=>mR d=true->EC K H v d) (motive_2:=fun v d _=>noDs d=true->Reps K H v d) (motive_3:=fun _ _ _=>True) (motive_4:=fun _ _ _=>True) (fun _=>.none) (fun b _=>.bool b) (fun i _=>.int i) (fun x _=>.str x) (fun h _ r e=>.list h (r e)) (fun h _ r e=>.tuple (.of h) (r e)) (fun _ _ _ e=>iD e) (fun _ _ _ _ e=>iD e) (fun _ _ _ _ e=>iD e) (fun _ _ _ _ _ e=>iD e) (fun _=>.nil) (fun _ _ a b e=>.cons (a (S8 e)) (b (S9 e))) trivial (fun _ _ _ _=>trivial) trivial (fun _ _ _ _=>trivial) h
theorem RDs.length:∀ {ds:List D},RDs K H vs ds->vs.length=ds.length:=by
 induction vs with
 |nil=>intro ds h;cases h;rfl
 |cons x r ih=>intro ds h;cases h with|cons a b=>exact congrArg (· + 1) (ih b)
theorem RDs.get:∀ {ds:List D}{i:Nat}{v:V},RDs K H vs ds->vs[i]?=some v->∃ d,ds[i]?=some d/\RD K H v d:=by
 induction vs with
 |nil=>intro ds i v _ e;cases e
 |cons x r ih =>
  intro ds i v h e;cases h with
  |cons a b =>
   cases i with
   |zero=>cases e;exact ⟨_,rfl,a⟩
   |succ i=>have q:=ih (i:=i) b e;exact q
theorem RDs.get':∀ {ds:List D}{i:Nat}{d:D},RDs K H vs ds->ds[i]?=some d->∃ v,vs[i]?=some v/\RD K H v d:=by
 induction vs with
 |nil=>intro ds i v h e;cases h;cases e
 |cons x r ih =>
  intro ds i v h e;cases h with
  |cons a b =>
   cases i with
   |zero=>cases e;exact ⟨_,rfl,a⟩
   |succ i=>have q:=ih (i:=i) b e;exact q
theorem RDs.append  : ∀ {ds:List D},RDs K H vs ds->RDs K H ws es->RDs K H (vs++ws) (ds++es):=by
 induction vs with
 |nil=>intro ds h s;cases h;exact s
 |cons x r ih=>intro ds h s;cases h with|cons a b=>exact .cons a (ih b s)
theorem RDs.drop:∀ {ds:List D} (n:Nat),RDs K H vs ds->RDs K H (vs.drop n) (ds.drop n):=by
 induction vs with
 |nil=>intro ds n h;cases h;cases n<;>exact .nil
 |cons x r ih =>
  intro ds n h;cases n with
  |zero=>exact h
  |succ n=>cases h with|cons a b=>exact ih n b
theorem RDs.take:∀ {ds:List D} (n:Nat),RDs K H vs ds->RDs K H (vs.take n) (ds.take n):=by
 induction vs with
 |nil=>intro ds n h;cases h;cases n<;>exact .nil
 |cons x r ih =>
  intro ds n h;cases n with
  |zero=>exact .nil
  |succ n=>cases h with|cons a b=>exact .cons a (ih n b)
theorem RDs.reverse  (h:RDs K H vs ds):RDs K H vs.reverse ds.reverse:=by
 induction vs generalizing ds with
 |nil=>cases h;exact .nil
 |cons x r ih=>cases h with|cons a b=>rw [nl,nl];exact (ih b).append (.cons a .nil)
theorem xu:∀ (ss:List Str),RDs K H (ss.map V.str) (ss.map aX)
 |[]=>.nil
 |x::r=>.cons (.str x) (xu r)
theorem RD.str_inv  (h:RD K H v (.str x)):v=.str x:=by cases h;rfl
theorem RD.bool_inv  (h:RD K H v (.bool x)):v=.bl x:=by cases h;rfl
theorem RD.int_inv  (h:RD K H v (.int x)):v=.int x:=by cases h;rfl
theorem AT {α:Type}{c:α->D}{k:α->V} (hc:∀ {v x},RD K H v (c x)->v=k x) {ss:List α}:∀ {vs:List V},RDs K H vs (ss.map c)->vs=ss.map k:=by
 induction ss with
 |nil=>intro vs h;cases h;rfl
 |cons x r ih=>intro vs h;cases h with|cons a b=>rw [hc a,ih b];rfl
theorem oh {ss:List Str}{vs:List V}:RDs K H vs (ss.map aX)->vs=ss.map V.str:=AT RD.str_inv
theorem yQ {ss:List Bool}{vs:List V}:RDs K H vs (ss.map cO)->vs=ss.map V.bl:=AT RD.bool_inv
theorem AU {ss:List Int}{vs:List V}:RDs K H vs (ss.map dZ)->vs=ss.map V.int:=AT RD.int_inv
end
def nt:HO->Bool
 |.tup _=>false
 |_=>true
structure cz (H Hs H' Hs':Hp):Prop where
 all:df H H'
 sh:df Hs Hs'
 sub:df Hs' H'
 out:∀ a o,H a=some o->nt o=true->Hs a=none->Hs' a=none
theorem cz.refl (h:df Hs H):cz H Hs H Hs:=⟨.refl _,.refl _,h,fun _ _ _ _ e=>e⟩
theorem cz.trans (a:cz H Hs H1 Hs1) (b:cz H1 Hs1 H2 Hs2):cz H Hs H2 Hs2 :=
 ⟨a.all.trans b.all,a.sh.trans b.sh,b.sub,fun c o e t n=>b.out c o (a.all c o e) t (a.out c o e t n)⟩
theorem cz.new   (h:df Hs H) (n:H p=none):cz H Hs (upd H p o) (upd Hs p o):=by
 have n':Hs p=none:=h.free n;refine ⟨iH n,iH n',fun b u e=>?_,fun a u e t z=>?_⟩
 ·by_cases hb:b=p
  ·subst hb;rw [aB] at e ⊢;exact e
  ·rw [av hb] at e ⊢;exact h b u e
 ·rw [av (aE e n)];exact z
theorem cz.mine   (h:df Hs H) (n:H p=none):cz H Hs (upd H p o) Hs:=by
 refine ⟨iH n,.refl _,fun b u e=>?_,fun a u e t z=>z⟩;have e':=h b u e;rw [av (aE e' n)];exact e'
inductive oj (K:a7) (Hs:Hp):HO->D->Prop
 |lst {vs:List V}{ds:List D}:RDs K Hs vs ds->oj K Hs (.lst vs) (.list ds)
 |dK {kvs:List (fU×V)}{ds:List (D×D)}:RDk K Hs kvs ds->oj K Hs (.dK kvs) (.dict ds)
 |dT {kvs:List (List fU×V)}{ds:List (D×D)}:kvs≠[]->RDt K Hs kvs ds->oj K Hs (.dT kvs) (.dict ds)
 |dF {o:Obj}{kvs:List (List fU×V)}{ds:List (D×D)}:kvs≠[]->RDt K Hs kvs ds->oj K Hs (.frz o (.dT kvs)) (.dict ((.none,.none)::ds))
theorem oj.same    (e:df Hs Hs') (h:oj K Hs o d):oj K Hs' o d:=by
 cases h with
 |lst r=>exact .lst (r.same e)
 |dK r=>exact .dK (r.same e)
 |dT n r=>exact .dT n (r.same e)
 |dF n r=>exact .dF n (r.same e)
theorem oj.nt    (h:oj K Hs o d):J.nt o=true:=by cases h<;>rfl
theorem oj.share     (n:Hs a=none) (h:oj K Hs o d):RD K (upd Hs a o) (.ref a) d:=by
 have e:df Hs (upd Hs a o):=iH n;cases h with
 |lst r=>exact .list (.of aB) (r.same e)
 |dK r=>exact .dictK aB (r.same e)
 |dT n r=>exact .dictT aB n (r.same e)
 |dF n r=>exact .dictF aB n (r.same e)
inductive Sl where
 |no
 |shr (d:D)
 |own (d:D)
 |lck (d:D)
 |ow2 (dss:List (List D))
abbrev ay:=List Sl
inductive zS (K:a7) (H Hs:Hp):List ac->List (List D)->Prop
 |nil:zS K H Hs [] []
 |cons {a:ac}{as:List ac}{vs:List V}{ds:List D}{dss:List (List D)}:H a=some (.lst vs)->RDs K Hs vs ds->zS K H Hs as dss->zS K H Hs (a::as) (ds::dss)
theorem zS.step  (e:df H H') (e':df Hs Hs')  (h:zS K H Hs as dss):zS K H' Hs' as dss:=by
 induction h with
 |nil=>exact .nil
 |cons h r t ih=>exact .cons (e _ _ h) (r.same e') ih
theorem zS.upd      (n:b∉as) (h:zS K H Hs as dss):zS K (upd H b o) Hs as dss:=by
 induction h with
 |nil=>exact .nil
 |cons h r t ih=>exact .cons (by rw [av (fun z=>n (by rw [<- z];exact ao))];exact h) r (ih fun z=>n (ar _ z))
theorem zS.there     (h:zS K H Hs as dss) (hb:b∈as):∃ o,H b=some o/\nt o=true:=by
 induction h with
 |nil=>cases hb
 |cons h r t ih =>
  rcases List.mem_cons.mp hb with e|hb
  ·exact ⟨_,e ▸ h,rfl⟩
  ·exact ih hb
structure O2 (K:a7) (H0 H Hs:Hp) (ρ:ay) (σ:St) (i:Nat) (dss:List (List D)) (a:ac) (as:List ac):Prop where
 at_:σ[i]?=some (some (V.ref a))
 ob:H a=some (.lst (as.map V.ref))
 nd:(a::as).Nodup
 out:∀ b∈a::as,Hs b=none/\H0 b=none
 dj:∀ b∈a::as,∀ (j:Nat) (e:D),ρ[j]?=some (Sl.own e)->σ[j]?≠some (some (V.ref b))
 inn:zS K H Hs as dss
structure Fr (K:a7) (H0 Hs0:Hp) (la:Nat->Option ac) (ρ:ay) (σ:St) (H Hs:Hp):Prop where
 st:cz H0 Hs0 H Hs
 len:ρ.length=σ.length
 sh:∀ (i:Nat) (d:D),ρ[i]?=some (Sl.shr d)->∃ v,σ[i]?=some (some v)/\RD K Hs v d
 ow:∀ (i:Nat) (d:D),ρ[i]?=some (Sl.own d)->∃ a o,σ[i]?=some (some (V.ref a))/\H a=some o/\Hs a=none/\H0 a=none/\oj K Hs o d
 lk:∀ (i:Nat) (d:D),ρ[i]?=some (Sl.lck d)->∃ a o,σ[i]?=some (some (V.ref a))/\la i=some a/\H a=some o/\Hs a=none/\H0 a=some o/\oj K Hs o d
 dj:∀ (i j:Nat) (d e:D) (a:ac),ρ[i]?=some (Sl.own d)->ρ[j]?=some (Sl.own e)->σ[i]?=some (some (V.ref a))->σ[j]?=some (some (V.ref a))->i=j
 lh:∀ (i:Nat) (a:ac),la i=some a->∃ o,H0 a=some o
 o2:∀ (i:Nat) (dss:List (List D)),ρ[i]?=some (Sl.ow2 dss)->∃ a as,O2 K H0 H Hs ρ σ i dss a as
 u2:∀ (i j:Nat) (d e:List (List D)),ρ[i]?=some (Sl.ow2 d)->ρ[j]?=some (Sl.ow2 e)->i=j
theorem Fr.step     (f:Fr K H0 Hs0 la ρ σ H Hs) (s:cz H Hs H' Hs'):Fr K H0 Hs0 la ρ σ H' Hs':=by
 refine ⟨f.st.trans s,f.len,fun i d e=>?_,fun i d e=>?_,fun i d e=>?_,f.dj,f.lh,fun i dss e=>?_,f.u2⟩
 ·obtain ⟨v,h1,h2⟩:=f.sh i d e;exact ⟨v,h1,h2.same s.sh⟩
 ·obtain ⟨a,o,h1,h2,h3,h4,h5⟩:=f.ow i d e;exact ⟨a,o,h1,s.all _ _ h2,s.out _ _ h2 h5.nt h3,h4,h5.same s.sh⟩
 ·obtain ⟨a,o,h1,h2,h3,h4,h5,h6⟩:=f.lk i d e;exact ⟨a,o,h1,h2,s.all _ _ h3,s.out _ _ h3 h6.nt h4,h5,h6.same s.sh⟩
 ·obtain ⟨a,as,h⟩:=f.o2 i dss e;refine ⟨a,as,h.at_,s.all _ _ h.ob,h.nd,fun b hb=>⟨?_,(h.out b hb).2⟩,h.dj,h.inn.step s.all s.sh⟩;have there:∃ o,H b=some o/\nt o=true:=by
   rcases List.mem_cons.mp hb with rfl|hb
   ·exact ⟨_,h.ob,rfl⟩
   ·exact h.inn.there hb
  obtain ⟨o,ho,hn⟩:=there;exact s.out b o ho hn (h.out b (by assumption)).1
inductive Sa (K:a7) (H Hs:Hp) (v:V) (d:D):Prop
 |mk (a:ac) (o:HO) (h0:v=.ref a) (h1:H a=some o) (h2:Hs a=none) (h3:oj K Hs o d):Sa K H Hs v d
def RB (K:a7) (H Hs:Hp) (v:V) (d:D):Prop:=RD K Hs v d\/Sa K H Hs v d
theorem RB.step    (h:RB K H Hs v d) (s:cz H Hs H' Hs'):RB K H' Hs' v d:=by
 rcases h with h|⟨a,o,h1,h2,h3,h4⟩
 ·exact .inl (h.same s.sh)
 ·exact .inr ⟨a,o,h1,s.all _ _ h2,s.out _ _ h2 h4.nt h3,h4.same s.sh⟩
theorem RB.full    (sub:df Hs H) (h:RB K H Hs v d):RD K H v d:=by
 rcases h with h|⟨a,o,rfl,h2,h3,h4⟩
 ·exact h.same sub
 ·have e:df (upd Hs a o) H:=fun b u q=>by
   by_cases hb:b=a
   ·subst hb;rw [aB] at q;cases q;exact h2
   ·rw [av hb] at q;exact sub b u q
  exact (h4.share h3).same e
theorem RB.list    (sub:df Hs H) (h:RB K H Hs v (.list ds)):∃ a vs,v=.ref a/\nY K H a vs/\RDs K Hs vs ds:=by
 rcases h with h|⟨a,o,rfl,h2,h3,h4⟩
 ·cases h with|list q r=>exact ⟨_,_,rfl,sub.seq q,r⟩
 ·cases h4 with|lst r=>exact ⟨a,_,rfl,.of h2,r⟩
theorem RB.tuple    (sub:df Hs H) (h:RB K H Hs v (.tuple ds)):∃ a vs,v=.ref a/\j_ K H a vs/\RDs K Hs vs ds/\Hs a=some (.tup vs):=by
 rcases h with h|⟨a,o,rfl,h2,h3,h4⟩
 ·cases h with|tuple q r=>exact ⟨_,_,rfl,.of (sub _ _ q),r,q⟩
 ·cases h4
theorem RB.str    (h:RB K H Hs v (.str x)):v=.str x:=by
 rcases h with h|⟨a,o,rfl,h2,h3,h4⟩
 ·exact h.str_inv
 ·cases h4
theorem RB.int    (h:RB K H Hs v (.int i)):v=.int i:=by
 rcases h with h|⟨a,o,rfl,h2,h3,h4⟩
 ·exact h.int_inv
 ·cases h4
theorem RB.non   (h:RB K H Hs v .none):v=.non:=by
 rcases h with h|⟨a,o,rfl,h2,h3,h4⟩
 ·cases h;rfl
 ·cases h4
def XW (K:a7) (cls:Str->ac) (E:XK) (c:Str) (n:Option D) (H Hs:Hp):Prop:=match n with
 |none=>E (.ref (cls c)) none H
 |some d=>∀ dx v,H dx=some (.xd [("number",v)])->RD K Hs v d->E (.ref (cls c)) (some dx) H
def Fin {α:Type} (K:a7) (cls:Str->ac) (E:XK) (H Hs:Hp) (r:R α) (q:α->Prop):Prop:=match r with
 |.ok d=>q d
 |.ex c n=>∀ H' Hs',cz H Hs H' Hs'->XW K cls E c n H' Hs'
 |.no=>False
inductive Vp (K:a7) (cls:Str->ac) (E:XK) (ρ:ay) (r:R D) (σ:St) (H:Hp) (Q:VK):Prop
 |mk (H0 Hs0:Hp) (la:Nat->Option ac) (Hs:Hp) (f:Fr K H0 Hs0 la ρ σ H Hs) (q:Fin K cls E H Hs r fun d=>∀ v H' Hs',cz H Hs H' Hs'->RD K Hs' v d->Q v H'):Vp K cls E ρ r σ H Q
def TR (K:a7) (cls:Str->ac) (E:XK) (ρ:ay) (r:R D):TE:=Vp K cls E ρ r
inductive Vq (K:a7) (cls:Str->ac) (E:XK) (ρ:ay) (r:R D) (σ:St) (H:Hp) (Q:VK):Prop
 |mk (H0 Hs0:Hp) (la:Nat->Option ac) (Hs:Hp) (f:Fr K H0 Hs0 la ρ σ H Hs) (q:Fin K cls E H Hs r fun d=>∀ v H' Hs',cz H Hs H' Hs'->RB K H' Hs' v d->Q v H'):Vq K cls E ρ r σ H Q
def TB (K:a7) (cls:Str->ac) (E:XK) (ρ:ay) (r:R D):TE:=Vq K cls E ρ r
inductive Sc (K:a7) (cls:Str->ac) (E:XK) (ρ:ay) (r:R Bool) (σ:St) (H:Hp) (Q:Bool->Hp->Prop):Prop
 |mk (H0 Hs0:Hp) (la:Nat->Option ac) (Hs:Hp) (f:Fr K H0 Hs0 la ρ σ H Hs) (q:Fin K cls E H Hs r fun b=>∀ H' Hs',cz H Hs H' Hs'->Q b H'):Sc K cls E ρ r σ H Q
def IP (K:a7) (cls:Str->ac) (E:XK) (ρ:ay) (r:R Bool):TT:=Sc K cls E ρ r
inductive P5 (K:a7) (H Hs:Hp):List V->List D->Prop
 |nil:P5 K H Hs [] []
 |cons {x:V}{xs:List V}{d:D}{ds:List D}:RB K H Hs x d->P5 K H Hs xs ds->P5 K H Hs (x::xs) (d::ds)
inductive Sd (K:a7) (cls:Str->ac) (E:XK) (ρ:ay) (r:R (List D)) (σ:St) (H:Hp) (Q:List V->Hp->Prop):Prop
 |mk (H0 Hs0:Hp) (la:Nat->Option ac) (Hs:Hp) (f:Fr K H0 Hs0 la ρ σ H Hs) (q:Fin K cls E H Hs r fun d=>∀ v H' Hs',cz H Hs H' Hs'->RDs K Hs' v d->Q v H'):Sd K cls E ρ r σ H Q
def U0 (K:a7) (cls:Str->ac) (E:XK) (ρ:ay) (r:R (List D)):TA:=Sd K cls E ρ r
inductive Se (K:a7) (cls:Str->ac) (E:XK) (ρ:ay) (r:R (List D)) (σ:St) (H:Hp) (Q:List V->Hp->Prop):Prop
 |mk (H0 Hs0:Hp) (la:Nat->Option ac) (Hs:Hp) (f:Fr K H0 Hs0 la ρ σ H Hs) (q:Fin K cls E H Hs r fun d=>∀ v H' Hs',cz H Hs H' Hs'->P5 K H' Hs' v d->Q v H'):Se K cls E ρ r σ H Q
def U1 (K:a7) (cls:Str->ac) (E:XK) (ρ:ay) (r:R (List D)):TA:=Se K cls E ρ r
structure C where
 X:Cx
 cls:Str->ac
 E:XK
structure JE (c:C) (e:bc) (g:ay->R D):Prop where of ::
 run:∀ ρ,PE c.X e (TR c.X.K c.cls c.E ρ (g ρ))
instance {c:C}{e:bc}{g:ay->R D}:CoeFun (JE c e g) (fun _=>∀ ρ,PE c.X e (TR c.X.K c.cls c.E ρ (g ρ))):=⟨JE.run⟩
structure JB (c:C) (e:bc) (g:ay->R D):Prop where of ::
 run:∀ ρ,PE c.X e (TB c.X.K c.cls c.E ρ (g ρ))
instance {c:C}{e:bc}{g:ay->R D}:CoeFun (JB c e g) (fun _=>∀ ρ,PE c.X e (TB c.X.K c.cls c.E ρ (g ρ))):=⟨JB.run⟩
structure JT (c:C) (e:bc) (g:ay->R Bool):Prop where of ::
 run:∀ ρ,PT c.X e (IP c.X.K c.cls c.E ρ (g ρ))
instance {c:C}{e:bc}{g:ay->R Bool}:CoeFun (JT c e g) (fun _=>∀ ρ,PT c.X e (IP c.X.K c.cls c.E ρ (g ρ))):=⟨JT.run⟩
structure JW (c:C) (e:bc) (g:ay->R Bool):Prop where of ::
 run:∀ ρ,PW c.X e (IP c.X.K c.cls c.E ρ (g ρ))
instance {c:C}{e:bc}{g:ay->R Bool}:CoeFun (JW c e g) (fun _=>∀ ρ,PW c.X e (IP c.X.K c.cls c.E ρ (g ρ))):=⟨JW.run⟩
structure DG (c:C) (es:List bc) (g:ay->R (List D)):Prop where of ::
 run:∀ ρ,PA c.X es (U0 c.X.K c.cls c.E ρ (g ρ))
instance {c:C}{es:List bc}{g:ay->R (List D)}:CoeFun (DG c es g) (fun _=>∀ ρ,PA c.X es (U0 c.X.K c.cls c.E ρ (g ρ))):=⟨DG.run⟩
structure P6 (c:C) (es:List bc) (g:ay->R (List D)):Prop where of ::
 run:∀ ρ,PA c.X es (U1 c.X.K c.cls c.E ρ (g ρ))
instance {c:C}{es:List bc}{g:ay->R (List D)}:CoeFun (P6 c es g) (fun _=>∀ ρ,PA c.X es (U1 c.X.K c.cls c.E ρ (g ρ))):=⟨P6.run⟩
section
theorem pH   (h:PE X e t) (m:∀ σ H Q,t' σ H Q->t σ H Q):PE X e t':=fun pins s σ H Q I q=>h pins s σ H Q I (m σ H Q q)
theorem Sf   (h:PT X e t) (m:∀ σ H Q,t' σ H Q->t σ H Q):PT X e t':=fun pins s σ H Q I q=>h pins s σ H Q I (m σ H Q q)
theorem Vr   (h:PW X e t) (m:∀ σ H Q,t' σ H Q->t σ H Q):PW X e t':=fun wh pins s σ H Q I q=>h wh pins s σ H Q I (m σ H Q q)
theorem U2 {X:Cx}{e:List bc}{t t':TA} (h:PA X e t) (m:∀ σ H Q,t' σ H Q->t σ H Q):PA X e t':=fun pos pins s σ H Q I q=>h pos pins s σ H Q I (m σ H Q q)
theorem AV {X:Cx}{e:c8}{t t':TS} (h:PS X e t) (m:∀ D σ H,t' D σ H->t D σ H):PS X e t':=fun pins s σ H Q I q=>h pins s σ H Q I (m Q σ H q)
theorem UN {X:Cx}{e:List c8}{t t':TS} (h:Ax X e t) (m:∀ D σ H,t' D σ H->t D σ H):Ax X e t':=fun pins s σ H Q I q=>h pins s σ H Q I (m Q σ H q)
theorem JE.bor (h:JE c e g):JB c e g:=.of fun ρ=>pH (h ρ) fun σ H Q ⟨H0,Hs0,la,Hs,f,q⟩=>⟨H0,Hs0,la,Hs,f,by
 cases hr:g ρ with
 |ok d=>rw [hr] at q;exact fun v H' Hs' s r=>q v H' Hs' s (.inl r)
 |ex c n=>rw [hr] at q;exact q
 |no=>rw [hr] at q;exact q⟩
theorem one {K:a7}{cls:Str->ac}{E:XK}{ρ:ay}{r:R D}{β:Type}{k:D->R β}{σ:St}{H:Hp}{H0 Hs0 Hs:Hp}{la:Nat->Option ac}{Q:V->Hp->Prop}{q:β->Prop} (f:Fr K H0 Hs0 la ρ σ H Hs)
  (h:Fin K cls E H Hs (r.bind k) q) (m:∀ d v H' Hs',r=.ok d->cz H Hs H' Hs'->Fr K H0 Hs0 la ρ σ H' Hs'->RB K H' Hs' v d->Q v H'):TB K cls E ρ r σ H Q:=by
 refine ⟨H0,Hs0,la,Hs,f,?_⟩;cases r with
 |ok d=>exact fun v H' Hs' s r=>m d v H' Hs' rfl s (f.step s) r
 |ex c n=>exact h
 |no=>exact h
theorem xv {K:a7}{cls:Str->ac}{E:XK}{ρ:ay}{r:R D}{β:Type}{k:D->R β}{σ:St}{H:Hp}{H0 Hs0 Hs:Hp}{la:Nat->Option ac}{Q:V->Hp->Prop}{q:β->Prop} (f:Fr K H0 Hs0 la ρ σ H Hs)
  (h:Fin K cls E H Hs (r.bind k) q) (m:∀ d v H' Hs',r=.ok d->cz H Hs H' Hs'->Fr K H0 Hs0 la ρ σ H' Hs'->RD K Hs' v d->Q v H'):TR K cls E ρ r σ H Q:=by
 refine ⟨H0,Hs0,la,Hs,f,?_⟩;cases r with
 |ok d=>exact fun v H' Hs' s r=>m d v H' Hs' rfl s (f.step s) r
 |ex c n=>exact h
 |no=>exact h
theorem Kh {K:a7}{cls:Str->ac}{E:XK}{ρ:ay}{r:R Bool}{β:Type}{k:Bool->R β}{σ:St}{H:Hp}{H0 Hs0 Hs:Hp}{la:Nat->Option ac}{Q:Bool->Hp->Prop}{q:β->Prop} (f:Fr K H0 Hs0 la ρ σ H Hs)
  (h:Fin K cls E H Hs (r.bind k) q) (m:∀ d H' Hs',r=.ok d->cz H Hs H' Hs'->Fr K H0 Hs0 la ρ σ H' Hs'->Q d H'):IP K cls E ρ r σ H Q:=by
 refine ⟨H0,Hs0,la,Hs,f,?_⟩;cases r with
 |ok d=>exact fun H' Hs' s=>m d H' Hs' rfl s (f.step s)
 |ex c n=>exact h
 |no=>exact h
theorem yR {K:a7}{cls:Str->ac}{E:XK}{ρ:ay}{r:R (List D)}{β:Type}{k:List D->R β}{σ:St}{H:Hp}{H0 Hs0 Hs:Hp}{la:Nat->Option ac}{Q:List V->Hp->Prop}{q:β->Prop} (f:Fr K H0 Hs0 la ρ σ H Hs)
  (h:Fin K cls E H Hs (r.bind k) q) (m:∀ d v H' Hs',r=.ok d->cz H Hs H' Hs'->Fr K H0 Hs0 la ρ σ H' Hs'->RDs K Hs' v d->Q v H'):U0 K cls E ρ r σ H Q:=by
 refine ⟨H0,Hs0,la,Hs,f,?_⟩;cases r with
 |ok d=>exact fun v H' Hs' s r=>m d v H' Hs' rfl s (f.step s) r
 |ex c n=>exact h
 |no=>exact h
theorem Ki {K:a7}{cls:Str->ac}{E:XK}{ρ:ay}{r:R (List D)}{β:Type}{k:List D->R β}{σ:St}{H:Hp}{H0 Hs0 Hs:Hp}{la:Nat->Option ac}{Q:List V->Hp->Prop}{q:β->Prop} (f:Fr K H0 Hs0 la ρ σ H Hs)
  (h:Fin K cls E H Hs (r.bind k) q) (m:∀ d v H' Hs',r=.ok d->cz H Hs H' Hs'->Fr K H0 Hs0 la ρ σ H' Hs'->P5 K H' Hs' v d->Q v H'):U1 K cls E ρ r σ H Q:=by
 refine ⟨H0,Hs0,la,Hs,f,?_⟩;cases r with
 |ok d=>exact fun v H' Hs' s r=>m d v H' Hs' rfl s (f.step s) r
 |ex c n=>exact h
 |no=>exact h
theorem Fin.on {α:Type}{K:a7}{cls:Str->ac}{E:XK}{H Hs H' Hs':Hp}{r:R α}{q q':α->Prop} (h:Fin K cls E H Hs r q) (s:cz H Hs H' Hs') (m:∀ a,q a->q' a):Fin K cls E H' Hs' r q':=by
 cases r with
 |ok a=>exact m a h
 |ex c n=>exact fun H2 Hs2 s2=>h H2 Hs2 (s.trans s2)
 |no=>exact h
end
end
section
def EG (ρ:ay) (i:Nat):R D:=match ρ[i]? with
 |some (Sl.shr d)=>.ok d
 |_=>.no
def DH (ρ:ay) (i:Nat):R D:=match ρ[i]? with
 |some (Sl.shr d)=>.ok d
 |some (Sl.own d)=>.ok d
 |some (Sl.lck d)=>.ok d
 |_=>.no
section
variable {c:C}{e a b:bc}{g ga gb:ay->R D}{pos:Pos}
theorem af (i:Nat) (hN:c.X.N[i]?=some x:=by rfl) (hv:MS c.X.env.scope x:=by first|exact i5 rfl|exact eW (i5 rfl)|exact eW (eW rfl)) (hd:(x==("__debug__" : Str))=false:=by decide)
  (hcd:(x==("__classdict__" : Str))=false:=by decide):JE c (.Name x pos) (fun ρ=>EG ρ i):=.of fun ρ=>pH (pT hN hv hd hcd) fun σ H Q h_0=>by
 obtain ⟨H0,Hs0,la,Hs,f,q⟩:=h_0;cases hr:ρ[i]? with
 |none=>simp only [EG,hr] at q;exact q.elim
 |some s =>
  cases s with
  |shr d =>
   obtain ⟨v,h1,h2⟩:=f.sh i d hr;simp only [EG,hr] at q;exact ⟨v,h1,q v H Hs (.refl f.st.sub) h2⟩
  |no=>simp only [EG,hr] at q;exact q.elim
  |own d=>simp only [EG,hr] at q;exact q.elim
  |lck d=>simp only [EG,hr] at q;exact q.elim
  |ow2 d=>simp only [EG,hr] at q;exact q.elim
theorem ai (i:Nat) (hN:c.X.N[i]?=some x:=by rfl) (hv:MS c.X.env.scope x:=by first|exact i5 rfl|exact eW (i5 rfl)|exact eW (eW rfl)) (hd:(x==("__debug__" : Str))=false:=by decide)
  (hcd:(x==("__classdict__" : Str))=false:=by decide):JB c (.Name x pos) (fun ρ=>DH ρ i):=.of fun ρ=>pH (pT hN hv hd hcd) fun σ H Q h_1=>by
 obtain ⟨H0,Hs0,la,Hs,f,q⟩:=h_1;cases hr:ρ[i]? with
 |none=>simp only [DH,hr] at q;exact q.elim
 |some s =>
  cases s with
  |shr d =>
   obtain ⟨v,h1,h2⟩:=f.sh i d hr;simp only [DH,hr] at q;exact ⟨v,h1,q v H Hs (.refl f.st.sub) (.inl h2)⟩
  |no=>simp only [DH,hr] at q;exact q.elim
  |own d =>
   obtain ⟨a,o,h1,h2,h3,h4,h5⟩:=f.ow i d hr;simp only [DH,hr] at q;exact ⟨_,h1,q _ H Hs (.refl f.st.sub) (.inr ⟨a,o,rfl,h2,h3,h5⟩)⟩
  |lck d =>
   obtain ⟨a,o,h1,h2,h3,h4,h5,h6⟩:=f.lk i d hr;simp only [DH,hr] at q;exact ⟨_,h1,q _ H Hs (.refl f.st.sub) (.inr ⟨a,o,rfl,h3,h4,h6⟩)⟩
  |ow2 d=>simp only [DH,hr] at q;exact q.elim
theorem pX  (h:PE c.X e (tC v)) (r:∀ Hs,RD c.X.K Hs v d):JE c e (fun _=>.ok d):=.of fun ρ=>pH h fun σ H Q h_2=>by obtain ⟨H0,Hs0,la,Hs,f,q⟩:=h_2;exact q v H Hs (.refl f.st.sub) (r Hs)
theorem ak  : JE c (.Constant (.int i) j pos) (fun _=>.ok (.int i)):=pX Ay fun _=>.int i
theorem jn  : JE c (.Constant (.bool i) j pos) (fun _=>.ok (.bool i)):=pX J5 fun _=>.bool i
theorem iz:JE c (.Constant .none j pos) (fun _=>.ok .none):=pX Q2 fun _=>.none
theorem bI  : JE c (.Constant (.str i) j pos) (fun _=>.ok (.str i)):=pX J6 fun _=>.str i
theorem tJ  (hg:Gl c.X x) (hm:∃ t,c.X.mg x=some (.int i t)) (hd:(x==("__debug__" : Str))=false:=by decide):JE c (.Name x pos) (fun _=>.ok (.int i)):=by
 obtain ⟨t,hm⟩:=hm;exact pX (FY hg hm (v:=.int i) ⟨t,rfl⟩ hd) fun _=>.int i
inductive Vs (K:a7) (h:D->D->R D) (x:V) (y:V) (H:Hp) (Q:VK):Prop
 |mk (Hs dx dy:_) (h0:df Hs H) (h1:RB K H Hs x dx) (h2:RB K H Hs y dy) (h3:∃ d,h dx dy=.ok d/\∀ v H' Hs',cz H Hs H' Hs'->RD K Hs' v d->Q v H'):Vs K h x y H Q
def rD (K:a7) (h:D->D->R D):R2:=Vs K h
def wI (X:Cx) (f:a9->a9->Sem a9) (h:D->D->R D):Prop:=pp X f (rD X.K h)/\∀ x y c n,h x y≠.ex c n
def g2 (ga gb:ay->R D) (h:D->D->R D):ay->R D:=fun ρ=>(ga ρ).bind fun x=>(gb ρ).bind fun y=>h x y
theorem two        (hx:∀ x y c n,h x y≠.ex c n) (q:TR K cls E ρ (g2 ga gb h ρ) σ H Q):RG (rD K h) (TB K cls E ρ (ga ρ)) (TB K cls E ρ (gb ρ)) σ H Q:=by
 obtain ⟨H0,Hs0,la,Hs,f,q⟩:=q;refine one f q fun x v H1 Hs1 e1 s1 f1 r1=>?_;unfold g2 at q;rw [e1,bind_ok] at q;refine one f1 (q.on s1 (q':=fun _=>True) fun _ _=>trivial) fun y u H2 Hs2 e2 s2 f2 r2=>?_;rw [e2,bind_ok] at q;cases hr:h x y with
 |ok d =>
  rw [hr] at q;exact ⟨Hs2,x,y,f2.st.sub,r1.step s2,r2,d,hr,fun w H3 Hs3 s3 r3=>q w H3 Hs3 (s1.trans (s2.trans s3)) r3⟩
 |ex c n=>exact (hx x y c n hr).elim
 |no=>rw [hr] at q;exact q.elim
theorem b9  (ho:wI c.X (fN op) h) (ha:JB c a ga) (hb:JB c b gb):JE c (.BinOp a op b pos) (g2 ga gb h):=.of fun ρ=>pH (OO ho.1 (ha ρ) (hb ρ)) fun σ H Q q=>two ho.2 q
theorem uN  (ho:wI c.X (bC op) h) (ha:JB c a ga) (hb:JB c b gb) (hm:fR op b=false:=by first|exact Eb _|rfl):JE c (.Compare a [op] [b] pos) (g2 ga gb h):=.of fun ρ=>pH (MZ ho.1 (ha ρ) (hb ρ) hm) fun σ H Q q=>two ho.2 q
def fF (g:ay->R D):ay->R Bool:=fun ρ=>(g ρ).bind fun d=>match d with
 |.bool b=>.ok b
 |_=>.no
theorem Sg       (q:IP K cls E ρ (fF g ρ) σ H Q):TR K cls E ρ (g ρ) σ H fun x H'=>∃ k,x=.bl k/\Q k H':=by
 obtain ⟨H0,Hs0,la,Hs,f,q⟩:=q;refine xv f q fun d v H1 Hs1 e1 s1 f1 r1=>?_;unfold fF at q;rw [e1,bind_ok] at q;cases r1 with
 |bool b=>exact ⟨b,rfl,q H1 Hs1 s1⟩
 |_=>exact q.elim
theorem cH  (ho:wI c.X (bC op) h) (ha:JB c a ga) (hb:JB c b gb) (hm:fR op b=false:=by first|exact Eb _|rfl):JT c (.Compare a [op] [b] pos) (fF (g2 ga gb h)):=.of fun ρ=>Sf (G0 ho.1 (ha ρ) (hb ρ) hm) fun σ H Q q=>two ho.2 (Sg q)
theorem fv (h:JE c e g) (he:∀ whole,wP e c.X.env whole=(do let v <- whole;ko e.pos;pz [v] (truthy v)):=by intro _;rfl):JT c e (fF g):=.of fun ρ=>Sf (J8 (h ρ) he) fun σ H Q q=>Sg q
def jH (g:ay->R Bool):ay->R Bool:=fun ρ=>(g ρ).bind fun b=>.ok (!b)
def EH (g h:ay->R Bool):ay->R Bool:=fun ρ=>(g ρ).bind fun b=>if b then h ρ else .ok false
def yS (g h:ay->R Bool):ay->R Bool:=fun ρ=>(g ρ).bind fun b=>if b then .ok true else h ρ
variable {gt gu:ay->R Bool}{bM:List bc}
theorem fe (h:JT c e gt):JT c (.UnaryOp .Not e pos) (jH gt):=.of fun ρ=>Sf (Ja (h ρ)) fun σ H Q q=>by
 obtain ⟨H0,Hs0,la,Hs,f,q⟩:=q;refine Kh f q fun d H1 Hs1 e1 s1 f1=>?_;unfold jH at q;rw [e1,bind_ok] at q;exact q H1 Hs1 s1
theorem AW (h:JT c a gt):JW c (.BoolOp .And [a] pos) gt:=.of fun ρ=>MT (h ρ)
theorem kE (h:JT c a gt):JW c (.BoolOp .Or [a] pos) gt:=.of fun ρ=>J9 (h ρ)
theorem EI (h:JT c a gt) (h2:JW c (.BoolOp .And (b::bM) pos) gu):JW c (.BoolOp .And (a::b::bM) pos) (EH gt gu):=.of fun ρ=>Vr (Q3 (h ρ) (h2 ρ)) fun σ H Q q=>by
 obtain ⟨H0,Hs0,la,Hs,f,q⟩:=q;refine Kh f q fun d H1 Hs1 e1 s1 f1=>?_;unfold EH at q;rw [e1,bind_ok] at q;cases d with
 |true=>exact Es ⟨H0,Hs0,la,Hs1,f1,q.on s1 fun b k H2 Hs2 s2=>k H2 Hs2 (s1.trans s2)⟩
 |false=>exact AG (q H1 Hs1 s1)
theorem ma (h:JT c a gt) (h2:JW c (.BoolOp .Or (b::bM) pos) gu):JW c (.BoolOp .Or (a::b::bM) pos) (yS gt gu):=.of fun ρ=>Vr (OJ (h ρ) (h2 ρ)) fun σ H Q q=>by
 obtain ⟨H0,Hs0,la,Hs,f,q⟩:=q;refine Kh f q fun d H1 Hs1 e1 s1 f1=>?_;unfold yS at q;rw [e1,bind_ok] at q;cases d with
 |false=>exact AG ⟨H0,Hs0,la,Hs1,f1,q.on s1 fun b k H2 Hs2 s2=>k H2 Hs2 (s1.trans s2)⟩
 |true=>exact Es (q H1 Hs1 s1)
theorem JW.t (h:JW c e gt):JT c e gt:=.of fun ρ=>(h ρ).pt
def Gh (g:ay->R D):ay->R D:=fun ρ=>(fF g ρ).bind fun b=>.ok (.bool (!b))
theorem QI (h:JE c e g):JE c (.UnaryOp .Not e pos) (Gh g):=.of fun ρ=>pH (Q6 (h ρ)) fun σ H Q q=>by
 refine Sg ?_;obtain ⟨H0,Hs0,la,Hs,f,q⟩:=q;refine Kh f q fun d H1 Hs1 e1 s1 f1=>?_;unfold Gh at q;rw [e1,bind_ok] at q;exact q _ H1 Hs1 s1 (.bool _)
def vJ (g h:ay->R D):ay->R D:=fun ρ=>(fF g ρ).bind fun b=>if b then h ρ else .ok (.bool false)
theorem AX (h:JE c a g):JE c (.BoolOp op [a] pos) g:=.of fun ρ=>Q4 (h ρ)
theorem xw (h:JE c a ga) (h2:JE c (.BoolOp .And (b::bM) pos) gb):JE c (.BoolOp .And (a::b::bM) pos) (vJ ga gb):=.of fun ρ=>pH (Q5 (h ρ) (h2 ρ)) fun σ H Q q=>by
 refine Sg ?_;obtain ⟨H0,Hs0,la,Hs,f,q⟩:=q;refine Kh f q fun d H1 Hs1 e1 s1 f1=>?_;unfold vJ at q;rw [e1,bind_ok] at q;cases d with
 |true=>exact Es ⟨H0,Hs0,la,Hs1,f1,q.on s1 fun b k v H2 Hs2 s2 r2=>k v H2 Hs2 (s1.trans s2) r2⟩
 |false=>exact AG (q _ H1 Hs1 s1 (.bool _))
def pY (ga gb gc:ay->R D) (h h':D->D->R D):ay->R D:=fun ρ=>(ga ρ).bind fun x=>(gb ρ).bind fun y=>(h x y).bind fun z=>match z with
 |.bool true=>(gc ρ).bind fun w=>h' y w
 |.bool false=>.ok (.bool false)
 |_=>.no
def a8 (g:ay->R D) (gs:ay->R (List D)):ay->R (List D):=fun ρ=>(g ρ).bind fun d=>(gs ρ).bind fun ds=>.ok (d::ds)
def al:ay->R (List D):=fun _=>.ok []
theorem ah:DG c [] al:=.of fun ρ=>U2 dG fun σ H Q h_3=>by obtain ⟨H0,Hs0,la,Hs,f,q⟩:=h_3;exact q [] H Hs (.refl f.st.sub) .nil
theorem b_:P6 c [] al:=.of fun ρ=>U2 dG fun σ H Q h_4=>by obtain ⟨H0,Hs0,la,Hs,f,q⟩:=h_4;exact q [] H Hs (.refl f.st.sub) .nil
theorem a5 (h:JE c e g) (hr:DG c es gs) (hs:am (e::es) c.X.env=(false,bY e c.X.env)::am es c.X.env:=by rfl):DG c (e::es) (a8 g gs):=.of fun ρ=>U2 (bO (h ρ) (hr ρ) hs) fun σ H Q h_5=>by
 obtain ⟨H0,Hs0,la,Hs,f,q⟩:=h_5;refine xv f q fun d v H1 Hs1 e1 s1 f1 r1=>?_;unfold a8 at q;rw [e1,bind_ok] at q;refine yR f1 (q.on s1 (q':=fun _=>True) fun _ _=>trivial) fun ds vs H2 Hs2 e2 s2 f2 r2=>?_;rw [e2,bind_ok] at q;exact q _ H2 Hs2 (s1.trans s2) (.cons (r1.same s2.sh) r2)
theorem bE (h:JB c e g) (hr:P6 c es gs) (hs:am (e::es) c.X.env=(false,bY e c.X.env)::am es c.X.env:=by rfl):P6 c (e::es) (a8 g gs):=.of fun ρ=>U2 (bO (h ρ) (hr ρ) hs) fun σ H Q h_6=>by
 obtain ⟨H0,Hs0,la,Hs,f,q⟩:=h_6;refine one f q fun d v H1 Hs1 e1 s1 f1 r1=>?_;unfold a8 at q;rw [e1,bind_ok] at q;refine Ki f1 (q.on s1 (q':=fun _=>True) fun _ _=>trivial) fun ds vs H2 Hs2 e2 s2 f2 r2=>?_;rw [e2,bind_ok] at q;exact q _ H2 Hs2 (s1.trans s2) (.cons (r1.step s2) r2)
def aY (gs:ay->R (List D)) (k:List D->D):ay->R D:=fun ρ=>(gs ρ).bind fun ds=>if ds.length<=1000 then .ok (k ds) else .no
theorem aI {x1} (h:DG c es gs):JE c (.Tuple es x1 pos) (aY gs .tuple):=.of fun ρ=>pH (Jq (h ρ)) fun σ H Q h_7=>by
 obtain ⟨H0,Hs0,la,Hs,f,q⟩:=h_7;refine yR f q fun ds vs H1 Hs1 e1 s1 f1 r1=>?_;unfold aY at q;rw [e1,bind_ok] at q;by_cases hl:ds.length<=1000
 ·rw [if_pos hl] at q;refine ⟨bi (bU (by rw [r1.length];exact hl)),fun p hp=>q _ _ _ (s1.trans (.new f1.st.sub hp)) (.tuple aB (r1.same (cz.new f1.st.sub hp).sh))⟩
 ·rw [if_neg hl] at q;exact q.elim
theorem dQ (h:DG c es gs):JE c (.List es pos) (aY gs .list):=.of fun ρ=>pH (jj (h ρ)) fun σ H Q h_8=>by
 obtain ⟨H0,Hs0,la,Hs,f,q⟩:=h_8;refine yR f q fun ds vs H1 Hs1 e1 s1 f1 r1=>?_;unfold aY at q;rw [e1,bind_ok] at q;by_cases hl:ds.length<=1000
 ·rw [if_pos hl] at q;refine ⟨bi (bU (by rw [r1.length];exact hl)),fun p hp=>q _ _ _ (s1.trans (.new f1.st.sub hp)) (.list (.of aB) (r1.same (cz.new f1.st.sub hp).sh))⟩
 ·rw [if_neg hl] at q;exact q.elim
end
end
end J
namespace J
open PySem PySem.Spec PyProof.Rows L2
section
section
def cx:D->D->R D
 |.int i,.int j=>.ok (.int (i+j))
 |.str x,.str y=>if x.length+y.length<=1000 then .ok (.str (x++y)) else .no
 |.tuple xs,.tuple ys=>if xs.length+ys.length<=1000 then .ok (.tuple (xs++ys)) else .no
 |.list xs,.list ys=>if xs.length+ys.length<=1000 then .ok (.list (xs++ys)) else .no
 |_,_=>.no
inductive Kj (K:a7) (x:V) (y:V) (H:Hp) (Q:VK):Prop
 |mk (l b xs zs:_) (h0:x=.ref l) (h1:y=.ref b) (h2:nY K H l xs) (h3:nY K H b zs) (h4:xs.length+zs.length<=sizeLine) (h5:∀ p,H p=none->Q (.ref p) (upd H p (.lst (xs++zs)))):Kj K x y H Q
def Sh (K:a7):R2:=Kj K
theorem NG:pp X (fN .Add) (Sh X.K):=by
 intro pins s σ H x y v u Q I rx ry h;obtain ⟨l,b,xs,zs,rfl,rfl,h1,h2,hz,q⟩:=h;cases rx;cases ry;obtain ⟨its,r,⟨o,n,e,c1,c2,c3⟩,z⟩:=I.list h1;obtain ⟨its2,r2,⟨o2,n2,e2,d1,d2,d3⟩,z2⟩:=I.list h2;obtain ⟨k1,k2,k3,k4⟩:=o;obtain ⟨m1,m2,m3,m4⟩:=o2;simp only at c1 c2 c3 d1 d2 d3;subst c1 c2 c3 d1 d2 d3;refine yA ⟨_,e,rfl⟩ ⟨_,e2,rfl⟩ noFill_list_add seq_list_add PySem.F.slot_list_add PySem.F.entry_list_add (PySem.F.args_list_add_2 _ _) (PyProof.Rows.list_addW l b _ _ n n2 _ _ k4 m4 (by rw [aC,aC,<- r.length,<- r2.length];exact hz)) ⟨e,e2,?_⟩;have ea:its.toArray++its2.toArray=(its++its2).toArray:=by simp
 rw [ea];exact ⟨.ref _,_,I.lnew (t':=s.toks) (r.append r2) (by rw [a_];omega),rfl,q _ I.fresh⟩
inductive Kk (K:a7) (x:V) (y:V) (H:Hp) (Q:VK):Prop
 |mk (a b ys:_) (h0:x=.ref a) (h1:y=.ref b) (h2:j_ K H a []) (h3:j_ K H b ys) (h4:Q (.ref b) H):Kk K x y H Q
def Si (K:a7):R2:=Kk K
theorem NH:pp X (fN .Add) (Si X.K):=by
 intro pins s σ H x y v u Q I rx ry h;obtain ⟨a,b,ys,rfl,rfl,h1,h2,q⟩:=h;cases rx;cases ry;obtain ⟨its,r,⟨⟨k1,k2,k3,k4⟩,e,c1,n,c3⟩,z⟩:=I.tuple h1;obtain ⟨its2,r2,⟨⟨m1,m2,m3,m4⟩,e2,d1,n2,d3⟩,z2⟩:=I.tuple h2;simp only at c1 c3 d1 d3;subst c1 c3 d1 d3;cases r;exact yA ⟨_,e,rfl⟩ ⟨_,e2,rfl⟩ At G_ nZ ni (mI _ _)
  (PyProof.Rows.tuple_addW0 a b _ _ n n2 _ _ k4 m4 rfl) ⟨e,e2,⟨.ref b,H,I,rfl,q⟩⟩
theorem bw:wI X (fN .Add) cx:=by
 refine ⟨fun pins s σ H x y v u Q I rv ru ⟨Hs,dx,dy,sub,rx,ry,d,hd,q⟩=>?_,fun x y c n=>?_⟩
 ·unfold cx at hd;split at hd
  ·cases hd;exact Qe pins s σ H x y v u Q I rv ru ⟨_,_,rx.int,ry.int,q _ H Hs (.refl sub) (.int _)⟩
  ·split at hd
   ·rename_i hz
    cases hd;exact Ee pins s σ H x y v u Q I rv ru ⟨_,_,rx.str,ry.str,bi (bU hz),q _ H Hs (.refl sub) (.str _)⟩
   ·cases hd
  ·split at hd
   ·rename_i xs ys hz
    cases hd;obtain ⟨a,vs,rfl,qa,ra,_⟩:=rx.tuple sub;obtain ⟨b,ws,rfl,qb,rb,_⟩:=ry.tuple sub;have hz':vs.length+ws.length<=sizeLine:=by rw [ra.length,rb.length];exact bi (bU hz)
    have big:∀ p,H p=none->Q (.ref p) (upd H p (.tup (vs++ws))):=fun p hp=>q _ _ _ (.new sub hp) (.tuple aB ((ra.append rb).same (cz.new sub hp).sh));cases vs with
    |nil =>
     cases ra;refine NH pins s σ H _ _ v u Q I rv ru ⟨a,b,ws,rfl,rfl,qa,qb,?_⟩;rcases ry with ry|⟨_,_,_,_,_,ow⟩
     ·exact q _ H Hs (.refl sub) (by simpa using ry)
     ·cases ow
    |cons v0 vr =>
     refine Nd pins s σ H _ _ v u Q I rv ru ⟨a,b,_,ws,rfl,rfl,qa,qb,by simp,hz',fun e=>?_,fun _=>big⟩;subst e;cases rb;rcases rx with rx|⟨_,_,_,_,_,ow⟩
     ·exact q _ H Hs (.refl sub) (by simpa using rx)
     ·cases ow
   ·cases hd
  ·split at hd
   ·rename_i xs ys hz
    cases hd;obtain ⟨a,vs,rfl,qa,ra⟩:=rx.list sub;obtain ⟨b,ws,rfl,qb,rb⟩:=ry.list sub;have hz':vs.length+ws.length<=sizeLine:=by rw [ra.length,rb.length];exact bi (bU hz)
    exact NG pins s σ H _ _ v u Q I rv ru ⟨a,b,vs,ws,rfl,rfl,qa,qb,hz',fun p hp=>q _ _ _ (.new sub hp) (.list (.of aB) ((ra.append rb).same (cz.new sub hp).sh))⟩
   ·cases hd
  ·cases hd
 ·unfold cx;split<;>(try split)<;>exact fun h=>by cases h
def EJ (C:Int->Int->Bool) (k:Int->Int->D):D->D->R D
 |.int i,.int j=>if C i j then .ok (k i j) else .no
 |_,_=>.no
theorem EK {f:a9->a9->Sem a9}{C:Int->Int->Bool}{P:Int->Int->Prop}{k:Int->Int->D}{kv:Int->Int->V} (h:pp X f (rI P kv)) (hC:∀ i j,C i j=true->P i j) (hk:∀ Hs i j,RD X.K Hs (kv i j) (k i j)):wI X f (EJ C k):=by
 refine ⟨fun pins s σ H x y v u Q I rv ru ⟨Hs,dx,dy,sub,rx,ry,d,hd,q⟩=>?_,fun x y c n=>?_⟩
 ·unfold EJ at hd;split at hd
  ·split at hd
   ·rename_i hc
    cases hd;exact h pins s σ H x y v u Q I rv ru ⟨_,_,rx.int,ry.int,hC _ _ hc,q _ H Hs (.refl sub) (hk _ _ _)⟩
   ·cases hd
  ·cases hd
 ·unfold EJ;split<;>(try split)<;>exact fun h=>by cases h
def zT (i j:Int):Bool:=(decide (-(2 ^ 64)<i)&&decide (i<2 ^ 64))||(decide (-(2 ^ 64)<j)&&decide (j<2 ^ 64))
def we:=EJ zT fun i j=>.int (i*j)
def HM:=EJ (fun _ j=>decide (0<j)) fun i j=>.int (i % j)
def Kl:=EJ (fun _ j=>decide (0<j)&&decide (j<1073741824)) fun i j=>.int (i / j)
theorem pZ:wI X (fN .Mult) we:=EK Qf (fun i j h=>by
 unfold zT at h;simp only [pS,aJ,decide_eq_true_eq] at h;exact h) fun _ _ _=>.int _
theorem AY:wI X (fN .Mod) HM:=EK Qg (fun i j h=>of_decide_eq_true h) fun _ _ _=>.int _
theorem NI:wI X (fN .FloorDiv) Kl:=EK MU (fun i j h=>by
 simp only [aJ,decide_eq_true_eq] at h;exact h) fun _ _ _=>.int _
def lW (neg:Bool) (x y:D):R D:=if x.canLay0&&y.canLay0&&decide (min x.depth y.depth<=60) then .ok (.bool (if neg then !bu x y else bu x y)) else .no
mutual
theorem AZ:∀ d:D,d.canLay0=true->mR d=true
 |.none,_=>rfl
 |.bool _,_=>rfl
 |.int _,_=>rfl
 |.str _,_=>rfl
 |.list xs,h=>by
  simp only [i8] at h;simp only [mR];exact lays_noD xs h
 |.tuple xs,h=>by
  simp only [i8] at h;simp only [mR];exact lays_noD xs h
 |.dict _,h=>by simp [i8] at h
theorem lays_noD:∀ d:List D,gN d=true->noDs d=true
 |[],_=>rfl
 |x::r,h=>by
  simp only [gN,aJ] at h;simp only [noDs,aJ];exact ⟨AZ x h.1,lays_noD r h.2⟩
end
theorem Km  (h:pp X f (QB X.K neg)):wI X f (lW neg):=by
 refine ⟨fun pins s σ H x y v u Q I rv ru ⟨Hs,dx,dy,sub,rx,ry,d,hd,q⟩=>?_,fun x y c n=>?_⟩
 ·unfold lW at hd;split at hd
  ·rename_i hc
   simp only [aJ,decide_eq_true_eq] at hc;cases hd;exact h pins s σ H x y v u Q I rv ru ⟨dx,dy,(rx.full sub).rep (AZ _ hc.1.1),(ry.full sub).rep (AZ _ hc.1.2),hc.1.1,hc.1.2,hc.2,q _ H Hs (.refl sub) (.bool _)⟩
  ·cases hd
 ·unfold lW;split<;>exact fun h=>by cases h
theorem pd (hu:X.A.units+64<qS):wI X (bC .Eq) (lW false):=Km (QC hu)
theorem md (hu:X.A.units+64<qS):wI X (bC .NotEq) (lW true):=Km (QD hu)
def HN (k:Int->Int->Bool) (t:Str->Str->Bool):D->D->R D
 |.int i,.int j=>.ok (.bool (k i j))
 |.str x,.str y=>.ok (.bool (t x y))
 |_,_=>.no
theorem Kn   (h1:pp X f (Qa fun i j=>.bl (k i j))) (h2:pp X f (fun x y H Q=>∃ i j,x=.str i/\y=.str j/\Q (.bl (t i j)) H)):wI X f (HN k t):=by
 refine ⟨fun pins s σ H x y v u Q I rv ru ⟨Hs,dx,dy,sub,rx,ry,d,hd,q⟩=>?_,fun x y c n=>?_⟩
 ·unfold HN at hd;split at hd
  ·cases hd;exact h1 pins s σ H x y v u Q I rv ru ⟨_,_,rx.int,ry.int,q _ H Hs (.refl sub) (.bool _)⟩
  ·cases hd;exact h2 pins s σ H x y v u Q I rv ru ⟨_,_,rx.str,ry.str,q _ H Hs (.refl sub) (.bool _)⟩
  ·cases hd
 ·unfold HN;split<;>exact fun h=>by cases h
def EL:=HN (fun i j=>decide (i<j)) lV
def P7:=HN (fun i j=>decide (i<=j)) fun x y=>!lV y x
def QJ:D->D->R D
 |.int i,.int j=>.ok (.bool (decide (j<i)))
 |_,_=>.no
theorem zU:wI X (bC .Lt) EL:=Kn RJ Ho
theorem zV:wI X (bC .LtE) P7:=Kn RK HG
theorem Ko:wI X (bC .Gt) QJ:=by
 refine ⟨fun pins s σ H x y v u Q I rv ru ⟨Hs,dx,dy,sub,rx,ry,d,hd,q⟩=>?_,fun x y c n=>?_⟩
 ·unfold QJ at hd;split at hd
  ·cases hd;exact RL pins s σ H x y v u Q I rv ru ⟨_,_,rx.int,ry.int,q _ H Hs (.refl sub) (.bool _)⟩
  ·cases hd
 ·unfold QJ;split<;>exact fun h=>by cases h
def EM:D->Bool
 |.none=>true
 |_=>false
def NJ (neg:Bool):D->D->R D
 |x,.none=>.ok (.bool (if neg then !EM x else EM x))
 |_,_=>.no
theorem Gi {K:a7}{H Hs:Hp}{v:V}{d:D} (h:RB K H Hs v d):decide (v=.non)=EM d:=by
 rcases h with h|⟨a,o,rfl,_,_,h⟩
 ·cases h<;>rfl
 ·cases h<;>rfl
theorem Sj:wI X (bC .Is) (NJ false):=by
 refine ⟨fun pins s σ H x y v u Q I rv ru ⟨Hs,dx,dy,sub,rx,ry,d,hd,q⟩=>?_,fun x y c n=>?_⟩
 ·unfold NJ at hd;split at hd
  ·cases hd;exact Qi pins s σ H x y v u Q I rv ru ⟨ry.non,by rw [Gi rx];exact q _ H Hs (.refl sub) (.bool _)⟩
  ·cases hd
 ·unfold NJ;split<;>exact fun h=>by cases h
theorem Kp:wI X (bC .IsNot) (NJ true):=by
 refine ⟨fun pins s σ H x y v u Q I rv ru ⟨Hs,dx,dy,sub,rx,ry,d,hd,q⟩=>?_,fun x y c n=>?_⟩
 ·unfold NJ at hd;split at hd
  ·cases hd;exact MY pins s σ H x y v u Q I rv ru ⟨ry.non,by rw [Gi rx];exact q _ H Hs (.refl sub) (.bool _)⟩
  ·cases hd
 ·unfold NJ;split<;>exact fun h=>by cases h
def kM:D->Bool
 |.none=>true
 |.bool _=>true
 |.int _=>true
 |.str _=>true
 |_=>false
def DI (neg:Bool):D->D->R D
 |x,.list ys=>if kM x&&ys.all kM then .ok (.bool (if neg then !(ys.any fun y=>bu y x) else ys.any fun y=>bu y x)) else .no
 |x,.tuple ys=>if kM x&&ys.all kM then .ok (.bool (if neg then !(ys.any fun y=>bu y x) else ys.any fun y=>bu y x)) else .no
 |_,_=>.no
theorem Gj {K:a7}{H:Hp}{v:V}{d:D} (h:RD K H v d) (f:kM d=true):pV v=true:=by
 cases h<;>first|rfl|cases f
theorem Cm {K:a7}{H Hs:Hp}{v:V}{d:D} (h:RB K H Hs v d) (f:kM d=true):pV v=true:=by
 rcases h with h|⟨a,o,rfl,_,_,h⟩
 ·exact Gj h f
 ·cases h<;>cases f
theorem Co {K:a7}{H:Hp}{vs:List V}:∀ {ds:List D},RDs K H vs ds->ds.all kM=true->vs.all pV=true:=by
 induction vs with
 |nil=>intro ds _ _;rfl
 |cons x r ih =>
  intro ds h f;cases h with
  |cons h t =>
   rw [sV,aJ] at f ⊢;exact ⟨Gj h f.1,ih t f.2⟩
theorem QK {K:a7}{H H2 Hs:Hp}{v u:V}{d e:D} (h:RD K H v d) (h2:RB K H2 Hs u e) (f:kM d=true) (f2:kM e=true):Nh v u=bu d e:=by
 have h2':RD K Hs u e:=by
  rcases h2 with h2|⟨a,o,rfl,_,_,h2⟩
  ·exact h2
  ·cases h2<;>cases f2
 cases h with
 |list _ _=>cases f
 |tuple _ _=>cases f
 |dictK _ _=>cases f
 |dictT _ _ _=>cases f
 |dictF _ _ _=>cases f
 |desk _ _ _ _=>cases f
 |none=>cases h2'<;>first|rfl|cases f2
 |bool b=>cases h2'<;>first|rfl|cases f2
 |int i=>cases h2'<;>first|rfl|cases f2
 |str x=>cases h2'<;>first|rfl|cases f2
theorem EN {K:a7}{H H2 Hs:Hp}{u:V}{e:D} (h2:RB K H2 Hs u e) (f2:kM e=true):∀ {vs:List V}{ds:List D},RDs K H vs ds->ds.all kM=true->TQ u vs=ds.any fun y=>bu y e
 |_,_,.nil,_=>rfl
 |_,_,.cons h t,f=>by
  rw [sV,aJ] at f;have:=EN h2 f2 t f.2;unfold TQ at this ⊢;rw [eS,eS,this,QK h h2 f.1 f2]
theorem Kq  (h:pp X f (Uz X.K neg)):wI X f (DI neg):=by
 refine ⟨fun pins s σ H x y v u Q I rv ru ⟨Hs,dx,dy,sub,rx,ry,d,hd,q⟩=>?_,fun x y c n=>?_⟩
 ·unfold DI at hd;split at hd
  ·split at hd
   ·rename_i hc
    simp only [aJ] at hc;cases hd;obtain ⟨b,ws,rfl,qb,rb⟩:=ry.list sub;refine h pins s σ H _ _ v u Q I rv ru ⟨b,ws,rfl,.inl qb,Cm rx hc.1,Co rb hc.2,?_⟩;rw [EN rx hc.1 rb hc.2];exact q _ H Hs (.refl sub) (.bool _)
   ·cases hd
  ·split at hd
   ·rename_i hc
    simp only [aJ] at hc;cases hd;obtain ⟨b,ws,rfl,qb,rb,_⟩:=ry.tuple sub;refine h pins s σ H _ _ v u Q I rv ru ⟨b,ws,rfl,.inr qb,Cm rx hc.1,Co rb hc.2,?_⟩;rw [EN rx hc.1 rb hc.2];exact q _ H Hs (.refl sub) (.bool _)
   ·cases hd
  ·cases hd
 ·unfold DI;split<;>(try split)<;>exact fun h=>by cases h
theorem Kr:wI X (bC .In) (DI false):=Kq Hu
theorem Cq:wI X (bC .NotIn) (DI true):=Kq AE
end
end
end J
namespace J
open PySem L2
section
section
variable {c:C}{e a b:bc}{g ga gb:ay->R D}{pos:Pos}
def Cr:D->D->R D
 |.list xs,.int i=>match DF xs i with
  |some d=>.ok d
  |none=>.no
 |.tuple xs,.int i=>match DF xs i with
  |some d=>.ok d
  |none=>.no
 |.str x,.int i=>if x.length<=1000 then (match DF x.cps.toList i with
  |some k=>.ok (.str ⟨#[k]⟩)
  |none=>.no) else .no
 |_,_=>.no
theorem Gk    (h:RDs K H vs ds)  (e:DF ds i=some d):∃ v,DF vs i=some v/\RD K H v d:=by
 unfold DF at e ⊢;rw [h.length];cases hx:Qn ds.length i with
 |none=>rw [hx] at e;cases e
 |some j =>
  rw [hx] at e;exact h.get' e
theorem UO:RT X (rD X.K Cr):=by
 intro va sl pins s σ H x y v u Q I rv ru h;obtain ⟨Hs,dx,dy,sub,rx,ry,d,hd,q⟩:=h;unfold Cr at hd;split at hd
 ·split at hd
  ·rename_i d' he
   cases hd;obtain ⟨p,vs,rfl,qa,ra⟩:=rx.list sub;obtain ⟨w,hw,rw'⟩:=Gk ra he;exact wG va sl pins s σ H _ _ v u Q I rv ru ⟨p,vs,_,w,rfl,ry.int,qa,hw,q _ H Hs (.refl sub) rw'⟩
  ·cases hd
 ·split at hd
  ·rename_i d' he
   cases hd;obtain ⟨p,vs,rfl,qa,ra,_⟩:=rx.tuple sub;obtain ⟨w,hw,rw'⟩:=Gk ra he;exact Qo va sl pins s σ H _ _ v u Q I rv ru ⟨p,vs,_,w,rfl,ry.int,qa,hw,q _ H Hs (.refl sub) rw'⟩
  ·cases hd
 ·split at hd
  ·rename_i hz
   split at hd
   ·rename_i k he
    cases hd;exact Qp va sl pins s σ H _ _ v u Q I rv ru ⟨_,_,k,rx.str,ry.int,bi (bU hz),he,q _ H Hs (.refl sub) (.str _)⟩
   ·cases hd
  ·cases hd
 ·cases hd
theorem QL (x y:D) (c:Str) (n:Option D):Cr x y≠.ex c n:=by
 unfold Cr;split<;>(try split)<;>(try split)<;>exact fun h=>by cases h
theorem Sk (ha:JB c a ga) (hb:JB c b gb) (hs:wF b:=by exact fun _ _=>rfl):JE c (.Subscript a b pos) (g2 ga gb Cr):=.of fun ρ=>pH (OT UO (ha ρ) (hb ρ) hs) fun σ H Q q=>two QL q
def xx (ds:List D) (lo hi:Option Int):List D:=(ds.drop (HT.iu ds.length 0 lo)).take (HT.iu ds.length ds.length hi-HT.iu ds.length 0 lo)
theorem Gm    (h:RDs K H vs ds) (lo hi:Option Int):RDs K H (C3 vs lo hi) (xx ds lo hi):=by
 unfold C3 xx;rw [h.length];exact (h.drop _).take _
def EO:D->Option Int->Option Int->R D
 |.list xs,lo,hi=>.ok (.list (xx xs lo hi))
 |.tuple xs,lo,hi=>.ok (.tuple (xx xs lo hi))
 |_,_,_=>.no
inductive P8 (K:a7) (x:V) (lo:Option Int) (hi:Option Int) (H:Hp) (Q:VK):Prop
 |mk (Hs dx:_) (h0:df Hs H) (h1:RB K H Hs x dx) (h2:∃ d,EO dx lo hi=.ok d/\∀ v H' Hs',cz H Hs H' Hs'->RD K Hs' v d->Q v H'):P8 K x lo hi H Q
def UP (K:a7):V->Option Int->Option Int->Hp->VK->Prop:=P8 K
theorem UQ {X:Cx}:RQ X (UP X.K):=by
 intro pins s σ H x v vl vu lo hi sl Q I rx hs pl pu h;obtain ⟨Hs,dx,sub,rb,d,hd,q⟩:=h;unfold EO at hd;split at hd
 ·cases hd;obtain ⟨p,vs,rfl,qa,ra⟩:=rb.list sub;exact Ng pins s σ H _ v vl vu lo hi sl Q I rx hs pl pu ⟨p,vs,rfl,qa,fun l hl=>q _ _ _ (.new sub hl) (.list (.of aB) ((Gm ra lo hi).same (cz.new sub hl).sh))⟩
 ·cases hd;obtain ⟨p,vs,rfl,qa,ra,_⟩:=rb.tuple sub;by_cases hw:HT.iu vs.length 0 lo=0/\HT.iu vs.length vs.length hi=vs.length
  ·refine NC pins s σ H _ v vl vu lo hi sl Q I rx hs pl pu ⟨p,vs,rfl,qa,hw,?_⟩;rcases rb with rb|⟨_,_,_,_,_,ow⟩
   ·refine q _ H Hs (.refl sub) ?_;unfold xx;rw [<- ra.length,hw.1,hw.2,ra.length];simpa using rb
   ·cases ow
  ·exact Qm pins s σ H _ v vl vu lo hi sl Q I rx hs pl pu ⟨p,vs,rfl,qa,hw,fun l hl=>q _ _ _ (.new sub hl) (.tuple aB ((Gm ra lo hi).same (cz.new sub hl).sh))⟩
 ·cases hd
inductive Sm (K:a7) (cls:Str->ac) (E:XK) (ρ:ay) (r:R (Option Int)) (σ:St) (H:Hp) (Q:Option Int->Hp->Prop):Prop
 |mk (H0 Hs0:Hp) (la:Nat->Option ac) (Hs:Hp) (f:Fr K H0 Hs0 la ρ σ H Hs) (q:Fin K cls E H Hs r fun d=>∀ H' Hs',cz H Hs H' Hs'->Q d H'):Sm K cls E ρ r σ H Q
def UR (K:a7) (cls:Str->ac) (E:XK) (ρ:ay) (r:R (Option Int)):TO:=Sm K cls E ρ r
structure JO (c:C) (e:Option bc) (g:ay->R (Option Int)):Prop where of ::
 run:∀ ρ,PO c.X e (UR c.X.K c.cls c.E ρ (g ρ))
instance {c:C}{e:Option bc}{g:ay->R (Option Int)}:CoeFun (JO c e g) (fun _=>∀ ρ,PO c.X e (UR c.X.K c.cls c.E ρ (g ρ))):=⟨JO.run⟩
theorem Vt {X:Cx}{e:Option bc}{t t':TO} (h:PO X e t) (m:∀ σ H Q,t' σ H Q->t σ H Q):PO X e t':=fun pins s σ H Q I q=>h pins s σ H Q I (m σ H Q q)
def rH:ay->R (Option Int):=fun _=>.ok none
def r6 (g:ay->R D):ay->R (Option Int):=fun ρ=>(g ρ).bind fun d=>match d with
 |.int i=>.ok (some i)
 |_=>.no
theorem cD:JO c none rH:=.of fun ρ=>Vt Nb fun σ H Q h_0=>by obtain ⟨H0,Hs0,la,Hs,f,q⟩:=h_0;exact q H Hs (.refl f.st.sub)
theorem cE (h:JE c e g):JO c (some e) (r6 g):=.of fun ρ=>Vt (Nc (h ρ)) fun σ H Q h_1=>by
 obtain ⟨H0,Hs0,la,Hs,f,q⟩:=h_1;refine xv f q fun d v H1 Hs1 e1 s1 f1 r1=>?_;unfold r6 at q;rw [e1,bind_ok] at q;cases r1 with
 |int i=>exact ⟨i,rfl,q H1 Hs1 s1⟩
 |_=>exact q.elim
theorem Sn {K:a7}{cls:Str->ac}{E:XK}{ρ:ay}{r:R (Option Int)}{β:Type}{k:Option Int->R β}{σ:St}{H:Hp}{H0 Hs0 Hs:Hp}{la:Nat->Option ac}{Q:Option Int->Hp->Prop}{q:β->Prop} (f:Fr K H0 Hs0 la ρ σ H Hs)
  (h:Fin K cls E H Hs (r.bind k) q) (m:∀ d H' Hs',r=.ok d->cz H Hs H' Hs'->Fr K H0 Hs0 la ρ σ H' Hs'->Q d H'):UR K cls E ρ r σ H Q:=by
 refine ⟨H0,Hs0,la,Hs,f,?_⟩;cases r with
 |ok d=>exact fun H' Hs' s=>m d H' Hs' rfl s (f.step s)
 |ex c n=>exact h
 |no=>exact h
def r9 (g:ay->R D) (gl gh:ay->R (Option Int)):ay->R D:=fun ρ=>(g ρ).bind fun x=>(gl ρ).bind fun l=>(gh ρ).bind fun h=>EO x l h
theorem bV {lo hi:Option bc}{gl gh:ay->R (Option Int)}{p2:Pos} (he:JB c e g) (hl:JO c lo gl) (hh:JO c hi gh):JE c (.Subscript e (.Slice lo hi none p2) pos) (r9 g gl gh):=.of fun ρ=>pH (Ju UQ (he ρ) (hl ρ) (hh ρ)) fun σ H Q h_2=>by
 obtain ⟨H0,Hs0,la,Hs,f,q⟩:=h_2;refine one f q fun d v H1 Hs1 e1 s1 f1 r1=>?_;unfold r9 at q;rw [e1,bind_ok] at q;refine Sn f1 (q.on s1 (q':=fun _=>True) fun _ _=>trivial) fun l H2 Hs2 e2 s2 f2=>?_;rw [e2,bind_ok] at q;refine Sn f2 (q.on (s1.trans s2) (q':=fun _=>True) fun _ _=>trivial) fun h H3 Hs3 e3 s3 f3=>?_;rw [e3,bind_ok] at q;cases hr:EO d l h with
 |ok z=>rw [hr] at q;exact ⟨Hs3,d,f3.st.sub,(r1.step s2).step s3,z,hr,fun w H4 Hs4 s4 r4=>q w H4 Hs4 (s1.trans (s2.trans (s3.trans s4))) r4⟩
 |ex c n=>unfold EO at hr;split at hr<;>cases hr
 |no=>rw [hr] at q;exact q.elim
inductive Vu (K:a7) (h:List D->R D) (xs:List V) (H:Hp) (Q:VK):Prop
 |mk (Hs ds:_) (h0:df Hs H) (h1:P5 K H Hs xs ds) (h2:∃ d,h ds=.ok d/\∀ v H' Hs',cz H Hs H' Hs'->RD K Hs' v d->Q v H'):Vu K h xs H Q
def rC (K:a7) (h:List D->R D):List V->Hp->VK->Prop:=Vu K h
def IQ (X:Cx) (f:a9) (h:List D->R D):Prop:=ji X f (rC X.K h)/\∀ x c n,h x≠.ex c n
def cA (gs:ay->R (List D)) (h:List D->R D):ay->R D:=fun ρ=>(gs ρ).bind h
theorem P9 {K:a7}{cls:Str->ac}{E:XK}{h:List D->R D}{gs:ay->R (List D)}{ρ:ay}{σ:St}{H:Hp}{Q:VK} (hx:∀ x c n,h x≠.ex c n) (q:TR K cls E ρ (cA gs h ρ) σ H Q):RO (rC K h) (U1 K cls E ρ (gs ρ)) σ H Q:=by
 obtain ⟨H0,Hs0,la,Hs,f,q⟩:=q;refine Ki f q fun ds vs H1 Hs1 e1 s1 f1 r1=>?_;unfold cA at q;rw [e1,bind_ok] at q;cases hr:h ds with
 |ok d =>
  rw [hr] at q;exact ⟨Hs1,ds,f1.st.sub,r1,d,hr,fun w H3 Hs3 s3 r3=>q w H3 Hs3 (s1.trans s3) r3⟩
 |ex c n=>exact (hx ds c n hr).elim
 |no=>rw [hr] at q;exact q.elim
variable {es:List bc}{gs:ay->R (List D)}{x:Str}{p:Pos}{id T:String}{h:List D->R D}
theorem cp (hc:IQ c.X (.builtin id) h) (hg:Gl c.X x) (hm:c.X.mg x=none) (hv:gU x=some (.builtin id)) (ha:P6 c (e::es) gs) (hn:x≠"__name__":=by decide) (hdb:(x==("__debug__" : Str))=false:=by decide)
  (he:am (e::es) c.X.env=(false,bY e c.X.env)::am es c.X.env:=by rfl) (hpl:(da pos (am es c.X.env)).any (·.1)=false:=by rfl):JE c (.Call (.Name x p) (e::es) [] pos) (cA gs h):=.of fun ρ=>pH (nu hc.1 hg hm hv (ha ρ) hn hdb he hpl) fun σ H Q q=>P9 hc.2 q
theorem eB (hc:IQ c.X (.type T) h) (hg:Gl c.X x) (hm:c.X.mg x=none) (hv:gU x=some (.type T)) (ha:P6 c (e::es) gs) (hn:x≠"__name__":=by decide) (hdb:(x==("__debug__" : Str))=false:=by decide)
  (he:am (e::es) c.X.env=(false,bY e c.X.env)::am es c.X.env:=by rfl) (hpl:(da pos (am es c.X.env)).any (·.1)=false:=by rfl):JE c (.Call (.Name x p) (e::es) [] pos) (cA gs h):=.of fun ρ=>pH (zJ hc.1 hg hm hv (ha ρ) hn hdb he hpl) fun σ H Q q=>P9 hc.2 q
end
end
section
section
theorem P5.one    (h:P5 K H Hs xs [d]):∃ x,xs=[x]/\RB K H Hs x d:=by
 cases h with|cons a t=>cases t;exact ⟨_,rfl,a⟩
def jo (h:D->R D):List D->R D
 |[d]=>h d
 |_=>.no
theorem rJ  (hx:∀ d c n,h d≠.ex c n)
  (hr:∀ pins s σ H x u Q Hs d d',bv X pins σ H s->cU x u->df Hs H->RB X.K H Hs x d->h d=.ok d'->(∀ v H' Hs',cz H Hs H' Hs'->RD X.K Hs' v d'->Q v H')->aq (aD X.prog X.w) X.A (call f [u]) (EP X pins σ Q) X.xe s):IQ X f (jo h):=by
 refine ⟨fun pins s σ H xs us Q I r ⟨Hs,ds,sub,rb,d,hd,q⟩=>?_,fun x c n=>?_⟩
 ·unfold jo at hd;split at hd
  ·obtain ⟨x,rfl,rx⟩:=rb.one;obtain ⟨u,rfl,ru⟩:=lm r;exact hr pins s σ H x u Q Hs _ _ I ru sub rx hd q
  ·cases hd
 ·unfold jo;split
  ·exact hx _ _ _
  ·exact fun h=>by cases h
def lv:D->R D
 |.list xs=>.ok (.int xs.length)
 |.tuple xs=>.ok (.int xs.length)
 |.str x=>if x.length<=1000 then .ok (.int x.length) else .no
 |_=>.no
theorem RDk.length   : ∀ {ds:List (D×D)},RDk K H vs ds->vs.length=ds.length:=by
 induction vs with
 |nil=>intro ds h;cases h;rfl
 |cons x r ih=>intro ds h;cases h with|cons a b=>exact congrArg (· + 1) (ih b)
theorem RB.dict    (sub:df Hs H) (h:RB K H Hs v (.dict ds)) (nd:T_ ds=false):∃ a,v=.ref a/\((∃ kvs,H a=some (.dK kvs)/\RDk K Hs kvs ds)\/(∃ kvs,H a=some (.dT kvs)/\kvs≠[]/\RDt K Hs kvs ds)\/∃ o kvs es,ds=(.none,.none)::es/\H a=some (.frz o (.dT kvs))/\kvs≠[]/\RDt K Hs kvs es):=by
 rcases h with h|⟨a,o,rfl,h2,h3,h4⟩
 ·cases h with
  |dictK q r=>exact ⟨_,rfl,.inl ⟨_,sub _ _ q,r⟩⟩
  |dictT q n r=>exact ⟨_,rfl,.inr (.inl ⟨_,sub _ _ q,n,r⟩)⟩
  |dictF q n r=>exact ⟨_,rfl,.inr (.inr ⟨_,_,_,rfl,sub _ _ q,n,r⟩)⟩
  |desk _ _ _ _=>cases nd
 ·cases h4 with
  |dK r=>exact ⟨a,rfl,.inl ⟨_,h2,r⟩⟩
  |dT n r=>exact ⟨a,rfl,.inr (.inl ⟨_,h2,n,r⟩)⟩
  |dF n r=>exact ⟨a,rfl,.inr (.inr ⟨_,_,_,rfl,h2,n,r⟩)⟩
theorem iA:IQ X (.builtin "len") (jo lv):=by
 refine rJ (fun d c n=>?_) fun pins s σ H x u Q Hs d d' I ru sub rx hd q=>?_
 ·unfold lv;split<;>(try split)<;>exact fun h=>by cases h
 ·unfold lv at hd;split at hd
  ·cases hd;obtain ⟨a,vs,rfl,qa,ra⟩:=rx.list sub;refine t5 pins s σ H _ _ Q I (.cons ru .nil) ⟨a,vs,rfl,.inl qa,?_⟩;rw [ra.length];exact q _ H Hs (.refl sub) (.int _)
  ·cases hd;obtain ⟨a,vs,rfl,qa,ra,_⟩:=rx.tuple sub;refine t5 pins s σ H _ _ Q I (.cons ru .nil) ⟨a,vs,rfl,.inr qa,?_⟩;rw [ra.length];exact q _ H Hs (.refl sub) (.int _)
  ·split at hd
   ·rename_i hz
    cases hd;exact AF pins s σ H _ _ Q I (.cons ru .nil) ⟨_,by rw [rx.str],bi (bU hz),q _ H Hs (.refl sub) (.int _)⟩
   ·cases hd
  ·cases hd
def wf (T:String) (d:D):Bool:=match T,d with
 | "str",.str _=>true
 | "int",.int _=>true
 | "int",.bool _=>true
 | "bool",.bool _=>true
 | "list",.list _=>true
 | "tuple",.tuple _=>true
 |_,_=>false
def rK (g:ay->R D) (T:String):ay->R D:=fun ρ=>(g ρ).bind fun d=>if mR d then .ok (.bool (wf T d)) else .no
theorem NK  (T:String) (hT:T="str"\/T="int"\/T="bool"\/T="list"\/T="tuple") (h:mR d=true):de K (.type (UL d)) (.type T)=some (wf T d):=by
 rcases hT with rfl|rfl|rfl|rfl|rfl<;>cases d<;>first|rfl|simp [mR] at h
theorem mS      (h:JB c e g) (hgi:Gl c.X "isinstance") (hi:c.X.mg "isinstance"=none) (hgT:Gl c.X T) (hT:c.X.mg T=none) (hv:gU T=some (.type Ts))
  (hTs:Ts="str"\/Ts="int"\/Ts="bool"\/Ts="list"\/Ts="tuple")
  (hn:T≠"__name__":=by decide) (hdb:(T==("__debug__" : Str))=false:=by decide)
  (he:am [e,.Name T p2] c.X.env=(false,bY e c.X.env)::am [.Name T p2] c.X.env:=by rfl) (hpl:(da pos (am [.Name T p2] c.X.env)).any (·.1)=false:=by rfl) :
  JE c (.Call (.Name "isinstance" p) [e,.Name T p2] [] pos) (rK g Ts):=.of fun ρ=>by
 refine pH (nu Kc hgi hi jB (bO (h ρ) (bO (FZ hgT hT hv (v:=.ty Ts) rfl hn hdb) dG) he) (by decide) (by decide) he hpl) fun σ H Q h_0=>?_;obtain ⟨H0,Hs0,la,Hs,f,q⟩:=h_0;refine one f q fun d v H1 Hs1 e1 s1 f1 r1=>?_;unfold rK at q;rw [e1,bind_ok] at q;by_cases hd:mR d=true
 ·rw [if_pos hd] at q;exact ⟨v,d,Ts,_,rfl,(r1.full f1.st.sub).rep hd,NK Ts hTs hd,q _ H1 Hs1 s1 (.bool _)⟩
 ·rw [if_neg hd] at q;exact q.elim
def mf:List D->Option (List Bool)
 |[]=>some []
 |.bool b::r=>(mf r).map (b::·)
 |_::_=>none
theorem A_:∀ {bs:List Bool},mf ds=some bs->ds=bs.map cO:=by
 induction ds with
 |nil=>intro bs h;cases h;rfl
 |cons d r ih =>
  intro bs h;cases d with
  |bool b =>
   have h:(mf r).map (b::·)=some bs:=h;cases hr:mf r with
   |none=>rw [hr] at h;cases h
   |some z=>rw [hr] at h;cases h;rw [ih hr];rfl
  |_=>cases h
def hJ (k:List Bool->Bool):D->R D
 |.list ds=>match mf ds with
  |some bs=>.ok (.bool (k bs))
  |none=>.no
 |_=>.no
theorem Ct {id:String}{k:List Bool->Bool} (h:ji X (.builtin id) (fun xs H Q=>∃ p,∃ bs:List Bool,xs=[.ref p]/\nY X.K H p (bs.map V.bl)/\Q (.bl (k bs)) H)):IQ X (.builtin id) (jo (hJ k)):=by
 refine rJ (fun d c n=>?_) fun pins s σ H x u Q Hs d d' I ru sub rx hd q=>?_
 ·unfold hJ;split<;>(try split)<;>exact fun h=>by cases h
 ·unfold hJ at hd;split at hd
  ·split at hd
   ·rename_i bs hb
    cases hd;obtain ⟨a,vs,rfl,qa,ra⟩:=rx.list sub;rw [A_ hb] at ra;rw [yQ ra] at qa;exact h pins s σ H _ _ Q I (.cons ru .nil) ⟨a,bs,rfl,qa,q _ H Hs (.refl sub) (.bool _)⟩
   ·cases hd
  ·cases hd
theorem rL (hc:X.calm=true):IQ X (.builtin "all") (jo (hJ fun bs=>bs.all id)):=Ct (xk hc)
theorem QM (hc:X.calm=true):IQ X (.builtin "any") (jo (hJ fun bs=>bs.any id)):=Ct (xl hc)
def mT (x:Str):List D:=x.cps.toList.map fun c=>aX ⟨#[c]⟩
theorem HP  (x:Str):RDs K H (xt x) (mT x):=by
 unfold xt mT;induction x.cps.toList with
 |nil=>exact .nil
 |cons a r ih=>exact .cons (.str _) ih
def hU:D->R D
 |.list xs=>.ok (.tuple xs)
 |.tuple xs=>.ok (.tuple xs)
 |.str x=>if x.cps.size<=1000 then .ok (.tuple (mT x)) else .no
 |_=>.no
theorem jp (hc:X.calm=true):IQ X (.type "tuple") (jo hU):=by
 refine rJ (fun d c n=>?_) fun pins s σ H x u Q Hs d d' I ru sub rx hd q=>?_
 ·unfold hU;split<;>(try split)<;>exact fun h=>by cases h
 ·unfold hU at hd;split at hd
  ·cases hd;obtain ⟨a,vs,rfl,qa,ra⟩:=rx.list sub;exact r0 pins s σ H _ _ Q I (.cons ru .nil) ⟨a,vs,rfl,.inl ⟨qa,fun l hl=>q _ _ _ (.new sub hl) (.tuple aB (ra.same (cz.new sub hl).sh))⟩⟩
  ·cases hd;obtain ⟨a,vs,rfl,qa,ra,_⟩:=rx.tuple sub;refine r0 pins s σ H _ _ Q I (.cons ru .nil) ⟨a,vs,rfl,.inr ⟨qa,?_⟩⟩;rcases rx with rx|⟨_,_,_,_,_,ow⟩
   ·exact q _ H Hs (.refl sub) rx
   ·cases ow
  ·split at hd
   ·rename_i hz
    cases hd;exact wc hc pins s σ H _ _ Q I (.cons ru .nil) ⟨_,by rw [rx.str],bi (bU hz),fun l hl=>q _ _ _ (.new sub hl) (.tuple aB (HP _))⟩
   ·cases hd
  ·cases hd
def zW:D->R D
 |.list xs=>.ok (.list xs)
 |.tuple xs=>.ok (.list xs)
 |_=>.no
theorem NL:IQ X (.type "list") (jo zW):=by
 refine rJ (fun d c n=>?_) fun pins s σ H x u Q Hs d d' I ru sub rx hd q=>?_
 ·unfold zW;split<;>exact fun h=>by cases h
 ·unfold zW at hd;split at hd
  ·cases hd;obtain ⟨a,vs,rfl,qa,ra⟩:=rx.list sub;exact t6 pins s σ H _ _ Q I (.cons ru .nil) ⟨a,vs,rfl,.inl qa,fun l hl=>q _ _ _ (.new sub hl) (.list (.of aB) (ra.same (cz.new sub hl).sh))⟩
  ·cases hd;obtain ⟨a,vs,rfl,qa,ra,_⟩:=rx.tuple sub;exact t6 pins s σ H _ _ Q I (.cons ru .nil) ⟨a,vs,rfl,.inr qa,fun l hl=>q _ _ _ (.new sub hl) (.list (.of aB) (ra.same (cz.new sub hl).sh))⟩
  ·cases hd
def fH:List D->Option (List Str)
 |[]=>some []
 |.str b::r=>(fH r).map (b::·)
 |_::_=>none
theorem p_:∀ {bs:List Str},fH ds=some bs->ds=bs.map aX:=by
 induction ds with
 |nil=>intro bs h;cases h;rfl
 |cons d r ih =>
  intro bs h;cases d with
  |str b =>
   have h:(fH r).map (b::·)=some bs:=h;cases hr:fH r with
   |none=>rw [hr] at h;cases h
   |some z=>rw [hr] at h;cases h;rw [ih hr];rfl
  |_=>cases h
@[simp] theorem strsOf_map:∀ bs:List Str,fH (bs.map aX)=some bs
 |[]=>rfl
 |b::r=>by show (fH (r.map aX)).map (b::·)=_;rw [strsOf_map r];rfl
def qF:D->R D
 |.list ds=>match fH ds with
  |some ss=>if ss.length<64 then .ok (.list ((jC ss).map .str)) else .no
  |none=>.no
 |_=>.no
theorem HQ:IQ X (.builtin "sorted") (jo qF):=by
 refine rJ (fun d c n=>?_) fun pins s σ H x u Q Hs d d' I ru sub rx hd q=>?_
 ·unfold qF;split<;>(try split)<;>(try split)<;>exact fun h=>by cases h
 ·unfold qF at hd;split at hd
  ·split at hd
   ·split at hd
    ·rename_i ss hs hz
     cases hd;obtain ⟨a,vs,rfl,qa,ra⟩:=rx.list sub;rw [p_ hs] at ra;rw [oh ra] at qa;exact uM pins s σ H _ _ Q I (.cons ru .nil) ⟨a,ss,rfl,qa,hz,fun l hl=>q _ _ _ (.new sub hl) (.list (.of aB) (xu _))⟩
    ·cases hd
   ·cases hd
  ·cases hd
end
end
section
inductive So (K:a7) (cls:Str->ac) (n:Nat) (F:List D->R D) (vs:List V) (H:Hp) (Q:VK) (E:XK):Prop
 |mk (Hs ds:_) (h0:df Hs H) (h1:ds.length=n) (h2:RDs K Hs vs ds) (h3:Fin K cls E H Hs (F ds) fun d=>∀ v H' Hs',cz H Hs H' Hs'->RD K Hs' v d->Q v H'):So K cls n F vs H Q E
def Mv (K:a7) (cls:Str->ac) (n:Nat) (F:List D->R D):Sp:=So K cls n F
structure Fn (P:aR) (w:bh) (K:a7) (mg:Str->Option a9) (base:br) (cls:Str->ac) (x:Str) (k n:Nat) (F:List D->R D):Prop where
 ex:∃ f fd ps,l_ P w K mg base (kR P w) k f fd ps (Mv K cls n F)/\mg x=some (.ref f)/\bQ K (.ref f)=true/\fo K fd ps []
section
def eK (n:Nat) (F:List D->R D) (gs:ay->R (List D)):ay->R D:=fun ρ=>(gs ρ).bind fun ds=>if ds.length=n then F ds else .no
theorem NM  (G:Fn c.X.prog c.X.w c.X.K c.X.mg c.X.base c.cls x k n F) (hr:fX k c.X.A) (hg:Gl c.X x) (hx:g_ (kR c.X.prog c.X.w) c.X c.E) (ha:DG c (e::es) gs)
  (hdb:(x==("__debug__" : Str))=false:=by decide) (he:am (e::es) c.X.env=(false,bY e c.X.env)::am es c.X.env:=by rfl) (hpl:(da pos (am es c.X.env)).any (·.1)=false:=by rfl) :
  JE c (.Call (.Name x p) (e::es) [] pos) (eK n F gs):=.of fun ρ=>by
 obtain ⟨f,fd,ps,hf,hm,hk,hb⟩:=G.ex;refine pH (N6 (E:=c.E) hf hr hg hm hk hb .nil hx (ha ρ) hdb he hpl) fun σ H Q h_0=>?_;obtain ⟨H0,Hs0,la,Hs,fr,q⟩:=h_0;refine yR fr q fun ds vs H1 Hs1 e1 s1 f1 r1=>?_;unfold eK at q;rw [e1,bind_ok] at q;by_cases hn:ds.length=n
 ·rw [if_pos hn] at q;show Mv _ _ _ _ (vs++[]) _ _ _;rw [cj];exact ⟨Hs1,ds,f1.st.sub,hn,r1,q.on s1 fun d k v H2 Hs2 s2 r2=>k v H2 Hs2 (s1.trans s2) r2⟩
 ·rw [if_neg hn] at q;exact q.elim
end
inductive Fl where
 |nx (ρ:ay)
 |rt (d:D)
 |bk (ρ:ay)
 |ct (ρ:ay)
def nD (K:a7) (cls:Str->ac) (E:XK) (H0 Hs0:Hp) (la:Nat->Option ac) (D:wZ) (r:R Fl):Prop:=match r with
 |.ok (.nx ρ')=>∀ σ' H' Hs',Fr K H0 Hs0 la ρ' σ' H' Hs'->D.nx σ' H'
 |.ok (.bk ρ')=>∀ σ' H' Hs',Fr K H0 Hs0 la ρ' σ' H' Hs'->D.bk σ' H'
 |.ok (.ct ρ')=>∀ σ' H' Hs',Fr K H0 Hs0 la ρ' σ' H' Hs'->D.ct σ' H'
 |.ok (.rt d)=>∀ v H' Hs',cz H0 Hs0 H' Hs'->RD K Hs' v d->D.rt v H'
 |.ex c n=>∀ H' Hs',cz H0 Hs0 H' Hs'->XW K cls E c n H' Hs'
 |.no=>False
inductive Vv (K:a7) (cls:Str->ac) (E:XK) (ρ:ay) (r:R Fl) (D:wZ) (σ:St) (H:Hp):Prop
 |mk (H0 Hs0:Hp) (la:Nat->Option ac) (Hs:Hp) (f:Fr K H0 Hs0 la ρ σ H Hs) (q:nD K cls E H0 Hs0 la D r):Vv K cls E ρ r D σ H
def SR (K:a7) (cls:Str->ac) (E:XK) (ρ:ay) (r:R Fl):TS:=Vv K cls E ρ r
structure JS (c:C) (s:c8) (g:ay->R Fl):Prop where of ::
 run:∀ ρ,PS c.X s (SR c.X.K c.cls c.E ρ (g ρ))
instance {c:C}{s:c8}{g:ay->R Fl}:CoeFun (JS c s g) (fun _=>∀ ρ,PS c.X s (SR c.X.K c.cls c.E ρ (g ρ))):=⟨JS.run⟩
structure EQ (c:C) (s:List c8) (g:ay->R Fl):Prop where of ::
 run:∀ ρ,Ax c.X s (SR c.X.K c.cls c.E ρ (g ρ))
instance {c:C}{s:List c8}{g:ay->R Fl}:CoeFun (EQ c s g) (fun _=>∀ ρ,Ax c.X s (SR c.X.K c.cls c.E ρ (g ρ))):=⟨EQ.run⟩
theorem Fr.set     (f:Fr K H0 Hs0 la ρ σ H Hs) (i:Nat)  (r:RD K Hs v d):Fr K H0 Hs0 la (ρ.set i (.shr d)) (σ.set i (some v)) H Hs:=by
 have hl:=f.len;have nx:∀ {j:Nat}{s:Sl},(∀ d,s≠.shr d)->(ρ.set i (.shr d))[j]?=some s->ρ[j]?=some s/\i≠j:=fun {j s} hs e=>by
  by_cases hj:i=j
  ·subst hj;by_cases hi:i<ρ.length
   ·rw [aL hi] at e;exact absurd (bJ e).symm (hs d)
   ·rw [cg (by simpa using hi)] at e;cases e
  ·rw [aj hj] at e;exact ⟨e,hj⟩
 refine ⟨f.st,by simp [hl],fun j e h=>?_,fun j e h=>?_,fun j e h=>?_,fun j k d1 d2 a h1 h2 h3 h4=>?_,f.lh,fun j e h=>?_,fun j k d1 d2 h1 h2=>?_⟩
 ·by_cases hj:i=j
  ·subst hj;by_cases hi:i<ρ.length
   ·rw [aL hi] at h;cases h;exact ⟨v,aL (by omega),r⟩
   ·rw [cg (by simpa using hi)] at h;cases h
  ·rw [aj hj] at h ⊢;exact f.sh j e h
 ·obtain ⟨h,hj⟩:=nx (fun _ z=>by cases z) h;rw [aj hj];exact f.ow j e h
 ·obtain ⟨h,hj⟩:=nx (fun _ z=>by cases z) h;rw [aj hj];exact f.lk j e h
 ·obtain ⟨h1,n1⟩:=nx (fun _ z=>by cases z) h1;obtain ⟨h2,n2⟩:=nx (fun _ z=>by cases z) h2;rw [aj n1] at h3;rw [aj n2] at h4;exact f.dj j k d1 d2 a h1 h2 h3 h4
 ·obtain ⟨h,hj⟩:=nx (fun _ z=>by cases z) h;obtain ⟨a,as,O⟩:=f.o2 j e h;refine ⟨a,as,by rw [aj hj];exact O.at_,O.ob,O.nd,O.out,fun b hb k e' hk=>?_,O.inn⟩;obtain ⟨hk,nk⟩:=nx (fun _ z=>by cases z) hk;rw [aj nk];exact O.dj b hb k e' hk
 ·exact f.u2 j k d1 d2 (nx (fun _ z=>by cases z) h1).1 (nx (fun _ z=>by cases z) h2).1
theorem Fr.setO     (f:Fr K H0 Hs0 la ρ σ H Hs) (i:Nat)   (n:H a=none) (r:oj K Hs o d):Fr K H0 Hs0 la (ρ.set i (.own d)) (σ.set i (some (.ref a))) (upd H a o) Hs:=by
 have f':=f.step (cz.mine (o:=o) f.st.sub n);have hl:=f.len;have n0:H0 a=none:=f.st.all.free n;have ns:Hs a=none:=f.st.sub.free n;have nx:∀ {j:Nat}{s:Sl},(∀ d,s≠.own d)->(ρ.set i (.own d))[j]?=some s->ρ[j]?=some s/\i≠j:=fun {j s} hs e=>by
  by_cases hj:i=j
  ·subst hj;by_cases hi:i<ρ.length
   ·rw [aL hi] at e;exact absurd (bJ e).symm (hs d)
   ·rw [cg (by simpa using hi)] at e;cases e
  ·rw [aj hj] at e;exact ⟨e,hj⟩
 have ne:∀ j e,ρ[j]?=some (Sl.own e)->σ[j]?≠some (some (V.ref a)):=fun j e h z=>by
  obtain ⟨b,o',h1,h2,_⟩:=f.ow j e h;rw [z] at h1;cases h1;rw [n] at h2;cases h2
 refine ⟨f'.st,by simp [hl],fun j e h=>?_,fun j e h=>?_,fun j e h=>?_,fun j k d1 d2 b h1 h2 h3 h4=>?_,f.lh,fun j e h=>?_,fun j k d1 d2 h1 h2=>?_⟩
 ·obtain ⟨h,hj⟩:=nx (fun _ z=>by cases z) h;rw [aj hj];exact f'.sh j e h
 ·by_cases hj:i=j
  ·subst hj;by_cases hi:i<ρ.length
   ·rw [aL hi] at h;cases h;exact ⟨a,o,aL (by omega),aB,ns,n0,r⟩
   ·rw [cg (by simpa using hi)] at h;cases h
  ·rw [aj hj] at h ⊢;exact f'.ow j e h
 ·obtain ⟨h,hj⟩:=nx (fun _ z=>by cases z) h;rw [aj hj];exact f'.lk j e h
 ·by_cases hj:i=j
  ·by_cases hk:i=k
   ·exact hj.symm.trans hk
   ·rw [aj hk] at h2 h4;subst hj;by_cases hi:i<ρ.length
    ·rw [aL (by omega)] at h3;cases h3;exact (ne k d2 h2 h4).elim
    ·rw [cg (by simpa using hi)] at h1;cases h1
  ·rw [aj hj] at h1 h3;by_cases hk:i=k
   ·subst hk;by_cases hi:i<ρ.length
    ·rw [aL (by omega)] at h4;cases h4;exact (ne j d1 h1 h3).elim
    ·rw [cg (by simpa using hi)] at h2;cases h2
   ·rw [aj hk] at h2 h4;exact f.dj j k d1 d2 b h1 h2 h3 h4
 ·obtain ⟨h,hj⟩:=nx (fun _ z=>by cases z) h;obtain ⟨b,as,O⟩:=f.o2 j e h;have nb:∀ c∈b::as,c≠a:=fun c hc z=>by
   subst z;rcases List.mem_cons.mp hc with z|z
   ·have:=O.ob;rw [<- z,n] at this;cases this
   ·obtain ⟨o,ho,_⟩:=O.inn.there z;rw [n] at ho;cases ho
  refine ⟨b,as,by rw [aj hj];exact O.at_,by rw [av (nb b ao)];exact O.ob,O.nd,O.out,fun c hc k e' hk=>?_,O.inn.upd fun z=>nb a (ar _ z) rfl⟩;by_cases nk:i=k
  ·subst nk;intro z;by_cases hi:i<ρ.length
   ·rw [aL (by omega)] at z;cases z;exact nb _ hc rfl
   ·rw [cg (by simp;omega)] at hk;cases hk
  ·rw [aj nk] at hk ⊢;exact O.dj c hc k e' hk
 ·exact f.u2 j k d1 d2 (nx (fun _ z=>by cases z) h1).1 (nx (fun _ z=>by cases z) h2).1
theorem Fr.write     (f:Fr K H0 Hs0 la ρ σ H Hs) (i:Nat)   (hi:ρ[i]?=some (Sl.own d)) (hs:σ[i]?=some (some (V.ref a))) (r:oj K Hs o d'):Fr K H0 Hs0 la (ρ.set i (.own d')) σ (upd H a o) Hs:=by
 obtain ⟨a',o',h1,h2,h3,h4,h5⟩:=f.ow i d hi;rw [hs] at h1;cases h1;have hl:=f.len;have hil:i<ρ.length:=(List.getElem?_eq_some_iff.mp hi).1;have nx:∀ {j:Nat}{s:Sl},(∀ d,s≠.own d)->(ρ.set i (.own d'))[j]?=some s->ρ[j]?=some s/\i≠j:=fun {j s} hs e=>by
  by_cases hj:i=j
  ·subst hj;rw [aL hil] at e;exact absurd (bJ e).symm (hs d')
  ·rw [aj hj] at e;exact ⟨e,hj⟩
 refine ⟨⟨fun b u e=>?_,f.st.sh,fun b u e=>?_,f.st.out⟩,by simp [hl],fun j e h=>?_,fun j e h=>?_,fun j e h=>?_,fun j k d1 d2 b h1 h2 h3 h4=>?_,f.lh,fun j e h=>?_,fun j k d1 d2 h1 h2=>?_⟩
 ·rw [av (aE e h4)];exact f.st.all b u e
 ·rw [av (aE e h3)];exact f.st.sub b u e
 ·obtain ⟨h,hj⟩:=nx (fun _ z=>by cases z) h;exact f.sh j e h
 ·by_cases hj:i=j
  ·subst hj;rw [aL hil] at h;cases h;exact ⟨a,o,hs,aB,h3,h4,r⟩
  ·rw [aj hj] at h;obtain ⟨b,u,k1,k2,k3,k4,k5⟩:=f.ow j e h;refine ⟨b,u,k1,?_,k3,k4,k5⟩;rw [av (fun z=>hj ?_)]
   ·exact k2
   ·subst z;exact f.dj i j d e b hi h hs k1
 ·obtain ⟨h,hj⟩:=nx (fun _ z=>by cases z) h;obtain ⟨b,u,k1,k2,k3,k4,k5,k6⟩:=f.lk j e h;refine ⟨b,u,k1,k2,?_,k4,k5,k6⟩;rw [av (aE k5 h4)];exact k3
 ·have own:∀ {j:Nat}{e:D},(ρ.set i (.own d'))[j]?=some (Sl.own e)->∃ e',ρ[j]?=some (Sl.own e'):=fun {j e} h=>by
   by_cases hj:i=j
   ·subst hj;exact ⟨d,hi⟩
   ·rw [aj hj] at h;exact ⟨e,h⟩
  obtain ⟨e1,h1⟩:=own h1;obtain ⟨e2,h2⟩:=own h2;exact f.dj j k e1 e2 b h1 h2 h3 h4
 ·obtain ⟨h,hj⟩:=nx (fun _ z=>by cases z) h;obtain ⟨b,as,O⟩:=f.o2 j e h;have nb:∀ c∈b::as,c≠a:=fun c hc z=>by
   subst z;exact O.dj c hc i d hi hs
  refine ⟨b,as,O.at_,by rw [av (nb b ao)];exact O.ob,O.nd,O.out,fun c hc k e' hk=>?_,O.inn.upd fun z=>nb a (ar _ z) rfl⟩;by_cases nk:i=k
  ·subst nk;exact O.dj c hc i d hi
  ·rw [aj nk] at hk;exact O.dj c hc k e' hk
 ·exact f.u2 j k d1 d2 (nx (fun _ z=>by cases z) h1).1 (nx (fun _ z=>by cases z) h2).1
def ej (ρ:ay):ay:=ρ.map fun s=>match s with
 |.own d=>.shr d
 |.ow2 dss=>.shr (.list (dss.map .list))
 |s=>s
open Classical in
theorem Fr.share     (f:Fr K H0 Hs0 la ρ σ H Hs):∃ Hs',Fr K H0 Hs0 la (ej ρ) σ H Hs'/\cz H Hs H Hs'\/Fr K H0 Hs0 la (ej ρ) σ H Hs':=by
 let P:ac->Prop:=fun b=>(∃ (i:Nat) (d:D),ρ[i]?=some (Sl.own d)/\σ[i]?=some (some (V.ref b)))\/∃ (i:Nat) (dss:List (List D)) (a:ac) (as:List ac),ρ[i]?=some (Sl.ow2 dss)/\O2 K H0 H Hs ρ σ i dss a as/\b∈a::as
 let Hs':Hp:=fun b=>if P b then H b else Hs b
 have pos:∀ b,P b->Hs' b=H b:=fun b h=>if_pos h;have neg:∀ b,¬ P b->Hs' b=Hs b:=fun b h=>if_neg h;have up:df Hs Hs':=fun b o e=>by
  by_cases h:P b
  ·rw [pos b h];exact f.st.sub b o e
  ·rw [neg b h];exact e
 have none0:∀ b o,H0 b=some o->¬ P b:=fun b o e hP=>by
  rcases hP with ⟨i,d,h1,h2⟩|⟨i,dss,a,as,h1,O,hb⟩
  ·obtain ⟨a,o',k1,_,_,k4,_⟩:=f.ow i d h1;rw [h2] at k1;cases k1;rw [e] at k4;cases k4
  ·have:=(O.out b hb).2;rw [e] at this;cases this
 have un:∀ {j:Nat}{s:Sl},(ej ρ)[j]?=some s->(∃ d,s=.shr d/\ρ[j]?=some (Sl.own d))\/(∃ dss:List (List D),s=.shr (.list (dss.map .list))/\ρ[j]?=some (Sl.ow2 dss))\/((∀ d,s≠.own d)/\(∀ d,s≠.ow2 d)/\ρ[j]?=some s):=fun {j s} e=>by
  unfold ej at e;rw [aK] at e;cases h:ρ[j]? with
  |none=>rw [h] at e;cases e
  |some t =>
   rw [h] at e;cases t with
   |own d=>cases e;exact .inl ⟨d,rfl,rfl⟩
   |no=>cases e;exact .inr (.inr ⟨fun _ z=>(by cases z),fun _ z=>(by cases z),rfl⟩)
   |shr d=>cases e;exact .inr (.inr ⟨fun _ z=>(by cases z),fun _ z=>(by cases z),rfl⟩)
   |lck d=>cases e;exact .inr (.inr ⟨fun _ z=>(by cases z),fun _ z=>(by cases z),rfl⟩)
   |ow2 d=>cases e;exact .inr (.inl ⟨d,rfl,rfl⟩)
 refine ⟨Hs',.inr ⟨⟨f.st.all,f.st.sh.trans up,fun b o e=>?_,fun a o e t z=>?_⟩,by simp [ej,f.len],fun j d h=>?_,fun j d h=>?_,fun j d h=>?_,fun j k d1 d2 a h1 h2 _ _=>?_,f.lh,fun j d h=>?_,fun j k d1 d2 h1 h2=>?_⟩⟩
 ·by_cases h:P b
  ·rw [pos b h] at e;exact e
  ·rw [neg b h] at e;exact f.st.sub b o e
 ·rw [neg a (none0 a o e)];exact f.st.out a o e t z
 ·rcases un h with ⟨d',e,h'⟩|⟨dss,e,h'⟩|⟨_,_,h'⟩
  ·cases e;obtain ⟨a,o,k1,k2,k3,k4,k5⟩:=f.ow j d h';refine ⟨_,k1,?_⟩;have hp:Hs' a=some o:=by rw [pos a (.inl ⟨j,d,h',k1⟩)];exact k2
   have e:df (upd Hs a o) Hs':=fun b u q=>by
    by_cases hb:b=a
    ·subst hb;rw [aB] at q;cases q;exact hp
    ·rw [av hb] at q;exact up b u q
   exact (k5.share k3).same e
  ·cases e;obtain ⟨a,as,O⟩:=f.o2 j dss h';refine ⟨_,O.at_,?_⟩;have hp:∀ b∈a::as,∀ o,H b=some o->Hs' b=some o:=fun b hb o ho=>by rw [pos b (.inr ⟨j,dss,a,as,h',O,hb⟩)];exact ho
   refine .list (.of (hp a ao _ O.ob)) ?_;have go:∀ {as':List ac}{dss':List (List D)},(∀ b∈as',b∈a::as)->zS K H Hs as' dss'->RDs K Hs' (as'.map V.ref) (dss'.map .list):=fun {as' dss'} hs hi=>by
    induction hi with
    |nil=>exact .nil
    |cons h1 h2 _ ih=>exact .cons (.list (.of (hp _ (hs _ ao) _ h1)) (h2.same up)) (ih fun b hb=>hs b (ar _ hb))
   exact go (fun b hb=>ar _ hb) O.inn
  ·obtain ⟨v,k1,k2⟩:=f.sh j d h';exact ⟨v,k1,k2.same up⟩
 ·rcases un h with ⟨d',e,h'⟩|⟨d',e,h'⟩|⟨n,_,h'⟩
  ·cases e
  ·cases e
  ·exact (n d rfl).elim
 ·rcases un h with ⟨d',e,h'⟩|⟨d',e,h'⟩|⟨_,_,h'⟩
  ·cases e
  ·cases e
  ·obtain ⟨a,o,k1,k2,k3,k4,k5,k6⟩:=f.lk j d h';exact ⟨a,o,k1,k2,k3,by rw [neg a (none0 a o k5)];exact k4,k5,k6.same up⟩
 ·rcases un h1 with ⟨d',e,h'⟩|⟨d',e,h'⟩|⟨n,_,h'⟩
  ·cases e
  ·cases e
  ·exact (n d1 rfl).elim
 ·rcases un h with ⟨d',e,h'⟩|⟨d',e,h'⟩|⟨_,n,h'⟩
  ·cases e
  ·cases e
  ·exact (n d rfl).elim
 ·rcases un h1 with ⟨d',e,h'⟩|⟨d',e,h'⟩|⟨_,n,h'⟩
  ·cases e
  ·cases e
  ·exact (n d1 rfl).elim
theorem Fr.shared     (f:Fr K H0 Hs0 la ρ σ H Hs):∃ Hs',Fr K H0 Hs0 la (ej ρ) σ H Hs':=by
 obtain ⟨Hs',h|h⟩:=f.share
 ·exact ⟨Hs',h.1⟩
 ·exact ⟨Hs',h⟩
section
variable {c:C}{e a b:bc}{g ga gb:ay->R D}{pos:Pos}{x:Str}{st:c8}{bM:List c8}{gs gr:ay->R Fl}
def aS (g h:ay->R Fl):ay->R Fl:=fun ρ=>(g ρ).bind fun fl=>match fl with
 |.nx ρ'=>h ρ'
 |fl=>.ok fl
theorem bP:EQ c [] (fun ρ=>.ok (.nx ρ)):=.of fun ρ=>UN F_ fun D σ H h_1=>by obtain ⟨H0,Hs0,la,Hs,f,q⟩:=h_1;exact q σ H Hs f
theorem aH (h:JS c st gs):EQ c [st] gs:=.of fun ρ=>wC (h ρ)
theorem au (h:JS c st gs) (hr:EQ c bM gr):EQ c (st::bM) (aS gs gr):=.of fun ρ pins s σ H D I h_2=>by
 obtain ⟨H0,Hs0,la,Hs,f,q⟩:=h_2;unfold aS at q;cases hg:gs ρ with
 |no=>rw [hg] at q;exact q.elim
 |ex x n =>
  rw [hg] at q;refine fG (h ρ) (nq (X:=c.X) (sts:=bM)) pins s σ H D I ⟨H0,Hs0,la,Hs,f,?_⟩;rw [hg];exact q
 |ok fl =>
  rw [hg,bind_ok] at q;cases fl with
  |nx ρ' =>
   refine fG (h ρ) (hr ρ') pins s σ H D I ⟨H0,Hs0,la,Hs,f,?_⟩;rw [hg];exact fun σ' H' Hs' f'=>⟨H0,Hs0,la,Hs',f',q⟩
  |rt d =>
   refine fG (h ρ) (nq (X:=c.X) (sts:=bM)) pins s σ H D I ⟨H0,Hs0,la,Hs,f,?_⟩;rw [hg];exact q
  |bk ρ' =>
   refine fG (h ρ) (nq (X:=c.X) (sts:=bM)) pins s σ H D I ⟨H0,Hs0,la,Hs,f,?_⟩;rw [hg];exact q
  |ct ρ' =>
   refine fG (h ρ) (nq (X:=c.X) (sts:=bM)) pins s σ H D I ⟨H0,Hs0,la,Hs,f,?_⟩;rw [hg];exact q
theorem sE            (f:Fr K H0 Hs0 la ρ σ H Hs)
  (h:nD K cls E H0 Hs0 la D' (r.bind k)) (m:∀ d v H' Hs',r=.ok d->cz H Hs H' Hs'->Fr K H0 Hs0 la ρ σ H' Hs'->RD K Hs' v d->Q v H'):TR K cls E ρ r σ H Q:=by
 refine ⟨H0,Hs0,la,Hs,f,?_⟩;cases r with
 |ok d=>exact fun v H' Hs' s r=>m d v H' Hs' rfl s (f.step s) r
 |ex c n=>exact fun H' Hs' s=>h H' Hs' (f.st.trans s)
 |no=>exact h
theorem sT            (f:Fr K H0 Hs0 la ρ σ H Hs)
  (h:nD K cls E H0 Hs0 la D' (r.bind k)) (m:∀ d H' Hs',r=.ok d->cz H Hs H' Hs'->Fr K H0 Hs0 la ρ σ H' Hs'->Q d H'):IP K cls E ρ r σ H Q:=by
 refine ⟨H0,Hs0,la,Hs,f,?_⟩;cases r with
 |ok d=>exact fun H' Hs' s=>m d H' Hs' rfl s (f.step s)
 |ex c n=>exact fun H' Hs' s=>h H' Hs' (f.st.trans s)
 |no=>exact h
def cR (g:ay->R D):ay->R Fl:=fun ρ=>(g (ej ρ)).bind fun d=>.ok (.rt d)
theorem bA (h:JE c e g):JS c (.Return (some e) pos) (cR g):=.of fun ρ=>AV (E7 (h (ej ρ))) fun D σ H h_3=>by
 obtain ⟨H0,Hs0,la,Hs,f,q⟩:=h_3;obtain ⟨Hs',f'⟩:=f.shared;refine sE f' q fun d v H1 Hs1 e1 s1 f1 r1=>?_;unfold cR at q;rw [e1,bind_ok] at q;exact q v H1 Hs1 f1.st r1
def dR (t:ay->R Bool) (g h:ay->R Fl):ay->R Fl:=fun ρ=>(t ρ).bind fun b=>if b then g ρ else h ρ
theorem dB    (ht:JT c t gt) (hA:EQ c A gA) (hB:EQ c B gB):JS c (.If t A B pos) (dR gt gA gB):=.of fun ρ=>AV (OL (ht ρ) (hA ρ) (hB ρ)) fun D σ H h_5=>by
 obtain ⟨H0,Hs0,la,Hs,f,q⟩:=h_5;refine sT f q fun d H1 Hs1 e1 s1 f1=>?_;unfold dR at q;rw [e1,bind_ok] at q;cases d with
 |true=>exact Es ⟨H0,Hs0,la,Hs1,f1,q⟩
 |false=>exact AG ⟨H0,Hs0,la,Hs1,f1,q⟩
def fz (i:Nat) (g:ay->R D):ay->R Fl:=fun ρ=>(g ρ).bind fun d=>.ok (.nx (ρ.set i (.shr d)))
theorem dS (i:Nat) (h:JE c e g) (hN:c.X.N.Nodup) (hi:c.X.N[i]?=some x:=by rfl) (hx:OH c.X.env.scope x:=by first|exact i5 rfl|exact eW rfl) (hs:fm e (some (.Name x pos')) pos.line c.X.env=pure false:=by rfl)
  (hf:c.X.fn x=true\/c.X.env.scope.names.lookup x=some .local:=by first|exact .inl rfl|exact .inr rfl|assumption):JS c (.Assign [.Name x pos'] e pos) (fz i g):=.of fun ρ=>AV (AA hN hi hx (h ρ) hs hf) fun D σ H h_6=>by
 obtain ⟨H0,Hs0,la,Hs,f,q⟩:=h_6;refine sE f q fun d v H1 Hs1 e1 s1 f1 r1=>?_;unfold fz at q;rw [e1,bind_ok] at q;exact q _ H1 Hs1 (f1.set i r1)
def nE (g:ay->R D):ay->R Fl:=fun ρ=>(g ρ).bind fun _=>.ok (.nx ρ)
theorem mh (h:JE c e g) (hs:fm e none pos.line c.X.env=pure false:=by rfl):JS c (.Expr e pos) (nE g):=.of fun ρ=>AV (m7 (h ρ) hs) fun D σ H h_7=>by
 obtain ⟨H0,Hs0,la,Hs,f,q⟩:=h_7;refine sE f q fun d v H1 Hs1 e1 s1 f1 r1=>?_;unfold nE at q;rw [e1,bind_ok] at q;exact q _ H1 Hs1 f1
def Vw (K:a7) (H0 Hs0:Hp) (la:Nat->Option ac) (H Hs:Hp) (Q:St->Hp->Prop) (r:R ay):Prop:=match r with
 |.ok ρ'=>∀ σ',Fr K H0 Hs0 la ρ' σ' H Hs->Q σ' H
 |_=>False
inductive Sq (K:a7) (ρ:ay) (d:D) (r:R ay) (v:V) (σ:St) (H:Hp) (Q:St->Hp->Prop):Prop
 |mk (H0 Hs0:Hp) (la:Nat->Option ac) (Hs:Hp) (f:Fr K H0 Hs0 la ρ σ H Hs) (rd:RD K Hs v d) (q:Vw K H0 Hs0 la H Hs Q r):Sq K ρ d r v σ H Q
def Sr (K:a7) (ρ:ay) (d:D) (r:R ay):TG:=Sq K ρ d r
inductive Pa (K:a7) (ρ:ay) (ds:List D) (r:R ay) (vs:List V) (σ:St) (H:Hp) (Q:St->Hp->Prop):Prop
 |mk (H0 Hs0:Hp) (la:Nat->Option ac) (Hs:Hp) (f:Fr K H0 Hs0 la ρ σ H Hs) (rd:RDs K Hs vs ds) (q:Vw K H0 Hs0 la H Hs Q r):Pa K ρ ds r vs σ H Q
def Ss (K:a7) (ρ:ay) (ds:List D) (r:R ay):Jc:=Pa K ρ ds r
structure JG (c:C) (t:bc) (k:D->ay->R ay):Prop where of ::
 run:∀ ρ d,PG c.X t (Sr c.X.K ρ d (k d ρ))
instance {c:C}{t:bc}{k:D->ay->R ay}:CoeFun (JG c t k) (fun _=>∀ ρ d,PG c.X t (Sr c.X.K ρ d (k d ρ))):=⟨JG.run⟩
structure Rs (c:C) (t:List bc) (k:List D->ay->R ay):Prop where of ::
 run:∀ ρ d,OM c.X t (Ss c.X.K ρ d (k d ρ))
instance {c:C}{t:List bc}{k:List D->ay->R ay}:CoeFun (Rs c t k) (fun _=>∀ ρ d,OM c.X t (Ss c.X.K ρ d (k d ρ))):=⟨Rs.run⟩
theorem Vx   (h:PG X e t) (m:∀ v σ H Q,t' v σ H Q->t v σ H Q):PG X e t':=fun pins s σ H v u Q I r q=>h pins s σ H v u Q I r (m v σ H Q q)
theorem US {X:Cx}{e:List bc}{t t':Jc} (h:OM X e t) (m:∀ v σ H Q,t' v σ H Q->t v σ H Q):OM X e t':=fun pins s σ H v u Q I r q=>h pins s σ H v u Q I r (m v σ H Q q)
def cV (i:Nat):D->ay->R ay:=fun d ρ=>.ok (ρ.set i (.shr d))
theorem dH (i:Nat) (hN:c.X.N.Nodup) (hi:c.X.N[i]?=some x:=by rfl) (hx:OH c.X.env.scope x:=by first|exact i5 rfl|exact eW rfl) (hf:c.X.fn x=true\/c.X.env.scope.names.lookup x=some .local:=by first|exact .inl rfl|exact .inr rfl|assumption) :
  JG c (.Name x pos) (cV i):=.of fun ρ d=>Vx (eu hN hi hx hf) fun v σ H Q h_11=>by obtain ⟨H0,Hs0,la,Hs,f,r,q⟩:=h_11;exact q _ (f.set i r)
def rM:List D->ay->R ay:=fun ds ρ=>match ds with
 |[]=>.ok ρ
 |_=>.no
def dI (k:D->ay->R ay) (ks:List D->ay->R ay):List D->ay->R ay:=fun ds ρ=>match ds with
 |d::r=>(k d ρ).bind fun ρ'=>ks r ρ'
 |_=>.no
theorem om:Rs c [] rM:=.of fun ρ ds=>US Az fun vs σ H Q h_12=>by
 obtain ⟨H0,Hs0,la,Hs,f,r,q⟩:=h_12;cases r with
 |nil=>exact ⟨rfl,q σ f⟩
 |cons _ _=>exact q.elim
theorem dJ (h:JG c t kt) (hr:Rs c ts kts) (hs:(gW (t::ts) c.X.env).map (·.2)=rj t c.X.env::(gW ts c.X.env).map (·.2):=by rfl):Rs c (t::ts) (dI kt kts):=.of fun ρ ds pins s σ H vs us Q I rv h_13=>by
 obtain ⟨H0,Hs0,la,Hs,f,r,q⟩:=h_13;cases r with
 |nil=>exact q.elim
 | @cons v vr d dr r1 r2 =>
  unfold dI at q;cases hk:kt d ρ with
  |ok ρ' =>
   simp only [hk,bind_ok] at q;refine pU (h ρ d) (hr ρ' dr) hs pins s σ H _ us Q I rv ⟨v,vr,rfl,H0,Hs0,la,Hs,f,r1,?_⟩;rw [hk];exact fun σ' f'=>⟨H0,Hs0,la,Hs,f',r2,q⟩
  |ex x n=>simp only [hk,bind_ex] at q;exact q.elim
  |no=>simp only [hk,bind_no] at q;exact q.elim
def q9 (n:Nat) (ks:List D->ay->R ay):D->ay->R ay:=fun d ρ=>match d with
 |.tuple ds=>if ds.length=n then ks ds ρ else .no
 |_=>.no
theorem rN (hc:c.X.calm=true) (h:Rs c ts kts) (hn:(gW ts c.X.env).length=n:=by rfl) (hst:(gW ts c.X.env).findIdx? (·.1)=none:=by rfl):JG c (.Tuple ts k pos) (q9 n kts):=.of fun ρ d=>by
 cases d with
 |tuple ds =>
  refine Vx (E8 hc (h ρ ds) hn hst) fun v σ H Q h_14=>?_;obtain ⟨H0,Hs0,la,Hs,f,r,q⟩:=h_14;cases r with
  | @tuple p xs _ hq rs =>
   unfold q9 at q;by_cases hl:ds.length=n
   ·simp only [if_pos hl] at q;exact ⟨p,xs,rfl,(j_.of (f.st.sub _ _ hq)),by rw [rs.length];exact hl,H0,Hs0,la,Hs,f,rs,q⟩
   ·simp only [if_neg hl] at q;exact q.elim
 |_=>exact fun pins s σ H v u Q I rv h_15=>by obtain ⟨H0,Hs0,la,Hs,f,r,q⟩:=h_15;exact q.elim
def wg (g:ay->R D) (k:D->ay->R ay):ay->R Fl:=fun ρ=>(g ρ).bind fun d=>match k d ρ with
 |.ok ρ'=>.ok (.nx ρ')
 |_=>.no
theorem xy (h:JE c e g) (hg:JG c t kt) (hs:swapsWithSole [t] e pos.line c.X.env=pure false:=by rfl) (hw:swappedStores [t] e c.X.env=pure none:=by rfl) (h1:(gW [t] c.X.env).map (·.2)=[rj t c.X.env]:=by rfl) :
  JS c (.Assign [t] e pos) (wg g kt):=.of fun ρ=>by
 cases hr:g ρ with
 |ok d =>
  refine AV (Je (h ρ) (hg ρ d) hs hw h1) fun D σ H h_16=>?_;obtain ⟨H0,Hs0,la,Hs,f,q⟩:=h_16;refine sE (k:=fun d=>match kt d ρ with | .ok ρ'=>.ok (.nx ρ')|_=>.no) f q fun d' v H1 Hs1 e1 s1 f1 r1=>?_;rw [hr] at e1;cases e1;unfold wg at q;rw [hr,bind_ok] at q;refine ⟨H0,Hs0,la,Hs1,f1,r1,?_⟩;cases hk:kt d ρ with
  |ok ρ'=>rw [hk] at q;exact fun σ' f'=>q σ' H1 Hs1 f'
  |ex x n=>rw [hk] at q;exact q.elim
  |no=>rw [hk] at q;exact q.elim
 |ex x n =>
  refine AV (Je (h ρ) (hg ρ .none) hs hw h1) fun D σ H h_17=>?_;obtain ⟨H0,Hs0,la,Hs,f,q⟩:=h_17;refine sE (k:=fun _=>.no) (D':=D) f (by unfold wg at q;rw [hr] at q ⊢;exact q) fun d' v H1 Hs1 e1 s1 f1 r1=>?_;rw [hr] at e1;cases e1
 |no =>
  refine fun pins s σ H D I h_18=>?_;obtain ⟨H0,Hs0,la,Hs,f,q⟩:=h_18;unfold wg at q;rw [hr] at q;exact q.elim
end
end
section
def NN (K:a7) (J:It) (ds:List D) (Hn Hs:Hp):Prop:=∀ H2 Hs2,df Hn H2->df Hs Hs2->df Hs2 H2 ->
 (∀ i,i<ds.length->J.go i H2)/\(∀ i,ds.length<=i->J.stop i H2)/\∀ i x H3,i<ds.length->J.yld i H2 x H3->∃ d Hs3,ds[i]?=some d/\cz H2 Hs2 H3 Hs3/\RD K Hs3 x d
theorem Gn     (h:nY K Hn a vs) (r:RDs K Hs vs ds):NN K (Ug K a) ds Hn Hs:=fun H2 Hs2 e1 e2 e3=>by
 have q:=e1.seq h;refine ⟨fun i hi=>?_,fun i hi=>⟨vs,q,by rw [r.length];exact hi⟩,fun i x H3 hi y=>?_⟩
 ·have hi':i<vs.length:=by rw [r.length];exact hi
  exact ⟨vs,vs[i],q,bn hi'⟩
 ·obtain ⟨rfl,y⟩:=y;obtain ⟨d,k1,k2⟩:=r.get (y vs q);exact ⟨d,Hs2,k1,.refl e3,k2.same e2⟩
theorem Ks     (h:j_ K Hn a vs) (r:RDs K Hs vs ds):NN K (Uh K a) ds Hn Hs:=fun H2 Hs2 e1 e2 e3=>by
 have q:=e1.tup h;refine ⟨fun i hi=>?_,fun i hi=>⟨vs,q,by rw [r.length];exact hi⟩,fun i x H3 hi y=>?_⟩
 ·have hi':i<vs.length:=by rw [r.length];exact hi
  exact ⟨vs,vs[i],q,bn hi'⟩
 ·obtain ⟨rfl,y⟩:=y;obtain ⟨d,k1,k2⟩:=r.get (y vs q);exact ⟨d,Hs2,k1,.refl e3,k2.same e2⟩
theorem Ku  (x:Str):NN K (S2 x) (mT x) Hn Hs:=fun H2 Hs2 e1 e2 e3=>by
 have hl:(mT x).length=x.cps.size:=by simp [mT]
 refine ⟨fun i hi=>by rw [hl] at hi;exact hi,fun i hi=>by rw [hl] at hi;exact hi,fun i v H3 hi y=>?_⟩;obtain ⟨rfl,c,k1,rfl⟩:=y;refine ⟨.str ⟨#[c]⟩,Hs2,?_,.refl e3,.str _⟩;unfold mT;rw [aK,f9,k1];rfl
def qc (lo:Int) (n:Nat):List D:=(bN n).map fun (k:Nat)=>dZ (lo+k)
theorem Kv  (lo:Int) (n:Nat):NN K (TM lo n) (qc lo n) Hn Hs:=fun H2 Hs2 e1 e2 e3=>by
 have hl:(qc lo n).length=n:=by simp [qc]
 refine ⟨fun i hi=>by rw [hl] at hi;exact hi,fun i hi=>by rw [hl] at hi;exact hi,fun i v H3 hi y=>?_⟩;obtain ⟨rfl,rfl⟩:=y;refine ⟨.int (lo+i),Hs2,?_,.refl e3,.int _⟩;rw [hl] at hi;unfold qc;rw [aK,Hf hi];rfl
def pf (n:Nat):List D->List D
 |[]=>[]
 |d::r=>.tuple [.int n,d]::pf (n+1) r
theorem zX:∀ (ds:List D) (n i:Nat),(pf n ds)[i]?=(ds[i]?).map fun d=>f_ [.int ((n+i:Nat):Int),d]
 |[],_,_=>by simp [pf]
 |d::r,n,0=>by simp [pf]
 |d::r,n,i+1=>by
  simp only [pf,jh];rw [zX r (n+1) i,show n+1+i=n+(i+1) by omega]
theorem zY:∀ (ds:List D) (n:Nat),(pf n ds).length=ds.length
 |[],_=>rfl
 |d::r,n=>by simp [pf,zY r]
theorem NO     (h:j_ K Hn a vs) (r:RDs K Hs vs ds):NN K (UG K a) (pf 0 ds) Hn Hs:=fun H2 Hs2 e1 e2 e3=>by
 have q:=e1.tup h;have hl:=zY ds 0;refine ⟨fun i hi=>?_,fun i hi=>⟨vs,q,by rw [r.length];omega⟩,fun i x H3 hi y=>?_⟩
 ·have hi':i<vs.length:=by rw [r.length];omega
  exact ⟨vs,vs[i],q,bn hi'⟩
 ·obtain ⟨p,hp,rfl,y⟩:=y;obtain ⟨x,k0,rfl⟩:=y vs q;obtain ⟨d,k1,k2⟩:=r.get k0;have st:=cz.new (o:=.tup [.int i,x]) e3 hp;refine ⟨.tuple [.int i,d],_,?_,st,.tuple aB (.cons (.int _) (.cons ((k2.same e2).same st.sh) .nil))⟩;rw [zX,k1];simp
def wj:List D->List D->List D
 |x::xs,y::ys=>.tuple [x,y]::wj xs ys
 |_,_=>[]
theorem Cu:∀ (xs ys:List D) (i:Nat) (x y:D),xs[i]?=some x->ys[i]?=some y->(wj xs ys)[i]?=some (.tuple [x,y])
 |x::xs,y::ys,0,_,_,h1,h2=>by simp at h1 h2;subst h1 h2;rfl
 |_::xs,_::ys,i+1,x,y,h1,h2=>by
  simp only [jh] at h1 h2;simp only [wj,jh];exact Cu xs ys i x y h1 h2
 |[],_,_,_,_,h1,_=>by simp at h1
 |_::_,[],_,_,_,_,h2=>by simp at h2
theorem Cv:∀ (xs ys:List D),(wj xs ys).length=min xs.length ys.length
 |x::xs,y::ys=>by simp [wj,Cv xs ys]
 |[],_=>by simp [wj]
 |_::_,[]=>by simp [wj]
theorem QN     (h:j_ K Hn a vs) (r:RDs K Hs vs ds) (h':j_ K Hn b ws) (r':RDs K Hs ws es):NN K (UH K a b) (wj ds es) Hn Hs:=fun H2 Hs2 e1 e2 e3=>by
 have q:=e1.tup h;have q':=e1.tup h';have hl:=Cv ds es;refine ⟨fun i hi=>?_,fun i hi=>⟨vs,ws,q,q',by rw [r.length,r'.length];omega⟩,fun i x H3 hi y=>?_⟩
 ·have h1:i<vs.length:=by rw [r.length];omega
  have h2:i<ws.length:=by rw [r'.length];omega
  exact ⟨vs,ws,vs[i],ws[i],q,q',bn h1,bn h2⟩
 ·obtain ⟨p,hp,rfl,y⟩:=y;obtain ⟨x,z,k0,k0',rfl⟩:=y vs ws q q';obtain ⟨d,k1,k2⟩:=r.get k0;obtain ⟨d',k1',k2'⟩:=r'.get k0';have st:=cz.new (o:=.tup [x,z]) e3 hp;exact ⟨.tuple [d,d'],_,Cu ds es i d d' k1 k1',st,.tuple aB (.cons ((k2.same e2).same st.sh) (.cons ((k2'.same e2).same st.sh) .nil))⟩
inductive Su (K:a7) (cls:Str->ac) (E:XK) (ρ:ay) (r:R (List D)) (σ:St) (H:Hp) (Q:It->Hp->Prop):Prop
 |mk (H0 Hs0:Hp) (la:Nat->Option ac) (Hs:Hp) (f:Fr K H0 Hs0 la ρ σ H Hs) (q:Fin K cls E H Hs r fun ds=>∀ J H' Hs' Hn,cz H Hs H' Hs'->df Hn H'->NN K J ds Hn Hs'->Q J H'):Su K cls E ρ r σ H Q
def U3 (K:a7) (cls:Str->ac) (E:XK) (ρ:ay) (r:R (List D)):TI:=Su K cls E ρ r
inductive Sv (K:a7) (cls:Str->ac) (E:XK) (ρ:ay) (r:R (List D)) (σ:St) (H:Hp) (Q:It->Hp->Prop):Prop
 |mk (H0 Hs0:Hp) (la:Nat->Option ac) (Hs:Hp) (f:Fr K H0 Hs0 la ρ σ H Hs) (q:Fin K cls E H Hs r fun ds=>∀ J H' Hs',cz H Hs H' Hs'->NN K J ds Hs' Hs'->Q J H'):Sv K cls E ρ r σ H Q
def Vy (K:a7) (cls:Str->ac) (E:XK) (ρ:ay) (r:R (List D)):TI:=Sv K cls E ρ r
structure JI (c:C) (tg it:bc) (g:ay->R (List D)):Prop where of ::
 run:∀ ρ,PI c.X tg it (U3 c.X.K c.cls c.E ρ (g ρ))
instance {c:C}{tg it:bc}{g:ay->R (List D)}:CoeFun (JI c tg it g) (fun _=>∀ ρ,PI c.X tg it (U3 c.X.K c.cls c.E ρ (g ρ))):=⟨JI.run⟩
structure Kw (c:C) (tg it:bc) (g:ay->R (List D)):Prop where of ::
 run:∀ ρ,PI c.X tg it (Vy c.X.K c.cls c.E ρ (g ρ))
instance {c:C}{tg it:bc}{g:ay->R (List D)}:CoeFun (Kw c tg it g) (fun _=>∀ ρ,PI c.X tg it (Vy c.X.K c.cls c.E ρ (g ρ))):=⟨Kw.run⟩
theorem IR   (h:PI X tg e t) (m:∀ σ H Q,t' σ H Q->t σ H Q):PI X tg e t':=fun pins s σ H Q I q=>h pins s σ H Q I (m σ H Q q)
section
def xz:D->R (List D)
 |.list ds=>.ok ds
 |.tuple ds=>.ok ds
 |.str x=>.ok (mT x)
 |_=>.no
def pI (g:ay->R D):ay->R (List D):=fun ρ=>(g ρ).bind xz
theorem iW (h:JB c l g):JI c tg l (pI g):=.of fun ρ=>by
 cases hr:g ρ with
 |no=>exact fun pins s σ H Q I h_0=>by obtain ⟨H0,Hs0,la,Hs,f,q⟩:=h_0;exact by unfold pI at q;rw [hr] at q;exact q.elim
 |ex x n =>
  refine IR (wD (h ρ)) fun σ H Q h_1=>?_;obtain ⟨H0,Hs0,la,Hs,f,q⟩:=h_1;refine one f q fun d v H1 Hs1 e1 s1 f1 r1=>?_;rw [hr] at e1;cases e1
 |ok d =>
  cases d with
  |list ds =>
   refine IR (wD (h ρ)) fun σ H Q h_2=>?_;obtain ⟨H0,Hs0,la,Hs,f,q⟩:=h_2;refine one f q fun d v H1 Hs1 e1 s1 f1 r1=>?_;rw [hr] at e1;cases e1;unfold pI at q;rw [hr,bind_ok] at q;obtain ⟨a,vs,rfl,qa,ra⟩:=r1.list f1.st.sub;exact ⟨a,rfl,⟨vs,qa⟩,q _ H1 Hs1 H1 s1 (.refl _) (Gn qa ra)⟩
  |tuple ds =>
   refine IR (Jg (h ρ)) fun σ H Q h_3=>?_;obtain ⟨H0,Hs0,la,Hs,f,q⟩:=h_3;refine one f q fun d v H1 Hs1 e1 s1 f1 r1=>?_;rw [hr] at e1;cases e1;unfold pI at q;rw [hr,bind_ok] at q;obtain ⟨a,vs,rfl,qa,ra,_⟩:=r1.tuple f1.st.sub;exact ⟨a,rfl,⟨vs,qa⟩,q _ H1 Hs1 H1 s1 (.refl _) (Ks qa ra)⟩
  |str x =>
   refine IR (K1 (h ρ)) fun σ H Q h_4=>?_;obtain ⟨H0,Hs0,la,Hs,f,q⟩:=h_4;refine one f q fun d v H1 Hs1 e1 s1 f1 r1=>?_;rw [hr] at e1;cases e1;unfold pI at q;rw [hr,bind_ok] at q;exact ⟨x,r1.str,q _ H1 Hs1 H1 s1 (.refl _) (Ku x)⟩
  |none=>exact fun pins s σ H Q I h_5=>by obtain ⟨H0,Hs0,la,Hs,f,q⟩:=h_5;exact by unfold pI at q;rw [hr] at q;exact q.elim
  |bool _=>exact fun pins s σ H Q I h_6=>by obtain ⟨H0,Hs0,la,Hs,f,q⟩:=h_6;exact by unfold pI at q;rw [hr] at q;exact q.elim
  |int _=>exact fun pins s σ H Q I h_7=>by obtain ⟨H0,Hs0,la,Hs,f,q⟩:=h_7;exact by unfold pI at q;rw [hr] at q;exact q.elim
  |dict _=>exact fun pins s σ H Q I h_8=>by obtain ⟨H0,Hs0,la,Hs,f,q⟩:=h_8;exact by unfold pI at q;rw [hr] at q;exact q.elim
theorem NQ (h:JE c l g):Kw c tg l (pI g):=.of fun ρ=>by
 cases hr:g ρ with
 |no=>exact fun pins s σ H Q I h_9=>by obtain ⟨H0,Hs0,la,Hs,f,q⟩:=h_9;exact by unfold pI at q;rw [hr] at q;exact q.elim
 |ex x n =>
  refine IR (wD (h ρ)) fun σ H Q h_10=>?_;obtain ⟨H0,Hs0,la,Hs,f,q⟩:=h_10;refine xv f q fun d v H1 Hs1 e1 s1 f1 r1=>?_;rw [hr] at e1;cases e1
 |ok d =>
  cases d with
  |list ds =>
   refine IR (wD (h ρ)) fun σ H Q h_11=>?_;obtain ⟨H0,Hs0,la,Hs,f,q⟩:=h_11;refine xv f q fun d v H1 Hs1 e1 s1 f1 r1=>?_;rw [hr] at e1;cases e1;unfold pI at q;rw [hr,bind_ok] at q;cases r1 with
   |list qa ra=>exact ⟨_,rfl,⟨_,f1.st.sub.seq qa⟩,q _ H1 Hs1 s1 (Gn qa ra)⟩
  |tuple ds =>
   refine IR (Jg (h ρ)) fun σ H Q h_12=>?_;obtain ⟨H0,Hs0,la,Hs,f,q⟩:=h_12;refine xv f q fun d v H1 Hs1 e1 s1 f1 r1=>?_;rw [hr] at e1;cases e1;unfold pI at q;rw [hr,bind_ok] at q;cases r1 with
   |tuple qa ra=>exact ⟨_,rfl,⟨_,(j_.of (f1.st.sub _ _ qa))⟩,q _ H1 Hs1 s1 (Ks (.of qa) ra)⟩
  |str x =>
   refine IR (K1 (h ρ)) fun σ H Q h_13=>?_;obtain ⟨H0,Hs0,la,Hs,f,q⟩:=h_13;refine xv f q fun d v H1 Hs1 e1 s1 f1 r1=>?_;rw [hr] at e1;cases e1;unfold pI at q;rw [hr,bind_ok] at q;cases r1 with
   |str _=>exact ⟨x,rfl,q _ H1 Hs1 s1 (Ku x)⟩
  |none=>exact fun pins s σ H Q I h_14=>by obtain ⟨H0,Hs0,la,Hs,f,q⟩:=h_14;exact by unfold pI at q;rw [hr] at q;exact q.elim
  |bool _=>exact fun pins s σ H Q I h_15=>by obtain ⟨H0,Hs0,la,Hs,f,q⟩:=h_15;exact by unfold pI at q;rw [hr] at q;exact q.elim
  |int _=>exact fun pins s σ H Q I h_16=>by obtain ⟨H0,Hs0,la,Hs,f,q⟩:=h_16;exact by unfold pI at q;rw [hr] at q;exact q.elim
  |dict _=>exact fun pins s σ H Q I h_17=>by obtain ⟨H0,Hs0,la,Hs,f,q⟩:=h_17;exact by unfold pI at q;rw [hr] at q;exact q.elim
theorem Kw.i (h:Kw c tg l gs):JI c tg l gs:=.of fun ρ=>IR (h ρ) fun σ H Q ⟨H0,Hs0,la,Hs,f,q⟩=>⟨H0,Hs0,la,Hs,f,by
 cases hr:gs ρ with
 |ok ds=>rw [hr] at q;exact fun J H' Hs' s i=>q J H' Hs' Hs' s s.sub i
 |ex x n=>rw [hr] at q;exact q
 |no=>rw [hr] at q;exact q⟩
def ES:List D->R (List D)
 |[.int j]=>if -(2 ^ 62)<=j/\j<2 ^ 62 then .ok (qc 0 j.toNat) else .no
 |_=>.no
def zZ (gs:ay->R (List D)):ay->R (List D):=fun ρ=>(gs ρ).bind ES
theorem rO (hg:Gl c.X "range") (hm:c.X.mg "range"=none) (ha:P6 c [a] gs) (hs:am [a] c.X.env=[(false,bY a c.X.env)]:=by rfl):Kw c tg (.Call (.Name "range" p) [a] [] pos) (zZ gs):=.of fun ρ=>IR (Hm hg hm (ha ρ) hs) fun σ H Q h_18=>by
 obtain ⟨H0,Hs0,la,Hs,f,q⟩:=h_18;refine Ki f q fun ds vs H1 Hs1 e1 s1 f1 r1=>?_;unfold zZ at q;rw [e1,bind_ok] at q;unfold ES at q;split at q
 ·rename_i j
  by_cases hj:-(2 ^ 62)<=j/\j<2 ^ 62
  ·rw [if_pos hj] at q;obtain ⟨x,rfl,rx⟩:=r1.one;exact ⟨j,by rw [rx.int],hj.1,hj.2,q _ H1 Hs1 s1 (Kv 0 _)⟩
  ·rw [if_neg hj] at q;exact q.elim
 ·exact q.elim
def U4:List D->R (List D)
 |[.tuple ds]=>.ok (pf 0 ds)
 |_=>.no
def ET (gs:ay->R (List D)):ay->R (List D):=fun ρ=>(gs ρ).bind U4
theorem RDs.one    (h:RDs K H xs [d]):∃ x,xs=[x]/\RD K H x d:=by
 cases h with|cons a t=>cases t;exact ⟨_,rfl,a⟩
theorem RDs.two {K:a7}{H:Hp}{xs:List V}{d e:D} (h:RDs K H xs [d,e]):∃ x y,xs=[x,y]/\RD K H x d/\RD K H y e:=by
 cases h with|cons a t=>cases t with|cons b t=>cases t;exact ⟨_,_,rfl,a,b⟩
theorem xA {x1} (hg:Gl c.X "enumerate") (hm:c.X.mg "enumerate"=none) (ha:DG c [a] gs) (hs:am [a] c.X.env=[(false,bY a c.X.env)]:=by rfl):Kw c (.Tuple elts x1 tpos) (.Call (.Name "enumerate" p) [a] [] pos) (ET gs):=.of fun ρ=>IR (Ny hg hm (ha ρ) hs) fun σ H Q h_20=>by
 obtain ⟨H0,Hs0,la,Hs,f,q⟩:=h_20;refine yR f q fun ds vs H1 Hs1 e1 s1 f1 r1=>?_;unfold ET at q;rw [e1,bind_ok] at q;unfold U4 at q;split at q
 ·obtain ⟨x,rfl,rx⟩:=r1.one;cases rx with
  |tuple qa ra=>exact ⟨_,_,rfl,(j_.of (f1.st.sub _ _ qa)),q _ H1 Hs1 s1 (NO (.of qa) ra)⟩
 ·exact q.elim
def zp:List D->R (List D)
 |[.tuple ds,.tuple es]=>.ok (wj ds es)
 |_=>.no
def NR (gs:ay->R (List D)):ay->R (List D):=fun ρ=>(gs ρ).bind zp
theorem NS {x1} (hg:Gl c.X "zip") (hm:c.X.mg "zip"=none) (ha:DG c [a,b] gs) (hs:am [a,b] c.X.env=[(false,bY a c.X.env),(false,bY b c.X.env)]:=by rfl) (hs2:am [b] c.X.env=[(false,bY b c.X.env)]:=by rfl) :
  Kw c (.Tuple elts x1 tpos) (.Call (.Name "zip" p) [a,b] [] pos) (NR gs):=.of fun ρ=>IR (QA hg hm (ha ρ) hs hs2) fun σ H Q h_21=>by
 obtain ⟨H0,Hs0,la,Hs,f,q⟩:=h_21;refine yR f q fun ds vs H1 Hs1 e1 s1 f1 r1=>?_;unfold NR at q;rw [e1,bind_ok] at q;unfold zp at q;split at q
 ·obtain ⟨x,y,rfl,rx,ry⟩:=r1.two;cases rx with
  |tuple qa ra =>
   cases ry with
   |tuple qb rb=>exact ⟨_,_,_,_,rfl,(j_.of (f1.st.sub _ _ qa)),(j_.of (f1.st.sub _ _ qb)),q _ H1 Hs1 s1 (QN (.of qa) ra (.of qb) rb)⟩
 ·exact q.elim
end
end
section
inductive Vz (K:a7) (cls:Str->ac) (E:XK) (ρ:ay) (r:R D) (σ:St) (H:Hp) (Q:VK):Prop
 |mk (H0 Hs0:Hp) (la:Nat->Option ac) (Hs:Hp) (f:Fr K H0 Hs0 la ρ σ H Hs) (q:Fin K cls E H Hs r fun d=>∀ a o H' Hs',cz H Hs H' Hs'->H' a=none->oj K Hs' o d->Q (.ref a) (upd H' a o)):Vz K cls E ρ r σ H Q
def TN (K:a7) (cls:Str->ac) (E:XK) (ρ:ay) (r:R D):TE:=Vz K cls E ρ r
structure JN (c:C) (e:bc) (g:ay->R D):Prop where of ::
 run:∀ ρ,PE c.X e (TN c.X.K c.cls c.E ρ (g ρ))
instance {c:C}{e:bc}{g:ay->R D}:CoeFun (JN c e g) (fun _=>∀ ρ,PE c.X e (TN c.X.K c.cls c.E ρ (g ρ))):=⟨JN.run⟩
section
variable {c:C}{e a b l tg:bc}{g ga gb:ay->R D}{pos p:Pos}{gs:ay->R (List D)}{es:List bc}{x:Str}
theorem UT        (q:TR K cls E ρ r σ H Q):TN K cls E ρ r σ H Q:=by
 obtain ⟨H0,Hs0,la,Hs,f,q⟩:=q;refine ⟨H0,Hs0,la,Hs,f,?_⟩;cases r with
 |ok d=>exact fun a o H' Hs' s n r=>q _ _ _ (s.trans (.new s.sub n)) (r.share (s.sub.free n))
 |ex x n=>exact q
 |no=>exact q
theorem JN.je (h:JN c e g):JE c e g:=.of fun ρ=>pH (h ρ) fun σ H Q q=>UT q
theorem uO (h:DG c es gs):JN c (.List es pos) (aY gs .list):=.of fun ρ=>pH (jj (h ρ)) fun σ H Q h_0=>by
 obtain ⟨H0,Hs0,la,Hs,f,q⟩:=h_0;refine yR f q fun ds vs H1 Hs1 e1 s1 f1 r1=>?_;unfold aY at q;rw [e1,bind_ok] at q;by_cases hl:ds.length<=1000
 ·rw [if_pos hl] at q;exact ⟨bi (bU (by rw [r1.length];exact hl)),fun p hp=>q p _ H1 Hs1 s1 hp (.lst r1)⟩
 ·rw [if_neg hl] at q;exact q.elim
theorem Go:JN c (.Dict [] [] pos) (fun _=>.ok (.dict [])):=.of fun ρ=>pH JC fun σ H Q h_1=>by obtain ⟨H0,Hs0,la,Hs,f,q⟩:=h_1;exact fun p hp=>q p _ H Hs (.refl f.st.sub) hp (.dK .nil)
def kj (i:Nat) (g:ay->R D):ay->R Fl:=fun ρ=>(g ρ).bind fun d=>.ok (.nx (ρ.set i (.own d)))
theorem sN            (f:Fr K H0 Hs0 la ρ σ H Hs)
  (h:nD K cls E H0 Hs0 la D' (r.bind k)) (m:∀ d a o H' Hs',r=.ok d->Fr K H0 Hs0 la ρ σ H' Hs'->H' a=none->oj K Hs' o d->Q (.ref a) (upd H' a o)):TN K cls E ρ r σ H Q:=by
 refine ⟨H0,Hs0,la,Hs,f,?_⟩;cases r with
 |ok d=>exact fun a o H' Hs' s n r=>m d a o H' Hs' rfl (f.step s) n r
 |ex c n=>exact fun H' Hs' s=>h H' Hs' (f.st.trans s)
 |no=>exact h
theorem mi (i:Nat) (h:JN c e g) (hN:c.X.N.Nodup) (hi:c.X.N[i]?=some x:=by rfl) (hx:OH c.X.env.scope x:=by first|exact i5 rfl|exact eW rfl) (hs:fm e (some (.Name x pos')) pos.line c.X.env=pure false:=by rfl)
  (hf:c.X.fn x=true\/c.X.env.scope.names.lookup x=some .local:=by first|exact .inl rfl|exact .inr rfl|assumption):JS c (.Assign [.Name x pos'] e pos) (kj i g):=.of fun ρ=>AV (AA hN hi hx (h ρ) hs hf) fun D σ H h_2=>by
 obtain ⟨H0,Hs0,la,Hs,f,q⟩:=h_2;refine sN f q fun d a o H1 Hs1 e1 f1 n1 r1=>?_;unfold kj at q;rw [e1,bind_ok] at q;exact q _ _ Hs1 (f1.setO i n1 r1)
def HR {α:Type}:R α->R α
 |.ex _ _=>.no
 |r=>r
theorem Gp {α:Type}{r:R α}{a:α} (h:HR r=.ok a):r=.ok a:=by
 cases r<;>first|exact h|cases h
def gf (f:D->R (Option D)):List D->R (List D)
 |[]=>.ok []
 |d::r=>(f d).bind fun o=>(gf f r).bind fun ys=>.ok (match o with
  |some y=>y::ys
  |none=>ys)
theorem xB   (h:gf f (d::r)=.ok ys):∃ o zs,f d=.ok o/\gf f r=.ok zs/\ys=o.toList++zs:=by
 unfold gf at h;cases hf:f d with
 |ok o =>
  rw [hf,bind_ok] at h;cases hm:gf f r with
  |ok zs =>
   rw [hm,bind_ok] at h;cases h;cases o<;>exact ⟨_,zs,rfl,rfl,rfl⟩
  |ex x n=>rw [hm] at h;cases h
  |no=>rw [hm] at h;cases h
 |ex x n=>rw [hf] at h;cases h
 |no=>rw [hf] at h;cases h
def NT:Sl->Sl
 |.own d=>.lck d
 |.ow2 _=>.no
 |s=>s
def nF (nt:Nat) (ix:List Nat) (ρ:ay):ay:=bD nt Sl.no++ix.map fun i=>NT ((ρ[i]?).getD .no)
def Sw (nt:Nat):D->ay->R ay:=match nt with
 | 1=>cV 0
 | 2=>q9 2 (dI (cV 0) (dI (cV 1) rM))
 |_=>fun _ _=>.no
def iw (nt:Nat) (ρ:ay) (gt:ay->R Bool) (ge:ay->R D):D->R (Option D):=fun d=>HR ((Sw nt d ρ).bind fun ρ'=>(gt ρ').bind fun b=>if b then (ge ρ').bind fun y=>.ok (some y) else .ok none)
def iI (nt:Nat) (ix:List Nat) (gi:ay->R (List D)) (gt:ay->R Bool) (ge:ay->R D):ay->R D:=fun ρ=>(gi ρ).bind fun ds=>if ds.length<=1000 then (gf (iw nt (nF nt ix ρ) gt ge) ds).bind fun ys=>.ok (.list ys) else .no
structure Sx (c:C) (ifs:List bc) (g:ay->R Bool):Prop where of ::
 run:∀ ρ,Nq c.X ifs (IP c.X.K c.cls c.E ρ (g ρ))
instance {c:C}{ifs:List bc}{g:ay->R Bool}:CoeFun (Sx c ifs g) (fun _=>∀ ρ,Nq c.X ifs (IP c.X.K c.cls c.E ρ (g ρ))):=⟨Sx.run⟩
theorem gK:Sx c [] (fun _=>.ok true):=.of fun ρ pins s σ H Q I h_3=>by obtain ⟨H0,Hs0,la,Hs,f,q⟩:=h_3;exact Nr pins s σ H Q I (q H Hs (.refl f.st.sub))
theorem B0 (h:JT c e gt):Sx c [e] gt:=.of fun ρ=>Nt (h ρ)
def HS (K:a7) (nt:Nat):TG:=match nt with
 | 1=>vB 0
 |_=>Q8 K 2 (L2.a8 (vB 0) (L2.a8 (vB 1) L2.al))
theorem B1 {K:a7}{nt:Nat} (h:nt=1\/nt=2):Qw nt (HS K nt):=by
 rcases h with rfl|rfl
 ·exact JH (by decide)
 ·exact Nv (by decide) (by decide)
theorem Cy {K:a7}{nt:Nat}{H0 Hs0 H Hs:Hp}{la:Nat->Option ac}{ρ ρ':ay}{σ:St}{v:V}{d:D}{Q:St->Hp->Prop} (hnt:nt=1\/nt=2) (f:Fr K H0 Hs0 la ρ σ H Hs) (r:RD K Hs v d) (hb:Sw nt d ρ=.ok ρ')
  (q:∀ σ',Fr K H0 Hs0 la ρ' σ' H Hs->Q σ' H):HS K nt v σ H Q:=by
 rcases hnt with rfl|rfl
 ·cases hb;exact q _ (f.set 0 r)
 ·unfold Sw q9 at hb;simp only at hb;cases r with
  | @tuple p xs ds hq rs =>
   simp only at hb;split at hb
   ·rename_i hl
    cases rs with
    |nil=>cases hl
    |cons r1 rs =>
     cases rs with
     |nil=>cases hl
     |cons r2 rs =>
      cases rs with
      |nil =>
       cases hb;exact ⟨p,_,rfl,(j_.of (f.st.sub _ _ hq)),rfl,_,_,rfl,_,_,rfl,rfl,q _ ((f.set 0 r1).set 1 r2)⟩
      |cons _ _=>simp at hl
   ·cases hb
  |none=>cases hb
  |bool _=>cases hb
  |int _=>cases hb
  |str _=>cases hb
  |list _ _=>cases hb
  |dictK _ _=>cases hb
  |dictT _ _ _=>cases hb
  |dictF _ _ _=>cases hb
  |desk _ _ _ _=>cases hb
theorem Fr.block     (f:Fr K H0 Hs0 la ρ σ H Hs) (nt:Nat) (ix:List Nat):∃ la',Fr K H Hs la' (nF nt ix ρ) (L2.lr nt ix σ) H Hs:=by
 have lk:∀ (j:Nat) (d:D),(nF nt ix ρ)[j]?=some (Sl.lck d)->∃ a o,(L2.lr nt ix σ)[j]?=some (some (V.ref a))/\H a=some o/\Hs a=none/\oj K Hs o d:=fun j d h=>by
  unfold nF at h;by_cases hj:j<nt
  ·rw [bL (by simpa using hj),bK,if_pos hj] at h;cases h
  ·have hj:nt<=j:=by omega
   rw [bd (by simpa using hj),cF,aK] at h;cases hi:ix[j-nt]? with
   |none=>rw [hi] at h;cases h
   |some i =>
    rw [hi] at h;have at_:∀ v,σ[i]?=some (some v)->(L2.lr nt ix σ)[j]?=some (some v):=fun v k1=>by
     unfold L2.lr;rw [bd (by simpa using hj),cF,aK,hi];simp [k1]
    cases hr:ρ[i]? with
    |none=>simp only [dn,hr,fM,NT] at h;cases h
    |some s =>
     simp only [dn,hr,jZ] at h;cases s with
     |own d' =>
      cases h;obtain ⟨a,o,k1,k2,k3,k4,k5⟩:=f.ow i d hr;exact ⟨a,o,at_ _ k1,k2,k3,k5⟩
     |lck d' =>
      cases h;obtain ⟨a,o,k1,k2,k3,k4,k5,k6⟩:=f.lk i d hr;exact ⟨a,o,at_ _ k1,k3,k4,k6⟩
     |no=>cases h
     |shr _=>cases h
     |ow2 _=>cases h
 have no2:∀ (j:Nat) (d:List (List D)),¬ (nF nt ix ρ)[j]?=some (Sl.ow2 d):=fun j d h=>by
  unfold nF at h;by_cases hj:j<nt
  ·rw [bL (by simpa using hj),bK,if_pos hj] at h;cases h
  ·have hj:nt<=j:=by omega
   rw [bd (by simpa using hj),cF,aK] at h;cases hi:ix[j-nt]? with
   |none=>rw [hi] at h;cases h
   |some i =>
    rw [hi] at h;cases hr:ρ[i]? with
    |none=>simp only [dn,hr,fM,NT] at h;cases h
    |some s =>
     simp only [dn,hr,jZ] at h;cases s<;>cases h
 refine ⟨fun j=>match (nF nt ix ρ)[j]?,(L2.lr nt ix σ)[j]? with
  |some (Sl.lck _),some (some (V.ref a))=>some a
  |_,_=>none,.refl f.st.sub,by simp [nF,L2.lr],fun j d h=>?_,fun j d h=>?_,fun j d h=>?_,fun j k d1 d2 a h1 h2 _ _=>?_,fun j a h=>?_,fun j d h=>(no2 j d h).elim,fun j k d1 d2 h1 _=>(no2 j d1 h1).elim⟩
 case refine_3 =>
  obtain ⟨a,o,k1,k2,k3,k4⟩:=lk j d h;exact ⟨a,o,k1,by rw [h,k1],k2,k3,k2,k4⟩
 case refine_5 =>
  split at h
  ·rename_i d a' h1 h2
   cases h;obtain ⟨a',o,k1,k2,_⟩:=lk j d h1;rw [h2] at k1;cases k1;exact ⟨o,k2⟩
  ·cases h
 all_goals
  unfold nF at *
 ·have h:=h;by_cases hj:j<nt
  ·rw [bL (by simpa using hj),bK,if_pos hj] at h;cases h
  ·have hj:nt<=j:=by omega
   rw [bd (by simpa using hj),cF,aK] at h;cases hi:ix[j-nt]? with
   |none=>rw [hi] at h;cases h
   |some i =>
    rw [hi] at h;cases hr:ρ[i]? with
    |none=>simp only [dn,hr,fM,NT] at h;cases h
    |some s =>
     simp only [dn,hr,jZ] at h;cases s with
     |shr d' =>
      cases h;obtain ⟨v,k1,k2⟩:=f.sh i d hr;refine ⟨v,?_,k2⟩;unfold L2.lr;rw [bd (by simpa using hj),cF,aK,hi];simp [k1]
     |no=>cases h
     |own _=>cases h
     |lck _=>cases h
     |ow2 _=>cases h
 ·have h:=h;by_cases hj:j<nt
  ·rw [bL (by simpa using hj),bK,if_pos hj] at h;cases h
  ·have hj:nt<=j:=by omega
   rw [bd (by simpa using hj),cF,aK] at h;cases hi:ix[j-nt]? with
   |none=>rw [hi] at h;cases h
   |some i =>
    rw [hi] at h;cases hr:ρ[i]? with
    |none=>simp only [dn,hr,fM,NT] at h;cases h
    |some s =>
     simp only [dn,hr,jZ] at h;cases s<;>cases h
 ·have h1:=h1;by_cases hj:j<nt
  ·rw [bL (by simpa using hj),bK,if_pos hj] at h1;cases h1
  ·have hj:nt<=j:=by omega
   rw [bd (by simpa using hj),cF,aK] at h1;cases hi:ix[j-nt]? with
   |none=>rw [hi] at h1;cases h1
   |some i =>
    rw [hi] at h1;cases hr:ρ[i]? with
    |none=>simp only [dn,hr,fM,NT] at h1;cases h1
    |some s =>
     simp only [dn,hr,jZ] at h1;cases s<;>cases h1
theorem xC (h:∀ d c n,f d≠.ex c n):∀ (ds:List D) (c:Str) (n:Option D),gf f ds≠.ex c n
 |[],c,n=>fun e=>by cases e
 |d::r,c,n=>fun e=>by
  unfold gf at e;cases hf:f d with
  |ok o =>
   rw [hf,bind_ok] at e;cases hm:gf f r with
   |ok zs=>rw [hm,bind_ok] at e;cases e
   |ex x k=>exact xC h r x k hm
   |no=>rw [hm] at e;cases e
  |ex x k=>exact h d x k hf
  |no=>rw [hf] at e;cases e
theorem Cz (nt:Nat) (ρ:ay) (gt:ay->R Bool) (ge:ay->R D) (d:D) (c:Str) (n:Option D):iw nt ρ gt ge d≠.ex c n:=by
 unfold iw HR;split<;>first|exact fun e=>by cases e|skip
 rename_i h
 exact fun e=>h c n e
inductive VA (K:a7) (f:D->R (Option D)) (ds ys:List D) (H1 Hs1:Hp) (i m:Nat) (acc:List V) (H':Hp):Prop
 |mk (done bM zs ya Hs':_) (h0:ds=done++bM) (h1:done.length=i) (h2:bM.length=m) (h3:cz H1 Hs1 H' Hs') (h4:RDs K Hs' acc ya) (h5:ya.length<=i) (h6:gf f bM=.ok zs) (h7:ys=ya++zs):VA K f ds ys H1 Hs1 i m acc H'
theorem Gq {K:a7}{cls:Str->ac}{E:XK}{nt:Nat}{ix:List Nat}{gi:ay->R (List D)}{gt:ay->R Bool}{ge:ay->R D}{ρ:ay}{σ:St}{H:Hp}{Q:VK} (hnt:nt=1\/nt=2)
  (q:TN K cls E ρ (iI nt ix gi gt ge ρ) σ H Q) :
  JD nt ix (U3 K cls E ρ (gi ρ)) (HS K nt) (fun σ H Q=>∃ ρ',IP K cls E0 ρ' (gt ρ') σ H Q) (fun σ H Q=>∃ ρ',TR K cls E0 ρ' (ge ρ') σ H Q) σ H Q:=by
 obtain ⟨H0,Hs0,la,Hs,f,q⟩:=q;refine ⟨H0,Hs0,la,Hs,f,?_⟩;unfold iI at q;cases hi:gi ρ with
 |no=>rw [hi] at q;exact q
 |ex x n=>rw [hi] at q;exact q
 |ok ds =>
  rw [hi,bind_ok] at q;intro J H1 Hs1 Hn s1 sn it;by_cases hl:ds.length<=1000
  ·rw [if_pos hl] at q;cases hm:gf (iw nt (nF nt ix ρ) gt ge) ds with
   |no=>rw [hm] at q;exact q.elim
   |ex x n=>exact (xC (Cz _ _ _ _) _ _ _ hm).elim
   |ok ys =>
    rw [hm,bind_ok] at q;obtain ⟨lb,fb⟩:=(f.step s1).block nt ix;refine ⟨VA K (iw nt (nF nt ix ρ) gt ge) ds ys H1 Hs1,
     ⟨ds.length,[],ds,ys,[],Hs1,rfl,rfl,rfl,.refl s1.sub,.nil,dg _,hm,rfl⟩,?_⟩
    rintro i m acc H' ⟨done,bM,zs,ya,Hs',hds,hdl,hrl,st,ra,yl,hz,hy⟩;obtain ⟨igo,istop,iyld⟩:=it H' Hs' (sn.trans st.all) st.sh st.sub;cases bM with
    |nil =>
     left;cases hz;rw [cj] at hds hy;subst hy hds;exact ⟨istop i (by omega),fun p hp=>q p _ H' Hs' (s1.trans st) hp (.lst ra)⟩
    |cons d bM =>
     right;have hil:i<ds.length:=by rw [hds,a_,bt];omega
     refine ⟨igo i hil,bU (by rw [ra.length];omega),fun x H2 hyl=>?_⟩;obtain ⟨d',Hs2,hd,s2,r2⟩:=iyld i x H2 hil hyl;have hdd:d'=d:=by
      rw [hds,bd (by omega)] at hd;simp [hdl] at hd;exact hd.symm
     subst hdd;obtain ⟨o,zs',hf,hz',rfl⟩:=xB hz;have hf:=Gp hf;cases hb:Sw nt d' (nF nt ix ρ) with
     |no=>rw [hb] at hf;cases hf
     |ex x n=>rw [hb] at hf;cases hf
     |ok ρ' =>
      rw [hb,bind_ok] at hf;refine Cy hnt ((fb.step st).step s2) r2 hb fun σ2 f2=>⟨ρ',?_⟩;refine ⟨_,_,_,Hs2,f2,?_⟩;cases ht:gt ρ' with
      |no=>rw [ht] at hf;cases hf
      |ex x n=>rw [ht] at hf;cases hf
      |ok b =>
       rw [ht,bind_ok] at hf;intro H3 Hs3 s3;cases b with
       |false =>
        rw [if_neg aM] at hf;cases hf;refine AG ⟨bM.length,by rw [<- hrl];simp,done++[d'],bM,zs',ya,Hs3,by rw [hds];simp,by simp [hdl],rfl,(st.trans s2).trans s3,ra.same (s2.trans s3).sh,by omega,hz',by simpa using hy⟩
       |true =>
        rw [if_pos rfl] at hf;refine Es ⟨ρ',_,_,_,Hs3,f2.step s3,?_⟩;cases he:ge ρ' with
        |no=>rw [he] at hf;cases hf
        |ex x n=>rw [he] at hf;cases hf
        |ok y =>
         rw [he,bind_ok] at hf;cases hf;intro v H4 Hs4 s4 r4;exact ⟨bM.length,by rw [<- hrl];simp,done++[d'],bM,zs',ya++[y],Hs4,by rw [hds];simp,by simp [hdl],rfl,((st.trans s2).trans s3).trans s4,(ra.same ((s2.trans s3).trans s4).sh).append (.cons r4 .nil),by simp;omega,hz',by rw [hy];simp⟩
  ·rw [if_neg hl] at q;exact q.elim
def C.comp (c:C) (N':List Str) (scope:eY) (cl:List (Str×ac)) (A:ac) (s₀:ag) (H₀:Hp) (ex:List ac) (pn:List (ac×Obj)):C:=⟨dz c.X N' scope cl A s₀ H₀ ex pn,c.cls,E0⟩
variable {elt iter:bc}{ifs:List bc}{scope:eY}{N':List Str}{nt:Nat}{ix:List Nat}{gi:ay->R (List D)}{gt:ay->R Bool}{ge:ay->R D}
def tK (c:C) (N':List Str) (scope:eY) (nt:Nat) (tg:bc) (ifs:List bc) (elt:bc) (gt:ay->R Bool) (ge:ay->R D):Prop :=
 ∀ cl A s₀ H₀ ex pn,PG (c.comp N' scope cl A s₀ H₀ ex pn).X tg (HS c.X.K nt)/\Sx (c.comp N' scope cl A s₀ H₀ ex pn) ifs gt/\JE (c.comp N' scope cl A s₀ H₀ ex pn) elt ge
theorem tK.at (h:tK c N' scope nt tg ifs elt gt ge):∀ cl A s₀ H₀ ex pn,PG (dz c.X N' scope cl A s₀ H₀ ex pn) tg (HS c.X.K nt)/\Nq (dz c.X N' scope cl A s₀ H₀ ex pn) ifs (fun σ H Q=>∃ ρ',IP c.X.K c.cls E0 ρ' (gt ρ') σ H Q) /\
  PE (dz c.X N' scope cl A s₀ H₀ ex pn) elt (fun σ H Q=>∃ ρ',TR c.X.K c.cls E0 ρ' (ge ρ') σ H Q):=fun cl A s₀ H₀ ex pn=>by
 obtain ⟨h1,h2,h3⟩:=h cl A s₀ H₀ ex pn;exact ⟨h1,fun pins s σ H Q I h_4=>by obtain ⟨ρ',q⟩:=h_4;exact h2 ρ' pins s σ H Q I q,fun pins s σ H Q I h_5=>by obtain ⟨ρ',q⟩:=h_5;exact h3 ρ' pins s σ H Q I q⟩
theorem iO (nt:Nat) (hnt:nt=1\/nt=2) (hc:c.X.calm=true) (S:o7 c.X scope N' nt ix) (hi:JI c tg iter gi) (hb:tK c N' scope nt tg ifs elt gt ge) (hs:∀ x,eP iter c.X.env x=pure x:=by intro _;rfl) :
  JN c (.ListComp elt [⟨tg,iter,ifs,0⟩] scope pos) (iI nt ix gi gt ge):=.of fun ρ=>pH (C9 hc S (B1 hnt) (hi ρ) hb.at hs) fun σ H Q q=>Gq hnt q
theorem oo (i:Nat) {spos py:Pos} (nt:Nat) (hnt:nt=1\/nt=2) (hN:c.X.N.Nodup) (hc:c.X.calm=true) (S:o7 c.X scope N' nt ix) (hi:JI c tg iter gi) (hb:tK c N' scope nt tg ifs elt gt ge)
  (hiN:c.X.N[i]?=some x:=by rfl) (hy:c.X.env.scope.names.lookup x=some .local:=by rfl)
  (hsw:fm (.ListComp elt [⟨tg,iter,ifs,0⟩] scope pos) (some (.Name x py)) spos.line c.X.env=pure true:=by rfl)
  (hs:∀ x,eP iter c.X.env x=pure x:=by intro _;rfl):JS c (.Assign [.Name x py] (.ListComp elt [⟨tg,iter,ifs,0⟩] scope pos) spos) (kj i (iI nt ix gi gt ge)):=.of fun ρ=>AV (Ew hN hiN hy hc S (B1 hnt) (hi ρ) hb.at hsw hs) fun D σ H h_6=>by
 obtain ⟨H0,Hs0,la,Hs,f,q⟩:=h_6;refine Gq (Q:=fun x H1=>D.nx (σ.set i (some x)) H1) hnt (sN f q fun d a o H1 Hs1 e1 f1 n1 r1=>?_);unfold kj at q;rw [e1,bind_ok] at q;exact q _ _ Hs1 (f1.setO i n1 r1)
end
end
section
theorem Sy   (h:PS X.nox st t):PS X st t:=fun pins s σ H D I hw =>
 cc (h pins s σ H D (I.wish _) hw) (fun _ _ q=>q.unwish) fun _ _ z=>cY z
def C.nox (c:C):C:=⟨c.X.nox,c.cls,E0⟩
def uP (k:D->ay->R ay) (b:ay->R Fl):List D->ay->R Fl
 |[],ρ=>.ok (.nx ρ)
 |d::r,ρ=>match k d ρ with
  |.ok ρ1=>match b ρ1 with
   |.ok (.nx ρ')=>uP k b r ρ'
   |.ok (.ct ρ')=>uP k b r ρ'
   |.ok (.bk ρ')=>.ok (.nx ρ')
   |.ok (.rt d)=>.ok (.rt d)
   |_=>.no
  |_=>.no
section
inductive VB (K:a7) (cls:Str->ac) (E:XK) (H0 Hs0:Hp) (la:Nat->Option ac) (D':wZ) (kt:D->ay->R ay) (gb:ay->R Fl) (ds:List D) (i m:Nat) (σ:St) (H:Hp):Prop
 |mk (done bM ρ Hs:_) (h0:ds=done++bM) (h1:done.length=i) (h2:bM.length=m) (h3:Fr K H0 Hs0 la ρ σ H Hs) (h4:nD K cls E H0 Hs0 la D' (uP kt gb bM ρ)):VB K cls E H0 Hs0 la D' kt gb ds i m σ H
theorem QO
  (it:NN K J ds Hn Hs0) (hn:df Hn H0) (f:Fr K H0 Hs0 la ρ σ H Hs)
  (htg:∀ ρ d v σ H Q,Sr K ρ d (kt d ρ) v σ H Q->tg v σ H Q) (htb:∀ ρ D σ H,SR K cls E0 ρ (gb ρ) D σ H->tb D σ H)
  (q:nD K cls E H0 Hs0 la D' (uP kt gb ds ρ)) :
  Uj tg tb D' σ J H:=by
 refine ⟨VB K cls E H0 Hs0 la D' kt gb ds,⟨ds.length,[],ds,ρ,Hs,rfl,rfl,rfl,f,q⟩,?_⟩;rintro i m σ H ⟨done,bM,ρ,Hs,hds,hdl,hrl,f,q⟩;obtain ⟨igo,istop,iyld⟩:=it H Hs (hn.trans f.st.all) f.st.sh f.st.sub;cases bM with
 |nil =>
  rw [cj] at hds;subst hds;exact .inl ⟨istop i (by omega),q σ H Hs f⟩
 |cons d bM =>
  have hil:i<ds.length:=by rw [hds,a_,bt];omega
  refine .inr ⟨igo i hil,fun σ' H'=>∃ ρ' Hs',Fr K H0 Hs0 la ρ' σ' H' Hs'/\nD K cls E H0 Hs0 la D' (uP kt gb bM ρ'),fun σ' H' ⟨ρ',Hs',f',q'⟩=>⟨bM.length,by rw [<- hrl];simp,done++[d],bM,ρ',Hs',by rw [hds];simp,by simp [hdl],rfl,f',q'⟩,fun x H2 hyl=>?_⟩;obtain ⟨d',Hs2,hd,s2,r2⟩:=iyld i x H2 hil hyl;have hdd:d'=d:=by
   rw [hds,bd (by omega)] at hd;simp [hdl] at hd;exact hd.symm
  subst hdd;unfold uP at q;refine htg ρ d' x σ H2 _ ⟨H0,Hs0,la,Hs2,f.step s2,r2,?_⟩;cases hk:kt d' ρ with
  |ex c n=>rw [hk] at q;exact q
  |no=>rw [hk] at q;exact q
  |ok ρ1 =>
   rw [hk] at q;intro σ2 f2;refine htb ρ1 _ σ2 H2 ⟨H0,Hs0,la,Hs2,f2,?_⟩;cases hg:gb ρ1 with
   |no=>simp only [hg] at q;exact q.elim
   |ex c n=>simp only [hg] at q;exact q.elim
   |ok fl =>
    simp only [hg] at q;cases fl with
    |nx ρ'=>exact fun σ' H' Hs' f'=>⟨ρ',Hs',f',q⟩
    |ct ρ'=>exact fun σ' H' Hs' f'=>⟨ρ',Hs',f',q⟩
    |bk ρ'=>exact fun σ' H' Hs' f'=>q σ' H' Hs' f'
    |rt d=>exact q
def tL (A B:Hp):Hp:=fun b=>match A b with
 |some o=>some o
 |none=>B b
theorem rP:df A (tL A B):=fun b o e=>by unfold tL;rw [e]
theorem qG  (h:A b=none):tL A B b=B b:=by unfold tL;rw [h]
theorem Kx (h1:df A H) (h2:df B H):df (tL A B) H:=fun b o e=>by
 cases h:A b with
 |some u=>unfold tL at e;rw [h] at e;cases e;exact h1 b o h
 |none=>rw [qG h] at e;exact h2 b o e
theorem QP (h1:df A H) (h2:df B H):df B (tL A B):=fun b o e=>by
 cases h:A b with
 |some u =>
  unfold tL;rw [h];have:=h1 b u h;rw [h2 b o e] at this;exact this.symm
 |none=>rw [qG h];exact e
theorem Fr.into    (f:Fr K H0 Hs0 la ρ σ H Hs):Fr K (tL H0 Hs) Hs la ρ σ H Hs:=by
 have sub:=Kx f.st.all f.st.sub;refine ⟨⟨sub,.refl _,f.st.sub,fun a o e _ z=>z⟩,f.len,f.sh,fun i d h=>?_,fun i d h=>?_,f.dj,fun i a e=>let ⟨o,k⟩:=f.lh i a e;⟨o,rP _ _ k⟩,fun i d h=>?_,f.u2⟩
 ·obtain ⟨a,o,h1,h2,h3,h4,h5⟩:=f.ow i d h;exact ⟨a,o,h1,h2,h3,by rw [qG h4];exact h3,h5⟩
 ·obtain ⟨a,o,h1,h2,h3,h4,h5,h6⟩:=f.lk i d h;exact ⟨a,o,h1,h2,h3,h4,rP _ _ h5,h6⟩
 ·obtain ⟨a,as,O⟩:=f.o2 i d h;exact ⟨a,as,O.at_,O.ob,O.nd,fun b hb=>⟨(O.out b hb).1,by rw [qG (O.out b hb).2];exact (O.out b hb).1⟩,O.dj,O.inn⟩
theorem cz.outof (s:cz H0 Hs0 H1 Hs1) (t:cz (tL H0 Hs1) Hs1 H' Hs'):cz H0 Hs0 H' Hs' :=
 ⟨rP.trans t.all,s.sh.trans t.sh,t.sub,fun a o e n z=>t.out a o (rP _ _ e) n (s.out a o e n z)⟩
theorem Fr.outof    (f1:Fr K H0 Hs0 la ρ1 σ1 H1 Hs1) (f:Fr K (tL H0 Hs1) Hs1 la ρ σ H' Hs'):Fr K H0 Hs0 la ρ σ H' Hs':=by
 refine ⟨f1.st.outof f.st,f.len,f.sh,fun i d h=>?_,fun i d h=>?_,f.dj,f1.lh,fun i d h=>?_,f.u2⟩
 ·obtain ⟨a,o,h1,h2,h3,h4,h5⟩:=f.ow i d h;exact ⟨a,o,h1,h2,h3,rP.free h4,h5⟩
 ·obtain ⟨a,o,h1,h2,h3,h4,h5,h6⟩:=f.lk i d h;obtain ⟨o',e⟩:=f1.lh i a h2;have e':=rP (B:=Hs1) _ _ e;rw [h5] at e';cases e';exact ⟨a,o,h1,h2,h3,h4,e,h6⟩
 ·obtain ⟨a,as,O⟩:=f.o2 i d h;exact ⟨a,as,O.at_,O.ob,O.nd,fun b hb=>⟨(O.out b hb).1,rP.free (O.out b hb).2⟩,O.dj,O.inn⟩
end
end
section
section
theorem nD.into      (f1:Fr K H0 Hs0 la ρ1 σ1 H1 Hs1) (q:nD K cls E H0 Hs0 la D' r):nD K cls E (tL H0 Hs1) Hs1 la D' r:=by
 cases r with
 |no=>exact q
 |ex c n=>exact fun H' Hs' s=>q H' Hs' (f1.st.outof s)
 |ok fl =>
  cases fl with
  |nx ρ=>exact fun σ' H' Hs' f=>q σ' H' Hs' (f1.outof f)
  |bk ρ=>exact fun σ' H' Hs' f=>q σ' H' Hs' (f1.outof f)
  |ct ρ=>exact fun σ' H' Hs' f=>q σ' H' Hs' (f1.outof f)
  |rt d=>exact fun v H' Hs' s r=>q v H' Hs' (f1.st.outof s) r
end
section
def xD (gi:ay->R (List D)) (kt:D->ay->R ay) (gb:ay->R Fl):ay->R Fl:=fun ρ=>match gi ρ with
 |.ok ds=>uP kt gb ds ρ
 |_=>.no
theorem uQ (hc:c.X.calm=true) (hi:Kw c.nox tg iter gi) (hg:JG c.nox tg kt) (hb:EQ c.nox body gbd) (hs:∀ x,eP iter c.X.env x=pure x:=by intro _;rfl):JS c (.For tg iter body [] pos) (xD gi kt gbd):=.of fun ρ=>by
 refine Sy (AV (Q9 PassesOwn.never hc (hi ρ) (g:=fun v σ H Q=>∃ ρ d,Sr c.X.K ρ d (kt d ρ) v σ H Q) (tb:=fun D σ H=>∃ ρ,SR c.X.K c.cls E0 ρ (gbd ρ) D σ H) ?_ ?_ hs) fun D σ H ⟨H0,Hs0,la,Hs,f,q⟩=>?_)
 ·exact fun pins s σ H v u Q I r h_0=>by obtain ⟨ρ,d,q⟩:=h_0;exact hg ρ d pins s σ H v u Q I r q
 ·exact fun pins s σ H D I h_1=>by obtain ⟨ρ,q⟩:=h_1;exact hb ρ pins s σ H D I q
 ·refine ⟨H0,Hs0,la,Hs,f,?_⟩;unfold xD at q;cases hr:gi ρ with
  |no=>rw [hr] at q;exact q
  |ex x n=>rw [hr] at q;exact q.elim
  |ok ds =>
   rw [hr] at q;intro J H1 Hs1 s1 it;have f1:=f.step s1;exact QO (E:=c.E) (cls:=c.cls) (kt:=kt) (gb:=gbd) (tg:=fun v σ H Q=>∃ ρ d,Sr c.X.K ρ d (kt d ρ) v σ H Q) (tb:=fun D σ H=>∃ ρ,SR c.X.K c.cls E0 ρ (gbd ρ) D σ H) it (QP f1.st.all f1.st.sub) f1.into (fun ρ d v σ H Q h=>⟨ρ,d,h⟩) (fun ρ D σ H h=>⟨ρ,h⟩) (nD.into f1 q)
end
end
section
section
def yT (i:Nat) (g:ay->R D):ay->R Fl:=fun ρ=>match ρ[i]? with
 |some (Sl.own (.list ds))=>(g ρ).bind fun d=>if ds.length<1000 then .ok (.nx (ρ.set i (.own (.list (ds++[d]))))) else .no
 |_=>.no
theorem uR (i:Nat) (h:JE c e g) (hN:c.X.N[i]?=some x:=by rfl) (hv:MS c.X.env.scope x:=by first|exact i5 rfl|exact eW (i5 rfl)|exact eW (eW rfl)) (hd:(x==("__debug__" : Str))=false:=by decide)
  (hcd:(x==("__classdict__" : Str))=false:=by decide)
  (hbase:iq (.Name x p) "append" c.X.env (bY (.Name x p) c.X.env)=bY (.Name x p) c.X.env:=by rfl)
  (hfew:((da cpos (am [e] c.X.env)).all (fun x=>!x.1)&&(kr cpos (fP [] c.X.env)).all (fun x=>x.1.isSome)
   && decide ([e].length+([] : List nh).length+(if ([] : List nh).isEmpty then 0 else 1)<30))=true:=by rfl)
  (hline:(apos.endLine==cpos.line)=true:=by rfl) (hst:am [e] c.X.env=(false,bY e c.X.env)::am [] c.X.env:=by rfl) (hplain:(da cpos (am [] c.X.env)).any (·.1)=false:=by rfl)
  (hs:fm (.Call (.Attribute (.Name x p) "append" apos) [e] [] cpos) none pos.line c.X.env=pure false:=by rfl) :
  JS c (.Expr (.Call (.Attribute (.Name x p) "append" apos) [e] [] cpos) pos) (yT i g):=.of fun ρ=>by
 refine AV (m7 (vF cJ mJ mK uH (pT hN hv hd hcd) (bO (h ρ) dG hst) hbase hfew hline hst hplain) hs) fun D σ H h_0=>?_;obtain ⟨H0,Hs0,la,Hs,f,q⟩:=h_0;replace q:nD c.X.K c.cls c.E H0 Hs0 la D (yT i g ρ):=q;unfold yT at q;split at q
 ·rename_i ds ho
  obtain ⟨a,o,k1,k2,k3,k4,k5⟩:=f.ow i _ ho;cases k5 with
  | @lst vs _ r =>
   refine ⟨_,k1,.inl ⟨rfl,_,.of k2⟩,?_⟩;refine sE f q fun d v H1 Hs1 e1 s1 f1 r1=>?_;rw [e1,bind_ok] at q;by_cases hl:ds.length<1000
   ·rw [if_pos hl] at q;have r':=r.same s1.sh;exact ⟨a,vs,v,rfl,rfl,s1.all _ _ k2,bU (by rw [r.length];omega),q _ _ Hs1 (f1.write i ho k1 (.lst (r'.append (.cons r1 .nil))))⟩
   ·rw [if_neg hl] at q;exact q.elim
 ·exact q.elim
def vK:D->Option fU
 |.int i=>some (.inl i)
 |.str x=>some (.inr x)
 |_=>none
theorem CA  (h:vK d=some y):d=kD y:=by
 cases d<;>cases h<;>rfl
def HU (kvs:List (D×D)) (k d:D):List (D×D):=if kvs.any (fun kv=>bu kv.1 k) then kvs.map (fun kv=>if bu kv.1 k then (kv.1,d) else kv) else kvs++[(k,d)]
theorem EU (a b:fU):bu (kD a) (kD b)=decide (a=b):=by
 cases a<;>cases b<;>simp [kD,bu,qB]
theorem RDk.any   (y:fU):∀ {ds:List (D×D)},RDk K H kvs ds->(ds.any fun kv=>bu kv.1 (kD y))=kvs.any fun kv=>decide (kv.1=y):=by
 induction kvs with
 |nil=>intro ds h;cases h;rfl
 |cons x r ih=>intro ds h;cases h with|cons h t=>rw [eS,eS,ih t,EU]
theorem RDk.repl  (y:fU)  (rv:RD K H v d):∀ {kvs:List (fU×V)}{ds:List (D×D)},RDk K H kvs ds ->
  RDk K H (kvs.map fun kv=>if kv.1=y then (kv.1,v) else kv) (ds.map fun kv=>if bu kv.1 (kD y) then (kv.1,d) else kv)
 |_,_,.nil=>.nil
 |_,_,.cons (k:=k) h t=>by
  rw [aT,aT];have e:=EU k y;by_cases hk:k=y
  ·subst hk;rw [show (if k=k then (k,v) else (k,_))=(k,v) from if_pos rfl,show (if bu (kD k) (kD k)=true then (kD k,d) else (kD k,_))=(kD k,d) from if_pos (by rw [e];simp)];exact .cons rv (RDk.repl k rv t)
  ·simp only [e,hk,if_neg,decide_false,cy,not_false_eq_true];exact .cons h (RDk.repl y rv t)
theorem RDk.snoc  (y:fU)  (rv:RD K H v d):∀ {kvs:List (fU×V)}{ds:List (D×D)},RDk K H kvs ds->RDk K H (kvs++[(y,v)]) (ds++[(kD y,d)])
 |_,_,.nil=>.cons rv .nil
 |_,_,.cons h t=>.cons h (RDk.snoc y rv t)
theorem RDk.put    (r:RDk K H kvs ds) (y:fU)  (rv:RD K H v d):RDk K H (uI kvs y v) (HU ds (kD y) d):=by
 unfold uI HU;rw [r.any y];split
 ·exact r.repl y rv
 ·exact r.snoc y rv
def fJ (kvs:List (D×D)):Bool:=kvs.all fun kv=>(vK kv.1).isSome
theorem Gr {ds:List (D×D)} (h:fJ ds=true):T_ ds=false:=by
 unfold T_;split
 ·cases h
 ·rfl
def B2 (i:Nat) (gk g:ay->R D):ay->R Fl:=fun ρ=>match ρ[i]? with
 |some (Sl.own (.dict kvs))=>(g ρ).bind fun d=>(gk ρ).bind fun k=>match vK k with
  |some _=>if kvs.length<1000/\fJ kvs=true then .ok (.nx (ρ.set i (.own (.dict (HU kvs k d))))) else .no
  |none=>.no
 |_=>.no
theorem Ky    (h:RD K H v (kD y)):v=kV y:=by
 cases y<;>cases h<;>rfl
theorem RDt.flat    (h:RDt K H kvs ds) (f:fJ ds=true):kvs=[]/\ds=[]:=by
 cases h with
 |nil=>exact ⟨rfl,rfl⟩
 |cons h t=>simp [fJ,tD,vK] at f
theorem Gs (i:Nat) (h:JE c e g) (hk:JE c k gk) (hu:c.X.A.units+1<qS) (hN:c.X.N[i]?=some x:=by rfl) (hv:MS c.X.env.scope x:=by first|exact i5 rfl|exact eW (i5 rfl)|exact eW (eW rfl)) (hd:(x==("__debug__" : Str))=false:=by decide)
  (hcd:(x==("__classdict__" : Str))=false:=by decide) (hs:fm e (some (.Subscript (.Name x p) k apos)) pos.line c.X.env=pure false:=by rfl):JS c (.Assign [.Subscript (.Name x p) k apos] e pos) (B2 i gk g):=.of fun ρ=>by
 refine AV (Np hu (pT hN hv hd hcd) (hk ρ) (h ρ) hs) fun D σ H h_1=>?_
 obtain ⟨H0,Hs0,la,Hs,f,q⟩:=h_1
 replace q:nD c.X.K c.cls c.E H0 Hs0 la D (B2 i gk g ρ):=q
 unfold B2 at q
 split at q
 ·rename_i kvs ho
  obtain ⟨a,o,k1,k2,k3,k4,k5⟩:=f.ow i _ ho
  have main:∀ {H:Hp}{vs:List (fU×V)},Fr c.X.K H0 Hs0 la ρ σ H Hs->H a=some (.dK vs)->RDk c.X.K Hs vs kvs->OY (w4 i) (TR c.X.K c.cls c.E ρ (gk ρ)) (TR c.X.K c.cls c.E ρ (g ρ)) D σ H:=fun {H vs} f k2 r=>by
   refine sE f q fun d v H1 Hs1 e1 s1 f1 r1=>?_
   rw [e1,bind_ok] at q
   refine ⟨_,k1,sE f1 q fun y w H2 Hs2 e2 s2 f2 r2=>?_⟩
   rw [e2,bind_ok] at q
   split at q
   ·rename_i ky hy
    obtain rfl:=CA hy
    by_cases hl:kvs.length<1000/\fJ kvs=true
    ·rw [if_pos hl] at q
     have ha:=s2.all _ _ (s1.all _ _ k2)
     have r':=(r.same s1.sh).same s2.sh
     rw [Ky r2]
     exact ⟨a,_,rfl,Jz.k ha (bU (by rw [r.length];omega)),q _ _ Hs2 (f2.write i ho k1 (.dK (r'.put ky (r1.same s2.sh))))⟩
    ·rw [if_neg hl] at q;exact q.elim
   ·exact q.elim
  cases k5 with
  |dK r=>exact main f k2 r
  |dT n r =>
   refine sE f q fun d v H1 Hs1 e1 s1 f1 r1=>?_
   rw [e1,bind_ok] at q
   refine ⟨_,k1,sE f1 q fun y w H2 Hs2 e2 s2 f2 r2=>?_⟩
   rw [e2,bind_ok] at q
   split at q
   ·rw [if_neg (fun z=>n (r.flat z.2).1)] at q;exact q.elim
   ·exact q.elim
  |dF n r =>
   refine sE f q fun d v H1 Hs1 e1 s1 f1 r1=>?_
   rw [e1,bind_ok] at q
   refine ⟨_,k1,sE f1 q fun y w H2 Hs2 e2 s2 f2 r2=>?_⟩
   rw [e2,bind_ok] at q
   split at q
   ·rw [if_neg (fun z=>by cases z.2)] at q;exact q.elim
   ·exact q.elim
 ·exact q.elim
def tM (kvs:List (D×D)) (k:D):Option D:=(kvs.find? fun kv=>bu kv.1 k).map (·.2)
theorem RDk.val  : ∀ {kvs:List (fU×V)}{ds:List (D×D)},RDk K H kvs ds->∀ (y:fU),(tf kvs y=none/\tM ds (kD y)=none)\/∃ v d,tf kvs y=some v/\tM ds (kD y)=some d/\RD K H v d
 |_,_,.nil,y=>.inl ⟨rfl,rfl⟩
 |_,_,.cons (k:=k) h t,y=>by
  unfold tf tM;rw [eF,eF,EU];by_cases hk:k=y
  ·simp only [hk,decide_true,dn];exact .inr ⟨_,_,rfl,rfl,h⟩
  ·simp only [hk,decide_false];exact RDk.val t y
def bB:D->D->R D
 |.dict kvs,k=>match vK k with
  |some _=>if fJ kvs=true then (match tM kvs k with
   |some d=>.ok d
   |none=>.no) else .no
  |none=>.no
 |x,k=>Cr x k
theorem cm (hu:c.X.A.units+1<qS) (ha:JB c a ga) (hb:JB c b gb) (hs:wF b:=by exact fun _ _=>rfl):JE c (.Subscript a b pos) (g2 ga gb bB):=.of fun ρ=>by
 by_cases hx:∃ kvs,ga ρ=.ok (.dict kvs)
 ·obtain ⟨kvs,hx⟩:=hx;refine pH (No hu (ha ρ) (hb ρ) hs) fun σ H Q h_2=>?_;obtain ⟨H0,Hs0,la,Hs,f,q⟩:=h_2;refine one f q fun d v H1 Hs1 e1 s1 f1 r1=>?_;rw [hx] at e1;cases e1;unfold g2 at q;rw [hx,bind_ok] at q;refine one f1 (q.on s1 (q':=fun _=>True) fun _ _=>trivial) fun y w H2 Hs2 e2 s2 f2 r2=>?_;rw [e2,bind_ok] at q;unfold bB at q;simp only at q;split at q
  ·rename_i ky hy
   obtain rfl:=CA hy;by_cases hf:fJ kvs=true
   ·rw [if_pos hf] at q;obtain ⟨p,rfl,h⟩:=(r1.step s2).dict f2.st.sub (Gr hf);have rk:w=kV ky:=by
     rcases r2 with r2|⟨_,o,rfl,_,_,ow⟩
     ·exact Ky r2
     ·cases ky<;>cases ow
    subst rk;rcases h with ⟨vs,h1,h2⟩|⟨vs,h1,hn,h2⟩|⟨o,vs,es,rfl,h1,hn,h2⟩
    ·rcases h2.val ky with ⟨_,h3⟩|⟨u,d,h3,h4,h5⟩
     ·rw [h3] at q;exact q.elim
     ·rw [h4] at q;exact ⟨p,u,rfl,by rw [<- h3];exact Et.k h1,q _ H2 Hs2 (s1.trans s2) h5⟩
    ·exact (hn (h2.flat hf).1).elim
    ·cases hf
   ·rw [if_neg hf] at q;exact q.elim
  ·exact q.elim
 ·refine pH (Sk ha hb hs ρ) fun σ H Q q=>?_;have e:g2 ga gb bB ρ=g2 ga gb Cr ρ:=by
   unfold g2;cases hr:ga ρ with
   |ok d =>
    cases d with
    |dict kvs=>exact (hx ⟨kvs,hr⟩).elim
    |_=>rfl
   |_=>rfl
  rw [e] at q;exact q
def iP:D->R D
 |.dict kvs=>if fJ kvs=true then .ok (.list (kvs.map (·.1))) else .no
 |x=>zW x
theorem CB  : ∀ {kvs:List (fU×V)}{ds:List (D×D)},RDk K H kvs ds->RDs K H (kvs.map fun p=>kV p.1) (ds.map (·.1))
 |_,_,.nil=>.nil
 |_,_,.cons (k:=k) h t=>.cons (by cases k<;>constructor) (CB t)
theorem qd (hc:X.calm=true):IQ X (.type "list") (jo iP):=by
 refine rJ (fun d c n=>?_) fun pins s σ H x u Q Hs d d' I ru sub rx hd q=>?_
 ·unfold iP zW;split<;>(try split)<;>(try split)<;>exact fun h=>by cases h
 ·by_cases hx:∃ kvs,d=.dict kvs
  ·obtain ⟨kvs,rfl⟩:=hx;unfold iP at hd;simp only at hd;split at hd
   ·rename_i hf
    cases hd;obtain ⟨a,rfl,⟨vs,h1,h2⟩|⟨vs,h1,n,h2⟩|⟨o,vs,es,rfl,h1,n,h2⟩⟩:=rx.dict sub (Gr hf)
    ·exact xr hc pins s σ H _ _ Q I (.cons ru .nil) ⟨a,vs,rfl,h1,fun l hl=>q _ _ _ (.new sub hl) (.list (.of aB) ((CB h2).same (cz.new sub hl).sh))⟩
    ·exact (n (h2.flat hf).1).elim
    ·cases hf
   ·cases hd
  ·have e:iP d=zW d:=by
    cases d with
    |dict kvs=>exact (hx ⟨kvs,rfl⟩).elim
    |_=>rfl
   rw [e] at hd;exact (NL (X:=X)).1 pins s σ H [x] [u] Q I (.cons ru .nil) ⟨Hs,[d],sub,.cons rx .nil,d',hd,q⟩
end
end
section
open PyProof.Rows (envOfC)
section
variable {c:C}{e a b d:bc}{g ga gb gc:ay->R D}{pos p cpos:Pos}{x:Str}
theorem Kz        (hx:∀ x y c n,h x y≠.ex c n) (hx':∀ x y c n,h' x y≠.ex c n) (q:TR K cls E ρ (pY ga gb gc h h' ρ) σ H Q) :
  Ec (rD K h) (rD K h') (TB K cls E ρ (ga ρ)) (TB K cls E ρ (gb ρ)) (TB K cls E ρ (gc ρ)) σ H Q:=by
 obtain ⟨H0,Hs0,la,Hs,f,q⟩:=q;refine one f q fun x v H1 Hs1 e1 s1 f1 r1=>?_;unfold pY at q;rw [e1,bind_ok] at q;refine one f1 (q.on s1 (q':=fun _=>True) fun _ _=>trivial) fun y u H2 Hs2 e2 s2 f2 r2=>?_;rw [e2,bind_ok] at q;cases hr:h x y with
 |ex c n=>exact (hx x y c n hr).elim
 |no=>rw [hr] at q;exact q.elim
 |ok z =>
  rw [hr,bind_ok] at q;refine ⟨Hs2,x,y,f2.st.sub,r1.step s2,r2,z,hr,fun w H3 Hs3 s3 r3=>?_⟩;cases r3 with
  |bool k =>
   refine ⟨k,rfl,?_⟩;have f3:=f2.step s3;cases k with
   |false=>exact AG (q _ H3 Hs3 (s1.trans (s2.trans s3)) (.bool _))
   |true =>
    refine Es (one f3 (q.on (s1.trans (s2.trans s3)) (q':=fun _=>True) fun _ _=>trivial) fun t u' H4 Hs4 e4 s4 f4 r4=>?_);simp only [e4,bind_ok] at q;cases hr':h' y t with
    |ex c n=>exact (hx' y t c n hr').elim
    |no=>rw [hr'] at q;exact q.elim
    |ok z' =>
     rw [hr'] at q;exact ⟨Hs4,y,t,f4.st.sub,(r2.step s3).step s4,r4,z',hr',fun w H5 Hs5 s5 r5=>q w H5 Hs5 (s1.trans (s2.trans (s3.trans (s4.trans s5)))) r5⟩
  |none=>exact q.elim
  |int _=>exact q.elim
  |str _=>exact q.elim
  |list _ _=>exact q.elim
  |tuple _ _=>exact q.elim
  |dictK _ _=>exact q.elim
  |dictT _ _ _=>exact q.elim
  |dictF _ _ _=>exact q.elim
  |desk _ _ _ _=>exact q.elim
theorem CC  (ho:wI c.X (bC op) h) (ho':wI c.X (bC op') h') (ha:JB c a ga) (hb:JB c b gb) (hc:JB c d gc) (hm:IF [op,op'] [b,d]=false:=by with_unfolding_all rfl):JE c (.Compare a [op,op'] [b,d] pos) (pY ga gb gc h h') :=
 .of fun ρ=>pH (Jj ho.1 ho'.1 (ha ρ) (hb ρ) (hc ρ) hm) fun σ H Q q=>Kz ho.2 ho'.2 q
theorem KA  (ho:wI c.X (bC op) h) (ho':wI c.X (bC op') h') (ha:JB c a ga) (hb:JB c b gb) (hc:JB c d gc) (hm:IF [op,op'] [b,d]=false:=by with_unfolding_all rfl):JT c (.Compare a [op,op'] [b,d] pos) (fF (pY ga gb gc h h')) :=
 .of fun ρ=>Sf (Jk ho.1 ho'.1 (ha ρ) (hb ρ) (hc ρ) hm) fun σ H Q q=>Kz ho.2 ho'.2 (Sg q)
def UU:D->R D
 |.int i=>.ok (.int (-i))
 |_=>.no
def NU (g:ay->R D):ay->R D:=fun ρ=>(g ρ).bind UU
theorem KB (h:JE c e g):JE c (.UnaryOp .USub e pos) (NU g):=.of fun ρ=>pH (OP Ji (h ρ)) fun σ H Q h_0=>by
 obtain ⟨H0,Hs0,la,Hs,f,q⟩:=h_0;refine xv f q fun d v H1 Hs1 e1 s1 f1 r1=>?_;unfold NU at q;rw [e1,bind_ok] at q;cases r1 with
 |int i=>exact ⟨i,rfl,q _ H1 Hs1 s1 (.int _)⟩
 |_=>exact q.elim
inductive Sz (K:a7) (w:bh) (cls:Str->ac) (E:XK) (ρ:ay) (r:R (List Str)) (σ:St) (H:Hp) (Q:VK):Prop
 |mk (H0 Hs0:Hp) (la:Nat->Option ac) (Hs:Hp) (f:Fr K H0 Hs0 la ρ σ H Hs) (q:Fin K cls E H Hs r fun ss=>∀ p H' Hs',cz H Hs H' Hs'->H' p=none->Q (.ref p) (upd H' p (w6 w p ss))):Sz K w cls E ρ r σ H Q
def U5 (K:a7) (w:bh) (cls:Str->ac) (E:XK) (ρ:ay) (r:R (List Str)):TE:=Sz K w cls E ρ r
structure Rt (c:C) (e:bc) (g:ay->R (List Str)):Prop where of ::
 run:∀ ρ,PE c.X e (U5 c.X.K c.X.w c.cls c.E ρ (g ρ))
instance {c:C}{e:bc}{g:ay->R (List Str)}:CoeFun (Rt c e g) (fun _=>∀ ρ,PE c.X e (U5 c.X.K c.X.w c.cls c.E ρ (g ρ))):=⟨Rt.run⟩
theorem Pb {K:a7}{w:bh}{cls:Str->ac}{E:XK}{ρ:ay}{r:R (List Str)}{β:Type}{k:List Str->R β}{σ:St}{H:Hp}{H0 Hs0 Hs:Hp}{la:Nat->Option ac}{Q:V->Hp->Prop}{q:β->Prop} (f:Fr K H0 Hs0 la ρ σ H Hs)
  (h:Fin K cls E H Hs (r.bind k) q) (m:∀ ss p H' Hs',r=.ok ss->cz H Hs H' Hs'->Fr K H0 Hs0 la ρ σ H' Hs'->H' p=none->Q (.ref p) (upd H' p (w6 w p ss))):U5 K w cls E ρ r σ H Q:=by
 refine ⟨H0,Hs0,la,Hs,f,?_⟩;cases r with
 |ok d=>exact fun p H' Hs' s n=>m d p H' Hs' rfl s (f.step s) n
 |ex c n=>exact h
 |no=>exact h
variable {gset:ay->R (List Str)}
def xE:D->R (List Str)
 |.list ds=>match fH ds with
  |some ss=>if ss.length<60 then .ok (eA [] ss) else .no
  |none=>.no
 |.tuple ds=>match fH ds with
  |some ss=>if ss.length<60 then .ok (eA [] ss) else .no
  |none=>.no
 |_=>.no
def uS (g:ay->R D):ay->R (List Str):=fun ρ=>(g ρ).bind xE
theorem QQ (hc:c.X.calm=true) (h:JB c e g) (hg2:Gl c.X "set") (hm2:c.X.mg "set"=none) (he:am [e] c.X.env=(false,bY e c.X.env)::am [] c.X.env:=by rfl) :
  Rt c (.Call (.Name "set" p) [e] [] cpos) (uS g):=.of fun ρ=>by
 refine pH (zJ (Ch hc) hg2 hm2 PyProof.Rows.boot_set (bO (h ρ) dG he) (he:=he)) fun σ H Q h_1=>?_;obtain ⟨H0,Hs0,la,Hs,f,q⟩:=h_1;refine one f q fun d v H1 Hs1 e1 s1 f1 r1=>?_;unfold uS at q;rw [e1,bind_ok] at q;unfold xE at q;split at q
 ·split at q
  ·rename_i ss hs
   by_cases hz:ss.length<60
   ·rw [if_pos hz] at q;obtain ⟨a,vs,rfl,qa,ra⟩:=r1.list f1.st.sub;rw [p_ hs] at ra;rw [oh ra] at qa;exact ⟨a,ss,rfl,.inl qa,aF (Hg hz 1) (by decide),fun p hp=>q p H1 Hs1 s1 hp⟩
   ·rw [if_neg hz] at q;exact q.elim
  ·exact q.elim
 ·split at q
  ·rename_i ss hs
   by_cases hz:ss.length<60
   ·rw [if_pos hz] at q;obtain ⟨a,vs,rfl,qa,ra,_⟩:=r1.tuple f1.st.sub;rw [p_ hs] at ra;rw [oh ra] at qa;exact ⟨a,ss,rfl,.inr qa,aF (Hg hz 1) (by decide),fun p hp=>q p H1 Hs1 s1 hp⟩
   ·rw [if_neg hz] at q;exact q.elim
  ·exact q.elim
 ·exact q.elim
def nG (g:ay->R (List Str)):ay->R D:=fun ρ=>(g ρ).bind fun ss=>if ss.length<64 then .ok (.list ((jC ss).map .str)) else .no
theorem EV (hc:c.X.calm=true) (h:Rt c e gset) (hg:Gl c.X "sorted") (hm:c.X.mg "sorted"=none) (he:am [e] c.X.env=(false,bY e c.X.env)::am [] c.X.env:=by rfl) :
  JE c (.Call (.Name "sorted" p) [e] [] cpos) (nG gset):=.of fun ρ=>by
 refine pH (nu (wa hc) hg hm vz (bO (h ρ) dG he) (he:=he)) fun σ H Q h_2=>?_;obtain ⟨H0,Hs0,la,Hs,f,q⟩:=h_2;dsimp only [L2.RO,L2.C0,L2.B_];refine Pb (w:=c.X.w) f q fun ss p H1 Hs1 e1 s1 f1 n1=>?_;unfold nG at q;rw [e1,bind_ok] at q;by_cases hz:ss.length<64
 ·rw [if_pos hz] at q;have st1:cz H1 Hs1 (upd H1 p (w6 c.X.w p ss)) Hs1:=.mine f1.st.sub n1;exact ⟨p,ss,rfl,aB,hz,fun l hl=>q _ _ _ (s1.trans (st1.trans (.new st1.sub hl))) (.list (.of aB) (xu _))⟩
 ·rw [if_neg hz] at q;exact q.elim
def tN (g:ay->R (List Str)):ay->R D:=fun ρ=>(g ρ).bind fun ss=>.ok (.int ss.length)
theorem HV (h:Rt c e gset) (hg:Gl c.X "len") (hm:c.X.mg "len"=none) (he:am [e] c.X.env=(false,bY e c.X.env)::am [] c.X.env:=by rfl) :
  JE c (.Call (.Name "len" p) [e] [] cpos) (tN gset):=.of fun ρ=>by
 refine pH (nu yP hg hm bR (bO (h ρ) dG he) (he:=he)) fun σ H Q h_3=>?_;obtain ⟨H0,Hs0,la,Hs,f,q⟩:=h_3;dsimp only [L2.RO,L2.C0,L2.B_];refine Pb (w:=c.X.w) f q fun ss p H1 Hs1 e1 s1 f1 n1=>?_;unfold tN at q;rw [e1,bind_ok] at q;have st1:cz H1 Hs1 (upd H1 p (w6 c.X.w p ss)) Hs1:=.mine f1.st.sub n1;exact ⟨p,ss,rfl,aB,q _ _ _ (s1.trans st1) (.int _)⟩
variable {elt iter tg:bc}{ifs:List bc}{scope:eY}{N':List Str}{nt:Nat}{ix:List Nat}{gi:ay->R (List D)}{gt:ay->R Bool}{ge:ay->R D}
def uT (nt:Nat) (ix:List Nat) (gi:ay->R (List D)) (gt:ay->R Bool) (ge:ay->R D):ay->R (List Str):=fun ρ=>(gi ρ).bind fun ds=>if ds.length<=60 then (gf (iw nt (nF nt ix ρ) gt ge) ds).bind fun ys=>match fH ys with
 |some ss=>.ok (eA [] ss)
 |none=>.no else .no
theorem yU  : ∀ {ss:List Str},fH (xs++ys)=some ss->∃ s1 s2,fH xs=some s1/\fH ys=some s2/\ss=s1++s2:=by
 induction xs with
 |nil=>intro ss h;exact ⟨[],ss,rfl,h,rfl⟩
 |cons d r ih =>
  intro ss h;cases d with
  |str b =>
   have h:(fH (r++ys)).map (b::·)=some ss:=h;cases hr:fH (r++ys) with
   |none=>rw [hr] at h;cases h
   |some z =>
    rw [hr] at h;cases h;obtain ⟨s1,s2,h1,h2,rfl⟩:=ih hr;exact ⟨b::s1,s2,by show (fH r).map (b::·)=_;rw [h1];rfl,h2,rfl⟩
  |_=>cases h
theorem xF (z:Str):∀ (l acc:List Str),eA acc (l++[z])=if z∈eA acc l then eA acc l else eA acc l++[z]
 |[],acc=>rfl
 |x::l,acc=>by
  show eA _ (l++[z])=_;rw [xF z l];rfl
inductive VC (f:D->R (Option D)) (ds:List D) (ss:List Str) (H1 Hs1:Hp) (i m:Nat) (acc:List Str) (H':Hp):Prop
 |mk (done bM zs sa sz Hs':_) (h0:ds=done++bM) (h1:done.length=i) (h2:bM.length=m) (h3:cz H1 Hs1 H' Hs') (h4:acc=eA [] sa) (h5:sa.length<=i) (h6:gf f bM=.ok zs) (h7:fH zs=some sz) (h8:ss=sa++sz):VC f ds ss H1 Hs1 i m acc H'
theorem NV        (hnt:nt=1\/nt=2)
  (q:U5 K w cls E ρ (uT nt ix gi gt ge ρ) σ H Q) :
  Kg w nt ix (U3 K cls E ρ (gi ρ)) (HS K nt) (fun σ H Q=>∃ ρ',IP K cls E0 ρ' (gt ρ') σ H Q) (fun σ H Q=>∃ ρ',TR K cls E0 ρ' (ge ρ') σ H Q) σ H Q:=by
 obtain ⟨H0,Hs0,la,Hs,f,q⟩:=q;refine ⟨H0,Hs0,la,Hs,f,?_⟩;unfold uT at q;cases hi:gi ρ with
 |no=>rw [hi] at q;exact q
 |ex x n=>rw [hi] at q;exact q
 |ok ds =>
  rw [hi,bind_ok] at q;intro J H1 Hs1 Hn s1 sn it;by_cases hl:ds.length<=60
  ·rw [if_pos hl] at q;cases hm:gf (iw nt (nF nt ix ρ) gt ge) ds with
   |no=>rw [hm] at q;exact q.elim
   |ex x n=>exact (xC (Cz _ _ _ _) _ _ _ hm).elim
   |ok ys =>
    rw [hm,bind_ok] at q;cases hs:fH ys with
    |none=>rw [hs] at q;exact q.elim
    |some ss =>
     rw [hs] at q;obtain ⟨lb,fb⟩:=(f.step s1).block nt ix;refine ⟨VC (iw nt (nF nt ix ρ) gt ge) ds ss H1 Hs1,
      ⟨ds.length,[],ds,ys,[],ss,Hs1,rfl,rfl,rfl,.refl s1.sub,rfl,dg _,hm,hs,rfl⟩,?_⟩
     rintro i m acc H' ⟨done,bM,zs,sa,sz,Hs',hds,hdl,hrl,st,rfl,yl,hz,hzs,hy⟩;obtain ⟨igo,istop,iyld⟩:=it H' Hs' (sn.trans st.all) st.sh st.sub;cases bM with
     |nil =>
      left;cases hz;cases hzs;rw [cj] at hds hy;subst hy hds;exact ⟨istop i (by omega),fun p hp=>q p H' Hs' (s1.trans st) hp⟩
     |cons d bM =>
      right;have hil:i<ds.length:=by rw [hds,a_,bt];omega
      have hol:=kP sa [];simp at hol;refine ⟨igo i hil,uq (show (eA [] sa).length+1<=61 by omega) (by decide),fun x H2 hyl=>?_⟩;obtain ⟨d',Hs2,hd,s2,r2⟩:=iyld i x H2 hil hyl;have hdd:d'=d:=by
       rw [hds,bd (by omega)] at hd;simp [hdl] at hd;exact hd.symm
      subst hdd;obtain ⟨o,zs',hf,hz',rfl⟩:=xB hz;have hf:=Gp hf;obtain ⟨so,sz',hso,hsz,rfl⟩:=yU hzs;cases hb:Sw nt d' (nF nt ix ρ) with
      |no=>rw [hb] at hf;cases hf
      |ex x n=>rw [hb] at hf;cases hf
      |ok ρ' =>
       rw [hb,bind_ok] at hf;refine Cy hnt ((fb.step st).step s2) r2 hb fun σ2 f2=>⟨ρ',?_⟩;refine ⟨_,_,_,Hs2,f2,?_⟩;cases ht:gt ρ' with
       |no=>rw [ht] at hf;cases hf
       |ex x n=>rw [ht] at hf;cases hf
       |ok b =>
        rw [ht,bind_ok] at hf;intro H3 Hs3 s3;cases b with
        |false =>
         rw [if_neg aM] at hf;cases hf;cases hso;refine AG ⟨bM.length,by rw [<- hrl];simp,done++[d'],bM,zs',sa,sz',Hs3,by rw [hds];simp,by simp [hdl],rfl,(st.trans s2).trans s3,rfl,by omega,hz',hsz,by simpa using hy⟩
        |true =>
         rw [if_pos rfl] at hf;refine Es ⟨ρ',_,_,_,Hs3,f2.step s3,?_⟩;cases he:ge ρ' with
         |no=>rw [he] at hf;cases hf
         |ex x n=>rw [he] at hf;cases hf
         |ok y =>
          rw [he,bind_ok] at hf;cases hf;intro v H4 Hs4 s4 r4;cases r4 with
          |str z =>
           cases hso;exact ⟨z,bM.length,rfl,by rw [<- hrl];simp,done++[d'],bM,zs',sa++[z],sz',Hs4,by rw [hds];simp,by simp [hdl],rfl,((st.trans s2).trans s3).trans s4,(xF z sa []).symm,by simp;omega,hz',hsz,by rw [hy];simp⟩
          |none=>cases hso
          |bool _=>cases hso
          |int _=>cases hso
          |list _ _=>cases hso
          |tuple _ _=>cases hso
          |dictK _ _=>cases hso
          |dictT _ _ _=>cases hso
          |dictF _ _ _=>cases hso
          |desk _ _ _ _=>cases hso
  ·rw [if_neg hl] at q;exact q.elim
theorem KC (nt:Nat) (hnt:nt=1\/nt=2) (hc:c.X.calm=true) (S:o7 c.X scope N' nt ix) (hi:JI c tg iter gi) (hb:tK c N' scope nt tg ifs elt gt ge) (hs:∀ x,eP iter c.X.env x=pure x:=by intro _;rfl) :
  Rt c (.SetComp elt [⟨tg,iter,ifs,0⟩] scope pos) (uT nt ix gi gt ge):=.of fun ρ=>pH (EF hc S (B1 hnt) (hi ρ) hb.at hs) fun σ H Q q=>NV hnt q
end
def bF (n:Nat) (ds:List D):ay:=ds.map Sl.shr++bD (n-ds.length) Sl.no
def dU (n:Nat) (g:ay->R Fl):List D->R D:=fun ds=>match g (bF n ds) with
 |.ok (.nx _)=>.ok .none
 |.ok (.rt d)=>.ok d
 |.ex c m=>.ex c m
 |_=>.no
theorem xG {n:Nat}{ds:List D}{i:Nat}{s:Sl} (h:(bF n ds)[i]?=some s):(∃ d,ds[i]?=some d/\s=.shr d)\/s=.no:=by
 unfold bF at h;by_cases hi:i<ds.length
 ·rw [bL (by simpa using hi),aK] at h;cases hd:ds[i]? with
  |none=>rw [hd] at h;cases h
  |some z=>rw [hd] at h;cases h;exact .inl ⟨z,rfl,rfl⟩
 ·rw [bd (by simp;omega),bK] at h;split at h<;>cases h;exact .inr rfl
theorem HW {N:List Str}{vs:List V}{i:Nat}{v:V} (h:vs[i]?=some v):(L2.start N vs)[i]?=some (some v):=by
 unfold L2.start;have hi:i<vs.length:=(List.getElem?_eq_some_iff.mp h).1;rw [bL (by simpa using hi),aK,h];rfl
theorem Fr.start {K : a7} {H Hs : Hp} {N : List Str} {vs : List V} {ds : List D} (sub : df Hs H) (r : RDs K Hs vs ds) : Fr K H Hs (fun _ => none) (bF N.length ds) (L2.start N vs) H Hs := by
  have hl := r.length;refine ⟨.refl sub, by simp [bF, L2.start, hl], fun i d h => ?_, fun i d h => ?_, fun i d h => ?_, fun i j d e a h _ _ _ => ?_, fun i a h => (nomatch h), fun i d h => ?_, fun i j d e h _ => ?_⟩
  · rcases xG h with ⟨z, hz, e⟩ | e
    · cases e;obtain ⟨v, k1, k2⟩ := r.get' hz;exact ⟨v, HW k1, k2⟩
    · cases e
  all_goals (rcases xG h with ⟨z, _, e⟩ | e <;> cases e)
theorem KD             (F:yy K x qual st f fd) (S:b6 N ps (ap st))
  (h:∀ (cdv:a9) (A:bf) (outer:List Env) (s:ag) (H:Hp) (E:XK),fX k (A.deeper (iy qual (ap st) s.heap.objs.size f cdv))->EQ ⟨iT (kR P w) P w K mg base N qual (ap st) f cdv A outer s H E,cls,E⟩ (eJ st) g) :
  l_ P w K mg base (kR P w) (k+1) f fd ps (Mv K cls ps.length (dU N.length g)):=by
 obtain ⟨oc,od,kV,doc,pm,an,cdv,ct,osl,rfl,lk,hcd⟩:=F.ex;refine j1 lk hcd S (fun vs H Q E h_4=>by obtain ⟨Hs,ds,sub,hn,r,q⟩:=h_4;exact by rw [r.length];exact hn) fun A outer s H vs Q E hr hsp=>?_;obtain ⟨Hs,ds,sub,hn,r,q⟩:=hsp;refine ⟨_,h cdv A outer s H E hr (bF N.length ds),H,Hs,_,Hs,Fr.start sub r,?_⟩;unfold dU at q;cases hg:g (bF N.length ds) with
 |no=>rw [hg] at q;exact q
 |ex c n=>rw [hg] at q;exact q
 |ok fl =>
  rw [hg] at q;cases fl with
  |nx ρ'=>exact fun σ' H' Hs' f'=>q .non H' Hs' f'.st .none
  |rt d=>exact fun v H' Hs' s r=>q v H' Hs' s r
  |bk ρ'=>exact q.elim
  |ct ρ'=>exact q.elim
theorem SA             (F:yy K x qual st f fd) (S:b6 N ps (ap st)) (hm:mg x=some (.ref f)) (hb:fo K fd ps [])
  (h:∀ (cdv:a9) (A:bf) (outer:List Env) (s:ag) (H:Hp) (E:XK),fX k (A.deeper (iy qual (ap st) s.heap.objs.size f cdv))->EQ ⟨iT (kR P w) P w K mg base N qual (ap st) f cdv A outer s H E,cls,E⟩ (eJ st) g) :
  Fn P w K mg base cls x (k+1) ps.length (dU N.length g):=⟨f,fd,ps,KD F S h,hm,F.kp,hb⟩
theorem hV:g_ (kR X.prog X.w) X E0:=fun _ _ _ _ _ _ _ h=>by
 obtain ⟨_,_,_,_,_,_,_,_,_,q⟩:=h;exact q.elim
end
section
def clear2 (ρ:ay):ay:=ρ.map fun s=>match s with
 |.ow2 _=>.no
 |s=>s
section
theorem Fr.clear2    (f:Fr K H0 Hs0 la ρ σ H Hs):Fr K H0 Hs0 la (clear2 ρ) σ H Hs/\∀ (j:Nat) (d:List (List D)),¬ (J.clear2 ρ)[j]?=some (Sl.ow2 d):=by
 have un:∀ {j:Nat}{s:Sl},(J.clear2 ρ)[j]?=some s->(∀ d,s≠.ow2 d)/\(ρ[j]?=some s\/s=.no):=fun {j s} e=>by
  unfold J.clear2 at e;rw [aK] at e;cases h:ρ[j]? with
  |none=>rw [h] at e;cases e
  |some t =>
   rw [h] at e;cases t with
   |ow2 d=>cases e;exact ⟨fun _ z=>(by cases z),.inr rfl⟩
   |no=>cases e;exact ⟨fun _ z=>(by cases z),.inl rfl⟩
   |shr d=>cases e;exact ⟨fun _ z=>(by cases z),.inl rfl⟩
   |lck d=>cases e;exact ⟨fun _ z=>(by cases z),.inl rfl⟩
   |own d=>cases e;exact ⟨fun _ z=>(by cases z),.inl rfl⟩
 have is:∀ {j:Nat}{s:Sl},s≠.no->(J.clear2 ρ)[j]?=some s->ρ[j]?=some s:=fun {j s} n e=>(un e).2.resolve_right n;have no2:∀ (j:Nat) (d:List (List D)),¬ (J.clear2 ρ)[j]?=some (Sl.ow2 d):=fun j d e=>(un e).1 d rfl;exact ⟨⟨f.st,by simp [J.clear2,f.len],fun j d h=>f.sh j d (is (fun z=>by cases z) h),fun j d h=>f.ow j d (is (fun z=>by cases z) h),fun j d h=>f.lk j d (is (fun z=>by cases z) h),fun j k d e a h1 h2=>f.dj j k d e a (is (fun z=>by cases z) h1) (is (fun z=>by cases z) h2),f.lh,fun j d h=>(no2 j d h).elim,fun j k d e h _=>(no2 j d h).elim⟩,no2⟩
end
def qe:List ac->Hp->Hp
 |[],H=>H
 |a::as,H=>qe as (upd H a (.lst []))
section
theorem xH:∀ (as:List ac) (H:Hp),(∀ a∈as,H a=none)->as.Nodup->df H (qe as H)
 |[],H,_,_=>.refl H
 |a::as,H,h,nd=>by
  obtain ⟨n1,n2⟩:=List.nodup_cons.mp nd;refine (iH (h a ao)).trans (xH as _ (fun b hb=>?_) n2);rw [av (fun (z:b=a)=>n1 (z ▸ hb))];exact h b (ar _ hb)
theorem CD:∀ (as:List ac) (H:Hp),as.Nodup->∀ a∈as,qe as H a=some (.lst [])
 |a::as,H,nd,b,hb=>by
  obtain ⟨n1,n2⟩:=List.nodup_cons.mp nd;show qe as (upd H a (.lst [])) b=_;by_cases hm:b∈as
  ·exact CD as _ n2 b hm
  ·have e:b=a:=(List.mem_cons.mp hb).resolve_right hm;subst e;have:∀ (as:List ac) (H:Hp),b∉as->qe as H b=H b:=by
    intro as;induction as with
    |nil=>intro H _;rfl
    |cons c as ih =>
     intro H h;show qe as (upd H c (.lst [])) b=_;rw [ih _ (fun z=>h (ar _ z)),av (fun (z:b=c)=>h (by rw [z];exact ao))]
   rw [this as _ hm,aB]
theorem lw:∀ (as:List ac) (H:Hp) (b:ac),qe as H b=none->H b=none/\b∉as
 |[],H,b,h=>⟨h,by simp⟩
 |a::as,H,b,h=>by
  obtain ⟨h1,h2⟩:=lw as (upd H a (.lst [])) b h;by_cases hb:b=a
  ·subst hb;rw [aB] at h1;cases h1
  ·rw [av hb] at h1;exact ⟨h1,fun z=>(List.mem_cons.mp z).elim hb h2⟩
def NW (i:Nat):ay->R Fl:=fun ρ=>.ok (.nx ((clear2 ρ).set i (.ow2 [[],[],[],[]])))
theorem QR (i:Nat)  (hN:c.X.N.Nodup) (hi:c.X.N[i]?=some x:=by rfl) (hx:OH c.X.env.scope x:=by first|exact i5 rfl|exact eW rfl)
  (hs:fm (.List [.List [] p1,.List [] p2,.List [] p3,.List [] p4] p) (some (.Name x pos')) spos.line c.X.env=pure false:=by rfl)
  (hf:c.X.fn x=true\/c.X.env.scope.names.lookup x=some .local:=by first|exact .inl rfl|exact .inr rfl|assumption)
  (h1:am [.List [] p1,.List [] p2,.List [] p3,.List [] p4] c.X.env=(false,bY (.List [] p1) c.X.env)::am [.List [] p2,.List [] p3,.List [] p4] c.X.env:=by rfl)
  (h2:am [.List [] p2,.List [] p3,.List [] p4] c.X.env=(false,bY (.List [] p2) c.X.env)::am [.List [] p3,.List [] p4] c.X.env:=by rfl)
  (h3:am [.List [] p3,.List [] p4] c.X.env=(false,bY (.List [] p3) c.X.env)::am [.List [] p4] c.X.env:=by rfl)
  (h4:am [.List [] p4] c.X.env=(false,bY (.List [] p4) c.X.env)::am [] c.X.env:=by rfl) :
  JS c (.Assign [.Name x pos'] (.List [.List [] p1,.List [] p2,.List [] p3,.List [] p4] p) spos) (NW i):=.of fun ρ=>by
 refine AV (AA hN hi hx (jj (bO (jj dG) (bO (jj dG) (bO (jj dG) (bO (jj dG) dG h4) h3) h2) h1)) hs hf) fun D σ H h_0=>?_;obtain ⟨H0,Hs0,la,Hs,f,q⟩:=h_0;replace q:nD c.X.K c.cls c.E H0 Hs0 la D (NW i ρ):=q;obtain ⟨f,no2⟩:=f.clear2;refine ⟨dg _,fun a1 n1=>⟨dg _,fun a2 n2=>⟨dg _,fun a3 n3=>⟨dg _,fun a4 n4=>⟨bi (bU (show 4<=1000 by decide)),fun a n=>?_⟩⟩⟩⟩⟩;have N:=lw [a1,a2,a3,a4] H a n;have N4:=lw [a1,a2,a3] H a4 n4;have N3:=lw [a1,a2] H a3 n3;have N2:=lw [a1] H a2 n2;simp only [aV,aN,or_false,not_or] at N N4 N3 N2;have nd:[a1,a2,a3,a4].Nodup:=by
  simp only [List.nodup_cons,aV,aN,or_false,not_or,m6,and_true,not_false_eq_true];exact ⟨⟨eV N2.2,eV N3.2.1,eV N4.2.1⟩,⟨eV N3.2.2,eV N4.2.2.1⟩,eV N4.2.2.2⟩
 have free:∀ b∈[a1,a2,a3,a4],H b=none:=fun b hb=>by
  simp only [aV,aN,or_false] at hb;rcases hb with rfl|rfl|rfl|rfl
  ·exact n1
  ·exact N2.1
  ·exact N3.1
  ·exact N4.1
 have nd5:(a::[a1,a2,a3,a4]).Nodup:=List.nodup_cons.mpr ⟨by simp only [aV,aN,or_false,not_or];exact N.2,nd⟩;have sm:df H (qe [a1,a2,a3,a4] H):=xH _ _ free nd;have all:df H (upd (qe [a1,a2,a3,a4] H) a (.lst [.ref a1,.ref a2,.ref a3,.ref a4])):=sm.trans (iH n);have free5:∀ b∈a::[a1,a2,a3,a4],H b=none:=fun b hb=>(List.mem_cons.mp hb).elim (fun z=>z ▸ N.1) (free b);have st:cz H Hs (upd (qe [a1,a2,a3,a4] H) a (.lst [.ref a1,.ref a2,.ref a3,.ref a4])) Hs:=⟨all,.refl _,f.st.sub.trans all,fun _ _ _ _ z=>z⟩;have f':=f.step st;have hl:i<σ.length\/¬ i<σ.length:=Decidable.em _;have nx:∀ {j:Nat}{s:Sl},(∀ d,s≠.ow2 d)->((clear2 ρ).set i (.ow2 [[],[],[],[]]))[j]?=some s->(clear2 ρ)[j]?=some s/\i≠j:=fun {j s} hs e=>by
  by_cases hj:i=j
  ·subst hj;by_cases hi:i<(clear2 ρ).length
   ·rw [aL hi] at e;exact absurd (bJ e).symm (hs _)
   ·rw [cg (by simpa using hi)] at e;cases e
  ·rw [aj hj] at e;exact ⟨e,hj⟩
 refine q _ _ Hs ⟨f'.st,by simp [f'.len],fun j d h=>?_,fun j d h=>?_,fun j d h=>?_,fun j k d d' b h1 h2 h3 h4=>?_,f'.lh,fun j d h=>?_,fun j k d d' h1 h2=>?_⟩
 ·obtain ⟨h,hj⟩:=nx (fun _ z=>by cases z) h;rw [aj hj];exact f'.sh j d h
 ·obtain ⟨h,hj⟩:=nx (fun _ z=>by cases z) h;rw [aj hj];exact f'.ow j d h
 ·obtain ⟨h,hj⟩:=nx (fun _ z=>by cases z) h;rw [aj hj];exact f'.lk j d h
 ·obtain ⟨h1,hj⟩:=nx (fun _ z=>by cases z) h1;obtain ⟨h2,hk⟩:=nx (fun _ z=>by cases z) h2;rw [aj hj] at h3;rw [aj hk] at h4;exact f'.dj j k d d' b h1 h2 h3 h4
 ·by_cases hj:i=j
  ·subst hj;by_cases hi:i<(clear2 ρ).length
   ·rw [aL hi] at h;cases h;have at4:=CD [a1,a2,a3,a4] H nd;have ne:∀ b∈[a1,a2,a3,a4],b≠a:=fun b hb z=>(List.nodup_cons.mp nd5).1 (z ▸ hb);have go:∀ b∈[a1,a2,a3,a4],upd (qe [a1,a2,a3,a4] H) a (.lst [.ref a1,.ref a2,.ref a3,.ref a4]) b=some (.lst []):=fun b hb=>by rw [av (ne b hb)];exact at4 b hb
    refine ⟨a,[a1,a2,a3,a4],aL (by rw [<- f'.len];exact hi),aB,nd5,fun b hb=>⟨f.st.sub.free (free5 b hb),f.st.all.free (free5 b hb)⟩,fun b hb k e hk=>?_,.cons (go _ (by simp)) .nil (.cons (go _ (by simp)) .nil (.cons (go _ (by simp)) .nil (.cons (go _ (by simp)) .nil .nil)))⟩;obtain ⟨hk,nk⟩:=nx (fun _ z=>by cases z) hk;rw [aj nk];intro z;obtain ⟨b',o,k1,k2,_⟩:=f.ow k e hk;rw [z] at k1;cases k1;rw [free5 b hb] at k2;cases k2
   ·rw [cg (by simpa using hi)] at h;cases h
  ·rw [aj hj] at h;exact (no2 j d h).elim
 ·by_cases hj:i=j
  ·by_cases hk:i=k
   ·exact hj.symm.trans hk
   ·rw [aj hk] at h2;exact (no2 k d' h2).elim
  ·rw [aj hj] at h1;exact (no2 j d h1).elim
theorem KG  (h:JS c st gs):JS c st (fun ρ=>gs (ej ρ)):=.of fun ρ=>AV (h (ej ρ)) fun D σ H h_1=>by
 obtain ⟨H0,Hs0,la,Hs,f,q⟩:=h_1;obtain ⟨Hs',f'⟩:=f.shared;exact ⟨H0,Hs0,la,Hs',f',q⟩
def shareAt (i:Nat) (ρ:ay):ay:=match ρ[i]? with
 |some (Sl.own d)=>ρ.set i (.shr d)
 |_=>ρ
theorem Fr.shareAt     (f:Fr K H0 Hs0 la ρ σ H Hs) (i:Nat):∃ Hs',Fr K H0 Hs0 la (J.shareAt i ρ) σ H Hs':=by
 unfold J.shareAt;split
 ·rename_i d ho
  obtain ⟨a,o,k1,k2,k3,k4,k5⟩:=f.ow i d ho;have hil:i<ρ.length:=(List.getElem?_eq_some_iff.mp ho).1;have up:df Hs (upd Hs a o):=iH k3;have nx:∀ {j:Nat}{s:Sl},(∀ d,s≠.shr d)->(ρ.set i (.shr d))[j]?=some s->ρ[j]?=some s/\i≠j:=fun {j s} hs e=>by
   by_cases hj:i=j
   ·subst hj;rw [aL hil] at e;exact absurd (bJ e).symm (hs d)
   ·rw [aj hj] at e;exact ⟨e,hj⟩
  have ne:∀ (j:Nat) (e:D) (b:ac),i≠j->ρ[j]?=some (Sl.own e)->σ[j]?=some (some (V.ref b))->b≠a:=fun j e b hj h hb z=>by
   subst z;exact hj (f.dj i j d e b ho h k1 hb)
  refine ⟨upd Hs a o,⟨f.st.all,f.st.sh.trans up,fun b u e=>?_,fun b u e t z=>?_⟩,by simp [f.len],fun j e h=>?_,fun j e h=>?_,fun j e h=>?_,fun j k d1 d2 b h1 h2 h3 h4=>?_,f.lh,fun j e h=>?_,fun j k d1 d2 h1 h2=>?_⟩
  ·by_cases hb:b=a
   ·subst hb;rw [aB] at e;cases e;exact k2
   ·rw [av hb] at e;exact f.st.sub b u e
  ·rw [av (aE e k4)];exact f.st.out b u e t z
  ·by_cases hj:i=j
   ·subst hj;rw [aL hil] at h;cases h;exact ⟨_,k1,k5.share k3⟩
   ·rw [aj hj] at h;obtain ⟨v,q1,q2⟩:=f.sh j e h;exact ⟨v,q1,q2.same up⟩
  ·obtain ⟨h,hj⟩:=nx (fun _ z=>by cases z) h;obtain ⟨b,u,q1,q2,q3,q4,q5⟩:=f.ow j e h;exact ⟨b,u,q1,q2,by rw [av (ne j e b hj h q1)];exact q3,q4,q5.same up⟩
  ·obtain ⟨h,hj⟩:=nx (fun _ z=>by cases z) h;obtain ⟨b,u,q1,q2,q3,q4,q5,q6⟩:=f.lk j e h;exact ⟨b,u,q1,q2,q3,by rw [av (aE q5 k4)];exact q4,q5,q6.same up⟩
  ·exact f.dj j k d1 d2 b (nx (fun _ z=>by cases z) h1).1 (nx (fun _ z=>by cases z) h2).1 h3 h4
  ·obtain ⟨h,hj⟩:=nx (fun _ z=>by cases z) h;obtain ⟨b,as,O⟩:=f.o2 j e h;refine ⟨b,as,O.at_,O.ob,O.nd,fun c hc=>⟨?_,(O.out c hc).2⟩,fun c hc k e' hk=>O.dj c hc k e' (nx (fun _ z=>by cases z) hk).1,O.inn.step (.refl _) up⟩;rw [av (fun z=>O.dj c hc i d ho (by rw [z];exact k1))];exact (O.out c hc).1
  ·exact f.u2 j k d1 d2 (nx (fun _ z=>by cases z) h1).1 (nx (fun _ z=>by cases z) h2).1
 ·exact ⟨Hs,f⟩
theorem EW (i:Nat)  (h:JS c st gs):JS c st (fun ρ=>gs (shareAt i ρ)):=.of fun ρ=>AV (h (shareAt i ρ)) fun D σ H h_2=>by
 obtain ⟨H0,Hs0,la,Hs,f,q⟩:=h_2;obtain ⟨Hs',f'⟩:=f.shareAt i;exact ⟨H0,Hs0,la,Hs',f',q⟩
theorem zS.get    (h:zS K H Hs as dss):∀ {j:Nat}{ds:List D},dss[j]?=some ds->∃ b vs,as[j]?=some b/\H b=some (.lst vs)/\RDs K Hs vs ds:=by
 induction h with
 |nil=>intro j ds e;cases e
 |cons h r t ih =>
  intro j ds e;cases j with
  |zero=>cases e;exact ⟨_,_,rfl,h,r⟩
  |succ j=>have q:=ih (j:=j) e;exact q
theorem zS.set    (r':RDs K Hs vs' ds'):∀ {as:List ac}{dss:List (List D)}{j:Nat}{b:ac},zS K H Hs as dss->as[j]?=some b->as.Nodup->zS K (L2.upd H b (.lst vs')) Hs as (dss.set j ds')
 |_,_,_,_,.nil,h,_=>by simp at h
 |_,_,0,b,.cons h r t,e,nd=>by
  simp at e;subst e;exact .cons aB r' (t.upd (List.nodup_cons.mp nd).1)
 |_,_,j+1,b,.cons (a:=a) h r t,e,nd=>by
  have e':_:=e;simp only [jh] at e';obtain ⟨n1,n2⟩:=List.nodup_cons.mp nd;have hb:b∈_:=kL e';exact .cons (by rw [av (fun z=>n1 (by rw [z];exact hb))];exact h) r (zS.set r' t e' n2)
def nI (i:Nat) (gi g:ay->R D):ay->R Fl:=fun ρ=>match ρ[i]? with
 |some (Sl.ow2 dss)=>(gi ρ).bind fun k=>match k with
  |.int j=>if 0<=j then (match dss[j.toNat]? with
   |some ds=>(g ρ).bind fun d=>if ds.length<1000 then .ok (.nx (ρ.set i (.ow2 (dss.set j.toNat (ds++[d]))))) else .no
   |none=>.no) else .no
  |_=>.no
 |_=>.no
theorem xI (i:Nat) (hie:JE c ie gi) (h:JE c e g) (hN:c.X.N[i]?=some x:=by rfl) (hv:MS c.X.env.scope x:=by first|exact i5 rfl|exact eW (i5 rfl)|exact eW (eW rfl)) (hd:(x==("__debug__" : Str))=false:=by decide)
  (hcd:(x==("__classdict__" : Str))=false:=by decide) (hpx:wF ie:=by exact fun _ _=>rfl)
  (hbase:iq (.Subscript (.Name x p) ie p3) "append" c.X.env (bY (.Subscript (.Name x p) ie p3) c.X.env)=bY (.Subscript (.Name x p) ie p3) c.X.env:=by rfl)
  (hfew:((da cpos (am [e] c.X.env)).all (fun x=>!x.1)&&(kr cpos (fP [] c.X.env)).all (fun x=>x.1.isSome)
   && decide ([e].length+([] : List nh).length+(if ([] : List nh).isEmpty then 0 else 1)<30))=true:=by rfl)
  (hline:(apos.endLine==cpos.line)=true:=by rfl) (hst:am [e] c.X.env=(false,bY e c.X.env)::am [] c.X.env:=by rfl) (hplain:(da cpos (am [] c.X.env)).any (·.1)=false:=by rfl)
  (hs:fm (.Call (.Attribute (.Subscript (.Name x p) ie p3) "append" apos) [e] [] cpos) none pos.line c.X.env=pure false:=by rfl) :
  JS c (.Expr (.Call (.Attribute (.Subscript (.Name x p) ie p3) "append" apos) [e] [] cpos) pos) (nI i gi g):=.of fun ρ=>by
 refine AV (m7 (vF cJ mJ mK uH (OT wG (pT hN hv hd hcd) (hie ρ) hpx) (bO (h ρ) dG hst) hbase hfew hline hst hplain) hs) fun D σ H h_3=>?_;obtain ⟨H0,Hs0,la,Hs,f,q⟩:=h_3;replace q:nD c.X.K c.cls c.E H0 Hs0 la D (nI i gi g ρ):=q;unfold nI at q;split at q
 ·rename_i dss ho
  obtain ⟨a,as,O⟩:=f.o2 i dss ho;refine ⟨_,O.at_,?_⟩;refine sE f q fun k v H1 Hs1 e1 s1 f1 r1=>?_;rw [e1,bind_ok] at q;cases r1 with
  |int j =>
   simp only at q;by_cases hj:0<=j
   ·rw [if_pos hj] at q;split at q
    ·rename_i ds hds
     obtain ⟨b,vs,hb,hH,rv⟩:=O.inn.get hds;have hix:DF (as.map V.ref) j=some (.ref b):=by
      have:=o6 (xs:=as.map V.ref) (j:=j.toNat) (v:=V.ref b) (by rw [aK,hb];rfl)
      rwa [cG hj] at this
     refine ⟨a,_,j,_,rfl,rfl,.of (s1.all _ _ O.ob),hix,.inl ⟨rfl,_,.of (s1.all _ _ hH)⟩,?_⟩;refine sE f1 q fun d w H2 Hs2 e2 s2 f2 r2=>?_;rw [e2,bind_ok] at q;by_cases hl:ds.length<1000
     ·rw [if_pos hl] at q;have st:=s1.trans s2;refine ⟨b,vs,w,rfl,rfl,st.all _ _ hH,bU (by rw [rv.length];omega),?_⟩;have hil:i<ρ.length:=(List.getElem?_eq_some_iff.mp ho).1;obtain ⟨a',as',O2'⟩:=f2.o2 i dss ho;have ea:a'=a:=by
       have:=O2'.at_;rw [O.at_] at this;cases this;rfl
      subst ea;have eas:as'=as:=by
       have h1:=O2'.ob;rw [st.all _ _ O.ob] at h1;injection h1 with h1;injection h1 with h1;exact (List.map_inj_right (fun x y z=>by cases z;rfl) |>.mp h1).symm
      subst eas;have hbm:b∈a'::as':=ar _ (kL hb);have nb:b≠a':=fun z=>(List.nodup_cons.mp O.nd).1 (z ▸ kL hb);obtain ⟨bs,b0⟩:=O2'.out b hbm;have nx:∀ {j':Nat}{s:Sl},(∀ d,s≠.ow2 d)->(ρ.set i (.ow2 (dss.set j.toNat (ds++[d]))))[j']?=some s->ρ[j']?=some s/\i≠j':=fun {j' s} hs e=>by
       by_cases hj:i=j'
       ·subst hj;rw [aL hil] at e;exact absurd (bJ e).symm (hs _)
       ·rw [aj hj] at e;exact ⟨e,hj⟩
      refine q _ _ Hs2 ⟨⟨fun c u e=>?_,f2.st.sh,fun c u e=>?_,f2.st.out⟩,by simp [f2.len],fun j' d' h=>f2.sh j' d' (nx (fun _ z=>by cases z) h).1,fun j' d' h=>?_,fun j' d' h=>?_,fun j' k' d' e' a h1 h2=>f2.dj j' k' d' e' a (nx (fun _ z=>by cases z) h1).1 (nx (fun _ z=>by cases z) h2).1,f2.lh,fun j' d' h=>?_,fun j' k' d' e' h1 h2=>?_⟩
      ·rw [av (aE e b0)];exact f2.st.all c u e
      ·rw [av (aE e bs)];exact f2.st.sub c u e
      ·obtain ⟨h,_⟩:=nx (fun _ z=>by cases z) h;obtain ⟨c',u,k1,k2,k3,k4,k5⟩:=f2.ow j' d' h;refine ⟨c',u,k1,?_,k3,k4,k5⟩;rw [av (fun z=>O2'.dj b hbm j' d' h (by rw [<- z];exact k1))];exact k2
      ·obtain ⟨h,_⟩:=nx (fun _ z=>by cases z) h;obtain ⟨c',u,k1,k2,k3,k4,k5,k6⟩:=f2.lk j' d' h;refine ⟨c',u,k1,k2,?_,k4,k5,k6⟩;rw [av (aE k5 b0)];exact k3
      ·by_cases hj':i=j'
       ·subst hj';rw [aL hil] at h;cases h;refine ⟨a',as',O2'.at_,by rw [av (eV nb)];exact O2'.ob,O2'.nd,O2'.out,fun c hc k e' hk=>O2'.dj c hc k e' (nx (fun _ z=>by cases z) hk).1,?_⟩;exact zS.set ((rv.same st.sh).append (.cons r2 .nil)) O2'.inn hb (List.nodup_cons.mp O2'.nd).2
       ·rw [aj hj'] at h;exact (hj' (f2.u2 i j' _ _ ho h)).elim
      ·by_cases hj':i=j'
       ·by_cases hk':i=k'
        ·exact hj'.symm.trans hk'
        ·rw [aj hk'] at h2;exact (hk' (f2.u2 i k' _ _ ho h2)).elim
       ·rw [aj hj'] at h1;exact (hj' (f2.u2 i j' _ _ ho h1)).elim
     ·rw [if_neg hl] at q;exact q.elim
    ·exact q.elim
   ·rw [if_neg hj] at q;exact q.elim
  |none=>exact q.elim
  |bool _=>exact q.elim
  |str _=>exact q.elim
  |list _ _=>exact q.elim
  |tuple _ _=>exact q.elim
  |dictK _ _=>exact q.elim
  |dictT _ _ _=>exact q.elim
  |dictF _ _ _=>exact q.elim
  |desk _ _ _ _=>exact q.elim
 ·exact q.elim
end
end
section
open PyProof.Rows (OwnCls)
theorem NX (l:ac) (items:Array a9) (n:Nat) (b:ac) (dd:Option ac) (items2:Array a9) (n2:Nat) (sl:Array (Option a9)) (door:¬(!items.isEmpty&&e_ (items.size+items2.size))=true) (z1:items.size<=sizeLine) (z2:items.size+items2.size<=sizeLine+1) :
  Meets (j8.«list.extend» ⟨[.ref l,.ref b],[]⟩) (fun _ R s=>s.heap.get? l=some { cls:=.type "list",data:=.seq items n }/\s.heap.get? b=some { cls:=.type "list",dict:=dd,data:=.seq items2 n2,slots:=sl } /\
   R (.ok (.ret cX)) { s with heap:=s.heap.update l (jg fun xs=>xs++items2),toks:=s.toks }) :=
 .of_wp fun prog w A R s h=>by
  obtain ⟨hp,gg,dr,tk,os⟩:=s;obtain ⟨hl,hb,h⟩:=h;have f1:=AutoSeq1.idx_int;have f2:=AutoSeq1.sub_tuple_tuple;have f3:=AutoSeq1.sub_list_list;have f4:=AutoSeq1.sub_tuple_list;have f5:=AutoSeq1.sub_list_tuple;have tL:(items++items2).size<=sizeLine+1:=by rw [IN];exact z2
  wp_walk using (BS hl rfl (hz:=z1) (_hz':=tL)),wpAny_loadPart' hl,wpAny_loadPart' hb;exact ⟨_,rfl,h⟩
section
inductive Pc (K:a7) (x:V) (vs:List V) (H:Hp) (Q:VK):Prop
 |mk (l b xs zs:_) (h0:x=.ref l) (h1:vs=[.ref b]) (h2:H l=some (.lst xs)) (h3:nY K H b zs) (h4:xs.length+zs.length<=sizeLine) (h5:Q .non (upd H l (.lst (xs++zs)))):Pc K x vs H Q
def UV (K:a7):V->List V->Hp->VK->Prop:=Pc K
theorem QS:UA X "list.extend" (UV X.K):=by
 intro pins s σ H x vs v us Q I rx rv h;obtain ⟨l,b,xs,zs,rfl,rfl,hH,hB,hz,q⟩:=h;cases rx;obtain ⟨u,rfl,ru⟩:=rv.one;cases ru;obtain ⟨z,its,n,r,hl,e⟩:=I.lstM hH;obtain ⟨its2,r2,⟨⟨m1,m2,m3,m4⟩,n2,e2,d1,d2,d3⟩,z2⟩:=I.list hB;simp only at d1 d2 d3;subst d1 d2 d3;have len2:=r2.length;have fit:its.toArray.size+its2.toArray.size<=sizeLine:=by rw [aC,aC];omega
 refine n_ Mz ⟨_,e,rfl⟩ Mj (IV _ _) (NX l its.toArray n b _ its2.toArray n2 m4 ?_ (by omega) (by omega)) ⟨e,e2,?_⟩
 ·rw [xc fit,zv];exact aM
 ·refine ⟨.non,_,I.lset (its':=its++its2) hH e (by simp) (r.append r2) ?_,rfl,q⟩;rw [a_];omega
end
section
def uU (i:Nat) (g:ay->R D):ay->R Fl:=fun ρ=>match ρ[i]? with
 |some (Sl.own (.list ds))=>(g ρ).bind fun d=>match d with
  |.list es=>if ds.length+es.length<=1000 then .ok (.nx (ρ.set i (.own (.list (ds++es))))) else .no
  |_=>.no
 |_=>.no
theorem j2 (i:Nat) (h:JE c e g) (hN:c.X.N[i]?=some x:=by rfl) (hv:MS c.X.env.scope x:=by first|exact i5 rfl|exact eW (i5 rfl)|exact eW (eW rfl)) (hd:(x==("__debug__" : Str))=false:=by decide)
  (hcd:(x==("__classdict__" : Str))=false:=by decide)
  (hbase:iq (.Name x p) "extend" c.X.env (bY (.Name x p) c.X.env)=bY (.Name x p) c.X.env:=by rfl)
  (hfew:((da cpos (am [e] c.X.env)).all (fun x=>!x.1)&&(kr cpos (fP [] c.X.env)).all (fun x=>x.1.isSome)
   && decide ([e].length+([] : List nh).length+(if ([] : List nh).isEmpty then 0 else 1)<30))=true:=by rfl)
  (hline:(apos.endLine==cpos.line)=true:=by rfl) (hst:am [e] c.X.env=(false,bY e c.X.env)::am [] c.X.env:=by rfl) (hplain:(da cpos (am [] c.X.env)).any (·.1)=false:=by rfl)
  (hs:fm (.Call (.Attribute (.Name x p) "extend" apos) [e] [] cpos) none pos.line c.X.env=pure false:=by rfl) :
  JS c (.Expr (.Call (.Attribute (.Name x p) "extend" apos) [e] [] cpos) pos) (uU i g):=.of fun ρ=>by
 refine AV (m7 (vF cJ mL mM QS (pT hN hv hd hcd) (bO (h ρ) dG hst) hbase hfew hline hst hplain) hs) fun D σ H h_0=>?_;obtain ⟨H0,Hs0,la,Hs,f,q⟩:=h_0;replace q:nD c.X.K c.cls c.E H0 Hs0 la D (uU i g ρ):=q;unfold uU at q;split at q
 ·rename_i ds ho
  obtain ⟨a,o,k1,k2,k3,k4,k5⟩:=f.ow i _ ho;cases k5 with
  | @lst vs _ r =>
   refine ⟨_,k1,.inl ⟨rfl,_,.of k2⟩,?_⟩;refine sE f q fun d v H1 Hs1 e1 s1 f1 r1=>?_;rw [e1,bind_ok] at q;cases r1 with
   | @list b zs es sq rs =>
    simp only at q;by_cases hl:ds.length+es.length<=1000
    ·rw [if_pos hl] at q;have r':=r.same s1.sh;exact ⟨a,b,vs,zs,rfl,rfl,s1.all _ _ k2,f1.st.sub.seq sq,bi (bU (by rw [r.length,rs.length];exact hl)),q _ _ Hs1 (f1.write i ho k1 (.lst (r'.append rs)))⟩
    ·rw [if_neg hl] at q;exact q.elim
   |none=>exact q.elim
   |bool _=>exact q.elim
   |int _=>exact q.elim
   |str _=>exact q.elim
   |tuple _ _=>exact q.elim
   |dictK _ _=>exact q.elim
   |dictT _ _ _=>exact q.elim
   |dictF _ _ _=>exact q.elim
   |desk _ _ _ _=>exact q.elim
 ·exact q.elim
end
structure Er (mg:Str->Option a9) (base:br) (cls:Str->ac) (x:Str):Prop where
 ex:∃ bmB newId initId Bn,OwnCls x (cls x) bmB newId mg base/\ExcBaseFacts Bn newId initId bmB
def lz (x:Str) (gs:ay->R (List D)):ay->R Fl:=fun ρ=>(gs ρ).bind fun ds=>if ds.length<=1000 then .ex x none else .no
section
theorem nJ {x:Str}{np cpos pos:Pos}{e0:bc}{bM:List bc}{gs:ay->R (List D)} (R0:Er mg base cls x)
  (hg:Gl (iT (kR P w) P w K mg base N qual scope f cd A outer s H E) x) (ha:DG ⟨iT (kR P w) P w K mg base N qual scope f cd A outer s H E,cls,E⟩ (e0::bM) gs)
  (he:am (e0::bM) (iT (kR P w) P w K mg base N qual scope f cd A outer s H E).env=(false,bY e0 (iT (kR P w) P w K mg base N qual scope f cd A outer s H E).env)::am bM (iT (kR P w) P w K mg base N qual scope f cd A outer s H E).env:=by rfl)
  (hdb:(x==("__debug__" : Str))=false:=by decide) (hpl:(da cpos (am bM (iT (kR P w) P w K mg base N qual scope f cd A outer s H E).env)).any (·.1)=false:=by rfl) :
  JS ⟨iT (kR P w) P w K mg base N qual scope f cd A outer s H E,cls,E⟩ (.Raise (some (.Call (.Name x np) (e0::bM) [] cpos)) none pos) (lz x gs):=.of fun ρ=>by
 obtain ⟨bmB,newId,initId,Bn,O,FB⟩:=R0.ex;refine AV (K7 O FB hg (ha ρ) he hdb hpl) fun D σ H1 h_1=>?_;obtain ⟨H0,Hs0,la,Hs,f,q⟩:=h_1;replace q:nD K cls E H0 Hs0 la D (lz x gs ρ):=q;refine ⟨H0,Hs0,la,Hs,f,?_⟩;unfold lz at q;cases hr:gs ρ with
 |no=>rw [hr] at q;exact q
 |ex y n=>rw [hr] at q;exact fun H' Hs' s=>q H' Hs' (f.st.trans s)
 |ok ds =>
  rw [hr,bind_ok] at q;intro vs H2 Hs2 s2 r2;by_cases hl:ds.length<=1000
  ·rw [if_pos hl] at q;exact ⟨bi (bU (by rw [r2.length];exact hl)),q H2 Hs2 (f.st.trans s2)⟩
  ·rw [if_neg hl] at q;exact q.elim
end
end
section
structure Bi (mg:Str->Option a9):Prop where
 len:mg "len"=none
 isinstance:mg "isinstance"=none
 all:mg "all"=none
 any:mg "any"=none
 zip:mg "zip"=none
 tuple:mg "tuple"=none
 list:mg "list"=none
 sorted:mg "sorted"=none
 set:mg "set"=none
 range:mg "range"=none
 enumerate:mg "enumerate"=none
 dict:mg "dict"=none
 sum:mg "sum"=none
 max:mg "max"=none
 min:mg "min"=none
 reversed:mg "reversed"=none
 str:mg "str"=none
 int:mg "int"=none
 bool:mg "bool"=none
end
section
structure Xf (K:a7) (base:br) (cls:Str->ac) (names:List Str) (C:ac) (j:Nat):Prop where
 ek:K9 K C
 is:∀ i n,names[i]?=some n->de K (.ref C) (.ref (cls n))=some (decide (i=j))
 ve:de K (.ref C) (.type "ValueError")=some true
 ox:∃ bm,AS base C bm/\bm.contains (.ref (cls "PlanError"))=true
 lt:j<11
inductive Pd (K:a7) (base:br) (cls:Str->ac) (names:List Str) (vs:List V) (H:Hp) (Q:VK) (z_3:XK):Prop
 |mk (ea C j:_) (h0:vs=[.ref ea]) (h1:H ea=some (xo ea C)) (h2:Xf K base cls names C j) (h3:∀ t H',df H H'->H t=none->H' t=some (.tup [.str "refused",.int (j:Nat)])->Q (.ref t) H'):Pd K base cls names vs H Q z_3
def QT (K:a7) (base:br) (cls:Str->ac) (names:List Str):Sp:=Pd K base cls names
def wk (j:Nat):List Bool:=[decide (0=j),decide (1=j),decide (2=j),decide (3=j),decide (4=j),decide (5=j),decide (6=j),decide (7=j),decide (8=j),decide (9=j),decide (10=j)]
theorem EX:∀ j,j<11->(wk j).countP id=1:=by
 intro j h;have:∀ k:_root_.Fin 11,(wk k.val).countP id=1:=by decide
 exact this ⟨j,h⟩
theorem NY:∀ j,j<11->(wk j)[j]?=some true/\∀ m,m<j->(wk j)[m]?=some false:=by
 intro j h;have:∀ k:_root_.Fin 11,(wk k.val)[k.val]?=some true/\∀ m:_root_.Fin 11,m.val<k.val->(wk k.val)[m.val]?=some false:=by decide
 exact ⟨(this ⟨j,h⟩).1,fun m hm=>(this ⟨j,h⟩).2 ⟨m,by omega⟩ hm⟩
section
theorem lA   (h0:PE X e0 (w4 0)) (hg:Gl X "isinstance") (hm:X.mg "isinstance"=none) (hgn:Gl X n) (hmn:X.mg n=some (.ref (cls n))) (hdb:(n==("__debug__" : Str))=false:=by decide)
  (he:am [e0,.Name n p2] X.env=(false,bY e0 X.env)::am [.Name n p2] X.env:=by rfl) (hpl:(da pos (am [.Name n p2] X.env)).any (·.1)=false:=by rfl) :
  PE X (.Call (.Name "isinstance" p) [e0,.Name n p2] [] pos) (fun σ H Q=>∃ ea C j i,σ[0]?=some (some (V.ref ea))/\H ea=some (xo ea C)/\Xf X.K base cls names C j/\names[i]?=some n/\Q (.bl (decide (i=j))) H) :=
 pH (nu vI hg hm jB (bO h0 (bO (FY hgn hmn (v:=.ref (cls n)) rfl hdb) dG) he) (by decide) (by decide) he hpl) fun σ H Q ⟨ea,C,j,i,h1,h2,x,h3,q⟩ =>
  ⟨_,h1,.ref ea,.ref (cls n),.ref (cls n),_,rfl,.inr ⟨_,rfl,rfl⟩,.inr ⟨ea,C,rfl,h2,x.ek,x.is i n h3⟩,q⟩
theorem NZ  (h0:PE X e0 (w4 0)) (hg:Gl X "isinstance") (hm:X.mg "isinstance"=none) (hgn:Gl X "ValueError") (hmn:X.mg "ValueError"=none)
  (he:am [e0,.Name "ValueError" p2] X.env=(false,bY e0 X.env)::am [.Name "ValueError" p2] X.env:=by rfl) (hpl:(da pos (am [.Name "ValueError" p2] X.env)).any (·.1)=false:=by rfl) :
  PE X (.Call (.Name "isinstance" p) [e0,.Name "ValueError" p2] [] pos) (fun σ H Q=>∃ ea C j,σ[0]?=some (some (V.ref ea))/\H ea=some (xo ea C)/\Xf X.K base cls names C j/\Q (.bl true) H) :=
 pH (nu vI hg hm jB (bO h0 (bO (FZ hgn hmn (u:=.type "ValueError") (v:=.ty "ValueError") rfl rfl) dG) he) (by decide) (by decide) he hpl) fun σ H Q ⟨ea,C,j,h1,h2,x,q⟩ =>
  ⟨_,h1,.ref ea,.ty "ValueError",.type "ValueError",_,rfl,.inl ⟨_,rfl,rfl⟩,.inr ⟨ea,C,rfl,h2,x.ek,x.ve⟩,q⟩
end
end
end J
section
namespace J
open PySem L2
def EY (wh:Str->Option Nat) (gb:ay->R Fl):ay->R Fl:=fun ρ=>match gb ρ with
 |.ok fl=>.ok fl
 |.ex y none=>match wh y with
  |some j=>.ok (.rt (.tuple [.str "refused",.int (j:Nat)]))
  |none=>.no
 |_=>.no
structure Wh (P:aR) (w:bh) (K:a7) (mg:Str->Option a9) (base:br) (cls:Str->ac) (x:Str) (names:List Str) (wh:Str->Option Nat):Prop where
 fn:∃ f fd ps,Cj P w K mg base 1 f fd ps (QT K base cls names)/\mg x=some (.ref f)/\bQ K (.ref f)=true/\fo K fd ps []
 pe:mg "PlanError"=some (.ref (cls "PlanError"))
 ox:∃ bp,AS base (cls "PlanError") bp
 xf:∀ y j,wh y=some j->Xf K base cls names (cls y) j
section
theorem Gu (i:Nat) (W:Wh c.X.prog c.X.w c.X.K c.X.mg c.X.base c.cls x names wh) (hb:∀ (E:XK) (xe:a9->ag->Prop) (pn:List (ac×Obj)),g_ (kR c.X.prog c.X.w) (QE c.X xe pn) E->EQ ⟨QE c.X xe pn,c.cls,E⟩ body gb)
  (hr:lu 1 c.X.A) (hgx:Gl c.X x) (hg:Gl c.X "PlanError") (hN:c.X.N.Nodup) (hi:c.X.N[i]?=some n:=by rfl) (hn:c.X.env.scope.names.lookup n=some .local:=by rfl)
  (hst:∃ l,c.X.stack=c.X.env::l/\c.X.env.frame=some c.X.env.locals:=by exact ⟨_,rfl,rfl⟩) (hex:c.X.ex=[]:=by rfl) (hdb:(x==("__debug__" : Str))=false:=by decide) (hd:(n==("__debug__" : Str))=false:=by decide) (hcd:(n==("__classdict__" : Str))=false:=by decide) :
  JS c (.Try body [.ExceptHandler (some (.Name "PlanError" np)) (some n) [.Return (some (.Call (.Name x np2) [.Name n np3] [] cpos)) rpos] hpos] [] [] pos) (EY wh gb):=.of fun ρ=>by
 obtain ⟨f,fd,ps,F,hm,hk,hbn⟩:=W.fn;obtain ⟨bp,y⟩:=W.ox;have hs:∀ ea,Ax (Rr c.X ea) [.Return (some (.Call (.Name x np2) [.Name n np3] [] cpos)) rpos] (RA (G3 (QT c.X.K c.X.base c.cls names) [] E0 (C0 (w4 i) B_))):=fun ea =>
  wC (E7 (Kb (X:=Rr c.X ea) F (hr.mark _) hgx hm hk hbn (bO (pT hi (.inl hn) hd hcd) dG) hdb))
 refine AV (QF hg W.pe y hN hi hn hst hex (tb:=fun E D σ H=>SR c.X.K c.cls E ρ (gb ρ) D σ H) (fun E xe pn hp=>hb E xe pn hp ρ) hs) fun D σ H h_0=>?_;obtain ⟨H0,Hs0,la,Hs,fr,q⟩:=h_0;replace q:nD c.X.K c.cls c.E H0 Hs0 la D (EY wh gb ρ):=q;refine ⟨H0,Hs0,la,Hs,fr,?_⟩;unfold EY at q;cases hr':gb ρ with
 |no=>rw [hr'] at q;exact q
 |ok fl =>
  rw [hr'] at q;cases fl<;>exact q
 |ex z m =>
  rw [hr'] at q;cases m with
  |some d=>exact q.elim
  |none =>
   simp only at q;cases hw:wh z with
   |none=>rw [hw] at q;exact q.elim
   |some j =>
    rw [hw] at q;have X0:=W.xf z j hw;intro H' Hs' st;obtain ⟨bm,o1,o2⟩:=X0.ox;refine ⟨c.cls z,bm,rfl,o1,o2,fun ea hea=>?_⟩;have hl:i<c.X.N.length:=(List.getElem?_eq_some_iff.mp hi).1;refine ⟨.ref ea,aL (by simpa [xp] using hl),ea,c.cls z,j,rfl,aB,X0,fun t H2 sm ht hT=>?_⟩;have s1:df H' (upd H' ea (xo ea (c.cls z))):=iH hea;have ht':H' t=none:=s1.free ht;refine q (.ref t) H2 (upd Hs' t (.tup [.str "refused",.int (j:Nat)])) ?_ (.tuple aB (.cons (.str _) (.cons (.int _) .nil)));refine st.trans ⟨s1.trans sm,iH (st.sub.free ht'),fun b u e=>?_,fun a o e _ z=>by rw [av (aE e ht')];exact z⟩;by_cases hb':b=t
    ·subst hb';rw [aB] at e;cases e;exact hT
    ·rw [av hb'] at e;exact sm b u (s1 b u (st.sub b u e))
end
end J
namespace L2
open PySem
theorem lu.mono1  (r:lu k A) (h:1<=k:=by decide):lu 1 A:=⟨by have:=r.dp;omega,by have:=r.un;omega⟩
end L2
end
namespace J
open PySem L2
section
open PyProof.Rows (OwnCls)
abbrev N_:List a9:=[.type "ValueError",.type "Exception",.type "BaseException",.type "object"]
theorem EZ {K:a7}{h:br}{mg:Str->Option a9}{x:Str}{C:ac}{bmB:List a9}{newId:String} (X:K.In h) (G:h.Ns ba mg) (e:dE K ba x=some (some (.ref C))) (q:yF K C bmB newId=true) (m1:bZ K C (.type "BaseException")=some true) :
  OwnCls x C bmB newId mg h/\∃ bm,AS h C bm/\∀ v,(v==bq C)=false->bZ K C v=some true->bm.contains v=true:=by
 have hmg:=gx X G e;unfold yF at q;split at q
 ·rename_i dd cd sl look
  split at q
  ·rename_i C' bm k0 k1 k2 k3 n k5 hmro hslots
   simp only [aJ,beq_iff_eq,I_] at q;obtain ⟨⟨⟨⟨⟨rfl,rfl⟩,nodel⟩,tl⟩,nsok⟩,noinit⟩:=q;have slots:sl=#[k0,k1,k2,k3,some (.builtin n),k5]:=by
    cases sl with|mk l=>simp only at hslots;rw [hslots]
   have inMro:∀ v,bZ K C' v=some true->cd.mro.contains v=true:=fun v hv=>by
    unfold bZ fu at hv;rw [look] at hv;simp only [Option.bind_some] at hv;split at hv
    ·cases hv
    ·exact bJ hv
   have bM:∀ v,(v==bq C')=false->bZ K C' v=some true->bm.contains v=true:=fun v nv hv=>by
    have:=inMro v hv;rw [hmro,jd,nv,sW] at this;exact this
   obtain ⟨nm,bs,mro,ns,qn,hd,sn,sub,ab,col,del⟩:=cd;dsimp only at hmro nodel nsok noinit;subst hmro nodel slots;have at_:=X _ _ look;exact ⟨⟨hmg,bm,ns,nm,qn,bs,hd,sn,sub,ab,col,dd,k0,k1,k2,k3,k5,_,at_,.of_isNs (ll X nsok),e7 X nsok noinit,PySem.W.tail_of_in X tl⟩,
    bm,⟨⟨nm,qn,ns,bs,hd,sn,sub,ab,col,dd,k0,k1,k2,k3,k5,n,at_⟩,bM _ rfl m1⟩,bM⟩
  ·cases q
 ·cases q
structure TopC (K:a7) (x:Str) (C:ac):Prop where
 ns:dE K ba x=some (some (.ref C))
 ex:yF K C N_ "ValueError.__new__"=true
 mb:bZ K C (.type "BaseException")=some true
theorem TopC.er {K:a7}{h:br}{mg:Str->Option a9}{cls:Str->ac}{x:Str}{C:ac} (T:TopC K x C) (X:K.In h) (G:h.Ns ba mg) (hc:cls x=C):Er mg h cls x:=by
 subst hc;exact ⟨_,_,_,_,(EZ X G T.ns T.ex T.mb).1,PySem.F.excBase_ValueError⟩
theorem O0 {K:a7}{t C:ac}{cd:ClassData}{b:Bool} (h1:fu K C=some cd) (h2:pK K (.ref C)=some (.type "type")) (h3:mO K (.ref t) (.ref C)=some b) (hn:b=false->t≠C):de K (.ref t) (.ref C)=some b:=by
 unfold de;split
 ·rename_i he
  have e:t=C:=by have:=eq_of_beq he;cases this;rfl
  cases b with
  |true=>rfl
  |false=>exact (hn rfl e).elim
 ·unfold J0;simp only [h1,h2,sL,beq_self_eq_true,BM,if_true];exact h3
theorem QU  (h3:mO K (.ref t) (.type "ValueError")=some true):de K (.ref t) (.type "ValueError")=some true:=by
 unfold de;split
 ·rename_i he
  cases (eq_of_beq he)
 ·unfold J0;show (if PySem.W.kitMeta "ValueError"=true then _ else none)=some true;rw [if_pos (by decide +kernel)];exact h3
inductive SB (K:a7) (F:List D->R D) (vs:List V) (H:Hp) (Q:VK) (z_3:XK):Prop
 |mk (Hs ds d:_) (h0:df Hs H) (h1:ds.length=1) (h2:RDs K Hs vs ds) (h3:F ds=.ok d) (h4:∀ v H' Hs',cz H Hs H' Hs'->RD K Hs' v d->Q v H'):SB K F vs H Q z_3
def SC (K:a7) (F:List D->R D):Sp:=SB K F
theorem QV   : ∀ vs H Q E,SC K F vs H Q E->Mv K cls 1 F vs H Q E:=fun vs H Q E ⟨Hs,ds,d,s,l,r,e,q⟩=>⟨Hs,ds,s,l,r,by rw [e];exact q⟩
def SD (l:List (Str×ac)):Str->ac:=fun x=>(l.lookup x).getD 0
theorem QW {K:a7}{F:List D->R D}{H:Hp}{a:ac}{ns:List Int} (hF:F [.list (ns.map .int)]=.ok (.bool true)) (h:nY K H a (ns.map V.int)):SC K F [.ref a] H (fun v _=>v=.bl true) fun _ _ _=>False:=by
 have ri:∀ ns:List Int,RDs K H (ns.map V.int) (ns.map .int):=fun ns=>by
  induction ns with
  |nil=>exact .nil
  |cons x r ih=>exact .cons (.int x) ih
 refine ⟨H,[.list (ns.map .int)],.bool true,.refl H,rfl,.cons (.list h (ri ns)) .nil,hF,?_⟩;intro v H' Hs' _ r;cases r;rfl
theorem QX      (h:kR P w [] H s (fun _ _ _=>False) e s'):False:=by
 obtain ⟨_,_,_,_,_,_,_,_,_,q⟩:=h;exact q
theorem walkF {l:vZ}{k:Nat}{q:aR}{loose:List Str}{XP:(Str->Option a9)->br->Prop}{YP:bh->br->Prop}{d:DefRec}{K:Params->a7}{x:Str}{F0:List D->R D}
  (hn:l.most=some 63) (hdf:d.params.defaults=[]) (hr:fX k vw) (hY:∀ (w:bh) (h:br),YP w h->(K w.params).In h)
  (F:∀ (w:bh) (mg:Str->Option a9) (fa:ac) (h:br),(K w.params).In h->h.Ns ba mg->mg d.name=some (.ref fa) ->
   ∃ fd:cP,(∀ (s:ag) (u:a9),vq s fd ⟨[u],[]⟩ [(x,u)])/\∀ base:br,(K w.params).In base->base.Ns ba mg->l_ l.prog w (K w.params) mg base (kR l.prog w) k fa fd [x] (SC (K w.params) F0))
  (hF:∀ ns:List Int,ns.length<=63->F0 [.list (ns.map .int)]=.ok (.bool true)) :
  Ml q loose XP YP l.row.toRowW d [] (fun f vs=>Hc f vs) :=
 L2.Nl (n:=63) (k:=k) (x:=x) (CX:=fun w=>kR l.prog w) (sp:=fun w=>SC (K w.params) F0) hn (by decide) hdf hr hY F (fun w H a ns hl _ hS=>QW (hF ns hl) hS) fun _ _ _ _ _ h=>QX h
def U6 (i:Nat) (g:ay->R Fl):ay->R Fl:=fun ρ=>g (shareAt i ρ)
theorem KH (i:Nat)  (h:JS c st gs):JS c st (U6 i gs):=EW i h
end
section
section
theorem B3 {α β:Type} (a:α) (f:α->R β):(R.ok a).bind f=f a:=id rfl
theorem SE {α β:Type} (c:Str) (n:Option D) (f:α->R β):(R.ex c n:R α).bind f=.ex c n:=id rfl
theorem SF {α β:Type} (f:α->R β):(R.no:R α).bind f=.no:=id rfl
def KI (h:ay->R Fl):Fl->R Fl:=fun fl=>match fl with
 |.nx ρ'=>h ρ'
 |fl=>.ok fl
theorem CF (g h:ay->R Fl):aS g h (s::ρ)=(g (s::ρ)).bind (KI h):=id rfl
theorem qf (h:ay->R Fl) (ρ:ay):KI h (.nx ρ)=h ρ:=id rfl
theorem CG (h:ay->R Fl) (d:D):KI h (.rt d)=.ok (.rt d):=id rfl
def UW (g h:ay->R Fl) (ρ:ay):Bool->R Fl:=fun b=>bif b then g ρ else h ρ
theorem SG (t:ay->R Bool) (g h:ay->R Fl):dR t g h (s::ρ)=(t (s::ρ)).bind (UW g h (s::ρ)):=by
 show (t (s::ρ)).bind _=_;congr 1;funext b;cases b<;>rfl
theorem KJ (g h:ay->R Fl) (ρ:ay):UW g h ρ false=h ρ:=id rfl
theorem KL (g h:ay->R Fl) (ρ:ay) (b:Bool):UW g h ρ b=bif b then g ρ else h ρ:=id rfl
def VD:D->R Fl:=fun d=>.ok (.rt d)
theorem Pe (g:ay->R D):cR g (s::ρ)=(g (ej (s::ρ))).bind VD:=id rfl
theorem SH (d:D):VD d=.ok (.rt d):=id rfl
def xJ:Sl->Sl
 |.own d=>.shr d
 |.ow2 dss=>.shr (.list (dss.map .list))
 |s=>s
theorem Gv:ej (s::ρ)=xJ s::ej ρ:=by cases s<;>rfl
theorem CH:ej []=[]:=id rfl
theorem Gw:xJ .no=.no:=id rfl
theorem CI (d:D):xJ (.shr d)=.shr d:=id rfl
theorem CJ (d:D):xJ (.own d)=.shr d:=id rfl
theorem CK (d:List (List D)):xJ (.ow2 d)=.shr (.list (d.map .list)):=id rfl
def SJ (i:Nat) (ρ:ay):D->R Fl:=fun d=>.ok (.nx (ρ.set i (.shr d)))
theorem KM (i:Nat) (g:ay->R D):fz i g (s::ρ)=(g (s::ρ)).bind (SJ i (s::ρ)):=id rfl
theorem KN (i:Nat) (ρ:ay) (d:D):SJ i ρ d=.ok (.nx (ρ.set i (.shr d))):=id rfl
def Pf (i:Nat) (ρ:ay):D->R Fl:=fun d=>.ok (.nx (ρ.set i (.own d)))
theorem KO (i:Nat) (g:ay->R D):kj i g (s::ρ)=(g (s::ρ)).bind (Pf i (s::ρ)):=id rfl
theorem Gx (i:Nat) (ρ:ay) (d:D):Pf i ρ d=.ok (.nx (ρ.set i (.own d))):=id rfl
def Jy (ρ:ay):D->R Fl:=fun _=>.ok (.nx ρ)
theorem KP (g:ay->R D):nE g (s::ρ)=(g (s::ρ)).bind (J.Jy (s::ρ)):=id rfl
theorem Gy (ρ:ay) (d:D):J.Jy ρ d=.ok (.nx ρ):=id rfl
def VE (gb:ay->R D) (h:D->D->R D) (ρ:ay):D->R D:=fun x=>(gb ρ).bind (h x)
theorem SK (ga gb:ay->R D) (h:D->D->R D):g2 ga gb h (s::ρ)=(ga (s::ρ)).bind (VE gb h (s::ρ)):=id rfl
theorem Pg (gb:ay->R D) (h:D->D->R D) (ρ:ay) (x:D):VE gb h ρ x=(gb ρ).bind (h x):=id rfl
def O1:D->R Bool:=fun d=>match d with
 |.bool b=>.ok b
 |_=>.no
theorem Ph (g:ay->R D):fF g (s::ρ)=(g (s::ρ)).bind O1:=id rfl
theorem KQ (b:Bool):O1 (.bool b)=.ok b:=id rfl
def SL:Bool->R Bool:=fun b=>.ok (!b)
theorem Pi (g:ay->R Bool):jH g (s::ρ)=(g (s::ρ)).bind SL:=id rfl
theorem KR (b:Bool):SL b=.ok (!b):=id rfl
def SM (h:ay->R Bool) (ρ:ay):Bool->R Bool:=fun b=>bif b then h ρ else .ok false
def VF (h:ay->R Bool) (ρ:ay):Bool->R Bool:=fun b=>bif b then .ok true else h ρ
theorem Pj (g h:ay->R Bool):EH g h (s::ρ)=(g (s::ρ)).bind (SM h (s::ρ)):=by
 show (g (s::ρ)).bind _=_;congr 1;funext b;cases b<;>rfl
theorem SO (g h:ay->R Bool):yS g h (s::ρ)=(g (s::ρ)).bind (VF h (s::ρ)):=by
 show (g (s::ρ)).bind _=_;congr 1;funext b;cases b<;>rfl
theorem KS (h:ay->R Bool) (ρ:ay) (b:Bool):SM h ρ b=bif b then h ρ else .ok false:=id rfl
theorem Pk (h:ay->R Bool) (ρ:ay) (b:Bool):VF h ρ b=bif b then .ok true else h ρ:=id rfl
def Pl:Bool->R D:=fun b=>.ok (.bool (!b))
theorem KU (g:ay->R D):Gh g (s::ρ)=((g (s::ρ)).bind O1).bind Pl:=id rfl
theorem Gz (b:Bool):Pl b=.ok (.bool (!b)):=id rfl
def Pm (h:ay->R D) (ρ:ay):Bool->R D:=fun b=>bif b then h ρ else .ok (.bool false)
theorem KW (g h:ay->R D):vJ g h (s::ρ)=((g (s::ρ)).bind O1).bind (Pm h (s::ρ)):=by
 show (fF g (s::ρ)).bind _=(fF g (s::ρ)).bind _;congr 1;funext b;cases b<;>rfl
theorem GA (h:ay->R D) (ρ:ay) (b:Bool):Pm h ρ b=bif b then h ρ else .ok (.bool false):=id rfl
def SQ (gb gc:ay->R D) (h h':D->D->R D) (ρ:ay):D->R D:=fun x=>(gb ρ).bind fun y=>(h x y).bind fun z=>match z with
 |.bool true=>(gc ρ).bind fun w=>h' y w
 |.bool false=>.ok (.bool false)
 |_=>.no
def SS (gc:ay->R D) (h h':D->D->R D) (ρ:ay) (x:D):D->R D:=fun y=>(h x y).bind fun z=>match z with
 |.bool true=>(gc ρ).bind fun w=>h' y w
 |.bool false=>.ok (.bool false)
 |_=>.no
def SU (gc:ay->R D) (h':D->D->R D) (ρ:ay) (y:D):D->R D:=fun z=>match z with
 |.bool true=>(gc ρ).bind (h' y)
 |.bool false=>.ok (.bool false)
 |_=>.no
theorem GB (ga gb gc:ay->R D) (h h':D->D->R D):pY ga gb gc h h' (s::ρ)=(ga (s::ρ)).bind (SQ gb gc h h' (s::ρ)):=id rfl
theorem KY (gb gc:ay->R D) (h h':D->D->R D) (ρ:ay) (x:D):SQ gb gc h h' ρ x=(gb ρ).bind (SS gc h h' ρ x):=id rfl
theorem KZ (gc:ay->R D) (h h':D->D->R D) (ρ:ay) (x y:D):SS gc h h' ρ x y=(h x y).bind (SU gc h' ρ y):=id rfl
theorem K_ (gc:ay->R D) (h':D->D->R D) (ρ:ay) (y:D) (b:Bool):SU gc h' ρ y (.bool b)=bif b then (gc ρ).bind (h' y) else .ok (.bool false):=by cases b<;>rfl
def L3 (gs:ay->R (List D)) (ρ:ay):D->R (List D):=fun d=>(gs ρ).bind fun ds=>.ok (d::ds)
def L5 (d:D):List D->R (List D):=fun ds=>.ok (d::ds)
theorem L6 (g:ay->R D) (gs:ay->R (List D)):J.a8 g gs (s::ρ)=(g (s::ρ)).bind (L3 gs (s::ρ)):=id rfl
theorem CL (gs:ay->R (List D)) (ρ:ay) (d:D):L3 gs ρ d=(gs ρ).bind (L5 d):=id rfl
theorem CM (d:D) (ds:List D):L5 d ds=.ok (d::ds):=id rfl
theorem Pn (ρ:ay):J.al ρ=.ok []:=id rfl
def Po (k:List D->D):List D->R D:=fun ds=>if ds.length<=1000 then .ok (k ds) else .no
theorem L7 (gs:ay->R (List D)) (k:List D->D):aY gs k (s::ρ)=(gs (s::ρ)).bind (Po k):=id rfl
theorem GC (k:List D->D) (ds:List D):Po k ds=if ds.length<=1000 then .ok (k ds) else .no:=id rfl
theorem L8 (gs:ay->R (List D)) (h:List D->R D):cA gs h (s::ρ)=(gs (s::ρ)).bind h:=id rfl
def VG (n:Nat) (F:List D->R D):List D->R D:=fun ds=>if ds.length=n then F ds else .no
theorem SW (n:Nat) (F:List D->R D) (gs:ay->R (List D)):eK n F gs (s::ρ)=(gs (s::ρ)).bind (VG n F):=id rfl
theorem Pp (n:Nat) (F:List D->R D) (ds:List D):VG n F ds=if ds.length=n then F ds else .no:=id rfl
theorem Pq (h:D->R D) (d:D):jo h [d]=h d:=id rfl
theorem L9 (d:D) (ρ:ay):EG (.shr d::ρ) 0=.ok d:=id rfl
theorem Pr (s:Sl) (ρ:ay) (n:Nat):EG (s::ρ) (n+1)=EG ρ n:=by simp [EG]
theorem La (d:D) (ρ:ay):DH (.shr d::ρ) 0=.ok d:=id rfl
theorem Lb (d:D) (ρ:ay):DH (.own d::ρ) 0=.ok d:=id rfl
theorem Ps (s:Sl) (ρ:ay) (n:Nat):DH (s::ρ) (n+1)=DH ρ n:=by simp [DH]
def SX (T:String):D->R D:=fun d=>if mR d then .ok (.bool (wf T d)) else .no
theorem Pt (g:ay->R D) (T:String):rK g T (s::ρ)=(g (s::ρ)).bind (SX T):=id rfl
theorem Lc (T:String) (d:D):SX T d=if mR d then .ok (.bool (wf T d)) else .no:=id rfl
def SY (gl gh:ay->R (Option Int)) (ρ:ay):D->R D:=fun x=>(gl ρ).bind fun l=>(gh ρ).bind fun h=>EO x l h
def SZ (gh:ay->R (Option Int)) (ρ:ay) (x:D):Option Int->R D:=fun l=>(gh ρ).bind fun h=>EO x l h
theorem S_ (g:ay->R D) (gl gh:ay->R (Option Int)):r9 g gl gh (s::ρ)=(g (s::ρ)).bind (SY gl gh (s::ρ)):=id rfl
theorem Ld (gl gh:ay->R (Option Int)) (ρ:ay) (x:D):SY gl gh ρ x=(gl ρ).bind (SZ gh ρ x):=id rfl
theorem Le (gh:ay->R (Option Int)) (ρ:ay) (x:D) (l:Option Int):SZ gh ρ x l=(gh ρ).bind (EO x l):=id rfl
theorem Pu (ρ:ay):rH ρ=.ok none:=id rfl
def T2:D->R (Option Int):=fun d=>match d with
 |.int i=>.ok (some i)
 |_=>.no
theorem Pw (g:ay->R D):r6 g (s::ρ)=(g (s::ρ)).bind T2:=id rfl
theorem Lf (i:Int):T2 (.int i)=.ok (some i):=id rfl
theorem QY (g:ay->R D):pI g (s::ρ)=(g (s::ρ)).bind xz:=id rfl
theorem Lg (gs:ay->R (List D)):zZ gs (s::ρ)=(gs (s::ρ)).bind ES:=id rfl
theorem Px (gs:ay->R (List D)):ET gs (s::ρ)=(gs (s::ρ)).bind U4:=id rfl
theorem Py (gs:ay->R (List D)):NR gs (s::ρ)=(gs (s::ρ)).bind zp:=id rfl
def Pz (nt:Nat) (ix:List Nat) (gt:ay->R Bool) (ge:ay->R D) (ρ:ay):List D->R D:=fun ds=>if ds.length<=1000 then (gf (iw nt (nF nt ix ρ) gt ge) ds).bind fun ys=>.ok (.list ys) else .no
def PB:List D->R D:=fun ys=>.ok (.list ys)
theorem Lh (nt:Nat) (ix:List Nat) (gi:ay->R (List D)) (gt:ay->R Bool) (ge:ay->R D):iI nt ix gi gt ge (s::ρ)=(gi (s::ρ)).bind (Pz nt ix gt ge (s::ρ)):=id rfl
theorem GD (nt:Nat) (ix:List Nat) (gt:ay->R Bool) (ge:ay->R D) (ρ:ay) (ds:List D):Pz nt ix gt ge ρ ds=if ds.length<=1000 then (gf (iw nt (nF nt ix ρ) gt ge) ds).bind PB else .no:=id rfl
theorem GE (ys:List D):PB ys=.ok (.list ys):=id rfl
theorem z_ (gi:ay->R (List D)) (kt:D->ay->R ay) (gb:ay->R Fl) (ds:List D) (h:gi (s::ρ)=.ok ds):xD gi kt gb (s::ρ)=uP kt gb ds (s::ρ):=by unfold xD;rw [h]
def O3 (k:D->ay->R ay) (ρ:ay):D->R Fl:=fun d=>match k d ρ with
 |.ok ρ'=>.ok (.nx ρ')
 |_=>.no
theorem PD (g:ay->R D) (k:D->ay->R ay):wg g k (s::ρ)=(g (s::ρ)).bind (O3 k (s::ρ)):=id rfl
theorem A1 (ds:List D):xz (.list ds)=.ok ds:=id rfl
theorem A2 (ds:List D):xz (.tuple ds)=.ok ds:=id rfl
theorem A3 (x:Str):xz (.str x)=.ok (mT x):=id rfl
theorem Li (ds:List D):U4 [.tuple ds]=.ok (pf 0 ds):=id rfl
theorem T3 (ds es:List D):zp [.tuple ds,.tuple es]=.ok (wj ds es):=id rfl
def A4 (ρ:ay) (i:Nat):Sl:=NT ((ρ[i]?).getD .no)
def Lj (ix:List Nat) (ρ:ay):ay:=ix.map (A4 ρ)
theorem Lk (ix:List Nat) (ρ:ay):nF 1 ix ρ=.no::Lj ix ρ:=id rfl
theorem Ll (ix:List Nat) (ρ:ay):nF 2 ix ρ=.no::.no::Lj ix ρ:=id rfl
theorem Lm (ρ:ay):Lj [] ρ=[]:=id rfl
theorem Ln (i:Nat) (ix:List Nat) (ρ:ay):Lj (i::ix) ρ=A4 ρ i::Lj ix ρ:=id rfl
theorem Lo (s:Sl) (ρ:ay):A4 (s::ρ) 0=NT s:=id rfl
theorem Lp (s:Sl) (ρ:ay) (n:Nat):A4 (s::ρ) (n+1)=A4 ρ n:=by simp [A4]
theorem A5 (d:D):NT (.shr d)=.shr d:=id rfl
theorem Lq   (h:ρ[i]?=some (Sl.own d)):shareAt i ρ=ρ.set i (.shr d):=by unfold shareAt;rw [h]
theorem el {α:Type} (f:D->R (Option D)) (c:α->D) (h:α->D):∀ (xs:List α),(∀ x∈xs,f (c x)=.ok (some (h x)))->gf f (xs.map c)=.ok (xs.map h)
 |[],_=>rfl
 |x::r,e=>by
  rw [aT,aT];unfold gf;rw [e x ao,bind_ok,el f c h r fun y hy=>e y (ar _ hy),bind_ok]
theorem tO {α:Type} (f:D->R (Option D)) (c:α->D) (h:α->D) (p:α->Bool):∀ (xs:List α),(∀ x∈xs,f (c x)=.ok (if p x then some (h x) else none))->gf f (xs.map c)=.ok ((xs.filter p).map h)
 |[],_=>rfl
 |x::r,e=>by
  rw [aT];unfold gf;rw [e x ao,bind_ok,tO f c h p r fun y hy=>e y (ar _ hy),bind_ok];cases hp:p x<;>simp [hp]
theorem PF    : iw 1 ρ gt ge d=HR (((gt (ρ.set 0 (.shr d)))).bind fun b=>if b then (ge (ρ.set 0 (.shr d))).bind fun y=>.ok (some y) else .ok none):=id rfl
theorem gL    (h1:gt (ρ.set 0 (.shr d))=.ok true) (h2:ge (ρ.set 0 (.shr d))=.ok y):iw 1 ρ gt ge d=.ok (some y):=by
 rw [PF,h1,bind_ok,if_pos rfl,h2];rfl
theorem O4     (h1:gt (ρ.set 0 (.shr d))=.ok b) (h2:b=true->ge (ρ.set 0 (.shr d))=.ok y):iw 1 ρ gt ge d=.ok (if b then some y else none):=by
 rw [PF,h1,bind_ok];cases b with
 |true=>rw [if_pos rfl,h2 rfl];rfl
 |false=>rfl
theorem O5 (h1:-(2 ^ 62)<=j) (h2:j<2 ^ 62):ES [.int j]=.ok (qc 0 j.toNat):=by
 have h:-(2 ^ 62)<=j/\j<2 ^ 62:=⟨h1,h2⟩;unfold ES;split
 ·rename_i j' e
  have e':j=j':=by injection e with e;injection e
  subst e';rw [if_pos h]
 ·rename_i hn
  exact (hn j rfl).elim
end
end
end J
section
namespace L2
open PySem PySem.Spec PyProof.Rows
end L2
namespace J
open PySem L2
open PyProof.Rows (envOfC)
section
end
section
variable {c:C}{body:List c8}{x n:Str}{np np2 np3 hpos cpos rpos pos:Pos}{gb:ay->R Fl}{names:List Str}{wh:Str->Option Nat}
end
theorem Fr.consNo     (f:Fr K H0 Hs0 (fun _=>none) ρ σ H Hs):Fr K H0 Hs0 (fun _=>none) (.no::ρ) (some v::σ) H Hs:=by
 refine ⟨f.st,congrArg (· + 1) f.len,fun i d h=>?_,fun i d h=>?_,fun i d h=>?_,fun i j d e a h1 h2 h3 h4=>?_,fun i a h=>(nomatch h),fun i d h=>?_,fun i j d e h1 h2=>?_⟩
 ·cases i with
  |zero=>cases h
  |succ i=>exact f.sh i d h
 ·cases i with
  |zero=>cases h
  |succ i=>exact f.ow i d h
 ·cases i with
  |zero=>cases h
  |succ i=>exact f.lk i d h
 ·cases i with
  |zero=>cases h1
  |succ i =>
   cases j with
   |zero=>cases h2
   |succ j=>exact congrArg (· + 1) (f.dj i j d e a h1 h2 h3 h4)
 ·cases i with
  |zero=>cases h
  |succ i =>
   obtain ⟨a,as,o⟩:=f.o2 i d h;refine ⟨a,as,o.at_,o.ob,o.nd,o.out,fun b hb j e h1=>?_,o.inn⟩;cases j with
   |zero=>cases h1
   |succ j=>exact o.dj b hb j e h1
 ·cases i with
  |zero=>cases h1
  |succ i =>
   cases j with
   |zero=>cases h2
   |succ j=>exact congrArg (· + 1) (f.u2 i j d e h1 h2)
theorem VH {α:Type}{us:List α} (h:us.length=1):∃ a,us=[a]:=by
 rcases us with _|⟨a0,_|⟨z,r⟩⟩
 ·simp at h
 ·exact ⟨_,rfl⟩
 ·simp at h
theorem VI {α:Type}{us:List α} (h:us.length=2):∃ a b,us=[a,b]:=by
 rcases us with _|⟨a0,_|⟨a0,_|⟨z,r⟩⟩⟩
 ·simp at h
 ·simp at h
 ·exact ⟨_,_,rfl⟩
 ·simp at h
theorem VJ {α:Type}{us:List α} (h:us.length=3):∃ a b c,us=[a,b,c]:=by
 rcases us with _|⟨a0,_|⟨a0,_|⟨a0,_|⟨z,r⟩⟩⟩⟩
 ·simp at h
 ·simp at h
 ·simp at h
 ·exact ⟨_,_,_,rfl⟩
 ·simp at h
theorem VL {α:Type}{us:List α} (h:us.length=4):∃ a b c d,us=[a,b,c,d]:=by
 rcases us with _|⟨a0,_|⟨a0,_|⟨a0,_|⟨a0,_|⟨z,r⟩⟩⟩⟩⟩
 ·simp at h
 ·simp at h
 ·simp at h
 ·simp at h
 ·exact ⟨_,_,_,_,rfl⟩
 ·simp at h
theorem VV {α:Type}{us:List α} (h:us.length=5):∃ a b c d e,us=[a,b,c,d,e]:=by
 rcases us with _|⟨a0,_|⟨a0,_|⟨a0,_|⟨a0,_|⟨a0,_|⟨z,r⟩⟩⟩⟩⟩⟩
 ·simp at h
 ·simp at h
 ·simp at h
 ·simp at h
 ·simp at h
 ·exact ⟨_,_,_,_,_,rfl⟩
 ·simp at h
end J
end
namespace J
open PySem L2
section
section
theorem RDs.rep    (h:RDs K H vs ds) (k:Nat):RDs K H (bD k vs).flatten (bD k ds).flatten:=by
 induction k with
 |zero=>exact .nil
 |succ k ih=>rw [c_,c_,gY,gY];exact h.append ih
def QZ (k:Nat) (ds:List D):R D:=if ds.length<=10 then .ok (.list (bD k ds).flatten) else .no
def HX (k:Nat) (gs:ay->R (List D)):ay->R D:=fun ρ=>(gs ρ).bind (QZ k)
theorem E_ (k:Nat)  (hk:k<=10) (h:DG c es gs):JE c (.BinOp (.List es p) .Mult (.Constant (.int k) j p2) pos) (HX k gs):=.of fun ρ=>pH (OO Qs (jj (h ρ)) Ay) fun σ H Q h_0=>by
 obtain ⟨H0,Hs0,la,Hs,f,q⟩:=h_0;refine yR f q fun ds vs H1 Hs1 e1 s1 f1 r1=>?_;unfold HX at q;rw [e1,bind_ok] at q;unfold QZ at q;by_cases hl:ds.length<=10
 ·rw [if_pos hl] at q;have hv:vs.length<=10:=by rw [r1.length];exact hl
  refine ⟨bi (bU (bT hv (by decide))),fun p hp=>?_⟩;have s2:cz H1 Hs1 (upd H1 p (.lst vs)) Hs1:=.mine s1.sub hp;refine ⟨p,k,vs,rfl,rfl,aB,by omega,by omega,?_,fun p2 hp2=>?_⟩
  ·have:vs.length*k<=10*10:=Nat.mul_le_mul hv hk
   exact bi (bU (bT this (by decide)))
  ·refine q _ _ _ (s1.trans (s2.trans (.new s2.sub hp2))) (.list (.of aB) ?_);exact (r1.rep k).same (cz.new s2.sub hp2).sh
 ·rw [if_neg hl] at q;exact q.elim
end
end
end J
section
namespace HT
open PySem PyProof.Rows
section
open PySem.SeqAt
open PySem.AutoSeq1 (wpAny_loadPart')
open PySem.MeetsSeq PySem.MeetsSeq2 PySem.MeetsSeq3
theorem uV {sl:ac}{t:Tok}{n:Nat}{Q:Int×Int×Nat->ag->Prop} (hs:s.heap.IsSliceOf sl .none .none (.int (-1) t))
  (h:Q ((n:Int)-1,-1,n) s):aq (aD prog w) A (gd (.ref sl) (pure (n:Int))) Q E s:=by
 obtain ⟨os,hos,hcs,hds⟩:=id hs;unfold gd uj;refine a6 (a6 (cB hos hds (x:=.none) rfl (a6 (cB hos hds (x:=.none) rfl (a6 (cB hos hds (x:=.int (-1) t) rfl (aa ?_)))))));refine a6 (slicePart_int ?_);show aq _ _ (if ((-1:Int)==0)=true then _ else _) _ _ s;rw [if_neg (by decide)];refine a6 (uo (a6 (uo (a6 (aa ?_)))));show aq _ _ (pure ((n:Int)-1,(-1:Int),cL ((n:Int)-1) (-1) (-1))) _ _ s;have e:cL ((n:Int)-1) (-1) (-1)=n:=by
  unfold cL;rw [if_neg (by omega)];simp only [Int.neg_neg,Int.ediv_one];split<;>omega
 rw [e];exact aa h
theorem CN {α β:Type}{f g:α->Option β}:∀ {l:List α},(∀ x∈l,f x=g x)->l.filterMap f=l.filterMap g
 |[],_=>rfl
 |x::r,h=>by
  rw [iM,iM,h x ao,CN fun y hy=>h y (ar _ hy)]
theorem Lr (xs:Array a9):((bN xs.size).filterMap fun (m:Nat)=>xs[((xs.size:Int)-1+(m:Int)*(-1)).toNat]?).toArray=xs.toList.reverse.toArray:=by
 congr 1;have e:(bN xs.size).filterMap (fun (m:Nat)=>xs[((xs.size:Int)-1+(m:Int)*(-1)).toNat]?)=(bN xs.size).filterMap (fun m=>some (xs.getD (xs.size-1-m) .none)):=by
  refine CN fun m hm=>?_;have hm:=List.mem_range.mp hm;have:((xs.size:Int)-1+(m:Int)*(-1)).toNat=xs.size-1-m:=by omega
  rw [this];have h2:xs.size-1-m<xs.size:=by omega
  rw [mP h2];simp [Array.getD,h2]
 rw [e];have e2:(fun m=>some (xs.getD (xs.size-1-m) cX))=some∘fun m=>xs.getD (xs.size-1-m) cX:=rfl;rw [e2,List.filterMap_eq_map];refine Mo (by simp) fun i h1 h2=>?_;simp only [aO,jA] at h1;have h3:xs.size-1-i<xs.size:=by omega
 rw [List.getElem_map,List.getElem_range,List.getElem_reverse];simp [Array.getD,h3]
theorem tP    (ht:Mx s.heap t items) (hs:s.heap.IsSliceOf sl .none .none (.int (-1) tk))
  (h:Q (.ref s.heap.objs.size) { s with heap:=s.heap.push { cls:=.type "tuple",data:=.seq items.toList.reverse.toArray } })
  (hsz:items.size<=sizeLine):aq (aD prog w) A (lT (.ref t) (.ref sl)) Q E s:=by
 have htake:sizeOk (.seq items.toList.reverse.toArray):=by
  show items.toList.reverse.toArray.size<=sizeLine;rw [aC,sM,aZ];exact hsz
 obtain ⟨os,hos,hcs,hds⟩:=id hs;have hTs:s.TypeIs (.ref sl) "slice":=⟨os,hos,hcs⟩;unfold lT;try with_reducible refine eE ?_
 first|refine a6 (aa ?_)|skip
 refine a6 (yB ht.typeIs (by decide) ?_);refine a6 (cr (name:=gE "__getitem__") ht.typeIs cC
  (cu cC ht.typeIs vX ?_ (wT _ _)))
 show aq _ _ (kh (.ref t) >>= _) _ _ s;refine a6 (H9 ht ?_);refine a6 (nj hTs ?_);rw [if_pos (by decide)];refine a6 (uV hs ?_);have hno:¬ ((((items.size:Int)-1)==0&&(-1:Int)==1&&items.size==items.size)=true):=by
  intro q;rw [aJ,aJ] at q;exact absurd q.1.2 (by decide)
 show aq _ _ (if ((((items.size:Int)-1)==0&&(-1:Int)==1&&items.size==items.size)=true) then _ else _) _ _ s;rw [if_neg hno,Lr];first
  |exact a6 (m:=cw _) (bG (aa ⟨_,rfl,aa h⟩) htake)
  |exact a6 (m:=cw _) (bG (a6 (aa (aa ⟨_,rfl,aa h⟩))) htake)
  |exact a6 (a6 (m:=cw _) (bG (aa (aa ⟨_,rfl,aa h⟩)) htake))
  |exact a6 (a6 (m:=cw _) (bG (aa ⟨_,rfl,aa h⟩) htake))
end
end HT
namespace L2
open PySem PySem.Spec PyProof.Rows
section
variable {X:Cx}{e st:bc}{te ts:TE}{pos p2:Pos}
theorem cn.rev  (h:cn xs us):cn xs.reverse us.reverse:=by
 induction h with
 |nil=>exact .nil
 |cons r t ih=>rw [nl,nl];exact ih.append (.cons r .nil)
theorem Q_ (he:PE X e te) (hs:PE X st ts):PE X (.Subscript e (.Slice none none (some st) p2) pos) (fun σ H Q=>te σ H fun x H1=>ts σ H1 fun y H2=>y=.int (-1)/\∃ a xs,x=.ref a/\j_ X.K H2 a xs/\∀ p,H2 p=none->Q (.ref p) (upd H2 p (.tup xs.reverse))):=by
 intro pins s σ H Q I h;refine DU (eR (he pins s σ H _ I h) fun v s1 h1=>?_);obtain ⟨x,H1,I1,r1,q1⟩:=h1;have nP:evalPart none X.env=pure .none:=Ha ..;refine wpAny_Slice ?_;rw [nP];refine aa ?_;refine aa ?_;rw [evalPart_some];refine eR (hs pins s1 σ H1 _ I1 q1) fun u s3 h3=>?_;obtain ⟨y,H3,I3,r3,hy,a,xs,hx,sq,q⟩:=h3;subst hy;subst hx;obtain ⟨tk,rfl⟩:=r3;cases r1;have I4:bv X pins σ H3 { s3 with heap:=s3.heap.push { cls:=.type "slice",data:=.fields #[.none,.none,.int (-1) tk] } }:=I3.kept (t':=s3.toks) fun b ob q=>ae _ q;obtain ⟨its,r,ht,hz⟩:=I4.tuple sq;have hlen:its.toArray.size=xs.length:=by rw [aC];exact r.length.symm
 show aq (aD X.prog X.w) X.A (wx e (.Slice none none (some st) p2) (.ref a) (.ref s3.heap.objs.size)) (EP X pins σ Q) X.xe { s3 with heap:=s3.heap.push { cls:=.type "slice",data:=.fields #[.none,.none,.int (-1) tk] } };refine tail_any (ops:=[.ref a,.ref s3.heap.objs.size]) ht.typeIs PyProof.Rows.slot_tuple_getitem.lookup ?_ (by with_unfolding_all rfl);refine HT.tP ht (yv ..) ?_ (by rw [hlen];exact hz);refine ⟨.ref _,_,I4.laid (t':=s3.toks) (o:=.tup xs.reverse) (fun b ob q=>ae _ q) (az _) ?_,rfl,q _ (I4.hok.fresh (az _))⟩;exact ⟨by rw [sM];exact hz,_,r.rev,vY _ _⟩
end
end L2
namespace J
open PySem L2
section
variable {c:C}{e:bc}{g:ay->R D}{pos p2 p3 p4:Pos}
def R1:D->R D
 |.tuple xs=>.ok (.tuple xs.reverse)
 |_=>.no
def O6 (g:ay->R D):ay->R D:=fun ρ=>(g ρ).bind R1
theorem R4 (h:JB c e g):JE c (.Subscript e (.Slice none none (some (.UnaryOp .USub (.Constant (.int 1) j p3) p4)) p2) pos) (O6 g):=.of fun ρ=>pH (Q_ (h ρ) (OP Ji Ay)) fun σ H Q h_0=>by
 obtain ⟨H0,Hs0,la,Hs,f,q⟩:=h_0;refine one f q fun d v H1 Hs1 e1 s1 f1 r1=>?_;unfold O6 at q;rw [e1,bind_ok] at q;refine ⟨1,rfl,rfl,?_⟩;cases d with
 |tuple ds =>
  obtain ⟨a,vs,rfl,qa,ra,_⟩:=r1.tuple s1.sub;exact ⟨a,vs,rfl,qa,fun p hp=>q _ _ _ (s1.trans (.new s1.sub hp)) (.tuple aB (ra.reverse.same (cz.new s1.sub hp).sh))⟩
 |_=>exact q.elim
end
end J
end
section
namespace L2
open PySem
def VM (mask:Nat):Nat->Nat×Nat->Nat×Nat
 | 0,x=>x
 |n+1,x=>VM mask n (SetTable.leap mask x.1 x.2)
def VW (mask:Nat):Bool:=(bN (mask+1)).all fun i=>(bN (mask+1)).all fun j=>(bN (mask+1)).any fun n=>decide ((VM mask n (i,0)).1=j)
theorem getD_none {owner:Array (Option Nat)}{k:Nat} (h:owner.getD k (some 0)=none):owner.toList[k]?=some none:=by
 by_cases hk:k<owner.size
 ·rw [yx,mP hk] at h;rw [f9,mP hk];simpa using h
 ·rw [yx,Array.getElem?_eq_none (by omega)] at h;cases h
end L2
namespace L2
open PySem
section
end
end L2
namespace L2
open PySem
section
end
end L2
namespace L2
open PySem
section
end
end L2
namespace L2
open PySem PyProof.Rows
section
variable {P:aR}{w:bh}{A:bf}{E:a9->ag->Prop}{s:ag}
end
end L2
namespace L2
open PySem PyProof.Rows
end L2
namespace J
open PySem L2
section
end
end J
namespace J
open PySem L2
section
end
end J
namespace J
open PySem L2
end J
end
section
namespace L2
open PySem PySem.Spec PyProof.Rows
section
end
end L2
namespace L2
open PySem PySem.Spec PyProof.Rows
section
end
end L2
namespace L2
open PySem PySem.Spec PyProof.Rows
end L2
namespace J
open PySem L2
section
end
end J
namespace L2
open PySem PySem.Spec PyProof.Rows
end L2
namespace J
open PySem L2
section
end
end J
namespace L2
open PySem PySem.Spec PyProof.Rows
end L2
namespace J
open PySem L2
section
end
end J
namespace J
open PySem L2
end J
end
namespace J
open PySem L2 PyProof.Rows
section
structure En where
 P:aR
 w:bh
 K:a7
 mg:Str->Option a9
 base:br
 cls:Str->ac
abbrev FN (e:En):=Fn e.P e.w e.K e.mg e.base e.cls
abbrev ER (e:En):=Er e.mg e.base e.cls
abbrev Cn (mg:Str->Option a9) (x:Str) (n:Int):Prop:=∃ t,mg x=some (.int n t)
structure gO (K:a7) (mg:Str->Option a9) (x:Str) (st:c8):Prop where
 ex:∃ f fd,yy K x x st f fd/\mg x=some (.ref f)
section
variable {K:a7}{h:br}{mg:Str->Option a9}{x:Str}
theorem d_in {st:c8}{A:ac}{od an:Option ac}{sl:Array (Option a9)}{oc kV dc pm cv ct:a9} (X:K.In h) (G:h.Ns ba mg) (a:dE K ba x=some (some (.ref A)))
  (l:K.lookup A=some ⟨oc,od,.func (dh x x (iN st) (eJ st) (ap st) .none kV dc pm an cv ct),sl⟩) (c:gX K cv x=true) (k:bQ K (.ref A)=true):gO K mg x st :=
 ⟨_,_,Ep l c k,gx X G a⟩
theorem cn_in  (X:K.In h) (G:h.Ns ba mg) (t:dE K ba x=some (some (.int n tk))):Cn mg x n:=⟨_,gx X G t⟩
inductive Zs (K:a7):List Str->Prop
 |nil:Zs K []
 |cons {x:Str}{r:List Str}:dE K ba x=some none->Zs K r->Zs K (x::r)
theorem Zs.get (z:Zs K r):∀ x∈r,dE K ba x=some none:=by
 induction z with
 |nil=>exact fun _ h=>nomatch h
 |cons a _ ih =>
  intro y hy;rcases List.mem_cons.mp hy with e|e
  ·rw [e];exact a
  ·exact ih y e
abbrev zn:List Str:=["len","isinstance","all","any","zip","tuple","list","sorted","set","range","enumerate","dict","sum","max","min","reversed","str","int","bool","ValueError"]
theorem T4 (X:K.In h) (G:h.Ns ba mg) (z:Zs K zn):Bi mg:=by
 have q:∀ x∈zn,mg x=none:=fun x hx=>E5 X G (z.get x hx);exact ⟨q _ (by decide),q _ (by decide),q _ (by decide),q _ (by decide),q _ (by decide),q _ (by decide),q _ (by decide),q _ (by decide),q _ (by decide),q _ (by decide),q _ (by decide),q _ (by decide),q _ (by decide),q _ (by decide),q _ (by decide),q _ (by decide),q _ (by decide),q _ (by decide),q _ (by decide)⟩
theorem T5 (X:K.In h) (G:h.Ns ba mg) (z:Zs K zn):mg "ValueError"=none:=E5 X G (z.get _ (by decide))
end
section
variable {P:aR}{w:bh}{K:a7}{mg:Str->Option a9}{base:br}{N:List Str}{qual:Str}{scope:eY}{f:ac}{cd:a9}{A:bf}{outer:List Env}{s:ag}{H:Hp}{E:XK}
theorem px:g_ (kR P w) (iT (kR P w) P w K mg base N qual scope f cd A outer s H E) E:=Ci fun _ _ h=>h
end
section
theorem jc  (G:Fn c.X.prog c.X.w c.X.K c.X.mg c.X.base c.cls x k n F) (hr:fX j c.X.A) (hx:g_ (kR c.X.prog c.X.w) c.X c.E) (ha:DG c (e::es) gs)
  (hk:k<=j:=by decide) (hg:Gl c.X x:=by exact rfl) (hdb:(x==("__debug__" : Str))=false:=by decide) (he:am (e::es) c.X.env=(false,bY e c.X.env)::am es c.X.env:=by rfl) (hpl:(da pos (am es c.X.env)).any (·.1)=false:=by rfl) :
  JE c (.Call (.Name x p) (e::es) [] pos) (eK n F gs):=NM G (hr.mono hk) hg hx ha hdb he hpl
end
abbrev Bq (x:Str) (st:c8) (us:List a9) (r:List (Str×a9)):Prop:=∀ (kV doc pm:a9) (an:Option ac) (cdv ct:a9),DP (dh x x (iN st) (eJ st) (ap st) .none kV doc pm an cdv ct) ⟨us,[]⟩=pure r
section
variable {K:a7}{x:Str}{st:c8}{f:ac}{fd:cP}
theorem b1 (F:yy K x x st f fd) (h:∀ u,Bq x st [u] [(a,u)]:=by exact fun _ _ _ _ _ _ _=>rfl):fo K fd [a] []:=F.binds fun _ _ _ _ _ _ us hl=>by obtain ⟨_,rfl⟩:=VH hl;exact h ..
theorem b2 (F:yy K x x st f fd) (h:∀ u v,Bq x st [u,v] [(a,u),(b,v)]:=by exact fun _ _ _ _ _ _ _ _=>rfl):fo K fd [a,b] []:=F.binds fun _ _ _ _ _ _ us hl=>by obtain ⟨_,_,rfl⟩:=VI hl;exact h ..
theorem b3 (F:yy K x x st f fd) (h:∀ u v w,Bq x st [u,v,w] [(a,u),(b,v),(c,w)]:=by exact fun _ _ _ _ _ _ _ _ _=>rfl):fo K fd [a,b,c] []:=F.binds fun _ _ _ _ _ _ us hl=>by obtain ⟨_,_,_,rfl⟩:=VJ hl;exact h ..
theorem b4 (F:yy K x x st f fd) (h:∀ u v w z,Bq x st [u,v,w,z] [(a,u),(b,v),(c,w),(d,z)]:=by exact fun _ _ _ _ _ _ _ _ _ _=>rfl):fo K fd [a,b,c,d] []:=F.binds fun _ _ _ _ _ _ us hl=>by obtain ⟨_,_,_,_,rfl⟩:=VL hl;exact h ..
theorem b5 (F:yy K x x st f fd) (h:∀ u v w z y,Bq x st [u,v,w,z,y] [(a,u),(b,v),(c,w),(d,z),(e,y)]:=by exact fun _ _ _ _ _ _ _ _ _ _ _=>rfl):fo K fd [a,b,c,d,e] []:=F.binds fun _ _ _ _ _ _ us hl=>by obtain ⟨_,_,_,_,_,rfl⟩:=VV hl;exact h ..
end
theorem qg {e:En}{x:Str}{st:c8}{N ps:List Str}{k:Nat}{g:ay->R Fl} (D:gO e.K e.mg x st) (S:b6 N ps (ap st)) (b:∀ {f:ac}{fd:cP},yy e.K x x st f fd->fo e.K fd ps [])
  (h:∀ (f:ac) (cdv:a9) (A:bf) (outer:List Env) (s:ag) (H:Hp) (E:XK),fX k (A.deeper (iy x (ap st) s.heap.objs.size f cdv))->EQ ⟨iT (kR e.P e.w) e.P e.w e.K e.mg e.base N x (ap st) f cdv A outer s H E,e.cls,E⟩ (eJ st) g) :
  FN e x (k+1) ps.length (dU N.length g):=by
 obtain ⟨f,fd,F,hm⟩:=D.ex;exact SA F S hm (b F) (h f)
def VN (N P:List Str) (sc:eY):Bool:=decide (sc.kind=.function) && !sc.isCoroutine && !sc.isGenerator&&decide N.Nodup&&decide (N.take P.length=P)&&P.all (fun x=>decide (sc.names.lookup x=some .local)||decide (sc.names.lookup x=some .cell))&&sc.names.all fun y=>decide (y.2≠.free)
theorem cK  (h:VN N P sc=true):b6 N P sc:=by
 unfold VN at h;simp only [aJ,decide_eq_true_eq,I_,dA,pS] at h;obtain ⟨⟨⟨⟨⟨⟨a,b⟩,c⟩,d⟩,e⟩,f⟩,g⟩:=h;exact ⟨a,b,c,d,e,f,g⟩
structure Cw (K:a7) (x:Str) (C:ac):Prop where
 ns:dE K ba x=some (some (.ref C))
 cl:∃ cd,fu K C=some cd
 ty:pK K (.ref C)=some (.type "type")
theorem cw_in {K:a7}{x:Str}{C:ac}{cd:ClassData} (a:dE K ba x=some (some (.ref C))) (i:fu K C=some cd) (y:pK K (.ref C)=some (.type "type")):Cw K x C:=⟨a,⟨_,i⟩,y⟩
inductive O7 (K:a7):List Str->List ac->Prop
 |nil:O7 K [] []
 |cons {x:Str}{C:ac}{ns:List Str}{Cs:List ac}:Cw K x C->O7 K ns Cs->O7 K (x::ns) (C::Cs)
inductive Sb (K:a7) (C:ac):List (ac×Bool)->Prop
 |nil:Sb K C []
 |cons {D:ac}{b:Bool}{l:List (ac×Bool)}:mO K (.ref C) (.ref D)=some b->(b=false->C≠D)->Sb K C l->Sb K C ((D,b)::l)
structure Wy (K:a7) (C CP:ac) (l:List (ac×Bool)):Prop where
 x1:bz K (.ref C) "__getattribute__"=some (some (.builtin "BaseException.__getattribute__"))
 x2:bz K (.ref C) "__getattr__"=some none
 x3:bz K (.ref C) "__class__"=some (some (.builtin "object.__class__"))
 x4:sS K (.builtin "object.__class__") "__get__"=some (some (.builtin "getset_descriptor.__get__"))
 x5:vW K (.builtin "object.__class__")=some true
 x6:bZ K C (.type "object")=some true
 x7:bZ K C (.ref CP)=some true
 x8:mO K (.ref C) (.type "ValueError")=some true
 x9:(bq CP==bq C)=false
 sb:Sb K C l
theorem O7.at {K:a7}{ns:List Str}{Cs:List ac} (N:O7 K ns Cs):∀ (i:Nat) (n:Str),ns[i]?=some n->∃ C,Cs[i]?=some C/\Cw K n C:=by
 induction N with
 |nil=>intro i n h;simp at h
 |cons a _ ih =>
  intro i n h;cases i with
  |zero=>cases h;exact ⟨_,rfl,a⟩
  |succ i=>exact ih i n h
theorem Sb.at {K:a7}{C:ac}{l:List (ac×Bool)} (N:Sb K C l):∀ (i:Nat) (D:ac) (b:Bool),l[i]?=some (D,b)->mO K (.ref C) (.ref D)=some b/\(b=false->C≠D):=by
 induction N with
 |nil=>intro i D b h;simp at h
 |cons a c _ ih =>
  intro i D b h;cases i with
  |zero=>cases h;exact ⟨a,c⟩
  |succ i=>exact ih i D b h
theorem T6 {K:a7}{h:br}{mg:Str->Option a9}{cls:Str->ac}{ns:List Str}{Cs:List ac} (X:K.In h) (G:h.Ns ba mg) (N:O7 K ns Cs) (hn:ns.map cls=Cs):∀ n∈ns,mg n=some (.ref (cls n)):=by
 intro n hm;obtain ⟨i,hi,e⟩:=lj hm;have e1:ns[i]?=some n:=by rw [bn hi,e]
 obtain ⟨C,h1,h2⟩:=N.at i n e1;rw [<- hn,aK,e1] at h1;cases h1;exact gx X G h2.ns
theorem O8 {K:a7}{base:br}{cls:Str->ac}{x:Str}{C CP:ac}{ns:List Str}{Cs:List ac}{l:List (ac×Bool)}{j:Nat} (mb:bZ K C (.type "BaseException")=some true) (Q:∃ bm,AS base C bm/\∀ v,(v==bq C)=false->bZ K C v=some true->bm.contains v=true) (W:Wy K C CP l) (N:O7 K ns Cs)
  (hc:cls x=C) (hp:cls "PlanError"=CP) (hn:ns.map cls=Cs) (hl:l.map (·.1)=Cs) (hb:l.map (·.2)=wk j) (hj:j<11) (hx:x∈ns):Xf K base cls ns (cls x) j:=by
 obtain ⟨bm,o,mm⟩:=Q;subst hc hp;have hcl:(fu K (cls x)).isSome=true:=by
  obtain ⟨i,hi,e⟩:=lj hx;have e1:ns[i]?=some x:=by rw [bn hi,e]
  obtain ⟨C,h1,h2⟩:=N.at i x e1;rw [<- hn,aK,e1] at h1;cases h1;obtain ⟨cd,h3⟩:=h2.cl;rw [h3];rfl
 refine ⟨⟨W.x1,W.x2,W.x3,W.x4,W.x5,W.x6,mb,hcl⟩,fun i n e=>?_,QU W.x8,⟨bm,o,mm _ W.x9 W.x7⟩,hj⟩;obtain ⟨D,h1,h2⟩:=N.at i n e;have h3:Cs[i]?=some (cls n):=by rw [<- hn,aK,e];rfl
 rw [h1] at h3;cases h3;obtain ⟨cd,h4⟩:=h2.cl;have hi:l[i]?≠none:=fun z=>by
  rw [<- hl,aK,z] at h1;cases h1
 cases hq:l[i]? with
 |none=>exact (hi hq).elim
 |some q =>
  obtain ⟨D,b⟩:=q;have e1:D=cls n:=by rw [<- hl,aK,hq] at h1;cases h1;rfl
  have e2:(wk j)[i]?=some b:=by rw [<- hb,aK,hq];rfl
  subst e1;obtain ⟨s1,s2⟩:=W.sb.at i _ b hq;have e3:b=decide (i=j):=by
   unfold wk at e2
   match i,e2 with
   | 0,e|1,e|2,e|3,e|4,e|5,e|6,e|7,e|8,e|9,e|10,e=>simpa using e.symm
   |(i+11),e=>simp at e
  rw [<- e3];exact O0 h4 h2.ty s1 s2
theorem CO {K:a7}{base:br}{mg:Str->Option a9}{cls:Str->ac}{x:Str}{C CP:ac}{ns:List Str}{Cs:List ac}{l:List (ac×Bool)}{j:Nat} (X:K.In base) (G:base.Ns ba mg) (T:TopC K x C) (W:Wy K C CP l) (N:O7 K ns Cs)
  (hc:cls x=C) (hp:cls "PlanError"=CP) (hn:ns.map cls=Cs) (hl:l.map (·.1)=Cs) (hb:l.map (·.2)=wk j) (hj:j<11) (hx:x∈ns):Xf K base cls ns (cls x) j:=O8 T.mb (EZ X G T.ns T.ex T.mb).2 W N hc hp hn hl hb hj hx
end
end J
section
namespace L2
open PySem PySem.Spec PyProof.Rows
section
end
end L2
namespace J
open PySem L2
def keysOf:List D->Option (List fU)
 |[]=>some []
 |d::r=>(vK d).bind fun k=>(keysOf r).map (k::·)
def PH:D->Option (List fU)
 |.tuple ds=>keysOf ds
 |_=>none
def UX:List (D×D)->List (D×D)
 |(.none,_)::r=>r
 |l=>l
def O9 (ds:List (D×D)):Bool:=!ds.isEmpty&&ds.all fun kv=>(PH kv.1).isSome
section
variable {c:C}{a b e k:bc}{ga gb g gk:ay->R D}{pos p apos:Pos}{x:Str}
def inT (neg:Bool):D->D->R D
 |k,.dict ds=>match PH k with
  |some _=>if O9 (UX ds)=true then .ok (.bool (if neg then !(tM (UX ds) k).isSome else (tM (UX ds) k).isSome)) else .no
  |none=>.no
 |_,_=>.no
end
end J
namespace J
open PySem L2
section
def Oa (g:ay->R D):ay->R Bool:=fun ρ=>(g ρ).bind fun d=>match d with
 |.list ds=>.ok (!ds.isEmpty)
 |_=>.no
theorem Ls (h:JB c e g) (he:∀ whole,wP e c.X.env whole=(do let v <- whole;ko e.pos;pz [v] (truthy v)):=by intro _;rfl):JT c e (Oa g):=.of fun ρ=>Sf (Jl (h ρ) he) fun σ H Q hh=>by
 obtain ⟨H0,Hs0,la,Hs,f,q⟩:=hh;refine one f q fun d v H1 Hs1 e1 s1 f1 r1=>?_;unfold Oa at q;rw [e1,bind_ok] at q;split at q
 ·obtain ⟨a,vs,rfl,qa,ra⟩:=r1.list f1.st.sub;refine ⟨_,.inl ⟨vs,qa,rfl⟩,?_⟩;cases ra with
  |nil=>exact q H1 Hs1 s1
  |cons _ _=>exact q H1 Hs1 s1
 ·exact q.elim
end
end J
namespace L2
open PySem PySem.Spec PyProof.Rows
end L2
namespace J
open PySem L2
def xK:List D->Option (List Int)
 |[]=>some []
 |.int b::r=>(xK r).map (b::·)
 |_::_=>none
theorem CQ:∀ {bs:List Int},xK ds=some bs->ds=bs.map dZ:=by
 induction ds with
 |nil=>intro bs h;cases h;rfl
 |cons d r ih =>
  intro bs h;cases d with
  |int b =>
   have h:(xK r).map (b::·)=some bs:=h;cases hr:xK r with
   |none=>rw [hr] at h;cases h
   |some z=>rw [hr] at h;cases h;rw [ih hr];rfl
  |_=>cases h
end J
namespace J
open PySem L2
end J
namespace J
open PySem L2
end J
namespace J
open PySem L2
def rS (i:Nat) (ρ:ay):R D:=EG ρ i
def rB (i:Nat) (ρ:ay):R D:=DH ρ i
def kI (n:Int) (_:ay):R D:=.ok (.int n)
def kB (b:Bool) (_:ay):R D:=.ok (.bool b)
def kN (_:ay):R D:=.ok .none
def kT (_:ay):R Bool:=.ok true
theorem T7 (i:Nat) (ρ:ay):rS i ρ=EG ρ i:=id rfl
theorem R5 (i:Nat) (ρ:ay):rB i ρ=DH ρ i:=id rfl
theorem T8 (n:Int) (ρ:ay):kI n ρ=.ok (.int n):=id rfl
theorem T9 (b:Bool) (ρ:ay):kB b ρ=.ok (.bool b):=id rfl
theorem Ta (ρ:ay):kN ρ=.ok .none:=id rfl
end J
end
section
namespace L2
open PySem PySem.Spec PyProof.Rows
section
end
end L2
namespace J
open PySem L2
section
end
end J
end
namespace L2
open PySem PySem.Spec PyProof.Rows
section
open Builtin Builtin.ObjectAttr
inductive GF (h:br) (bmB:List a9) (nms:List Str):List a9->Prop
 |base:GF h bmB nms bmB
 |own {A:ac}{c0:a9}{dd:Option ac}{cd:ClassData}{sl:Array (Option a9)}{mA:Str->Option a9}{tl:List a9} :
   h.get? A=some { cls:=c0,dict:=dd,data:=.cls cd,slots:=sl }->h.Ns cd.ns mA->(∀ n∈nms,mA n=none)->GF h bmB nms tl->GF h bmB nms (.ref A::tl)
section
variable {M:My}{A:bf}{E:a9->ag->Prop}{h:br}{g:Array DL}{d:ID}{t:Nat}{os:OsState}
variable {nm q:Str}{C N x:ac}{bs bm bmB:List a9}{hdct:Bool}{sn:List Str}{sub:List a9}{ab:Bool}{col:Option Bool}{dd:Option ac}{k0 k1 k2 k3 k5:Option a9}{B newId initId sa owner:String}{nms:List Str}{name:Str}{v:a9}{mN:Str->Option a9}
end
section
variable {prog:aR}{w:bh}{A:bf}{E:a9->ag->Prop}{h:br}{g:Array DL}{d:ID}{t:Nat}{os:OsState}
variable {nm q:Str}{C N x:ac}{bs bm bmB:List a9}{sn:List Str}{sub:List a9}{ab:Bool}{col:Option Bool}{dd:Option ac}{k0 k1 k2 k3 k5:Option a9}{B newId initId sa owner:String}{nms:List Str}{name:Str}{v:a9}{mN:Str->Option a9}
end
end
section
section
variable {prog:aR}{w:bh}{A:bf}{E:a9->ag->Prop}{h:br}{g:Array DL}{d:ID}{t:Nat}{os:OsState}
variable {nm q:Str}{C N:ac}{bs bm bmB:List a9}{hdct:Bool}{sn:List Str}{sub:List a9}{ab:Bool}{col:Option Bool}{dd:Option ac}{k0 k1 k2 k3 k5:Option a9}{B newId initId:String}
end
section
end
section
end
end
section
structure R6 (h:br) (fI:ac):Prop where
 ex:∃ (oI:Obj) (fd:cP) (p1 p2 p3 p4:Pos),h.get? fI=some oI/\oI.cls=.type "function"/\oI.data=.func fd/\h.CodeRec fd.code fd.qualname/\fd.scope.isCoroutine=false/\fd.scope.isGenerator=false/\fd.scope.kind=.function /\
  fd.scope.names=[(("self" : Str),pE),(("number" : Str),pE)]/\fd.body=.stmts [.Assign [.Attribute (.Name "self" p1) "number" p2] (.Name "number" p3) p4]/\∀ (s:ag) (e v:a9),(∀ b o,h.get? b=some o->s.heap.get? b=some o)->vq s fd ⟨[e,v],[]⟩ [("self",e),("number",v)]
section
end
section
end
end
section
structure UY (x:Str) (C:ac) (mg:Str->Option a9) (base:br):Prop where
 bound:mg x=some (.ref C)
 obj:∃ nm q N bs bm sn sub ab col dd k0 k1 k2 k3 k5 mN fI,base.get? C=some (excClassObj nm q C N bs bm true sn sub ab col dd k0 k1 k2 k3 k5 "ValueError.__new__")/\base.Ns N mN/\mN "__init__"=some (.ref fI)/\mN "__setattr__"=none/\mN "number"=none /\
  GF base [.type "ValueError",.type "Exception",.type "BaseException",.type "object"] ["__init__","__setattr__","number"] bm/\R6 base fI
section
variable {P:aR}{w:bh}{K:a7}{mg:Str->Option a9}{base:br}{N:List Str}{qual:Str}{scope:eY}{f:ac}{cd:a9}{A:bf}{outer:List Env}{s:ag}{H:Hp}{E:XK}
end
end
end L2
namespace J
open PySem L2
section
open PySem.W (nsIn nsOkIn codeIn fnOf)
theorem Tb      (X:K.In h) (G:h.Ns N mg) (e:nsIn K N n=some (some v)):mg n=some v:=by
 obtain ⟨o,es,ep,ho,hd,_,hf⟩:=G;unfold dE at e;split at e
 ·rename_i c d es' n' sl q
  have:=X _ _ q;rw [ho] at this;cases this;cases hd;split at e
  ·rename_i he
   rw [<- hf];unfold nsFind findBy;rw [<- GY,he];cases e;rfl
  ·split at e<;>cases e
 ·cases e
structure UZ (K:a7) (x:Str) (C:ac) (st:c8):Prop where
 ns:nsIn K ba x=some (some (.ref C))
 own:∀ {h:br}{mg:Str->Option a9},K.In h->h.Ns ba mg->UY x C mg h
 mb:bZ K C (.type "BaseException")=some true
 ox:∀ {h:br},K.In h->∃ bm,AS h C bm/\∀ v,(v==bq C)=false->bZ K C v=some true->bm.contains v=true
theorem topN {K:a7}{x:Str}{C CP fI T0 Nn NP:ac}{st:c8}{nm qn nmP qnP fq:Str}{bs bsP mroP subP sub:List a9}{sn snP:List Str}{ab abP hdP delP:Bool}{col colP:Option Bool}{dd dP od dT an:Option ac}{k0 k1 k2 k3 k5:Option a9}{c0 kV doc pm cdv ct cT:a9}{slP slF slT:Array (Option a9)}{nT:Nat}{p1 p2 p3 p4:Pos}{cN cM:a9}{dN dM:Option ac}{esN esM:Array DictEntry}{epN epM:Nat}{slN slM:Array (Option a9)}
  (a1:nsIn K ba x=some (some (.ref C))) (a4:bZ K C (.type "BaseException")=some true)
  (a2:K.lookup C=some ⟨.type "type",dd,.cls ⟨nm,bs,[.ref C,.ref CP,.type "ValueError",.type "Exception",.type "BaseException",.type "object"],Nn,qn,true,sn,sub,ab,col,false⟩,#[k0,k1,k2,k3,some (.builtin "ValueError.__new__"),k5]⟩)
  (a3:K.lookup CP=some ⟨c0,dP,.cls ⟨nmP,bsP,mroP,NP,qnP,hdP,snP,subP,abP,colP,delP⟩,slP⟩)
  (b1:nsIn K Nn "__init__"=some (some (.ref fI))) (b2:nsIn K Nn "__setattr__"=some none) (b3:nsIn K Nn "number"=some none)
  (c1:nsIn K NP "__init__"=some none) (c2:nsIn K NP "__setattr__"=some none) (c3:nsIn K NP "number"=some none)
  (d1:K.lookup fI=some ⟨.type "function",od,.func (fnOf "__init__" fq (iN st) (eJ st) (ap st) (.ref T0) kV doc pm an cdv ct),slF⟩)
  (d2:K.lookup T0=some ⟨cT,dT,.seq #[.none] nT,slT⟩) (d3:codeIn K cdv fq=true)
  (g1:K.lookup Nn=some ⟨cN,dN,.dict esN epN,slN⟩) (g2:K.lookup NP=some ⟨cM,dM,.dict esM epM,slM⟩) (g3:(esN.toList.all fun e=>match e.key with | .str _ _=>true|_=>false)=true) (g4:(esM.toList.all fun e=>match e.key with | .str _ _=>true|_=>false)=true)
  (f1:eJ st=[.Assign [.Attribute (.Name "self" p1) "number" p2] (.Name "number" p3) p4]) (f2:(ap st).names=[(("self" : Str),pE),(("number" : Str),pE)])
  (f3:(ap st).isCoroutine=false) (f4:(ap st).isGenerator=false) (f5:(ap st).kind=.function)
  (f6:∀ e v,∃ k,DP (fnOf "__init__" fq (iN st) (eJ st) (ap st) (.ref T0) kV doc pm an cdv ct) ⟨[e,v],[]⟩=IL (.ref T0) >>= k/\k (some #[.none])=pure [(("self" : Str),e),(("number" : Str),v)]):UZ K x C st:=by
 have e1:nsOkIn K Nn=true:=by unfold J1;rw [g1];show esN.all _=true;rw [<- v_];exact g3
 have e2:nsOkIn K NP=true:=by unfold J1;rw [g2];show esM.all _=true;rw [<- v_];exact g4
 refine ⟨a1,fun {h mg} X G=>⟨gx X G a1,nm,qn,Nn,bs,_,sn,sub,ab,col,dd,k0,k1,k2,k3,k5,h.nsMap Nn,fI,X _ _ a2,.of_isNs (ll X e1),?_,e7 X e1 b2,e7 X e1 b3,?_,⟨_,_,p1,p2,p3,p4,X _ _ d1,rfl,rfl,rn X d3,f3,f4,f5,f2,congrArg FuncBody.stmts f1,fun s e v kb=>?_⟩⟩,a4,fun {h} X=>⟨_,⟨⟨nm,qn,Nn,bs,true,sn,sub,ab,col,dd,k0,k1,k2,k3,k5,_,X _ _ a2⟩,rfl⟩,fun v nv hv=>?_⟩⟩
 ·exact Tb X (.of_isNs (ll X e1)) b1
 ·refine .own (X _ _ a3) (.of_isNs (ll X e2)) (fun n hn=>?_) .base;rcases List.mem_cons.mp hn with z|hn
  ·rw [z];exact e7 X e2 c1
  rcases List.mem_cons.mp hn with z|hn
  ·rw [z];exact e7 X e2 c2
  ·rw [List.mem_singleton.mp hn];exact e7 X e2 c3
 ·obtain ⟨k,k1,k2⟩:=f6 e v;exact BindsTo.of_defaults rfl (kb _ _ (X _ _ d2)) rfl k1 k2
 ·unfold bZ fu at hv;rw [a2] at hv;have:(bq C::[bq CP,.type "ValueError",.type "Exception",.type "BaseException",.type "object"]).contains v=true:=by simpa using hv
  rw [jd,nv,sW] at this;exact this
section
end
end
section
section
end
end
end J
section
namespace L2
open PySem PySem.Spec PyProof.Rows
theorem Ob  (h:cn (ns.map V.int) its):AllInts its.toArray/\numsOf its=ns:=by
 induction ns generalizing its with
 |nil=>cases h;exact ⟨fun v hv=>absurd hv (by simp),rfl⟩
 |cons n r ih =>
  cases h with
  |cons a b =>
   obtain ⟨t,rfl⟩:=a;obtain ⟨h1,h2⟩:=ih b;refine ⟨fun v hv=>?_,?_⟩
   ·rcases (by simpa using hv:v=.int n t\/_) with z|z
    ·exact ⟨n,t,z⟩
    ·exact h1 v (by simpa using z)
   ·show n::numsOf _=_;rw [h2]
theorem yV (hc:X.calm=true):ji X (.builtin "sum") (fun xs H Q=>∃ p,∃ ns:List Int,xs=[.ref p]/\nY X.K H p (ns.map V.int)/\Q (.int ns.sum) H):=by
 intro pins s σ H xs us Q I r h;obtain ⟨p,ns,rfl,hq,q⟩:=h;obtain ⟨u,rfl,rx⟩:=lm r;cases rx;obtain ⟨its,r',pl,hl⟩:=I.list hq;obtain ⟨ha,hn⟩:=Ob r';obtain ⟨xs,hx⟩:=ha.items;have hl:=pl.isList;rw [hx] at hl;have hs:preSum (numAt xs) xs.size=ns.sum:=by
  rw [<- hn,show its=its.toArray.toList from rfl,hx,nums_intItems,preSum_eq,DD (by simp)]
 refine sum_intListG (I.ok.hd hc) hl fun h' tk t' hk=>?_;rw [hs];exact ⟨.int ns.sum,H,I.kept (t':=tk) hk,⟨t',rfl⟩,q⟩
end L2
namespace L2
open PySem PySem.Spec PyProof.Rows
end L2
namespace J
open PySem L2
def Oc:D->R D
 |.list ds=>match xK ds with
  |some ns=>.ok (.int ns.sum)
  |none=>.no
 |_=>.no
theorem R7 (hc:X.calm=true):IQ X (.builtin "sum") (jo Oc):=by
 refine rJ (fun d c n=>?_) fun pins s σ H x u Q Hs d d' I ru sub rx hd q=>?_
 ·unfold Oc;split<;>(try split)<;>exact fun h=>by cases h
 ·unfold Oc at hd;split at hd
  ·split at hd
   ·rename_i ns hs
    cases hd;obtain ⟨a,vs,rfl,qa,ra⟩:=rx.list sub;rw [CQ hs] at ra;rw [AU ra] at qa;exact yV hc pins s σ H _ _ Q I (.cons ru .nil) ⟨a,ns,rfl,qa,q _ H Hs (.refl sub) (.int _)⟩
   ·cases hd
  ·cases hd
end J
end
namespace J
open PySem L2
section
end
end J
namespace L2
open PySem PySem.Spec PyProof.Rows
section
section
end
end
end L2
namespace J
open PySem L2
section
section
variable {c:C}{pos:Pos}{x:Str}{kx vx iter tg:bc}{ifs:List bc}{scope:eY}{N':List Str}{nt:Nat}{ix:List Nat}{gi:ay->R (List D)}{gt:ay->R Bool}{gk gv:ay->R D}
end
end
end J
section
namespace L2
open PySem PySem.Spec PyProof.Rows
end L2
namespace J
open PySem L2
section
end
end J
end
namespace J
open PySem L2
section
end
section
end
section
def U_ (p:HO->Bool) (H Hs:Hp):Hp:=fun b=>match Hs b,H b with
 |some o,_=>some o
 |none,some o=>if p o then some o else none
 |none,none=>none
def VX (p:HO->Bool) (H Hs Hs1:Hp):Hp:=fun b=>match Hs b,H b with
 |none,some o=>if p o then none else Hs1 b
 |_,_=>Hs1 b
section
end
inductive Tc (p:HO->Bool) (K:a7) (cls:Str->ac) (E:XK) (ρ:ay) (r:R (List D)) (σ:St) (H:Hp) (Q:List V->Hp->Prop):Prop
 |mk (H0 Hs0:Hp) (la:Nat->Option ac) (Hs:Hp) (f:Fr K H0 Hs0 la ρ σ H Hs) (q:Fin K cls E H Hs r fun d=>∀ v H' Hs',cz H Hs H' Hs'->RDs K (U_ p H' Hs') v d->Q v H'):Tc p K cls E ρ r σ H Q
structure JL (p:HO->Bool) (c:C) (es:List bc) (g:ay->R (List D)):Prop where of ::
 run:∀ ρ,PA c.X es (Tc p c.X.K c.cls c.E ρ (g ρ))
section
end
end
section
section
end
end
end J
section
namespace L2
open PySem PySem.Spec PyProof.Rows
end L2
namespace J
open PySem L2
end J
end
namespace J
open PySem L2
section
section
end
end
end J
section
namespace L2
open PySem PySem.Spec PyProof.Rows
inductive Td (X:Cx) (CX:G1) (E:XK) (t:TA) (σ:St) (Q:VK) (v:V) (H1:Hp):Prop
 |mk (k:Nat) (f:ac) (fd:cP) (ps:List Str) (sp:Sp) (h0:v=.ref f) (F:l_ X.prog X.w X.K X.mg X.base CX k f fd ps sp) (hr:fX k X.A) (hk:bQ X.K (.ref f)=true) (hb:fo X.K fd ps []) (q:G3 sp [] E t σ H1 Q):Td X CX E t σ Q v H1
end L2
namespace J
open PySem L2
inductive CS (c:C) (n j:Nat):List bc->List (List D->R D)->List ac->Prop
 |nil:CS c n j [] [] []
 |cons {x:Str}{p:Pos}{F:List D->R D}{k:Nat}{f:ac}{fd:cP}{ps:List Str}{es:List bc}{Fs:List (List D->R D)}{as:List ac} (hf:l_ c.X.prog c.X.w c.X.K c.X.mg c.X.base (kR c.X.prog c.X.w) k f fd ps (Mv c.X.K c.cls n F)) (hm:c.X.mg x=some (.ref f)) (hk:bQ c.X.K (.ref f)=true) (hb:fo c.X.K fd ps []) (hj:k<=j) (hg:Gl c.X x) (hdb:(x==("__debug__" : Str))=false) (r:CS c n j es Fs as):CS c n j (.Name x p::es) (F::Fs) (f::as)
section
inductive Lu (c:C) (n j:Nat) (F:List D->R D) (f:ac):Prop
 |mk (k:Nat) (fd:cP) (ps:List Str) (hf:l_ c.X.prog c.X.w c.X.K c.X.mg c.X.base (kR c.X.prog c.X.w) k f fd ps (Mv c.X.K c.cls n F)) (hk:bQ c.X.K (.ref f)=true) (hb:fo c.X.K fd ps []) (hj:k<=j):Lu c n j F f
theorem HY (h:CS c n j es Fs as):∀ {i:Nat}{F:List D->R D},Fs[i]?=some F->∃ f,as[i]?=some f/\Lu c n j F f:=by
 induction h with
 |nil=>intro i F e;simp at e
 | @cons x p F k f fd ps es Fs as hf hm hk hb hj hg hdb r ih =>
  intro i F e;cases i with
  |zero=>cases e;exact ⟨f,rfl,k,fd,ps,hf,hk,hb,hj⟩
  |succ i=>have q:=ih (i:=i) e;exact q
def PJ (Fs:List (List D->R D)) (n:Nat) (gi:ay->R D) (gs:ay->R (List D)) (ρ:ay):R Fl:=(gi ρ).bind fun d=>match d with
 |.int k=>if 0<=k then (match Fs[k.toNat]? with
  |some F=>(gs ρ).bind fun ds=>if ds.length=n then (F ds).bind fun d=>.ok (.rt d) else .no
  |none=>.no) else .no
 |_=>.no
theorem AJ       (P:CS c n j es Fs as) (hr:fX j c.X.A) (f:Fr c.X.K H0 Hs0 la ρ σ H Hs) (ha:H a=some (.lst (as.map V.ref))) (q:nD c.X.K c.cls c.E H0 Hs0 la D' (PJ Fs n gi gs ρ)) :
  TR c.X.K c.cls c.E ρ (gi ρ) σ H fun y H2=>RU c.X.K (.ref a) y H2 (Td c.X (kR c.X.prog c.X.w) c.E (U0 c.X.K c.cls c.E ρ (gs ρ)) σ D'.rt):=by
 refine sE f q fun d v H2 Hs2 e1 s1 f2 r1=>?_;unfold PJ at q;rw [e1,bind_ok] at q;cases r1 with
 |int k =>
  simp only at q;by_cases hk:0<=k
  ·rw [if_pos hk] at q;split at q
   ·rename_i F hF
    obtain ⟨g,h1,k',fd,ps,hf,hkp,hb,hj⟩:=HY P hF;have hix:DF (as.map V.ref) k=some (.ref g):=by
     have:=o6 (xs:=as.map V.ref) (j:=k.toNat) (v:=V.ref g) (by rw [aK,h1];rfl)
     rwa [cG hk] at this
    refine ⟨a,as.map V.ref,k,.ref g,rfl,rfl,.of (s1.all _ _ ha),hix,k',g,fd,ps,_,rfl,hf,hr.mono hj,hkp,hb,H0,Hs0,la,Hs2,f2,?_⟩;cases hg:gs ρ with
    |no=>rw [hg] at q;exact q.elim
    |ex y m=>rw [hg] at q;exact fun H3 Hs3 s3=>q H3 Hs3 (f2.st.trans s3)
    |ok ds =>
     rw [hg,bind_ok] at q;intro vs H3 Hs3 s3 r3;have f3:=f2.step s3;by_cases hn:ds.length=n
     ·rw [if_pos hn] at q;show Mv _ _ _ _ (vs++[]) _ _ _;rw [cj];refine ⟨Hs3,ds,f3.st.sub,hn,r3,?_⟩;cases hFd:F ds with
      |no=>rw [hFd] at q;exact q.elim
      |ex y m=>rw [hFd] at q;exact fun H4 Hs4 s4=>q H4 Hs4 (f3.st.trans s4)
      |ok d=>rw [hFd] at q;exact fun v H4 Hs4 s4 r4=>q v H4 Hs4 (f3.st.trans s4) r4
     ·rw [if_neg hn] at q;exact q.elim
   ·exact q.elim
  ·rw [if_neg hk] at q;exact q.elim
 |list _ _=>exact q.elim
 |none=>exact q.elim
 |bool _=>exact q.elim
 |str _=>exact q.elim
 |tuple _ _=>exact q.elim
 |dictK _ _=>exact q.elim
 |dictT _ _ _=>exact q.elim
 |dictF _ _ _=>exact q.elim
 |desk _ _ _ _=>exact q.elim
end
end J
namespace J
open PySem L2
theorem gz  : EQ c ss (fun _=>.no):=.of fun ρ pins s σ H D I h=>by
 obtain ⟨H0,Hs0,la,Hs,f,q⟩:=h;exact q.elim
end J
end
namespace TS
open PySem PyProof.Rows
section
section
variable {prog:aR}{w:bh}{A:bf}{E:a9->ag->Prop}{s:ag}{kd:yG}{rk:a9->Nat}{L:List kC}
variable {l:Bool}{k:kC}{a:Array kC}{b n h i:Nat}{g:Nat->Nat}{st:J2}
end
end
section
structure Mg {α:Type} (lt:α->α->Prop) (T out ra rb:List α):Prop where
 perm:(out++ra++rb).Perm T
 so:out.Pairwise lt
 sa:ra.Pairwise lt
 sb:rb.Pairwise lt
 oa:∀ x∈out,∀ y∈ra,lt x y
 ob:∀ x∈out,∀ y∈rb,lt x y
section
variable {α:Type}{lt:α->α->Prop}{T out ra rb p:List α}
end
section
variable {a:Array kC}{i k:Nat}{x:kC}
end
section
variable {rk:a9->Nat}{a:Array kC}{L:List kC}
end
end
section
section
variable {prog:aR}{w:bh}{A:bf}{E:a9->ag->Prop}{s:ag}{kd:yG}{rk:a9->Nat}{L:List kC}{st st':J2}
def VY (rk:a9->Nat) (x y:kC):Prop:=rk x.1<rk y.1
variable {a b out:Array kC}{ia ib k:Nat}{p q:kC}
end
end
section
section
variable {prog:aR}{w:bh}{A:bf}{E:a9->ag->Prop}{s:ag}{kd:yG}{rk:a9->Nat}{L:List kC}{st st':J2}
def W (rk:a9->Nat) (a b out:Array kC) (na nb:Nat):Prop:=Mg (fun x y=>VY rk y x) (a.toList++b.toList) out.toList (a.toList.take na).reverse (b.toList.take nb).reverse
variable {a b out:Array kC}{n m k:Nat}{p q:kC}
end
end
section
section
variable {prog:aR}{w:bh}{A:bf}{E:a9->ag->Prop}{s:ag}{kd:yG}{rk:a9->Nat}{L:List kC}{st:J2}{a:Array kC}
end
end
section
section
variable {prog:aR}{w:bh}{A:bf}{E:a9->ag->Prop}{s:ag}{kd:yG}{rk:a9->Nat}{L:List kC}{st:J2}{a:Array kC}
end
end
section
section
variable {prog:aR}{w:bh}{A:bf}{E:a9->ag->Prop}{s:ag}{kd:yG}{rk:a9->Nat}{L:List kC}{st:J2}{a:Array kC}
end
end
end TS
namespace TS
open PySem PyProof.Rows PySem.W
section
section
variable {prog:aR}{w:bh}{A:bf}{E:a9->ag->Prop}{s:ag}
end
end
section
section
end
end
section
section
end
end
end TS
namespace L2
open PySem PySem.Spec PyProof.Rows PySem.W
section
section
end
end
section
section
end
section
end
end
end L2
namespace J
open PySem L2
section
end
end J
section
namespace L2
open PySem PySem.Spec PyProof.Rows PySem.W
end L2
namespace J
open PySem L2
end J
end
namespace J
open PySem PySem.Spec PyProof.Rows L2
section
section
end
end
end J
section
namespace L2
open PySem PySem.Spec PyProof.Rows
end L2
namespace J
open PySem L2
end J
end
namespace J
open PySem L2
section
open PyProof.Rows (envOfC)
structure DkC (K:a7) (C:ac):Prop where
 ns:dE K ba "Desk"=some (some (.ref C))
 cl:Cls K C
 n1:bz K (.ref C) "book"=some none
 n2:bz K (.ref C) "states"=some none
 n3:bz K (.ref C) "names"=some none
 n4:bz K (.ref C) "undone"=some none
theorem DkC.na {K:a7}{C:ac} (T:DkC K C) {i:Nat}{f:Str} (h:BO[i]?=some f):rz K C f:=by
 match i,h with
 | 0,h=>cases h;exact T.n1
 | 1,h=>cases h;exact T.n2
 | 2,h=>cases h;exact T.n3
 | 3,h=>cases h;exact T.n4
 |n+4,h=>simp [BO] at h
def xL:D->Bool
 |.dict l=>T_ l
 |_=>false
inductive VO (K:a7) (H:Hp) (v:V) (d:D):Prop
 |mk (x C dx:ac) (vs:List V) (ds:List D) (e:v=.ref x) (ed:d=.dict (TZ ds)) (ns:dE K ba "Desk"=some (some (.ref C))) (h:H x=some (.ins C dx (BO.zip vs))) (n:vs.length=4) (r:RDs K H vs ds):VO K H v d
theorem RD.desk_of {K:a7}{H:Hp}{v:V}{d:D} (h:RD K H v d) (hd:xL d=true):VO K H v d:=by
 cases h with
 |desk a b c e=>exact ⟨_,_,_,_,_,rfl,rfl,a,b,c,e⟩
 |dictK _ r =>
  cases r with
  |nil=>cases hd
  | @cons k _ _ _ _ _ _=>cases k<;>cases hd
 |dictT _ n r=>cases r<;>cases hd
 |dictF _ _ _=>cases hd
 |none=>cases hd
 |bool _=>cases hd
 |int _=>cases hd
 |str _=>cases hd
 |list _ _=>cases hd
 |tuple _ _=>cases hd
theorem Od {vs:List V}{v:V}{i:Nat}{f:Str} (n:vs.length=4) (hf:BO[i]?=some f) (hv:vs[i]?=some v):(BO.zip vs).lookup f=some v:=by
 obtain ⟨a,b,c,d,rfl⟩:=VL n
 have e1:(("states" : Str) == "book")=false:=by decide +kernel
 have e2:(("names" : Str) == "book")=false:=by decide +kernel
 have e3:(("names" : Str) == "states")=false:=by decide +kernel
 have e4:(("undone" : Str) == "book")=false:=by decide +kernel
 have e5:(("undone" : Str) == "states")=false:=by decide +kernel
 have e6:(("undone" : Str) == "names")=false:=by decide +kernel
 match i,hf,hv with
 | 0,hf,hv=>cases hf;cases hv;simp only [BO,jf,aW,beq_self_eq_true]
 | 1,hf,hv=>cases hf;cases hv;simp only [BO,jf,aW,beq_self_eq_true,e1]
 | 2,hf,hv=>cases hf;cases hv;simp only [BO,jf,aW,beq_self_eq_true,e2,e3]
 | 3,hf,hv=>cases hf;cases hv;simp only [BO,jf,aW,beq_self_eq_true,e4,e5,e6]
 |n+4,hf,hv=>simp [BO] at hf
theorem rQ {m:Str}:∀ {l:List Str}{vs:List V},l.contains m=false->(l.zip vs).lookup m=none
 |[],_,_=>rfl
 |x::r,[],_=>rfl
 |x::r,v::vs,h=>by
  rw [jd,Bool.or_eq_false_iff] at h
  rw [jf,aW,h.1]
  exact rQ h.2
def Te (i:Nat):D->R D
 |.dict ((.bool true,.none)::fs)=>match fs[i]? with
  |some p=>.ok p.2
  |none=>.no
 |_=>.no
def tQ (i:Nat) (g:ay->R D):ay->R D:=fun ρ=>(g ρ).bind (Te i)
section
variable {c:C}{C:ac}{e o:bc}{es:List bc}{g:ay->R D}{gs:ay->R (List D)}{f m:Str}{pos apos cpos p:Pos}{k n j:Nat}{F:List D->R D}
theorem lB (i:Nat) (T:DkC c.X.K C) (h:JE c e g) (hf:BO[i]?=some f:=by rfl) (hb:iq e f c.X.env (bY e c.X.env)=bY e c.X.env:=by rfl):JE c (.Attribute e f pos) (tQ i g):=.of fun ρ=>pH (Qk (h ρ) hb) fun σ H Q hh=>by
 obtain ⟨H0,Hs0,la,Hs,f0,q⟩:=hh
 refine xv f0 q fun d v H1 Hs1 e1 s1 f1 r1=>?_
 unfold tQ at q
 rw [e1,bind_ok] at q
 unfold Te at q
 split at q
 ·rename_i fs
  split at q
  ·rename_i pr hp
   obtain ⟨x,C',dx,vs,ds,rfl,ed,ns,hx,hn,r⟩:=r1.desk_of rfl
   rw [T.ns] at ns
   cases ns
   unfold TZ at ed
   injection ed with ed
   injection ed with _ ed
   subst ed
   rw [aK] at hp
   cases hd:ds[i]? with
   |none=>rw [hd] at hp;cases hp
   |some d =>
    rw [hd] at hp
    cases hp
    obtain ⟨v,hv,rv⟩:=r.get' hd
    exact ⟨x,C,dx,_,v,rfl,f1.st.sub _ _ hx,T.cl,T.na hf,Od hn hf hv,q v H1 Hs1 s1 rv⟩
  ·exact q.elim
 ·exact q.elim
structure V0 (P:aR) (w:bh) (K:a7) (mg:Str->Option a9) (base:br) (cls:Str->ac) (C:ac) (m:Str) (k n:Nat) (F:List D->R D):Prop where
 ex:∃ f fd ps,l_ P w K mg base (kR P w) k f fd ps (Mv K cls n F)/\Ht K C m f/\fo K fd ps []
abbrev FM (e:En):=V0 e.P e.w e.K e.mg e.base e.cls
def kS (n:Nat) (F:List D->R D) (g:ay->R D) (gs:ay->R (List D)):ay->R D:=fun ρ=>(g ρ).bind fun d=>if xL d=true then (gs ρ).bind fun ds=>if ds.length+1=n then F (d::ds) else .no else .no
theorem tR {pl:Sem Bool} (T:DkC c.X.K C) (G:V0 c.X.prog c.X.w c.X.K c.X.mg c.X.base c.cls C m k n F) (hr:fX j c.X.A) (hx:g_ (kR c.X.prog c.X.w) c.X c.E) (ho:JE c o g) (ha:DG c (e::es) gs)
  (hk:k<=j:=by decide) (hm:BO.contains m=false:=by decide +kernel) (hst:am (e::es) c.X.env=(false,bY e c.X.env)::am es c.X.env:=by rfl) (hpl:(da pos (am es c.X.env)).any (·.1)=false:=by rfl)
  (ht:bY (.Call (.Attribute o m apos) (e::es) [] pos) c.X.env=(do
   let ov <- bY o c.X.env
   ko apos.atName
   let (f,first) <- pz [ov] (qR ov m pl)
   yz pos f first (da pos (am (e::es) c.X.env)) (kr pos (fP [] c.X.env))):=by rfl) :
  JE c (.Call (.Attribute o m apos) (e::es) [] pos) (kS n F g gs):=.of fun ρ=>by
 obtain ⟨f,fd,ps,hf,hM,hb⟩:=G.ex
 refine pH (N7 (E:=c.E) (ho ρ) T.cl hM hf (hr.mono hk) hb .nil hx (ha ρ) hst hpl ht) fun σ H Q hh=>?_
 obtain ⟨H0,Hs0,la,Hs,f0,q⟩:=hh
 refine xv f0 q fun d v H1 Hs1 e1 s1 f1 r1=>?_
 unfold kS at q
 rw [e1,bind_ok] at q
 by_cases hD:xL d=true
 ·rw [if_pos hD] at q
  obtain ⟨x,C',dx,vs,ds,ev,ed,ns,hx',hn,r⟩:=r1.desk_of hD
  rw [T.ns] at ns
  cases ns
  refine ⟨x,dx,_,ev,f1.st.sub _ _ hx',rQ hm,?_⟩
  refine yR f1 (q.on s1 (q':=fun _=>True) fun _ _=>trivial) fun es' ws H2 Hs2 e2 s2 f2 r2=>?_
  rw [e2,bind_ok] at q
  by_cases hl:es'.length+1=n
  ·rw [if_pos hl] at q
   show Mv _ _ _ _ (v::(ws++[])) _ _ _
   rw [cj]
   exact ⟨Hs2,d::es',f2.st.sub,hl,.cons (r1.same s2.sh) r2,q.on (s1.trans s2) fun d k v H3 Hs3 s3 r3=>k v H3 Hs3 ((s1.trans s2).trans s3) r3⟩
  ·rw [if_neg hl] at q;exact q.elim
 ·rw [if_neg hD] at q;exact q.elim
theorem iJ {pl:Sem Bool} (T:DkC c.X.K C) (G:V0 c.X.prog c.X.w c.X.K c.X.mg c.X.base c.cls C m k n F) (hr:fX j c.X.A) (hx:g_ (kR c.X.prog c.X.w) c.X c.E) (ho:JE c o g)
  (hk:k<=j:=by decide) (hm:BO.contains m=false:=by decide +kernel)
  (ht:bY (.Call (.Attribute o m apos) [] [] pos) c.X.env=(do
   let ov <- bY o c.X.env
   ko apos.atName
   let (f,first) <- pz [ov] (qR ov m pl)
   yz pos f first (da pos (am [] c.X.env)) (kr pos (fP [] c.X.env))):=by rfl) :
  JE c (.Call (.Attribute o m apos) [] [] pos) (kS n F g al):=.of fun ρ=>by
 obtain ⟨f,fd,ps,hf,hM,hb⟩:=G.ex
 refine pH (Jr (E:=c.E) (ho ρ) T.cl hM hf (hr.mono hk) hb .nil hx ht) fun σ H Q hh=>?_
 obtain ⟨H0,Hs0,la,Hs,f0,q⟩:=hh
 refine xv f0 q fun d v H1 Hs1 e1 s1 f1 r1=>?_
 unfold kS at q
 rw [e1,bind_ok] at q
 by_cases hD:xL d=true
 ·rw [if_pos hD] at q
  obtain ⟨x,C',dx,vs,ds,ev,ed,ns,hx',hn,r⟩:=r1.desk_of hD
  rw [T.ns] at ns
  cases ns
  refine ⟨x,dx,_,ev,f1.st.sub _ _ hx',rQ hm,?_⟩
  unfold J.al at q
  rw [bind_ok] at q
  by_cases hl:([] : List D).length+1=n
  ·rw [if_pos hl] at q
   exact ⟨Hs1,[d],f1.st.sub,hl,.cons r1 .nil,q.on s1 fun d k v H3 Hs3 s3 r3=>k v H3 Hs3 (s1.trans s3) r3⟩
  ·rw [if_neg hl] at q;exact q.elim
 ·rw [if_neg hD] at q;exact q.elim
def eM (b s:D):D:=.dict (TZ [b,.list [s],.list [],.list []])
inductive Tf (K:a7) (cls:Str->ac) (C:ac) (F:List D->R D) (vs:List V) (H1:Hp) (Q:VK) (E:XK):Prop
 |mk (H Hs:Hp) (x dx:ac) (vb vt:V) (db dt:D) (h0:vs=[.ref x,vb,vt]) (hx:H x=none) (hdx:H dx=none) (hne:dx≠x) (hH:H1=upd (upd H dx (.own x)) x (.ins C dx [])) (sub:df Hs H) (rb:RD K Hs vb db) (rt:RD K Hs vt dt)
  (q:Fin K cls E H Hs (F [db,dt]) fun _=>∀ H' Hs',cz H Hs H' Hs'->RD K Hs' (.ref x) (eM db dt)->Q .non H'):Tf K cls C F vs H1 Q E
def VZ (K:a7) (cls:Str->ac) (C:ac) (F:List D->R D):Sp:=Tf K cls C F
structure Tg (P:aR) (w:bh) (K:a7) (mg:Str->Option a9) (base:br) (cls:Str->ac) (C:ac) (k:Nat) (F:List D->R D):Prop where
 ex:∃ f fd ps,l_ P w K mg base (kR P w) k f fd ps (VZ K cls C F)/\Mk K C f/\fo K fd ps []
 mg:mg "Desk"=some (.ref C)
def CT (F:List D->R D) (gs:ay->R (List D)):ay->R D:=fun ρ=>(gs ρ).bind fun ds=>match ds with
 |[b,s]=>(F [b,s]).bind fun _=>.ok (eM b s)
 |_=>.no
theorem GG {e1 e2:bc} (G:Tg c.X.prog c.X.w c.X.K c.X.mg c.X.base c.cls C k F) (hr:fX j c.X.A) (hx:g_ (kR c.X.prog c.X.w) c.X c.E) (ha:DG c [e1,e2] gs)
  (hk:k+1<=j:=by decide) (hg:Gl c.X "Desk":=by exact rfl) (he:am [e1,e2] c.X.env=(false,bY e1 c.X.env)::am [e2] c.X.env:=by rfl) (hpl:(da pos (am [e2] c.X.env)).any (·.1)=false:=by rfl) :
  JE c (.Call (.Name "Desk" p) [e1,e2] [] pos) (CT F gs):=.of fun ρ=>by
 obtain ⟨f,fd,ps,hf,hM,hb⟩:=G.ex
 refine pH (N8 (E:=c.E) hM hf (hr.mono hk) hg G.mg hb .nil hx (ha ρ) (by decide) he hpl) fun σ H Q hh=>?_
 obtain ⟨H0,Hs0,la,Hs,f0,q⟩:=hh
 refine yR f0 q fun ds vs H1 Hs1 e1 s1 f1 r1=>?_
 unfold CT at q
 rw [e1,bind_ok] at q
 intro x dx nx ndx ne
 split at q
 ·rename_i b s
  obtain ⟨vb,vt,rfl,rb,rt⟩:=r1.two
  refine ⟨H1,Hs1,x,dx,vb,vt,b,s,rfl,nx,ndx,ne,rfl,f1.st.sub,rb,rt,?_⟩
  cases hF:F [b,s] with
  |no=>rw [hF] at q;exact q
  |ex y m=>rw [hF] at q;exact fun H' Hs' st=>q H' Hs' (s1.trans st)
  |ok d=>rw [hF,bind_ok] at q;exact fun H' Hs' st r=>⟨rfl,q _ H' Hs' (s1.trans st) r⟩
 ·exact q.elim
def PK (K:a7) (cls:Str->ac) (E:XK) (F:List D->R D) (ρ:ay):TS:=Jb (OK (TR K cls E ρ (eK 2 F (J.a8 (fun ρ=>EG ρ 1) (J.a8 (fun ρ=>EG ρ 2) J.al)) ρ)))
 (Jb (Jp K (w4 0) (w4 1) "book") (Jb (Jp K (w4 0) (N5 (C0 (w4 2) B_)) "states") (Jb (Jp K (w4 0) (N5 B_) "names") (Jp K (w4 0) (N5 B_) "undone"))))
end
theorem tS {f:Str}{v:V}:∀ {fs:List (Str×V)},fs.lookup f=none->lZ f v fs=fs++[(f,v)]
 |[],_=>rfl
 |(g,y)::r,h=>by
  rw [aW] at h
  cases hb:f==g with
  |true=>rw [hb] at h;cases h
  |false =>
   rw [hb] at h
   have hg:g≠f:=fun z=>by rw [z,beq_self_eq_true] at hb;cases hb
   unfold lZ
   rw [if_neg hg,tS h]
   rfl
section
variable {P:aR}{w:bh}{K:a7}{mg:Str->Option a9}{base:br}{cls:Str->ac}{C f:ac}{fd:cP}{k:Nat}{F:List D->R D}{x0 x1 x2 qual:Str}{st:c8}
theorem Lv {H Hs H1 Hs1 H4:Hp}{x dx l1 l2 l3:ac}{vb vt:V}{db dt:D} (T:DkC K C) (nx:H x=none) (sub:df Hs H) (s1:cz (upd (upd H dx (.own x)) x (.ins C dx [])) Hs H1 Hs1) (st0:cz H Hs (upd (upd H dx (.own x)) x (.ins C dx [])) Hs) (rb:RD K Hs vb db) (rt:RD K Hs vt dt)
  (n1:H1 l1=none) (n2:H1 l2=none) (n3:H1 l3=none) (d1:l1≠l2) (d2:l1≠l3) (d3:l2≠l3)
  (hx:H4 x=some (.ins C dx (BO.zip [vb,.ref l1,.ref l2,.ref l3]))) (h1:H4 l1=some (.lst [vt])) (h2:H4 l2=some (.lst [])) (h3:H4 l3=some (.lst [])) (ho:∀ b,b≠x->b≠l1->b≠l2->b≠l3->H4 b=H1 b) :
  ∃ Hs4,cz H Hs H4 Hs4/\RD K Hs4 (.ref x) (eM db dt):=by
 have hx1:H1 x=some (.ins C dx []):=s1.all _ _ aB
 have x1:x≠l1:=aE hx1 n1
 have x2:x≠l2:=aE hx1 n2
 have x3:x≠l3:=aE hx1 n3
 have m1:=s1.sub.free n1
 have m2:=s1.sub.free n2
 have m3:=s1.sub.free n3
 have nsx:Hs x=none:=sub.free nx
 refine ⟨upd (upd (upd (upd Hs1 l1 (.lst [vt])) l2 (.lst [])) l3 (.lst [])) x (.ins C dx (BO.zip [vb,.ref l1,.ref l2,.ref l3])),⟨fun b o e=>?_,fun b o e=>?_,fun b o e=>?_,fun b o e t z=>?_⟩,?_⟩
 ·have e1:=s1.all _ _ (st0.all _ _ e)
  rw [ho b (aE e nx) (aE e1 n1) (aE e1 n2) (aE e1 n3)];exact e1
 ·have e1:=s1.sh _ _ e
  rw [av (aE e nsx),av (aE e1 m3),av (aE e1 m2),av (aE e1 m1)];exact e1
 ·by_cases bx:b=x
  ·subst bx;rw [aB] at e;rw [hx];exact e
  rw [av bx] at e
  by_cases b3:b=l3
  ·subst b3;rw [aB] at e;rw [h3];exact e
  rw [av b3] at e
  by_cases b2:b=l2
  ·subst b2;rw [aB] at e;rw [h2];exact e
  rw [av b2] at e
  by_cases b1:b=l1
  ·subst b1;rw [aB] at e;rw [h1];exact e
  rw [av b1] at e
  rw [ho b bx b1 b2 b3];exact s1.sub _ _ e
 ·have e1:=st0.all _ _ e
  have e2:=s1.all _ _ e1
  rw [av (aE e nx),av (aE e2 n3),av (aE e2 n2),av (aE e2 n1)]
  exact s1.out _ _ e1 t z
 ·have k:df Hs (upd (upd (upd (upd Hs1 l1 (.lst [vt])) l2 (.lst [])) l3 (.lst [])) x (.ins C dx (BO.zip [vb,.ref l1,.ref l2,.ref l3]))):=fun b o e=>by
   have e1:=s1.sh _ _ e
   rw [av (aE e nsx),av (aE e1 m3),av (aE e1 m2),av (aE e1 m1)];exact e1
  refine .desk T.ns aB rfl (.cons (rb.same k) (.cons (.list (.of (xs:=[vt]) ?_) (.cons (rt.same k) .nil)) (.cons (.list (.of (xs:=[]) ?_) .nil) (.cons (.list (.of (xs:=[]) ?_) .nil) .nil))))
  ·rw [av x1.symm,av d2,av d1,aB]
  ·rw [av x2.symm,av d3,aB]
  ·rw [av x3.symm,aB]
theorem Lw {H Hs:Hp}{x dx:ac}{vb vt:V}{db dt:D}{E:XK}{D:wZ} (T:DkC K C) (nx:H x=none) (ndx:H dx=none) (ne:dx≠x) (sub:df Hs H) (rb:RD K Hs vb db) (rt:RD K Hs vt dt)
  (q:Fin K cls E H Hs (F [db,dt]) fun _=>∀ H' Hs',cz H Hs H' Hs'->RD K Hs' (.ref x) (eM db dt)->D.nx [some (.ref x),some vb,some vt] H') :
  PK K cls E F [.no,.shr db,.shr dt] D [some (.ref x),some vb,some vt] (upd (upd H dx (.own x)) x (.ins C dx [])):=by
 have s0:df H (upd (upd H dx (.own x)) x (.ins C dx [])):=fun b o e=>by
  rw [av (aE e nx),av (aE e ndx)];exact e
 have st0:cz H Hs (upd (upd H dx (.own x)) x (.ins C dx [])) Hs:=⟨s0,.refl _,sub.trans s0,fun _ _ _ _ z=>z⟩
 have fr:Fr K (upd (upd H dx (.own x)) x (.ins C dx [])) Hs (fun _=>none) [.no,.shr db,.shr dt] [some (.ref x),some vb,some vt] (upd (upd H dx (.own x)) x (.ins C dx [])) Hs :=
  (Fr.start (N:=["",""]) (sub.trans s0) (.cons rb (.cons rt .nil))).consNo
 refine ⟨_,_,_,_,fr,?_⟩
 show Fin K cls E _ _ (F [db,dt]) _
 cases hF:F [db,dt] with
 |no=>rw [hF] at q;exact q
 |ex y m=>rw [hF] at q;exact fun H' Hs' s=>q H' Hs' (st0.trans s)
 |ok d =>
  rw [hF] at q
  intro v H1 Hs1 s1 _
  have hx1:H1 x=some (.ins C dx []):=s1.all _ _ aB
  have p1:lZ "book" vb []=[(("book" : Str),vb)]:=rfl
  have p2:∀ v,lZ "states" v [(("book" : Str),vb)]=[(("book" : Str),vb),(("states" : Str),v)]:=fun v=>tS (by rw [aW,show (("states" : Str) == "book")=false by decide +kernel];rfl)
  have p3:∀ v u,lZ "names" u [(("book" : Str),vb),(("states" : Str),v)]=[(("book" : Str),vb),(("states" : Str),v),(("names" : Str),u)]:=fun v u=>tS (by rw [aW,show (("names" : Str) == "book")=false by decide +kernel,aW,show (("names" : Str) == "states")=false by decide +kernel];rfl)
  have p4:∀ v u z,lZ "undone" z [(("book" : Str),vb),(("states" : Str),v),(("names" : Str),u)]=BO.zip [vb,v,u,z]:=fun v u z=>tS (by rw [aW,show (("undone" : Str) == "book")=false by decide +kernel,aW,show (("undone" : Str) == "states")=false by decide +kernel,aW,show (("undone" : Str) == "names")=false by decide +kernel];rfl)
  refine ⟨_,rfl,_,rfl,x,C,dx,[],rfl,hx1,T.cl,T.n1,by decide,?_⟩
  rw [p1]
  refine ⟨_,rfl,bi (bU (show 1<=1000 by decide)),fun l1 n1=>⟨_,rfl,x,C,dx,[(("book" : Str),vb)],rfl,by rw [av (fun z=>by rw [<- z,aB] at n1;cases n1),aB],T.cl,T.n2,by show 1<1000;decide,?_⟩⟩
  rw [p2]
  have x1:l1≠x:=fun z=>by rw [z,aB] at n1;cases n1
  rw [av x1] at n1
  refine ⟨dg _,fun l2 n2=>⟨_,rfl,x,C,dx,[(("book" : Str),vb),(("states" : Str),.ref l1)],rfl,by rw [av (fun z=>by rw [<- z,aB] at n2;cases n2),aB],T.cl,T.n3,by show 2<1000;decide,?_⟩⟩
  rw [p3]
  have x2:l2≠x:=fun z=>by rw [z,aB] at n2;cases n2
  have y2:l2≠l1:=fun z=>by rw [z,av x1,aB] at n2;cases n2
  rw [av x2,av y2,av x2] at n2
  refine ⟨dg _,fun l3 n3=>⟨_,rfl,x,C,dx,[(("book" : Str),vb),(("states" : Str),.ref l1),(("names" : Str),.ref l2)],rfl,by rw [av (fun z=>by rw [<- z,aB] at n3;cases n3),aB],T.cl,T.n4,by show 3<1000;decide,?_⟩⟩
  rw [p4]
  have x3:l3≠x:=fun z=>by rw [z,aB] at n3;cases n3
  have y3:l3≠l2:=fun z=>by rw [z,av x2,aB] at n3;cases n3
  have z3:l3≠l1:=fun z=>by rw [z,av x1,av y2.symm,av x1,aB] at n3;cases n3
  rw [av x3,av y3,av x3,av z3,av x3] at n3
  have fin:∀ H4,(∃ Hs4,cz H Hs H4 Hs4/\RD K Hs4 (.ref x) (eM db dt))->D.nx [some (.ref x),some vb,some vt] H4:=fun H4 g=>by obtain ⟨Hs4,g1,g2⟩:=g;exact q H4 Hs4 g1 g2
  refine fin _ ?_
  exact Lv T nx sub s1 st0 rb rt n1 n2 n3 y2.symm z3.symm y3.symm aB (by rw [av x1,av z3.symm,av x1,av y2.symm,av x1,aB]) (by rw [av x2,av y3.symm,av x2,aB]) (by rw [av x3,aB]) (fun b bx b1 b2 b3=>by rw [av bx,av b3,av bx,av b2,av bx,av b1,av bx])
end
end
section
open PyProof.Rows (envOfC)
structure DM (K:a7) (C:ac) (m qual:Str) (st:c8):Prop where
 ex:∃ f fd,yy K m qual st f fd/\Ht K C m f
theorem dm_in {K:a7}{m qual:Str}{st:c8}{C A:ac}{od an:Option ac}{sl:Array (Option a9)}{oc kV dc pm cv ct:a9} (a:bz K (.ref C) m=some (some (.ref A))) (i:sR K (.ref A)=true)
  (l:K.lookup A=some ⟨oc,od,.func (dh m qual (iN st) (eJ st) (ap st) .none kV dc pm an cv ct),sl⟩) (c:gX K cv qual=true) (k:bQ K (.ref A)=true):DM K C m qual st :=
 ⟨_,_,Ep l c k,a,i,k⟩
abbrev Bm (x y:Str) (st:c8) (us:List a9) (r:List (Str×a9)):Prop:=∀ (kV doc pm:a9) (an:Option ac) (cdv ct:a9),DP (dh x y (iN st) (eJ st) (ap st) .none kV doc pm an cdv ct) ⟨us,[]⟩=pure r
section
variable {K:a7}{x y a b c:Str}{st:c8}{f:ac}{fd:cP}
theorem m1 (F:yy K x y st f fd) (h:∀ u,Bm x y st [u] [(a,u)]:=by exact fun _ _ _ _ _ _ _=>rfl):fo K fd [a] []:=F.binds fun _ _ _ _ _ _ us hl=>by obtain ⟨_,rfl⟩:=VH hl;exact h ..
theorem m2 (F:yy K x y st f fd) (h:∀ u v,Bm x y st [u,v] [(a,u),(b,v)]:=by exact fun _ _ _ _ _ _ _ _=>rfl):fo K fd [a,b] []:=F.binds fun _ _ _ _ _ _ us hl=>by obtain ⟨_,_,rfl⟩:=VI hl;exact h ..
theorem m3 (F:yy K x y st f fd) (h:∀ u v w,Bm x y st [u,v,w] [(a,u),(b,v),(c,w)]:=by exact fun _ _ _ _ _ _ _ _ _=>rfl):fo K fd [a,b,c] []:=F.binds fun _ _ _ _ _ _ us hl=>by obtain ⟨_,_,_,rfl⟩:=VJ hl;exact h ..
end
theorem Mw {e:En}{C:ac}{m qual:Str}{st:c8}{N ps:List Str}{k:Nat}{g:ay->R Fl} (D:DM e.K C m qual st) (S:b6 N ps (ap st)) (b:∀ {f:ac}{fd:cP},yy e.K m qual st f fd->fo e.K fd ps [])
  (h:∀ (f:ac) (cdv:a9) (A:bf) (outer:List Env) (s:ag) (H:Hp) (E:XK),fX k (A.deeper (iy qual (ap st) s.heap.objs.size f cdv))->EQ ⟨iT (kR e.P e.w) e.P e.w e.K e.mg e.base N qual (ap st) f cdv A outer s H E,e.cls,E⟩ (eJ st) g) :
  FM e C m (k+1) ps.length (dU N.length g):=by
 obtain ⟨f,fd,F,hm⟩:=D.ex
 exact ⟨f,fd,ps,KD F S (h f),hm,b F⟩
theorem Oe {e:En}{C:ac}{qual x0 x1 x2:Str}{st:c8}{k:Nat}{F:List D->R D} (D:DM e.K C "__init__" qual st) (T:DkC e.K C) (mk:kq e.K C=true) (kp:bQ e.K (.ref C)=true) (mg:e.mg "Desk"=some (.ref C)) (S:b6 [x0,x1,x2] [x0,x1,x2] (ap st))
  (b:∀ {f:ac}{fd:cP},yy e.K "__init__" qual st f fd->fo e.K fd [x0,x1,x2] [])
  (h:∀ (f:ac) (cdv:a9) (A:bf) (outer:List Env) (s:ag) (H:Hp) (E:XK),fX k (A.deeper (iy qual (ap st) s.heap.objs.size f cdv))->∀ ρ,Ax (iT (kR e.P e.w) e.P e.w e.K e.mg e.base [x0,x1,x2] qual (ap st) f cdv A outer s H E) (eJ st) (PK e.K e.cls E F ρ)) :
  Tg e.P e.w e.K e.mg e.base e.cls C (k+1) F:=by
 obtain ⟨f,fd,Fu,hm⟩:=D.ex
 refine ⟨⟨f,fd,[x0,x1,x2],?_,⟨mk,hm.at_,hm.fn,kp⟩,b Fu⟩,mg⟩
 obtain ⟨oc,od,kV,doc,pm,an,cdv,ct,osl,rfl,lk,hcd⟩:=Fu.ex
 refine j1 lk hcd S (fun vs H Q E h_2=>by obtain ⟨_,_,_,_,_,_,_,_,rfl,_⟩:=h_2;rfl) fun A outer s H vs Q E hr hsp=>?_
 obtain ⟨H0,Hs,x,dx,vb,vt,db,dt,rfl,nx,ndx,ne,rfl,sub,rb,rt,q⟩:=hsp
 exact ⟨_,h f cdv A outer s _ E hr [.no,.shr db,.shr dt],Lw T nx ndx ne sub rb rt q⟩
def GH (g0 g:ay->R D):ay->R Fl:=fun ρ=>(g0 ρ).bind fun d=>match d with
 |.list _=>(g ρ).bind fun _=>.no
 |_=>.no
theorem Of {c:C}{o e:bc}{g0 g:ay->R D}{apos cpos pos:Pos} (ho:JE c o g0) (h:JE c e g)
  (hbase:iq o "append" c.X.env (bY o c.X.env)=bY o c.X.env:=by rfl)
  (hfew:((da cpos (am [e] c.X.env)).all (fun x=>!x.1)&&(kr cpos (fP [] c.X.env)).all (fun x=>x.1.isSome)
   && decide ([e].length+([] : List nh).length+(if ([] : List nh).isEmpty then 0 else 1)<30))=true:=by rfl)
  (hline:(apos.endLine==cpos.line)=true:=by rfl) (hst:am [e] c.X.env=(false,bY e c.X.env)::am [] c.X.env:=by rfl) (hplain:(da cpos (am [] c.X.env)).any (·.1)=false:=by rfl)
  (hs:fm (.Call (.Attribute o "append" apos) [e] [] cpos) none pos.line c.X.env=pure false:=by rfl) :
  JS c (.Expr (.Call (.Attribute o "append" apos) [e] [] cpos) pos) (GH g0 g):=.of fun ρ=>by
 refine AV (m7 (vF cJ mJ mK uH (ho ρ) (bO (h ρ) dG hst) hbase hfew hline hst hplain) hs) fun D σ H h_0=>?_
 obtain ⟨H0,Hs0,la,Hs,f,q⟩:=h_0
 replace q:nD c.X.K c.cls c.E H0 Hs0 la D (GH g0 g ρ):=q
 refine sE f q fun d v H1 Hs1 e1 s1 f1 r1=>?_
 unfold GH at q
 rw [e1,bind_ok] at q
 split at q
 ·cases r1 with
  |list qa ra =>
   refine ⟨.inl ⟨rfl,_,f1.st.sub.seq qa⟩,?_⟩
   refine sE f1 q fun d v H1 Hs1 e1 s1 f1 r1=>?_
   rw [e1,bind_ok] at q
   exact q.elim
 ·exact q.elim
section
variable {s:Sl}{ρ:ay}
end
end
end J
namespace Z
open PySem L2 J
section
def IS (y:Str):Option Nat:=if y="NoState" then some 1 else if y="NoWant" then some 2 else if y="NoBook" then some 0 else if y="NoErrand" then some 3 else if y="Nothing" then some 9 else none
def jq:ay->R Fl:=(cR (Gh (cA (a8 (iI 1 [1] (pI (rB 0)) kT (g2 (rB 0) (rB 1) (DI false))) al) (jo (hJ fun bs=>bs.any id)))))
def dk:List D->R D:=dU 2 jq
def nK:ay->R Fl:=(aS (dR (yS (jH (fF (rK (rB 0) "str"))) (jH (fF (pY (kI 1) (cA (a8 (rB 0) al) (jo lv)) (kI 6) P7 P7)))) (cR (kB false)) (fun ρ=>.ok (.nx ρ))) (cR (cA (a8 (iI 1 [] (pI (rB 0)) kT (pY (fun _=>.ok (.str "a")) (rB 0) (fun _=>.ok (.str "z")) P7 P7)) al) (jo (hJ fun bs=>bs.all id)))))
def eO:List D->R D:=dU 1 nK
def dq:ay->R Fl:=(aS (dR (yS (jH (fF (rK (rB 0) "tuple"))) (jH (fF (cA (a8 (iI 1 [] (pI (rB 0)) kT (eK 1 eO (a8 (rS 0) al))) al) (jo (hJ fun bs=>bs.all id)))))) (cR (kB false)) (fun ρ=>.ok (.nx ρ))) (cR (cA (a8 (iI 2 [] (NR (a8 (rS 0) (a8 (r9 (rB 0) (r6 (kI 1)) rH) al))) kT (g2 (rB 0) (rB 1) EL)) al) (jo (hJ fun bs=>bs.all id)))))
def c6:List D->R D:=dU 1 dq
def j3:ay->R Fl:=(cR (vJ (eK 1 c6 (a8 (rS 1) al)) (cA (a8 (iI 1 [0] (pI (rB 1)) kT (g2 (rB 0) (rB 1) (DI false))) al) (jo (hJ fun bs=>bs.all id)))))
def cq:List D->R D:=dU 2 j3
def oq:ay->R Fl:=(aS (dR (yS (jH (fF (rK (rB 0) "int"))) (fF (rK (rB 0) "bool"))) (cR (kB false)) (fun ρ=>.ok (.nx ρ))) (cR (pY (rB 1) (rB 0) (rB 2) P7 P7)))
def ou:List D->R D:=dU 3 oq
def mj:ay->R Fl:=(aS (dR (yS (jH (fF (rK (rB 1) "tuple"))) (fF (g2 (cA (a8 (rB 1) al) (jo lv)) (kI 6) (lW true)))) (cR (kB false)) (fun ρ=>.ok (.nx ρ))) (aS (wg (rS 1) (q9 6 (dI (cV 2) (dI (cV 3) (dI (cV 4) (dI (cV 5) (dI (cV 6) (dI (cV 7) rM)))))))) (aS (dR (yS (jH (fF (eK 1 eO (a8 (rS 2) al)))) (jH (fF (eK 3 ou (a8 (rS 7) (a8 (kI 0) (a8 (kI 9) al))))))) (cR (kB false)) (fun ρ=>.ok (.nx ρ))) (aS (dR (jH (fF (cA (a8 (iI 1 [0] (pI (aY (a8 (rS 3) (a8 (rS 4) (a8 (rS 5) (a8 (rS 6) al)))) .tuple)) kT (eK 2 cq (a8 (rS 1) (a8 (rS 0) al)))) al) (jo (hJ fun bs=>bs.all id))))) (cR (kB false)) (fun ρ=>.ok (.nx ρ))) (cR (vJ (eK 2 dk (a8 (rS 3) (a8 (rS 4) al))) (eK 2 dk (a8 (rS 5) (a8 (rS 6) al)))))))))
def ml:List D->R D:=dU 8 mj
def qH:ay->R Fl:=(aS (dR (yS (jH (fF (rK (rB 0) "tuple"))) (fF (g2 (cA (a8 (rB 0) al) (jo lv)) (kI 2) (lW true)))) (cR (kB false)) (fun ρ=>.ok (.nx ρ))) (aS (wg (rS 0) (q9 2 (dI (cV 1) (dI (cV 2) rM)))) (aS (dR (yS (jH (fF (eK 1 c6 (a8 (rS 1) al)))) (fF (g2 (cA (a8 (rB 1) al) (jo lv)) (kI 6) QJ))) (cR (kB false)) (fun ρ=>.ok (.nx ρ))) (aS (dR (yS (jH (fF (rK (rB 2) "tuple"))) (fF (g2 (cA (a8 (rB 2) al) (jo lv)) (kI 6) QJ))) (cR (kB false)) (fun ρ=>.ok (.nx ρ))) (aS (dR (jH (fF (cA (a8 (iI 1 [1] (pI (rB 2)) kT (eK 2 ml (a8 (rS 1) (a8 (rS 0) al)))) al) (jo (hJ fun bs=>bs.all id))))) (cR (kB false)) (fun ρ=>.ok (.nx ρ))) (cR (g2 (tN (uT 1 [] (pI (rB 2)) kT (g2 (rB 0) (kI 0) bB))) (cA (a8 (rB 2) al) (jo lv)) (lW false))))))))
def l8:List D->R D:=dU 3 qH
def l9:ay->R Fl:=(aS (dR (yS (jH (fF (rK (rB 1) "tuple"))) (fF (g2 (cA (a8 (rB 1) al) (jo lv)) (kI 2) (lW true)))) (cR (kB false)) (fun ρ=>.ok (.nx ρ))) (aS (wg (rS 1) (q9 2 (dI (cV 2) (dI (cV 3) rM)))) (cR (vJ (eK 2 cq (a8 (g2 (rB 0) (kI 0) bB) (a8 (rS 2) al))) (vJ (eK 2 cq (a8 (g2 (rB 0) (kI 0) bB) (a8 (rS 3) al))) (eK 2 dk (a8 (rS 2) (a8 (rS 3) al))))))))
def jI:List D->R D:=dU 4 l9
def iK:ay->R Fl:=(dR (jH (fF (eK 2 cq (a8 (g2 (rB 0) (kI 0) bB) (a8 (rS 1) al))))) (lz "NoState" (a8 (fun _=>.ok (.str "a state is a rising tuple of the book's facts, none twice")) al)) (fun ρ=>.ok (.nx ρ)))
def gC:List D->R D:=dU 2 iK
def kU:ay->R Fl:=(dR (jH (fF (eK 2 jI (a8 (rS 0) (a8 (rS 1) al))))) (lz "NoWant" (a8 (fun _=>.ok (.str "a want is a tuple of two states with nothing in common")) al)) (fun ρ=>.ok (.nx ρ)))
def kW:List D->R D:=dU 2 kU
def gj:ay->R Fl:=(aS (dR (jH (fF (rK (rB 1) "str"))) (cR kN) (fun ρ=>.ok (.nx ρ))) (aS (xD (pI (g2 (rB 0) (kI 1) bB)) (cV 2) (dR (fF (g2 (g2 (rB 2) (kI 0) bB) (rB 1) (lW false))) (cR (rS 2)) (fun ρ=>.ok (.nx ρ)))) (cR kN)))
def dm:List D->R D:=dU 3 gj
def uW:ay->R Fl:=(aS (wg (rS 1) (q9 2 (dI (cV 2) (dI (cV 3) rM)))) (cR (vJ (cA (a8 (iI 1 [0] (pI (rB 2)) kT (g2 (rB 0) (rB 1) (DI false))) al) (jo (hJ fun bs=>bs.all id))) (eK 2 dk (a8 (rS 3) (a8 (rS 0) al))))))
def A6:List D->R D:=dU 4 uW
def qh:ay->R Fl:=(cR (eK 2 A6 (a8 (rS 1) (a8 (aY (a8 (g2 (rB 0) (kI 1) bB) (a8 (g2 (rB 0) (kI 2) bB) al)) .tuple) al))))
def vL:List D->R D:=dU 2 qh
def nL:ay->R Fl:=(aS (dR (jH (fF (eK 1 l8 (a8 (rS 0) al)))) (lz "NoBook" (a8 (fun _=>.ok (.str "a book is a tuple of facts and errands, each as the document tells")) al)) (fun ρ=>.ok (.nx ρ))) (cR (rS 0)))
def lc:List D->R D:=dU 1 nL
def iL:ay->R Fl:=(aS (nE (eK 1 lc (a8 (rS 0) al))) (nE (eK 2 gC (a8 (rS 0) (a8 (rS 1) al)))))
def ck:List D->R D:=dU 2 iL
def mn:ay->R Fl:=(aS (nE (eK 2 ck (a8 (rS 0) (a8 (rS 1) al)))) (nE (eK 2 kW (a8 (rS 0) (a8 (rS 2) al)))))
def hW:List D->R D:=dU 3 mn
def B4:ay->R Fl:=(aS (nE (eK 2 ck (a8 (rS 0) (a8 (rS 1) al)))) (aS (fz 3 (eK 2 dm (a8 (rS 0) (a8 (rS 2) al)))) (aS (dR (yS (fF (g2 (rB 3) kN (NJ false))) (jH (fF (eK 2 vL (a8 (rS 3) (a8 (rS 1) al)))))) (lz "NoErrand" (a8 (fun _=>.ok (.str "it is no name of an errand that can be done")) al)) (fun ρ=>.ok (.nx ρ))) (fun _=>.no))))
def qi:List D->R D:=dU 4 B4
def rR:ay->R Fl:=(aS (nE (eK 3 hW (a8 (rS 0) (a8 (rS 1) (a8 (rS 2) al))))) (fun _=>.no))
def jJ:List D->R D:=dU 5 rR
def rT:ay->R Fl:=(aS (nE (eK 3 hW (a8 (rS 0) (a8 (rS 1) (a8 (rS 2) al))))) (fun _=>.no))
def lC:List D->R D:=dU 4 rT
def oy:ay->R Fl:=(cR (g2 (tQ 1 (rS 0)) (NU (kI 1)) bB))
def dL:List D->R D:=dU 1 oy
def rV:ay->R Fl:=(cR (cA (a8 (tQ 2 (rS 0)) al) (jo iP)))
def rW:List D->R D:=dU 1 rV
def oz:ay->R Fl:=(cR (cA (a8 (iI 1 [0] (pI (tQ 2 (rS 0))) kT (g2 (eK 2 dm (a8 (tQ 0 (rS 1)) (a8 (rS 0) al))) (kI 5) bB)) al) (jo Oc)))
def oA:List D->R D:=dU 1 oz
def jK:ay->R Fl:=(aS (GH (tQ 1 (rS 0)) (eK 3 qi (a8 (tQ 0 (rS 0)) (a8 (kS 1 dL (rS 0) al) (a8 (rS 1) al))))) (fun _=>.no))
def ig:List D->R D:=dU 2 jK
def uX:ay->R Fl:=(aS (nE (kS 2 ig (rS 0) (a8 (rS 1) al))) (fun _=>.no))
def uY:List D->R D:=dU 2 uX
def jL:ay->R Fl:=(aS (dR (jH (Oa (tQ 2 (rS 0)))) (lz "Nothing" (a8 (fun _=>.ok (.str "no errand is there to be taken back")) al)) (fun ρ=>.ok (.nx ρ))) (fun _=>.no))
def jM:List D->R D:=dU 1 jL
def oB:ay->R Fl:=(aS (dR (jH (Oa (tQ 3 (rS 0)))) (lz "Nothing" (a8 (fun _=>.ok (.str "no errand is there to be done again")) al)) (fun ρ=>.ok (.nx ρ))) (fun _=>.no))
def oC:List D->R D:=dU 1 oB
def lD:ay->R Fl:=(aS (fz 2 (eK 3 jJ (a8 (tQ 0 (rS 0)) (a8 (kS 1 dL (rS 0) al) (a8 (rS 1) al))))) (fun _=>.no))
def lE:List D->R D:=dU 3 lD
def oE:ay->R Fl:=(aS (dR (fF (rS 2)) (fz 3 (eK 3 lC (a8 (tQ 0 (rS 0)) (a8 (kS 1 dL (rS 0) al) (a8 (rS 1) al))))) (fz 3 (eK 3 jJ (a8 (tQ 0 (rS 0)) (a8 (kS 1 dL (rS 0) al) (a8 (rS 1) al)))))) (fun _=>.no))
def oF:List D->R D:=dU 5 oE
def gM:ay->R Fl:=(aS (dR (yS (jH (fF (rK (rB 1) "str"))) (fF (g2 (rB 1) (kS 1 dL (rS 0) al) (DI true)))) (cR kN) (fun ρ=>.ok (.nx ρ))) (fun _=>.no))
def jr:List D->R D:=dU 3 gM
def k8:ay->R Fl:=(aS (dR (fF (g2 (rB 1) (cA (a8 (rB 0) al) (jo lv)) EL)) (cR (g2 (rB 0) (rB 1) bB)) (fun ρ=>.ok (.nx ρ))) (aS (dR (fF (g2 (rB 0) (aY al .list) (lW false))) (cR (kI 0)) (fun ρ=>.ok (.nx ρ))) (cR (g2 (g2 (g2 (rB 0) (g2 (rB 1) (cA (a8 (rB 0) al) (jo lv)) HM) bB) (kI 31) we) (rB 1) cx))))
def k9:List D->R D:=dU 2 k8
def mq:ay->R Fl:=(aS (fz 3 (g2 (g2 (g2 (g2 (eK 2 k9 (a8 (rS 0) (a8 (rS 1) al))) (g2 (kI 7919) (rB 1) we) cx) (kI 1) cx) (kI 48271) we) (kI 2147483647) HM)) (cR (g2 (g2 (g2 (g2 (g2 (rB 3) (rB 3) we) (g2 (kI 7) (rB 3) we) cx) (rB 1) cx) (kI 2147483629) HM) (rB 2) HM)))
def aU:List D->R D:=dU 4 mq
def oG:ay->R Fl:=(aS (fz 2 (fun _=>.ok (.str ""))) (aS (xD (zZ (a8 (g2 (aY (a8 (kI 1) (a8 (kI 2) (a8 (kI 3) (a8 (kI 6) (a8 (kI 1) (a8 (kI 4) al)))))) .list) (eK 3 aU (a8 (rS 0) (a8 (rS 1) (a8 (kI 6) al)))) bB) al)) (cV 3) (fz 2 (g2 (rB 2) (g2 (fun _=>.ok (.str "abcdefghijklmnopqrstuvwxyz")) (eK 3 aU (a8 (rS 0) (a8 (g2 (g2 (rB 1) (kI 1) cx) (rB 3) cx) (a8 (kI 26) al)))) bB) cx))) (cR (rS 2))))
def jN:List D->R D:=dU 4 oG
def mr:ay->R Fl:=(aS (kj 3 (fun _=>.ok (.dict []))) (aS (xD (zZ (a8 (eK 3 aU (a8 (rS 0) (a8 (rS 1) (a8 (g2 (rB 2) (kI 1) cx) al)))) al)) (cV 4) (B2 3 (eK 2 jN (a8 (rS 0) (a8 (g2 (g2 (rB 1) (kI 1) cx) (g2 (kI 8) (rB 4) we) cx) al))) (kB true))) (cR (cA (a8 (cA (a8 (cA (a8 (rB 3) al) (jo iP)) al) (jo qF)) al) (jo hU)))))
def ms:List D->R D:=dU 5 mr
def oH:ay->R Fl:=(cR (cA (a8 (iI 2 [0,1,3] (ET (a8 (rS 2) al)) (fF (g2 (eK 3 aU (a8 (rS 2) (a8 (g2 (rB 3) (rB 0) cx) (a8 (kI 12) al)))) (rB 4) EL)) (rS 1)) al) (jo hU)))
def oJ:List D->R D:=dU 4 oH
def oK:ay->R Fl:=(aS (fz 4 (g2 (rB 2) (eK 3 aU (a8 (rS 0) (a8 (g2 (rB 1) (kI 10) cx) (a8 (cA (a8 (rB 2) al) (jo lv)) al)))) bB)) (aS (fz 5 (g2 (rB 2) (eK 3 aU (a8 (rS 0) (a8 (g2 (rB 1) (kI 11) cx) (a8 (cA (a8 (rB 2) al) (jo lv)) al)))) bB)) (aS (fz 6 (g2 (rB 2) (eK 3 aU (a8 (rS 0) (a8 (g2 (rB 1) (kI 12) cx) (a8 (cA (a8 (rB 2) al) (jo lv)) al)))) bB)) (aS (fz 7 (r9 (aY (a8 (rS 4) (a8 (rS 5) al)) .list) rH (r6 (g2 (kI 1) (g2 (eK 3 aU (a8 (rS 0) (a8 (g2 (rB 1) (kI 13) cx) (a8 (kI 3) al)))) (kI 2) Kl) cx)))) (aS (kj 8 (iI 1 [7,0,1] (pI (aY (a8 (rS 6) al) .list)) (EH (fF (g2 (rB 0) (rB 1) (DI true))) (fF (g2 (eK 3 aU (a8 (rS 2) (a8 (g2 (rB 3) (kI 14) cx) (a8 (kI 4) al)))) (kI 0) (lW false)))) (rS 0))) (aS (kj 9 (iI 1 [6,0,1] (pI (aY (a8 (rS 4) al) .list)) (EH (fF (g2 (rB 0) (rB 1) (lW true))) (fF (g2 (eK 3 aU (a8 (rS 2) (a8 (g2 (rB 3) (kI 15) cx) (a8 (kI 3) al)))) (kI 0) (lW false)))) (rS 0))) (aS (U6 8 (U6 9 (kj 10 (iI 1 [] (pI (aY (a8 (rS 7) (a8 (rS 8) (a8 (aY (a8 (rS 6) al) .list) (a8 (rS 9) al)))) .tuple)) kT (cA (a8 (nG (uS (rB 0))) al) (jo hU)))))) (cR (aY (a8 (rS 3) (a8 (g2 (rB 10) (kI 0) bB) (a8 (g2 (rB 10) (kI 1) bB) (a8 (g2 (rB 10) (kI 2) bB) (a8 (g2 (rB 10) (kI 3) bB) (a8 (eK 3 aU (a8 (rS 0) (a8 (rS 1) (a8 (kI 5) al)))) al)))))) .tuple)))))))))
def oM:List D->R D:=dU 11 oK
def ii:ay->R Fl:=(aS (dR (EH (fF (g2 (rB 2) (aY al .tuple) (lW true))) (fF (g2 (eK 3 aU (a8 (rS 0) (a8 (kI 97) (a8 (kI 2) al)))) (kI 0) (lW false)))) (cR (eK 4 oM (a8 (rS 0) (a8 (rS 1) (a8 (rS 2) (a8 (rS 3) al)))))) (fun ρ=>.ok (.nx ρ))) (aS (NW 4) (aS (xD (ET (a8 (rS 2) al)) (q9 2 (dI (cV 5) (dI (cV 6) rM))) (aS (fz 7 (eK 3 aU (a8 (rS 0) (a8 (g2 (g2 (rB 1) (kI 10) cx) (rB 5) cx) (a8 (kI 8) al))))) (aS (dR (fF (g2 (rB 7) (kI 3) EL)) (nI 4 (g2 (aY (a8 (kI 0) (a8 (kI 0) (a8 (kI 1) al))) .list) (rB 7) bB) (rS 6)) (fun ρ=>.ok (.nx ρ))) (aS (fz 7 (eK 3 aU (a8 (rS 0) (a8 (g2 (g2 (rB 1) (kI 20) cx) (rB 5) cx) (a8 (kI 8) al))))) (dR (fF (g2 (rB 7) (kI 4) EL)) (nI 4 (g2 (aY (a8 (kI 2) (a8 (kI 2) (a8 (kI 3) (a8 (kI 3) al)))) .list) (rB 7) bB) (rS 6)) (fun ρ=>.ok (.nx ρ))))))) (aS (fun ρ=>(kj 8 (iI 1 [] (pI (rB 4)) kT (cA (a8 (rB 0) al) (jo hU)))) (ej ρ)) (cR (aY (a8 (rS 3) (a8 (g2 (rB 8) (kI 0) bB) (a8 (g2 (rB 8) (kI 1) bB) (a8 (g2 (rB 8) (kI 2) bB) (a8 (g2 (rB 8) (kI 3) bB) (a8 (eK 3 aU (a8 (rS 0) (a8 (rS 1) (a8 (kI 5) al)))) al)))))) .tuple))))))
def ij:List D->R D:=dU 9 ii
def lF:ay->R Fl:=(aS (fz 4 (eK 3 ms (a8 (rS 0) (a8 (rS 1) (a8 (rS 2) al))))) (aS (kj 5 (fun _=>.ok (.dict []))) (aS (xD (zZ (a8 (eK 3 aU (a8 (rS 0) (a8 (g2 (rB 1) (kI 60) cx) (a8 (g2 (rB 3) (kI 1) cx) al)))) al)) (cV 6) (aS (fz 7 (eK 2 jN (a8 (rS 0) (a8 (g2 (g2 (rB 1) (kI 70) cx) (g2 (kI 40) (rB 6) we) cx) al)))) (B2 5 (rS 7) (eK 4 ij (a8 (rS 0) (a8 (g2 (g2 (rB 1) (kI 80) cx) (g2 (kI 40) (rB 6) we) cx) (a8 (rS 4) (a8 (rS 7) al)))))))) (aS (fz 8 (cA (a8 (rB 5) al) (jo iP))) (aS (fz 9 (eK 3 aU (a8 (rS 0) (a8 (g2 (rB 1) (kI 61) cx) (a8 (g2 (cA (a8 (rB 8) al) (jo lv)) (kI 1) cx) al))))) (cR (aY (a8 (rS 4) (a8 (cA (a8 (iI 1 [5] (pI (g2 (r9 (rB 8) (r6 (rS 9)) rH) (r9 (rB 8) rH (r6 (rS 9))) cx)) kT (g2 (rB 1) (rB 0) bB)) al) (jo hU)) al)) .tuple)))))))
def lG:List D->R D:=dU 10 lF
def lH:ay->R Fl:=(aS (kj 3 (aY al .list)) (aS (kj 4 (aY al .list)) (aS (xD (ET (a8 (rS 2) al)) (q9 2 (dI (cV 5) (dI (cV 6) rM))) (aS (fz 7 (eK 3 aU (a8 (rS 0) (a8 (g2 (rB 1) (rB 5) cx) (a8 (kI 8) al))))) (dR (fF (g2 (rB 7) (kI 2) EL)) (yT 3 (rS 6)) (dR (fF (g2 (rB 7) (kI 2) (lW false))) (yT 4 (rS 6)) (fun ρ=>.ok (.nx ρ)))))) (cR (aY (a8 (cA (a8 (rB 3) al) (jo hU)) (a8 (cA (a8 (rB 4) al) (jo hU)) al)) .tuple)))))
def rX:List D->R D:=dU 8 lH
def oN:ay->R Fl:=(aS (fz 3 (eK 4 lG (a8 (rS 0) (a8 (kI 100) (a8 (rS 1) (a8 (rS 2) al)))))) (aS (fz 4 (eK 4 oJ (a8 (rS 0) (a8 (kI 20) (a8 (g2 (rB 3) (kI 0) bB) (a8 (g2 (aY (a8 (kI 2) (a8 (kI 4) al)) .list) (eK 3 aU (a8 (rS 0) (a8 (kI 97) (a8 (kI 2) al)))) bB) al)))))) (cR (aY (a8 (rS 3) (a8 (rS 4) (a8 (eK 3 rX (a8 (rS 0) (a8 (kI 30) (a8 (g2 (rB 3) (kI 0) bB) al)))) al))) .tuple))))
def oO:List D->R D:=dU 5 oN
def ik:ay->R Fl:=(aS (fz 2 (aY (a8 (fun _=>.ok (.str "x")) (a8 (aY al .tuple) (a8 (aY al .tuple) (a8 (aY al .tuple) (a8 (aY al .tuple) (a8 (kI 0) al)))))) .tuple)) (aS (kj 3 (aY (a8 (g2 (aY (a8 (fun _=>.ok (.str "X")) al) .tuple) (r9 (rB 2) (r6 (kI 1)) rH) cx) (a8 (r9 (rB 2) rH (r6 (kI 5))) (a8 (cA (a8 (rB 2) al) (jo iP)) (a8 kN (a8 (g2 (r9 (rB 2) rH (r6 (kI 5))) (aY (a8 (kI 10) al) .tuple) cx) (a8 (g2 (r9 (rB 2) rH (r6 (kI 5))) (aY (a8 (NU (kI 1)) al) .tuple) cx) (a8 (g2 (r9 (rB 2) rH (r6 (kI 5))) (aY (a8 (kB true) al) .tuple) cx) al))))))) .list)) (aS (uU 3 (aY (a8 (g2 (g2 (r9 (rB 2) rH (r6 (kI 1))) (aY (a8 (aY (a8 (fun _=>.ok (.str "a")) al) .list) al) .tuple) cx) (r9 (rB 2) (r6 (kI 2)) rH) cx) (a8 (g2 (g2 (r9 (rB 2) rH (r6 (kI 1))) (aY (a8 (aY (a8 (fun _=>.ok (.str "b")) (a8 (fun _=>.ok (.str "a")) al)) .tuple) al) .tuple) cx) (r9 (rB 2) (r6 (kI 2)) rH) cx) al)) .list)) (aS (yT 3 (g2 (g2 (r9 (rB 2) rH (r6 (kI 1))) (aY (a8 (aY (a8 (fun _=>.ok (.str "a")) (a8 (fun _=>.ok (.str "a")) al)) .tuple) al) .tuple) cx) (r9 (rB 2) (r6 (kI 2)) rH) cx)) (aS (uU 3 (aY (a8 (g2 (g2 (r9 (rB 2) rH (r6 (kI 1))) (aY (a8 (aY (a8 (fun _=>.ok (.str "a")) al) .tuple) (a8 (aY (a8 (fun _=>.ok (.str "a")) al) .tuple) al)) .tuple) cx) (r9 (rB 2) (r6 (kI 3)) rH) cx) (a8 (g2 (g2 (r9 (rB 2) rH (r6 (kI 3))) (aY (a8 (aY (a8 (fun _=>.ok (.str "a")) al) .tuple) (a8 (aY (a8 (fun _=>.ok (.str "a")) al) .tuple) al)) .tuple) cx) (r9 (rB 2) (r6 (kI 5)) rH) cx) (a8 (g2 (r9 (rB 2) rH (r6 (kI 4))) (aY (a8 kN (a8 (kI 0) al)) .tuple) cx) al))) .list)) (aS (uU 3 (aY (a8 (g2 (g2 (r9 (rB 2) rH (r6 (kI 1))) (aY (a8 (aY (a8 (fun _=>.ok (.str "zz")) al) .tuple) al) .tuple) cx) (r9 (rB 2) (r6 (kI 2)) rH) cx) (a8 (g2 (rB 2) (aY (a8 (kI 0) al) .tuple) cx) (a8 (g2 (g2 (r9 (rB 2) rH (r6 (kI 2))) (aY (a8 (aY (a8 (fun _=>.ok (.str "a")) (a8 (kI 1) al)) .tuple) al) .tuple) cx) (r9 (rB 2) (r6 (kI 3)) rH) cx) al))) .list)) (cR (g2 (rB 3) (eK 3 aU (a8 (rS 0) (a8 (rS 1) (a8 (kI 16) al)))) bB))))))))
def fK:List D->R D:=dU 4 ik
def js:ay->R Fl:=(aS (fz 2 (aY (a8 (fun _=>.ok (.str "a")) (a8 (fun _=>.ok (.str "b")) al)) .tuple)) (aS (fz 3 (aY (a8 (fun _=>.ok (.str "x")) (a8 (aY al .tuple) (a8 (aY al .tuple) (a8 (aY al .tuple) (a8 (aY al .tuple) (a8 (kI 0) al)))))) .tuple)) (aS (fz 4 (eK 2 fK (a8 (rS 0) (a8 (g2 (rB 1) (kI 1) cx) al)))) (aS (fz 5 (cA (a8 (iI 1 [3] (pI (aY (a8 (fun _=>.ok (.str "p")) (a8 (fun _=>.ok (.str "q")) (a8 (fun _=>.ok (.str "r")) (a8 (fun _=>.ok (.str "s")) (a8 (fun _=>.ok (.str "t")) (a8 (fun _=>.ok (.str "u")) (a8 (fun _=>.ok (.str "v")) al))))))) .list)) kT (g2 (aY (a8 (rS 0) al) .tuple) (r9 (rB 1) (r6 (kI 1)) rH) cx)) al) (jo hU))) (aS (kj 6 (aY (a8 (aY (a8 (rS 2) (a8 (aY (a8 (rS 4) al) .tuple) al)) .tuple) (a8 (aY (a8 (rS 2) (a8 (aY (a8 (rS 3) (a8 (rS 4) al)) .tuple) al)) .tuple) (a8 kN al))) .list)) (aS (uU 6 (aY (a8 (aY (a8 (rS 2) (a8 (aY (a8 (rS 3) (a8 (rS 3) al)) .tuple) al)) .tuple) (a8 (aY (a8 (rS 2) (a8 (rS 5) al)) .tuple) (a8 (aY (a8 (rS 2) (a8 (aY (a8 (rS 3) al) .list) al)) .tuple) (a8 (aY (a8 (rS 2) al) .tuple) (a8 (aY (a8 (rS 2) (a8 (aY al .tuple) al)) .list) (a8 kN (a8 (aY (a8 (aY (a8 (fun _=>.ok (.str "b")) (a8 (fun _=>.ok (.str "a")) al)) .tuple) (a8 (aY al .tuple) al)) .tuple) al))))))) .list)) (aS (uU 6 (aY (a8 (aY (a8 (aY (a8 (fun _=>.ok (.str "a")) (a8 (fun _=>.ok (.str "a")) al)) .tuple) (a8 (aY al .tuple) al)) .tuple) (a8 (aY (a8 (aY (a8 (fun _=>.ok (.str "a")) al) .list) (a8 (aY al .tuple) al)) .tuple) (a8 (aY (a8 (aY (a8 (fun _=>.ok (.str "A")) al) .tuple) (a8 (aY al .tuple) al)) .tuple) (a8 (aY (a8 (cA (a8 (fun _=>.ok (.str "abcdefg")) al) (jo hU)) (a8 (aY al .tuple) al)) .tuple) (a8 (g2 (aY (a8 (rS 2) (a8 (aY al .tuple) al)) .tuple) (aY (a8 (aY al .tuple) al) .tuple) cx) (a8 (aY (a8 (aY (a8 (fun _=>.ok (.str "")) al) .tuple) (a8 (aY al .tuple) al)) .tuple) al)))))) .list)) (cR (g2 (rB 6) (g2 (aY (a8 (kI 0) (a8 (kI 0) (a8 (kI 0) (a8 (kI 1) (a8 (kI 1) (a8 (kI 3) (a8 (kI 4) (a8 (kI 5) (a8 (kI 6) (a8 (kI 7) (a8 (kI 8) (a8 (kI 9) (a8 (kI 10) (a8 (kI 11) (a8 (kI 12) (a8 (kI 13) (a8 (kI 14) (a8 (kI 15) al)))))))))))))))))) .list) (eK 3 aU (a8 (rS 0) (a8 (rS 1) (a8 (kI 18) al)))) bB) bB)))))))))
def hX:List D->R D:=dU 7 js
def gm:ay->R Fl:=(aS (kj 3 (aY (a8 kN (a8 (cA (a8 (rB 2) al) (jo iP)) (a8 (aY (a8 (fun _=>.ok (.str "zzzzz")) al) .tuple) (a8 (g2 (rB 2) (aY (a8 (fun _=>.ok (.str "zzzzz")) al) .tuple) cx) (a8 (aY (a8 (kI 1) al) .tuple) (a8 (kI 0) (a8 (fun _=>.ok (.str "a")) (a8 (aY (a8 (fun _=>.ok (.str "")) al) .tuple) (a8 (aY (a8 kN al) .tuple) al))))))))) .list)) (aS (dR (fF (g2 (rB 2) (aY al .tuple) (lW true))) (uU 3 (aY (a8 (g2 (rB 2) (rB 2) cx) (a8 (g2 (r9 (rB 2) rH (r6 (kI 1))) (r9 (rB 2) rH (r6 (kI 1))) cx) (a8 (aY (a8 (g2 (rB 2) (kI 0) bB) (a8 (kI 0) al)) .tuple) al))) .list)) (fun ρ=>.ok (.nx ρ))) (aS (dR (fF (g2 (cA (a8 (rB 2) al) (jo lv)) (kI 1) QJ)) (uU 3 (HX 3 (a8 (O6 (rB 2)) al))) (fun ρ=>.ok (.nx ρ))) (cR (g2 (rB 3) (eK 3 aU (a8 (rS 0) (a8 (rS 1) (a8 (cA (a8 (rB 3) al) (jo lv)) al)))) bB)))))
def iQ:List D->R D:=dU 4 gm
def hZ:ay->R Fl:=(aS (fz 3 (eK 3 iQ (a8 (rS 0) (a8 (g2 (rB 1) (kI 1) cx) (a8 (rS 2) al))))) (aS (kj 4 (aY (a8 kN (a8 (aY (a8 (aY al .tuple) al) .tuple) (a8 (aY (a8 (aY al .tuple) (a8 (aY al .tuple) al)) .list) (a8 (aY (a8 (aY al .tuple) (a8 (aY al .tuple) (a8 (aY al .tuple) al))) .tuple) (a8 (aY (a8 (rS 3) (a8 (aY al .tuple) al)) .tuple) (a8 (aY (a8 (aY al .tuple) (a8 (rS 3) al)) .tuple) (a8 (aY (a8 (rS 3) (a8 (aY al .tuple) al)) .tuple) (a8 (aY (a8 (aY al .tuple) (a8 (rS 3) al)) .tuple) (a8 (kI 0) al))))))))) .list)) (aS (dR (fF (g2 (rB 2) (aY al .tuple) (lW true))) (uU 4 (aY (a8 (aY (a8 (rS 2) (a8 (r9 (rB 2) rH (r6 (kI 1))) al)) .tuple) (a8 (aY (a8 (r9 (rB 2) rH (r6 (kI 1))) (a8 (rS 2) al)) .tuple) al)) .list)) (fun ρ=>.ok (.nx ρ))) (cR (g2 (rB 4) (eK 3 aU (a8 (rS 0) (a8 (rS 1) (a8 (cA (a8 (rB 4) al) (jo lv)) al)))) bB)))))
def lI:List D->R D:=dU 5 hZ
def qI:ay->R Fl:=(EY IS (cR (CT ck (a8 (rS 0) (a8 (rS 1) al)))))
def qJ:List D->R D:=dU 3 qI
def j4:ay->R Fl:=(EY IS (aS (dR (fF (g2 (rB 1) (kI 0) (lW false))) (cR (kS 2 lE (rS 0) (a8 (rS 2) al))) (fun ρ=>.ok (.nx ρ))) (aS (dR (fF (g2 (rB 1) (kI 1) (lW false))) (cR (kS 3 oF (rS 0) (a8 (rS 2) (a8 (kB true) al)))) (fun ρ=>.ok (.nx ρ))) (aS (dR (fF (g2 (rB 1) (kI 2) (lW false))) (cR (kS 2 uY (rS 0) (a8 (rS 2) al))) (fun ρ=>.ok (.nx ρ))) (aS (dR (fF (g2 (rB 1) (kI 3) (lW false))) (cR (kS 1 jM (rS 0) al)) (fun ρ=>.ok (.nx ρ))) (cR (kS 1 oC (rS 0) al)))))))
def fL:List D->R D:=dU 4 j4
def GI:ay->R Fl:=(aS (wg (eK 3 oO (a8 (rS 0) (a8 (kI 5) (a8 (kI 4) al)))) (q9 3 (dI (cV 1) (dI (cV 2) (dI (cV 3) rM))))) (aS (fz 4 (CT ck (a8 (rS 1) (a8 (rS 2) al)))) (aS (fz 5 (eK 3 lI (a8 (rS 0) (a8 (kI 0) (a8 (g2 (rB 1) (kI 0) bB) al))))) (aS (dR (fF (g2 (aY (a8 (eK 3 fL (a8 (rS 4) (a8 (kI 0) (a8 (rS 5) al)))) (a8 (eK 3 fL (a8 (rS 4) (a8 (kI 1) (a8 (rS 5) al)))) al)) .list) (HX 2 (a8 (aY (a8 (fun _=>.ok (.str "refused")) (a8 (kI 2) al)) .tuple) al)) (lW true))) (cR (kB false)) (fun ρ=>.ok (.nx ρ))) (aS (dR (fF (g2 (eK 3 fL (a8 (rS 4) (a8 (kI 2) (a8 (g2 (aY (a8 kN (a8 (fun _=>.ok (.str "zzzzz")) (a8 (kI 0) (a8 (aY (a8 (fun _=>.ok (.str "a")) al) .list) al)))) .list) (eK 3 aU (a8 (rS 0) (a8 (kI 5) (a8 (kI 4) al)))) bB) al)))) (aY (a8 (fun _=>.ok (.str "refused")) (a8 (kI 3) al)) .tuple) (lW true))) (cR (kB false)) (fun ρ=>.ok (.nx ρ))) (aS (dR (fF (g2 (aY (a8 (eK 3 fL (a8 (rS 4) (a8 (kI 3) (a8 kN al)))) (a8 (eK 3 fL (a8 (rS 4) (a8 (kI 4) (a8 kN al)))) al)) .list) (HX 2 (a8 (aY (a8 (fun _=>.ok (.str "refused")) (a8 (kI 9) al)) .tuple) al)) (lW true))) (cR (kB false)) (fun ρ=>.ok (.nx ρ))) (aS (dR (yS (fF (g2 (kS 1 dL (rS 4) al) (rB 2) (lW true))) (yS (fF (g2 (kS 1 rW (rS 4) al) (aY al .list) (lW true))) (yS (fF (g2 (kS 1 oA (rS 4) al) (kI 0) (lW true))) (fF (g2 (kS 2 jr (rS 4) (a8 (fun _=>.ok (.str "zzzzz")) al)) kN (NJ true)))))) (cR (kB false)) (fun ρ=>.ok (.nx ρ))) (aS (dR (fF (g2 (eK 2 qJ (a8 (eK 2 hX (a8 (rS 0) (a8 (kI 6) al))) (a8 kN al))) (aY (a8 (fun _=>.ok (.str "refused")) (a8 (kI 0) al)) .tuple) (lW true))) (cR (kB false)) (fun ρ=>.ok (.nx ρ))) (cR (g2 (eK 2 qJ (a8 (rS 1) (a8 (eK 3 iQ (a8 (rS 0) (a8 (kI 10) (a8 (g2 (rB 1) (kI 0) bB) al)))) al))) (aY (a8 (fun _=>.ok (.str "refused")) (a8 (kI 1) al)) .tuple) (lW false)))))))))))
def F_law:List D->R D:=dU 6 GI
end
end Z
section
set_option hygiene false
namespace Z
open PySem L2 J
local macro_rules | `(tactic| walk_at "zz") => `(tactic| simp only [T7, R5, T8, T9, Ta, CF, qf, CG, SG, KJ, KL, Pe, SH, Gv, CH, Gw, CI, CJ, CK, KM, KN, KO, Gx, KP, Gy, SK, Pg, Ph, KQ, Pi, KR, Pj, SO, KS, Pk, KU, Gz, KW, GA, GB, KY, KZ, K_, L6, CL, CM, Pn, L7, GC, L8, SW, Pp, Pq, L9, Pr, La, Lb, Ps, Pt, Lc, S_, Ld, Le, Pu, Pw, Lf, QY, Lg, Px, Py, Lh, GD, GE, PD, A1, A2, A3, Li, T3, Lk, Ll, Lm, Ln, Lo, Lp, A5, B3, SE, SF, cx, we, HM, Kl, EJ, EL, P7, QJ, HN, lv, aT, fD, bt, gI, aO, Mt, pO, c_, Hh, uk, ul, Nat.reduceSub, Nat.reduceAdd, MO, MP, Nat.sub_self, if_true, if_false, ite_true, ite_false, cy, decide_true, decide_false, cond_true, cond_false, nX, ir, az, dg, E6, Int.reduceLE, Int.reduceAdd, Int.reduceMul, Nat.reduceLT, Int.reduceNeg, reduceIte])
local macro_rules | `(tactic| walk_at "yy") => `(tactic| simp only [T7, R5, T8, T9, Ta, CF, qf, CG, Pe, SH, Gv, CH, Gw, CI, CJ, CK, KM, KN, KO, Gx, KP, Gy, SK, Pg, Ph, KQ, Pi, KR, Pj, SO, KS, Pk, KU, Gz, KW, GA, GB, KY, KZ, K_, L6, CL, CM, Pn, L7, GC, L8, SW, Pp, Pq, L9, Pr, La, Lb, Ps, Pt, Lc, S_, Ld, Le, Pu, Pw, Lf, QY, Lg, Px, Py, Lh, GD, GE, PD, A1, A2, A3, Li, T3, Lk, Ll, Lm, Ln, Lo, Lp, A5, B3, SE, SF, cx, lv, aT, fD, bt, gI, aO, Mt, pO, c_, Hh, uk, ul, Nat.reduceSub, Nat.reduceAdd, MO, MP, Nat.sub_self, if_true, if_false, ite_true, ite_false, cy, decide_true, decide_false, cond_true, cond_false, nX, ir, az, dg, E6, Int.reduceLE, Int.reduceAdd, Int.reduceMul, Nat.reduceLT, Int.reduceNeg, reduceIte])
theorem c7 {n:Nat}{g:ay->R Fl}{ds:List D}{d:D} (h:g (bF n ds)=.ok (.rt d)):dU n g ds=.ok d:=by unfold dU;rw [h]
theorem jO {n:Nat}{g:ay->R Fl}{ds:List D}{c:Str}{m:Option D} (h:g (bF n ds)=.ex c m):dU n g ds=.ex c m:=by unfold dU;rw [h]
def GJ (ns:List Int) (k:Int):Int:=if k<ns.length then ns.getD k.toNat 0 else if ns=[] then 0 else ns.getD (k % ns.length).toNat 0*31+k
theorem Lx (ns:List Int):gN (ns.map .int)=true:=by
 induction ns with
 |nil=>rfl
 |cons x r ih=>simp [gN,i8,ih]
theorem Og (ns:List Int):bu (.list (ns.map .int)) (.list [])=decide (ns=[]):=by
 cases ns with
 |nil=>rfl
 |cons x r=>simp [bu,n6]
theorem R8 (ns:List Int):lW false (.list (ns.map .int)) (.list [])=.ok (.bool (decide (ns=[]))):=by
 unfold lW
 have h1:(ja (ns.map .int)).canLay0=true:=by simp only [i8];exact Lx ns
 have h2:(ja []).canLay0=true:=rfl
 have h3:min (ja (ns.map .int)).depth (ja []).depth<=60:=bT (wS _ _) (by decide)
 rw [h1,h2,decide_eq_true h3,Og]
 rfl
theorem R9 (ns:List Int) (k:Int) (h0:0<=k) (h1:k<ns.length):DF (ns.map dZ) k=some (.int (ns.getD k.toNat 0)):=by
 have hk:k.toNat<ns.length:=by omega
 have:=o6 (xs:=ns.map dZ) (j:=k.toNat) (v:=.int (ns.getD k.toNat 0)) (by rw [aK,bn hk];simp [hk])
 rwa [cG h0] at this
theorem Ly (ns:List Int) (k:Int) (h0:0<=k) (h1:k<ns.length):bB (.list (ns.map .int)) (.int k)=.ok (.int (ns.getD k.toNat 0)):=by
 have e:∀ xs k,bB (.list xs) k=Cr (.list xs) k:=fun _ _=>rfl
 rw [e]
 unfold Cr
 simp only [R9 ns k h0 h1]
theorem GK {i j:Int} (h1:-(2 ^ 64)<j) (h2:j<2 ^ 64):zT i j=true:=by
 unfold zT
 simp only [pS,aJ,decide_eq_true_eq]
 exact .inr ⟨h1,h2⟩
theorem qK {i j:Int} (h1:-(2 ^ 64)<i) (h2:i<2 ^ 64):zT i j=true:=by
 unfold zT
 simp only [pS,aJ,decide_eq_true_eq]
 exact .inl ⟨h1,h2⟩
theorem Oh (ns:List Int) (k:Int) (hk:0<=k):k9 [.list (ns.map .int),.int k]=.ok (.int (GJ ns k)):=by
 unfold k9
 refine c7 ?_
 unfold k8 bF GJ
 walk_at "zz"
 by_cases h:k<ns.length
 ·simp only [h,decide_true,cond_true,if_true,Ly ns k hk h,bind_ok]
  walk_at "zz"
 ·simp only [h,decide_false,cond_false,if_false]
  walk_at "zz"
  rw [R8]
  walk_at "zz"
  by_cases h2:ns=[]
  ·simp only [h2,decide_true,cond_true,if_true]
   walk_at "zz"
  ·have hl:(0:Int)<ns.length:=by have:0<ns.length:=List.length_pos_iff.mpr h2;omega
   simp only [h2,decide_false,cond_false,if_false,hl,decide_true]
   walk_at "zz"
   simp only [h2,decide_false,cond_false,if_false,hl,decide_true,if_true]
   walk_at "zz"
   rw [Ly ns _ (yH _ (by omega)) (uC _ hl)]
   walk_at "zz"
   rw [GK (by decide) (by decide)]
   walk_at "zz"
def xM (ns:List Int) (k:Int):Int:=(GJ ns k+7919*k+1)*48271 % 2147483647
def en (ns:List Int) (k m:Int):Int:=(xM ns k*xM ns k+7*xM ns k+k) % 2147483629 % m
theorem dW (ns:List Int) (k m:Int) (h:0<m):0<=en ns k m:=yH _ (by omega)
theorem eC (ns:List Int) (k m:Int) (h:0<m):en ns k m<m:=uC _ h
theorem dX (ns:List Int) (k m:Int) (hk:0<=k) (hm:0<m):aU [.list (ns.map .int),.int k,.int m]=.ok (.int (en ns k m)):=by
 have d0:0<=xM ns k:=yH _ (by decide)
 have d1:xM ns k<2147483647:=uC _ (by decide)
 unfold aU
 refine c7 ?_
 unfold mq bF
 walk_at "zz"
 rw [Oh ns k hk]
 walk_at "zz"
 rw [qK (by decide) (by decide)]
 walk_at "zz"
 rw [GK (by decide) (by decide)]
 walk_at "zz"
 rw [show (GJ ns k+7919*k+1)*48271 % 2147483647=xM ns k from rfl,qK (i:=xM ns k) (by omega) (by omega)]
 walk_at "zz"
 rw [qK (i:=7) (by decide) (by decide)]
 walk_at "zz"
 rw [decide_eq_true hm]
 walk_at "zz"
 rfl
theorem qj {α β:Type}{kt:D->ay->R ay}{gb:ay->R Fl} (c:α->D) (f:β->α->β) (P:List α->β->ay->Prop) (h:∀ x bM b ρ,P (x::bM) b ρ->∃ ρ1 ρ',kt (c x) ρ=.ok ρ1/\gb ρ1=.ok (.nx ρ')/\P bM (f b x) ρ') :
  ∀ (xs:List α) (b:β) (ρ:ay),P xs b ρ->∃ ρ',uP kt gb (xs.map c) ρ=.ok (.nx ρ')/\P [] (xs.foldl f b) ρ'
 |[],b,ρ,p=>⟨ρ,rfl,p⟩
 |x::r,b,ρ,p=>by
  obtain ⟨ρ1,ρ2,h1,h2,h3⟩:=h x r b ρ p
  obtain ⟨ρ3,h4,h5⟩:=qj c f P h r (f b x) ρ2 h3
  refine ⟨ρ3,?_,h5⟩
  rw [aT]
  unfold uP
  rw [h1]
  simp only [h2]
  exact h4
theorem GL {α β:Type}{kt:D->ay->R ay}{gb hh:ay->R Fl}{r:R Fl} (c:α->D) (f:β->α->β) (P:List α->β->ay->Prop) {xs:List α} (b:β) {ρ:ay}
  (h:∀ x bM b ρ,P (x::bM) b ρ->∃ ρ1 ρ',kt (c x) ρ=.ok ρ1/\gb ρ1=.ok (.nx ρ')/\P bM (f b x) ρ') (p0:P xs b ρ) (k:∀ ρ',P [] (xs.foldl f b) ρ'->hh ρ'=r):(uP kt gb (xs.map c) ρ).bind (KI hh)=r:=by
 obtain ⟨ρ',e,p⟩:=qj c f P h xs b ρ p0
 rw [e,bind_ok,qf]
 exact k ρ' p
theorem B5 (n:Nat) (h:n<=1000):ES [.int (n:Int)]=.ok ((bN n).map fun (i:Nat)=>dZ (i:Int)):=by
 have e:ES [.int (n:Int)]=.ok (qc 0 (n:Int).toNat):=O5 (by omega) (by omega)
 rw [e]
 unfold qc
 rw [jE]
 exact congrArg R.ok (sO fun a _=>congrArg dZ (Int.zero_add _))
def tT (x:Str):Bool:=decide (1<=x.cps.size)&&decide (x.cps.size<=6/\x.cps.size≠5)&&x.cps.toList.all fun c=>decide (97<=c)&&decide (c<=122)
def re (ns:List Int) (k:Int):Nat:=[1,2,3,6,1,4].getD (en ns k 6).toNat 0
def B6 (ns:List Int) (k:Int) (i:Nat):Nat:=97+(en ns (k+1+i) 26).toNat
def kn (ns:List Int) (k:Int):Str:=⟨((bN (re ns k)).map (B6 ns k)).toArray⟩
theorem GM (ns:List Int) (k:Int):1<=re ns k/\(re ns k<=6/\re ns k≠5):=by
 have h0:=dW ns k 6 (by decide)
 have h1:=eC ns k 6 (by decide)
 unfold re
 have:∀ j:_root_.Fin 6,1<=[1,2,3,6,1,4].getD j.val 0/\([1,2,3,6,1,4].getD j.val 0<=6/\[1,2,3,6,1,4].getD j.val 0≠5):=by decide
 exact this ⟨(en ns k 6).toNat,by omega⟩
theorem Oi (ns:List Int) (k:Int) (i:Nat):97<=B6 ns k i/\B6 ns k i<=122:=by
 have h0:=dW ns (k+1+i) 26 (by decide)
 have h1:=eC ns (k+1+i) 26 (by decide)
 unfold B6
 omega
theorem CU (ns:List Int) (k:Int):tT (kn ns k)=true:=by
 have ⟨h1,h2⟩:=GM ns k
 unfold tT kn
 simp only [aC,aO,jA,aJ,decide_eq_true_eq,dA]
 refine ⟨⟨h1,h2⟩,fun c hc=>?_⟩
 obtain ⟨i,_,rfl⟩:=List.mem_map.mp hc
 exact Oi ns k i
theorem Lz (j:Int) (h0:0<=j) (h1:j<26):bB (.str "abcdefghijklmnopqrstuvwxyz") (.int j)=.ok (.str ⟨#[97+j.toNat]⟩):=by
 have e:∀ x k,bB (.str x) k=Cr (.str x) k:=fun _ _=>rfl
 rw [e]
 unfold Cr
 have hc:("abcdefghijklmnopqrstuvwxyz" : Str).cps.toList=(bN 26).map (97 + ·):=by decide +kernel
 have hl:("abcdefghijklmnopqrstuvwxyz" : Str).length<=1000:=by decide +kernel
 have hj:j.toNat<26:=by omega
 have hx:=o6 (xs:=(bN 26).map (97 + ·)) (j:=j.toNat) (v:=97+j.toNat) (by rw [aK,Hf hj];rfl)
 rw [cG h0] at hx
 simp only [hl,if_true,hc,hx]
theorem Oj (j:Int) (h0:0<=j) (h1:j<6):bB (.list [.int 1,.int 2,.int 3,.int 6,.int 1,.int 4]) (.int j)=.ok (.int (([1,2,3,6,1,4].getD j.toNat 0:Nat):Int)):=by
 obtain ⟨n,rfl⟩:=DE h0
 have hn:n<6:=by omega
 match n,hn with
 | 0,_=>rfl
 | 1,_=>rfl
 | 2,_=>rfl
 | 3,_=>rfl
 | 4,_=>rfl
 | 5,_=>rfl
theorem B7 (l:List Nat):∀ (acc:Str),l.foldl (fun (a:Str) c=>a++⟨#[c]⟩) acc=⟨(acc.cps.toList++l).toArray⟩:=by
 induction l with
 |nil=>intro acc;simp
 |cons c r ih =>
  intro acc
  rw [yw,ih]
  show (⟨((acc.cps++#[c]).toList++r).toArray⟩:Str)=_
  simp
theorem HZ:("" : Str).cps.toList=[]:=by decide +kernel
theorem GN (ns:List Int) (k:Int) (hk:0<=k):jN [.list (ns.map .int),.int k]=.ok (.str (kn ns k)):=by
 have h0:=dW ns k 6 (by decide)
 have h1:=eC ns k 6 (by decide)
 have ⟨w1,w2⟩:=GM ns k
 unfold jN
 refine c7 ?_
 unfold oG bF
 walk_at "zz"
 rw [z_ (ds:=(bN (re ns k)).map fun (i:Nat)=>dZ i)]
 ·refine GL (fun (i:Nat)=>dZ i) (fun (a:Str) i=>a++⟨#[B6 ns k i]⟩) (fun bM a ρ=>a.length+bM.length<=900/\∃ z,ρ=[.shr (.list (ns.map .int)),.shr (.int k),.shr (.str a),z]) "" ?_ ⟨by rw [jA,show ("" : Str).length=0 by decide];omega,_,rfl⟩ ?_
  ·rintro i bM a ρ ⟨hl,z,rfl⟩
   simp only [bt] at hl
   refine ⟨_,[.shr (.list (ns.map .int)),.shr (.int k),.shr (.str (a++⟨#[B6 ns k i]⟩)),.shr (.int i)],rfl,?_,?_,_,rfl⟩
   ·walk_at "zz"
    rw [dX ns _ 26 (by omega) (by decide)]
    walk_at "zz"
    rw [Lz _ (dW _ _ _ (by decide)) (eC _ _ _ (by decide))]
    walk_at "zz"
    have hz:a.length+(⟨#[97+(en ns (k+1+i) 26).toNat]⟩:Str).length<=1000:=by
     show a.length+1<=1000
     omega
    rw [if_pos hz]
    walk_at "zz"
    rw [show 97+(en ns (k+1+i) 26).toNat=B6 ns k i from rfl]
   ·show (a.cps++#[_]).size+bM.length<=900
    rw [IN]
    show a.cps.size+1+bM.length<=900
    have:a.length=a.cps.size:=rfl
    omega
  ·rintro ρ' ⟨_,z,rfl⟩
   walk_at "zz"
   have:(bN (re ns k)).foldl (fun (a:Str) i=>a++⟨#[B6 ns k i]⟩) ""=kn ns k:=by
    have:=B7 ((bN (re ns k)).map (B6 ns k)) ""
    rw [List.foldl_map] at this
    rw [this,HZ]
    unfold kn
    rw [pO]
   rw [this]
 ·walk_at "zz"
  rw [dX ns k 6 hk (by decide)]
  walk_at "zz"
  have et:=Oj (en ns k 6) h0 h1
  have ew:[1,2,3,6,1,4].getD (en ns k 6).toNat 0=re ns k:=rfl
  rw [ew] at et
  rw [et]
  walk_at "zz"
  rw [B5 (re ns k) (by omega)]
def kX (l:List (Str×D)):List (D×D):=l.map fun p=>(.str p.1,p.2)
def tU (l:List (Str×D)) (x:Str) (d:D):List (Str×D):=if l.any (fun p=>decide (p.1=x)) then l.map (fun p=>if p.1=x then (p.1,d) else p) else l++[(x,d)]
theorem oP (x y:Str):bu (.str x) (.str y)=decide (x=y):=by
 show (x==y)=_
 rw [qB]
theorem Ol (l:List (Str×D)) (x:Str) (d:D):HU (kX l) (.str x) d=kX (tU l x d):=by
 unfold HU tU kX
 rw [List.any_map]
 have e:((fun kv:D×D=>bu kv.1 (.str x))∘fun p:Str×D=>(aX p.1,p.2))=fun p=>decide (p.1=x):=by
  funext p
  exact oP p.1 x
 rw [e]
 split
 ·rw [iE,iE]
  apply sO
  intro p _
  simp only [Function.comp,oP]
  by_cases h:p.1=x
  ·simp [h]
  ·simp [h]
 ·simp
theorem xN (l:List (Str×D)):fJ (kX l)=true:=by
 unfold fJ kX
 rw [vA,dA]
 intro p _
 rfl
theorem CV (l:List (Str×D)) (x:Str) (d:D):(tU l x d).length<=l.length+1:=by
 unfold tU
 split<;>simp
theorem A7 (l:List (Str×D)) (x:Str) (d:D):(tU l x d).map (·.1)=if x∈l.map (·.1) then l.map (·.1) else l.map (·.1)++[x]:=by
 unfold tU
 have e:(l.any fun p=>decide (p.1=x))=decide (x∈l.map (·.1)):=by
  rw [gH]
  simp only [wz,decide_eq_true_eq,List.mem_map]
 rw [e]
 by_cases h:x∈l.map (·.1)
 ·rw [decide_eq_true h,if_pos rfl,if_pos h,iE]
  apply sO
  intro p _
  by_cases hp:p.1=x<;>simp [hp]
 ·rw [decide_eq_false h,if_neg aM,if_neg h,l7]
  rfl
theorem LA {Q:Str->D->Prop}{l:List (Str×D)}{x:Str}{d:D} (h:∀ p∈l,Q p.1 p.2) (hx:Q x d):∀ p∈tU l x d,Q p.1 p.2:=by
 unfold tU
 split
 ·intro p hp
  obtain ⟨p',hp',rfl⟩:=List.mem_map.mp hp
  by_cases e:p'.1=x
  ·rw [if_pos e];rw [e];exact hx
  ·rw [if_neg e];exact h p' hp'
 ·intro p hp
  rcases List.mem_append.mp hp with hp|hp
  ·exact h p hp
  ·rw [List.mem_singleton.mp hp];exact hx
theorem H_ {l:List Str}{x:Str} (h:l.Nodup):(if x∈l then l else l++[x]).Nodup:=by
 by_cases hx:x∈l
 ·rw [if_pos hx];exact h
 ·rw [if_neg hx];exact Ga h hx
theorem PL {i:Nat}{gk g:ay->R D}{ρ:ay}{l:List (Str×D)}{x:Str}{d:D} (hi:ρ[i]?=some (Sl.own (.dict (kX l)))) (hg:g ρ=.ok d) (hk:gk ρ=.ok (.str x)) (hl:l.length<1000):B2 i gk g ρ=.ok (.nx (ρ.set i (.own (.dict (kX (tU l x d)))))):=by
 have hl':(kX l).length<1000:=by unfold kX;rw [aO];exact hl
 have e:B2 i gk g ρ=(g ρ).bind fun d=>(gk ρ).bind fun k=>match vK k with
  |some _=>if (kX l).length<1000/\fJ (kX l)=true then .ok (.nx (ρ.set i (.own (.dict (HU (kX l) k d))))) else .no
  |none=>.no:=by
  unfold B2
  simp only [hi]
  try rfl
 rw [e,hg,B3,hk,B3]
 simp only [vK,if_pos (wW hl' (xN l)),Ol]
theorem CW (l:List (Str×D)):iP (.dict (kX l))=.ok (.list ((l.map (·.1)).map .str)):=by
 have e:∀ kvs,iP (.dict kvs)=if fJ kvs=true then .ok (.list (kvs.map (·.1))) else .no:=fun _=>rfl
 rw [e,if_pos (xN l)]
 unfold kX
 rw [iE,iE]
 rfl
theorem sorted_strs (ss:List Str) (h:ss.length<64):qF (.list (ss.map .str))=.ok (.list ((jC ss).map .str)):=by
 have e:∀ ds,qF (.list ds)=match fH ds with
  |some ss=>if ss.length<64 then .ok (.list ((jC ss).map .str)) else .no
  |none=>.no:=fun _=>rfl
 rw [e,strsOf_map]
 simp only [if_pos h]
theorem iX (ds:List D):hU (.list ds)=.ok (.tuple ds):=id rfl
def B8 (ns:List Int) (k:Int) (n:Nat):List Str:=(bN n).map fun (i:Nat)=>kn ns (k+1+8*(i:Int))
def B9 (ns:List Int) (k m:Int):List Str:=jC (eA [] (B8 ns k (en ns k (m+1)).toNat))
structure F4 (fs:List Str) (n:Nat):Prop where
 ok:∀ x∈fs,tT x=true
 up:fs.Pairwise fun a b=>lV a b=true
 len:fs.length<=n
theorem LB {α:Type}{a b:List α} (h:a.Perm b):a.length=b.length:=h.length_eq
theorem F5 (ns:List Int) (k m:Int) (hm:0<=m):F4 (B9 ns k m) m.toNat:=by
 have h0:=dW ns k (m+1) (by omega)
 have h1:=eC ns k (m+1) (by omega)
 have hp:=iU (eA [] (B8 ns k (en ns k (m+1)).toNat))
 refine ⟨fun x hx=>?_,?_,?_⟩
 ·have hx:=hp.mem_iff.mp hx
  rw [nA] at hx
  rcases hx with hx|hx
  ·cases hx
  ·obtain ⟨i,_,rfl⟩:=List.mem_map.mp hx
   exact CU _ _
 ·exact zQ (tw _) (hp.nodup_iff.mpr (m9 _ [] m6))
 ·unfold B9
  rw [LB hp]
  have:=kP (B8 ns k (en ns k (m+1)).toNat) []
  unfold B8 at this ⊢
  simp at this
  omega
theorem I0 (f:Nat->Str) (l:List Nat):∀ acc:List (Str×D),((l.foldl (fun (a:List (Str×D)) i=>tU a (f i) (.bool true)) acc).map (·.1))=eA (acc.map (·.1)) (l.map f):=by
 induction l with
 |nil=>intro acc;rfl
 |cons i r ih =>
  intro acc
  rw [yw,ih,aT,A7]
  rfl
theorem LC (ns:List Int) (k m:Int) (hk:0<=k) (hm:0<=m) (hm2:m<=20):ms [.list (ns.map .int),.int k,.int m]=.ok (.tuple ((B9 ns k m).map .str)):=by
 have h0:=dW ns k (m+1) (by omega)
 have h1:=eC ns k (m+1) (by omega)
 unfold ms
 refine c7 ?_
 unfold mr bF
 walk_at "zz"
 rw [z_ (ds:=(bN (en ns k (m+1)).toNat).map fun (i:Nat)=>dZ i)]
 ·refine GL (fun (i:Nat)=>dZ i) (fun (a:List (Str×D)) i=>tU a (kn ns (k+1+8*(i:Int))) (.bool true)) (fun bM a ρ=>a.length+bM.length<=60/\∃ z,ρ=[.shr (.list (ns.map .int)),.shr (.int k),.shr (.int m),.own (.dict (kX a)),z]) [] ?_ ⟨by simp;omega,_,rfl⟩ ?_
  ·rintro i bM a ρ ⟨hl,z,rfl⟩
   simp only [bt] at hl
   refine ⟨_,[.shr (.list (ns.map .int)),.shr (.int k),.shr (.int m),.own (.dict (kX (tU a (kn ns (k+1+8*(i:Int))) (.bool true)))),.shr (.int i)],rfl,?_,?_,_,rfl⟩
   ·refine (PL (l:=a) (x:=kn ns (k+1+8*(i:Int))) (d:=.bool true) rfl rfl ?_ (by omega)).trans rfl
    walk_at "zz"
    rw [qK (by decide) (by decide)]
    walk_at "zz"
    rw [GN ns _ (by omega)]
   ·have:=CV a (kn ns (k+1+8*(i:Int))) (.bool true)
    omega
  ·rintro ρ' ⟨hl,z,rfl⟩
   simp only [gI] at hl
   walk_at "zz"
   rw [CW]
   walk_at "zz"
   have ek:=I0 (fun i=>kn ns (k+1+8*(i:Int))) (bN (en ns k (m+1)).toNat) []
   rw [ek,sorted_strs]
   ·walk_at "zz"
    rw [iX]
    walk_at "zz"
    rfl
   ·rw [<- ek,aO];omega
 ·walk_at "zz"
  rw [dX ns k (m+1) hk (by omega)]
  walk_at "zz"
  have:=B5 (en ns k (m+1)).toNat (by omega)
  rw [cG h0] at this
  exact this
structure rY where
 name:Str
 needs:List Str
 bars:List Str
 makes:List Str
 ends:List Str
 price:Int
abbrev bj (xs:List Str):D:=.tuple (xs.map .str)
def jz (e:rY):D:=.tuple [.str e.name,bj e.needs,bj e.bars,bj e.makes,bj e.ends,.int e.price]
structure CY (fs xs:List Str):Prop where
 up:xs.Pairwise fun a b=>lV a b=true
 mem:∀ x∈xs,x∈fs
structure tV (fs:List Str) (e:rY):Prop where
 name:tT e.name=true
 needs:CY fs e.needs
 bars:CY fs e.bars
 makes:CY fs e.makes
 ends:CY fs e.ends
 nb:∀ x∈e.needs,x∉e.bars
 me:∀ x∈e.makes,x∉e.ends
 p0:0<=e.price
 p9:e.price<=9
def GO (xs:List Str):List Str:=jC (eA [] xs)
theorem qL {xs:List Str}{x:Str}:x∈GO xs↔x∈xs:=by
 unfold GO
 rw [(iU _).mem_iff,nA]
 simp
theorem Ra (xs:List Str):(GO xs).Pairwise fun a b=>lV a b=true:=zQ (tw _) ((iU _).nodup_iff.mpr (m9 _ [] m6))
theorem wJ {fs xs:List Str} (h:∀ x∈xs,x∈fs):CY fs (GO xs):=⟨Ra xs,fun x hx=>h x (qL.mp hx)⟩
theorem Ba (fs:List Str) (j:Int) (h0:0<=j) (h1:j<fs.length):∃ x,x∈fs/\bB (bj fs) (.int j)=.ok (.str x):=by
 have hj:j.toNat<fs.length:=by omega
 refine ⟨fs[j.toNat],iC hj,?_⟩
 have e:∀ xs k,bB (.tuple xs) k=Cr (.tuple xs) k:=fun _ _=>rfl
 rw [e]
 have hx:=o6 (xs:=fs.map aX) (j:=j.toNat) (v:=.str fs[j.toNat]) (by rw [aK,bn hj];rfl)
 rw [cG h0] at hx
 unfold Cr
 simp only [hx]
theorem xO (x:Str):∀ ys:List Str,((ys.map aX).any fun y=>bu y (.str x))=decide (x∈ys)
 |[]=>rfl
 |y::r=>by
  rw [aT,eS,xO x r,oP]
  by_cases h:y=x
  ·subst h;simp
  ·simp [h,eV h]
theorem xP (ys:List Str):(ys.map aX).all kM=true:=by
 rw [vA,dA];intro _ _;rfl
theorem Om (neg:Bool) (x:Str) (ys:List Str):DI neg (.str x) (.list (ys.map .str))=.ok (.bool (if neg then !decide (x∈ys) else decide (x∈ys))):=by
 have e:DI neg (.str x) (.list (ys.map .str))=if kM (.str x)&&(ys.map aX).all kM then .ok (.bool (if neg then !((ys.map aX).any fun y=>bu y (.str x)) else (ys.map aX).any fun y=>bu y (.str x))) else .no:=rfl
 rw [e,xP,xO]
 rfl
theorem xQ (neg:Bool) (x:Str) (ys:List Str):DI neg (.str x) (bj ys)=.ok (.bool (if neg then !decide (x∈ys) else decide (x∈ys))):=by
 have e:DI neg (.str x) (bj ys)=if kM (.str x)&&(ys.map aX).all kM then .ok (.bool (if neg then !((ys.map aX).any fun y=>bu y (.str x)) else (ys.map aX).any fun y=>bu y (.str x))) else .no:=rfl
 rw [e,xP,xO]
 rfl
theorem lJ (neg:Bool) (a b:Int):lW neg (.int a) (.int b)=.ok (.bool (if neg then !decide (a=b) else decide (a=b))):=by
 have e:lW neg (.int a) (.int b)=.ok (.bool (if neg then !(a==b) else (a==b))):=rfl
 rw [e,qB]
theorem wK {x:Str} (h:tT x=true):(aX x).canLay0=true:=by
 unfold tT at h
 simp only [aJ,dA,decide_eq_true_eq] at h
 show PyData.strOk x=true
 unfold PyData.strOk
 rw [<- v_,dA]
 intro c hc
 have:=h.2 c hc
 exact decide_eq_true (by omega)
theorem On (neg:Bool) {x y:Str} (hx:tT x=true) (hy:tT y=true):lW neg (.str x) (.str y)=.ok (.bool (if neg then !decide (x=y) else decide (x=y))):=by
 unfold lW
 rw [wK hx,wK hy,oP]
 rfl
theorem F6 (ss:List Str) (h:ss.length<60):xE (.list (ss.map .str))=.ok (eA [] ss):=by
 have e:∀ ds,xE (.list ds)=match fH ds with
  |some ss=>if ss.length<60 then .ok (eA [] ss) else .no
  |none=>.no:=fun _=>rfl
 rw [e,strsOf_map]
 simp only [if_pos h]
theorem Oo (g:ay->R D) (s:Sl) (ρ:ay):uS g (s::ρ)=(g (s::ρ)).bind xE:=id rfl
def PM:List Str->R D:=fun ss=>if ss.length<64 then .ok (.list ((jC ss).map .str)) else .no
theorem I9 (g:ay->R (List Str)) (s:Sl) (ρ:ay):nG g (s::ρ)=(g (s::ρ)).bind PM:=id rfl
theorem LD (ss:List Str) (h:ss.length<64):PM ss=.ok (.list ((jC ss).map .str)):=if_pos h
theorem Ia (ss:List Str) (h:ss.length<60) (ρ:ay):(cA (J.a8 (nG (uS (rB 0))) J.al) (jo hU)) (.shr (.list (ss.map .str))::ρ)=.ok (bj (GO ss)):=by
 walk_at "zz"
 rw [I9,Oo]
 walk_at "zz"
 rw [F6 ss h]
 walk_at "zz"
 rw [LD _ (by have:=kP ss [];simp at this;omega)]
 walk_at "zz"
 rw [iX]
 rfl
theorem CZ {ρ:ay}{gt:ay->R Bool}{x:Str}{b:Bool}{s:Sl}{r:ay} (hρ:ρ=s::r) (h:gt (.shr (.str x)::r)=.ok b):gf (iw 1 ρ gt (rS 0)) [.str x]=.ok ((if b then [x] else []).map .str):=by
 subst hρ
 have e:=O4 (ρ:=s::r) (gt:=gt) (ge:=(rS 0)) (d:=.str x) (y:=.str x) (b:=b) h fun _=>rfl
 unfold gf
 rw [e,B3]
 unfold gf
 rw [B3]
 cases b<;>rfl
theorem Rb (p q r t:List Str) (hp:p.length<60) (hq:q.length<60) (hr:r.length<60) (ht:t.length<60):gf (iw 1 [Sl.no] kT (cA (J.a8 (nG (uS (rB 0))) J.al) (jo hU))) [.list (p.map .str),.list (q.map .str),.list (r.map .str),.list (t.map .str)]=.ok [bj (GO p),bj (GO q),bj (GO r),bj (GO t)] :=
 el _ (fun ss:List Str=>ja (ss.map .str)) (fun ss=>bj (GO ss)) [p,q,r,t] fun ss hs=>gL rfl (Ia ss (by simp at hs;rcases hs with h|h|h|h<;>(rw [h];assumption)) _)
theorem PN (a b c d:D):bB (.list [a,b,c,d]) (.int 0)=.ok a:=id rfl
theorem PP (a b c d:D):bB (.list [a,b,c,d]) (.int 1)=.ok b:=id rfl
theorem PQ (a b c d:D):bB (.list [a,b,c,d]) (.int 2)=.ok c:=id rfl
theorem PR (a b c d:D):bB (.list [a,b,c,d]) (.int 3)=.ok d:=id rfl
theorem Op (ns:List Int) (k:Int) (hk:0<=k) (fs:List Str) (hf:∀ x∈fs,tT x=true) (h0:0<fs.length) (nm:Str) (hn:tT nm=true) :
  ∃ e,oM [.list (ns.map .int),.int k,bj fs,.str nm]=.ok (jz e)/\tV fs e/\e.name=nm:=by
 have hl:(0:Int)<(fs.length:Int):=by omega
 obtain ⟨a,ha,ea⟩:=Ba fs (en ns (k+10) fs.length) (dW _ _ _ hl) (eC _ _ _ hl)
 obtain ⟨b,hb,eb⟩:=Ba fs (en ns (k+11) fs.length) (dW _ _ _ hl) (eC _ _ _ hl)
 obtain ⟨c,hc,ec⟩:=Ba fs (en ns (k+12) fs.length) (dW _ _ _ hl) (eC _ _ _ hl)
 have m13a:=dW ns (k+13) 3 (by decide)
 have m13b:=eC ns (k+13) 3 (by decide)
 obtain ⟨nd,hnd,hnl,end_⟩:∃ nd:List Str,(∀ x∈nd,x∈fs)/\nd.length<60/\EO (.list [.str a,.str b]) none (some (1+en ns (k+13) 3 / 2))=.ok (.list (nd.map .str)):=by
  by_cases h2:en ns (k+13) 3=2
  ·exact ⟨[a,b],by simp [ha,hb],by simp,by rw [h2];rfl⟩
  ·have:en ns (k+13) 3 / 2=0:=by omega
   exact ⟨[a],by simp [ha],by simp,by rw [this];rfl⟩
 let bb:Bool:=!decide (c∈nd)&&decide (en ns (k+14) 4=0)
 let be:Bool:=!decide (a=c)&&decide (en ns (k+15) 3=0)
 have p0:=dW ns k 5 (by decide)
 have p1:=eC ns k 5 (by decide)
 refine ⟨⟨nm,GO nd,GO (if bb then [c] else []),GO [c],GO (if be then [a] else []),en ns k 5⟩,?_,⟨hn,wJ hnd,wJ ?_,wJ (by simp [hc]),wJ ?_,fun x h1 h2=>?_,fun x h1 h2=>?_,p0,by show en ns k 5<=9;omega⟩,rfl⟩
 ·unfold oM
  refine c7 ?_
  unfold oK bF
  walk_at "zz"
  rw [dX ns _ _ (by omega) hl]
  walk_at "zz"
  rw [ea]
  walk_at "zz"
  rw [dX ns (k+11) _ (by omega) hl]
  walk_at "zz"
  rw [eb]
  walk_at "zz"
  rw [dX ns (k+12) _ (by omega) hl]
  walk_at "zz"
  rw [ec]
  walk_at "zz"
  rw [dX ns (k+13) 3 (by omega) (by decide)]
  walk_at "zz"
  simp only [E6,decide_true,BM,if_true]
  walk_at "zz"
  rw [end_]
  walk_at "zz"
  rw [CZ (b:=bb) rfl]
  ·walk_at "zz"
   rw [CZ (b:=be) rfl]
   ·walk_at "zz"
    simp only [U6]
    rw [Lq rfl,Lq rfl]
    walk_at "zz"
    have pk:=Rb nd (if bb then [c] else []) [c] (if be then [a] else []) hnl (by cases bb<;>simp) (by simp) (by cases be<;>simp)
    rw [show ([c].map aX)=[aX c] from rfl] at pk
    rw [pk]
    walk_at "zz"
    rw [PN]
    walk_at "zz"
    rw [PP]
    walk_at "zz"
    rw [PQ]
    walk_at "zz"
    rw [PR]
    walk_at "zz"
    rw [dX ns k 5 hk (by decide)]
    walk_at "zz"
    rfl
   ·walk_at "zz"
    rw [On true (hf a ha) (hf c hc)]
    walk_at "zz"
    by_cases hac:a=c
    ·simp only [be,hac,decide_true,nX,zt,if_true,cond_false]
    ·simp only [be,hac,decide_false,ir,BN,if_true,cond_true]
     rw [dX ns (k+15) 3 (by omega) (by decide)]
     walk_at "zz"
     rw [lJ]
     walk_at "zz"
  ·walk_at "zz"
   rw [Om]
   walk_at "zz"
   by_cases hcn:c∈nd
   ·simp only [bb,hcn,decide_true,nX,zt,if_true,cond_false]
   ·simp only [bb,hcn,decide_false,ir,BN,if_true,cond_true]
    rw [dX ns (k+14) 4 (by omega) (by decide)]
    walk_at "zz"
    rw [lJ]
    walk_at "zz"
 ·intro x hx
  cases hbb:bb
  ·simp [hbb] at hx
  ·simp [hbb] at hx;rw [hx];exact hc
 ·intro x hx
  cases hbe:be
  ·simp [hbe] at hx
  ·simp [hbe] at hx;rw [hx];exact ha
 ·have h2:x∈(if bb then [c] else []):=qL.mp h2
  cases hbb:bb
  ·simp [hbb] at h2
  ·simp [hbb] at h2
   subst h2
   have:(!decide (x∈nd))=true:=by
    have:(!decide (x∈nd)&&decide (en ns (k+14) 4=0))=true:=hbb
    simp only [aJ] at this
    exact this.1
   simp at this
   exact this (qL.mp h1)
 ·cases hbe:be
  ·have h2:x∈(if be then [a] else []):=qL.mp h2
   simp [hbe] at h2
  ·skip
   have h4:x∈[c]:=qL.mp h1
   have h5:x∈(if be then [a] else []):=qL.mp h2
   simp only [eh] at h4
   simp only [hbe,if_true,eh] at h5
   have:(!decide (a=c)&&decide (en ns (k+15) 3=0))=true:=hbe
   simp only [aJ] at this
   have h3:=this.1
   simp at h3
   exact h3 (h5.symm.trans h4)
theorem Bb {i:Nat}{gi g:ay->R D}{ρ:ay}{dss:List (List D)}{ds:List D}{d:D}{j:Int} (hi:ρ[i]?=some (Sl.ow2 dss)) (hj:gi ρ=.ok (.int j)) (h0:0<=j) (hd:dss[j.toNat]?=some ds) (hg:g ρ=.ok d) (hl:ds.length<1000):nI i gi g ρ=.ok (.nx (ρ.set i (.ow2 (dss.set j.toNat (ds++[d]))))):=by
 unfold nI
 simp only [hi,hj,bind_ok,if_pos h0,hd,hg,if_pos hl]
def mx (n:Nat):List Str->List (Nat×Str)
 |[]=>[]
 |x::r=>(n,x)::mx (n+1) r
abbrev cI (p:Nat×Str):D:=.tuple [.int (p.1:Nat),.str p.2]
theorem wL:∀ (xs:List Str) (n:Nat),pf n (xs.map .str)=(mx n xs).map cI
 |[],_=>rfl
 |x::r,n=>by
  show f_ [.int n,.str x]::pf (n+1) (r.map .str)=cI (n,x)::(mx (n+1) r).map cI
  rw [wL r (n+1)]
theorem qM:∀ (xs:List Str) (n:Nat),(mx n xs).map (·.2)=xs
 |[],_=>rfl
 |x::r,n=>by
  show x::(mx (n+1) r).map (·.2)=x::r
  rw [qM r]
theorem xR:∀ (fs:List Str),(∀ x∈fs,tT x=true)->gN (fs.map .str)=true
 |[],_=>rfl
 |x::r,h=>by
  have h1:=wK (h x ao)
  have h2:=xR r fun y hy=>h y (ar _ hy)
  simp only [aT,gN,h1,h2,BM]
theorem wM (fs:List Str) (hf:∀ x∈fs,tT x=true):lW true (bj fs) (.tuple [])=.ok (.bool (!decide (fs=[]))):=by
 unfold lW
 have h1:(bj fs).canLay0=true:=by simp only [i8];exact xR fs hf
 have h2:(f_ []).canLay0=true:=rfl
 have h3:min (bj fs).depth (f_ []).depth<=60:=bT (wS _ _) (by decide)
 have h4:bu (bj fs) (.tuple [])=decide (fs=[]):=by
  cases fs with
  |nil=>rfl
  |cons x r=>simp [bu,n6]
 rw [h1,h2,decide_eq_true h3,h4]
 rfl
structure mU (pre p q:List Str):Prop where
 sp:p.Sublist pre
 sq:q.Sublist pre
 d:∀ x∈p,x∉q
theorem mU.skip {pre p q:List Str} (h:mU pre p q) (x:Str):mU (pre++[x]) p q:=⟨h.sp.trans (j0 _ _),h.sq.trans (j0 _ _),h.d⟩
theorem mU.left {pre p q:List Str} (h:mU pre p q) (x:Str) (hx:x∉pre):mU (pre++[x]) (p++[x]) q:=⟨h.sp.append (e8 _),h.sq.trans (j0 _ _),fun y hy hq=>by
 rcases List.mem_append.mp hy with h1|h1
 ·exact h.d y h1 hq
 ·rw [List.mem_singleton.mp h1] at hq
  exact hx (h.sq.subset hq)⟩
theorem mU.right {pre p q:List Str} (h:mU pre p q) (x:Str) (hx:x∉pre):mU (pre++[x]) p (q++[x]):=⟨h.sp.trans (j0 _ _),h.sq.append (e8 _),fun y hy hq=>by
 rcases List.mem_append.mp hq with h1|h1
 ·exact h.d y hy h1
 ·rw [List.mem_singleton.mp h1] at hy
  exact hx (h.sp.subset hy)⟩
abbrev o4 (p q r t:List Str):Sl:=.ow2 [p.map .str,q.map .str,r.map .str,t.map .str]
theorem Th (j:Int) (h0:0<=j) (h1:j<3):∃ b:Bool,bB (.list [.int 0,.int 0,.int 1]) (.int j)=.ok (.int (if b then 0 else 1)):=by
 have:j=0\/j=1\/j=2:=by omega
 rcases this with h|h|h<;>subst h
 ·exact ⟨true,rfl⟩
 ·exact ⟨true,rfl⟩
 ·exact ⟨false,rfl⟩
theorem Ti (j:Int) (h0:0<=j) (h1:j<4):∃ b:Bool,bB (.list [.int 2,.int 2,.int 3,.int 3]) (.int j)=.ok (.int (if b then 2 else 3)):=by
 have:j=0\/j=1\/j=2\/j=3:=by omega
 rcases this with h|h|h|h<;>subst h
 ·exact ⟨true,rfl⟩
 ·exact ⟨true,rfl⟩
 ·exact ⟨false,rfl⟩
 ·exact ⟨false,rfl⟩
theorem tW (p:List Str) (x:Str):(p++[x]).map aX=p.map .str++[.str x]:=by simp
theorem LF {a b c d e f:Sl}{pre p q r t:List Str}{x:Str}{j:Int} (hp:mU pre p q) (hx:x∉pre) (hl:pre.length<900) (h0:0<=j) :
  ∃ p' q',mU (pre++[x]) p' q'/\dR (fF (g2 (rB 7) (kI 3) EL)) (nI 4 (g2 (aY (J.a8 (kI 0) (J.a8 (kI 0) (J.a8 (kI 1) J.al))) .list) (rB 7) bB) (rS 6)) (fun ρ=>.ok (.nx ρ)) [a,b,c,d,o4 p q r t,e,.shr (.str x),.shr (.int j),f]=.ok (.nx [a,b,c,d,o4 p' q' r t,e,.shr (.str x),.shr (.int j),f]):=by
 by_cases h3:j<3
 ·obtain ⟨bo,e3⟩:=Th j h0 h3
  have lp:p.length<1000:=by have:=hp.sp.length_le;omega
  have lq:q.length<1000:=by have:=hp.sq.length_le;omega
  cases bo
  ·refine ⟨p,q++[x],hp.right x hx,?_⟩
   walk_at "zz"
   rw [decide_eq_true h3]
   walk_at "zz"
   simp only [o4,tW]
   refine (Bb (j:=1) (ds:=q.map .str) (d:=.str x) rfl ?_ (by decide) rfl rfl (by rw [aO];exact lq)).trans rfl
   walk_at "zz"
   rw [e3]
   rfl
  ·refine ⟨p++[x],q,hp.left x hx,?_⟩
   walk_at "zz"
   rw [decide_eq_true h3]
   walk_at "zz"
   simp only [o4,tW]
   refine (Bb (j:=0) (ds:=p.map .str) (d:=.str x) rfl ?_ (by decide) rfl rfl (by rw [aO];exact lp)).trans rfl
   walk_at "zz"
   rw [e3]
   rfl
 ·refine ⟨p,q,hp.skip x,?_⟩
  walk_at "zz"
  rw [decide_eq_false h3]
  walk_at "zz"
theorem LG {a b c d e f:Sl}{pre p q r t:List Str}{x:Str}{j:Int} (hp:mU pre r t) (hx:x∉pre) (hl:pre.length<900) (h0:0<=j) :
  ∃ r' t',mU (pre++[x]) r' t'/\dR (fF (g2 (rB 7) (kI 4) EL)) (nI 4 (g2 (aY (J.a8 (kI 2) (J.a8 (kI 2) (J.a8 (kI 3) (J.a8 (kI 3) J.al)))) .list) (rB 7) bB) (rS 6)) (fun ρ=>.ok (.nx ρ)) [a,b,c,d,o4 p q r t,e,.shr (.str x),.shr (.int j),f]=.ok (.nx [a,b,c,d,o4 p q r' t',e,.shr (.str x),.shr (.int j),f]):=by
 by_cases h3:j<4
 ·obtain ⟨bo,e3⟩:=Ti j h0 h3
  have lp:r.length<1000:=by have:=hp.sp.length_le;omega
  have lq:t.length<1000:=by have:=hp.sq.length_le;omega
  cases bo
  ·refine ⟨r,t++[x],hp.right x hx,?_⟩
   walk_at "zz"
   rw [decide_eq_true h3]
   walk_at "zz"
   simp only [o4,tW]
   refine (Bb (j:=3) (ds:=t.map .str) (d:=.str x) rfl ?_ (by decide) rfl rfl (by rw [aO];exact lq)).trans rfl
   walk_at "zz"
   rw [e3]
   rfl
  ·refine ⟨r++[x],t,hp.left x hx,?_⟩
   walk_at "zz"
   rw [decide_eq_true h3]
   walk_at "zz"
   simp only [o4,tW]
   refine (Bb (j:=2) (ds:=r.map .str) (d:=.str x) rfl ?_ (by decide) rfl rfl (by rw [aO];exact lp)).trans rfl
   walk_at "zz"
   rw [e3]
   rfl
 ·refine ⟨r,t,hp.skip x,?_⟩
  walk_at "zz"
  rw [decide_eq_false h3]
  walk_at "zz"
theorem Tj (i:Nat) (ρ:ay):NW i ρ=.ok (.nx ((clear2 ρ).set i (.ow2 [[],[],[],[]]))):=id rfl
theorem mU.sub {fs p q:List Str} (up:fs.Pairwise fun a b=>lV a b=true) (h:mU fs p q):CY fs p/\CY fs q:=⟨⟨up.sublist h.sp,fun x hx=>h.sp.subset hx⟩,⟨up.sublist h.sq,fun x hx=>h.sq.subset hx⟩⟩
theorem LH (p:List Str) (ρ:ay):(cA (J.a8 (rB 0) J.al) (jo hU)) (.shr (.list (p.map .str))::ρ)=.ok (bj p):=by
 walk_at "zz"
 rw [iX]
theorem Tk (p q r t:List Str):gf (iw 1 [Sl.no] kT (cA (J.a8 (rB 0) J.al) (jo hU))) [.list (p.map .str),.list (q.map .str),.list (r.map .str),.list (t.map .str)]=.ok [bj p,bj q,bj r,bj t] :=
 el _ (fun ss:List Str=>ja (ss.map .str)) (fun ss=>bj ss) [p,q,r,t] fun ss hs=>gL rfl (LH ss _)
theorem Ib (ns:List Int) (k:Int) (hk:0<=k) (fs:List Str) (hf:∀ x∈fs,tT x=true) (up:fs.Pairwise fun a b=>lV a b=true) (nd:fs.Nodup) (hl:fs.length<=6) (nm:Str) (hn:tT nm=true) :
  ∃ e,ij [.list (ns.map .int),.int k,bj fs,.str nm]=.ok (jz e)/\tV fs e/\e.name=nm:=by
 have p0:=dW ns k 5 (by decide)
 have p1:=eC ns k 5 (by decide)
 have go:∀ ρ:ay,ρ=[.shr (.list (ns.map .int)),.shr (.int k),.shr (bj fs),.shr (.str nm),.no,.no,.no,.no,.no]->(!decide (fs=[])&&decide (en ns 97 2=0))=false->∃ e,ii ρ=.ok (.rt (jz e))/\tV fs e/\e.name=nm:=by
  rintro ρ rfl hc
  obtain ⟨ρ',h1,p,q,r,t,h2,h3,h4⟩:∃ ρ',(xD (ET (J.a8 (rS 2) J.al)) (q9 2 (dI (cV 5) (dI (cV 6) rM))) (aS (fz 7 (eK 3 aU (J.a8 (rS 0) (J.a8 (g2 (g2 (rB 1) (kI 10) cx) (rB 5) cx) (J.a8 (kI 8) J.al))))) (aS (dR (fF (g2 (rB 7) (kI 3) EL)) (nI 4 (g2 (aY (J.a8 (kI 0) (J.a8 (kI 0) (J.a8 (kI 1) J.al))) .list) (rB 7) bB) (rS 6)) (fun ρ=>.ok (.nx ρ))) (aS (fz 7 (eK 3 aU (J.a8 (rS 0) (J.a8 (g2 (g2 (rB 1) (kI 20) cx) (rB 5) cx) (J.a8 (kI 8) J.al))))) (dR (fF (g2 (rB 7) (kI 4) EL)) (nI 4 (g2 (aY (J.a8 (kI 2) (J.a8 (kI 2) (J.a8 (kI 3) (J.a8 (kI 3) J.al)))) .list) (rB 7) bB) (rS 6)) (fun ρ=>.ok (.nx ρ))))))) [.shr (.list (ns.map .int)),.shr (.int k),.shr (bj fs),.shr (.str nm),o4 [] [] [] [],.no,.no,.no,.no]=.ok (.nx ρ')/\∃ p q r t,mU fs p q/\mU fs r t/\∃ z5 z6 z7,ρ'=[.shr (.list (ns.map .int)),.shr (.int k),.shr (bj fs),.shr (.str nm),o4 p q r t,z5,z6,z7,.no]:=by
   rw [z_ (ds:=(mx 0 fs).map cI)]
   ·have H:=qj cI (fun (a:Unit) (_:Nat×Str)=>a) (fun bM _ ρ=>∃ pre,pre++bM.map (·.2)=fs/\∃ p q r t,mU pre p q/\mU pre r t/\∃ z5 z6 z7,ρ=[.shr (.list (ns.map .int)),.shr (.int k),.shr (bj fs),.shr (.str nm),o4 p q r t,z5,z6,z7,.no]) (kt:=q9 2 (dI (cV 5) (dI (cV 6) rM))) (gb:=(aS (fz 7 (eK 3 aU (J.a8 (rS 0) (J.a8 (g2 (g2 (rB 1) (kI 10) cx) (rB 5) cx) (J.a8 (kI 8) J.al))))) (aS (dR (fF (g2 (rB 7) (kI 3) EL)) (nI 4 (g2 (aY (J.a8 (kI 0) (J.a8 (kI 0) (J.a8 (kI 1) J.al))) .list) (rB 7) bB) (rS 6)) (fun ρ=>.ok (.nx ρ))) (aS (fz 7 (eK 3 aU (J.a8 (rS 0) (J.a8 (g2 (g2 (rB 1) (kI 20) cx) (rB 5) cx) (J.a8 (kI 8) J.al))))) (dR (fF (g2 (rB 7) (kI 4) EL)) (nI 4 (g2 (aY (J.a8 (kI 2) (J.a8 (kI 2) (J.a8 (kI 3) (J.a8 (kI 3) J.al)))) .list) (rB 7) bB) (rS 6)) (fun ρ=>.ok (.nx ρ)))))))
    obtain ⟨ρ',h1,pre,h2,p,q,r,t,h3,h4,h5⟩:=H (by
     rintro ⟨i,x⟩ bM _ ρ ⟨pre,h2,p,q,r,t,h3,h4,z5,z6,z7,rfl⟩
     have hx:x∉pre:=by
      rw [<- h2,aT] at nd
      have:=(List.nodup_append.mp nd).2.2
      intro hx
      exact this x hx x ao rfl
     have hpl:pre.length<900:=by
      have:=congrArg wR h2
      rw [a_] at this
      omega
     obtain ⟨p',q',k1,k2⟩:=LF (a:=.shr (.list (ns.map .int))) (b:=.shr (.int k)) (c:=.shr (bj fs)) (d:=.shr (.str nm)) (e:=.shr (.int (i:Nat))) (f:=.no) (r:=r) (t:=t) (j:=en ns (k+10+i) 8) h3 hx hpl (dW _ _ _ (by decide))
     obtain ⟨r',t',k3,k4⟩:=LG (a:=.shr (.list (ns.map .int))) (b:=.shr (.int k)) (c:=.shr (bj fs)) (d:=.shr (.str nm)) (e:=.shr (.int (i:Nat))) (f:=.no) (p:=p') (q:=q') (j:=en ns (k+20+i) 8) h4 hx hpl (dW _ _ _ (by decide))
     refine ⟨[.shr (.list (ns.map .int)),.shr (.int k),.shr (bj fs),.shr (.str nm),o4 p q r t,.shr (.int (i:Nat)),.shr (.str x),z7,.no],[.shr (.list (ns.map .int)),.shr (.int k),.shr (bj fs),.shr (.str nm),o4 p' q' r' t',.shr (.int (i:Nat)),.shr (.str x),.shr (.int (en ns (k+20+i) 8)),.no],rfl,?_,pre++[x],?_,p',q',r',t',k1,k3,_,_,_,rfl⟩
     ·rw [CF,KM]
      walk_at "yy"
      rw [dX ns _ 8 (by omega) (by decide)]
      walk_at "yy"
      rw [k2]
      walk_at "yy"
      rw [dX ns _ 8 (by omega) (by decide)]
      walk_at "yy"
      rw [k4]
     ·rw [<- h2];simp) (mx 0 fs) () [.shr (.list (ns.map .int)),.shr (.int k),.shr (bj fs),.shr (.str nm),o4 [] [] [] [],.no,.no,.no,.no] ⟨[],by rw [qM];rfl,[],[],[],[],⟨e8 _,e8 _,fun _ h=>nomatch h⟩,⟨e8 _,e8 _,fun _ h=>nomatch h⟩,_,_,_,rfl⟩
    refine ⟨ρ',h1,p,q,r,t,?_,?_,h5⟩
    ·simp only [fD,cj] at h2
     rw [<- h2];exact h3
    ·simp only [fD,cj] at h2
     rw [<- h2];exact h4
   ·walk_at "zz"
    rw [wL]
  obtain ⟨s1,s2⟩:=h2.sub up
  obtain ⟨s3,s4⟩:=h3.sub up
  obtain ⟨z5,z6,z7,rfl⟩:=h4
  refine ⟨⟨nm,p,q,r,t,en ns k 5⟩,?_,⟨hn,s1,s2,s3,s4,h2.d,h3.d,p0,by show en ns k 5<=9;omega⟩,rfl⟩
  unfold ii
  have hand:EH (fF (g2 (rB 2) (aY J.al .tuple) (lW true))) (fF (g2 (eK 3 aU (J.a8 (rS 0) (J.a8 (kI 97) (J.a8 (kI 2) J.al)))) (kI 0) (lW false))) [.shr (.list (ns.map .int)),.shr (.int k),.shr (bj fs),.shr (.str nm),.no,.no,.no,.no,.no]=.ok false:=by
   walk_at "zz"
   rw [wM fs hf]
   walk_at "zz"
   by_cases h:fs=[]
   ·simp only [h,decide_true,nX,cond_false]
   ·simp only [h,decide_false,ir,cond_true,BN] at hc ⊢
    rw [dX ns 97 2 (by decide) (by decide)]
    walk_at "zz"
    rw [lJ]
    walk_at "zz"
    rw [hc]
  rw [CF,SG,hand]
  simp only [B3,KJ,Tj,clear2,aT,fD,ul,uk,B3,qf,CF]
  rw [show Sl.ow2 [[],[],[],[]]=o4 [] [] [] [] from rfl,h1]
  walk_at "zz"
  rw [Tk]
  walk_at "zz"
  rw [PN]
  walk_at "zz"
  rw [PP]
  walk_at "zz"
  rw [PQ]
  walk_at "zz"
  rw [PR]
  walk_at "zz"
  rw [dX ns k 5 hk (by decide)]
  walk_at "zz"
  rfl
 by_cases hc:(!decide (fs=[])&&decide (en ns 97 2=0))=true
 ·have h0:0<fs.length:=by
   rcases fs with _|⟨x,r⟩
   ·simp at hc
   ·simp
  obtain ⟨e,h1,h2⟩:=Op ns k hk fs hf h0 nm hn
  refine ⟨e,?_,h2⟩
  unfold ij
  refine c7 ?_
  unfold ii bF
  walk_at "zz"
  rw [wM fs hf]
  walk_at "zz"
  simp only [aJ] at hc
  rw [hc.1]
  walk_at "zz"
  rw [dX ns 97 2 (by decide) (by decide)]
  walk_at "zz"
  rw [lJ]
  walk_at "zz"
  rw [hc.2]
  walk_at "zz"
  rw [h1]
  walk_at "zz"
 ·obtain ⟨e,h1,h2⟩:=go _ rfl (Bool.eq_false_iff.mpr hc)
  exact ⟨e,by unfold ij;exact c7 h1,h2⟩
theorem LJ (ds:List D) (t:Nat) (h:t<=ds.length):xx ds (some (t:Int)) none=ds.drop t:=by
 unfold xx
 rw [HT.G4,HT.C2,Nat.min_eq_left h,DD (by rw [ww];exact az _)]
theorem LK (ds:List D) (t:Nat) (h:t<=ds.length):xx ds none (some (t:Int))=ds.take t:=by
 unfold xx
 rw [HT.G4,HT.C2,Nat.min_eq_left h,List.drop_zero,Nat.sub_zero]
theorem Tl (ds:List D) (t:Nat) (h:t<=ds.length):EO (.list ds) (some (t:Int)) none=.ok (.list (ds.drop t)):=by
 rw [<- LJ ds t h];rfl
theorem Tn (ds:List D) (t:Nat) (h:t<=ds.length):EO (.list ds) none (some (t:Int))=.ok (.list (ds.take t)):=by
 rw [<- LK ds t h];rfl
theorem Rc {l:List (Str×D)} (nd:(l.map (·.1)).Nodup) {p:Str×D} (hp:p∈l):bB (.dict (kX l)) (.str p.1)=.ok p.2:=by
 have e:∀ kvs x,bB (.dict kvs) (.str x)=if fJ kvs=true then (match tM kvs (.str x) with
   |some d=>.ok d
   |none=>.no) else .no:=fun _ _=>rfl
 rw [e,if_pos (xN l)]
 have:tM (kX l) (.str p.1)=some p.2:=by
  unfold tM kX
  clear e
  induction l with
  |nil=>cases hp
  |cons q r ih =>
   rw [aT] at nd
   obtain ⟨n1,n2⟩:=List.nodup_cons.mp nd
   rw [aT,eF,oP]
   rcases List.mem_cons.mp hp with h|h
   ·subst h;simp
   ·have:q.1≠p.1:=fun z=>n1 (z ▸ List.mem_map_of_mem h)
    rw [decide_eq_false this]
    exact ih n2 h
 rw [this]
structure ph (fs:List Str) (es:List rY):Prop where
 rise:F4 fs 6
 len:es.length<=6
 nd:(es.map (·.name)).Nodup
 ok:∀ e∈es,tV fs e
def h_ (fs:List Str) (es:List rY):D:=.tuple [bj fs,.tuple (es.map jz)]
theorem To (fs:List Str):∀ (l:List (Str×D)),(∀ p∈l,∃ e,p.2=jz e/\tV fs e/\e.name=p.1)->∃ es:List rY,l.map (·.2)=es.map jz/\es.map (·.name)=l.map (·.1)/\∀ e∈es,tV fs e
 |[],_=>⟨[],rfl,rfl,fun _ h=>nomatch h⟩
 |p::r,h=>by
  obtain ⟨e,h1,h2,h3⟩:=h p ao
  obtain ⟨es,k1,k2,k3⟩:=To fs r fun q hq=>h q (ar _ hq)
  refine ⟨e::es,by rw [aT,aT,h1,k1],by rw [aT,aT,h3,k2],fun x hx=>?_⟩
  rcases List.mem_cons.mp hx with z|z
  ·rw [z];exact h2
  ·exact k3 x z
theorem Ic {α:Type} (l:List α) (t:Nat):(l.drop t++l.take t).Perm l:=by
 refine List.perm_append_comm.trans ?_
 rw [List.take_append_drop]
theorem my {l:List Str} (h:l.Pairwise fun a b=>lV a b=true):l.Nodup:=h.imp fun hab z=>by
 rw [z,o8] at hab
 cases hab
theorem Oq (ns:List Int) (k:Int) (hk:0<=k) (m n:Int) (hm0:0<=m) (hm:m<=6) (hn0:0<=n) (hn:n<=6):∃ fs es,lG [.list (ns.map .int),.int k,.int m,.int n]=.ok (h_ fs es)/\ph fs es:=by
 have hr:=F5 ns k m hm0
 generalize hfs:B9 ns k m=fs at hr
 have hr:F4 fs 6:=⟨hr.ok,hr.up,by have:=hr.len;omega⟩
 have nd:=my hr.up
 have m0:=dW ns (k+60) (n+1) (by omega)
 have m1:=eC ns (k+60) (n+1) (by omega)
 suffices H:∃ es,lG [.list (ns.map .int),.int k,.int m,.int n]=.ok (h_ fs es)/\ph fs es from H.elim fun es h=>⟨fs,es,h⟩
 unfold lG
 suffices H:∃ es,lF (bF 10 [.list (ns.map .int),.int k,.int m,.int n])=.ok (.rt (h_ fs es))/\ph fs es from H.elim fun es h=>⟨es,c7 h.1,h.2⟩
 have H:=qj (fun (i:Nat)=>dZ i) (fun (a:Unit) (_:Nat)=>a) (fun bM _ ρ=>∃ l,l.length+bM.length<=6/\(l.map (·.1)).Nodup/\(∀ p∈l,∃ e,p.2=jz e/\tV fs e/\e.name=p.1)/\∃ z6 z7,ρ=[.shr (.list (ns.map .int)),.shr (.int k),.shr (.int m),.shr (.int n),.shr (bj fs),.own (.dict (kX l)),z6,z7,.no,.no]) (kt:=cV 6) (gb:=aS (fz 7 (eK 2 jN (J.a8 (rS 0) (J.a8 (g2 (g2 (rB 1) (kI 70) cx) (g2 (kI 40) (rB 6) we) cx) J.al)))) (B2 5 (rS 7) (eK 4 ij (J.a8 (rS 0) (J.a8 (g2 (g2 (rB 1) (kI 80) cx) (g2 (kI 40) (rB 6) we) cx) (J.a8 (rS 4) (J.a8 (rS 7) J.al)))))))
 obtain ⟨ρ',h1,l,h2,h3,h4,z6,z7,h5⟩:=H (by
  rintro i bM _ ρ ⟨l,h2,h3,h4,z6,z7,rfl⟩
  simp only [bt] at h2
  have hw:=CU ns (k+70+40*(i:Int))
  obtain ⟨e,e1,e2,e3⟩:=Ib ns (k+80+40*(i:Int)) (by omega) fs hr.ok hr.up nd hr.len (kn ns (k+70+40*(i:Int))) hw
  have pl:=CV l (kn ns (k+70+40*(i:Int))) (jz e)
  refine ⟨[.shr (.list (ns.map .int)),.shr (.int k),.shr (.int m),.shr (.int n),.shr (bj fs),.own (.dict (kX l)),.shr (.int i),z7,.no,.no],[.shr (.list (ns.map .int)),.shr (.int k),.shr (.int m),.shr (.int n),.shr (bj fs),.own (.dict (kX (tU l (kn ns (k+70+40*(i:Int))) (jz e)))),.shr (.int i),.shr (.str (kn ns (k+70+40*(i:Int)))),.no,.no],rfl,?_,tU l (kn ns (k+70+40*(i:Int))) (jz e),by omega,?_,?_,_,_,rfl⟩
  ·walk_at "zz"
   rw [qK (by decide) (by decide)]
   walk_at "zz"
   rw [GN ns _ (by omega)]
   walk_at "zz"
   refine (PL (l:=l) (x:=kn ns (k+70+40*(i:Int))) (d:=jz e) rfl ?_ rfl (by omega)).trans rfl
   walk_at "zz"
   rw [qK (by decide) (by decide)]
   walk_at "zz"
   exact e1
  ·rw [A7];exact H_ h3
  ·exact LA (Q:=fun x d=>∃ e,d=jz e/\tV fs e/\e.name=x) h4 ⟨e,rfl,e2,e3⟩) (bN (en ns (k+60) (n+1)).toNat) () [.shr (.list (ns.map .int)),.shr (.int k),.shr (.int m),.shr (.int n),.shr (bj fs),.own (.dict (kX [])),.no,.no,.no,.no] ⟨[],by rw [jA];simp only [gI];omega,m6,fun _ h=>(nomatch h),_,_,rfl⟩
 simp only [gI,Nat.add_zero] at h2
 have t0:=dW ns (k+61) ((l.length:Int)+1) (by omega)
 have t1:=eC ns (k+61) ((l.length:Int)+1) (by omega)
 obtain ⟨t,ht⟩:∃ t:Nat,en ns (k+61) ((l.length:Int)+1)=t:=⟨_,(cG t0).symm⟩
 have tl:t<=l.length:=by omega
 have pm:=Ic l t
 obtain ⟨es,k1,k2,k3⟩:=To fs (l.drop t++l.take t) fun p hp=>h4 p (pm.mem_iff.mp hp)
 have kl:es.length=l.length:=by
  have:=congrArg wR k1
  rw [aO,aO,pm.length_eq] at this
  exact this.symm
 refine ⟨es,?_,hr,by omega,?_,k3⟩
 ·unfold lF bF
  walk_at "yy"
  rw [LC ns k m hk hm0 (by omega),hfs]
  walk_at "yy"
  rw [z_ (ds:=(bN (en ns (k+60) (n+1)).toNat).map fun (i:Nat)=>dZ i)]
  ·rw [show PyData.dict []=PyData.dict (kX []) from rfl,h1,h5]
   walk_at "yy"
   rw [CW]
   walk_at "yy"
   rw [dX ns _ _ (by omega) (by omega),ht]
   walk_at "yy"
   clear H h1
   rw [Tl _ t (by simpa using tl)]
   walk_at "yy"
   rw [Tn _ t (by simpa using tl)]
   walk_at "yy"
   have e1:(List.drop t (FX aX (FX (fun x=>x.fst) l))++List.take t (FX aX (FX (fun x=>x.fst) l)))=(l.drop t++l.take t).map fun p=>aX p.1:=by
    rw [l7,List.map_drop,List.map_take,iE];rfl
   rw [e1,if_pos (by rw [<- a_,e1,aO,pm.length_eq];omega)]
   have pl:=pm.length_eq
   have px:∀ p∈l.drop t++l.take t,p∈l:=fun p hp=>pm.mem_iff.mp hp
   clear e1 pm k2
   generalize l.drop t++l.take t=L at pl px k1 ⊢
   walk_at "yy"
   rw [if_pos (by omega)]
   rw [el _ (fun p:Str×D=>aX p.1) (fun p=>p.2) L fun p hp=>gL rfl (by
    walk_at "yy"
    exact Rc h3 (px p hp))]
   walk_at "yy"
   rw [iX]
   walk_at "yy"
   rw [k1]
   rfl
  ·walk_at "yy"
   rw [dX ns (k+60) (n+1) (by omega) (by omega)]
   walk_at "yy"
   have:=B5 (en ns (k+60) (n+1)).toNat (by omega)
   rw [cG m0] at this
   exact this
 ·rw [k2]
  exact ((pm.map _).nodup_iff).mpr h3
theorem A8 {α:Type} (b:α->Bool):∀ xs:List α,mf (xs.map fun x=>cO (b x))=some (xs.map b)
 |[]=>rfl
 |x::r=>by
  show (mf (r.map fun x=>cO (b x))).map (b x::·)=_
  rw [A8 b r]
  rfl
theorem ka {α:Type} (k:List Bool->Bool) (b:α->Bool) (xs:List α):hJ k (.list (xs.map fun x=>cO (b x)))=.ok (.bool (k (xs.map b))):=by
 have e:∀ ds,hJ k (.list ds)=match mf ds with
  |some bs=>.ok (.bool (k bs))
  |none=>.no:=fun _=>rfl
 rw [e,A8]
theorem C_ {s s':Sl}{ρ:ay}{gt:ay->R Bool}{ge:ay->R D}{d d' y:D} (h1:gt (.shr d::.shr d'::ρ)=.ok true) (h2:ge (.shr d::.shr d'::ρ)=.ok y):iw 2 (s::s'::ρ) gt ge (.tuple [d,d'])=.ok (some y):=by
 have e:iw 2 (s::s'::ρ) gt ge (.tuple [d,d'])=HR ((gt (.shr d::.shr d'::ρ)).bind fun b=>if b then (ge (.shr d::.shr d'::ρ)).bind fun y=>.ok (some y) else .ok none):=id rfl
 rw [e,h1,bind_ok,if_pos rfl,h2];rfl
theorem LL (x:Str):mR (.str x)=true:=id rfl
theorem F7 (i:Int):mR (.int i)=true:=id rfl
theorem wN {α:Type} (c:α->D) (h:∀ x,mR (c x)=true):∀ xs:List α,noDs (xs.map c)=true
 |[]=>rfl
 |x::r=>by
  show (mR (c x)&&noDs (r.map c))=true
  rw [h x,wN c h r];rfl
theorem LM (xs:List D):mR (.tuple xs)=noDs xs:=id rfl
theorem il (xs:List Str):mR (bj xs)=true:=by
 rw [LM]
 exact wN _ (fun _=>rfl) xs
theorem GP (e:rY):mR (jz e)=true:=by
 have:mR (jz e)=(true&&(mR (bj e.needs)&&(mR (bj e.bars)&&(mR (bj e.makes)&&(mR (bj e.ends)&&(true&&true)))))):=rfl
 rw [this,il,il,il,il];rfl
theorem PU (es:List rY):mR (.tuple (es.map jz))=true:=by
 rw [LM]
 exact wN _ GP es
theorem Os (fs:List Str) (es:List rY):mR (h_ fs es)=true:=by
 have:mR (h_ fs es)=(mR (bj fs)&&(mR (.tuple (es.map jz))&&true)):=rfl
 rw [this,il,PU];rfl
theorem LN (x:Str):wf "str" (.str x)=true:=id rfl
theorem qk (x:List D):wf "tuple" (.tuple x)=true:=id rfl
theorem Re (x:Int):wf "int" (.int x)=true:=id rfl
theorem Rf (x:Int):wf "bool" (.int x)=false:=id rfl
theorem Ot:∀ c:_root_.Fin 123,97<=c.val->(!lV ⟨#[c.val]⟩ "a")=true/\(!lV "z" ⟨#[c.val]⟩)=true:=by decide +kernel
theorem j5 {x:Str} (h:tT x=true):eO [.str x]=.ok (.bool true):=by
 have hw:=h
 unfold tT at h
 simp only [aJ,decide_eq_true_eq,dA] at h
 obtain ⟨⟨h1,h2⟩,h3⟩:=h
 have hl:x.length=x.cps.size:=rfl
 unfold eO
 refine c7 ?_
 unfold nK bF
 walk_at "zz"
 rw [LL,LN]
 walk_at "zz"
 rw [if_pos (by omega)]
 walk_at "zz"
 rw [decide_eq_true (by omega)]
 walk_at "zz"
 rw [decide_eq_true (by omega)]
 walk_at "zz"
 unfold mT
 walk_at "zz"
 rw [if_pos (by rw [aZ];omega)]
 rw [el _ (fun c:Nat=>aX ⟨#[c]⟩) (fun _=>cO true) x.cps.toList fun c hc=>gL rfl (by
  obtain ⟨a1,a2⟩:=h3 c hc
  obtain ⟨b1,b2⟩:=Ot ⟨c,by omega⟩ a1
  walk_at "zz"
  simp only at b1 b2
  rw [b1]
  walk_at "zz"
  rw [b2])]
 walk_at "zz"
 rw [ka _ (fun _=>true)]
 walk_at "zz"
 simp
theorem xS:∀ (xs ys:List Str),wj (xs.map .str) (ys.map .str)=(xs.zip ys).map fun p=>f_ [.str p.1,.str p.2]
 |[],_=>rfl
 |_::_,[]=>rfl
 |x::r,y::r'=>by
  show f_ [.str x,.str y]::wj (r.map .str) (r'.map .str)=_
  rw [xS r r']
  rfl
theorem LO:∀ {l:List Str},(l.Pairwise fun a b=>lV a b=true)->∀ p∈l.zip (l.drop 1),lV p.1 p.2=true
 |[],_,p,hp=>by cases hp
 |[_],_,p,hp=>by cases hp
 |a::b::r,h,p,hp=>by
  obtain ⟨h1,h2⟩:=List.pairwise_cons.mp h
  rcases List.mem_cons.mp hp with z|z
  ·rw [z];exact h1 b ao
  ·exact LO h2 p z
theorem GQ (xs:List Str):EO (bj xs) (some 1) none=.ok (bj (xs.drop 1)):=by
 have e:EO (bj xs) (some 1) none=.ok (.tuple (xx (xs.map .str) (some 1) none)):=rfl
 rw [e]
 cases xs with
 |nil=>rfl
 |cons x r =>
  rw [show (1:Int)=((1:Nat):Int) from rfl,LJ _ 1 (by simp)]
  rfl
theorem vM {xs:List Str} (hw:∀ x∈xs,tT x=true) (up:xs.Pairwise fun a b=>lV a b=true) (hl:xs.length<=6):c6 [bj xs]=.ok (.bool true):=by
 unfold c6
 refine c7 ?_
 unfold dq bF
 walk_at "zz"
 rw [il,qk]
 walk_at "zz"
 rw [if_pos (by omega)]
 rw [el _ (fun x:Str=>aX x) (fun _=>cO true) xs fun x hx=>gL rfl (by
  walk_at "zz"
  rw [j5 (hw x hx)])]
 walk_at "zz"
 rw [ka _ (fun _=>true)]
 walk_at "zz"
 rw [show ((xs.map fun _=>true).all id)=true by simp]
 walk_at "zz"
 rw [GQ]
 walk_at "zz"
 rw [xS]
 walk_at "zz"
 rw [if_pos (by simp;omega)]
 rw [el _ (fun p:Str×Str=>f_ [.str p.1,.str p.2]) (fun _=>cO true) (xs.zip (xs.drop 1)) fun p hp=>C_ rfl (by
  walk_at "zz"
  rw [LO up p hp])]
 walk_at "zz"
 rw [ka _ (fun _=>true)]
 walk_at "zz"
 simp
theorem i0 {fs xs:List Str} (hw:∀ x∈fs,tT x=true) (h:CY fs xs) (hl:xs.length<=6):cq [bj fs,bj xs]=.ok (.bool true):=by
 unfold cq
 refine c7 ?_
 unfold j3 bF
 walk_at "zz"
 rw [vM (fun x hx=>hw x (h.mem x hx)) h.up hl]
 walk_at "zz"
 rw [if_pos (by omega)]
 rw [el _ (fun x:Str=>aX x) (fun _=>cO true) xs fun x hx=>gL rfl (by
  walk_at "zz"
  rw [xQ,decide_eq_true (h.mem x hx)]
  rfl)]
 walk_at "zz"
 rw [ka _ (fun _=>true)]
 walk_at "zz"
 simp
theorem A9 {xs ys:List Str} (h:∀ x∈xs,x∉ys) (hl:xs.length<=6):dk [bj xs,bj ys]=.ok (.bool true):=by
 unfold dk
 refine c7 ?_
 unfold jq bF
 walk_at "zz"
 rw [if_pos (by omega)]
 rw [el _ (fun x:Str=>aX x) (fun _=>cO false) xs fun x hx=>gL rfl (by
  walk_at "zz"
  rw [xQ,decide_eq_false (h x hx)]
  rfl)]
 walk_at "zz"
 rw [ka _ (fun _=>false)]
 walk_at "zz"
 simp
theorem F8 {l i m:Int} (h0:l<=i) (h1:i<=m):ou [.int i,.int l,.int m]=.ok (.bool true):=by
 unfold ou
 refine c7 ?_
 unfold oq bF
 walk_at "zz"
 rw [F7,Re]
 walk_at "zz"
 rw [F7,Rf]
 walk_at "zz"
 rw [decide_eq_true h0]
 walk_at "zz"
 rw [decide_eq_true h1]
theorem Bc:∀ (xs fs:List Str),xs.Nodup->(∀ x∈xs,x∈fs)->xs.length<=fs.length
 |[],_,_,_=>dg _
 |x::r,fs,nd,h=>by
  obtain ⟨n1,n2⟩:=List.nodup_cons.mp nd
  have hx:=h x ao
  have:=Bc r (fs.erase x) n2 fun y hy=>(List.mem_erase_of_ne fun (z:y=x)=>n1 (z ▸ hy)).mpr (h y (ar _ hy))
  rw [List.length_erase_of_mem hx] at this
  have:0<fs.length:=List.length_pos_of_mem hx
  rw [bt]
  omega
theorem tX {fs xs:List Str} (h:CY fs xs) (hl:fs.length<=6):xs.length<=6:=by
 exact bT (Bc xs fs (my h.up) h.mem) hl
theorem V1 (a b c d e f g:D):O3 (q9 6 (dI (cV 2) (dI (cV 3) (dI (cV 4) (dI (cV 5) (dI (cV 6) (dI (cV 7) rM))))))) [Sl.shr a,Sl.shr (.tuple [b,c,d,e,f,g]),.no,.no,.no,.no,.no,.no] (.tuple [b,c,d,e,f,g])=.ok (.nx [Sl.shr a,Sl.shr (.tuple [b,c,d,e,f,g]),.shr b,.shr c,.shr d,.shr e,.shr f,.shr g]):=id rfl
theorem D0 {fs:List Str} (hr:F4 fs 6) {e:rY} (g:tV fs e):ml [bj fs,jz e]=.ok (.bool true):=by
 have l1:=tX g.needs hr.len
 have l2:=tX g.bars hr.len
 have l3:=tX g.makes hr.len
 have l4:=tX g.ends hr.len
 unfold ml
 refine c7 ?_
 unfold mj bF
 walk_at "zz"
 rw [GP]
 unfold jz
 walk_at "zz"
 rw [qk]
 walk_at "zz"
 rw [lJ]
 walk_at "zz"
 rw [show decide (((6:Nat):Int)=6)=true from rfl]
 walk_at "zz"
 rw [V1]
 ·walk_at "zz"
  rw [j5 g.name]
  walk_at "zz"
  rw [F8 g.p0 g.p9]
  walk_at "zz"
  have pk:=el (iw 1 [Sl.no,Sl.shr (bj fs)] kT (eK 2 cq (J.a8 (rS 1) (J.a8 (rS 0) J.al)))) (fun x:List Str=>bj x) (fun _=>cO true) [e.needs,e.bars,e.makes,e.ends] fun x hx=>gL rfl (by
   walk_at "zz"
   simp only [aV,aN,or_false] at hx
   rcases hx with z|z|z|z<;>rw [z]
   ·rw [i0 hr.ok g.needs l1]
   ·rw [i0 hr.ok g.bars l2]
   ·rw [i0 hr.ok g.makes l3]
   ·rw [i0 hr.ok g.ends l4])
  simp only [aT,fD] at pk
  rw [pk]
  walk_at "zz"
  rw [show hJ (fun bs=>bs.all id) (.list [.bool true,.bool true,.bool true,.bool true])=.ok (.bool true) from rfl]
  walk_at "zz"
  rw [A9 g.nb l1]
  walk_at "zz"
  rw [A9 g.me l3]
  walk_at "zz"
theorem LP (l:List Str) (nd:l.Nodup):(eA [] l).length=l.length:=by
 have h1:=Bc (eA [] l) l (m9 l [] m6) fun x hx=>((nA l [] x).mp hx).elim (fun h=>nomatch h) id
 have h2:=Bc l (eA [] l) nd fun x hx=>(nA l [] x).mpr (.inr hx)
 omega
theorem Ie (es:List rY) (hl:es.length<=6) (nd:(es.map (·.name)).Nodup) (s:Sl) (ρ:ay) (h:(s::ρ)[2]?=some (.shr (.tuple (es.map jz)))):tN (uT 1 [] (pI (rB 2)) kT (g2 (rB 0) (kI 0) bB)) (s::ρ)=.ok (.int (es.length:Nat)):=by
 have hr:DH (s::ρ) 2=.ok (.tuple (es.map jz)):=by unfold DH;rw [h]
 unfold tN uT
 rw [QY,R5,hr]
 walk_at "zz"
 rw [if_pos (by omega)]
 rw [el _ jz (fun e=>aX e.name) es fun e he=>gL rfl (by
  walk_at "zz"
  rfl)]
 walk_at "zz"
 have:(es.map fun e=>aX e.name)=(es.map (·.name)).map .str:=by rw [iE];rfl
 rw [this,strsOf_map]
 simp only [B3,LP _ nd,aO]
theorem V2 (b c:D):O3 (q9 2 (dI (cV 1) (dI (cV 2) rM))) [Sl.shr (.tuple [b,c]),.no,.no] (.tuple [b,c])=.ok (.nx [Sl.shr (.tuple [b,c]),.shr b,.shr c]):=id rfl
theorem Ig {fs:List Str}{es:List rY} (g:ph fs es):l8 [h_ fs es]=.ok (.bool true):=by
 have l1:=g.rise.len
 have l2:=g.len
 unfold l8
 refine c7 ?_
 unfold qH bF
 walk_at "zz"
 rw [Os]
 unfold h_
 walk_at "zz"
 rw [qk]
 walk_at "zz"
 rw [lJ]
 walk_at "zz"
 rw [show decide (((2:Nat):Int)=2)=true from rfl]
 walk_at "zz"
 rw [V2]
 walk_at "zz"
 rw [vM g.rise.ok g.rise.up l1]
 walk_at "zz"
 rw [decide_eq_false (by omega)]
 walk_at "zz"
 rw [PU,qk]
 walk_at "zz"
 rw [decide_eq_false (by omega)]
 walk_at "zz"
 rw [if_pos (by omega)]
 rw [el _ jz (fun _=>cO true) es fun e he=>gL rfl (by
  walk_at "zz"
  rw [D0 g.rise (g.ok e he)])]
 walk_at "zz"
 rw [ka _ (fun _=>true)]
 walk_at "zz"
 rw [show ((es.map fun _=>true).all id)=true by simp]
 walk_at "zz"
 rw [Ie es l2 g.nd _ _ rfl]
 walk_at "zz"
 rw [lJ,decide_eq_true rfl]
 rfl
theorem xT {fs:List Str}{es:List rY} (g:ph fs es):lc [h_ fs es]=.ok (h_ fs es):=by
 unfold lc
 refine c7 ?_
 unfold nL bF
 walk_at "zz"
 rw [Ig g]
 walk_at "zz"
theorem Aa {α:Type} (c:α->D) (h:∀ x,bu (c x) (c x)=true):∀ xs:List α,n6 (xs.map c) (xs.map c)=true
 |[]=>by simp [n6]
 |x::r=>by simp [n6,h x,Aa c h r]
theorem LQ (xs:List Str):bu (bj xs) (bj xs)=true:=by
 simp only [bu]
 exact Aa _ (fun x=>by rw [oP];simp) xs
theorem Ab {α:Type} (c:α->D) (n:Nat) (h:∀ x,(c x).depth<=n):∀ xs:List α,wB (xs.map c)<=n
 |[]=>by simp [wB]
 |x::r=>by
  simp only [aT,wB]
  exact Nat.max_le.mpr ⟨h x,Ab c n h r⟩
theorem PV {i:Nat}{g:ay->R D}{ρ:ay}{ds:List D}{d:D} (hi:ρ[i]?=some (Sl.own (.list ds))) (hg:g ρ=.ok d) (hl:ds.length<1000):yT i g ρ=.ok (.nx (ρ.set i (.own (.list (ds++[d]))))):=by
 unfold yT
 simp only [hi,hg,bind_ok,if_pos hl]
theorem LR {s s':Sl}{ρ:ay}{gt:ay->R Bool}{ge:ay->R D}{d d' y:D}{b:Bool} (h1:gt (.shr d::.shr d'::ρ)=.ok b) (h2:b=true->ge (.shr d::.shr d'::ρ)=.ok y):iw 2 (s::s'::ρ) gt ge (.tuple [d,d'])=.ok (if b then some y else none):=by
 have e:iw 2 (s::s'::ρ) gt ge (.tuple [d,d'])=HR ((gt (.shr d::.shr d'::ρ)).bind fun b=>if b then (ge (.shr d::.shr d'::ρ)).bind fun y=>.ok (some y) else .ok none):=id rfl
 rw [e,h1,bind_ok]
 cases b with
 |true=>rw [if_pos rfl,h2 rfl];rfl
 |false=>rfl
theorem Ac:∀ (xs:List Str) (n:Nat),(mx n xs).length=xs.length
 |[],_=>rfl
 |x::r,n=>by
  show (mx (n+1) r).length+1=r.length+1
  rw [Ac r]
theorem Ou (ns:List Int) (k:Int) (hk:0<=k) (fs:List Str) (hl:fs.length<=6) (m:Int):∃ ss:List Str,oJ [.list (ns.map .int),.int k,bj fs,.int m]=.ok (bj ss)/\ss.Sublist fs:=by
 refine ⟨((mx 0 fs).filter fun q=>decide (en ns (k+(q.1:Int)) 12<m)).map (·.2),?_,?_⟩
 ·unfold oJ
  refine c7 ?_
  unfold oH bF
  walk_at "zz"
  rw [wL]
  walk_at "zz"
  rw [if_pos (by rw [Ac];omega)]
  rw [tO _ cI (fun q=>aX q.2) (fun q=>decide (en ns (k+(q.1:Int)) 12<m)) (mx 0 fs) fun q hq=>LR (by
   walk_at "zz"
   rw [dX ns _ 12 (by omega) (by decide)]
   walk_at "zz") fun _=>rfl]
  walk_at "zz"
  rw [iX]
  walk_at "zz"
  unfold bj
  rw [iE]
  rfl
 ·have:=(List.filter_sublist (l:=mx 0 fs) (p:=fun q=>decide (en ns (k+(q.1:Int)) 12<m))).map (·.2)
  rw [qM] at this
  exact this
theorem F9 {fs xs:List Str} (up:fs.Pairwise fun a b=>lV a b=true) (h:xs.Sublist fs):CY fs xs:=⟨up.sublist h,fun x hx=>h.subset hx⟩
def LS (P:ay->Prop) (r:R Fl):Prop:=∃ ρ',r=.ok (.nx ρ')/\P ρ'
theorem Ih {P:ay->Prop}{r:R Fl}{hh:ay->R Fl}{o:R Fl} (h:LS P r) (k:∀ ρ,P ρ->hh ρ=o):r.bind (KI hh)=o:=by
 obtain ⟨ρ',h1,p⟩:=h
 rw [h1,bind_ok,qf]
 exact k ρ' p
theorem Ad {α:Type}{kt:D->ay->R ay}{gb:ay->R Fl} (c:α->D) (P:ay->Prop):∀ (xs:List α) (ρ:ay),(∀ x∈xs,∀ ρ,P ρ->∃ ρ1,kt (c x) ρ=.ok ρ1/\LS P (gb ρ1))->P ρ->LS P (uP kt gb (xs.map c) ρ)
 |[],ρ,_,p=>⟨ρ,rfl,p⟩
 |x::r,ρ,h,p=>by
  obtain ⟨ρ1,h1,ρ2,h2,h3⟩:=h x ao ρ p
  rw [aT]
  unfold uP
  rw [h1]
  simp only [h2]
  exact Ad c P r ρ2 (fun y hy=>h y (ar _ hy)) h3
structure PX (fs m b:List Str):Prop where
 must:CY fs m
 bars:CY fs b
 mb:∀ x∈m,x∉b
abbrev Ii (m b:List Str):D:=.tuple [bj m,bj b]
theorem GR (p:List Str) (x:Str):p.map aX++[aX x]=(p++[x]).map .str:=by simp
theorem Ov (ns:List Int) (k:Int) (hk:0<=k) (fs:List Str) (up:fs.Pairwise fun a b=>lV a b=true) (hl:fs.length<=6):∃ m b,rX [.list (ns.map .int),.int k,bj fs]=.ok (Ii m b)/\PX fs m b:=by
 have nd:=my up
 suffices H:∃ p q,lH (bF 8 [.list (ns.map .int),.int k,bj fs])=.ok (.rt (Ii p q))/\mU fs p q by
  obtain ⟨p,q,h1,h2⟩:=H
  exact ⟨p,q,c7 h1,F9 up h2.sp,F9 up h2.sq,h2.d⟩
 unfold lH bF
 walk_at "yy"
 rw [z_ (ds:=(mx 0 fs).map cI)]
 ·have H:=qj cI (fun (a:Unit) (_:Nat×Str)=>a) (fun bM _ ρ=>∃ pre,pre++bM.map (·.2)=fs/\∃ p q,mU pre p q/\∃ z5 z6 z7,ρ=[.shr (.list (ns.map .int)),.shr (.int k),.shr (bj fs),.own (.list (p.map .str)),.own (.list (q.map .str)),z5,z6,z7]) (kt:=q9 2 (dI (cV 5) (dI (cV 6) rM))) (gb:=aS (fz 7 (eK 3 aU (J.a8 (rS 0) (J.a8 (g2 (rB 1) (rB 5) cx) (J.a8 (kI 8) J.al))))) (dR (fF (g2 (rB 7) (kI 2) EL)) (yT 3 (rS 6)) (dR (fF (g2 (rB 7) (kI 2) (lW false))) (yT 4 (rS 6)) (fun ρ=>.ok (.nx ρ)))))
  obtain ⟨ρ',h1,pre,h2,p,q,h3,z5,z6,z7,h4⟩:=H (by
   rintro ⟨i,x⟩ bM _ ρ ⟨pre,h2,p,q,h3,z5,z6,z7,rfl⟩
   have hx:x∉pre:=by
    rw [<- h2,aT] at nd
    have:=(List.nodup_append.mp nd).2.2
    intro hx
    exact this x hx x ao rfl
   have hpl:pre.length<900:=by
    have:=congrArg wR h2
    rw [a_] at this
    omega
   have lp:=h3.sp.length_le
   have lq:=h3.sq.length_le
   refine ⟨[.shr (.list (ns.map .int)),.shr (.int k),.shr (bj fs),.own (.list (p.map .str)),.own (.list (q.map .str)),.shr (.int (i:Nat)),.shr (.str x),z7],?_⟩
   by_cases c1:en ns (k+(i:Nat)) 8<2
   ·refine ⟨[.shr (.list (ns.map .int)),.shr (.int k),.shr (bj fs),.own (.list ((p++[x]).map .str)),.own (.list (q.map .str)),.shr (.int (i:Nat)),.shr (.str x),.shr (.int (en ns (k+(i:Nat)) 8))],rfl,?_,pre++[x],by rw [<- h2];simp,_,_,h3.left x hx,_,_,_,rfl⟩
    walk_at "zz"
    rw [dX ns _ 8 (by omega) (by decide)]
    walk_at "zz"
    rw [decide_eq_true c1]
    walk_at "zz"
    rw [<- GR]
    exact PV (ds:=p.map .str) rfl rfl (by rw [aO];omega)
   ·by_cases c2:en ns (k+(i:Nat)) 8=2
    ·refine ⟨[.shr (.list (ns.map .int)),.shr (.int k),.shr (bj fs),.own (.list (p.map .str)),.own (.list ((q++[x]).map .str)),.shr (.int (i:Nat)),.shr (.str x),.shr (.int (en ns (k+(i:Nat)) 8))],rfl,?_,pre++[x],by rw [<- h2];simp,_,_,h3.right x hx,_,_,_,rfl⟩
     walk_at "zz"
     rw [dX ns _ 8 (by omega) (by decide)]
     walk_at "zz"
     rw [decide_eq_false c1]
     walk_at "zz"
     rw [lJ]
     walk_at "zz"
     rw [decide_eq_true c2]
     walk_at "zz"
     rw [<- GR]
     exact PV (ds:=q.map .str) rfl rfl (by rw [aO];omega)
    ·refine ⟨[.shr (.list (ns.map .int)),.shr (.int k),.shr (bj fs),.own (.list (p.map .str)),.own (.list (q.map .str)),.shr (.int (i:Nat)),.shr (.str x),.shr (.int (en ns (k+(i:Nat)) 8))],rfl,?_,pre++[x],by rw [<- h2];simp,_,_,h3.skip x,_,_,_,rfl⟩
     walk_at "zz"
     rw [dX ns _ 8 (by omega) (by decide)]
     walk_at "zz"
     rw [decide_eq_false c1]
     walk_at "zz"
     rw [lJ]
     walk_at "zz"
     rw [decide_eq_false c2]
     walk_at "zz") (mx 0 fs) () [.shr (.list (ns.map .int)),.shr (.int k),.shr (bj fs),.own (.list []),.own (.list []),.no,.no,.no] ⟨[],by rw [qM];rfl,[],[],⟨e8 _,e8 _,fun _ h=>nomatch h⟩,_,_,_,rfl⟩
  refine ⟨p,q,?_,?_⟩
  ·rw [h1,h4]
   walk_at "zz"
   rw [iX]
   walk_at "zz"
   rw [iX]
   walk_at "zz"
  ·simp only [fD,cj] at h2
   rw [<- h2];exact h3
 ·walk_at "zz"
  rw [wL]
theorem Rg (j:Int) (h0:0<=j) (h1:j<2):∃ m:Int,bB (.list [.int 2,.int 4]) (.int j)=.ok (.int m):=by
 have:j=0\/j=1:=by omega
 rcases this with h|h<;>subst h
 ·exact ⟨2,rfl⟩
 ·exact ⟨4,rfl⟩
theorem Ij (fs:List Str) (es:List rY):bB (h_ fs es) (.int 0)=.ok (bj fs):=id rfl
theorem V3 (fs:List Str) (es:List rY):bB (h_ fs es) (.int 1)=.ok (.tuple (es.map jz)):=id rfl
theorem Ow (ns:List Int) (m n:Int) (hm0:0<=m) (hm:m<=6) (hn0:0<=n) (hn:n<=6):∃ fs es ss wm wb,oO [.list (ns.map .int),.int m,.int n]=.ok (.tuple [h_ fs es,bj ss,Ii wm wb])/\ph fs es/\CY fs ss/\PX fs wm wb:=by
 obtain ⟨fs,es,hb,gb⟩:=Oq ns 100 (by decide) m n hm0 hm hn0 hn
 obtain ⟨pt,hp⟩:=Rg (en ns 97 2) (dW _ _ _ (by decide)) (eC _ _ _ (by decide))
 obtain ⟨ss,hs,gs⟩:=Ou ns 20 (by decide) fs gb.rise.len pt
 obtain ⟨wm,wb,hw,gw⟩:=Ov ns 30 (by decide) fs gb.rise.up gb.rise.len
 refine ⟨fs,es,ss,wm,wb,?_,gb,F9 gb.rise.up gs,gw⟩
 unfold oO
 refine c7 ?_
 unfold oN bF
 walk_at "zz"
 rw [hb]
 walk_at "zz"
 rw [Ij]
 walk_at "zz"
 rw [dX ns 97 2 (by decide) (by decide)]
 walk_at "zz"
 rw [hp]
 walk_at "zz"
 rw [hs]
 walk_at "zz"
 rw [Ij]
 walk_at "zz"
 rw [hw]
 walk_at "zz"
theorem D1 {xs ys:List Str} (hl:xs.length<=60):dk [bj xs,bj ys]=.ok (.bool (!xs.any fun x=>decide (x∈ys))):=by
 unfold dk
 refine c7 ?_
 unfold jq bF
 walk_at "zz"
 rw [if_pos (by omega)]
 rw [el _ (fun x:Str=>aX x) (fun x=>cO (decide (x∈ys))) xs fun x hx=>gL rfl (by
  walk_at "zz"
  rw [xQ]
  rfl)]
 walk_at "zz"
 rw [ka _ (fun x=>decide (x∈ys))]
 walk_at "zz"
 rw [List.any_map]
 rfl
theorem Tp (neg:Bool):NJ neg .none .none=.ok (.bool (!neg)):=by cases neg<;>rfl
theorem V4 (e:rY):bB (jz e) (.int 0)=.ok (.str e.name):=id rfl
theorem wO (x:Str) (gs:ay->R (List D)) (s:Sl) (ρ:ay) {ds:List D} (h:gs (s::ρ)=.ok ds) (hl:ds.length<=1000):lz x gs (s::ρ)=.ex x none:=by unfold lz;rw [h,bind_ok,if_pos hl]
theorem Tq (k:Nat) (gs:ay->R (List D)) (s:Sl) (ρ:ay):HX k gs (s::ρ)=(gs (s::ρ)).bind (QZ k):=id rfl
theorem Fa {x:Str} (h:tT x=true):x≠"zzzzz":=by
 intro e
 rw [e] at h
 have:tT "zzzzz"=false:=by decide +kernel
 rw [this] at h
 cases h
theorem V5 {x:Str} (h:tT x=true):lW false (.str x) (.str "zzzzz")=.ok (.bool false):=by
 unfold lW
 rw [wK h,show (aX "zzzzz").canLay0=true by decide +kernel,oP,decide_eq_false (Fa h)]
 rfl
theorem wG {xs:List D}{j:Nat}{v:D} (h:xs[j]?=some v):bB (.list xs) (.int (j:Nat))=.ok v:=by
 have e:bB (.list xs) (.int (j:Nat))=Cr (.list xs) (.int (j:Nat)):=rfl
 rw [e]
 unfold Cr
 simp only [o6 h]
def Tr:R D->Bool
 |.ok (.bool b)=>b
 |_=>false
theorem GS {r:R D} (h:Tr r=true):r=.ok (.bool true):=by
 unfold Tr at h
 split at h
 ·rw [h]
 ·cases h
theorem LU {fs:List Str}{es:List rY} (g:ph fs es):dm [h_ fs es,.str "zzzzz"]=.ok .none:=by
 unfold dm
 refine c7 ?_
 unfold gj bF
 walk_at "zz"
 rw [LL,LN]
 walk_at "zz"
 rw [z_ (ds:=es.map jz)]
 ·refine Ih (P:=fun ρ=>∃ z,ρ=[Sl.shr (h_ fs es),.shr (.str "zzzzz"),z]) (Ad jz _ es _ ?_ ⟨_,rfl⟩) ?_
  ·rintro e he ρ ⟨z,rfl⟩
   refine ⟨[.shr (h_ fs es),.shr (.str "zzzzz"),.shr (jz e)],rfl,[.shr (h_ fs es),.shr (.str "zzzzz"),.shr (jz e)],?_,_,rfl⟩
   walk_at "zz"
   rw [V4]
   walk_at "zz"
   rw [V5 (g.ok e he).name]
   walk_at "zz"
  ·rintro ρ ⟨z,rfl⟩
   walk_at "zz"
 ·walk_at "zz"
  rw [V3]
  walk_at "zz"
theorem xU {fs:List Str}{es:List rY}{d:D} (h1:mR d=true) (h2:wf "str" d=false):dm [h_ fs es,d]=.ok .none:=by
 unfold dm
 refine c7 ?_
 unfold gj bF
 walk_at "zz"
 rw [h1,h2]
 walk_at "zz"
theorem LV {n:Nat}{g:ay->R Fl}{ds:List D}{ρ:ay} (h:g (bF n ds)=.ok (.nx ρ)):dU n g ds=.ok .none:=by unfold dU;rw [h]
def Rh:R D->Bool
 |.ok (.bool b)=>!b
 |_=>false
theorem kc {r:R D} (h:Rh r=true):r=.ok (.bool false):=by
 unfold Rh at h
 split at h
 ·rename_i b;cases b
  ·rfl
  ·cases h
 ·cases h
theorem Fb {L:List D}{j:Int} (h0:0<=j) (h1:j<L.length):∃ d∈L,bB (.list L) (.int j)=.ok d:=by
 obtain ⟨n,rfl⟩:=DE h0
 have hn:n<L.length:=by omega
 exact ⟨L[n],iC hn,wG (bn hn)⟩
theorem LW {i:Nat}{g:ay->R D}{ρ:ay}{ds es:List D} (hi:ρ[i]?=some (Sl.own (.list ds))) (hg:g ρ=.ok (.list es)) (hl:ds.length+es.length<=1000):uU i g ρ=.ok (.nx (ρ.set i (.own (.list (ds++es))))):=by
 unfold uU
 simp only [hi,hg,bind_ok,if_pos hl]
theorem GT:eO [.str "zzzzz"]=.ok (.bool true):=GS (by decide +kernel)
theorem LX (i:Int):eO [.int i]=.ok (.bool false):=by
 unfold eO
 refine c7 ?_
 unfold nK bF
 walk_at "zz"
 rw [F7,show wf "str" (.int i)=false from rfl]
 walk_at "zz"
theorem LY {xs:List Str} (hw:∀ x∈xs,eO [.str x]=.ok (.bool true)) (hl:xs.length<=20):c6 [bj xs]=.ok (.bool ((xs.zip (xs.drop 1)).all fun p=>lV p.1 p.2)):=by
 unfold c6
 refine c7 ?_
 unfold dq bF
 walk_at "zz"
 rw [il,qk]
 walk_at "zz"
 rw [if_pos (by omega)]
 rw [el _ (fun x:Str=>aX x) (fun _=>cO true) xs fun x hx=>gL rfl (by
  walk_at "zz"
  rw [hw x hx])]
 walk_at "zz"
 rw [ka _ (fun _=>true)]
 walk_at "zz"
 rw [show ((xs.map fun _=>true).all id)=true by simp]
 walk_at "zz"
 rw [GQ]
 walk_at "zz"
 rw [xS]
 walk_at "zz"
 rw [if_pos (by simp;omega)]
 rw [el _ (fun p:Str×Str=>f_ [.str p.1,.str p.2]) (fun p=>cO (lV p.1 p.2)) (xs.zip (xs.drop 1)) fun p hp=>C_ rfl (by
  walk_at "zz")]
 walk_at "zz"
 rw [ka _ (fun p:Str×Str=>lV p.1 p.2)]
 walk_at "zz"
 rw [vA]
 rfl
theorem Ae {fs xs:List Str} (hw:∀ x∈xs,eO [.str x]=.ok (.bool true)) (hl:xs.length<=20):cq [bj fs,bj xs]=.ok (.bool (((xs.zip (xs.drop 1)).all fun p=>lV p.1 p.2)&&xs.all fun x=>decide (x∈fs))):=by
 unfold cq
 refine c7 ?_
 unfold j3 bF
 walk_at "zz"
 rw [LY hw hl]
 cases ((xs.zip (xs.drop 1)).all fun p=>lV p.1 p.2) with
 |false=>rfl
 |true =>
  walk_at "zz"
  rw [if_pos (by omega)]
  rw [el _ (fun x:Str=>aX x) (fun x=>cO (decide (x∈fs))) xs fun x hx=>gL rfl (by
   walk_at "zz"
   rw [xQ]
   rfl)]
  walk_at "zz"
  rw [ka _ (fun x:Str=>decide (x∈fs))]
  walk_at "zz"
  rw [vA]
  rfl
theorem xV:∀ {l:List Str},((l.zip (l.drop 1)).all fun p=>lV p.1 p.2)=true->l.Pairwise fun a b=>lV a b=true
 |[],_=>.nil
 |[_],_=>BV _ _
 |a::b::r,h=>by
  have h':(lV a b&&(((b::r).zip ((b::r).drop 1)).all fun p=>lV p.1 p.2))=true:=h
  rw [aJ] at h'
  have ih:=xV h'.2
  refine List.pairwise_cons.mpr ⟨fun x hx=>?_,ih⟩
  rcases List.mem_cons.mp hx with z|z
  ·rw [z];exact h'.1
  ·exact nC h'.1 ((List.pairwise_cons.mp ih).1 x z)
structure tY (fs:List Str) (d:D):Prop where
 nd:mR d=true
 no:cq [bj fs,d]=.ok (.bool false)
theorem D2 {fs:List Str}{d:D} (h0:mR d=true) (h:c6 [d]=.ok (.bool false)):tY fs d:=by
 refine ⟨h0,?_⟩
 unfold cq
 refine c7 ?_
 unfold j3 bF
 walk_at "zz"
 rw [h]
 walk_at "zz"
theorem GU {fs:List Str}{d:D} (h0:mR d=true) (h1:wf "tuple" d=false):tY fs d:=by
 refine D2 h0 ?_
 unfold c6
 refine c7 ?_
 unfold dq bF
 walk_at "zz"
 rw [h0,h1]
 walk_at "zz"
theorem Tt {fs xs:List Str} (hf:∀ x∈fs,tT x=true) (hw:∀ x∈xs,eO [.str x]=.ok (.bool true)) (hl:xs.length<=20) (hz:("zzzzz" : Str)∈xs):tY fs (bj xs):=by
 refine ⟨il xs,?_⟩
 rw [Ae hw hl]
 have:(xs.all fun x=>decide (x∈fs))=false:=by
  rw [List.all_eq_false]
  exact ⟨_,hz,by rw [decide_eq_true_eq];exact fun h=>Fa (hf _ h) rfl⟩
 rw [this,zv]
theorem LZ {fs xs:List Str} (hw:∀ x∈xs,eO [.str x]=.ok (.bool true)) (hl:xs.length<=20) (hz:¬ xs.Pairwise fun a b=>lV a b=true):tY fs (bj xs):=by
 refine ⟨il xs,?_⟩
 rw [Ae hw hl]
 cases h:((xs.zip (xs.drop 1)).all fun p=>lV p.1 p.2) with
 |true=>exact (hz (xV h)).elim
 |false=>rfl
theorem Tu {fs:List Str}{x:Str} (hx:tT x=true):tY fs (.tuple [.str x,.int 0]):=by
 refine D2 rfl ?_
 unfold c6
 refine c7 ?_
 unfold dq bF
 walk_at "zz"
 rw [show mR (.tuple [.str x,.int 0])=true from rfl,qk]
 walk_at "zz"
 have pk:=el (iw 1 [Sl.no] kT (eK 1 eO (J.a8 (rS 0) J.al))) (fun p:D×Bool=>p.1) (fun p=>cO p.2) [(.str x,true),(.int 0,false)] fun p hp=>gL rfl (by
  walk_at "zz"
  simp only [aV,aN,or_false] at hp
  rcases hp with z|z<;>rw [z]
  ·rw [j5 hx]
  ·rw [LX])
 simp only [aT,fD] at pk
 rw [pk]
 walk_at "zz"
 rw [show hJ (fun bs=>bs.all id) (.list [.bool true,.bool false])=.ok (.bool false) from rfl]
 walk_at "zz"
def rf (fs:List Str):List D:=[.none,.list (fs.map .str),.tuple [.str "zzzzz"],.tuple (fs.map .str++[.str "zzzzz"]),.tuple [.int 1],.int 0,.str "a",.tuple [.str ""],.tuple [.none]]
def xW (x:Str) (fs:List Str):List D:=[.tuple (fs.map .str++fs.map .str),.tuple [.str x,.str x],.tuple [.str x,.int 0]]
theorem V6 {fs:List Str} (hf:∀ x∈fs,tT x=true) (hl:fs.length<=6):∀ d∈rf fs,tY fs d:=by
 intro d hd
 unfold rf at hd
 simp only [aV,aN,or_false] at hd
 rcases hd with h|h|h|h|h|h|h|h|h<;>rw [h]
 ·exact GU rfl rfl
 ·exact GU (by show noDs (fs.map aX)=true;exact wN _ (fun _=>rfl) fs) rfl
 ·exact Tt (xs:=[("zzzzz" : Str)]) hf (fun x hx=>by rw [List.mem_singleton.mp hx];exact GT) (by decide) (List.mem_singleton.mpr rfl)
 ·have:=Tt (xs:=fs++[("zzzzz" : Str)]) hf (fun x hx=>by
   rcases List.mem_append.mp hx with h|h
   ·exact j5 (hf x h)
   ·rw [List.mem_singleton.mp h];exact GT) (by rw [a_];simp;omega) (aQ _ (List.mem_singleton.mpr rfl))
  unfold bj at this
  rwa [l7] at this
 ·exact D2 rfl (kc (by decide +kernel))
 ·exact GU rfl rfl
 ·exact GU rfl rfl
 ·exact D2 rfl (kc (by decide +kernel))
 ·exact D2 rfl (kc (by decide +kernel))
theorem V7 {x:Str}{r:List Str} (hf:∀ y∈x::r,tT y=true) (up:(x::r).Pairwise fun a b=>lV a b=true) (hl:(x::r).length<=6):∀ d∈xW x (x::r),tY (x::r) d:=by
 intro d hd
 have hx:=hf x ao
 unfold xW at hd
 simp only [aV,aN,or_false] at hd
 rcases hd with h|h|h<;>rw [h]
 ·have:=LZ (fs:=x::r) (xs:=(x::r)++(x::r)) (fun y hy=>by
   rcases List.mem_append.mp hy with h|h
   ·exact j5 (hf y h)
   ·exact j5 (hf y h)) (by rw [a_];omega) (fun h=>by
   have:=(List.nodup_append.mp (my h)).2.2
   exact this x ao x ao rfl)
  unfold bj at this
  rwa [l7] at this
 ·exact LZ (xs:=[x,x]) (fun y hy=>by
   simp only [aV,aN,or_false,or_self] at hy
   rw [hy];exact j5 hx) (by simp) (fun h=>by
   have:=(List.pairwise_cons.mp h).1 x ao
   rw [o8] at this
   cases this)
 ·exact Tu hx
theorem V8 {x y:Str}{r:List Str} (hf:∀ z∈x::y::r,tT z=true) (up:(x::y::r).Pairwise fun a b=>lV a b=true) (hl:(x::y::r).length<=6):tY (x::y::r) (bj (x::y::r).reverse):=by
 refine LZ (fun z hz=>j5 (hf z (List.mem_reverse.mp hz))) (by rw [sM];omega) (fun h=>?_)
 have h2:=List.pairwise_reverse.mp h
 have a1:=(List.pairwise_cons.mp up).1 y ao
 have a2:=(List.pairwise_cons.mp h2).1 y ao
 have:=nC a1 a2
 rw [o8] at this
 cases this
theorem V9 (a x y:D):O3 (q9 2 (dI (cV 2) (dI (cV 3) rM))) [Sl.shr a,.shr (.tuple [x,y]),.no,.no] (.tuple [x,y])=.ok (.nx [.shr a,.shr (.tuple [x,y]),.shr x,.shr y]):=id rfl
theorem Ik {fs ss:List Str}{es:List rY} (g:ph fs es) (h:CY fs ss):gC [h_ fs es,bj ss]=.ok .none:=by
 unfold gC
 refine LV (ρ:=[.shr (h_ fs es),.shr (bj ss)]) ?_
 unfold iK bF
 walk_at "zz"
 rw [Ij]
 walk_at "zz"
 rw [i0 g.rise.ok h (tX h g.rise.len)]
 walk_at "zz"
theorem Il {fs:List Str}{es:List rY}{d:D} (h:tY fs d):gC [h_ fs es,d]=.ex "NoState" none:=by
 unfold gC
 refine jO ?_
 unfold iK bF
 walk_at "zz"
 rw [Ij]
 walk_at "zz"
 rw [h.no]
 walk_at "zz"
 rw [wO _ _ _ _ rfl (by decide)]
theorem xX {fs ss:List Str}{es:List rY} (g:ph fs es) (h:CY fs ss):ck [h_ fs es,bj ss]=.ok .none:=by
 unfold ck
 refine LV (ρ:=[.shr (h_ fs es),.shr (bj ss)]) ?_
 unfold iL bF
 walk_at "zz"
 rw [xT g]
 walk_at "zz"
 rw [Ik g h]
 walk_at "zz"
theorem L_ {fs:List Str}{es:List rY}{d:D} (g:ph fs es) (h:tY fs d):ck [h_ fs es,d]=.ex "NoState" none:=by
 unfold ck
 refine jO ?_
 unfold iL bF
 walk_at "zz"
 rw [xT g]
 walk_at "zz"
 rw [Il h]
 walk_at "zz"
theorem tZ {fs:List Str}{es:List rY}{x y:D}{p q r:Bool} (n:mR (.tuple [x,y])=true) (hx:cq [bj fs,x]=.ok (.bool p)) (hy:p=true->cq [bj fs,y]=.ok (.bool q)) (hs:p=true->q=true->dk [x,y]=.ok (.bool r)):jI [h_ fs es,.tuple [x,y]]=.ok (.bool (p&&(q&&r))):=by
 unfold jI
 refine c7 ?_
 unfold l9 bF
 walk_at "zz"
 rw [n,qk]
 walk_at "zz"
 rw [lJ]
 walk_at "zz"
 rw [show decide (((2:Nat):Int)=2)=true from rfl]
 walk_at "zz"
 rw [V9]
 walk_at "zz"
 rw [Ij]
 walk_at "zz"
 rw [hx]
 cases p with
 |false=>rfl
 |true =>
  walk_at "zz"
  rw [Ij]
  walk_at "zz"
  rw [hy rfl]
  cases q with
  |false=>rfl
  |true =>
   walk_at "zz"
   rw [hs rfl rfl]
   cases r<;>rfl
structure yW (fs:List Str) (es:List rY) (d:D):Prop where
 no:jI [h_ fs es,d]=.ok (.bool false)
theorem M0 {fs:List Str}{es:List rY}{d:D} (h0:mR d=true) (h1:wf "tuple" d=false):yW fs es d:=by
 constructor
 unfold jI
 refine c7 ?_
 unfold l9 bF
 walk_at "zz"
 rw [h0,h1]
 walk_at "zz"
theorem M1 {fs:List Str}{es:List rY}{ds:List D} (h0:mR (.tuple ds)=true) (h1:ds.length≠2):yW fs es (.tuple ds):=by
 constructor
 unfold jI
 refine c7 ?_
 unfold l9 bF
 walk_at "zz"
 rw [h0,qk]
 walk_at "zz"
 rw [lJ]
 walk_at "zz"
 rw [decide_eq_false (by omega)]
 walk_at "zz"
theorem M2 {fs:List Str}{es:List rY}{d:D} (h:yW fs es d):kW [h_ fs es,d]=.ex "NoWant" none:=by
 unfold kW
 refine jO ?_
 unfold kU bF
 walk_at "zz"
 rw [h.no]
 walk_at "zz"
 rw [wO _ _ _ _ rfl (by decide)]
theorem Ri {fs ss:List Str}{es:List rY}{d:D} (g:ph fs es) (h:CY fs ss) (w:yW fs es d):hW [h_ fs es,bj ss,d]=.ex "NoWant" none:=by
 unfold hW
 refine jO ?_
 unfold mn bF
 walk_at "zz"
 rw [xX g h]
 walk_at "zz"
 rw [M2 w]
 walk_at "zz"
theorem Tv (g:ay->R D) (s:Sl) (ρ:ay):O6 g (s::ρ)=(g (s::ρ)).bind R1:=id rfl
theorem Ox (fs:List Str):R1 (bj fs)=.ok (bj fs.reverse):=by
 show R.ok (f_ (fs.map aX).reverse)=_
 rw [<- List.map_reverse]
theorem Be (x:Str) (r:List Str):EO (bj (x::r)) none (some 1)=.ok (bj [x]):=by
 have e:EO (bj (x::r)) none (some 1)=.ok (.tuple (xx ((x::r).map .str) none (some 1))):=rfl
 rw [e,show (1:Int)=((1:Nat):Int) from rfl,LK _ 1 (by simp)]
 rfl
theorem Oy (x:Str) (r:List Str):bB (bj (x::r)) (.int 0)=.ok (.str x):=by
 have e:bB (bj (x::r)) (.int 0)=Cr (.tuple (.str x::r.map .str)) (.int 0):=rfl
 rw [e]
 unfold Cr
 have:=o6 (xs:=aX x::r.map .str) (j:=0) (v:=.str x) rfl
 rw [show ((0:Nat):Int)=0 from rfl] at this
 simp only [this]
theorem M3 (xs:List D):iP (.tuple xs)=.ok (.list xs):=id rfl
theorem Bf (ns:List Int) (k:Int) (hk:0<=k) {L:List D}{P:D->Prop} (hL:0<L.length) (h:∀ d∈L,P d) (F:D):∃ d,cR (g2 (rB 3) (eK 3 aU (J.a8 (rS 0) (J.a8 (rS 1) (J.a8 (cA (J.a8 (rB 3) J.al) (jo lv)) J.al)))) bB) [.shr (.list (ns.map .int)),.shr (.int k),.shr F,.own (.list L)]=.ok (.rt d)/\P d:=by
 have hm:=dX ns k (L.length:Nat) hk (by omega)
 obtain ⟨d,hd,e⟩:=Fb (L:=L) (dW ns k (L.length:Nat) (by omega)) (eC ns k (L.length:Nat) (by omega))
 refine ⟨d,?_,h d hd⟩
 walk_at "zz"
 rw [hm]
 walk_at "zz"
 rw [e]
 walk_at "zz"
theorem Af (ns:List Int) (k:Int) (hk:0<=k) (fs:List Str) (hr:F4 fs 6):∃ d,iQ [.list (ns.map .int),.int k,bj fs]=.ok d/\tY fs d:=by
 suffices H:∃ d,gm (bF 4 [.list (ns.map .int),.int k,bj fs])=.ok (.rt d)/\tY fs d by
  obtain ⟨d,h1,h2⟩:=H
  exact ⟨d,c7 h1,h2⟩
 have l:=hr.len
 have b0:=V6 hr.ok l
 unfold gm bF
 generalize hG:cR _=G
 walk_at "zz"
 rw [M3]
 walk_at "zz"
 rw [if_pos (by omega)]
 walk_at "zz"
 rw [wM fs hr.ok]
 walk_at "zz"
 cases fs with
 |nil =>
  walk_at "zz"
  rw [show decide ((1:Int)<((0:Nat):Int))=false from rfl]
  walk_at "zz"
  rw [<- hG]
  exact Bf ns k hk (L:=rf []) (by decide) b0 _
 |cons x r =>
  have b1:=V7 hr.ok hr.up l
  rw [decide_eq_false (by simp)]
  simp only [ir,cond_true]
  simp only [bt] at l
  rw [LW (ds:=rf (x::r)) (es:=xW x (x::r))]
  ·walk_at "zz"
   have bb:∀ d∈rf (x::r)++xW x (x::r),tY (x::r) d:=fun d hd=>(List.mem_append.mp hd).elim (b0 d) (b1 d)
   cases r with
   |nil =>
    rw [show decide ((1:Int)<(([].length+1:Nat):Int))=false from rfl]
    walk_at "zz"
    rw [<- hG]
    exact Bf ns k hk (by simp [rf]) bb _
   |cons y r =>
    rw [decide_eq_true (by simp only [bt];omega)]
    simp only [cond_true]
    have b2:=V8 hr.ok hr.up hr.len
    rw [LW (ds:=rf (x::y::r)++xW x (x::y::r)) (es:=[bj (x::y::r).reverse,bj (x::y::r).reverse,bj (x::y::r).reverse])]
    ·walk_at "zz"
     rw [<- hG]
     exact Bf ns k hk (by simp [rf]) (fun d hd=>(List.mem_append.mp hd).elim (bb d) fun h=>by
      simp only [aV,aN,or_false,or_self] at h
      rw [h];exact b2) _
    ·rfl
    ·rw [Tq]
     walk_at "zz"
     rw [Tv]
     walk_at "zz"
     rw [Ox]
     rfl
    ·simp [rf,xW]
  ·rfl
  ·walk_at "zz"
   rw [if_pos (by omega)]
   walk_at "zz"
   rw [Be]
   walk_at "zz"
   rw [Be]
   walk_at "zz"
   rw [Oy]
   walk_at "zz"
   rfl
  ·simp [rf,xW]
def rZ (b:D):List D:=[.none,.tuple [.tuple []],.list [.tuple [],.tuple []],.tuple [.tuple [],.tuple [],.tuple []],.tuple [b,.tuple []],.tuple [.tuple [],b],.tuple [b,.tuple []],.tuple [.tuple [],b],.int 0]
theorem Im {fs:List Str} (hf:∀ x∈fs,tT x=true):cq [bj fs,.tuple []]=.ok (.bool true):=i0 (xs:=[]) hf ⟨.nil,fun _ h=>nomatch h⟩ (by decide)
theorem Bg {x y:D} (h1:mR x=true) (h2:mR y=true):mR (.tuple [x,y])=true:=by
 have:mR (.tuple [x,y])=(mR x&&(mR y&&true)):=rfl
 rw [this,h1,h2];rfl
theorem V_ {fs:List Str}{es:List rY}{b:D} (hf:∀ x∈fs,tT x=true) (hb:tY fs b):∀ d∈rZ b,yW fs es d:=by
 intro d hd
 unfold rZ at hd
 simp only [aV,aN,or_false] at hd
 have w1:yW fs es (.tuple [b,.tuple []]):=⟨tZ (q:=false) (r:=false) (Bg hb.nd rfl) hb.no (fun h=>nomatch h) (fun h=>nomatch h)⟩
 have w2:yW fs es (.tuple [.tuple [],b]):=⟨tZ (r:=false) (Bg rfl hb.nd) (Im hf) (fun _=>hb.no) (fun _ h=>nomatch h)⟩
 rcases hd with h|h|h|h|h|h|h|h|h<;>rw [h]
 ·exact M0 rfl rfl
 ·exact M1 rfl (by decide)
 ·exact M0 rfl rfl
 ·exact M1 rfl (by decide)
 ·exact w1
 ·exact w2
 ·exact w1
 ·exact w2
 ·exact M0 rfl rfl
def Bh (x:Str) (fs:List Str):List D:=[.tuple [bj fs,bj [x]],.tuple [bj [x],bj fs]]
theorem W0 {x:Str}{r:List Str}{es:List rY} (hr:F4 (x::r) 6):∀ d∈Bh x (x::r),yW (x::r) es d:=by
 intro d hd
 unfold Bh at hd
 simp only [aV,aN,or_false] at hd
 have l:=hr.len
 have f1:cq [bj (x::r),bj (x::r)]=.ok (.bool true):=i0 hr.ok ⟨hr.up,fun _ h=>h⟩ l
 have f2:cq [bj (x::r),bj [x]]=.ok (.bool true):=i0 hr.ok ⟨BV _ _,fun y h=>by rw [List.mem_singleton.mp h];exact ao⟩ (by simp)
 have s1:dk [bj (x::r),bj [x]]=.ok (.bool false):=by
  rw [D1 (by omega)]
  simp
 have s2:dk [bj [x],bj (x::r)]=.ok (.bool false):=by
  rw [D1 (by simp)]
  simp
 rcases hd with h|h<;>rw [h]
 ·exact ⟨tZ (Bg (il _) (il _)) f1 (fun _=>f2) (fun _ _=>s1)⟩
 ·exact ⟨tZ (Bg (il _) (il _)) f2 (fun _=>f1) (fun _ _=>s2)⟩
theorem D3 (ns:List Int) (k:Int) (hk:0<=k) {L:List D}{P:D->Prop} (hL:0<L.length) (h:∀ d∈L,P d) (F b:D):∃ d,cR (g2 (rB 4) (eK 3 aU (J.a8 (rS 0) (J.a8 (rS 1) (J.a8 (cA (J.a8 (rB 4) J.al) (jo lv)) J.al)))) bB) [.shr (.list (ns.map .int)),.shr (.int k),.shr F,.shr b,.own (.list L)]=.ok (.rt d)/\P d:=by
 have hm:=dX ns k (L.length:Nat) hk (by omega)
 obtain ⟨d,hd,e⟩:=Fb (L:=L) (dW ns k (L.length:Nat) (by omega)) (eC ns k (L.length:Nat) (by omega))
 refine ⟨d,?_,h d hd⟩
 walk_at "zz"
 rw [hm]
 walk_at "zz"
 rw [e]
 walk_at "zz"
theorem M4 (ns:List Int) (k:Int) (hk:0<=k) (fs:List Str) (es:List rY) (hr:F4 fs 6):∃ d,lI [.list (ns.map .int),.int k,bj fs]=.ok d/\yW fs es d:=by
 suffices H:∃ d,hZ (bF 5 [.list (ns.map .int),.int k,bj fs])=.ok (.rt d)/\yW fs es d by
  obtain ⟨d,h1,h2⟩:=H
  exact ⟨d,c7 h1,h2⟩
 obtain ⟨b,hb1,hb2⟩:=Af ns (k+1) (by omega) fs hr
 have b0:=V_ (es:=es) hr.ok hb2
 unfold hZ bF
 generalize hG:cR _=G
 walk_at "zz"
 rw [hb1]
 walk_at "zz"
 rw [wM fs hr.ok]
 walk_at "zz"
 cases fs with
 |nil =>
  walk_at "zz"
  rw [<- hG]
  exact D3 ns k hk (L:=rZ b) (by simp [rZ]) b0 _ _
 |cons x r =>
  have b1:=W0 (es:=es) hr
  rw [decide_eq_false (by simp)]
  simp only [ir,cond_true]
  rw [LW (ds:=rZ b) (es:=Bh x (x::r))]
  ·walk_at "zz"
   rw [<- hG]
   exact D3 ns k hk (by simp [rZ]) (fun d hd=>(List.mem_append.mp hd).elim (b0 d) (b1 d)) _ _
  ·rfl
  ·walk_at "zz"
   rw [Be]
   walk_at "zz"
   rw [Be]
   walk_at "zz"
   rfl
  ·simp [rZ,Bh]
def PY:Nat->D
 | 0=>.tuple [.str "X",.tuple [],.tuple [],.tuple [],.tuple [],.int 0]
 | 1=>.tuple [.str "x",.tuple [],.tuple [],.tuple [],.tuple []]
 | 2=>.list [.str "x",.tuple [],.tuple [],.tuple [],.tuple [],.int 0]
 | 3=>.none
 | 4=>.tuple [.str "x",.tuple [],.tuple [],.tuple [],.tuple [],.int 10]
 | 5=>.tuple [.str "x",.tuple [],.tuple [],.tuple [],.tuple [],.int (-1)]
 | 6=>.tuple [.str "x",.tuple [],.tuple [],.tuple [],.tuple [],.bool true]
 | 7=>.tuple [.str "x",.list [.str "a"],.tuple [],.tuple [],.tuple [],.int 0]
 | 8=>.tuple [.str "x",.tuple [.str "b",.str "a"],.tuple [],.tuple [],.tuple [],.int 0]
 | 9=>.tuple [.str "x",.tuple [.str "a",.str "a"],.tuple [],.tuple [],.tuple [],.int 0]
 | 10=>.tuple [.str "x",.tuple [.str "a"],.tuple [.str "a"],.tuple [],.tuple [],.int 0]
 | 11=>.tuple [.str "x",.tuple [],.tuple [],.tuple [.str "a"],.tuple [.str "a"],.int 0]
 | 12=>.tuple [.str "x",.tuple [],.tuple [],.tuple [],.none,.int 0]
 | 13=>.tuple [.str "x",.tuple [.str "zz"],.tuple [],.tuple [],.tuple [],.int 0]
 | 14=>.tuple [.str "x",.tuple [],.tuple [],.tuple [],.tuple [],.int 0,.int 0]
 | 15=>.tuple [.str "x",.tuple [],.tuple [.str "a",.int 1],.tuple [],.tuple [],.int 0]
 |_=>.none
def M5 (E:D):Nat->D
 | 0=>.tuple [.tuple [.str "a",.str "b"],.tuple [E]]
 | 1=>.tuple [.tuple [.str "a",.str "b"],.tuple [E]]
 | 2=>.tuple [.tuple [.str "a",.str "b"],.tuple [E]]
 | 3=>.tuple [.tuple [.str "a",.str "b"],.tuple [.tuple [.str "x",.tuple [],.tuple [],.tuple [],.tuple [],.int 0],E]]
 | 4=>.tuple [.tuple [.str "a",.str "b"],.tuple [.tuple [.str "x",.tuple [],.tuple [],.tuple [],.tuple [],.int 0],E]]
 | 5=>.tuple [.tuple [.str "a",.str "b"],.tuple [.tuple [.str "x",.tuple [],.tuple [],.tuple [],.tuple [],.int 0],.tuple [.str "x",.tuple [],.tuple [],.tuple [],.tuple [],.int 0]]]
 | 6=>.tuple [.tuple [.str "a",.str "b"],.tuple [.tuple [.str "p",.tuple [],.tuple [],.tuple [],.tuple [],.int 0],.tuple [.str "q",.tuple [],.tuple [],.tuple [],.tuple [],.int 0],.tuple [.str "r",.tuple [],.tuple [],.tuple [],.tuple [],.int 0],.tuple [.str "s",.tuple [],.tuple [],.tuple [],.tuple [],.int 0],.tuple [.str "t",.tuple [],.tuple [],.tuple [],.tuple [],.int 0],.tuple [.str "u",.tuple [],.tuple [],.tuple [],.tuple [],.int 0],.tuple [.str "v",.tuple [],.tuple [],.tuple [],.tuple [],.int 0]]]
 | 7=>.tuple [.tuple [.str "a",.str "b"],.list [.tuple [.str "x",.tuple [],.tuple [],.tuple [],.tuple [],.int 0]]]
 | 8=>.tuple [.tuple [.str "a",.str "b"]]
 | 9=>.list [.tuple [.str "a",.str "b"],.tuple []]
 | 10=>.none
 | 11=>.tuple [.tuple [.str "b",.str "a"],.tuple []]
 | 12=>.tuple [.tuple [.str "a",.str "a"],.tuple []]
 | 13=>.tuple [.list [.str "a"],.tuple []]
 | 14=>.tuple [.tuple [.str "A"],.tuple []]
 | 15=>.tuple [.tuple [.str "a",.str "b",.str "c",.str "d",.str "e",.str "f",.str "g"],.tuple []]
 | 16=>.tuple [.tuple [.str "a",.str "b"],.tuple [],.tuple []]
 | 17=>.tuple [.tuple [.str ""],.tuple []]
 |_=>.none
theorem sq {a b:ay->R Fl}{ρ ρ':ay}{r:R Fl} (h1:a ρ=.ok (.nx ρ')) (h2:b ρ'=r):aS a b ρ=r:=by
 unfold aS
 rw [h1]
 exact h2
theorem M6 {g:ay->R D}{ρ:ay}{d:D} (h:g (ej ρ)=.ok d):cR g ρ=.ok (.rt d):=by
 unfold cR
 rw [h]
 rfl
theorem mz {ga gb:ay->R D}{h:D->D->R D}{ρ:ay}{x y d:D} (h1:ga ρ=.ok x) (h2:gb ρ=.ok y) (h3:h x y=.ok d):g2 ga gb h ρ=.ok d:=by
 unfold g2
 rw [h1,bind_ok,h2,bind_ok,h3]
theorem j1 {n:Nat}{F:List D->R D}{gs:ay->R (List D)}{ρ:ay}{ds:List D}{r:R D} (h1:gs ρ=.ok ds) (h2:ds.length=n) (h3:F ds=r):eK n F gs ρ=r:=by
 unfold eK
 rw [h1,bind_ok,if_pos h2,h3]
theorem Fc {i:Nat}{g:ay->R D}{ρ:ay}{d:D} (h:g ρ=.ok d):fz i g ρ=.ok (.nx (ρ.set i (.shr d))):=by
 unfold fz
 rw [h]
 rfl
theorem Tw {j:Int} (h0:0<=j) (h1:j<16):∃ i:_root_.Fin 16,j=(i.val:Int):=⟨⟨j.toNat,by omega⟩,(cG h0).symm⟩
theorem Tx {j:Int} (h0:0<=j) (h1:j<18):∃ i:_root_.Fin 18,j=(i.val:Int):=⟨⟨j.toNat,by omega⟩,(cG h0).symm⟩
theorem Fd (ns:List Int) (k:Int) (hk:0<=k) (i:_root_.Fin 16) (hm:en ns k 16=(i.val:Int)):fK [.list (ns.map .int),.int k]=.ok (PY i.val):=by
 have hM:=dX ns k 16 hk (by decide)
 rw [hm] at hM
 generalize ja (ns.map dZ)=L at hM ⊢
 unfold fK
 refine c7 ?_
 unfold ik
 refine sq rfl (sq rfl (sq rfl (sq rfl (sq rfl (sq rfl (M6 (mz rfl (j1 rfl rfl hM) ?_)))))))
 clear hM hm
 match i with
 |⟨0,_⟩=>exact id rfl
 |⟨1,_⟩=>exact id rfl
 |⟨2,_⟩=>exact id rfl
 |⟨3,_⟩=>exact id rfl
 |⟨4,_⟩=>exact id rfl
 |⟨5,_⟩=>exact id rfl
 |⟨6,_⟩=>exact id rfl
 |⟨7,_⟩=>exact id rfl
 |⟨8,_⟩=>exact id rfl
 |⟨9,_⟩=>exact id rfl
 |⟨10,_⟩=>exact id rfl
 |⟨11,_⟩=>exact id rfl
 |⟨12,_⟩=>exact id rfl
 |⟨13,_⟩=>exact id rfl
 |⟨14,_⟩=>exact id rfl
 |⟨15,_⟩=>exact id rfl
 |⟨n+16,h⟩=>omega
def Tz:Nat->Int
 | 0=>0
 | 1=>0
 | 2=>0
 | 3=>1
 | 4=>1
 | 5=>3
 | 6=>4
 | 7=>5
 | 8=>6
 | 9=>7
 | 10=>8
 | 11=>9
 | 12=>10
 | 13=>11
 | 14=>12
 | 15=>13
 | 16=>14
 | 17=>15
 |_=>0
theorem M7 (ns:List Int) (k:Int) (hk:0<=k) (i:_root_.Fin 18) (hm:en ns k 18=(i.val:Int)) (E:D) (hE:fK [.list (ns.map .int),.int (k+1)]=.ok E):hX [.list (ns.map .int),.int k]=.ok (M5 E i.val):=by
 have hM:=dX ns k 18 hk (by decide)
 rw [hm] at hM
 generalize ja (ns.map dZ)=L at hM hE ⊢
 unfold hX
 refine c7 ?_
 unfold js
 refine sq rfl (sq rfl (sq (Fc (j1 rfl rfl hE)) (sq rfl (sq rfl (sq rfl (sq rfl (M6 (mz (y:=.int (Tz i.val)) rfl (mz rfl (j1 rfl rfl hM) ?_) ?_))))))))
 ·clear hM hm hE
  match i with
  |⟨0,_⟩=>exact id rfl
  |⟨1,_⟩=>exact id rfl
  |⟨2,_⟩=>exact id rfl
  |⟨3,_⟩=>exact id rfl
  |⟨4,_⟩=>exact id rfl
  |⟨5,_⟩=>exact id rfl
  |⟨6,_⟩=>exact id rfl
  |⟨7,_⟩=>exact id rfl
  |⟨8,_⟩=>exact id rfl
  |⟨9,_⟩=>exact id rfl
  |⟨10,_⟩=>exact id rfl
  |⟨11,_⟩=>exact id rfl
  |⟨12,_⟩=>exact id rfl
  |⟨13,_⟩=>exact id rfl
  |⟨14,_⟩=>exact id rfl
  |⟨15,_⟩=>exact id rfl
  |⟨16,_⟩=>exact id rfl
  |⟨17,_⟩=>exact id rfl
  |⟨n+18,h⟩=>omega
 ·clear hM hm hE
  match i with
  |⟨0,_⟩=>exact id rfl
  |⟨1,_⟩=>exact id rfl
  |⟨2,_⟩=>exact id rfl
  |⟨3,_⟩=>exact id rfl
  |⟨4,_⟩=>exact id rfl
  |⟨5,_⟩=>exact id rfl
  |⟨6,_⟩=>exact id rfl
  |⟨7,_⟩=>exact id rfl
  |⟨8,_⟩=>exact id rfl
  |⟨9,_⟩=>exact id rfl
  |⟨10,_⟩=>exact id rfl
  |⟨11,_⟩=>exact id rfl
  |⟨12,_⟩=>exact id rfl
  |⟨13,_⟩=>exact id rfl
  |⟨14,_⟩=>exact id rfl
  |⟨15,_⟩=>exact id rfl
  |⟨16,_⟩=>exact id rfl
  |⟨17,_⟩=>exact id rfl
  |⟨n+18,h⟩=>omega
structure Rj (d:D):Prop where
 no:l8 [d]=.ok (.bool false)
theorem Oz:∀ (i:_root_.Fin 18) (j:_root_.Fin 16),Rh (l8 [M5 (PY j.val) i.val])=true:=by decide +kernel
theorem Fe (ns:List Int) (k:Int) (hk:0<=k):∃ d,hX [.list (ns.map .int),.int k]=.ok d/\Rj d:=by
 obtain ⟨i,hi⟩:=Tx (dW ns k 18 (by decide)) (eC ns k 18 (by decide))
 obtain ⟨j,hj⟩:=Tw (dW ns (k+1) 16 (by decide)) (eC ns (k+1) 16 (by decide))
 exact ⟨_,M7 ns k hk i hi _ (Fd ns (k+1) (by omega) j hj),⟨kc (Oz i j)⟩⟩
section
variable {b s w u v:D}{x:Str}
theorem xY {g1 g2:ay->R Fl}{ρ:ay} (h:g1 ρ=.ex x none):aS g1 g2 ρ=.ex x none:=by
 unfold aS
 rw [h]
 rfl
theorem Bj {m:Nat}{F:List D->R D}{gs:ay->R (List D)}{ρ:ay}{ds:List D} (h1:gs ρ=.ok ds) (h2:ds.length=m) (h3:F ds=.ex x none):nE (eK m F gs) ρ=.ex x none:=by
 have:=j1 h1 h2 h3
 unfold nE
 rw [this]
 rfl
theorem Ff (h:Rj b):lc [b]=.ex "NoBook" none:=by
 unfold lc
 refine jO ?_
 unfold nL bF
 walk_at "zz"
 rw [h.no]
 walk_at "zz"
 rw [wO _ _ _ _ rfl (by decide)]
 walk_at "zz"
theorem M8 (h:Rj b):ck [b,s]=.ex "NoBook" none:=jO (xY (Bj rfl rfl (Ff h)))
theorem Fg (h:hW [b,s,w]=.ex x none):jJ [b,s,w]=.ex x none:=jO (xY (Bj rfl rfl h))
theorem Fh (h:hW [b,s,w]=.ex x none):lC [b,s,w]=.ex x none:=jO (xY (Bj rfl rfl h))
end
theorem OA {fs ss:List Str}{es:List rY}{n:D} (g:ph fs es) (h:CY fs ss) (hn:dm [h_ fs es,n]=.ok .none):qi [h_ fs es,bj ss,n]=.ex "NoErrand" none:=by
 unfold qi
 refine jO ?_
 unfold B4 bF
 walk_at "zz"
 rw [xX g h]
 walk_at "zz"
 rw [hn]
 walk_at "zz"
 rw [Tp]
 walk_at "zz"
 rw [wO _ _ _ _ rfl (by decide)]
 rfl
section
variable {b s d:D}{x:Str}
theorem D4:dL [eM b s]=.ok s:=rfl
theorem Rk:rW [eM b s]=.ok (.list []):=rfl
theorem M9:oA [eM b s]=.ok (.int 0):=rfl
theorem OB:jM [eM b s]=.ex "Nothing" none:=rfl
theorem Ma:oC [eM b s]=.ex "Nothing" none:=rfl
theorem xZ {F:List D->R D}{r:ay} (h:F [b,s,d]=.ex x none):eK 3 F (J.a8 (tQ 0 (rS 0)) (J.a8 (kS 1 dL (rS 0) J.al) (J.a8 (rS 1) J.al))) (.shr (eM b s)::.shr d::r)=.ex x none :=
 j1 (ds:=[b,s,d]) rfl rfl h
theorem OC (h:jJ [b,s,d]=.ex x none):lE [eM b s,d]=.ex x none:=by
 refine jO (xY ?_)
 show fz 2 _ [.shr (eM b s),.shr d,.no]=_
 unfold fz
 rw [xZ h]
 rfl
theorem TC (h:lC [b,s,d]=.ex x none):oF [eM b s,d,.bool true]=.ex x none:=by
 refine jO (xY ?_)
 show fz 3 _ [.shr (eM b s),.shr d,.shr (.bool true),.no,.no]=_
 unfold fz
 rw [xZ h]
 rfl
theorem Mb (h:qi [b,s,d]=.ex x none):ig [eM b s,d]=.ex x none:=by
 refine jO (xY ?_)
 show ((eK 3 qi _ [.shr (eM b s),.shr d]).bind _:R Fl)=_
 rw [xZ h]
 rfl
theorem TF (h:qi [b,s,d]=.ex x none):uY [eM b s,d]=.ex x none:=by
 refine jO (xY ?_)
 show ((ig [eM b s,d]).bind _:R Fl)=_
 rw [Mb h]
 rfl
end
theorem w0:IS "NoBook"=some 0:=by decide +kernel
theorem w1:IS "NoState"=some 1:=by decide +kernel
theorem w2:IS "NoWant"=some 2:=by decide +kernel
theorem w3:IS "NoErrand"=some 3:=by decide +kernel
theorem w9:IS "Nothing"=some 9:=by decide +kernel
theorem Ag {wh:Str->Option Nat}{g:ay->R Fl}{ρ:ay}{y:Str}{j:Nat} (h:g ρ=.ex y none) (hw:wh y=some j):J.EY wh g ρ=.ok (.rt (.tuple [.str "refused",.int (j:Nat)])):=by
 unfold J.EY
 rw [h]
 simp only [hw]
theorem GV {t:ay->R Bool}{g h k:ay->R Fl}{ρ:ay}{x:Str} (ht:t ρ=.ok true) (hg:g ρ=.ex x none):aS (dR t g h) k ρ=.ex x none:=by
 unfold aS dR
 rw [ht,bind_ok,if_pos rfl,hg]
 rfl
theorem lK {t:ay->R Bool}{g:ay->R Fl}{ρ:ay} (ht:t ρ=.ok false):dR t g (fun ρ=>.ok (.nx ρ)) ρ=.ok (.nx ρ):=by
 unfold dR
 rw [ht,bind_ok,if_neg aM]
theorem yX {n:Nat}{F:List D->R D}{g:ay->R D}{gs:ay->R (List D)}{ρ:ay}{d:D}{ds:List D}{r:R D} (h1:g ρ=.ok d) (hd:xL d=true) (h2:gs ρ=.ok ds) (hn:ds.length+1=n) (h3:F (d::ds)=r):kS n F g gs ρ=r:=by
 unfold kS
 rw [h1,bind_ok,if_pos hd,h2,bind_ok,if_pos hn,h3]
theorem uZ {g:ay->R D}{ρ:ay}{x:Str} (h:g (ej ρ)=.ex x none):cR g ρ=.ex x none:=by
 unfold cR
 rw [h]
 rfl
theorem TH {F:List D->R D}{gs:ay->R (List D)}{ρ:ay}{b s d:D} (h1:gs ρ=.ok [b,s]) (h2:F [b,s]=.ok d):CT F gs ρ=.ok (eM b s):=by
 unfold CT
 rw [h1,bind_ok]
 simp only [h2,bind_ok]
theorem TJ {F:List D->R D}{gs:ay->R (List D)}{ρ:ay}{b s:D}{x:Str} (h1:gs ρ=.ok [b,s]) (h2:F [b,s]=.ex x none):CT F gs ρ=.ex x none:=by
 unfold CT
 rw [h1,bind_ok]
 simp only [h2,bind_ex]
theorem t_ {g:ay->R D}{ρ:ay}{b:Bool} (h:g ρ=.ok (.bool b)):fF g ρ=.ok b:=by
 unfold fF
 rw [h]
 rfl
theorem Rl {g:ay->R D}{k:D->ay->R ay}{ρ ρ':ay}{d:D} (h1:g ρ=.ok d) (h2:k d ρ=.ok ρ'):wg g k ρ=.ok (.nx ρ'):=by
 unfold wg
 rw [h1,bind_ok]
 simp only [h2]
theorem ke {g:ay->R D}{gs:ay->R (List D)}{ρ:ay}{d:D}{ds:List D} (h1:g ρ=.ok d) (h2:gs ρ=.ok ds):J.a8 g gs ρ=.ok (d::ds):=by
 unfold J.a8
 rw [h1,bind_ok,h2,bind_ok]
theorem Mc {gs:ay->R (List D)}{k:List D->D}{ρ:ay}{ds:List D} (h:gs ρ=.ok ds) (hl:ds.length<=1000):aY gs k ρ=.ok (k ds):=by
 unfold aY
 rw [h,bind_ok,if_pos hl]
theorem Md {t u:ay->R Bool}{ρ:ay} (h1:t ρ=.ok false) (h2:u ρ=.ok false):yS t u ρ=.ok false:=by
 unfold yS
 rw [h1,bind_ok,if_neg aM,h2]
abbrev Ru (j:Nat):D:=.tuple [.str "refused",.int (j:Nat)]
section
variable {b s d:D}
theorem Va (h:jJ [b,s,d]=.ex "NoWant" none):fL [eM b s,.int 0,d]=.ok (Ru 2) :=
 c7 (g:=j4) (Ag (GV rfl (uZ (yX rfl rfl rfl rfl (OC h)))) w2)
theorem Vb (h:lC [b,s,d]=.ex "NoWant" none):fL [eM b s,.int 1,d]=.ok (Ru 2) :=
 c7 (g:=j4) (Ag (sq (lK rfl) (GV rfl (uZ (yX rfl rfl rfl rfl (TC h))))) w2)
theorem Vc (h:qi [b,s,d]=.ex "NoErrand" none):fL [eM b s,.int 2,d]=.ok (Ru 3) :=
 c7 (g:=j4) (Ag (sq (lK rfl) (sq (lK rfl) (GV rfl (uZ (yX rfl rfl rfl rfl (TF h)))))) w3)
theorem Vd:fL [eM b s,.int 3,d]=.ok (Ru 9) :=
 c7 (g:=j4) (Ag (sq (lK rfl) (sq (lK rfl) (sq (lK rfl) (GV rfl (uZ (yX rfl rfl rfl rfl OB)))))) w9)
theorem Ve:fL [eM b s,.int 4,d]=.ok (Ru 9) :=
 c7 (g:=j4) (Ag (sq (lK rfl) (sq (lK rfl) (sq (lK rfl) (sq (lK rfl) (uZ (yX rfl rfl rfl rfl Ma)))))) w9)
theorem Me {x:Str}{j:Nat} (h:ck [b,s]=.ex x none) (hw:IS x=some j):qJ [b,s]=.ok (Ru j) :=
 c7 (g:=qI) (Ag (uZ (TJ rfl h)) hw)
end
theorem OD {b:D}{ss:List Str} (h:("zzzzz" : Str)∉ss):jr [eM b (bj ss),.str "zzzzz"]=.ok .none:=by
 refine c7 (g:=gM) ?_
 have e:yS (jH (fF (rK (rB 1) "str"))) (fF (g2 (rB 1) (kS 1 dL (rS 0) J.al) (DI true))) [.shr (eM b (bj ss)),.shr (.str "zzzzz"),.no]=.ok true:=by
  have e1:jH (fF (rK (rB 1) "str")) [.shr (eM b (bj ss)),.shr (.str "zzzzz"),.no]=.ok false:=rfl
  have e2:fF (g2 (rB 1) (kS 1 dL (rS 0) J.al) (DI true)) [.shr (eM b (bj ss)),.shr (.str "zzzzz"),.no]=.ok true:=t_ (mz rfl (yX rfl rfl rfl rfl D4) (by rw [xQ,decide_eq_false h];rfl))
  unfold yS
  rw [e1,bind_ok,if_neg aM,e2]
 show aS (dR _ _ _) _ [.shr (eM b (bj ss)),.shr (.str "zzzzz"),.no]=_
 unfold aS dR
 rw [e]
 rfl
theorem D5 {xs:List Str} (h:∀ x∈xs,tT x=true) (neg:Bool):lW neg (bj xs) (bj xs)=.ok (.bool (!neg)):=by
 unfold lW
 have h1:(bj xs).canLay0=true:=by simp only [i8];exact xR xs h
 have h2:(bj xs).depth<=60:=by
  have:=Ab aX 0 (fun x=>by simp [PyData.depth]) xs
  simp only [PyData.depth]
  omega
 rw [h1,LQ,decide_eq_true (bT (Nat.min_le_left _ _) h2)]
 cases neg<;>rfl
theorem law_true (ns:List Int):F_law [.list (ns.map .int)]=.ok (.bool true):=by
 obtain ⟨fs,es,ss,wm,wb,hc,gb,gs,gw⟩:=Ow ns 5 4 (by decide) (by decide) (by decide) (by decide)
 obtain ⟨b0,p0,q0⟩:=Fe ns 6 (by decide)
 obtain ⟨b1,p1,q1⟩:=Af ns 10 (by decide) fs gb.rise
 obtain ⟨b2,p2,q2⟩:=M4 ns 0 (by decide) fs es gb.rise
 obtain ⟨d,hd,hx⟩:=Fb (L:=[.none,.str "zzzzz",.int 0,.list [.str "a"]]) (j:=en ns 5 4) (dW ns 5 4 (by decide)) (eC ns 5 4 (by decide))
 have aw:=Ri gb gs q2
 have cd:dm [h_ fs es,d]=.ok .none:=by
  simp only [aV,aN,or_false] at hd
  rcases hd with rfl|rfl|rfl|rfl
  ·exact xU rfl rfl
  ·exact LU gb
  ·exact xU rfl rfl
  ·exact xU rfl rfl
 have nz:("zzzzz" : Str)∉ss:=fun z=>Fa (gb.rise.ok _ (gs.mem _ z)) rfl
 have hm:aU [.list (ns.map .int),.int 5,.int 4]=.ok (.int (en ns 5 4)):=dX ns 5 4 (by decide) (by decide)
 refine c7 (g:=GI) ?_
 refine sq (ρ':=[.shr (.list (ns.map .int)),.shr (h_ fs es),.shr (bj ss),.shr (Ii wm wb),.no,.no]) ?_ (sq (ρ':=[.shr (.list (ns.map .int)),.shr (h_ fs es),.shr (bj ss),.shr (Ii wm wb),.shr (eM (h_ fs es) (bj ss)),.no]) (Fc (TH rfl (xX gb gs)))
  (sq (ρ':=[.shr (.list (ns.map .int)),.shr (h_ fs es),.shr (bj ss),.shr (Ii wm wb),.shr (eM (h_ fs es) (bj ss)),.shr b2]) (Fc (j1 rfl rfl p2))
  (sq (lK (t_ (mz (Mc (ke (j1 rfl rfl (Va (Fg aw))) (ke (j1 rfl rfl (Vb (Fh aw))) rfl)) (by decide)) rfl (kc (by decide +kernel)))))
  (sq (lK (t_ (mz (j1 (ke rfl (ke rfl (ke (mz rfl (j1 rfl rfl hm) hx) rfl))) rfl (Vc (OA gb gs cd))) rfl (kc (by decide +kernel)))))
  (sq (lK (t_ (mz (Mc (ke (j1 rfl rfl Vd) (ke (j1 rfl rfl Ve) rfl)) (by decide)) rfl (kc (by decide +kernel)))))
  (sq (lK (Md (t_ (mz (yX rfl rfl rfl rfl D4) rfl ?_)) (Md (t_ (mz (yX rfl rfl rfl rfl Rk) rfl (kc (by decide +kernel)))) (Md (t_ (mz (yX rfl rfl rfl rfl M9) rfl (kc (by decide +kernel)))) (t_ (mz (yX rfl rfl rfl rfl (OD nz)) rfl rfl))))))
  (sq (lK (t_ (mz (j1 (ke (j1 rfl rfl p0) rfl) rfl (Me (M8 q0) w0)) rfl (kc (by decide +kernel)))))
  (M6 (mz (j1 (ke rfl (ke (j1 rfl rfl p1) rfl)) rfl (Me (L_ gb q1) w1)) rfl (GS (by decide +kernel)))))))))))
 ·exact Rl (j1 rfl rfl hc) rfl
 ·exact D5 (fun x hx=>gb.rise.ok x (gs.mem x hx)) true
end Z
end
namespace Z
open PySem L2 J
section
def le (i:Nat):c8:=PySem.Challenge.pw_errands_k34_desk_refused.main.body.getD i (.Pass ⟨0,0,0,0⟩)
section
variable {e:En}
abbrev ql:c8:=le 65
def BP:List Str:=["NoBook","NoState","NoWant","NoErrand","NoRow","NoWay","NoPaper","NoFacts","NoNumber","Nothing","NoText"]
theorem u0:b6 ["_law_e","_law_own"] ["_law_e"] (ap ql):=cK (by decide +kernel)
theorem yY {f:ac}{fd:cP} (F:yy e.K "_law_which" "_law_which" ql f fd) (B:Bi e.mg) (mv:e.mg "ValueError"=none) (mc:∀ n∈BP,e.mg n=some (.ref (e.cls n))):Cj e.P e.w e.K e.mg e.base 1 f fd ["_law_e"] (QT e.K e.base e.cls BP):=by
 refine F.okH u0 (fun vs H Q E h=>?_) (fun cdv A outer s H vs Q E hr h=>?_)
 ·obtain ⟨_,_,_,rfl,_⟩:=h;rfl
 obtain ⟨ea,C,j,rfl,hH,x,q⟩:=h
 refine ⟨_,fG (AA (i:=1) u0.nd rfl (i5 rfl) (jj (bO (lA (names:=BP) (cls:=e.cls) (base:=e.base) (pv 0) rfl B.isinstance rfl (mc "NoBook" (by decide +kernel))) (bO (lA (names:=BP) (cls:=e.cls) (base:=e.base) (pv 0) rfl B.isinstance rfl (mc "NoState" (by decide +kernel))) (bO (lA (names:=BP) (cls:=e.cls) (base:=e.base) (pv 0) rfl B.isinstance rfl (mc "NoWant" (by decide +kernel))) (bO (lA (names:=BP) (cls:=e.cls) (base:=e.base) (pv 0) rfl B.isinstance rfl (mc "NoErrand" (by decide +kernel))) dG))))))
  (fG (m7 (vF cJ mL mM zL (pv 1) (bO (jj (bO (lA (names:=BP) (cls:=e.cls) (base:=e.base) (pv 0) rfl B.isinstance rfl (mc "NoRow" (by decide +kernel))) (bO (lA (names:=BP) (cls:=e.cls) (base:=e.base) (pv 0) rfl B.isinstance rfl (mc "NoWay" (by decide +kernel))) (bO (lA (names:=BP) (cls:=e.cls) (base:=e.base) (pv 0) rfl B.isinstance rfl (mc "NoPaper" (by decide +kernel))) (bO (lA (names:=BP) (cls:=e.cls) (base:=e.base) (pv 0) rfl B.isinstance rfl (mc "NoFacts" (by decide +kernel))) dG))))) dG)))
  (fG (m7 (vF cJ mL mM zL (pv 1) (bO (jj (bO (lA (names:=BP) (cls:=e.cls) (base:=e.base) (pv 0) rfl B.isinstance rfl (mc "NoNumber" (by decide +kernel))) (bO (lA (names:=BP) (cls:=e.cls) (base:=e.base) (pv 0) rfl B.isinstance rfl (mc "Nothing" (by decide +kernel))) (bO (lA (names:=BP) (cls:=e.cls) (base:=e.base) (pv 0) rfl B.isinstance rfl (mc "NoText" (by decide +kernel))) dG)))) dG)))
  (fG (OL (PW.pt (OJ (G0 RI (vF cJ zA PySem.F.type_list_count HK (pv 1) (bO J5 dG)) Ay (Eb _)) (J9 (Ja (J8 (NZ (names:=BP) (cls:=e.cls) (base:=e.base) (pv 0) rfl B.isinstance rfl mv)))))) nq F_)
  (wC (E7 (Jq (bO J6 (bO (vF cJ zB PySem.F.type_list_index HL (pv 1) (bO J5 dG)) dG)))))))),?_⟩
 refine ⟨ea,C,j,0,rfl,hH,x,rfl,ea,C,j,1,rfl,hH,x,rfl,ea,C,j,2,rfl,hH,x,rfl,ea,C,j,3,rfl,hH,x,rfl,bi (bU (show 4<=1000 by decide)),fun p hp=>?_⟩
 have np:ea≠p:=aE hH hp
 have hH1:∀ o,upd H p o ea=some (xo ea C):=fun o=>by rw [av np];exact hH
 refine ⟨_,rfl,.inl ⟨rfl,_,.of aB⟩,?_⟩
 refine ⟨ea,C,j,4,rfl,hH1 _,x,rfl,ea,C,j,5,rfl,hH1 _,x,rfl,ea,C,j,6,rfl,hH1 _,x,rfl,ea,C,j,7,rfl,hH1 _,x,rfl,bi (bU (show 4<=1000 by decide)),fun p2 hp2=>?_⟩
 have np2:p≠p2:=aE aB hp2
 have ne2:ea≠p2:=aE (hH1 _) hp2
 refine ⟨p,p2,([decide (0=j),decide (1=j),decide (2=j),decide (3=j)].map V.bl),_,rfl,rfl,by rw [av np2];exact aB,aB,bi (bU (show 8<=1000 by decide)),?_⟩
 have hH2:∀ o u,upd (upd (upd H p o) p2 u) p (.lst (([decide (0=j),decide (1=j),decide (2=j),decide (3=j)]++[decide (4=j),decide (5=j),decide (6=j),decide (7=j)]).map V.bl)) ea=some (xo ea C):=fun o u=>by rw [av np,av ne2];exact hH1 _
 refine ⟨_,rfl,.inl ⟨rfl,_,.of aB⟩,?_⟩
 refine ⟨ea,C,j,8,rfl,hH2 _ _,x,rfl,ea,C,j,9,rfl,hH2 _ _,x,rfl,ea,C,j,10,rfl,hH2 _ _,x,rfl,bi (bU (show 3<=1000 by decide)),fun p3 hp3=>?_⟩
 have np3:p≠p3:=aE aB hp3
 have ne3:ea≠p3:=aE (hH2 _ _) hp3
 refine ⟨p,p3,(([decide (0=j),decide (1=j),decide (2=j),decide (3=j)]++[decide (4=j),decide (5=j),decide (6=j),decide (7=j)]).map V.bl),_,rfl,rfl,by rw [av np3];exact aB,aB,bi (bU (show 11<=1000 by decide)),?_⟩
 refine ⟨_,rfl,.inl ⟨rfl,_,.of aB⟩,p,wk j,rfl,rfl,.of aB,?_⟩
 rw [EX j x.lt]
 refine ⟨rfl,_,rfl,AG ⟨ea,C,j,rfl,?_,x,_,rfl,AG ?_⟩⟩
 ·rw [av np,av ne3];exact hH2 _ _
 obtain ⟨b1,b2⟩:=NY j x.lt
 refine ⟨_,rfl,.inl ⟨rfl,_,.of aB⟩,p,wk j,j,rfl,rfl,.of aB,b1,b2,bi (aF x.lt (by decide)),bi (bU (show 2<=1000 by decide)),fun t ht=>?_⟩
 have s1:df H _:=iH (o:=.lst ([decide (0=j),decide (1=j),decide (2=j),decide (3=j)].map V.bl)) hp
 have hpn:∀ b o,H b=some o->b≠p:=fun b o e=>aE e hp
 have hp2n:∀ b o,H b=some o->b≠p2:=fun b o e=>aE (s1 b o e) hp2
 have hp3n:∀ b o,H b=some o->b≠p3:=fun b o e=>aE (by rw [av (hpn b o e),av (hp2n b o e)];exact s1 b o e) hp3
 have old:∀ b o,H b=some o->b≠t:=fun b o e=>aE (by rw [av (hpn b o e),av (hp3n b o e),av (hpn b o e),av (hp2n b o e)];exact s1 b o e) ht
 refine q t _ (fun b o e=>?_) ?_ aB
 ·rw [av (old b o e),av (hpn b o e),av (hp3n b o e),av (hpn b o e),av (hp2n b o e)];exact s1 b o e
 ·cases z:H t with
  |none=>rfl
  |some o=>exact (old t o z rfl).elim
abbrev kY:c8:=le 18
abbrev u3:List Str:=["one","other"]
theorem yZ:b6 u3 ["one","other"] (ap kY):=cK (by decide +kernel)
abbrev kZ (e:En):=FN e "share_none" 1 2 dk
theorem y_ (D:gO e.K e.mg "share_none" kY) (B:Bi e.mg):kZ e:=qg (k:=0) (g:=jq) D yZ b2 fun _ _ _ _ _ _ _ hr=>by unfold jq;exact (aH (bA (QI (cp (QM rfl) rfl B.any PyProof.Rows.boot_any (bE (JE.bor (JN.je (iO (N':=["fact","other"]) (ix:=[1]) 1 (by decide) rfl (dw (so:=ap kY) (N:=u3) (by decide +kernel)) (iW (ai 0)) (fun cl A0 s0 H0 ex pn=>⟨eu (i:=0) (by show (["fact","other"] : List Str).Nodup;decide +kernel) rfl (.inl rfl),gK,(uN (Kr) (ai 0) (ai 1))⟩)))) b_)))))
abbrev qN:c8:=le 21
abbrev Ah:List Str:=["thing"]
theorem Fi:b6 Ah ["thing"] (ap qN):=cK (by decide +kernel)
abbrev u_ (e:En):=FN e "is_word" 1 1 eO
theorem Fj (D:gO e.K e.mg "is_word" qN) (B:Bi e.mg) (lL:Cn e.mg "MOST_LETTERS" 6):u_ e:=qg (k:=0) (g:=nK) D Fi b1 fun _ _ _ _ _ _ _ hr=>by unfold nK;exact (au (dB (JW.t (ma (fe (fv (mS (ai 0) rfl B.isinstance rfl B.str n8 (by decide)))) (kE (fe (KA (zV) (zV) (JE.bor ak) (JE.bor (cp iA rfl B.len bR (bE (ai 0) b_))) (JE.bor (tJ rfl lL))))))) (aH (bA jn)) bP) (aH (bA (cp (rL rfl) rfl B.all dO (bE (JE.bor (JN.je (iO (N':=["sign"]) (ix:=[]) 1 (by decide) rfl (dw (so:=ap qN) (N:=Ah) (by decide +kernel)) (iW (ai 0)) (fun cl A0 s0 H0 ex pn=>⟨eu (i:=0) (by show (["sign"] : List Str).Nodup;decide +kernel) rfl (.inl rfl),gK,(CC (zV) (zV) (JE.bor bI) (ai 0) (JE.bor bI))⟩)))) b_)))))
abbrev eU:c8:=le 22
abbrev iY:List Str:=["thing"]
theorem qW:b6 iY ["thing"] (ap eU):=cK (by decide +kernel)
abbrev iZ (e:En):=FN e "are_rising_words" 2 1 c6
theorem qX (D:gO e.K e.mg "are_rising_words" eU) (B:Bi e.mg) (lf:u_ e):iZ e:=qg (k:=1) (g:=dq) D qW b1 fun _ _ _ _ _ _ _ hr=>by unfold dq;exact (au (dB (JW.t (ma (fe (fv (mS (ai 0) rfl B.isinstance rfl B.tuple bg (by decide)))) (kE (fe (fv (cp (rL rfl) rfl B.all dO (bE (JE.bor (JN.je (iO (N':=["word"]) (ix:=[]) 1 (by decide) rfl (dw (so:=ap eU) (N:=iY) (by decide +kernel)) (iW (ai 0)) (fun cl A0 s0 H0 ex pn=>⟨eu (i:=0) (by show (["word"] : List Str).Nodup;decide +kernel) rfl (.inl rfl),gK,(jc lf hr hV (a5 (af 0) ah))⟩)))) b_))))))) (aH (bA jn)) bP) (aH (bA (cp (rL rfl) rfl B.all dO (bE (JE.bor (JN.je (iO (N':=["low","high"]) (ix:=[]) 2 (by decide) rfl (dw (so:=ap eU) (N:=iY) (by decide +kernel)) (Kw.i (NS rfl B.zip (a5 (af 0) (a5 (bV (ai 0) (cE ak) cD) ah)))) (fun cl A0 s0 H0 ex pn=>⟨E8 rfl (pU (eu (i:=0) (by show (["low","high"] : List Str).Nodup;decide +kernel) rfl (.inl rfl)) (pU (eu (i:=1) (by show (["low","high"] : List Str).Nodup;decide +kernel) rfl (.inl rfl)) Az)),gK,(uN (zU) (ai 0) (ai 1))⟩)))) b_)))))
abbrev mB:c8:=le 23
abbrev vN:List Str:=["book_facts","thing"]
theorem Bk:b6 vN ["book_facts","thing"] (ap mB):=cK (by decide +kernel)
abbrev mC (e:En):=FN e "are_facts" 3 2 cq
theorem Bl (D:gO e.K e.mg "are_facts" mB) (B:Bi e.mg) (dY:iZ e):mC e:=qg (k:=2) (g:=j3) D Bk b2 fun _ _ _ _ _ _ _ hr=>by unfold j3;exact (aH (bA (xw (jc dY hr px (a5 (af 1) ah)) (AX (cp (rL rfl) rfl B.all dO (bE (JE.bor (JN.je (iO (N':=["fact","book_facts"]) (ix:=[0]) 1 (by decide) rfl (dw (so:=ap mB) (N:=vN) (by decide +kernel)) (iW (ai 1)) (fun cl A0 s0 H0 ex pn=>⟨eu (i:=0) (by show (["fact","book_facts"] : List Str).Nodup;decide +kernel) rfl (.inl rfl),gK,(uN (Kr) (ai 0) (ai 1))⟩)))) b_))))))
abbrev r_:c8:=le 24
abbrev Fk:List Str:=["thing","least","most"]
theorem D6:b6 Fk ["thing","least","most"] (ap r_):=cK (by decide +kernel)
abbrev x_ (e:En):=FN e "is_whole" 1 3 ou
theorem D7 (D:gO e.K e.mg "is_whole" r_) (B:Bi e.mg):x_ e:=qg (k:=0) (g:=oq) D D6 b3 fun _ _ _ _ _ _ _ hr=>by unfold oq;exact (au (dB (JW.t (ma (fe (fv (mS (ai 0) rfl B.isinstance rfl B.int PyProof.Rows.boot_int (by decide)))) (kE (fv (mS (ai 0) rfl B.isinstance rfl B.bool PyProof.Rows.boot_bool (by decide)))))) (aH (bA jn)) bP) (aH (bA (CC (zV) (zV) (ai 1) (ai 0) (ai 2)))))
abbrev mD:c8:=le 25
abbrev vO:List Str:=["book_facts","thing","name","needs","bars","makes","ends","price"]
theorem fY:b6 vO ["book_facts","thing"] (ap mD):=cK (by decide +kernel)
abbrev vP (e:En):=FN e "is_errand" 4 2 ml
theorem Bo (D:gO e.K e.mg "is_errand" mD) (B:Bi e.mg) (lf:u_ e) (s9:x_ e) (eN:mC e) (ef:kZ e) (oQ:Cn e.mg "MOST_PRICE" 9):vP e:=qg (k:=3) (g:=mj) D fY b2 fun _ _ _ _ _ _ _ hr=>by have hu64:=hr.units;unfold mj;exact (au (dB (JW.t (ma (fe (fv (mS (ai 1) rfl B.isinstance rfl B.tuple bg (by decide)))) (kE (cH (md hu64) (JE.bor (cp iA rfl B.len bR (bE (ai 1) b_))) (JE.bor ak))))) (aH (bA jn)) bP) (au (xy (af 1) (rN rfl (dJ (dH 2 fY.nd) (dJ (dH 3 fY.nd) (dJ (dH 4 fY.nd) (dJ (dH 5 fY.nd) (dJ (dH 6 fY.nd) (dJ (dH 7 fY.nd) om)))))))) (au (dB (JW.t (ma (fe (fv (jc lf hr px (a5 (af 2) ah)))) (kE (fe (fv (jc s9 hr px (a5 (af 7) (a5 ak (a5 (tJ rfl oQ) ah))))))))) (aH (bA jn)) bP) (au (dB (fe (fv (cp (rL rfl) rfl B.all dO (bE (JE.bor (JN.je (iO (N':=["facts","book_facts"]) (ix:=[0]) 1 (by decide) rfl (dw (so:=ap mD) (N:=vO) (by decide +kernel)) (iW (JE.bor (aI (a5 (af 3) (a5 (af 4) (a5 (af 5) (a5 (af 6) ah))))))) (fun cl A0 s0 H0 ex pn=>⟨eu (i:=0) (by show (["facts","book_facts"] : List Str).Nodup;decide +kernel) rfl (.inl rfl),gK,(jc eN hr hV (a5 (af 1) (a5 (af 0) ah)))⟩)))) b_)))) (aH (bA jn)) bP) (aH (bA (xw (jc ef hr px (a5 (af 3) (a5 (af 4) ah))) (AX (jc ef hr px (a5 (af 5) (a5 (af 6) ah)))))))))))
abbrev nM:c8:=le 26
abbrev v3:List Str:=["thing","facts","errands"]
theorem sd:b6 v3 ["thing"] (ap nM):=cK (by decide +kernel)
abbrev Ai (e:En):=FN e "is_book" 5 1 l8
theorem Fm (D:gO e.K e.mg "is_book" nM) (B:Bi e.mg) (dY:iZ e) (qm:vP e) (oR:Cn e.mg "MOST_FACTS" 6) (lM:Cn e.mg "MOST_ERRANDS" 6):Ai e:=qg (k:=4) (g:=qH) D sd b1 fun _ _ _ _ _ _ _ hr=>by have hu1:=jl hr;have hu64:=hr.units;unfold qH;exact (au (dB (JW.t (ma (fe (fv (mS (ai 0) rfl B.isinstance rfl B.tuple bg (by decide)))) (kE (cH (md hu64) (JE.bor (cp iA rfl B.len bR (bE (ai 0) b_))) (JE.bor ak))))) (aH (bA jn)) bP) (au (xy (af 0) (rN rfl (dJ (dH 1 sd.nd) (dJ (dH 2 sd.nd) om)))) (au (dB (JW.t (ma (fe (fv (jc dY hr px (a5 (af 1) ah)))) (kE (cH (Ko) (JE.bor (cp iA rfl B.len bR (bE (ai 1) b_))) (JE.bor (tJ rfl oR)))))) (aH (bA jn)) bP) (au (dB (JW.t (ma (fe (fv (mS (ai 2) rfl B.isinstance rfl B.tuple bg (by decide)))) (kE (cH (Ko) (JE.bor (cp iA rfl B.len bR (bE (ai 2) b_))) (JE.bor (tJ rfl lM)))))) (aH (bA jn)) bP) (au (dB (fe (fv (cp (rL rfl) rfl B.all dO (bE (JE.bor (JN.je (iO (N':=["errand","facts"]) (ix:=[1]) 1 (by decide) rfl (dw (so:=ap nM) (N:=v3) (by decide +kernel)) (iW (ai 2)) (fun cl A0 s0 H0 ex pn=>⟨eu (i:=0) (by show (["errand","facts"] : List Str).Nodup;decide +kernel) rfl (.inl rfl),gK,(jc qm hr hV (a5 (af 1) (a5 (af 0) ah)))⟩)))) b_)))) (aH (bA jn)) bP) (aH (bA (uN (pd hu64) (JE.bor (HV (KC (N':=["errand"]) (ix:=[]) 1 (by decide) rfl (dw (so:=ap nM) (N:=v3) (by decide +kernel)) (iW (ai 2)) (fun cl A0 s0 H0 ex pn=>⟨eu (i:=0) (by show (["errand"] : List Str).Nodup;decide +kernel) rfl (.inl rfl),gK,(cm hu1 (ai 0) (JE.bor ak))⟩)) rfl B.len)) (JE.bor (cp iA rfl B.len bR (bE (ai 2) b_)))))))))))
abbrev v4:c8:=le 27
abbrev Io:List Str:=["book","thing","must","bars"]
theorem se:b6 Io ["book","thing"] (ap v4):=cK (by decide +kernel)
abbrev Aj (e:En):=FN e "is_want" 4 2 jI
theorem Fo (D:gO e.K e.mg "is_want" v4) (B:Bi e.mg) (eN:mC e) (ef:kZ e):Aj e:=qg (k:=3) (g:=l9) D se b2 fun _ _ _ _ _ _ _ hr=>by have hu1:=jl hr;have hu64:=hr.units;unfold l9;exact (au (dB (JW.t (ma (fe (fv (mS (ai 1) rfl B.isinstance rfl B.tuple bg (by decide)))) (kE (cH (md hu64) (JE.bor (cp iA rfl B.len bR (bE (ai 1) b_))) (JE.bor ak))))) (aH (bA jn)) bP) (au (xy (af 1) (rN rfl (dJ (dH 2 se.nd) (dJ (dH 3 se.nd) om)))) (aH (bA (xw (jc eN hr px (a5 (cm hu1 (ai 0) (JE.bor ak)) (a5 (af 2) ah))) (xw (jc eN hr px (a5 (cm hu1 (ai 0) (JE.bor ak)) (a5 (af 3) ah))) (AX (jc ef hr px (a5 (af 2) (a5 (af 3) ah))))))))))
abbrev mV:c8:=le 28
abbrev z0:List Str:=["book","state"]
theorem y0:b6 z0 ["book","state"] (ap mV):=cK (by decide +kernel)
abbrev rg (e:En):=FN e "check_state" 4 2 gC
theorem y4 (D:gO e.K e.mg "check_state" mV) (eN:mC e) (v5:ER e "NoState"):rg e:=qg (k:=3) (g:=iK) D y0 b2 fun _ _ _ _ _ _ _ hr=>by have hu1:=jl hr;unfold iK;exact (aH (dB (fe (fv (jc eN hr px (a5 (cm hu1 (ai 0) (JE.bor ak)) (a5 (af 1) ah))))) (aH (nJ v5 rfl (a5 bI ah))) bP))
abbrev oS:c8:=le 29
abbrev Bp:List Str:=["book","want"]
theorem z9:b6 Bp ["book","want"] (ap oS):=cK (by decide +kernel)
abbrev u4 (e:En):=FN e "check_want" 5 2 kW
theorem zb (D:gO e.K e.mg "check_want" oS) (v6:Aj e) (y6:ER e "NoWant"):u4 e:=qg (k:=4) (g:=kU) D z9 b2 fun _ _ _ _ _ _ _ hr=>by unfold kU;exact (aH (dB (fe (fv (jc v6 hr px (a5 (af 0) (a5 (af 1) ah))))) (aH (nJ y6 rfl (a5 bI ah))) bP))
abbrev kF:c8:=le 30
abbrev wl:List Str:=["book","name","errand"]
theorem nN:b6 wl ["book","name"] (ap kF):=cK (by decide +kernel)
abbrev kG (e:En):=FN e "errand_called" 1 2 dm
theorem v7 (D:gO e.K e.mg "errand_called" kF) (B:Bi e.mg):kG e:=qg (k:=0) (g:=gj) D nN b2 fun _ _ _ _ _ _ _ hr=>by have hu1:=jl hr;have hu64:=hr.units;unfold gj;exact (au (dB (fe (fv (mS (ai 1) rfl B.isinstance rfl B.str n8 (by decide)))) (aH (bA iz)) bP) (au (uQ rfl (NQ (cm hu1 (ai 0) (JE.bor ak))) (dH 2 nN.nd) (aH (dB (cH (pd hu64) (JE.bor (cm hu1 (ai 2) (JE.bor ak))) (ai 1)) (aH (bA (af 2))) bP))) (aH (bA iz))))
abbrev qO:c8:=le 31
abbrev Ak:List Str:=["state","want","must","bars"]
theorem sf:b6 Ak ["state","want"] (ap qO):=cK (by decide +kernel)
abbrev Al (e:En):=FN e "fulfils" 2 2 A6
theorem Fp (D:gO e.K e.mg "fulfils" qO) (B:Bi e.mg) (ef:kZ e):Al e:=qg (k:=1) (g:=uW) D sf b2 fun _ _ _ _ _ _ _ hr=>by unfold uW;exact (au (xy (af 1) (rN rfl (dJ (dH 2 sf.nd) (dJ (dH 3 sf.nd) om)))) (aH (bA (xw (cp (rL rfl) rfl B.all dO (bE (JE.bor (JN.je (iO (N':=["fact","state"]) (ix:=[0]) 1 (by decide) rfl (dw (so:=ap qO) (N:=Ak) (by decide +kernel)) (iW (ai 2)) (fun cl A0 s0 H0 ex pn=>⟨eu (i:=0) (by show (["fact","state"] : List Str).Nodup;decide +kernel) rfl (.inl rfl),gK,(uN (Kr) (ai 0) (ai 1))⟩)))) b_)) (AX (jc ef hr px (a5 (af 3) (a5 (af 0) ah))))))))
abbrev qo:c8:=le 32
abbrev D8:List Str:=["errand","state"]
theorem Br:b6 D8 ["errand","state"] (ap qo):=cK (by decide +kernel)
abbrev vQ (e:En):=FN e "is_doable" 3 2 vL
theorem Bs (D:gO e.K e.mg "is_doable" qo) (v8:Al e):vQ e:=qg (k:=2) (g:=qh) D Br b2 fun _ _ _ _ _ _ _ hr=>by have hu1:=jl hr;unfold qh;exact (aH (bA (jc v8 hr px (a5 (af 1) (a5 (aI (a5 (cm hu1 (ai 0) (JE.bor ak)) (a5 (cm hu1 (ai 0) (JE.bor ak)) ah))) ah)))))
abbrev v9:c8:=le 34
abbrev Ip:List Str:=["book"]
theorem Fq:b6 Ip ["book"] (ap v9):=cK (by decide +kernel)
abbrev Am (e:En):=FN e "checked" 6 1 lc
theorem Ft (D:gO e.K e.mg "checked" v9) (vc:Ai e) (y7:ER e "NoBook"):Am e:=qg (k:=5) (g:=nL) D Fq b1 fun _ _ _ _ _ _ _ hr=>by unfold nL;exact (au (dB (fe (fv (jc vc hr px (a5 (af 0) ah)))) (aH (nJ y7 rfl (a5 bI ah))) bP) (aH (bA (af 0))))
abbrev mW:c8:=le 35
abbrev zc:List Str:=["book","state"]
theorem y8:b6 zc ["book","state"] (ap mW):=cK (by decide +kernel)
abbrev kf (e:En):=FN e "check_place" 7 2 ck
theorem y9 (D:gO e.K e.mg "check_place" mW) (vd:Am e) (mX:rg e):kf e:=qg (k:=6) (g:=iL) D y8 b2 fun _ _ _ _ _ _ _ hr=>by unfold iL;exact (au (mh (jc vd hr px (a5 (af 0) ah))) (aH (mh (jc mX hr px (a5 (af 0) (a5 (af 1) ah))))))
abbrev qp:c8:=le 36
abbrev D9:List Str:=["book","state","want"]
theorem Bt:b6 D9 ["book","state","want"] (ap qp):=cK (by decide +kernel)
abbrev qq (e:En):=FN e "check_aim" 8 3 hW
theorem Bu (D:gO e.K e.mg "check_aim" qp) (eg:kf e) (oT:u4 e):qq e:=qg (k:=7) (g:=mn) D Bt b3 fun _ _ _ _ _ _ _ hr=>by unfold mn;exact (au (mh (jc eg hr px (a5 (af 0) (a5 (af 1) ah)))) (aH (mh (jc oT hr px (a5 (af 0) (a5 (af 2) ah))))))
abbrev Fv:c8:=le 37
abbrev Rm:List Str:=["book","state","name","errand"]
theorem GW:b6 Rm ["book","state","name"] (ap Fv):=cK (by decide +kernel)
abbrev Mf (e:En):=FN e "done" 8 3 qi
theorem OE (D:gO e.K e.mg "done" Fv) (eg:kf e) (fi:kG e) (qr:vQ e) (sg:ER e "NoErrand"):Mf e:=qg (k:=7) (g:=B4) D GW b3 fun _ _ _ _ _ _ _ hr=>by unfold B4;exact (au (mh (jc eg hr px (a5 (af 0) (a5 (af 1) ah)))) (au (dS 3 (jc fi hr px (a5 (af 0) (a5 (af 2) ah))) GW.nd) (au (dB (JW.t (ma (cH (Sj) (ai 3) (JE.bor iz)) (kE (fe (fv (jc qr hr px (a5 (af 3) (a5 (af 1) ah)))))))) (aH (nJ sg rfl (a5 bI ah))) bP) gz)))
abbrev si:c8:=le 42
abbrev Fx:List Str:=["book","state","want","rows","goals"]
theorem Da:b6 Fx ["book","state","want"] (ap si):=cK (by decide +kernel)
abbrev sj (e:En):=FN e "shortest" 9 3 jJ
theorem Db (D:gO e.K e.mg "shortest" si) (j6:qq e):sj e:=qg (k:=8) (g:=rR) D Da b3 fun _ _ _ _ _ _ _ hr=>by unfold rR;exact (au (mh (jc j6 hr px (a5 (af 0) (a5 (af 1) (a5 (af 2) ah))))) gz)
abbrev sk:c8:=le 47
abbrev Fy:List Str:=["book","state","want","ways"]
theorem Dc:b6 Fy ["book","state","want"] (ap sk):=cK (by decide +kernel)
abbrev yb (e:En):=FN e "cheapest" 9 3 lC
theorem Dd (D:gO e.K e.mg "cheapest" sk) (j6:qq e):yb e:=qg (k:=8) (g:=rT) D Dc b3 fun _ _ _ _ _ _ _ hr=>by unfold rT;exact (au (mh (jc j6 hr px (a5 (af 0) (a5 (af 1) (a5 (af 2) ah))))) gz)
abbrev oU:c8:=jk (le 49) 1
abbrev Bv:List Str:=["self"]
theorem zd:b6 Bv ["self"] (ap oU):=cK (by decide +kernel)
abbrev im (e:En) (C:ac):=FM e C "state" 1 1 dL
theorem ze {C:ac} (D:DM e.K C "state" "Desk.state" oU) (TD:DkC e.K C):im e C:=Mw (k:=0) (g:=oy) D zd m1 fun _ _ _ _ _ _ _ hr=>by have hu1:=jl hr;unfold oy;exact (aH (bA (cm hu1 (JE.bor (lB 1 TD (af 0))) (JE.bor (KB ak)))))
abbrev sr:c8:=jk (le 49) 2
abbrev Fz:List Str:=["self"]
theorem De:b6 Fz ["self"] (ap sr):=cK (by decide +kernel)
abbrev yc (e:En) (C:ac):=FM e C "row" 1 1 rW
theorem Df {C:ac} (D:DM e.K C "row" "Desk.row" sr) (B:Bi e.mg) (TD:DkC e.K C):yc e C:=Mw (k:=0) (g:=rV) D De m1 fun _ _ _ _ _ _ _ hr=>by unfold rV;exact (aH (bA (eB (qd rfl) rfl B.list fE (bE (JE.bor (lB 2 TD (af 0))) b_))))
abbrev k_:c8:=jk (le 49) 3
abbrev u5:List Str:=["self"]
theorem zf:b6 u5 ["self"] (ap k_):=cK (by decide +kernel)
abbrev u6 (e:En) (C:ac):=FM e C "spent" 2 1 oA
theorem zg {C:ac} (D:DM e.K C "spent" "Desk.spent" k_) (B:Bi e.mg) (TD:DkC e.K C) (fi:kG e):u6 e C:=Mw (k:=1) (g:=oz) D zf m1 fun _ _ _ _ _ _ _ hr=>by have hu1:=jl hr;unfold oz;exact (aH (bA (cp (R7 rfl) rfl B.sum PyProof.Rows.boot_sum (bE (JE.bor (JN.je (iO (N':=["name","self"]) (ix:=[0]) 1 (by decide) rfl (dw (so:=ap k_) (N:=u5) (by decide +kernel)) (iW (JE.bor (lB 2 TD (af 0)))) (fun cl A0 s0 H0 ex pn=>⟨eu (i:=0) (by show (["name","self"] : List Str).Nodup;decide +kernel) rfl (.inl rfl),gK,(cm hu1 (JE.bor (jc fi hr hV (a5 (lB 0 TD (af 1)) (a5 (af 0) ah)))) (JE.bor ak))⟩)))) b_))))
abbrev jP:c8:=jk (le 49) 4
abbrev vf:List Str:=["self","name"]
theorem u7:b6 vf ["self","name"] (ap jP):=cK (by decide +kernel)
abbrev nO (e:En) (C:ac):=FM e C "carry_out" 9 2 ig
theorem u9 {C:ac} (D:DM e.K C "carry_out" "Desk.carry_out" jP) (TD:DkC e.K C) (G_Desk_state:im e C) (FA:Mf e):nO e C:=Mw (k:=8) (g:=jK) D u7 m2 fun _ _ _ _ _ _ _ hr=>by unfold jK;exact (au (Of (lB 1 TD (af 0)) (jc FA hr px (a5 (lB 0 TD (af 0)) (a5 (iJ TD G_Desk_state hr px (af 0)) (a5 (af 1) ah))))) gz)
abbrev vg:c8:=jk (le 49) 5
abbrev Iq:List Str:=["self","name"]
theorem FC:b6 Iq ["self","name"] (ap vg):=cK (by decide +kernel)
abbrev An (e:En) (C:ac):=FM e C "do" 10 2 uY
theorem FD {C:ac} (D:DM e.K C "do" "Desk.do" vg) (TD:DkC e.K C) (G_Desk_carry_out:nO e C):An e C:=Mw (k:=9) (g:=uX) D FC m2 fun _ _ _ _ _ _ _ hr=>by unfold uX;exact (au (mh (tR TD G_Desk_carry_out hr px (af 0) (a5 (af 1) ah))) gz)
abbrev jQ:c8:=jk (le 49) 6
abbrev vh:List Str:=["self"]
theorem ua:b6 vh ["self"] (ap jQ):=cK (by decide +kernel)
abbrev nQ (e:En) (C:ac):=FM e C "take_back" 1 1 jM
theorem ub {C:ac} (D:DM e.K C "take_back" "Desk.take_back" jQ) (TD:DkC e.K C) (lg:ER e "Nothing"):nQ e C:=Mw (k:=0) (g:=jL) D ua m1 fun _ _ _ _ _ _ _ hr=>by unfold jL;exact (au (dB (fe (Ls (JE.bor (lB 2 TD (af 0))))) (aH (nJ lg rfl (a5 bI ah))) bP) gz)
abbrev oV:c8:=jk (le 49) 7
abbrev Bw:List Str:=["self"]
theorem zh:b6 Bw ["self"] (ap oV):=cK (by decide +kernel)
abbrev uc (e:En) (C:ac):=FM e C "again" 1 1 oC
theorem zi {C:ac} (D:DM e.K C "again" "Desk.again" oV) (TD:DkC e.K C) (lg:ER e "Nothing"):uc e C:=Mw (k:=0) (g:=oB) D zh m1 fun _ _ _ _ _ _ _ hr=>by unfold oB;exact (au (dB (fe (Ls (JE.bor (lB 3 TD (af 0))))) (aH (nJ lg rfl (a5 bI ah))) bP) gz)
abbrev lN:c8:=jk (le 49) 8
abbrev yd:List Str:=["self","want","row"]
theorem pi:b6 yd ["self","want"] (ap lN):=cK (by decide +kernel)
abbrev qt (e:En) (C:ac):=FM e C "next_to" 10 2 lE
theorem wn {C:ac} (D:DM e.K C "next_to" "Desk.next_to" lN) (TD:DkC e.K C) (G_Desk_state:im e C) (jR:sj e):qt e C:=Mw (k:=9) (g:=lD) D pi m2 fun _ _ _ _ _ _ _ hr=>by unfold lD;exact (au (dS 2 (jc jR hr px (a5 (lB 0 TD (af 0)) (a5 (iJ TD G_Desk_state hr px (af 0)) (a5 (af 1) ah)))) pi.nd) gz)
abbrev oW:c8:=jk (le 49) 9
abbrev Bx:List Str:=["self","want","cheap","row","name"]
theorem mY:b6 Bx ["self","want","cheap"] (ap oW):=cK (by decide +kernel)
abbrev ud (e:En) (C:ac):=FM e C "go_to" 10 3 oF
theorem zj {C:ac} (D:DM e.K C "go_to" "Desk.go_to" oW) (TD:DkC e.K C) (G_Desk_state:im e C) (su:yb e) (jR:sj e):ud e C:=Mw (k:=9) (g:=oE) D mY m3 fun _ _ _ _ _ _ _ hr=>by unfold oE;exact (au (dB (fv (af 2)) (aH (dS 3 (jc su hr px (a5 (lB 0 TD (af 0)) (a5 (iJ TD G_Desk_state hr px (af 0)) (a5 (af 1) ah)))) mY.nd)) (aH (dS 3 (jc jR hr px (a5 (lB 0 TD (af 0)) (a5 (iJ TD G_Desk_state hr px (af 0)) (a5 (af 1) ah)))) mY.nd))) gz)
abbrev jt:c8:=jk (le 49) 10
abbrev ue:List Str:=["self","fact","since"]
theorem sv:b6 ue ["self","fact"] (ap jt):=cK (by decide +kernel)
abbrev mE (e:En) (C:ac):=FM e C "held_since" 2 2 jr
theorem sw {C:ac} (D:DM e.K C "held_since" "Desk.held_since" jt) (B:Bi e.mg) (TD:DkC e.K C) (G_Desk_state:im e C):mE e C:=Mw (k:=1) (g:=gM) D sv m2 fun _ _ _ _ _ _ _ hr=>by unfold gM;exact (au (dB (JW.t (ma (fe (fv (mS (ai 1) rfl B.isinstance rfl B.str n8 (by decide)))) (kE (cH (Cq) (ai 1) (JE.bor (iJ TD G_Desk_state hr px (af 0))))))) (aH (bA iz)) bP) gz)
abbrev mZ:c8:=le 51
abbrev zk:List Str:=["_law_script","_law_k"]
theorem ye:b6 zk ["_law_script","_law_k"] (ap mZ):=cK (by decide +kernel)
abbrev rh (e:En):=FN e "_law_cell_at" 1 2 k9
theorem yf (D:gO e.K e.mg "_law_cell_at" mZ) (B:Bi e.mg):rh e:=qg (k:=0) (g:=k8) D ye b2 fun _ _ _ _ _ _ _ hr=>by have hu1:=jl hr;have hu64:=hr.units;unfold k8;exact (au (dB (cH (zU) (ai 1) (JE.bor (cp iA rfl B.len bR (bE (ai 0) b_)))) (aH (bA (cm hu1 (ai 0) (ai 1)))) bP) (au (dB (cH (pd hu64) (ai 0) (JE.bor (dQ ah))) (aH (bA ak)) bP) (aH (bA (b9 bw (JE.bor (b9 pZ (JE.bor (cm hu1 (ai 0) (JE.bor (b9 AY (ai 1) (JE.bor (cp iA rfl B.len bR (bE (ai 0) b_))))))) (JE.bor ak))) (ai 1))))))
abbrev qu:c8:=le 52
abbrev Dg:List Str:=["_law_script","_law_k","_law_many","_law_drawn"]
theorem uf:b6 Dg ["_law_script","_law_k","_law_many"] (ap qu):=cK (by decide +kernel)
abbrev cW (e:En):=FN e "_law_mixed" 2 3 aU
theorem By (D:gO e.K e.mg "_law_mixed" qu) (m_:rh e):cW e:=qg (k:=1) (g:=mq) D uf b3 fun _ _ _ _ _ _ _ hr=>by unfold mq;exact (au (dS 3 (b9 AY (JE.bor (b9 pZ (JE.bor (b9 bw (JE.bor (b9 bw (JE.bor (jc m_ hr px (a5 (af 0) (a5 (af 1) ah)))) (JE.bor (b9 pZ (JE.bor ak) (ai 1))))) (JE.bor ak))) (JE.bor ak))) (JE.bor ak)) uf.nd) (aH (bA (b9 AY (JE.bor (b9 AY (JE.bor (b9 bw (JE.bor (b9 bw (JE.bor (b9 pZ (ai 3) (ai 3))) (JE.bor (b9 pZ (JE.bor ak) (ai 3))))) (ai 1))) (JE.bor ak))) (ai 2)))))
abbrev sx:c8:=le 53
abbrev FE:List Str:=["_law_script","_law_at","_law_made","_law_k"]
theorem mF:b6 FE ["_law_script","_law_at"] (ap sx):=cK (by decide +kernel)
abbrev sy (e:En):=FN e "_law_word" 3 2 jN
theorem Dh (D:gO e.K e.mg "_law_word" sx) (B:Bi e.mg) (aG:cW e):sy e:=qg (k:=2) (g:=oG) D mF b2 fun _ _ _ _ _ _ _ hr=>by have hu1:=jl hr;unfold oG;exact (au (dS 2 bI mF.nd) (au (uQ rfl (rO rfl B.range (bE (JE.bor (cm hu1 (JE.bor (dQ (a5 ak (a5 ak (a5 ak (a5 ak (a5 ak (a5 ak ah)))))))) (JE.bor (jc aG hr hV (a5 (af 0) (a5 (af 1) (a5 ak ah))))))) b_)) (dH 3 mF.nd) (aH (dS 2 (b9 bw (ai 2) (JE.bor (cm hu1 (JE.bor bI) (JE.bor (jc aG hr hV (a5 (af 0) (a5 (b9 bw (JE.bor (b9 bw (ai 1) (JE.bor ak))) (ai 3)) (a5 ak ah)))))))) mF.nd))) (aH (bA (af 2)))))
abbrev qv:c8:=le 54
abbrev Di:List Str:=["_law_script","_law_at","_law_most","_law_found","_law_k"]
theorem oX:b6 Di ["_law_script","_law_at","_law_most"] (ap qv):=cK (by decide +kernel)
abbrev vR (e:En):=FN e "_law_facts" 4 3 ms
theorem Bz (D:gO e.K e.mg "_law_facts" qv) (B:Bi e.mg) (jS:sy e) (aG:cW e):vR e:=qg (k:=3) (g:=mr) D oX b3 fun _ _ _ _ _ _ _ hr=>by have hu1:=jl hr;unfold mr;exact (au (mi 3 Go oX.nd) (au (uQ rfl (rO rfl B.range (bE (JE.bor (jc aG hr hV (a5 (af 0) (a5 (af 1) (a5 (b9 bw (ai 2) (JE.bor ak)) ah))))) b_)) (dH 4 oX.nd) (aH (Gs 3 jn (jc jS hr hV (a5 (af 0) (a5 (b9 bw (JE.bor (b9 bw (ai 1) (JE.bor ak))) (JE.bor (b9 pZ (JE.bor ak) (ai 4)))) ah))) hu1))) (aH (bA (eB (jp rfl) rfl B.tuple bg (bE (JE.bor (cp HQ rfl B.sorted vz (bE (JE.bor (eB (qd rfl) rfl B.list fE (bE (ai 3) b_))) b_))) b_))))))
abbrev oY:c8:=le 55
abbrev yg:List Str:=["_law_script","_law_at","_law_facts_here","_law_part"]
theorem Dj:b6 yg ["_law_script","_law_at","_law_facts_here","_law_part"] (ap oY):=cK (by decide +kernel)
abbrev yh (e:En):=FN e "_law_some" 3 4 oJ
theorem Dk (D:gO e.K e.mg "_law_some" oY) (B:Bi e.mg) (aG:cW e):yh e:=qg (k:=2) (g:=oH) D Dj b4 fun _ _ _ _ _ _ _ hr=>by unfold oH;exact (aH (bA (eB (jp rfl) rfl B.tuple bg (bE (JE.bor (JN.je (iO (N':=["_law_k","_law_fact","_law_script","_law_at","_law_part"]) (ix:=[0,1,3]) 2 (by decide) rfl (dw (so:=ap oY) (N:=yg) (by decide +kernel)) (Kw.i (xA rfl B.enumerate (a5 (af 2) ah))) (fun cl A0 s0 H0 ex pn=>⟨E8 rfl (pU (eu (i:=0) (by show (["_law_k","_law_fact","_law_script","_law_at","_law_part"] : List Str).Nodup;decide +kernel) rfl (.inl rfl)) (pU (eu (i:=1) (by show (["_law_k","_law_fact","_law_script","_law_at","_law_part"] : List Str).Nodup;decide +kernel) rfl (.inl rfl)) Az)),(B0 (cH (zU) (JE.bor (jc aG hr hV (a5 (af 2) (a5 (b9 bw (ai 3) (ai 0)) (a5 ak ah))))) (ai 4))),(af 1)⟩)))) b_))))
abbrev jT:c8:=le 56
abbrev oZ:List Str:=["_law_script","_law_at","_law_facts_here","_law_name","_law_one","_law_two","_law_goal","_law_needs","_law_bars","_law_ends","_law_parts"]
theorem fQ:b6 oZ ["_law_script","_law_at","_law_facts_here","_law_name"] (ap jT):=cK (by decide +kernel)
abbrev yi (e:En):=FN e "_law_thin" 3 4 oM
theorem Dl (D:gO e.K e.mg "_law_thin" jT) (B:Bi e.mg) (aG:cW e):yi e:=qg (k:=2) (g:=oK) D fQ b4 fun _ _ _ _ _ _ _ hr=>by have hu1:=jl hr;have hu64:=hr.units;unfold oK;exact (au (dS 4 (cm hu1 (ai 2) (JE.bor (jc aG hr px (a5 (af 0) (a5 (b9 bw (ai 1) (JE.bor ak)) (a5 (cp iA rfl B.len bR (bE (ai 2) b_)) ah)))))) fQ.nd) (au (dS 5 (cm hu1 (ai 2) (JE.bor (jc aG hr px (a5 (af 0) (a5 (b9 bw (ai 1) (JE.bor ak)) (a5 (cp iA rfl B.len bR (bE (ai 2) b_)) ah)))))) fQ.nd) (au (dS 6 (cm hu1 (ai 2) (JE.bor (jc aG hr px (a5 (af 0) (a5 (b9 bw (ai 1) (JE.bor ak)) (a5 (cp iA rfl B.len bR (bE (ai 2) b_)) ah)))))) fQ.nd) (au (dS 7 (bV (JE.bor (dQ (a5 (af 4) (a5 (af 5) ah)))) cD (cE (b9 bw (JE.bor ak) (JE.bor (b9 NI (JE.bor (jc aG hr px (a5 (af 0) (a5 (b9 bw (ai 1) (JE.bor ak)) (a5 ak ah))))) (JE.bor ak)))))) fQ.nd) (au (oo 8 (N':=["_law_fact","_law_needs","_law_script","_law_at"]) (ix:=[7,0,1]) 1 (by decide) fQ.nd rfl (dw (so:=ap jT) (N:=oZ) (by decide +kernel)) (iW (JE.bor (dQ (a5 (af 6) ah)))) (fun cl A0 s0 H0 ex pn=>⟨eu (i:=0) (by show (["_law_fact","_law_needs","_law_script","_law_at"] : List Str).Nodup;decide +kernel) rfl (.inl rfl),(B0 (JW.t (EI (cH (Cq) (ai 0) (ai 1)) (AW (cH (pd hu64) (JE.bor (jc aG hr hV (a5 (af 2) (a5 (b9 bw (ai 3) (JE.bor ak)) (a5 ak ah))))) (JE.bor ak)))))),(af 0)⟩)) (au (oo 9 (N':=["_law_fact","_law_goal","_law_script","_law_at"]) (ix:=[6,0,1]) 1 (by decide) fQ.nd rfl (dw (so:=ap jT) (N:=oZ) (by decide +kernel)) (iW (JE.bor (dQ (a5 (af 4) ah)))) (fun cl A0 s0 H0 ex pn=>⟨eu (i:=0) (by show (["_law_fact","_law_goal","_law_script","_law_at"] : List Str).Nodup;decide +kernel) rfl (.inl rfl),(B0 (JW.t (EI (cH (md hu64) (ai 0) (ai 1)) (AW (cH (pd hu64) (JE.bor (jc aG hr hV (a5 (af 2) (a5 (b9 bw (ai 3) (JE.bor ak)) (a5 ak ah))))) (JE.bor ak)))))),(af 0)⟩)) (au (KH 8 (KH 9 (oo 10 (N':=["_law_part"]) (ix:=[]) 1 (by decide) fQ.nd rfl (dw (so:=ap jT) (N:=oZ) (by decide +kernel)) (iW (JE.bor (aI (a5 (af 7) (a5 (af 8) (a5 (dQ (a5 (af 6) ah)) (a5 (af 9) ah))))))) (fun cl A0 s0 H0 ex pn=>⟨eu (i:=0) (by show (["_law_part"] : List Str).Nodup;decide +kernel) rfl (.inl rfl),gK,(eB (jp rfl) rfl B.tuple bg (bE (JE.bor (EV rfl (QQ rfl (ai 0) rfl B.set) rfl B.sorted)) b_))⟩)))) (aH (bA (aI (a5 (af 3) (a5 (cm hu1 (ai 10) (JE.bor ak)) (a5 (cm hu1 (ai 10) (JE.bor ak)) (a5 (cm hu1 (ai 10) (JE.bor ak)) (a5 (cm hu1 (ai 10) (JE.bor ak)) (a5 (jc aG hr px (a5 (af 0) (a5 (af 1) (a5 ak ah)))) ah))))))))))))))))
abbrev l5:c8:=le 57
abbrev ug:List Str:=["_law_script","_law_at","_law_facts_here","_law_name","_law_parts","_law_k","_law_fact","_law_way","_law_some_here"]
theorem fA:b6 ug ["_law_script","_law_at","_law_facts_here","_law_name"] (ap l5):=cK (by decide +kernel)
abbrev uh (e:En):=FN e "_law_errand" 4 4 ij
theorem zm (D:gO e.K e.mg "_law_errand" l5) (B:Bi e.mg) (aG:cW e) (sA:yi e):uh e:=qg (k:=3) (g:=ii) D fA b4 fun _ _ _ _ _ _ _ hr=>by have hu1:=jl hr;have hu64:=hr.units;unfold ii;exact (au (dB (JW.t (EI (cH (md hu64) (ai 2) (JE.bor (aI ah))) (AW (cH (pd hu64) (JE.bor (jc aG hr px (a5 (af 0) (a5 ak (a5 ak ah))))) (JE.bor ak))))) (aH (bA (jc sA hr px (a5 (af 0) (a5 (af 1) (a5 (af 2) (a5 (af 3) ah))))))) bP) (au (QR 4 fA.nd) (au (uQ rfl (xA rfl B.enumerate (a5 (af 2) ah)) (rN rfl (dJ (dH 5 fA.nd) (dJ (dH 6 fA.nd) om))) (au (dS 7 (jc aG hr hV (a5 (af 0) (a5 (b9 bw (JE.bor (b9 bw (ai 1) (JE.bor ak))) (ai 5)) (a5 ak ah)))) fA.nd) (au (dB (cH (zU) (ai 7) (JE.bor ak)) (aH (xI 4 (cm hu1 (JE.bor (dQ (a5 ak (a5 ak (a5 ak ah))))) (ai 7)) (af 6))) bP) (au (dS 7 (jc aG hr hV (a5 (af 0) (a5 (b9 bw (JE.bor (b9 bw (ai 1) (JE.bor ak))) (ai 5)) (a5 ak ah)))) fA.nd) (aH (dB (cH (zU) (ai 7) (JE.bor ak)) (aH (xI 4 (cm hu1 (JE.bor (dQ (a5 ak (a5 ak (a5 ak (a5 ak ah)))))) (ai 7)) (af 6))) bP)))))) (au (KG (oo 8 (N':=["_law_part"]) (ix:=[]) 1 (by decide) fA.nd rfl (dw (so:=ap l5) (N:=ug) (by decide +kernel)) (iW (ai 4)) (fun cl A0 s0 H0 ex pn=>⟨eu (i:=0) (by show (["_law_part"] : List Str).Nodup;decide +kernel) rfl (.inl rfl),gK,(eB (jp rfl) rfl B.tuple bg (bE (ai 0) b_))⟩))) (aH (bA (aI (a5 (af 3) (a5 (cm hu1 (ai 8) (JE.bor ak)) (a5 (cm hu1 (ai 8) (JE.bor ak)) (a5 (cm hu1 (ai 8) (JE.bor ak)) (a5 (cm hu1 (ai 8) (JE.bor ak)) (a5 (jc aG hr px (a5 (af 0) (a5 (af 1) (a5 ak ah)))) ah)))))))))))))
abbrev o_:c8:=le 58
abbrev yj:List Str:=["_law_script","_law_at","_law_most","_law_many","_law_facts_here","_law_made","_law_k","_law_name","_law_names","_law_turn"]
theorem i3:b6 yj ["_law_script","_law_at","_law_most","_law_many"] (ap o_):=cK (by decide +kernel)
abbrev yk (e:En):=FN e "_law_book" 5 4 lG
theorem Dm (D:gO e.K e.mg "_law_book" o_) (B:Bi e.mg) (qw:vR e) (jS:sy e) (p6:uh e) (aG:cW e):yk e:=qg (k:=4) (g:=lF) D i3 b4 fun _ _ _ _ _ _ _ hr=>by have hu1:=jl hr;unfold lF;exact (au (dS 4 (jc qw hr px (a5 (af 0) (a5 (af 1) (a5 (af 2) ah)))) i3.nd) (au (mi 5 Go i3.nd) (au (uQ rfl (rO rfl B.range (bE (JE.bor (jc aG hr hV (a5 (af 0) (a5 (b9 bw (ai 1) (JE.bor ak)) (a5 (b9 bw (ai 3) (JE.bor ak)) ah))))) b_)) (dH 6 i3.nd) (au (dS 7 (jc jS hr hV (a5 (af 0) (a5 (b9 bw (JE.bor (b9 bw (ai 1) (JE.bor ak))) (JE.bor (b9 pZ (JE.bor ak) (ai 6)))) ah))) i3.nd) (aH (Gs 5 (jc p6 hr hV (a5 (af 0) (a5 (b9 bw (JE.bor (b9 bw (ai 1) (JE.bor ak))) (JE.bor (b9 pZ (JE.bor ak) (ai 6)))) (a5 (af 4) (a5 (af 7) ah))))) (af 7) hu1)))) (au (dS 8 (eB (qd rfl) rfl B.list fE (bE (ai 5) b_)) i3.nd) (au (dS 9 (jc aG hr px (a5 (af 0) (a5 (b9 bw (ai 1) (JE.bor ak)) (a5 (b9 bw (JE.bor (cp iA rfl B.len bR (bE (ai 8) b_))) (JE.bor ak)) ah)))) i3.nd) (aH (bA (aI (a5 (af 4) (a5 (eB (jp rfl) rfl B.tuple bg (bE (JE.bor (JN.je (iO (N':=["_law_name","_law_made"]) (ix:=[5]) 1 (by decide) rfl (dw (so:=ap o_) (N:=yj) (by decide +kernel)) (iW (JE.bor (b9 bw (JE.bor (bV (ai 8) (cE (af 9)) cD)) (JE.bor (bV (ai 8) cD (cE (af 9))))))) (fun cl A0 s0 H0 ex pn=>⟨eu (i:=0) (by show (["_law_name","_law_made"] : List Str).Nodup;decide +kernel) rfl (.inl rfl),gK,(cm hu1 (ai 1) (ai 0))⟩)))) b_)) ah))))))))))
abbrev sB:c8:=le 59
abbrev FF:List Str:=["_law_script","_law_at","_law_facts_here","_law_must","_law_bars","_law_k","_law_fact","_law_way"]
theorem j7:b6 FF ["_law_script","_law_at","_law_facts_here"] (ap sB):=cK (by decide +kernel)
abbrev ym (e:En):=FN e "_law_want" 3 3 rX
theorem Dn (D:gO e.K e.mg "_law_want" sB) (B:Bi e.mg) (aG:cW e):ym e:=qg (k:=2) (g:=lH) D j7 b3 fun _ _ _ _ _ _ _ hr=>by have hu64:=hr.units;unfold lH;exact (au (mi 3 (uO ah) j7.nd) (au (mi 4 (uO ah) j7.nd) (au (uQ rfl (xA rfl B.enumerate (a5 (af 2) ah)) (rN rfl (dJ (dH 5 j7.nd) (dJ (dH 6 j7.nd) om))) (au (dS 7 (jc aG hr hV (a5 (af 0) (a5 (b9 bw (ai 1) (ai 5)) (a5 ak ah)))) j7.nd) (aH (dB (cH (zU) (ai 7) (JE.bor ak)) (aH (uR 3 (af 6))) (aH (dB (cH (pd hu64) (ai 7) (JE.bor ak)) (aH (uR 4 (af 6))) bP)))))) (aH (bA (aI (a5 (eB (jp rfl) rfl B.tuple bg (bE (ai 3) b_)) (a5 (eB (jp rfl) rfl B.tuple bg (bE (ai 4) b_)) ah))))))))
abbrev sC:c8:=le 60
abbrev FG:List Str:=["_law_script","_law_most","_law_many","_law_book_here","_law_state"]
theorem qx:b6 FG ["_law_script","_law_most","_law_many"] (ap sC):=cK (by decide +kernel)
abbrev yn (e:En):=FN e "_law_case" 6 3 oO
theorem Do (D:gO e.K e.mg "_law_case" sC) (sD:yk e) (aG:cW e) (sF:yh e) (sG:ym e):yn e:=qg (k:=5) (g:=oN) D qx b3 fun _ _ _ _ _ _ _ hr=>by have hu1:=jl hr;unfold oN;exact (au (dS 3 (jc sD hr px (a5 (af 0) (a5 ak (a5 (af 1) (a5 (af 2) ah))))) qx.nd) (au (dS 4 (jc sF hr px (a5 (af 0) (a5 ak (a5 (cm hu1 (ai 3) (JE.bor ak)) (a5 (cm hu1 (JE.bor (dQ (a5 ak (a5 ak ah)))) (JE.bor (jc aG hr px (a5 (af 0) (a5 ak (a5 ak ah)))))) ah))))) qx.nd) (aH (bA (aI (a5 (af 3) (a5 (af 4) (a5 (jc sG hr px (a5 (af 0) (a5 ak (a5 (cm hu1 (ai 3) (JE.bor ak)) ah)))) ah))))))))
abbrev jU:c8:=le 61
abbrev vi:List Str:=["_law_script","_law_at","_law_good","_law_some_here"]
theorem ju:b6 vi ["_law_script","_law_at"] (ap jU):=cK (by decide +kernel)
abbrev nR (e:En):=FN e "_law_bad_errand" 3 2 fK
theorem ui (D:gO e.K e.mg "_law_bad_errand" jU) (B:Bi e.mg) (aG:cW e):nR e:=qg (k:=2) (g:=ik) D ju b2 fun _ _ _ _ _ _ _ hr=>by have hu1:=jl hr;unfold ik;exact (au (dS 2 (aI (a5 bI (a5 (aI ah) (a5 (aI ah) (a5 (aI ah) (a5 (aI ah) (a5 ak ah))))))) ju.nd) (au (mi 3 (uO (a5 (b9 bw (JE.bor (aI (a5 bI ah))) (JE.bor (bV (ai 2) (cE ak) cD))) (a5 (bV (ai 2) cD (cE ak)) (a5 (eB (qd rfl) rfl B.list fE (bE (ai 2) b_)) (a5 iz (a5 (b9 bw (JE.bor (bV (ai 2) cD (cE ak))) (JE.bor (aI (a5 ak ah)))) (a5 (b9 bw (JE.bor (bV (ai 2) cD (cE ak))) (JE.bor (aI (a5 (KB ak) ah)))) (a5 (b9 bw (JE.bor (bV (ai 2) cD (cE ak))) (JE.bor (aI (a5 jn ah)))) ah)))))))) ju.nd) (au (j2 3 (dQ (a5 (b9 bw (JE.bor (b9 bw (JE.bor (bV (ai 2) cD (cE ak))) (JE.bor (aI (a5 (dQ (a5 bI ah)) ah))))) (JE.bor (bV (ai 2) (cE ak) cD))) (a5 (b9 bw (JE.bor (b9 bw (JE.bor (bV (ai 2) cD (cE ak))) (JE.bor (aI (a5 (aI (a5 bI (a5 bI ah))) ah))))) (JE.bor (bV (ai 2) (cE ak) cD))) ah)))) (au (uR 3 (b9 bw (JE.bor (b9 bw (JE.bor (bV (ai 2) cD (cE ak))) (JE.bor (aI (a5 (aI (a5 bI (a5 bI ah))) ah))))) (JE.bor (bV (ai 2) (cE ak) cD)))) (au (j2 3 (dQ (a5 (b9 bw (JE.bor (b9 bw (JE.bor (bV (ai 2) cD (cE ak))) (JE.bor (aI (a5 (aI (a5 bI ah)) (a5 (aI (a5 bI ah)) ah)))))) (JE.bor (bV (ai 2) (cE ak) cD))) (a5 (b9 bw (JE.bor (b9 bw (JE.bor (bV (ai 2) cD (cE ak))) (JE.bor (aI (a5 (aI (a5 bI ah)) (a5 (aI (a5 bI ah)) ah)))))) (JE.bor (bV (ai 2) (cE ak) cD))) (a5 (b9 bw (JE.bor (bV (ai 2) cD (cE ak))) (JE.bor (aI (a5 iz (a5 ak ah))))) ah))))) (au (j2 3 (dQ (a5 (b9 bw (JE.bor (b9 bw (JE.bor (bV (ai 2) cD (cE ak))) (JE.bor (aI (a5 (aI (a5 bI ah)) ah))))) (JE.bor (bV (ai 2) (cE ak) cD))) (a5 (b9 bw (ai 2) (JE.bor (aI (a5 ak ah)))) (a5 (b9 bw (JE.bor (b9 bw (JE.bor (bV (ai 2) cD (cE ak))) (JE.bor (aI (a5 (aI (a5 bI (a5 ak ah))) ah))))) (JE.bor (bV (ai 2) (cE ak) cD))) ah))))) (aH (bA (cm hu1 (ai 3) (JE.bor (jc aG hr px (a5 (af 0) (a5 (af 1) (a5 ak ah))))))))))))))
abbrev jv:c8:=le 62
abbrev qy:List Str:=["_law_script","_law_at","_law_facts_here","_law_good","_law_bad","_law_six","_law_some_here"]
theorem fj:b6 qy ["_law_script","_law_at"] (ap jv):=cK (by decide +kernel)
abbrev qz (e:En):=FN e "_law_bad_book" 4 2 hX
theorem wo (D:gO e.K e.mg "_law_bad_book" jv) (B:Bi e.mg) (jV:nR e) (aG:cW e):qz e:=qg (k:=3) (g:=js) D fj b2 fun _ _ _ _ _ _ _ hr=>by have hu1:=jl hr;unfold js;exact (au (dS 2 (aI (a5 bI (a5 bI ah))) fj.nd) (au (dS 3 (aI (a5 bI (a5 (aI ah) (a5 (aI ah) (a5 (aI ah) (a5 (aI ah) (a5 ak ah))))))) fj.nd) (au (dS 4 (jc jV hr px (a5 (af 0) (a5 (b9 bw (ai 1) (JE.bor ak)) ah))) fj.nd) (au (dS 5 (eB (jp rfl) rfl B.tuple bg (bE (JE.bor (JN.je (iO (N':=["_law_name","_law_good"]) (ix:=[3]) 1 (by decide) rfl (dw (so:=ap jv) (N:=qy) (by decide +kernel)) (iW (JE.bor (dQ (a5 bI (a5 bI (a5 bI (a5 bI (a5 bI (a5 bI (a5 bI ah)))))))))) (fun cl A0 s0 H0 ex pn=>⟨eu (i:=0) (by show (["_law_name","_law_good"] : List Str).Nodup;decide +kernel) rfl (.inl rfl),gK,(b9 bw (JE.bor (aI (a5 (af 0) ah))) (JE.bor (bV (ai 1) (cE ak) cD)))⟩)))) b_)) fj.nd) (au (mi 6 (uO (a5 (aI (a5 (af 2) (a5 (aI (a5 (af 4) ah)) ah))) (a5 (aI (a5 (af 2) (a5 (aI (a5 (af 3) (a5 (af 4) ah))) ah))) (a5 iz ah)))) fj.nd) (au (j2 6 (dQ (a5 (aI (a5 (af 2) (a5 (aI (a5 (af 3) (a5 (af 3) ah))) ah))) (a5 (aI (a5 (af 2) (a5 (af 5) ah))) (a5 (aI (a5 (af 2) (a5 (dQ (a5 (af 3) ah)) ah))) (a5 (aI (a5 (af 2) ah)) (a5 (dQ (a5 (af 2) (a5 (aI ah) ah))) (a5 iz (a5 (aI (a5 (aI (a5 bI (a5 bI ah))) (a5 (aI ah) ah))) ah))))))))) (au (j2 6 (dQ (a5 (aI (a5 (aI (a5 bI (a5 bI ah))) (a5 (aI ah) ah))) (a5 (aI (a5 (dQ (a5 bI ah)) (a5 (aI ah) ah))) (a5 (aI (a5 (aI (a5 bI ah)) (a5 (aI ah) ah))) (a5 (aI (a5 (eB (jp rfl) rfl B.tuple bg (bE (JE.bor bI) b_)) (a5 (aI ah) ah))) (a5 (b9 bw (JE.bor (aI (a5 (af 2) (a5 (aI ah) ah)))) (JE.bor (aI (a5 (aI ah) ah)))) (a5 (aI (a5 (aI (a5 bI ah)) (a5 (aI ah) ah))) ah)))))))) (aH (bA (cm hu1 (ai 6) (JE.bor (cm hu1 (JE.bor (dQ (a5 ak (a5 ak (a5 ak (a5 ak (a5 ak (a5 ak (a5 ak (a5 ak (a5 ak (a5 ak (a5 ak (a5 ak (a5 ak (a5 ak (a5 ak (a5 ak (a5 ak (a5 ak ah)))))))))))))))))))) (JE.bor (jc aG hr px (a5 (af 0) (a5 (af 1) (a5 ak ah)))))))))))))))))
abbrev kH:c8:=le 63
abbrev wp:List Str:=["_law_script","_law_at","_law_facts_here","_law_some_here"]
theorem nU:b6 wp ["_law_script","_law_at","_law_facts_here"] (ap kH):=cK (by decide +kernel)
abbrev kJ (e:En):=FN e "_law_bad_state" 3 3 iQ
theorem vj (D:gO e.K e.mg "_law_bad_state" kH) (B:Bi e.mg) (aG:cW e):kJ e:=qg (k:=2) (g:=gm) D nU b3 fun _ _ _ _ _ _ _ hr=>by have hu1:=jl hr;have hu64:=hr.units;unfold gm;exact (au (mi 3 (uO (a5 iz (a5 (eB (qd rfl) rfl B.list fE (bE (ai 2) b_)) (a5 (aI (a5 bI ah)) (a5 (b9 bw (ai 2) (JE.bor (aI (a5 bI ah)))) (a5 (aI (a5 ak ah)) (a5 ak (a5 bI (a5 (aI (a5 bI ah)) (a5 (aI (a5 iz ah)) ah)))))))))) nU.nd) (au (dB (cH (md hu64) (ai 2) (JE.bor (aI ah))) (aH (j2 3 (dQ (a5 (b9 bw (ai 2) (ai 2)) (a5 (b9 bw (JE.bor (bV (ai 2) cD (cE ak))) (JE.bor (bV (ai 2) cD (cE ak)))) (a5 (aI (a5 (cm hu1 (ai 2) (JE.bor ak)) (a5 ak ah))) ah)))))) bP) (au (dB (cH (Ko) (JE.bor (cp iA rfl B.len bR (bE (ai 2) b_))) (JE.bor ak)) (aH (j2 3 (E_ 3 (by decide) (a5 (R4 (ai 2)) ah)))) bP) (aH (bA (cm hu1 (ai 3) (JE.bor (jc aG hr px (a5 (af 0) (a5 (af 1) (a5 (cp iA rfl B.len bR (bE (ai 3) b_)) ah)))))))))))
abbrev lO:c8:=le 64
abbrev yo:List Str:=["_law_script","_law_at","_law_facts_here","_law_bad","_law_some_here"]
theorem kK:b6 yo ["_law_script","_law_at","_law_facts_here"] (ap lO):=cK (by decide +kernel)
abbrev qA (e:En):=FN e "_law_bad_want" 4 3 lI
theorem wq (D:gO e.K e.mg "_law_bad_want" lO) (B:Bi e.mg) (fk:kJ e) (aG:cW e):qA e:=qg (k:=3) (g:=hZ) D kK b3 fun _ _ _ _ _ _ _ hr=>by have hu1:=jl hr;have hu64:=hr.units;unfold hZ;exact (au (dS 3 (jc fk hr px (a5 (af 0) (a5 (b9 bw (ai 1) (JE.bor ak)) (a5 (af 2) ah)))) kK.nd) (au (mi 4 (uO (a5 iz (a5 (aI (a5 (aI ah) ah)) (a5 (dQ (a5 (aI ah) (a5 (aI ah) ah))) (a5 (aI (a5 (aI ah) (a5 (aI ah) (a5 (aI ah) ah)))) (a5 (aI (a5 (af 3) (a5 (aI ah) ah))) (a5 (aI (a5 (aI ah) (a5 (af 3) ah))) (a5 (aI (a5 (af 3) (a5 (aI ah) ah))) (a5 (aI (a5 (aI ah) (a5 (af 3) ah))) (a5 ak ah)))))))))) kK.nd) (au (dB (cH (md hu64) (ai 2) (JE.bor (aI ah))) (aH (j2 4 (dQ (a5 (aI (a5 (af 2) (a5 (bV (ai 2) cD (cE ak)) ah))) (a5 (aI (a5 (bV (ai 2) cD (cE ak)) (a5 (af 2) ah))) ah))))) bP) (aH (bA (cm hu1 (ai 4) (JE.bor (jc aG hr px (a5 (af 0) (a5 (af 1) (a5 (cp iA rfl B.len bR (bE (ai 4) b_)) ah)))))))))))
abbrev vk:c8:=le 66
abbrev Ir:List Str:=["_law_book_here","_law_state","_law_e"]
theorem yp:b6 Ir ["_law_book_here","_law_state"] (ap vk):=cK (by decide +kernel)
abbrev Ao (e:En):=FN e "_law_new" 10 2 qJ
theorem FH {C:ac} (D:gO e.K e.mg "_law_new" vk) (TD:DkC e.K C) (vm:Tg e.P e.w e.K e.mg e.base e.cls C 8 ck) (W:Wh e.P e.w e.K e.mg e.base e.cls "_law_which" BP IS):Ao e:=qg (k:=9) (g:=qI) D yp b2 fun _ _ _ _ _ _ _ hr=>by unfold qI;exact (aH (Gu 2 W (fun E1 xe1 pn1 hp=>(aH (bA (GG vm hr hp (a5 (af 0) (a5 (af 1) ah)))))) (hr.h.mono1) rfl rfl yp.nd))
abbrev vn:c8:=le 67
abbrev Iu:List Str:=["_law_desk","_law_way","_law_one","_law_e"]
theorem yq:b6 Iu ["_law_desk","_law_way","_law_one"] (ap vn):=cK (by decide +kernel)
abbrev Ap (e:En):=FN e "_law_ask" 11 3 fL
theorem FI {C:ac} (D:gO e.K e.mg "_law_ask" vn) (TD:DkC e.K C) (G_Desk_next_to:qt e C) (G_Desk_go_to:ud e C) (G_Desk_do:An e C) (G_Desk_take_back:nQ e C) (G_Desk_again:uc e C) (W:Wh e.P e.w e.K e.mg e.base e.cls "_law_which" BP IS):Ap e:=qg (k:=10) (g:=j4) D yq b3 fun _ _ _ _ _ _ _ hr=>by have hu64:=hr.units;unfold j4;exact (aH (Gu 3 W (fun E1 xe1 pn1 hp=>(au (dB (cH (pd hu64) (ai 1) (JE.bor ak)) (aH (bA (tR TD G_Desk_next_to hr hp (af 0) (a5 (af 2) ah)))) bP) (au (dB (cH (pd hu64) (ai 1) (JE.bor ak)) (aH (bA (tR TD G_Desk_go_to hr hp (af 0) (a5 (af 2) (a5 jn ah))))) bP) (au (dB (cH (pd hu64) (ai 1) (JE.bor ak)) (aH (bA (tR TD G_Desk_do hr hp (af 0) (a5 (af 2) ah)))) bP) (au (dB (cH (pd hu64) (ai 1) (JE.bor ak)) (aH (bA (iJ TD G_Desk_take_back hr hp (af 0)))) bP) (aH (bA (iJ TD G_Desk_again hr hp (af 0))))))))) (hr.h.mono1) rfl rfl yq.nd))
abbrev vS:c8:=le 68
abbrev TK:List Str:=["_law_script","_law_book_here","_law_state","_law_want_here","_law_desk","_law_bad"]
theorem vo:b6 TK ["_law_script"] (ap vS):=cK (by decide +kernel)
theorem Rn {f C:ac}{fd:cP} (F:yy e.K "law" "law" vS f fd) (B:Bi e.mg) (TD:DkC e.K C) (sH:yn e) (vm:Tg e.P e.w e.K e.mg e.base e.cls C 8 ck) (lP:qA e) (jW:Ap e) (aG:cW e) (G_Desk_state:im e C) (G_Desk_row:yc e C) (G_Desk_spent:u6 e C) (G_Desk_held_since:mE e C) (lQ:qz e) (qP:Ao e) (fk:kJ e):l_ e.P e.w e.K e.mg e.base (kR e.P e.w) 12 f fd ["_law_script"] (Mv e.K e.cls 1 F_law):=by
 refine KD (k:=11) (g:=GI) F vo fun cdv A outer s H E hr=>?_
 have hu1:=jl hr
 have hu64:=hr.units
 unfold GI
 exact (au (xy (jc sH hr px (a5 (af 0) (a5 ak (a5 ak ah)))) (rN rfl (dJ (dH 1 vo.nd) (dJ (dH 2 vo.nd) (dJ (dH 3 vo.nd) om))))) (au (dS 4 (GG vm hr px (a5 (af 1) (a5 (af 2) ah))) vo.nd) (au (dS 5 (jc lP hr px (a5 (af 0) (a5 ak (a5 (cm hu1 (ai 1) (JE.bor ak)) ah)))) vo.nd) (au (dB (cH (md hu64) (JE.bor (dQ (a5 (jc jW hr px (a5 (af 4) (a5 ak (a5 (af 5) ah)))) (a5 (jc jW hr px (a5 (af 4) (a5 ak (a5 (af 5) ah)))) ah)))) (JE.bor (E_ 2 (by decide) (a5 (aI (a5 bI (a5 ak ah))) ah)))) (aH (bA jn)) bP) (au (dB (cH (md hu64) (JE.bor (jc jW hr px (a5 (af 4) (a5 ak (a5 (cm hu1 (JE.bor (dQ (a5 iz (a5 bI (a5 ak (a5 (dQ (a5 bI ah)) ah)))))) (JE.bor (jc aG hr px (a5 (af 0) (a5 ak (a5 ak ah)))))) ah))))) (JE.bor (aI (a5 bI (a5 ak ah))))) (aH (bA jn)) bP) (au (dB (cH (md hu64) (JE.bor (dQ (a5 (jc jW hr px (a5 (af 4) (a5 ak (a5 iz ah)))) (a5 (jc jW hr px (a5 (af 4) (a5 ak (a5 iz ah)))) ah)))) (JE.bor (E_ 2 (by decide) (a5 (aI (a5 bI (a5 ak ah))) ah)))) (aH (bA jn)) bP) (au (dB (JW.t (ma (cH (md hu64) (JE.bor (iJ TD G_Desk_state hr px (af 4))) (ai 2)) (ma (cH (md hu64) (JE.bor (iJ TD G_Desk_row hr px (af 4))) (JE.bor (dQ ah))) (ma (cH (md hu64) (JE.bor (iJ TD G_Desk_spent hr px (af 4))) (JE.bor ak)) (kE (cH (Kp) (JE.bor (tR TD G_Desk_held_since hr px (af 4) (a5 bI ah))) (JE.bor iz))))))) (aH (bA jn)) bP) (au (dB (cH (md hu64) (JE.bor (jc qP hr px (a5 (jc lQ hr px (a5 (af 0) (a5 ak ah))) (a5 iz ah)))) (JE.bor (aI (a5 bI (a5 ak ah))))) (aH (bA jn)) bP) (aH (bA (uN (pd hu64) (JE.bor (jc qP hr px (a5 (af 1) (a5 (jc fk hr px (a5 (af 0) (a5 ak (a5 (cm hu1 (ai 1) (JE.bor ak)) ah)))) ah)))) (JE.bor (aI (a5 bI (a5 ak ah)))))))))))))))
abbrev BA:c8:=jk (le 49) 0
theorem OF:b6 ["self","book","state"] ["self","book","state"] (ap BA):=cK (by decide +kernel)
theorem OG {C:ac} (D:DM e.K C "__init__" "Desk.__init__" BA) (TD:DkC e.K C) (mk:kq e.K C=true) (kp:bQ e.K (.ref C)=true) (mg:e.mg "Desk"=some (.ref C)) (eg:kf e):Tg e.P e.w e.K e.mg e.base e.cls C 8 ck:=Oe (k:=7) D TD mk kp mg OF m3 fun f cdv A outer s H E hr ρ=>fG (m7 ((jc (c:=⟨iT (kR e.P e.w) e.P e.w e.K e.mg e.base ["self","book","state"] "Desk.__init__" (ap BA) f cdv A outer s H E,e.cls,E⟩) eg hr px (a5 (af 1) (a5 (af 2) ah))) ρ)) (fG (AB (pv 0) (pv 1) rfl) (fG (AB (pv 0) (jj (bO (pv 2) dG)) rfl) (fG (AB (pv 0) (jj dG) rfl) (wC (AB (pv 0) (jj dG) rfl)))))
end
end
section
theorem all_mk {l:vZ}{w:bh}{K:a7}{h:br}{mg:Str->Option a9}{fa A:ac}{jw:ac}{io:ac}{jx:ac}{fZ:ac}{p7:ac}{pc:ac}{jX:ac}{jY:ac}{i_:ac}{ip:ac}{lR:ac}{i4:ac}{jy:ac}{od an:Option ac}{sl:Array (Option a9)}{oc kV dc pm cv ct:a9} (X:K.In h) (G:h.Ns ba mg) (hfa:mg "law"=some (.ref fa))
  (Zz:Zs K zn)
  (TD:DkC K jy)
  (mkD:kq K jy=true)
  (kpD:bQ K (.ref jy)=true)
  (Ro:DM K jy "__init__" "Desk.__init__" BA)
  (lL:Cn mg "MOST_LETTERS" 6)
  (oQ:Cn mg "MOST_PRICE" 9)
  (oR:Cn mg "MOST_FACTS" 6)
  (lM:Cn mg "MOST_ERRANDS" 6)
  (Ws:O7 K BP [jw,io,jx,fZ,p7,pc,jX,jY,i_,ip,lR])
  (Aq:TopC K "NoState" io)
  (Dp:TopC K "NoWant" jx)
  (Dq:TopC K "NoBook" jw)
  (yr:TopC K "NoErrand" fZ)
  (Ar:TopC K "Nothing" ip)
  (mG:TopC K "PlanError" i4)
  (w_NoState:Wy K io i4 [(jw,false),(io,true),(jx,false),(fZ,false),(p7,false),(pc,false),(jX,false),(jY,false),(i_,false),(ip,false),(lR,false)])
  (w_NoWant:Wy K jx i4 [(jw,false),(io,false),(jx,true),(fZ,false),(p7,false),(pc,false),(jX,false),(jY,false),(i_,false),(ip,false),(lR,false)])
  (w_NoBook:Wy K jw i4 [(jw,true),(io,false),(jx,false),(fZ,false),(p7,false),(pc,false),(jX,false),(jY,false),(i_,false),(ip,false),(lR,false)])
  (w_NoErrand:Wy K fZ i4 [(jw,false),(io,false),(jx,false),(fZ,true),(p7,false),(pc,false),(jX,false),(jY,false),(i_,false),(ip,false),(lR,false)])
  (w_Nothing:Wy K ip i4 [(jw,false),(io,false),(jx,false),(fZ,false),(p7,false),(pc,false),(jX,false),(jY,false),(i_,false),(ip,true),(lR,false)])
  (Dr:gO K mg "_law_which" ql)
  (BB:gO K mg "share_none" kY)
  (Iv:gO K mg "is_word" qN)
  (sI:gO K mg "are_rising_words" eU)
  (Ds:gO K mg "are_facts" mB)
  (FJ:gO K mg "is_whole" r_)
  (Dt:gO K mg "is_errand" mD)
  (Iw:gO K mg "is_book" nM)
  (Ix:gO K mg "is_want" v4)
  (zo:gO K mg "check_state" mV)
  (BC:gO K mg "check_want" oS)
  (wt:gO K mg "errand_called" kF)
  (Iy:gO K mg "fulfils" qO)
  (Du:gO K mg "is_doable" qo)
  (Iz:gO K mg "checked" v9)
  (zq:gO K mg "check_place" mW)
  (Dv:gO K mg "check_aim" qp)
  (Rp:gO K mg "done" Fv)
  (FK:gO K mg "shortest" si)
  (FL:gO K mg "cheapest" sk)
  (d_Desk_state:DM K jy "state" "Desk.state" oU)
  (d_Desk_row:DM K jy "row" "Desk.row" sr)
  (d_Desk_spent:DM K jy "spent" "Desk.spent" k_)
  (d_Desk_carry_out:DM K jy "carry_out" "Desk.carry_out" jP)
  (d_Desk_do:DM K jy "do" "Desk.do" vg)
  (d_Desk_take_back:DM K jy "take_back" "Desk.take_back" jQ)
  (d_Desk_again:DM K jy "again" "Desk.again" oV)
  (d_Desk_next_to:DM K jy "next_to" "Desk.next_to" lN)
  (d_Desk_go_to:DM K jy "go_to" "Desk.go_to" oW)
  (d_Desk_held_since:DM K jy "held_since" "Desk.held_since" jt)
  (zr:gO K mg "_law_cell_at" mZ)
  (Dw:gO K mg "_law_mixed" qu)
  (FO:gO K mg "_law_word" sx)
  (Dx:gO K mg "_law_facts" qv)
  (FP:gO K mg "_law_some" oY)
  (FQ:gO K mg "_law_thin" jT)
  (BD:gO K mg "_law_errand" l5)
  (FR:gO K mg "_law_book" o_)
  (FS:gO K mg "_law_want" sB)
  (FT:gO K mg "_law_case" sC)
  (vp:gO K mg "_law_bad_errand" jU)
  (yt:gO K mg "_law_bad_book" jv)
  (wu:gO K mg "_law_bad_state" kH)
  (yu:gO K mg "_law_bad_want" lO)
  (IA:gO K mg "_law_new" vk)
  (IB:gO K mg "_law_ask" vn)
  (l0:dE K ba "law"=some (some (.ref A)))
  (l1:K.lookup A=some ⟨oc,od,.func (dh "law" "law" (iN vS) (eJ vS) (ap vS) .none kV dc pm an cv ct),sl⟩)
  (l2:gX K cv "law"=true)
  (l3:bQ K (.ref A)=true)
  : ∃ fd:cP,(∀ (s:ag) (v:a9),vq s fd ⟨[v],[]⟩ [("_law_script",v)])/\∀ base:br,K.In base->base.Ns ba mg->l_ l.prog w K mg base (kR l.prog w) 12 fa fd ["_law_script"] (SC K F_law):=by
 have q:=hfa.symm.trans (gx X G l0)
 cases q
 refine ⟨dh "law" "law" (iN vS) (eJ vS) (ap vS) .none kV dc pm an cv ct,fun s v=>.of_eq rfl,fun base X G=>?_⟩
 let e:En:=⟨l.prog,w,K,mg,base,SD [("NoBook",jw),("NoState",io),("NoWant",jx),("NoErrand",fZ),("NoRow",p7),("NoWay",pc),("NoPaper",jX),("NoFacts",jY),("NoNumber",i_),("Nothing",ip),("NoText",lR),("PlanError",i4)]⟩
 have B:Bi e.mg:=T4 X G Zz
 have v5:ER e "NoState":=Aq.er X G rfl
 have y6:ER e "NoWant":=Dp.er X G rfl
 have y7:ER e "NoBook":=Dq.er X G rfl
 have sg:ER e "NoErrand":=yr.er X G rfl
 have lg:ER e "Nothing":=Ar.er X G rfl
 obtain ⟨fw,fdw,Fw,mw⟩:=Dr.ex
 have W:Wh e.P e.w e.K e.mg e.base e.cls "_law_which" BP IS:=by
  refine ⟨⟨_,_,_,yY (e:=e) Fw B (T5 X G Zz) (T6 X G Ws rfl),mw,Fw.kp,b1 Fw⟩,gx X G mG.ns,?_,fun y j h=>?_⟩
  ·obtain ⟨bm,o,_⟩:=(EZ X G mG.ns mG.ex mG.mb).2
   exact ⟨bm,o⟩
  unfold IS at h
  by_cases hy:y="NoState"
  ·subst hy
   simp at h
   subst h
   exact CO X G Aq w_NoState Ws rfl rfl rfl rfl rfl (by decide) (by decide)
  rw [if_neg hy] at h
  by_cases hy:y="NoWant"
  ·subst hy
   simp at h
   subst h
   exact CO X G Dp w_NoWant Ws rfl rfl rfl rfl rfl (by decide) (by decide)
  rw [if_neg hy] at h
  by_cases hy:y="NoBook"
  ·subst hy
   simp at h
   subst h
   exact CO X G Dq w_NoBook Ws rfl rfl rfl rfl rfl (by decide) (by decide)
  rw [if_neg hy] at h
  by_cases hy:y="NoErrand"
  ·subst hy
   simp at h
   subst h
   exact CO X G yr w_NoErrand Ws rfl rfl rfl rfl rfl (by decide) (by decide)
  rw [if_neg hy] at h
  by_cases hy:y="Nothing"
  ·subst hy
   simp at h
   subst h
   exact CO X G Ar w_Nothing Ws rfl rfl rfl rfl rfl (by decide) (by decide)
  rw [if_neg hy] at h
  cases h
 have ef:=y_ (e:=e) BB B
 have lf:=Fj (e:=e) Iv B lL
 have dY:=qX (e:=e) sI B lf
 have eN:=Bl (e:=e) Ds B dY
 have s9:=D7 (e:=e) FJ B
 have qm:=Bo (e:=e) Dt B lf s9 eN ef oQ
 have vc:=Fm (e:=e) Iw B dY qm oR lM
 have v6:=Fo (e:=e) Ix B eN ef
 have mX:=y4 (e:=e) zo eN v5
 have oT:=zb (e:=e) BC v6 y6
 have fi:=v7 (e:=e) wt B
 have v8:=Fp (e:=e) Iy B ef
 have qr:=Bs (e:=e) Du v8
 have vd:=Ft (e:=e) Iz vc y7
 have eg:=y9 (e:=e) zq vd mX
 have j6:=Bu (e:=e) Dv eg oT
 have FA:=OE (e:=e) Rp eg fi qr sg
 have jR:=Db (e:=e) FK j6
 have su:=Dd (e:=e) FL j6
 have G_Desk_state:=ze (e:=e) d_Desk_state TD
 have G_Desk_row:=Df (e:=e) d_Desk_row B TD
 have G_Desk_spent:=zg (e:=e) d_Desk_spent B TD fi
 have G_Desk_carry_out:=u9 (e:=e) d_Desk_carry_out TD G_Desk_state FA
 have G_Desk_do:=FD (e:=e) d_Desk_do TD G_Desk_carry_out
 have G_Desk_take_back:=ub (e:=e) d_Desk_take_back TD lg
 have G_Desk_again:=zi (e:=e) d_Desk_again TD lg
 have G_Desk_next_to:=wn (e:=e) d_Desk_next_to TD G_Desk_state jR
 have G_Desk_go_to:=zj (e:=e) d_Desk_go_to TD G_Desk_state su jR
 have G_Desk_held_since:=sw (e:=e) d_Desk_held_since B TD G_Desk_state
 have m_:=yf (e:=e) zr B
 have aG:=By (e:=e) Dw m_
 have jS:=Dh (e:=e) FO B aG
 have qw:=Bz (e:=e) Dx B jS aG
 have sF:=Dk (e:=e) FP B aG
 have sA:=Dl (e:=e) FQ B aG
 have p6:=zm (e:=e) BD B aG sA
 have sD:=Dm (e:=e) FR B qw jS p6 aG
 have sG:=Dn (e:=e) FS B aG
 have sH:=Do (e:=e) FT sD aG sF sG
 have jV:=ui (e:=e) vp B aG
 have lQ:=wo (e:=e) yt B jV aG
 have fk:=vj (e:=e) wu B aG
 have lP:=wq (e:=e) yu B fk aG
 have vm:=OG (e:=e) Ro TD mkD kpD (gx X G TD.ns) eg
 have qP:=FH (e:=e) IA TD vm W
 have jW:=FI (e:=e) IB TD G_Desk_next_to G_Desk_go_to G_Desk_do G_Desk_take_back G_Desk_again W
 exact (Rn (e:=e) (Ep l1 l2 l3) B TD sH vm lP jW aG G_Desk_state G_Desk_row G_Desk_spent G_Desk_held_since lQ qP fk).imp QV
end
end Z
section
open PySem PySem.W PyProof.Rows
namespace PySem.W.Fast
def tw15908230832625142174:Nat:=0
def tw16181826886374165319:Nat:=0
def tw16203927145895372295:Nat:=0
def tw13388030323581437132:Nat:=0
def tw16984795982429250355:Nat:=0
def tw512277988212008802:Nat:=0
def tw18051456566059145682:Nat:=0
def tw6397713009378069947:Nat:=0
def tw9152519625440277325:Nat:=0
def tw8977306664925485629:Nat:=0
def tw12654376436621962898:Nat:=0
def tw15281943775403407439:Nat:=0
def tw13481893107231791128:Nat:=0
def tw9142267020184520610:Nat:=0
def tw10834931851455572773:Nat:=0
def tw14549381993475863905:Nat:=0
def tw11246445295546259472:Nat:=0
def tw18175859995589273927:Nat:=0
def tw17484713304136243054:Nat:=0
def tw7026211178464592940:Nat:=0
def tw10016419607449896324:Nat:=0
def tw17458942659764800420:Nat:=0
def tw4356256407767400101:Nat:=0
def tw9234396720288204507:Nat:=0
def tw14622443416621860907:Nat:=0
def tw5862577623662516515:Nat:=0
def tw12716091704081004077:Nat:=0
def tw10420285525501819946:Nat:=0
def tw5312785036399098961:Nat:=0
def tw16810020218107625040:Nat:=0
def tw3091019406463790537:Nat:=0
def tw12462619570836795181:Nat:=0
def tw5530296271590033519:Nat:=0
def tw5866648542278449670:Nat:=0
def tw10583723746478063385:Nat:=0
def tw6837003808628762757:Nat:=0
def tw9945396482100180121:Nat:=0
def tw7383542068287440042:Nat:=0
def tw10878055035461981254:Nat:=0
def tw11643612711607266931:Nat:=0
def tw13652245808349344426:Nat:=0
def tw9071373290089085546:Nat:=0
def tw10000018692174967649:Nat:=0
def tw1958722182116726710:Nat:=0
def tw13453652664890227289:Nat:=0
def tw15570253542800212492:Nat:=0
def tw2451211379079349991:Nat:=0
def tw9116573303197891206:Nat:=0
def tw1277163048280953094:Nat:=0
def tw2995205457538587724:Nat:=0
def tw511127176935782022:Nat:=0
def tw10159253806034361298:Nat:=0
def tw2943968629656100304:Nat:=0
def tw5973800614287529831:Nat:=0
def tw11195347397002206554:Nat:=0
def tw6596924185986693002:Nat:=0
def tw13112229775337832850:Nat:=0
def tw5048740235478616913:Nat:=0
def tw1007247360118666308:Nat:=0
def tw15323800770045898987:Nat:=0
def tw2817785802090112283:Nat:=0
def tw6397153213165876181:Nat:=0
def tw16218949250739850342:Nat:=0
def tw17647221043463082140:Nat:=0
def tw14293327339217495473:Nat:=0
def tw3283531207734065941:Nat:=0
def tw7541312955321150256:Nat:=0
def tw6568075215944518909:Nat:=0
def tw5107459057248763931:Nat:=0
def tw11424231878885364156:Nat:=0
def tw7730735933538485446:Nat:=0
def tw16282390878816025207:Nat:=0
def tw5503714242479314304:Nat:=0
def tw3426579287278697485:Nat:=0
def tw13438269739164615210:Nat:=0
def tw8475303735411484988:Nat:=0
def tw7394175235160743730:Nat:=0
def tw8598357374723252146:Nat:=0
def tw10291979911878784037:Nat:=0
def tw17328963184189173311:Nat:=0
def tw6049589351779433960:Nat:=0
def tw4114392122082816625:Nat:=0
def tw3302900188564288975:Nat:=0
def tw9750250053052011212:Nat:=0
def tw5092735049811756753:Nat:=0
def tw13394358467697687466:Nat:=0
def tw7422251611847192942:Nat:=0
def tw18286482527205490365:Nat:=0
def tw14892170496300033352:Nat:=0
def tw8818520183850798713:Nat:=0
def tw10841424862818106372:Nat:=0
def tw10599308959945368922:Nat:=0
def tw3105102280420100653:Nat:=0
def tw9952531037057362043:Nat:=0
def tw4842990233378763459:Nat:=0
def tw2667581828023694056:Nat:=0
def tw721384780420702163:Nat:=0
def tw15776457614144289328:Nat:=0
def tw3809800309514912436:Nat:=0
def tw8317760931047218517:Nat:=0
def tw873380465349351494:Nat:=0
def tw15735811908758042279:Nat:=0
def tw4455156935280394716:Nat:=0
def tw13758495482053319708:Nat:=0
def tw15508857759993668408:Nat:=0
def tw1686342328777088141:Nat:=0
def tw10565743467368650391:Nat:=0
def tw16047048968912161799:Nat:=0
def tw11300811058174144650:Nat:=0
def tw9311428343162075126:Nat:=0
def tw4770281673032213777:Nat:=0
def tw2202651971716488625:Nat:=0
def tw17191913490332535019:Nat:=0
def tw7127054845175591405:Nat:=0
def tw18406937042841035208:Nat:=0
def tw4845317008576141306:Nat:=0
def tw10031963798455660743:Nat:=0
def tw4023042654305318765:Nat:=0
def tw5812802979917293292:Nat:=0
def tw2147349388229522498:Nat:=0
def tw4302171199966144379:Nat:=0
def tw6200949351323585187:Nat:=0
def tw15124644231958306175:Nat:=0
def tw12549858173854762592:Nat:=0
def tw3898163474436046956:Nat:=0
def tw7286579064125965890:Nat:=0
def tw14079470061203751442:Nat:=0
def tw2175044338748660813:Nat:=0
def tw17105638187031097343:Nat:=0
def tw17131823099363145089:Nat:=0
def tw9309727710943344787:Nat:=0
def tw16309239704592125547:Nat:=0
def tw6753776531669048867:Nat:=0
def tw13827782931102975443:Nat:=0
def tw18324170421575679712:Nat:=0
def tw1776989981455471267:Nat:=0
def tw10699802858729726418:Nat:=0
def tw17558969138967278536:Nat:=0
def tw16019680267528532142:Nat:=0
def tw330394971013714299:Nat:=0
def tw7032154670568538291:Nat:=0
def tw10686350205039534627:Nat:=0
def tw6270291902739821258:Nat:=0
def tw5733333711982636024:Nat:=0
def tw8524067543967984132:Nat:=0
def tw13951628156773468612:Nat:=0
def tw15632761330365135419:Nat:=0
def tw10037929232634475018:Nat:=0
def tw10139602177153268526:Nat:=0
def tw17242198830813598319:Nat:=0
def tw15792855545481992395:Nat:=0
def tw17206663312518910960:Nat:=0
def tw17540549968202740316:Nat:=0
def tw6874635370925218809:Nat:=0
def tw15073499456312426923:Nat:=0
def tw6264624806466155813:Nat:=0
def tw15763921083917667619:Nat:=0
def tw8514909526343063837:Nat:=0
def tw9155319238999059907:Nat:=0
end PySem.W.Fast
theorem PySem.Challenge.cw_errands_k34_desk_refused_holds : PySem.Challenge.rw_errands_k34_desk_refused.Holds := by
 w_on;o_law;k_head;(case hw=>w_witness2)
 k_fill
 refine J.walkF (l:=PySem.Challenge.rw_errands_k34_desk_refused) (k:=12) (x:="_law_script") (F0:=Z.F_law) rfl rfl ⟨rfl,by decide,by decide⟩ (fun w h Y=>by first|exact PySem.W.kIn_of Y|exact PySem.W.km_in_of Y) ?F (fun ns _=>Z.law_true ns)
 case F =>
  intro w mg fa h KX G hmg
  refine' Z.all_mk KX G hmg ?_ ?_ ?_ ?_ ?_ ?_ ?_ ?_ ?_ ?_ ?_ ?_ ?_ ?_ ?_ ?_ ?_ ?_ ?_ ?_ ?_ ?_ ?_ ?_ ?_ ?_ ?_ ?_ ?_ ?_ ?_ ?_ ?_ ?_ ?_ ?_ ?_ ?_ ?_ ?_ ?_ ?_ ?_ ?_ ?_ ?_ ?_ ?_ ?_ ?_ ?_ ?_ ?_ ?_ ?_ ?_ ?_ ?_ ?_ ?_ ?_ ?_ ?_ ?_ ?_ ?_ ?_ ?_ ?_ ?_ ?_
  all_goals first
   |(refine' J.d_in KX G ?_ ?_ ?_ ?_<;>try k_is)
   |(refine' J.cn_in KX G ?_<;>try k_is)
   |(refine' J.DkC.mk ?_ (L2.Cls.mk ?_ ?_ ?_ ?_) ?_ ?_ ?_ ?_<;>try k_is)
   |(refine' J.dm_in ?_ ?_ ?_ ?_ ?_<;>try k_is)
   |k_is
   |(refine' J.TopC.mk ?_ ?_ ?_<;>try (first|k_is|k_exc))
   |(refine' J.topN ?_ ?_ ?_ ?_ ?_ ?_ ?_ ?_ ?_ ?_ ?_ ?_ ?_ ?_ ?_ ?_ ?_ ?_ ?_ ?_ ?_ ?_ ?_<;>try (first|k_is|rfl|exact fun _ _=>⟨_,rfl,rfl⟩|decide +kernel))
   |((refine' J.Wy.mk ?_ ?_ ?_ ?_ ?_ ?_ ?_ ?_ ?_ ?_)<;>try (first|k_is|decide|((repeat' (first|exact .nil|refine' .cons ?_ ?_ ?_))<;>try (first|k_is|decide))))
   |((repeat' (first|exact .nil|refine' .cons ?_ ?_))<;>try (first|(refine' J.cw_in ?_ ?_ ?_<;>try k_is)|k_is))
   |skip
end
