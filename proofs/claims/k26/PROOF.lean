import PyProof.Rows.All
import Wide.All
import OpenK.AllK
import Wide.FinOn
import Lean
import PyProof.EqAt
import PyProof.EqKinds
import PyProof.TupleCall
import KE.KDictOf
import PyProof.AttrMissHeap
import KE.KRevIter
import PyProof.DictWalks
import PyProof.MinMaxWalk
import PyProof.SeqI3
import PyProof.WalkInts
import PyProof.ExcInit
import PyProof.InstStoreFacts
import PyProof.DictCompW
import KE.KItemsList
import KE.KEqDict
import PyProof.Rows.CallKwBuiltin
import KE.KLam
import KE.KMinKey
import PySem.Challenge.RW_errands_k26_whole_gain
set_option Elab.async false
set_option linter.all false
set_option maxRecDepth 100000
set_option maxHeartbeats 0
open PySem renaming wpAny_bind->a7,wpAny_pure->aa,Value->af,Shared->ai,Addr->ak,wpAny->ar,starEach->aJ,model->aL,Program->aX,Expr->bd,World->bn,mainGlobals->bt,Around->bv,wpAny_setState_of->bx,boot_len->bC,Heap->bE,compareOp->bO,wpAny_newObj_type->bQ,cellsFrom->bV,mem_of_lookup->bW,wpAny_call_entry->bX,rawInt->bZ,wpAny_callSpecial?_slot->c8,wpAny_mono->ck,wpAny_holding->cH,Stmt->cP,wpAny_truthy_bool->cY,wpAny_seqItems->du,Scope->dz,wpAny_field->dJ,eval->ed,foldedSetIterable->el,wpAny_of_eq->eF,FuncData->eK,binaryOp->eW,fits_of_scanBound->fj,sysModules->fk,codeAny_builtin->fo,backTo->fU,wpAny_pyIter_tuple->fV,wpAny_setField->fW,wpAny_pyIter_list->gy,behindInMarks->gF,codeAny->gU,swapsWith->gX,scanBound->gY,wpAny_askSetting->gZ,setField->g_,wpAny_isInstance->hG,strIterType->i3,wpAny_typeNameOfWhole_keyiter->i5,bootBuiltins->i7,assignEach->i8,wpAny_rule->i9,wpAny_setField_rec->ig,wpAny_passesOwn->iq,letOwnedTupleGo->ir,plainId_quiet->iF,wpAny_storeSet_of->iL,pyNext->jl,wpAny_standAt->jD,IsPair->jJ,cLine->kL,NameKind->kM,SetTable->kQ,Builtin->kR,firstArgMember->kS,wpAny_tryCatch->kU,wpAny_attempt->mq,sliceBounds->ms,wpAny_letGo->mv,wpAny_updateSeq->n6,codeAny_mono->nL,pickOrder->oq,builtinsNs->oy,wpAny_Call_Name_kw->oz,tupleKind_room_in1->oB,getItem->qh,wpAny_comprehension_free->qo,tupleKind->rV,codeAmong->rW,raiseNew->rX,seqItems?->rY,assign->sR,wpAny_typeOf->sS,newExc->sU,wpAny_execs_nil->uh,pyIter->vG,recursionLimit->vH,bindArgs->vI,IsPart->vJ,relayAll->vL,isSubtype_stop->vM,IsZip->vN,wpAny_updateSeq_pair->vO,standAt->wC,Arguments->wD,callerA->wE,swapsWithSole->xC,swappedStores->xD,wpAny_onRaise->xH,isTrue->xV,Result->xY,holding->zQ,BindsTo->zR,Keyword->zS,concat_meets->zT,valueAt->zU,wpAny_pyIter_slot->zW,wpAny_dictEntries->A1,TriplesOk->BD,noFill_tuple_add->BE,PyData->BI,sizeLine_eq->Db,subscripted->Dc,codeAny_of_tree->Dk,wpAny_dictEpoch->Dm,Paired->FG,GenState->FI,wpAny_call->FK,atKey->FO,newFunctionEnv->FP,entryFor->FR,entryFor_alias->FS,isSubtype_type->FT,wpAny_fieldsOf->FU,field->FV,assignInOrder->J6,seq_tuple_add->J9,attributeBase->Jb,call->Jc,wpAny_handled->Je,Drawn->KG,Model->KH,CmpOp->KI,lastMarks->KJ,bindL->KM,bindC->KN,DictEntry->KO,updateSeq->KS,sub_set_self->Lc,setNext->Ld,wpAny_isTrue_Compare1->Oq,builtinLookup_eq_fast->Ot,wpAny_isOneOf_keyiter->Ow,bindName->OD,keywordEach->OE,wpAny_alloc->OG,Walks->OH,codeAny_call_builtin->OK,unsupported->OL,newTuple->OM,wpAny_throw->ON,ZipApart->OO
open PySem.W renaming Frag->a8,kia_one->cK,codeIn->dA,mroIn->dB,keepIn->dX,fnOf->dY,nsMap_none_of_in->eC,nsIn->eX,codeHdIn->fi,cellsFrom_some->gH,mg_of->k7,findIn->lM,isNs_of_in->lN,kitOne->ql,clsIn->sx,methodObj->uo,kitx_list->uq,instObj->xc,OpenLaw->xg,kla_obj->xm,lookIn->xX,kla_fn->y9,excIn->z_,hideAll_get->Fu,codeHd_of_K->Fw,of_hideAll->FH,kitx_tuple->FJ,codeRec_of->FL,specialIn->Hw,kitx_dict->Hx,plainGet->J8,hideAll->KF,takesIn->KL,typeIn->Li,nsOkIn->Lj,WalkO->Os,subIn->Ov
open List renaming mem_cons_of_mem->a9,mem_cons_self->ah,getElem?_set_ne->am,length_map->ao,mem_append_right->ap,map_cons->aB,getElem?_set_self->aK,mem_map_of_mem->aM,length_append->aN,mem_cons->aO,size_toArray->aR,length_cons->aT,map_append->aU,getElem?_map->aW,getElem?_eq_getElem->aY,getElem?_append_right->bc,not_mem_nil->bg,getElem?_append_left->bj,range->bA,mem_append_left->bD,length_nil->bJ,find?_cons->bP,all_eq_true->bY,getD_eq_getElem?_getD->c6,getElem?_eq_none->cu,map_map->cx,append_nil->cA,getElem?_replicate->cB,lookup_cons->cC,mem_singleton->cJ,foldl_cons->cO,length_replicate->cU,mem_of_getElem?->df,length_singleton->dD,map_nil->dL,any_cons->e7,length_range->eS,nil_append->fX,sublist_append_left->gd,getElem_of_mem->gz,nodup_nil->gC,length_filter_le->i6,getElem_mem->iK,forIn_cons->jg,getElem?_cons_succ->jm,getElem_map->kK,filterMap_map->mC,forIn_nil->mD,perm_ext_iff_of_nodup->mH,length->nM,append_assoc->nO,any_eq_true->pU,all_map->qk,mem_append->qm,replicate->sv,filterMap_cons->ug,map_congr_left->uk,filter_sublist->ul,all_cons->uu,set_cons_zero->vE,set_cons_succ->vF,any_map->wH,pairwise_of_forall_mem_list->wI,length_filterMap_eq_countP->xk,length_take->xE,length_drop->xF,ext_getElem->xG,lookup->x_,of_mem_zip->zL,length_eraseIdx_of_lt->AC,map->AF,drop_eq_getElem_cons->BF,length_erase_of_mem->Df,getElem?_cons_zero->Dl,take_of_length_le->FC,length_pos_of_mem->FD,mem_erase_of_ne->HC,getElem?_range->Jf,replicate_succ->Ji,replicate_zero->Jj,lookup_append->KP,map_inj_right->KW,contains_cons->KY,getElem_range->KZ,any_eq_false->L8,nodup_append->Lb,zipIdx_cons->Ou,cons_append->Oy,zipIdx_nil->OP,nodup_cons->OT,mem_filter->O_
open PySem.Heap renaming get?_push_of_some->ag,lt_size->aq,get?_push_size->ax,SameBut->bH,size_push->cg,get?_update_other->dn,get?_update_self->dE,ExtBut->y0,IsTuple->Fy
open Nat renaming le_refl->au,ne_of_lt->aD,lt_of_lt_of_le->aI,le_trans->cy,le_of_lt->cz,lt_irrefl->cQ,zero_le->cV,lt_succ_self->dq,lt_succ_of_lt->eV,ne_of_gt->fm,not_lt_zero->lO,lt_of_lt_of_eq->ng,lt_succ_of_le->oj,le_succ->om,lt_of_le_of_lt->vK,lt_trans->xh,le_of_lt_succ->xi,add_zero->xj,min_le_right->xZ,mod_lt->BG,lt_asymm->FQ,mul_comm->FX,succ_pos->FY,lt_of_succ_lt_succ->FZ,add_lt_add_right->Jg,eq_zero_or_pos->L7,le_succ_of_le->Oz,le_of_not_lt->OF,le_add_right->OQ,reduceLeDiff->OY,reduceEqDiff->OZ
open Array renaming length_toList->av,getElem?_toList->dC,getD_eq_getD_getElem?->i4,getElem?_eq_getElem->iM,eq_empty_of_size_eq_zero->kn,size_map->rZ,all_toList->xl,replicate->y8,getElem?_eq_none->Dj,toArray_toList->FW,toList_append->HB,append_assoc->J5,find?_toList->J7,forIn_toList->Jh,toList_push->KQ,size_push->Ox
open Bool renaming and_eq_true->aF,false_ne_true->bh,false_eq_true->bU,or_eq_true->ji,not_false->jG,not_true->kP,false_or->oh,noConfusion->pV,beq_eq_decide_eq->qW,and_false->sy,true_and->uw,and_self->ux,eq_iff_iff->zN,false_and->AA,or_eq_false_iff->HA,not_eq_true'->Lf
open PySem.PyData renaming str->aS,eqv->bq,int->b_,bool->cr,tuple->f9,canLayAll0->hW,eqvAll->iU,canLay0->jC,list->nh,dict->FA
open PyProof.Rows renaming boot_tuple->aZ,boot_all->cm,slot_tuple_getitem->fH,callWith_type1->gG,boot_list->iV,Keyed->jE,boot_str->nK,AllBare->qg,StrsAre->sW,SortKind->vQ,boot_sorted->wG,assignInOrder_cons->xW,boot_max->yb,boot_any->yc,boot_sum->yd,SortSt->F_,subscriptTail->Ja,subscriptTail_builtinR->L9,IntsAre->La
open Option.some renaming inj->bu,injEq->De
open PySem.Heap.SameBut renaming update->bG
open PySem.Value renaming ref->bK,none->e6,type->ip,str->jk,int->ki,isStrOf->uf,bool->J4
open Ne renaming symm->c9
open PySem.NameKind renaming free->cf,cell->dW,«local»->qj
open PySem.SetTable renaming sizeAbove->cj,grown->hZ,below->h_,fits->mE,bits->mG,turns->qi,layClean->ui,laid->zM,orStandIn->Fx,relaid->Jd,fill->Lg,road->Lh
open PySem.Builtin.SmallTypes renaming nextOf->cp,ownedTupleIsFree->eB,ownedTupleHandOut->mF
open Option renaming map_some->cZ,getD_none->gx,getD_some->j_,bind_some->ou,isSome_map->vD,isSome_some->Hy
open List.Sublist renaming refl->dg
open PySem.SetTable.layClean renaming free->dG
open PySem.Around renaming under_plainId->dR,frames_deeper->Fv
open PySem.F renaming plain_max_loop->dZ,slot_dict_keyiterator_next->ft,slot_tuple_iterator_next->iN,args_tuple_add_2->n5,entry_tuple_add->nN,slot_tuple_add->oA,entry_max_loop->oC,args_dict_keyiterator_next_1->s9,slot_zip_next->sw,entry_dict_keyiterator_next->sA,slot_list_append->zY,type_list_append->zZ,plainAttrs_list->AE,args_tuple_iterator_next_1->BH,slot_dict_iter->BJ,entry_tuple_iterator_next->Dd,slot_enumerate_next->KU
open PySem.Obj renaming mapFields->e8,mapSeq->fJ,putSet->qp,data_mapFields->Le
open PySem.Str renaming ofString->ef
open Int renaming toNat_of_nonneg->eh,toNat_natCast->jI,emod_lt_of_pos->n8,le_trans->qr,emod_nonneg->qX,le_refl->sY,reduceLT->G0
open Or renaming inr->fB,inl->iI
open PySem.AutoSeq1 renaming wpAny_loadPart'->fK
open PySem.Builtin.Slice renaming slicePlaces->hU,sliceAdjust->kO,sliceApplied->ur
open PyProof.Rows.F renaming plain_set_update_loop->hV,entry_set_update_loop->oo
open PySem.Builtin.Tuple renaming tupleExact->ic,tupleItemsOf->ut
open False renaming elim->iu
open True renaming intro->iE
open ForInStep renaming yield->iJ
open PySem.Paired renaming length->iT
open PySem.Builtin.Frozenset renaming updateFrom->jh,isAnySet->r_,sizeOf->sV,copyOf->sX,newClass->OI,oneOther->OR,addrOf->OS,slot1->OU,baseOf->OV,merge->OW,unchanged->OX
open PySem.Heap.FunFrames renaming mem->jZ
open PySem.Walks renaming list->kj
open PySem.Builtin.Dict_items renaming ownsTuple->lJ
open Sum renaming inr->mr,inl->xa
open PySem.Builtin.Builtins renaming bindParams->sd
open And renaming intro->uj
open PySem.Builtin.List renaming listExtendWith->uv,listSameRef->wF
open PySem.PassesOwn renaming never->vP
open PyProof.Rows.IsTup renaming new->xf
open PySem.Calls renaming Name_function_global->zO,call_function_entry->AD,evalArgs_plain->FM
open PySem.pickOrder renaming go->zV
open PySem.SetTable.below renaming go->zX
open List.Pairwise renaming nil->AB
open PySem.SeqAt.EqAt renaming int_str->D9,str_int->Da
open PySem.Shared renaming heap->Fz,TypeIs->OJ
open PySem.Data renaming fields->Hv
open PySem.Value.type renaming inj->Hz
section
namespace L2
open PySem PySem.Spec PyProof.Rows
abbrev eR:=Sum Int Str
def ye:eR->af->Bool
 |.inl k,v=>Value.isInt k v
 |.inr x,v=>uf x v
def Wn (w:bn):eR->Int
 |.inl k=>hashInt k
 |.inr x=>hashStr w x
theorem fc:∀ {k:eR}{v:af},ye k v=true->(∃ i t,k=xa i/\v=ki i t)\/(∃ x t,k=mr x/\v=jk x t)
 |.inl i,v,h=>by
  obtain ⟨t,e⟩:=Value.isInt_shape (k:=i) (v:=v) h
  exact .inl ⟨i,t,rfl,e⟩
 |.inr x,v,h=>by
  obtain ⟨t,e⟩:=Value.isStrOf_shape (x:=x) (v:=v) h
  exact .inr ⟨x,t,rfl,e⟩
theorem Jk (i:Int) (t:Tok):ye (.inl i) (.int i t)=true:=by simp [ye,Value.isInt]
theorem Jl (x:Str) (t:Tok):ye (.inr x) (.str x t)=true:=by simp [ye,uf]
theorem S8 (a b:Int):decide ((xa a:eR)=xa b)=(a==b):=by
 by_cases e:a=b
 ·subst e;simp
 ·have h:¬ (xa a:eR)=xa b:=fun q=>e (Sum.inl.inj q)
  rw [decide_eq_false h]
  exact (beq_eq_false_iff_ne.mpr e).symm
theorem S9 (a b:Str):decide ((mr a:eR)=mr b)=decide (a=b):=by
 by_cases e:a=b
 ·subst e;simp
 ·have h:¬ (mr a:eR)=mr b:=fun q=>e (Sum.inr.inj q)
  rw [decide_eq_false h,decide_eq_false e]
theorem Sc (a:Int) (b:Str):decide ((xa a:eR)=mr b)=false:=decide_eq_false (fun q=>nomatch q)
theorem Sd (a:Str) (b:Int):decide ((mr a:eR)=xa b)=false:=decide_eq_false (fun q=>nomatch q)
def fM (prog:aX) (w:bn):PySem.KeyKind prog w eR where
 is:=ye
 hash:=Wn w
 inj:=fun v a b ha hb=>by
  rcases fc ha with ⟨i,t,rfl,rfl⟩|⟨x,t,rfl,rfl⟩
  ·rcases fc hb with ⟨j,u,rfl,e⟩|⟨y,u,rfl,e⟩
   ·injection e with e1 _;rw [e1]
   ·exact nomatch e
  ·rcases fc hb with ⟨j,u,rfl,e⟩|⟨y,u,rfl,e⟩
   ·exact nomatch e
   ·injection e with e1 _;rw [e1]
 byValue:=fun k v h=>by
  rcases fc h with ⟨i,t,rfl,rfl⟩|⟨x,t,rfl,rfl⟩<;>rfl
 pyHash:=fun hv h=>by
  rcases fc hv with ⟨i,t,rfl,rfl⟩|⟨x,t,rfl,rfl⟩
  ·exact wpAny_pyHash_int h
  ·exact wpAny_pyHash_str h
 eqBool:=fun hu hv h=>by
  rcases fc hu with ⟨i,t,rfl,rfl⟩|⟨x,t,rfl,rfl⟩
  ·rcases fc hv with ⟨j,u,rfl,rfl⟩|⟨y,u,rfl,rfl⟩
   ·rw [S8] at h;exact wpAny_eqBool_int h
   ·rw [Sc] at h;exact D9 i t y u _ _ _ _ h
  ·rcases fc hv with ⟨j,u,rfl,rfl⟩|⟨y,u,rfl,rfl⟩
   ·rw [Sd] at h;exact Da x t j u _ _ _ _ h
   ·rw [S9] at h;exact wpAny_eqBool_str h
 «strs»:=fun k x t v h=>by
  rcases fc h with ⟨i,u,rfl,e⟩|⟨y,u,rfl,e⟩
  ·exact nomatch e
  ·injection e with e1 _
   subst e1
   cases v<;>rfl
theorem Dn (prog:aX) (w:bn) (i:Int) (t:Tok):(fM prog w).is (.inl i) (.int i t)=true:=Jk i t
theorem Do (prog:aX) (w:bn) (x:Str) (t:Tok):(fM prog w).is (.inr x) (.str x t)=true:=Jl x t
end L2
namespace L2
open PySem PySem.Spec PyProof.Rows
inductive V where
 |non|bl (b:Bool)|int (i:Int)|str (x:Str)|byt (b:Array UInt8)|flt (b:UInt64)|ref (a:ak)|ty (n:String)
 deriving DecidableEq
def cR:V->af->Prop
 |.non,u=>u=e6
 |.bl b,u=>u=J4 b
 |.int i,u=>∃ t,u=ki i t
 |.str x,u=>∃ t,u=jk x t
 |.byt b,u=>∃ t,u=Value.bytes b t
 |.flt b,u=>∃ t,u=Value.float b t
 |.ref a,u=>u=bK a
 |.ty n,u=>u=ip n
abbrev dH:List V->List af->Prop:=FG cR
theorem dH.length {xs:List V}{us:List af} (r:dH xs us):xs.length=us.length:=iT r
theorem dH.get {xs:List V}{us:List af} (h:dH xs us):∀ {i:Nat}{x:V},xs[i]?=some x->∃ u,us[i]?=some u/\cR x u:=by
 induction h with
 |nil=>intro i x e;cases e
 |cons r t ih =>
  intro i x e
  cases i with
  |zero=>cases e;exact ⟨_,rfl,r⟩
  |succ i=>have q:=ih (i:=i) e;exact q
theorem dH.append {xs ys:List V}{us ws:List af} (h:dH xs us) (s:dH ys ws):dH (xs++ys) (us++ws):=by
 induction h with
 |nil=>exact s
 |cons r t ih=>exact .cons r ih
theorem dH.take:∀ {xs:List V}{us:List af} (n:Nat),dH xs us->dH (xs.take n) (us.take n)
 |_,_,0,_=>.nil
 |_,_,_+1,.nil=>.nil
 |_,_,n+1,.cons r t=>.cons r (dH.take n t)
theorem dH.drop:∀ {xs:List V}{us:List af} (n:Nat),dH xs us->dH (xs.drop n) (us.drop n)
 |_,_,0,r=>r
 |_,_,_+1,.nil=>.nil
 |_,_,n+1,.cons _ t=>dH.drop n t
def yf:Option V->Option af->Prop
 |some v,some u=>cR v u
 |none,none=>True
 |_,_=>False
def KV {κ:Type}:List (κ×V)->List (κ×af)->Prop:=FG fun (p:κ×V) (q:κ×af)=>p.1=q.1/\cR p.2 q.2
def kV:eR->V
 |.inl i=>.int i
 |.inr x=>.str x
inductive HO where
 |lst (xs:List V)
 |tup (xs:List V)
 |dK (kvs:List (eR×V))|dT (kvs:List (List eR×V))
 |set (S:Int->Bool) (n:Nat)
 |ins (C dx:ak) (fs:List (Str×V))
 |own (x:ak)
 |xd (fs:List (Str×V))
 |met (f x:ak)
 |rng (lo hi:Int)
 |frz (o:Obj) (u:HO)
 |tbl (ps:Array af)
 |ext (φ:bE->Prop)
abbrev Hp:=ak->Option HO
def upd (H:Hp) (a:ak) (o:HO):Hp:=fun b=>if b=a then some o else H b
theorem ba {H:Hp}{a:ak}{o:HO}:upd H a o a=some o:=by unfold upd;rw [if_pos rfl]
theorem a_ {H:Hp}{a b:ak}{o:HO} (h:b≠a):upd H a o b=H b:=by unfold upd;rw [if_neg h]
theorem Lk {H:Hp}{a b:ak}{o u:HO} (h:H a=some o) (h':H b=some u) (d:o≠u):a≠b:=by
 intro e;subst e;rw [h] at h';exact d (bu h')
theorem bp {H:Hp}{a b:ak}{o:HO} (h:H a=some o) (h':H b=none):a≠b:=by
 intro e;subst e;rw [h] at h';cases h'
section
variable (P:aX) (w:bn)
def dw (H:Hp) (h:bE) (a:ak):HO->Prop
 |.lst xs=>xs.length<=sizeLine/\∃ (its:List af) (n:Nat),dH xs its/\h.get? a=some { cls:=.type "list",data:=.seq its.toArray n }
 |.tup xs=>xs.length<=sizeLine/\∃ its:List af,dH xs its/\IsTup h a its.toArray
 |.dK kvs=>kvs.length<=sizeLine/\(a==fk)=false/\∃ vs,KV kvs vs/\h.DictOf (fM P w) a vs
 |.dT kvs=>kvs.length<=sizeLine/\(a==fk)=false/\∃ xs:List (List eR×ak×af),
   FG (fun (p:List eR×V) (q:List eR×ak×af)=>p.1=q.1/\H q.2.1=some (.tup (p.1.map kV))/\cR p.2 q.2.2) kvs xs /\
   ∃ o es ep,h.get? a=some o/\o.ExactDict/\o.data=.dict es ep/\es.toList=xs.map (entryOfKey (rV (fM P w)))/\(xs.map (·.1)).Nodup
 |.set S n=>h.SetOf (intKind P w) a S n
 |.ins C dx fs=>H dx=some (.own a)/\fs.length<=1000/\dx≠a/\h.get? a=some (xc C dx) /\
   ∃ mA,h.Ns1 dx mA/\(∀ f,yf (fs.lookup f) (mA f))/\PySem.Within mA (fs.map (·.1))
 |.own _=>∃ o,h.get? a=some o
 |.xd fs=>∃ mA,h.Ns1 a mA/\∀ f,yf (fs.lookup f) (mA f)
 |.rng lo hi=>∃ t u v,h.get? a=some { cls:=.type "range",data:=.fields #[.int lo t,.int hi u,.int 1 v] }
 |.frz o u=>h.get? a=some o/\dw H h a u
 |.tbl ps=>∃ qs:Array af,h.get? a=some { cls:=.none,data:=.fields qs }/\BD qs.toList/\∀ pos cv,rW pos qs.toList=some cv->∃ c oc u vs q t,cv=.ref c/\H c=some (.frz oc u)/\oc.data=.fields vs/\vs[1]?=some (.str q t)/\ps[0]?=some (.str q 0)
 |.met f x=>h.get? a=some (uo (.ref f) (.ref x))
 |.ext φ=>φ h/\(∃ o,h.get? a=some o)/\∀ h1 h2:bE,φ h1->(∀ o,h1.get? a=some o->h2.get? a=some o)->φ h2
def qd (H:Hp) (h:bE):Prop:=∀ a o,H a=some o->dw P w H h a o
end
section
variable {P:aX}{w:bn}{H H':Hp}{h h':bE}{a:ak}{o:HO}
theorem dw.lt (x:dw P w H h a o):a<h.objs.size:=by
 cases o with
 |lst xs=>obtain ⟨_,_,_,_,e⟩:=x;exact aq e
 |tup xs=>obtain ⟨_,_,_,p⟩:=x;exact p.lt
 |dK kvs=>obtain ⟨_,_,_,_,o,_,_,e,_⟩:=x;exact aq e
 |dT kvs=>obtain ⟨_,_,_,_,o,_,_,e,_⟩:=x;exact aq e
 |set S n=>obtain ⟨o,_,_,_,e,_⟩:=x;exact aq e
 |ins C dx fs=>obtain ⟨_,_,_,e,_⟩:=x;exact aq e
 |own y=>obtain ⟨_,e⟩:=x;exact aq e
 |xd fs=>obtain ⟨_,⟨_,_,_,e,_⟩,_⟩:=x;exact aq e
 |rng lo hi=>obtain ⟨_,_,_,e⟩:=x;exact aq e
 |frz ob u=>obtain ⟨e,_⟩:=x;exact aq e
 |tbl ps=>obtain ⟨_,e,_⟩:=x;exact aq e
 |met f y=>exact aq (show h.get? a=some _ from x)
 |ext φ=>obtain ⟨_,⟨_,e⟩,_⟩:=x;exact aq e
theorem Paired.mapP {α β:Type}{F G:α->β->Prop}{l₁:List α}{l₂:List β} (h:FG F l₁ l₂) (f:∀ a b,F a b->G a b):FG G l₁ l₂:=by
 induction h with
 |nil=>exact .nil
 |cons r t ih=>exact .cons (f _ _ r) ih
theorem dw.stay (x:dw P w H h a o) (k:∀ b u,(b=a\/H b=some (.own a))->h.get? b=some u->h'.get? b=some u)
  (ho:∀ b,H b=some (.own a)->H' b=some (.own a)) (ht:∀ b xs,H b=some (.tup xs)->H' b=some (.tup xs)) (hf:∀ b ob u,H b=some (.frz ob u)->H' b=some (.frz ob u)):dw P w H' h' a o:=by
 induction o with
 |lst xs=>obtain ⟨z,its,n,r,e⟩:=x;exact ⟨z,its,n,r,k _ _ (.inl rfl) e⟩
 |tup xs=>obtain ⟨z,its,r,ob,e,c⟩:=x;exact ⟨z,its,r,ob,k _ _ (.inl rfl) e,c⟩
 |dK kvs=>obtain ⟨z,y,vs,r,ob,es,ep,e,c⟩:=x;exact ⟨z,y,vs,r,ob,es,ep,k _ _ (.inl rfl) e,c⟩
 |dT kvs =>
  obtain ⟨z,y,xs,r,ob,es,ep,e,c⟩:=x
  exact ⟨z,y,xs,Paired.mapP r fun p q z=>⟨z.1,ht _ _ z.2.1,z.2.2⟩,ob,es,ep,k _ _ (.inl rfl) e,c⟩
 |set S n=>obtain ⟨ob,es,ep,t,e,c⟩:=x;exact ⟨ob,es,ep,t,k _ _ (.inl rfl) e,c⟩
 |ins C dx fs =>
  obtain ⟨d,z,ne,e,mA,⟨od,es,ep,e2,c⟩,r⟩:=x
  exact ⟨ho _ d,z,ne,k _ _ (.inl rfl) e,mA,⟨od,es,ep,k _ _ (.inr d) e2,c⟩,r⟩
 |own y=>obtain ⟨ob,e⟩:=x;exact ⟨ob,k _ _ (.inl rfl) e⟩
 |xd fs=>obtain ⟨mA,⟨od,es,ep,e,c⟩,r⟩:=x;exact ⟨mA,⟨od,es,ep,k _ _ (.inl rfl) e,c⟩,r⟩
 |rng lo hi=>obtain ⟨t,u,v,e⟩:=x;exact ⟨t,u,v,k _ _ (.inl rfl) e⟩
 |frz ob u ih=>obtain ⟨e,q⟩:=x;exact ⟨k _ _ (.inl rfl) e,ih q⟩
 |tbl ps =>
  obtain ⟨qs,e,tq,hc⟩:=x
  refine ⟨qs,k a _ (.inl rfl) e,tq,fun pos cv q=>?_⟩
  obtain ⟨c,oc,u,vs,qq,t,e1,e2,e4⟩:=hc pos cv q
  exact ⟨c,oc,u,vs,qq,t,e1,hf _ _ _ e2,e4⟩
 |met f y =>
  have e:h.get? a=some (uo (.ref f) (.ref y)):=x
  show h'.get? a=some (uo (.ref f) (.ref y))
  exact k a _ (.inl rfl) e
 |ext φ=>obtain ⟨p,⟨o,e⟩,st⟩:=x;exact ⟨st _ _ p fun o q=>k _ _ (.inl rfl) q,⟨o,k _ _ (.inl rfl) e⟩,st⟩
theorem qd.lt (x:qd P w H h) (e:H a=some o):a<h.objs.size:=(x a o e).lt
theorem qd.fresh (x:qd P w H h) (e:h.objs.size<=a):H a=none:=by
 cases q:H a with
 |none=>rfl
 |some u=>exact absurd (aI (x.lt q) e) (cQ _)
theorem qd.kept (x:qd P w H h) (k:∀ b u,h.get? b=some u->h'.get? b=some u):qd P w H h':=fun a o e =>
 (x a o e).stay (fun b u _ q=>k b u q) (fun _ q=>q) (fun _ _ q=>q) fun _ _ _ q=>q
theorem qd.laid (x:qd P w H h) (k:∀ b u,h.get? b=some u->h'.get? b=some u) (hp:h.objs.size<=a) (new:dw P w (upd H a o) h' a o):qd P w (upd H a o) h':=fun b u e=>by
 have hn:=x.fresh hp
 by_cases hb:b=a
 ·subst hb;rw [ba] at e;cases e;exact new
 ·rw [a_ hb] at e
  exact (x b u e).stay (fun c v _ q=>k c v q) (fun c q=>by rw [a_ (bp q hn)];exact q) (fun c xs q=>by rw [a_ (bp q hn)];exact q) fun c ob xs q=>by rw [a_ (bp q hn)];exact q
end
def Rd (H:Hp) (a:ak) (u:HO):Prop:=H a=some u\/∃ o,H a=some (.frz o u)
theorem Rd.ok {P:aX}{w:bn}{H:Hp}{h:bE}{a:ak}{u:HO} (r:Rd H a u) (x:qd P w H h):dw P w H h a u:=by
 rcases r with r|⟨o,r⟩
 ·exact x a u r
 ·obtain ⟨_,q⟩:=x a _ r
  exact q
def Ud:Option HO->Prop
 |some (.lst _)=>True
 |some (.dK _)=>True
 |some (.dT _)=>True
 |some (.set _ _)=>True
 |some (.ins _ _ _)=>True
 |some (.ext _)=>True
 |_=>False
section
variable {P:aX}{w:bn}{H:Hp}{h h':bE}{x e:ak}{o':HO}
theorem qd.write (ok:qd P w H h) (mu:Ud (H x)) (he:e=x\/H e=some (.own x)) (k:∀ b u,b≠e->h.get? b=some u->h'.get? b=some u) (heo:∃ u,h'.get? e=some u)
  (new:dw P w (upd H x o') h' x o'):qd P w (upd H x o') h':=fun b u q=>by
 have nown:∀ c y,H c=some (.own y)->c≠x:=fun c y r z=>by subst z;rw [r] at mu;exact mu
 have ntup:∀ c xs,H c=some (.tup xs)->c≠x:=fun c xs r z=>by subst z;rw [r] at mu;exact mu
 have nfrz:∀ c ob xs,H c=some (.frz ob xs)->c≠x:=fun c ob xs r z=>by subst z;rw [r] at mu;exact mu
 by_cases hb:b=x
 ·subst hb;rw [ba] at q;cases q;exact new
 ·rw [a_ hb] at q
  by_cases hbe:b=e
  ·have q':H b=some (.own x):=by
    rcases he with z|z
    ·exact absurd (hbe.trans z) hb
    ·rw [hbe];exact z
   rw [q] at q';cases q'
   obtain ⟨v,hv⟩:=heo
   exact ⟨v,by rw [hbe];exact hv⟩
  ·refine (ok b u q).stay (fun c v hc r=>k c v ?_ r) (fun c r=>by rw [a_ (nown c b r)];exact r) (fun c xs r=>by rw [a_ (ntup c xs r)];exact r) fun c ob xs r=>by rw [a_ (nfrz c ob xs r)];exact r
   rcases hc with rfl|hc
   ·exact hbe
   ·rintro rfl
    rcases he with z|z
    ·exact nown c b hc z
    ·rw [hc] at z;cases z;exact hb rfl
end
structure Un (fs ex:List ak) (H H':Hp) (h h':bE):Prop where
 keep:∀ b o,h.get? b=some o->H b=none->b∉fs->b∉ex->h'.get? b=some o
 slot:∀ b o,h.get? b=some o->H b=none->b∈fs->b∉ex->∃ sl,h'.get? b=some { o with slots:=sl }
 free:∀ b o,h.get? b=some o->H b=none->b∉ex->H' b=none
 there:∀ b o,h.get? b=some o->b∉ex->∃ o',h'.get? b=some o'
 tups:∀ b xs,H b=some (.tup xs)->H' b=some (.tup xs)
 frzs:∀ b o u,H b=some (.frz o u)->H' b=some (.frz o u)
 tbls:∀ b ps,H b=some (.tbl ps)->∃ more,H' b=some (.tbl (ps++more))
section
variable {fs fs' ex ex':List ak}{H H1 H2:Hp}{h h1 h2 h':bE}{a x e:ak}{o:HO}
theorem Un.any (u:Un fs ex H H1 h h1) {b:ak}{ob:Obj} (q:h.get? b=some ob) (n:H b=none) (hx:b∉ex):∃ sl,h1.get? b=some { ob with slots:=sl }:=by
 by_cases hb:b∈fs
 ·exact u.slot b ob q n hb hx
 ·exact ⟨ob.slots,u.keep b ob q n hb hx⟩
theorem Un.kept (k:∀ b u,h.get? b=some u->h'.get? b=some u):Un fs ex H H h h' :=
 ⟨fun b ob q _ _ _=>k b ob q,fun b ob q _ _ _=>⟨ob.slots,k b ob q⟩,fun _ _ _ n _=>n,fun b ob q _=>⟨ob,k b ob q⟩,fun _ _ q=>q,fun _ _ _ q=>q,fun _ ps q=>⟨#[],by rw [q];simp⟩⟩
theorem Un.refl:Un fs ex H H h h:=Un.kept fun _ _ q=>q
theorem Un.laid (k:∀ b u,h.get? b=some u->h'.get? b=some u) (hp:h.objs.size<=a) (hn:H a=none):Un fs ex H (upd H a o) h h' where
 keep:=fun b u q _ _ _=>k b u q
 slot:=fun b u q _ _ _=>⟨u.slots,k b u q⟩
 free:=fun b u q n _=>by rw [a_ (aD (aI (aq q) hp))];exact n
 there:=fun b u q _=>⟨u,k b u q⟩
 tups:=fun b xs q=>by rw [a_ (bp q hn)];exact q
 frzs:=fun b u xs q=>by rw [a_ (bp q hn)];exact q
 tbls:=fun b ps q=>⟨#[],by rw [a_ (bp q hn),q];simp⟩
theorem Un.write (mu:Ud (H x)) (he:e=x\/H e=some (.own x)) (k:∀ b u,b≠e->h.get? b=some u->h'.get? b=some u) (heo:∃ u,h'.get? e=some u):Un fs ex H (upd H x o) h h':=by
 have hx:∀ b,H b=none->b≠x:=fun b n z=>by subst z;rw [n] at mu;exact mu
 have hb:∀ b,H b=none->b≠e:=fun b n z=>by
  subst z
  rcases he with r|r
  ·exact hx b n r
  ·rw [n] at r;cases r
 have hm:∀ b u,H b=some u->¬ Ud (some u)->b≠x:=fun b u q nm z=>by subst z;rw [q] at mu;exact nm mu
 refine ⟨fun b u q n _ _=>k b u (hb b n) q,fun b u q n _ _=>⟨u.slots,k b u (hb b n) q⟩,fun b u q n _=>by rw [a_ (hx b n)];exact n,fun b u q _=>?_,
  fun b xs q=>by rw [a_ (hm b _ q fun z=>z)];exact q,fun b u xs q=>by rw [a_ (hm b _ q fun z=>z)];exact q,fun b ps q=>⟨#[],by rw [a_ (hm b _ q fun z=>z),q];simp⟩⟩
 by_cases hbe:b=e
 ·subst hbe;exact heo
 ·exact ⟨u,k b u hbe q⟩
end
def W7 (h:bE) (H:Hp):List ak:=(bA h.objs.size).filter fun a=>(H a).isSome
def BK (h:bE) (H:Hp):bE:=KF h (W7 h H)
theorem Jm (h:bE) (H:Hp):(BK h H).objs.size=h.objs.size:=PySem.W.hideAll_size _ _
theorem Ll {h:bE}{H:Hp}{b:ak}{o:Obj} (e:h.get? b=some o) (n:H b=none):(BK h H).get? b=some o :=
 Fu _ e fun hm=>by
  have q:(H b).isSome=true:=(List.mem_filter.mp hm).2
  rw [n] at q;simp at q
theorem P1 {h:bE}{H:Hp}{b:ak}{o:Obj} (e:(BK h H).get? b=some o):h.get? b=some o/\H b=none:=by
 have e':h.get? b=some o:=FH (W7 h H) e
 refine ⟨e',?_⟩
 cases q:H b with
 |none=>rfl
 |some x =>
  have hm:b∈W7 h H:=List.mem_filter.mpr ⟨List.mem_range.mpr (aq e'),by simp [q]⟩
  have z:(BK h H).get? b=none:=PySem.W.hideAll_none (W7 h H) hm
  rw [z] at e;cases e
def P2 (g h:bE) (L:ak):List (ak×Obj):=(bA h.objs.size).filterMap fun a=>if a=L\/(g.get? a).isSome=true then none else (h.get? a).map fun o=>(a,o)
def bT (g h:bE) (L d:ak):List (ak×Obj):=(P2 g h L).filter fun p=>decide (p.1≠d)
end L2
namespace L2
open PySem PySem.Spec PyProof.Rows
structure Mod (K:a8) (mg:Str->Option af) (base:bE):Prop where
 kin:K.In base
 glob:base.Ns bt mg
 blt:∃ mb,base.Ns oy mb/\∀ x:Str,x≠"__name__"->mb x=i7 x
 nolimit:base.NoLimit
 bm:∃ bm ob,mg "__builtins__"=some (.ref bm)/\bm≠oy/\base.get? bm=some ob/\ob.cls=.type "module"/\ob.dict=some oy/\ob.data=.plain
structure Cx where
 prog:aX
 w:bn
 K:a8
 mg:Str->Option af
 base:bE
 A:bv
 N:List Str
 s₀:ai
 H₀:Hp
 env:Env
 outer:List Env
 stack:List Env
 ex:List ak
 fn:Str->Bool
 calm:Bool
 pn:List (ak×Obj)
 xe:af->ai->Prop
def um (l:List Env):List ak:=l.filterMap (·.frame)
abbrev Cx.fs (X:Cx):List ak:=um X.outer
def P3 (sc:dz) (x:Str):Prop:=sc.names.lookup x=some .local\/sc.names.lookup x=some .cell\/sc.names.lookup x=some .free
def QX (sc:dz) (x:Str):Prop:=sc.names.lookup x=some .local\/sc.names.lookup x=some .cell
def Wo (env:Env) (h:bE) (m:Str->Option af) (x:Str) (u:af):Prop :=
 (env.kindOf x=some .local/\m x=some u)\/((env.kindOf x=some .cell\/env.kindOf x=some .free)/\∃ c,env.cells.lookup x=some c/\h.IsCell c (some u))
def Se:Str:="best_reached"
def Tb (K:a8) (H:Hp):Prop:=∀ c P q,dA K (.ref c) q=true->fi K c P=true->K.lookup P=none->q=Se->∃ ps,H P=some (.tbl ps)/\ps[0]?=some (.str (q++".<locals>."++"<lambda>") 0)
theorem Tb.more {K:a8}{H H':Hp} (t:Tb K H) (k:∀ b ps,H b=some (.tbl ps)->∃ more,H' b=some (.tbl (ps++more))):Tb K H':=fun c P q h1 h2 h3 h4=>by
 obtain ⟨ps,e1,e2⟩:=t c P q h1 h2 h3 h4
 obtain ⟨more,e3⟩:=k P ps e1
 refine ⟨ps++more,e3,?_⟩
 have hl:0<ps.size:=by
  rcases L7 ps.size with z|z
  ·rw [Dj (by omega)] at e2;cases e2
  ·exact z
 rw [Array.getElem?_append_left hl]
 exact e2
structure Cx.Ok (X:Cx):Prop where
 mod:Mod X.K X.mg X.base
 kind:X.env.scope.kind=.function
 glob:X.env.globals=bt
 blt:X.env.builtins=oy
 above:X.s₀.heap.objs.size<=X.env.locals
 inj:∀ x y c,X.env.cells.lookup x=some c->X.env.cells.lookup y=some c->x=y
 has:∀ x,(X.env.kindOf x=some .cell\/X.env.kindOf x=some .free)->∃ c,X.env.cells.lookup x=some c
 cab:∀ x c,X.fn x=true->X.env.cells.lookup x=some c->X.s₀.heap.objs.size<=c
 hd:X.calm=true->X.A.handled=none
 frames:X.A.frames=some X.stack
 stk:X.stack=X.outer\/(X.stack=X.env::X.outer/\X.env.frame=some X.env.locals)
 exf:∀ b∈X.ex,b≠X.env.locals/\∀ x c,X.env.cells.lookup x=some c->c≠b
 bs:∀ b o,X.base.get? b=some o->X.s₀.heap.get? b=some o/\X.H₀ b=none
 bsz:X.base.objs.size<=X.s₀.heap.objs.size
 noex:∀ b o,X.base.get? b=some o->b∉X.ex
 exfs:∀ b∈X.ex,b∉X.fs
 funs:X.s₀.heap.FunFrames X.base X.outer
 frf:∀ b∈X.fs,X.H₀ b=none
 tb:Tb X.K X.H₀
structure bB (X:Cx) (pins:List (ak×Obj)) (σ:List (Option V)) (H:Hp) (s:ai):Prop where
 ok:X.Ok
 os:s.os=X.s₀.os
 bare:qg s.gens
 base:Un X.fs X.ex X.H₀ H X.s₀.heap s.heap
 loc:∃ m,s.heap.Ns X.env.locals m/\∀ (i:Nat) (x:Str) (v:V),X.N[i]?=some x->σ[i]?=some (some v)->P3 X.env.scope x->∃ u,cR v u/\Wo X.env s.heap m x u
 cell:∀ x c,X.env.cells.lookup x=some c->∃ v,s.heap.IsCell c v
 free:H X.env.locals=none
 freeC:∀ x c,X.env.cells.lookup x=some c->H c=none
 pin:∀ p∈X.pn++pins,s.heap.get? p.1=some p.2/\H p.1=none/\p.1≠X.env.locals/\p.1∉X.fs/\∀ v,p.2.data≠.cell v
 hok:qd X.prog X.w H s.heap
 len:σ.length=X.N.length
section
variable {X:Cx}{pins:List (ak×Obj)}{σ:List (Option V)}{H H':Hp}{s:ai}{h':bE}
theorem Cx.Ok.nofr (ok:X.Ok) {b:ak}{o:Obj} (e:X.base.get? b=some o):b∉X.fs:=fun hb=>by
 have:=(ok.funs.mem hb).1
 rw [e] at this;cases this
theorem bB.bs (I:bB X pins σ H s):∀ b o,X.base.get? b=some o->s.heap.get? b=some o/\H b=none:=fun b o e =>
 ⟨I.base.keep b o (I.ok.bs b o e).1 (I.ok.bs b o e).2 (I.ok.nofr e) (I.ok.noex b o e),I.base.free b o (I.ok.bs b o e).1 (I.ok.bs b o e).2 (I.ok.noex b o e)⟩
theorem bB.bk (I:bB X pins σ H s):∀ b o,X.base.get? b=some o->s.heap.get? b=some o:=fun b o e=>(I.bs b o e).1
theorem bB.mod (I:bB X pins σ H s):Mod X.K X.mg X.base:=I.ok.mod
theorem bB.kIn (I:bB X pins σ H s):X.K.In s.heap:=I.ok.mod.kin.keeps I.bk
theorem bB.nolimit (I:bB X pins σ H s):s.heap.NoLimit:=I.ok.mod.nolimit.keeps I.bk
theorem bB.fr (I:bB X pins σ H s):∃ m,Fr X.base X.env.locals s.heap m :=
 let ⟨m,hn,_⟩:=I.loc
 ⟨m,hn,I.bk,cy I.ok.bsz I.ok.above⟩
theorem bB.lt (I:bB X pins σ H s):X.env.locals<s.heap.objs.size:=let ⟨_,hn,_⟩:=I.loc;hn.lt
theorem bB.sz (I:bB X pins σ H s):X.s₀.heap.objs.size<=s.heap.objs.size:=cy I.ok.above (cz I.lt)
theorem bB.nofs (I:bB X pins σ H s) {a:ak} (h:s.heap.objs.size<=a):a∉X.fs:=fun hb=>by
 obtain ⟨_,o,ho,_⟩:=I.ok.funs.mem hb
 exact absurd (aI (aq ho) (cy I.sz h)) (cQ _)
theorem bB.cne (I:bB X pins σ H s):∀ x c,X.env.cells.lookup x=some c->c≠X.env.locals:=fun x c e z=>by
 obtain ⟨v,o,ho,hd⟩:=I.cell x c e
 obtain ⟨m,⟨o',es,ep,ho',hd',_⟩,_⟩:=I.loc
 rw [z,ho'] at ho;cases ho;rw [hd'] at hd;cases hd
theorem bB.funs (I:bB X pins σ H s):s.heap.FunFrames X.base X.outer:=by
 have all:∀ (l:List Env),(∀ b∈um l,b∈X.fs)->X.s₀.heap.FunFrames X.base l->s.heap.FunFrames X.base l:=by
  intro l
  induction l with
  |nil=>intro _ _;trivial
  |cons env r ih =>
   intro hs hl
   obtain ⟨hk,⟨L,o,hf,hn,ho,hd⟩,hr⟩:=hl
   have hL:L∈X.fs:=hs L (by unfold um;rw [ug,hf];exact ah)
   obtain ⟨sl,e⟩:=I.base.slot L o ho (I.ok.frf L hL) hL fun z=>I.ok.exfs L z hL
   exact ⟨hk,⟨L,_,hf,hn,e,hd⟩,ih (fun b hb=>hs b (by unfold um;rw [ug,hf];exact a9 _ hb)) hr⟩
 exact all X.outer (fun _ hb=>hb) I.ok.funs
theorem bB.stack (I:bB X pins σ H s):s.heap.FunFrames X.base X.stack:=by
 rcases I.ok.stk with e|⟨e,hf⟩
 ·rw [e];exact I.funs
 ·rw [e]
  obtain ⟨m,hn,_⟩:=I.loc
  refine .cons (by rw [I.ok.kind];decide) hf hn ?_ I.funs
  exact Heap.get?_none_of_le (cy I.ok.bsz I.ok.above)
theorem bB.stkSub (I:bB X pins σ H s):∀ b∈um X.stack,b∈X.env.locals::X.fs:=fun b hb=>by
 rcases I.ok.stk with e|⟨e,hf⟩
 ·rw [e] at hb;exact a9 _ hb
 ·rw [e] at hb
  unfold um at hb
  rw [ug,hf] at hb
  exact hb
theorem bB.stkFree (I:bB X pins σ H s):∀ b∈um X.stack,H b=none:=fun b hb=>by
 rcases List.mem_cons.mp (I.stkSub b hb) with e|hb
 ·rw [e];exact I.free
 ·obtain ⟨_,o,ho,_⟩:=I.ok.funs.mem hb
  exact I.base.free b o ho (I.ok.frf b hb) fun z=>I.ok.exfs b z hb
theorem bB.step {g':Array FI}{t':Nat}{d':KG}{ch:List ak} (I:bB X pins σ H s)
  (hch:∀ b∈ch,(b∈X.ex\/X.s₀.heap.objs.size<=b)/\b≠X.env.locals/\(∀ x c,X.env.cells.lookup x=some c->c≠b)/\∀ p∈X.pn++pins,p.1≠b)
  (keep:∀ b o,b≠X.env.locals->b∉X.fs->b∉ch->s.heap.get? b=some o->H b=none->h'.get? b=some o)
  (slot:∀ b o,b≠X.env.locals->b∈X.fs->b∉ch->s.heap.get? b=some o->H b=none->∃ sl,h'.get? b=some { o with slots:=sl }) (free:∀ b o,b∉ch->s.heap.get? b=some o->H b=none->H' b=none)
  (there:∀ b o,b∉ch->s.heap.get? b=some o->∃ o',h'.get? b=some o')
  (tups:∀ b xs,H b=some (.tup xs)->H' b=some (.tup xs)) (frzs:∀ b o u,H b=some (.frz o u)->H' b=some (.frz o u)) (tbls:∀ b ps,H b=some (.tbl ps)->∃ more,H' b=some (.tbl (ps++more)))
  (ns:∀ m,s.heap.Ns X.env.locals m->h'.Ns X.env.locals m) (hok:qd X.prog X.w H' h') (hg:qg g') :
  bB X pins σ H' { s with heap:=h',gens:=g',drawn:=d',toks:=t' }:=by
 have neL:∀ b o,X.s₀.heap.get? b=some o->b≠X.env.locals:=fun b o e=>aD (aI (aq e) I.ok.above)
 have neC:∀ b o,X.s₀.heap.get? b=some o->b∉X.ex->b∉ch:=fun b o e hx hb=>by
  rcases (hch b hb).1 with z|z
  ·exact hx z
  ·exact absurd (aI (aq e) z) (cQ _)
 have cellK:∀ x c,X.env.cells.lookup x=some c->∀ v,s.heap.IsCell c v->h'.IsCell c v:=fun x c e v h_0=>by
  obtain ⟨o,ho,hd⟩:=h_0
  have nch:c∉ch:=fun z=>(hch c z).2.2.1 x c e rfl
  by_cases hc:c∈X.fs
  ·obtain ⟨sl,q⟩:=slot c o (I.cne x c e) hc nch ho (I.freeC x c e)
   exact ⟨_,q,hd⟩
  ·exact ⟨o,keep c o (I.cne x c e) hc nch ho (I.freeC x c e),hd⟩
 refine ⟨I.ok,I.os,hg,⟨fun b o e n hb hx=>?_,fun b o e n hb hx=>?_,fun b o e n hx=>?_,fun b o e hx=>?_,fun b xs e=>tups b xs (I.base.tups b xs e),fun b o xs e=>frzs b o xs (I.base.frzs b o xs e),fun b ps e=>?_⟩,?_,fun x c e=>?_,?_,fun x c e=>?_,fun p hp=>?_,hok,I.len⟩
 ·exact keep b o (neL b o e) hb (neC b o e hx) (I.base.keep b o e n hb hx) (I.base.free b o e n hx)
 ·obtain ⟨sl,e1⟩:=I.base.slot b o e n hb hx
  obtain ⟨sl',e2⟩:=slot b _ (neL b o e) hb (neC b o e hx) e1 (I.base.free b o e n hx)
  exact ⟨sl',e2⟩
 ·obtain ⟨o',e1⟩:=I.base.there b o e hx
  exact free b o' (neC b o e hx) e1 (I.base.free b o e n hx)
 ·obtain ⟨o',e1⟩:=I.base.there b o e hx
  exact there b o' (neC b o e hx) e1
 ·obtain ⟨m1,e1⟩:=I.base.tbls b ps e
  obtain ⟨m2,e2⟩:=tbls b _ e1
  exact ⟨m1++m2,by rw [e2,J5]⟩
 ·obtain ⟨m,hn,hl⟩:=I.loc
  refine ⟨m,ns m hn,fun i x v e1 e2 e3=>?_⟩
  obtain ⟨u,r,l⟩:=hl i x v e1 e2 e3
  refine ⟨u,r,?_⟩
  rcases l with l|⟨k,c,e,z⟩
  ·exact .inl l
  ·exact .inr ⟨k,c,e,cellK x c e _ z⟩
 ·obtain ⟨v,z⟩:=I.cell x c e
  exact ⟨v,cellK x c e v z⟩
 ·obtain ⟨m,⟨o,_,_,ho,_⟩,_⟩:=I.loc
  exact free _ o (fun z=>(hch _ z).2.1 rfl) ho I.free
 ·obtain ⟨v,o,ho,hd⟩:=I.cell x c e
  exact free c o (fun z=>(hch c z).2.2.1 x c e rfl) ho (I.freeC x c e)
 ·obtain ⟨e,n,ne,nf,d⟩:=I.pin p hp
  have nch:p.1∉ch:=fun z=>(hch p.1 z).2.2.2 p hp rfl
  exact ⟨keep p.1 p.2 ne nf nch e n,free p.1 p.2 nch e n,ne,nf,d⟩
theorem bB.un {t':Nat} (I:bB X pins σ H s) (u:Un X.fs [] H H' s.heap h') (hok:qd X.prog X.w H' h'):bB X pins σ H' { s with heap:=h',toks:=t' }:=by
 obtain ⟨m,⟨o,es,ep,ho,r⟩,_⟩:=id I.loc
 obtain ⟨sl,hL⟩:=u.any ho I.free (by simp)
 exact I.step (g':=s.gens) (d':=s.drawn) (ch:=[]) (fun _ z=>nomatch z) (fun b o _ hb _ e n=>u.keep b o e n hb (by simp)) (fun b o _ hb _ e n=>u.slot b o e n hb (by simp)) (fun b o _ e n=>u.free b o e n (by simp)) (fun b o _ e=>u.there b o e (by simp)) u.tups u.frzs u.tbls (fun m' hm=>by
  obtain ⟨o',es',ep',ho',r'⟩:=hm
  rw [ho] at ho';cases ho'
  exact ⟨_,es',ep',hL,r'⟩) hok I.bare
theorem bB.call {g':Array FI}{t':Nat}{d':KG}{ch:List ak} (I:bB X pins σ H s) (u:Un (um X.stack) ch H H' s.heap h') (hok:qd X.prog X.w H' h') (hg:qg g')
  (hch:∀ b∈ch,(b∈X.ex\/X.s₀.heap.objs.size<=b)/\b≠X.env.locals/\(∀ x c,X.env.cells.lookup x=some c->c≠b)/\∀ p∈X.pn++pins,p.1≠b) :
  bB X pins σ H' { s with heap:=h',gens:=g',drawn:=d',toks:=t' }:=by
 obtain ⟨m,⟨o,es,ep,ho,r⟩,_⟩:=id I.loc
 obtain ⟨sl,hL⟩:=u.any ho I.free fun z=>(hch _ z).2.1 rfl
 exact I.step (ch:=ch) hch (fun b o hL hb hc e n=>u.keep b o e n (fun z=>(List.mem_cons.mp (I.stkSub b z)).elim hL hb) hc) (fun b o _ _ hc e n=>u.any e n hc) (fun b o hc e n=>u.free b o e n hc) (fun b o hc e=>u.there b o e hc) u.tups u.frzs u.tbls (fun m' hm=>by
  obtain ⟨o',es',ep',ho',r'⟩:=hm
  rw [ho] at ho';cases ho'
  exact ⟨_,es',ep',hL,r'⟩) hok hg
theorem bB.turned {t':Nat}{it:ak} (I:bB X pins σ H s) (k:∀ b o,b≠it->s.heap.get? b=some o->h'.get? b=some o) (hn:H it=none) (hL:it≠X.env.locals)
  (h1:it∈X.ex\/X.s₀.heap.objs.size<=it) (h2:∀ x c,X.env.cells.lookup x=some c->c≠it) (h3:∀ p∈X.pn++pins,p.1≠it):bB X pins σ H { s with heap:=h',toks:=t' }:=by
 have nit:∀ b u,H b=some u->b≠it:=fun b u e z=>by rw [z,hn] at e;cases e
 refine I.step (g':=s.gens) (d':=s.drawn) (ch:=[it]) (fun b hb=>?_) (fun b o _ _ hc e _=>k b o (fun z=>hc (by simp [z])) e) (fun b o _ _ hc e _=>⟨o.slots,k b o (fun z=>hc (by simp [z])) e⟩) (fun _ _ _ _ n=>n)
  (fun b o hc e=>⟨o,k b o (fun z=>hc (by simp [z])) e⟩) (fun _ _ e=>e) (fun _ _ _ e=>e) (fun b ps e=>⟨#[],by rw [e];simp⟩) (fun m hm=>?_) (fun b u e=>?_) I.bare
 ·have e:b=it:=by simpa using hb
  subst e
  exact ⟨h1,hL,h2,h3⟩
 ·obtain ⟨o,es,ep,ho,r⟩:=hm
  exact ⟨o,es,ep,k _ o (c9 hL) ho,r⟩
 ·refine (I.hok b u e).stay (fun c v hc q=>k c v ?_ q) (fun _ q=>q) (fun _ _ q=>q) fun _ _ _ q=>q
  rcases hc with z|z
  ·rw [z];exact nit b u e
  ·exact nit c _ z
theorem bB.tok (I:bB X pins σ H s) (t:Nat):bB X pins σ H { s with toks:=t }:=I.un (h':=s.heap) (t':=t) Un.refl I.hok
theorem bB.kept {t':Nat} (I:bB X pins σ H s) (k:∀ b u,s.heap.get? b=some u->h'.get? b=some u):bB X pins σ H { s with heap:=h',toks:=t' }:=I.un (Un.kept k) (I.hok.kept k)
theorem bB.laid {a:ak}{o:HO}{t':Nat} (I:bB X pins σ H s) (k:∀ b u,s.heap.get? b=some u->h'.get? b=some u) (hp:s.heap.objs.size<=a) (new:dw X.prog X.w (upd H a o) h' a o) :
  bB X pins σ (upd H a o) { s with heap:=h',toks:=t' }:=I.un (Un.laid k hp (I.hok.fresh hp)) (I.hok.laid k hp new)
theorem bB.write {x e:ak}{o:HO}{t':Nat} (I:bB X pins σ H s) (mu:Ud (H x)) (he:e=x\/H e=some (.own x)) (k:∀ b u,b≠e->s.heap.get? b=some u->h'.get? b=some u) (heo:∃ u,h'.get? e=some u)
  (new:dw X.prog X.w (upd H x o) h' x o):bB X pins σ (upd H x o) { s with heap:=h',toks:=t' }:=I.un (Un.write mu he k heo) (I.hok.write mu he k heo new)
theorem bB.weak {σ':List (Option V)} (I:bB X pins σ H s) (hl:σ'.length=σ.length) (w:∀ (i:Nat) v,σ'[i]?=some (some v)->σ[i]?=some (some v)):bB X pins σ' H s :=
 ⟨I.ok,I.os,I.bare,I.base,let ⟨m,hn,hl'⟩:=I.loc;⟨m,hn,fun i x v e1 e2 e3=>hl' i x v e1 (w i v e2) e3⟩,I.cell,I.free,I.freeC,I.pin,I.hok,hl.trans I.len⟩
theorem bB.pins_of {pins':List (ak×Obj)} (I:bB X pins σ H s) (h:∀ p∈pins',s.heap.get? p.1=some p.2/\H p.1=none/\p.1≠X.env.locals/\p.1∉X.fs/\∀ v,p.2.data≠.cell v):bB X pins' σ H s :=
 ⟨I.ok,I.os,I.bare,I.base,I.loc,I.cell,I.free,I.freeC,fun p hp=>(List.mem_append.mp hp).elim (fun z=>I.pin p (bD _ z)) (h p),I.hok,I.len⟩
theorem Dp {N:List Str} (hN:N.Nodup) {i j:Nat}{x:Str} (a:N[i]?=some x) (b:N[j]?=some x):i=j:=by
 obtain ⟨h1,e1⟩:=List.getElem?_eq_some_iff.mp a
 obtain ⟨h2,e2⟩:=List.getElem?_eq_some_iff.mp b
 exact (List.getElem_inj hN).mp (e1.trans e2.symm)
theorem AG {M:KH}{A:bv}{E:af->ai->Prop}{i:Nat}{x:Str}{v:V}{u:af}{Q:Unit->ai->Prop} (I:bB X pins σ H s) (hN:X.N.Nodup) (hi:X.N[i]?=some x) (hx:QX X.env.scope x) (r:cR v u)
  (h:∀ s',bB X pins (σ.set i (some v)) H s'->(∃ a,bH a s.heap s'.heap/\(a=X.env.locals\/X.env.cells.lookup x=some a))->Q () s') (hf:X.fn x=true\/X.env.scope.names.lookup x=some .local:=by first|exact .inl rfl|exact .inr rfl|assumption):ar M A (storeName X.env x u) Q E s:=by
 obtain ⟨m,hn,hl⟩:=id I.loc
 have hcls:(X.env.scope.kind == .class||(X.env.scope.kind == .module&&X.env.locals != X.env.globals))=false:=by rw [I.ok.kind];rfl
 have hiσ:i<σ.length:=by rw [I.len];exact (List.getElem?_eq_some_iff.mp hi).1
 have cne:=I.cne
 have tracked:∀ {a:ak}{h':bE},(∃ o,s.heap.get? a=some o/\H a=none)->bH a s.heap h'->qd X.prog X.w H h':=fun {a h'} ha hs b ob e=>by
  obtain ⟨_,_,hfree⟩:=ha
  refine (I.hok b ob e).stay (fun c w' hc q=>(hs.2 c ?_).trans q) (fun _ q=>q) (fun _ _ q=>q) fun _ _ _ q=>q
  rintro rfl
  rcases hc with rfl|hc
  ·rw [hfree] at e;cases e
  ·rw [hfree] at hc;cases hc
 rcases hx with hk|hk
 ·refine wpAny_storeName_local hk hn (fun h' hn' hs=>?_) hcls
  obtain ⟨oL,_,_,hoL,_⟩:=id hn
  refine h _ ⟨I.ok,I.os,I.bare,⟨fun b o e n hb hx=>?_,fun b o e n hb hx=>?_,I.base.free,fun b o e hx=>?_,I.base.tups,I.base.frzs,I.base.tbls⟩,⟨_,hn',fun j y v' e1 e2 e3=>?_⟩,fun y c e=>?_,I.free,I.freeC,fun p hp=>?_,tracked ⟨oL,hoL,I.free⟩ hs,by simpa using I.len⟩ ⟨_,hs,.inl rfl⟩
  ·exact (hs.2 b (aD (aI (aq e) I.ok.above))).trans (I.base.keep b o e n hb hx)
  ·obtain ⟨sl,e1⟩:=I.base.slot b o e n hb hx
   exact ⟨sl,(hs.2 b (aD (aI (aq e) I.ok.above))).trans e1⟩
  ·obtain ⟨o',e1⟩:=I.base.there b o e hx
   exact ⟨o',(hs.2 b (aD (aI (aq e) I.ok.above))).trans e1⟩
  ·by_cases hj:j=i
   ·subst hj
    rw [hi] at e1;cases e1
    rw [aK hiσ] at e2
    cases e2
    exact ⟨u,r,.inl ⟨hk,by simp⟩⟩
   ·rw [am (c9 hj)] at e2
    obtain ⟨u',r',q⟩:=hl j y v' e1 e2 e3
    refine ⟨u',r',?_⟩
    rcases q with ⟨k,e⟩|⟨k,c,e,z⟩
    ·refine .inl ⟨k,?_⟩
     have:y≠x:=fun e=>hj (Dp hN e1 (e ▸ hi))
     simp [this,e]
    ·exact .inr ⟨k,c,e,z.sameBut hs (cne y c e)⟩
  ·obtain ⟨w',z⟩:=I.cell y c e
   exact ⟨w',z.sameBut hs (cne y c e)⟩
  ·obtain ⟨e,n,ne,nf,d⟩:=I.pin p hp
   exact ⟨(hs.2 p.1 ne).trans e,n,ne,nf,d⟩
 ·have hfn:X.fn x=true:=by
   rcases hf with z|z
   ·exact z
   ·rw [z] at hk;cases hk
  obtain ⟨c,hc⟩:=I.ok.has x (.inl hk)
  obtain ⟨w',z⟩:=I.cell x c hc
  refine wpAny_storeName_cell I.ok.kind hk hc z (fun h' hc' hs=>?_)
  obtain ⟨oc,hoc,hocd⟩:=id z
  refine h { s with heap:=h' } ⟨I.ok,I.os,I.bare,⟨fun b o e n hb hx=>?_,fun b o e n hb hx=>?_,I.base.free,fun b o e hx=>?_,I.base.tups,I.base.frzs,I.base.tbls⟩,⟨m,hn.sameBut hs (c9 (cne x c hc)),fun j y v' e1 e2 e3=>?_⟩,fun y c' e=>?_,I.free,I.freeC,fun p hp=>?_,tracked ⟨oc,hoc,I.freeC x c hc⟩ hs,by simpa using I.len⟩ ⟨c,hs,.inr hc⟩
  ·exact (hs.2 b (aD (aI (aq e) (I.ok.cab x c hfn hc)))).trans (I.base.keep b o e n hb hx)
  ·obtain ⟨sl,e1⟩:=I.base.slot b o e n hb hx
   exact ⟨sl,(hs.2 b (aD (aI (aq e) (I.ok.cab x c hfn hc)))).trans e1⟩
  ·obtain ⟨o',e1⟩:=I.base.there b o e hx
   exact ⟨o',(hs.2 b (aD (aI (aq e) (I.ok.cab x c hfn hc)))).trans e1⟩
  ·by_cases hj:j=i
   ·subst hj
    rw [hi] at e1;cases e1
    rw [aK hiσ] at e2
    cases e2
    exact ⟨u,r,.inr ⟨.inl hk,c,hc,hc'⟩⟩
   ·rw [am (c9 hj)] at e2
    obtain ⟨u',r',q⟩:=hl j y v' e1 e2 e3
    refine ⟨u',r',?_⟩
    rcases q with q|⟨k,c',e,z'⟩
    ·exact .inl q
    ·refine .inr ⟨k,c',e,z'.sameBut hs ?_⟩
     rintro rfl
     exact hj (Dp hN e1 (I.ok.inj _ _ _ e hc ▸ hi))
  ·by_cases hcc:c'=c
   ·subst hcc;exact ⟨_,hc'⟩
   ·obtain ⟨w2,z2⟩:=I.cell y c' e
    exact ⟨w2,z2.sameBut hs hcc⟩
  ·obtain ⟨e,n,ne,nf,d⟩:=I.pin p hp
   refine ⟨(hs.2 p.1 ?_).trans e,n,ne,nf,d⟩
   intro q
   rw [q,hoc] at e
   have q':oc=p.2:=bu e
   exact d w' (by rw [<- q'];exact hocd)
theorem uy {M:KH}{A:bv}{E:af->ai->Prop}{i:Nat}{x:Str}{v:V}{u:af}{Q:Unit->ai->Prop} (I:bB X pins σ H s) (hN:X.N.Nodup) (hi:X.N[i]?=some x) (hx:QX X.env.scope x) (r:cR v u)
  (h:∀ s',bB X pins (σ.set i (some v)) H s'->Q () s') (hf:X.fn x=true\/X.env.scope.names.lookup x=some .local:=by first|exact .inl rfl|exact .inr rfl|assumption):ar M A (storeName X.env x u) Q E s :=
 AG I hN hi hx r (fun s' I' _=>h s' I') hf
theorem bB.call' {s':ai}{ch:List ak} (I:bB X pins σ H s) (ho:s'.os=s.os) (u:Un (um X.stack) ch H H' s.heap s'.heap) (hok:qd X.prog X.w H' s'.heap) (hg:qg s'.gens)
  (hch:∀ b∈ch,(b∈X.ex\/X.s₀.heap.objs.size<=b)/\b≠X.env.locals/\(∀ x c,X.env.cells.lookup x=some c->c≠b)/\∀ p∈X.pn++pins,p.1≠b):bB X pins σ H' s':=by
 obtain ⟨h',g',d',t',o'⟩:=s'
 have e:o'=s.os:=ho
 subst e
 exact I.call (g':=g') (t':=t') (d':=d') u hok hg hch
end
abbrev XK:=af->Option ak->Hp->Prop
abbrev St:=List (Option V)
abbrev VK:=V->Hp->Prop
abbrev TE:=St->Hp->VK->Prop
abbrev TT:=St->Hp->(Bool->Hp->Prop)->Prop
abbrev TA:=St->Hp->(List V->Hp->Prop)->Prop
structure BL where
 nx:St->Hp->Prop
 rt:VK
 bk:St->Hp->Prop:=fun _ _=>False
 ct:St->Hp->Prop:=fun _ _=>False
abbrev TS:=BL->St->Hp->Prop
inductive EP (X:Cx) (pins:List (ak×Obj)) (σ:St) (Q:VK) (u:af) (s':ai):Prop
 |mk (v H':_) (h0:bB X pins σ H' s') (h1:cR v u) (h2:Q v H'):EP X pins σ Q u s'
inductive TP (X:Cx) (pins:List (ak×Obj)) (σ:St) (Q:Bool->Hp->Prop) (b:Bool) (s':ai):Prop
 |mk (H':_) (h0:bB X pins σ H' s') (h1:Q b H'):TP X pins σ Q b s'
inductive AP (X:Cx) (pins:List (ak×Obj)) (σ:St) (Q:List V->Hp->Prop) (us:List af) (s':ai):Prop
 |mk (vs H':_) (h0:bB X pins σ H' s') (h1:dH vs us) (h2:Q vs H'):AP X pins σ Q us s'
inductive SN (X:Cx) (pins:List (ak×Obj)) (k:St->Hp->Prop) (s':ai):Prop
 |mk (σ':St) (H':Hp) (I:bB X pins σ' H' s') (q:k σ' H'):SN X pins k s'
inductive SV (X:Cx) (pins:List (ak×Obj)) (k:V->Hp->Prop) (u:af) (s':ai):Prop
 |mk (v:V) (σ':St) (H':Hp) (I:bB X pins σ' H' s') (r:cR v u) (q:k v H'):SV X pins k u s'
def SP (X:Cx) (pins:List (ak×Obj)) (D:BL) (f:Flow) (s':ai):Prop :=
 match f with
 |.next=>SN X pins D.nx s'
 |.brk=>SN X pins D.bk s'
 |.cont=>SN X pins D.ct s'
 |.ret u=>SV X pins D.rt u s'
def PE (X:Cx) (e:bd) (t:TE):Prop :=
 ∀ (pins:List (ak×Obj)) (s:ai) (σ:St) (H:Hp) (Q:VK),bB X pins σ H s->t σ H Q->ar (aL X.prog X.w) X.A (ed e X.env) (EP X pins σ Q) X.xe s
def PT (X:Cx) (e:bd) (t:TT):Prop :=
 ∀ (pins:List (ak×Obj)) (s:ai) (σ:St) (H:Hp) (Q:Bool->Hp->Prop),bB X pins σ H s->t σ H Q->ar (aL X.prog X.w) X.A (xV e X.env (ed e X.env)) (TP X pins σ Q) X.xe s
def PW (X:Cx) (e:bd) (t:TT):Prop :=
 ∀ (whole:Sem af) (pins:List (ak×Obj)) (s:ai) (σ:St) (H:Hp) (Q:Bool->Hp->Prop),bB X pins σ H s->t σ H Q->ar (aL X.prog X.w) X.A (xV e X.env whole) (TP X pins σ Q) X.xe s
theorem PW.pt {X:Cx}{e:bd}{t:TT} (h:PW X e t):PT X e t:=h _
def PA (X:Cx) (es:List bd) (t:TA):Prop :=
 ∀ (pos:Pos) (pins:List (ak×Obj)) (s:ai) (σ:St) (H:Hp) (Q:List V->Hp->Prop),bB X pins σ H s->t σ H Q->ar (aL X.prog X.w) X.A (spliced (fU pos (aJ es X.env))) (AP X pins σ Q) X.xe s
def PS (X:Cx) (st:cP) (t:TS):Prop :=
 ∀ (pins:List (ak×Obj)) (s:ai) (σ:St) (H:Hp) (D:BL),bB X pins σ H s->t D σ H->ar (aL X.prog X.w) X.A (exec st X.env) (SP X pins D) X.xe s
def HD (X:Cx) (st:List cP) (t:TS):Prop :=
 ∀ (pins:List (ak×Obj)) (s:ai) (σ:St) (H:Hp) (D:BL),bB X pins σ H s->t D σ H->ar (aL X.prog X.w) X.A (execs st X.env) (SP X pins D) X.xe s
theorem fG {α:Type}{t:Sem α}{Q Q':α->ai->Prop}{M:KH}{A:bv}{E:af->ai->Prop}{s:ai} (h:ar M A t Q E s) (hQ:∀ a s,Q a s->Q' a s):ar M A t Q' E s:=ck h hQ fun _ _ x=>x
end L2
namespace L2
open PySem PySem.Spec PyProof.Rows
section
variable {X:Cx}
inductive QY (i:Nat) (σ:St) (H:Hp) (Q:VK):Prop
 |mk (v:_) (h0:σ[i]?=some (some v)) (h1:Q v H):QY i σ H Q
def Ue (i:Nat):TE:=QY i
def tC (v:V):TE:=fun _ H Q=>Q v H
theorem sZ {i:Nat}{x:Str}{pos:Pos} (hN:X.N[i]?=some x) (hv:P3 X.env.scope x) (hd:(x==("__debug__" : Str))=false:=by decide) (hcd:(x==("__classdict__" : Str))=false:=by decide):PE X (.Name x pos) (Ue i):=by
 intro pins s σ H Q I h
 obtain ⟨v,e,h⟩:=h
 obtain ⟨m,hn,hl⟩:=I.loc
 obtain ⟨u,r,l⟩:=hl i x v hN e hv
 have fin:EP X pins σ Q u s:=⟨v,H,I,r,h⟩
 rcases l with ⟨hk,hm⟩|⟨hk,c,hc,hcell⟩
 ·exact wpAny_Name (wpAny_loadName_local I.ok.kind hk hn hm fin) hd
 ·rcases hk with hk|hk
  ·exact wpAny_Name (wpAny_loadName_cell I.ok.kind hk hc hcell fin) hd
  ·exact wpAny_Name (wpAny_loadName_free I.ok.kind hk hc hcell fin hcd) hd
theorem Sg {i j pos}:PE X (.Constant (.int i) j pos) (tC (.int i)):=fun _ _ _ H _ I h=>wpAny_Constant_int ⟨.int i,H,I.tok _,⟨_,rfl⟩,h⟩
theorem Uf {b j pos}:PE X (.Constant (.bool b) j pos) (tC (.bl b)):=fun _ _ _ H _ I h=>Constant_bool ⟨.bl b,H,I,rfl,h⟩
theorem Sh {j pos}:PE X (.Constant .none j pos) (tC .non):=fun _ _ _ H _ I h=>Constant_none ⟨.non,H,I,rfl,h⟩
theorem Si {x j pos}:PE X (.Constant (.str x) j pos) (tC (.str x)):=fun _ _ _ H _ I h=>Calls.Constant_str ⟨.str x,H,I.tok _,⟨_,rfl⟩,h⟩
def Gl (X:Cx) (x:Str):Prop:=X.env.kindOf x=some .globalImplicit
theorem BM {E:af->ai->Prop}{pins:List (ak×Obj)}{s:ai}{σ:St}{H:Hp}{x:Str}{u:af}{pos:Pos}{Q:af->ai->Prop} (I:bB X pins σ H s) (hg:Gl X x) (hm:X.mg x=some u) (h:Q u s)
  (hd:(x==("__debug__" : Str))=false:=by decide):ar (aL X.prog X.w) X.A (ed (.Name x pos) X.env) Q E s :=
 zO I.ok.kind hg (Calls.loadGlobal_global (by rw [I.ok.glob];exact I.mod.glob.keeps I.bk) hm h) hd
theorem s_ {E:af->ai->Prop}{pins:List (ak×Obj)}{s:ai}{σ:St}{H:Hp}{x:Str}{u:af}{pos:Pos}{Q:af->ai->Prop} (I:bB X pins σ H s) (hg:Gl X x) (hm:X.mg x=none) (hv:i7 x=some u) (h:Q u s)
  (hn:x≠"__name__":=by decide) (hd:(x==("__debug__" : Str))=false:=by decide):ar (aL X.prog X.w) X.A (ed (.Name x pos) X.env) Q E s:=by
 obtain ⟨mb,h1,h2⟩:=I.mod.blt
 exact zO I.ok.kind hg (Calls.loadGlobal_builtin (by rw [I.ok.glob];exact I.mod.glob.keeps I.bk) hm (by rw [I.ok.blt];exact h1.keeps I.bk) ((h2 x hn).trans hv) h) hd
theorem P4 {x:Str}{v:V}{u:af}{pos:Pos} (hg:Gl X x) (hm:X.mg x=some u) (r:cR v u) (hd:(x==("__debug__" : Str))=false:=by decide):PE X (.Name x pos) (tC v) :=
 fun _ _ _ H _ I h=>BM I hg hm ⟨v,H,I,r,h⟩ hd
theorem P5 {x:Str}{v:V}{u:af}{pos:Pos} (hg:Gl X x) (hm:X.mg x=none) (hv:i7 x=some u) (r:cR v u) (hn:x≠"__name__":=by decide) (hd:(x==("__debug__" : Str))=false:=by decide):PE X (.Name x pos) (tC v) :=
 fun _ _ _ H _ I h=>s_ I hg hm hv ⟨v,H,I,r,h⟩ hn hd
variable {a b:bd}{ta tb:TE}{pos:Pos}
def PC (X:Cx) (op:KI) (a b:bd) (t:TE):Prop :=
 ∀ (pins:List (ak×Obj)) (s:ai) (σ:St) (H:Hp) (Q:VK),bB X pins σ H s->t σ H Q ->
  ar (aL X.prog X.w) X.A (ed a X.env) (fun v s₁=>ar (aL X.prog X.w) X.A (ed b X.env) (fun u s₂=>ar (aL X.prog X.w) X.A (bO op v u) (EP X pins σ Q) X.xe s₂) X.xe s₁) X.xe s
theorem Lm (b:bd) {op:KI} (h:op≠.In) (h2:op≠.NotIn):gF op b=false:=by
 have e1:(op==CmpOp.In)=false:=by cases op<;>first|rfl|exact absurd rfl h
 have e2:(op==CmpOp.NotIn)=false:=by cases op<;>first|rfl|exact absurd rfl h2
 cases b<;>simp [gF,e1,e2]
def tB (t:TE):TT:=fun σ H Q=>t σ H fun x H1=>∃ c,x=.bl c/\Q c H1
theorem Wp {op:KI}{t:TE} (h:PC X op a b t) (h1:gF op b=false:=by first|exact Lm _ (by decide) (by decide)|rfl):PT X (.Compare a [op] [b] pos) (tB t):=by
 intro pins s σ H Q I hw
 refine Oq (fG (h pins s σ H _ I hw) fun v s1 h1=>fG h1 fun u s2 h2=>fG h2 fun c s3 ⟨x,H1,I1,r1,q1⟩=>?_) h1
 obtain ⟨d,rfl,q⟩:=q1
 cases r1
 exact cY ⟨H1,I1,q⟩
theorem Sj {e:bd}{t:TE} (h:PE X e t) (he:∀ whole,xV e X.env whole=(do let v <- whole;wC e.pos;zQ [v] (truthy v)):=by intro _;rfl):PT X e (tB t):=by
 intro pins s σ H Q I hw
 refine isTrue_plain (fG (h pins s σ H _ I hw) fun v s1 ⟨x,H1,I1,r1,q1⟩=>?_) (he _)
 obtain ⟨d,rfl,q⟩:=q1
 cases r1
 exact cY ⟨H1,I1,q⟩
variable {tA tB':TT}{bT:List bd}
def Wq (t u:TT):TT:=fun σ H Q=>t σ H fun c H1=>if c=true then u σ H1 Q else Q false H1
def XV (t u:TT):TT:=fun σ H Q=>t σ H fun c H1=>if c=true then Q true H1 else u σ H1 Q
def Wr (t:TT):TT:=fun σ H Q=>t σ H fun c H1=>Q (!c) H1
theorem P6 (ha:PT X a tA):PW X (.BoolOp .And [a] pos) tA:=by
 intro wh pins s σ H Q I h
 refine isTrue_and (fG (ha pins s σ H Q I h) fun c s1 e=>?_)
 cases c with
 |true=>exact isTrue_and_nil e
 |false=>exact e
theorem Sk (ha:PT X a tA):PW X (.BoolOp .Or [a] pos) tA:=by
 intro wh pins s σ H Q I h
 refine isTrue_or (fG (ha pins s σ H Q I h) fun c s1 e=>?_)
 cases c with
 |false=>exact isTrue_or_nil e
 |true=>exact e
theorem Sm (ha:PT X a tA) (hb:PW X (.BoolOp .And (b::bT) pos) tB'):PW X (.BoolOp .And (a::b::bT) pos) (Wq tA tB'):=by
 intro wh pins s σ H Q I h
 refine isTrue_and (fG (ha pins s σ H _ I h) fun c s1 ⟨H1,I1,q1⟩=>?_)
 cases c with
 |true=>exact hb wh pins s1 σ H1 Q I1 q1
 |false=>exact ⟨H1,I1,q1⟩
theorem Ug (ha:PT X a tA) (hb:PW X (.BoolOp .Or (b::bT) pos) tB'):PW X (.BoolOp .Or (a::b::bT) pos) (XV tA tB'):=by
 intro wh pins s σ H Q I h
 refine isTrue_or (fG (ha pins s σ H _ I h) fun c s1 ⟨H1,I1,q1⟩=>?_)
 cases c with
 |true=>exact ⟨H1,I1,q1⟩
 |false=>exact hb wh pins s1 σ H1 Q I1 q1
theorem Sn (ha:PT X a tA):PT X (.UnaryOp .Not a pos) (Wr tA):=by
 intro pins s σ H Q I h
 exact isTrue_not (fG (ha pins s σ H (fun c H1=>Q (!c) H1) I h) fun _ _ x=>by obtain ⟨a,b,c⟩:=x;exact ⟨a,b,c⟩)
def Uh (ta tb:TE):TE:=fun σ H Q=>ta σ H fun x H1=>∃ c,x=.bl c/\if c=true then tb σ H1 Q else Q (.bl false) H1
def Ui (ta:TE):TE:=fun σ H Q=>ta σ H fun x H1=>∃ c,x=.bl c/\Q (.bl (!c)) H1
theorem So {op}{t:TE} (h:PE X a t):PE X (.BoolOp op [a] pos) t:=fun pins s σ H Q I hw=>BoolOp_one (h pins s σ H Q I hw)
theorem Sq (ha:PE X a ta) (hb:PE X (.BoolOp .And (b::bT) pos) tb):PE X (.BoolOp .And (a::b::bT) pos) (Uh ta tb):=by
 intro pins s σ H Q I h
 refine BoolOp_and (fG (ha pins s σ H _ I h) fun v s1 ⟨x,H1,I1,r1,q1⟩=>?_)
 obtain ⟨c,rfl,q1⟩:=q1
 cases r1
 refine cY ?_
 cases c with
 |true=>exact hb pins s1 σ H1 Q I1 q1
 |false=>exact ⟨.bl false,H1,I1,rfl,q1⟩
theorem Sr (ha:PE X a ta):PE X (.UnaryOp .Not a pos) (Ui ta):=by
 intro pins s σ H Q I h
 refine UnaryOp_ (fG (ha pins s σ H _ I h) fun v s1 ⟨x,H1,I1,r1,q1⟩=>?_)
 obtain ⟨c,rfl,q1⟩:=q1
 cases r1
 exact not_of (cY ⟨.bl (!c),H1,I1,rfl,q1⟩)
end
end L2
namespace L2
open PySem PySem.Spec PyProof.Rows
inductive Xp (K:a8) (a:ak) (xs:List V):Prop
 |mk (o:Obj) (its:Array af) (n:Nat) (h0:K.lookup a=some o) (h1:o.cls=.type "list") (h2:o.dict=none) (h3:o.data=.seq its n) (h4:its.size<=sizeLine) (h5:dH xs its.toList):Xp K a xs
def ni (K:a8) (H:Hp) (a:ak) (xs:List V):Prop :=
 Rd H a (.lst xs)\/Xp K a xs
inductive Xq (K:a8) (a:ak) (xs:List V):Prop
 |mk (o:Obj) (its:Array af) (n:Nat) (h0:K.lookup a=some o) (h1:o.cls=.type "tuple") (h3:o.data=.seq its n) (h4:its.size<=sizeLine) (h5:dH xs its.toList):Xq K a xs
def ko (K:a8) (H:Hp) (a:ak) (xs:List V):Prop :=
 Rd H a (.tup xs)\/Xq K a xs
def Ws:af->Option V
 |.none=>some .non
 |.bool b=>some (.bl b)
 |.int i _=>some (.int i)
 |.str x _=>some (.str x)
 |.bytes b _=>some (.byt b)
 |.float b _=>some (.flt b)
 |.ref a=>some (.ref a)
 |.type n=>some (.ty n)
 |_=>none
theorem cR.abs {x:V}{u:af} (r:cR x u):Ws u=some x:=by
 cases x with
 |non=>cases r;rfl
 |bl _=>cases r;rfl
 |int _=>obtain ⟨t,rfl⟩:=r;rfl
 |str _=>obtain ⟨t,rfl⟩:=r;rfl
 |byt _=>obtain ⟨t,rfl⟩:=r;rfl
 |flt _=>obtain ⟨t,rfl⟩:=r;rfl
 |ref _=>cases r;rfl
 |ty _=>cases r;rfl
theorem cR.inj {x y:V}{u:af} (r:cR x u) (q:cR y u):x=y:=bu (r.abs.symm.trans q.abs)
theorem dH.inj {xs:List V}{us:List af} (h:dH xs us):∀ {ys:List V},dH ys us->xs=ys:=by
 induction h with
 |nil=>intro ys k;cases k;rfl
 |cons r t ih=>intro ys k;cases k with|cons r' t'=>rw [r.inj r',ih t']
section
variable {X:Cx}{pins:List (ak×Obj)}{σ:St}{H:Hp}{s:ai}{a:ak}{xs ys:List V}
theorem ni.of {K:a8} (h:H a=some (.lst xs)):ni K H a xs:=.inl (.inl h)
theorem ko.of {K:a8} (h:H a=some (.tup xs)):ko K H a xs:=.inl (.inl h)
inductive Xr (h:bE) (a:ak) (xs:List V):Prop
 |mk (its:List af) (r:dH xs its) (p:PlainL h a its.toArray) (z:xs.length<=sizeLine):Xr h a xs
inductive Xs (h:bE) (a:ak) (xs:List V):Prop
 |mk (its:List af) (r:dH xs its) (p:IsTup h a its.toArray) (z:xs.length<=sizeLine):Xs h a xs
inductive Xt (h:bE) (l:ak) (xs:List V):Prop
 |mk (z:xs.length<=sizeLine) (its:List af) (n:Nat) (r:dH xs its) (hl:xs.length=its.length) (e:h.get? l=some { cls:=.type "list",data:=.seq its.toArray n }):Xt h l xs
theorem bB.list (I:bB X pins σ H s) (h:ni X.K H a xs):Xr s.heap a xs:=by
 rcases h with h|⟨o,its,n,hk,hc,hd,hs,hz,r⟩
 ·obtain ⟨z,its,n,r,e⟩:=h.ok I.hok
  exact ⟨its,r,⟨_,n,e,rfl,rfl,rfl⟩,z⟩
 ·refine ⟨its.toList,r,⟨o,n,I.kIn a o hk,hc,hd,by simpa using hs⟩,?_⟩
  have e:=r.length
  simp only [av] at e
  omega
theorem bB.tuple (I:bB X pins σ H s) (h:ko X.K H a xs):Xs s.heap a xs:=by
 rcases h with h|⟨o,its,n,hk,hc,hs,hz,r⟩
 ·obtain ⟨z,its,r,p⟩:=h.ok I.hok
  exact ⟨its,r,p,z⟩
 ·refine ⟨its.toList,r,⟨o,I.kIn a o hk,hc,n,by simpa using hs⟩,?_⟩
  have e:=r.length
  simp only [av] at e
  omega
theorem bB.list_inj (I:bB X pins σ H s) (h:ni X.K H a xs) (h':ni X.K H a ys):xs=ys:=by
 obtain ⟨its,r,⟨o,n,e,_,_,d⟩,_⟩:=I.list h
 obtain ⟨its',r',⟨o',n',e',_,_,d'⟩,_⟩:=I.list h'
 rw [e] at e';cases e'
 rw [d] at d'
 injection d' with d1 _
 have:its=its':=by simpa using congrArg Array.toList d1
 subst this
 exact r.inj r'
theorem bB.tuple_inj (I:bB X pins σ H s) (h:ko X.K H a xs) (h':ko X.K H a ys):xs=ys:=by
 obtain ⟨its,r,⟨o,e,_,n,d⟩,_⟩:=I.tuple h
 obtain ⟨its',r',⟨o',e',_,n',d'⟩,_⟩:=I.tuple h'
 rw [e] at e';cases e'
 rw [d] at d'
 injection d' with d1 _
 have:its=its':=by simpa using congrArg Array.toList d1
 subst this
 exact r.inj r'
end
abbrev Cx.wish (X:Cx) (E:af->ai->Prop):Cx:={ X with xe:=E }
abbrev Cx.nox (X:Cx):Cx:=X.wish fun _ _=>False
theorem Cx.Ok.wish {X:Cx} (ok:X.Ok) (E:af->ai->Prop):(X.wish E).Ok :=
 ⟨ok.mod,ok.kind,ok.glob,ok.blt,ok.above,ok.inj,ok.has,ok.cab,ok.hd,ok.frames,ok.stk,ok.exf,ok.bs,ok.bsz,ok.noex,ok.exfs,ok.funs,ok.frf,ok.tb⟩
theorem Cx.Ok.unwish {X:Cx}{E:af->ai->Prop} (ok:(X.wish E).Ok):X.Ok :=
 ⟨ok.mod,ok.kind,ok.glob,ok.blt,ok.above,ok.inj,ok.has,ok.cab,ok.hd,ok.frames,ok.stk,ok.exf,ok.bs,ok.bsz,ok.noex,ok.exfs,ok.funs,ok.frf,ok.tb⟩
section
variable {X:Cx}{pins:List (ak×Obj)}{σ:St}{H:Hp}{s:ai}{E:af->ai->Prop}
theorem bB.wish (I:bB X pins σ H s) (E:af->ai->Prop):bB (X.wish E) pins σ H s:=⟨I.ok.wish E,I.os,I.bare,I.base,I.loc,I.cell,I.free,I.freeC,I.pin,I.hok,I.len⟩
theorem bB.unwish (I:bB (X.wish E) pins σ H s):bB X pins σ H s:=⟨I.ok.unwish,I.os,I.bare,I.base,I.loc,I.cell,I.free,I.freeC,I.pin,I.hok,I.len⟩
theorem SP.unwish {D:BL}{f:Flow}{s':ai} (h:SP (X.wish E) pins D f s'):SP X pins D f s':=by
 cases f with
 |next=>obtain ⟨σ',H',I,q⟩:=h;exact ⟨σ',H',I.unwish,q⟩
 |brk=>obtain ⟨σ',H',I,q⟩:=h;exact ⟨σ',H',I.unwish,q⟩
 |cont=>obtain ⟨σ',H',I,q⟩:=h;exact ⟨σ',H',I.unwish,q⟩
 |ret u=>obtain ⟨v,σ',H',I,r,q⟩:=h;exact ⟨v,σ',H',I.unwish,r,q⟩
end
section
variable {X:Cx}{st:cP}{bT:List cP}{t u:TS}{e:bd}{te:TE}{pos:Pos}
def Uj:TS:=fun D σ H=>D.nx σ H
def Wt (t u:TS):TS:=fun D σ H=>t { D with nx:=u D } σ H
theorem P7:HD X [] Uj:=fun _ _ σ H _ I h=>uh ⟨σ,H,I,h⟩
theorem qt (h1:PS X st t) (h2:HD X bT u):HD X (st::bT) (Wt t u):=by
 intro pins s σ H D I h
 refine wpAny_execs_cons (fG (h1 pins s σ H { D with nx:=u D } I h) fun f s1 q=>?_)
 cases f with
 |next =>
  obtain ⟨σ',H',I',q⟩:=q
  exact h2 pins s1 σ' H' D I' q
 |ret v=>exact q
 |brk=>exact q
 |cont=>exact q
theorem P8 (h1:PS X st t):HD X [st] t:=by
 intro pins s σ H D I h
 refine wpAny_execs_cons (fG (h1 pins s σ H D I h) fun f s1 q=>?_)
 cases f with
 |next=>exact uh q
 |ret v=>exact q
 |brk=>exact q
 |cont=>exact q
theorem bB.quiet {pins:List (ak×Obj)}{σ:St}{H:Hp}{s:ai} (I:bB X pins σ H s):interactive X.env=false:=by simp [interactive,I.ok.kind]
def Uk (te:TE):TS:=fun D σ H=>te σ H fun _ H1=>D.nx σ H1
theorem BN (he:PE X e te) (hs:gX e none pos.line X.env=pure false:=by rfl):PS X (.Expr e pos) (Uk te):=by
 intro pins s σ H D I h
 exact wpAny_Expr_any (fG (he pins s σ H _ I h) fun v s1 h_7=>by obtain ⟨x,H1,I1,r1,q1⟩:=h_7;exact ⟨σ,H1,I1,q1⟩) I.quiet hs
def Wu (te:TE):TS:=fun D σ H=>te σ H D.rt
theorem Ss (he:PE X e te):PS X (.Return (some e) pos) (Wu te):=by
 intro pins s σ H D I h
 exact wpAny_Return_some (fG (he pins s σ H _ I h) fun v s1 h_8=>by obtain ⟨x,H1,I1,r1,q1⟩:=h_8;exact ⟨x,σ,H1,I1,r1,q1⟩)
def Wv (c:TT) (t u:TS):TS:=fun D σ H=>c σ H fun b H1=>if b=true then t D σ H1 else u D σ H1
theorem Ul {c:bd}{a b:List cP}{tc:TT} (hc:PT X c tc) (ha:HD X a t) (hb:HD X b u):PS X (.If c a b pos) (Wv tc t u):=by
 intro pins s σ H D I h
 refine wpAny_If (fG (hc pins s σ H _ I h) fun d s1 ⟨H1,I1,q1⟩=>?_)
 cases d with
 |true=>exact ha pins s1 σ H1 D I1 q1
 |false=>exact hb pins s1 σ H1 D I1 q1
def Su:TS:=fun _ _ _=>False
theorem qY {sts:List cP}:HD X sts Su:=fun _ _ _ _ _ _ h=>h.elim
end
abbrev TG:=V->St->Hp->(St->Hp->Prop)->Prop
abbrev Ln:=List V->St->Hp->(St->Hp->Prop)->Prop
def PG (X:Cx) (target:bd) (t:TG):Prop :=
 ∀ (pins:List (ak×Obj)) (s:ai) (σ:St) (H:Hp) (v:V) (u:af) (Q:St->Hp->Prop),bB X pins σ H s->cR v u->t v σ H Q ->
  ar (aL X.prog X.w) X.A (sR target X.env u) (fun _ s'=>SN X pins Q s') X.xe s
def QZ (X:Cx) (ts:List bd) (t:Ln):Prop :=
 ∀ (pins:List (ak×Obj)) (s:ai) (σ:St) (H:Hp) (vs:List V) (us:List af) (Q:St->Hp->Prop),bB X pins σ H s->dH vs us->t vs σ H Q ->
  ar (aL X.prog X.w) X.A (J6 ((i8 ts X.env).map (·.2)) us) (fun _ s'=>SN X pins Q s') X.xe s
section
variable {X:Cx}{pos:Pos}
def wJ (i:Nat):TG:=fun v σ H Q=>Q (σ.set i (some v)) H
theorem cb {i:Nat}{x:Str} (hN:X.N.Nodup) (hi:X.N[i]?=some x) (hx:QX X.env.scope x) (hf:X.fn x=true\/X.env.scope.names.lookup x=some .local:=by first|exact .inl rfl|exact .inr rfl|assumption):PG X (.Name x pos) (wJ i):=by
 intro pins s σ H v u Q I r h
 exact wpAny_assign_Name (uy I hN hi hx r (fun s' I'=>⟨_,H,I',h⟩) hf)
def aG:Ln:=fun vs σ H Q=>vs=[]/\Q σ H
inductive Lo (t:TG) (u:Ln) (vs:List V) (σ:St) (H:Hp) (Q:St->Hp->Prop):Prop
 |mk (v r:_) (h0:vs=v::r) (h1:t v σ H fun σ' H'=>u r σ' H' Q):Lo t u vs σ H Q
def ac (t:TG) (u:Ln):Ln:=Lo t u
theorem qZ:QZ X [] aG:=by
 intro pins s σ H vs us Q I r h
 obtain ⟨e,h⟩:=h
 subst e
 cases r
 exact assignInOrder_nil ⟨σ,H,I,h⟩
theorem ii {e:bd}{es:List bd}{t:TG}{u:Ln} (h1:PG X e t) (h2:QZ X es u)
  (hs:(i8 (e::es) X.env).map (·.2)=sR e X.env::(i8 es X.env).map (·.2):=by rfl):QZ X (e::es) (ac t u):=by
 intro pins s σ H vs us Q I r h
 obtain ⟨v,vr,e1,h⟩:=h
 subst e1
 cases r with
 |cons r rr =>
  rw [hs]
  refine xW (fG (h1 pins s σ H _ _ _ I r h) fun _ s1 ⟨σ1,H1,I1,q1⟩=>?_)
  exact h2 pins s1 σ1 H1 _ _ Q I1 rr q1
inductive Q_ (K:a8) (n:Nat) (t:Ln) (v:V) (σ:St) (H:Hp) (Q:St->Hp->Prop):Prop
 |mk (a xs:_) (h0:v=.ref a) (h1:ko K H a xs) (h2:xs.length=n) (h3:t xs σ H Q):Q_ K n t v σ H Q
def Sv (K:a8) (n:Nat) (t:Ln):TG:=Q_ K n t
theorem vR {es:List bd}{k:Nat}{t:Ln}{n:Nat} (hc:X.calm=true) (h:QZ X es t)
  (hn:(i8 es X.env).length=n:=by rfl) (hst:(i8 es X.env).findIdx? (·.1)=none:=by rfl):PG X (.Tuple es k pos) (Sv X.K n t):=by
 intro pins s σ H v u Q I r hw
 obtain ⟨a,xs,e1,hq,hl,hw⟩:=hw
 subst e1
 cases r
 obtain ⟨its,rv,ht,hz⟩:=I.tuple hq
 refine assign_Tuple_tuple (I.ok.hd hc) ht (by simp [hn,<- hl,rv.length]) hst fun h' hx=>?_
 have I1:bB X pins σ H { s with heap:=h' }:=I.kept (t':=s.toks) fun b o e=>hx b o (aD (aq e)) e
 exact h pins _ σ H xs _ Q I1 (by simpa using rv) hw
def Um (te:TE) (g:TG):TS:=fun D σ H=>te σ H fun x H1=>g x σ H1 D.nx
theorem Lp {tg e:bd}{te:TE}{g:TG} (he:PE X e te) (hg:PG X tg g) (hs:xC [tg] e pos.line X.env=pure false:=by rfl) (hw:xD [tg] e X.env=pure none:=by rfl)
  (h1:(i8 [tg] X.env).map (·.2)=[sR tg X.env]:=by rfl):PS X (.Assign [tg] e pos) (Um te g):=by
 intro pins s σ H D I h
 refine wpAny_Assign_stores (fG (he pins s σ H _ I h) fun v s1 ⟨x,H1,I1,r1,q1⟩=>?_) hs hw
 rw [h1]
 exact fG (hg pins s1 σ H1 x v _ I1 r1 q1) fun _ s2 q=>q
theorem G1 {i:Nat}{x:Str}{e:bd}{te:TE}{pos':Pos} (hN:X.N.Nodup) (hi:X.N[i]?=some x) (hx:QX X.env.scope x) (he:PE X e te) (hs:gX e (some (.Name x pos')) pos.line X.env=pure false:=by rfl) (hf:X.fn x=true\/X.env.scope.names.lookup x=some .local:=by first|exact .inl rfl|exact .inr rfl|assumption) :
  PS X (.Assign [.Name x pos'] e pos) (Um te (wJ i)):=by
 intro pins s σ H D I h
 refine wpAny_Assign_Name (fG (he pins s σ H _ I h) fun v s1 ⟨y,H1,I1,r1,q1⟩=>?_) hs
 exact uy I1 hN hi hx r1 (fun s2 I2=>⟨_,H1,I2,q1⟩) hf
def Ww (i j:Nat) (ta:TA):TS:=fun D σ H=>ta σ H fun vs H1=>∃ v w,vs=[v,w]/\D.nx ((σ.set i (some v)).set j (some w)) H1
theorem Sw {i j:Nat}{x y:Str}{a b:bd}{ta:TA}{px py pt:Pos}{kt k2 pt2} (hc:X.calm=true) (hN:X.N.Nodup) (hi:X.N[i]?=some x) (hj:X.N[j]?=some y) (hij:i≠j)
  (hx:X.env.scope.names.lookup x=some .local) (hy:X.env.scope.names.lookup y=some .local) (ha:PA X [a,b] ta)
  (hw:xD [.Tuple [.Name x px,.Name y py] kt pt] (.Tuple [a,b] k2 pt2) X.env=pure (some [x,y]))
  (hs:xC [.Tuple [.Name x px,.Name y py] kt pt] (.Tuple [a,b] k2 pt2) pos.line X.env=pure false:=by rfl) :
  PS X (.Assign [.Tuple [.Name x px,.Name y py] kt pt] (.Tuple [a,b] k2 pt2) pos) (Ww i j ta):=by
 intro pins s σ H D I h
 rw [exec_Assign_arm]
 refine a7 (jD ?_)
 rw [hs]
 refine a7 (aa ?_)
 rw [if_neg (by decide)]
 refine a7 (Tuple_ (fG (ha _ pins s σ H _ I h) fun us s1 ⟨vs,H1,I1,r1,q1⟩=>?_))
 obtain ⟨v,w,e1,q1⟩:=q1
 subst e1
 obtain ⟨u1,u2,rfl,rv,rw'⟩:∃ u1 u2,us=[u1,u2]/\cR v u1/\cR w u2:=by
  cases r1 with
  |cons p q =>
   cases q with
   |cons p' q' =>
    cases q'
    exact ⟨_,_,rfl,p,p'⟩
 refine bQ ?_ (by show 2<=sizeLine;decide)
 have I2:bB X pins σ H1 { s1 with heap:=s1.heap.push { cls:=.type "tuple",data:=.seq [u1,u2].toArray } }:=I1.kept (t':=s1.toks) fun b o e=>ag _ e
 rw [hw]
 refine a7 (aa ?_)
 show ar (aL X.prog X.w) X.A (do rule "assign.swapped-stores";let items <- unpackItems (.ref s1.heap.objs.size) 2 none;J6 [fun v=>OD X.env y v,fun v=>OD X.env x v] items.reverse;pure Flow.next) _ _ _
 refine a7 (i9 (a7 (unpackItems_tuple (items:=#[u1,u2]) (I.ok.hd hc) (xf s1.heap _) fun h' hx'=>?_)))
 have I3:=I2.kept (h':=h') (t':=s1.toks) fun b o e=>hx' b o (aD (aq e)) e
 show ar _ _ (J6 [fun v=>OD X.env y v,fun v=>OD X.env x v] [u2,u1] >>= fun _=>pure Flow.next) _ _ _
 refine a7 (xW (wpAny_bindName (uy I3 hN hj (.inl hy) rw' (fun s2 I4=>?_) (.inr hy))))
 refine xW (wpAny_bindName (uy I4 hN hi (.inl hx) rv (fun s3 I5=>assignInOrder_nil (aa ?_)) (.inr hx)))
 rw [List.set_comm _ _ (c9 hij)] at I5
 exact ⟨_,H1,I5,q1⟩
end
section
variable {X:Cx}{pos:Pos}
def Sx (c:TT) (tb:TS):TS:=fun D σ H=>∃ W:Nat->St->Hp->Prop,(∃ m,W m σ H)/\∀ m σ H,W m σ H ->
 c σ H fun b H1=>if b=true then ∃ N:St->Hp->Prop,(∀ σ' H',N σ' H'->∃ m',m'<m/\W m' σ' H')/\tb { D with nx:=N,ct:=N,bk:=D.nx } σ H1 else D.nx σ H1
theorem Lq {c:bd}{body:List cP}{tc:TT}{tb:TS} (hp:PassesOwn (aL X.prog X.w) X.A X.env X.xe) (hc:PT X c tc) (hb:HD X body tb):PS X (.While c body [] pos) (Sx tc tb):=by
 intro pins s σ H D I h
 obtain ⟨W,⟨m0,w0⟩,turn⟩:=h
 refine wpAny_While (codeAny_whileLoop (fun n s'=>∃ σ' H',bB X pins σ' H' s'/\W n σ' H') ?_ m0 ⟨σ,H,I,w0⟩)
 rintro n s1 ⟨σ1,H1,I1,w1⟩
 refine iq hp (fG (hc pins s1 σ1 H1 _ I1 (turn n σ1 H1 w1)) fun b s2 ⟨H2,I2,q2⟩=>?_)
 cases b with
 |true =>
  obtain ⟨N,hN,q2⟩:=q2
  rw [if_pos rfl]
  refine iq hp (fG (hb pins s2 σ1 H2 _ I2 q2) fun f s3 q3=>?_)
  cases f with
  |next =>
   obtain ⟨σ3,H3,I3,n3⟩:=q3
   obtain ⟨m',hm,w3⟩:=hN σ3 H3 n3
   exact ⟨m',hm,σ3,H3,I3,w3⟩
  |cont =>
   obtain ⟨σ3,H3,I3,n3⟩:=q3
   obtain ⟨m',hm,w3⟩:=hN σ3 H3 n3
   exact ⟨m',hm,σ3,H3,I3,w3⟩
  |brk=>exact q3
  |ret v=>exact q3
 |false =>
  rw [if_neg bh]
  exact uh ⟨σ1,H2,I2,q2⟩
end
structure It where
 go:Nat->Hp->Prop
 yld:Nat->Hp->V->Hp->Prop
 stop:Nat->Hp->Prop
structure se (X:Cx) (pins:List (ak×Obj)) (H:Hp) (b:ak):Prop where
 f0:H b=none
 f1:b≠X.env.locals
 f2:b∉X.fs
 f3:b∈X.ex\/X.s₀.heap.objs.size<=b
 f4:∀ x c,X.env.cells.lookup x=some c->c≠b
 f5:∀ p∈X.pn++pins,p.1≠b
theorem bB.fpOk {X:Cx}{pins:List (ak×Obj)}{σ:St}{H H':Hp}{s:ai}{b:ak} (I:bB X pins σ H s) (hb:s.heap.objs.size<=b) (hn:H' b=none):se X pins H' b:=by
 refine ⟨hn,fm (aI I.lt hb),I.nofs hb,.inr (cy I.sz hb),fun x c e z=>?_,fun p hp z=>?_⟩
 ·obtain ⟨v,q⟩:=I.cell x c e
  exact absurd (aI q.lt (by rw [z];exact hb)) (cQ _)
 ·exact absurd (aI (aq (I.pin p hp).1) (by rw [z];exact hb)) (cQ _)
structure BO (P:aX) (w:bn) (K:a8) (tg:bd) (J:It) (fp:List ak) (it:ak) (tn:Nat->bE->Prop):Prop where
 mem:it∈fp
 obj:∀ i h,tn i h->∀ b∈fp,∃ o,h.get? b=some o/\∀ v,o.data≠.cell v
 keep:∀ i h h',tn i h->(∀ b∈fp,∀ o,h.get? b=some o->h'.get? b=some o)->tn i h'
 item:∀ (X:Cx),X.prog=P->X.w=w->X.K=K->X.calm=true->∀ (i:Nat) (pins:List (ak×Obj)) (s:ai) (σ:St) (H:Hp) (E:af->ai->Prop),bB X pins σ H s->(∀ b∈fp,se X pins H b)->tn i s.heap->J.go i H ->
  ar (aL P w) X.A (jl (.ref it)) (fun r s1=>∃ u,r=some u /\
   ar (aL P w) X.A (ir tg (.ref it) u) (fun _ s2=>∃ x H',bB X pins σ H' s2/\cR x u/\J.yld i H x H'/\tn (i+1) s2.heap/\∀ b∈fp,H' b=none) E s1) E s
 done:∀ (X:Cx),X.prog=P->X.w=w->X.K=K->X.calm=true->∀ (i:Nat) (pins:List (ak×Obj)) (s:ai) (σ:St) (H:Hp) (E:af->ai->Prop),bB X pins σ H s->(∀ b∈fp,se X pins H b)->tn i s.heap->J.stop i H ->
  ar (aL P w) X.A (jl (.ref it)) (fun r s1=>r=none/\bB X pins σ H s1) E s
 self:∀ (A:bv) (i:Nat) (s:ai) (Q:af->ai->Prop) (E:af->ai->Prop),tn i s.heap->Q (.ref it) s->ar (aL P w) A (vG (.ref it)) Q E s
abbrev TI:=St->Hp->(It->Hp->Prop)->Prop
inductive Wx (X:Cx) (pins:List (ak×Obj)) (σ:St) (tg:bd) (R:It->Hp->Prop) (itv:af) (s2:ai):Prop
 |mk (it:ak) (fp:List ak) (tn:Nat->bE->Prop) (J:It) (H':Hp) (h0:itv=.ref it) (I:bB X pins σ H' s2) (T:BO X.prog X.w X.K tg J fp it tn) (t0:tn 0 s2.heap) (f:∀ b∈fp,se X pins H' b) (q:R J H'):Wx X pins σ tg R itv s2
inductive Wz (X:Cx) (pins:List (ak×Obj)) (tn:Nat->bE->Prop) (fp:List ak) (W:Nat->Nat->St->Hp->Prop) (n:Nat) (s':ai):Prop
 |mk (i:Nat) (σ':St) (H':Hp) (I:bB X pins σ' H' s') (t:tn i s'.heap) (f:∀ b∈fp,H' b=none) (q:W i n σ' H'):Wz X pins tn fp W n s'
def PI (X:Cx) (tg iter:bd) (wi:TI):Prop :=
 ∀ (pins:List (ak×Obj)) (s:ai) (σ:St) (H:Hp) (R:It->Hp->Prop),bB X pins σ H s->wi σ H R ->
  ar (aL X.prog X.w) X.A (ed iter X.env) (fun v s1=>ar (aL X.prog X.w) X.A (vG v) (Wx X pins σ tg R) X.xe s1) X.xe s
theorem HE {M : KH} {A : bv} {E : af -> ai -> Prop} {s : ai} {tg : bd} {it : ak} {u : af} {o : Obj} {n : String} {vs : Array af} {Q : Unit -> ai -> Prop} (ho : s.heap.get? it = some o) (hc : o.cls = .type n) (hd : o.data = .fields vs)
    (hn : ["enumerate", "zip", "dict_itemiterator", "dict_reverseitemiterator", "odict_iterator", "itertools.zip_longest", "itertools.pairwise"].contains n = false) (hQ : Q () s) : ar M A (ir tg (.ref it) u) Q E s := by
  unfold ir
  cases tg <;> first
    | exact aa hQ
    | (cases u <;> first
        | exact aa hQ
        | (refine a7 (wpAny_load ho ?_)
           rw [hc, hd]
           show ar M A (if (["enumerate", "zip", "dict_itemiterator", "dict_reverseitemiterator", "odict_iterator", "itertools.zip_longest", "itertools.pairwise"].contains n && vs[0]? == some (bZ _)) = true then _ else _) Q E s
           rw [if_neg (by intro h; rw [hn, AA] at h; cases h)]
           exact aa hQ))
def WA (K:a8) (a:ak):It :=
 ⟨fun i H=>∃ xs x,ni K H a xs/\xs[i]?=some x,fun i H x H'=>H'=H/\∀ xs,ni K H a xs->xs[i]?=some x,fun i H=>∃ xs,ni K H a xs/\xs.length<=i⟩
def WB (K:a8) (a:ak):It :=
 ⟨fun i H=>∃ xs x,ko K H a xs/\xs[i]?=some x,fun i H x H'=>H'=H/\∀ xs,ko K H a xs->xs[i]?=some x,fun i H=>∃ xs,ko K H a xs/\xs.length<=i⟩
def W8 (lo:Int) (n:Nat):It:=⟨fun i _=>i<n,fun i H x H'=>H'=H/\x=.int (lo+i),fun i _=>n<=i⟩
theorem Jn {P:aX}{w:bn}{K:a8}{tg:bd} (a it:ak):BO P w K tg (WA K a) [it] it (fun i h=>h.IsListIter it a i) where
 mem:=by simp
 obj:=fun i h st b hb=>by
  have e:b=it:=by simpa using hb
  subst e
  obtain ⟨o,e,c,d⟩:=st
  exact ⟨o,e,fun v z=>by rw [d] at z;cases z⟩
 keep:=fun i h h' st k=>st.at fun o e=>k it (by simp) o e
 item:=by
  intro X hP hw hK hc i pins s σ H E I hf st hg
  subst hP hw hK
  obtain ⟨xs,x,hq,hx⟩:=hg
  obtain ⟨its,rv,p,hz⟩:=I.list hq
  obtain ⟨u,hu,ru⟩:=rv.get hx
  obtain ⟨f0,f1,f2,f3,f4,f5⟩:=hf it (by simp)
  refine wpAny_pyNext_list_item st p.isList (x:=u) (by simpa using hu) fun h' st' sb=>?_
  have I1:bB X pins σ H { s with heap:=h' }:=I.turned (t':=s.toks) (fun b o hb e=>(sb.2 b hb).trans e) f0 f1 f3 f4 f5
  obtain ⟨o,e,c,d⟩:=id st'
  exact ⟨u,rfl,HE (s:={ s with heap:=h' }) e c d (by decide) ⟨x,H,I1,ru,⟨rfl,fun ys hy=>by rw [I.list_inj hy hq];exact hx⟩,st',fun b hb=>(hf b hb).1⟩⟩
 done:=by
  intro X hP hw hK hc i pins s σ H E I hf st hg
  subst hP hw hK
  obtain ⟨xs,hq,hx⟩:=hg
  obtain ⟨its,rv,p,hz⟩:=I.list hq
  obtain ⟨f0,f1,f2,f3,f4,f5⟩:=hf it (by simp)
  have hl:=rv.length
  exact wpAny_pyNext_list_end (I.ok.hd hc) st p.isList (by simp;omega) fun h' eb=>⟨rfl,I.turned (t':=s.toks) (fun b o hb e=>eb b o hb e) f0 f1 f3 f4 f5⟩
 self:=fun _ _ _ _ _ st h=>wpAny_pyIter_listiter st h
theorem G3 {P:aX}{w:bn}{K:a8}{tg:bd} (a it:ak):BO P w K tg (WB K a) [it] it (fun i h=>h.IsTupleIter it a i) where
 mem:=by simp
 obj:=fun i h st b hb=>by
  have e:b=it:=by simpa using hb
  subst e
  obtain ⟨o,e,c,d⟩:=st
  exact ⟨o,e,fun v z=>by rw [d] at z;cases z⟩
 keep:=fun i h h' st k=>st.at fun o e=>k it (by simp) o e
 item:=by
  intro X hP hw hK hc i pins s σ H E I hf st hg
  subst hP hw hK
  obtain ⟨xs,x,hq,hx⟩:=hg
  obtain ⟨its,rv,p,hz⟩:=I.tuple hq
  obtain ⟨u,hu,ru⟩:=rv.get hx
  obtain ⟨f0,f1,f2,f3,f4,f5⟩:=hf it (by simp)
  refine wpAny_pyNext_tuple_item st (show s.heap.IsTuple a its.toArray from p) (x:=u) (by simpa using hu) fun h' st' sb=>?_
  have I1:bB X pins σ H { s with heap:=h' }:=I.turned (t':=s.toks) (fun b o hb e=>(sb.2 b hb).trans e) f0 f1 f3 f4 f5
  obtain ⟨o,e,c,d⟩:=id st'
  exact ⟨u,rfl,HE (s:={ s with heap:=h' }) e c d (by decide) ⟨x,H,I1,ru,⟨rfl,fun ys hy=>by rw [I.tuple_inj hy hq];exact hx⟩,st',fun b hb=>(hf b hb).1⟩⟩
 done:=by
  intro X hP hw hK hc i pins s σ H E I hf st hg
  subst hP hw hK
  obtain ⟨xs,hq,hx⟩:=hg
  obtain ⟨its,rv,p,hz⟩:=I.tuple hq
  obtain ⟨f0,f1,f2,f3,f4,f5⟩:=hf it (by simp)
  have hl:=rv.length
  exact wpAny_pyNext_tuple_end (I.ok.hd hc) st (show s.heap.IsTuple a its.toArray from p) (by simp;omega) fun h' eb=>⟨rfl,I.turned (t':=s.toks) (fun b o hb e=>eb b o hb e) f0 f1 f3 f4 f5⟩
 self:=fun _ _ _ _ _ st h=>wpAny_pyIter_tupleiter st h
theorem G4 {P:aX}{w:bn}{K:a8}{tg:bd} (it:ak) (lo:Int) (n:Nat):BO P w K tg (W8 lo n) [it] it (fun i h=>IsRangeIter h it (lo+(i:Nat)*1) ((n:Int)-(i:Nat)) 1) where
 mem:=by simp
 obj:=fun i h st b hb=>by
  have e:b=it:=by simpa using hb
  subst e
  exact ⟨_,st,fun v z=>by
   have z':Hv _=Data.cell v:=z
   cases z'⟩
 keep:=fun i h h' st k=>k it (by simp) _ st
 item:=by
  intro X hP hw hK hc i pins s σ H E I hf st hg
  subst hP hw hK
  obtain ⟨f0,f1,f2,f3,f4,f5⟩:=hf it (by simp)
  have W:=Walks.range (prog:=X.prog) (w:=X.w) (I.ok.hd hc) it lo 1 n
  refine W.item i s _ _ hg st fun v h' tk hv st' kk=>?_
  obtain ⟨t,rfl⟩:=hv
  have I1:bB X pins σ H { s with heap:=h',toks:=tk }:=I.turned (fun b o hb e=>kk b o (by simpa using hb) e) f0 f1 f3 f4 f5
  refine ⟨_,rfl,HE (s:={ s with heap:=h',toks:=tk }) (n:="range_iterator") st' rfl rfl (by decide) ⟨.int (lo+i),H,I1,⟨t,?_⟩,⟨rfl,rfl⟩,st',fun b hb=>(hf b hb).1⟩⟩
  rw [Int.mul_one]
 done:=by
  intro X hP hw hK hc i pins s σ H E I hf st hg
  subst hP hw hK
  obtain ⟨f0,f1,f2,f3,f4,f5⟩:=hf it (by simp)
  exact wpAny_pyNext_range_end (I.ok.hd hc) st (by have:n<=i:=hg;omega) fun h' eb=>⟨rfl,I.turned (t':=s.toks) (fun b o hb e=>eb b o hb e) f0 f1 f3 f4 f5⟩
 self:=fun _ _ _ _ _ st h=>wpAny_pyIter_rangeiter st h
end L2
namespace L2
open PySem PySem.Spec PyProof.Rows
section
variable {X:Cx}{tg:bd}
def Uo (K:a8) (tl:TE):TI:=fun σ H R=>tl σ H fun x H1=>∃ a,x=.ref a/\(∃ xs,ni K H1 a xs)/\R (WA K a) H1
def WC (K:a8) (tl:TE):TI:=fun σ H R=>tl σ H fun x H1=>∃ a,x=.ref a/\(∃ xs,ko K H1 a xs)/\R (WB K a) H1
theorem uz {l:bd}{tl:TE} (hl:PE X l tl):PI X tg l (Uo X.K tl):=by
 intro pins s σ H R I h
 refine fG (hl pins s σ H _ I h) fun v s1 h_16=>?_
 obtain ⟨x,H1,I1,r1,q1⟩:=h_16
 obtain ⟨a,e,⟨xs,hq⟩,q⟩:=q1
 subst e
 cases r1
 obtain ⟨its,rv,p,hz⟩:=I1.list hq
 refine gy p.isList ?_
 refine ⟨s1.heap.objs.size,[s1.heap.objs.size],_,_,H1,rfl,I1.kept (t':=s1.toks) fun b o e=>ag _ e,Jn a _,⟨_,ax _ rfl,rfl,rfl⟩,fun b hb=>?_,q⟩
 have e:b=s1.heap.objs.size:=by simpa using hb
 subst e
 exact I1.fpOk (au _) (I1.hok.fresh (au _))
theorem Lr {l:bd}{tl:TE} (hl:PE X l tl):PI X tg l (WC X.K tl):=by
 intro pins s σ H R I h
 refine fG (hl pins s σ H _ I h) fun v s1 h_17=>?_
 obtain ⟨x,H1,I1,r1,q1⟩:=h_17
 obtain ⟨a,e,⟨xs,hq⟩,q⟩:=q1
 subst e
 cases r1
 obtain ⟨its,rv,p,hz⟩:=I1.tuple hq
 refine fV (show s1.heap.IsTuple a its.toArray from p) ?_
 refine ⟨s1.heap.objs.size,[s1.heap.objs.size],_,_,H1,rfl,I1.kept (t':=s1.toks) fun b o e=>ag _ e,G3 a _,⟨_,ax _ rfl,rfl,rfl⟩,fun b hb=>?_,q⟩
 have e:b=s1.heap.objs.size:=by simpa using hb
 subst e
 exact I1.fpOk (au _) (I1.hok.fresh (au _))
theorem Ls {pins:List (ak×Obj)}{σ:St}{H:Hp}{s:ai}{R:It->Hp->Prop}{E:af->ai->Prop}{lo hi:Int}{t u v:Tok}{tk:Nat} (I:bB X pins σ H s) (h1:-(2 ^ 62)<=lo) (h2:lo<2 ^ 62) (h3:-(2 ^ 62)<=hi) (h4:hi<2 ^ 62)
  (q:R (W8 lo (hi-lo).toNat) H):ar (aL X.prog X.w) X.A (vG (.ref s.heap.objs.size)) (Wx X pins σ tg R) E { s with heap:=s.heap.push { cls:=.type "range",data:=.fields #[.int lo t,.int hi u,.int 1 v] },toks:=tk }:=by
 refine wpAny_pyIter_range (IsRange.new ..) (small_one h1 h2 h3 h4) ?_
 have I1:bB X pins σ H { s with heap:=s.heap.push { cls:=.type "range",data:=.fields #[.int lo t,.int hi u,.int 1 v] },toks:=tk }:=I.kept fun b o e=>ag _ e
 refine ⟨(s.heap.push { cls:=.type "range",data:=.fields #[.int lo t,.int hi u,.int 1 v] }).objs.size,[(s.heap.push { cls:=.type "range",data:=.fields #[.int lo t,.int hi u,.int 1 v] }).objs.size],_,_,H,rfl,
  I1.kept (t':=tk) fun b o e=>ag _ e,G4 _ lo (hi-lo).toNat,?_,fun b hb=>?_,q⟩
 ·have e1:lo+((0:Nat):Int)*1=lo:=by simp
  have e2:(((hi-lo).toNat:Nat):Int)-((0:Nat):Int)=Builtin.Range.rangeSize lo hi 1:=by rw [rangeSize_one];split<;>omega
  show IsRangeIter _ _ (lo+((0:Nat):Int)*1) ((((hi-lo).toNat:Nat):Int)-((0:Nat):Int)) 1
  rw [e1,e2]
  exact ax _ rfl
 ·have e:b=(s.heap.push { cls:=.type "range",data:=.fields #[.int lo t,.int hi u,.int 1 v] }).objs.size:=by simpa using hb
  subst e
  exact I1.fpOk (au _) (I1.hok.fresh (au _))
def Up (ta:TA):TI:=fun σ H R=>ta σ H fun vs H1=>∃ j:Int,vs=[.int j]/\-(2 ^ 62)<=j/\j<2 ^ 62/\R (W8 0 j.toNat) H1
theorem Jo {a:bd}{ta:TA}{p pos:Pos} (hg:Gl X "range") (hm:X.mg "range"=none) (ha:PA X [a] ta) (hs:aJ [a] X.env=[(false,ed a X.env)]:=by rfl):PI X tg (.Call (.Name "range" p) [a] [] pos) (Up ta):=by
 intro pins s σ H R I h
 refine Call_ (s_ I hg hm boot_range (gG (fG (ha pos pins s σ H _ I h) fun us s1 ⟨vs,H1,I1,r1,q1⟩=>?_) hs rfl))
 obtain ⟨j,e,q1,q2,q⟩:=q1
 subst e
 cases r1 with
 |cons r rr =>
  cases rr
  obtain ⟨t,rfl⟩:=r
  exact call_range_1 (Ls I1 (by omega) (by omega) q1 q2 (by simpa using q))
inductive WD (g:TG) (tb:TS) (D:BL) (σ:St) (J:It) (H1:Hp):Prop
 |mk (W:Nat->Nat->St->Hp->Prop) (w0:∃ m,W 0 m σ H1) (turn:∀ i m σ H,W i m σ H ->
 (J.stop i H/\D.nx σ H)\/(J.go i H/\∃ N:St->Hp->Prop,(∀ σ' H',N σ' H'->∃ m',m'<m/\W (i+1) m' σ' H')/\∀ x H',J.yld i H x H'->g x σ H' fun σ2 H2=>tb { D with nx:=N,ct:=N,bk:=D.nx } σ2 H2)):WD g tb D σ J H1
def WE (wi:TI) (g:TG) (tb:TS):TS:=fun D σ H=>wi σ H (WD g tb D σ)
def yg (fp:List ak) (h:bE):List (ak×Obj):=fp.filterMap fun b=>(h.get? b).map fun o=>(b,o)
theorem jK {fp:List ak}{h:bE}{b:ak}{o:Obj} (hb:b∈fp) (e:h.get? b=some o):(b,o)∈yg fp h:=List.mem_filterMap.mpr ⟨b,hb,by rw [e];rfl⟩
theorem AH {fp:List ak}{h:bE}{p:ak×Obj} (hp:p∈yg fp h):p.1∈fp/\h.get? p.1=some p.2:=by
 obtain ⟨b,hb,e⟩:=List.mem_filterMap.mp hp
 cases q:h.get? b with
 |none=>rw [q] at e;cases e
 |some o =>
  rw [q] at e
  have e':(b,o)=p:=bu e
  subst e'
  exact ⟨hb,q⟩
theorem bB.pinned {pins:List (ak×Obj)}{σ:St}{H:Hp}{s:ai}{fp:List ak} (I:bB X pins σ H s) (hf:∀ b∈fp,se X pins H b) (ho:∀ b∈fp,∃ o,s.heap.get? b=some o/\∀ v,o.data≠.cell v):bB X (pins++yg fp s.heap) σ H s :=
 I.pins_of fun p hp=>(List.mem_append.mp hp).elim (fun z=>I.pin p (ap _ z)) fun z=>by
  obtain ⟨hb,e⟩:=AH z
  obtain ⟨f0,f1,f2,_⟩:=hf p.1 hb
  obtain ⟨o,e',d⟩:=ho p.1 hb
  rw [e] at e';cases e'
  exact ⟨e,f0,f1,f2,d⟩
theorem bB.unpinned {pins pl:List (ak×Obj)}{σ:St}{H:Hp}{s:ai} (I:bB X (pins++pl) σ H s):bB X pins σ H s:=I.pins_of fun p hp=>I.pin p (ap _ (bD _ hp))
theorem Lu {iter:bd}{body:List cP}{wi:TI}{g:TG}{tb:TS}{pos:Pos} (hp:PassesOwn (aL X.prog X.w) X.A X.env X.xe) (hc:X.calm=true) (hi:PI X tg iter wi) (hg:PG X tg g) (hb:HD X body tb)
  (hs:∀ x,el iter X.env x=pure x:=by intro _;rfl):PS X (.For tg iter body [] pos) (WE wi g tb):=by
 intro pins s σ H D I h
 refine wpAny_For (fG (hi pins s σ H _ I h) fun v s1 h1=>fG h1 fun itv s2 h2=>?_) hs
 obtain ⟨it,fp,tn,J,H2,e,I2,T,st2,f2,W,⟨m0,w0⟩,turn⟩:=h2
 subst e
 have stat:∀ {H':Hp},(∀ b∈fp,H' b=none)->∀ b∈fp,se X pins H' b:=fun hn b hb=>⟨hn b hb,(f2 b hb).f1,(f2 b hb).f2,(f2 b hb).f3,(f2 b hb).f4,(f2 b hb).f5⟩
 refine codeAny_forLoop_any (Wz X pins tn fp W) ?_ m0 ⟨0,σ,H2,I2,st2,fun b hb=>(f2 b hb).1,w0⟩
 rintro n s3 ⟨i,σ3,H3,I3,st3,fr3,w3⟩
 rcases turn i n σ3 H3 w3 with ⟨stop,qn⟩|⟨go,N,hN,step⟩
 ·refine iq hp (fG (T.done X rfl rfl rfl hc i pins s3 σ3 H3 X.xe I3 (stat fr3) st3 stop) fun r s4 ⟨hr,I4⟩=>?_)
  subst hr
  exact uh ⟨σ3,H3,I4,qn⟩
 ·refine iq hp (fG (T.item X rfl rfl rfl hc i pins s3 σ3 H3 X.xe I3 (stat fr3) st3 go) fun r s4 ⟨u,hr,h4⟩=>?_)
  subst hr
  refine iq hp (fG h4 fun _ s5 ⟨x,H5,I5,r5,y5,st5,fr5⟩=>?_)
  have I5':=I5.pinned (stat fr5) (T.obj _ _ st5)
  refine iq hp (fG (hg _ s5 σ3 H5 x u _ I5' r5 (step x H5 y5)) fun _ s6 ⟨σ6,H6,I6,q6⟩=>?_)
  refine iq hp (fG (hb _ s6 σ6 H6 _ I6 q6) fun f s7 q7=>?_)
  have again:∀ {σ7:St}{H7:Hp},bB X (pins++yg fp s5.heap) σ7 H7 s7->N σ7 H7->∃ m,m<n/\Wz X pins tn fp W m s7:=fun {σ7 H7} I7 n7=>by
   obtain ⟨m',hm,w7⟩:=hN σ7 H7 n7
   refine ⟨m',hm,i+1,σ7,H7,I7.unpinned,T.keep _ _ _ st5 fun b hb o e=>(I7.pin (b,o) (ap _ (ap _ (jK hb e)))).1,fun b hb=>?_,w7⟩
   obtain ⟨o,e,d⟩:=T.obj _ _ st5 b hb
   exact (I7.pin (b,o) (ap _ (ap _ (jK hb e)))).2.1
  cases f with
  |next=>obtain ⟨σ7,H7,I7,n7⟩:=q7;exact again I7 n7
  |cont=>obtain ⟨σ7,H7,I7,n7⟩:=q7;exact again I7 n7
  |brk=>obtain ⟨σ7,H7,I7,q7⟩:=q7;exact ⟨σ7,H7,I7.unpinned,q7⟩
  |ret v=>obtain ⟨x7,σ7,H7,I7,r7,q7⟩:=q7;exact ⟨x7,σ7,H7,I7.unpinned,r7,q7⟩
end
end L2
namespace L2
open PySem PySem.Spec PyProof.Rows
abbrev R2:=V->V->Hp->VK->Prop
def pW (X:Cx) (f:af->af->Sem af) (r:R2):Prop :=
 ∀ (pins:List (ak×Obj)) (s:ai) (σ:St) (H:Hp) (x y:V) (v u:af) (Q:VK),bB X pins σ H s->cR x v->cR y u->r x y H Q ->
  ar (aL X.prog X.w) X.A (f v u) (EP X pins σ Q) X.xe s
def WF (X:Cx) (f:af->Sem af) (r:V->Hp->VK->Prop):Prop :=
 ∀ (pins:List (ak×Obj)) (s:ai) (σ:St) (H:Hp) (x:V) (v:af) (Q:VK),bB X pins σ H s->cR x v->r x H Q ->
  ar (aL X.prog X.w) X.A (f v) (EP X pins σ Q) X.xe s
def j7 (X:Cx) (f:af) (r:List V->Hp->VK->Prop):Prop :=
 ∀ (pins:List (ak×Obj)) (s:ai) (σ:St) (H:Hp) (xs:List V) (us:List af) (Q:VK),bB X pins σ H s->dH xs us->r xs H Q ->
  ar (aL X.prog X.w) X.A (call f us) (EP X pins σ Q) X.xe s
def WG (X:Cx) (r:V->Hp->(Bool->Hp->Prop)->Prop):Prop :=
 ∀ (pins:List (ak×Obj)) (s:ai) (σ:St) (H:Hp) (x:V) (v:af) (Q:Bool->Hp->Prop),bB X pins σ H s->cR x v->r x H Q ->
  ar (aL X.prog X.w) X.A (truthy v) (TP X pins σ Q) X.xe s
def Uq (r:R2) (ta tb:TE):TE:=fun σ H Q=>ta σ H fun x H1=>tb σ H1 fun y H2=>r x y H2 Q
def XX (r:V->Hp->VK->Prop) (ta:TE):TE:=fun σ H Q=>ta σ H fun x H1=>r x H1 Q
inductive Xu (C:Int->Int->Prop) (g:Int->Int->V) (x:V) (y:V) (H:Hp) (Q:VK):Prop
 |mk (i j:_) (h0:x=.int i) (h1:y=.int j) (h2:C i j) (h3:Q (g i j) H):Xu C g x y H Q
def rI (C:Int->Int->Prop) (g:Int->Int->V):R2:=Xu C g
inductive Ur (g:Int->Int->V) (x:V) (y:V) (H:Hp) (Q:VK):Prop
 |mk (i j:_) (h0:x=.int i) (h1:y=.int j) (h2:Q (g i j) H):Ur g x y H Q
def P9 (g:Int->Int->V):R2:=Ur g
inductive Xv (g:Int->V) (x:V) (H:Hp) (Q:VK):Prop
 |mk (i:_) (h0:x=.int i) (h1:Q (g i) H):Xv g x H Q
def rU (g:Int->V):V->Hp->VK->Prop:=Xv g
section
variable {X:Cx}{a b c:bd}{ta tb tc:TE}{pos:Pos}
theorem Sy (ha:PE X a ta) (hb:PE X b tb) {pins:List (ak×Obj)}{s:ai}{σ:St}{H:Hp}{R:V->V->Hp->Prop} (I:bB X pins σ H s)
  (h:ta σ H fun x H1=>tb σ H1 fun y H2=>R x y H2) {Q:af->ai->Prop}{f:af->af->Sem af}
  (hf:∀ v u s2 x y H2,bB X pins σ H2 s2->cR x v->cR y u->R x y H2->ar (aL X.prog X.w) X.A (f v u) Q X.xe s2) :
  ar (aL X.prog X.w) X.A (ed a X.env) (fun v s₁=>ar (aL X.prog X.w) X.A (ed b X.env) (fun u s₂=>ar (aL X.prog X.w) X.A (f v u) Q X.xe s₂) X.xe s₁) X.xe s:=by
 refine fG (ha pins s σ H _ I h) fun v s1 h_19=>?_
 obtain ⟨x,H1,I1,r1,q1⟩:=h_19
 refine fG (hb pins s1 σ H1 _ I1 q1) fun u s2 h_20=>?_
 obtain ⟨y,H2,I2,r2,q2⟩:=h_20
 exact hf v u s2 x y H2 I2 r1 r2 q2
theorem R1 {op:Operator}{r:R2} (ho:pW X (eW op) r) (ha:PE X a ta) (hb:PE X b tb):PE X (.BinOp a op b pos) (Uq r ta tb):=by
 intro pins s σ H Q I h
 exact wpAny_BinOp (Sy ha hb I h fun v u s2 x y H2 I2 rx ry q=>ho pins s2 σ H2 x y v u Q I2 rx ry q)
theorem Us {op:UnaryOp}{r:V->Hp->VK->Prop} (ho:WF X (unaryOp op) r) (ha:PE X a ta):PE X (.UnaryOp op a pos) (XX r ta):=by
 intro pins s σ H Q I h
 exact UnaryOp_ (fG (ha pins s σ H _ I h) fun v s1 h_21=>by obtain ⟨x,H1,I1,r1,q1⟩:=h_21;exact ho pins s1 σ H1 x v Q I1 r1 q1)
theorem WH {f:af->af->Sem af}{C:Int->Int->Prop}{g:Int->Int->Int}
  (rule:∀ (i j:Int) (t u:Tok) (s:ai) (Q:af->ai->Prop) (E:af->ai->Prop),C i j->Q (.int (g i j) s.toks) { s with toks:=s.toks+1 }->ar (aL X.prog X.w) X.A (f (.int i t) (.int j u)) Q E s) :
  pW X f (rI C fun i j=>.int (g i j)):=by
 intro pins s σ H x y v u Q I rx ry h
 obtain ⟨i,j,rfl,rfl,hc,q⟩:=h
 obtain ⟨t,rfl⟩:=rx
 obtain ⟨t',rfl⟩:=ry
 exact rule i j t t' s _ _ hc ⟨.int (g i j),H,I.tok _,⟨_,rfl⟩,q⟩
theorem Ut {f:af->af->Sem af}{g:Int->Int->Int}
  (rule:∀ (i j:Int) (t u:Tok) (s:ai) (Q:af->ai->Prop) (E:af->ai->Prop),Q (.int (g i j) s.toks) { s with toks:=s.toks+1 }->ar (aL X.prog X.w) X.A (f (.int i t) (.int j u)) Q E s) :
  pW X f (P9 fun i j=>.int (g i j)):=by
 intro pins s σ H x y v u Q I rx ry h
 obtain ⟨i,j,rfl,rfl,q⟩:=h
 obtain ⟨t,rfl⟩:=rx
 obtain ⟨t',rfl⟩:=ry
 exact rule i j t t' s _ _ ⟨.int (g i j),H,I.tok _,⟨_,rfl⟩,q⟩
theorem Sz {f:af->af->Sem af}{g:Int->Int->Bool}
  (rule:∀ (i j:Int) (t u:Tok) (s:ai) (Q:af->ai->Prop) (E:af->ai->Prop),Q (.bool (g i j)) s->ar (aL X.prog X.w) X.A (f (.int i t) (.int j u)) Q E s) :
  pW X f (P9 fun i j=>.bl (g i j)):=by
 intro pins s σ H x y v u Q I rx ry h
 obtain ⟨i,j,rfl,rfl,q⟩:=h
 obtain ⟨t,rfl⟩:=rx
 obtain ⟨t',rfl⟩:=ry
 exact rule i j t t' s _ _ ⟨.bl (g i j),H,I,rfl,q⟩
def WI (i j:Int):Prop:=0<j/\j<1073741824
def SA (i j:Int):Prop:=(-(2 ^ 64)<i/\i<2 ^ 64)\/(-(2 ^ 64)<j/\j<2 ^ 64)
theorem SA.ok {i j:Int} (h:SA i j):IntMulOk i j:=by
 rcases h with ⟨h1,h2⟩|⟨h1,h2⟩
 ·exact .of_left (intBits_le_64 h1 h2)
 ·exact .of_right (intBits_le_64 h1 h2)
theorem SB:pW X (eW .Add) (P9 fun i j=>.int (i+j)):=Ut fun _ _ _ _ _ _ _ q=>add_int q
theorem SC:pW X (eW .Sub) (P9 fun i j=>.int (i-j)):=Ut fun _ _ _ _ _ _ _ q=>sub_int q
theorem SD:pW X (eW .Mult) (rI SA fun i j=>.int (i*j)):=WH fun _ _ _ _ _ _ _ hc q=>mul_int q hc.ok
theorem Pa:pW X (eW .FloorDiv) (rI WI fun i j=>.int (i / j)):=WH fun i j _ _ _ _ _ hc q=>by
 have h1:(0:Int)<j:=hc.1
 have h2:j<1073741824:=hc.2
 exact floordiv_int (by omega) (by rw [Int.fdiv_eq_ediv_of_nonneg i (by omega)];exact q) (.inl (PyProof.noPylong_small (by omega)))
theorem SE:pW X (eW .Mod) (rI (fun _ j=>0<j) fun i j=>.int (i % j)):=WH fun i j _ _ _ _ _ hc q=>by
 have h1:(0:Int)<j:=hc
 exact mod_int' (by omega) (by rw [Int.fmod_eq_emod_of_nonneg i (by omega)];exact q)
theorem XY {f:af->Sem af}{g:Int->Int}
  (rule:∀ (i:Int) (t:Tok) (s:ai) (Q:af->ai->Prop) (E:af->ai->Prop),Q (.int (g i) s.toks) { s with toks:=s.toks+1 }->ar (aL X.prog X.w) X.A (f (.int i t)) Q E s) :
  WF X f (rU fun i=>.int (g i)):=by
 intro pins s σ H x v Q I rx h
 obtain ⟨i,rfl,q⟩:=h
 obtain ⟨t,rfl⟩:=rx
 exact rule i t s _ _ ⟨.int (g i),H,I.tok _,⟨_,rfl⟩,q⟩
theorem SF:WF X (unaryOp .USub) (rU fun i=>.int (-i)):=XY fun _ _ _ _ _ q=>neg_int q
end
section
variable {X:Cx}{a b c:bd}{ta tb tc:TE}{pos:Pos}
theorem G5 {pins:List (ak×Obj)}{σ:St}{H:Hp}{s:ai}{Q:VK}{k k':Bool} (I:bB X pins σ H s) (q:Q (.bl k) H) (e:k=k'):EP X pins σ Q (.bool k') s:=by
 subst e
 exact ⟨.bl k,H,I,rfl,q⟩
theorem Uu:pW X (bO .Lt) (P9 fun i j=>.bl (decide (i<j))):=Sz fun _ _ _ _ _ _ _ q=>lt_int q
theorem Uv:pW X (bO .LtE) (P9 fun i j=>.bl (decide (i<=j))):=Sz fun _ _ _ _ _ _ _ q=>le_int q
theorem Uw:pW X (bO .Gt) (P9 fun i j=>.bl (decide (j<i))):=Sz fun _ _ _ _ _ _ _ q=>gt_int q
theorem Jp:pW X (bO .Lt) (fun x y H Q=>∃ i j,x=.str i/\y=.str j/\Q (.bl (decide (i.cps.toList<j.cps.toList))) H):=by
 intro pins s σ H x y v u Q I rx ry h
 obtain ⟨i,j,rfl,rfl,q⟩:=h
 obtain ⟨t,rfl⟩:=rx
 obtain ⟨t',rfl⟩:=ry
 exact lt_str (G5 I q rfl)
theorem Pb:pW X (bO .IsNot) (fun x y H Q=>y=.non/\Q (.bl (!decide (x=.non))) H):=by
 intro pins s σ H x y v u Q I rx ry h
 obtain ⟨rfl,q⟩:=h
 cases ry
 refine isnot_none_gen (G5 I q ?_)
 cases x<;>first
  |(cases rx;rfl)
  |(obtain ⟨t,rfl⟩:=rx;rfl)
theorem Lv (b:bd) {op:KI} (h:op≠.In:=by decide) (h2:op≠.NotIn:=by decide):gF op b=false:=by
 have e1:(op==CmpOp.In)=false:=by cases op<;>first|rfl|exact absurd rfl h
 have e2:(op==CmpOp.NotIn)=false:=by cases op<;>first|rfl|exact absurd rfl h2
 cases b<;>simp [gF,e1,e2]
theorem Pc {op:KI}{r:R2} (ho:pW X (bO op) r) (ha:PE X a ta) (hb:PE X b tb) (hm:gF op b=false):PE X (.Compare a [op] [b] pos) (Uq r ta tb):=by
 intro pins s σ H Q I h
 exact wpAny_Compare1 (Sy ha hb I h fun v u s2 x y H2 I2 rx ry q=>ho pins s2 σ H2 x y v u Q I2 rx ry q) hm
def R4 (t:TE):TT:=fun σ H Q=>t σ H fun x H'=>∃ k,x=.bl k/\Q k H'
theorem Pd {op:KI}{r:R2} (ho:pW X (bO op) r) (ha:PE X a ta) (hb:PE X b tb) (hm:gF op b=false):PT X (.Compare a [op] [b] pos) (R4 (Uq r ta tb)):=by
 intro pins s σ H Q I h
 refine Oq (fG (ha pins s σ H _ I h) fun v s1 ⟨x,H1,I1,r1,q1⟩=>fG (hb pins s1 σ H1 _ I1 q1) fun u s2 ⟨y,H2,I2,r2,q2⟩ =>
  fG (ho pins s2 σ H2 x y v u _ I2 r1 r2 q2) fun c s3 ⟨z,H3,I3,r3,k,e,q3⟩=>?_) hm
 subst e
 cases r3
 exact cY ⟨H3,I3,q3⟩
def G6 (r r':R2) (ta tb tc:TE):TE:=fun σ H Q=>ta σ H fun x H1=>tb σ H1 fun y H2=>r x y H2 fun z H3=>∃ k,z=.bl k /\
 (if k=true then tc σ H3 fun w' H4=>r' y w' H4 Q else Q (.bl false) H3)
theorem Lw {op op':KI}{r r':R2} (ho:pW X (bO op) r) (ho':pW X (bO op') r') (ha:PE X a ta) (hb:PE X b tb) (hc:PE X c tc)
  (hm:KJ [op,op'] [b,c]=false:=by with_unfolding_all rfl):PE X (.Compare a [op,op'] [b,c] pos) (G6 r r' ta tb tc):=by
 intro pins s σ H Q I h
 refine Compare_chain (fG (ha pins s σ H _ I h) fun v s1 ⟨x,H1,I1,r1,q1⟩=>chain_link (fG (hb pins s1 σ H1 _ I1 q1) fun u s2 ⟨y,H2,I2,r2,q2⟩ =>
  fG (ho pins s2 σ H2 x y v u _ I2 r1 r2 q2) fun d s3 ⟨z,H3,I3,r3,k,e,q3⟩=>?_)) hm
 subst e
 cases r3
 refine cY ?_
 cases k with
 |false=>exact ite_ff ⟨.bl false,H3,I3,rfl,q3⟩
 |true=>exact ite_tt (chain_last (fG (hc pins s3 σ H3 _ I3 q3) fun w' s4 h_22=>by obtain ⟨z',H4,I4,r4,q4⟩:=h_22;exact ho' pins s4 σ H4 y z' u w' Q I4 r2 r4 q4))
theorem Lx {op op':KI}{r r':R2} (ho:pW X (bO op) r) (ho':pW X (bO op') r') (ha:PE X a ta) (hb:PE X b tb) (hc:PE X c tc)
  (hm:KJ [op,op'] [b,c]=false:=by with_unfolding_all rfl):PT X (.Compare a [op,op'] [b,c] pos) (R4 (G6 r r' ta tb tc)):=by
 intro pins s σ H Q I h
 refine isTrue_chain (fG (ha pins s σ H _ I h) fun v s1 ⟨x,H1,I1,r1,q1⟩=>test_link (fG (hb pins s1 σ H1 _ I1 q1) fun u s2 ⟨y,H2,I2,r2,q2⟩ =>
  fG (ho pins s2 σ H2 x y v u _ I2 r1 r2 q2) fun d s3 ⟨z,H3,I3,r3,k,e,q3⟩=>?_)) hm
 subst e
 cases r3
 refine cY ?_
 cases k with
 |false =>
  obtain ⟨k',e',q'⟩:=q3
  cases e'
  exact ite_ff ⟨H3,I3,q'⟩
 |true =>
  refine ite_tt (test_last (fG (hc pins s3 σ H3 _ I3 q3) fun w' s4 ⟨z',H4,I4,r4,q4⟩=>fG (ho' pins s4 σ H4 y z' u w' _ I4 r2 r4 q4) fun d' s5 ⟨z2,H5,I5,r5,k2,e2,q5⟩=>?_))
  subst e2
  cases r5
  exact cY ⟨H5,I5,q5⟩
def Ux (K:a8) (x:V) (H:Hp) (k:Bool):Prop :=
 match x with
 |.non=>k=false
 |.bl b=>k=b
 |.int i=>k=(i != 0)
 |.str y=>y.length<=sizeLine/\k=((y.length:Int) != 0)
 |.byt y=>y.size<=sizeLine/\k=((y.size:Int) != 0)
 |.ref p=>(∃ xs,ni K H p xs/\k=!xs.isEmpty)\/(∃ xs,ko K H p xs/\k=!xs.isEmpty)\/∃ kvs,H p=some (.dK kvs)/\k=!kvs.isEmpty
 |_=>False
theorem G7 {κ:Type}{kvs:List (κ×V)}{vs:List (κ×af)} (r:KV kvs vs):(!vs.isEmpty)=!kvs.isEmpty:=by
 cases r<;>rfl
theorem yh {xs:List V}{its:List af} (r:dH xs its):(!its.toArray.isEmpty)=!xs.isEmpty:=by
 cases r<;>simp
theorem vS:(sizeLine:Nat)<2 ^ 63:=by rw [Db];decide
theorem SG:WG X (fun x H Q=>∃ k,Ux X.K x H k/\Q k H):=by
 intro pins s σ H x v Q I rx h
 obtain ⟨k,e,q⟩:=h
 have hl:=vS
 have hs:sizeLine=16777216:=Db
 cases x with
 |non =>
  cases rx
  have e':k=false:=e
  subst e'
  exact truthy_none ⟨H,I,q⟩
 |bl b =>
  cases rx
  have e':k=b:=e
  subst e'
  exact cY ⟨H,I,q⟩
 |int i =>
  obtain ⟨t,rfl⟩:=rx
  have e':k=(i != 0):=e
  subst e'
  exact PySem.P.truthy_int ⟨H,I,q⟩
 |str y =>
  obtain ⟨t,rfl⟩:=rx
  obtain ⟨hy,e'⟩:y.length<=sizeLine/\k=((y.length:Int) != 0):=e
  subst e'
  exact PySem.P.truthy_str (by omega) ⟨H,I.tok _,q⟩
 |byt y =>
  obtain ⟨t,rfl⟩:=rx
  obtain ⟨hy,e'⟩:y.size<=sizeLine/\k=((y.size:Int) != 0):=e
  subst e'
  exact PySem.W.truthy_bytes (by omega) ⟨H,I.tok _,q⟩
 |ref p =>
  cases rx
  have e':(∃ xs,ni X.K H p xs/\k=!xs.isEmpty)\/(∃ xs,ko X.K H p xs/\k=!xs.isEmpty)\/∃ kvs,H p=some (.dK kvs)/\k=!kvs.isEmpty:=e
  rcases e' with ⟨xs,hx,e'⟩|⟨xs,hx,e'⟩|⟨kvs,hx,e'⟩
  ·subst e'
   obtain ⟨its,r,pl,hz⟩:=I.list hx
   have hlen:=r.length
   exact wpAny_truthy_list pl.isList (by simp only [aR];omega) ⟨H,I.tok _,by rw [yh r];exact q⟩
  ·subst e'
   obtain ⟨its,r,pl,hz⟩:=I.tuple hx
   have hlen:=r.length
   exact truthy_tuple pl (by simp only [aR];omega) ⟨H,I.tok _,by rw [yh r];exact q⟩
  ·subst e'
   obtain ⟨hz,hS,vs,r,m⟩:kvs.length<=sizeLine/\(p==fk)=false/\∃ vs,KV kvs vs/\s.heap.DictOf (fM X.prog X.w) p vs:=I.hok p _ hx
   have hlen:kvs.length=vs.length:=iT r
   exact wpAny_truthy_dict hS m (by omega) ⟨H,I.tok _,by rw [G7 r];exact q⟩
 |_=>exact (show False from e).elim
theorem Ly (ha:PE X a ta) (he:∀ whole,xV a X.env whole=(do let v <- whole;wC a.pos;zQ [v] (truthy v))) :
  PT X a (fun σ H Q=>ta σ H fun x H'=>∃ k,Ux X.K x H' k/\Q k H'):=by
 intro pins s σ H Q I h
 exact isTrue_plain (fG (ha pins s σ H _ I h) fun v s1 h_23=>by obtain ⟨x,H1,I1,r1,q1⟩:=h_23;exact SG pins s1 σ H1 x v Q I1 r1 q1) (he _)
theorem G8:pW X (eW .Add) (fun x y H Q=>∃ i j,x=.str i/\y=.str j/\i.length+j.length<=sizeLine/\Q (.str (i++j)) H):=by
 intro pins s σ H x y v u Q I rx ry h
 obtain ⟨i,j,rfl,rfl,hz,q⟩:=h
 obtain ⟨t,rfl⟩:=rx
 obtain ⟨t',rfl⟩:=ry
 exact add_str (fun t' tk=>⟨.str (i++j),H,I.tok _,⟨_,rfl⟩,q⟩) hz
theorem jH {x:V}{us:List af} (r:dH [x] us):∃ u,us=[u]/\cR x u:=by
 cases r with
 |cons r1 r2=>cases r2;exact ⟨_,rfl,r1⟩
theorem R5 {x y:V}{us:List af} (r:dH [x,y] us):∃ u w',us=[u,w']/\cR x u/\cR y w':=by
 cases r with
 |cons r1 r2 =>
  cases r2 with
  |cons r3 r4=>cases r4;exact ⟨_,_,rfl,r1,r3⟩
end
end L2
namespace L2
open PySem PySem.Spec PyProof.Rows
structure SH (h:bE) (x dx C:ak) (mA:Str->Option af):Prop where
 obj:h.get? x=some (xc C dx)
 ns:h.Ns1 dx mA
 ne:dx≠x
theorem Jq {h:bE}{dx:ak}{mA:Str->Option af} (n:h.Ns1 dx mA):∃ od,h.get? dx=some od/\∀ name,xX name od=some (mA name):=by
 obtain ⟨o,es,ep,ho,hd,hk,_,hm⟩:=n
 refine ⟨o,ho,fun name=>?_⟩
 have e:=hm name
 unfold nsFind findBy at e
 rw [<- J7] at e
 unfold xX
 rw [hd]
 dsimp only
 split
 ·rename_i y q
  rw [q] at e
  exact congrArg some e
 ·rename_i q
  rw [q] at e
  have a:es.toList.any (·.refKey)=false:=by
   rw [L8]
   intro y hy
   obtain ⟨z,t,hkey⟩:=hk y (Array.mem_toList_iff.mp hy)
   simp [DictEntry.refKey,hkey]
  have a':¬ es.toList.any (·.refKey)=true:=by rw [a];exact bh
  rw [if_neg a']
  exact congrArg some e
theorem SH.look {h:bE}{x dx C:ak}{mA:Str->Option af} (I:SH h x dx C mA):∃ od,PySem.W.InstAt h x (xc C dx) C (some od)/\∀ name,xX name od=some (mA name) :=
 let ⟨od,ho,hl⟩:=Jq I.ns
 ⟨od,⟨I.obj,rfl,rfl,ho⟩,hl⟩
section
variable {prog:aX}{w:bn}{A:bv}{E:af->ai->Prop}{s:ai}{K:a8}{x dx C f:ak}{mA:Str->Option af}{name:Str}{v:af}
end
theorem yf.some_of {v:V}{o:Option af} (r:yf (some v) o):∃ u,o=some u/\cR v u:=by
 cases o with
 |none=>exact (show False from r).elim
 |some u=>exact ⟨u,rfl,r⟩
section
variable {P:aX}{w:bn}{H H':Hp}{h h':bE}{a C dx:ak}{fs fs':List (Str×V)}
theorem Pe (hok:qd P w H h) (e:H a=some (.ins C dx fs)):∃ mA,SH h a dx C mA/\(∀ f,yf (fs.lookup f) (mA f))/\PySem.Within mA (fs.map (·.1))/\fs.length<=1000/\H dx=some (.own a):=by
 obtain ⟨d,z,ne,ob,mA,n,r,q⟩:=(show dw P w H h a (.ins C dx fs) from hok a _ e)
 exact ⟨mA,⟨ob,n,ne⟩,r,q,z,d⟩
end
structure WJ (K:a8) (C:ak):Prop where
 pg:J8 K C Str.empty=true
 hd:PySem.W.hasDictIn K C=true
 po:PySem.W.plainOver K C=true
 sa:lM K (.ref C) "__setattr__"=some (some (.builtin "object.__setattr__"))
theorem WJ.get {K:a8}{C:ak} (c:WJ K C) (f:Str):J8 K C f=true:=c.pg
section
variable {X:Cx}{pins:List (ak×Obj)}{σ:St}{H:Hp}{s:ai}{a C dx:ak}{fs:List (Str×V)}{f:Str}{v:V}{A:bv}{E:af->ai->Prop}
end
section
variable {X:Cx}{o e value:bd}{f:Str}{pos pos' tpos:Pos}{ta tv:TE}
end
section
variable {X:Cx}{pins:List (ak×Obj)}{σ:St}{H:Hp}{s:ai}{A:bv}{E:af->ai->Prop}{Q:af->ai->Prop}{c:af}{b:Bool}
inductive xn (K:a8) (H:Hp):V->af->Prop where
 |non:xn K H .non (.type "NoneType")
 |bl (x:Bool):xn K H (.bl x) (.type "bool")
 |int (i:Int):xn K H (.int i) (.type "int")
 |str (x:Str):xn K H (.str x) (.type "str")
 |flt (x:UInt64):xn K H (.flt x) (.type "float")
 |lst {a:ak}{xs:List V} (e:H a=some (.lst xs)):xn K H (.ref a) (.type "list")
 |frz {a:ak}{o:Obj}{xs:List V} (e:H a=some (.frz o (.lst xs))):xn K H (.ref a) (.type "list")
 |tup {a:ak}{xs:List V} (e:H a=some (.tup xs)):xn K H (.ref a) (.type "tuple")
 |dK {a:ak}{kvs:List (eR×V)} (e:H a=some (.dK kvs)):xn K H (.ref a) (.type "dict")
 |dT {a:ak}{kvs:List (List eR×V)} (e:H a=some (.dT kvs)):xn K H (.ref a) (.type "dict")
 |ins {a C dx:ak}{fs:List (Str×V)} (e:H a=some (.ins C dx fs)) (cl:WJ K C) (ha:lM K (.ref C) "__class__"=some (some (.builtin "object.__class__")))
   (hn:Hw K (.builtin "object.__class__") "__get__"=some (some (.builtin "getset_descriptor.__get__"))) (htk:KL K (.builtin "object.__class__")=some true)
   (hm:dB K C (.type "object")=some true):xn K H (.ref a) (.ref C)
theorem q_ {x:V}{u t:af} (I:bB X pins σ H s) (rx:cR x u) (ty:xn X.K H x t) (e:ql X.K t c=some b) (h:∀ tk,Q (.bool b) { s with toks:=tk }) :
  ar (aL X.prog X.w) A (call (.builtin "isinstance") [u,c]) Q E s:=by
 cases ty with
 |non=>cases (show u=e6 from rx);exact cK PySem.W.kitx_none I.kIn iE e (fun z=>nomatch z) h
 |bl y=>cases (show u=J4 y from rx);exact cK PySem.W.kitx_bool I.kIn iE e (fun z=>nomatch z) h
 |int i=>obtain ⟨t,q⟩:=(show ∃ t,u=ki i t from rx);cases q;exact cK PySem.W.kitx_int I.kIn iE e (fun z=>nomatch z) h
 |str y=>obtain ⟨t,q⟩:=(show ∃ t,u=jk y t from rx);cases q;exact cK PySem.W.kitx_str I.kIn iE e (fun z=>nomatch z) h
 |flt y=>obtain ⟨t,q⟩:=(show ∃ t,u=Value.float y t from rx);cases q;exact cK PySem.W.kitx_float I.kIn iE e (fun z=>nomatch z) h
 | @lst a xs ea =>
  cases (show u=bK a from rx)
  obtain ⟨_,_,n,_,h1⟩:=(show dw X.prog X.w H s.heap a (.lst xs) from I.hok a _ ea)
  exact cK uq I.kIn ⟨_,h1,rfl⟩ e (fun z=>nomatch z) h
 | @frz a ob xs ea =>
  cases (show u=bK a from rx)
  obtain ⟨_,_,_,n,_,h1⟩:=(show dw X.prog X.w H s.heap a (.frz ob (.lst xs)) from I.hok a _ ea)
  exact cK uq I.kIn ⟨_,h1,rfl⟩ e (fun z=>nomatch z) h
 | @tup a xs ea =>
  cases (show u=bK a from rx)
  obtain ⟨_,_,_,p⟩:=(show dw X.prog X.w H s.heap a (.tup xs) from I.hok a _ ea)
  obtain ⟨o,h1,h2,_⟩:=p
  exact cK FJ I.kIn ⟨o,h1,h2⟩ e (fun z=>nomatch z) h
 | @dK a kvs ea =>
  cases (show u=bK a from rx)
  obtain ⟨_,_,vs,_,p⟩:=(show dw X.prog X.w H s.heap a (.dK kvs) from I.hok a _ ea)
  obtain ⟨o,es,ep,h1,h2,_⟩:=p
  exact cK Hx I.kIn ⟨o,h1,h2.1⟩ e (fun z=>nomatch z) h
 | @dT a kvs ea =>
  cases (show u=bK a from rx)
  obtain ⟨_,_,xs,_,o,es,ep,h1,h2,_⟩:=(show dw X.prog X.w H s.heap a (.dT kvs) from I.hok a _ ea)
  exact cK Hx I.kIn ⟨o,h1,h2.1⟩ e (fun z=>nomatch z) h
 | @ins a C dx fs ea cl ha hn htk hm =>
  cases (show u=bK a from rx)
  obtain ⟨mA,O,_⟩:=Pe I.hok ea
  obtain ⟨od,J,_⟩:=O.look
  exact cK (PySem.W.kitx_own (cl.get _) cl.hd ha hn htk hm) I.kIn J e (fun z=>nomatch z) h
end
end L2
namespace L2
open PySem PySem.Spec PyProof.Rows
structure i_ (k:Nat) (A:bv):Prop where
 hd:A.handled=none
 dp:A.depth+3*k+5<vH
 un:A.units+16*k+200<kL
theorem i_.mono {j k:Nat}{A:bv} (r:i_ k A) (h:j<=k):i_ j A:=⟨r.hd,by have:=r.dp;omega,by have:=r.un;omega⟩
theorem i_.deeper {k:Nat}{A:bv} (r:i_ (k+1) A) (env:Env):i_ k (A.deeper env) :=
 ⟨r.hd,by have:=r.dp;show A.depth+1+3*k+5<_;omega,by have:=r.un;show A.units+3+16*k+200<_;omega⟩
theorem i_.depth {k:Nat}{A:bv} (r:i_ k A):A.depth<vH:=by have:=r.dp;omega
theorem i_.units {k:Nat}{A:bv} (r:i_ k A):A.units+64<kL:=by have:=r.un;omega
def SJ:TA:=fun _ H Q=>Q [] H
def Lz (ta:TE) (tr:TA):TA:=fun σ H Q=>ta σ H fun x H1=>tr σ H1 fun xs H2=>Q (x::xs) H2
section
variable {X:Cx}{e:bd}{es:List bd}{te:TE}{t:TA}{pos:Pos}
theorem jL:PA X [] SJ:=fun _ _ _ _ H Q I h=>Calls.spliced_nil ⟨[],H,I,.nil,h⟩
theorem iw (ha:PE X e te) (hr:PA X es t) (hs:aJ (e::es) X.env=(false,ed e X.env)::aJ es X.env:=by rfl):PA X (e::es) (Lz te t):=by
 intro pos pins s σ H Q I h
 rw [hs]
 show ar _ _ (spliced ((false,ed e X.env)::fU pos (aJ es X.env))) _ _ s
 refine Calls.spliced_cons (fG (ha pins s σ H _ I h) fun u s1 ⟨x,H1,I1,r1,q1⟩=>?_)
 exact fG (hr pos pins s1 σ H1 _ I1 q1) fun us s2 h_25=>by obtain ⟨xs,H2,I2,r2,q2⟩:=h_25;exact ⟨x::xs,H2,I2,.cons r1 r2,q2⟩
def WK (t:TA):TE:=fun σ H Q=>t σ H fun xs H1=>xs.length<=sizeLine/\∀ p,H1 p=none->Q (.ref p) (upd H1 p (.tup xs))
def WL (t:TA):TE:=fun σ H Q=>t σ H fun xs H1=>xs.length<=sizeLine/\∀ p,H1 p=none->Q (.ref p) (upd H1 p (.lst xs))
theorem SK {x1} (h:PA X es t):PE X (.Tuple es x1 pos) (WK t):=by
 intro pins s σ H Q I hq
 refine wpAny_Tuple_spliced (fG (h pos pins s σ H _ I hq) fun us s1 ⟨xs,H1,I1,r,z,q⟩=>⟨by rw [<- r.length];exact z,?_⟩)
 have hf:H1 s1.heap.objs.size=none:=I1.hok.fresh (au _)
 refine ⟨.ref s1.heap.objs.size,upd H1 s1.heap.objs.size (.tup xs),I1.laid (t':=s1.toks) (fun b u e=>ag _ e) (au _) ?_,rfl,q _ hf⟩
 exact ⟨z,us,r,⟨_,ax _ rfl,rfl,_,rfl⟩⟩
theorem t5 (h:PA X es t):PE X (.List es pos) (WL t):=by
 intro pins s σ H Q I hq
 refine wpAny_List_spliced (fG (h pos pins s σ H _ I hq) fun us s1 ⟨xs,H1,I1,r,z,q⟩=>⟨by rw [<- r.length];exact z,?_⟩)
 have hf:H1 s1.heap.objs.size=none:=I1.hok.fresh (au _)
 refine ⟨.ref s1.heap.objs.size,upd H1 s1.heap.objs.size (.lst xs),I1.laid (t':=s1.toks) (fun b u e=>ag _ e) (au _) ?_,rfl,q _ hf⟩
 exact ⟨z,us,0,r,ax _ rfl⟩
end
abbrev Sp:=List V->Hp->VK->XK->Prop
abbrev Jr:=List Env->Hp->ai->XK->af->ai->Prop
structure Pf (P:aX) (w:bn) (K:a8) (mg:Str->Option af) (base:bE) (A:bv) (outer:List Env) (s:ai) (H:Hp):Prop where
 frames:A.frames=some outer
 mod:Mod K mg base
 bs:∀ b o,base.get? b=some o->s.heap.get? b=some o/\H b=none
 bsz:base.objs.size<=s.heap.objs.size
 funs:s.heap.FunFrames base outer
 frf:∀ b∈um outer,H b=none
 hok:qd P w H s.heap
 bare:qg s.gens
 tb:Tb K H
inductive CE (outer:List Env) (P:aX) (w:bn) (H:Hp) (s:ai) (Q:VK) (u:af) (s':ai):Prop
 |mk (v H':_) (h0:s'.os=s.os) (h1:qg s'.gens) (h2:Un (um outer) [] H H' s.heap s'.heap) (h3:qd P w H' s'.heap) (h4:cR v u) (h5:Q v H'):CE outer P w H s Q u s'
def CR (CX:Jr) (outer:List Env) (P:aX) (w:bn) (H:Hp) (s:ai) (Q:VK) (E:XK) (r:xY) (s':ai):Prop :=
 match r with
 |.ok (.ret u)=>CE outer P w H s Q u s'
 |.ok _=>False
 |.error e=>CX outer H s E e s'
structure sf (P:aX) (w:bn) (K:a8) (mg:Str->Option af) (base:bE) (CX:Jr) (k:Nat) (f:ak) (fd:eK) (ps:List Str) (sp:Sp):Prop where
 len:∀ vs H Q E,sp vs H Q E->vs.length=ps.length
 run:∀ (A:bv) (outer:List Env) (s:ai) (H:Hp) (args:Args) (us:List af) (vs:List V) (Q:VK) (E:XK),i_ k A->Pf P w K mg base A outer s H->zR s fd args (ps.zip us)->dH vs us->sp vs H Q E ->
  gU (aL P w) A (.call (.ref f) args) (CR CX outer P w H s Q E) s
theorem sf.imp {P:aX}{w:bn}{K:a8}{mg:Str->Option af}{base:bE}{CX:Jr}{k:Nat}{f:ak}{fd:eK}{ps:List Str}{sp sp':Sp} (F:sf P w K mg base CX k f fd ps sp)
  (h:∀ vs H Q E,sp' vs H Q E->sp vs H Q E):sf P w K mg base CX k f fd ps sp' :=
 ⟨fun vs H Q E q=>F.len vs H Q E (h _ _ _ _ q),fun A outer s H args us vs Q E hr he hb hv hs=>F.run A outer s H args us vs Q E hr he hb hv (h _ _ _ _ hs)⟩
section
variable {X:Cx}{pins:List (ak×Obj)}{σ:St}{H:Hp}{s s':ai}
theorem bB.env0 (I:bB X pins σ H s):Pf X.prog X.w X.K X.mg X.base X.A X.stack s H :=
 ⟨I.ok.frames,I.ok.mod,I.bs,cy I.ok.bsz I.sz,I.stack,I.stkFree,I.hok,I.bare,I.ok.tb.more I.base.tbls⟩
theorem bB.after {Q:VK}{u:af} (I:bB X pins σ H s) (h:CE X.stack X.prog X.w H s Q u s'):EP X pins σ Q u s':=by
 obtain ⟨v,H',os,bare,un,hok,r,q⟩:=h
 obtain ⟨hh,g,d,t,os'⟩:=s'
 obtain rfl:os'=s.os:=os
 exact ⟨v,H',I.call (h':=hh) (g':=g) (d':=d) (t':=t) (ch:=[]) un hok bare (fun b z=>absurd z (by simp)),r,q⟩
end
def R6 (sp:Sp) (dvs:List V) (E:XK) (t:TA):TE:=fun σ H Q=>t σ H fun vs H1=>sp (vs++dvs) H1 Q E
def kq (K:a8) (fd:eK) (ps:List Str) (ds:List af):Prop :=
 ∀ (s:ai) (us:List af),K.In s.heap->(us++ds).length=ps.length->zR s fd ⟨us,[]⟩ (ps.zip (us++ds))
theorem kq.all {K:a8}{fd:eK}{ps:List Str} (h:∀ us:List af,us.length=ps.length->vI fd ⟨us,[]⟩=pure (ps.zip us)):kq K fd ps []:=fun s us _ hl=>by
 rw [cA] at hl ⊢
 exact .of_eq (h us hl)
def tf (CX:Jr) (X:Cx) (E:XK):Prop:=∀ (pins:List (ak×Obj)) (σ:St) (H:Hp) (s:ai) (e:af) (s':ai),bB X pins σ H s->CX X.stack H s E e s'->X.xe e s'
section
variable {X:Cx}{CX:Jr}{k:Nat}{f C:ak}{fd:eK}{ps:List Str}{sp:Sp}{dvs:List V}{ds:List af}{E:XK}{x m:Str}{p pos apos:Pos}{e o:bd}{es:List bd}{ta:TE}{t:TA}
theorem SL {pins:List (ak×Obj)}{σ:St}{H:Hp}{s:ai}{Q:VK}{us:List af}{vs:List V} (F:sf X.prog X.w X.K X.mg X.base CX k f fd ps sp) (hr:i_ k X.A) (hb:kq X.K fd ps ds) (hd:dH dvs ds) (hx:tf CX X E)
  (I:bB X pins σ H s) (r:dH vs us) (h:sp (vs++dvs) H Q E):ar (aL X.prog X.w) X.A (call (.ref f) us) (EP X pins σ Q) X.xe s:=by
 have r2:dH (vs++dvs) (us++ds):=r.append hd
 have hl:(us++ds).length=ps.length:=by rw [<- r2.length];exact F.len _ _ _ _ h
 refine FK (nL (F.run X.A X.stack s H ⟨us,[]⟩ (us++ds) (vs++dvs) Q E hr I.env0 (hb s us I.kIn hl) r2 h) fun r s' hq=>?_)
 cases r with
 |error e=>exact hx pins σ H s e s' I hq
 |ok fl =>
  cases fl with
  |ret u=>exact I.after hq
  |next=>exact iu hq
  |brk=>exact iu hq
  |cont=>exact iu hq
theorem Pg (F:sf X.prog X.w X.K X.mg X.base CX k f fd ps sp) (hr:i_ k X.A) (hg:Gl X x) (hm:X.mg x=some (.ref f)) (hk:dX X.K (.ref f)=true) (hb:kq X.K fd ps ds) (hd:dH dvs ds) (hx:tf CX X E)
  (ha:PA X (e::es) t) (hdb:(x==("__debug__" : Str))=false:=by decide) (he:aJ (e::es) X.env=(false,ed e X.env)::aJ es X.env:=by rfl) (hpl:(fU pos (aJ es X.env)).any (·.1)=false:=by rfl) :
  PE X (.Call (.Name x p) (e::es) [] pos) (R6 sp dvs E t):=by
 intro pins s σ H Q I h
 refine oz (BM I hg hm ?_ hdb)
 refine PySem.W.callWith_K (h₀:=X.base) I.ok.mod.kin hk (fG (ha pos pins s σ H _ I h) fun us s1 ⟨vs,H1,I1,r,q⟩=>⟨I1.kIn,?_⟩) he hpl
 exact SL F hr hb hd hx I1 r q
end
section
variable {X:Cx}{CX:Jr}{k:Nat}{f C:ak}{fd:eK}{ps ks:List Str}{sp:Sp}{E:XK}{x m:Str}{p pos apos kpos:Pos}{e o:bd}{es:List bd}{kws:List zS}{te ta:TE}{t tk:TA}{nm:Option Str}
variable {g:List af->List af->List af}{gV:List V->List V->List V}
end
structure bw (N P:List Str) (sc:dz):Prop where
 kind:sc.kind=.function
 co:sc.isCoroutine=false
 gen:sc.isGenerator=false
 nd:N.Nodup
 pre:N.take P.length=P
 par:∀ x∈P,sc.names.lookup x=some .local\/sc.names.lookup x=some .cell
 nofree:∀ y∈sc.names,y.2≠.free
theorem AI {kindOf:Str->Option kM}{x:Str}:∀ {binds:List (Str×af)}{m:Str->Option af},(∀ v,(x,v)∉binds)->KM kindOf binds m x=m x
 |[],_,_=>rfl
 |(n,v)::r,m,h=>by
  unfold KM
  rw [AI fun w hw=>h w (a9 _ hw)]
  split
  ·have:x≠n:=by rintro rfl;exact h v ah
   simp [this]
  ·rfl
theorem AJ {kindOf:Str->Option kM}{x:Str}:∀ {binds:List (Str×af)}{m:Str->Option af},(∀ v,(x,v)∉binds)->KN kindOf binds m x=m x
 |[],_,_=>rfl
 |(n,v)::r,m,h=>by
  unfold KN
  rw [AJ fun w hw=>h w (a9 _ hw)]
  split
  ·rfl
  ·have:x≠n:=by rintro rfl;exact h v ah
   simp [this]
theorem AK {kindOf:Str->Option kM}{x:Str}{v:af}:∀ {P:List Str}{vs:List af}{i:Nat}{m:Str->Option af},P.Nodup->P[i]?=some x->vs[i]?=some v->kindOf x=some .local ->
  KM kindOf (P.zip vs) m x=some v
 |[],_,_,_,_,h,_,_=>by simp at h
 |_::_,[],_,_,_,_,h,_=>by simp at h
 |p::P,w::vs,0,m,nd,h1,h2,hk=>by
  simp at h1 h2;subst h1;subst h2
  show KM kindOf ((p,w)::P.zip vs) m p=_
  unfold KM
  rw [AI fun v hv=>(List.nodup_cons.mp nd).1 (zL hv).1,if_pos hk]
  simp
 |p::P,w::vs,i+1,m,nd,h1,h2,hk=>by
  show KM kindOf ((p,w)::P.zip vs) m x=_
  unfold KM
  exact AK (i:=i) (List.nodup_cons.mp nd).2 (by simpa using h1) (by simpa using h2) hk
theorem AL {kindOf:Str->Option kM}{x:Str}{v:af}:∀ {P:List Str}{vs:List af}{i:Nat}{m:Str->Option af},P.Nodup->P[i]?=some x->vs[i]?=some v->kindOf x≠some .local ->
  KN kindOf (P.zip vs) m x=some v
 |[],_,_,_,_,h,_,_=>by simp at h
 |_::_,[],_,_,_,_,h,_=>by simp at h
 |p::P,w::vs,0,m,nd,h1,h2,hk=>by
  simp at h1 h2;subst h1;subst h2
  show KN kindOf ((p,w)::P.zip vs) m p=_
  unfold KN
  rw [AJ fun v hv=>(List.nodup_cons.mp nd).1 (zL hv).1,if_neg hk]
  simp
 |p::P,w::vs,i+1,m,nd,h1,h2,hk=>by
  show KN kindOf ((p,w)::P.zip vs) m x=_
  unfold KN
  exact AL (i:=i) (List.nodup_cons.mp nd).2 (by simpa using h1) (by simpa using h2) hk
def start (N:List Str) (vs:List V):St:=vs.map some++sv (N.length-vs.length) none
def jn (CX:Jr) (P:aX) (w:bn) (K:a8) (mg:Str->Option af) (base:bE) (N:List Str) (qual:Str) (scope:dz) (f:ak) (cd:af) (A:bv) (outer:List Env) (s:ai) (H:Hp) (E:XK):Cx where
 prog:=P
 w:=w
 K:=K
 mg:=mg
 base:=base
 A:=A.deeper (envOfC qual scope s.heap.objs.size f cd)
 N:=N
 s₀:=s
 H₀:=H
 env:=envOfC qual scope s.heap.objs.size f cd
 outer:=outer
 stack:=envOfC qual scope s.heap.objs.size f cd::outer
 ex:=[]
 calm:=true
 fn:=fun _=>true
 pn:=[]
 xe:=fun e s'=>ar (aL P w) (A.deeper (envOfC qual scope s.heap.objs.size f cd)) (leaving (envOfC qual scope s.heap.objs.size f cd) e) (fun _ s''=>CX outer H s E e s'') (fun e' s''=>CX outer H s E e' s'') s'
theorem Dq {sc:dz}{n:Nat}{x:Str} (h:sc.names.lookup x=some .cell):∃ c,(bV n sc.names []).lookup x=some c:=by
 have q:=gH sc.names n [] (.inl h)
 exact Option.isSome_iff_exists.mp q
theorem Js {CX:Jr}{P:aX}{w:bn}{K:a8}{mg:Str->Option af}{base:bE}{N ps:List Str}{qual:Str}{scope:dz}{f:ak}{cd:af}{A:bv}{outer:List Env}{s s1:ai}{H:Hp}{E:XK}{us:List af}{vs:List V}
  (S:bw N ps scope) (hd:A.handled=none) (e0:Pf P w K mg base A outer s H) (hl:vs.length=ps.length) (r:dH vs us)
  (x:InCallC s s.heap.objs.size (KM (envOfC qual scope s.heap.objs.size f cd).kindOf (ps.zip us) fun _=>none) (bV (s.heap.objs.size+1) scope.names []) (KN (envOfC qual scope s.heap.objs.size f cd).kindOf (ps.zip us) fun _=>none) s1) :
  bB (jn CX P w K mg base N qual scope f cd A outer s H E) [] (start N vs) H s1:=by
 have hpl:ps.length<=N.length:=by have:=congrArg nM S.pre;rw [xE] at this;omega
 obtain ⟨h1,tk,rfl,hk⟩:=x.done
 have noA:∀ b:ak,b∉(jn CX P w K mg base N qual scope f cd A outer s H E).ex:=fun b z=>absurd (show b∈([] : List ak) from z) (by simp)
 refine ⟨⟨e0.mod,S.kind,rfl,rfl,au _,fun y z c h1 h2=>?_,fun y hy=>?_,fun y c _ h=>?_,fun _=>hd,Fv e0.frames,.inr ⟨rfl,rfl⟩,fun b z=>absurd z (noA b),e0.bs,e0.bsz,fun b _ _=>noA b,fun b z=>absurd z (noA b),e0.funs,e0.frf,e0.tb⟩,
  rfl,e0.bare,Un.kept hk,⟨_,x.toInCall.ns,fun i y v h1 h2 h3=>?_⟩,fun y c h=>⟨_,x.cell y c h⟩,e0.hok.fresh (au _),fun y c h=>?_,fun p hp=>absurd (show p∈([] : List (ak×Obj)) from hp) (by simp),e0.hok.kept hk,?_⟩
 ·exact name_of_addr x.apart (bW h1) (bW h2)
 ·have hy:scope.names.lookup y=some .cell\/scope.names.lookup y=some .free:=hy
  rcases hy with hy|hy
  ·exact Dq hy
  ·exact absurd rfl (S.nofree _ (bW hy))
 ·exact cz (x.above y c (bW h))
 ·have hi:i<vs.length:=by
   unfold start at h2
   by_cases hi:i<vs.length
   ·exact hi
   ·rw [bc (by simpa using hi)] at h2
    rw [cB] at h2
    split at h2<;>cases h2
  have ha:vs[i]?=some v:=by
   unfold start at h2
   rw [bj (by simpa using hi),aW] at h2
   cases e:vs[i]? with
   |none=>rw [e] at h2;cases h2
   |some a=>rw [e] at h2;cases h2;rfl
  obtain ⟨u,hu,rv⟩:=r.get ha
  have hp:ps[i]?=some y:=by
   rw [<- S.pre,List.getElem?_take_of_lt (by omega)];exact h1
  have ndP:ps.Nodup:=by rw [<- S.pre];exact S.nd.sublist (List.take_sublist _ _)
  refine ⟨u,rv,?_⟩
  rcases S.par y (df hp) with k|k
  ·exact .inl ⟨k,AK ndP hp hu k⟩
  ·obtain ⟨c,e⟩:=Dq (n:=s.heap.objs.size+1) k
   refine .inr ⟨.inl k,c,e,?_⟩
   have q:=x.cell y c e
   rw [AL ndP hp hu (by show scope.names.lookup y≠_;rw [k];decide)] at q
   exact q
 ·exact e0.hok.fresh (cz (x.above y c (bW h)))
 ·unfold start
  show _=N.length
  rw [aN,ao,cU]
  omega
theorem R7 {CX:Jr}{P:aX}{w:bn}{K:a8}{mg:Str->Option af}{base:bE}{k:Nat}{f:ak}{name qual:Str}{params:wD}{body:List cP}{scope:dz}{dV kV doc pm cdv ct oc:af}{an od:Option ak}
  {osl:Array (Option af)}{N ps:List Str}{sp:Sp} (lk:K.lookup f=some ⟨oc,od,.func (dY name qual params body scope dV kV doc pm an cdv ct),osl⟩) (hcd:dA K cdv qual=true) (S:bw N ps scope)
  (len:∀ vs H Q E,sp vs H Q E->vs.length=ps.length)
  (hbody:∀ (A:bv) (outer:List Env) (s:ai) (H:Hp) (vs:List V) (Q:VK) (E:XK),i_ k (A.deeper (envOfC qual scope s.heap.objs.size f cdv))->sp vs H Q E ->
   ∃ t,HD (jn CX P w K mg base N qual scope f cdv A outer s H E) body t/\t { nx:=fun _ H'=>Q .non H',rt:=Q } (start N vs) H) :
  sf P w K mg base CX (k+1) f (dY name qual params body scope dV kV doc pm an cdv ct) ps sp:=by
 refine ⟨len,fun A outer s H args us vs Q E hr e0 hb r hsp=>?_⟩
 have hl:=len _ _ _ _ hsp
 have KX:K.In s.heap:=e0.mod.kin.keeps fun b o e=>(e0.bs b o e).1
 have lim:s.heap.NoLimit:=e0.mod.nolimit.keeps fun b o e=>(e0.bs b o e).1
 have hkind:∀ y∈ps.zip us,scope.names.lookup y.1=some .local\/(scope.names.lookup y.1=some .cell/\((bV (s.heap.objs.size+1) scope.names []).lookup y.1).isSome=true):=fun ⟨n,v⟩ hy=>by
  rcases S.par n (zL hy).1 with q|q
  ·exact .inl q
  ·exact .inr ⟨q,gH _ _ _ (.inl q)⟩
 refine codeAny_call_function hr.depth (KX _ _ lk) rfl S.co S.gen rfl (FL KX hcd) (hb _ _ _ _ ?_)
 refine wpAny_newFunctionEnv_cells S.kind hkind fun env he s1 x=>?_
 subst he
 refine ⟨lim.keeps x.toInCall.keep,codeAny_func ?_⟩
 obtain ⟨t,ht,hq⟩:=hbody A outer s H vs Q E (hr.deeper _) hsp
 have I:bB (jn CX P w K mg base N qual scope f cdv A outer s H E) [] (start N vs) H s1:=Js S hr.hd e0 hl r x
 refine ck (ht [] s1 (start N vs) H _ I hq) (fun fl s' hs=>?_) fun e s' hs=>hs
 have fin:∀ {σ':St}{H':Hp}{v:V}{u:af},bB (jn CX P w K mg base N qual scope f cdv A outer s H E) [] σ' H' s'->cR v u->Q v H'->CE outer P w H s Q u s' :=
  fun {σ' H' v u} J rv q=>⟨v,H',J.os,J.bare,J.base,J.hok,rv,q⟩
 cases fl with
 |ret u =>
  obtain ⟨v,σ',H',J,rv,q⟩:=hs
  exact fin J rv q
 |next =>
  obtain ⟨σ',H',J,q⟩:=hs
  exact fin (v:=V.non) (u:=e6) J rfl q
 |brk =>
  obtain ⟨_,_,_,q⟩:=hs
  exact iu q
 |cont =>
  obtain ⟨_,_,_,q⟩:=hs
  exact iu q
end L2
namespace L2
open PySem PySem.Spec PyProof.Rows
section
variable {X:Cx}{x:Str}{p pos:Pos}{e:bd}{es:List bd}{t:TA}{id T:String}{r:List V->Hp->VK->Prop}
def Uy (r:List V->Hp->VK->Prop) (t:TA):TE:=fun σ H Q=>t σ H fun vs H1=>r vs H1 Q
theorem uA (hc:j7 X (.builtin id) r) (hg:Gl X x) (hm:X.mg x=none) (hv:i7 x=some (.builtin id)) (ha:PA X (e::es) t) (hn:x≠"__name__":=by decide) (hdb:(x==("__debug__" : Str))=false:=by decide)
  (he:aJ (e::es) X.env=(false,ed e X.env)::aJ es X.env:=by rfl) (hpl:(fU pos (aJ es X.env)).any (·.1)=false:=by rfl):PE X (.Call (.Name x p) (e::es) [] pos) (Uy r t):=by
 intro pins s σ H Q I h
 refine oz (s_ I hg hm hv ?_ hn hdb)
 exact PyProof.Rows.callWith_builtin1 (fG (ha pos pins s σ H _ I h) fun us s1 h_27=>by obtain ⟨vs,H1,I1,r1,q1⟩:=h_27;exact hc pins s1 σ H1 vs us Q I1 r1 q1) he hpl
theorem AM (hc:j7 X (.type T) r) (hg:Gl X x) (hm:X.mg x=none) (hv:i7 x=some (.type T)) (ha:PA X (e::es) t) (hn:x≠"__name__":=by decide) (hdb:(x==("__debug__" : Str))=false:=by decide)
  (he:aJ (e::es) X.env=(false,ed e X.env)::aJ es X.env:=by rfl) (hpl:(fU pos (aJ es X.env)).any (·.1)=false:=by rfl):PE X (.Call (.Name x p) (e::es) [] pos) (Uy r t):=by
 intro pins s σ H Q I h
 refine oz (s_ I hg hm hv ?_ hn hdb)
 exact gG (fG (ha pos pins s σ H _ I h) fun us s1 h_28=>by obtain ⟨vs,H1,I1,r1,q1⟩:=h_28;exact hc pins s1 σ H1 vs us Q I1 r1 q1) he hpl
end
end L2
namespace HT
open PySem PyProof.Rows
section
open PySem.SeqAt
open PySem.AutoSeq1 (wpAny_loadPart')
open PySem.MeetsSeq PySem.MeetsSeq2 PySem.MeetsSeq3
end
section
variable {prog:aX}{w:bn}{A:bv}{E:af->ai->Prop}{s:ai}
theorem Ph {t b:ak}{vs ws:List af}{Q:af->ai->Prop} (ht:IsTup s.heap t vs.toArray) (hb:IsTup s.heap b ws.toArray) (hv:vs≠[])
  (h1:ws=[]->Q (.ref t) s) (h2:ws≠[]->Q (.ref s.heap.objs.size) { s with heap:=s.heap.push { cls:=.type "tuple",data:=.seq (vs++ws).toArray } })
  (hsz:vs.length+ws.length<=sizeLine):ar (aL prog w) A (eW .Add (.ref t) (.ref b)) Q E s:=by
 obtain ⟨⟨cls,dd,data,sl⟩,ho,hc,n,hd⟩:=id ht
 obtain ⟨⟨cls2,dd2,data2,sl2⟩,ho2,hc2,n2,hd2⟩:=id hb
 simp only at hc hd hc2 hd2
 subst hc hd hc2 hd2
 have e:vs.toArray++ws.toArray=(vs++ws).toArray:=by simp
 by_cases hw:ws=[]
 ·exact zT ⟨_,ho,rfl⟩ ⟨_,ho2,rfl⟩ BE J9 oA nN (n5 _ _)
   (tuple_addW1 t b vs.toArray ws.toArray n n2 dd dd2 sl sl2 (by simpa using hv) (by simp [hw])) ⟨ho,ho2,h1 hw⟩
 ·refine zT ⟨_,ho,rfl⟩ ⟨_,ho2,rfl⟩ BE J9 oA nN (n5 _ _)
   (tuple_addW2 t b vs.toArray ws.toArray n n2 dd dd2 sl sl2 (by simpa using hv) (by simpa using hw) (by rw [aR,aR];exact hsz)) ⟨ho,ho2,?_⟩
  rw [e]
  exact h2 hw
def iG (n d:Nat):Option Int->Nat
 |none=>d
 |some v=>if v<0 then (v+(n:Int)).toNat else min v.toNat n
theorem Dr (n d:Nat):iG n d none=d:=rfl
theorem HF (n d k:Nat):iG n d (some (k:Int))=min k n:=by
 show (if (k:Int)<0 then ((k:Int)+(n:Int)).toNat else min (k:Int).toNat n)=min k n
 rw [if_neg (by omega),jI]
theorem SM (n d:Nat) (hd:d<=n) (o:Option Int):iG n d o<=n:=by
 cases o with
 |none=>exact hd
 |some v =>
  show (if v<0 then (v+(n:Int)).toNat else min v.toNat n)<=n
  by_cases hv:v<0
  ·rw [if_pos hv];omega
  ·rw [if_neg hv];exact xZ _ _
theorem HG (v:Int) (n d:Nat):(if v<0 then max (v+(n:Int)) 0 else min v (n:Int))=((iG n d (some v):Nat):Int):=by
 show (if v<0 then max (v+(n:Int)) 0 else min v (n:Int))=(((if v<0 then (v+(n:Int)).toNat else min v.toNat n):Nat):Int)
 by_cases hv:v<0
 ·simp only [if_pos hv];omega
 ·simp only [if_neg hv];omega
theorem G9 (lo hi:Option Int) (n:Nat):kO lo hi 1 (n:Int)=(((iG n 0 lo:Nat):Int),((iG n n hi:Nat):Int)):=by
 have h1:¬ ((1:Int)<0):=by omega
 unfold kO
 simp only [h1,if_false]
 refine Prod.ext ?_ ?_
 ·cases lo with
  |none=>rfl
  |some v=>exact HG v n 0
 ·cases hi with
  |none=>rfl
  |some v=>exact HG v n n
theorem Ga (i j:Nat):hU (i:Int) (j:Int) 1=j-i:=by
 unfold hU
 have h1:(1:Int) > 0:=by omega
 simp only [h1,if_true,Int.ediv_one]
 split<;>omega
theorem yi {v:af}{o:Option Int}{Q:Option Int->ai->Prop} (p:vJ v o) (h:Q o s):ar (aL prog w) A (Builtin.Slice.slicePartIndex v) Q E s:=by
 cases p with
 |none=>exact slicePart_none h
 |int i t=>exact slicePart_int h
theorem nQ {sl:ak}{vl vu:af}{lo hi:Option Int}{n:Nat}{Q:Int×Int×Nat->ai->Prop} (hs:s.heap.IsSliceOf sl vl vu .none) (pl:vJ vl lo) (pu:vJ vu hi)
  (h:Q (((iG n 0 lo:Nat):Int),1,iG n n hi-iG n 0 lo) s):ar (aL prog w) A (ur (.ref sl) (pure (n:Int))) Q E s:=by
 obtain ⟨os,hos,hcs,hds⟩:=id hs
 unfold ur Builtin.Slice.sliceFields
 refine a7 (a7 (dJ hos hds (x:=vl) rfl (a7 (dJ hos hds (x:=vu) rfl (a7 (dJ hos hds (x:=.none) rfl (aa ?_)))))))
 refine a7 (slicePart_none ?_)
 show ar _ _ (if ((1:Int)==0)=true then _ else _) _ _ s
 rw [if_neg (by decide)]
 refine a7 (yi pl (a7 (yi pu (a7 (aa ?_)))))
 show ar _ _ (match kO lo hi 1 (n:Int) with|(lo,hi)=>pure (lo,(1:Int),hU lo hi 1)) _ _ s
 rw [G9 lo hi n]
 show ar _ _ (pure (((iG n 0 lo:Nat):Int),(1:Int),hU ((iG n 0 lo:Nat):Int) ((iG n n hi:Nat):Int) 1)) _ _ s
 rw [Ga]
 exact aa h
theorem LA (xs:Array af) (i k:Nat):((bA k).filterMap fun (m:Nat)=>xs[((i:Int)+(m:Int)*1).toNat]?).toArray=((xs.toList.drop i).take k).toArray:=by
 have e:(fun (m:Nat)=>xs[((i:Int)+(m:Int)*1).toNat]?)=fun m=>xs[i+m]?:=by
  funext m
  have:((i:Int)+(m:Int)*1).toNat=i+m:=by omega
  rw [this]
 rw [e]
 have:=pick_run xs i k
 rw [mC] at this
 have e2:((fun x=>xs[x]?)∘fun x=>i+x)=fun m=>xs[i+m]?:=rfl
 rw [e2] at this
 rw [this]
theorem uB {t sl:ak}{items:Array af}{vl vu:af}{lo hi:Option Int}{Q:af->ai->Prop} (ht:IsTup s.heap t items) (hs:s.heap.IsSliceOf sl vl vu .none) (pl:vJ vl lo) (pu:vJ vu hi)
  (hw:¬ (iG items.size 0 lo=0/\iG items.size items.size hi=items.size))
  (h:Q (.ref s.heap.objs.size) { s with heap:=s.heap.push { cls:=.type "tuple",data:=.seq ((items.toList.drop (iG items.size 0 lo)).take (iG items.size items.size hi-iG items.size 0 lo)).toArray } })
  (hsz:items.size<=sizeLine):ar (aL prog w) A (qh (.ref t) (.ref sl)) Q E s:=by
 have htake:sizeOk (.seq ((items.toList.drop (iG items.size 0 lo)).take (iG items.size items.size hi-iG items.size 0 lo)).toArray):=by
  show ((items.toList.drop (iG items.size 0 lo)).take (iG items.size items.size hi-iG items.size 0 lo)).toArray.size<=sizeLine
  rw [aR,xE,xF,av]
  omega
 have hj:iG items.size items.size hi<=items.size:=SM _ _ (au _) hi
 obtain ⟨os,hos,hcs,hds⟩:=id hs
 have hTs:s.TypeIs (.ref sl) "slice":=⟨os,hos,hcs⟩
 unfold qh
 try with_reducible refine cH ?_
 first|refine a7 (aa ?_)|skip
 refine a7 (wpAny_sequenceKey ht.typeIs (by decide) ?_)
 refine a7 (c8 (name:=ef "__getitem__") ht.typeIs fH
  (bX fH ht.typeIs entry_tuple_getitem ?_ (args_tuple_getitem _ _)))
 show ar _ _ (ut (.ref t) >>= _) _ _ s
 refine a7 (tupleItemsOf_ ht ?_)
 refine a7 (sS hTs ?_)
 rw [if_pos (by decide)]
 refine a7 (nQ hs pl pu ?_)
 have hno:¬ ((((iG items.size 0 lo:Nat):Int)==0&&(1:Int)==1&&(iG items.size items.size hi-iG items.size 0 lo)==items.size)=true):=by
  intro q
  rw [aF,aF] at q
  have q1:((iG items.size 0 lo:Nat):Int)=0:=eq_of_beq q.1.1
  have q2:iG items.size items.size hi-iG items.size 0 lo=items.size:=eq_of_beq q.2
  exact hw ⟨by omega,by omega⟩
 show ar _ _ (if (((iG items.size 0 lo:Nat):Int)==0&&(1:Int)==1&&(iG items.size items.size hi-iG items.size 0 lo)==items.size)=true then _ else _) _ _ s
 rw [if_neg hno,LA]
 first
  |exact a7 (m:=ic _) (bQ (aa ⟨_,rfl,aa h⟩) htake)
  |exact a7 (m:=ic _) (bQ (a7 (aa (aa ⟨_,rfl,aa h⟩))) htake)
  |exact a7 (a7 (m:=ic _) (bQ (aa (aa ⟨_,rfl,aa h⟩)) htake))
  |exact a7 (a7 (m:=ic _) (bQ (aa ⟨_,rfl,aa h⟩) htake))
end
end HT
namespace L2
open PySem PySem.Spec PyProof.Rows
abbrev TO:=St->Hp->(Option Int->Hp->Prop)->Prop
def PO (X:Cx) (e:Option bd) (t:TO):Prop :=
 ∀ (pins:List (ak×Obj)) (s:ai) (σ:St) (H:Hp) (Q:Option Int->Hp->Prop),bB X pins σ H s->t σ H Q ->
  ar (aL X.prog X.w) X.A (evalPart e X.env) (fun u s'=>∃ o H',bB X pins σ H' s'/\vJ u o/\Q o H') X.xe s
def Pi:TO:=fun _ H Q=>Q none H
def Uz (t:TE):TO:=fun σ H Q=>t σ H fun x H1=>∃ i,x=.int i/\Q (some i) H1
section
variable {X:Cx}{e:bd}{te:TE}{lo hi:Option bd}{tl th:TO}{pos p2:Pos}
theorem Pj:PO X none Pi:=by
 intro pins s σ H Q I h
 rw [evalPart_none]
 exact aa ⟨none,H,I,.none,h⟩
theorem Pk (h:PE X e te):PO X (some e) (Uz te):=by
 intro pins s σ H Q I hw
 rw [evalPart_some]
 refine fG (h pins s σ H _ I hw) fun u s1 h_29=>?_
 obtain ⟨x,H1,I1,r1,q1⟩:=h_29
 obtain ⟨i,rfl,q⟩:=q1
 obtain ⟨t,rfl⟩:=r1
 exact ⟨some i,H1,I1,.int i t,q⟩
def UA (X:Cx) (r:V->Option Int->Option Int->Hp->VK->Prop):Prop :=
 ∀ (pins:List (ak×Obj)) (s:ai) (σ:St) (H:Hp) (x:V) (v vl vu:af) (lo hi:Option Int) (sl:ak) (Q:VK),bB X pins σ H s->cR x v->s.heap.IsSliceOf sl vl vu .none->vJ vl lo->vJ vu hi->r x lo hi H Q ->
  ∃ T id,typeLookup (.type T) "__getitem__"=pure (some (.builtin id))/\s.TypeIs v T/\ar (aL X.prog X.w) X.A (qh v (.ref sl)) (EP X pins σ Q) X.xe s
def XZ (r:V->Option Int->Option Int->Hp->VK->Prop) (te:TE) (tl th:TO):TE:=fun σ H Q=>te σ H fun x H1=>tl σ H1 fun l H2=>th σ H2 fun u H3=>r x l u H3 Q
theorem LB {r:V->Option Int->Option Int->Hp->VK->Prop} (hr:UA X r) (he:PE X e te) (hl:PO X lo tl) (hu:PO X hi th):PE X (.Subscript e (.Slice lo hi none p2) pos) (XZ r te tl th):=by
 intro pins s σ H Q I h
 refine Subscript_ (fG (he pins s σ H _ I h) fun v s1 ⟨x,H1,I1,r1,q1⟩=>?_)
 refine wpAny_Slice (fG (hl pins s1 σ H1 _ I1 q1) fun vl s2 ⟨l,H2,I2,pl,q2⟩=>fG (hu pins s2 σ H2 _ I2 q2) fun vu s3 ⟨u,H3,I3,pu,q3⟩=>?_)
 rw [evalPart_none]
 refine aa ?_
 have I4:bB X pins σ H3 { s3 with heap:=s3.heap.push { cls:=.type "slice",data:=.fields #[vl,vu,.none] } }:=I3.kept (t':=s3.toks) fun b ob q=>ag _ q
 obtain ⟨T,id,hT,ht,hg⟩:=hr pins { s3 with heap:=s3.heap.push { cls:=.type "slice",data:=.fields #[vl,vu,.none] } } σ H3 x v vl vu l u s3.heap.objs.size Q I4 r1 (Heap.IsSliceOf.new ..) pl pu q3
 show ar (aL X.prog X.w) X.A (Ja e (.Slice lo hi none p2) v (.ref s3.heap.objs.size)) (EP X pins σ Q) X.xe { s3 with heap:=s3.heap.push { cls:=.type "slice",data:=.fields #[vl,vu,.none] } }
 exact tail_any (ops:=[.ref s3.heap.objs.size,v]) ht hT hg (by with_unfolding_all rfl)
def Ds (xs:List V) (lo hi:Option Int):List V:=(xs.drop (HT.iG xs.length 0 lo)).take (HT.iG xs.length xs.length hi-HT.iG xs.length 0 lo)
theorem wK (xs:List V) (lo hi:Option Int):(Ds xs lo hi).length<=xs.length:=by
 unfold Ds
 rw [xE,xF]
 omega
def WM (K:a8):V->Option Int->Option Int->Hp->VK->Prop:=fun x lo hi H Q=>∃ a xs,x=.ref a/\ko K H a xs /\
 ¬ (HT.iG xs.length 0 lo=0/\HT.iG xs.length xs.length hi=xs.length)/\∀ p,H p=none->Q (.ref p) (upd H p (.tup (Ds xs lo hi)))
theorem SO:UA X (WM X.K):=by
 intro pins s σ H x v vl vu lo hi sl Q I rx hs pl pu h
 obtain ⟨a,xs,rfl,hx,hw,q⟩:=h
 cases rx
 obtain ⟨its,r,ht,hz⟩:=I.tuple hx
 have hlen:its.toArray.size=xs.length:=by rw [aR];exact r.length.symm
 refine ⟨"tuple",_,PyProof.Rows.slot_tuple_getitem.lookup,ht.typeIs,?_⟩
 refine HT.uB ht hs pl pu (by rw [hlen];exact hw) ?_ (by rw [hlen];exact hz)
 rw [hlen]
 refine ⟨.ref s.heap.objs.size,_,I.laid (t':=s.toks) (o:=.tup (Ds xs lo hi)) (fun b ob q=>ag _ q) (au _) ?_,rfl,q _ (I.hok.fresh (au _))⟩
 exact ⟨cy (wK xs lo hi) hz,_,(r.drop (HT.iG xs.length 0 lo)).take (HT.iG xs.length xs.length hi-HT.iG xs.length 0 lo),xf _ _⟩
inductive LC (K:a8) (x:V) (y:V) (H:Hp) (Q:VK):Prop
 |mk (a b xs ys:_) (h0:x=.ref a) (h1:y=.ref b) (h2:ko K H a xs) (h3:ko K H b ys) (h4:xs≠[]) (h5:xs.length+ys.length<=sizeLine) (h6:(ys=[]->Q (.ref a) H)) (h7:(ys≠[]->∀ p,H p=none->Q (.ref p) (upd H p (.tup (xs++ys))))):LC K x y H Q
def UB (K:a8):R2:=LC K
theorem dH.nil_iff {xs:List V}{us:List af} (r:dH xs us):us=[]↔xs=[]:=by
 cases r with
 |nil=>simp
 |cons _ _=>simp
theorem Pl:pW X (eW .Add) (UB X.K):=by
 intro pins s σ H x y v u Q I rx ry h
 obtain ⟨a,b,xs,ys,rfl,rfl,ha,hb,hx,hz,q1,q2⟩:=h
 cases rx
 cases ry
 obtain ⟨its,r1,p1,_⟩:=I.tuple ha
 obtain ⟨its2,r2,p2,_⟩:=I.tuple hb
 refine HT.Ph p1 p2 (fun z=>hx (r1.nil_iff.mp z)) (fun z=>⟨.ref a,H,I,rfl,q1 (r2.nil_iff.mp z)⟩) (fun z=>?_) (by rw [<- r1.length,<- r2.length];exact hz)
 refine ⟨.ref s.heap.objs.size,_,I.laid (t':=s.toks) (o:=.tup (xs++ys)) (fun b ob q=>ag _ q) (au _) ?_,rfl,q2 (fun w=>z (r2.nil_iff.mpr w)) _ (I.hok.fresh (au _))⟩
 exact ⟨by rw [aN];exact hz,_,r1.append r2,xf _ _⟩
end
end L2
namespace L2
open PySem PySem.Spec PyProof.Rows
def R8 (n:Nat) (i:Int):Option Nat:=if 0<=i then (if i<n then some i.toNat else none) else if -(n:Int)<=i then some (i+n).toNat else none
def Dg {α:Type} (xs:List α) (i:Int):Option α:=(R8 xs.length i).bind fun j=>xs[j]?
theorem Pm {n:Nat}{i:Int}{j:Nat} (h:R8 n i=some j):seqIndex? i n=some j/\j<n/\-(n:Int)<=i/\i<n:=by
 unfold R8 at h
 by_cases h0:0<=i
 ·rw [if_pos h0] at h
  by_cases h1:i<n
  ·rw [if_pos h1] at h
   have e:i.toNat=j:=bu h
   exact ⟨by rw [seqIndex_of h0 h1,e],by omega,by omega,h1⟩
  ·rw [if_neg h1] at h;cases h
 ·rw [if_neg h0] at h
  by_cases h1:-(n:Int)<=i
  ·rw [if_pos h1] at h
   have e:(i+n).toNat=j:=bu h
   exact ⟨by rw [seqIndex_neg (by omega) h1,e],by omega,h1,by omega⟩
  ·rw [if_neg h1] at h;cases h
theorem BP {α:Type}{xs:List α}{i:Int}{v:α} (h:Dg xs i=some v):∃ j,seqIndex? i xs.length=some j/\xs[j]?=some v/\j<xs.length/\-(xs.length:Int)<=i/\i<xs.length:=by
 unfold Dg at h
 cases e:R8 xs.length i with
 |none=>rw [e] at h;cases h
 |some j =>
  rw [e] at h
  obtain ⟨h1,h2,h3,h4⟩:=Pm e
  exact ⟨j,h1,h,h2,h3,h4⟩
theorem r9 {α:Type}{xs:List α}{j:Nat}{v:α} (h:xs[j]?=some v):Dg xs (j:Int)=some v:=by
 have hj:j<xs.length:=(List.getElem?_eq_some_iff.mp h).1
 have e:R8 xs.length (j:Int)=some j:=by
  unfold R8
  rw [if_pos (by omega),if_pos (by omega)];simp
 unfold Dg;rw [e];exact h
def uC (b:bd):Prop:=∀ o i,Dc b false o i=operate [o,i] (qh o i)
def UC (X:Cx) (r:R2):Prop :=
 ∀ (value slice:bd) (pins:List (ak×Obj)) (s:ai) (σ:St) (H:Hp) (x y:V) (v u:af) (Q:VK),bB X pins σ H s->cR x v->cR y u->r x y H Q ->
  Dc slice false v u=operate [v,u] (qh v u)->ar (aL X.prog X.w) X.A (Ja value slice v u) (EP X pins σ Q) X.xe s
def X_ (X:Cx) (id:String) (r:V->List V->Hp->VK->Prop):Prop :=
 ∀ (pins:List (ak×Obj)) (s:ai) (σ:St) (H:Hp) (x:V) (xs:List V) (v:af) (us:List af) (Q:VK),bB X pins σ H s->cR x v->dH xs us->r x xs H Q ->
  ar (aL X.prog X.w) X.A (call (.builtin id) (v::us)) (EP X pins σ Q) X.xe s
section
variable {X:Cx}{a b:bd}{ta tb:TE}{pos:Pos}
theorem R9 {r:R2} (hr:UC X r) (ha:PE X a ta) (hb:PE X b tb) (hs:uC b):PE X (.Subscript a b pos) (Uq r ta tb):=by
 intro pins s σ H Q I h
 exact Subscript_ (Sy ha hb I h fun v u s2 x y H2 I2 rx ry q=>hr a b pins s2 σ H2 x y v u Q I2 rx ry q (hs _ _))
inductive Ra (K:a8) (x:V) (y:V) (H:Hp) (Q:VK):Prop
 |mk (p xs i v:_) (h0:x=.ref p) (h1:y=.int i) (h2:ni K H p xs) (h3:Dg xs i=some v) (h4:Q v H):Ra K x y H Q
def UD (K:a8):R2:=Ra K
inductive Rb (K:a8) (x:V) (y:V) (H:Hp) (Q:VK):Prop
 |mk (p xs i v:_) (h0:x=.ref p) (h1:y=.int i) (h2:ko K H p xs) (h3:Dg xs i=some v) (h4:Q v H):Rb K x y H Q
def WN (K:a8):R2:=Rb K
inductive Rc (x:V) (y:V) (H:Hp) (Q:VK):Prop
 |mk (z i c:_) (h0:x=.str z) (h1:y=.int i) (h2:z.length<=sizeLine) (h3:Dg z.cps.toList i=some c) (h4:Q (.str ⟨#[c]⟩) H):Rc  x y H Q
def WO:R2:=Rc
theorem xI:UC X (UD X.K):=by
 intro value slice pins s σ H x y v u Q I rx ry h hs
 obtain ⟨p,xs,i,z,rfl,rfl,hq,he,q⟩:=h
 cases rx
 obtain ⟨t,rfl⟩:=ry
 obtain ⟨its,r,pl,hz⟩:=I.list hq
 obtain ⟨j,h1,h2,h3,h4,h5⟩:=BP he
 obtain ⟨w,ew,rw'⟩:=r.get h2
 have hl:=r.length
 have hn:=vS
 have fin:EP X pins σ Q w s:=⟨z,H,I,rw',q⟩
 by_cases h0:0<=i
 ·have hj:i.toNat=j:=by
   rw [seqIndex_of h0 h5] at h1
   exact bu h1
  exact item_listR pl.isList h0 (by omega) (by rw [hj];simpa using ew) fin hs
 ·have hj:(i+(its.toArray.size:Int)).toNat=j:=by
   rw [seqIndex_neg (by omega) h4] at h1
   rw [aR,<- hl]
   exact bu h1
  exact L9 (x:=w) pl.isList.typeIs slot_list_getitem.lookup
   (wpAny_getItem_list_neg (Q:=fun r s'=>r=w/\EP X pins σ Q r s') pl.isList (by omega) (by rw [aR]<;>omega) (by omega) (by rw [hj];simpa using ew) ⟨rfl,fin⟩) hs
theorem SQ:UC X (WN X.K):=by
 intro value slice pins s σ H x y v u Q I rx ry h hs
 obtain ⟨p,xs,i,z,rfl,rfl,hq,he,q⟩:=h
 cases rx
 obtain ⟨t,rfl⟩:=ry
 obtain ⟨its,r,pl,hz⟩:=I.tuple hq
 obtain ⟨j,h1,h2,h3,h4,h5⟩:=BP he
 obtain ⟨w,ew,rw'⟩:=r.get h2
 have hl:=r.length
 have hn:=vS
 have fin:EP X pins σ Q w s:=⟨z,H,I,rw',q⟩
 exact L9 (x:=w) pl.typeIs slot_tuple_getitem.lookup
  (getItem_tuple (j:=j) (Q:=fun r s'=>r=w/\EP X pins σ Q r s') pl (by omega) (by omega) (by rw [aR,<- hl];exact h1) (by simpa using ew) ⟨rfl,fin⟩) hs
theorem SS:UC X WO:=by
 intro value slice pins s σ H x y v u Q I rx ry h hs
 obtain ⟨z,i,c,rfl,rfl,hz,he,q⟩:=h
 obtain ⟨t,rfl⟩:=rx
 obtain ⟨t',rfl⟩:=ry
 obtain ⟨j,h1,h2,h3,h4,h5⟩:=BP he
 have hl:z.cps.toList.length=z.length:=by simp [Str.length]
 rw [hl] at h1 h4 h5
 have hn:=vS
 exact tail_any (typeIs_str s z t) slot_str_getitem.lookup (getItem_str (c:=c) (by
  have e1:decide (i < -(2 ^ 63:Int))=false:=decide_eq_false (by omega)
  have e2:decide (i ≥ 2 ^ 63)=false:=decide_eq_false (by omega)
  rw [e1,e2,Bool.or_false]) (by rw [h1];simpa using h2) ⟨.str ⟨#[c]⟩,H,I.tok _,⟨_,rfl⟩,q⟩) hs
theorem BQ (lo hi:Option Int) (n:Nat):(ms lo hi none n).1=((HT.iG n 0 lo:Nat):Int)/\(ms lo hi none n).2.1=((HT.iG n n hi:Nat):Int)/\(ms lo hi none n).2.2=1:=by
 refine ⟨?_,?_,rfl⟩
 ·cases lo with
  |none=>simp [ms,HT.iG]
  |some i =>
   simp only [ms,HT.iG,gx,show (1:Int) > 0 by decide,if_true]
   by_cases h:i<0
   ·simp only [h,if_true]<;>omega
   ·simp only [h,if_false]<;>omega
 ·cases hi with
  |none=>simp [ms,HT.iG]
  |some i =>
   simp only [ms,HT.iG,gx,show (1:Int) > 0 by decide,if_true]
   by_cases h:i<0
   ·simp only [h,if_true]<;>omega
   ·simp only [h,if_false]<;>omega
theorem A2 (its:List af) (lo hi:Option Int):slicePick its.toArray lo hi none=((its.drop (HT.iG its.length 0 lo)).take (HT.iG its.length its.length hi-HT.iG its.length 0 lo)).toArray:=by
 obtain ⟨h1,h2,h3⟩:=BQ lo hi its.toArray.size
 unfold slicePick
 rw [h1,h2,h3]
 simp only [sliceRange_one,pick_run,aR]<;>rfl
def WP (K:a8):V->Option Int->Option Int->Hp->VK->Prop:=fun x lo hi H Q=>∃ a xs,x=.ref a/\ni K H a xs/\∀ p,H p=none->Q (.ref p) (upd H p (.lst (Ds xs lo hi)))
theorem Pn:UA X (WP X.K):=by
 intro pins s σ H x v vl vu lo hi sl Q I rx hs pl pu h
 obtain ⟨a,xs,rfl,hx,q⟩:=h
 cases rx
 obtain ⟨its,r,ht,hz⟩:=I.list hx
 have hlen:=r.length
 refine ⟨"list",_,slot_list_getitem.lookup,ht.isList.typeIs,?_⟩
 refine wpAny_getItem_list_slice ht.isList hs pl pu .none (by simp) ?_ (by rw [aR]<;>omega)
 rw [A2,<- hlen]
 refine ⟨.ref s.heap.objs.size,_,I.laid (t':=s.toks) (o:=.lst (Ds xs lo hi)) (fun b ob q=>ag _ q) (au _) ?_,rfl,q _ (I.hok.fresh (au _))⟩
 exact ⟨cy (wK xs lo hi) hz,_,0,(r.drop (HT.iG xs.length 0 lo)).take (HT.iG xs.length xs.length hi-HT.iG xs.length 0 lo),ax _ rfl⟩
def qu:V->Bool
 |.non=>true
 |.bl _=>true
 |.int _=>true
 |.str _=>true
 |_=>false
def Po:V->V->Bool
 |.non,.non=>true
 |.bl a,.bl b=>a==b
 |.bl a,.int b=>(if a then 1 else 0)==b
 |.int a,.bl b=>a==(if b then 1 else 0)
 |.int a,.int b=>a==b
 |.str a,.str b=>a==b
 |_,_=>false
theorem SU {A:bv}{s:ai}{y x:V}{u v:af} (ry:cR y u) (rx:cR x v) (fy:qu y=true) (fx:qu x=true):SeqAt.EqAt A s u v (Po y x):=by
 cases y with
 |non =>
  cases ry
  cases x with
  |non=>cases rx;exact SeqAt.EqAt.same _
  |bl b=>cases rx;exact SeqAt.EqAt.none_bool b
  |int b=>obtain ⟨t,rfl⟩:=rx;exact SeqAt.EqAt.none_int b t
  |str b=>obtain ⟨t,rfl⟩:=rx;exact SeqAt.EqAt.none_str b t
  |_=>exact absurd (show false=true from fx) bh
 |bl a =>
  cases ry
  cases x with
  |non=>cases rx;exact SeqAt.EqAt.bool_none a
  |bl b=>cases rx;exact SeqAt.EqAt.bool_bool a b
  |int b=>obtain ⟨t,rfl⟩:=rx;exact SeqAt.EqAt.bool_int a b t
  |str b=>obtain ⟨t,rfl⟩:=rx;exact SeqAt.EqAt.bool_str a b t
  |_=>exact absurd (show false=true from fx) bh
 |int a =>
  obtain ⟨t',rfl⟩:=ry
  cases x with
  |non=>cases rx;exact SeqAt.EqAt.int_none a t'
  |bl b=>cases rx;exact SeqAt.EqAt.int_bool a t' b
  |int b=>obtain ⟨t,rfl⟩:=rx;exact SeqAt.EqAt.int_int a t' b t
  |str b=>obtain ⟨t,rfl⟩:=rx;exact D9 a t' b t
  |_=>exact absurd (show false=true from fx) bh
 |str a =>
  obtain ⟨t',rfl⟩:=ry
  cases x with
  |non=>cases rx;exact SeqAt.EqAt.str_none a t'
  |bl b=>cases rx;exact SeqAt.EqAt.str_bool a t' b
  |int b=>obtain ⟨t,rfl⟩:=rx;exact Da a t' b t
  |str b=>obtain ⟨t,rfl⟩:=rx;exact SeqAt.EqAt.str_str a t' b t
  |_=>exact absurd (show false=true from fx) bh
 |_=>exact absurd (show false=true from fy) bh
def Gb (x:V) (u:af):Bool:=match u with
 |.none=>Po .non x
 |.bool b=>Po (.bl b) x
 |.int i _=>Po (.int i) x
 |.str z _=>Po (.str z) x
 |_=>false
theorem LD {x y:V}{u:af} (r:cR y u) (f:qu y=true):Gb x u=Po y x:=by
 cases y with
 |non=>cases r;rfl
 |bl b=>cases r;rfl
 |int i=>obtain ⟨t,rfl⟩:=r;rfl
 |str z=>obtain ⟨t,rfl⟩:=r;rfl
 |_=>exact absurd (show false=true from f) bh
theorem uD {x:V}:∀ {xs:List V}{us:List af},dH xs us->xs.all qu=true->us.any (Gb x)=xs.any fun y=>Po y x
 |_,_,.nil,_=>rfl
 |y::xs,u::us,.cons r t,f=>by
  rw [uu,aF] at f
  rw [e7,e7,LD r f.1,uD t f.2]
theorem qv {A:bv}{s:ai}{x:V}{v:af} (rx:cR x v) (fx:qu x=true):∀ {xs:List V}{us:List af},dH xs us->xs.all qu=true->∀ u∈us,SeqAt.EqAt A s u v (Gb x u)
 |_,_,.nil,_=>fun u hu=>by cases hu
 |y::xs,u::us,.cons r t,f=>fun u' hu=>by
  rw [uu,aF] at f
  rcases List.mem_cons.mp hu with rfl|hu
  ·rw [LD r f.1];exact SU r rx f.1 fx
  ·exact qv rx fx t f.2 u' hu
def W9 (x:V) (xs:List V):Bool:=xs.any fun y=>Po y x
inductive UE (K:a8) (neg:Bool) (x:V) (y:V) (H:Hp) (Q:VK):Prop
 |mk (p xs:_) (h0:y=.ref p) (h1:(ni K H p xs\/ko K H p xs)) (h2:qu x=true) (h3:xs.all qu=true) (h4:Q (.bl (if neg then !W9 x xs else W9 x xs)) H):UE K neg x y H Q
def WQ (K:a8) (neg:Bool):R2:=UE K neg
theorem Jt:pW X (bO .In) (WQ X.K false):=by
 intro pins s σ H x y v u Q I rx ry h
 obtain ⟨p,xs,rfl,hq,fx,fs,q⟩:=h
 cases ry
 rcases hq with hq|hq
 ·obtain ⟨its,r,pl,hz⟩:=I.list hq
  refine SeqAt.in_listAt (Gb x) pl.isList (fun w hw=>qv rx fx r fs w (by simpa using hw)) ⟨.bl _,H,I,rfl,?_⟩
  rw [show its.toArray.any (Gb x)=its.any (Gb x) by simp,uD r fs]
  exact q
 ·obtain ⟨its,r,pl,hz⟩:=I.tuple hq
  refine SeqAt.in_tupleAt (Gb x) pl (fun w hw=>qv rx fx r fs w (by simpa using hw)) ⟨.bl _,H,I,rfl,?_⟩
  rw [show its.toArray.any (Gb x)=its.any (Gb x) by simp,uD r fs]
  exact q
theorem BR:pW X (bO .NotIn) (WQ X.K true):=by
 intro pins s σ H x y v u Q I rx ry h
 obtain ⟨p,xs,rfl,hq,fx,fs,q⟩:=h
 cases ry
 rcases hq with hq|hq
 ·obtain ⟨its,r,pl,hz⟩:=I.list hq
  refine SeqAt.notIn_listAt (Gb x) pl.isList (fun w hw=>qv rx fx r fs w (by simpa using hw)) ⟨.bl _,H,I,rfl,?_⟩
  rw [show its.toArray.any (Gb x)=its.any (Gb x) by simp,uD r fs]
  exact q
 ·obtain ⟨its,r,pl,hz⟩:=I.tuple hq
  refine SeqAt.notIn_tupleAt (Gb x) pl (fun w hw=>qv rx fx r fs w (by simpa using hw)) ⟨.bl _,H,I,rfl,?_⟩
  rw [show its.toArray.any (Gb x)=its.any (Gb x) by simp,uD r fs]
  exact q
theorem uE:j7 X (.builtin "len") (fun xs H Q=>∃ p ys,xs=[.ref p]/\(ni X.K H p ys\/ko X.K H p ys)/\Q (.int ys.length) H):=by
 intro pins s σ H xs us Q I r h
 obtain ⟨p,ys,rfl,hq,q⟩:=h
 obtain ⟨u,rfl,rx⟩:=jH r
 cases rx
 have hn:=vS
 rcases hq with hq|hq
 ·obtain ⟨its,r',pl,hz⟩:=I.list hq
  have hlen:=r'.length
  exact Calls.call_len_list pl.isList (by simp only [aR]<;>omega) ⟨.int ys.length,H,I.tok _,⟨s.toks+1,by rw [aR,hlen]⟩,q⟩
 ·obtain ⟨its,r',pl,hz⟩:=I.tuple hq
  have hlen:=r'.length
  exact len_tuple pl (by simp only [aR]<;>omega) ⟨.int ys.length,H,I.tok _,⟨s.toks+1,by rw [aR,hlen]⟩,q⟩
theorem BS:j7 X (.builtin "len") (fun xs H Q=>∃ z,xs=[.str z]/\z.length<=sizeLine/\Q (.int z.length) H):=by
 intro pins s σ H xs us Q I r h
 obtain ⟨z,rfl,hz,q⟩:=h
 obtain ⟨u,rfl,t,rfl⟩:=jH r
 have hn:=vS
 exact len_str (by omega) ⟨.int z.length,H,I.tok _,⟨_,rfl⟩,q⟩
theorem uF:j7 X (.type "list") (fun xs H Q=>∃ p ys,xs=[.ref p]/\(ni X.K H p ys\/ko X.K H p ys)/\∀ l,H l=none->Q (.ref l) (upd H l (.lst ys))):=by
 intro pins s σ H xs us Q I r h
 obtain ⟨p,ys,rfl,hq,q⟩:=h
 obtain ⟨u,rfl,rx⟩:=jH r
 cases rx
 have fin:∀ (its:List af),dH ys its->ys.length<=sizeLine->∀ (h':bE) (c':Nat),(∀ b o',s.heap.get? b=some o'->h'.get? b=some o') ->
   h'.get? s.heap.objs.size=some { cls:=.type "list",dict:=none,data:=.seq its.toArray c',slots:=#[] }->EP X pins σ Q (.ref s.heap.objs.size) { s with heap:=h' }:=fun its r' hz h' c' kp e =>
  ⟨.ref s.heap.objs.size,_,I.laid (t':=s.toks) kp (au _) (show dw X.prog X.w _ h' _ (.lst ys) from ⟨hz,its,c',r',e⟩),rfl,q _ (I.hok.fresh (au _))⟩
 rcases hq with hq|hq
 ·obtain ⟨its,r',pl,hz⟩:=I.list hq
  have hlen:=r'.length
  obtain ⟨o,ho,hc,n,hd⟩:=pl.isList
  exact call_list_seq p (.inl rfl) ho hc hd (fun h' c' kp e=>fin its r' hz h' c' kp e) (by simp only [aR]<;>omega)
 ·obtain ⟨its,r',pl,hz⟩:=I.tuple hq
  have hlen:=r'.length
  obtain ⟨o,ho,hc,n,hd⟩:=pl
  exact call_list_seq p (.inr rfl) ho hc hd (fun h' c' kp e=>fin its r' hz h' c' kp e) (by simp only [aR]<;>omega)
theorem sB:j7 X (.type "tuple") (fun xs H Q=>∃ p ys,xs=[.ref p]/\((ni X.K H p ys/\∀ l,H l=none->Q (.ref l) (upd H l (.tup ys)))\/(ko X.K H p ys/\Q (.ref p) H))):=by
 intro pins s σ H xs us Q I r h
 obtain ⟨p,ys,rfl,h⟩:=h
 obtain ⟨u,rfl,rx⟩:=jH r
 cases rx
 rcases h with ⟨hq,q⟩|⟨hq,q⟩
 ·obtain ⟨its,r',pl,hz⟩:=I.list hq
  have hlen:=r'.length
  refine call_tuple_list pl.isList (fun h' kp=>?_) (by simp only [aR]<;>omega)
  have I1:bB X pins σ H { s with heap:=h' }:=I.kept (t':=s.toks) kp
  have I2:bB X pins σ (upd H h'.objs.size (.tup ys)) { s with heap:=h'.push { cls:=.type "tuple",data:=.seq its.toArray } } :=
   I1.laid (t':=s.toks) (fun b o e=>ag _ e) (au _) (show dw X.prog X.w _ _ _ (.tup ys) from ⟨hz,its,r',xf _ _⟩)
  exact ⟨.ref h'.objs.size,_,I2,rfl,q _ (I1.hok.fresh (au _))⟩
 ·obtain ⟨its,r',pl,hz⟩:=I.tuple hq
  exact call_tuple_same pl ⟨.ref p,H,I,rfl,q⟩
def Xw (K:a8) (T:String) (x:V) (H:Hp):Prop:=match x with
 |.str _=>T="str"
 |.int _=>T="int"
 |.ref p=>(T="list"/\∃ xs,ni K H p xs)\/(T="tuple"/\∃ o,K.lookup p=some o/\o.cls=.type "tuple"/\o.dict=none) \/
   (T="dict"/\((∃ kvs,H p=some (.dK kvs))\/∃ kvs,H p=some (.dT kvs)))\/(T="set"/\∃ S n,H p=some (.set S n))
 |_=>False
theorem SW {pins:List (ak×Obj)}{σ:St}{H:Hp}{s:ai}{T:String}{x:V}{v:af} (I:bB X pins σ H s) (r:cR x v) (ty:Xw X.K T x H) :
  s.TypeIs v T/\∀ a,v=.ref a->∃ ob,s.heap.get? a=some ob/\ob.dict=none:=by
 cases x with
 |str z =>
  obtain ⟨t,rfl⟩:=r
  cases (show T="str" from ty)
  exact ⟨typeIs_str s z t,fun _ e=>nomatch e⟩
 |int i =>
  obtain ⟨t,rfl⟩:=r
  cases (show T="int" from ty)
  exact ⟨typeIs_int s i t,fun _ e=>nomatch e⟩
 |ref p =>
  cases r
  rcases ty with ⟨rfl,xs,hq⟩|⟨rfl,o,hk,hc,hd⟩|⟨rfl,hk⟩|⟨rfl,S,n,hk⟩
  ·obtain ⟨its,_,pl,_⟩:=I.list hq
   refine ⟨pl.isList.typeIs,fun a e=>?_⟩
   cases e
   obtain ⟨o,n,e,c,hd,_⟩:=pl
   exact ⟨o,e,hd⟩
  ·refine ⟨⟨o,I.kIn p o hk,hc⟩,fun a e=>?_⟩
   cases e
   exact ⟨o,I.kIn _ o hk,hd⟩
  ·have z:∃ o,s.heap.get? p=some o/\o.ExactDict:=by
    rcases hk with ⟨kvs,hk⟩|⟨kvs,hk⟩
    ·obtain ⟨_,_,_,_,o,_,_,e,ex,_⟩:=I.hok p _ hk
     exact ⟨o,e,ex⟩
    ·obtain ⟨_,_,_,_,o,_,_,e,ex,_⟩:=I.hok p _ hk
     exact ⟨o,e,ex⟩
   obtain ⟨o,e,ex⟩:=z
   refine ⟨⟨o,e,ex.1⟩,fun a e2=>?_⟩
   cases e2
   exact ⟨o,e,ex.2.1⟩
  ·obtain ⟨o,_,_,_,e,ex,_⟩:=I.hok p _ hk
   refine ⟨⟨o,e,ex.1⟩,fun a e2=>?_⟩
   cases e2
   exact ⟨o,e,ex.2.1⟩
 |_=>exact iu ty
def Y0 (K:a8) (T:String) (r:V->List V->Hp->VK->Prop) (to:TE) (t:TA):TE:=fun σ H Q=>to σ H fun x H1=>Xw K T x H1/\t σ H1 fun xs H2=>r x xs H2 Q
variable {o e:bd}{es:List bd}{to:TE}{t:TA}{name:Str}{apos cpos:Pos}{T id:String}{r:V->List V->Hp->VK->Prop}
theorem Re (pa:PlainAttrs T) (slot:Slot T name id) (hty:typeOf (.builtin id)=pure (.type "method_descriptor")) (hm:X_ X id r) (ho:PE X o to) (ha:PA X (e::es) t)
  (hbase:Jb o name X.env (ed o X.env)=ed o X.env:=by rfl)
  (hfew:((fU cpos (aJ (e::es) X.env)).all (fun x=>!x.1)&&(backToKw cpos (OE [] X.env)).all (fun x=>x.1.isSome)
   && decide ((e::es).length+([] : List zS).length+(if ([] : List zS).isEmpty then 0 else 1)<30))=true:=by rfl)
  (hline:(apos.endLine==cpos.line)=true:=by rfl) (hs:aJ (e::es) X.env=(false,ed e X.env)::aJ es X.env:=by rfl) (hplain:(fU cpos (aJ es X.env)).any (·.1)=false:=by rfl) :
  PE X (.Call (.Attribute o name apos) (e::es) [] cpos) (Y0 X.K T r to t):=by
 intro pins s σ H Q I h
 refine wpAny_Call_method_late hbase hfew hline rfl (fG (ho pins s σ H _ I h) fun v s1 ⟨x,H1,I1,r1,ty,q1⟩=>?_)
 obtain ⟨h1,h2⟩:=SW I1 r1 ty
 refine ⟨T,id,pa,slot,hty,h1,h2,?_⟩
 have hA:=ha cpos pins s1 σ H1 _ I1 q1
 rw [hs] at hA ⊢
 refine Calls.callWith_builtin (by show (false||(fU cpos (aJ es X.env)).any (·.1))=false;rw [hplain]<;>rfl) (FM ?_)
 exact fG hA fun us s2 h_30=>by obtain ⟨vs,H2,I2,r2,q2⟩:=h_30;exact hm pins s2 σ H2 x vs v us Q I2 r1 r2 q2
end
end L2
namespace L2
open PySem PySem.Spec PyProof.Rows
def Y1 (X:Cx) (id:String) (r:V->List V->Hp->VK->Prop):Prop :=
 ∀ (pins:List (ak×Obj)) (s:ai) (σ:St) (H:Hp) (x:V) (xs:List V) (v:af) (us:List af) (Q:VK),bB X pins σ H s->cR x v->dH xs us->r x xs H Q ->
  ar (aL X.prog X.w) X.A (call (.builtin id) (v::us)) (EP X pins σ Q) X.xe s
theorem dH.one {x:V}{us:List af} (h:dH [x] us):∃ u,us=[u]/\cR x u:=by
 cases h with|cons r t=>cases t;exact ⟨_,rfl,r⟩
section
variable {X:Cx}{pins:List (ak×Obj)}{σ:St}{H:Hp}{s:ai}{l b:ak}{xs ys zs:List V}
theorem bB.lset {its its':List af}{n:Nat}{f:Array af->Array af}{t':Nat} (I:bB X pins σ H s) (hH:H l=some (.lst xs))
  (e:s.heap.get? l=some { cls:=.type "list",data:=.seq its.toArray n }) (hf:f its.toArray=its'.toArray) (hv:dH ys its') (hz:ys.length<=sizeLine) :
  bB X pins σ (upd H l (.lst ys)) { s with heap:=s.heap.update l (fJ f),toks:=t' }:=by
 have q:=PySem.IsL.update e f
 rw [hf] at q
 refine I.write (x:=l) (e:=l) (by rw [hH];exact trivial) (.inl rfl) (fun b' u hb hu=>(dn s.heap (fJ f) (c9 hb)).trans hu) ⟨_,q⟩ ?_
 exact ⟨hz,its',_,hv,q⟩
theorem bB.lnew {its:List af}{t':Nat} (I:bB X pins σ H s) (hv:dH ys its) (hz:ys.length<=sizeLine) :
  bB X pins σ (upd H s.heap.objs.size (.lst ys)) { s with heap:=s.heap.push { cls:=.type "list",data:=.seq its.toArray },toks:=t' } :=
 I.laid (fun _ _ q=>ag _ q) (au _) ⟨hz,its,0,hv,ax _ rfl⟩
theorem bB.fresh (I:bB X pins σ H s):H s.heap.objs.size=none:=I.hok.fresh (au _)
theorem bB.lstM (I:bB X pins σ H s) (hH:H l=some (.lst xs)):Xt s.heap l xs:=by
 obtain ⟨z,its,n,r,e⟩:=I.hok l _ hH
 exact ⟨z,its,n,r,r.length,e⟩
end
section
variable {X:Cx}
inductive Dt (x:V) (vs:List V) (H:Hp) (Q:VK):Prop
 |mk (l xs y:_) (h0:x=.ref l) (h1:vs=[y]) (h2:H l=some (.lst xs)) (h3:xs.length<sizeLine) (h4:Q .non (upd H l (.lst (xs++[y])))):Dt  x vs H Q
def Pp:V->List V->Hp->VK->Prop:=Dt
theorem AN:Y1 X "list.append" Pp:=by
 intro pins s σ H x vs v us Q I rx rv h
 obtain ⟨l,xs,y,rfl,rfl,hH,hz,q⟩:=h
 cases rx
 obtain ⟨u,rfl,ru⟩:=rv.one
 obtain ⟨z,its,n,r,hl,e⟩:=I.lstM hH
 refine call_meets F.slot_list_append ⟨_,e,rfl⟩ F.entry_list_append (F.args_list_append_2 _ _) (PySem.list_append l its.toArray n u (by rw [aR];omega)) ⟨e,?_⟩
 refine ⟨.non,_,I.lset (its':=its++[u]) hH e (by simp) (r.append (.cons ru .nil)) ?_,rfl,q⟩
 rw [aN,dD]
 omega
end
section
variable {prog:aX}{w:bn}{A:bv}{E:af->ai->Prop}{s:ai}
end
section
variable {X:Cx}
end
end L2
namespace Att
open PySem PySem.W PySem.Calls PyProof.Rows
theorem xo {P:Params}{h:bE}:∀ (ns:List Int) (vs:List af),WellAll P h vs (ns.map WData.int)->La vs ns:=by
 intro ns
 induction ns with
 |nil =>
  intro vs w
  rw [dL] at w
  cases w
  exact .nil
 |cons n ns ih =>
  intro vs w
  rw [aB] at w
  cases w with
  |cons a b =>
   cases a
   exact .cons _ _ (ih _ b)
theorem Ju {l:OpenLaw}{n:Nat} (hn:l.most=some n) {P:Params}{h:bE}{args:List WData}{vals:List af}
  (hpre:l.row.toRowW.claim.pre args=true) (hwl:WellAll P h vals args) :
  ∃ a vs ns,vals=[bK a]/\args=[WData.list (ns.map WData.int)]/\h.get? a=some { cls:=.type "list",data:=.seq vs.toArray }/\La vs ns/\ns.length<=n:=by
 have hsh:WShape.hasAll [] args [.list .int]=true:=(pre_splitW hpre).1
 have hc:l.pre.holds [] { args:=args }=true:=(pre_splitW hpre).2
 obtain ⟨d,r,rfl,h1,h2⟩:=hasAllW_cons hsh
 obtain rfl:=hasAllW_nil h2
 obtain ⟨xs,rfl,h3⟩:=hasW_list h1
 obtain ⟨ns,rfl⟩:=items_int h3
 have hlen:ns.length<=n:=by
  unfold OpenLaw.pre at hc
  have h4:(WTm.not (.lt (.lit (.int (n:Int))) (.len (.arg 0)))).holds [] { args:=[.list (ns.map .int)] }=true:=by
   have h4:=(holds_andW hc).1
   rw [hn] at h4
   exact h4
  have h5:=condW_of h4 (w_not (w_lt w_lit (w_len_list (w_arg rfl))))
  rw [ao] at h5
  refine OF fun q=>?_
  have q':(n:Int)<((ns.length:Nat):Int):=by omega
  first
   |(rw [decide_eq_true q'] at h5;exact absurd h5 (by decide))
   |(simp at h5;omega)
 cases hwl with
 |cons w1 w2 =>
  cases w2
  cases w1 with
  |list ho hall=>exact ⟨_,_,ns,rfl,rfl,ho,xo ns _ hall,hlen⟩
theorem Jv (l:OpenLaw) (args:List WData):l.row.toRowW.claim.post args (.bool true) args=true :=
 postW_of (r:=l.row.toRowW) (X:=(true==true))
  (show WShape.has [] (.bool true) .bool=true by first|rfl|decide|simp [WShape.has,WShape.arms,WShape.armsAll])
  (show (WTm.eq .res (.lit (.bool true))).value [] { args:=args,res:=some (.bool true),after:=args }=some (.bool (true==true)) from w_eq_bool (w_res rfl) w_lit) rfl
theorem attach_call {l:OpenLaw}{n:Nat}{q:aX}{loose:List Str}{XP:(Str->Option af)->bE->Prop}{YP:bn->bE->Prop}{d:DefRec}
  (hn:l.most=some n) (hdf:d.params.defaults=[])
  (call:∀ (w:bn) (s₀ s₁:ai) (mg mb:Str->Option af) (fa:ak) (o:Obj) (pm cd doc:af) (a:ak) (vs:List af) (ns:List Int),
   Ground q loose [] XP w s₀ mg mb s₁.heap->YP w s₁.heap ->
   s₁.heap.get? fa=some o->o.data=.func (docDef d.name d.params d.body d.scope pm cd doc)->s₁.heap.CodeRec cd d.name->mg d.name=some (.ref fa) ->
   s₁.heap.get? a=some { cls:=.type "list",data:=.seq vs.toArray }->La vs ns->ns.length<=n->s₁.gens=#[] ->
   gU (aL l.prog w) wE (.call (.ref fa) ⟨[.ref a],[]⟩) (fun r s'=>r=.ok (.ret (.bool true))/\OldK s₁.heap s'.heap/\s'.os=s₁.os/\qg s'.gens) s₁) :
  WalkO q loose XP YP l.row.toRowW d [] (fun f vs=>Jc f vs):=by
 intro w s₀ s₁ mg mb G Y fa o pm cd doc dV kV ho hd hcd hD hmg hg args vals as hpre hlay hrd hwl hlo
 obtain rfl:dV=.none:=Dflts.none hD hdf
 obtain rfl:kV=.none:=Dflts.noKw hD
 obtain ⟨a,vs,ns,rfl,rfl,hobj,hints,hlen⟩:=Ju hn hpre hwl
 refine enter_call (nL (call w s₀ s₁ mg mb fa o pm cd doc a vs ns G Y ho (fd_plain hd) hcd hmg hobj hints hlen hg) fun r s' hq=>?_)
 obtain ⟨rfl,h2,h3,h4⟩:=hq
 exact ⟨.inl ⟨.bool true,.bool true,[],rfl,fun _=>rfl,.bool true,Jv l _,fun _=>⟨AB,fun _ hm=>(nomatch hm)⟩⟩,h2,h3,h4⟩
section
variable {prog:aX}{w:bn}{A:bv}{E:af->ai->Prop}{s:ai}{K:Frag}
def WR (h:bE) (L d:ak):List (ak×Obj):=(bA h.objs.size).filterMap fun a=>if a=L\/a=d then none else (h.get? a).map fun o=>(a,o)
end
end Att
namespace L2
open PySem PySem.Spec PyProof.Rows
theorem Jw {vs:List af}{ns:List Int} (h:La vs ns):dH (ns.map V.int) vs:=by
 induction h with
 |nil=>exact .nil
 |cons n t h ih=>exact .cons ⟨t,rfl⟩ ih
def SX (P0:ak) (H:Hp):Prop:=∀ b,H b=none\/(∃ o xs,H b=some (.frz o (.lst xs)))\/(b=P0/\∃ ps,H b=some (.tbl ps))
def Rf (K:a8) (P0:ak) (q0:Str) (p:ak×Obj):Bool:=match p.2 with
 |⟨_,_,.fields vs,_⟩=>(match (vs[11]? : Option af),vs.toList with
  |some (.ref P),_::.str q _::_=>(K.lookup P).isSome || !(q==Se)||(P==P0&&q==q0)
  |_,_=>true)
 |_=>true
def tj (K:a8) (c0 P0:ak) (q0:Str):Bool:=K.all (Rf K P0 q0)&&(K.lookup P0).isNone&&fi K c0 P0
theorem LF {c:ak}{o:Obj}:∀ {K:List (ak×Obj)},K.lookup c=some o->(c,o)∈K
 |[],h=>by cases h
 |(a,u)::r,h=>by
  rw [cC] at h
  cases e:c==a with
  |true =>
   rw [e] at h
   have e':c=a:=beq_iff_eq.mp e
   cases h
   rw [e']
   exact ah
  |false=>rw [e] at h;exact a9 _ (LF h)
theorem Du {K:a8}{c0 P0 c P:ak}{q0 q:Str} (hT:tj K c0 P0 q0=true) (h1:dA K (.ref c) q=true) (h2:fi K c P=true) (h3:K.lookup P=none) (h4:q=Se):P=P0/\q=q0:=by
 unfold tj at hT
 simp only [aF,bY] at hT
 unfold dA at h1
 unfold fi at h2
 cases hk:K.lookup c with
 |none=>rw [hk] at h2;cases h2
 |some o =>
  have hm:=hT.1.1 (c,o) (LF hk)
  simp only [hk] at h1 h2
  obtain ⟨cls,dd,dat,sl⟩:=o
  cases dat with
  |fields vs =>
   simp only at h1
   unfold Rf at hm
   simp only at hm
   split at h1
   ·rename_i a n t r hv
    split at h2
    ·rename_i vs' _ he
     have e4:vs'=vs:=by injection he with he;injection he with _ _ he _;injection he with he;exact he.symm
     subst e4
     simp only [aF] at h2
     have e1:=h2.1.1.1.1.1
     split at e1
     ·rename_i P' h11
      have eP:=beq_iff_eq.mp e1
      subst eP
      rw [h11,hv] at hm
      have e5:=beq_iff_eq.mp h1
      simp only [h3,Option.isSome_none,oh,e5,h4,beq_self_eq_true,kP,aF,beq_iff_eq] at hm
      exact ⟨hm.1,h4.trans hm.2⟩
     ·cases e1
    ·cases h2
   ·cases h1
  |_=>cases h1
theorem LG {P:aX}{w:bn}{K:a8}{mg mb:Str->Option af}{CX:Jr}{k:Nat}{fa a:ak}{fd:eK}{x:Str}{sp:Sp}{s₁:ai}{vs:List af}{ns:List Int}
  {c0 P0:ak}{q0:Str} (hT0:s₁.heap.get? P0=some { cls:=.none,data:=.fields #[] }) (hTK:tj K c0 P0 q0=true) (hbm:∃ bm ob,mg "__builtins__"=some (.ref bm)/\bm≠oy/\s₁.heap.get? bm=some ob/\ob.cls=.type "module"/\ob.dict=some oy/\ob.data=.plain) (KX:K.In s₁.heap) (hns:s₁.heap.Ns bt mg) (hb:s₁.heap.Ns oy mb) (hbb:∀ x:Str,x≠"__name__"->mb x=i7 x) (hlim:s₁.heap.NoLimit) (hg:s₁.gens=#[])
  (ha:s₁.heap.get? a=some { cls:=.type "list",data:=.seq vs.toArray }) (hi:La vs ns) (hl:ns.length<=sizeLine) (hr:i_ k wE)
  (F:∀ base:bE,K.In base->base.Ns bt mg->sf P w K mg base CX k fa fd [x] sp) (hbind:∀ (s:ai) (u:af),zR s fd ⟨[u],[]⟩ [(x,u)])
  (hsp:∀ H:Hp,SX P0 H->ni K H a (ns.map V.int)->sp [.ref a] H (fun v _=>v=.bl true) fun _ _ _=>False)
  (hCX:∀ H e s',CX [] H s₁ (fun _ _ _=>False) e s'->False) :
  gU (aL P w) wE (.call (.ref fa) ⟨[.ref a],[]⟩) (fun r s'=>r=.ok (.ret (.bool true))/\OldK s₁.heap s'.heap/\s'.os=s₁.os/\qg s'.gens) s₁:=by
 have rv:=Jw hi
 have lenV:=hi.length
 have nP:K.lookup P0=none:=by
  unfold tj at hTK
  simp only [aF] at hTK
  cases q:K.lookup P0 with
  |none=>rfl
  |some o=>rw [q] at hTK;exact absurd hTK.1.2 (by simp)
 have aP:a≠P0:=fun z=>by rw [z,hT0] at ha;cases ha
 have core:∀ H:Hp,SX P0 H->ni K H a (ns.map V.int)->qd P w H s₁.heap->(∀ b,H b≠none->b=a\/b=P0)->(H a≠none->K.lookup a=none)->Tb K H ->
   gU (aL P w) wE (.call (.ref fa) ⟨[.ref a],[]⟩) (fun r s'=>r=.ok (.ret (.bool true))/\OldK s₁.heap s'.heap/\s'.os=s₁.os/\qg s'.gens) s₁:=by
  intro H hO hS hok hA hK hTb
  have base_of:∀ {b:ak}{o:Obj},s₁.heap.get? b=some o->H b=none->(BK s₁.heap H).get? b=some o:=fun e n=>Ll e n
  have noA:∀ {b:ak}{o:Obj}{es:Array KO}{ep:Nat},s₁.heap.get? b=some o->o.data=.dict es ep->H b=none:=fun {b o es ep} e d=>by
   cases q:H b with
   |none=>rfl
   |some u =>
    rcases hA b (by rw [q];simp) with e' | e'
    ·subst e'
     rw [ha] at e;cases e
     have d':Data.seq vs.toArray _=Data.dict es ep:=d
     cases d'
    ·subst e'
     rw [hT0] at e;cases e
     have d':Hv #[]=Data.dict es ep:=d
     cases d'
  have nsK:∀ {b:ak}{m:Str->Option af},s₁.heap.Ns b m->(BK s₁.heap H).Ns b m:=fun {b m} ⟨o,es,ep,e,d,r⟩=>⟨o,es,ep,base_of e (noA e d),d,r⟩
  have hKb:K.In (BK s₁.heap H):=fun b o e=>base_of (KX b o e) (by
   cases q:H b with
   |none=>rfl
   |some u =>
    rcases hA b (by rw [q];simp) with e' | e'
    ·subst e'
     rw [hK (by rw [q];simp)] at e;cases e
    ·subst e'
     rw [nP] at e;cases e)
  have hM:Mod K mg (BK s₁.heap H):=⟨hKb,nsK hns,⟨mb,nsK hb,hbb⟩,let ⟨mc,h1,h2⟩:=hlim;⟨mc,nsK h1,h2⟩,by obtain ⟨bm,ob,b1,b2,b3,b4,b5,b6⟩:=hbm;exact ⟨bm,ob,b1,b2,base_of b3 (by
   cases q:H bm with
   |none=>rfl
   |some u =>
    rcases hA bm (by rw [q];simp) with e' | e'
    ·subst e';rw [ha] at b3;cases b3;cases b6
    ·subst e';rw [hT0] at b3;cases b3;cases b6),b4,b5,b6⟩⟩
  have e0:Pf P w K mg (BK s₁.heap H) wE [] s₁ H:=⟨rfl,hM,fun b o e=>P1 e,Nat.le_of_eq (Jm _ _),trivial,fun b hb=>absurd (show b∈([] : List ak) from hb) (by simp),hok,.of_eq hg,hTb⟩
  refine nL ((F _ hKb (nsK hns)).run wE [] s₁ H ⟨[.ref a],[]⟩ [.ref a] [.ref a] _ _ hr e0 (hbind s₁ (.ref a)) (.cons rfl .nil) (hsp H hO hS)) fun r s' h=>?_
  cases r with
  |error e=>exact (hCX H e s' h).elim
  |ok fl =>
   cases fl with
   |next=>exact iu h
   |brk=>exact iu h
   |cont=>exact iu h
   |ret u =>
    obtain ⟨v,H',os,bare,un,hok',r',q⟩:=h
    have q':v=.bl true:=q
    subst q'
    obtain rfl:u=J4 true:=r'
    have hcT:isCodeTable s₁.heap P0:=by
     unfold tj at hTK
     simp only [aF] at hTK
     obtain ⟨o,vs,_,_,_,_,_,_,_,d1,d2,d3,d4,_⟩:=Fw KX hTK.2
     exact Heap.TableAt.isCodeTable (ps:=#[]) ⟨⟨o,vs,d1,d2,d3,d4⟩,hT0⟩
    have key:∀ b o,s₁.heap.get? b=some o->asItWas s₁.heap s'.heap b o/\∃ o',s'.heap.get? b=some o':=fun b o e=>by
     cases q:H b with
     |none=>have:=un.keep b o e q (by intro z;exact absurd (show b∈([] : List ak) from z) (by simp)) (by simp);exact ⟨.inl this,o,this⟩
     |some u =>
      rcases hO b with z|⟨ob,xs,z⟩|⟨rfl,ps,z⟩
      ·rw [q] at z;cases z
      ·have z2:=un.frzs b ob _ z
       obtain ⟨e1,_⟩:=hok b _ z
       obtain ⟨e2,_⟩:=hok' b _ z2
       rw [e] at e1;cases e1
       exact ⟨.inl e2,_,e2⟩
      ·obtain ⟨more,z2⟩:=un.tbls b ps z
       obtain ⟨qs,e2,_⟩:=hok' b _ z2
       rw [hT0] at e;cases e
       exact ⟨.inr (.inl ⟨hcT,rfl,#[],qs,rfl,by rw [e2];simp⟩),_,e2⟩
    exact ⟨rfl,⟨fun b o e=>(key b o e).1,fun b o e=>(key b o e).2⟩,os,bare⟩
 cases hk:K.lookup a with
 |some o =>
  have e:=KX a o hk
  rw [ha] at e
  cases e
  refine core (fun b=>if b=P0 then some (.tbl #[.str (q0++".<locals>."++"<lambda>") 0]) else none) (fun b=>?_) (.inr ⟨_,vs.toArray,_,hk,rfl,rfl,rfl,by rw [aR,lenV];exact hl,by simpa using rv⟩) (fun b u z=>?_) (fun b z=>?_) (fun z=>?_) fun c P q t1 t2 t3 t4=>?_
  ·by_cases hb:b=P0
   ·exact .inr (.inr ⟨hb,_,if_pos hb⟩)
   ·exact .inl (if_neg hb)
  ·by_cases hb:b=P0
   ·have z':=(if_pos hb).symm.trans z
    cases z'
    subst hb
    exact ⟨#[],hT0,trivial,fun pos cv q=>by cases q⟩
   ·have z':=(if_neg hb).symm.trans z
    cases z'
  ·by_cases hb:b=P0
   ·exact .inr hb
   ·exact absurd (if_neg hb) z
  ·exact absurd (if_neg aP) z
  ·obtain ⟨rfl,rfl⟩:=Du hTK t1 t2 t3 t4
   exact ⟨_,if_pos rfl,rfl⟩
 |none =>
  refine core (fun b=>if b=a then some (.frz { cls:=.type "list",data:=.seq vs.toArray } (.lst (ns.map V.int))) else if b=P0 then some (.tbl #[.str (q0++".<locals>."++"<lambda>") 0]) else none) (fun b=>?_) (.inl (.inr ⟨{ cls:=.type "list",data:=.seq vs.toArray },if_pos rfl⟩)) (fun b u z=>?_) (fun b z=>?_) (fun _=>hk) fun c P q t1 t2 t3 t4=>?_
  ·by_cases hb:b=a
   ·exact .inr (.inl ⟨_,_,if_pos hb⟩)
   ·by_cases hb2:b=P0
    ·exact .inr (.inr ⟨hb2,_,(if_neg hb).trans (if_pos hb2)⟩)
    ·exact .inl ((if_neg hb).trans (if_neg hb2))
  ·by_cases hb:b=a
   ·have z':=(if_pos hb).symm.trans z
    cases z'
    subst hb
    exact ⟨ha,by rw [ao];exact hl,vs,_,rv,ha⟩
   ·by_cases hb2:b=P0
    ·have z':=((if_neg hb).trans (if_pos hb2)).symm.trans z
     cases z'
     subst hb2
     exact ⟨#[],hT0,trivial,fun pos cv q=>by cases q⟩
    ·have z':=((if_neg hb).trans (if_neg hb2)).symm.trans z
     cases z'
  ·by_cases hb:b=a
   ·exact .inl hb
   ·by_cases hb2:b=P0
    ·exact .inr hb2
    ·exact absurd ((if_neg hb).trans (if_neg hb2)) z
  ·obtain ⟨rfl,rfl⟩:=Du hTK t1 t2 t3 t4
   exact ⟨_,(if_neg (c9 aP)).trans (if_pos rfl),rfl⟩
end L2
namespace L2
open PySem PySem.Spec PyProof.Rows
abbrev Ya {K:a8}{h:bE} (_:K.In h):a8:=K
theorem Pq {l:xg}{n k:Nat}{q:aX}{loose:List Str}{XP:(Str->Option af)->bE->Prop}{YP:bn->bE->Prop}{d:DefRec}{K:Params->a8}{CX:bn->Jr}{sp:bn->Sp}{x:Str}
  (hn:l.most=some n) (hn2:n<=sizeLine) (hdf:d.params.defaults=[]) (hr:i_ k wE)
  (c0 P0:ak) (q0:Str) (hY:∀ (w:bn) (h:bE),YP w h->(K w.params).In h) (hT:∀ (w:bn) (h:bE),YP w h->h.get? P0=some { cls:=.none,data:=.fields #[] }) (hTK:∀ w:bn,tj (K w.params) c0 P0 q0=true)
  (F:∀ (w:bn) (mg:Str->Option af) (fa:ak) (h:bE),(K w.params).In h->h.Ns bt mg->mg d.name=some (.ref fa) ->
   ∃ fd:eK,(∀ (s:ai) (u:af),zR s fd ⟨[u],[]⟩ [(x,u)]) /\
    ∀ base:bE,(K w.params).In base->base.Ns bt mg->sf l.prog w (K w.params) mg base (CX w) k fa fd [x] (sp w))
  (hsp:∀ (w:bn) (H:Hp) (a:ak) (ns:List Int),ns.length<=n->SX P0 H->ni (K w.params) H a (ns.map V.int)->sp w [.ref a] H (fun v _=>v=.bl true) fun _ _ _=>False)
  (hCX:∀ (w:bn) (H:Hp) (s:ai) (e:af) (s':ai),CX w [] H s (fun _ _ _=>False) e s'->False) :
  Os q loose XP YP l.row.toRowW d [] (fun f vs=>Jc f vs):=by
 refine Att.attach_call hn hdf fun w s₀ s₁ mg mb fa o pm cd doc a vs ns G Y ho hd hcd hmg hobj hints hlen hg=>?_
 have KX:=hY w _ Y
 obtain ⟨fd,hb,hF⟩:=F w mg fa _ KX G.T.g hmg
 exact LG (hT w _ Y) (hTK w) G.T.bmain KX G.T.g G.T.b G.T.builtins G.T.nolimit hg hobj hints (cy hlen hn2) hr hF hb (fun H hO hS=>hsp w H a ns hlen hO hS) fun H e s'=>hCX w H s₁ e s'
end L2
namespace L2
open PySem PySem.Spec PyProof.Rows
def iy (s:cP):wD:=match s with
 |.FunctionDef _ a _ _ _ _ _ _ _ _=>a
 |_=>{ posonlyargs:=[],args:=[],vararg:=none,kwonlyargs:=[],kw_defaults:=[],kwarg:=none,defaults:=[] }
def fD (s:cP):List cP:=match s with
 |.FunctionDef _ _ b _ _ _ _ _ _ _=>b
 |_=>[]
def aw (s:cP):dz:=match s with
 |.FunctionDef _ _ _ _ _ _ sc _ _ _=>sc
 |_=>{ kind:=.function,names:=[],isGenerator:=false,isCoroutine:=false }
abbrev E0:XK:=fun _ _ _=>False
structure Gc (K:a8) (x qual:Str) (st:cP) (f:ak) (fd:eK):Prop where
 ex:∃ (oc:af) (od:Option ak) (kV doc pm:af) (an:Option ak) (cdv ct:af) (osl:Array (Option af)),
  fd=dY x qual (iy st) (fD st) (aw st) .none kV doc pm an cdv ct/\K.lookup f=some ⟨oc,od,.func fd,osl⟩/\dA K cdv qual=true
 kp:dX K (.ref f)=true
section
variable {P:aX}{w:bn}{K:a8}{mg:Str->Option af}{base:bE}
theorem Gc.binds {x qual:Str}{st:cP}{f:ak}{fd:eK}{ps:List Str} (F:Gc K x qual st f fd)
  (h:∀ (kV doc pm:af) (an:Option ak) (cdv ct:af) (us:List af),us.length=ps.length->vI (dY x qual (iy st) (fD st) (aw st) .none kV doc pm an cdv ct) ⟨us,[]⟩=pure (ps.zip us)):kq K fd ps []:=by
 obtain ⟨oc,od,kV,doc,pm,an,cdv,ct,osl,rfl,lk,hcd⟩:=F.ex
 exact .all (h kV doc pm an cdv ct)
theorem Gd {x qual:Str}{st:cP}{f:ak}{oc:af}{od an:Option ak}{osl:Array (Option af)}{kV doc pm cdv ct:af} (l:K.lookup f=some ⟨oc,od,.func (dY x qual (iy st) (fD st) (aw st) .none kV doc pm an cdv ct),osl⟩)
  (c:dA K cdv qual=true) (k:dX K (.ref f)=true):Gc K x qual st f (dY x qual (iy st) (fD st) (aw st) .none kV doc pm an cdv ct):=⟨⟨oc,od,kV,doc,pm,an,cdv,ct,osl,rfl,l,c⟩,k⟩
end
theorem ij {A:bv}{k:Nat} (hr:i_ k A):A.units+1<kL:=vK (Nat.add_le_add_left (by decide:1<=64) _) hr.units
theorem d_ {n:Nat} (h:n<=1000):n<sizeLine:=vK h (by decide)
section
variable {X:Cx}
end
theorem Dv {A B:Prop} (h:B):if false=true then A else B:=by
 rw [if_neg bh]
 exact h
theorem Dw {A B:Prop} (h:A):if true=true then A else B:=by
 rw [if_pos rfl]
 exact h
def c_ (H H':Hp):Prop:=∀ b o,H b=some o->H' b=some o
theorem c_.refl (H:Hp):c_ H H:=fun _ _ h=>h
theorem c_.trans {H H1 H2:Hp} (a:c_ H H1) (b:c_ H1 H2):c_ H H2:=fun c o h=>b c o (a c o h)
theorem c_.free {H H':Hp} (e:c_ H H') {l:ak} (h:H' l=Option.none):H l=Option.none:=by
 cases q:H l with
 |none=>rfl
 |some o =>
  rw [e l o q] at h
  cases h
theorem c_.seq {K:a8}{H H':Hp}{a:ak}{xs:List V} (e:c_ H H') (h:ni K H a xs):ni K H' a xs:=by
 rcases h with (h|⟨o,h⟩)|h
 ·exact .inl (.inl (e _ _ h))
 ·exact .inl (.inr ⟨o,e _ _ h⟩)
 ·exact .inr h
end L2
end
section
namespace L2
open PySem PySem.Spec PyProof.Rows
section
variable {κ:Type} [DecidableEq κ]
def nR (kvs:List (κ×V)) (k:κ):Option V:=(kvs.find? fun kv=>decide (kv.1=k)).map (·.2)
def mw (kvs:List (κ×V)) (k:κ) (v:V):List (κ×V) :=
 if (kvs.any fun kv=>decide (kv.1=k))=true then kvs.map (fun kv=>if kv.1=k then (kv.1,v) else kv) else kvs++[(k,v)]
def LH (kvs:List (κ×V)) (k:κ):List (κ×V):=kvs.filter fun kv=>decide (kv.1≠k)
theorem yj {p:κ×V}{r:List (κ×V)}{k:κ} (e:p.1=k):nR (p::r) k=some p.2:=by simp [nR,bP,e]
theorem yk {p:κ×V}{r:List (κ×V)}{k:κ} (e:¬ p.1=k):nR (p::r) k=nR r k:=by simp [nR,bP,e]
theorem Dx (k:κ):∀ kvs:List (κ×V),(kvs.any fun kv=>decide (kv.1=k))=(nR kvs k).isSome
 |[]=>rfl
 |p::r=>by
  rw [e7]
  by_cases e:p.1=k
  ·simp only [yj e,decide_eq_true e,Bool.true_or,Hy]
  ·rw [yk e,decide_eq_false e,oh];exact Dx k r
theorem qw (kvs:List (κ×V)) (k:κ) (v:V):(mw kvs k v).length<=kvs.length+1:=by
 unfold mw
 split
 ·rw [ao];omega
 ·rw [aN,aT,bJ];omega
theorem yf.isSome_eq {o:Option V}{u:Option af} (r:yf o u):o.isSome=u.isSome:=by
 cases o with
 |none=>cases u with
  |none=>rfl
  |some _=>exact (show False from r).elim
 |some _=>cases u with
  |none=>exact (show False from r).elim
  |some _=>rfl
theorem KV.val {kvs:List (κ×V)}{vs:List (κ×af)} (r:KV kvs vs) (k:κ):yf (nR kvs k) (zU vs k):=by
 unfold KV at r
 induction r with
 |nil=>exact iE
 | @cons p q ps qs h t ih =>
  obtain ⟨h1,h2⟩:=h
  by_cases e:p.1=k
  ·have e':q.1=k:=h1.symm.trans e
   have b:zU (q::qs) k=some q.2:=by simp [zU,bP,e']
   rw [yj e,b];exact h2
  ·have e':¬ q.1=k:=fun z=>e (h1.trans z)
   have b:zU (q::qs) k=zU qs k:=by simp [zU,bP,e']
   rw [yk e,b];exact ih
theorem KV.any {kvs:List (κ×V)}{vs:List (κ×af)} (r:KV kvs vs) (k:κ):(kvs.any fun kv=>decide (kv.1=k))=vs.any fun kv=>decide (kv.1=k):=by
 unfold KV at r
 induction r with
 |nil=>rfl
 |cons h t ih=>rw [e7,e7,ih,h.1]
theorem KV.repl {kvs:List (κ×V)}{vs:List (κ×af)} (r:KV kvs vs) (k:κ) {y:V}{u:af} (ry:cR y u) :
  KV (kvs.map fun kv=>if kv.1=k then (kv.1,y) else kv) (vs.map fun kv=>if kv.1=k then (kv.1,u) else kv):=by
 unfold KV at r ⊢
 induction r with
 |nil=>exact .nil
 | @cons p q ps qs h t ih =>
  rw [aB,aB]
  refine .cons ?_ ih
  obtain ⟨h1,h2⟩:=h
  by_cases e:p.1=k
  ·rw [if_pos e,if_pos (h1.symm.trans e)];exact ⟨h1,ry⟩
  ·rw [if_neg e,if_neg (fun z=>e (h1.trans z))];exact ⟨h1,h2⟩
theorem KV.put {kvs:List (κ×V)}{vs:List (κ×af)} (r:KV kvs vs) (k:κ) {y:V}{u:af} (ry:cR y u):KV (mw kvs k y) (stored vs k u):=by
 unfold mw stored
 rw [r.any k]
 by_cases e:(vs.any fun kv=>decide (kv.1=k))=true
 ·rw [if_pos e,if_pos e];exact r.repl k ry
 ·rw [if_neg e,if_neg e];exact Paired.snoc r ⟨rfl,ry⟩
theorem KV.length {kvs:List (κ×V)}{vs:List (κ×af)} (r:KV kvs vs):kvs.length=vs.length:=iT r
end
theorem Dy {P:aX}{w:bn}{k:eR}{u:af} (r:cR (kV k) u):(fM P w).is k u=true:=by
 cases k with
 |inl i=>obtain ⟨t,e⟩:=(show ∃ t,u=ki i t from r);subst e;exact Dn P w i t
 |inr x=>obtain ⟨t,e⟩:=(show ∃ t,u=jk x t from r);subst e;exact Do P w x t
theorem AO {P:aX}{w:bn}:∀ {ks:List eR}{us:List af},dH (ks.map kV) us->ItemsAre (fM P w) ks us
 |[],_,r=>by rw [dL] at r;cases r;exact .nil
 |k::ks,_,r=>by
  rw [aB] at r
  cases r with
  |cons h t=>exact .cons (Dy h) (AO t)
abbrev KT (H:Hp):List (List eR×V)->List (List eR×ak×af)->Prop:=FG fun p q=>p.1=q.1/\H q.2.1=some (.tup (p.1.map kV))/\cR p.2 q.2.2
theorem KT.val {H:Hp}{kvs:List (List eR×V)}{xs:List (List eR×ak×af)} (r:KT H kvs xs) (k:List eR):yf (nR kvs k) ((FO xs k).map (·.2)):=by
 induction r with
 |nil=>exact iE
 | @cons p q ps qs h t ih =>
  obtain ⟨h1,_,h2⟩:=h
  by_cases e:p.1=k
  ·have e':q.1=k:=h1.symm.trans e
   have b:FO (q::qs) k=some q.2:=by simp [FO,bP,e']
   rw [yj e,b];exact h2
  ·have e':¬ q.1=k:=fun z=>e (h1.trans z)
   have b:FO (q::qs) k=FO qs k:=by simp [FO,bP,e']
   rw [yk e,b];exact ih
theorem KT.repl {H:Hp}{kvs:List (List eR×V)}{xs:List (List eR×ak×af)} (r:KT H kvs xs) (k:List eR) {y:V}{u:af} (ry:cR y u) :
  KT H (kvs.map fun kv=>if kv.1=k then (kv.1,y) else kv) (xs.map (putAt k u)):=by
 induction r with
 |nil=>exact .nil
 | @cons p q ps qs h t ih =>
  rw [aB,aB]
  refine .cons ?_ ih
  obtain ⟨h1,h2,h3⟩:=h
  unfold putAt
  by_cases e:p.1=k
  ·rw [if_pos e,if_pos (h1.symm.trans e)];exact ⟨h1,h2,ry⟩
  ·rw [if_neg e,if_neg (fun z=>e (h1.trans z))];exact ⟨h1,h2,h3⟩
theorem KT.put {H:Hp}{kvs:List (List eR×V)}{xs:List (List eR×ak×af)} (r:KT H kvs xs) (k:List eR) {b:ak}{y:V}{u:af} (hb:H b=some (.tup (k.map kV))) (ry:cR y u) :
  KT H (mw kvs k y) (storedH xs k b u):=by
 have e:(kvs.any fun kv=>decide (kv.1=k))=(FO xs k).isSome:=by
  rw [Dx,(r.val k).isSome_eq,vD]
 unfold mw storedH
 rw [e]
 by_cases q:(FO xs k).isSome=true
 ·rw [if_pos q,if_pos q];exact r.repl k ry
 ·rw [if_neg q,if_neg q];exact Paired.snoc r ⟨rfl,hb,ry⟩
theorem KT.keeps {H H':Hp}{kvs:List (List eR×V)}{xs:List (List eR×ak×af)} (r:KT H kvs xs) (ht:∀ b ys,H b=some (.tup ys)->H' b=some (.tup ys)):KT H' kvs xs :=
 Paired.mapP r fun _ _ z=>⟨z.1,ht _ _ z.2.1,z.2.2⟩
section
variable {P:aX}{w:bn}{H:Hp}{h:bE}{a:ak}
theorem Rg {u:HO} (ok:qd P w H h) (e:Rd H a u):dw P w H h a u:=e.ok ok
theorem Dz {kvs:List (eR×V)} (ok:qd P w H h) (e:Rd H a (.dK kvs)):kvs.length<=sizeLine/\(a==fk)=false/\∃ vs,KV kvs vs/\h.DictOf (fM P w) a vs :=
 show dw P w H h a (.dK kvs) from Rg ok e
theorem UF {kvs:List (eR×V)} (ok:qd P w H h) (e:H a=some (.dK kvs)):kvs.length<=sizeLine/\(a==fk)=false/\∃ vs,KV kvs vs/\h.DictOf (fM P w) a vs:=Dz ok (.inl e)
theorem vT {ks:List eR} (ok:qd P w H h) (e:H a=some (.tup (ks.map kV))):(rV (fM P w)).is h ks a:=by
 obtain ⟨_,its,r,o,h1,h2,n,h3⟩:=(show dw P w H h a (.tup (ks.map kV)) from ok a _ e)
 exact ⟨o,its.toArray,n,h1,h2,h3,by simpa using AO r⟩
theorem DA {kvs:List (List eR×V)} (ok:qd P w H h) (e:Rd H a (.dT kvs)):kvs.length<=sizeLine/\(a==fk)=false /\
  ∃ xs,KT H kvs xs/\h.DictOfH (rV (fM P w)) a xs:=by
 obtain ⟨z,y,xs,r,o,es,ep,h1,h2,h3,h4,h5⟩:=(show dw P w H h a (.dT kvs) from Rg ok e)
 refine ⟨z,y,xs,r,o,es,ep,h1,h2,h3,h4,fun x hx=>?_,h5⟩
 have all:∀ {l:List (List eR×V)}{m:List (List eR×ak×af)},KT H l m->∀ x∈m,(rV (fM P w)).is h x.1 x.2.1:=by
  intro l m q
  induction q with
  |nil=>intro x hx;exact nomatch hx
  | @cons p q ps qs hq t ih =>
   intro x hx
   rcases List.mem_cons.mp hx with e|hx
   ·subst e
    exact vT ok (by rw [<- hq.1];exact hq.2.1)
   ·exact ih x hx
 exact all r x hx
theorem Rh {kvs:List (List eR×V)} (ok:qd P w H h) (e:H a=some (.dT kvs)):kvs.length<=sizeLine/\(a==fk)=false /\
  ∃ xs,KT H kvs xs/\h.DictOfH (rV (fM P w)) a xs:=DA ok (.inl e)
end
def xp (H:Hp) (a:ak) (y:V) (r:Option V):Prop :=
 (∃ kvs k,Rd H a (.dK kvs)/\y=kV k/\r=nR kvs k)\/∃ kvs k b,Rd H a (.dT kvs)/\y=.ref b/\H b=some (.tup (k.map kV))/\r=nR kvs k
def DB (H:Hp) (a:ak) (y v:V) (H':Hp):Prop :=
 (∃ kvs k,H a=some (.dK kvs)/\y=kV k/\kvs.length<sizeLine/\H'=upd H a (.dK (mw kvs k v))) \/
 ∃ kvs k b,H a=some (.dT kvs)/\y=.ref b/\H b=some (.tup (k.map kV))/\kvs.length<sizeLine/\H'=upd H a (.dT (mw kvs k v))
theorem xp.k {H:Hp}{a:ak}{kvs:List (eR×V)}{k:eR} (e:H a=some (.dK kvs)):xp H a (kV k) (nR kvs k):=.inl ⟨kvs,k,.inl e,rfl,rfl⟩
theorem xp.t {H:Hp}{a b:ak}{kvs:List (List eR×V)}{k:List eR} (e:H a=some (.dT kvs)) (eb:H b=some (.tup (k.map kV))):xp H a (.ref b) (nR kvs k):=.inr ⟨kvs,k,b,.inl e,rfl,eb,rfl⟩
theorem DB.k {H:Hp}{a:ak}{kvs:List (eR×V)}{k:eR}{v:V} (e:H a=some (.dK kvs)) (hl:kvs.length<sizeLine):DB H a (kV k) v (upd H a (.dK (mw kvs k v))):=.inl ⟨kvs,k,e,rfl,hl,rfl⟩
theorem DB.t {H:Hp}{a b:ak}{kvs:List (List eR×V)}{k:List eR}{v:V} (e:H a=some (.dT kvs)) (eb:H b=some (.tup (k.map kV))) (hl:kvs.length<sizeLine) :
  DB H a (.ref b) v (upd H a (.dT (mw kvs k v))):=.inr ⟨kvs,k,b,e,rfl,eb,hl,rfl⟩
section
variable {X:Cx}{pins:List (ak×Obj)}{σ:St}{H:Hp}{s:ai}{a:ak}{y v:V}{u r:af}{o:Option V}{A:bv}{E:af->ai->Prop}
theorem bB.big (I:bB X pins σ H s):fk<s.heap.objs.size:=by
 have h:bt<s.heap.objs.size:=(I.mod.glob.keeps I.bk).lt
 exact xh (by decide) h
theorem Jx {Q:af->ai->Prop} (hu:A.units+1<kL) (I:bB X pins σ H s) (g:xp H a y (some v)) (ry:cR y u) (h:∀ w' s',bB X pins σ H s'->cR v w'->Q w' s') :
  ar (aL X.prog X.w) A (qh (.ref a) u) Q E s:=by
 rcases g with ⟨kvs,k,e,ey,l⟩|⟨kvs,k,b,e,ey,eb,l⟩
 ·subst ey
  obtain ⟨z,hd,vs,rel,dd⟩:=Dz I.hok e
  obtain ⟨w',hw,rw'⟩:=yf.some_of (v:=v) (o:=zU vs k) (by rw [l];exact rel.val k)
  exact wpAny_getItem_of (Dy ry) dd.mapOf hw (h w' _ (I.tok _) rw')
 ·subst ey
  cases (show u=bK b from ry)
  obtain ⟨z,hd,xs,rel,dd⟩:=DA I.hok e
  obtain ⟨w',hw,rw'⟩:=yf.some_of (v:=v) (o:=(FO xs k).map (·.2)) (by rw [l];exact rel.val k)
  obtain ⟨p,hp,hp2⟩:=Option.map_eq_some_iff.mp hw
  refine wpAny_getItem_heap (oB hu) (vT I.hok eb) dd hp ?_
  rw [hp2]
  exact h w' _ (I.tok _) rw'
theorem d_in {Q:af->ai->Prop} (hu:A.units+1<kL) (I:bB X pins σ H s) (g:xp H a y o) (ry:cR y u) (h:∀ s',bB X pins σ H s'->Q (.bool o.isSome) s') :
  ar (aL X.prog X.w) A (bO .In u (.ref a)) Q E s:=by
 rcases g with ⟨kvs,k,e,ey,l⟩|⟨kvs,k,b,e,ey,eb,l⟩
 ·subst ey
  obtain ⟨z,hd,vs,rel,dd⟩:=Dz I.hok e
  refine wpAny_in_of (Dy ry) hd dd.mapOf ?_
  rw [<- (rel.val k).isSome_eq,<- l]
  exact h _ (I.tok _)
 ·subst ey
  cases (show u=bK b from ry)
  obtain ⟨z,hd,xs,rel,dd⟩:=DA I.hok e
  refine wpAny_in_heap (oB hu) (vT I.hok eb) hd dd ?_
  have q:=(rel.val k).isSome_eq
  rw [vD] at q
  rw [<- q,<- l]
  exact h _ (I.tok _)
theorem Pr {Q:af->ai->Prop} (hu:A.units+1<kL) (I:bB X pins σ H s) (g:xp H a y o) (ry:cR y u) (h:∀ s',bB X pins σ H s'->Q (.bool (!o.isSome)) s') :
  ar (aL X.prog X.w) A (bO .NotIn u (.ref a)) Q E s:=by
 rcases g with ⟨kvs,k,e,ey,l⟩|⟨kvs,k,b,e,ey,eb,l⟩
 ·subst ey
  obtain ⟨z,hd,vs,rel,dd⟩:=Dz I.hok e
  refine wpAny_notIn_of (Dy ry) hd dd.mapOf ?_
  rw [<- (rel.val k).isSome_eq,<- l]
  exact h _ (I.tok _)
 ·subst ey
  cases (show u=bK b from ry)
  obtain ⟨z,hd,xs,rel,dd⟩:=DA I.hok e
  refine wpAny_notIn_heap (oB hu) (vT I.hok eb) hd dd ?_
  have q:=(rel.val k).isSome_eq
  rw [vD] at q
  rw [<- q,<- l]
  exact h _ (I.tok _)
theorem BU {h':bE}{t':Nat}{ob:HO} (I:bB X pins σ H s) (mu:Ud (H a)) (hs:bH a s.heap h') (he:∃ q,h'.get? a=some q) (new:dw X.prog X.w (upd H a ob) h' a ob) :
  bB X pins σ (upd H a ob) { s with heap:=h',toks:=t' } :=
 I.write (x:=a) (e:=a) mu (.inl rfl) (fun b q hb z=>(hs.2 b hb).trans z) he new
theorem SY {P:aX}{w:bn}{H':Hp}{h':bE}{kvs:List (eR×V)}{vs:List (eR×af)} (z:kvs.length<=sizeLine) (hd:(a==fk)=false) (rel:KV kvs vs) (dd:h'.DictOf (fM P w) a vs) :
  dw P w H' h' a (.dK kvs):=⟨z,hd,vs,rel,dd⟩
theorem Jy {H':Hp}{Q:Unit->ai->Prop} (hu:A.units+1<kL) (I:bB X pins σ H s) (g:DB H a y v H') (ry:cR y u) (rv:cR v r) (h:∀ s',bB X pins σ H' s'->Q () s') :
  ar (aL X.prog X.w) A (setItem (.ref a) u r) Q E s:=by
 rcases g with ⟨kvs,k,e,ey,l,eH⟩|⟨kvs,k,b,e,ey,eb,l,eH⟩
 ·subst ey eH
  obtain ⟨z,hd,vs,rel,dd⟩:=UF I.hok e
  have hz:vs.length<=sizeLine:=by rw [<- rel.length];exact z
  have hl:(mw kvs k v).length<=sizeLine:=by have:=qw kvs k v;omega
  refine wpAny_setItem_pairs (hsz:=hz) (Dy ry) dd fun h' dd' hs=>h _ ?_
  have he:∃ q,h'.get? a=some q:=let ⟨q,_,_,hq,_⟩:=dd';⟨q,hq⟩
  exact BU I (by rw [e];exact iE) hs he (SY hl hd (rel.put k rv) dd')
 ·subst ey eH
  cases (show u=bK b from ry)
  obtain ⟨z,hd,xs,rel,dd⟩:=Rh I.hok e
  have hz:xs.length<=sizeLine:=by rw [<- iT rel];exact z
  have hl:(mw kvs k v).length<=sizeLine:=by have:=qw kvs k v;omega
  refine wpAny_setItem_heap (hsz:=hz) (oB hu) (vT I.hok eb) dd fun h' dd' hs=>h _ ?_
  obtain ⟨q,es,ep,hq,h2,h3,h4,_,h5⟩:=dd'
  refine BU I (by rw [e];exact iE) hs ⟨q,hq⟩ ⟨hl,hd,_,(rel.put k eb rv).keeps fun c ys ec=>?_,q,es,ep,hq,h2,h3,h4,h5⟩
  rw [a_ (Lk ec e (fun z=>nomatch z))]
  exact ec
end
section
variable {X:Cx}{pins:List (ak×Obj)}{σ:St}{H:Hp}{s:ai}{a:ak}{kvs:List (eR×V)}{k:eR}{u:af}{A:bv}{E:af->ai->Prop}
end
def UG (i:bd):Prop:=∀ ov iv,Dc i false ov iv=operate [ov,iv] (qh ov iv)
theorem Ps {prog:aX}{w:bn}{A:bv}{E:af->ai->Prop}{s:ai}{env:Env}{value slice:bd}{pos:Pos}{T id:String}{Q:af->ai->Prop}
  (hl:typeLookup (.type T) "__getitem__"=pure (some (.builtin id))) (hs:UG slice)
  (h:ar (aL prog w) A (ed value env) (fun o s₁=>ar (aL prog w) A (ed slice env) (fun i s₂=>s₂.TypeIs o T/\ar (aL prog w) A (qh o i) Q E s₂) E s₁) E s) :
  ar (aL prog w) A (ed (.Subscript value slice pos) env) Q E s:=by
 refine Subscript_ (ck h (fun o s₁ h₁=>ck h₁ (fun i s₂ h₂=>?_) fun _ _ x=>x) fun _ _ x=>x)
 obtain ⟨hT,h₂⟩:=h₂
 unfold Ja
 refine a7 ?_
 rw [getitemInPython_of_ne hT.not_modules]
 refine a7 (wpAny_specialOf hT hl ?_)
 have fin:ar (aL prog w) A (Dc slice false o i) (fun r s₃=>ar (aL prog w) A (letTemporaryGo value o r >>= fun _=>pure r) Q E s₃) E s₂:=by
  rw [hs o i]
  exact wpAny_operating (ck h₂ (fun r s₃ h₃=>a7 (wpAny_letTemporaryGo (aa h₃))) fun _ _ x=>x)
 first
  |exact aa (a7 fin)
  |exact a7 (aa (a7 fin))
  |exact a7 fin
theorem DC {X:Cx}{pins:List (ak×Obj)}{σ:St}{H:Hp}{s:ai}{a:ak}{y:V}{o:Option V} (I:bB X pins σ H s) (g:xp H a y o):s.TypeIs (.ref a) "dict":=by
 rcases g with ⟨kvs,k,e,_,_⟩|⟨kvs,k,b,e,_,_,_⟩
 ·obtain ⟨_,_,vs,_,dd⟩:=Dz I.hok e
  exact dd.typeIs
 ·obtain ⟨_,_,xs,_,dd⟩:=DA I.hok e
  exact dd.typeIs
def UH (td ty:TE):TE:=fun σ H Q=>td σ H fun x H1=>ty σ H1 fun y H2=>∃ a v,x=.ref a/\xp H2 a y (some v)/\Q v H2
def Ri (td ty tv:TE):TS:=fun D σ H=>tv σ H fun v H1=>td σ H1 fun x H2=>ty σ H2 fun y H3=>∃ a H4,x=.ref a/\DB H3 a y v H4/\D.nx σ H4
section
variable {X:Cx}{o i e value:bd}{pos pos' tpos:Pos}{td ty tv:TE}
theorem HH (hu:X.A.units+1<kL) (ho:PE X o td) (hi:PE X i ty) (hs:UG i):PE X (.Subscript o i pos) (UH td ty):=by
 intro pins s σ H Q I h
 refine Ps PySem.F.slot_dict_getitem.lookup hs (fG (ho pins s σ H _ I h) fun u s1 ⟨x,H1,I1,rx,q1⟩=>fG (hi pins s1 σ H1 _ I1 q1) fun iv s2 ⟨y,H2,I2,ry,a,v,ex,g,q2⟩=>?_)
 subst ex
 obtain rfl:u=bK a:=rx
 exact ⟨DC I2 g,Jx hu I2 g ry fun w' s3 I3 rw'=>⟨v,H2,I3,rw',q2⟩⟩
theorem HI (hu:X.A.units+1<kL) (ho:PE X o td) (hi:PE X i ty) (hv:PE X value tv) (hs:gX value (some (.Subscript o i pos')) pos.line X.env=pure false) :
  PS X (.Assign [.Subscript o i pos'] value pos) (Ri td ty tv):=by
 intro pins s σ H D I h
 refine wpAny_Assign_Subscript (fG (hv pins s σ H _ I h) fun r s1 ⟨v,H1,I1,rv,q1⟩=>fG (ho pins s1 σ H1 _ I1 q1) fun u s2 ⟨x,H2,I2,rx,q2⟩=>fG (hi pins s2 σ H2 _ I2 q2) fun iv s3 ⟨y,H3,I3,ry,a,H4,ex,g,q3⟩=>?_) hs
 subst ex
 obtain rfl:u=bK a:=rx
 exact Jy hu I3 g ry rv fun s4 I4=>⟨σ,H4,I4,q3⟩
end
theorem LI {P:aX}{w:bn}{H:Hp} (h:bE) (hb:fk<h.objs.size):dw P w H (h.push { cls:=.type "dict",data:=.dict #[] }) h.objs.size (.dK []) :=
 ⟨cV _,beq_eq_false_iff_ne.mpr (c9 (aD hb)),[],.nil,Heap.DictOf.new h⟩
theorem LJ {P:aX}{w:bn}{H:Hp} (h:bE) (hb:fk<h.objs.size):dw P w H (h.push { cls:=.type "dict",data:=.dict #[] }) h.objs.size (.dT []) :=
 ⟨cV _,beq_eq_false_iff_ne.mpr (c9 (aD hb)),[],.nil,_,#[],0,ax _ rfl,⟨rfl,rfl,rfl⟩,rfl,rfl,gC⟩
def SZ:TE:=fun _ H Q=>∀ p,H p=none->Q (.ref p) (upd H p (.dK []))
section
variable {X:Cx}{pos:Pos}
theorem LK:PE X (.Dict [] [] pos) SZ:=fun pins s σ H Q I h =>
 wpAny_Dict_empty ⟨.ref s.heap.objs.size,_,I.laid (a:=s.heap.objs.size) (o:=.dK []) (t':=s.toks) (fun _ _ q=>ag _ q) (au _) (LI s.heap I.big),rfl,h _ (I.hok.fresh (au _))⟩
end
section
variable {X:Cx}{pins:List (ak×Obj)}{σ:St}{H:Hp}{s:ai}{a:ak}{y d:V}{u r:af}{o:Option V}{A:bv}{E:af->ai->Prop}
end
section
variable {X:Cx}{o e f:bd}{apos cpos:Pos}{td ty tx:TE}
end
section
variable {X:Cx}{pins:List (ak×Obj)}{σ:St}{H:Hp}{s:ai}{a:ak}{kvs:List (eR×V)}{A:bv}{E:af->ai->Prop}
end
section
variable {X:Cx}{pins:List (ak×Obj)}{σ:St}{H:Hp}{s:ai}{a:ak}{y:V}{u:af}{A:bv}{E:af->ai->Prop}
end
end L2
namespace L2
open PySem PySem.Spec PyProof.Rows
section
variable {X:Cx}
end
section
variable {κ:Type} [DecidableEq κ]
theorem xJ:∀ {l:List κ}{k:κ},l.Nodup->¬ k∈l->(l++[k]).Nodup
 |[],k,_,_=>by simp
 |a::r,k,h,hk=>by
  obtain ⟨h1,h2⟩:=List.nodup_cons.mp h
  show (a::(r++[k])).Nodup
  refine List.nodup_cons.mpr ⟨fun m=>?_,xJ h2 fun m=>hk (List.mem_cons.mpr (fB m))⟩
  rcases List.mem_append.mp m with q|q
  ·exact h1 q
  ·exact hk (List.mem_cons.mpr (iI (List.mem_singleton.mp q).symm))
end
end L2
end
namespace L2
open PySem PySem.Spec PyProof.Rows
section
section
end
theorem Ge (names : List (Str × kM)) : ∀ (cs : List (Str × ak)), (∀ y ∈ names, y.2 = .free -> ∃ c, env.cells.lookup y.1 = some c) ->
    (∀ x c, cs.lookup x = some c -> env.cells.lookup x = some c) ->
    ∃ cl, (forIn names cs fun (x : Str × kM) (cs : List (Str × ak)) => match x with
        | (name, kind) => if (kind == cf) = true then do let a <- cellOf env name; pure (iJ ((name, a) :: cs)) else pure (iJ cs) : Sem (List (Str × ak))) = pure cl /\
      (∀ x c, cl.lookup x = some c -> env.cells.lookup x = some c) /\ (∀ y ∈ names, y.2 = .free -> ∃ c, cl.lookup y.1 = some c) /\ (∀ x c, cs.lookup x = some c -> ∃ c', cl.lookup x = some c') := by
  induction names with
  | nil => intro cs _ h2; exact ⟨cs, rfl, h2, fun _ h => absurd h (by simp), fun x c h => ⟨c, h⟩⟩
  | cons nk r ih =>
    obtain ⟨n, k⟩ := nk;intro cs h1 h2;by_cases hk : k = .free
    · subst hk;obtain ⟨a, ha⟩ := h1 (n, .free) ah rfl;have h2' : ∀ x c, ((n, a) :: cs).lookup x = some c -> env.cells.lookup x = some c := fun x c h => by
        rw [cC] at h;cases e : x == n with
        | true => rw [e] at h; have : x = n := by simpa using e
                  subst this; cases h; exact ha
        | false => rw [e] at h; exact h2 x c h
      obtain ⟨cl, e1, e2, e3, e4⟩ := ih ((n, a) :: cs) (fun y hy => h1 y (a9 _ hy)) h2';refine ⟨cl, ?_, e2, fun y hy hf => ?_, fun x c h => ?_⟩
      · rw [jg];have hc : cellOf env n = pure a := by unfold cellOf; rw [ha]
        simp only [beq_self_eq_true, if_true, hc];exact e1
      · rcases List.mem_cons.mp hy with rfl | hy
        · exact e4 n a (by simp)
        · exact e3 y hy hf
      · cases e : x == n with
        | true => exact e4 x a (by rw [cC, e])
        | false => exact e4 x c (by rw [cC, e]; exact h)
    · obtain ⟨cl, e1, e2, e3, e4⟩ := ih cs (fun y hy => h1 y (a9 _ hy)) h2;refine ⟨cl, ?_, e2, fun y hy hf => ?_, e4⟩
      · rw [jg];have hk' : (k == cf) = false := by simpa using hk
        simp only [hk', bU, if_false];exact e1
      · rcases List.mem_cons.mp hy with rfl | hy
        · exact absurd hf hk
        · exact e3 y hy hf
theorem oE  (h:∀ y∈scope.names,y.2=.free->∃ c,env.cells.lookup y.1=some c):∃ cl,closureFor scope env=pure cl /\
  (∀ x c,cl.lookup x=some c->env.cells.lookup x=some c)/\(∀ y∈scope.names,y.2=.free->∃ c,cl.lookup y.1=some c):=by
 obtain ⟨cl,e1,e2,e3,_⟩:=Ge (env:=env) scope.names [] h (fun x c h=>by simp at h);refine ⟨cl,?_,e2,e3⟩;simp only [closureFor];rw [show (forIn scope.names ([] : List (Str×ak)) fun x r=>_)=(pure cl:Sem (List (Str×ak))) from e1];rfl
end
section
def dS (X:Cx) (N':List Str) (scope:dz) (cl:List (Str×ak)) (C:ak) (s₀:ai) (H₀:Hp) (ex:List ak) (pn:List (ak×Obj)):Cx :=
 { X with N:=N',s₀:=s₀,H₀:=H₀,env:=compEnvC scope cl C X.env,outer:=X.stack,stack:=X.stack,ex:=ex,fn:=fun y=>scope.names.lookup y==some .cell,pn:=pn,xe:=fun _ _=>False }
def Pt (X:Cx) (ifs:List bd) (t:TT):Prop :=
 ∀ (pins:List (ak×Obj)) (s:ai) (σ:St) (H:Hp) (Q:Bool->Hp->Prop),bB X pins σ H s->t σ H Q ->
  ar (aL X.prog X.w) X.A (forIn ifs true fun c r=>if r=true then do let ok <- xV c X.env (ed c X.env);pure (iJ ok) else pure (iJ r)) (TP X pins σ Q) X.xe s
def WS:TT:=fun _ H Q=>Q true H
theorem Pu:Pt X [] WS:=fun pins s σ H Q I h=>wpAny_tests_nil ⟨H,I,h⟩
theorem Pw   (h:PT X c t):Pt X [c] t:=fun pins s σ H Q I hw=>wpAny_tests_one (h pins s σ H Q I hw)
structure oF (X:Cx) (scope:dz) (N':List Str) (nt:Nat) (ix:List Nat):Prop where
 kind:scope.kind=.function
 cel:∀ y∈scope.names,y.2=.cell->scope.names.lookup y.1=some .cell
 loc:∀ y∈scope.names,y.2=.local->scope.names.lookup y.1=some .local
 free:∀ y∈scope.names,y.2=.free->X.env.scope.names.lookup y.1=some .cell\/X.env.scope.names.lookup y.1=some .free
 cap:∀ k i,ix[k]?=some i->∃ x,X.N[i]?=some x/\N'[nt+k]?=some x/\scope.names.lookup x=some .free
 len:N'.length=nt+ix.length
def kW (nt:Nat) (ix:List Nat) (σ:St):St:=sv nt none++ix.map fun i=>(σ[i]?).join
theorem sg {env:Env}{x:Str}{names:List (Str×kM)}:names.lookup x=some .free ->
  (names.map fun (n,k)=>if (k==cf&&env.scope.kind == .function&&env.kindOf n==some .cell) then (n,dW) else (n,k)).lookup x=some .free \/
  (names.map fun (n,k)=>if (k==cf&&env.scope.kind == .function&&env.kindOf n==some .cell) then (n,dW) else (n,k)).lookup x=some .cell:=by
 induction names with
 |nil=>intro h;simp at h
 |cons nk r ih =>
  obtain ⟨n,k⟩:=nk;intro h;show x_ x ((if (k==cf&&env.scope.kind == .function&&env.kindOf n==some .cell)=true then (n,dW) else (n,k))::_)=_ \/
   x_ x ((if (k==cf&&env.scope.kind == .function&&env.kindOf n==some .cell)=true then (n,dW) else (n,k))::_)=_
  cases hx:x==n with
  |true =>
   simp only [cC,hx] at h;cases h;by_cases hc:(cf==cf&&env.scope.kind == .function&&env.kindOf n==some .cell)=true
   ·rw [if_pos hc];right;simp [cC,hx]
   ·rw [if_neg hc];left;simp [cC,hx]
  |false =>
   simp only [cC,hx] at h;by_cases hc:(k==cf&&env.scope.kind == .function&&env.kindOf n==some .cell)=true
   ·rw [if_pos hc];simp only [cC,hx];exact ih h
   ·rw [if_neg hc];simp only [cC,hx];exact ih h
theorem uG {env:Env}{x:Str}{names:List (Str×kM)} :
  ((names.map fun (n,k)=>if (k==cf&&env.scope.kind == .function&&env.kindOf n==some .cell) then (n,dW) else (n,k)).lookup x=some .free \/
  (names.map fun (n,k)=>if (k==cf&&env.scope.kind == .function&&env.kindOf n==some .cell) then (n,dW) else (n,k)).lookup x=some .cell) ->
  (x,cf)∈names\/(x,dW)∈names:=by
 induction names with
 |nil=>intro h;simp at h
 |cons nk r ih =>
  obtain ⟨n,k⟩:=nk;intro h;have h:x_ x ((if (k==cf&&env.scope.kind == .function&&env.kindOf n==some .cell)=true then (n,dW) else (n,k))::_)=_ \/
   x_ x ((if (k==cf&&env.scope.kind == .function&&env.kindOf n==some .cell)=true then (n,dW) else (n,k))::_)=_:=h
  cases hx:x==n with
  |true =>
   have e:x=n:=by simpa using hx
   subst e;by_cases hc:(k==cf&&env.scope.kind == .function&&env.kindOf x==some .cell)=true
   ·have:k=.free:=by simp at hc;exact hc.1.1
    subst this;left;exact ah
   ·rw [if_neg hc] at h;simp only [cC,hx] at h;rcases h with h|h
    ·cases h;left;exact ah
    ·cases h;right;exact ah
  |false =>
   have h':=ih (by
    by_cases hc:(k==cf&&env.scope.kind == .function&&env.kindOf n==some .cell)=true
    ·rw [if_pos hc] at h;simp only [cC,hx] at h;exact h
    ·rw [if_neg hc] at h;simp only [cC,hx] at h;exact h)
   rcases h' with h' | h'
   ·left;exact a9 _ h'
   ·right;exact a9 _ h'
inductive Rj (nt:Nat) (ix:List Nat) (g:TG) (tt:TT) (te:TE) (σ:St) (Q:VK) (J:It) (H1:Hp):Prop
 |mk (W:Nat->Nat->List V->Hp->Prop) (w0:∃ m,W 0 m [] H1) (turn:∀ i m acc H,W i m acc H ->
 (J.stop i H/\∀ p,H p=none->Q (.ref p) (upd H p (.lst acc))) \/
 (J.go i H/\acc.length<sizeLine/\∀ x H',J.yld i H x H'->g x (kW nt ix σ) H' fun σ2 H2=>tt σ2 H2 fun b H3 =>
  if b=true then te σ2 H3 fun y H4=>∃ m',m'<m/\W (i+1) m' (acc++[y]) H4 else ∃ m',m'<m/\W (i+1) m' acc H3)):Rj nt ix g tt te σ Q J H1
def LL (nt:Nat) (ix:List Nat) (wi:TI) (g:TG) (tt:TT) (te:TE):TE:=fun σ H Q=>wi σ H (Rj nt ix g tt te σ Q)
theorem iO:∀ (names:List (Str×kM)) (n:Nat) (acc:List (Str×ak)),bV n names acc=bV n names []++acc
 |[],_,_=>rfl
 |(y,k)::r,n,acc=>by
  unfold bV;split
  ·rw [iO r (n+1) ((y,n)::acc),iO r (n+1) [(y,n)],nO];rfl
  ·exact iO r n acc
theorem nj  : ∀ (names:List (Str×kM)) (n:Nat) (acc:List (Str×ak)),(x,c)∈bV n names acc->(x,dW)∈names\/(x,c)∈acc
 |[],_,_,h=>.inr h
 |(y,k)::r,n,acc,h=>by
  unfold bV at h;split at h
  ·rename_i hk
   have hk:k=.cell:=by simpa using hk
   rcases nj r _ _ h with z|z
   ·exact .inl (a9 _ z)
   ·rcases List.mem_cons.mp z with z|z
    ·cases z;subst hk;exact .inl ah
    ·exact .inr z
  ·exact (nj r _ _ h).imp (a9 _) id
theorem lP     (h:(bV n names cl).lookup x=some c) :
  (x,c)∈bV n names []\/((bV n names []).lookup x=none/\cl.lookup x=some c):=by
 rw [iO,KP] at h;cases e:(bV n names []).lookup x with
 |some d=>rw [e] at h;cases h;exact .inl (bW e)
 |none=>rw [e] at h;exact .inr ⟨rfl,h⟩
theorem Px {M:KH}{A:bv}{E:af->ai->Prop}{s:ai}{scope:dz}{globals:ak}{cl:List (Str×ak)}{qual:Str}{func:Option ak}{code:af}{outer:Env}{builtins:ak}{Q:Env->ai->Prop}
  (hQ:∀ h₁,h₁=pushCells (s.heap.push { cls:=.type "dict",data:=.dict #[] }) scope.names->Q (newEnv scope s.heap.objs.size globals (bV (s.heap.objs.size+1) scope.names cl) qual func code (some outer) builtins) { s with heap:=h₁ }) :
  ar M A (FP scope globals cl [] qual func code (some outer) builtins) Q E s:=by
 simp only [FP,Hy,if_true];refine a7 (OG ?_);refine a7 (wpAny_layCells _ (fun name kind cells=>by cases hkc:kind==dW<;>simp [hkc]) _ _ _ _ ?_);rw [show ({ s with heap:=s.heap.push { cls:=.type "dict",data:=.dict #[] } }:ai).heap.objs.size=s.heap.objs.size+1 from cg ..];refine a7 ?_;rw [mD];exact aa (aa (hQ _ rfl))
theorem Jz (h:bE) (names:List (Str×kM)):CellsOk (pushCells (h.push { cls:=.type "dict",data:=.dict #[] }) names) (h.objs.size+1) (bV (h.objs.size+1) names []):=by
 have ok:=cellsFrom_ok names (h.push { cls:=.type "dict",data:=.dict #[] }) (h.objs.size+1) [] ⟨fun _ _ hm=>(nomatch hm),AB⟩ (by rw [cg];exact au _);rw [cg] at ok;exact ok
section
theorem LM {scope:dz}{N':List Str}{nt:Nat}{ix:List Nat}{cl:List (Str×ak)}{C:ak}{fp:List ak}{h₁:bE}{t':Nat}{m:Str->Option af}
  (S:oF X scope N' nt ix) (I:bB X pins σ H s) (c1:∀ x c,cl.lookup x=some c->X.env.cells.lookup x=some c) (c2:∀ y∈scope.names,y.2=.free->∃ c,cl.lookup y.1=some c)
  (hf:∀ b∈fp,se X pins H b) (ff:∀ b∈fp,b<s.heap.objs.size) (hC:s.heap.objs.size<=C) (hns:h₁.Ns C m) (old:∀ b o,s.heap.get? b=some o->h₁.get? b=some o) (ok:CellsOk h₁ (C+1) (bV (C+1) scope.names [])) :
  bB (dS X N' scope (bV (C+1) scope.names cl) C s H fp (X.pn++pins)) [] (kW nt ix σ) H { s with heap:=h₁,toks:=t' }:=by
 have cellOld:∀ {c v},s.heap.IsCell c v->h₁.IsCell c v:=fun {c v} ⟨o,ho,hd⟩=>⟨o,old _ _ ho,hd⟩;have up:∀ {x c},(x,c)∈bV (C+1) scope.names []->s.heap.objs.size<c:=fun {x c} h=>aI (oj hC) (ok.empty x c h).2;have low:∀ {x c},cl.lookup x=some c->c<s.heap.objs.size:=fun {x c} h=>by
  obtain ⟨v,q⟩:=I.cell x c (c1 x c h);exact q.lt
 refine ⟨⟨I.ok.mod,S.kind,I.ok.glob,I.ok.blt,hC,fun x y c h1 h2=>?_,fun x hx=>?_,fun x c h h2=>?_,I.ok.hd,I.ok.frames,.inl rfl,fun b hb=>⟨?_,fun x c h=>?_⟩,I.bs,cy I.ok.bsz I.sz,fun b o h hb=>?_,fun b hb z=>?_,I.stack,I.stkFree,I.ok.tb.more I.base.tbls⟩,
  rfl,I.bare,Un.kept old,⟨m,hns,fun i x v h1 h2 h3=>?_⟩,fun x c h=>?_,I.hok.fresh hC,fun x c h=>?_,fun p hp=>?_,I.hok.kept old,?_⟩
 ·rcases lP h1 with a|⟨_,a⟩<;>rcases lP h2 with b|⟨_,b⟩
  ·exact name_of_addr ok.apart a b
  ·exact absurd (up a) (FQ (low b))
  ·exact absurd (up b) (FQ (low a))
  ·exact I.ok.inj x y c (c1 x c a) (c1 y c b)
 ·have hx':(x,cf)∈scope.names\/(x,dW)∈scope.names:=uG (env:=X.env) (hx.elim .inr .inl);have hs:((bV (C+1) scope.names cl).lookup x).isSome=true:=by
   rcases hx' with z|z
   ·obtain ⟨c,e⟩:=c2 _ z rfl;exact gH _ _ _ (.inr (by rw [e];rfl))
   ·exact gH _ _ _ (.inl (S.cel _ z rfl))
  exact Option.isSome_iff_exists.mp hs
 ·rcases lP h2 with a|⟨a,_⟩
  ·exact cz (up a)
  ·have:=gH (x:=x) scope.names (C+1) [] (.inl (by simpa [dS] using h));rw [a] at this;cases this
 ·exact aD (aI (ff b hb) hC)
 ·rcases lP h with a|⟨_,a⟩
  ·exact fm (xh (ff b hb) (up a))
  ·exact (hf b hb).f4 x c (c1 x c a)
 ·rcases (hf b hb).f3 with z|z
  ·exact I.ok.noex b o h z
  ·exact absurd (aI (aq h) (cy I.ok.bsz z)) (cQ _)
 ·rcases List.mem_cons.mp (I.stkSub b z) with e|e
  ·exact (hf b hb).f1 e
  ·exact (hf b hb).f2 e
 ·have hnt:nt<=i:=by
   refine OF fun hlt=>?_;have h2':(kW nt ix σ)[i]?=some (some v):=h2;unfold kW at h2';rw [bj (by simpa using hlt),cB,if_pos hlt] at h2';cases h2'
  have h2':(kW nt ix σ)[i]?=some (some v):=h2;unfold kW at h2';rw [bc (by simpa using hnt),cU,aW] at h2';cases e:ix[i-nt]? with
  |none=>rw [e] at h2';cases h2'
  |some j =>
   rw [e] at h2';have hj:σ[j]?=some (some v):=by
    have q:(σ[j]?).join=some v:=bu h2';cases e3:σ[j]? with
    |none=>rw [e3] at q;cases q
    |some o=>rw [e3] at q;cases o with
     |none=>cases q
     |some v'=>cases q;rfl
   obtain ⟨x',n1,n2,fr⟩:=S.cap _ _ e;rw [Nat.add_sub_cancel' hnt] at n2;have h1':N'[i]?=some x:=h1;rw [h1'] at n2;cases n2;obtain ⟨mm,hn,hl⟩:=I.loc;have hfree:=S.free (x,.free) (bW fr) rfl;obtain ⟨u,r,l⟩:=hl j x v n1 hj (hfree.elim (fun z=>.inr (.inl z)) fun z=>.inr (.inr z));refine ⟨u,r,?_⟩;rcases l with ⟨k,_⟩|⟨k,c,hc,hcell⟩
   ·have k:X.env.scope.names.lookup x=some .local:=k;rcases hfree with z|z<;>(rw [z] at k;cases k)
   ·obtain ⟨c',hc'⟩:=c2 _ (bW fr) rfl;have:=c1 x c' hc';rw [hc] at this;cases this;have hno:(bV (C+1) scope.names []).lookup x=none:=by
     cases e:(bV (C+1) scope.names []).lookup x with
     |none=>rfl
     |some d =>
      rcases nj _ _ _ (bW e) with z|z
      ·have q:=S.cel _ z rfl;rw [fr] at q;cases q
      ·cases z
    refine .inr ⟨?_,c,by show (bV (C+1) scope.names cl).lookup x=some c;rw [iO,KP,hno];exact hc',cellOld hcell⟩;rcases sg (env:=X.env) fr with z|z
    ·exact .inr z
    ·exact .inl z
 ·rcases lP h with a|⟨_,a⟩
  ·exact ⟨none,(ok.empty x c a).1⟩
  ·obtain ⟨v,q⟩:=I.cell x c (c1 x c a);exact ⟨v,cellOld q⟩
 ·rcases lP h with a|⟨_,a⟩
  ·exact I.hok.fresh (cz (up a))
  ·exact I.freeC x c (c1 x c a)
 ·have hp:p∈X.pn++pins:=(List.mem_append.mp hp).elim id fun z=>absurd z (by simp);obtain ⟨e,n,ne,nf,d⟩:=I.pin p hp;refine ⟨old _ _ e,n,aD (aI (aq e) hC),fun z=>?_,d⟩;rcases List.mem_cons.mp (I.stkSub p.1 z) with e|e
  ·exact ne e
  ·exact nf e
 ·show (kW nt ix σ).length=N'.length;rw [S.len];simp [kW]
end
end
section
theorem Un.grow   (u:Un fs ex H H1 h h1)  (sb:bH C h1 h2) (hC:h.objs.size<=C) (hD:h.objs.size<=D) (hn:H1 D=none):Un fs ex H (upd H1 D o) h h2 where
 keep:=fun b ob q n hb hx=>(sb.2 b (aD (aI (aq q) hC))).trans (u.keep b ob q n hb hx)
 slot:=fun b ob q n hb hx=>by
  obtain ⟨sl,e⟩:=u.slot b ob q n hb hx;exact ⟨sl,(sb.2 b (aD (aI (aq q) hC))).trans e⟩
 free:=fun b ob q n hx=>by rw [a_ (aD (aI (aq q) hD))];exact u.free b ob q n hx
 there:=fun b ob q hx=>by
  obtain ⟨o',e⟩:=u.there b ob q hx;exact ⟨o',(sb.2 b (aD (aI (aq q) hC))).trans e⟩
 tups:=fun b xs q=>by have z:=u.tups b xs q;rw [a_ (bp z hn)];exact z
 frzs:=fun b ob xs q=>by have z:=u.frzs b ob xs q;rw [a_ (bp z hn)];exact z
 tbls:=fun b ps q=>by
  obtain ⟨m,z⟩:=u.tbls b ps q;exact ⟨m,by rw [a_ (bp z hn)];exact z⟩
theorem LN     (k:qd P w H h) (hC:H C=none) (sb:bH C h h'):qd P w H h':=fun b ob e=>by
 refine (k b ob e).stay (fun c w' hc q=>(sb.2 c ?_).trans q) (fun _ q=>q) (fun _ _ q=>q) fun _ _ _ q=>q;rintro rfl;rcases hc with rfl|hc
 ·rw [hC] at e;cases e
 ·rw [hC] at hc;cases hc
theorem AQ      (k:qd P w H h) (hD:H D=none) (new:dw P w (upd H D o) h D o):qd P w (upd H D o) h:=fun b ob e=>by
 by_cases hb:b=D
 ·subst hb;rw [ba] at e;cases e;exact new
 ·rw [a_ hb] at e;exact (k b ob e).stay (fun c w' hc q=>q) (fun c q=>by rw [a_ (bp q hD)];exact q) (fun c x q=>by rw [a_ (bp q hD)];exact q) fun c ob xs q=>by rw [a_ (bp q hD)];exact q
theorem nf {M:KH}{A:bv}{α:Type}{t:Sem α}{Q:α->ai->Prop}{E':af->ai->Prop}{s:ai} (h:ar M A t Q (fun _ _=>False) s):ar M A t Q E' s :=
 ck h (fun _ _ q=>q) fun _ _ f=>f.elim
theorem bB.pin1      (I:bB X [] σ H s) (e:s.heap.get? D=some o) (n:H D=none) (ne:D≠X.env.locals) (nf:D∉X.fs) (d:∀ v,o.data≠.cell v):bB X [(D,o)] σ H s :=
 I.pins_of fun p hp=>by
  have:p=(D,o):=by simpa using hp
  subst this;exact ⟨e,n,ne,nf,d⟩
def S_ (nt:Nat) (g:TG):Prop:=∀ x σ0 H (Q:St->Hp->Prop),g x σ0 H Q->g x σ0 H (fun σ2 H2=>Q σ2 H2/\σ2.length=σ0.length/\∀ j,nt<=j->σ2[j]?=σ0[j]?)
theorem LO (h:i<nt):S_ nt (wJ i):=fun x σ0 H Q q=>⟨q,by simp,fun j hj=>am (by omega)⟩
theorem Py {nt i k n:Nat}{K:a8} (h:i<nt) (h':k<nt):S_ nt (Sv K n (ac (wJ i) (ac (wJ k) aG))):=by
 rintro x σ0 H Q ⟨a,xs,rfl,sq,hl,v,r,rfl,v',r',rfl,rfl,q⟩;exact ⟨a,_,rfl,sq,hl,v,_,rfl,v',_,rfl,rfl,q,by simp,fun j hj=>by rw [am (by omega),am (by omega)]⟩
theorem bB.swap {X:Cx}{pl:List (ak×Obj)}{σ:St}{H:Hp}{s:ai}{D:ak}{o o':Obj}{h':bE} (I:bB X ((D,o)::pl) σ H s) (sb:bH D s.heap h') (e':h'.get? D=some o') (nd:∀ v,o'.data≠.cell v) (h1:D∈X.ex\/X.s₀.heap.objs.size<=D) (h2:∀ x c,X.env.cells.lookup x=some c->c≠D) (h3:∀ p∈X.pn++pl,p.1≠D):bB X ((D,o')::pl) σ H { s with heap:=h' }:=by
 obtain ⟨pD,pN,pL,pF,_⟩:=I.pin (D,o) (ap _ ah)
 have I1:bB X pl σ H s:=I.pins_of fun p hp=>I.pin p (ap _ (a9 _ hp))
 have I2:bB X pl σ H { s with heap:=h',toks:=s.toks }:=I1.turned (it:=D) (fun b o hb e=>sb.extBut b o hb e) pN pL h1 h2 h3
 refine I2.pins_of fun p hp=>?_
 rcases aO.1 hp with z|hp
 ·rw [z];exact ⟨e',pN,pL,pF,nd⟩
 ·exact I2.pin p (ap _ hp)
abbrev UI (its:List af) (nn:Nat):Obj:={ cls:=.type "list",data:=.seq its.toArray nn }
inductive Xx (X:Cx) {α:Type} (P:ak->Obj->α->Prop) (pins:List (ak×Obj)) (N':List Str) (scope:dz) (cl:List (Str×ak)) (C:ak) (s2:ai) (H2:Hp) (fp:List ak) (nt:Nat) (ix:List Nat) (σ:St) (tn:Nat->bE->Prop) (W:Nat->Nat->α->Hp->Prop) (n:Nat) (s':ai):Prop
 |mk (i:Nat) (acc:α) (oD:Obj) (H':Hp) (I:bB (dS X N' scope cl C s2 H2 fp (X.pn++pins)) [(s2.heap.objs.size,oD)] (kW nt ix σ) H' s') (S:P s2.heap.objs.size oD acc) (t:tn i s'.heap) (f:∀ b∈fp,H' b=none) (w:W i n acc H'):Xx X P pins N' scope cl C s2 H2 fp nt ix σ tn W n s'
def Rk (X:Cx) (e0 tg:bd) (ifs:List bd) (it:ak) (d:Nat) (Bd:Env->ak->(ai->Prop)->ai->Prop):Prop :=
 ∀ (env:Env) (D:ak) (R:xY->ai->Prop) (I:Nat->ai->Prop),(∀ n s,I n s->ar (aL X.prog X.w) X.A (jl (.ref it)) (fun r s₁=>match r with
   |none=>R (.ok .next) s₁
   |some v=>ar (aL X.prog X.w) X.A (ir tg (.ref it) v) (fun _ s₁'=>ar (aL X.prog X.w) X.A (sR tg env v) (fun _ s₂ =>
     ar (aL X.prog X.w) X.A (forIn ifs true fun c r=>if r=true then do let ok <- xV c env (ed c env);pure (iJ ok) else pure (iJ r)) (fun ok s₃ =>
      if ok=true then Bd env D (fun s₅=>∃ m,m<n/\I m s₅) s₃ else ∃ m,m<n/\I m s₃) (fun _ _=>False) s₂) (fun _ _=>False) s₁') (fun _ _=>False) s₁) (fun _ _=>False) s) ->
  ∀ n s,I n s->gU (aL X.prog X.w) X.A (.compLoop e0 d (.ref it) (.ref D) env) R s
theorem Rl {X:Cx}{e0 tg iter:bd}{ifs:List bd}{d:Nat}{Bd:Env->ak->(ai->Prop)->ai->Prop}{it:ak}{Kt:Env->ak->Bool->Sem Fin}
  (hT:∀ env D,compTurn e0 d (.ref it) (.ref D) env=(do
   wC iter.pos
   match <- jl (.ref it) with
   |none=>pure (.done .next)
   |some v =>
    ir tg (.ref it) v
    sR tg env v
    let mut ok:=true
    for c in ifs do
     if ok then ok <- xV c env (ed c env)
    Kt env D ok))
  (ht:∀ env D K s,Bd env D K s->ar (aL X.prog X.w) X.A (Kt env D true) (fun f s5=>f=.again (.compLoop e0 d (.ref it) (.ref D) env)/\K s5) (fun _ _=>False) s)
  (hf:∀ env D,Kt env D false=pure (.again (.compLoop e0 d (.ref it) (.ref D) env)):=by intros;rfl) (hA:∀ env D,X.A.under (.compLoop e0 d (.ref it) (.ref D) env)=X.A:=by intros;rfl)
  (hD:∀ env D,(aL X.prog X.w).den (.compLoop e0 d (.ref it) (.ref D) env)=(compTurn e0 d (.ref it) (.ref D) env).onRaise (fun x=>do noteFrame x env;theTreesLotGoes x):=by intros;rfl):Rk X e0 tg ifs it d Bd:=by
 intro env D R I turn n s h
 refine codeAny_loop rfl I (fun n s hI=>?_) n h
 rw [hA,hD]
 refine wpAny_noted ?_
 rw [hT]
 refine a7 (jD (a7 (nf (ck (turn n s hI) (fun r s₁ h₁=>?_) fun _ _ h'=>h'))))
 cases r with
 |none=>exact aa h₁
 |some v =>
  refine a7 (nf (ck h₁ (fun _ s₁' h₁'=>?_) fun _ _ h'=>h'))
  refine a7 (nf (ck h₁' (fun _ s₂ h₂=>a7 (nf (ck h₂ (fun ok s₃ h₃=>?_) fun _ _ h'=>h'))) fun _ _ h'=>h'))
  cases ok with
  |false=>rw [hf];exact aa ⟨rfl,h₃⟩
  |true =>
   refine nf (ck (ht _ _ _ _ h₃) (fun f s₅ h₅=>?_) fun _ _ h'=>h')
   obtain ⟨e,h₅⟩:=h₅
   subst e
   exact ⟨rfl,h₅⟩
def LP (X:Cx) {α:Type} (N':List Str) (scope:dz) (M:St->Prop) (P:ak->Obj->α->Prop) (L:α->Prop) (U:St->Hp->α->Nat->(Nat->α->Hp->Prop)->Prop) (Bd:Env->ak->(ai->Prop)->ai->Prop):Prop :=
 ∀ cl C s₀ H₀ ex pn (D:ak) (pl:List (ak×Obj)) (o:Obj) (acc:α) (σ:St) (H:Hp) (s:ai) (K:ai->Prop) (m:Nat) (V:Nat->α->Hp->Prop),(D∈ex\/s₀.heap.objs.size<=D)->(∀ x c,cl.lookup x=some c->c≠D)->(∀ p∈pn++pl,p.1≠D)->M σ->L acc->P D o acc ->
  bB (dS X N' scope cl C s₀ H₀ ex pn) ((D,o)::pl) σ H s->U σ H acc m V->(∀ acc' o' H8 s8 m',bB (dS X N' scope cl C s₀ H₀ ex pn) ((D,o')::pl) σ H8 s8->P D o' acc'->m'<m->V m' acc' H8->K s8)->Bd (dS X N' scope cl C s₀ H₀ ex pn).env D K s
inductive Pz (X:Cx) (N':List Str) (scope:dz) (nt nc:Nat) (ix:List Nat) (e0 tg:bd) (ifs:List bd) (newA:Sem af) {α:Type} (O:ak->α->HO) (a0:α) (L:α->Prop) (U:St->Hp->α->Nat->(Nat->α->Hp->Prop)->Prop):Prop
 |mk (P:ak->Obj->α->Prop) (o0:Obj) (Bd:ak->Env->ak->(ai->Prop)->ai->Prop) (M:St->Prop) (nd:∀ {D o acc},P D o acc->∀ v,o.data≠.cell v) (of:o0.isFreed=false) (p0:∀ D,P D o0 a0)
  (tr:∀ {H h D o acc},fk<D->P D o acc->h.get? D=some o->dw X.prog X.w H h D (O D acc))
  (hnew:∀ {E s2}{Q:af->ai->Prop},Q (.ref s2.heap.objs.size) { s2 with heap:=s2.heap.push o0 }->ar (aL X.prog X.w) X.A newA Q E s2) (loopX:∀ it,Rk X e0 tg ifs it 0 (Bd it))
  (hst:∀ {it acc env R s},gU (aL X.prog X.w) X.A (.compLoop e0 0 (.ref it) acc env) R s->ar (aL X.prog X.w) X.A (vG (.ref it)) (fun it' s'=>gU (aL X.prog X.w) X.A (.compLoop e0 0 it' acc env) R s') (notedBy (aL X.prog X.w) X.A env fun x s'=>R (.error x) s') s->gU (aL X.prog X.w) X.A (.compStart e0 0 (.ref it) acc env) R s)
  (hM:nt<=nc/\∀ σ σ6:St,(∀ j,nt<=j->σ6[j]?=(kW nc ix σ)[j]?)->M σ6) (hstep:∀ it,LP X N' scope M P L U (Bd it)):Pz X N' scope nt nc ix e0 tg ifs newA O a0 L U
theorem Gf {X:Cx}{α:Type}{O:ak->α->HO}{a0:α}{newA:Sem af}{L:α->Prop}{U:St->Hp->α->Nat->(Nat->α->Hp->Prop)->Prop}{e0 tg:bd}{ifs:List bd}{scope:dz}{g:TG}{tt:TT}{N':List Str}{nt nc:Nat}{ix:List Nat}
  (con:Pz X N' scope nt nc ix e0 tg ifs newA O a0 L U) (hc:X.calm=true) (S:oF X scope N' nc ix) (lo:S_ nt g)
  (hb:∀ cl C s₀ H₀ ex pn,PG (dS X N' scope cl C s₀ H₀ ex pn) tg g/\Pt (dS X N' scope cl C s₀ H₀ ex pn) ifs tt)
  {cl:List (Str×ak)} (c1:∀ x c,cl.lookup x=some c->X.env.cells.lookup x=some c) (c2:∀ y∈scope.names,y.2=.free->∃ c,cl.lookup y.1=some c)
  {pins:List (ak×Obj)}{σ:St}{H2:Hp}{s2:ai}{it:ak}{fp:List ak}{tn:Nat->bE->Prop}{J:It}{Q:VK}{E:af->ai->Prop}
  (I2:bB X pins σ H2 s2) (T:BO X.prog X.w X.K tg J fp it tn) (st2:tn 0 s2.heap) (f2:∀ b∈fp,se X pins H2 b)
  {W:Nat->Nat->α->Hp->Prop} (w0:∃ m,W 0 m a0 H2)
  (turn:∀ i m acc H,W i m acc H->(J.stop i H/\∀ p,H p=none->Q (.ref p) (upd H p (O p acc))) \/
   (J.go i H/\L acc/\∀ x H',J.yld i H x H'->g x (kW nc ix σ) H' fun σ2 H2=>tt σ2 H2 fun b H3 =>
    if b=true then U σ2 H3 acc m (W (i+1)) else ∃ m',m'<m/\W (i+1) m' acc H3))
  {RR:af->ak->xY->ai->Prop}
  (hRR:∀ D C m s' (acc:α) H',H' D=none->se X pins (upd H' D (O D acc)) C->Q (.ref D) (upd H' D (O D acc))->s'.heap.Ns C m->(∀ h',bH C s'.heap h'->bB X pins σ (upd H' D (O D acc)) { s' with heap:=h' })->RR (.ref D) C (.ok .next) s') :
  ar (aL X.prog X.w) X.A newA (fun acc s₃=>ar (aL X.prog X.w) X.A (FP scope X.env.globals cl [] X.env.qual none .none (some X.env)) (fun cenv s₄ =>
   gU (aL X.prog X.w) X.A (.compStart e0 0 (.ref it) acc { cenv with scope:=relabel scope X.env }) (RR acc cenv.locals) s₄) E s₃) E s2:=by
 obtain ⟨P,o0,Bd,M,nd,of,p0,tr,hnew,loopX,hst,⟨hnc,hM⟩,hstep⟩:=con
 refine hnew (Px fun h₁ hh₁=>?_);dsimp only at hh₁ ⊢;generalize hG2:s2.heap.push o0=G2 at hh₁ ⊢;have hC:G2.objs.size=s2.heap.objs.size+1:=by rw [<- hG2,cg]
 have hDC:s2.heap.objs.size≠G2.objs.size:=by rw [hC];exact aD (dq _)
 have hCle:s2.heap.objs.size<=G2.objs.size:=by rw [hC];exact om _
 have below:∀ b,b<s2.heap.objs.size->b≠G2.objs.size:=fun b hb=>by rw [hC];exact aD (eV hb)
 have kp:∀ b o,G2.get? b=some o->h₁.get? b=some o:=fun b o e=>by rw [hh₁];exact pushCells_keeps _ _ b o (ag _ e)
 have hns₁:h₁.Ns G2.objs.size (fun _=>none):=by rw [hh₁];exact (Heap.Ns.new G2 (.type "dict")).keeps (pushCells_keeps _ _)
 have ok₁:CellsOk h₁ (G2.objs.size+1) (bV (G2.objs.size+1) scope.names []):=by rw [hh₁];exact Jz G2 scope.names
 have cne:∀ x c,(bV (G2.objs.size+1) scope.names cl).lookup x=some c->X.env.cells.lookup x=some c\/s2.heap.objs.size<c:=fun x c e=>by
  rcases lP e with a|⟨_,a⟩
  ·exact .inr (aI (oj hCle) (ok₁.empty x c a).2)
  ·exact .inl (c1 x c a)
 have old:∀ b o,s2.heap.get? b=some o->h₁.get? b=some o:=fun b o e=>kp b o (hG2 ▸ ag _ e);have hacc:h₁.get? s2.heap.objs.size=some o0:=kp _ _ (hG2 ▸ ax _ of);have ff:∀ b∈fp,b<s2.heap.objs.size:=fun b hb=>by
  obtain ⟨o,e,_⟩:=T.obj _ _ st2 b hb;exact aq e
 have I3:bB (dS X N' scope (bV (G2.objs.size+1) scope.names cl) G2.objs.size s2 H2 fp (X.pn++pins)) [] (kW nc ix σ) H2 { s2 with heap:=h₁,toks:=s2.toks }:=LM S I2 c1 c2 f2 ff hCle hns₁ old ok₁;obtain ⟨pg,pt⟩:=hb (bV (G2.objs.size+1) scope.names cl) G2.objs.size s2 H2 fp (X.pn++pins);have hDfs:s2.heap.objs.size∉um X.stack:=fun z=>by
  rcases List.mem_cons.mp (I2.stkSub _ z) with e|e
  ·exact absurd I2.lt (by rw [<- e];exact cQ _)
  ·exact I2.nofs (au _) e
 have st1:tn 0 h₁:=T.keep _ _ _ st2 fun b _ o e=>old b o e;have hDf:s2.heap.objs.size∉fp:=fun z=>absurd (ff _ z) (cQ _);have stat:∀ {H':Hp}{pl:List (ak×Obj)},(∀ p∈pl,p.1∉fp)->(∀ b∈fp,H' b=none)->∀ b∈fp,se (dS X N' scope (bV (G2.objs.size+1) scope.names cl) G2.objs.size s2 H2 fp (X.pn++pins)) pl H' b:=fun hpl hn b hb=>by
  obtain ⟨f0,f1,f2',f3,f4,f5⟩:=f2 b hb;refine ⟨hn b hb,below b (ff b hb),fun z=>?_,.inl hb,fun x c e=>(cne x c e).elim (f4 x c) fun q z=>FQ q (by rw [z];exact ff b hb),fun p hp z=>?_⟩
  ·rcases List.mem_cons.mp (I2.stkSub _ z) with e|e
   ·exact f1 e
   ·exact f2' e
  ·rcases List.mem_append.mp hp with q|q
   ·exact f5 p q z
   ·exact hpl p q (z ▸ hb)
 obtain ⟨m0,w0⟩:=w0;have loop:gU (aL X.prog X.w) X.A (.compLoop e0 0 (.ref it) (.ref s2.heap.objs.size) (compEnvC scope (bV (G2.objs.size+1) scope.names cl) G2.objs.size X.env))
    (RR (.ref s2.heap.objs.size) G2.objs.size) { s2 with heap:=h₁,toks:=s2.toks }:=by
  refine loopX it _ _ _ (Xx X P pins N' scope (bV (G2.objs.size+1) scope.names cl) G2.objs.size s2 H2 fp nc ix σ tn W) ?_ m0 _
   ⟨0,a0,_,H2,I3.pin1 hacc (I2.hok.fresh (au _)) hDC hDfs (nd (p0 s2.heap.objs.size)),p0 _,st1,fun b hb=>(f2 b hb).1,w0⟩
  rintro n s3 ⟨i,acc,oD,H3,J3,hS3,st3,fr3,w3⟩;have plD:∀ p∈[(s2.heap.objs.size,oD)],p.1∉fp:=fun p hp=>by
   have:p=(s2.heap.objs.size,oD):=by simpa using hp
   rw [this];exact hDf
  rcases turn i n acc H3 w3 with ⟨stop,qn⟩|⟨go,hlt,step⟩
  ·refine fG (T.done (dS X N' scope (bV (G2.objs.size+1) scope.names cl) G2.objs.size s2 H2 fp (X.pn++pins)) rfl rfl rfl hc i _ s3 _ H3 _ J3 (stat plD fr3) st3 stop) fun r s4 h_0=>?_;obtain ⟨hr,I4⟩:=h_0;subst hr;obtain ⟨pD,pN,_⟩:=I4.pin (s2.heap.objs.size,_) (ap _ (List.mem_singleton.mpr rfl));obtain ⟨mm,hn,_⟩:=I4.loc;have hCn:H3 G2.objs.size=none:=I4.free;refine hRR _ _ mm s4 acc H3 pN (I2.fpOk hCle (by rw [a_ (c9 hDC)];exact hCn)) (qn _ pN) hn fun h' sb=>?_;have hu:Un (um X.stack) fp H2 (upd H3 s2.heap.objs.size (O s2.heap.objs.size acc)) s2.heap h':=Un.grow I4.base sb hCle (au _) pN;refine I2.call' (s':={ s4 with heap:=h' }) (ch:=fp) I4.os hu ?_ I4.bare fun b hb=>?_
   ·exact AQ (LN I4.hok hCn sb) pN (tr I2.big hS3 ((sb.2 _ hDC).trans pD))
   ·obtain ⟨_,f1,_,f3,f4,f5⟩:=f2 b hb;exact ⟨f3,f1,f4,f5⟩
  ·refine fG (T.item (dS X N' scope (bV (G2.objs.size+1) scope.names cl) G2.objs.size s2 H2 fp (X.pn++pins)) rfl rfl rfl hc i _ s3 _ H3 _ J3 (stat plD fr3) st3 go) fun r s4 h_1=>?_;obtain ⟨u,hr,h4⟩:=h_1;subst hr;refine fG h4 fun _ s5 h_2=>?_;obtain ⟨x,H5,I5,r5,y5,st5,fr5⟩:=h_2;have I5':=I5.pinned (stat plD fr5) (T.obj _ _ st5);refine fG (pg _ s5 _ H5 x u _ I5' r5 (lo _ _ _ _ (step x H5 y5))) fun _ s6 h_3=>?_;obtain ⟨σ6,H6,I6,q6,l6,k6⟩:=h_3;have hw:∀ (j:Nat) v,(kW nc ix σ)[j]?=some (some v)->σ6[j]?=some (some v):=fun j v e=>by
    by_cases hj:nt<=j
    ·rw [k6 j hj];exact e
    ·unfold kW at e;rw [bj (by simp;omega),cB,if_pos (by omega)] at e;cases e
   refine fG (pt _ s6 σ6 H6 _ I6 q6) fun b s7 h_4=>?_;obtain ⟨H7,I7,q7⟩:=h_4;have fpk:∀ {s8:ai}{σ8:St}{H8:Hp},bB (dS X N' scope (bV (G2.objs.size+1) scope.names cl) G2.objs.size s2 H2 fp (X.pn++pins)) ([(s2.heap.objs.size,oD)]++yg fp s5.heap) σ8 H8 s8 ->
     tn (i+1) s8.heap/\∀ b∈fp,H8 b=none:=fun {s8 σ8 H8} I8=>by
    refine ⟨T.keep _ _ _ st5 fun b hb o e=>(I8.pin (b,o) (ap _ (ap _ (jK hb e)))).1,fun b hb=>?_⟩;obtain ⟨o,e,d⟩:=T.obj _ _ st5 b hb;exact (I8.pin (b,o) (ap _ (ap _ (jK hb e)))).2.1
   cases b with
   |false =>
    simp only [bU,if_false] at q7 ⊢;obtain ⟨m',hm,w7⟩:=q7;obtain ⟨t7,f7⟩:=fpk I7;exact ⟨m',hm,i+1,acc,oD,H7,(I7.weak l6.symm hw).unpinned,hS3,t7,f7,w7⟩
   |true =>
    simp only [if_true] at q7 ⊢
    refine hstep it _ _ _ _ _ _ _ _ _ _ _ _ _ _ _ _ (.inr (au _)) (fun x c e z=>?_) (fun p hp z=>?_) (hM σ σ6 k6) hlt hS3 I7 q7 fun acc' o' H8 s8 m' I8 p8 hm w8=>?_
    ·rcases cne x c e with e|e
     ·obtain ⟨v,q⟩:=I2.cell x c e;exact absurd q.lt (by rw [z];exact cQ _)
     ·exact absurd e (by rw [z];exact cQ _)
    ·rcases qm.1 hp with hp|hp
     ·exact absurd (aq (I2.pin p hp).1) (by rw [z];exact cQ _)
     ·exact hDf (z ▸ (AH hp).1)
    ·obtain ⟨t8,f8⟩:tn (i+1) s8.heap/\∀ b∈fp,H8 b=none:=by
      refine ⟨T.keep _ _ _ st5 fun b hb o e=>(I8.pin (b,o) (ap _ (a9 _ (jK hb e)))).1,fun b hb=>?_⟩;obtain ⟨o,e,d⟩:=T.obj _ _ st5 b hb;exact (I8.pin (b,o) (ap _ (a9 _ (jK hb e)))).2.1
     exact ⟨m',hm,i+1,acc',o',H8,(I8.weak (σ':=kW nc ix σ) l6.symm hw).pins_of fun p hp=>I8.pin p (ap _ (by rw [cJ.1 hp];exact ah)),p8,t8,f8,w8⟩
 exact hst loop (T.self _ 0 _ _ _ st1 loop)
def UJ (_:ak) (o:Obj) (acc:List V):Prop:=∃ its nn,o=UI its nn/\dH acc its/\acc.length<=sizeLine
def T1 (X:Cx) (elt:bd) (env:Env) (D:ak) (K:ai->Prop) (s:ai):Prop:=ar (aL X.prog X.w) X.A (ed elt env) (fun x s₄=>ar (aL X.prog X.w) X.A (call (.builtin "list.append") [.ref D,x]) (fun _ s₅=>K s₅) (fun _ _=>False) s₄) (fun _ _=>False) s
theorem LQ {X:Cx}{elt:bd}{te:TE}{N':List Str}{scope:dz}{M:St->Prop} (pe:∀ cl C s₀ H₀ ex pn,PE (dS X N' scope cl C s₀ H₀ ex pn) elt te) :
  LP X N' scope M UJ (fun acc=>acc.length<sizeLine) (fun σ H acc m V=>te σ H fun y H4=>∃ m',m'<m/\V m' (acc++[y]) H4) (T1 X elt):=by
 intro cl C s₀ H₀ ex pn D pl o acc σ6 H7 s7 K m V h1 h2 h3 _ hl hP I7 q7 fin
 obtain ⟨its,nn,rfl,rv,hz⟩:=hP
 refine fG (pe cl C s₀ H₀ ex pn _ s7 σ6 H7 _ I7 q7) fun u8 s8 h_5=>?_
 obtain ⟨y,H8,I8,r8,m',hm,q8⟩:=h_5
 obtain ⟨pD,pN,_⟩:=I8.pin (D,_) (ap _ ah)
 have hv:=rv.length
 refine wpAny_list_append_plain ⟨nn,pD⟩ (hsz:=by rw [aR];omega) ?_
 intro h9 pl9 sb9
 obtain ⟨n9,e9⟩:=pl9
 have e9':h9.get? D=some (UI (its++[u8]) n9):=by rw [e9];simp
 exact fin (acc++[y]) _ H8 _ m' (I8.swap sb9 e9' (fun _ z=>nomatch z) h1 h2 h3) ⟨_,n9,rfl,rv.append (.cons r8 .nil),by rw [aN,dD];omega⟩ hm q8
theorem LR {X:Cx}{elt:bd}{f:Sem Fin}{a:Code} (hf:f=pure (.again a)) (env:Env) (D:ak) (K:ai->Prop) (s:ai) (h:T1 X elt env D K s):ar (aL X.prog X.w) X.A ((do let _ <- call (.builtin "list.append") [.ref D,<- ed elt env]) >>= fun _=>f) (fun f s5=>f=.again a/\K s5) (fun _ _=>False) s:=by
 subst hf;exact a7 (a7 (fG h fun x s4 h4=>a7 (fG h4 fun _ _ q=>aa (aa ⟨rfl,q⟩))))
theorem HJ {X:Cx}{elt tg iter:bd}{ifs:List bd}{scope:dz}{pos:Pos}{te:TE}{N':List Str}{nt:Nat}{ix:List Nat} (pe:∀ cl C s₀ H₀ ex pn,PE (dS X N' scope cl C s₀ H₀ ex pn) elt te) :
  Pz X N' scope nt nt ix (.ListComp elt [⟨tg,iter,ifs,0⟩] scope pos) tg ifs (newList []) (fun _=>HO.lst) [] (fun acc=>acc.length<sizeLine) (fun σ H acc m V=>te σ H fun y H4=>∃ m',m'<m/\V m' (acc++[y]) H4) :=
 ⟨UJ,_,fun _=>T1 X elt,fun _=>True,fun ⟨_,_,h,_⟩ _ z=>(by rw [h] at z;cases z),rfl,fun _=>⟨[],0,rfl,.nil,cV _⟩,fun _ ⟨its,nn,h,rv,hz⟩ e=>⟨hz,its,nn,rv,by rw [e,h]⟩,bQ,fun _=>Rl (iter:=iter) (fun _ _=>rfl) fun a b c d h=>LR rfl a b c d h,codeAny_compStart_list,⟨au _,fun _ _ _=>trivial⟩,fun _=>LQ pe⟩
end
section
theorem DD
  (hc:X.calm=true) (S:oF X scope N' nt ix) (lo:S_ nt g) (hi:PI X tg iter wi)
  (hb:∀ cl C s₀ H₀ ex pn,PG (dS X N' scope cl C s₀ H₀ ex pn) tg g/\Pt (dS X N' scope cl C s₀ H₀ ex pn) ifs tt/\PE (dS X N' scope cl C s₀ H₀ ex pn) elt te)
  (hs:∀ x,el iter X.env x=pure x:=by intro _;rfl):PE X (.ListComp elt [⟨tg,iter,ifs,0⟩] scope pos) (LL nt ix wi g tt te):=by
 intro pins s σ H Q I h;obtain ⟨cl,hcl,c1,c2⟩:=oE (scope:=scope) (env:=X.env) fun y hy hf=>I.ok.has y.1 (S.free y hy hf);rw [eval_ListComp];refine qo (use:=none) rfl hs hcl S.kind S.loc (fG (hi pins s σ H _ I h) fun v s1 h1=>fG h1 fun itv s2 h2=>?_);obtain ⟨it,fp,tn,J,H2,e,I2,T,st2,f2,W,w0,turn⟩:=h2;subst e;refine Gf (RR:=fun acc C=>compPost (aL X.prog X.w) X.A X.xe none (EP X pins σ Q) acc C) (HJ fun a b c d e f=>(hb a b c d e f).2.2) hc S lo (fun a b c d e f=>⟨(hb a b c d e f).1,(hb a b c d e f).2.1⟩) c1 c2 I2 T st2 f2 w0 turn ?_;intro D C m s' acc H' hD _ q hn hI;exact ⟨m,hn,fun h' sb=>⟨.ref D,_,hI h' sb,rfl,q⟩⟩
def UK (i:Nat) (te:TE):TS:=fun D σ H=>te σ H fun x H1=>D.nx (σ.set i (some x)) H1
theorem Gg
  (hN:X.N.Nodup) (hiN:X.N[i]?=some y) (hy:X.env.scope.names.lookup y=some .local)
  (hc:X.calm=true) (S:oF X scope N' nt ix) (lo:S_ nt g) (hi:PI X tg iter wi)
  (hb:∀ cl C s₀ H₀ ex pn,PG (dS X N' scope cl C s₀ H₀ ex pn) tg g/\Pt (dS X N' scope cl C s₀ H₀ ex pn) ifs tt/\PE (dS X N' scope cl C s₀ H₀ ex pn) elt te)
  (hsw:gX (.ListComp elt [⟨tg,iter,ifs,0⟩] scope pos) (some (.Name y py)) spos.line X.env=pure true:=by rfl)
  (hs:∀ x,el iter X.env x=pure x:=by intro _;rfl):PS X (.Assign [.Name y py] (.ListComp elt [⟨tg,iter,ifs,0⟩] scope pos) spos) (UK i (LL nt ix wi g tt te)):=by
 intro pins s σ H D I h;obtain ⟨cl,hcl,c1,c2⟩:=oE (scope:=scope) (env:=X.env) fun y hy hf=>I.ok.has y.1 (S.free y hy hf);rw [exec_Assign_Name_used _ _ _ _ hsw];refine a7 (jD (a7 ?_));show ar _ X.A (do let _ <- comprehension (.ListComp elt [⟨tg,iter,ifs,0⟩] scope pos) scope X.env _ (newList []) false (ed iter X.env) (some (sR (.Name y py) X.env))) _ _ s;refine a7 (ck (qo (use:=some (sR (.Name y py) X.env)) (Q:=fun _ s'=>SP X pins D .next s') rfl hs hcl S.kind S.loc
  (fG (hi pins s σ H _ I h) fun v s1 h1=>fG h1 fun itv s2 h2=>?_)) (fun _ s' hq=>aa (aa hq)) fun _ _ e=>e)
 obtain ⟨it,fp,tn,J,H2,e,I2,T,st2,f2,W,w0,turn⟩:=h2;subst e;refine Gf (Q:=fun x H1=>D.nx (σ.set i (some x)) H1) (RR:=fun acc C=>compPost (aL X.prog X.w) X.A X.xe (some (sR (.Name y py) X.env)) (fun _ s'=>SP X pins D .next s') acc C) (HJ fun a b c d e f=>(hb a b c d e f).2.2) hc S lo (fun a b c d e f=>⟨(hb a b c d e f).1,(hb a b c d e f).2.1⟩) c1 c2 I2 T st2 f2 w0 turn ?_;intro L C m s' acc H' hD fC q hn hI;show ar _ X.A (sR (.Name y py) X.env (.ref L)) _ _ _;have I3:bB X pins σ (upd H' L (.lst acc)) s':=hI s'.heap (.refl ..);refine wpAny_assign_Name (AG I3 hN hiN (.inl hy) (v:=.ref L) rfl (fun s4 I4 ⟨a,sb,ha⟩=>?_) (.inr hy));obtain ⟨g0,g1,g2,g3,g4,g5⟩:=fC;have hCa:C≠a:=by
  rcases ha with z|z
  ·rw [z];exact g1
  ·exact fun e=>g4 y a z e.symm
 refine ⟨m,hn.sameBut sb hCa,fun h5 sb5=>?_⟩;exact ⟨_,_,I4.turned (t':=s4.toks) (fun b o hb e=>(sb5.2 b hb).trans e) g0 g1 g3 g4 g5,q⟩
end
section
def jF (e:Int×af):Str:=match e.2 with
 |.str x _=>x
 |_=>⟨#[]⟩
def tm (w:bn) (e:Int×af):Prop:=∃ x tk,e=(hashStr w x,jk x tk)
structure cS (w:bn) (h:bE) (a:ak) (es:Array (Int×af)) (ep:Nat) (t:kQ):Prop where
 at_:h.get? a=some { cls:=.type "set",dict:=none,data:=.set es ep t }
 txt:∀ e∈es.toList,tm w e
 nd:(es.toList.map jF).Nodup
 few:es.size<gY
 fits:t.fits es.size=true
 led:t.led=!w.params.followText "set-order"
 pl:es.size=0\/t.plain=false
inductive l9 (w:bn) (h:bE) (a:ak) (ss:List Str):Prop
 |mk (es ep t:_) (h0:cS w h a es ep t) (h1:(es.toList.map jF).Perm ss):l9 w h a ss
theorem Gh (t:kQ) (es:Array (Int×af)) (h:Int) (x:af):(layNew t es h x).2.1.led=t.led:=by
 unfold layNew;cases t.freeSlot h with
 |none=>rfl
 |some p =>
  obtain ⟨slot,d⟩:=p;show ((t.put slot).1.orStandIn _).led=_;unfold Fx;split<;>rfl
theorem BV (t:kQ) (es:Array (Int×af)) (h:Int) (x:af):t.plain=false->(layNew t es h x).2.1.plain=false:=by
 intro hp;unfold layNew;cases t.freeSlot h with
 |none=>rfl
 |some p =>
  obtain ⟨slot,d⟩:=p;show ((t.put slot).1.orStandIn _).plain=_;unfold Fx;split
  ·exact hp
  ·rfl
theorem DE {t t':kQ}{hs:Array Int}{n:Nat}{o:Array Nat} (h:t.relaid hs n=some (t',o)):t'.led=t.led/\t'.plain=t.plain:=by
 unfold Jd zM at h;cases e:ui (cj n-1) hs with
 |none=>rw [e] at h;cases h
 |some ow =>
  rw [e] at h;have h:=bu h;have h1:=congrArg Prod.fst h;subst h1;exact ⟨rfl,rfl⟩
theorem JA (t:kQ) (es:Array (Int×af)) (n:Nat):(vL t es n).2.1.led=t.led/\(t.plain=false->(vL t es n).2.1.plain=false):=by
 unfold vL;cases e:t.relaid (es.map (·.1)) n with
 |none=>exact ⟨rfl,fun _=>rfl⟩
 |some p =>
  obtain ⟨t',o⟩:=p;obtain ⟨h1,h2⟩:=DE e;dsimp only;split
  ·exact ⟨h1,fun h=>h2.trans h⟩
  ·exact ⟨rfl,fun _=>rfl⟩
theorem LS   (h:∀ e∈l,tm w e):ElemsOf (strKind P w) l:=fun e he=>by
 obtain ⟨x,tk,rfl⟩:=h e he;exact ⟨⟨x,by simp [PySem.strKind,uf],rfl⟩,rfl⟩
theorem Wa (P:aX) (w:bn) (x:Str) (tk:Tok):(strKind P w).is x (.str x tk)=true:=by simp [PySem.strKind,uf]
theorem HK   (h:tm w e) (x:Str):(strKind P w).is x e.2=true↔jF e=x:=by
 obtain ⟨y,tk,rfl⟩:=h;constructor
 ·intro q;have:=(strKind P w).inj _ _ _ q (Wa P w y tk);rw [this];rfl
 ·rintro rfl;exact Wa P w _ tk
section
theorem rc     (I:cS w h a es ep t):(h.update a (qp es' t')).get? a=some { cls:=.type "set",dict:=none,data:=.set es' (ep+1) t' }:=by
 have q:=dE (qp es' t') I.at_ rfl;exact q
theorem AR     (hS:l9 w s.heap a ss) (hr:ss.length+1<gY)
  (h:∀ h' tk',bH a s.heap h'->l9 w h' a (if x∈ss then ss else ss++[x])->Q (!decide (x∈ss)) { s with heap:=h',toks:=tk' }) :
  ar (aL P w) A (setAddHashed a (.str x tk) ((strKind P w).hash x)) Q E s:=by
 obtain ⟨es,ep,t,I,pm⟩:=hS
 have hlen:es.size=ss.length:=by rw [<- pm.length_eq,ao,av]
 have hel:ElemsOf (strKind P w) es.toList:=LS I.txt
 unfold setAddHashed setAddHashedIn
 refine cH (a7 (bx (s:=s) I.at_ rfl I.fits ?_))
 dsimp only
 rw [byScan_of rfl I.few hel]
 rw [if_pos rfl]
 unfold setAddByScan
 refine a7 (a7 (i9 (a7 (wpAny_setScan_of (s:=s) (Wa P w x tk) I.at_ rfl I.fits hel ?_))))
 have inmem:x∈ss↔∃ e∈es.toList,(strKind P w).is x e.2=true:=by
  rw [<- pm.mem_iff,List.mem_map]
  constructor
  ·rintro ⟨e,he,q⟩;exact ⟨e,he,(HK (I.txt e he) x).mpr q⟩
  ·rintro ⟨e,he,q⟩;exact ⟨e,he,(HK (I.txt e he) x).mp q⟩
 cases hf:List.findIdx? (fun e=>(strKind P w).is x e.2) es.toList with
 |some j =>
  obtain ⟨hj,hp,_⟩:=List.findIdx?_eq_some_iff_getElem.mp hf
  have hin:x∈ss:=inmem.mpr ⟨_,iK hj,hp⟩
  have q:=h s.heap s.toks (.refl ..) (by rw [if_pos hin];exact ⟨es,ep,t,I,pm⟩)
  rw [decide_eq_true hin] at q
  exact aa (aa q)
 |none =>
  have hout:x∉ss:=fun z=>by
   obtain ⟨e,he,q⟩:=inmem.mp z
   rw [List.findIdx?_eq_none_iff.mp hf e he] at q
   cases q
  have h:=fun h' tk' sb=>h h' tk' sb
  rw [decide_eq_false hout,if_neg hout] at h
  have p1:=layNew_perm t es ((strKind P w).hash x) (.str x tk)
  have f1:=layNew_fits t es ((strKind P w).hash x) (.str x tk)
  have l1:=Gh t es ((strKind P w).hash x) (.str x tk)
  have q1:=BV t es ((strKind P w).hash x) (.str x tk)
  generalize layNew t es ((strKind P w).hash x) (.str x tk)=L at p1 f1 l1 q1 ⊢
  obtain ⟨es1,t1,wd,gv⟩:=L
  dsimp only at p1 f1 l1 q1 ⊢
  rw [KQ] at p1
  have tx1:∀ e∈es1.toList,tm w e:=fun e he=>by
   rcases List.mem_append.mp (p1.mem_iff.mp he) with z|z
   ·exact I.txt e z
   ·rw [cJ] at z;exact ⟨x,tk,z⟩
  have km:(es1.toList.map jF).Perm (ss++[x]):=(p1.map jF).trans (by rw [aU];exact pm.append_right _)
  have nd1:(ss++[x]).Nodup:=by
   rw [Lb]
   exact ⟨pm.nodup_iff.mp I.nd,by simp,fun y hy z hz e=>hout (by rw [cJ] at hz;rw [<- hz,<- e];exact hy)⟩
  have sz1:es1.size=es.size+1:=by rw [<- av,p1.length_eq,aN,av];rfl
  have few1:es1.size<gY:=by omega
  have gw:∀ (b:Bool) {s₁:ai}{Q':Unit->ai->Prop},Q' () s₁->ar (aL P w) A (match b with|true=>rule "set.scan.the-table-gave-way" | false=>pure ()) Q' E s₁ :=
   fun b _ _ z=>by cases b<;>first|exact aa z|exact i9 z
  have tail:∀ t2:kQ,t2.fits es1.size=true->t2.led=t.led->t2.plain=false->ar (aL P w) A (do
    storeSet a es1 t2
    if (!wd&&t2.tooFull)=true then do
      (match (vL t2 es1 (hZ es1.size)).2.2 with|true=>rule "set.scan.the-table-gave-way" | false=>pure ())
      storeSet a (vL t2 es1 (hZ es1.size)).1 (vL t2 es1 (hZ es1.size)).2.1
      pure (some true)
     else pure (some true)) (fun r s'=>r=some true/\Q true s') E s:=fun t2 f2 l2 n2=>by
   refine a7 (iL (s:=s) I.at_ rfl ?_ (fj few1))
   have at1:=rc (es':=es1) (t':=t2) I
   have sb1:=bG s.heap a (qp es1 t2)
   have I1:cS w (s.heap.update a (qp es1 t2)) a es1 (ep+1) t2:=⟨at1,tx1,km.nodup_iff.mpr nd1,few1,f2,l2.trans I.led,.inr n2⟩
   split
   ·have p2:=relayAll_perm t2 es1 (hZ es1.size)
    have f3:=relayAll_fits t2 es1 (hZ es1.size)
    have l3:=JA t2 es1 (hZ es1.size)
    generalize vL t2 es1 (hZ es1.size)=R3 at p2 f3 l3 ⊢
    obtain ⟨es2,t3,gv2⟩:=R3
    dsimp only at p2 f3 l3 ⊢
    have few2:es2.size<gY:=by rw [<- av,p2.length_eq,av];exact few1
    have km2:=(p2.map jF).trans km
    refine a7 (gw _ (a7 (iL (s:={ s with heap:=s.heap.update a (qp es1 t2) }) I1.at_ rfl ?_ (fj few2))))
    refine aa ⟨rfl,h _ _ (sb1.trans (bG _ a _)) ⟨es2,ep+1+1,t3,⟨rc I1,fun e he=>tx1 e (p2.mem_iff.mp he),km2.nodup_iff.mpr nd1,few2,f3,l3.1.trans (l2.trans I.led),.inr (l3.2 n2)⟩,km2⟩⟩
   ·exact aa ⟨rfl,h _ _ sb1 ⟨es1,ep+1,t2,I1,km⟩⟩
  refine a7 (gw gv ?_)
  cases hp:t1.plain with
  |true =>
   simp only [if_true]
   rw [hashByValue_scannable 8 (x:=.str x tk) rfl]
   refine a7 (aa ?_)
   refine ck (tail { t1 with plain:=false } (by cases t1;exact f1) l1 rfl) (fun r s' z=>?_) fun _ _ z=>z
   obtain ⟨rfl,z⟩:=z
   exact aa z
  |false =>
   simp only [bU,if_false]
   refine a7 (aa ?_)
   refine ck (tail t1 f1 l1 hp) (fun r s' z=>?_) fun _ _ z=>z
   obtain ⟨rfl,z⟩:=z
   exact aa z
theorem DF     (hS:l9 w s.heap a ss) (hr:ss.length+1<gY)
  (h:∀ h' tk',bH a s.heap h'->l9 w h' a (if x∈ss then ss else ss++[x])->Q (!decide (x∈ss)) { s with heap:=h',toks:=tk' }) :
  ar (aL P w) A (setAdd a (.str x tk)) Q E s:=by
 unfold setAdd;refine cH (a7 ((strKind P w).pyHash (k:=x) (Wa P w x tk) ?_));exact AR (s:={ s with toks:=s.toks+1 }) hS hr h
end
end
section
abbrev fN (w:bn):Obj:={ cls:=.type "set",dict:=none,data:=.set #[] 0 (.fresh 0 0 (!w.params.followText "set-order")) }
theorem AS (w:bn)  (e:h.get? a=some (fN w)):l9 w h a [] :=
 ⟨#[],0,_,⟨e,fun e he=>by simp at he,by simp,by decide,rfl,rfl,.inl rfl⟩,by simp⟩
def dk:List Str->List Str->List Str
 |acc,[]=>acc
 |acc,x::r=>dk (if x∈acc then acc else acc++[x]) r
theorem iz:∀ (l acc:List Str) (x:Str),x∈dk acc l↔x∈acc\/x∈l
 |[],acc,x=>by simp [dk]
 |y::r,acc,x=>by
  rw [dk,iz r];by_cases h:y∈acc
  ·rw [if_pos h];simp only [aO];constructor
   ·exact fun z=>z.elim .inl fun z=>.inr (.inr z)
   ·rintro (z|z|z)
    ·exact .inl z
    ·exact .inl (z ▸ h)
    ·exact .inr z
  ·rw [if_neg h];simp [qm,or_assoc]
theorem ik:∀ (l acc:List Str),acc.Nodup->(dk acc l).Nodup
 |[],acc,h=>h
 |y::r,acc,h=>by
  rw [dk];refine ik r _ ?_;by_cases hy:y∈acc
  ·rw [if_pos hy];exact h
  ·rw [if_neg hy,Lb];exact ⟨h,by simp,fun a ha b hb e=>hy (by rw [cJ] at hb;rw [<- hb,<- e];exact ha)⟩
theorem fO:∀ (l acc:List Str),(dk acc l).length<=acc.length+l.length
 |[],acc=>by simp [dk]
 |y::r,acc=>by
  rw [dk];have:=fO r (if y∈acc then acc else acc++[y]);by_cases hy:y∈acc
  ·rw [if_pos hy] at this ⊢;simp only [aT];omega
  ·rw [if_neg hy] at this ⊢;simp only [aT,aN,dD,bJ] at this ⊢;omega
section
theorem l9.keep   (x:l9 w h a ss) (k:∀ o,h.get? a=some o->h'.get? a=some o):l9 w h' a ss :=
 let ⟨es,ep,t,I,p⟩:=x;⟨es,ep,t,⟨k _ I.at_,I.txt,I.nd,I.few,I.fits,I.led,I.pl⟩,p⟩
theorem A4 {I:ak}{fp wr:List ak}{n:Nat}{Pv:Nat->af->Prop}{St:Nat->bE->Prop} (W:OH prog w A.in1 I fp wr n Pv St) (D:ak) (hD:D∉fp) (xs:List Str) (hx:xs.length=n)
  (hv:∀ i v,Pv i v->∃ x t,xs[i]?=some x/\v=.str x t) (hb:n+1<gY) :
  ∀ (k i:Nat) (s:ai) (acc:List Str),n-i=k->i<=n->acc.length<=i->St i s.heap->l9 w s.heap D acc ->
   (∀ h' tk,(∀ b o,b∉D::wr->s.heap.get? b=some o->h'.get? b=some o)->l9 w h' D (dk acc (xs.drop i))->R (.ok (.ret .none)) { s with heap:=h',toks:=tk }) ->
   gU (aL prog w) A (.builtin "set.update.loop" ⟨[.ref D,.ref I],[]⟩) R s:=by
 have hDw:D∉wr:=fun z=>hD (W.sub _ z);intro k;induction k with
 |zero =>
  intro i s acc hk hi hl st hS hR;obtain rfl:i=n:=by omega
  refine fo oo ?_;rw [dR hV _];show ar _ A.in1 (jl (.ref I) >>= _) _ _ s;refine a7 (W.done s _ _ st fun h' tk kp=>?_);refine aa (hR h' tk (fun b o hb e=>kp b o (fun z=>hb (a9 _ z)) e) ?_);rw [List.drop_of_length_le (by omega)];exact hS.keep fun o e=>kp D o hDw e
 |succ k ih =>
  intro i s acc hk hi hl st hS hR;have hlt:i<n:=by omega
  refine fo oo ?_;rw [dR hV _];show ar _ A.in1 (jl (.ref I) >>= _) _ _ s;refine a7 (W.item i s _ _ hlt st fun v h' tk hP st' kp=>?_);obtain ⟨x,t,hxi,rfl⟩:=hv i v hP;have hS':l9 w h' D acc:=hS.keep fun o e=>kp D o hDw e;refine a7 (cH (DF (s:={ s with heap:=h',toks:=tk }) hS' (by omega) fun h2 tk2 sb hS2=>?_));refine aa ⟨iF hV _,ih (i+1) _ (if x∈acc then acc else acc++[x]) (by omega) hlt ?_ (W.frame _ _ _ st' fun b hb o e=>?_) hS2 fun h3 tk3 k3 hS3=>?_⟩
  ·by_cases z:x∈acc
   ·rw [if_pos z];omega
   ·rw [if_neg z,aN,dD];omega
  ·rw [sb.2 b fun z=>hD (z ▸ hb)];exact e
  ·refine hR h3 tk3 (fun b o hb e=>k3 b o hb ?_) ?_
   ·rw [sb.2 b fun z=>hb (by rw [z];exact ah)];exact kp b o (fun z=>hb (a9 _ z)) e
   ·have hd:xs.drop i=x::xs.drop (i+1):=by
     obtain ⟨h1,h2⟩:=List.getElem?_eq_some_iff.mp hxi;rw [BF h1,h2]
    rw [hd,dk];exact hS3
theorem LU (a:af) (h:Q₁ (.ref s.heap.objs.size) { s with heap:=s.heap.push (fN w) }) :
  gU (aL prog w) A (.call (.builtin "set.__new__") ⟨[.type "set",a],[]⟩) (wants Q₁ E) s:=by
 refine Dk ?_;show ar _ A.in1 (do checkBuiltinCall "set.__new__" ⟨[.type "set",a],[]⟩;again (.builtin "set.__new__" ⟨[.type "set",a],[]⟩)) _ _ s;refine a7 (eF (F.newCall_set_1 a) (aa ⟨iF F.plain_set_new _,fo F.entry_set_new ?_⟩));rw [dR F.plain_set_new _];unfold kR.«set.__new__» OI;have hsub:=Lc;obtain ⟨hp,g,d,tk,os⟩:=s;dsimp only;wp_walk;refine gZ (aa ?_);dsimp only;simp only [newObj];refine a7 (OG (aa ?_));exact aa h
structure T2 (prog:aX) (w:bn) (A:bv) (T:String) (l:ak) (o:Obj) (items:Array af):Prop where
 ty:o.cls=.type T
 s1:isSubtype (.type T) (.type "set")=pure false
 s2:isSubtype (.type T) (.type "frozenset")=pure false
 nd:(ip T==ip "dict")=false
 iter:∀ (s:ai) (Q:af->ai->Prop) (E:af->ai->Prop),s.heap.get? l=some o ->
  (∀ ob St,OH prog w A.in1 s.heap.objs.size [s.heap.objs.size,l] [s.heap.objs.size] items.size (fun i v=>items[i]?=some v) St->St 0 (s.heap.push ob)->Q (.ref s.heap.objs.size) { s with heap:=s.heap.push ob })->ar (aL prog w) A (vG (.ref l)) Q E s
theorem uH {T:String}{l:ak}{ol:Obj}{items:Array af}{xs:List Str}{Q:af->ai->Prop}
  (src:T2 prog w A.in1.in1 T l ol items) (hol:s.heap.get? l=some ol) (hi:∀ (i:Nat) (v:af),items[i]?=some v->∃ x t,xs[i]?=some x/\v=jk x t) (hx:xs.length=items.size) (hb:items.size+1<gY)
  (h:∀ (h':bE) (tk:Nat),l9 w h' s.heap.objs.size (dk [] xs)->(∀ b o,s.heap.get? b=some o->h'.get? b=some o)->Q (.ref s.heap.objs.size) { s with heap:=h',toks:=tk }) :
  ar (aL prog w) A (call (.type "set") [.ref l]) Q E s:=by
 obtain ⟨c,tl,hmro⟩:=F.called_set.mro;have hmade:=F.called_set.made;have hsub:=F.called_set.sub;refine FK (Dk ?_);show ar _ _ (callAny (.type "set") _) _ _ _;refine aa ⟨Code.quiet_builtin _ (by decide +kernel),fo F.entry_type_call ?_⟩;rw [Around.under_plain (weight_type_call_type "set" [.ref l] []) rfl];have h1:=F.called_set.notType;have h2:=F.called_set.canCreate;have hct:=F.typeCall_set_1 (.ref l);repeat (any_goals (first|assumption|wp_step))
 refine nL (LU (.ref l) (E:=E) (Q₁:=fun obj s₁=>obj=.ref s.heap.objs.size/\s₁={ s with heap:=s.heap.push (fN w) }) ⟨rfl,rfl⟩) fun r s₁ hr=>?_;cases r with
 |error e=>exact hr
 |ok fl =>
  cases fl with
  |ret obj =>
   obtain ⟨rfl,rfl⟩:=hr;have hS:(s.heap.push (fN w)).get? s.heap.objs.size=some (fN w):=ax _ rfl;have hT:OJ { s with heap:=s.heap.push (fN w) } (.ref s.heap.objs.size) "set":=⟨_,hS,rfl⟩;have hli:=F.called_set.init.lookup;have hbi:=F.called_set.init.bind (.ref s.heap.objs.size);repeat (any_goals (first|assumption|wp_step))
   refine nL (OK (R:=wants (fun r s₂=>r=.none/\∃ h' tk,s₂={ s with heap:=h',toks:=tk }/\l9 w h' s.heap.objs.size (dk [] xs) /\
     (∀ b o,s.heap.get? b=some o->h'.get? b=some o)) E) F.called_set.init.plain F.entry_set_init (check_set_init_1 hT ?_)) fun r₂ s₂ hr₂=>?_
   ·obtain ⟨oc,od,odt,os'⟩:=ol;obtain ⟨ty,s1,s2,nd,iter⟩:=src;have ty:oc=.type T:=ty;subst ty;have hol':(s.heap.push (fN w)).get? l=some { cls:=.type T,dict:=od,data:=odt,slots:=os' }:=ag _ hol;unfold kR.«set.__init__» noKeywords jh;generalize hPI:vG=PI;wp_walk;subst hPI;refine iter { s with heap:=s.heap.push (fN w) } _ _ hol' fun ob St W st=>?_;have hlS:l<s.heap.objs.size:=aq hol;refine a7 (wpAny_runValue ?_);have szp:(s.heap.push (fN w)).objs.size=s.heap.objs.size+1:=cg ..;refine A4 (A:=A.in1.in1) W s.heap.objs.size (by rw [szp];simp only [aO,bg,or_false,not_or];exact ⟨aD (dq _),fm hlS⟩) xs hx hi hb items.size 0 _ [] (by omega) (cV _) (au _) st (AS w (ag _ hS)) fun h' tk kp hS'=>?_;show ar _ _ _ _ _ _;refine aa ?_;show ar _ _ (ret e6) _ _ _;refine aa ⟨rfl,h',tk,rfl,hS',fun b o e=>kp b o ?_ (ag _ (ag _ e))⟩;have:=aq e;rw [szp];simp only [aO,bg,or_false,not_or];exact ⟨aD this,aD (eV this)⟩
   ·cases r₂ with
    |error e=>exact hr₂
    |ok fl₂ =>
     cases fl₂ with
     |ret r =>
      obtain ⟨rfl,h',tk,rfl,hS',hk'⟩:=hr₂;repeat (any_goals (first|assumption|wp_step))
      exact h _ _ hS' hk'
     |next=>exact hr₂.elim
     |brk=>exact hr₂.elim
     |cont=>exact hr₂.elim
  |next=>exact hr.elim
  |brk=>exact hr.elim
  |cont=>exact hr.elim
theorem LV {l:ak}{o:Obj}{its:List af} (hh:A.handled=none) (e0:o.cls=.type "list") (e1:∃ n,o.data=.seq its.toArray n):T2 prog w A "list" l o its.toArray :=
 ⟨e0,F.sub_list_set,F.sub_list_frozenset,by decide,fun s Q E e h=>gy ⟨_,e,e0,e1⟩
  (h _ _ (kj (by simpa using hh) _ l (aD (aq e)) its.toArray) ⟨⟨_,ax _ rfl,rfl,rfl⟩,⟨_,ag _ e,e0,e1⟩⟩)⟩
theorem PB {l:ak}{o:Obj}{its:List af} (hh:A.handled=none) (e0:o.cls=.type "tuple") (e1:∃ n,o.data=.seq its.toArray n):T2 prog w A "tuple" l o its.toArray :=
 ⟨e0,F.sub_tuple_set,F.sub_tuple_frozenset,by decide,fun s Q E e h=>fV ⟨_,e,e0,e1⟩
  (h _ _ (Walks.tuple (by simpa using hh) _ l (aD (aq e)) its.toArray) ⟨⟨_,ax _ rfl,rfl,rfl⟩,⟨_,ag _ e,e0,e1⟩⟩)⟩
end
end
end L2
section
namespace L2
open PySem PySem.Spec PyProof.Rows
namespace SI
theorem entry_iter:FR table "set.__iter__"=some kR.«frozenset.__iter__» :=
 FS (id':="frozenset.__iter__") (by kernel_rfl) rfl (by decide +kernel) (by kernel_rfl)
theorem slot_next:Slot "set_iterator" "__next__" "set_iterator.__next__":=by
 refine .of (owner:="set_iterator") (n:="__next__") ?_ ?_ ?_ ?_ ?_ ?_
 ·rw [typeLookup_type,Ot];kernel_rfl
 ·decide +kernel
 ·decide +kernel
 ·decide +kernel
 ·first
   |exact .inl (by decide +kernel)
   |exact .inr (by decide +kernel)
 ·rw [FT];kernel_rfl
theorem entry_next:FR table "set_iterator.__next__"=some kR.«set_iterator.__next__» :=
 entryFor_of_tree (by kernel_rfl)
theorem DG:Manifest.owners.lookup (String.ofList ['r','o','t','a','r','e','t','i','_','t','e','s'].reverse)=some Manifest.sig_set_iterator:=by kernel_rfl
theorem args_next (a:af):argsOk "set_iterator.__next__" ⟨[a],[]⟩:=by
 unfold argsOk;rw [signature?_of (id:="set_iterator.__next__") (n:=['_','_','t','x','e','n','_','_']) (o:=['r','o','t','a','r','e','t','i','_','t','e','s']) (by kernel_rfl) DG]
 kernel_rfl
theorem args_iter (a:af):argsOk "set_iterator.__iter__" ⟨[a],[]⟩:=by
 unfold argsOk;rw [signature?_of (id:="set_iterator.__iter__") (n:=['_','_','r','e','t','i','_','_']) (o:=['r','o','t','a','r','e','t','i','_','t','e','s']) (by kernel_rfl) DG]
 kernel_rfl
theorem entry_self:FR table "set_iterator.__iter__"=some kR.«dict_keyiterator.__iter__» :=
 FS (id':="dict_keyiterator.__iter__") (by kernel_rfl) rfl (by decide +kernel) (by kernel_rfl)
theorem slot_iter:Slot "set_iterator" "__iter__" "set_iterator.__iter__":=by
 refine .of (owner:="set_iterator") (n:="__iter__") ?_ ?_ ?_ ?_ ?_ ?_
 ·rw [typeLookup_type,Ot];kernel_rfl
 ·decide +kernel
 ·decide +kernel
 ·decide +kernel
 ·first
   |exact .inl (by decide +kernel)
   |exact .inr (by decide +kernel)
 ·rw [FT];kernel_rfl
end SI
end L2
end
namespace L2
open PySem PySem.Spec PyProof.Rows
section
theorem tu {α:Type}:∀ {l:List α}{i:Nat} (h:i<l.length),(l[i]::l.eraseIdx i).Perm l
 |x::r,0,_=>.refl _
 |x::r,i+1,h=>by
  have q:=tu (l:=r) (i:=i) (by simpa using h);rw [List.getElem_cons_succ,List.eraseIdx_cons_succ];exact (List.Perm.swap _ _ _).trans (q.cons x)
section
theorem JC   (hn:n≠0) (h:∀ i d,i<n->Q i { s with drawn:=d }):ar M A (choose src n) Q E s :=
 fun _ _ _=>⟨hn,h _ _ (BG _ (Nat.pos_of_ne_zero hn))⟩
theorem uI {α:Type}:∀ (n:Nat) (xs:List α) (s:ai) (Q:List α->ai->Prop),n=xs.length->(∀ ys d,ys.Perm xs->Q ys { s with drawn:=d })->ar M A (drawOrder n xs) Q E s
 | 0,xs,s,Q,hn,h=>by
  obtain rfl:xs=[]:=List.length_eq_zero_iff.mp hn.symm;exact aa (h [] s.drawn .nil)
 |n+1,[],s,Q,hn,h=>by cases hn
 |n+1,x::r,s,Q,hn,h=>by
  show ar M A (choose .order (x::r).length >>= _) Q E s;refine a7 (JC (by simp) fun i d hi=>?_);rw [aY hi];refine a7 (uI n _ _ _ (by rw [AC hi];omega) fun ys d' p=>aa ?_);exact h _ _ ((p.cons _).trans (tu hi))
end
theorem BW {α:Type} (next:Nat->Nat):∀ (n k:Nat) (left:List α) (out:Array α),n=left.length->(zV next n k left out).toList.Perm (out.toList++left)
 | 0,k,left,out,hn=>by
  obtain rfl:left=[]:=List.length_eq_zero_iff.mp hn.symm;rw [zV,cA]
 |n+1,k,left,out,hn=>by
  have hl:next k % left.length<left.length:=BG _ (by omega)
  rw [zV,aY hl];refine (BW next n (k+1) _ _ (by rw [AC hl];omega)).trans ?_;rw [KQ,nO];exact (tu hl).append_left _
theorem vU {α:Type} (next:Nat->Nat) (xs:Array α):(oq next xs).toList.Perm xs.toList:=by
 have:=BW next xs.size 0 xs.toList #[] (by simp)
 simpa [oq] using this
def BX (h:bE) (I S:ak) (first:af) (i n ep:Nat):Prop:=h.get? I=some { cls:=.type "set_iterator",data:=.fields #[first,.int i 0,.ref S,.int n 0,.int ep 0] }
section
theorem BX.put {f f':af}{j j':Nat}{k:Nat}{x:af}{h:bE} (hit:BX h I S f j n ep) (e:(#[f,.int j 0,.ref S,.int n 0,.int ep 0] : Array af).setIfInBounds k x=#[f',.int j' 0,.ref S,.int n 0,.int ep 0]) :
  BX (h.update I (e8 (·.setIfInBounds k x))) I S f' j' n ep:=by
 have q:=dE (e8 (·.setIfInBounds k x)) hit rfl;unfold BX;rw [q];show some ({ cls:=.type "set_iterator",data:=.fields ((#[f,.int j 0,.ref S,.int n 0,.int ep 0] : Array af).setIfInBounds k x) }:Obj)=_;rw [e]
theorem re (hit:BX s.heap I S first i n ep) (hS:cS w s.heap S es ep t) (hn:n=es.size)
  (h:ar (aL prog w) A.in1 (do
   if let .int slot _:=first then
    match <- Ld S slot.toNat i ep with
    |some (x,next) =>
     g_ (.ref I) 0 (bZ next)
     g_ (.ref I) 1 (bZ (i+1))
     ret x
    |none=>g_ (.ref I) 2 .none;rX (<- sU (.type "StopIteration") [])
   else
    let some places <- rY first|OL "internal:set_iterator"
    match places[i]? with
    |some (.int place _) =>
     let x <- setNextDrawn S place.toNat ep
     g_ (.ref I) 1 (bZ (i+1))
     ret x
    |some _=>OL "internal:set_iterator"
    |none=>g_ (.ref I) 0 (bZ 0);g_ (.ref I) 2 .none;rX (<- sU (.type "StopIteration") []))
   (fun fin s'=>∃ v,fin=.done (.ret v)/\Q (some v) s') (fun e s'=>ar (aL prog w) A (isInstance e (.type "StopIteration")) (fun b s''=>b=true/\Q none s'') E s') s) :
  ar (aL prog w) A (jl (.ref I)) Q E s:=by
 unfold jl;refine a7 (mq ?_);refine c8 (name:=ef "__next__") ⟨_,hit,rfl⟩ SI.slot_next ?_;refine bX SI.slot_next ⟨_,hit,rfl⟩ SI.entry_next ?_ (SI.args_next _);show ar _ _ (fieldsOf (.ref I) >>= _) _ _ s;refine a7 (FU hit rfl ?_);show ar _ _ (setEntries S >>= _) _ _ s;refine a7 (wpAny_setEntries_of hS.at_ rfl hS.fits ?_);rw [if_neg (by rw [hn];simp)];refine ck h (fun fin s' z=>?_) fun e s' z=>?_
 ·obtain ⟨v,rfl,q⟩:=z;exact ⟨v,rfl,aa q⟩
 ·refine a7 (ck z (fun b s'' ⟨hb,q⟩=>?_) fun _ _ z=>z);subst hb;exact aa q
theorem BY {B:bv}{Q:Option af->ai->Prop}{Q':Fin->ai->Prop}{o:Obj}{vs:Array af} (hh:B.handled=none) (ho:s.heap.get? I=some o) (hd:o.data=.fields vs) (hz:2<vs.size)
  (h:∀ h',y0 I s.heap h'->Q none { s with heap:=h' }) :
  ar (aL prog w) B (do g_ (.ref I) 2 .none;rX (<- sU (.type "StopIteration") []))
   Q' (fun e s'=>ar (aL prog w) A (isInstance e (.type "StopIteration")) (fun b s''=>b=true/\Q none s'') E s') s:=by
 refine a7 (fW ho hd hz ?_);show ar _ _ (sU (.type "StopIteration") [] >>= _) _ _ _;refine a7 ?_;simp only [sU,OM];refine a7 (bQ ?_ (by size_fits));refine a7 (m:=kS _ _) (eF (a:=e6) ?_ ?_)
 ·first
   |rfl
   |(simp only [kS];rfl)
 refine bQ ?_ (by size_fits);simp only [rX];refine a7 (Je ?_);rw [hh];refine a7 (aa (ON ?_));refine hG (T:="StopIteration") (b:=true) ⟨_,ax _ rfl,rfl⟩ vM ⟨rfl,?_⟩;exact h _ (((bG ..).extBut.push _).push _)
end
end
section
section
variable {prog:aX}{w:bn}{A:bv}{E:af->ai->Prop}{s:ai}{I S:ak}{es:Array (Int×af)}{ep:Nat}{t:kQ}{i n:Nat}{first:af}
theorem cS.keep (x:cS w h S es ep t) (k:∀ o,h.get? S=some o->h'.get? S=some o):cS w h' S es ep t:=⟨k _ x.at_,x.txt,x.nd,x.few,x.fits,x.led,x.pl⟩
theorem BZ {Q:af->ai->Prop} (hit:BX s.heap I S first i n ep) (h:Q (.ref I) s):ar (aL prog w) A (vG (.ref I)) Q E s:=by
 refine zW ⟨_,hit,rfl⟩ SI.slot_iter (bX SI.slot_iter ⟨_,hit,rfl⟩ SI.entry_self ?_ (SI.args_iter _));show ar _ _ (ret (.ref I)) _ _ s;exact aa ⟨_,rfl,"set_iterator",_,⟨_,hit,rfl⟩,SI.slot_next.lookup,h⟩
theorem fe {Q:Bool->ai->Prop}{B:bv} (h:Q (w.params.followText "set-order") s):ar (aL prog w) B setsByText Q E s:=by
 unfold setsByText;exact a7 (gZ (aa h))
theorem LW {B:bv}{Q':Fin->ai->Prop}{x:af}{nx:Nat}{E':af->ai->Prop} (hit:BX s.heap I S first i n ep)
  (h:∀ h',BX h' I S (.int nx 0) (i+1) n ep->bH I s.heap h'->Q' (.done (.ret x)) { s with heap:=h' }) :
  ar (aL prog w) B (do g_ (.ref I) 0 (bZ nx);g_ (.ref I) 1 (bZ (i+1));ret x) Q' E' s:=by
 refine a7 (fW hit rfl (by simp) ?_);have h1:BX (s.heap.update I (e8 (·.setIfInBounds 0 (bZ nx)))) I S (.int nx 0) i n ep:=hit.put (by simp [bZ]);refine a7 (fW h1 rfl (by simp) ?_);have h2:BX ((s.heap.update I (e8 (·.setIfInBounds 0 (bZ nx)))).update I (e8 (·.setIfInBounds 1 (bZ (i+1))))) I S (.int nx 0) (i+1) n ep:=h1.put (by simp [bZ]);exact aa (h _ h2 ((bG ..).trans (bG ..)))
theorem vV (f:Nat->Nat) (es:Array (Int×af)):(oq f es).size=es.size:=by
 rw [<- av,(vU f es).length_eq,av]
theorem Gi (hh:A.handled=none) (hw:w.params.followText "set-order"=true) (hne:S≠I) :
  OH prog w A I [I,S] [I] es.size (fun i v=>((oq (w.params.setOrder S ep) es).toList.map (·.2))[i]?=some v) (fun i h=>BX h I S (.int 0 0) i es.size ep/\cS w h S es ep t) where
 sub:=fun b hb=>by simp at hb;simp [hb]
 frame:=fun i h h' st k=>⟨k I (by simp) _ st.1,st.2.keep fun o e=>k S (by simp) o e⟩
 item:=fun i s Q E hi st hQ=>by
  obtain ⟨hit,hS⟩:=st;refine re hit hS rfl ?_;dsimp only;unfold Ld setWalk;refine a7 (a7 (bx hS.at_ rfl hS.fits (a7 (fe ?_))));rw [hw];simp only [if_true,bne_self_eq_false,bU,if_false];refine a7 (a7 (bx hS.at_ rfl hS.fits (a7 (fe ?_))));rw [hw];simp only [if_true];refine a7 (gZ (aa (aa ?_)));have hi':i<(oq (w.params.setOrder S ep) es).size:=by rw [vV];exact hi
  show ar _ _ (match ((oq (w.params.setOrder S ep) es)[i]?).map fun e=>(e.2,(0:Int).toNat) with
   |some (x,next)=>do g_ (.ref I) 0 (bZ next);g_ (.ref I) 1 (bZ (i+1));ret x
   |none=>do g_ (.ref I) 2 .none;rX (<- sU (.type "StopIteration") [])) _ _ s
  rw [getElem?_pos _ i hi'];refine LW (nx:=0) hit fun h' h1 sb=>⟨_,rfl,hQ _ h' s.toks ?_ ⟨h1,hS.keep fun o e=>(sb.2 S hne).trans e⟩ fun b o hb e=>(sb.2 b fun z=>hb (by simp [z])).trans e⟩;simp [hi']
 done:=fun s Q E st hQ=>by
  obtain ⟨hit,hS⟩:=st;refine re hit hS rfl ?_;dsimp only;unfold Ld setWalk;refine a7 (a7 (bx hS.at_ rfl hS.fits (a7 (fe ?_))));rw [hw];simp only [if_true,bne_self_eq_false,bU,if_false];refine a7 (a7 (bx hS.at_ rfl hS.fits (a7 (fe ?_))));rw [hw];simp only [if_true];refine a7 (gZ (aa (aa ?_)));show ar _ _ (match ((oq (w.params.setOrder S ep) es)[es.size]?).map fun e=>(e.2,(0:Int).toNat) with
   |some (x,next)=>do g_ (.ref I) 0 (bZ next);g_ (.ref I) 1 (bZ (es.size+1));ret x
   |none=>do g_ (.ref I) 2 .none;rX (<- sU (.type "StopIteration") [])) _ _ s
  rw [getElem?_neg _ es.size (by rw [vV];exact cQ _)];exact BY (by simpa using hh) hit rfl (by simp) fun h' eb=>hQ h' s.toks fun b o hb e=>eb b o (fun z=>hb (by simp [z])) e
 self:=fun i s Q E st h=>BZ st.1 h
inductive WT (h:bE) (T:ak) (ps:List Nat):Prop
 |mk (o k:_) (h0:h.get? T=some o) (h1:o.data=.seq (ps.map fun (p:Nat)=>ki (p:Int) 0).toArray k):WT h T ps
theorem DH (hh:A.handled=none)  (hne:S≠I) (hT:T≠I) (hp:∀ p∈ps,p<es.size) (hn:ps.length=es.size) :
  OH prog w A I [I,S,T] [I] es.size (fun i v=>(ps.map fun p=>(es.getD p (0,.none)).2)[i]?=some v) (fun i h=>BX h I S (.ref T) i es.size ep/\cS w h S es ep t/\WT h T ps) where
 sub:=fun b hb=>by simp at hb;simp [hb]
 frame:=fun i h h' st k=>⟨k I (by simp) _ st.1,st.2.1.keep fun o e=>k S (by simp) o e,let ⟨o,q,e,d⟩:=st.2.2;⟨o,q,k T (by simp) o e,d⟩⟩
 item:=fun i s Q E hi st hQ=>by
  obtain ⟨hit,hS,o,q,e,d⟩:=st;refine re hit hS rfl ?_;dsimp only;refine a7 (du e d ?_);have hi':i<ps.length:=by omega
  dsimp only;rw [show ((ps.map fun (p:Nat)=>ki (p:Int) 0).toArray)[i]?=some (.int (ps[i] : Nat) 0) by simp [hi']];dsimp only;unfold setNextDrawn;refine a7 (a7 (bx hS.at_ rfl hS.fits ?_));have hlt:=hp ps[i] (iK hi');simp only [bne_self_eq_false,bU,if_false,jI];rw [getElem?_pos es ps[i] hlt];refine aa ?_;refine a7 (fW hit rfl (by simp) ?_);have h1:BX (s.heap.update I (e8 (·.setIfInBounds 1 (bZ (i+1))))) I S (.ref T) (i+1) es.size ep:=hit.put (by simp [bZ]);have sb:bH I s.heap (s.heap.update I (e8 (·.setIfInBounds 1 (bZ (i+1))))):=bG ..;refine aa ⟨_,rfl,hQ _ _ s.toks ?_ ⟨h1,hS.keep fun o e=>(sb.2 S hne).trans e,o,q,(sb.2 T hT).trans e,d⟩ fun b o hb e=>(sb.2 b fun z=>hb (by simp [z])).trans e⟩;simp [hi',hlt]
 done:=fun s Q E st hQ=>by
  obtain ⟨hit,hS,o,q,e,d⟩:=st;refine re hit hS rfl ?_;dsimp only;refine a7 (du e d ?_);dsimp only;rw [show ((ps.map fun (p:Nat)=>ki (p:Int) 0).toArray)[es.size]?=none by simp [<- hn]];dsimp only;refine a7 (fW hit rfl (by simp) ?_);have h1:BX (s.heap.update I (e8 (·.setIfInBounds 0 (bZ 0)))) I S (.int 0 0) es.size es.size ep:=hit.put (by simp [bZ]);have sb:bH I s.heap (s.heap.update I (e8 (·.setIfInBounds 0 (bZ 0)))):=bG ..;exact BY (s:={ s with heap:=s.heap.update I (e8 (·.setIfInBounds 0 (bZ 0))) }) (by simpa using hh) h1 rfl (by simp) fun h' eb=>hQ h' s.toks fun b o hb e=>eb b o (fun z=>hb (by simp [z])) ((sb.2 b fun z=>hb (by simp [z])).trans e)
 self:=fun i s Q E st h=>BZ st.1 h
theorem LX  (h:p=#[j]):h_ p 0=0:=by subst h;simp [h_,zX]
theorem LY {p:Array Nat}{j:Nat} (h:p=#[j]):h_ p (j+1)=1:=by subst h;simp [h_,zX]
theorem JD (h : t.fits 1 = true) : ∃ j, t.place = #[j] := by
  have h1 : t.place.size = 1 := by
    simp only [mE, aF, beq_iff_eq] at h; exact h.1
  exact ⟨t.place[0], by apply Array.ext; · simp [h1]
                        · intro i h2 h3; have : i = 0 := by omega
                          subst this; simp⟩
theorem T3   (hl:t.led=true) (h:ar (aL prog w) B (k ()) Q E s) :
  ar (aL prog w) B ((if (!t.led && !es.isEmpty)=true then OL "set:maker-not-led" else pure ()) >>= k) Q E s:=by
 rw [if_neg (by rw [hl];simp)];exact a7 (aa h)
theorem uJ {B:bv}{slot g:Nat}{Q:Option (af×Nat)->ai->Prop} (hw:w.params.followText "set-order"=false) (hS:cS w s.heap S es ep t) (h1:es.size<=1)
  (h:Q (match es[h_ t.place slot]?,t.place[h_ t.place slot]? with|some (_,x),some j=>some (x,j+1)|_,_=>none) s):ar (aL prog w) B (Ld S slot g ep) Q E s:=by
 unfold Ld;refine a7 (bx hS.at_ rfl hS.fits (a7 (fe ?_)));rw [hw];simp only [bU,if_false];split
 ·rename_i z
  exact absurd (show (!t.plain&&decide (es.size > 1))=true from z) (by simp;omega)
 ·have hl:t.led=true:=by rw [hS.led,hw];rfl
  exact T3 hl (aa h)
theorem JF (hh:A.handled=none) (hw:w.params.followText "set-order"=false) (hne:S≠I) (h1:es.size<=1) :
  OH prog w A I [I,S] [I] es.size (fun i v=>(es.toList.map (·.2))[i]?=some v)
   (fun i h=>∃ k,BX h I S (.int (k:Nat) 0) i es.size ep/\cS w h S es ep t/\(i=0->k=0)/\(i=1->es.size=1->∃ j,t.place=#[j]/\k=j+1)) where
 sub:=fun b hb=>by simp at hb;simp [hb]
 frame:=fun i h h' st k=>let ⟨c,a1,a2,a3⟩:=st;⟨c,k I (by simp) _ a1,a2.keep fun o e=>k S (by simp) o e,a3⟩
 item:=fun i s Q E hi st hQ=>by
  obtain ⟨c,hit,hS,c0,c1⟩:=st;have hi0:i=0:=by omega
  subst hi0;obtain rfl:c=0:=c0 rfl;have e1:es.size=1:=by omega
  obtain ⟨j,hj⟩:=JD (t:=t) (by rw [<- e1];exact hS.fits);refine re hit hS rfl ?_;dsimp only;refine a7 (uJ hw hS h1 ?_);rw [show (((0:Nat):Int).toNat)=0 from rfl,LX hj,getElem?_pos es 0 (by omega),hj];refine LW (nx:=j+1) hit fun h' h1 sb=>⟨_,rfl,hQ _ h' s.toks ?_ ⟨j+1,h1,hS.keep fun o e=>(sb.2 S hne).trans e,by simp,fun _ _=>⟨j,hj,rfl⟩⟩ fun b o hb e=>(sb.2 b fun z=>hb (by simp [z])).trans e⟩;simp [e1]
 done:=fun s Q E st hQ=>by
  obtain ⟨c,hit,hS,c0,c1⟩:=st;refine re hit hS rfl ?_;dsimp only;refine a7 (uJ hw hS h1 ?_);have hz:es[h_ t.place ((c:Nat):Int).toNat]?=none:=by
   rcases L7 es.size with z|z
   ·rw [getElem?_neg];omega
   ·have e1:es.size=1:=by omega
    obtain ⟨j,hj,hc⟩:=c1 e1 e1;rw [hc,show (((j+1:Nat):Int).toNat)=j+1 from rfl,LY hj,getElem?_neg];omega
  rw [hz];exact BY (by simpa using hh) hit rfl (by simp) fun h' eb=>hQ h' s.toks fun b o hb e=>eb b o (fun z=>hb (by simp [z])) e
 self:=fun i s Q E st h=>let ⟨_,a1,_⟩:=st;BZ a1 h
theorem Gj {Q:af->ai->Prop} (hh:A.handled=none) (hS:cS w s.heap S es ep t)
  (h:∀ (I:ak) (fp:List ak) (ord:List af) (St:Nat->bE->Prop) (h':bE) (d:KG),s.heap.objs.size<=I->(∀ b∈fp,b=S\/s.heap.objs.size<=b)->(∀ b∈fp,b<h'.objs.size)->ord.Perm (es.toList.map (·.2))->(∀ B:bv,B.handled=none->OH prog w B I fp [I] ord.length (fun i v=>ord[i]?=some v) St)->St 0 h' ->
   (∀ b o,s.heap.get? b=some o->h'.get? b=some o)->OJ { s with heap:=h',drawn:=d } (.ref I) "set_iterator"->Q (.ref I) { s with heap:=h',drawn:=d }):ar (aL prog w) A (vG (.ref S)) Q E s:=by
 have hT:s.TypeIs (.ref S) "set":=⟨_,hS.at_,rfl⟩;have hlt:=aq hS.at_;refine zW hT F.slot_set_iter (bX F.slot_set_iter hT SI.entry_iter ?_ (F.args_set_iter_1 _));show ar _ _ (sV S >>= _) _ _ s;unfold sV;refine a7 (a7 (wpAny_setEntries_of hS.at_ rfl hS.fits (aa ?_)));show ar _ _ (setDrawn S >>= _) _ _ s;unfold setDrawn;refine a7 (a7 (bx hS.at_ rfl hS.fits (a7 (fe (aa ?_)))));have fin:∀ (first:af) (fp:List ak) (ord:List af) (St:Nat->bE->Prop) (h':bE) (d:KG),(∀ b o,s.heap.get? b=some o->h'.get? b=some o)->s.heap.objs.size<=h'.objs.size ->
   (∀ b∈fp,b=S\/b=h'.objs.size\/(s.heap.objs.size<=b/\b<h'.objs.size))->ord.Perm (es.toList.map (·.2))->(∀ B:bv,B.handled=none->OH prog w B h'.objs.size fp [h'.objs.size] ord.length (fun i v=>ord[i]?=some v) St) ->
   (∀ h'':bE,(∀ b o,h'.get? b=some o->h''.get? b=some o)->BX h'' h'.objs.size S first 0 es.size ep->St 0 h'') ->
   ar (aL prog w) A.in1 (setEpoch S >>= fun e=>newFields "set_iterator" [first,bZ 0,.ref S,bZ es.size,bZ e] >>= fun x=>ret x) (fun fin s'=>∃ v,fin=.done (.ret v)/\∃ T' r,s'.TypeIs v T'/\typeLookup (.type T') "__next__"=pure (some r)/\Q v s') E { s with heap:=h',drawn:=d }:=by
  intro first fp ord St h' d kp hsz hfp pm W st
  have hS':cS w h' S es ep t:=hS.keep fun o e=>kp S o e;refine a7 (wpAny_setEpoch_of (s:={ s with heap:=h',drawn:=d }) hS'.at_ rfl hS'.fits ?_);refine a7 (bQ ?_ (by size_fits));have gp:∀ b o,h'.get? b=some o->(h'.push { cls:=.type "set_iterator",dict:=none,data:=.fields #[first,bZ 0,.ref S,bZ es.size,bZ ep] }).get? b=some o:=fun b o e=>ag _ e;have it:(h'.push { cls:=.type "set_iterator",dict:=none,data:=.fields #[first,bZ 0,.ref S,bZ es.size,bZ ep] }).get? h'.objs.size=some { cls:=.type "set_iterator",dict:=none,data:=.fields #[first,bZ 0,.ref S,bZ es.size,bZ ep] }:=ax _ rfl;refine aa ⟨_,rfl,"set_iterator",_,⟨_,it,rfl⟩,SI.slot_next.lookup,h h'.objs.size fp ord St _ d hsz (fun b hb=>?_) (fun b hb=>?_) pm W (st _ gp it) (fun b o e=>gp b o (kp b o e)) ⟨_,it,rfl⟩⟩
  ·rcases hfp b hb with z|z|z
   ·exact .inl z
   ·exact .inr (by rw [z];exact hsz)
   ·exact .inr z.1
  ·rw [cg];rcases hfp b hb with z|z|z
   ·rw [z];exact eV (aI hlt hsz)
   ·rw [z];exact dq _
   ·exact eV z.2
 dsimp only;split
 ·rename_i z
  have z:(!w.params.followText "set-order" && (!t.plain&&decide (es.size > 1)))=true:=z;refine a7 (uI _ _ _ _ (by simp) fun ys d pm=>?_);simp only [OM];have hyl:ys.length=es.size:=by have:=pm.length_eq;rwa [eS] at this
  have zl:=fj hS.few;refine a7 (bQ ?_ (by show (ys.map fun (i:Nat)=>bZ i).toArray.size<=sizeLine;simp;omega));have tp:∀ ob:Obj,(s.heap.push ob).objs.size=s.heap.objs.size+1:=fun ob=>cg ..;refine fin (.ref s.heap.objs.size) [s.heap.objs.size+1,S,s.heap.objs.size] (ys.map fun p=>(es.getD p (0,.none)).2)
   (fun i h=>BX h (s.heap.objs.size+1) S (.ref s.heap.objs.size) i es.size ep/\cS w h S es ep t/\WT h s.heap.objs.size ys) (s.heap.push _) d
   (fun b o e=>ag _ e) (by rw [tp];exact om _) (fun b hb=>?_) ?_ (fun B hB=>?_) (fun h'' k it=>⟨by rw [tp] at it;exact it,hS.keep fun o e=>k S o (ag _ e),_,_,k _ _ (ax _ rfl),rfl⟩)
  ·simp only [aO,bg,or_false] at hb;rcases hb with y|y|y
   ·exact .inr (.inl (by rw [tp];exact y))
   ·exact .inl y
   ·exact .inr (.inr ⟨by rw [y];exact au _,by rw [tp,y];exact dq _⟩)
  ·refine (pm.map _).trans (.of_eq ?_);apply xG
   ·simp
   ·intro k h1 h2;have:k<es.size:=by simpa using h1
    simp [this]
  ·rw [ao,hyl,tp];exact DH hB (aD (eV hlt)) (aD (dq _)) (fun p hp=>List.mem_range.mp (pm.mem_iff.mp hp)) hyl
 ·rename_i z
  have z:¬ (!w.params.followText "set-order" && (!t.plain&&decide (es.size > 1)))=true:=z;refine a7 (aa ?_);have hne:S≠s.heap.objs.size:=aD hlt;cases hw:w.params.followText "set-order" with
  |true =>
   refine fin (bZ 0) [s.heap.objs.size,S] ((oq (w.params.setOrder S ep) es).toList.map (·.2)) (fun i h=>BX h s.heap.objs.size S (.int 0 0) i es.size ep/\cS w h S es ep t) s.heap s.drawn (fun _ _ e=>e) (au _) (fun b hb=>?_) ((vU _ es).map _) (fun B hB=>?_) (fun h'' k it=>⟨it,hS.keep fun o e=>k S o e⟩)
   ·simp only [aO,bg,or_false] at hb;exact hb.elim (fun z=>.inr (.inl z)) .inl
   ·rw [ao,av,vV];exact Gi hB hw hne
  |false =>
   have h1:es.size<=1:=by
    rw [hw] at z;rcases hS.pl with y|y
    ·omega
    ·rw [y] at z;simpa using z
   refine fin (bZ 0) [s.heap.objs.size,S] (es.toList.map (·.2)) (fun i h=>∃ k,BX h s.heap.objs.size S (.int (k:Nat) 0) i es.size ep/\cS w h S es ep t/\(i=0->k=0)/\(i=1->es.size=1->∃ j,t.place=#[j]/\k=j+1)) s.heap s.drawn (fun _ _ e=>e) (au _) (fun b hb=>?_) (.refl _) (fun B hB=>?_) (fun h'' k it=>⟨0,it,hS.keep fun o e=>k S o e,fun _=>rfl,fun y=>by cases y⟩)
   ·simp only [aO,bg,or_false] at hb;exact hb.elim (fun z=>.inr (.inl z)) .inl
   ·rw [ao,av];exact JF hB hw hne h1
end
end
section
section
theorem DI (hh:A.handled=none) (hS:cS w s.heap S es ep t)
  (h:∀ (ord:List af) (h':bE) (d:KG) (tk:Nat),ord.Perm (es.toList.map (·.2))->(∀ b o,s.heap.get? b=some o->h'.get? b=some o)->s.heap.objs.size<=h'.objs.size->Q ord { s with heap:=h',drawn:=d,toks:=tk }) :
  ar (aL prog w) A (collect (.ref S)) Q E s:=by
 have hlt:=aq hS.at_;unfold collect;refine a7 (wpAny_runValue (fo F.entry_proto_collect ?_));rw [dR F.plain_proto_collect _];show ar _ A.in1 (newList [] >>= fun l=>again (.builtin "list.__iadd__" ⟨[l,.ref S],[]⟩)) _ _ s;refine a7 (bQ ?_);refine aa ⟨iF F.plain_list_iadd _,fo F.entry_list_iadd ?_⟩;rw [dR F.plain_list_iadd _];let s1:ai:={ s with heap:=s.heap.push { cls:=.type "list",data:=.seq ([] : List af).toArray } }
 have sz1:s1.heap.objs.size=s.heap.objs.size+1:=cg ..;have at1:s1.heap.get? s.heap.objs.size=some { cls:=.type "list",data:=.seq ([] : List af).toArray }:=ax _ rfl;have hS1:cS w s1.heap S es ep t:=hS.keep fun o e=>ag _ e;show ar _ A.in1 (uv (.ref s.heap.objs.size) (.ref S) (.ref s.heap.objs.size)) _ _ s1;have hT1:s1.TypeIs (.ref S) "set":=⟨_,hS1.at_,rfl⟩;unfold uv;refine a7 (sS hT1 ?_);have e1:wF (.ref s.heap.objs.size) (.ref S)=false:=by simp [wF,fm hlt]
 have e2:(ip "set" == ip "list")=false:=by decide
 have e3:(ip "set" == ip "tuple")=false:=by decide
 simp only [e1,e2,e3,Bool.or_false,bU,if_false];refine a7 (Gj (A:=A.in1) (by simpa using hh) hS1 fun I fp ord St h' d hI hfp hfl pm W st kp tI=>?_);let s2:ai:={ s1 with heap:=h',drawn:=d }
 have hS2:cS w s2.heap S es ep t:=hS1.keep fun o e=>kp S o e;have hT2:s2.TypeIs (.ref S) "set":=⟨_,hS2.at_,rfl⟩;refine a7 (cH ?_);unfold Builtin.List.listLengthHint;refine a7 (wpAny_specialOf (s:=s2) hT2 F.slot_set_len.lookup ?_);dsimp only;rw [show splitId "set.__len__"=some ("set","__len__") from by decide +kernel];dsimp only;refine a7 (hG (b:=true) (s:=s2) hT2 (by rw [FT];kernel_rfl) ?_);rw [if_neg (by decide),if_pos (by decide)];refine a7 (sS (s:=s2) hT2 (aa ?_));rw [if_pos (by decide)];refine a7 (i9 ?_);have nS:s.heap.objs.size∉fp:=fun z=>by
  rcases hfp _ z with q|q
  ·exact absurd hlt (by rw [<- q];exact cQ _)
  ·rw [sz1] at q;exact absurd q (Nat.not_succ_le_self _)
 have at2:s2.heap.get? s.heap.objs.size=some { cls:=.type "list",data:=.seq ([] : List af).toArray }:=kp _ _ at1;refine a7 ?_;show ar _ A.in1 (KS s.heap.objs.size (·.push .none) >>= fun _=>KS s.heap.objs.size (·.pop)) _ _ s2;refine a7 (n6 at2 rfl ?_);have at3:=dE (fJ (·.push e6)) at2 rfl;refine n6 at3 rfl ?_;have at4:=dE (fJ (·.pop)) at3 rfl;have oth:∀ b o,b≠s.heap.objs.size->s2.heap.get? b=some o->((s2.heap.update s.heap.objs.size (fJ (·.push e6))).update s.heap.objs.size (fJ (·.pop))).get? b=some o :=
  fun b o hb e=>(dn _ _ (c9 hb)).trans ((dn _ _ (c9 hb)).trans e)
 have zl:ord.length<=sizeLine:=by rw [pm.length_eq,ao,av];exact fj hS.few
 have W1:=W A.in1 (by simpa using hh);refine aa ⟨iF F.plain_extend_loop _,codeAny_extend_loopS (A:=A) W1.toS zl _ nS _ ord.length 0 { s2 with heap:=(s2.heap.update s.heap.objs.size (fJ (·.push e6))).update s.heap.objs.size (fJ (·.pop)) } _ _ rfl (cV _) (W1.frame 0 _ _ st fun b hb o e=>oth b o (fun z=>nS (z ▸ hb)) e) at4 (ItemsOf.nil _) fun s' acc' c' hm hS' hacc=>?_⟩;show ar _ A (load s.heap.objs.size >>= _) _ _ s';refine a7 (wpAny_load hS' (aa ?_));have hacc':acc'.toList=ord:=by
  apply List.ext_getElem?;intro j;rw [dC];by_cases hj:j<acc'.size
  ·have:=hacc.2 j acc'[j] (by simp [hj]);rw [this];simp [hj]
  ·rw [getElem?_neg acc' j hj,cu (by rw [<- hacc.1];omega)]
 rw [hacc'];obtain ⟨h3,g3,d3,t3,o3⟩:=s';obtain rfl:g3=s.gens:=hm.gens;obtain rfl:d3=d:=hm.drawn;obtain rfl:o3=s.os:=hm.os;have old:∀ b o,s.heap.get? b=some o->h3.get? b=some o:=fun b o e=>by
  have hb:=aq e;refine hm.heap b o ?_ (oth b o (aD hb) (kp b o (ag _ e)));simp only [aO,bg,or_false,not_or];exact ⟨aD hb,aD (aI hb (by have q:=hI;rw [sz1] at q;exact Nat.le_of_succ_le q))⟩
 refine h ord h3 _ t3 pm old ?_;have:=aq (show h3.get? s.heap.objs.size=some _ from hS');exact cz this
theorem DJ  (hc:ar (aL prog w) A.in1 (collect x) (fun vs s1=>∃ ss,sW vs ss/\vs.length<64 /\
   ∀ (h':bE) (vs':List af) (ss':List Str) (e:Nat),(∀ b o,s1.heap.get? b=some o->h'.get? b=some o)->h'.get? s1.heap.objs.size=some (seqObj "list" vs'.toArray e)->sW vs' ss'->ss'.Perm ss->sortedS ss'=true ->
    Q (.ref s1.heap.objs.size) { s1 with heap:=h' }) E s):ar (aL prog w) A (call (.builtin "sorted") [x]) Q E s:=by
 refine AD kind_sorted plain_sorted entry_sorted (args_sorted1 _) ?_;unfold kR.«sorted»;refine a7 (m:=checkCount "sorted" 1 1 _) (aa ?_);refine a7 (ck hc (fun vs s1 z=>?_) fun _ _ z=>z);obtain ⟨ss,hss,h64,hq⟩:=z;refine a7 (wpAny_newList ?_);have at1:(s1.heap.push (seqObj "list" vs.toArray 0)).get? s1.heap.objs.size=some (seqObj "list" vs.toArray 0):=ax _ rfl;show ar _ _ _ _ _ { s1 with heap:=s1.heap.push (seqObj "list" vs.toArray 0) };refine a7 (cH (bX slot_list_sort ⟨_,at1,rfl⟩ entry_list_sort (list_sort_treeK strKind_oneLt at1 hss.keysOf (fun v₁ v₂ bT e=>keyKind_strs (by rw [<- e];exact hss)) h64 fun st' a1 a2=>⟨_,rfl,?_⟩) (args_list_sort _)));obtain ⟨ss',p1,p2,p3⟩:=sorted_out_str hss a1 a2;obtain ⟨e,at2⟩:=sortedHeap_at (out:=(arrOf st').map (·.2)) at1;refine aa ⟨_,rfl,hq _ _ ss' e (fun b o q=>?_) at2 p1 p2 p3⟩;have hb:=aq q;rw [sortedHeap_old (aD hb) (by rw [cg];exact eV hb)];exact ag _ q
end
end
section
def pX (x y:Str):Bool:=decide (x.cps.toList<y.cps.toList)
def Gk (x:Str):List Str->List Str
 |[]=>[x]
 |y::r=>if pX y x then y::Gk x r else x::y::r
def jo:List Str->List Str
 |[]=>[]
 |x::r=>Gk x (jo r)
theorem vW (x:Str):∀ l,(Gk x l).Perm (x::l)
 |[]=>.refl _
 |y::r=>by
  rw [Gk];split
  ·exact ((vW x r).cons y).trans (.swap ..)
  ·exact .refl _
theorem gJ:∀ l,(jo l).Perm l
 |[]=>.refl _
 |x::r=>(vW x _).trans ((gJ r).cons x)
theorem tw (x:Str):pX x x=false:=decide_eq_false (List.lt_irrefl _)
theorem rf (h1:pX x y=true) (h2:pX y z=true):pX x z=true :=
 decide_eq_true (List.lt_trans (of_decide_eq_true h1) (of_decide_eq_true h2))
theorem xK (h1:pX x y=false) (h2:pX y x=false):x=y:=by
 have h1:¬ x.cps.toList<y.cps.toList:=of_decide_eq_false h1;have h2:¬ y.cps.toList<x.cps.toList:=of_decide_eq_false h2;have:x.cps.toList=y.cps.toList:=List.le_antisymm (List.not_lt.mp h2) (List.not_lt.mp h1)
 cases x;cases y;exact congrArg Str.mk (Array.toList_inj.mp this)
abbrev OA (l:List Str):Prop:=l.Pairwise fun a b=>pX b a=false
theorem L_ (x:Str):∀ l,OA l->OA (Gk x l)
 |[],_=>by simp [Gk,OA]
 |y::r,h=>by
  obtain ⟨h1,h2⟩:=List.pairwise_cons.mp h;rw [Gk];split
  ·rename_i hy
   refine List.pairwise_cons.mpr ⟨fun z hz=>?_,L_ x r h2⟩;rcases List.mem_cons.mp ((vW x r).mem_iff.mp hz) with e|e
   ·subst e;cases q:pX z y with
    |false=>rfl
    |true=>exact absurd (rf q hy) (by rw [tw];decide)
   ·exact h1 z e
  ·rename_i hy
   have hy:pX y x=false:=by simpa using hy
   refine List.pairwise_cons.mpr ⟨fun z hz=>?_,h⟩;rcases List.mem_cons.mp hz with e|e
   ·subst e;exact hy
   ·cases q:pX z x with
    |false=>rfl
    |true =>
     have hzy:=h1 z e;cases q2:pX x y with
     |true=>rw [rf q q2] at hzy;cases hzy
     |false=>rw [<- xK hy q2,hzy] at q;cases q
theorem qx:∀ l,OA (jo l)
 |[]=>.nil
 |x::r=>L_ x _ (qx r)
theorem uK:∀ (p:Str) (l:List Str),risingS p l=true->OA (p::l)
 |p,[],_=>by simp [OA]
 |p,x::r,h=>by
  rw [risingS,aF] at h;obtain ⟨h1,h2⟩:=h;have h1:pX x p=false:=by
   rw [ltCps_eq] at h1;simpa [pX] using h1
  have ih:=uK x r h2;refine List.pairwise_cons.mpr ⟨fun z hz=>?_,ih⟩;rcases List.mem_cons.mp hz with e|e
  ·rw [e];exact h1
  ·have hzx:=(List.pairwise_cons.mp ih).1 z e;cases q:pX z p with
   |false=>rfl
   |true =>
    cases q2:pX p x with
    |true=>rw [rf q q2] at hzx;cases hzx
    |false=>rw [xK q2 h1,hzx] at q;cases q
theorem B_:∀ (l:List Str),sortedS l=true->OA l
 |[],_=>.nil
 |x::r,h=>uK x r h
theorem AT:∀ {l l':List Str},l.Perm l'->OA l->OA l'->l=l'
 |[],l',p,_,_=>by rw [List.nil_perm.mp p]
 |x::r,[],p,_,_=>by have:=p.length_eq;simp at this
 |x::r,y::r',p,h,h'=>by
  obtain ⟨a1,a2⟩:=List.pairwise_cons.mp h;obtain ⟨b1,b2⟩:=List.pairwise_cons.mp h';have e:x=y:=by
   have hx:x∈y::r':=p.mem_iff.mp ah;have hy:y∈x::r:=p.mem_iff.mpr ah;rcases List.mem_cons.mp hx with e|e
   ·exact e
   ·rcases List.mem_cons.mp hy with e' | e'
    ·exact e'.symm
    ·exact xK (b1 x e) (a1 y e')
  subst e;rw [AT (List.Perm.cons_inv p) a2 b2]
theorem DK (p:l'.Perm l) (h:sortedS l'=true):l'=jo l:=AT (p.trans (gJ l).symm) (B_ _ h) (qx l)
theorem vX (h:OA l) (nd:l.Nodup):l.Pairwise fun a b=>pX a b=true:=by
 induction l with
 |nil=>exact .nil
 |cons x r ih =>
  obtain ⟨a1,a2⟩:=List.pairwise_cons.mp h;obtain ⟨n1,n2⟩:=List.nodup_cons.mp nd;refine List.pairwise_cons.mpr ⟨fun y hy=>?_,ih a2 n2⟩;cases q:pX x y with
  |true=>rfl
  |false=>exact absurd (xK q (a1 y hy) ▸ hy) n1
theorem lc:∀ {ss:List Str}{us:List af},dH (ss.map V.str) us->sW us ss
 |[],_,.nil=>.nil
 |x::r,_,.cons h t=>by obtain ⟨tk,rfl⟩:=h;exact .cons x tk (lc t)
theorem oG:∀ {ss:List Str}{us:List af},sW us ss->dH (ss.map V.str) us
 |_,_,.nil=>.nil
 |_,_,.cons x t h=>.cons ⟨t,rfl⟩ (oG h)
theorem fu:∀ {ss:List Str}{us:List af},sW us ss->us.length=ss.length
 |_,_,.nil=>rfl
 |_,_,.cons x t h=>by simp [fu h]
theorem ym  (h:sW us ss) (i:Nat) (v:af) (e:us[i]?=some v):∃ x t,ss[i]?=some x/\v=jk x t:=by
 induction h generalizing i with
 |nil=>simp at e
 |cons y t _ ih =>
  cases i with
  |zero=>simp at e;exact ⟨y,t,by simp,e.symm⟩
  |succ i=>simp at e;simpa using ih i e
theorem uL:∀ {l:List (Int×af)},(∀ e∈l,tm w e)->sW (l.map (·.2)) (l.map jF)
 |[],_=>.nil
 |e::r,h=>by
  obtain ⟨x,tk,rfl⟩:=h e ah;exact .cons x tk (uL fun e he=>h e (a9 _ he))
theorem C0  (h:sW us ss) (p:us'.Perm us):∃ ss',sW us' ss'/\ss'.Perm ss:=by
 refine ⟨us'.map strOf,strsAre_map _ fun v hv=>h.all v (p.mem_iff.mp hv),?_⟩;rw [<- h.strs];exact p.map _
def nU (w:bn) (a:ak) (ss:List Str):HO:=.ext fun h=>l9 w h a ss
theorem C1      (x:l9 w h a ss):dw P w H h a (nU w a ss) :=
 ⟨x,let ⟨_,_,_,I,_⟩:=x;⟨_,I.at_⟩,fun _ _ y k=>y.keep k⟩
section
theorem DL (hc:X.calm=true):j7 X (.type "set") (fun xs H Q=>∃ p ss,xs=[.ref p]/\(ni X.K H p (ss.map V.str)\/ko X.K H p (ss.map V.str))/\ss.length+1<gY/\∀ a,H a=none->Q (.ref a) (upd H a (nU X.w a (dk [] ss)))):=by
 intro pins s σ H xs us Q I r h;obtain ⟨p,ss,rfl,hq,hz,q⟩:=h;obtain ⟨u,rfl,rx⟩:=jH r;cases rx;have hh:=I.ok.hd hc;have fin:∀ (h':bE) (tk:Nat),l9 X.w h' s.heap.objs.size (dk [] ss)->(∀ b o,s.heap.get? b=some o->h'.get? b=some o)->EP X pins σ Q (.ref s.heap.objs.size) { s with heap:=h',toks:=tk }:=fun h' tk hS kp =>
  ⟨.ref s.heap.objs.size,_,I.laid (t':=tk) kp (au _) (C1 hS),rfl,q _ (I.hok.fresh (au _))⟩
 rcases hq with hq|hq
 ·obtain ⟨its,r',⟨o,n,ho,h1,h2,h3⟩,_⟩:=I.list hq;have sa:=lc r';exact uH (LV (by simpa using hh) h1 ⟨n,h3⟩) ho (fun i v e=>ym sa i v (by simpa using e)) (by simp [fu sa]) (by simp [fu sa];exact hz) fin
 ·obtain ⟨its,r',⟨o,ho,h1,n,h3⟩,_⟩:=I.tuple hq;have sa:=lc r';exact uH (PB (by simpa using hh) h1 ⟨n,h3⟩) ho (fun i v e=>ym sa i v (by simpa using e)) (by simp [fu sa]) (by simp [fu sa];exact hz) fin
theorem vY:j7 X (.builtin "sorted") (fun xs H Q=>∃ p ss,xs=[.ref p]/\ni X.K H p (ss.map V.str)/\ss.length<64/\∀ l,H l=none->Q (.ref l) (upd H l (.lst ((jo ss).map V.str)))):=by
 intro pins s σ H xs us Q I r h;obtain ⟨p,ss,rfl,hq,hz,q⟩:=h;obtain ⟨u,rfl,rx⟩:=jH r;cases rx;obtain ⟨its,r',pl,hl⟩:=I.list hq;have sa:=lc r';refine sorted_strs pl.isList sa (by rw [fu sa];exact hz) fun out ss' a1 a2 a3=>?_;obtain ⟨e,he⟩:=sortedAll_at s.heap its out;have kp:∀ b o,s.heap.get? b=some o->(sortedAll s.heap its out).get? b=some o:=fun b o=>sortedAll_old;obtain rfl:=DK a2 a3;refine ⟨.ref (s.heap.objs.size+1),upd H (s.heap.objs.size+1) (.lst ((jo ss).map V.str)),I.laid (t':=s.toks) kp (om _) (show dw X.prog X.w _ _ _ (.lst _) from ⟨?_,out.toList,e,oG a1,by simpa [seqObj] using he⟩),rfl,q _ (I.hok.fresh (om _))⟩;rw [ao,(gJ ss).length_eq];have:=hl;rw [ao] at this;exact this
theorem xq (hc:X.calm=true):j7 X (.builtin "sorted") (fun xs H Q=>∃ p ss,xs=[.ref p]/\H p=some (nU X.w p ss)/\ss.length<64/\∀ l,H l=none->Q (.ref l) (upd H l (.lst ((jo ss).map V.str)))):=by
 intro pins s σ H xs us Q I r h;obtain ⟨p,ss,rfl,hq,hz,q⟩:=h;obtain ⟨u,rfl,rx⟩:=jH r;cases rx;have hh:=I.ok.hd hc;obtain ⟨⟨es,ep,t,S,pm⟩,_⟩:=(show dw X.prog X.w H s.heap p (nU X.w p ss) from I.hok p _ hq);refine DJ (DI (by simpa using hh) S fun ord h' d tk po kp sz=>?_);obtain ⟨ss1,sa,p1⟩:=C0 (uL S.txt) po;have ln:ss1.length=ss.length:=(p1.trans pm).length_eq;refine ⟨ss1,sa,by rw [fu sa,ln];exact hz,fun h2 vs' ss' e kp2 at2 sa2 p2 s2=>?_⟩;have kk:∀ b o,s.heap.get? b=some o->h2.get? b=some o:=fun b o e=>kp2 b o (kp b o e);have es':ss'=jo ss:=DK (p2.trans (p1.trans pm)) s2;subst es';have fr:=I.hok.fresh sz;have ok2:dw X.prog X.w (upd H h'.objs.size (.lst ((jo ss).map V.str))) h2 h'.objs.size (.lst ((jo ss).map V.str)) :=
  ⟨by rw [ao,(gJ ss).length_eq];exact cy (cz hz) (by rw [Db];decide),vs',e,oG sa2,at2⟩
 exact ⟨.ref h'.objs.size,_,I.call' (s':={ s with heap:=h2,drawn:=d,toks:=tk }) (ch:=[]) rfl (Un.laid kk sz fr) (I.hok.laid kk sz ok2) I.bare (fun b z=>absurd z (by simp)),rfl,q _ fr⟩
end
end
section
section
theorem wL {prog:aX}{w:bn}{B:bv}{bs:List Bool}{its:List af} (r:dH (bs.map V.bl) its):TruthOf prog w B (fun i v=>its.toArray[i]?=some v) (fun i=>bs.getD i false):=by
 intro i v s Q E hv hq;have hv:its[i]?=some v:=by simpa using hv
 have hl:=r.length;rw [ao] at hl;obtain ⟨hi,_⟩:=List.getElem?_eq_some_iff.mp hv;have hb:bs[i]?=some bs[i]:=aY (by omega);obtain ⟨u,hu,ru⟩:=r.get (i:=i) (x:=.bl bs[i]) (by rw [aW,hb];rfl);rw [hv] at hu;cases hu;cases ru;have hq:Q (bs.getD i false) s:=hq;rw [c6,hb] at hq;exact cY hq
theorem M0 (bs:List Bool):(bA bs.length).all (fun i=>bs.getD i false)=bs.all id:=by
 rw [zN,bY,bY];constructor
 ·intro h b hb;obtain ⟨i,hi,rfl⟩:=gz hb;have:=h i (List.mem_range.mpr hi);simpa [c6,hi] using this
 ·intro h i hi;have hi:=List.mem_range.mp hi;have:=h bs[i] (iK hi);simpa [c6,hi] using this
theorem M1 (bs:List Bool):(bA bs.length).any (fun i=>bs.getD i false)=bs.any id:=by
 rw [zN,pU,pU];constructor
 ·rintro ⟨i,hi,h⟩;have hi:=List.mem_range.mp hi;exact ⟨bs[i],iK hi,by simpa [c6,hi] using h⟩
 ·rintro ⟨b,hb,h⟩;obtain ⟨i,hi,rfl⟩:=gz hb;exact ⟨i,List.mem_range.mpr hi,by simpa [c6,hi] using h⟩
theorem yn (hc:X.calm=true):j7 X (.builtin "all") (fun xs H Q=>∃ p,∃ bs:List Bool,xs=[.ref p]/\ni X.K H p (bs.map V.bl)/\Q (.bl (bs.all id)) H):=by
 intro pins s σ H xs us Q I r h;obtain ⟨p,bs,rfl,hq,q⟩:=h;obtain ⟨u,rfl,rx⟩:=jH r;cases rx;obtain ⟨its,r',pl,hl⟩:=I.list hq;have ln:its.toArray.size=bs.length:=by have:=r'.length;simp at this ⊢;omega
 obtain ⟨o,ho,hk⟩:=pl.isList;refine call_all_walk (gy pl.isList ⟨_,_,_,_,_,_,_,rfl,kj (by simpa using I.ok.hd hc) _ p (aD (aq ho)) its.toArray,⟨⟨_,ax _ rfl,rfl,rfl⟩,pl.isList.push _⟩,wL r',fun h' tk kp=>?_⟩);rw [ln,M0];refine ⟨.bl _,H,I.kept (t':=tk) fun b o e=>kp b o ?_ (ag _ e),rfl,q⟩;simp only [cJ];exact aD (aq e)
theorem yo (hc:X.calm=true):j7 X (.builtin "any") (fun xs H Q=>∃ p,∃ bs:List Bool,xs=[.ref p]/\ni X.K H p (bs.map V.bl)/\Q (.bl (bs.any id)) H):=by
 intro pins s σ H xs us Q I r h;obtain ⟨p,bs,rfl,hq,q⟩:=h;obtain ⟨u,rfl,rx⟩:=jH r;cases rx;obtain ⟨its,r',pl,hl⟩:=I.list hq;have ln:its.toArray.size=bs.length:=by have:=r'.length;simp at this ⊢;omega
 obtain ⟨o,ho,hk⟩:=pl.isList;refine call_any_walk (gy pl.isList ⟨_,_,_,_,_,_,_,rfl,kj (by simpa using I.ok.hd hc) _ p (aD (aq ho)) its.toArray,⟨⟨_,ax _ rfl,rfl,rfl⟩,pl.isList.push _⟩,wL r',fun h' tk kp=>?_⟩);rw [ln,M1];refine ⟨.bl _,H,I.kept (t':=tk) fun b o e=>kp b o ?_ (ag _ e),rfl,q⟩;simp only [cJ];exact aD (aq e)
theorem JH:pW X (bO .LtE) (fun x y H Q=>∃ i j,x=.str i/\y=.str j/\Q (.bl (!decide (j.cps.toList<i.cps.toList))) H):=by
 intro pins s σ H x y v u Q I rx ry h;obtain ⟨i,j,rfl,rfl,q⟩:=h;obtain ⟨t,rfl⟩:=rx;obtain ⟨t',rfl⟩:=ry;exact PySem.P.le_str (G5 I q rfl)
end
end
section
def UL (x:Str):It:=⟨fun i _=>i<x.cps.size,fun i H v H'=>H'=H/\∃ c,x.cps[i]?=some c/\v=.str ⟨#[c]⟩,fun i _=>x.cps.size<=i⟩
theorem M2 {P:aX}{w:bn}{K:a8}{tg:bd} (x:Str) (t:Tok) (it:ak):BO P w K tg (UL x) [it] it (fun i h=>h.IsStrIter it (i3 x) x t i) where
 mem:=by simp
 obj:=fun i h st b hb=>by
  obtain rfl:b=it:=by simpa using hb
  obtain ⟨o,e,c,d⟩:=st;exact ⟨o,e,fun v z=>by rw [d] at z;cases z⟩
 keep:=fun i h h' st k=>let ⟨o,e,r⟩:=st;⟨o,k it (by simp) o e,r⟩
 item:=by
  intro X hP hw hK hc i pins s σ H E I hf st hg;subst hP hw hK;have hg:i<x.cps.size:=hg;obtain ⟨f0,f1,f2,f3,f4,f5⟩:=hf it (by simp);have hx:x.cps[i]?=some x.cps[i]:=getElem?_pos _ i hg;have go:∀ (h':bE) (tk tk':Nat),h'.IsStrIter it (i3 x) x t (i+1)->bH it s.heap h'->∃ u,some (jk ⟨#[x.cps[i]]⟩ tk)=some u /\
    ar (aL X.prog X.w) X.A (ir tg (.ref it) u) (fun _ s2=>∃ v H',bB X pins σ H' s2/\cR v u/\(UL x).yld i H v H'/\s2.heap.IsStrIter it (i3 x) x t (i+1)/\∀ b∈[it],H' b=none) E { s with heap:=h',toks:=tk' }:=fun h' tk tk' st' sb=>by
   have I1:bB X pins σ H { s with heap:=h',toks:=tk' }:=I.turned (fun b o hb e=>(sb.2 b hb).trans e) f0 f1 f3 f4 f5;refine ⟨_,rfl,?_⟩;have q:∃ v H',bB X pins σ H' { s with heap:=h',toks:=tk' }/\cR v (jk ⟨#[x.cps[i]]⟩ tk)/\(UL x).yld i H v H'/\h'.IsStrIter it (i3 x) x t (i+1)/\∀ b∈[it],H' b=none :=
    ⟨.str ⟨#[x.cps[i]]⟩,H,I1,⟨tk,rfl⟩,⟨rfl,_,hx,rfl⟩,st',fun b hb=>(hf b hb).1⟩
   unfold ir;cases tg<;>exact aa q
  cases ha:x.cps.all (·<128)
  ·have ty:i3 x="str_iterator":=by unfold i3;rw [ha];rfl
   rw [ty] at st;exact wpAny_pyNext_wide_item st hx fun h' st' sb=>go h' _ _ (by rw [ty];exact st') sb
  ·have ty:i3 x="str_ascii_iterator":=by unfold i3;rw [ha];rfl
   rw [ty] at st;exact wpAny_pyNext_ascii_item st hx fun h' st' sb=>go h' _ _ (by rw [ty];exact st') sb
 done:=by
  intro X hP hw hK hc i pins s σ H E I hf st hg;subst hP hw hK;have hg:x.cps.size<=i:=hg;obtain ⟨f0,f1,f2,f3,f4,f5⟩:=hf it (by simp);have hx:x.cps[i]?=none:=getElem?_neg _ i (Nat.not_lt.mpr hg);unfold i3 at st;cases ha:x.cps.all (·<128)
  ·rw [ha] at st;exact wpAny_pyNext_wide_end (I.ok.hd hc) st hx fun h' eb=>⟨rfl,I.turned (t':=s.toks) (fun b o hb e=>eb b o hb e) f0 f1 f3 f4 f5⟩
  ·rw [ha] at st;exact wpAny_pyNext_ascii_end (I.ok.hd hc) st hx fun h' eb=>⟨rfl,I.turned (t':=s.toks) (fun b o hb e=>eb b o hb e) f0 f1 f3 f4 f5⟩
 self:=fun _ _ _ _ _ st h=>by
  unfold i3 at st;cases ha:x.cps.all (·<128)
  ·rw [ha] at st;exact wpAny_pyIter_striter_wide st h
  ·rw [ha] at st;exact wpAny_pyIter_striter_ascii st h
def WU (tl:TE):TI:=fun σ H R=>tl σ H fun v H1=>∃ x,v=.str x/\R (UL x) H1
theorem M3 {X:Cx}{tg l:bd}{tl:TE} (hl:PE X l tl):PI X tg l (WU tl):=by
 intro pins s σ H R I h;refine fG (hl pins s σ H _ I h) fun v s1 h_0=>?_;obtain ⟨y,H1,I1,r1,q1⟩:=h_0;obtain ⟨x,rfl,q⟩:=q1;obtain ⟨t,rfl⟩:=r1;refine wpAny_pyIter_strU ?_;refine ⟨s1.heap.objs.size,[s1.heap.objs.size],_,_,H1,rfl,I1.kept (t':=s1.toks) fun b o e=>ag _ e,M2 x t _,⟨_,ax _ rfl,rfl,rfl⟩,fun b hb=>?_,q⟩;obtain rfl:b=s1.heap.objs.size:=by simpa using hb
 exact I1.fpOk (au _) (I1.hok.fresh (au _))
end
section
section
theorem bB.turnedL {t':Nat}{ch:List ak} (I:bB X pins σ H s) (k:∀ b o,b∉ch->s.heap.get? b=some o->h'.get? b=some o) (hf:∀ b∈ch,se X pins H b):bB X pins σ H { s with heap:=h',toks:=t' }:=by
 have nt:∀ b u,H b=some u->b∉ch:=fun b u e z=>by rw [(hf b z).1] at e;cases e
 refine I.step (g':=s.gens) (d':=s.drawn) (ch:=ch) (fun b hb=>?_) (fun b o _ _ hc e _=>k b o hc e) (fun b o _ _ hc e _=>⟨o.slots,k b o hc e⟩) (fun _ _ _ _ n=>n)
  (fun b o hc e=>⟨o,k b o hc e⟩) (fun _ _ e=>e) (fun _ _ _ e=>e) (fun b ps e=>⟨#[],by rw [e];simp⟩) (fun m hm=>?_) (fun b u e=>?_) I.bare
 ·obtain ⟨f0,f1,f2,f3,f4,f5⟩:=hf b hb;exact ⟨f3,f1,f4,f5⟩
 ·obtain ⟨o,es,ep,ho,r⟩:=hm;exact ⟨o,es,ep,k _ o (fun z=>(hf _ z).f1 rfl) ho,r⟩
 ·refine (I.hok b u e).stay (fun c v hc q=>k c v ?_ q) (fun _ q=>q) (fun _ _ q=>q) fun _ _ _ q=>q;rcases hc with z|z
  ·rw [z];exact nt b u e
  ·exact nt c _ z
theorem bB.track  (I:bB X pins σ H s) (hf:se X pins H D) (new:dw X.prog X.w (upd H D ho) s.heap D ho):bB X pins σ (upd H D ho) s:=by
 obtain ⟨f0,f1,f2,f3,f4,f5⟩:=hf;have I':bB X pins σ (upd H D ho) { s with heap:=s.heap,gens:=s.gens,drawn:=s.drawn,toks:=s.toks }:=I.step (ch:=[D]) (fun b hb=>by
   obtain rfl:b=D:=by simpa using hb
   exact ⟨f3,f1,f4,f5⟩) (fun b o _ _ _ e _=>e) (fun b o _ _ _ e _=>⟨o.slots,e⟩) (fun b o hc e n=>by rw [a_ (fun z=>hc (by simp [z]))];exact n) (fun b o _ e=>⟨o,e⟩)
  (fun b xs e=>by rw [a_ (bp e f0)];exact e) (fun b o xs e=>by rw [a_ (bp e f0)];exact e) (fun b ps e=>⟨#[],by rw [a_ (bp e f0),e];simp⟩) (fun m hm=>hm) (AQ I.hok f0 new) I.bare
 exact I'
end
section
theorem uM  (ti:s.heap.IsTupleIter it l i) (tl:s.heap.IsTuple l items) (hx:items[i]?=some x)
  (q:∀ h',h'.IsTupleIter it l (i+1)->bH it s.heap h'->Q x { s with heap:=h' }):ar (aL prog w) A (cp (.ref it)) Q E s:=by
 obtain ⟨oi,ei,ci,di⟩:=id ti;obtain ⟨ot,et,_,nt,dt⟩:=tl;unfold cp;refine a7 (c8 (name:=ef "__next__") ti.typeIs iN ?_);refine bX iN ti.typeIs Dd ?_ (BH _);show ar _ _ (FV (.ref it) 0 >>= _) _ _ s;refine a7 (dJ ei di (x:=.ref l) rfl ?_);show ar _ _ (if (bK l==e6)=true then _ else _) _ _ s;rw [if_neg (fun z:(bK l==e6)=true=>bh z)];show ar _ _ (FV (.ref it) 1 >>= _) _ _ s;refine a7 (dJ ei di (x:=.int i 0) rfl ?_);show ar _ _ (rY (.ref l) >>= _) _ _ s;refine a7 (du et dt ?_);simp only [jI,hx];refine a7 (fW ei di (by simp) (aa ⟨x,rfl,aa (q _ ?_ (bG ..))⟩));refine ⟨_,dE _ ei (Obj.isFreed_of_fields (Le di _)),(Obj.cls_mapFields ..).trans ci,?_⟩;rw [Le di];simp [bZ]
theorem uN (hh:A.handled=none) (ti:s.heap.IsTupleIter it l i) (tl:s.heap.IsTuple l items) (hx:items[i]?=none)
  (q:∀ h' e,y0 it s.heap h'->(∃ o,h'.get? e=some o/\o.cls=.type "StopIteration")->E (.ref e) { s with heap:=h' }):ar (aL prog w) A (cp (.ref it)) Q E s:=by
 obtain ⟨oi,ei,ci,di⟩:=id ti;obtain ⟨ot,et,_,nt,dt⟩:=tl;unfold cp;refine a7 (c8 (name:=ef "__next__") ti.typeIs iN ?_);refine bX iN ti.typeIs Dd ?_ (BH _);show ar _ _ (FV (.ref it) 0 >>= _) _ _ s;refine a7 (dJ ei di (x:=.ref l) rfl ?_);show ar _ _ (if (bK l==e6)=true then _ else _) _ _ s;rw [if_neg (fun z:(bK l==e6)=true=>bh z)];show ar _ _ (FV (.ref it) 1 >>= _) _ _ s;refine a7 (dJ ei di (x:=.int i 0) rfl ?_);show ar _ _ (rY (.ref l) >>= _) _ _ s;refine a7 (du et dt ?_);simp only [jI,hx];refine a7 (i9 (a7 (fW ei di (by simp) ?_)));show ar _ _ (sU (.type "StopIteration") [] >>= _) _ _ _;refine a7 ?_;simp only [sU,OM];refine a7 (bQ ?_ (by size_fits));refine a7 (m:=kS _ _) (eF (a:=e6) ?_ ?_)
 ·first
   |rfl
   |(simp only [kS];rfl)
 refine bQ ?_ (by size_fits);simp only [rX];refine a7 (Je ?_);rw [show A.in1.handled=none from hh];refine a7 (aa (ON ?_));exact q _ _ (((bG ..).extBut.push _).push _) ⟨_,ax _ rfl,rfl⟩
theorem JJ (hh:A.handled=none) (it l:ak) (hne:l≠it) (items:Array af) :
  Draws prog w A it [it,l] items.size (fun i v=>items[i]?=some v) (fun i h=>h.IsTupleIter it l i/\h.IsTuple l items) where
 live:=fun i h st=>let ⟨o,e,_⟩:=st.1;⟨o,e⟩
 frame:=fun i h h' st k=>⟨let ⟨o,e,r⟩:=st.1;⟨o,k it (by simp) o e,r⟩,let ⟨o,e,r⟩:=st.2;⟨o,k l (by simp) o e,r⟩⟩
 item:=fun i s Q E hi st q=>uM st.1 st.2 (x:=items[i]) (by simp [hi]) fun h' t' sb=>q _ h' s.toks (by simp [hi]) ⟨t',st.2.extBut sb.extBut hne⟩ sb
 done:=fun s Q E st q=>uN hh st.1 st.2 (by simp) q
end
theorem yp (l:ak) (items:Array af) (n:Nat) (dct:Option ak) (sl:Array (Option af)) :
  Meets (kR.«enumerate.__new__» ⟨[.type "enumerate",.ref l],[]⟩) (fun _ R s=>s.heap.get? l=some { cls:=.type "tuple",dict:=dct,data:=.seq items n,slots:=sl } /\
   R (.ok (.ret (.ref (s.heap.push { cls:=.type "tuple_iterator",data:=.fields #[.ref l,.int 0 0] }).objs.size)))
    { s with heap:=(s.heap.push { cls:=.type "tuple_iterator",data:=.fields #[.ref l,.int 0 0] }).push { cls:=.type "enumerate",data:=.fields #[.none,.bool false,.ref s.heap.objs.size,bZ 0,.none,.none] } }) :=
 .of_wp fun prog w A R s h=>by
  obtain ⟨hp,g,d,tk,os⟩:=s;obtain ⟨hl,h⟩:=h;have hsub:=PySem.sub_enumerate;have hL:Fy (Fz ⟨hp,g,d,tk,os⟩) l items:=⟨_,hl,rfl,n,rfl⟩;wp_walk using fK hl;refine wpAny_stack_any fun st=>aa ?_;split
  ·rename_i c _ _ _ _ _
   cases (c==ip "enumerate")
   ·wp_walk using fK hl,fV hL;exact ⟨_,rfl,h⟩
   ·wp_walk using fK hl,fV hL;exact ⟨_,rfl,h⟩
  ·wp_walk using fK hl,fV hL;exact ⟨_,rfl,h⟩
end
section
section
theorem A5   (hL:s.heap.IsTuple l items)
  (h:∀ h',IsEnum h' (s.heap.objs.size+1) s.heap.objs.size 0 .none->h'.IsTupleIter s.heap.objs.size l 0->(∀ b o,s.heap.get? b=some o->h'.get? b=some o)->h'.objs.size=s.heap.objs.size+2 ->
   Q (.ref (s.heap.objs.size+1)) { s with heap:=h' }):ar (aL prog w) A (call (.type "enumerate") [.ref l]) Q E s:=by
 obtain ⟨⟨c,dc,dt,sl⟩,hl,hc,n,hd⟩:=hL;obtain rfl:c=.type "tuple":=hc;obtain rfl:dt=.seq items n:=hd;refine callType_new F.called_enumerate (by decide) (F.typeCall_enumerate_1 _) (F.newCall_enumerate_1 _) (fun obj=>F.args_object_init_2 obj _) F.entry_enumerate_new (yp l items n dc sl) ⟨hl,?_⟩;have z1:(s.heap.push { cls:=.type "tuple_iterator",data:=.fields #[.ref l,.int 0 0] }).objs.size=s.heap.objs.size+1:=cg ..;show _/\_;rw [z1];have he:IsEnum ((s.heap.push { cls:=.type "tuple_iterator",data:=.fields #[.ref l,.int 0 0] }).push { cls:=.type "enumerate",data:=.fields #[.none,.bool false,.ref s.heap.objs.size,bZ 0,.none,.none] }) (s.heap.objs.size+1) s.heap.objs.size 0 .none:=by
  have q:=ax (s.heap.push { cls:=.type "tuple_iterator",data:=.fields #[.ref l,.int 0 0] }) (o:={ cls:=.type "enumerate",data:=.fields #[.none,.bool false,.ref s.heap.objs.size,bZ 0,.none,.none] }) rfl;rw [z1] at q;exact q
 exact ⟨⟨_,he,rfl⟩,h _ he ⟨_,ag _ (ax _ rfl),rfl,rfl⟩ (fun b o e=>ag _ (ag _ e)) (by rw [cg,z1])⟩
end
def WV (K:a8) (a:ak):It :=
 ⟨fun i H=>∃ xs x,ko K H a xs/\xs[i]?=some x,fun i H v H'=>∃ p,H p=none/\v=.ref p/\∀ xs,ko K H a xs->∃ x,xs[i]?=some x/\H'=upd H p (.tup [.int i,x]),fun i H=>∃ xs,ko K H a xs/\xs.length<=i⟩
theorem JK {P:aX}{w:bn}{K:a8}{elts:List bd}{x1}{pos:Pos} (a e it:ak) (hei:e≠it):BO P w K (.Tuple elts x1 pos) (WV K a) [e,it] e (fun i h=>(∃ old,IsEnum h e it i old)/\h.IsTupleIter it a i) where
 mem:=by simp
 obj:=fun i h st b hb=>by
  simp only [aO,bg,or_false] at hb;rcases hb with rfl|rfl
  ·obtain ⟨⟨old,q⟩,_⟩:=st;exact ⟨_,q,fun v z=>by cases z⟩
  ·obtain ⟨_,o,q,_,d⟩:=st;exact ⟨o,q,fun v z=>by rw [d] at z;cases z⟩
 keep:=fun i h h' st k=>⟨let ⟨old,q⟩:=st.1;⟨old,k e (by simp) _ q⟩,let ⟨o,q,r⟩:=st.2;⟨o,k it (by simp) o q,r⟩⟩
 item:=by
  intro X hP hw hK hc i pins s σ H E I hf st hg;subst hP hw hK;obtain ⟨xs,x,hq,hx⟩:=hg;obtain ⟨its,rv,p,hz⟩:=I.tuple hq;obtain ⟨u,hu,ru⟩:=rv.get hx;obtain ⟨⟨old,he⟩,hit⟩:=st;have hit0:=hit;obtain ⟨oi,ei,_⟩:=hit0;have hai:a≠it:=fun z=>by
   obtain ⟨o1,e1,c1,_⟩:=p;obtain ⟨o2,e2,c2,_⟩:=hit;rw [z,e2] at e1;cases e1;rw [c2] at c1;exact absurd (Hz c1) (by decide)
  have hae:a≠e:=fun z=>by
   obtain ⟨o1,e1,c1,_⟩:=p;rw [z,he] at e1;cases e1;exact absurd (Hz (show ip "enumerate"=ip "tuple" from c1)) (by decide)
  have hlt:i<its.toArray.size:=by simp;exact (List.getElem?_eq_some_iff.mp hu).1
  have he0:=aq he;refine wpAny_pyNext_enum_itemD (JJ (by simpa using I.ok.hd hc) it a hai its.toArray) he ⟨hit,p⟩ hlt hei (by simp [hei,c9 hae]) ?_;intro x' h1 tk hx' eo st1 tup sz k1;have hx'':its[i]?=some x':=by simpa using hx'
  rw [hu] at hx'';cases hx'';refine ⟨_,rfl,wpAny_letOwnedTupleGo_enum eo fun h2 e2 sb2=>?_⟩;have szn:s.heap.objs.size≠e:=fm he0;have I2:bB X pins σ H { s with heap:=h2,toks:=tk+1 }:=I.turnedL (ch:=[e,it]) (fun b o hb q=>by
   simp only [aO,bg,or_false,not_or] at hb;exact (sb2.2 b hb.1).trans (k1 b o hb.1 hb.2 q)) hf
  have fT:=I.fpOk (H':=H) (au _) (I.hok.fresh (au _));have tup2:h2.get? s.heap.objs.size=some { cls:=.type "tuple",data:=.seq #[.int i tk,u] }:=(sb2.2 _ szn).trans tup;have I3:=I2.track (ho:=.tup [.int i,x]) fT ⟨by show 2<=sizeLine;decide,[.int i tk,u],.cons ⟨tk,rfl⟩ (.cons ru .nil),⟨_,tup2,rfl,0,rfl⟩⟩;refine ⟨.ref s.heap.objs.size,_,I3,rfl,⟨_,fT.1,rfl,fun ys hy=>?_⟩,⟨⟨u,?_⟩,?_⟩,fun b hb=>?_⟩
  ·rw [I.tuple_inj hy hq];exact ⟨x,hx,rfl⟩
  ·have:(((i+1:Nat):Int))=(i:Int)+1:=by omega
   rw [this];exact e2
  ·obtain ⟨o,q,r⟩:=st1.1;exact ⟨o,(sb2.2 it (c9 hei)).trans q,r⟩
  ·rw [a_]
   ·exact (hf b hb).1
   ·simp only [aO,bg,or_false] at hb;rcases hb with z|z
    ·rw [z];exact aD he0
    ·rw [z];exact aD (aq ei)
 done:=by
  intro X hP hw hK hc i pins s σ H E I hf st hg;subst hP hw hK;obtain ⟨xs,hq,hx⟩:=hg;obtain ⟨its,rv,p,hz⟩:=I.tuple hq;obtain ⟨⟨old,he⟩,hit⟩:=st;have hl:=rv.length;have hT:s.TypeIs (.ref e) "enumerate":=⟨_,he,rfl⟩;unfold jl;refine a7 (mq (c8 (name:=ef "__next__") hT KU ?_));refine bX KU hT F.entry_enumerate_next ?_ (F.args_enumerate_next_1 _);show ar _ _ (FV (.ref e) 2 >>= _) _ _ _;refine a7 (dJ he rfl (x:=.ref it) rfl ?_);refine a7 (uN (by simpa using I.ok.hd hc) hit (show s.heap.IsTuple a its.toArray from p) (by simp;omega) fun h' z eb hz'=>?_);obtain ⟨o,ho,hcl⟩:=hz';refine a7 (hG (T:="StopIteration") (b:=true) ⟨o,ho,hcl⟩ vM ?_);exact aa ⟨rfl,I.turnedL (t':=s.toks) (ch:=[e,it]) (fun b o hb q=>eb b o (by
   simp only [aO,bg,or_false,not_or] at hb;exact hb.2) q) hf⟩
 self:=fun _ _ _ _ _ st h=>let ⟨⟨_,q⟩,_⟩:=st;wpAny_pyIter_enum q h
def UM (K:a8) (ta:TA):TI:=fun σ H R=>ta σ H fun vs H1=>∃ a xs,vs=[.ref a]/\ko K H1 a xs/\R (WV K a) H1
theorem PD {X:Cx}{elts:List bd}{x1}{tpos p pos:Pos}{a:bd}{ta:TA} (hg:Gl X "enumerate") (hm:X.mg "enumerate"=none) (ha:PA X [a] ta) (hs:aJ [a] X.env=[(false,ed a X.env)]:=by rfl) :
  PI X (.Tuple elts x1 tpos) (.Call (.Name "enumerate" p) [a] [] pos) (UM X.K ta):=by
 intro pins s σ H R I h;refine Call_ (s_ I hg hm boot_enumerate (gG (fG (ha pos pins s σ H _ I h) fun us s1 ⟨vs,H1,I1,r1,q1⟩=>?_) hs rfl));obtain ⟨ad,xs,rfl,hq,q⟩:=q1;obtain ⟨u,rfl,rx⟩:=jH r1;cases rx;obtain ⟨its,rv,tp,hz⟩:=I1.tuple hq;refine A5 (show s1.heap.IsTuple ad its.toArray from tp) fun h' e1 t1 kp sz=>?_;refine wpAny_pyIter_enum e1 ?_;have I2:bB X pins σ H1 { s1 with heap:=h' }:=I1.kept (t':=s1.toks) kp;refine ⟨s1.heap.objs.size+1,[s1.heap.objs.size+1,s1.heap.objs.size],_,_,H1,rfl,I2,JK ad _ _ (fm (dq _)),⟨⟨.none,e1⟩,t1⟩,fun b hb=>?_,q⟩;simp only [aO,bg,or_false] at hb;rcases hb with z|z
 ·rw [z];exact I1.fpOk (om _) (I1.hok.fresh (om _))
 ·rw [z];exact I1.fpOk (au _) (I1.hok.fresh (au _))
end
section
section
variable {prog:aX}{w:bn}{A:bv}{E:af->ai->Prop}{s:ai}{z TI TO i1 i2 l1 l2:ak}{k1 k2:Nat}{xs ys:Array af}{x y a b:af}
theorem j3    (t:h.IsTupleIter it l k) (sb:bH c h h') (ne:it≠c):h'.IsTupleIter it l k:=t.extBut sb.extBut ne
theorem oH    (t:h.IsTuple l xs) (sb:bH c h h') (ne:l≠c):h'.IsTuple l xs:=t.extBut sb.extBut ne
theorem M4 {Q:af->ai->Prop} (D:OO z TI TO i1 i2 l1 l2) (za:vN s.heap z TI TO .none) (pa:jJ s.heap TI (.ref i1) (.ref i2)) (pb:jJ s.heap TO a b)
  (u1:s.heap.IsTupleIter i1 l1 k1) (u2:s.heap.IsTupleIter i2 l2 k2) (v1:s.heap.IsTuple l1 xs) (v2:s.heap.IsTuple l2 ys) (hx:xs[k1]?=some x) (hy:ys[k2]?=some y)
  (q:∀ h',vN h' z TI TO (bZ s.heap.objs.size)->jJ h' TO x y->h'.IsTupleIter i1 l1 (k1+1)->h'.IsTupleIter i2 l2 (k2+1)->jJ h' s.heap.objs.size x y ->
   (∀ c o,c≠z->c≠TO->c≠i1->c≠i2->s.heap.get? c=some o->h'.get? c=some o)->Q (.ref s.heap.objs.size) { s with heap:=h' }) :
  ar (aL prog w) A (kR.«zip.__next__» ⟨[.ref z],[]⟩) (fun fin s'=>∃ v,fin=.done (.ret v)/\Q v s') E s:=by
 show ar _ _ (FV (.ref z) 2 >>= _) _ _ _;refine a7 (dJ za rfl (x:=.bool false) rfl ?_);show ar _ _ (FV (.ref z) 3 >>= _) _ _ _;refine a7 (dJ za rfl (x:=.ref TI) rfl ?_);refine a7 (du pa rfl ?_);show ar _ _ (eB (.ref z) >>= _) _ _ _;refine a7 ?_;unfold eB;refine a7 (dJ za rfl (x:=.none) rfl (aa ?_));simp only [if_true];refine a7 (i9 ?_);refine a7 (dJ za rfl (x:=.ref TO) rfl ?_);refine a7 (ig za (by simp) fun g1 z1 b1=>?_);replace z1:vN g1 z TI TO .ellipsis:=z1;refine a7 ?_;simp only [Ou,OP,jg,mD];refine a7 (a7 (xH ?_));show ar _ _ (cp (.ref i1) >>= _) _ _ _;refine a7 (uM (j3 u1 b1 D.i1z) (oH v1 b1 D.l1z) hx fun g2 w1 b2=>aa ?_);have p2:jJ g2 TO a b:=b2.extBut _ _ D.TOi1 (b1.extBut _ _ D.TOz pb);refine a7 (du p2 rfl (a7 (vO p2 fun g3 p3 b3=>?_)));replace p3:jJ g3 TO x b:=p3;refine a7 (mv (aa (a7 (a7 (xH ?_)))));show ar _ _ (cp (.ref i2) >>= _) _ _ _;refine a7 (uM (j3 (j3 (j3 u2 b1 D.i2z) b2 D.i12.symm) b3 D.TOi2.symm) (oH (oH (oH v2 b1 D.l2z) b2 D.l2i1) b3 D.l2TO) hy fun g4 w2 b4=>aa ?_);have p4:jJ g4 TO x b:=b4.extBut _ _ D.TOi2 p3;refine a7 (du p4 rfl (a7 (vO p4 fun g5 p5 b5=>?_)));replace p5:jJ g5 TO x y:=p5;refine a7 (mv (aa (aa ?_)));refine a7 (du p5 rfl (a7 (wpAny_newTuple ?_)));have sz:g5.objs.size=s.heap.objs.size:=by rw [b5.1,b4.1,b3.1,b2.1,b1.1]
 have z5:vN g5 z TI TO .ellipsis:=b5.extBut _ _ D.TOz.symm (b4.extBut _ _ D.i2z.symm (b3.extBut _ _ D.TOz.symm (b2.extBut _ _ D.i1z.symm z1)));have k5:∀ c o,c≠z->c≠TO->c≠i1->c≠i2->s.heap.get? c=some o->g5.get? c=some o:=fun c o n1 n2 n3 n4 e =>
  b5.extBut _ _ n2 (b4.extBut _ _ n4 (b3.extBut _ _ n2 (b2.extBut _ _ n3 (b1.extBut _ _ n1 e))))
 have y1:g5.IsTupleIter i1 l1 (k1+1):=j3 (j3 (j3 w1 b3 D.TOi1.symm) b4 D.i12) b5 D.TOi1.symm;have y2:g5.IsTupleIter i2 l2 (k2+1):=j3 w2 b5 D.TOi2.symm;have zl:z<g5.objs.size:=aq z5;show ar _ _ (mF (.ref z) (.ref g5.objs.size) >>= _) _ _ _;refine a7 ?_;unfold mF;have z6:vN (g5.push { cls:=.type "tuple",data:=.seq #[x,y] }) z TI TO .ellipsis:=ag _ z5;refine a7 (ig z6 (by simp) fun g7 z7 b7=>?_);replace z7:vN g7 z TI TO (bZ g5.objs.size):=z7;refine ig z7 (by simp) fun g8 z8 b8=>?_;replace z8:vN g8 z TI TO (bZ g5.objs.size):=z8;have up:∀ c o,c≠z->g5.get? c=some o->g8.get? c=some o:=fun c o n1 e=>b8.extBut _ _ n1 (b7.extBut _ _ n1 (ag _ e));have p8:jJ g8 g5.objs.size x y:=b8.extBut _ _ (fm zl) (b7.extBut _ _ (fm zl) (ax _ rfl));rw [sz] at z8 p8;refine aa ⟨_,rfl,?_⟩;show Q (.ref g5.objs.size) _;rw [sz];exact q g8 z8 (up _ _ D.TOz p5) (let ⟨o,e,r⟩:=y1;⟨o,up _ o D.i1z e,r⟩) (let ⟨o,e,r⟩:=y2;⟨o,up _ o D.i2z e,r⟩) p8 fun c o n1 n2 n3 n4 e=>up c o n1 (k5 c o n1 n2 n3 n4 e)
theorem M5 (hh:A.handled=none) (D:OO z TI TO i1 i2 l1 l2) (za:vN s.heap z TI TO .none) (pa:jJ s.heap TI (.ref i1) (.ref i2)) (pb:jJ s.heap TO a b)
  (u1:s.heap.IsTupleIter i1 l1 k1) (u2:s.heap.IsTupleIter i2 l2 k2) (v1:s.heap.IsTuple l1 xs) (v2:s.heap.IsTuple l2 ys) (hend:xs[k1]?=none\/ys[k2]?=none)
  (q:∀ h' e,(∀ c o,c≠z->c≠TO->c≠i1->c≠i2->s.heap.get? c=some o->h'.get? c=some o)->(∃ o,h'.get? e=some o/\o.cls=.type "StopIteration")->E (.ref e) { s with heap:=h' }) :
  ar (aL prog w) A (kR.«zip.__next__» ⟨[.ref z],[]⟩) Q E s:=by
 show ar _ _ (FV (.ref z) 2 >>= _) _ _ _;refine a7 (dJ za rfl (x:=.bool false) rfl ?_);show ar _ _ (FV (.ref z) 3 >>= _) _ _ _;refine a7 (dJ za rfl (x:=.ref TI) rfl ?_);refine a7 (du pa rfl ?_);show ar _ _ (eB (.ref z) >>= _) _ _ _;refine a7 ?_;unfold eB;refine a7 (dJ za rfl (x:=.none) rfl (aa ?_));simp only [if_true];refine a7 (i9 ?_);refine a7 (dJ za rfl (x:=.ref TO) rfl ?_);refine a7 (ig za (by simp) fun g1 z1 b1=>?_);replace z1:vN g1 z TI TO .ellipsis:=z1;refine a7 ?_;simp only [Ou,OP,jg,mD];refine a7 (a7 (xH ?_));show ar _ _ (cp (.ref i1) >>= _) _ _ _;cases hx:xs[k1]? with
 |none =>
  refine a7 (uN hh (j3 u1 b1 D.i1z) (oH v1 b1 D.l1z) hx fun g2 e b2 he=>?_);obtain ⟨oe,ee,ce⟩:=he;have z2:vN g2 z TI TO .ellipsis:=b2 _ _ D.i1z.symm z1;have ez:e≠z:=fun n=>by subst n;rw [z2] at ee;cases ee;simp at ce
  refine ig z2 (by simp) fun g3 _ b3=>q g3 e (fun c o n1 _ n3 _ m=>b3.extBut _ _ n1 (b2 _ _ n3 (b1.extBut _ _ n1 m))) ⟨oe,b3.extBut _ _ ez ee,ce⟩
 |some x =>
  have hy:ys[k2]?=none:=hend.resolve_left fun n=>by rw [hx] at n;cases n
  refine a7 (uM (j3 u1 b1 D.i1z) (oH v1 b1 D.l1z) hx fun g2 w1 b2=>aa ?_);have p2:jJ g2 TO a b:=b2.extBut _ _ D.TOi1 (b1.extBut _ _ D.TOz pb);refine a7 (du p2 rfl (a7 (vO p2 fun g3 p3 b3=>?_)));refine a7 (mv (aa (a7 (a7 (xH ?_)))));show ar _ _ (cp (.ref i2) >>= _) _ _ _;refine a7 (uN hh (j3 (j3 (j3 u2 b1 D.i2z) b2 D.i12.symm) b3 D.TOi2.symm) (oH (oH (oH v2 b1 D.l2z) b2 D.l2i1) b3 D.l2TO) hy fun g4 e b4 he=>?_);obtain ⟨oe,ee,ce⟩:=he;have z4:vN g4 z TI TO .ellipsis:=b4 _ _ D.i2z.symm (b3.extBut _ _ D.TOz.symm (b2.extBut _ _ D.i1z.symm z1));have ez:e≠z:=fun n=>by subst n;rw [z4] at ee;cases ee;simp at ce
  refine ig z4 (by simp) fun g5 _ b5=>q g5 e (fun c o n1 n2 n3 n4 m=>b5.extBut _ _ n1 (b4 _ _ n4 (b3.extBut _ _ n2 (b2.extBut _ _ n3 (b1.extBut _ _ n1 m))))) ⟨oe,b5.extBut _ _ ez ee,ce⟩
end
abbrev Wb (h:bE) (l1:ak):bE:=h.push { cls:=.type "tuple_iterator",data:=.fields #[.ref l1,.int 0 0] }
abbrev Wc (h:bE) (l1 l2:ak):bE:=(Wb h l1).push { cls:=.type "tuple_iterator",data:=.fields #[.ref l2,.int 0 0] }
abbrev Wd (h:bE) (l1 l2:ak):bE:=(Wc h l1 l2).push { cls:=.type "tuple",data:=.seq #[.ref h.objs.size,.ref (Wb h l1).objs.size] }
abbrev We (h:bE) (l1 l2:ak):bE:=(Wd h l1 l2).push { cls:=.type "tuple",data:=.seq #[.none,.none] }
abbrev U9 (h:bE) (l1 l2:ak):bE:=(We h l1 l2).push { cls:=.type "zip",data:=.fields #[.none,.bool false,.bool false,.ref (Wc h l1 l2).objs.size,.ref (Wd h l1 l2).objs.size] }
theorem A6 (l1 l2:ak) (xs ys:Array af) :
  Meets (kR.«zip.__new__» ⟨[.type "zip",.ref l1,.ref l2],[]⟩) (fun _ R s=>s.heap.IsTuple l1 xs/\s.heap.IsTuple l2 ys/\R (.ok (.ret (.ref (We s.heap l1 l2).objs.size))) { s with heap:=U9 s.heap l1 l2 }) :=
 .of_wp fun prog w A R s h=>by
  obtain ⟨hp,g,d,tk,os⟩:=s;obtain ⟨v1,v2,h⟩:=h;have hsub:=PySem.sub_zip;have L1:Fy (Fz ⟨hp,g,d,tk,os⟩) l1 xs:=v1;have L2:Fy (Fz ⟨hp.push { cls:=.type "tuple_iterator",data:=.fields #[.ref l1,.int 0 0] },g,d,tk,os⟩) l2 ys:=Heap.IsTuple.push v2 _;wp_walk using fV L1,fV L2;exact ⟨_,rfl,h⟩
section
theorem C2   (v1:s.heap.IsTuple l1 xs) (v2:s.heap.IsTuple l2 ys)
  (h:∀ h',vN h' (s.heap.objs.size+4) (s.heap.objs.size+2) (s.heap.objs.size+3) .none->jJ h' (s.heap.objs.size+2) (.ref s.heap.objs.size) (.ref (s.heap.objs.size+1)) ->
   jJ h' (s.heap.objs.size+3) .none .none->h'.IsTupleIter s.heap.objs.size l1 0->h'.IsTupleIter (s.heap.objs.size+1) l2 0 ->
   (∀ c o,s.heap.get? c=some o->h'.get? c=some o)->Q (.ref (s.heap.objs.size+4)) { s with heap:=h' }):ar (aL prog w) A (call (.type "zip") [.ref l1,.ref l2]) Q E s:=by
 refine callType_new F.called_zip (by decide) (F.typeCall_zip_2 _ _) (F.newCall_zip_2 _ _) (fun obj=>F.args_object_init_3 obj _ _) F.entry_zip_new (A6 l1 l2 xs ys) ⟨v1,v2,?_⟩;have n1:(Wb s.heap l1).objs.size=s.heap.objs.size+1:=cg ..;have n2:(Wc s.heap l1 l2).objs.size=s.heap.objs.size+2:=by rw [cg,n1]
 have n3:(Wd s.heap l1 l2).objs.size=s.heap.objs.size+3:=by rw [cg,n2]
 have n4:(We s.heap l1 l2).objs.size=s.heap.objs.size+4:=by rw [cg,n3]
 have c5:(U9 s.heap l1 l2).get? (We s.heap l1 l2).objs.size=some _:=ax _ rfl;have c4:(U9 s.heap l1 l2).get? (Wd s.heap l1 l2).objs.size=some _:=ag _ (ax _ rfl);have c3:(U9 s.heap l1 l2).get? (Wc s.heap l1 l2).objs.size=some _:=ag _ (ag _ (ax _ rfl));have c2:(U9 s.heap l1 l2).get? (Wb s.heap l1).objs.size=some _:=ag _ (ag _ (ag _ (ax _ rfl)));have c1:(U9 s.heap l1 l2).get? s.heap.objs.size=some _:=ag _ (ag _ (ag _ (ag _ (ax _ rfl))));show _/\_;rw [n2,n3,n4] at c5;rw [n1,n2] at c3;rw [n3] at c4;rw [n1] at c2;rw [n4];exact ⟨⟨_,c5,rfl⟩,h _ c5 c3 c4 ⟨_,c1,rfl,rfl⟩ ⟨_,c2,rfl,rfl⟩ fun c o e=>ag _ (ag _ (ag _ (ag _ (ag _ e))))⟩
end
theorem ko.ne_fp       (I:bB X pins σ H s) (hq:ko X.K H a xs) (hf:se X pins H b):a≠b:=by
 rintro rfl;rcases hq with (h|⟨o,h⟩)|⟨o,its,n,hk,_⟩
 ·rw [hf.1] at h;cases h
 ·rw [hf.1] at h;cases h
 ·have e:X.base.get? a=some o:=I.mod.kin a o hk;rcases hf.f3 with z|z
  ·exact I.ok.noex a o e z
  ·exact absurd (aI (aq e) (cy I.ok.bsz z)) (cQ _)
def WW (K:a8) (a b:ak):It :=
 ⟨fun i H=>∃ xs ys x y,ko K H a xs/\ko K H b ys/\xs[i]?=some x/\ys[i]?=some y,
  fun i H v H'=>∃ p,H p=none/\v=.ref p/\∀ xs ys,ko K H a xs->ko K H b ys->∃ x y,xs[i]?=some x/\ys[i]?=some y/\H'=upd H p (.tup [x,y]),
  fun i H=>∃ xs ys,ko K H a xs/\ko K H b ys/\(xs.length<=i\/ys.length<=i)⟩
structure WX (z TI TO i1 i2:ak):Prop where
 d1:TI≠z
 d2:TO≠z
 d3:i1≠z
 d4:i2≠z
 d5:TI≠TO
 d6:TI≠i1
 d7:TI≠i2
 d8:TO≠i1
 d9:TO≠i2
 d0:i1≠i2
theorem M6 {P:aX}{w:bn}{K:a8}{elts:List bd}{x1}{pos:Pos} (l1 l2 z TI TO i1 i2:ak) (Z:WX z TI TO i1 i2) :
  BO P w K (.Tuple elts x1 pos) (WW K l1 l2) [z,TI,TO,i1,i2] z (fun i h=>vN h z TI TO .none/\jJ h TI (.ref i1) (.ref i2)/\(∃ a b,jJ h TO a b)/\h.IsTupleIter i1 l1 i/\h.IsTupleIter i2 l2 i) where
 mem:=by simp
 obj:=fun i h st b hb=>by
  obtain ⟨s1,s2,⟨_,_,s3⟩,⟨o4,e4,_,f4⟩,⟨o5,e5,_,f5⟩⟩:=st;simp only [aO,bg,or_false] at hb;rcases hb with rfl|rfl|rfl|rfl|rfl
  ·exact ⟨_,s1,fun v q=>by cases q⟩
  ·exact ⟨_,s2,fun v q=>by cases q⟩
  ·exact ⟨_,s3,fun v q=>by cases q⟩
  ·exact ⟨o4,e4,fun v q=>by rw [f4] at q;cases q⟩
  ·exact ⟨o5,e5,fun v q=>by rw [f5] at q;cases q⟩
 keep:=fun i h h' st k=>by
  obtain ⟨s1,s2,⟨u,v,s3⟩,⟨o4,e4,r4⟩,⟨o5,e5,r5⟩⟩:=st;exact ⟨k z (by simp) _ s1,k TI (by simp) _ s2,⟨u,v,k TO (by simp) _ s3⟩,⟨o4,k i1 (by simp) _ e4,r4⟩,⟨o5,k i2 (by simp) _ e5,r5⟩⟩
 item:=by
  intro X hP hw hK hc i pins s σ H E I hf st hg;subst hP hw hK;obtain ⟨xs,ys,x,y,hq1,hq2,hx,hy⟩:=hg;obtain ⟨its1,rv1,p1,_⟩:=I.tuple hq1;obtain ⟨its2,rv2,p2,_⟩:=I.tuple hq2;obtain ⟨u,hu,ru⟩:=rv1.get hx;obtain ⟨v,hv,rv⟩:=rv2.get hy;obtain ⟨s1,s2,⟨a,b,s3⟩,s4,s5⟩:=st;have ne1:∀ b∈[z,TI,TO,i1,i2],l1≠b:=fun b hb=>hq1.ne_fp I (hf b hb);have ne2:∀ b∈[z,TI,TO,i1,i2],l2≠b:=fun b hb=>hq2.ne_fp I (hf b hb);have D:OO z TI TO i1 i2 l1 l2:=⟨Z.d1,Z.d2,Z.d3,Z.d4,Z.d5,Z.d6,Z.d7,Z.d8,Z.d9,Z.d0,ne1 z (by simp),ne1 TO (by simp),ne1 i1 (by simp),ne1 i2 (by simp),ne2 z (by simp),ne2 TO (by simp),ne2 i1 (by simp),ne2 i2 (by simp)⟩;have zl:=aq s1;have hT:s.TypeIs (.ref z) "zip":=⟨_,s1,rfl⟩;unfold jl;refine a7 (mq (c8 (name:=ef "__next__") hT sw ?_));refine bX sw hT F.entry_zip_next (M4 D s1 s2 s3 s4 s5 p1 p2 (by simpa using hu) (by simpa using hv) fun h1 z1 t1 y1 y2 pr k1=>?_) (F.args_zip_next_1 _);refine aa ⟨_,rfl,wpAny_letOwnedTupleGo_zip z1 fun h2 z2 b2=>?_⟩;have szn:s.heap.objs.size≠z:=fm zl;have TIk:jJ h1 TI (.ref i1) (.ref i2):=k1 TI _ Z.d1 Z.d5 Z.d6 Z.d7 s2;have I2:bB X pins σ H { s with heap:=h2 }:=I.turnedL (t':=s.toks) (ch:=[z,TI,TO,i1,i2]) (fun b o hb q=>by
   simp only [aO,bg,or_false,not_or] at hb;exact (b2.2 b hb.1).trans (k1 b o hb.1 hb.2.2.1 hb.2.2.2.1 hb.2.2.2.2 q)) hf
  have fT:=I.fpOk (H':=H) (au _) (I.hok.fresh (au _));have pr2:h2.get? s.heap.objs.size=some { cls:=.type "tuple",data:=.seq #[u,v] }:=(b2.2 _ szn).trans pr;have I3:=I2.track (ho:=.tup [x,y]) fT ⟨by show 2<=sizeLine;decide,[u,v],.cons ru (.cons rv .nil),⟨_,pr2,rfl,0,rfl⟩⟩;refine ⟨.ref s.heap.objs.size,_,I3,rfl,⟨_,fT.1,rfl,fun xs' ys' h1 h2=>?_⟩,⟨z2,(b2.2 TI Z.d1).trans TIk,⟨u,v,(b2.2 TO Z.d2).trans t1⟩,j3 y1 b2 Z.d3,j3 y2 b2 Z.d4⟩,fun b hb=>?_⟩
  ·rw [I.tuple_inj h1 hq1,I.tuple_inj h2 hq2];exact ⟨x,y,hx,hy,rfl⟩
  ·have bl:b<s.heap.objs.size:=by
    simp only [aO,bg,or_false] at hb;rcases hb with q|q|q|q|q
    ·rw [q];exact zl
    ·rw [q];exact aq s2
    ·rw [q];exact aq s3
    ·obtain ⟨_,e,_⟩:=s4;rw [q];exact aq e
    ·obtain ⟨_,e,_⟩:=s5;rw [q];exact aq e
   rw [a_ (aD bl)];exact (hf b hb).1
 done:=by
  intro X hP hw hK hc i pins s σ H E I hf st hg;subst hP hw hK;obtain ⟨xs,ys,hq1,hq2,hend⟩:=hg;obtain ⟨its1,rv1,p1,_⟩:=I.tuple hq1;obtain ⟨its2,rv2,p2,_⟩:=I.tuple hq2;obtain ⟨s1,s2,⟨a,b,s3⟩,s4,s5⟩:=st;have ne1:∀ b∈[z,TI,TO,i1,i2],l1≠b:=fun b hb=>hq1.ne_fp I (hf b hb);have ne2:∀ b∈[z,TI,TO,i1,i2],l2≠b:=fun b hb=>hq2.ne_fp I (hf b hb);have D:OO z TI TO i1 i2 l1 l2:=⟨Z.d1,Z.d2,Z.d3,Z.d4,Z.d5,Z.d6,Z.d7,Z.d8,Z.d9,Z.d0,ne1 z (by simp),ne1 TO (by simp),ne1 i1 (by simp),ne1 i2 (by simp),ne2 z (by simp),ne2 TO (by simp),ne2 i1 (by simp),ne2 i2 (by simp)⟩;have hT:s.TypeIs (.ref z) "zip":=⟨_,s1,rfl⟩;have n1:=rv1.length;have n2:=rv2.length;unfold jl;refine a7 (mq (c8 (name:=ef "__next__") hT sw ?_));refine bX sw hT F.entry_zip_next (M5 (by simpa using I.ok.hd hc) D s1 s2 s3 s4 s5 p1 p2 (hend.elim (fun q=>.inl (by simp;omega)) fun q=>.inr (by simp;omega)) fun h' e kp he=>?_) (F.args_zip_next_1 _);obtain ⟨o,eo,co⟩:=he;refine a7 (hG (T:="StopIteration") (b:=true) ⟨o,eo,co⟩ vM ?_);exact aa ⟨rfl,I.turnedL (t':=s.toks) (ch:=[z,TI,TO,i1,i2]) (fun b o hb q=>by
   simp only [aO,bg,or_false,not_or] at hb;exact kp b o hb.1 hb.2.2.1 hb.2.2.2.1 hb.2.2.2.2 q) hf⟩
 self:=fun _ _ _ _ _ st h=>wpAny_pyIter_zip st.1 h
def WY (K:a8) (ta:TA):TI:=fun σ H R=>ta σ H fun vs H1=>∃ a b xs ys,vs=[.ref a,.ref b]/\ko K H1 a xs/\ko K H1 b ys/\R (WW K a b) H1
theorem T4 {X:Cx}{elts:List bd}{x1}{tpos p pos:Pos}{a b:bd}{ta:TA} (hg:Gl X "zip") (hm:X.mg "zip"=none) (ha:PA X [a,b] ta) (hs:aJ [a,b] X.env=[(false,ed a X.env),(false,ed b X.env)]:=by rfl)
  (hs2:aJ [b] X.env=[(false,ed b X.env)]:=by rfl):PI X (.Tuple elts x1 tpos) (.Call (.Name "zip" p) [a,b] [] pos) (WY X.K ta):=by
 intro pins s σ H R I h;refine Call_ (s_ I hg hm boot_zip (gG (fG (ha pos pins s σ H _ I h) fun us s1 ⟨vs,H1,I1,r1,q1⟩=>?_) (by rw [hs,hs2]) (by rw [hs2];rfl)));obtain ⟨a1,a2,xs,ys,rfl,hq1,hq2,q⟩:=q1;obtain ⟨u1,u2,rfl,rx1,rx2⟩:=R5 r1;cases rx1;cases rx2;obtain ⟨its1,rv1,p1,_⟩:=I1.tuple hq1;obtain ⟨its2,rv2,p2,_⟩:=I1.tuple hq2;refine C2 (show s1.heap.IsTuple a1 its1.toArray from p1) (show s1.heap.IsTuple a2 its2.toArray from p2) fun h' c1 c2 c3 c4 c5 kp=>?_;refine wpAny_pyIter_zip c1 ?_;have I2:bB X pins σ H1 { s1 with heap:=h' }:=I1.kept (t':=s1.toks) kp;have ad:∀ k j:Nat,k≠j->s1.heap.objs.size+k≠s1.heap.objs.size+j:=fun k j n e=>n (Nat.add_left_cancel e);refine ⟨s1.heap.objs.size+4,[s1.heap.objs.size+4,s1.heap.objs.size+2,s1.heap.objs.size+3,s1.heap.objs.size+0,s1.heap.objs.size+1],_,_,H1,rfl,I2,
  M6 a1 a2 _ _ _ _ _ ⟨ad _ _ (by decide),ad _ _ (by decide),ad _ _ (by decide),ad _ _ (by decide),ad _ _ (by decide),ad _ _ (by decide),ad _ _ (by decide),ad _ _ (by decide),ad _ _ (by decide),ad _ _ (by decide)⟩,
  ⟨c1,c2,⟨_,_,c3⟩,c4,c5⟩,fun b hb=>?_,q⟩
 have:∀ k:Nat,se X pins H1 (s1.heap.objs.size+k):=fun k=>I1.fpOk (OQ _ _) (I1.hok.fresh (OQ _ _))
 simp only [aO,bg,or_false] at hb;rcases hb with q|q|q|q|q<;>(rw [q];exact this _)
end
section
mutual
inductive Gm (K:a8) (H:Hp):V->BI->Prop
 |none:Gm K H .non .none
 |bool (b:Bool):Gm K H (.bl b) (.bool b)
 |int (i:Int):Gm K H (.int i) (.int i)
 |str (x:Str):Gm K H (.str x) (.str x)
 |list {a:ak}{xs:List V}{ds:List BI}:ni K H a xs->Reps K H xs ds->Gm K H (.ref a) (.list ds)
 |tuple {a:ak}{xs:List V}{ds:List BI}:ko K H a xs->Reps K H xs ds->Gm K H (.ref a) (.tuple ds)
inductive Reps (K:a8) (H:Hp):List V->List BI->Prop
 |nil:Reps K H [] []
 |cons {x:V}{xs:List V}{d:BI}{ds:List BI}:Gm K H x d->Reps K H xs ds->Reps K H (x::xs) (d::ds)
end
theorem c_.tup {K:a8}{H H':Hp}{a:ak}{xs:List V} (e:c_ H H') (h:ko K H a xs):ko K H' a xs:=by
 rcases h with (h|⟨o,h⟩)|h
 ·exact .inl (.inl (e _ _ h))
 ·exact .inl (.inr ⟨o,e _ _ h⟩)
 ·exact .inr h
section
theorem PF (I:bB X pins σ H s)    (h:ni X.K H a xs) (ih:∀ {us:List af},dH xs us->∃ as,ReadsAll s.heap us ds as) (r:cR (.ref a) u):∃ as,Reads s.heap u (.list ds) as:=by
 cases r;obtain ⟨its,rv,⟨o,n,e,c,_,d⟩,_⟩:=I.list h;obtain ⟨as,ra⟩:=ih rv;exact ⟨_,.list e c d (by simpa using ra)⟩
theorem M7 (I:bB X pins σ H s)    (h:ko X.K H a xs) (ih:∀ {us:List af},dH xs us->∃ as,ReadsAll s.heap us ds as) (r:cR (.ref a) u):∃ as,Reads s.heap u (.tuple ds) as:=by
 cases r;obtain ⟨its,rv,⟨o,e,c,n,d⟩,_⟩:=I.tuple h;obtain ⟨as,ra⟩:=ih rv;exact ⟨_,.tuple e c d (by simpa using ra)⟩
theorem rg (I:bB X pins σ H s)  (h:Gm X.K H v d):∀ {u:af},cR v u->∃ as,Reads s.heap u d as :=
 Gm.rec (motive_1:=fun v d _=>∀ {u:af},cR v u->∃ as,Reads s.heap u d as) (motive_2:=fun vs ds _=>∀ {us:List af},dH vs us->∃ as,ReadsAll s.heap us ds as)
  (fun r=>by cases r;exact ⟨_,.none⟩) (fun b _ r=>by cases r;exact ⟨_,.bool b⟩) (fun i _ r=>by obtain ⟨t,rfl⟩:=r;exact ⟨_,.int i t⟩) (fun x _ r=>by obtain ⟨t,rfl⟩:=r;exact ⟨_,.str x t⟩)
  (fun h _ ih _ r=>PF I h ih r) (fun h _ ih _ r=>M7 I h ih r) (fun r=>by cases r;exact ⟨_,.nil⟩) (fun _ _ a b _ r=>by
   cases r with
   |cons r rs =>
    obtain ⟨as,ra⟩:=a r;obtain ⟨bs,rb⟩:=b rs;exact ⟨_,.cons ra rb⟩) h
end
section
inductive Rm (K:a8) (neg:Bool) (x:V) (y:V) (H:Hp) (Q:VK):Prop
 |mk (dx dy:_) (h0:Gm K H x dx) (h1:Gm K H y dy) (h2:dx.canLay0=true) (h3:dy.canLay0=true) (h4:min dx.depth dy.depth<=60) (h5:Q (.bl (if neg then !bq dx dy else bq dx dy)) H):Rm K neg x y H Q
def T5 (K:a8) (neg:Bool):R2:=Rm K neg
theorem T6 (hu:X.A.units+64<kL):pW X (bO .Eq) (T5 X.K false):=by
 intro pins s σ H x y v u Q I rx ry h;obtain ⟨dx,dy,hx,hy,lx,ly,dp,q⟩:=h;obtain ⟨as,ra⟩:=rg I hx rx;obtain ⟨bs,rb⟩:=rg I hy ry;exact PySem.SeqAt.compareEq_reads ra rb lx ly (by omega) ⟨.bl _,H,I,rfl,q⟩
theorem T7 (hu:X.A.units+64<kL):pW X (bO .NotEq) (T5 X.K true):=by
 intro pins s σ H x y v u Q I rx ry h;obtain ⟨dx,dy,hx,hy,lx,ly,dp,q⟩:=h;obtain ⟨as,ra⟩:=rg I hx rx;obtain ⟨bs,rb⟩:=rg I hy ry;exact PySem.SeqAt.compareNe_reads ra rb lx ly (by omega) ⟨.bl _,H,I,rfl,q⟩
end
end
section
structure WZ (P:aX) (w:bn) (l:List Env) (H H':Hp) (h h' B:bE) (ea C t:ak):Prop where
 fly:Heap.FlyingW B l ea (.ref C) (.ref t) h'
 cov:∀ b u,H' b=some u->∃ o,B.get? b=some o
 old:∀ b o,h.get? b=some o->H b=none->b∉um l->B.get? b=some o
 all:∀ b o,h.get? b=some o->b∉um l->∃ o',B.get? b=some o'
 un:Un (um l) [] H H' h h'
 hok:qd P w H' h'
inductive UN (P:aX) (w:bn) (outer:List Env) (H:Hp) (s:ai) (E:XK) (e:af) (s':ai):Prop
 |mk (ea C t H' B:_) (h0:e=.ref ea) (h1:s'.os=s.os) (h2:qg s'.gens) (h3:WZ P w outer H H' s.heap s'.heap B ea C t) (h4:E (.ref C) none H'):UN P w outer H s E e s'
def oJ (P:aX) (w:bn):Jr:=UN P w
theorem M8      (x:qd P w H h) (e:H b=some u):∃ o,h.get? b=some o:=by
 have y:=x b u e;cases u with
 |lst xs=>obtain ⟨_,_,_,_,k⟩:=y;exact ⟨_,k⟩
 |tup xs=>obtain ⟨_,_,_,o,k,_⟩:=y;exact ⟨o,k⟩
 |dK kvs=>obtain ⟨_,_,_,_,o,_,_,k,_⟩:=y;exact ⟨o,k⟩
 |dT kvs=>obtain ⟨_,_,_,_,o,_,_,k,_⟩:=y;exact ⟨o,k⟩
 |set S n=>obtain ⟨o,_,_,_,k,_⟩:=y;exact ⟨o,k⟩
 |ins C dx fs=>obtain ⟨_,_,_,k,_⟩:=y;exact ⟨_,k⟩
 |own y'=>exact y
 |xd fs=>obtain ⟨_,⟨o,_,_,k,_⟩,_⟩:=y;exact ⟨o,k⟩
 |rng lo hi=>obtain ⟨_,_,_,k⟩:=y;exact ⟨_,k⟩
 |frz o u=>exact ⟨o,y.1⟩
 |tbl ps=>obtain ⟨_,k,_⟩:=y;exact ⟨_,k⟩
 |met f y'=>exact ⟨_,y⟩
 |ext φ=>exact y.2.1
theorem HL   (he:env∈l) (hf:env.frame=some b):b∈um l:=List.mem_filterMap.mpr ⟨env,he,hf⟩
section
theorem WZ.kp (x:WZ P w l H H' h h' B ea C t) (st:B.StaysIn h'') (b:ak) (u:HO) (o:Obj) (e:H' b=some u) (q:h'.get? b=some o):h''.get? b=some o:=by
 obtain ⟨o',e1⟩:=x.cov b u e;have:=x.fly.1 b o' e1;rw [q] at this;cases this;exact st b o e1
end
section
variable {P:aX}{w:bn}{K:a8}{mg:Str->Option af}{base:bE}{N:List Str}{qual:Str}{scope:dz}{f:ak}{cd:af}{A:bv}{outer:List Env}{s:ai}{H:Hp}{E:XK}
theorem C3       (I:bB (jn (oJ P w) P w K mg base N qual scope f cd A outer s H E) pins σ H1 s1)
  (hx:Heap.MadeExcOf s1.heap h' ea (.ref C) vs) (q:E (.ref C) none H1):(jn (oJ P w) P w K mg base N qual scope f cd A outer s H E).xe (.ref ea) { s1 with heap:=h' }:=by
 let X:=jn (oJ P w) P w K mg base N qual scope f cd A outer s H E
 let B:=KF s1.heap (um X.stack)
 have hin:∀ env∈X.stack,∀ a,env.frame=some a->a∈um X.stack:=fun env he a hf=>HL he hf;have stB:B.StaysIn s1.heap:=fun b o e=>FH _ e;have nS:∀ b,b∉um X.stack->∀ o,s1.heap.get? b=some o->B.get? b=some o:=fun b n o e=>Fu _ e n;show ar _ X.A (leaving X.env (.ref ea)) _ _ _;refine wpAny_leaves_madeW (s:={ s1 with heap:=h' }) (base:=B) (outer:=outer) (L:=X.env.locals) I.ok.frames rfl stB (PySem.W.funFrames_hide I.stack hin) hx fun h2 t fl tup tn up=>?_;have st2:=fl.1;have bl:∀ b o,s.heap.get? b=some o->b∉um outer->b∉um X.stack:=fun b o e n z=>by
  rcases List.mem_cons.mp (I.stkSub b z) with y|y
  ·exact absurd (aq e) (by rw [y];exact Nat.not_lt.mpr I.ok.above)
  ·exact n y
 have noex:∀ b:ak,b∉X.ex:=fun b z=>absurd (show b∈([] : List ak) from z) (by simp);have cov:∀ b u,H1 b=some u->∃ o,B.get? b=some o:=fun b u e=>by
  have hb:b∉um X.stack:=fun z=>by have:=I.stkFree b z;rw [e] at this;cases this
  obtain ⟨o,k⟩:=M8 I.hok e;exact ⟨o,nS b hb o k⟩
 refine ⟨ea,C,t,H1,B,rfl,I.os,I.bare,⟨fl,cov,fun b o e n hb=>?_,fun b o e hb=>?_,⟨fun b o e n hb hx'=>?_,fun b o e n hb hx'=>?_,fun b o e n _=>I.base.free b o e n (noex b),fun b o e _=>?_,I.base.tups,I.base.frzs,I.base.tbls⟩,fun b u e=>?_⟩,q⟩
 ·exact nS b (bl b o e hb) o (I.base.keep b o e n hb (noex b))
 ·obtain ⟨o',k⟩:=I.base.there b o e (noex b);exact ⟨o',nS b (bl b o e hb) o' k⟩
 ·exact st2 b o (nS b (bl b o e hb) o (I.base.keep b o e n hb (noex b)))
 ·obtain ⟨sl,k⟩:=I.base.slot b o e n hb (noex b);obtain ⟨_,o',k1,k2⟩:=jZ I.funs hb;rw [k] at k1;cases k1;obtain ⟨sl',k3⟩:=up b _ (hx.keeps _ _ k) k2;exact ⟨sl',k3⟩
 ·obtain ⟨o',k⟩:=I.base.there b o e (noex b);by_cases hb:b∈um outer
  ·obtain ⟨_,o2,k1,_⟩:=jZ fl.2.2.1 hb;exact ⟨o2,k1⟩
  ·exact ⟨o',st2 b o' (nS b (bl b o e hb) o' k)⟩
 ·refine (I.hok b u e).stay (fun c o hc k=>?_) (fun _ q=>q) (fun _ _ q=>q) fun _ _ _ q=>q;have hcs:c∉um X.stack:=fun z=>by
   have:=I.stkFree c z;rcases hc with y|y
   ·rw [y,e] at this;cases this
   ·rw [y] at this;cases this
  exact st2 c o (nS c hcs o k)
theorem DM (hE:∀ c H',E' c none H'->E c none H'):tf (oJ P w) (jn (oJ P w) P w K mg base N qual scope f cd A outer s H E) E':=by
 intro pins σ H1 s1 e s' I h;obtain ⟨ea,C,t,H',B,rfl,os,bare,x,q⟩:=h;let X:=jn (oJ P w) P w K mg base N qual scope f cd A outer s H E
 have noex:∀ b:ak,b∉X.ex:=fun b z=>absurd (show b∈([] : List ak) from z) (by simp);have bl:∀ b o,s.heap.get? b=some o->b∉um outer->b∉um X.stack:=fun b o e n z=>by
  rcases List.mem_cons.mp (I.stkSub b z) with y|y
  ·exact absurd (aq e) (by rw [y];exact Nat.not_lt.mpr I.ok.above)
  ·exact n y
 have sub:∀ b∈um outer,b∈um X.stack:=fun b hb=>by
  obtain ⟨env,he,hf⟩:=List.mem_filterMap.mp hb;exact HL (a9 _ he) hf
 show ar _ X.A (leaving X.env (.ref ea)) _ _ _;refine wpAny_leaves_onW (base:=B) (outer:=outer) (L:=X.env.locals) I.ok.frames rfl x.fly fun h2 fl up=>?_;have st2:=fl.1;refine ⟨ea,C,t,H',B,rfl,os.trans I.os,bare,⟨fl,x.cov,fun b o e n hb=>?_,fun b o e hb=>?_,⟨fun b o e n hb hx'=>?_,fun b o e n hb hx'=>?_,fun b o e n _=>?_,fun b o e _=>?_,fun b xs e=>x.un.tups b xs (I.base.tups b xs e),fun b o xs e=>x.un.frzs b o xs (I.base.frzs b o xs e),fun b ps e=>?_⟩,fun b u e=>?_⟩,hE _ _ q⟩
 ·exact x.old b o (I.base.keep b o e n hb (noex b)) (I.base.free b o e n (noex b)) (bl b o e hb)
 ·obtain ⟨o',k⟩:=I.base.there b o e (noex b);exact x.all b o' k (bl b o e hb)
 ·exact st2 b o (x.old b o (I.base.keep b o e n hb (noex b)) (I.base.free b o e n (noex b)) (bl b o e hb))
 ·obtain ⟨sl,k⟩:=I.base.slot b o e n hb (noex b);obtain ⟨sl1,k1⟩:=x.un.slot b _ k (I.base.free b o e n (noex b)) (sub b hb) (by simp);obtain ⟨_,o',k2,k3⟩:=jZ x.fly.2.2.1 (sub b hb);rw [k1] at k2;cases k2;obtain ⟨sl2,k4⟩:=up b _ k1 k3;exact ⟨sl2,k4⟩
 ·obtain ⟨o',k⟩:=I.base.there b o e (noex b);exact x.un.free b o' k (I.base.free b o e n (noex b)) (by simp)
 ·obtain ⟨o',k⟩:=I.base.there b o e (noex b);by_cases hb:b∈um outer
  ·obtain ⟨_,o2,k1,_⟩:=jZ fl.2.2.1 hb;exact ⟨o2,k1⟩
  ·obtain ⟨o2,k2⟩:=x.all b o' k (bl b o e hb);exact ⟨o2,st2 b o2 k2⟩
 ·obtain ⟨m1,e1⟩:=I.base.tbls b ps e;obtain ⟨m2,e2⟩:=x.un.tbls b _ e1;exact ⟨m1++m2,by rw [e2,J5]⟩
 ·exact (x.hok b u e).stay (fun c o hc k=>by
   rcases hc with z|z
   ·rw [z] at k ⊢;exact x.kp st2 b u o e k
   ·exact x.kp st2 c _ o z k) (fun _ q=>q) (fun _ _ q=>q) fun _ _ _ q=>q
end
end
section
section
variable {P:aX}{w:bn}{K:a8}{mg:Str->Option af}{base:bE}{N:List Str}{qual:Str}{scope:dz}{f:ak}{cd:af}{A:bv}{outer:List Env}{s:ai}{H:Hp}{E:XK}
theorem M9 {x:Str}{np cpos pos:Pos}{e0:bd}{bT:List bd}{C:ak}{bmB:List af}{newId initId Bn:String}{ta:TA} (O:OwnCls x C bmB newId mg base) (FB:ExcBaseFacts Bn newId initId bmB)
  (hg:Gl (jn (oJ P w) P w K mg base N qual scope f cd A outer s H E) x) (ha:PA (jn (oJ P w) P w K mg base N qual scope f cd A outer s H E) (e0::bT) ta)
  (he:aJ (e0::bT) (jn (oJ P w) P w K mg base N qual scope f cd A outer s H E).env=(false,ed e0 (jn (oJ P w) P w K mg base N qual scope f cd A outer s H E).env)::aJ bT (jn (oJ P w) P w K mg base N qual scope f cd A outer s H E).env:=by rfl)
  (hdb:(x==("__debug__" : Str))=false:=by decide) (hpl:(fU cpos (aJ bT (jn (oJ P w) P w K mg base N qual scope f cd A outer s H E).env)).any (·.1)=false:=by rfl) :
  PS (jn (oJ P w) P w K mg base N qual scope f cd A outer s H E) (.Raise (some (.Call (.Name x np) (e0::bT) [] cpos)) none pos) (fun D σ H1=>ta σ H1 fun vs H2=>vs.length<=sizeLine/\E (.ref C) none H2):=by
 intro pins s1 σ H1 D I h;obtain ⟨tl,Nn,nm,q,bs,hdct,sn,sub,ab,col,dd,k0,k1,k2,k3,k5,mN,hC,hN,hni,T⟩:=O.obj;refine wpAny_Raise_call_subT (C:=C) (nm:=nm) (q:=q) (N:=Nn) (bs:=bs) (bm:=tl) (hdct:=hdct) (sn:=sn) (sub:=sub) (ab:=ab) (col:=col) (dd:=dd) (k0:=k0) (k1:=k1) (k2:=k2) (k3:=k3) (k5:=k5)
  FB (mN:=mN) (T.hasType FB.hasBase) (I.ok.hd rfl) ?_ hni (BM I hg O.bound ⟨rfl,?_⟩ hdb)
 ·rw [he];show (false||_)=false;rw [oh];exact hpl
 ·have hx:=ha cpos pins s1 σ H1 _ I h;rw [he] at hx ⊢;refine FM (fG hx fun us s2 ⟨vs,H2,I2,r2,z,qE⟩=>?_);have kb:∀ b o,base.get? b=some o->s2.heap.get? b=some o:=I2.bk;exact ⟨rfl,by show us.length<=sizeLine;rw [<- r2.length];exact z,kb _ _ hC,hN.keeps kb,T.keeps kb,fun h' ea hm=>C3 I2 hm qE⟩
end
structure UO (base:bE) (C:ak) (bm:List af):Prop where
 obj:∃ nm q N bs hdct sn sub ab col dd k0 k1 k2 k3 k5 newId,base.get? C=some (excClassObj nm q C N bs bm hdct sn sub ab col dd k0 k1 k2 k3 k5 newId)
 exc:bm.contains (.type "BaseException")=true
end
section
section
variable {prog:aX}{w:bn}{A:bv}{E:af->ai->Prop}{s:ai}{K:a8}{x C:ak}{R:xY->ai->Prop}
end
section
end
end
section
section
variable {P:aX}{w:bn}{K:a8}{mg:Str->Option af}{base:bE}
end
section
end
end
section
section
def W_:BI->String
 |.none=>"NoneType" | .bool _=>"bool" | .int _=>"int" | .str _=>"str" | .list _=>"list" | .tuple _=>"tuple" | .dict _=>"dict"
theorem Gn            (I:bB X pins σ H s) (rx:cR x u) (r:Gm X.K H x d) (e:ql X.K (.type (W_ d)) c=some b) (h:∀ tk,Q (.bool b) { s with toks:=tk }) :
  ar (aL X.prog X.w) A (call (.builtin "isinstance") [u,c]) Q E s:=by
 cases r with
 |none=>exact q_ I rx .non e h
 |bool y=>exact q_ I rx (.bl y) e h
 |int i=>exact q_ I rx (.int i) e h
 |str y=>exact q_ I rx (.str y) e h
 |list hq _ =>
  cases rx;obtain ⟨its,rv,⟨o,n,ho,c,_,dd⟩,_⟩:=I.list hq;exact cK uq I.kIn ⟨o,ho,c⟩ e (fun z=>nomatch z) h
 |tuple hq _ =>
  cases rx;obtain ⟨its,rv,⟨o,ho,c,n,dd⟩,_⟩:=I.tuple hq;exact cK FJ I.kIn ⟨o,ho,c⟩ e (fun z=>nomatch z) h
theorem Ma:j7 X (.builtin "isinstance") (fun xs H Q=>∃ x d T b,xs=[x,.ty T]/\Gm X.K H x d/\ql X.K (.type (W_ d)) (.type T)=some b/\Q (.bl b) H):=by
 intro pins s σ H xs us Q I r h;obtain ⟨x,d,T,b,rfl,rp,e,q⟩:=h;obtain ⟨u,v,rfl,ru,rv⟩:=R5 r;obtain rfl:v=.type T:=rv;exact Gn I ru rp e fun tk=>⟨.bl b,H,I.tok tk,rfl,q⟩
end
end
end L2
section
namespace HT
open PySem PyProof.Rows
section
theorem DN {t sl:ak}{items:Array af}{vl vu:af}{lo hi:Option Int}{Q:af->ai->Prop} (ht:IsTup s.heap t items) (hs:s.heap.IsSliceOf sl vl vu .none) (pl:vJ vl lo) (pu:vJ vu hi)
  (hw:iG items.size 0 lo=0/\iG items.size items.size hi=items.size) (h:Q (.ref t) s):ar (aL prog w) A (qh (.ref t) (.ref sl)) Q E s:=by
 obtain ⟨os,hos,hcs,hds⟩:=id hs;have hTs:s.TypeIs (.ref sl) "slice":=⟨os,hos,hcs⟩;unfold qh;try with_reducible refine cH ?_
 first|refine a7 (aa ?_)|skip
 refine a7 (wpAny_sequenceKey ht.typeIs (by decide) ?_);refine a7 (c8 (name:=ef "__getitem__") ht.typeIs fH
  (bX fH ht.typeIs entry_tuple_getitem ?_ (args_tuple_getitem _ _)))
 show ar _ _ (ut (.ref t) >>= _) _ _ s;refine a7 (tupleItemsOf_ ht ?_);refine a7 (sS hTs ?_);rw [if_pos (by decide)];refine a7 (nQ hs pl pu ?_);have hyes:((((iG items.size 0 lo:Nat):Int)==0&&(1:Int)==1&&(iG items.size items.size hi-iG items.size 0 lo)==items.size)=true):=by
  rw [hw.1,hw.2];simp
 show ar _ _ (if (((iG items.size 0 lo:Nat):Int)==0&&(1:Int)==1&&(iG items.size items.size hi-iG items.size 0 lo)==items.size)=true then _ else _) _ _ s;rw [if_pos hyes];refine a7 ?_;unfold Builtin.Tuple.tupleIsExact;refine a7 (sS ht.typeIs (aa ?_));rw [if_pos (by decide)];refine a7 (i9 ?_);first
  |exact aa (aa ⟨_,rfl,h⟩)
  |exact aa ⟨_,rfl,aa h⟩
  |exact a7 (aa (aa ⟨_,rfl,aa h⟩))
  |exact a7 (aa (aa ⟨_,rfl,h⟩))
end
end HT
namespace L2
open PySem PySem.Spec PyProof.Rows
section
inductive Mb (K:a8) (x:V) (lo:Option Int) (hi:Option Int) (H:Hp) (Q:VK):Prop
 |mk (a xs:_) (h0:x=.ref a) (h1:ko K H a xs) (h2:(HT.iG xs.length 0 lo=0/\HT.iG xs.length xs.length hi=xs.length)) (h3:Q (.ref a) H):Mb K x lo hi H Q
def UP (K:a8):V->Option Int->Option Int->Hp->VK->Prop:=Mb K
theorem PH:UA X (UP X.K):=by
 intro pins s σ H x v vl vu lo hi sl Q I rx hs pl pu h;obtain ⟨a,xs,rfl,hx,hw,q⟩:=h;cases rx;obtain ⟨its,r,ht,hz⟩:=I.tuple hx;have hlen:its.toArray.size=xs.length:=by rw [aR];exact r.length.symm
 exact ⟨"tuple",_,PyProof.Rows.slot_tuple_getitem.lookup,ht.typeIs,HT.DN ht hs pl pu (by rw [hlen];exact hw) ⟨.ref a,H,I,rfl,q⟩⟩
theorem kr   (h:H p=none):c_ H (upd H p o):=fun b u e=>by rw [a_ (bp e h)];exact e
theorem yq (hc:X.calm=true):j7 X (.type "list") (fun xs H Q=>∃ a kvs,xs=[.ref a]/\H a=some (.dK kvs)/\∀ l,H l=none->Q (.ref l) (upd H l (.lst (kvs.map fun p=>kV p.1)))):=by
 intro pins s σ H xs us Q I r h;obtain ⟨a,kvs,rfl,hH,q⟩:=h;obtain ⟨u,rfl,rx⟩:=jH r;cases rx;obtain ⟨hz,hs,vs,rk,hd⟩:=(show dw X.prog X.w H s.heap a (.dK kvs) from I.hok a _ hH);obtain ⟨ep,hat⟩:∃ ep,s.heap.DictAt (fM X.prog X.w) a vs ep:=by
  obtain ⟨o,es,ep,h1,h2,h3,h4⟩:=hd;exact ⟨ep,o,es,h1,h2,h3,h4⟩
 have hlen:kvs.length=vs.length:=iT rk;refine PySem.W.kdl_call (PySem.W.kdl_dict hs) (I.ok.hd hc) hat (by omega) fun h' tk acc' c' kp e hacc=>?_;have rv:dH (kvs.map fun p=>kV p.1) acc'.toList:=by
  have key:∀ {kvs:List (eR×V)}{vs:List (eR×af)} (acc:List af),KV kvs vs->acc.length=vs.length->(∀ (j:Nat) (v:af),acc[j]?=some v->∃ k x,vs[j]?=some (k,x)/\ye k v=true)->dH (kvs.map fun p=>kV p.1) acc:=by
   intro kvs;induction kvs with
   |nil=>intro vs acc rk hl _;cases rk;cases acc with
    |nil=>exact .nil
    |cons _ _=>simp at hl
   |cons p kvs ih =>
    intro vs acc rk hl hv;cases rk with
    |cons h1 t1 =>
     cases acc with
     |nil=>simp at hl
     |cons v acc =>
      refine .cons ?_ (ih acc t1 (by simpa using hl) fun j v hj=>by simpa using hv (j+1) v (by simpa using hj));obtain ⟨k,x,e1,e2⟩:=hv 0 v rfl;simp only [Dl,De] at e1;subst e1;have hk:p.1=k:=h1.1;rcases fc e2 with ⟨i,t,e,rfl⟩|⟨i,t,e,rfl⟩
      ·show cR (kV p.1) _;rw [hk,e];exact ⟨t,rfl⟩
      ·show cR (kV p.1) _;rw [hk,e];exact ⟨t,rfl⟩
  exact key acc'.toList rk (by rw [av];exact hacc.1) fun j v hj=>hacc.2 j v (by rw [<- dC];exact hj)
 exact ⟨.ref s.heap.objs.size,_,I.laid (t':=tk) kp (au _) (show dw X.prog X.w _ h' _ (.lst _) from ⟨by simpa using hz,acc'.toList,c',rv,by rw [FW];exact e⟩),rfl,q _ (I.hok.fresh (au _))⟩
def yr (x:Str):List V:=x.cps.toList.map fun c=>V.str ⟨#[c]⟩
theorem xr (hc:X.calm=true):j7 X (.type "tuple") (fun xs H Q=>∃ x,xs=[.str x]/\x.cps.size<=sizeLine/\∀ l,H l=none->Q (.ref l) (upd H l (.tup (yr x)))):=by
 intro pins s σ H xs us Q I r h;obtain ⟨x,rfl,hz,q⟩:=h;obtain ⟨u,rfl,rx⟩:=jH r;obtain ⟨t,rfl⟩:=rx;refine call_tuple_str (I.ok.hd hc) x t (fun h' tk acc kp hacc=>?_) hz;have I1:bB X pins σ H { s with heap:=h',toks:=tk }:=I.kept (t':=tk) kp;have rv:dH (yr x) acc.toList:=by
  have key:∀ (cs:List Nat) (acc:List af),acc.length=cs.length->(∀ (j:Nat) (v:af),acc[j]?=some v->∃ c u,cs[j]?=some c/\v=.str ⟨#[c]⟩ u)->dH (cs.map fun c=>V.str ⟨#[c]⟩) acc:=by
   intro cs;induction cs with
   |nil=>intro acc hl _;cases acc with
    |nil=>exact .nil
    |cons _ _=>simp at hl
   |cons c cs ih =>
    intro acc hl hv;cases acc with
    |nil=>simp at hl
    |cons v acc =>
     obtain ⟨c',u,e1,rfl⟩:=hv 0 v rfl;simp only [Dl,De] at e1;subst e1;exact .cons ⟨u,rfl⟩ (ih acc (by simpa using hl) fun j v hj=>by simpa using hv (j+1) v (by simpa using hj))
  refine key x.cps.toList acc.toList (by rw [av,av];exact hacc.1) fun j v hj=>?_;obtain ⟨c,u,e1,e2⟩:=hacc.2 j v (by rw [<- dC];exact hj);exact ⟨c,u,by rw [dC];exact e1,e2⟩
 have I2:bB X pins σ (upd H h'.objs.size (.tup (yr x))) { s with heap:=h'.push { cls:=.type "tuple",data:=.seq acc },toks:=tk } :=
  I1.laid (t':=tk) (fun b o e=>ag _ e) (au _) (show dw X.prog X.w _ _ _ (.tup (yr x)) from ⟨by unfold yr;simpa using hz,acc.toList,rv,by rw [FW];exact xf _ _⟩)
 exact ⟨.ref h'.objs.size,_,I2,rfl,q _ (I1.hok.fresh (au _))⟩
end
end L2
end
namespace L2
open PySem PySem.Spec PyProof.Rows
section
section
theorem qe {elt target iter ifs bT scope pos it acc env}
  (h0:gU (aL prog w) A (.compLoop (.SetComp elt (⟨target,iter,ifs,0⟩::bT) scope pos) 0 it acc env) R s)
  (h:ar (aL prog w) A (vG it) (fun it' s'=>gU (aL prog w) A (.compLoop (.SetComp elt (⟨target,iter,ifs,0⟩::bT) scope pos) 0 it' acc env) R s')
   (notedBy (aL prog w) A env fun x s'=>R (.error x) s') s) :
  gU (aL prog w) A (.compStart (.SetComp elt (⟨target,iter,ifs,0⟩::bT) scope pos) 0 it acc env) R s:=by
 refine Dk ?_;show ar _ _ ((compStart (.SetComp elt (⟨target,iter,ifs,0⟩::bT) scope pos) 0 it acc env).onRaise (fun x=>do noteFrame x env;wC theWindowsPlace)) _ _ s;refine wpAny_notedAt ?_;unfold compStart;show ar _ _ (ask >>= _) _ _ s;refine a7 (gZ (wpAny_ite ?_));split
 ·first
   |exact a7 (aa (aa (uj rfl h0)))
   |exact aa (uj rfl h0)
 ·first
   |exact a7 (i9 (a7 (jD (a7 (ck h (fun it' s' hq=>aa (uj rfl hq)) fun _ _ x=>x)))))
   |(refine a7 (i9 ?_);show ar _ _ (wC iter.pos >>= _) _ _ s;exact a7 (jD (a7 (ck h (fun it' s' hq=>aa (uj rfl hq)) fun _ _ x=>x))))
theorem sC (h:Q (.ref s.heap.objs.size) { s with heap:=s.heap.push (fN w) }):ar (aL prog w) A (newSet (.type "set")) Q E s:=by
 unfold newSet setsByText;refine a7 (a7 (gZ (aa ?_)));dsimp only;simp only [newObj];exact a7 (OG (aa h))
theorem A7     (hS:l9 w s.heap a ss) (hr:ss.length+1<gY)
  (h:∀ h' tk',bH a s.heap h'->l9 w h' a (if x∈ss then ss else ss++[x])->Q .none { s with heap:=h',toks:=tk' }) :
  ar (aL prog w) A (call (.builtin "set.add") [.ref a,.str x tk]) Q E s:=by
 have hT:s.TypeIs (.ref a) "set":=by obtain ⟨es,ep,t,I,_⟩:=id hS;exact ⟨_,I.at_,rfl⟩
 refine bX F.slot_set_add hT F.entry_set_add ?_ (F.args_set_add_2 _ _);unfold kR.«set.add» OR;simp only [List.isEmpty_nil,bind_assoc];unfold OS;refine a7 (aa ?_);try dsimp only
 refine a7 (aa ?_);try dsimp only
 refine a7 ?_;refine DF hS hr fun h' tk' sb hS'=>?_;exact aa ⟨_,rfl,h h' tk' sb hS'⟩
end
def X0 (w:bn) (D:ak) (o:Obj) (acc:List Str):Prop:=∀ h:bE,h.get? D=some o->l9 w h D acc
def T8 (X:Cx) (elt:bd) (env:Env) (D:ak) (K:ai->Prop) (s:ai):Prop:=ar (aL X.prog X.w) X.A (ed elt env) (fun x s₄=>ar (aL X.prog X.w) X.A (call (.builtin "set.add") [.ref D,x]) (fun _ s₅=>K s₅) (fun _ _=>False) s₄) (fun _ _=>False) s
abbrev UQ (te:TE) (σ:St) (H:Hp) (acc:List Str) (m:Nat) (V:Nat->List Str->Hp->Prop):Prop:=te σ H fun y H4=>∃ z m',y=.str z/\m'<m/\V m' (if z∈acc then acc else acc++[z]) H4
theorem Mc {X:Cx}{elt:bd}{te:TE}{N':List Str}{scope:dz}{M:St->Prop} (pe:∀ cl C s₀ H₀ ex pn,PE (dS X N' scope cl C s₀ H₀ ex pn) elt te) :
  LP X N' scope M (fun D o acc=>(∀ v,o.data≠.cell v)/\X0 X.w D o acc) (fun acc=>acc.length+1<gY) (UQ te) (T8 X elt):=by
 intro cl C s₀ H₀ ex pn D pl o acc σ6 H7 s7 K m V h1 h2 h3 _ hl hP I7 q7 fin
 refine fG (pe cl C s₀ H₀ ex pn _ s7 σ6 H7 _ I7 q7) fun u8 s8 h_5=>?_
 obtain ⟨y,H8,I8,r8,z,m',hy,hm,q8⟩:=h_5
 obtain ⟨pD,pN,_⟩:=I8.pin (D,_) (ap _ ah)
 subst hy
 obtain ⟨tz,rfl⟩:=r8
 refine A7 (hP.2 _ pD) hl fun h9 tk9 sb9 hS9=>?_
 obtain ⟨es9,ep9,t9,is9,pm9⟩:=id hS9
 have e9':=is9.at_
 exact fin _ _ H8 _ m' ((I8.swap sb9 e9' (fun _ z=>nomatch z) h1 h2 h3).tok _) ⟨fun _ z=>(nomatch z),fun h e=>hS9.keep fun o eo=>by rw [e9'] at eo;cases eo;exact e⟩ hm q8
theorem Md {X:Cx}{elt:bd}{f:Sem Fin}{a:Code} (hf:f=pure (.again a)) (env:Env) (D:ak) (K:ai->Prop) (s:ai) (h:T8 X elt env D K s):ar (aL X.prog X.w) X.A ((do let v <- ed elt env;wC elt.pos;let _ <- call (.builtin "set.add") [.ref D,v]) >>= fun _=>f) (fun f s5=>f=.again a/\K s5) (fun _ _=>False) s:=by
 subst hf;exact a7 (a7 (fG h fun x s4 h4=>a7 (jD (a7 (fG h4 fun _ _ q=>aa (aa ⟨rfl,q⟩))))))
theorem PJ {X:Cx}{elt tg iter:bd}{ifs:List bd}{scope:dz}{pos:Pos}{te:TE}{N':List Str}{nt:Nat}{ix:List Nat} (pe:∀ cl C s₀ H₀ ex pn,PE (dS X N' scope cl C s₀ H₀ ex pn) elt te) :
  Pz X N' scope nt nt ix (.SetComp elt [⟨tg,iter,ifs,0⟩] scope pos) tg ifs (newSet (.type "set")) (nU X.w) [] (fun acc=>acc.length+1<gY) (UQ te) :=
 ⟨_,_,fun _=>T8 X elt,fun _=>True,fun h=>h.1,rfl,fun _=>⟨fun _ z=>(nomatch z),fun _ e=>AS X.w e⟩,fun _ h e=>C1 (h.2 _ e),sC,fun _=>Rl (iter:=iter) (fun _ _=>rfl) fun a b c d h=>Md rfl a b c d h,qe,⟨au _,fun _ _ _=>trivial⟩,fun _=>Mc pe⟩
inductive Rn (w:bn) (nt:Nat) (ix:List Nat) (g:TG) (tt:TT) (te:TE) (σ:St) (Q:VK) (J:It) (H1:Hp):Prop
 |mk (W:Nat->Nat->List Str->Hp->Prop) (w0:∃ m,W 0 m [] H1) (turn:∀ i m acc H,W i m acc H ->
 (J.stop i H/\∀ p,H p=none->Q (.ref p) (upd H p (nU w p acc))) \/
 (J.go i H/\acc.length+1<gY/\∀ x H',J.yld i H x H'->g x (kW nt ix σ) H' fun σ2 H2=>tt σ2 H2 fun b H3 =>
  if b=true then te σ2 H3 fun y H4=>∃ z m',y=.str z/\m'<m/\W (i+1) m' (if z∈acc then acc else acc++[z]) H4 else ∃ m',m'<m/\W (i+1) m' acc H3)):Rn w nt ix g tt te σ Q J H1
def Me (w:bn) (nt:Nat) (ix:List Nat) (wi:TI) (g:TG) (tt:TT) (te:TE):TE:=fun σ H Q=>wi σ H (Rn w nt ix g tt te σ Q)
theorem Go {X:Cx}{elt tg iter:bd}{ifs:List bd}{scope:dz}{pos:Pos}{wi:TI}{g:TG}{tt:TT}{te:TE}{N':List Str}{nt:Nat}{ix:List Nat}
  (hc:X.calm=true) (S:oF X scope N' nt ix) (lo:S_ nt g) (hi:PI X tg iter wi)
  (hb:∀ cl C s₀ H₀ ex pn,PG (dS X N' scope cl C s₀ H₀ ex pn) tg g/\Pt (dS X N' scope cl C s₀ H₀ ex pn) ifs tt/\PE (dS X N' scope cl C s₀ H₀ ex pn) elt te)
  (hs:∀ x,el iter X.env x=pure x:=by intro _;rfl):PE X (.SetComp elt [⟨tg,iter,ifs,0⟩] scope pos) (Me X.w nt ix wi g tt te):=by
 intro pins s σ H Q I h;obtain ⟨cl,hcl,c1,c2⟩:=oE (scope:=scope) (env:=X.env) fun y hy hf=>I.ok.has y.1 (S.free y hy hf);show ar _ _ (comprehension (.SetComp elt [⟨tg,iter,ifs,0⟩] scope pos) scope X.env (firstIterPos [⟨tg,iter,ifs,0⟩] pos) (newSet (.type "set")) (firstAsync [⟨tg,iter,ifs,0⟩]) (firstIter [⟨tg,iter,ifs,0⟩] X.env)) _ _ _;refine qo (use:=none) rfl hs hcl S.kind S.loc (fG (hi pins s σ H _ I h) fun v s1 h1=>fG h1 fun itv s2 h2=>?_);obtain ⟨it,fp,tn,J,H2,e,I2,T,st2,f2,W,w0,turn⟩:=h2;subst e;refine Gf (RR:=fun acc C=>compPost (aL X.prog X.w) X.A X.xe none (EP X pins σ Q) acc C) (PJ fun a b c d e f=>(hb a b c d e f).2.2) hc S lo (fun a b c d e f=>⟨(hb a b c d e f).1,(hb a b c d e f).2.1⟩) c1 c2 I2 T st2 f2 w0 turn ?_;intro D C m s' acc H' hD _ q hn hI;exact ⟨m,hn,fun h' sb=>⟨.ref D,_,hI h' sb,rfl,q⟩⟩
section
theorem A8:j7 X (.builtin "len") (fun xs H Q=>∃ p ss,xs=[.ref p]/\H p=some (nU X.w p ss)/\Q (.int ss.length) H):=by
 intro pins s σ H xs us Q I r h;obtain ⟨p,ss,rfl,hq,q⟩:=h;obtain ⟨u,rfl,rx⟩:=jH r;cases rx;obtain ⟨es,ep,t,is,pm⟩:=(show dw X.prog X.w H s.heap p (nU X.w p ss) from I.hok p _ hq).1;have hlen:es.size=ss.length:=by rw [<- pm.length_eq,ao,av]
 have hsm:(es.size:Int)<2 ^ 63:=by
  have h1:=is.few;have h2:gY<=2 ^ 62:=by decide
  omega
 refine AD kind_len plain_len entry_len (args_len1 _) (wpAny_len_body_set is.at_ ⟨rfl,rfl,rfl⟩ rfl is.fits hsm ?_);refine ⟨.int _,H,I.tok _,⟨_,rfl⟩,?_⟩;rw [hlen];exact q
end
end
end L2
section
namespace L2
open PySem PySem.Spec PyProof.Rows
section
variable {K:a8}{nt:Nat}{ix:List Nat}{te:TE}{σ:St}{H1:Hp}{Q:VK}{a:ak}{xs:List V}{i:Nat}
end
end L2
namespace L2
open PySem PySem.Spec PyProof.Rows
def HM (so:dz) (N:List Str) (scope:dz) (N':List Str) (nt:Nat) (ix:List Nat):Bool :=
 (scope.kind == .function)&&(scope.names.all fun y=>y.2 != .cell||scope.names.lookup y.1==some .cell)&&(scope.names.all fun y=>y.2 != .local||scope.names.lookup y.1==some .local) &&
 (scope.names.all fun y=>y.2 != .free||so.names.lookup y.1==some .cell||so.names.lookup y.1==some .free) &&
 ((bA ix.length).all fun k=>match ix[k]? with
  |none=>false
  |some i=>match N[i]? with
   |none=>false
   |some x=>N'[nt+k]? == some x&&scope.names.lookup x==some .free)&&(N'.length==nt+ix.length)
theorem bR       (h:HM so N scope N' nt ix=true) (h1:X.env.scope=so:=by rfl) (h2:X.N=N:=by rfl):oF X scope N' nt ix:=by
 unfold HM at h;simp only [aF,bY] at h;obtain ⟨⟨⟨⟨⟨a,b⟩,c⟩,d⟩,e⟩,l⟩:=h;refine ⟨by simpa using a,fun y hy z=>?_,fun y hy z=>?_,fun y hy z=>?_,fun k i hk=>?_,by simpa using l⟩
 ·have:=b y hy;simpa [z] using this
 ·have:=c y hy;simpa [z] using this
 ·have:=d y hy;rw [h1];simpa [z] using this
 ·have hl:k<ix.length:=(List.getElem?_eq_some_iff.mp hk).1;have:=e k (List.mem_range.mpr hl);rw [hk] at this;rw [h2];simp only at this;split at this
  ·cases this
  ·rename_i x hx
   simp only [aF] at this;exact ⟨x,hx,by simpa using this.1,by simpa using this.2⟩
end L2
end
namespace L2
open PySem PySem.Spec PyProof.Rows
section
section
variable {K:a8}{nt:Nat}{ix:List Nat}{te:TE}{σ:St}{H1:Hp}{Q:VK}{a b:ak}{xs ys:List V}{i k:Nat}
end
end
end L2
namespace J
open PySem L2
section
abbrev D:=BI
inductive R (α:Type) where
 |ok (a:α)
 |ex (c:Str) (n:Option D)
 |no
def R.bind {α β:Type}:R α->(α->R β)->R β
 |.ok a,f=>f a
 |.ex c n,_=>.ex c n
 |.no,_=>.no
@[simp] theorem bind_ok {α β:Type} (a:α) (f:α->R β):(R.ok a).bind f=f a:=rfl
@[simp] theorem bind_ex {α β:Type} (c:Str) (n:Option D) (f:α->R β):(R.ex c n).bind f=.ex c n:=rfl
@[simp] theorem bind_no {α β:Type} (f:α->R β):(R.no:R α).bind f=.no:=rfl
def kD:eR->D
 |.inl i=>.int i
 |.inr x=>.str x
def tD (ks:List eR):D:=.tuple (ks.map kD)
mutual
inductive RD (K:a8) (H:Hp):V->D->Prop
 |none:RD K H .non .none
 |bool (b:Bool):RD K H (.bl b) (.bool b)
 |int (i:Int):RD K H (.int i) (.int i)
 |str (x:Str):RD K H (.str x) (.str x)
 |list {a:ak}{xs:List V}{ds:List D}:ni K H a xs->RDs K H xs ds->RD K H (.ref a) (.list ds)
 |tuple {a:ak}{xs:List V}{ds:List D}:H a=some (.tup xs)->RDs K H xs ds->RD K H (.ref a) (.tuple ds)
 |dictK {a:ak}{kvs:List (eR×V)}{ds:List (D×D)}:H a=some (.dK kvs)->RDk K H kvs ds->RD K H (.ref a) (.dict ds)
 |dictT {a:ak}{kvs:List (List eR×V)}{ds:List (D×D)}:H a=some (.dT kvs)->kvs≠[]->RDt K H kvs ds->RD K H (.ref a) (.dict ds)
 |dictF {a:ak}{o:Obj}{kvs:List (List eR×V)}{ds:List (D×D)}:H a=some (.frz o (.dT kvs))->kvs≠[]->RDt K H kvs ds->RD K H (.ref a) (.dict ((.none,.none)::ds))
inductive RDs (K:a8) (H:Hp):List V->List D->Prop
 |nil:RDs K H [] []
 |cons {x:V}{xs:List V}{d:D}{ds:List D}:RD K H x d->RDs K H xs ds->RDs K H (x::xs) (d::ds)
inductive RDk (K:a8) (H:Hp):List (eR×V)->List (D×D)->Prop
 |nil:RDk K H [] []
 |cons {k:eR}{x:V}{xs:List (eR×V)}{d:D}{ds:List (D×D)}:RD K H x d->RDk K H xs ds->RDk K H ((k,x)::xs) ((kD k,d)::ds)
inductive RDt (K:a8) (H:Hp):List (List eR×V)->List (D×D)->Prop
 |nil:RDt K H [] []
 |cons {k:List eR}{x:V}{xs:List (List eR×V)}{d:D}{ds:List (D×D)}:RD K H x d->RDt K H xs ds->RDt K H ((k,x)::xs) ((tD k,d)::ds)
end
section
theorem RD.same (e:c_ H H')  (h:RD K H v d):RD K H' v d:=RD.rec (motive_1:=fun v d _=>RD K H' v d) (motive_2:=fun v d _=>RDs K H' v d) (motive_3:=fun v d _=>RDk K H' v d) (motive_4:=fun v d _=>RDt K H' v d) .none .bool .int .str (fun h _ r=>.list (e.seq h) r) (fun h _ r=>.tuple (e _ _ h) r) (fun h _ r=>.dictK (e _ _ h) r) (fun h n _ r=>.dictT (e _ _ h) n r) (fun h n _ r=>.dictF (e _ _ h) n r) .nil (fun _ _ a b=>.cons a b) .nil (fun _ _ a b=>.cons a b) .nil (fun _ _ a b=>.cons a b) h
theorem RDs.same (e:c_ H H')  (h:RDs K H v d):RDs K H' v d:=RDs.rec (motive_1:=fun v d _=>RD K H' v d) (motive_2:=fun v d _=>RDs K H' v d) (motive_3:=fun v d _=>RDk K H' v d) (motive_4:=fun v d _=>RDt K H' v d) .none .bool .int .str (fun h _ r=>.list (e.seq h) r) (fun h _ r=>.tuple (e _ _ h) r) (fun h _ r=>.dictK (e _ _ h) r) (fun h n _ r=>.dictT (e _ _ h) n r) (fun h n _ r=>.dictF (e _ _ h) n r) .nil (fun _ _ a b=>.cons a b) .nil (fun _ _ a b=>.cons a b) .nil (fun _ _ a b=>.cons a b) h
theorem RDk.same (e:c_ H H')  (h:RDk K H v d):RDk K H' v d:=RDk.rec (motive_1:=fun v d _=>RD K H' v d) (motive_2:=fun v d _=>RDs K H' v d) (motive_3:=fun v d _=>RDk K H' v d) (motive_4:=fun v d _=>RDt K H' v d) .none .bool .int .str (fun h _ r=>.list (e.seq h) r) (fun h _ r=>.tuple (e _ _ h) r) (fun h _ r=>.dictK (e _ _ h) r) (fun h n _ r=>.dictT (e _ _ h) n r) (fun h n _ r=>.dictF (e _ _ h) n r) .nil (fun _ _ a b=>.cons a b) .nil (fun _ _ a b=>.cons a b) .nil (fun _ _ a b=>.cons a b) h
theorem RDt.same (e:c_ H H')  (h:RDt K H v d):RDt K H' v d:=RDt.rec (motive_1:=fun v d _=>RD K H' v d) (motive_2:=fun v d _=>RDs K H' v d) (motive_3:=fun v d _=>RDk K H' v d) (motive_4:=fun v d _=>RDt K H' v d) .none .bool .int .str (fun h _ r=>.list (e.seq h) r) (fun h _ r=>.tuple (e _ _ h) r) (fun h _ r=>.dictK (e _ _ h) r) (fun h n _ r=>.dictT (e _ _ h) n r) (fun h n _ r=>.dictF (e _ _ h) n r) .nil (fun _ _ a b=>.cons a b) .nil (fun _ _ a b=>.cons a b) .nil (fun _ _ a b=>.cons a b) h
mutual
def sD:D->Bool
 |.dict _=>false
 |.list xs=>noDs xs
 |.tuple xs=>noDs xs
 |_=>true
def noDs:List D->Bool
 |[]=>true
 |x::r=>sD x&&noDs r
end
theorem UR (h:(a&&b)=true):a=true:=(Bool.and_eq_true_iff.mp h).1
theorem US (h:(a&&b)=true):b=true:=(Bool.and_eq_true_iff.mp h).2
theorem RD.rep  (h:RD K H v d):sD d=true->Gm K H v d:=RD.rec (motive_1:=fun v d _=>sD d=true->Gm K H v d) (motive_2:=fun v d _=>noDs d=true->Reps K H v d) (motive_3:=fun _ _ _=>True) (motive_4:=fun _ _ _=>True) (fun _=>.none) (fun b _=>.bool b) (fun i _=>.int i) (fun x _=>.str x) (fun h _ r e=>.list h (r e)) (fun h _ r e=>.tuple (.of h) (r e)) (fun _ _ _ e=>pV e) (fun _ _ _ _ e=>pV e) (fun _ _ _ _ e=>pV e) (fun _=>.nil) (fun _ _ a b e=>.cons (a (UR e)) (b (US e))) trivial (fun _ _ _ _=>trivial) trivial (fun _ _ _ _=>trivial) h
theorem RDs.length:∀ {ds:List D},RDs K H vs ds->vs.length=ds.length:=by
 induction vs with
 |nil=>intro ds h;cases h;rfl
 |cons x r ih=>intro ds h;cases h with|cons a b=>exact congrArg (· + 1) (ih b)
theorem RDs.get:∀ {ds:List D}{i:Nat}{v:V},RDs K H vs ds->vs[i]?=some v->∃ d,ds[i]?=some d/\RD K H v d:=by
 induction vs with
 |nil=>intro ds i v _ e;cases e
 |cons x r ih =>
  intro ds i v h e;cases h with
  |cons a b =>
   cases i with
   |zero=>cases e;exact ⟨_,rfl,a⟩
   |succ i=>have q:=ih (i:=i) b e;exact q
theorem RDs.get':∀ {ds:List D}{i:Nat}{d:D},RDs K H vs ds->ds[i]?=some d->∃ v,vs[i]?=some v/\RD K H v d:=by
 induction vs with
 |nil=>intro ds i v h e;cases h;cases e
 |cons x r ih =>
  intro ds i v h e;cases h with
  |cons a b =>
   cases i with
   |zero=>cases e;exact ⟨_,rfl,a⟩
   |succ i=>have q:=ih (i:=i) b e;exact q
theorem RDs.append  : ∀ {ds:List D},RDs K H vs ds->RDs K H ws es->RDs K H (vs++ws) (ds++es):=by
 induction vs with
 |nil=>intro ds h s;cases h;exact s
 |cons x r ih=>intro ds h s;cases h with|cons a b=>exact .cons a (ih b s)
theorem RDs.drop:∀ {ds:List D} (n:Nat),RDs K H vs ds->RDs K H (vs.drop n) (ds.drop n):=by
 induction vs with
 |nil=>intro ds n h;cases h;cases n<;>exact .nil
 |cons x r ih =>
  intro ds n h;cases n with
  |zero=>exact h
  |succ n=>cases h with|cons a b=>exact ih n b
theorem RDs.take:∀ {ds:List D} (n:Nat),RDs K H vs ds->RDs K H (vs.take n) (ds.take n):=by
 induction vs with
 |nil=>intro ds n h;cases h;cases n<;>exact .nil
 |cons x r ih =>
  intro ds n h;cases n with
  |zero=>exact .nil
  |succ n=>cases h with|cons a b=>exact .cons a (ih n b)
theorem yt:∀ (ss:List Str),RDs K H (ss.map V.str) (ss.map aS)
 |[]=>.nil
 |x::r=>.cons (.str x) (yt r)
theorem RD.str_inv  (h:RD K H v (.str x)):v=.str x:=by cases h;rfl
theorem RD.bool_inv  (h:RD K H v (.bool x)):v=.bl x:=by cases h;rfl
theorem RD.int_inv  (h:RD K H v (.int x)):v=.int x:=by cases h;rfl
theorem xL {α:Type}{c:α->D}{k:α->V} (hc:∀ {v x},RD K H v (c x)->v=k x) {ss:List α}:∀ {vs:List V},RDs K H vs (ss.map c)->vs=ss.map k:=by
 induction ss with
 |nil=>intro vs h;cases h;rfl
 |cons x r ih=>intro vs h;cases h with|cons a b=>rw [hc a,ih b];rfl
theorem oK {ss:List Str}{vs:List V}:RDs K H vs (ss.map aS)->vs=ss.map V.str:=xL RD.str_inv
theorem A9 {ss:List Bool}{vs:List V}:RDs K H vs (ss.map cr)->vs=ss.map V.bl:=xL RD.bool_inv
theorem oM {ss:List Int}{vs:List V}:RDs K H vs (ss.map b_)->vs=ss.map V.int:=xL RD.int_inv
end
def nt:HO->Bool
 |.tup _=>false
 |_=>true
structure cF (H Hs H' Hs':Hp):Prop where
 all:c_ H H'
 sh:c_ Hs Hs'
 sub:c_ Hs' H'
 out:∀ a o,H a=some o->nt o=true->Hs a=none->Hs' a=none
theorem cF.refl (h:c_ Hs H):cF H Hs H Hs:=⟨.refl _,.refl _,h,fun _ _ _ _ e=>e⟩
theorem cF.trans (a:cF H Hs H1 Hs1) (b:cF H1 Hs1 H2 Hs2):cF H Hs H2 Hs2 :=
 ⟨a.all.trans b.all,a.sh.trans b.sh,b.sub,fun c o e t n=>b.out c o (a.all c o e) t (a.out c o e t n)⟩
theorem cF.new   (h:c_ Hs H) (n:H p=none):cF H Hs (upd H p o) (upd Hs p o):=by
 have n':Hs p=none:=h.free n;refine ⟨kr n,kr n',fun b u e=>?_,fun a u e t z=>?_⟩
 ·by_cases hb:b=p
  ·subst hb;rw [ba] at e ⊢;exact e
  ·rw [a_ hb] at e ⊢;exact h b u e
 ·rw [a_ (bp e n)];exact z
theorem cF.mine   (h:c_ Hs H) (n:H p=none):cF H Hs (upd H p o) Hs:=by
 refine ⟨kr n,.refl _,fun b u e=>?_,fun a u e t z=>z⟩;have e':=h b u e;rw [a_ (bp e' n)];exact e'
inductive my (K:a8) (Hs:Hp):HO->D->Prop
 |lst {vs:List V}{ds:List D}:RDs K Hs vs ds->my K Hs (.lst vs) (.list ds)
 |dK {kvs:List (eR×V)}{ds:List (D×D)}:RDk K Hs kvs ds->my K Hs (.dK kvs) (.dict ds)
 |dT {kvs:List (List eR×V)}{ds:List (D×D)}:kvs≠[]->RDt K Hs kvs ds->my K Hs (.dT kvs) (.dict ds)
 |dF {o:Obj}{kvs:List (List eR×V)}{ds:List (D×D)}:kvs≠[]->RDt K Hs kvs ds->my K Hs (.frz o (.dT kvs)) (.dict ((.none,.none)::ds))
theorem my.same    (e:c_ Hs Hs') (h:my K Hs o d):my K Hs' o d:=by
 cases h with
 |lst r=>exact .lst (r.same e)
 |dK r=>exact .dK (r.same e)
 |dT n r=>exact .dT n (r.same e)
 |dF n r=>exact .dF n (r.same e)
theorem my.nt    (h:my K Hs o d):J.nt o=true:=by cases h<;>rfl
theorem my.share     (n:Hs a=none) (h:my K Hs o d):RD K (upd Hs a o) (.ref a) d:=by
 have e:c_ Hs (upd Hs a o):=kr n;cases h with
 |lst r=>exact .list (.of ba) (r.same e)
 |dK r=>exact .dictK ba (r.same e)
 |dT n r=>exact .dictT ba n (r.same e)
 |dF n r=>exact .dictF ba n (r.same e)
inductive Sl where
 |no
 |shr (d:D)
 |own (d:D)
 |lck (d:D)
 |ow2 (dss:List (List D))
abbrev az:=List Sl
inductive AU (K:a8) (H Hs:Hp):List ak->List (List D)->Prop
 |nil:AU K H Hs [] []
 |cons {a:ak}{as:List ak}{vs:List V}{ds:List D}{dss:List (List D)}:H a=some (.lst vs)->RDs K Hs vs ds->AU K H Hs as dss->AU K H Hs (a::as) (ds::dss)
theorem AU.step  (e:c_ H H') (e':c_ Hs Hs')  (h:AU K H Hs as dss):AU K H' Hs' as dss:=by
 induction h with
 |nil=>exact .nil
 |cons h r t ih=>exact .cons (e _ _ h) (r.same e') ih
theorem AU.upd      (n:b∉as) (h:AU K H Hs as dss):AU K (upd H b o) Hs as dss:=by
 induction h with
 |nil=>exact .nil
 |cons h r t ih=>exact .cons (by rw [a_ (fun z=>n (by rw [<- z];exact ah))];exact h) r (ih fun z=>n (a9 _ z))
theorem AU.there     (h:AU K H Hs as dss) (hb:b∈as):∃ o,H b=some o/\nt o=true:=by
 induction h with
 |nil=>cases hb
 |cons h r t ih =>
  rcases List.mem_cons.mp hb with e|hb
  ·exact ⟨_,e ▸ h,rfl⟩
  ·exact ih hb
structure O2 (K:a8) (H0 H Hs:Hp) (ρ:az) (σ:St) (i:Nat) (dss:List (List D)) (a:ak) (as:List ak):Prop where
 at_:σ[i]?=some (some (V.ref a))
 ob:H a=some (.lst (as.map V.ref))
 nd:(a::as).Nodup
 out:∀ b∈a::as,Hs b=none/\H0 b=none
 dj:∀ b∈a::as,∀ (j:Nat) (e:D),ρ[j]?=some (Sl.own e)->σ[j]?≠some (some (V.ref b))
 inn:AU K H Hs as dss
structure Fr (K:a8) (H0 Hs0:Hp) (la:Nat->Option ak) (ρ:az) (σ:St) (H Hs:Hp):Prop where
 st:cF H0 Hs0 H Hs
 len:ρ.length=σ.length
 sh:∀ (i:Nat) (d:D),ρ[i]?=some (Sl.shr d)->∃ v,σ[i]?=some (some v)/\RD K Hs v d
 ow:∀ (i:Nat) (d:D),ρ[i]?=some (Sl.own d)->∃ a o,σ[i]?=some (some (V.ref a))/\H a=some o/\Hs a=none/\H0 a=none/\my K Hs o d
 lk:∀ (i:Nat) (d:D),ρ[i]?=some (Sl.lck d)->∃ a o,σ[i]?=some (some (V.ref a))/\la i=some a/\H a=some o/\Hs a=none/\H0 a=some o/\my K Hs o d
 dj:∀ (i j:Nat) (d e:D) (a:ak),ρ[i]?=some (Sl.own d)->ρ[j]?=some (Sl.own e)->σ[i]?=some (some (V.ref a))->σ[j]?=some (some (V.ref a))->i=j
 lh:∀ (i:Nat) (a:ak),la i=some a->∃ o,H0 a=some o
 o2:∀ (i:Nat) (dss:List (List D)),ρ[i]?=some (Sl.ow2 dss)->∃ a as,O2 K H0 H Hs ρ σ i dss a as
 u2:∀ (i j:Nat) (d e:List (List D)),ρ[i]?=some (Sl.ow2 d)->ρ[j]?=some (Sl.ow2 e)->i=j
theorem Fr.step     (f:Fr K H0 Hs0 la ρ σ H Hs) (s:cF H Hs H' Hs'):Fr K H0 Hs0 la ρ σ H' Hs':=by
 refine ⟨f.st.trans s,f.len,fun i d e=>?_,fun i d e=>?_,fun i d e=>?_,f.dj,f.lh,fun i dss e=>?_,f.u2⟩
 ·obtain ⟨v,h1,h2⟩:=f.sh i d e;exact ⟨v,h1,h2.same s.sh⟩
 ·obtain ⟨a,o,h1,h2,h3,h4,h5⟩:=f.ow i d e;exact ⟨a,o,h1,s.all _ _ h2,s.out _ _ h2 h5.nt h3,h4,h5.same s.sh⟩
 ·obtain ⟨a,o,h1,h2,h3,h4,h5,h6⟩:=f.lk i d e;exact ⟨a,o,h1,h2,s.all _ _ h3,s.out _ _ h3 h6.nt h4,h5,h6.same s.sh⟩
 ·obtain ⟨a,as,h⟩:=f.o2 i dss e;refine ⟨a,as,h.at_,s.all _ _ h.ob,h.nd,fun b hb=>⟨?_,(h.out b hb).2⟩,h.dj,h.inn.step s.all s.sh⟩;have there:∃ o,H b=some o/\nt o=true:=by
   rcases List.mem_cons.mp hb with rfl|hb
   ·exact ⟨_,h.ob,rfl⟩
   ·exact h.inn.there hb
  obtain ⟨o,ho,hn⟩:=there;exact s.out b o ho hn (h.out b (by assumption)).1
inductive UT (K:a8) (H Hs:Hp) (v:V) (d:D):Prop
 |mk (a:ak) (o:HO) (h0:v=.ref a) (h1:H a=some o) (h2:Hs a=none) (h3:my K Hs o d):UT K H Hs v d
def RB (K:a8) (H Hs:Hp) (v:V) (d:D):Prop:=RD K Hs v d\/UT K H Hs v d
theorem RB.step    (h:RB K H Hs v d) (s:cF H Hs H' Hs'):RB K H' Hs' v d:=by
 rcases h with h|⟨a,o,h1,h2,h3,h4⟩
 ·exact .inl (h.same s.sh)
 ·exact .inr ⟨a,o,h1,s.all _ _ h2,s.out _ _ h2 h4.nt h3,h4.same s.sh⟩
theorem RB.full    (sub:c_ Hs H) (h:RB K H Hs v d):RD K H v d:=by
 rcases h with h|⟨a,o,rfl,h2,h3,h4⟩
 ·exact h.same sub
 ·have e:c_ (upd Hs a o) H:=fun b u q=>by
   by_cases hb:b=a
   ·subst hb;rw [ba] at q;cases q;exact h2
   ·rw [a_ hb] at q;exact sub b u q
  exact (h4.share h3).same e
theorem RB.list    (sub:c_ Hs H) (h:RB K H Hs v (.list ds)):∃ a vs,v=.ref a/\ni K H a vs/\RDs K Hs vs ds:=by
 rcases h with h|⟨a,o,rfl,h2,h3,h4⟩
 ·cases h with|list q r=>exact ⟨_,_,rfl,sub.seq q,r⟩
 ·cases h4 with|lst r=>exact ⟨a,_,rfl,.of h2,r⟩
theorem RB.tuple    (sub:c_ Hs H) (h:RB K H Hs v (.tuple ds)):∃ a vs,v=.ref a/\ko K H a vs/\RDs K Hs vs ds/\Hs a=some (.tup vs):=by
 rcases h with h|⟨a,o,rfl,h2,h3,h4⟩
 ·cases h with|tuple q r=>exact ⟨_,_,rfl,.of (sub _ _ q),r,q⟩
 ·cases h4
theorem RB.str    (h:RB K H Hs v (.str x)):v=.str x:=by
 rcases h with h|⟨a,o,rfl,h2,h3,h4⟩
 ·exact h.str_inv
 ·cases h4
theorem RB.int    (h:RB K H Hs v (.int i)):v=.int i:=by
 rcases h with h|⟨a,o,rfl,h2,h3,h4⟩
 ·exact h.int_inv
 ·cases h4
theorem RB.non   (h:RB K H Hs v .none):v=.non:=by
 rcases h with h|⟨a,o,rfl,h2,h3,h4⟩
 ·cases h;rfl
 ·cases h4
def XW (K:a8) (cls:Str->ak) (E:XK) (c:Str) (n:Option D) (H Hs:Hp):Prop:=match n with
 |none=>E (.ref (cls c)) none H
 |some d=>∀ dx v,H dx=some (.xd [("number",v)])->RD K Hs v d->E (.ref (cls c)) (some dx) H
def Fin {α:Type} (K:a8) (cls:Str->ak) (E:XK) (H Hs:Hp) (r:R α) (q:α->Prop):Prop:=match r with
 |.ok d=>q d
 |.ex c n=>∀ H' Hs',cF H Hs H' Hs'->XW K cls E c n H' Hs'
 |.no=>False
inductive Xy (K:a8) (cls:Str->ak) (E:XK) (ρ:az) (r:R D) (σ:St) (H:Hp) (Q:VK):Prop
 |mk (H0 Hs0:Hp) (la:Nat->Option ak) (Hs:Hp) (f:Fr K H0 Hs0 la ρ σ H Hs) (q:Fin K cls E H Hs r fun d=>∀ v H' Hs',cF H Hs H' Hs'->RD K Hs' v d->Q v H'):Xy K cls E ρ r σ H Q
def TR (K:a8) (cls:Str->ak) (E:XK) (ρ:az) (r:R D):TE:=Xy K cls E ρ r
inductive Xz (K:a8) (cls:Str->ak) (E:XK) (ρ:az) (r:R D) (σ:St) (H:Hp) (Q:VK):Prop
 |mk (H0 Hs0:Hp) (la:Nat->Option ak) (Hs:Hp) (f:Fr K H0 Hs0 la ρ σ H Hs) (q:Fin K cls E H Hs r fun d=>∀ v H' Hs',cF H Hs H' Hs'->RB K H' Hs' v d->Q v H'):Xz K cls E ρ r σ H Q
def TB (K:a8) (cls:Str->ak) (E:XK) (ρ:az) (r:R D):TE:=Xz K cls E ρ r
inductive UU (K:a8) (cls:Str->ak) (E:XK) (ρ:az) (r:R Bool) (σ:St) (H:Hp) (Q:Bool->Hp->Prop):Prop
 |mk (H0 Hs0:Hp) (la:Nat->Option ak) (Hs:Hp) (f:Fr K H0 Hs0 la ρ σ H Hs) (q:Fin K cls E H Hs r fun b=>∀ H' Hs',cF H Hs H' Hs'->Q b H'):UU K cls E ρ r σ H Q
def JM (K:a8) (cls:Str->ak) (E:XK) (ρ:az) (r:R Bool):TT:=UU K cls E ρ r
inductive Ro (K:a8) (H Hs:Hp):List V->List D->Prop
 |nil:Ro K H Hs [] []
 |cons {x:V}{xs:List V}{d:D}{ds:List D}:RB K H Hs x d->Ro K H Hs xs ds->Ro K H Hs (x::xs) (d::ds)
inductive UV (K:a8) (cls:Str->ak) (E:XK) (ρ:az) (r:R (List D)) (σ:St) (H:Hp) (Q:List V->Hp->Prop):Prop
 |mk (H0 Hs0:Hp) (la:Nat->Option ak) (Hs:Hp) (f:Fr K H0 Hs0 la ρ σ H Hs) (q:Fin K cls E H Hs r fun d=>∀ v H' Hs',cF H Hs H' Hs'->RDs K Hs' v d->Q v H'):UV K cls E ρ r σ H Q
def Wf (K:a8) (cls:Str->ak) (E:XK) (ρ:az) (r:R (List D)):TA:=UV K cls E ρ r
inductive UW (K:a8) (cls:Str->ak) (E:XK) (ρ:az) (r:R (List D)) (σ:St) (H:Hp) (Q:List V->Hp->Prop):Prop
 |mk (H0 Hs0:Hp) (la:Nat->Option ak) (Hs:Hp) (f:Fr K H0 Hs0 la ρ σ H Hs) (q:Fin K cls E H Hs r fun d=>∀ v H' Hs',cF H Hs H' Hs'->Ro K H' Hs' v d->Q v H'):UW K cls E ρ r σ H Q
def UX (K:a8) (cls:Str->ak) (E:XK) (ρ:az) (r:R (List D)):TA:=UW K cls E ρ r
structure C where
 X:Cx
 cls:Str->ak
 E:XK
structure JE (c:C) (e:bd) (g:az->R D):Prop where of ::
 run:∀ ρ,PE c.X e (TR c.X.K c.cls c.E ρ (g ρ))
instance {c:C}{e:bd}{g:az->R D}:CoeFun (JE c e g) (fun _=>∀ ρ,PE c.X e (TR c.X.K c.cls c.E ρ (g ρ))):=⟨JE.run⟩
structure JB (c:C) (e:bd) (g:az->R D):Prop where of ::
 run:∀ ρ,PE c.X e (TB c.X.K c.cls c.E ρ (g ρ))
instance {c:C}{e:bd}{g:az->R D}:CoeFun (JB c e g) (fun _=>∀ ρ,PE c.X e (TB c.X.K c.cls c.E ρ (g ρ))):=⟨JB.run⟩
structure JT (c:C) (e:bd) (g:az->R Bool):Prop where of ::
 run:∀ ρ,PT c.X e (JM c.X.K c.cls c.E ρ (g ρ))
instance {c:C}{e:bd}{g:az->R Bool}:CoeFun (JT c e g) (fun _=>∀ ρ,PT c.X e (JM c.X.K c.cls c.E ρ (g ρ))):=⟨JT.run⟩
structure JW (c:C) (e:bd) (g:az->R Bool):Prop where of ::
 run:∀ ρ,PW c.X e (JM c.X.K c.cls c.E ρ (g ρ))
instance {c:C}{e:bd}{g:az->R Bool}:CoeFun (JW c e g) (fun _=>∀ ρ,PW c.X e (JM c.X.K c.cls c.E ρ (g ρ))):=⟨JW.run⟩
structure HN (c:C) (es:List bd) (g:az->R (List D)):Prop where of ::
 run:∀ ρ,PA c.X es (Wf c.X.K c.cls c.E ρ (g ρ))
instance {c:C}{es:List bd}{g:az->R (List D)}:CoeFun (HN c es g) (fun _=>∀ ρ,PA c.X es (Wf c.X.K c.cls c.E ρ (g ρ))):=⟨HN.run⟩
structure PK (c:C) (es:List bd) (g:az->R (List D)):Prop where of ::
 run:∀ ρ,PA c.X es (UX c.X.K c.cls c.E ρ (g ρ))
instance {c:C}{es:List bd}{g:az->R (List D)}:CoeFun (PK c es g) (fun _=>∀ ρ,PA c.X es (UX c.X.K c.cls c.E ρ (g ρ))):=⟨PK.run⟩
section
theorem sF   (h:PE X e t) (m:∀ σ H Q,t' σ H Q->t σ H Q):PE X e t':=fun pins s σ H Q I q=>h pins s σ H Q I (m σ H Q q)
theorem UY   (h:PT X e t) (m:∀ σ H Q,t' σ H Q->t σ H Q):PT X e t':=fun pins s σ H Q I q=>h pins s σ H Q I (m σ H Q q)
theorem XA   (h:PW X e t) (m:∀ σ H Q,t' σ H Q->t σ H Q):PW X e t':=fun wh pins s σ H Q I q=>h wh pins s σ H Q I (m σ H Q q)
theorem Wg {X:Cx}{e:List bd}{t t':TA} (h:PA X e t) (m:∀ σ H Q,t' σ H Q->t σ H Q):PA X e t':=fun pos pins s σ H Q I q=>h pos pins s σ H Q I (m σ H Q q)
theorem Aa {X:Cx}{e:cP}{t t':TS} (h:PS X e t) (m:∀ D σ H,t' D σ H->t D σ H):PS X e t':=fun pins s σ H Q I q=>h pins s σ H Q I (m Q σ H q)
theorem X1 {X:Cx}{e:List cP}{t t':TS} (h:HD X e t) (m:∀ D σ H,t' D σ H->t D σ H):HD X e t':=fun pins s σ H Q I q=>h pins s σ H Q I (m Q σ H q)
theorem JE.bor (h:JE c e g):JB c e g:=.of fun ρ=>sF (h ρ) fun σ H Q ⟨H0,Hs0,la,Hs,f,q⟩=>⟨H0,Hs0,la,Hs,f,by
 cases hr:g ρ with
 |ok d=>rw [hr] at q;exact fun v H' Hs' s r=>q v H' Hs' s (.inl r)
 |ex c n=>rw [hr] at q;exact q
 |no=>rw [hr] at q;exact q⟩
theorem one {K:a8}{cls:Str->ak}{E:XK}{ρ:az}{r:R D}{β:Type}{k:D->R β}{σ:St}{H:Hp}{H0 Hs0 Hs:Hp}{la:Nat->Option ak}{Q:V->Hp->Prop}{q:β->Prop} (f:Fr K H0 Hs0 la ρ σ H Hs)
  (h:Fin K cls E H Hs (r.bind k) q) (m:∀ d v H' Hs',r=.ok d->cF H Hs H' Hs'->Fr K H0 Hs0 la ρ σ H' Hs'->RB K H' Hs' v d->Q v H'):TB K cls E ρ r σ H Q:=by
 refine ⟨H0,Hs0,la,Hs,f,?_⟩;cases r with
 |ok d=>exact fun v H' Hs' s r=>m d v H' Hs' rfl s (f.step s) r
 |ex c n=>exact h
 |no=>exact h
theorem Ab {K:a8}{cls:Str->ak}{E:XK}{ρ:az}{r:R D}{β:Type}{k:D->R β}{σ:St}{H:Hp}{H0 Hs0 Hs:Hp}{la:Nat->Option ak}{Q:V->Hp->Prop}{q:β->Prop} (f:Fr K H0 Hs0 la ρ σ H Hs)
  (h:Fin K cls E H Hs (r.bind k) q) (m:∀ d v H' Hs',r=.ok d->cF H Hs H' Hs'->Fr K H0 Hs0 la ρ σ H' Hs'->RD K Hs' v d->Q v H'):TR K cls E ρ r σ H Q:=by
 refine ⟨H0,Hs0,la,Hs,f,?_⟩;cases r with
 |ok d=>exact fun v H' Hs' s r=>m d v H' Hs' rfl s (f.step s) r
 |ex c n=>exact h
 |no=>exact h
theorem Mf {K:a8}{cls:Str->ak}{E:XK}{ρ:az}{r:R Bool}{β:Type}{k:Bool->R β}{σ:St}{H:Hp}{H0 Hs0 Hs:Hp}{la:Nat->Option ak}{Q:Bool->Hp->Prop}{q:β->Prop} (f:Fr K H0 Hs0 la ρ σ H Hs)
  (h:Fin K cls E H Hs (r.bind k) q) (m:∀ d H' Hs',r=.ok d->cF H Hs H' Hs'->Fr K H0 Hs0 la ρ σ H' Hs'->Q d H'):JM K cls E ρ r σ H Q:=by
 refine ⟨H0,Hs0,la,Hs,f,?_⟩;cases r with
 |ok d=>exact fun H' Hs' s=>m d H' Hs' rfl s (f.step s)
 |ex c n=>exact h
 |no=>exact h
theorem Gp {K:a8}{cls:Str->ak}{E:XK}{ρ:az}{r:R (List D)}{β:Type}{k:List D->R β}{σ:St}{H:Hp}{H0 Hs0 Hs:Hp}{la:Nat->Option ak}{Q:List V->Hp->Prop}{q:β->Prop} (f:Fr K H0 Hs0 la ρ σ H Hs)
  (h:Fin K cls E H Hs (r.bind k) q) (m:∀ d v H' Hs',r=.ok d->cF H Hs H' Hs'->Fr K H0 Hs0 la ρ σ H' Hs'->RDs K Hs' v d->Q v H'):Wf K cls E ρ r σ H Q:=by
 refine ⟨H0,Hs0,la,Hs,f,?_⟩;cases r with
 |ok d=>exact fun v H' Hs' s r=>m d v H' Hs' rfl s (f.step s) r
 |ex c n=>exact h
 |no=>exact h
theorem HP {K:a8}{cls:Str->ak}{E:XK}{ρ:az}{r:R (List D)}{β:Type}{k:List D->R β}{σ:St}{H:Hp}{H0 Hs0 Hs:Hp}{la:Nat->Option ak}{Q:List V->Hp->Prop}{q:β->Prop} (f:Fr K H0 Hs0 la ρ σ H Hs)
  (h:Fin K cls E H Hs (r.bind k) q) (m:∀ d v H' Hs',r=.ok d->cF H Hs H' Hs'->Fr K H0 Hs0 la ρ σ H' Hs'->Ro K H' Hs' v d->Q v H'):UX K cls E ρ r σ H Q:=by
 refine ⟨H0,Hs0,la,Hs,f,?_⟩;cases r with
 |ok d=>exact fun v H' Hs' s r=>m d v H' Hs' rfl s (f.step s) r
 |ex c n=>exact h
 |no=>exact h
theorem Fin.on {α:Type}{K:a8}{cls:Str->ak}{E:XK}{H Hs H' Hs':Hp}{r:R α}{q q':α->Prop} (h:Fin K cls E H Hs r q) (s:cF H Hs H' Hs') (m:∀ a,q a->q' a):Fin K cls E H' Hs' r q':=by
 cases r with
 |ok a=>exact m a h
 |ex c n=>exact fun H2 Hs2 s2=>h H2 Hs2 (s.trans s2)
 |no=>exact h
end
end
section
def FE (ρ:az) (i:Nat):R D:=match ρ[i]? with
 |some (Sl.shr d)=>.ok d
 |_=>.no
def FF (ρ:az) (i:Nat):R D:=match ρ[i]? with
 |some (Sl.shr d)=>.ok d
 |some (Sl.own d)=>.ok d
 |some (Sl.lck d)=>.ok d
 |_=>.no
section
variable {c:C}{e a b:bd}{g ga gb:az->R D}{pos:Pos}
theorem al (i:Nat) (hN:c.X.N[i]?=some x:=by rfl) (hv:P3 c.X.env.scope x:=by first|exact iI rfl|exact fB (iI rfl)|exact fB (fB rfl)) (hd:(x==("__debug__" : Str))=false:=by decide)
  (hcd:(x==("__classdict__" : Str))=false:=by decide):JE c (.Name x pos) (fun ρ=>FE ρ i):=.of fun ρ=>sF (sZ hN hv hd hcd) fun σ H Q h_0=>by
 obtain ⟨H0,Hs0,la,Hs,f,q⟩:=h_0;cases hr:ρ[i]? with
 |none=>simp only [FE,hr] at q;exact q.elim
 |some s =>
  cases s with
  |shr d =>
   obtain ⟨v,h1,h2⟩:=f.sh i d hr;simp only [FE,hr] at q;exact ⟨v,h1,q v H Hs (.refl f.st.sub) h2⟩
  |no=>simp only [FE,hr] at q;exact q.elim
  |own d=>simp only [FE,hr] at q;exact q.elim
  |lck d=>simp only [FE,hr] at q;exact q.elim
  |ow2 d=>simp only [FE,hr] at q;exact q.elim
theorem aj (i:Nat) (hN:c.X.N[i]?=some x:=by rfl) (hv:P3 c.X.env.scope x:=by first|exact iI rfl|exact fB (iI rfl)|exact fB (fB rfl)) (hd:(x==("__debug__" : Str))=false:=by decide)
  (hcd:(x==("__classdict__" : Str))=false:=by decide):JB c (.Name x pos) (fun ρ=>FF ρ i):=.of fun ρ=>sF (sZ hN hv hd hcd) fun σ H Q h_1=>by
 obtain ⟨H0,Hs0,la,Hs,f,q⟩:=h_1;cases hr:ρ[i]? with
 |none=>simp only [FF,hr] at q;exact q.elim
 |some s =>
  cases s with
  |shr d =>
   obtain ⟨v,h1,h2⟩:=f.sh i d hr;simp only [FF,hr] at q;exact ⟨v,h1,q v H Hs (.refl f.st.sub) (.inl h2)⟩
  |no=>simp only [FF,hr] at q;exact q.elim
  |own d =>
   obtain ⟨a,o,h1,h2,h3,h4,h5⟩:=f.ow i d hr;simp only [FF,hr] at q;exact ⟨_,h1,q _ H Hs (.refl f.st.sub) (.inr ⟨a,o,rfl,h2,h3,h5⟩)⟩
  |lck d =>
   obtain ⟨a,o,h1,h2,h3,h4,h5,h6⟩:=f.lk i d hr;simp only [FF,hr] at q;exact ⟨_,h1,q _ H Hs (.refl f.st.sub) (.inr ⟨a,o,rfl,h3,h4,h6⟩)⟩
  |ow2 d=>simp only [FF,hr] at q;exact q.elim
theorem qy  (h:PE c.X e (tC v)) (r:∀ Hs,RD c.X.K Hs v d):JE c e (fun _=>.ok d):=.of fun ρ=>sF h fun σ H Q h_2=>by obtain ⟨H0,Hs0,la,Hs,f,q⟩:=h_2;exact q v H Hs (.refl f.st.sub) (r Hs)
theorem aA  : JE c (.Constant (.int i) j pos) (fun _=>.ok (.int i)):=qy Sg fun _=>.int i
theorem ku  : JE c (.Constant (.bool i) j pos) (fun _=>.ok (.bool i)):=qy Uf fun _=>.bool i
theorem tE:JE c (.Constant .none j pos) (fun _=>.ok .none):=qy Sh fun _=>.none
theorem oN  : JE c (.Constant (.str i) j pos) (fun _=>.ok (.str i)):=qy Si fun _=>.str i
theorem kz  (hg:Gl c.X x) (hm:∃ t,c.X.mg x=some (.int i t)) (hd:(x==("__debug__" : Str))=false:=by decide):JE c (.Name x pos) (fun _=>.ok (.int i)):=by
 obtain ⟨t,hm⟩:=hm;exact qy (P4 hg hm (v:=.int i) ⟨t,rfl⟩ hd) fun _=>.int i
inductive XB (K:a8) (h:D->D->R D) (x:V) (y:V) (H:Hp) (Q:VK):Prop
 |mk (Hs dx dy:_) (h0:c_ Hs H) (h1:RB K H Hs x dx) (h2:RB K H Hs y dy) (h3:∃ d,h dx dy=.ok d/\∀ v H' Hs',cF H Hs H' Hs'->RD K Hs' v d->Q v H'):XB K h x y H Q
def rD (K:a8) (h:D->D->R D):R2:=XB K h
def xt (X:Cx) (f:af->af->Sem af) (h:D->D->R D):Prop:=pW X f (rD X.K h)/\∀ x y c n,h x y≠.ex c n
def g2 (ga gb:az->R D) (h:D->D->R D):az->R D:=fun ρ=>(ga ρ).bind fun x=>(gb ρ).bind fun y=>h x y
theorem two        (hx:∀ x y c n,h x y≠.ex c n) (q:TR K cls E ρ (g2 ga gb h ρ) σ H Q):Uq (rD K h) (TB K cls E ρ (ga ρ)) (TB K cls E ρ (gb ρ)) σ H Q:=by
 obtain ⟨H0,Hs0,la,Hs,f,q⟩:=q;refine one f q fun x v H1 Hs1 e1 s1 f1 r1=>?_;unfold g2 at q;rw [e1,bind_ok] at q;refine one f1 (q.on s1 (q':=fun _=>True) fun _ _=>trivial) fun y u H2 Hs2 e2 s2 f2 r2=>?_;rw [e2,bind_ok] at q;cases hr:h x y with
 |ok d =>
  rw [hr] at q;exact ⟨Hs2,x,y,f2.st.sub,r1.step s2,r2,d,hr,fun w H3 Hs3 s3 r3=>q w H3 Hs3 (s1.trans (s2.trans s3)) r3⟩
 |ex c n=>exact (hx x y c n hr).elim
 |no=>rw [hr] at q;exact q.elim
theorem bL  (ho:xt c.X (eW op) h) (ha:JB c a ga) (hb:JB c b gb):JE c (.BinOp a op b pos) (g2 ga gb h):=.of fun ρ=>sF (R1 ho.1 (ha ρ) (hb ρ)) fun σ H Q q=>two ho.2 q
theorem oO  (ho:xt c.X (bO op) h) (ha:JB c a ga) (hb:JB c b gb) (hm:gF op b=false:=by first|exact Lv _|rfl):JE c (.Compare a [op] [b] pos) (g2 ga gb h):=.of fun ρ=>sF (Pc ho.1 (ha ρ) (hb ρ) hm) fun σ H Q q=>two ho.2 q
def eJ (g:az->R D):az->R Bool:=fun ρ=>(g ρ).bind fun d=>match d with
 |.bool b=>.ok b
 |_=>.no
theorem UZ       (q:JM K cls E ρ (eJ g ρ) σ H Q):TR K cls E ρ (g ρ) σ H fun x H'=>∃ k,x=.bl k/\Q k H':=by
 obtain ⟨H0,Hs0,la,Hs,f,q⟩:=q;refine Ab f q fun d v H1 Hs1 e1 s1 f1 r1=>?_;unfold eJ at q;rw [e1,bind_ok] at q;cases r1 with
 |bool b=>exact ⟨b,rfl,q H1 Hs1 s1⟩
 |_=>exact q.elim
theorem cD  (ho:xt c.X (bO op) h) (ha:JB c a ga) (hb:JB c b gb) (hm:gF op b=false:=by first|exact Lv _|rfl):JT c (.Compare a [op] [b] pos) (eJ (g2 ga gb h)):=.of fun ρ=>UY (Pd ho.1 (ha ρ) (hb ρ) hm) fun σ H Q q=>two ho.2 (UZ q)
theorem eO (h:JE c e g) (he:∀ whole,xV e c.X.env whole=(do let v <- whole;wC e.pos;zQ [v] (truthy v)):=by intro _;rfl):JT c e (eJ g):=.of fun ρ=>UY (Sj (h ρ) he) fun σ H Q q=>UZ q
def jj (g:az->R Bool):az->R Bool:=fun ρ=>(g ρ).bind fun b=>.ok (!b)
def yu (g h:az->R Bool):az->R Bool:=fun ρ=>(g ρ).bind fun b=>if b then h ρ else .ok false
def Dh (g h:az->R Bool):az->R Bool:=fun ρ=>(g ρ).bind fun b=>if b then .ok true else h ρ
variable {gt gu:az->R Bool}{bT:List bd}
theorem eY (h:JT c e gt):JT c (.UnaryOp .Not e pos) (jj gt):=.of fun ρ=>UY (Sn (h ρ)) fun σ H Q q=>by
 obtain ⟨H0,Hs0,la,Hs,f,q⟩:=q;refine Mf f q fun d H1 Hs1 e1 s1 f1=>?_;unfold jj at q;rw [e1,bind_ok] at q;exact q H1 Hs1 s1
theorem uO (h:JT c a gt):JW c (.BoolOp .And [a] pos) gt:=.of fun ρ=>P6 (h ρ)
theorem jM (h:JT c a gt):JW c (.BoolOp .Or [a] pos) gt:=.of fun ρ=>Sk (h ρ)
theorem yv (h:JT c a gt) (h2:JW c (.BoolOp .And (b::bT) pos) gu):JW c (.BoolOp .And (a::b::bT) pos) (yu gt gu):=.of fun ρ=>XA (Sm (h ρ) (h2 ρ)) fun σ H Q q=>by
 obtain ⟨H0,Hs0,la,Hs,f,q⟩:=q;refine Mf f q fun d H1 Hs1 e1 s1 f1=>?_;unfold yu at q;rw [e1,bind_ok] at q;cases d with
 |true=>exact Dw ⟨H0,Hs0,la,Hs1,f1,q.on s1 fun b k H2 Hs2 s2=>k H2 Hs2 (s1.trans s2)⟩
 |false=>exact Dv (q H1 Hs1 s1)
theorem nV (h:JT c a gt) (h2:JW c (.BoolOp .Or (b::bT) pos) gu):JW c (.BoolOp .Or (a::b::bT) pos) (Dh gt gu):=.of fun ρ=>XA (Ug (h ρ) (h2 ρ)) fun σ H Q q=>by
 obtain ⟨H0,Hs0,la,Hs,f,q⟩:=q;refine Mf f q fun d H1 Hs1 e1 s1 f1=>?_;unfold Dh at q;rw [e1,bind_ok] at q;cases d with
 |false=>exact Dv ⟨H0,Hs0,la,Hs1,f1,q.on s1 fun b k H2 Hs2 s2=>k H2 Hs2 (s1.trans s2)⟩
 |true=>exact Dw (q H1 Hs1 s1)
theorem JW.t (h:JW c e gt):JT c e gt:=.of fun ρ=>(h ρ).pt
def DO (g:az->R D):az->R D:=fun ρ=>(eJ g ρ).bind fun b=>.ok (.bool (!b))
theorem Mh (h:JE c e g):JE c (.UnaryOp .Not e pos) (DO g):=.of fun ρ=>sF (Sr (h ρ)) fun σ H Q q=>by
 refine UZ ?_;obtain ⟨H0,Hs0,la,Hs,f,q⟩:=q;refine Mf f q fun d H1 Hs1 e1 s1 f1=>?_;unfold DO at q;rw [e1,bind_ok] at q;exact q _ H1 Hs1 s1 (.bool _)
def uP (g h:az->R D):az->R D:=fun ρ=>(eJ g ρ).bind fun b=>if b then h ρ else .ok (.bool false)
theorem yw (h:JE c a g):JE c (.BoolOp op [a] pos) g:=.of fun ρ=>So (h ρ)
theorem vZ (h:JE c a ga) (h2:JE c (.BoolOp .And (b::bT) pos) gb):JE c (.BoolOp .And (a::b::bT) pos) (uP ga gb):=.of fun ρ=>sF (Sq (h ρ) (h2 ρ)) fun σ H Q q=>by
 refine UZ ?_;obtain ⟨H0,Hs0,la,Hs,f,q⟩:=q;refine Mf f q fun d H1 Hs1 e1 s1 f1=>?_;unfold uP at q;rw [e1,bind_ok] at q;cases d with
 |true=>exact Dw ⟨H0,Hs0,la,Hs1,f1,q.on s1 fun b k v H2 Hs2 s2 r2=>k v H2 Hs2 (s1.trans s2) r2⟩
 |false=>exact Dv (q _ H1 Hs1 s1 (.bool _))
def qz (ga gb gc:az->R D) (h h':D->D->R D):az->R D:=fun ρ=>(ga ρ).bind fun x=>(gb ρ).bind fun y=>(h x y).bind fun z=>match z with
 |.bool true=>(gc ρ).bind fun w=>h' y w
 |.bool false=>.ok (.bool false)
 |_=>.no
def ac (g:az->R D) (gs:az->R (List D)):az->R (List D):=fun ρ=>(g ρ).bind fun d=>(gs ρ).bind fun ds=>.ok (d::ds)
def aG:az->R (List D):=fun _=>.ok []
theorem aE:HN c [] aG:=.of fun ρ=>Wg jL fun σ H Q h_3=>by obtain ⟨H0,Hs0,la,Hs,f,q⟩:=h_3;exact q [] H Hs (.refl f.st.sub) .nil
theorem bM:PK c [] aG:=.of fun ρ=>Wg jL fun σ H Q h_4=>by obtain ⟨H0,Hs0,la,Hs,f,q⟩:=h_4;exact q [] H Hs (.refl f.st.sub) .nil
theorem ae (h:JE c e g) (hr:HN c es gs) (hs:aJ (e::es) c.X.env=(false,ed e c.X.env)::aJ es c.X.env:=by rfl):HN c (e::es) (ac g gs):=.of fun ρ=>Wg (iw (h ρ) (hr ρ) hs) fun σ H Q h_5=>by
 obtain ⟨H0,Hs0,la,Hs,f,q⟩:=h_5;refine Ab f q fun d v H1 Hs1 e1 s1 f1 r1=>?_;unfold ac at q;rw [e1,bind_ok] at q;refine Gp f1 (q.on s1 (q':=fun _=>True) fun _ _=>trivial) fun ds vs H2 Hs2 e2 s2 f2 r2=>?_;rw [e2,bind_ok] at q;exact q _ H2 Hs2 (s1.trans s2) (.cons (r1.same s2.sh) r2)
theorem br (h:JB c e g) (hr:PK c es gs) (hs:aJ (e::es) c.X.env=(false,ed e c.X.env)::aJ es c.X.env:=by rfl):PK c (e::es) (ac g gs):=.of fun ρ=>Wg (iw (h ρ) (hr ρ) hs) fun σ H Q h_6=>by
 obtain ⟨H0,Hs0,la,Hs,f,q⟩:=h_6;refine one f q fun d v H1 Hs1 e1 s1 f1 r1=>?_;unfold ac at q;rw [e1,bind_ok] at q;refine HP f1 (q.on s1 (q':=fun _=>True) fun _ _=>trivial) fun ds vs H2 Hs2 e2 s2 f2 r2=>?_;rw [e2,bind_ok] at q;exact q _ H2 Hs2 (s1.trans s2) (.cons (r1.step s2) r2)
def eL (gs:az->R (List D)) (k:List D->D):az->R D:=fun ρ=>(gs ρ).bind fun ds=>if ds.length<=1000 then .ok (k ds) else .no
theorem jN {x1} (h:HN c es gs):JE c (.Tuple es x1 pos) (eL gs .tuple):=.of fun ρ=>sF (SK (h ρ)) fun σ H Q h_7=>by
 obtain ⟨H0,Hs0,la,Hs,f,q⟩:=h_7;refine Gp f q fun ds vs H1 Hs1 e1 s1 f1 r1=>?_;unfold eL at q;rw [e1,bind_ok] at q;by_cases hl:ds.length<=1000
 ·rw [if_pos hl] at q;refine ⟨cz (d_ (by rw [r1.length];exact hl)),fun p hp=>q _ _ _ (s1.trans (.new f1.st.sub hp)) (.tuple ba (r1.same (cF.new f1.st.sub hp).sh))⟩
 ·rw [if_neg hl] at q;exact q.elim
theorem lQ (h:HN c es gs):JE c (.List es pos) (eL gs .list):=.of fun ρ=>sF (t5 (h ρ)) fun σ H Q h_8=>by
 obtain ⟨H0,Hs0,la,Hs,f,q⟩:=h_8;refine Gp f q fun ds vs H1 Hs1 e1 s1 f1 r1=>?_;unfold eL at q;rw [e1,bind_ok] at q;by_cases hl:ds.length<=1000
 ·rw [if_pos hl] at q;refine ⟨cz (d_ (by rw [r1.length];exact hl)),fun p hp=>q _ _ _ (s1.trans (.new f1.st.sub hp)) (.list (.of ba) (r1.same (cF.new f1.st.sub hp).sh))⟩
 ·rw [if_neg hl] at q;exact q.elim
end
end
end J
namespace J
open PySem PySem.Spec PyProof.Rows L2
section
section
def dI:D->D->R D
 |.int i,.int j=>.ok (.int (i+j))
 |.str x,.str y=>if x.length+y.length<=1000 then .ok (.str (x++y)) else .no
 |.tuple xs,.tuple ys=>if xs.length+ys.length<=1000 then .ok (.tuple (xs++ys)) else .no
 |.list xs,.list ys=>if xs.length+ys.length<=1000 then .ok (.list (xs++ys)) else .no
 |_,_=>.no
inductive Mi (K:a8) (x:V) (y:V) (H:Hp) (Q:VK):Prop
 |mk (l b xs zs:_) (h0:x=.ref l) (h1:y=.ref b) (h2:ni K H l xs) (h3:ni K H b zs) (h4:xs.length+zs.length<=sizeLine) (h5:∀ p,H p=none->Q (.ref p) (upd H p (.lst (xs++zs)))):Mi K x y H Q
def U_ (K:a8):R2:=Mi K
theorem PL:pW X (eW .Add) (U_ X.K):=by
 intro pins s σ H x y v u Q I rx ry h;obtain ⟨l,b,xs,zs,rfl,rfl,h1,h2,hz,q⟩:=h;cases rx;cases ry;obtain ⟨its,r,⟨o,n,e,c1,c2,c3⟩,z⟩:=I.list h1;obtain ⟨its2,r2,⟨o2,n2,e2,d1,d2,d3⟩,z2⟩:=I.list h2;obtain ⟨k1,k2,k3,k4⟩:=o;obtain ⟨m1,m2,m3,m4⟩:=o2;simp only at c1 c2 c3 d1 d2 d3;subst c1 c2 c3 d1 d2 d3;refine zT ⟨_,e,rfl⟩ ⟨_,e2,rfl⟩ noFill_list_add seq_list_add PySem.F.slot_list_add PySem.F.entry_list_add (PySem.F.args_list_add_2 _ _) (PyProof.Rows.list_addW l b _ _ n n2 _ _ k4 m4 (by rw [aR,aR,<- r.length,<- r2.length];exact hz)) ⟨e,e2,?_⟩;have ea:its.toArray++its2.toArray=(its++its2).toArray:=by simp
 rw [ea];exact ⟨.ref _,_,I.lnew (t':=s.toks) (r.append r2) (by rw [aN];omega),rfl,q _ I.fresh⟩
inductive Mj (K:a8) (x:V) (y:V) (H:Hp) (Q:VK):Prop
 |mk (a b ys:_) (h0:x=.ref a) (h1:y=.ref b) (h2:ko K H a []) (h3:ko K H b ys) (h4:Q (.ref b) H):Mj K x y H Q
def V0 (K:a8):R2:=Mj K
theorem PM:pW X (eW .Add) (V0 X.K):=by
 intro pins s σ H x y v u Q I rx ry h;obtain ⟨a,b,ys,rfl,rfl,h1,h2,q⟩:=h;cases rx;cases ry;obtain ⟨its,r,⟨⟨k1,k2,k3,k4⟩,e,c1,n,c3⟩,z⟩:=I.tuple h1;obtain ⟨its2,r2,⟨⟨m1,m2,m3,m4⟩,e2,d1,n2,d3⟩,z2⟩:=I.tuple h2;simp only at c1 c3 d1 d3;subst c1 c3 d1 d3;cases r;exact zT ⟨_,e,rfl⟩ ⟨_,e2,rfl⟩ BE J9 oA nN (n5 _ _)
  (PyProof.Rows.tuple_addW0 a b _ _ n n2 _ _ k4 m4 rfl) ⟨e,e2,⟨.ref b,H,I,rfl,q⟩⟩
theorem cE:xt X (eW .Add) dI:=by
 refine ⟨fun pins s σ H x y v u Q I rv ru ⟨Hs,dx,dy,sub,rx,ry,d,hd,q⟩=>?_,fun x y c n=>?_⟩
 ·unfold dI at hd;split at hd
  ·cases hd;exact SB pins s σ H x y v u Q I rv ru ⟨_,_,rx.int,ry.int,q _ H Hs (.refl sub) (.int _)⟩
  ·split at hd
   ·rename_i hz
    cases hd;exact G8 pins s σ H x y v u Q I rv ru ⟨_,_,rx.str,ry.str,cz (d_ hz),q _ H Hs (.refl sub) (.str _)⟩
   ·cases hd
  ·split at hd
   ·rename_i xs ys hz
    cases hd;obtain ⟨a,vs,rfl,qa,ra,_⟩:=rx.tuple sub;obtain ⟨b,ws,rfl,qb,rb,_⟩:=ry.tuple sub;have hz':vs.length+ws.length<=sizeLine:=by rw [ra.length,rb.length];exact cz (d_ hz)
    have big:∀ p,H p=none->Q (.ref p) (upd H p (.tup (vs++ws))):=fun p hp=>q _ _ _ (.new sub hp) (.tuple ba ((ra.append rb).same (cF.new sub hp).sh));cases vs with
    |nil =>
     cases ra;refine PM pins s σ H _ _ v u Q I rv ru ⟨a,b,ws,rfl,rfl,qa,qb,?_⟩;rcases ry with ry|⟨_,_,_,_,_,ow⟩
     ·exact q _ H Hs (.refl sub) (by simpa using ry)
     ·cases ow
    |cons v0 vr =>
     refine Pl pins s σ H _ _ v u Q I rv ru ⟨a,b,_,ws,rfl,rfl,qa,qb,by simp,hz',fun e=>?_,fun _=>big⟩;subst e;cases rb;rcases rx with rx|⟨_,_,_,_,_,ow⟩
     ·exact q _ H Hs (.refl sub) (by simpa using rx)
     ·cases ow
   ·cases hd
  ·split at hd
   ·rename_i xs ys hz
    cases hd;obtain ⟨a,vs,rfl,qa,ra⟩:=rx.list sub;obtain ⟨b,ws,rfl,qb,rb⟩:=ry.list sub;have hz':vs.length+ws.length<=sizeLine:=by rw [ra.length,rb.length];exact cz (d_ hz)
    exact PL pins s σ H _ _ v u Q I rv ru ⟨a,b,vs,ws,rfl,rfl,qa,qb,hz',fun p hp=>q _ _ _ (.new sub hp) (.list (.of ba) ((ra.append rb).same (cF.new sub hp).sh))⟩
   ·cases hd
  ·cases hd
 ·unfold dI;split<;>(try split)<;>exact fun h=>by cases h
def DP (C:Int->Int->Bool) (k:Int->Int->D):D->D->R D
 |.int i,.int j=>if C i j then .ok (k i j) else .no
 |_,_=>.no
theorem C4 {f:af->af->Sem af}{C:Int->Int->Bool}{P:Int->Int->Prop}{k:Int->Int->D}{kv:Int->Int->V} (h:pW X f (rI P kv)) (hC:∀ i j,C i j=true->P i j) (hk:∀ Hs i j,RD X.K Hs (kv i j) (k i j)):xt X f (DP C k):=by
 refine ⟨fun pins s σ H x y v u Q I rv ru ⟨Hs,dx,dy,sub,rx,ry,d,hd,q⟩=>?_,fun x y c n=>?_⟩
 ·unfold DP at hd;split at hd
  ·split at hd
   ·rename_i hc
    cases hd;exact h pins s σ H x y v u Q I rv ru ⟨_,_,rx.int,ry.int,hC _ _ hc,q _ H Hs (.refl sub) (hk _ _ _)⟩
   ·cases hd
  ·cases hd
 ·unfold DP;split<;>(try split)<;>exact fun h=>by cases h
def AV (i j:Int):Bool:=(decide (-(2 ^ 64)<i)&&decide (i<2 ^ 64))||(decide (-(2 ^ 64)<j)&&decide (j<2 ^ 64))
theorem V1  (h:pW X f (P9 g)):pW X f (rI (fun _ _=>True) g):=fun pins s σ H x y v u Q I rv ru h_0=>by obtain ⟨i,j,a,b,_,q⟩:=h_0;exact h pins s σ H x y v u Q I rv ru ⟨i,j,a,b,q⟩
def PN:=DP (fun _ _=>true) fun i j=>.int (i-j)
def si:=DP AV fun i j=>.int (i*j)
def JP:=DP (fun _ j=>decide (0<j)) fun i j=>.int (i % j)
def Mk:=DP (fun _ j=>decide (0<j)&&decide (j<1073741824)) fun i j=>.int (i / j)
theorem T9:xt X (eW .Sub) PN:=C4 (V1 SC) (fun _ _ _=>trivial) fun _ _ _=>.int _
theorem nl:xt X (eW .Mult) si:=C4 SD (fun i j h=>by
 unfold AV at h;simp only [ji,aF,decide_eq_true_eq] at h;exact h) fun _ _ _=>.int _
theorem C5:xt X (eW .Mod) JP:=C4 SE (fun i j h=>of_decide_eq_true h) fun _ _ _=>.int _
theorem PP:xt X (eW .FloorDiv) Mk:=C4 Pa (fun i j h=>by
 simp only [aF,decide_eq_true_eq] at h;exact h) fun _ _ _=>.int _
def qf (neg:Bool) (x y:D):R D:=if x.canLay0&&y.canLay0&&decide (min x.depth y.depth<=60) then .ok (.bool (if neg then !bq x y else bq x y)) else .no
mutual
theorem C6:∀ d:D,d.canLay0=true->sD d=true
 |.none,_=>rfl
 |.bool _,_=>rfl
 |.int _,_=>rfl
 |.str _,_=>rfl
 |.list xs,h=>by
  simp only [jC] at h;simp only [sD];exact lays_noD xs h
 |.tuple xs,h=>by
  simp only [jC] at h;simp only [sD];exact lays_noD xs h
 |.dict _,h=>by simp [jC] at h
theorem lays_noD:∀ d:List D,hW d=true->noDs d=true
 |[],_=>rfl
 |x::r,h=>by
  simp only [hW,aF] at h;simp only [noDs,aF];exact ⟨C6 x h.1,lays_noD r h.2⟩
end
theorem Ml  (h:pW X f (T5 X.K neg)):xt X f (qf neg):=by
 refine ⟨fun pins s σ H x y v u Q I rv ru ⟨Hs,dx,dy,sub,rx,ry,d,hd,q⟩=>?_,fun x y c n=>?_⟩
 ·unfold qf at hd;split at hd
  ·rename_i hc
   simp only [aF,decide_eq_true_eq] at hc;cases hd;exact h pins s σ H x y v u Q I rv ru ⟨dx,dy,(rx.full sub).rep (C6 _ hc.1.1),(ry.full sub).rep (C6 _ hc.1.2),hc.1.1,hc.1.2,hc.2,q _ H Hs (.refl sub) (.bool _)⟩
  ·cases hd
 ·unfold qf;split<;>exact fun h=>by cases h
theorem wM (hu:X.A.units+64<kL):xt X (bO .Eq) (qf false):=Ml (T6 hu)
theorem wN (hu:X.A.units+64<kL):xt X (bO .NotEq) (qf true):=Ml (T7 hu)
def Gq (k:Int->Int->Bool) (t:Str->Str->Bool):D->D->R D
 |.int i,.int j=>.ok (.bool (k i j))
 |.str x,.str y=>.ok (.bool (t x y))
 |_,_=>.no
theorem Mm   (h1:pW X f (P9 fun i j=>.bl (k i j))) (h2:pW X f (fun x y H Q=>∃ i j,x=.str i/\y=.str j/\Q (.bl (t i j)) H)):xt X f (Gq k t):=by
 refine ⟨fun pins s σ H x y v u Q I rv ru ⟨Hs,dx,dy,sub,rx,ry,d,hd,q⟩=>?_,fun x y c n=>?_⟩
 ·unfold Gq at hd;split at hd
  ·cases hd;exact h1 pins s σ H x y v u Q I rv ru ⟨_,_,rx.int,ry.int,q _ H Hs (.refl sub) (.bool _)⟩
  ·cases hd;exact h2 pins s σ H x y v u Q I rv ru ⟨_,_,rx.str,ry.str,q _ H Hs (.refl sub) (.bool _)⟩
  ·cases hd
 ·unfold Gq;split<;>exact fun h=>by cases h
def wO:=Gq (fun i j=>decide (i<j)) pX
def K_:=Gq (fun i j=>decide (i<=j)) fun x y=>!pX y x
def Mn:D->D->R D
 |.int i,.int j=>.ok (.bool (decide (j<i)))
 |_,_=>.no
theorem uQ:xt X (bO .Lt) wO:=Mm Uu Jp
theorem uR:xt X (bO .LtE) K_:=Mm Uv JH
theorem DQ:xt X (bO .Gt) Mn:=by
 refine ⟨fun pins s σ H x y v u Q I rv ru ⟨Hs,dx,dy,sub,rx,ry,d,hd,q⟩=>?_,fun x y c n=>?_⟩
 ·unfold Mn at hd;split at hd
  ·cases hd;exact Uw pins s σ H x y v u Q I rv ru ⟨_,_,rx.int,ry.int,q _ H Hs (.refl sub) (.bool _)⟩
  ·cases hd
 ·unfold Mn;split<;>exact fun h=>by cases h
def Gr:D->Bool
 |.none=>true
 |_=>false
def L0 (neg:Bool):D->D->R D
 |x,.none=>.ok (.bool (if neg then !Gr x else Gr x))
 |_,_=>.no
theorem PQ {K:a8}{H Hs:Hp}{v:V}{d:D} (h:RB K H Hs v d):decide (v=.non)=Gr d:=by
 rcases h with h|⟨a,o,rfl,_,_,h⟩
 ·cases h<;>rfl
 ·cases h<;>rfl
theorem yx:xt X (bO .IsNot) (L0 true):=by
 refine ⟨fun pins s σ H x y v u Q I rv ru ⟨Hs,dx,dy,sub,rx,ry,d,hd,q⟩=>?_,fun x y c n=>?_⟩
 ·unfold L0 at hd;split at hd
  ·cases hd;exact Pb pins s σ H x y v u Q I rv ru ⟨ry.non,by rw [PQ rx];exact q _ H Hs (.refl sub) (.bool _)⟩
  ·cases hd
 ·unfold L0;split<;>exact fun h=>by cases h
def k_:D->Bool
 |.none=>true
 |.bool _=>true
 |.int _=>true
 |.str _=>true
 |_=>false
def AW (neg:Bool):D->D->R D
 |x,.list ys=>if k_ x&&ys.all k_ then .ok (.bool (if neg then !(ys.any fun y=>bq y x) else ys.any fun y=>bq y x)) else .no
 |x,.tuple ys=>if k_ x&&ys.all k_ then .ok (.bool (if neg then !(ys.any fun y=>bq y x) else ys.any fun y=>bq y x)) else .no
 |_,_=>.no
theorem HQ {K:a8}{H:Hp}{v:V}{d:D} (h:RD K H v d) (f:k_ d=true):qu v=true:=by
 cases h<;>first|rfl|cases f
theorem DR {K:a8}{H Hs:Hp}{v:V}{d:D} (h:RB K H Hs v d) (f:k_ d=true):qu v=true:=by
 rcases h with h|⟨a,o,rfl,_,_,h⟩
 ·exact HQ h f
 ·cases h<;>cases f
theorem DS {K:a8}{H:Hp}{vs:List V}:∀ {ds:List D},RDs K H vs ds->ds.all k_=true->vs.all qu=true:=by
 induction vs with
 |nil=>intro ds _ _;rfl
 |cons x r ih =>
  intro ds h f;cases h with
  |cons h t =>
   rw [uu,aF] at f ⊢;exact ⟨HQ h f.1,ih t f.2⟩
theorem Ta {K:a8}{H H2 Hs:Hp}{v u:V}{d e:D} (h:RD K H v d) (h2:RB K H2 Hs u e) (f:k_ d=true) (f2:k_ e=true):Po v u=bq d e:=by
 have h2':RD K Hs u e:=by
  rcases h2 with h2|⟨a,o,rfl,_,_,h2⟩
  ·exact h2
  ·cases h2<;>cases f2
 cases h with
 |list _ _=>cases f
 |tuple _ _=>cases f
 |dictK _ _=>cases f
 |dictT _ _ _=>cases f
 |dictF _ _ _=>cases f
 |none=>cases h2'<;>first|rfl|cases f2
 |bool b=>cases h2'<;>first|rfl|cases f2
 |int i=>cases h2'<;>first|rfl|cases f2
 |str x=>cases h2'<;>first|rfl|cases f2
theorem Gs {K:a8}{H H2 Hs:Hp}{u:V}{e:D} (h2:RB K H2 Hs u e) (f2:k_ e=true):∀ {vs:List V}{ds:List D},RDs K H vs ds->ds.all k_=true->W9 u vs=ds.any fun y=>bq y e
 |_,_,.nil,_=>rfl
 |_,_,.cons h t,f=>by
  rw [uu,aF] at f;have:=Gs h2 f2 t f.2;unfold W9 at this ⊢;rw [e7,e7,this,Ta h h2 f.1 f2]
theorem Mo  (h:pW X f (WQ X.K neg)):xt X f (AW neg):=by
 refine ⟨fun pins s σ H x y v u Q I rv ru ⟨Hs,dx,dy,sub,rx,ry,d,hd,q⟩=>?_,fun x y c n=>?_⟩
 ·unfold AW at hd;split at hd
  ·split at hd
   ·rename_i hc
    simp only [aF] at hc;cases hd;obtain ⟨b,ws,rfl,qb,rb⟩:=ry.list sub;refine h pins s σ H _ _ v u Q I rv ru ⟨b,ws,rfl,.inl qb,DR rx hc.1,DS rb hc.2,?_⟩;rw [Gs rx hc.1 rb hc.2];exact q _ H Hs (.refl sub) (.bool _)
   ·cases hd
  ·split at hd
   ·rename_i hc
    simp only [aF] at hc;cases hd;obtain ⟨b,ws,rfl,qb,rb,_⟩:=ry.tuple sub;refine h pins s σ H _ _ v u Q I rv ru ⟨b,ws,rfl,.inr qb,DR rx hc.1,DS rb hc.2,?_⟩;rw [Gs rx hc.1 rb hc.2];exact q _ H Hs (.refl sub) (.bool _)
   ·cases hd
  ·cases hd
 ·unfold AW;split<;>(try split)<;>exact fun h=>by cases h
theorem wP:xt X (bO .In) (AW false):=Mo Jt
theorem yy:xt X (bO .NotIn) (AW true):=Mo BR
end
end
end J
namespace J
open PySem L2
section
section
variable {c:C}{e a b:bd}{g ga gb:az->R D}{pos:Pos}
def DT:D->D->R D
 |.list xs,.int i=>match Dg xs i with
  |some d=>.ok d
  |none=>.no
 |.tuple xs,.int i=>match Dg xs i with
  |some d=>.ok d
  |none=>.no
 |.str x,.int i=>if x.length<=1000 then (match Dg x.cps.toList i with
  |some k=>.ok (.str ⟨#[k]⟩)
  |none=>.no) else .no
 |_,_=>.no
theorem HR    (h:RDs K H vs ds)  (e:Dg ds i=some d):∃ v,Dg vs i=some v/\RD K H v d:=by
 unfold Dg at e ⊢;rw [h.length];cases hx:R8 ds.length i with
 |none=>rw [hx] at e;cases e
 |some j =>
  rw [hx] at e;exact h.get' e
theorem X2:UC X (rD X.K DT):=by
 intro va sl pins s σ H x y v u Q I rv ru h;obtain ⟨Hs,dx,dy,sub,rx,ry,d,hd,q⟩:=h;unfold DT at hd;split at hd
 ·split at hd
  ·rename_i d' he
   cases hd;obtain ⟨p,vs,rfl,qa,ra⟩:=rx.list sub;obtain ⟨w,hw,rw'⟩:=HR ra he;exact xI va sl pins s σ H _ _ v u Q I rv ru ⟨p,vs,_,w,rfl,ry.int,qa,hw,q _ H Hs (.refl sub) rw'⟩
  ·cases hd
 ·split at hd
  ·rename_i d' he
   cases hd;obtain ⟨p,vs,rfl,qa,ra,_⟩:=rx.tuple sub;obtain ⟨w,hw,rw'⟩:=HR ra he;exact SQ va sl pins s σ H _ _ v u Q I rv ru ⟨p,vs,_,w,rfl,ry.int,qa,hw,q _ H Hs (.refl sub) rw'⟩
  ·cases hd
 ·split at hd
  ·rename_i hz
   split at hd
   ·rename_i k he
    cases hd;exact SS va sl pins s σ H _ _ v u Q I rv ru ⟨_,_,k,rx.str,ry.int,cz (d_ hz),he,q _ H Hs (.refl sub) (.str _)⟩
   ·cases hd
  ·cases hd
 ·cases hd
theorem Tc (x y:D) (c:Str) (n:Option D):DT x y≠.ex c n:=by
 unfold DT;split<;>(try split)<;>(try split)<;>exact fun h=>by cases h
theorem V2 (ha:JB c a ga) (hb:JB c b gb) (hs:uC b:=by exact fun _ _=>rfl):JE c (.Subscript a b pos) (g2 ga gb DT):=.of fun ρ=>sF (R9 X2 (ha ρ) (hb ρ) hs) fun σ H Q q=>two Tc q
def Ac (ds:List D) (lo hi:Option Int):List D:=(ds.drop (HT.iG ds.length 0 lo)).take (HT.iG ds.length ds.length hi-HT.iG ds.length 0 lo)
theorem HS    (h:RDs K H vs ds) (lo hi:Option Int):RDs K H (Ds vs lo hi) (Ac ds lo hi):=by
 unfold Ds Ac;rw [h.length];exact (h.drop _).take _
def HU:D->Option Int->Option Int->R D
 |.list xs,lo,hi=>.ok (.list (Ac xs lo hi))
 |.tuple xs,lo,hi=>.ok (.tuple (Ac xs lo hi))
 |_,_,_=>.no
inductive Rp (K:a8) (x:V) (lo:Option Int) (hi:Option Int) (H:Hp) (Q:VK):Prop
 |mk (Hs dx:_) (h0:c_ Hs H) (h1:RB K H Hs x dx) (h2:∃ d,HU dx lo hi=.ok d/\∀ v H' Hs',cF H Hs H' Hs'->RD K Hs' v d->Q v H'):Rp K x lo hi H Q
def X3 (K:a8):V->Option Int->Option Int->Hp->VK->Prop:=Rp K
theorem X4 {X:Cx}:UA X (X3 X.K):=by
 intro pins s σ H x v vl vu lo hi sl Q I rx hs pl pu h;obtain ⟨Hs,dx,sub,rb,d,hd,q⟩:=h;unfold HU at hd;split at hd
 ·cases hd;obtain ⟨p,vs,rfl,qa,ra⟩:=rb.list sub;exact Pn pins s σ H _ v vl vu lo hi sl Q I rx hs pl pu ⟨p,vs,rfl,qa,fun l hl=>q _ _ _ (.new sub hl) (.list (.of ba) ((HS ra lo hi).same (cF.new sub hl).sh))⟩
 ·cases hd;obtain ⟨p,vs,rfl,qa,ra,_⟩:=rb.tuple sub;by_cases hw:HT.iG vs.length 0 lo=0/\HT.iG vs.length vs.length hi=vs.length
  ·refine PH pins s σ H _ v vl vu lo hi sl Q I rx hs pl pu ⟨p,vs,rfl,qa,hw,?_⟩;rcases rb with rb|⟨_,_,_,_,_,ow⟩
   ·refine q _ H Hs (.refl sub) ?_;unfold Ac;rw [<- ra.length,hw.1,hw.2,ra.length];simpa using rb
   ·cases ow
  ·exact SO pins s σ H _ v vl vu lo hi sl Q I rx hs pl pu ⟨p,vs,rfl,qa,hw,fun l hl=>q _ _ _ (.new sub hl) (.tuple ba ((HS ra lo hi).same (cF.new sub hl).sh))⟩
 ·cases hd
inductive V3 (K:a8) (cls:Str->ak) (E:XK) (ρ:az) (r:R (Option Int)) (σ:St) (H:Hp) (Q:Option Int->Hp->Prop):Prop
 |mk (H0 Hs0:Hp) (la:Nat->Option ak) (Hs:Hp) (f:Fr K H0 Hs0 la ρ σ H Hs) (q:Fin K cls E H Hs r fun d=>∀ H' Hs',cF H Hs H' Hs'->Q d H'):V3 K cls E ρ r σ H Q
def X5 (K:a8) (cls:Str->ak) (E:XK) (ρ:az) (r:R (Option Int)):TO:=V3 K cls E ρ r
structure JO (c:C) (e:Option bd) (g:az->R (Option Int)):Prop where of ::
 run:∀ ρ,PO c.X e (X5 c.X.K c.cls c.E ρ (g ρ))
instance {c:C}{e:Option bd}{g:az->R (Option Int)}:CoeFun (JO c e g) (fun _=>∀ ρ,PO c.X e (X5 c.X.K c.cls c.E ρ (g ρ))):=⟨JO.run⟩
theorem XC {X:Cx}{e:Option bd}{t t':TO} (h:PO X e t) (m:∀ σ H Q,t' σ H Q->t σ H Q):PO X e t':=fun pins s σ H Q I q=>h pins s σ H Q I (m σ H Q q)
def Ua:az->R (Option Int):=fun _=>.ok none
def PR (g:az->R D):az->R (Option Int):=fun ρ=>(g ρ).bind fun d=>match d with
 |.int i=>.ok (some i)
 |_=>.no
theorem xM:JO c none Ua:=.of fun ρ=>XC Pj fun σ H Q h_0=>by obtain ⟨H0,Hs0,la,Hs,f,q⟩:=h_0;exact q H Hs (.refl f.st.sub)
theorem rh (h:JE c e g):JO c (some e) (PR g):=.of fun ρ=>XC (Pk (h ρ)) fun σ H Q h_1=>by
 obtain ⟨H0,Hs0,la,Hs,f,q⟩:=h_1;refine Ab f q fun d v H1 Hs1 e1 s1 f1 r1=>?_;unfold PR at q;rw [e1,bind_ok] at q;cases r1 with
 |int i=>exact ⟨i,rfl,q H1 Hs1 s1⟩
 |_=>exact q.elim
theorem V4 {K:a8}{cls:Str->ak}{E:XK}{ρ:az}{r:R (Option Int)}{β:Type}{k:Option Int->R β}{σ:St}{H:Hp}{H0 Hs0 Hs:Hp}{la:Nat->Option ak}{Q:Option Int->Hp->Prop}{q:β->Prop} (f:Fr K H0 Hs0 la ρ σ H Hs)
  (h:Fin K cls E H Hs (r.bind k) q) (m:∀ d H' Hs',r=.ok d->cF H Hs H' Hs'->Fr K H0 Hs0 la ρ σ H' Hs'->Q d H'):X5 K cls E ρ r σ H Q:=by
 refine ⟨H0,Hs0,la,Hs,f,?_⟩;cases r with
 |ok d=>exact fun H' Hs' s=>m d H' Hs' rfl s (f.step s)
 |ex c n=>exact h
 |no=>exact h
def Rq (g:az->R D) (gl gh:az->R (Option Int)):az->R D:=fun ρ=>(g ρ).bind fun x=>(gl ρ).bind fun l=>(gh ρ).bind fun h=>HU x l h
theorem qA {lo hi:Option bd}{gl gh:az->R (Option Int)}{p2:Pos} (he:JB c e g) (hl:JO c lo gl) (hh:JO c hi gh):JE c (.Subscript e (.Slice lo hi none p2) pos) (Rq g gl gh):=.of fun ρ=>sF (LB X4 (he ρ) (hl ρ) (hh ρ)) fun σ H Q h_2=>by
 obtain ⟨H0,Hs0,la,Hs,f,q⟩:=h_2;refine one f q fun d v H1 Hs1 e1 s1 f1 r1=>?_;unfold Rq at q;rw [e1,bind_ok] at q;refine V4 f1 (q.on s1 (q':=fun _=>True) fun _ _=>trivial) fun l H2 Hs2 e2 s2 f2=>?_;rw [e2,bind_ok] at q;refine V4 f2 (q.on (s1.trans s2) (q':=fun _=>True) fun _ _=>trivial) fun h H3 Hs3 e3 s3 f3=>?_;rw [e3,bind_ok] at q;cases hr:HU d l h with
 |ok z=>rw [hr] at q;exact ⟨Hs3,d,f3.st.sub,(r1.step s2).step s3,z,hr,fun w H4 Hs4 s4 r4=>q w H4 Hs4 (s1.trans (s2.trans (s3.trans s4))) r4⟩
 |ex c n=>unfold HU at hr;split at hr<;>cases hr
 |no=>rw [hr] at q;exact q.elim
inductive XD (K:a8) (h:List D->R D) (xs:List V) (H:Hp) (Q:VK):Prop
 |mk (Hs ds:_) (h0:c_ Hs H) (h1:Ro K H Hs xs ds) (h2:∃ d,h ds=.ok d/\∀ v H' Hs',cF H Hs H' Hs'->RD K Hs' v d->Q v H'):XD K h xs H Q
def rC (K:a8) (h:List D->R D):List V->Hp->VK->Prop:=XD K h
def HV (X:Cx) (f:af) (h:List D->R D):Prop:=j7 X f (rC X.K h)/\∀ x c n,h x≠.ex c n
def bS (gs:az->R (List D)) (h:List D->R D):az->R D:=fun ρ=>(gs ρ).bind h
theorem Rr {K:a8}{cls:Str->ak}{E:XK}{h:List D->R D}{gs:az->R (List D)}{ρ:az}{σ:St}{H:Hp}{Q:VK} (hx:∀ x c n,h x≠.ex c n) (q:TR K cls E ρ (bS gs h ρ) σ H Q):Uy (rC K h) (UX K cls E ρ (gs ρ)) σ H Q:=by
 obtain ⟨H0,Hs0,la,Hs,f,q⟩:=q;refine HP f q fun ds vs H1 Hs1 e1 s1 f1 r1=>?_;unfold bS at q;rw [e1,bind_ok] at q;cases hr:h ds with
 |ok d =>
  rw [hr] at q;exact ⟨Hs1,ds,f1.st.sub,r1,d,hr,fun w H3 Hs3 s3 r3=>q w H3 Hs3 (s1.trans s3) r3⟩
 |ex c n=>exact (hx ds c n hr).elim
 |no=>rw [hr] at q;exact q.elim
variable {es:List bd}{gs:az->R (List D)}{x:Str}{p:Pos}{id T:String}{h:List D->R D}
theorem bI (hc:HV c.X (.builtin id) h) (hg:Gl c.X x) (hm:c.X.mg x=none) (hv:i7 x=some (.builtin id)) (ha:PK c (e::es) gs) (hn:x≠"__name__":=by decide) (hdb:(x==("__debug__" : Str))=false:=by decide)
  (he:aJ (e::es) c.X.env=(false,ed e c.X.env)::aJ es c.X.env:=by rfl) (hpl:(fU pos (aJ es c.X.env)).any (·.1)=false:=by rfl):JE c (.Call (.Name x p) (e::es) [] pos) (bS gs h):=.of fun ρ=>sF (uA hc.1 hg hm hv (ha ρ) hn hdb he hpl) fun σ H Q q=>Rr hc.2 q
theorem eM (hc:HV c.X (.type T) h) (hg:Gl c.X x) (hm:c.X.mg x=none) (hv:i7 x=some (.type T)) (ha:PK c (e::es) gs) (hn:x≠"__name__":=by decide) (hdb:(x==("__debug__" : Str))=false:=by decide)
  (he:aJ (e::es) c.X.env=(false,ed e c.X.env)::aJ es c.X.env:=by rfl) (hpl:(fU pos (aJ es c.X.env)).any (·.1)=false:=by rfl):JE c (.Call (.Name x p) (e::es) [] pos) (bS gs h):=.of fun ρ=>sF (AM hc.1 hg hm hv (ha ρ) hn hdb he hpl) fun σ H Q q=>Rr hc.2 q
end
end
section
section
theorem Ro.one    (h:Ro K H Hs xs [d]):∃ x,xs=[x]/\RB K H Hs x d:=by
 cases h with|cons a t=>cases t;exact ⟨_,rfl,a⟩
def gK (h:D->R D):List D->R D
 |[d]=>h d
 |_=>.no
theorem oP  (hx:∀ d c n,h d≠.ex c n)
  (hr:∀ pins s σ H x u Q Hs d d',bB X pins σ H s->cR x u->c_ Hs H->RB X.K H Hs x d->h d=.ok d'->(∀ v H' Hs',cF H Hs H' Hs'->RD X.K Hs' v d'->Q v H')->ar (aL X.prog X.w) X.A (call f [u]) (EP X pins σ Q) X.xe s):HV X f (gK h):=by
 refine ⟨fun pins s σ H xs us Q I r ⟨Hs,ds,sub,rb,d,hd,q⟩=>?_,fun x c n=>?_⟩
 ·unfold gK at hd;split at hd
  ·obtain ⟨x,rfl,rx⟩:=rb.one;obtain ⟨u,rfl,ru⟩:=jH r;exact hr pins s σ H x u Q Hs _ _ I ru sub rx hd q
  ·cases hd
 ·unfold gK;split
  ·exact hx _ _ _
  ·exact fun h=>by cases h
def iP:D->R D
 |.list xs=>.ok (.int xs.length)
 |.tuple xs=>.ok (.int xs.length)
 |.str x=>if x.length<=1000 then .ok (.int x.length) else .no
 |_=>.no
theorem RDk.length   : ∀ {ds:List (D×D)},RDk K H vs ds->vs.length=ds.length:=by
 induction vs with
 |nil=>intro ds h;cases h;rfl
 |cons x r ih=>intro ds h;cases h with|cons a b=>exact congrArg (· + 1) (ih b)
theorem RDt.length  : ∀ {vs:List (List eR×V)}{ds:List (D×D)},RDt K H vs ds->vs.length=ds.length
 |_,_,.nil=>rfl
 |_,_,.cons _ t=>by simp [RDt.length t]
theorem RB.dict    (sub:c_ Hs H) (h:RB K H Hs v (.dict ds)):∃ a,v=.ref a/\((∃ kvs,H a=some (.dK kvs)/\RDk K Hs kvs ds)\/(∃ kvs,H a=some (.dT kvs)/\kvs≠[]/\RDt K Hs kvs ds)\/∃ o kvs es,ds=(.none,.none)::es/\H a=some (.frz o (.dT kvs))/\kvs≠[]/\RDt K Hs kvs es):=by
 rcases h with h|⟨a,o,rfl,h2,h3,h4⟩
 ·cases h with
  |dictK q r=>exact ⟨_,rfl,.inl ⟨_,sub _ _ q,r⟩⟩
  |dictT q n r=>exact ⟨_,rfl,.inr (.inl ⟨_,sub _ _ q,n,r⟩)⟩
  |dictF q n r=>exact ⟨_,rfl,.inr (.inr ⟨_,_,_,rfl,sub _ _ q,n,r⟩)⟩
 ·cases h4 with
  |dK r=>exact ⟨a,rfl,.inl ⟨_,h2,r⟩⟩
  |dT n r=>exact ⟨a,rfl,.inr (.inl ⟨_,h2,n,r⟩)⟩
  |dF n r=>exact ⟨a,rfl,.inr (.inr ⟨_,_,_,rfl,h2,n,r⟩)⟩
theorem fY:HV X (.builtin "len") (gK iP):=by
 refine oP (fun d c n=>?_) fun pins s σ H x u Q Hs d d' I ru sub rx hd q=>?_
 ·unfold iP;split<;>(try split)<;>exact fun h=>by cases h
 ·unfold iP at hd;split at hd
  ·cases hd;obtain ⟨a,vs,rfl,qa,ra⟩:=rx.list sub;refine uE pins s σ H _ _ Q I (.cons ru .nil) ⟨a,vs,rfl,.inl qa,?_⟩;rw [ra.length];exact q _ H Hs (.refl sub) (.int _)
  ·cases hd;obtain ⟨a,vs,rfl,qa,ra,_⟩:=rx.tuple sub;refine uE pins s σ H _ _ Q I (.cons ru .nil) ⟨a,vs,rfl,.inr qa,?_⟩;rw [ra.length];exact q _ H Hs (.refl sub) (.int _)
  ·split at hd
   ·rename_i hz
    cases hd;exact BS pins s σ H _ _ Q I (.cons ru .nil) ⟨_,by rw [rx.str],cz (d_ hz),q _ H Hs (.refl sub) (.int _)⟩
   ·cases hd
  ·cases hd
def C7 (T:String) (d:D):Bool:=match T,d with
 | "str",.str _=>true
 | "int",.int _=>true
 | "int",.bool _=>true
 | "bool",.bool _=>true
 | "list",.list _=>true
 | "tuple",.tuple _=>true
 |_,_=>false
def tF (g:az->R D) (T:String):az->R D:=fun ρ=>(g ρ).bind fun d=>if sD d then .ok (.bool (C7 T d)) else .no
theorem PU  (T:String) (hT:T="str"\/T="int"\/T="bool"\/T="list"\/T="tuple") (h:sD d=true):ql K (.type (W_ d)) (.type T)=some (C7 T d):=by
 rcases hT with rfl|rfl|rfl|rfl|rfl<;>cases d<;>first|rfl|simp [sD] at h
theorem kX      (h:JB c e g) (hgi:Gl c.X "isinstance") (hi:c.X.mg "isinstance"=none) (hgT:Gl c.X T) (hT:c.X.mg T=none) (hv:i7 T=some (.type Ts))
  (hTs:Ts="str"\/Ts="int"\/Ts="bool"\/Ts="list"\/Ts="tuple")
  (hn:T≠"__name__":=by decide) (hdb:(T==("__debug__" : Str))=false:=by decide)
  (he:aJ [e,.Name T p2] c.X.env=(false,ed e c.X.env)::aJ [.Name T p2] c.X.env:=by rfl) (hpl:(fU pos (aJ [.Name T p2] c.X.env)).any (·.1)=false:=by rfl) :
  JE c (.Call (.Name "isinstance" p) [e,.Name T p2] [] pos) (tF g Ts):=.of fun ρ=>by
 refine sF (uA Ma hgi hi PyProof.Rows.boot_isinstance (iw (h ρ) (iw (P5 hgT hT hv (v:=.ty Ts) rfl hn hdb) jL) he) (by decide) (by decide) he hpl) fun σ H Q h_0=>?_;obtain ⟨H0,Hs0,la,Hs,f,q⟩:=h_0;refine one f q fun d v H1 Hs1 e1 s1 f1 r1=>?_;unfold tF at q;rw [e1,bind_ok] at q;by_cases hd:sD d=true
 ·rw [if_pos hd] at q;exact ⟨v,d,Ts,_,rfl,(r1.full f1.st.sub).rep hd,PU Ts hTs hd,q _ H1 Hs1 s1 (.bool _)⟩
 ·rw [if_neg hd] at q;exact q.elim
def mI:List D->Option (List Bool)
 |[]=>some []
 |.bool b::r=>(mI r).map (b::·)
 |_::_=>none
theorem C8:∀ {bs:List Bool},mI ds=some bs->ds=bs.map cr:=by
 induction ds with
 |nil=>intro bs h;cases h;rfl
 |cons d r ih =>
  intro bs h;cases d with
  |bool b =>
   have h:(mI r).map (b::·)=some bs:=h;cases hr:mI r with
   |none=>rw [hr] at h;cases h
   |some z=>rw [hr] at h;cases h;rw [ih hr];rfl
  |_=>cases h
def fZ (k:List Bool->Bool):D->R D
 |.list ds=>match mI ds with
  |some bs=>.ok (.bool (k bs))
  |none=>.no
 |_=>.no
theorem DU {id:String}{k:List Bool->Bool} (h:j7 X (.builtin id) (fun xs H Q=>∃ p,∃ bs:List Bool,xs=[.ref p]/\ni X.K H p (bs.map V.bl)/\Q (.bl (k bs)) H)):HV X (.builtin id) (gK (fZ k)):=by
 refine oP (fun d c n=>?_) fun pins s σ H x u Q Hs d d' I ru sub rx hd q=>?_
 ·unfold fZ;split<;>(try split)<;>exact fun h=>by cases h
 ·unfold fZ at hd;split at hd
  ·split at hd
   ·rename_i bs hb
    cases hd;obtain ⟨a,vs,rfl,qa,ra⟩:=rx.list sub;rw [C8 hb] at ra;rw [A9 ra] at qa;exact h pins s σ H _ _ Q I (.cons ru .nil) ⟨a,bs,rfl,qa,q _ H Hs (.refl sub) (.bool _)⟩
   ·cases hd
  ·cases hd
theorem nq (hc:X.calm=true):HV X (.builtin "all") (gK (fZ fun bs=>bs.all id)):=DU (yn hc)
theorem Mp (hc:X.calm=true):HV X (.builtin "any") (gK (fZ fun bs=>bs.any id)):=DU (yo hc)
def nr (x:Str):List D:=x.cps.toList.map fun c=>aS ⟨#[c]⟩
theorem JQ  (x:Str):RDs K H (yr x) (nr x):=by
 unfold yr nr;induction x.cps.toList with
 |nil=>exact .nil
 |cons a r ih=>exact .cons (.str _) ih
def gL:D->R D
 |.list xs=>.ok (.tuple xs)
 |.tuple xs=>.ok (.tuple xs)
 |.str x=>if x.cps.size<=1000 then .ok (.tuple (nr x)) else .no
 |_=>.no
theorem il (hc:X.calm=true):HV X (.type "tuple") (gK gL):=by
 refine oP (fun d c n=>?_) fun pins s σ H x u Q Hs d d' I ru sub rx hd q=>?_
 ·unfold gL;split<;>(try split)<;>exact fun h=>by cases h
 ·unfold gL at hd;split at hd
  ·cases hd;obtain ⟨a,vs,rfl,qa,ra⟩:=rx.list sub;exact sB pins s σ H _ _ Q I (.cons ru .nil) ⟨a,vs,rfl,.inl ⟨qa,fun l hl=>q _ _ _ (.new sub hl) (.tuple ba (ra.same (cF.new sub hl).sh))⟩⟩
  ·cases hd;obtain ⟨a,vs,rfl,qa,ra,_⟩:=rx.tuple sub;refine sB pins s σ H _ _ Q I (.cons ru .nil) ⟨a,vs,rfl,.inr ⟨qa,?_⟩⟩;rcases rx with rx|⟨_,_,_,_,_,ow⟩
   ·exact q _ H Hs (.refl sub) rx
   ·cases ow
  ·split at hd
   ·rename_i hz
    cases hd;exact xr hc pins s σ H _ _ Q I (.cons ru .nil) ⟨_,by rw [rx.str],cz (d_ hz),fun l hl=>q _ _ _ (.new sub hl) (.tuple ba (JQ _))⟩
   ·cases hd
  ·cases hd
def AX:D->R D
 |.list xs=>.ok (.list xs)
 |.tuple xs=>.ok (.list xs)
 |_=>.no
theorem PV:HV X (.type "list") (gK AX):=by
 refine oP (fun d c n=>?_) fun pins s σ H x u Q Hs d d' I ru sub rx hd q=>?_
 ·unfold AX;split<;>exact fun h=>by cases h
 ·unfold AX at hd;split at hd
  ·cases hd;obtain ⟨a,vs,rfl,qa,ra⟩:=rx.list sub;exact uF pins s σ H _ _ Q I (.cons ru .nil) ⟨a,vs,rfl,.inl qa,fun l hl=>q _ _ _ (.new sub hl) (.list (.of ba) (ra.same (cF.new sub hl).sh))⟩
  ·cases hd;obtain ⟨a,vs,rfl,qa,ra,_⟩:=rx.tuple sub;exact uF pins s σ H _ _ Q I (.cons ru .nil) ⟨a,vs,rfl,.inr qa,fun l hl=>q _ _ _ (.new sub hl) (.list (.of ba) (ra.same (cF.new sub hl).sh))⟩
  ·cases hd
def f_:List D->Option (List Str)
 |[]=>some []
 |.str b::r=>(f_ r).map (b::·)
 |_::_=>none
theorem qB:∀ {bs:List Str},f_ ds=some bs->ds=bs.map aS:=by
 induction ds with
 |nil=>intro bs h;cases h;rfl
 |cons d r ih =>
  intro bs h;cases d with
  |str b =>
   have h:(f_ r).map (b::·)=some bs:=h;cases hr:f_ r with
   |none=>rw [hr] at h;cases h
   |some z=>rw [hr] at h;cases h;rw [ih hr];rfl
  |_=>cases h
@[simp] theorem strsOf_map:∀ bs:List Str,f_ (bs.map aS)=some bs
 |[]=>rfl
 |b::r=>by show (f_ (r.map aS)).map (b::·)=_;rw [strsOf_map r];rfl
def rj:D->R D
 |.list ds=>match f_ ds with
  |some ss=>if ss.length<64 then .ok (.list ((jo ss).map .str)) else .no
  |none=>.no
 |_=>.no
theorem JR:HV X (.builtin "sorted") (gK rj):=by
 refine oP (fun d c n=>?_) fun pins s σ H x u Q Hs d d' I ru sub rx hd q=>?_
 ·unfold rj;split<;>(try split)<;>(try split)<;>exact fun h=>by cases h
 ·unfold rj at hd;split at hd
  ·split at hd
   ·split at hd
    ·rename_i ss hs hz
     cases hd;obtain ⟨a,vs,rfl,qa,ra⟩:=rx.list sub;rw [qB hs] at ra;rw [oK ra] at qa;exact vY pins s σ H _ _ Q I (.cons ru .nil) ⟨a,ss,rfl,qa,hz,fun l hl=>q _ _ _ (.new sub hl) (.list (.of ba) (yt _))⟩
    ·cases hd
   ·cases hd
  ·cases hd
end
end
section
inductive V5 (K:a8) (cls:Str->ak) (n:Nat) (F:List D->R D) (vs:List V) (H:Hp) (Q:VK) (E:XK):Prop
 |mk (Hs ds:_) (h0:c_ Hs H) (h1:ds.length=n) (h2:RDs K Hs vs ds) (h3:Fin K cls E H Hs (F ds) fun d=>∀ v H' Hs',cF H Hs H' Hs'->RD K Hs' v d->Q v H'):V5 K cls n F vs H Q E
def Rs (K:a8) (cls:Str->ak) (n:Nat) (F:List D->R D):Sp:=V5 K cls n F
structure Fn (P:aX) (w:bn) (K:a8) (mg:Str->Option af) (base:bE) (cls:Str->ak) (x:Str) (k n:Nat) (F:List D->R D):Prop where
 ex:∃ f fd ps,sf P w K mg base (oJ P w) k f fd ps (Rs K cls n F)/\mg x=some (.ref f)/\dX K (.ref f)=true/\kq K fd ps []
section
def ej (n:Nat) (F:List D->R D) (gs:az->R (List D)):az->R D:=fun ρ=>(gs ρ).bind fun ds=>if ds.length=n then F ds else .no
theorem PX  (G:Fn c.X.prog c.X.w c.X.K c.X.mg c.X.base c.cls x k n F) (hr:i_ k c.X.A) (hg:Gl c.X x) (hx:tf (oJ c.X.prog c.X.w) c.X c.E) (ha:HN c (e::es) gs)
  (hdb:(x==("__debug__" : Str))=false:=by decide) (he:aJ (e::es) c.X.env=(false,ed e c.X.env)::aJ es c.X.env:=by rfl) (hpl:(fU pos (aJ es c.X.env)).any (·.1)=false:=by rfl) :
  JE c (.Call (.Name x p) (e::es) [] pos) (ej n F gs):=.of fun ρ=>by
 obtain ⟨f,fd,ps,hf,hm,hk,hb⟩:=G.ex;refine sF (Pg (E:=c.E) hf hr hg hm hk hb .nil hx (ha ρ) hdb he hpl) fun σ H Q h_0=>?_;obtain ⟨H0,Hs0,la,Hs,fr,q⟩:=h_0;refine Gp fr q fun ds vs H1 Hs1 e1 s1 f1 r1=>?_;unfold ej at q;rw [e1,bind_ok] at q;by_cases hn:ds.length=n
 ·rw [if_pos hn] at q;show Rs _ _ _ _ (vs++[]) _ _ _;rw [cA];exact ⟨Hs1,ds,f1.st.sub,hn,r1,q.on s1 fun d k v H2 Hs2 s2 r2=>k v H2 Hs2 (s1.trans s2) r2⟩
 ·rw [if_neg hn] at q;exact q.elim
end
inductive Fl where
 |nx (ρ:az)
 |rt (d:D)
 |bk (ρ:az)
 |ct (ρ:az)
def nW (K:a8) (cls:Str->ak) (E:XK) (H0 Hs0:Hp) (la:Nat->Option ak) (D:BL) (r:R Fl):Prop:=match r with
 |.ok (.nx ρ')=>∀ σ' H' Hs',Fr K H0 Hs0 la ρ' σ' H' Hs'->D.nx σ' H'
 |.ok (.bk ρ')=>∀ σ' H' Hs',Fr K H0 Hs0 la ρ' σ' H' Hs'->D.bk σ' H'
 |.ok (.ct ρ')=>∀ σ' H' Hs',Fr K H0 Hs0 la ρ' σ' H' Hs'->D.ct σ' H'
 |.ok (.rt d)=>∀ v H' Hs',cF H0 Hs0 H' Hs'->RD K Hs' v d->D.rt v H'
 |.ex c n=>∀ H' Hs',cF H0 Hs0 H' Hs'->XW K cls E c n H' Hs'
 |.no=>False
inductive XE (K:a8) (cls:Str->ak) (E:XK) (ρ:az) (r:R Fl) (D:BL) (σ:St) (H:Hp):Prop
 |mk (H0 Hs0:Hp) (la:Nat->Option ak) (Hs:Hp) (f:Fr K H0 Hs0 la ρ σ H Hs) (q:nW K cls E H0 Hs0 la D r):XE K cls E ρ r D σ H
def SR (K:a8) (cls:Str->ak) (E:XK) (ρ:az) (r:R Fl):TS:=XE K cls E ρ r
structure JS (c:C) (s:cP) (g:az->R Fl):Prop where of ::
 run:∀ ρ,PS c.X s (SR c.X.K c.cls c.E ρ (g ρ))
instance {c:C}{s:cP}{g:az->R Fl}:CoeFun (JS c s g) (fun _=>∀ ρ,PS c.X s (SR c.X.K c.cls c.E ρ (g ρ))):=⟨JS.run⟩
structure Gu (c:C) (s:List cP) (g:az->R Fl):Prop where of ::
 run:∀ ρ,HD c.X s (SR c.X.K c.cls c.E ρ (g ρ))
instance {c:C}{s:List cP}{g:az->R Fl}:CoeFun (Gu c s g) (fun _=>∀ ρ,HD c.X s (SR c.X.K c.cls c.E ρ (g ρ))):=⟨Gu.run⟩
theorem Fr.set     (f:Fr K H0 Hs0 la ρ σ H Hs) (i:Nat)  (r:RD K Hs v d):Fr K H0 Hs0 la (ρ.set i (.shr d)) (σ.set i (some v)) H Hs:=by
 have hl:=f.len;have nx:∀ {j:Nat}{s:Sl},(∀ d,s≠.shr d)->(ρ.set i (.shr d))[j]?=some s->ρ[j]?=some s/\i≠j:=fun {j s} hs e=>by
  by_cases hj:i=j
  ·subst hj;by_cases hi:i<ρ.length
   ·rw [aK hi] at e;exact absurd (bu e).symm (hs d)
   ·rw [cu (by simpa using hi)] at e;cases e
  ·rw [am hj] at e;exact ⟨e,hj⟩
 refine ⟨f.st,by simp [hl],fun j e h=>?_,fun j e h=>?_,fun j e h=>?_,fun j k d1 d2 a h1 h2 h3 h4=>?_,f.lh,fun j e h=>?_,fun j k d1 d2 h1 h2=>?_⟩
 ·by_cases hj:i=j
  ·subst hj;by_cases hi:i<ρ.length
   ·rw [aK hi] at h;cases h;exact ⟨v,aK (by omega),r⟩
   ·rw [cu (by simpa using hi)] at h;cases h
  ·rw [am hj] at h ⊢;exact f.sh j e h
 ·obtain ⟨h,hj⟩:=nx (fun _ z=>by cases z) h;rw [am hj];exact f.ow j e h
 ·obtain ⟨h,hj⟩:=nx (fun _ z=>by cases z) h;rw [am hj];exact f.lk j e h
 ·obtain ⟨h1,n1⟩:=nx (fun _ z=>by cases z) h1;obtain ⟨h2,n2⟩:=nx (fun _ z=>by cases z) h2;rw [am n1] at h3;rw [am n2] at h4;exact f.dj j k d1 d2 a h1 h2 h3 h4
 ·obtain ⟨h,hj⟩:=nx (fun _ z=>by cases z) h;obtain ⟨a,as,O⟩:=f.o2 j e h;refine ⟨a,as,by rw [am hj];exact O.at_,O.ob,O.nd,O.out,fun b hb k e' hk=>?_,O.inn⟩;obtain ⟨hk,nk⟩:=nx (fun _ z=>by cases z) hk;rw [am nk];exact O.dj b hb k e' hk
 ·exact f.u2 j k d1 d2 (nx (fun _ z=>by cases z) h1).1 (nx (fun _ z=>by cases z) h2).1
theorem Fr.setO     (f:Fr K H0 Hs0 la ρ σ H Hs) (i:Nat)   (n:H a=none) (r:my K Hs o d):Fr K H0 Hs0 la (ρ.set i (.own d)) (σ.set i (some (.ref a))) (upd H a o) Hs:=by
 have f':=f.step (cF.mine (o:=o) f.st.sub n);have hl:=f.len;have n0:H0 a=none:=f.st.all.free n;have ns:Hs a=none:=f.st.sub.free n;have nx:∀ {j:Nat}{s:Sl},(∀ d,s≠.own d)->(ρ.set i (.own d))[j]?=some s->ρ[j]?=some s/\i≠j:=fun {j s} hs e=>by
  by_cases hj:i=j
  ·subst hj;by_cases hi:i<ρ.length
   ·rw [aK hi] at e;exact absurd (bu e).symm (hs d)
   ·rw [cu (by simpa using hi)] at e;cases e
  ·rw [am hj] at e;exact ⟨e,hj⟩
 have ne:∀ j e,ρ[j]?=some (Sl.own e)->σ[j]?≠some (some (V.ref a)):=fun j e h z=>by
  obtain ⟨b,o',h1,h2,_⟩:=f.ow j e h;rw [z] at h1;cases h1;rw [n] at h2;cases h2
 refine ⟨f'.st,by simp [hl],fun j e h=>?_,fun j e h=>?_,fun j e h=>?_,fun j k d1 d2 b h1 h2 h3 h4=>?_,f.lh,fun j e h=>?_,fun j k d1 d2 h1 h2=>?_⟩
 ·obtain ⟨h,hj⟩:=nx (fun _ z=>by cases z) h;rw [am hj];exact f'.sh j e h
 ·by_cases hj:i=j
  ·subst hj;by_cases hi:i<ρ.length
   ·rw [aK hi] at h;cases h;exact ⟨a,o,aK (by omega),ba,ns,n0,r⟩
   ·rw [cu (by simpa using hi)] at h;cases h
  ·rw [am hj] at h ⊢;exact f'.ow j e h
 ·obtain ⟨h,hj⟩:=nx (fun _ z=>by cases z) h;rw [am hj];exact f'.lk j e h
 ·by_cases hj:i=j
  ·by_cases hk:i=k
   ·exact hj.symm.trans hk
   ·rw [am hk] at h2 h4;subst hj;by_cases hi:i<ρ.length
    ·rw [aK (by omega)] at h3;cases h3;exact (ne k d2 h2 h4).elim
    ·rw [cu (by simpa using hi)] at h1;cases h1
  ·rw [am hj] at h1 h3;by_cases hk:i=k
   ·subst hk;by_cases hi:i<ρ.length
    ·rw [aK (by omega)] at h4;cases h4;exact (ne j d1 h1 h3).elim
    ·rw [cu (by simpa using hi)] at h2;cases h2
   ·rw [am hk] at h2 h4;exact f.dj j k d1 d2 b h1 h2 h3 h4
 ·obtain ⟨h,hj⟩:=nx (fun _ z=>by cases z) h;obtain ⟨b,as,O⟩:=f.o2 j e h;have nb:∀ c∈b::as,c≠a:=fun c hc z=>by
   subst z;rcases List.mem_cons.mp hc with z|z
   ·have:=O.ob;rw [<- z,n] at this;cases this
   ·obtain ⟨o,ho,_⟩:=O.inn.there z;rw [n] at ho;cases ho
  refine ⟨b,as,by rw [am hj];exact O.at_,by rw [a_ (nb b ah)];exact O.ob,O.nd,O.out,fun c hc k e' hk=>?_,O.inn.upd fun z=>nb a (a9 _ z) rfl⟩;by_cases nk:i=k
  ·subst nk;intro z;by_cases hi:i<ρ.length
   ·rw [aK (by omega)] at z;cases z;exact nb _ hc rfl
   ·rw [cu (by simp;omega)] at hk;cases hk
  ·rw [am nk] at hk ⊢;exact O.dj c hc k e' hk
 ·exact f.u2 j k d1 d2 (nx (fun _ z=>by cases z) h1).1 (nx (fun _ z=>by cases z) h2).1
theorem Fr.write     (f:Fr K H0 Hs0 la ρ σ H Hs) (i:Nat)   (hi:ρ[i]?=some (Sl.own d)) (hs:σ[i]?=some (some (V.ref a))) (r:my K Hs o d'):Fr K H0 Hs0 la (ρ.set i (.own d')) σ (upd H a o) Hs:=by
 obtain ⟨a',o',h1,h2,h3,h4,h5⟩:=f.ow i d hi;rw [hs] at h1;cases h1;have hl:=f.len;have hil:i<ρ.length:=(List.getElem?_eq_some_iff.mp hi).1;have nx:∀ {j:Nat}{s:Sl},(∀ d,s≠.own d)->(ρ.set i (.own d'))[j]?=some s->ρ[j]?=some s/\i≠j:=fun {j s} hs e=>by
  by_cases hj:i=j
  ·subst hj;rw [aK hil] at e;exact absurd (bu e).symm (hs d')
  ·rw [am hj] at e;exact ⟨e,hj⟩
 refine ⟨⟨fun b u e=>?_,f.st.sh,fun b u e=>?_,f.st.out⟩,by simp [hl],fun j e h=>?_,fun j e h=>?_,fun j e h=>?_,fun j k d1 d2 b h1 h2 h3 h4=>?_,f.lh,fun j e h=>?_,fun j k d1 d2 h1 h2=>?_⟩
 ·rw [a_ (bp e h4)];exact f.st.all b u e
 ·rw [a_ (bp e h3)];exact f.st.sub b u e
 ·obtain ⟨h,hj⟩:=nx (fun _ z=>by cases z) h;exact f.sh j e h
 ·by_cases hj:i=j
  ·subst hj;rw [aK hil] at h;cases h;exact ⟨a,o,hs,ba,h3,h4,r⟩
  ·rw [am hj] at h;obtain ⟨b,u,k1,k2,k3,k4,k5⟩:=f.ow j e h;refine ⟨b,u,k1,?_,k3,k4,k5⟩;rw [a_ (fun z=>hj ?_)]
   ·exact k2
   ·subst z;exact f.dj i j d e b hi h hs k1
 ·obtain ⟨h,hj⟩:=nx (fun _ z=>by cases z) h;obtain ⟨b,u,k1,k2,k3,k4,k5,k6⟩:=f.lk j e h;refine ⟨b,u,k1,k2,?_,k4,k5,k6⟩;rw [a_ (bp k5 h4)];exact k3
 ·have own:∀ {j:Nat}{e:D},(ρ.set i (.own d'))[j]?=some (Sl.own e)->∃ e',ρ[j]?=some (Sl.own e'):=fun {j e} h=>by
   by_cases hj:i=j
   ·subst hj;exact ⟨d,hi⟩
   ·rw [am hj] at h;exact ⟨e,h⟩
  obtain ⟨e1,h1⟩:=own h1;obtain ⟨e2,h2⟩:=own h2;exact f.dj j k e1 e2 b h1 h2 h3 h4
 ·obtain ⟨h,hj⟩:=nx (fun _ z=>by cases z) h;obtain ⟨b,as,O⟩:=f.o2 j e h;have nb:∀ c∈b::as,c≠a:=fun c hc z=>by
   subst z;exact O.dj c hc i d hi hs
  refine ⟨b,as,O.at_,by rw [a_ (nb b ah)];exact O.ob,O.nd,O.out,fun c hc k e' hk=>?_,O.inn.upd fun z=>nb a (a9 _ z) rfl⟩;by_cases nk:i=k
  ·subst nk;exact O.dj c hc i d hi
  ·rw [am nk] at hk;exact O.dj c hc k e' hk
 ·exact f.u2 j k d1 d2 (nx (fun _ z=>by cases z) h1).1 (nx (fun _ z=>by cases z) h2).1
def fv (ρ:az):az:=ρ.map fun s=>match s with
 |.own d=>.shr d
 |.ow2 dss=>.shr (.list (dss.map .list))
 |s=>s
open Classical in
theorem Fr.share     (f:Fr K H0 Hs0 la ρ σ H Hs):∃ Hs',Fr K H0 Hs0 la (fv ρ) σ H Hs'/\cF H Hs H Hs'\/Fr K H0 Hs0 la (fv ρ) σ H Hs':=by
 let P:ak->Prop:=fun b=>(∃ (i:Nat) (d:D),ρ[i]?=some (Sl.own d)/\σ[i]?=some (some (V.ref b)))\/∃ (i:Nat) (dss:List (List D)) (a:ak) (as:List ak),ρ[i]?=some (Sl.ow2 dss)/\O2 K H0 H Hs ρ σ i dss a as/\b∈a::as
 let Hs':Hp:=fun b=>if P b then H b else Hs b
 have pos:∀ b,P b->Hs' b=H b:=fun b h=>if_pos h;have neg:∀ b,¬ P b->Hs' b=Hs b:=fun b h=>if_neg h;have up:c_ Hs Hs':=fun b o e=>by
  by_cases h:P b
  ·rw [pos b h];exact f.st.sub b o e
  ·rw [neg b h];exact e
 have none0:∀ b o,H0 b=some o->¬ P b:=fun b o e hP=>by
  rcases hP with ⟨i,d,h1,h2⟩|⟨i,dss,a,as,h1,O,hb⟩
  ·obtain ⟨a,o',k1,_,_,k4,_⟩:=f.ow i d h1;rw [h2] at k1;cases k1;rw [e] at k4;cases k4
  ·have:=(O.out b hb).2;rw [e] at this;cases this
 have un:∀ {j:Nat}{s:Sl},(fv ρ)[j]?=some s->(∃ d,s=.shr d/\ρ[j]?=some (Sl.own d))\/(∃ dss:List (List D),s=.shr (.list (dss.map .list))/\ρ[j]?=some (Sl.ow2 dss))\/((∀ d,s≠.own d)/\(∀ d,s≠.ow2 d)/\ρ[j]?=some s):=fun {j s} e=>by
  unfold fv at e;rw [aW] at e;cases h:ρ[j]? with
  |none=>rw [h] at e;cases e
  |some t =>
   rw [h] at e;cases t with
   |own d=>cases e;exact .inl ⟨d,rfl,rfl⟩
   |no=>cases e;exact .inr (.inr ⟨fun _ z=>(by cases z),fun _ z=>(by cases z),rfl⟩)
   |shr d=>cases e;exact .inr (.inr ⟨fun _ z=>(by cases z),fun _ z=>(by cases z),rfl⟩)
   |lck d=>cases e;exact .inr (.inr ⟨fun _ z=>(by cases z),fun _ z=>(by cases z),rfl⟩)
   |ow2 d=>cases e;exact .inr (.inl ⟨d,rfl,rfl⟩)
 refine ⟨Hs',.inr ⟨⟨f.st.all,f.st.sh.trans up,fun b o e=>?_,fun a o e t z=>?_⟩,by simp [fv,f.len],fun j d h=>?_,fun j d h=>?_,fun j d h=>?_,fun j k d1 d2 a h1 h2 _ _=>?_,f.lh,fun j d h=>?_,fun j k d1 d2 h1 h2=>?_⟩⟩
 ·by_cases h:P b
  ·rw [pos b h] at e;exact e
  ·rw [neg b h] at e;exact f.st.sub b o e
 ·rw [neg a (none0 a o e)];exact f.st.out a o e t z
 ·rcases un h with ⟨d',e,h'⟩|⟨dss,e,h'⟩|⟨_,_,h'⟩
  ·cases e;obtain ⟨a,o,k1,k2,k3,k4,k5⟩:=f.ow j d h';refine ⟨_,k1,?_⟩;have hp:Hs' a=some o:=by rw [pos a (.inl ⟨j,d,h',k1⟩)];exact k2
   have e:c_ (upd Hs a o) Hs':=fun b u q=>by
    by_cases hb:b=a
    ·subst hb;rw [ba] at q;cases q;exact hp
    ·rw [a_ hb] at q;exact up b u q
   exact (k5.share k3).same e
  ·cases e;obtain ⟨a,as,O⟩:=f.o2 j dss h';refine ⟨_,O.at_,?_⟩;have hp:∀ b∈a::as,∀ o,H b=some o->Hs' b=some o:=fun b hb o ho=>by rw [pos b (.inr ⟨j,dss,a,as,h',O,hb⟩)];exact ho
   refine .list (.of (hp a ah _ O.ob)) ?_;have go:∀ {as':List ak}{dss':List (List D)},(∀ b∈as',b∈a::as)->AU K H Hs as' dss'->RDs K Hs' (as'.map V.ref) (dss'.map .list):=fun {as' dss'} hs hi=>by
    induction hi with
    |nil=>exact .nil
    |cons h1 h2 _ ih=>exact .cons (.list (.of (hp _ (hs _ ah) _ h1)) (h2.same up)) (ih fun b hb=>hs b (a9 _ hb))
   exact go (fun b hb=>a9 _ hb) O.inn
  ·obtain ⟨v,k1,k2⟩:=f.sh j d h';exact ⟨v,k1,k2.same up⟩
 ·rcases un h with ⟨d',e,h'⟩|⟨d',e,h'⟩|⟨n,_,h'⟩
  ·cases e
  ·cases e
  ·exact (n d rfl).elim
 ·rcases un h with ⟨d',e,h'⟩|⟨d',e,h'⟩|⟨_,_,h'⟩
  ·cases e
  ·cases e
  ·obtain ⟨a,o,k1,k2,k3,k4,k5,k6⟩:=f.lk j d h';exact ⟨a,o,k1,k2,k3,by rw [neg a (none0 a o k5)];exact k4,k5,k6.same up⟩
 ·rcases un h1 with ⟨d',e,h'⟩|⟨d',e,h'⟩|⟨n,_,h'⟩
  ·cases e
  ·cases e
  ·exact (n d1 rfl).elim
 ·rcases un h with ⟨d',e,h'⟩|⟨d',e,h'⟩|⟨_,n,h'⟩
  ·cases e
  ·cases e
  ·exact (n d rfl).elim
 ·rcases un h1 with ⟨d',e,h'⟩|⟨d',e,h'⟩|⟨_,n,h'⟩
  ·cases e
  ·cases e
  ·exact (n d1 rfl).elim
theorem Fr.shared     (f:Fr K H0 Hs0 la ρ σ H Hs):∃ Hs',Fr K H0 Hs0 la (fv ρ) σ H Hs':=by
 obtain ⟨Hs',h|h⟩:=f.share
 ·exact ⟨Hs',h.1⟩
 ·exact ⟨Hs',h⟩
section
variable {c:C}{e a b:bd}{g ga gb:az->R D}{pos:Pos}{x:Str}{st:cP}{bT:List cP}{gs gr:az->R Fl}
def aQ (g h:az->R Fl):az->R Fl:=fun ρ=>(g ρ).bind fun fl=>match fl with
 |.nx ρ'=>h ρ'
 |fl=>.ok fl
theorem cc:Gu c [] (fun ρ=>.ok (.nx ρ)):=.of fun ρ=>X1 P7 fun D σ H h_1=>by obtain ⟨H0,Hs0,la,Hs,f,q⟩:=h_1;exact q σ H Hs f
theorem aH (h:JS c st gs):Gu c [st] gs:=.of fun ρ=>P8 (h ρ)
theorem ay (h:JS c st gs) (hr:Gu c bT gr):Gu c (st::bT) (aQ gs gr):=.of fun ρ pins s σ H D I h_2=>by
 obtain ⟨H0,Hs0,la,Hs,f,q⟩:=h_2;unfold aQ at q;cases hg:gs ρ with
 |no=>rw [hg] at q;exact q.elim
 |ex x n =>
  rw [hg] at q;refine qt (h ρ) (qY (X:=c.X) (sts:=bT)) pins s σ H D I ⟨H0,Hs0,la,Hs,f,?_⟩;rw [hg];exact q
 |ok fl =>
  rw [hg,bind_ok] at q;cases fl with
  |nx ρ' =>
   refine qt (h ρ) (hr ρ') pins s σ H D I ⟨H0,Hs0,la,Hs,f,?_⟩;rw [hg];exact fun σ' H' Hs' f'=>⟨H0,Hs0,la,Hs',f',q⟩
  |rt d =>
   refine qt (h ρ) (qY (X:=c.X) (sts:=bT)) pins s σ H D I ⟨H0,Hs0,la,Hs,f,?_⟩;rw [hg];exact q
  |bk ρ' =>
   refine qt (h ρ) (qY (X:=c.X) (sts:=bT)) pins s σ H D I ⟨H0,Hs0,la,Hs,f,?_⟩;rw [hg];exact q
  |ct ρ' =>
   refine qt (h ρ) (qY (X:=c.X) (sts:=bT)) pins s σ H D I ⟨H0,Hs0,la,Hs,f,?_⟩;rw [hg];exact q
theorem sE            (f:Fr K H0 Hs0 la ρ σ H Hs)
  (h:nW K cls E H0 Hs0 la D' (r.bind k)) (m:∀ d v H' Hs',r=.ok d->cF H Hs H' Hs'->Fr K H0 Hs0 la ρ σ H' Hs'->RD K Hs' v d->Q v H'):TR K cls E ρ r σ H Q:=by
 refine ⟨H0,Hs0,la,Hs,f,?_⟩;cases r with
 |ok d=>exact fun v H' Hs' s r=>m d v H' Hs' rfl s (f.step s) r
 |ex c n=>exact fun H' Hs' s=>h H' Hs' (f.st.trans s)
 |no=>exact h
theorem sT            (f:Fr K H0 Hs0 la ρ σ H Hs)
  (h:nW K cls E H0 Hs0 la D' (r.bind k)) (m:∀ d H' Hs',r=.ok d->cF H Hs H' Hs'->Fr K H0 Hs0 la ρ σ H' Hs'->Q d H'):JM K cls E ρ r σ H Q:=by
 refine ⟨H0,Hs0,la,Hs,f,?_⟩;cases r with
 |ok d=>exact fun H' Hs' s=>m d H' Hs' rfl s (f.step s)
 |ex c n=>exact fun H' Hs' s=>h H' Hs' (f.st.trans s)
 |no=>exact h
def cL (g:az->R D):az->R Fl:=fun ρ=>(g (fv ρ)).bind fun d=>.ok (.rt d)
theorem bz (h:JE c e g):JS c (.Return (some e) pos) (cL g):=.of fun ρ=>Aa (Ss (h (fv ρ))) fun D σ H h_3=>by
 obtain ⟨H0,Hs0,la,Hs,f,q⟩:=h_3;obtain ⟨Hs',f'⟩:=f.shared;refine sE f' q fun d v H1 Hs1 e1 s1 f1 r1=>?_;unfold cL at q;rw [e1,bind_ok] at q;exact q v H1 Hs1 f1.st r1
def eg (t:az->R Bool) (g h:az->R Fl):az->R Fl:=fun ρ=>(t ρ).bind fun b=>if b then g ρ else h ρ
theorem eA    (ht:JT c t gt) (hA:Gu c A gA) (hB:Gu c B gB):JS c (.If t A B pos) (eg gt gA gB):=.of fun ρ=>Aa (Ul (ht ρ) (hA ρ) (hB ρ)) fun D σ H h_5=>by
 obtain ⟨H0,Hs0,la,Hs,f,q⟩:=h_5;refine sT f q fun d H1 Hs1 e1 s1 f1=>?_;unfold eg at q;rw [e1,bind_ok] at q;cases d with
 |true=>exact Dw ⟨H0,Hs0,la,Hs1,f1,q⟩
 |false=>exact Dv ⟨H0,Hs0,la,Hs1,f1,q⟩
def eZ (i:Nat) (g:az->R D):az->R Fl:=fun ρ=>(g ρ).bind fun d=>.ok (.nx (ρ.set i (.shr d)))
theorem dU (i:Nat) (h:JE c e g) (hN:c.X.N.Nodup) (hi:c.X.N[i]?=some x:=by rfl) (hx:QX c.X.env.scope x:=by first|exact iI rfl|exact fB rfl) (hs:gX e (some (.Name x pos')) pos.line c.X.env=pure false:=by rfl)
  (hf:c.X.fn x=true\/c.X.env.scope.names.lookup x=some .local:=by first|exact .inl rfl|exact .inr rfl|assumption):JS c (.Assign [.Name x pos'] e pos) (eZ i g):=.of fun ρ=>Aa (G1 hN hi hx (h ρ) hs hf) fun D σ H h_6=>by
 obtain ⟨H0,Hs0,la,Hs,f,q⟩:=h_6;refine sE f q fun d v H1 Hs1 e1 s1 f1 r1=>?_;unfold eZ at q;rw [e1,bind_ok] at q;exact q _ H1 Hs1 (f1.set i r1)
def uS (g:az->R D):az->R Fl:=fun ρ=>(g ρ).bind fun _=>.ok (.nx ρ)
theorem rm (h:JE c e g) (hs:gX e none pos.line c.X.env=pure false:=by rfl):JS c (.Expr e pos) (uS g):=.of fun ρ=>Aa (BN (h ρ) hs) fun D σ H h_7=>by
 obtain ⟨H0,Hs0,la,Hs,f,q⟩:=h_7;refine sE f q fun d v H1 Hs1 e1 s1 f1 r1=>?_;unfold uS at q;rw [e1,bind_ok] at q;exact q _ H1 Hs1 f1
def XF (K:a8) (H0 Hs0:Hp) (la:Nat->Option ak) (H Hs:Hp) (Q:St->Hp->Prop) (r:R az):Prop:=match r with
 |.ok ρ'=>∀ σ',Fr K H0 Hs0 la ρ' σ' H Hs->Q σ' H
 |_=>False
inductive V6 (K:a8) (ρ:az) (d:D) (r:R az) (v:V) (σ:St) (H:Hp) (Q:St->Hp->Prop):Prop
 |mk (H0 Hs0:Hp) (la:Nat->Option ak) (Hs:Hp) (f:Fr K H0 Hs0 la ρ σ H Hs) (rd:RD K Hs v d) (q:XF K H0 Hs0 la H Hs Q r):V6 K ρ d r v σ H Q
def Td (K:a8) (ρ:az) (d:D) (r:R az):TG:=V6 K ρ d r
inductive Rt (K:a8) (ρ:az) (ds:List D) (r:R az) (vs:List V) (σ:St) (H:Hp) (Q:St->Hp->Prop):Prop
 |mk (H0 Hs0:Hp) (la:Nat->Option ak) (Hs:Hp) (f:Fr K H0 Hs0 la ρ σ H Hs) (rd:RDs K Hs vs ds) (q:XF K H0 Hs0 la H Hs Q r):Rt K ρ ds r vs σ H Q
def V7 (K:a8) (ρ:az) (ds:List D) (r:R az):Ln:=Rt K ρ ds r
structure JG (c:C) (t:bd) (k:D->az->R az):Prop where of ::
 run:∀ ρ d,PG c.X t (Td c.X.K ρ d (k d ρ))
instance {c:C}{t:bd}{k:D->az->R az}:CoeFun (JG c t k) (fun _=>∀ ρ d,PG c.X t (Td c.X.K ρ d (k d ρ))):=⟨JG.run⟩
structure Ub (c:C) (t:List bd) (k:List D->az->R az):Prop where of ::
 run:∀ ρ d,QZ c.X t (V7 c.X.K ρ d (k d ρ))
instance {c:C}{t:List bd}{k:List D->az->R az}:CoeFun (Ub c t k) (fun _=>∀ ρ d,QZ c.X t (V7 c.X.K ρ d (k d ρ))):=⟨Ub.run⟩
theorem XG   (h:PG X e t) (m:∀ v σ H Q,t' v σ H Q->t v σ H Q):PG X e t':=fun pins s σ H v u Q I r q=>h pins s σ H v u Q I r (m v σ H Q q)
theorem X6 {X:Cx}{e:List bd}{t t':Ln} (h:QZ X e t) (m:∀ v σ H Q,t' v σ H Q->t v σ H Q):QZ X e t':=fun pins s σ H v u Q I r q=>h pins s σ H v u Q I r (m v σ H Q q)
def bN (i:Nat):D->az->R az:=fun d ρ=>.ok (ρ.set i (.shr d))
theorem cG (i:Nat) (hN:c.X.N.Nodup) (hi:c.X.N[i]?=some x:=by rfl) (hx:QX c.X.env.scope x:=by first|exact iI rfl|exact fB rfl) (hf:c.X.fn x=true\/c.X.env.scope.names.lookup x=some .local:=by first|exact .inl rfl|exact .inr rfl|assumption) :
  JG c (.Name x pos) (bN i):=.of fun ρ d=>XG (cb hN hi hx hf) fun v σ H Q h_11=>by obtain ⟨H0,Hs0,la,Hs,f,r,q⟩:=h_11;exact q _ (f.set i r)
def mz:List D->az->R az:=fun ds ρ=>match ds with
 |[]=>.ok ρ
 |_=>.no
def cw (k:D->az->R az) (ks:List D->az->R az):List D->az->R az:=fun ds ρ=>match ds with
 |d::r=>(k d ρ).bind fun ρ'=>ks r ρ'
 |_=>.no
theorem le:Ub c [] mz:=.of fun ρ ds=>X6 qZ fun vs σ H Q h_12=>by
 obtain ⟨H0,Hs0,la,Hs,f,r,q⟩:=h_12;cases r with
 |nil=>exact ⟨rfl,q σ f⟩
 |cons _ _=>exact q.elim
theorem cW (h:JG c t kt) (hr:Ub c ts kts) (hs:(i8 (t::ts) c.X.env).map (·.2)=sR t c.X.env::(i8 ts c.X.env).map (·.2):=by rfl):Ub c (t::ts) (cw kt kts):=.of fun ρ ds pins s σ H vs us Q I rv h_13=>by
 obtain ⟨H0,Hs0,la,Hs,f,r,q⟩:=h_13;cases r with
 |nil=>exact q.elim
 | @cons v vr d dr r1 r2 =>
  unfold cw at q;cases hk:kt d ρ with
  |ok ρ' =>
   simp only [hk,bind_ok] at q;refine ii (h ρ d) (hr ρ' dr) hs pins s σ H _ us Q I rv ⟨v,vr,rfl,H0,Hs0,la,Hs,f,r1,?_⟩;rw [hk];exact fun σ' f'=>⟨H0,Hs0,la,Hs,f',r2,q⟩
  |ex x n=>simp only [hk,bind_ex] at q;exact q.elim
  |no=>simp only [hk,bind_no] at q;exact q.elim
def li (n:Nat) (ks:List D->az->R az):D->az->R az:=fun d ρ=>match d with
 |.tuple ds=>if ds.length=n then ks ds ρ else .no
 |_=>.no
theorem oQ (hc:c.X.calm=true) (h:Ub c ts kts) (hn:(i8 ts c.X.env).length=n:=by rfl) (hst:(i8 ts c.X.env).findIdx? (·.1)=none:=by rfl):JG c (.Tuple ts k pos) (li n kts):=.of fun ρ d=>by
 cases d with
 |tuple ds =>
  refine XG (vR hc (h ρ ds) hn hst) fun v σ H Q h_14=>?_;obtain ⟨H0,Hs0,la,Hs,f,r,q⟩:=h_14;cases r with
  | @tuple p xs _ hq rs =>
   unfold li at q;by_cases hl:ds.length=n
   ·simp only [if_pos hl] at q;exact ⟨p,xs,rfl,(ko.of (f.st.sub _ _ hq)),by rw [rs.length];exact hl,H0,Hs0,la,Hs,f,rs,q⟩
   ·simp only [if_neg hl] at q;exact q.elim
 |_=>exact fun pins s σ H v u Q I rv h_15=>by obtain ⟨H0,Hs0,la,Hs,f,r,q⟩:=h_15;exact q.elim
def yz (g:az->R D) (k:D->az->R az):az->R Fl:=fun ρ=>(g ρ).bind fun d=>match k d ρ with
 |.ok ρ'=>.ok (.nx ρ')
 |_=>.no
theorem yA (h:JE c e g) (hg:JG c t kt) (hs:xC [t] e pos.line c.X.env=pure false:=by rfl) (hw:xD [t] e c.X.env=pure none:=by rfl) (h1:(i8 [t] c.X.env).map (·.2)=[sR t c.X.env]:=by rfl) :
  JS c (.Assign [t] e pos) (yz g kt):=.of fun ρ=>by
 cases hr:g ρ with
 |ok d =>
  refine Aa (Lp (h ρ) (hg ρ d) hs hw h1) fun D σ H h_16=>?_;obtain ⟨H0,Hs0,la,Hs,f,q⟩:=h_16;refine sE (k:=fun d=>match kt d ρ with | .ok ρ'=>.ok (.nx ρ')|_=>.no) f q fun d' v H1 Hs1 e1 s1 f1 r1=>?_;rw [hr] at e1;cases e1;unfold yz at q;rw [hr,bind_ok] at q;refine ⟨H0,Hs0,la,Hs1,f1,r1,?_⟩;cases hk:kt d ρ with
  |ok ρ'=>rw [hk] at q;exact fun σ' f'=>q σ' H1 Hs1 f'
  |ex x n=>rw [hk] at q;exact q.elim
  |no=>rw [hk] at q;exact q.elim
 |ex x n =>
  refine Aa (Lp (h ρ) (hg ρ .none) hs hw h1) fun D σ H h_17=>?_;obtain ⟨H0,Hs0,la,Hs,f,q⟩:=h_17;refine sE (k:=fun _=>.no) (D':=D) f (by unfold yz at q;rw [hr] at q ⊢;exact q) fun d' v H1 Hs1 e1 s1 f1 r1=>?_;rw [hr] at e1;cases e1
 |no =>
  refine fun pins s σ H D I h_18=>?_;obtain ⟨H0,Hs0,la,Hs,f,q⟩:=h_18;unfold yz at q;rw [hr] at q;exact q.elim
end
end
section
def OB (K:a8) (J:It) (ds:List D) (Hn Hs:Hp):Prop:=∀ H2 Hs2,c_ Hn H2->c_ Hs Hs2->c_ Hs2 H2 ->
 (∀ i,i<ds.length->J.go i H2)/\(∀ i,ds.length<=i->J.stop i H2)/\∀ i x H3,i<ds.length->J.yld i H2 x H3->∃ d Hs3,ds[i]?=some d/\cF H2 Hs2 H3 Hs3/\RD K Hs3 x d
theorem C9     (h:ni K Hn a vs) (r:RDs K Hs vs ds):OB K (WA K a) ds Hn Hs:=fun H2 Hs2 e1 e2 e3=>by
 have q:=e1.seq h;refine ⟨fun i hi=>?_,fun i hi=>⟨vs,q,by rw [r.length];exact hi⟩,fun i x H3 hi y=>?_⟩
 ·have hi':i<vs.length:=by rw [r.length];exact hi
  exact ⟨vs,vs[i],q,aY hi'⟩
 ·obtain ⟨rfl,y⟩:=y;obtain ⟨d,k1,k2⟩:=r.get (y vs q);exact ⟨d,Hs2,k1,.refl e3,k2.same e2⟩
theorem Mq     (h:ko K Hn a vs) (r:RDs K Hs vs ds):OB K (WB K a) ds Hn Hs:=fun H2 Hs2 e1 e2 e3=>by
 have q:=e1.tup h;refine ⟨fun i hi=>?_,fun i hi=>⟨vs,q,by rw [r.length];exact hi⟩,fun i x H3 hi y=>?_⟩
 ·have hi':i<vs.length:=by rw [r.length];exact hi
  exact ⟨vs,vs[i],q,aY hi'⟩
 ·obtain ⟨rfl,y⟩:=y;obtain ⟨d,k1,k2⟩:=r.get (y vs q);exact ⟨d,Hs2,k1,.refl e3,k2.same e2⟩
theorem Mr  (x:Str):OB K (UL x) (nr x) Hn Hs:=fun H2 Hs2 e1 e2 e3=>by
 have hl:(nr x).length=x.cps.size:=by simp [nr]
 refine ⟨fun i hi=>by rw [hl] at hi;exact hi,fun i hi=>by rw [hl] at hi;exact hi,fun i v H3 hi y=>?_⟩;obtain ⟨rfl,c,k1,rfl⟩:=y;refine ⟨.str ⟨#[c]⟩,Hs2,?_,.refl e3,.str _⟩;unfold nr;rw [aW,dC,k1];rfl
def qC (lo:Int) (n:Nat):List D:=(bA n).map fun (k:Nat)=>b_ (lo+k)
theorem Ms  (lo:Int) (n:Nat):OB K (W8 lo n) (qC lo n) Hn Hs:=fun H2 Hs2 e1 e2 e3=>by
 have hl:(qC lo n).length=n:=by simp [qC]
 refine ⟨fun i hi=>by rw [hl] at hi;exact hi,fun i hi=>by rw [hl] at hi;exact hi,fun i v H3 hi y=>?_⟩;obtain ⟨rfl,rfl⟩:=y;refine ⟨.int (lo+i),Hs2,?_,.refl e3,.int _⟩;rw [hl] at hi;unfold qC;rw [aW,Jf hi];rfl
def pY (n:Nat):List D->List D
 |[]=>[]
 |d::r=>.tuple [.int n,d]::pY (n+1) r
theorem AY:∀ (ds:List D) (n i:Nat),(pY n ds)[i]?=(ds[i]?).map fun d=>f9 [.int ((n+i:Nat):Int),d]
 |[],_,_=>by simp [pY]
 |d::r,n,0=>by simp [pY]
 |d::r,n,i+1=>by
  simp only [pY,jm];rw [AY r (n+1) i,show n+1+i=n+(i+1) by omega]
theorem AZ:∀ (ds:List D) (n:Nat),(pY n ds).length=ds.length
 |[],_=>rfl
 |d::r,n=>by simp [pY,AZ r]
theorem PY     (h:ko K Hn a vs) (r:RDs K Hs vs ds):OB K (WV K a) (pY 0 ds) Hn Hs:=fun H2 Hs2 e1 e2 e3=>by
 have q:=e1.tup h;have hl:=AZ ds 0;refine ⟨fun i hi=>?_,fun i hi=>⟨vs,q,by rw [r.length];omega⟩,fun i x H3 hi y=>?_⟩
 ·have hi':i<vs.length:=by rw [r.length];omega
  exact ⟨vs,vs[i],q,aY hi'⟩
 ·obtain ⟨p,hp,rfl,y⟩:=y;obtain ⟨x,k0,rfl⟩:=y vs q;obtain ⟨d,k1,k2⟩:=r.get k0;have st:=cF.new (o:=.tup [.int i,x]) e3 hp;refine ⟨.tuple [.int i,d],_,?_,st,.tuple ba (.cons (.int _) (.cons ((k2.same e2).same st.sh) .nil))⟩;rw [AY,k1];simp
def xu:List D->List D->List D
 |x::xs,y::ys=>.tuple [x,y]::xu xs ys
 |_,_=>[]
theorem DV:∀ (xs ys:List D) (i:Nat) (x y:D),xs[i]?=some x->ys[i]?=some y->(xu xs ys)[i]?=some (.tuple [x,y])
 |x::xs,y::ys,0,_,_,h1,h2=>by simp at h1 h2;subst h1 h2;rfl
 |_::xs,_::ys,i+1,x,y,h1,h2=>by
  simp only [jm] at h1 h2;simp only [xu,jm];exact DV xs ys i x y h1 h2
 |[],_,_,_,_,h1,_=>by simp at h1
 |_::_,[],_,_,_,_,h2=>by simp at h2
theorem DW:∀ (xs ys:List D),(xu xs ys).length=min xs.length ys.length
 |x::xs,y::ys=>by simp [xu,DW xs ys]
 |[],_=>by simp [xu]
 |_::_,[]=>by simp [xu]
theorem Te     (h:ko K Hn a vs) (r:RDs K Hs vs ds) (h':ko K Hn b ws) (r':RDs K Hs ws es):OB K (WW K a b) (xu ds es) Hn Hs:=fun H2 Hs2 e1 e2 e3=>by
 have q:=e1.tup h;have q':=e1.tup h';have hl:=DW ds es;refine ⟨fun i hi=>?_,fun i hi=>⟨vs,ws,q,q',by rw [r.length,r'.length];omega⟩,fun i x H3 hi y=>?_⟩
 ·have h1:i<vs.length:=by rw [r.length];omega
  have h2:i<ws.length:=by rw [r'.length];omega
  exact ⟨vs,ws,vs[i],ws[i],q,q',aY h1,aY h2⟩
 ·obtain ⟨p,hp,rfl,y⟩:=y;obtain ⟨x,z,k0,k0',rfl⟩:=y vs ws q q';obtain ⟨d,k1,k2⟩:=r.get k0;obtain ⟨d',k1',k2'⟩:=r'.get k0';have st:=cF.new (o:=.tup [x,z]) e3 hp;exact ⟨.tuple [d,d'],_,DV ds es i d d' k1 k1',st,.tuple ba (.cons ((k2.same e2).same st.sh) (.cons ((k2'.same e2).same st.sh) .nil))⟩
inductive V8 (K:a8) (cls:Str->ak) (E:XK) (ρ:az) (r:R (List D)) (σ:St) (H:Hp) (Q:It->Hp->Prop):Prop
 |mk (H0 Hs0:Hp) (la:Nat->Option ak) (Hs:Hp) (f:Fr K H0 Hs0 la ρ σ H Hs) (q:Fin K cls E H Hs r fun ds=>∀ J H' Hs' Hn,cF H Hs H' Hs'->c_ Hn H'->OB K J ds Hn Hs'->Q J H'):V8 K cls E ρ r σ H Q
def Wh (K:a8) (cls:Str->ak) (E:XK) (ρ:az) (r:R (List D)):TI:=V8 K cls E ρ r
inductive V9 (K:a8) (cls:Str->ak) (E:XK) (ρ:az) (r:R (List D)) (σ:St) (H:Hp) (Q:It->Hp->Prop):Prop
 |mk (H0 Hs0:Hp) (la:Nat->Option ak) (Hs:Hp) (f:Fr K H0 Hs0 la ρ σ H Hs) (q:Fin K cls E H Hs r fun ds=>∀ J H' Hs',cF H Hs H' Hs'->OB K J ds Hs' Hs'->Q J H'):V9 K cls E ρ r σ H Q
def XH (K:a8) (cls:Str->ak) (E:XK) (ρ:az) (r:R (List D)):TI:=V9 K cls E ρ r
structure JI (c:C) (tg it:bd) (g:az->R (List D)):Prop where of ::
 run:∀ ρ,PI c.X tg it (Wh c.X.K c.cls c.E ρ (g ρ))
instance {c:C}{tg it:bd}{g:az->R (List D)}:CoeFun (JI c tg it g) (fun _=>∀ ρ,PI c.X tg it (Wh c.X.K c.cls c.E ρ (g ρ))):=⟨JI.run⟩
structure Mt (c:C) (tg it:bd) (g:az->R (List D)):Prop where of ::
 run:∀ ρ,PI c.X tg it (XH c.X.K c.cls c.E ρ (g ρ))
instance {c:C}{tg it:bd}{g:az->R (List D)}:CoeFun (Mt c tg it g) (fun _=>∀ ρ,PI c.X tg it (XH c.X.K c.cls c.E ρ (g ρ))):=⟨Mt.run⟩
theorem JU   (h:PI X tg e t) (m:∀ σ H Q,t' σ H Q->t σ H Q):PI X tg e t':=fun pins s σ H Q I q=>h pins s σ H Q I (m σ H Q q)
section
def yB:D->R (List D)
 |.list ds=>.ok ds
 |.tuple ds=>.ok ds
 |.str x=>.ok (nr x)
 |_=>.no
def jO (g:az->R D):az->R (List D):=fun ρ=>(g ρ).bind yB
theorem e_ (h:JB c l g):JI c tg l (jO g):=.of fun ρ=>by
 cases hr:g ρ with
 |no=>exact fun pins s σ H Q I h_0=>by obtain ⟨H0,Hs0,la,Hs,f,q⟩:=h_0;exact by unfold jO at q;rw [hr] at q;exact q.elim
 |ex x n =>
  refine JU (uz (h ρ)) fun σ H Q h_1=>?_;obtain ⟨H0,Hs0,la,Hs,f,q⟩:=h_1;refine one f q fun d v H1 Hs1 e1 s1 f1 r1=>?_;rw [hr] at e1;cases e1
 |ok d =>
  cases d with
  |list ds =>
   refine JU (uz (h ρ)) fun σ H Q h_2=>?_;obtain ⟨H0,Hs0,la,Hs,f,q⟩:=h_2;refine one f q fun d v H1 Hs1 e1 s1 f1 r1=>?_;rw [hr] at e1;cases e1;unfold jO at q;rw [hr,bind_ok] at q;obtain ⟨a,vs,rfl,qa,ra⟩:=r1.list f1.st.sub;exact ⟨a,rfl,⟨vs,qa⟩,q _ H1 Hs1 H1 s1 (.refl _) (C9 qa ra)⟩
  |tuple ds =>
   refine JU (Lr (h ρ)) fun σ H Q h_3=>?_;obtain ⟨H0,Hs0,la,Hs,f,q⟩:=h_3;refine one f q fun d v H1 Hs1 e1 s1 f1 r1=>?_;rw [hr] at e1;cases e1;unfold jO at q;rw [hr,bind_ok] at q;obtain ⟨a,vs,rfl,qa,ra,_⟩:=r1.tuple f1.st.sub;exact ⟨a,rfl,⟨vs,qa⟩,q _ H1 Hs1 H1 s1 (.refl _) (Mq qa ra)⟩
  |str x =>
   refine JU (M3 (h ρ)) fun σ H Q h_4=>?_;obtain ⟨H0,Hs0,la,Hs,f,q⟩:=h_4;refine one f q fun d v H1 Hs1 e1 s1 f1 r1=>?_;rw [hr] at e1;cases e1;unfold jO at q;rw [hr,bind_ok] at q;exact ⟨x,r1.str,q _ H1 Hs1 H1 s1 (.refl _) (Mr x)⟩
  |none=>exact fun pins s σ H Q I h_5=>by obtain ⟨H0,Hs0,la,Hs,f,q⟩:=h_5;exact by unfold jO at q;rw [hr] at q;exact q.elim
  |bool _=>exact fun pins s σ H Q I h_6=>by obtain ⟨H0,Hs0,la,Hs,f,q⟩:=h_6;exact by unfold jO at q;rw [hr] at q;exact q.elim
  |int _=>exact fun pins s σ H Q I h_7=>by obtain ⟨H0,Hs0,la,Hs,f,q⟩:=h_7;exact by unfold jO at q;rw [hr] at q;exact q.elim
  |dict _=>exact fun pins s σ H Q I h_8=>by obtain ⟨H0,Hs0,la,Hs,f,q⟩:=h_8;exact by unfold jO at q;rw [hr] at q;exact q.elim
theorem uT (h:JE c l g):Mt c tg l (jO g):=.of fun ρ=>by
 cases hr:g ρ with
 |no=>exact fun pins s σ H Q I h_9=>by obtain ⟨H0,Hs0,la,Hs,f,q⟩:=h_9;exact by unfold jO at q;rw [hr] at q;exact q.elim
 |ex x n =>
  refine JU (uz (h ρ)) fun σ H Q h_10=>?_;obtain ⟨H0,Hs0,la,Hs,f,q⟩:=h_10;refine Ab f q fun d v H1 Hs1 e1 s1 f1 r1=>?_;rw [hr] at e1;cases e1
 |ok d =>
  cases d with
  |list ds =>
   refine JU (uz (h ρ)) fun σ H Q h_11=>?_;obtain ⟨H0,Hs0,la,Hs,f,q⟩:=h_11;refine Ab f q fun d v H1 Hs1 e1 s1 f1 r1=>?_;rw [hr] at e1;cases e1;unfold jO at q;rw [hr,bind_ok] at q;cases r1 with
   |list qa ra=>exact ⟨_,rfl,⟨_,f1.st.sub.seq qa⟩,q _ H1 Hs1 s1 (C9 qa ra)⟩
  |tuple ds =>
   refine JU (Lr (h ρ)) fun σ H Q h_12=>?_;obtain ⟨H0,Hs0,la,Hs,f,q⟩:=h_12;refine Ab f q fun d v H1 Hs1 e1 s1 f1 r1=>?_;rw [hr] at e1;cases e1;unfold jO at q;rw [hr,bind_ok] at q;cases r1 with
   |tuple qa ra=>exact ⟨_,rfl,⟨_,(ko.of (f1.st.sub _ _ qa))⟩,q _ H1 Hs1 s1 (Mq (.of qa) ra)⟩
  |str x =>
   refine JU (M3 (h ρ)) fun σ H Q h_13=>?_;obtain ⟨H0,Hs0,la,Hs,f,q⟩:=h_13;refine Ab f q fun d v H1 Hs1 e1 s1 f1 r1=>?_;rw [hr] at e1;cases e1;unfold jO at q;rw [hr,bind_ok] at q;cases r1 with
   |str _=>exact ⟨x,rfl,q _ H1 Hs1 s1 (Mr x)⟩
  |none=>exact fun pins s σ H Q I h_14=>by obtain ⟨H0,Hs0,la,Hs,f,q⟩:=h_14;exact by unfold jO at q;rw [hr] at q;exact q.elim
  |bool _=>exact fun pins s σ H Q I h_15=>by obtain ⟨H0,Hs0,la,Hs,f,q⟩:=h_15;exact by unfold jO at q;rw [hr] at q;exact q.elim
  |int _=>exact fun pins s σ H Q I h_16=>by obtain ⟨H0,Hs0,la,Hs,f,q⟩:=h_16;exact by unfold jO at q;rw [hr] at q;exact q.elim
  |dict _=>exact fun pins s σ H Q I h_17=>by obtain ⟨H0,Hs0,la,Hs,f,q⟩:=h_17;exact by unfold jO at q;rw [hr] at q;exact q.elim
theorem Mt.i (h:Mt c tg l gs):JI c tg l gs:=.of fun ρ=>JU (h ρ) fun σ H Q ⟨H0,Hs0,la,Hs,f,q⟩=>⟨H0,Hs0,la,Hs,f,by
 cases hr:gs ρ with
 |ok ds=>rw [hr] at q;exact fun J H' Hs' s i=>q J H' Hs' Hs' s s.sub i
 |ex x n=>rw [hr] at q;exact q
 |no=>rw [hr] at q;exact q⟩
def Gv:List D->R (List D)
 |[.int j]=>if -(2 ^ 62)<=j/\j<2 ^ 62 then .ok (qC 0 j.toNat) else .no
 |_=>.no
def A_ (gs:az->R (List D)):az->R (List D):=fun ρ=>(gs ρ).bind Gv
theorem tG (hg:Gl c.X "range") (hm:c.X.mg "range"=none) (ha:PK c [a] gs) (hs:aJ [a] c.X.env=[(false,ed a c.X.env)]:=by rfl):Mt c tg (.Call (.Name "range" p) [a] [] pos) (A_ gs):=.of fun ρ=>JU (Jo hg hm (ha ρ) hs) fun σ H Q h_18=>by
 obtain ⟨H0,Hs0,la,Hs,f,q⟩:=h_18;refine HP f q fun ds vs H1 Hs1 e1 s1 f1 r1=>?_;unfold A_ at q;rw [e1,bind_ok] at q;unfold Gv at q;split at q
 ·rename_i j
  by_cases hj:-(2 ^ 62)<=j/\j<2 ^ 62
  ·rw [if_pos hj] at q;obtain ⟨x,rfl,rx⟩:=r1.one;exact ⟨j,by rw [rx.int],hj.1,hj.2,q _ H1 Hs1 s1 (Ms 0 _)⟩
  ·rw [if_neg hj] at q;exact q.elim
 ·exact q.elim
def Wi:List D->R (List D)
 |[.tuple ds]=>.ok (pY 0 ds)
 |_=>.no
def DX (gs:az->R (List D)):az->R (List D):=fun ρ=>(gs ρ).bind Wi
theorem RDs.one    (h:RDs K H xs [d]):∃ x,xs=[x]/\RD K H x d:=by
 cases h with|cons a t=>cases t;exact ⟨_,rfl,a⟩
theorem RDs.two {K:a8}{H:Hp}{xs:List V}{d e:D} (h:RDs K H xs [d,e]):∃ x y,xs=[x,y]/\RD K H x d/\RD K H y e:=by
 cases h with|cons a t=>cases t with|cons b t=>cases t;exact ⟨_,_,rfl,a,b⟩
theorem uU {x1} (hg:Gl c.X "enumerate") (hm:c.X.mg "enumerate"=none) (ha:HN c [a] gs) (hs:aJ [a] c.X.env=[(false,ed a c.X.env)]:=by rfl):Mt c (.Tuple elts x1 tpos) (.Call (.Name "enumerate" p) [a] [] pos) (DX gs):=.of fun ρ=>JU (PD hg hm (ha ρ) hs) fun σ H Q h_20=>by
 obtain ⟨H0,Hs0,la,Hs,f,q⟩:=h_20;refine Gp f q fun ds vs H1 Hs1 e1 s1 f1 r1=>?_;unfold DX at q;rw [e1,bind_ok] at q;unfold Wi at q;split at q
 ·obtain ⟨x,rfl,rx⟩:=r1.one;cases rx with
  |tuple qa ra=>exact ⟨_,_,rfl,(ko.of (f1.st.sub _ _ qa)),q _ H1 Hs1 s1 (PY (.of qa) ra)⟩
 ·exact q.elim
def zp:List D->R (List D)
 |[.tuple ds,.tuple es]=>.ok (xu ds es)
 |_=>.no
def PZ (gs:az->R (List D)):az->R (List D):=fun ρ=>(gs ρ).bind zp
theorem P_ {x1} (hg:Gl c.X "zip") (hm:c.X.mg "zip"=none) (ha:HN c [a,b] gs) (hs:aJ [a,b] c.X.env=[(false,ed a c.X.env),(false,ed b c.X.env)]:=by rfl) (hs2:aJ [b] c.X.env=[(false,ed b c.X.env)]:=by rfl) :
  Mt c (.Tuple elts x1 tpos) (.Call (.Name "zip" p) [a,b] [] pos) (PZ gs):=.of fun ρ=>JU (T4 hg hm (ha ρ) hs hs2) fun σ H Q h_21=>by
 obtain ⟨H0,Hs0,la,Hs,f,q⟩:=h_21;refine Gp f q fun ds vs H1 Hs1 e1 s1 f1 r1=>?_;unfold PZ at q;rw [e1,bind_ok] at q;unfold zp at q;split at q
 ·obtain ⟨x,y,rfl,rx,ry⟩:=r1.two;cases rx with
  |tuple qa ra =>
   cases ry with
   |tuple qb rb=>exact ⟨_,_,_,_,rfl,(ko.of (f1.st.sub _ _ qa)),(ko.of (f1.st.sub _ _ qb)),q _ H1 Hs1 s1 (Te (.of qa) ra (.of qb) rb)⟩
 ·exact q.elim
end
end
section
inductive XI (K:a8) (cls:Str->ak) (E:XK) (ρ:az) (r:R D) (σ:St) (H:Hp) (Q:VK):Prop
 |mk (H0 Hs0:Hp) (la:Nat->Option ak) (Hs:Hp) (f:Fr K H0 Hs0 la ρ σ H Hs) (q:Fin K cls E H Hs r fun d=>∀ a o H' Hs',cF H Hs H' Hs'->H' a=none->my K Hs' o d->Q (.ref a) (upd H' a o)):XI K cls E ρ r σ H Q
def TN (K:a8) (cls:Str->ak) (E:XK) (ρ:az) (r:R D):TE:=XI K cls E ρ r
structure JN (c:C) (e:bd) (g:az->R D):Prop where of ::
 run:∀ ρ,PE c.X e (TN c.X.K c.cls c.E ρ (g ρ))
instance {c:C}{e:bd}{g:az->R D}:CoeFun (JN c e g) (fun _=>∀ ρ,PE c.X e (TN c.X.K c.cls c.E ρ (g ρ))):=⟨JN.run⟩
section
variable {c:C}{e a b l tg:bd}{g ga gb:az->R D}{pos p:Pos}{gs:az->R (List D)}{es:List bd}{x:Str}
theorem X7        (q:TR K cls E ρ r σ H Q):TN K cls E ρ r σ H Q:=by
 obtain ⟨H0,Hs0,la,Hs,f,q⟩:=q;refine ⟨H0,Hs0,la,Hs,f,?_⟩;cases r with
 |ok d=>exact fun a o H' Hs' s n r=>q _ _ _ (s.trans (.new s.sub n)) (r.share (s.sub.free n))
 |ex x n=>exact q
 |no=>exact q
theorem JN.je (h:JN c e g):JE c e g:=.of fun ρ=>sF (h ρ) fun σ H Q q=>X7 q
theorem tH (h:HN c es gs):JN c (.List es pos) (eL gs .list):=.of fun ρ=>sF (t5 (h ρ)) fun σ H Q h_0=>by
 obtain ⟨H0,Hs0,la,Hs,f,q⟩:=h_0;refine Gp f q fun ds vs H1 Hs1 e1 s1 f1 r1=>?_;unfold eL at q;rw [e1,bind_ok] at q;by_cases hl:ds.length<=1000
 ·rw [if_pos hl] at q;exact ⟨cz (d_ (by rw [r1.length];exact hl)),fun p hp=>q p _ H1 Hs1 s1 hp (.lst r1)⟩
 ·rw [if_neg hl] at q;exact q.elim
theorem HW:JN c (.Dict [] [] pos) (fun _=>.ok (.dict [])):=.of fun ρ=>sF LK fun σ H Q h_1=>by obtain ⟨H0,Hs0,la,Hs,f,q⟩:=h_1;exact fun p hp=>q p _ H Hs (.refl f.st.sub) hp (.dK .nil)
def gj (i:Nat) (g:az->R D):az->R Fl:=fun ρ=>(g ρ).bind fun d=>.ok (.nx (ρ.set i (.own d)))
theorem sN            (f:Fr K H0 Hs0 la ρ σ H Hs)
  (h:nW K cls E H0 Hs0 la D' (r.bind k)) (m:∀ d a o H' Hs',r=.ok d->Fr K H0 Hs0 la ρ σ H' Hs'->H' a=none->my K Hs' o d->Q (.ref a) (upd H' a o)):TN K cls E ρ r σ H Q:=by
 refine ⟨H0,Hs0,la,Hs,f,?_⟩;cases r with
 |ok d=>exact fun a o H' Hs' s n r=>m d a o H' Hs' rfl (f.step s) n r
 |ex c n=>exact fun H' Hs' s=>h H' Hs' (f.st.trans s)
 |no=>exact h
theorem jp (i:Nat) (h:JN c e g) (hN:c.X.N.Nodup) (hi:c.X.N[i]?=some x:=by rfl) (hx:QX c.X.env.scope x:=by first|exact iI rfl|exact fB rfl) (hs:gX e (some (.Name x pos')) pos.line c.X.env=pure false:=by rfl)
  (hf:c.X.fn x=true\/c.X.env.scope.names.lookup x=some .local:=by first|exact .inl rfl|exact .inr rfl|assumption):JS c (.Assign [.Name x pos'] e pos) (gj i g):=.of fun ρ=>Aa (G1 hN hi hx (h ρ) hs hf) fun D σ H h_2=>by
 obtain ⟨H0,Hs0,la,Hs,f,q⟩:=h_2;refine sN f q fun d a o H1 Hs1 e1 f1 n1 r1=>?_;unfold gj at q;rw [e1,bind_ok] at q;exact q _ _ Hs1 (f1.setO i n1 r1)
def JV {α:Type}:R α->R α
 |.ex _ _=>.no
 |r=>r
theorem HX {α:Type}{r:R α}{a:α} (h:JV r=.ok a):r=.ok a:=by
 cases r<;>first|exact h|cases h
def gQ (f:D->R (Option D)):List D->R (List D)
 |[]=>.ok []
 |d::r=>(f d).bind fun o=>(gQ f r).bind fun ys=>.ok (match o with
  |some y=>y::ys
  |none=>ys)
theorem yC   (h:gQ f (d::r)=.ok ys):∃ o zs,f d=.ok o/\gQ f r=.ok zs/\ys=o.toList++zs:=by
 unfold gQ at h;cases hf:f d with
 |ok o =>
  rw [hf,bind_ok] at h;cases hm:gQ f r with
  |ok zs =>
   rw [hm,bind_ok] at h;cases h;cases o<;>exact ⟨_,zs,rfl,rfl,rfl⟩
  |ex x n=>rw [hm] at h;cases h
  |no=>rw [hm] at h;cases h
 |ex x n=>rw [hf] at h;cases h
 |no=>rw [hf] at h;cases h
def Q0:Sl->Sl
 |.own d=>.lck d
 |.ow2 _=>.no
 |s=>s
def jP (nt:Nat) (ix:List Nat) (ρ:az):az:=sv nt Sl.no++ix.map fun i=>Q0 ((ρ[i]?).getD .no)
def Va (nt:Nat):D->az->R az:=match nt with
 | 1=>bN 0
 | 2=>li 2 (cw (bN 0) (cw (bN 1) mz))
 |_=>fun _ _=>.no
def iQ (nt:Nat) (ρ:az) (gt:az->R Bool) (ge:az->R D):D->R (Option D):=fun d=>JV ((Va nt d ρ).bind fun ρ'=>(gt ρ').bind fun b=>if b then (ge ρ').bind fun y=>.ok (some y) else .ok none)
def eN (nt:Nat) (ix:List Nat) (gi:az->R (List D)) (gt:az->R Bool) (ge:az->R D):az->R D:=fun ρ=>(gi ρ).bind fun ds=>if ds.length<=1000 then (gQ (iQ nt (jP nt ix ρ) gt ge) ds).bind fun ys=>.ok (.list ys) else .no
structure Vb (c:C) (ifs:List bd) (g:az->R Bool):Prop where of ::
 run:∀ ρ,Pt c.X ifs (JM c.X.K c.cls c.E ρ (g ρ))
instance {c:C}{ifs:List bd}{g:az->R Bool}:CoeFun (Vb c ifs g) (fun _=>∀ ρ,Pt c.X ifs (JM c.X.K c.cls c.E ρ (g ρ))):=⟨Vb.run⟩
theorem fE:Vb c [] (fun _=>.ok true):=.of fun ρ pins s σ H Q I h_3=>by obtain ⟨H0,Hs0,la,Hs,f,q⟩:=h_3;exact Pu pins s σ H Q I (q H Hs (.refl f.st.sub))
theorem jq (h:JT c e gt):Vb c [e] gt:=.of fun ρ=>Pw (h ρ)
def JX (K:a8) (nt:Nat):TG:=match nt with
 | 1=>wJ 0
 |_=>Sv K 2 (L2.ac (wJ 0) (L2.ac (wJ 1) L2.aG))
theorem Ca {K:a8}{nt:Nat} (h:nt=1\/nt=2):S_ nt (JX K nt):=by
 rcases h with rfl|rfl
 ·exact LO (by decide)
 ·exact Py (by decide) (by decide)
theorem DY {K:a8}{nt:Nat}{H0 Hs0 H Hs:Hp}{la:Nat->Option ak}{ρ ρ':az}{σ:St}{v:V}{d:D}{Q:St->Hp->Prop} (hnt:nt=1\/nt=2) (f:Fr K H0 Hs0 la ρ σ H Hs) (r:RD K Hs v d) (hb:Va nt d ρ=.ok ρ')
  (q:∀ σ',Fr K H0 Hs0 la ρ' σ' H Hs->Q σ' H):JX K nt v σ H Q:=by
 rcases hnt with rfl|rfl
 ·cases hb;exact q _ (f.set 0 r)
 ·unfold Va li at hb;simp only at hb;cases r with
  | @tuple p xs ds hq rs =>
   simp only at hb;split at hb
   ·rename_i hl
    cases rs with
    |nil=>cases hl
    |cons r1 rs =>
     cases rs with
     |nil=>cases hl
     |cons r2 rs =>
      cases rs with
      |nil =>
       cases hb;exact ⟨p,_,rfl,(ko.of (f.st.sub _ _ hq)),rfl,_,_,rfl,_,_,rfl,rfl,q _ ((f.set 0 r1).set 1 r2)⟩
      |cons _ _=>simp at hl
   ·cases hb
  |none=>cases hb
  |bool _=>cases hb
  |int _=>cases hb
  |str _=>cases hb
  |list _ _=>cases hb
  |dictK _ _=>cases hb
  |dictT _ _ _=>cases hb
  |dictF _ _ _=>cases hb
theorem Fr.block     (f:Fr K H0 Hs0 la ρ σ H Hs) (nt:Nat) (ix:List Nat):∃ la',Fr K H Hs la' (jP nt ix ρ) (L2.kW nt ix σ) H Hs:=by
 have lk:∀ (j:Nat) (d:D),(jP nt ix ρ)[j]?=some (Sl.lck d)->∃ a o,(L2.kW nt ix σ)[j]?=some (some (V.ref a))/\H a=some o/\Hs a=none/\my K Hs o d:=fun j d h=>by
  unfold jP at h;by_cases hj:j<nt
  ·rw [bj (by simpa using hj),cB,if_pos hj] at h;cases h
  ·have hj:nt<=j:=by omega
   rw [bc (by simpa using hj),cU,aW] at h;cases hi:ix[j-nt]? with
   |none=>rw [hi] at h;cases h
   |some i =>
    rw [hi] at h;have at_:∀ v,σ[i]?=some (some v)->(L2.kW nt ix σ)[j]?=some (some v):=fun v k1=>by
     unfold L2.kW;rw [bc (by simpa using hj),cU,aW,hi];simp [k1]
    cases hr:ρ[i]? with
    |none=>simp only [cZ,hr,gx,Q0] at h;cases h
    |some s =>
     simp only [cZ,hr,j_] at h;cases s with
     |own d' =>
      cases h;obtain ⟨a,o,k1,k2,k3,k4,k5⟩:=f.ow i d hr;exact ⟨a,o,at_ _ k1,k2,k3,k5⟩
     |lck d' =>
      cases h;obtain ⟨a,o,k1,k2,k3,k4,k5,k6⟩:=f.lk i d hr;exact ⟨a,o,at_ _ k1,k3,k4,k6⟩
     |no=>cases h
     |shr _=>cases h
     |ow2 _=>cases h
 have no2:∀ (j:Nat) (d:List (List D)),¬ (jP nt ix ρ)[j]?=some (Sl.ow2 d):=fun j d h=>by
  unfold jP at h;by_cases hj:j<nt
  ·rw [bj (by simpa using hj),cB,if_pos hj] at h;cases h
  ·have hj:nt<=j:=by omega
   rw [bc (by simpa using hj),cU,aW] at h;cases hi:ix[j-nt]? with
   |none=>rw [hi] at h;cases h
   |some i =>
    rw [hi] at h;cases hr:ρ[i]? with
    |none=>simp only [cZ,hr,gx,Q0] at h;cases h
    |some s =>
     simp only [cZ,hr,j_] at h;cases s<;>cases h
 refine ⟨fun j=>match (jP nt ix ρ)[j]?,(L2.kW nt ix σ)[j]? with
  |some (Sl.lck _),some (some (V.ref a))=>some a
  |_,_=>none,.refl f.st.sub,by simp [jP,L2.kW],fun j d h=>?_,fun j d h=>?_,fun j d h=>?_,fun j k d1 d2 a h1 h2 _ _=>?_,fun j a h=>?_,fun j d h=>(no2 j d h).elim,fun j k d1 d2 h1 _=>(no2 j d1 h1).elim⟩
 case refine_3 =>
  obtain ⟨a,o,k1,k2,k3,k4⟩:=lk j d h;exact ⟨a,o,k1,by rw [h,k1],k2,k3,k2,k4⟩
 case refine_5 =>
  split at h
  ·rename_i d a' h1 h2
   cases h;obtain ⟨a',o,k1,k2,_⟩:=lk j d h1;rw [h2] at k1;cases k1;exact ⟨o,k2⟩
  ·cases h
 all_goals
  unfold jP at *
 ·have h:=h;by_cases hj:j<nt
  ·rw [bj (by simpa using hj),cB,if_pos hj] at h;cases h
  ·have hj:nt<=j:=by omega
   rw [bc (by simpa using hj),cU,aW] at h;cases hi:ix[j-nt]? with
   |none=>rw [hi] at h;cases h
   |some i =>
    rw [hi] at h;cases hr:ρ[i]? with
    |none=>simp only [cZ,hr,gx,Q0] at h;cases h
    |some s =>
     simp only [cZ,hr,j_] at h;cases s with
     |shr d' =>
      cases h;obtain ⟨v,k1,k2⟩:=f.sh i d hr;refine ⟨v,?_,k2⟩;unfold L2.kW;rw [bc (by simpa using hj),cU,aW,hi];simp [k1]
     |no=>cases h
     |own _=>cases h
     |lck _=>cases h
     |ow2 _=>cases h
 ·have h:=h;by_cases hj:j<nt
  ·rw [bj (by simpa using hj),cB,if_pos hj] at h;cases h
  ·have hj:nt<=j:=by omega
   rw [bc (by simpa using hj),cU,aW] at h;cases hi:ix[j-nt]? with
   |none=>rw [hi] at h;cases h
   |some i =>
    rw [hi] at h;cases hr:ρ[i]? with
    |none=>simp only [cZ,hr,gx,Q0] at h;cases h
    |some s =>
     simp only [cZ,hr,j_] at h;cases s<;>cases h
 ·have h1:=h1;by_cases hj:j<nt
  ·rw [bj (by simpa using hj),cB,if_pos hj] at h1;cases h1
  ·have hj:nt<=j:=by omega
   rw [bc (by simpa using hj),cU,aW] at h1;cases hi:ix[j-nt]? with
   |none=>rw [hi] at h1;cases h1
   |some i =>
    rw [hi] at h1;cases hr:ρ[i]? with
    |none=>simp only [cZ,hr,gx,Q0] at h1;cases h1
    |some s =>
     simp only [cZ,hr,j_] at h1;cases s<;>cases h1
theorem yD (h:∀ d c n,f d≠.ex c n):∀ (ds:List D) (c:Str) (n:Option D),gQ f ds≠.ex c n
 |[],c,n=>fun e=>by cases e
 |d::r,c,n=>fun e=>by
  unfold gQ at e;cases hf:f d with
  |ok o =>
   rw [hf,bind_ok] at e;cases hm:gQ f r with
   |ok zs=>rw [hm,bind_ok] at e;cases e
   |ex x k=>exact yD h r x k hm
   |no=>rw [hm] at e;cases e
  |ex x k=>exact h d x k hf
  |no=>rw [hf] at e;cases e
theorem DZ (nt:Nat) (ρ:az) (gt:az->R Bool) (ge:az->R D) (d:D) (c:Str) (n:Option D):iQ nt ρ gt ge d≠.ex c n:=by
 unfold iQ JV;split<;>first|exact fun e=>by cases e|skip
 rename_i h
 exact fun e=>h c n e
inductive XJ (K:a8) (f:D->R (Option D)) (ds ys:List D) (H1 Hs1:Hp) (i m:Nat) (acc:List V) (H':Hp):Prop
 |mk (done bT zs ya Hs':_) (h0:ds=done++bT) (h1:done.length=i) (h2:bT.length=m) (h3:cF H1 Hs1 H' Hs') (h4:RDs K Hs' acc ya) (h5:ya.length<=i) (h6:gQ f bT=.ok zs) (h7:ys=ya++zs):XJ K f ds ys H1 Hs1 i m acc H'
theorem HY {K:a8}{cls:Str->ak}{E:XK}{nt:Nat}{ix:List Nat}{gi:az->R (List D)}{gt:az->R Bool}{ge:az->R D}{ρ:az}{σ:St}{H:Hp}{Q:VK} (hnt:nt=1\/nt=2)
  (q:TN K cls E ρ (eN nt ix gi gt ge ρ) σ H Q) :
  LL nt ix (Wh K cls E ρ (gi ρ)) (JX K nt) (fun σ H Q=>∃ ρ',JM K cls E0 ρ' (gt ρ') σ H Q) (fun σ H Q=>∃ ρ',TR K cls E0 ρ' (ge ρ') σ H Q) σ H Q:=by
 obtain ⟨H0,Hs0,la,Hs,f,q⟩:=q;refine ⟨H0,Hs0,la,Hs,f,?_⟩;unfold eN at q;cases hi:gi ρ with
 |no=>rw [hi] at q;exact q
 |ex x n=>rw [hi] at q;exact q
 |ok ds =>
  rw [hi,bind_ok] at q;intro J H1 Hs1 Hn s1 sn it;by_cases hl:ds.length<=1000
  ·rw [if_pos hl] at q;cases hm:gQ (iQ nt (jP nt ix ρ) gt ge) ds with
   |no=>rw [hm] at q;exact q.elim
   |ex x n=>exact (yD (DZ _ _ _ _) _ _ _ hm).elim
   |ok ys =>
    rw [hm,bind_ok] at q;obtain ⟨lb,fb⟩:=(f.step s1).block nt ix;refine ⟨XJ K (iQ nt (jP nt ix ρ) gt ge) ds ys H1 Hs1,
     ⟨ds.length,[],ds,ys,[],Hs1,rfl,rfl,rfl,.refl s1.sub,.nil,cV _,hm,rfl⟩,?_⟩
    rintro i m acc H' ⟨done,bT,zs,ya,Hs',hds,hdl,hrl,st,ra,yl,hz,hy⟩;obtain ⟨igo,istop,iyld⟩:=it H' Hs' (sn.trans st.all) st.sh st.sub;cases bT with
    |nil =>
     left;cases hz;rw [cA] at hds hy;subst hy hds;exact ⟨istop i (by omega),fun p hp=>q p _ H' Hs' (s1.trans st) hp (.lst ra)⟩
    |cons d bT =>
     right;have hil:i<ds.length:=by rw [hds,aN,aT];omega
     refine ⟨igo i hil,d_ (by rw [ra.length];omega),fun x H2 hyl=>?_⟩;obtain ⟨d',Hs2,hd,s2,r2⟩:=iyld i x H2 hil hyl;have hdd:d'=d:=by
      rw [hds,bc (by omega)] at hd;simp [hdl] at hd;exact hd.symm
     subst hdd;obtain ⟨o,zs',hf,hz',rfl⟩:=yC hz;have hf:=HX hf;cases hb:Va nt d' (jP nt ix ρ) with
     |no=>rw [hb] at hf;cases hf
     |ex x n=>rw [hb] at hf;cases hf
     |ok ρ' =>
      rw [hb,bind_ok] at hf;refine DY hnt ((fb.step st).step s2) r2 hb fun σ2 f2=>⟨ρ',?_⟩;refine ⟨_,_,_,Hs2,f2,?_⟩;cases ht:gt ρ' with
      |no=>rw [ht] at hf;cases hf
      |ex x n=>rw [ht] at hf;cases hf
      |ok b =>
       rw [ht,bind_ok] at hf;intro H3 Hs3 s3;cases b with
       |false =>
        rw [if_neg bh] at hf;cases hf;refine Dv ⟨bT.length,by rw [<- hrl];simp,done++[d'],bT,zs',ya,Hs3,by rw [hds];simp,by simp [hdl],rfl,(st.trans s2).trans s3,ra.same (s2.trans s3).sh,by omega,hz',by simpa using hy⟩
       |true =>
        rw [if_pos rfl] at hf;refine Dw ⟨ρ',_,_,_,Hs3,f2.step s3,?_⟩;cases he:ge ρ' with
        |no=>rw [he] at hf;cases hf
        |ex x n=>rw [he] at hf;cases hf
        |ok y =>
         rw [he,bind_ok] at hf;cases hf;intro v H4 Hs4 s4 r4;exact ⟨bT.length,by rw [<- hrl];simp,done++[d'],bT,zs',ya++[y],Hs4,by rw [hds];simp,by simp [hdl],rfl,((st.trans s2).trans s3).trans s4,(ra.same ((s2.trans s3).trans s4).sh).append (.cons r4 .nil),by simp;omega,hz',by rw [hy];simp⟩
  ·rw [if_neg hl] at q;exact q.elim
def C.comp (c:C) (N':List Str) (scope:dz) (cl:List (Str×ak)) (A:ak) (s₀:ai) (H₀:Hp) (ex:List ak) (pn:List (ak×Obj)):C:=⟨dS c.X N' scope cl A s₀ H₀ ex pn,c.cls,E0⟩
variable {elt iter:bd}{ifs:List bd}{scope:dz}{N':List Str}{nt:Nat}{ix:List Nat}{gi:az->R (List D)}{gt:az->R Bool}{ge:az->R D}
def uV (c:C) (N':List Str) (scope:dz) (nt:Nat) (tg:bd) (ifs:List bd) (elt:bd) (gt:az->R Bool) (ge:az->R D):Prop :=
 ∀ cl A s₀ H₀ ex pn,PG (c.comp N' scope cl A s₀ H₀ ex pn).X tg (JX c.X.K nt)/\Vb (c.comp N' scope cl A s₀ H₀ ex pn) ifs gt/\JE (c.comp N' scope cl A s₀ H₀ ex pn) elt ge
theorem uV.at (h:uV c N' scope nt tg ifs elt gt ge):∀ cl A s₀ H₀ ex pn,PG (dS c.X N' scope cl A s₀ H₀ ex pn) tg (JX c.X.K nt)/\Pt (dS c.X N' scope cl A s₀ H₀ ex pn) ifs (fun σ H Q=>∃ ρ',JM c.X.K c.cls E0 ρ' (gt ρ') σ H Q) /\
  PE (dS c.X N' scope cl A s₀ H₀ ex pn) elt (fun σ H Q=>∃ ρ',TR c.X.K c.cls E0 ρ' (ge ρ') σ H Q):=fun cl A s₀ H₀ ex pn=>by
 obtain ⟨h1,h2,h3⟩:=h cl A s₀ H₀ ex pn;exact ⟨h1,fun pins s σ H Q I h_4=>by obtain ⟨ρ',q⟩:=h_4;exact h2 ρ' pins s σ H Q I q,fun pins s σ H Q I h_5=>by obtain ⟨ρ',q⟩:=h_5;exact h3 ρ' pins s σ H Q I q⟩
theorem eD (nt:Nat) (hnt:nt=1\/nt=2) (hc:c.X.calm=true) (S:oF c.X scope N' nt ix) (hi:JI c tg iter gi) (hb:uV c N' scope nt tg ifs elt gt ge) (hs:∀ x,el iter c.X.env x=pure x:=by intro _;rfl) :
  JN c (.ListComp elt [⟨tg,iter,ifs,0⟩] scope pos) (eN nt ix gi gt ge):=.of fun ρ=>sF (DD hc S (Ca hnt) (hi ρ) hb.at hs) fun σ H Q q=>HY hnt q
theorem jQ (i:Nat) {spos py:Pos} (nt:Nat) (hnt:nt=1\/nt=2) (hN:c.X.N.Nodup) (hc:c.X.calm=true) (S:oF c.X scope N' nt ix) (hi:JI c tg iter gi) (hb:uV c N' scope nt tg ifs elt gt ge)
  (hiN:c.X.N[i]?=some x:=by rfl) (hy:c.X.env.scope.names.lookup x=some .local:=by rfl)
  (hsw:gX (.ListComp elt [⟨tg,iter,ifs,0⟩] scope pos) (some (.Name x py)) spos.line c.X.env=pure true:=by rfl)
  (hs:∀ x,el iter c.X.env x=pure x:=by intro _;rfl):JS c (.Assign [.Name x py] (.ListComp elt [⟨tg,iter,ifs,0⟩] scope pos) spos) (gj i (eN nt ix gi gt ge)):=.of fun ρ=>Aa (Gg hN hiN hy hc S (Ca hnt) (hi ρ) hb.at hsw hs) fun D σ H h_6=>by
 obtain ⟨H0,Hs0,la,Hs,f,q⟩:=h_6;refine HY (Q:=fun x H1=>D.nx (σ.set i (some x)) H1) hnt (sN f q fun d a o H1 Hs1 e1 f1 n1 r1=>?_);unfold gj at q;rw [e1,bind_ok] at q;exact q _ _ Hs1 (f1.setO i n1 r1)
end
end
section
theorem Mu   (h:PS X.nox st t):PS X st t:=fun pins s σ H D I hw =>
 ck (h pins s σ H D (I.wish _) hw) (fun _ _ q=>q.unwish) fun _ _ z=>iu z
def C.nox (c:C):C:=⟨c.X.nox,c.cls,E0⟩
def j4 (k:D->az->R az) (b:az->R Fl):List D->az->R Fl
 |[],ρ=>.ok (.nx ρ)
 |d::r,ρ=>match k d ρ with
  |.ok ρ1=>match b ρ1 with
   |.ok (.nx ρ')=>j4 k b r ρ'
   |.ok (.ct ρ')=>j4 k b r ρ'
   |.ok (.bk ρ')=>.ok (.nx ρ')
   |.ok (.rt d)=>.ok (.rt d)
   |_=>.no
  |_=>.no
def Cb (i:Nat) (ρ:az):az:=match ρ[i]? with
 |some (Sl.own d)=>ρ.set i (.lck d)
 |_=>ρ
def yE (i:Nat) (ρ0 ρ:az):az:=match ρ0[i]?,ρ[i]? with
 |some (Sl.own _),some (Sl.lck d)=>ρ.set i (.own d)
 |_,_=>ρ
def XM (i:Nat) (ρ0:az):R Fl->R Fl
 |.ok (.nx ρ)=>.ok (.nx (yE i ρ0 ρ))
 |.ok (.bk ρ)=>.no
 |.ok (.ct ρ)=>.no
 |r=>r
section
inductive XN (K:a8) (cls:Str->ak) (E:XK) (H0 Hs0:Hp) (la:Nat->Option ak) (D':BL) (kt:D->az->R az) (gb:az->R Fl) (ds:List D) (i m:Nat) (σ:St) (H:Hp):Prop
 |mk (done bT ρ Hs:_) (h0:ds=done++bT) (h1:done.length=i) (h2:bT.length=m) (h3:Fr K H0 Hs0 la ρ σ H Hs) (h4:nW K cls E H0 Hs0 la D' (j4 kt gb bT ρ)):XN K cls E H0 Hs0 la D' kt gb ds i m σ H
theorem Mv
  (it:OB K J ds Hn Hs0) (hn:c_ Hn H0) (f:Fr K H0 Hs0 la ρ σ H Hs)
  (htg:∀ ρ d v σ H Q,Td K ρ d (kt d ρ) v σ H Q->tg v σ H Q) (htb:∀ ρ D σ H,SR K cls E0 ρ (gb ρ) D σ H->tb D σ H)
  (q:nW K cls E H0 Hs0 la D' (j4 kt gb ds ρ)) :
  WD tg tb D' σ J H:=by
 refine ⟨XN K cls E H0 Hs0 la D' kt gb ds,⟨ds.length,[],ds,ρ,Hs,rfl,rfl,rfl,f,q⟩,?_⟩;rintro i m σ H ⟨done,bT,ρ,Hs,hds,hdl,hrl,f,q⟩;obtain ⟨igo,istop,iyld⟩:=it H Hs (hn.trans f.st.all) f.st.sh f.st.sub;cases bT with
 |nil =>
  rw [cA] at hds;subst hds;exact .inl ⟨istop i (by omega),q σ H Hs f⟩
 |cons d bT =>
  have hil:i<ds.length:=by rw [hds,aN,aT];omega
  refine .inr ⟨igo i hil,fun σ' H'=>∃ ρ' Hs',Fr K H0 Hs0 la ρ' σ' H' Hs'/\nW K cls E H0 Hs0 la D' (j4 kt gb bT ρ'),fun σ' H' ⟨ρ',Hs',f',q'⟩=>⟨bT.length,by rw [<- hrl];simp,done++[d],bT,ρ',Hs',by rw [hds];simp,by simp [hdl],rfl,f',q'⟩,fun x H2 hyl=>?_⟩;obtain ⟨d',Hs2,hd,s2,r2⟩:=iyld i x H2 hil hyl;have hdd:d'=d:=by
   rw [hds,bc (by omega)] at hd;simp [hdl] at hd;exact hd.symm
  subst hdd;unfold j4 at q;refine htg ρ d' x σ H2 _ ⟨H0,Hs0,la,Hs2,f.step s2,r2,?_⟩;cases hk:kt d' ρ with
  |ex c n=>rw [hk] at q;exact q
  |no=>rw [hk] at q;exact q
  |ok ρ1 =>
   rw [hk] at q;intro σ2 f2;refine htb ρ1 _ σ2 H2 ⟨H0,Hs0,la,Hs2,f2,?_⟩;cases hg:gb ρ1 with
   |no=>simp only [hg] at q;exact q.elim
   |ex c n=>simp only [hg] at q;exact q.elim
   |ok fl =>
    simp only [hg] at q;cases fl with
    |nx ρ'=>exact fun σ' H' Hs' f'=>⟨ρ',Hs',f',q⟩
    |ct ρ'=>exact fun σ' H' Hs' f'=>⟨ρ',Hs',f',q⟩
    |bk ρ'=>exact fun σ' H' Hs' f'=>q σ' H' Hs' f'
    |rt d=>exact q
def sj (A B:Hp):Hp:=fun b=>match A b with
 |some o=>some o
 |none=>B b
theorem jr:c_ A (sj A B):=fun b o e=>by unfold sj;rw [e]
theorem j8  (h:A b=none):sj A B b=B b:=by unfold sj;rw [h]
theorem D_ (h1:c_ A H) (h2:c_ B H):c_ (sj A B) H:=fun b o e=>by
 cases h:A b with
 |some u=>unfold sj at e;rw [h] at e;cases e;exact h1 b o h
 |none=>rw [j8 h] at e;exact h2 b o e
theorem Mw (h1:c_ A H) (h2:c_ B H):c_ B (sj A B):=fun b o e=>by
 cases h:A b with
 |some u =>
  unfold sj;rw [h];have:=h1 b u h;rw [h2 b o e] at this;exact this.symm
 |none=>rw [j8 h];exact e
theorem Fr.into    (f:Fr K H0 Hs0 la ρ σ H Hs):Fr K (sj H0 Hs) Hs la ρ σ H Hs:=by
 have sub:=D_ f.st.all f.st.sub;refine ⟨⟨sub,.refl _,f.st.sub,fun a o e _ z=>z⟩,f.len,f.sh,fun i d h=>?_,fun i d h=>?_,f.dj,fun i a e=>let ⟨o,k⟩:=f.lh i a e;⟨o,jr _ _ k⟩,fun i d h=>?_,f.u2⟩
 ·obtain ⟨a,o,h1,h2,h3,h4,h5⟩:=f.ow i d h;exact ⟨a,o,h1,h2,h3,by rw [j8 h4];exact h3,h5⟩
 ·obtain ⟨a,o,h1,h2,h3,h4,h5,h6⟩:=f.lk i d h;exact ⟨a,o,h1,h2,h3,h4,jr _ _ h5,h6⟩
 ·obtain ⟨a,as,O⟩:=f.o2 i d h;exact ⟨a,as,O.at_,O.ob,O.nd,fun b hb=>⟨(O.out b hb).1,by rw [j8 (O.out b hb).2];exact (O.out b hb).1⟩,O.dj,O.inn⟩
theorem cF.outof (s:cF H0 Hs0 H1 Hs1) (t:cF (sj H0 Hs1) Hs1 H' Hs'):cF H0 Hs0 H' Hs' :=
 ⟨jr.trans t.all,s.sh.trans t.sh,t.sub,fun a o e n z=>t.out a o (jr _ _ e) n (s.out a o e n z)⟩
theorem Fr.outof    (f1:Fr K H0 Hs0 la ρ1 σ1 H1 Hs1) (f:Fr K (sj H0 Hs1) Hs1 la ρ σ H' Hs'):Fr K H0 Hs0 la ρ σ H' Hs':=by
 refine ⟨f1.st.outof f.st,f.len,f.sh,fun i d h=>?_,fun i d h=>?_,f.dj,f1.lh,fun i d h=>?_,f.u2⟩
 ·obtain ⟨a,o,h1,h2,h3,h4,h5⟩:=f.ow i d h;exact ⟨a,o,h1,h2,h3,jr.free h4,h5⟩
 ·obtain ⟨a,o,h1,h2,h3,h4,h5,h6⟩:=f.lk i d h;obtain ⟨o',e⟩:=f1.lh i a h2;have e':=jr (B:=Hs1) _ _ e;rw [h5] at e';cases e';exact ⟨a,o,h1,h2,h3,h4,e,h6⟩
 ·obtain ⟨a,as,O⟩:=f.o2 i d h;exact ⟨a,as,O.at_,O.ob,O.nd,fun b hb=>⟨(O.out b hb).1,jr.free (O.out b hb).2⟩,O.dj,O.inn⟩
end
end
section
section
theorem nW.into      (f1:Fr K H0 Hs0 la ρ1 σ1 H1 Hs1) (q:nW K cls E H0 Hs0 la D' r):nW K cls E (sj H0 Hs1) Hs1 la D' r:=by
 cases r with
 |no=>exact q
 |ex c n=>exact fun H' Hs' s=>q H' Hs' (f1.st.outof s)
 |ok fl =>
  cases fl with
  |nx ρ=>exact fun σ' H' Hs' f=>q σ' H' Hs' (f1.outof f)
  |bk ρ=>exact fun σ' H' Hs' f=>q σ' H' Hs' (f1.outof f)
  |ct ρ=>exact fun σ' H' Hs' f=>q σ' H' Hs' (f1.outof f)
  |rt d=>exact fun v H' Hs' s r=>q v H' Hs' (f1.st.outof s) r
theorem Fr.lock    (f:Fr K H0 Hs0 la ρ σ H Hs)    (hi:ρ[i]?=some (Sl.own d)) (k1:σ[i]?=some (some (V.ref a))) (k2:H a=some o) (k3:Hs a=none) (k4:H0 a=none) (k5:my K Hs o d) :
  Fr K (sj H0 (upd Hs a o)) Hs (fun j=>if j=i then some a else la j) (ρ.set i (.lck d)) σ H Hs:=by
 have hil:i<ρ.length:=(List.getElem?_eq_some_iff.mp hi).1;have sub:c_ (upd Hs a o) H:=fun b u q=>by
  by_cases hb:b=a
  ·subst hb;rw [ba] at q;cases q;exact k2
  ·rw [a_ hb] at q;exact f.st.sub b u q
 have nx:∀ {j:Nat}{s:Sl},(∀ d,s≠.lck d)->(ρ.set i (.lck d))[j]?=some s->ρ[j]?=some s/\i≠j:=fun {j s} hs e=>by
  by_cases hj:i=j
  ·subst hj;rw [aK hil] at e;exact absurd (bu e).symm (hs d)
  ·rw [am hj] at e;exact ⟨e,hj⟩
 refine ⟨⟨D_ f.st.all sub,.refl _,f.st.sub,fun a o e _ z=>z⟩,by simp [f.len],fun j e h=>?_,fun j e h=>?_,fun j e h=>?_,fun j k d1 d2 b h1 h2 h3 h4=>?_,fun j b h=>?_,fun j e h=>?_,fun j k d1 d2 h1 h2=>?_⟩
 ·obtain ⟨h,_⟩:=nx (fun _ z=>by cases z) h;exact f.sh j e h
 ·obtain ⟨h,hj⟩:=nx (fun _ z=>by cases z) h;obtain ⟨b,u,q1,q2,q3,q4,q5⟩:=f.ow j e h;refine ⟨b,u,q1,q2,q3,?_,q5⟩;rw [j8 q4,a_ (fun z=>hj ?_)]
  ·exact q3
  ·subst z;exact f.dj i j d e b hi h k1 q1
 ·by_cases hj:i=j
  ·subst hj;rw [aK hil] at h;cases h;exact ⟨a,o,k1,if_pos rfl,k2,k3,by rw [j8 k4,ba],k5⟩
  ·rw [am hj] at h;obtain ⟨b,u,q1,q2,q3,q4,q5,q6⟩:=f.lk j e h;exact ⟨b,u,q1,by rw [if_neg (c9 hj)];exact q2,q3,q4,jr _ _ q5,q6⟩
 ·obtain ⟨h1,_⟩:=nx (fun _ z=>by cases z) h1;obtain ⟨h2,_⟩:=nx (fun _ z=>by cases z) h2;exact f.dj j k d1 d2 b h1 h2 h3 h4
 ·by_cases hj:j=i
  ·simp only [if_pos hj] at h;cases h;exact ⟨o,by rw [j8 k4,ba]⟩
  ·simp only [if_neg hj] at h;obtain ⟨u,e⟩:=f.lh j b h;exact ⟨u,jr _ _ e⟩
 ·obtain ⟨h,hj⟩:=nx (fun _ z=>by cases z) h;obtain ⟨b,as,O⟩:=f.o2 j e h;refine ⟨b,as,O.at_,O.ob,O.nd,fun c hc=>⟨(O.out c hc).1,?_⟩,fun c hc k e' hk=>O.dj c hc k e' (nx (fun _ z=>by cases z) hk).1,O.inn⟩;rw [j8 (O.out c hc).2,a_ (fun z=>?_)]
  ·exact (O.out c hc).1
  ·subst z;exact O.dj c hc i d hi k1
 ·exact f.u2 j k d1 d2 (nx (fun _ z=>by cases z) h1).1 (nx (fun _ z=>by cases z) h2).1
theorem cF.unlock   (s:cF H0 Hs0 H Hs) (t:cF (sj H0 (upd Hs a o)) Hs H' Hs'):cF H0 Hs0 H' Hs' :=
 ⟨jr.trans t.all,s.sh.trans t.sh,t.sub,fun b u e n z=>t.out b u (jr _ _ e) n (s.out b u e n z)⟩
theorem Fr.unlock    (f:Fr K H0 Hs0 la ρ σ H Hs)    (hi:ρ[i]?=some (Sl.own d)) (k4:H0 a=none)
  (f':Fr K (sj H0 (upd Hs a o)) Hs (fun j=>if j=i then some a else la j) ρ' σ' H' Hs'):Fr K H0 Hs0 la (yE i ρ ρ') σ' H' Hs':=by
 have st:=f.st.unlock f'.st;have own:∀ (j:Nat) (e:D),ρ'[j]?=some (Sl.own e)->∃ b u,σ'[j]?=some (some (V.ref b))/\H' b=some u/\Hs' b=none/\H0 b=none/\my K Hs' u e/\(sj H0 (upd Hs a o)) b=none:=fun j e h=>by
  obtain ⟨b,u,q1,q2,q3,q4,q5⟩:=f'.ow j e h;exact ⟨b,u,q1,q2,q3,jr.free q4,q5,q4⟩
 have lck:∀ (j:Nat) (e:D),j≠i->ρ'[j]?=some (Sl.lck e)->∃ b u,σ'[j]?=some (some (V.ref b))/\la j=some b/\H' b=some u/\Hs' b=none/\H0 b=some u/\my K Hs' u e:=fun j e hj h=>by
  obtain ⟨b,u,q1,q2,q3,q4,q5,q6⟩:=f'.lk j e h;simp only [if_neg hj] at q2;obtain ⟨u',e'⟩:=f.lh j b q2;have:=jr (B:=upd Hs a o) _ _ e';rw [q5] at this;cases this;exact ⟨b,u,q1,q2,q3,q4,e',q6⟩
 have two:∀ (j:Nat) (e:List (List D)),ρ'[j]?=some (Sl.ow2 e)->∃ b as,O2 K H0 H' Hs' ρ' σ' j e b as:=fun j e h=>by
  obtain ⟨b,as,O⟩:=f'.o2 j e h;exact ⟨b,as,O.at_,O.ob,O.nd,fun c hc=>⟨(O.out c hc).1,jr.free (O.out c hc).2⟩,O.dj,O.inn⟩
 unfold yE;cases hl:ρ'[i]? with
 |none =>
  simp only [hi];refine ⟨st,f'.len,f'.sh,fun j e h=>let ⟨b,u,q1,q2,q3,q4,q5,_⟩:=own j e h;⟨b,u,q1,q2,q3,q4,q5⟩,fun j e h=>lck j e (fun z=>by rw [z,hl] at h;cases h) h,f'.dj,f.lh,two,f'.u2⟩
 |some s =>
  cases s with
  |no=>simp only [hi];exact ⟨st,f'.len,f'.sh,fun j e h=>let ⟨b,u,q1,q2,q3,q4,q5,_⟩:=own j e h;⟨b,u,q1,q2,q3,q4,q5⟩,fun j e h=>lck j e (fun z=>by rw [z,hl] at h;cases h) h,f'.dj,f.lh,two,f'.u2⟩
  |shr _=>simp only [hi];exact ⟨st,f'.len,f'.sh,fun j e h=>let ⟨b,u,q1,q2,q3,q4,q5,_⟩:=own j e h;⟨b,u,q1,q2,q3,q4,q5⟩,fun j e h=>lck j e (fun z=>by rw [z,hl] at h;cases h) h,f'.dj,f.lh,two,f'.u2⟩
  |own _=>simp only [hi];exact ⟨st,f'.len,f'.sh,fun j e h=>let ⟨b,u,q1,q2,q3,q4,q5,_⟩:=own j e h;⟨b,u,q1,q2,q3,q4,q5⟩,fun j e h=>lck j e (fun z=>by rw [z,hl] at h;cases h) h,f'.dj,f.lh,two,f'.u2⟩
  |ow2 _=>simp only [hi];exact ⟨st,f'.len,f'.sh,fun j e h=>let ⟨b,u,q1,q2,q3,q4,q5,_⟩:=own j e h;⟨b,u,q1,q2,q3,q4,q5⟩,fun j e h=>lck j e (fun z=>by rw [z,hl] at h;cases h) h,f'.dj,f.lh,two,f'.u2⟩
  |lck d' =>
   simp only [hi];have hil:i<ρ'.length:=(List.getElem?_eq_some_iff.mp hl).1;have nx:∀ {j:Nat}{s:Sl},(∀ d,s≠.own d)->(ρ'.set i (.own d'))[j]?=some s->ρ'[j]?=some s/\i≠j:=fun {j s} hs e=>by
    by_cases hj:i=j
    ·subst hj;rw [aK hil] at e;exact absurd (bu e).symm (hs d')
    ·rw [am hj] at e;exact ⟨e,hj⟩
   obtain ⟨b,u,q1,q2,q3,q4,q5,q6⟩:=f'.lk i d' hl;simp only [if_pos rfl] at q2;cases q2;have ne:∀ (j:Nat) (e:D),ρ'[j]?=some (Sl.own e)->σ'[j]?≠some (some (V.ref a)):=fun j e h z=>by
    obtain ⟨b,u,p1,_,_,_,_,p6⟩:=own j e h;rw [z] at p1;cases p1;rw [q5] at p6;cases p6
   refine ⟨st,by simp [f'.len],fun j e h=>?_,fun j e h=>?_,fun j e h=>?_,fun j k d1 d2 c h1 h2 h3 h4=>?_,f.lh,fun j e h=>?_,fun j k d1 d2 h1 h2=>?_⟩
   ·obtain ⟨h,_⟩:=nx (fun _ z=>by cases z) h;exact f'.sh j e h
   ·by_cases hj:i=j
    ·subst hj;rw [aK hil] at h;cases h;exact ⟨a,u,q1,q3,q4,k4,q6⟩
    ·rw [am hj] at h;obtain ⟨b,u,p1,p2,p3,p4,p5,_⟩:=own j e h;exact ⟨b,u,p1,p2,p3,p4,p5⟩
   ·obtain ⟨h,hj⟩:=nx (fun _ z=>by cases z) h;exact lck j e (c9 hj) h
   ·by_cases hj:i=j
    ·by_cases hk:i=k
     ·exact hj.symm.trans hk
     ·rw [am hk] at h2;subst hj;rw [q1] at h3;cases h3;exact (ne k d2 h2 h4).elim
    ·rw [am hj] at h1;by_cases hk:i=k
     ·subst hk;rw [q1] at h4;cases h4;exact (ne j d1 h1 h3).elim
     ·rw [am hk] at h2;exact f'.dj j k d1 d2 c h1 h2 h3 h4
   ·obtain ⟨h,hj⟩:=nx (fun _ z=>by cases z) h;obtain ⟨b,as,O⟩:=two j e h;refine ⟨b,as,O.at_,O.ob,O.nd,O.out,fun c hc k e' hk=>?_,O.inn⟩;by_cases nk:i=k
    ·subst nk;intro z;rw [q1] at z;cases z;obtain ⟨b',as',O'⟩:=f'.o2 j e h;have hh:=O.at_;rw [O'.at_] at hh;cases hh;have hs:as'=as:=by
      have h1:=O.ob;rw [O'.ob] at h1;injection h1 with h1;injection h1 with h1;exact KW (fun x y z=>by cases z;rfl) |>.mp h1
     subst hs;have:=(O'.out _ hc).2;rw [q5] at this;cases this
    ·rw [am nk] at hk;exact O.dj c hc k e' hk
   ·exact f'.u2 j k d1 d2 (nx (fun _ z=>by cases z) h1).1 (nx (fun _ z=>by cases z) h2).1
end
section
def nu (gi:az->R (List D)) (kt:D->az->R az) (gb:az->R Fl):az->R Fl:=fun ρ=>match gi ρ with
 |.ok ds=>j4 kt gb ds ρ
 |_=>.no
theorem lR (hc:c.X.calm=true) (hi:Mt c.nox tg iter gi) (hg:JG c.nox tg kt) (hb:Gu c.nox body gbd) (hs:∀ x,el iter c.X.env x=pure x:=by intro _;rfl):JS c (.For tg iter body [] pos) (nu gi kt gbd):=.of fun ρ=>by
 refine Mu (Aa (Lu vP hc (hi ρ) (g:=fun v σ H Q=>∃ ρ d,Td c.X.K ρ d (kt d ρ) v σ H Q) (tb:=fun D σ H=>∃ ρ,SR c.X.K c.cls E0 ρ (gbd ρ) D σ H) ?_ ?_ hs) fun D σ H ⟨H0,Hs0,la,Hs,f,q⟩=>?_)
 ·exact fun pins s σ H v u Q I r h_0=>by obtain ⟨ρ,d,q⟩:=h_0;exact hg ρ d pins s σ H v u Q I r q
 ·exact fun pins s σ H D I h_1=>by obtain ⟨ρ,q⟩:=h_1;exact hb ρ pins s σ H D I q
 ·refine ⟨H0,Hs0,la,Hs,f,?_⟩;unfold nu at q;cases hr:gi ρ with
  |no=>rw [hr] at q;exact q
  |ex x n=>rw [hr] at q;exact q.elim
  |ok ds =>
   rw [hr] at q;intro J H1 Hs1 s1 it;have f1:=f.step s1;exact Mv (E:=c.E) (cls:=c.cls) (kt:=kt) (gb:=gbd) (tg:=fun v σ H Q=>∃ ρ d,Td c.X.K ρ d (kt d ρ) v σ H Q) (tb:=fun D σ H=>∃ ρ,SR c.X.K c.cls E0 ρ (gbd ρ) D σ H) it (Mw f1.st.all f1.st.sub) f1.into (fun ρ d v σ H Q h=>⟨ρ,d,h⟩) (fun ρ D σ H h=>⟨ρ,h⟩) (nW.into f1 q)
def sG (i:Nat) (kt:D->az->R az) (gb:az->R Fl):az->R Fl:=fun ρ=>match ρ[i]? with
 |some (Sl.own (.list ds))=>XM i ρ (j4 kt gb ds (Cb i ρ))
 |_=>nu (jO fun ρ=>FE ρ i) kt gb ρ
theorem yF {kt:D->az->R az}{gb:az->R Fl}:∀ (ds:List D) (ρ:az) (fl:Fl),j4 kt gb ds ρ=.ok fl->(∃ ρ',fl=.nx ρ')\/∃ d,fl=.rt d
 |[],ρ,fl,h=>by cases h;exact .inl ⟨_,rfl⟩
 |d::r,ρ,fl,h=>by
  unfold j4 at h;split at h
  ·split at h
   ·exact yF r _ _ h
   ·exact yF r _ _ h
   ·cases h;exact .inl ⟨_,rfl⟩
   ·cases h;exact .inr ⟨_,rfl⟩
   ·cases h
  ·cases h
theorem Cc {kt:D->az->R az}{gb:az->R Fl}:∀ (ds:List D) (ρ:az) (c:Str) (n:Option D),j4 kt gb ds ρ≠.ex c n
 |[],ρ,c,n,h=>by cases h
 |d::r,ρ,c,n,h=>by
  unfold j4 at h;split at h
  ·split at h
   ·exact Cc r _ _ _ h
   ·exact Cc r _ _ _ h
   ·cases h
   ·cases h
   ·cases h
  ·cases h
theorem HZ (i:Nat) (hc:c.X.calm=true) (hg:JG c.nox tg kt) (hb:Gu c.nox body gbd) (hN:c.X.N[i]?=some x:=by rfl) (hv:P3 c.X.env.scope x:=by first|exact iI rfl|exact fB (iI rfl)|exact fB (fB rfl)) (hd:(x==("__debug__" : Str))=false:=by decide)
  (hcd:(x==("__classdict__" : Str))=false:=by decide) (hs:∀ y,el (.Name x p) c.X.env y=pure y:=by intro _;rfl):JS c (.For tg (.Name x p) body [] pos) (sG i kt gbd):=.of fun ρ=>by
 by_cases ho:∃ ds,ρ[i]?=some (Sl.own (.list ds))
 ·obtain ⟨ds,ho⟩:=ho;refine Mu (Aa (Lu (tg:=tg) vP hc (uz (X:=c.nox.X) (sZ hN hv hd hcd)) (g:=fun v σ H Q=>∃ ρ d,Td c.X.K ρ d (kt d ρ) v σ H Q) (tb:=fun D σ H=>∃ ρ,SR c.X.K c.cls E0 ρ (gbd ρ) D σ H) ?_ ?_ hs) fun D σ H ⟨H0,Hs0,la,Hs,f,q⟩=>?_)
  ·exact fun pins s σ H v u Q I r h_2=>by obtain ⟨ρ,d,q⟩:=h_2;exact hg ρ d pins s σ H v u Q I r q
  ·exact fun pins s σ H D I h_3=>by obtain ⟨ρ,q⟩:=h_3;exact hb ρ pins s σ H D I q
  ·obtain ⟨a,o,k1,k2,k3,k4,k5⟩:=f.ow i _ ho;cases k5 with
   | @lst vs _ r =>
    refine ⟨_,k1,a,rfl,⟨_,.of k2⟩,?_⟩;have hn:ni c.X.K (upd Hs a (.lst vs)) a vs:=.of ba;unfold sG at q;simp only [ho] at q;have fl:=f.lock ho k1 k2 k3 k4 (.lst r);have sub:c_ (upd Hs a (.lst vs)) H:=fun b u q=>by
     by_cases hb:b=a
     ·subst hb;rw [ba] at q;cases q;exact k2
     ·rw [a_ hb] at q;exact f.st.sub b u q
    refine Mv (E:=c.E) (cls:=c.cls) (kt:=kt) (gb:=gbd) (ρ:=Cb i ρ) (Hs:=Hs) (la:=fun i'=>if i'=i then some a else la i') (tg:=fun v σ H Q=>∃ ρ d,Td c.X.K ρ d (kt d ρ) v σ H Q) (tb:=fun D σ H=>∃ ρ,SR c.X.K c.cls E0 ρ (gbd ρ) D σ H) (C9 hn r) (Mw f.st.all sub) ?_ (fun ρ d v σ H Q h=>⟨ρ,d,h⟩) (fun ρ D σ H h=>⟨ρ,h⟩) ?_
    ·unfold Cb;rw [ho];exact fl
    ·cases hr:j4 kt gbd ds (Cb i ρ) with
     |no=>rw [hr] at q;exact q
     |ex c n=>exact (Cc _ _ _ _ hr).elim
     |ok fl =>
      rw [hr] at q;rcases yF _ _ _ hr with ⟨ρ',rfl⟩|⟨d,rfl⟩
      ·exact fun σ' H' Hs' f'=>q σ' H' Hs' (f.unlock ho k4 f')
      ·exact fun v H' Hs' s r=>q v H' Hs' (f.st.unlock s) r
 ·have e:sG i kt gbd ρ=nu (jO fun ρ=>FE ρ i) kt gbd ρ:=by
   unfold sG;split
   ·rename_i ds h;exact (ho ⟨ds,h⟩).elim
   ·rfl
  rw [e];exact lR hc (uT (c:=c.nox) (al (c:=c.nox) i hN hv hd hcd)) hg hb hs ρ
def iH (t:az->R Bool) (b:az->R Fl):Nat->az->R Fl
 | 0,_=>.no
 |n+1,ρ=>match t ρ with
  |.ok true=>match b ρ with
   |.ok (.nx ρ')=>iH t b n ρ'
   |.ok (.ct ρ')=>iH t b n ρ'
   |.ok (.bk ρ')=>.ok (.nx ρ')
   |.ok (.rt d)=>.ok (.rt d)
   |_=>.no
  |.ok false=>.ok (.nx ρ)
  |_=>.no
theorem E1 (n:Nat)  (ht:JT c.nox t gt) (hb:Gu c.nox body gbd):JS c (.While t body [] pos) (iH gt gbd n):=.of fun ρ=>by
 refine Mu (Aa (Lq vP (tc:=fun σ H Q=>∃ ρ,JM c.X.K c.cls E0 ρ (gt ρ) σ H Q) (tb:=fun D σ H=>∃ ρ,SR c.X.K c.cls E0 ρ (gbd ρ) D σ H) ?_ ?_) fun D σ H ⟨H0,Hs0,la,Hs,f,q⟩=>?_)
 ·exact fun pins s σ H Q I h_4=>by obtain ⟨ρ,q⟩:=h_4;exact ht ρ pins s σ H Q I q
 ·exact fun pins s σ H D I h_5=>by obtain ⟨ρ,q⟩:=h_5;exact hb ρ pins s σ H D I q
 ·refine ⟨fun m σ H=>∃ ρ Hs,Fr c.X.K H0 Hs0 la ρ σ H Hs/\nW c.X.K c.cls c.E H0 Hs0 la D (iH gt gbd m ρ),⟨n,ρ,Hs,f,q⟩,?_⟩;rintro m σ H ⟨ρ,Hs,f,q⟩;cases m with
  |zero=>exact q.elim
  |succ m =>
   unfold iH at q;refine ⟨ρ,H0,Hs0,la,Hs,f,?_⟩;cases hg:gt ρ with
   |no=>rw [hg] at q;exact q
   |ex x n=>rw [hg] at q;exact q.elim
   |ok b =>
    rw [hg] at q;intro H1 Hs1 s1;cases b with
    |false=>exact Dv (q σ H1 Hs1 (f.step s1))
    |true =>
     refine Dw ⟨fun σ' H'=>∃ ρ' Hs',Fr c.X.K H0 Hs0 la ρ' σ' H' Hs'/\nW c.X.K c.cls c.E H0 Hs0 la D (iH gt gbd m ρ'),fun σ' H' h=>⟨m,dq _,h⟩,ρ,H0,Hs0,la,Hs1,f.step s1,?_⟩;cases hb':gbd ρ with
     |no=>simp only [hb'] at q;exact q
     |ex x n=>simp only [hb'] at q;exact q.elim
     |ok fl =>
      simp only [hb'] at q;cases fl with
      |nx ρ'=>exact fun σ' H' Hs' f'=>⟨ρ',Hs',f',q⟩
      |ct ρ'=>exact fun σ' H' Hs' f'=>⟨ρ',Hs',f',q⟩
      |bk ρ'=>exact fun σ' H' Hs' f'=>q σ' H' Hs' f'
      |rt d=>exact q
end
end
section
section
def oR (i:Nat) (g:az->R D):az->R Fl:=fun ρ=>match ρ[i]? with
 |some (Sl.own (.list ds))=>(g ρ).bind fun d=>if ds.length<1000 then .ok (.nx (ρ.set i (.own (.list (ds++[d]))))) else .no
 |_=>.no
theorem lK (i:Nat) (h:JE c e g) (hN:c.X.N[i]?=some x:=by rfl) (hv:P3 c.X.env.scope x:=by first|exact iI rfl|exact fB (iI rfl)|exact fB (fB rfl)) (hd:(x==("__debug__" : Str))=false:=by decide)
  (hcd:(x==("__classdict__" : Str))=false:=by decide)
  (hbase:Jb (.Name x p) "append" c.X.env (ed (.Name x p) c.X.env)=ed (.Name x p) c.X.env:=by rfl)
  (hfew:((fU cpos (aJ [e] c.X.env)).all (fun x=>!x.1)&&(backToKw cpos (OE [] c.X.env)).all (fun x=>x.1.isSome)
   && decide ([e].length+([] : List zS).length+(if ([] : List zS).isEmpty then 0 else 1)<30))=true:=by rfl)
  (hline:(apos.endLine==cpos.line)=true:=by rfl) (hst:aJ [e] c.X.env=(false,ed e c.X.env)::aJ [] c.X.env:=by rfl) (hplain:(fU cpos (aJ [] c.X.env)).any (·.1)=false:=by rfl)
  (hs:gX (.Call (.Attribute (.Name x p) "append" apos) [e] [] cpos) none pos.line c.X.env=pure false:=by rfl) :
  JS c (.Expr (.Call (.Attribute (.Name x p) "append" apos) [e] [] cpos) pos) (oR i g):=.of fun ρ=>by
 refine Aa (BN (Re AE zY zZ AN (sZ hN hv hd hcd) (iw (h ρ) jL hst) hbase hfew hline hst hplain) hs) fun D σ H h_0=>?_;obtain ⟨H0,Hs0,la,Hs,f,q⟩:=h_0;replace q:nW c.X.K c.cls c.E H0 Hs0 la D (oR i g ρ):=q;unfold oR at q;split at q
 ·rename_i ds ho
  obtain ⟨a,o,k1,k2,k3,k4,k5⟩:=f.ow i _ ho;cases k5 with
  | @lst vs _ r =>
   refine ⟨_,k1,.inl ⟨rfl,_,.of k2⟩,?_⟩;refine sE f q fun d v H1 Hs1 e1 s1 f1 r1=>?_;rw [e1,bind_ok] at q;by_cases hl:ds.length<1000
   ·rw [if_pos hl] at q;have r':=r.same s1.sh;exact ⟨a,vs,v,rfl,rfl,s1.all _ _ k2,d_ (by rw [r.length];omega),q _ _ Hs1 (f1.write i ho k1 (.lst (r'.append (.cons r1 .nil))))⟩
   ·rw [if_neg hl] at q;exact q.elim
 ·exact q.elim
def sH:D->Option eR
 |.int i=>some (.inl i)
 |.str x=>some (.inr x)
 |_=>none
theorem yG  (h:sH d=some y):d=kD y:=by
 cases d<;>cases h<;>rfl
@[simp] theorem keyOf_of (y:eR):sH (kD y)=some y:=by cases y<;>rfl
def xv (kvs:List (D×D)) (k d:D):List (D×D):=if kvs.any (fun kv=>bq kv.1 k) then kvs.map (fun kv=>if bq kv.1 k then (kv.1,d) else kv) else kvs++[(k,d)]
theorem Cd (a b:eR):bq (kD a) (kD b)=decide (a=b):=by
 cases a<;>cases b<;>simp [kD,bq,qW]
theorem RDk.any   (y:eR):∀ {ds:List (D×D)},RDk K H kvs ds->(ds.any fun kv=>bq kv.1 (kD y))=kvs.any fun kv=>decide (kv.1=y):=by
 induction kvs with
 |nil=>intro ds h;cases h;rfl
 |cons x r ih=>intro ds h;cases h with|cons h t=>rw [e7,e7,ih t,Cd]
theorem RDk.repl  (y:eR)  (rv:RD K H v d):∀ {kvs:List (eR×V)}{ds:List (D×D)},RDk K H kvs ds ->
  RDk K H (kvs.map fun kv=>if kv.1=y then (kv.1,v) else kv) (ds.map fun kv=>if bq kv.1 (kD y) then (kv.1,d) else kv)
 |_,_,.nil=>.nil
 |_,_,.cons (k:=k) h t=>by
  rw [aB,aB];have e:=Cd k y;by_cases hk:k=y
  ·subst hk;rw [show (if k=k then (k,v) else (k,_))=(k,v) from if_pos rfl,show (if bq (kD k) (kD k)=true then (kD k,d) else (kD k,_))=(kD k,d) from if_pos (by rw [e];simp)];exact .cons rv (RDk.repl k rv t)
  ·simp only [e,hk,if_neg,decide_false,bU,not_false_eq_true];exact .cons h (RDk.repl y rv t)
theorem RDk.snoc  (y:eR)  (rv:RD K H v d):∀ {kvs:List (eR×V)}{ds:List (D×D)},RDk K H kvs ds->RDk K H (kvs++[(y,v)]) (ds++[(kD y,d)])
 |_,_,.nil=>.cons rv .nil
 |_,_,.cons h t=>.cons h (RDk.snoc y rv t)
theorem RDk.put    (r:RDk K H kvs ds) (y:eR)  (rv:RD K H v d):RDk K H (mw kvs y v) (xv ds (kD y) d):=by
 unfold mw xv;rw [r.any y];split
 ·exact r.repl y rv
 ·exact r.snoc y rv
def gR (kvs:List (D×D)):Bool:=kvs.all fun kv=>(sH kv.1).isSome
def Ce (i:Nat) (gk g:az->R D):az->R Fl:=fun ρ=>match ρ[i]? with
 |some (Sl.own (.dict kvs))=>(g ρ).bind fun d=>(gk ρ).bind fun k=>match sH k with
  |some _=>if kvs.length<1000/\gR kvs=true then .ok (.nx (ρ.set i (.own (.dict (xv kvs k d))))) else .no
  |none=>.no
 |_=>.no
theorem Gw    (h:RD K H v (kD y)):v=kV y:=by
 cases y<;>cases h<;>rfl
theorem RDt.flat    (h:RDt K H kvs ds) (f:gR ds=true):kvs=[]/\ds=[]:=by
 cases h with
 |nil=>exact ⟨rfl,rfl⟩
 |cons h t=>simp [gR,tD,sH] at f
theorem H_ (i:Nat) (h:JE c e g) (hk:JE c k gk) (hu:c.X.A.units+1<kL) (hN:c.X.N[i]?=some x:=by rfl) (hv:P3 c.X.env.scope x:=by first|exact iI rfl|exact fB (iI rfl)|exact fB (fB rfl)) (hd:(x==("__debug__" : Str))=false:=by decide)
  (hcd:(x==("__classdict__" : Str))=false:=by decide) (hs:gX e (some (.Subscript (.Name x p) k apos)) pos.line c.X.env=pure false:=by rfl):JS c (.Assign [.Subscript (.Name x p) k apos] e pos) (Ce i gk g):=.of fun ρ=>by
 refine Aa (HI hu (sZ hN hv hd hcd) (hk ρ) (h ρ) hs) fun D σ H h_1=>?_
 obtain ⟨H0,Hs0,la,Hs,f,q⟩:=h_1
 replace q:nW c.X.K c.cls c.E H0 Hs0 la D (Ce i gk g ρ):=q
 unfold Ce at q
 split at q
 ·rename_i kvs ho
  obtain ⟨a,o,k1,k2,k3,k4,k5⟩:=f.ow i _ ho
  have main:∀ {H:Hp}{vs:List (eR×V)},Fr c.X.K H0 Hs0 la ρ σ H Hs->H a=some (.dK vs)->RDk c.X.K Hs vs kvs->Ri (Ue i) (TR c.X.K c.cls c.E ρ (gk ρ)) (TR c.X.K c.cls c.E ρ (g ρ)) D σ H:=fun {H vs} f k2 r=>by
   refine sE f q fun d v H1 Hs1 e1 s1 f1 r1=>?_
   rw [e1,bind_ok] at q
   refine ⟨_,k1,sE f1 q fun y w H2 Hs2 e2 s2 f2 r2=>?_⟩
   rw [e2,bind_ok] at q
   split at q
   ·rename_i ky hy
    obtain rfl:=yG hy
    by_cases hl:kvs.length<1000/\gR kvs=true
    ·rw [if_pos hl] at q
     have ha:=s2.all _ _ (s1.all _ _ k2)
     have r':=(r.same s1.sh).same s2.sh
     rw [Gw r2]
     exact ⟨a,_,rfl,DB.k ha (d_ (by rw [r.length];omega)),q _ _ Hs2 (f2.write i ho k1 (.dK (r'.put ky (r1.same s2.sh))))⟩
    ·rw [if_neg hl] at q;exact q.elim
   ·exact q.elim
  cases k5 with
  |dK r=>exact main f k2 r
  |dT n r =>
   refine sE f q fun d v H1 Hs1 e1 s1 f1 r1=>?_
   rw [e1,bind_ok] at q
   refine ⟨_,k1,sE f1 q fun y w H2 Hs2 e2 s2 f2 r2=>?_⟩
   rw [e2,bind_ok] at q
   split at q
   ·rw [if_neg (fun z=>n (r.flat z.2).1)] at q;exact q.elim
   ·exact q.elim
  |dF n r =>
   refine sE f q fun d v H1 Hs1 e1 s1 f1 r1=>?_
   rw [e1,bind_ok] at q
   refine ⟨_,k1,sE f1 q fun y w H2 Hs2 e2 s2 f2 r2=>?_⟩
   rw [e2,bind_ok] at q
   split at q
   ·rw [if_neg (fun z=>by cases z.2)] at q;exact q.elim
   ·exact q.elim
 ·exact q.elim
def l5 (kvs:List (D×D)) (k:D):Option D:=(kvs.find? fun kv=>bq kv.1 k).map (·.2)
theorem RDk.val  : ∀ {kvs:List (eR×V)}{ds:List (D×D)},RDk K H kvs ds->∀ (y:eR),(nR kvs y=none/\l5 ds (kD y)=none)\/∃ v d,nR kvs y=some v/\l5 ds (kD y)=some d/\RD K H v d
 |_,_,.nil,y=>.inl ⟨rfl,rfl⟩
 |_,_,.cons (k:=k) h t,y=>by
  unfold nR l5;rw [bP,bP,Cd];by_cases hk:k=y
  ·simp only [hk,decide_true,cZ];exact .inr ⟨_,_,rfl,rfl,h⟩
  ·simp only [hk,decide_false];exact RDk.val t y
def bf:D->D->R D
 |.dict kvs,k=>match sH k with
  |some _=>if gR kvs=true then (match l5 kvs k with
   |some d=>.ok d
   |none=>.no) else .no
  |none=>.no
 |x,k=>DT x k
theorem c7 (hu:c.X.A.units+1<kL) (ha:JB c a ga) (hb:JB c b gb) (hs:uC b:=by exact fun _ _=>rfl):JE c (.Subscript a b pos) (g2 ga gb bf):=.of fun ρ=>by
 by_cases hx:∃ kvs,ga ρ=.ok (.dict kvs)
 ·obtain ⟨kvs,hx⟩:=hx;refine sF (HH hu (ha ρ) (hb ρ) hs) fun σ H Q h_2=>?_;obtain ⟨H0,Hs0,la,Hs,f,q⟩:=h_2;refine one f q fun d v H1 Hs1 e1 s1 f1 r1=>?_;rw [hx] at e1;cases e1;unfold g2 at q;rw [hx,bind_ok] at q;refine one f1 (q.on s1 (q':=fun _=>True) fun _ _=>trivial) fun y w H2 Hs2 e2 s2 f2 r2=>?_;rw [e2,bind_ok] at q;unfold bf at q;simp only at q;split at q
  ·rename_i ky hy
   obtain rfl:=yG hy;by_cases hf:gR kvs=true
   ·rw [if_pos hf] at q;obtain ⟨p,rfl,h⟩:=(r1.step s2).dict f2.st.sub;have rk:w=kV ky:=by
     rcases r2 with r2|⟨_,o,rfl,_,_,ow⟩
     ·exact Gw r2
     ·cases ky<;>cases ow
    subst rk;rcases h with ⟨vs,h1,h2⟩|⟨vs,h1,hn,h2⟩|⟨o,vs,es,rfl,h1,hn,h2⟩
    ·rcases h2.val ky with ⟨_,h3⟩|⟨u,d,h3,h4,h5⟩
     ·rw [h3] at q;exact q.elim
     ·rw [h4] at q;exact ⟨p,u,rfl,by rw [<- h3];exact xp.k h1,q _ H2 Hs2 (s1.trans s2) h5⟩
    ·exact (hn (h2.flat hf).1).elim
    ·cases hf
   ·rw [if_neg hf] at q;exact q.elim
  ·exact q.elim
 ·refine sF (V2 ha hb hs ρ) fun σ H Q q=>?_;have e:g2 ga gb bf ρ=g2 ga gb DT ρ:=by
   unfold g2;cases hr:ga ρ with
   |ok d =>
    cases d with
    |dict kvs=>exact (hx ⟨kvs,hr⟩).elim
    |_=>rfl
   |_=>rfl
  rw [e] at q;exact q
def k8:D->R D
 |.dict kvs=>if gR kvs=true then .ok (.list (kvs.map (·.1))) else .no
 |x=>AX x
theorem E3  : ∀ {kvs:List (eR×V)}{ds:List (D×D)},RDk K H kvs ds->RDs K H (kvs.map fun p=>kV p.1) (ds.map (·.1))
 |_,_,.nil=>.nil
 |_,_,.cons (k:=k) h t=>.cons (by cases k<;>constructor) (E3 t)
theorem yH (hc:X.calm=true):HV X (.type "list") (gK k8):=by
 refine oP (fun d c n=>?_) fun pins s σ H x u Q Hs d d' I ru sub rx hd q=>?_
 ·unfold k8 AX;split<;>(try split)<;>(try split)<;>exact fun h=>by cases h
 ·by_cases hx:∃ kvs,d=.dict kvs
  ·obtain ⟨kvs,rfl⟩:=hx;unfold k8 at hd;simp only at hd;split at hd
   ·rename_i hf
    cases hd;obtain ⟨a,rfl,⟨vs,h1,h2⟩|⟨vs,h1,n,h2⟩|⟨o,vs,es,rfl,h1,n,h2⟩⟩:=rx.dict sub
    ·exact yq hc pins s σ H _ _ Q I (.cons ru .nil) ⟨a,vs,rfl,h1,fun l hl=>q _ _ _ (.new sub hl) (.list (.of ba) ((E3 h2).same (cF.new sub hl).sh))⟩
    ·exact (n (h2.flat hf).1).elim
    ·cases hf
   ·cases hd
  ·have e:k8 d=AX d:=by
    cases d with
    |dict kvs=>exact (hx ⟨kvs,rfl⟩).elim
    |_=>rfl
   rw [e] at hd;exact (PV (X:=X)).1 pins s σ H [x] [u] Q I (.cons ru .nil) ⟨Hs,[d],sub,.cons rx .nil,d',hd,q⟩
end
end
section
open PyProof.Rows (envOfC)
section
variable {c:C}{e a b d:bd}{g ga gb gc:az->R D}{pos p cpos:Pos}{x:Str}
theorem Mx        (hx:∀ x y c n,h x y≠.ex c n) (hx':∀ x y c n,h' x y≠.ex c n) (q:TR K cls E ρ (qz ga gb gc h h' ρ) σ H Q) :
  G6 (rD K h) (rD K h') (TB K cls E ρ (ga ρ)) (TB K cls E ρ (gb ρ)) (TB K cls E ρ (gc ρ)) σ H Q:=by
 obtain ⟨H0,Hs0,la,Hs,f,q⟩:=q;refine one f q fun x v H1 Hs1 e1 s1 f1 r1=>?_;unfold qz at q;rw [e1,bind_ok] at q;refine one f1 (q.on s1 (q':=fun _=>True) fun _ _=>trivial) fun y u H2 Hs2 e2 s2 f2 r2=>?_;rw [e2,bind_ok] at q;cases hr:h x y with
 |ex c n=>exact (hx x y c n hr).elim
 |no=>rw [hr] at q;exact q.elim
 |ok z =>
  rw [hr,bind_ok] at q;refine ⟨Hs2,x,y,f2.st.sub,r1.step s2,r2,z,hr,fun w H3 Hs3 s3 r3=>?_⟩;cases r3 with
  |bool k =>
   refine ⟨k,rfl,?_⟩;have f3:=f2.step s3;cases k with
   |false=>exact Dv (q _ H3 Hs3 (s1.trans (s2.trans s3)) (.bool _))
   |true =>
    refine Dw (one f3 (q.on (s1.trans (s2.trans s3)) (q':=fun _=>True) fun _ _=>trivial) fun t u' H4 Hs4 e4 s4 f4 r4=>?_);simp only [e4,bind_ok] at q;cases hr':h' y t with
    |ex c n=>exact (hx' y t c n hr').elim
    |no=>rw [hr'] at q;exact q.elim
    |ok z' =>
     rw [hr'] at q;exact ⟨Hs4,y,t,f4.st.sub,(r2.step s3).step s4,r4,z',hr',fun w H5 Hs5 s5 r5=>q w H5 Hs5 (s1.trans (s2.trans (s3.trans (s4.trans s5)))) r5⟩
  |none=>exact q.elim
  |int _=>exact q.elim
  |str _=>exact q.elim
  |list _ _=>exact q.elim
  |tuple _ _=>exact q.elim
  |dictK _ _=>exact q.elim
  |dictT _ _ _=>exact q.elim
  |dictF _ _ _=>exact q.elim
theorem E4  (ho:xt c.X (bO op) h) (ho':xt c.X (bO op') h') (ha:JB c a ga) (hb:JB c b gb) (hc:JB c d gc) (hm:KJ [op,op'] [b,d]=false:=by with_unfolding_all rfl):JE c (.Compare a [op,op'] [b,d] pos) (qz ga gb gc h h') :=
 .of fun ρ=>sF (Lw ho.1 ho'.1 (ha ρ) (hb ρ) (hc ρ) hm) fun σ H Q q=>Mx ho.2 ho'.2 q
theorem My  (ho:xt c.X (bO op) h) (ho':xt c.X (bO op') h') (ha:JB c a ga) (hb:JB c b gb) (hc:JB c d gc) (hm:KJ [op,op'] [b,d]=false:=by with_unfolding_all rfl):JT c (.Compare a [op,op'] [b,d] pos) (eJ (qz ga gb gc h h')) :=
 .of fun ρ=>UY (Lx ho.1 ho'.1 (ha ρ) (hb ρ) (hc ρ) hm) fun σ H Q q=>Mx ho.2 ho'.2 (UZ q)
def Q1:D->R D
 |.int i=>.ok (.int (-i))
 |_=>.no
def uW (g:az->R D):az->R D:=fun ρ=>(g ρ).bind Q1
theorem Cf (h:JE c e g):JE c (.UnaryOp .USub e pos) (uW g):=.of fun ρ=>sF (Us SF (h ρ)) fun σ H Q h_0=>by
 obtain ⟨H0,Hs0,la,Hs,f,q⟩:=h_0;refine Ab f q fun d v H1 Hs1 e1 s1 f1 r1=>?_;unfold uW at q;rw [e1,bind_ok] at q;cases r1 with
 |int i=>exact ⟨i,rfl,q _ H1 Hs1 s1 (.int _)⟩
 |_=>exact q.elim
inductive Vc (K:a8) (w:bn) (cls:Str->ak) (E:XK) (ρ:az) (r:R (List Str)) (σ:St) (H:Hp) (Q:VK):Prop
 |mk (H0 Hs0:Hp) (la:Nat->Option ak) (Hs:Hp) (f:Fr K H0 Hs0 la ρ σ H Hs) (q:Fin K cls E H Hs r fun ss=>∀ p H' Hs',cF H Hs H' Hs'->H' p=none->Q (.ref p) (upd H' p (nU w p ss))):Vc K w cls E ρ r σ H Q
def Wj (K:a8) (w:bn) (cls:Str->ak) (E:XK) (ρ:az) (r:R (List Str)):TE:=Vc K w cls E ρ r
structure Q2 (c:C) (e:bd) (g:az->R (List Str)):Prop where of ::
 run:∀ ρ,PE c.X e (Wj c.X.K c.X.w c.cls c.E ρ (g ρ))
instance {c:C}{e:bd}{g:az->R (List Str)}:CoeFun (Q2 c e g) (fun _=>∀ ρ,PE c.X e (Wj c.X.K c.X.w c.cls c.E ρ (g ρ))):=⟨Q2.run⟩
theorem I9 {K:a8}{w:bn}{cls:Str->ak}{E:XK}{ρ:az}{r:R (List Str)}{β:Type}{k:List Str->R β}{σ:St}{H:Hp}{H0 Hs0 Hs:Hp}{la:Nat->Option ak}{Q:V->Hp->Prop}{q:β->Prop} (f:Fr K H0 Hs0 la ρ σ H Hs)
  (h:Fin K cls E H Hs (r.bind k) q) (m:∀ ss p H' Hs',r=.ok ss->cF H Hs H' Hs'->Fr K H0 Hs0 la ρ σ H' Hs'->H' p=none->Q (.ref p) (upd H' p (nU w p ss))):Wj K w cls E ρ r σ H Q:=by
 refine ⟨H0,Hs0,la,Hs,f,?_⟩;cases r with
 |ok d=>exact fun p H' Hs' s n=>m d p H' Hs' rfl s (f.step s) n
 |ex c n=>exact h
 |no=>exact h
variable {gset:az->R (List Str)}
def tJ:D->R (List Str)
 |.list ds=>match f_ ds with
  |some ss=>if ss.length<60 then .ok (dk [] ss) else .no
  |none=>.no
 |.tuple ds=>match f_ ds with
  |some ss=>if ss.length<60 then .ok (dk [] ss) else .no
  |none=>.no
 |_=>.no
def oS (g:az->R D):az->R (List Str):=fun ρ=>(g ρ).bind tJ
theorem Cg (hc:c.X.calm=true) (h:JB c e g) (hg2:Gl c.X "set") (hm2:c.X.mg "set"=none) (he:aJ [e] c.X.env=(false,ed e c.X.env)::aJ [] c.X.env:=by rfl) :
  Q2 c (.Call (.Name "set" p) [e] [] cpos) (oS g):=.of fun ρ=>by
 refine sF (AM (DL hc) hg2 hm2 PyProof.Rows.boot_set (iw (h ρ) jL he) (he:=he)) fun σ H Q h_1=>?_;obtain ⟨H0,Hs0,la,Hs,f,q⟩:=h_1;refine one f q fun d v H1 Hs1 e1 s1 f1 r1=>?_;unfold oS at q;rw [e1,bind_ok] at q;unfold tJ at q;split at q
 ·split at q
  ·rename_i ss hs
   by_cases hz:ss.length<60
   ·rw [if_pos hz] at q;obtain ⟨a,vs,rfl,qa,ra⟩:=r1.list f1.st.sub;rw [qB hs] at ra;rw [oK ra] at qa;exact ⟨a,ss,rfl,.inl qa,aI (Jg hz 1) (by decide),fun p hp=>q p H1 Hs1 s1 hp⟩
   ·rw [if_neg hz] at q;exact q.elim
  ·exact q.elim
 ·split at q
  ·rename_i ss hs
   by_cases hz:ss.length<60
   ·rw [if_pos hz] at q;obtain ⟨a,vs,rfl,qa,ra,_⟩:=r1.tuple f1.st.sub;rw [qB hs] at ra;rw [oK ra] at qa;exact ⟨a,ss,rfl,.inr qa,aI (Jg hz 1) (by decide),fun p hp=>q p H1 Hs1 s1 hp⟩
   ·rw [if_neg hz] at q;exact q.elim
  ·exact q.elim
 ·exact q.elim
def kA (g:az->R (List Str)):az->R D:=fun ρ=>(g ρ).bind fun ss=>if ss.length<64 then .ok (.list ((jo ss).map .str)) else .no
theorem tK (hc:c.X.calm=true) (h:Q2 c e gset) (hg:Gl c.X "sorted") (hm:c.X.mg "sorted"=none) (he:aJ [e] c.X.env=(false,ed e c.X.env)::aJ [] c.X.env:=by rfl) :
  JE c (.Call (.Name "sorted" p) [e] [] cpos) (kA gset):=.of fun ρ=>by
 refine sF (uA (xq hc) hg hm wG (iw (h ρ) jL he) (he:=he)) fun σ H Q h_2=>?_;obtain ⟨H0,Hs0,la,Hs,f,q⟩:=h_2;dsimp only [L2.Uy,L2.Lz,L2.SJ];refine I9 (w:=c.X.w) f q fun ss p H1 Hs1 e1 s1 f1 n1=>?_;unfold kA at q;rw [e1,bind_ok] at q;by_cases hz:ss.length<64
 ·rw [if_pos hz] at q;have st1:cF H1 Hs1 (upd H1 p (nU c.X.w p ss)) Hs1:=.mine f1.st.sub n1;exact ⟨p,ss,rfl,ba,hz,fun l hl=>q _ _ _ (s1.trans (st1.trans (.new st1.sub hl))) (.list (.of ba) (yt _))⟩
 ·rw [if_neg hz] at q;exact q.elim
def mJ (g:az->R (List Str)):az->R D:=fun ρ=>(g ρ).bind fun ss=>.ok (.int ss.length)
theorem B0 (h:Q2 c e gset) (hg:Gl c.X "len") (hm:c.X.mg "len"=none) (he:aJ [e] c.X.env=(false,ed e c.X.env)::aJ [] c.X.env:=by rfl) :
  JE c (.Call (.Name "len" p) [e] [] cpos) (mJ gset):=.of fun ρ=>by
 refine sF (uA A8 hg hm bC (iw (h ρ) jL he) (he:=he)) fun σ H Q h_3=>?_;obtain ⟨H0,Hs0,la,Hs,f,q⟩:=h_3;dsimp only [L2.Uy,L2.Lz,L2.SJ];refine I9 (w:=c.X.w) f q fun ss p H1 Hs1 e1 s1 f1 n1=>?_;unfold mJ at q;rw [e1,bind_ok] at q;have st1:cF H1 Hs1 (upd H1 p (nU c.X.w p ss)) Hs1:=.mine f1.st.sub n1;exact ⟨p,ss,rfl,ba,q _ _ _ (s1.trans st1) (.int _)⟩
variable {elt iter tg:bd}{ifs:List bd}{scope:dz}{N':List Str}{nt:Nat}{ix:List Nat}{gi:az->R (List D)}{gt:az->R Bool}{ge:az->R D}
def oT (nt:Nat) (ix:List Nat) (gi:az->R (List D)) (gt:az->R Bool) (ge:az->R D):az->R (List Str):=fun ρ=>(gi ρ).bind fun ds=>if ds.length<=60 then (gQ (iQ nt (jP nt ix ρ) gt ge) ds).bind fun ys=>match f_ ys with
 |some ss=>.ok (dk [] ss)
 |none=>.no else .no
theorem Ad  : ∀ {ss:List Str},f_ (xs++ys)=some ss->∃ s1 s2,f_ xs=some s1/\f_ ys=some s2/\ss=s1++s2:=by
 induction xs with
 |nil=>intro ss h;exact ⟨[],ss,rfl,h,rfl⟩
 |cons d r ih =>
  intro ss h;cases d with
  |str b =>
   have h:(f_ (r++ys)).map (b::·)=some ss:=h;cases hr:f_ (r++ys) with
   |none=>rw [hr] at h;cases h
   |some z =>
    rw [hr] at h;cases h;obtain ⟨s1,s2,h1,h2,rfl⟩:=ih hr;exact ⟨b::s1,s2,by show (f_ r).map (b::·)=_;rw [h1];rfl,h2,rfl⟩
  |_=>cases h
theorem yI (z:Str):∀ (l acc:List Str),dk acc (l++[z])=if z∈dk acc l then dk acc l else dk acc l++[z]
 |[],acc=>rfl
 |x::l,acc=>by
  show dk _ (l++[z])=_;rw [yI z l];rfl
inductive XO (f:D->R (Option D)) (ds:List D) (ss:List Str) (H1 Hs1:Hp) (i m:Nat) (acc:List Str) (H':Hp):Prop
 |mk (done bT zs sa sz Hs':_) (h0:ds=done++bT) (h1:done.length=i) (h2:bT.length=m) (h3:cF H1 Hs1 H' Hs') (h4:acc=dk [] sa) (h5:sa.length<=i) (h6:gQ f bT=.ok zs) (h7:f_ zs=some sz) (h8:ss=sa++sz):XO f ds ss H1 Hs1 i m acc H'
theorem Q3        (hnt:nt=1\/nt=2)
  (q:Wj K w cls E ρ (oT nt ix gi gt ge ρ) σ H Q) :
  Me w nt ix (Wh K cls E ρ (gi ρ)) (JX K nt) (fun σ H Q=>∃ ρ',JM K cls E0 ρ' (gt ρ') σ H Q) (fun σ H Q=>∃ ρ',TR K cls E0 ρ' (ge ρ') σ H Q) σ H Q:=by
 obtain ⟨H0,Hs0,la,Hs,f,q⟩:=q;refine ⟨H0,Hs0,la,Hs,f,?_⟩;unfold oT at q;cases hi:gi ρ with
 |no=>rw [hi] at q;exact q
 |ex x n=>rw [hi] at q;exact q
 |ok ds =>
  rw [hi,bind_ok] at q;intro J H1 Hs1 Hn s1 sn it;by_cases hl:ds.length<=60
  ·rw [if_pos hl] at q;cases hm:gQ (iQ nt (jP nt ix ρ) gt ge) ds with
   |no=>rw [hm] at q;exact q.elim
   |ex x n=>exact (yD (DZ _ _ _ _) _ _ _ hm).elim
   |ok ys =>
    rw [hm,bind_ok] at q;cases hs:f_ ys with
    |none=>rw [hs] at q;exact q.elim
    |some ss =>
     rw [hs] at q;obtain ⟨lb,fb⟩:=(f.step s1).block nt ix;refine ⟨XO (iQ nt (jP nt ix ρ) gt ge) ds ss H1 Hs1,
      ⟨ds.length,[],ds,ys,[],ss,Hs1,rfl,rfl,rfl,.refl s1.sub,rfl,cV _,hm,hs,rfl⟩,?_⟩
     rintro i m acc H' ⟨done,bT,zs,sa,sz,Hs',hds,hdl,hrl,st,rfl,yl,hz,hzs,hy⟩;obtain ⟨igo,istop,iyld⟩:=it H' Hs' (sn.trans st.all) st.sh st.sub;cases bT with
     |nil =>
      left;cases hz;cases hzs;rw [cA] at hds hy;subst hy hds;exact ⟨istop i (by omega),fun p hp=>q p H' Hs' (s1.trans st) hp⟩
     |cons d bT =>
      right;have hil:i<ds.length:=by rw [hds,aN,aT];omega
      have hol:=fO sa [];simp at hol;refine ⟨igo i hil,vK (show (dk [] sa).length+1<=61 by omega) (by decide),fun x H2 hyl=>?_⟩;obtain ⟨d',Hs2,hd,s2,r2⟩:=iyld i x H2 hil hyl;have hdd:d'=d:=by
       rw [hds,bc (by omega)] at hd;simp [hdl] at hd;exact hd.symm
      subst hdd;obtain ⟨o,zs',hf,hz',rfl⟩:=yC hz;have hf:=HX hf;obtain ⟨so,sz',hso,hsz,rfl⟩:=Ad hzs;cases hb:Va nt d' (jP nt ix ρ) with
      |no=>rw [hb] at hf;cases hf
      |ex x n=>rw [hb] at hf;cases hf
      |ok ρ' =>
       rw [hb,bind_ok] at hf;refine DY hnt ((fb.step st).step s2) r2 hb fun σ2 f2=>⟨ρ',?_⟩;refine ⟨_,_,_,Hs2,f2,?_⟩;cases ht:gt ρ' with
       |no=>rw [ht] at hf;cases hf
       |ex x n=>rw [ht] at hf;cases hf
       |ok b =>
        rw [ht,bind_ok] at hf;intro H3 Hs3 s3;cases b with
        |false =>
         rw [if_neg bh] at hf;cases hf;cases hso;refine Dv ⟨bT.length,by rw [<- hrl];simp,done++[d'],bT,zs',sa,sz',Hs3,by rw [hds];simp,by simp [hdl],rfl,(st.trans s2).trans s3,rfl,by omega,hz',hsz,by simpa using hy⟩
        |true =>
         rw [if_pos rfl] at hf;refine Dw ⟨ρ',_,_,_,Hs3,f2.step s3,?_⟩;cases he:ge ρ' with
         |no=>rw [he] at hf;cases hf
         |ex x n=>rw [he] at hf;cases hf
         |ok y =>
          rw [he,bind_ok] at hf;cases hf;intro v H4 Hs4 s4 r4;cases r4 with
          |str z =>
           cases hso;exact ⟨z,bT.length,rfl,by rw [<- hrl];simp,done++[d'],bT,zs',sa++[z],sz',Hs4,by rw [hds];simp,by simp [hdl],rfl,((st.trans s2).trans s3).trans s4,(yI z sa []).symm,by simp;omega,hz',hsz,by rw [hy];simp⟩
          |none=>cases hso
          |bool _=>cases hso
          |int _=>cases hso
          |list _ _=>cases hso
          |tuple _ _=>cases hso
          |dictK _ _=>cases hso
          |dictT _ _ _=>cases hso
          |dictF _ _ _=>cases hso
  ·rw [if_neg hl] at q;exact q.elim
theorem E5 (nt:Nat) (hnt:nt=1\/nt=2) (hc:c.X.calm=true) (S:oF c.X scope N' nt ix) (hi:JI c tg iter gi) (hb:uV c N' scope nt tg ifs elt gt ge) (hs:∀ x,el iter c.X.env x=pure x:=by intro _;rfl) :
  Q2 c (.SetComp elt [⟨tg,iter,ifs,0⟩] scope pos) (oT nt ix gi gt ge):=.of fun ρ=>sF (Go hc S (Ca hnt) (hi ρ) hb.at hs) fun σ H Q q=>Q3 hnt q
end
def bF (n:Nat) (ds:List D):az:=ds.map Sl.shr++sv (n-ds.length) Sl.no
def eu (n:Nat) (g:az->R Fl):List D->R D:=fun ds=>match g (bF n ds) with
 |.ok (.nx _)=>.ok .none
 |.ok (.rt d)=>.ok d
 |.ex c m=>.ex c m
 |_=>.no
theorem yJ {n:Nat}{ds:List D}{i:Nat}{s:Sl} (h:(bF n ds)[i]?=some s):(∃ d,ds[i]?=some d/\s=.shr d)\/s=.no:=by
 unfold bF at h;by_cases hi:i<ds.length
 ·rw [bj (by simpa using hi),aW] at h;cases hd:ds[i]? with
  |none=>rw [hd] at h;cases h
  |some z=>rw [hd] at h;cases h;exact .inl ⟨z,rfl,rfl⟩
 ·rw [bc (by simp;omega),cB] at h;split at h<;>cases h;exact .inr rfl
theorem JY {N:List Str}{vs:List V}{i:Nat}{v:V} (h:vs[i]?=some v):(L2.start N vs)[i]?=some (some v):=by
 unfold L2.start;have hi:i<vs.length:=(List.getElem?_eq_some_iff.mp h).1;rw [bj (by simpa using hi),aW,h];rfl
theorem Fr.start {K : a8} {H Hs : Hp} {N : List Str} {vs : List V} {ds : List D} (sub : c_ Hs H) (r : RDs K Hs vs ds) : Fr K H Hs (fun _ => none) (bF N.length ds) (L2.start N vs) H Hs := by
  have hl := r.length;refine ⟨.refl sub, by simp [bF, L2.start, hl], fun i d h => ?_, fun i d h => ?_, fun i d h => ?_, fun i j d e a h _ _ _ => ?_, fun i a h => (nomatch h), fun i d h => ?_, fun i j d e h _ => ?_⟩
  · rcases yJ h with ⟨z, hz, e⟩ | e
    · cases e;obtain ⟨v, k1, k2⟩ := r.get' hz;exact ⟨v, JY k1, k2⟩
    · cases e
  all_goals (rcases yJ h with ⟨z, _, e⟩ | e <;> cases e)
theorem Ru             (F:Gc K x qual st f fd) (S:bw N ps (aw st))
  (h:∀ (cdv:af) (A:bv) (outer:List Env) (s:ai) (H:Hp) (E:XK),i_ k (A.deeper (envOfC qual (aw st) s.heap.objs.size f cdv))->Gu ⟨jn (oJ P w) P w K mg base N qual (aw st) f cdv A outer s H E,cls,E⟩ (fD st) g) :
  sf P w K mg base (oJ P w) (k+1) f fd ps (Rs K cls ps.length (eu N.length g)):=by
 obtain ⟨oc,od,kV,doc,pm,an,cdv,ct,osl,rfl,lk,hcd⟩:=F.ex;refine R7 lk hcd S (fun vs H Q E h_4=>by obtain ⟨Hs,ds,sub,hn,r,q⟩:=h_4;exact by rw [r.length];exact hn) fun A outer s H vs Q E hr hsp=>?_;obtain ⟨Hs,ds,sub,hn,r,q⟩:=hsp;refine ⟨_,h cdv A outer s H E hr (bF N.length ds),H,Hs,_,Hs,Fr.start sub r,?_⟩;unfold eu at q;cases hg:g (bF N.length ds) with
 |no=>rw [hg] at q;exact q
 |ex c n=>rw [hg] at q;exact q
 |ok fl =>
  rw [hg] at q;cases fl with
  |nx ρ'=>exact fun σ' H' Hs' f'=>q .non H' Hs' f'.st .none
  |rt d=>exact fun v H' Hs' s r=>q v H' Hs' s r
  |bk ρ'=>exact q.elim
  |ct ρ'=>exact q.elim
theorem Vd             (F:Gc K x qual st f fd) (S:bw N ps (aw st)) (hm:mg x=some (.ref f)) (hb:kq K fd ps [])
  (h:∀ (cdv:af) (A:bv) (outer:List Env) (s:ai) (H:Hp) (E:XK),i_ k (A.deeper (envOfC qual (aw st) s.heap.objs.size f cdv))->Gu ⟨jn (oJ P w) P w K mg base N qual (aw st) f cdv A outer s H E,cls,E⟩ (fD st) g) :
  Fn P w K mg base cls x (k+1) ps.length (eu N.length g):=⟨f,fd,ps,Ru F S h,hm,F.kp,hb⟩
theorem dh:tf (oJ X.prog X.w) X E0:=fun _ _ _ _ _ _ _ h=>by
 obtain ⟨_,_,_,_,_,_,_,_,_,q⟩:=h;exact q.elim
end
section
def clear2 (ρ:az):az:=ρ.map fun s=>match s with
 |.ow2 _=>.no
 |s=>s
section
theorem Fr.clear2    (f:Fr K H0 Hs0 la ρ σ H Hs):Fr K H0 Hs0 la (clear2 ρ) σ H Hs/\∀ (j:Nat) (d:List (List D)),¬ (J.clear2 ρ)[j]?=some (Sl.ow2 d):=by
 have un:∀ {j:Nat}{s:Sl},(J.clear2 ρ)[j]?=some s->(∀ d,s≠.ow2 d)/\(ρ[j]?=some s\/s=.no):=fun {j s} e=>by
  unfold J.clear2 at e;rw [aW] at e;cases h:ρ[j]? with
  |none=>rw [h] at e;cases e
  |some t =>
   rw [h] at e;cases t with
   |ow2 d=>cases e;exact ⟨fun _ z=>(by cases z),.inr rfl⟩
   |no=>cases e;exact ⟨fun _ z=>(by cases z),.inl rfl⟩
   |shr d=>cases e;exact ⟨fun _ z=>(by cases z),.inl rfl⟩
   |lck d=>cases e;exact ⟨fun _ z=>(by cases z),.inl rfl⟩
   |own d=>cases e;exact ⟨fun _ z=>(by cases z),.inl rfl⟩
 have is:∀ {j:Nat}{s:Sl},s≠.no->(J.clear2 ρ)[j]?=some s->ρ[j]?=some s:=fun {j s} n e=>(un e).2.resolve_right n;have no2:∀ (j:Nat) (d:List (List D)),¬ (J.clear2 ρ)[j]?=some (Sl.ow2 d):=fun j d e=>(un e).1 d rfl;exact ⟨⟨f.st,by simp [J.clear2,f.len],fun j d h=>f.sh j d (is (fun z=>by cases z) h),fun j d h=>f.ow j d (is (fun z=>by cases z) h),fun j d h=>f.lk j d (is (fun z=>by cases z) h),fun j k d e a h1 h2=>f.dj j k d e a (is (fun z=>by cases z) h1) (is (fun z=>by cases z) h2),f.lh,fun j d h=>(no2 j d h).elim,fun j k d e h _=>(no2 j d h).elim⟩,no2⟩
end
def qD:List ak->Hp->Hp
 |[],H=>H
 |a::as,H=>qD as (upd H a (.lst []))
section
theorem yK:∀ (as:List ak) (H:Hp),(∀ a∈as,H a=none)->as.Nodup->c_ H (qD as H)
 |[],H,_,_=>.refl H
 |a::as,H,h,nd=>by
  obtain ⟨n1,n2⟩:=List.nodup_cons.mp nd;refine (kr (h a ah)).trans (yK as _ (fun b hb=>?_) n2);rw [a_ (fun (z:b=a)=>n1 (z ▸ hb))];exact h b (a9 _ hb)
theorem E6:∀ (as:List ak) (H:Hp),as.Nodup->∀ a∈as,qD as H a=some (.lst [])
 |a::as,H,nd,b,hb=>by
  obtain ⟨n1,n2⟩:=List.nodup_cons.mp nd;show qD as (upd H a (.lst [])) b=_;by_cases hm:b∈as
  ·exact E6 as _ n2 b hm
  ·have e:b=a:=(List.mem_cons.mp hb).resolve_right hm;subst e;have:∀ (as:List ak) (H:Hp),b∉as->qD as H b=H b:=by
    intro as;induction as with
    |nil=>intro H _;rfl
    |cons c as ih =>
     intro H h;show qD as (upd H c (.lst [])) b=_;rw [ih _ (fun z=>h (a9 _ z)),a_ (fun (z:b=c)=>h (by rw [z];exact ah))]
   rw [this as _ hm,ba]
theorem lS:∀ (as:List ak) (H:Hp) (b:ak),qD as H b=none->H b=none/\b∉as
 |[],H,b,h=>⟨h,by simp⟩
 |a::as,H,b,h=>by
  obtain ⟨h1,h2⟩:=lS as (upd H a (.lst [])) b h;by_cases hb:b=a
  ·subst hb;rw [ba] at h1;cases h1
  ·rw [a_ hb] at h1;exact ⟨h1,fun z=>(List.mem_cons.mp z).elim hb h2⟩
def Q4 (i:Nat):az->R Fl:=fun ρ=>.ok (.nx ((clear2 ρ).set i (.ow2 [[],[],[],[]])))
theorem Tf (i:Nat)  (hN:c.X.N.Nodup) (hi:c.X.N[i]?=some x:=by rfl) (hx:QX c.X.env.scope x:=by first|exact iI rfl|exact fB rfl)
  (hs:gX (.List [.List [] p1,.List [] p2,.List [] p3,.List [] p4] p) (some (.Name x pos')) spos.line c.X.env=pure false:=by rfl)
  (hf:c.X.fn x=true\/c.X.env.scope.names.lookup x=some .local:=by first|exact .inl rfl|exact .inr rfl|assumption)
  (h1:aJ [.List [] p1,.List [] p2,.List [] p3,.List [] p4] c.X.env=(false,ed (.List [] p1) c.X.env)::aJ [.List [] p2,.List [] p3,.List [] p4] c.X.env:=by rfl)
  (h2:aJ [.List [] p2,.List [] p3,.List [] p4] c.X.env=(false,ed (.List [] p2) c.X.env)::aJ [.List [] p3,.List [] p4] c.X.env:=by rfl)
  (h3:aJ [.List [] p3,.List [] p4] c.X.env=(false,ed (.List [] p3) c.X.env)::aJ [.List [] p4] c.X.env:=by rfl)
  (h4:aJ [.List [] p4] c.X.env=(false,ed (.List [] p4) c.X.env)::aJ [] c.X.env:=by rfl) :
  JS c (.Assign [.Name x pos'] (.List [.List [] p1,.List [] p2,.List [] p3,.List [] p4] p) spos) (Q4 i):=.of fun ρ=>by
 refine Aa (G1 hN hi hx (t5 (iw (t5 jL) (iw (t5 jL) (iw (t5 jL) (iw (t5 jL) jL h4) h3) h2) h1)) hs hf) fun D σ H h_0=>?_;obtain ⟨H0,Hs0,la,Hs,f,q⟩:=h_0;replace q:nW c.X.K c.cls c.E H0 Hs0 la D (Q4 i ρ):=q;obtain ⟨f,no2⟩:=f.clear2;refine ⟨cV _,fun a1 n1=>⟨cV _,fun a2 n2=>⟨cV _,fun a3 n3=>⟨cV _,fun a4 n4=>⟨cz (d_ (show 4<=1000 by decide)),fun a n=>?_⟩⟩⟩⟩⟩;have N:=lS [a1,a2,a3,a4] H a n;have N4:=lS [a1,a2,a3] H a4 n4;have N3:=lS [a1,a2] H a3 n3;have N2:=lS [a1] H a2 n2;simp only [aO,bg,or_false,not_or] at N N4 N3 N2;have nd:[a1,a2,a3,a4].Nodup:=by
  simp only [OT,aO,bg,or_false,not_or,gC,and_true,not_false_eq_true];exact ⟨⟨c9 N2.2,c9 N3.2.1,c9 N4.2.1⟩,⟨c9 N3.2.2,c9 N4.2.2.1⟩,c9 N4.2.2.2⟩
 have free:∀ b∈[a1,a2,a3,a4],H b=none:=fun b hb=>by
  simp only [aO,bg,or_false] at hb;rcases hb with rfl|rfl|rfl|rfl
  ·exact n1
  ·exact N2.1
  ·exact N3.1
  ·exact N4.1
 have nd5:(a::[a1,a2,a3,a4]).Nodup:=List.nodup_cons.mpr ⟨by simp only [aO,bg,or_false,not_or];exact N.2,nd⟩;have sm:c_ H (qD [a1,a2,a3,a4] H):=yK _ _ free nd;have all:c_ H (upd (qD [a1,a2,a3,a4] H) a (.lst [.ref a1,.ref a2,.ref a3,.ref a4])):=sm.trans (kr n);have free5:∀ b∈a::[a1,a2,a3,a4],H b=none:=fun b hb=>(List.mem_cons.mp hb).elim (fun z=>z ▸ N.1) (free b);have st:cF H Hs (upd (qD [a1,a2,a3,a4] H) a (.lst [.ref a1,.ref a2,.ref a3,.ref a4])) Hs:=⟨all,.refl _,f.st.sub.trans all,fun _ _ _ _ z=>z⟩;have f':=f.step st;have hl:i<σ.length\/¬ i<σ.length:=Decidable.em _;have nx:∀ {j:Nat}{s:Sl},(∀ d,s≠.ow2 d)->((clear2 ρ).set i (.ow2 [[],[],[],[]]))[j]?=some s->(clear2 ρ)[j]?=some s/\i≠j:=fun {j s} hs e=>by
  by_cases hj:i=j
  ·subst hj;by_cases hi:i<(clear2 ρ).length
   ·rw [aK hi] at e;exact absurd (bu e).symm (hs _)
   ·rw [cu (by simpa using hi)] at e;cases e
  ·rw [am hj] at e;exact ⟨e,hj⟩
 refine q _ _ Hs ⟨f'.st,by simp [f'.len],fun j d h=>?_,fun j d h=>?_,fun j d h=>?_,fun j k d d' b h1 h2 h3 h4=>?_,f'.lh,fun j d h=>?_,fun j k d d' h1 h2=>?_⟩
 ·obtain ⟨h,hj⟩:=nx (fun _ z=>by cases z) h;rw [am hj];exact f'.sh j d h
 ·obtain ⟨h,hj⟩:=nx (fun _ z=>by cases z) h;rw [am hj];exact f'.ow j d h
 ·obtain ⟨h,hj⟩:=nx (fun _ z=>by cases z) h;rw [am hj];exact f'.lk j d h
 ·obtain ⟨h1,hj⟩:=nx (fun _ z=>by cases z) h1;obtain ⟨h2,hk⟩:=nx (fun _ z=>by cases z) h2;rw [am hj] at h3;rw [am hk] at h4;exact f'.dj j k d d' b h1 h2 h3 h4
 ·by_cases hj:i=j
  ·subst hj;by_cases hi:i<(clear2 ρ).length
   ·rw [aK hi] at h;cases h;have at4:=E6 [a1,a2,a3,a4] H nd;have ne:∀ b∈[a1,a2,a3,a4],b≠a:=fun b hb z=>(List.nodup_cons.mp nd5).1 (z ▸ hb);have go:∀ b∈[a1,a2,a3,a4],upd (qD [a1,a2,a3,a4] H) a (.lst [.ref a1,.ref a2,.ref a3,.ref a4]) b=some (.lst []):=fun b hb=>by rw [a_ (ne b hb)];exact at4 b hb
    refine ⟨a,[a1,a2,a3,a4],aK (by rw [<- f'.len];exact hi),ba,nd5,fun b hb=>⟨f.st.sub.free (free5 b hb),f.st.all.free (free5 b hb)⟩,fun b hb k e hk=>?_,.cons (go _ (by simp)) .nil (.cons (go _ (by simp)) .nil (.cons (go _ (by simp)) .nil (.cons (go _ (by simp)) .nil .nil)))⟩;obtain ⟨hk,nk⟩:=nx (fun _ z=>by cases z) hk;rw [am nk];intro z;obtain ⟨b',o,k1,k2,_⟩:=f.ow k e hk;rw [z] at k1;cases k1;rw [free5 b hb] at k2;cases k2
   ·rw [cu (by simpa using hi)] at h;cases h
  ·rw [am hj] at h;exact (no2 j d h).elim
 ·by_cases hj:i=j
  ·by_cases hk:i=k
   ·exact hj.symm.trans hk
   ·rw [am hk] at h2;exact (no2 k d' h2).elim
  ·rw [am hj] at h1;exact (no2 j d h1).elim
theorem Mz  (h:JS c st gs):JS c st (fun ρ=>gs (fv ρ)):=.of fun ρ=>Aa (h (fv ρ)) fun D σ H h_1=>by
 obtain ⟨H0,Hs0,la,Hs,f,q⟩:=h_1;obtain ⟨Hs',f'⟩:=f.shared;exact ⟨H0,Hs0,la,Hs',f',q⟩
def shareAt (i:Nat) (ρ:az):az:=match ρ[i]? with
 |some (Sl.own d)=>ρ.set i (.shr d)
 |_=>ρ
theorem Fr.shareAt     (f:Fr K H0 Hs0 la ρ σ H Hs) (i:Nat):∃ Hs',Fr K H0 Hs0 la (J.shareAt i ρ) σ H Hs':=by
 unfold J.shareAt;split
 ·rename_i d ho
  obtain ⟨a,o,k1,k2,k3,k4,k5⟩:=f.ow i d ho;have hil:i<ρ.length:=(List.getElem?_eq_some_iff.mp ho).1;have up:c_ Hs (upd Hs a o):=kr k3;have nx:∀ {j:Nat}{s:Sl},(∀ d,s≠.shr d)->(ρ.set i (.shr d))[j]?=some s->ρ[j]?=some s/\i≠j:=fun {j s} hs e=>by
   by_cases hj:i=j
   ·subst hj;rw [aK hil] at e;exact absurd (bu e).symm (hs d)
   ·rw [am hj] at e;exact ⟨e,hj⟩
  have ne:∀ (j:Nat) (e:D) (b:ak),i≠j->ρ[j]?=some (Sl.own e)->σ[j]?=some (some (V.ref b))->b≠a:=fun j e b hj h hb z=>by
   subst z;exact hj (f.dj i j d e b ho h k1 hb)
  refine ⟨upd Hs a o,⟨f.st.all,f.st.sh.trans up,fun b u e=>?_,fun b u e t z=>?_⟩,by simp [f.len],fun j e h=>?_,fun j e h=>?_,fun j e h=>?_,fun j k d1 d2 b h1 h2 h3 h4=>?_,f.lh,fun j e h=>?_,fun j k d1 d2 h1 h2=>?_⟩
  ·by_cases hb:b=a
   ·subst hb;rw [ba] at e;cases e;exact k2
   ·rw [a_ hb] at e;exact f.st.sub b u e
  ·rw [a_ (bp e k4)];exact f.st.out b u e t z
  ·by_cases hj:i=j
   ·subst hj;rw [aK hil] at h;cases h;exact ⟨_,k1,k5.share k3⟩
   ·rw [am hj] at h;obtain ⟨v,q1,q2⟩:=f.sh j e h;exact ⟨v,q1,q2.same up⟩
  ·obtain ⟨h,hj⟩:=nx (fun _ z=>by cases z) h;obtain ⟨b,u,q1,q2,q3,q4,q5⟩:=f.ow j e h;exact ⟨b,u,q1,q2,by rw [a_ (ne j e b hj h q1)];exact q3,q4,q5.same up⟩
  ·obtain ⟨h,hj⟩:=nx (fun _ z=>by cases z) h;obtain ⟨b,u,q1,q2,q3,q4,q5,q6⟩:=f.lk j e h;exact ⟨b,u,q1,q2,q3,by rw [a_ (bp q5 k4)];exact q4,q5,q6.same up⟩
  ·exact f.dj j k d1 d2 b (nx (fun _ z=>by cases z) h1).1 (nx (fun _ z=>by cases z) h2).1 h3 h4
  ·obtain ⟨h,hj⟩:=nx (fun _ z=>by cases z) h;obtain ⟨b,as,O⟩:=f.o2 j e h;refine ⟨b,as,O.at_,O.ob,O.nd,fun c hc=>⟨?_,(O.out c hc).2⟩,fun c hc k e' hk=>O.dj c hc k e' (nx (fun _ z=>by cases z) hk).1,O.inn.step (.refl _) up⟩;rw [a_ (fun z=>O.dj c hc i d ho (by rw [z];exact k1))];exact (O.out c hc).1
  ·exact f.u2 j k d1 d2 (nx (fun _ z=>by cases z) h1).1 (nx (fun _ z=>by cases z) h2).1
 ·exact ⟨Hs,f⟩
theorem Gx (i:Nat)  (h:JS c st gs):JS c st (fun ρ=>gs (shareAt i ρ)):=.of fun ρ=>Aa (h (shareAt i ρ)) fun D σ H h_2=>by
 obtain ⟨H0,Hs0,la,Hs,f,q⟩:=h_2;obtain ⟨Hs',f'⟩:=f.shareAt i;exact ⟨H0,Hs0,la,Hs',f',q⟩
theorem AU.get    (h:AU K H Hs as dss):∀ {j:Nat}{ds:List D},dss[j]?=some ds->∃ b vs,as[j]?=some b/\H b=some (.lst vs)/\RDs K Hs vs ds:=by
 induction h with
 |nil=>intro j ds e;cases e
 |cons h r t ih =>
  intro j ds e;cases j with
  |zero=>cases e;exact ⟨_,_,rfl,h,r⟩
  |succ j=>have q:=ih (j:=j) e;exact q
theorem AU.set    (r':RDs K Hs vs' ds'):∀ {as:List ak}{dss:List (List D)}{j:Nat}{b:ak},AU K H Hs as dss->as[j]?=some b->as.Nodup->AU K (L2.upd H b (.lst vs')) Hs as (dss.set j ds')
 |_,_,_,_,.nil,h,_=>by simp at h
 |_,_,0,b,.cons h r t,e,nd=>by
  simp at e;subst e;exact .cons ba r' (t.upd (List.nodup_cons.mp nd).1)
 |_,_,j+1,b,.cons (a:=a) h r t,e,nd=>by
  have e':_:=e;simp only [jm] at e';obtain ⟨n1,n2⟩:=List.nodup_cons.mp nd;have hb:b∈_:=df e';exact .cons (by rw [a_ (fun z=>n1 (by rw [z];exact hb))];exact h) r (AU.set r' t e' n2)
def nX (i:Nat) (gi g:az->R D):az->R Fl:=fun ρ=>match ρ[i]? with
 |some (Sl.ow2 dss)=>(gi ρ).bind fun k=>match k with
  |.int j=>if 0<=j then (match dss[j.toNat]? with
   |some ds=>(g ρ).bind fun d=>if ds.length<1000 then .ok (.nx (ρ.set i (.ow2 (dss.set j.toNat (ds++[d]))))) else .no
   |none=>.no) else .no
  |_=>.no
 |_=>.no
theorem yL (i:Nat) (hie:JE c ie gi) (h:JE c e g) (hN:c.X.N[i]?=some x:=by rfl) (hv:P3 c.X.env.scope x:=by first|exact iI rfl|exact fB (iI rfl)|exact fB (fB rfl)) (hd:(x==("__debug__" : Str))=false:=by decide)
  (hcd:(x==("__classdict__" : Str))=false:=by decide) (hpx:uC ie:=by exact fun _ _=>rfl)
  (hbase:Jb (.Subscript (.Name x p) ie p3) "append" c.X.env (ed (.Subscript (.Name x p) ie p3) c.X.env)=ed (.Subscript (.Name x p) ie p3) c.X.env:=by rfl)
  (hfew:((fU cpos (aJ [e] c.X.env)).all (fun x=>!x.1)&&(backToKw cpos (OE [] c.X.env)).all (fun x=>x.1.isSome)
   && decide ([e].length+([] : List zS).length+(if ([] : List zS).isEmpty then 0 else 1)<30))=true:=by rfl)
  (hline:(apos.endLine==cpos.line)=true:=by rfl) (hst:aJ [e] c.X.env=(false,ed e c.X.env)::aJ [] c.X.env:=by rfl) (hplain:(fU cpos (aJ [] c.X.env)).any (·.1)=false:=by rfl)
  (hs:gX (.Call (.Attribute (.Subscript (.Name x p) ie p3) "append" apos) [e] [] cpos) none pos.line c.X.env=pure false:=by rfl) :
  JS c (.Expr (.Call (.Attribute (.Subscript (.Name x p) ie p3) "append" apos) [e] [] cpos) pos) (nX i gi g):=.of fun ρ=>by
 refine Aa (BN (Re AE zY zZ AN (R9 xI (sZ hN hv hd hcd) (hie ρ) hpx) (iw (h ρ) jL hst) hbase hfew hline hst hplain) hs) fun D σ H h_3=>?_;obtain ⟨H0,Hs0,la,Hs,f,q⟩:=h_3;replace q:nW c.X.K c.cls c.E H0 Hs0 la D (nX i gi g ρ):=q;unfold nX at q;split at q
 ·rename_i dss ho
  obtain ⟨a,as,O⟩:=f.o2 i dss ho;refine ⟨_,O.at_,?_⟩;refine sE f q fun k v H1 Hs1 e1 s1 f1 r1=>?_;rw [e1,bind_ok] at q;cases r1 with
  |int j =>
   simp only at q;by_cases hj:0<=j
   ·rw [if_pos hj] at q;split at q
    ·rename_i ds hds
     obtain ⟨b,vs,hb,hH,rv⟩:=O.inn.get hds;have hix:Dg (as.map V.ref) j=some (.ref b):=by
      have:=r9 (xs:=as.map V.ref) (j:=j.toNat) (v:=V.ref b) (by rw [aW,hb];rfl)
      rwa [eh hj] at this
     refine ⟨a,_,j,_,rfl,rfl,.of (s1.all _ _ O.ob),hix,.inl ⟨rfl,_,.of (s1.all _ _ hH)⟩,?_⟩;refine sE f1 q fun d w H2 Hs2 e2 s2 f2 r2=>?_;rw [e2,bind_ok] at q;by_cases hl:ds.length<1000
     ·rw [if_pos hl] at q;have st:=s1.trans s2;refine ⟨b,vs,w,rfl,rfl,st.all _ _ hH,d_ (by rw [rv.length];omega),?_⟩;have hil:i<ρ.length:=(List.getElem?_eq_some_iff.mp ho).1;obtain ⟨a',as',O2'⟩:=f2.o2 i dss ho;have ea:a'=a:=by
       have:=O2'.at_;rw [O.at_] at this;cases this;rfl
      subst ea;have eas:as'=as:=by
       have h1:=O2'.ob;rw [st.all _ _ O.ob] at h1;injection h1 with h1;injection h1 with h1;exact (KW (fun x y z=>by cases z;rfl) |>.mp h1).symm
      subst eas;have hbm:b∈a'::as':=a9 _ (df hb);have nb:b≠a':=fun z=>(List.nodup_cons.mp O.nd).1 (z ▸ df hb);obtain ⟨bs,b0⟩:=O2'.out b hbm;have nx:∀ {j':Nat}{s:Sl},(∀ d,s≠.ow2 d)->(ρ.set i (.ow2 (dss.set j.toNat (ds++[d]))))[j']?=some s->ρ[j']?=some s/\i≠j':=fun {j' s} hs e=>by
       by_cases hj:i=j'
       ·subst hj;rw [aK hil] at e;exact absurd (bu e).symm (hs _)
       ·rw [am hj] at e;exact ⟨e,hj⟩
      refine q _ _ Hs2 ⟨⟨fun c u e=>?_,f2.st.sh,fun c u e=>?_,f2.st.out⟩,by simp [f2.len],fun j' d' h=>f2.sh j' d' (nx (fun _ z=>by cases z) h).1,fun j' d' h=>?_,fun j' d' h=>?_,fun j' k' d' e' a h1 h2=>f2.dj j' k' d' e' a (nx (fun _ z=>by cases z) h1).1 (nx (fun _ z=>by cases z) h2).1,f2.lh,fun j' d' h=>?_,fun j' k' d' e' h1 h2=>?_⟩
      ·rw [a_ (bp e b0)];exact f2.st.all c u e
      ·rw [a_ (bp e bs)];exact f2.st.sub c u e
      ·obtain ⟨h,_⟩:=nx (fun _ z=>by cases z) h;obtain ⟨c',u,k1,k2,k3,k4,k5⟩:=f2.ow j' d' h;refine ⟨c',u,k1,?_,k3,k4,k5⟩;rw [a_ (fun z=>O2'.dj b hbm j' d' h (by rw [<- z];exact k1))];exact k2
      ·obtain ⟨h,_⟩:=nx (fun _ z=>by cases z) h;obtain ⟨c',u,k1,k2,k3,k4,k5,k6⟩:=f2.lk j' d' h;refine ⟨c',u,k1,k2,?_,k4,k5,k6⟩;rw [a_ (bp k5 b0)];exact k3
      ·by_cases hj':i=j'
       ·subst hj';rw [aK hil] at h;cases h;refine ⟨a',as',O2'.at_,by rw [a_ (c9 nb)];exact O2'.ob,O2'.nd,O2'.out,fun c hc k e' hk=>O2'.dj c hc k e' (nx (fun _ z=>by cases z) hk).1,?_⟩;exact AU.set ((rv.same st.sh).append (.cons r2 .nil)) O2'.inn hb (List.nodup_cons.mp O2'.nd).2
       ·rw [am hj'] at h;exact (hj' (f2.u2 i j' _ _ ho h)).elim
      ·by_cases hj':i=j'
       ·by_cases hk':i=k'
        ·exact hj'.symm.trans hk'
        ·rw [am hk'] at h2;exact (hk' (f2.u2 i k' _ _ ho h2)).elim
       ·rw [am hj'] at h1;exact (hj' (f2.u2 i j' _ _ ho h1)).elim
     ·rw [if_neg hl] at q;exact q.elim
    ·exact q.elim
   ·rw [if_neg hj] at q;exact q.elim
  |none=>exact q.elim
  |bool _=>exact q.elim
  |str _=>exact q.elim
  |list _ _=>exact q.elim
  |tuple _ _=>exact q.elim
  |dictK _ _=>exact q.elim
  |dictT _ _ _=>exact q.elim
  |dictF _ _ _=>exact q.elim
 ·exact q.elim
end
end
section
open PyProof.Rows (OwnCls)
section
end
section
end
structure Er (mg:Str->Option af) (base:bE) (cls:Str->ak) (x:Str):Prop where
 ex:∃ bmB newId initId Bn,OwnCls x (cls x) bmB newId mg base/\ExcBaseFacts Bn newId initId bmB
def qF (x:Str) (gs:az->R (List D)):az->R Fl:=fun ρ=>(gs ρ).bind fun ds=>if ds.length<=1000 then .ex x none else .no
section
theorem qG {x:Str}{np cpos pos:Pos}{e0:bd}{bT:List bd}{gs:az->R (List D)} (R0:Er mg base cls x)
  (hg:Gl (jn (oJ P w) P w K mg base N qual scope f cd A outer s H E) x) (ha:HN ⟨jn (oJ P w) P w K mg base N qual scope f cd A outer s H E,cls,E⟩ (e0::bT) gs)
  (he:aJ (e0::bT) (jn (oJ P w) P w K mg base N qual scope f cd A outer s H E).env=(false,ed e0 (jn (oJ P w) P w K mg base N qual scope f cd A outer s H E).env)::aJ bT (jn (oJ P w) P w K mg base N qual scope f cd A outer s H E).env:=by rfl)
  (hdb:(x==("__debug__" : Str))=false:=by decide) (hpl:(fU cpos (aJ bT (jn (oJ P w) P w K mg base N qual scope f cd A outer s H E).env)).any (·.1)=false:=by rfl) :
  JS ⟨jn (oJ P w) P w K mg base N qual scope f cd A outer s H E,cls,E⟩ (.Raise (some (.Call (.Name x np) (e0::bT) [] cpos)) none pos) (qF x gs):=.of fun ρ=>by
 obtain ⟨bmB,newId,initId,Bn,O,FB⟩:=R0.ex;refine Aa (M9 O FB hg (ha ρ) he hdb hpl) fun D σ H1 h_1=>?_;obtain ⟨H0,Hs0,la,Hs,f,q⟩:=h_1;replace q:nW K cls E H0 Hs0 la D (qF x gs ρ):=q;refine ⟨H0,Hs0,la,Hs,f,?_⟩;unfold qF at q;cases hr:gs ρ with
 |no=>rw [hr] at q;exact q
 |ex y n=>rw [hr] at q;exact fun H' Hs' s=>q H' Hs' (f.st.trans s)
 |ok ds =>
  rw [hr,bind_ok] at q;intro vs H2 Hs2 s2 r2;by_cases hl:ds.length<=1000
  ·rw [if_pos hl] at q;exact ⟨cz (d_ (by rw [r2.length];exact hl)),q H2 Hs2 (f.st.trans s2)⟩
  ·rw [if_neg hl] at q;exact q.elim
end
end
section
structure Bi (mg:Str->Option af):Prop where
 len:mg "len"=none
 isinstance:mg "isinstance"=none
 all:mg "all"=none
 any:mg "any"=none
 zip:mg "zip"=none
 tuple:mg "tuple"=none
 list:mg "list"=none
 sorted:mg "sorted"=none
 set:mg "set"=none
 range:mg "range"=none
 enumerate:mg "enumerate"=none
 dict:mg "dict"=none
 sum:mg "sum"=none
 max:mg "max"=none
 min:mg "min"=none
 reversed:mg "reversed"=none
 str:mg "str"=none
 int:mg "int"=none
 bool:mg "bool"=none
end
section
def bits (j:Nat):List Bool:=[decide (0=j),decide (1=j),decide (2=j),decide (3=j),decide (4=j),decide (5=j),decide (6=j),decide (7=j),decide (8=j),decide (9=j),decide (10=j)]
section
end
end
end J
section
namespace J
open PySem L2
section
end
end J
namespace L2
open PySem
end L2
end
namespace J
open PySem L2
section
open PyProof.Rows (OwnCls)
abbrev Q5:List af:=[.type "ValueError",.type "Exception",.type "BaseException",.type "object"]
theorem Tg {K:a8}{h:bE}{mg:Str->Option af}{x:Str}{C:ak}{bmB:List af}{newId:String} (X:K.In h) (G:h.Ns bt mg) (e:eX K bt x=some (some (.ref C))) (q:z_ K C bmB newId=true) (m1:dB K C (.type "BaseException")=some true) :
  OwnCls x C bmB newId mg h/\∃ bm,UO h C bm/\∀ v,(v==bK C)=false->dB K C v=some true->bm.contains v=true:=by
 have hmg:=k7 X G e;unfold z_ at q;split at q
 ·rename_i dd cd sl look
  split at q
  ·rename_i C' bm k0 k1 k2 k3 n k5 hmro hslots
   simp only [aF,beq_iff_eq,Lf] at q;obtain ⟨⟨⟨⟨⟨rfl,rfl⟩,nodel⟩,tl⟩,nsok⟩,noinit⟩:=q;have slots:sl=#[k0,k1,k2,k3,some (.builtin n),k5]:=by
    cases sl with|mk l=>simp only at hslots;rw [hslots]
   have inMro:∀ v,dB K C' v=some true->cd.mro.contains v=true:=fun v hv=>by
    unfold dB sx at hv;rw [look] at hv;simp only [ou] at hv;split at hv
    ·cases hv
    ·exact bu hv
   have bT:∀ v,(v==bK C')=false->dB K C' v=some true->bm.contains v=true:=fun v nv hv=>by
    have:=inMro v hv;rw [hmro,KY,nv,oh] at this;exact this
   obtain ⟨nm,bs,mro,ns,qn,hd,sn,sub,ab,col,del⟩:=cd;dsimp only at hmro nodel nsok noinit;subst hmro nodel slots;have at_:=X _ _ look;exact ⟨⟨hmg,bm,ns,nm,qn,bs,hd,sn,sub,ab,col,dd,k0,k1,k2,k3,k5,_,at_,.of_isNs (lN X nsok),eC X nsok noinit,PySem.W.tail_of_in X tl⟩,
    bm,⟨⟨nm,qn,ns,bs,hd,sn,sub,ab,col,dd,k0,k1,k2,k3,k5,n,at_⟩,bT _ rfl m1⟩,bT⟩
  ·cases q
 ·cases q
structure TopC (K:a8) (x:Str) (C:ak):Prop where
 ns:eX K bt x=some (some (.ref C))
 ex:z_ K C Q5 "ValueError.__new__"=true
 mb:dB K C (.type "BaseException")=some true
theorem TopC.er {K:a8}{h:bE}{mg:Str->Option af}{cls:Str->ak}{x:Str}{C:ak} (T:TopC K x C) (X:K.In h) (G:h.Ns bt mg) (hc:cls x=C):Er mg h cls x:=by
 subst hc;exact ⟨_,_,_,_,(Tg X G T.ns T.ex T.mb).1,PySem.F.excBase_ValueError⟩
inductive Ve (K:a8) (F:List D->R D) (vs:List V) (H:Hp) (Q:VK) (z_3:XK):Prop
 |mk (Hs ds d:_) (h0:c_ Hs H) (h1:ds.length=1) (h2:RDs K Hs vs ds) (h3:F ds=.ok d) (h4:∀ v H' Hs',cF H Hs H' Hs'->RD K Hs' v d->Q v H'):Ve K F vs H Q z_3
def Vf (K:a8) (F:List D->R D):Sp:=Ve K F
theorem Th   : ∀ vs H Q E,Vf K F vs H Q E->Rs K cls 1 F vs H Q E:=fun vs H Q E ⟨Hs,ds,d,s,l,r,e,q⟩=>⟨Hs,ds,s,l,r,by rw [e];exact q⟩
def Vg (l:List (Str×ak)):Str->ak:=fun x=>(l.lookup x).getD 0
theorem Ti {K:a8}{F:List D->R D}{H:Hp}{a:ak}{ns:List Int} (hF:F [.list (ns.map .int)]=.ok (.bool true)) (h:ni K H a (ns.map V.int)):Vf K F [.ref a] H (fun v _=>v=.bl true) fun _ _ _=>False:=by
 have ri:∀ ns:List Int,RDs K H (ns.map V.int) (ns.map .int):=fun ns=>by
  induction ns with
  |nil=>exact .nil
  |cons x r ih=>exact .cons (.int x) ih
 refine ⟨H,[.list (ns.map .int)],.bool true,.refl H,rfl,.cons (.list h (ri ns)) .nil,hF,?_⟩;intro v H' Hs' _ r;cases r;rfl
theorem Tj      (h:oJ P w [] H s (fun _ _ _=>False) e s'):False:=by
 obtain ⟨_,_,_,_,_,_,_,_,_,q⟩:=h;exact q
theorem walkF {l:xg}{k:Nat}{q:aX}{loose:List Str}{XP:(Str->Option af)->bE->Prop}{YP:bn->bE->Prop}{d:DefRec}{K:Params->a8}{x:Str}{F0:List D->R D}
  (hn:l.most=some 63) (hdf:d.params.defaults=[]) (hr:i_ k wE) (c0 P0:ak) (q0:Str) (hY:∀ (w:bn) (h:bE),YP w h->(K w.params).In h) (hT:∀ (w:bn) (h:bE),YP w h->h.get? P0=some { cls:=.none,data:=.fields #[] }) (hTK:∀ w:bn,tj (K w.params) c0 P0 q0=true)
  (F:∀ (w:bn) (mg:Str->Option af) (fa:ak) (h:bE),(K w.params).In h->h.Ns bt mg->mg d.name=some (.ref fa) ->
   ∃ fd:eK,(∀ (s:ai) (u:af),zR s fd ⟨[u],[]⟩ [(x,u)])/\∀ base:bE,(K w.params).In base->base.Ns bt mg->sf l.prog w (K w.params) mg base (oJ l.prog w) k fa fd [x] (Vf (K w.params) F0))
  (hF:∀ ns:List Int,ns.length<=63->F0 [.list (ns.map .int)]=.ok (.bool true)) :
  Os q loose XP YP l.row.toRowW d [] (fun f vs=>Jc f vs) :=
 L2.Pq (n:=63) (k:=k) (x:=x) (CX:=fun w=>oJ l.prog w) (sp:=fun w=>Vf (K w.params) F0) hn (by decide) hdf hr c0 P0 q0 hY hT hTK F (fun w H a ns hl _ hS=>Ti (hF ns hl) hS) fun _ _ _ _ _ h=>Tj h
def Rv (i:Nat) (g:az->R Fl):az->R Fl:=fun ρ=>g (shareAt i ρ)
theorem Gy (i:Nat)  (h:JS c st gs):JS c st (Rv i gs):=Gx i h
end
section
section
theorem xw {α β:Type} (a:α) (f:α->R β):(R.ok a).bind f=f a:=id rfl
def Q6 (h:az->R Fl):Fl->R Fl:=fun fl=>match fl with
 |.nx ρ'=>h ρ'
 |fl=>.ok fl
theorem E7 (g h:az->R Fl):aQ g h (s::ρ)=(g (s::ρ)).bind (Q6 h):=id rfl
theorem uX (h:az->R Fl) (ρ:az):Q6 h (.nx ρ)=h ρ:=id rfl
theorem E8 (h:az->R Fl) (d:D):Q6 h (.rt d)=.ok (.rt d):=id rfl
def X8 (g h:az->R Fl) (ρ:az):Bool->R Fl:=fun b=>bif b then g ρ else h ρ
theorem Vh (t:az->R Bool) (g h:az->R Fl):eg t g h (s::ρ)=(t (s::ρ)).bind (X8 g h (s::ρ)):=by
 show (t (s::ρ)).bind _=_;congr 1;funext b;cases b<;>rfl
theorem MA (g h:az->R Fl) (ρ:az):X8 g h ρ false=h ρ:=id rfl
theorem MB (g h:az->R Fl) (ρ:az) (b:Bool):X8 g h ρ b=bif b then g ρ else h ρ:=id rfl
def XQ:D->R Fl:=fun d=>.ok (.rt d)
theorem Rw (g:az->R D):cL g (s::ρ)=(g (fv (s::ρ))).bind XQ:=id rfl
theorem Vi (d:D):XQ d=.ok (.rt d):=id rfl
def yM:Sl->Sl
 |.own d=>.shr d
 |.ow2 dss=>.shr (.list (dss.map .list))
 |s=>s
theorem Ic:fv (s::ρ)=yM s::fv ρ:=by cases s<;>rfl
theorem E9:fv []=[]:=id rfl
theorem Ie:yM .no=.no:=id rfl
theorem Ea (d:D):yM (.shr d)=.shr d:=id rfl
theorem Eb (d:D):yM (.own d)=.shr d:=id rfl
theorem Ec (d:List (List D)):yM (.ow2 d)=.shr (.list (d.map .list)):=id rfl
def Vj (i:Nat) (ρ:az):D->R Fl:=fun d=>.ok (.nx (ρ.set i (.shr d)))
theorem MC (i:Nat) (g:az->R D):eZ i g (s::ρ)=(g (s::ρ)).bind (Vj i (s::ρ)):=id rfl
theorem MD (i:Nat) (ρ:az) (d:D):Vj i ρ d=.ok (.nx (ρ.set i (.shr d))):=id rfl
def Rx (i:Nat) (ρ:az):D->R Fl:=fun d=>.ok (.nx (ρ.set i (.own d)))
theorem ME (i:Nat) (g:az->R D):gj i g (s::ρ)=(g (s::ρ)).bind (Rx i (s::ρ)):=id rfl
theorem Ig (i:Nat) (ρ:az) (d:D):Rx i ρ d=.ok (.nx (ρ.set i (.own d))):=id rfl
def LH (ρ:az):D->R Fl:=fun _=>.ok (.nx ρ)
theorem MF (g:az->R D):uS g (s::ρ)=(g (s::ρ)).bind (J.LH (s::ρ)):=id rfl
theorem Ih (ρ:az) (d:D):J.LH ρ d=.ok (.nx ρ):=id rfl
def XR (gb:az->R D) (h:D->D->R D) (ρ:az):D->R D:=fun x=>(gb ρ).bind (h x)
theorem Vk (ga gb:az->R D) (h:D->D->R D):g2 ga gb h (s::ρ)=(ga (s::ρ)).bind (XR gb h (s::ρ)):=id rfl
theorem Ry (gb:az->R D) (h:D->D->R D) (ρ:az) (x:D):XR gb h ρ x=(gb ρ).bind (h x):=id rfl
def JZ:D->R Bool:=fun d=>match d with
 |.bool b=>.ok b
 |_=>.no
theorem Rz (g:az->R D):eJ g (s::ρ)=(g (s::ρ)).bind JZ:=id rfl
theorem MG (b:Bool):JZ (.bool b)=.ok b:=id rfl
def Vl:Bool->R Bool:=fun b=>.ok (!b)
theorem RA (g:az->R Bool):jj g (s::ρ)=(g (s::ρ)).bind Vl:=id rfl
theorem MH (b:Bool):Vl b=.ok (!b):=id rfl
def Vm (h:az->R Bool) (ρ:az):Bool->R Bool:=fun b=>bif b then h ρ else .ok false
def XS (h:az->R Bool) (ρ:az):Bool->R Bool:=fun b=>bif b then .ok true else h ρ
theorem RC (g h:az->R Bool):yu g h (s::ρ)=(g (s::ρ)).bind (Vm h (s::ρ)):=by
 show (g (s::ρ)).bind _=_;congr 1;funext b;cases b<;>rfl
theorem Vn (g h:az->R Bool):Dh g h (s::ρ)=(g (s::ρ)).bind (XS h (s::ρ)):=by
 show (g (s::ρ)).bind _=_;congr 1;funext b;cases b<;>rfl
theorem MI (h:az->R Bool) (ρ:az) (b:Bool):Vm h ρ b=bif b then h ρ else .ok false:=id rfl
theorem RE (h:az->R Bool) (ρ:az) (b:Bool):XS h ρ b=bif b then .ok true else h ρ:=id rfl
def RF:Bool->R D:=fun b=>.ok (.bool (!b))
theorem MJ (g:az->R D):DO g (s::ρ)=((g (s::ρ)).bind JZ).bind RF:=id rfl
theorem Ii (b:Bool):RF b=.ok (.bool (!b)):=id rfl
def RG (h:az->R D) (ρ:az):Bool->R D:=fun b=>bif b then h ρ else .ok (.bool false)
theorem MK (g h:az->R D):uP g h (s::ρ)=((g (s::ρ)).bind JZ).bind (RG h (s::ρ)):=by
 show (eJ g (s::ρ)).bind _=(eJ g (s::ρ)).bind _;congr 1;funext b;cases b<;>rfl
theorem Ij (h:az->R D) (ρ:az) (b:Bool):RG h ρ b=bif b then h ρ else .ok (.bool false):=id rfl
def Vo (gb gc:az->R D) (h h':D->D->R D) (ρ:az):D->R D:=fun x=>(gb ρ).bind fun y=>(h x y).bind fun z=>match z with
 |.bool true=>(gc ρ).bind fun w=>h' y w
 |.bool false=>.ok (.bool false)
 |_=>.no
def Vp (gc:az->R D) (h h':D->D->R D) (ρ:az) (x:D):D->R D:=fun y=>(h x y).bind fun z=>match z with
 |.bool true=>(gc ρ).bind fun w=>h' y w
 |.bool false=>.ok (.bool false)
 |_=>.no
def Vq (gc:az->R D) (h':D->D->R D) (ρ:az) (y:D):D->R D:=fun z=>match z with
 |.bool true=>(gc ρ).bind (h' y)
 |.bool false=>.ok (.bool false)
 |_=>.no
theorem Ik (ga gb gc:az->R D) (h h':D->D->R D):qz ga gb gc h h' (s::ρ)=(ga (s::ρ)).bind (Vo gb gc h h' (s::ρ)):=id rfl
theorem ML (gb gc:az->R D) (h h':D->D->R D) (ρ:az) (x:D):Vo gb gc h h' ρ x=(gb ρ).bind (Vp gc h h' ρ x):=id rfl
theorem MM (gc:az->R D) (h h':D->D->R D) (ρ:az) (x y:D):Vp gc h h' ρ x y=(h x y).bind (Vq gc h' ρ y):=id rfl
theorem MN (gc:az->R D) (h':D->D->R D) (ρ:az) (y:D) (b:Bool):Vq gc h' ρ y (.bool b)=bif b then (gc ρ).bind (h' y) else .ok (.bool false):=by cases b<;>rfl
def MO (gs:az->R (List D)) (ρ:az):D->R (List D):=fun d=>(gs ρ).bind fun ds=>.ok (d::ds)
def MP (d:D):List D->R (List D):=fun ds=>.ok (d::ds)
theorem MQ (g:az->R D) (gs:az->R (List D)):J.ac g gs (s::ρ)=(g (s::ρ)).bind (MO gs (s::ρ)):=id rfl
theorem Ed (gs:az->R (List D)) (ρ:az) (d:D):MO gs ρ d=(gs ρ).bind (MP d):=id rfl
theorem Ee (d:D) (ds:List D):MP d ds=.ok (d::ds):=id rfl
theorem RH (ρ:az):J.aG ρ=.ok []:=id rfl
def RI (k:List D->D):List D->R D:=fun ds=>if ds.length<=1000 then .ok (k ds) else .no
theorem MR (gs:az->R (List D)) (k:List D->D):eL gs k (s::ρ)=(gs (s::ρ)).bind (RI k):=id rfl
theorem Il (k:List D->D) (ds:List D):RI k ds=if ds.length<=1000 then .ok (k ds) else .no:=id rfl
theorem MS (gs:az->R (List D)) (h:List D->R D):bS gs h (s::ρ)=(gs (s::ρ)).bind h:=id rfl
def XT (n:Nat) (F:List D->R D):List D->R D:=fun ds=>if ds.length=n then F ds else .no
theorem Vr (n:Nat) (F:List D->R D) (gs:az->R (List D)):ej n F gs (s::ρ)=(gs (s::ρ)).bind (XT n F):=id rfl
theorem RJ (n:Nat) (F:List D->R D) (ds:List D):XT n F ds=if ds.length=n then F ds else .no:=id rfl
theorem RK (h:D->R D) (d:D):gK h [d]=h d:=id rfl
theorem MT (d:D) (ρ:az):FE (.shr d::ρ) 0=.ok d:=id rfl
theorem RL (s:Sl) (ρ:az) (n:Nat):FE (s::ρ) (n+1)=FE ρ n:=by simp [FE]
theorem MU (d:D) (ρ:az):FF (.shr d::ρ) 0=.ok d:=id rfl
theorem MV (d:D) (ρ:az):FF (.own d::ρ) 0=.ok d:=id rfl
theorem RM (s:Sl) (ρ:az) (n:Nat):FF (s::ρ) (n+1)=FF ρ n:=by simp [FF]
def Vs (T:String):D->R D:=fun d=>if sD d then .ok (.bool (C7 T d)) else .no
theorem RN (g:az->R D) (T:String):tF g T (s::ρ)=(g (s::ρ)).bind (Vs T):=id rfl
theorem MW (T:String) (d:D):Vs T d=if sD d then .ok (.bool (C7 T d)) else .no:=id rfl
def Vt (gl gh:az->R (Option Int)) (ρ:az):D->R D:=fun x=>(gl ρ).bind fun l=>(gh ρ).bind fun h=>HU x l h
def Vu (gh:az->R (Option Int)) (ρ:az) (x:D):Option Int->R D:=fun l=>(gh ρ).bind fun h=>HU x l h
theorem Vv (g:az->R D) (gl gh:az->R (Option Int)):Rq g gl gh (s::ρ)=(g (s::ρ)).bind (Vt gl gh (s::ρ)):=id rfl
theorem MX (gl gh:az->R (Option Int)) (ρ:az) (x:D):Vt gl gh ρ x=(gl ρ).bind (Vu gh ρ x):=id rfl
theorem MY (gh:az->R (Option Int)) (ρ:az) (x:D) (l:Option Int):Vu gh ρ x l=(gh ρ).bind (HU x l):=id rfl
theorem RO (ρ:az):Ua ρ=.ok none:=id rfl
def Vw:D->R (Option Int):=fun d=>match d with
 |.int i=>.ok (some i)
 |_=>.no
theorem RP (g:az->R D):PR g (s::ρ)=(g (s::ρ)).bind Vw:=id rfl
theorem MZ (i:Int):Vw (.int i)=.ok (some i):=id rfl
theorem Tk (g:az->R D):jO g (s::ρ)=(g (s::ρ)).bind yB:=id rfl
theorem M_ (gs:az->R (List D)):A_ gs (s::ρ)=(gs (s::ρ)).bind Gv:=id rfl
theorem RQ (gs:az->R (List D)):DX gs (s::ρ)=(gs (s::ρ)).bind Wi:=id rfl
theorem RS (gs:az->R (List D)):PZ gs (s::ρ)=(gs (s::ρ)).bind zp:=id rfl
def RT (nt:Nat) (ix:List Nat) (gt:az->R Bool) (ge:az->R D) (ρ:az):List D->R D:=fun ds=>if ds.length<=1000 then (gQ (iQ nt (jP nt ix ρ) gt ge) ds).bind fun ys=>.ok (.list ys) else .no
def RU:List D->R D:=fun ys=>.ok (.list ys)
theorem N0 (nt:Nat) (ix:List Nat) (gi:az->R (List D)) (gt:az->R Bool) (ge:az->R D):eN nt ix gi gt ge (s::ρ)=(gi (s::ρ)).bind (RT nt ix gt ge (s::ρ)):=id rfl
theorem Im (nt:Nat) (ix:List Nat) (gt:az->R Bool) (ge:az->R D) (ρ:az) (ds:List D):RT nt ix gt ge ρ ds=if ds.length<=1000 then (gQ (iQ nt (jP nt ix ρ) gt ge) ds).bind RU else .no:=id rfl
theorem Io (ys:List D):RU ys=.ok (.list ys):=id rfl
theorem pZ (gi:az->R (List D)) (kt:D->az->R az) (gb:az->R Fl) (ds:List D) (h:gi (s::ρ)=.ok ds):nu gi kt gb (s::ρ)=j4 kt gb ds (s::ρ):=by unfold nu;rw [h]
def N1 (k:D->az->R az) (ρ:az):D->R Fl:=fun d=>match k d ρ with
 |.ok ρ'=>.ok (.nx ρ')
 |_=>.no
theorem RV (g:az->R D) (k:D->az->R az):yz g k (s::ρ)=(g (s::ρ)).bind (N1 k (s::ρ)):=id rfl
theorem B1 (ds:List D):yB (.list ds)=.ok ds:=id rfl
theorem B2 (ds:List D):yB (.tuple ds)=.ok ds:=id rfl
theorem B3 (x:Str):yB (.str x)=.ok (nr x):=id rfl
theorem N5 (ds:List D):Wi [.tuple ds]=.ok (pY 0 ds):=id rfl
theorem Vx (ds es:List D):zp [.tuple ds,.tuple es]=.ok (xu ds es):=id rfl
def B4 (ρ:az) (i:Nat):Sl:=Q0 ((ρ[i]?).getD .no)
def N6 (ix:List Nat) (ρ:az):az:=ix.map (B4 ρ)
theorem N7 (ix:List Nat) (ρ:az):jP 1 ix ρ=.no::N6 ix ρ:=id rfl
theorem N8 (ix:List Nat) (ρ:az):jP 2 ix ρ=.no::.no::N6 ix ρ:=id rfl
theorem N9 (ρ:az):N6 [] ρ=[]:=id rfl
theorem Na (i:Nat) (ix:List Nat) (ρ:az):N6 (i::ix) ρ=B4 ρ i::N6 ix ρ:=id rfl
theorem Nb (s:Sl) (ρ:az):B4 (s::ρ) 0=Q0 s:=id rfl
theorem Nc (s:Sl) (ρ:az) (n:Nat):B4 (s::ρ) (n+1)=B4 ρ n:=by simp [B4]
theorem B5 (d:D):Q0 (.shr d)=.shr d:=id rfl
theorem Ch   (h:ρ[i]?=some (Sl.own d)):shareAt i ρ=ρ.set i (.shr d):=by unfold shareAt;rw [h]
theorem dO {α:Type} (f:D->R (Option D)) (c:α->D) (h:α->D):∀ (xs:List α),(∀ x∈xs,f (c x)=.ok (some (h x)))->gQ f (xs.map c)=.ok (xs.map h)
 |[],_=>rfl
 |x::r,e=>by
  rw [aB,aB];unfold gQ;rw [e x ah,bind_ok,dO f c h r fun y hy=>e y (a9 _ hy),bind_ok]
theorem eE {α:Type} (f:D->R (Option D)) (c:α->D) (h:α->D) (p:α->Bool):∀ (xs:List α),(∀ x∈xs,f (c x)=.ok (if p x then some (h x) else none))->gQ f (xs.map c)=.ok ((xs.filter p).map h)
 |[],_=>rfl
 |x::r,e=>by
  rw [aB];unfold gQ;rw [e x ah,bind_ok,eE f c h p r fun y hy=>e y (a9 _ hy),bind_ok];cases hp:p x<;>simp [hp]
theorem RW    : iQ 1 ρ gt ge d=JV (((gt (ρ.set 0 (.shr d)))).bind fun b=>if b then (ge (ρ.set 0 (.shr d))).bind fun y=>.ok (some y) else .ok none):=id rfl
theorem fP    (h1:gt (ρ.set 0 (.shr d))=.ok true) (h2:ge (ρ.set 0 (.shr d))=.ok y):iQ 1 ρ gt ge d=.ok (some y):=by
 rw [RW,h1,bind_ok,if_pos rfl,h2];rfl
theorem oU     (h1:gt (ρ.set 0 (.shr d))=.ok b) (h2:b=true->ge (ρ.set 0 (.shr d))=.ok y):iQ 1 ρ gt ge d=.ok (if b then some y else none):=by
 rw [RW,h1,bind_ok];cases b with
 |true=>rw [if_pos rfl,h2 rfl];rfl
 |false=>rfl
theorem Q7 (h1:-(2 ^ 62)<=j) (h2:j<2 ^ 62):Gv [.int j]=.ok (qC 0 j.toNat):=by
 have h:-(2 ^ 62)<=j/\j<2 ^ 62:=⟨h1,h2⟩;unfold Gv;split
 ·rename_i j' e
  have e':j=j':=by injection e with e;injection e
  subst e';rw [if_pos h]
 ·rename_i hn
  exact (hn j rfl).elim
end
end
end J
section
namespace L2
open PySem PySem.Spec PyProof.Rows
end L2
namespace J
open PySem L2
open PyProof.Rows (envOfC)
section
end
section
variable {c:C}{body:List cP}{x n:Str}{np np2 np3 hpos cpos rpos pos:Pos}{gb:az->R Fl}{names:List Str}{wh:Str->Option Nat}
end
theorem Y2 {α:Type}{us:List α} (h:us.length=1):∃ a,us=[a]:=by
 rcases us with _|⟨a0,_|⟨z,r⟩⟩
 ·simp at h
 ·exact ⟨_,rfl⟩
 ·simp at h
theorem X9 {α:Type}{us:List α} (h:us.length=2):∃ a b,us=[a,b]:=by
 rcases us with _|⟨a0,_|⟨a0,_|⟨z,r⟩⟩⟩
 ·simp at h
 ·simp at h
 ·exact ⟨_,_,rfl⟩
 ·simp at h
theorem Y3 {α:Type}{us:List α} (h:us.length=3):∃ a b c,us=[a,b,c]:=by
 rcases us with _|⟨a0,_|⟨a0,_|⟨a0,_|⟨z,r⟩⟩⟩⟩
 ·simp at h
 ·simp at h
 ·simp at h
 ·exact ⟨_,_,_,rfl⟩
 ·simp at h
theorem Y4 {α:Type}{us:List α} (h:us.length=4):∃ a b c d,us=[a,b,c,d]:=by
 rcases us with _|⟨a0,_|⟨a0,_|⟨a0,_|⟨a0,_|⟨z,r⟩⟩⟩⟩⟩
 ·simp at h
 ·simp at h
 ·simp at h
 ·simp at h
 ·exact ⟨_,_,_,_,rfl⟩
 ·simp at h
theorem Y5 {α:Type}{us:List α} (h:us.length=5):∃ a b c d e,us=[a,b,c,d,e]:=by
 rcases us with _|⟨a0,_|⟨a0,_|⟨a0,_|⟨a0,_|⟨a0,_|⟨z,r⟩⟩⟩⟩⟩⟩
 ·simp at h
 ·simp at h
 ·simp at h
 ·simp at h
 ·simp at h
 ·exact ⟨_,_,_,_,_,rfl⟩
 ·simp at h
end J
end
namespace J
open PySem L2
section
section
end
end
end J
section
namespace HT
open PySem PyProof.Rows
section
open PySem.SeqAt
open PySem.AutoSeq1 (wpAny_loadPart')
open PySem.MeetsSeq PySem.MeetsSeq2 PySem.MeetsSeq3
end
end HT
namespace L2
open PySem PySem.Spec PyProof.Rows
section
variable {X:Cx}{e st:bd}{te ts:TE}{pos p2:Pos}
end
end L2
namespace J
open PySem L2
section
variable {c:C}{e:bd}{g:az->R D}{pos p2 p3 p4:Pos}
end
end J
end
section
namespace L2
open PySem
def L3 (mask:Nat):Nat->Nat×Nat->Nat×Nat
 | 0,x=>x
 |n+1,x=>L3 mask n (SetTable.leap mask x.1 x.2)
theorem Ip (mask:Nat):∀ (n m:Nat) (x:Nat×Nat),L3 mask (n+m) x=L3 mask m (L3 mask n x)
 | 0,m,x=>by rw [Nat.zero_add];rfl
 |n+1,m,x=>by
  rw [Nat.succ_add];exact Ip mask n m _
theorem Iq (mask:Nat):∀ (n:Nat) (x:Nat×Nat),(L3 mask n x).2=x.2 / 32 ^ n
 | 0,x=>by simp [L3]
 |n+1,x=>by
  show (L3 mask n _).2=_;rw [Iq mask n];show x.2 / 32 / 32 ^ n=_;rw [Nat.div_div_eq_div_mul,Nat.pow_succ,FX]
theorem Ir (mask:Nat):∀ (n:Nat) (x:Nat×Nat),x.1<=mask->(L3 mask n x).1<=mask
 | 0,x,h=>h
 |n+1,x,h=>Ir mask n _ (by
  show (x.1*5+1+x.2 / 32) % (mask+1)<=mask;exact xi (BG _ (FY _)))
theorem B6  : ∀ (fuel i p:Nat),dG mask owner fuel i p=none->∀ n,n<fuel->(owner.getD (L3 mask n (i,p)).1 (some 0)).isSome=true
 | 0,_,_,_,n,h=>absurd h (lO n)
 |fuel+1,i,p,e,n,h=>by
  unfold dG at e;split at e
  ·cases e
  ·rename_i hf
   cases n with
   |zero =>
    have h0:=List.find?_eq_none.mp hf 0 (List.mem_range.mpr (by unfold SetTable.runEnd;split<;>omega));simp only [xj] at h0;show (owner.getD i (some 0)).isSome=true;cases q:owner.getD i (some 0) with
    |none=>rw [q] at h0;exact absurd rfl h0
    |some _=>rfl
   |succ n=>exact B6 fuel _ _ e n (FZ h)
theorem B7  : ∀ (fuel i p k:Nat),dG mask owner fuel i p=some k->owner.getD k (some 0)=none
 | 0,_,_,_,e=>nomatch e
 |fuel+1,i,p,k,e=>by
  unfold dG at e;split at e
  ·rename_i k' hf
   cases e;have:=List.find?_some hf;cases q:owner.getD (i+k') (some 0) with
   |none=>rfl
   |some _=>rw [q] at this;cases this
  ·exact B7 fuel _ _ k e
def L4 (mask:Nat):Prop:=mask=7\/mask=15\/mask=31
def Vy (mask:Nat):Bool:=(bA (mask+1)).all fun i=>(bA (mask+1)).all fun j=>(bA (mask+1)).any fun n=>decide ((L3 mask n (i,0)).1=j)
theorem Q8 (h:L4 mask):Vy mask=true:=by
 rcases h with h|h|h<;>subst h<;>decide +kernel
theorem getD_none {owner:Array (Option Nat)}{k:Nat} (h:owner.getD k (some 0)=none):owner.toList[k]?=some none:=by
 by_cases hk:k<owner.size
 ·rw [i4,iM hk] at h;rw [dC,iM hk];simpa using h
 ·rw [i4,Dj (by omega)] at h;cases h
theorem J_ {mask:Nat} (hm:L4 mask) {owner:Array (Option Nat)}{j:Nat} (hj:j<=mask) (hn:owner.toList[j]?=some none) {i p:Nat} (hi:i<=mask) (hp:p<2 ^ 64) :
  ∃ k,dG mask owner (qi mask) i p=some k/\owner.toList[k]?=some none:=by
 cases e:dG mask owner (qi mask) i p with
 |some k=>exact ⟨k,rfl,getD_none (B7 _ _ _ _ e)⟩
 |none =>
  exfalso;have hz:(L3 mask 13 (i,p)).2=0:=by
   rw [Iq];exact Nat.div_eq_of_lt (aI hp (by decide))
  have h1:=Ir mask 13 (i,p) hi;have g:=Q8 hm;unfold Vy at g;rw [bY] at g;have g:=g _ (List.mem_range.mpr (oj h1));rw [bY] at g;have g:=g j (List.mem_range.mpr (oj hj));rw [pU] at g;obtain ⟨n,hn1,hn2⟩:=g;have hn1:=List.mem_range.mp hn1;have hn2:=of_decide_eq_true hn2;have hs:(L3 mask (13+n) (i,p)).1=j:=by
   rw [Ip,<- hn2,<- hz]
  have:=B6 _ _ _ e (13+n) (by unfold qi;omega);rw [hs] at this;have hq:owner.getD j (some 0)=none:=by
   rw [dC] at hn;rw [i4,hn];rfl
  rw [hq] at this;cases this
theorem Q9 (h:Int):mG h<2 ^ 64:=by
 unfold mG;have:=n8 h (show (0:Int)<2 ^ 64 by decide);have:=qX h (show (2 ^ 64:Int)≠0 by decide);omega
theorem Ef:∀ {l:List (Option Nat)}{j:Nat},l[j]?=some none->((l.set j (some k)).filterMap id).Perm (k::l.filterMap id)
 |[],_,h=>nomatch h
 |x::r,0,h=>by
  cases h;exact .refl _
 |x::r,j+1,h=>by
  have ih:=Ef (k:=k) (l:=r) (j:=j) h;cases x with
  |none=>exact ih
  |some y=>exact (ih.cons y).trans (.swap k y _)
theorem Eg:∀ {l:List (Option Nat)},(l.filterMap id).length<l.length->∃ j,j<l.length/\l[j]?=some none
 |[],h=>absurd h (cQ 0)
 |none::r,_=>⟨0,FY _,rfl⟩
 |some y::r,h=>by
  obtain ⟨j,h1,h2⟩:=Eg (l:=r) (FZ h);exact ⟨j+1,Nat.succ_lt_succ h1,h2⟩
def Is (mask:Nat) (acc:Option (Array (Option Nat)×Nat)) (h:Int):Option (Array (Option Nat)×Nat):=acc.bind fun x=>(dG mask x.1 (qi mask) (mG h % (mask+1)) (mG h)).bind fun j=>some (x.1.setIfInBounds j (some x.2),x.2+1)
theorem Eh (mask:Nat) (hs:Array Int):ui mask hs=(hs.toList.foldl (Is mask) (some (y8 (mask+1) none,0))).map (·.1):=by
 rw [Array.foldl_toList];rfl
theorem Iu (hm:L4 mask):∀ (l:List Int) (owner:Array (Option Nat)) (k:Nat),owner.size=mask+1->(owner.toList.filterMap id).Perm (bA k)->k+l.length<=mask ->
  ∃ o',l.foldl (Is mask) (some (owner,k))=some (o',k+l.length)/\o'.size=mask+1/\(o'.toList.filterMap id).Perm (bA (k+l.length))
 |[],owner,k,h1,h2,_=>⟨owner,rfl,h1,h2⟩
 |h::r,owner,k,h1,h2,h3=>by
  simp only [aT] at h3 ⊢;obtain ⟨j,j1,j2⟩:=Eg (l:=owner.toList) (by rw [h2.length_eq,eS,av,h1];omega);rw [av,h1] at j1;obtain ⟨m,m1,m2⟩:=J_ hm (xi j1) j2 (i:=mG h % (mask+1)) (xi (BG _ (FY _))) (Q9 h);have e:Is mask (some (owner,k)) h=some (owner.setIfInBounds m (some k),k+1):=by
   unfold Is;simp only [ou,m1]
  rw [cO,e];obtain ⟨o',a1,a2,a3⟩:=Iu hm r (owner.setIfInBounds m (some k)) (k+1) (by rw [Array.size_setIfInBounds];exact h1) (by
   rw [Array.toList_setIfInBounds];refine (Ef m2).trans ?_;rw [List.range_succ];exact ((h2.cons k).trans (List.perm_append_singleton k _).symm)) (by omega)
  rw [show k+1+r.length=k+(r.length+1) by omega] at a1 a3;exact ⟨o',a1,a2,a3⟩
theorem Iv {n:Nat}{o:Array (Option Nat)} (h:o.size=n):(bA n).filterMap (fun j=>o.getD j none)=o.toList.filterMap id:=by
 have e:(bA n).map (fun j=>o.getD j none)=o.toList:=by
  refine xG (by simp [h]) fun i h1 h2=>?_;simp only [ao,eS] at h1;rw [kK,KZ,i4,iM (by omega)];simp
 rw [<- e,mC];rfl
theorem Iw {mask finger moves:Nat}{led plain:Bool}{hs:Array Int} (hm:L4 mask) (hl:hs.size<=mask):∃ place order,zM mask finger moves led plain hs=some ({ mask,place,dummies:=#[],finger,led,moves,plain },order)/\place.size=hs.size/\order.toList.Perm (bA hs.size):=by
 obtain ⟨o,h1,h2,h3⟩:=Iu hm hs.toList (y8 (mask+1) none) 0 (by simp) (by
  have:(y8 (mask+1) (none:Option Nat)).toList.filterMap id=[]:=by
   rw [Array.toList_replicate,List.filterMap_eq_nil_iff];intro x hx;rw [(List.mem_replicate.mp hx).2];rfl
  rw [this];exact .refl _) (by rw [av];omega)
 have hc:ui mask hs=some o:=by
  rw [Eh,h1];rfl
 rw [Nat.zero_add,av] at h3;refine ⟨_,_,by unfold zM;rw [hc];rfl,?_,?_⟩
 ·have e:=congrArg nM (Iv h2);rw [h3.length_eq,eS] at e;rw [aR,ao,<- e];rw [xk,xk];congr 1;funext j;cases o.getD j none<;>rfl
 ·rw [List.map_filterMap];refine .trans (.of_eq ?_) h3;rw [<- Iv h2];show List.filterMap _ _=List.filterMap _ _;congr 1;funext j;cases o.getD j none<;>rfl
end L2
namespace L2
open PySem
section
theorem Nd:∀ n:_root_.Fin 31,n.val<cj n.val/\(cj n.val=8\/cj n.val=16\/cj n.val=32):=by decide +kernel
theorem Nf (h:n<=30):n<=cj n-1/\L4 (cj n-1)/\cj n<=32:=by
 obtain ⟨h1,h2⟩:=Nd ⟨n,by omega⟩;simp only at h1 h2;unfold L4;omega
theorem yN {es:Array (Int×af)}{order:Array Nat} (h:order.toList.Perm (bA es.size)):(order.filterMap (es[·]?)).toList.Perm es.toList:=by
 rw [Array.toList_filterMap];refine (h.filterMap _).trans (.of_eq ?_);have e:(bA es.size).map (fun i=>es[i]?)=es.toList.map some:=by
  refine xG (by simp) fun i h1 h2=>?_;simp only [ao,eS] at h1;rw [kK,KZ,kK,Array.getElem_toList];exact iM h1
 have e2:(bA es.size).filterMap (fun i=>es[i]?)=((bA es.size).map (fun i=>es[i]?)).filterMap id:=by rw [mC];rfl
 rw [e2,e,mC];simp
theorem cS.of     (I:cS w h a es ep t) (p:es'.toList.Perm es.toList) (f:t'.fits es'.size=true) (l:t'.led=t.led) (pl:t'.plain=t.plain):cS w (h.update a (qp es' t')) a es' (ep+1) t':=by
 have sz:es'.size=es.size:=by rw [<- av,p.length_eq,av]
 refine ⟨rc I,fun e he=>I.txt e (p.mem_iff.mp he),(p.map jF).nodup_iff.mpr I.nd,by rw [sz];exact I.few,f,l.trans I.led,?_⟩;rw [sz,pl];exact I.pl
theorem yO {t:kQ}{n:Nat} (h:t.fits n=true):t.place.size=n/\t.fill<=t.mask:=by
 unfold mE at h;rw [aF] at h;exact ⟨eq_of_beq h.1,of_decide_eq_true h.2⟩
theorem Ix {mask finger moves:Nat}{led plain:Bool}{place:Array Nat}{n:Nat} (h:place.size=n) (hm:n<=mask):mE { mask,place,dummies:=#[],finger,led,moves,plain } n=true:=by
 unfold mE Lg;subst h;simp only [beq_self_eq_true,uw,decide_eq_true_eq];exact hm
theorem Gz {a:ak}{es:Array (Int×af)}{ep:Nat}{t:kQ}{wanted:Nat}{Q:Unit->ai->Prop} (I:cS w s.heap a es ep t) (hw:wanted<=30) (hz:es.size<=wanted)
  (h:∀ h' es' ep' t',bH a s.heap h'->cS w h' a es' ep' t'->es'.toList.Perm es.toList->L4 t'.mask->wanted<=t'.mask->Q () { s with heap:=h' }):ar (aL P w) A (setRelay a wanted) Q E s:=by
 obtain ⟨w1,w2,w3⟩:=Nf hw;obtain ⟨place,order,e,hp,ho⟩:=Iw (finger:=t.finger) (moves:=t.movedTo (cj wanted-1)) (led:=t.led) (plain:=t.plain) (hs:=es.map (·.1)) w2 (by rw [rZ];omega);rw [rZ] at hp ho;have pm:=yN ho;have sz:(order.filterMap (es[·]?)).size=es.size:=by rw [<- av,pm.length_eq,av]
 unfold setRelay;refine a7 (bx I.at_ rfl I.fits ?_);show ar _ _ (if cj wanted > sizeLine then _ else _) _ _ s;have h32:(32:Nat)<=sizeLine:=by decide
 rw [if_neg (by omega)];refine a7 ?_;unfold Jd;rw [e];show ar _ _ (if ((order.filterMap (es[·]?)).size != es.size)=true then _ else pure (order.filterMap (es[·]?),_)) _ _ s;rw [if_neg (by rw [sz];simp)];refine aa ?_;have fit:mE { mask:=cj wanted-1,place,dummies:=#[],finger:=t.finger,led:=t.led,moves:=t.movedTo (cj wanted-1),plain:=t.plain } (order.filterMap (es[·]?)).size=true:=Ix (by rw [sz];exact hp) (by rw [sz];omega);refine iL I.at_ rfl ?_ (by rw [sz];exact fj I.few);exact h _ _ _ _ (bG s.heap a _) (I.of pm fit rfl rfl) pm w2 w1
theorem Ci {a:ak}{es:Array (Int×af)}{ep:Nat}{t:kQ}{more:Nat}{Q:Unit->ai->Prop} (I:cS w s.heap a es ep t) (hz:es.size+more<=15) (hm:es.size≠0\/L4 t.mask)
  (h:∀ h' es' ep' t',bH a s.heap h'->cS w h' a es' ep' t'->es'.toList.Perm es.toList->(es.size≠0\/L4 t'.mask)->more<=t'.mask->Q () { s with heap:=h' }):ar (aL P w) A (setRoomFor a more) Q E s:=by
 obtain ⟨f1,f2⟩:=yO I.fits;unfold setRoomFor;refine a7 (bx I.at_ rfl I.fits ?_);dsimp only;unfold SetTable.roomFor;by_cases hc:(t.fill+more)*5 ≥ t.mask*3
 ·rw [if_pos hc];refine Gz I (by rw [f1];omega) (by rw [f1];omega) fun h' es' ep' t' a1 a2 a3 a4 a5=>?_;exact h h' es' ep' t' a1 a2 a3 (.inr a4) (by rw [f1] at a5;omega)
 ·rw [if_neg hc];exact aa (h s.heap es ep t (.refl ..) I (.refl _) hm (by omega))
end
end L2
namespace L2
open PySem
theorem xN {α σ:Type}{M:KH}{A:bv}{E:af->ai->Prop}{Q:σ->ai->Prop}{f:α->σ->Sem (ForInStep σ)}{b:σ} (I:List α->ai->Prop)
  (step:∀ x r s,I (x::r) s->ar M A (f x b) (fun st s'=>st=.yield b/\I r s') E s) (fin:∀ s,I [] s->Q b s):∀ (l:List α) (s:ai),I l s->ar M A (forIn l b f) Q E s
 |[],s,h=>by rw [mD];exact aa (fin s h)
 |x::r,s,h=>by
  rw [jg];refine a7 (ck (step x r s h) (fun st s' q=>?_) fun _ _ e=>e);obtain ⟨rfl,q⟩:=q;exact xN I step fin r s' q
section
theorem Ei  (h:∀ a∈l,∃ es ep t,cS w s.heap a es ep t) (q:Q true s):ar (aL P w) A (setsQuiet l) Q E s:=by
 unfold setsQuiet;refine a7 (xN (fun r s'=>s'=s/\∀ a∈r,∃ es ep t,cS w s.heap a es ep t) (fun a r s' hI=>?_) (fun s' hI=>?_) l s ⟨rfl,h⟩)
 ·obtain ⟨rfl,hI⟩:=hI;obtain ⟨es,ep,t,I⟩:=hI a ah;unfold setEntries;refine a7 (a7 (bx I.at_ rfl I.fits (aa ?_)));dsimp only;rw [<- Jh];refine a7 (xN (fun r2 s2=>s2=s'/\∀ e∈r2,tm w e) (fun e r2 s2 h2=>?_) (fun s2 h2=>?_) es.toList s' ⟨rfl,I.txt⟩)
  ·obtain ⟨rfl,h2⟩:=h2;obtain ⟨x,tk,rfl⟩:=h2 e ah;exact aa ⟨rfl,rfl,fun e he=>h2 e (a9 _ he)⟩
  ·obtain ⟨rfl,_⟩:=h2;exact aa ⟨rfl,rfl,fun b hb=>hI b (a9 _ hb)⟩
 ·obtain ⟨rfl,_⟩:=hI;exact aa q
theorem K0     (I:cS w s.heap o es ep t) (hb:w.params.followText "set-order"=true\/t.plain=true\/es.size<=1)
  (q:∀ es',es'.toList.Perm es.toList->Q es' s):ar (aL P w) A (setWalk o) Q E s:=by
 unfold setWalk;refine a7 (bx I.at_ rfl I.fits (a7 (fe ?_)));cases hw:w.params.followText "set-order" with
 |true =>
  simp only [if_true];exact a7 (gZ (aa (q _ (vU _ _))))
 |false =>
  simp only [bU,if_false];have hd:(!t.plain&&decide (es.size > 1))=false:=by
   rcases hb with h|h|h
   ·rw [hw] at h;cases h
   ·rw [h];rfl
   ·rw [decide_eq_false (by omega),sy]
  have hl:t.led=true:=by rw [I.led,hw];rfl
  show ar _ _ (if (!t.plain&&decide (es.size > 1))=true then _ else _) _ _ s;rw [hd,if_neg bh];refine a7 ?_;show ar _ _ (if (!t.led&&decide (es.size > 1))=true then _ else pure ()) _ _ s;rw [hl,if_neg (by simp)];exact aa (aa (q _ (.refl _)))
theorem xx     (I:cS w s.heap o eo epo to) (J:cS w s.heap a es ep t)
  (q:∀ h' es' ep' t',bH a s.heap h'->cS w h' a es ep' t'->es'.toList.Perm eo.toList->Q es' { s with heap:=h' }):ar (aL P w) A (setWalkUnseen o [a] (some a)) Q E s:=by
 unfold setWalkUnseen;refine a7 (bx I.at_ rfl I.fits (a7 (fe ?_)));cases hc:(w.params.followText "set-order" || to.led&&to.plain||decide (eo.size<=1)) with
 |true =>
  rw [if_pos rfl];refine K0 I ?_ fun es' p=>q s.heap es' ep t (.refl ..) J p;rw [ji,ji,aF,decide_eq_true_eq] at hc;rcases hc with (h|h)|h
  ·exact .inl h
  ·exact .inr (.inl h.2)
  ·exact .inr (.inr h)
 |false =>
  rw [if_neg bh];rw [HA,HA,decide_eq_false_iff_not] at hc;obtain ⟨⟨c1,_⟩,c3⟩:=hc;refine a7 (Ei (fun b hb=>?_) ?_)
  ·rcases List.mem_cons.mp hb with h|h
   ·rw [h];exact ⟨_,_,_,I⟩
   ·rw [List.mem_singleton.mp h];exact ⟨_,_,_,J⟩
  rw [if_neg (by simp)];refine a7 (i9 ?_);dsimp only;refine a7 (bx J.at_ rfl J.fits ?_);dsimp only;have hpl:to.plain=false:=I.pl.resolve_left (by omega);have hled:(t.led&&to.led)=t.led:=by rw [I.led,J.led,ux]
  split
  ·refine a7 (iL J.at_ rfl ?_ (fj J.few));refine aa (q _ _ _ _ (bG s.heap a _) (⟨rc J,J.txt,J.nd,J.few,?_,?_,?_⟩:cS w _ a es (ep+1) _) (.refl _))
   ·exact J.fits
   ·exact hled.trans J.led
   ·exact .inr (by show (t.plain&&to.plain)=false;rw [hpl,sy])
  ·exact aa (q s.heap eo ep t (.refl ..) J (.refl _))
end
end L2
namespace L2
open PySem
section
theorem cS.but     (I:cS w h o eo epo to) (ne:a≠o) (sb:bH a h h'):cS w h' o eo epo to:=I.keep fun _ e=>(sb.2 o (c9 ne)).trans e
theorem yP {a o:ak}{es eo:Array (Int×af)}{ep epo:Nat}{t to:kQ}{each:Sem Unit}{Q:Unit->ai->Prop} (ne:a≠o) (J:cS w s.heap a es ep t) (I:cS w s.heap o eo epo to)
  (hz:es.size+eo.size<=15) (hm:es.size≠0\/L4 t.mask) (he:∀ (s':ai) (Q':Unit->ai->Prop),cS w s'.heap o eo epo to->Q' () s'->ar (aL P w) A each Q' E s')
  (q:∀ h' tk' es' ep' t',bH a s.heap h'->cS w h' a es' ep' t'->(∀ x,x∈es'.toList.map jF↔x∈es.toList.map jF\/x∈eo.toList.map jF)->(es'.size≠0\/L4 t'.mask)->Q () { s with heap:=h',toks:=tk' }) :
  ar (aL P w) A (setMerge a o each) Q E s:=by
 unfold setMerge;rw [if_neg (by simpa using ne)];refine a7 (bx I.at_ rfl I.fits ?_);dsimp only;by_cases h0:eo.size=0
 ·rw [if_pos (by simpa [Array.isEmpty] using h0)];have e0:eo=#[]:=kn h0;exact aa (q s.heap s.toks es ep t (.refl ..) J (fun x=>by rw [e0];simp) hm)
 rw [if_neg (by simpa [Array.isEmpty] using h0)];refine a7 (Ci J hz hm fun h1 es1 ep1 t1 sb1 J1 p1 m1 r1=>?_);have I1:=I.but ne sb1;have sz1:es1.size=es.size:=by rw [<- av,p1.length_eq,av]
 refine a7 (bx (s:={ s with heap:=h1 }) J1.at_ rfl J1.fits ?_);dsimp only;obtain ⟨f1,f2⟩:=yO J1.fits;have hpl:to.plain=false:=I.pl.resolve_left h0;have hled:(t1.led&&to.led)=t1.led:=by rw [I.led,J1.led,ux]
 have kp:∀ x,x∈es1.toList.map jF↔x∈es.toList.map jF:=fun x=>(p1.map jF).mem_iff;by_cases hf:t1.fill=0
 ·have e1:es.size=0:=by
   unfold Lg at hf;omega
  have mk:L4 t1.mask:=m1.resolve_left (by omega);have ee:es=#[]:=kn e1;unfold Lh;rw [if_neg (by rw [hf];decide)];split
  ·refine iL (s:={ s with heap:=h1 }) J1.at_ rfl ?_ (fj I.few);refine q _ s.toks _ _ _ (sb1.trans (bG h1 a _)) (⟨rc J1,I.txt,I.nd,I.few,?_,?_,?_⟩:cS w _ a eo (ep1+1) _) (fun x=>by rw [ee];simp) (.inl h0)
   ·exact I.fits
   ·exact hled.trans J1.led
   ·exact .inr (by show (t1.plain&&to.plain)=false;rw [hpl,sy])
  ·obtain ⟨place,order,e,hp,ho⟩:=Iw (finger:=t1.finger) (moves:=t1.moves) (led:=t1.led&&to.led) (plain:=t1.plain&&to.plain) (hs:=eo.map (·.1)) mk (by rw [rZ];exact r1);rw [rZ] at hp ho;have pm:=yN ho;have sz:(order.filterMap (eo[·]?)).size=eo.size:=by rw [<- av,pm.length_eq,av]
   refine a7 ?_;rw [e];show ar _ _ (if ((order.filterMap (eo[·]?)).size != eo.size)=true then _ else pure (order.filterMap (eo[·]?),_)) _ _ _;rw [if_neg (by rw [sz];simp)];refine aa ?_;refine iL (s:={ s with heap:=h1 }) J1.at_ rfl ?_ (by rw [sz];exact fj I.few);refine q _ s.toks _ _ _ (sb1.trans (bG h1 a _)) (⟨rc J1,fun x hx=>I.txt x (pm.mem_iff.mp hx),(pm.map jF).nodup_iff.mpr I.nd,by rw [sz];exact I.few,Ix (by rw [sz];exact hp) (by rw [sz];exact r1),hled.trans J1.led,.inr ?_⟩:cS w _ a (order.filterMap (eo[·]?)) (ep1+1) _) (fun x=>?_) (.inl (by rw [sz];exact h0))
   ·show (t1.plain&&to.plain)=false;rw [hpl,sy]
   ·rw [(pm.map jF).mem_iff,ee];simp
  ·rename_i hq
   split at hq<;>cases hq
 ·unfold Lh;rw [if_pos (by simpa using hf)];dsimp only;refine a7 (xx (s:={ s with heap:=h1 }) I1 J1 fun h2 es2 ep2 t2 sb2 J2 p2=>?_);rw [<- Jh];have hl:es2.toList.length=eo.size:=by rw [p2.length_eq,av]
  refine a7 (xN (fun r s'=>∃ h' tk' e' p' t',s'={ s with heap:=h',toks:=tk' }/\bH a s.heap h'/\cS w h' a e' p' t'/\e'.size+r.length<=15/\(∀ e∈r,tm w e)/\∀ x,(x∈e'.toList.map jF\/x∈r.map jF)↔x∈es.toList.map jF\/x∈eo.toList.map jF) ?_ ?_ es2.toList _ ⟨h2,s.toks,es1,ep2,t2,rfl,sb1.trans sb2,J2,by omega,fun e he=>I.txt e (p2.mem_iff.mp he),fun x=>by rw [kp,(p2.map jF).mem_iff]⟩)
  ·rintro e r s' ⟨h',tk',e',p',t',rfl,sb',J',z',tx',k'⟩;obtain ⟨x,tk,rfl⟩:=tx' e ah;simp only [aT] at z';dsimp only;refine a7 (cH (AR (s:={ s with heap:=h',toks:=tk' }) (⟨e',p',t',J',.refl _⟩:l9 w h' a (e'.toList.map jF)) (by rw [ao,av];exact aI (show e'.size+1<100 by omega) (by decide)) fun h'' tk'' sb'' S''=>?_));obtain ⟨e'',p'',t'',J'',pm''⟩:=S'';have sb3:=sb'.trans sb'';have I3:=I.but ne sb3;refine a7 (he _ _ I3 ?_);refine a7 (bx (s:={ s with heap:=h'',toks:=tk'' }) I3.at_ rfl I3.fits ?_);dsimp only;rw [if_neg (by simp)];refine aa ⟨rfl,h'',tk'',e'',p'',t'',rfl,sb3,J'',?_,fun e he=>tx' e (a9 _ he),fun y=>?_⟩
   ·have:=pm''.length_eq;rw [ao,av] at this;have l2:(if x∈e'.toList.map jF then e'.toList.map jF else e'.toList.map jF++[x]).length<=e'.size+1:=by
     split<;>simp
    omega
   ·rw [<- k' y,pm''.mem_iff];have ek:jF (hashStr w x,jk x tk)=x:=rfl;rw [aB,aO,ek];split
    ·rename_i hx
     constructor
     ·rintro (h|h)
      ·exact .inl h
      ·exact .inr (.inr h)
     ·rintro (h|h|h)
      ·exact .inl h
      ·rw [h];exact .inl hx
      ·exact .inr h
    ·rw [qm,cJ];constructor
     ·rintro ((h|h)|h)
      ·exact .inl h
      ·exact .inr (.inl h)
      ·exact .inr (.inr h)
     ·rintro (h|h|h)
      ·exact .inl (.inl h)
      ·exact .inl (.inr h)
      ·exact .inr h
  ·rintro s' ⟨h',tk',e',p',t',rfl,sb',J',z',tx',k'⟩;refine aa (q h' tk' e' p' t' sb' J' (fun x=>?_) (.inl ?_))
   ·rw [<- k' x];simp
   ·intro e0;obtain ⟨e,hh⟩:∃ e,e∈eo.toList:=by
     cases hq:eo.toList with
     |nil=>rw [<- av,hq] at h0;exact absurd rfl h0
     |cons e r=>exact ⟨e,ah⟩
    have:=(k' (jF e)).mpr (.inr (aM hh));rw [kn e0] at this;simp at this
end
end L2
namespace L2
open PySem PyProof.Rows
theorem Cj:FR table "set.__or__"=some kR.«frozenset.__or__»:=FS (id':="frozenset.__or__") (by kernel_rfl) rfl (by decide +kernel) (by kernel_rfl)
section
variable {P:aX}{w:bn}{A:bv}{E:af->ai->Prop}{s:ai}
theorem cS.ty    (I:cS w s.heap a es ep t):s.TypeIs (.ref a) "set":=⟨_,I.at_,rfl⟩
theorem tL     (I:cS w s.heap a es ep t) (q:Q true s):ar (aL P w) A (r_ (.ref a)) Q E s:=by
 unfold r_;refine a7 (hG I.ty Lc ?_);exact aa q
theorem Ng  (e:h.get? a=some (fN w)):cS w h a #[] 0 (.fresh 0 0 (!w.params.followText "set-order")) :=
 ⟨e,(fun _ h=>nomatch h),gC,by decide,rfl,rfl,.inl rfl⟩
theorem Qa   (ha:l9 w s.heap a xs) (hb:l9 w s.heap b ys) (ne:a≠b) (hz:xs.length+ys.length<=15)
  (q:∀ h' tk',bH s.heap.objs.size (s.heap.push (fN w)) h'->l9 w h' s.heap.objs.size (dk xs ys)->Q (.ref s.heap.objs.size) { s with heap:=h',toks:=tk' }) :
  ar (aL P w) A (eW .BitOr (.ref a) (.ref b)) Q E s:=by
 obtain ⟨ea,pa,ta,Ia,ma⟩:=ha;obtain ⟨eb,pb,tb,Ib,mb⟩:=hb;have sa:ea.size=xs.length:=by rw [<- ma.length_eq,ao,av]
 have sb:eb.size=ys.length:=by rw [<- mb.length_eq,ao,av]
 refine wpAny_binaryOp_same Ia.ty Ib.ty F.fills_set_or F.slot_set_or (bX F.slot_set_or Ia.ty Cj ?_ (F.args_set_or_2 _ _));have lt1:a<s.heap.objs.size:=aq Ia.at_;have lt2:b<s.heap.objs.size:=aq Ib.at_;show ar _ _ (OU "__or__" ⟨[.ref a,.ref b],[]⟩ >>= _) _ _ s;refine a7 (a7 (aa (aa ?_)));dsimp only;refine a7 (a7 (tL Ia (tL Ib ?_)));rw [if_neg (by simp)];refine a7 (aa (a7 ?_));show ar _ _ (sX a >>= _) _ _ s;refine a7 ?_;unfold sX OV;refine a7 (a7 (hG Ia.ty Lc (aa ?_)));rw [if_pos rfl];refine a7 (sC ?_);have g0:(s.heap.push (fN w)).get? s.heap.objs.size=some (fN w):=ax _ rfl;have J0:=Ng g0;have Ia1:cS w (s.heap.push (fN w)) a ea pa ta:=Ia.keep fun _ e=>ag _ e;have Ib1:cS w (s.heap.push (fN w)) b eb pb tb:=Ib.keep fun _ e=>ag _ e;have na:s.heap.objs.size≠a:=c9 (aD lt1);have nb:s.heap.objs.size≠b:=c9 (aD lt2);refine a7 (aa (a7 (yP (s:={ s with heap:=s.heap.push (fN w) }) na J0 Ia1 (by show 0+ea.size<=15;omega) (.inr (.inl rfl)) (fun _ _ _ q=>aa q) fun h1 tk1 e1 p1 t1 sb1 J1 k1 m1=>aa ?_)));have Ib2:=Ib1.but nb sb1;have n1:(e1.toList.map jF).length<=ea.size:=by
  have:=(mH J1.nd Ia.nd).mpr fun x=>by rw [k1];simp
  rw [this.length_eq,ao,av];exact au _
 rw [ao,av] at n1;show ar _ _ (if (bK b != bK a)=true then _ else _) _ _ _;rw [if_pos (by simp;exact c9 ne)];refine a7 (aa (a7 (cH ?_)));show ar _ _ (jh _ s.heap.objs.size (bK b)) _ _ _;unfold jh;refine a7 (tL (s:={ s with heap:=h1,toks:=tk1 }) Ib2 ?_);rw [if_pos rfl];refine a7 (aa ?_);unfold OW setEpoch;refine a7 (a7 (bx (s:={ s with heap:=h1,toks:=tk1 }) Ib2.at_ rfl Ib2.fits (aa ?_)));refine yP (s:={ s with heap:=h1,toks:=tk1 }) nb J1 Ib2 (by omega) m1 (fun s' Q' I' q'=>?_) fun h2 tk2 e2 p2 t2 sb2 J2 k2 m2=>?_
 ·unfold OX setEpoch;refine a7 (a7 (bx I'.at_ rfl I'.fits (aa ?_)));dsimp only;rw [if_neg (by simp)];exact aa q'
 ·refine aa (aa ⟨_,rfl,(fun z=>nomatch z),q h2 tk2 (sb1.trans sb2) ⟨e2,p2,t2,J2,?_⟩⟩);refine (mH J2.nd (ik _ _ (ma.nodup_iff.mp Ia.nd))).mpr fun x=>?_;rw [k2,iz,k1,ma.mem_iff,mb.mem_iff];simp
end
end L2
namespace L2
open PySem PyProof.Rows
theorem Tl:pW X (eW .BitOr) (fun x y H Q=>∃ a b xs ys,x=.ref a/\y=.ref b/\a≠b/\H a=some (nU X.w a xs)/\H b=some (nU X.w b ys)/\xs.length+ys.length<=15/\∀ p,H p=none->Q (.ref p) (upd H p (nU X.w p (dk xs ys)))):=by
 intro pins s σ H x y v u Q I rx ry h;obtain ⟨a,b,xs,ys,rfl,rfl,ne,ha,hb,hz,q⟩:=h;cases rx;cases ry;have Sa:=(show dw X.prog X.w H s.heap a (nU X.w a xs) from I.hok a _ ha).1;have Sb:=(show dw X.prog X.w H s.heap b (nU X.w b ys) from I.hok b _ hb).1;refine Qa Sa Sb ne hz fun h' tk' sb S=>?_;refine ⟨.ref s.heap.objs.size,_,I.laid (t':=tk') (fun b o e=>?_) (au _) (C1 S),rfl,q _ (I.hok.fresh (au _))⟩;exact (sb.2 b (aD (aq e))).trans (ag _ e)
end L2
namespace J
open PySem L2
section
def Tn (xs ys:List Str):R (List Str):=if xs.length+ys.length<=15 then .ok (dk xs ys) else .no
def Nh (ga gb:az->R (List Str)):az->R (List Str):=fun ρ=>(ga ρ).bind fun xs=>(gb ρ).bind (J.Tn xs)
theorem To (ha:Q2 c a ga) (hb:Q2 c b gb):Q2 c (.BinOp a .BitOr b pos) (Nh ga gb):=.of fun ρ=>sF (R1 Tl (ha ρ) (hb ρ)) fun σ H Q h_0=>by
 obtain ⟨H0,Hs0,la,Hs,f,q⟩:=h_0;refine I9 (w:=c.X.w) f q fun xs p H1 Hs1 e1 s1 f1 n1=>?_;unfold Nh at q;rw [e1,bind_ok] at q;have s2:cF H1 Hs1 (upd H1 p (nU c.X.w p xs)) Hs1:=.mine f1.st.sub n1;refine I9 (w:=c.X.w) (f1.step s2) (q.on (s1.trans s2) (q':=fun _=>True) fun _ _=>trivial) fun ys p2 H2 Hs2 e2 s3 f2 n2=>?_;rw [e2,bind_ok] at q;unfold J.Tn at q;by_cases hz:xs.length+ys.length<=15
 ·rw [if_pos hz] at q;have k1:H2 p=some (nU c.X.w p xs):=s3.all p _ ba;have ne:p≠p2:=fun z=>by rw [z,n2] at k1;cases k1
  have s4:cF H2 Hs2 (upd H2 p2 (nU c.X.w p2 ys)) Hs2:=.mine f2.st.sub n2;exact ⟨p,p2,xs,ys,rfl,rfl,ne,by rw [a_ ne];exact k1,ba,hz,fun l hl=>q l _ _ (s1.trans (s2.trans (s3.trans s4))) hl⟩
 ·rw [if_neg hz] at q;exact q.elim
end
end J
namespace J
open PySem L2
section
def Xa (i j:Nat) (ρ:az):List D->R Fl
 |[d,e]=>.ok (.nx ((ρ.set i (.shr d)).set j (.shr e)))
 |_=>.no
def Ni (i j:Nat) (gs:az->R (List D)):az->R Fl:=fun ρ=>(gs ρ).bind (Xa i j ρ)
theorem Tp (i j:Nat) (hc:c.X.calm=true) (hN:c.X.N.Nodup) (ha:HN c [a,b] gs) (hi:c.X.N[i]?=some x:=by rfl) (hj:c.X.N[j]?=some y:=by rfl) (hij:i≠j:=by decide)
  (hx:c.X.env.scope.names.lookup x=some .local:=by rfl) (hy:c.X.env.scope.names.lookup y=some .local:=by rfl) (hw:xD [.Tuple [.Name x px,.Name y py] kt pt] (.Tuple [a,b] k2 pt2) c.X.env=pure (some [x,y]):=by rfl)
  (hs:xC [.Tuple [.Name x px,.Name y py] kt pt] (.Tuple [a,b] k2 pt2) pos.line c.X.env=pure false:=by rfl):JS c (.Assign [.Tuple [.Name x px,.Name y py] kt pt] (.Tuple [a,b] k2 pt2) pos) (Ni i j gs):=.of fun ρ=>Aa (Sw hc hN hi hj hij hx hy (ha ρ) hw hs) fun D σ H h_0=>by
 obtain ⟨H0,Hs0,la,Hs,f,q⟩:=h_0;refine ⟨H0,Hs0,la,Hs,f,?_⟩;unfold Ni at q;cases hr:gs ρ with
 |ok ds =>
  rw [hr,bind_ok] at q;intro vs H' Hs' s r
  match ds,r,q with
  |[],_,q=>exact q.elim
  |[_],_,q=>exact q.elim
  |[d,e],.cons r1 (.cons r2 .nil),q=>exact ⟨_,_,rfl,q _ _ Hs' (((f.step s).set i r1).set j r2)⟩
  |_::_::_::_,_,q=>exact q.elim
 |ex z n =>
  rw [hr] at q;exact fun H' Hs' s=>q H' Hs' (f.st.trans s)
 |no=>rw [hr] at q;exact q.elim
end
end J
namespace J
open PySem L2
end J
end
section
namespace L2
open PySem PySem.Spec PyProof.Rows
section
end
end L2
namespace L2
open PySem PySem.Spec PyProof.Rows
section
end
end L2
namespace L2
open PySem PySem.Spec PyProof.Rows
end L2
namespace J
open PySem L2
section
end
end J
namespace L2
open PySem PySem.Spec PyProof.Rows
end L2
namespace J
open PySem L2
section
end
end J
namespace L2
open PySem PySem.Spec PyProof.Rows
end L2
namespace J
open PySem L2
section
end
end J
namespace J
open PySem L2
theorem Ej  : JS c s (fun _=>.no):=.of fun ρ pins s σ H D I h=>by
 obtain ⟨H0,Hs0,la,Hs,f,q⟩:=h;exact q.elim
end J
end
namespace J
open PySem L2 PyProof.Rows
section
structure En where
 P:aX
 w:bn
 K:a8
 mg:Str->Option af
 base:bE
 cls:Str->ak
abbrev FN (e:En):=Fn e.P e.w e.K e.mg e.base e.cls
abbrev ER (e:En):=Er e.mg e.base e.cls
abbrev Cn (mg:Str->Option af) (x:Str) (n:Int):Prop:=∃ t,mg x=some (.int n t)
structure fS (K:a8) (mg:Str->Option af) (x:Str) (st:cP):Prop where
 ex:∃ f fd,Gc K x x st f fd/\mg x=some (.ref f)
section
variable {K:a8}{h:bE}{mg:Str->Option af}{x:Str}
theorem d_in {st:cP}{A:ak}{od an:Option ak}{sl:Array (Option af)}{oc kV dc pm cv ct:af} (X:K.In h) (G:h.Ns bt mg) (a:eX K bt x=some (some (.ref A)))
  (l:K.lookup A=some ⟨oc,od,.func (dY x x (iy st) (fD st) (aw st) .none kV dc pm an cv ct),sl⟩) (c:dA K cv x=true) (k:dX K (.ref A)=true):fS K mg x st :=
 ⟨_,_,Gd l c k,k7 X G a⟩
theorem cn_in  (X:K.In h) (G:h.Ns bt mg) (t:eX K bt x=some (some (.int n tk))):Cn mg x n:=⟨_,k7 X G t⟩
inductive Zs (K:a8):List Str->Prop
 |nil:Zs K []
 |cons {x:Str}{r:List Str}:eX K bt x=some none->Zs K r->Zs K (x::r)
theorem Zs.get (z:Zs K r):∀ x∈r,eX K bt x=some none:=by
 induction z with
 |nil=>exact fun _ h=>nomatch h
 |cons a _ ih =>
  intro y hy;rcases List.mem_cons.mp hy with e|e
  ·rw [e];exact a
  ·exact ih y e
abbrev zn:List Str:=["len","isinstance","all","any","zip","tuple","list","sorted","set","range","enumerate","dict","sum","max","min","reversed","str","int","bool","ValueError"]
theorem Vz (X:K.In h) (G:h.Ns bt mg) (z:Zs K zn):Bi mg:=by
 have q:∀ x∈zn,mg x=none:=fun x hx=>PySem.W.mg_none_of X G (z.get x hx);exact ⟨q _ (by decide),q _ (by decide),q _ (by decide),q _ (by decide),q _ (by decide),q _ (by decide),q _ (by decide),q _ (by decide),q _ (by decide),q _ (by decide),q _ (by decide),q _ (by decide),q _ (by decide),q _ (by decide),q _ (by decide),q _ (by decide),q _ (by decide),q _ (by decide),q _ (by decide)⟩
end
section
variable {P:aX}{w:bn}{K:a8}{mg:Str->Option af}{base:bE}{N:List Str}{qual:Str}{scope:dz}{f:ak}{cd:af}{A:bv}{outer:List Env}{s:ai}{H:Hp}{E:XK}
theorem px:tf (oJ P w) (jn (oJ P w) P w K mg base N qual scope f cd A outer s H E) E:=DM fun _ _ h=>h
end
section
theorem jc  (G:Fn c.X.prog c.X.w c.X.K c.X.mg c.X.base c.cls x k n F) (hr:i_ j c.X.A) (hx:tf (oJ c.X.prog c.X.w) c.X c.E) (ha:HN c (e::es) gs)
  (hk:k<=j:=by decide) (hg:Gl c.X x:=by exact rfl) (hdb:(x==("__debug__" : Str))=false:=by decide) (he:aJ (e::es) c.X.env=(false,ed e c.X.env)::aJ es c.X.env:=by rfl) (hpl:(fU pos (aJ es c.X.env)).any (·.1)=false:=by rfl) :
  JE c (.Call (.Name x p) (e::es) [] pos) (ej n F gs):=PX G (hr.mono hk) hg hx ha hdb he hpl
end
abbrev Bq (x:Str) (st:cP) (us:List af) (r:List (Str×af)):Prop:=∀ (kV doc pm:af) (an:Option ak) (cdv ct:af),vI (dY x x (iy st) (fD st) (aw st) .none kV doc pm an cdv ct) ⟨us,[]⟩=pure r
section
variable {K:a8}{x:Str}{st:cP}{f:ak}{fd:eK}
theorem b1 (F:Gc K x x st f fd) (h:∀ u,Bq x st [u] [(a,u)]:=by exact fun _ _ _ _ _ _ _=>rfl):kq K fd [a] []:=F.binds fun _ _ _ _ _ _ us hl=>by obtain ⟨_,rfl⟩:=Y2 hl;exact h ..
theorem b2 (F:Gc K x x st f fd) (h:∀ u v,Bq x st [u,v] [(a,u),(b,v)]:=by exact fun _ _ _ _ _ _ _ _=>rfl):kq K fd [a,b] []:=F.binds fun _ _ _ _ _ _ us hl=>by obtain ⟨_,_,rfl⟩:=X9 hl;exact h ..
theorem b3 (F:Gc K x x st f fd) (h:∀ u v w,Bq x st [u,v,w] [(a,u),(b,v),(c,w)]:=by exact fun _ _ _ _ _ _ _ _ _=>rfl):kq K fd [a,b,c] []:=F.binds fun _ _ _ _ _ _ us hl=>by obtain ⟨_,_,_,rfl⟩:=Y3 hl;exact h ..
theorem b4 (F:Gc K x x st f fd) (h:∀ u v w z,Bq x st [u,v,w,z] [(a,u),(b,v),(c,w),(d,z)]:=by exact fun _ _ _ _ _ _ _ _ _ _=>rfl):kq K fd [a,b,c,d] []:=F.binds fun _ _ _ _ _ _ us hl=>by obtain ⟨_,_,_,_,rfl⟩:=Y4 hl;exact h ..
theorem b5 (F:Gc K x x st f fd) (h:∀ u v w z y,Bq x st [u,v,w,z,y] [(a,u),(b,v),(c,w),(d,z),(e,y)]:=by exact fun _ _ _ _ _ _ _ _ _ _ _=>rfl):kq K fd [a,b,c,d,e] []:=F.binds fun _ _ _ _ _ _ us hl=>by obtain ⟨_,_,_,_,_,rfl⟩:=Y5 hl;exact h ..
end
theorem nw {e:En}{x:Str}{st:cP}{N ps:List Str}{k:Nat}{g:az->R Fl} (D:fS e.K e.mg x st) (S:bw N ps (aw st)) (b:∀ {f:ak}{fd:eK},Gc e.K x x st f fd->kq e.K fd ps [])
  (h:∀ (f:ak) (cdv:af) (A:bv) (outer:List Env) (s:ai) (H:Hp) (E:XK),i_ k (A.deeper (envOfC x (aw st) s.heap.objs.size f cdv))->Gu ⟨jn (oJ e.P e.w) e.P e.w e.K e.mg e.base N x (aw st) f cdv A outer s H E,e.cls,E⟩ (fD st) g) :
  FN e x (k+1) ps.length (eu N.length g):=by
 obtain ⟨f,fd,F,hm⟩:=D.ex;exact Vd F S hm (b F) (h f)
def XU (N P:List Str) (sc:dz):Bool:=decide (sc.kind=.function) && !sc.isCoroutine && !sc.isGenerator&&decide N.Nodup&&decide (N.take P.length=P)&&P.all (fun x=>decide (sc.names.lookup x=some .local)||decide (sc.names.lookup x=some .cell))&&sc.names.all fun y=>decide (y.2≠.free)
theorem dm  (h:XU N P sc=true):bw N P sc:=by
 unfold XU at h;simp only [aF,decide_eq_true_eq,Lf,bY,ji] at h;obtain ⟨⟨⟨⟨⟨⟨a,b⟩,c⟩,d⟩,e⟩,f⟩,g⟩:=h;exact ⟨a,b,c,d,e,f,g⟩
structure Cw (K:a8) (x:Str) (C:ak):Prop where
 ns:eX K bt x=some (some (.ref C))
 cl:∃ cd,sx K C=some cd
 ty:Li K (.ref C)=some (.type "type")
theorem cw_in {K:a8}{x:Str}{C:ak}{cd:ClassData} (a:eX K bt x=some (some (.ref C))) (i:sx K C=some cd) (y:Li K (.ref C)=some (.type "type")):Cw K x C:=⟨a,⟨_,i⟩,y⟩
inductive Sb (K:a8) (C:ak):List (ak×Bool)->Prop
 |nil:Sb K C []
 |cons {D:ak}{b:Bool}{l:List (ak×Bool)}:Ov K (.ref C) (.ref D)=some b->(b=false->C≠D)->Sb K C l->Sb K C ((D,b)::l)
structure Wy (K:a8) (C CP:ak) (l:List (ak×Bool)):Prop where
 x1:lM K (.ref C) "__getattribute__"=some (some (.builtin "BaseException.__getattribute__"))
 x2:lM K (.ref C) "__getattr__"=some none
 x3:lM K (.ref C) "__class__"=some (some (.builtin "object.__class__"))
 x4:Hw K (.builtin "object.__class__") "__get__"=some (some (.builtin "getset_descriptor.__get__"))
 x5:KL K (.builtin "object.__class__")=some true
 x6:dB K C (.type "object")=some true
 x7:dB K C (.ref CP)=some true
 x8:Ov K (.ref C) (.type "ValueError")=some true
 x9:(bK CP==bK C)=false
 sb:Sb K C l
end
end J
section
namespace L2
open PySem PySem.Spec PyProof.Rows
section
theorem Qb  (hit:s.heap.IsKeyIter it d i es.size ep) (hd:s.heap.get? d=some o) (ho:o.data=.dict es ep) (he:es[i]?=some e)
  (h:∀ h':bE,h'.IsKeyIter it d (i+1) es.size ep->bH it s.heap h'->Q (some e.key) { s with heap:=h' }) :
  ar (aL prog w) A (jl (.ref it)) Q E s:=by
 obtain ⟨⟨c0,d0,dt,sl⟩,q1,q2,q3⟩:=id hit;simp only at q2 q3;subst q2 q3;unfold jl;refine a7 (mq ?_);refine c8 (name:=ef "__next__") hit.typeIs ft ?_;refine bX ft hit.typeIs sA ?_ (s9 _);refine a7 (eF (a:=.ref it) rfl ?_);refine a7 (a7 (a7 (i5 hit.typeIs (aa ?_))));refine a7 (FU q1 rfl ?_);show ar _ _ (if (bK d==e6)=true then _ else _) _ _ s;rw [if_neg (by simp)];refine a7 (eF (a:=d) rfl ?_);refine a7 (A1 hd ho ?_);show ar _ _ (if ((es.size:Int) != (es.size:Int))=true then _ else _) _ _ s;rw [if_neg (by simp)];refine a7 (eF (a:=d) rfl ?_);refine a7 (Dm hd ho ?_);show ar _ _ (if ((ep:Int) != (ep:Int))=true then _ else _) _ _ s;rw [if_neg (by simp)];refine aa ?_;have e0:(if (i:Int)<0 then none else es[(i:Int).toNat]?)=some e:=by
  rw [if_neg (by omega)];simpa using he
 simp only [e0];refine a7 (a7 (i5 hit.typeIs (aa ?_)));refine a7 (Ow hit.typeIs ?_);refine a7 (fW q1 rfl (by simp [lJ]) ?_);have st:∀ k x,k=1->x=bZ ((i:Int)+1)->(s.heap.update it (e8 (·.setIfInBounds k x))).IsKeyIter it d (i+1) es.size ep:=fun k x hk hx=>by
  subst hk hx;have q:=dE (e8 (·.setIfInBounds 1 (bZ ((i:Int)+1)))) q1 rfl;refine ⟨_,q,rfl,?_⟩;show Hv ((#[.ref d,.int i 0,.int es.size 0,.int ep 0] : Array af).setIfInBounds 1 (bZ ((i:Int)+1)))=_;simp [bZ]
 have st1:=st _ _ rfl rfl;refine a7 (cH (a7 (Ow st1.typeIs ?_)));refine aa ?_;exact aa ⟨_,rfl,aa (h _ st1 (bG ..))⟩
theorem Tq (hh:A.handled=none) (hit:s.heap.IsKeyIter it d i es.size ep) (hd:s.heap.get? d=some o) (ho:o.data=.dict es ep) (he:es.size<=i)
  (h:∀ h':bE,y0 it s.heap h'->Q none { s with heap:=h' }) :
  ar (aL prog w) A (jl (.ref it)) Q E s:=by
 obtain ⟨⟨c0,d0,dt,sl⟩,q1,q2,q3⟩:=id hit;simp only at q2 q3;subst q2 q3;unfold jl;refine a7 (mq ?_);refine c8 (name:=ef "__next__") hit.typeIs ft ?_;refine bX ft hit.typeIs sA ?_ (s9 _);refine a7 (eF (a:=.ref it) rfl ?_);refine a7 (a7 (a7 (i5 hit.typeIs (aa ?_))));refine a7 (FU q1 rfl ?_);show ar _ _ (if (bK d==e6)=true then _ else _) _ _ s;rw [if_neg (by simp)];refine a7 (eF (a:=d) rfl ?_);refine a7 (A1 hd ho ?_);show ar _ _ (if ((es.size:Int) != (es.size:Int))=true then _ else _) _ _ s;rw [if_neg (by simp)];refine a7 (eF (a:=d) rfl ?_);refine a7 (Dm hd ho ?_);show ar _ _ (if ((ep:Int) != (ep:Int))=true then _ else _) _ _ s;rw [if_neg (by simp)];refine aa ?_;have e0:(if (i:Int)<0 then none else es[(i:Int).toNat]?)=none:=by
  rw [if_neg (by omega)];simpa using he
 simp only [e0];refine a7 (a7 (i5 hit.typeIs (aa ?_)));refine a7 (fW q1 rfl (by simp [lJ]) ?_);show ar _ _ (sU (.type "StopIteration") [] >>= _) _ _ _;refine a7 ?_;simp only [sU,OM];refine a7 (bQ ?_ (by size_fits));refine a7 (m:=kS _ _) (eF (a:=e6) ?_ ?_)
 ·first
   |rfl
   |(simp only [kS];rfl)
 refine bQ ?_ (by size_fits);simp only [rX];refine a7 (Je ?_);rw [show A.in1.handled=none from hh];refine a7 (aa (ON ?_));refine a7 (hG (T:="StopIteration") (b:=true) ⟨_,ax _ rfl,rfl⟩ vM ?_);exact aa (h _ (((bG ..).extBut.push _).push _))
theorem Tr (hs:(d==fk)=false) (hd:s.heap.get? d=some o) (hx:o.ExactDict) (ho:o.data=.dict es ep)
  (h:Q (.ref s.heap.objs.size) { s with heap:=s.heap.push { cls:=.type "dict_keyiterator",data:=.fields #[.ref d,.int 0 0,.int es.size 0,.int ep 0] } }) :
  ar (aL prog w) A (vG (.ref d)) Q E s:=by
 have ty:s.TypeIs (.ref d) "dict":=⟨o,hd,hx.1⟩;refine zW ty BJ (bX BJ ty PySem.F.entry_dict_iter ?_ (PySem.F.args_dict_iter_1 _));refine a7 (a7 (wpAny_notOrdered_dict ty (a7 (eF (a:=(bK d,[])) rfl (aa ?_)))));refine a7 (eF (a:=d) rfl ?_);refine a7 (eF (a:=()) (by unfold Builtin.Dict.showsAll;rw [hs];rfl) ?_);refine a7 (A1 hd ho ?_);refine a7 (Dm hd ho ?_);refine a7 (bQ ?_ (by size_fits));exact aa ⟨_,rfl,"dict_keyiterator",_,⟨_,ax _ rfl,rfl⟩,PySem.F.slot_dict_keyiterator_next.lookup,h⟩
end
def Xb (a:ak) (o:Obj) (kvs:List (List eR×V)):It :=
 ⟨fun i H=>H a=some (.frz o (.dT kvs))/\i<kvs.length,fun i H x H'=>H'=H/\∃ k v b,kvs[i]?=some (k,v)/\x=.ref b/\H b=some (.tup (k.map kV)),fun i H=>H a=some (.frz o (.dT kvs))/\kvs.length<=i⟩
theorem K1 {α β:Type}{F:α->β->Prop}{l:List α}{m:List β} (h:FG F l m):∀ {i:Nat}{x:α},l[i]?=some x->∃ y,m[i]?=some y/\F x y:=by
 induction h with
 |nil=>intro i x e;simp at e
 |cons a _ ih =>
  intro i x e;cases i with
  |zero=>cases e;exact ⟨_,rfl,a⟩
  |succ i=>exact ih e
theorem yQ       (ok:qd P w H h) (e:H a=some (.frz o (.dT kvs))):(a==fk)=false/\h.get? a=some o/\o.ExactDict/\∃ es ep,o.data=.dict es ep/\es.size=kvs.length /\
  ∀ (i:Nat) (k:List eR) (v:V),kvs[i]?=some (k,v)->∃ (en:KO) (b:ak),es[i]?=some en/\en.key=bK b/\H b=some (.tup (k.map kV)):=by
 obtain ⟨h0,z,y,xs,r,o',es,ep,h1,h2,h3,h4,h5⟩:=(show dw P w H h a (.frz o (.dT kvs)) from ok a _ e);rw [h0] at h1;cases h1;refine ⟨y,h0,h2,es,ep,h3,?_,fun i k v hk=>?_⟩
 ·rw [<- av,h4,ao];exact (iT r).symm
 ·obtain ⟨q,q1,q2⟩:=K1 r hk;refine ⟨entryOfKey (rV (fM P w)) q,q.2.1,?_,?_,q2.2.1⟩
  ·rw [<- dC,h4,aW,q1];rfl
  ·rfl
theorem K2 {P:aX}{w:bn}{K:a8}{tg:bd}{a it:ak}{o:Obj}{kvs:List (List eR×V)}{es:Array KO}{ep:Nat} (hd:o.data=.dict es ep) (hn:es.size=kvs.length) :
  BO P w K tg (Xb a o kvs) [it] it (fun i h=>h.IsKeyIter it a i es.size ep) where
 mem:=by simp
 obj:=fun i h st b hb=>by
  have e:b=it:=by simpa using hb
  subst e;obtain ⟨o,e,c,d⟩:=st;exact ⟨o,e,fun v z=>by rw [d] at z;cases z⟩
 keep:=fun i h h' st k=>st.at fun o e=>k it (by simp) o e
 item:=by
  intro X hP hw hK hc i pins s σ H E I hf st hg;subst hP hw hK;obtain ⟨hq,hi⟩:=hg;obtain ⟨_,g1,_,es',ep',g2,g3,g4⟩:=yQ I.hok hq;rw [hd] at g2;cases g2;obtain ⟨en,b,e1,e2,e3⟩:=g4 i _ _ (aY hi);obtain ⟨f0,f1,f2,f3,f4,f5⟩:=hf it (by simp);refine Qb st g1 hd e1 fun h' st' sb=>?_;have I1:bB X pins σ H { s with heap:=h' }:=I.turned (t':=s.toks) (fun b o hb e=>(sb.2 b hb).trans e) f0 f1 f3 f4 f5;obtain ⟨o',e,c,d⟩:=id st';refine ⟨_,rfl,HE (s:={ s with heap:=h' }) e c d (by decide) ⟨.ref b,H,I1,?_,⟨rfl,_,_,b,aY hi,rfl,e3⟩,st',fun b hb=>(hf b hb).1⟩⟩;rw [e2];rfl
 done:=by
  intro X hP hw hK hc i pins s σ H E I hf st hg;subst hP hw hK;obtain ⟨hq,hi⟩:=hg;obtain ⟨_,g1,_,es',ep',g2,g3,g4⟩:=yQ I.hok hq;obtain ⟨f0,f1,f2,f3,f4,f5⟩:=hf it (by simp);exact Tq (I.ok.hd hc) st g1 hd (by omega) fun h' eb=>⟨rfl,I.turned (t':=s.toks) (fun b o hb e=>eb b o hb e) f0 f1 f3 f4 f5⟩
 self:=fun _ _ _ _ _ st h=>wpAny_pyIter_keyiter st h
def VA (tl:TE):TI:=fun σ H R=>tl σ H fun x H1=>∃ a o kvs,x=.ref a/\H1 a=some (.frz o (.dT kvs))/\R (Xb a o kvs) H1
theorem Qc {X:Cx}{tg l:bd}{tl:TE} (hl:PE X l tl):PI X tg l (VA tl):=by
 intro pins s σ H R I h;refine fG (hl pins s σ H _ I h) fun v s1 h1=>?_;obtain ⟨x,H1,I1,r1,q1⟩:=h1;obtain ⟨a,o,kvs,e,hq,q⟩:=q1;subst e;cases r1;obtain ⟨y,g1,g0,es,ep,g2,g3,g4⟩:=yQ I1.hok hq;refine Tr y g1 g0 g2 ?_;refine ⟨s1.heap.objs.size,[s1.heap.objs.size],_,_,H1,rfl,I1.kept (t':=s1.toks) fun b o e=>ag _ e,K2 g2 g3,⟨_,ax _ rfl,rfl,rfl⟩,fun b hb=>?_,q⟩;rw [List.mem_singleton.mp hb];exact I1.fpOk (au _) (I1.hok.fresh (au _))
def Y6 (tk tv:TE):TE:=fun σ H Q=>∀ p,H p=none->tk σ (upd H p (.dT [])) fun y H1=>tv σ H1 fun v H2=>∃ kvs k b,H2 p=some (.dT kvs)/\y=.ref b/\H2 b=some (.tup (k.map kV))/\kvs.length<sizeLine/\Q (.ref p) (upd H2 p (.dT (mw kvs k v)))
theorem Nj    (hu:X.A.units+1<kL) (hk:PE X k tk) (hv:PE X v tv):PE X (.Dict [some k] [v] pos) (Y6 tk tv):=by
 intro pins s σ H Q I h;refine wpAny_Dict_any rfl rfl (by simp) (by simp) ?_;have I0:bB X pins σ (upd H s.heap.objs.size (.dT [])) { s with heap:=s.heap.push { cls:=.type "dict",data:=.dict #[] } }:=I.laid (a:=s.heap.objs.size) (o:=.dT []) (t':=s.toks) (fun _ _ q=>ag _ q) (au _) (LJ s.heap I.big);have h0:=h s.heap.objs.size (I.hok.fresh (au _));simp only [pairTrees,evalPairs];refine a7 (fG (hk pins _ σ _ _ I0 h0) fun u1 s1 h1=>?_);obtain ⟨y,H1,I1,r1,q1⟩:=h1;refine a7 (cH (a7 (fG (hv pins s1 σ H1 _ I1 q1) fun u2 s2 h2=>?_)));obtain ⟨z,H2,I2,r2,q2⟩:=h2;obtain ⟨kvs,ks,b,e1,e2,e3,e4,q⟩:=q2;refine a7 (jD (aa ?_));refine a7 (cH (aa (aa ?_)));subst e2;cases r1;unfold storeAll;simp only [jg,mD,bind_assoc];obtain ⟨z1,hd,xs,rel,dd⟩:=Rh I2.hok e1;have hz:xs.length<=sizeLine:=by rw [<- iT rel];exact z1
 have hl:(mw kvs ks z).length<=sizeLine:=by have:=qw kvs ks z;omega
 refine a7 (wpAny_dictSet_heap (by show X.A.units<kL;omega) (vT I2.hok e3) dd (fun h' dd' hs=>?_) hz);obtain ⟨o',es,ep,hq,g2,g3,g4,_,g5⟩:=dd';have I3:=BU (t':=s2.toks+(rV (fM X.prog X.w)).draws ks) I2 (by rw [e1];exact iE) hs ⟨o',hq⟩ (ob:=.dT (mw kvs ks z)) ⟨hl,hd,_,(rel.put ks e3 r2).keeps fun c ys ec=>(by rw [a_ (Lk ec e1 (fun z=>nomatch z))];exact ec),o',es,ep,hq,g2,g3,g4,g5⟩;exact aa ⟨.ref s.heap.objs.size,_,I3,rfl,q⟩
end L2
namespace J
open PySem L2
def keysOf:List D->Option (List eR)
 |[]=>some []
 |d::r=>(sH d).bind fun k=>(keysOf r).map (k::·)
def p_:D->Option (List eR)
 |.tuple ds=>keysOf ds
 |_=>none
theorem B8:∀ {ds:List D}{ks:List eR},keysOf ds=some ks->ds=ks.map kD
 |[],ks,h=>by cases h;rfl
 |d::r,ks,h=>by
  unfold keysOf at h;cases hk:sH d with
  |none=>rw [hk] at h;cases h
  |some y =>
   rw [hk,ou] at h;cases hr:keysOf r with
   |none=>rw [hr] at h;cases h
   |some l =>
    rw [hr] at h;cases h;rw [aB,<- yG hk,<- B8 hr]
theorem uY  (h:p_ d=some ks):d=tD ks:=by
 cases d<;>first|(cases h;done)|skip
 rename_i ds
 unfold tD;rw [<- B8 (show keysOf ds=some ks from h)]
theorem B9:∀ ks:List eR,keysOf (ks.map kD)=some ks
 |[]=>rfl
 |k::r=>by rw [aB,keysOf,keyOf_of,B9 r];rfl
theorem Nk (ks:List eR):p_ (tD ks)=some ks:=B9 ks
theorem Iy:∀ a b:List eR,iU (a.map kD) (b.map kD)=decide (a=b)
 |[],[]=>by simp [iU]
 |[],_::_=>by simp [iU]
 |_::_,[]=>by simp [iU]
 |x::a,y::b=>by
  rw [aB,aB];simp only [iU];rw [Cd,Iy a b];by_cases h:x=y<;>by_cases h2:a=b<;>simp [h,h2]
theorem Ck (a b:List eR):bq (tD a) (tD b)=decide (a=b):=by
 unfold tD;simp only [bq];exact Iy a b
theorem RDt.any   (y:List eR):∀ {ds:List (D×D)},RDt K H kvs ds->(ds.any fun kv=>bq kv.1 (tD y))=kvs.any fun kv=>decide (kv.1=y):=by
 induction kvs with
 |nil=>intro ds h;cases h;rfl
 |cons x r ih=>intro ds h;cases h with|cons h t=>rw [e7,e7,ih t,Ck]
theorem RDt.repl  (y:List eR)  (rv:RD K H v d):∀ {ds:List (D×D)},RDt K H kvs ds ->
  RDt K H (kvs.map fun kv=>if kv.1=y then (kv.1,v) else kv) (ds.map fun kv=>if bq kv.1 (tD y) then (kv.1,d) else kv):=by
 induction kvs with
 |nil=>intro ds h;cases h;exact .nil
 |cons x r ih =>
  intro ds h;cases h with
  | @cons k _ _ _ _ h t =>
   rw [aB,aB];have e:=Ck k y;by_cases hk:k=y
   ·subst hk;rw [show (if k=k then (k,v) else (k,_))=(k,v) from if_pos rfl,show (if bq (tD k) (tD k)=true then (tD k,d) else (tD k,_))=(tD k,d) from if_pos (by rw [e];simp)];exact .cons rv (ih t)
   ·simp only [e,hk,if_neg,decide_false,bU,not_false_eq_true];exact .cons h (ih t)
theorem RDt.snoc  (y:List eR)  (rv:RD K H v d):∀ {ds:List (D×D)},RDt K H kvs ds->RDt K H (kvs++[(y,v)]) (ds++[(tD y,d)]):=by
 induction kvs with
 |nil=>intro ds h;cases h;exact .cons rv .nil
 |cons x r ih=>intro ds h;cases h with|cons h t=>exact .cons h (ih t)
theorem RDt.put    (r:RDt K H kvs ds) (y:List eR)  (rv:RD K H v d):RDt K H (mw kvs y v) (xv ds (tD y) d):=by
 unfold mw xv;rw [r.any y];split
 ·exact r.repl y rv
 ·exact r.snoc y rv
theorem Tt {κ:Type} [DecidableEq κ] {kvs:List (κ×V)}{y:κ}{v:V}:mw kvs y v≠[]:=by
 unfold mw;split
 ·rename_i h
  intro z;have:=List.map_eq_nil_iff.mp z;subst this;cases h
 ·simp
theorem RDt.val   (y:List eR):∀ {ds:List (D×D)},RDt K H kvs ds->(nR kvs y=none/\l5 ds (tD y)=none)\/∃ v d,nR kvs y=some v/\l5 ds (tD y)=some d/\RD K H v d:=by
 induction kvs with
 |nil=>intro ds h;cases h;exact .inl ⟨rfl,rfl⟩
 |cons x r ih =>
  intro ds h;cases h with
  | @cons k _ _ _ _ h t =>
   unfold nR l5;rw [bP,bP,Ck];by_cases hk:k=y
   ·simp only [hk,decide_true,cZ];exact .inr ⟨_,_,rfl,rfl,h⟩
   ·simp only [hk,decide_false];exact ih t
def Iz:List (D×D)->List (D×D)
 |(.none,_)::r=>r
 |l=>l
def js (ds:List (D×D)):Bool:=!ds.isEmpty&&ds.all fun kv=>(p_ kv.1).isSome
theorem RDk.notT    (h:RDk K H kvs ds) (e:js (Iz ds)=true):False:=by
 cases h with
 |nil=>cases e
 | @cons k _ _ _ _ h t =>
  cases k<;>simp [Iz,js,kD,p_] at e
theorem RDt.un    (h:RDt K H kvs ds):Iz ds=ds:=by
 cases h<;>rfl
theorem xO    (sub:c_ Hs H) (h:RB K H Hs v (tD ks)):∃ b,v=.ref b/\H b=some (.tup (ks.map kV)):=by
 rcases h with h|⟨_,o,rfl,_,_,ow⟩
 ·cases h with
  |tuple q r =>
   have:=xL (c:=kD) (k:=kV) (fun h=>Gw h) r;subst this;exact ⟨_,rfl,sub _ _ q⟩
 ·cases ow
theorem IA    (sub:c_ Hs H) (h:RB K H Hs v (.dict ds)) (e:js (Iz ds)=true):∃ a kvs,v=.ref a/\RDt K Hs kvs (Iz ds)/\∀ (b:ak) (k:List eR),H b=some (.tup (k.map kV))->xp H a (.ref b) (nR kvs k):=by
 obtain ⟨a,ea,hh⟩:=h.dict sub;clear h;subst ea;rcases hh with ⟨kvs,h1,h2⟩|⟨kvs,h1,hn,h2⟩|⟨o,kvs,es,rfl,h1,hn,h2⟩
 ·exact (h2.notT e).elim
 ·exact ⟨a,kvs,rfl,by rw [h2.un];exact h2,fun b k hb=>xp.t h1 hb⟩
 ·exact ⟨a,kvs,rfl,h2,fun b k hb=>.inr ⟨kvs,k,b,.inr ⟨o,h1⟩,rfl,hb,rfl⟩⟩
def Ba:D->D->R D
 |.dict ds,k=>match p_ k with
  |some _=>if js (Iz ds)=true then (match l5 (Iz ds) k with
   |some d=>.ok d
   |none=>.no) else .no
  |none=>.no
 |_,_=>.no
section
variable {c:C}{a b e k:bd}{ga gb g gk:az->R D}{pos p apos:Pos}{x:Str}
theorem v_ (hu:c.X.A.units+1<kL) (ha:JB c a ga) (hb:JB c b gb) (hs:uC b:=by exact fun _ _=>rfl):JE c (.Subscript a b pos) (g2 ga gb Ba):=.of fun ρ=>by
 refine sF (HH hu (ha ρ) (hb ρ) hs) fun σ H Q h_2=>?_;obtain ⟨H0,Hs0,la,Hs,f,q⟩:=h_2;refine one f q fun d v H1 Hs1 e1 s1 f1 r1=>?_;unfold g2 at q;rw [e1,bind_ok] at q;refine one f1 (q.on s1 (q':=fun _=>True) fun _ _=>trivial) fun y w H2 Hs2 e2 s2 f2 r2=>?_;rw [e2,bind_ok] at q;unfold Ba at q;split at q
 ·rename_i ds
  split at q
  ·rename_i ky hy
   obtain rfl:=uY hy;by_cases hf:js (Iz ds)=true
   ·rw [if_pos hf] at q;obtain ⟨p,kvs,rfl,h2,h3⟩:=IA f2.st.sub (r1.step s2) hf;obtain ⟨b,rfl,hb⟩:=xO f2.st.sub r2;rcases h2.val ky with ⟨_,h4⟩|⟨u,d,h4,h5,h6⟩
    ·rw [h4] at q;exact q.elim
    ·rw [h5] at q;exact ⟨p,u,rfl,by rw [<- h4];exact h3 b ky hb,q _ H2 Hs2 (s1.trans s2) h6⟩
   ·rw [if_neg hf] at q;exact q.elim
  ·exact q.elim
 ·exact q.elim
def Qd (neg:Bool):D->D->R D
 |k,.dict ds=>match p_ k with
  |some _=>if js (Iz ds)=true then .ok (.bool (if neg then !(l5 (Iz ds) k).isSome else (l5 (Iz ds) k).isSome)) else .no
  |none=>.no
 |_,_=>.no
theorem Bb (hu:c.X.A.units+1<kL):xt c.X (bO .NotIn) (Qd true):=by
 refine ⟨fun pins s σ H x y v u Q I rv ru h=>?_,fun x y c n=>?_⟩
 ·obtain ⟨Hs,dx,dy,sub,rx,ry,d,hd,q⟩:=h;unfold Qd at hd;split at hd
  ·rename_i ds
   split at hd
   ·rename_i ky hy
    obtain rfl:=uY hy;split at hd
    ·rename_i hf
     cases hd;obtain ⟨p,kvs,rfl,h2,h3⟩:=IA sub ry hf;obtain ⟨b,rfl,hb⟩:=xO sub rx;cases ru;refine L2.Pr hu I (h3 b ky hb) rv fun s' I'=>⟨.bl _,H,I',rfl,?_⟩;have e:(nR kvs ky).isSome=(l5 (Iz ds) (tD ky)).isSome:=by
      rcases h2.val ky with ⟨h4,h5⟩|⟨u,d,h4,h5,h6⟩<;>rw [h4,h5]<;>rfl
     rw [e];exact q _ H Hs (.refl sub) (.bool _)
    ·cases hd
   ·cases hd
  ·cases hd
 ·unfold Qd;split<;>(try split)<;>(try split)<;>exact fun h=>by cases h
def sI (i:Nat) (gk g:az->R D):az->R Fl:=fun ρ=>match ρ[i]? with
 |some (Sl.own (.dict kvs))=>(g ρ).bind fun d=>(gk ρ).bind fun k=>match p_ k with
  |some _=>if kvs.length<1000/\js kvs=true then .ok (.nx (ρ.set i (.own (.dict (xv kvs k d))))) else .no
  |none=>.no
 |_=>.no
theorem Ek (i:Nat) (h:JE c e g) (hk:JE c k gk) (hu:c.X.A.units+1<kL) (hN:c.X.N[i]?=some x:=by rfl) (hv:P3 c.X.env.scope x:=by first|exact iI rfl|exact fB (iI rfl)|exact fB (fB rfl)) (hd:(x==("__debug__" : Str))=false:=by decide)
  (hcd:(x==("__classdict__" : Str))=false:=by decide) (hs:gX e (some (.Subscript (.Name x p) k apos)) pos.line c.X.env=pure false:=by rfl):JS c (.Assign [.Subscript (.Name x p) k apos] e pos) (sI i gk g):=.of fun ρ=>by
 refine Aa (HI hu (sZ hN hv hd hcd) (hk ρ) (h ρ) hs) fun D σ H h_1=>?_;obtain ⟨H0,Hs0,la,Hs,f,q⟩:=h_1;replace q:nW c.X.K c.cls c.E H0 Hs0 la D (sI i gk g ρ):=q;unfold sI at q;split at q
 ·rename_i kvs ho
  obtain ⟨a,o,k1,k2,k3,k4,k5⟩:=f.ow i _ ho;refine sE f q fun d v H1 Hs1 e1 s1 f1 r1=>?_;rw [e1,bind_ok] at q;refine ⟨_,k1,sE f1 q fun y w H2 Hs2 e2 s2 f2 r2=>?_⟩;rw [e2,bind_ok] at q;split at q
  ·rename_i ky hy
   obtain rfl:=uY hy;by_cases hl:kvs.length<1000/\js kvs=true
   ·rw [if_pos hl] at q;cases k5 with
    |dK r=>exact (r.notT (by cases r with|nil=>exact hl.2 | @cons k _ _ _ _ _ _=>cases k<;>exact hl.2)).elim
    |dF n r=>cases hl.2
    |dT n r =>
     have ha:=s2.all _ _ (s1.all _ _ k2);have r':=(r.same s1.sh).same s2.sh;obtain ⟨b,rfl,hb⟩:=xO f2.st.sub (.inl r2);exact ⟨a,_,rfl,DB.t ha hb (d_ (by rw [r.length];omega)),q _ _ Hs2 (f2.write i ho k1 (.dT Tt (r'.put ky (r1.same s2.sh))))⟩
   ·rw [if_neg hl] at q;exact q.elim
  ·exact q.elim
 ·exact q.elim
end
end J
namespace J
open PySem L2
def kC (i:Nat) (ρ:az):az:=match ρ[i]? with
 |some (Sl.own (.dict ((.tuple ks,v)::r)))=>ρ.set i (.own (.dict ((.none,.none)::(.tuple ks,v)::r)))
 |_=>ρ
theorem Qe       (I:bB X pins σ H s) (h:H a=some (.dT kvs)):∃ o,bB X pins σ (upd H a (.frz o (.dT kvs))) s:=by
 obtain ⟨z,y,xs,pr,o,es,ep,e1,e2,e3,e4,e5⟩:=(show dw X.prog X.w H s.heap a (.dT kvs) from I.hok a _ h);have new:dw X.prog X.w (upd H a (.frz o (.dT kvs))) s.heap a (.frz o (.dT kvs)) :=
  ⟨e1,z,y,xs,Paired.mapP pr fun p q w=>⟨w.1,by rw [a_ (Lk w.2.1 h (fun z=>nomatch z))];exact w.2.1,w.2.2⟩,o,es,ep,e1,e2,e3,e4,e5⟩
 have:=I.write (x:=a) (e:=a) (h':=s.heap) (t':=s.toks) (by rw [h];trivial) (.inl rfl) (fun b u _ q=>q) ⟨o,e1⟩ new;exact ⟨o,this⟩
theorem VB   (h:PS X st t):PS X st (fun D σ H=>t D σ H\/∃ a kvs,H a=some (.dT kvs)/\∀ o,t D σ (upd H a (.frz o (.dT kvs)))):=fun pins s σ H D I q=>by
 rcases q with q|⟨a,kvs,ha,q⟩
 ·exact h pins s σ H D I q
 ·obtain ⟨o,I'⟩:=Qe I ha;exact h pins s σ _ D I' (q o)
theorem Tu (i:Nat)  (h:JS c st gs):JS c st (fun ρ=>gs (kC i ρ)):=.of fun ρ=>Aa (VB (h (kC i ρ))) fun D' σ H hh=>by
 obtain ⟨H0,Hs0,la,Hs,f,q⟩:=hh;by_cases hx:∃ ks v r,ρ[i]?=some (Sl.own (.dict ((.tuple ks,v)::r)))
 ·obtain ⟨ks,v,r,ho⟩:=hx;have e:kC i ρ=ρ.set i (.own (.dict ((.none,.none)::(.tuple ks,v)::r))):=by unfold kC;rw [ho]
  obtain ⟨a,o,k1,k2,k3,k4,k5⟩:=f.ow i _ ho;generalize hd:FA ((.tuple ks,v)::r)=d0 at k5;cases k5 with
  |lst r=>cases hd
  |dK rk =>
   cases hd;generalize hd:((.tuple ks,v)::r:List (D×D))=d1 at rk;cases rk with
   |nil=>cases hd
   | @cons k _ _ _ _ _ _=>cases k<;>cases hd
  |dF n r=>cases hd
  |dT n r =>
   cases hd;exact .inr ⟨a,_,k2,fun o=>⟨H0,Hs0,la,Hs,by rw [e];exact f.write i ho k1 (.dF n r),q⟩⟩
 ·have e:kC i ρ=ρ:=by
   unfold kC;split
   ·rename_i ks v r ho;exact (hx ⟨ks,v,r,ho⟩).elim
   ·rfl
  refine .inl ⟨H0,Hs0,la,Hs,by rw [e];exact f,q⟩
def yR:D->R (List D)
 |.dict ((.none,.none)::ds)=>.ok (ds.map (·.1))
 |_=>.no
def El (g:az->R D):az->R (List D):=fun ρ=>(g ρ).bind yR
theorem RDt.get   : ∀ {ds:List (D×D)}{i:Nat}{k:List eR}{v:V},RDt K H kvs ds->kvs[i]?=some (k,v)->∃ d,ds[i]?=some (tD k,d):=by
 induction kvs with
 |nil=>intro ds i k v h e;simp at e
 |cons x r ih =>
  intro ds i k v h e;cases h with
  |cons h t =>
   cases i with
   |zero=>cases e;exact ⟨_,rfl⟩
   |succ i=>have q:=ih (i:=i) t e;exact q
theorem Nl  : ∀ ks:List eR,RDs K H (ks.map kV) (ks.map kD)
 |[]=>.nil
 |k::r=>.cons (by cases k<;>constructor) (Nl r)
theorem Qf      (h:Hn a=some (.frz o (.dT kvs))) (r:RDt K Hs kvs ds):OB K (Xb a o kvs) (ds.map (·.1)) Hn Hs:=fun H2 Hs2 e1 e2 e3=>by
 have q:=e1 _ _ h;have hl:=r.length;refine ⟨fun i hi=>⟨q,?_⟩,fun i hi=>⟨q,?_⟩,fun i x H3 hi y=>?_⟩
 ·rw [ao] at hi;omega
 ·rw [ao] at hi;omega
 ·obtain ⟨rfl,k,v,b,y1,rfl,y3⟩:=y;obtain ⟨d,y4⟩:=r.get y1;have same:c_ Hs2 (upd Hs2 b (.tup (k.map kV))):=fun c u e=>by
   by_cases hc:c=b
   ·subst hc;have:=e3 _ _ e;rw [y3] at this;cases this;exact ba
   ·rw [a_ hc];exact e
  refine ⟨tD k,upd Hs2 b (.tup (k.map kV)),by rw [aW,y4];rfl,⟨.refl _,same,fun c u e=>?_,fun c u e t z=>?_⟩,.tuple ba (Nl k)⟩
  ·by_cases hc:c=b
   ·subst hc;rw [ba] at e;cases e;exact y3
   ·rw [a_ hc] at e;exact e3 _ _ e
  ·by_cases hc:c=b
   ·subst hc;rw [y3] at e;cases e;cases t
   ·rw [a_ hc];exact z
section
theorem Cm (h:JB c l g):JI c tg l (El g):=.of fun ρ=>by
 refine JU (Qc (h ρ)) fun σ H Q hh=>?_;obtain ⟨H0,Hs0,la,Hs,f,q⟩:=hh;refine one f q fun d v H1 Hs1 e1 s1 f1 r1=>?_;unfold El at q;rw [e1,bind_ok] at q;unfold yR at q;split at q
 ·obtain ⟨a,ea,hh⟩:=r1.dict f1.st.sub;rcases hh with ⟨kvs,h1,h2⟩|⟨kvs,h1,hn,h2⟩|⟨o,kvs,es,he,h1,hn,h2⟩
  ·generalize hd:((.none,.none)::_:List (D×D))=d0 at h2;cases h2 with
   |nil=>cases hd
   | @cons k _ _ _ _ _ _=>cases k<;>cases hd
  ·generalize hd:((.none,.none)::_:List (D×D))=d0 at h2;cases h2<;>cases hd
  ·cases he;exact ⟨a,o,kvs,ea,h1,q _ H1 Hs1 H1 s1 (.refl _) (Qf h1 h2)⟩
 ·exact q.elim
def RX (gk gv:az->R D):az->R D:=fun ρ=>(gk ρ).bind fun k=>(gv ρ).bind fun v=>match p_ k with
 |some _=>.ok (.dict [(k,v)])
 |none=>.no
theorem Em (hu:c.X.A.units+1<kL) (hk:JE c k gk) (hv:JE c v gv):JN c (.Dict [some k] [v] pos) (RX gk gv):=.of fun ρ=>by
 refine sF (Nj hu (hk ρ) (hv ρ)) fun σ H Q hh=>?_;obtain ⟨H0,Hs0,la,Hs,f,q⟩:=hh;intro p hp;have sm:cF H Hs (upd H p (.dT [])) Hs:=.mine f.st.sub hp;have np:Hs p=none:=f.st.sub.free hp;unfold RX at q;refine Ab (f.step sm) (q.on sm (q':=fun _=>True) fun _ _=>trivial) fun y w H1 Hs1 e1 s1 f1 r1=>?_;rw [e1,bind_ok] at q;refine Ab f1 (q.on (sm.trans s1) (q':=fun _=>True) fun _ _=>trivial) fun z u H2 Hs2 e2 s2 f2 r2=>?_;rw [e2,bind_ok] at q;split at q
 ·rename_i ky hy
  obtain rfl:=uY hy;obtain ⟨b,rfl,hb⟩:=xO f1.st.sub (.inl r1);have s12:=s1.trans s2;have hp2:H2 p=some (.dT []):=s12.all _ _ ba;have hn2:Hs2 p=none:=s12.out _ _ ba rfl np;let H3:Hp:=fun x=>if x=p then none else H2 x
  have h3:∀ x,x≠p->H3 x=H2 x:=fun x hx=>if_neg hx;have st:cF H Hs H3 Hs2:=by
   refine ⟨fun x o e=>?_,s12.sh,fun x o e=>?_,fun x o e t n=>?_⟩
   ·have hx:=bp e hp;rw [h3 x hx];exact s12.all _ _ (by rw [a_ hx];exact e)
   ·have hx:x≠p:=fun z=>by rw [z,hn2] at e;cases e
    rw [h3 x hx];exact f2.st.sub _ _ e
   ·have hx:=bp e hp;exact s12.out _ _ (by rw [a_ hx];exact e) t n
  have:=q p (.dT [(ky,u)]) H3 Hs2 st (if_pos rfl) (.dT (by simp) (.cons r2 .nil));have e3:upd H3 p (.dT [(ky,u)])=upd H2 p (.dT (mw [] ky u)):=by
   funext x;by_cases hx:x=p
   ·subst hx;rw [ba,ba];rfl
   ·rw [a_ hx,a_ hx,h3 x hx]
  rw [e3] at this;exact ⟨[],ky,b,hp2,rfl,s2.all _ _ hb,by rw [Db];decide,this⟩
 ·exact q.elim
def Co (g:az->R D):az->R Bool:=fun ρ=>(g ρ).bind fun d=>match d with
 |.list ds=>.ok (!ds.isEmpty)
 |_=>.no
theorem Tv (h:JB c e g) (he:∀ whole,xV e c.X.env whole=(do let v <- whole;wC e.pos;zQ [v] (truthy v)):=by intro _;rfl):JT c e (Co g):=.of fun ρ=>UY (Ly (h ρ) he) fun σ H Q hh=>by
 obtain ⟨H0,Hs0,la,Hs,f,q⟩:=hh;refine one f q fun d v H1 Hs1 e1 s1 f1 r1=>?_;unfold Co at q;rw [e1,bind_ok] at q;split at q
 ·obtain ⟨a,vs,rfl,qa,ra⟩:=r1.list f1.st.sub;refine ⟨_,.inl ⟨vs,qa,rfl⟩,?_⟩;cases ra with
  |nil=>exact q H1 Hs1 s1
  |cons _ _=>exact q H1 Hs1 s1
 ·exact q.elim
end
end J
namespace L2
open PySem PySem.Spec PyProof.Rows
theorem uZ {ns:List Int}:∀ {its:List af},dH (ns.map V.int) its->∀ {i:Nat}{v:af},its[i]?=some v->∃ n t,ns[i]?=some n/\v=.int n t:=by
 induction ns with
 |nil=>intro its r i v e;cases r;simp at e
 |cons x r ih =>
  intro its rr i v e;cases rr with
  |cons a b =>
   cases i with
   |zero=>cases e;obtain ⟨t,rfl⟩:=a;exact ⟨x,t,rfl,rfl⟩
   |succ i=>have q:=ih b (i:=i) e;exact q
theorem Ae {X:Cx} (hc:X.calm=true):j7 X (.builtin "min") (fun xs H Q=>∃ p,∃ ns:List Int,xs=[.ref p]/\ni X.K H p (ns.map V.int)/\0<ns.length/\∀ m,m∈ns->(∀ a∈ns,m<=a)->Q (.int m) H):=by
 intro pins s σ H xs us Q I r h;obtain ⟨p,ns,rfl,hq,hz,q⟩:=h;obtain ⟨u,rfl,rx⟩:=jH r;cases rx;obtain ⟨its,r',pl,hl⟩:=I.list hq;have ln:its.toArray.size=ns.length:=by have:=r'.length;simp at this ⊢;omega
 obtain ⟨o,ho,hk⟩:=pl.isList;refine call_min_walk (gy pl.isList ⟨_,_,_,_,_,_,fun i j=>decide (ns.getD i 0<ns.getD j 0),rfl,kj (by simpa using I.ok.hd hc) _ p (aD (aq ho)) its.toArray,⟨⟨_,ax _ rfl,rfl,rfl⟩,pl.isList.push _⟩,?_,?_,?_,fun v h' tk hv kp=>?_⟩)
 ·intro b hb;simp only [aO,bg,or_false] at hb;have hp:=aq ho;have hs:(s.heap.push { cls:=.type "list_iterator",data:=.fields #[bK p,ki 0 0] }).objs.size=s.heap.objs.size+1:=Ox ..;rcases hb with rfl|rfl
  ·exact ng (dq _) hs.symm
  ·exact ng (eV hp) hs.symm
 ·omega
 ·refine CmpOf.ints_lt (fun i=>ns.getD i 0) fun i v hi=>?_;obtain ⟨n,t,e1,rfl⟩:=uZ r' (i:=i) (by simpa using hi);exact ⟨t,by simp [c6,e1]⟩
 ·rw [ln] at hv;obtain ⟨b1,b2⟩:=argBest_lt (fun i=>ns.getD i 0) (ns.length-1);obtain ⟨n,t,e1,rfl⟩:=uZ r' (by simpa using hv);refine ⟨.int n,H,I.kept (t':=tk) fun b o e=>kp b o ?_ (ag _ e),⟨t,rfl⟩,q n (df e1) fun a ha=>?_⟩
  ·simp only [cJ];exact aD (aq e)
  ·obtain ⟨j,hj,e⟩:=gz ha;have:=b2 j (by omega);simpa [c6,e1,hj,e] using this
end L2
namespace J
open PySem L2
def oV:List D->Option (List Int)
 |[]=>some []
 |.int b::r=>(oV r).map (b::·)
 |_::_=>none
theorem qH:∀ {bs:List Int},oV ds=some bs->ds=bs.map b_:=by
 induction ds with
 |nil=>intro bs h;cases h;rfl
 |cons d r ih =>
  intro bs h;cases d with
  |int b =>
   have h:(oV r).map (b::·)=some bs:=h;cases hr:oV r with
   |none=>rw [hr] at h;cases h
   |some z=>rw [hr] at h;cases h;rw [ih hr];rfl
  |_=>cases h
theorem oW:∀ bs:List Int,oV (bs.map b_)=some bs
 |[]=>rfl
 |b::r=>by show (oV (r.map b_)).map (b::·)=_;rw [oW r];rfl
def Qg:List Int->Int
 |[]=>0
 |x::r=>r.foldl min x
theorem Eo:∀ (r:List Int) (x:Int),(r.foldl min x∈x::r)/\∀ a∈x::r,r.foldl min x<=a
 |[],x=>⟨by simp,fun a ha=>by simp at ha;subst ha;exact sY _⟩
 |y::r,x=>by
  obtain ⟨h1,h2⟩:=Eo r (min x y);rw [cO];refine ⟨?_,fun a ha=>?_⟩
  ·rcases List.mem_cons.mp h1 with h|h
   ·rw [h];by_cases hxy:x<=y
    ·rw [Int.min_eq_left hxy];simp
    ·rw [Int.min_eq_right (by omega)];simp
   ·exact a9 _ (a9 _ h)
  ·have h0:=h2 (min x y) ah;rcases List.mem_cons.mp ha with h|h
   ·subst h;exact qr h0 (Int.min_le_left _ _)
   ·rcases List.mem_cons.mp h with h|h
    ·subst h;exact qr h0 (Int.min_le_right _ _)
    ·exact h2 a (a9 _ h)
theorem Nm  (h1:m∈ns) (h2:∀ a∈ns,m<=a):m=Qg ns:=by
 cases ns with
 |nil=>cases h1
 |cons x r =>
  obtain ⟨k1,k2⟩:=Eo r x;exact Int.le_antisymm (h2 _ k1) (k2 _ h1)
def GA:D->R D
 |.list ds=>match oV ds with
  |some ns=>if 0<ns.length then .ok (.int (Qg ns)) else .no
  |none=>.no
 |_=>.no
theorem Tw (hc:X.calm=true):HV X (.builtin "min") (gK GA):=by
 refine oP (fun d c n=>?_) fun pins s σ H x u Q Hs d d' I ru sub rx hd q=>?_
 ·unfold GA;split<;>(try split)<;>(try split)<;>exact fun h=>by cases h
 ·unfold GA at hd;split at hd
  ·split at hd
   ·split at hd
    ·rename_i ns hs hz
     cases hd;obtain ⟨a,vs,rfl,qa,ra⟩:=rx.list sub;rw [qH hs] at ra;rw [oM ra] at qa;exact Ae hc pins s σ H _ _ Q I (.cons ru .nil) ⟨a,ns,rfl,qa,hz,fun m h1 h2=>by rw [Nm h1 h2];exact q _ H Hs (.refl sub) (.int _)⟩
    ·cases hd
   ·cases hd
  ·cases hd
end J
namespace J
open PySem L2
def Tx (i:Nat) (g:az->R Fl):az->R Fl:=fun ρ=>g (kC i ρ)
theorem No (i:Nat)  (h:JS c st gs):JS c st (Tx i gs):=Tu i h
end J
namespace J
open PySem L2
end J
namespace J
open PySem L2
def rS (i:Nat) (ρ:az):R D:=FE ρ i
def rB (i:Nat) (ρ:az):R D:=FF ρ i
def kI (n:Int) (_:az):R D:=.ok (.int n)
def kB (b:Bool) (_:az):R D:=.ok (.bool b)
def kN (_:az):R D:=.ok .none
def kT (_:az):R Bool:=.ok true
theorem VC (i:Nat) (ρ:az):rS i ρ=FE ρ i:=id rfl
theorem Tz (i:Nat) (ρ:az):rB i ρ=FF ρ i:=id rfl
theorem VD (n:Int) (ρ:az):kI n ρ=.ok (.int n):=id rfl
theorem VE (b:Bool) (ρ:az):kB b ρ=.ok (.bool b):=id rfl
theorem VF (ρ:az):kN ρ=.ok .none:=id rfl
end J
end
section
namespace L2
open PySem PySem.Spec PyProof.Rows
section
end
end L2
namespace J
open PySem L2
section
end
end J
end
namespace L2
open PySem PySem.Spec PyProof.Rows
section
open Builtin Builtin.ObjectAttr
inductive IB (h:bE) (bmB:List af) (nms:List Str):List af->Prop
 |base:IB h bmB nms bmB
 |own {A:ak}{c0:af}{dd:Option ak}{cd:ClassData}{sl:Array (Option af)}{mA:Str->Option af}{tl:List af} :
   h.get? A=some { cls:=c0,dict:=dd,data:=.cls cd,slots:=sl }->h.Ns cd.ns mA->(∀ n∈nms,mA n=none)->IB h bmB nms tl->IB h bmB nms (.ref A::tl)
section
variable {M:KH}{A:bv}{E:af->ai->Prop}{h:bE}{g:Array FI}{d:KG}{t:Nat}{os:OsState}
variable {nm q:Str}{C N x:ak}{bs bm bmB:List af}{hdct:Bool}{sn:List Str}{sub:List af}{ab:Bool}{col:Option Bool}{dd:Option ak}{k0 k1 k2 k3 k5:Option af}{B newId initId sa owner:String}{nms:List Str}{name:Str}{v:af}{mN:Str->Option af}
end
section
variable {prog:aX}{w:bn}{A:bv}{E:af->ai->Prop}{h:bE}{g:Array FI}{d:KG}{t:Nat}{os:OsState}
variable {nm q:Str}{C N x:ak}{bs bm bmB:List af}{sn:List Str}{sub:List af}{ab:Bool}{col:Option Bool}{dd:Option ak}{k0 k1 k2 k3 k5:Option af}{B newId initId sa owner:String}{nms:List Str}{name:Str}{v:af}{mN:Str->Option af}
end
end
section
section
variable {prog:aX}{w:bn}{A:bv}{E:af->ai->Prop}{h:bE}{g:Array FI}{d:KG}{t:Nat}{os:OsState}
variable {nm q:Str}{C N:ak}{bs bm bmB:List af}{hdct:Bool}{sn:List Str}{sub:List af}{ab:Bool}{col:Option Bool}{dd:Option ak}{k0 k1 k2 k3 k5:Option af}{B newId initId:String}
end
section
end
section
end
end
section
structure TC (h:bE) (fI:ak):Prop where
 ex:∃ (oI:Obj) (fd:eK) (p1 p2 p3 p4:Pos),h.get? fI=some oI/\oI.cls=.type "function"/\oI.data=.func fd/\h.CodeRec fd.code fd.qualname/\fd.scope.isCoroutine=false/\fd.scope.isGenerator=false/\fd.scope.kind=.function /\
  fd.scope.names=[(("self" : Str),qj),(("number" : Str),qj)]/\fd.body=.stmts [.Assign [.Attribute (.Name "self" p1) "number" p2] (.Name "number" p3) p4]/\∀ (s:ai) (e v:af),(∀ b o,h.get? b=some o->s.heap.get? b=some o)->zR s fd ⟨[e,v],[]⟩ [("self",e),("number",v)]
section
end
section
end
end
section
structure Xc (x:Str) (C:ak) (mg:Str->Option af) (base:bE):Prop where
 bound:mg x=some (.ref C)
 obj:∃ nm q N bs bm sn sub ab col dd k0 k1 k2 k3 k5 mN fI,base.get? C=some (excClassObj nm q C N bs bm true sn sub ab col dd k0 k1 k2 k3 k5 "ValueError.__new__")/\base.Ns N mN/\mN "__init__"=some (.ref fI)/\mN "__setattr__"=none/\mN "number"=none /\
  IB base [.type "ValueError",.type "Exception",.type "BaseException",.type "object"] ["__init__","__setattr__","number"] bm/\TC base fI
section
variable {P:aX}{w:bn}{K:a8}{mg:Str->Option af}{base:bE}{N:List Str}{qual:Str}{scope:dz}{f:ak}{cd:af}{A:bv}{outer:List Env}{s:ai}{H:Hp}{E:XK}
end
end
end L2
namespace J
open PySem L2
section
open PySem.W (nsIn nsOkIn codeIn fnOf)
theorem VG      (X:K.In h) (G:h.Ns N mg) (e:nsIn K N n=some (some v)):mg n=some v:=by
 obtain ⟨o,es,ep,ho,hd,_,hf⟩:=G;unfold eX at e;split at e
 ·rename_i c d es' n' sl q
  have:=X _ _ q;rw [ho] at this;cases this;cases hd;split at e
  ·rename_i he
   rw [<- hf];unfold nsFind findBy;rw [<- J7,he];cases e;rfl
  ·split at e<;>cases e
 ·cases e
structure Xd (K:a8) (x:Str) (C:ak) (st:cP):Prop where
 ns:nsIn K bt x=some (some (.ref C))
 own:∀ {h:bE}{mg:Str->Option af},K.In h->h.Ns bt mg->Xc x C mg h
 mb:dB K C (.type "BaseException")=some true
 ox:∀ {h:bE},K.In h->∃ bm,UO h C bm/\∀ v,(v==bK C)=false->dB K C v=some true->bm.contains v=true
theorem topN {K:a8}{x:Str}{C CP fI T0 Nn NP:ak}{st:cP}{nm qn nmP qnP fq:Str}{bs bsP mroP subP sub:List af}{sn snP:List Str}{ab abP hdP delP:Bool}{col colP:Option Bool}{dd dP od dT an:Option ak}{k0 k1 k2 k3 k5:Option af}{c0 kV doc pm cdv ct cT:af}{slP slF slT:Array (Option af)}{nT:Nat}{p1 p2 p3 p4:Pos}{cN cM:af}{dN dM:Option ak}{esN esM:Array KO}{epN epM:Nat}{slN slM:Array (Option af)}
  (a1:nsIn K bt x=some (some (.ref C))) (a4:dB K C (.type "BaseException")=some true)
  (a2:K.lookup C=some ⟨.type "type",dd,.cls ⟨nm,bs,[.ref C,.ref CP,.type "ValueError",.type "Exception",.type "BaseException",.type "object"],Nn,qn,true,sn,sub,ab,col,false⟩,#[k0,k1,k2,k3,some (.builtin "ValueError.__new__"),k5]⟩)
  (a3:K.lookup CP=some ⟨c0,dP,.cls ⟨nmP,bsP,mroP,NP,qnP,hdP,snP,subP,abP,colP,delP⟩,slP⟩)
  (b1:nsIn K Nn "__init__"=some (some (.ref fI))) (b2:nsIn K Nn "__setattr__"=some none) (b3:nsIn K Nn "number"=some none)
  (c1:nsIn K NP "__init__"=some none) (c2:nsIn K NP "__setattr__"=some none) (c3:nsIn K NP "number"=some none)
  (d1:K.lookup fI=some ⟨.type "function",od,.func (fnOf "__init__" fq (iy st) (fD st) (aw st) (.ref T0) kV doc pm an cdv ct),slF⟩)
  (d2:K.lookup T0=some ⟨cT,dT,.seq #[.none] nT,slT⟩) (d3:codeIn K cdv fq=true)
  (g1:K.lookup Nn=some ⟨cN,dN,.dict esN epN,slN⟩) (g2:K.lookup NP=some ⟨cM,dM,.dict esM epM,slM⟩) (g3:(esN.toList.all fun e=>match e.key with | .str _ _=>true|_=>false)=true) (g4:(esM.toList.all fun e=>match e.key with | .str _ _=>true|_=>false)=true)
  (f1:fD st=[.Assign [.Attribute (.Name "self" p1) "number" p2] (.Name "number" p3) p4]) (f2:(aw st).names=[(("self" : Str),qj),(("number" : Str),qj)])
  (f3:(aw st).isCoroutine=false) (f4:(aw st).isGenerator=false) (f5:(aw st).kind=.function)
  (f6:∀ e v,∃ k,vI (fnOf "__init__" fq (iy st) (fD st) (aw st) (.ref T0) kV doc pm an cdv ct) ⟨[e,v],[]⟩=rY (.ref T0) >>= k/\k (some #[.none])=pure [(("self" : Str),e),(("number" : Str),v)]):Xd K x C st:=by
 have e1:nsOkIn K Nn=true:=by unfold Lj;rw [g1];show esN.all _=true;rw [<- xl];exact g3
 have e2:nsOkIn K NP=true:=by unfold Lj;rw [g2];show esM.all _=true;rw [<- xl];exact g4
 refine ⟨a1,fun {h mg} X G=>⟨k7 X G a1,nm,qn,Nn,bs,_,sn,sub,ab,col,dd,k0,k1,k2,k3,k5,h.nsMap Nn,fI,X _ _ a2,.of_isNs (lN X e1),?_,eC X e1 b2,eC X e1 b3,?_,⟨_,_,p1,p2,p3,p4,X _ _ d1,rfl,rfl,FL X d3,f3,f4,f5,f2,congrArg FuncBody.stmts f1,fun s e v kb=>?_⟩⟩,a4,fun {h} X=>⟨_,⟨⟨nm,qn,Nn,bs,true,sn,sub,ab,col,dd,k0,k1,k2,k3,k5,_,X _ _ a2⟩,rfl⟩,fun v nv hv=>?_⟩⟩
 ·exact VG X (.of_isNs (lN X e1)) b1
 ·refine .own (X _ _ a3) (.of_isNs (lN X e2)) (fun n hn=>?_) .base;rcases List.mem_cons.mp hn with z|hn
  ·rw [z];exact eC X e2 c1
  rcases List.mem_cons.mp hn with z|hn
  ·rw [z];exact eC X e2 c2
  ·rw [List.mem_singleton.mp hn];exact eC X e2 c3
 ·obtain ⟨k,k1,k2⟩:=f6 e v;exact BindsTo.of_defaults rfl (kb _ _ (X _ _ d2)) rfl k1 k2
 ·unfold dB sx at hv;rw [a2] at hv;have:(bK C::[bK CP,.type "ValueError",.type "Exception",.type "BaseException",.type "object"]).contains v=true:=by simpa using hv
  rw [KY,nv,oh] at this;exact this
section
end
end
section
section
end
end
end J
section
namespace L2
open PySem PySem.Spec PyProof.Rows
theorem Qh  (h:dH (ns.map V.int) its):AllInts its.toArray/\numsOf its=ns:=by
 induction ns generalizing its with
 |nil=>cases h;exact ⟨fun v hv=>absurd hv (by simp),rfl⟩
 |cons n r ih =>
  cases h with
  |cons a b =>
   obtain ⟨t,rfl⟩:=a;obtain ⟨h1,h2⟩:=ih b;refine ⟨fun v hv=>?_,?_⟩
   ·rcases (by simpa using hv:v=.int n t\/_) with z|z
    ·exact ⟨n,t,z⟩
    ·exact h1 v (by simpa using z)
   ·show n::numsOf _=_;rw [h2]
theorem Af (hc:X.calm=true):j7 X (.builtin "sum") (fun xs H Q=>∃ p,∃ ns:List Int,xs=[.ref p]/\ni X.K H p (ns.map V.int)/\Q (.int ns.sum) H):=by
 intro pins s σ H xs us Q I r h;obtain ⟨p,ns,rfl,hq,q⟩:=h;obtain ⟨u,rfl,rx⟩:=jH r;cases rx;obtain ⟨its,r',pl,hl⟩:=I.list hq;obtain ⟨ha,hn⟩:=Qh r';obtain ⟨xs,hx⟩:=ha.items;have hl:=pl.isList;rw [hx] at hl;have hs:preSum (numAt xs) xs.size=ns.sum:=by
  rw [<- hn,show its=its.toArray.toList from rfl,hx,nums_intItems,preSum_eq,FC (by simp)]
 refine sum_intListG (I.ok.hd hc) hl fun h' tk t' hk=>?_;rw [hs];exact ⟨.int ns.sum,H,I.kept (t':=tk) hk,⟨t',rfl⟩,q⟩
end L2
namespace L2
open PySem PySem.Spec PyProof.Rows
theorem Ag (hc:X.calm=true):j7 X (.builtin "max") (fun xs H Q=>∃ p,∃ ns:List Int,xs=[.ref p]/\ni X.K H p (ns.map V.int)/\0<ns.length/\∀ m,m∈ns->(∀ a∈ns,a<=m)->Q (.int m) H):=by
 intro pins s σ H xs us Q I r h;obtain ⟨p,ns,rfl,hq,hz,q⟩:=h;obtain ⟨u,rfl,rx⟩:=jH r;cases rx;obtain ⟨its,r',pl,hl⟩:=I.list hq;have ln:its.toArray.size=ns.length:=by have:=r'.length;simp at this ⊢;omega
 obtain ⟨o,ho,hk⟩:=pl.isList;refine call_max_walk (gy pl.isList ⟨_,_,_,_,_,_,fun i j=>decide (ns.getD i 0 > ns.getD j 0),rfl,kj (by simpa using I.ok.hd hc) _ p (aD (aq ho)) its.toArray,⟨⟨_,ax _ rfl,rfl,rfl⟩,pl.isList.push _⟩,?_,?_,?_,fun v h' tk hv kp=>?_⟩)
 ·intro b hb;simp only [aO,bg,or_false] at hb;have hp:=aq ho;have hs:(s.heap.push { cls:=.type "list_iterator",data:=.fields #[bK p,ki 0 0] }).objs.size=s.heap.objs.size+1:=Ox ..;rcases hb with rfl|rfl
  ·exact ng (dq _) hs.symm
  ·exact ng (eV hp) hs.symm
 ·omega
 ·refine CmpOf.ints_gt (fun i=>ns.getD i 0) fun i v hi=>?_;obtain ⟨n,t,e1,rfl⟩:=uZ r' (i:=i) (by simpa using hi);exact ⟨t,by simp [c6,e1]⟩
 ·rw [ln] at hv;obtain ⟨b1,b2⟩:=argBest_gt (fun i=>ns.getD i 0) (ns.length-1);obtain ⟨n,t,e1,rfl⟩:=uZ r' (by simpa using hv);refine ⟨.int n,H,I.kept (t':=tk) fun b o e=>kp b o ?_ (ag _ e),⟨t,rfl⟩,q n (df e1) fun a ha=>?_⟩
  ·simp only [cJ];exact aD (aq e)
  ·obtain ⟨j,hj,e⟩:=gz ha;have:=b2 j (by omega);simpa [c6,e1,hj,e] using this
end L2
namespace J
open PySem L2
def GB:D->R D
 |.list ds=>match oV ds with
  |some ns=>.ok (.int ns.sum)
  |none=>.no
 |_=>.no
theorem Np (hc:X.calm=true):HV X (.builtin "sum") (gK GB):=by
 refine oP (fun d c n=>?_) fun pins s σ H x u Q Hs d d' I ru sub rx hd q=>?_
 ·unfold GB;split<;>(try split)<;>exact fun h=>by cases h
 ·unfold GB at hd;split at hd
  ·split at hd
   ·rename_i ns hs
    cases hd;obtain ⟨a,vs,rfl,qa,ra⟩:=rx.list sub;rw [qH hs] at ra;rw [oM ra] at qa;exact Af hc pins s σ H _ _ Q I (.cons ru .nil) ⟨a,ns,rfl,qa,q _ H Hs (.refl sub) (.int _)⟩
   ·cases hd
  ·cases hd
def IC:List Int->Int
 |[]=>0
 |x::r=>r.foldl max x
theorem Ep:∀ (r:List Int) (x:Int),(r.foldl max x∈x::r)/\∀ a∈x::r,a<=r.foldl max x
 |[],x=>⟨by simp,fun a ha=>by simp at ha;subst ha;exact sY _⟩
 |y::r,x=>by
  obtain ⟨h1,h2⟩:=Ep r (max x y);rw [cO];refine ⟨?_,fun a ha=>?_⟩
  ·rcases List.mem_cons.mp h1 with h|h
   ·rw [h];by_cases hxy:x<=y
    ·rw [Int.max_eq_right hxy];simp
    ·rw [Int.max_eq_left (by omega)];simp
   ·exact a9 _ (a9 _ h)
  ·have h0:=h2 (max x y) ah;rcases List.mem_cons.mp ha with h|h
   ·subst h;exact qr (Int.le_max_left _ _) h0
   ·rcases List.mem_cons.mp h with h|h
    ·subst h;exact qr (Int.le_max_right _ _) h0
    ·exact h2 a (a9 _ h)
theorem ID  (h1:m∈ns) (h2:∀ a∈ns,a<=m):m=IC ns:=by
 cases ns with
 |nil=>cases h1
 |cons x r =>
  obtain ⟨k1,k2⟩:=Ep r x;exact Int.le_antisymm (k2 _ h1) (h2 _ k1)
def GC:D->R D
 |.list ds=>match oV ds with
  |some ns=>if 0<ns.length then .ok (.int (IC ns)) else .no
  |none=>.no
 |_=>.no
theorem TD (hc:X.calm=true):HV X (.builtin "max") (gK GC):=by
 refine oP (fun d c n=>?_) fun pins s σ H x u Q Hs d d' I ru sub rx hd q=>?_
 ·unfold GC;split<;>(try split)<;>(try split)<;>exact fun h=>by cases h
 ·unfold GC at hd;split at hd
  ·split at hd
   ·split at hd
    ·rename_i ns hs hz
     cases hd;obtain ⟨a,vs,rfl,qa,ra⟩:=rx.list sub;rw [qH hs] at ra;rw [oM ra] at qa;exact Ag hc pins s σ H _ _ Q I (.cons ru .nil) ⟨a,ns,rfl,qa,hz,fun m h1 h2=>by rw [ID h1 h2];exact q _ H Hs (.refl sub) (.int _)⟩
    ·cases hd
   ·cases hd
  ·cases hd
end J
end
namespace J
open PySem L2
section
end
end J
namespace L2
open PySem PySem.Spec PyProof.Rows
section
section
end
end
end L2
namespace J
open PySem L2
section
section
variable {c:C}{pos:Pos}{x:Str}{kx vx iter tg:bd}{ifs:List bd}{scope:dz}{N':List Str}{nt:Nat}{ix:List Nat}{gi:az->R (List D)}{gt:az->R Bool}{gk gv:az->R D}
end
end
end J
section
namespace L2
open PySem PySem.Spec PyProof.Rows
end L2
namespace J
open PySem L2
section
end
end J
end
namespace J
open PySem L2
section
end
section
end
section
def Xe (p:HO->Bool) (H Hs:Hp):Hp:=fun b=>match Hs b,H b with
 |some o,_=>some o
 |none,some o=>if p o then some o else none
 |none,none=>none
def Y7 (p:HO->Bool) (H Hs Hs1:Hp):Hp:=fun b=>match Hs b,H b with
 |none,some o=>if p o then none else Hs1 b
 |_,_=>Hs1 b
section
end
inductive VH (p:HO->Bool) (K:a8) (cls:Str->ak) (E:XK) (ρ:az) (r:R (List D)) (σ:St) (H:Hp) (Q:List V->Hp->Prop):Prop
 |mk (H0 Hs0:Hp) (la:Nat->Option ak) (Hs:Hp) (f:Fr K H0 Hs0 la ρ σ H Hs) (q:Fin K cls E H Hs r fun d=>∀ v H' Hs',cF H Hs H' Hs'->RDs K (Xe p H' Hs') v d->Q v H'):VH p K cls E ρ r σ H Q
structure JL (p:HO->Bool) (c:C) (es:List bd) (g:az->R (List D)):Prop where of ::
 run:∀ ρ,PA c.X es (VH p c.X.K c.cls c.E ρ (g ρ))
section
end
end
section
section
end
end
end J
section
namespace L2
open PySem PySem.Spec PyProof.Rows
end L2
namespace J
open PySem L2
end J
end
namespace J
open PySem L2
section
section
end
end
end J
section
namespace L2
open PySem PySem.Spec PyProof.Rows
inductive VI (X:Cx) (CX:Jr) (E:XK) (t:TA) (σ:St) (Q:VK) (v:V) (H1:Hp):Prop
 |mk (k:Nat) (f:ak) (fd:eK) (ps:List Str) (sp:Sp) (h0:v=.ref f) (F:sf X.prog X.w X.K X.mg X.base CX k f fd ps sp) (hr:i_ k X.A) (hk:dX X.K (.ref f)=true) (hb:kq X.K fd ps []) (q:R6 sp [] E t σ H1 Q):VI X CX E t σ Q v H1
end L2
namespace J
open PySem L2
inductive Es (c:C) (n j:Nat):List bd->List (List D->R D)->List ak->Prop
 |nil:Es c n j [] [] []
 |cons {x:Str}{p:Pos}{F:List D->R D}{k:Nat}{f:ak}{fd:eK}{ps:List Str}{es:List bd}{Fs:List (List D->R D)}{as:List ak} (hf:sf c.X.prog c.X.w c.X.K c.X.mg c.X.base (oJ c.X.prog c.X.w) k f fd ps (Rs c.X.K c.cls n F)) (hm:c.X.mg x=some (.ref f)) (hk:dX c.X.K (.ref f)=true) (hb:kq c.X.K fd ps []) (hj:k<=j) (hg:Gl c.X x) (hdb:(x==("__debug__" : Str))=false) (r:Es c n j es Fs as):Es c n j (.Name x p::es) (F::Fs) (f::as)
section
inductive Nq (c:C) (n j:Nat) (F:List D->R D) (f:ak):Prop
 |mk (k:Nat) (fd:eK) (ps:List Str) (hf:sf c.X.prog c.X.w c.X.K c.X.mg c.X.base (oJ c.X.prog c.X.w) k f fd ps (Rs c.X.K c.cls n F)) (hk:dX c.X.K (.ref f)=true) (hb:kq c.X.K fd ps []) (hj:k<=j):Nq c n j F f
theorem K3 (h:Es c n j es Fs as):∀ {i:Nat}{F:List D->R D},Fs[i]?=some F->∃ f,as[i]?=some f/\Nq c n j F f:=by
 induction h with
 |nil=>intro i F e;simp at e
 | @cons x p F k f fd ps es Fs as hf hm hk hb hj hg hdb r ih =>
  intro i F e;cases i with
  |zero=>cases e;exact ⟨f,rfl,k,fd,ps,hf,hk,hb,hj⟩
  |succ i=>have q:=ih (i:=i) e;exact q
def RY (Fs:List (List D->R D)) (n:Nat) (gi:az->R D) (gs:az->R (List D)) (ρ:az):R Fl:=(gi ρ).bind fun d=>match d with
 |.int k=>if 0<=k then (match Fs[k.toNat]? with
  |some F=>(gs ρ).bind fun ds=>if ds.length=n then (F ds).bind fun d=>.ok (.rt d) else .no
  |none=>.no) else .no
 |_=>.no
theorem BW       (P:Es c n j es Fs as) (hr:i_ j c.X.A) (f:Fr c.X.K H0 Hs0 la ρ σ H Hs) (ha:H a=some (.lst (as.map V.ref))) (q:nW c.X.K c.cls c.E H0 Hs0 la D' (RY Fs n gi gs ρ)) :
  TR c.X.K c.cls c.E ρ (gi ρ) σ H fun y H2=>UD c.X.K (.ref a) y H2 (VI c.X (oJ c.X.prog c.X.w) c.E (Wf c.X.K c.cls c.E ρ (gs ρ)) σ D'.rt):=by
 refine sE f q fun d v H2 Hs2 e1 s1 f2 r1=>?_;unfold RY at q;rw [e1,bind_ok] at q;cases r1 with
 |int k =>
  simp only at q;by_cases hk:0<=k
  ·rw [if_pos hk] at q;split at q
   ·rename_i F hF
    obtain ⟨g,h1,k',fd,ps,hf,hkp,hb,hj⟩:=K3 P hF;have hix:Dg (as.map V.ref) k=some (.ref g):=by
     have:=r9 (xs:=as.map V.ref) (j:=k.toNat) (v:=V.ref g) (by rw [aW,h1];rfl)
     rwa [eh hk] at this
    refine ⟨a,as.map V.ref,k,.ref g,rfl,rfl,.of (s1.all _ _ ha),hix,k',g,fd,ps,_,rfl,hf,hr.mono hj,hkp,hb,H0,Hs0,la,Hs2,f2,?_⟩;cases hg:gs ρ with
    |no=>rw [hg] at q;exact q.elim
    |ex y m=>rw [hg] at q;exact fun H3 Hs3 s3=>q H3 Hs3 (f2.st.trans s3)
    |ok ds =>
     rw [hg,bind_ok] at q;intro vs H3 Hs3 s3 r3;have f3:=f2.step s3;by_cases hn:ds.length=n
     ·rw [if_pos hn] at q;show Rs _ _ _ _ (vs++[]) _ _ _;rw [cA];refine ⟨Hs3,ds,f3.st.sub,hn,r3,?_⟩;cases hFd:F ds with
      |no=>rw [hFd] at q;exact q.elim
      |ex y m=>rw [hFd] at q;exact fun H4 Hs4 s4=>q H4 Hs4 (f3.st.trans s4)
      |ok d=>rw [hFd] at q;exact fun v H4 Hs4 s4 r4=>q v H4 Hs4 (f3.st.trans s4) r4
     ·rw [if_neg hn] at q;exact q.elim
   ·exact q.elim
  ·rw [if_neg hk] at q;exact q.elim
 |list _ _=>exact q.elim
 |none=>exact q.elim
 |bool _=>exact q.elim
 |str _=>exact q.elim
 |tuple _ _=>exact q.elim
 |dictK _ _=>exact q.elim
 |dictT _ _ _=>exact q.elim
 |dictF _ _ _=>exact q.elim
end
end J
namespace J
open PySem L2
end J
end
namespace TS
open PySem PyProof.Rows
section
section
variable {prog:aX}{w:bn}{A:bv}{E:af->ai->Prop}{s:ai}{kd:vQ}{rk:af->Nat}{L:List jE}
variable {l:Bool}{k:jE}{a:Array jE}{b n h i:Nat}{g:Nat->Nat}{st:F_}
end
end
section
structure Mg {α:Type} (lt:α->α->Prop) (T out ra rb:List α):Prop where
 perm:(out++ra++rb).Perm T
 so:out.Pairwise lt
 sa:ra.Pairwise lt
 sb:rb.Pairwise lt
 oa:∀ x∈out,∀ y∈ra,lt x y
 ob:∀ x∈out,∀ y∈rb,lt x y
section
variable {α:Type}{lt:α->α->Prop}{T out ra rb p:List α}
end
section
variable {a:Array jE}{i k:Nat}{x:jE}
end
section
variable {rk:af->Nat}{a:Array jE}{L:List jE}
end
end
section
section
variable {prog:aX}{w:bn}{A:bv}{E:af->ai->Prop}{s:ai}{kd:vQ}{rk:af->Nat}{L:List jE}{st st':F_}
def Y8 (rk:af->Nat) (x y:jE):Prop:=rk x.1<rk y.1
variable {a b out:Array jE}{ia ib k:Nat}{p q:jE}
end
end
section
section
variable {prog:aX}{w:bn}{A:bv}{E:af->ai->Prop}{s:ai}{kd:vQ}{rk:af->Nat}{L:List jE}{st st':F_}
def W (rk:af->Nat) (a b out:Array jE) (na nb:Nat):Prop:=Mg (fun x y=>Y8 rk y x) (a.toList++b.toList) out.toList (a.toList.take na).reverse (b.toList.take nb).reverse
variable {a b out:Array jE}{n m k:Nat}{p q:jE}
end
end
section
section
variable {prog:aX}{w:bn}{A:bv}{E:af->ai->Prop}{s:ai}{kd:vQ}{rk:af->Nat}{L:List jE}{st:F_}{a:Array jE}
end
end
section
section
variable {prog:aX}{w:bn}{A:bv}{E:af->ai->Prop}{s:ai}{kd:vQ}{rk:af->Nat}{L:List jE}{st:F_}{a:Array jE}
end
end
section
section
variable {prog:aX}{w:bn}{A:bv}{E:af->ai->Prop}{s:ai}{kd:vQ}{rk:af->Nat}{L:List jE}{st:F_}{a:Array jE}
end
end
end TS
namespace TS
open PySem PyProof.Rows PySem.W
section
section
variable {prog:aX}{w:bn}{A:bv}{E:af->ai->Prop}{s:ai}
end
end
section
section
end
end
section
section
end
end
end TS
namespace L2
open PySem PySem.Spec PyProof.Rows PySem.W
section
section
end
end
section
section
end
section
end
end
end L2
namespace J
open PySem L2
section
end
end J
section
namespace L2
open PySem PySem.Spec PyProof.Rows PySem.W
end L2
namespace J
open PySem L2
end J
end
namespace J
open PySem PySem.Spec PyProof.Rows L2
section
section
end
end
end J
section
namespace L2
open PySem PySem.Spec PyProof.Rows
end L2
namespace J
open PySem L2
end J
end
namespace L2
open PySem PySem.Spec PyProof.Rows
section
section
variable {prog:aX}{w:bn}{A:bv}{R:xY->ai->Prop}{s:ai}
end
end
section
section
variable {prog:aX}{w:bn}{A:bv}{R:xY->ai->Prop}{s:ai}
end
end
section
end
end L2
namespace J
open PySem L2
section
section
variable {K:a8}{cls:Str->ak}{w:bn}{E:XK}{σ:St}{H:Hp}{Q:VK}{ρ ρ':az}{H0 Hs0 H1 Hs1 Hn:Hp}{la:Nat->Option ak}{nt:Nat}{ix:List Nat}{gi gi2:az->R (List D)}{gt gt2:az->R Bool}{ge:az->R D}{J:It}{es zs:List D}{ss sa sz tl:List Str}
end
section
variable {c:C}{elt tg iter tg2 iter2:bd}{ifs ifs2:List bd}{scope:dz}{pos:Pos}{N':List Str}{nt:Nat}{ix:List Nat}{gi gi2:az->R (List D)}{gt gt2:az->R Bool}{ge:az->R D}
end
end
section
section
variable {c:C}
end
end
end J
namespace L2
open PySem PySem.Spec PyProof.Rows
section
end
end L2
namespace J
open PySem L2
section
section
variable {c:C}{pos:Pos}{x:Str}{kx vx iter tg:bd}{ifs:List bd}{scope:dz}{N':List Str}{nt:Nat}{ix:List Nat}{gi:az->R (List D)}{gt:az->R Bool}{gk gv:az->R D}
end
end
end J
section
namespace L2
open PySem PySem.Spec PyProof.Rows
end L2
namespace J
open PySem L2
section
end
end J
end
namespace TP
open PySem PyProof.Rows PySem.W TS
section
section
variable {prog:aX}{w:bn}{A:bv}{E:af->ai->Prop}{s:ai}{Q:Bool->ai->Prop}{v u:af}{x y:Str×Int}{a b:ak}
end
end
section
section
variable {prog:aX}{w:bn}{A:bv}{E:af->ai->Prop}{s:ai}{kd:vQ}{rk:af->Nat}{L:List jE}{st:F_}{a:Array jE}
end
end
end TP
namespace L2
open PySem PySem.Spec PyProof.Rows PySem.W
section
section
end
end
end L2
namespace J
open PySem L2
section
section
variable {K:a8}{H Hs:Hp}{X:Cx}
end
end
end J
namespace L2
open PySem PySem.Spec PyProof.Rows PySem.W
section
section
variable {X:Cx}{pins:List (ak×Obj)}{σ:St}{H:Hp}{s:ai}
end
end
end L2
namespace J
open PySem L2
section
section
variable {K:a8}{H Hs:Hp}{c:C}{e:bd}{g:az->R D}{p apos ipos cpos:Pos}
end
end
section
section
variable {c:C}
end
end
end J
section
namespace L2
open PySem PySem.Spec PyProof.Rows
section
variable {prog:aX}{w:bn}{A:bv}{R:xY->ai->Prop}{I:ak}{fp wr:List ak}{n:Nat}{P:Nat->af->Prop}{St:Nat->bE->Prop}{d:af}
end
section
variable {prog:aX}{w:bn}{A:bv}{E:af->ai->Prop}{s:ai}
theorem Qi {id:String}{b:kR}{args:List af}{kw:List (Str×af)}{Q:af->ai->Prop} (hk:builtinKind id=none) (hp:plainId id=true) (hb:FR table id=some b) (ha:argsOk id ⟨args,kw⟩)
  (hc:ar (aL prog w) A.in1 (b ⟨args,kw⟩) (fun fin s'=>match fin with
   |.done f=>(match (Except.ok f:xY) with | .ok (.ret v)=>Q v s' | .ok _=>False | .error e=>E e s')
   |.again c'=>c'.quiet=true/\gU (aL prog w) A c' (fun r s'=>match r with | .ok (.ret v)=>Q v s' | .ok _=>False | .error e=>E e s') s') E s):ar (aL prog w) A (call (.builtin id) args kw) Q E s:=by
 refine FK (OK hp hb ?_);simp only [checkBuiltinCall,hk]
 cases hsig:Manifest.signature? id with
 |none=>exact aa hc
 |some sig =>
  have h2:Bind.checkArgs id sig ⟨args,kw⟩=pure ():=by simpa only [argsOk,hsig] using ha
  simp only [h2];exact aa hc
end
end L2
namespace J
open PySem L2
section
variable {X:Cx}{c:C}
end
end J
end
namespace L2
open PySem PySem.Spec PyProof.Rows
section
end
end L2
namespace J
open PySem L2
section
section
variable {K:a8}{cls:Str->ak}{E:XK}{σ:St}{H:Hp}{Q:VK}{ρ ρ':az}{H0 Hs0 H1 Hs1 Hn:Hp}{la:Nat->Option ak}{nt:Nat}{ix:List Nat}{gi gi2:az->R (List D)}{gt gt2:az->R Bool}{ge:az->R D}{J:It}{es zs ys ya tl:List D}{va:List V}
end
section
variable {c:C}{elt tg iter tg2 iter2:bd}{ifs ifs2:List bd}{scope:dz}{pos:Pos}{N':List Str}{nt:Nat}{ix:List Nat}{gi gi2:az->R (List D)}{gt gt2:az->R Bool}{ge:az->R D}
end
end
end J
namespace L2
open PySem PySem.Spec PyProof.Rows PySem.Calls
section
theorem yS {pos:Pos}{i0 j0:Int}{t0 u0:Tok}{c cv:af}:∀ (l:List af),BD l->rW pos (l++[.int i0 t0,.int j0 u0,c])=some cv->rW pos l=some cv\/cv=c
 |[],_,h=>by
  have h':(if i0==pos.line&&j0==pos.col then some c else none)=some cv:=h
  split at h'
  ·exact .inr (bu h').symm
  ·cases h'
 |.int i t::.int j u::x::r,ht,h=>by
  have h':(if i==pos.line&&j==pos.col then some x else rW pos (r++[.int i0 t0,.int j0 u0,c]))=some cv:=h
  show (if i==pos.line&&j==pos.col then some x else rW pos r)=some cv\/cv=c
  split at h'
  ·rename_i hc;rw [if_pos hc];exact .inl h'
  ·rename_i hc;rw [if_neg hc];exact yS r ht h'
theorem u_ {i j:Int}{t u:Tok}{c:af}:∀ (l:List af),BD l->BD (l++[.int i t,.int j u,c])
 |[],_=>trivial
 |.int _ _::.int _ _::_::r,h=>u_ r h
section
variable {X:Cx}{pins:List (ak×Obj)}{σ:St}{H:Hp}{s:ai}
theorem bB.grow {P c':ak}{oc:Obj}{ps qs:Array af}{h':bE}{t':Nat} (I:bB X pins σ H s) (hP:H P=some (.tbl ps)) (kx:y0 P s.heap h') (hc:s.heap.objs.size<=c') (eo:h'.get? c'=some oc)
  (eP:h'.get? P=some { cls:=.none,data:=.fields qs }) (tq:BD qs.toList) (cq:∀ pos cv,rW pos qs.toList=some cv->∃ c o u vs q t,cv=.ref c/\upd H c' (.frz oc (.own 0)) c=some (.frz o u)/\o.data=.fields vs/\vs[1]?=some (.str q t)/\ps[0]?=some (.str q 0)) :
  bB X pins σ (upd H c' (.frz oc (.own 0))) { s with heap:=h',toks:=t' }:=by
 have hn:H c'=none:=I.hok.fresh hc
 have nP:∀ b,H b=none->b≠P:=fun b n z=>by rw [z,hP] at n;cases n
 have nc:∀ b o,s.heap.get? b=some o->b≠c':=fun b o e=>aD (aI (aq e) hc)
 refine I.un ⟨fun b o e n _ _=>kx b o (nP b n) e,fun b o e n _ _=>⟨o.slots,kx b o (nP b n) e⟩,fun b o e n _=>by rw [a_ (nc b o e)];exact n,fun b o e _=>?_,fun b xs e=>by rw [a_ (bp e hn)];exact e,fun b o u e=>by rw [a_ (bp e hn)];exact e,fun b qs e=>⟨#[],by rw [a_ (bp e hn),e];simp⟩⟩ fun a o e=>?_
 ·by_cases z:b=P
  ·rw [z];exact ⟨_,eP⟩
  ·exact ⟨o,kx b o z e⟩
 ·by_cases z:a=c'
  ·subst z
   rw [ba] at e
   cases e
   exact ⟨eo,⟨oc,eo⟩⟩
  ·rw [a_ z] at e
   by_cases zP:a=P
   ·subst zP
    rw [hP] at e
    cases e
    exact ⟨qs,eP,tq,cq⟩
   ·refine (I.hok a o e).stay (fun b u hb e'=>kx b u ?_ e') (fun b e'=>by rw [a_ (bp e' hn)];exact e') (fun b xs e'=>by rw [a_ (bp e' hn)];exact e') fun b ob u e'=>by rw [a_ (bp e' hn)];exact e'
    rcases hb with rfl|hb
    ·exact zP
    ·rintro rfl;rw [hP] at hb;cases hb
theorem bB.pinNew {o:Obj}{t':Nat} (I:bB X pins σ H s) (nd:∀ v,o.data≠.cell v) (fr:o.isFreed=false):bB X ((s.heap.objs.size,o)::pins) σ H { s with heap:=s.heap.push o,toks:=t' }:=by
 have I2:bB X pins σ H { s with heap:=s.heap.push o,toks:=t' }:=I.kept (t':=t') fun _ _ e=>ag _ e
 have fp:=I.fpOk (H':=H) (au _) (I.hok.fresh (au _))
 refine I2.pins_of fun p hp=>?_
 rcases List.mem_cons.mp hp with rfl|hp
 ·exact ⟨ax _ fr,fp.f0,fp.f1,fp.f2,nd⟩
 ·exact I2.pin p (ap _ hp)
abbrev w9 (X:Cx):Str:=X.env.qual++"<lambda>"
theorem Nr {params:wD}{body:bd}{scope:dz}{pos:Pos}{c P:ak}{q:Str}{cl:List (Str×ak)}{Q:af->ai->Prop}{E:af->ai->Prop} (I:bB X pins σ H s) (hdef:defaultsOf params X.env=([],[])) (hcode:X.env.code=.ref c) (hci:dA X.K (.ref c) q=true) (hch:fi X.K c P=true) (hnP:X.K.lookup P=none) (hq0:q=Se) (hq:X.env.qual=q++".<locals>.") (hcl:closureFor scope X.env=pure cl)
  (h:∀ f c' oc u vs t ctv pm H' s',bB X ((f,xm "<lambda>" (w9 X) params body scope cl pm c' ctv)::pins) σ H' s'->c_ H H'->H' c'=some (.frz oc u)->oc.data=.fields vs->vs[1]?=some (.str (w9 X) t)->Q (.ref f) s') :
  ar (aL X.prog X.w) X.A (ed (.Lambda params body scope pos) X.env) Q E s:=by
 refine PySem.W.kla_eval hdef ?_
 obtain ⟨ps,hP,hps⟩:=I.ok.tb.more I.base.tbls c P q hci hch hnP hq0
 obtain ⟨qs,eP,tq,cq⟩:=I.hok P _ hP
 have C:=Fw I.kIn hch
 obtain ⟨bm,ob,b1,b2,b3,b4,b5,b6⟩:=I.mod.bm
 have bmh:=I.bk bm ob b3
 have hg:s.heap.Ns bt X.mg:=I.mod.glob.keeps I.bk
 have hgP:bt≠P:=fun z=>by
  obtain ⟨o,es,ep,e,hd,_⟩:=hg
  rw [z,eP] at e;cases e;cases hd
 have hbP:bm≠P:=fun z=>by rw [z,eP] at bmh;cases bmh;cases b4
 have hbG:bm≠bt:=fun z=>by
  obtain ⟨o,es,ep,e,hd,_⟩:=hg
  rw [z,e] at bmh;cases bmh;rw [hd] at b6;cases b6
 have hb:s.heap.BuiltinsAt X.mg P:=⟨bm,ob,b1,b2,hbG,hbP,bmh,b4,b5,b6⟩
 have eq:w9 X=q++".<locals>."++"<lambda>":=by unfold w9;rw [hq]
 cases hf:rW pos qs.toList with
 |none =>
  refine PySem.W.kla_makeFunction hcl I.ok.glob hg hcode C eP tq hf hgP hb fun c' ctv h' tk kx hc1 hc2 hrec htb=>?_
  obtain ⟨c₂,oc,vs,t,e2,hoc,hd,hv⟩:=hrec
  cases e2
  have hn:H c'=none:=I.hok.fresh hc1
  have I1:=I.grow (t':=tk) (qs:=qs++#[bZ pos.line,bZ pos.col,.ref c']) hP kx hc1 hoc htb (by rw [HB];exact u_ _ tq) fun pos' cv ha=>by
   rw [HB] at ha
   rcases yS _ tq ha with ha|rfl
   ·obtain ⟨c3,o3,u3,vs3,q3,t3,r1,r2,r3⟩:=cq pos' cv ha
    exact ⟨c3,o3,u3,vs3,q3,t3,r1,by rw [a_ (bp r2 hn)];exact r2,r3⟩
   ·exact ⟨c',oc,.own 0,vs,_,t,rfl,ba,hd,hv,by rw [hps,<- eq]⟩
  exact h _ c' oc (.own 0) vs t ctv _ _ _ (I1.pinNew (t':=tk) (fun v z=>by cases z) rfl) (kr hn) ba hd hv
 |some cv =>
  obtain ⟨c',oc,u,vs,q',t,rfl,e1,e2,e3,e4⟩:=cq pos cv hf
  refine PySem.W.kla_makeFunctionHit hcl I.ok.glob hg hcode C eP tq hf hb fun ctv h' tk hk hsz=>?_
  have I1:bB X pins σ H { s with heap:=h',toks:=tk }:=I.kept (t':=tk) hk
  have eqq:q'=w9 X:=(Value.str.inj (bu (e4.symm.trans hps))).1.trans eq.symm
  exact h _ c' oc u vs t ctv _ _ _ (I1.pinNew (t':=tk) (fun v z=>by cases z) rfl) (.refl H) e1 e2 (by rw [<- eqq];exact e3)
end
end
section
abbrev Qj (X:Cx) (scope:dz) (cl:List (Str×ak)) (f c' L:ak):Env:=PySem.W.envX (w9 X) scope L f (.ref c') cl
def IE (X:Cx) (N':List Str) (scope:dz) (cl:List (Str×ak)) (f c':ak) (s:ai) (H:Hp):Cx :=
 { X with A:=X.A.in1.deeper (Qj X scope cl f c' s.heap.objs.size),N:=N',s₀:=s,H₀:=H,env:=Qj X scope cl f c' s.heap.objs.size,outer:=X.stack,stack:=Qj X scope cl f c' s.heap.objs.size::X.stack,ex:=[],fn:=fun _=>false,pn:=[],xe:=fun _ _=>False }
structure Et (X:Cx) (scope:dz) (N':List Str) (ix:List Nat) (p:Str):Prop where
 kind:scope.kind=.function
 co:scope.isCoroutine=false
 gen:scope.isGenerator=false
 nocell:∀ y∈scope.names,y.2≠.cell
 par:scope.names.lookup p=some .local
 hd:N'[0]?=some p
 free:∀ y∈scope.names,y.2=.free->X.env.scope.names.lookup y.1=some .cell\/X.env.scope.names.lookup y.1=some .free
 cap:∀ k i,ix[k]?=some i->∃ x,X.N[i]?=some x/\N'[1+k]?=some x/\scope.names.lookup x=some .free
 len:N'.length=1+ix.length
def Cp (ix:List Nat) (σ:St) (x:V):St:=some x::ix.map fun i=>(σ[i]?).join
section
variable {X:Cx}{pins:List (ak×Obj)}{σ:St}{H:Hp}{s:ai}
theorem Qk {scope:dz}{N':List Str}{ix:List Nat}{p:Str}{cl:List (Str×ak)}{f c':ak}{h₁:bE}{t':Nat}{v:af}{x:V} (S:Et X scope N' ix p) (hc:X.calm=true) (I:bB X pins σ H s)
  (c1:∀ x c,cl.lookup x=some c->X.env.cells.lookup x=some c) (c2:∀ y∈scope.names,y.2=.free->∃ c,cl.lookup y.1=some c) (rx:cR x v) (hns:h₁.Ns s.heap.objs.size fun y=>[(p,v)].reverse.lookup y) (old:∀ b o,s.heap.get? b=some o->h₁.get? b=some o) :
  bB (IE X N' scope cl f c' s H) [] (Cp ix σ x) H { s with heap:=h₁,toks:=t' }:=by
 have cellOld:∀ {c v},s.heap.IsCell c v->h₁.IsCell c v:=fun {c v} ⟨o,ho,hd⟩=>⟨o,old _ _ ho,hd⟩
 refine ⟨⟨I.ok.mod,S.kind,rfl,rfl,au _,fun y z c h1 h2=>I.ok.inj y z c (c1 y c h1) (c1 z c h2),fun y hy=>?_,fun y c h _=>pV h,fun _=>I.ok.hd hc,Fv (show X.A.in1.frames=some X.stack from I.ok.frames),.inr ⟨rfl,rfl⟩,fun b z=>absurd (show b∈([] : List ak) from z) (by simp),I.bs,cy I.ok.bsz I.sz,fun b o e z=>absurd (show b∈([] : List ak) from z) (by simp),fun b z=>absurd (show b∈([] : List ak) from z) (by simp),I.stack,I.stkFree,I.ok.tb.more I.base.tbls⟩,
  rfl,I.bare,Un.kept old,⟨_,hns,fun i y w h1 h2 h3=>?_⟩,fun y c h=>?_,I.hok.fresh (au _),fun y c h=>I.freeC y c (c1 y c h),fun q hq=>absurd (show q∈([] : List (ak×Obj)) from hq) (by simp),I.hok.kept old,?_⟩
 ·have hy:scope.names.lookup y=some .cell\/scope.names.lookup y=some .free:=hy
  rcases hy with hy|hy
  ·exact absurd rfl (S.nocell _ (bW hy))
  ·exact c2 _ (bW hy) rfl
 ·have h1:N'[i]?=some y:=h1
  cases i with
  |zero =>
   rw [S.hd] at h1
   cases h1
   have h2:some (some x)=some (some w):=h2
   cases h2
   exact ⟨v,rx,.inl ⟨S.par,by simp⟩⟩
  |succ k =>
   have h2:(ix.map fun i=>(σ[i]?).join)[k]?=some (some w):=h2
   rw [aW] at h2
   cases e:ix[k]? with
   |none=>rw [e] at h2;cases h2
   |some j =>
    rw [e] at h2
    have hj:σ[j]?=some (some w):=by
     have q:(σ[j]?).join=some w:=bu h2
     cases e3:σ[j]? with
     |none=>rw [e3] at q;cases q
     |some o=>rw [e3] at q;cases o with
      |none=>cases q
      |some v'=>cases q;rfl
    obtain ⟨x',n1,n2,fr⟩:=S.cap _ _ e
    rw [Nat.add_comm 1 k,h1] at n2
    cases n2
    obtain ⟨mm,hn,hl⟩:=I.loc
    have hfree:=S.free (y,.free) (bW fr) rfl
    obtain ⟨u,r,l⟩:=hl j y w n1 hj (hfree.elim (fun z=>.inr (.inl z)) fun z=>.inr (.inr z))
    refine ⟨u,r,?_⟩
    rcases l with ⟨k,_⟩|⟨k,c,hcc,hcell⟩
    ·have k:X.env.scope.names.lookup y=some .local:=k
     rcases hfree with z|z<;>(rw [z] at k;cases k)
    ·obtain ⟨c'',hc'⟩:=c2 _ (bW fr) rfl
     have:=c1 y c'' hc'
     rw [hcc] at this
     cases this
     exact .inr ⟨.inr fr,c,hc',cellOld hcell⟩
 ·obtain ⟨v,q⟩:=I.cell y c (c1 y c h)
  exact ⟨v,cellOld q⟩
 ·show (Cp ix σ x).length=N'.length
  rw [S.len]
  unfold Cp
  rw [aT,ao,Nat.add_comm]
theorem Nt {params:wD}{body:bd}{scope:dz}{N':List Str}{ix:List Nat}{p:Str}{cl:List (Str×ak)}{f c':ak}{oc:Obj}{u:HO}{vs:Array af}{t:Tok}{pm ctv:af}{te:TE}{x:V}{v:af}{Q:VK} (S:Et X scope N' ix p) (hc:X.calm=true)
  (I:bB X ((f,xm "<lambda>" (w9 X) params body scope cl pm c' ctv)::pins) σ H s) (hcr:H c'=some (.frz oc u)) (hd:oc.data=.fields vs) (hv:vs[1]?=some (.str (w9 X) t))
  (c1:∀ x c,cl.lookup x=some c->X.env.cells.lookup x=some c) (c2:∀ y∈scope.names,y.2=.free->∃ c,cl.lookup y.1=some c) (hroom:X.A.depth<vH) (hbind:∀ v,vI (y9 "<lambda>" (w9 X) params body scope cl pm (.ref c') ctv) ⟨[v],[]⟩=pure [(p,v)])
  (hb:∀ s,PE (IE X N' scope cl f c' s H) body te) (rx:cR x v) (q:te (Cp ix σ x) H Q) :
  ar (aL X.prog X.w) X.A.in1 (call (.ref f) [v]) (EP X ((f,xm "<lambda>" (w9 X) params body scope cl pm c' ctv)::pins) σ Q) (fun _ _=>False) s:=by
 obtain ⟨pf,_⟩:=I.pin (f,_) (ap _ ah)
 have hcd:s.heap.CodeRec (.ref c') (w9 X):=⟨c',oc,vs,t,rfl,(I.hok c' _ hcr).1,hd,hv⟩
 refine FK (nL (PySem.W.kla_callFunE (R:=fun r s'=>∃ w,r=.ok (.ret w)/\CE X.stack X.prog X.w H s Q w s') hroom pf rfl S.co S.gen rfl hcd ?_) fun r s' h=>?_)
 ·rw [hbind v]
  refine aa (wpAny_newFunctionEnv S.nocell (fun y hy=>?_) (fun h₁ hns hsb=>⟨?_,?_⟩) S.kind)
  ·rw [List.mem_singleton.mp hy];exact S.par
  ·exact I.nolimit.fresh _ hsb
  ·show gU _ _ (.expr body (Qj X scope cl f c' s.heap.objs.size)) _ _
   have old:∀ b o,s.heap.get? b=some o->h₁.get? b=some o:=fun b o e=>hsb.extBut b o (aD (aq e)) (ag _ e)
   have J:=Qk (f:=f) (c':=c') (t':=s.toks+[(p,v)].length) S hc I c1 c2 rx hns old
   refine PySem.W.kla_codeExpr (ck (hb s [] _ _ H Q J q) (fun w s' h=>?_) fun _ _ h=>(show False from h).elim)
   obtain ⟨y,H',J',r,q'⟩:=h
   exact ⟨w,rfl,⟨y,H',J'.os,J'.bare,J'.base,J'.hok,r,q'⟩⟩
 ·obtain ⟨w,rfl,ce⟩:=h
  exact I.after ce
structure K4 (X:Cx) (D:ak):Prop where
 ex:D∈X.ex\/X.s₀.heap.objs.size<=D
 cells:∀ x c,X.env.cells.lookup x=some c->c≠D
 pn:∀ p∈X.pn,p.1≠D
theorem se.newD {D:ak} (h:se X pins H D):K4 X D:=⟨h.f3,h.f4,fun p hp=>h.f5 p (bD _ hp)⟩
theorem bB.reord {pins':List (ak×Obj)} (I:bB X pins σ H s) (h:∀ p∈pins',p∈pins):bB X pins' σ H s:=I.pins_of fun p hp=>I.pin p (ap _ (h p hp))
theorem bB.repin {D:ak}{o o':Obj}{h':bE}{t':Nat}{pl:List (ak×Obj)} (I:bB X ((D,o)::pl) σ H s) (k:∀ b u,b≠D->s.heap.get? b=some u->h'.get? b=some u) (e':h'.get? D=some o') (nd:∀ v,o'.data≠.cell v) (n:K4 X D) (h3:∀ p∈pl,p.1≠D):bB X ((D,o')::pl) σ H { s with heap:=h',toks:=t' }:=by
 obtain ⟨pD,pN,pL,pF,_⟩:=I.pin (D,o) (ap _ ah)
 have I1:bB X pl σ H s:=I.reord fun p hp=>a9 _ hp
 have I2:bB X pl σ H { s with heap:=h',toks:=t' }:=I1.turned (it:=D) k pN pL n.ex n.cells fun p hp=>(List.mem_append.mp hp).elim (n.pn p) (h3 p)
 refine I2.pins_of fun p hp=>?_
 rcases aO.1 hp with z|hp
 ·rw [z];exact ⟨e',pN,pL,pF,nd⟩
 ·exact I2.pin p (ap _ hp)
end
def Bc (te:TE) (ca:V->St):List V->V->Int->Hp->VK->Prop
 |[],b,_,H,Q=>Q b H
 |x::r,b,m,H,Q=>te (ca x) H fun y H1=>∃ k,y=.int k/\c_ H H1/\(if k > m then Bc te ca r x k H1 Q else Bc te ca r b m H1 Q)
end
section
abbrev L5 (vb:af) (k:Int) (t:Tok) (c:Nat):Obj:={ cls:=.type "list",data:=.seq #[vb,.int k t] c }
def KR (X:Cx) (pl:List (ak×Obj)) (σ:St) (Q:VK):xY->ai->Prop:=fun r s'=>match r with
 |.ok (.ret v)=>EP X pl σ Q v s'
 |.ok _=>False
 |.error e=>X.xe e s'
section
variable {X:Cx}{σ:St}
theorem Ql {f S It l:ak}{of:Obj}{pl:List (ak×Obj)}{xs:List V}{te:TE}{ca:V->St}{Q:VK} (hc:X.calm=true) (nS:K4 X S) (nI:K4 X It) (SI:S≠It) (Sf:S≠f) (If:It≠f) (hS:∀ p∈pl,p.1≠S) (hI:∀ p∈pl,p.1≠It) (lI:l≠It) (kp:Hp->Prop)
  (kps:∀ H H',kp H->c_ H H'->kp H')
  (key:∀ (pins:List (ak×Obj)) (s:ai) (H:Hp) (x:V) (v:af) (Q:VK),bB X ((f,of)::pins) σ H s->kp H->cR x v->te (ca x) H Q->ar (aL X.prog X.w) X.A.in1 (call (.ref f) [v]) (EP X ((f,of)::pins) σ Q) (fun _ _=>False) s) :
  ∀ (m j:Nat) (s:ai) (H:Hp) (xb:V) (vb:af) (kb:Int) (tb:Tok) (c:Nat) (oI:Obj),xs.length-j=m->j<=xs.length->bB X ((f,of)::(S,L5 vb kb tb c)::(It,oI)::pl) σ H s->kp H->s.heap.IsListIter It l j->cR xb vb->ni X.K H l xs->Bc te ca (xs.drop j) xb kb H Q ->
   gU (aL X.prog X.w) X.A (.builtin "max.loop" ⟨[.ref It,.ref f,.ref S],[]⟩) (KR X pl σ Q) s:=by
 have hname:(toString "max"++toString ".loop" : String)="max.loop":=by decide
 intro m
 induction m with
 |zero =>
  intro j s H xb vb kb tb c oI hm hj I hk hit rb hq w
  have hjl:j=xs.length:=by omega
  rw [hjl,List.drop_length] at w
  have w:Q xb H:=w
  obtain ⟨its,r',pll,hz⟩:=I.list hq
  have ln:its.toArray.size=xs.length:=by have:=r'.length;simp at this ⊢;omega
  obtain ⟨gS,_⟩:=I.pin (S,_) (ap _ (a9 _ ah))
  have W:=kj (prog:=X.prog) (w:=X.w) (A:=X.A.in1) (I.ok.hd hc) It l lI its.toArray
  refine fo oC ?_
  rw [dR dZ _]
  show ar _ X.A.in1 (rY (.ref S) >>= _) _ _ _
  refine a7 (du gS rfl ?_)
  show ar _ X.A.in1 (tryCatch (jl (.ref It)) _ >>= _) _ _ _
  refine a7 (kU (W.done _ _ _ ⟨by rw [ln,<- hjl];exact hit,pll.isList⟩ fun h' tk' hk'=>?_))
  have gS':=hk' S _ (by simpa using SI) gS
  have I1:bB X ((S,L5 vb kb tb c)::pl) σ H { s with heap:=h',toks:=tk' }:=by
   have I0:bB X ((S,L5 vb kb tb c)::pl) σ H s:=I.reord fun p hp=>by
    rcases List.mem_cons.mp hp with rfl|hp
    ·exact a9 _ ah
    ·exact a9 _ (a9 _ (a9 _ hp))
   obtain ⟨_,pN,pL,_⟩:=I.pin (It,oI) (ap _ (a9 _ (a9 _ ah)))
   exact I0.turned (it:=It) (fun b o hb e=>hk' b o (by simpa using hb) e) pN pL nI.ex nI.cells fun p hp=>(List.mem_append.mp hp).elim (nI.pn p) fun hp=>(List.mem_cons.mp hp).elim (fun z=>by rw [z];exact SI) (hI p)
  obtain ⟨_,sN,sL,_⟩:=I1.pin (S,L5 vb kb tb c) (ap _ ah)
  have I2:=(I1.reord (pins':=pl) fun p hp=>a9 _ hp).turned (t':=tk') (it:=S) (h':=h'.update S (fJ fun _=>#[])) (fun b o hb e=>(dn _ _ (c9 hb)).trans e) sN sL nS.ex nS.cells fun p hp=>(List.mem_append.mp hp).elim (nS.pn p) (hS p)
  show ar _ X.A.in1 (KS S (fun _=>#[]) >>= _) _ _ _
  refine a7 ?_
  refine n6 gS' rfl (a7 (mv (aa ?_)))
  exact ⟨xb,H,I2,rb,w⟩
 |succ m ih =>
  intro j s H xb vb kb tb c oI hm hj I hk hit rb hq w
  have hlt:j<xs.length:=by omega
  obtain ⟨its,r',pll,hz⟩:=I.list hq
  have ln:its.toArray.size=xs.length:=by have:=r'.length;simp at this ⊢;omega
  rw [BF hlt] at w
  obtain ⟨gS,_⟩:=I.pin (S,_) (ap _ (a9 _ ah))
  have W:=kj (prog:=X.prog) (w:=X.w) (A:=X.A.in1) (I.ok.hd hc) It l lI its.toArray
  refine fo oC ?_
  rw [dR dZ _]
  show ar _ X.A.in1 (rY (.ref S) >>= _) _ _ _
  refine a7 (du gS rfl ?_)
  show ar _ X.A.in1 (tryCatch (jl (.ref It)) _ >>= _) _ _ _
  refine a7 (kU (W.item j _ _ _ (by rw [ln];exact hlt) ⟨hit,pll.isList⟩ fun v h' tk' hP hst' hk'=>?_))
  obtain ⟨oI',hoI',hoc,hod⟩:=id hst'.1
  have rx:cR xs[j] v:=by
   obtain ⟨u,hu,ru⟩:=r'.get (aY hlt)
   have hP':its[j]?=some v:=by simpa using hP
   rw [hP'] at hu;cases hu;exact ru
  have I1:bB X ((f,of)::(S,L5 vb kb tb c)::(It,oI')::pl) σ H { s with heap:=h',toks:=tk' }:=by
   have I0:bB X ((It,oI)::(f,of)::(S,L5 vb kb tb c)::pl) σ H s:=I.reord fun p hp=>by
    simp only [aO] at hp ⊢
    rcases hp with z|z|z|z
    ·exact .inr (.inr (.inl z))
    ·exact .inl z
    ·exact .inr (.inl z)
    ·exact .inr (.inr (.inr z))
   refine (I0.repin (t':=tk') (fun b o hb e=>hk' b o (by simpa using hb) e) hoI' (fun w z=>by rw [hod] at z;cases z) nI fun p hp=>?_).reord fun p hp=>?_
   ·simp only [aO] at hp
    rcases hp with z|z|z
    ·rw [z];exact c9 If
    ·rw [z];exact SI
    ·exact hI p z
   ·simp only [aO] at hp ⊢
    rcases hp with z|z|z|z
    ·exact .inr (.inl z)
    ·exact .inr (.inr (.inl z))
    ·exact .inl z
    ·exact .inr (.inr (.inr z))
  show ar _ X.A.in1 (tryCatch (zQ [v] (call (.ref f) [v])) _ >>= _) _ _ _
  refine a7 (kU (cH (ck (key _ _ H xs[j] v _ I1 hk rx w) (fun u s2 he=>?_) fun _ _ hF=>hF.elim)))
  obtain ⟨y,H2,I2,ry,k,rfl,sm,w2⟩:=he
  obtain ⟨t2,rfl⟩:=ry
  have hk2:=kps H H2 hk sm
  obtain ⟨gS2,sN,sL,_⟩:=I2.pin (S,L5 vb kb tb c) (ap _ (a9 _ ah))
  obtain ⟨gI2,_⟩:=I2.pin (It,oI') (ap _ (a9 _ (a9 _ ah)))
  have hit2:s2.heap.IsListIter It l (j+1):=⟨oI',gI2,hoc,hod⟩
  show ar _ X.A.in1 (tryCatch (zQ [v,.int k t2] (richCompare .Gt (.int k t2) (.int kb tb) >>= _)) _ >>= _) _ _ _
  refine a7 (kU (cH (a7 (CmpOf.ints_gt (prog:=X.prog) (w:=X.w) (A:=X.A.in1) (P:=fun i v=>∃ t,v=.int (if i=0 then k else kb) t) (fun i=>if i=0 then k else kb) (fun i v h=>h) 0 1 _ _ _ _ _ ⟨t2,rfl⟩ ⟨tb,rfl⟩ ?_))))
  refine a7 (cH (cY ?_))
  refine a7 (mv (aa ?_))
  simp only [if_true,Nat.one_ne_zero,if_false]
  by_cases hb':k > kb
  ·rw [if_pos hb'] at w2
   simp only [hb',decide_true,if_true]
   refine a7 ?_
   refine n6 gS2 rfl (a7 (mv ?_))
   rw [hname]
   obtain ⟨c2,hc2⟩:∃ c2,(s2.heap.update S (fJ fun _=>#[v,.int k t2])).get? S=some (L5 v k t2 c2):=⟨_,dE _ gS2 rfl⟩
   have I3:bB X ((f,of)::(S,L5 v k t2 c2)::(It,oI')::pl) σ H2 { s2 with heap:=s2.heap.update S (fJ fun _=>#[v,.int k t2]),toks:=s2.toks }:=by
    have I0:bB X ((S,L5 vb kb tb c)::(f,of)::(It,oI')::pl) σ H2 s2:=I2.reord fun p hp=>by
     simp only [aO] at hp ⊢
     rcases hp with z|z|z|z
     ·exact .inr (.inl z)
     ·exact .inl z
     ·exact .inr (.inr (.inl z))
     ·exact .inr (.inr (.inr z))
    refine (I0.repin (t':=s2.toks) (fun b o hb e=>(dn _ _ (c9 hb)).trans e) hc2 (fun w z=>by cases z) nS fun p hp=>?_).reord fun p hp=>?_
    ·simp only [aO] at hp
     rcases hp with z|z|z
     ·rw [z];exact c9 Sf
     ·rw [z];exact c9 SI
     ·exact hS p z
    ·simp only [aO] at hp ⊢
     rcases hp with z|z|z|z
     ·exact .inr (.inl z)
     ·exact .inl z
     ·exact .inr (.inr (.inl z))
     ·exact .inr (.inr (.inr z))
   exact aa ⟨iF dZ _,ih (j+1) _ H2 xs[j] v k t2 c2 oI' (by omega) hlt I3 hk2 ⟨oI',(dn _ _ SI).trans gI2,hoc,hod⟩ rx (sm.seq hq) w2⟩
  ·rw [if_neg hb'] at w2
   simp only [hb',decide_false,bU,if_false]
   refine a7 (mv ?_)
   rw [hname]
   exact aa ⟨iF dZ _,ih (j+1) _ H2 xb vb kb tb c oI' (by omega) hlt I2 hk2 hit2 rb (sm.seq hq) w2⟩
end
end
end L2
section
namespace L2
theorem Qm (a v:PySem.Value):PySem.argsOk "max" ⟨[a],[(PySem.Str.ofString "key",v)]⟩:=by unfold PySem.argsOk;kernel_rfl
open PySem PySem.Spec PyProof.Rows PySem.Calls
section
variable {X:Cx}{σ:St}{H:Hp}{s:ai}
theorem Qn {f l:ak}{of:Obj}{pl:List (ak×Obj)}{x0:V}{r:List V}{te:TE}{ca:V->St}{Q:VK} (hc:X.calm=true) (kp:Hp->Prop) (kps:∀ H H',kp H->c_ H H'->kp H')
  (key:∀ (pins:List (ak×Obj)) (s:ai) (H:Hp) (x:V) (v:af) (Q:VK),bB X ((f,of)::pins) σ H s->kp H->cR x v->te (ca x) H Q->ar (aL X.prog X.w) X.A.in1 (call (.ref f) [v]) (EP X ((f,of)::pins) σ Q) (fun _ _=>False) s)
  (I:bB X ((f,of)::pl) σ H s) (hk:kp H) (hq:ni X.K H l (x0::r)) (w:te (ca x0) H fun y H1=>∃ k,y=.int k/\c_ H H1/\Bc te ca r x0 k H1 Q) :
  ar (aL X.prog X.w) X.A (call (.builtin "max") [.ref l] [(ef "key",.ref f)]) (EP X pl σ Q) X.xe s:=by
 have hname:(toString "max"++toString ".loop" : String)="max.loop":=by decide
 obtain ⟨its,r',pll,hz⟩:=I.list hq
 have ln:its.toArray.size=r.length+1:=by have:=r'.length;simp at this ⊢;omega
 obtain ⟨ol,hol,_⟩:=pll.isList
 have hll:l<s.heap.objs.size:=aq hol
 have plt:∀ p∈(f,of)::pl,p.1<s.heap.objs.size:=fun p hp=>aq (I.pin p (ap _ hp)).1
 have nI:K4 X s.heap.objs.size:=(I.fpOk (H':=H) (au _) (I.hok.fresh (au _))).newD
 have I1:=I.pinNew (t':=s.toks) (o:={ cls:=.type "list_iterator",data:=.fields #[.ref l,.int 0 0] }) (fun v z=>by cases z) rfl
 have hS:(s.heap.push { cls:=.type "list_iterator",data:=.fields #[.ref l,.int 0 0] }).objs.size=s.heap.objs.size+1:=cg ..
 have nS:K4 X (s.heap.push { cls:=.type "list_iterator",data:=.fields #[.ref l,.int 0 0] }).objs.size:=(I1.fpOk (H':=H) (au _) (I1.hok.fresh (au _))).newD
 have I2:=I1.pinNew (t':=s.toks) (o:={ cls:=.type "list",data:=.seq #[] }) (fun v z=>by cases z) rfl
 refine Qi PySem.F.kind_max PySem.F.plain_max PySem.F.entry_max (Qm _ _) ?_
 show ar _ X.A.in1 (sd "max" ["key","default"] 0 ⟨[],[(ef "key",.ref f)]⟩ >>= _) _ _ s
 refine a7 (eF (show sd "max" ["key","default"] 0 ⟨[],[(ef "key",.ref f)]⟩=pure [some (.ref f),none] from rfl) ?_)
 refine a7 (aa ?_)
 refine a7 (gy pll.isList ?_)
 refine a7 (wpAny_newList ?_ (cV _))
 rw [hname]
 generalize hSS:(s.heap.push { cls:=.type "list_iterator",data:=.fields #[.ref l,.int 0 0] }).objs.size=S at nS I2 hS ⊢
 generalize hII:s.heap.objs.size=It at nI I1 I2 hS hll plt ⊢
 have lI:l≠It:=aD hll
 have SI:S≠It:=by omega
 have fI:f<It:=plt (f,of) ah
 have IS:It<S:=hS ▸ dq It
 have Sf:S≠f:=fm (xh fI IS)
 have If:It≠f:=fm fI
 have hpI:∀ p∈pl,p.1≠It:=fun p hp=>aD (plt p (a9 _ hp))
 have hpS:∀ p∈pl,p.1≠S:=fun p hp=>aD (xh (plt p (a9 _ hp)) IS)
 refine aa ⟨iF dZ _,?_⟩
 obtain ⟨gS,_⟩:=I2.pin (S,_) (ap _ ah)
 obtain ⟨gI,_⟩:=I2.pin (It,_) (ap _ (a9 _ ah))
 obtain ⟨its2,r2,pll2,_⟩:=I2.list hq
 have X9:its2.toArray.size=r.length+1:=by have:=r2.length;simp at this ⊢;omega
 have W:=kj (prog:=X.prog) (w:=X.w) (A:=X.A.in1) (I.ok.hd hc) It l lI its2.toArray
 refine fo oC ?_
 rw [dR dZ _]
 show ar _ X.A.in1 (rY (.ref _) >>= _) _ _ _
 refine a7 (du gS rfl ?_)
 show ar _ X.A.in1 (tryCatch (jl (.ref It)) _ >>= _) _ _ _
 refine a7 (kU (W.item 0 _ _ _ (by rw [X9];omega) ⟨⟨_,gI,rfl,rfl⟩,pll2.isList⟩ fun v h' tk' hP hst' hk'=>?_))
 obtain ⟨oI',hoI',hoc,hod⟩:=id hst'.1
 have rx:cR x0 v:=by
  obtain ⟨u,hu,ru⟩:=r2.get (i:=0) (x:=x0) rfl
  have hP':its2[0]?=some v:=by simpa using hP
  rw [hP'] at hu;cases hu;exact ru
 have I3:bB X ((f,of)::(S,{ cls:=.type "list",data:=.seq #[] })::(It,oI')::pl) σ H { s with heap:=h',toks:=tk' }:=by
  have I0:=I2.reord (pins':=(It,{ cls:=.type "list_iterator",data:=.fields #[.ref l,.int 0 0] })::(f,of)::(S,{ cls:=.type "list",data:=.seq #[] })::pl) fun p hp=>by
   simp only [aO] at hp ⊢
   rcases hp with z|z|z|z
   ·exact .inr (.inl z)
   ·exact .inr (.inr (.inl z))
   ·exact .inl z
   ·exact .inr (.inr (.inr z))
  refine (I0.repin (t':=tk') (fun b o hb e=>hk' b o (by simpa using hb) e) hoI' (fun w z=>by rw [hod] at z;cases z) nI fun p hp=>?_).reord fun p hp=>?_
  ·simp only [aO] at hp
   rcases hp with z|z|z
   ·rw [z];exact c9 If
   ·rw [z];exact SI
   ·exact hpI p z
  ·simp only [aO] at hp ⊢
   rcases hp with z|z|z|z
   ·exact .inr (.inl z)
   ·exact .inr (.inr (.inl z))
   ·exact .inl z
   ·exact .inr (.inr (.inr z))
 show ar _ X.A.in1 (tryCatch (zQ [v] (call (.ref f) [v])) _ >>= _) _ _ _
 refine a7 (kU (cH (ck (key _ _ H x0 v _ I3 hk rx w) (fun u s2 he=>?_) fun _ _ hF=>hF.elim)))
 obtain ⟨y,H2,I4,ry,k,rfl,sm,w2⟩:=he
 obtain ⟨t2,rfl⟩:=ry
 obtain ⟨gS2,_⟩:=I4.pin (S,{ cls:=.type "list",data:=.seq #[] }) (ap _ (a9 _ ah))
 obtain ⟨gI2,_⟩:=I4.pin (It,oI') (ap _ (a9 _ (a9 _ ah)))
 show ar _ X.A.in1 (KS S (fun _=>#[v,.int k t2]) >>= _) _ _ _
 refine a7 ?_
 refine n6 gS2 rfl ?_
 rw [hname]
 obtain ⟨c2,hc2⟩:∃ c2,(s2.heap.update S (fJ fun _=>#[v,.int k t2])).get? S=some (L5 v k t2 c2):=⟨_,dE _ gS2 rfl⟩
 have I5:bB X ((f,of)::(S,L5 v k t2 c2)::(It,oI')::pl) σ H2 { s2 with heap:=s2.heap.update S (fJ fun _=>#[v,.int k t2]),toks:=s2.toks }:=by
  have I0:bB X ((S,{ cls:=.type "list",data:=.seq #[] })::(f,of)::(It,oI')::pl) σ H2 s2:=I4.reord fun p hp=>by
   simp only [aO] at hp ⊢
   rcases hp with z|z|z|z
   ·exact .inr (.inl z)
   ·exact .inl z
   ·exact .inr (.inr (.inl z))
   ·exact .inr (.inr (.inr z))
  refine (I0.repin (t':=s2.toks) (fun b o hb e=>(dn _ _ (c9 hb)).trans e) hc2 (fun w z=>by cases z) nS fun p hp=>?_).reord fun p hp=>?_
  ·simp only [aO] at hp
   rcases hp with z|z|z
   ·rw [z];exact c9 Sf
   ·rw [z];exact c9 SI
   ·exact hpS p z
  ·simp only [aO] at hp ⊢
   rcases hp with z|z|z|z
   ·exact .inr (.inl z)
   ·exact .inl z
   ·exact .inr (.inr (.inl z))
   ·exact .inr (.inr (.inr z))
 exact aa ⟨iF dZ _,Ql (xs:=x0::r) hc nS nI SI Sf If hpS hpI lI kp kps key _ 1 _ H2 x0 v k t2 c2 oI' rfl (by simp) I5 (kps H H2 hk sm) ⟨oI',(dn _ _ SI).trans gI2,hoc,hod⟩ rx (sm.seq hq) w2⟩
inductive Nu (K:a8) (ix:List Nat) (te:TE) (t:TA) (σ:St) (H:Hp) (Q:VK):Prop
 |mk (h:t σ H fun vs H1=>∃ l x0 r,vs=[.ref l]/\ni K H1 l (x0::r)/\∀ H2,c_ H1 H2->te (Cp ix σ x0) H2 fun y H3=>∃ k,y=.int k/\c_ H2 H3/\Bc te (Cp ix σ) r x0 k H3 Q):Nu K ix te t σ H Q
def RZ (K:a8) (ix:List Nat) (te:TE) (t:TA):TE:=Nu K ix te t
theorem Qo {e body:bd}{t:TA}{te:TE}{params:wD}{scope:dz}{N':List Str}{ix:List Nat}{pr:Str}{p pos lpos kp:Pos}{c P:ak}{q:Str} (hc:X.calm=true) (hg:Gl X "max") (hm:X.mg "max"=none) (ha:PA X [e] t) (S:Et X scope N' ix pr)
  (hdef:defaultsOf params X.env=([],[])) (hcode:X.env.code=.ref c) (hci:dA X.K (.ref c) q=true) (hch:fi X.K c P=true) (hnP:X.K.lookup P=none) (hq0:q=Se) (hq:X.env.qual=q++".<locals>.") (hroom:X.A.depth<vH)
  (hbind:∀ cl pm c' ctv v,vI (y9 "<lambda>" (w9 X) params body scope cl pm (.ref c') ctv) ⟨[v],[]⟩=pure [(pr,v)])
  (hb:∀ cl f c' s H,PE (IE X N' scope cl f c' s H) body te)
  (he:fU pos (aJ [e] X.env)=(false,ed e X.env)::fU pos (aJ [] X.env):=by rfl) (hpl:(fU pos (aJ [e] X.env)).any (·.1)=false:=by rfl) :
  PE X (.Call (.Name "max" p) [e] [⟨some "key",.Lambda params body scope lpos,kp⟩] pos) (RZ X.K ix te t):=by
 intro pins s σ H Q I h
 obtain ⟨h⟩:=h
 refine oz (s_ I hg hm yb ?_ (by decide) (by decide))
 refine PyProof.Rows.callWith_kw (fG (ha pos pins s σ H _ I h) fun us s1 h_1=>?_) he hpl
 obtain ⟨vs,H1,I1,r1,l,x0,r,rfl,hl,w⟩:=h_1
 obtain ⟨u,rfl,rx⟩:=jH r1
 cases rx
 obtain ⟨cl,hcl,c1,c2⟩:=oE (scope:=scope) (env:=X.env) fun y hy hf=>I.ok.has y.1 (S.free y hy hf)
 refine PyProof.Rows.kws_cons (Nr I1 hdef hcode hci hch hnP hq0 hq hcl fun f c' oc u vs t ctv pm H' s' I2 sm hcr hd hv=>PyProof.Rows.kws_nil ?_)
 refine Qn (te:=te) (ca:=Cp ix σ) hc (fun H=>H c'=some (.frz oc u)) (fun H H' h sm=>sm _ _ h) (fun pins s H x v Q I hk rx q=>Nt S hc I hk hd hv c1 c2 hroom (hbind cl pm c' ctv) (fun s=>hb cl f c' s H) rx q) I2 hcr (sm.seq hl) (w H' sm)
end
end L2
end
namespace J
open PySem L2
section
def v3 (ge:az->R D) (ρb:az):List D->D->Int->R D
 |[],b,_=>.ok b
 |d::r,b,m=>match ge (ρb.set 0 (.shr d)) with
  |.ok (.int k)=>if k > m then v3 ge ρb r d k else v3 ge ρb r b m
  |_=>.no
def yT (ge:az->R D) (ρb:az):List D->R D
 |[.list (d::r)]=>match ge (ρb.set 0 (.shr d)) with
  |.ok (.int k)=>v3 ge ρb r d k
  |_=>.no
 |_=>.no
def Be (ix:List Nat) (gs:az->R (List D)) (ge:az->R D):az->R D:=fun ρ=>(gs ρ).bind fun ds=>yT ge (jP 1 ix ρ) ds
section
variable {K:a8}{cls:Str->ak}{ge:az->R D}{ix:List Nat}{ρ:az}{σ:St}
theorem Eu {H2 Hs1 H3 Hs3:Hp}{lb:Nat->Option ak}{d:D}{x:V}{k:Int}{Q:VK} (fb:Fr K H2 Hs1 lb (jP 1 ix ρ) (kW 1 ix σ) H2 Hs1) (r:RD K Hs1 x d) (st:cF H2 Hs1 H3 Hs3) (hk:ge ((jP 1 ix ρ).set 0 (.shr d))=.ok (.int k))
  (q:∀ H4 Hs4,cF H2 Hs1 H4 Hs4->c_ H3 H4->Q (.int k) H4):∃ ρ',TR K cls E0 ρ' (ge ρ') (Cp ix σ x) H3 Q:=by
 refine ⟨(jP 1 ix ρ).set 0 (.shr d),H2,Hs1,lb,Hs3,(fb.step st).set 0 (r.same st.sh),?_⟩
 rw [hk]
 intro v H4 Hs4 s4 r4
 rw [RD.int_inv r4]
 exact q H4 Hs4 (st.trans s4) s4.all
theorem yU {H2 Hs1:Hp}{lb:Nat->Option ak}{d:D}{Q:VK} (fb:Fr K H2 Hs1 lb (jP 1 ix ρ) (kW 1 ix σ) H2 Hs1) (q:∀ v H' Hs',cF H2 Hs1 H' Hs'->RD K Hs' v d->Q v H'):∀ (r:List D) (r':List V) (db:D) (xb:V) (m:Int) (Hi Hsi:Hp),RDs K Hs1 r' r->RD K Hs1 xb db->cF H2 Hs1 Hi Hsi ->
  v3 ge (jP 1 ix ρ) r db m=.ok d->Bc (fun σ H Q=>∃ ρ',TR K cls E0 ρ' (ge ρ') σ H Q) (Cp ix σ) r' xb m Hi Q
 |[],_,db,xb,m,Hi,Hsi,rs,rb,st,e=>by
  cases rs
  cases e
  exact q xb Hi Hsi st (rb.same st.sh)
 |y::r,_,db,xb,m,Hi,Hsi,rs,rb,st,e=>by
  cases rs with
  |cons r1 rs =>
   unfold v3 at e
   split at e
   ·rename_i k hk
    refine Eu fb r1 st hk fun H4 Hs4 s4 sm=>⟨k,rfl,sm,?_⟩
    split at e
    ·rename_i h;rw [if_pos h];exact yU fb q r _ y _ k H4 Hs4 rs r1 s4 e
    ·rename_i h;rw [if_neg h];exact yU fb q r _ db xb m H4 Hs4 rs rb s4 e
   ·cases e
theorem yV {ρb:az}:∀ (r:List D) (b:D) (m:Int) (c:Str) (n:Option D),v3 ge ρb r b m≠.ex c n
 |[],b,m,c,n=>fun e=>by cases e
 |d::r,b,m,c,n=>fun e=>by
  unfold v3 at e
  split at e
  ·split at e
   ·exact yV r _ _ c n e
   ·exact yV r _ _ c n e
  ·cases e
theorem Nv {ρb:az}{ds:List D} (c:Str) (n:Option D):yT ge ρb ds≠.ex c n:=fun e=>by
 unfold yT at e
 split at e
 ·split at e
  ·exact yV _ _ _ c n e
  ·cases e
 ·cases e
theorem Xf {E:XK}{gs:az->R (List D)}{H:Hp}{Q:VK} (q:TR K cls E ρ (Be ix gs ge ρ) σ H Q):RZ K ix (fun σ H Q=>∃ ρ',TR K cls E0 ρ' (ge ρ') σ H Q) (UX K cls E ρ (gs ρ)) σ H Q:=by
 obtain ⟨H0,Hs0,la,Hs,f,q⟩:=q
 refine ⟨HP f q fun ds vs H1 Hs1 e1 s1 f1 r1=>?_⟩
 unfold Be at q
 rw [e1,bind_ok] at q
 cases hm:yT ge (jP 1 ix ρ) ds with
 |no=>rw [hm] at q;exact q.elim
 |ex c n=>exact (Nv c n hm).elim
 |ok d =>
  rw [hm] at q
  unfold yT at hm
  split at hm
  ·rename_i d0 r
   split at hm
   ·rename_i k hk
    obtain ⟨x,rfl,rx⟩:=r1.one
    obtain ⟨a,vs,rfl,qa,ra⟩:=rx.list f1.st.sub
    cases ra with
    | @cons x0 r' _ _ r0 rs =>
     refine ⟨a,x0,r',rfl,qa,fun H2 sm=>?_⟩
     have st:cF H1 Hs1 H2 Hs1:=⟨sm,.refl _,f1.st.sub.trans sm,fun _ _ _ _ n=>n⟩
     obtain ⟨lb,fb⟩:=(f1.step st).block 1 ix
     refine Eu fb r0 (.refl fb.st.sub) hk fun H4 Hs4 s4 sm4=>⟨k,rfl,sm4,?_⟩
     exact yU fb (fun v H' Hs' s' r'=>q v H' Hs' ((s1.trans st).trans s') r') r r' d0 x0 k H4 Hs4 rs r0 s4 hm
   ·cases hm
  ·cases hm
end
section
variable {c:C}{e body:bd}{gs:az->R (List D)}{ge:az->R D}{ix:List Nat}{scope:dz}{params:wD}{N':List Str}{pr q:Str}{p pos lpos kp:Pos}{cd P:ak}{k:Nat}
def Nw (so:dz) (N:List Str) (scope:dz) (N':List Str) (ix:List Nat) (p:Str):Bool :=
 (scope.kind == .function) && !scope.isCoroutine && !scope.isGenerator&&(scope.names.all fun y=>y.2 != .cell)&&(scope.names.lookup p==some .local)&&(N'[0]? == some p) &&
 (scope.names.all fun y=>y.2 != .free||so.names.lookup y.1==some .cell||so.names.lookup y.1==some .free) &&
 ((bA ix.length).all fun k=>match ix[k]? with
  |none=>false
  |some i=>match N[i]? with
   |none=>false
   |some x=>N'[1+k]? == some x&&scope.names.lookup x==some .free)&&(N'.length==1+ix.length)
theorem Nx {X:Cx}{so:dz}{N:List Str}{p:Str} (h:Nw so N scope N' ix p=true) (h1:X.env.scope=so:=by rfl) (h2:X.N=N:=by rfl):Et X scope N' ix p:=by
 unfold Nw at h
 simp only [aF,bY] at h
 obtain ⟨⟨⟨⟨⟨⟨⟨⟨a,a2⟩,a3⟩,b⟩,c⟩,d0⟩,d⟩,e⟩,l⟩:=h
 refine ⟨by simpa using a,by simpa using a2,by simpa using a3,fun y hy z=>?_,by simpa using c,by simpa using d0,fun y hy z=>?_,fun k i hk=>?_,by simpa using l⟩
 ·have:=b y hy;simp [z] at this
 ·have:=d y hy;rw [h1];simpa [z] using this
 ·have hl:k<ix.length:=(List.getElem?_eq_some_iff.mp hk).1
  have:=e k (List.mem_range.mpr hl)
  rw [hk] at this
  rw [h2]
  simp only at this
  split at this
  ·cases this
  ·rename_i x hx
   simp only [aF] at this
   exact ⟨x,hx,by simpa using this.1,by simpa using this.2⟩
structure VJ (K:a8) (cd P:ak) (q:Str):Prop where
 ci:dA K (.ref cd) q=true
 ch:fi K cd P=true
 np:K.lookup P=none
 tq:q=Se
def C.lam (c:C) (N':List Str) (scope:dz) (cl:List (Str×ak)) (f c':ak) (s:ai) (H:Hp):C:=⟨IE c.X N' scope cl f c' s H,c.cls,E0⟩
theorem i_.lam {A:bv} (r:L2.i_ (k+1) A) (env:Env):L2.i_ k (A.in1.deeper env):=⟨r.hd,by have:=r.dp;show A.depth+1+3*k+5<_;omega,by have:=r.un;show A.units+1+3+16*k+200<_;omega⟩
theorem Qp (hc:c.X.calm=true) (ha:PK c [e] gs) (hg:Gl c.X "max") (hm:c.X.mg "max"=none) (S:Et c.X scope N' ix pr) (hC:VJ c.X.K cd P q) (hr:L2.i_ k c.X.A) (hcode:c.X.env.code=.ref cd) (hq:c.X.env.qual=q++".<locals>.") (hdef:defaultsOf params c.X.env=([],[]))
  (hbind:∀ cl pm c' ctv v,vI (y9 "<lambda>" (w9 c.X) params body scope cl pm (.ref c') ctv) ⟨[v],[]⟩=pure [(pr,v)])
  (hb:∀ cl f c' s H,JE (c.lam N' scope cl f c' s H) body ge)
  (he:fU pos (aJ [e] c.X.env)=(false,ed e c.X.env)::fU pos (aJ [] c.X.env):=by rfl) (hpl:(fU pos (aJ [e] c.X.env)).any (·.1)=false:=by rfl) :
  JE c (.Call (.Name "max" p) [e] [⟨some "key",.Lambda params body scope lpos,kp⟩] pos) (Be ix gs ge):=.of fun ρ =>
 sF (Qo (te:=fun σ H Q=>∃ ρ',TR c.X.K c.cls E0 ρ' (ge ρ') σ H Q) hc hg hm (ha ρ) S hdef hcode hC.ci hC.ch hC.np hC.tq hq hr.depth hbind (fun cl f c' s H pins s' σ H' Q I h=>by obtain ⟨ρ',h⟩:=h;exact (hb cl f c' s H) ρ' pins s' σ H' Q I h) he hpl) fun σ H Q q=>Xf q
end
structure Wk (K:a8) (mg:Str->Option af) (x:Str) (st:cP) (cd P:ak):Prop where
 ex:∃ (f:ak) (oc:af) (od:Option ak) (kV doc pm:af) (an:Option ak) (ct:af) (osl:Array (Option af)),K.lookup f=some ⟨oc,od,.func (dY x x (iy st) (fD st) (aw st) .none kV doc pm an (.ref cd) ct),osl⟩/\mg x=some (.ref f)/\dX K (.ref f)=true
 cd:VJ K cd P x
theorem d_inl {K:a8}{h:bE}{mg:Str->Option af}{x:Str}{st:cP}{A cd P:ak}{od an:Option ak}{sl:Array (Option af)}{oc kV dc pm ct:af} (X:K.In h) (G:h.Ns bt mg) (a:eX K bt x=some (some (.ref A)))
  (l:K.lookup A=some ⟨oc,od,.func (dY x x (iy st) (fD st) (aw st) .none kV dc pm an (.ref cd) ct),sl⟩) (c:dA K (.ref cd) x=true) (k:dX K (.ref A)=true) (ch:fi K cd P=true) (np:K.lookup P=none) (tq:x=Se:=by rfl):Wk K mg x st cd P :=
 ⟨⟨A,oc,od,kV,dc,pm,an,ct,sl,l,k7 X G a,k⟩,c,ch,np,tq⟩
theorem Y9 {e:En}{x:Str}{st:cP}{N ps:List Str}{k:Nat}{g:az->R Fl}{cd P:ak} (D:Wk e.K e.mg x st cd P) (S:bw N ps (aw st)) (b:∀ {f:ak}{fd:eK},Gc e.K x x st f fd->kq e.K fd ps [])
  (h:∀ (f:ak) (A:bv) (outer:List Env) (s:ai) (H:Hp) (E:XK),L2.i_ k (A.deeper (PyProof.Rows.envOfC x (aw st) s.heap.objs.size f (.ref cd)))->Gu ⟨jn (oJ e.P e.w) e.P e.w e.K e.mg e.base N x (aw st) f (.ref cd) A outer s H E,e.cls,E⟩ (fD st) g) :
  FN e x (k+1) ps.length (eu N.length g):=by
 obtain ⟨f,oc,od,kV,doc,pm,an,ct,osl,lk,hm,kp⟩:=D.ex
 have F:Gc e.K x x st f (dY x x (iy st) (fD st) (aw st) .none kV doc pm an (.ref cd) ct):=Gd lk D.cd.ci kp
 refine ⟨f,_,ps,?_,hm,kp,b F⟩
 refine R7 lk D.cd.ci S (fun vs H Q E h_4=>by obtain ⟨Hs,ds,sub,hn,r,q⟩:=h_4;rw [r.length];exact hn) fun A outer s H vs Q E hr hsp=>?_
 obtain ⟨Hs,ds,sub,hn,r,q⟩:=hsp
 refine ⟨_,h f A outer s H E hr (bF N.length ds),H,Hs,_,Hs,Fr.start sub r,?_⟩
 unfold eu at q
 cases hg:g (bF N.length ds) with
 |no=>rw [hg] at q;exact q
 |ex c n=>rw [hg] at q;exact q
 |ok fl =>
  rw [hg] at q
  cases fl with
  |nx ρ'=>exact fun σ' H' Hs' f'=>q .non H' Hs' f'.st .none
  |rt d=>exact fun v H' Hs' s r=>q v H' Hs' s r
  |bk ρ'=>exact q.elim
  |ct ρ'=>exact q.elim
end
end J
namespace Z
open PySem L2 J
section
def jt:az->R Fl:=(cL (DO (bS (ac (eN 1 [1] (jO (rB 0)) kT (g2 (rB 0) (rB 1) (AW false))) aG) (gK (fZ fun bs=>bs.any id)))))
def fQ:List D->R D:=eu 2 jt
def rn:az->R Fl:=(cL (bS (ac (eN 1 [1] (jO (rB 0)) (eJ (g2 (rB 0) (rB 1) (AW true))) (rS 0)) aG) (gK gL)))
def ro:List D->R D:=eu 2 rn
def v4:az->R Fl:=(cL (bS (ac (kA (Nh (oS (rB 0)) (oS (rB 1)))) aG) (gK gL)))
def v5:List D->R D:=eu 2 v4
def rq:az->R Fl:=(aQ (eg (Dh (jj (eJ (tF (rB 0) "str"))) (jj (eJ (qz (kI 1) (bS (ac (rB 0) aG) (gK iP)) (kI 6) K_ K_)))) (cL (kB false)) (fun ρ=>.ok (.nx ρ))) (cL (bS (ac (eN 1 [] (jO (rB 0)) kT (qz (fun _=>.ok (.str "a")) (rB 0) (fun _=>.ok (.str "z")) K_ K_)) aG) (gK (fZ fun bs=>bs.all id)))))
def nY:List D->R D:=eu 1 rq
def gM:az->R Fl:=(aQ (eg (Dh (jj (eJ (tF (rB 0) "tuple"))) (jj (eJ (bS (ac (eN 1 [] (jO (rB 0)) kT (ej 1 nY (ac (rS 0) aG))) aG) (gK (fZ fun bs=>bs.all id)))))) (cL (kB false)) (fun ρ=>.ok (.nx ρ))) (cL (bS (ac (eN 2 [] (PZ (ac (rS 0) (ac (Rq (rB 0) (PR (kI 1)) Ua) aG))) kT (g2 (rB 0) (rB 1) wO)) aG) (gK (fZ fun bs=>bs.all id)))))
def fw:List D->R D:=eu 1 gM
def mK:az->R Fl:=(cL (uP (ej 1 fw (ac (rS 1) aG)) (bS (ac (eN 1 [0] (jO (rB 1)) kT (g2 (rB 0) (rB 1) (AW false))) aG) (gK (fZ fun bs=>bs.all id)))))
def j9:List D->R D:=eu 2 mK
def oX:az->R Fl:=(aQ (eg (Dh (jj (eJ (tF (rB 0) "int"))) (eJ (tF (rB 0) "bool"))) (cL (kB false)) (fun ρ=>.ok (.nx ρ))) (cL (qz (rB 1) (rB 0) (rB 2) K_ K_)))
def jR:List D->R D:=eu 3 oX
def mL:az->R Fl:=(aQ (eg (Dh (jj (eJ (tF (rB 1) "tuple"))) (eJ (g2 (bS (ac (rB 1) aG) (gK iP)) (kI 6) (qf true)))) (cL (kB false)) (fun ρ=>.ok (.nx ρ))) (aQ (yz (rS 1) (li 6 (cw (bN 2) (cw (bN 3) (cw (bN 4) (cw (bN 5) (cw (bN 6) (cw (bN 7) mz)))))))) (aQ (eg (Dh (jj (eJ (ej 1 nY (ac (rS 2) aG)))) (jj (eJ (ej 3 jR (ac (rS 7) (ac (kI 0) (ac (kI 9) aG))))))) (cL (kB false)) (fun ρ=>.ok (.nx ρ))) (aQ (eg (jj (eJ (bS (ac (eN 1 [0] (jO (eL (ac (rS 3) (ac (rS 4) (ac (rS 5) (ac (rS 6) aG)))) .tuple)) kT (ej 2 j9 (ac (rS 1) (ac (rS 0) aG)))) aG) (gK (fZ fun bs=>bs.all id))))) (cL (kB false)) (fun ρ=>.ok (.nx ρ))) (cL (uP (ej 2 fQ (ac (rS 3) (ac (rS 4) aG))) (ej 2 fQ (ac (rS 5) (ac (rS 6) aG)))))))))
def mM:List D->R D:=eu 8 mL
def rz:az->R Fl:=(aQ (eg (Dh (jj (eJ (tF (rB 0) "tuple"))) (eJ (g2 (bS (ac (rB 0) aG) (gK iP)) (kI 2) (qf true)))) (cL (kB false)) (fun ρ=>.ok (.nx ρ))) (aQ (yz (rS 0) (li 2 (cw (bN 1) (cw (bN 2) mz)))) (aQ (eg (Dh (jj (eJ (ej 1 fw (ac (rS 1) aG)))) (eJ (g2 (bS (ac (rB 1) aG) (gK iP)) (kI 6) Mn))) (cL (kB false)) (fun ρ=>.ok (.nx ρ))) (aQ (eg (Dh (jj (eJ (tF (rB 2) "tuple"))) (eJ (g2 (bS (ac (rB 2) aG) (gK iP)) (kI 6) Mn))) (cL (kB false)) (fun ρ=>.ok (.nx ρ))) (aQ (eg (jj (eJ (bS (ac (eN 1 [1] (jO (rB 2)) kT (ej 2 mM (ac (rS 1) (ac (rS 0) aG)))) aG) (gK (fZ fun bs=>bs.all id))))) (cL (kB false)) (fun ρ=>.ok (.nx ρ))) (cL (g2 (mJ (oT 1 [] (jO (rB 2)) kT (g2 (rB 0) (kI 0) bf))) (bS (ac (rB 2) aG) (gK iP)) (qf false))))))))
def rA:List D->R D:=eu 3 rz
def k9:az->R Fl:=(eg (jj (eJ (ej 2 j9 (ac (g2 (rB 0) (kI 0) bf) (ac (rS 1) aG))))) (qF "NoState" (ac (fun _=>.ok (.str "a state is a rising tuple of the book's facts, none twice")) aG)) (fun ρ=>.ok (.nx ρ)))
def ka:List D->R D:=eu 2 k9
def iW:az->R Fl:=(aQ (eg (jj (eJ (tF (rB 1) "str"))) (cL kN) (fun ρ=>.ok (.nx ρ))) (aQ (nu (jO (g2 (rB 0) (kI 1) bf)) (bN 2) (eg (eJ (g2 (g2 (rB 2) (kI 0) bf) (rB 1) (qf false))) (cL (rS 2)) (fun ρ=>.ok (.nx ρ)))) (cL kN)))
def gT:List D->R D:=eu 3 iW
def rE:az->R Fl:=(aQ (yz (rS 1) (li 2 (cw (bN 2) (cw (bN 3) mz)))) (cL (uP (bS (ac (eN 1 [0] (jO (rB 2)) kT (g2 (rB 0) (rB 1) (AW false))) aG) (gK (fZ fun bs=>bs.all id))) (ej 2 fQ (ac (rS 3) (ac (rS 0) aG))))))
def rF:List D->R D:=eu 4 rE
def mO:az->R Fl:=(cL (ej 2 rF (ac (rS 1) (ac (eL (ac (g2 (rB 0) (kI 1) bf) (ac (g2 (rB 0) (kI 2) bf) aG)) .tuple) aG))))
def gD:List D->R D:=eu 2 mO
def ju:az->R Fl:=(aQ (Ni 2 3 (ac (g2 (rB 0) (kI 3) bf) (ac (g2 (rB 0) (kI 4) bf) aG))) (cL (ej 2 v5 (ac (ej 2 ro (ac (rS 1) (ac (rS 3) aG))) (ac (rS 2) aG)))))
def eG:List D->R D:=eu 4 ju
def rG:az->R Fl:=(aQ (eg (jj (eJ (ej 1 rA (ac (rS 0) aG)))) (qF "NoBook" (ac (fun _=>.ok (.str "a book is a tuple of facts and errands, each as the document tells")) aG)) (fun ρ=>.ok (.nx ρ))) (cL (rS 0)))
def rH:List D->R D:=eu 1 rG
def kc:az->R Fl:=(aQ (uS (ej 1 rH (ac (rS 0) aG))) (uS (ej 2 ka (ac (rS 0) (ac (rS 1) aG)))))
def iR:List D->R D:=eu 2 kc
def lj:az->R Fl:=(cL (eN 1 [1] (jO (g2 (rB 0) (kI 1) bf)) (eJ (ej 2 gD (ac (rS 0) (ac (rS 1) aG)))) (eL (ac (rS 0) (ac (ej 2 eG (ac (rS 0) (ac (rS 1) aG))) aG)) .tuple)))
def jv:List D->R D:=eu 2 lj
def lm:az->R Fl:=(aQ (gj 2 (RX (rS 1) (eL aG .list))) (aQ (gj 3 (eL (ac (rS 1) aG) .list)) (aQ (iH (Co (rB 3)) (aQ (gj 4 (eL aG .list)) (aQ (sG 3 (bN 5) (nu (jO (ej 2 jv (ac (rS 0) (ac (rS 5) aG)))) (li 2 (cw (bN 6) (cw (bN 7) mz))) (eg (eJ (g2 (rB 7) (rB 2) (Qd true))) (aQ (sI 2 (rS 7) (g2 (g2 (rB 2) (rB 5) Ba) (eL (ac (g2 (rB 6) (kI 0) bf) aG) .list) dI)) (oR 4 (rS 7))) (fun ρ=>.ok (.nx ρ))))) (Rv 4 (eZ 3 (rS 4))))) 100000) (Tx 2 (cL (rS 2))))))
def jw:List D->R D:=eu 8 lm
def lr:az->R Fl:=(eg (jj (eJ (ej 3 jR (ac (rS 0) (ac (kI 0) (ac (kI 64) aG)))))) (qF "NoNumber" (ac (fun _=>.ok (.str "it is no whole number from 0 to 64")) aG)) (fun ρ=>.ok (.nx ρ)))
def lu:List D->R D:=eu 1 lr
def rJ:az->R Fl:=(aQ (eg (Dh (jj (eJ (tF (rB 1) "tuple"))) (eJ (g2 (bS (ac (rB 1) aG) (gK iP)) (kI 2) (qf true)))) (cL (kB false)) (fun ρ=>.ok (.nx ρ))) (aQ (yz (rS 1) (li 2 (cw (bN 2) (cw (bN 3) mz)))) (cL (uP (tF (rB 2) "str") (uP (g2 (rB 2) (g2 (rB 0) (kI 0) bf) (AW false)) (ej 3 jR (ac (rS 3) (ac (uW (kI 99)) (ac (kI 99) aG)))))))))
def rK:List D->R D:=eu 4 rJ
def ke:az->R Fl:=(aQ (eg (Dh (jj (eJ (tF (rB 1) "tuple"))) (jj (eJ (bS (ac (eN 1 [0] (jO (rB 1)) kT (ej 2 rK (ac (rS 1) (ac (rS 0) aG)))) aG) (gK (fZ fun bs=>bs.all id)))))) (qF "NoFacts" (ac (fun _=>.ok (.str "gains are a tuple of tuples of a fact and a number from -99 to 99")) aG)) (fun ρ=>.ok (.nx ρ))) (eg (eJ (g2 (mJ (oT 2 [] (jO (rB 1)) kT (rS 0))) (bS (ac (rB 1) aG) (gK iP)) wO)) (qF "NoFacts" (ac (fun _=>.ok (.str "gains have no fact twice")) aG)) (fun ρ=>.ok (.nx ρ))))
def kf:List D->R D:=eu 2 ke
def xP:az->R Fl:=(cL (bS (ac (eN 2 [0] (jO (rB 1)) (eJ (g2 (rB 0) (rB 2) (AW false))) (rS 1)) aG) (gK GB)))
def rL:List D->R D:=eu 2 xP
def jx:az->R Fl:=(aQ (uS (ej 2 iR (ac (rS 0) (ac (rS 1) aG)))) (aQ (uS (ej 2 kf (ac (rS 0) (ac (rS 2) aG)))) (aQ (uS (ej 1 lu (ac (rS 3) aG))) (aQ (eZ 4 (ej 2 jw (ac (rS 0) (ac (rS 1) aG)))) (aQ (gj 5 (eN 1 [4,3] (El (rB 4)) (eJ (g2 (bS (ac (g2 (rB 1) (rB 0) Ba) aG) (gK iP)) (rB 2) K_)) (rS 0))) (aQ (eZ 6 (Be [2] (ac (rB 5) aG) (ej 2 rL (ac (rS 0) (ac (rS 1) aG))))) (cL (eL (ac (rS 6) (ac (g2 (rB 4) (rB 6) Ba) aG)) .tuple))))))))
def eI:List D->R D:=eu 7 jx
def mP:az->R Fl:=(cL (ej 2 rL (ac (g2 (ej 4 eI (ac (rS 0) (ac (rS 1) (ac (rS 2) (ac (rS 3) aG))))) (kI 0) bf) (ac (rS 2) aG))))
def kE:List D->R D:=eu 4 mP
def oY:az->R Fl:=(cL (g2 (ej 4 eI (ac (rS 0) (ac (rS 1) (ac (rS 2) (ac (rS 3) aG))))) (kI 1) bf))
def lT:List D->R D:=eu 4 oY
def v6:az->R Fl:=(aQ (eg (Dh (jj (eJ (tF (rB 1) "list"))) (eJ (g2 (bS (ac (rB 1) aG) (gK iP)) (kI 64) Mn))) (cL (kB false)) (fun ρ=>.ok (.nx ρ))) (cL (bS (ac (eN 1 [0] (jO (rB 1)) kT (g2 (ej 2 gT (ac (rS 1) (ac (rS 0) aG))) kN (L0 true))) aG) (gK (fZ fun bs=>bs.all id)))))
def v7:List D->R D:=eu 2 v6
def lv:az->R Fl:=(aQ (eg (jj (eJ (ej 2 v7 (ac (rS 0) (ac (rS 1) aG))))) (fun _=>.no) (fun ρ=>.ok (.nx ρ))) (cL (eN 1 [0] (jO (rB 1)) kT (ej 2 gT (ac (rS 1) (ac (rS 0) aG))))))
def lw:List D->R D:=eu 2 lv
def iA:az->R Fl:=(aQ (gj 2 (eL (ac (rS 1) aG) .list)) (aQ (sG 0 (bN 3) (aQ (eg (jj (eJ (ej 2 gD (ac (rS 3) (ac (g2 (rB 2) (uW (kI 1)) bf) aG))))) (cL (rS 2)) (fun ρ=>.ok (.nx ρ))) (oR 2 (ej 2 eG (ac (rS 3) (ac (g2 (rB 2) (uW (kI 1)) bf) aG)))))) (cL (rS 2))))
def iB:List D->R D:=eu 4 iA
def xQ:az->R Fl:=(aQ (uS (ej 2 iR (ac (rS 0) (ac (rS 1) aG)))) (aQ (eZ 3 (ej 2 lw (ac (rS 0) (ac (rS 2) aG)))) (aQ (eZ 4 (ej 2 iB (ac (rS 3) (ac (rS 1) aG)))) (aQ (eg (eJ (g2 (bS (ac (rB 4) aG) (gK iP)) (bS (ac (rB 3) aG) (gK iP)) K_)) (fun _=>.no) (fun ρ=>.ok (.nx ρ))) (cL (rS 4))))))
def rM:List D->R D:=eu 5 xQ
def kg:az->R Fl:=(aQ (eg (eJ (g2 (rB 1) (bS (ac (rB 0) aG) (gK iP)) wO)) (cL (g2 (rB 0) (rB 1) bf)) (fun ρ=>.ok (.nx ρ))) (aQ (eg (eJ (g2 (rB 0) (eL aG .list) (qf false))) (cL (kI 0)) (fun ρ=>.ok (.nx ρ))) (cL (g2 (g2 (g2 (rB 0) (g2 (rB 1) (bS (ac (rB 0) aG) (gK iP)) JP) bf) (kI 31) si) (rB 1) dI))))
def kh:List D->R D:=eu 2 kg
def mQ:az->R Fl:=(aQ (eZ 3 (g2 (g2 (g2 (g2 (ej 2 kh (ac (rS 0) (ac (rS 1) aG))) (g2 (kI 7919) (rB 1) si) dI) (kI 1) dI) (kI 48271) si) (kI 2147483647) JP)) (cL (g2 (g2 (g2 (g2 (g2 (rB 3) (rB 3) si) (g2 (kI 7) (rB 3) si) dI) (rB 1) dI) (kI 2147483629) JP) (rB 2) JP)))
def bi:List D->R D:=eu 4 mQ
def oZ:az->R Fl:=(aQ (eZ 2 (fun _=>.ok (.str ""))) (aQ (nu (A_ (ac (g2 (eL (ac (kI 1) (ac (kI 2) (ac (kI 3) (ac (kI 6) (ac (kI 1) (ac (kI 4) aG)))))) .list) (ej 3 bi (ac (rS 0) (ac (rS 1) (ac (kI 6) aG)))) bf) aG)) (bN 3) (eZ 2 (g2 (rB 2) (g2 (fun _=>.ok (.str "abcdefghijklmnopqrstuvwxyz")) (ej 3 bi (ac (rS 0) (ac (g2 (g2 (rB 1) (kI 1) dI) (rB 3) dI) (ac (kI 26) aG)))) bf) dI))) (cL (rS 2))))
def jS:List D->R D:=eu 4 oZ
def mR:az->R Fl:=(aQ (gj 3 (fun _=>.ok (.dict []))) (aQ (nu (A_ (ac (ej 3 bi (ac (rS 0) (ac (rS 1) (ac (g2 (rB 2) (kI 1) dI) aG)))) aG)) (bN 4) (Ce 3 (ej 2 jS (ac (rS 0) (ac (g2 (g2 (rB 1) (kI 1) dI) (g2 (kI 8) (rB 4) si) dI) aG))) (kB true))) (cL (bS (ac (bS (ac (bS (ac (rB 3) aG) (gK k8)) aG) (gK rj)) aG) (gK gL)))))
def mS:List D->R D:=eu 5 mR
def o_:az->R Fl:=(cL (bS (ac (eN 2 [0,1,3] (DX (ac (rS 2) aG)) (eJ (g2 (ej 3 bi (ac (rS 2) (ac (g2 (rB 3) (rB 0) dI) (ac (kI 12) aG)))) (rB 4) wO)) (rS 1)) aG) (gK gL)))
def p7:List D->R D:=eu 4 o_
def pc:az->R Fl:=(aQ (eZ 4 (g2 (rB 2) (ej 3 bi (ac (rS 0) (ac (g2 (rB 1) (kI 10) dI) (ac (bS (ac (rB 2) aG) (gK iP)) aG)))) bf)) (aQ (eZ 5 (g2 (rB 2) (ej 3 bi (ac (rS 0) (ac (g2 (rB 1) (kI 11) dI) (ac (bS (ac (rB 2) aG) (gK iP)) aG)))) bf)) (aQ (eZ 6 (g2 (rB 2) (ej 3 bi (ac (rS 0) (ac (g2 (rB 1) (kI 12) dI) (ac (bS (ac (rB 2) aG) (gK iP)) aG)))) bf)) (aQ (eZ 7 (Rq (eL (ac (rS 4) (ac (rS 5) aG)) .list) Ua (PR (g2 (kI 1) (g2 (ej 3 bi (ac (rS 0) (ac (g2 (rB 1) (kI 13) dI) (ac (kI 3) aG)))) (kI 2) Mk) dI)))) (aQ (gj 8 (eN 1 [7,0,1] (jO (eL (ac (rS 6) aG) .list)) (yu (eJ (g2 (rB 0) (rB 1) (AW true))) (eJ (g2 (ej 3 bi (ac (rS 2) (ac (g2 (rB 3) (kI 14) dI) (ac (kI 4) aG)))) (kI 0) (qf false)))) (rS 0))) (aQ (gj 9 (eN 1 [6,0,1] (jO (eL (ac (rS 4) aG) .list)) (yu (eJ (g2 (rB 0) (rB 1) (qf true))) (eJ (g2 (ej 3 bi (ac (rS 2) (ac (g2 (rB 3) (kI 15) dI) (ac (kI 3) aG)))) (kI 0) (qf false)))) (rS 0))) (aQ (Rv 8 (Rv 9 (gj 10 (eN 1 [] (jO (eL (ac (rS 7) (ac (rS 8) (ac (eL (ac (rS 6) aG) .list) (ac (rS 9) aG)))) .tuple)) kT (bS (ac (kA (oS (rB 0))) aG) (gK gL)))))) (cL (eL (ac (rS 3) (ac (g2 (rB 10) (kI 0) bf) (ac (g2 (rB 10) (kI 1) bf) (ac (g2 (rB 10) (kI 2) bf) (ac (g2 (rB 10) (kI 3) bf) (ac (ej 3 bi (ac (rS 0) (ac (rS 1) (ac (kI 5) aG)))) aG)))))) .tuple)))))))))
def pd:List D->R D:=eu 11 pc
def iC:az->R Fl:=(aQ (eg (yu (eJ (g2 (rB 2) (eL aG .tuple) (qf true))) (eJ (g2 (ej 3 bi (ac (rS 0) (ac (kI 97) (ac (kI 2) aG)))) (kI 0) (qf false)))) (cL (ej 4 pd (ac (rS 0) (ac (rS 1) (ac (rS 2) (ac (rS 3) aG)))))) (fun ρ=>.ok (.nx ρ))) (aQ (Q4 4) (aQ (nu (DX (ac (rS 2) aG)) (li 2 (cw (bN 5) (cw (bN 6) mz))) (aQ (eZ 7 (ej 3 bi (ac (rS 0) (ac (g2 (g2 (rB 1) (kI 10) dI) (rB 5) dI) (ac (kI 8) aG))))) (aQ (eg (eJ (g2 (rB 7) (kI 3) wO)) (nX 4 (g2 (eL (ac (kI 0) (ac (kI 0) (ac (kI 1) aG))) .list) (rB 7) bf) (rS 6)) (fun ρ=>.ok (.nx ρ))) (aQ (eZ 7 (ej 3 bi (ac (rS 0) (ac (g2 (g2 (rB 1) (kI 20) dI) (rB 5) dI) (ac (kI 8) aG))))) (eg (eJ (g2 (rB 7) (kI 4) wO)) (nX 4 (g2 (eL (ac (kI 2) (ac (kI 2) (ac (kI 3) (ac (kI 3) aG)))) .list) (rB 7) bf) (rS 6)) (fun ρ=>.ok (.nx ρ))))))) (aQ (fun ρ=>(gj 8 (eN 1 [] (jO (rB 4)) kT (bS (ac (rB 0) aG) (gK gL)))) (fv ρ)) (cL (eL (ac (rS 3) (ac (g2 (rB 8) (kI 0) bf) (ac (g2 (rB 8) (kI 1) bf) (ac (g2 (rB 8) (kI 2) bf) (ac (g2 (rB 8) (kI 3) bf) (ac (ej 3 bi (ac (rS 0) (ac (rS 1) (ac (kI 5) aG)))) aG)))))) .tuple))))))
def iD:List D->R D:=eu 9 iC
def lU:az->R Fl:=(aQ (eZ 4 (ej 3 mS (ac (rS 0) (ac (rS 1) (ac (rS 2) aG))))) (aQ (gj 5 (fun _=>.ok (.dict []))) (aQ (nu (A_ (ac (ej 3 bi (ac (rS 0) (ac (g2 (rB 1) (kI 60) dI) (ac (g2 (rB 3) (kI 1) dI) aG)))) aG)) (bN 6) (aQ (eZ 7 (ej 2 jS (ac (rS 0) (ac (g2 (g2 (rB 1) (kI 70) dI) (g2 (kI 40) (rB 6) si) dI) aG)))) (Ce 5 (rS 7) (ej 4 iD (ac (rS 0) (ac (g2 (g2 (rB 1) (kI 80) dI) (g2 (kI 40) (rB 6) si) dI) (ac (rS 4) (ac (rS 7) aG)))))))) (aQ (eZ 8 (bS (ac (rB 5) aG) (gK k8))) (aQ (eZ 9 (ej 3 bi (ac (rS 0) (ac (g2 (rB 1) (kI 61) dI) (ac (g2 (bS (ac (rB 8) aG) (gK iP)) (kI 1) dI) aG))))) (cL (eL (ac (rS 4) (ac (bS (ac (eN 1 [5] (jO (g2 (Rq (rB 8) (PR (rS 9)) Ua) (Rq (rB 8) Ua (PR (rS 9))) dI)) kT (g2 (rB 1) (rB 0) bf)) aG) (gK gL)) aG)) .tuple)))))))
def lV:List D->R D:=eu 10 lU
def lW:az->R Fl:=(aQ (gj 3 (eL aG .list)) (aQ (gj 4 (eL aG .list)) (aQ (nu (DX (ac (rS 2) aG)) (li 2 (cw (bN 5) (cw (bN 6) mz))) (aQ (eZ 7 (ej 3 bi (ac (rS 0) (ac (g2 (rB 1) (rB 5) dI) (ac (kI 8) aG))))) (eg (eJ (g2 (rB 7) (kI 2) wO)) (oR 3 (rS 6)) (eg (eJ (g2 (rB 7) (kI 2) (qf false))) (oR 4 (rS 6)) (fun ρ=>.ok (.nx ρ)))))) (cL (eL (ac (bS (ac (rB 3) aG) (gK gL)) (ac (bS (ac (rB 4) aG) (gK gL)) aG)) .tuple)))))
def tM:List D->R D:=eu 8 lW
def ph:az->R Fl:=(aQ (eZ 3 (ej 4 lV (ac (rS 0) (ac (kI 100) (ac (rS 1) (ac (rS 2) aG)))))) (aQ (eZ 4 (ej 4 p7 (ac (rS 0) (ac (kI 20) (ac (g2 (rB 3) (kI 0) bf) (ac (g2 (eL (ac (kI 2) (ac (kI 4) aG)) .list) (ej 3 bi (ac (rS 0) (ac (kI 97) (ac (kI 2) aG)))) bf) aG)))))) (cL (eL (ac (rS 3) (ac (rS 4) (ac (ej 3 tM (ac (rS 0) (ac (kI 30) (ac (g2 (rB 3) (kI 0) bf) aG)))) aG))) .tuple))))
def lX:List D->R D:=eu 5 ph
def pi:az->R Fl:=(cL (uP (bS (ac (eN 1 [0] (jO (g2 (rB 1) (kI 0) bf)) kT (g2 (rB 0) (rB 1) (AW false))) aG) (gK (fZ fun bs=>bs.all id))) (DO (bS (ac (eN 1 [0] (jO (g2 (rB 1) (kI 1) bf)) kT (g2 (rB 0) (rB 1) (AW false))) aG) (gK (fZ fun bs=>bs.any id))))))
def pj:List D->R D:=eu 2 pi
def pp:az->R Fl:=(aQ (eg (jj (eJ (ej 2 pj (ac (rS 1) (ac (Rq (rB 0) (PR (kI 1)) (PR (kI 3))) aG))))) (cL kN) (fun ρ=>.ok (.nx ρ))) (aQ (gj 2 (eN 1 [0] (jO (rB 1)) (eJ (g2 (rB 0) (g2 (rB 1) (kI 4) bf) (AW true))) (rS 0))) (cL (bS (ac (kA (oS (g2 (rB 2) (bS (ac (g2 (rB 0) (kI 3) bf) aG) (gK k8)) dI))) aG) (gK gL)))))
def lY:List D->R D:=eu 3 pp
def lz:az->R Fl:=(aQ (gj 2 (RX (rS 1) (kI 0))) (aQ (gj 3 (eL (ac (rS 1) aG) .list)) (aQ (eZ 4 (kI 0)) (aQ (iH (eJ (g2 (rB 4) (bS (ac (rB 3) aG) (gK iP)) wO)) (aQ (nu (jO (g2 (rB 0) (kI 1) bf)) (bN 5) (aQ (eZ 6 (ej 2 lY (ac (rS 5) (ac (g2 (rB 3) (rB 4) bf) aG)))) (eg (yu (eJ (g2 (rB 6) kN (L0 true))) (eJ (g2 (rB 6) (rB 2) (Qd true)))) (aQ (sI 2 (rS 6) (g2 (g2 (rB 2) (g2 (rB 3) (rB 4) bf) Ba) (kI 1) dI)) (oR 3 (rS 6))) (fun ρ=>.ok (.nx ρ))))) (eZ 4 (g2 (rB 4) (kI 1) dI))) 100000) (Tx 2 (cL (rS 2)))))))
def jy:List D->R D:=eu 7 lz
def kF:az->R Fl:=(aQ (gj 3 (eL aG .list)) (aQ (nu (DX (ac (rS 2) aG)) (li 2 (cw (bN 4) (cw (bN 5) mz))) (eg (eJ (g2 (ej 3 bi (ac (rS 0) (ac (g2 (rB 1) (g2 (kI 2) (rB 4) si) dI) (ac (kI 3) aG)))) (kI 0) Mn)) (oR 3 (eL (ac (rS 5) (ac (g2 (ej 3 bi (ac (rS 0) (ac (g2 (g2 (rB 1) (g2 (kI 2) (rB 4) si) dI) (kI 1) dI) (ac (kI 19) aG)))) (kI 6) PN) aG)) .tuple)) (fun ρ=>.ok (.nx ρ)))) (cL (bS (ac (rB 3) aG) (gK gL)))))
def mT:List D->R D:=eu 6 kF
def mU:az->R Fl:=(cL (bS (ac (eN 2 [1] (jO (rB 0)) (eJ (g2 (rB 0) (rB 2) (AW false))) (rS 1)) aG) (gK GB)))
def fR:List D->R D:=eu 2 mU
def IF:az->R Fl:=(aQ (yz (ej 3 lX (ac (rS 0) (ac (kI 6) (ac (kI 6) aG)))) (li 3 (cw (bN 1) (cw (bN 2) (cw (bN 3) mz))))) (aQ (eZ 4 (ej 3 mT (ac (rS 0) (ac (kI 300) (ac (g2 (rB 1) (kI 0) bf) aG))))) (aQ (eZ 5 (ej 2 jy (ac (rS 1) (ac (rS 2) aG)))) (aQ (eZ 6 kN) (aQ (nu (jO (eL (ac (kI 0) (ac (kI 1) (ac (kI 2) (ac (kI 4) (ac (kI 64) aG))))) .tuple)) (bN 7) (aQ (eZ 8 (bS (ac (eN 1 [5,7,4] (El (rB 5)) (eJ (g2 (g2 (rB 1) (rB 0) Ba) (rB 2) K_)) (ej 2 fR (ac (rS 3) (ac (rS 0) aG)))) aG) (gK GC))) (aQ (eg (Dh (eJ (g2 (ej 4 kE (ac (rS 1) (ac (rS 2) (ac (rS 4) (ac (rS 7) aG))))) (rB 8) (qf true))) (yu (eJ (g2 (rB 6) kN (L0 true))) (eJ (g2 (rB 8) (rB 6) wO)))) (cL (kB false)) (fun ρ=>.ok (.nx ρ))) (aQ (eZ 6 (rS 8)) (aQ (eZ 9 (ej 4 lT (ac (rS 1) (ac (rS 2) (ac (rS 4) (ac (rS 7) aG)))))) (aQ (eg (eJ (g2 (bS (ac (rB 9) aG) (gK iP)) (bS (ac (eN 1 [4,8,5] (El (rB 5)) (eJ (g2 (ej 2 fR (ac (rS 1) (ac (rS 0) aG))) (rB 2) (qf false))) (g2 (rB 3) (rB 0) Ba)) aG) (gK GA)) (qf true))) (cL (kB false)) (fun ρ=>.ok (.nx ρ))) (eg (Dh (eJ (g2 (ej 2 fR (ac (rS 4) (ac (g2 (ej 3 rM (ac (rS 1) (ac (rS 2) (ac (rS 9) aG)))) (uW (kI 1)) bf) aG))) (rB 8) (qf true))) (eJ (g2 (bS (ac (rB 9) aG) (gK iP)) (rB 7) Mn))) (cL (kB false)) (fun ρ=>.ok (.nx ρ))))))))) (cL (kB true)))))))
def F_law:List D->R D:=eu 10 IF
end
end Z
section
set_option hygiene false
namespace Z
open PySem L2 J
local macro_rules | `(tactic| walk_at "zz") => `(tactic| simp only [VC, Tz, VD, VE, VF, E7, uX, E8, Vh, MA, MB, Rw, Vi, Ic, E9, Ie, Ea, Eb, Ec, MC, MD, ME, Ig, MF, Ih, Vk, Ry, Rz, MG, RA, MH, RC, Vn, MI, RE, MJ, Ii, MK, Ij, Ik, ML, MM, MN, MQ, Ed, Ee, RH, MR, Il, MS, Vr, RJ, RK, MT, RL, MU, MV, RM, RN, MW, Vv, MX, MY, RO, RP, MZ, Tk, M_, RQ, RS, N0, Im, Io, RV, B1, B2, B3, N5, Vx, N7, N8, N9, Na, Nb, Nc, B5, xw, dI, PN, si, JP, Mk, DP, wO, K_, Mn, Gq, iP, aB, dL, aT, bJ, ao, Oy, fX, Ji, Jj, vE, vF, Nat.reduceSub, Nat.reduceAdd, OY, OZ, Nat.sub_self, if_true, if_false, ite_true, ite_false, bU, decide_true, decide_false, cond_true, cond_false, kP, jG, au, cV, G0, Int.reduceLE, Int.reduceAdd, Int.reduceMul, Nat.reduceLT, Int.reduceNeg, reduceIte])
local macro_rules | `(tactic| walk_at "yy") => `(tactic| simp only [VC, Tz, VD, VE, VF, E7, uX, E8, Rw, Vi, Ic, E9, Ie, Ea, Eb, Ec, MC, MD, ME, Ig, MF, Ih, Vk, Ry, Rz, MG, RA, MH, RC, Vn, MI, RE, MJ, Ii, MK, Ij, Ik, ML, MM, MN, MQ, Ed, Ee, RH, MR, Il, MS, Vr, RJ, RK, MT, RL, MU, MV, RM, RN, MW, Vv, MX, MY, RO, RP, MZ, Tk, M_, RQ, RS, N0, Im, Io, RV, B1, B2, B3, N5, Vx, N7, N8, N9, Na, Nb, Nc, B5, xw, dI, iP, aB, dL, aT, bJ, ao, Oy, fX, Ji, Jj, vE, vF, Nat.reduceSub, Nat.reduceAdd, OY, OZ, Nat.sub_self, if_true, if_false, ite_true, ite_false, bU, decide_true, decide_false, cond_true, cond_false, kP, jG, au, cV, G0, Int.reduceLE, Int.reduceAdd, Int.reduceMul, Nat.reduceLT, Int.reduceNeg, reduceIte])
theorem cn {n:Nat}{g:az->R Fl}{ds:List D}{d:D} (h:g (bF n ds)=.ok (.rt d)):eu n g ds=.ok d:=by unfold eu;rw [h]
def IG (ns:List Int) (k:Int):Int:=if k<ns.length then ns.getD k.toNat 0 else if ns=[] then 0 else ns.getD (k % ns.length).toNat 0*31+k
theorem Ny (ns:List Int):hW (ns.map .int)=true:=by
 induction ns with
 |nil=>rfl
 |cons x r ih=>simp [hW,jC,ih]
theorem Qq (ns:List Int):bq (.list (ns.map .int)) (.list [])=decide (ns=[]):=by
 cases ns with
 |nil=>rfl
 |cons x r=>simp [bq,iU]
theorem TF (ns:List Int):qf false (.list (ns.map .int)) (.list [])=.ok (.bool (decide (ns=[]))):=by
 unfold qf
 have h1:(nh (ns.map .int)).canLay0=true:=by simp only [jC];exact Ny ns
 have h2:(nh []).canLay0=true:=rfl
 have h3:min (nh (ns.map .int)).depth (nh []).depth<=60:=cy (xZ _ _) (by decide)
 rw [h1,h2,decide_eq_true h3,Qq]
 rfl
theorem TH (ns:List Int) (k:Int) (h0:0<=k) (h1:k<ns.length):Dg (ns.map b_) k=some (.int (ns.getD k.toNat 0)):=by
 have hk:k.toNat<ns.length:=by omega
 have:=r9 (xs:=ns.map b_) (j:=k.toNat) (v:=.int (ns.getD k.toNat 0)) (by rw [aW,aY hk];simp [hk])
 rwa [eh h0] at this
theorem Nz (ns:List Int) (k:Int) (h0:0<=k) (h1:k<ns.length):bf (.list (ns.map .int)) (.int k)=.ok (.int (ns.getD k.toNat 0)):=by
 have e:∀ xs k,bf (.list xs) k=DT (.list xs) k:=fun _ _=>rfl
 rw [e]
 unfold DT
 simp only [TH ns k h0 h1]
theorem IH {i j:Int} (h1:-(2 ^ 64)<j) (h2:j<2 ^ 64):AV i j=true:=by
 unfold AV
 simp only [ji,aF,decide_eq_true_eq]
 exact .inr ⟨h1,h2⟩
theorem lA {i j:Int} (h1:-(2 ^ 64)<i) (h2:i<2 ^ 64):AV i j=true:=by
 unfold AV
 simp only [ji,aF,decide_eq_true_eq]
 exact .inl ⟨h1,h2⟩
theorem Qr (ns:List Int) (k:Int) (hk:0<=k):kh [.list (ns.map .int),.int k]=.ok (.int (IG ns k)):=by
 unfold kh
 refine cn ?_
 unfold kg bF IG
 walk_at "zz"
 by_cases h:k<ns.length
 ·simp only [h,decide_true,cond_true,if_true,Nz ns k hk h,bind_ok]
  walk_at "zz"
 ·simp only [h,decide_false,cond_false,if_false]
  walk_at "zz"
  rw [TF]
  walk_at "zz"
  by_cases h2:ns=[]
  ·simp only [h2,decide_true,cond_true,if_true]
   walk_at "zz"
  ·have hl:(0:Int)<ns.length:=by have:0<ns.length:=List.length_pos_iff.mpr h2;omega
   simp only [h2,decide_false,cond_false,if_false,hl,decide_true]
   walk_at "zz"
   simp only [h2,decide_false,cond_false,if_false,hl,decide_true,if_true]
   walk_at "zz"
   rw [Nz ns _ (qX _ (by omega)) (n8 _ hl)]
   walk_at "zz"
   rw [IH (by decide) (by decide)]
   walk_at "zz"
def yW (ns:List Int) (k:Int):Int:=(IG ns k+7919*k+1)*48271 % 2147483647
def eT (ns:List Int) (k m:Int):Int:=(yW ns k*yW ns k+7*yW ns k+k) % 2147483629 % m
theorem fF (ns:List Int) (k m:Int) (h:0<m):0<=eT ns k m:=qX _ (by omega)
theorem gf (ns:List Int) (k m:Int) (h:0<m):eT ns k m<m:=n8 _ h
theorem eQ (ns:List Int) (k m:Int) (hk:0<=k) (hm:0<m):bi [.list (ns.map .int),.int k,.int m]=.ok (.int (eT ns k m)):=by
 have d0:0<=yW ns k:=qX _ (by decide)
 have d1:yW ns k<2147483647:=n8 _ (by decide)
 unfold bi
 refine cn ?_
 unfold mQ bF
 walk_at "zz"
 rw [Qr ns k hk]
 walk_at "zz"
 rw [lA (by decide) (by decide)]
 walk_at "zz"
 rw [IH (by decide) (by decide)]
 walk_at "zz"
 rw [show (IG ns k+7919*k+1)*48271 % 2147483647=yW ns k from rfl,lA (i:=yW ns k) (by omega) (by omega)]
 walk_at "zz"
 rw [lA (i:=7) (by decide) (by decide)]
 walk_at "zz"
 rw [decide_eq_true hm]
 walk_at "zz"
 rfl
theorem nZ {α β:Type}{kt:D->az->R az}{gb:az->R Fl} (c:α->D) (f:β->α->β) (P:List α->β->az->Prop) (h:∀ x bT b ρ,P (x::bT) b ρ->∃ ρ1 ρ',kt (c x) ρ=.ok ρ1/\gb ρ1=.ok (.nx ρ')/\P bT (f b x) ρ') :
  ∀ (xs:List α) (b:β) (ρ:az),P xs b ρ->∃ ρ',j4 kt gb (xs.map c) ρ=.ok (.nx ρ')/\P [] (xs.foldl f b) ρ'
 |[],b,ρ,p=>⟨ρ,rfl,p⟩
 |x::r,b,ρ,p=>by
  obtain ⟨ρ1,ρ2,h1,h2,h3⟩:=h x r b ρ p
  obtain ⟨ρ3,h4,h5⟩:=nZ c f P h r (f b x) ρ2 h3
  refine ⟨ρ3,?_,h5⟩
  rw [aB]
  unfold j4
  rw [h1]
  simp only [h2]
  exact h4
theorem II {α β:Type}{kt:D->az->R az}{gb hh:az->R Fl}{r:R Fl} (c:α->D) (f:β->α->β) (P:List α->β->az->Prop) {xs:List α} (b:β) {ρ:az}
  (h:∀ x bT b ρ,P (x::bT) b ρ->∃ ρ1 ρ',kt (c x) ρ=.ok ρ1/\gb ρ1=.ok (.nx ρ')/\P bT (f b x) ρ') (p0:P xs b ρ) (k:∀ ρ',P [] (xs.foldl f b) ρ'->hh ρ'=r):(j4 kt gb (xs.map c) ρ).bind (Q6 hh)=r:=by
 obtain ⟨ρ',e,p⟩:=nZ c f P h xs b ρ p0
 rw [e,bind_ok,uX]
 exact k ρ' p
theorem Cq (n:Nat) (h:n<=1000):Gv [.int (n:Int)]=.ok ((bA n).map fun (i:Nat)=>b_ (i:Int)):=by
 have e:Gv [.int (n:Int)]=.ok (qC 0 (n:Int).toNat):=Q7 (by omega) (by omega)
 rw [e]
 unfold qC
 rw [jI]
 exact congrArg R.ok (uk fun a _=>congrArg b_ (Int.zero_add _))
def Cr (x:Str):Bool:=decide (1<=x.cps.size)&&decide (x.cps.size<=6/\x.cps.size≠5)&&x.cps.toList.all fun c=>decide (97<=c)&&decide (c<=122)
def sJ (ns:List Int) (k:Int):Nat:=[1,2,3,6,1,4].getD (eT ns k 6).toNat 0
def Cs (ns:List Int) (k:Int) (i:Nat):Nat:=97+(eT ns (k+1+i) 26).toNat
def kG (ns:List Int) (k:Int):Str:=⟨((bA (sJ ns k)).map (Cs ns k)).toArray⟩
theorem IJ (ns:List Int) (k:Int):1<=sJ ns k/\(sJ ns k<=6/\sJ ns k≠5):=by
 have h0:=fF ns k 6 (by decide)
 have h1:=gf ns k 6 (by decide)
 unfold sJ
 have:∀ j:_root_.Fin 6,1<=[1,2,3,6,1,4].getD j.val 0/\([1,2,3,6,1,4].getD j.val 0<=6/\[1,2,3,6,1,4].getD j.val 0≠5):=by decide
 exact this ⟨(eT ns k 6).toNat,by omega⟩
theorem Qs (ns:List Int) (k:Int) (i:Nat):97<=Cs ns k i/\Cs ns k i<=122:=by
 have h0:=fF ns (k+1+i) 26 (by decide)
 have h1:=gf ns (k+1+i) 26 (by decide)
 unfold Cs
 omega
theorem Ev (ns:List Int) (k:Int):Cr (kG ns k)=true:=by
 have ⟨h1,h2⟩:=IJ ns k
 unfold Cr kG
 simp only [aR,ao,eS,aF,decide_eq_true_eq,bY]
 refine ⟨⟨h1,h2⟩,fun c hc=>?_⟩
 obtain ⟨i,_,rfl⟩:=List.mem_map.mp hc
 exact Qs ns k i
theorem NA (j:Int) (h0:0<=j) (h1:j<26):bf (.str "abcdefghijklmnopqrstuvwxyz") (.int j)=.ok (.str ⟨#[97+j.toNat]⟩):=by
 have e:∀ x k,bf (.str x) k=DT (.str x) k:=fun _ _=>rfl
 rw [e]
 unfold DT
 have hc:("abcdefghijklmnopqrstuvwxyz" : Str).cps.toList=(bA 26).map (97 + ·):=by decide +kernel
 have hl:("abcdefghijklmnopqrstuvwxyz" : Str).length<=1000:=by decide +kernel
 have hj:j.toNat<26:=by omega
 have hx:=r9 (xs:=(bA 26).map (97 + ·)) (j:=j.toNat) (v:=97+j.toNat) (by rw [aW,Jf hj];rfl)
 rw [eh h0] at hx
 simp only [hl,if_true,hc,hx]
theorem Qt (j:Int) (h0:0<=j) (h1:j<6):bf (.list [.int 1,.int 2,.int 3,.int 6,.int 1,.int 4]) (.int j)=.ok (.int (([1,2,3,6,1,4].getD j.toNat 0:Nat):Int)):=by
 obtain ⟨n,rfl⟩:=Int.eq_ofNat_of_zero_le h0
 have hn:n<6:=by omega
 match n,hn with
 | 0,_=>rfl
 | 1,_=>rfl
 | 2,_=>rfl
 | 3,_=>rfl
 | 4,_=>rfl
 | 5,_=>rfl
theorem Ct (l:List Nat):∀ (acc:Str),l.foldl (fun (a:Str) c=>a++⟨#[c]⟩) acc=⟨(acc.cps.toList++l).toArray⟩:=by
 induction l with
 |nil=>intro acc;simp
 |cons c r ih =>
  intro acc
  rw [cO,ih]
  show (⟨((acc.cps++#[c]).toList++r).toArray⟩:Str)=_
  simp
theorem K5:("" : Str).cps.toList=[]:=by decide +kernel
theorem IK (ns:List Int) (k:Int) (hk:0<=k):jS [.list (ns.map .int),.int k]=.ok (.str (kG ns k)):=by
 have h0:=fF ns k 6 (by decide)
 have h1:=gf ns k 6 (by decide)
 have ⟨w1,w2⟩:=IJ ns k
 unfold jS
 refine cn ?_
 unfold oZ bF
 walk_at "zz"
 rw [pZ (ds:=(bA (sJ ns k)).map fun (i:Nat)=>b_ i)]
 ·refine II (fun (i:Nat)=>b_ i) (fun (a:Str) i=>a++⟨#[Cs ns k i]⟩) (fun bT a ρ=>a.length+bT.length<=900/\∃ z,ρ=[.shr (.list (ns.map .int)),.shr (.int k),.shr (.str a),z]) "" ?_ ⟨by rw [eS,show ("" : Str).length=0 by decide];omega,_,rfl⟩ ?_
  ·rintro i bT a ρ ⟨hl,z,rfl⟩
   simp only [aT] at hl
   refine ⟨_,[.shr (.list (ns.map .int)),.shr (.int k),.shr (.str (a++⟨#[Cs ns k i]⟩)),.shr (.int i)],rfl,?_,?_,_,rfl⟩
   ·walk_at "zz"
    rw [eQ ns _ 26 (by omega) (by decide)]
    walk_at "zz"
    rw [NA _ (fF _ _ _ (by decide)) (gf _ _ _ (by decide))]
    walk_at "zz"
    have hz:a.length+(⟨#[97+(eT ns (k+1+i) 26).toNat]⟩:Str).length<=1000:=by
     show a.length+1<=1000
     omega
    rw [if_pos hz]
    walk_at "zz"
    rw [show 97+(eT ns (k+1+i) 26).toNat=Cs ns k i from rfl]
   ·show (a.cps++#[_]).size+bT.length<=900
    rw [Array.size_append]
    show a.cps.size+1+bT.length<=900
    have:a.length=a.cps.size:=rfl
    omega
  ·rintro ρ' ⟨_,z,rfl⟩
   walk_at "zz"
   have:(bA (sJ ns k)).foldl (fun (a:Str) i=>a++⟨#[Cs ns k i]⟩) ""=kG ns k:=by
    have:=Ct ((bA (sJ ns k)).map (Cs ns k)) ""
    rw [List.foldl_map] at this
    rw [this,K5]
    unfold kG
    rw [fX]
   rw [this]
 ·walk_at "zz"
  rw [eQ ns k 6 hk (by decide)]
  walk_at "zz"
  have et:=Qt (eT ns k 6) h0 h1
  have ew:[1,2,3,6,1,4].getD (eT ns k 6).toNat 0=sJ ns k:=rfl
  rw [ew] at et
  rw [et]
  walk_at "zz"
  rw [Cq (sJ ns k) (by omega)]
def lB (l:List (Str×D)):List (D×D):=l.map fun p=>(.str p.1,p.2)
def v8 (l:List (Str×D)) (x:Str) (d:D):List (Str×D):=if l.any (fun p=>decide (p.1=x)) then l.map (fun p=>if p.1=x then (p.1,d) else p) else l++[(x,d)]
theorem v9 (x y:Str):bq (.str x) (.str y)=decide (x=y):=by
 show (x==y)=_
 rw [qW]
theorem Qu (l:List (Str×D)) (x:Str) (d:D):xv (lB l) (.str x) d=lB (v8 l x d):=by
 unfold xv v8 lB
 rw [wH]
 have e:((fun kv:D×D=>bq kv.1 (.str x))∘fun p:Str×D=>(aS p.1,p.2))=fun p=>decide (p.1=x):=by
  funext p
  exact v9 p.1 x
 rw [e]
 split
 ·rw [cx,cx]
  apply uk
  intro p _
  simp only [Function.comp,v9]
  by_cases h:p.1=x
  ·simp [h]
  ·simp [h]
 ·simp
theorem yX (l:List (Str×D)):gR (lB l)=true:=by
 unfold gR lB
 rw [qk,bY]
 intro p _
 rfl
theorem Ew (l:List (Str×D)) (x:Str) (d:D):(v8 l x d).length<=l.length+1:=by
 unfold v8
 split<;>simp
theorem Bf (l:List (Str×D)) (x:Str) (d:D):(v8 l x d).map (·.1)=if x∈l.map (·.1) then l.map (·.1) else l.map (·.1)++[x]:=by
 unfold v8
 have e:(l.any fun p=>decide (p.1=x))=decide (x∈l.map (·.1)):=by
  rw [zN]
  simp only [pU,decide_eq_true_eq,List.mem_map]
 rw [e]
 by_cases h:x∈l.map (·.1)
 ·rw [decide_eq_true h,if_pos rfl,if_pos h,cx]
  apply uk
  intro p _
  by_cases hp:p.1=x<;>simp [hp]
 ·rw [decide_eq_false h,if_neg bh,if_neg h,aU]
  rfl
theorem NB {Q:Str->D->Prop}{l:List (Str×D)}{x:Str}{d:D} (h:∀ p∈l,Q p.1 p.2) (hx:Q x d):∀ p∈v8 l x d,Q p.1 p.2:=by
 unfold v8
 split
 ·intro p hp
  obtain ⟨p',hp',rfl⟩:=List.mem_map.mp hp
  by_cases e:p'.1=x
  ·rw [if_pos e];rw [e];exact hx
  ·rw [if_neg e];exact h p' hp'
 ·intro p hp
  rcases List.mem_append.mp hp with hp|hp
  ·exact h p hp
  ·rw [List.mem_singleton.mp hp];exact hx
theorem K6 {l:List Str}{x:Str} (h:l.Nodup):(if x∈l then l else l++[x]).Nodup:=by
 by_cases hx:x∈l
 ·rw [if_pos hx];exact h
 ·rw [if_neg hx];exact xJ h hx
theorem R_ {i:Nat}{gk g:az->R D}{ρ:az}{l:List (Str×D)}{x:Str}{d:D} (hi:ρ[i]?=some (Sl.own (.dict (lB l)))) (hg:g ρ=.ok d) (hk:gk ρ=.ok (.str x)) (hl:l.length<1000):Ce i gk g ρ=.ok (.nx (ρ.set i (.own (.dict (lB (v8 l x d)))))):=by
 have hl':(lB l).length<1000:=by unfold lB;rw [ao];exact hl
 have e:Ce i gk g ρ=(g ρ).bind fun d=>(gk ρ).bind fun k=>match sH k with
  |some _=>if (lB l).length<1000/\gR (lB l)=true then .ok (.nx (ρ.set i (.own (.dict (xv (lB l) k d))))) else .no
  |none=>.no:=by
  unfold Ce
  simp only [hi]
  try rfl
 rw [e,hg,xw,hk,xw]
 simp only [sH,if_pos (uj hl' (yX l)),Qu]
theorem Ex (l:List (Str×D)):k8 (.dict (lB l))=.ok (.list ((l.map (·.1)).map .str)):=by
 have e:∀ kvs,k8 (.dict kvs)=if gR kvs=true then .ok (.list (kvs.map (·.1))) else .no:=fun _=>rfl
 rw [e,if_pos (yX l)]
 unfold lB
 rw [cx,cx]
 rfl
theorem sorted_strs (ss:List Str) (h:ss.length<64):rj (.list (ss.map .str))=.ok (.list ((jo ss).map .str)):=by
 have e:∀ ds,rj (.list ds)=match f_ ds with
  |some ss=>if ss.length<64 then .ok (.list ((jo ss).map .str)) else .no
  |none=>.no:=fun _=>rfl
 rw [e,strsOf_map]
 simp only [if_pos h]
theorem fz (ds:List D):gL (.list ds)=.ok (.tuple ds):=id rfl
def Cu (ns:List Int) (k:Int) (n:Nat):List Str:=(bA n).map fun (i:Nat)=>kG ns (k+1+8*(i:Int))
def Cv (ns:List Int) (k m:Int):List Str:=jo (dk [] (Cu ns k (eT ns k (m+1)).toNat))
structure NC (fs:List Str) (n:Nat):Prop where
 ok:∀ x∈fs,Cr x=true
 up:fs.Pairwise fun a b=>pX a b=true
 len:fs.length<=n
theorem ND {α:Type}{a b:List α} (h:a.Perm b):a.length=b.length:=h.length_eq
theorem GD (ns:List Int) (k m:Int) (hm:0<=m):NC (Cv ns k m) m.toNat:=by
 have h0:=fF ns k (m+1) (by omega)
 have h1:=gf ns k (m+1) (by omega)
 have hp:=gJ (dk [] (Cu ns k (eT ns k (m+1)).toNat))
 refine ⟨fun x hx=>?_,?_,?_⟩
 ·have hx:=hp.mem_iff.mp hx
  rw [iz] at hx
  rcases hx with hx|hx
  ·cases hx
  ·obtain ⟨i,_,rfl⟩:=List.mem_map.mp hx
   exact Ev _ _
 ·exact vX (qx _) (hp.nodup_iff.mpr (ik _ [] gC))
 ·unfold Cv
  rw [ND hp]
  have:=fO (Cu ns k (eT ns k (m+1)).toNat) []
  unfold Cu at this ⊢
  simp at this
  omega
theorem K7 (f:Nat->Str) (l:List Nat):∀ acc:List (Str×D),((l.foldl (fun (a:List (Str×D)) i=>v8 a (f i) (.bool true)) acc).map (·.1))=dk (acc.map (·.1)) (l.map f):=by
 induction l with
 |nil=>intro acc;rfl
 |cons i r ih =>
  intro acc
  rw [cO,ih,aB,Bf]
  rfl
theorem NE (ns:List Int) (k m:Int) (hk:0<=k) (hm:0<=m) (hm2:m<=20):mS [.list (ns.map .int),.int k,.int m]=.ok (.tuple ((Cv ns k m).map .str)):=by
 have h0:=fF ns k (m+1) (by omega)
 have h1:=gf ns k (m+1) (by omega)
 unfold mS
 refine cn ?_
 unfold mR bF
 walk_at "zz"
 rw [pZ (ds:=(bA (eT ns k (m+1)).toNat).map fun (i:Nat)=>b_ i)]
 ·refine II (fun (i:Nat)=>b_ i) (fun (a:List (Str×D)) i=>v8 a (kG ns (k+1+8*(i:Int))) (.bool true)) (fun bT a ρ=>a.length+bT.length<=60/\∃ z,ρ=[.shr (.list (ns.map .int)),.shr (.int k),.shr (.int m),.own (.dict (lB a)),z]) [] ?_ ⟨by simp;omega,_,rfl⟩ ?_
  ·rintro i bT a ρ ⟨hl,z,rfl⟩
   simp only [aT] at hl
   refine ⟨_,[.shr (.list (ns.map .int)),.shr (.int k),.shr (.int m),.own (.dict (lB (v8 a (kG ns (k+1+8*(i:Int))) (.bool true)))),.shr (.int i)],rfl,?_,?_,_,rfl⟩
   ·refine (R_ (l:=a) (x:=kG ns (k+1+8*(i:Int))) (d:=.bool true) rfl rfl ?_ (by omega)).trans rfl
    walk_at "zz"
    rw [lA (by decide) (by decide)]
    walk_at "zz"
    rw [IK ns _ (by omega)]
   ·have:=Ew a (kG ns (k+1+8*(i:Int))) (.bool true)
    omega
  ·rintro ρ' ⟨hl,z,rfl⟩
   simp only [bJ] at hl
   walk_at "zz"
   rw [Ex]
   walk_at "zz"
   have ek:=K7 (fun i=>kG ns (k+1+8*(i:Int))) (bA (eT ns k (m+1)).toNat) []
   rw [ek,sorted_strs]
   ·walk_at "zz"
    rw [fz]
    walk_at "zz"
    rfl
   ·rw [<- ek,ao];omega
 ·walk_at "zz"
  rw [eQ ns k (m+1) hk (by omega)]
  walk_at "zz"
  have:=Cq (eT ns k (m+1)).toNat (by omega)
  rw [eh h0] at this
  exact this
structure da where
 name:Str
 needs:List Str
 bars:List Str
 makes:List Str
 ends:List Str
 price:Int
abbrev aC (xs:List Str):D:=.tuple (xs.map .str)
def dv (e:da):D:=.tuple [.str e.name,aC e.needs,aC e.bars,aC e.makes,aC e.ends,.int e.price]
structure Sub (fs xs:List Str):Prop where
 up:xs.Pairwise fun a b=>pX a b=true
 mem:∀ x∈xs,x∈fs
structure sK (fs:List Str) (e:da):Prop where
 name:Cr e.name=true
 needs:Sub fs e.needs
 bars:Sub fs e.bars
 makes:Sub fs e.makes
 ends:Sub fs e.ends
 nb:∀ x∈e.needs,x∉e.bars
 me:∀ x∈e.makes,x∉e.ends
 p0:0<=e.price
 p9:e.price<=9
def Di (xs:List Str):List Str:=jo (dk [] xs)
theorem mV {xs:List Str}{x:Str}:x∈Di xs↔x∈xs:=by
 unfold Di
 rw [(gJ _).mem_iff,iz]
 simp
theorem GE (xs:List Str):(Di xs).Pairwise fun a b=>pX a b=true:=vX (qx _) ((gJ _).nodup_iff.mpr (ik _ [] gC))
theorem xR {fs xs:List Str} (h:∀ x∈xs,x∈fs):Sub fs (Di xs):=⟨GE xs,fun x hx=>h x (mV.mp hx)⟩
theorem Cy (fs:List Str) (j:Int) (h0:0<=j) (h1:j<fs.length):∃ x,x∈fs/\bf (aC fs) (.int j)=.ok (.str x):=by
 have hj:j.toNat<fs.length:=by omega
 refine ⟨fs[j.toNat],iK hj,?_⟩
 have e:∀ xs k,bf (.tuple xs) k=DT (.tuple xs) k:=fun _ _=>rfl
 rw [e]
 have hx:=r9 (xs:=fs.map aS) (j:=j.toNat) (v:=.str fs[j.toNat]) (by rw [aW,aY hj];rfl)
 rw [eh h0] at hx
 unfold DT
 simp only [hx]
theorem yY (x:Str):∀ ys:List Str,((ys.map aS).any fun y=>bq y (.str x))=decide (x∈ys)
 |[]=>rfl
 |y::r=>by
  rw [aB,e7,yY x r,v9]
  by_cases h:y=x
  ·subst h;simp
  ·simp [h,c9 h]
theorem yZ (ys:List Str):(ys.map aS).all k_=true:=by
 rw [qk,bY];intro _ _;rfl
theorem Qv (neg:Bool) (x:Str) (ys:List Str):AW neg (.str x) (.list (ys.map .str))=.ok (.bool (if neg then !decide (x∈ys) else decide (x∈ys))):=by
 have e:AW neg (.str x) (.list (ys.map .str))=if k_ (.str x)&&(ys.map aS).all k_ then .ok (.bool (if neg then !((ys.map aS).any fun y=>bq y (.str x)) else (ys.map aS).any fun y=>bq y (.str x))) else .no:=rfl
 rw [e,yZ,yY]
 rfl
theorem lZ (neg:Bool) (x:Str) (ys:List Str):AW neg (.str x) (aC ys)=.ok (.bool (if neg then !decide (x∈ys) else decide (x∈ys))):=by
 have e:AW neg (.str x) (aC ys)=if k_ (.str x)&&(ys.map aS).all k_ then .ok (.bool (if neg then !((ys.map aS).any fun y=>bq y (.str x)) else (ys.map aS).any fun y=>bq y (.str x))) else .no:=rfl
 rw [e,yZ,yY]
 rfl
theorem jz (neg:Bool) (a b:Int):qf neg (.int a) (.int b)=.ok (.bool (if neg then !decide (a=b) else decide (a=b))):=by
 have e:qf neg (.int a) (.int b)=.ok (.bool (if neg then !(a==b) else (a==b))):=rfl
 rw [e,qW]
theorem Cz {x:Str} (h:Cr x=true):(aS x).canLay0=true:=by
 unfold Cr at h
 simp only [aF,bY,decide_eq_true_eq] at h
 show PyData.strOk x=true
 unfold PyData.strOk
 rw [<- xl,bY]
 intro c hc
 have:=h.2 c hc
 exact decide_eq_true (by omega)
theorem CA (neg:Bool) {x y:Str} (hx:Cr x=true) (hy:Cr y=true):qf neg (.str x) (.str y)=.ok (.bool (if neg then !decide (x=y) else decide (x=y))):=by
 unfold qf
 rw [Cz hx,Cz hy,v9]
 rfl
theorem y_ (ss:List Str) (h:ss.length<60):tJ (.list (ss.map .str))=.ok (dk [] ss):=by
 have e:∀ ds,tJ (.list ds)=match f_ ds with
  |some ss=>if ss.length<60 then .ok (dk [] ss) else .no
  |none=>.no:=fun _=>rfl
 rw [e,strsOf_map]
 simp only [if_pos h]
theorem IL (g:az->R D) (s:Sl) (ρ:az):oS g (s::ρ)=(g (s::ρ)).bind tJ:=id rfl
def S0:List Str->R D:=fun ss=>if ss.length<64 then .ok (.list ((jo ss).map .str)) else .no
theorem wa (g:az->R (List Str)) (s:Sl) (ρ:az):kA g (s::ρ)=(g (s::ρ)).bind S0:=id rfl
theorem z0 (ss:List Str) (h:ss.length<64):S0 ss=.ok (.list ((jo ss).map .str)):=if_pos h
theorem K8 (ss:List Str) (h:ss.length<60) (ρ:az):(bS (J.ac (kA (oS (rB 0))) J.aG) (gK gL)) (.shr (.list (ss.map .str))::ρ)=.ok (aC (Di ss)):=by
 walk_at "zz"
 rw [wa,IL]
 walk_at "zz"
 rw [y_ ss h]
 walk_at "zz"
 rw [z0 _ (by have:=fO ss [];simp at this;omega)]
 walk_at "zz"
 rw [fz]
 rfl
theorem Ey {ρ:az}{gt:az->R Bool}{x:Str}{b:Bool}{s:Sl}{r:az} (hρ:ρ=s::r) (h:gt (.shr (.str x)::r)=.ok b):gQ (iQ 1 ρ gt (rS 0)) [.str x]=.ok ((if b then [x] else []).map .str):=by
 subst hρ
 have e:=oU (ρ:=s::r) (gt:=gt) (ge:=(rS 0)) (d:=.str x) (y:=.str x) (b:=b) h fun _=>rfl
 unfold gQ
 rw [e,xw]
 unfold gQ
 rw [xw]
 cases b<;>rfl
theorem TJ (p q r t:List Str) (hp:p.length<60) (hq:q.length<60) (hr:r.length<60) (ht:t.length<60):gQ (iQ 1 [Sl.no] kT (bS (J.ac (kA (oS (rB 0))) J.aG) (gK gL))) [.list (p.map .str),.list (q.map .str),.list (r.map .str),.list (t.map .str)]=.ok [aC (Di p),aC (Di q),aC (Di r),aC (Di t)] :=
 dO _ (fun ss:List Str=>nh (ss.map .str)) (fun ss=>aC (Di ss)) [p,q,r,t] fun ss hs=>fP rfl (K8 ss (by simp at hs;rcases hs with h|h|h|h<;>(rw [h];assumption)) _)
theorem S1 (a b c d:D):bf (.list [a,b,c,d]) (.int 0)=.ok a:=id rfl
theorem S2 (a b c d:D):bf (.list [a,b,c,d]) (.int 1)=.ok b:=id rfl
theorem S3 (a b c d:D):bf (.list [a,b,c,d]) (.int 2)=.ok c:=id rfl
theorem S4 (a b c d:D):bf (.list [a,b,c,d]) (.int 3)=.ok d:=id rfl
theorem Qw (ns:List Int) (k:Int) (hk:0<=k) (fs:List Str) (hf:∀ x∈fs,Cr x=true) (h0:0<fs.length) (nm:Str) (hn:Cr nm=true) :
  ∃ e,pd [.list (ns.map .int),.int k,aC fs,.str nm]=.ok (dv e)/\sK fs e/\e.name=nm:=by
 have hl:(0:Int)<(fs.length:Int):=by omega
 obtain ⟨a,ha,ea⟩:=Cy fs (eT ns (k+10) fs.length) (fF _ _ _ hl) (gf _ _ _ hl)
 obtain ⟨b,hb,eb⟩:=Cy fs (eT ns (k+11) fs.length) (fF _ _ _ hl) (gf _ _ _ hl)
 obtain ⟨c,hc,ec⟩:=Cy fs (eT ns (k+12) fs.length) (fF _ _ _ hl) (gf _ _ _ hl)
 have m13a:=fF ns (k+13) 3 (by decide)
 have m13b:=gf ns (k+13) 3 (by decide)
 obtain ⟨nd,hnd,hnl,end_⟩:∃ nd:List Str,(∀ x∈nd,x∈fs)/\nd.length<60/\HU (.list [.str a,.str b]) none (some (1+eT ns (k+13) 3 / 2))=.ok (.list (nd.map .str)):=by
  by_cases h2:eT ns (k+13) 3=2
  ·exact ⟨[a,b],by simp [ha,hb],by simp,by rw [h2];rfl⟩
  ·have:eT ns (k+13) 3 / 2=0:=by omega
   exact ⟨[a],by simp [ha],by simp,by rw [this];rfl⟩
 let bb:Bool:=!decide (c∈nd)&&decide (eT ns (k+14) 4=0)
 let be:Bool:=!decide (a=c)&&decide (eT ns (k+15) 3=0)
 have p0:=fF ns k 5 (by decide)
 have p1:=gf ns k 5 (by decide)
 refine ⟨⟨nm,Di nd,Di (if bb then [c] else []),Di [c],Di (if be then [a] else []),eT ns k 5⟩,?_,⟨hn,xR hnd,xR ?_,xR (by simp [hc]),xR ?_,fun x h1 h2=>?_,fun x h1 h2=>?_,p0,by show eT ns k 5<=9;omega⟩,rfl⟩
 ·unfold pd
  refine cn ?_
  unfold pc bF
  walk_at "zz"
  rw [eQ ns _ _ (by omega) hl]
  walk_at "zz"
  rw [ea]
  walk_at "zz"
  rw [eQ ns (k+11) _ (by omega) hl]
  walk_at "zz"
  rw [eb]
  walk_at "zz"
  rw [eQ ns (k+12) _ (by omega) hl]
  walk_at "zz"
  rw [ec]
  walk_at "zz"
  rw [eQ ns (k+13) 3 (by omega) (by decide)]
  walk_at "zz"
  simp only [G0,decide_true,ux,if_true]
  walk_at "zz"
  rw [end_]
  walk_at "zz"
  rw [Ey (b:=bb) rfl]
  ·walk_at "zz"
   rw [Ey (b:=be) rfl]
   ·walk_at "zz"
    simp only [Rv]
    rw [Ch rfl,Ch rfl]
    walk_at "zz"
    have pk:=TJ nd (if bb then [c] else []) [c] (if be then [a] else []) hnl (by cases bb<;>simp) (by simp) (by cases be<;>simp)
    rw [show ([c].map aS)=[aS c] from rfl] at pk
    rw [pk]
    walk_at "zz"
    rw [S1]
    walk_at "zz"
    rw [S2]
    walk_at "zz"
    rw [S3]
    walk_at "zz"
    rw [S4]
    walk_at "zz"
    rw [eQ ns k 5 hk (by decide)]
    walk_at "zz"
    rfl
   ·walk_at "zz"
    rw [CA true (hf a ha) (hf c hc)]
    walk_at "zz"
    by_cases hac:a=c
    ·simp only [be,hac,decide_true,kP,AA,if_true,cond_false]
    ·simp only [be,hac,decide_false,jG,uw,if_true,cond_true]
     rw [eQ ns (k+15) 3 (by omega) (by decide)]
     walk_at "zz"
     rw [jz]
     walk_at "zz"
  ·walk_at "zz"
   rw [Qv]
   walk_at "zz"
   by_cases hcn:c∈nd
   ·simp only [bb,hcn,decide_true,kP,AA,if_true,cond_false]
   ·simp only [bb,hcn,decide_false,jG,uw,if_true,cond_true]
    rw [eQ ns (k+14) 4 (by omega) (by decide)]
    walk_at "zz"
    rw [jz]
    walk_at "zz"
 ·intro x hx
  cases hbb:bb
  ·simp [hbb] at hx
  ·simp [hbb] at hx;rw [hx];exact hc
 ·intro x hx
  cases hbe:be
  ·simp [hbe] at hx
  ·simp [hbe] at hx;rw [hx];exact ha
 ·have h2:x∈(if bb then [c] else []):=mV.mp h2
  cases hbb:bb
  ·simp [hbb] at h2
  ·simp [hbb] at h2
   subst h2
   have:(!decide (x∈nd))=true:=by
    have:(!decide (x∈nd)&&decide (eT ns (k+14) 4=0))=true:=hbb
    simp only [aF] at this
    exact this.1
   simp at this
   exact this (mV.mp h1)
 ·cases hbe:be
  ·have h2:x∈(if be then [a] else []):=mV.mp h2
   simp [hbe] at h2
  ·skip
   have h4:x∈[c]:=mV.mp h1
   have h5:x∈(if be then [a] else []):=mV.mp h2
   simp only [cJ] at h4
   simp only [hbe,if_true,cJ] at h5
   have:(!decide (a=c)&&decide (eT ns (k+15) 3=0))=true:=hbe
   simp only [aF] at this
   have h3:=this.1
   simp at h3
   exact h3 (h5.symm.trans h4)
theorem CB {i:Nat}{gi g:az->R D}{ρ:az}{dss:List (List D)}{ds:List D}{d:D}{j:Int} (hi:ρ[i]?=some (Sl.ow2 dss)) (hj:gi ρ=.ok (.int j)) (h0:0<=j) (hd:dss[j.toNat]?=some ds) (hg:g ρ=.ok d) (hl:ds.length<1000):nX i gi g ρ=.ok (.nx (ρ.set i (.ow2 (dss.set j.toNat (ds++[d]))))):=by
 unfold nX
 simp only [hi,hj,bind_ok,if_pos h0,hd,hg,if_pos hl]
def l7 (n:Nat):List Str->List (Nat×Str)
 |[]=>[]
 |x::r=>(n,x)::l7 (n+1) r
abbrev cI (p:Nat×Str):D:=.tuple [.int (p.1:Nat),.str p.2]
theorem vc:∀ (xs:List Str) (n:Nat),pY n (xs.map .str)=(l7 n xs).map cI
 |[],_=>rfl
 |x::r,n=>by
  show f9 [.int n,.str x]::pY (n+1) (r.map .str)=cI (n,x)::(l7 (n+1) r).map cI
  rw [vc r (n+1)]
theorem n_:∀ (xs:List Str) (n:Nat),(l7 n xs).map (·.2)=xs
 |[],_=>rfl
 |x::r,n=>by
  show x::(l7 (n+1) r).map (·.2)=x::r
  rw [n_ r]
theorem Ez:∀ (fs:List Str),(∀ x∈fs,Cr x=true)->hW (fs.map .str)=true
 |[],_=>rfl
 |x::r,h=>by
  have h1:=Cz (h x ah)
  have h2:=Ez r fun y hy=>h y (a9 _ hy)
  simp only [aB,hW,h1,h2,ux]
theorem IM (fs:List Str) (hf:∀ x∈fs,Cr x=true):qf true (aC fs) (.tuple [])=.ok (.bool (!decide (fs=[]))):=by
 unfold qf
 have h1:(aC fs).canLay0=true:=by simp only [jC];exact Ez fs hf
 have h2:(f9 []).canLay0=true:=rfl
 have h3:min (aC fs).depth (f9 []).depth<=60:=cy (xZ _ _) (by decide)
 have h4:bq (aC fs) (.tuple [])=decide (fs=[]):=by
  cases fs with
  |nil=>rfl
  |cons x r=>simp [bq,iU]
 rw [h1,h2,decide_eq_true h3,h4]
 rfl
structure ny (pre p q:List Str):Prop where
 sp:p.Sublist pre
 sq:q.Sublist pre
 d:∀ x∈p,x∉q
theorem ny.skip {pre p q:List Str} (h:ny pre p q) (x:Str):ny (pre++[x]) p q:=⟨h.sp.trans (gd _ _),h.sq.trans (gd _ _),h.d⟩
theorem ny.left {pre p q:List Str} (h:ny pre p q) (x:Str) (hx:x∉pre):ny (pre++[x]) (p++[x]) q:=⟨h.sp.append (dg _),h.sq.trans (gd _ _),fun y hy hq=>by
 rcases List.mem_append.mp hy with h1|h1
 ·exact h.d y h1 hq
 ·rw [List.mem_singleton.mp h1] at hq
  exact hx (h.sq.subset hq)⟩
theorem ny.right {pre p q:List Str} (h:ny pre p q) (x:Str) (hx:x∉pre):ny (pre++[x]) p (q++[x]):=⟨h.sp.trans (gd _ _),h.sq.append (dg _),fun y hy hq=>by
 rcases List.mem_append.mp hq with h1|h1
 ·exact h.d y hy h1
 ·rw [List.mem_singleton.mp h1] at hy
  exact hx (h.sp.subset hy)⟩
abbrev o4 (p q r t:List Str):Sl:=.ow2 [p.map .str,q.map .str,r.map .str,t.map .str]
theorem VL (j:Int) (h0:0<=j) (h1:j<3):∃ b:Bool,bf (.list [.int 0,.int 0,.int 1]) (.int j)=.ok (.int (if b then 0 else 1)):=by
 have:j=0\/j=1\/j=2:=by omega
 rcases this with h|h|h<;>subst h
 ·exact ⟨true,rfl⟩
 ·exact ⟨true,rfl⟩
 ·exact ⟨false,rfl⟩
theorem VM (j:Int) (h0:0<=j) (h1:j<4):∃ b:Bool,bf (.list [.int 2,.int 2,.int 3,.int 3]) (.int j)=.ok (.int (if b then 2 else 3)):=by
 have:j=0\/j=1\/j=2\/j=3:=by omega
 rcases this with h|h|h|h<;>subst h
 ·exact ⟨true,rfl⟩
 ·exact ⟨true,rfl⟩
 ·exact ⟨false,rfl⟩
 ·exact ⟨false,rfl⟩
theorem vd (p:List Str) (x:Str):(p++[x]).map aS=p.map .str++[.str x]:=by simp
theorem NF {a b c d e f:Sl}{pre p q r t:List Str}{x:Str}{j:Int} (hp:ny pre p q) (hx:x∉pre) (hl:pre.length<900) (h0:0<=j) :
  ∃ p' q',ny (pre++[x]) p' q'/\eg (eJ (g2 (rB 7) (kI 3) wO)) (nX 4 (g2 (eL (J.ac (kI 0) (J.ac (kI 0) (J.ac (kI 1) J.aG))) .list) (rB 7) bf) (rS 6)) (fun ρ=>.ok (.nx ρ)) [a,b,c,d,o4 p q r t,e,.shr (.str x),.shr (.int j),f]=.ok (.nx [a,b,c,d,o4 p' q' r t,e,.shr (.str x),.shr (.int j),f]):=by
 by_cases h3:j<3
 ·obtain ⟨bo,e3⟩:=VL j h0 h3
  have lp:p.length<1000:=by have:=hp.sp.length_le;omega
  have lq:q.length<1000:=by have:=hp.sq.length_le;omega
  cases bo
  ·refine ⟨p,q++[x],hp.right x hx,?_⟩
   walk_at "zz"
   rw [decide_eq_true h3]
   walk_at "zz"
   simp only [o4,vd]
   refine (CB (j:=1) (ds:=q.map .str) (d:=.str x) rfl ?_ (by decide) rfl rfl (by rw [ao];exact lq)).trans rfl
   walk_at "zz"
   rw [e3]
   rfl
  ·refine ⟨p++[x],q,hp.left x hx,?_⟩
   walk_at "zz"
   rw [decide_eq_true h3]
   walk_at "zz"
   simp only [o4,vd]
   refine (CB (j:=0) (ds:=p.map .str) (d:=.str x) rfl ?_ (by decide) rfl rfl (by rw [ao];exact lp)).trans rfl
   walk_at "zz"
   rw [e3]
   rfl
 ·refine ⟨p,q,hp.skip x,?_⟩
  walk_at "zz"
  rw [decide_eq_false h3]
  walk_at "zz"
theorem NG {a b c d e f:Sl}{pre p q r t:List Str}{x:Str}{j:Int} (hp:ny pre r t) (hx:x∉pre) (hl:pre.length<900) (h0:0<=j) :
  ∃ r' t',ny (pre++[x]) r' t'/\eg (eJ (g2 (rB 7) (kI 4) wO)) (nX 4 (g2 (eL (J.ac (kI 2) (J.ac (kI 2) (J.ac (kI 3) (J.ac (kI 3) J.aG)))) .list) (rB 7) bf) (rS 6)) (fun ρ=>.ok (.nx ρ)) [a,b,c,d,o4 p q r t,e,.shr (.str x),.shr (.int j),f]=.ok (.nx [a,b,c,d,o4 p q r' t',e,.shr (.str x),.shr (.int j),f]):=by
 by_cases h3:j<4
 ·obtain ⟨bo,e3⟩:=VM j h0 h3
  have lp:r.length<1000:=by have:=hp.sp.length_le;omega
  have lq:t.length<1000:=by have:=hp.sq.length_le;omega
  cases bo
  ·refine ⟨r,t++[x],hp.right x hx,?_⟩
   walk_at "zz"
   rw [decide_eq_true h3]
   walk_at "zz"
   simp only [o4,vd]
   refine (CB (j:=3) (ds:=t.map .str) (d:=.str x) rfl ?_ (by decide) rfl rfl (by rw [ao];exact lq)).trans rfl
   walk_at "zz"
   rw [e3]
   rfl
  ·refine ⟨r++[x],t,hp.left x hx,?_⟩
   walk_at "zz"
   rw [decide_eq_true h3]
   walk_at "zz"
   simp only [o4,vd]
   refine (CB (j:=2) (ds:=r.map .str) (d:=.str x) rfl ?_ (by decide) rfl rfl (by rw [ao];exact lp)).trans rfl
   walk_at "zz"
   rw [e3]
   rfl
 ·refine ⟨r,t,hp.skip x,?_⟩
  walk_at "zz"
  rw [decide_eq_false h3]
  walk_at "zz"
theorem VN (i:Nat) (ρ:az):Q4 i ρ=.ok (.nx ((clear2 ρ).set i (.ow2 [[],[],[],[]]))):=id rfl
theorem ny.sub {fs p q:List Str} (up:fs.Pairwise fun a b=>pX a b=true) (h:ny fs p q):Sub fs p/\Sub fs q:=⟨⟨up.sublist h.sp,fun x hx=>h.sp.subset hx⟩,⟨up.sublist h.sq,fun x hx=>h.sq.subset hx⟩⟩
theorem NH (p:List Str) (ρ:az):(bS (J.ac (rB 0) J.aG) (gK gL)) (.shr (.list (p.map .str))::ρ)=.ok (aC p):=by
 walk_at "zz"
 rw [fz]
theorem VO (p q r t:List Str):gQ (iQ 1 [Sl.no] kT (bS (J.ac (rB 0) J.aG) (gK gL))) [.list (p.map .str),.list (q.map .str),.list (r.map .str),.list (t.map .str)]=.ok [aC p,aC q,aC r,aC t] :=
 dO _ (fun ss:List Str=>nh (ss.map .str)) (fun ss=>aC ss) [p,q,r,t] fun ss hs=>fP rfl (NH ss _)
theorem K9 (ns:List Int) (k:Int) (hk:0<=k) (fs:List Str) (hf:∀ x∈fs,Cr x=true) (up:fs.Pairwise fun a b=>pX a b=true) (nd:fs.Nodup) (hl:fs.length<=6) (nm:Str) (hn:Cr nm=true) :
  ∃ e,iD [.list (ns.map .int),.int k,aC fs,.str nm]=.ok (dv e)/\sK fs e/\e.name=nm:=by
 have p0:=fF ns k 5 (by decide)
 have p1:=gf ns k 5 (by decide)
 have go:∀ ρ:az,ρ=[.shr (.list (ns.map .int)),.shr (.int k),.shr (aC fs),.shr (.str nm),.no,.no,.no,.no,.no]->(!decide (fs=[])&&decide (eT ns 97 2=0))=false->∃ e,iC ρ=.ok (.rt (dv e))/\sK fs e/\e.name=nm:=by
  rintro ρ rfl hc
  obtain ⟨ρ',h1,p,q,r,t,h2,h3,h4⟩:∃ ρ',(nu (DX (J.ac (rS 2) J.aG)) (li 2 (cw (bN 5) (cw (bN 6) mz))) (aQ (eZ 7 (ej 3 bi (J.ac (rS 0) (J.ac (g2 (g2 (rB 1) (kI 10) dI) (rB 5) dI) (J.ac (kI 8) J.aG))))) (aQ (eg (eJ (g2 (rB 7) (kI 3) wO)) (nX 4 (g2 (eL (J.ac (kI 0) (J.ac (kI 0) (J.ac (kI 1) J.aG))) .list) (rB 7) bf) (rS 6)) (fun ρ=>.ok (.nx ρ))) (aQ (eZ 7 (ej 3 bi (J.ac (rS 0) (J.ac (g2 (g2 (rB 1) (kI 20) dI) (rB 5) dI) (J.ac (kI 8) J.aG))))) (eg (eJ (g2 (rB 7) (kI 4) wO)) (nX 4 (g2 (eL (J.ac (kI 2) (J.ac (kI 2) (J.ac (kI 3) (J.ac (kI 3) J.aG)))) .list) (rB 7) bf) (rS 6)) (fun ρ=>.ok (.nx ρ))))))) [.shr (.list (ns.map .int)),.shr (.int k),.shr (aC fs),.shr (.str nm),o4 [] [] [] [],.no,.no,.no,.no]=.ok (.nx ρ')/\∃ p q r t,ny fs p q/\ny fs r t/\∃ z5 z6 z7,ρ'=[.shr (.list (ns.map .int)),.shr (.int k),.shr (aC fs),.shr (.str nm),o4 p q r t,z5,z6,z7,.no]:=by
   rw [pZ (ds:=(l7 0 fs).map cI)]
   ·have H:=nZ cI (fun (a:Unit) (_:Nat×Str)=>a) (fun bT _ ρ=>∃ pre,pre++bT.map (·.2)=fs/\∃ p q r t,ny pre p q/\ny pre r t/\∃ z5 z6 z7,ρ=[.shr (.list (ns.map .int)),.shr (.int k),.shr (aC fs),.shr (.str nm),o4 p q r t,z5,z6,z7,.no]) (kt:=li 2 (cw (bN 5) (cw (bN 6) mz))) (gb:=(aQ (eZ 7 (ej 3 bi (J.ac (rS 0) (J.ac (g2 (g2 (rB 1) (kI 10) dI) (rB 5) dI) (J.ac (kI 8) J.aG))))) (aQ (eg (eJ (g2 (rB 7) (kI 3) wO)) (nX 4 (g2 (eL (J.ac (kI 0) (J.ac (kI 0) (J.ac (kI 1) J.aG))) .list) (rB 7) bf) (rS 6)) (fun ρ=>.ok (.nx ρ))) (aQ (eZ 7 (ej 3 bi (J.ac (rS 0) (J.ac (g2 (g2 (rB 1) (kI 20) dI) (rB 5) dI) (J.ac (kI 8) J.aG))))) (eg (eJ (g2 (rB 7) (kI 4) wO)) (nX 4 (g2 (eL (J.ac (kI 2) (J.ac (kI 2) (J.ac (kI 3) (J.ac (kI 3) J.aG)))) .list) (rB 7) bf) (rS 6)) (fun ρ=>.ok (.nx ρ)))))))
    obtain ⟨ρ',h1,pre,h2,p,q,r,t,h3,h4,h5⟩:=H (by
     rintro ⟨i,x⟩ bT _ ρ ⟨pre,h2,p,q,r,t,h3,h4,z5,z6,z7,rfl⟩
     have hx:x∉pre:=by
      rw [<- h2,aB] at nd
      have:=(List.nodup_append.mp nd).2.2
      intro hx
      exact this x hx x ah rfl
     have hpl:pre.length<900:=by
      have:=congrArg nM h2
      rw [aN] at this
      omega
     obtain ⟨p',q',k1,k2⟩:=NF (a:=.shr (.list (ns.map .int))) (b:=.shr (.int k)) (c:=.shr (aC fs)) (d:=.shr (.str nm)) (e:=.shr (.int (i:Nat))) (f:=.no) (r:=r) (t:=t) (j:=eT ns (k+10+i) 8) h3 hx hpl (fF _ _ _ (by decide))
     obtain ⟨r',t',k3,k4⟩:=NG (a:=.shr (.list (ns.map .int))) (b:=.shr (.int k)) (c:=.shr (aC fs)) (d:=.shr (.str nm)) (e:=.shr (.int (i:Nat))) (f:=.no) (p:=p') (q:=q') (j:=eT ns (k+20+i) 8) h4 hx hpl (fF _ _ _ (by decide))
     refine ⟨[.shr (.list (ns.map .int)),.shr (.int k),.shr (aC fs),.shr (.str nm),o4 p q r t,.shr (.int (i:Nat)),.shr (.str x),z7,.no],[.shr (.list (ns.map .int)),.shr (.int k),.shr (aC fs),.shr (.str nm),o4 p' q' r' t',.shr (.int (i:Nat)),.shr (.str x),.shr (.int (eT ns (k+20+i) 8)),.no],rfl,?_,pre++[x],?_,p',q',r',t',k1,k3,_,_,_,rfl⟩
     ·rw [E7,MC]
      walk_at "yy"
      rw [eQ ns _ 8 (by omega) (by decide)]
      walk_at "yy"
      rw [k2]
      walk_at "yy"
      rw [eQ ns _ 8 (by omega) (by decide)]
      walk_at "yy"
      rw [k4]
     ·rw [<- h2];simp) (l7 0 fs) () [.shr (.list (ns.map .int)),.shr (.int k),.shr (aC fs),.shr (.str nm),o4 [] [] [] [],.no,.no,.no,.no] ⟨[],by rw [n_];rfl,[],[],[],[],⟨dg _,dg _,fun _ h=>nomatch h⟩,⟨dg _,dg _,fun _ h=>nomatch h⟩,_,_,_,rfl⟩
    refine ⟨ρ',h1,p,q,r,t,?_,?_,h5⟩
    ·simp only [dL,cA] at h2
     rw [<- h2];exact h3
    ·simp only [dL,cA] at h2
     rw [<- h2];exact h4
   ·walk_at "zz"
    rw [vc]
  obtain ⟨s1,s2⟩:=h2.sub up
  obtain ⟨s3,s4⟩:=h3.sub up
  obtain ⟨z5,z6,z7,rfl⟩:=h4
  refine ⟨⟨nm,p,q,r,t,eT ns k 5⟩,?_,⟨hn,s1,s2,s3,s4,h2.d,h3.d,p0,by show eT ns k 5<=9;omega⟩,rfl⟩
  unfold iC
  have hand:yu (eJ (g2 (rB 2) (eL J.aG .tuple) (qf true))) (eJ (g2 (ej 3 bi (J.ac (rS 0) (J.ac (kI 97) (J.ac (kI 2) J.aG)))) (kI 0) (qf false))) [.shr (.list (ns.map .int)),.shr (.int k),.shr (aC fs),.shr (.str nm),.no,.no,.no,.no,.no]=.ok false:=by
   walk_at "zz"
   rw [IM fs hf]
   walk_at "zz"
   by_cases h:fs=[]
   ·simp only [h,decide_true,kP,cond_false]
   ·simp only [h,decide_false,jG,cond_true,uw] at hc ⊢
    rw [eQ ns 97 2 (by decide) (by decide)]
    walk_at "zz"
    rw [jz]
    walk_at "zz"
    rw [hc]
  rw [E7,Vh,hand]
  simp only [xw,MA,VN,clear2,aB,dL,vF,vE,xw,uX,E7]
  rw [show Sl.ow2 [[],[],[],[]]=o4 [] [] [] [] from rfl,h1]
  walk_at "zz"
  rw [VO]
  walk_at "zz"
  rw [S1]
  walk_at "zz"
  rw [S2]
  walk_at "zz"
  rw [S3]
  walk_at "zz"
  rw [S4]
  walk_at "zz"
  rw [eQ ns k 5 hk (by decide)]
  walk_at "zz"
  rfl
 by_cases hc:(!decide (fs=[])&&decide (eT ns 97 2=0))=true
 ·have h0:0<fs.length:=by
   rcases fs with _|⟨x,r⟩
   ·simp at hc
   ·simp
  obtain ⟨e,h1,h2⟩:=Qw ns k hk fs hf h0 nm hn
  refine ⟨e,?_,h2⟩
  unfold iD
  refine cn ?_
  unfold iC bF
  walk_at "zz"
  rw [IM fs hf]
  walk_at "zz"
  simp only [aF] at hc
  rw [hc.1]
  walk_at "zz"
  rw [eQ ns 97 2 (by decide) (by decide)]
  walk_at "zz"
  rw [jz]
  walk_at "zz"
  rw [hc.2]
  walk_at "zz"
  rw [h1]
  walk_at "zz"
 ·obtain ⟨e,h1,h2⟩:=go _ rfl (Bool.eq_false_iff.mpr hc)
  exact ⟨e,by unfold iD;exact cn h1,h2⟩
theorem NI (ds:List D) (t:Nat) (h:t<=ds.length):Ac ds (some (t:Int)) none=ds.drop t:=by
 unfold Ac
 rw [HT.HF,HT.Dr,Nat.min_eq_left h,FC (by rw [xF];exact au _)]
theorem TK (ds:List D) (t:Nat) (h:t<=ds.length):Ac ds none (some (t:Int))=ds.take t:=by
 unfold Ac
 rw [HT.HF,HT.Dr,Nat.min_eq_left h,List.drop_zero,Nat.sub_zero]
theorem VP (ds:List D) (t:Nat) (h:t<=ds.length):HU (.list ds) (some (t:Int)) none=.ok (.list (ds.drop t)):=by
 rw [<- NI ds t h];rfl
theorem VQ (ds:List D) (t:Nat) (h:t<=ds.length):HU (.list ds) none (some (t:Int))=.ok (.list (ds.take t)):=by
 rw [<- TK ds t h];rfl
theorem TL {l:List (Str×D)} (nd:(l.map (·.1)).Nodup) {p:Str×D} (hp:p∈l):bf (.dict (lB l)) (.str p.1)=.ok p.2:=by
 have e:∀ kvs x,bf (.dict kvs) (.str x)=if gR kvs=true then (match l5 kvs (.str x) with
   |some d=>.ok d
   |none=>.no) else .no:=fun _ _=>rfl
 rw [e,if_pos (yX l)]
 have:l5 (lB l) (.str p.1)=some p.2:=by
  unfold l5 lB
  clear e
  induction l with
  |nil=>cases hp
  |cons q r ih =>
   rw [aB] at nd
   obtain ⟨n1,n2⟩:=List.nodup_cons.mp nd
   rw [aB,bP,v9]
   rcases List.mem_cons.mp hp with h|h
   ·subst h;simp
   ·have:q.1≠p.1:=fun z=>n1 (z ▸ aM h)
    rw [decide_eq_false this]
    exact ih n2 h
 rw [this]
structure eU (fs:List Str) (es:List da):Prop where
 rise:NC fs 6
 len:es.length<=6
 nd:(es.map (·.name)).Nodup
 ok:∀ e∈es,sK fs e
def dQ (fs:List Str) (es:List da):D:=.tuple [aC fs,.tuple (es.map dv)]
theorem VR (fs:List Str):∀ (l:List (Str×D)),(∀ p∈l,∃ e,p.2=dv e/\sK fs e/\e.name=p.1)->∃ es:List da,l.map (·.2)=es.map dv/\es.map (·.name)=l.map (·.1)/\∀ e∈es,sK fs e
 |[],_=>⟨[],rfl,rfl,fun _ h=>nomatch h⟩
 |p::r,h=>by
  obtain ⟨e,h1,h2,h3⟩:=h p ah
  obtain ⟨es,k1,k2,k3⟩:=VR fs r fun q hq=>h q (a9 _ hq)
  refine ⟨e::es,by rw [aB,aB,h1,k1],by rw [aB,aB,h3,k2],fun x hx=>?_⟩
  rcases List.mem_cons.mp hx with z|z
  ·rw [z];exact h2
  ·exact k3 x z
theorem Ka {α:Type} (l:List α) (t:Nat):(l.drop t++l.take t).Perm l:=by
 refine List.perm_append_comm.trans ?_
 rw [List.take_append_drop]
theorem ja {l:List Str} (h:l.Pairwise fun a b=>pX a b=true):l.Nodup:=h.imp fun hab z=>by
 rw [z,tw] at hab
 cases hab
theorem Qx (ns:List Int) (k:Int) (hk:0<=k) (m n:Int) (hm0:0<=m) (hm:m<=6) (hn0:0<=n) (hn:n<=6):∃ fs es,lV [.list (ns.map .int),.int k,.int m,.int n]=.ok (dQ fs es)/\eU fs es/\fs.length<=m.toNat:=by
 have hr:=GD ns k m hm0
 generalize hfs:Cv ns k m=fs at hr
 have hrl:=hr.len
 have hr:NC fs 6:=⟨hr.ok,hr.up,by have:=hr.len;omega⟩
 have nd:=ja hr.up
 have m0:=fF ns (k+60) (n+1) (by omega)
 have m1:=gf ns (k+60) (n+1) (by omega)
 suffices H:∃ es,lV [.list (ns.map .int),.int k,.int m,.int n]=.ok (dQ fs es)/\eU fs es from H.elim fun es h=>⟨fs,es,h.1,h.2,hrl⟩
 unfold lV
 suffices H:∃ es,lU (bF 10 [.list (ns.map .int),.int k,.int m,.int n])=.ok (.rt (dQ fs es))/\eU fs es from H.elim fun es h=>⟨es,cn h.1,h.2⟩
 have H:=nZ (fun (i:Nat)=>b_ i) (fun (a:Unit) (_:Nat)=>a) (fun bT _ ρ=>∃ l,l.length+bT.length<=6/\(l.map (·.1)).Nodup/\(∀ p∈l,∃ e,p.2=dv e/\sK fs e/\e.name=p.1)/\∃ z6 z7,ρ=[.shr (.list (ns.map .int)),.shr (.int k),.shr (.int m),.shr (.int n),.shr (aC fs),.own (.dict (lB l)),z6,z7,.no,.no]) (kt:=bN 6) (gb:=aQ (eZ 7 (ej 2 jS (J.ac (rS 0) (J.ac (g2 (g2 (rB 1) (kI 70) dI) (g2 (kI 40) (rB 6) si) dI) J.aG)))) (Ce 5 (rS 7) (ej 4 iD (J.ac (rS 0) (J.ac (g2 (g2 (rB 1) (kI 80) dI) (g2 (kI 40) (rB 6) si) dI) (J.ac (rS 4) (J.ac (rS 7) J.aG)))))))
 obtain ⟨ρ',h1,l,h2,h3,h4,z6,z7,h5⟩:=H (by
  rintro i bT _ ρ ⟨l,h2,h3,h4,z6,z7,rfl⟩
  simp only [aT] at h2
  have hw:=Ev ns (k+70+40*(i:Int))
  obtain ⟨e,e1,e2,e3⟩:=K9 ns (k+80+40*(i:Int)) (by omega) fs hr.ok hr.up nd hr.len (kG ns (k+70+40*(i:Int))) hw
  have pl:=Ew l (kG ns (k+70+40*(i:Int))) (dv e)
  refine ⟨[.shr (.list (ns.map .int)),.shr (.int k),.shr (.int m),.shr (.int n),.shr (aC fs),.own (.dict (lB l)),.shr (.int i),z7,.no,.no],[.shr (.list (ns.map .int)),.shr (.int k),.shr (.int m),.shr (.int n),.shr (aC fs),.own (.dict (lB (v8 l (kG ns (k+70+40*(i:Int))) (dv e)))),.shr (.int i),.shr (.str (kG ns (k+70+40*(i:Int)))),.no,.no],rfl,?_,v8 l (kG ns (k+70+40*(i:Int))) (dv e),by omega,?_,?_,_,_,rfl⟩
  ·walk_at "zz"
   rw [lA (by decide) (by decide)]
   walk_at "zz"
   rw [IK ns _ (by omega)]
   walk_at "zz"
   refine (R_ (l:=l) (x:=kG ns (k+70+40*(i:Int))) (d:=dv e) rfl ?_ rfl (by omega)).trans rfl
   walk_at "zz"
   rw [lA (by decide) (by decide)]
   walk_at "zz"
   exact e1
  ·rw [Bf];exact K6 h3
  ·exact NB (Q:=fun x d=>∃ e,d=dv e/\sK fs e/\e.name=x) h4 ⟨e,rfl,e2,e3⟩) (bA (eT ns (k+60) (n+1)).toNat) () [.shr (.list (ns.map .int)),.shr (.int k),.shr (.int m),.shr (.int n),.shr (aC fs),.own (.dict (lB [])),.no,.no,.no,.no] ⟨[],by rw [eS];simp only [bJ];omega,gC,fun _ h=>(nomatch h),_,_,rfl⟩
 simp only [bJ,xj] at h2
 have t0:=fF ns (k+61) ((l.length:Int)+1) (by omega)
 have t1:=gf ns (k+61) ((l.length:Int)+1) (by omega)
 obtain ⟨t,ht⟩:∃ t:Nat,eT ns (k+61) ((l.length:Int)+1)=t:=⟨_,(eh t0).symm⟩
 have tl:t<=l.length:=by omega
 have pm:=Ka l t
 obtain ⟨es,k1,k2,k3⟩:=VR fs (l.drop t++l.take t) fun p hp=>h4 p (pm.mem_iff.mp hp)
 have kl:es.length=l.length:=by
  have:=congrArg nM k1
  rw [ao,ao,pm.length_eq] at this
  exact this.symm
 refine ⟨es,?_,hr,by omega,?_,k3⟩
 ·unfold lU bF
  walk_at "yy"
  rw [NE ns k m hk hm0 (by omega),hfs]
  walk_at "yy"
  rw [pZ (ds:=(bA (eT ns (k+60) (n+1)).toNat).map fun (i:Nat)=>b_ i)]
  ·rw [show FA []=FA (lB []) from rfl,h1,h5]
   walk_at "yy"
   rw [Ex]
   walk_at "yy"
   rw [eQ ns _ _ (by omega) (by omega),ht]
   walk_at "yy"
   clear H h1
   rw [VP _ t (by simpa using tl)]
   walk_at "yy"
   rw [VQ _ t (by simpa using tl)]
   walk_at "yy"
   have e1:(List.drop t (AF aS (AF (fun x=>x.fst) l))++List.take t (AF aS (AF (fun x=>x.fst) l)))=(l.drop t++l.take t).map fun p=>aS p.1:=by
    rw [aU,List.map_drop,List.map_take,cx];rfl
   rw [e1,if_pos (by rw [<- aN,e1,ao,pm.length_eq];omega)]
   have pl:=pm.length_eq
   have px:∀ p∈l.drop t++l.take t,p∈l:=fun p hp=>pm.mem_iff.mp hp
   clear e1 pm k2
   generalize l.drop t++l.take t=L at pl px k1 ⊢
   walk_at "yy"
   rw [if_pos (by omega)]
   rw [dO _ (fun p:Str×D=>aS p.1) (fun p=>p.2) L fun p hp=>fP rfl (by
    walk_at "yy"
    exact TL h3 (px p hp))]
   walk_at "yy"
   rw [fz]
   walk_at "yy"
   rw [k1]
   rfl
  ·walk_at "yy"
   rw [eQ ns (k+60) (n+1) (by omega) (by omega)]
   walk_at "yy"
   have:=Cq (eT ns (k+60) (n+1)).toNat (by omega)
   rw [eh m0] at this
   exact this
 ·rw [k2]
  exact ((pm.map _).nodup_iff).mpr h3
theorem Bg {α:Type} (b:α->Bool):∀ xs:List α,mI (xs.map fun x=>cr (b x))=some (xs.map b)
 |[]=>rfl
 |x::r=>by
  show (mI (r.map fun x=>cr (b x))).map (b x::·)=_
  rw [Bg b r]
  rfl
theorem iX {α:Type} (k:List Bool->Bool) (b:α->Bool) (xs:List α):fZ k (.list (xs.map fun x=>cr (b x)))=.ok (.bool (k (xs.map b))):=by
 have e:∀ ds,fZ k (.list ds)=match mI ds with
  |some bs=>.ok (.bool (k bs))
  |none=>.no:=fun _=>rfl
 rw [e,Bg]
theorem EA {s s':Sl}{ρ:az}{gt:az->R Bool}{ge:az->R D}{d d' y:D} (h1:gt (.shr d::.shr d'::ρ)=.ok true) (h2:ge (.shr d::.shr d'::ρ)=.ok y):iQ 2 (s::s'::ρ) gt ge (.tuple [d,d'])=.ok (some y):=by
 have e:iQ 2 (s::s'::ρ) gt ge (.tuple [d,d'])=JV ((gt (.shr d::.shr d'::ρ)).bind fun b=>if b then (ge (.shr d::.shr d'::ρ)).bind fun y=>.ok (some y) else .ok none):=id rfl
 rw [e,h1,bind_ok,if_pos rfl,h2];rfl
theorem GF (x:Str):sD (.str x)=true:=id rfl
theorem NJ (i:Int):sD (.int i)=true:=id rfl
theorem xS {α:Type} (c:α->D) (h:∀ x,sD (c x)=true):∀ xs:List α,noDs (xs.map c)=true
 |[]=>rfl
 |x::r=>by
  show (sD (c x)&&noDs (r.map c))=true
  rw [h x,xS c h r];rfl
theorem GG (xs:List D):sD (.tuple xs)=noDs xs:=id rfl
theorem rN (xs:List Str):sD (aC xs)=true:=by
 rw [GG]
 exact xS _ (fun _=>rfl) xs
theorem IN (e:da):sD (dv e)=true:=by
 have:sD (dv e)=(true&&(sD (aC e.needs)&&(sD (aC e.bars)&&(sD (aC e.makes)&&(sD (aC e.ends)&&(true&&true)))))):=rfl
 rw [this,rN,rN,rN,rN];rfl
theorem S5 (es:List da):sD (.tuple (es.map dv))=true:=by
 rw [GG]
 exact xS _ IN es
theorem Qy (fs:List Str) (es:List da):sD (dQ fs es)=true:=by
 have:sD (dQ fs es)=(sD (aC fs)&&(sD (.tuple (es.map dv))&&true)):=rfl
 rw [this,rN,S5];rfl
theorem GH (x:Str):C7 "str" (.str x)=true:=id rfl
theorem wc (x:List D):C7 "tuple" (.tuple x)=true:=id rfl
theorem TM (x:Int):C7 "int" (.int x)=true:=id rfl
theorem TQ (x:Int):C7 "bool" (.int x)=false:=id rfl
theorem Qz:∀ c:_root_.Fin 123,97<=c.val->(!pX ⟨#[c.val]⟩ "a")=true/\(!pX "z" ⟨#[c.val]⟩)=true:=by decide +kernel
theorem Bh {x:Str} (h:Cr x=true):nY [.str x]=.ok (.bool true):=by
 have hw:=h
 unfold Cr at h
 simp only [aF,decide_eq_true_eq,bY] at h
 obtain ⟨⟨h1,h2⟩,h3⟩:=h
 have hl:x.length=x.cps.size:=rfl
 unfold nY
 refine cn ?_
 unfold rq bF
 walk_at "zz"
 rw [GF,GH]
 walk_at "zz"
 rw [if_pos (by omega)]
 walk_at "zz"
 rw [decide_eq_true (by omega)]
 walk_at "zz"
 rw [decide_eq_true (by omega)]
 walk_at "zz"
 unfold nr
 walk_at "zz"
 rw [if_pos (by rw [av];omega)]
 rw [dO _ (fun c:Nat=>aS ⟨#[c]⟩) (fun _=>cr true) x.cps.toList fun c hc=>fP rfl (by
  obtain ⟨a1,a2⟩:=h3 c hc
  obtain ⟨b1,b2⟩:=Qz ⟨c,by omega⟩ a1
  walk_at "zz"
  simp only at b1 b2
  rw [b1]
  walk_at "zz"
  rw [b2])]
 walk_at "zz"
 rw [iX _ (fun _=>true)]
 walk_at "zz"
 simp
theorem EB:∀ (xs ys:List Str),xu (xs.map .str) (ys.map .str)=(xs.zip ys).map fun p=>f9 [.str p.1,.str p.2]
 |[],_=>rfl
 |_::_,[]=>rfl
 |x::r,y::r'=>by
  show f9 [.str x,.str y]::xu (r.map .str) (r'.map .str)=_
  rw [EB r r']
  rfl
theorem NK:∀ {l:List Str},(l.Pairwise fun a b=>pX a b=true)->∀ p∈l.zip (l.drop 1),pX p.1 p.2=true
 |[],_,p,hp=>by cases hp
 |[_],_,p,hp=>by cases hp
 |a::b::r,h,p,hp=>by
  obtain ⟨h1,h2⟩:=List.pairwise_cons.mp h
  rcases List.mem_cons.mp hp with z|z
  ·rw [z];exact h1 b ah
  ·exact NK h2 p z
theorem QA (xs:List Str):HU (aC xs) (some 1) none=.ok (aC (xs.drop 1)):=by
 have e:HU (aC xs) (some 1) none=.ok (.tuple (Ac (xs.map .str) (some 1) none)):=rfl
 rw [e]
 cases xs with
 |nil=>rfl
 |cons x r =>
  rw [show (1:Int)=((1:Nat):Int) from rfl,NI _ 1 (by simp)]
  rfl
theorem wQ {xs:List Str} (hw:∀ x∈xs,Cr x=true) (up:xs.Pairwise fun a b=>pX a b=true) (hl:xs.length<=6):fw [aC xs]=.ok (.bool true):=by
 unfold fw
 refine cn ?_
 unfold gM bF
 walk_at "zz"
 rw [rN,wc]
 walk_at "zz"
 rw [if_pos (by omega)]
 rw [dO _ (fun x:Str=>aS x) (fun _=>cr true) xs fun x hx=>fP rfl (by
  walk_at "zz"
  rw [Bh (hw x hx)])]
 walk_at "zz"
 rw [iX _ (fun _=>true)]
 walk_at "zz"
 rw [show ((xs.map fun _=>true).all id)=true by simp]
 walk_at "zz"
 rw [QA]
 walk_at "zz"
 rw [EB]
 walk_at "zz"
 rw [if_pos (by simp;omega)]
 rw [dO _ (fun p:Str×Str=>f9 [.str p.1,.str p.2]) (fun _=>cr true) (xs.zip (xs.drop 1)) fun p hp=>EA rfl (by
  walk_at "zz"
  rw [NK up p hp])]
 walk_at "zz"
 rw [iX _ (fun _=>true)]
 walk_at "zz"
 simp
theorem l_ {fs xs:List Str} (hw:∀ x∈fs,Cr x=true) (h:Sub fs xs) (hl:xs.length<=6):j9 [aC fs,aC xs]=.ok (.bool true):=by
 unfold j9
 refine cn ?_
 unfold mK bF
 walk_at "zz"
 rw [wQ (fun x hx=>hw x (h.mem x hx)) h.up hl]
 walk_at "zz"
 rw [if_pos (by omega)]
 rw [dO _ (fun x:Str=>aS x) (fun _=>cr true) xs fun x hx=>fP rfl (by
  walk_at "zz"
  rw [lZ,decide_eq_true (h.mem x hx)]
  rfl)]
 walk_at "zz"
 rw [iX _ (fun _=>true)]
 walk_at "zz"
 simp
theorem Bj {xs ys:List Str} (h:∀ x∈xs,x∉ys) (hl:xs.length<=6):fQ [aC xs,aC ys]=.ok (.bool true):=by
 unfold fQ
 refine cn ?_
 unfold jt bF
 walk_at "zz"
 rw [if_pos (by omega)]
 rw [dO _ (fun x:Str=>aS x) (fun _=>cr false) xs fun x hx=>fP rfl (by
  walk_at "zz"
  rw [lZ,decide_eq_false (h x hx)]
  rfl)]
 walk_at "zz"
 rw [iX _ (fun _=>false)]
 walk_at "zz"
 simp
theorem tN {l i m:Int} (h0:l<=i) (h1:i<=m):jR [.int i,.int l,.int m]=.ok (.bool true):=by
 unfold jR
 refine cn ?_
 unfold oX bF
 walk_at "zz"
 rw [NJ,TM]
 walk_at "zz"
 rw [NJ,TQ]
 walk_at "zz"
 rw [decide_eq_true h0]
 walk_at "zz"
 rw [decide_eq_true h1]
theorem CC:∀ (xs fs:List Str),xs.Nodup->(∀ x∈xs,x∈fs)->xs.length<=fs.length
 |[],_,_,_=>cV _
 |x::r,fs,nd,h=>by
  obtain ⟨n1,n2⟩:=List.nodup_cons.mp nd
  have hx:=h x ah
  have:=CC r (fs.erase x) n2 fun y hy=>(HC fun (z:y=x)=>n1 (z ▸ hy)).mpr (h y (a9 _ hy))
  rw [Df hx] at this
  have:0<fs.length:=FD hx
  rw [aT]
  omega
theorem iY {fs xs:List Str} (h:Sub fs xs) (hl:fs.length<=6):xs.length<=6:=by
 exact cy (CC xs fs (ja h.up) h.mem) hl
theorem Xg (a b c d e f g:D):N1 (li 6 (cw (bN 2) (cw (bN 3) (cw (bN 4) (cw (bN 5) (cw (bN 6) (cw (bN 7) mz))))))) [Sl.shr a,Sl.shr (.tuple [b,c,d,e,f,g]),.no,.no,.no,.no,.no,.no] (.tuple [b,c,d,e,f,g])=.ok (.nx [Sl.shr a,Sl.shr (.tuple [b,c,d,e,f,g]),.shr b,.shr c,.shr d,.shr e,.shr f,.shr g]):=id rfl
theorem EC {fs:List Str} (hr:NC fs 6) {e:da} (g:sK fs e):mM [aC fs,dv e]=.ok (.bool true):=by
 have l1:=iY g.needs hr.len
 have l2:=iY g.bars hr.len
 have l3:=iY g.makes hr.len
 have l4:=iY g.ends hr.len
 unfold mM
 refine cn ?_
 unfold mL bF
 walk_at "zz"
 rw [IN]
 unfold dv
 walk_at "zz"
 rw [wc]
 walk_at "zz"
 rw [jz]
 walk_at "zz"
 rw [show decide (((6:Nat):Int)=6)=true from rfl]
 walk_at "zz"
 rw [Xg]
 ·walk_at "zz"
  rw [Bh g.name]
  walk_at "zz"
  rw [tN g.p0 g.p9]
  walk_at "zz"
  have pk:=dO (iQ 1 [Sl.no,Sl.shr (aC fs)] kT (ej 2 j9 (J.ac (rS 1) (J.ac (rS 0) J.aG)))) (fun x:List Str=>aC x) (fun _=>cr true) [e.needs,e.bars,e.makes,e.ends] fun x hx=>fP rfl (by
   walk_at "zz"
   simp only [aO,bg,or_false] at hx
   rcases hx with z|z|z|z<;>rw [z]
   ·rw [l_ hr.ok g.needs l1]
   ·rw [l_ hr.ok g.bars l2]
   ·rw [l_ hr.ok g.makes l3]
   ·rw [l_ hr.ok g.ends l4])
  simp only [aB,dL] at pk
  rw [pk]
  walk_at "zz"
  rw [show fZ (fun bs=>bs.all id) (.list [.bool true,.bool true,.bool true,.bool true])=.ok (.bool true) from rfl]
  walk_at "zz"
  rw [Bj g.nb l1]
  walk_at "zz"
  rw [Bj g.me l3]
  walk_at "zz"
theorem ED (l:List Str) (nd:l.Nodup):(dk [] l).length=l.length:=by
 have h1:=CC (dk [] l) l (ik l [] gC) fun x hx=>((iz l [] x).mp hx).elim (fun h=>nomatch h) id
 have h2:=CC l (dk [] l) nd fun x hx=>(iz l [] x).mpr (.inr hx)
 omega
theorem Kb (es:List da) (hl:es.length<=6) (nd:(es.map (·.name)).Nodup) (s:Sl) (ρ:az) (h:(s::ρ)[2]?=some (.shr (.tuple (es.map dv)))):mJ (oT 1 [] (jO (rB 2)) kT (g2 (rB 0) (kI 0) bf)) (s::ρ)=.ok (.int (es.length:Nat)):=by
 have hr:FF (s::ρ) 2=.ok (.tuple (es.map dv)):=by unfold FF;rw [h]
 unfold mJ oT
 rw [Tk,Tz,hr]
 walk_at "zz"
 rw [if_pos (by omega)]
 rw [dO _ dv (fun e=>aS e.name) es fun e he=>fP rfl (by
  walk_at "zz"
  rfl)]
 walk_at "zz"
 have:(es.map fun e=>aS e.name)=(es.map (·.name)).map .str:=by rw [cx];rfl
 rw [this,strsOf_map]
 simp only [xw,ED _ nd,ao]
theorem Xh (b c:D):N1 (li 2 (cw (bN 1) (cw (bN 2) mz))) [Sl.shr (.tuple [b,c]),.no,.no] (.tuple [b,c])=.ok (.nx [Sl.shr (.tuple [b,c]),.shr b,.shr c]):=id rfl
theorem Kc {fs:List Str}{es:List da} (g:eU fs es):rA [dQ fs es]=.ok (.bool true):=by
 have l1:=g.rise.len
 have l2:=g.len
 unfold rA
 refine cn ?_
 unfold rz bF
 walk_at "zz"
 rw [Qy]
 unfold dQ
 walk_at "zz"
 rw [wc]
 walk_at "zz"
 rw [jz]
 walk_at "zz"
 rw [show decide (((2:Nat):Int)=2)=true from rfl]
 walk_at "zz"
 rw [Xh]
 walk_at "zz"
 rw [wQ g.rise.ok g.rise.up l1]
 walk_at "zz"
 rw [decide_eq_false (by omega)]
 walk_at "zz"
 rw [S5,wc]
 walk_at "zz"
 rw [decide_eq_false (by omega)]
 walk_at "zz"
 rw [if_pos (by omega)]
 rw [dO _ dv (fun _=>cr true) es fun e he=>fP rfl (by
  walk_at "zz"
  rw [EC g.rise (g.ok e he)])]
 walk_at "zz"
 rw [iX _ (fun _=>true)]
 walk_at "zz"
 rw [show ((es.map fun _=>true).all id)=true by simp]
 walk_at "zz"
 rw [Kb es l2 g.nd _ _ rfl]
 walk_at "zz"
 rw [jz,decide_eq_true rfl]
 rfl
theorem GI {fs:List Str}{es:List da} (g:eU fs es):rH [dQ fs es]=.ok (dQ fs es):=by
 unfold rH
 refine cn ?_
 unfold rG bF
 walk_at "zz"
 rw [Kc g]
 walk_at "zz"
theorem Bk {i:Nat}{g:az->R D}{ρ:az}{ds:List D}{d:D} (hi:ρ[i]?=some (Sl.own (.list ds))) (hg:g ρ=.ok d) (hl:ds.length<1000):oR i g ρ=.ok (.nx (ρ.set i (.own (.list (ds++[d]))))):=by
 unfold oR
 simp only [hi,hg,bind_ok,if_pos hl]
theorem z3 {s s':Sl}{ρ:az}{gt:az->R Bool}{ge:az->R D}{d d' y:D}{b:Bool} (h1:gt (.shr d::.shr d'::ρ)=.ok b) (h2:b=true->ge (.shr d::.shr d'::ρ)=.ok y):iQ 2 (s::s'::ρ) gt ge (.tuple [d,d'])=.ok (if b then some y else none):=by
 have e:iQ 2 (s::s'::ρ) gt ge (.tuple [d,d'])=JV ((gt (.shr d::.shr d'::ρ)).bind fun b=>if b then (ge (.shr d::.shr d'::ρ)).bind fun y=>.ok (some y) else .ok none):=id rfl
 rw [e,h1,bind_ok]
 cases b with
 |true=>rw [if_pos rfl,h2 rfl];rfl
 |false=>rfl
theorem Bl:∀ (xs:List Str) (n:Nat),(l7 n xs).length=xs.length
 |[],_=>rfl
 |x::r,n=>by
  show (l7 (n+1) r).length+1=r.length+1
  rw [Bl r]
theorem QB (ns:List Int) (k:Int) (hk:0<=k) (fs:List Str) (hl:fs.length<=6) (m:Int):∃ ss:List Str,p7 [.list (ns.map .int),.int k,aC fs,.int m]=.ok (aC ss)/\ss.Sublist fs:=by
 refine ⟨((l7 0 fs).filter fun q=>decide (eT ns (k+(q.1:Int)) 12<m)).map (·.2),?_,?_⟩
 ·unfold p7
  refine cn ?_
  unfold o_ bF
  walk_at "zz"
  rw [vc]
  walk_at "zz"
  rw [if_pos (by rw [Bl];omega)]
  rw [eE _ cI (fun q=>aS q.2) (fun q=>decide (eT ns (k+(q.1:Int)) 12<m)) (l7 0 fs) fun q hq=>z3 (by
   walk_at "zz"
   rw [eQ ns _ 12 (by omega) (by decide)]
   walk_at "zz") fun _=>rfl]
  walk_at "zz"
  rw [fz]
  walk_at "zz"
  unfold aC
  rw [cx]
  rfl
 ·have:=(ul (l:=l7 0 fs) (p:=fun q=>decide (eT ns (k+(q.1:Int)) 12<m))).map (·.2)
  rw [n_] at this
  exact this
theorem GJ {fs xs:List Str} (up:fs.Pairwise fun a b=>pX a b=true) (h:xs.Sublist fs):Sub fs xs:=⟨up.sublist h,fun x hx=>h.subset hx⟩
def S6 (P:az->Prop) (r:R Fl):Prop:=∃ ρ',r=.ok (.nx ρ')/\P ρ'
theorem EE {α:Type}{kt:D->az->R az}{gb:az->R Fl} (c:α->D) (p:α->Bool) (out:α->D) (P:az->Prop):∀ (xs:List α) (ρ:az),(∀ x∈xs,∀ ρ,P ρ->∃ ρ1,kt (c x) ρ=.ok ρ1/\(p x=true->gb ρ1=.ok (.rt (out x)))/\(p x=false->S6 P (gb ρ1)))->P ρ ->
  (∀ x,xs.find? p=some x->j4 kt gb (xs.map c) ρ=.ok (.rt (out x)))/\(xs.find? p=none->S6 P (j4 kt gb (xs.map c) ρ))
 |[],ρ,_,q=>⟨fun x h=>(nomatch h),fun _=>⟨ρ,rfl,q⟩⟩
 |x::r,ρ,h,q=>by
  obtain ⟨ρ1,h1,h2,h3⟩:=h x ah ρ q
  rw [aB,bP]
  unfold j4
  rw [h1]
  cases hp:p x with
  |true =>
   refine ⟨fun y hy=>?_,fun hn=>nomatch hn⟩
   cases hy
   simp only [h2 hp]
  |false =>
   obtain ⟨ρ2,h4,h5⟩:=h3 hp
   simp only [h4]
   exact EE c p out P r ρ2 (fun y hy=>h y (a9 _ hy)) h5
structure S7 (fs m b:List Str):Prop where
 must:Sub fs m
 bars:Sub fs b
 mb:∀ x∈m,x∉b
abbrev sk (m b:List Str):D:=.tuple [aC m,aC b]
theorem IP (p:List Str) (x:Str):p.map aS++[aS x]=(p++[x]).map .str:=by simp
theorem QC (ns:List Int) (k:Int) (hk:0<=k) (fs:List Str) (up:fs.Pairwise fun a b=>pX a b=true) (hl:fs.length<=6):∃ m b,tM [.list (ns.map .int),.int k,aC fs]=.ok (sk m b)/\S7 fs m b:=by
 have nd:=ja up
 suffices H:∃ p q,lW (bF 8 [.list (ns.map .int),.int k,aC fs])=.ok (.rt (sk p q))/\ny fs p q by
  obtain ⟨p,q,h1,h2⟩:=H
  exact ⟨p,q,cn h1,GJ up h2.sp,GJ up h2.sq,h2.d⟩
 unfold lW bF
 walk_at "yy"
 rw [pZ (ds:=(l7 0 fs).map cI)]
 ·have H:=nZ cI (fun (a:Unit) (_:Nat×Str)=>a) (fun bT _ ρ=>∃ pre,pre++bT.map (·.2)=fs/\∃ p q,ny pre p q/\∃ z5 z6 z7,ρ=[.shr (.list (ns.map .int)),.shr (.int k),.shr (aC fs),.own (.list (p.map .str)),.own (.list (q.map .str)),z5,z6,z7]) (kt:=li 2 (cw (bN 5) (cw (bN 6) mz))) (gb:=aQ (eZ 7 (ej 3 bi (J.ac (rS 0) (J.ac (g2 (rB 1) (rB 5) dI) (J.ac (kI 8) J.aG))))) (eg (eJ (g2 (rB 7) (kI 2) wO)) (oR 3 (rS 6)) (eg (eJ (g2 (rB 7) (kI 2) (qf false))) (oR 4 (rS 6)) (fun ρ=>.ok (.nx ρ)))))
  obtain ⟨ρ',h1,pre,h2,p,q,h3,z5,z6,z7,h4⟩:=H (by
   rintro ⟨i,x⟩ bT _ ρ ⟨pre,h2,p,q,h3,z5,z6,z7,rfl⟩
   have hx:x∉pre:=by
    rw [<- h2,aB] at nd
    have:=(List.nodup_append.mp nd).2.2
    intro hx
    exact this x hx x ah rfl
   have hpl:pre.length<900:=by
    have:=congrArg nM h2
    rw [aN] at this
    omega
   have lp:=h3.sp.length_le
   have lq:=h3.sq.length_le
   refine ⟨[.shr (.list (ns.map .int)),.shr (.int k),.shr (aC fs),.own (.list (p.map .str)),.own (.list (q.map .str)),.shr (.int (i:Nat)),.shr (.str x),z7],?_⟩
   by_cases c1:eT ns (k+(i:Nat)) 8<2
   ·refine ⟨[.shr (.list (ns.map .int)),.shr (.int k),.shr (aC fs),.own (.list ((p++[x]).map .str)),.own (.list (q.map .str)),.shr (.int (i:Nat)),.shr (.str x),.shr (.int (eT ns (k+(i:Nat)) 8))],rfl,?_,pre++[x],by rw [<- h2];simp,_,_,h3.left x hx,_,_,_,rfl⟩
    walk_at "zz"
    rw [eQ ns _ 8 (by omega) (by decide)]
    walk_at "zz"
    rw [decide_eq_true c1]
    walk_at "zz"
    rw [<- IP]
    exact Bk (ds:=p.map .str) rfl rfl (by rw [ao];omega)
   ·by_cases c2:eT ns (k+(i:Nat)) 8=2
    ·refine ⟨[.shr (.list (ns.map .int)),.shr (.int k),.shr (aC fs),.own (.list (p.map .str)),.own (.list ((q++[x]).map .str)),.shr (.int (i:Nat)),.shr (.str x),.shr (.int (eT ns (k+(i:Nat)) 8))],rfl,?_,pre++[x],by rw [<- h2];simp,_,_,h3.right x hx,_,_,_,rfl⟩
     walk_at "zz"
     rw [eQ ns _ 8 (by omega) (by decide)]
     walk_at "zz"
     rw [decide_eq_false c1]
     walk_at "zz"
     rw [jz]
     walk_at "zz"
     rw [decide_eq_true c2]
     walk_at "zz"
     rw [<- IP]
     exact Bk (ds:=q.map .str) rfl rfl (by rw [ao];omega)
    ·refine ⟨[.shr (.list (ns.map .int)),.shr (.int k),.shr (aC fs),.own (.list (p.map .str)),.own (.list (q.map .str)),.shr (.int (i:Nat)),.shr (.str x),.shr (.int (eT ns (k+(i:Nat)) 8))],rfl,?_,pre++[x],by rw [<- h2];simp,_,_,h3.skip x,_,_,_,rfl⟩
     walk_at "zz"
     rw [eQ ns _ 8 (by omega) (by decide)]
     walk_at "zz"
     rw [decide_eq_false c1]
     walk_at "zz"
     rw [jz]
     walk_at "zz"
     rw [decide_eq_false c2]
     walk_at "zz") (l7 0 fs) () [.shr (.list (ns.map .int)),.shr (.int k),.shr (aC fs),.own (.list []),.own (.list []),.no,.no,.no] ⟨[],by rw [n_];rfl,[],[],⟨dg _,dg _,fun _ h=>nomatch h⟩,_,_,_,rfl⟩
  refine ⟨p,q,?_,?_⟩
  ·rw [h1,h4]
   walk_at "zz"
   rw [fz]
   walk_at "zz"
   rw [fz]
   walk_at "zz"
  ·simp only [dL,cA] at h2
   rw [<- h2];exact h3
 ·walk_at "zz"
  rw [vc]
theorem TU (j:Int) (h0:0<=j) (h1:j<2):∃ m:Int,bf (.list [.int 2,.int 4]) (.int j)=.ok (.int m):=by
 have:j=0\/j=1:=by omega
 rcases this with h|h<;>subst h
 ·exact ⟨2,rfl⟩
 ·exact ⟨4,rfl⟩
theorem NL (fs:List Str) (es:List da):bf (dQ fs es) (.int 0)=.ok (aC fs):=id rfl
theorem TV (fs:List Str) (es:List da):bf (dQ fs es) (.int 1)=.ok (.tuple (es.map dv)):=id rfl
theorem QD (ns:List Int) (m n:Int) (hm0:0<=m) (hm:m<=6) (hn0:0<=n) (hn:n<=6):∃ fs es ss wm wb,lX [.list (ns.map .int),.int m,.int n]=.ok (.tuple [dQ fs es,aC ss,sk wm wb])/\eU fs es/\Sub fs ss/\S7 fs wm wb/\fs.length<=m.toNat:=by
 obtain ⟨fs,es,hb,gb,fl⟩:=Qx ns 100 (by decide) m n hm0 hm hn0 hn
 obtain ⟨pt,hp⟩:=TU (eT ns 97 2) (fF _ _ _ (by decide)) (gf _ _ _ (by decide))
 obtain ⟨ss,hs,gs⟩:=QB ns 20 (by decide) fs gb.rise.len pt
 obtain ⟨wm,wb,hw,gw⟩:=QC ns 30 (by decide) fs gb.rise.up gb.rise.len
 refine ⟨fs,es,ss,wm,wb,?_,gb,GJ gb.rise.up gs,gw,fl⟩
 unfold lX
 refine cn ?_
 unfold ph bF
 walk_at "zz"
 rw [hb]
 walk_at "zz"
 rw [NL]
 walk_at "zz"
 rw [eQ ns 97 2 (by decide) (by decide)]
 walk_at "zz"
 rw [hp]
 walk_at "zz"
 rw [hs]
 walk_at "zz"
 rw [NL]
 walk_at "zz"
 rw [hw]
 walk_at "zz"
theorem NM {xs ys:List Str} (hl:xs.length<=60):fQ [aC xs,aC ys]=.ok (.bool (!xs.any fun x=>decide (x∈ys))):=by
 unfold fQ
 refine cn ?_
 unfold jt bF
 walk_at "zz"
 rw [if_pos (by omega)]
 rw [dO _ (fun x:Str=>aS x) (fun x=>cr (decide (x∈ys))) xs fun x hx=>fP rfl (by
  walk_at "zz"
  rw [lZ]
  rfl)]
 walk_at "zz"
 rw [iX _ (fun x=>decide (x∈ys))]
 walk_at "zz"
 rw [wH]
 rfl
theorem VS (neg:Bool) (e:da):L0 neg (dv e) .none=.ok (.bool neg):=by cases neg<;>rfl
theorem VT (neg:Bool) (xs:List Str):L0 neg (aC xs) .none=.ok (.bool neg):=by cases neg<;>rfl
theorem VU (neg:Bool):L0 neg .none .none=.ok (.bool (!neg)):=by cases neg<;>rfl
theorem TW (e:da):bf (dv e) (.int 0)=.ok (.str e.name):=id rfl
theorem Xi (e:da):bf (dv e) (.int 3)=.ok (aC e.makes):=id rfl
theorem Xj (e:da):bf (dv e) (.int 4)=.ok (aC e.ends):=id rfl
theorem VV (e:da):HU (dv e) (some 1) (some 3)=.ok (sk e.needs e.bars):=id rfl
theorem xI {xs:List D}{j:Nat}{v:D} (h:xs[j]?=some v):bf (.list xs) (.int (j:Nat))=.ok v:=by
 have e:bf (.list xs) (.int (j:Nat))=DT (.list xs) (.int (j:Nat)):=rfl
 rw [e]
 unfold DT
 simp only [r9 h]
def cX (st a b:List Str):Bool:=(a.all fun x=>decide (x∈st)) && !b.any fun x=>decide (x∈st)
theorem Xk (m b:List Str):bf (sk m b) (.int 0)=.ok (aC m):=id rfl
theorem Xl (m b:List Str):bf (sk m b) (.int 1)=.ok (aC b):=id rfl
theorem QE {st a b:List Str} (ha:a.length<=60) (hb:b.length<=60):pj [aC st,sk a b]=.ok (.bool (cX st a b)):=by
 unfold pj
 refine cn ?_
 unfold pi bF
 walk_at "zz"
 rw [Xk]
 walk_at "zz"
 rw [if_pos (by omega)]
 rw [dO _ (fun x:Str=>aS x) (fun x=>cr (decide (x∈st))) a fun x hx=>fP rfl (by
  walk_at "zz"
  rw [lZ]
  rfl)]
 walk_at "zz"
 rw [iX _ (fun x=>decide (x∈st))]
 walk_at "zz"
 rw [Xl]
 walk_at "zz"
 rw [if_pos (by omega)]
 rw [dO _ (fun x:Str=>aS x) (fun x=>cr (decide (x∈st))) b fun x hx=>fP rfl (by
  walk_at "zz"
  rw [lZ]
  rfl)]
 walk_at "zz"
 rw [iX _ (fun x=>decide (x∈st))]
 walk_at "zz"
 unfold cX
 rw [qk,wH]
 have e:(id∘fun x=>decide (x∈st))=fun x=>decide (x∈st):=rfl
 rw [e]
 cases (a.all fun x=>decide (x∈st))<;>rfl
theorem CD {n:Nat}{g:az->R Fl}{ds:List D}{ρ:az} (h:g (bF n ds)=.ok (.nx ρ)):eu n g ds=.ok .none:=by unfold eu;rw [h]
theorem VW (a x y:D):N1 (li 2 (cw (bN 2) (cw (bN 3) mz))) [Sl.shr a,.shr (.tuple [x,y]),.no,.no] (.tuple [x,y])=.ok (.nx [.shr a,.shr (.tuple [x,y]),.shr x,.shr y]):=id rfl
theorem GK {st a b:List Str} (ha:a.length<=60) (hb:b.length<=60):rF [aC st,sk a b]=.ok (.bool (cX st a b)):=by
 unfold rF
 refine cn ?_
 unfold rE bF sk
 walk_at "zz"
 rw [VW]
 walk_at "zz"
 rw [if_pos (by omega)]
 rw [dO _ (fun x:Str=>aS x) (fun x=>cr (decide (x∈st))) a fun x hx=>fP rfl (by
  walk_at "zz"
  rw [lZ]
  rfl)]
 walk_at "zz"
 rw [iX _ (fun x=>decide (x∈st))]
 walk_at "zz"
 rw [NM (by omega)]
 unfold cX
 rw [qk]
 have e:(id∘fun x=>decide (x∈st))=fun x=>decide (x∈st):=rfl
 rw [e]
 cases (a.all fun x=>decide (x∈st))<;>rfl
theorem Kd {fs ss:List Str}{es:List da} (g:eU fs es) (h:Sub fs ss):ka [dQ fs es,aC ss]=.ok .none:=by
 unfold ka
 refine CD (ρ:=[.shr (dQ fs es),.shr (aC ss)]) ?_
 unfold k9 bF
 walk_at "zz"
 rw [NL]
 walk_at "zz"
 rw [l_ g.rise.ok h (iY h g.rise.len)]
 walk_at "zz"
theorem EF {fs ss:List Str}{es:List da} (g:eU fs es) (h:Sub fs ss):iR [dQ fs es,aC ss]=.ok .none:=by
 unfold iR
 refine CD (ρ:=[.shr (dQ fs es),.shr (aC ss)]) ?_
 unfold kc bF
 walk_at "zz"
 rw [GI g]
 walk_at "zz"
 rw [Kd g h]
 walk_at "zz"
theorem NN (xs:List D):k8 (.tuple xs)=.ok (.list xs):=id rfl
def ve (es:List da) (nm:Str):Option da:=es.find? fun e=>decide (e.name=nm)
def VX:Option da->D
 |none=>.none
 |some e=>dv e
theorem Bm {fs:List Str}{es:List da} (g:eU fs es) {nm:Str} (hn:Cr nm=true):gT [dQ fs es,.str nm]=.ok (VX (ve es nm)):=by
 unfold gT
 refine cn ?_
 unfold iW bF
 walk_at "zz"
 rw [GF,GH]
 walk_at "zz"
 rw [pZ (ds:=es.map dv)]
 ·obtain ⟨h1,h2⟩:=EE dv (fun e=>decide (e.name=nm)) dv (fun ρ=>∃ z,ρ=[Sl.shr (dQ fs es),.shr (.str nm),z]) (kt:=bN 2) (gb:=eg (eJ (g2 (g2 (rB 2) (kI 0) bf) (rB 1) (qf false))) (cL (rS 2)) (fun ρ=>.ok (.nx ρ))) es [Sl.shr (dQ fs es),.shr (.str nm),.no] (by
   rintro e he ρ ⟨z,rfl⟩
   refine ⟨[.shr (dQ fs es),.shr (.str nm),.shr (dv e)],rfl,fun hp=>?_,fun hp=>⟨[.shr (dQ fs es),.shr (.str nm),.shr (dv e)],?_,_,rfl⟩⟩
   ·walk_at "zz"
    rw [TW]
    walk_at "zz"
    rw [CA false (g.ok e he).name hn]
    walk_at "zz"
    rw [hp]
    walk_at "zz"
   ·walk_at "zz"
    rw [TW]
    walk_at "zz"
    rw [CA false (g.ok e he).name hn]
    walk_at "zz"
    rw [hp]
    walk_at "zz") ⟨_,rfl⟩
  cases hf:es.find? (fun e=>decide (e.name=nm)) with
  |some e =>
   rw [h1 e hf]
   walk_at "zz"
   unfold ve
   rw [hf]
   rfl
  |none =>
   obtain ⟨ρ',e1,z,rfl⟩:=h2 hf
   rw [e1]
   walk_at "zz"
   unfold ve
   rw [hf]
   rfl
 ·walk_at "zz"
  rw [TV]
  walk_at "zz"
theorem tO:∀ {es:List da},(es.map (·.name)).Nodup->∀ {e:da},e∈es->ve es e.name=some e
 |x::r,nd,e,he=>by
  obtain ⟨n1,n2⟩:=List.nodup_cons.mp nd
  unfold ve
  rw [bP]
  rcases List.mem_cons.mp he with h|h
  ·subst h;simp
  ·have:x.name≠e.name:=fun z=>n1 (by show x.name∈_;rw [z];exact aM h)
   rw [decide_eq_false this]
   exact tO n2 h
structure IQ (e:da):Prop where
 needs:e.needs.length<=6
 bars:e.bars.length<=6
 makes:e.makes.length<=6
 ends:e.ends.length<=6
theorem vf {fs:List Str}{es:List da} (g:eU fs es) {e:da} (he:e∈es):IQ e :=
 ⟨iY (g.ok e he).needs g.rise.len,iY (g.ok e he).bars g.rise.len,iY (g.ok e he).makes g.rise.len,iY (g.ok e he).ends g.rise.len⟩
theorem Xm (e:da):bf (dv e) (.int 1)=.ok (aC e.needs):=id rfl
theorem Xn (e:da):bf (dv e) (.int 2)=.ok (aC e.bars):=id rfl
def IR (e:da) (st:List Str):Option (List Str):=if cX st e.needs e.bars then some (Di ((st.filter fun x=>!decide (x∈e.ends))++e.makes)) else none
def QF:Option (List Str)->D
 |none=>.none
 |some s=>aC s
theorem QG {e:da} (he:IQ e) {st:List Str} (hs:st.length<=30):lY [dv e,aC st]=.ok (QF (IR e st)):=by
 have:=he.needs
 have:=he.bars
 have:=he.makes
 unfold lY
 refine cn ?_
 unfold pp bF
 walk_at "zz"
 rw [VV]
 walk_at "zz"
 rw [QE (by omega) (by omega)]
 walk_at "zz"
 unfold IR
 cases hg:cX st e.needs e.bars with
 |false =>
  walk_at "zz"
  rfl
 |true =>
  walk_at "zz"
  rw [if_pos (by omega)]
  rw [eE _ (fun x:Str=>aS x) (fun x=>aS x) (fun x=>!decide (x∈e.ends)) st fun x hx=>oU (by
   walk_at "zz"
   rw [Xj]
   walk_at "zz"
   rw [lZ]
   rfl) fun _=>rfl]
  have hf:(st.filter fun x=>!decide (x∈e.ends)).length<=st.length:=i6 _ _
  walk_at "zz"
  rw [wa,IL]
  walk_at "zz"
  rw [Xi]
  walk_at "zz"
  rw [NN]
  walk_at "zz"
  rw [if_pos (by omega)]
  walk_at "zz"
  rw [<- aU,y_ _ (by rw [aN];omega)]
  walk_at "zz"
  rw [z0 _ (by have:=fO ((st.filter fun x=>!decide (x∈e.ends))++e.makes) [];simp only [bJ,aN] at this;omega)]
  walk_at "zz"
  rw [fz]
  rfl
theorem NO:∀ {a b:List Str},(a.Pairwise fun x y=>pX x y=true)->(b.Pairwise fun x y=>pX x y=true)->(∀ x,x∈a↔x∈b)->a=b:=by
 intro a b ha hb h
 have na:=ja ha
 have nb:=ja hb
 have p:a.Perm b:=(mH na nb).mpr h
 exact p.eq_of_pairwise (fun x y _ _ h1 h2=>by
  have:=rf h1 h2
  rw [tw] at this
  cases this) ha hb
def b9 (e:da) (st:List Str):List Str:=Di ((st.filter fun x=>!decide (x∈e.ends))++e.makes)
theorem GL {e:da}{st:List Str}{x:Str}:x∈b9 e st↔(x∈st/\x∉e.ends)\/x∈e.makes:=by
 unfold b9
 rw [mV]
 simp [O_]
theorem Ke (e:da) (st:List Str):IR e st=if cX st e.needs e.bars then some (b9 e st) else none:=rfl
theorem Kf (s:List Str):QF (some s)=aC s:=rfl
theorem Kg:QF none=.none:=rfl
theorem VY (ga gb:az->R (List Str)) (s:Sl) (ρ:az) {xs ys:List Str} (h1:ga (s::ρ)=.ok xs) (h2:gb (s::ρ)=.ok ys) (hl:xs.length+ys.length<=15):Nh ga gb (s::ρ)=.ok (dk xs ys):=by
 unfold Nh J.Tn
 rw [h1,bind_ok,h2,bind_ok,if_pos hl]
theorem Bo (ss:List Str) (h:ss.length<60):tJ (aC ss)=.ok (dk [] ss):=by
 have e:∀ ds,tJ (.tuple ds)=match f_ ds with
  |some ss=>if ss.length<60 then .ok (dk [] ss) else .no
  |none=>.no:=fun _=>rfl
 rw [e,strsOf_map]
 simp only [if_pos h]
theorem TX (xs ys:List Str):jo (dk (dk [] xs) (dk [] ys))=Di (xs++ys):=by
 refine NO (vX (qx _) ((gJ _).nodup_iff.mpr (ik _ _ (ik _ [] gC)))) (GE _) fun x=>?_
 rw [(gJ _).mem_iff,iz,iz,iz,mV,qm]
 simp
theorem Kh {xs ys:List Str} (h:xs.length+ys.length<=12):v5 [aC xs,aC ys]=.ok (aC (Di (xs++ys))):=by
 have l1:=fO xs []
 have l2:=fO ys []
 simp only [bJ] at l1 l2
 have l3:=fO (dk [] ys) (dk [] xs)
 unfold v5
 refine cn ?_
 unfold v4 bF
 walk_at "zz"
 rw [wa,VY _ _ _ _ (Bo xs (by omega)) (Bo ys (by omega)) (by omega)]
 walk_at "zz"
 rw [z0 _ (by omega),TX]
 walk_at "zz"
 rw [fz]
 walk_at "zz"
theorem GM {xs ys:List Str} (h:xs.length<=60):ro [aC xs,aC ys]=.ok (aC (xs.filter fun x=>!decide (x∈ys))):=by
 unfold ro
 refine cn ?_
 unfold rn bF
 walk_at "zz"
 rw [if_pos (by omega)]
 rw [eE _ (fun x:Str=>aS x) (fun x=>aS x) (fun x=>!decide (x∈ys)) xs fun x hx=>oU (by
  walk_at "zz"
  rw [lZ]
  rfl) fun _=>rfl]
 walk_at "zz"
 rw [fz]
 walk_at "zz"
theorem VZ {i j:Nat}{gs:az->R (List D)}{s:Sl}{ρ:az}{d e:D} (h:gs (s::ρ)=.ok [d,e]):Ni i j gs (s::ρ)=.ok (.nx (((s::ρ).set i (.shr d)).set j (.shr e))):=by
 unfold Ni
 rw [h]
 rfl
theorem Bp {e:da} (he:IQ e) {st:List Str} (hs:st.length<=6):eG [dv e,aC st]=.ok (aC (b9 e st)):=by
 have:=he.makes
 have hf:(st.filter fun x=>!decide (x∈e.ends)).length<=st.length:=i6 _ _
 unfold eG
 refine cn ?_
 unfold ju bF
 walk_at "zz"
 rw [VZ (d:=aC e.makes) (e:=aC e.ends) rfl]
 walk_at "zz"
 rw [GM (by omega)]
 walk_at "zz"
 rw [Kh (by omega)]
 rfl
theorem we {e:da} (he:IQ e) {st:List Str}:gD [dv e,aC st]=.ok (.bool (cX st e.needs e.bars)):=by
 have:=he.needs
 have:=he.bars
 unfold gD
 refine cn ?_
 unfold mO bF
 walk_at "zz"
 rw [Xm]
 walk_at "zz"
 rw [Xn]
 walk_at "zz"
 rw [GK (by omega) (by omega)]
 walk_at "zz"
def o6:List da->List Str->Option (List Str)
 |[],st=>some st
 |e::r,st=>if cX st e.needs e.bars then o6 r (b9 e st) else none
def jA:List da->List Str->List (List Str)
 |[],st=>[st]
 |e::r,st=>if cX st e.needs e.bars then st::jA r (b9 e st) else [st]
theorem tP {fs st:List Str}{e:da} (hf:fs.Pairwise fun a b=>pX a b=true) (g:sK fs e) (h:Sub fs st):Sub fs (b9 e st):=by
 refine ⟨GE _,fun x hx=>?_⟩
 rcases GL.mp hx with z|z
 ·exact h.mem x z.1
 ·exact g.makes.mem x z
theorem Ki:∀ (rs:List da) (st:List Str),(jA rs st).length<=rs.length+1
 |[],_=>au _
 |e::r,st=>by
  unfold jA
  split
  ·have:=Ki r (b9 e st)
   simp only [aT]
   omega
  ·simp
theorem Br:∀ (rs:List da) (st:List Str),decide (((rs.length:Nat):Int)<((jA rs st).length:Nat))=(o6 rs st).isSome
 |[],_=>rfl
 |e::r,st=>by
  unfold jA o6
  cases cX st e.needs e.bars with
  |true =>
   rw [if_pos rfl,if_pos rfl,<- Br r]
   simp only [aT]
   congr 1
   simp only [eq_iff_iff]
   omega
  |false =>
   rw [if_neg bh,if_neg bh]
   simp only [aT,bJ]
   exact decide_eq_false (by omega)
theorem zb:∀ (rs:List da) (st s:List Str),o6 rs st=some s->∃ pre,jA rs st=pre++[s]
 |[],st,s,h=>by cases h;exact ⟨[],rfl⟩
 |e::r,st,s,h=>by
  unfold o6 at h
  unfold jA
  cases hg:cX st e.needs e.bars with
  |true =>
   rw [hg,if_pos rfl] at h
   rw [if_pos rfl]
   obtain ⟨pre,hp⟩:=zb r _ _ h
   exact ⟨st::pre,by rw [hp];rfl⟩
  |false=>rw [hg] at h;cases h
theorem IT (xs:List D) (x:D):bf (.list (xs++[x])) (.int (-1))=.ok x:=by
 have e:bf (.list (xs++[x])) (.int (-1))=DT (.list (xs++[x])) (.int (-1)):=rfl
 rw [e]
 unfold DT
 have:Dg (xs++[x]) (-1)=some x:=by
  unfold Dg R8
  rw [if_neg (by decide),if_pos (by simp only [aN,aT,bJ];omega)]
  have hj:(-1+((xs++[x]).length:Int)).toNat=xs.length:=by simp only [aN,aT,bJ];omega
  simp only [ou,hj]
  rw [bc (au _)]
  simp
 simp only [this]
def TY (fs:List Str):List (List Str):=fs.foldl (fun acc f=>acc++acc.map (·++[f])) [[]]
theorem NQ {i:Nat}{kt:D->az->R az}{gb:az->R Fl}{ρ:az}{d:D} (h:ρ[i]?=some (Sl.shr d)):sG i kt gb ρ=nu (jO fun ρ=>FE ρ i) kt gb ρ:=by
 unfold sG
 rw [h]
theorem CF:∀ (fs:List Str) (acc:List (List Str)) (t u:List Str),t∈acc->u.Sublist fs->t++u∈fs.foldl (fun acc f=>acc++acc.map (·++[f])) acc
 |[],acc,t,u,ht,hu=>by
  cases hu
  rw [cA]
  exact ht
 |f::r,acc,t,u,ht,hu=>by
  rw [cO]
  cases hu with
  |cons _ h=>exact CF r _ t u (bD _ ht) h
  |cons_cons _ h =>
   rename_i u'
   have:=CF r (acc++acc.map (·++[f])) (t++[f]) u' (ap _ (aM ht)) h
   rwa [nO] at this
theorem NR {fs xs:List Str} (hf:fs.Pairwise fun a b=>pX a b=true) (h:Sub fs xs):xs.Sublist fs:=by
 have e:xs=fs.filter fun x=>decide (x∈xs):=NO h.up (hf.sublist ul) fun x=>by
  rw [O_,decide_eq_true_eq]
  exact ⟨fun z=>⟨h.mem x z,z⟩,fun z=>z.2⟩
 rw [e]
 exact ul
theorem NS {fs xs:List Str} (hf:fs.Pairwise fun a b=>pX a b=true) (h:Sub fs xs):xs∈TY fs:=CF fs [[]] [] xs (List.mem_singleton.mpr rfl) (NR hf h)
structure V_ (es rs:List da):Prop where
 mem:∀ e∈rs,e∈es
 len:rs.length<=64
abbrev nz (rs:List da):D:=.list (rs.map fun e=>aS e.name)
theorem NT (rs:List da):noDs (rs.map fun e=>aS e.name)=true:=xS _ (fun _=>rfl) rs
theorem NU {fs:List Str}{es rs:List da} (g:eU fs es) (h:V_ es rs):v7 [dQ fs es,nz rs]=.ok (.bool true):=by
 have hl:=h.len
 unfold v7
 refine cn ?_
 unfold v6 bF
 walk_at "zz"
 rw [show sD (nz rs)=true from NT rs,show C7 "list" (nz rs)=true from rfl]
 walk_at "zz"
 rw [decide_eq_false (by omega)]
 walk_at "zz"
 rw [if_pos (by omega)]
 rw [dO _ (fun e:da=>aS e.name) (fun _=>cr true) rs fun e he=>fP rfl (by
  walk_at "zz"
  rw [Bm g (g.ok e (h.mem e he)).name,tO g.nd (h.mem e he)]
  simp only [VX]
  walk_at "zz"
  rw [VS])]
 walk_at "zz"
 rw [iX _ (fun _=>true)]
 walk_at "zz"
 simp
theorem GN {fs:List Str}{es rs:List da} (g:eU fs es) (h:V_ es rs):lw [dQ fs es,nz rs]=.ok (.list (rs.map dv)):=by
 have hl:=h.len
 unfold lw
 refine cn ?_
 unfold lv bF
 walk_at "zz"
 rw [NU g h]
 walk_at "zz"
 rw [if_pos (by omega)]
 rw [dO _ (fun e:da=>aS e.name) dv rs fun e he=>fP rfl (by
  walk_at "zz"
  rw [Bm g (g.ok e (h.mem e he)).name,tO g.nd (h.mem e he)]
  rfl)]
 walk_at "zz"
theorem xT:Q1 (.int 1)=.ok (.int (-1)):=rfl
theorem EG (g:az->R D) (s:Sl) (ρ:az):uW g (s::ρ)=(g (s::ρ)).bind Q1:=id rfl
theorem lC {kt:D->az->R az}{gb:az->R Fl}{d:D}{r:List D}{ρ ρ1 ρ2:az} (h1:kt d ρ=.ok ρ1) (h2:gb ρ1=.ok (.nx ρ2)):j4 kt gb (d::r) ρ=j4 kt gb r ρ2:=by
 rw [j4,h1]
 simp only [h2]
theorem QH {kt:D->az->R az}{gb:az->R Fl}{d x:D}{r:List D}{ρ ρ1:az} (h1:kt d ρ=.ok ρ1) (h2:gb ρ1=.ok (.rt x)):j4 kt gb (d::r) ρ=.ok (.rt x):=by
 rw [j4,h1]
 simp only [h2]
theorem wR {fs:List Str}{es:List da} (g:eU fs es) (A B:D):∀ (rs:List da) (pre:List (List Str)) (st:List Str) (z:Sl),(∀ e∈rs,e∈es)->Sub fs st->pre.length+rs.length<=100 ->
  (∃ z',j4 (bN 3) (aQ (eg (jj (eJ (ej 2 gD (J.ac (rS 3) (J.ac (g2 (rB 2) (uW (kI 1)) bf) J.aG))))) (cL (rS 2)) (fun ρ=>.ok (.nx ρ))) (oR 2 (ej 2 eG (J.ac (rS 3) (J.ac (g2 (rB 2) (uW (kI 1)) bf) J.aG))))) (rs.map dv) [.shr A,.shr B,.own (.list ((pre++[st]).map aC)),z]=.ok (.nx [.shr A,.shr B,.own (.list ((pre++jA rs st).map aC)),z'])) \/
  j4 (bN 3) (aQ (eg (jj (eJ (ej 2 gD (J.ac (rS 3) (J.ac (g2 (rB 2) (uW (kI 1)) bf) J.aG))))) (cL (rS 2)) (fun ρ=>.ok (.nx ρ))) (oR 2 (ej 2 eG (J.ac (rS 3) (J.ac (g2 (rB 2) (uW (kI 1)) bf) J.aG))))) (rs.map dv) [.shr A,.shr B,.own (.list ((pre++[st]).map aC)),z]=.ok (.rt (.list ((pre++jA rs st).map aC)))
 |[],pre,st,z,_,_,_=>.inl ⟨z,rfl⟩
 |e::r,pre,st,z,hm,hs,hl=>by
  have he:=hm e ah
  have sh:=vf g he
  simp only [aT] at hl
  have hix:bf (.list ((pre++[st]).map aC)) (.int (-1))=.ok (aC st):=by
   rw [aU]
   exact IT _ _
  unfold jA
  cases hg:cX st e.needs e.bars with
  |true =>
   rw [if_pos rfl]
   have e2:pre++st::jA r (b9 e st)=(pre++[st])++jA r (b9 e st):=by simp
   rw [e2,aB]
   have hb:=wR g A B r (pre++[st]) (b9 e st) (.shr (dv e)) (fun x hx=>hm x (a9 _ hx)) (tP g.rise.up (g.ok e he) hs) (by rw [aN];simp only [aT,bJ];omega)
   have hbody:(aQ (eg (jj (eJ (ej 2 gD (J.ac (rS 3) (J.ac (g2 (rB 2) (uW (kI 1)) bf) J.aG))))) (cL (rS 2)) (fun ρ=>.ok (.nx ρ))) (oR 2 (ej 2 eG (J.ac (rS 3) (J.ac (g2 (rB 2) (uW (kI 1)) bf) J.aG))))) [.shr A,.shr B,.own (.list ((pre++[st]).map aC)),.shr (dv e)]=.ok (.nx [.shr A,.shr B,.own (.list ((pre++[st]++[b9 e st]).map aC)),.shr (dv e)]):=by
    walk_at "zz"
    rw [EG]
    walk_at "zz"
    rw [xT]
    walk_at "zz"
    rw [hix]
    walk_at "zz"
    rw [we sh,hg]
    walk_at "zz"
    rw [aU (l₁:=pre++[st])]
    refine Bk (ds:=(pre++[st]).map aC) (d:=aC (b9 e st)) rfl ?_ (by rw [ao,aN];simp only [aT,bJ];omega)
    walk_at "zz"
    rw [EG]
    walk_at "zz"
    rw [xT]
    walk_at "zz"
    rw [hix]
    walk_at "zz"
    rw [Bp sh (iY hs g.rise.len)]
   rw [lC (ρ1:=[.shr A,.shr B,.own (.list ((pre++[st]).map aC)),.shr (dv e)]) rfl hbody]
   exact hb
  |false =>
   rw [if_neg bh,aB]
   refine .inr (QH (ρ1:=[.shr A,.shr B,.own (.list ((pre++[st]).map aC)),.shr (dv e)]) rfl ?_)
   walk_at "zz"
   rw [EG]
   walk_at "zz"
   rw [xT]
   walk_at "zz"
   rw [hix]
   walk_at "zz"
   rw [we sh,hg]
   walk_at "zz"
theorem GO {fs st:List Str}{es rs:List da} (g:eU fs es) (h:V_ es rs) (hs:Sub fs st):iB [.list (rs.map dv),aC st]=.ok (.list ((jA rs st).map aC)):=by
 have hl:=h.len
 unfold iB
 refine cn ?_
 unfold iA bF
 walk_at "zz"
 rw [NQ (d:=.list (rs.map dv)) rfl,pZ (ds:=rs.map dv)]
 ·rcases wR g (.list (rs.map dv)) (aC st) rs [] st .no h.mem hs (by simp only [bJ];omega) with ⟨z,e⟩|e
  ·rw [fX,fX] at e
   simp only [aB,dL] at e
   rw [e]
   walk_at "zz"
  ·rw [fX,fX] at e
   simp only [aB,dL] at e
   rw [e]
   walk_at "zz"
 ·walk_at "zz"
def de (l:List (List Str×D)):List (D×D):=l.map fun p=>(aC p.1,p.2)
abbrev l8 (l:List (List Str×D)):List (List Str):=l.map (·.1)
theorem GP (x:List Str):aC x=tD (x.map mr):=by
 unfold aC tD
 rw [cx]
 rfl
theorem m5 (x:List Str):p_ (aC x)=some (x.map mr):=by rw [GP,Nk]
theorem QI {a b:List Str} (h:a.map (mr:Str->eR)=b.map mr):a=b:=by
 induction a generalizing b with
 |nil=>cases b with|nil=>rfl|cons _ _=>cases h
 |cons x r ih =>
  cases b with
  |nil=>cases h
  |cons y t =>
   simp only [aB,List.cons.injEq] at h
   rw [ih h.2,Sum.inr.inj h.1]
theorem NV (x y:List Str):bq (aC x) (aC y)=decide (x=y):=by
 rw [GP,GP,Ck]
 by_cases h:x=y
 ·rw [h];simp
 ·rw [decide_eq_false h,decide_eq_false fun z=>h (QI z)]
theorem EH (l:List (List Str×D)):Iz (de l)=de l:=by cases l<;>rfl
theorem pq {l:List (List Str×D)} (h:l≠[]):js (de l)=true:=by
 have h2:((de l).all fun kv=>(p_ kv.1).isSome)=true:=by
  unfold de
  rw [qk,bY]
  intro p _
  show (p_ (aC p.1)).isSome=true
  rw [m5]
  rfl
 unfold js
 rw [h2]
 cases l with
 |nil=>exact (h rfl).elim
 |cons _ _=>rfl
theorem wf (x:List Str):∀ l:List (List Str×D),l5 (de l) (aC x)=(l.find? fun p=>decide (p.1=x)).map (·.2)
 |[]=>rfl
 |p::r=>by
  have ih:=wf x r
  unfold l5 de at ih ⊢
  rw [aB,bP,bP,NV]
  by_cases h:p.1=x
  ·rw [decide_eq_true h];rfl
  ·rw [decide_eq_false h];exact ih
theorem NW {l:List (List Str×D)} (nd:(l8 l).Nodup) {p:List Str×D} (hp:p∈l):(l.find? fun q=>decide (q.1=p.1))=some p:=by
 induction l with
 |nil=>cases hp
 |cons q r ih =>
  obtain ⟨n1,n2⟩:=List.nodup_cons.mp nd
  rw [bP]
  rcases List.mem_cons.mp hp with h|h
  ·subst h;simp
  ·have:q.1≠p.1:=fun z=>n1 (by show q.1∈_;rw [z];exact aM h)
   rw [decide_eq_false this]
   exact ih n2 h
theorem Kj {α:Type}{l:List α}{x:α} (h:x∈l):l≠[]:=fun z=>by rw [z] at h;cases h
theorem NX {l:List (List Str×D)}{ds:List (D×D)} (hu:Iz ds=de l) (nd:(l8 l).Nodup) {p:List Str×D} (hp:p∈l):Ba (.dict ds) (aC p.1)=.ok p.2:=by
 unfold Ba
 simp only [m5,hu]
 rw [if_pos (pq (Kj hp)),wf,NW nd hp]
 rfl
theorem IU {l:List (List Str×D)} (nd:(l8 l).Nodup) {p:List Str×D} (hp:p∈l):Ba (.dict (de l)) (aC p.1)=.ok p.2:=NX (EH l) nd hp
theorem NY {l:List (List Str×D)} (nd:(l8 l).Nodup) {p:List Str×D} (hp:p∈l):Ba (.dict ((.none,.none)::de l)) (aC p.1)=.ok p.2:=NX rfl nd hp
theorem Bs (x:List Str):∀ l:List (List Str×D),((l.find? fun p=>decide (p.1=x)).map (·.2)).isSome=decide (x∈l8 l)
 |[]=>by simp
 |p::r=>by
  rw [bP]
  by_cases h:p.1=x
  ·rw [decide_eq_true h]
   simp [h]
  ·rw [decide_eq_false h]
   simp only
   rw [Bs x r]
   simp [c9 h]
theorem IV {l:List (List Str×D)} (h:l≠[]) (x:List Str):Qd true (aC x) (.dict (de l))=.ok (.bool (!decide (x∈l8 l))):=by
 unfold Qd
 simp only [m5,EH]
 rw [if_pos (pq h),wf,Bs]
 rfl
theorem EI (l:List (List Str×D)):yR (.dict ((.none,.none)::de l))=.ok ((l8 l).map aC):=by
 show R.ok ((de l).map (·.1))=_
 unfold de l8
 rw [cx,cx]
 rfl
theorem QJ {l:List (List Str×D)}{x:List Str} (h:x∉l8 l) (d:D):xv (de l) (aC x) d=de (l++[(x,d)]):=by
 have e:((de l).any fun kv=>bq kv.1 (aC x))=false:=by
  unfold de
  rw [wH,L8]
  intro p hp
  show ¬bq (aC p.1) (aC x)=true
  rw [NV,decide_eq_true_eq]
  exact fun z=>h (by rw [<- z];exact aM hp)
 unfold xv
 rw [e,if_neg bh]
 unfold de
 rw [aU]
 rfl
theorem N_ {i:Nat}{gk g:az->R D}{ρ:az}{l:List (List Str×D)}{x:List Str}{d:D} (hi:ρ[i]?=some (Sl.own (.dict (de l)))) (hg:g ρ=.ok d) (hk:gk ρ=.ok (aC x)) (hn:l≠[]) (hl:l.length<1000) (hx:x∉l8 l):sI i gk g ρ=.ok (.nx (ρ.set i (.own (.dict (de (l++[(x,d)])))))):=by
 have hl':(de l).length<1000:=by unfold de;rw [ao];exact hl
 have e:sI i gk g ρ=(g ρ).bind fun d=>(gk ρ).bind fun k=>match p_ k with
  |some _=>if (de l).length<1000/\js (de l)=true then .ok (.nx (ρ.set i (.own (.dict (xv (de l) k d))))) else .no
  |none=>.no:=by
  unfold sI
  simp only [hi]
  try rfl
 rw [e,hg,xw,hk,xw]
 simp only [m5,if_pos (uj hl' (pq hn)),QJ hx]
theorem W0 {i:Nat}{g:az->R Fl}{ρ:az}{l:List (List Str×D)} (hn:l≠[]) (h:ρ[i]?=some (Sl.own (.dict (de l)))):Tx i g ρ=g (ρ.set i (.own (.dict ((.none,.none)::de l)))):=by
 unfold Tx
 congr 1
 unfold kC
 rw [h]
 cases l with
 |nil=>exact (hn rfl).elim
 |cons p r=>rfl
theorem W2 {gk gv:az->R D}{s:Sl}{ρ:az}{x:List Str}{d:D} (h1:gk (s::ρ)=.ok (aC x)) (h2:gv (s::ρ)=.ok d):RX gk gv (s::ρ)=.ok (.dict (de [(x,d)])):=by
 unfold RX
 rw [h1,bind_ok,h2,bind_ok]
 simp only [m5]
 rfl
theorem W3 {g:az->R D}{s:Sl}{ρ:az}{ds:List D} (h:g (s::ρ)=.ok (.list ds)):Co g (s::ρ)=.ok (!ds.isEmpty):=by
 unfold Co
 rw [h,bind_ok]
theorem O0 (g:az->R D) (s:Sl) (ρ:az):El g (s::ρ)=(g (s::ρ)).bind yR:=id rfl
theorem EJ {α:Type} [DecidableEq α] : ∀ {l m:List α},l.Nodup->(∀ x∈l,x∈m)->l.length<=m.length
 |[],_,_,_=>cV _
 |x::r,m,nd,h=>by
  obtain ⟨n1,n2⟩:=List.nodup_cons.mp nd
  have hx:=h x ah
  have:=EJ (l:=r) (m:=m.erase x) n2 fun y hy=>(HC fun z=>n1 (by rw [<- z];exact hy)).mpr (h y (a9 _ hy))
  rw [Df hx] at this
  have:=FD hx
  simp only [aT]
  omega
theorem EK:∀ (fs:List Str) (acc:List (List Str)),(fs.foldl (fun acc f=>acc++acc.map (·++[f])) acc).length=acc.length*2 ^ fs.length
 |[],acc=>by simp
 |f::r,acc=>by
  rw [cO,EK r,aN,ao,aT,Nat.pow_succ,<- Nat.two_mul,FX 2,Nat.mul_assoc,FX 2]
theorem QK {fs:List Str} (h:fs.length<=6):(TY fs).length<=64:=by
 unfold TY
 rw [EK]
 have:2 ^ fs.length<=2 ^ 6:=Nat.pow_le_pow_right (by decide) h
 simp only [aT,bJ]
 omega
theorem EL {fs:List Str} (hf:NC fs 6) {l:List (List Str×D)} (nd:(l8 l).Nodup) (h:∀ x∈l8 l,Sub fs x):l.length<=64:=by
 have:=EJ nd fun x hx=>NS hf.up (h x hx)
 rw [ao] at this
 exact cy this (QK hf.len)
def Uc (es:List da) (st x:List Str):Prop:=∃ rs:List da,(∀ e∈rs,e∈es)/\o6 rs st=some x
theorem vg (e:da):∀ (rs:List da) (st x:List Str),o6 rs st=some x->cX x e.needs e.bars=true->o6 (rs++[e]) st=some (b9 e x)
 |[],st,x,h,g=>by cases h;show (if cX st e.needs e.bars then o6 [] (b9 e st) else none)=_;rw [g];rfl
 |a::r,st,x,h,g=>by
  show (if cX st a.needs a.bars then o6 (r++[e]) (b9 a st) else none)=_
  have h':(if cX st a.needs a.bars then o6 r (b9 a st) else none)=some x:=h
  split at h'
  ·rename_i hg
   rw [if_pos hg]
   exact vg e r _ _ h' g
  ·cases h'
theorem tQ {es:List da}{M:List Str->Prop} (hc:∀ x,M x->∀ e∈es,cX x e.needs e.bars=true->M (b9 e x)):∀ (rs:List da) (st x:List Str),M st->(∀ e∈rs,e∈es)->o6 rs st=some x->M x
 |[],st,x,hm,_,h=>by cases h;exact hm
 |a::r,st,x,hm,he,h=>by
  have h':(if cX st a.needs a.bars then o6 r (b9 a st) else none)=some x:=h
  split at h'
  ·rename_i hg
   exact tQ hc r _ _ (hc st hm a (he a ah) hg) (fun e h=>he e (a9 _ h)) h'
  ·cases h'
theorem O1 {fs st:List Str}{es:List da} (g:eU fs es) (hs:Sub fs st):jv [dQ fs es,aC st]=.ok (.list ((es.filter fun e=>cX st e.needs e.bars).map fun e=>f9 [dv e,aC (b9 e st)])):=by
 have ls:=iY hs g.rise.len
 have lg:=g.len
 unfold jv
 refine cn ?_
 unfold lj bF
 walk_at "zz"
 rw [TV]
 walk_at "zz"
 rw [if_pos (by omega)]
 rw [eE _ dv (fun e=>f9 [dv e,aC (b9 e st)]) (fun e=>cX st e.needs e.bars) es fun e he=>oU (by
  walk_at "zz"
  rw [we (vf g he)]
  walk_at "zz") fun _=>(by
  walk_at "zz"
  rw [Bp (vf g he) ls]
  walk_at "zz")]
 walk_at "zz"
abbrev LZ:=List (List Str×List da)
def hX (l:LZ):List (List Str×D):=l.map fun p=>(p.1,nz p.2)
structure mB (fs st:List Str) (es:List da) (l:LZ):Prop where
 nd:(l.map (·.1)).Nodup
 beg:(st,[])∈l
 sub:∀ p∈l,Sub fs p.1
 row:∀ p∈l,(∀ e∈p.2,e∈es)/\o6 p.2 st=some p.1/\p.2.length<l.length
theorem jT (l:LZ):l8 (hX l)=l.map (·.1):=by
 unfold l8 hX
 rw [cx]
 rfl
theorem mB.ne {fs st:List Str}{es:List da}{l:LZ} (h:mB fs st es l):hX l≠[]:=by
 intro z
 have:=List.map_eq_nil_iff.mp z
 have h1:=h.beg
 rw [this] at h1
 cases h1
theorem mB.few {fs st:List Str}{es:List da}{l:LZ} (g:eU fs es) (h:mB fs st es l):l.length<=64:=by
 have:=EL g.rise (l:=hX l) (by rw [jT];exact h.nd) fun x hx=>by
  rw [jT] at hx
  obtain ⟨p,hp,rfl⟩:=List.mem_map.mp hx
  exact h.sub p hp
 unfold hX at this
 rw [ao] at this
 exact this
def hJ (at0:List Str) (row:List da) (b:LZ×List (List Str)) (e:da):LZ×List (List Str) :=
 if b9 e at0∈b.1.map (·.1) then b else (b.1++[(b9 e at0,row++[e])],b.2++[b9 e at0])
theorem TZ {fs st at0:List Str}{es:List da}{row:List da}{b:LZ×List (List Str)}{e:da} (g:eU fs es) (h:mB fs st es b.1) (hr:(at0,row)∈b.1) (he:e∈es) (hg:cX at0 e.needs e.bars=true):mB fs st es (hJ at0 row b e).1:=by
 unfold hJ
 split
 ·exact h
 ·rename_i hn
  obtain ⟨r1,r2,r3⟩:=h.row _ hr
  refine ⟨?_,bD _ h.beg,fun p hp=>?_,fun p hp=>?_⟩
  ·rw [aU]
   exact xJ h.nd hn
  ·rcases List.mem_append.mp hp with z|z
   ·exact h.sub p z
   ·rw [List.mem_singleton.mp z]
    exact tP g.rise.up (g.ok e he) (h.sub _ hr)
  ·rw [aN,dD]
   rcases List.mem_append.mp hp with z|z
   ·obtain ⟨k1,k2,k3⟩:=h.row p z
    exact ⟨k1,k2,by omega⟩
   ·rw [List.mem_singleton.mp z]
    refine ⟨fun x hx=>?_,vg e _ _ _ r2 hg,?_⟩
    ·rcases List.mem_append.mp hx with y|y
     ·exact r1 x y
     ·rw [List.mem_singleton.mp y];exact he
    ·show (row++[e]).length<b.1.length+1
     rw [aN,dD]
     have:row.length<b.1.length:=r3
     omega
theorem EM (at0:List Str) (row:List da) (b:LZ×List (List Str)) (e:da):(∀ p∈b.1,p∈(hJ at0 row b e).1)/\b9 e at0∈(hJ at0 row b e).1.map (·.1)/\(∀ x∈(hJ at0 row b e).1.map (·.1),x∈b.1.map (·.1)\/x∈(hJ at0 row b e).2)/\(∀ x∈b.2,x∈(hJ at0 row b e).2)/\(∀ x∈(hJ at0 row b e).2,x∈b.2\/x∈(hJ at0 row b e).1.map (·.1))/\b.1.length+(hJ at0 row b e).2.length=(hJ at0 row b e).1.length+b.2.length:=by
 unfold hJ
 split
 ·rename_i h
  exact ⟨fun _ h=>h,h,fun _ h=>.inl h,fun _ h=>h,fun _ h=>.inl h,rfl⟩
 ·refine ⟨fun p hp=>bD _ hp,?_,fun x hx=>?_,fun x hx=>bD _ hx,fun x hx=>?_,?_⟩
  ·rw [aU];exact ap _ ah
  ·rw [aU] at hx
   rcases List.mem_append.mp hx with z|z
   ·exact .inl z
   ·exact .inr (ap _ z)
  ·rcases List.mem_append.mp hx with z|z
   ·exact .inl z
   ·rw [aU];exact .inr (ap _ z)
  ·simp only [aN,dD]
   omega
def Wl:az->R Fl:=(eg (eJ (g2 (rB 7) (rB 2) (Qd true))) (aQ (sI 2 (rS 7) (g2 (g2 (rB 2) (rB 5) Ba) (eL (J.ac (g2 (rB 6) (kI 0) bf) J.aG) .list) dI)) (oR 4 (rS 7))) (fun ρ=>.ok (.nx ρ)))
def Kk:az->R Fl:=nu (jO (ej 2 jv (J.ac (rS 0) (J.ac (rS 5) J.aG)))) (li 2 (cw (bN 6) (cw (bN 7) mz))) Wl
def W4:az->R Fl:=aQ (gj 4 (eL J.aG .list)) (aQ (sG 3 (bN 5) Kk) (Rv 4 (eZ 3 (rS 4))))
theorem O3:lm=aQ (gj 2 (RX (rS 1) (eL J.aG .list))) (aQ (gj 3 (eL (J.ac (rS 1) J.aG) .list)) (aQ (iH (Co (rB 3)) W4 100000) (Tx 2 (cL (rS 2))))):=rfl
theorem EN {l:LZ}{p:List Str×List da} (h:p∈l):(p.1,nz p.2)∈hX l:=aM (f:=fun p:List Str×List da=>(p.1,nz p.2)) h
theorem T_ {fs st:List Str}{es:List da}{l:LZ} (h:mB fs st es l) {at0:List Str}{row:List da} (hr:(at0,row)∈l):Ba (.dict (de (hX l))) (aC at0)=.ok (nz row):=by
 have:=IU (l:=hX l) (by rw [jT];exact h.nd) (EN hr)
 exact this
theorem O4 (l:LZ) (x:List Str) (r:List da):hX (l++[(x,r)])=hX l++[(x,nz r)]:=by
 unfold hX
 rw [aU]
 rfl
theorem QL {fs st at0:List Str}{es:List da}{row:List da} (g:eU fs es) (B S:D) (o3 z6 z7:Sl) {b:LZ×List (List Str)}{e:da} (h:mB fs st es b.1) (hr:(at0,row)∈b.1) (hl:b.2.length<=b.1.length) :
  Wl [.shr B,.shr S,.own (.dict (de (hX b.1))),o3,.own (.list (b.2.map aC)),.shr (aC at0),.shr (dv e),.shr (aC (b9 e at0))]=.ok (.nx [.shr B,.shr S,.own (.dict (de (hX (hJ at0 row b e).1))),o3,.own (.list ((hJ at0 row b e).2.map aC)),.shr (aC at0),.shr (dv e),.shr (aC (b9 e at0))]):=by
 have few:=h.few g
 have rl:=(h.row _ hr).2.2
 have k64:row.length<b.1.length:=rl
 unfold Wl
 walk_at "zz"
 rw [IV h.ne,jT]
 unfold hJ
 by_cases hm:b9 e at0∈b.1.map (·.1)
 ·rw [if_pos hm,decide_eq_true hm]
  walk_at "zz"
 ·rw [if_neg hm,decide_eq_false hm]
  walk_at "zz"
  rw [N_ (l:=hX b.1) (x:=b9 e at0) (d:=nz (row++[e])) rfl ?_ rfl h.ne (by unfold hX;rw [ao];omega) (by rw [jT];exact hm)]
  ·walk_at "zz"
   rw [Bk (ds:=b.2.map aC) (d:=aC (b9 e at0)) rfl rfl (by rw [ao];omega),O4,aU]
   rfl
  ·walk_at "zz"
   rw [T_ h hr]
   walk_at "zz"
   rw [TW]
   walk_at "zz"
   rw [if_pos (by omega)]
   simp only [nz,aU]
   rfl
theorem EO {fs st at0:List Str}{es:List da}{row:List da}:∀ (xs:List da) (b:LZ×List (List Str)),(∀ p∈b.1,p∈(xs.foldl (hJ at0 row) b).1)/\(∀ e∈xs,b9 e at0∈(xs.foldl (hJ at0 row) b).1.map (·.1))/\(∀ x∈(xs.foldl (hJ at0 row) b).1.map (·.1),x∈b.1.map (·.1)\/x∈(xs.foldl (hJ at0 row) b).2)/\(∀ x∈b.2,x∈(xs.foldl (hJ at0 row) b).2)/\(∀ x∈(xs.foldl (hJ at0 row) b).2,x∈b.2\/x∈(xs.foldl (hJ at0 row) b).1.map (·.1))/\b.1.length+(xs.foldl (hJ at0 row) b).2.length=(xs.foldl (hJ at0 row) b).1.length+b.2.length
 |[],b=>⟨fun _ h=>h,fun _ h=>(nomatch h),fun _ h=>.inl h,fun _ h=>h,fun _ h=>.inl h,rfl⟩
 |e::r,b=>by
  obtain ⟨a1,a2,a3,a4,a5,a6⟩:=EM at0 row b e
  obtain ⟨b1,b2,b3,b4,b5,b6⟩:=EO (fs:=fs) (st:=st) (es:=es) r (hJ at0 row b e)
  rw [cO]
  have km:∀ x∈(hJ at0 row b e).1.map (·.1),x∈(r.foldl (hJ at0 row) (hJ at0 row b e)).1.map (·.1):=fun x hx=>by
   obtain ⟨p,hp,rfl⟩:=List.mem_map.mp hx
   exact aM (b1 p hp)
  refine ⟨fun p hp=>b1 p (a1 p hp),fun x hx=>?_,fun x hx=>?_,fun x hx=>b4 x (a4 x hx),fun x hx=>?_,by omega⟩
  ·rcases List.mem_cons.mp hx with z|z
   ·rw [z];exact km _ a2
   ·exact b2 x z
  ·rcases b3 x hx with z|z
   ·rcases a3 x z with y|y
    ·exact .inl y
    ·exact .inr (b4 x y)
   ·exact .inr z
  ·rcases b5 x hx with z|z
   ·rcases a5 x z with y|y
    ·exact .inl y
    ·exact .inr (km x y)
   ·exact .inr z
theorem U0 {fs st at0:List Str}{es:List da}{row:List da} (g:eU fs es) (B S:D) (o3 z6 z7:Sl) {b:LZ×List (List Str)} (h:mB fs st es b.1) (hr:(at0,row)∈b.1) (hl:b.2.length<=b.1.length) (xs:List da) (hx:∀ e∈xs,e∈es/\cX at0 e.needs e.bars=true) :
  mB fs st es (xs.foldl (hJ at0 row) b).1/\∃ y6 y7,j4 (li 2 (cw (bN 6) (cw (bN 7) mz))) Wl (xs.map fun e=>f9 [dv e,aC (b9 e at0)]) [.shr B,.shr S,.own (.dict (de (hX b.1))),o3,.own (.list (b.2.map aC)),.shr (aC at0),z6,z7]=.ok (.nx [.shr B,.shr S,.own (.dict (de (hX (xs.foldl (hJ at0 row) b).1))),o3,.own (.list ((xs.foldl (hJ at0 row) b).2.map aC)),.shr (aC at0),y6,y7]):=by
 induction xs generalizing b z6 z7 with
 |nil=>exact ⟨h,z6,z7,rfl⟩
 |cons e r ih =>
  obtain ⟨he,hg⟩:=hx e ah
  obtain ⟨a1,a2,a3,a4,a5,a6⟩:=EM at0 row b e
  have h':=TZ g h hr he hg
  obtain ⟨q1,y6,y7,q2⟩:=ih (.shr (dv e)) (.shr (aC (b9 e at0))) h' (a1 _ hr) (by omega) fun x z=>hx x (a9 _ z)
  refine ⟨q1,y6,y7,?_⟩
  rw [aB,lC (ρ1:=[.shr B,.shr S,.own (.dict (de (hX b.1))),o3,.own (.list (b.2.map aC)),.shr (aC at0),.shr (dv e),.shr (aC (b9 e at0))]) rfl (QL g B S o3 z6 z7 h hr hl)]
  exact q2
def o7 (l:LZ) (x:List Str):List da:=((l.find? fun p=>decide (p.1=x)).map (·.2)).getD []
theorem qI {l:LZ}{x:List Str} (h:x∈l.map (·.1)):(x,o7 l x)∈l:=by
 unfold o7
 induction l with
 |nil=>cases h
 |cons p r ih =>
  rw [bP]
  by_cases hp:p.1=x
  ·rw [decide_eq_true hp]
   subst hp
   exact ah
  ·rw [decide_eq_false hp]
   rcases List.mem_cons.mp h with z|z
   ·exact (hp z.symm).elim
   ·exact a9 _ (ih z)
def m7 (es:List da) (b:LZ×List (List Str)) (x:List Str):LZ×List (List Str):=(es.filter fun e=>cX x e.needs e.bars).foldl (hJ x (o7 b.1 x)) b
theorem O5 {fs st at0:List Str}{es:List da} (g:eU fs es) (S:D) (o3 z6 z7:Sl) {b:LZ×List (List Str)} (h:mB fs st es b.1) (hr:at0∈b.1.map (·.1)) (hl:b.2.length<=b.1.length) :
  mB fs st es (m7 es b at0).1/\∃ y6 y7,Kk [.shr (dQ fs es),.shr S,.own (.dict (de (hX b.1))),o3,.own (.list (b.2.map aC)),.shr (aC at0),z6,z7]=.ok (.nx [.shr (dQ fs es),.shr S,.own (.dict (de (hX (m7 es b at0).1))),o3,.own (.list ((m7 es b at0).2.map aC)),.shr (aC at0),y6,y7]):=by
 have hm:=qI hr
 obtain ⟨q1,y6,y7,q2⟩:=U0 g (dQ fs es) S o3 z6 z7 h hm hl (es.filter fun e=>cX at0 e.needs e.bars) fun e he=>List.mem_filter.mp he
 refine ⟨q1,y6,y7,?_⟩
 unfold Kk
 rw [pZ (ds:=(es.filter fun e=>cX at0 e.needs e.bars).map fun e=>f9 [dv e,aC (b9 e at0)])]
 ·exact q2
 ·walk_at "zz"
  rw [O1 g (h.sub _ hm)]
  walk_at "zz"
theorem IW (es:List da) (b:LZ×List (List Str)) (x:List Str):(∀ p∈b.1,p∈(m7 es b x).1)/\(∀ e∈es,cX x e.needs e.bars=true->b9 e x∈(m7 es b x).1.map (·.1))/\(∀ y∈(m7 es b x).1.map (·.1),y∈b.1.map (·.1)\/y∈(m7 es b x).2)/\(∀ y∈b.2,y∈(m7 es b x).2)/\(∀ y∈(m7 es b x).2,y∈b.2\/y∈(m7 es b x).1.map (·.1))/\b.1.length+(m7 es b x).2.length=(m7 es b x).1.length+b.2.length:=by
 obtain ⟨b1,b2,b3,b4,b5,b6⟩:=EO (fs:=[]) (st:=[]) (es:=es) (at0:=x) (row:=o7 b.1 x) (es.filter fun e=>cX x e.needs e.bars) b
 exact ⟨b1,fun e he hg=>b2 e (List.mem_filter.mpr ⟨he,hg⟩),b3,b4,b5,b6⟩
theorem wg (es:List da):∀ (ring:List (List Str)) (b:LZ×List (List Str)),(∀ p∈b.1,p∈(ring.foldl (m7 es) b).1)/\(∀ x∈ring,∀ e∈es,cX x e.needs e.bars=true->b9 e x∈(ring.foldl (m7 es) b).1.map (·.1))/\(∀ y∈(ring.foldl (m7 es) b).1.map (·.1),y∈b.1.map (·.1)\/y∈(ring.foldl (m7 es) b).2)/\(∀ y∈b.2,y∈(ring.foldl (m7 es) b).2)/\(∀ y∈(ring.foldl (m7 es) b).2,y∈b.2\/y∈(ring.foldl (m7 es) b).1.map (·.1))/\b.1.length+(ring.foldl (m7 es) b).2.length=(ring.foldl (m7 es) b).1.length+b.2.length
 |[],b=>⟨fun _ h=>h,fun _ h=>(nomatch h),fun _ h=>.inl h,fun _ h=>h,fun _ h=>.inl h,rfl⟩
 |x::r,b=>by
  obtain ⟨a1,a2,a3,a4,a5,a6⟩:=IW es b x
  obtain ⟨b1,b2,b3,b4,b5,b6⟩:=wg es r (m7 es b x)
  rw [cO]
  have km:∀ y∈(m7 es b x).1.map (·.1),y∈(r.foldl (m7 es) (m7 es b x)).1.map (·.1):=fun y hy=>by
   obtain ⟨p,hp,rfl⟩:=List.mem_map.mp hy
   exact aM (b1 p hp)
  refine ⟨fun p hp=>b1 p (a1 p hp),fun y hy e he hg=>?_,fun y hy=>?_,fun y hy=>b4 y (a4 y hy),fun y hy=>?_,by omega⟩
  ·rcases List.mem_cons.mp hy with z|z
   ·subst z;exact km _ (a2 e he hg)
   ·exact b2 y z e he hg
  ·rcases b3 y hy with z|z
   ·rcases a3 y z with w|w
    ·exact .inl w
    ·exact .inr (b4 y w)
   ·exact .inr z
  ·rcases b5 y hy with z|z
   ·rcases a5 y z with w|w
    ·exact .inl w
    ·exact .inr (km y w)
   ·exact .inr z
theorem O6 {fs st:List Str}{es:List da} (g:eU fs es) (S:D) (o3 z5 z6 z7:Sl) {b:LZ×List (List Str)} (h:mB fs st es b.1) (hl:b.2.length<=b.1.length) (ring:List (List Str)) (hx:∀ x∈ring,x∈b.1.map (·.1)) :
  mB fs st es (ring.foldl (m7 es) b).1/\∃ y5 y6 y7,j4 (bN 5) Kk (ring.map aC) [.shr (dQ fs es),.shr S,.own (.dict (de (hX b.1))),o3,.own (.list (b.2.map aC)),z5,z6,z7]=.ok (.nx [.shr (dQ fs es),.shr S,.own (.dict (de (hX (ring.foldl (m7 es) b).1))),o3,.own (.list ((ring.foldl (m7 es) b).2.map aC)),y5,y6,y7]):=by
 induction ring generalizing b z5 z6 z7 with
 |nil=>exact ⟨h,z5,z6,z7,rfl⟩
 |cons x r ih =>
  obtain ⟨a1,a2,a3,a4,a5,a6⟩:=IW es b x
  obtain ⟨h',y6,y7,q⟩:=O5 g S o3 z6 z7 h (hx x ah) hl
  obtain ⟨q1,w5,w6,w7,q2⟩:=ih (.shr (aC x)) y6 y7 h' (by omega) fun y hy=>by
   obtain ⟨p,hp,e⟩:=List.mem_map.mp (hx y (a9 _ hy))
   rw [<- e]
   exact aM (a1 p hp)
  refine ⟨q1,w5,w6,w7,?_⟩
  rw [aB,lC (ρ1:=[.shr (dQ fs es),.shr S,.own (.dict (de (hX b.1))),o3,.own (.list (b.2.map aC)),.shr (aC x),z6,z7]) rfl q]
  exact q2
theorem QM {fs st:List Str}{es:List da} (g:eU fs es) (S:D) (o3 z4 z5 z6 z7:Sl) {l:LZ} (h:mB fs st es l) (ring:List (List Str)) (hx:∀ x∈ring,x∈l.map (·.1)) (ho:o3=.own (.list (ring.map aC))\/o3=.shr (.list (ring.map aC))) :
  mB fs st es (ring.foldl (m7 es) (l,[])).1/\∃ y4 y5 y6 y7,W4 [.shr (dQ fs es),.shr S,.own (.dict (de (hX l))),o3,z4,z5,z6,z7]=.ok (.nx [.shr (dQ fs es),.shr S,.own (.dict (de (hX (ring.foldl (m7 es) (l,[])).1))),.shr (.list ((ring.foldl (m7 es) (l,[])).2.map aC)),y4,y5,y6,y7]):=by
 have L:=fun o=>O6 g S o z5 z6 z7 (b:=(l,[])) h (cV _) ring hx
 unfold W4
 walk_at "zz"
 rcases ho with ho|ho
 ·subst ho
  obtain ⟨q1,y5,y6,y7,q2⟩:=L (.lck (.list (ring.map aC)))
  refine ⟨q1,.shr (.list ((ring.foldl (m7 es) (l,[])).2.map aC)),y5,y6,y7,?_⟩
  have e:sG 3 (bN 5) Kk [.shr (dQ fs es),.shr S,.own (.dict (de (hX l))),.own (.list (ring.map aC)),.own (.list []),z5,z6,z7]=.ok (.nx [.shr (dQ fs es),.shr S,.own (.dict (de (hX (ring.foldl (m7 es) (l,[])).1))),.own (.list (ring.map aC)),.own (.list ((ring.foldl (m7 es) (l,[])).2.map aC)),y5,y6,y7]):=by
   show XM 3 _ (j4 (bN 5) Kk (ring.map aC) [.shr (dQ fs es),.shr S,.own (.dict (de (hX l))),.lck (.list (ring.map aC)),.own (.list []),z5,z6,z7])=_
   have q2':=q2
   rw [dL] at q2'
   rw [q2']
   rfl
  rw [e]
  walk_at "zz"
  simp only [Rv]
  rw [Ch rfl]
  walk_at "zz"
 ·subst ho
  obtain ⟨q1,y5,y6,y7,q2⟩:=L (.shr (.list (ring.map aC)))
  refine ⟨q1,.shr (.list ((ring.foldl (m7 es) (l,[])).2.map aC)),y5,y6,y7,?_⟩
  rw [NQ (d:=.list (ring.map aC)) rfl,pZ (ds:=ring.map aC)]
  ·have q2':=q2
   rw [dL] at q2'
   rw [q2']
   walk_at "zz"
   simp only [Rv]
   rw [Ch rfl]
   walk_at "zz"
  ·walk_at "zz"
structure Ah (fs st:List Str) (es:List da) (l:LZ):Prop where
 ok:mB fs st es l
 all:∀ x∈l.map (·.1),∀ e∈es,cX x e.needs e.bars=true->b9 e x∈l.map (·.1)
theorem EQ {fs st:List Str}{es:List da} (g:eU fs es) (S:D) (P:LZ->List (List Str)->Prop) (hP:∀ l ring,mB fs st es l->(∀ x∈ring,x∈l.map (·.1))->mB fs st es (ring.foldl (m7 es) (l,[])).1->P l ring->P (ring.foldl (m7 es) (l,[])).1 (ring.foldl (m7 es) (l,[])).2):∀ (k fuel:Nat) (o3 z4 z5 z6 z7:Sl) (l:LZ) (ring:List (List Str)),mB fs st es l->(∀ x∈ring,x∈l.map (·.1))->(∀ x∈l.map (·.1),x∉ring->∀ e∈es,cX x e.needs e.bars=true->b9 e x∈l.map (·.1)) ->
  (o3=.own (.list (ring.map aC))\/o3=.shr (.list (ring.map aC)))->P l ring->65-l.length+(if ring=[] then 0 else 1)<=k->k<fuel ->
  ∃ l' y3 y4 y5 y6 y7,(Ah fs st es l'/\P l' [])/\iH (Co (rB 3)) W4 fuel [.shr (dQ fs es),.shr S,.own (.dict (de (hX l))),o3,z4,z5,z6,z7]=.ok (.nx [.shr (dQ fs es),.shr S,.own (.dict (de (hX l'))),y3,y4,y5,y6,y7])
 |_,0,_,_,_,_,_,_,_,_,_,_,_,_,_,hf=>absurd hf (lO _)
 |k,fuel+1,o3,z4,z5,z6,z7,l,ring,h,hx,hc,ho,hp,hk,hf=>by
  have ht:Co (rB 3) [.shr (dQ fs es),.shr S,.own (.dict (de (hX l))),o3,z4,z5,z6,z7]=.ok (!(ring.map aC).isEmpty):=W3 (by rcases ho with z|z<;>subst z<;>rfl)
  rw [iH,ht]
  cases ring with
  |nil=>exact ⟨l,o3,z4,z5,z6,z7,⟨⟨h,fun x hx=>hc x hx (fun z=>nomatch z)⟩,hp⟩,rfl⟩
  |cons x r =>
   obtain ⟨h',y4,y5,y6,y7,q⟩:=QM g S o3 z4 z5 z6 z7 h (x::r) hx ho
   obtain ⟨a1,a2,a3,a4,a5,a6⟩:=wg es (x::r) (l,[])
   have few:=h'.few g
   have few0:=h.few g
   simp only [bJ,xj] at a6
   rw [if_neg (by simp)] at hk
   have hk':65-((x::r).foldl (m7 es) (l,[])).1.length+(if ((x::r).foldl (m7 es) (l,[])).2=[] then 0 else 1)<=k-1:=by
    by_cases hz:((x::r).foldl (m7 es) (l,[])).2=[]
    ·rw [if_pos hz]
     rw [hz] at a6
     simp only [bJ,xj] at a6
     omega
    ·rw [if_neg hz]
     have:=List.length_pos_iff.mpr hz
     omega
   obtain ⟨l',w3,w4,w5,w6,w7,e1,e2⟩:=EQ g S P hP (k-1) fuel (.shr (.list (((x::r).foldl (m7 es) (l,[])).2.map aC))) y4 y5 y6 y7 _ _ h' (fun y hy=>by
    rcases a5 y hy with z|z
    ·cases z
    ·exact z) (fun y hy hn e he hg=>by
    rcases a3 y hy with z|z
    ·by_cases hm:y∈x::r
     ·exact a2 y hm e he hg
     ·obtain ⟨p,hp,e'⟩:=List.mem_map.mp (hc y z hm e he hg)
      rw [<- e']
      exact aM (a1 p hp)
    ·exact (hn z).elim) (.inr rfl) (hP l (x::r) h hx h' hp) hk' (by omega)
   refine ⟨l',w3,w4,w5,w6,w7,e1,?_⟩
   simp only [aB,List.isEmpty_cons,jG]
   rw [q]
   exact e2
structure GQ (es:List da) (l:LZ):Prop where
 cls:∀ p∈l,∀ e∈es,cX p.1 e.needs e.bars=true->∃ q∈l,q.1=b9 e p.1/\q.2.length<=p.2.length+1
 up:l.Pairwise fun p q=>p.2.length<=q.2.length
structure U1 (es:List da) (l:LZ) (ring:List (List Str)) (d:Nat):Prop where
 top:∀ p∈l,p.2.length<=d
 rin:∀ p∈l,p.1∈ring->p.2.length=d
 cls:∀ p∈l,p.1∉ring->∀ e∈es,cX p.1 e.needs e.bars=true->∃ q∈l,q.1=b9 e p.1/\q.2.length<=p.2.length+1
 up:l.Pairwise fun p q=>p.2.length<=q.2.length
theorem zc (at0:List Str) (row:List da):∀ (xs:List da) (b:LZ×List (List Str)),∃ t:LZ,xs.foldl (hJ at0 row) b=(b.1++t,b.2++t.map (·.1))/\∀ p∈t,p.2.length=row.length+1
 |[],b=>⟨[],by simp,fun _ h=>(nomatch h)⟩
 |e::r,b=>by
  rw [cO]
  by_cases hm:b9 e at0∈b.1.map (·.1)
  ·have:hJ at0 row b e=b:=by unfold hJ;rw [if_pos hm]
   rw [this]
   exact zc at0 row r b
  ·have:hJ at0 row b e=(b.1++[(b9 e at0,row++[e])],b.2++[b9 e at0]):=by unfold hJ;rw [if_neg hm]
   rw [this]
   obtain ⟨t,h1,h2⟩:=zc at0 row r (b.1++[(b9 e at0,row++[e])],b.2++[b9 e at0])
   refine ⟨(b9 e at0,row++[e])::t,by rw [h1];simp,fun p hp=>?_⟩
   rcases List.mem_cons.mp hp with z|z
   ·subst z;simp
   ·exact h2 p z
theorem O7 {l t:LZ}{x:List Str} (h:x∈l.map (·.1)):o7 (l++t) x=o7 l x:=by
 unfold o7
 rw [List.find?_append]
 cases hf:l.find? fun p=>decide (p.1=x) with
 |some p=>rfl
 |none =>
  obtain ⟨p,hp,e⟩:=List.mem_map.mp h
  have:=List.find?_eq_none.mp hf p hp
  simp [e] at this
theorem ES (es:List da) (d:Nat):∀ (ring:List (List Str)) (b:LZ×List (List Str)),(∀ x∈ring,x∈b.1.map (·.1))->(∀ x∈ring,(o7 b.1 x).length=d)->∃ t:LZ,ring.foldl (m7 es) b=(b.1++t,b.2++t.map (·.1))/\∀ p∈t,p.2.length=d+1
 |[],b,_,_=>⟨[],by simp,fun _ h=>(nomatch h)⟩
 |x::r,b,hx,hd=>by
  rw [cO]
  obtain ⟨t,h1,h2⟩:=zc x (o7 b.1 x) (es.filter fun e=>cX x e.needs e.bars) b
  have e1:m7 es b x=(b.1++t,b.2++t.map (·.1)):=h1
  rw [e1]
  obtain ⟨t2,h3,h4⟩:=ES es d r (b.1++t,b.2++t.map (·.1)) (fun y hy=>by rw [aU];exact bD _ (hx y (a9 _ hy))) (fun y hy=>by rw [O7 (hx y (a9 _ hy))];exact hd y (a9 _ hy))
  refine ⟨t++t2,by rw [h3];simp,fun p hp=>?_⟩
  rcases List.mem_append.mp hp with z|z
  ·rw [h2 p z,hd x ah]
  ·exact h4 p z
theorem Kl {fs st:List Str}{es:List da}{l:LZ}{ring:List (List Str)} (hx:∀ x∈ring,x∈l.map (·.1)) (h':mB fs st es (ring.foldl (m7 es) (l,[])).1) (hp:∃ d,U1 es l ring d):∃ d,U1 es (ring.foldl (m7 es) (l,[])).1 (ring.foldl (m7 es) (l,[])).2 d:=by
 obtain ⟨d,D⟩:=hp
 obtain ⟨a1,a2,a3,a4,a5,a6⟩:=wg es ring (l,[])
 obtain ⟨t,e,ht⟩:=ES es d ring (l,[]) hx fun x hr=>D.rin _ (qI (hx x hr)) hr
 have nd:=h'.nd
 rw [e] at nd a2 ⊢
 rw [aU] at nd
 simp only [fX] at *
 have top:∀ p∈l++t,p.2.length<=d+1:=fun p hp=>by
  rcases List.mem_append.mp hp with z|z
  ·exact Oz (D.top p z)
  ·exact Nat.le_of_eq (ht p z)
 refine ⟨d+1,top,fun p hp hr=>?_,fun p hp hr e he hg=>?_,?_⟩
 ·rcases List.mem_append.mp hp with z|z
  ·exact ((List.nodup_append.mp nd).2.2 p.1 (aM z) p.1 hr rfl).elim
  ·exact ht p z
 ·rcases List.mem_append.mp hp with z|z
  ·by_cases hm:p.1∈ring
   ·obtain ⟨q,hq,eq⟩:=List.mem_map.mp (a2 p.1 hm e he hg)
    exact ⟨q,hq,eq,by rw [D.rin p z hm];exact top q hq⟩
   ·obtain ⟨q,hq,eq,hl⟩:=D.cls p z hm e he hg
    exact ⟨q,bD _ hq,eq,hl⟩
  ·exact (hr (aM z)).elim
 ·refine List.pairwise_append.mpr ⟨D.up,?_,fun p hp q hq=>by rw [ht q hq];exact Oz (D.top p hp)⟩
  exact wI fun p hp q hq=>by rw [ht p hp,ht q hq];exact au _
theorem O8 {fs st:List Str}{es:List da} (g:eU fs es) (hs:Sub fs st):∃ l,(Ah fs st es l/\GQ es l)/\jw [dQ fs es,aC st]=.ok (.dict ((.none,.none)::de (hX l))):=by
 have h0:mB fs st es [(st,[])]:=⟨by simp,List.mem_singleton.mpr rfl,fun p hp=>by rw [List.mem_singleton.mp hp];exact hs,fun p hp=>by rw [List.mem_singleton.mp hp];exact ⟨fun _ h=>(nomatch h),rfl,by simp⟩⟩
 obtain ⟨l,y3,y4,y5,y6,y7,⟨e1,d,n1⟩,e2⟩:=EQ g (aC st) (fun l ring=>∃ d,U1 es l ring d) (fun l ring _ hx h' hp=>Kl hx h' hp) 65 100000 (.own (.list ([st].map aC))) .no .no .no .no [(st,[])] [st] h0 (fun x hx=>hx) (fun x hx hn=>(hn hx).elim) (.inl rfl) ⟨0,fun p hp=>by rw [List.mem_singleton.mp hp];exact au _,fun p hp _=>by rw [List.mem_singleton.mp hp];rfl,fun p hp hn=>by rw [List.mem_singleton.mp hp] at hn;exact (hn ah).elim,by simp⟩ (by simp) (by decide)
 refine ⟨l,⟨e1,fun p hp e he hg=>n1.cls p hp (fun z=>nomatch z) e he hg,n1.up⟩,?_⟩
 unfold jw
 refine cn ?_
 rw [O3]
 unfold bF
 walk_at "zz"
 rw [W2 (x:=st) (d:=.list []) rfl rfl]
 walk_at "zz"
 have e2':iH (Co (rB 3)) W4 100000 [.shr (dQ fs es),.shr (aC st),.own (.dict (de [(st,.list [])])),.own (.list [aC st]),.no,.no,.no,.no]=_:=e2
 rw [e2']
 walk_at "zz"
 rw [W0 e1.ok.ne rfl]
 walk_at "zz"
def Wm:az->R Fl:=(aQ (eZ 6 (ej 2 lY (J.ac (rS 5) (J.ac (g2 (rB 3) (rB 4) bf) J.aG)))) (eg (yu (eJ (g2 (rB 6) kN (L0 true))) (eJ (g2 (rB 6) (rB 2) (Qd true)))) (aQ (sI 2 (rS 6) (g2 (g2 (rB 2) (g2 (rB 3) (rB 4) bf) Ba) (kI 1) dI)) (oR 3 (rS 6))) (fun ρ=>.ok (.nx ρ))))
def W5:az->R Fl:=aQ (nu (jO (g2 (rB 0) (kI 1) bf)) (bN 5) Wm) (eZ 4 (g2 (rB 4) (kI 1) dI))
theorem O9:lz=aQ (gj 2 (RX (rS 1) (kI 0))) (aQ (gj 3 (eL (J.ac (rS 1) J.aG) .list)) (aQ (eZ 4 (kI 0)) (aQ (iH (eJ (g2 (rB 4) (bS (J.ac (rB 3) J.aG) (gK iP)) wO)) W5 100000) (Tx 2 (cL (rS 2)))))):=rfl
abbrev NZ:=List (List Str×Int)
def kH (l:NZ):List (List Str×D):=l.map fun p=>(p.1,.int p.2)
theorem jU (l:NZ):l8 (kH l)=l.map (·.1):=by
 unfold l8 kH
 rw [cx]
 rfl
structure L6 (fs st:List Str) (es:List da) (l:NZ):Prop where
 nd:(l.map (·.1)).Nodup
 beg:st∈l.map (·.1)
 sub:∀ x∈l.map (·.1),Sub fs x
 rch:∀ x∈l.map (·.1),Uc es st x
theorem L6.ne {fs st:List Str}{es:List da}{l:NZ} (h:L6 fs st es l):kH l≠[]:=by
 intro z
 have:=List.map_eq_nil_iff.mp z
 have h1:=h.beg
 rw [this] at h1
 cases h1
theorem L6.few {fs st:List Str}{es:List da}{l:NZ} (g:eU fs es) (h:L6 fs st es l):l.length<=64:=by
 have:=EL g.rise (l:=kH l) (by rw [jU];exact h.nd) fun x hx=>by
  rw [jU] at hx
  exact h.sub x hx
 unfold kH at this
 rw [ao] at this
 exact this
def m8 (x:List Str) (n:Int) (l:NZ) (e:da):NZ :=
 if cX x e.needs e.bars=true/\b9 e x∉l.map (·.1) then l++[(b9 e x,n+1)] else l
theorem QN {fs st x:List Str}{es:List da}{n:Int}{l:NZ}{e:da} (g:eU fs es) (h:L6 fs st es l) (hx:x∈l.map (·.1)) (he:e∈es):L6 fs st es (m8 x n l e)/\(∀ p∈l,p∈m8 x n l e)/\(∃ t,m8 x n l e=l++t)/\(cX x e.needs e.bars=true->b9 e x∈(m8 x n l e).map (·.1)):=by
 unfold m8
 by_cases hc:cX x e.needs e.bars=true/\b9 e x∉l.map (·.1)
 ·rw [if_pos hc]
  obtain ⟨rs,r1,r2⟩:=h.rch x hx
  refine ⟨⟨?_,?_,fun y hy=>?_,fun y hy=>?_⟩,fun p hp=>bD _ hp,⟨_,rfl⟩,fun _=>?_⟩
  ·rw [aU];exact xJ h.nd hc.2
  ·rw [aU];exact bD _ h.beg
  ·rw [aU] at hy
   rcases List.mem_append.mp hy with z|z
   ·exact h.sub y z
   ·rw [List.mem_singleton.mp z];exact tP g.rise.up (g.ok e he) (h.sub x hx)
  ·rw [aU] at hy
   rcases List.mem_append.mp hy with z|z
   ·exact h.rch y z
   ·rw [List.mem_singleton.mp z]
    refine ⟨rs++[e],fun a ha=>?_,vg e _ _ _ r2 hc.1⟩
    rcases List.mem_append.mp ha with w|w
    ·exact r1 a w
    ·rw [List.mem_singleton.mp w];exact he
  ·rw [aU];exact ap _ ah
 ·rw [if_neg hc]
  exact ⟨h,fun _ h=>h,⟨[],(cA _).symm⟩,fun hg=>Classical.byContradiction fun z=>hc ⟨hg,z⟩⟩
theorem U2 {l:NZ}{j:Nat}{x:List Str} (h:(l.map (·.1))[j]?=some x):bf (.list ((l.map (·.1)).map aC)) (.int (j:Nat))=.ok (aC x):=xI (by rw [aW,h];rfl)
theorem W6 {fs st x:List Str}{es:List da}{n:Int} (g:eU fs es) (B S:D) (j:Nat) (z6:Sl) {l:NZ}{e:da} (h:L6 fs st es l) (hj:(l.map (·.1))[j]?=some x) (hn:(x,n)∈l) (he:e∈es) :
  ∃ y6,Wm [.shr B,.shr S,.own (.dict (de (kH l))),.own (.list ((l.map (·.1)).map aC)),.shr (.int (j:Nat)),.shr (dv e),z6]=.ok (.nx [.shr B,.shr S,.own (.dict (de (kH (m8 x n l e)))),.own (.list (((m8 x n l e).map (·.1)).map aC)),.shr (.int (j:Nat)),.shr (dv e),y6]):=by
 have few:=h.few g
 have hx:x∈l.map (·.1):=df hj
 have ls:=iY (h.sub x hx) g.rise.len
 have ixk:=U2 hj
 have ixn:Ba (.dict (de (kH l))) (aC x)=.ok (.int n):=IU (l:=kH l) (by rw [jU];exact h.nd) (aM (f:=fun p:List Str×Int=>(p.1,b_ p.2)) hn)
 refine ⟨.shr (QF (IR e x)),?_⟩
 unfold Wm
 walk_at "zz"
 rw [ixk]
 walk_at "zz"
 rw [QG (vf g he) (by omega)]
 walk_at "zz"
 rw [Ke]
 unfold m8
 by_cases hg:cX x e.needs e.bars=true
 ·rw [if_pos hg,Kf]
  rw [VT]
  walk_at "zz"
  rw [IV h.ne,jU]
  by_cases hm:b9 e x∈l.map (·.1)
  ·rw [decide_eq_true hm,if_neg (fun z=>z.2 hm)]
   walk_at "zz"
  ·rw [decide_eq_false hm,if_pos ⟨hg,hm⟩]
   walk_at "zz"
   rw [N_ (l:=kH l) (x:=b9 e x) (d:=.int (n+1)) rfl ?_ rfl h.ne (by unfold kH;rw [ao];omega) (by rw [jU];exact hm)]
   ·walk_at "zz"
    rw [Bk (ds:=(l.map (·.1)).map aC) (d:=aC (b9 e x)) rfl rfl (by rw [ao,ao];omega)]
    unfold kH
    simp only [aU]
    rfl
   ·walk_at "zz"
    rw [ixk]
    walk_at "zz"
    rw [ixn]
    walk_at "zz"
 ·rw [if_neg hg,Kg,if_neg (fun z=>hg z.1)]
  rw [VU]
  walk_at "zz"
theorem U3 {fs st x:List Str}{es:List da}{n:Int} (g:eU fs es) (B S:D) (j:Nat) (z5 z6:Sl) {l:NZ} (h:L6 fs st es l) (hj:(l.map (·.1))[j]?=some x) (hn:(x,n)∈l) (xs:List da) (hx:∀ e∈xs,e∈es) :
  L6 fs st es (xs.foldl (m8 x n) l)/\(∃ t,xs.foldl (m8 x n) l=l++t)/\(∀ e∈xs,cX x e.needs e.bars=true->b9 e x∈(xs.foldl (m8 x n) l).map (·.1))/\∃ y5 y6,j4 (bN 5) Wm (xs.map dv) [.shr B,.shr S,.own (.dict (de (kH l))),.own (.list ((l.map (·.1)).map aC)),.shr (.int (j:Nat)),z5,z6]=.ok (.nx [.shr B,.shr S,.own (.dict (de (kH (xs.foldl (m8 x n) l)))),.own (.list (((xs.foldl (m8 x n) l).map (·.1)).map aC)),.shr (.int (j:Nat)),y5,y6]):=by
 induction xs generalizing l z5 z6 with
 |nil=>exact ⟨h,⟨[],(cA _).symm⟩,fun _ h=>(nomatch h),z5,z6,rfl⟩
 |cons e r ih =>
  have he:=hx e ah
  have hxm:x∈l.map (·.1):=df hj
  obtain ⟨a1,a2,⟨t,a3⟩,a4⟩:=QN (n:=n) g h hxm he
  obtain ⟨y6,q⟩:=W6 g B S j z6 h hj hn he
  have hj':((m8 x n l e).map (·.1))[j]?=some x:=by
   rw [a3,aU,bj (List.getElem?_eq_some_iff.mp hj).1]
   exact hj
  obtain ⟨b1,⟨t2,b2⟩,b3,w5,w6,b4⟩:=ih (.shr (dv e)) y6 a1 hj' (a2 _ hn) fun a ha=>hx a (a9 _ ha)
  rw [cO]
  refine ⟨b1,⟨t++t2,by rw [b2,a3,nO]⟩,fun a ha hg=>?_,w5,w6,?_⟩
  ·rcases List.mem_cons.mp ha with z|z
   ·subst z
    have:=a4 hg
    rw [b2,aU]
    exact bD _ this
   ·exact b3 a z hg
  ·rw [aB,lC (ρ1:=[.shr B,.shr S,.own (.dict (de (kH l))),.own (.list ((l.map (·.1)).map aC)),.shr (.int (j:Nat)),.shr (dv e),z6]) rfl q]
   exact b4
structure OC (st:List Str) (es:List da) (l:NZ) (j:Nat):Prop where
 beg:(st,0)∈l
 rch:∀ p∈l,∃ rs:List da,(∀ e∈rs,e∈es)/\o6 rs st=some p.1/\(rs.length:Int)=p.2
 up:l.Pairwise fun p q=>p.2<=q.2
 mx:∀ p,l[j]?=some p->∀ q∈l,q.2<=p.2+1
 cls:∀ i p,i<j->l[i]?=some p->∀ e∈es,cX p.1 e.needs e.bars=true->∃ q∈l,q.1=b9 e p.1/\q.2<=p.2+1
theorem wj (x:List Str) (n:Int):∀ (xs:List da) (l:NZ),∃ t:NZ,xs.foldl (m8 x n) l=l++t/\∀ p∈t,p.2=n+1/\∃ e∈xs,cX x e.needs e.bars=true/\p.1=b9 e x
 |[],l=>⟨[],by simp,fun _ h=>(nomatch h)⟩
 |e::r,l=>by
  rw [cO]
  by_cases hc:cX x e.needs e.bars=true/\b9 e x∉l.map (·.1)
  ·have:m8 x n l e=l++[(b9 e x,n+1)]:=by unfold m8;rw [if_pos hc]
   rw [this]
   obtain ⟨t,h1,h2⟩:=wj x n r (l++[(b9 e x,n+1)])
   refine ⟨(b9 e x,n+1)::t,by rw [h1];simp,fun p hp=>?_⟩
   rcases List.mem_cons.mp hp with z|z
   ·subst z;exact ⟨rfl,e,ah,hc.1,rfl⟩
   ·obtain ⟨k1,a,k2,k3⟩:=h2 p z
    exact ⟨k1,a,a9 _ k2,k3⟩
  ·have:m8 x n l e=l:=by unfold m8;rw [if_neg hc]
   rw [this]
   obtain ⟨t,h1,h2⟩:=wj x n r l
   refine ⟨t,h1,fun p hp=>?_⟩
   obtain ⟨k1,a,k2,k3⟩:=h2 p hp
   exact ⟨k1,a,a9 _ k2,k3⟩
theorem Oa {st x:List Str}{es:List da}{l:NZ}{j:Nat}{p:List Str×Int} (D:OC st es l j) (hj:l[j]?=some p) (hx:x=p.1) (hb:∀ e∈es,cX x e.needs e.bars=true->b9 e x∈(es.foldl (m8 x p.2) l).map (·.1)):OC st es (es.foldl (m8 x p.2) l) (j+1):=by
 subst hx
 obtain ⟨t,e,ht⟩:=wj p.1 p.2 es l
 rw [e] at hb ⊢
 have hpm:p∈l:=df hj
 have top:∀ q∈l++t,q.2<=p.2+1:=fun q hq=>by
  rcases List.mem_append.mp hq with z|z
  ·exact D.mx p hj q z
  ·exact Int.le_of_eq (ht q z).1
 have up:(l++t).Pairwise fun p q=>p.2<=q.2:=by
  refine List.pairwise_append.mpr ⟨D.up,?_,fun q hq r hr=>by rw [(ht r hr).1];exact D.mx p hj q hq⟩
  exact wI fun q hq r hr=>by rw [(ht q hq).1,(ht r hr).1];exact sY _
 have hjl:j<l.length:=(List.getElem?_eq_some_iff.mp hj).1
 have hj':(l++t)[j]?=some p:=by rw [bj hjl];exact hj
 refine ⟨bD _ D.beg,fun q hq=>?_,up,fun q hq r hr=>?_,fun i q hi hq a ha hg=>?_⟩
 ·rcases List.mem_append.mp hq with z|z
  ·exact D.rch q z
  ·obtain ⟨k1,a,k2,k3,k4⟩:=ht q z
   obtain ⟨rs,r1,r2,r3⟩:=D.rch p hpm
   refine ⟨rs++[a],fun b hb=>?_,by rw [k4];exact vg a _ _ _ r2 k3,by rw [k1,aN,dD,<- r3];rfl⟩
   rcases List.mem_append.mp hb with w|w
   ·exact r1 b w
   ·rw [List.mem_singleton.mp w];exact k2
 ·have h1:=top r hr
  obtain ⟨q1,q2⟩:=List.getElem?_eq_some_iff.mp hq
  obtain ⟨p1,p2⟩:=List.getElem?_eq_some_iff.mp hj'
  have:=List.pairwise_iff_getElem.mp up j (j+1) p1 q1 (dq j)
  rw [q2,p2] at this
  omega
 ·by_cases hij:i=j
  ·subst hij
   rw [hj'] at hq
   cases hq
   obtain ⟨q,hq,eq⟩:=List.mem_map.mp (hb a ha hg)
   exact ⟨q,hq,eq,top q hq⟩
  ·have hi':i<j:=by omega
   rw [bj (by omega)] at hq
   obtain ⟨r,r1,r2,r3⟩:=D.cls i q hi' hq a ha hg
   exact ⟨r,bD _ r1,r2,r3⟩
theorem ET {fs st:List Str}{es:List da} (g:eU fs es) (S:D):∀ (k fuel j:Nat) (z5 z6:Sl) (l:NZ),L6 fs st es l->OC st es l j->j<=l.length->(∀ i x,i<j->(l.map (·.1))[i]?=some x->∀ e∈es,cX x e.needs e.bars=true->b9 e x∈l.map (·.1))->65-j<=k->k<fuel ->
  ∃ (l':NZ) (y3 y4 y5 y6:Sl),(L6 fs st es l'/\OC st es l' l'.length)/\(∀ x∈l'.map (·.1),∀ e∈es,cX x e.needs e.bars=true->b9 e x∈l'.map (·.1))/\iH (eJ (g2 (rB 4) (bS (J.ac (rB 3) J.aG) (gK iP)) wO)) W5 fuel [.shr (dQ fs es),.shr S,.own (.dict (de (kH l))),.own (.list ((l.map (·.1)).map aC)),.shr (.int (j:Nat)),z5,z6]=.ok (.nx [.shr (dQ fs es),.shr S,.own (.dict (de (kH l'))),y3,y4,y5,y6])
 |_,0,_,_,_,_,_,_,_,_,_,hf=>absurd hf (lO _)
 |k,fuel+1,j,z5,z6,l,h,hv,hj,hc,hk,hf=>by
  have few:=h.few g
  have ht:eJ (g2 (rB 4) (bS (J.ac (rB 3) J.aG) (gK iP)) wO) [.shr (dQ fs es),.shr S,.own (.dict (de (kH l))),.own (.list ((l.map (·.1)).map aC)),.shr (.int (j:Nat)),z5,z6]=.ok (decide (j<l.length)):=by
   walk_at "zz"
   simp only [Int.ofNat_lt]
  rw [iH,ht]
  by_cases hl:j<l.length
  ·rw [decide_eq_true hl]
   simp only
   have hlm:j<(l.map (·.1)).length:=by rw [ao];exact hl
   have hx:(l.map (·.1))[j]?=some (l.map (·.1))[j]:=aY hlm
   have hn:((l.map (·.1))[j],l[j].2)∈l:=by
    have:((l.map (·.1))[j],l[j].2)=l[j]:=by rw [kK]
    rw [this]
    exact iK hl
   obtain ⟨b1,⟨t,b2⟩,b3,y5,y6,b4⟩:=U3 g (dQ fs es) S j z5 z6 h hx hn es fun _ h=>h
   have hb:W5 [.shr (dQ fs es),.shr S,.own (.dict (de (kH l))),.own (.list ((l.map (·.1)).map aC)),.shr (.int (j:Nat)),z5,z6]=.ok (.nx [.shr (dQ fs es),.shr S,.own (.dict (de (kH (es.foldl (m8 (l.map (·.1))[j] l[j].2) l)))),.own (.list (((es.foldl (m8 (l.map (·.1))[j] l[j].2) l).map (·.1)).map aC)),.shr (.int ((j+1:Nat):Int)),y5,y6]):=by
    unfold W5
    walk_at "zz"
    rw [pZ (ds:=es.map dv)]
    ·rw [b4]
     walk_at "zz"
     rfl
    ·walk_at "zz"
     rw [TV]
     walk_at "zz"
   rw [hb]
   obtain ⟨l',w3,w4,w5,w6,e1,e2,e3⟩:=ET g S (k-1) fuel (j+1) y5 y6 _ b1 (Oa hv (aY hl) (kK (f:=fun p:List Str×Int=>p.1) (h:=hlm)) b3) (by rw [b2,aN];omega) (fun i x hi hix e he hg=>by
    rw [b2,aU] at hix
    have hi':i<(l.map (·.1)).length:=by rw [ao];omega
    rw [bj hi'] at hix
    by_cases hij:i=j
    ·subst hij
     rw [hx] at hix
     cases hix
     exact b3 e he hg
    ·have:=hc i x (by omega) hix e he hg
     rw [b2,aU]
     exact bD _ this) (by omega) (by omega)
   exact ⟨l',w3,w4,w5,w6,e1,e2,e3⟩
  ·rw [decide_eq_false hl]
   simp only
   refine ⟨l,_,_,z5,z6,⟨h,(show j=l.length by omega) ▸ hv⟩,fun x hx=>?_,rfl⟩
   obtain ⟨i,hi,e⟩:=gz hx
   rw [ao] at hi
   exact hc i x (by omega) (by rw [aY (by rw [ao];exact hi),e])
theorem Km {fs st:List Str}{es:List da} (g:eU fs es) (hs:Sub fs st):∃ l:NZ,(l.map (·.1)).Nodup/\l.length<=64/\(∀ x,x∈l.map (·.1)↔Uc es st x)/\OC st es l l.length/\jy [dQ fs es,aC st]=.ok (.dict ((.none,.none)::de (kH l))):=by
 have h0:L6 fs st es [(st,0)]:=⟨by simp,List.mem_singleton.mpr rfl,fun p hp=>by rw [List.mem_singleton.mp hp];exact hs,fun p hp=>by rw [List.mem_singleton.mp hp];exact ⟨[],fun _ h=>(nomatch h),rfl⟩⟩
 obtain ⟨l,y3,y4,y5,y6,⟨e1,p1⟩,e2,e3⟩:=ET g (aC st) 65 100000 0 .no .no [(st,0)] h0 ⟨List.mem_singleton.mpr rfl,fun p hp=>by rw [List.mem_singleton.mp hp];exact ⟨[],fun _ h=>(nomatch h),rfl,rfl⟩,by simp,fun p hp q hq=>by cases hp;rw [List.mem_singleton.mp hq];show (0:Int)<=0+1;decide,fun i p hi=>absurd hi (lO _)⟩ (cV _) (fun i x hi=>absurd hi (lO _)) (by simp) (by decide)
 refine ⟨l,e1.nd,e1.few g,fun x=>⟨e1.rch x,?_⟩,p1,?_⟩
 ·rintro ⟨rs,r1,r2⟩
  exact tQ (M:=fun x=>x∈l.map (·.1)) e2 rs st x e1.beg r1 r2
 ·unfold jy
  refine cn ?_
  rw [O9]
  unfold bF
  walk_at "zz"
  rw [W2 (x:=st) (d:=.int 0) rfl rfl]
  walk_at "zz"
  have e3':iH (eJ (g2 (rB 4) (bS (J.ac (rB 3) J.aG) (gK iP)) wO)) W5 100000 [.shr (dQ fs es),.shr (aC st),.own (.dict (de [(st,.int 0)])),.own (.list [aC st]),.shr (.int 0),.no,.no]=_:=e3
  unfold wO at e3'
  rw [e3']
  walk_at "zz"
  rw [W0 e1.ne rfl]
  walk_at "zz"
theorem Ah.keys {fs st:List Str}{es:List da}{l:LZ} (h:Ah fs st es l) (x:List Str):x∈l.map (·.1)↔Uc es st x:=by
 constructor
 ·intro hx
  obtain ⟨p,hp,rfl⟩:=List.mem_map.mp hx
  obtain ⟨r1,r2,_⟩:=h.ok.row p hp
  exact ⟨p.2,r1,r2⟩
 ·rintro ⟨rs,r1,r2⟩
  exact tQ (M:=fun x=>x∈l.map (·.1)) h.all rs st x (aM (f:=(·.1)) h.ok.beg) r1 r2
theorem zd {β:Type} (len:β->Int) {l:List (List Str×β)}{es:List da} (hc:∀ p∈l,∀ e∈es,cX p.1 e.needs e.bars=true->∃ q∈l,q.1=b9 e p.1/\len q.2<=len p.2+1):∀ (rs:List da) (p:List Str×β) (x:List Str),p∈l->(∀ e∈rs,e∈es)->o6 rs p.1=some x->∃ q∈l,q.1=x/\len q.2<=len p.2+rs.length
 |[],p,x,hp,_,h=>by
  cases h
  exact ⟨p,hp,rfl,by simp⟩
 |a::r,p,x,hp,he,h=>by
  have h':(if cX p.1 a.needs a.bars then o6 r (b9 a p.1) else none)=some x:=h
  split at h'
  ·rename_i hg
   obtain ⟨q,q1,q2,q3⟩:=hc p hp a (he a ah) hg
   rw [<- q2] at h'
   obtain ⟨s,s1,s2,s3⟩:=zd len hc r q x q1 (fun e h=>he e (a9 _ h)) h'
   refine ⟨s,s1,s2,?_⟩
   rw [aT]
   omega
  ·cases h'
abbrev GZ:=List (Str×Int)
def qJ (p:Str×Int):D:=.tuple [.str p.1,.int p.2]
def m9 (l:GZ):D:=.tuple (l.map qJ)
def wv (l:GZ) (x:List Str):Int:=((l.filter fun p=>decide (p.1∈x)).map (·.2)).sum
structure IX (fs:List Str) (l:GZ):Prop where
 sub:(l.map (·.1)).Sublist fs
 lim:∀ p∈l,-99<=p.2/\p.2<=99
theorem Ob (l:GZ):GB (.list (l.map fun p=>b_ p.2))=.ok (.int (l.map (·.2)).sum):=by
 unfold GB
 dsimp only
 rw [show (l.map fun p=>b_ p.2)=(l.map (·.2)).map .int by rw [cx];rfl,oW]
theorem EU {l:GZ}{x:List Str} (hl:l.length<=60):rL [aC x,m9 l]=.ok (.int (wv l x)):=by
 unfold rL
 refine cn ?_
 unfold xP bF m9
 walk_at "zz"
 rw [if_pos (by omega)]
 rw [eE _ qJ (fun p=>b_ p.2) (fun p=>decide (p.1∈x)) l fun p hp=>z3 (by
  walk_at "zz"
  rw [lZ]
  walk_at "zz") fun _=>rfl]
 walk_at "zz"
 rw [Ob]
 walk_at "zz"
 rfl
theorem wk {l:GZ}{x:List Str} (hl:l.length<=60):fR [m9 l,aC x]=.ok (.int (wv l x)):=by
 unfold fR
 refine cn ?_
 unfold mU bF m9
 walk_at "zz"
 rw [if_pos (by omega)]
 rw [eE _ qJ (fun p=>b_ p.2) (fun p=>decide (p.1∈x)) l fun p hp=>z3 (by
  walk_at "zz"
  rw [lZ]
  walk_at "zz") fun _=>rfl]
 walk_at "zz"
 rw [Ob]
 walk_at "zz"
 rfl
theorem IY (p:Str×Int):sD (qJ p)=true:=rfl
theorem QO {fs:List Str}{es:List da}{p:Str×Int} (hp:p.1∈fs) (h1:-99<=p.2/\p.2<=99):rK [dQ fs es,qJ p]=.ok (.bool true):=by
 unfold rK
 refine cn ?_
 unfold rJ bF
 walk_at "zz"
 rw [IY]
 unfold qJ
 walk_at "zz"
 rw [wc]
 walk_at "zz"
 rw [jz]
 rw [show decide (((2:Nat):Int)=2)=true from rfl]
 walk_at "zz"
 rw [VW]
 walk_at "zz"
 rw [GF,GH]
 walk_at "zz"
 rw [NL]
 walk_at "zz"
 rw [lZ]
 simp only [hp]
 walk_at "zz"
 rw [EG]
 walk_at "zz"
 rw [show Q1 (.int 99)=.ok (.int (-99)) from rfl]
 walk_at "zz"
 rw [tN h1.1 h1.2]
 walk_at "zz"
theorem Oc:∀ l:GZ,noDs (l.map qJ)=true
 |[]=>rfl
 |p::r=>by
  have:=Oc r
  show (sD (qJ p)&&noDs (r.map qJ))=true
  rw [this,IY];rfl
theorem GR {fs:List Str}{es:List da}{l:GZ} (nd:fs.Nodup) (hf:fs.length<=6) (h:IX fs l):kf [dQ fs es,m9 l]=.ok .none:=by
 have ll:l.length<=6:=by have:=h.sub.length_le;rw [ao] at this;omega
 unfold kf
 refine CD (ρ:=[.shr (dQ fs es),.shr (m9 l)]) ?_
 unfold ke bF m9
 walk_at "zz"
 rw [GG,Oc,wc]
 walk_at "zz"
 rw [if_pos (by omega)]
 rw [dO _ qJ (fun _=>cr true) l fun p hp=>fP rfl (by
  walk_at "zz"
  rw [QO (h.sub.subset (aM (f:=(·.1)) hp)) (h.lim p hp)])]
 walk_at "zz"
 rw [show fZ (fun bs=>bs.all id) (.list (l.map fun _=>cr true))=.ok (.bool true) from (iX _ (fun _=>true) l).trans (by simp)]
 walk_at "zz"
 have hs:mJ (oT 2 [] (jO (rB 1)) kT (rS 0)) [.shr (dQ fs es),.shr (.tuple (l.map qJ))]=.ok (.int (l.length:Nat)):=by
  unfold mJ oT
  walk_at "zz"
  rw [if_pos (by omega)]
  rw [dO _ qJ (fun p=>aS p.1) l fun p hp=>EA rfl (by walk_at "zz")]
  walk_at "zz"
  have:(l.map fun p=>aS p.1)=(l.map (·.1)).map .str:=by rw [cx];rfl
  rw [this,strsOf_map]
  simp only [xw,ED _ (nd.sublist h.sub),ao]
 rw [hs]
 walk_at "zz"
 rw [decide_eq_false (by omega)]
 walk_at "zz"
theorem QP {k:Int} (h0:0<=k) (h1:k<=64):lu [.int k]=.ok .none:=by
 unfold lu
 refine CD (ρ:=[.shr (.int k)]) ?_
 unfold lr bF
 walk_at "zz"
 rw [tN h0 h1]
 walk_at "zz"
theorem Od {fs st:List Str}{es rs:List da} (g:eU fs es) (h:V_ es rs) (hs:Sub fs st) {x:List Str} (hx:o6 rs st=some x):rM [dQ fs es,aC st,nz rs]=.ok (.list ((jA rs st).map aC)):=by
 have ht:=Br rs st
 rw [hx] at ht
 have ht:=of_decide_eq_true ht
 unfold rM
 refine cn ?_
 unfold xQ bF
 walk_at "zz"
 rw [EF g hs]
 walk_at "zz"
 rw [GN g h]
 walk_at "zz"
 rw [GO g h hs]
 walk_at "zz"
 rw [decide_eq_false (by omega)]
 walk_at "zz"
theorem Kn (ns:List Int) (k:Int) (hk:0<=k) (fs:List Str) (hl:fs.length<=6):∃ l:GZ,mT [.list (ns.map .int),.int k,aC fs]=.ok (m9 l)/\IX fs l:=by
 suffices H:∃ l:GZ,kF (bF 6 [.list (ns.map .int),.int k,aC fs])=.ok (.rt (m9 l))/\IX fs l from H.elim fun l h=>⟨l,cn h.1,h.2⟩
 unfold kF bF
 walk_at "yy"
 rw [pZ (ds:=(l7 0 fs).map cI)]
 ·have H:=nZ cI (fun (a:Unit) (_:Nat×Str)=>a) (fun bT _ ρ=>∃ pre,pre++bT.map (·.2)=fs/\∃ l:GZ,(l.map (·.1)).Sublist pre/\(∀ p∈l,-99<=p.2/\p.2<=99)/\∃ z4 z5,ρ=[.shr (.list (ns.map .int)),.shr (.int k),.shr (aC fs),.own (.list (l.map qJ)),z4,z5]) (kt:=li 2 (cw (bN 4) (cw (bN 5) mz)))
   (gb:=eg (eJ (g2 (ej 3 bi (J.ac (rS 0) (J.ac (g2 (rB 1) (g2 (kI 2) (rB 4) si) dI) (J.ac (kI 3) J.aG)))) (kI 0) Mn)) (oR 3 (eL (J.ac (rS 5) (J.ac (g2 (ej 3 bi (J.ac (rS 0) (J.ac (g2 (g2 (rB 1) (g2 (kI 2) (rB 4) si) dI) (kI 1) dI) (J.ac (kI 19) J.aG)))) (kI 6) PN) J.aG)) .tuple)) (fun ρ=>.ok (.nx ρ)))
  obtain ⟨ρ',h1,pre,h2,l,h3,h5,z4,z5,h4⟩:=H (by
   rintro ⟨i,x⟩ bT _ ρ ⟨pre,h2,l,h3,h5,z4,z5,rfl⟩
   have lp:=h3.length_le
   rw [ao] at lp
   have hpl:pre.length<=6:=by
    have:=congrArg nM h2
    rw [aN] at this
    omega
   refine ⟨[.shr (.list (ns.map .int)),.shr (.int k),.shr (aC fs),.own (.list (l.map qJ)),.shr (.int (i:Nat)),.shr (.str x)],?_⟩
   by_cases c1:eT ns (k+2*(i:Nat)) 3 > 0
   ·have b0:=fF ns (k+2*(i:Nat)+1) 19 (by decide)
    have b1:=gf ns (k+2*(i:Nat)+1) 19 (by decide)
    refine ⟨[.shr (.list (ns.map .int)),.shr (.int k),.shr (aC fs),.own (.list ((l++[(x,eT ns (k+2*(i:Nat)+1) 19-6)]).map qJ)),.shr (.int (i:Nat)),.shr (.str x)],rfl,?_,pre++[x],by rw [<- h2];simp,_,(by rw [aU];exact List.Sublist.append h3 (dg _)),fun p hp=>?_,_,_,rfl⟩
    ·walk_at "zz"
     rw [lA (by decide) (by decide)]
     walk_at "zz"
     rw [eQ ns _ 3 (by omega) (by decide)]
     walk_at "zz"
     rw [decide_eq_true c1]
     walk_at "zz"
     rw [aU]
     refine Bk (ds:=l.map qJ) rfl ?_ (by rw [ao];omega)
     walk_at "zz"
     rw [lA (by decide) (by decide)]
     walk_at "zz"
     rw [eQ ns _ 19 (by omega) (by decide)]
     walk_at "zz"
     rfl
    ·rcases List.mem_append.mp hp with hp|hp
     ·exact h5 p hp
     ·rw [List.mem_singleton.mp hp]
      show -99<=_-6/\_-6<=(99:Int)
      omega
   ·refine ⟨[.shr (.list (ns.map .int)),.shr (.int k),.shr (aC fs),.own (.list (l.map qJ)),.shr (.int (i:Nat)),.shr (.str x)],rfl,?_,pre++[x],by rw [<- h2];simp,_,h3.trans (gd _ _),h5,_,_,rfl⟩
    walk_at "zz"
    rw [lA (by decide) (by decide)]
    walk_at "zz"
    rw [eQ ns _ 3 (by omega) (by decide)]
    walk_at "zz"
    rw [decide_eq_false c1]
    walk_at "zz") (l7 0 fs) () [.shr (.list (ns.map .int)),.shr (.int k),.shr (aC fs),.own (.list []),.no,.no] ⟨[],by rw [n_];rfl,[],dg _,fun _ h=>(nomatch h),_,_,rfl⟩
  refine ⟨l,?_,?_,h5⟩
  ·rw [h1,h4]
   walk_at "zz"
   rw [fz]
   walk_at "zz"
   rfl
  ·rw [dL,cA] at h2
   rw [<- h2]
   exact h3
 ·walk_at "zz"
  rw [vc]
def q9 (f:List Str->Int):List (List Str)->List Str->Int->List Str
 |[],b,_=>b
 |x::r,b,m=>if f x > m then q9 f r x (f x) else q9 f r b m
theorem ze (f d:List Str->Int):∀ (r:List (List Str)) (b:List Str),(b::r).Pairwise (fun a c=>d a<=d c)->q9 f r b (f b)∈b::r/\(∀ z∈b::r,f z<=f (q9 f r b (f b)))/\∀ z∈b::r,f z=f (q9 f r b (f b))->d (q9 f r b (f b))<=d z
 |[],b,_=>⟨ah,fun z hz=>by rw [List.mem_singleton.mp hz];exact sY _,fun z hz _=>by rw [List.mem_singleton.mp hz];exact sY _⟩
 |x::r,b,hp=>by
  obtain ⟨h1,h2⟩:=List.pairwise_cons.mp hp
  obtain ⟨h3,h4⟩:=List.pairwise_cons.mp h2
  unfold q9
  by_cases hx:f x > f b
  ·rw [if_pos hx]
   obtain ⟨a1,a2,a3⟩:=ze f d r x h2
   have hxx:=a2 x ah
   refine ⟨a9 _ a1,fun z hz=>?_,fun z hz e=>?_⟩
   ·rcases List.mem_cons.mp hz with rfl|hz
    ·omega
    ·exact a2 z hz
   ·rcases List.mem_cons.mp hz with rfl|hz
    ·omega
    ·exact a3 z hz e
  ·rw [if_neg hx]
   obtain ⟨a1,a2,a3⟩:=ze f d r b (List.pairwise_cons.mpr ⟨fun z hz=>h1 z (a9 _ hz),h4⟩)
   have hbb:=a2 b ah
   have hm:q9 f r b (f b)∈b::x::r:=by
    rcases List.mem_cons.mp a1 with e|e
    ·rw [e];exact ah
    ·exact a9 _ (a9 _ e)
   refine ⟨hm,fun z hz=>?_,fun z hz e=>?_⟩
   ·rcases List.mem_cons.mp hz with rfl|hz
    ·exact hbb
    ·rcases List.mem_cons.mp hz with rfl|hz
     ·omega
     ·exact a2 z (a9 _ hz)
   ·rcases List.mem_cons.mp hz with rfl|hz
    ·exact a3 z ah e
    ·rcases List.mem_cons.mp hz with rfl|hz
     ·have:=a3 b ah (by omega)
      have:=h1 z ah
      omega
     ·exact a3 z (a9 _ hz) e
theorem CG (f:List Str->Int) {ge:az->R D}{ρb:az} (h:∀ x,ge (ρb.set 0 (.shr (aC x)))=.ok (.int (f x))):∀ (r:List (List Str)) (b:List Str) (m:Int),v3 ge ρb (r.map aC) (aC b) m=.ok (aC (q9 f r b m))
 |[],b,m=>rfl
 |x::r,b,m=>by
  rw [aB]
  unfold v3 q9
  rw [h x]
  dsimp only
  by_cases hx:f x > m
  ·rw [if_pos hx,if_pos hx];exact CG f h r x (f x)
  ·rw [if_neg hx,if_neg hx];exact CG f h r b m
theorem Oe (f:List Str->Int) {ge:az->R D}{ρb:az} (h:∀ x,ge (ρb.set 0 (.shr (aC x)))=.ok (.int (f x))) (b:List Str) (r:List (List Str)):yT ge ρb [.list ((b::r).map aC)]=.ok (aC (q9 f r b (f b))):=by
 rw [aB]
 unfold yT
 dsimp only
 rw [h b]
 exact CG f h r b (f b)
theorem CH {β:Type}{p q:List Str×β}:∀ {l:List (List Str×β)},(l.map (·.1)).Nodup->p∈l->q∈l->p.1=q.1->p=q
 |[],_,h,_,_=>nomatch h
 |x::r,nd,hp,hq,e=>by
  rw [aB,OT] at nd
  rcases List.mem_cons.mp hp with z|hp'
  ·rcases List.mem_cons.mp hq with y|hq'
   ·rw [z,y]
   ·exact (nd.1 (by rw [<- z,e];exact aM (f:=(·.1)) hq')).elim
  ·rcases List.mem_cons.mp hq with y|hq'
   ·exact (nd.1 (by rw [<- y,<- e];exact aM (f:=(·.1)) hp')).elim
   ·exact CH nd.2 hp' hq' e
theorem vh {l:LZ} (nd:(l.map (·.1)).Nodup) {p:List Str×List da} (hp:p∈l):o7 l p.1=p.2:=by
 have hm:=qI (aM (f:=(·.1)) hp)
 have:=CH nd hm hp rfl
 exact congrArg Prod.snd this
theorem QQ {fs st:List Str}{es:List da}{l:LZ} (hb:Ah fs st es l) (hn:GQ es l) {p:List Str×List da} (hp:p∈l) {rs:List da} (h1:∀ e∈rs,e∈es) (h2:o6 rs st=some p.1):p.2.length<=rs.length:=by
 obtain ⟨q,q1,q2,q3⟩:=zd (fun r:List da=>(r.length:Int)) (fun p hp e he hg=>by
  obtain ⟨q,a,b,c⟩:=hn.cls p hp e he hg
  exact ⟨q,a,b,by omega⟩) rs (st,[]) p.1 hb.ok.beg h1 h2
 have:=CH hb.ok.nd q1 hp q2
 subst this
 simp only [bJ] at q3
 omega
theorem U4 {st:List Str}{es:List da}{n:NZ} (P:OC st es n n.length) (nd:(n.map (·.1)).Nodup) {p:List Str×Int} (hp:p∈n) {rs:List da} (h1:∀ e∈rs,e∈es) (h2:o6 rs st=some p.1):p.2<=rs.length:=by
 obtain ⟨q,q1,q2,q3⟩:=zd (fun n:Int=>n) (fun p hp e he hg=>by
  obtain ⟨i,hi,hx⟩:=gz hp
  exact P.cls i p hi (by rw [aY hi,hx]) e he hg) rs (st,0) p.1 P.beg h1 h2
 have:=CH nd q1 hp q2
 subst this
 omega
theorem vi {fs st:List Str}{es:List da}{l:LZ}{n:NZ} (hb:Ah fs st es l) (hn:GQ es l) (P:OC st es n n.length) (nd:(n.map (·.1)).Nodup) {p:List Str×List da}{q:List Str×Int} (hp:p∈l) (hq:q∈n) (e:p.1=q.1):(p.2.length:Int)=q.2:=by
 obtain ⟨rs,r1,r2,r3⟩:=P.rch q hq
 have a:=QQ hb hn hp r1 (r2.trans (congrArg some e.symm))
 obtain ⟨b1,b2,_⟩:=hb.ok.row p hp
 have b:=U4 P nd hq b1 (b2.trans (congrArg some e))
 omega
structure GS (gn:GZ) (l:LZ) (m:Int) (p:List Str×List da):Prop where
 mem:p∈l
 near:(p.2.length:Int)<=m
 top:∀ q∈l,(q.2.length:Int)<=m->wv gn q.1<=wv gn p.1
 first:∀ q∈l,(q.2.length:Int)<=m->wv gn q.1=wv gn p.1->p.2.length<=q.2.length
theorem vj {fs st:List Str}{es:List da}{l:LZ}{gn:GZ}{m:Int} (g:eU fs es) (hs:Sub fs st) (nd:fs.Nodup) (hf:fs.length<=6) (hg:IX fs gn) (m0:0<=m) (m1:m<=64) (hb:Ah fs st es l) (hn:GQ es l) (e:jw [dQ fs es,aC st]=.ok (.dict ((.none,.none)::de (hX l)))) :
  ∃ p,GS gn l m p/\eI [dQ fs es,aC st,m9 gn,.int m]=.ok (.tuple [aC p.1,nz p.2]):=by
 have ll:gn.length<=6:=by have:=hg.sub.length_le;rw [ao] at this;omega
 have few:=hb.ok.few g
 have ixr:∀ x∈l.map (·.1),Ba (.dict ((.none,.none)::de (hX l))) (aC x)=.ok (nz (o7 l x)):=fun x hx=>NY (l:=hX l) (by rw [jT];exact hb.ok.nd) (EN (qI hx))
 have st0:st∈(l.map (·.1)).filter fun x=>decide (((o7 l x).length:Int)<=m):=by
  refine List.mem_filter.mpr ⟨aM (f:=(·.1)) hb.ok.beg,?_⟩
  have:=vh hb.ok.nd hb.ok.beg
  simp only at this
  rw [this]
  simpa using m0
 cases hF:(l.map (·.1)).filter fun x=>decide (((o7 l x).length:Int)<=m) with
 |nil=>rw [hF] at st0;cases st0
 |cons x0 r0 =>
  have up:(x0::r0).Pairwise fun a c=>((o7 l a).length:Int)<=(o7 l c).length:=by
   rw [<- hF]
   refine List.Pairwise.filter _ (List.pairwise_map.mpr (hn.up.imp_of_mem fun {p q} hp hq h=>?_))
   rw [vh hb.ok.nd hp,vh hb.ok.nd hq]
   omega
  obtain ⟨a1,a2,a3⟩:=ze (wv gn) (fun x=>((o7 l x).length:Int)) r0 x0 up
  generalize hy:q9 (wv gn) r0 x0 (wv gn x0)=y at a1 a2 a3
  rw [<- hF] at a1 a2 a3
  obtain ⟨y1,y2⟩:=List.mem_filter.mp a1
  have inn:∀ q∈l,(q.2.length:Int)<=m->q.1∈(l.map (·.1)).filter fun x=>decide (((o7 l x).length:Int)<=m):=fun q hq hm=>List.mem_filter.mpr ⟨aM (f:=(·.1)) hq,by rw [vh hb.ok.nd hq];exact decide_eq_true hm⟩
  refine ⟨(y,o7 l y),⟨qI y1,of_decide_eq_true y2,fun q hq hm=>a2 q.1 (inn q hq hm),fun q hq hm ee=>?_⟩,?_⟩
  ·have:=a3 q.1 (inn q hq hm) ee
   rw [vh hb.ok.nd hq] at this
   exact Int.ofNat_le.mp this
  have lf:=i6 (fun x=>decide (((o7 l x).length:Int)<=m)) (l.map (·.1))
  rw [ao] at lf
  unfold eI
  refine cn ?_
  unfold jx bF
  walk_at "zz"
  rw [EF g hs]
  walk_at "zz"
  rw [GR nd hf hg]
  walk_at "zz"
  rw [QP m0 m1]
  walk_at "zz"
  rw [e]
  walk_at "zz"
  rw [O0]
  walk_at "zz"
  rw [EI,jT]
  walk_at "zz"
  rw [if_pos (by omega)]
  rw [eE _ (fun x:List Str=>aC x) (fun x=>aC x) (fun x=>decide (((o7 l x).length:Int)<=m)) (l.map (·.1)) fun x hx=>oU (by
   walk_at "zz"
   rw [ixr x hx]
   walk_at "zz") fun _=>rfl]
  rw [hF]
  walk_at "zz"
  have hm:Be [2] (J.ac (rB 5) J.aG) (ej 2 rL (J.ac (rS 0) (J.ac (rS 1) J.aG))) [.shr (dQ fs es),.shr (aC st),.shr (m9 gn),.shr (.int m),.shr (.dict ((.none,.none)::de (hX l))),.own (.list (aC x0::AF (fun x=>aC x) r0)),.no]=.ok (aC y):=by
   unfold Be
   walk_at "zz"
   rw [<- hy]
   refine Oe (wv gn) (fun x=>?_) x0 r0
   walk_at "zz"
   rw [EU (by omega)]
  rw [hm]
  walk_at "zz"
  rw [ixr y y1]
  walk_at "zz"
theorem Of {ns:List Int} (h:ns≠[]):GC (.list (ns.map .int))=.ok (.int (IC ns)):=by
 unfold GC
 dsimp only
 rw [oW]
 dsimp only
 rw [if_pos (List.length_pos_iff.mpr h)]
theorem Og {ns:List Int} (h:ns≠[]):GA (.list (ns.map .int))=.ok (.int (Qg ns)):=by
 unfold GA
 dsimp only
 rw [oW]
 dsimp only
 rw [if_pos (List.length_pos_iff.mpr h)]
theorem QR {A B C M:D}{x:List Str}{gn:GZ}{r:D} (hl:gn.length<=60) (hC:C=m9 gn) (h:eI [A,B,C,M]=.ok (.tuple [aC x,r])):kE [A,B,C,M]=.ok (.int (wv gn x)):=by
 unfold kE
 refine cn ?_
 unfold mP bF
 walk_at "zz"
 rw [h]
 walk_at "zz"
 rw [show bf (.tuple [aC x,r]) (.int 0)=.ok (aC x) from rfl]
 walk_at "zz"
 rw [hC,EU hl]
 walk_at "zz"
theorem QS {A B C M x r:D} (h:eI [A,B,C,M]=.ok (.tuple [x,r])):lT [A,B,C,M]=.ok r:=by
 unfold lT
 refine cn ?_
 unfold oY bF
 walk_at "zz"
 rw [h]
 walk_at "zz"
 rw [show bf (.tuple [x,r]) (.int 1)=.ok r from rfl]
 walk_at "zz"
theorem GS.mono {gn:GZ}{l:LZ}{m m':Int}{p p':List Str×List da} (h:GS gn l m p) (h':GS gn l m' p') (hm:m<=m'):wv gn p.1<=wv gn p'.1:=h'.top p h.mem (qr h.near hm)
section
variable {fs st:List Str}{es:List da}{l:LZ}{n:NZ}{gn:GZ}{m:Int}{p:List Str×List da}
theorem U5 (hb:Ah fs st es l) (hn:GQ es l) (P:OC st es n n.length) (nd:(n.map (·.1)).Nodup) (hk:∀ x,x∈n.map (·.1)↔Uc es st x) (h:GS gn l m p):wv gn p.1=IC ((n.filter fun q=>decide (q.2<=m)).map fun q=>wv gn q.1):=by
 refine ID ?_ fun a ha=>?_
 ·obtain ⟨q,q1,q2⟩:=List.mem_map.mp ((hk p.1).mpr ((hb.keys p.1).mp (aM (f:=(·.1)) h.mem)))
  have:=vi hb hn P nd h.mem q1 q2.symm
  have hm:=h.near
  refine List.mem_map.mpr ⟨q,List.mem_filter.mpr ⟨q1,decide_eq_true (by omega)⟩,by rw [q2]⟩
 ·obtain ⟨q,q1,rfl⟩:=List.mem_map.mp ha
  obtain ⟨q1,q2⟩:=List.mem_filter.mp q1
  have q2:=of_decide_eq_true q2
  obtain ⟨o,o1,o2⟩:=List.mem_map.mp ((hb.keys q.1).mpr ((hk q.1).mp (aM (f:=(·.1)) q1)))
  have:=vi hb hn P nd o1 q1 o2
  rw [<- o2]
  exact h.top o o1 (by omega)
theorem U6 (hb:Ah fs st es l) (hn:GQ es l) (P:OC st es n n.length) (nd:(n.map (·.1)).Nodup) (hk:∀ x,x∈n.map (·.1)↔Uc es st x) (h:GS gn l m p):(p.2.length:Int)=Qg ((n.filter fun q=>decide (wv gn q.1=wv gn p.1)).map (·.2)):=by
 refine Nm ?_ fun a ha=>?_
 ·obtain ⟨q,q1,q2⟩:=List.mem_map.mp ((hk p.1).mpr ((hb.keys p.1).mp (aM (f:=(·.1)) h.mem)))
  have:=vi hb hn P nd h.mem q1 q2.symm
  refine List.mem_map.mpr ⟨q,List.mem_filter.mpr ⟨q1,decide_eq_true (by rw [q2])⟩,this.symm⟩
 ·obtain ⟨q,q1,rfl⟩:=List.mem_map.mp ha
  obtain ⟨q1,q2⟩:=List.mem_filter.mp q1
  have q2:=of_decide_eq_true q2
  obtain ⟨o,o1,o2⟩:=List.mem_map.mp ((hb.keys q.1).mpr ((hk q.1).mp (aM (f:=(·.1)) q1)))
  have e:=vi hb hn P nd o1 q1 o2
  have hm:=h.near
  by_cases c:(o.2.length:Int)<=m
  ·have:=h.first o o1 c (by rw [o2];exact q2)
   omega
  ·omega
end
def Xo:az->R Fl:=(aQ (eZ 8 (bS (J.ac (eN 1 [5,7,4] (El (rB 5)) (eJ (g2 (g2 (rB 1) (rB 0) Ba) (rB 2) K_)) (ej 2 fR (J.ac (rS 3) (J.ac (rS 0) J.aG)))) J.aG) (gK GC))) (aQ (eg (Dh (eJ (g2 (ej 4 kE (J.ac (rS 1) (J.ac (rS 2) (J.ac (rS 4) (J.ac (rS 7) J.aG))))) (rB 8) (qf true))) (yu (eJ (g2 (rB 6) kN (L0 true))) (eJ (g2 (rB 8) (rB 6) wO)))) (cL (kB false)) (fun ρ=>.ok (.nx ρ))) (aQ (eZ 6 (rS 8)) (aQ (eZ 9 (ej 4 lT (J.ac (rS 1) (J.ac (rS 2) (J.ac (rS 4) (J.ac (rS 7) J.aG)))))) (aQ (eg (eJ (g2 (bS (J.ac (rB 9) J.aG) (gK iP)) (bS (J.ac (eN 1 [4,8,5] (El (rB 5)) (eJ (g2 (ej 2 fR (J.ac (rS 1) (J.ac (rS 0) J.aG))) (rB 2) (qf false))) (g2 (rB 3) (rB 0) Ba)) J.aG) (gK GA)) (qf true))) (cL (kB false)) (fun ρ=>.ok (.nx ρ))) (eg (Dh (eJ (g2 (ej 2 fR (J.ac (rS 4) (J.ac (g2 (ej 3 rM (J.ac (rS 1) (J.ac (rS 2) (J.ac (rS 9) J.aG)))) (uW (kI 1)) bf) J.aG))) (rB 8) (qf true))) (eJ (g2 (bS (J.ac (rB 9) J.aG) (gK iP)) (rB 7) Mn))) (cL (kB false)) (fun ρ=>.ok (.nx ρ))))))))
theorem Ko:IF=(aQ (yz (ej 3 lX (J.ac (rS 0) (J.ac (kI 6) (J.ac (kI 6) J.aG)))) (li 3 (cw (bN 1) (cw (bN 2) (cw (bN 3) mz))))) (aQ (eZ 4 (ej 3 mT (J.ac (rS 0) (J.ac (kI 300) (J.ac (g2 (rB 1) (kI 0) bf) J.aG))))) (aQ (eZ 5 (ej 2 jy (J.ac (rS 1) (J.ac (rS 2) J.aG)))) (aQ (eZ 6 kN) (aQ (nu (jO (eL (J.ac (kI 0) (J.ac (kI 1) (J.ac (kI 2) (J.ac (kI 4) (J.ac (kI 64) J.aG))))) .tuple)) (bN 7) Xo) (cL (kB true))))))):=rfl
def U7:Option Int->D
 |none=>.none
 |some b=>.int b
theorem QT (o:Option Int):L0 true (U7 o) .none=.ok (.bool o.isSome):=by
 cases o with
 |none=>exact id rfl
 |some b=>exact id rfl
theorem vk {fs st:List Str}{es:List da}{l:LZ}{n:NZ}{gn:GZ}{m:Int}{p:List Str×List da} (g:eU fs es) (hs:Sub fs st) (hl:gn.length<=6) (hb:Ah fs st es l) (hn:GQ es l) (P:OC st es n n.length) (nd:(n.map (·.1)).Nodup) (hk:∀ x,x∈n.map (·.1)↔Uc es st x) (few:n.length<=64) (h:GS gn l m p)
  (e:eI [dQ fs es,aC st,m9 gn,.int m]=.ok (.tuple [aC p.1,nz p.2])) (A0 A3:D) (o:Option Int) (ho:∀ b,o=some b->b<=wv gn p.1) (z8 z9:Sl) :
  Xo [.shr A0,.shr (dQ fs es),.shr (aC st),.shr A3,.shr (m9 gn),.shr (.dict ((.none,.none)::de (kH n))),.shr (U7 o),.shr (.int m),z8,z9] =
   .ok (.nx [.shr A0,.shr (dQ fs es),.shr (aC st),.shr A3,.shr (m9 gn),.shr (.dict ((.none,.none)::de (kH n))),.shr (.int (wv gn p.1)),.shr (.int m),.shr (.int (wv gn p.1)),.shr (nz p.2)]):=by
 have lf:=i6 (fun q:List Str×Int=>decide (q.2<=m)) n
 have lf2:=i6 (fun q:List Str×Int=>decide (wv gn q.1=wv gn p.1)) n
 have ixr:∀ q∈n,Ba (.dict ((.none,.none)::de (kH n))) (aC q.1)=.ok (.int q.2):=fun q hq=>NY (l:=kH n) (by rw [jU];exact nd) (aM (f:=fun p:List Str×Int=>(p.1,b_ p.2)) hq)
 have due:=U5 hb hn P nd hk h
 have far:=U6 hb hn P nd hk h
 have it:yR (.dict ((.none,.none)::de (kH n)))=.ok (n.map fun q=>aC q.1):=by rw [EI,jU,cx];rfl
 obtain ⟨q0,q01,q02⟩:=List.mem_map.mp ((hk p.1).mpr ((hb.keys p.1).mp (aM (f:=(·.1)) h.mem)))
 have d0:=vi hb hn P nd h.mem q01 q02.symm
 have near:=h.near
 have ne1:((n.filter fun q=>decide (q.2<=m)).map fun q=>wv gn q.1)≠[]:=fun z=>by
  have:q0∈n.filter fun q=>decide (q.2<=m):=List.mem_filter.mpr ⟨q01,decide_eq_true (by omega)⟩
  rw [List.map_eq_nil_iff.mp z] at this
  cases this
 have ne2:((n.filter fun q=>decide (wv gn q.1=wv gn p.1)).map (·.2))≠[]:=fun z=>by
  have:q0∈n.filter fun q=>decide (wv gn q.1=wv gn p.1):=List.mem_filter.mpr ⟨q01,decide_eq_true (by rw [q02])⟩
  rw [List.map_eq_nil_iff.mp z] at this
  cases this
 obtain ⟨r1,r2,r3⟩:=hb.ok.row p h.mem
 have fewl:=hb.ok.few g
 have hrow:V_ es p.2:=⟨r1,by omega⟩
 obtain ⟨pre,hpre⟩:=zb p.2 st p.1 r2
 have hlead:rM [dQ fs es,aC st,nz p.2]=.ok (.list (pre.map aC++[aC p.1])):=by
  rw [Od g hrow hs r2,hpre,aU];rfl
 unfold Xo
 walk_at "zz"
 rw [O0]
 walk_at "zz"
 rw [it]
 walk_at "zz"
 rw [if_pos (by omega)]
 rw [eE _ (fun q:List Str×Int=>aC q.1) (fun q=>b_ (wv gn q.1)) (fun q=>decide (q.2<=m)) n fun q hq=>oU (by
  walk_at "zz"
  rw [ixr q hq]
  walk_at "zz") fun _=>by
   walk_at "zz"
   rw [wk (by omega)]]
 walk_at "zz"
 rw [show ((n.filter fun q=>decide (q.2<=m)).map fun q=>b_ (wv gn q.1))=(((n.filter fun q=>decide (q.2<=m)).map fun q=>wv gn q.1)).map .int by rw [cx];rfl,Of ne1,<- due]
 walk_at "zz"
 rw [QR (by omega) rfl e]
 walk_at "zz"
 rw [jz]
 rw [decide_eq_true rfl]
 walk_at "zz"
 rw [QT]
 have E2:(bif o.isSome then (wO (.int (wv gn p.1)) (U7 o)).bind JZ else .ok false)=.ok false:=by
  cases o with
  |none=>rfl
  |some b =>
   have:=ho b rfl
   show (R.ok (cr (decide (wv gn p.1<b)))).bind JZ=_
   rw [decide_eq_false (by omega)]
   rfl
 simp only [wO,Gq] at E2
 walk_at "zz"
 rw [E2]
 walk_at "zz"
 rw [QS e]
 walk_at "zz"
 rw [O0]
 walk_at "zz"
 rw [it]
 walk_at "zz"
 rw [if_pos (by omega)]
 rw [eE _ (fun q:List Str×Int=>aC q.1) (fun q=>b_ q.2) (fun q=>decide (wv gn q.1=wv gn p.1)) n fun q hq=>oU (by
  walk_at "zz"
  rw [wk (by omega)]
  walk_at "zz"
  rw [jz]
  walk_at "zz") fun _=>by
   walk_at "zz"
   rw [ixr q hq]]
 walk_at "zz"
 rw [show ((n.filter fun q=>decide (wv gn q.1=wv gn p.1)).map fun q=>b_ q.2)=(((n.filter fun q=>decide (wv gn q.1=wv gn p.1)).map (·.2))).map .int by rw [cx];rfl,Og ne2,<- far]
 walk_at "zz"
 rw [jz]
 rw [decide_eq_true rfl]
 walk_at "zz"
 rw [hlead]
 walk_at "zz"
 rw [EG]
 walk_at "zz"
 rw [xT]
 walk_at "zz"
 rw [IT]
 walk_at "zz"
 rw [wk (by omega)]
 walk_at "zz"
 rw [jz]
 rw [decide_eq_true rfl]
 walk_at "zz"
 rw [decide_eq_false (by omega)]
 walk_at "zz"
theorem law_true (ns:List Int):F_law [.list (ns.map .int)]=.ok (.bool true):=by
 obtain ⟨fs,es,ss,wm,wb,hc,gb,gs,gw,fl⟩:=QD ns 6 6 (by decide) (by decide) (by decide) (by decide)
 have fl:=gb.rise.len
 have nf:=ja gb.rise.up
 obtain ⟨gn,hg,gg⟩:=Kn ns 300 (by decide) fs fl
 have ll:gn.length<=6:=by have:=gg.sub.length_le;rw [ao] at this;omega
 obtain ⟨n,nd,few,hk,P,e⟩:=Km gb gs
 obtain ⟨l,⟨hb,hn⟩,e1⟩:=O8 gb gs
 obtain ⟨p0,b0,r0⟩:=vj (m:=0) gb gs nf fl gg (by decide) (by decide) hb hn e1
 obtain ⟨p1,b1,r1⟩:=vj (m:=1) gb gs nf fl gg (by decide) (by decide) hb hn e1
 obtain ⟨p2,b2,r2⟩:=vj (m:=2) gb gs nf fl gg (by decide) (by decide) hb hn e1
 obtain ⟨p4,b4,r4⟩:=vj (m:=4) gb gs nf fl gg (by decide) (by decide) hb hn e1
 obtain ⟨p6,b6,r6⟩:=vj (m:=64) gb gs nf fl gg (by decide) (by decide) hb hn e1
 have m1:=b0.mono b1 (by decide)
 have m2:=b1.mono b2 (by decide)
 have m4:=b2.mono b4 (by decide)
 have m6:=b4.mono b6 (by decide)
 have t0:=vk gb gs ll hb hn P nd hk few b0 r0 (.list (ns.map .int)) (sk wm wb) none (fun b h=>nomatch h) .no .no
 have t1:=vk gb gs ll hb hn P nd hk few b1 r1 (.list (ns.map .int)) (sk wm wb) (some (wv gn p0.1)) (fun b h=>by cases h;exact m1) (.shr (.int (wv gn p0.1))) (.shr (nz p0.2))
 have t2:=vk gb gs ll hb hn P nd hk few b2 r2 (.list (ns.map .int)) (sk wm wb) (some (wv gn p1.1)) (fun b h=>by cases h;exact m2) (.shr (.int (wv gn p1.1))) (.shr (nz p1.2))
 have t4:=vk gb gs ll hb hn P nd hk few b4 r4 (.list (ns.map .int)) (sk wm wb) (some (wv gn p2.1)) (fun b h=>by cases h;exact m4) (.shr (.int (wv gn p2.1))) (.shr (nz p2.2))
 have t6:=vk gb gs ll hb hn P nd hk few b6 r6 (.list (ns.map .int)) (sk wm wb) (some (wv gn p4.1)) (fun b h=>by cases h;exact m6) (.shr (.int (wv gn p4.1))) (.shr (nz p4.2))
 unfold F_law
 refine cn ?_
 rw [Ko]
 unfold bF
 walk_at "zz"
 rw [hc]
 walk_at "zz"
 rw [show N1 (li 3 (cw (bN 1) (cw (bN 2) (cw (bN 3) mz)))) [Sl.shr (.list (ns.map .int)),.no,.no,.no,.no,.no,.no,.no,.no,.no] (.tuple [dQ fs es,aC ss,sk wm wb])=.ok (.nx [Sl.shr (.list (ns.map .int)),.shr (dQ fs es),.shr (aC ss),.shr (sk wm wb),.no,.no,.no,.no,.no,.no]) from rfl]
 walk_at "zz"
 rw [NL]
 walk_at "zz"
 rw [hg]
 walk_at "zz"
 rw [e]
 walk_at "zz"
 rw [pZ (ds:=[.int 0,.int 1,.int 2,.int 4,.int 64])]
 ·rw [lC rfl t0,lC rfl t1,lC rfl t2,lC rfl t4,lC rfl t6]
  rfl
 ·walk_at "zz"
end Z
end
namespace Z
open PySem L2 J
section
def top (i:Nat):cP:=PySem.Challenge.pw_errands_k26_whole_gain.main.body.getD i (.Pass ⟨0,0,0,0⟩)
section
variable {e:En}
abbrev lD:cP:=top 12
abbrev vm:List Str:=["one","other"]
theorem Ai:bw vm ["one","other"] (aw lD):=dm (by decide +kernel)
abbrev pv (e:En):=FN e "share_none" 1 2 fQ
theorem Aj (D:fS e.K e.mg "share_none" lD) (B:Bi e.mg):pv e:=nw (k:=0) (g:=jt) D Ai b2 fun _ _ _ _ _ _ _ hr=>by unfold jt;exact (aH (bz (Mh (bI (Mp rfl) rfl B.any yc (br (JE.bor (JN.je (eD (N':=["fact","other"]) (ix:=[1]) 1 (by decide) rfl (bR (so:=aw lD) (N:=vm) (by decide +kernel)) (e_ (aj 0)) (fun cl A0 s0 H0 ex pn=>⟨cb (i:=0) (by show (["fact","other"] : List Str).Nodup;decide +kernel) rfl (.inl rfl),fE,(oO (wP) (aj 0) (aj 1))⟩)))) bM)))))
abbrev rO:cP:=top 13
abbrev Bt:List Str:=["facts","others"]
theorem GT:bw Bt ["facts","others"] (aw rO):=dm (by decide +kernel)
abbrev Bu (e:En):=FN e "without" 1 2 ro
theorem GU (D:fS e.K e.mg "without" rO) (B:Bi e.mg):Bu e:=nw (k:=0) (g:=rn) D GT b2 fun _ _ _ _ _ _ _ hr=>by unfold rn;exact (aH (bz (eM (il rfl) rfl B.tuple aZ (br (JE.bor (JN.je (eD (N':=["fact","others"]) (ix:=[1]) 1 (by decide) rfl (bR (so:=aw rO) (N:=Bt) (by decide +kernel)) (e_ (aj 0)) (fun cl A0 s0 H0 ex pn=>⟨cb (i:=0) (by show (["fact","others"] : List Str).Nodup;decide +kernel) rfl (.inl rfl),(jq (cD (yy) (aj 0) (aj 1))),(al 0)⟩)))) bM))))
abbrev zf:cP:=top 14
abbrev Oh:List Str:=["one","other"]
theorem Kp:bw Oh ["one","other"] (aw zf):=dm (by decide +kernel)
abbrev EV (e:En):=FN e "joined" 1 2 v5
theorem Kq (D:fS e.K e.mg "joined" zf) (B:Bi e.mg):EV e:=nw (k:=0) (g:=v4) D Kp b2 fun _ _ _ _ _ _ _ hr=>by unfold v4;exact (aH (bz (eM (il rfl) rfl B.tuple aZ (br (JE.bor (tK rfl (To (Cg rfl (aj 0) rfl B.set) (Cg rfl (aj 1) rfl B.set)) rfl B.sorted)) bM))))
abbrev rP:cP:=top 15
abbrev Bv:List Str:=["thing"]
theorem GV:bw Bv ["thing"] (aw rP):=dm (by decide +kernel)
abbrev wl (e:En):=FN e "is_word" 1 1 nY
theorem GW (D:fS e.K e.mg "is_word" rP) (B:Bi e.mg) (md:Cn e.mg "MOST_LETTERS" 6):wl e:=nw (k:=0) (g:=rq) D GV b1 fun _ _ _ _ _ _ _ hr=>by unfold rq;exact (ay (eA (JW.t (nV (eY (eO (kX (aj 0) rfl B.isinstance rfl B.str nK (by decide)))) (jM (eY (My (uR) (uR) (JE.bor aA) (JE.bor (bI fY rfl B.len bC (br (aj 0) bM))) (JE.bor (kz rfl md))))))) (aH (bz ku)) cc) (aH (bz (bI (nq rfl) rfl B.all cm (br (JE.bor (JN.je (eD (N':=["sign"]) (ix:=[]) 1 (by decide) rfl (bR (so:=aw rP) (N:=Bv) (by decide +kernel)) (e_ (aj 0)) (fun cl A0 s0 H0 ex pn=>⟨cb (i:=0) (by show (["sign"] : List Str).Nodup;decide +kernel) rfl (.inl rfl),fE,(E4 (uR) (uR) (JE.bor oN) (aj 0) (JE.bor oN))⟩)))) bM)))))
abbrev fA:cP:=top 16
abbrev j5:List Str:=["thing"]
theorem sr:bw j5 ["thing"] (aw fA):=dm (by decide +kernel)
abbrev j6 (e:En):=FN e "are_rising_words" 2 1 fw
theorem su (D:fS e.K e.mg "are_rising_words" fA) (B:Bi e.mg) (lL:wl e):j6 e:=nw (k:=1) (g:=gM) D sr b1 fun _ _ _ _ _ _ _ hr=>by unfold gM;exact (ay (eA (JW.t (nV (eY (eO (kX (aj 0) rfl B.isinstance rfl B.tuple aZ (by decide)))) (jM (eY (eO (bI (nq rfl) rfl B.all cm (br (JE.bor (JN.je (eD (N':=["word"]) (ix:=[]) 1 (by decide) rfl (bR (so:=aw fA) (N:=j5) (by decide +kernel)) (e_ (aj 0)) (fun cl A0 s0 H0 ex pn=>⟨cb (i:=0) (by show (["word"] : List Str).Nodup;decide +kernel) rfl (.inl rfl),fE,(jc lL hr dh (ae (al 0) aE))⟩)))) bM))))))) (aH (bz ku)) cc) (aH (bz (bI (nq rfl) rfl B.all cm (br (JE.bor (JN.je (eD (N':=["low","high"]) (ix:=[]) 2 (by decide) rfl (bR (so:=aw fA) (N:=j5) (by decide +kernel)) (Mt.i (P_ rfl B.zip (ae (al 0) (ae (qA (aj 0) (rh aA) xM) aE)))) (fun cl A0 s0 H0 ex pn=>⟨vR rfl (ii (cb (i:=0) (by show (["low","high"] : List Str).Nodup;decide +kernel) rfl (.inl rfl)) (ii (cb (i:=1) (by show (["low","high"] : List Str).Nodup;decide +kernel) rfl (.inl rfl)) qZ)),fE,(oO (uQ) (aj 0) (aj 1))⟩)))) bM)))))
abbrev mW:cP:=top 17
abbrev wS:List Str:=["book_facts","thing"]
theorem CI:bw wS ["book_facts","thing"] (aw mW):=dm (by decide +kernel)
abbrev qK (e:En):=FN e "are_facts" 3 2 j9
theorem CJ (D:fS e.K e.mg "are_facts" mW) (B:Bi e.mg) (ev:j6 e):qK e:=nw (k:=2) (g:=mK) D CI b2 fun _ _ _ _ _ _ _ hr=>by unfold mK;exact (aH (bz (vZ (jc ev hr px (ae (al 1) aE)) (yw (bI (nq rfl) rfl B.all cm (br (JE.bor (JN.je (eD (N':=["fact","book_facts"]) (ix:=[0]) 1 (by decide) rfl (bR (so:=aw mW) (N:=wS) (by decide +kernel)) (e_ (aj 1)) (fun cl A0 s0 H0 ex pn=>⟨cb (i:=0) (by show (["fact","book_facts"] : List Str).Nodup;decide +kernel) rfl (.inl rfl),fE,(oO (wP) (aj 0) (aj 1))⟩)))) bM))))))
abbrev tR:cP:=top 18
abbrev GX:List Str:=["thing","least","most"]
theorem EW:bw GX ["thing","least","most"] (aw tR):=dm (by decide +kernel)
abbrev pw (e:En):=FN e "is_whole" 1 3 jR
theorem EX (D:fS e.K e.mg "is_whole" tR) (B:Bi e.mg):pw e:=nw (k:=0) (g:=oX) D EW b3 fun _ _ _ _ _ _ _ hr=>by unfold oX;exact (ay (eA (JW.t (nV (eY (eO (kX (aj 0) rfl B.isinstance rfl B.int PyProof.Rows.boot_int (by decide)))) (jM (eO (kX (aj 0) rfl B.isinstance rfl B.bool PyProof.Rows.boot_bool (by decide)))))) (aH (bz ku)) cc) (aH (bz (E4 (uR) (uR) (aj 1) (aj 0) (aj 2)))))
abbrev mX:cP:=top 19
abbrev wT:List Str:=["book_facts","thing","name","needs","bars","makes","ends","price"]
theorem gN:bw wT ["book_facts","thing"] (aw mX):=dm (by decide +kernel)
abbrev wU (e:En):=FN e "is_errand" 4 2 mM
theorem CK (D:fS e.K e.mg "is_errand" mX) (B:Bi e.mg) (lL:wl e) (gO:pw e) (jb:qK e) (gP:pv e) (pz:Cn e.mg "MOST_PRICE" 9):wU e:=nw (k:=3) (g:=mL) D gN b2 fun _ _ _ _ _ _ _ hr=>by have hu64:=hr.units;unfold mL;exact (ay (eA (JW.t (nV (eY (eO (kX (aj 1) rfl B.isinstance rfl B.tuple aZ (by decide)))) (jM (cD (wN hu64) (JE.bor (bI fY rfl B.len bC (br (aj 1) bM))) (JE.bor aA))))) (aH (bz ku)) cc) (ay (yA (al 1) (oQ rfl (cW (cG 2 gN.nd) (cW (cG 3 gN.nd) (cW (cG 4 gN.nd) (cW (cG 5 gN.nd) (cW (cG 6 gN.nd) (cW (cG 7 gN.nd) le)))))))) (ay (eA (JW.t (nV (eY (eO (jc lL hr px (ae (al 2) aE)))) (jM (eY (eO (jc gO hr px (ae (al 7) (ae aA (ae (kz rfl pz) aE))))))))) (aH (bz ku)) cc) (ay (eA (eY (eO (bI (nq rfl) rfl B.all cm (br (JE.bor (JN.je (eD (N':=["facts","book_facts"]) (ix:=[0]) 1 (by decide) rfl (bR (so:=aw mX) (N:=wT) (by decide +kernel)) (e_ (JE.bor (jN (ae (al 3) (ae (al 4) (ae (al 5) (ae (al 6) aE))))))) (fun cl A0 s0 H0 ex pn=>⟨cb (i:=0) (by show (["facts","book_facts"] : List Str).Nodup;decide +kernel) rfl (.inl rfl),fE,(jc jb hr dh (ae (al 1) (ae (al 0) aE)))⟩)))) bM)))) (aH (bz ku)) cc) (aH (bz (vZ (jc gP hr px (ae (al 3) (ae (al 4) aE))) (yw (jc gP hr px (ae (al 5) (ae (al 6) aE)))))))))))
abbrev o8:cP:=top 20
abbrev wn:List Str:=["thing","facts","errands"]
theorem tS:bw wn ["thing"] (aw o8):=dm (by decide +kernel)
abbrev Bw (e:En):=FN e "is_book" 5 1 rA
theorem GY (D:fS e.K e.mg "is_book" o8) (B:Bi e.mg) (ev:j6 e) (qL:wU e) (pA:Cn e.mg "MOST_FACTS" 6) (mf:Cn e.mg "MOST_ERRANDS" 6):Bw e:=nw (k:=4) (g:=rz) D tS b1 fun _ _ _ _ _ _ _ hr=>by have hu1:=ij hr;have hu64:=hr.units;unfold rz;exact (ay (eA (JW.t (nV (eY (eO (kX (aj 0) rfl B.isinstance rfl B.tuple aZ (by decide)))) (jM (cD (wN hu64) (JE.bor (bI fY rfl B.len bC (br (aj 0) bM))) (JE.bor aA))))) (aH (bz ku)) cc) (ay (yA (al 0) (oQ rfl (cW (cG 1 tS.nd) (cW (cG 2 tS.nd) le)))) (ay (eA (JW.t (nV (eY (eO (jc ev hr px (ae (al 1) aE)))) (jM (cD (DQ) (JE.bor (bI fY rfl B.len bC (br (aj 1) bM))) (JE.bor (kz rfl pA)))))) (aH (bz ku)) cc) (ay (eA (JW.t (nV (eY (eO (kX (aj 2) rfl B.isinstance rfl B.tuple aZ (by decide)))) (jM (cD (DQ) (JE.bor (bI fY rfl B.len bC (br (aj 2) bM))) (JE.bor (kz rfl mf)))))) (aH (bz ku)) cc) (ay (eA (eY (eO (bI (nq rfl) rfl B.all cm (br (JE.bor (JN.je (eD (N':=["errand","facts"]) (ix:=[1]) 1 (by decide) rfl (bR (so:=aw o8) (N:=wn) (by decide +kernel)) (e_ (aj 2)) (fun cl A0 s0 H0 ex pn=>⟨cb (i:=0) (by show (["errand","facts"] : List Str).Nodup;decide +kernel) rfl (.inl rfl),fE,(jc qL hr dh (ae (al 1) (ae (al 0) aE)))⟩)))) bM)))) (aH (bz ku)) cc) (aH (bz (oO (wM hu64) (JE.bor (B0 (E5 (N':=["errand"]) (ix:=[]) 1 (by decide) rfl (bR (so:=aw o8) (N:=wn) (by decide +kernel)) (e_ (aj 2)) (fun cl A0 s0 H0 ex pn=>⟨cb (i:=0) (by show (["errand"] : List Str).Nodup;decide +kernel) rfl (.inl rfl),fE,(c7 hu1 (aj 0) (JE.bor aA))⟩)) rfl B.len)) (JE.bor (bI fY rfl B.len bC (br (aj 2) bM)))))))))))
abbrev nA:cP:=top 21
abbrev Ak:List Str:=["book","state"]
theorem zg:bw Ak ["book","state"] (aw nA):=dm (by decide +kernel)
abbrev sM (e:En):=FN e "check_state" 4 2 ka
theorem zh (D:fS e.K e.mg "check_state" nA) (jb:qK e) (wo:ER e "NoState"):sM e:=nw (k:=3) (g:=k9) D zg b2 fun _ _ _ _ _ _ _ hr=>by have hu1:=ij hr;unfold k9;exact (aH (eA (eY (eO (jc jb hr px (ae (c7 hu1 (aj 0) (JE.bor aA)) (ae (al 1) aE))))) (aH (qG wo rfl (ae oN aE))) cc))
abbrev kY:cP:=top 22
abbrev xy:List Str:=["book","name","errand"]
theorem o9:bw xy ["book","name"] (aw kY):=dm (by decide +kernel)
abbrev kZ (e:En):=FN e "errand_called" 1 2 gT
theorem wp (D:fS e.K e.mg "errand_called" kY) (B:Bi e.mg):kZ e:=nw (k:=0) (g:=iW) D o9 b2 fun _ _ _ _ _ _ _ hr=>by have hu1:=ij hr;have hu64:=hr.units;unfold iW;exact (ay (eA (eY (eO (kX (aj 1) rfl B.isinstance rfl B.str nK (by decide)))) (aH (bz tE)) cc) (ay (lR rfl (uT (c7 hu1 (aj 0) (JE.bor aA))) (cG 2 o9.nd) (aH (eA (cD (wM hu64) (JE.bor (c7 hu1 (aj 2) (JE.bor aA))) (aj 1)) (aH (bz (al 2))) cc))) (aH (bz tE))))
abbrev rQ:cP:=top 23
abbrev Bx:List Str:=["state","want","must","bars"]
theorem tT:bw Bx ["state","want"] (aw rQ):=dm (by decide +kernel)
abbrev By (e:En):=FN e "fulfils" 2 2 rF
theorem G_ (D:fS e.K e.mg "fulfils" rQ) (B:Bi e.mg) (gP:pv e):By e:=nw (k:=1) (g:=rE) D tT b2 fun _ _ _ _ _ _ _ hr=>by unfold rE;exact (ay (yA (al 1) (oQ rfl (cW (cG 2 tT.nd) (cW (cG 3 tT.nd) le)))) (aH (bz (vZ (bI (nq rfl) rfl B.all cm (br (JE.bor (JN.je (eD (N':=["fact","state"]) (ix:=[0]) 1 (by decide) rfl (bR (so:=aw rQ) (N:=Bx) (by decide +kernel)) (e_ (aj 2)) (fun cl A0 s0 H0 ex pn=>⟨cb (i:=0) (by show (["fact","state"] : List Str).Nodup;decide +kernel) rfl (.inl rfl),fE,(oO (wP) (aj 0) (aj 1))⟩)))) bM)) (yw (jc gP hr px (ae (al 3) (ae (al 0) aE))))))))
abbrev qM:cP:=top 24
abbrev EY:List Str:=["errand","state"]
theorem CL:bw EY ["errand","state"] (aw qM):=dm (by decide +kernel)
abbrev qN (e:En):=FN e "is_doable" 3 2 gD
theorem CM (D:fS e.K e.mg "is_doable" qM) (wq:By e):qN e:=nw (k:=2) (g:=mO) D CL b2 fun _ _ _ _ _ _ _ hr=>by have hu1:=ij hr;unfold mO;exact (aH (bz (jc wq hr px (ae (al 1) (ae (jN (ae (c7 hu1 (aj 0) (JE.bor aA)) (ae (c7 hu1 (aj 0) (JE.bor aA)) aE))) aE)))))
abbrev mh:cP:=top 25
abbrev zi:List Str:=["errand","state","makes","ends"]
theorem qc:bw zi ["errand","state"] (aw mh):=dm (by decide +kernel)
abbrev mi (e:En):=FN e "state_behind" 2 2 eG
theorem xz (D:fS e.K e.mg "state_behind" mh) (wt:Bu e) (zj:EV e):mi e:=nw (k:=1) (g:=ju) D qc b2 fun _ _ _ _ _ _ _ hr=>by have hu1:=ij hr;unfold ju;exact (ay (Tp 2 3 rfl qc.nd (ae (c7 hu1 (aj 0) (JE.bor aA)) (ae (c7 hu1 (aj 0) (JE.bor aA)) aE))) (aH (bz (jc zj hr px (ae (jc wt hr px (ae (al 1) (ae (al 3) aE))) (ae (al 2) aE))))))
abbrev wu:cP:=top 26
abbrev Kr:List Str:=["book"]
theorem H9:bw Kr ["book"] (aw wu):=dm (by decide +kernel)
abbrev Bz (e:En):=FN e "checked" 6 1 rH
theorem Ha (D:fS e.K e.mg "checked" wu) (ww:Bw e) (zk:ER e "NoBook"):Bz e:=nw (k:=5) (g:=rG) D H9 b1 fun _ _ _ _ _ _ _ hr=>by unfold rG;exact (ay (eA (eY (eO (jc ww hr px (ae (al 0) aE)))) (aH (qG zk rfl (ae oN aE))) cc) (aH (bz (al 0))))
abbrev nB:cP:=top 27
abbrev Al:List Str:=["book","state"]
theorem zm:bw Al ["book","state"] (aw nB):=dm (by decide +kernel)
abbrev nC (e:En):=FN e "check_place" 7 2 iR
theorem zo (D:fS e.K e.mg "check_place" nB) (wx:Bz e) (nD:sM e):nC e:=nw (k:=6) (g:=kc) D zm b2 fun _ _ _ _ _ _ _ hr=>by unfold kc;exact (ay (rm (jc wx hr px (ae (al 0) aE))) (aH (rm (jc nD hr px (ae (al 0) (ae (al 1) aE))))))
abbrev lE:cP:=top 30
abbrev vn:List Str:=["book","state"]
theorem Am:bw vn ["book","state"] (aw lE):=dm (by decide +kernel)
abbrev vo (e:En):=FN e "steps_from" 4 2 jv
theorem An (D:fS e.K e.mg "steps_from" lE) (jd:qN e) (gm:mi e):vo e:=nw (k:=3) (g:=lj) D Am b2 fun _ _ _ _ _ _ _ hr=>by have hu1:=ij hr;unfold lj;exact (aH (bz (JN.je (eD (N':=["errand","state"]) (ix:=[1]) 1 (by decide) rfl (bR (so:=aw lE) (N:=vn) (by decide +kernel)) (e_ (JE.bor (c7 hu1 (aj 0) (JE.bor aA)))) (fun cl A0 s0 H0 ex pn=>⟨cb (i:=0) (by show (["errand","state"] : List Str).Nodup;decide +kernel) rfl (.inl rfl),(jq (eO (jc jd hr dh (ae (al 0) (ae (al 1) aE))))),(jN (ae (al 0) (ae (jc gm hr dh (ae (al 0) (ae (al 1) aE))) aE)))⟩)))))
abbrev pB:cP:=top 31
abbrev CN:List Str:=["book","state","rows","ring","next_ring","at","errand","behind"]
theorem fg:bw CN ["book","state"] (aw pB):=dm (by decide +kernel)
abbrev vp (e:En):=FN e "first_rows" 5 2 jw
theorem Ao (D:fS e.K e.mg "first_rows" pB) (pC:vo e):vp e:=nw (k:=4) (g:=lm) D fg b2 fun _ _ _ _ _ _ _ hr=>by have hu1:=ij hr;unfold lm;exact (ay (jp 2 (Em hu1 (al 1) (lQ aE)) fg.nd) (ay (jp 3 (tH (ae (al 1) aE)) fg.nd) (ay (E1 100000 (Tv (aj 3)) (ay (jp 4 (tH aE) fg.nd) (ay (HZ 3 rfl (cG 5 fg.nd) (aH (lR rfl (uT (jc pC hr dh (ae (al 0) (ae (al 5) aE)))) (oQ rfl (cW (cG 6 fg.nd) (cW (cG 7 fg.nd) le))) (aH (eA (cD (Bb hu1) (aj 7) (aj 2)) (ay (Ek 2 (bL cE (JE.bor (v_ hu1 (aj 2) (aj 5))) (JE.bor (lQ (ae (c7 hu1 (aj 6) (JE.bor aA)) aE)))) (al 7) hu1) (aH (lK 4 (al 7)))) cc))))) (aH (Gy 4 (dU 3 (al 4) fg.nd)))))) (aH (No 2 (bz (al 2)))))))
abbrev pE:cP:=top 32
abbrev CO:List Str:=["most"]
theorem Ap:bw CO ["most"] (aw pE):=dm (by decide +kernel)
abbrev vq (e:En):=FN e "check_most" 2 1 lu
theorem Aq (D:fS e.K e.mg "check_most" pE) (gO:pw e) (tU:ER e "NoNumber") (pG:Cn e.mg "MOST_STEPS" 64):vq e:=nw (k:=1) (g:=lr) D Ap b1 fun _ _ _ _ _ _ _ hr=>by unfold lr;exact (aH (eA (eY (eO (jc gO hr px (ae (al 0) (ae aA (ae (kz rfl pG) aE)))))) (aH (qG tU rfl (ae oN aE))) cc))
abbrev wy:cP:=top 35
abbrev Ks:List Str:=["book","thing","fact","number"]
theorem tV:bw Ks ["book","thing"] (aw wy):=dm (by decide +kernel)
abbrev BA (e:En):=FN e "is_gain" 2 2 rK
theorem Hb (D:fS e.K e.mg "is_gain" wy) (B:Bi e.mg) (gO:pw e) (mY:Cn e.mg "MOST_GAIN" 99):BA e:=nw (k:=1) (g:=rJ) D tV b2 fun _ _ _ _ _ _ _ hr=>by have hu1:=ij hr;have hu64:=hr.units;unfold rJ;exact (ay (eA (JW.t (nV (eY (eO (kX (aj 1) rfl B.isinstance rfl B.tuple aZ (by decide)))) (jM (cD (wN hu64) (JE.bor (bI fY rfl B.len bC (br (aj 1) bM))) (JE.bor aA))))) (aH (bz ku)) cc) (ay (yA (al 1) (oQ rfl (cW (cG 2 tV.nd) (cW (cG 3 tV.nd) le)))) (aH (bz (vZ (kX (aj 2) rfl B.isinstance rfl B.str nK (by decide)) (vZ (oO (wP) (aj 2) (JE.bor (c7 hu1 (aj 0) (JE.bor aA)))) (yw (jc gO hr px (ae (al 3) (ae (Cf (kz rfl mY)) (ae (kz rfl mY) aE)))))))))))
abbrev iS:cP:=top 36
abbrev nE:List Str:=["book","gains"]
theorem zq:bw nE ["book","gains"] (aw iS):=dm (by decide +kernel)
abbrev sO (e:En):=FN e "check_gains" 3 2 kf
theorem zr (D:fS e.K e.mg "check_gains" iS) (B:Bi e.mg) (wz:BA e) (rR:ER e "NoFacts"):sO e:=nw (k:=2) (g:=ke) D zq b2 fun _ _ _ _ _ _ _ hr=>by unfold ke;exact (ay (eA (JW.t (nV (eY (eO (kX (aj 1) rfl B.isinstance rfl B.tuple aZ (by decide)))) (jM (eY (eO (bI (nq rfl) rfl B.all cm (br (JE.bor (JN.je (eD (N':=["gain","book"]) (ix:=[0]) 1 (by decide) rfl (bR (so:=aw iS) (N:=nE) (by decide +kernel)) (e_ (aj 1)) (fun cl A0 s0 H0 ex pn=>⟨cb (i:=0) (by show (["gain","book"] : List Str).Nodup;decide +kernel) rfl (.inl rfl),fE,(jc wz hr dh (ae (al 1) (ae (al 0) aE)))⟩)))) bM))))))) (aH (qG rR rfl (ae oN aE))) cc) (aH (eA (cD (uQ) (JE.bor (B0 (E5 (N':=["fact","number"]) (ix:=[]) 2 (by decide) rfl (bR (so:=aw iS) (N:=nE) (by decide +kernel)) (e_ (aj 1)) (fun cl A0 s0 H0 ex pn=>⟨vR rfl (ii (cb (i:=0) (by show (["fact","number"] : List Str).Nodup;decide +kernel) rfl (.inl rfl)) (ii (cb (i:=1) (by show (["fact","number"] : List Str).Nodup;decide +kernel) rfl (.inl rfl)) qZ)),fE,(al 0)⟩)) rfl B.len)) (JE.bor (bI fY rfl B.len bC (br (aj 1) bM)))) (aH (qG rR rfl (ae oN aE))) cc)))
abbrev xU:cP:=top 37
abbrev IZ:List Str:=["state","gains"]
theorem Oi:bw IZ ["state","gains"] (aw xU):=dm (by decide +kernel)
abbrev CQ (e:En):=FN e "worth" 1 2 rL
theorem Oj (D:fS e.K e.mg "worth" xU) (B:Bi e.mg):CQ e:=nw (k:=0) (g:=xP) D Oi b2 fun _ _ _ _ _ _ _ hr=>by unfold xP;exact (aH (bz (bI (Np rfl) rfl B.sum yd (br (JE.bor (JN.je (eD (N':=["fact","number","state"]) (ix:=[0]) 2 (by decide) rfl (bR (so:=aw xU) (N:=IZ) (by decide +kernel)) (e_ (aj 1)) (fun cl A0 s0 H0 ex pn=>⟨vR rfl (ii (cb (i:=0) (by show (["fact","number","state"] : List Str).Nodup;decide +kernel) rfl (.inl rfl)) (ii (cb (i:=1) (by show (["fact","number","state"] : List Str).Nodup;decide +kernel) rfl (.inl rfl)) qZ)),(jq (cD (wP) (aj 0) (aj 2))),(al 1)⟩)))) bM))))
abbrev im:cP:=top 38
abbrev mj:List Str:=["book","state","gains","most","rows","near","best"]
theorem iZ:bw mj ["book","state","gains","most"] (aw im):=dm (by decide +kernel)
abbrev ml (e:En):=FN e "best_reached" 8 4 eI
theorem xA {cd P:ak} (D:Wk e.K e.mg "best_reached" im cd P) (B:Bi e.mg) (gW:nC e) (nF:sO e) (pH:vq e) (pI:vp e) (rT:CQ e):ml e:=Y9 (k:=7) (g:=jx) D iZ b4 fun _ _ _ _ _ _ hr=>by have hu1:=ij hr;unfold jx;exact (ay (rm (jc gW hr px (ae (al 0) (ae (al 1) aE)))) (ay (rm (jc nF hr px (ae (al 0) (ae (al 2) aE)))) (ay (rm (jc pH hr px (ae (al 3) aE))) (ay (dU 4 (jc pI hr px (ae (al 0) (ae (al 1) aE))) iZ.nd) (ay (jQ 5 (N':=["at","rows","most"]) (ix:=[4,3]) 1 (by decide) iZ.nd rfl (bR (so:=aw im) (N:=mj) (by decide +kernel)) (Cm (aj 4)) (fun cl A0 s0 H0 ex pn=>⟨cb (i:=0) (by show (["at","rows","most"] : List Str).Nodup;decide +kernel) rfl (.inl rfl),(jq (cD (uR) (JE.bor (bI fY rfl B.len bC (br (JE.bor (v_ hu1 (aj 1) (aj 0))) bM))) (aj 2))),(al 0)⟩)) (ay (dU 6 (Qp (N':=["at","gains"]) (ix:=[2]) (pr:="at") rfl (br (aj 5) bM) rfl B.max (Nx (so:=aw im) (N:=mj) (by decide +kernel)) D.cd hr rfl rfl rfl (fun _ _ _ _ _=>rfl) (fun cl f0 c0 s0 H0=>have hr:=i_.lam hr _;(jc rT hr dh (ae (al 0) (ae (al 1) aE))))) iZ.nd) (aH (bz (jN (ae (al 6) (ae (v_ hu1 (aj 4) (aj 6)) aE)))))))))))
abbrev qO:cP:=top 39
abbrev EZ:List Str:=["book","state","gains","most"]
theorem CS:bw EZ ["book","state","gains","most"] (aw qO):=dm (by decide +kernel)
abbrev wV (e:En):=FN e "best_gain" 9 4 kE
theorem CT (D:fS e.K e.mg "best_gain" qO) (gq:ml e) (rT:CQ e):wV e:=nw (k:=8) (g:=mP) D CS b4 fun _ _ _ _ _ _ _ hr=>by have hu1:=ij hr;unfold mP;exact (aH (bz (jc rT hr px (ae (c7 hu1 (JE.bor (jc gq hr px (ae (al 0) (ae (al 1) (ae (al 2) (ae (al 3) aE)))))) (JE.bor aA)) (ae (al 2) aE)))))
abbrev tW:cP:=top 40
abbrev Hc:List Str:=["book","state","gains","most"]
theorem E_:bw Hc ["book","state","gains","most"] (aw tW):=dm (by decide +kernel)
abbrev zt (e:En):=FN e "best_row" 9 4 lT
theorem F1 (D:fS e.K e.mg "best_row" tW) (gq:ml e):zt e:=nw (k:=8) (g:=oY) D E_ b4 fun _ _ _ _ _ _ _ hr=>by have hu1:=ij hr;unfold oY;exact (aH (bz (c7 hu1 (JE.bor (jc gq hr px (ae (al 0) (ae (al 1) (ae (al 2) (ae (al 3) aE)))))) (JE.bor aA))))
abbrev vt:cP:=top 43
abbrev F2:List Str:=["book","thing"]
theorem Ku:bw F2 ["book","thing"] (aw vt):=dm (by decide +kernel)
abbrev F3 (e:En):=FN e "is_row" 2 2 v7
theorem Kv (D:fS e.K e.mg "is_row" vt) (B:Bi e.mg) (fL:kZ e) (nG:Cn e.mg "MOST_IN_ROW" 64):F3 e:=nw (k:=1) (g:=v6) D Ku b2 fun _ _ _ _ _ _ _ hr=>by unfold v6;exact (ay (eA (JW.t (nV (eY (eO (kX (aj 1) rfl B.isinstance rfl B.list iV (by decide)))) (jM (cD (DQ) (JE.bor (bI fY rfl B.len bC (br (aj 1) bM))) (JE.bor (kz rfl nG)))))) (aH (bz ku)) cc) (aH (bz (bI (nq rfl) rfl B.all cm (br (JE.bor (JN.je (eD (N':=["name","book"]) (ix:=[0]) 1 (by decide) rfl (bR (so:=aw vt) (N:=F2) (by decide +kernel)) (e_ (aj 1)) (fun cl A0 s0 H0 ex pn=>⟨cb (i:=0) (by show (["name","book"] : List Str).Nodup;decide +kernel) rfl (.inl rfl),fE,(oO (yx) (JE.bor (jc fL hr dh (ae (al 1) (ae (al 0) aE)))) (JE.bor tE))⟩)))) bM)))))
abbrev lF:cP:=top 44
abbrev vv:List Str:=["book","row"]
theorem Ar:bw vv ["book","row"] (aw lF):=dm (by decide +kernel)
abbrev vw (e:En):=FN e "errands_of" 3 2 lw
theorem As (D:fS e.K e.mg "errands_of" lF) (zu:F3 e) (fL:kZ e):vw e:=nw (k:=2) (g:=lv) D Ar b2 fun _ _ _ _ _ _ _ hr=>by unfold lv;exact (ay (eA (eY (eO (jc zu hr px (ae (al 0) (ae (al 1) aE))))) (aH Ej) cc) (aH (bz (JN.je (eD (N':=["name","book"]) (ix:=[0]) 1 (by decide) rfl (bR (so:=aw lF) (N:=vv) (by decide +kernel)) (e_ (aj 1)) (fun cl A0 s0 H0 ex pn=>⟨cb (i:=0) (by show (["name","book"] : List Str).Nodup;decide +kernel) rfl (.inl rfl),fE,(jc fL hr dh (ae (al 1) (ae (al 0) aE)))⟩))))))
abbrev jV:cP:=top 45
abbrev wA:List Str:=["errands","state","states","errand"]
theorem jB:bw wA ["errands","state"] (aw jV):=dm (by decide +kernel)
abbrev og (e:En):=FN e "states_through" 4 2 iB
theorem vy (D:fS e.K e.mg "states_through" jV) (jd:qN e) (gm:mi e):og e:=nw (k:=3) (g:=iA) D jB b2 fun _ _ _ _ _ _ _ hr=>by have hu1:=ij hr;unfold iA;exact (ay (jp 2 (tH (ae (al 1) aE)) jB.nd) (ay (HZ 0 rfl (cG 3 jB.nd) (ay (eA (eY (eO (jc jd hr dh (ae (al 3) (ae (c7 hu1 (aj 2) (JE.bor (Cf aA))) aE))))) (aH (bz (al 2))) cc) (aH (lK 2 (jc gm hr dh (ae (al 3) (ae (c7 hu1 (aj 2) (JE.bor (Cf aA))) aE))))))) (aH (bz (al 2)))))
abbrev CU:cP:=top 46
abbrev QU:List Str:=["book","state","row","errands","states"]
theorem zv:bw QU ["book","state","row"] (aw CU):=dm (by decide +kernel)
abbrev I_ (e:En):=FN e "leads" 8 3 rM
theorem Ol (D:fS e.K e.mg "leads" CU) (B:Bi e.mg) (gW:nC e) (pJ:vw e) (jW:og e):I_ e:=nw (k:=7) (g:=xQ) D zv b3 fun _ _ _ _ _ _ _ hr=>by unfold xQ;exact (ay (rm (jc gW hr px (ae (al 0) (ae (al 1) aE)))) (ay (dU 3 (jc pJ hr px (ae (al 0) (ae (al 2) aE))) zv.nd) (ay (dU 4 (jc jW hr px (ae (al 3) (ae (al 1) aE))) zv.nd) (ay (eA (cD (uR) (JE.bor (bI fY rfl B.len bC (br (aj 4) bM))) (JE.bor (bI fY rfl B.len bC (br (aj 3) bM)))) (aH Ej) cc) (aH (bz (al 4)))))))
abbrev nH:cP:=top 48
abbrev At:List Str:=["_law_script","_law_k"]
theorem zw:bw At ["_law_script","_law_k"] (aw nH):=dm (by decide +kernel)
abbrev sP (e:En):=FN e "_law_cell_at" 1 2 kh
theorem zx (D:fS e.K e.mg "_law_cell_at" nH) (B:Bi e.mg):sP e:=nw (k:=0) (g:=kg) D zw b2 fun _ _ _ _ _ _ _ hr=>by have hu1:=ij hr;have hu64:=hr.units;unfold kg;exact (ay (eA (cD (uQ) (aj 1) (JE.bor (bI fY rfl B.len bC (br (aj 0) bM)))) (aH (bz (c7 hu1 (aj 0) (aj 1)))) cc) (ay (eA (cD (wM hu64) (aj 0) (JE.bor (lQ aE))) (aH (bz aA)) cc) (aH (bz (bL cE (JE.bor (bL nl (JE.bor (c7 hu1 (aj 0) (JE.bor (bL C5 (aj 1) (JE.bor (bI fY rfl B.len bC (br (aj 0) bM))))))) (JE.bor aA))) (aj 1))))))
abbrev qP:cP:=top 49
abbrev F4:List Str:=["_law_script","_law_k","_law_many","_law_drawn"]
theorem vz:bw F4 ["_law_script","_law_k","_law_many"] (aw qP):=dm (by decide +kernel)
abbrev fh (e:En):=FN e "_law_mixed" 2 3 bi
theorem CV (D:fS e.K e.mg "_law_mixed" qP) (nJ:sP e):fh e:=nw (k:=1) (g:=mQ) D vz b3 fun _ _ _ _ _ _ _ hr=>by unfold mQ;exact (ay (dU 3 (bL C5 (JE.bor (bL nl (JE.bor (bL cE (JE.bor (bL cE (JE.bor (jc nJ hr px (ae (al 0) (ae (al 1) aE)))) (JE.bor (bL nl (JE.bor aA) (aj 1))))) (JE.bor aA))) (JE.bor aA))) (JE.bor aA)) vz.nd) (aH (bz (bL C5 (JE.bor (bL C5 (JE.bor (bL cE (JE.bor (bL cE (JE.bor (bL nl (aj 3) (aj 3))) (JE.bor (bL nl (JE.bor aA) (aj 3))))) (aj 1))) (JE.bor aA))) (aj 2)))))
abbrev tX:cP:=top 50
abbrev Hd:List Str:=["_law_script","_law_at","_law_made","_law_k"]
theorem mZ:bw Hd ["_law_script","_law_at"] (aw tX):=dm (by decide +kernel)
abbrev tY (e:En):=FN e "_law_word" 3 2 jS
theorem F5 (D:fS e.K e.mg "_law_word" tX) (B:Bi e.mg) (aV:fh e):tY e:=nw (k:=2) (g:=oZ) D mZ b2 fun _ _ _ _ _ _ _ hr=>by have hu1:=ij hr;unfold oZ;exact (ay (dU 2 oN mZ.nd) (ay (lR rfl (tG rfl B.range (br (JE.bor (c7 hu1 (JE.bor (lQ (ae aA (ae aA (ae aA (ae aA (ae aA (ae aA aE)))))))) (JE.bor (jc aV hr dh (ae (al 0) (ae (al 1) (ae aA aE))))))) bM)) (cG 3 mZ.nd) (aH (dU 2 (bL cE (aj 2) (JE.bor (c7 hu1 (JE.bor oN) (JE.bor (jc aV hr dh (ae (al 0) (ae (bL cE (JE.bor (bL cE (aj 1) (JE.bor aA))) (aj 3)) (ae aA aE)))))))) mZ.nd))) (aH (bz (al 2)))))
abbrev qQ:cP:=top 51
abbrev F6:List Str:=["_law_script","_law_at","_law_most","_law_found","_law_k"]
theorem pK:bw F6 ["_law_script","_law_at","_law_most"] (aw qQ):=dm (by decide +kernel)
abbrev wW (e:En):=FN e "_law_facts" 4 3 mS
theorem CW (D:fS e.K e.mg "_law_facts" qQ) (B:Bi e.mg) (jX:tY e) (aV:fh e):wW e:=nw (k:=3) (g:=mR) D pK b3 fun _ _ _ _ _ _ _ hr=>by have hu1:=ij hr;unfold mR;exact (ay (jp 3 HW pK.nd) (ay (lR rfl (tG rfl B.range (br (JE.bor (jc aV hr dh (ae (al 0) (ae (al 1) (ae (bL cE (aj 2) (JE.bor aA)) aE))))) bM)) (cG 4 pK.nd) (aH (H_ 3 ku (jc jX hr dh (ae (al 0) (ae (bL cE (JE.bor (bL cE (aj 1) (JE.bor aA))) (JE.bor (bL nl (JE.bor aA) (aj 4)))) aE))) hu1))) (aH (bz (eM (il rfl) rfl B.tuple aZ (br (JE.bor (bI JR rfl B.sorted wG (br (JE.bor (eM (yH rfl) rfl B.list iV (br (aj 3) bM))) bM))) bM))))))
abbrev pM:cP:=top 52
abbrev zy:List Str:=["_law_script","_law_at","_law_facts_here","_law_part"]
theorem F7:bw zy ["_law_script","_law_at","_law_facts_here","_law_part"] (aw pM):=dm (by decide +kernel)
abbrev zz (e:En):=FN e "_law_some" 3 4 p7
theorem F8 (D:fS e.K e.mg "_law_some" pM) (B:Bi e.mg) (aV:fh e):zz e:=nw (k:=2) (g:=o_) D F7 b4 fun _ _ _ _ _ _ _ hr=>by unfold o_;exact (aH (bz (eM (il rfl) rfl B.tuple aZ (br (JE.bor (JN.je (eD (N':=["_law_k","_law_fact","_law_script","_law_at","_law_part"]) (ix:=[0,1,3]) 2 (by decide) rfl (bR (so:=aw pM) (N:=zy) (by decide +kernel)) (Mt.i (uU rfl B.enumerate (ae (al 2) aE))) (fun cl A0 s0 H0 ex pn=>⟨vR rfl (ii (cb (i:=0) (by show (["_law_k","_law_fact","_law_script","_law_at","_law_part"] : List Str).Nodup;decide +kernel) rfl (.inl rfl)) (ii (cb (i:=1) (by show (["_law_k","_law_fact","_law_script","_law_at","_law_part"] : List Str).Nodup;decide +kernel) rfl (.inl rfl)) qZ)),(jq (cD (uQ) (JE.bor (jc aV hr dh (ae (al 2) (ae (bL cE (aj 3) (aj 0)) (ae aA aE))))) (aj 4))),(al 1)⟩)))) bM))))
abbrev jY:cP:=top 53
abbrev pO:List Str:=["_law_script","_law_at","_law_facts_here","_law_name","_law_one","_law_two","_law_goal","_law_needs","_law_bars","_law_ends","_law_parts"]
theorem gE:bw pO ["_law_script","_law_at","_law_facts_here","_law_name"] (aw jY):=dm (by decide +kernel)
abbrev zA (e:En):=FN e "_law_thin" 3 4 pd
theorem F9 (D:fS e.K e.mg "_law_thin" jY) (B:Bi e.mg) (aV:fh e):zA e:=nw (k:=2) (g:=pc) D gE b4 fun _ _ _ _ _ _ _ hr=>by have hu1:=ij hr;have hu64:=hr.units;unfold pc;exact (ay (dU 4 (c7 hu1 (aj 2) (JE.bor (jc aV hr px (ae (al 0) (ae (bL cE (aj 1) (JE.bor aA)) (ae (bI fY rfl B.len bC (br (aj 2) bM)) aE)))))) gE.nd) (ay (dU 5 (c7 hu1 (aj 2) (JE.bor (jc aV hr px (ae (al 0) (ae (bL cE (aj 1) (JE.bor aA)) (ae (bI fY rfl B.len bC (br (aj 2) bM)) aE)))))) gE.nd) (ay (dU 6 (c7 hu1 (aj 2) (JE.bor (jc aV hr px (ae (al 0) (ae (bL cE (aj 1) (JE.bor aA)) (ae (bI fY rfl B.len bC (br (aj 2) bM)) aE)))))) gE.nd) (ay (dU 7 (qA (JE.bor (lQ (ae (al 4) (ae (al 5) aE)))) xM (rh (bL cE (JE.bor aA) (JE.bor (bL PP (JE.bor (jc aV hr px (ae (al 0) (ae (bL cE (aj 1) (JE.bor aA)) (ae aA aE))))) (JE.bor aA)))))) gE.nd) (ay (jQ 8 (N':=["_law_fact","_law_needs","_law_script","_law_at"]) (ix:=[7,0,1]) 1 (by decide) gE.nd rfl (bR (so:=aw jY) (N:=pO) (by decide +kernel)) (e_ (JE.bor (lQ (ae (al 6) aE)))) (fun cl A0 s0 H0 ex pn=>⟨cb (i:=0) (by show (["_law_fact","_law_needs","_law_script","_law_at"] : List Str).Nodup;decide +kernel) rfl (.inl rfl),(jq (JW.t (yv (cD (yy) (aj 0) (aj 1)) (uO (cD (wM hu64) (JE.bor (jc aV hr dh (ae (al 2) (ae (bL cE (aj 3) (JE.bor aA)) (ae aA aE))))) (JE.bor aA)))))),(al 0)⟩)) (ay (jQ 9 (N':=["_law_fact","_law_goal","_law_script","_law_at"]) (ix:=[6,0,1]) 1 (by decide) gE.nd rfl (bR (so:=aw jY) (N:=pO) (by decide +kernel)) (e_ (JE.bor (lQ (ae (al 4) aE)))) (fun cl A0 s0 H0 ex pn=>⟨cb (i:=0) (by show (["_law_fact","_law_goal","_law_script","_law_at"] : List Str).Nodup;decide +kernel) rfl (.inl rfl),(jq (JW.t (yv (cD (wN hu64) (aj 0) (aj 1)) (uO (cD (wM hu64) (JE.bor (jc aV hr dh (ae (al 2) (ae (bL cE (aj 3) (JE.bor aA)) (ae aA aE))))) (JE.bor aA)))))),(al 0)⟩)) (ay (Gy 8 (Gy 9 (jQ 10 (N':=["_law_part"]) (ix:=[]) 1 (by decide) gE.nd rfl (bR (so:=aw jY) (N:=pO) (by decide +kernel)) (e_ (JE.bor (jN (ae (al 7) (ae (al 8) (ae (lQ (ae (al 6) aE)) (ae (al 9) aE))))))) (fun cl A0 s0 H0 ex pn=>⟨cb (i:=0) (by show (["_law_part"] : List Str).Nodup;decide +kernel) rfl (.inl rfl),fE,(eM (il rfl) rfl B.tuple aZ (br (JE.bor (tK rfl (Cg rfl (aj 0) rfl B.set) rfl B.sorted)) bM))⟩)))) (aH (bz (jN (ae (al 3) (ae (c7 hu1 (aj 10) (JE.bor aA)) (ae (c7 hu1 (aj 10) (JE.bor aA)) (ae (c7 hu1 (aj 10) (JE.bor aA)) (ae (c7 hu1 (aj 10) (JE.bor aA)) (ae (jc aV hr px (ae (al 0) (ae (al 1) (ae aA aE)))) aE))))))))))))))))
abbrev lG:cP:=top 54
abbrev vA:List Str:=["_law_script","_law_at","_law_facts_here","_law_name","_law_parts","_law_k","_law_fact","_law_way","_law_some_here"]
theorem g6:bw vA ["_law_script","_law_at","_law_facts_here","_law_name"] (aw lG):=dm (by decide +kernel)
abbrev vB (e:En):=FN e "_law_errand" 4 4 iD
theorem Au (D:fS e.K e.mg "_law_errand" lG) (B:Bi e.mg) (aV:fh e) (tZ:zA e):vB e:=nw (k:=3) (g:=iC) D g6 b4 fun _ _ _ _ _ _ _ hr=>by have hu1:=ij hr;have hu64:=hr.units;unfold iC;exact (ay (eA (JW.t (yv (cD (wN hu64) (aj 2) (JE.bor (jN aE))) (uO (cD (wM hu64) (JE.bor (jc aV hr px (ae (al 0) (ae aA (ae aA aE))))) (JE.bor aA))))) (aH (bz (jc tZ hr px (ae (al 0) (ae (al 1) (ae (al 2) (ae (al 3) aE))))))) cc) (ay (Tf 4 g6.nd) (ay (lR rfl (uU rfl B.enumerate (ae (al 2) aE)) (oQ rfl (cW (cG 5 g6.nd) (cW (cG 6 g6.nd) le))) (ay (dU 7 (jc aV hr dh (ae (al 0) (ae (bL cE (JE.bor (bL cE (aj 1) (JE.bor aA))) (aj 5)) (ae aA aE)))) g6.nd) (ay (eA (cD (uQ) (aj 7) (JE.bor aA)) (aH (yL 4 (c7 hu1 (JE.bor (lQ (ae aA (ae aA (ae aA aE))))) (aj 7)) (al 6))) cc) (ay (dU 7 (jc aV hr dh (ae (al 0) (ae (bL cE (JE.bor (bL cE (aj 1) (JE.bor aA))) (aj 5)) (ae aA aE)))) g6.nd) (aH (eA (cD (uQ) (aj 7) (JE.bor aA)) (aH (yL 4 (c7 hu1 (JE.bor (lQ (ae aA (ae aA (ae aA (ae aA aE)))))) (aj 7)) (al 6))) cc)))))) (ay (Mz (jQ 8 (N':=["_law_part"]) (ix:=[]) 1 (by decide) g6.nd rfl (bR (so:=aw lG) (N:=vA) (by decide +kernel)) (e_ (aj 4)) (fun cl A0 s0 H0 ex pn=>⟨cb (i:=0) (by show (["_law_part"] : List Str).Nodup;decide +kernel) rfl (.inl rfl),fE,(eM (il rfl) rfl B.tuple aZ (br (aj 0) bM))⟩))) (aH (bz (jN (ae (al 3) (ae (c7 hu1 (aj 8) (JE.bor aA)) (ae (c7 hu1 (aj 8) (JE.bor aA)) (ae (c7 hu1 (aj 8) (JE.bor aA)) (ae (c7 hu1 (aj 8) (JE.bor aA)) (ae (jc aV hr px (ae (al 0) (ae (al 1) (ae aA aE)))) aE)))))))))))))
abbrev pP:cP:=top 55
abbrev zB:List Str:=["_law_script","_law_at","_law_most","_law_many","_law_facts_here","_law_made","_law_k","_law_name","_law_names","_law_turn"]
theorem io:bw zB ["_law_script","_law_at","_law_most","_law_many"] (aw pP):=dm (by decide +kernel)
abbrev zC (e:En):=FN e "_law_book" 5 4 lV
theorem Fa (D:fS e.K e.mg "_law_book" pP) (B:Bi e.mg) (qR:wW e) (jX:tY e) (pQ:vB e) (aV:fh e):zC e:=nw (k:=4) (g:=lU) D io b4 fun _ _ _ _ _ _ _ hr=>by have hu1:=ij hr;unfold lU;exact (ay (dU 4 (jc qR hr px (ae (al 0) (ae (al 1) (ae (al 2) aE)))) io.nd) (ay (jp 5 HW io.nd) (ay (lR rfl (tG rfl B.range (br (JE.bor (jc aV hr dh (ae (al 0) (ae (bL cE (aj 1) (JE.bor aA)) (ae (bL cE (aj 3) (JE.bor aA)) aE))))) bM)) (cG 6 io.nd) (ay (dU 7 (jc jX hr dh (ae (al 0) (ae (bL cE (JE.bor (bL cE (aj 1) (JE.bor aA))) (JE.bor (bL nl (JE.bor aA) (aj 6)))) aE))) io.nd) (aH (H_ 5 (jc pQ hr dh (ae (al 0) (ae (bL cE (JE.bor (bL cE (aj 1) (JE.bor aA))) (JE.bor (bL nl (JE.bor aA) (aj 6)))) (ae (al 4) (ae (al 7) aE))))) (al 7) hu1)))) (ay (dU 8 (eM (yH rfl) rfl B.list iV (br (aj 5) bM)) io.nd) (ay (dU 9 (jc aV hr px (ae (al 0) (ae (bL cE (aj 1) (JE.bor aA)) (ae (bL cE (JE.bor (bI fY rfl B.len bC (br (aj 8) bM))) (JE.bor aA)) aE)))) io.nd) (aH (bz (jN (ae (al 4) (ae (eM (il rfl) rfl B.tuple aZ (br (JE.bor (JN.je (eD (N':=["_law_name","_law_made"]) (ix:=[5]) 1 (by decide) rfl (bR (so:=aw pP) (N:=zB) (by decide +kernel)) (e_ (JE.bor (bL cE (JE.bor (qA (aj 8) (rh (al 9)) xM)) (JE.bor (qA (aj 8) xM (rh (al 9))))))) (fun cl A0 s0 H0 ex pn=>⟨cb (i:=0) (by show (["_law_name","_law_made"] : List Str).Nodup;decide +kernel) rfl (.inl rfl),fE,(c7 hu1 (aj 1) (aj 0))⟩)))) bM)) aE))))))))))
abbrev t_:cP:=top 56
abbrev He:List Str:=["_law_script","_law_at","_law_facts_here","_law_must","_law_bars","_law_k","_law_fact","_law_way"]
theorem jf:bw He ["_law_script","_law_at","_law_facts_here"] (aw t_):=dm (by decide +kernel)
abbrev zD (e:En):=FN e "_law_want" 3 3 tM
theorem Fb (D:fS e.K e.mg "_law_want" t_) (B:Bi e.mg) (aV:fh e):zD e:=nw (k:=2) (g:=lW) D jf b3 fun _ _ _ _ _ _ _ hr=>by have hu64:=hr.units;unfold lW;exact (ay (jp 3 (tH aE) jf.nd) (ay (jp 4 (tH aE) jf.nd) (ay (lR rfl (uU rfl B.enumerate (ae (al 2) aE)) (oQ rfl (cW (cG 5 jf.nd) (cW (cG 6 jf.nd) le))) (ay (dU 7 (jc aV hr dh (ae (al 0) (ae (bL cE (aj 1) (aj 5)) (ae aA aE)))) jf.nd) (aH (eA (cD (uQ) (aj 7) (JE.bor aA)) (aH (lK 3 (al 6))) (aH (eA (cD (wM hu64) (aj 7) (JE.bor aA)) (aH (lK 4 (al 6))) cc)))))) (aH (bz (jN (ae (eM (il rfl) rfl B.tuple aZ (br (aj 3) bM)) (ae (eM (il rfl) rfl B.tuple aZ (br (aj 4) bM)) aE))))))))
abbrev u4:cP:=top 57
abbrev Hf:List Str:=["_law_script","_law_most","_law_many","_law_book_here","_law_state"]
theorem qS:bw Hf ["_law_script","_law_most","_law_many"] (aw u4):=dm (by decide +kernel)
abbrev zE (e:En):=FN e "_law_case" 6 3 lX
theorem Fc (D:fS e.K e.mg "_law_case" u4) (u5:zC e) (aV:fh e) (u6:zz e) (u7:zD e):zE e:=nw (k:=5) (g:=ph) D qS b3 fun _ _ _ _ _ _ _ hr=>by have hu1:=ij hr;unfold ph;exact (ay (dU 3 (jc u5 hr px (ae (al 0) (ae aA (ae (al 1) (ae (al 2) aE))))) qS.nd) (ay (dU 4 (jc u6 hr px (ae (al 0) (ae aA (ae (c7 hu1 (aj 3) (JE.bor aA)) (ae (c7 hu1 (JE.bor (lQ (ae aA (ae aA aE)))) (JE.bor (jc aV hr px (ae (al 0) (ae aA (ae aA aE)))))) aE))))) qS.nd) (aH (bz (jN (ae (al 3) (ae (al 4) (ae (jc u7 hr px (ae (al 0) (ae aA (ae (c7 hu1 (aj 3) (JE.bor aA)) aE)))) aE))))))))
abbrev mn:cP:=top 58
abbrev u9:List Str:=["_law_state","_law_want_here"]
theorem Fd:bw u9 ["_law_state","_law_want_here"] (aw mn):=dm (by decide +kernel)
abbrev zF (e:En):=FN e "_law_good" 1 2 pj
theorem Fe (D:fS e.K e.mg "_law_good" mn) (B:Bi e.mg):zF e:=nw (k:=0) (g:=pi) D Fd b2 fun _ _ _ _ _ _ _ hr=>by have hu1:=ij hr;unfold pi;exact (aH (bz (vZ (bI (nq rfl) rfl B.all cm (br (JE.bor (JN.je (eD (N':=["_law_fact","_law_state"]) (ix:=[0]) 1 (by decide) rfl (bR (so:=aw mn) (N:=u9) (by decide +kernel)) (e_ (JE.bor (c7 hu1 (aj 1) (JE.bor aA)))) (fun cl A0 s0 H0 ex pn=>⟨cb (i:=0) (by show (["_law_fact","_law_state"] : List Str).Nodup;decide +kernel) rfl (.inl rfl),fE,(oO (wP) (aj 0) (aj 1))⟩)))) bM)) (yw (Mh (bI (Mp rfl) rfl B.any yc (br (JE.bor (JN.je (eD (N':=["_law_fact","_law_state"]) (ix:=[0]) 1 (by decide) rfl (bR (so:=aw mn) (N:=u9) (by decide +kernel)) (e_ (JE.bor (c7 hu1 (aj 1) (JE.bor aA)))) (fun cl A0 s0 H0 ex pn=>⟨cb (i:=0) (by show (["_law_fact","_law_state"] : List Str).Nodup;decide +kernel) rfl (.inl rfl),fE,(oO (wP) (aj 0) (aj 1))⟩)))) bM)))))))
abbrev pR:cP:=top 59
abbrev zG:List Str:=["_law_errand_here","_law_state","_law_left"]
theorem wX:bw zG ["_law_errand_here","_law_state"] (aw pR):=dm (by decide +kernel)
abbrev zH (e:En):=FN e "_law_step" 2 2 lY
theorem Ff (D:fS e.K e.mg "_law_step" pR) (B:Bi e.mg) (ua:zF e):zH e:=nw (k:=1) (g:=pp) D wX b2 fun _ _ _ _ _ _ _ hr=>by have hu1:=ij hr;unfold pp;exact (ay (eA (eY (eO (jc ua hr px (ae (al 1) (ae (qA (aj 0) (rh aA) (rh aA)) aE))))) (aH (bz tE)) cc) (ay (jQ 2 (N':=["_law_fact","_law_errand_here"]) (ix:=[0]) 1 (by decide) wX.nd rfl (bR (so:=aw pR) (N:=zG) (by decide +kernel)) (e_ (aj 1)) (fun cl A0 s0 H0 ex pn=>⟨cb (i:=0) (by show (["_law_fact","_law_errand_here"] : List Str).Nodup;decide +kernel) rfl (.inl rfl),(jq (cD (yy) (aj 0) (JE.bor (c7 hu1 (aj 1) (JE.bor aA))))),(al 0)⟩)) (aH (bz (eM (il rfl) rfl B.tuple aZ (br (JE.bor (tK rfl (Cg rfl (JE.bor (bL cE (aj 2) (JE.bor (eM (yH rfl) rfl B.list iV (br (JE.bor (c7 hu1 (aj 0) (JE.bor aA))) bM))))) rfl B.set) rfl B.sorted)) bM))))))
abbrev pS:cP:=top 60
abbrev CY:List Str:=["_law_book_here","_law_state","_law_met","_law_row","_law_at","_law_errand_here","_law_other"]
theorem g9:bw CY ["_law_book_here","_law_state"] (aw pS):=dm (by decide +kernel)
abbrev vC (e:En):=FN e "_law_levels" 3 2 jy
theorem Av (D:fS e.K e.mg "_law_levels" pS) (B:Bi e.mg) (ub:zH e):vC e:=nw (k:=2) (g:=lz) D g9 b2 fun _ _ _ _ _ _ _ hr=>by have hu1:=ij hr;unfold lz;exact (ay (jp 2 (Em hu1 (al 1) aA) g9.nd) (ay (jp 3 (tH (ae (al 1) aE)) g9.nd) (ay (dU 4 aA g9.nd) (ay (E1 100000 (cD (uQ) (aj 4) (JE.bor (bI fY rfl B.len bC (br (aj 3) bM)))) (ay (lR rfl (uT (c7 hu1 (aj 0) (JE.bor aA))) (cG 5 g9.nd) (ay (dU 6 (jc ub hr dh (ae (al 5) (ae (c7 hu1 (aj 3) (aj 4)) aE))) g9.nd) (aH (eA (JW.t (yv (cD (yx) (aj 6) (JE.bor tE)) (uO (cD (Bb hu1) (aj 6) (aj 2))))) (ay (Ek 2 (bL cE (JE.bor (v_ hu1 (aj 2) (JE.bor (c7 hu1 (aj 3) (aj 4))))) (JE.bor aA)) (al 6) hu1) (aH (lK 3 (al 6)))) cc)))) (aH (dU 4 (bL cE (aj 4) (JE.bor aA)) g9.nd)))) (aH (No 2 (bz (al 2))))))))
abbrev qT:cP:=top 61
abbrev Fg:List Str:=["_law_script","_law_at","_law_facts_here","_law_made","_law_k","_law_fact"]
theorem lH:bw Fg ["_law_script","_law_at","_law_facts_here"] (aw qT):=dm (by decide +kernel)
abbrev wY (e:En):=FN e "_law_gains" 3 3 mT
theorem CZ (D:fS e.K e.mg "_law_gains" qT) (B:Bi e.mg) (aV:fh e):wY e:=nw (k:=2) (g:=kF) D lH b3 fun _ _ _ _ _ _ _ hr=>by unfold kF;exact (ay (jp 3 (tH aE) lH.nd) (ay (lR rfl (uU rfl B.enumerate (ae (al 2) aE)) (oQ rfl (cW (cG 4 lH.nd) (cW (cG 5 lH.nd) le))) (aH (eA (cD (DQ) (JE.bor (jc aV hr dh (ae (al 0) (ae (bL cE (aj 1) (JE.bor (bL nl (JE.bor aA) (aj 4)))) (ae aA aE))))) (JE.bor aA)) (aH (lK 3 (jN (ae (al 5) (ae (bL T9 (JE.bor (jc aV hr dh (ae (al 0) (ae (bL cE (JE.bor (bL cE (aj 1) (JE.bor (bL nl (JE.bor aA) (aj 4))))) (JE.bor aA)) (ae aA aE))))) (JE.bor aA)) aE))))) cc))) (aH (bz (eM (il rfl) rfl B.tuple aZ (br (aj 3) bM))))))
abbrev m_:cP:=top 62
abbrev wZ:List Str:=["_law_gains_here","_law_state"]
theorem C_:bw wZ ["_law_gains_here","_law_state"] (aw m_):=dm (by decide +kernel)
abbrev w_ (e:En):=FN e "_law_worth" 1 2 fR
theorem D0 (D:fS e.K e.mg "_law_worth" m_) (B:Bi e.mg):w_ e:=nw (k:=0) (g:=mU) D C_ b2 fun _ _ _ _ _ _ _ hr=>by unfold mU;exact (aH (bz (bI (Np rfl) rfl B.sum yd (br (JE.bor (JN.je (eD (N':=["_law_fact","_law_number","_law_state"]) (ix:=[1]) 2 (by decide) rfl (bR (so:=aw m_) (N:=wZ) (by decide +kernel)) (e_ (aj 0)) (fun cl A0 s0 H0 ex pn=>⟨vR rfl (ii (cb (i:=0) (by show (["_law_fact","_law_number","_law_state"] : List Str).Nodup;decide +kernel) rfl (.inl rfl)) (ii (cb (i:=1) (by show (["_law_fact","_law_number","_law_state"] : List Str).Nodup;decide +kernel) rfl (.inl rfl)) qZ)),(jq (cD (wP) (aj 0) (aj 2))),(al 1)⟩)))) bM))))
abbrev sQ:cP:=top 63
abbrev Om:List Str:=["_law_script","_law_book_here","_law_state","_law_want_here","_law_gains_here","_law_met","_law_before","_law_most","_law_due","_law_row"]
theorem mo:bw Om ["_law_script"] (aw sQ):=dm (by decide +kernel)
theorem U8 {f:ak}{fd:eK} (F:Gc e.K "law" "law" sQ f fd) (B:Bi e.mg) (uc:zE e) (qU:wY e) (pT:vC e) (kJ:w_ e) (qV:wV e) (ud:zt e) (D1:I_ e):sf e.P e.w e.K e.mg e.base (oJ e.P e.w) 10 f fd ["_law_script"] (Rs e.K e.cls 1 F_law):=by
 refine Ru (k:=9) (g:=IF) F mo fun cdv A outer s H E hr=>?_
 have hu1:=ij hr
 have hu64:=hr.units
 unfold IF
 exact (ay (yA (jc uc hr px (ae (al 0) (ae aA (ae aA aE)))) (oQ rfl (cW (cG 1 mo.nd) (cW (cG 2 mo.nd) (cW (cG 3 mo.nd) le))))) (ay (dU 4 (jc qU hr px (ae (al 0) (ae aA (ae (c7 hu1 (aj 1) (JE.bor aA)) aE)))) mo.nd) (ay (dU 5 (jc pT hr px (ae (al 1) (ae (al 2) aE))) mo.nd) (ay (dU 6 tE mo.nd) (ay (lR rfl (uT (jN (ae aA (ae aA (ae aA (ae aA (ae aA aE))))))) (cG 7 mo.nd) (ay (dU 8 (bI (TD rfl) rfl B.max yb (br (JE.bor (JN.je (eD (N':=["_law_one","_law_met","_law_most","_law_gains_here"]) (ix:=[5,7,4]) 1 (by decide) rfl (bR (so:=aw sQ) (N:=Om) (by decide +kernel)) (Cm (aj 5)) (fun cl A0 s0 H0 ex pn=>⟨cb (i:=0) (by show (["_law_one","_law_met","_law_most","_law_gains_here"] : List Str).Nodup;decide +kernel) rfl (.inl rfl),(jq (cD (uR) (JE.bor (v_ hu1 (aj 1) (aj 0))) (aj 2))),(jc kJ hr dh (ae (al 3) (ae (al 0) aE)))⟩)))) bM)) mo.nd) (ay (eA (JW.t (nV (cD (wN hu64) (JE.bor (jc qV hr dh (ae (al 1) (ae (al 2) (ae (al 4) (ae (al 7) aE)))))) (aj 8)) (jM (JW.t (yv (cD (yx) (aj 6) (JE.bor tE)) (uO (cD (uQ) (aj 8) (aj 6)))))))) (aH (bz ku)) cc) (ay (dU 6 (al 8) mo.nd) (ay (dU 9 (jc ud hr dh (ae (al 1) (ae (al 2) (ae (al 4) (ae (al 7) aE))))) mo.nd) (ay (eA (cD (wN hu64) (JE.bor (bI fY rfl B.len bC (br (aj 9) bM))) (JE.bor (bI (Tw rfl) rfl B.min PyProof.Rows.boot_min (br (JE.bor (JN.je (eD (N':=["_law_one","_law_gains_here","_law_due","_law_met"]) (ix:=[4,8,5]) 1 (by decide) rfl (bR (so:=aw sQ) (N:=Om) (by decide +kernel)) (Cm (aj 5)) (fun cl A0 s0 H0 ex pn=>⟨cb (i:=0) (by show (["_law_one","_law_gains_here","_law_due","_law_met"] : List Str).Nodup;decide +kernel) rfl (.inl rfl),(jq (cD (wM hu64) (JE.bor (jc kJ hr dh (ae (al 1) (ae (al 0) aE)))) (aj 2))),(v_ hu1 (aj 3) (aj 0))⟩)))) bM)))) (aH (bz ku)) cc) (aH (eA (JW.t (nV (cD (wN hu64) (JE.bor (jc kJ hr dh (ae (al 4) (ae (c7 hu1 (JE.bor (jc D1 hr dh (ae (al 1) (ae (al 2) (ae (al 9) aE))))) (JE.bor (Cf aA))) aE)))) (aj 8)) (jM (cD (DQ) (JE.bor (bI fY rfl B.len bC (br (aj 9) bM))) (aj 7))))) (aH (bz ku)) cc)))))))) (aH (bz ku)))))))
end
end
section
theorem all_mk {l:xg}{w:bn}{K:a8}{h:bE}{mg:Str->Option af}{fa A:ak}{BB:ak}{Fh:ak}{zI:ak}{BC:ak}{cdL pL:ak}{od an:Option ak}{sl:Array (Option af)}{oc kV dc pm cv ct:af} (X:K.In h) (G:h.Ns bt mg) (hfa:mg "law"=some (.ref fa))
  (Zz:Zs K zn)
  (md:Cn mg "MOST_LETTERS" 6)
  (pz:Cn mg "MOST_PRICE" 9)
  (pA:Cn mg "MOST_FACTS" 6)
  (mf:Cn mg "MOST_ERRANDS" 6)
  (pG:Cn mg "MOST_STEPS" 64)
  (mY:Cn mg "MOST_GAIN" 99)
  (nG:Cn mg "MOST_IN_ROW" 64)
  (Kw:TopC K "NoState" BB)
  (On:TopC K "NoBook" Fh)
  (Hg:TopC K "NoNumber" zI)
  (Kx:TopC K "NoFacts" BC)
  (D2:fS K mg "share_none" lD)
  (Ky:fS K mg "without" rO)
  (Oo:fS K mg "joined" zf)
  (Kz:fS K mg "is_word" rP)
  (ue:fS K mg "are_rising_words" fA)
  (Fi:fS K mg "are_facts" mW)
  (Hh:fS K mg "is_whole" tR)
  (Fj:fS K mg "is_errand" mX)
  (KA:fS K mg "is_book" o8)
  (Aw:fS K mg "check_state" nA)
  (xB:fS K mg "errand_called" kY)
  (KB:fS K mg "fulfils" rQ)
  (Fk:fS K mg "is_doable" qM)
  (zJ:fS K mg "state_behind" mh)
  (KC:fS K mg "checked" wu)
  (Ax:fS K mg "check_place" nB)
  (D3:fS K mg "steps_from" lE)
  (D4:fS K mg "first_rows" pB)
  (D5:fS K mg "check_most" pE)
  (KD:fS K mg "is_gain" wy)
  (Ay:fS K mg "check_gains" iS)
  (QV:fS K mg "worth" xU)
  (zK:Wk K mg "best_reached" im cdL pL)
  (Fm:fS K mg "best_gain" qO)
  (Hj:fS K mg "best_row" tW)
  (Op:fS K mg "is_row" vt)
  (D6:fS K mg "errands_of" lF)
  (wB:fS K mg "states_through" jV)
  (QW:fS K mg "leads" CU)
  (Az:fS K mg "_law_cell_at" nH)
  (Fo:fS K mg "_law_mixed" qP)
  (Hk:fS K mg "_law_word" tX)
  (Fp:fS K mg "_law_facts" qQ)
  (Hl:fS K mg "_law_some" pM)
  (Hm:fS K mg "_law_thin" jY)
  (D7:fS K mg "_law_errand" lG)
  (Ho:fS K mg "_law_book" pP)
  (Hq:fS K mg "_law_want" t_)
  (Hr:fS K mg "_law_case" u4)
  (Ht:fS K mg "_law_good" mn)
  (Hu:fS K mg "_law_step" pR)
  (D8:fS K mg "_law_levels" pS)
  (Fq:fS K mg "_law_gains" qT)
  (Ft:fS K mg "_law_worth" m_)
  (l0:eX K bt "law"=some (some (.ref A)))
  (l1:K.lookup A=some ⟨oc,od,.func (dY "law" "law" (iy sQ) (fD sQ) (aw sQ) .none kV dc pm an cv ct),sl⟩)
  (l2:dA K cv "law"=true)
  (l3:dX K (.ref A)=true)
  : ∃ fd:eK,(∀ (s:ai) (v:af),zR s fd ⟨[v],[]⟩ [("_law_script",v)])/\∀ base:bE,K.In base->base.Ns bt mg->sf l.prog w K mg base (oJ l.prog w) 10 fa fd ["_law_script"] (Vf K F_law):=by
 have q:=hfa.symm.trans (k7 X G l0)
 cases q
 refine ⟨dY "law" "law" (iy sQ) (fD sQ) (aw sQ) .none kV dc pm an cv ct,fun s v=>.of_eq rfl,fun base X G=>?_⟩
 let e:En:=⟨l.prog,w,K,mg,base,Vg [("NoState",BB),("NoBook",Fh),("NoNumber",zI),("NoFacts",BC)]⟩
 have B:Bi e.mg:=Vz X G Zz
 have wo:ER e "NoState":=Kw.er X G rfl
 have zk:ER e "NoBook":=On.er X G rfl
 have tU:ER e "NoNumber":=Hg.er X G rfl
 have rR:ER e "NoFacts":=Kx.er X G rfl
 have gP:=Aj (e:=e) D2 B
 have wt:=GU (e:=e) Ky B
 have zj:=Kq (e:=e) Oo B
 have lL:=GW (e:=e) Kz B md
 have ev:=su (e:=e) ue B lL
 have jb:=CJ (e:=e) Fi B ev
 have gO:=EX (e:=e) Hh B
 have qL:=CK (e:=e) Fj B lL gO jb gP pz
 have ww:=GY (e:=e) KA B ev qL pA mf
 have nD:=zh (e:=e) Aw jb wo
 have fL:=wp (e:=e) xB B
 have wq:=G_ (e:=e) KB B gP
 have jd:=CM (e:=e) Fk wq
 have gm:=xz (e:=e) zJ wt zj
 have wx:=Ha (e:=e) KC ww zk
 have gW:=zo (e:=e) Ax wx nD
 have pC:=An (e:=e) D3 jd gm
 have pI:=Ao (e:=e) D4 pC
 have pH:=Aq (e:=e) D5 gO tU pG
 have wz:=Hb (e:=e) KD B gO mY
 have nF:=zr (e:=e) Ay B wz rR
 have rT:=Oj (e:=e) QV B
 have gq:=xA (e:=e) zK B gW nF pH pI rT
 have qV:=CT (e:=e) Fm gq rT
 have ud:=F1 (e:=e) Hj gq
 have zu:=Kv (e:=e) Op B fL nG
 have pJ:=As (e:=e) D6 zu fL
 have jW:=vy (e:=e) wB jd gm
 have D1:=Ol (e:=e) QW B gW pJ jW
 have nJ:=zx (e:=e) Az B
 have aV:=CV (e:=e) Fo nJ
 have jX:=F5 (e:=e) Hk B aV
 have qR:=CW (e:=e) Fp B jX aV
 have u6:=F8 (e:=e) Hl B aV
 have tZ:=F9 (e:=e) Hm B aV
 have pQ:=Au (e:=e) D7 B aV tZ
 have u5:=Fa (e:=e) Ho B qR jX pQ aV
 have u7:=Fb (e:=e) Hq B aV
 have uc:=Fc (e:=e) Hr u5 aV u6 u7
 have ua:=Fe (e:=e) Ht B
 have ub:=Ff (e:=e) Hu B ua
 have pT:=Av (e:=e) D8 B ub
 have qU:=CZ (e:=e) Fq B aV
 have kJ:=D0 (e:=e) Ft B
 exact (U8 (e:=e) (Gd l1 l2 l3) B uc qU pT kJ qV ud D1).imp Th
end
end Z
section
open PySem PySem.W PyProof.Rows
namespace PySem.W.Fast
def tw11699112788797207247:Nat:=0
def tw1470101822125668751:Nat:=0
def tw2453935429200018073:Nat:=0
def tw4797177680601690068:Nat:=0
def tw4144264568867998282:Nat:=0
def tw8815234689743763664:Nat:=0
def tw3927118336483873563:Nat:=0
def tw3654763100369813733:Nat:=0
def tw12836740922639025319:Nat:=0
def tw9134882121220059871:Nat:=0
def tw4604959918389298993:Nat:=0
def tw10224958704240174478:Nat:=0
def tw16265957246525707346:Nat:=0
def tw979783473037520451:Nat:=0
def tw3276900937149025774:Nat:=0
def tw2482085897347257614:Nat:=0
def tw16915595040076841181:Nat:=0
def tw10990641289121763833:Nat:=0
def tw7131040177359286064:Nat:=0
def tw13802558985147944469:Nat:=0
def tw1062181668552315714:Nat:=0
def tw13792526975864339776:Nat:=0
def tw12839929630442360433:Nat:=0
def tw4919669654471006275:Nat:=0
def tw10278234843536422096:Nat:=0
def tw12148704852938951961:Nat:=0
def tw2923902136311845141:Nat:=0
def tw11738344132712477570:Nat:=0
def tw15627587396755969401:Nat:=0
def tw10299202017229253276:Nat:=0
def tw16463717863806843828:Nat:=0
def tw6436728016633554420:Nat:=0
def tw14188582663143419214:Nat:=0
def tw6733005169010376602:Nat:=0
def tw14146638866310290791:Nat:=0
def tw18361155698638114111:Nat:=0
def tw15954816191606314656:Nat:=0
def tw7009464754711104427:Nat:=0
def tw14715119567076463924:Nat:=0
def tw4713767788715603654:Nat:=0
def tw15746136597435131836:Nat:=0
def tw15755498417909500114:Nat:=0
def tw1155417882114981062:Nat:=0
def tw11859817688367524052:Nat:=0
def tw13045342342704082084:Nat:=0
def tw13420317343125125011:Nat:=0
def tw15071192446875725296:Nat:=0
def tw11671421352262175278:Nat:=0
def tw5291987945979425005:Nat:=0
def tw14576436409427726242:Nat:=0
def tw16793907610022119822:Nat:=0
def tw16238750153185915607:Nat:=0
def tw5769137033801639450:Nat:=0
def tw11668318251444628092:Nat:=0
def tw4623858050265822777:Nat:=0
def tw15073475240739907059:Nat:=0
def tw2076716005307405216:Nat:=0
def tw9986190917121015589:Nat:=0
def tw15546725976558088807:Nat:=0
def tw5614607235911134885:Nat:=0
def tw7699911355399081382:Nat:=0
def tw6522063069265982849:Nat:=0
def tw10347912988244687363:Nat:=0
def tw17838851973037547833:Nat:=0
def tw164923397480398515:Nat:=0
def tw15378247017502309386:Nat:=0
def tw8292160024072528985:Nat:=0
def tw16033213763378151684:Nat:=0
def tw8282410525906745793:Nat:=0
def tw12106771145361672040:Nat:=0
def tw7998127273546140277:Nat:=0
def tw301998302894902858:Nat:=0
def tw9690668916085239107:Nat:=0
def tw9467838093645435170:Nat:=0
def tw16214843389078265811:Nat:=0
def tw1502747549564691211:Nat:=0
def tw17114925389678528790:Nat:=0
def tw15070247839836152256:Nat:=0
def tw12478006495429509396:Nat:=0
def tw11825201574905912476:Nat:=0
def tw9497048837026118158:Nat:=0
def tw240436640738650871:Nat:=0
def tw8092788149494781213:Nat:=0
def tw3932349151353792172:Nat:=0
def tw5559970211721023738:Nat:=0
def tw1173240614186302962:Nat:=0
def tw10780399466030294490:Nat:=0
def tw745198281160997231:Nat:=0
def tw1770140469028349844:Nat:=0
def tw201205272762285853:Nat:=0
def tw15053602010880841870:Nat:=0
def tw13380263371507309327:Nat:=0
def tw8863223412651475039:Nat:=0
def tw7522339606213298985:Nat:=0
def tw13289562227497993947:Nat:=0
def tw1064339875022396412:Nat:=0
def tw1169258702171554579:Nat:=0
def tw3894484074270816219:Nat:=0
def tw9578568797236952168:Nat:=0
def tw3146898061388209272:Nat:=0
def tw11966654357756221328:Nat:=0
def tw12634770112955851431:Nat:=0
def tw16627224906432229216:Nat:=0
def tw3654020640167946670:Nat:=0
def tw16166791886524672333:Nat:=0
def tw8892876346833520687:Nat:=0
def tw12048608428734822579:Nat:=0
def tw9758896628449711833:Nat:=0
def tw5759178460805595512:Nat:=0
def tw12709593699602589259:Nat:=0
def tw10242075065994755450:Nat:=0
def tw1752911893983499795:Nat:=0
def tw10408520200623719989:Nat:=0
def tw9710609777669906821:Nat:=0
def tw13292824915391926399:Nat:=0
def tw7610873091686138622:Nat:=0
def tw17009044801234309123:Nat:=0
def tw2416489835199850216:Nat:=0
def tw15842956659672557024:Nat:=0
def tw13344928301209984212:Nat:=0
def tw15257123651601412885:Nat:=0
def tw675727419380646381:Nat:=0
def tw3379462036897434120:Nat:=0
def tw4988821631302645777:Nat:=0
end PySem.W.Fast
theorem PySem.Challenge.cw_errands_k26_whole_gain_holds : PySem.Challenge.rw_errands_k26_whole_gain.Holds := by
 w_on;o_law;k_head;(case hw=>w_witness2)
 k_fill
 refine J.walkF (l:=PySem.Challenge.rw_errands_k26_whole_gain) (k:=10) (x:="_law_script") (F0:=Z.F_law) rfl rfl ⟨rfl,by decide,by decide⟩ 231 229 "best_reached" (fun w h Y=>PySem.W.km_in_of Y) (fun w h Y=>PySem.W.km_tabs_of Y _ (by decide)) (fun w=>by kernel_rfl) ?F (fun ns _=>Z.law_true ns)
 case F =>
  intro w mg fa h KX G hmg
  refine' Z.all_mk KX G hmg ?_ ?_ ?_ ?_ ?_ ?_ ?_ ?_ ?_ ?_ ?_ ?_ ?_ ?_ ?_ ?_ ?_ ?_ ?_ ?_ ?_ ?_ ?_ ?_ ?_ ?_ ?_ ?_ ?_ ?_ ?_ ?_ ?_ ?_ ?_ ?_ ?_ ?_ ?_ ?_ ?_ ?_ ?_ ?_ ?_ ?_ ?_ ?_ ?_ ?_ ?_ ?_ ?_ ?_ ?_ ?_ ?_ ?_ ?_ ?_
  all_goals first
   |(refine' J.d_in KX G ?_ ?_ ?_ ?_<;>try k_is)
   |(refine' J.d_inl (cd:=231) (P:=229) KX G ?_ ?_ ?_ ?_ ?_ ?_<;>first|k_is|kernel_rfl|skip)
   |(refine' J.cn_in KX G ?_<;>try k_is)
   |k_is
   |(refine' J.TopC.mk ?_ ?_ ?_<;>try (first|k_is|k_exc))
   |(refine' J.topN ?_ ?_ ?_ ?_ ?_ ?_ ?_ ?_ ?_ ?_ ?_ ?_ ?_ ?_ ?_ ?_ ?_ ?_ ?_ ?_ ?_ ?_ ?_<;>try (first|k_is|rfl|exact fun _ _=>⟨_,rfl,rfl⟩|decide +kernel))
   |((refine' J.Wy.mk ?_ ?_ ?_ ?_ ?_ ?_ ?_ ?_ ?_ ?_)<;>try (first|k_is|decide|((repeat' (first|exact .nil|refine' .cons ?_ ?_ ?_))<;>try (first|k_is|decide))))
   |((repeat' (first|exact .nil|refine' .cons ?_ ?_))<;>try (first|(refine' J.cw_in ?_ ?_ ?_<;>try k_is)|k_is))
   |skip
end
